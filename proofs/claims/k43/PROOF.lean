import PyProof.Rows.All
import Wide.All
import OpenK.AllK
import Wide.FinOn
import Lean
import PyProof.EqAt
import PyProof.EqKinds
import PyProof.TupleCall
import PyProof.WalksMore
import PyProof.SetScanFacts
import PyProof.Logic
import PyProof.FactsBase
import PyProof.TableTree
import PyProof.FactsTree
import PyProof.PlainAttrs
import PyProof.DictWalks
import PyProof.SetKind
import PyProof.ForAny
import PyProof.FactsAll.set_1
import PyProof.CollectWalk
import PyProof.WalkLemmas
import PyProof.FactsAll.set_2
import PyProof.Walk
import PyProof.Rows.SortStr
import KE.KRevIter
import KE.KDictList
import KE.KDictLaws
import PyProof.FString
import OpenK.KTop
import PyProof.StrLawsTight
import PyProof.Rows.StrLawsPart
import KE.KIntText
import PyProof.Rows.StrSplitJoin
import PyProof.ZipIter
import KE.IntTextLaws
import KE.KDictOf
import PyProof.AttrMissHeap
import PyProof.EnumMake
import PyProof.EnumFor
import PyProof.Draws
import PyProof.DictItems
import KE.KPairComp
import KE.KSortTup
import PyProof.Rows.SortWalk
import PySem.Challenge.RW_layersplit_k43_whole_who_is_in_stays
set_option Elab.async false
set_option linter.all false
set_option maxRecDepth 100000
set_option compiler.extract_closed false
def a_:=@PySem.wpAny_bind
def b_:=@List.length_map
def c_:=@PySem.Heap.get?_push_of_some
def d_:=@List.getElem?_eq_some_iff
def e_:=@PySem.wpAny_pure
def f_:=@Nat.le_refl
def g_:=@List.mem_of_getElem?
def h_:=@List.getElem?_eq_getElem
def i_:=@List.getElem?_map
def j_:=@PySem.Heap.get?_push_size
def k_:=@List.length_append
def lm:=@List.mem_cons_of_mem
def l_:=@if_neg
def me:=@List.map_append
def mo:=@if_pos
def mu:=@Int.natCast_nonneg
def m3:=@List.mem_iff_getElem?
def m_:=@List.mem_cons_self
def nk:=@PySem.sizeLine_eq
def np:=@PySem.Heap.lt_size
def nB:=@Option.some.inj
def n7:=@Nat.le_trans
def n_:=@List.size_toArray
def oa:=@Bool.false_ne_true
def oi:=@List.mem_map
def ol:=@decide_eq_true
def op:=@decide_eq_false
def ot:=@Nat.ne_of_lt
def ov:=@of_decide_eq_true
def oD:=@List.take_of_length_le
def o0:=@Array.length_toList
def o8:=@List.length_take
def o_:=@Nat.zero_le
def pa:=@Bool.and_eq_true
def pu:=@List.map_cons
def pv:=@Nat.lt_of_lt_of_le
def pw:=@List.length_cons
def p_:=@List.getElem?_eq_none
def qq:=@PySem.PassesOwn.never
def qr:=@Nat.ne_of_gt
def q_:=@List.nodup_append
def rb:=@Ne.symm
def rd:=@List.mem_append_right
def ri:=@PySem.wpAny_holding
def rk:=@PySem.wpAny_call_entry
def rl:=@List.not_mem_nil
def rm:=@PySem.Heap.size_push
def ro:=@List.take_append_drop
def rr:=@PySem.wpAny_callSpecial?_slot
def ry:=@PySem.wpAny_newObj_type
def rV:=@Nat.succ_pos
def r3:=@Nat.le_succ_of_le
def r4:=@List.length_range
def r_:=@List.getElem?_set_ne
def sf:=@Int.toNat_natCast
def sg:=@Nat.lt_of_le_of_lt
def sm:=@Nat.lt_irrefl
def so:=@Nat.le_succ
def sD:=@PySem.wpAny_setField_rec
def sT:=@Sum.inr.inj
def s_:=@PySem.wpAny_truthy_bool
def th:=@List.mem_append_left
def to:=@List.getD_eq_getElem?_getD
def tx:=@PySem.Calls.spliced_cons
def tA:=@List.mem_cons
def t4:=@List.find?_cons
def t6:=@Int.natCast_pos
def t8:=@Nat.succ_le_succ
def t_:=@List.getElem_mem
def u_:=@PySem.Calls.callWith_builtin
def vl:=@List.replicate_succ
def vr:=@PySem.Heap.get?_update_self
def vu:=@Array.getElem?_toList
def v_:=@PySem.wpAny_ite_split
def wh:=@PySem.wpAny_field
def wr:=@Nat.lt_succ_self
def w_:=@congrArg
def x_:=@List.take_add_one
def yl:=@List.mem_range
def y2:=@PySem.Heap.get?_update_other
def y3:=@List.length_set
def y_:=@List.getElem?_append_left
def z3:=@Array.getElem?_eq_getElem
def z4:=@List.length_filter_le
def z7:=@PySem.wpAny_Call_Name_kw
def z8:=@Option.isSome_iff_exists
def z_:=@Nat.le_of_lt
def A_:=@List.map_map
def B_:=@PySem.wpAny_seqItems
def C2:=@PySem.Calls.evalArgs_plain
def C_:=@List.ext_getElem?
def D_:=@PySem.Calls.spliced_nil
def Es:=@PySem.wpAny_rule
def E1:=@List.foldl_cons
def E2:=@List.append_nil
def E_:=@Int.toNat_of_nonneg
def F_:=@PyProof.Rows.callWith_type1
def G_:=@List.mem_or_eq_of_mem_set
def Ha:=@PySem.wpAny_dictEpoch
def H_:=@Nat.lt_trans
def I_:=@Nat.lt_succ_of_lt
def J_:=@List.any_cons
def K_:=@beq_eq_false_iff_ne
def L6:=@List.filterMap_cons
def L7:=@PySem.Heap.SameBut.update
def L8:=@List.mem_reverse
def L9:=@List.length_drop
def L_:=@PySem.tupleKind_room_in1
def Ma:=@PySem.codeAny_mono
def Mb:=@PySem.call_meetsIn
def Mc:=@List.getElem?_set_self
def Md:=@List.length_replicate
def Me:=@List.filterMap_append
def Mg:=@PySem.wpAny_setState_of
def Mh:=@List.foldl_append
def Mi:=@List.flatten_cons
def Mj:=@or_false
def Ml:=@Nat.pow_le_pow_right
def Mm:=@List.take_zero
def Mn:=@List.nodup_iff_pairwise_ne
def Mo:=@List.getElem?_append_right
def Mp:=@PySem.F.slot_tuple_iterator_next
def Mq:=@PySem.Around.under_plainId
def Mr:=@PySem.wpAny_askSetting
def Ms:=@beq_self_eq_true
def Mt:=@Nat.le_of_eq
def Mu:=@List.getElem?_eq_none_iff
def Mv:=@List.map_congr_left
def Mw:=@List.length_filterMap_le
def Mx:=@PySem.codeAny_builtin
def Mz:=@Option.map_some
def MA:=@Int.emod_nonneg
def MB:=@PySem.wpAny_pyIter_tuple
def MC:=@Int.emod_lt_of_pos
def MD:=@Bool.false_eq_true
def ME:=@PySem.wpAny_getItem_str_slice
def MF:=@PySem.wpAny_Call_method
def MG:=@PySem.builtinLookup_eq_fast
def MH:=@Nat.min_le_right
def MI:=@Nat.le_of_not_lt
def MJ:=@PySem.plainId_quiet
def MK:=@List.all_cons
def ML:=@Prod.mk.inj
def MM:=@List.mem_of_mem_take
def MN:=@List.mem_of_mem_drop
def MO:=@PySem.Heap.get?_push_cases
def MP:=@PySem.wpAny_passesOwn
def MQ:=@PySem.wpAny_execs_nil
def MR:=@List.of_mem_zip
def MS:=@List.nodup_cons
def MT:=@PySem.wpAny_setEntries_of
def MU:=@Nat.mul_le_mul_left
def MV:=@List.length_take_le
def MW:=@List.length_reverse
def MX:=@List.nodup_nil
def MY:=@List.filter_append
def MZ:=@Int.fdiv_eq_ediv_of_nonneg
def M0:=@PySem.wpAny_pyIter_list
def M3:=@Option.some.injEq
def M5:=@List.take_sublist
def M6:=@List.getElem?_set
def M7:=@List.getElem?_inj
def M8:=@List.append_assoc
def M9:=@Int.le_refl
def M_:=@PySem.wpAny_attempt
def Na:=@List.getElem?_take_of_lt
def Nb:=@List.filterMap_cons_none
def Nc:=@PySem.AutoSeq1.wpAny_loadPart'
def Nd:=@PySem.wpAny_isInstance
def Nf:=@PySem.wpAny_eqBool_str
def Ng:=@if_false
def Nh:=@Nat.le_max_right
def Ni:=@Nat.le_add_right
def Nj:=@List.lookup_cons
def Nk:=@List.filter_cons
def Nl:=@PyProof.Rows.F.plain_set_update_loop
def Nm:=@Nat.pow_succ
def No:=@Nat.lt_or_ge
def Np:=@List.drop_eq_nil_of_le
def Nq:=@Int.ofNat_le
def Nr:=@PySem.wpAny_specialOf
def Nt:=@PySem.typeLookup_type
def Nu:=@PySem.post_val_or_str
def Nv:=@Nat.not_lt_zero
def Nw:=@Nat.le_max_left
def Nx:=@List.range_succ
def Ny:=@List.mem_append
def Nz:=@List.length_nil
def NA:=@List.forIn_cons
def NB:=@PySem.F.slot_zip_next
def NC:=@Bool.eq_iff_iff
def ND:=@Nat.le_of_ble_eq_true
def NE:=@List.getElem?_toArray
def NF:=@PySem.isSubtype_type
def NG:=@List.Perm.refl
def NH:=@List.map_take
def NI:=@List.map_singleton
def NJ:=@List.getElem?_drop
def NK:=@PySem.wpAny_typeOf
def NL:=@PySem.wpAny_sequenceKey
def NM:=@PySem.wpAny_pyIter_slot
def NN:=@if_true
def NO:=@Option.isSome_map
def NP:=@List.filter_congr
def NQ:=@List.Sublist.refl
def NR:=@Int.ofNat_lt
def NS:=@Int.le_of_lt
def NT:=@Int.emod_eq_of_lt
def NU:=@Array.toList_push
def NV:=@PyProof.Rows.slot_tuple_getitem
def NW:=@PySem.wpAny_forIn_list
def NX:=@PySem.wpAny_execs_cons
def NY:=@List.getElem_map
def NZ:=@List.any_eq_true
def N2:=@List.all_eq_true
def N3:=@PySem.wpAny_updateSeq
def N4:=@Nat.min_le_left
def N5:=@Nat.le_antisymm
def N6:=@Nat.le_add_left
def N7:=@List.cons.injEq
def N8:=@List.Perm.of_eq
def N9:=@PySem.F.args_tuple_iterator_next_1
abbrev N_:=PySem.W.Frag
abbrev Oa:=PySem.Value->PySem.Shared->Prop
abbrev Ob:=List (PySem.Addr×PySem.Obj)
abbrev Oc:=PySem.Str->Option PySem.Value
abbrev Od:=List PySem.Value
abbrev Oe:=PySem.Program
abbrev Of:=List PySem.Str
abbrev Og:=List PySem.Expr
abbrev Oh:=Array PySem.Value
abbrev Oi:=List Nat
abbrev Oj:=List PySem.Addr
abbrev Ol:=List Int
namespace L2
open PySem PySem.Spec PyProof.Rows
abbrev bQ:=Sum Int Str
def nZ:bQ->Value->Bool|.inl k,v=>Value.isInt k v|.inr x,v=>Value.isStrOf x v
def LM(w:World):bQ->Int|.inl k=>hashInt k|.inr x=>hashStr w x
def cK:∀{k:bQ}{v:Value},nZ k v=true->(∃i t,k=Sum.inl i/\v=Value.int i t)\/(∃x t,k=Sum.inr x/\v=Value.str x t)|.inl i,v,h=>by obtain⟨t,e⟩:=Value.isInt_shape (k:=i) (v:=v) h;exact .inl ⟨i,t,rfl,e⟩|.inr x,v,h=>by obtain⟨t,e⟩:=Value.isStrOf_shape (x:=x) (v:=v) h;exact .inr ⟨x,t,rfl,e⟩
def wc(i:Int)(t:Tok):nZ (.inl i) (.int i t)=true:=by simp[nZ,Value.isInt]
def wb(x:Str)(t:Tok):nZ (.inr x) (.str x t)=true:=by simp[nZ,Value.isStrOf]
def Jn(a b:Int):decide ((Sum.inl a:bQ)=Sum.inl b)=(a==b):=by
 by_cases e:a=b
 ·subst e;simp
 ·have h:¬(Sum.inl a:bQ)=Sum.inl b:=λq=>e (Sum.inl.inj q);rw[op h];exact(K_.mpr e).symm
def Jk(a b:Str):decide ((Sum.inr a:bQ)=Sum.inr b)=decide (a=b):=by
 by_cases e:a=b
 ·subst e;simp
 ·have h:¬(Sum.inr a:bQ)=Sum.inr b:=λq=>e (sT q);rw[op h,op e]
def Jm(a:Int)(b:Str):decide ((Sum.inl a:bQ)=Sum.inr b)=false:=op (nofun)
def Jl(a:Str)(b:Int):decide ((Sum.inr a:bQ)=Sum.inl b)=false:=op (nofun)
def aX(prog:Oe)(w:World):PySem.KeyKind prog w bQ where
 is:=nZ
 hash:=LM w
 inj:=λv a b g f=>by
  rcases cK g with⟨i,t,rfl,rfl⟩|⟨x,t,rfl,rfl⟩
  ·rcases cK f with⟨j,u,rfl,e⟩|⟨y,u,rfl,e⟩
   ·injection e with c _;rw[c]
   ·exact nomatch e
  ·rcases cK f with⟨j,u,rfl,e⟩|⟨y,u,rfl,e⟩
   ·exact nomatch e
   ·injection e with c _;rw[c]
 byValue:=λk v h=>by rcases cK h with⟨i,t,rfl,rfl⟩|⟨x,t,rfl,rfl⟩<;>rfl
 pyHash:=λd h=>by
  rcases cK d with⟨i,t,rfl,rfl⟩|⟨x,t,rfl,rfl⟩
  ·exact wpAny_pyHash_int h
  ·exact wpAny_pyHash_str h
 eqBool:=λl d h=>by
  rcases cK l with⟨i,t,rfl,rfl⟩|⟨x,t,rfl,rfl⟩
  ·rcases cK d with⟨j,u,rfl,rfl⟩|⟨y,u,rfl,rfl⟩
   ·rw[Jn]at h;exact wpAny_eqBool_int h
   ·rw[Jm]at h;exact SeqAt.EqAt.int_str i t y u _ _ _ _ h
  ·rcases cK d with⟨j,u,rfl,rfl⟩|⟨y,u,rfl,rfl⟩
   ·rw[Jl]at h;exact SeqAt.EqAt.str_int x t j u _ _ _ _ h
   ·rw[Jk]at h;exact Nf h
 «strs»:=λk x t v h=>by
  rcases cK h with⟨i,u,rfl,e⟩|⟨y,u,rfl,e⟩
  ·exact nomatch e
  ·injection e with c _
   subst c
   cases v<;>rfl
def z9(prog:Oe)(w:World)(k:bQ)(v:Value):(aX prog w).is k v=nZ k v:=rfl
def yP(prog:Oe)(w:World)(i:Int)(t:Tok):(aX prog w).is (.inl i) (.int i t)=true:=wc i t
def rp(prog:Oe)(w:World)(x:Str)(t:Tok):(aX prog w).is (.inr x) (.str x t)=true:=wb x t
end L2
namespace L2
open PySem PySem.Spec PyProof.Rows
inductive V where|non|bl(b:Bool)|int(i:Int)|str(x:Str)|byt(b:Array UInt8)|flt(b:UInt64)|ref(a:Addr)|ty(n:String)deriving DecidableEq
def bd:V->Value->Prop|.non,u=>u=Value.none|.bl b,u=>u=Value.bool b|.int i,u=>∃t,u=Value.int i t|.str x,u=>∃t,u=Value.str x t|.byt b,u=>∃t,u=Value.bytes b t|.flt b,u=>∃t,u=Value.float b t|.ref a,u=>u=Value.ref a|.ty n,u=>u=Value.type n
abbrev bf:List V->List Value->Prop:=Paired bd
theorem bf.length(r:bf a c):a.length=c.length:=Paired.length r
theorem bf.get:∀{a:List V}{c:Od}{i:Nat}{x:V},bf a c->a[i]?=some x->∃u,c[i]?=some u/\bd x u|_,_,_,_,.nil,e=>by simp at e|_,_,0,_,.cons r _,e=>by simp at e;subst e;exact⟨_,rfl,r⟩|_,_,i+1,x,.cons _ t,e=>by obtain⟨u,h1,h2⟩:=bf.get (i:=i) (x:=x) t (by simpa using e);exact⟨u,by simpa using h1,h2⟩
theorem bf.set(r:bd x u):∀{a:List V}{c:Od}(i:Nat),bf a c->bf (a.set i x) (c.set i u)|_,_,_,.nil=>.nil|_,_,0,.cons _ t=>.cons r t|_,_,i+1,.cons q t=>.cons q (bf.set r i t)
theorem bf.append:∀{a c:List V}{d e:Od},bf a d->bf c e->bf (a++c) (d++e)|_,_,_,_,.nil,s=>s|_,_,_,_,.cons r t,s=>.cons r (bf.append t s)
theorem bf.take:∀{a:List V}{c:Od}(n:Nat),bf a c->bf (a.take n) (c.take n)|_,_,0,_=>.nil|_,_,_+1,.nil=>.nil|_,_,n+1,.cons r t=>.cons r (bf.take n t)
theorem bf.drop:∀{a:List V}{c:Od}(n:Nat),bf a c->bf (a.drop n) (c.drop n)|_,_,0,r=>r|_,_,_+1,.nil=>.nil|_,_,n+1,.cons _ t=>bf.drop n t
def jZ:Option V->Option Value->Prop|some v,some u=>bd v u|none,none=>True|_,_=>False
def KV{a:Type}:List (a×V)->List (a×Value)->Prop:=Paired λ(p:a×V)(q:a×Value)=>p.1=q.1/\bd p.2 q.2
def kV:bQ->V|.inl i=>.int i|.inr x=>.str x
inductive HO where|lst(xs:List V)|tup(xs:List V)|dK(kvs:List (bQ×V))|dT(kvs:List (List bQ×V))|set(S:Int->Bool)(n:Nat)|ins(C dx:Addr)(fs:List (Str×V))|own(x:Addr)|xd(fs:List (Str×V))|met(f x:Addr)|rng(lo hi:Int)|frz(o:Obj)(u:HO)|tbl(ps:Oh)|ext(φ:Heap->Prop)
abbrev Hp:=Addr->Option HO
def aI(H:Hp)(a:Addr)(o:HO):Hp:=λb=>if b=a then some o else H b
def ag:aI H a o a=some o:=by unfold aI;rw[mo rfl]
def au(h:b≠a):aI H a o b=H b:=by unfold aI;rw[l_ h]
def gZ:aI (aI H a o) a u=aI H a u:=by funext b;unfold aI;split<;>rfl
def KJ{H:Hp}{a b:Addr}{o u:HO}(h:H a=some o)(h':H b=some u)(d:o≠u):a≠b:=by intro e;subst e;rw[h]at h';exact d (nB h')
def aH{H:Hp}{a b:Addr}{o:HO}(h:H a=some o)(h':H b=none):a≠b:=by intro e;subst e;rw[h]at h';cases h'
section
variable(P:Oe)(w:World)
def du(H:Hp)(h:Heap)(a:Addr):HO->Prop|.lst d=>d.length<=sizeLine/\∃(b:Od)(n:Nat),bf d b/\h.get? a=some {cls:=.type "list",data:=.seq b.toArray n}|.tup d=>d.length<=sizeLine/\∃b:List Value,bf d b/\IsTup h a b.toArray|.dK c=>c.length<=sizeLine/\(a==sysModules)=false/\∃g,KV c g/\h.DictOf (aX P w) a g|.dT c=>c.length<=sizeLine/\(a==sysModules)=false/\∃d:List (List bQ×Addr×Value),Paired (λ(p:List bQ×V)(q:List bQ×Addr×Value)=>p.1=q.1/\H q.2.1=some (.tup (p.1.map kV))/\bd p.2 q.2.2) c d/\∃o i j,h.get? a=some o/\o.ExactDict/\o.data=.dict i j/\i.toList=d.map (entryOfKey (tupleKind (aX P w)))/\(d.map (·.1)).Nodup|.set S n=>h.SetOf (intKind P w) a S n|.ins C dx fs=>H dx=some (.own a)/\fs.length<=1000/\dx≠a/\h.get? a=some (PySem.W.instObj C dx)/\∃e,h.Ns1 dx e/\(∀f,jZ (fs.lookup f) (e f))/\PySem.Within e (fs.map (·.1))|.own _=>∃o,h.get? a=some o|.xd fs=>∃e,h.Ns1 a e/\∀f,jZ (fs.lookup f) (e f)|.rng lo hi=>∃t u v,h.get? a=some {cls:=.type "range",data:=.fields #[.int lo t,.int hi u,.int 1 v]}|.frz o u=>h.get? a=some o/\du H h a u|.tbl k=>h.get? a=some {cls:=.none,data:=.fields k}|.met f x=>h.get? a=some (PySem.W.methodObj (.ref f) (.ref x))|.ext φ=>φ h/\(∃o,h.get? a=some o)/\∀h1 h2:Heap,φ h1->(∀o,h1.get? a=some o->h2.get? a=some o)->φ h2
def lQ(H:Hp)(h:Heap):Prop:=∀a o,H a=some o->du P w H h a o
end
section
variable{P:Oe}{w:World}{H g:Hp}{h h':Heap}{a:Addr}{o:HO}
theorem du.lt(x:du P w H h a o):a<h.objs.size:=by cases o with|lst c=>obtain⟨_,_,_,_,e⟩:=x;exact np e|tup c=>obtain⟨_,_,_,p⟩:=x;exact p.lt|dK b=>obtain⟨_,_,_,_,o,_,_,e,_⟩:=x;exact np e|dT b=>obtain⟨_,_,_,_,o,_,_,e,_⟩:=x;exact np e|set S n=>obtain⟨o,_,_,_,e,_⟩:=x;exact np e|ins C dx fs=>obtain⟨_,_,_,e,_⟩:=x;exact np e|own y=>obtain⟨_,e⟩:=x;exact np e|xd fs=>obtain⟨_,⟨_,_,_,e,_⟩,_⟩:=x;exact np e|rng lo hi=>obtain⟨_,_,_,e⟩:=x;exact np e|frz ob u=>obtain⟨e,_⟩:=x;exact np e|tbl d=>exact np (show h.get? a=some _ from x)|met f y=>exact np (show h.get? a=some _ from x)|ext φ=>obtain⟨_,⟨_,e⟩,_⟩:=x;exact np e
theorem Paired.mapP:∀{c:List e}{d:List i},Paired F c d->(∀a b,F a b->G a b)->Paired G c d|_,_,.nil,_=>.nil|_,_,.cons r t,f=>.cons (f _ _ r) (Paired.mapP t f)
def du.stay(x:du P w H h a o)(k:∀b u,(b=a\/H b=some (.own a))->h.get? b=some u->h'.get? b=some u)(E:∀b,H b=some (.own a)->g b=some (.own a))(F:∀b m,H b=some (.tup m)->g b=some (.tup m)):du P w g h' a o:=by induction o with|lst m=>obtain⟨z,l,n,r,e⟩:=x;exact⟨z,l,n,r,k _ _ (.inl rfl) e⟩|tup m=>obtain⟨z,l,r,ob,e,c⟩:=x;exact⟨z,l,r,ob,k _ _ (.inl rfl) e,c⟩|dK s=>obtain⟨z,y,G,r,ob,i,j,e,c⟩:=x;exact⟨z,y,G,r,ob,i,j,k _ _ (.inl rfl) e,c⟩|dT s=>obtain⟨z,y,m,r,ob,i,j,e,c⟩:=x;exact⟨z,y,m,Paired.mapP r λp q z=>⟨z.1,F _ _ z.2.1,z.2.2⟩,ob,i,j,k _ _ (.inl rfl) e,c⟩|set S n=>obtain⟨ob,i,j,t,e,c⟩:=x;exact⟨ob,i,j,t,k _ _ (.inl rfl) e,c⟩|ins C dx fs=>obtain⟨d,z,ne,e,A,⟨B,i,j,I,c⟩,r⟩:=x;exact⟨E _ d,z,ne,k _ _ (.inl rfl) e,A,⟨B,i,j,k _ _ (.inr d) I,c⟩,r⟩|own y=>obtain⟨ob,e⟩:=x;exact⟨ob,k _ _ (.inl rfl) e⟩|xd fs=>obtain⟨A,⟨B,i,j,e,c⟩,r⟩:=x;exact⟨A,⟨B,i,j,k _ _ (.inl rfl) e,c⟩,r⟩|rng lo hi=>obtain⟨t,u,v,e⟩:=x;exact⟨t,u,v,k _ _ (.inl rfl) e⟩|frz ob u J=>obtain⟨e,q⟩:=x;exact⟨k _ _ (.inl rfl) e,J q⟩|tbl D=>have e:h.get? a=some {cls:=.none,data:=.fields D}:=x;show h'.get? a=some {cls:=.none,data:=.fields D};exact k a _ (.inl rfl) e|met f y=>have e:h.get? a=some (PySem.W.methodObj (.ref f) (.ref y)):=x;show h'.get? a=some (PySem.W.methodObj (.ref f) (.ref y));exact k a _ (.inl rfl) e|ext φ=>obtain⟨p,⟨o,e⟩,st⟩:=x;exact⟨st _ _ p λo q=>k _ _ (.inl rfl) q,⟨o,k _ _ (.inl rfl) e⟩,st⟩
theorem lQ.lt(x:lQ P w H h)(e:H a=some o):a<h.objs.size:=(x a o e).lt
def lQ.fresh(x:lQ P w H h)(e:h.objs.size<=a):H a=none:=by cases q:H a with|none=>rfl|some u=>exact absurd (pv (x.lt q) e) (sm _)
def lQ.kept(x:lQ P w H h)(k:∀b u,h.get? b=some u->h'.get? b=some u):lQ P w H h':=λa o e=>(x a o e).stay (λb u _ q=>k b u q) (λ_ q=>q) λ_ _ q=>q
def lQ.laid(x:lQ P w H h)(k:∀b u,h.get? b=some u->h'.get? b=some u)(f:h.objs.size<=a)(new:du P w (aI H a o) h' a o):lQ P w (aI H a o) h':=λb u e=>by
 have hn:=x.fresh f
 by_cases d:b=a
 ·subst d;rw[ag]at e;cases e;exact new
 ·rw[au d]at e;exact(x b u e).stay (λc v _ q=>k c v q) (λc q=>by rw[au (aH q hn)];exact q) λc i q=>by rw[au (aH q hn)];exact q
end
def Rd(H:Hp)(a:Addr)(u:HO):Prop:=H a=some u\/∃o,H a=some (.frz o u)
def Rd.ok(r:Rd H a u)(x:lQ P w H h):du P w H h a u:=by
 rcases r with r|⟨o,r⟩
 ·exact x a u r
 ·obtain⟨_,q⟩:=x a _ r;exact q
def Lh:Option HO->Prop|some (.lst _)=>True|some (.dK _)=>True|some (.dT _)=>True|some (.set _ _)=>True|some (.ins _ _ _)=>True|some (.ext _)=>True|_=>False
section
variable{P:Oe}{w:World}{H:Hp}{h h':Heap}{x e:Addr}{a:HO}
def lQ.write(ok:lQ P w H h)(g:Lh (H x))(m:e=x\/H e=some (.own x))(k:∀b u,b≠e->h.get? b=some u->h'.get? b=some u)(l:∃u,h'.get? e=some u)(new:du P w (aI H x a) h' x a):lQ P w (aI H x a) h':=λb u q=>by
 have f:∀c y,H c=some (.own y)->c≠x:=λc y r z=>by subst z;rw[r]at g;exact g
 have ntup:∀c i,H c=some (.tup i)->c≠x:=λc i r z=>by subst z;rw[r]at g;exact g
 by_cases j:b=x
 ·subst j;rw[ag]at q;cases q;exact new
 ·rw[au j]at q
  by_cases d:b=e
  ·have n:H b=some (.own x):=by
    rcases m with z|z
    ·exact absurd (d.trans z) j
    ·rw[d];exact z
   rw[q]at n;cases n;obtain⟨v,o⟩:=l;exact⟨v,by rw[d];exact o⟩
  ·refine(ok b u q).stay (λc v hc r=>k c v ?_ r) (λc r=>by rw[au (f c b r)];exact r) λc i r=>by rw[au (ntup c i r)];exact r
   rcases hc with rfl|hc
   ·exact d
   ·rintro rfl;rcases m with z|z
    ·exact f c b hc z
    ·rw[hc]at z;cases z;exact j rfl
end
structure Un(fs ex:Oj)(H H':Hp)(h h':Heap):Prop where
 keep:∀b o,h.get? b=some o->H b=none->b∉fs->b∉ex->h'.get? b=some o
 slot:∀b o,h.get? b=some o->H b=none->b∈fs->b∉ex->∃sl,h'.get? b=some {o with slots:=sl}free:∀b o,h.get? b=some o->H b=none->b∉ex->H' b=none
 there:∀b o,h.get? b=some o->b∉ex->∃o',h'.get? b=some o'
 tups:∀b xs,H b=some (.tup xs)->H' b=some (.tup xs)frzs:∀b o u,H b=some (.frz o u)->H' b=some (.frz o u)tbls:∀b ps,H b=some (.tbl ps)->∃more,H' b=some (.tbl (ps++more))
section
variable{fs d ex c:Oj}{H f g:Hp}{h h1 h2 h':Heap}{a x e:Addr}{o:HO}
def Un.any(u:Un fs ex H f h h1){b:Addr}{ob:Obj}(q:h.get? b=some ob)(n:H b=none)(i:b∉ex):∃sl,h1.get? b=some {ob with slots:=sl}:=by
 by_cases j:b∈fs
 ·exact u.slot b ob q n j i
 ·exact⟨ob.slots,u.keep b ob q n j i⟩
def Un.kept(k:∀b u,h.get? b=some u->h'.get? b=some u):Un fs ex H H h h':=⟨λb ob q _ _ _=>k b ob q,λb ob q _ _ _=>⟨ob.slots,k b ob q⟩,λ_ _ _ n _=>n,λb ob q _=>⟨ob,k b ob q⟩,λ_ _ q=>q,λ_ _ _ q=>q,λ_ i q=>⟨#[],by rw[q];simp⟩⟩
def Un.refl:Un fs ex H H h h:=Un.kept λ_ _ q=>q
def Un.laid(k:∀b u,h.get? b=some u->h'.get? b=some u)(i:h.objs.size<=a)(hn:H a=none):Un fs ex H (aI H a o) h h' where
 keep:=λb u q _ _ _=>k b u q
 slot:=λb u q _ _ _=>⟨u.slots,k b u q⟩
 free:=λb u q n _=>by rw[au (ot (pv (np q) i))];exact n
 there:=λb u q _=>⟨u,k b u q⟩
 tups:=λb j q=>by rw[au (aH q hn)];exact q
 frzs:=λb u j q=>by rw[au (aH q hn)];exact q
 tbls:=λb l q=>⟨#[],by rw[au (aH q hn),q];simp⟩
def Un.write(j:Lh (H x))(s:e=x\/H e=some (.own x))(k:∀b u,b≠e->h.get? b=some u->h'.get? b=some u)(l:∃u,h'.get? e=some u):Un fs ex H (aI H x o) h h':=by
 have m:∀b,H b=none->b≠x:=λb n z=>by subst z;rw[n]at j;exact j
 have p:∀b,H b=none->b≠e:=λb n z=>by
  subst z;rcases s with r|r
  ·exact m b n r
  ·rw[n]at r;cases r
 have hm:∀b u,H b=some u->¬Lh (some u)->b≠x:=λb u q nm z=>by subst z;rw[q]at j;exact nm j
 refine⟨λb u q n _ _=>k b u (p b n) q,λb u q n _ _=>⟨u.slots,k b u (p b n) q⟩,λb u q n _=>by rw[au (m b n)];exact n,λb u q _=>?_,λb t q=>by rw[au (hm b _ q λz=>z)];exact q,λb u t q=>by rw[au (hm b _ q λz=>z)];exact q,λb v q=>⟨#[],by rw[au (hm b _ q λz=>z),q];simp⟩⟩
 by_cases i:b=e
 ·subst i;exact l
 ·exact⟨u,k b u i q⟩
end
def Lp(h:Heap)(H:Hp):List Addr:=(List.range h.objs.size).filter λa=>(H a).isSome
def xn(h:Heap)(H:Hp):Heap:=PySem.W.hideAll h (Lp h H)
def Cm(h:Heap)(H:Hp):(xn h H).objs.size=h.objs.size:=PySem.W.hideAll_size _ _
def EN(e:h.get? b=some o)(n:H b=none):(xn h H).get? b=some o:=PySem.W.hideAll_get _ e λhm=>by have q:(H b).isSome=true:=(List.mem_filter.mp hm).2;rw[n]at q;simp at q
def Gw(e:(xn h H).get? b=some o):h.get? b=some o/\H b=none:=by have a:h.get? b=some o:=PySem.W.of_hideAll (Lp h H) e;refine⟨a,?_⟩;cases q:H b with|none=>rfl|some x=>have hm:b∈Lp h H:=List.mem_filter.mpr ⟨yl.mpr (np a),by simp[q]⟩;have z:(xn h H).get? b=none:=PySem.W.hideAll_none (Lp h H) hm;rw[z]at e;cases e
def G9(g h:Heap)(L:Addr):List (Addr×Obj):=(List.range h.objs.size).filterMap λa=>if a=L\/(g.get? a).isSome=true then none else(h.get? a).map λo=>(a,o)
def qv(g h:Heap)(L d:Addr):List (Addr×Obj):=(G9 g h L).filter λp=>decide (p.1≠d)
end L2
namespace L2
open PySem PySem.Spec PyProof.Rows
structure Li(K:N_)(mg:Oc)(base:Heap):Prop where
 kin:K.In base
 glob:base.Ns mainGlobals mg
 blt:∃mb,base.Ns builtinsNs mb/\∀x:Str,x≠"__name__"->mb x=bootBuiltins x
 nolimit:base.NoLimit
structure Cx where
 prog:Program
 w:World
 K:N_
 mg:Str->Option Value
 base:Heap
 A:Around
 N:List Str
 s₀:Shared
 H₀:Hp
 env:Env
 outer:List Env
 stack:List Env
 ex:List Addr
 fn:Str->Bool
 calm:Bool
 pn:List (Addr×Obj)xe:Value->Shared->Prop
def jW(l:List Env):List Addr:=l.filterMap (·.frame)
abbrev Cx.fs(X:Cx):List Addr:=jW X.outer
def Ls(a:Scope)(x:Str):Prop:=a.names.lookup x=some .local\/a.names.lookup x=some .cell\/a.names.lookup x=some .free
def JV(a:Scope)(x:Str):Prop:=a.names.lookup x=some .local\/a.names.lookup x=some .cell
def L0(env:Env)(h:Heap)(m:Oc)(x:Str)(u:Value):Prop:=(env.kindOf x=some .local/\m x=some u)\/((env.kindOf x=some .cell\/env.kindOf x=some .free)/\∃c,env.cells.lookup x=some c/\h.IsCell c (some u))
structure Cx.Ok(X:Cx):Prop where
 mod:Li X.K X.mg X.base
 kind:X.env.scope.kind=.function
 glob:X.env.globals=mainGlobals
 blt:X.env.builtins=builtinsNs
 above:X.s₀.heap.objs.size<=X.env.locals
 inj:∀x y c,X.env.cells.lookup x=some c->X.env.cells.lookup y=some c->x=y
 has:∀x,(X.env.kindOf x=some .cell\/X.env.kindOf x=some .free)->∃c,X.env.cells.lookup x=some c
 cab:∀x c,X.fn x=true->X.env.cells.lookup x=some c->X.s₀.heap.objs.size<=c
 hd:X.calm=true->X.A.handled=none
 frames:X.A.frames=some X.stack
 stk:X.stack=X.outer\/(X.stack=X.env::X.outer/\X.env.frame=some X.env.locals)exf:∀b∈X.ex,b≠X.env.locals/\∀x c,X.env.cells.lookup x=some c->c≠b
 bs:∀b o,X.base.get? b=some o->X.s₀.heap.get? b=some o/\X.H₀ b=none
 bsz:X.base.objs.size<=X.s₀.heap.objs.size
 noex:∀b o,X.base.get? b=some o->b∉X.ex
 exfs:∀b∈X.ex,b∉X.fs
 funs:X.s₀.heap.FunFrames X.base X.outer
 frf:∀b∈X.fs,X.H₀ b=none
structure aO(X:Cx)(pins:Ob)(σ:List (Option V))(H:Hp)(s:Shared):Prop where
 ok:X.Ok
 os:s.os=X.s₀.os
 bare:AllBare s.gens
 base:Un X.fs X.ex X.H₀ H X.s₀.heap s.heap
 loc:∃m,s.heap.Ns X.env.locals m/\∀(i:Nat)(x:Str)(v:V),X.N[i]?=some x->σ[i]?=some (some v)->Ls X.env.scope x->∃u,bd v u/\L0 X.env s.heap m x u
 cell:∀x c,X.env.cells.lookup x=some c->∃v,s.heap.IsCell c v
 free:H X.env.locals=none
 freeC:∀x c,X.env.cells.lookup x=some c->H c=none
 pin:∀p∈X.pn++pins,s.heap.get? p.1=some p.2/\H p.1=none/\p.1≠X.env.locals/\p.1∉X.fs/\∀v,p.2.data≠.cell v
 hok:lQ X.prog X.w H s.heap
 len:σ.length=X.N.length
section
variable{X:Cx}{f:Ob}{g:List (Option V)}{H B:Hp}{s:Shared}{h':Heap}
def Cx.Ok.nofr(ok:X.Ok)(e:X.base.get? b=some o):b∉X.fs:=λa=>by have:=(ok.funs.mem a).1;rw[e]at this;cases this
theorem aO.bs(I:aO X f g H s):∀b o,X.base.get? b=some o->s.heap.get? b=some o/\H b=none:=λb o e=>⟨I.base.keep b o (I.ok.bs b o e).1 (I.ok.bs b o e).2 (I.ok.nofr e) (I.ok.noex b o e),I.base.free b o (I.ok.bs b o e).1 (I.ok.bs b o e).2 (I.ok.noex b o e)⟩
def aO.bk(I:aO X f g H s):∀b o,X.base.get? b=some o->s.heap.get? b=some o:=λb o e=>(I.bs b o e).1
theorem aO.mod(I:aO X f g H s):Li X.K X.mg X.base:=I.ok.mod
def aO.kIn(I:aO X f g H s):X.K.In s.heap:=I.ok.mod.kin.keeps I.bk
def aO.fr(I:aO X f g H s):∃m,Fr X.base X.env.locals s.heap m:=let⟨m,hn,_⟩:=I.loc
 ⟨m,hn,I.bk,n7 I.ok.bsz I.ok.above⟩
theorem aO.lt(I:aO X f g H s):X.env.locals<s.heap.objs.size:=let⟨_,hn,_⟩:=I.loc;hn.lt
def aO.sz(I:aO X f g H s):X.s₀.heap.objs.size<=s.heap.objs.size:=n7 I.ok.above (z_ I.lt)
def aO.nofs(I:aO X f g H s)(h:s.heap.objs.size<=a):a∉X.fs:=λb=>by obtain⟨_,o,c,_⟩:=I.ok.funs.mem b;exact absurd (pv (np c) (n7 I.sz h)) (sm _)
def aO.cne(I:aO X f g H s):∀x c,X.env.cells.lookup x=some c->c≠X.env.locals:=λx c e z=>by obtain⟨v,o,d,hd⟩:=I.cell x c e;obtain⟨m,⟨h,i,j,a,b,_⟩,_⟩:=I.loc;rw[z,a]at d;cases d;rw[b]at hd;cases hd
theorem aO.funs(I:aO X f g H s):s.heap.FunFrames X.base X.outer:=by
 have all:∀(l:List Env),(∀b∈jW l,b∈X.fs)->X.s₀.heap.FunFrames X.base l->s.heap.FunFrames X.base l:=by
  intro l
  induction l with|nil=>intro _ _;trivial|cons env r i=>intro h j;obtain⟨k,⟨L,o,a,hn,m,hd⟩,n⟩:=j;have c:L∈X.fs:=h L (by unfold jW;rw[L6,a];exact m_);obtain⟨sl,e⟩:=I.base.slot L o m (I.ok.frf L c) c λz=>I.ok.exfs L z c;exact⟨k,⟨L,_,a,hn,e,hd⟩,i (λb d=>h b (by unfold jW;rw[L6,a];exact lm _ d)) n⟩
 exact all X.outer (λ_ d=>d) I.ok.funs
theorem aO.stack(I:aO X f g H s):s.heap.FunFrames X.base X.stack:=by
 rcases I.ok.stk with e|⟨e,a⟩
 ·rw[e];exact I.funs
 ·rw[e];obtain⟨m,hn,_⟩:=I.loc;refine .cons (by rw[I.ok.kind];decide) a hn ?_ I.funs;exact Heap.get?_none_of_le (n7 I.ok.bsz I.ok.above)
def aO.stkSub(I:aO X f g H s):∀b∈jW X.stack,b∈X.env.locals::X.fs:=λb a=>by
 rcases I.ok.stk with e|⟨e,c⟩
 ·rw[e]at a;exact lm _ a
 ·rw[e]at a;unfold jW at a;rw[L6,c]at a;exact a
def aO.stkFree(I:aO X f g H s):∀b∈jW X.stack,H b=none:=λb a=>by
 rcases tA.mp (I.stkSub b a)with e|a
 ·rw[e];exact I.free
 ·obtain⟨_,o,c,_⟩:=I.ok.funs.mem a;exact I.base.free b o c (I.ok.frf b a) λz=>I.ok.exfs b z a
def aO.step{g':Array GenState}{O:Nat}{d':Drawn}{ch:Oj}(I:aO X f g H s)(h:∀b∈ch,(b∈X.ex\/X.s₀.heap.objs.size<=b)/\b≠X.env.locals/\(∀x c,X.env.cells.lookup x=some c->c≠b)/\∀p∈X.pn++f,p.1≠b)(keep:∀b o,b≠X.env.locals->b∉X.fs->b∉ch->s.heap.get? b=some o->H b=none->h'.get? b=some o)(slot:∀b o,b≠X.env.locals->b∈X.fs->b∉ch->s.heap.get? b=some o->H b=none->∃sl,h'.get? b=some {o with slots:=sl})(free:∀b o,b∉ch->s.heap.get? b=some o->H b=none->B b=none)(there:∀b o,b∉ch->s.heap.get? b=some o->∃F,h'.get? b=some F)(tups:∀b C,H b=some (.tup C)->B b=some (.tup C))(frzs:∀b o u,H b=some (.frz o u)->B b=some (.frz o u))(tbls:∀b L,H b=some (.tbl L)->∃G,B b=some (.tbl (L++G)))(ns:∀m,s.heap.Ns X.env.locals m->h'.Ns X.env.locals m)(hok:lQ X.prog X.w B h')(hg:AllBare g'):aO X f g B {s with heap:=h',gens:=g',drawn:=d',toks:=O}:=by
 have J:∀b o,X.s₀.heap.get? b=some o->b≠X.env.locals:=λb o e=>ot (pv (np e) I.ok.above);have y:∀b o,X.s₀.heap.get? b=some o->b∉X.ex->b∉ch:=λb o e a D=>by
  rcases(h b D).1 with z|z
  ·exact a z
  ·exact absurd (pv (np e) z) (sm _)
 have j:∀x c,X.env.cells.lookup x=some c->∀v,s.heap.IsCell c v->h'.IsCell c v:=λx c e v⟨o,E,hd⟩=>by
  have t:c∉ch:=λz=>(h c z).2.2.1 x c e rfl
  by_cases hc:c∈X.fs
  ·obtain⟨sl,q⟩:=slot c o (I.cne x c e) hc t E (I.freeC x c e);exact⟨_,q,hd⟩
  ·exact⟨o,keep c o (I.cne x c e) hc t E (I.freeC x c e),hd⟩
 refine⟨I.ok,I.os,hg,⟨λb o e n D a=>?_,λb o e n D a=>?_,λb o e n a=>?_,λb o e a=>?_,λb C e=>tups b C (I.base.tups b C e),λb o C e=>frzs b o C (I.base.frzs b o C e),λb L e=>?_⟩,?_,λx c e=>?_,?_,λx c e=>?_,λp N=>?_,hok,I.len⟩
 ·exact keep b o (J b o e) D (y b o e a) (I.base.keep b o e n D a) (I.base.free b o e n a)
 ·obtain⟨sl,A⟩:=I.base.slot b o e n D a;obtain⟨M,K⟩:=slot b _ (J b o e) D (y b o e a) A (I.base.free b o e n a);exact⟨M,K⟩
 ·obtain⟨F,A⟩:=I.base.there b o e a;exact free b F (y b o e a) A (I.base.free b o e n a)
 ·obtain⟨F,A⟩:=I.base.there b o e a;exact there b F (y b o e a) A
 ·obtain⟨P,A⟩:=I.base.tbls b L e;obtain⟨Q,K⟩:=tbls b _ A;exact⟨P++Q,by rw[K,Array.append_assoc]⟩
 ·obtain⟨m,hn,R⟩:=I.loc;refine⟨m,ns m hn,λi x v A K S=>?_⟩;obtain⟨u,r,l⟩:=R i x v A K S;refine⟨u,r,?_⟩;rcases l with l|⟨k,c,e,z⟩
  ·exact .inl l
  ·exact .inr ⟨k,c,e,j x c e _ z⟩
 ·obtain⟨v,z⟩:=I.cell x c e;exact⟨v,j x c e v z⟩
 ·obtain⟨m,⟨o,_,_,E,_⟩,_⟩:=I.loc;exact free _ o (λz=>(h _ z).2.1 rfl) E I.free
 ·obtain⟨v,o,E,hd⟩:=I.cell x c e;exact free c o (λz=>(h c z).2.2.1 x c e rfl) E (I.freeC x c e)
 ·obtain⟨e,n,ne,nf,d⟩:=I.pin p N;have t:p.1∉ch:=λz=>(h p.1 z).2.2.2 p N rfl;exact⟨keep p.1 p.2 ne nf t e n,free p.1 p.2 t e n,ne,nf,d⟩
def aO.un{t':Nat}(I:aO X f g H s)(u:Un X.fs [] H B s.heap h')(hok:lQ X.prog X.w B h'):aO X f g B {s with heap:=h',toks:=t'}:=by obtain⟨m,⟨o,l,p,i,r⟩,_⟩:=id I.loc;obtain⟨sl,j⟩:=u.any i I.free (by simp);exact I.step (g':=s.gens) (d':=s.drawn) (ch:=[]) (λ_ z=>nomatch z) (λb o _ c _ e n=>u.keep b o e n c (by simp)) (λb o _ c _ e n=>u.slot b o e n c (by simp)) (λb o _ e n=>u.free b o e n (by simp)) (λb o _ e=>u.there b o e (by simp)) u.tups u.frzs u.tbls (λx hm=>by obtain⟨y,d,h,a,k⟩:=hm;rw[i]at a;cases a;exact⟨_,d,h,j,k⟩) hok I.bare
def aO.call{g':Array GenState}{t':Nat}{d':Drawn}{ch:Oj}(I:aO X f g H s)(u:Un (jW X.stack) ch H B s.heap h')(hok:lQ X.prog X.w B h')(hg:AllBare g')(a:∀b∈ch,(b∈X.ex\/X.s₀.heap.objs.size<=b)/\b≠X.env.locals/\(∀x c,X.env.cells.lookup x=some c->c≠b)/\∀p∈X.pn++f,p.1≠b):aO X f g B {s with heap:=h',gens:=g',drawn:=d',toks:=t'}:=by obtain⟨m,⟨o,t,v,k,r⟩,_⟩:=id I.loc;obtain⟨sl,h⟩:=u.any k I.free λz=>(a _ z).2.1 rfl;exact I.step (ch:=ch) a (λb o h l hc e n=>u.keep b o e n (λz=>(tA.mp (I.stkSub b z)).elim h l) hc) (λb o _ _ hc e n=>u.any e n hc) (λb o hc e n=>u.free b o e n hc) (λb o hc e=>u.there b o e hc) u.tups u.frzs u.tbls (λy hm=>by obtain⟨A,i,j,d,q⟩:=hm;rw[k]at d;cases d;exact⟨_,i,j,h,q⟩) hok hg
def aO.turned{t':Nat}{it:Addr}(I:aO X f g H s)(k:∀b o,b≠it->s.heap.get? b=some o->h'.get? b=some o)(hn:H it=none)(d:it≠X.env.locals)(h1:it∈X.ex\/X.s₀.heap.objs.size<=it)(h2:∀x c,X.env.cells.lookup x=some c->c≠it)(h3:∀p∈X.pn++f,p.1≠it):aO X f g H {s with heap:=h',toks:=t'}:=by
 have a:∀b u,H b=some u->b≠it:=λb u e z=>by rw[z,hn]at e;cases e
 refine I.step (g':=s.gens) (d':=s.drawn) (ch:=[it]) (λb h=>?_) (λb o _ _ hc e _=>k b o (λz=>hc (by simp[z])) e) (λb o _ _ hc e _=>⟨o.slots,k b o (λz=>hc (by simp[z])) e⟩) (λ_ _ _ _ n=>n) (λb o hc e=>⟨o,k b o (λz=>hc (by simp[z])) e⟩) (λ_ _ e=>e) (λ_ _ _ e=>e) (λb A e=>⟨#[],by rw[e];simp⟩) (λm hm=>?_) (λb u e=>?_) I.bare
 ·have e:b=it:=by simpa using h
  subst e;exact⟨h1,d,h2,h3⟩
 ·obtain⟨o,i,j,l,r⟩:=hm;exact⟨o,i,j,k _ o (rb d) l,r⟩
 ·refine(I.hok b u e).stay (λc v hc q=>k c v ?_ q) (λ_ q=>q) λ_ _ q=>q;rcases hc with z|z
  ·rw[z];exact a b u e
  ·exact a c _ z
def aO.tok(I:aO X f g H s)(t:Nat):aO X f g H {s with toks:=t}:=I.un (h':=s.heap) (t':=t) Un.refl I.hok
theorem aO.kept(I:aO X f g H s)(k:∀b u,s.heap.get? b=some u->h'.get? b=some u):aO X f g H {s with heap:=h',toks:=t'}:=I.un (Un.kept k) (I.hok.kept k)
theorem aO.laid(I:aO X f g H s)(k:∀b u,s.heap.get? b=some u->h'.get? b=some u)(c:s.heap.objs.size<=a)(new:du X.prog X.w (aI H a o) h' a o):aO X f g (aI H a o) {s with heap:=h',toks:=t'}:=I.un (Un.laid k c (I.hok.fresh c)) (I.hok.laid k c new)
theorem aO.write(I:aO X f g H s)(c:Lh (H x))(d:e=x\/H e=some (.own x))(k:∀b u,b≠e->s.heap.get? b=some u->h'.get? b=some u)(a:∃u,h'.get? e=some u)(new:du X.prog X.w (aI H x o) h' x o):aO X f g (aI H x o) {s with heap:=h',toks:=t'}:=I.un (Un.write c d k a) (I.hok.write c d k a new)
def aO.weak(I:aO X f g H s)(c:a.length=g.length)(w:∀(i:Nat)v,a[i]?=some (some v)->g[i]?=some (some v)):aO X f a H s:=⟨I.ok,I.os,I.bare,I.base,let⟨m,hn,b⟩:=I.loc;⟨m,hn,λi x v d e h=>b i x v d (w i v e) h⟩,I.cell,I.free,I.freeC,I.pin,I.hok,c.trans I.len⟩
def aO.pins_of(I:aO X f g H s)(h:∀p∈a,s.heap.get? p.1=some p.2/\H p.1=none/\p.1≠X.env.locals/\p.1∉X.fs/\∀v,p.2.data≠.cell v):aO X a g H s:=⟨I.ok,I.os,I.bare,I.base,I.loc,I.cell,I.free,I.freeC,λp b=>(Ny.mp b).elim (λz=>I.pin p (th _ z)) (h p),I.hok,I.len⟩
def yJ{N:Of}(c:N.Nodup){i j:Nat}{x:Str}(a:N[i]?=some x)(b:N[j]?=some x):i=j:=by obtain⟨h1,d⟩:=d_.mp a;obtain⟨h2,e⟩:=d_.mp b;exact(List.getElem_inj c).mp (d.trans e.symm)
def vG{M:Model}{A:Around}{E:Oa}{i:Nat}{x:Str}{v:V}{u:Value}{Q:Unit->Shared->Prop}(I:aO X f g H s)(hN:X.N.Nodup)(hi:X.N[i]?=some x)(D:JV X.env.scope x)(r:bd v u)(h:∀s',aO X f (g.set i (some v)) H s'->(∃a,Heap.SameBut a s.heap s'.heap/\(a=X.env.locals\/X.env.cells.lookup x=some a))->Q () s')(hf:X.fn x=true\/X.env.scope.names.lookup x=some .local:=by first|exact .inl rfl|exact .inr rfl|assumption):wpAny M A (storeName X.env x u) Q E s:=by
 obtain⟨m,hn,hl⟩:=id I.loc;have R:(X.env.scope.kind==.class||(X.env.scope.kind==.module&&X.env.locals !=X.env.globals))=false:=by rw[I.ok.kind];rfl
 have J:i<g.length:=by rw[I.len];exact(d_.mp hi).1
 have cne:=I.cne;have t:∀{a:Addr}{h':Heap},(∃o,s.heap.get? a=some o/\H a=none)->Heap.SameBut a s.heap h'->lQ X.prog X.w H h':=λ{a h'}ha l b ob e=>by
  obtain⟨_,_,F⟩:=ha;refine(I.hok b ob e).stay (λc Y hc q=>(l.2 c ?_).trans q) (λ_ q=>q) λ_ _ q=>q;rintro rfl;rcases hc with rfl|hc
  ·rw[F]at e;cases e
  ·rw[F]at hc;cases hc
 rcases D with K|K
 ·refine wpAny_storeName_local K hn (λh' aa l=>?_) R;obtain⟨oL,_,_,ac,_⟩:=id hn;refine h _ ⟨I.ok,I.os,I.bare,⟨λb o e n L D=>?_,λb o e n L D=>?_,I.base.free,λb o e D=>?_,I.base.tups,I.base.frzs,I.base.tbls⟩,⟨_,aa,λj y v' C G e3=>?_⟩,λy c e=>?_,I.free,I.freeC,λp hp=>?_,t ⟨oL,ac,I.free⟩ l,by simpa using I.len⟩ ⟨_,l,.inl rfl⟩
  ·exact(l.2 b (ot (pv (np e) I.ok.above))).trans (I.base.keep b o e n L D)
  ·obtain⟨sl,C⟩:=I.base.slot b o e n L D;exact⟨sl,(l.2 b (ot (pv (np e) I.ok.above))).trans C⟩
  ·obtain⟨o',C⟩:=I.base.there b o e D;exact⟨o',(l.2 b (ot (pv (np e) I.ok.above))).trans C⟩
  ·by_cases O:j=i
   ·subst O;rw[hi]at C;cases C;rw[Mc J]at G;cases G;exact⟨u,r,.inl ⟨K,by simp⟩⟩
   ·rw[r_ (rb O)]at G;obtain⟨u',r',q⟩:=hl j y v' C G e3;refine⟨u',r',?_⟩;rcases q with⟨k,e⟩|⟨k,c,e,z⟩
    ·refine .inl ⟨k,?_⟩;have:y≠x:=λe=>O (yJ hN C (e▸hi));simp[this,e]
    ·exact .inr ⟨k,c,e,z.sameBut l (cne y c e)⟩
  ·obtain⟨Y,z⟩:=I.cell y c e;exact⟨Y,z.sameBut l (cne y c e)⟩
  ·obtain⟨e,n,ne,nf,d⟩:=I.pin p hp;exact⟨(l.2 p.1 ne).trans e,n,ne,nf,d⟩
 ·have P:X.fn x=true:=by
   rcases hf with z|z
   ·exact z
   ·rw[z]at K;cases K
  obtain⟨c,hc⟩:=I.ok.has x (.inl K);obtain⟨Y,z⟩:=I.cell x c hc;refine wpAny_storeName_cell I.ok.kind K hc z (λh' S l=>?_);obtain⟨oc,T,U⟩:=id z;refine h {s with heap:=h'} ⟨I.ok,I.os,I.bare,⟨λb o e n L D=>?_,λb o e n L D=>?_,I.base.free,λb o e D=>?_,I.base.tups,I.base.frzs,I.base.tbls⟩,⟨m,hn.sameBut l (rb (cne x c hc)),λj y v' C G e3=>?_⟩,λy Z e=>?_,I.free,I.freeC,λp hp=>?_,t ⟨oc,T,I.freeC x c hc⟩ l,by simpa using I.len⟩ ⟨c,l,.inr hc⟩
  ·exact(l.2 b (ot (pv (np e) (I.ok.cab x c P hc)))).trans (I.base.keep b o e n L D)
  ·obtain⟨sl,C⟩:=I.base.slot b o e n L D;exact⟨sl,(l.2 b (ot (pv (np e) (I.ok.cab x c P hc)))).trans C⟩
  ·obtain⟨o',C⟩:=I.base.there b o e D;exact⟨o',(l.2 b (ot (pv (np e) (I.ok.cab x c P hc)))).trans C⟩
  ·by_cases O:j=i
   ·subst O;rw[hi]at C;cases C;rw[Mc J]at G;cases G;exact⟨u,r,.inr ⟨.inl K,c,hc,S⟩⟩
   ·rw[r_ (rb O)]at G;obtain⟨u',r',q⟩:=hl j y v' C G e3;refine⟨u',r',?_⟩;rcases q with q|⟨k,Z,e,z'⟩
    ·exact .inl q
    ·refine .inr ⟨k,Z,e,z'.sameBut l ?_⟩;rintro rfl;exact O (yJ hN C (I.ok.inj _ _ _ e hc▸hi))
  ·by_cases W:Z=c
   ·subst W;exact⟨_,S⟩
   ·obtain⟨w2,z2⟩:=I.cell y Z e;exact⟨w2,z2.sameBut l W⟩
  ·obtain⟨e,n,ne,nf,d⟩:=I.pin p hp;refine⟨(l.2 p.1 ?_).trans e,n,ne,nf,d⟩;intro q;rw[q,T]at e;have q':oc=p.2:=nB e;exact d Y (by rw[<-q'];exact U)
def tm(I:aO X f g H s)(c:X.N.Nodup)(hi:X.N[i]?=some x)(d:JV X.env.scope x)(r:bd v u)(h:∀a,aO X f (g.set i (some v)) H a->Q () a)(e:X.fn x=true\/X.env.scope.names.lookup x=some .local:=by first|exact .inl rfl|exact .inr rfl|assumption):wpAny M A (storeName X.env x u) Q E s:=vG I c hi d r (λa b _=>h a b) e
def aO.call'(I:aO X f g H s)(j:s'.os=s.os)(u:Un (jW X.stack) ch H B s.heap s'.heap)(hok:lQ X.prog X.w B s'.heap)(hg:AllBare s'.gens)(a:∀b∈ch,(b∈X.ex\/X.s₀.heap.objs.size<=b)/\b≠X.env.locals/\(∀x c,X.env.cells.lookup x=some c->c≠b)/\∀p∈X.pn++f,p.1≠b):aO X f g B s':=by obtain⟨h',d,h,i,k⟩:=s';have e:k=s.os:=j;subst e;exact I.call (g':=d) (t':=i) (d':=h) u hok hg a
end
abbrev XK:=Value->Option Addr->Hp->Prop
abbrev St:=List (Option V)
abbrev VK:=V->Hp->Prop
abbrev TE:=St->Hp->VK->Prop
abbrev TT:=St->Hp->(Bool->Hp->Prop)->Prop
abbrev TA:=St->Hp->(List V->Hp->Prop)->Prop
structure j3 where
 nx:St->Hp->Prop
 rt:VK
 bk:St->Hp->Prop:=λ_ _=>False
 ct:St->Hp->Prop:=λ_ _=>False
abbrev TS:=j3->St->Hp->Prop
def EP(X:Cx)(a:Ob)(c:St)(Q:VK)(u:Value)(d:Shared):Prop:=∃v b,aO X a c b d/\bd v u/\Q v b
def TP(X:Cx)(a:Ob)(d:St)(Q:Bool->Hp->Prop)(b:Bool)(e:Shared):Prop:=∃c,aO X a d c e/\Q b c
def AP(X:Cx)(a:Ob)(d:St)(Q:List V->Hp->Prop)(e:Od)(f:Shared):Prop:=∃b c,aO X a d c f/\bf b e/\Q b c
def SP(X:Cx)(c:Ob)(D:j3)(f:Flow)(d:Shared):Prop:=match f with|.next=>∃a b,aO X c a b d/\D.nx a b|.brk=>∃a b,aO X c a b d/\D.bk a b|.cont=>∃a b,aO X c a b d/\D.ct a b|.ret u=>∃v a b,aO X c a b d/\bd v u/\D.rt v b
def PE(X:Cx)(e:Expr)(t:TE):Prop:=∀(a:Ob)(s:Shared)(b:St)(H:Hp)(Q:VK),aO X a b H s->t b H Q->wpAny (model X.prog X.w) X.A (eval e X.env) (EP X a b Q) X.xe s
def PT(X:Cx)(e:Expr)(t:TT):Prop:=∀(a:Ob)(s:Shared)(b:St)(H:Hp)(Q:Bool->Hp->Prop),aO X a b H s->t b H Q->wpAny (model X.prog X.w) X.A (isTrue e X.env (eval e X.env)) (TP X a b Q) X.xe s
def PW(X:Cx)(e:Expr)(t:TT):Prop:=∀(b:Sem Value)(a:Ob)(s:Shared)(c:St)(H:Hp)(Q:Bool->Hp->Prop),aO X a c H s->t c H Q->wpAny (model X.prog X.w) X.A (isTrue e X.env b) (TP X a c Q) X.xe s
def PW.pt(h:PW X e t):PT X e t:=h _
def PA(X:Cx)(d:Og)(t:TA):Prop:=∀(b:Pos)(a:Ob)(s:Shared)(c:St)(H:Hp)(Q:List V->Hp->Prop),aO X a c H s->t c H Q->wpAny (model X.prog X.w) X.A (spliced (backTo b (starEach d X.env))) (AP X a c Q) X.xe s
def PS(X:Cx)(st:Stmt)(t:TS):Prop:=∀(a:Ob)(s:Shared)(b:St)(H:Hp)(D:j3),aO X a b H s->t D b H->wpAny (model X.prog X.w) X.A (exec st X.env) (SP X a D) X.xe s
def vx(X:Cx)(st:List Stmt)(t:TS):Prop:=∀(a:Ob)(s:Shared)(b:St)(H:Hp)(D:j3),aO X a b H s->t D b H->wpAny (model X.prog X.w) X.A (execs st X.env) (SP X a D) X.xe s
def cE(h:wpAny M A t Q E s)(c:∀a s,Q a s->d a s):wpAny M A t d E s:=wpAny_mono h c λ_ _ x=>x
end L2
namespace L2
open PySem PySem.Spec PyProof.Rows
section
variable{X:Cx}
def FE(i:Nat):TE:=λa H Q=>∃v,a[i]?=some (some v)/\Q v H
def tC(v:V):TE:=λ_ H Q=>Q v H
def IT(j:X.N[i]?=some x)(n:Ls X.env.scope x)(hd:(x==("__debug__":Str))=false:=by decide)(g:(x==("__classdict__":Str))=false:=by decide):PE X (.Name x f) (FE i):=by
 intro d s k H Q I h;obtain⟨v,e,h⟩:=h;obtain⟨m,hn,o⟩:=I.loc;obtain⟨u,r,l⟩:=o i x v j e n;have fin:EP X d k Q u s:=⟨v,H,I,r,h⟩;rcases l with⟨b,hm⟩|⟨b,c,hc,a⟩
 ·exact wpAny_Name (wpAny_loadName_local I.ok.kind b hn hm fin) hd
 ·rcases b with b|b
  ·exact wpAny_Name (wpAny_loadName_cell I.ok.kind b hc a fin) hd
  ·exact wpAny_Name (wpAny_loadName_free I.ok.kind b hc a fin g) hd
def ah{i j f}:PE X (.Constant (.int i) j f) (tC (.int i)):=λ_ _ _ H _ I h=>wpAny_Constant_int ⟨.int i,H,I.tok _,⟨_,rfl⟩,h⟩
def gu{b j f}:PE X (.Constant (.bool b) j f) (tC (.bl b)):=λ_ _ _ H _ I h=>Constant_bool ⟨.bl b,H,I,rfl,h⟩
def jS{j f}:PE X (.Constant .none j f) (tC .non):=λ_ _ _ H _ I h=>Constant_none ⟨.non,H,I,rfl,h⟩
def ay{x j f}:PE X (.Constant (.str x) j f) (tC (.str x)):=λ_ _ _ H _ I h=>Calls.Constant_str ⟨.str x,H,I.tok _,⟨_,rfl⟩,h⟩
def Gl(X:Cx)(x:Str):Prop:=X.env.kindOf x=some .globalImplicit
def pT(I:aO X a c H s)(hg:Gl X x)(hm:X.mg x=some u)(h:Q u s)(hd:(x==("__debug__":Str))=false:=by decide):wpAny (model X.prog X.w) X.A (eval (.Name x f) X.env) Q E s:=Calls.Name_function_global I.ok.kind hg (Calls.loadGlobal_global (by rw[I.ok.glob];exact I.mod.glob.keeps I.bk) hm h) hd
def lj(I:aO X a d H s)(hg:Gl X x)(hm:X.mg x=none)(c:bootBuiltins x=some u)(h:Q u s)(hn:x≠"__name__":=by decide)(hd:(x==("__debug__":Str))=false:=by decide):wpAny (model X.prog X.w) X.A (eval (.Name x f) X.env) Q E s:=by obtain⟨b,h1,h2⟩:=I.mod.blt;exact Calls.Name_function_global I.ok.kind hg (Calls.loadGlobal_builtin (by rw[I.ok.glob];exact I.mod.glob.keeps I.bk) hm (by rw[I.ok.blt];exact h1.keeps I.bk) ((h2 x hn).trans c) h) hd
def A8(hg:Gl X x)(hm:X.mg x=some u)(r:bd v u)(hd:(x==("__debug__":Str))=false:=by decide):PE X (.Name x f) (tC v):=λ_ _ _ H _ I h=>pT I hg hm ⟨v,H,I,r,h⟩ hd
def Gq{x:Str}{v:V}{u:Value}{f:Pos}(hg:Gl X x)(hm:X.mg x=none)(a:bootBuiltins x=some u)(r:bd v u)(hn:x≠"__name__":=by decide)(hd:(x==("__debug__":Str))=false:=by decide):PE X (.Name x f) (tC v):=λ_ _ _ H _ I h=>lj I hg hm a ⟨v,H,I,r,h⟩ hn hd
variable{a b:Expr}{g p:TE}{f:Pos}
def PC(X:Cx)(h:CmpOp)(a b:Expr)(t:TE):Prop:=∀(c:Ob)(s:Shared)(e:St)(H:Hp)(Q:VK),aO X c e H s->t e H Q->wpAny (model X.prog X.w) X.A (eval a X.env) (λv s₁=>wpAny (model X.prog X.w) X.A (eval b X.env) (λu d=>wpAny (model X.prog X.w) X.A (compareOp h v u) (EP X c e Q) X.xe d) X.xe s₁) X.xe s
def tB(t:TE):TT:=λd H Q=>t d H λx e=>∃c,x=.bl c/\Q c e
def mz(h:PC X i a b t)(h1:behindInMarks i b=false:=by first|exact nobehind _ (by decide) (by decide)|rfl):PT X (.Compare a [i] [b] f) (tB t):=by intro e s j H Q I k;refine wpAny_isTrue_Compare1 (cE (h e s j H _ I k) λv o h1=>cE h1 λu r h2=>cE h2 λc w⟨x,l,I1,m,n⟩=>?_) h1;obtain⟨d,rfl,q⟩:=n;cases m;exact s_ ⟨l,I1,q⟩
variable{n o:TT}{qv:Og}
def LD(t u:TT):TT:=λd H Q=>t d H λc e=>if c=true then u d e Q else Q false e
def tOr(t u:TT):TT:=λd H Q=>t d H λc e=>if c=true then Q true e else u d e Q
def Lz(t:TT):TT:=λd H Q=>t d H λc e=>Q (!c) e
def jC(i:PT X a n):PW X (.BoolOp .And [a] f) n:=by intro k d s j H Q I h;refine isTrue_and (cE (i d s j H Q I h) λc l e=>?_);cases c with|true=>exact isTrue_and_nil e|false=>exact e
def dL(i:PT X a n):PW X (.BoolOp .Or [a] f) n:=by intro k d s j H Q I h;refine isTrue_or (cE (i d s j H Q I h) λc l e=>?_);cases c with|false=>exact isTrue_or_nil e|true=>exact e
def my(l:PT X a n)(m:PW X (.BoolOp .And (b::qv) f) o):PW X (.BoolOp .And (a::b::qv) f) (LD n o):=by intro k d s e H Q I h;refine isTrue_and (cE (l d s e H _ I h) λc q r=>?_);obtain⟨i,I1,j⟩:=r;cases c with|true=>exact m k d q e i Q I1 j|false=>exact⟨i,I1,j⟩
def fb(l:PT X a n)(m:PW X (.BoolOp .Or (b::qv) f) o):PW X (.BoolOp .Or (a::b::qv) f) (tOr n o):=by intro k d s e H Q I h;refine isTrue_or (cE (l d s e H _ I h) λc q r=>?_);obtain⟨i,I1,j⟩:=r;cases c with|true=>exact⟨i,I1,j⟩|false=>exact m k d q e i Q I1 j
def cf(e:PT X a n):PT X (.UnaryOp .Not a f) (Lz n):=by intro d s i H Q I h;exact isTrue_not (e d s i H (λc j=>Q (!c) j) I h)
def Km(g p:TE):TE:=λd H Q=>g d H λx e=>∃c,x=.bl c/\if c=true then p d e Q else Q (.bl false) e
def Ly(g p:TE):TE:=λd H Q=>g d H λx e=>∃c,x=.bl c/\if c=true then Q (.bl true) e else p d e Q
def Kg(g:TE):TE:=λd H Q=>g d H λx e=>∃c,x=.bl c/\Q (.bl (!c)) e
def c8{d}(h:PE X a t):PE X (.BoolOp d [a] f) t:=λc s e H Q I i=>BoolOp_one (h c s e H Q I i)
def cp(l:PE X a g)(m:PE X (.BoolOp .And (b::qv) f) p):PE X (.BoolOp .And (a::b::qv) f) (Km g p):=by intro d s i H Q I h;refine BoolOp_and (cE (l d s i H _ I h) λv k q=>?_);obtain⟨x,j,I1,r,e⟩:=q;obtain⟨c,rfl,e⟩:=e;cases r;refine s_ ?_;cases c with|true=>exact m d k i j Q I1 e|false=>exact⟨.bl false,j,I1,rfl,e⟩
def KG(l:PE X a g)(m:PE X (.BoolOp .Or (b::qv) f) p):PE X (.BoolOp .Or (a::b::qv) f) (Ly g p):=by intro d s i H Q I h;refine BoolOp_or (cE (l d s i H _ I h) λv k q=>?_);obtain⟨x,j,I1,r,e⟩:=q;obtain⟨c,rfl,e⟩:=e;cases r;refine s_ ?_;cases c with|false=>exact m d k i j Q I1 e|true=>exact⟨.bl true,j,I1,rfl,e⟩
def DT(i:PE X a g):PE X (.UnaryOp .Not a f) (Kg g):=by intro d s j H Q I h;refine UnaryOp_ (cE (i d s j H _ I h) λv q k=>?_);obtain⟨x,l,I1,m,e⟩:=k;obtain⟨c,rfl,e⟩:=e;cases m;exact not_of (s_ ⟨.bl (!c),l,I1,rfl,e⟩)
end
end L2
namespace L2
open PySem PySem.Spec PyProof.Rows
def aY(K:N_)(H:Hp)(a:Addr)(c:List V):Prop:=Rd H a (.lst c)\/∃(o:Obj)(b:Oh)(n:Nat),K.lookup a=some o/\o.cls=.type "list"/\o.dict=none/\o.data=.seq b n/\b.size<=sizeLine/\bf c b.toList
def aS(K:N_)(H:Hp)(a:Addr)(c:List V):Prop:=Rd H a (.tup c)\/∃(o:Obj)(b:Oh)(n:Nat),K.lookup a=some o/\o.cls=.type "tuple"/\o.data=.seq b n/\b.size<=sizeLine/\bf c b.toList
def LT:Value->Option V|.none=>some .non|.bool b=>some (.bl b)|.int i _=>some (.int i)|.str x _=>some (.str x)|.bytes b _=>some (.byt b)|.float b _=>some (.flt b)|.ref a=>some (.ref a)|.type n=>some (.ty n)|_=>none
def bd.abs(r:bd x u):LT u=some x:=by cases x with|non=>cases r;rfl|bl _=>cases r;rfl|int _=>obtain⟨t,rfl⟩:=r;rfl|str _=>obtain⟨t,rfl⟩:=r;rfl|byt _=>obtain⟨t,rfl⟩:=r;rfl|flt _=>obtain⟨t,rfl⟩:=r;rfl|ref _=>cases r;rfl|ty _=>cases r;rfl
def bd.inj(r:bd x u)(q:bd y u):x=y:=nB (r.abs.symm.trans q.abs)
theorem bf.inj:∀{a c:List V}{d:Od},bf a d->bf c d->a=c|_,_,_,.nil,.nil=>rfl|_,_,_,.cons r t,.cons b e=>by rw[r.inj b,bf.inj t e]
section
variable{X:Cx}{c:Ob}{g:St}{H:Hp}{s:Shared}{a:Addr}{xs f:List V}
def aY.of{K:N_}(h:H a=some (.lst xs)):aY K H a xs:=.inl (.inl h)
def aS.of{K:N_}(h:H a=some (.tup xs)):aS K H a xs:=.inl (.inl h)
def aO.list(I:aO X c g H s)(h:aY X.K H a xs):∃d:List Value,bf xs d/\PlainL s.heap a d.toArray/\xs.length<=sizeLine:=by
 rcases h with h|⟨o,d,n,b,hc,hd,i,j,r⟩
 ·obtain⟨z,d,n,r,e⟩:=h.ok I.hok;exact⟨d,r,⟨_,n,e,rfl,rfl,rfl⟩,z⟩
 ·refine⟨d.toList,r,⟨o,n,I.kIn a o b,hc,hd,by simpa using i⟩,?_⟩;have e:=r.length;simp only[o0]at e;lia
def aO.tuple(I:aO X c g H s)(h:aS X.K H a xs):∃d:List Value,bf xs d/\IsTup s.heap a d.toArray/\xs.length<=sizeLine:=by
 rcases h with h|⟨o,d,n,b,hc,i,j,r⟩
 ·obtain⟨z,d,r,p⟩:=h.ok I.hok;exact⟨d,r,p,z⟩
 ·refine⟨d.toList,r,⟨o,I.kIn a o b,hc,n,by simpa using i⟩,?_⟩;have e:=r.length;simp only[o0]at e;lia
def aO.list_inj(I:aO X c g H s)(h:aY X.K H a xs)(h':aY X.K H a f):xs=f:=by
 obtain⟨i,r,⟨o,n,e,_,_,d⟩,_⟩:=I.list h;obtain⟨b,l,⟨p,q,j,_,_,k⟩,_⟩:=I.list h';rw[e]at j;cases j;rw[d]at k;injection k with m _;have:i=b:=by simpa using w_ Array.toList m
 subst this;exact r.inj l
def aO.tuple_inj(I:aO X c g H s)(h:aS X.K H a xs)(h':aS X.K H a f):xs=f:=by
 obtain⟨i,r,⟨o,e,_,n,d⟩,_⟩:=I.tuple h;obtain⟨b,l,⟨p,j,_,q,k⟩,_⟩:=I.tuple h';rw[e]at j;cases j;rw[d]at k;injection k with m _;have:i=b:=by simpa using w_ Array.toList m
 subst this;exact r.inj l
end
abbrev Cx.wish(X:Cx)(E:Oa):Cx:={X with xe:=E}
abbrev Cx.nox(X:Cx):Cx:=X.wish λ_ _=>False
theorem Cx.Ok.wish{X:Cx}(ok:X.Ok)(E:Oa):(X.wish E).Ok:=⟨ok.mod,ok.kind,ok.glob,ok.blt,ok.above,ok.inj,ok.has,ok.cab,ok.hd,ok.frames,ok.stk,ok.exf,ok.bs,ok.bsz,ok.noex,ok.exfs,ok.funs,ok.frf⟩
def Cx.Ok.unwish{X:Cx}{E:Oa}(ok:(X.wish E).Ok):X.Ok:=⟨ok.mod,ok.kind,ok.glob,ok.blt,ok.above,ok.inj,ok.has,ok.cab,ok.hd,ok.frames,ok.stk,ok.exf,ok.bs,ok.bsz,ok.noex,ok.exfs,ok.funs,ok.frf⟩
section
variable{X:Cx}{a:Ob}{c:St}{H:Hp}{s:Shared}{E:Oa}
theorem aO.wish(I:aO X a c H s)(E:Oa):aO (X.wish E) a c H s:=⟨I.ok.wish E,I.os,I.bare,I.base,I.loc,I.cell,I.free,I.freeC,I.pin,I.hok,I.len⟩
theorem aO.unwish(I:aO (X.wish E) a c H s):aO X a c H s:=⟨I.ok.unwish,I.os,I.bare,I.base,I.loc,I.cell,I.free,I.freeC,I.pin,I.hok,I.len⟩
theorem SP.unwish(h:SP (X.wish E) a D f e):SP X a D f e:=by cases f with|next=>obtain⟨b,d,I,q⟩:=h;exact⟨b,d,I.unwish,q⟩|brk=>obtain⟨b,d,I,q⟩:=h;exact⟨b,d,I.unwish,q⟩|cont=>obtain⟨b,d,I,q⟩:=h;exact⟨b,d,I.unwish,q⟩|ret u=>obtain⟨v,b,d,I,r,q⟩:=h;exact⟨v,b,d,I.unwish,r,q⟩
theorem vx.nox{st:List Stmt}{t:TS}(h:vx X.nox st t):vx X st t:=λa s c H D I b=>wpAny_mono (h a s c H D (I.wish _) b) (λ_ _ q=>q.unwish) λ_ _ z=>False.elim z
end
section
variable{X:Cx}{st:Stmt}{qv:List Stmt}{t u:TS}{e:Expr}{te:TE}{g:Pos}
def x4:TS:=λD a H=>D.nx a H
def tf(t u:TS):TS:=λD a H=>t {D with nx:=u D} a H
def aF:vx X [] x4:=λ_ _ a H _ I h=>MQ ⟨a,H,I,h⟩
def ai(h1:PS X st t)(h2:vx X qv u):vx X (st::qv) (tf t u):=by intro a s c H D I h;refine NX (cE (h1 a s c H {D with nx:=u D} I h) λf d q=>?_);cases f with|next=>obtain⟨b,i,j,q⟩:=q;exact h2 a d b i D j q|ret v=>exact q|brk=>exact q|cont=>exact q
def aj(h1:PS X st t):vx X [st] t:=by intro a s b H D I h;refine NX (cE (h1 a s b H D I h) λf c q=>?_);cases f with|next=>exact MQ q|ret v=>exact q|brk=>exact q|cont=>exact q
def aO.quiet(I:aO X a c H s):interactive X.env=false:=by simp[interactive,I.ok.kind]
def Kk(te:TE):TS:=λD a H=>te a H λ_ b=>D.nx a b
def aZ(c:PE X e te)(d:swapsWith e none g.line X.env=pure false:=by rfl):PS X (.Expr e g) (Kk te):=by intro a s b H D I h;exact wpAny_Expr_any (cE (c a s b H _ I h) λv j⟨x,f,I1,k,i⟩=>⟨b,f,I1,i⟩) I.quiet d
def Ke(te:TE):TS:=λD a H=>te a H D.rt
def aB(c:PE X e te):PS X (.Return (some e) g) (Ke te):=by intro a s b H D I h;refine wpAny_Return_some (cE (c a s b H _ I h) λv k d=>?_);obtain⟨x,f,I1,i,j⟩:=d;exact⟨x,b,f,I1,i,j⟩
def FG(c:TT)(t u:TS):TS:=λD a H=>c a H λb d=>if b=true then t D a d else u D a d
def aM(hc:PT X c tc)(m:vx X a t)(n:vx X b u):PS X (.If c a b g) (FG tc t u):=by intro f s i H D I h;refine wpAny_If (cE (hc f s i H _ I h) λd j o=>?_);obtain⟨k,I1,l⟩:=o;cases d with|true=>exact m f j i k D I1 l|false=>exact n f j i k D I1 l
def HZ:TS:=λ_ _ _=>False
def fM:PS X st HZ:=λ_ _ _ _ _ _ h=>h.elim
end
abbrev TG:=V->St->Hp->(St->Hp->Prop)->Prop
abbrev J4:=List V->St->Hp->(St->Hp->Prop)->Prop
def PG(X:Cx)(a:Expr)(t:TG):Prop:=∀(b:Ob)(s:Shared)(d:St)(H:Hp)(v:V)(u:Value)(Q:St->Hp->Prop),aO X b d H s->bd v u->t v d H Q->wpAny (model X.prog X.w) X.A (assign a X.env u) (λ_ f=>∃c e,aO X b c e f/\Q c e) X.xe s
def JP(X:Cx)(g:Og)(t:J4):Prop:=∀(a:Ob)(s:Shared)(c:St)(H:Hp)(d:List V)(e:Od)(Q:St->Hp->Prop),aO X a c H s->bf d e->t d c H Q->wpAny (model X.prog X.w) X.A (assignInOrder ((assignEach g X.env).map (·.2)) e) (λ_ h=>∃b f,aO X a b f h/\Q b f) X.xe s
abbrev Hc:=V->V->V->Hp->(Hp->Prop)->Prop
def Hg(X:Cx)(t:Hc):Prop:=∀(a:Ob)(s:Shared)(b:St)(H:Hp)(o i v:V)(c iv u:Value)(Q:Hp->Prop),aO X a b H s->bd o c->bd i iv->bd v u->t o i v H Q->wpAny (model X.prog X.w) X.A (setItem c iv u) (λ_ e=>∃d,aO X a b d e/\Q d) X.xe s
section
variable{X:Cx}{c:Pos}
def jK(i:Nat):TG:=λv a H Q=>Q (a.set i (some v)) H
def wT(d:X.N.Nodup)(hi:X.N[i]?=some x)(e:JV X.env.scope x)(f:X.fn x=true\/X.env.scope.names.lookup x=some .local:=by first|exact .inl rfl|exact .inr rfl|assumption):PG X (.Name x c) (jK i):=by intro a s g H v u Q I r h;exact wpAny_assign_Name (tm I d hi e r (λj b=>⟨_,H,b,h⟩) f)
def K9:J4:=λa b H Q=>a=[]/\Q b H
def ET(t:TG)(u:J4):J4:=λb d H Q=>∃v r,b=v::r/\t v d H λa e=>u r a e Q
def gp:JP X [] K9:=by intro a s b H d f Q I r h;obtain⟨e,h⟩:=h;subst e;cases r;exact assignInOrder_nil ⟨b,H,I,h⟩
def bH(h1:PG X e t)(h2:JP X d u)(f:(assignEach (e::d) X.env).map (·.2)=assign e X.env::(assignEach d X.env).map (·.2):=by rfl):JP X (e::d) (ET t u):=by intro a s g H o p Q I r h;obtain⟨v,q,i,h⟩:=h;subst i;cases r with|cons r j=>rw[f];refine assignInOrder_cons (cE (h1 a s g H _ _ _ I r h) λ_ k l=>?_);obtain⟨b,m,I1,n⟩:=l;exact h2 a k b m _ _ Q I1 j n
def Jr(K:N_)(n:Nat)(t:J4):TG:=λv d H Q=>∃a b,v=.ref a/\aS K H a b/\b.length=n/\t b d H Q
def IS(hc:X.calm=true)(h:JP X f t)(hn:(assignEach f X.env).length=n:=by rfl)(g:(assignEach f X.env).findIdx? (·.1)=none:=by rfl):PG X (.Tuple f k c) (Jr X.K n t):=by intro d s j H v u Q I r i;obtain⟨a,m,p,q,w,i⟩:=i;subst p;cases r;obtain⟨x,l,y,A⟩:=I.tuple q;refine assign_Tuple_tuple (I.ok.hd hc) y (by simp[hn,<-w,l.length]) g λh' z=>?_;have I1:aO X d j H {s with heap:=h'}:=I.kept (t':=s.toks) λb o e=>z b o (ot (np e)) e;exact h d _ j H m _ Q I1 (by simpa using l) i
def LQ(d e:TE)(t:Hc):TG:=λv a H Q=>d a H λo b=>e a b λi f=>t o i v f λg=>Q a g
def ja(f:PE X o g)(hi:PE X i j)(l:Hg X t)(m:∀v,assign (.Subscript o i c) X.env v=(do
   let d<-holding [v] (eval o X.env)let iv<-holding [v,d] (eval i X.env)standAt c
   holding [v,d,iv] (setItem d iv v)release [v,d,iv] []):=by intro _;rfl):PG X (.Subscript o i c) (LQ g j t):=by intro a s e H v u Q I r h;rw[m];refine a_ (ri (cE (f a s e H _ I h) λd k b=>?_));obtain⟨x,n,I1,p,q⟩:=b;refine a_ (ri (cE (hi a k e n _ I1 q) λiv w b=>?_));obtain⟨y,z,A,r2,B⟩:=b;refine a_ (wpAny_standAt (a_ (ri (cE (l a w e z x y v d iv u _ A p r2 r B) λ_ F b=>?_))));obtain⟨C,D,E⟩:=b;exact wpAny_release ⟨e,C,D,E⟩
def wL(te:TE)(g:TG):TS:=λD a H=>te a H λx b=>g x a b D.nx
def iC(f:PE X e te)(hg:PG X d g)(i:swapsWithSole [d] e c.line X.env=pure false:=by rfl)(j:swappedStores [d] e X.env=pure none:=by rfl)(h1:(assignEach [d] X.env).map (·.2)=[assign d X.env]:=by rfl):PS X (.Assign [d] e c) (wL te g):=by intro a s b H D I h;refine wpAny_Assign_stores (cE (f a s b H _ I h) λv k⟨x,l,I1,m,n⟩=>?_) i j;rw[h1];exact cE (hg a k b l x v _ I1 m n) λ_ o q=>q
def oC(d:X.N.Nodup)(hi:X.N[i]?=some x)(f:JV X.env.scope x)(g:PE X e te)(j:swapsWith e (some (.Name x a)) c.line X.env=pure false:=by rfl)(l:X.fn x=true\/X.env.scope.names.lookup x=some .local:=by first|exact .inl rfl|exact .inr rfl|assumption):PS X (.Assign [.Name x a] e c) (wL te (jK i)):=by intro b s k H D I h;refine wpAny_Assign_Name (cE (g b s k H _ I h) λv q⟨y,m,I1,n,o⟩=>?_) j;exact tm I1 d hi f n (λr p=>⟨_,m,p,o⟩) l
end
section
variable{X:Cx}{a:Pos}
end
structure It where
 go:Nat->Hp->Prop
 yld:Nat->Hp->V->Hp->Prop
 stop:Nat->Hp->Prop
def vz(X:Cx)(a:Ob)(H:Hp)(b:Addr):Prop:=H b=none/\b≠X.env.locals/\b∉X.fs/\(b∈X.ex\/X.s₀.heap.objs.size<=b)/\(∀x c,X.env.cells.lookup x=some c->c≠b)/\∀p∈X.pn++a,p.1≠b
def aO.fpOk(I:aO X a h H s)(d:s.heap.objs.size<=b)(hn:f b=none):vz X a f b:=by
 refine⟨hn,qr (pv I.lt d),I.nofs d,.inr (n7 I.sz d),λx c e z=>?_,λp g z=>?_⟩
 ·obtain⟨v,q⟩:=I.cell x c e;exact absurd (pv q.lt (by rw[z];exact d)) (sm _)
 ·exact absurd (pv (np (I.pin p g).1) (by rw[z];exact d)) (sm _)
structure vw(P:Oe)(w:World)(K:N_)(tg:Expr)(J:It)(fp:Oj)(it:Addr)(tn:Nat->Heap->Prop):Prop where
 mem:it∈fp
 obj:∀i h,tn i h->∀b∈fp,∃o,h.get? b=some o/\∀v,o.data≠.cell v
 keep:∀i h h',tn i h->(∀b∈fp,∀o,h.get? b=some o->h'.get? b=some o)->tn i h'
 item:∀(X:Cx),X.prog=P->X.w=w->X.K=K->X.calm=true->∀(i:Nat)(pins:Ob)(s:Shared)(σ:St)(H:Hp)(E:Oa),aO X pins σ H s->(∀b∈fp,vz X pins H b)->tn i s.heap->J.go i H->wpAny (model P w) X.A (pyNext (.ref it)) (λr s1=>∃u,r=some u/\wpAny (model P w) X.A (letOwnedTupleGo tg (.ref it) u) (λ_ s2=>∃x H',aO X pins σ H' s2/\bd x u/\J.yld i H x H'/\tn (i+1) s2.heap/\∀b∈fp,H' b=none) E s1) E s
 done:∀(X:Cx),X.prog=P->X.w=w->X.K=K->X.calm=true->∀(i:Nat)(pins:Ob)(s:Shared)(σ:St)(H:Hp)(E:Oa),aO X pins σ H s->(∀b∈fp,vz X pins H b)->tn i s.heap->J.stop i H->wpAny (model P w) X.A (pyNext (.ref it)) (λr s1=>r=none/\aO X pins σ H s1) E s
 self:∀(A:Around)(i:Nat)(s:Shared)(Q:Oa)(E:Oa),tn i s.heap->Q (.ref it) s->wpAny (model P w) A (pyIter (.ref it)) Q E s
abbrev TI:=St->Hp->(It->Hp->Prop)->Prop
def LW(X:Cx)(a:Ob)(g:St)(h:Expr)(R:It->Hp->Prop)(c:Value)(e:Shared):Prop:=∃(f:Addr)(fp:Oj)(tn:Nat->Heap->Prop)(J:It)(d:Hp),c=.ref f/\aO X a g d e/\vw X.prog X.w X.K h J fp f tn/\tn 0 e.heap/\(∀b∈fp,vz X a d b)/\R J d
def PI(X:Cx)(c iter:Expr)(d:TI):Prop:=∀(a:Ob)(s:Shared)(b:St)(H:Hp)(R:It->Hp->Prop),aO X a b H s->d b H R->wpAny (model X.prog X.w) X.A (eval iter X.env) (λv e=>wpAny (model X.prog X.w) X.A (pyIter v) (LW X a b c R) X.xe e) X.xe s
def wg(c:s.heap.get? d=some o)(hc:o.cls=.type n)(hd:o.data=.fields e)(hn:["enumerate","zip","dict_itemiterator","dict_reverseitemiterator","odict_iterator","itertools.zip_longest","itertools.pairwise"].contains n=false)(a:Q () s):wpAny M A (letOwnedTupleGo f (.ref d) u) Q E s:=by unfold letOwnedTupleGo;cases f<;>first|exact e_ a|(cases u<;>first
 |exact e_ a
    |(refine a_ (wpAny_load c ?_)
      rw[hc,hd];show wpAny M A (if(["enumerate","zip","dict_itemiterator","dict_reverseitemiterator","odict_iterator","itertools.zip_longest","itertools.pairwise"].contains n&&e[0]?==some (rawInt _))=true then _ else _) Q E s;rw[l_ (by intro h;rw[hn,Bool.false_and]at h;cases h)];exact e_ a))
def HL(K:N_)(a:Addr):It:=⟨λi H=>∃b x,aY K H a b/\b[i]?=some x,λi H x c=>c=H/\∀b,aY K H a b->b[i]?=some x,λi H=>∃b,aY K H a b/\b.length<=i⟩
def HK(K:N_)(a:Addr):It:=⟨λi H=>∃b x,aS K H a b/\b[i]?=some x,λi H x c=>c=H/\∀b,aS K H a b->b[i]?=some x,λi H=>∃b,aS K H a b/\b.length<=i⟩
def Fz(lo:Int)(n:Nat):It:=⟨λi _=>i<n,λi H x a=>a=H/\x=.int (lo+i),λi _=>n<=i⟩
def BB{P:Oe}{w:World}{K:N_}{J:Expr}(a g:Addr):vw P w K J (HL K a) [g] g (λi h=>h.IsListIter g a i)where
 mem:=by simp
 obj:=λi h st b j=>by
  have e:b=g:=by simpa using j
  subst e;obtain⟨o,e,c,d⟩:=st;exact⟨o,e,λv z=>by rw[d]at z;cases z⟩
 keep:=λi h h' st k=>st.at λo e=>k g (by simp) o e
 item:=by intro X q r t hc i f s G H E I m st hg;subst q r t;obtain⟨L,x,n,y⟩:=hg;obtain⟨A,B,p,M⟩:=I.list n;obtain⟨u,N,ru⟩:=B.get y;obtain⟨C,f1,f2,f3,D,F⟩:=m g (by simp);refine wpAny_pyNext_list_item st p.isList (x:=u) (by simpa using N) λh' l O=>?_;have I1:aO X f G H {s with heap:=h'}:=I.turned (t':=s.toks) (λb o j e=>(O.2 b j).trans e) C f1 f3 D F;obtain⟨o,e,c,d⟩:=id l;exact⟨u,rfl,wg (s:={s with heap:=h'}) e c d (by decide) ⟨x,H,I1,ru,⟨rfl,λT R=>by rw[I.list_inj R n];exact y⟩,l,λb j=>(m b j).1⟩⟩
 done:=by intro X q r t hc i f s G H E I m st hg;subst q r t;obtain⟨L,n,y⟩:=hg;obtain⟨A,B,p,M⟩:=I.list n;obtain⟨C,f1,f2,f3,D,F⟩:=m g (by simp);have U:=B.length;exact wpAny_pyNext_list_end (I.ok.hd hc) st p.isList (by simp;lia) λh' S=>⟨rfl,I.turned (t':=s.toks) (λb o j e=>S b o j e) C f1 f3 D F⟩
 self:=λ_ _ _ _ _ st h=>wpAny_pyIter_listiter st h
def zw{P:Oe}{w:World}{K:N_}{J:Expr}(a g:Addr):vw P w K J (HK K a) [g] g (λi h=>h.IsTupleIter g a i)where
 mem:=by simp
 obj:=λi h st b j=>by
  have e:b=g:=by simpa using j
  subst e;obtain⟨o,e,c,d⟩:=st;exact⟨o,e,λv z=>by rw[d]at z;cases z⟩
 keep:=λi h h' st k=>st.at λo e=>k g (by simp) o e
 item:=by intro X r t y hc i f s G H E I n st hg;subst r t y;obtain⟨L,x,q,A⟩:=hg;obtain⟨l,B,p,M⟩:=I.tuple q;obtain⟨u,N,ru⟩:=B.get A;obtain⟨C,f1,f2,f3,D,F⟩:=n g (by simp);refine wpAny_pyNext_tuple_item st (show s.heap.IsTuple a l.toArray from p) (x:=u) (by simpa using N) λh' m O=>?_;have I1:aO X f G H {s with heap:=h'}:=I.turned (t':=s.toks) (λb o j e=>(O.2 b j).trans e) C f1 f3 D F;obtain⟨o,e,c,d⟩:=id m;exact⟨u,rfl,wg (s:={s with heap:=h'}) e c d (by decide) ⟨x,H,I1,ru,⟨rfl,λT R=>by rw[I.tuple_inj R q];exact A⟩,m,λb j=>(n b j).1⟩⟩
 done:=by intro X r t y hc i f s G H E I n st hg;subst r t y;obtain⟨L,q,A⟩:=hg;obtain⟨l,B,p,M⟩:=I.tuple q;obtain⟨C,f1,f2,f3,D,F⟩:=n g (by simp);have U:=B.length;exact wpAny_pyNext_tuple_end (I.ok.hd hc) st (show s.heap.IsTuple a l.toArray from p) (by simp;lia) λh' S=>⟨rfl,I.turned (t':=s.toks) (λb o j e=>S b o j e) C f1 f3 D F⟩
 self:=λ_ _ _ _ _ st h=>wpAny_pyIter_tupleiter st h
def zx{P:Oe}{w:World}{K:N_}{x:Expr}(a:Addr)(lo:Int)(n:Nat):vw P w K x (Fz lo n) [a] a (λi h=>IsRangeIter h a (lo+(i:Nat)*1) ((n:Int)-(i:Nat)) 1)where
 mem:=by simp
 obj:=λi h st b d=>by
  have e:b=a:=by simpa using d
  subst e;exact⟨_,st,λv z=>by have y:Data.fields _=Data.cell v:=z;cases y⟩
 keep:=λi h h' st k=>k a (by simp) _ st
 item:=by intro X j l m hc i c s u H E I g st hg;subst j l m;obtain⟨p,f1,f2,f3,q,r⟩:=g a (by simp);have W:=Walks.range (prog:=X.prog) (w:=X.w) (I.ok.hd hc) a lo 1 n;refine W.item i s _ _ hg st λv h' tk A f B=>?_;obtain⟨t,rfl⟩:=A;have I1:aO X c u H {s with heap:=h',toks:=tk}:=I.turned (λb o d e=>B b o (by simpa using d) e) p f1 f3 q r;refine⟨_,rfl,wg (s:={s with heap:=h',toks:=tk}) (n:="range_iterator") f rfl rfl (by decide) ⟨.int (lo+i),H,I1,⟨t,?_⟩,⟨rfl,rfl⟩,f,λb d=>(g b d).1⟩⟩;rw[Int.mul_one]
 done:=by intro X j l m hc i c s u H E I g st hg;subst j l m;obtain⟨p,f1,f2,f3,q,r⟩:=g a (by simp);exact wpAny_pyNext_range_end (I.ok.hd hc) st (by have:n<=i:=hg;lia) λh' C=>⟨rfl,I.turned (t':=s.toks) (λb o d e=>C b o d e) p f1 f3 q r⟩
 self:=λ_ _ _ _ _ st h=>wpAny_pyIter_rangeiter st h
end L2
namespace L2
open PySem PySem.Spec PyProof.Rows
section
variable{X:Cx}{c:Expr}
def Hy(K:N_)(d:TE):TI:=λe H R=>d e H λx b=>∃a,x=.ref a/\(∃f,aY K b a f)/\R (HL K a) b
def K1(K:N_)(d:TE):TI:=λe H R=>d e H λx b=>∃a,x=.ref a/\(∃f,aS K b a f)/\R (HK K a) b
def Gk{l:Expr}{g:TE}(i:PE X l g):PI X c l (Hy X.K g):=by
 intro d s j H R I h;refine cE (i d s j H _ I h) λv f k=>?_;obtain⟨x,m,I1,n,r⟩:=k;obtain⟨a,e,⟨y,t⟩,q⟩:=r;subst e;cases n;obtain⟨u,z,p,A⟩:=I1.list t;refine M0 p.isList ?_;refine⟨f.heap.objs.size,[f.heap.objs.size],_,_,m,rfl,I1.kept (t':=f.toks) λb o e=>c_ _ e,BB a _,⟨_,j_ _ rfl,rfl,rfl⟩,λb w=>?_,q⟩;have e:b=f.heap.objs.size:=by simpa using w
 subst e;exact I1.fpOk (f_ _) (I1.hok.fresh (f_ _))
def IR{l:Expr}{i:TE}(j:PE X l i):PI X c l (K1 X.K i):=by
 intro d s k H R I h;refine cE (j d s k H _ I h) λv f m=>?_;obtain⟨x,n,I1,r,t⟩:=m;obtain⟨a,e,⟨y,u⟩,q⟩:=t;subst e;cases r;obtain⟨g,z,p,A⟩:=I1.tuple u;refine MB (show f.heap.IsTuple a g.toArray from p) ?_;refine⟨f.heap.objs.size,[f.heap.objs.size],_,_,n,rfl,I1.kept (t':=f.toks) λb o e=>c_ _ e,zw a _,⟨_,j_ _ rfl,rfl,rfl⟩,λb w=>?_,q⟩;have e:b=f.heap.objs.size:=by simpa using w
 subst e;exact I1.fpOk (f_ _) (I1.hok.fresh (f_ _))
def yn{a:Ob}{d:St}{H:Hp}{s:Shared}{R:It->Hp->Prop}{E:Oa}{lo hi:Int}{t u v:Tok}{tk:Nat}(I:aO X a d H s)(h1:-(2^62)<=lo)(h2:lo<2^62)(h3:-(2^62)<=hi)(h4:hi<2^62)(q:R (Fz lo (hi-lo).toNat) H):wpAny (model X.prog X.w) X.A (pyIter (.ref s.heap.objs.size)) (LW X a d c R) E {s with heap:=s.heap.push {cls:=.type "range",data:=.fields #[.int lo t,.int hi u,.int 1 v]},toks:=tk}:=by
 refine wpAny_pyIter_range (IsRange.new ..) (small_one h1 h2 h3 h4) ?_;have I1:aO X a d H {s with heap:=s.heap.push {cls:=.type "range",data:=.fields #[.int lo t,.int hi u,.int 1 v]},toks:=tk}:=I.kept λb o e=>c_ _ e;refine⟨(s.heap.push {cls:=.type "range",data:=.fields #[.int lo t,.int hi u,.int 1 v]}).objs.size,[(s.heap.push {cls:=.type "range",data:=.fields #[.int lo t,.int hi u,.int 1 v]}).objs.size],_,_,H,rfl,I1.kept (t':=tk) λb o e=>c_ _ e,zx _ lo (hi-lo).toNat,?_,λb f=>?_,q⟩
 ·have g:lo+((0:Nat):Int)*1=lo:=by simp
  have h:(((hi-lo).toNat:Nat):Int)-((0:Nat):Int)=Builtin.Range.rangeSize lo hi 1:=by rw[rangeSize_one];split<;>lia
  show IsRangeIter _ _ (lo+((0:Nat):Int)*1) ((((hi-lo).toNat:Nat):Int)-((0:Nat):Int)) 1;rw[g,h];exact j_ _ rfl
 ·have e:b=(s.heap.push {cls:=.type "range",data:=.fields #[.int lo t,.int hi u,.int 1 v]}).objs.size:=by simpa using f
  subst e;exact I1.fpOk (f_ _) (I1.hok.fresh (f_ _))
def K3(a:TA):TI:=λb H R=>a b H λd e=>∃j:Int,d=[.int j]/\-(2^62)<=j/\j<2^62/\R (Fz 0 j.toNat) e
def K2(a:TA):TI:=λb H R=>a b H λd e=>∃i j:Int,d=[.int i,.int j]/\(-(2^62)<=i/\i<2^62/\-(2^62)<=j/\j<2^62)/\R (Fz i (j-i).toNat) e
def cY{a:Expr}{g:TA}{p d:Pos}(hg:Gl X "range")(hm:X.mg "range"=none)(i:PA X [a] g)(l:starEach [a] X.env=[(false,eval a X.env)]:=by rfl):PI X c (.Call (.Name "range" p) [a] [] d) (K3 g):=by intro b s k H R I h;refine Call_ (lj I hg hm boot_range (F_ (cE (i d b s k H _ I h) λu v⟨w,x,I1,m,f⟩=>?_) l rfl));obtain⟨j,e,f,n,q⟩:=f;subst e;cases m with|cons r o=>cases o;obtain⟨t,rfl⟩:=r;exact call_range_1 (yn I1 (by lia) (by lia) f n (by simpa using q))
def vS(hg:Gl X "range")(hm:X.mg "range"=none)(m:PA X [a,b] n)(o:starEach [a,b] X.env=[(false,eval a X.env),(false,eval b X.env)]:=by rfl)(d:starEach [b] X.env=[(false,eval b X.env)]:=by rfl):PI X c (.Call (.Name "range" p) [a,b] [] g) (K2 n):=by intro f s u H R I h;refine Call_ (lj I hg hm boot_range (F_ (cE (m g f s u H _ I h) λA B⟨C,D,I1,v,k⟩=>?_) (by rw[o,d]) (by rw[d];rfl)));obtain⟨i,j,e,⟨k,w,x,y⟩,q⟩:=k;subst e;cases v with|cons r l=>cases l with|cons z l=>cases l;obtain⟨t,rfl⟩:=r;obtain⟨E,rfl⟩:=z;exact call_range_2 (yn I1 k w x y q)
def LB(h:TI)(g:TG)(j:TS):TS:=λD a H=>h a H λJ k=>∃W:Nat->Nat->St->Hp->Prop,(∃m,W 0 m a k)/\∀i m a H,W i m a H->(J.stop i H/\D.nx a H)\/(J.go i H/\∃N:St->Hp->Prop,(∀b d,N b d->∃f,f<m/\W (i+1) f b d)/\∀x d,J.yld i H x d->g x a d λe l=>j {D with nx:=N,ct:=N,bk:=D.nx} e l)
def t5(fp:Oj)(h:Heap):List (Addr×Obj):=fp.filterMap λb=>(h.get? b).map λo=>(b,o)
def lg(a:b∈fp)(e:h.get? b=some o):(b,o)∈t5 fp h:=List.mem_filterMap.mpr ⟨b,a,by rw[e];rfl⟩
def B7(a:p∈t5 fp h):p.1∈fp/\h.get? p.1=some p.2:=by obtain⟨b,d,e⟩:=List.mem_filterMap.mp a;cases q:h.get? b with|none=>rw[q]at e;cases e|some o=>rw[q]at e;have f:(b,o)=p:=nB e;subst f;exact⟨d,q⟩
def aO.pinned(I:aO X a h H s)(i:∀b∈fp,vz X a H b)(j:∀b∈fp,∃o,s.heap.get? b=some o/\∀v,o.data≠.cell v):aO X (a++t5 fp s.heap) h H s:=I.pins_of λp k=>(Ny.mp k).elim (λz=>I.pin p (rd _ z)) λz=>by obtain⟨f,e⟩:=B7 z;obtain⟨l,f1,f2,_⟩:=i p.1 f;obtain⟨o,g,d⟩:=j p.1 f;rw[e]at g;cases g;exact⟨e,l,f1,f2,d⟩
def aO.unpinned(I:aO X (a++pl) d H s):aO X a d H s:=I.pins_of λp b=>I.pin p (rd _ (th _ b))
def d6(E:PassesOwn (model X.prog X.w) X.A X.env X.xe)(hc:X.calm=true)(hi:PI X c iter wi)(hg:PG X c g)(l:vx X F tb)(hs:∀x,foldedSetIterable iter X.env x=pure x:=by intro _;rfl):PS X (.For c iter F [] aa) (LB wi g tb):=by
 intro a s Z H D I h;refine wpAny_For (cE (hi a s Z H _ I h) λv s1 h1=>cE h1 λac s2 h2=>?_) hs;obtain⟨it,fp,tn,J,H2,e,I2,T,P,f2,W,⟨m0,w0⟩,G⟩:=h2;subst e;have k:∀{z:Hp},(∀b∈fp,z b=none)->∀b∈fp,vz X a z b:=λhn b l=>⟨hn b l,(f2 b l).2⟩;refine codeAny_forLoop_any (λn s'=>∃i p z,aO X a p z s'/\tn i s'.heap/\(∀b∈fp,z b=none)/\W i n p z) ?_ m0 ⟨0,Z,H2,I2,P,λb l=>(f2 b l).1,w0⟩;rintro n s3⟨i,q,O,I3,K,L,w3⟩;rcases G i n q O w3 with⟨stop,qn⟩|⟨go,N,hN,step⟩
 ·refine MP E (cE (T.done X rfl rfl rfl hc i a s3 q O X.xe I3 (k L) K stop) λr s4⟨Q,I4⟩=>?_);subst Q;exact MQ ⟨q,O,I4,qn⟩
 ·refine MP E (cE (T.item X rfl rfl rfl hc i a s3 q O X.xe I3 (k L) K go) λr s4⟨u,Q,h4⟩=>?_);subst Q;refine MP E (cE h4 λ_ s5 R=>?_);obtain⟨x,H5,I5,r5,y5,C,S⟩:=R;have U:=I5.pinned (k S) (T.obj _ _ C);refine MP E (cE (hg _ s5 q H5 x u _ U r5 (step x H5 y5)) λ_ s6 R=>?_);obtain⟨V,H6,I6,q6⟩:=R;refine MP E (cE (l _ s6 V H6 _ I6 q6) λf Y B=>?_);have again:∀{j:St}{t:Hp},aO X (a++t5 fp s5.heap) j t Y->N j t->∃m,m<n/\∃i p z,aO X a p z Y/\tn i Y.heap/\(∀b∈fp,z b=none)/\W i m p z:=λ{j t}y M=>by obtain⟨m',hm,w7⟩:=hN j t M;refine⟨m',hm,i+1,j,t,y.unpinned,T.keep _ _ _ C λb l o e=>(y.pin (b,o) (rd _ (rd _ (lg l e)))).1,λb l=>?_,w7⟩;obtain⟨o,e,d⟩:=T.obj _ _ C b l;exact(y.pin (b,o) (rd _ (rd _ (lg l e)))).2.1
  cases f with|next=>obtain⟨j,t,y,M⟩:=B;exact again y M|cont=>obtain⟨j,t,y,M⟩:=B;exact again y M|brk=>obtain⟨j,t,y,B⟩:=B;exact⟨j,t,y.unpinned,B⟩|ret v=>obtain⟨x7,j,t,y,r7,B⟩:=B;exact⟨x7,j,t,y.unpinned,r7,B⟩
end
def uC{K:N_}{a:Addr}{xs:List V}{g:TG}{tb:TS}{D:j3}{c:St}{H:Hp}(Pv:Nat->St->Hp->Prop)(h0:Pv 0 c H)(n:∀i c H,i<=xs.length->Pv i c H->aY K H a xs)(o:∀i x c H,xs[i]?=some x->Pv i c H->g x c H λd j=>tb {D with nx:=Pv (i+1),ct:=Pv (i+1),bk:=D.nx} d j)(hd:∀c H,Pv xs.length c H->D.nx c H):∃W:Nat->Nat->St->Hp->Prop,(∃m,W 0 m c H)/\∀i m c H,W i m c H->((HL K a).stop i H/\D.nx c H)\/((HL K a).go i H/\∃N:St->Hp->Prop,(∀f h,N f h->∃l,l<m/\W (i+1) l f h)/\∀x h,(HL K a).yld i H x h->g x c h λd j=>tb {D with nx:=N,ct:=N,bk:=D.nx} d j):=by
 refine⟨λi m c H=>m=xs.length-i/\i<=xs.length/\Pv i c H,⟨xs.length,by simp,o_ _,h0⟩,?_⟩;rintro i m c H⟨rfl,hi,p⟩;have q:=n i c H hi p
 by_cases b:i<xs.length
 ·refine .inr ⟨⟨xs,xs[i],q,by simp[b]⟩,Pv (i+1),λf h k=>⟨xs.length-(i+1),by lia,rfl,b,k⟩,λx h y=>?_⟩;obtain⟨e,y⟩:=y;subst e;exact o i x c _ (y xs q) p
 ·have e:i=xs.length:=by lia
  subst e;exact .inl ⟨⟨xs,q,f_ _⟩,hd c H p⟩
def GX{K:N_}{a:Addr}{xs:List V}{g:TG}{l:TS}{D:j3}{c:St}{H:Hp}(Pv:Nat->St->Hp->Prop)(h0:Pv 0 c H)(o:∀i c H,i<=xs.length->Pv i c H->aS K H a xs)(r:∀i x c H,xs[i]?=some x->Pv i c H->g x c H λd j=>l {D with nx:=Pv (i+1),ct:=Pv (i+1),bk:=D.nx} d j)(hd:∀c H,Pv xs.length c H->D.nx c H):∃W:Nat->Nat->St->Hp->Prop,(∃m,W 0 m c H)/\∀i m c H,W i m c H->((HK K a).stop i H/\D.nx c H)\/((HK K a).go i H/\∃N:St->Hp->Prop,(∀f h,N f h->∃n,n<m/\W (i+1) n f h)/\∀x h,(HK K a).yld i H x h->g x c h λd j=>l {D with nx:=N,ct:=N,bk:=D.nx} d j):=by
 refine⟨λi m c H=>m=xs.length-i/\i<=xs.length/\Pv i c H,⟨xs.length,by simp,o_ _,h0⟩,?_⟩;rintro i m c H⟨rfl,hi,p⟩;have q:=o i c H hi p
 by_cases b:i<xs.length
 ·refine .inr ⟨⟨xs,xs[i],q,by simp[b]⟩,Pv (i+1),λf h k=>⟨xs.length-(i+1),by lia,rfl,b,k⟩,λx h y=>?_⟩;obtain⟨e,y⟩:=y;subst e;exact r i x c _ (y xs q) p
 ·have e:i=xs.length:=by lia
  subst e;exact .inl ⟨⟨xs,q,f_ _⟩,hd c H p⟩
def ng{lo:Int}{n:Nat}{g:TG}{tb:TS}{D:j3}{a:St}{H:Hp}(Pv:Nat->St->Hp->Prop)(h0:Pv 0 a H)(l:∀i a H,i<n->Pv i a H->g (.int (lo+i)) a H λc h=>tb {D with nx:=Pv (i+1),ct:=Pv (i+1),bk:=D.nx} c h)(hd:∀a H,Pv n a H->D.nx a H):∃W:Nat->Nat->St->Hp->Prop,(∃m,W 0 m a H)/\∀i m a H,W i m a H->((Fz lo n).stop i H/\D.nx a H)\/((Fz lo n).go i H/\∃N:St->Hp->Prop,(∀d f,N d f->∃j,j<m/\W (i+1) j d f)/\∀x f,(Fz lo n).yld i H x f->g x a f λc h=>tb {D with nx:=N,ct:=N,bk:=D.nx} c h):=by
 refine⟨λi m a H=>m=n-i/\i<=n/\Pv i a H,⟨n,by simp,o_ _,h0⟩,?_⟩;rintro i m a H⟨rfl,hi,p⟩
 by_cases b:i<n
 ·refine .inr ⟨b,Pv (i+1),λd f k=>⟨n-(i+1),by lia,rfl,b,k⟩,λx f y=>?_⟩;obtain⟨e,y⟩:=y;subst e y;exact l i a _ b p
 ·have e:i=n:=by lia
  subst e;exact .inl ⟨f_ _,hd a H p⟩
end L2
namespace L2
open PySem PySem.Spec PyProof.Rows
abbrev R2:=V->V->Hp->VK->Prop
def lz(X:Cx)(f:Value->Value->Sem Value)(r:R2):Prop:=∀(a:Ob)(s:Shared)(b:St)(H:Hp)(x y:V)(v u:Value)(Q:VK),aO X a b H s->bd x v->bd y u->r x y H Q->wpAny (model X.prog X.w) X.A (f v u) (EP X a b Q) X.xe s
def LU(X:Cx)(f:Value->Sem Value)(r:V->Hp->VK->Prop):Prop:=∀(a:Ob)(s:Shared)(b:St)(H:Hp)(x:V)(v:Value)(Q:VK),aO X a b H s->bd x v->r x H Q->wpAny (model X.prog X.w) X.A (f v) (EP X a b Q) X.xe s
def dw(X:Cx)(f:Value)(r:List V->Hp->VK->Prop):Prop:=∀(a:Ob)(s:Shared)(b:St)(H:Hp)(c:List V)(d:Od)(Q:VK),aO X a b H s->bf c d->r c H Q->wpAny (model X.prog X.w) X.A (call f d) (EP X a b Q) X.xe s
def LV(X:Cx)(r:V->Hp->(Bool->Hp->Prop)->Prop):Prop:=∀(a:Ob)(s:Shared)(b:St)(H:Hp)(x:V)(v:Value)(Q:Bool->Hp->Prop),aO X a b H s->bd x v->r x H Q->wpAny (model X.prog X.w) X.A (truthy v) (TP X a b Q) X.xe s
def HX(r:R2)(c d:TE):TE:=λa H Q=>c a H λx b=>d a b λy e=>r x y e Q
def tUn(r:V->Hp->VK->Prop)(a:TE):TE:=λb H Q=>a b H λx c=>r x c Q
def rI(C:Int->Int->Prop)(g:Int->Int->V):R2:=λx y H Q=>∃i j,x=.int i/\y=.int j/\C i j/\Q (g i j) H
def Gd(g:Int->Int->V):R2:=λx y H Q=>∃i j,x=.int i/\y=.int j/\Q (g i j) H
def rU(g:Int->V):V->Hp->VK->Prop:=λx H Q=>∃i,x=.int i/\Q (g i) H
section
variable{X:Cx}{a b c:Expr}{d l tc:TE}{e:Pos}
def JE(p:PE X a d)(q:PE X b l){g:Ob}{s:Shared}{i:St}{H:Hp}{R:V->V->Hp->Prop}(I:aO X g i H s)(h:d i H λx o=>l i o λy j=>R x y j){Q:Oa}{f:Value->Value->Sem Value}(r:∀v u n x y j,aO X g i j n->bd x v->bd y u->R x y j->wpAny (model X.prog X.w) X.A (f v u) Q X.xe n):wpAny (model X.prog X.w) X.A (eval a X.env) (λv s₁=>wpAny (model X.prog X.w) X.A (eval b X.env) (λu m=>wpAny (model X.prog X.w) X.A (f v u) Q X.xe m) X.xe s₁) X.xe s:=by refine cE (p g s i H _ I h) λv t k=>?_;obtain⟨x,o,I1,z,B⟩:=k;refine cE (q g t i o _ I1 B) λu n k=>?_;obtain⟨y,j,C,r2,D⟩:=k;exact r v u n x y j C z r2 D
def az{g:Operator}{r:R2}(i:lz X (binaryOp g) r)(j:PE X a d)(m:PE X b l):PE X (.BinOp a g b e) (HX r d l):=by intro f s k H Q I h;exact wpAny_BinOp (JE j m I h λv u n x y o p t w q=>i f n k o x y v u Q p t w q)
def Hv(i:LU X (unaryOp j) r)(m:PE X a d):PE X (.UnaryOp j a e) (tUn r d):=by intro f s g H Q I h;refine UnaryOp_ (cE (m f s g H _ I h) λv k n=>?_);obtain⟨x,o,I1,p,q⟩:=n;exact i f k g o x v Q I1 p q
def KI{f:Value->Value->Sem Value}{C:Int->Int->Prop}{g:Int->Int->Int}(rule:∀(i j:Int)(t u:Tok)(s:Shared)(Q:Oa)(E:Oa),C i j->Q (.int (g i j) s.toks) {s with toks:=s.toks+1}->wpAny (model X.prog X.w) X.A (f (.int i t) (.int j u)) Q E s):lz X f (rI C λi j=>.int (g i j)):=by intro k s p H x y v u Q I m n h;obtain⟨i,j,rfl,rfl,hc,q⟩:=h;obtain⟨t,rfl⟩:=m;obtain⟨o,rfl⟩:=n;exact rule i j t o s _ _ hc ⟨.int (g i j),H,I.tok _,⟨_,rfl⟩,q⟩
def I0{f:Value->Value->Sem Value}{g:Int->Int->Int}(rule:∀(i j:Int)(t u:Tok)(s:Shared)(Q:Oa)(E:Oa),Q (.int (g i j) s.toks) {s with toks:=s.toks+1}->wpAny (model X.prog X.w) X.A (f (.int i t) (.int j u)) Q E s):lz X f (Gd λi j=>.int (g i j)):=by intro k s p H x y v u Q I m n h;obtain⟨i,j,rfl,rfl,q⟩:=h;obtain⟨t,rfl⟩:=m;obtain⟨o,rfl⟩:=n;exact rule i j t o s _ _ ⟨.int (g i j),H,I.tok _,⟨_,rfl⟩,q⟩
def Gv{f:Value->Value->Sem Value}{g:Int->Int->Bool}(rule:∀(i j:Int)(t u:Tok)(s:Shared)(Q:Oa)(E:Oa),Q (.bool (g i j)) s->wpAny (model X.prog X.w) X.A (f (.int i t) (.int j u)) Q E s):lz X f (Gd λi j=>.bl (g i j)):=by intro k s p H x y v u Q I m n h;obtain⟨i,j,rfl,rfl,q⟩:=h;obtain⟨t,rfl⟩:=m;obtain⟨o,rfl⟩:=n;exact rule i j t o s _ _ ⟨.bl (g i j),H,I,rfl,q⟩
def fE(i j:Int):Prop:=0<j/\j<1073741824
def L3(i j:Int):Prop:=0<=j/\j<=1000000/\i.natAbs<2^64
def JX(i j:Int):Prop:=(-(2^64)<i/\i<2^64)\/(-(2^64)<j/\j<2^64)
def JX.ok(h:JX i j):IntMulOk i j:=by
 rcases h with⟨h1,h2⟩|⟨h1,h2⟩
 ·exact .of_left (intBits_le_64 h1 h2)
 ·exact .of_right (intBits_le_64 h1 h2)
def two_pow_nn(k:Nat):(0:Int)<=2^k:=by rw[two_pow_cast];exact mu _
def bR:lz X (binaryOp .Add) (Gd λi j=>.int (i+j)):=I0 λ_ _ _ _ _ _ _ q=>add_int q
def fW:lz X (binaryOp .Sub) (Gd λi j=>.int (i-j)):=I0 λ_ _ _ _ _ _ _ q=>sub_int q
def gL:lz X (binaryOp .Mult) (rI JX λi j=>.int (i*j)):=KI λ_ _ _ _ _ _ _ hc q=>mul_int q hc.ok
def bu:lz X (binaryOp .FloorDiv) (rI fE λi j=>.int (i/j)):=KI λi j _ _ _ _ _ hc q=>by have h1:(0:Int)<j:=hc.1;have h2:j<1073741824:=hc.2;exact floordiv_int (by lia) (by rw[MZ i (by lia)];exact q) (.inl (PyProof.noPylong_small (by lia)))
def aV:lz X (binaryOp .Mod) (rI (λ_ j=>0<j) λi j=>.int (i%j)):=KI λi j _ _ _ _ _ hc q=>by have h1:(0:Int)<j:=hc;exact mod_int' (by lia) (by rw[Int.fmod_eq_emod_of_nonneg i (by lia)];exact q)
def DV:lz X (binaryOp .Pow) (rI L3 λi j=>.int (i^j.toNat)):=KI λ_ _ _ _ _ _ _ hc q=>pow_int_small hc.1 hc.2.1 hc.2.2 q
def IY:lz X (binaryOp .RShift) (rI (λ_ j=>0<=j) λi j=>.int (i/2^j.toNat)):=KI λi j _ _ _ _ _ hc q=>rshift_int hc (by rw[MZ i (two_pow_nn _)];exact q)
def DY:lz X (binaryOp .BitAnd) (Gd λi j=>.int (Builtin.bitAnd i j)):=I0 λ_ _ _ _ _ _ _ q=>and_int q
def unI{f:Value->Sem Value}{g:Int->Int}(rule:∀(i:Int)(t:Tok)(s:Shared)(Q:Oa)(E:Oa),Q (.int (g i) s.toks) {s with toks:=s.toks+1}->wpAny (model X.prog X.w) X.A (f (.int i t)) Q E s):LU X f (rU λi=>.int (g i)):=by intro j s m H x v Q I k h;obtain⟨i,rfl,q⟩:=h;obtain⟨t,rfl⟩:=k;exact rule i t s _ _ ⟨.int (g i),H,I.tok _,⟨_,rfl⟩,q⟩
def CT:LU X (unaryOp .USub) (rU λi=>.int (-i)):=unI λ_ _ _ _ _ q=>neg_int q
end
def fG:V->V->Bool|.non,.non=>true|.non,.int _=>true|.int _,.non=>true|.non,.bl _=>true|.bl _,.non=>true|.non,.str _=>true|.str _,.non=>true|.int _,.int _=>true|.bl _,.bl _=>true|.str _,.str _=>true|.byt _,.byt _=>true|.int _,.str _=>true|.str _,.int _=>true|.bl _,.str _=>true|.str _,.bl _=>true|_,_=>false
def rEq:R2:=λx y H Q=>fG x y=true/\Q (.bl (decide (x=y))) H
def rNe:R2:=λx y H Q=>fG x y=true/\Q (.bl (!decide (x=y))) H
def Bp:decide (V.int i=V.int j)=(i==j):=by rw[NC];simp
def E5:decide (V.bl i=V.bl j)=(i==j):=by rw[NC];simp
def Bo:decide (V.str i=V.str j)=(i==j):=by rw[NC];simp
def Bq:decide (V.byt i=V.byt j)=(i.toList==j.toList):=by rw[NC];cases i;cases j;simp
section
variable{X:Cx}{a b c:Expr}{f g tc:TE}{l:Pos}
def bO(I:aO X d h H s)(q:Q (.bl k) H)(e:k=i):EP X d h Q (.bool i) s:=by subst e;exact⟨.bl k,H,I,rfl,q⟩
def aU:lz X (compareOp .Eq) rEq:=by intro n s o H x y v u Q I m d h;obtain⟨k,q⟩:=h;cases x with
 |non=>cases m;cases y with|non=>cases d;exact PySem.EqNone.eq_none_none (bO I q (by simp))|bl j=>cases d;exact PySem.EqNone.eq_none_bool (bO I q (by simp))|int j=>obtain⟨e,rfl⟩:=d;exact PySem.EqNone.eq_none_int (bO I q (by simp))|str j=>obtain⟨e,rfl⟩:=d;exact PySem.EqNone.eq_none_str (bO I q (by simp))|_=>exact absurd (show false=true from k) oa
 |bl i=>cases m;cases y with|non=>cases d;exact PySem.EqNone.eq_bool_none (bO I q (by simp))|bl j=>cases d;exact eq_bool (bO I q E5)|str j=>obtain⟨e,rfl⟩:=d;exact PySem.EqMixed.eq_bool_str (bO I q (by simp))|_=>exact absurd (show false=true from k) oa
 |int i=>obtain⟨t,rfl⟩:=m;cases y with|non=>cases d;exact PySem.EqNone.eq_int_none (bO I q (by simp))|int j=>obtain⟨e,rfl⟩:=d;exact eq_int (bO I q Bp)|str j=>obtain⟨e,rfl⟩:=d;exact PySem.EqMixed.eq_int_str (bO I q (by simp))|_=>exact absurd (show false=true from k) oa
 |str i=>obtain⟨t,rfl⟩:=m;cases y with|non=>cases d;exact PySem.EqNone.eq_str_none (bO I q (by simp))|bl j=>cases d;exact PySem.EqMixed.eq_str_bool (bO I q (by simp))|int j=>obtain⟨e,rfl⟩:=d;exact PySem.EqMixed.eq_str_int (bO I q (by simp))|str j=>obtain⟨e,rfl⟩:=d;exact eq_str (bO I q Bo)|_=>exact absurd (show false=true from k) oa
 |byt i=>obtain⟨t,rfl⟩:=m;cases y with|byt j=>obtain⟨e,rfl⟩:=d;exact PySem.W.eq_bytes (bO I q Bq)|_=>exact absurd (show false=true from k) oa
 |_=>cases y<;>exact absurd (show false=true from k) oa
def A9:lz X (compareOp .NotEq) rNe:=by intro n s o H x y v u Q I m d h;obtain⟨k,q⟩:=h;cases x with
 |non=>cases m;cases y with|non=>cases d;exact PySem.EqNone.ne_none_none (bO I q (by simp))|bl j=>cases d;exact PySem.EqNone.ne_none_bool (bO I q (by simp))|int j=>obtain⟨e,rfl⟩:=d;exact PySem.EqNone.ne_none_int (bO I q (by simp))|str j=>obtain⟨e,rfl⟩:=d;exact PySem.EqNone.ne_none_str (bO I q (by simp))|_=>exact absurd (show false=true from k) oa
 |bl i=>cases m;cases y with|non=>cases d;exact PySem.EqNone.ne_bool_none (bO I q (by simp))|bl j=>cases d;exact ne_bool (bO I q (w_ not E5))|str j=>obtain⟨e,rfl⟩:=d;exact PySem.EqMixed.ne_bool_str (bO I q (by simp))|_=>exact absurd (show false=true from k) oa
 |int i=>obtain⟨t,rfl⟩:=m;cases y with|non=>cases d;exact PySem.EqNone.ne_int_none (bO I q (by simp))|int j=>obtain⟨e,rfl⟩:=d;exact ne_int (bO I q (w_ not Bp))|str j=>obtain⟨e,rfl⟩:=d;exact PySem.EqMixed.ne_int_str (bO I q (by simp))|_=>exact absurd (show false=true from k) oa
 |str i=>obtain⟨t,rfl⟩:=m;cases y with|non=>cases d;exact PySem.EqNone.ne_str_none (bO I q (by simp))|bl j=>cases d;exact PySem.EqMixed.ne_str_bool (bO I q (by simp))|int j=>obtain⟨e,rfl⟩:=d;exact PySem.EqMixed.ne_str_int (bO I q (by simp))|str j=>obtain⟨e,rfl⟩:=d;exact ne_str (bO I q (w_ not Bo))|_=>exact absurd (show false=true from k) oa
 |byt i=>obtain⟨t,rfl⟩:=m;cases y with|byt j=>obtain⟨e,rfl⟩:=d;exact PySem.W.ne_bytes (bO I q (w_ not Bq))|_=>exact absurd (show false=true from k) oa
 |_=>cases y<;>exact absurd (show false=true from k) oa
def vT:lz X (compareOp .Lt) (Gd λi j=>.bl (decide (i<j))):=Gv λ_ _ _ _ _ _ _ q=>lt_int q
def jD:lz X (compareOp .LtE) (Gd λi j=>.bl (decide (i<=j))):=Gv λ_ _ _ _ _ _ _ q=>le_int q
def nR:lz X (compareOp .Gt) (Gd λi j=>.bl (decide (j<i))):=Gv λ_ _ _ _ _ _ _ q=>gt_int q
def DX:lz X (compareOp .GtE) (Gd λi j=>.bl (decide (j<=i))):=Gv λ_ _ _ _ _ _ _ q=>ge_int q
def BZ:lz X (compareOp .In) (λx y H Q=>∃i j,x=.str i/\y=.str j/\Q (.bl (!(Builtin.Str.occurrences j i 0 j.length 1).isEmpty)) H):=by intro d s m H x y v u Q I e k h;obtain⟨i,j,rfl,rfl,q⟩:=h;obtain⟨t,rfl⟩:=e;obtain⟨n,rfl⟩:=k;exact in_str (bO I q rfl)
def DW:lz X (compareOp .Is) (λx y H Q=>y=.non/\Q (.bl (decide (x=.non))) H):=by intro d s j H x y v u Q I e i h;obtain⟨rfl,q⟩:=h;cases i;refine is_none_gen (bO I q ?_);cases x<;>first|(cases e;rfl)|(obtain⟨t,rfl⟩:=e;rfl)
def wU:lz X (compareOp .IsNot) (λx y H Q=>y=.non/\Q (.bl (!decide (x=.non))) H):=by intro d s j H x y v u Q I e i h;obtain⟨rfl,q⟩:=h;cases i;refine isnot_none_gen (bO I q ?_);cases x<;>first|(cases e;rfl)|(obtain⟨t,rfl⟩:=e;rfl)
def aG(b:Expr)(h:d≠.In:=by decide)(h2:d≠.NotIn:=by decide):behindInMarks d b=false:=by
 have e:(d==CmpOp.In)=false:=by cases d<;>first|rfl|exact absurd rfl h
 have i:(d==CmpOp.NotIn)=false:=by cases d<;>first|rfl|exact absurd rfl h2
 cases b<;>simp[behindInMarks,e,i]
def bB(i:lz X (compareOp e) r)(j:PE X a f)(m:PE X b g)(hm:behindInMarks e b=false):PE X (.Compare a [e] [b] l) (HX r f g):=by intro d s k H Q I h;exact wpAny_Compare1 (JE j m I h λv u n x y o p t w q=>i d n k o x y v u Q p t w q) hm
def Hm(t:TE):TT:=λd H Q=>t d H λx e=>∃k,x=.bl k/\Q k e
def aE(m:lz X (compareOp j) r)(n:PE X a f)(o:PE X b g)(hm:behindInMarks j b=false):PT X (.Compare a [j] [b] l) (Hm (HX r f g)):=by
 intro d s i H Q I h;refine wpAny_isTrue_Compare1 (cE (n d s i H _ I h) λv p⟨x,q,I1,t,w⟩=>cE (o d p i q _ I1 w) λu A⟨y,B,C,r2,D⟩=>cE (m d A i B x y v u _ C t r2 D) λc K⟨z,E,F,G,k,e,J⟩=>?_) hm
 subst e;cases G;exact s_ ⟨E,F,J⟩
def C3(r h:R2)(f g tc:TE):TE:=λd H Q=>f d H λx i=>g d i λy j=>r x y j λz e=>∃k,z=.bl k/\(if k=true then tc d e λm n=>h y m n Q else Q (.bl false) e)
def ua(w:lz X (compareOp o) r)(n:lz X (compareOp j) A)(B:PE X a f)(C:PE X b g)(hc:PE X c tc)(hm:lastMarks [o,j] [b,c]=false:=by with_unfolding_all rfl):PE X (.Compare a [o,j] [b,c] l) (C3 r A f g tc):=by
 intro i s m H Q I h;refine Compare_chain (cE (B i s m H _ I h) λv D⟨x,E,I1,F,G⟩=>chain_link (cE (C i D m E _ I1 G) λu J⟨y,K,L,r2,M⟩=>cE (w i J m K x y v u _ L F r2 M) λd N⟨z,p,q,O,k,e,t⟩=>?_)) hm
 subst e;cases O;refine s_ ?_;cases k with|false=>exact ite_ff ⟨.bl false,p,q,rfl,t⟩|true=>exact ite_tt (chain_last (cE (hc i N m p _ q t) λP R⟨S,T,U,V,W⟩=>n i R m T y S u P Q U r2 V W))
def yo(A:lz X (compareOp p) r)(n:lz X (compareOp j) B)(C:PE X a f)(D:PE X b g)(hc:PE X c tc)(hm:lastMarks [p,j] [b,c]=false:=by with_unfolding_all rfl):PT X (.Compare a [p,j] [b,c] l) (Hm (C3 r B f g tc)):=by
 intro i s m H Q I h;refine isTrue_chain (cE (C i s m H _ I h) λv E⟨x,F,I1,G,J⟩=>test_link (cE (D i E m F _ I1 J) λu K⟨y,L,M,r2,N⟩=>cE (A i K m L x y v u _ M G r2 N) λd O⟨z,q,t,P,k,e,w⟩=>?_)) hm
 subst e;cases P;refine s_ ?_;cases k with|false=>obtain⟨k',R,S⟩:=w;cases R;exact ite_ff ⟨q,t,S⟩|true=>refine ite_tt (test_last (cE (hc i O m q _ t w) λT U o=>?_));obtain⟨V,W,Y,Z,q4⟩:=o;refine cE (n i U m W y V u T _ Y r2 Z q4) λd' s5 o=>?_;obtain⟨z2,H5,I5,r5,k2,e2,q5⟩:=o;subst e2;cases r5;exact s_ ⟨H5,I5,q5⟩
def JK(K:N_)(x:V)(H:Hp)(k:Bool):Prop:=match x with|.non=>k=false|.bl b=>k=b|.int i=>k=(i !=0)|.str y=>y.length<=sizeLine/\k=((y.length:Int)!=0)|.byt y=>y.size<=sizeLine/\k=((y.size:Int)!=0)|.ref p=>(∃d,aY K H p d/\k=!d.isEmpty)\/(∃d,aS K H p d/\k=!d.isEmpty)\/∃e,H p=some (.dK e)/\k=!e.isEmpty|_=>False
def Ai(r:KV d e):(!e.isEmpty)=!d.isEmpty:=by cases r<;>rfl
def uz(r:bf e d):(!d.toArray.isEmpty)=!e.isEmpty:=by cases r<;>simp
def qE:(sizeLine:Nat)<2^63:=by rw[nk];decide
def HS:LV X (λx H Q=>∃k,JK X.K x H k/\Q k H):=by intro C s G H x v Q I u h;obtain⟨k,e,q⟩:=h;have J:=qE;have L:sizeLine=16777216:=nk;cases x with|non=>cases u;have d:k=false:=e;subst d;exact truthy_none ⟨H,I,q⟩|bl b=>cases u;have d:k=b:=e;subst d;exact s_ ⟨H,I,q⟩|int i=>obtain⟨t,rfl⟩:=u;have d:k=(i !=0):=e;subst d;exact PySem.P.truthy_int ⟨H,I,q⟩|str y=>obtain⟨t,rfl⟩:=u;obtain⟨E,d⟩:y.length<=sizeLine/\k=((y.length:Int)!=0):=e;subst d;exact PySem.P.truthy_str (by lia) ⟨H,I.tok _,q⟩|byt y=>obtain⟨t,rfl⟩:=u;obtain⟨E,d⟩:y.size<=sizeLine/\k=((y.size:Int)!=0):=e;subst d;exact PySem.W.truthy_bytes (by lia) ⟨H,I.tok _,q⟩|ref p=>
  cases u;have d:(∃o,aY X.K H p o/\k=!o.isEmpty)\/(∃o,aS X.K H p o/\k=!o.isEmpty)\/∃j,H p=some (.dK j)/\k=!j.isEmpty:=e;rcases d with⟨o,z,d⟩|⟨o,z,d⟩|⟨j,z,d⟩
  ·subst d;obtain⟨B,r,pl,D⟩:=I.list z;have n:=r.length;exact wpAny_truthy_list pl.isList (by simp only[n_];lia) ⟨H,I.tok _,by rw[uz r];exact q⟩
  ·subst d;obtain⟨B,r,pl,D⟩:=I.tuple z;have n:=r.length;exact truthy_tuple pl (by simp only[n_];lia) ⟨H,I.tok _,by rw[uz r];exact q⟩
  ·subst d;obtain⟨D,F,A,r,m⟩:j.length<=sizeLine/\(p==sysModules)=false/\∃A,KV j A/\s.heap.DictOf (aX X.prog X.w) p A:=I.hok p _ z;have n:j.length=A.length:=Paired.length r;exact wpAny_truthy_dict F m (by lia) ⟨H,I.tok _,by rw[Ai r];exact q⟩|_=>exact(show False from e).elim
def DP(m:PE X a f)(n:∀d,isTrue a X.env d=(do let v<-d;standAt a.pos;holding [v] (truthy v))):PT X a (λi H Q=>f i H λx j=>∃k,JK X.K x j k/\Q k j):=by intro e s i H Q I h;exact isTrue_plain (cE (m e s i H _ I h) λv o⟨x,p,I1,q,r⟩=>HS e o i p x v Q I1 q r) (n _)
def jd:lz X (binaryOp .Add) (λx y H Q=>∃i j,x=.str i/\y=.str j/\i.length+j.length<=sizeLine/\Q (.str (i++j)) H):=by intro d s o H x y v u Q I e k h;obtain⟨i,j,rfl,rfl,m,q⟩:=h;obtain⟨t,rfl⟩:=e;obtain⟨n,rfl⟩:=k;exact add_str (λn tk=>⟨.str (i++j),H,I.tok _,⟨_,rfl⟩,q⟩) m
def j5(r:bf [x] d):∃u,d=[u]/\bd x u:=by cases r with|cons e r2=>cases r2;exact⟨_,rfl,e⟩
def vC(r:bf [x,y] e):∃u d,e=[u,d]/\bd x u/\bd y d:=by cases r with|cons h r2=>cases r2 with|cons i j=>cases j;exact⟨_,_,rfl,h,i⟩
def CD(hc:X.calm=true):dw X (.builtin "max") (λe H Q=>∃i j,e=[.int i,.int j]/\Q (.int (if j>i then j else i)) H):=by
 intro m s n H e o Q I r h;obtain⟨i,j,rfl,q⟩:=h;obtain⟨u,p,rfl,⟨t,rfl⟩,⟨v,rfl⟩⟩:=vC r;refine max_two_ints (I.ok.hd hc) λh' tk k=>⟨_,H,I.kept k,?_,q⟩
 by_cases d:j>i
 ·rw[mo d,mo d];exact⟨_,rfl⟩
 ·rw[l_ d,l_ d];exact⟨_,rfl⟩
def qM(hc:X.calm=true):dw X (.builtin "min") (λe H Q=>∃i j,e=[.int i,.int j]/\Q (.int (if j<i then j else i)) H):=by
 intro m s n H e o Q I r h;obtain⟨i,j,rfl,q⟩:=h;obtain⟨u,p,rfl,⟨t,rfl⟩,⟨v,rfl⟩⟩:=vC r;refine min_two_ints (I.ok.hd hc) λh' tk k=>⟨_,H,I.kept k,?_,q⟩
 by_cases d:j<i
 ·rw[mo d,mo d];exact⟨_,rfl⟩
 ·rw[l_ d,l_ d];exact⟨_,rfl⟩
def Lj(K:N_)(x:V)(H:Hp)(n:Nat):Prop:=match x with|.str y=>y.length<=sizeLine/\n=y.length|.byt y=>y.size<=sizeLine/\n=y.size|.ref p=>(∃d,aY K H p d/\n=d.length)\/∃d,aS K H p d/\n=d.length|_=>False
def Fh:dw X (.builtin "len") (λd H Q=>∃x n,d=[x]/\Lj X.K x H n/\Q (.int n) H):=by
 intro w s B H d C Q I r h;obtain⟨x,n,rfl,e,q⟩:=h;obtain⟨u,rfl,k⟩:=j5 r;have D:=qE;have E:sizeLine=16777216:=nk;cases x with|str y=>obtain⟨t,rfl⟩:=k;obtain⟨z,j⟩:y.length<=sizeLine/\n=y.length:=e;subst j;exact len_str (by lia) ⟨.int _,H,I.tok _,⟨_,rfl⟩,q⟩|byt y=>obtain⟨t,rfl⟩:=k;obtain⟨z,j⟩:y.size<=sizeLine/\n=y.size:=e;subst j;exact PySem.W.len_bytes (by lia) ⟨.int _,H,I.tok _,⟨_,rfl⟩,q⟩|ref p=>
  cases k;have j:(∃d,aY X.K H p d/\n=d.length)\/∃d,aS X.K H p d/\n=d.length:=e;rcases j with⟨d,m,j⟩|⟨d,m,j⟩
  ·subst j;obtain⟨o,v,pl,A⟩:=I.list m;have i:=v.length;exact Calls.call_len_list pl.isList (by simp only[n_];lia) ⟨.int d.length,H,I.tok _,⟨_,by simp only[n_];rw[i]⟩,q⟩
  ·subst j;obtain⟨o,v,pl,A⟩:=I.tuple m;have i:=v.length;exact len_tuple pl (by simp only[n_];lia) ⟨.int d.length,H,I.tok _,⟨_,by simp only[n_];rw[i]⟩,q⟩|_=>exact(show False from e).elim
def zj:dw X (.builtin "divmod") (λd H Q=>∃i j,d=[.int i,.int j]/\fE i j/\∀p,H p=none->Q (.ref p) (aI H p (.tup [.int (i/j),.int (i%j)]))):=by intro k s m H d n Q I r h;obtain⟨i,j,rfl,⟨h1,h2⟩,q⟩:=h;obtain⟨u,v,rfl,⟨t,rfl⟩,⟨w,rfl⟩⟩:=vC r;refine divmod_int (by lia) ?_ (.inl (PyProof.noPylong_small (by lia)));rw[MZ i (by lia),Int.fmod_eq_emod_of_nonneg i (by lia)];have hn:H s.heap.objs.size=none:=I.hok.fresh (f_ _);refine⟨.ref s.heap.objs.size,_,?_,rfl,q _ hn⟩;refine I.laid (λb o e=>c_ _ e) (f_ _) ⟨by simp only[pw,Nz];rw[nk];decide,[.int (i/j) s.toks,.int (i%j) (s.toks+1)],.cons ⟨_,rfl⟩ (.cons ⟨_,rfl⟩ .nil),?_⟩;exact⟨_,j_ s.heap rfl,rfl,0,rfl⟩
end
end L2
namespace L2
open PySem PySem.Spec PyProof.Rows
structure AD(h:Heap)(x dx C:Addr)(mA:Oc):Prop where
 obj:h.get? x=some (PySem.W.instObj C dx)ns:h.Ns1 dx mA
 ne:dx≠x
def Cf{h:Heap}{dx:Addr}{d:Oc}(n:h.Ns1 dx d):∃f,h.get? dx=some f/\∀c,PySem.W.lookIn c f=some (d c):=by
 obtain⟨o,g,m,i,hd,j,_,hm⟩:=n;refine⟨o,i,λc=>?_⟩;have e:=hm c;unfold nsFind findBy at e;rw[<-Array.find?_toList]at e;unfold PySem.W.lookIn;rw[hd];dsimp only
 split
 ·rename_i y q;rw[q]at e;exact w_ some e
 ·rename_i q;rw[q]at e;have a:g.toList.any (·.refKey)=false:=by rw[List.any_eq_false];intro y k;obtain⟨z,t,b⟩:=j y (Array.mem_toList_iff.mp k);simp[DictEntry.refKey,b]
  have l:¬g.toList.any (·.refKey)=true:=by rw[a];exact oa
  rw[l_ l];exact w_ some e
def AD.look(I:AD h x dx C d):∃c,PySem.W.InstAt h x (PySem.W.instObj C dx) C (some c)/\∀a,PySem.W.lookIn a c=some (d a):=let⟨c,b,e⟩:=Cf I.ns
 ⟨c,⟨I.obj,rfl,rfl,b⟩,e⟩
section
variable{prog:Oe}{w:World}{A:Around}{E:Oa}{s:Shared}{K:N_}{x dx C f:Addr}{e:Oc}{c:Str}{v:Value}
def GW(X:K.In s.heap)(I:AD s.heap x dx C e)(hg:PySem.W.plainGet K C c=true)(hh:PySem.W.hasDictIn K C=true)(g:PySem.W.findIn K (.ref C) c=some none)(i:e c=some v)(a:PySem.W.handedIn v=true)(h:Q v {s with toks:=s.toks+1}):wpAny (model prog w) A (getAttr (.ref x) c d) Q E s:=by obtain⟨j,J,b⟩:=I.look;exact PySem.W.get_value X J (PySem.W.plainGet_of hg).1 (PySem.W.findObj_own hh g rfl (by rw[b,i])) a h
def ER(X:K.In s.heap)(I:AD s.heap x dx C e)(hg:PySem.W.plainGet K C c=true)(a:PySem.W.findIn K (.ref C) c=some (some (.ref f)))(d:PySem.W.isFn K (.ref f)=true)(g:e c=none)(h:Q (.ref f,[.ref x]) s):wpAny (model prog w) A (getMethod (.ref x) c pl) Q E s:=by obtain⟨b,J,i⟩:=I.look;exact PySem.W.method_fn X J (PySem.W.plainGet_of hg).1 (PySem.W.plainGet_of hg).2 a (beq_iff_eq.mp d) (by show(PySem.W.lookIn c b).map (·.isSome)=some false;rw[i,g];rfl) h
def hU(X:K.In s.heap)(I:AD s.heap x dx C e)(m:PySem.W.findIn K (.ref C) "__setattr__"=some (some (.builtin "object.__setattr__")))(n:PySem.W.plainOver K C=true)(o:PySem.W.takerIn K C c=some none)(hh:PySem.W.hasDictIn K C=true)(p:PySem.Within e ns)(q:ns.length<=sizeLine)(h:∀h',AD h' x dx C (λy=>if y=c then some v else e y)->Heap.SameBut dx s.heap h'->Q () {s with heap:=h',toks:=s.toks+2}):wpAny (model prog w) A (setAttr (.ref x) c v) Q E s:=by obtain⟨B,J,D⟩:=I.look;refine PySem.W.set_plain X J m (PySem.W.osa_open (s:={s with toks:=s.toks+1}) (r:=none) X J n o λb=>?_);obtain⟨cd,hc,i⟩:=PySem.W.any_some hh;have t:s.heap.get? x=some ⟨.ref C,some dx,.plain,#[]⟩:=I.obj;refine a_ (e_ (a_ (a_ (wpAny_loadPart t (a_ (PySem.W.Looks.here (s:={s with toks:=s.toks+1}) (PySem.W.looks_clsIn X hc) ?_))))));rw[i];refine e_ (a:=some dx) (a_ (e_ (a_ ?_)));refine wpAny_nsSet1 (s:={s with toks:=s.toks+1}) I.ns λh' d g=>?_;obtain⟨F,u,z,j,k,l⟩:=d.count (PySem.Within.cons c v p);refine a_ (wpAny_lookBehind j (by rw[k];exact pastItsLine_dict (n7 l (by rw[pw];lia))) ?_);exact e_ (h _ ⟨(g.2 _ (rb I.ne)).trans I.obj,d,I.ne⟩ g)
def Em(X:K.In s.heap)(hm:PySem.W.makesIn K C=true)(hi:PySem.W.findIn K (.ref C) "__init__"=some (some (.ref f)))(j:PySem.W.typeIn K (.ref f)=some (.type "function"))(h:codeAny (model prog w) (A.under (.builtin "type.__call__" ⟨.ref C::a,i⟩)) (.call (.ref f) ⟨.ref (s.heap.objs.size+1)::a,i⟩) (PySem.W.InitBack (s.heap.objs.size+1) R) {s with heap:=(s.heap.push PySem.W.emptyDict).push (PySem.W.instObj C s.heap.objs.size)}):codeAny (model prog w) A (.call (.ref C) ⟨a,i⟩) R s:=by obtain⟨hh,g,d,t,os⟩:=s;exact PySem.W.make_core (PySem.W.makes_of X hm) (PySem.W.looks_findIn X hi) (λself=>PySem.W.bind_fn X self j) (.inl rfl) h
end
def gn(f:Str)(v:V):List (Str×V)->List (Str×V)|[]=>[(f,v)]|(g,x)::r=>if g=f then(g,v)::r else(g,x)::gn f v r
theorem rq(f g:Str)(v:V):∀fs:List (Str×V),(gn f v fs).lookup g=if g=f then some v else fs.lookup g
 |[]=>by
  show List.lookup g [(f,v)]=_
  by_cases h:g=f
  ·have a:(g==f)=true:=beq_iff_eq.mpr h;simp only[List.lookup,a,mo h]
  ·have a:(g==f)=false:=K_.mpr h;simp only[List.lookup,a,l_ h]|(k,x)::r=>by
  have c:=rq f g v r;rw[show gn f v ((k,x)::r)=(if k=f then(k,v)::r else(k,x)::gn f v r)from rfl]
  by_cases b:k=f
  ·rw[mo b]
   by_cases h:g=k
   ·have a:(g==k)=true:=beq_iff_eq.mpr h;simp only[List.lookup,a,mo (h.trans b)]
   ·have a:(g==k)=false:=K_.mpr h;simp only[List.lookup,a,l_ (λe:g=f=>h (e.trans b.symm))]
  ·rw[l_ b]
   by_cases h:g=k
   ·have a:(g==k)=true:=beq_iff_eq.mpr h;simp only[List.lookup,a,l_ (λe:g=f=>b (h.symm.trans e))]
   ·have a:(g==k)=false:=K_.mpr h;simp only[List.lookup,a];exact c
theorem qG(f:Str)(v:V):∀fs:List (Str×V),f∈(gn f v fs).map (·.1)/\∀g,g∈fs.map (·.1)->g∈(gn f v fs).map (·.1)
 |[]=>⟨by simp[gn],λg h=>by simp at h⟩|(k,x)::r=>by
  obtain⟨b,c⟩:=qG f v r;rw[show gn f v ((k,x)::r)=(if k=f then(k,v)::r else(k,x)::gn f v r)from rfl]
  by_cases a:k=f
  ·rw[mo a];subst a;exact⟨by simp,λg h=>by simpa using h⟩
  ·rw[l_ a];refine⟨?_,λg h=>?_⟩
   ·rw[pu];exact lm _ b
   ·rw[pu]at h⊢;rcases tA.mp h with e|e
    ·exact tA.mpr (.inl e)
    ·exact lm _ (c g e)
theorem rC(f:Str)(v:V):∀fs:List (Str×V),(gn f v fs).length<=fs.length+1
 |[]=>by simp[gn]|(k,x)::r=>by
  have b:=rC f v r;rw[show gn f v ((k,x)::r)=(if k=f then(k,v)::r else(k,x)::gn f v r)from rfl]
  by_cases a:k=f
  ·rw[mo a,pw,pw];lia
  ·rw[l_ a,pw,pw];lia
def jZ.some_of(r:jZ (some v) o):∃u,o=some u/\bd v u:=by cases o with|none=>exact(show False from r).elim|some u=>exact⟨u,rfl,r⟩
def jZ.none_of(r:jZ none o):o=none:=by cases o with|none=>rfl|some u=>exact(show False from r).elim
def Cn(r:bd v u):PySem.W.handedIn u=true:=by cases v with|non=>cases(show u=Value.none from r);rfl|bl b=>cases(show u=Value.bool b from r);rfl|int i=>obtain⟨t,e⟩:=(show∃t,u=Value.int i t from r);cases e;rfl|str x=>obtain⟨t,e⟩:=(show∃t,u=Value.str x t from r);cases e;rfl|byt b=>obtain⟨t,e⟩:=(show∃t,u=Value.bytes b t from r);cases e;rfl|flt b=>obtain⟨t,e⟩:=(show∃t,u=Value.float b t from r);cases e;rfl|ref a=>cases(show u=Value.ref a from r);rfl|ty n=>cases(show u=Value.type n from r);rfl
section
variable{P:Oe}{w:World}{H g:Hp}{h h':Heap}{a C dx:Addr}{fs c:List (Str×V)}
def sN(hok:lQ P w H h)(e:H a=some (.ins C dx fs)):∃i,AD h a dx C i/\(∀f,jZ (fs.lookup f) (i f))/\PySem.Within i (fs.map (·.1))/\fs.length<=1000/\H dx=some (.own a):=by obtain⟨d,z,ne,ob,i,n,r,q⟩:=(show du P w H h a (.ins C dx fs)from hok a _ e);exact⟨i,⟨ob,n,ne⟩,r,q,z,d⟩
end
structure xS(K:N_)(C:Addr):Prop where
 pg:PySem.W.plainGet K C Str.empty=true
 hd:PySem.W.hasDictIn K C=true
 po:PySem.W.plainOver K C=true
 sa:PySem.W.findIn K (.ref C) "__setattr__"=some (some (.builtin "object.__setattr__"))
def xS.get{K:N_}{C:Addr}(c:xS K C)(f:Str):PySem.W.plainGet K C f=true:=c.pg
def cg(K:N_)(C:Addr)(f:Str):Prop:=PySem.W.findIn K (.ref C) f=some none
def cg.taker{K:N_}{C:Addr}{f:Str}(n:cg K C f):PySem.W.takerIn K C f=some none:=by unfold PySem.W.takerIn;rw[show PySem.W.findIn K (.ref C) f=some none from n];rfl
structure Fw(K:N_)(C:Addr)(m:Str)(f:Addr):Prop where
 at_:PySem.W.findIn K (.ref C) m=some (some (.ref f))fn:PySem.W.isFn K (.ref f)=true
 kp:PySem.W.keepIn K (.ref f)=true
section
variable{X:Cx}{d:Ob}{i:St}{H:Hp}{s:Shared}{a C dx:Addr}{fs:List (Str×V)}{f:Str}{v:V}{A:Around}{E:Oa}
def Ao(I:aO X d i H s)(e:H a=some (.ins C dx fs))(c:xS X.K C)(n:cg X.K C f)(l:fs.lookup f=some v)(h:∀u g,aO X d i H g->bd v u->Q u g):wpAny (model X.prog X.w) A (getAttr (.ref a) f b) Q E s:=by obtain⟨j,O,r,_,_,_⟩:=sN I.hok e;obtain⟨u,k,ru⟩:=jZ.some_of (v:=v) (o:=j f) (by rw[<-l];exact r f);exact GW I.kIn O (c.get f) c.hd n k (Cn ru) (h u _ (I.tok _) ru)
def oN(I:aO X d i H s)(e:H a=some (.ins C dx fs))(c:xS X.K C)(k:Fw X.K C m g)(l:fs.lookup m=none)(h:Q (.ref g,[.ref a]) s):wpAny (model X.prog X.w) A (getMethod (.ref a) m pl) Q E s:=by obtain⟨b,O,r,_,_,_⟩:=sN I.hok e;have hn:b m=none:=jZ.none_of (by rw[<-l];exact r m);exact ER I.kIn O (c.get m) k.at_ k.fn hn h
def zD(I:aO X d i H s)(e:H a=some (.ins C dx fs))(c:xS X.K C)(n:cg X.K C f)(J:fs.length<1000)(t:bd y u)(h:∀l,aO X d i (aI H a (.ins C dx (gn f y fs))) l->Q () l):wpAny (model X.prog X.w) A (setAttr (.ref a) f u) Q E s:=by
 obtain⟨k,O,r,m,_,p⟩:=sN I.hok e;have B:(fs.map (·.1)).length<=sizeLine:=by rw[b_,nk];lia
 refine hU I.kIn O c.sa c.po n.taker c.hd m B λh' j D=>h _ ?_;have hd:∃o,h'.get? dx=some o:=let⟨o,_,_,F,_⟩:=j.ns;⟨o,F⟩;refine I.write (x:=a) (e:=dx) (by rw[e];exact True.intro) (.inr p) (λb q G z=>(D.2 b G).trans z) hd ?_;refine⟨by rw[au O.ne];exact p,?_,O.ne,j.obj,_,j.ns,λg=>?_,λg hg=>?_⟩
 ·have:=rC f y fs;lia
 ·show jZ ((gn f y fs).lookup g) (if g=f then some u else k g);rw[rq]
  by_cases q:g=f
  ·rw[mo q,mo q];exact t
  ·rw[l_ q,l_ q];exact r g
 ·by_cases q:g=f
  ·rw[q];exact(qG f y fs).1
  ·refine(qG f y fs).2 g (m g λz=>hg ?_);show(if g=f then some u else k g)=none;rw[l_ q];exact z
def aO.made(I:aO X d i H s):aO X d i (aI (aI H s.heap.objs.size (.own (s.heap.objs.size+1))) (s.heap.objs.size+1) (.ins C s.heap.objs.size [])) {s with heap:=(s.heap.push PySem.W.emptyDict).push (PySem.W.instObj C s.heap.objs.size)}:=by
 have c:(s.heap.push PySem.W.emptyDict).get? s.heap.objs.size=some PySem.W.emptyDict:=j_ s.heap rfl;have g:((s.heap.push PySem.W.emptyDict).push (PySem.W.instObj C s.heap.objs.size)).get? (s.heap.objs.size+1)=some (PySem.W.instObj C s.heap.objs.size):=by
  have:=j_ (s.heap.push PySem.W.emptyDict) (o:=PySem.W.instObj C s.heap.objs.size) rfl
  rwa[rm]at this
 have h:(s.heap.push PySem.W.emptyDict).Ns s.heap.objs.size (λ_=>none):=⟨PySem.W.emptyDict,#[],_,c,rfl,(λe j=>absurd j (by simp)),λ_=>rfl⟩;have I1:=I.laid (a:=s.heap.objs.size) (o:=.own (s.heap.objs.size+1)) (h':=s.heap.push PySem.W.emptyDict) (t':=s.toks) (λb u q=>c_ _ q) (f_ _) ⟨_,c⟩;refine I1.laid (a:=s.heap.objs.size+1) (o:=.ins C s.heap.objs.size []) (t':=s.toks) (λb u q=>c_ _ q) (Mt (rm _ _)) ?_;have ne:s.heap.objs.size≠s.heap.objs.size+1:=ot (wr _);refine⟨by rw[au ne,ag],o_ _,ne,g,λ_=>none,(Heap.Ns1.of_empty h).at λo q=>c_ _ q,λ_=>True.intro,λy l=>absurd rfl l⟩
def G7(c:attributeBase e f env (eval e env)=eval e env)(h:wpAny (model prog w) A (eval e env) (λo s₁=>wpAny (model prog w) A (getAttr o f true) Q E s₁) E s):wpAny (model prog w) A (eval (.Attribute e f g) env) Q E s:=Attribute_any_ h (by rw[arm_eval_Attribute,c])
end
def Kj(K:N_)(c:TE)(f:Str):TE:=λd H Q=>c d H λx b=>∃a C dx fs v,x=.ref a/\b a=some (.ins C dx fs)/\xS K C/\cg K C f/\fs.lookup f=some v/\Q v b
def Kx(K:N_)(d e:TE)(f:Str):TS:=λD b H=>e b H λy g=>d b g λx c=>∃a C dx fs,x=.ref a/\c a=some (.ins C dx fs)/\xS K C/\cg K C f/\fs.length<1000/\D.nx b (aI c a (.ins C dx (gn f y fs)))
section
variable{X:Cx}{o e d:Expr}{f:Str}{i g m:Pos}{j p:TE}
def IV(r:PE X e j)(t:attributeBase e f X.env (eval e X.env)=eval e X.env):PE X (.Attribute e f i) (Kj X.K j f):=by intro b s k H Q I h;refine G7 t (cE (r b s k H _ I h) λu D w=>?_);obtain⟨x,y,I1,z,a,C,dx,fs,v,ex,A,c,n,l,q⟩:=w;subst ex;obtain rfl:u=Value.ref a:=z;exact Ao I1 A c n l λE F B ru=>⟨v,y,B,ru,q⟩
def IP(r:PE X o j)(t:PE X d p)(v:swapsWith d (some (.Attribute o f g)) i.line X.env=pure false):PS X (.Assign [.Attribute o f g] d i) (Kx X.K j p f):=by intro b s k H D I h;refine plainObj_wpAny_Assign_Attribute (cE (t b s k H _ I h) λu w⟨y,z,I1,A,q⟩=>cE (r b w k z _ I1 q) λB M⟨x,N,E,F,a,C,dx,fs,ex,G,c,n,l,J⟩=>?_) v;subst ex;obtain rfl:B=Value.ref a:=F;exact zD E G c n l A λO L=>⟨k,_,L,J⟩
end
section
variable{X:Cx}{d:Ob}{f:St}{H:Hp}{s:Shared}{A:Around}{E:Oa}{Q:Oa}{c:Value}{b:Bool}
inductive kW(K:N_)(H:Hp):V->Value->Prop where|non:kW K H .non (.type "NoneType")|bl(x:Bool):kW K H (.bl x) (.type "bool")|int(i:Int):kW K H (.int i) (.type "int")|str(x:Str):kW K H (.str x) (.type "str")|flt(x:UInt64):kW K H (.flt x) (.type "float")|lst{a:Addr}{xs:List V}(e:H a=some (.lst xs)):kW K H (.ref a) (.type "list")|frz{a:Addr}{o:Obj}{xs:List V}(e:H a=some (.frz o (.lst xs))):kW K H (.ref a) (.type "list")|tup{a:Addr}{xs:List V}(e:H a=some (.tup xs)):kW K H (.ref a) (.type "tuple")|dK{a:Addr}{kvs:List (bQ×V)}(e:H a=some (.dK kvs)):kW K H (.ref a) (.type "dict")|dT{a:Addr}{kvs:List (List bQ×V)}(e:H a=some (.dT kvs)):kW K H (.ref a) (.type "dict")|ins{a C dx:Addr}{fs:List (Str×V)}(e:H a=some (.ins C dx fs))(cl:xS K C)(ha:PySem.W.findIn K (.ref C) "__class__"=some (some (.builtin "object.__class__")))(hn:PySem.W.specialIn K (.builtin "object.__class__") "__get__"=some (some (.builtin "getset_descriptor.__get__")))(htk:PySem.W.takesIn K (.builtin "object.__class__")=some true)(hm:PySem.W.mroIn K C (.type "object")=some true):kW K H (.ref a) (.ref C)
def Ck(I:aO X d f H s)(g:bd x u)(ty:kW X.K H x t)(e:PySem.W.kitOne X.K t c=some b)(h:∀tk,Q (.bool b) {s with toks:=tk}):wpAny (model X.prog X.w) A (call (.builtin "isinstance") [u,c]) Q E s:=by cases ty with|non=>cases(show u=Value.none from g);exact PySem.W.kia_one PySem.W.kitx_none I.kIn True.intro e (nofun) h|bl y=>cases(show u=Value.bool y from g);exact PySem.W.kia_one PySem.W.kitx_bool I.kIn True.intro e (nofun) h|int i=>obtain⟨t,q⟩:=(show∃t,u=Value.int i t from g);cases q;exact PySem.W.kia_one PySem.W.kitx_int I.kIn True.intro e (nofun) h|str y=>obtain⟨t,q⟩:=(show∃t,u=Value.str y t from g);cases q;exact PySem.W.kia_one PySem.W.kitx_str I.kIn True.intro e (nofun) h|flt y=>obtain⟨t,q⟩:=(show∃t,u=Value.float y t from g);cases q;exact PySem.W.kia_one PySem.W.kitx_float I.kIn True.intro e (nofun) h|@lst a l j=>cases(show u=Value.ref a from g);obtain⟨_,_,n,_,h1⟩:=(show du X.prog X.w H s.heap a (.lst l)from I.hok a _ j);exact PySem.W.kia_one PySem.W.kitx_list I.kIn ⟨_,h1,rfl⟩ e (nofun) h|@frz a ob l j=>cases(show u=Value.ref a from g);obtain⟨_,_,_,n,_,h1⟩:=(show du X.prog X.w H s.heap a (.frz ob (.lst l))from I.hok a _ j);exact PySem.W.kia_one PySem.W.kitx_list I.kIn ⟨_,h1,rfl⟩ e (nofun) h|@tup a l j=>cases(show u=Value.ref a from g);obtain⟨_,_,_,p⟩:=(show du X.prog X.w H s.heap a (.tup l)from I.hok a _ j);obtain⟨o,h1,h2,_⟩:=p;exact PySem.W.kia_one PySem.W.kitx_tuple I.kIn ⟨o,h1,h2⟩ e (nofun) h|@dK a k j=>cases(show u=Value.ref a from g);obtain⟨_,_,D,_,p⟩:=(show du X.prog X.w H s.heap a (.dK k)from I.hok a _ j);obtain⟨o,r,v,h1,h2,_⟩:=p;exact PySem.W.kia_one PySem.W.kitx_dict I.kIn ⟨o,h1,h2.1⟩ e (nofun) h|@dT a k j=>cases(show u=Value.ref a from g);obtain⟨_,_,l,_,o,r,v,h1,h2,_⟩:=(show du X.prog X.w H s.heap a (.dT k)from I.hok a _ j);exact PySem.W.kia_one PySem.W.kitx_dict I.kIn ⟨o,h1,h2.1⟩ e (nofun) h|@ins a C dx fs j cl B hn m hm=>cases(show u=Value.ref a from g);obtain⟨F,O,_⟩:=sN I.hok j;obtain⟨G,J,_⟩:=O.look;exact PySem.W.kia_one (PySem.W.kitx_own (cl.get _) cl.hd B hn m hm) I.kIn J e (nofun) h
end
end L2
namespace L2
open PySem PySem.Spec PyProof.Rows
structure eZ(k:Nat)(A:Around):Prop where
 hd:A.handled=none
 dp:A.depth+3*k+5<recursionLimit
 un:A.units+16*k+200<cLine
def eZ.mono{j k:Nat}{A:Around}(r:eZ k A)(h:j<=k):eZ j A:=⟨r.hd,by have:=r.dp;lia,by have:=r.un;lia⟩
theorem eZ.deeper(r:eZ (k+1) A)(env:Env):eZ k (A.deeper env):=⟨r.hd,by have:=r.dp;show A.depth+1+3*k+5<_;lia,by have:=r.un;show A.units+3+16*k+200<_;lia⟩
def Ae{A:Around}{C:Addr}{a:Od}{c:List (Str×Value)}:(A.under (.builtin "type.__call__" ⟨.ref C::a,c⟩)).depth=A.depth+1:=by first|rfl|simp[Around.under,Code.weight,Code.isCreation,Code.isGuard,Code.isCaller,Code.frames,Code.isFrame,guardIds]
def Ad{A:Around}{C:Addr}{a:Od}{c:List (Str×Value)}:(A.under (.builtin "type.__call__" ⟨.ref C::a,c⟩)).units=A.units+1:=by first|rfl|simp[Around.under,Code.cUnits,Code.frames,Code.isFrame]
def eZ.make(r:eZ (k+1) A)(C:Addr)(a:Od)(c:List (Str×Value)):eZ k (A.under (.builtin "type.__call__" ⟨.ref C::a,c⟩)):=⟨r.hd,by have:=r.dp;rw[Ae];lia,by have:=r.un;rw[Ad];lia⟩
theorem eZ.depth{k:Nat}{A:Around}(r:eZ k A):A.depth<recursionLimit:=by have:=r.dp;lia
theorem eZ.units{k:Nat}{A:Around}(r:eZ k A):A.units+64<cLine:=by have:=r.un;lia
def HY:TA:=λ_ H Q=>Q [] H
def Hn(c:TE)(tr:TA):TA:=λa H Q=>c a H λx b=>tr a b λd e=>Q (x::d) e
section
variable{X:Cx}{e:Expr}{c:Og}{te:TE}{t:TA}{a:Pos}
def af:PA X [] HY:=λ_ _ _ _ H Q I h=>D_ ⟨[],H,I,.nil,h⟩
def ae(g:PE X e te)(i:PA X c t)(j:starEach (e::c) X.env=(false,eval e X.env)::starEach c X.env:=by rfl):PA X (e::c) (Hn te t):=by intro a b s f H Q I h;rw[j];show wpAny _ _ (spliced ((false,eval e X.env)::backTo a (starEach c X.env))) _ _ s;refine tx (cE (g b s f H _ I h) λu k d=>?_);obtain⟨x,l,I1,m,n⟩:=d;refine cE (i a b k f l _ I1 n) λv w d=>?_;obtain⟨o,p,q,r2,r⟩:=d;exact⟨x::o,p,q,.cons m r2,r⟩
def Lx(t:TA):TE:=λf H Q=>t f H λb d=>b.length<=sizeLine/\∀p,d p=none->Q (.ref p) (aI d p (.tup b))
def Ib(t:TA):TE:=λf H Q=>t f H λb d=>b.length<=sizeLine/\∀p,d p=none->Q (.ref p) (aI d p (.lst b))
def aR{i}(h:PA X c t):PE X (.Tuple c i a) (Lx t):=by intro d s j H Q I k;refine wpAny_Tuple_spliced (cE (h a d s j H _ I k) λl f m=>?_);obtain⟨n,g,I1,r,z,q⟩:=m;refine⟨by rw[<-r.length];exact z,?_⟩;have o:g f.heap.objs.size=none:=I1.hok.fresh (f_ _);refine⟨.ref f.heap.objs.size,aI g f.heap.objs.size (.tup n),I1.laid (t':=f.toks) (λb u e=>c_ _ e) (f_ _) ?_,rfl,q _ o⟩;exact⟨z,l,r,⟨_,j_ _ rfl,rfl,_,rfl⟩⟩
def bh(h:PA X c t):PE X (.List c a) (Ib t):=by intro d s i H Q I j;refine wpAny_List_spliced (cE (h a d s i H _ I j) λk f l=>?_);obtain⟨m,g,I1,r,z,q⟩:=l;refine⟨by rw[<-r.length];exact z,?_⟩;have n:g f.heap.objs.size=none:=I1.hok.fresh (f_ _);refine⟨.ref f.heap.objs.size,aI g f.heap.objs.size (.lst m),I1.laid (t':=f.toks) (λb u e=>c_ _ e) (f_ _) ?_,rfl,q _ n⟩;exact⟨z,k,0,r,j_ _ rfl⟩
end
abbrev Sp:=List V->Hp->VK->XK->Prop
abbrev zr:=List Env->Hp->Shared->XK->Value->Shared->Prop
structure AK(P:Oe)(w:World)(K:N_)(mg:Oc)(base:Heap)(A:Around)(outer:List Env)(s:Shared)(H:Hp):Prop where
 frames:A.frames=some outer
 mod:Li K mg base
 bs:∀b o,base.get? b=some o->s.heap.get? b=some o/\H b=none
 bsz:base.objs.size<=s.heap.objs.size
 funs:s.heap.FunFrames base outer
 frf:∀b∈jW outer,H b=none
 hok:lQ P w H s.heap
 bare:AllBare s.gens
def CE(outer:List Env)(P:Oe)(w:World)(H:Hp)(s:Shared)(Q:VK)(u:Value)(a:Shared):Prop:=∃v b,a.os=s.os/\AllBare a.gens/\Un (jW outer) [] H b s.heap a.heap/\lQ P w b a.heap/\bd v u/\Q v b
def CR(c:zr)(outer:List Env)(P:Oe)(w:World)(H:Hp)(s:Shared)(Q:VK)(E:XK)(r:Result)(a:Shared):Prop:=match r with|.ok (.ret u)=>CE outer P w H s Q u a|.ok _=>False|.error e=>c outer H s E e a
structure aT(P:Oe)(w:World)(K:N_)(mg:Oc)(base:Heap)(CX:zr)(k:Nat)(f:Addr)(fd:FuncData)(ps:Of)(sp:Sp):Prop where
 len:∀vs H Q E,sp vs H Q E->vs.length=ps.length
 run:∀(A:Around)(outer:List Env)(s:Shared)(H:Hp)(args:Args)(us:Od)(vs:List V)(Q:VK)(E:XK),eZ k A->AK P w K mg base A outer s H->BindsTo s fd args (ps.zip us)->bf vs us->sp vs H Q E->codeAny (model P w) A (.call (.ref f) args) (CR CX outer P w H s Q E) s
theorem aT.mono{P:Oe}{w:World}{K:N_}{mg:Oc}{base:Heap}{c:zr}{j k:Nat}{f:Addr}{fd:FuncData}{d:Of}{sp:Sp}(F:aT P w K mg base c j f fd d sp)(h:j<=k):aT P w K mg base c k f fd d sp:=⟨F.len,λA outer s H a b e Q E g=>F.run A outer s H a b e Q E (g.mono h)⟩
def AK.make{P:Oe}{w:World}{K:N_}{mg:Oc}{base:Heap}{A:Around}{outer:List Env}{s:Shared}{H:Hp}(e:AK P w K mg base A outer s H)(C:Addr)(a:Od)(c:List (Str×Value)):AK P w K mg base (A.under (.builtin "type.__call__" ⟨.ref C::a,c⟩)) outer s H:=⟨by first|exact e.frames|(simpa[Around.under,Code.envs,Code.isFrame,pushEnvs]using e.frames),e.mod,e.bs,e.bsz,e.funs,e.frf,e.hok,e.bare⟩
section
variable{X:Cx}{a:Ob}{e:St}{H:Hp}{s c:Shared}
def aO.env0(I:aO X a e H s):AK X.prog X.w X.K X.mg X.base X.A X.stack s H:=⟨I.ok.frames,I.ok.mod,I.bs,n7 I.ok.bsz I.sz,I.stack,I.stkFree,I.hok,I.bare⟩
def aO.after(I:aO X a e H s)(h:CE X.stack X.prog X.w H s Q u c):EP X a e Q u c:=by obtain⟨v,i,os,bare,un,hok,r,q⟩:=h;obtain⟨hh,g,d,t,f⟩:=c;obtain rfl:f=s.os:=os;exact⟨v,i,I.call (h':=hh) (g':=g) (d':=d) (t':=t) (ch:=[]) un hok bare (λb z=>absurd z (by simp)),r,q⟩
end
def Ho(sp:Sp)(a:List V)(E:XK)(t:TA):TE:=λb H Q=>t b H λc d=>sp (c++a) d Q E
def C1(C:Addr)(m:Str)(sp:Sp)(c:List V)(E:XK)(e:TE)(t:TA):TE:=λb H Q=>e b H λx d=>∃a dx fs,x=.ref a/\d a=some (.ins C dx fs)/\fs.lookup m=none/\t b d λf g=>sp (x::(f++c)) g Q E
def Kh(C:Addr)(sp:Sp)(a:List V)(E:XK)(t:TA):TE:=λc H Q=>t c H λd b=>∀x dx,b x=none->b dx=none->dx≠x->sp (.ref x::(d++a)) (aI (aI b dx (.own x)) x (.ins C dx [])) (λv e=>v=.non/\Q (.ref x) e) E
def fU(K:N_)(fd:FuncData)(c:Of)(ds:Od):Prop:=∀(s:Shared)(a:Od),K.In s.heap->(a++ds).length=c.length->BindsTo s fd ⟨a,[]⟩ (c.zip (a++ds))
def fU.all{K:N_}{fd:FuncData}{c:Of}(h:∀a:List Value,a.length=c.length->bindArgs fd ⟨a,[]⟩=pure (c.zip a)):fU K fd c []:=λs a _ b=>by rw[E2]at b⊢;exact .of_eq (h a b)
def mM(c:zr)(X:Cx)(E:XK):Prop:=∀(a:Ob)(d:St)(H:Hp)(s:Shared)(e:Value)(b:Shared),aO X a d H s->c X.stack H s E e b->X.xe e b
section
variable{X:Cx}{y:zr}{k:Nat}{f C:Addr}{fd:FuncData}{n:Of}{sp:Sp}{g:List V}{ds:Od}{E:XK}{x m:Str}{p d i:Pos}{e o:Expr}{j:Og}{z:TE}{t:TA}
def zK(F:aT X.prog X.w X.K X.mg X.base y k f fd n sp)(l:eZ k X.A)(q:fU X.K fd n ds)(hd:bf g ds)(v:mM y X E)(I:aO X a c H s)(r:bf vs us)(h:sp (vs++g) H Q E):wpAny (model X.prog X.w) X.A (call (.ref f) us) (EP X a c Q) X.xe s:=by
 have r2:bf (vs++g) (us++ds):=r.append hd;have B:(us++ds).length=n.length:=by rw[<-r2.length];exact F.len _ _ _ _ h
 refine wpAny_call (Ma (F.run X.A X.stack s H ⟨us,[]⟩ (us++ds) (vs++g) Q E l I.env0 (q s us I.kIn B) r2 h) λr D b=>?_);cases r with|error e=>exact v a c H s e D I b|ok G=>cases G with|ret u=>exact I.after b|next=>exact False.elim b|brk=>exact False.elim b|cont=>exact False.elim b
def a0(F:aT X.prog X.w X.K X.mg X.base y k f fd n sp)(u:eZ k X.A)(hg:Gl X x)(hm:X.mg x=some (.ref f))(v:PySem.W.keepIn X.K (.ref f)=true)(B:fU X.K fd n ds)(hd:bf g ds)(D:mM y X E)(G:PA X (e::j) t)(c:(x==("__debug__":Str))=false:=by decide)(J:starEach (e::j) X.env=(false,eval e X.env)::starEach j X.env:=by rfl)(l:(backTo d (starEach j X.env)).any (·.1)=false:=by rfl):PE X (.Call (.Name x p) (e::j) [] d) (Ho sp g E t):=by intro a s L H Q I h;refine z7 (pT I hg hm ?_ c);refine PySem.W.callWith_K (h₀:=X.base) I.ok.mod.kin v (cE (G d a s L H _ I h) λM N⟨O,P,I1,r,q⟩=>⟨I1.kIn,?_⟩) J l;exact zK F u B hd D I1 r q
def bA(O:PE X o z)(c:xS X.K C)(hm:Fw X.K C m f)(F:aT X.prog X.w X.K X.mg X.base y k f fd n sp)(P:eZ k X.A)(R:fU X.K fd n ds)(hd:bf g ds)(S:mM y X E)(T:PA X (e::j) t)(v:starEach (e::j) X.env=(false,eval e X.env)::starEach j X.env:=by rfl)(B:(backTo d (starEach j X.env)).any (·.1)=false:=by rfl)(Z:eval (.Call (.Attribute o m i) (e::j) [] d) X.env=(do
   let D<-eval o X.env
   standAt i.atName let(f,first)<-holding [D] (getMethod D m pl)callWith d f first (backTo d (starEach (e::j) X.env)) (backToKw d (keywordEach [] X.env))):=by rfl):PE X (.Call (.Attribute o m i) (e::j) [] d) (C1 C m sp g E z t):=by intro b s G H Q I h;refine PySem.W.methodCall_KW (pl:=pl) (cE (O b s G H _ I h) λu U⟨x,Y,I1,rx,a,dx,fs,ex,ea,l,q⟩=>?_) Z;subst ex;obtain rfl:u=Value.ref a:=rx;refine oN I1 ea c hm l ?_;refine PySem.W.callWith_K (first:=[.ref a]) (h₀:=X.base) I.ok.mod.kin hm.kp (cE (T d b U G Y _ I1 q) λL s2⟨M,H2,N,r,q2⟩=>⟨N.kIn,?_⟩) v B;exact zK (us:=.ref a::L) (vs:=.ref a::M) F P R hd S N (.cons rfl r) q2
def t7(v:PE X o z)(c:xS X.K C)(hm:Fw X.K C m f)(F:aT X.prog X.w X.K X.mg X.base y k f fd n sp)(B:eZ k X.A)(D:fU X.K fd n ds)(hd:bf g ds)(G:mM y X E)(J:eval (.Call (.Attribute o m i) [] [] d) X.env=(do
   let r<-eval o X.env
   standAt i.atName let(f,first)<-holding [r] (getMethod r m pl)callWith d f first (backTo d (starEach [] X.env)) (backToKw d (keywordEach [] X.env))):=by rfl):PE X (.Call (.Attribute o m i) [] [] d) (C1 C m sp g E z HY):=by intro b s L H Q I h;refine PySem.W.methodCall_KW (pl:=pl) (cE (v b s L H _ I h) λu O⟨x,P,I1,M,a,dx,fs,ex,N,l,q⟩=>?_) J;subst ex;obtain rfl:u=Value.ref a:=M;refine oN I1 N c hm l ?_;exact PySem.W.callWith_K0 (first:=[.ref a]) I1.kIn hm.kp (zK (us:=[.ref a]) (vs:=[.ref a]) F B D hd G I1 (.cons rfl .nil) q)
structure Mk(K:N_)(C f:Addr):Prop where
 makes:PySem.W.makesIn K C=true
 init:PySem.W.findIn K (.ref C) "__init__"=some (some (.ref f))fn:PySem.W.isFn K (.ref f)=true
 kp:PySem.W.keepIn K (.ref C)=true
def DJ(M:Mk X.K C f)(F:aT X.prog X.w X.K X.mg X.base y k f fd n sp)(G:eZ (k+1) X.A)(J:fU X.K fd n ds)(hd:bf g ds)(L:mM y X E)(I:aO X c q H s)(r:bf B l)(h:∀x dx,H x=none->H dx=none->dx≠x->sp (.ref x::(B++g)) (aI (aI H dx (.own x)) x (.ins C dx [])) (λv N=>v=.non/\Q (.ref x) N) E):wpAny (model X.prog X.w) X.A (call (.ref C) l) (EP X c q Q) X.xe s:=by
 have D:=h (s.heap.objs.size+1) s.heap.objs.size (I.hok.fresh (so _)) (I.hok.fresh (f_ _)) (ot (wr _));have b:=aO.made (C:=C) I;have r2:bf (V.ref (s.heap.objs.size+1)::(B++g)) (Value.ref (s.heap.objs.size+1)::(l++ds)):=.cons rfl (r.append hd);have O:(Value.ref (s.heap.objs.size+1)::l++ds).length=n.length:=by have e:=r2.length;rw[F.len _ _ _ _ D]at e;exact e.symm
 refine wpAny_call (Em (f:=f) I.kIn M.makes M.init (beq_iff_eq.mp M.fn) (Ma (F.run _ X.stack _ _ ⟨Value.ref (s.heap.objs.size+1)::l,[]⟩ (Value.ref (s.heap.objs.size+1)::(l++ds)) _ _ E (G.make C l []) (b.env0.make C l []) (J _ (Value.ref (s.heap.objs.size+1)::l) b.kIn O) r2 D) λr P a=>?_))
 cases r with|error e=>exact L c q _ _ e P b a|ok R=>cases R with|ret u=>obtain⟨v,S,T,U,W,Y⟩:=b.after a;subst W;exact⟨U,⟨V.ref (s.heap.objs.size+1),S,T,rfl,Y⟩⟩|next=>exact False.elim a|brk=>exact False.elim a|cont=>exact False.elim a
def sL(M:Mk X.K C f)(F:aT X.prog X.w X.K X.mg X.base y k f fd n sp)(u:eZ (k+1) X.A)(hg:Gl X x)(hm:X.mg x=some (.ref C))(v:fU X.K fd n ds)(hd:bf g ds)(B:mM y X E)(D:PA X (e::j) t)(c:(x==("__debug__":Str))=false:=by decide)(G:starEach (e::j) X.env=(false,eval e X.env)::starEach j X.env:=by rfl)(l:(backTo d (starEach j X.env)).any (·.1)=false:=by rfl):PE X (.Call (.Name x p) (e::j) [] d) (Kh C sp g E t):=by intro a s J H Q I h;refine z7 (pT I hg hm ?_ c);refine PySem.W.callWith_K (h₀:=X.base) I.ok.mod.kin M.kp (cE (D d a s J H _ I h) λL N⟨O,P,I1,r,q⟩=>⟨I1.kIn,?_⟩) G l;exact DJ M F u v hd B I1 r q
end
section
variable{X:Cx}{j:zr}{k:Nat}{f C:Addr}{fd:FuncData}{l n:Of}{sp:Sp}{E:XK}{x m:Str}{p h c a:Pos}{e o:Expr}{q:Og}{d:List Keyword}{te i:TE}{t tk:TA}{nm:Option Str}
variable{g:List Value->List Value->List Value}{r:List V->List V->List V}
end
structure aC(N P:Of)(sc:Scope):Prop where
 kind:sc.kind=.function
 co:sc.isCoroutine=false
 gen:sc.isGenerator=false
 nd:N.Nodup
 pre:N.take P.length=P
 par:∀x∈P,sc.names.lookup x=some .local\/sc.names.lookup x=some .cell
 nofree:∀y∈sc.names,y.2≠.free
theorem wA{kindOf:Str->Option NameKind}{x:Str}:∀{binds:List (Str×Value)}{m:Oc},(∀v,(x,v)∉binds)->bindL kindOf binds m x=m x
 |[],_,_=>rfl|(n,v)::r,m,h=>by
  unfold bindL;rw[wA λw a=>h w (lm _ a)]
  split
  ·have:x≠n:=by rintro rfl;exact h v m_
   simp[this]
  ·rfl
theorem wC{kindOf:Str->Option NameKind}{x:Str}:∀{binds:List (Str×Value)}{m:Oc},(∀v,(x,v)∉binds)->bindC kindOf binds m x=m x
 |[],_,_=>rfl|(n,v)::r,m,h=>by
  unfold bindC;rw[wC λw a=>h w (lm _ a)]
  split
  ·rfl
  ·have:x≠n:=by rintro rfl;exact h v m_
   simp[this]
theorem wB{kindOf:Str->Option NameKind}{x:Str}{v:Value}:∀{P:Of}{a:Od}{i:Nat}{m:Oc},P.Nodup->P[i]?=some x->a[i]?=some v->kindOf x=some .local->bindL kindOf (P.zip a) m x=some v|[],_,_,_,_,h,_,_=>by simp at h|_::_,[],_,_,_,_,h,_=>by simp at h|p::P,w::a,0,m,nd,h1,h2,b=>by simp at h1 h2;subst h1;subst h2;show bindL kindOf ((p,w)::P.zip a) m p=_;unfold bindL;rw[wA λv c=>(MS.mp nd).1 (MR c).1,mo b];simp|p::P,w::a,i+1,m,nd,h1,h2,b=>by show bindL kindOf ((p,w)::P.zip a) m x=_;unfold bindL;exact wB (i:=i) (MS.mp nd).2 (by simpa using h1) (by simpa using h2) b
theorem wD{kindOf:Str->Option NameKind}{x:Str}{v:Value}:∀{P:Of}{a:Od}{i:Nat}{m:Oc},P.Nodup->P[i]?=some x->a[i]?=some v->kindOf x≠some .local->bindC kindOf (P.zip a) m x=some v|[],_,_,_,_,h,_,_=>by simp at h|_::_,[],_,_,_,_,h,_=>by simp at h|p::P,w::a,0,m,nd,h1,h2,b=>by simp at h1 h2;subst h1;subst h2;show bindC kindOf ((p,w)::P.zip a) m p=_;unfold bindC;rw[wC λv c=>(MS.mp nd).1 (MR c).1,l_ b];simp|p::P,w::a,i+1,m,nd,h1,h2,b=>by show bindC kindOf ((p,w)::P.zip a) m x=_;unfold bindC;exact wD (i:=i) (MS.mp nd).2 (by simpa using h1) (by simpa using h2) b
def i3(N:Of)(a:List V):St:=a.map some++List.replicate (N.length-a.length) none
def qJ(c:zr)(P:Oe)(w:World)(K:N_)(mg:Oc)(base:Heap)(N:Of)(a:Str)(scope:Scope)(f:Addr)(cd:Value)(A:Around)(outer:List Env)(s:Shared)(H:Hp)(E:XK):Cx where
 prog:=P
 w:=w
 K:=K
 mg:=mg
 base:=base
 A:=A.deeper (envOfC a scope s.heap.objs.size f cd)
 N:=N
 s₀:=s
 H₀:=H
 env:=envOfC a scope s.heap.objs.size f cd
 outer:=outer
 stack:=envOfC a scope s.heap.objs.size f cd::outer
 ex:=[]
 calm:=true
 fn:=λ_=>true
 pn:=[]
 xe:=λe d=>wpAny (model P w) (A.deeper (envOfC a scope s.heap.objs.size f cd)) (leaving (envOfC a scope s.heap.objs.size f cd) e) (λ_ b=>c outer H s E e b) (λg b=>c outer H s E g b) d
def zg{a:Scope}{n:Nat}{x:Str}(h:a.names.lookup x=some .cell):∃c,(cellsFrom n a.names []).lookup x=some c:=by have q:=PySem.W.cellsFrom_some a.names n [] (.inl h);exact z8.mp q
def Cl{D:zr}{P:Oe}{w:World}{K:N_}{mg:Oc}{base:Heap}{N j:Of}{d:Str}{scope:Scope}{f:Addr}{cd:Value}{A:Around}{outer:List Env}{s F:Shared}{H:Hp}{E:XK}{C:Od}{l:List V}(S:aC N j scope)(hd:A.handled=none)(g:AK P w K mg base A outer s H)(O:l.length=j.length)(r:bf l C)(x:InCallC s s.heap.objs.size (bindL (envOfC d scope s.heap.objs.size f cd).kindOf (j.zip C) λ_=>none) (cellsFrom (s.heap.objs.size+1) scope.names []) (bindC (envOfC d scope s.heap.objs.size f cd).kindOf (j.zip C) λ_=>none) F):aO (qJ D P w K mg base N d scope f cd A outer s H E) [] (i3 N l) H F:=by
 have J:j.length<=N.length:=by have:=w_ List.length S.pre;rw[o8]at this;lia
 obtain⟨h1,tk,rfl,G⟩:=x.done;have m:∀b:Addr,b∉(qJ D P w K mg base N d scope f cd A outer s H E).ex:=λb z=>absurd (show b∈([]:Oj)from z) (by simp);refine⟨⟨g.mod,S.kind,rfl,rfl,f_ _,λy z c h1 h2=>?_,λy o=>?_,λy c _ h=>?_,λ_=>hd,Around.frames_deeper g.frames,.inr ⟨rfl,rfl⟩,λb z=>absurd z (m b),g.bs,g.bsz,λb _ _=>m b,λb z=>absurd z (m b),g.funs,g.frf⟩,rfl,g.bare,Un.kept G,⟨_,x.toInCall.ns,λi y v h1 h2 h3=>?_⟩,λy c h=>⟨_,x.cell y c h⟩,g.hok.fresh (f_ _),λy c h=>?_,λp t=>absurd (show p∈([]:Ob)from t) (by simp),g.hok.kept G,?_⟩
 ·exact name_of_addr x.apart (PySem.mem_of_lookup h1) (PySem.mem_of_lookup h2)
 ·have o:scope.names.lookup y=some .cell\/scope.names.lookup y=some .free:=o;rcases o with o|o
  ·exact zg o
  ·exact absurd rfl (S.nofree _ (PySem.mem_of_lookup o))
 ·exact z_ (x.above y c (PySem.mem_of_lookup h))
 ·have hi:i<l.length:=by
   unfold i3 at h2
   by_cases hi:i<l.length
   ·exact hi
   ·rw[Mo (by simpa using hi)]at h2;rw[List.getElem?_replicate]at h2
    split at h2<;>cases h2
  have L:l[i]?=some v:=by unfold i3 at h2;rw[y_ (by simpa using hi),i_]at h2;cases e:l[i]?with|none=>rw[e]at h2;cases h2|some a=>rw[e]at h2;cases h2;rfl
  obtain⟨u,I,M⟩:=r.get L;have t:j[i]?=some y:=by rw[<-S.pre,Na (by lia)];exact h1
  have B:j.Nodup:=by rw[<-S.pre];exact S.nd.sublist (M5 _ _)
  refine⟨u,M,?_⟩;rcases S.par y (g_ t)with k|k
  ·exact .inl ⟨k,wB B t I k⟩
  ·obtain⟨c,e⟩:=zg (n:=s.heap.objs.size+1) k;refine .inr ⟨.inl k,c,e,?_⟩;have q:=x.cell y c e;rw[wD B t I (by show scope.names.lookup y≠_;rw[k];decide)]at q;exact q
 ·exact g.hok.fresh (z_ (x.above y c (PySem.mem_of_lookup h)))
 ·unfold i3;show _=N.length;rw[k_,b_,Md];lia
def HA{F:zr}{P:Oe}{w:World}{K:N_}{mg:Oc}{base:Heap}{k:Nat}{f:Addr}{j a:Str}{d:Arguments}{g:List Stmt}{scope:Scope}{X kV B pm c ct oc:Value}{Z od:Option Addr}{L:Array (Option Value)}{N G:Of}{sp:Sp}(lk:K.lookup f=some ⟨oc,od,.func (PySem.W.fnOf j a d g scope X kV B pm Z c ct),L⟩)(M:PySem.W.codeIn K c a=true)(S:aC N G scope)(len:∀h H Q E,sp h H Q E->h.length=G.length)(m:∀(A:Around)(outer:List Env)(s:Shared)(H:Hp)(h:List V)(Q:VK)(E:XK),eZ k (A.deeper (envOfC a scope s.heap.objs.size f c))->sp h H Q E->∃t,vx (qJ F P w K mg base N a scope f c A outer s H E) g t/\t {nx:=λ_ l=>Q .non l,rt:=Q} (i3 N h) H):aT P w K mg base F (k+1) f (PySem.W.fnOf j a d g scope X kV B pm Z c ct) G sp:=by
 refine⟨len,λA outer s H Y us h Q E O C hb r D=>?_⟩;have hl:=len _ _ _ _ D;have KX:K.In s.heap:=C.mod.kin.keeps λb o e=>(C.bs b o e).1;have R:s.heap.NoLimit:=C.mod.nolimit.keeps λb o e=>(C.bs b o e).1;have p:∀y∈G.zip us,scope.names.lookup y.1=some .local\/(scope.names.lookup y.1=some .cell/\((cellsFrom (s.heap.objs.size+1) scope.names []).lookup y.1).isSome=true):=λ⟨n,v⟩hy=>by
  rcases S.par n (MR hy).1 with q|q
  ·exact .inl q
  ·exact .inr ⟨q,PySem.W.cellsFrom_some _ _ _ (.inl q)⟩
 refine codeAny_call_function O.depth (KX _ _ lk) rfl S.co S.gen rfl (PySem.W.codeRec_of KX M) (hb _ _ _ _ ?_);refine wpAny_newFunctionEnv_cells S.kind p λenv he s1 x=>?_;subst he;refine⟨R.keeps x.toInCall.keep,codeAny_func ?_⟩;obtain⟨t,ht,hq⟩:=m A outer s H h Q E (O.deeper _) D;have I:aO (qJ F P w K mg base N a scope f c A outer s H E) [] (i3 N h) H s1:=Cl S O.hd C hl r x;refine wpAny_mono (ht [] s1 (i3 N h) H _ I hq) (λfl T z=>?_) λe T z=>z;have fin:∀{i:St}{l:Hp}{v:V}{u:Value},aO (qJ F P w K mg base N a scope f c A outer s H E) [] i l T->bd v u->Q v l->CE outer P w H s Q u T:=λ{i l v u}J U q=>⟨v,l,J.os,J.bare,J.base,J.hok,U,q⟩
 cases fl with|ret u=>obtain⟨v,i,l,J,U,q⟩:=z;exact fin J U q|next=>obtain⟨i,l,J,q⟩:=z;exact fin (v:=V.non) (u:=Value.none) J rfl q|brk=>obtain⟨_,_,_,q⟩:=z;exact False.elim q|cont=>obtain⟨_,_,_,q⟩:=z;exact False.elim q
end L2
namespace L2
open PySem PySem.Spec PyProof.Rows
section
variable{X:Cx}{x:Str}{p a:Pos}{e:Expr}{c:Og}{t:TA}{id T:String}{r:List V->Hp->VK->Prop}
def tCB(r:List V->Hp->VK->Prop)(t:TA):TE:=λb H Q=>t b H λd f=>r d f Q
def aA(hc:dw X (.builtin id) r)(hg:Gl X x)(hm:X.mg x=none)(i:bootBuiltins x=some (.builtin id))(j:PA X (e::c) t)(hn:x≠"__name__":=by decide)(d:(x==("__debug__":Str))=false:=by decide)(l:starEach (e::c) X.env=(false,eval e X.env)::starEach c X.env:=by rfl)(f:(backTo a (starEach c X.env)).any (·.1)=false:=by rfl):PE X (.Call (.Name x p) (e::c) [] a) (tCB r t):=by intro b s g H Q I h;refine z7 (lj I hg hm i ?_ hn d);exact PyProof.Rows.callWith_builtin1 (cE (j a b s g H _ I h) λk m⟨n,o,I1,q,u⟩=>hc b m g o n k Q I1 q u) l f
def cZ(hc:dw X (.type T) r)(hg:Gl X x)(hm:X.mg x=none)(i:bootBuiltins x=some (.type T))(j:PA X (e::c) t)(hn:x≠"__name__":=by decide)(d:(x==("__debug__":Str))=false:=by decide)(l:starEach (e::c) X.env=(false,eval e X.env)::starEach c X.env:=by rfl)(f:(backTo a (starEach c X.env)).any (·.1)=false:=by rfl):PE X (.Call (.Name x p) (e::c) [] a) (tCB r t):=by intro b s g H Q I h;refine z7 (lj I hg hm i ?_ hn d);exact F_ (cE (j a b s g H _ I h) λk m⟨n,o,I1,q,u⟩=>hc b m g o n k Q I1 q u) l f
end
end L2
namespace HT
open PySem PyProof.Rows
section
open PySem.SeqAt
open PySem.AutoSeq1(wpAny_loadPart')
open PySem.MeetsSeq PySem.MeetsSeq2 PySem.MeetsSeq3
end
section
variable{prog:Oe}{w:World}{A:Around}{E:Oa}{s:Shared}
def G5(p:IsTup s.heap t d.toArray)(q:IsTup s.heap b a.toArray)(m:d≠[])(h1:a=[]->Q (.ref t) s)(h2:a≠[]->Q (.ref s.heap.objs.size) {s with heap:=s.heap.push {cls:=.type "tuple",data:=.seq (d++a).toArray}})(l:d.length+a.length<=sizeLine):wpAny (model prog w) A (binaryOp .Add (.ref t) (.ref b)) Q E s:=by
 obtain⟨⟨cls,dd,data,sl⟩,j,hc,n,hd⟩:=id p;obtain⟨⟨o,f,data2,g⟩,c,h,n2,i⟩:=id q;simp only at hc hd h i;subst hc hd h i;have e:d.toArray++a.toArray=(d++a).toArray:=by simp
 by_cases k:a=[]
 ·exact concat_meets ⟨_,j,rfl⟩ ⟨_,c,rfl⟩ noFill_tuple_add seq_tuple_add PySem.F.slot_tuple_add PySem.F.entry_tuple_add (PySem.F.args_tuple_add_2 _ _) (tuple_addW1 t b d.toArray a.toArray n n2 dd f sl g (by simpa using m) (by simp[k])) ⟨j,c,h1 k⟩
 ·refine concat_meets ⟨_,j,rfl⟩ ⟨_,c,rfl⟩ noFill_tuple_add seq_tuple_add PySem.F.slot_tuple_add PySem.F.entry_tuple_add (PySem.F.args_tuple_add_2 _ _) (tuple_addW2 t b d.toArray a.toArray n n2 dd f sl g (by simpa using m) (by simpa using k) (by rw[n_,n_];exact l)) ⟨j,c,?_⟩
  rw[e];exact h2 k
def ic(n d:Nat):Option Int->Nat|none=>d|some v=>if v<0 then(v+(n:Int)).toNat else min v.toNat n
def DI(n d:Nat):ic n d none=d:=rfl
def IJ(n d:Nat)(hd:d<=n)(o:Option Int):ic n d o<=n:=by cases o with|none=>exact hd|some v=>
  show(if v<0 then(v+(n:Int)).toNat else min v.toNat n)<=n
  by_cases a:v<0
  ·rw[mo a];lia
  ·rw[l_ a];exact MH _ _
def Br(v:Int)(n d:Nat):(if v<0 then max (v+(n:Int)) 0 else min v (n:Int))=((ic n d (some v):Nat):Int):=by
 show(if v<0 then max (v+(n:Int)) 0 else min v (n:Int))=(((if v<0 then(v+(n:Int)).toNat else min v.toNat n):Nat):Int)
 by_cases a:v<0
 ·simp only[mo a];lia
 ·simp only[l_ a];lia
def AC(lo hi:Option Int)(n:Nat):Builtin.Slice.sliceAdjust lo hi 1 (n:Int)=(((ic n 0 lo:Nat):Int),((ic n n hi:Nat):Int)):=by
 have h1:¬((1:Int)<0):=by lia
 unfold Builtin.Slice.sliceAdjust;simp only[h1,Ng];refine Prod.ext ?_ ?_
 ·cases lo with|none=>rfl|some v=>exact Br v n 0
 ·cases hi with|none=>rfl|some v=>exact Br v n n
def zP(i j:Nat):Builtin.Slice.slicePlaces (i:Int) (j:Int) 1=j-i:=by
 unfold Builtin.Slice.slicePlaces;have h1:(1:Int)>0:=by lia
 simp only[h1,NN,Int.ediv_one]
 split<;>lia
def tz(p:IsPart v o)(h:Q o s):wpAny (model prog w) A (Builtin.Slice.slicePartIndex v) Q E s:=by cases p with|none=>exact slicePart_none h|int i t=>exact slicePart_int h
def qp{sl:Addr}{c d:Value}{lo hi:Option Int}{n:Nat}{Q:Int×Int×Nat->Shared->Prop}(e:s.heap.IsSliceOf sl c d .none)(pl:IsPart c lo)(f:IsPart d hi)(h:Q (((ic n 0 lo:Nat):Int),1,ic n n hi-ic n 0 lo) s):wpAny (model prog w) A (Builtin.Slice.sliceApplied (.ref sl) (pure (n:Int))) Q E s:=by obtain⟨os,a,g,b⟩:=id e;unfold Builtin.Slice.sliceApplied Builtin.Slice.sliceFields;refine a_ (a_ (wh a b (x:=c) rfl (a_ (wh a b (x:=d) rfl (a_ (wh a b (x:=.none) rfl (e_ ?_)))))));refine a_ (slicePart_none ?_);show wpAny _ _ (if((1:Int)==0)=true then _ else _) _ _ s;rw[l_ (by decide)];refine a_ (tz pl (a_ (tz f (a_ (e_ ?_)))));show wpAny _ _ (match Builtin.Slice.sliceAdjust lo hi 1 (n:Int)with|(lo,hi)=>pure (lo,(1:Int),Builtin.Slice.slicePlaces lo hi 1)) _ _ s;rw[AC lo hi n];show wpAny _ _ (pure (((ic n 0 lo:Nat):Int),(1:Int),Builtin.Slice.slicePlaces ((ic n 0 lo:Nat):Int) ((ic n n hi:Nat):Int) 1)) _ _ s;rw[zP];exact e_ h
def DR(a:Oh)(i k:Nat):((List.range k).filterMap λ(m:Nat)=>a[((i:Int)+(m:Int)*1).toNat]?).toArray=((a.toList.drop i).take k).toArray:=by
 have e:(λ(m:Nat)=>a[((i:Int)+(m:Int)*1).toNat]?)=λm=>a[i+m]?:=by
  funext m
  have:((i:Int)+(m:Int)*1).toNat=i+m:=by lia
  rw[this]
 rw[e];have:=pick_run a i k;rw[List.filterMap_map]at this;have b:((λx=>a[x]?)∘λx=>i+x)=λm=>a[i+m]?:=rfl;rw[b]at this;rw[this]
def pW{t sl:Addr}{a:Oh}{i j:Value}{lo hi:Option Int}{Q:Oa}(c:IsTup s.heap t a)(l:s.heap.IsSliceOf sl i j .none)(pl:IsPart i lo)(n:IsPart j hi)(o:¬(ic a.size 0 lo=0/\ic a.size a.size hi=a.size))(h:Q (.ref s.heap.objs.size) {s with heap:=s.heap.push {cls:=.type "tuple",data:=.seq ((a.toList.drop (ic a.size 0 lo)).take (ic a.size a.size hi-ic a.size 0 lo)).toArray}})(p:a.size<=sizeLine):wpAny (model prog w) A (getItem (.ref t) (.ref sl)) Q E s:=by
 have b:sizeOk (.seq ((a.toList.drop (ic a.size 0 lo)).take (ic a.size a.size hi-ic a.size 0 lo)).toArray):=by show((a.toList.drop (ic a.size 0 lo)).take (ic a.size a.size hi-ic a.size 0 lo)).toArray.size<=sizeLine;rw[n_,o8,L9,o0];lia
 have u:ic a.size a.size hi<=a.size:=IJ _ _ (f_ _) hi;obtain⟨os,d,e,r⟩:=id l;have f:s.TypeIs (.ref sl) "slice":=⟨os,d,e⟩;unfold getItem
 try with_reducible refine ri ?_
 first|refine a_ (e_ ?_)|skip
 refine a_ (NL c.typeIs (by decide) ?_);refine a_ (rr (name:=Str.ofString "__getitem__") c.typeIs NV (rk NV c.typeIs entry_tuple_getitem ?_ (args_tuple_getitem _ _)))
 show wpAny _ _ (Builtin.Tuple.tupleItemsOf (.ref t)>>=_) _ _ s;refine a_ (tupleItemsOf_ c ?_);refine a_ (NK f ?_);rw[mo (by decide)];refine a_ (qp l pl n ?_);have g:¬((((ic a.size 0 lo:Nat):Int)==0&&(1:Int)==1&&(ic a.size a.size hi-ic a.size 0 lo)==a.size)=true):=by intro q;rw[pa,pa]at q;have v:((ic a.size 0 lo:Nat):Int)=0:=eq_of_beq q.1.1;have x:ic a.size a.size hi-ic a.size 0 lo=a.size:=eq_of_beq q.2;exact o ⟨by lia,by lia⟩
 show wpAny _ _ (if(((ic a.size 0 lo:Nat):Int)==0&&(1:Int)==1&&(ic a.size a.size hi-ic a.size 0 lo)==a.size)=true then _ else _) _ _ s;rw[l_ g,DR]
 first|exact a_ (m:=Builtin.Tuple.tupleExact _) (ry (e_ ⟨_,rfl,e_ h⟩) b)|exact a_ (m:=Builtin.Tuple.tupleExact _) (ry (a_ (e_ (e_ ⟨_,rfl,e_ h⟩))) b)|exact a_ (a_ (m:=Builtin.Tuple.tupleExact _) (ry (e_ (e_ ⟨_,rfl,e_ h⟩)) b))|exact a_ (a_ (m:=Builtin.Tuple.tupleExact _) (ry (e_ ⟨_,rfl,e_ h⟩) b))
end
end HT
namespace L2
open PySem PySem.Spec PyProof.Rows
abbrev TO:=St->Hp->(Option Int->Hp->Prop)->Prop
def PO(X:Cx)(e:Option Expr)(t:TO):Prop:=∀(a:Ob)(s:Shared)(b:St)(H:Hp)(Q:Option Int->Hp->Prop),aO X a b H s->t b H Q->wpAny (model X.prog X.w) X.A (evalPart e X.env) (λu d=>∃o c,aO X a b c d/\IsPart u o/\Q o c) X.xe s
def FF:TO:=λ_ H Q=>Q none H
def Kf(t:TE):TO:=λa H Q=>t a H λx b=>∃i,x=.int i/\Q (some i) b
def Ak:∀{a:Od},bf (ns.map V.int) a->IntsAre a ns:=by induction ns with|nil=>intro a r;rw[List.map_nil]at r;cases r;exact .nil|cons n ns b=>intro a r;rw[pu]at r;cases r with|cons c r2=>obtain⟨t,e⟩:=c;subst e;exact .cons n t (b r2)
section
variable{X:Cx}{e:Expr}{te:TE}{lo hi:Option Expr}{d f:TO}{g c:Pos}
def iM:PO X none FF:=by intro a s b H Q I h;rw[evalPart_none];exact e_ ⟨none,H,I,.none,h⟩
def iL(h:PE X e te):PO X (some e) (Kf te):=by intro a s b H Q I j;rw[evalPart_some];refine cE (h a s b H _ I j) λu o k=>?_;obtain⟨x,l,I1,m,n⟩:=k;obtain⟨i,rfl,q⟩:=n;obtain⟨t,rfl⟩:=m;exact⟨some i,l,I1,.int i t,q⟩
def J5(X:Cx)(r:V->Option Int->Option Int->Hp->VK->Prop):Prop:=∀(a:Ob)(s:Shared)(b:St)(H:Hp)(x:V)(v h i:Value)(lo hi:Option Int)(sl:Addr)(Q:VK),aO X a b H s->bd x v->s.heap.IsSliceOf sl h i .none->IsPart h lo->IsPart i hi->r x lo hi H Q->∃T id,typeLookup (.type T) "__getitem__"=pure (some (.builtin id))/\s.TypeIs v T/\wpAny (model X.prog X.w) X.A (getItem v (.ref sl)) (EP X a b Q) X.xe s
def tSl(r:V->Option Int->Option Int->Hp->VK->Prop)(te:TE)(d f:TO):TE:=λa H Q=>te a H λx b=>d a b λl h=>f a h λu i=>r x l u i Q
def gr(p:J5 X r)(t:PE X e te)(y:PO X lo d)(z:PO X hi f):PE X (.Subscript e (.Slice lo hi none c) g) (tSl r te d f):=by intro a s j H Q I h;refine Subscript_ (cE (t a s j H _ I h) λv B k=>?_);obtain⟨x,C,I1,D,E⟩:=k;refine wpAny_Slice (cE (y a B j C _ I1 E) λm F k=>?_);obtain⟨l,G,J,pl,K⟩:=k;refine cE (z a F j G _ J K) λn i k=>?_;obtain⟨u,o,L,M,N⟩:=k;rw[evalPart_none];refine e_ ?_;have O:aO X a j o {i with heap:=i.heap.push {cls:=.type "slice",data:=.fields #[m,n,.none]}}:=L.kept (t':=i.toks) λb ob q=>c_ _ q;obtain⟨T,id,P,R,hg⟩:=p a {i with heap:=i.heap.push {cls:=.type "slice",data:=.fields #[m,n,.none]}} j o x v m n l u i.heap.objs.size Q O D (Heap.IsSliceOf.new ..) pl M N;show wpAny (model X.prog X.w) X.A (subscriptTail e (.Slice lo hi none c) v (.ref i.heap.objs.size)) (EP X a j Q) X.xe {i with heap:=i.heap.push {cls:=.type "slice",data:=.fields #[m,n,.none]}};exact tail_any (ops:=[.ref i.heap.objs.size,v]) R P hg (by with_unfolding_all rfl)
def vk(a:List V)(lo hi:Option Int):List V:=(a.drop (HT.ic a.length 0 lo)).take (HT.ic a.length a.length hi-HT.ic a.length 0 lo)
def rL(a:List V)(lo hi:Option Int):(vk a lo hi).length<=a.length:=by unfold vk;rw[o8,L9];lia
def Ky(K:N_):V->Option Int->Option Int->Hp->VK->Prop:=λx lo hi H Q=>∃a b,x=.ref a/\aS K H a b/\¬(HT.ic b.length 0 lo=0/\HT.ic b.length b.length hi=b.length)/\∀p,H p=none->Q (.ref p) (aI H p (.tup (vk b lo hi)))
def IF:J5 X (Ky X.K):=by
 intro l s z H x v A B lo hi sl Q I p t pl u h;obtain⟨a,j,rfl,w,y,q⟩:=h;cases p;obtain⟨k,r,m,n⟩:=I.tuple w;have i:k.toArray.size=j.length:=by rw[n_];exact r.length.symm
 refine⟨"tuple",_,PyProof.Rows.slot_tuple_getitem.lookup,m.typeIs,?_⟩;refine HT.pW m t pl u (by rw[i];exact y) ?_ (by rw[i];exact n);rw[i];refine⟨.ref s.heap.objs.size,_,I.laid (t':=s.toks) (o:=.tup (vk j lo hi)) (λb ob q=>c_ _ q) (f_ _) ?_,rfl,q _ (I.hok.fresh (f_ _))⟩;exact⟨n7 (rL j lo hi) n,_,(r.drop (HT.ic j.length 0 lo)).take (HT.ic j.length j.length hi-HT.ic j.length 0 lo),IsTup.new _ _⟩
def Hu(K:N_):R2:=λx y H Q=>∃a b i h,x=.ref a/\y=.ref b/\aS K H a i/\aS K H b h/\i≠[]/\i.length+h.length<=sizeLine/\(h=[]->Q (.ref a) H)/\(h≠[]->∀p,H p=none->Q (.ref p) (aI H p (.tup (i++h))))
def bf.nil_iff(r:bf a h):h=[]↔a=[]:=by cases r with|nil=>simp|cons _ _=>simp
def Gu:lz X (binaryOp .Add) (Hu X.K):=by intro j s G H x y v u Q I m n h;obtain⟨a,b,p,r,rfl,rfl,t,A,B,k,C,D⟩:=h;cases m;cases n;obtain⟨E,i,F,_⟩:=I.tuple t;obtain⟨l,r2,c,_⟩:=I.tuple A;refine HT.G5 F c (λz=>B (i.nil_iff.mp z)) (λz=>⟨.ref a,H,I,rfl,C (r2.nil_iff.mp z)⟩) (λz=>?_) (by rw[<-i.length,<-r2.length];exact k);refine⟨.ref s.heap.objs.size,_,I.laid (t':=s.toks) (o:=.tup (p++r)) (λb ob q=>c_ _ q) (f_ _) ?_,rfl,D (λw=>z (r2.nil_iff.mpr w)) _ (I.hok.fresh (f_ _))⟩;exact⟨by rw[k_];exact k,_,i.append r2,IsTup.new _ _⟩
end
end L2
namespace L2
open PySem PySem.Spec PyProof.Rows
def GS(n:Nat)(i:Int):Option Nat:=if 0<=i then(if i<n then some i.toNat else none)else if-(n:Int)<=i then some (i+n).toNat else none
def vq{a:Type}(c:List a)(i:Int):Option a:=(GS c.length i).bind λj=>c[j]?
def Bl(h:GS n i=some j):seqIndex? i n=some j/\j<n/\-(n:Int)<=i/\i<n:=by
 unfold GS at h
 by_cases h0:0<=i
 ·rw[mo h0]at h
  by_cases h1:i<n
  ·rw[mo h1]at h;have e:i.toNat=j:=nB h;exact⟨by rw[seqIndex_of h0 h1,e],by lia,by lia,h1⟩
  ·rw[l_ h1]at h;cases h
 ·rw[l_ h0]at h
  by_cases h1:-(n:Int)<=i
  ·rw[mo h1]at h;have e:(i+n).toNat=j:=nB h;exact⟨by rw[seqIndex_neg (by lia) h1,e],by lia,h1,by lia⟩
  ·rw[l_ h1]at h;cases h
def xE(h:vq a i=some v):∃j,seqIndex? i a.length=some j/\a[j]?=some v/\j<a.length/\-(a.length:Int)<=i/\i<a.length:=by unfold vq at h;cases e:GS a.length i with|none=>rw[e]at h;cases h|some j=>rw[e]at h;obtain⟨h1,h2,h3,h4⟩:=Bl e;exact⟨j,h1,h,h2,h3,h4⟩
def xL(b:Expr):Prop:=∀o i,subscripted b false o i=operate [o,i] (getItem o i)
def J7(X:Cx)(r:R2):Prop:=∀(c a:Expr)(b:Ob)(s:Shared)(d:St)(H:Hp)(x y:V)(v u:Value)(Q:VK),aO X b d H s->bd x v->bd y u->r x y H Q->subscripted a false v u=operate [v,u] (getItem v u)->wpAny (model X.prog X.w) X.A (subscriptTail c a v u) (EP X b d Q) X.xe s
def LY(X:Cx)(id:String)(r:V->List V->Hp->VK->Prop):Prop:=∀(a:Ob)(s:Shared)(b:St)(H:Hp)(x:V)(c:List V)(v:Value)(d:Od)(Q:VK),aO X a b H s->bd x v->bf c d->r x c H Q->wpAny (model X.prog X.w) X.A (call (.builtin id) (v::d)) (EP X a b Q) X.xe s
section
variable{X:Cx}{a b:Expr}{E F:TE}{D:Pos}
def yr(d:J7 X r)(e:PE X a E)(f:PE X b F)(g:xL b):PE X (.Subscript a b D) (HX r E F):=by intro c s i H Q I h;exact Subscript_ (JE e f I h λv u j x y k l m n q=>d a b c j i k x y v u Q l m n q (g _ _))
def IN(K:N_):R2:=λx y H Q=>∃p c i v,x=.ref p/\y=.int i/\aY K H p c/\vq c i=some v/\Q v H
def IM(K:N_):R2:=λx y H Q=>∃p c i v,x=.ref p/\y=.int i/\aS K H p c/\vq c i=some v/\Q v H
def LJ:R2:=λx y H Q=>∃z i c,x=.str z/\y=.int i/\z.length<=sizeLine/\vq z.cps.toList i=some c/\Q (.str ⟨#[c]⟩) H
def GQ:J7 X (IN X.K):=by
 intro d e c s l H x y v u Q I o A h m;obtain⟨p,L,i,z,rfl,rfl,B,C,q⟩:=h;cases o;obtain⟨t,rfl⟩:=A;obtain⟨f,r,pl,M⟩:=I.list B;obtain⟨j,h1,h2,h3,h4,h5⟩:=xE C;obtain⟨w,n,g⟩:=r.get h2;have G:=r.length;have hn:=qE;have fin:EP X c l Q w s:=⟨z,H,I,g,q⟩
 by_cases h0:0<=i
 ·have k:i.toNat=j:=by rw[seqIndex_of h0 h5]at h1;exact nB h1
  exact item_listR pl.isList h0 (by lia) (by rw[k];simpa using n) fin m
 ·have k:(i+(f.toArray.size:Int)).toNat=j:=by rw[seqIndex_neg (by lia) h4]at h1;rw[n_,<-G];exact nB h1
  exact subscriptTail_builtinR (x:=w) pl.isList.typeIs slot_list_getitem.lookup (wpAny_getItem_list_neg (Q:=λr J=>r=w/\EP X c l Q r J) pl.isList (by lia) (by rw[n_]<;>lia) (by lia) (by rw[k];simpa using n) ⟨rfl,fin⟩) m
def Jo:J7 X (IM X.K):=by intro d e c s g H x y v u Q I k l h m;obtain⟨p,J,i,z,rfl,rfl,n,o,q⟩:=h;cases k;obtain⟨t,rfl⟩:=l;obtain⟨A,r,pl,L⟩:=I.tuple n;obtain⟨j,h1,h2,h3,h4,h5⟩:=xE o;obtain⟨w,B,f⟩:=r.get h2;have C:=r.length;have hn:=qE;have fin:EP X c g Q w s:=⟨z,H,I,f,q⟩;exact subscriptTail_builtinR (x:=w) pl.typeIs slot_tuple_getitem.lookup (getItem_tuple (j:=j) (Q:=λr G=>r=w/\EP X c g Q r G) pl (by lia) (by lia) (by rw[n_,<-C];exact h1) (by simpa using B) ⟨rfl,fin⟩) m
def Ah:J7 X LJ:=by
 intro d e f s r H x y v u Q I g k h l;obtain⟨z,i,c,rfl,rfl,w,m,q⟩:=h;obtain⟨t,rfl⟩:=g;obtain⟨A,rfl⟩:=k;obtain⟨j,h1,h2,h3,h4,h5⟩:=xE m;have n:z.cps.toList.length=z.length:=by simp[Str.length]
 rw[n]at h1 h4 h5;have hn:=qE;exact tail_any (typeIs_str s z t) slot_str_getitem.lookup (getItem_str (c:=c) (by have o:decide (i< -(2^63:Int))=false:=op (by lia);have p:decide (i>=2^63)=false:=op (by lia);rw[o,p,Bool.or_false]) (by rw[h1];simpa using h2) ⟨.str ⟨#[c]⟩,H,I.tok _,⟨_,rfl⟩,q⟩) l
def Ac(c:Od)(n j:Nat)(u:Value):Obj.mapSeq (·.setIfInBounds j u) {cls:=.type "list",data:=.seq c.toArray n}={cls:=.type "list",data:=.seq (c.set j u).toArray n}:=by simp[Obj.mapSeq]
theorem aO.lst(I:aO X d f H s)(h:H p=some (.lst xs)):∃(c:Od)(n:Nat),bf xs c/\s.heap.get? p=some {cls:=.type "list",data:=.seq c.toArray n}/\xs.length<=sizeLine:=by obtain⟨z,c,n,r,e⟩:=I.hok p _ h;exact⟨c,n,r,e,z⟩
def aO.lstUpd{d:Ob}{l:St}{H:Hp}{s:Shared}{p:Addr}{o i:List V}{g c:Od}{n j:Nat}{f:Obj->Obj}(I:aO X d l H s)(h:H p=some (.lst o))(v:s.heap.get? p=some {cls:=.type "list",data:=.seq g.toArray n})(m:f {cls:=.type "list",data:=.seq g.toArray n}={cls:=.type "list",data:=.seq c.toArray j})(r:bf i c)(w:i.length<=sizeLine)(t:Nat):aO X d l (aI H p (.lst i)) {s with heap:=s.heap.update p f,toks:=t}:=by
 have e:(s.heap.update p f).get? p=some {cls:=.type "list",data:=.seq c.toArray j}:=by rw[vr f v (by rw[m]<;>rfl),m]
 refine I.write (x:=p) (e:=p) (by rw[h];trivial) (.inl rfl) (λb u k q=>(y2 _ _ (rb k)).trans q) ⟨_,e⟩ ?_;exact⟨w,c,j,r,e⟩
def KB:V->V->V->Hp->(Hp->Prop)->Prop:=λo i v H Q=>∃p c k j,o=.ref p/\i=.int k/\H p=some (.lst c)/\GS c.length k=some j/\Q (aI H p (.lst (c.set j v)))
def DG:Hg X KB:=by
 intro c s w H o i v G iv u Q I x y z h;obtain⟨p,A,k,j,rfl,rfl,l,B,q⟩:=h;cases x;obtain⟨t,rfl⟩:=y;obtain⟨d,n,r,e,C⟩:=I.lst l;obtain⟨h1,h2,h3,h4⟩:=Bl B;have f:=r.length;have hn:=qE;have m:aO X c w (aI H p (.lst (A.set j v))) {s with heap:=s.heap.update p (Obj.mapSeq (·.setIfInBounds j u))}:=I.lstUpd l e (Ac d n j u) (r.set z j) (by rw[y3];exact C) s.toks
 by_cases h0:0<=k
 ·have g:k.toNat=j:=by rw[seqIndex_of h0 h4]at h1;exact nB h1
  exact PySem.W.ki_setAt e h0 (by lia) (by rw[n_,<-f];exact h4) (by rw[g];exact⟨_,m,q⟩)
 ·have g:(k+(d.toArray.size:Int)).toNat=j:=by rw[seqIndex_neg (by lia) h3]at h1;rw[n_,<-f];exact nB h1
  exact PySem.W.ki_setBack e (by lia) (by rw[n_,<-f];exact h3) (by lia) (by rw[g];exact⟨_,m,q⟩)
def wM(lo hi:Option Int)(n:Nat):(sliceBounds lo hi none n).1=((HT.ic n 0 lo:Nat):Int)/\(sliceBounds lo hi none n).2.1=((HT.ic n n hi:Nat):Int)/\(sliceBounds lo hi none n).2.2=1:=by
 refine⟨?_,?_,rfl⟩
 ·cases lo with|none=>simp[sliceBounds,HT.ic]|some i=>
   simp only[sliceBounds,HT.ic,Option.getD_none,show(1:Int)>0 by decide,NN]
   by_cases h:i<0
   ·simp only[h,NN]<;>lia
   ·simp only[h,Ng]<;>lia
 ·cases hi with|none=>simp[sliceBounds,HT.ic]|some i=>
   simp only[sliceBounds,HT.ic,Option.getD_none,show(1:Int)>0 by decide,NN]
   by_cases h:i<0
   ·simp only[h,NN]<;>lia
   ·simp only[h,Ng]<;>lia
def u3(c:Od)(lo hi:Option Int):slicePick c.toArray lo hi none=((c.drop (HT.ic c.length 0 lo)).take (HT.ic c.length c.length hi-HT.ic c.length 0 lo)).toArray:=by obtain⟨h1,h2,h3⟩:=wM lo hi c.toArray.size;unfold slicePick;rw[h1,h2,h3];simp only[sliceRange_one,pick_run,n_]<;>rfl
def Kz(K:N_):V->Option Int->Option Int->Hp->VK->Prop:=λx lo hi H Q=>∃a c,x=.ref a/\aY K H a c/\∀p,H p=none->Q (.ref p) (aI H p (.lst (vk c lo hi)))
def Gc:J5 X (Kz X.K):=by intro e s n H x v p t lo hi sl Q I g i pl j h;obtain⟨a,c,rfl,k,q⟩:=h;cases g;obtain⟨l,r,f,m⟩:=I.list k;have d:=r.length;refine⟨"list",_,slot_list_getitem.lookup,f.isList.typeIs,?_⟩;refine wpAny_getItem_list_slice f.isList i pl j .none (by simp) ?_ (by rw[n_]<;>lia);rw[u3,<-d];refine⟨.ref s.heap.objs.size,_,I.laid (t':=s.toks) (o:=.lst (vk c lo hi)) (λb ob q=>c_ _ q) (f_ _) ?_,rfl,q _ (I.hok.fresh (f_ _))⟩;exact⟨n7 (rL c lo hi) m,_,0,(r.drop (HT.ic c.length 0 lo)).take (HT.ic c.length c.length hi-HT.ic c.length 0 lo),j_ _ rfl⟩
def n6:V->Bool|.non=>true|.bl _=>true|.int _=>true|.str _=>true|_=>false
def HC:V->V->Bool|.non,.non=>true|.bl a,.bl b=>a==b|.bl a,.int b=>(if a then 1 else 0)==b|.int a,.bl b=>a==(if b then 1 else 0)|.int a,.int b=>a==b|.str a,.str b=>a==b|_,_=>false
def Jw(e:bd y u)(c:bd x v)(g:n6 y=true)(f:n6 x=true):SeqAt.EqAt A s u v (HC y x):=by cases y with
 |non=>cases e;cases x with|non=>cases c;exact SeqAt.EqAt.same _|bl b=>cases c;exact SeqAt.EqAt.none_bool b|int b=>obtain⟨t,rfl⟩:=c;exact SeqAt.EqAt.none_int b t|str b=>obtain⟨t,rfl⟩:=c;exact SeqAt.EqAt.none_str b t|_=>exact absurd (show false=true from f) oa
 |bl a=>cases e;cases x with|non=>cases c;exact SeqAt.EqAt.bool_none a|bl b=>cases c;exact SeqAt.EqAt.bool_bool a b|int b=>obtain⟨t,rfl⟩:=c;exact SeqAt.EqAt.bool_int a b t|str b=>obtain⟨t,rfl⟩:=c;exact SeqAt.EqAt.bool_str a b t|_=>exact absurd (show false=true from f) oa
 |int a=>obtain⟨d,rfl⟩:=e;cases x with|non=>cases c;exact SeqAt.EqAt.int_none a d|bl b=>cases c;exact SeqAt.EqAt.int_bool a d b|int b=>obtain⟨t,rfl⟩:=c;exact SeqAt.EqAt.int_int a d b t|str b=>obtain⟨t,rfl⟩:=c;exact SeqAt.EqAt.int_str a d b t|_=>exact absurd (show false=true from f) oa
 |str a=>obtain⟨d,rfl⟩:=e;cases x with|non=>cases c;exact SeqAt.EqAt.str_none a d|bl b=>cases c;exact SeqAt.EqAt.str_bool a d b|int b=>obtain⟨t,rfl⟩:=c;exact SeqAt.EqAt.str_int a d b t|str b=>obtain⟨t,rfl⟩:=c;exact SeqAt.EqAt.str_str a d b t|_=>exact absurd (show false=true from f) oa
 |_=>exact absurd (show false=true from g) oa
def GZ(x:V)(u:Value):Bool:=match u with|.none=>HC .non x|.bool b=>HC (.bl b) x|.int i _=>HC (.int i) x|.str z _=>HC (.str z) x|_=>false
def EY(r:bd y u)(f:n6 y=true):GZ x u=HC y x:=by cases y with|non=>cases r;rfl|bl b=>cases r;rfl|int i=>obtain⟨t,rfl⟩:=r;rfl|str z=>obtain⟨t,rfl⟩:=r;rfl|_=>exact absurd (show false=true from f) oa
theorem xF:∀{c:List V}{d:Od},bf c d->c.all n6=true->d.any (GZ x)=c.any λy=>HC y x|_,_,.nil,_=>rfl|y::c,u::d,.cons r t,f=>by rw[MK,pa]at f;rw[J_,J_,EY r f.1,xF t f.2]
theorem uu(g:bd x v)(h:n6 x=true):∀{d:List V}{e:Od},bf d e->d.all n6=true->∀u∈e,SeqAt.EqAt A s u v (GZ x u)
 |_,_,.nil,_=>λu c=>by cases c|y::d,u::e,.cons r t,f=>λi c=>by
  rw[MK,pa]at f;rcases tA.mp c with rfl|c
  ·rw[EY r f.1];exact Jw r g f.1 h
  ·exact uu g h t f.2 i c
def oR(x:V)(c:List V):Bool:=c.any λy=>HC y x
def rIn(K:N_)(d:Bool):R2:=λx y H Q=>∃p c,y=.ref p/\(aY K H p c\/aS K H p c)/\n6 x=true/\c.all n6=true/\Q (.bl (if d then !oR x c else oR x c)) H
def B0:lz X (compareOp .In) (rIn X.K false):=by
 intro f s l H x y v u Q I g j h;obtain⟨p,m,rfl,d,i,fs,q⟩:=h;cases j;rcases d with d|d
 ·obtain⟨c,r,pl,k⟩:=I.list d;refine SeqAt.in_listAt (GZ x) pl.isList (λw e=>uu g i r fs w (by simpa using e)) ⟨.bl _,H,I,rfl,?_⟩;rw[show c.toArray.any (GZ x)=c.any (GZ x)by simp,xF r fs];exact q
 ·obtain⟨c,r,pl,k⟩:=I.tuple d;refine SeqAt.in_tupleAt (GZ x) pl (λw e=>uu g i r fs w (by simpa using e)) ⟨.bl _,H,I,rfl,?_⟩;rw[show c.toArray.any (GZ x)=c.any (GZ x)by simp,xF r fs];exact q
def xx:dw X (.type "list") (λv H Q=>∃p d,v=[.ref p]/\(aY X.K H p d\/aS X.K H p d)/\∀l,H l=none->Q (.ref l) (aI H l (.lst d))):=by
 intro i s y H v A Q I r h;obtain⟨p,d,rfl,j,q⟩:=h;obtain⟨u,rfl,z⟩:=j5 r;cases z;have fin:∀(c:Od),bf d c->d.length<=sizeLine->∀(h':Heap)(f:Nat),(∀b x,s.heap.get? b=some x->h'.get? b=some x)->h'.get? s.heap.objs.size=some {cls:=.type "list",dict:=none,data:=.seq c.toArray f,slots:=#[]}->EP X i y Q (.ref s.heap.objs.size) {s with heap:=h'}:=λc g k h' f kp e=>⟨.ref s.heap.objs.size,_,I.laid (t':=s.toks) kp (f_ _) (show du X.prog X.w _ h' _ (.lst d)from⟨k,c,f,g,e⟩),rfl,q _ (I.hok.fresh (f_ _))⟩
 rcases j with j|j
 ·obtain⟨c,g,pl,k⟩:=I.list j;have m:=g.length;obtain⟨o,t,hc,n,hd⟩:=pl.isList;exact call_list_seq p (.inl rfl) t hc hd (λh' f kp e=>fin c g k h' f kp e) (by simp only[n_]<;>lia)
 ·obtain⟨c,g,pl,k⟩:=I.tuple j;have m:=g.length;obtain⟨o,t,hc,n,hd⟩:=pl;exact call_list_seq p (.inr rfl) t hc hd (λh' f kp e=>fin c g k h' f kp e) (by simp only[n_]<;>lia)
def vn:dw X (.type "tuple") (λj H Q=>∃p f,j=[.ref p]/\((aY X.K H p f/\∀l,H l=none->Q (.ref l) (aI H l (.tup f)))\/(aS X.K H p f/\Q (.ref p) H))):=by
 intro c s k H j y Q I r h;obtain⟨p,f,rfl,h⟩:=h;obtain⟨u,rfl,t⟩:=j5 r;cases t;rcases h with⟨g,q⟩|⟨g,q⟩
 ·obtain⟨d,i,pl,m⟩:=I.list g;have n:=i.length;refine call_tuple_list pl.isList (λh' kp=>?_) (by simp only[n_]<;>lia);have I1:aO X c k H {s with heap:=h'}:=I.kept (t':=s.toks) kp;have x:aO X c k (aI H h'.objs.size (.tup f)) {s with heap:=h'.push {cls:=.type "tuple",data:=.seq d.toArray}}:=I1.laid (t':=s.toks) (λb o e=>c_ _ e) (f_ _) (show du X.prog X.w _ _ _ (.tup f)from⟨m,d,i,IsTup.new _ _⟩)
  exact⟨.ref h'.objs.size,_,x,rfl,q _ (I1.hok.fresh (f_ _))⟩
 ·obtain⟨d,i,pl,m⟩:=I.tuple g;exact call_tuple_same pl ⟨.ref p,H,I,rfl,q⟩
def tyV(K:N_)(T:String)(x:V)(H:Hp):Prop:=match x with|.str _=>T="str"|.int _=>T="int"|.ref p=>(T="list"/\∃d,aY K H p d)\/(T="tuple"/\∃o,K.lookup p=some o/\o.cls=.type "tuple"/\o.dict=none)\/(T="dict"/\((∃c,H p=some (.dK c))\/∃c,H p=some (.dT c)))\/(T="set"/\∃S n,H p=some (.set S n))|_=>False
def HQ(I:aO X h l H s)(r:bd x v)(ty:tyV X.K T x H):
 s.TypeIs v T/\∀a,v=.ref a->∃ob,s.heap.get? a=some ob/\ob.dict=none:=by cases x with|str z=>obtain⟨t,rfl⟩:=r;cases(show T="str"from ty);exact⟨typeIs_str s z t,λ_ e=>nomatch e⟩|int i=>obtain⟨t,rfl⟩:=r;cases(show T="int"from ty);exact⟨typeIs_int s i t,λ_ e=>nomatch e⟩|ref p=>
  cases r;rcases ty with⟨rfl,m,j⟩|⟨rfl,o,d,hc,hd⟩|⟨rfl,d⟩|⟨rfl,S,n,d⟩
  ·obtain⟨k,_,pl,_⟩:=I.list j;refine⟨pl.isList.typeIs,λa e=>?_⟩;cases e;obtain⟨o,n,e,c,hd,_⟩:=pl;exact⟨o,e,hd⟩
  ·refine⟨⟨o,I.kIn p o d,hc⟩,λa e=>?_⟩;cases e;exact⟨o,I.kIn _ o d,hd⟩
  ·have z:∃o,s.heap.get? p=some o/\o.ExactDict:=by
    rcases d with⟨f,d⟩|⟨f,d⟩
    ·obtain⟨_,_,_,_,o,_,_,e,ex,_⟩:=I.hok p _ d;exact⟨o,e,ex⟩
    ·obtain⟨_,_,_,_,o,_,_,e,ex,_⟩:=I.hok p _ d;exact⟨o,e,ex⟩
   obtain⟨o,e,ex⟩:=z;refine⟨⟨o,e,ex.1⟩,λa g=>?_⟩;cases g;exact⟨o,e,ex.2.1⟩
  ·obtain⟨o,_,_,_,e,ex,_⟩:=I.hok p _ d;refine⟨⟨o,e,ex.1⟩,λa g=>?_⟩;cases g;exact⟨o,e,ex.2.1⟩|_=>exact False.elim ty
def tBM(K:N_)(T:String)(r:V->List V->Hp->VK->Prop)(C:TE)(t:TA):TE:=λc H Q=>C c H λx d=>tyV K T x d/\t c d λe f=>r x e f Q
variable{o e:Expr}{m:Og}{C:TE}{t:TA}{g:Str}{B d:Pos}{T id:String}{r:V->List V->Hp->VK->Prop}
def KH(w:PlainAttrs T)(slot:Slot T g id)(n:typeOf (.builtin id)=pure (.type "method_descriptor"))(hm:LY X id r)(y:PE X o C)(z:PA X (e::m) t)(i:attributeBase o g X.env (eval o X.env)=eval o X.env:=by rfl)(l:((backTo d (starEach (e::m) X.env)).all (λx=>!x.1)&&(backToKw d (keywordEach [] X.env)).all (λx=>x.1.isSome)&&decide ((e::m).length+([]:List Keyword).length+(if([]:List Keyword).isEmpty then 0 else 1)<30))=true:=by rfl)(j:(B.endLine==d.line)=true:=by rfl)(A:starEach (e::m) X.env=(false,eval e X.env)::starEach m X.env:=by rfl)(f:(backTo d (starEach m X.env)).any (·.1)=false:=by rfl):PE X (.Call (.Attribute o g B) (e::m) [] d) (tBM X.K T r C t):=by intro c s k H Q I h;refine wpAny_Call_method_late i l j rfl (cE (y c s k H _ I h) λv G p=>?_);obtain⟨x,J,I1,q,ty,L⟩:=p;obtain⟨h1,h2⟩:=HQ I1 q ty;refine⟨T,id,w,slot,n,h1,h2,?_⟩;have u:=z d c G k J _ I1 L;rw[A]at u⊢;refine u_ (by show(false||(backTo d (starEach m X.env)).any (·.1))=false;rw[f]<;>rfl) (C2 ?_);refine cE u λM N p=>?_;obtain⟨O,P,R,r2,S⟩:=p;exact hm c N k P x O v M Q R q r2 S
end
end L2
namespace L2
open PySem PySem.Spec PyProof.Rows
def MtM(X:Cx)(id:String)(r:V->List V->Hp->VK->Prop):Prop:=∀(a:Ob)(s:Shared)(b:St)(H:Hp)(x:V)(c:List V)(v:Value)(d:Od)(Q:VK),aO X a b H s->bd x v->bf c d->r x c H Q->wpAny (model X.prog X.w) X.A (call (.builtin id) (v::d)) (EP X a b Q) X.xe s
def bf.one:∀{x:V}{a:Od},bf [x] a->∃u,a=[u]/\bd x u|_,_,.cons r .nil=>⟨_,rfl,r⟩
theorem bf.reverse(h:bf a c):bf a.reverse c.reverse:=by induction h with|nil=>exact .nil|cons r t b=>rw[List.reverse_cons,List.reverse_cons];exact bf.append b (.cons r .nil)
theorem bf.rep(h:bf a c):∀k:Nat,bf (List.replicate k a).flatten (List.replicate k c).flatten|0=>.nil|k+1=>by rw[vl,vl,Mi,Mi];exact bf.append h (bf.rep h k)
theorem wk(a:Od):∀(k:Nat)(c:Od),List.foldl (λd f=>d++f) c.toArray (List.replicate k a.toArray)=(c++(List.replicate k a).flatten).toArray
 |0,c=>by simp|k+1,c=>by
  have e:c.toArray++a.toArray=(c++a).toArray:=by simp
  have b:(c++a)++(List.replicate k a).flatten=c++(List.replicate (k+1) a).flatten:=by rw[vl,Mi,M8]
  rw[<-b,<-wk a k (c++a),<-e,vl,E1]
section
variable{X:Cx}{a:Ob}{d:St}{H:Hp}{s:Shared}{l b:Addr}{g c i:List V}
def aO.lset{h its':Od}{n:Nat}{f:Array Value->Array Value}{j:Nat}(I:aO X a d H s)(m:H l=some (.lst g))(e:s.heap.get? l=some {cls:=.type "list",data:=.seq h.toArray n})(o:f h.toArray=its'.toArray)(p:bf c its')(r:c.length<=sizeLine):aO X a d (aI H l (.lst c)) {s with heap:=s.heap.update l (Obj.mapSeq f),toks:=j}:=by have q:=PySem.IsL.update e f;rw[o]at q;refine I.write (x:=l) (e:=l) (by rw[m];exact trivial) (.inl rfl) (λv u k t=>(y2 s.heap (Obj.mapSeq f) (rb k)).trans t) ⟨_,q⟩ ?_;exact⟨r,its',_,p,q⟩
def aO.lnew(I:aO X a d H s)(f:bf c e)(h:c.length<=sizeLine):aO X a d (aI H s.heap.objs.size (.lst c)) {s with heap:=s.heap.push {cls:=.type "list",data:=.seq e.toArray},toks:=t'}:=I.laid (λ_ _ q=>c_ _ q) (f_ _) ⟨h,e,0,f,j_ _ rfl⟩
theorem aO.fresh(I:aO X a d H s):H s.heap.objs.size=none:=I.hok.fresh (f_ _)
def aO.lstM(I:aO X a d H s)(h:H l=some (.lst g)):g.length<=sizeLine/\∃(f:Od)(n:Nat),bf g f/\g.length=f.length/\s.heap.get? l=some {cls:=.type "list",data:=.seq f.toArray n}:=by obtain⟨z,f,n,r,e⟩:=I.hok l _ h;exact⟨z,f,n,r,r.length,e⟩
def yI{n:Nat}(h:n<=sizeLine):Builtin.List.listTooLong n=false:=by unfold Builtin.List.listTooLong;exact op (by lia)
end
section
variable{X:Cx}
def Gf:V->List V->Hp->VK->Prop:=λx b H Q=>∃l a y,x=.ref l/\b=[y]/\H l=some (.lst a)/\a.length<sizeLine/\Q .non (aI H l (.lst (a++[y])))
def fw:MtM X "list.append" Gf:=by intro b s i H x j v k Q I f g h;obtain⟨l,m,y,rfl,rfl,c,o,q⟩:=h;cases f;obtain⟨u,rfl,ru⟩:=g.one;obtain⟨z,a,n,r,p,e⟩:=I.lstM c;refine call_meets F.slot_list_append ⟨_,e,rfl⟩ F.entry_list_append (F.args_list_append_2 _ _) (PySem.list_append l a.toArray n u (by rw[n_];lia)) ⟨e,?_⟩;refine⟨.non,_,I.lset (its':=a++[u]) c e (by simp) (r.append (.cons ru .nil)) ?_,rfl,q⟩;rw[k_,List.length_singleton];lia
def Ge:V->List V->Hp->VK->Prop:=λx d H Q=>∃l b a c,x=.ref l/\d=[.ref b]/\H l=some (.lst a)/\H b=some (.lst c)/\a.length+c.length<=sizeLine/\Q .non (aI H l (.lst (a++c)))
def vX:MtM X "list.extend" Ge:=by
 intro g s w H x y v A Q I k m h;obtain⟨l,b,B,C,rfl,rfl,i,o,D,q⟩:=h;cases k;obtain⟨u,rfl,ru⟩:=m.one;cases ru;obtain⟨z,c,n,r,E,e⟩:=I.lstM i;obtain⟨G,a,n2,r2,p,t⟩:=I.lstM o;have f:c.toArray.size+a.toArray.size<=sizeLine:=by rw[n_,n_];lia
 have d:¬(!c.toArray.isEmpty&&Builtin.List.listTooLong (c.toArray.size+a.toArray.size))=true:=by rw[yI f,Bool.and_false];exact oa
 refine call_meets F.slot_list_extend ⟨_,e,rfl⟩ F.entry_list_extend (F.args_list_extend_2 _ _) (AutoSeq1.list_extend_list_list_0 l c.toArray n b a.toArray n2 d (by rw[n_];lia) (by lia)) ⟨e,t,?_⟩
 refine⟨.non,_,I.lset (its':=c++a) i e (by simp) (r.append r2) ?_,rfl,q⟩;rw[k_];lia
def KF:R2:=λx y H Q=>∃l b a c,x=.ref l/\y=.ref b/\H l=some (.lst a)/\H b=some (.lst c)/\a.length+c.length<=sizeLine/\∀p,H p=none->Q (.ref p) (aI H p (.lst (a++c)))
def oF:lz X (binaryOp .Add) KF:=by
 intro d s p H x y v u Q I f g h;obtain⟨l,b,t,w,rfl,rfl,i,j,A,q⟩:=h;cases f;cases g;obtain⟨z,c,n,r,B,e⟩:=I.lstM i;obtain⟨C,a,n2,r2,k,m⟩:=I.lstM j;refine PySem.P.add_list e m ?_ (by rw[n_,n_];lia);have o:c.toArray++a.toArray=(c++a).toArray:=by simp
 rw[o];exact⟨.ref _,_,I.lnew (t':=s.toks) (r.append r2) (by rw[k_];lia),rfl,q _ I.fresh⟩
def LI:R2:=λx y H Q=>∃l k a,x=.ref l/\y=.int k/\H l=some (.lst a)/\-(2^63)<=k/\k<2^63/\a.length*k.toNat<=sizeLine/\∀p,H p=none->Q (.ref p) (aI H p (.lst (List.replicate k.toNat a).flatten))
def GL(a:List c)(k:Nat):(List.replicate k a).flatten.length=k*a.length:=by induction k with|zero=>simp|succ k b=>rw[vl,Mi,k_,b,Nat.succ_mul,Nat.add_comm]
def DU:lz X (binaryOp .Mult) LI:=by
 intro p s J H x y v u Q I A B h;obtain⟨l,k,K,rfl,rfl,C,h1,h2,w,q⟩:=h;cases A;obtain⟨t,rfl⟩:=B;obtain⟨z,b,n,r,D,e⟩:=I.lstM C;have d:b.toArray.size*k.toNat<=sizeLine:=by rw[n_,<-D];exact w
 have f:¬b.toArray.size*k.toNat>(2^63-1)/8:=by
  have:(sizeLine:Nat)<=(2^63-1)/8:=by decide
  lia
 have g:¬(!Builtin.List.listFitsIndex k)=true:=by rw[fitsIndex_both h1 h2];exact oa
 have c:¬Builtin.List.listTooLong (b.toArray.size*k.toNat)=true:=by rw[yI d];exact oa
 have i:List.foldl (λj o=>j++o) #[] (List.replicate (if b.toArray.isEmpty=true then 0 else k.toNat) b.toArray)=(List.replicate k.toNat b).flatten.toArray:=by
  have E:∀m:Nat,List.foldl (λj o=>j++o) #[] (List.replicate m b.toArray)=(List.replicate m b).flatten.toArray:=λm=>by have:=wk b m [];rw[List.nil_append]at this;exact this
  rw[E];cases b with|nil=>simp|cons a L=>rw[l_ (by simp)]
 refine wpAny_binaryOp_repeat_ref (T:="list") (U:="int") (by decide) ⟨_,e,rfl⟩ (λG=>typeIs_int G k t) noFill_list_mul F.fills_int_mul F.slot_int_rmul repeat_list F.slot_int_index.lookup (call_meets F.slot_int_rmul (typeIs_int s k t) F.entry_int_rmul (F.args_int_rmul_2 _ _) (int___rmul___int_list k t l b.toArray n) ⟨e,rfl,⟨_,e,rfl⟩,call_meets F.slot_list_mul ⟨_,e,rfl⟩ F.entry_list_mul (F.args_list_mul_2 _ _) (AutoListH.list___mul___list_int_3 l b.toArray n k t g f c) ⟨e,?_⟩⟩)
 rw[i];exact⟨.ref _,_,I.lnew (t':=s.toks) (r.rep k.toNat) (by rw[GL,Nat.mul_comm];exact w),rfl,q _ I.fresh⟩
end
section
variable{prog:Oe}{w:World}{A:Around}{E:Oa}{s:Shared}
end
section
variable{X:Cx}
end
end L2
namespace L2
open PySem PySem.Spec PyProof.Rows
section
variable{c:Type}[DecidableEq c]
def bn(a:List (c×V))(k:c):Option V:=(a.find? λb=>decide (b.1=k)).map (·.2)
def eY(a:List (c×V))(k:c)(v:V):List (c×V):=if(a.any λb=>decide (b.1=k))=true then a.map (λb=>if b.1=k then(b.1,v)else b)else a++[(k,v)]
def dO(a:List (c×V))(k:c):List (c×V):=a.filter λb=>decide (b.1≠k)
def cz{p:c×V}{r:List (c×V)}{k:c}(e:p.1=k):bn (p::r) k=some p.2:=by simp[bn,t4,e]
def bM{p:c×V}{r:List (c×V)}{k:c}(e:¬p.1=k):bn (p::r) k=bn r k:=by simp[bn,t4,e]
theorem lR(k:c):∀a:List (c×V),(a.any λd=>decide (d.1=k))=(bn a k).isSome
 |[]=>rfl|p::r=>by
  rw[J_]
  by_cases e:p.1=k
  ·simp only[cz e,ol e,Bool.true_or,Option.isSome_some]
  ·rw[bM e,op e,Bool.false_or];exact lR k r
theorem xV(k j:c)(y:V):∀a:List (c×V),bn (a.map λd=>if d.1=k then(d.1,y)else d) j=(bn a j).map λx=>if j=k then y else x
 |[]=>rfl|p::r=>by
  have b:=xV k j y r;rw[pu]
  by_cases h:p.1=k
  ·rw[mo h]
   by_cases e:p.1=j
   ·rw[cz (p:=(p.1,y)) e,cz e,Mz,mo (e.symm.trans h)]
   ·rw[bM (p:=(p.1,y)) e,bM e,b]
  ·rw[l_ h]
   by_cases e:p.1=j
   ·rw[cz (p:=p) e,cz e,Mz,l_ (λz=>h (e.trans z))]
   ·rw[bM (p:=p) e,bM e,b]
theorem vD(k j:c)(y:V):∀a:List (c×V),bn a k=none->bn (a++[(k,y)]) j=if j=k then some y else bn a j
 |[],_=>by
  by_cases e:k=j
  ·rw[mo e.symm];exact cz (p:=(k,y)) e
  ·rw[l_ (λz=>e z.symm)];exact bM (p:=(k,y)) e|p::r,hn=>by
  rw[List.cons_append];have b:¬p.1=k:=λz=>by rw[cz z]at hn;cases hn
  rw[bM b]at hn;have d:=vD k j y r hn
  by_cases e:p.1=j
  ·rw[cz e,cz e,l_ (λz=>b (e.trans z))]
  ·rw[bM e,bM e,d]
def xU(d:List (c×V))(k j:c)(y:V):bn (eY d k y) j=if j=k then some y else bn d j:=by
 unfold eY
 by_cases a:(d.any λb=>decide (b.1=k))=true
 ·rw[mo a,xV];rw[lR]at a
  by_cases e:j=k
  ·obtain⟨x,f⟩:=z8.mp a;rw[mo e,e,f,Mz,mo rfl]
  ·rw[l_ e];cases bn d j with|none=>rfl|some x=>rw[Mz,l_ e]
 ·rw[l_ a];refine vD k j y d ?_;rw[lR]at a;cases q:bn d k with|none=>rfl|some x=>rw[q]at a;exact(a rfl).elim
def jJ(a:List (c×V))(k:c)(v:V):(eY a k v).length<=a.length+1:=by
 unfold eY
 split
 ·rw[b_];lia
 ·rw[k_,pw,Nz];lia
def pF{a:List (c×V)}{k:c}(v:V)(h:bn a k=none):eY a k v=a++[(k,v)]:=by unfold eY;rw[lR,h];exact l_ (by decide)
def jZ.isSome_eq(r:jZ o u):o.isSome=u.isSome:=by cases o with
 |none=>cases u with|none=>rfl|some _=>exact(show False from r).elim
 |some _=>cases u with|none=>exact(show False from r).elim|some _=>rfl
theorem jZ.getD(r:jZ o u)(a:bd d e):bd (o.getD d) (u.getD e):=by cases o with
 |none=>cases u with|none=>exact a|some _=>exact(show False from r).elim
 |some _=>cases u with|none=>exact(show False from r).elim|some _=>exact r
def KV.val{a:List (c×V)}{g:List (c×Value)}(r:KV a g)(k:c):jZ (bn a k) (valueAt g k):=by
 unfold KV at r
 induction r with|nil=>exact True.intro|@cons p q j d h t i=>
  obtain⟨h1,h2⟩:=h
  by_cases e:p.1=k
  ·have f:q.1=k:=h1.symm.trans e;have b:valueAt (q::d) k=some q.2:=by simp[valueAt,t4,f]
   rw[cz e,b];exact h2
  ·have f:¬q.1=k:=λz=>e (h1.trans z);have b:valueAt (q::d) k=valueAt d k:=by simp[valueAt,t4,f]
   rw[bM e,b];exact i
theorem KV.any(r:KV a e)(k:c):(a.any λd=>decide (d.1=k))=e.any λd=>decide (d.1=k):=by
 unfold KV at r
 induction r with|nil=>rfl|cons h t b=>rw[J_,J_,b,h.1]
def KV.repl(r:KV d f)(k:c)(g:bd y u):KV (d.map λa=>if a.1=k then(a.1,y)else a) (f.map λa=>if a.1=k then(a.1,u)else a):=by
 unfold KV at r⊢
 induction r with|nil=>exact .nil|@cons p q i j h t b=>
  rw[pu,pu];refine .cons ?_ b;obtain⟨h1,h2⟩:=h
  by_cases e:p.1=k
  ·rw[mo e,mo (h1.symm.trans e)];exact⟨h1,g⟩
  ·rw[l_ e,l_ (λz=>e (h1.trans z))];exact⟨h1,h2⟩
def KV.put(r:KV a d)(k:c)(f:bd y u):KV (eY a k y) (stored d k u):=by
 unfold eY stored;rw[r.any k]
 by_cases e:(d.any λb=>decide (b.1=k))=true
 ·rw[mo e,mo e];exact r.repl k f
 ·rw[l_ e,l_ e];exact Paired.snoc r ⟨rfl,f⟩
def KV.drop(r:KV d g)(k:c):KV (dO d k) (without g k):=by
 unfold KV at r⊢;unfold dO without
 induction r with|nil=>exact .nil|@cons p q j l h t f=>
  obtain⟨h1,h2⟩:=h;rw[Nk,Nk]
  by_cases e:p.1=k
  ·have a:¬decide (p.1≠k)=true:=by simp[e]
   have b:¬decide (q.1≠k)=true:=by simp[h1.symm.trans e]
   rw[l_ a,l_ b];exact f
  ·have i:¬q.1=k:=λz=>e (h1.trans z);have a:decide (p.1≠k)=true:=by simp[e]
   have b:decide (q.1≠k)=true:=by simp[i]
   rw[mo a,mo b];exact .cons ⟨h1,h2⟩ f
theorem KV.length(r:KV a d):a.length=d.length:=Paired.length r
def y8(a:List (c×V))(k:c):(dO a k).length<=a.length:=z4 _ _
end
def pV(r:bd (kV k) u):(aX P w).is k u=true:=by cases k with|inl i=>obtain⟨t,e⟩:=(show∃t,u=Value.int i t from r);subst e;exact yP P w i t|inr x=>obtain⟨t,e⟩:=(show∃t,u=Value.str x t from r);subst e;exact rp P w x t
theorem qH:∀{a:List bQ}{c:Od},bf (a.map kV) c->ItemsAre (aX P w) a c|[],_,r=>by rw[List.map_nil]at r;cases r;exact .nil|k::a,_,r=>by rw[pu]at r;cases r with|cons h t=>exact .cons (pV h) (qH t)
abbrev KT(H:Hp):List (List bQ×V)->List (List bQ×Addr×Value)->Prop:=Paired λp q=>p.1=q.1/\H q.2.1=some (.tup (p.1.map kV))/\bd p.2 q.2.2
def KT.val{H:Hp}{a:List (List bQ×V)}{f:List (List bQ×Addr×Value)}(r:KT H a f)(k:List bQ):jZ (bn a k) ((atKey f k).map (·.2)):=by induction r with|nil=>exact True.intro|@cons p q i c h t g=>
  obtain⟨h1,_,h2⟩:=h
  by_cases e:p.1=k
  ·have d:q.1=k:=h1.symm.trans e;have b:atKey (q::c) k=some q.2:=by simp[atKey,t4,d]
   rw[cz e,b];exact h2
  ·have d:¬q.1=k:=λz=>e (h1.trans z);have b:atKey (q::c) k=atKey c k:=by simp[atKey,t4,d]
   rw[bM e,b];exact g
def KT.repl(r:KT H a d)(k:List bQ)(f:bd y u):KT H (a.map λc=>if c.1=k then(c.1,y)else c) (d.map (putAt k u)):=by induction r with|nil=>exact .nil|@cons p q g i h t b=>
  rw[pu,pu];refine .cons ?_ b;obtain⟨h1,h2,h3⟩:=h;unfold putAt
  by_cases e:p.1=k
  ·rw[mo e,mo (h1.symm.trans e)];exact⟨h1,h2,f⟩
  ·rw[l_ e,l_ (λz=>e (h1.trans z))];exact⟨h1,h2,h3⟩
def KT.put(r:KT H a c)(k:List bQ)(f:H b=some (.tup (k.map kV)))(d:bd y u):KT H (eY a k y) (storedH c k b u):=by
 have e:(a.any λg=>decide (g.1=k))=(atKey c k).isSome:=by rw[lR,(r.val k).isSome_eq,NO]
 unfold eY storedH;rw[e]
 by_cases q:(atKey c k).isSome=true
 ·rw[mo q,mo q];exact r.repl k d
 ·rw[l_ q,l_ q];exact Paired.snoc r ⟨rfl,f,d⟩
def KT.keeps(r:KT H a d)(e:∀b c,H b=some (.tup c)->f b=some (.tup c)):KT f a d:=Paired.mapP r λ_ _ z=>⟨z.1,e _ _ z.2.1,z.2.2⟩
section
variable{P:Oe}{w:World}{H:Hp}{h:Heap}{a:Addr}
def Hs(ok:lQ P w H h)(e:Rd H a u):du P w H h a u:=e.ok ok
def rK(ok:lQ P w H h)(e:Rd H a (.dK c)):c.length<=sizeLine/\(a==sysModules)=false/\∃d,KV c d/\h.DictOf (aX P w) a d:=show du P w H h a (.dK c)from Hs ok e
def HE(ok:lQ P w H h)(e:H a=some (.dK c)):c.length<=sizeLine/\(a==sysModules)=false/\∃d,KV c d/\h.DictOf (aX P w) a d:=rK ok (.inl e)
def oJ(ok:lQ P w H h)(e:H a=some (.tup (c.map kV))):(tupleKind (aX P w)).is h c a:=by obtain⟨_,b,r,o,h1,h2,n,h3⟩:=(show du P w H h a (.tup (c.map kV))from ok a _ e);exact⟨o,b.toArray,n,h1,h2,h3,by simpa using qH r⟩
def rJ(ok:lQ P w H h)(e:Rd H a (.dT c)):c.length<=sizeLine/\(a==sysModules)=false/\∃d,KT H c d/\h.DictOfH (tupleKind (aX P w)) a d:=by
 obtain⟨z,y,d,r,o,g,i,h1,h2,h3,h4,h5⟩:=(show du P w H h a (.dT c)from Hs ok e);refine⟨z,y,d,r,o,g,i,h1,h2,h3,h4,λx b=>?_,h5⟩;have all:∀{l:List (List bQ×V)}{m:List (List bQ×Addr×Value)},KT H l m->∀x∈m,(tupleKind (aX P w)).is h x.1 x.2.1:=by
  intro l m q
  induction q with|nil=>intro x b;exact nomatch b|@cons p q k n f t j=>
   intro x b;rcases tA.mp b with e|b
   ·subst e;exact oJ ok (by rw[<-f.1];exact f.2.1)
   ·exact j x b
 exact all r x b
def Lb(ok:lQ P w H h)(e:H a=some (.dT c)):c.length<=sizeLine/\(a==sysModules)=false/\∃d,KT H c d/\h.DictOfH (tupleKind (aX P w)) a d:=rJ ok (.inl e)
end
def dH(H:Hp)(a:Addr)(y:V)(r:Option V):Prop:=(∃c k,Rd H a (.dK c)/\y=kV k/\r=bn c k)\/∃c k b,Rd H a (.dT c)/\y=.ref b/\H b=some (.tup (k.map kV))/\r=bn c k
def Hj(H:Hp)(a:Addr)(y v:V)(d:Hp):Prop:=(∃c k,H a=some (.dK c)/\y=kV k/\c.length<sizeLine/\d=aI H a (.dK (eY c k v)))\/∃c k b,H a=some (.dT c)/\y=.ref b/\H b=some (.tup (k.map kV))/\c.length<sizeLine/\d=aI H a (.dT (eY c k v))
theorem dH.k{H:Hp}{a:Addr}{c:List (bQ×V)}{k:bQ}(e:H a=some (.dK c)):dH H a (kV k) (bn c k):=.inl ⟨c,k,.inl e,rfl,rfl⟩
theorem Hj.k{H:Hp}{a:Addr}{c:List (bQ×V)}{k:bQ}{v:V}(e:H a=some (.dK c))(d:c.length<sizeLine):Hj H a (kV k) v (aI H a (.dK (eY c k v))):=.inl ⟨c,k,e,rfl,d,rfl⟩
section
variable{X:Cx}{d:Ob}{f:St}{H:Hp}{s:Shared}{a:Addr}{y v:V}{u r:Value}{o:Option V}{A:Around}{E:Oa}
def aO.big(I:aO X d f H s):sysModules<s.heap.objs.size:=by have h:mainGlobals<s.heap.objs.size:=(I.mod.glob.keeps I.bk).lt;exact H_ (by decide) h
def Cz(C:A.units+1<cLine)(I:aO X d f H s)(g:dH H a y (some v))(x:bd y u)(h:∀j B,aO X d f H B->bd v j->Q j B):wpAny (model X.prog X.w) A (getItem (.ref a) u) Q E s:=by
 rcases g with⟨m,k,e,n,l⟩|⟨m,k,b,e,n,D,l⟩
 ·subst n;obtain⟨z,hd,F,c,dd⟩:=rK I.hok e;obtain⟨j,q,i⟩:=jZ.some_of (v:=v) (o:=valueAt F k) (by rw[l];exact c.val k);exact wpAny_getItem_of (pV x) dd.mapOf q (h j _ (I.tok _) i)
 ·subst n;cases(show u=Value.ref b from x);obtain⟨z,hd,G,c,dd⟩:=rJ I.hok e;obtain⟨j,q,i⟩:=jZ.some_of (v:=v) (o:=(atKey G k).map (·.2)) (by rw[l];exact c.val k);obtain⟨p,J,t⟩:=Option.map_eq_some_iff.mp q;refine wpAny_getItem_heap (L_ C) (oJ I.hok D) dd J ?_;rw[t];exact h j _ (I.tok _) i
def LR(p:A.units+1<cLine)(I:aO X d f H s)(g:dH H a y o)(m:bd y u)(h:∀n,aO X d f H n->Q (.bool o.isSome) n):wpAny (model X.prog X.w) A (compareOp .In u (.ref a)) Q E s:=by
 rcases g with⟨i,k,e,j,l⟩|⟨i,k,b,e,j,t,l⟩
 ·subst j;obtain⟨z,hd,x,c,dd⟩:=rK I.hok e;refine wpAny_in_of (pV m) hd dd.mapOf ?_;rw[<-(c.val k).isSome_eq,<-l];exact h _ (I.tok _)
 ·subst j;cases(show u=Value.ref b from m);obtain⟨z,hd,B,c,dd⟩:=rJ I.hok e;refine wpAny_in_heap (L_ p) (oJ I.hok t) hd dd ?_;have q:=(c.val k).isSome_eq;rw[NO]at q;rw[<-q,<-l];exact h _ (I.tok _)
def G0(p:A.units+1<cLine)(I:aO X d f H s)(g:dH H a y o)(m:bd y u)(h:∀n,aO X d f H n->Q (.bool (!o.isSome)) n):wpAny (model X.prog X.w) A (compareOp .NotIn u (.ref a)) Q E s:=by
 rcases g with⟨i,k,e,j,l⟩|⟨i,k,b,e,j,t,l⟩
 ·subst j;obtain⟨z,hd,x,c,dd⟩:=rK I.hok e;refine wpAny_notIn_of (pV m) hd dd.mapOf ?_;rw[<-(c.val k).isSome_eq,<-l];exact h _ (I.tok _)
 ·subst j;cases(show u=Value.ref b from m);obtain⟨z,hd,B,c,dd⟩:=rJ I.hok e;refine wpAny_notIn_heap (L_ p) (oJ I.hok t) hd dd ?_;have q:=(c.val k).isSome_eq;rw[NO]at q;rw[<-q,<-l];exact h _ (I.tok _)
def sP(I:aO X d f H s)(c:Lh (H a))(g:Heap.SameBut a s.heap h')(h:∃q,h'.get? a=some q)(new:du X.prog X.w (aI H a ob) h' a ob):aO X d f (aI H a ob) {s with heap:=h',toks:=j}:=I.write (x:=a) (e:=a) c (.inl rfl) (λb q i z=>(g.2 b i).trans z) h new
def E3(z:c.length<=sizeLine)(hd:(a==sysModules)=false)(e:KV c g)(dd:h'.DictOf (aX P w) a g):du P w h h' a (.dK c):=⟨z,hd,g,e,dd⟩
def Cy(M:A.units+1<cLine)(I:aO X d f H s)(g:Hj H a y v N)(F:bd y u)(G:bd v r)(h:∀J,aO X d f N J->Q () J):wpAny (model X.prog X.w) A (setItem (.ref a) u r) Q E s:=by
 rcases g with⟨i,k,e,p,l,t⟩|⟨i,k,b,e,p,K,l,t⟩
 ·subst p t;obtain⟨z,hd,O,j,dd⟩:=HE I.hok e;have x:O.length<=sizeLine:=by rw[<-j.length];exact z
  have B:(eY i k v).length<=sizeLine:=by have:=jJ i k v;lia
  refine wpAny_setItem_pairs (hsz:=x) (pV F) dd λh' m D=>h _ ?_;have P:∃q,h'.get? a=some q:=let⟨q,_,_,n,_⟩:=m;⟨q,n⟩;exact sP I (by rw[e];exact True.intro) D P (E3 B hd (j.put k G) m)
 ·subst p t;cases(show u=Value.ref b from F);obtain⟨z,hd,R,j,dd⟩:=Lb I.hok e;have x:R.length<=sizeLine:=by rw[<-Paired.length j];exact z
  have B:(eY i k v).length<=sizeLine:=by have:=jJ i k v;lia
  refine wpAny_setItem_heap (hsz:=x) (L_ M) (oJ I.hok K) dd λh' m D=>h _ ?_;obtain⟨q,S,T,n,h2,h3,h4,_,h5⟩:=m;refine sP I (by rw[e];exact True.intro) D ⟨q,n⟩ ⟨B,hd,_,(j.put k K G).keeps λc U L=>?_,q,S,T,n,h2,h3,h4,h5⟩;rw[au (KJ L e (nofun))];exact L
end
section
variable{X:Cx}{d:Ob}{f:St}{H:Hp}{s:Shared}{a:Addr}{c:List (bQ×V)}{k:bQ}{u:Value}{A:Around}{E:Oa}
def Lc(I:aO X d f H s)(e:H a=some (.dK c))(n:bd (kV k) u)(l:bn c k=some v)(hm:g=[]\/∃x,g=[x])(h:∀j r,aO X d f (aI H a (.dK (dO c k))) r->bd v j->Q j r):wpAny (model X.prog X.w) A (call (.builtin "dict.pop") (.ref a::u::g)) Q E s:=by
 obtain⟨z,hd,y,b,dd⟩:=HE I.hok e;obtain⟨j,B,p⟩:=jZ.some_of (v:=v) (o:=valueAt y k) (by rw[<-l];exact b.val k);have C:(keyPart u).isSome=true:=by cases k with|inl i=>obtain⟨t,q⟩:=(show∃t,u=Value.int i t from n);subst q;rfl|inr x=>obtain⟨t,q⟩:=(show∃t,u=Value.str x t from n);subst q;rfl
 have D:argsOk "dict.pop" ⟨.ref a::u::g,[]⟩:=by
  rcases hm with q|⟨x,q⟩
  ·subst q;exact PySem.F.args_dict_pop_2 _ _
  ·subst q;exact PySem.F.args_dict_pop_3 _ _ _
 refine Mb PySem.F.slot_dict_pop dd.typeIs PySem.F.entry_dict_pop D (meets_dict_pop_there (aX X.prog X.w) a (pV n) g hm C) ⟨y,j,dd,by rw[<-b.length];exact z,B,λh' m G=>h j _ ?_ p⟩
 have J:∃q,h'.get? a=some q:=let⟨q,_,_,K,_⟩:=m;⟨q,K⟩;exact sP I (by rw[e];exact True.intro) G J (E3 (n7 (y8 c k) z) hd (b.drop k) m)
end
def JR(i:Expr):Prop:=∀a iv,subscripted i false a iv=operate [a,iv] (getItem a iv)
def AO{prog:Oe}{w:World}{A:Around}{E:Oa}{s:Shared}{env:Env}{c a:Expr}{j:Pos}{T id:String}{Q:Oa}(l:typeLookup (.type T) "__getitem__"=pure (some (.builtin id)))(m:JR a)(h:wpAny (model prog w) A (eval c env) (λo s₁=>wpAny (model prog w) A (eval a env) (λi d=>d.TypeIs o T/\wpAny (model prog w) A (getItem o i) Q E d) E s₁) E s):wpAny (model prog w) A (eval (.Subscript c a j) env) Q E s:=by
 refine Subscript_ (wpAny_mono h (λo s₁ f=>wpAny_mono f (λi d b=>?_) λ_ _ x=>x) λ_ _ x=>x);obtain⟨k,b⟩:=b;unfold subscriptTail;refine a_ ?_;rw[getitemInPython_of_ne k.not_modules];refine a_ (Nr k l ?_);have fin:wpAny (model prog w) A (subscripted a false o i) (λr e=>wpAny (model prog w) A (letTemporaryGo c o r>>=λ_=>pure r) Q E e) E d:=by rw[m o i];exact wpAny_operating (wpAny_mono b (λr e g=>a_ (wpAny_letTemporaryGo (e_ g))) λ_ _ x=>x)
 first|exact e_ (a_ fin)|exact a_ (e_ (a_ fin))|exact a_ fin
def y9(I:aO X d f H s)(g:dH H a y o):s.TypeIs (.ref a) "dict":=by
 rcases g with⟨c,k,e,_,_⟩|⟨c,k,b,e,_,_,_⟩
 ·obtain⟨_,_,h,_,dd⟩:=rK I.hok e;exact dd.typeIs
 ·obtain⟨_,_,i,_,dd⟩:=rJ I.hok e;exact dd.typeIs
def Kl(d ty:TE):TE:=λb H Q=>d b H λx e=>ty b e λy c=>∃a v,x=.ref a/\dH c a y (some v)/\Q v c
def LC(ty d:TE):TE:=λb H Q=>ty b H λy e=>d b e λx c=>∃a o,x=.ref a/\dH c a y o/\Q (.bl o.isSome) c
def FH(ty d:TE):TE:=λb H Q=>ty b H λy e=>d b e λx c=>∃a o,x=.ref a/\dH c a y o/\Q (.bl (!o.isSome)) c
section
variable{X:Cx}{o i e d:Expr}{f j l:Pos}{c ty m:TE}
def d7(r:X.A.units+1<cLine)(t:PE X o c)(hi:PE X i ty)(w:JR i):PE X (.Subscript o i f) (Kl c ty):=by intro b s p H Q I h;refine AO PySem.F.slot_dict_getitem.lookup w (cE (t b s p H _ I h) λu z k=>?_);obtain⟨x,B,I1,C,D⟩:=k;refine cE (hi b z p B _ I1 D) λiv L k=>?_;obtain⟨y,E,q,G,a,v,ex,g,J⟩:=k;subst ex;obtain rfl:u=Value.ref a:=C;exact⟨y9 q g,Cz r q g G λM N K n=>⟨v,E,K,n,J⟩⟩
def zR(p:X.A.units+1<cLine)(hi:PE X i ty)(q:PE X o c):PC X .In i o (LC ty c):=by intro b s n H Q I h;refine cE (hi b s n H _ I h) λiv r k=>?_;obtain⟨y,t,I1,v,w⟩:=k;refine cE (q b r n t _ I1 w) λu G k=>?_;obtain⟨x,z,B,C,a,D,ex,g,E⟩:=k;subst ex;obtain rfl:u=Value.ref a:=C;exact LR p B g v λJ F=>⟨.bl D.isSome,z,F,rfl,E⟩
def kC(p:X.A.units+1<cLine)(hi:PE X i ty)(q:PE X o c):PC X .NotIn i o (FH ty c):=by intro b s n H Q I h;refine cE (hi b s n H _ I h) λiv r k=>?_;obtain⟨y,t,I1,v,w⟩:=k;refine cE (q b r n t _ I1 w) λu G k=>?_;obtain⟨x,z,B,C,a,D,ex,g,E⟩:=k;subst ex;obtain rfl:u=Value.ref a:=C;exact G0 p B g v λJ F=>⟨.bl (!D.isSome),z,F,rfl,E⟩
end
def E4(h:Heap)(a:sysModules<h.objs.size):du P w H (h.push {cls:=.type "dict",data:=.dict #[]}) h.objs.size (.dK []):=⟨o_ _,K_.mpr (rb (ot a)),[],.nil,Heap.DictOf.new h⟩
def Ie:TE:=λ_ H Q=>∀p,H p=none->Q (.ref p) (aI H p (.dK []))
section
variable{X:Cx}{c:Pos}
def jb:PE X (.Dict [] [] c) Ie:=λb s d H Q I h=>wpAny_Dict_empty ⟨.ref s.heap.objs.size,_,I.laid (a:=s.heap.objs.size) (o:=.dK []) (t':=s.toks) (λ_ _ q=>c_ _ q) (f_ _) (E4 s.heap I.big),rfl,h _ (I.hok.fresh (f_ _))⟩
end
structure M1(X:Cx)(o:Expr)(m:Str)(apos:Pos)(e:Expr)(cpos:Pos):Prop where
 base:attributeBase o m X.env (eval o X.env)=eval o X.env
 few:((backTo cpos (starEach [e] X.env)).all (λx=>!x.1)&&(backToKw cpos (keywordEach [] X.env)).all (λx=>x.1.isSome)&&decide (([e]:Og).length+([]:List Keyword).length+(if([]:List Keyword).isEmpty then 0 else 1)<30))=true
 line:(apos.endLine==cpos.line)=true
 trees:backTo cpos (starEach [e] X.env)=[(false,eval e X.env)]
structure M2(X:Cx)(o:Expr)(m:Str)(apos:Pos)(e f:Expr)(cpos:Pos):Prop where
 base:attributeBase o m X.env (eval o X.env)=eval o X.env
 few:((backTo cpos (starEach [e,f] X.env)).all (λx=>!x.1)&&(backToKw cpos (keywordEach [] X.env)).all (λx=>x.1.isSome)&&decide (([e,f]:Og).length+([]:List Keyword).length+(if([]:List Keyword).isEmpty then 0 else 1)<30))=true
 line:(apos.endLine==cpos.line)=true
 trees:backTo cpos (starEach [e,f] X.env)=[(false,eval e X.env),(false,eval f X.env)]
def Lw(H:Hp)(a:Addr):Prop:=(∃b,Rd H a (.dK b))\/∃b,Rd H a (.dT b)
def Aj(I:aO X f g H s)(d:Lw H a):s.TypeIs (.ref a) "dict"/\(∀b,Value.ref a=.ref b->∃ob,s.heap.get? b=some ob/\ob.dict=none)/\(a==sysModules)=false:=by
 rcases d with⟨c,e⟩|⟨c,e⟩
 ·obtain⟨_,hd,h,_,dd⟩:=rK I.hok e;refine⟨dd.typeIs,λb q=>?_,hd⟩;cases q;obtain⟨ob,_,_,h1,h2,_⟩:=dd;exact⟨ob,h1,h2.2.1⟩
 ·obtain⟨_,hd,i,_,dd⟩:=rJ I.hok e;refine⟨dd.typeIs,λb q=>?_,hd⟩;cases q;obtain⟨ob,_,_,h1,h2,_⟩:=dd;exact⟨ob,h1,h2.2.1⟩
section
variable{X:Cx}{c:Ob}{f:St}{H:Hp}{s:Shared}{a:Addr}{y d:V}{u r:Value}{o:Option V}{A:Around}{E:Oa}
def JB(t:A.units+1<cLine)(I:aO X c f H s)(g:dH H a y o)(n:bd y u)(h:∀p q,aO X c f H q->bd (o.getD .non) p->Q p q):wpAny (model X.prog X.w) A (call (.builtin "dict.get") [.ref a,u]) Q E s:=by
 rcases g with⟨j,k,e,m,l⟩|⟨j,k,b,e,m,v,l⟩
 ·subst m;obtain⟨z,hd,B,i,dd⟩:=rK I.hok e;refine Mb PySem.F.slot_dict_get dd.typeIs PySem.F.entry_dict_get (PySem.F.args_dict_get_2 _ _) (meets_dict_get (aX X.prog X.w) a (pV n) hd) ⟨_,dd.mapOf,h _ _ (I.tok _) ?_⟩;rw[l];exact(i.val k).getD rfl
 ·subst m;cases(show u=Value.ref b from n);obtain⟨z,hd,x,i,dd⟩:=rJ I.hok e;refine Mb PySem.F.slot_dict_get dd.typeIs PySem.F.entry_dict_get (PySem.F.args_dict_get_2 _ _) (meetsH_dict_get (tupleKind (aX X.prog X.w)) a b hd) ⟨L_ t,k,x,oJ I.hok v,dd,h _ _ (I.tok _) ?_⟩;rw[l];exact(i.val k).getD rfl
def JA(v:A.units+1<cLine)(I:aO X c f H s)(g:dH H a y o)(n:bd y u)(p:bd d r)(h:∀q t,aO X c f H t->bd (o.getD d) q->Q q t):wpAny (model X.prog X.w) A (call (.builtin "dict.get") [.ref a,u,r]) Q E s:=by
 rcases g with⟨j,k,e,m,l⟩|⟨j,k,b,e,m,x,l⟩
 ·subst m;obtain⟨z,hd,C,i,dd⟩:=rK I.hok e;refine Mb PySem.F.slot_dict_get dd.typeIs PySem.F.entry_dict_get (PySem.F.args_dict_get_3 _ _ _) (meets_dict_get_default (aX X.prog X.w) a (pV n) hd r) ⟨_,dd.mapOf,h _ _ (I.tok _) ?_⟩;rw[l];exact(i.val k).getD p
 ·subst m;cases(show u=Value.ref b from n);obtain⟨z,hd,B,i,dd⟩:=rJ I.hok e;refine Mb PySem.F.slot_dict_get dd.typeIs PySem.F.entry_dict_get (PySem.F.args_dict_get_3 _ _ _) (meetsH_dict_get_default (tupleKind (aX X.prog X.w)) a b hd r) ⟨L_ v,k,B,oJ I.hok x,dd,h _ _ (I.tok _) ?_⟩;rw[l];exact(i.val k).getD p
end
def Ih(e ty:TE):TE:=λb H Q=>e b H λx c=>∃a,x=.ref a/\Lw c a/\ty b c λy d=>∃o,dH d a y o/\Q (o.getD .non) d
def Ig(e ty f:TE):TE:=λb H Q=>e b H λx c=>∃a,x=.ref a/\Lw c a/\ty b c λy g=>f b g λz d=>∃o,dH d a y o/\Q (o.getD z) d
def Ic(f ty:TE):TE:=λc H Q=>f c H λx d=>∃a,x=.ref a/\Lw d a/\ty c d λy e=>∃b k v,e a=some (.dK b)/\y=kV k/\bn b k=some v/\Q v (aI e a (.dK (dO b k)))
section
variable{X:Cx}{o e f:Expr}{c i:Pos}{j ty n:TE}
def t9(q:X.A.units+1<cLine)(r:PE X o j)(t:PE X e ty)(m:M1 X o "get" c e i):PE X (.Call (.Attribute o "get" c) [e] [] i) (Ih j ty):=by intro b s p H Q I h;refine MF m.base m.few m.line PySem.F.plainAttrs_dict PySem.F.slot_dict_get PySem.F.type_dict_get (cE (r b s p H _ I h) λu v k=>?_);obtain⟨x,w,I1,z,a,ex,d,B⟩:=k;subst ex;obtain rfl:u=Value.ref a:=z;obtain⟨C,D,_⟩:=Aj I1 d;refine⟨C,D,?_⟩;rw[m.trees];refine u_ rfl (C2 (tx (cE (t b v p w _ I1 B) λiv M k=>?_)));obtain⟨y,E,G,J,N,g,K⟩:=k;refine D_ ?_;exact JB q G g J λO P L l=>⟨_,E,L,l,K⟩
def yw(p:X.A.units+1<cLine)(q:PE X o j)(r:PE X e ty)(t:PE X f n)(m:M2 X o "get" c e f i):PE X (.Call (.Attribute o "get" c) [e,f] [] i) (Ig j ty n):=by
 intro b s k H Q I h;refine MF m.base m.few m.line PySem.F.plainAttrs_dict PySem.F.slot_dict_get PySem.F.type_dict_get (cE (q b s k H _ I h) λu v w=>?_);obtain⟨x,B,I1,C,a,ex,d,D⟩:=w;subst ex;obtain rfl:u=Value.ref a:=C;obtain⟨E,G,_⟩:=Aj I1 d;refine⟨E,G,?_⟩;rw[m.trees];refine u_ rfl (C2 (tx (cE (r b v k B _ I1 D) λiv J⟨y,K,L,M,N⟩=>tx (cE (t b J k K _ L N) λU V⟨z,O,P,R,W,g,S⟩=>D_ ?_))))
 exact JA p P g M R λY Z T l=>⟨_,O,T,l,S⟩
def yt(r:PE X o j)(t:PE X e ty)(m:M1 X o "pop" c e i):PE X (.Call (.Attribute o "pop" c) [e] [] i) (Ic j ty):=by intro b s q H Q I h;refine MF m.base m.few m.line PySem.F.plainAttrs_dict PySem.F.slot_dict_pop PySem.F.type_dict_pop (cE (r b s q H _ I h) λu w g=>?_);obtain⟨x,z,I1,A,a,ex,d,B⟩:=g;subst ex;obtain rfl:u=Value.ref a:=A;obtain⟨C,D,_⟩:=Aj I1 d;refine⟨C,D,?_⟩;rw[m.trees];refine u_ rfl (C2 (tx (cE (t b w q z _ I1 B) λiv O g=>?_)));obtain⟨y,P,E,G,J,k,v,K,L,l,M⟩:=g;refine D_ ?_;subst L;exact Lc E K G l (.inl rfl) λR S N p=>⟨v,_,N,p,M⟩
end
section
variable{X:Cx}{c:Ob}{e:St}{H:Hp}{s:Shared}{a:Addr}{d:List (bQ×V)}{A:Around}{E:Oa}
end
section
variable{X:Cx}{c:Ob}{d:St}{H:Hp}{s:Shared}{a:Addr}{y:V}{u:Value}{A:Around}{E:Oa}
end
end L2
namespace Att
open PySem PySem.W PySem.Calls PyProof.Rows
def sG:∀(ns:Ol)(c:Od),WellAll P h c (ns.map WData.int)->IntsAre c ns:=by
 intro ns
 induction ns with|nil=>intro c w;rw[List.map_nil]at w;cases w;exact .nil|cons n ns d=>intro c w;rw[pu]at w;cases w with|cons a b=>cases a;exact .cons _ _ (d _ b)
def BT{l:OpenLaw}{n:Nat}(hn:l.most=some n){P:Params}{h:Heap}{args:List WData}{c:Od}(e:l.row.toRowW.claim.pre args=true)(g:WellAll P h c args):∃a j ns,c=[Value.ref a]/\args=[WData.list (ns.map WData.int)]/\h.get? a=some {cls:=.type "list",data:=.seq j.toArray}/\IntsAre j ns/\ns.length<=n:=by
 have i:WShape.hasAll [] args [.list .int]=true:=(pre_splitW e).1;have hc:l.pre.holds [] {args:=args}=true:=(pre_splitW e).2;obtain⟨d,r,rfl,h1,h2⟩:=hasAllW_cons i;obtain rfl:=hasAllW_nil h2;obtain⟨s,rfl,h3⟩:=hasW_list h1;obtain⟨ns,rfl⟩:=items_int h3;have b:ns.length<=n:=by
  unfold OpenLaw.pre at hc;have h4:(WTm.not (.lt (.lit (.int (n:Int))) (.len (.arg 0)))).holds [] {args:=[.list (ns.map .int)]}=true:=by have h4:=(holds_andW hc).1;rw[hn]at h4;exact h4
  have h5:=condW_of h4 (w_not (w_lt w_lit (w_len_list (w_arg rfl))));rw[b_]at h5;refine MI λq=>?_;have k:(n:Int)<((ns.length:Nat):Int):=by lia
  first|(rw[ol k]at h5;exact absurd h5 (by decide))|(simp at h5;lia)
 cases g with|cons m o=>cases o;cases m with|list p f=>exact⟨_,_,ns,rfl,rfl,p,sG ns _ f,b⟩
def BX(l:OpenLaw)(args:List WData):l.row.toRowW.claim.post args (.bool true) args=true:=postW_of (r:=l.row.toRowW) (X:=(true==true)) (show WShape.has [] (.bool true) .bool=true by first|rfl|decide|simp[WShape.has,WShape.arms,WShape.armsAll]) (show(WTm.eq .res (.lit (.bool true))).value [] {args:=args,res:=some (.bool true),after:=args}=some (.bool (true==true))from w_eq_bool (w_res rfl) w_lit) rfl
def zo{l:OpenLaw}{n:Nat}{q:Oe}{c:Of}{x:(Str->Option Value)->Heap->Prop}{y:World->Heap->Prop}{d:DefRec}(hn:l.most=some n)(p:d.params.defaults=[])(call:∀(w:World)(s₀ s₁:Shared)(mg s:Oc)(h:Addr)(o:Obj)(pm cd e:Value)(a:Addr)(g:Od)(ns:Ol),Ground q c [] x w s₀ mg s s₁.heap->y w s₁.heap->s₁.heap.get? h=some o->o.data=.func (docDef d.name d.params d.body d.scope pm cd e)->s₁.heap.CodeRec cd d.name->mg d.name=some (.ref h)->s₁.heap.get? a=some {cls:=.type "list",data:=.seq g.toArray}->IntsAre g ns->ns.length<=n->s₁.gens=#[]->codeAny (model l.prog w) callerA (.call (.ref h) ⟨[.ref a],[]⟩) (λr m=>r=.ok (.ret (.bool true))/\OldK s₁.heap m.heap/\m.os=s₁.os/\AllBare m.gens) s₁):WalkO q c x y l.row.toRowW d [] (λf g=>PySem.call f g):=by intro w s₀ s₁ mg s G Y h o pm cd e D kV E hd t z u hg A B J i C F v H;obtain rfl:D=.none:=Dflts.none z p;obtain rfl:kV=.none:=Dflts.noKw z;obtain⟨a,g,ns,rfl,rfl,j,b,k⟩:=BT hn i v;refine enter_call (Ma (call w s₀ s₁ mg s h o pm cd e a g ns G Y E (fd_plain hd) t u j b k hg) λr m I=>?_);obtain⟨rfl,h2,h3,h4⟩:=I;exact⟨.inl ⟨.bool true,.bool true,[],rfl,λ_=>rfl,.bool true,BX l _,λ_=>⟨List.Pairwise.nil,λ_ hm=>(nomatch hm)⟩⟩,h2,h3,h4⟩
section
variable{prog:Oe}{w:World}{A:Around}{E:Oa}{s:Shared}{K:Frag}
end
end Att
namespace L2
open PySem PySem.Spec PyProof.Rows
theorem vB:∀{a:Od}{ns:Ol},IntsAre a ns->bf (ns.map V.int) a|_,_,.nil=>.nil|_,_,.cons n t h=>.cons ⟨t,rfl⟩ (vB h)
def xO(H:Hp):Prop:=∀b,H b=none\/∃o a,H b=some (.frz o (.lst a))
def EB{P:Oe}{w:World}{K:N_}{mg J:Oc}{T:zr}{k:Nat}{L a:Addr}{fd:FuncData}{x:Str}{sp:Sp}{s₁:Shared}{l:Od}{ns:Ol}(X:K.In s₁.heap)(t:s₁.heap.Ns mainGlobals mg)(f:s₁.heap.Ns builtinsNs J)(M:∀x:Str,x≠"__name__"->J x=bootBuiltins x)(y:s₁.heap.NoLimit)(hg:s₁.gens=#[])(I:s₁.heap.get? a=some {cls:=.type "list",data:=.seq l.toArray})(hi:IntsAre l ns)(Z:ns.length<=sizeLine)(hr:eZ k callerA)(F:∀base:Heap,K.In base->base.Ns mainGlobals mg->aT P w K mg base T k L fd [x] sp)(p:∀(s:Shared)(u:Value),BindsTo s fd ⟨[u],[]⟩ [(x,u)])(N:∀H:Hp,xO H->aY K H a (ns.map V.int)->sp [.ref a] H (λv _=>v=.bl true) λ_ _ _=>False)(O:∀H e g,T [] H s₁ (λ_ _ _=>False) e g->False):codeAny (model P w) callerA (.call (.ref L) ⟨[.ref a],[]⟩) (λr g=>r=.ok (.ret (.bool true))/\OldK s₁.heap g.heap/\g.os=s₁.os/\AllBare g.gens) s₁:=by
 have U:=vB hi;have A:=hi.length;have j:∀H:Hp,xO H->aY K H a (ns.map V.int)->lQ P w H s₁.heap->(∀b,H b≠none->b=a)->(H a≠none->K.lookup a=none)->codeAny (model P w) callerA (.call (.ref L) ⟨[.ref a],[]⟩) (λr g=>r=.ok (.ret (.bool true))/\OldK s₁.heap g.heap/\g.os=s₁.os/\AllBare g.gens) s₁:=by
  intro H Y hS hok hA hK;have c:∀{b:Addr}{o:Obj},s₁.heap.get? b=some o->H b=none->(xn s₁.heap H).get? b=some o:=λe n=>EN e n;have Q:∀{b:Addr}{o:Obj}{B:Array DictEntry}{C:Nat},s₁.heap.get? b=some o->o.data=.dict B C->H b=none:=λ{b o B C}e d=>by cases q:H b with|none=>rfl|some u=>have R:b=a:=hA b (by rw[q];simp);subst R;rw[I]at e;cases e;have d':Data.seq l.toArray _=Data.dict B C:=d;cases d'
  have i:∀{b:Addr}{m:Oc},s₁.heap.Ns b m->(xn s₁.heap H).Ns b m:=λ{b m}⟨o,B,C,e,d,r⟩=>⟨o,B,C,c e (Q e d),d,r⟩;have D:K.In (xn s₁.heap H):=λb o e=>c (X b o e) (by cases q:H b with|none=>rfl|some u=>have R:b=a:=hA b (by rw[q];simp);subst R;rw[hK (by rw[q];simp)]at e;cases e)
  have hM:Li K mg (xn s₁.heap H):=⟨D,i t,⟨J,i f,M⟩,let⟨mc,h1,h2⟩:=y;⟨mc,i h1,h2⟩⟩;have e0:AK P w K mg (xn s₁.heap H) callerA [] s₁ H:=⟨rfl,hM,λb o e=>Gw e,Mt (Cm _ _),trivial,λb f=>absurd (show b∈([]:Oj)from f) (by simp),hok,.of_eq hg⟩;refine Ma ((F _ D (i t)).run callerA [] s₁ H ⟨[.ref a],[]⟩ [.ref a] [.ref a] _ _ hr e0 (p s₁ (.ref a)) (.cons rfl .nil) (N H Y hS)) λr g h=>?_;cases r with|error e=>exact(O H e g h).elim|ok fl=>cases fl with|next=>exact False.elim h|brk=>exact False.elim h|cont=>exact False.elim h|ret u=>obtain⟨v,H',os,bare,un,E,r',q⟩:=h;have q':v=.bl true:=q;subst q';obtain rfl:u=Value.bool true:=r';refine⟨rfl,OldK.of_keep λb o e=>?_,os,bare⟩;cases q:H b with|none=>exact un.keep b o e q (by intro z;exact absurd (show b∈([]:Oj)from z) (by simp)) (by simp)|some u=>
     rcases Y b with z|⟨ob,xs,z⟩
     ·rw[q]at z;cases z
     ·have z2:=un.frzs b ob _ z;obtain⟨e1,_⟩:=hok b _ z;obtain⟨e2,_⟩:=E b _ z2;rw[e]at e1;cases e1;exact e2
 cases S:K.lookup a with|some o=>have e:=X a o S;rw[I]at e;cases e;refine j (λ_=>none) (λ_=>.inl rfl) (.inr ⟨_,l.toArray,_,S,rfl,rfl,rfl,by rw[n_,A];exact Z,by simpa using U⟩) (λb u z=>by have G:(none:Option HO)=some u:=z;cases G) (λb z=>absurd rfl z) λz=>absurd rfl z|none=>
  refine j (λb=>if b=a then some (.frz {cls:=.type "list",data:=.seq l.toArray} (.lst (ns.map V.int)))else none) (λb=>?_) (.inl (.inr ⟨{cls:=.type "list",data:=.seq l.toArray},mo rfl⟩)) (λb u z=>?_) (λb z=>?_) λ_=>S
  ·by_cases f:b=a
   ·exact .inr ⟨_,_,mo f⟩
   ·exact .inl (l_ f)
  ·by_cases f:b=a
   ·have G:=(mo f).symm.trans z;cases G;subst f;exact⟨I,by rw[b_];exact Z,l,_,U,I⟩
   ·have G:=(l_ f).symm.trans z;cases G
  ·by_cases f:b=a
   ·exact f
   ·exact absurd (l_ f) z
end L2
namespace L2
open PySem PySem.Spec PyProof.Rows
abbrev KOf{K:N_}{h:Heap}(_:K.In h):N_:=K
def FB{l:PySem.W.OpenLaw}{n k:Nat}{q:Oe}{i:Of}{I:(Str->Option Value)->Heap->Prop}{C:World->Heap->Prop}{d:DefRec}{K:Params->N_}{CX:World->zr}{sp:World->Sp}{x:Str}(hn:l.most=some n)(r:n<=sizeLine)(t:d.params.defaults=[])(J:eZ k callerA)(L:∀(w:World)(h:Heap),C w h->(K w.params).In h)(F:∀(w:World)(mg:Oc)(p:Addr)(h:Heap),(K w.params).In h->h.Ns mainGlobals mg->mg d.name=some (.ref p)->∃fd:FuncData,(∀(s:Shared)(u:Value),BindsTo s fd ⟨[u],[]⟩ [(x,u)])/\∀base:Heap,(K w.params).In base->base.Ns mainGlobals mg->aT l.prog w (K w.params) mg base (CX w) k p fd [x] (sp w))(y:∀(w:World)(H:Hp)(a:Addr)(ns:Ol),ns.length<=n->xO H->aY (K w.params) H a (ns.map V.int)->sp w [.ref a] H (λv _=>v=.bl true) λ_ _ _=>False)(z:∀(w:World)(H:Hp)(s:Shared)(e:Value)(A:Shared),CX w [] H s (λ_ _ _=>False) e A->False):PySem.W.WalkO q i I C l.row.toRowW d [] (λf D=>PySem.call f D):=by refine Att.zo hn t λw s₀ s₁ mg S p o pm cd M a D ns G Y U hd N B m j c hg=>?_;have E:=L w _ Y;obtain⟨fd,O,P⟩:=F w mg p _ E G.T.g B;exact EB E G.T.g G.T.b G.T.builtins G.T.nolimit hg m j (n7 c r) J P O (λH Q R=>y w H a ns c Q R) λH e A=>z w H s₁ e A
def CQ{l:PySem.W.OpenLaw}{n k:Nat}{q:Oe}{c:Of}{t:(Str->Option Value)->Heap->Prop}{p:World->Heap->Prop}{d:DefRec}{K:Params->N_}{CX:zr}{sp:N_->Sp}{x:Str}(hn:l.most=some n)(g:n<=sizeLine)(i:d.params.defaults=[])(y:eZ k callerA)(z:∀(w:World)(h:Heap),p w h->(K w.params).In h)(F:∀(w:World)(mg:Oc)(r:Addr)(h:Heap),(K w.params).In h->h.Ns mainGlobals mg->mg d.name=some (.ref r)->∃fd:FuncData,(∀(s:Shared)(u:Value),BindsTo s fd ⟨[u],[]⟩ [(x,u)])/\∀base:Heap,(K w.params).In base->base.Ns mainGlobals mg->aT l.prog w (K w.params) mg base CX k r fd [x] (sp (K w.params)))(j:∀(K:N_)(H:Hp)(a:Addr)(ns:Ol),ns.length<=n->xO H->aY K H a (ns.map V.int)->sp K [.ref a] H (λv _=>v=.bl true) λ_ _ _=>False)(m:∀(H:Hp)(s:Shared)(e:Value)(o:Shared),CX [] H s (λ_ _ _=>False) e o->False):PySem.W.WalkO q c t p l.row.toRowW d [] (λf A=>PySem.call f A):=FB (K:=K) (CX:=λ_=>CX) (sp:=λw=>sp (K w.params)) hn g i y z F (λw H a ns h1 h2 h3=>j (K w.params) H a ns h1 h2 h3) λ_ H s e o=>m H s e o
end L2
namespace L2
open PySem PySem.Spec PyProof.Rows
def pX(s:Stmt):Arguments:=match s with|.FunctionDef _ a _ _ _ _ _ _ _ _=>a|_=>{posonlyargs:=[],args:=[],vararg:=none,kwonlyargs:=[],kw_defaults:=[],kwarg:=none,defaults:=[]}
def gA(s:Stmt):List Stmt:=match s with|.FunctionDef _ _ b _ _ _ _ _ _ _=>b|_=>[]
def ao(s:Stmt):Scope:=match s with|.FunctionDef _ _ _ _ _ _ a _ _ _=>a|_=>{kind:=.function,names:=[],isGenerator:=false,isCoroutine:=false}
abbrev dR:zr:=λ_ _ _ _ _ _=>False
abbrev E0:XK:=λ_ _ _=>False
def bw:mM dR X E0:=λ_ _ _ _ _ _ _ h=>h.elim
structure xR(K:N_)(x qual:Str)(st:Stmt)(f:Addr)(fd:FuncData):Prop where
 ex:∃(oc:Value)(od:Option Addr)(kV doc pm:Value)(an:Option Addr)(cdv ct:Value)(osl:Array (Option Value)),fd=PySem.W.fnOf x qual (pX st) (gA st) (ao st) .none kV doc pm an cdv ct/\K.lookup f=some ⟨oc,od,.func fd,osl⟩/\PySem.W.codeIn K cdv qual=true
 kp:PySem.W.keepIn K (.ref f)=true
section
variable{P:Oe}{w:World}{K:N_}{mg:Oc}{base:Heap}
def xR.ok{x a:Str}{st:Stmt}{f:Addr}{fd:FuncData}{N g:Of}{k:Nat}{sp:Sp}(F:xR K x a st f fd)(S:aC N g (ao st))(len:∀d H Q E,sp d H Q E->d.length=g.length)(e:∀(c:Value)(A:Around)(outer:List Env)(s:Shared)(H:Hp)(d:List V)(Q:VK)(E:XK),eZ k (A.deeper (envOfC a (ao st) s.heap.objs.size f c))->sp d H Q E->∃t,vx (qJ dR P w K mg base N a (ao st) f c A outer s H E).nox (gA st) t/\t {nx:=λ_ j=>Q .non j,rt:=Q} (i3 N d) H):aT P w K mg base dR (k+1) f fd g sp:=by obtain⟨oc,o,kV,l,pm,p,c,ct,m,rfl,lk,b⟩:=F.ex;refine HA lk b S len λA outer s H d Q E n i=>?_;obtain⟨t,h,q⟩:=e c A outer s H d Q E n i;exact⟨t,h.nox,q⟩
def xR.binds{x a:Str}{st:Stmt}{f:Addr}{fd:FuncData}{e:Of}(F:xR K x a st f fd)(h:∀(kV c pm:Value)(g:Option Addr)(d ct:Value)(i:Od),i.length=e.length->bindArgs (PySem.W.fnOf x a (pX st) (gA st) (ao st) .none kV c pm g d ct) ⟨i,[]⟩=pure (e.zip i)):fU K fd e []:=by obtain⟨oc,k,kV,c,pm,g,d,ct,b,rfl,lk,j⟩:=F.ex;exact .all (h kV c pm g d ct)
def Ap{x a:Str}{st:Stmt}{f:Addr}{oc:Value}{i h:Option Addr}{g:Array (Option Value)}{kV e pm d ct:Value}(l:K.lookup f=some ⟨oc,i,.func (PySem.W.fnOf x a (pX st) (gA st) (ao st) .none kV e pm h d ct),g⟩)(c:PySem.W.codeIn K d a=true)(k:PySem.W.keepIn K (.ref f)=true):xR K x a st f (PySem.W.fnOf x a (pX st) (gA st) (ao st) .none kV e pm h d ct):=⟨⟨oc,i,kV,e,pm,h,d,ct,g,rfl,l,c⟩,k⟩
end
def cb(a:eZ k A):A.units+1<cLine:=sg (Nat.add_le_add_left (by decide:1<=64) _) a.units
section
variable{X:Cx}
def Y(i:Nat)(c:X.N[i]?=some x:=by rfl)(d:Ls X.env.scope x:=by first|exact Or.inl rfl|exact Or.inr (Or.inl rfl)|exact Or.inr (Or.inr rfl))(hd:(x==("__debug__":Str))=false:=by decide)(a:(x==("__classdict__":Str))=false:=by decide):PE X (.Name x e) (FE i):=IT c d hd a
end
def bX{A B:Prop}(h:B):if false=true then A else B:=by rw[l_ oa];exact h
def bo{A B:Prop}(h:A):if true=true then A else B:=by rw[mo rfl];exact h
def aq(H a:Hp):Prop:=∀b o,H b=some o->a b=some o
def aq.refl(H:Hp):aq H H:=λ_ _ h=>h
def aq.trans(a:aq H d)(b:aq d e):aq H e:=λc o h=>b c o (a c o h)
def aq.free(e:aq H a)(h:a l=Option.none):H l=Option.none:=by cases q:H l with|none=>rfl|some o=>rw[e l o q]at h;cases h
def aq.seq{K:N_}{H c:Hp}{a:Addr}{d:List V}(e:aq H c)(h:aY K H a d):aY K c a d:=by
 rcases h with(h|⟨o,h⟩)|h
 ·exact .inl (.inl (e _ _ h))
 ·exact .inl (.inr ⟨o,e _ _ h⟩)
 ·exact .inr h
section
variable{a:Type}[DecidableEq a]
def wo{p:a×V}{r:List (a×V)}{k:a}(e:p.1=k):dO (p::r) k=dO r k:=by unfold dO;rw[Nk,l_ (by simp[e])]
def wq{p:a×V}{r:List (a×V)}{k:a}(e:¬p.1=k):dO (p::r) k=p::dO r k:=by unfold dO;rw[Nk,mo (by simp[e])]
end
end L2
set_option maxHeartbeats 4000000
namespace L2
open PySem PySem.Spec PyProof.Rows
section
variable{prog:Oe}{w:World}{A:Around}{R:Result->Shared->Prop}{s:Shared}
def kG(h:wpAny M A t Q (λ_ _=>False) s)(k:∀a s,Q a s->c a s):wpAny M A t c E s:=wpAny_mono h k λ_ _ z=>z.elim
def ze(J:Nat->Shared->Prop)(l:∀n s,J n s->wpAny (model prog w) A (pyNext z) (λr s₁=>match r with|none=>R (.ok .next) s₁|some v=>wpAny (model prog w) A (letOwnedTupleGo a z v) (λ_ d=>wpAny (model prog w) A (assign a env v) (λ_ e=>wpAny (model prog w) A (forIn k true λc r=>if r=true then do let ok<-isTrue c env (eval c env);pure (ForInStep.yield ok)else pure (ForInStep.yield r)) (λok b=>if ok=true then wpAny (model prog w) A (eval o env) (λx f=>wpAny (model prog w) A (call (.builtin "list.append") [p,x]) (λ_ g=>∃m,m<n/\J m g) (λ_ _=>False) f) (λ_ _=>False) b else∃m,m<n/\J m b) (λ_ _=>False) e) (λ_ _=>False) d) (λ_ _=>False) s₁) (λ_ _=>False) s)(n:Nat)(h:J n s):codeAny (model prog w) A (.compLoop (.ListComp o [⟨a,iter,k,0⟩] scope B) 0 z p env) R s:=by refine codeAny_loop rfl J (λn s C=>?_) n h;show wpAny _ A ((compTurn (.ListComp o [⟨a,iter,k,0⟩] scope B) 0 z p env).onRaise (λx=>do noteFrame x env;theTreesLotGoes x)) _ _ s;refine wpAny_noted ?_;rw[compTurn_list];refine a_ (wpAny_standAt (a_ (kG (l n s C) (λr s₁ i=>?_))));cases r with|none=>exact e_ i|some v=>refine a_ (kG i λ_ d q=>a_ (kG q λ_ e t=>a_ (kG t λok b j=>?_)));cases ok with|false=>exact e_ ⟨rfl,j⟩|true=>exact a_ (a_ (kG j λx f u=>a_ (kG u λ_ g y=>e_ (e_ ⟨rfl,y⟩))))
end
theorem lI{f:Str->NameKind->NameKind}:∀(l:List (Str×NameKind))(x:Str),(l.map λp=>(p.1,f p.1 p.2)).lookup x=(l.lookup x).map (f x)|[],_=>rfl|(n,k)::r,x=>by rw[pu,Nj,Nj];cases a:x==n with
 |true=>
   have e:x=n:=by simpa using a
   subst e;rfl|false=>exact lI r x
def mx(env:Env)(n:Str)(k:NameKind):NameKind:=if(k==.free&&env.scope.kind==.function&&env.kindOf n==some .cell)=true then .cell else k
def i9(scope:Scope)(env:Env)(x:Str):(relabel scope env).names.lookup x=(scope.names.lookup x).map (mx env x):=by
 rw[<-lI];unfold relabel
 congr 1
 show List.map _ scope.names=List.map _ scope.names
 congr 1
 funext p
 obtain⟨n,k⟩:=p;show(if(k==NameKind.free&&env.scope.kind==.function&&env.kindOf n==some .cell)=true then(n,NameKind.cell)else(n,k))=(n,mx env n k);unfold mx
 split<;>rfl
theorem oQ{env:Env}{f:Str×NameKind->List (Str×Addr)->Sem (ForInStep (List (Str×Addr)))}(d:∀n c r,cellOf env n=pure c->f (n,.free) r=pure (.yield ((n,c)::r)))(g:∀n k r,k≠.free->f (n,k) r=pure (.yield r)):∀(l:List (Str×NameKind))(cs:List (Str×Addr)),(∀y∈l,y.2=.free->∃c,env.cells.lookup y.1=some c)->∃cl:List (Str×Addr),forIn l cs f=pure cl/\(∀x c,cl.lookup x=some c->env.cells.lookup x=some c\/cs.lookup x=some c)/\(∀x,(∃c,cs.lookup x=some c)\/(x,NameKind.free)∈l->∃c,cl.lookup x=some c)
 |[],cs,_=>⟨cs,rfl,λ_ _ h=>.inr h,λx h=>h.elim id nofun⟩|(n,k)::r,cs,h=>by
  by_cases o:k=.free
  ·subst o;obtain⟨c,hc⟩:=h (n,.free) m_ rfl;obtain⟨cl,h1,h2,h3⟩:=oQ d g r ((n,c)::cs) λy p=>h y (lm _ p);refine⟨cl,?_,λx i a=>?_,λx a=>h3 x ?_⟩
   ·rw[NA,d n c cs (by unfold cellOf;rw[hc])];exact h1
   ·rcases h2 x i a with z|z
    ·exact .inl z
    ·rw[Nj]at z;cases b:x==n with|true=>
      rw[b]at z;have j:x=n:=by simpa using b
      have m:c=i:=by simpa using z
      subst j;subst m;exact .inl hc|false=>rw[b]at z;exact .inr z
   ·rcases a with⟨i,a⟩|a
    ·refine .inl ?_;rw[Nj];cases b:x==n with|true=>exact⟨c,rfl⟩|false=>exact⟨i,a⟩
    ·rcases tA.mp a with e|e
     ·injection e with j m;subst j;exact .inl ⟨c,by simp⟩
     ·exact .inr e
  ·obtain⟨cl,h1,h2,h3⟩:=oQ d g r cs λy p=>h y (lm _ p);refine⟨cl,?_,h2,λx a=>h3 x ?_⟩
   ·rw[NA,g n k cs o];exact h1
   ·rcases a with a|a
    ·exact .inl a
    ·rcases tA.mp a with e|e
     ·injection e with j m;exact absurd m.symm o
     ·exact .inr e
def vm{env:Env}{scope:Scope}(h:∀y∈scope.names,y.2=.free->∃c,env.cells.lookup y.1=some c):∃cl:List (Str×Addr),closureFor scope env=pure cl/\(∀x c,cl.lookup x=some c->env.cells.lookup x=some c)/\(∀x,(x,NameKind.free)∈scope.names->∃c,cl.lookup x=some c):=by
 simp only[closureFor];obtain⟨cl,h1,h2,h3⟩:=oQ (env:=env) (f:=λ(x:Str×NameKind)(r:List (Str×Addr))=>match x with|(b,kind)=>if(kind==NameKind.free)=true then(do let a<-cellOf env b;pure (ForInStep.yield ((b,a)::r)))else pure (ForInStep.yield r)) (λn c r e=>by show(if(NameKind.free==NameKind.free)=true then(do let a<-cellOf env n;pure (ForInStep.yield ((n,a)::r)))else pure (ForInStep.yield r):Sem _)=_;rw[mo (by decide),e];rfl) (λn k r e=>by show(if(k==NameKind.free)=true then(do let a<-cellOf env n;pure (ForInStep.yield ((n,a)::r)))else pure (ForInStep.yield r):Sem _)=_;rw[l_ (by simpa using e)]) scope.names [] h
 refine⟨cl,?_,λx c e=>(h2 x c e).elim id λz=>by simp at z,λx d=>h3 x (.inr d)⟩;rw[h1];rfl
def Cx.comp(X:Cx)(scope:Scope)(a:Of)(cl:List (Str×Addr))(C:Addr)(s₀:Shared)(H₀:Hp)(ex:Oj):Cx:={prog:=X.prog,w:=X.w,K:=X.K,mg:=X.mg,base:=X.base,A:=X.A,N:=a,s₀:=s₀,H₀:=H₀,env:=compEnvC scope cl C X.env,outer:=X.stack,stack:=X.stack,ex:=ex,fn:=λ_=>false,calm:=X.calm,pn:=X.pn,xe:=λ_ _=>False}
def iG(ds:Oi)(k:Nat)(a:St):St:=ds.foldl (λa i=>a.set i none) a++List.replicate k none
def oP(ds:Oi):∀a:St,(ds.foldl (λa i=>a.set i none) a).length=a.length:=by induction ds with|nil=>intro a;rfl|cons d r b=>intro a;rw[E1,b];simp
def Ar(ds:Oi):∀(a:St)(i:Nat)(v:V),(ds.foldl (λa i=>a.set i none) a)[i]?=some (some v)->a[i]?=some (some v)/\i∉ds:=by induction ds with|nil=>intro a i v h;exact⟨h,by simp⟩|cons d r b=>
  intro a i v h;rw[E1]at h;obtain⟨h1,h2⟩:=b _ i v h
  by_cases e:d=i
  ·subst e
   by_cases c:d<a.length
   ·rw[Mc c]at h1;cases h1
   ·rw[Mu.mpr (by rw[y3];lia)]at h1;cases h1
  ·rw[r_ e]at h1;exact⟨h1,λz=>(tA.mp z).elim (λq=>e q.symm) h2⟩
def yY(h:(iG ds k a)[i]?=some (some v)):a[i]?=some (some v)/\i∉ds/\i<a.length:=by
 unfold iG at h
 by_cases b:i<a.length
 ·rw[y_ (by rw[oP];exact b)]at h;obtain⟨h1,h2⟩:=Ar ds a i v h;exact⟨h1,h2,b⟩
 ·rw[Mo (by rw[oP];lia)]at h;have:=d_.mp h;obtain⟨h1,h2⟩:=this;rw[List.getElem_replicate]at h2;cases h2
def Hf(X:Cx)(d:Og)(t:TT):Prop:=∀(a:Ob)(s:Shared)(b:St)(H:Hp)(Q:Bool->Hp->Prop),aO X a b H s->t b H Q->wpAny (model X.prog X.w) X.A (forIn d true λc r=>if r=true then do let ok<-isTrue c X.env (eval c X.env);pure (ForInStep.yield ok)else pure (ForInStep.yield r)) (TP X a b Q) X.xe s
def Kb:TT:=λ_ H Q=>Q true H
def ck:Hf X [] Kb:=λ_ _ _ H _ I h=>wpAny_tests_nil ⟨H,I,h⟩
def mY(h:PT X c t):Hf X [c] t:=λa s b H Q I q=>wpAny_tests_one (h a s b H Q I q)
def GK(g:TG)(c:Oi):Prop:=∀x b H Q,g x b H Q->g x b H λa d=>Q a d/\a.length=b.length/\∀i,i∉c->a[i]?=b[i]?
def bY(j:Nat):GK (jK j) [j]:=λx a H Q h=>by refine⟨h,by simp,λi hi=>?_⟩;rw[r_ (λe=>hi (by simp[e]))]
def xo(K:N_)(i j:Nat):GK (Jr K 2 (ET (jK i) (ET (jK j) K9))) [i,j]:=λx l H Q h=>by obtain⟨a,b,e,c,d,v,r,f,u,r2,g,k,q⟩:=h;refine⟨a,b,e,c,d,v,r,f,u,r2,g,k,q,by simp,λn hn=>?_⟩;have h1:n≠i:=λz=>hn (by simp[z]);have h2:n≠j:=λz=>hn (by simp[z]);rw[r_ (rb h2),r_ (rb h1)]
def tj(o:TI)(g:TG)(ds:Oi)(k:Nat)(tc:TT)(te:TE):TE:=λf H Q=>o f H λJ h=>∀D,h D=none->∃W:Nat->Nat->List V->Hp->Prop,(∃m,W 0 m [] (aI h D (.lst [])))/\∀i m a c,W i m a c->(J.stop i c/\Q (.ref D) c)\/(J.go i c/\∀x j,J.yld i c x j->g x (iG ds k f) j λd p=>tc d p λb l=>if b=true then te d l λy n=>n D=some (.lst a)/\a.length<sizeLine/\∃e,e<m/\W (i+1) e (a++[y]) (aI n D (.lst (a++[y])))else∃e,e<m/\W (i+1) e a l)
section
variable{X:Cx}
def Ff(I:aO X t σ H s)(f:∀b∈fp,vz X t H b)(fo:∀b∈fp,∃o,s.heap.get? b=some o)(E:scope.kind=.function)(F:∀y∈scope.names,y.2≠.cell)(G:∀y∈scope.names,y.2=.free->X.env.scope.names.lookup y.1=some .cell\/X.env.scope.names.lookup y.1=some .free)(g:∀x c,cl.lookup x=some c->X.env.cells.lookup x=some c)(D:∀x,(x,NameKind.free)∈scope.names->∃c,cl.lookup x=some c)(hN:W=X.N++L)(hk:L.length=k)(M:∀i x,X.N[i]?=some x->scope.names.lookup x=some .local->i∈ds)(O:s.heap.objs.size<C)(keep:∀b o,s.heap.get? b=some o->j.get? b=some o)(Z:j.Ns C m)(hD:j.get? s.heap.objs.size=some {cls:=.type "list",data:=.seq ([]:Od).toArray 0}):aO (X.comp scope W cl C s H fp) t (iG ds k σ) (aI H s.heap.objs.size (.lst [])) {s with heap:=j,toks:=tk}:=by
 have fresh:H s.heap.objs.size=none:=I.hok.fresh (f_ _);have P:lQ X.prog X.w (aI H s.heap.objs.size (.lst [])) j:=I.hok.laid keep (f_ _) ⟨o_ _,[],0,.nil,hD⟩;have J:∀b∈fp,b<s.heap.objs.size:=λb A=>let⟨_,e⟩:=fo b A;np e;have K:∀b,b∈jW X.stack->∀p∈X.pn++t,p.1≠b:=λb A p T e=>by
  obtain⟨_,_,n1,n2,_⟩:=I.pin p T;rcases tA.mp (I.stkSub b A)with z|z
  ·exact n1 (e.trans z)
  ·exact n2 (e▸z)
 have B:∀x c,cl.lookup x=some c->c<s.heap.objs.size:=λx c e=>by obtain⟨v,z⟩:=I.cell x c (g x c e);exact z.lt
 have a:∀x,(relabel scope X.env).names.lookup x=some .cell\/(relabel scope X.env).names.lookup x=some .free->scope.names.lookup x=some .free:=λx h=>by rw[i9]at h;cases e:scope.names.lookup x with|none=>rw[e]at h;simp at h|some q=>
   rw[e]at h;have hm:=mem_of_lookup e;have nc:q≠.cell:=F _ hm;simp only[Mz,M3]at h;unfold mx at h
   split at h
   ·rename_i hc;have:(q==NameKind.free)=true:=by cases hq:q==NameKind.free with|true=>rfl|false=>rw[hq]at hc;simp at hc
    have:q=.free:=by simpa using this
    rw[this]
   ·rcases h with h|h
    ·exact absurd h nc
    ·rw[h]
 refine⟨⟨I.ok.mod,?_,I.ok.glob,I.ok.blt,z_ O,?_,?_,?_,I.ok.hd,I.ok.frames,.inl rfl,?_,I.bs,n7 I.ok.bsz I.sz,?_,?_,I.stack,I.stkFree⟩,rfl,I.bare,Un.laid keep (f_ _) fresh,⟨m,Z,?_⟩,?_,?_,?_,?_,P,?_⟩
 ·exact E
 ·intro x y c Y hy;exact I.ok.inj x y c (g x c Y) (g y c hy)
 ·intro x Y;exact D x (mem_of_lookup (a x Y))
 ·intro x c hf;exact absurd hf (by simp[Cx.comp])
 ·intro b A;refine⟨ot (H_ (J b A) O),λx c e z=>?_⟩;exact(f b A).2.2.2.2.1 x c (g x c e) z
 ·intro b o e A;rcases(f b A).2.2.2.1 with z|z
  ·exact I.ok.noex b o e z
  ·exact absurd (pv (np e) (n7 I.ok.bsz z)) (sm _)
 ·intro b A hs;rcases tA.mp (I.stkSub b hs)with z|z
  ·exact(f b A).2.1 z
  ·exact(f b A).2.2.1 z
 ·intro i x v U e2 vis;obtain⟨g1,g2,g3⟩:=yY e2;have Q:X.N[i]?=some x:=by have U:W[i]?=some x:=U;rw[hN,y_ (by rw[<-I.len];exact g3)]at U;exact U
  have hv:scope.names.lookup x=some .free:=by
   rcases vis with z|z|z
   ·exfalso;have z:(relabel scope X.env).names.lookup x=some .local:=z;rw[i9]at z;cases e:scope.names.lookup x with|none=>rw[e]at z;simp at z|some q=>
     rw[e]at z;simp only[Mz,M3]at z;unfold mx at z
     split at z
     ·cases z
     ·subst z;exact g2 (M i x Q e)
   ·exact a x (.inl z)
   ·exact a x (.inr z)
  have hm:=mem_of_lookup hv;have hX:=G _ hm rfl;obtain⟨mX,_,hl⟩:=I.loc;have R:Ls X.env.scope x:=by
   rcases hX with z|z
   ·exact .inr (.inl z)
   ·exact .inr (.inr z)
  obtain⟨u,r,l⟩:=hl i x v Q g1 R;refine⟨u,r,.inr ⟨?_,?_⟩⟩
  ·show(relabel scope X.env).names.lookup x=some .cell\/(relabel scope X.env).names.lookup x=some .free;rw[i9,hv];show some (mx X.env x .free)=some .cell\/some (mx X.env x .free)=some .free;unfold mx
   split
   ·exact .inl rfl
   ·exact .inr rfl
  ·obtain⟨c,hc⟩:=D x hm;have aa:=g x c hc;refine⟨c,hc,?_⟩;rcases l with⟨V,_⟩|⟨_,c',S,o,ho,hd⟩
   ·exfalso;have V:X.env.scope.names.lookup x=some .local:=V;rcases hX with z|z
    ·rw[V]at z;cases z
    ·rw[V]at z;cases z
   ·rw[aa]at S;cases S;exact⟨o,keep c o ho,hd⟩
 ·intro x c e;obtain⟨v,o,ho,hd⟩:=I.cell x c (g x c e);exact⟨v,o,keep c o ho,hd⟩
 ·show aI H s.heap.objs.size (.lst []) C=none;rw[au (qr O)];exact I.hok.fresh (z_ O)
 ·intro x c e;rw[au (ot (B x c e))];exact I.freeC x c (g x c e)
 ·intro p T;obtain⟨e,n,n1,n2,d⟩:=I.pin p T;have lt:=np e;refine⟨keep _ _ e,?_,ot (H_ lt O),λz=>K p.1 z p T rfl,d⟩;rw[au (ot lt)];exact n
 ·show(iG ds k σ).length=W.length;unfold iG;rw[k_,oP,I.len,hN,k_,Md,hk]
def Fe(I:aO X a m H s)(f:∀b∈fp,vz X a H b)(g:aO (X.comp scope x cl C s H fp) a p i j)(r:s.heap.objs.size<C)(l:Heap.SameBut C j.heap h'):aO X a m i {j with heap:=h'}:=by
 have u:=g.base;have d:i C=none:=g.free;have ne:∀b o,s.heap.get? b=some o->b≠C:=λb o e=>ot (H_ (np e) r);have t:Un (jW X.stack) fp H i s.heap h':=by
  refine⟨λb o e n h1 h2=>?_,λb o e n h1 h2=>?_,u.free,λb o e h2=>?_,u.tups,u.frzs,u.tbls⟩
  ·exact(l.2 b (ne b o e)).trans (u.keep b o e n h1 h2)
  ·obtain⟨sl,q⟩:=u.slot b o e n h1 h2;exact⟨sl,(l.2 b (ne b o e)).trans q⟩
  ·obtain⟨v,q⟩:=u.there b o e h2;exact⟨v,(l.2 b (ne b o e)).trans q⟩
 have h:lQ X.prog X.w i h':=λb ob e=>by
  refine(g.hok b ob e).stay (λc y hc q=>(l.2 c ?_).trans q) (λ_ q=>q) λ_ _ q=>q;rintro rfl;rcases hc with rfl|hc
  ·rw[d]at e;cases e
  ·rw[d]at hc;cases hc
 exact I.call' (s':={j with heap:=h'}) g.os t h g.bare λb k=>⟨(f b k).2.2.2.1,(f b k).2.1,(f b k).2.2.2.2.1,(f b k).2.2.2.2.2⟩
def aO.block_gone(I:aO X a d H s)(hn:H C=none)(f:C≠X.env.locals)(h1:X.s₀.heap.objs.size<=C)(h2:∀x c,X.env.cells.lookup x=some c->c≠C)(h3:∀p∈X.pn++a,p.1≠C)(g:Heap.SameBut C s.heap h'):aO X a d H {s with heap:=h'}:=I.turned (t':=s.toks) (λb o h e=>(g.2 b h).trans e) hn f (.inr h1) h2 h3
def ww(N':Of)(ds:Oi)(k:Nat){a:Ob}{s:Shared}{P:St}{H:Hp}{Q:VK}{use:Option (Value->Sem Unit)}{QV:Oa}(hc:X.calm=true)(hi:PI X tg iter wi)(F:∀cl C s₀ H₀ ex,PG (X.comp scope N' cl C s₀ H₀ ex) tg g/\Hf (X.comp scope N' cl C s₀ H₀ ex) R tc/\PE (X.comp scope N' cl C s₀ H₀ ex) a6 te)(hg:GK g js)(hj:∀P:St,P.length=X.N.length->∀j∈js,∀v,(iG ds k P)[j]?≠some (some v))(G:scope.kind=.function)(S:∀y∈scope.names,y.2≠.cell)(aa:∀y∈scope.names,y.2=.local->scope.names.lookup y.1=some .local)(Z:∀y∈scope.names,y.2=.free->X.env.scope.names.lookup y.1=some .cell\/X.env.scope.names.lookup y.1=some .free)(hN:N'=X.N++a7)(hk:a7.length=k)(a8:∀i x,X.N[i]?=some x->scope.names.lookup x=some .local->i∈ds)(hs:∀x,foldedSetIterable iter X.env x=pure x)(I:aO X a P H s)(h:tj wi g ds k tc te P H Q)(fin:∀(D C:Addr)(H':Hp)(s':Shared)(m:Oc),aO X a P H' s'->Q (.ref D) H'->s'.heap.Ns C m->H' C=none->C≠X.env.locals->X.s₀.heap.objs.size<=C->(∀x c,X.env.cells.lookup x=some c->c≠C)->(∀p∈X.pn++a,p.1≠C)->compPost (model X.prog X.w) X.A X.xe use QV (.ref D) C (.ok .next) s'):wpAny (model X.prog X.w) X.A (comprehension (.ListComp a6 [⟨tg,iter,R,0⟩] scope ba) scope X.env (firstIterPos [⟨tg,iter,R,0⟩] ba) (newList []) (firstAsync [⟨tg,iter,R,0⟩]) (firstIter [⟨tg,iter,R,0⟩] X.env) use) QV X.xe s:=by
 have V:∀y∈scope.names,y.2=.free->∃c,X.env.cells.lookup y.1=some c:=λy hy e=>I.ok.has y.1 (Z y hy e);obtain⟨cl,an,bb,bc⟩:=vm V;refine wpAny_comprehension_free (use:=use) rfl hs an G aa (cE (hi a s P H _ I h) λv s1 h1=>cE h1 λc4 l h2=>?_);obtain⟨it,fp,tn,J,H2,e,Y,T,bi,f2,q⟩:=h2;subst e;have da:=Y;obtain⟨W,⟨m0,w0⟩,bl⟩:=q l.heap.objs.size (Y.hok.fresh (f_ _));refine ry (wpAny_newFunctionEnv S (by intro y hy;simp at hy) (λB t hsb₁=>?_) G);dsimp only at t hsb₁⊢;generalize as:l.heap.push {cls:=.type "list",dict:=none,data:=.seq ([]:Od).toArray}=G2 at t hsb₁⊢;have hC:l.heap.objs.size<G2.objs.size:=by rw[<-as,rm];exact wr _
 have keep:∀b o,l.heap.get? b=some o->B.get? b=some o:=λb o e=>hsb₁.extBut b o (ot (H_ (np e) hC)) (c_ _ (as▸c_ _ e))
 have hD:B.get? l.heap.objs.size=some {cls:=.type "list",data:=.seq ([]:Od).toArray 0}:=hsb₁.extBut _ _ (ot hC) (c_ _ (as▸j_ _ rfl));have fo:∀b∈fp,∃o,l.heap.get? b=some o:=λb F=>let⟨o,e,_⟩:=T.obj _ _ bi b F;⟨o,e⟩;obtain⟨bt,bz,bS⟩:=F cl G2.objs.size l H2 fp;generalize f:X.comp scope N' cl G2.objs.size l H2 fp=L at bt bz bS;have xp:L.prog=X.prog:=by rw[<-f];rfl
 have xw:L.w=X.w:=by rw[<-f];rfl
 have xK:L.K=X.K:=by rw[<-f];rfl
 have xA:L.A=X.A:=by rw[<-f];rfl
 have xe:L.xe=λ_ _=>False:=by rw[<-f];rfl
 have E:L.env=compEnvC scope cl G2.objs.size X.env:=by rw[<-f];rfl
 have b0:L.calm=true:=by rw[<-f];exact hc
 have i3:aO L a (iG ds k P) (aI H2 l.heap.objs.size (.lst [])) {l with heap:=B,toks:=l.toks+([]:List (Str×Value)).length}:=by rw[<-f];exact Ff Y f2 fo G S Z bb bc hN hk a8 hC keep t hD
 have b8:tn 0 B:=T.keep _ _ _ bi λb _ o e=>keep b o e;have cO:∀b∈fp,aI H2 l.heap.objs.size (.lst []) b=none:=λb F=>by obtain⟨o,e⟩:=fo b F;rw[au (ot (np e))];exact(f2 b F).1
 have U:∀{H':Hp},(∀b∈fp,H' b=none)->∀b∈fp,vz L a H' b:=λhn b F=>by
  obtain⟨f0,f1,f3,f4,f5,f6⟩:=f2 b F;obtain⟨o,e⟩:=fo b F;refine⟨hn b F,?_,?_,?_,?_,?_⟩
  ·rw[E];exact ot (H_ (np e) hC)
  ·intro z;have z:b∈jW X.stack:=by rw[<-f]at z;exact z
   rcases tA.mp (Y.stkSub b z)with y|y
   ·exact f1 y
   ·exact f3 y
  ·rw[<-f];exact .inl F
  ·intro x c ec;rw[E]at ec;exact f5 x c (bb x c ec)
  ·intro p hp;rw[<-f]at hp;exact f6 p hp
 have al:codeAny (model X.prog X.w) X.A (.compLoop (.ListComp a6 [⟨tg,iter,R,0⟩] scope ba) 0 (.ref it) (.ref l.heap.objs.size) (compEnvC scope cl G2.objs.size X.env)) (compPost (model X.prog X.w) X.A X.xe use QV (.ref l.heap.objs.size) G2.objs.size) {l with heap:=B,toks:=l.toks+([]:List (Str×Value)).length}:=by
  refine ze (λn s'=>∃i M H',aO L a (iG ds k P) H' s'/\tn i s'.heap/\(∀b∈fp,H' b=none)/\W i n M H') ?_ m0 ⟨0,[],_,i3,b8,cO,w0⟩;rintro n s3⟨i,M,H3,I3,b9,cc,w3⟩;rcases bl i n M H3 w3 with⟨stop,qn⟩|⟨go,step⟩
  ·have td:=T.done L xp xw xK b0 i a s3 _ H3 (λ_ _=>False) I3 (U cc) b9 stop;rw[xA]at td;refine cE td λr s4 O=>?_;obtain⟨hr,I4⟩:=O;subst hr;have ac:=I4;rw[<-f]at ac;obtain⟨m',c0,_⟩:=ac.loc;refine fin l.heap.objs.size G2.objs.size H3 s4 m' (Fe (h':=s4.heap) Y f2 ac hC (.refl ..)) qn c0 ac.free (qr (H_ Y.lt hC)) (z_ (sg Y.sz hC)) (λx c e z=>?_) λp hp z=>?_
   ·obtain⟨v,q⟩:=Y.cell x c e;exact absurd (H_ q.lt hC) (by rw[z];exact sm _)
   ·exact absurd (H_ (np (Y.pin p hp).1) hC) (by rw[z];exact sm _)
  ·have ti:=T.item L xp xw xK b0 i a s3 _ H3 (λ_ _=>False) I3 (U cc) b9 go;rw[xA]at ti;refine cE ti λr s4 O=>?_;obtain⟨u,hr,h4⟩:=O;subst hr;refine cE h4 λ_ s5 O=>?_;obtain⟨x,H5,I5,r5,y5,ax,c1⟩:=O;have c2:=I5.pinned (U c1) (T.obj _ _ ax);have pg:=bt _ s5 _ H5 x u _ c2 r5 (hg x _ H5 _ (step x H5 y5));rw[xp,xw,xA,E,xe]at pg;refine cE pg λ_ s6 O=>?_;obtain⟨ad,H6,I6,⟨q6,ci,a5⟩⟩:=O;have again:∀{H7:Hp}{s7:Shared},aO L (a++t5 fp s5.heap) ad H7 s7->aO L a (iG ds k P) H7 s7/\tn (i+1) s7.heap/\∀b∈fp,H7 b=none:=λ{H7 s7}I7=>by
    refine⟨I7.unpinned.weak ci.symm λj v e=>?_,T.keep _ _ _ ax λb F o e=>(I7.pin (b,o) (rd _ (rd _ (lg F e)))).1,λb F=>?_⟩
    ·rw[a5 j λz=>hj P I.len j z v e];exact e
    ·obtain⟨o,e,d⟩:=T.obj _ _ ax b F;exact(I7.pin (b,o) (rd _ (rd _ (lg F e)))).2.1
   have pt:=bz _ s6 ad H6 _ I6 q6;rw[xp,xw,xA,E,xe]at pt;refine cE pt λok s7 O=>?_;obtain⟨H7,I7,q7⟩:=O;cases ok with|false=>obtain⟨m',hm,w7⟩:=q7;obtain⟨a1,a2,a3⟩:=again I7;exact⟨m',hm,i+1,M,H7,a1,a2,a3,w7⟩|true=>have pe:=bS _ s7 ad H7 _ I7 q7;rw[xp,xw,xA,E,xe]at pe;refine cE pe λyv s8 O=>?_;obtain⟨y,H8,I8,r8,c3,cC,m',hm,w8⟩:=O;have ap:=fw (X:=L) _ s8 ad H8 (.ref l.heap.objs.size) [y] _ [yv] (λv H9=>H9=aI H8 l.heap.objs.size (.lst (M++[y]))) I8 rfl (.cons r8 .nil) ⟨_,M,y,rfl,rfl,c3,cC,rfl⟩;rw[xp,xw,xA,xe]at ap;refine cE ap λ_ s9 O=>?_;obtain⟨_,H9,I9,_,e9⟩:=O;subst e9;obtain⟨a1,a2,a3⟩:=again I9;exact⟨m',hm,i+1,M++[y],_,a1,a2,a3,w8⟩
 exact codeAny_compStart_list al (T.self _ 0 _ _ _ b8 al)
def Gp(f:Of)(ds:Oi)(k:Nat)(hc:X.calm=true)(hi:PI X t iter u)(w:∀cl C s₀ H₀ ex,PG (X.comp scope f cl C s₀ H₀ ex) t g/\Hf (X.comp scope f cl C s₀ H₀ ex) o tc/\PE (X.comp scope f cl C s₀ H₀ ex) p te)(hg:GK g z)(A:∀r:St,r.length=X.N.length->∀j∈z,∀v,(iG ds k r)[j]?≠some (some v))(c:scope.kind=.function)(d:∀y∈scope.names,y.2≠.cell)(a:∀y∈scope.names,y.2=.local->scope.names.lookup y.1=some .local)(e:∀y∈scope.names,y.2=.free->X.env.scope.names.lookup y.1=some .cell\/X.env.scope.names.lookup y.1=some .free)(B:f=X.N++l)(E:l.length=k)(n:∀i x,X.N[i]?=some x->scope.names.lookup x=some .local->i∈ds)(F:∀x,foldedSetIterable iter X.env x=pure x:=by intro _;rfl):PE X (.ListComp p [⟨t,iter,o,0⟩] scope G) (tj u g ds k tc te):=by intro b s r H Q I h;rw[eval_ListComp];refine ww f ds k hc hi w hg A c d a e B E n F I h λD C J O m K q hn n1 n2 n3 n4 L=>?_;exact⟨m,hn,λh' M=>⟨.ref D,J,K.block_gone n1 n2 n3 n4 L M,rfl,q⟩⟩
def Gh(r:Of)(ds:Oi)(k:Nat)(F:X.N.Nodup)(G:X.N[i]?=some x)(Q:JV X.env.scope x)(R:X.fn x=true\/X.env.scope.names.lookup x=some .local)(J:swapsWith (.ListComp f [⟨E,iter,l,0⟩] scope t) (some (.Name x c)) u.line X.env=pure true)(hc:X.calm=true)(hi:PI X E iter S)(T:∀cl C s₀ H₀ ex,PG (X.comp scope r cl C s₀ H₀ ex) E g/\Hf (X.comp scope r cl C s₀ H₀ ex) l tc/\PE (X.comp scope r cl C s₀ H₀ ex) f te)(hg:GK g W)(Z:∀L:St,L.length=X.N.length->∀j∈W,∀v,(iG ds k L)[j]?≠some (some v))(n:scope.kind=.function)(o:∀y∈scope.names,y.2≠.cell)(d:∀y∈scope.names,y.2=.local->scope.names.lookup y.1=some .local)(p:∀y∈scope.names,y.2=.free->X.env.scope.names.lookup y.1=some .cell\/X.env.scope.names.lookup y.1=some .free)(hN:r=X.N++w)(hk:w.length=k)(B:∀i x,X.N[i]?=some x->scope.names.lookup x=some .local->i∈ds)(hs:∀x,foldedSetIterable iter X.env x=pure x:=by intro _;rfl):PS X (.Assign [.Name x c] (.ListComp f [⟨E,iter,l,0⟩] scope t) u) (wL (tj S g ds k tc te) (jK i)):=by
 intro b s L H D I h;rw[exec_Assign_Name_used _ _ _ _ J];refine a_ (wpAny_standAt (a_ ?_));show wpAny _ X.A (do let _<-comprehension (.ListComp f [⟨E,iter,l,0⟩] scope t) scope X.env _ (newList []) false (eval iter X.env) (some (assign (.Name x c) X.env))) _ _ s;refine a_ (wpAny_mono (ww (QV:=λ_ K=>SP X b D .next K) (use:=some (assign (.Name x c) X.env)) r ds k hc hi T hg Z n o d p hN hk B hs I h λDa C V K m Y q hn n1 n2 n3 n4 n5=>?_) (λ_ K hq=>e_ (e_ hq)) λ_ _ e=>e)
 show wpAny _ X.A (assign (.Name x c) X.env (.ref Da)) _ _ _;refine wpAny_assign_Name (vG Y F G Q (v:=.ref Da) rfl (λaa M⟨a,sb,ha⟩=>?_) R);have O:C≠a:=by
  rcases ha with z|z
  ·rw[z];exact n2
  ·exactλe=>n4 x a z e.symm
 exact⟨m,hn.sameBut sb O,λh' P=>⟨_,V,M.block_gone n1 n2 n3 n4 n5 P,q⟩⟩
def qL(N0:Of)(ds:Oi)(a scope:Scope):Bool:=scope.kind==.function&&scope.names.all (λy=>!(y.2==.cell)&&(!(y.2==.local)||scope.names.lookup y.1==some .local)&&(!(y.2==.free)||(a.names.lookup y.1==some .cell||a.names.lookup y.1==some .free)))&&N0.zipIdx.all λp=>!(scope.names.lookup p.1==some .local)||ds.contains p.2
def uF{N0:Of}{ds f:Oi}{a scope:Scope}{k:Nat}(ok:qL N0 ds a scope=true)(c:(f.all λj=>ds.contains j||decide (N0.length<=j))=true):(∀d:St,d.length=N0.length->∀j∈f,∀v,(iG ds k d)[j]?≠some (some v))/\scope.kind=.function/\(∀y∈scope.names,y.2≠.cell)/\(∀y∈scope.names,y.2=.local->scope.names.lookup y.1=some .local)/\(∀y∈scope.names,y.2=.free->a.names.lookup y.1=some .cell\/a.names.lookup y.1=some .free)/\(∀i x,N0[i]?=some x->scope.names.lookup x=some .local->i∈ds):=by
 unfold qL at ok;rw[pa,pa]at ok;obtain⟨⟨h1,h2⟩,h3⟩:=ok;have h2:=N2.mp h2;have h3:=N2.mp h3;have c:=N2.mp c;refine⟨?_,(by simpa using h1),?_,?_,?_,?_⟩
 ·intro d m j hm v e;obtain⟨_,g,n⟩:=yY e;have:=c j hm;rw[Bool.or_eq_true]at this;rcases this with z|z
  ·exact g (by simpa using z)
  ·have:=ov z;lia
 ·intro y b e;have:=h2 y b;rw[pa,pa]at this;have z:=this.1.1;rw[e]at z;exact absurd z (by decide)
 ·intro y b e;have:=h2 y b;rw[pa,pa]at this;have z:=this.1.2;rw[e]at z;simpa using z
 ·intro y b e;have:=h2 y b;rw[pa,pa]at this;have z:=this.2;rw[e]at z;simpa using z
 ·intro i x h l;have:=h3 (x,i) (by rw[List.mem_zipIdx_iff_getElem?];exact h);rw[Bool.or_eq_true]at this;rcases this with z|z
  ·rw[l]at z;exact absurd z (by decide)
  ·simpa using z
def G3(N0 a:Of)(ds m:Oi)(c:Scope){d f iter:Expr}{e:Og}{scope:Scope}{h:Pos}{n:TI}{g:TG}{tc:TT}{te:TE}(hc:X.calm=true)(i:X.N=N0)(l:X.env.scope=c)(ok:qL N0 ds c scope=true)(o:(m.all λj=>ds.contains j||decide (N0.length<=j))=true)(hg:GK g m)(hi:PI X f iter n)(p:∀cl C s₀ H₀ ex,PG (X.comp scope (N0++a) cl C s₀ H₀ ex) f g/\Hf (X.comp scope (N0++a) cl C s₀ H₀ ex) e tc/\PE (X.comp scope (N0++a) cl C s₀ H₀ ex) d te)(q:∀x,foldedSetIterable iter X.env x=pure x:=by intro _;rfl):PE X (.ListComp d [⟨f,iter,e,0⟩] scope h) (tj n g ds a.length tc te):=by subst i;subst l;obtain⟨h1,h2,h3,h4,h5,h6⟩:=uF ok o;exact Gp (X.N++a) ds a.length hc hi p hg h1 h2 h3 h4 h5 rfl rfl h6 q
def Fd(N0 a:Of)(ds s:Oi)(e:Scope){i:Nat}{x:Str}{c d:Pos}{f m iter:Expr}{h:Og}{scope:Scope}{l:Pos}{t:TI}{g:TG}{tc:TT}{te:TE}(hc:X.calm=true)(n:X.N=N0)(o:X.env.scope=e)(ok:qL N0 ds e scope=true)(v:(s.all λj=>ds.contains j||decide (N0.length<=j))=true)(hg:GK g s)(hi:PI X m iter t)(w:∀cl C s₀ H₀ ex,PG (X.comp scope (N0++a) cl C s₀ H₀ ex) m g/\Hf (X.comp scope (N0++a) cl C s₀ H₀ ex) h tc/\PE (X.comp scope (N0++a) cl C s₀ H₀ ex) f te)(p:N0.Nodup)(q:N0[i]?=some x:=by rfl)(u:e.names.lookup x=some .local:=by rfl)(r:swapsWith (.ListComp f [⟨m,iter,h,0⟩] scope l) (some (.Name x c)) d.line X.env=pure true:=by rfl)(y:∀x,foldedSetIterable iter X.env x=pure x:=by intro _;rfl):PS X (.Assign [.Name x c] (.ListComp f [⟨m,iter,h,0⟩] scope l) d) (wL (tj t g ds a.length tc te) (jK i)):=by subst n;subst o;obtain⟨h1,h2,h3,h4,h5,h6⟩:=uF ok v;exact Gh (X.N++a) ds a.length p q (.inl u) (.inr u) r hc hi w hg h1 h2 h3 h4 h5 rfl rfl h6 y
end
end L2
namespace L2
open PySem PySem.Spec PyProof.Rows
section
variable{X:Cx}
def zi:dw X (.builtin "isinstance") (λa H Q=>∃x T t b,a=[x,.ty T]/\kW X.K H x t/\PySem.W.kitOne X.K t (.type T)=some b/\Q (.bl b) H):=by intro c s g H a i Q I r h;obtain⟨x,T,t,b,rfl,ty,e,q⟩:=h;obtain⟨u,d,rfl,f,rt⟩:=vC r;obtain rfl:d=Value.type T:=rt;exact Ck I f ty e λtk=>⟨.bl b,H,I.tok tk,rfl,q⟩
def wz{bs:List Bool}{a:Od}(r:bf (bs.map V.bl) a){i:Nat}{v:Value}(h:a[i]?=some v):∃b,bs[i]?=some b/\v=.bool b:=by
 have d:=r.length;rw[b_]at d;have hi:i<a.length:=(d_.mp h).1;have c:bs[i]?=some bs[i]:=by simp
 obtain⟨u,h1,h2⟩:=r.get (i:=i) (x:=.bl bs[i]) (by rw[i_,c];rfl);rw[h]at h1;cases h1;exact⟨bs[i],c,h2⟩
def BW{bs:List Bool}:((List.range bs.length).all λi=>bs.getD i true)=bs.all id:=by induction bs with|nil=>rfl|cons b r a=>
  rw[pw,List.range_succ_eq_map,MK,List.all_map,MK]
  congr 1
def BV{bs:List Bool}:((List.range bs.length).any λi=>bs.getD i true)=bs.any id:=by induction bs with|nil=>rfl|cons b r a=>
  rw[pw,List.range_succ_eq_map,J_,List.any_map,J_]
  congr 1
def EI{A:Around}(h:A.handled=none):A.in1.handled=none:=h
def CI(hc:X.calm=true):dw X (.builtin "all") (λg H Q=>∃(p:Addr)(bs:List Bool),g=[.ref p]/\aY X.K H p (bs.map V.bl)/\Q (.bl (bs.all id)) H):=by
 intro j s A H g B Q I r h;obtain⟨p,bs,rfl,m,q⟩:=h;obtain⟨u,rfl,t⟩:=j5 r;cases t;obtain⟨a,k,pl,C⟩:=I.list m;refine call_all_walk (M0 pl.isList ?_);have d:p≠s.heap.objs.size:=ot (by obtain⟨o,n,e,_⟩:=pl;exact np e);have l:=k.length;rw[b_]at l;refine⟨s.heap.objs.size,_,_,_,_,_,λi=>bs.getD i true,rfl,Walks.list (EI (I.ok.hd hc)) s.heap.objs.size p d a.toArray,⟨⟨_,j_ _ rfl,rfl,rfl⟩,?_⟩,?_,?_⟩
 ·exact pl.isList.push _
 ·intro i v w x D f c;have f:a.toArray[i]?=some v:=f;obtain⟨b,y,rfl⟩:=wz k (i:=i) (v:=v) (by simpa using f);refine s_ ?_;have e:bs.getD i true=b:=by simp[List.getD,y]
  have c:x (bs.getD i true) w:=c;rw[e]at c;exact c
 ·intro h' tk z;have e:((List.range a.toArray.size).all λi=>bs.getD i true)=bs.all id:=by rw[n_,<-l,BW]
  rw[e];exact⟨.bl _,H,I.kept (h':=h') (t':=tk) λb o e=>z b o (by simp[ot (np e)]) (c_ _ e),rfl,q⟩
def CH(hc:X.calm=true):dw X (.builtin "any") (λg H Q=>∃(p:Addr)(bs:List Bool),g=[.ref p]/\aY X.K H p (bs.map V.bl)/\Q (.bl (bs.any id)) H):=by
 intro j s A H g B Q I r h;obtain⟨p,bs,rfl,m,q⟩:=h;obtain⟨u,rfl,t⟩:=j5 r;cases t;obtain⟨a,k,pl,C⟩:=I.list m;refine call_any_walk (M0 pl.isList ?_);have d:p≠s.heap.objs.size:=ot (by obtain⟨o,n,e,_⟩:=pl;exact np e);have l:=k.length;rw[b_]at l;refine⟨s.heap.objs.size,_,_,_,_,_,λi=>bs.getD i true,rfl,Walks.list (EI (I.ok.hd hc)) s.heap.objs.size p d a.toArray,⟨⟨_,j_ _ rfl,rfl,rfl⟩,?_⟩,?_,?_⟩
 ·exact pl.isList.push _
 ·intro i v w x D f c;have f:a.toArray[i]?=some v:=f;obtain⟨b,y,rfl⟩:=wz k (i:=i) (v:=v) (by simpa using f);refine s_ ?_;have e:bs.getD i true=b:=by simp[List.getD,y]
  have c:x (bs.getD i true) w:=c;rw[e]at c;exact c
 ·intro h' tk z;have e:((List.range a.toArray.size).any λi=>bs.getD i true)=bs.any id:=by rw[n_,<-l,BV]
  rw[e];exact⟨.bl _,H,I.kept (h':=h') (t':=tk) λb o e=>z b o (by simp[ot (np e)]) (c_ _ e),rfl,q⟩
def Hi(x:Str):It:=⟨λi _=>i<x.cps.size,λi H y a=>a=H/\∃c,x.cps[i]?=some c/\y=.str ⟨#[c]⟩,λi _=>x.cps.size<=i⟩
def CV{P:Oe}{w:World}{K:N_}{L:Expr}(a:Addr)(x:Str)(t:Tok)(f:String)(hn:["enumerate","zip","dict_itemiterator","dict_reverseitemiterator","odict_iterator","itertools.zip_longest","itertools.pairwise"].contains f=false)(W:∀A:Around,A.handled=none->Walks P w A a [a] [a] x.cps.size (SignAt x) (λi h=>h.IsStrIter a f x t i))(S:∀(A:Around)(i:Nat)(s:Shared)(Q:Oa)(E:Oa),s.heap.IsStrIter a f x t i->Q (.ref a) s->wpAny (model P w) A (pyIter (.ref a)) Q E s):vw P w K L (Hi x) [a] a (λi h=>i<=x.cps.size/\h.IsStrIter a f x t i)where
 mem:=by simp
 obj:=λi h st b j=>by
  have e:b=a:=by simpa using j
  subst e;obtain⟨_,o,e,c,d⟩:=st;exact⟨o,e,λv z=>by rw[d]at z;cases z⟩
 keep:=λi h h' st k=>by obtain⟨l,o,e,r⟩:=st;exact⟨l,o,k a (by simp) o e,r⟩
 item:=by intro X p q y hc i g s J H E I n st hg;subst p q y;obtain⟨B,f1,f2,f3,C,D⟩:=n a (by simp);refine(W X.A (I.ok.hd hc)).item i s _ _ hg st.2 λv h' tk M m F=>?_;obtain⟨c,u,G,rfl⟩:=M;have I1:aO X g J H {s with heap:=h',toks:=tk}:=I.turned (λb o j e=>F b o (by simpa using j) e) B f1 f3 C D;obtain⟨o,e,N,d⟩:=id m;have O:i<x.cps.size:=hg;exact⟨_,rfl,wg (s:={s with heap:=h',toks:=tk}) e N d hn ⟨.str ⟨#[c]⟩,H,I1,⟨u,rfl⟩,⟨rfl,c,G,rfl⟩,⟨by omega,m⟩,λb j=>(n b j).1⟩⟩
 done:=by intro X p q y hc i g s J H E I n st hg;subst p q y;obtain⟨B,f1,f2,f3,C,D⟩:=n a (by simp);have e:i=x.cps.size:=N5 st.1 hg;subst e;exact(W X.A (I.ok.hd hc)).done s _ _ st.2 λh' tk F=>⟨rfl,I.turned (λb o j e=>F b o (by simpa using j) e) B f1 f3 C D⟩
 self:=λA i s Q E st h=>S A i s Q E st.2 h
def LO(a:TE):TI:=λb H R=>a b H λv c=>∃x,v=.str x/\R (Hi x) c
def DS{g l:Expr}{j:TE}(n:PE X l j):PI X g l (LO j):=by
 intro d s k H R I h;refine cE (n d s k H _ I h) λv a p=>?_;obtain⟨y,r,I1,u,z⟩:=p;obtain⟨x,e,q⟩:=z;subst e;obtain⟨t,rfl⟩:=u;have fin:∀(c:String)(ob:Obj),(["enumerate","zip","dict_itemiterator","dict_reverseitemiterator","odict_iterator","itertools.zip_longest","itertools.pairwise"].contains c=false)->(∀A:Around,A.handled=none->Walks X.prog X.w A a.heap.objs.size [a.heap.objs.size] [a.heap.objs.size] x.cps.size (SignAt x) (λi h=>h.IsStrIter a.heap.objs.size c x t i))->(∀(A:Around)(i:Nat)(s:Shared)(Q:Oa)(E:Oa),s.heap.IsStrIter a.heap.objs.size c x t i->Q (.ref a.heap.objs.size) s->wpAny (model X.prog X.w) A (pyIter (.ref a.heap.objs.size)) Q E s)->(a.heap.push ob).IsStrIter a.heap.objs.size c x t 0->LW X d k g R (.ref a.heap.objs.size) {a with heap:=a.heap.push ob}:=λc ob h1 h2 h3 h4=>by
  refine⟨a.heap.objs.size,[a.heap.objs.size],_,Hi x,r,rfl,I1.kept (t':=a.toks) λb o e=>c_ _ e,CV _ x t c h1 h2 h3,⟨o_ _,h4⟩,λb B=>?_,q⟩;have e:b=a.heap.objs.size:=by simpa using B
  subst e;exact I1.fpOk (f_ _) (I1.hok.fresh (f_ _))
 cases m:x.cps.all (·<128)
 ·exact wpAny_pyIter_wide m (fin "str_iterator" _ (by decide) (λA f=>Walks.strWide f _ x t) (λA i s Q E st h=>wpAny_pyIter_striter_wide st h) ⟨_,j_ _ rfl,rfl,rfl⟩)
 ·exact wpAny_pyIter_ascii m (fin "str_ascii_iterator" _ (by decide) (λA f=>Walks.strAscii f _ x t) (λA i s Q E st h=>wpAny_pyIter_striter_ascii st h) ⟨_,j_ _ rfl,rfl,rfl⟩)
def GY{x:Str}{g:TG}{l:TS}{D:j3}{a:St}{H:Hp}(Pv:Nat->St->Hp->Prop)(h0:Pv 0 a H)(o:∀i c a H,x.cps.toList[i]?=some c->Pv i a H->g (.str ⟨#[c]⟩) a H λd j=>l {D with nx:=Pv (i+1),ct:=Pv (i+1),bk:=D.nx} d j)(hd:∀a H,Pv x.cps.toList.length a H->D.nx a H):∃W:Nat->Nat->St->Hp->Prop,(∃m,W 0 m a H)/\∀i m a H,W i m a H->((Hi x).stop i H/\D.nx a H)\/((Hi x).go i H/\∃N:St->Hp->Prop,(∀f h,N f h->∃n,n<m/\W (i+1) n f h)/\∀y h,(Hi x).yld i H y h->g y a h λd j=>l {D with nx:=N,ct:=N,bk:=D.nx} d j):=by
 have k:x.cps.toList.length=x.cps.size:=by simp
 refine⟨λi m a H=>m=x.cps.size-i/\i<=x.cps.size/\Pv i a H,⟨x.cps.size,by simp,o_ _,h0⟩,?_⟩;rintro i m a H⟨rfl,hi,p⟩
 by_cases b:i<x.cps.size
 ·refine .inr ⟨b,Pv (i+1),λf h q=>⟨x.cps.size-(i+1),by omega,rfl,b,q⟩,λy h r=>?_⟩;obtain⟨e,c,hc,rfl⟩:=r;subst e;exact o i c a _ (by simpa using hc) p
 ·have e:i=x.cps.size:=by omega
  subst e;exact .inl ⟨f_ _,hd a H (by rw[k];exact p)⟩
def IO:V->List V->Hp->VK->Prop:=λx a H Q=>∃z y i r,x=.str z/\a=[.str y]/\Builtin.Str.occurrences z y 0 z.length 1=i::r/\Q (.int (i:Nat)) H
def Ec:LY X "str.index" IO:=by intro a s e H x f v g Q I b c h;obtain⟨z,y,i,r,rfl,rfl,d,q⟩:=h;obtain⟨t,rfl⟩:=b;obtain⟨u,rfl,j,rfl⟩:=j5 c;exact SC.index d ⟨.int _,H,I.tok _,⟨_,rfl⟩,q⟩
end
end L2
namespace L2
open PySem PySem.Spec PyProof.Rows
section
variable{X:Cx}(K:N_)(c:X.K=K)
include c
def aJ:dw X (.builtin "len") (λa H Q=>∃x n,a=[x]/\Lj K x H n/\Q (.int n) H):=by subst c;exact Fh
def nj:dw X (.builtin "isinstance") (λa H Q=>∃x T t b,a=[x,.ty T]/\kW K H x t/\PySem.W.kitOne K t (.type T)=some b/\Q (.bl b) H):=by subst c;exact zi
def iW(hc:X.calm=true):dw X (.builtin "all") (λa H Q=>∃(p:Addr)(bs:List Bool),a=[.ref p]/\aY K H p (bs.map V.bl)/\Q (.bl (bs.all id)) H):=by subst c;exact CI hc
def qN(hc:X.calm=true):dw X (.builtin "any") (λa H Q=>∃(p:Addr)(bs:List Bool),a=[.ref p]/\aY K H p (bs.map V.bl)/\Q (.bl (bs.any id)) H):=by subst c;exact CH hc
def EE:J7 X (IN K):=by subst c;exact GQ
def GP:J7 X (IM K):=by subst c;exact Jo
def tD:J5 X (Kz K):=by subst c;exact Gc
def AU:J5 X (Ky K):=by subst c;exact IF
def oE:lz X (compareOp .In) (rIn K false):=by subst c;exact B0
def uc:lz X (binaryOp .Add) (Hu K):=by subst c;exact Gu
def Ay:dw X (.type "list") (λd H Q=>∃p a,d=[.ref p]/\(aY K H p a\/aS K H p a)/\∀l,H l=none->Q (.ref l) (aI H l (.lst a))):=by subst c;exact xx
def dY:dw X (.type "tuple") (λd H Q=>∃p a,d=[.ref p]/\((aY K H p a/\∀l,H l=none->Q (.ref l) (aI H l (.tup a)))\/(aS K H p a/\Q (.ref p) H))):=by subst c;exact vn
def c7{d l:Expr}{a:TE}(e:PE X l a):PI X d l (Hy K a):=by subst c;exact Gk e
def ie{d l:Expr}{a:TE}(e:PE X l a):PI X d l (K1 K a):=by subst c;exact IR e
def aQ{a:Expr}{e:TE}(g:PE X a e)(h:∀d,isTrue a X.env d=(do let v<-d;standAt a.pos;holding [v] (truthy v))):PT X a (λi H Q=>e i H λx f=>∃k,JK K x f k/\Q k f):=by subst c;exact DP g h
def gq{f:Og}{k:Nat}{a:Pos}{t:J4}{n:Nat}(hc:X.calm=true)(h:JP X f t)(hn:(assignEach f X.env).length=n:=by rfl)(d:(assignEach f X.env).findIdx? (·.1)=none:=by rfl):PG X (.Tuple f k a) (Jr K n t):=by subst c;exact IS hc h hn d
variable{o e:Expr}{f:Og}{j:TE}{t:TA}{g:Str}{i d:Pos}{T id:String}{r:V->List V->Hp->VK->Prop}
def jc(p:PlainAttrs T)(slot:Slot T g id)(n:typeOf (.builtin id)=pure (.type "method_descriptor"))(hm:LY X id r)(q:PE X o j)(s:PA X (e::f) t)(h:attributeBase o g X.env (eval o X.env)=eval o X.env:=by rfl)(m:((backTo d (starEach (e::f) X.env)).all (λx=>!x.1)&&(backToKw d (keywordEach [] X.env)).all (λx=>x.1.isSome)&&decide ((e::f).length+([]:List Keyword).length+(if([]:List Keyword).isEmpty then 0 else 1)<30))=true:=by rfl)(l:(i.endLine==d.line)=true:=by rfl)(u:starEach (e::f) X.env=(false,eval e X.env)::starEach f X.env:=by rfl)(a:(backTo d (starEach f X.env)).any (·.1)=false:=by rfl):PE X (.Call (.Attribute o g i) (e::f) [] d) (tBM K T r j t):=by subst c;exact KH p slot n hm q s h m l u a
end
end L2
namespace L2
open PySem PySem.Spec PyProof.Rows
def aL:bootBuiltins "len"=some (.builtin "len"):=by decide+kernel
def Fk:bootBuiltins "max"=some (.builtin "max"):=by decide+kernel
def uL:bootBuiltins "min"=some (.builtin "min"):=by decide+kernel
def bp:bootBuiltins "isinstance"=some (.builtin "isinstance"):=by decide+kernel
def kS:bootBuiltins "all"=some (.builtin "all"):=by decide+kernel
def uN:bootBuiltins "any"=some (.builtin "any"):=by decide+kernel
def zn:bootBuiltins "divmod"=some (.builtin "divmod"):=by decide+kernel
def rN:bootBuiltins "sorted"=some (.builtin "sorted"):=by decide+kernel
def Fj:bootBuiltins "sum"=some (.builtin "sum"):=by decide+kernel
def Fl:bootBuiltins "int"=some (.type "int"):=by decide+kernel
def zm:bootBuiltins "str"=some (.type "str"):=by decide+kernel
def CK:bootBuiltins "bool"=some (.type "bool"):=by decide+kernel
def qP:bootBuiltins "list"=some (.type "list"):=by decide+kernel
def bP:bootBuiltins "tuple"=some (.type "tuple"):=by decide+kernel
def uK:bootBuiltins "set"=some (.type "set"):=by decide+kernel
def uM:bootBuiltins "enumerate"=some (.type "enumerate"):=by decide+kernel
def Fi:bootBuiltins "zip"=some (.type "zip"):=by decide+kernel
def vp:bootBuiltins "reversed"=some (.type "reversed"):=by decide+kernel
section
variable{X:Cx}
def lG(hg:Gl X x)(hm:X.mg x=none)(a:bootBuiltins x=some (.type T))(hn:x≠"__name__":=by decide)(hd:(x==("__debug__":Str))=false:=by decide):PE X (.Name x c) (tC (.ty T)):=Gq hg hm a rfl hn hd
def cn(hm:∃u,X.mg x=some u/\bd v u)(hg:Gl X x)(hd:(x==("__debug__":Str))=false:=by decide):PE X (.Name x a) (tC v):=by obtain⟨u,h1,h2⟩:=hm;exact A8 hg h1 h2 hd
end
def fJ{K:N_}{A B:String}{b:Bool}(h:(if((Value.type A)==.type B)=true then some true else if PySem.W.kitMeta B=true then(fastBuiltinMro A).map (·.contains (.type B))else none)=some b):PySem.W.kitOne K (.type A) (.type B)=some b:=h
def kN{i j:Int}{A B:Prop}(h1:i=j->A)(h2:i≠j->B):if decide (V.int i=V.int j)=true then A else B:=by
 by_cases h:i=j
 ·subst h;rw[ol rfl];exact bo (h1 rfl)
 ·rw[op (λe=>h (V.int.inj e))];exact bX (h2 h)
def lO{c:Prop}[Decidable c]{A B:Prop}(h1:c->A)(h2:¬c->B):if decide c=true then A else B:=by
 by_cases h:c
 ·rw[ol h];exact bo (h1 h)
 ·rw[op h];exact bX (h2 h)
def xl{b:Bool}{A B:Prop}(h1:b=true->A)(h2:b=false->B):if b=true then A else B:=by cases b with|true=>exact bo (h1 rfl)|false=>exact bX (h2 rfl)
def av(h:F (a.set j (some x)) H):jK j x a H F:=h
def iZ(h:F true H):Kb a H F:=h
def Je(h:aI H a o b=none):b≠a/\H b=none:=by
 by_cases e:b=a
 ·rw[e,ag]at h;cases h
 ·rw[au e]at h;exact⟨e,h⟩
def bJ(i:Int){n:Int}(h:0<n):0<=i%n/\i%n<n:=⟨MA _ (by lia),MC _ h⟩
def Jh(x:Int):Builtin.bitAnd x 2147483647=x%2147483648:=PySem.W.kbt_mask x 31
end L2
namespace L2
open PySem PySem.Spec PyProof.Rows
section
variable{X:Cx}
def LH:V->Option Int->Option Int->Hp->VK->Prop:=λx lo hi H Q=>∃z,x=.str z/\z.length<=sizeLine/\Q (.str (Txt.slice z lo hi)) H
def wN:J5 X LH:=by intro a s g H x v n o lo hi sl Q I m b pl d h;obtain⟨z,rfl,c,q⟩:=h;obtain⟨t,rfl⟩:=m;refine⟨"str",_,F.slot_str_getitem.lookup,typeIs_str _ _ _,?_⟩;have fin:∀(e:Tok)(k:Nat),EP X a g Q (.str (Txt.slice z lo hi) e) {s with toks:=k}:=λe k=>⟨.str _,H,I.tok k,⟨_,rfl⟩,q⟩;cases pl with
 |none=>cases d with|none=>exact ME (l:=none) (u:=none) (st:=none) b rfl (Nu ⟨n7 (Txt.slice_le z _ _) c,fin⟩)|int j u=>exact ME (l:=none) (u:=some (j,u)) (st:=none) b rfl (Nu ⟨n7 (Txt.slice_le z _ _) c,fin⟩)
 |int i f=>cases d with|none=>exact ME (l:=some (i,f)) (u:=none) (st:=none) b rfl (Nu ⟨n7 (Txt.slice_le z _ _) c,fin⟩)|int j u=>exact ME (l:=some (i,f)) (u:=some (j,u)) (st:=none) b rfl (Nu ⟨n7 (Txt.slice_le z _ _) c,fin⟩)
end
end L2
namespace L2
open PySem PySem.Spec PyProof.Rows
def HH{c:Bool}{t u:TS}{D:j3}{a:St}{H:Hp}(J:St->Hp->Prop)(h1:∀a H,J a H->D.nx a H)(h2:∀N:St->Hp->Prop,(∀a H,J a H->N a H)->if c=true then t {D with nx:=N} a H else u {D with nx:=N} a H):if c=true then t D a H else u D a H:=h2 D.nx h1
def lP(h:D.nx a H):x4 D a H:=h
def ak(h:aq c H)(hn:H a=none):aq c (aI H a o):=λb d f=>by have e:=h b d f;rw[au (aH e hn)];exact e
def uQ(h0:0<=i)(h1:i<xs.length):∃c,vq xs i=some c/\c∈xs:=by refine⟨xs[i.toNat]'(by lia),?_,t_ _⟩;unfold vq GS;rw[mo h0,mo h1];show xs[i.toNat]?=_;rw[h_ (by lia)]
def cH{n:Nat}(h:n<=65536):n<=sizeLine:=by rw[nk];lia
mutual
inductive AI(K:N_)(H:Hp):V->PyData->Prop|non:AI K H .non .none|bl(b:Bool):AI K H (.bl b) (.bool b)|int(i:Int):AI K H (.int i) (.int i)|str(x:Str):AI K H (.str x) (.str x)|lst{a:Addr}{xs:List V}{ds:List PyData}:aY K H a xs->IsPs K H xs ds->AI K H (.ref a) (.list ds)|tup{a:Addr}{xs:List V}{ds:List PyData}:aS K H a xs->IsPs K H xs ds->AI K H (.ref a) (.tuple ds)
inductive IsPs(K:N_)(H:Hp):List V->List PyData->Prop|nil:IsPs K H [] []|cons{v:V}{d:PyData}{vs:List V}{ds:List PyData}:AI K H v d->IsPs K H vs ds->IsPs K H (v::vs) (d::ds)
end
section
variable{X:Cx}{c:Ob}{f:St}{H:Hp}{s:Shared}
mutual
theorem AI.reads(I:aO X c f H s):∀{v:V}{d:PyData}{u:Value},AI X.K H v d->bd v u->∃g,Reads s.heap u d g|_,_,_,.non,r=>by obtain rfl:_=Value.none:=r;exact⟨_,.none⟩|_,_,_,.bl b,r=>by obtain rfl:_=Value.bool b:=r;exact⟨_,.bool b⟩|_,_,_,.int i,r=>by obtain⟨t,rfl⟩:=r;exact⟨_,.int i t⟩|_,_,_,.str x,r=>by obtain⟨t,rfl⟩:=r;exact⟨_,.str x t⟩|_,_,_,.lst (a:=a) h j,r=>by obtain rfl:_=Value.ref a:=r;obtain⟨k,l,⟨o,n,e,hc,_,hd⟩,_⟩:=I.list h;obtain⟨g,q⟩:=IsPs.reads I j l;exact⟨_,.list e hc hd (by simpa using q)⟩|_,_,_,.tup (a:=a) h j,r=>by obtain rfl:_=Value.ref a:=r;obtain⟨k,l,⟨o,e,hc,n,hd⟩,_⟩:=I.tuple h;obtain⟨g,q⟩:=IsPs.reads I j l;exact⟨_,.tuple e hc hd (by simpa using q)⟩
theorem IsPs.reads(I:aO X c f H s):∀{a:List V}{ds:List PyData}{d:Od},IsPs X.K H a ds->bf a d->∃e,ReadsAll s.heap d ds e|_,_,_,.nil,r=>by cases r;exact⟨_,.nil⟩|_,_,_,.cons h b,r=>by cases r with|cons g r2=>obtain⟨e,q⟩:=AI.reads I h g;obtain⟨bs,p⟩:=IsPs.reads I b r2;exact⟨_,.cons q p⟩
end
end
section
variable{X:Cx}
def KD(K:N_):R2:=λx y H Q=>∃d e,AI K H x d/\AI K H y e/\SeqAt.shaped d=true/\SeqAt.shaped e=true/\Q (.bl (PyData.eqv d e)) H
def IZ(c:X.A.units+64<cLine):lz X (compareOp .Eq) (KD X.K):=by intro a s i H x y v u Q I b f h;obtain⟨d,e,h1,h2,h3,h4,q⟩:=h;obtain⟨j,g⟩:=h1.reads I b;obtain⟨bs,r2⟩:=h2.reads I f;exact eq_dataH g r2 h3 h4 c ⟨.bl _,H,I,rfl,q⟩
def LP{A:Around}{k:Nat}(a:eZ k A):A.units+64<cLine:=by have:=a.un;lia
def Gs(K:N_)(a:X.K=K)(c:X.A.units+64<cLine):lz X (compareOp .Eq) (KD K):=by subst a;exact IZ c
def Fg(hc:X.calm=true):dw X (.builtin "sum") (λa H Q=>∃(p:Addr)(ns:Ol),a=[.ref p]/\(aY X.K H p (ns.map V.int)\/aS X.K H p (ns.map V.int))/\Q (.int ns.sum) H):=by
 intro j s o H a t Q I r h;obtain⟨p,ns,rfl,d,q⟩:=h;obtain⟨u,rfl,l⟩:=j5 r;cases l;have k:∀{b:Od},bf (ns.map V.int) b->∃a:Array (Int×Tok),b.toArray=intItems a/\preSum (numAt a) a.size=ns.sum:=λf=>by
  have hi:IntsAre _ ns:=Ak f;obtain⟨a,c⟩:=hi.allInts.items;refine⟨a,c,?_⟩;have m:ns=a.toList.map (·.1):=by rw[<-nums_intItems,<-c];exact hi.numsOf.symm
  rw[preSum_eq,oD (by simp),m]
 rcases d with d|d
 ·obtain⟨b,f,pl,n⟩:=I.list d;obtain⟨a,c,e⟩:=k f;refine sum_intListG (I.ok.hd hc) (xs:=a) (c▸pl.isList) λh' tk g i=>?_;rw[e];exact⟨.int _,H,I.kept (h':=h') (t':=tk) i,⟨_,rfl⟩,q⟩
 ·obtain⟨b,f,pt,n⟩:=I.tuple d;obtain⟨a,c,e⟩:=k f;refine PySem.W.ktm_sumG (I.ok.hd hc) (xs:=a) (c▸pt) λh' tk g i=>?_;rw[e];exact⟨.int _,H,I.kept (h':=h') (t':=tk) i,⟨_,rfl⟩,q⟩
def CC(K:N_)(a:X.K=K)(hc:X.calm=true):dw X (.builtin "sum") (λc H Q=>∃(p:Addr)(ns:Ol),c=[.ref p]/\(aY K H p (ns.map V.int)\/aS K H p (ns.map V.int))/\Q (.int ns.sum) H):=by subst a;exact Fg hc
end
section
variable{X:Cx}
end
def bv(h:aq d H)(hn:d a=none):aq d (aI H a o):=λb f c=>by
 have:b≠a:=λe=>by rw[e,hn]at c;cases c
 rw[au this];exact h b f c
def am{a:Type}{c:List a}{k:Nat}{v:a}(h:c[k]?=some v):vq c (k:Int)=some v:=by have b:=(d_.mp h).1;unfold vq GS;rw[mo (by lia),mo (by lia)];exact h
def nq{ns:Ol}{k:Int}(h0:0<=k)(h1:k<ns.length):vq (ns.map V.int) k=some (.int (ns.getD k.toNat 0)):=by obtain⟨n,rfl⟩:∃n:Nat,k=n:=⟨k.toNat,by lia⟩;refine am ?_;rw[i_,h_ (by lia)];simp only[sf,List.getD,h_ (show n<ns.length by lia)];rfl
def GR{n:Nat}{k:Int}(h0:0<=k)(h1:k<n):GS n k=some k.toNat:=by unfold GS;rw[mo h0,mo h1]
def yR(ns:Ol)(j:Nat)(v:Int):(ns.map V.int).set j (.int v)=(ns.set j v).map V.int:=by rw[List.map_set]
def aq.tseq{K:N_}{H c:Hp}{a:Addr}{d:List V}(e:aq H c)(h:aS K H a d):aS K c a d:=by
 rcases h with h|h
 ·rcases h with h|⟨o,h⟩
  ·exact .inl (.inl (e _ _ h))
  ·exact .inl (.inr ⟨o,e _ _ h⟩)
 ·exact .inr h
@[irreducible]def cJ:Int:=10^(30:Int).toNat
def xZ:cJ=10^(30:Int).toNat:=by unfold cJ;rfl
def ql:1000000000000000000<cJ:=by rw[xZ];decide+kernel
section
variable{X:Cx}
def ub:lz X (binaryOp .Pow) (λx y H Q=>x=.int 10/\y=.int 30/\Q (.int cJ) H):=by intro a s b H x y v u Q I c d h;obtain⟨rfl,rfl,q⟩:=h;rw[xZ]at q;exact DV a s b H _ _ v u Q I c d ⟨10,30,rfl,rfl,⟨by decide,by decide,by decide⟩,q⟩
end
def lf{n i:Nat}{P:Prop}(hi:i<n)(h:P):∃a,a<n-i/\a=n-(i+1)/\i+1<=n/\P:=⟨_,by lia,rfl,hi,h⟩
def ff{K:N_}{lo:Int}{n:Nat}{g:TG}{ds:Oi}{k:Nat}{tc:TT}{te:TE}{r:St}{s:Hp}{D:Addr}{F:Hp->Prop}(Pv:Nat->List V->Hp->Prop)(h0:Pv 0 [] (aI s D (.lst [])))(t:∀i a c,i<n->Pv i a c->g (.int (lo+i)) (iG ds k r) c λd o=>tc d o λb h=>if b=true then te d h λy j=>j D=some (.lst a)/\a.length<sizeLine/\∃f,f<n-i/\f=n-(i+1)/\i+1<=n/\Pv (i+1) (a++[y]) (aI j D (.lst (a++[y])))else∃f,f<n-i/\f=n-(i+1)/\i+1<=n/\Pv (i+1) a h)(hd:∀a c,Pv n a c->F c):∃W:Nat->Nat->List V->Hp->Prop,(∃m,W 0 m [] (aI s D (.lst [])))/\∀i m a c,W i m a c->((Fz lo n).stop i c/\F c)\/((Fz lo n).go i c/\∀x q,(Fz lo n).yld i c x q->g x (iG ds k r) q λd o=>tc d o λb h=>if b=true then te d h λy j=>j D=some (.lst a)/\a.length<sizeLine/\∃f,f<m/\W (i+1) f (a++[y]) (aI j D (.lst (a++[y])))else∃f,f<m/\W (i+1) f a h):=by
 refine⟨λi m a c=>m=n-i/\i<=n/\Pv i a c,⟨_,rfl,o_ _,h0⟩,?_⟩;rintro i m a c⟨rfl,hi,p⟩
 by_cases l:i<n
 ·refine .inr ⟨l,λx q y=>?_⟩;obtain⟨e,y⟩:=y;subst e y;exact t i a _ l p
 ·have e:i=n:=by lia
  subst e;exact .inl ⟨f_ _,hd a c p⟩
def gR{K:N_}{a:Addr}{xs:List V}{g:TG}{ds:Oi}{k:Nat}{tc:TT}{te:TE}{s:St}{t:Hp}{D:Addr}{F:Hp->Prop}(Pv:Nat->List V->Hp->Prop)(h0:Pv 0 [] (aI t D (.lst [])))(u:∀i c d,i<=xs.length->Pv i c d->aY K d a xs)(v:∀i x c d,xs[i]?=some x->Pv i c d->g x (iG ds k s) d λf n=>tc f n λb j=>if b=true then te f j λy l=>l D=some (.lst c)/\c.length<sizeLine/\∃h,h<xs.length-i/\h=xs.length-(i+1)/\i+1<=xs.length/\Pv (i+1) (c++[y]) (aI l D (.lst (c++[y])))else∃h,h<xs.length-i/\h=xs.length-(i+1)/\i+1<=xs.length/\Pv (i+1) c j)(hd:∀c d,Pv xs.length c d->F d):∃W:Nat->Nat->List V->Hp->Prop,(∃m,W 0 m [] (aI t D (.lst [])))/\∀i m c d,W i m c d->((HL K a).stop i d/\F d)\/((HL K a).go i d/\∀x o,(HL K a).yld i d x o->g x (iG ds k s) o λf n=>tc f n λb j=>if b=true then te f j λy l=>l D=some (.lst c)/\c.length<sizeLine/\∃h,h<m/\W (i+1) h (c++[y]) (aI l D (.lst (c++[y])))else∃h,h<m/\W (i+1) h c j):=by
 refine⟨λi m c d=>m=xs.length-i/\i<=xs.length/\Pv i c d,⟨_,rfl,o_ _,h0⟩,?_⟩;rintro i m c d⟨rfl,hi,p⟩;have q:=u i c d hi p
 by_cases r:i<xs.length
 ·refine .inr ⟨⟨xs,xs[i],q,by simp[r]⟩,λx o y=>?_⟩;obtain⟨e,y⟩:=y;subst e;exact v i x c _ (y xs q) p
 ·have e:i=xs.length:=by lia
  subst e;exact .inl ⟨⟨xs,q,f_ _⟩,hd c d p⟩
def gC{K:N_}{a:Addr}{xs:List V}{g:TG}{ds:Oi}{k:Nat}{tc:TT}{te:TE}{s:St}{t:Hp}{D:Addr}{F:Hp->Prop}(Pv:Nat->List V->Hp->Prop)(h0:Pv 0 [] (aI t D (.lst [])))(u:∀i c d,i<=xs.length->Pv i c d->aS K d a xs)(v:∀i x c d,xs[i]?=some x->Pv i c d->g x (iG ds k s) d λf n=>tc f n λb j=>if b=true then te f j λy l=>l D=some (.lst c)/\c.length<sizeLine/\∃h,h<xs.length-i/\h=xs.length-(i+1)/\i+1<=xs.length/\Pv (i+1) (c++[y]) (aI l D (.lst (c++[y])))else∃h,h<xs.length-i/\h=xs.length-(i+1)/\i+1<=xs.length/\Pv (i+1) c j)(hd:∀c d,Pv xs.length c d->F d):∃W:Nat->Nat->List V->Hp->Prop,(∃m,W 0 m [] (aI t D (.lst [])))/\∀i m c d,W i m c d->((HK K a).stop i d/\F d)\/((HK K a).go i d/\∀x o,(HK K a).yld i d x o->g x (iG ds k s) o λf n=>tc f n λb j=>if b=true then te f j λy l=>l D=some (.lst c)/\c.length<sizeLine/\∃h,h<m/\W (i+1) h (c++[y]) (aI l D (.lst (c++[y])))else∃h,h<m/\W (i+1) h c j):=by
 refine⟨λi m c d=>m=xs.length-i/\i<=xs.length/\Pv i c d,⟨_,rfl,o_ _,h0⟩,?_⟩;rintro i m c d⟨rfl,hi,p⟩;have q:=u i c d hi p
 by_cases r:i<xs.length
 ·refine .inr ⟨⟨xs,xs[i],q,by simp[r]⟩,λx o y=>?_⟩;obtain⟨e,y⟩:=y;subst e;exact v i x c _ (y xs q) p
 ·have e:i=xs.length:=by lia
  subst e;exact .inl ⟨⟨xs,q,f_ _⟩,hd c d p⟩
def Fc{K:N_}{z:Str}{g:TG}{ds:Oi}{k:Nat}{tc:TT}{te:TE}{r:St}{s:Hp}{D:Addr}{F:Hp->Prop}(Pv:Nat->List V->Hp->Prop)(h0:Pv 0 [] (aI s D (.lst [])))(t:∀i c a d,z.cps.toList[i]?=some c->Pv i a d->g (.str ⟨#[c]⟩) (iG ds k r) d λf n=>tc f n λb j=>if b=true then te f j λy l=>l D=some (.lst a)/\a.length<sizeLine/\∃h,h<z.cps.toList.length-i/\h=z.cps.toList.length-(i+1)/\i+1<=z.cps.toList.length/\Pv (i+1) (a++[y]) (aI l D (.lst (a++[y])))else∃h,h<z.cps.toList.length-i/\h=z.cps.toList.length-(i+1)/\i+1<=z.cps.toList.length/\Pv (i+1) a j)(hd:∀a d,Pv z.cps.toList.length a d->F d):∃W:Nat->Nat->List V->Hp->Prop,(∃m,W 0 m [] (aI s D (.lst [])))/\∀i m a d,W i m a d->((Hi z).stop i d/\F d)\/((Hi z).go i d/\∀x o,(Hi z).yld i d x o->g x (iG ds k r) o λf n=>tc f n λb j=>if b=true then te f j λy l=>l D=some (.lst a)/\a.length<sizeLine/\∃h,h<m/\W (i+1) h (a++[y]) (aI l D (.lst (a++[y])))else∃h,h<m/\W (i+1) h a j):=by
 refine⟨λi m a d=>m=z.cps.toList.length-i/\i<=z.cps.toList.length/\Pv i a d,⟨_,rfl,o_ _,h0⟩,?_⟩;rintro i m a d⟨rfl,hi,p⟩;have v:z.cps.toList.length=z.cps.size:=by simp
 by_cases q:i<z.cps.size
 ·refine .inr ⟨q,λy o u=>?_⟩;obtain⟨e,c,hc,rfl⟩:=u;subst e;exact t i c a _ (by simpa using hc) p
 ·have e:i=z.cps.toList.length:=by lia
  subst e;exact .inl ⟨by show z.cps.size<=_;lia,hd a d p⟩
section
variable{X:Cx}
end
def EG{i j:Str}{A B:Prop}(h1:i=j->A)(h2:i≠j->B):if decide (V.str i=V.str j)=true then A else B:=by
 by_cases h:i=j
 ·subst h;rw[ol rfl];exact bo (h1 rfl)
 ·rw[op (λe=>h (V.str.inj e))];exact bX (h2 h)
end L2
namespace L2
open PySem PySem.Spec PyProof.Rows
abbrev fP(led:Bool):Obj:={cls:=.type "set",dict:=none,data:=.set #[] 0 (.fresh 0 0 led)}
def ur{a:Type}[BEq a](c:Nat->a)(i:Nat):List a:=((List.range i).map c).foldl step_dedup []
section
variable{a:Type}[DecidableEq a][BEq a][LawfulBEq a]
def vY(c:Nat->a)(i:Nat):ur c (i+1)=step_dedup (ur c i) (c i):=by show((List.range (i+1)).map c).foldl step_dedup []=_;rw[Nx,me,Mh];rfl
def Ej(c:Nat->a)(i:Nat):(ur c i).length<=i:=by induction i with|zero=>exact f_ 0|succ i b=>
  rw[vY];unfold step_dedup
  split
  ·exact r3 b
  ·rw[k_];exact t8 b
end
def qd(b:Bool)(h:Heap)(a:Addr)(c:Oh):Prop:=∃o,h.get? a=some o/\o.cls=.type (cond b "list" "tuple")/\∃n,o.data=.seq c n
def qX(b:Bool)(h:Heap)(a l:Addr)(i:Nat):Prop:=∃o,h.get? a=some o/\o.cls=.type (cond b "list_iterator" "tuple_iterator")/\o.data=.fields #[.ref l,.int i 0]
def qd.at{b:Bool}{h h':Heap}{a:Addr}{c:Oh}(x:qd b h a c)(e:∀o,h.get? a=some o->h'.get? a=some o):qd b h' a c:=Exists.imp (λ_ r=>⟨e _ r.1,r.2⟩) x
def qX.at{b:Bool}{h h':Heap}{a l:Addr}{i:Nat}(x:qX b h a l i)(e:∀o,h.get? a=some o->h'.get? a=some o):qX b h' a l i:=Exists.imp (λ_ r=>⟨e _ r.1,r.2⟩) x
section
variable{P:Oe}{w:World}{A:Around}{E:Oa}{s:Shared}
def AR{b:Bool}{l:Addr}{a:Oh}{Q:Oa}(c:qd b s.heap l a)(q:Q (.ref s.heap.objs.size) {s with heap:=s.heap.push {cls:=.type (cond b "list_iterator" "tuple_iterator"),data:=.fields #[.ref l,.int 0 0]}}):wpAny (model P w) A (pyIter (.ref l)) Q E s:=by cases b with|false=>exact MB c q|true=>exact M0 c q
end
end L2
namespace L2
open PySem PySem.Spec PyProof.Rows
instance(priority:=10000)keyBEq:BEq (Sum Int Str):=⟨λa b=>decide (a=b)⟩
instance(priority:=10000)keyLaw:LawfulBEq (Sum Int Str)where
 eq_of_beq:=λh=>ov h
 rfl:=ol rfl
def dd{a:Type}[BEq a](c:List a):List a:=c.foldl step_dedup []
def zN(a:List c)(d:c):(List.range a.length).map (λi=>a.getD i d)=a:=by refine List.ext_getElem (by simp) λi h1 h2=>?_;simp[List.getD,h_ h2]
def GC[BEq c](a:List c)(d:c):ur (λi=>a.getD i d) a.length=dd a:=by unfold ur dd;rw[zN]
section
variable{X:Cx}
def GO(r:bd (kV k) v):nZ k v=true/\v.scannable=true:=by cases k with|inl i=>obtain⟨t,rfl⟩:=r;exact⟨wc i t,rfl⟩|inr x=>obtain⟨t,rfl⟩:=r;exact⟨wb x t,rfl⟩
end
theorem ni[BEq c]:∀(d:List c)(a:List c),(d.foldl step_dedup a).length<=a.length+d.length
 |[],a=>f_ _|k::r,a=>by
  have:=ni r (step_dedup a k);have h2:(step_dedup a k).length<=a.length+1:=by
   unfold step_dedup
   split
   ·exact so _
   ·rw[k_];exact f_ _
  rw[E1,pw];lia
theorem zc[DecidableEq d][BEq d][LawfulBEq d]:∀(f c:List d),c.Nodup->((f.foldl step_dedup c).length=c.length+f.length↔(c++f).Nodup)
 |[],c,h=>by simp[h]|k::r,c,h=>by
  rw[E1]
  by_cases e:c.any (·==k)=true
  ·have g:step_dedup c k=c:=by unfold step_dedup;rw[mo e]
   have hm:k∈c:=by obtain⟨x,j,q⟩:=NZ.mp e;rw[<-eq_of_beq q];exact j
   rw[g]
   constructor
   ·intro q;have:=ni r c;rw[pw]at q;lia
   ·intro q;rw[q_]at q;exact absurd rfl (q.2.2 k hm k (m_))
  ·have g:step_dedup c k=c++[k]:=by unfold step_dedup;rw[l_ e]
   have hm:k∉c:=λl=>e (NZ.mpr ⟨k,l,Ms k⟩);rw[g];have i:=zc r (c++[k]) (by rw[q_];exact⟨h,by simp,λa m b n q=>hm (by rw[List.mem_singleton.mp n]at q;exact q▸m)⟩)
   rw[M8]at i;rw[show c++k::r=c++([k]++r)by rfl,<-i,k_,pw,List.length_singleton]
   constructor<;>intro q<;>lia
def Jz[DecidableEq c][BEq c][LawfulBEq c](a:List c):(dd a).length=a.length↔a.Nodup:=by have:=zc a [] MX;simp at this;unfold dd;exact this
end L2
namespace L2
open PySem
def CZ(t:SetTable)(n:Nat):(t.orStandIn n).led=t.led/\(t.plain=false->(t.orStandIn n).plain=false):=by
 unfold SetTable.orStandIn
 split
 ·exact⟨rfl,id⟩
 ·exact⟨rfl,λ_=>rfl⟩
def HV(t:SetTable)(a:Array (Int×Value))(h:Int)(x:Value):(layNew t a h x).2.1.led=t.led/\(t.plain=false->(layNew t a h x).2.1.plain=false):=by
 unfold layNew
 split
 ·rename_i sl wd e;exact CZ (t.put sl).1 _
 ·exact⟨rfl,λ_=>rfl⟩
def C0(t:SetTable)(a:Array (Int×Value))(n:Nat):(relayAll t a n).2.1.led=t.led/\(t.plain=false->(relayAll t a n).2.1.plain=false):=by
 unfold relayAll
 split
 ·rename_i b d e;have c:b.led=t.led/\b.plain=t.plain:=by unfold SetTable.relaid SetTable.laid at e;cases hc:SetTable.layClean (SetTable.sizeAbove n-1) (a.map (·.1))with|none=>rw[hc]at e;cases e|some ow=>rw[hc]at e;cases e;exact⟨rfl,rfl⟩
  dsimp only
  split
  ·exact⟨c.1,λh=>c.2.trans h⟩
  ·exact⟨rfl,λ_=>rfl⟩
 ·exact⟨rfl,λ_=>rfl⟩
def uD(h:l[i]?=some x):(x::l.eraseIdx i).Perm l:=by
 have a:=(d_.mp h).1;have b:=(d_.mp h).2;have e:l=l.take i++x::l.drop (i+1):=by rw[<-b,List.getElem_cons_drop,ro]
 rw[List.eraseIdx_eq_take_drop_succ];refine List.Perm.trans ?_ (N8 e.symm);exact List.perm_middle.symm
def vR(next:Nat->Nat)(c:Array d):(pickOrder next c).toList.Perm c.toList:=by
 have go:∀(a k:Nat)(left:List d)(out:Array d),left.length<=a->(pickOrder.go next a k left out).toList.Perm (out.toList++left):=by
  intro a
  induction a with|zero=>intro k left out h;have:left=[]:=List.length_eq_zero_iff.mp (by lia);subst this;unfold pickOrder.go;rw[E2]|succ a e=>intro k left out h;unfold pickOrder.go;cases b:left[next k%left.length]?with
 |none=>
    have hn:left=[]:=by cases left with|nil=>rfl|cons y f=>have:=Mu.mp b;have:=Nat.mod_lt (next k) (show 0<(y::f).length from rV _);lia
    subst hn;rw[E2]|some x=>have g:=(d_.mp b).1;have i:=(d_.mp b).2;dsimp only;refine(e _ _ _ (by rw[List.length_eraseIdx];split<;>lia)).trans ?_;rw[NU,M8];refine List.Perm.append_left _ ?_;show(x::left.eraseIdx (next k%left.length)).Perm left;exact uD b
 have:=go c.size 0 c.toList #[] (by simp);unfold pickOrder;simpa using this
end L2
namespace L2
open PySem
def g9:Slot "set_iterator" "__next__" "set_iterator.__next__":=.of (owner:="set_iterator") (n:="__next__") (by rw[Nt,MG];kernel_rfl) (by decide+kernel) (by decide+kernel) (by decide+kernel) (by first|exact .inl (by decide+kernel)|exact .inr (by decide+kernel)) (by rw[NF];kernel_rfl)
def sJ:Slot "set_iterator" "__iter__" "set_iterator.__iter__":=.of (owner:="set_iterator") (n:="__iter__") (by rw[Nt,MG];kernel_rfl) (by decide+kernel) (by decide+kernel) (by decide+kernel) (by first|exact .inl (by decide+kernel)|exact .inr (by decide+kernel)) (by rw[NF];kernel_rfl)
def x9:Manifest.owners.lookup (String.ofList ['r','o','t','a','r','e','t','i','_','t','e','s'].reverse)=some Manifest.sig_set_iterator:=by kernel_rfl
def kY(a:Value):argsOk "set_iterator.__next__" ⟨[a],[]⟩:=by unfold argsOk;rw[signature?_of (id:="set_iterator.__next__") (n:=['_','_','t','x','e','n','_','_']) (o:=['r','o','t','a','r','e','t','i','_','t','e','s']) (by kernel_rfl) x9];kernel_rfl
def oW(a:Value):argsOk "set_iterator.__iter__" ⟨[a],[]⟩:=by unfold argsOk;rw[signature?_of (id:="set_iterator.__iter__") (n:=['_','_','r','e','t','i','_','_']) (o:=['r','o','t','a','r','e','t','i','_','t','e','s']) (by kernel_rfl) x9];kernel_rfl
def jM:entryFor table "set_iterator.__next__"=some Builtin.«set_iterator.__next__»:=entryFor_of_tree (by kernel_rfl)
def nG:entryFor table "set_iterator.__iter__"=some Builtin.«dict_keyiterator.__iter__»:=entryFor_alias (id':="dict_keyiterator.__iter__") (by kernel_rfl) rfl (by decide+kernel) (by kernel_rfl)
def tE:entryFor table "set.__iter__"=some Builtin.«frozenset.__iter__»:=entryFor_alias (id':="frozenset.__iter__") (by kernel_rfl) rfl (by decide+kernel) (by kernel_rfl)
abbrev iq(first:Value)(i:Nat)(a:Addr)(n c:Nat):Obj:={cls:=.type "set_iterator",dict:=none,data:=.fields #[first,.int i 0,.ref a,.int n 0,.int c 0],slots:=#[]}
abbrev lC(a:Od):Obj:={cls:=.type "tuple",dict:=none,data:=.seq a.toArray}
structure fT(h:Heap)(a:Addr)(es:Array (Int×Value))(ep:Nat)(t:SetTable):Prop where
 ob:∃o,h.get? a=some o/\o.cls=.type "set"/\o.data=.set es ep t
 fits:t.fits es.size=true
def fT.keep(x:fT h a c d t)(k:∀o,h.get? a=some o->h'.get? a=some o):fT h' a c d t:=⟨let⟨o,e,r⟩:=x.ob;⟨o,k o e,r⟩,x.fits⟩
def fT.ty{s:Shared}{a:Addr}{d:Array (Int×Value)}{f:Nat}{t:SetTable}(x:fT s.heap a d f t):s.TypeIs (.ref a) "set":=let⟨o,e,c,_⟩:=x.ob;⟨o,e,c⟩
section
variable{prog:Oe}{w:World}{A:Around}{E:Oa}{s:Shared}
theorem uE:∀(n:Nat)(a:List f)(s:Shared)(Q:List f->Shared->Prop),a.length<=n->(∀c d,c.Perm a->Q c {s with drawn:=d})->wpAny (model prog w) A (drawOrder n a) Q E s
 |0,a,s,Q,e,h=>by have:a=[]:=List.length_eq_zero_iff.mp (by lia);subst this;unfold drawOrder;exact e_ (h [] s.drawn (NG _))|n+1,[],s,Q,e,h=>by unfold drawOrder;exact e_ (h [] s.drawn (NG _))|n+1,x::r,s,Q,e,h=>by
  unfold drawOrder;refine a_ (m:=choose .order (x::r).length) (λΓ p g=>?_);unfold choose;rw[Sem.wp_choose];refine⟨Nat.succ_ne_zero _,?_⟩;have hi:w.draws .order (s.drawn.get .order)%(x::r).length<(x::r).length:=Nat.mod_lt _ (rV _);have b:wpAny (model prog w) A (match(x::r)[w.draws .order (s.drawn.get .order)%(x::r).length]?with|some y=>do return y::(<-drawOrder n ((x::r).eraseIdx (w.draws .order (s.drawn.get .order)%(x::r).length)))|none=>unsupported "internal:drawOrder") Q E {s with drawn:=s.drawn.bump .order}:=by generalize w.draws .order (s.drawn.get .order)%(x::r).length=i at hi⊢;rw[h_ hi];refine a_ (uE n _ _ _ (by rw[List.length_eraseIdx,mo hi];lia) λc d j=>?_);exact e_ (h _ _ ((List.Perm.cons _ j).trans (uD (h_ hi))))
  exact b
set_option maxHeartbeats 4000000 in
def EF{a:Addr}{c:Array (Int×Value)}{h:Nat}{t:SetTable}{Q:Oa}(e:fT s.heap a c h t)(hn:c.size<=sizeLine)(h1:(!w.params.followText "set-order"&&(!t.plain&&decide (c.size>1)))=false->Q (.ref s.heap.objs.size) {s with heap:=s.heap.push (iq (.int 0 0) 0 a c.size h)})(h2:(!w.params.followText "set-order"&&(!t.plain&&decide (c.size>1)))=true->∀(d:Oi)(f:Drawn),d.Perm (List.range c.size)->Q (.ref (s.heap.objs.size+1)) {s with heap:=(s.heap.push (lC (d.map λ(i:Nat)=>Value.int (i:Int) 0))).push (iq (.ref s.heap.objs.size) 0 a c.size h),drawn:=f}):wpAny (model prog w) A (pyIter (.ref a)) Q E s:=by obtain⟨o,b,hc,hd⟩:=e.ob;have g:=e.fits;refine NM e.ty F.slot_set_iter (rk F.slot_set_iter e.ty tE ?_ (F.args_set_iter_1 _));unfold Builtin.«frozenset.__iter__»;refine a_ (m:=Builtin.Frozenset.slot0 "__iter__" _) (a_ (m:=slotArgs "__iter__" 0 _) (e_ (e_ ?_)));refine a_ (m:=Builtin.Frozenset.sizeOf a) (a_ (MT b hd g (e_ ?_)));refine a_ (m:=setDrawn a) (a_ (Mg b hd g (a_ (a_ (Mr (e_ ?_))))));refine e_ ?_;dsimp only;show wpAny _ _ (if(!w.params.followText "set-order"&&(!t.plain&&decide (c.size>1)))=true then _ else _) _ _ s;cases hc:(!w.params.followText "set-order"&&(!t.plain&&decide (c.size>1)))with|false=>rw[l_ oa];refine a_ (e_ ?_);refine a_ (wpAny_setEpoch_of b hd g ?_);refine a_ (ry (e_ ⟨_,rfl,"set_iterator",_,⟨_,j_ _ rfl,rfl⟩,g9.lookup,?_⟩));exact h1 hc|true=>
  rw[mo rfl];refine a_ (uE c.size (List.range c.size) s _ (by rw[r4];exact f_ _) λd f k=>?_);have l:d.length=c.size:=by rw[k.length_eq,r4]
  refine a_ (ry ?_ (by show(d.map λ(i:Nat)=>rawInt i).toArray.size<=sizeLine;rw[n_,b_,l];exact hn));have j:(s.heap.push (lC (d.map λ(i:Nat)=>Value.int (i:Int) 0))).get? a=some o:=c_ _ b;refine a_ (wpAny_setEpoch_of (s:={s with heap:=s.heap.push (lC (d.map λ(i:Nat)=>Value.int (i:Int) 0)),drawn:=f}) j hd g ?_);refine a_ (ry (e_ ⟨_,rfl,"set_iterator",_,⟨_,j_ _ rfl,rfl⟩,g9.lookup,?_⟩));have:=h2 hc d f k;rw[show s.heap.objs.size+1=(s.heap.push (lC (d.map λ(i:Nat)=>Value.int (i:Int) 0))).objs.size from(rm ..).symm]at this;exact this
def B8{I a:Addr}{d:Array (Int×Value)}{c i slot nx:Nat}{t:SetTable}{x:Value}{Q:Option Value->Shared->Prop}(e:s.heap.get? I=some (iq (.int slot 0) i a d.size c))(f:fT s.heap a d c t)(hn:∀(A:Around)(g:Option (Value×Nat)->Shared->Prop)(E:Oa),g (some (x,nx)) s->wpAny (model prog w) A (setNext a slot i c) g E s)(h:∀h',h'.get? I=some (iq (.int nx 0) (i+1) a d.size c)->Heap.SameBut I s.heap h'->Q (some x) {s with heap:=h'}):wpAny (model prog w) A (pyNext (.ref I)) Q E s:=by obtain⟨o,j,hc,hd⟩:=f.ob;have ty:s.TypeIs (.ref I) "set_iterator":=⟨_,e,rfl⟩;unfold pyNext;refine a_ (M_ (rr (name:=Str.ofString "__next__") ty g9 (rk g9 ty jM ?_ (kY _))));unfold Builtin.«set_iterator.__next__»;refine a_ (m:=slotArgs "__next__" 0 _) (e_ ?_);refine a_ (wpAny_fieldsOf e rfl ?_);show wpAny _ _ (setEntries a>>=_) _ _ s;refine a_ (MT j hd f.fits ?_);rw[l_ (by simp)];refine a_ (m:=setNext a slot i c) (hn _ _ _ ?_);refine a_ (sD e (by simp) λh1 k b1=>?_);refine a_ (sD (s:={s with heap:=h1}) k (by simp) λh2 l b2=>?_);refine e_ ⟨_,rfl,e_ (h h2 ?_ (b1.trans b2))⟩;rw[l];rfl
def zX{I T a:Addr}{c:Array (Int×Value)}{d i:Nat}{e:Oi}{j:Nat}{t:SetTable}{x:Int×Value}{Q:Option Value->Shared->Prop}(f:s.heap.get? I=some (iq (.ref T) i a c.size d))(g:fT s.heap a c d t)(n:s.heap.get? T=some (lC (e.map λ(i:Nat)=>Value.int (i:Int) 0)))(p:e[i]?=some j)(q:c[j]?=some x)(r:∀h',h'.get? I=some (iq (.ref T) (i+1) a c.size d)->Heap.SameBut I s.heap h'->Q (some x.2) {s with heap:=h'}):wpAny (model prog w) A (pyNext (.ref I)) Q E s:=by
 obtain⟨o,k,hc,hd⟩:=g.ob;have ty:s.TypeIs (.ref I) "set_iterator":=⟨_,f,rfl⟩;unfold pyNext;refine a_ (M_ (rr (name:=Str.ofString "__next__") ty g9 (rk g9 ty jM ?_ (kY _))));unfold Builtin.«set_iterator.__next__»;refine a_ (m:=slotArgs "__next__" 0 _) (e_ ?_);refine a_ (wpAny_fieldsOf f rfl ?_);show wpAny _ _ (setEntries a>>=_) _ _ s;refine a_ (MT k hd g.fits ?_);rw[l_ (by simp)];show wpAny _ _ (seqItems? (.ref T)>>=_) _ _ s;refine a_ (B_ n rfl ?_);have b:(e.map λ(i:Nat)=>Value.int (i:Int) 0).toArray[(i:Int).toNat]?=some (.int (j:Nat) 0):=by rw[NE,i_,sf,p];rfl
 show wpAny _ _ (match(e.map λ(i:Nat)=>Value.int (i:Int) 0).toArray[(i:Int).toNat]?with|some (.int h _)=>_|some _=>_|none=>_) _ _ s;rw[b];refine a_ (m:=setNextDrawn a j d) ?_;unfold setNextDrawn;refine a_ (Mg k hd g.fits ?_);dsimp only;rw[l_ (by simp)];rw[q];refine e_ ?_;refine a_ (sD f (by simp) λh1 u b1=>?_);refine e_ ⟨_,rfl,e_ (r h1 ?_ b1)⟩;rw[u];rfl
end
end L2
namespace L2
open PySem
def gi(a:Array Nat):Prop:=∀i j:Nat,i<j->j<a.size->a.getD i 0<a.getD j 0
def ES{a:Array Nat}{i:Nat}(h:i<a.size)(d:Nat):a.getD i d=a.getD i 0:=by simp[Array.getD,h]
def gi.le(r:gi a)(h:i<=j)(c:j<a.size):a.getD i 0<=a.getD j 0:=by
 rcases No i j with q|q
 ·exact z_ (r i j q c)
 ·have:i=j:=by lia
  rw[this];exact f_ _
theorem uP{a:Array Nat}(r:gi a)(j:Nat):∀(fuel lo hi:Nat),hi-lo<=fuel->lo<=hi->hi<=a.size->(∀k,k<lo->a.getD k 0<j)->(∀k,hi<=k->k<a.size->¬a.getD k 0<j)->SetTable.below.go a j fuel lo hi<=a.size/\(∀k,k<SetTable.below.go a j fuel lo hi->a.getD k 0<j)/\(∀k,SetTable.below.go a j fuel lo hi<=k->k<a.size->¬a.getD k 0<j)
 |0,lo,hi,g,h,c,h1,h2=>by
  unfold SetTable.below.go;have:lo=hi:=by lia
  subst this;exact⟨c,h1,h2⟩|fuel+1,lo,hi,g,h,c,h1,h2=>by
  unfold SetTable.below.go
  by_cases b:lo<hi
  ·rw[mo b];have hm:(lo+hi)/2<a.size:=by lia
   dsimp only;rw[ES hm j]
   by_cases d:a.getD ((lo+hi)/2) 0<j
   ·rw[mo d];exact uP r j fuel _ _ (by lia) (by lia) c (λk f=>sg (r.le (by lia) hm) d) h2
   ·rw[l_ d];exact uP r j fuel _ _ (by lia) (by lia) (by lia) h1 (λk f e q=>d (sg (r.le f e) q))
  ·rw[l_ b];have:lo=hi:=by lia
   subst this;exact⟨c,h1,h2⟩
def qQ(r:gi a)(j:Nat):SetTable.below a j<=a.size/\(∀k,k<SetTable.below a j->a.getD k 0<j)/\(∀k,SetTable.below a j<=k->k<a.size->¬a.getD k 0<j):=uP r j a.size 0 a.size (by lia) (o_ _) (f_ _) (λk b=>absurd b (Nv _)) (λk h1 h2=>absurd h2 (by lia))
def DE(a:Array Nat):Nat->Nat|0=>0|i+1=>a.getD i 0+1
def uO(r:gi a):∀{i:Nat},i<=a.size->SetTable.below a (DE a i)=i
 |0,_=>by
  obtain⟨h1,h2,h3⟩:=qQ r 0;rcases Nat.eq_zero_or_pos (SetTable.below a 0)with q|q
  ·exact q
  ·exact absurd (h2 0 q) (Nv _)|i+1,hi=>by
  obtain⟨h1,h2,h3⟩:=qQ r (a.getD i 0+1);show SetTable.below a (a.getD i 0+1)=i+1;rcases Nat.lt_trichotomy (SetTable.below a (a.getD i 0+1)) (i+1)with q|q|q
  ·exact absurd (wr _) (h3 i (by lia) (by lia))
  ·exact q
  ·have:=h2 (i+1) q;have:=r i (i+1) (wr _) (by lia);lia
def gi.few{a:Array Nat}(h:a.size<=1):gi a:=λi j h1 h2=>by lia
section
variable{prog:Oe}{w:World}{A:Around}{E:Oa}{s:Shared}
def oY(c:fT s.heap a g d t)(f:w.params.followText "set-order"=true)(h:Q (((pickOrder (w.params.setOrder a d) g)[i]?).map λe=>(e.2,slot)) s):wpAny (model prog w) A (setNext a slot i d) Q E s:=by obtain⟨o,b,hc,hd⟩:=c.ob;unfold setNext;refine a_ (Mg b hd c.fits ?_);dsimp only;refine a_ (m:=setsByText) (a_ (Mr (e_ ?_)));show wpAny _ _ (if(w.params.followText "set-order")=true then _ else _) _ _ s;rw[mo f,l_ (by simp)];refine a_ (m:=setWalk a) ?_;unfold setWalk;refine a_ (Mg b hd c.fits ?_);dsimp only;refine a_ (m:=setsByText) (a_ (Mr (e_ ?_)));show wpAny _ _ (if(w.params.followText "set-order")=true then _ else _) _ _ s;rw[mo f];refine a_ (Mr (e_ ?_));exact e_ h
def oZ(d:fT s.heap a c e t)(f:w.params.followText "set-order"=false)(g:(!t.plain&&decide (c.size>1))=false)(l:t.led=true)(h:Q (match c[SetTable.below t.place slot]?,t.place[SetTable.below t.place slot]?with|some (_,x),some j=>some (x,j+1)|_,_=>none) s):wpAny (model prog w) A (setNext a slot i e) Q E s:=by obtain⟨o,b,hc,hd⟩:=d.ob;unfold setNext;refine a_ (Mg b hd d.fits ?_);dsimp only;refine a_ (m:=setsByText) (a_ (Mr (e_ ?_)));show wpAny _ _ (if(w.params.followText "set-order")=true then _ else _) _ _ s;rw[l_ (by rw[f];exact oa)];show wpAny _ _ (if(!t.plain&&decide (c.size>1))=true then _ else _) _ _ s;rw[l_ (by rw[g];exact oa)];refine a_ ?_;show wpAny _ _ (if(!t.led&&!c.isEmpty)=true then _ else _) _ _ s;rw[l_ (by rw[l];simp)];exact e_ (e_ h)
def yL(hh:A.handled=none)(f:s.heap.get? I=some (iq first i a q.size g))(l:fT s.heap a q g t)(hn:(∃slot:Nat,first=.int slot 0/\∀(A:Around)(n:Option (Value×Nat)->Shared->Prop)(E:Oa),n none s->wpAny (model prog w) A (setNext a slot i g) n E s)\/∃(T:Addr)(d:Oi),first=.ref T/\s.heap.get? T=some (lC (d.map λ(i:Nat)=>Value.int (i:Int) 0))/\d[i]?=none)(r:∀h',(∀b o,b≠I->s.heap.get? b=some o->h'.get? b=some o)->Q none {s with heap:=h'}):wpAny (model prog w) A (pyNext (.ref I)) Q E s:=by
 obtain⟨o,u,hc,hd⟩:=l.ob;have ty:s.TypeIs (.ref I) "set_iterator":=⟨_,f,rfl⟩;have fin:∀(R:Fin->Shared->Prop)(h1:Heap),(∀b o,b≠I->s.heap.get? b=some o->h1.get? b=some o)->wpAny (model prog w) A.in1 (newExc (.type "StopIteration") []>>=λe=>raiseNew e:Sem Fin) R (λe v=>wpAny (model prog w) A (do if<-isInstance e (.type "StopIteration")then pure none else throw e) Q E v) {s with heap:=h1}:=by intro R h1 x;refine a_ ?_;simp only[newExc,newTuple];refine a_ (ry ?_ (by size_fits));refine a_ (m:=firstArgMember _ _) (wpAny_of_eq (a:=Value.none) (by first|rfl|(simp only[firstArgMember];rfl)) ?_);refine ry ?_ (by size_fits);simp only[raiseNew];refine a_ (wpAny_handled ?_);rw[show A.in1.handled=none from hh];refine a_ (e_ (wpAny_throw ?_));refine a_ (Nd (T:="StopIteration") (b:=true) ⟨_,j_ _ rfl,rfl⟩ isSubtype_stop ?_);exact e_ (r _ λb o c e=>c_ _ (c_ _ (x b o c e)))
 unfold pyNext;refine a_ (M_ (rr (name:=Str.ofString "__next__") ty g9 (rk g9 ty jM ?_ (kY _))));unfold Builtin.«set_iterator.__next__»;refine a_ (m:=slotArgs "__next__" 0 _) (e_ ?_);refine a_ (wpAny_fieldsOf f rfl ?_);show wpAny _ _ (setEntries a>>=_) _ _ s;refine a_ (MT u hd l.fits ?_);rw[l_ (by simp)];rcases hn with⟨slot,rfl,hn⟩|⟨T,d,rfl,y,z⟩
 ·refine a_ (m:=setNext a slot i g) (hn _ _ _ ?_);refine a_ (sD f (by simp) λh1 p b1=>?_);exact fin _ h1 λb o c e=>(b1.2 b c).trans e
 ·show wpAny _ _ (seqItems? (.ref T)>>=_) _ _ s;refine a_ (B_ y rfl ?_);have h:(d.map λ(i:Nat)=>Value.int (i:Int) 0).toArray[(i:Int).toNat]?=none:=by rw[NE,i_,sf,z];rfl
  show wpAny _ _ (match(d.map λ(i:Nat)=>Value.int (i:Int) 0).toArray[(i:Int).toNat]?with|some (.int j _)=>_|some _=>_|none=>_) _ _ s;rw[h];refine a_ (sD f (by simp) λh1 p b1=>?_);refine a_ (sD (s:={s with heap:=h1}) p (by simp) λh2 B b2=>?_);exact fin _ h2 λb o c e=>(b2.2 b c).trans ((b1.2 b c).trans e)
def CP(hh:A.handled=none)(L:fT s.heap a c f t)(hn:c.size<=sizeLine)(hl:w.params.followText "set-order"=false->t.led=true)(hr:t.plain=true->gi t.place)(h:∀(I:Addr)(h':Heap)(S:Drawn)(ord:List (Int×Value))(fp:Oj)(St:Nat->Heap->Prop),ord.Perm c.toList->(∀b o,s.heap.get? b=some o->h'.get? b=some o)->s.heap.objs.size<=I->I<h'.objs.size->(∀b∈fp,b=a\/s.heap.objs.size<=b)->Walks prog w A I fp [I] c.size (λi v=>∃x,ord[i]?=some x/\v=x.2) St->St 0 h'->Q (.ref I) {s with heap:=h',drawn:=S}):wpAny (model prog w) A (pyIter (.ref a)) Q E s:=by
 have ha:a<s.heap.objs.size:=let⟨o,e,_⟩:=L.ob;np e;have T:t.place.size=c.size:=by have:=L.fits;unfold SetTable.fits at this;simp only[pa,beq_iff_eq]at this;exact this.1
 refine EF L hn (λhc=>?_) (λhc p S K=>?_)
 ·--by slots
  have M:∀b o,s.heap.get? b=some o->(s.heap.push (iq (.int 0 0) 0 a c.size f)).get? b=some o:=λb o e=>c_ _ e;have hg:(s.heap.push (iq (.int 0 0) 0 a c.size f)).get? s.heap.objs.size=some (iq (.int 0 0) 0 a c.size f):=j_ _ rfl;have U:s.heap.objs.size<(s.heap.push (iq (.int 0 0) 0 a c.size f)).objs.size:=by rw[rm];exact wr _
  have G:a≠s.heap.objs.size:=ot ha;have B:∀(first:Nat->Nat)(ord:List (Int×Value)),first 0=0->ord.Perm c.toList->(∀(i:Nat)(d:Shared)(x:Int×Value),ord[i]?=some x->fT d.heap a c f t->∀(A:Around)(C:Option (Value×Nat)->Shared->Prop)(E:Oa),C (some (x.2,first (i+1))) d->wpAny (model prog w) A (setNext a (first i) i f) C E d)->(∀(d:Shared),fT d.heap a c f t->∀(A:Around)(C:Option (Value×Nat)->Shared->Prop)(E:Oa),C none d->wpAny (model prog w) A (setNext a (first c.size) c.size f) C E d)->Q (.ref s.heap.objs.size) {s with heap:=s.heap.push (iq (.int 0 0) 0 a c.size f)}:=by
   intro first ord f0 K hi hd;have V:ord.length=c.size:=by rw[K.length_eq,o0]
   refine h s.heap.objs.size _ s.drawn ord [s.heap.objs.size,a] (λi h'=>h'.get? s.heap.objs.size=some (iq (.int (first i) 0) i a c.size f)/\fT h' a c f t) K M (f_ _) U ?_ ?_ ?_
   ·intro b g;simp only[tA,rl,Mj]at g;rcases g with rfl|rfl
    ·exact .inr (f_ _)
    ·exact .inl rfl
   ·refine{sub:=λb g=>?_,frame:=λi h1 h2 st k=>?_,item:=λi d N O W st q=>?_,done:=λd N O st q=>?_,self:=λi d N O st q=>?_}
    ·rw[List.mem_singleton.mp g];exact m_
    ·exact⟨k _ m_ _ st.1,st.2.keep λo e=>k _ (lm _ m_) _ e⟩
    ·obtain⟨x,m⟩:∃x,ord[i]?=some x:=⟨ord[i]'(by lia),h_ (by lia)⟩;refine B8 (nx:=first (i+1)) st.1 st.2 (hi i d x m st.2) λh2 X b2=>?_;exact q x.2 h2 d.toks ⟨x,m,rfl⟩ ⟨X,st.2.keep λo e=>(b2.2 _ G).trans e⟩ λb o g e=>(b2.2 b λz=>g (by rw[z];exact List.mem_singleton.mpr rfl)).trans e
    ·refine yL hh st.1 st.2 (.inl ⟨_,rfl,hd d st.2⟩) λh2 Y=>?_;exact q h2 d.toks λb o g e=>Y b o (λz=>g (by rw[z];exact List.mem_singleton.mpr rfl)) e
    ·have ty:d.TypeIs (.ref s.heap.objs.size) "set_iterator":=⟨_,st.1,rfl⟩;refine NM ty sJ (rk sJ ty nG ?_ (oW _));exact e_ ⟨_,rfl,"set_iterator",_,ty,g9.lookup,q⟩
   ·rw[f0];exact⟨hg,L.keep λo e=>M _ _ e⟩
  cases H:w.params.followText "set-order"with
 |true=>
   have V:(pickOrder (w.params.setOrder a f) c).toList.length=c.size:=by rw[(vR _ _).length_eq,o0]
   refine B (λ_=>0) (pickOrder (w.params.setOrder a f) c).toList rfl (vR _ _) (λi d x m u A C E q=>?_) (λd u A C E q=>?_)
   ·refine oY u H ?_;have m:(pickOrder (w.params.setOrder a f) c)[i]?=some x:=by rw[<-vu];exact m
    rw[m];exact q
   ·refine oY u H ?_;have m:(pickOrder (w.params.setOrder a f) c)[c.size]?=none:=by rw[<-vu];exact Mu.mpr (by lia)
    rw[m];exact q|false=>
   have D:(!t.plain&&decide (c.size>1))=false:=by rw[H]at hc;simpa using hc
   have rs:gi t.place:=by cases F:t.plain with|true=>exact hr F|false=>rw[F]at D;refine gi.few ?_;rw[T];simpa using D
   refine B (DE t.place) c.toList rfl (NG _) (λi d x m u A C E q=>?_) (λd u A C E q=>?_)
   ·have m:c[i]?=some x:=by rw[<-vu];exact m
    have hi:i<c.size:=(Array.getElem?_eq_some_iff.mp m).1;refine oZ u H D (hl H) ?_;rw[uO rs (by lia),m];have F:t.place[i]?=some (t.place.getD i 0):=by rw[z3 (by lia)];simp[Array.getD,show i<t.place.size by lia]
    rw[F];exact q
   ·refine oZ u H D (hl H) ?_;rw[uO rs (by lia)];rw[show c[c.size]?=none from Array.getElem?_eq_none (f_ _)];exact q
 ·--drawn
  have Z:(s.heap.push (lC (p.map λ(i:Nat)=>Value.int (i:Int) 0))).get? s.heap.objs.size=some (lC (p.map λ(i:Nat)=>Value.int (i:Int) 0)):=j_ _ rfl;have hz:(s.heap.push (lC (p.map λ(i:Nat)=>Value.int (i:Int) 0))).objs.size=s.heap.objs.size+1:=rm ..;have M:∀b o,s.heap.get? b=some o->((s.heap.push (lC (p.map λ(i:Nat)=>Value.int (i:Int) 0))).push (iq (.ref s.heap.objs.size) 0 a c.size f)).get? b=some o:=λb o e=>c_ _ (c_ _ e);have hg:((s.heap.push (lC (p.map λ(i:Nat)=>Value.int (i:Int) 0))).push (iq (.ref s.heap.objs.size) 0 a c.size f)).get? (s.heap.objs.size+1)=some (iq (.ref s.heap.objs.size) 0 a c.size f):=by rw[<-hz];exact j_ _ rfl
  have ac:p.length=c.size:=by rw[K.length_eq,r4]
  have P:∀(i j:Nat),p[i]?=some j->j<c.size:=λi j q=>by have:=K.mem_iff.mp (g_ q);exact yl.mp this
  refine h (s.heap.objs.size+1) _ S (p.filterMap λj=>c[j]?) [s.heap.objs.size+1,a,s.heap.objs.size] (λi h'=>h'.get? (s.heap.objs.size+1)=some (iq (.ref s.heap.objs.size) i a c.size f)/\fT h' a c f t/\h'.get? s.heap.objs.size=some (lC (p.map λ(i:Nat)=>Value.int (i:Int) 0))) ?_ M (so _) ?_ ?_ ?_ ?_
  ·have:=K.filterMap (λj=>c[j]?);rw[filterMap_getElem?_range]at this;exact this
  ·rw[rm,hz];exact wr _
  ·intro b g;simp only[tA,rl,Mj]at g;rcases g with rfl|rfl|rfl
   ·exact .inr (so _)
   ·exact .inl rfl
   ·exact .inr (f_ _)
  ·have G:a≠s.heap.objs.size+1:=ot (I_ ha);have R:∀(i:Nat)(j:Nat)(x:Int×Value),p[i]?=some j->c[j]?=some x->(p.filterMap λj=>c[j]?)[i]?=some x:=by
    have gen:∀(l:Oi),(∀j∈l,j<c.size)->∀(i j:Nat)(x:Int×Value),l[i]?=some j->c[j]?=some x->(l.filterMap λj=>c[j]?)[i]?=some x:=by
     intro l
     induction l with|nil=>intro _ i j x hi _;simp at hi|cons y r ih=>intro g i j x hi m;have hy:c[y]?=some (c[y]'(g y m_)):=z3 _;rw[List.filterMap_cons_some hy];cases i with|zero=>simp only[List.getElem?_cons_zero,M3]at hi⊢;subst hi;rw[hy]at m;exact nB m|succ i=>simp only[List.getElem?_cons_succ]at hi⊢;exact ih (λj J=>g j (lm _ J)) i j x hi m
    intro i j x h1 h2;refine gen p (λj J=>?_) i j x h1 h2;obtain⟨n,hn⟩:=m3.mp J;exact P n j hn
   refine{sub:=λb g=>?_,frame:=λi h1 h2 st k=>?_,item:=λi d N O W st q=>?_,done:=λd N O st q=>?_,self:=λi d N O st q=>?_}
   ·rw[List.mem_singleton.mp g];exact m_
   ·exact⟨k _ m_ _ st.1,st.2.1.keep λo e=>k _ (lm _ m_) _ e,k _ (lm _ (lm _ m_)) _ st.2.2⟩
   ·obtain⟨j,J⟩:∃j,p[i]?=some j:=⟨p[i]'(by lia),h_ (by lia)⟩;have aa:=P i j J;have m:c[j]?=some (c[j]'aa):=z3 _;refine zX st.1 st.2.1 st.2.2 J m λh2 X b2=>?_;exact q _ h2 d.toks ⟨_,R i j _ J m,rfl⟩ ⟨X,st.2.1.keep λo e=>(b2.2 _ G).trans e,(b2.2 _ (ot (wr _))).trans st.2.2⟩ λb o g e=>(b2.2 b λz=>g (by rw[z];exact List.mem_singleton.mpr rfl)).trans e
   ·refine yL hh st.1 st.2.1 (.inr ⟨_,p,rfl,st.2.2,Mu.mpr (by lia)⟩) λh2 Y=>?_;exact q h2 d.toks λb o g e=>Y b o (λz=>g (by rw[z];exact List.mem_singleton.mpr rfl)) e
   ·have ty:d.TypeIs (.ref (s.heap.objs.size+1)) "set_iterator":=⟨_,st.1,rfl⟩;refine NM ty sJ (rk sJ ty nG ?_ (oW _));exact e_ ⟨_,rfl,"set_iterator",_,ty,g9.lookup,q⟩
  ·exact⟨hg,L.keep λo e=>M _ _ e,c_ _ Z⟩
end
end L2
namespace L2
open PySem
section
variable{prog:Oe}{w:World}{A:Around}{E:Oa}{s:Shared}
def EL(ty:s.TypeIs (.ref a) "set")(h:Q false s):wpAny (model prog w) A (Builtin.List.listLengthHint (.ref a)) Q E s:=by
 unfold Builtin.List.listLengthHint;refine a_ (Nr ty F.slot_set_len.lookup ?_);generalize c:("set.__len__":String)=nm
 wp_delta
 rw[show splitId nm=some ("set","__len__")from by subst c;decide+kernel];subst c;refine a_ (Nd (T:="set") (b:=true) ty (by rw[NF];kernel_rfl) ?_);refine v_ (λz=>absurd z (by decide)) (λ_=>?_);refine v_ (λ_=>?_) (λz=>absurd (by decide+kernel) z);exact a_ (NK ty (e_ h))
def zf(hh:A.handled=none)(X:fT s.heap a l ep t)(hn:l.size<=sizeLine)(hl:w.params.followText "set-order"=false->t.led=true)(p:t.plain=true->gi t.place)(h:∀(h':Heap)(d':Drawn)(tk:Nat)(Z:Od),Z.Perm (l.toList.map (·.2))->(∀b o,s.heap.get? b=some o->h'.get? b=some o)->s.heap.objs.size<=h'.objs.size->R Z {s with heap:=h',drawn:=d',toks:=tk}):wpAny (model prog w) A (collect (.ref a)) R E s:=by
 have L:a<s.heap.objs.size:=let⟨o,e,_⟩:=X.ob;np e;unfold collect;refine a_ (wpAny_runValue (Mx F.entry_proto_collect ?_));rw[Mq F.plain_proto_collect _];refine a_ (m:=newList []) (ry ?_);refine e_ ⟨MJ F.plain_list_iadd _,Mx F.entry_list_iadd ?_⟩;rw[Mq F.plain_list_iadd _];have U:(s.heap.push {cls:=.type "list",data:=.seq ([]:Od).toArray}).get? s.heap.objs.size=some {cls:=.type "list",data:=.seq #[]}:=j_ _ rfl;have g:fT (s.heap.push {cls:=.type "list",data:=.seq ([]:Od).toArray}) a l ep t:=X.keep λo e=>c_ _ e;have j:(s.heap.push {cls:=.type "list",data:=.seq ([]:Od).toArray}).objs.size=s.heap.objs.size+1:=rm ..;have M:∀b o,s.heap.get? b=some o->(s.heap.push {cls:=.type "list",data:=.seq ([]:Od).toArray}).get? b=some o:=λb o e=>c_ _ e;generalize s.heap.push {cls:=.type "list",data:=.seq ([]:Od).toArray}=h0 at U g j M⊢;show wpAny _ A.in1 (Builtin.List.listExtendWith (.ref s.heap.objs.size) (.ref a) (.ref s.heap.objs.size)) _ _ {s with heap:=h0};unfold Builtin.List.listExtendWith;refine a_ (NK (T:="set") (s:={s with heap:=h0}) g.ty ?_);have ne:Builtin.List.listSameRef (.ref s.heap.objs.size) (.ref a)=false:=by simp[Builtin.List.listSameRef,qr L]
 rw[l_ (by rw[ne];decide)];refine a_ (CP (s:={s with heap:=h0}) (A:=A.in1) hh g hn hl p λI h1 n ord fp St V H hI aa u W st=>?_);refine a_ (ri (EL (s:={s with heap:=h1,drawn:=n}) (g.keep λo e=>H _ _ e).ty ?_));have N:=H _ _ U;have Y:ord.length=l.size:=by rw[V.length_eq,o0]
 have k:∀(h2:Heap)(c:Nat),St 0 h2->(∀b o,s.heap.get? b=some o->h2.get? b=some o)->h2.get? s.heap.objs.size=some {cls:=.type "list",dict:=none,data:=.seq #[] c,slots:=#[]}->codeAny (model prog w) A (.builtin "list.extend.loop" ⟨[.ref s.heap.objs.size,.ref I,.ref s.heap.objs.size],[]⟩) (λr y=>∃v,r=.ok (.ret v)/\v=.ref s.heap.objs.size/\∃(h':Heap)(tk:Nat)(f:Oh)(B:Nat),y={s with heap:=h',drawn:=n,toks:=tk}/\(∀b o,s.heap.get? b=some o->h'.get? b=some o)/\h'.get? s.heap.objs.size=some {cls:=.type "list",dict:=none,data:=.seq f B,slots:=#[]}/\f.toList.Perm (l.toList.map (·.2))) {s with heap:=h2,drawn:=n}:=by
  intro h2 c O k2 J;refine codeAny_extend_loopS W.toS hn s.heap.objs.size (λhm=>?_) _ l.size 0 _ #[] c rfl (o_ _) O J (ItemsOf.nil _) λy d B K g' it=>?_
  ·rcases u _ hm with e|e
   ·exact absurd e (qr L)
   ·have:h0.objs.size<=s.heap.objs.size:=e;rw[j]at this;exact absurd this (Nat.not_succ_le_self _)
  ·obtain⟨h3,P,d3,t3,o3⟩:=y;obtain rfl:P=s.gens:=K.gens;obtain rfl:d3=n:=K.drawn;obtain rfl:o3=s.os:=K.os;refine⟨_,rfl,rfl,h3,t3,d,B,rfl,λb o e=>?_,g',?_⟩
   ·refine K.heap b o (λhm=>?_) (k2 b o e);have C:b<s.heap.objs.size:=np e;rcases tA.mp hm with z|z
    ·exact absurd z (ot C)
    ·rw[List.mem_singleton.mp z]at C;have:h0.objs.size<=I:=hI;rw[j]at this;exact absurd (H_ C (Nat.lt_of_succ_le this)) (sm _)
   ·have e1:d.toList=ord.map (·.2):=by refine C_ λi=>?_;rw[i_,vu];cases q:d[i]?with|some v=>obtain⟨x,hx,rfl⟩:=it.2 i v q;rw[hx];rfl|none=>have:d.size<=i:=Array.getElem?_eq_none_iff.mp q;rw[it.1]at this;rw[p_ (by lia)];rfl
    rw[e1];exact V.map _
 refine v_ (λ_=>?_) (λ_=>e_ ⟨MJ F.plain_extend_loop _,Ma (k h1 0 st (λb o e=>H _ _ (M _ _ e)) N) λr y p=>?_⟩)
 case refine_2=>obtain⟨v,rfl,rfl,h',tk,f,B,rfl,Q,D,S⟩:=p;exact a_ (wpAny_load D (e_ (h h' n tk f.toList S Q (z_ (np D)))))
 refine a_ (Es (a_ ?_));show wpAny _ _ (updateSeq s.heap.objs.size (·.push .none)>>=λ_=>updateSeq s.heap.objs.size (·.pop)) _ _ _;refine a_ (N3 N rfl ?_);have J:=vr (Obj.mapSeq (·.push Value.none)) N rfl;refine N3 (hz:=by seq_fits) J rfl ?_;have P:=vr (Obj.mapSeq (·.pop)) J rfl;refine e_ ⟨MJ F.plain_extend_loop _,Ma (k _ _ (W.frame 0 _ _ st λb C o e=>?_) (λb o e=>?_) P) λr y p=>?_⟩
 ·have G:b≠s.heap.objs.size:=λz=>by
   rcases u _ C with q|q
   ·exact absurd (z.symm.trans q) (qr L)
   ·have:h0.objs.size<=b:=q;rw[j,z]at this;exact absurd this (Nat.not_succ_le_self _)
  exact(y2 _ _ (rb G)).trans ((y2 _ _ (rb G)).trans e)
 ·have G:b≠s.heap.objs.size:=ot (np e);exact(y2 _ _ (rb G)).trans ((y2 _ _ (rb G)).trans (H _ _ (M _ _ e)))
 ·obtain⟨v,rfl,rfl,h',tk,f,B,rfl,Q,D,S⟩:=p;exact a_ (wpAny_load D (e_ (h h' n tk f.toList S Q (z_ (np D)))))
end
end L2
namespace L2
open PySem
structure qR(led:Bool)(t:SetTable):Prop where
 led:t.led=led
 up:t.plain=true->gi t.place
def qR.off{led:Bool}{t:SetTable}(x:qR led t):qR led {t with plain:=false}:=⟨x.led,λh=>by cases h⟩
def D6{t:SetTable}{j:Nat}(h:t.slot j=.empty\/t.slot j=.dummy):t.place[SetTable.below t.place j]?≠some j:=by intro e;unfold SetTable.slot at h;dsimp only at h;rw[mo (by rw[e];simp)]at h;rcases h with h|h<;>cases h
theorem oO:∀(fuel:Nat)(p:SetTable.Probe)(j:Nat)(d:Option Nat),(∀x,p.dummy=some x->t.slot x=.dummy)->SetTable.probe.go t l h fuel p=some (.empty j d)->t.slot j=.empty/\∀x,d=some x->t.slot x=.dummy|0,p,j,d,c,e=>by unfold SetTable.probe.go at e;cases e|fuel+1,p,j,d,c,e=>by unfold SetTable.probe.go at e;cases a:t.slot p.j with
 |empty=>rw[a]at e;injection e with e;injection e with f g;subst f;subst g;exact⟨a,c⟩|dummy=>
   rw[a]at e;refine oO fuel _ j d (λx b=>?_) e;have:(t.advance {p with dummy:=some p.j}).dummy=some p.j:=by
    unfold SetTable.advance
    split<;>rfl
   rw[this]at b;cases b;exact a|live i=>
   rw[a]at e;dsimp only at e
   split at e
   ·cases e
   ·refine oO fuel _ j d (λx b=>c x ?_) e;have:(t.advance p).dummy=p.dummy:=by
     unfold SetTable.advance
     split<;>rfl
    rw[this]at b;exact b
def Cq{t:SetTable}{h:Int}{sl:Nat}{wd:Bool}(e:t.freeSlot h=some (sl,wd)):t.place[SetTable.below t.place sl]?≠some sl:=by unfold SetTable.freeSlot at e;cases a:t.probe (λ_=>h+1) h (t.probeStart h)with|none=>rw[a]at e;cases e|some m=>rw[a]at e;cases m with|candidate _ _ _=>cases e|empty j d=>have:=oO (10*SetTable.turns t.mask) (t.probeStart h) j d (λx b=>by cases b) a;injection e with e;injection e with c f;subst c;refine D6 ?_;cases d with|none=>exact .inl this.1|some x=>exact .inr (this.2 x rfl)
def gd(a:Array Nat)(i:Nat):a.getD i 0=(a.toList[i]?).getD 0:=by rw[vu,Array.getD_eq_getD_getElem?]
def zL{l:Oi}(h:l.Pairwise (·<·)):gi l.toArray:=by intro i j a b;rw[n_]at b;have:=List.pairwise_iff_getElem.mp h i j (by lia) b a;rw[gd,gd];show(l[i]?).getD 0<(l[j]?).getD 0;rw[h_ b,h_ (show i<l.length by lia)];exact this
def yX(c:p<=a.size):(SetTable.insertAt a p x).getD k 0=if k<p then a.getD k 0 else if k=p then x else if k<a.size+1 then a.getD (k-1) 0 else 0:=by
 have e:(SetTable.insertAt a p x).toList=a.toList.take p++x::a.toList.drop p:=by rw[SetTable.toList_insertAt]
 rw[gd,e];have b:(a.toList.take p).length=p:=by rw[o8,o0];lia
 by_cases h1:k<p
 ·rw[mo h1,y_ (by lia),List.getElem?_take,mo h1,gd]
 ·rw[l_ h1,Mo (by lia),b]
  by_cases h2:k=p
  ·rw[mo h2,h2,Nat.sub_self];rfl
  ·rw[l_ h2];obtain⟨m,rfl⟩:∃m,k=p+(m+1):=⟨k-p-1,by lia⟩;rw[show p+(m+1)-p=m+1 by lia,List.getElem?_cons_succ,NJ]
   by_cases h3:p+(m+1)<a.size+1
   ·rw[mo h3,gd,show p+(m+1)-1=p+m by lia]
   ·rw[l_ h3,p_ (by rw[o0];lia)];rfl
def EH(c:p<=a.size):(SetTable.insertAt a p x).size=a.size+1:=by rw[<-o0,(SetTable.insertAt_perm a p x).length_eq,o0,Array.size_push]
def BU{t:SetTable}{sl:Nat}(r:gi t.place)(h:t.place[SetTable.below t.place sl]?≠some sl):gi (t.put sl).1.place:=by
 obtain⟨b1,b2,b3⟩:=qQ r sl;show gi (SetTable.insertAt t.place (SetTable.below t.place sl) sl);generalize SetTable.below t.place sl=p at h b1 b2 b3;have b4:∀k,p<=k->k<t.place.size->sl<t.place.getD k 0:=by
  intro k d a;have e:t.place[p]?=some (t.place.getD p 0):=by rw[z3 (by lia)];simp[Array.getD,show p<t.place.size by lia]
  have f:t.place.getD p 0≠sl:=λz=>h (by rw[e,z]);have h1:=b3 p (f_ _) (by lia);have h2:=r.le d a;lia
 intro i j b c;rw[EH b1]at c;rw[yX b1,yX b1]
 by_cases h1:j<p
 ·rw[mo (by lia),mo h1];exact r i j b (by lia)
 ·rw[l_ h1]
  by_cases h2:j=p
  ·rw[mo h2,mo (by lia)];exact b2 i (by lia)
  ·rw[l_ h2,mo c]
   by_cases h3:i<p
   ·rw[mo h3];have:=b2 i h3;have:=b4 (j-1) (by lia) (by lia);lia
   ·rw[l_ h3]
    by_cases h4:i=p
    ·rw[mo h4];exact b4 (j-1) (by lia) (by lia)
    ·rw[l_ h4,mo (by lia)];exact r (i-1) (j-1) (by lia) (by lia)
def qR.lay{led:Bool}{t:SetTable}(x:qR led t)(c:Array (Int×Value))(h:Int)(v:Value):qR led (layNew t c h v).2.1:=by
 refine⟨(HV t c h v).1.trans x.led,?_⟩;unfold layNew
 split
 ·rename_i sl wd e;intro a;dsimp only at a⊢;unfold SetTable.orStandIn at a⊢
  split
  ·rename_i b;rw[mo b]at a;exact BU (x.up a) (Cq e)
  ·rename_i b;rw[l_ b]at a;cases a
 ·intro a;cases a
def qR.relay{led:Bool}{t:SetTable}(x:qR led t)(f:Array (Int×Value))(n:Nat):qR led (relayAll t f n).2.1:=by
 refine⟨(C0 t f n).1.trans x.led,?_⟩;unfold relayAll
 split
 ·rename_i m o e;dsimp only
  split
  ·intro _;unfold SetTable.relaid SetTable.laid at e;cases hc:SetTable.layClean (SetTable.sizeAbove n-1) (f.map (·.1))with|none=>rw[hc]at e;cases e|some ow=>
    rw[hc]at e;cases e;show gi ((((List.range (SetTable.sizeAbove n-1+1)).filterMap λj=>(ow.getD j none).map (j,·)).map (·.1)).toArray);have l:(((List.range (SetTable.sizeAbove n-1+1)).filterMap λj=>(ow.getD j none).map (j,·)).map (·.1)).Pairwise (·<·):=by rw[List.map_filterMap];refine List.Pairwise.filterMap _ (R:=(·<·)) (S:=(·<·)) ?_ List.pairwise_lt_range;intro a b g x c y d;cases i:ow.getD a none with|none=>rw[i]at c;cases c|some v=>cases k:ow.getD b none with|none=>rw[k]at d;cases d|some u=>rw[i]at c;rw[k]at d;cases c;cases d;exact g
    exact zL l
  ·intro h;cases h
 ·intro h;cases h
end L2
namespace L2
open PySem
section
variable{prog:Oe}{w:World}{c:Type}[DecidableEq c](knd:PySem.KeyKind prog w c)(kOf:Value->c)
structure jL(led:Bool)(h:Heap)(a:Addr)(ks:List c):Prop where ex:∃o es ep t,h.get? a=some o/\o.ExactSet/\o.data=.set es ep t/\ElemsOf knd es.toList/\(es.toList.map λe=>kOf e.2).Perm ks/\es.size<scanBound/\t.fits es.size=true/\qR led t
variable{knd kOf}
def jL.keep(x:jL knd kOf led h a d)(k:∀o,h.get? a=some o->h'.get? a=some o):jL knd kOf led h' a d:=by obtain⟨o,b,f,t,e,r⟩:=x.ex;exact⟨o,b,f,t,k o e,r⟩
variable{A:Around}{E:Oa}{s:Shared}
def Ek(f:∀k v,knd.is k v=true->kOf v=k)(d:ElemsOf knd g)(h:(g.map λe=>kOf e.2).Perm i)(k:c):k∈i↔∃e∈g,knd.is k e.2=true:=by
 rw[<-h.mem_iff,oi]
 constructor
 ·rintro⟨e,a,rfl⟩;obtain⟨⟨b,h1,_⟩,_⟩:=d e a;refine⟨e,a,?_⟩;rw[f b e.2 h1];exact h1
 ·rintro⟨e,a,h1⟩;exact⟨e,a,f k e.2 h1⟩
def tu{led:Bool}{h:Heap}{a:Addr}{o:Obj}{l d:Array (Int×Value)}{i:Nat}{t f:SetTable}{ks:List c}(m:h.get? a=some o)(hex:o.ExactSet)(hd:o.data=.set l i t)(j:ElemsOf knd d.toList)(n:(d.toList.map λe=>kOf e.2).Perm ks)(p:d.size<scanBound)(r:f.fits d.size=true)(u:qR led f):(h.update a (Obj.putSet d f)).get? a=some {o with data:=.set d (i+1) f}/\jL knd kOf led (h.update a (Obj.putSet d f)) a ks:=by
 have g:(h.update a (Obj.putSet d f)).get? a=some {o with data:=.set d (i+1) f}:=by
  have q:=vr (Obj.putSet d f) m (by rw[putSet_of d f hd];rfl)
  rwa[putSet_of d f hd]at q
 exact⟨g,_,d,i+1,f,g,hex,rfl,j,n,p,r,u⟩
def Fq{led:Bool}{a:Addr}{f:List c}{k:c}{x:Value}{Q:Bool->Shared->Prop}(Z:∀k v,knd.is k v=true->kOf v=k)(i:knd.is k x=true)(y:x.scannable=true)(hS:jL knd kOf led s.heap a f)(G:f.length+1<scanBound)(h:∀h' b,Heap.SameBut a s.heap h'->jL knd kOf led h' a (if k∈f then f else f++[k])->Q b {s with heap:=h'}):wpAny (model prog w) A (setAddHashed a x (knd.hash k)) Q E s:=by
 obtain⟨o,D,ep,t,O,hex,hd,m,P,hb,Y,ti⟩:=hS.ex;have hn:D.size=f.length:=by rw[<-P.length_eq,b_,o0]
 have p:=Ek Z m P;unfold setAddHashed setAddHashedIn;refine ri (a_ (Mg O hd Y ?_));dsimp only;rw[byScan_of y hb m,mo rfl];unfold setAddByScan;refine a_ (a_ (Es (a_ (wpAny_setScan_of i O hd Y m ?_))));cases hr:List.findIdx? (λe=>knd.is k e.2) D.toList with|some j=>obtain⟨hj,R,_⟩:=List.findIdx?_eq_some_iff_getElem.mp hr;have B:k∈f:=(p k).mpr ⟨_,t_ hj,R⟩;refine e_ (e_ ?_);have q:=h s.heap false (Heap.SameBut.refl a s.heap);rw[mo B]at q;exact q hS|none=>
  have B:k∉f:=λz=>by obtain⟨e,he,h1⟩:=(p k).mp z;have:=List.findIdx?_eq_none_iff.mp hr e he;rw[h1]at this;cases this
  dsimp only;have q:∀h' b,Heap.SameBut a s.heap h'->jL knd kOf led h' a (f++[k])->Q b {s with heap:=h'}:=λh' b sb x=>h h' b sb (by rw[l_ B];exact x);have F:=layNew_perm t D (knd.hash k) x;have H:=layNew_fits t D (knd.hash k) x;have I:=ti.lay D (knd.hash k) x;generalize hL:layNew t D (knd.hash k) x=L at F H I⊢;obtain⟨d,S,wd,gv⟩:=L;dsimp only at F H I⊢;rw[NU]at F;have u:ElemsOf knd d.toList:=(m.push i y).perm F;have J:(d.toList.map λe=>kOf e.2).Perm (f++[k]):=by refine(F.map _).trans ?_;rw[me,NI,Z k x i];exact P.append_right _
  have T:d.size=f.length+1:=by rw[<-o0,F.length_eq,k_,o0,hn];rfl
  have n:d.size<scanBound:=by rw[T];exact G
  have say:∀(b:Bool)(U:Shared)(V:Unit->Shared->Prop),V () U->wpAny (model prog w) A (match b with|true=>rule "set.scan.the-table-gave-way"|false=>pure ()) V E U:=λb U V z=>by cases b<;>first|exact e_ z|exact Es z
  have l:∀g:SetTable,g.fits d.size=true->qR led g->wpAny (model prog w) A (do
 storeSet a d g if(!wd&&g.tooFull)=true then do
      (match(relayAll g d (SetTable.grown d.size)).2.2 with|true=>rule "set.scan.the-table-gave-way"|false=>pure ())storeSet a (relayAll g d (SetTable.grown d.size)).1 (relayAll g d (SetTable.grown d.size)).2.1
      pure (some true)else pure (some true)) (λr s'=>wpAny (model prog w) A (match r with|some C=>pure C|none=>setAddHashedIn a x (knd.hash k) 99999) Q E s') E s:=by
   intro g f2 i2;refine a_ (wpAny_storeSet_of O hd ?_ (fits_of_scanBound n));obtain⟨g1,S1⟩:=tu (knd:=knd) (kOf:=kOf) O hex hd u J n f2 i2;have K:=L7 s.heap a (Obj.putSet d g);refine v_ (λ_=>?_) (λ_=>e_ (e_ (q _ _ K S1)));have M:=relayAll_perm g d (SetTable.grown d.size);have r2:=relayAll_fits g d (SetTable.grown d.size);have W:=i2.relay d (SetTable.grown d.size);generalize relayAll g d (SetTable.grown d.size)=Rl at M r2 W⊢;obtain⟨X,t3,aa⟩:=Rl;dsimp only at M r2 W⊢;have N:X.size=d.size:=by rw[<-o0,M.length_eq,o0]
   refine a_ (say _ _ _ ?_);refine a_ (wpAny_storeSet_of (s:={s with heap:=s.heap.update a (Obj.putSet d g)}) g1 rfl ?_ (fits_of_scanBound (by rw[N];exact n)));obtain⟨_,S2⟩:=tu (knd:=knd) (kOf:=kOf) (ks:=f++[k]) g1 hex rfl (u.perm M) ((M.map _).trans J) (by rw[N];exact n) r2 W;exact e_ (e_ (q _ _ (K.trans (L7 _ a _)) S2))
  refine a_ (say _ _ _ ?_)
  split
  ·refine a_ ?_;rw[hashByValue_scannable 8 y];refine e_ ?_;cases ac:plainKind x with|true=>exact l S H I|false=>exact l {S with plain:=false} (SetTable.fits_plain_off H) I.off
  ·exact a_ (e_ (l S H I))
end
end L2
namespace L2
open PySem PySem.Spec PyProof.Rows
section
variable{prog:Oe}{w:World}{A:Around}{E:Oa}{s:Shared}
def Gy(v:Value)(h:Q₁ (.ref s.heap.objs.size) {s with heap:=s.heap.push (fP (!w.params.followText "set-order"))}):codeAny (model prog w) A (.call (.builtin "set.__new__") ⟨[.type "set",v],[]⟩) (wants Q₁ E) s:=by refine codeAny_of_tree (show wpAny _ A.in1 (do checkBuiltinCall "set.__new__" ⟨[.type "set",v],[]⟩;again (.builtin "set.__new__" ⟨[.type "set",v],[]⟩)) _ _ s from ?_);refine a_ (wpAny_of_eq (F.newCall_set_1 v) (e_ ⟨MJ F.plain_set_new _,Mx F.entry_set_new ?_⟩));rw[Mq F.plain_set_new _];unfold Builtin.«set.__new__»Builtin.Frozenset.newClass;have a:=sub_set_self;obtain⟨b,g,d,tk,os⟩:=s;dsimp only;wp_walk;refine Mr (e_ ?_);dsimp only;simp only[newObj];exact a_ (wpAny_alloc (e_ (e_ h)))
end
section
variable{prog:Oe}{w:World}{A:Around}{R:Result->Shared->Prop}{c:Type}[DecidableEq c][BEq c][LawfulBEq c]{j a:Addr}{fp g:Oj}{G:Array GenState->Array GenState->Prop}{n:Nat}{P:Nat->Value->Prop}{St:Nat->Shared->Prop}
def Cw(l:List c)(x:c)[d:Decidable (x∈l)]:(if x∈l then l else l++[x])=step_dedup l x:=by
 unfold step_dedup
 by_cases h:x∈l
 ·have q:(l.any λy=>y==x)=true:=NZ.mpr ⟨x,h,Ms x⟩;rw[mo h,mo q]
 ·have q:¬(l.any λy=>y==x)=true:=λz=>h (by obtain⟨y,b,q⟩:=NZ.mp z;rw[<-eq_of_beq q];exact b);rw[l_ h,l_ q]
def Cr(l:PySem.KeyKind prog w c)(kOf:Value->c)(led:Bool)(I:∀k v,l.is k v=true->kOf v=k)(q:WalksS prog w A.in1 j fp g G n P St)(C:a∉fp)(h:Nat->c)(r:∀i v,P i v->l.is (h i) v=true/\v.scannable=true)(D:n+1<scanBound):∀(d i:Nat)(s:Shared),n-i=d->i<=n->St i s->jL l kOf led s.heap a (ur h i)->(∀p,Moved (a::g) G s p->jL l kOf led p.heap a (ur h n)->R (.ok (.ret .none)) p)->codeAny (model prog w) A (.builtin "set.update.loop" ⟨[.ref a,.ref j],[]⟩) R s:=by
 have aw:a∉g:=λz=>C (q.sub _ z);have up:∀b∈g,b∈a::g:=λb z=>lm _ z;intro d
 induction d with|zero=>
  intro i s hd hi st f k;obtain rfl:i=n:=by lia
  refine Mx F.entry_set_update_loop ?_;rw[Mq Nl _];refine a_ (m:=pyNext (.ref j)) (q.done s _ _ st λp t=>?_);exact e_ (k p (t.mono up) (f.keep λo e=>t.heap a o aw e))|succ d J=>
  intro i s hd hi st f k;have lt:i<n:=by lia
  refine Mx F.entry_set_update_loop ?_;rw[Mq Nl _];refine a_ (m:=pyNext (.ref j)) (q.item i s _ _ lt st λv p Y u t=>?_);obtain⟨E,K⟩:=r i v Y;have L:jL l kOf led p.heap a (ur h i):=f.keep λo e=>t.heap a o aw e;refine a_ (m:=holding [v] (setAdd a v)) (ri ?_);unfold setAdd;refine ri (a_ (l.pyHash (k:=h i) E ?_));have M:(ur h i).length+1<scanBound:=by have:=Ej h i;lia
  refine Fq (s:={p with toks:=p.toks+1}) I E K L M λh' O H f2=>?_;rw[Cw,<-vY]at f2;refine e_ ⟨MJ Nl _,J (i+1) _ (by lia) lt (q.frame _ p _ _ u (so _) λb z o e=>?_) f2 λx y N=>?_⟩
  ·exact(H.2 b λB=>C (B▸z)).trans e
  ·refine k x (Moved.trans q.gtrans ((t.mono up).then_heap (so _) λb o z e=>?_) y) N;exact(H.2 b λB=>z (B▸m_)).trans e
end
section
variable{prog:Oe}{w:World}{A:Around}{E:Oa}{s:Shared}{d:Type}[DecidableEq d][BEq d][LawfulBEq d]
set_option maxHeartbeats 3200000 in
def yV{b:Bool}(n:PySem.KeyKind prog w d)(kOf:Value->d)(T:∀k v,n.is k v=true->kOf v=k){l:Addr}{j:Oh}{key:Nat->d}{Q:Oa}(hh:A.handled=none)(W:qd b s.heap l j)(y:∀i v,j[i]?=some v->n.is (key i) v=true/\v.scannable=true)(z:j.size+1<scanBound)(k:∀(h':Heap)(tk:Nat),jL n kOf (!w.params.followText "set-order") h' s.heap.objs.size (ur key j.size)->(∀b o,s.heap.get? b=some o->h'.get? b=some o)->Q (.ref s.heap.objs.size) {s with heap:=h',toks:=tk}):wpAny (model prog w) A (call (.type "set") [.ref l]) Q E s:=by
 obtain⟨c,tl,L⟩:=F.called_set.mro;have made:=F.called_set.made;have sub:=F.called_set.sub;have nt:=F.called_set.notType;have cc:=F.called_set.canCreate;have tc:=F.typeCall_set_1 (.ref l);refine wpAny_call (codeAny_of_tree ?_);show wpAny _ _ (callAny (.type "set") _) _ _ _;refine e_ ⟨Code.quiet_builtin _ (by decide+kernel),Mx F.entry_type_call ?_⟩;rw[Around.under_plain (weight_type_call_type "set" [.ref l] []) rfl]
 (repeat(any_goals(first|assumption|wp_step)));skip
 refine Ma (Gy (.ref l) (E:=E) (Q₁:=λu s₁=>u=.ref s.heap.objs.size/\s₁={s with heap:=s.heap.push (fP (!w.params.followText "set-order"))}) ⟨rfl,rfl⟩) λr s₁ G=>?_;cases r with|error e=>exact G|ok U=>cases U with
 |ret u=>
   obtain⟨rfl,rfl⟩:=G;have N:(s.heap.push (fP (!w.params.followText "set-order"))).get? s.heap.objs.size=some (fP (!w.params.followText "set-order")):=j_ _ rfl;have ty:Shared.TypeIs {s with heap:=s.heap.push (fP (!w.params.followText "set-order"))} (.ref s.heap.objs.size) "set":=⟨_,N,rfl⟩;have li:=F.called_set.init.lookup;have bi:=F.called_set.init.bind (.ref s.heap.objs.size)
   (repeat(any_goals(first|assumption|wp_step)));skip
   refine Ma (codeAny_call_builtin (R:=wants (λr p=>r=.none/\∃h' tk,p={s with heap:=h',toks:=tk}/\jL n kOf (!w.params.followText "set-order") h' s.heap.objs.size (ur key j.size)/\∀b o,s.heap.get? b=some o->h'.get? b=some o) E) F.called_set.init.plain F.entry_set_init (check_set_init_1 ty ?_)) λB p m=>?_
   ·obtain⟨⟨cl,V,dt,sl⟩,e,O,P,S⟩:=id W;simp only at O S;subst O;subst S;have X:(s.heap.push (fP (!w.params.followText "set-order"))).get? l=some {cls:=.type (cond b "list" "tuple"),dict:=V,data:=.seq j P,slots:=sl}:=c_ _ e;have s1:isSubtype (.type (cond b "list" "tuple")) (.type "set")=pure false:=by cases b;exact F.sub_tuple_set;exact F.sub_list_set
    have s2:isSubtype (.type (cond b "list" "tuple")) (.type "frozenset")=pure false:=by cases b;exact F.sub_tuple_frozenset;exact F.sub_list_frozenset
    have ne:(Value.type (cond b "list" "tuple")==Value.type "dict")=false:=by cases b<;>decide
    have C:qd b (s.heap.push (fP (!w.params.followText "set-order"))) l j:=⟨_,X,rfl,P,rfl⟩;have Y:∀(A:Around)(I t:Addr),A.handled=none->t≠I->Walks prog w A I [I,t] [I] j.size (λi v=>j[i]?=some v) (λi h=>qX b h I t i/\qd b h t j):=by
     cases b
     ·exactλA I t q r=>Walks.tuple q I t r j
     ·exactλA I t q r=>Walks.list q I t r j
    unfold Builtin.«set.__init__»noKeywords Builtin.Frozenset.updateFrom;generalize H:pyIter=PI;wp_walk;subst H;refine AR C ?_;refine a_ (wpAny_runValue ?_);have lt:l<s.heap.objs.size:=np e;have sz:(s.heap.push (fP (!w.params.followText "set-order"))).objs.size=s.heap.objs.size+1:=rm ..;refine Cr n kOf (!w.params.followText "set-order") T ((Y A.in1.in1.in1 _ l (by simp[hh]) (by rw[sz];exact ot (I_ lt))).toS) (a:=s.heap.objs.size) (by rw[sz];simp only[tA,rl,Mj,not_or];exact⟨ot (wr _),qr lt⟩) key y z (j.size-0) 0 _ (by omega) (o_ _) ⟨⟨_,j_ _ rfl,rfl,rfl⟩,C.at λ_ e=>c_ _ e⟩ ?f0 ?fR
    case f0=>have g:((s.heap.push (fP (!w.params.followText "set-order"))).push {cls:=.type (cond b "list_iterator" "tuple_iterator"),data:=.fields #[.ref l,.int 0 0]}).get? s.heap.objs.size=some (fP (!w.params.followText "set-order")):=c_ _ N;exact⟨_,#[],0,_,g,⟨rfl,rfl,rfl⟩,rfl,λe Z=>by simp at Z,NG _,by decide,by rfl,⟨rfl,λ_=>gi.few (o_ _)⟩⟩
    case fR=>rintro⟨h',g',d',J,K⟩D f;obtain rfl:g'=s.gens:=D.gens;obtain rfl:d'=s.drawn:=D.drawn;obtain rfl:K=s.os:=D.os;show wpAny _ _ _ _ _ _;refine e_ (show wpAny _ _ (ret Value.none) _ _ _ from e_ ⟨rfl,h',J,rfl,f,λb o q=>?_⟩);have b1:b<s.heap.objs.size:=np q;exact D.heap b o (by rw[sz];simp only[tA,rl,Mj,not_or];exact⟨ot b1,ot (I_ b1)⟩) (c_ _ (c_ _ q))
   ·cases B with|error e=>exact m|ok x=>cases x with|ret r=>
      obtain⟨rfl,h',tk,rfl,f,kk⟩:=m
      (repeat(any_goals(first|assumption|wp_step)));exact k _ _ f kk|_=>exact m.elim
  |_=>exact G.elim
end
end L2
namespace L2
open PySem PySem.Spec PyProof.Rows
section
variable{prog:Oe}{w:World}{A:Around}{E:Oa}{s:Shared}
def Dy(hh:A.handled=none)(l:fT s.heap a f y t)(hn:f.size<=sizeLine)(n:w.params.followText "set-order"=false->t.led=true)(p:t.plain=true->gi t.place)(h:∀(h1:Heap)(d:Drawn)(tk:Nat)(c:Od),c.Perm (f.toList.map (·.2))->(∀b o,s.heap.get? b=some o->h1.get? b=some o)->s.heap.objs.size<=h1.objs.size->(h1.push (seqObj "list" c.toArray 0)).get? h1.objs.size=some (seqObj "list" c.toArray 0)->wpAny (model prog w) A.in1.in1 (Builtin.«list.sort» ⟨[.ref h1.objs.size],[]⟩) (λfin i=>∃v,fin=.done (.ret v)/\Q (.ref h1.objs.size) i) E {s with heap:=h1.push (seqObj "list" c.toArray 0),drawn:=d,toks:=tk}):wpAny (model prog w) A (call (.builtin "sorted") [.ref a]) Q E s:=by
 refine Calls.call_function_entry kind_sorted plain_sorted entry_sorted (args_sorted1 _) ?_;unfold Builtin.«sorted»;refine a_ (m:=checkCount "sorted" 1 1 _) (e_ ?_);refine a_ (zf (A:=A.in1) hh l hn n p λh1 d tk c j k r=>?_);have u:c.length=f.size:=by rw[j.length_eq,b_,o0]
 refine a_ (wpAny_newList ?_ (by rw[u];exact hn));have g:(h1.push (seqObj "list" c.toArray 0)).get? h1.objs.size=some (seqObj "list" c.toArray 0):=j_ _ rfl;refine a_ (ri (rk slot_list_sort (s:={s with heap:=h1.push (seqObj "list" c.toArray 0),drawn:=d,toks:=tk}) ⟨_,g,rfl⟩ entry_list_sort (wpAny_mono (h h1 d tk c j k r g) (λfin i x=>?_) λ_ _ e=>e) (args_list_sort _)));obtain⟨v,rfl,q⟩:=x;exact⟨v,rfl,e_ ⟨_,rfl,q⟩⟩
def yZ{h1:Heap}{vs:Od}{out:Oh}:(∀b o,h1.get? b=some o->(sortedHeap (h1.push (seqObj "list" vs.toArray 0)) h1.objs.size vs out).get? b=some o)/\∃e,(sortedHeap (h1.push (seqObj "list" vs.toArray 0)) h1.objs.size vs out).get? h1.objs.size=some (seqObj "list" out e):=by have g:(h1.push (seqObj "list" vs.toArray 0)).get? h1.objs.size=some (seqObj "list" vs.toArray 0):=j_ _ rfl;refine⟨λb o e=>?_,sortedHeap_at g⟩;have a:b<h1.objs.size:=np e;rw[sortedHeap_old (ot a) (by rw[rm];exact I_ a)];exact c_ _ e
end
end L2
namespace L2
open PySem PySem.Spec PyProof.Rows
def kOf:Value->bQ|.int i _=>.inl i|.str x _=>.inr x|_=>.inl 0
def ED(P:Oe)(w:World):∀(k:bQ)(v:Value),(aX P w).is k v=true->kOf v=k:=λk v h=>by rcases cK h with⟨i,t,rfl,rfl⟩|⟨x,t,rfl,rfl⟩<;>rfl
abbrev wO(P:Oe)(w:World)(q:Addr)(a:List bQ):HO:=.ext λh=>jL (aX P w) kOf (!w.params.followText "set-order") h q a
theorem aO.drawn(I:aO X a c H s)(d:Drawn):aO X a c H {s with drawn:=d}:=⟨I.ok,I.os,I.bare,I.base,I.loc,I.cell,I.free,I.freeC,I.pin,I.hok,I.len⟩
theorem vF:∀{a:Od}{c:Of},StrsAre a c->bf (c.map V.str) a|_,_,.nil=>.nil|_,_,.cons x t h=>.cons ⟨t,rfl⟩ (vF h)
def Hd(b:Bool)(K:N_)(H:Hp)(p:Addr)(a:List V):Prop:=cond b (aY K H p a) (aS K H p a)
def aO.sqE{X:Cx}{c:Ob}{g:St}{H:Hp}{s:Shared}{b:Bool}{p:Addr}{e:List V}(I:aO X c g H s)(h:Hd b X.K H p e):∃a,bf e a/\qd b s.heap p a.toArray/\∀d,Hd b X.K H p d->d=e:=by cases b with|false=>obtain⟨a,f,p,_⟩:=I.tuple h;exact⟨a,f,p,λd q=>I.tuple_inj q h⟩|true=>obtain⟨a,f,p,_⟩:=I.list h;exact⟨a,f,p.isList,λd q=>I.list_inj q h⟩
section
variable{X:Cx}
def wy{b:Bool}(hc:X.calm=true):dw X (.type "set") (λj H Q=>∃(p:Addr)(a:List bQ),j=[.ref p]/\Hd b X.K H p (a.map kV)/\a.length<4000/\∀q,H q=none->Q (.ref q) (aI H q (wO X.prog X.w q (dd a)))):=by
 intro k s C H j D Q I r h;obtain⟨p,a,rfl,t,l,q⟩:=h;obtain⟨u,rfl,y⟩:=j5 r;cases y;obtain⟨c,m,pl,E⟩:=I.sqE t;have n:=m.length;rw[b_]at n;refine yV (aX X.prog X.w) kOf (ED _ _) (key:=λi=>a.getD i (.inl 0)) (I.ok.hd hc) pl (λi v d=>?_) (by rw[n_];unfold scanBound;omega) λh' tk f A=>?_
 ·have d:c[i]?=some v:=by simpa using d
  have hi:i<c.length:=(d_.mp d).1;obtain⟨u,h1,h2⟩:=m.get (i:=i) (x:=kV (a[i]'(by lia))) (by rw[i_,h_ (by lia)];rfl);rw[d]at h1;cases h1;have e:a.getD i (.inl 0)=a[i]'(by lia):=by simp[List.getD,h_ (show i<a.length by lia)]
  show(aX X.prog X.w).is (a.getD i (.inl 0)) v=true/\_;rw[e,z9];exact GO h2
 ·rw[show c.toArray.size=a.length by rw[n_];exact n.symm,GC]at f;refine⟨.ref s.heap.objs.size,_,I.laid (h':=h') (t':=tk) (o:=wO X.prog X.w s.heap.objs.size (dd a)) A (f_ _) ⟨f,?_,λh1 h2 g B=>g.keep B⟩,rfl,q _ (I.hok.fresh (f_ _))⟩;obtain⟨o,_,_,_,e,_⟩:=f.ex;exact⟨o,e⟩
def CF:dw X (.builtin "len") (λc H Q=>∃(p:Addr)(a:List bQ),c=[.ref p]/\H p=some (wO X.prog X.w p a)/\a.length<=4096/\Q (.int a.length) H):=by
 intro b s l H c m Q I r h;obtain⟨p,a,rfl,d,hn,q⟩:=h;obtain⟨u,rfl,g⟩:=j5 r;cases g;obtain⟨f,_,_⟩:=I.hok p _ d;obtain⟨o,i,n,t,e,ex,hd,_,pm,_,j,_⟩:=f.ex;have k:i.size=a.length:=by rw[<-pm.length_eq,b_,o0]
 refine call_len_set e ex hd j (by omega) ⟨.int _,H,I.tok _,⟨_,rfl⟩,?_⟩;rw[k];exact q
def IH(f:jL (aX P w) kOf led h a g):∃c d t,fT h a c d t/\c.size=g.length/\(c.toList.map λe=>kOf e.2).Perm g/\qR led t/\∀e∈c.toList,nZ (kOf e.2) e.2=true:=by obtain⟨o,c,d,t,e,ex,hd,b,pm,_,i,j⟩:=f.ex;refine⟨c,d,t,⟨⟨o,e,ex.1,hd⟩,i⟩,by rw[<-pm.length_eq,b_,o0],pm,j,λx l=>?_⟩;obtain⟨⟨k,h1,_⟩,_⟩:=b x l;rw[ED P w k x.2 h1];exact h1
variable{P:Oe}{w:World}
def uG(K:N_)(c:X.K=K)(hc:X.calm=true)(d:X.prog=P:=by rfl)(e:X.w=w:=by rfl):dw X (.type "set") (λf H Q=>∃(p:Addr)(a:List bQ),f=[.ref p]/\aY K H p (a.map kV)/\a.length<4000/\∀q,H q=none->Q (.ref q) (aI H q (wO P w q (dd a)))):=by subst c;subst d;subst e;exact wy (b:=true) hc
def Ax(K:N_)(c:X.K=K)(hc:X.calm=true)(d:X.prog=P:=by rfl)(e:X.w=w:=by rfl):dw X (.type "set") (λf H Q=>∃(p:Addr)(a:List bQ),f=[.ref p]/\aS K H p (a.map kV)/\a.length<4000/\∀q,H q=none->Q (.ref q) (aI H q (wO P w q (dd a)))):=by subst c;subst d;subst e;exact wy (b:=false) hc
def uH(c:X.prog=P:=by rfl)(d:X.w=w:=by rfl):dw X (.builtin "len") (λe H Q=>∃(p:Addr)(a:List bQ),e=[.ref p]/\H p=some (wO P w p a)/\a.length<=4096/\Q (.int a.length) H):=by subst c;subst d;exact CF
end
end L2
namespace L2
open PySem PySem.Spec PyProof.Rows
section
variable{prog:Oe}{w:World}{A:Around}{E:Oa}{s:Shared}
def ny(a b:Str):Prop:=¬b.cps.toList<a.cps.toList
def u0(g:StrsAre d v)(h:a.Perm (pairsOf d))(n:SortedToK strKind a (pairsOf d).size):∃c,StrsAre (a.map (·.2)).toList c/\c.Perm v/\c.Pairwise ny:=by
 obtain⟨o,h1,h2,_⟩:=sorted_out_str g h n;refine⟨o,h1,h2,?_⟩;have z:a.toList.Perm (d.zip d):=by rw[<-pairsOf_toList];exact Array.perm_iff_toList_perm.mp h
 have b:∀p,p∈a.toList->p.1=p.2/\p.1∈d:=λp k=>mem_zip_self (z.mem_iff.mp k);have e:o=a.toList.map λp=>strOf p.2:=by rw[<-h1.strs,Array.toList_map,A_];rfl
 rw[e,List.pairwise_iff_getElem];intro i j hi B l;have m:i<a.size:=by simpa using hi
 have f:j<a.size:=by simpa using B
 have q:=n i j (z_ l) (by rw[<-h.size_eq];exact f);obtain⟨x,t,ex⟩:=g.all _ (b a[i] (by simp)).2;obtain⟨y,u,r⟩:=g.all _ (b a[j] (by simp)).2;rw[KK_str m (x:=x) (t:=t) (q:=a[i].2) (Prod.ext ex rfl),KK_str f (x:=y) (t:=u) (q:=a[j].2) (Prod.ext r rfl)]at q
 change decide (y.cps.toList<x.cps.toList)=false at q
 simp only[NY,Array.getElem_toList];have C:strOf a[i].2=x:=by rw[<-(b a[i] (by simp)).1,ex];rfl
 have D:strOf a[j].2=y:=by rw[<-(b a[j] (by simp)).1,r];rfl
 unfold ny;rw[C,D];exact of_decide_eq_false q
def tw(hh:A.handled=none)(r:fT s.heap a f P t)(u:f.size<64)(y:w.params.followText "set-order"=false->t.led=true)(B:t.plain=true->gi t.place)(C:∀e∈f.toList,∃x t,e.2=Value.str x t)(h:∀(D:Addr)(h':Heap)(F:Drawn)(tk e:Nat)(out:Od)(i:Of),s.heap.objs.size<=D->(∀b o,s.heap.get? b=some o->h'.get? b=some o)->h'.get? D=some (seqObj "list" out.toArray e)->StrsAre out i->i.Perm (f.toList.map λe=>strOf e.2)->i.Pairwise ny->Q (.ref D) {s with heap:=h',drawn:=F,toks:=tk}):wpAny (model prog w) A (call (.builtin "sorted") [.ref a]) Q E s:=by
 refine Dy hh r (by rw[nk];lia) y B λh1 G tk c j H I g=>?_;have R:c.length=f.size:=by rw[j.length_eq,b_,o0]
 have k:StrsAre c (c.map strOf):=strsAre_map c λv hm=>by obtain⟨e,J,rfl⟩:=oi.mp (j.mem_iff.mp hm);exact C e J
 refine list_sort_treeK strKind_oneLt g k.keysOf (λp q qv e=>keyKind_strs (by rw[<-e];exact k)) (by lia) λd l m=>⟨_,rfl,?_⟩;obtain⟨n,K,L,M⟩:=u0 k l m;obtain⟨N,e,O⟩:=yZ (h1:=h1) (vs:=c) (out:=(arrOf d).map (·.2));refine h h1.objs.size _ G tk e ((arrOf d).map (·.2)).toList n I (λb o z=>N b o (H b o z)) ?_ K (L.trans ?_) M
 ·rw[Array.toArray_toList];exact O
 ·have:=j.map strOf;rw[A_]at this;exact this
end
section
variable{X:Cx}
def zh(hc:X.calm=true):dw X (.builtin "sorted") (λj H Q=>∃(p:Addr)(a:Of),j=[.ref p]/\H p=some (wO X.prog X.w p (a.map Sum.inr))/\a.length<64/\∀(q:Addr)(c:Of),H q=none->c.Perm a->c.Pairwise ny->Q (.ref q) (aI H q (.lst (c.map V.str)))):=by
 intro l s N H j O Q I r h;obtain⟨p,a,rfl,C,hn,q⟩:=h;obtain⟨u,rfl,E⟩:=j5 r;cases E;obtain⟨f,_,_⟩:=I.hok p _ C;obtain⟨m,P,t,F,n,pm,v,G⟩:=IH f;rw[b_]at n;have A:∀e∈m.toList,∃x t,e.2=Value.str x t:=λe d=>by
  have hm:kOf e.2∈a.map Sum.inr:=pm.mem_iff.mp (oi.mpr ⟨e,d,rfl⟩);obtain⟨x,_,b⟩:=oi.mp hm;rcases cK (G e d)with⟨i,t,h1,h2⟩|⟨y,t,h1,h2⟩
  ·rw[h1]at b;cases b
  ·exact⟨y,t,h2⟩
 refine tw (I.ok.hd hc) F (by lia) (λz=>by rw[v.led,z];rfl) v.up A λD h' J tk e out c B K g sa sp L=>?_;have sl:c.length=a.length:=by rw[sp.length_eq,b_,o0,n]
 have ex:(m.toList.map λe=>strOf e.2).Perm a:=by
  have h1:=pm.map (λk:bQ=>match k with|.inr x=>x|.inl _=>(⟨#[]⟩:Str));rw[A_,A_]at h1;have M:(a.map ((λk:bQ=>match k with|.inr x=>x|.inl _=>(⟨#[]⟩:Str))∘Sum.inr))=a:=by rw[show((λk:bQ=>match k with|.inr x=>x|.inl _=>(⟨#[]⟩:Str))∘Sum.inr)=id from rfl,List.map_id]
  rw[M]at h1;refine(N8 (Mv λe d=>?_)).trans h1;obtain⟨x,t,b⟩:=A e d;rw[b];show strOf (Value.str x t)=(match kOf e.2 with|.inr x=>x|.inl _=>(⟨#[]⟩:Str));rw[b];rfl
 refine⟨.ref D,_,(I.drawn J).laid (h':=h') (t':=tk) (o:=.lst (c.map V.str)) K B ⟨?_,out,e,vF sa,g⟩,rfl,q D c (I.hok.fresh B) (sp.trans ex) L⟩;rw[b_,sl,nk];lia
def xv(hc:X.calm=true)(d:X.prog=P:=by rfl)(e:X.w=w:=by rfl):dw X (.builtin "sorted") (λf H Q=>∃(p:Addr)(a:Of),f=[.ref p]/\H p=some (wO P w p (a.map Sum.inr))/\a.length<64/\∀(q:Addr)(c:Of),H q=none->c.Perm a->c.Pairwise ny->Q (.ref q) (aI H q (.lst (c.map V.str)))):=by subst d;subst e;exact zh hc
end
section
variable{X:Cx}
end
end L2
namespace L2
open PySem PySem.W PyProof.Rows
def oS(P:Oe)(w:World):zr:=λouter H s E e a=>∃(d:Addr)(C:Value)(B:Heap)(t:Addr)(c:Hp),e=.ref d/\a.os=s.os/\AllBare a.gens/\Un (jW outer) [] H c s.heap a.heap/\lQ P w c a.heap/\Heap.FlyingW B outer d C (.ref t) a.heap/\(∀b o,c b=some o->∃u,B.get? b=some u)/\(∀b o,s.heap.get? b=some o->b∉jW outer->∃u,B.get? b=some u)/\E C none c
def y4(h:env.frame=some L):jW (env::l)=L::jW l:=by unfold jW;rw[L6,h]
def lQ.flown{P:Oe}{w:World}{H:Hp}{h h' B:Heap}(x:lQ P w H h)(c:∀b o,H b=some o->∃u,B.get? b=some u)(k:B.StaysIn h)(l:B.StaysIn h'):lQ P w H h':=λa o e=>(x a o e).stay (λb u d q=>by
  obtain⟨f,g⟩:∃f,H b=some f:=by
   rcases d with rfl|d
   ·exact⟨_,e⟩
   ·exact⟨_,d⟩
  obtain⟨v,i⟩:=c b f g;have j:=k b v i;rw[q]at j;cases j;exact l b _ i) (λ_ q=>q) λ_ _ q=>q
section
variable{P:Oe}{w:World}{K:N_}{mg:Oc}{base:Heap}{N:Of}{a:Str}{scope:Scope}{f:Addr}{cd:Value}{A:Around}{outer:List Env}{c:Shared}{d:Hp}{E:XK}
def bU:mM (oS P w) (qJ (oS P w) P w K mg base N a scope f cd A outer c d E) E:=by
 rintro O X H s e G I⟨J,C,B,t,Q,rfl,os,bare,un,hok,r,m,h,q⟩;have v:(envOfC a scope c.heap.objs.size f cd).frame=some c.heap.objs.size:=rfl;have x:jW (envOfC a scope c.heap.objs.size f cd::outer)=c.heap.objs.size::jW outer:=y4 v;have j:Un (jW outer) [] d H c.heap s.heap:=I.base;have un:Un (jW (envOfC a scope c.heap.objs.size f cd::outer)) [] H Q s.heap G.heap:=un;have h:∀b o,s.heap.get? b=some o->b∉jW (envOfC a scope c.heap.objs.size f cd::outer)->∃u,B.get? b=some u:=h;have r:Heap.FlyingW B (envOfC a scope c.heap.objs.size f cd::outer) J C (.ref t) G.heap:=r;have y:∀b o,c.heap.get? b=some o->b∉jW outer->b∉jW (envOfC a scope c.heap.objs.size f cd::outer):=λb o e g hm=>by
  rw[x]at hm;rcases tA.mp hm with rfl|hm
  ·exact absurd (np e) (sm _)
  ·exact g hm
 have p:∀b o,c.heap.get? b=some o->b∉jW outer->∃u,B.get? b=some u:=λb o e g=>by obtain⟨L,i⟩:=j.there b o e (by simp);exact h b L i (y b o e g)
 show wpAny (model P w) (A.deeper (envOfC a scope c.heap.objs.size f cd)) (leaving (envOfC a scope c.heap.objs.size f cd) (.ref J)) _ _ G;refine wpAny_leaves_onW (outer:=outer) I.ok.frames v r λh' k up=>?_;refine⟨J,C,B,t,Q,rfl,os.trans I.os,bare,?_,hok.flown m r.1 k.1,k,m,p,q⟩;have slot:∀b o,c.heap.get? b=some o->d b=none->b∈jW outer->∃sl,h'.get? b=some {o with slots:=sl}:=λb o e n g=>by
  obtain⟨sl,i⟩:=j.slot b o e n g (by simp);have n1:=j.free b o e n (by simp);obtain⟨T,z⟩:=un.slot b _ i n1 (by rw[x];exact lm _ g) (by simp);obtain⟨_,R,l,hd⟩:=I.ok.funs.mem g;have:R=o:=by have l:c.heap.get? b=some R:=l;rw[e]at l;exact(nB l).symm
  subst this;obtain⟨M,D⟩:=up b _ z hd;exact⟨M,D⟩
 refine⟨λb o e n g _=>?_,λb o e n g _=>slot b o e n g,λb o e n _=>?_,λb o e _=>?_,λb S e=>un.tups b S (j.tups b S e),λb o u e=>un.frzs b o u (j.frzs b o u e),λb U e=>?_⟩
 ·have i:=j.keep b o e n g (by simp);have n1:=j.free b o e n (by simp);have z:=un.keep b o i n1 (y b o e g) (by simp);obtain⟨u,F⟩:=p b o e g;have D:=r.1 b u F;rw[z]at D;cases D;exact k.1 b _ F
 ·obtain⟨L,i⟩:=j.there b o e (by simp);exact un.free b L i (j.free b o e n (by simp)) (by simp)
 ·by_cases g:b∈jW outer
  ·have n:d b=none:=I.ok.frf b g;obtain⟨sl,i⟩:=slot b o e n g;exact⟨_,i⟩
  ·obtain⟨u,F⟩:=p b o e g;exact⟨u,k.1 b u F⟩
 ·obtain⟨V,i⟩:=j.tbls b U e;obtain⟨W,z⟩:=un.tbls b _ i;exact⟨V++W,by rw[z,Array.append_assoc]⟩
end
def du.held{P:Oe}{w:World}{H:Hp}{h:Heap}{a:Addr}{o:HO}(x:du P w H h a o):∃u,h.get? a=some u:=by cases o with|lst c=>obtain⟨_,_,_,_,e⟩:=x;exact⟨_,e⟩|tup c=>obtain⟨_,_,_,_,e,_⟩:=x;exact⟨_,e⟩|dK b=>obtain⟨_,_,_,_,o,_,_,e,_⟩:=x;exact⟨_,e⟩|dT b=>obtain⟨_,_,_,_,o,_,_,e,_⟩:=x;exact⟨_,e⟩|set S n=>obtain⟨o,_,_,_,e,_⟩:=x;exact⟨_,e⟩|ins C dx fs=>obtain⟨_,_,_,e,_⟩:=x;exact⟨_,e⟩|own y=>exact x|xd fs=>obtain⟨_,⟨_,_,_,e,_⟩,_⟩:=x;exact⟨_,e⟩|rng lo hi=>obtain⟨_,_,_,e⟩:=x;exact⟨_,e⟩|frz ob u=>exact⟨_,x.1⟩|tbl d=>exact⟨_,(show h.get? a=some _ from x)⟩|met f y=>exact⟨_,(show h.get? a=some _ from x)⟩|ext φ=>exact x.2.1
def Ft(X:Cx)(E:XK):Prop:=∀(a:Ob)(c:St)(H:Hp)(s:Shared)(C:Value)(d:Od)(h':Heap)(b:Addr),aO X a c H s->Heap.MadeExcOf s.heap h' b C d->E C none H->X.xe (.ref b) {s with heap:=h'}
section
variable{P:Oe}{w:World}{K:N_}{mg:Oc}{base:Heap}{N:Of}{a:Str}{scope:Scope}{f:Addr}{cd:Value}{A:Around}{outer:List Env}{c:Shared}{d:Hp}{E:XK}
def eM:Ft (qJ (oS P w) P w K mg base N a scope f cd A outer c d E) E:=by
 intro L V H s C W h' M I O q;have m:(envOfC a scope c.heap.objs.size f cd).frame=some c.heap.objs.size:=rfl;have z:jW (envOfC a scope c.heap.objs.size f cd::outer)=c.heap.objs.size::jW outer:=y4 m;have k:Un (jW outer) [] d H c.heap s.heap:=I.base;have p:∀b o,c.heap.get? b=some o->b∉jW outer->b∉jW (envOfC a scope c.heap.objs.size f cd::outer):=λb o e g hm=>by
  rw[z]at hm;rcases tA.mp hm with rfl|hm
  ·exact absurd (np e) (sm _)
  ·exact g hm
 generalize D:hideAll s.heap (jW (envOfC a scope c.heap.objs.size f cd::outer))=B;have l:∀{b o},s.heap.get? b=some o->b∉jW (envOfC a scope c.heap.objs.size f cd::outer)->B.get? b=some o:=λe g=>by rw[<-D];exact hideAll_get _ e g
 have r:B.StaysIn s.heap:=λb o e=>by rw[<-D]at e;exact of_hideAll _ e
 have fr:s.heap.FunFrames B (envOfC a scope c.heap.objs.size f cd::outer):=by rw[<-D];exact funFrames_hide (base:=base) I.stack λenv R b g=>List.mem_filterMap.mpr ⟨env,R,g⟩
 have v:∀b o,c.heap.get? b=some o->b∉jW outer->∃u,B.get? b=some u:=λb o e g=>by obtain⟨S,x⟩:=k.there b o e (by simp);exact⟨S,l x (p b o e g)⟩
 have j:∀b o,H b=some o->∃u,B.get? b=some u:=λb o e=>by obtain⟨u,F⟩:=(I.hok b o e).held;exact⟨u,l F λhm=>by have n:H b=none:=I.stkFree b hm;rw[e]at n;cases n⟩
 show wpAny (model P w) (A.deeper (envOfC a scope c.heap.objs.size f cd)) (leaving (envOfC a scope c.heap.objs.size f cd) (.ref M)) _ _ _;refine wpAny_leaves_madeW (outer:=outer) (h:=s.heap) I.ok.frames m r fr O λG t y tup _ up=>?_;refine⟨M,C,B,t,H,rfl,I.os,I.bare,?_,I.hok.flown j r y.1,y,j,v,q⟩;have slot:∀b o,c.heap.get? b=some o->d b=none->b∈jW outer->∃sl,G.get? b=some {o with slots:=sl}:=λb o e n g=>by
  obtain⟨sl,x⟩:=k.slot b o e n g (by simp);have T:=O.keeps _ _ x;obtain⟨_,Q,i,hd⟩:=I.ok.funs.mem g;have:Q=o:=by have i:c.heap.get? b=some Q:=i;rw[e]at i;exact(nB i).symm
  subst this;obtain⟨J,U⟩:=up b _ T hd;exact⟨J,U⟩
 refine⟨λb o e n g _=>?_,λb o e n g _=>slot b o e n g,λb o e n _=>k.free b o e n (by simp),λb o e _=>?_,k.tups,k.frzs,k.tbls⟩
 ·exact y.1 b o (l (k.keep b o e n g (by simp)) (p b o e g))
 ·by_cases g:b∈jW outer
  ·obtain⟨sl,x⟩:=slot b o e (I.ok.frf b g) g;exact⟨_,x⟩
  ·obtain⟨u,F⟩:=v b o e g;exact⟨u,y.1 b u F⟩
end
def wK:List Value:=[.type "ValueError",.type "Exception",.type "BaseException",.type "object"]
def vA(K:N_)(C:Addr):Prop:=excIn K C wK "ValueError.__new__"=true
theorem vA.at{K:N_}{C:Addr}{h:Heap}(kin:K.In h)(x:vA K C):∃l N nm q bs hd g sub i d dd s t u v w m,h.get? C=some (excClassObj nm q C N bs l hd g sub i d dd s t u v w "ValueError.__new__")/\h.Ns N m/\m "__init__"=none/\OwnTail h wK l:=by
 unfold vA excIn at x
 split at x
 ·rename_i dd c sl look
  split at x
  ·rename_i F y k n o p z r a slots;simp only[pa,beq_iff_eq,Bool.not_eq_true']at x;obtain⟨⟨⟨⟨⟨A,B⟩,e⟩,j⟩,b⟩,f⟩:=x;subst A B;rcases c with⟨nm,bs,D,ns,E,hd,g,sub,i,d,dl⟩;dsimp only at a e b f;subst a;subst e;obtain rfl:sl=#[k,n,o,p,some (.builtin "ValueError.__new__"),r]:=by rcases sl with⟨list⟩;exact w_ Array.mk slots
   exact⟨y,ns,nm,E,bs,hd,g,sub,i,d,dd,k,n,o,p,r,_,kin _ _ look,.of_isNs (isNs_of_in kin b),nsMap_none_of_in kin b f,tail_of_in kin j⟩
  ·cases x
 ·cases x
def HW(C:Addr)(E:XK)(t:TA):TS:=λ_ a H=>t a H λb c=>b.length<=sizeLine/\E (.ref C) none c
def eO{X:Cx}{C:Addr}{E:XK}{x:Str}{S a i:Pos}{e:Expr}{d:Og}{t:TA}(W:vA X.K C)(hg:Gl X x)(hm:X.mg x=some (.ref C))(hc:X.calm=true)(Z:Ft X E)(ha:PA X (e::d) t)(j:(x==("__debug__":Str))=false:=by decide)(u:starEach (e::d) X.env=(false,eval e X.env)::starEach d X.env:=by rfl)(l:(backTo a (starEach d X.env)).any (·.1)=false:=by rfl):PS X (.Raise (some (.Call (.Name x S) (e::d) [] a)) none i) (HW C E t):=by
 intro c s v H D I h;obtain⟨w,N,nm,q,bs,hd,y,sub,A,f,dd,B,G,J,L,M,O,U,V,k,T⟩:=W.at I.mod.kin;refine wpAny_Raise_call_subT (C:=C) (N:=N) (bm:=w) (mN:=O) (bmB:=wK) (newId:="ValueError.__new__") (nm:=nm) (q:=q) (bs:=bs) (hdct:=hd) (sn:=y) (sub:=sub) (ab:=A) (col:=f) (dd:=dd) (k0:=B) (k1:=G) (k2:=J) (k3:=L) (k5:=M) PySem.F.excBase_ValueError (T.hasType PySem.F.excBase_ValueError.hasBase) (I.ok.hd hc) ?_ k (pT I hg hm ⟨rfl,?_⟩ j)
 ·rw[u];show(false||(backTo a (starEach d X.env)).any (·.1))=false;rw[l];rfl
 ·have g:=ha a c s v H _ I h;rw[u]at g⊢;refine C2 (cE g λQ R z0=>?_);obtain⟨vs,H1,I1,r,z,q1⟩:=z0;have p:∀b o,X.base.get? b=some o->R.heap.get? b=some o:=I1.bk;exact⟨rfl,by show Q.length<=_;rw[<-r.length];exact z,p _ _ U,V.keeps p,T.keeps p,λh' ea m=>Z c v H1 R (.ref C) Q h' ea I1 m q1⟩
end L2
namespace L2
open PySem PySem.W PyProof.Rows
def Un.flown{fs:Oj}{H i:Hp}{h1 h' h5 B:Heap}(un:Un fs [] H i h1 h')(c:∀b o,h1.get? b=some o->b∉fs->∃u,B.get? b=some u)(k:B.StaysIn h')(j:B.StaysIn h5)(up:h'.UpToSlots h5)(fr:∀b∈fs,H b=none/\∀o,h1.get? b=some o->∀l,o.data≠.fields l):Un fs [] H i h1 h5:=by
 have slot:∀b o,h1.get? b=some o->H b=none->b∈fs->∃sl,h5.get? b=some {o with slots:=sl}:=λb o e n a=>by obtain⟨sl,g⟩:=un.slot b o e n a (by simp);obtain⟨h,d⟩:=up b _ g ((fr b a).2 o e);exact⟨h,d⟩
 refine⟨λb o e n a m=>?_,λb o e n a _=>slot b o e n a,un.free,λb o e _=>?_,un.tups,un.frzs,un.tbls⟩
 ·have p:=un.keep b o e n a m;obtain⟨u,f⟩:=c b o e a;have d:=k b u f;rw[p]at d;cases d;exact j b _ f
 ·by_cases a:b∈fs
  ·obtain⟨sl,g⟩:=slot b o e (fr b a).1 a;exact⟨_,g⟩
  ·obtain⟨u,f⟩:=c b o e a;exact⟨u,j b u f⟩
abbrev Cx.inExc(X:Cx)(a:Addr):Cx:={X with A:=X.A.mark (some (.ref a)),calm:=false,xe:=λ_ _=>False}
section
variable{X:Cx}{a:Ob}{d:St}{H:Hp}{s:Shared}{c:Addr}
theorem Cx.Ok.inExc(ok:X.Ok)(c:Addr):(X.inExc c).Ok:=⟨ok.mod,ok.kind,ok.glob,ok.blt,ok.above,ok.inj,ok.has,ok.cab,λz=>absurd z (by simp),ok.frames,ok.stk,ok.exf,ok.bs,ok.bsz,ok.noex,ok.exfs,ok.funs,ok.frf⟩
theorem aO.inExc(I:aO X a d H s)(c:Addr):aO (X.inExc c) a d H s:=⟨I.ok.inExc c,I.os,I.bare,I.base,I.loc,I.cell,I.free,I.freeC,I.pin,I.hok,I.len⟩
def aO.outExc(ok:X.Ok)(I:aO (X.inExc c) a d H s):aO X a d H s:=⟨ok,I.os,I.bare,I.base,I.loc,I.cell,I.free,I.freeC,I.pin,I.hok,I.len⟩
theorem SP.outExc(ok:X.Ok)(h:SP (X.inExc c) a D f g):SP X a D f g:=by cases f with|next=>obtain⟨b,e,I,q⟩:=h;exact⟨b,e,I.outExc ok,q⟩|brk=>obtain⟨b,e,I,q⟩:=h;exact⟨b,e,I.outExc ok,q⟩|cont=>obtain⟨b,e,I,q⟩:=h;exact⟨b,e,I.outExc ok,q⟩|ret u=>obtain⟨v,b,e,I,r,q⟩:=h;exact⟨v,b,e,I.outExc ok,r,q⟩
end
def mL(c:zr)(X:Cx)(E:XK)(a:Ob)(d:St):Prop:=∀(H:Hp)(s:Shared)(e:Value)(b:Shared),aO X a d H s->c X.stack H s E e b->X.xe e b
def Lf(X:Cx)(a:Ob)(c:St)(e:Expr)(t:TE):Prop:=∀(s:Shared)(H:Hp)(Q:VK),aO X a c H s->t c H Q->wpAny (model X.prog X.w) X.A (eval e X.env) (EP X a c Q) X.xe s
def JN(X:Cx)(a:Ob)(c:St)(st:Stmt)(t:TS):Prop:=∀(s:Shared)(H:Hp)(D:j3),aO X a c H s->t D c H->wpAny (model X.prog X.w) X.A (exec st X.env) (SP X a D) X.xe s
structure Fx(X:Cx)(pins:Ob)(σ:St)(ea:Addr)(C':Value)(H':Hp)(s:Shared):Prop where
 inv:aO X pins σ H' s
 fly:∃(B:Heap)(t:Addr),Heap.FlyingW B X.stack ea C' (.ref t) s.heap/\∀h6,B.StaysIn h6->s.heap.UpToSlots h6->aO X pins σ H' {s with heap:=h6}nh:H' ea=none
 src:∃(H1:Hp)(s1:Shared),aO X pins σ H1 s1/\s1.heap.get? ea=none
def Fx.run{X:Cx}{a:Ob}{d:St}{c:Addr}{m:Value}{e:Hp}{s:Shared}{D:j3}{b:List Stmt}{j:TS}{A:Around}{l:Flow->Shared->Prop}{n o:Oa}(L:Fx X a d c m e s)(hh:∀c,vx (X.inExc c) b j)(g:j D d e)(p:∀f s,SP X a D f s->l f s):wpAny (model X.prog X.w) A (setFlight (.ref c) none) (λ_ s₁=>wpAny (model X.prog X.w) (X.A.mark (some (.ref c))) (execs b X.env) l n s₁) o s:=by obtain⟨B,t,q,k⟩:=L.fly;exact lands_againW q λh6 h i=>wpAny_mono (hh c a _ d e D ((k h6 h.1 i).inExc c) g) (λf r z=>p f r (z.outExc L.inv.ok)) λ_ _ z=>z.elim
def Fx.obj{X:Cx}{a:Ob}{e:St}{c:Addr}{d:Value}{f:Hp}{s:Shared}(L:Fx X a e c d f s):∃o,s.heap.get? c=some o/\o.cls=d:=by obtain⟨B,t,b,k⟩:=L.fly;exact b.there
def Lg(X:Cx)(a:Ob)(c:St)(bs:List Stmt)(t:TS):Prop:=∀(s:Shared)(H:Hp)(D:j3),aO X a c H s->t D c H->wpAny (model X.prog X.w) X.A (execs bs X.env) (SP X a D) X.xe s
def IX{X:Cx}{a:Ob}{c:St}{st:Stmt}{t:TS}(h:JN X a c st t):Lg X a c [st] t:=λs H D I q=>NX (cE (h s H D I q) λf b z=>by cases f with|next=>exact MQ z|ret v=>exact z|brk=>exact z|cont=>exact z)
def CW{X:Cx}{bs:List Stmt}{h0:ExceptHandler}{P:List ExceptHandler}{W:XK->TS}{R:Value->Hp->Prop}{Q:Pos}{a:Ob}{s:Shared}{i:St}{H:Hp}{D:j3}(n:X.stack=X.env::X.outer)(C:X.env.frame=some X.env.locals)(O:∀(E:XK)(a:Ob)(i:St)(Z:Oa),mL (oS X.prog X.w) (X.wish Z) E a i->Lg (X.wish Z) a i bs (W E))(I:aO X a i H s)(h:W (λj _ g=>R j g) D i H)(hc:∀c j g s5,R j g->Fx X a i c j g s5->wpAny (model X.prog X.w) X.A (handleBy (.ref c) X.env (h0::P)) (SP X a D) X.xe s5):wpAny (model X.prog X.w) X.A (exec (.Try bs (h0::P) [] [] Q) X.env) (SP X a D) X.xe s:=by
 refine wpAny_Try_except ?_;have hp:mL (oS X.prog X.w) (X.wish λe s₁=>wpAny (model X.prog X.w) X.A (noteFrame e X.env) (λ_ F=>wpAny (model X.prog X.w) X.A (setFlight e none) (λ_ G=>wpAny (model X.prog X.w) X.A (handleBy e X.env (h0::P)) (SP X a D) X.xe G) X.xe F) X.xe s₁) (λj _ g=>R j g) a i:=by
  rintro S p e q I1⟨c,j,B,t,g,rfl,os,bare,un,hok,r,l,d,T⟩;have I1:=I1.unwish;have un:Un (jW X.stack) [] S g p.heap q.heap:=un;have r:Heap.FlyingW B X.stack c j (.ref t) q.heap:=r;have d:∀b o,p.heap.get? b=some o->b∉jW X.stack->∃u,B.get? b=some u:=d;have x:∀b∈jW X.stack,S b=none/\∀o,p.heap.get? b=some o->∀U,o.data≠.fields U:=λb O=>by refine⟨I1.stkFree b O,λo e=>?_⟩;obtain⟨_,o',J,hd⟩:=I1.stack.mem O;rw[e]at J;cases J;exact hd
  have Y:∀b u,B.get? b=some u->b≠c:=λb u e z=>by rw[z,r.2.1]at e;cases e
  have nh:g c=none:=by cases z:g c with|none=>rfl|some o=>exact absurd rfl (Y _ _ (l _ _ z).choose_spec)
  have nw:p.heap.get? c=none:=by cases z:p.heap.get? c with|none=>rfl|some o=>
    by_cases C:c∈jW X.stack
    ·obtain⟨sl,e1⟩:=un.slot c o z (x c C).1 C (rl);obtain⟨_,_,_,oe,U,_,_,_,he,_,hd,_⟩:=r;rw[he]at e1;cases e1;exact absurd hd ((x c C).2 o z U)
    ·exact absurd rfl (Y _ _ (d _ _ z C).choose_spec)
  have m:∀h5,B.StaysIn h5->q.heap.UpToSlots h5->aO X a i g {q with heap:=h5}:=λh5 k up=>I1.call' (s':={q with heap:=h5}) (ch:=[]) os (un.flown d r.1 k up x) (hok.flown l r.1 k) bare λb z=>absurd z (by simp)
  show wpAny (model X.prog X.w) X.A (noteFrame (.ref c) X.env) _ X.xe q;have K:=r;rw[n]at K;refine wpAny_looks_onW (outer:=X.outer) (by rw[I.ok.frames,n]) C K λh4 y L=>?_;refine wpAny_landsW y λh5 M N=>hc c j g _ T ⟨m h5 M.1 (L.trans N),⟨B,t,by rw[n];exact M,λh6 k6 V=>m h6 k6 ((L.trans N).trans V)⟩,nh,S,p,I1,nw⟩
 refine wpAny_mono (O _ a i _ hp s H D (I.wish _) h) (λf p z=>?_) λ_ _ z=>z;have z:=z.unwish;cases f with|next=>exact MQ z|ret v=>exact z|brk=>exact z|cont=>exact z
section
variable{X:Cx}{M:zr}{k:Nat}{f C:Addr}{fd:FuncData}{L:Of}{sp:Sp}{n:List V}{ds:Od}{E:XK}{x m:Str}{p j B:Pos}{e o:Expr}{J:Og}{O:TE}{t:TA}{d:Ob}{G:St}
def IK(F:aT X.prog X.w X.K X.mg X.base M k f fd L sp)(c:eZ k X.A)(g:fU X.K fd L ds)(hd:bf n ds)(i:mL M X E d G)(I:aO X d G H s)(r:bf vs us)(h:sp (vs++n) H Q E):wpAny (model X.prog X.w) X.A (call (.ref f) us) (EP X d G Q) X.xe s:=by
 have a:bf (vs++n) (us++ds):=r.append hd;have len:(us++ds).length=L.length:=a.length▸F.len _ _ _ _ h;refine wpAny_call (Ma (F.run X.A X.stack s H ⟨us,[]⟩ (us++ds) (vs++n) Q E c I.env0 (g s us I.kIn len) a h) λb l z=>?_);rcases b with ex|q
 ·exact i H s ex l I z
 ·cases q with|ret u=>exact I.after z|next=>cases z|brk=>cases z|cont=>cases z
def GB(P:PE X o O)(c:xS X.K C)(hm:Fw X.K C m f)(F:aT X.prog X.w X.K X.mg X.base M k f fd L sp)(R:eZ k X.A)(S:fU X.K fd L ds)(hd:bf n ds)(T:mL M X E d G)(Z:PA X (e::J) t)(i:starEach (e::J) X.env=(false,eval e X.env)::starEach J X.env:=by rfl)(y:(backTo j (starEach J X.env)).any (·.1)=false:=by rfl)(ht:eval (.Call (.Attribute o m B) (e::J) [] j) X.env=(do
   let obj<-eval o X.env
   standAt B.atName let(g,first)<-holding [obj] (getMethod obj m pl)callWith j g first (backTo j (starEach (e::J) X.env)) (backToKw j (keywordEach [] X.env))):=by rfl):Lf X d G (.Call (.Attribute o m B) (e::J) [] j) (C1 C m sp n E O t):=by intro s H Q I h;refine PySem.W.methodCall_KW (pl:=pl) (cE (P d s G H _ I h) λu U⟨v,Y,I1,rv,a,dx,fs,ev,ea,l,q⟩=>?_) ht;subst ev;cases(show u=Value.ref a from rv);refine oN I1 ea c hm l (PySem.W.callWith_K (first:=[.ref a]) (h₀:=X.base) I.ok.mod.kin hm.kp (cE (Z j d U G Y _ I1 q) λz s2⟨D,H2,N,r,q2⟩=>⟨N.kIn,?_⟩) i y);exact IK (us:=.ref a::z) (vs:=.ref a::D) F R S hd T N (.cons rfl r) q2
def II(c:X.N.Nodup)(hi:X.N[i]?=some x)(g:JV X.env.scope x)(l:Lf X d G e te)(q:swapsWith e (some (.Name x a)) j.line X.env=pure false:=by rfl)(r:X.fn x=true\/X.env.scope.names.lookup x=some .local:=by first|exact .inl rfl|exact .inr rfl|assumption):JN X d G (.Assign [.Name x a] e j) (wL te (jK i)):=by intro s H D I h;exact wpAny_Assign_Name (cE (l s H _ I h) λv A⟨y,b,I1,u,w⟩=>tm I1 c hi g u (λF z=>⟨_,b,z,w⟩) r) q
end
theorem PS.nox{X:Cx}{st:Stmt}{t:TS}(h:PS X.nox st t):PS X st t:=λa s b H D I c=>wpAny_mono (h a s b H D (I.wish _) c) (λ_ _ q=>q.unwish) λ_ _ z=>False.elim z
section
variable{P:Oe}{w:World}{K:N_}{mg:Oc}{base:Heap}
def xR.okE{x a:Str}{st:Stmt}{f:Addr}{fd:FuncData}{N g:Of}{k:Nat}{sp:Sp}(F:xR K x a st f fd)(S:aC N g (ao st))(len:∀d H Q E,sp d H Q E->d.length=g.length)(e:∀(c:Value)(A:Around)(outer:List Env)(s:Shared)(H:Hp)(d:List V)(Q:VK)(E:XK),eZ k (A.deeper (envOfC a (ao st) s.heap.objs.size f c))->sp d H Q E->∃t,vx (qJ (oS P w) P w K mg base N a (ao st) f c A outer s H E) (gA st) t/\t {nx:=λ_ i=>Q .non i,rt:=Q} (i3 N d) H):aT P w K mg base (oS P w) (k+1) f fd g sp:=by obtain⟨oc,n,kV,j,pm,o,c,ct,l,rfl,lk,b⟩:=F.ex;exact HA lk b S len λA outer s H d Q E m h=>e c A outer s H d Q E m h
end
def G4(s:Stmt):List Stmt:=match s with|.ClassDef _ _ _ b _ _ _ _ _ _ _=>b|_=>[]
end L2
namespace L2
open PySem PySem.W PyProof.Rows
abbrev bN:=bQ⊕List bQ
section
variable(P:Oe)(w:World)
def ip:bN->Int|.inl k=>(aX P w).hash k|.inr []=>hashW w.params .none|.inr (k::a)=>(tupleKind (aX P w)).hash (k::a)
def jj:bN->Nat|.inl _=>1|.inr a=>a.length+1
def kI(h:Heap)(k:bN)(v:Value):Prop:=match k with|.inl k=>(aX P w).is k v=true|.inr []=>v=.none|.inr (k::b)=>∃a,v=.ref a/\(tupleKind (aX P w)).is h (k::b) a
abbrev jq:=bN×Value×Value
def sC(x:jq):DictEntry:=⟨ip P w x.1,x.2.1,x.2.2⟩
end
section
variable{P:Oe}{w:World}{A:Around}{E:Oa}{s:Shared}
def kI.flat(x:kI P w h (.inl k) v):(∃i t,v=.int i t/\k=.inl i)\/∃z t,v=.str z t/\k=.inr z:=by have x:nZ k v=true:=x;cases k with
 |inl i=>have x:Value.isInt i v=true:=x;cases v with|int j t=>simp[Value.isInt]at x;exact .inl ⟨_,_,rfl,by rw[x]⟩|_=>cases x
 |inr z=>have x:Value.isStrOf z v=true:=x;cases v with|str j t=>simp[Value.isStrOf]at x;exact .inr ⟨_,_,rfl,by rw[x]⟩|_=>cases x
def Ep(d:A.units<cLine)(c:kI P w s.heap k v)(q:Q (ip P w k) {s with toks:=s.toks+jj k}):wpAny (model P w) A (pyHash v) Q E s:=by match k,c,q with|.inl k,c,q=>exact(aX P w).pyHash c q|.inr [],c,q=>cases c;exact pyHash_slot (T:="NoneType") rfl F.slot_NoneType_hash F.entry_NoneType_hash (F.args_NoneType_hash_1 _) (beq_builtin_none _) (.inr (by omega)) (a_ (e_ (a_ (wpAny_mkInt (e_ ⟨_,_,rfl,q⟩)))))|.inr (k::e),c,q=>obtain⟨a,rfl,b⟩:=c;exact(tupleKind (aX P w)).pyHash d b q
def La:SeqAt.EqAt A s .none .none true:=λprog w E Q a=>by unfold eqBool;refine ri ?_;exact v_ (λ_=>a_ (Es (e_ a))) (λz=>absurd (by decide) z)
def GE(f:A.units<cLine)(d:kI P w s.heap x u)(c:kI P w s.heap y v)(q:Q (decide (x=y)) s):wpAny (model P w) A (eqBool u v) Q E s:=by match x,d,q with
 |.inl x,d,q=>match y,c,q with
  |.inl y,c,q=>exact(aX P w).eqBool d c (by simpa using q)|.inr [],c,q=>
   cases c;rw[op (by intro z;cases z)]at q;rcases kI.flat d with⟨i,t,rfl,_⟩|⟨z,t,rfl,_⟩
   ·exact SeqAt.EqAt.int_none i t P w E Q q
   ·exact SeqAt.EqAt.str_none z t P w E Q q|.inr (k::j),c,q=>
   obtain⟨a,rfl,o,g,n,e,hc,hd,hi⟩:=c;rw[op (by intro z;cases z)]at q;rcases kI.flat d with⟨i,t,rfl,_⟩|⟨z,t,rfl,_⟩
   ·exact SeqAt.EqAt.int_tuple i t ⟨_,e,hc,_,hd⟩ f P w E Q q
   ·exact SeqAt.EqAt.str_tuple z t ⟨_,e,hc,_,hd⟩ f P w E Q q
 |.inr [],d,q=>
  cases d
  match y,c,q with
  |.inl y,c,q=>
   rw[op (by intro z;cases z)]at q;rcases kI.flat c with⟨i,t,rfl,_⟩|⟨z,t,rfl,_⟩
   ·exact SeqAt.EqAt.none_int i t P w E Q q
   ·exact SeqAt.EqAt.none_str z t P w E Q q|.inr [],c,q=>cases c;rw[ol rfl]at q;exact La P w E Q q|.inr (k::j),c,q=>obtain⟨a,rfl,o,g,n,e,hc,hd,hi⟩:=c;rw[op (by intro z;cases z)]at q;exact SeqAt.EqAt.none_tuple ⟨_,e,hc,_,hd⟩ f P w E Q q
 |.inr (k::j),d,q=>
  obtain⟨a,rfl,h⟩:=d
  match y,c,q with
 |.inl y,c,q=>
   obtain⟨o,g,n,e,hc,hd,hi⟩:=h;rw[op (by intro z;cases z)]at q;rcases kI.flat c with⟨i,t,rfl,_⟩|⟨z,t,rfl,_⟩
   ·exact SeqAt.EqAt.tuple_int i t ⟨_,e,hc,_,hd⟩ f P w E Q q
   ·exact SeqAt.EqAt.tuple_str z t ⟨_,e,hc,_,hd⟩ f P w E Q q|.inr [],c,q=>cases c;obtain⟨o,g,n,e,hc,hd,hi⟩:=h;rw[op (by intro z;cases z)]at q;exact SeqAt.EqAt.tuple_none ⟨_,e,hc,_,hd⟩ f P w E Q q|.inr (l::ls),c,q=>obtain⟨b,rfl,m⟩:=c;exact(tupleKind (aX P w)).eqBool f h m (by simpa using q)
def Bg(c:kI P w s.heap k v)(q:Q true s):wpAny (model P w) A (eqIsQuiet 8 v) Q E s:=by match k,c with
 |.inl k,c=>
  rcases kI.flat c with⟨i,t,rfl,_⟩|⟨z,t,rfl,_⟩
  ·exact e_ q
  ·exact e_ q|.inr [],c=>cases c;exact e_ q|.inr (k::d),c=>obtain⟨a,rfl,b⟩:=c;exact(tupleKind (aX P w)).quiet b q
theorem kI.inj(d:kI P w h x v)(c:kI P w h y v):x=y:=by match x,d with
 |.inl x,d=>match y,c with|.inl y,c=>rw[(aX P w).inj v x y d c]|.inr [],c=>cases c;rcases kI.flat d with⟨i,t,e,_⟩|⟨z,t,e,_⟩<;>cases e|.inr (k::f),c=>obtain⟨a,rfl,_⟩:=c;rcases kI.flat d with⟨i,t,e,_⟩|⟨z,t,e,_⟩<;>cases e
 |.inr [],d=>
  cases d
  match y,c with|.inl y,c=>rcases kI.flat c with⟨i,t,e,_⟩|⟨z,t,e,_⟩<;>cases e|.inr [],_=>rfl|.inr (k::f),c=>obtain⟨a,e,_⟩:=c;cases e
 |.inr (k::f),d=>
  obtain⟨a,rfl,g⟩:=d
  match y,c with|.inl y,c=>rcases kI.flat c with⟨i,t,e,_⟩|⟨z,t,e,_⟩<;>cases e|.inr [],c=>cases c|.inr (l::ls),c=>obtain⟨b,e,j⟩:=c;cases e;rw[(tupleKind (aX P w)).inj g j]
def GD{k:bN}{v:Value}{st:Od}{Q:Bool->Shared->Prop}(d:kI P w s.heap k v)(e:∀u∈st,∃a,kI P w s.heap a u)(q:Q false s):wpAny (model P w) A (tableMayTell v st) Q E s:=by
 unfold tableMayTell
 split
 ·exact e_ q
 ·refine a_ (Bg d ?_);simp only[Bool.not_true,MD,Ng];refine a_ (NW _ (λleft r b=>b=s/\r=(none,())/\∀u∈left,∃a,kI P w s.heap a u) _ ?_ ?_ _ _ ⟨rfl,rfl,e⟩)
  ·rintro u left r b⟨rfl,rfl,c⟩;obtain⟨a,f⟩:=c u m_;refine a_ (Bg f ?_);simp only[Bool.not_true,MD,Ng];exact e_ ⟨rfl,rfl,λz g=>c z (lm _ g)⟩
  ·rintro r b⟨rfl,rfl,_⟩;exact e_ q
def KR{a:Array DictEntry}{c:List jq}(d:a.toList=c.map (sC P w))(j:Nat):a[j]?=(c[j]?).map (sC P w):=by rw[<-vu,d,i_]
def En{a:Array DictEntry}{c:List jq}(d:a.toList=c.map (sC P w)):a.size=c.length:=by rw[<-o0,d,b_]
def Eo{a:List jq}(hn:(a.map (·.1)).Nodup){i j:Nat}{k:bN}{p q:Value×Value}(hi:a[i]?=some (k,p))(c:a[j]?=some (k,q)):i=j:=by
 have b:(a.map (·.1))[i]?=some k:=by rw[i_,hi];rfl
 have d:(a.map (·.1))[j]?=some k:=by rw[i_,c];rfl
 exact(M7 (d_.mp b).1 hn).mp (b.trans d.symm)
def LN[Decidable c](h1:c->wpAny (model P w) A t Q E s)(h2:¬c->wpAny (model P w) A u Q E s):wpAny (model P w) A (if c then t else u) Q E s:=by
 by_cases h:c
 ·rw[mo h];exact h1 h
 ·rw[l_ h];exact h2 h
def JU(a:List jq)(k:bN)(s:Shared)(b:Option (Option Nat)×Option Nat)(c:Shared):Prop:=c=s/\((∃j p,b=(some (some j),none)/\a[j]?=some (k,p))\/(b.1=none/\((b.2=none/\∀(j:Nat)(p:Value×Value),a[j]?≠some (k,p))\/∃j p,b.2=some j/\a[j]?=some (k,p))))
def Ji{h:List jq}{k:bN}{a:Oi}(hn:(h.map (·.1)).Nodup)(u:∀j p,h[j]?=some (k,p)->j∈a)(v:∀j∈a,∃y:jq,h[j]?=some y/\ip P w y.1=ip P w k)(m:a.Nodup)(f:Nat->Option (Option Nat)×Option Nat->Sem (ForInStep (Option (Option Nat)×Option Nat)))(h1:∀(x:Nat)(p:Value×Value)(R:ForInStep (Option (Option Nat)×Option Nat)->Shared->Prop),x∈a->h[x]?=some (k,p)->R (.done (some (some x),none)) s->R (.yield (none,some x)) s->wpAny (model P w) A (f x (none,none)) R E s)(h2:∀(x:Nat)(n:Option Nat)(y:jq)(R:ForInStep (Option (Option Nat)×Option Nat)->Shared->Prop),x∈a->h[x]?=some y->ip P w y.1=ip P w k->y.1≠k->R (.yield (none,n)) s->wpAny (model P w) A (f x (none,n)) R E s):wpAny (model P w) A (forIn a ((none,none):Option (Option Nat)×Option Nat) f) (JU h k s) E s:=by
 refine NW f (λleft b B=>B=s/\b.1=none/\∃pre,a=pre++left/\((b.2=none/\∀j∈pre,∀p,h[j]?≠some (k,p))\/∃j p,b.2=some j/\j∈pre/\h[j]?=some (k,p))) _ ?_ ?_ _ _ ⟨rfl,rfl,[],rfl,.inl ⟨rfl,by simp⟩⟩
 ·rintro x left⟨b1,b2⟩B⟨rfl,rfl,pre,o,t⟩;have i:x∈a:=by rw[o];simp
  have C:x∉pre:=λz=>by rw[o,q_]at m;exact m.2.2 x z x m_ rfl
  obtain⟨y,l,hh⟩:=v x i;have r:a=(pre++[x])++left:=by rw[o];simp
  by_cases e:y.1=k
  ·obtain⟨D,p⟩:=y;have e:D=k:=e;subst e;rcases t with⟨rfl,g⟩|⟨j,q,rfl,d,c⟩
   ·refine h1 x p _ i l ⟨rfl,.inl ⟨x,p,rfl,l⟩⟩ ⟨rfl,rfl,pre++[x],r,.inr ⟨x,p,rfl,by simp,l⟩⟩
   ·exact absurd (Eo hn c l▸d) C
  ·refine h2 x b2 y _ i l hh e ⟨rfl,rfl,pre++[x],r,?_⟩;rcases t with⟨rfl,g⟩|⟨j,q,rfl,d,c⟩
   ·refine .inl ⟨rfl,λj d p z=>?_⟩;rcases Ny.mp d with d|d
    ·exact g j d p z
    ·rw[List.mem_singleton.mp d,l]at z;cases z;exact e rfl
   ·exact .inr ⟨j,q,rfl,th _ d,c⟩
 ·rintro⟨b1,b2⟩B⟨rfl,rfl,pre,o,t⟩;refine⟨rfl,.inr ⟨rfl,?_⟩⟩;rcases t with⟨rfl,g⟩|⟨j,q,rfl,d,c⟩
  ·refine .inl ⟨rfl,λj p z=>g j ?_ p z⟩;have:=u j p z;rw[o,E2]at this;exact this
  ·exact .inr ⟨j,q,rfl,c⟩
def Er{d:Addr}{o:Obj}{n:Array DictEntry}{ep:Nat}{C:List jq}{k:bN}{g:Value}{Q:Option Nat->Shared->Prop}(hu:A.units<cLine)(f:kI P w s.heap k g)(J:s.heap.get? d=some o)(hd:o.data=.dict n ep)(he:n.toList=C.map (sC P w))(u:∀x∈C,kI P w s.heap x.1 x.2.1)(hn:(C.map (·.1)).Nodup)(D:(∀(j:Nat)(p:Value×Value),C[j]?≠some (k,p))->Q none s)(q:∀(j:Nat)(p:Value×Value),C[j]?=some (k,p)->Q (some j) s):wpAny (model P w) A (dictFind d g (ip P w k)) Q E s:=by
 have sz:=En he;have B:=KR he;generalize K:placesWithHash n.size (λi=>n[i]?.map (·.hash)) (ip P w k)=c;have ac:∀j p,C[j]?=some (k,p)->j∈c:=λj p l=>by
  rw[<-K];unfold placesWithHash;refine List.mem_filter.mpr ⟨yl.mpr ?_,?_⟩
  ·rw[sz];exact(d_.mp l).1
  ·show(n[j]?.map (·.hash)==some (ip P w k))=true;rw[B j,l];simp[sC]
 have O:∀j∈c,∃y:jq,C[j]?=some y/\ip P w y.1=ip P w k:=λj l=>by rw[<-K]at l;unfold placesWithHash at l;obtain⟨h1,h2⟩:=List.mem_filter.mp l;have h1:=yl.mp h1;rw[sz]at h1;refine⟨C[j],h_ h1,?_⟩;have h2:(n[j]?.map (·.hash)==some (ip P w k))=true:=h2;rw[B j,h_ h1]at h2;simpa[sC]using h2
 have al:c.Nodup:=by rw[<-K];exact List.filter_sublist.nodup List.nodup_range
 have plain:wpAny (model P w) A (dictWalkPlain d g (ip P w k) n c) Q E s:=by
  unfold dictWalkPlain;refine a_ (NW _ (λleft b s'=>s'=s/\b=(none,())/\∃pre,c=pre++left/\∀j∈pre,∀p,C[j]?≠some (k,p)) _ ?_ ?_ _ _ ⟨rfl,rfl,[],rfl,by simp⟩)
  ·rintro x left b s'⟨rfl,rfl,pre,hp,S⟩;obtain⟨⟨L,kv,v'⟩,m,hh⟩:=O x (by rw[hp];simp);have hex:n[x]?=some ⟨ip P w L,kv,v'⟩:=by rw[B x,m];rfl
   rw[hex];dsimp only;rw[mo (by rw[hh];simp)];refine a_ (Ha J hd (a_ (GE (x:=L) (y:=k) hu (u _ (g_ m)) f (a_ (Ha J hd ?_)))));show wpAny (model P w) A (if(ep !=ep)=true then _ else _) _ E s';rw[l_ (by simp)]
   by_cases M:L=k
   ·rw[ol M];subst M;exact a_ (Es (e_ (e_ (q x _ m))))
   ·rw[op M];refine a_ (Es (e_ ⟨rfl,rfl,pre++[x],by rw[hp];simp,λj l p z=>?_⟩));rcases Ny.mp l with l|l
    ·exact S j l p z
    ·rw[List.mem_singleton.mp l,m]at z;cases z;exact M rfl
  ·rintro b s'⟨rfl,rfl,pre,hp,S⟩;refine e_ (D λj p z=>S j ?_ p z);have:=ac j p z;rw[hp,E2]at this;exact this
 have ad:∀v∈c.filterMap (λi=>n[i]?.map (·.key)),∃L,kI P w s.heap L v:=λv T=>by obtain⟨i,hi,T⟩:=List.mem_filterMap.mp T;obtain⟨y,H,_⟩:=O i hi;rw[B i,H]at T;cases T;exact⟨_,u y (g_ H)⟩
 unfold dictFind
 with_reducible refine ri ?_
 refine a_ (wpAny_dictEntries J hd ?_);dsimp only;rw[K];generalize a5:c.filterMap (λi=>n[i]?.map (·.key))=stored at ad⊢;have G:∀z t,g=.str z t->(n.all λe=>isExactStrKey e.key)=true->wpAny (model P w) A (foundByValue d g n z) Q E s:=by
  rintro z t rfl-;have ek:k=.inl (.inr z):=by
   cases k with|inl k=>
    rcases f.flat with⟨i,t',e,_⟩|⟨z',t',e,e2⟩
    ·cases e
    ·cases e;rw[e2]|inr ks=>cases ks with|nil=>cases f|cons k ks=>obtain⟨a,e,_⟩:=f;cases e
  have an:∀(j:Nat)(y:jq),C[j]?=some y->y.2.1.isStr z=true->y.1=k:=λj y H I=>by have h3:=u y (g_ H);refine kI.inj h3 ?_;rw[ek];cases T:y.2.1 with
 |str z' t'=>
    rw[T]at I;have:z'=z:=by simpa[Value.isStr]using I
    rw[this];exact rp P w z t'|_=>rw[T]at I;cases I
  have ap:∀(j:Nat)(p:Value×Value),C[j]?=some (k,p)->p.1.isStr z=true:=λj p l=>by
   have h3:kI P w s.heap k p.1:=u _ (g_ l);rw[ek]at h3;rcases h3.flat with⟨i,t',_,e⟩|⟨z',t',e,e2⟩
   ·cases e
   ·cases e2;rw[e];simp[Value.isStr]
  unfold foundByValue;cases hf:n.findIdx? (λe=>e.key.isStr z)with
 |none=>
   refine e_ (D λj p l=>?_);have F:=Array.findIdx?_eq_none_iff.mp hf;have h4:n[j]?=some (sC P w (k,p)):=by rw[B j,l];rfl
   have h5:=F _ (Array.mem_of_getElem? h4);have h6:p.1.isStr z=false:=by simpa[sC]using h5
   rw[ap j p l]at h6;cases h6|some i=>
   obtain⟨U,hi,_⟩:=Array.findIdx?_eq_some_iff_getElem.mp hf;have m:C[i]?=some (C[i]'(by rw[<-sz];exact U)):=h_ _;generalize C[i]'(by rw[<-sz];exact U)=y at m;have hex:n[i]?=some (sC P w y):=by rw[B i,m];rfl
   have as:y.2.1.isStr z=true:=by rw[z3 U]at hex;rw[nB hex]at hi;exact hi
   have H:=an i y m as;obtain⟨L,p⟩:=y;have H:L=k:=H;subst H;dsimp only;rw[hex];dsimp only;refine a_ (Ha J hd (a_ (GE (x:=L) (y:=L) hu (u _ (g_ m)) f (a_ (Ha J hd ?_)))));rw[l_ (by simp),mo (ol rfl)];exact a_ (Es (e_ (q i p m)))
 have N:∀a,g=.ref a->¬(n.any λe=>e.key==g&&e.hash !=ip P w k)=true:=by intro a ea;rw[<-Array.any_toList,he,NZ];rintro⟨e,ax,hc⟩;obtain⟨y,H,rfl⟩:=oi.mp ax;simp only[sC,pa,beq_iff_eq,bne_iff_ne,ne_eq]at hc;have h3:=u y H;rw[hc.1]at h3;exact hc.2 (by rw[h3.inj f])
 by_cases F:((g::stored).all carriedByValue)=true
 ·rw[mo F]
  split
  ·rename_i z t
   split
   ·rename_i I;exact G z t rfl I
   ·exact plain
  ·exact plain
 ·rw[l_ F];have V:(∃i t,g=.int i t)\/(∃z t,g=.str z t)\/(∃a,g=.ref a)\/g=.none:=by
   cases k with|inl k=>
    rcases f.flat with⟨i,t,e,_⟩|⟨z,t,e,_⟩
    ·exact .inl ⟨i,t,e⟩
    ·exact .inr (.inl ⟨z,t,e⟩)|inr ks=>cases ks with|nil=>exact .inr (.inr (.inr f))|cons k ks=>obtain⟨a,e,_⟩:=f;exact .inr (.inr (.inl ⟨a,e⟩))
  have W:∀(x:Nat)(p:Value×Value),C[x]?=some (k,p)->∃e,n[x]?=some e/\e.hash=ip P w k/\kI P w s.heap k e.key:=λx p m=>⟨_,by rw[B x,m];rfl,rfl,u _ (g_ m)⟩;have X:∀(x:Nat)(y:jq),C[x]?=some y->∃e,n[x]?=some e/\e.hash=ip P w y.1/\kI P w s.heap y.1 e.key:=λx y m=>⟨_,by rw[B x,m];rfl,rfl,u _ (g_ m)⟩;rcases V with⟨i,t,e⟩|⟨z,t,e⟩|⟨a,e⟩|e
  case' inl=>subst e;dsimp only
  case' inr.inl=>
   subst e;dsimp only
   by_cases I:(n.all λe=>isExactStrKey e.key)=true
   case pos=>rw[mo I];exact G z t rfl I
   case' neg=>rw[l_ I]
  case' inr.inr.inl=>subst e;dsimp only;rw[l_ (N a rfl)]
  case' inr.inr.inr=>subst e;dsimp only
  all_goals refine LN (λ_=>a_ (e_ ?_)) (λ_=>a_ (GD f ad ?_))
  all_goals rw[l_ (by simp)];refine a_ (wpAny_mono (Ji (P:=P) (w:=w) hn ac O al _ ?_ ?_) (λb s' z=>?_) λ_ _ z=>z)
  all_goals first
   |(obtain⟨b1,b2⟩:=b
     obtain⟨rfl,h⟩:=z;rcases h with⟨j,p,e,l⟩|⟨e,h⟩
     ·cases e;exact e_ (q j p l)
     ·have e:b1=none:=e;subst e;rcases h with⟨e,h⟩|⟨j,p,e,l⟩<;>(have e:b2=_:=e;subst e)
      ·exact e_ (D h)
      ·exact e_ (q j p l))
   |(intro x p R a2 m r1 r2
     obtain⟨e,Y,Z,aa⟩:=W x p m;rw[Y];dsimp only;rw[mo (by rw[Z];simp)];refine a_ (Ha J hd (a_ (GE (x:=k) (y:=k) hu aa f (a_ (Ha J hd ?_)))));rw[l_ (by simp),mo (ol rfl),l_ (by simp)];refine a_ (Es ?_)
     split
     ·exact e_ r1
     ·exact e_ r2)
   |(intro x a6 y R a2 m hh a3 r
     obtain⟨e,Y,Z,aa⟩:=X x y m;rw[Y];dsimp only;rw[mo (by rw[Z,hh];simp)];refine a_ (Ha J hd (a_ (GE (x:=y.1) (y:=k) hu aa f (a_ (Ha J hd ?_)))));rw[l_ (by simp),l_ (by simp[a3])];refine a_ (Es ?_);rw[l_ (by simp)];exact e_ r)
end
end L2
namespace L2
open PySem PySem.W PyProof.Rows
section
variable{P:Oe}{w:World}{A:Around}{E:Oa}{s:Shared}
def Bh{c:Type}{a:List (bN×c)}(hn:(a.map (·.1)).Nodup){j:Nat}{k:bN}{p:c}(d:a[j]?=some (k,p)):a.find? (λx=>decide (x.1=k))=some (k,p):=by
 rw[List.find?_eq_some_iff_append];obtain⟨g,e⟩:=d_.mp d;refine⟨ol rfl,a.take j,a.drop (j+1),?_,λy h=>?_⟩
 ·rw[<-e,List.getElem_cons_drop,ro]
 ·obtain⟨i,hi⟩:=m3.mp h;have b:i<j:=by have:=(d_.mp hi).1;rw[o8]at this;omega
  rw[Na b]at hi;have:y.1≠k:=λz=>by
   have f:(a.map (·.1))[i]?=some k:=by rw[i_,hi,<-z];rfl
   have l:(a.map (·.1))[j]?=some k:=by rw[i_,d];rfl
   have:=(M7 (d_.mp f).1 hn).mp (f.trans l.symm);lia
  simp[this]
def vZ{c:Type}{d:List (bN×c)}{k:bN}(h:∀(j:Nat)(p:c),d[j]?≠some (k,p)):d.find? (λx=>decide (x.1=k))=none:=by rw[List.find?_eq_none];intro x b a;obtain⟨j,e⟩:=m3.mp b;have a:x.1=k:=ov a;exact h j x.2 (by rw[e,<-a])
structure iI(P:Oe)(w:World)(h:Heap)(d:Addr)(ys:List jq):Prop where ok:∃o es ep,h.get? d=some o/\o.ExactDict/\o.data=.dict es ep/\es.toList=ys.map (sC P w)nd:(ys.map (·.1)).Nodup
def dQ{c a:Type}(d:List (bN×c×a))(k:bN):Option a:=(d.find? λy=>decide (y.1=k)).map (·.2.2)
def fI{a c:Type}(d:List (bN×a×c))(k:bN)(e:a)(v:c):List (bN×a×c):=if(dQ d k).isSome then d.map λy=>if y.1=k then(y.1,y.2.1,v)else y else d++[(k,e,v)]
def Hx{d:Addr}{e:List jq}{k:bN}{c:Value}{Q:Option Value->Shared->Prop}(g:A.units<cLine)(a:kI P w s.heap k c)(hm:iI P w s.heap d e)(f:∀x∈e,kI P w s.heap x.1 x.2.1)(q:Q (dQ e k) {s with toks:=s.toks+jj k}):wpAny (model P w) A (dictGet d c) Q E s:=by
 obtain⟨o,l,m,b,hc,hd,h⟩:=hm.ok;unfold dictGet
 with_reducible refine ri ?_
 refine a_ (Ep g a (a_ (Er (s:={s with toks:=s.toks+jj k}) g a b hd h f hm.nd (λno=>?_) λj p i=>?_)))
 ·unfold dQ at q;rw[vZ no]at q;exact e_ q
 ·unfold dQ at q;rw[Bh hm.nd i]at q;refine a_ (wpAny_dictEntries (s:={s with toks:=s.toks+jj k}) b hd ?_);rw[KR h j,i];exact e_ q
def Jj(a:List (bN×d×c))(k:bN)(v:c):(a.map λy=>if y.1=k then(y.1,y.2.1,v)else y).map (·.1)=a.map (·.1):=by
 rw[A_];refine Mv λy _=>?_;show(if y.1=k then(y.1,y.2.1,v)else y).1=y.1
 split<;>rfl
def KQ{d:Addr}{f:List jq}{k:bN}{c v:Value}{Q:Unit->Shared->Prop}(u:A.units<cLine)(g:kI P w s.heap k c)(hm:iI P w s.heap d f)(n:∀x∈f,kI P w s.heap x.1 x.2.1)(C:f.length<sizeLine)(q:∀h',iI P w h' d (fI f k c v)->Heap.SameBut d s.heap h'->Q () {s with heap:=h',toks:=s.toks+jj k}):wpAny (model P w) A (dictSet d c v) Q E s:=by
 obtain⟨o,H,B,h,hc,hd,m⟩:=hm.ok;unfold dictSet
 with_reducible refine ri ?_
 refine a_ (Ep u g ?_);unfold dictSetHashed
 with_reducible refine ri ?_
 refine a_ (Er (s:={s with toks:=s.toks+jj k}) u g h hd m n hm.nd (λno=>?_) λj p l=>?_)
 ·have r:fI f k c v=f++[(k,c,v)]:=by unfold fI dQ;rw[vZ no];rfl
  have D:k∉f.map (·.1):=λz=>by obtain⟨y,F,e⟩:=oi.mp z;obtain⟨j,l⟩:=m3.mp F;exact no j y.2 (by rw[l,<-e])
  rw[r]at q;refine a_ (Es (wpAny_updateDictKeys (hz:=by have:=En m;omega) (s:={s with toks:=s.toks+jj k}) h hd (q _ ⟨⟨_,_,B+1,vr _ h (Obj.isFreed_of_dict (Obj.data_mapDictKeys hd _)),hc.mapDictKeys _,Obj.data_mapDictKeys hd _,?_⟩,?_⟩ (L7 ..))))
  ·rw[NU,m,me];rfl
  ·rw[me,q_];refine⟨hm.nd,by simp,λa G b t e=>D ?_⟩;have t:b=k:=List.mem_singleton.mp t;rw[<-t,<-e];exact G
 ·have r:fI f k c v=f.map λy=>if y.1=k then(y.1,y.2.1,v)else y:=by unfold fI dQ;rw[Bh hm.nd l];rfl
  rw[r]at q;refine a_ (Es (a_ (wpAny_updateDict (s:={s with toks:=s.toks+jj k}) h hd (wpAny_point (q _ ⟨⟨_,_,B,vr _ h (Obj.isFreed_of_dict (Obj.data_mapDict hd _)),hc.mapDict _,Obj.data_mapDict hd _,?_⟩,by rw[Jj];exact hm.nd⟩ (L7 ..))))));rw[Array.toList_modify,m];refine C_ λi=>?_;rw[List.getElem?_modify,i_,i_,i_];cases hi:f[i]?with|none=>by_cases e:j=i<;>simp[e]|some y=>
   by_cases e:j=i
   ·subst e;rw[l]at hi;cases hi;simp[sC]
   ·have:y.1≠k:=λz=>e (Eo hm.nd l (q:=y.2) (by rw[hi,<-z]));simp[e,this]
def iI.type(hm:iI P w s.heap d c):s.TypeIs (.ref d) "dict":=let⟨o,_,_,a,hc,_⟩:=hm.ok;⟨o,a,hc.1⟩
def iI.bare(hm:iI P w s.heap d c):∀b,Value.ref d=.ref b->∃ob,s.heap.get? b=some ob/\ob.dict=none:=λb e=>by cases e;obtain⟨o,_,_,a,hc,_⟩:=hm.ok;exact⟨o,a,hc.2.1⟩
def Ab(d:Addr)(a dflt:Value)(hd:(d==sysModules)=false):MeetsIn P w (Builtin.«dict.get» ⟨[.ref d,a,dflt],[]⟩) (λA R s=>A.in1.units<cLine/\∃k c,kI P w s.heap k a/\iI P w s.heap d c/\(∀x∈c,kI P w s.heap x.1 x.2.1)/\R (.ok (.ret ((dQ c k).getD dflt))) {s with toks:=s.toks+jj k}):=.of_wp λA R s⟨e,k,c,f,hm,hi,h⟩=>by show wpAny (model P w) _ (dictGet d a>>=_) _ _ s;refine a_ (Hx e f hm hi ?_);cases b:dQ c k with|some v=>rw[b]at h;exact e_ ⟨v,rfl,h⟩|none=>rw[b]at h;exact a_ (wpAny_missed_other hd (e_ ⟨dflt,rfl,h⟩))
def Ca(g:A.in1.units<cLine)(c:kI P w s.heap k a)(hm:iI P w s.heap d e)(f:∀x∈e,kI P w s.heap x.1 x.2.1)(h:e.length<sizeLine)(q:∀h',iI P w h' d (fI e k a v)->Heap.SameBut d s.heap h'->Q () {s with heap:=h',toks:=s.toks+jj k}):wpAny (model P w) A (setItem (.ref d) a v) Q E s:=by
 unfold setItem
 with_reducible refine ri ?_
 refine a_ (NL hm.type (by decide) (a_ (rr (name:=Str.ofString "__setitem__") hm.type slot_dict_setitem (rk slot_dict_setitem hm.type entry_dict_setitem ?_ (args_dict_setitem _ _ _)))));show wpAny (model P w) _ (Builtin.Dict.notOrdered "__setitem__" ⟨[.ref d,a,v],[]⟩>>=_) _ _ s;refine a_ (wpAny_notOrdered_dict hm.type ?_);show wpAny (model P w) A.in1 (dictSet d a v>>=_) _ _ s;exact a_ (KQ g c hm f h λh' h1 h2=>e_ ⟨.none,rfl,e_ (q h' h1 h2)⟩)
end
abbrev eU:=bN×V×V
def qT(a:List eU)(c:List jq):Prop:=Paired (λ(p:eU)(q:jq)=>p.1=q.1/\bd p.2.1 q.2.1/\bd p.2.2 q.2.2) a c
abbrev dM(P:Oe)(w:World)(d:Addr)(c:List eU):HO:=.ext λh=>(d==sysModules)=false/\∃a,qT c a/\iI P w h d a
def cR(K:N_)(H:Hp)(k:bN)(v:V):Prop:=match k with|.inl k=>v=kV k|.inr []=>v=.non|.inr (k::b)=>∃a,v=.ref a/\aS K H a ((k::b).map kV)
def cT(K:N_)(H:Hp)(a:List eU):Prop:=∀x∈a,cR K H x.1 x.2.1
def iI.keep(m:iI P w h1 d a)(k:∀o,h1.get? d=some o->h2.get? d=some o):iI P w h2 d a:=let⟨o,b,c,e,r⟩:=m.ok;⟨⟨o,b,c,k o e,r⟩,m.nd⟩
def HD(hd:(d==sysModules)=false)(r:qT a ys)(m:iI P w h d ys):du P w H h d (dM P w d a):=⟨⟨hd,ys,r,m⟩,let⟨o,_,_,e,_⟩:=m.ok;⟨o,e⟩,λ_ _⟨h1,ys,h2,h3⟩k=>⟨h1,ys,h2,h3.keep k⟩⟩
def cR.is(I:aO X f l H s)(h:cR X.K H k v)(r:bd v u):kI X.prog X.w s.heap k u:=by cases k with|inl k=>have h:v=kV k:=h;subst h;exact pV r|inr b=>cases b with|nil=>have h:v=.non:=h;subst h;exact r|cons k b=>obtain⟨a,rfl,g⟩:=h;cases r;obtain⟨i,j,⟨o,e,c,n,d⟩,_⟩:=I.tuple g;exact⟨a,rfl,o,_,n,e,c,d,qH j⟩
theorem qT.keys(I:aO X c g H s):∀{d:List eU}{e:List jq},qT d e->cT X.K H d->∀y∈e,kI X.prog X.w s.heap y.1 y.2.1
 |_,_,.nil,_,y,b=>nomatch b|_,_,.cons (a:=p) r t,k,y,b=>by
  rcases tA.mp b with rfl|b
  ·rw[<-r.1];exact(k p m_).is I r.2.1
  ·exact qT.keys I t (λx f=>k x (lm _ f)) y b
theorem qT.val:∀{a:List eU}{c:List jq},qT a c->∀k,jZ (dQ a k) (dQ c k)
 |_,_,.nil,_=>True.intro|p::a,q::c,.cons r t,k=>by
  unfold dQ;rw[t4,t4,<-r.1]
  by_cases e:p.1=k
  ·rw[ol e];exact r.2.2
  ·rw[op e];exact qT.val t k
def qT.put(h:qT c d)(g:bd i j)(f:bd v u):qT (fI c k i v) (fI d k j u):=by
 have a:(dQ c k).isSome=(dQ d k).isSome:=(h.val k).isSome_eq;unfold fI;rw[a]
 split
 ·rename_i hc;clear a hc
  induction h with|nil=>exact .nil|@cons p q l m r t b=>
   refine .cons ?_ b;dsimp only;rw[<-r.1]
   by_cases e:p.1=k
   ·rw[mo e,mo e];exact⟨rfl,r.2.1,f⟩
   ·rw[l_ e,l_ e];exact r
 ·rename_i hc;clear a hc
  induction h with|nil=>exact .cons ⟨rfl,g,f⟩ .nil|cons r t b=>exact .cons r b
def qT.len(h:qT a c):a.length=c.length:=Paired.length h
section
variable{X:Cx}{P:Oe}{w:World}{o e f:Expr}{n c g:Pos}{j ty l:TE}
def Id(P:Oe)(w:World):TE:=λ_ H Q=>∀p,H p=none->Q (.ref p) (aI H p (dM P w p []))
def yu(d:X.prog=P:=by rfl)(i:X.w=w:=by rfl):PE X (.Dict [] [] n) (Id P w):=λb s k H Q I h=>by subst d i;refine wpAny_Dict_empty ⟨.ref s.heap.objs.size,_,I.laid (a:=s.heap.objs.size) (o:=dM X.prog X.w s.heap.objs.size []) (t':=s.toks) (λ_ _ q=>c_ _ q) (f_ _) ?_,rfl,h _ (I.hok.fresh (f_ _))⟩;exact HD (ys:=[]) (K_.mpr λz=>absurd (z▸I.big) (sm _)) .nil ⟨⟨_,#[],0,j_ _ rfl,⟨rfl,rfl,rfl⟩,rfl,rfl⟩,MX⟩
def Ia(K:N_)(P:Oe)(w:World)(j ty l:TE):TE:=λd H Q=>j d H λx m=>∃a h,x=.ref a/\m a=some (dM P w a h)/\ty d m λy p=>l d p λz b=>∃i k,b a=some (dM P w a i)/\cT K b i/\cR K b k y/\Q ((dQ i k).getD z) b
def yq(K:N_)(B:X.K=K)(C:X.A.units+1<cLine)(D:PE X o j)(E:PE X e ty)(G:PE X f l)(m:M2 X o "get" c e f g)(J:X.prog=P:=by rfl)(L:X.w=w:=by rfl):PE X (.Call (.Attribute o "get" c) [e,f] [] g) (Ia K P w j ty l):=by subst J L B;intro b s r H Q I h;refine MF m.base m.few m.line PySem.F.plainAttrs_dict PySem.F.slot_dict_get PySem.F.type_dict_get (cE (D b s r H _ I h) λu M i=>?_);obtain⟨x,N,I1,O,a,R,ex,d,S⟩:=i;subst ex;cases(show u=Value.ref a from O);obtain⟨⟨_,T,_,t⟩,_⟩:=I1.hok a _ d;refine⟨t.type,t.bare,?_⟩;rw[m.trees];refine u_ rfl (C2 (tx (cE (E b M r N _ I1 S) λiv U i=>?_)));obtain⟨y,V,Y,Z,q2⟩:=i;refine tx (cE (G b U r V _ Y q2) λfv s3 i=>?_);obtain⟨z,H3,q,rz,xs,k,d3,ks,hk,q3⟩:=i;refine D_ ?_;obtain⟨⟨hd,ys,p,v⟩,_⟩:=q.hok a _ d3;refine Mb PySem.F.slot_dict_get v.type PySem.F.entry_dict_get (PySem.F.args_dict_get_3 _ _ _) (Ab a iv fv hd) ⟨C,k,ys,hk.is q Z,v,p.keys q ks,?_⟩;exact⟨_,H3,q.tok _,(p.val k).getD rz,q3⟩
def KA(K:N_)(P:Oe)(w:World):Hc:=λo i v H Q=>∃a b k,o=.ref a/\H a=some (dM P w a b)/\cT K H b/\cR K H k i/\b.length<sizeLine/\Q (aI H a (dM P w a (fI b k i v)))
def zE(K:N_)(x:X.K=K)(y:X.A.units+1<cLine)(z:X.prog=P:=by rfl)(B:X.w=w:=by rfl):Hg X (KA K P w):=by subst z B x;intro p s L H o i v M iv u Q I C r D h;obtain⟨a,N,k,rfl,d,E,F,G,q⟩:=h;cases C;obtain⟨⟨hd,O,b,m⟩,_⟩:=I.hok a _ d;refine Ca y (F.is I r) m (b.keys I E) (by rw[<-b.len];exact G) λh' t J=>?_;refine⟨_,sP I (by rw[d];exact True.intro) J (let⟨o,_,_,e,_⟩:=t.ok;⟨o,e⟩) ?_,q⟩;exact HD hd (b.put r D) t
end
end L2
namespace L2
open PySem PySem.W PyProof.Rows
section
variable{X:Cx}{o e c:Expr}{f:Str}{j g:Pos}{l m:TE}
def aK(K:N_)(a:X.K=K)(d:PE X e l)(h:attributeBase e f X.env (eval e X.env)=eval e X.env:=by rfl):PE X (.Attribute e f j) (Kj K l f):=by subst a;exact IV d h
def cG(K:N_)(a:X.K=K)(d:PE X o l)(h:PE X c m)(i:swapsWith c (some (.Attribute o f g)) j.line X.env=pure false:=by rfl):PS X (.Assign [.Attribute o f g] c j) (Kx K l m f):=by subst a;exact IP d h i
def KC:Hc:=λo i v H Q=>∃a b k,o=.ref a/\i=kV k/\H a=some (.dK b)/\b.length<sizeLine/\Q (aI H a (.dK (eY b k v)))
def oq(n:X.A.units+1<cLine):Hg X KC:=by intro b s z H o i v B iv u Q I p r t h;obtain⟨a,w,k,rfl,rfl,d,x,q⟩:=h;cases p;exact Cy n I (Hj.k d x) r t λC y=>⟨_,y,q⟩
end
end L2
namespace L2
open PySem PySem.W PyProof.Rows
section
variable{P:Oe}{w:World}{A:Around}{E:Oa}{s:Shared}
def EM(ty:s.TypeIs (.ref r) "list_reverseiterator")(q:Q false s):wpAny (model P w) A (Builtin.List.listLengthHint (.ref r)) Q E s:=by
 unfold Builtin.List.listLengthHint;refine a_ (Nr (r:=none) ty (by rw[Nt,MG];kernel_rfl) ?_);refine v_ (λz=>absurd z (by decide+kernel)) (λ_=>?_);refine v_ (λz=>absurd z (by decide)) (λ_=>?_);refine a_ (Nr (r:=some (.builtin "list_reverseiterator.__length_hint__")) ty (by rw[Nt,MG];kernel_rfl) ?_);generalize a:("list_reverseiterator.__length_hint__":String)=nm
 wp_delta
 rw[show splitId nm=some ("list_reverseiterator","__length_hint__")from by subst a;decide+kernel];subst a;refine a_ (Nd (T:="list_reverseiterator") (b:=true) ty (by rw[NF];kernel_rfl) ?_);refine v_ (λz=>absurd z (by decide)) (λ_=>?_);refine v_ (λ_=>?_) (λz=>absurd (by decide+kernel) z);refine v_ (λz=>absurd z (by decide+kernel)) (λ_=>?_);exact e_ q
def zM(hh:A.handled=none)(p:s.heap.IsRevIter r l ((a.size:Int)-1))(D:s.heap.IsList l a)(hn:a.size<=sizeLine)(t:l≠r)(n:S≠r)(u:S≠l)(d:Value)(y:Nat)(G:s.heap.get? S=some {cls:=.type "list",data:=.seq #[] y})(q:∀h' tk g c,(∀b o,b≠S->b≠r->s.heap.get? b=some o->h'.get? b=some o)->h'.get? S=some {cls:=.type "list",dict:=none,data:=.seq g c,slots:=#[]}->ItemsOf (λi v=>a[a.size-1-i]?=some v) g a.size->R (.ok (.ret d)) {s with heap:=h',toks:=tk}):wpAny (model P w) A.in1 (Builtin.List.listExtendWith (.ref S) (.ref r) d) (λfin j=>match fin with|.done f=>R (.ok f) j|.again B=>B.quiet=true/\codeAny (model P w) A B R j) (λe j=>R (.error e) j) s:=by
 have W:=Walks.listRev (prog:=P) (w:=w) (A:=A.in1) hh r l t a;have go:∀(h:Heap)(k tk:Nat),h.IsRevIter r l ((a.size:Int)-1)->h.IsList l a->(∀b o,b≠S->s.heap.get? b=some o->h.get? b=some o)->h.get? S=some {cls:=.type "list",data:=.seq #[] k}->codeAny (model P w) A (.builtin "list.extend.loop" ⟨[.ref S,.ref r,d],[]⟩) R {s with heap:=h,toks:=tk}:=by
  intro h k tk x H I J;refine codeAny_extend_loopS W.toS hn S (by simp[n,u]) d a.size 0 _ #[] k rfl (o_ _) ⟨o_ _,by simpa using x,H⟩ J (ItemsOf.nil _) λj g c C K L=>?_;rw[Moved.eq_with C];refine q j.heap j.toks g c (λb o b1 b2 e=>C.heap b o (λm=>?_) (I b o b1 e)) K L;rcases tA.mp m with z|z
  ·exact b1 z
  ·exact b2 (List.mem_singleton.mp z)
 unfold Builtin.List.listExtendWith;refine a_ (NK p.typeIs ?_);have ne:Builtin.List.listSameRef (.ref S) (.ref r)=false:=by simp[Builtin.List.listSameRef,n]
 have M:(Value.type "list_reverseiterator"==Value.type "list")=false:=by decide
 have N:(Value.type "list_reverseiterator"==Value.type "tuple")=false:=by decide
 simp only[ne,M,N,Bool.or_false,MD,Ng];refine a_ (wpAny_pyIter_revIter p (a_ (ri (EM p.typeIs ?_))));refine v_ (λz=>absurd z (by decide+kernel)) (λ_=>e_ ⟨MJ PySem.F.plain_extend_loop _,go s.heap y s.toks p D (λ_ _ _ e=>e) G⟩)
def DK(hh:A.handled=none)(u:s.heap.IsRevIter r l ((items.size:Int)-1))(x:s.heap.IsList l items)(hn:items.size<=sizeLine)(f:l≠r)(q:∀h' tk a c,(∀b o,b≠r->s.heap.get? b=some o->h'.get? b=some o)->h'.get? s.heap.objs.size=some {cls:=.type "list",dict:=none,data:=.seq a c,slots:=#[]}->ItemsOf (λi v=>items[items.size-1-i]?=some v) a items.size->Q (.ref s.heap.objs.size) {s with heap:=h',toks:=tk}):wpAny (model P w) A (call (.type "list") [.ref r]) Q E s:=by
 refine callType_codes (Q₁:=λobj k=>obj=.ref s.heap.objs.size/\k={s with heap:=s.heap.push {cls:=.type "list",data:=.seq #[]}}) PySem.F.called_list (PySem.F.typeCall_list_1 _) PySem.F.entry_list_init (code_list_new _ ⟨rfl,rfl⟩) λobj k z=>?_;obtain⟨rfl,rfl⟩:=z;have new:(s.heap.push {cls:=.type "list",data:=.seq #[]}).get? s.heap.objs.size=some {cls:=.type "list",data:=.seq #[]}:=j_ _ rfl;obtain⟨y,m,B,C⟩:=u;have n:s.heap.objs.size≠r:=qr (np m);obtain⟨D,p,cl,G,dl⟩:=x;have t:s.heap.objs.size≠l:=qr (np p);refine⟨⟨_,new,rfl⟩,PySem.F.args_list_init_2 _ _,?_⟩;show wpAny (model P w) _ (do let g<-Builtin.List.listItems (.ref s.heap.objs.size);Builtin.List.listUpdate (.ref s.heap.objs.size) (λ_=>#[]);letGo g.toList.reverse;Builtin.List.listExtendWith (.ref s.heap.objs.size) (.ref r) .none) _ _ _;refine a_ ?_;unfold Builtin.List.listItems;refine a_ (B_ new rfl (e_ (a_ (N3 new rfl (a_ (wpAny_letGo ?_))))));have d:=vr (Obj.mapSeq (λ_=>(#[]:Oh))) new rfl;have keep:∀b o,b≠s.heap.objs.size->s.heap.get? b=some o->((s.heap.push {cls:=.type "list",data:=.seq #[]}).update s.heap.objs.size (Obj.mapSeq (λ_=>(#[]:Oh)))).get? b=some o:=λb o h e=>by rw[y2 _ _ (rb h)];exact c_ _ e
 refine zM (A:=A.in1) hh ⟨y,keep _ _ (rb n) m,B,C⟩ ⟨D,keep _ _ (rb t) p,cl,G,dl⟩ hn f n t .none _ d λh' tk a c H I J=>?_;exact⟨rfl,q h' tk a c (λb o h e=>H b o (ot (np e)) h (keep b o (ot (np e)) e)) I J⟩
end
section
variable{X:Cx}{e:Expr}{te:TE}{i g f d:Pos}
def Kd(K:N_)(te:TE):TE:=λc H Q=>te c H λx a=>∃p b,x=.ref p/\aY K a p b/\∀l,a l=none->Q (.ref l) (aI a l (.lst b.reverse))
def zQ(K:N_)(Z:X.K=K)(hc:X.calm=true)(g1:Gl X "list")(m1:X.mg "list"=none)(g2:Gl X "reversed")(m2:X.mg "reversed"=none)(he:PE X e te)(B:starEach [.Call (.Name "reversed" g) [e] [] d] X.env=[(false,eval (.Call (.Name "reversed" g) [e] [] d) X.env)]:=by rfl)(C:starEach [e] X.env=[(false,eval e X.env)]:=by rfl):PE X (.Call (.Name "list" i) [.Call (.Name "reversed" g) [e] [] d] [] f) (Kd K te):=by
 subst Z;intro y s N H Q I h;refine z7 (lj I g1 m1 L2.qP (callWith_type1 ?_ B));rw[B];show wpAny (model X.prog X.w) X.A (spliced [(false,eval (.Call (.Name "reversed" g) [e] [] d) X.env)]) _ _ s;refine tx (z7 (lj I g2 m2 L2.vp (callWith_type1 ?_ C)));rw[C];show wpAny (model X.prog X.w) X.A (spliced [(false,eval e X.env)]) _ _ s;refine tx (cE (he y s N H _ I h) λu m Y=>?_);obtain⟨x,H1,I1,rx,p,xs,ex,hq,q⟩:=Y;refine D_ ?_;subst ex;cases(show u=Value.ref p from rx);obtain⟨k,O,⟨o,n,F,co,dd,ds⟩,P⟩:=I1.list hq;have hl:m.heap.IsList p k.toArray:=⟨o,F,co,n,ds⟩;refine call_reversed_list hl (D_ ?_);have pr:p≠m.heap.objs.size:=ot (np F);have R:aO X y N H1 {m with heap:=m.heap.push (revObj p ((k.toArray.size:Int)-1))}:=I1.kept (t':=m.toks) λb o e=>c_ _ e;refine DK (r:=m.heap.objs.size) (l:=p) (items:=k.toArray) (I.ok.hd hc) ⟨_,j_ _ rfl,rfl,rfl⟩ ⟨o,c_ _ F,co,n,ds⟩ (by simpa[<-O.length]using P) pr λh' tk t c kk sS T=>?_;have D:t.toList=k.reverse:=by
  refine C_ λj=>?_;have J:t.size=k.length:=by simpa using T.1
  rcases No j k.length with E|E
  ·have U:t[j]?=some (t[j]'(by lia)):=z3 _;have L:=T.2 j _ U;rw[vu,U,List.getElem?_reverse E];simpa using L.symm
  ·rw[p_ (by simpa[J]using E),p_ (by simpa using E)]
 have I3:=R.laid (a:=(m.heap.push (revObj p ((k.toArray.size:Int)-1))).objs.size) (o:=.lst xs.reverse) (h':=(m.heap.push (revObj p ((k.toArray.size:Int)-1))).push {cls:=.type "list",data:=.seq t c}) (t':=tk) (λb u e=>c_ _ e) (f_ _) ⟨by rw[MW];exact P,k.reverse,c,O.reverse,by rw[<-D];exact j_ _ rfl⟩
 have M:m.heap.objs.size<(m.heap.push (revObj p ((k.toArray.size:Int)-1))).objs.size:=by rw[rm];lia
 have I4:=I3.turned (it:=m.heap.objs.size) (h':=h') (t':=tk) (λb o hb e=>?_) (by rw[au (ot M)];exact I1.hok.fresh (f_ _)) (qr I1.lt) (.inr I1.sz) (λx c e z=>by obtain⟨v,o,V,_⟩:=I1.cell x c e;rw[z]at V;exact absurd (np V) (sm _)) (λpp hp z=>by have:=(I1.pin pp hp).1;rw[z]at this;exact absurd (np this) (sm _))
 ·exact⟨.ref (m.heap.push (revObj p ((k.toArray.size:Int)-1))).objs.size,_,I4,rfl,q _ (R.hok.fresh (f_ _))⟩
 ·by_cases z:b=(m.heap.push (revObj p ((k.toArray.size:Int)-1))).objs.size
  ·subst z;rw[j_ _ rfl]at e;cases e;exact sS
  ·rcases MO e with⟨z2,_⟩|L
   ·exact absurd z2 z
   ·exact kk b o hb L
end
end L2
namespace L2
open PySem PySem.W PyProof.Rows
section
variable{P:Oe}{w:World}{A:Around}{E:Oa}{s:Shared}
def Cb{d:Addr}{e:List jq}{k:bN}{a v:Value}{Q:Oa}(g:A.in1.units<cLine)(c:kI P w s.heap k a)(hm:iI P w s.heap d e)(f:∀x∈e,kI P w s.heap x.1 x.2.1)(h:dQ e k=some v)(q:Q v {s with toks:=s.toks+jj k}):wpAny (model P w) A (getItem (.ref d) a) Q E s:=by
 unfold getItem
 with_reducible refine ri ?_
 refine a_ (NL hm.type (by decide) (a_ (rr (name:=Str.ofString "__getitem__") hm.type slot_dict_getitem (rk slot_dict_getitem hm.type entry_dict_getitem ?_ (args_dict_getitem _ _)))));show wpAny (model P w) A.in1 (dictGet d a>>=_) _ _ s;refine a_ (Hx g c hm f ?_);rw[h];exact e_ ⟨v,rfl,e_ q⟩
end
section
variable{X:Cx}{P:Oe}{w:World}{o e f i:Expr}{g j l:Pos}{c ty n:TE}
def LA(K:N_)(P:Oe)(w:World)(c ty:TE):TE:=λh H Q=>c h H λx m=>ty h m λy b=>∃a d k v,x=.ref a/\b a=some (dM P w a d)/\cT K b d/\cR K b k y/\dQ d k=some v/\Q v b
def IU(K:N_)(C:X.K=K)(D:X.A.units+1<cLine)(E:PE X o c)(hi:PE X i ty)(G:JR i)(J:X.prog=P:=by rfl)(L:X.w=w:=by rfl):PE X (.Subscript o i g) (LA K P w c ty):=by subst J L C;intro b s B H Q I h;refine AO PySem.F.slot_dict_getitem.lookup G (cE (E b s B H _ I h) λu M r=>?_);obtain⟨x,N,I1,O,R⟩:=r;refine cE (hi b M B N _ I1 R) λiv s2 r=>?_;obtain⟨y,S,q,T,a,xs,k,v,ex,d,U,V,Y,Z⟩:=r;subst ex;obtain rfl:u=Value.ref a:=O;obtain⟨⟨hd,ys,p,m⟩,_⟩:=q.hok a _ d;obtain⟨w',t,z⟩:=jZ.some_of (v:=v) (o:=dQ ys k) (by rw[<-Y];exact p.val k);exact⟨m.type,Cb D (V.is q T) m (p.keys q U) t ⟨v,S,q.tok _,z,Z⟩⟩
end
end L2
namespace L2
open PySem
seal L2.vx L2.PS L2.PE L2.PT L2.PA L2.PI L2.PG L2.PW L2.JP L2.PO
section
variable{X:Cx}
end
section
variable{X:Cx}
def CG:dw X (.builtin "isinstance") (λc H Q=>∃x T t b,c=[x,.ty T]/\(kW X.K H x t\/∃p d,x=.ref p/\aS X.K H p d/\t=.type "tuple")/\PySem.W.kitOne X.K t (.type T)=some b/\Q (.bl b) H):=by
 intro a s f H c g Q I r h;obtain⟨x,T,t,b,rfl,ty,e,q⟩:=h;rcases ty with ty|⟨p,d,rfl,i,rfl⟩
 ·exact zi a s f H _ g Q I r ⟨x,T,t,b,rfl,ty,e,q⟩
 ·obtain⟨u,j,rfl,k,rt⟩:=vC r;obtain rfl:j=Value.type T:=rt;cases k;obtain⟨l,_,⟨o,h1,h2,_⟩,_⟩:=I.tuple i;exact PySem.W.kia_one PySem.W.kitx_tuple I.kIn ⟨o,h1,h2⟩ e (nofun) λtk=>⟨.bl b,H,I.tok tk,rfl,q⟩
def fm(K:N_)(a:X.K=K):dw X (.builtin "isinstance") (λc H Q=>∃x T t b,c=[x,.ty T]/\(kW K H x t\/∃p d,x=.ref p/\aS K H p d/\t=.type "tuple")/\PySem.W.kitOne K t (.type T)=some b/\Q (.bl b) H):=by subst a;exact CG
end
end L2
namespace L2
open PySem PySem.Spec PyProof.Rows
section
variable{X:Cx}{a:Expr}
end
section
variable{X:Cx}
end
end L2
namespace L2
open PySem PySem.Spec PyProof.Rows
def Hh(K:N_)(pm:Params)(a:Addr):Prop:=(a==sysModules)=false/\∃b n,K.lookup a=some ⟨.type "dict",none,.dict b n,#[]⟩/\PySem.W.KeysLit pm b.toList
def Lu(K:N_)(t:Addr)(c:List V):Prop:=∃(o:Obj)(a:Oh)(n:Nat),K.lookup t=some o/\o.cls=.type "tuple"/\o.data=.seq a n/\a.size<=sizeLine/\bf c a.toList
def Lu.sq{K:N_}{t:Addr}{a:List V}(h:Lu K t a)(H:Hp):aS K H t a:=.inr h
section
variable{X:Cx}{o i:Expr}{a:Pos}{c ty:TE}
end
end L2
namespace L2
open PySem PySem.Spec PyProof.Rows
section
variable{X:Cx}{o i:Expr}{a:Pos}{c ty:TE}
end
end L2
namespace L2
open PySem PySem.Spec PyProof.Rows
section
variable{P:Oe}{w:World}{A:Around}{E:Oa}{s:Shared}
def sX(c:s.heap.IsTupleIter j t k)(f:s.heap.IsTuple t d)(h:d[k]?=some v)(q:∀g,g.IsTupleIter j t (k+1)->Heap.SameBut j s.heap g->Q v {s with heap:=g}):wpAny (model P w) A (Builtin.SmallTypes.nextOf (.ref j)) Q E s:=by obtain⟨ob,b,i,a⟩:=id c;obtain⟨l,f1,_,m,f3⟩:=f;unfold Builtin.SmallTypes.nextOf;refine a_ (rr (name:=Str.ofString "__next__") c.typeIs Mp (rk Mp c.typeIs F.entry_tuple_iterator_next ?_ (N9 _)));refine(show wpAny _ _ (field (.ref j) 0>>=_) _ _ s from a_ (wh b a (x:=.ref t) rfl ?_));refine(show wpAny _ _ (if(Value.ref t==Value.none)=true then _ else(field (.ref j) 1>>=_)) _ _ s from ?_);rw[l_ (show¬(Value.ref t==Value.none)=true fromλz=>oa z)];refine a_ (wh b a (x:=.int k 0) rfl ?_);refine(show wpAny _ _ (seqItems? (.ref t)>>=_) _ _ s from a_ (B_ f1 f3 ?_));simp only[sf,h];refine a_ (wpAny_setField b a (by simp) (e_ ⟨v,rfl,e_ (q _ ⟨_,vr _ b (Obj.isFreed_of_fields (Obj.data_mapFields a _)),(Obj.cls_mapFields ..).trans i,?_⟩ (L7 ..))⟩));rw[Obj.data_mapFields a];simp[rawInt]
def xX(hh:A.handled=none)(c:s.heap.IsTupleIter j t k)(h:s.heap.IsTuple t d)(i:d[k]?=none)(q:∀g x,Heap.ExtBut j s.heap g->(∃ob,g.get? x=some ob/\ob.cls=.type "StopIteration")->E (.ref x) {s with heap:=g}):wpAny (model P w) A (Builtin.SmallTypes.nextOf (.ref j)) Q E s:=by
 obtain⟨ob,b,l,e⟩:=id c;obtain⟨n,f1,_,o,f3⟩:=h;unfold Builtin.SmallTypes.nextOf;refine a_ (rr (name:=Str.ofString "__next__") c.typeIs Mp (rk Mp c.typeIs F.entry_tuple_iterator_next ?_ (N9 _)));refine(show wpAny _ _ (field (.ref j) 0>>=_) _ _ s from a_ (wh b e (x:=.ref t) rfl ?_));refine(show wpAny _ _ (if(Value.ref t==Value.none)=true then _ else(field (.ref j) 1>>=_)) _ _ s from ?_);rw[l_ (show¬(Value.ref t==Value.none)=true fromλz=>oa z)];refine a_ (wh b e (x:=.int k 0) rfl ?_);refine(show wpAny _ _ (seqItems? (.ref t)>>=_) _ _ s from a_ (B_ f1 f3 ?_));simp only[sf,i];refine a_ (Es (a_ (wpAny_setField b e (by simp) (show wpAny _ _ (newExc (.type "StopIteration") []>>=_) _ _ _ from a_ ?_))));simp only[newExc,newTuple];refine a_ (ry (a_ (m:=firstArgMember _ _) (wpAny_of_eq (a:=Value.none) (by first|rfl|(simp only[firstArgMember];rfl)) (ry ?_ (by size_fits)))) (by size_fits));simp only[raiseNew];refine a_ (wpAny_handled ?_)
 first|rw[show A.in1.handled=none from hh]|rw[hh]
 exact a_ (e_ (wpAny_throw (q _ _ (((L7 ..).extBut.push _).push _) ⟨_,j_ _ rfl,rfl⟩)))
def FI{b:Bool}{j t:Addr}{k:Nat}{a:Oh}{v:Value}{Q:Oa}(c:qX b s.heap j t k)(d:qd b s.heap t a)(e:a[k]?=some v)(q:∀g,qX b g j t (k+1)->Heap.SameBut j s.heap g->Q v {s with heap:=g}):wpAny (model P w) A (Builtin.SmallTypes.nextOf (.ref j)) Q E s:=by cases b with|false=>exact sX c d e q|true=>exact wpAny_nextOf_list_item c d e q
def Fu(z a d e:Addr)(h g:Heap):Prop:=∀c ob,c≠z->c≠a->c≠d->c≠e->h.get? c=some ob->g.get? c=some ob
def Bw{c:Bool}{z h d j m t l:Addr}{L M:Nat}{Z ys:Oh}{x y a b:Value}{Q:Oa}(D:ZipApart z h d j m t l)(B:IsZip s.heap z h d .none)(p1:IsPair s.heap h (.ref j) (.ref m))(p2:IsPair s.heap d a b)(i1:s.heap.IsTupleIter j t L)(i2:qX c s.heap m l M)(tt:s.heap.IsTuple t Z)(ll:qd c s.heap l ys)(hx:Z[L]?=some x)(hy:ys[M]?=some y)(q:∀g,IsZip g z h d (rawInt s.heap.objs.size)->IsPair g d x y->g.IsTupleIter j t (L+1)->qX c g m l (M+1)->IsPair g s.heap.objs.size x y->g.objs.size=s.heap.objs.size+1->Fu z d j m s.heap g->Q (.ref s.heap.objs.size) {s with heap:=g}):wpAny (model P w) A (Builtin.«zip.__next__» ⟨[.ref z],[]⟩) (λfin s'=>∃v,fin=.done (.ret v)/\Q v s') E s:=by
 refine(show wpAny _ _ (field (.ref z) 2>>=_) _ _ _ from a_ (wh B rfl (x:=.bool false) rfl ?_));refine(show wpAny _ _ (field (.ref z) 3>>=_) _ _ _ from a_ (wh B rfl (x:=.ref h) rfl (a_ (B_ p1 rfl ?_))));refine(show wpAny _ _ (Builtin.SmallTypes.ownedTupleIsFree (.ref z)>>=_) _ _ _ from a_ ?_);unfold Builtin.SmallTypes.ownedTupleIsFree;refine a_ (wh B rfl (x:=.none) rfl (e_ ?_));simp only[NN];refine a_ (Es (a_ (wh B rfl (x:=.ref d) rfl (a_ (sD B (by simp) λg1 O k=>?_)))))
 replace O:IsZip g1 z h d .ellipsis:=O
 refine a_ ?_;simp only[List.zipIdx_cons,List.zipIdx_nil,NA,List.forIn_nil];refine a_ (a_ (wpAny_onRaise (show wpAny _ _ (Builtin.SmallTypes.nextOf (.ref j)>>=_) _ _ _ from a_ (sX (i1.extBut k.extBut D.i1z) (tt.extBut k.extBut D.l1z) hx λg2 R r=>e_ ?_))));have C:IsPair g2 d a b:=r.extBut _ _ D.TOi1 (k.extBut _ _ D.TOz p2);refine a_ (B_ C rfl (a_ (wpAny_updateSeq_pair C λg3 n u=>?_)))
 replace n:IsPair g3 d x b:=n
 refine a_ (wpAny_letGo (e_ (a_ (a_ (wpAny_onRaise ?_)))));refine(show wpAny _ _ (Builtin.SmallTypes.nextOf (.ref m)>>=_) _ _ _ from a_ (FI (i2.at λ_ e=>u.extBut _ _ D.TOi2.symm (r.extBut _ _ D.i12.symm (k.extBut _ _ D.i2z e))) (ll.at λ_ e=>u.extBut _ _ D.l2TO (r.extBut _ _ D.l2i1 (k.extBut _ _ D.l2z e))) hy λg4 S F=>e_ ?_))
 have G:IsPair g4 d x b:=F.extBut _ _ D.TOi2 n;refine a_ (B_ G rfl (a_ (wpAny_updateSeq_pair G λf i H=>?_)))
 replace i:IsPair f d x y:=i
 refine a_ (wpAny_letGo (e_ (e_ (a_ (B_ i rfl (a_ (wpAny_newTuple ?_)))))));have sz:f.objs.size=s.heap.objs.size:=by rw[H.1,F.1,u.1,r.1,k.1]
 have z5:IsZip f z h d .ellipsis:=H.extBut _ _ D.TOz.symm (F.extBut _ _ D.i2z.symm (u.extBut _ _ D.TOz.symm (r.extBut _ _ D.i1z.symm O)));have k5:Fu z d j m s.heap f:=λc o p K T U e=>H.extBut _ _ K (F.extBut _ _ U (u.extBut _ _ K (r.extBut _ _ T (k.extBut _ _ p e))));have V:f.IsTupleIter j t (L+1):=((R.extBut u.extBut D.TOi1.symm).extBut F.extBut D.i12).extBut H.extBut D.TOi1.symm;have W:qX c f m l (M+1):=S.at λ_ e=>H.extBut _ _ D.TOi2.symm e;have zl:z<f.objs.size:=np z5;refine(show wpAny _ _ (Builtin.SmallTypes.ownedTupleHandOut (.ref z) (.ref f.objs.size)>>=_) _ _ _ from a_ ?_);unfold Builtin.SmallTypes.ownedTupleHandOut;have z6:IsZip (f.push {cls:=.type "tuple",data:=.seq #[x,y]}) z h d .ellipsis:=c_ _ z5;refine a_ (sD z6 (by simp) λg7 X Y=>?_)
 replace X:IsZip g7 z h d (rawInt f.objs.size):=X
 refine sD X (by simp) λI N s8=>?_
 replace N:IsZip I z h d (rawInt f.objs.size):=N
 have up:∀c ob,c≠z->f.get? c=some ob->I.get? c=some ob:=λc ob p e=>s8.extBut _ _ p (Y.extBut _ _ p (c_ _ e));have pn:IsPair I f.objs.size x y:=s8.extBut _ _ (qr zl) (Y.extBut _ _ (qr zl) (j_ _ rfl));have J:I.objs.size=f.objs.size+1:=by rw[s8.1,Y.1,rm]
 rw[sz]at N pn J;refine e_ ⟨_,rfl,(show Q (.ref f.objs.size) _ from ?_)⟩;rw[sz];exact q I N (up _ _ D.TOz i) (V.at λob e=>up _ ob D.i1z e) (W.at λob e=>up _ ob D.i2z e) pn J λc ob p K T U e=>up c ob p (k5 c ob p K T U e)
def Bv(hh:A.handled=none)(D:ZipApart z i h m p t l)(j:IsZip s.heap z i h .none)(B:IsPair s.heap i (.ref m) (.ref p))(S:IsPair s.heap h a b)(C:s.heap.IsTupleIter m t F)(G:s.heap.IsTuple t H)(I:H[F]?=none)(q:∀g e,Fu z h m p s.heap g->(∃ob,g.get? e=some ob/\ob.cls=.type "StopIteration")->E (.ref e) {s with heap:=g}):wpAny (model P w) A (Builtin.«zip.__next__» ⟨[.ref z],[]⟩) Q E s:=by
 refine(show wpAny _ _ (field (.ref z) 2>>=_) _ _ _ from a_ (wh j rfl (x:=.bool false) rfl ?_));refine(show wpAny _ _ (field (.ref z) 3>>=_) _ _ _ from a_ (wh j rfl (x:=.ref i) rfl (a_ (B_ B rfl ?_))));refine(show wpAny _ _ (Builtin.SmallTypes.ownedTupleIsFree (.ref z)>>=_) _ _ _ from a_ ?_);unfold Builtin.SmallTypes.ownedTupleIsFree;refine a_ (wh j rfl (x:=.none) rfl (e_ ?_));simp only[NN];refine a_ (Es (a_ (wh j rfl (x:=.ref h) rfl (a_ (sD j (by simp) λJ n o=>?_)))))
 replace n:IsZip J z i h .ellipsis:=n
 refine a_ ?_;simp only[List.zipIdx_cons,List.zipIdx_nil,NA,List.forIn_nil];refine a_ (a_ (wpAny_onRaise (show wpAny _ _ (Builtin.SmallTypes.nextOf (.ref m)>>=_) _ _ _ from a_ (xX hh (C.extBut o.extBut D.i1z) (G.extBut o.extBut D.l1z) I λK e r L=>?_))));obtain⟨M,f,k⟩:=L;have u:IsZip K z i h .ellipsis:=r _ _ D.i1z.symm n;have N:e≠z:=λc=>by subst c;rw[u]at f;cases f;simp at k
 exact sD u (by simp) λO _ v=>q O e (λc ob y _ R _ d=>v.extBut _ _ y (r _ _ R (o.extBut _ _ y d))) ⟨M,v.extBut _ _ N f,k⟩
def Bx{c:Bool}{z h d e f t l:Addr}{i j:Nat}{m n:Oh}{x y a b:Value}{Q:Option Value->Shared->Prop}(D:ZipApart z h d e f t l)(o:IsZip s.heap z h d .none)(p:IsPair s.heap h (.ref e) (.ref f))(r:IsPair s.heap d a b)(u:s.heap.IsTupleIter e t i)(v:qX c s.heap f l j)(B:s.heap.IsTuple t m)(C:qd c s.heap l n)(G:m[i]?=some x)(H:n[j]?=some y)(q:∀g,IsZip g z h d (rawInt s.heap.objs.size)->IsPair g d x y->g.IsTupleIter e t (i+1)->qX c g f l (j+1)->IsPair g s.heap.objs.size x y->g.objs.size=s.heap.objs.size+1->Fu z d e f s.heap g->Q (some (.ref s.heap.objs.size)) {s with heap:=g}):wpAny (model P w) A (pyNext (.ref z)) Q E s:=by have ty:s.TypeIs (.ref z) "zip":=⟨_,o,rfl⟩;unfold pyNext;refine a_ (M_ (rr (name:=Str.ofString "__next__") ty NB (rk NB ty F.entry_zip_next (Bw D o p r u v B C G H λg a1 I J a4 K L M=>?_) (F.args_zip_next_1 _))));exact e_ (q g a1 I J a4 K L M)
def CN(hh:A.handled=none)(D:ZipApart z f c d h t l)(i:IsZip s.heap z f c .none)(m:IsPair s.heap f (.ref d) (.ref h))(n:IsPair s.heap c a b)(o:s.heap.IsTupleIter d t p)(r:s.heap.IsTuple t u)(v:u[p]?=none)(q:∀g,Fu z c d h s.heap g->Q none {s with heap:=g}):wpAny (model P w) A (pyNext (.ref z)) Q E s:=by have ty:s.TypeIs (.ref z) "zip":=⟨_,i,rfl⟩;unfold pyNext;refine a_ (M_ (rr (name:=Str.ofString "__next__") ty NB (rk NB ty F.entry_zip_next (Bv hh D i m n o r v λg e k x=>?_) (F.args_zip_next_1 _))));obtain⟨ob,h1,h2⟩:=x;exact a_ (Nd (T:="StopIteration") (b:=true) ⟨ob,h1,h2⟩ isSubtype_stop (e_ (q g k)))
abbrev FA(h:Heap)(t:Addr):Heap:=h.push {cls:=.type "tuple_iterator",data:=.fields #[.ref t,.int 0 0]}
abbrev Lo(c:Bool)(h:Heap)(t l:Addr):Heap:=(FA h t).push {cls:=.type (cond c "list_iterator" "tuple_iterator"),data:=.fields #[.ref l,.int 0 0]}
abbrev Ln(c:Bool)(h:Heap)(t l:Addr):Heap:=(Lo c h t l).push {cls:=.type "tuple",data:=.seq #[.ref h.objs.size,.ref (FA h t).objs.size]}
abbrev Lm(c:Bool)(h:Heap)(t l:Addr):Heap:=(Ln c h t l).push {cls:=.type "tuple",data:=.seq #[.none,.none]}
abbrev JY(c:Bool)(h:Heap)(t l:Addr):Heap:=(Lm c h t l).push {cls:=.type "zip",data:=.fields #[.none,.bool false,.bool false,.ref (Lo c h t l).objs.size,.ref (Ln c h t l).objs.size]}
def Aa(c:Bool)(t l:Addr)(a f:Oh):Meets (Builtin.«zip.__new__» ⟨[.type "zip",.ref t,.ref l],[]⟩) (λ_ R s=>s.heap.IsTuple t a/\qd c s.heap l f/\R (.ok (.ret (.ref (Lm c s.heap t l).objs.size))) {s with heap:=JY c s.heap t l}):=.of_wp λprog w A R s h=>by
  obtain⟨b,g,d,tk,os⟩:=s;obtain⟨h1,h2,h⟩:=h;have i:=sub_zip;have j:Heap.IsTuple (Shared.heap ⟨b,g,d,tk,os⟩) t a:=h1;have k:qd c (Shared.heap ⟨b.push {cls:=.type "tuple_iterator",data:=.fields #[.ref t,.int 0 0]},g,d,tk,os⟩) l f:=h2.at λ_ e=>c_ _ e
  wp_walk using MB j,AR k
  exact⟨_,rfl,h⟩
def CB{c:Bool}{t l:Addr}{h i:Oh}{Q:Oa}(h1:s.heap.IsTuple t h)(h2:qd c s.heap l i)(q:∀g,IsZip g (s.heap.objs.size+4) (s.heap.objs.size+2) (s.heap.objs.size+3) .none->IsPair g (s.heap.objs.size+2) (.ref s.heap.objs.size) (.ref (s.heap.objs.size+1))->IsPair g (s.heap.objs.size+3) .none .none->g.IsTupleIter s.heap.objs.size t 0->qX c g (s.heap.objs.size+1) l 0->(∀c o,s.heap.get? c=some o->g.get? c=some o)->Q (.ref (s.heap.objs.size+4)) {s with heap:=g}):wpAny (model P w) A (call (.type "zip") [.ref t,.ref l]) Q E s:=by
 refine callType_new F.called_zip (by decide) (F.typeCall_zip_2 _ _) (F.newCall_zip_2 _ _) (λob=>F.args_object_init_3 ob _ _) F.entry_zip_new (Aa c t l h i) ⟨h1,h2,?_⟩;have a:(FA s.heap t).objs.size=s.heap.objs.size+1:=rm ..;have b:(Lo c s.heap t l).objs.size=s.heap.objs.size+2:=by rw[rm,a]
 have e:(Ln c s.heap t l).objs.size=s.heap.objs.size+3:=by rw[rm,b]
 have j:(Lm c s.heap t l).objs.size=s.heap.objs.size+4:=by rw[rm,e]
 have f:(JY c s.heap t l).get? (Lm c s.heap t l).objs.size=some _:=j_ _ rfl;have k:(JY c s.heap t l).get? (Ln c s.heap t l).objs.size=some _:=c_ _ (j_ _ rfl);have m:(JY c s.heap t l).get? (Lo c s.heap t l).objs.size=some _:=c_ _ (c_ _ (j_ _ rfl));have n:(JY c s.heap t l).get? (FA s.heap t).objs.size=some _:=c_ _ (c_ _ (c_ _ (j_ _ rfl)));have p:(JY c s.heap t l).get? s.heap.objs.size=some _:=c_ _ (c_ _ (c_ _ (c_ _ (j_ _ rfl))));show _/\_;rw[b,e,j]at f;rw[a,b]at m;rw[e]at k;rw[a]at n;rw[j];exact⟨⟨_,f,rfl⟩,q _ f m k ⟨_,p,rfl,rfl⟩ ⟨_,n,rfl,rfl⟩ λc ob d=>c_ _ (c_ _ (c_ _ (c_ _ (c_ _ d))))⟩
end
def kQ{X:Cx}{a:Ob}{g:St}{H:Hp}{s:Shared}{h':Heap}{t':Nat}{ch:Oj}(I:aO X a g H s)(k:∀b o,b∉ch->s.heap.get? b=some o->h'.get? b=some o)(f:∀b∈ch,vz X a H b):aO X a g H {s with heap:=h',toks:=t'}:=by
 have d:∀b u,H b=some u->b∉ch:=λb u e z=>by rw[(f b z).1]at e;cases e
 refine I.step (g':=s.gens) (d':=s.drawn) (ch:=ch) (λb h=>?_) (λb o _ _ hc e _=>k b o hc e) (λb o _ _ hc e _=>⟨o.slots,k b o hc e⟩) (λ_ _ _ _ n=>n) (λb o hc e=>⟨o,k b o hc e⟩) (λ_ _ e=>e) (λ_ _ _ e=>e) (λb y e=>⟨#[],by rw[e];simp⟩) (λm hm=>?_) (λb u e=>?_) I.bare
 ·obtain⟨_,f1,_,f3,i,j⟩:=f b h;exact⟨f3,f1,i,j⟩
 ·obtain⟨o,l,p,t,r⟩:=hm;exact⟨o,l,p,k _ o (λz=>(f _ z).2.1 rfl) t,r⟩
 ·refine(I.hok b u e).stay (λc v hc q=>k c v ?_ q) (λ_ q=>q) λ_ _ q=>q;rcases hc with z|z
  ·rw[z];exact d b u e
  ·exact d c _ z
def Lk(c:Bool)(K:N_)(t l:Addr):It:=⟨λi H=>∃a b x y,aS K H t a/\Hd c K H l b/\a[i]?=some x/\b[i]?=some y,λi H v d=>∃T x y,H T=none/\v=.ref T/\d=aI H T (.tup [x,y])/\∀a b,aS K H t a->Hd c K H l b->a[i]?=some x/\b[i]?=some y,λi H=>∃a,aS K H t a/\a.length<=i⟩
def CU{c:Bool}{P:Oe}{w:World}{K:N_}{J:Og}{x1:Nat}{O:Pos}{z j m n q t l:Addr}(D:ZipApart z j m n q t l):vw P w K (.Tuple J x1 O) (Lk c K t l) [z,j,m,n,q] z (λi h=>IsZip h z j m .none/\IsPair h j (.ref n) (.ref q)/\(∃a b,IsPair h m a b)/\h.IsTupleIter n t i/\qX c h q l i)where
 mem:=by simp
 obj:=λi h st b d=>by
  obtain⟨a1,r,⟨_,_,A⟩,⟨al,a4,_,d4⟩,⟨an,C,_,d5⟩⟩:=st;simp only[tA,rl,Mj]at d;rcases d with rfl|rfl|rfl|rfl|rfl
  ·exact⟨_,a1,λv e=>by cases e⟩
  ·exact⟨_,r,λv e=>by cases e⟩
  ·exact⟨_,A,λv e=>by cases e⟩
  ·exact⟨_,a4,λv e=>by rw[d4]at e;cases e⟩
  ·exact⟨_,C,λv e=>by rw[d5]at e;cases e⟩
 keep:=λi h h' st k=>by obtain⟨a1,r,⟨a,b,A⟩,a4,C⟩:=st;exact⟨k z (by simp) _ a1,k j (by simp) _ r,⟨a,b,k m (by simp) _ A⟩,a4.at λob e=>k n (by simp) ob e,C.at λob e=>k q (by simp) ob e⟩
 item:=by
  intro X Q R S hc i B s σ H E I N st hg;subst Q R S;obtain⟨xs,ys,x,y,L,T,U,hy⟩:=hg;obtain⟨F,V,p,hz⟩:=I.tuple L;obtain⟨ad,Y,p2,Z⟩:=I.sqE T;obtain⟨u,hu,ru⟩:=V.get U;obtain⟨u2,aa,ac⟩:=Y.get hy;obtain⟨a1,r,⟨a,b,A⟩,a4,C⟩:=st;refine Bx D a1 r A a4 C (show s.heap.IsTuple t F.toArray from p) p2 (x:=u) (y:=u2) (by simpa using hu) (by simpa using aa) λg b1 b2 b3 b4 b5 b6 off=>?_;refine⟨_,rfl,wpAny_letOwnedTupleGo_zip b1 λg' c1 G=>?_⟩;have lt:∀c∈[z,j,m,n,q],c≠s.heap.objs.size:=λc M e=>by
   have hs:∃ob,s.heap.get? c=some ob:=by
    simp only[tA,rl,Mj]at M;rcases M with rfl|rfl|rfl|rfl|rfl
    ·exact⟨_,a1⟩
    ·exact⟨_,r⟩
    ·exact⟨_,A⟩
    ·obtain⟨ob,e,_⟩:=a4;exact⟨ob,e⟩
    ·obtain⟨ob,e,_⟩:=C;exact⟨ob,e⟩
   obtain⟨ob,h⟩:=hs;rw[e]at h;exact absurd (np h) (sm _)
  have fresh:H s.heap.objs.size=none:=I.hok.fresh (f_ _);have I1:aO X B σ (aI H s.heap.objs.size (.tup [x,y])) {s with heap:=s.heap.push {cls:=.type "tuple",data:=.seq #[u,u2]},toks:=s.toks}:=I.laid (λb o e=>c_ _ e) (f_ _) ⟨by rw[nk];simp,[u,u2],.cons ru (.cons ac .nil),⟨_,j_ _ rfl,rfl,_,rfl⟩⟩
  have I2:=kQ (h':=g') (t':=s.toks) (ch:=[z,j,m,n,q]) I1 (λb o d e=>?_) (λb d=>?_)
  ·refine⟨.ref s.heap.objs.size,_,I2,rfl,⟨_,x,y,fresh,rfl,rfl,λap as h1 h2=>⟨by rw[I.tuple_inj h1 L];exact U,by rw[Z _ h2];exact hy⟩⟩,⟨c1,G.extBut _ _ D.TIz (off _ _ D.TIz D.TITO D.TIi1 D.TIi2 r),⟨_,_,G.extBut _ _ D.TOz b2⟩,b3.extBut G.extBut D.i1z,b4.at λ_ e=>G.extBut _ _ D.i2z e⟩,λb d=>?_⟩;rw[au (lt b d)];exact(N b d).1
  ·have f:b≠z/\b≠j/\b≠m/\b≠n/\b≠q:=by simpa using d
   by_cases eb:b=s.heap.objs.size
   ·subst eb;rw[j_ _ rfl]at e;cases e;exact G.extBut _ _ f.1 b5
   ·have e':s.heap.get? b=some o:=by
     rcases MO e with⟨z2,_⟩|e2
     ·exact absurd z2 eb
     ·exact e2
    exact G.extBut _ _ f.1 (off b o f.1 f.2.2.1 f.2.2.2.1 f.2.2.2.2 e')
  ·obtain⟨f0,f1⟩:=N b d;exact⟨by rw[au (lt b d)];exact f0,f1⟩
 done:=by
  intro X Q R S hc i B s σ H E I N st hg;subst Q R S;obtain⟨xs,hq,U⟩:=hg;obtain⟨F,V,p,hz⟩:=I.tuple hq;have hl:=V.length;obtain⟨a1,r,⟨a,b,A⟩,a4,C⟩:=st;refine CN (I.ok.hd hc) D a1 r A a4 (show s.heap.IsTuple t F.toArray from p) (by simp;lia) λg off=>⟨rfl,kQ (t':=s.toks) (ch:=[z,j,m,n,q]) I (λb o d e=>?_) N⟩;have f:b≠z/\b≠j/\b≠m/\b≠n/\b≠q:=by simpa using d
  exact off b o f.1 f.2.2.1 f.2.2.2.1 f.2.2.2.2 e
 self:=λ_ _ _ _ _ st h=>wpAny_pyIter_zip st.1 h
end L2
namespace L2
open PySem PySem.Spec PyProof.Rows PySem.W
section
variable{X:Cx}{a:Expr}
end
end L2
namespace L2
open PySem PySem.Spec PyProof.Rows PySem.W
def LL{K:N_}{w:World}{pm:Params}{a:Addr}(h:w.params=pm)(k:Hh K pm a):Hh K w.params a:=h▸k
def gl(c:Nat):List (List Nat)->List Nat|[]=>[]|[x]=>x|x::y::r=>x++c::gl c (y::r)
end L2
namespace L2
open PySem PySem.Spec PyProof.Rows
section
variable{prog:Oe}{w:World}{A:Around}{E:Oa}{s:Shared}
end
section
variable{P:Oe}{w:World}{A:Around}{R:Result->Shared->Prop}{h0:Heap}{l c d:Addr}{a:Oh}{e:List jq}
end
section
variable{P:Oe}{w:World}{A:Around}{E:Oa}{s:Shared}{l:Addr}{a:Oh}{c:List jq}{Q:Oa}
end
section
variable{X:Cx}
end
end L2
namespace L2
open PySem PySem.Spec PyProof.Rows PySem.W
abbrev dE(P:Oe)(w:World)(d:Addr)(a:List (bQ×V))(c:Nat):HO:=.ext λh=>((d==sysModules)=false/\a.length<=sizeLine)/\∃b,KV a b/\h.DictAt (aX P w) d b c
theorem xj:∀{a:List (bQ×V)}{d:List (bQ×Value)},KV a d->∀(i:Nat)(k:bQ)(v:V),a[i]?=some (k,v)->∃u,d[i]?=some (k,u)/\bd v u|_,_,.nil,i,k,v,h=>by simp at h|_,_,.cons (b:=q) ⟨c,e⟩ t,i,k,v,h=>by cases i with|zero=>simp at h;subst h;obtain⟨f,u⟩:=q;have c:k=f:=c;subst c;exact⟨u,rfl,e⟩|succ i=>obtain⟨u,h1,h2⟩:=xj t i k v (by simpa using h);exact⟨u,by simpa using h1,h2⟩
def xf(h:(aX P w).is k u=true):bd (kV k) u:=by
 rcases kI.flat (P:=P) (w:=w) (h:=default) (k:=k) (v:=u) h with⟨i,t,rfl,rfl⟩|⟨z,t,rfl,rfl⟩
 ·exact⟨t,rfl⟩
 ·exact⟨t,rfl⟩
section
variable{X:Cx}{g:Ob}{j:St}{H:Hp}{s:Shared}{d:Addr}{f:List (bQ×V)}{i:Nat}
def aO.walk(I:aO X g j H s)(h:H d=some (.dK f)):∃i l,KV f l/\s.heap.DictAt (aX X.prog X.w) d l i/\(d==sysModules)=false/\aO X g j (aI H d (dE X.prog X.w d f i)) s:=by obtain⟨t,p,l,q,m⟩:=I.hok d _ h;obtain⟨i,n⟩:=m.dictAt;obtain⟨o,u,r,_⟩:=id n;refine⟨i,l,q,n,p,?_⟩;have J:=I.write (h':=s.heap) (t':=s.toks) (x:=d) (e:=d) (o:=dE X.prog X.w d f i) (by rw[h];exact True.intro) (.inl rfl) (λ_ _ _ e=>e) ⟨o,r⟩ ⟨⟨⟨p,t⟩,l,q,n⟩,⟨o,r⟩,λ_ _⟨a,l,b,c⟩k=>⟨a,l,b,c.at' k⟩⟩;exact J
def aO.thaw(I:aO X g j H s)(h:H d=some (dE X.prog X.w d f i)):aO X g j (aI H d (.dK f)) s:=by obtain⟨⟨⟨a,b⟩,c,k,l⟩,⟨o,m⟩,_⟩:=I.hok d _ h;have J:=I.write (h':=s.heap) (t':=s.toks) (x:=d) (e:=d) (o:=.dK f) (by rw[h];exact True.intro) (.inl rfl) (λ_ _ _ e=>e) ⟨o,m⟩ ⟨b,a,c,k,l.dictOf⟩;exact J
end
def Lv(P:Oe)(w:World)(d:Addr)(a:List (bQ×V))(c:Nat)(f:bQ×V->V):It:=⟨λi H=>H d=some (dE P w d a c)/\i<a.length,λi H x b=>b=H/\a[i]?.map f=some x,λi H=>H d=some (dE P w d a c)/\a.length<=i⟩
def BC{P:Oe}{w:World}{K:N_}{O:Expr}(d g:Addr)(a:List (bQ×V))(n:Nat):vw P w K O (Lv P w d a n λp=>kV p.1) [g] g (λi h=>h.IsKeyIter g d i a.length n)where
 mem:=by simp
 obj:=λi h st b l=>by
  have e:b=g:=by simpa using l
  subst e;obtain⟨o,e,c,x⟩:=st;exact⟨o,e,λv z=>by rw[x]at z;cases z⟩
 keep:=λi h h'⟨o,e,r⟩k=>⟨o,k g (by simp) o e,r⟩
 item:=by intro X y A B hc i j s M H E I q st hg;subst y A B;obtain⟨hd,hi⟩:=hg;obtain⟨⟨_,C,t,D⟩,_⟩:=I.hok d _ hd;have f:a.length=C.length:=Paired.length t;obtain⟨F,f1,f2,f3,G,J⟩:=q g (by simp);have N:a[i]?=some a[i]:=h_ hi;obtain⟨u,Q,ru⟩:=xj t i a[i].1 a[i].2 N;have st:s.heap.IsKeyIter g d i a.length n:=st;rw[f]at st;refine wpAny_pyNext_dict_item st D Q λL h' R m S=>?_;have I1:aO X j M H {s with heap:=h'}:=I.turned (t':=s.toks) (λb o l e=>(S.2 b l).trans e) F f1 f3 G J;obtain⟨o,e,c,x⟩:=id m;rw[<-f]at m;exact⟨L,rfl,wg (s:={s with heap:=h'}) e c x (by decide) ⟨kV a[i].1,H,I1,xf R,⟨rfl,by rw[N];rfl⟩,m,λb l=>(q b l).1⟩⟩
 done:=by intro X y A B hc i j s M H E I q st hg;subst y A B;obtain⟨hd,hi⟩:=hg;obtain⟨⟨_,C,t,D⟩,_⟩:=I.hok d _ hd;have f:a.length=C.length:=Paired.length t;obtain⟨F,f1,f2,f3,G,J⟩:=q g (by simp);have st:s.heap.IsKeyIter g d i a.length n:=st;rw[f]at st;exact wpAny_pyNext_dict_end (I.ok.hd hc) st D (p_ (by lia)) λh' U=>⟨rfl,I.turned (t':=s.toks) (λb o l e=>U b o l e) F f1 f3 G J⟩
 self:=λ_ _ _ _ _ st h=>wpAny_pyIter_keyiter st h
def BA{P:Oe}{w:World}{K:N_}{N:Expr}(d g:Addr)(a:List (bQ×V))(n:Nat):vw P w K N (Lv P w d a n λp=>p.2) [g] g (λi h=>h.IsValIter g d i a.length n)where
 mem:=by simp
 obj:=λi h st b l=>by
  have e:b=g:=by simpa using l
  subst e;obtain⟨o,e,c,x⟩:=st;exact⟨o,e,λv z=>by rw[x]at z;cases z⟩
 keep:=λi h h'⟨o,e,r⟩k=>⟨o,k g (by simp) o e,r⟩
 item:=by intro X y A B hc i j s L H E I q st hg;subst y A B;obtain⟨hd,hi⟩:=hg;obtain⟨⟨_,C,t,D⟩,_⟩:=I.hok d _ hd;have f:a.length=C.length:=Paired.length t;obtain⟨F,f1,f2,f3,G,J⟩:=q g (by simp);have M:a[i]?=some a[i]:=h_ hi;obtain⟨u,O,ru⟩:=xj t i a[i].1 a[i].2 M;have st:s.heap.IsValIter g d i a.length n:=st;rw[f]at st;refine wpAny_pyNext_values_item st D O λh' m Q=>?_;have I1:aO X j L H {s with heap:=h'}:=I.turned (t':=s.toks) (λb o l e=>(Q.2 b l).trans e) F f1 f3 G J;obtain⟨o,e,c,x⟩:=id m;rw[<-f]at m;exact⟨u,rfl,wg (s:={s with heap:=h'}) e c x (by decide) ⟨a[i].2,H,I1,ru,⟨rfl,by rw[M];rfl⟩,m,λb l=>(q b l).1⟩⟩
 done:=by intro X y A B hc i j s L H E I q st hg;subst y A B;obtain⟨hd,hi⟩:=hg;obtain⟨⟨_,C,t,D⟩,_⟩:=I.hok d _ hd;have f:a.length=C.length:=Paired.length t;obtain⟨F,f1,f2,f3,G,J⟩:=q g (by simp);have st:s.heap.IsValIter g d i a.length n:=st;rw[f]at st;exact wpAny_pyNext_values_end (I.ok.hd hc) st D (p_ (by lia)) λh' S=>⟨rfl,I.turned (t':=s.toks) (λb o l e=>S b o l e) F f1 f3 G J⟩
 self:=λ_ _ _ _ _ st h=>wpAny_pyIter_valiter st h
section
variable{X:Cx}{P:Oe}{w:World}{j l o e:Expr}{a c te:TE}{g i:Pos}
def K4(P:Oe)(w:World)(a:TE):TI:=λk H R=>a k H λx f=>∃d b,x=.ref d/\f d=some (.dK b)/\∀h,R (Lv P w d b h λp=>kV p.1) (aI f d (dE P w d b h))
def Gm(t:PE X l a)(u:X.prog=P:=by rfl)(y:X.w=w:=by rfl):PI X j l (K4 P w a):=by
 subst u y;intro f s z H R I h;refine cE (t f s z H _ I h) λv n A=>?_;obtain⟨x,J,I1,B,d,k,e,hd,q⟩:=A;subst e;obtain rfl:v=Value.ref d:=B;obtain⟨r,C,D,E,F,p⟩:=I1.walk hd;have m:k.length=C.length:=Paired.length D;refine wpAny_pyIter_dict F E ?_;refine⟨n.heap.objs.size,[n.heap.objs.size],_,_,_,rfl,p.kept (t':=n.toks) λb o e=>c_ _ e,BC d _ k r,⟨_,j_ _ rfl,rfl,by rw[m];rfl⟩,λb G=>?_,q r⟩;have e:b=n.heap.objs.size:=by simpa using G
 subst e;exact p.fpOk (f_ _) (p.hok.fresh (f_ _))
def K0(P:Oe)(w:World)(c:TE):TI:=λk H R=>c k H λx f=>∃d b,x=.ref d/\f d=some (.dK b)/\∀h,R (Lv P w d b h λp=>p.2) (aI f d (dE P w d b h))
def LE(P:Oe)(w:World)(t:TE):TE:=λh H Q=>t h H λv f=>∃d b k,f d=some (dE P w d b k)/\Q v (aI f d (.dK b))
def IW(h:PE X e te)(f:X.prog=P:=by rfl)(m:X.w=w:=by rfl):PE X e (LE P w te):=by subst f m;intro b s k H Q I n;refine cE (h b s k H _ I n) λu x p=>?_;obtain⟨v,y,I1,r,d,t,z,hd,q⟩:=p;exact⟨v,_,I1.thaw hd,r,q⟩
def Kn(P:Oe)(w:World)(t:TS):TS:=λD k H=>t {D with nx:=λf h=>∃d b m,h d=some (dE P w d b m)/\D.nx f (aI h d (.dK b))} k H
def zO{st:Stmt}{t:TS}(h:PS X st t)(m:X.prog=P:=by rfl)(n:X.w=w:=by rfl):PS X st (Kn P w t):=by subst m n;intro b s p H D I r;refine wpAny_mono (h b s p H _ I r) (λf y z=>?_) λ_ _ z=>z;cases f with|next=>obtain⟨k,A,v,d,x,B,hd,q⟩:=z;exact⟨k,_,v.thaw hd,q⟩|brk=>exact z|cont=>exact z|ret u=>exact z
end
end L2
namespace L2
open PySem PySem.Spec PyProof.Rows PySem.W
section
variable{X:Cx}{P:Oe}{w:World}{i l o e:Expr}{p g te ty:TE}{c f j:Pos}
def Gj(D:PE X o g)(E:X.prog=P:=by rfl)(G:X.w=w:=by rfl)(m:attributeBase o "values" X.env (eval o X.env)=eval o X.env:=by rfl)(n:(c.endLine==f.line)=true:=by rfl):PI X i (.Call (.Attribute o "values" c) [] [] f) (K0 P w g):=by
 subst E G;intro k s J H R I h;refine wpAny_Call_method0_late m n (cE (D k s J H _ I h) λv a K=>?_);obtain⟨x,V,I1,L,d,r,e,hd,q⟩:=K;subst e;obtain rfl:v=Value.ref d:=L;obtain⟨B,C,M,t,N,O⟩:=I1.walk hd;have u:r.length=C.length:=Paired.length M;obtain⟨ob,W,y,Q,_⟩:=id t;refine⟨"dict","dict.values",PySem.F.plainAttrs_dict,PySem.F.slot_dict_values,PySem.F.type_dict_values,t.dictOf.typeIs,?_,u_ rfl (PySem.evalArgs_none (Mb PySem.F.slot_dict_values t.dictOf.typeIs PySem.F.entry_dict_values (PySem.F.args_dict_values_1 _) (meets_dict_values (aX X.prog X.w) d N) ⟨⟨C,t.dictOf⟩,?_⟩))⟩
 ·intro b z;cases z;exact⟨ob,y,Q.2.1⟩
 ·have S:(a.heap.push {cls:=.type "dict_values",data:=.fields #[.ref d]}).IsValuesView a.heap.objs.size d:=⟨_,j_ _ rfl,rfl,rfl⟩;show wpAny _ _ (pyIter (.ref a.heap.objs.size)) _ _ _;have A:=O.kept (h':=a.heap.push {cls:=.type "dict_values",data:=.fields #[.ref d]}) (t':=a.toks) λb o e=>c_ _ e;refine wpAny_pyIter_values (s:={a with heap:=a.heap.push {cls:=.type "dict_values",data:=.fields #[.ref d]}}) S (t.push _) ?_;refine⟨_,[(a.heap.push {cls:=.type "dict_values",data:=.fields #[.ref d]}).objs.size],_,_,_,rfl,A.kept (t':=a.toks) λb o e=>c_ _ e,BA d _ r B,⟨_,j_ _ rfl,rfl,by rw[u];rfl⟩,λb U=>?_,q B⟩;have e:b=(a.heap.push {cls:=.type "dict_values",data:=.fields #[.ref d]}).objs.size:=by simpa using U
  subst e;exact A.fpOk (f_ _) (A.hok.fresh (f_ _))
def Ki(K:N_)(a:Addr)(ty:TE):TE:=λd H Q=>ty d H λy b=>∃x r,y=.str x/\PySem.W.nsIn K a x=some r/\((r=none/\Q .non b)\/∃u v,r=some u/\bd v u/\Q v b)
def Go(K:N_)(L:X.K=K)(hd:Hh K X.w.params a)(hg:Gl X x)(hm:X.mg x=some (.ref a))(M:PE X e ty)(m:M1 X (.Name x d) "get" c e f)(B:(x==("__debug__":Str))=false:=by decide):PE X (.Call (.Attribute (.Name x d) "get" c) [e] [] f) (Ki K a ty):=by
 subst L;intro k s E H Q I h;obtain⟨lo,es,n,A,G⟩:=hd;have hn:PE X (.Name x d) (tC (.ref a)):=A8 hg hm rfl B;refine MF m.base m.few m.line PySem.F.plainAttrs_dict PySem.F.slot_dict_get PySem.F.type_dict_get (cE (hn k s E H (λv N=>v=.ref a/\N=H) I ⟨rfl,rfl⟩) λu O⟨z,R,I1,S,T,U⟩=>?_);subst T U;obtain rfl:u=Value.ref a:=S;have C:=PySem.W.mapOf_K (prog:=X.prog) (w:=X.w) I1.kIn A G;refine⟨C.typeIs,λb z=>by cases z;exact⟨_,I1.kIn _ _ A,rfl⟩,?_⟩;rw[m.trees];refine u_ rfl (C2 (tx (cE (M k O E R _ I1 h) λiv s2 V=>?_)));obtain⟨y,J,D,Y,Z,r,ey,hu,q2⟩:=V;refine D_ ?_;subst ey;obtain⟨tk,rfl⟩:=Y;have t:=PySem.W.mapOf_K (prog:=X.prog) (w:=X.w) D.kIn A G;refine Mb PySem.F.slot_dict_get t.typeIs PySem.F.entry_dict_get (PySem.F.args_dict_get_2 _ _) (meets_dict_get (strKind X.prog X.w) a (PySem.strKind_is X.prog X.w Z tk) lo) ⟨_,t,?_⟩;rw[PySem.W.find_K A hu];rcases q2 with⟨rfl,q⟩|⟨u',v',rfl,rv,q⟩
 ·exact⟨.non,J,D.tok _,rfl,q⟩
 ·exact⟨v',J,D.tok _,rv,q⟩
end
end L2
namespace L2
open PySem PySem.W PyProof.Rows
section
variable{M:Model}{A:Around}{E:Oa}
def B9{C D N J:Addr}{nm q m L:Str}{bs n o a:Od}{hd O sub P p r u c v i}{dd w:Option Addr}{R S T W X x y z B F:Option Value}{id G:String}{s:Shared}{e:Addr}{H:Obj}{Q:Bool->Shared->Prop}(Z:s.heap.get? C=some (excClassObj nm q C N bs o hd O sub P p dd R S T W X id))(I:s.heap.get? D=some (excClassObj m L D J n a r u c v i w x y z B F G))(he:s.heap.get? e=some H)(j:H.cls=.ref C)(hb:a.contains (.type "BaseException")=true)(l:Q ((Value.ref C::o).contains (.ref D)) s):wpAny M A (excMatches (.ref e) (.ref D)) Q E s:=by
 obtain⟨h,g,d,t,os⟩:=s;have b:(Value.ref D::a).contains (.type "BaseException")=true:=by rw[List.contains_cons,hb,Bool.or_true]
 have f:=tc_notTuple;unfold excMatches
 repeat(first|(with_reducible refine wpAny_loadPart_at he ?_;rw[j])|with_reducible refine wpAny_loadPart_at I ?_|(with_reducible refine wpAny_isSubtype_exc I ?_;rw[b])|(with_reducible refine wpAny_isSubtype_exc Z ?_)|wp_step)
 cases hc:(Value.ref C::o).contains (Value.ref D)with|true=>rw[hc]at l;rw[mo rfl];exact e_ (e_ (e_ l))|false=>rw[hc]at l;rw[l_ oa];exact e_ (e_ (e_ l))
end
def JS(K:N_)(C:Addr)(a:Od):Prop:=∃b dd cd sl,K.lookup C=some ⟨b,dd,.cls cd,sl⟩/\cd.mro=.ref C::a
def JS.is{K:N_}{C:Addr}{d c:Od}{h:Heap}{o:Obj}{a:ClassData}(m:JS K C d)(kin:K.In h)(e:h.get? C=some o)(hd:o.data=.cls a)(hm:a.mro=.ref C::c):c=d:=by obtain⟨f,dd,cd,sl,l,r⟩:=m;have b:=kin _ _ l;rw[e]at b;cases b;have hd:Data.cls cd=Data.cls a:=hd;cases hd;rw[hm]at r;exact(List.cons.inj r).2
end L2
namespace L2
open PySem PySem.Spec PyProof.Rows PySem.W
section
variable{X:Cx}{d:Expr}
def KZ(K:N_)(e:TA):TI:=λb H R=>e b H λf a=>∃t l g h,f=[.ref t,.ref l]/\aS K a t g/\∃c,Hd c K a l h/\R (Lk c K t l) a
def Gi(K:N_)(D:X.K=K){i:Og}{E:Nat}{j:Pos}{a b:Expr}{z:TA}{p m:Pos}(hg:Gl X "zip")(hm:X.mg "zip"=none)(F:PA X [a,b] z)(G:starEach [a,b] X.env=[(false,eval a X.env),(false,eval b X.env)]:=by rfl)(n:starEach [b] X.env=[(false,eval b X.env)]:=by rfl):PI X (.Tuple i E j) (.Call (.Name "zip" p) [a,b] [] m) (KZ K z):=by
 subst D;intro k s J H R I h;refine z7 (lj I hg hm Fi (F_ (cE (F m k s J H _ I h) λus f L=>?_) (by rw[G,n]) (by rw[n];rfl)));obtain⟨vs,M,I1,N,t,l,xs,ys,e,w,c,x,q⟩:=L;subst e;obtain⟨u,v,rfl,rt,O⟩:=vC N;obtain rfl:u=Value.ref t:=rt;obtain rfl:v=Value.ref l:=O;obtain⟨y,rv,pl,hz⟩:=I1.tuple w;obtain⟨A,P,o,Q⟩:=I1.sqE x;obtain⟨o1,S,_⟩:=id pl;obtain⟨o2,T,_⟩:=id o;refine CB (show f.heap.IsTuple t y.toArray from pl) o λg B U V Y Z kk=>?_;refine wpAny_pyIter_zip B ⟨_,[f.heap.objs.size+4,f.heap.objs.size+2,f.heap.objs.size+3,f.heap.objs.size,f.heap.objs.size+1],_,_,M,rfl,I1.kept (t':=f.toks) kk,CU (ktu_apart f.heap.objs.size t l (np S) (np T)),⟨B,U,⟨_,_,V⟩,Y,Z⟩,λb C=>?_,q⟩;have r:f.heap.objs.size<=b:=by simp only[tA,rl,Mj]at C;rcases C with rfl|rfl|rfl|rfl|rfl<;>first|exact f_ _|exact Ni _ _
 exact I1.fpOk r (I1.hok.fresh r)
def CA{K:N_}{a l:Addr}{xs ys:List V}{g:TG}{ds:Oi}{k:Nat}{tc:TT}{te:TE}{E:St}{j:Hp}{F:Addr->Hp->Prop}(Pv:Addr->Nat->List V->Hp->Prop)(r:aY K j l ys\/aS K j l ys)(h0:∀D,j D=none->Pv D 0 [] (aI j D (.lst [])))(w:xs.length=ys.length)(G:∀D i f h,Pv D i f h->aS K h a xs/\aq j h)(H:∀D i x y f h T,j D=none->xs[i]?=some x->ys[i]?=some y->Pv D i f h->h T=none->g (.ref T) (iG ds k E) (aI h T (.tup [x,y])) λn A=>tc n A λb t=>if b=true then te n t λy u=>u D=some (.lst f)/\f.length<sizeLine/\∃o,o<xs.length-i/\o=xs.length-(i+1)/\i+1<=xs.length/\Pv D (i+1) (f++[y]) (aI u D (.lst (f++[y])))else∃o,o<xs.length-i/\o=xs.length-(i+1)/\i+1<=xs.length/\Pv D (i+1) f t)(hd:∀D f h,j D=none->Pv D xs.length f h->F D h):∃c,Hd c K j l ys/\∀D,j D=none->∃W:Nat->Nat->List V->Hp->Prop,(∃m,W 0 m [] (aI j D (.lst [])))/\∀i m f h,W i m f h->((Lk c K a l).stop i h/\F D h)\/((Lk c K a l).go i h/\∀x B,(Lk c K a l).yld i h x B->g x (iG ds k E) B λn A=>tc n A λb t=>if b=true then te n t λy u=>u D=some (.lst f)/\f.length<sizeLine/\∃o,o<m/\W (i+1) o (f++[y]) (aI u D (.lst (f++[y])))else∃o,o<m/\W (i+1) o f t):=by
 obtain⟨c,hc,I⟩:∃c,Hd c K j l ys/\∀h,aq j h->Hd c K h l ys:=by
  rcases r with r|r
  ·exact⟨true,r,λ_ z=>z.seq r⟩
  ·exact⟨false,r,λ_ z=>aq.tseq z r⟩
 refine⟨c,hc,λD C=>⟨λi m f h=>m=xs.length-i/\i<=xs.length/\Pv D i f h,⟨_,rfl,o_ _,h0 D C⟩,?_⟩⟩;rintro i m f h⟨rfl,hi,p⟩;obtain⟨q,v⟩:=G D i f h p;have v:=I h v
 by_cases s:i<xs.length
 ·refine .inr ⟨⟨xs,ys,xs[i],ys[i],q,v,by simp[s],by simp[<-w,s]⟩,λx B y=>?_⟩;obtain⟨T,J,L,M,e,N,y⟩:=y;subst e N;obtain⟨O,P⟩:=y xs ys q v;exact H D i J L f _ T C O P p M
 ·have e:i=xs.length:=N5 hi (MI s);subst e;exact .inl ⟨⟨xs,q,f_ _⟩,hd D f h C p⟩
end
end L2
namespace L2
open PySem PySem.Spec PyProof.Rows PySem.W
def EZ(hh:A.handled=none)(c t:Addr)(ne:t≠c)(a:Oh):Draws P w A c [c,t] a.size (λi v=>a[i]?=some v) (λi h=>h.IsTupleIter c t i/\h.IsTuple t a)where
 live:=λ_ _ st=>let⟨o,e,_⟩:=st.1;⟨o,e⟩
 frame:=λ_ _ _ st k=>⟨st.1.at λo e=>k c (by simp) o e,st.2.at λo e=>k t (by simp) o e⟩
 item:=λi s Q E hi st q=>sX st.1 st.2 (v:=a[i]) (by simp[hi]) λg d b=>q _ g s.toks (by simp[hi]) ⟨d,st.2.extBut b.extBut ne⟩ b
 done:=λs Q E st q=>xX hh st.1 st.2 (by simp) q
def yQ(t:Addr)(a:Oh)(n:Nat)(f:Option Addr)(sl:Array (Option Value)):Meets (Builtin.«enumerate.__new__» ⟨[.type "enumerate",.ref t],[]⟩) (λ_ R s=>s.heap.get? t=some {cls:=.type "tuple",dict:=f,data:=.seq a n,slots:=sl}/\R (.ok (.ret (.ref (FA s.heap t).objs.size))) {s with heap:=(FA s.heap t).push {cls:=.type "enumerate",data:=.fields #[.none,.bool false,.ref s.heap.objs.size,rawInt 0,.none,.none]}}):=.of_wp λprog w A R s h=>by
  obtain⟨i,g,d,tk,os⟩:=s;obtain⟨b,h⟩:=h;have f1:=sub_enumerate;have e:Heap.IsTuple (Shared.heap ⟨i,g,d,tk,os⟩) t a:=⟨_,b,rfl,n,rfl⟩
  wp_walk using Nc b
  refine wpAny_stack_any λst=>e_ ?_
  split
  ·rename_i c _ _ _ _ _;cases(c==Value.type "enumerate")<;>(wp_walk using Nc b,MB e)<;>exact⟨_,rfl,h⟩
  ·wp_walk using Nc b,MB e
   exact⟨_,rfl,h⟩
def AA(i:s.heap.IsTuple t a)(q:∀g,IsEnum g (s.heap.objs.size+1) s.heap.objs.size 0 .none->g.IsTupleIter s.heap.objs.size t 0->(∀b o,s.heap.get? b=some o->g.get? b=some o)->Q (.ref (s.heap.objs.size+1)) {s with heap:=g}):wpAny (model P w) A (call (.type "enumerate") [.ref t]) Q E s:=by
 obtain⟨⟨c,j,l,sl⟩,k,d,n,e⟩:=i;simp only at d e;subst d e;refine callType_new F.called_enumerate (by decide) (F.typeCall_enumerate_1 _) (F.newCall_enumerate_1 _) (λob=>F.args_object_init_2 ob _) F.entry_enumerate_new (yQ t a n j sl) ⟨k,?_⟩;have f:(FA s.heap t).objs.size=s.heap.objs.size+1:=rm ..;show _/\_;rw[f];have h:IsEnum ((FA s.heap t).push {cls:=.type "enumerate",data:=.fields #[.none,.bool false,.ref s.heap.objs.size,rawInt 0,.none,.none]}) (s.heap.objs.size+1) s.heap.objs.size 0 .none:=by have z:=j_ (FA s.heap t) (o:={cls:=.type "enumerate",data:=.fields #[.none,.bool false,.ref s.heap.objs.size,rawInt 0,.none,.none]}) rfl;rw[f]at z;exact z
 exact⟨⟨_,h,rfl⟩,q _ h ⟨_,c_ _ (j_ _ rfl),rfl,rfl⟩ λb o x=>c_ _ (c_ _ x)⟩
def Ite(K:N_)(t:Addr):It:=⟨λi H=>∃a x,aS K H t a/\a[i]?=some x,λi H v b=>∃T x,H T=none/\v=.ref T/\b=aI H T (.tup [.int i,x])/\∀a,aS K H t a->a[i]?=some x,λi H=>∃a,aS K H t a/\a.length=i⟩
def BD{P:Oe}{w:World}{K:N_}{r:Og}{Z:Nat}{F:Pos}{e a t:Addr}(n1:e≠a)(n2:t≠a)(n3:t≠e):vw P w K (.Tuple r Z F) (Ite K t) [e,a] e (λi h=>(∃d,IsEnum h e a i d)/\h.IsTupleIter a t i)where
 mem:=by simp
 obj:=λi h st b j=>by
  obtain⟨⟨_,a1⟩,ob,l,_,V⟩:=st;simp only[tA,rl,Mj]at j;rcases j with rfl|rfl
  ·exact⟨_,a1,λv z=>by cases z⟩
  ·exact⟨_,l,λv z=>by rw[V]at z;cases z⟩
 keep:=λi h h' st k=>by obtain⟨⟨d,a1⟩,l⟩:=st;exact⟨⟨d,k e (by simp) _ a1⟩,l.at λob z=>k a (by simp) ob z⟩
 item:=by
  intro X G J L hc i m s R H E I B st hg;subst G J L;obtain⟨Y,x,C,S⟩:=hg;obtain⟨f,M,p,hz⟩:=I.tuple C;obtain⟨u,T,ru⟩:=M.get S;obtain⟨⟨d,a1⟩,l⟩:=st;have hi:i<f.toArray.size:=by rw[n_];exact(d_.mp T).1
  have n:X.A.in1.handled=none:=by simp[I.ok.hd hc]
  refine wpAny_pyNext_enum_itemD (EZ n a t n2 f.toArray) a1 ⟨l,p⟩ hi n1 (by simp[n1,rb n3]) λv g tk D b1 b2 b3 b4 off=>?_;have ev:v=u:=by have D:f.toArray[i]?=some v:=D;rw[NE,T]at D;exact(nB D).symm
  subst ev;refine⟨_,rfl,wpAny_letOwnedTupleGo_enum b1 λg' c1 N=>?_⟩;have lt:∀c∈[e,a],c≠s.heap.objs.size:=λc y z=>by
   have hs:∃ob,s.heap.get? c=some ob:=by
    simp only[tA,rl,Mj]at y;rcases y with rfl|rfl
    ·exact⟨_,a1⟩
    ·obtain⟨ob,z,_⟩:=l;exact⟨ob,z⟩
   obtain⟨ob,h⟩:=hs;rw[z]at h;exact absurd (np h) (sm _)
  have fresh:H s.heap.objs.size=none:=I.hok.fresh (f_ _);have I1:aO X m R (aI H s.heap.objs.size (.tup [.int i,x])) {s with heap:=s.heap.push {cls:=.type "tuple",data:=.seq #[.int i tk,v]},toks:=tk+1}:=I.laid (λb o z=>c_ _ z) (f_ _) ⟨by rw[nk];simp,[.int i tk,v],.cons ⟨tk,rfl⟩ (.cons ru .nil),⟨_,j_ _ rfl,rfl,_,rfl⟩⟩
  have I2:=kQ (h':=g') (t':=tk+1) (ch:=[e,a]) I1 (λb o j z=>?_) (λb j=>?_)
  ·refine⟨.ref s.heap.objs.size,_,I2,rfl,⟨_,x,fresh,rfl,rfl,λaa h1=>by rw[I.tuple_inj h1 C];exact S⟩,⟨⟨_,by simpa using c1⟩,b2.1.extBut N.extBut (rb n1)⟩,λb j=>?_⟩;rw[au (lt b j)];exact(B b j).1
  ·have q:b≠e/\b≠a:=by simpa using j
   by_cases U:b=s.heap.objs.size
   ·subst U;rw[j_ _ rfl]at z;cases z;exact N.extBut _ _ q.1 b3
   ·have z':s.heap.get? b=some o:=by
     rcases MO z with⟨O,_⟩|O
     ·exact absurd O U
     ·exact O
    exact N.extBut _ _ q.1 (off b o q.1 q.2 z')
  ·obtain⟨f0,f1⟩:=B b j;exact⟨by rw[au (lt b j)];exact f0,f1⟩
 done:=by
  intro X G J L hc i m s R H E I B st hg;subst G J L;obtain⟨Y,C,rfl⟩:=hg;obtain⟨f,M,p,hz⟩:=I.tuple C;have hl:=M.length;obtain⟨⟨d,a1⟩,l⟩:=st;have n:X.A.in1.handled=none:=by simp[I.ok.hd hc]
  have Q:s.heap.IsTupleIter a t f.toArray.size:=by rw[n_,<-hl];exact l
  refine wpAny_pyNext_enum_endD (EZ n a t n2 f.toArray) a1 ⟨Q,p⟩ λg off=>⟨rfl,kQ (t':=s.toks) (ch:=[e,a]) I (λb o j z=>?_) B⟩;have q:b≠e/\b≠a:=by simpa using j
  exact off b o q.2 z
 self:=λ_ _ _ _ _ st h=>by obtain⟨⟨d,a1⟩,_⟩:=st;exact wpAny_pyIter_enum a1 h
section
variable{X:Cx}
def K5(K:N_)(c:TA):TI:=λb H R=>c b H λd a=>∃t e,d=[.ref t]/\aS K a t e/\R (Ite K t) a
def Gn(K:N_)(r:X.K=K){c:Og}{v:Nat}{d:Pos}{a:Expr}{m:TA}{p f:Pos}(hg:Gl X "enumerate")(hm:X.mg "enumerate"=none)(w:PA X [a] m)(x:starEach [a] X.env=[(false,eval a X.env)]:=by rfl):PI X (.Tuple c v d) (.Call (.Name "enumerate" p) [a] [] f) (K5 K m):=by
 subst r;intro i s y H R I h;refine z7 (lj I hg hm L2.uM (F_ (cE (w f i s y H _ I h) λG j⟨J,z,I1,A,B⟩=>?_) (by rw[x];rfl) (by rfl)));obtain⟨t,L,e,C,q⟩:=B;subst e;obtain⟨u,rfl,rt⟩:=j5 A;obtain rfl:u=Value.ref t:=rt;obtain⟨l,M,pl,N⟩:=I1.tuple C;obtain⟨O,D,_⟩:=id pl;have lt:=np D;refine AA (show j.heap.IsTuple t l.toArray from pl) λg n E F=>?_;refine wpAny_pyIter_enum n ⟨_,[j.heap.objs.size+1,j.heap.objs.size],_,_,z,rfl,I1.kept (t':=j.toks) F,BD (t:=t) (qr (wr _)) (ot lt) (ot (I_ lt)),⟨⟨_,n⟩,E⟩,λb o=>?_,q⟩;have k:j.heap.objs.size<=b:=by
  simp only[tA,rl,Mj]at o;rcases o with rfl|rfl
  ·exact Ni _ _
  ·exact f_ _
 exact I1.fpOk k (I1.hok.fresh k)
end
end L2
namespace L2
open PySem PySem.Spec PyProof.Rows PySem.W
section
variable{X:Cx}
end
end L2
namespace L2
open PySem PySem.Spec PyProof.Rows PySem.W
def Iti(P:Oe)(w:World)(d:Addr)(a:List (bQ×V))(c:Nat):It:=⟨λi H=>H d=some (dE P w d a c)/\i<a.length,λi H x b=>∃T k v,H T=none/\x=.ref T/\b=aI H T (.tup [kV k,v])/\a[i]?=some (k,v),λi H=>H d=some (dE P w d a c)/\a.length<=i⟩
def zy{P:Oe}{w:World}{K:N_}{l:Og}{R:Nat}{t:Pos}(d f:Addr)(a:List (bQ×V))(J:Nat):vw P w K (.Tuple l R t) (Iti P w d a J) [f] f (λi h=>∃ok m,IsItemIter h f d i a.length J ok m)where
 mem:=by simp
 obj:=λi h st b g=>by
  have e:b=f:=by simpa using g
  subst e;obtain⟨_,_,e⟩:=st;exact⟨_,e,λv z=>by cases z⟩
 keep:=λi h h'⟨ok,m,e⟩k=>⟨ok,m,k f (by simp) _ e⟩
 item:=by
  intro X x y A hc i j s L H E I p st hg;subst x y A;obtain⟨hd,hi⟩:=hg;obtain⟨⟨_,B,q,C⟩,_⟩:=I.hok d _ hd;have c:a.length=B.length:=Paired.length q;have M:a[i]?=some a[i]:=h_ hi;obtain⟨u,S,ru⟩:=xj q i a[i].1 a[i].2 M;obtain⟨ok,m,st⟩:=st;have lt:f<s.heap.objs.size:=np st;rw[c]at st;refine wpAny_pyNext_items_item st C S λn h' T out U hz Y=>?_;refine⟨_,rfl,wpAny_letOwnedTupleGo_items out λZ N O=>?_⟩;rw[<-c]at N;have fresh:H s.heap.objs.size=none:=I.hok.fresh (f_ _);have I1:aO X j L (aI H s.heap.objs.size (.tup [kV a[i].1,a[i].2])) {s with heap:=s.heap.push {cls:=.type "tuple",data:=.seq #[n,u]}}:=I.laid (t':=s.toks) (λb o z=>c_ _ z) (f_ _) ⟨by rw[nk];simp,[n,u],.cons (xf T) (.cons ru .nil),⟨_,j_ _ rfl,rfl,_,rfl⟩⟩
  have I2:=kQ (h':=Z) (t':=s.toks) (ch:=[f]) I1 (λb o g z=>?_) (λb g=>?_)
  ·refine⟨.ref s.heap.objs.size,_,I2,rfl,⟨_,a[i].1,a[i].2,fresh,rfl,rfl,M⟩,⟨_,_,N⟩,λb g=>?_⟩;have e:b=f:=by simpa using g
   subst e;rw[au (ot lt)];exact(p b g).1
  ·have D:b≠f:=by simpa using g
   by_cases r:b=s.heap.objs.size
   ·subst r;rw[j_ _ rfl]at z;cases z;exact O.extBut _ _ D U
   ·have z':s.heap.get? b=some o:=by
     rcases MO z with⟨F,_⟩|F
     ·exact absurd F r
     ·exact F
    exact O.extBut _ _ D (Y b o D z')
  ·have e:b=f:=by simpa using g
   subst e;obtain⟨G,f1⟩:=p b g;exact⟨by rw[au (ot lt)];exact G,f1⟩
 done:=by intro X x y A hc i j s L H E I p st hg;subst x y A;obtain⟨hd,hi⟩:=hg;obtain⟨⟨_,B,q,C⟩,_⟩:=I.hok d _ hd;have c:a.length=B.length:=Paired.length q;obtain⟨G,f1,f2,f3,f4,f5⟩:=p f (by simp);obtain⟨ok,m,st⟩:=st;rw[c]at st;exact wpAny_pyNext_items_end (I.ok.hd hc) st C (p_ (by omega)) λh' r=>⟨rfl,I.turned (t':=s.toks) (λb o g e=>r b o g e) G f1 f3 f4 f5⟩
 self:=λ_ _ _ _ _ st h=>by obtain⟨_,_,st⟩:=st;exact kcp_self st h
section
variable{X:Cx}{P:Oe}{w:World}{o:Expr}{i:TE}{a c f:Pos}{g:Og}{j:Nat}
def Jp(P:Oe)(w:World)(i:TE):TI:=λk H R=>i k H λx e=>∃d b,x=.ref d/\e d=some (.dK b)/\∀h,R (Iti P w d b h) (aI e d (dE P w d b h))
def yp(C:PE X o i)(D:X.prog=P:=by rfl)(E:X.w=w:=by rfl)(l:attributeBase o "items" X.env (eval o X.env)=eval o X.env:=by rfl)(m:(a.endLine==c.line)=true:=by rfl):PI X (.Tuple g j f) (.Call (.Attribute o "items" a) [] [] c) (Jp P w i):=by
 subst D E;intro n s G H R I h;refine wpAny_Call_method0_late l m (cE (C n s G H _ I h) λv k J=>?_);obtain⟨x,U,I1,K,d,p,e,hd,q⟩:=J;subst e;obtain rfl:v=Value.ref d:=K;obtain⟨A,B,L,r,M,N⟩:=I1.walk hd;have t:p.length=B.length:=Paired.length L;obtain⟨ob,V,u,O,_⟩:=id r;refine⟨"dict","dict.items",PySem.F.plainAttrs_dict,PySem.F.slot_dict_items,PySem.F.type_dict_items,r.dictOf.typeIs,?_,u_ rfl (PySem.evalArgs_none (Mb PySem.F.slot_dict_items r.dictOf.typeIs PySem.F.entry_dict_items (PySem.F.args_dict_items_1 _) (meets_dict_items (aX X.prog X.w) d M) ⟨⟨B,r.dictOf⟩,?_⟩))⟩
 ·intro b z;cases z;exact⟨ob,u,O.2.1⟩
 ·have Q:(k.heap.push {cls:=.type "dict_items",data:=.fields #[.ref d]}).IsItemsView k.heap.objs.size d:=⟨_,j_ _ rfl,rfl,rfl⟩;show wpAny _ _ (pyIter (.ref k.heap.objs.size)) _ _ _;have y:=N.kept (h':=k.heap.push {cls:=.type "dict_items",data:=.fields #[.ref d]}) (t':=k.toks) λb o e=>c_ _ e;refine wpAny_pyIter_items (s:={k with heap:=k.heap.push {cls:=.type "dict_items",data:=.fields #[.ref d]}}) Q (r.push _) ?_;refine⟨_,[(k.heap.push {cls:=.type "dict_items",data:=.fields #[.ref d]}).objs.size],_,_,_,rfl,y.kept (t':=k.toks) λb o e=>c_ _ e,zy d _ p A,⟨_,_,by rw[t];exact j_ _ rfl⟩,λb T=>?_,q A⟩;have e:b=(k.heap.push {cls:=.type "dict_items",data:=.fields #[.ref d]}).objs.size:=by simpa using T
  subst e;exact y.fpOk (f_ _) (y.hok.fresh (f_ _))
end
end L2
namespace L2
open PySem PySem.Spec PyProof.Rows PySem.W
def qi(n:Nat){c:Type}(R:c->Prop):KasT c->Prop|.ret a=>R a|.ask i j k=>i<n/\j<n/\∀b,qi n R (k b)
theorem qi.bind{n:Nat}{c d:Type}{R:c->Prop}{S:d->Prop}{f:c->KasT d}(e:∀a,R a->qi n S (f a)):∀{t:KasT c},qi n R t->qi n S (t.bind f)|.ret a,h=>e a h|.ask i j k,h=>⟨h.1,h.2.1,λb=>qi.bind e (h.2.2 b)⟩
theorem qi.wp{n:Nat}{d:Type}{R:d->Prop}{c:Nat->Nat->(Bool->Shared->Prop)->Shared->Prop}{Q:d->Shared->Prop}{s:Shared}(hc:∀i j C,i<n->j<n->(∀b,C b s)->c i j C s)(e:∀a,R a->Q a s):∀{t:KasT d},qi n R t->t.kasWp c Q s|.ret a,h=>e a h|.ask i j k,h=>hc i j _ h.1 h.2.1 λb=>qi.wp hc e (h.2.2 b)
def PR(n:Nat)(p:Array Nat):Prop:=p.toList.Perm (List.range n)
def PR.lt(h:PR n p)(hn:0<n)(k:Nat):p.getD k 0<n:=by
 by_cases a:k<p.size
 ·have e:p.getD k 0=p[k]:=by simp[Array.getD,a]
  rw[e];exact yl.mp (h.mem_iff.mp (Array.mem_toList_iff.mpr (Array.getElem_mem a)))
 ·have e:p.getD k 0=0:=by simp[Array.getD,a]
  rw[e];exact hn
def PR.rev(h:PR n p)(i j:Nat):PR n (kas_rev p i j):=(mirror_perm p i j _).toList.trans h
section
variable{n:Nat}(hn:0<n)
include hn
theorem xk(h:PR n p):∀f m,qi n (λ_=>True) (kas_asc p f m)|0,_=>trivial|f+1,m=>⟨h.lt hn _,h.lt hn _,λb=>by cases b with|true=>exact trivial|false=>exact xk h f (m+1)⟩
theorem pU:∀(f:Nat){p:Array Nat}(m q:Nat),PR n p->qi n (λr:Array Nat×Nat×Nat=>PR n r.1) (kas_desc f p m q)|0,_,_,_,h=>h|f+1,p,m,q,h=>⟨h.lt hn _,h.lt hn _,λb=>by
 cases b with|true=>
   show qi n _ (if q>0 then _ else _)
   split
   ·exact pU f _ _ (h.rev _ _)
   ·exact pU f _ _ h|false=>refine⟨h.lt hn _,h.lt hn _,λd=>?_⟩;cases d with|true=>exact h|false=>exact pU f _ _ h⟩
def yT{p:Array Nat}(m r:Nat)(h:PR n p):qi n (λr:Nat×Array Nat=>PR n r.2) (kas_tail3 m r p):=qi.bind (S:=λr:Nat×Array Nat=>PR n r.2) (f:=λa=>.ret (a,kas_rev p 0 m)) (λ_ _=>h.rev _ _) (xk hn (h.rev _ _) _ _)
def yU{p:Array Nat}(m r:Nat)(h:PR n p):qi n (λr:Nat×Array Nat=>PR n r.2) (kas_descPart m r p):=qi.bind (λa b=>by
 show qi n _ (if a.2.2>0 then _ else _)
 split
 ·exact yT hn _ _ (b.rev _ _)
 ·exact yT hn _ _ b) (pU hn _ _ _ h)
def Cj{p:Array Nat}(r:Nat)(h:PR n p):qi n (λr:Nat×Array Nat=>PR n r.2) (kas_count r p):=qi.bind (λm _=>by
 show qi n _ (if(m==r)=true then _ else _)
 split
 ·exact h
 ·split
  ·refine⟨h.lt hn _,h.lt hn _,λc=>?_⟩;cases c with|true=>exact h|false=>exact yU hn _ _ (h.rev _ _)
  ·exact yU hn _ _ h) (xk hn h _ _)
theorem qF{p:Array Nat}(h:PR n p)(k:Nat):∀f l r,qi n (λ_=>True) (kas_place p k f l r)
 |0,_,_=>trivial|f+1,l,r=>by
  show qi n _ (if l>=r then _ else _)
  split
  ·exact trivial
  ·refine⟨h.lt hn _,h.lt hn _,λc=>?_⟩;cases c with|true=>exact qF h k f _ _|false=>exact qF h k f _ _
theorem Bj:∀(f:Nat){p:Array Nat}(k:Nat),PR n p->qi n (PR n) (kas_bin f p k)|0,_,_,h=>h|f+1,p,k,h=>qi.bind (λl _=>Bj f _ ((bubble_perm p k _).toList.trans h)) (qF hn h _ _ _ _)
def EC:qi n (PR n) (kas_sort n):=qi.bind (λr a=>by
 show qi n _ (if r.1<n then _ else _)
 split
 ·exact Bj hn _ _ a
 ·exact a) (Cj hn _ (show(List.toArray (List.range n)).toList.Perm _ by exact .refl _))
end
section
variable{prog:Oe}{w:World}{A:Around}{E:Oa}{s:Shared}{κ:SortKind}
def Dz{a:Addr}{c:Od}{n:Nat}{P:Fin->Shared->Prop}(v:s.heap.get? a=some (seqObj "list" c.toArray n))(L:c.length<64)(M:2<=c.length->∀g:Shared,(∀b o,b≠a->s.heap.get? b=some o->g.heap.get? b=some o)->(∀Q:SortKind->Shared->Prop,Q κ g->wpAny (model prog w) A (keyKind' c.toArray) Q (λ_ _=>False) g)/\∀x y C,x∈c->y∈c->(∀b,C b g)->wpAny (model prog w) A (keyLt' κ x y) C (λ_ _=>False) g)(h:∀out:List Value,out.Perm c->P (.done (.ret .none)) {s with heap:=sortedHeap s.heap a c out.toArray}):wpAny (model prog w) A (Builtin.«list.sort» ⟨[.ref a],[]⟩) P E s:=by
 rw[list_sort_plain];have B:c.toArray.size=c.length:=by simp
 refine a_ (listItems_at v rfl ?_);refine a_ (listUpdate_at v rfl ?_ (by rw[B,nk];lia) (o_ _));obtain⟨D,k⟩:∃D,(s.heap.update a (Obj.mapSeq λ_=>#[])).get? a=some (seqObj "list" #[] D):=⟨_,get?_update_seq v (λ_=>#[])⟩;refine a_ (seqEpoch_at k rfl ?_);refine a_ (wpAny_newTuple ?_ (by show c.length<=_;rw[nk];lia));refine a_ (wpAny_newList ?_ (o_ _));refine ri ?_;have kept:∀b o,b≠a->s.heap.get? b=some o->(((s.heap.update a (Obj.mapSeq λ_=>#[])).push (seqObj "tuple" c.toArray 0)).push (seqObj "list" #[] 0)).get? b=some o:=λb o N q=>c_ _ (c_ _ ((Heap.get?_update_ne _ _ _ _ N).trans q))
 have d:(((s.heap.update a (Obj.mapSeq λ_=>#[])).push (seqObj "tuple" c.toArray 0)).push (seqObj "list" #[] 0)).get? a=some (seqObj "list" #[] D):=c_ _ (c_ _ k);show wpAny (model prog w) A _ P E {s with heap:=((s.heap.update a (Obj.mapSeq λ_=>#[])).push (seqObj "tuple" c.toArray 0)).push (seqObj "list" #[] 0)};dsimp only;have F:(c.toArray.zip c.toArray).size=c.length:=by simp
 by_cases h2:c.toArray.size<2
 ·rw[mo h2,mo h2];refine a_ (e_ ?_);rw[StateT.run_pure];refine a_ (e_ ?_);dsimp only;refine a_ (seqEpoch_at d rfl ?_);refine a_ (listUpdate_at d rfl ?_ (o_ _) (by refine n7 (Mt ((Array.size_map ..).trans F)) ?_;rw[nk];lia));simp only[bne_self_eq_false,MD,Ng];have e:(c.toArray.zip c.toArray).map (·.2)=c.toArray:=by
   apply Array.toList_inj.mp;have e:(c.toArray.zip c.toArray).toList=c.zip c:=by simp
   rw[Array.toList_map,e];exact List.map_snd_zip (f_ _)
  have:=h c (.refl _);rw[<-e]at this;exact e_ this
 ·rw[l_ h2,l_ h2];have l:2<=c.length:=by lia
  obtain⟨O,R⟩:=M l {s with heap:=((s.heap.update a (Obj.mapSeq λ_=>#[])).push (seqObj "tuple" c.toArray 0)).push (seqObj "list" #[] 0)} kept;refine a_ (wpAny_mono (O (λm K=>m=κ/\K={s with heap:=((s.heap.update a (Obj.mapSeq λ_=>#[])).push (seqObj "tuple" c.toArray 0)).push (seqObj "list" #[] 0)}) ⟨rfl,rfl⟩) (λm K z=>?_) λ_ _ x=>x.elim);obtain⟨rfl,rfl⟩:=z;refine a_ (wpAny_mono (kat_run (ks:=c) (vs:=c) (Q:=λf r=>∃p:Array Nat,arrOf f=p.map (kas_item (c.toArray.zip c.toArray))/\failedOf f=none/\PR c.length p/\r=_) (G:=λp r=>PR c.length p/\r=_) rfl l L (λp f r a1 T U a4=>⟨p,T,U,a4⟩) (qi.wp (λi j C hi V W=>?_) (λp u=>⟨u,rfl⟩) (EC (by lia)))) ?_ λ_ _ e=>e)
  ·unfold kas_ask;have mem:∀i,i<c.length->c.getD i Value.none∈c:=λi hi=>by rw[to,h_ hi];exact t_ hi
   exact R _ _ C (mem i hi) (mem j V) W
  ·rintro⟨⟨⟩,f⟩r⟨p,H,X,u,rfl⟩;dsimp only;have t:=kat_snds (ks:=c) (vs:=c) rfl H;have I:p.toList.length=c.length:=by rw[u.length_eq,r4]
   have J:(p.toList.map λi=>c.getD i Value.none).Perm c:=by
    refine(u.map λi=>c.getD i Value.none).trans (N8 ?_);refine C_ λi=>?_;rw[i_]
    by_cases hi:i<c.length
    ·rw[List.getElem?_range hi];simp[hi]
    ·rw[p_ (by rw[r4];lia),p_ (by lia)];rfl
   rw[t];refine a_ (seqEpoch_at d rfl ?_);refine a_ (listUpdate_at d rfl ?_ (o_ _) (by rw[n_,b_,I,nk];lia));rw[X];simp only[bne_self_eq_false,MD,Ng];exact e_ (h _ J)
end
def zp(h:Heap)(v:Value):Prop:=∃a o n x y z t u b,v=.ref a/\h.get? a=some o/\o.cls=.type "tuple"/\o.data=.seq #[.str x t,.str y u,.str z b] n
def zp.kept(p:zp h v)(k:∀b o,h.get? b=some o->h'.get? b=some o):zp h' v:=by obtain⟨a,o,n,x,y,z,t,u,c,e,d,r⟩:=p;exact⟨a,o,n,x,y,z,t,u,c,e,k _ _ d,r⟩
section
variable{prog:Oe}{w:World}{A:Around}{E:Oa}{s:Shared}
def FD(g:zp s.heap v)(h:zp s.heap u)(d:∀b,C b s):wpAny (model prog w) A (keyLt' (tuples' true) v u) C (λ_ _=>False) s:=by obtain⟨a,o,n,x,y,z,p,q,r,rfl,i,hc,hd⟩:=g;obtain⟨B,D,F,G,H,I,j,k,l,rfl,e,m,f⟩:=h;have c:∀{x y:Str}{t u:Tok},wpAny (model prog w) A (oneLt' false (.str x t) (.str y u)) C (λ_ _=>False) s:=λ{x y t u}=>kat_one _ _ (lt_str (d _));refine kat_lt i hd e f (kat_cons (Nf (kat_go (λ_=>kat_yes (kat_cons (Nf (kat_go (λ_=>kat_yes (kat_cons (Nf (kat_go (λ_=>kat_yes (kat_nil (d _))) (λ_=>kat_no c))))) (λ_=>kat_no c))))) (λ_=>kat_no (oneLt_str (d _))))))
theorem qZ:∀{c:Od},(∀v∈c,zp h v)->∃fs:List Value,KatTups h c fs/\fs.length=c.length/\∀v∈fs,∃x t,v=Value.str x t
 |[],_=>⟨[],.nil,rfl,λv b=>nomatch b⟩|u::r,d=>by
  obtain⟨a,o,n,x,y,z,e,g,i,rfl,f,hc,hd⟩:=d u (m_ ..);obtain⟨fs,h1,h2,h3⟩:=qZ λv b=>d v (lm _ b);refine⟨.str x e::fs,.cons f hc hd rfl h1,by simp[h2],λv b=>?_⟩;rcases tA.mp b with rfl|b
  ·exact⟨_,_,rfl⟩
  ·exact h3 v b
def zC(g:s.heap.IsList l vs.toArray)(i:vs.length<64)(j:∀v∈vs,zp s.heap v)(h:∀out:List Value,out.Perm vs->Q (.ref (s.heap.objs.size+1)) {s with heap:=sortedAll s.heap vs out.toArray}):wpAny (model prog w) A (call (.builtin "sorted") [.ref l]) Q E s:=by
 refine Calls.call_function_entry kind_sorted plain_sorted entry_sorted (args_sorted1 _) ?_;unfold Builtin.«sorted»;refine a_ (m:=checkCount "sorted" 1 1 _) (e_ ?_);refine a_ (collect_list g ?_ (by rw[nk];lia));refine a_ (wpAny_newList ?_ (by rw[nk];lia));have c:((s.heap.push (seqObj "list" #[] 0)).update s.heap.objs.size (Obj.mapSeq (·++vs.toArray))).objs.size=s.heap.objs.size+1:=by rw[Heap.size_update,size_push']
 have e:(((s.heap.push (seqObj "list" #[] 0)).update s.heap.objs.size (Obj.mapSeq (·++vs.toArray))).push (seqObj "list" vs.toArray 0)).get? (s.heap.objs.size+1)=some (seqObj "list" vs.toArray 0):=by rw[<-c];exact j_ _ rfl
 have keep:∀b o,s.heap.get? b=some o->b≠s.heap.objs.size+1/\(((s.heap.push (seqObj "list" #[] 0)).update s.heap.objs.size (Obj.mapSeq (·++vs.toArray))).push (seqObj "list" vs.toArray 0)).get? b=some o:=λb o q=>by have a:b<s.heap.objs.size:=np q;refine⟨ot (I_ a),?_⟩;rw[Heap.get?_push_ne _ _ _ (by rw[c];exact ot (I_ a)),Heap.get?_update_ne _ _ _ _ (ot a),Heap.get?_push_ne _ _ _ (ot a)];exact q
 show wpAny _ _ _ _ _ {s with heap:=((s.heap.push (seqObj "list" #[] 0)).update s.heap.objs.size (Obj.mapSeq (·++vs.toArray))).push (seqObj "list" vs.toArray 0)};rw[c];refine a_ (ri (rk slot_list_sort (s:={s with heap:=((s.heap.push (seqObj "list" #[] 0)).update s.heap.objs.size (Obj.mapSeq (·++vs.toArray))).push (seqObj "list" vs.toArray 0)}) ⟨_,e,rfl⟩ entry_list_sort (Dz (κ:=tuples' true) e i (λh2 k n=>?_) λout a1=>⟨_,rfl,?_⟩) (args_list_sort _)))
 ·have d:∀v∈vs,zp k.heap v:=λv f=>(j v f).kept λb o q=>n b o (keep b o q).1 (keep b o q).2;refine⟨λF p=>?_,λx y C r u z=>FD (d x r) (d y u) z⟩;obtain⟨fs,h1,B,h3⟩:=qZ d;refine kat_kind (T:=Value.type "str") h1 (by lia) (λv f=>?_) (by decide+kernel) ?_
  ·obtain⟨x,t,rfl⟩:=h3 v f;exact Looks.of_pure rfl
  ·rw[show(Value.type "str"!=Value.type "tuple")=true by decide+kernel];exact p
 ·exact e_ ⟨_,rfl,h out a1⟩
end
theorem A6:∀{c:Oj}{a:Od},bf (c.map V.ref) a->a=c.map Value.ref|[],_,.nil=>rfl|u::r,_,.cons h t=>by obtain rfl:_=Value.ref u:=h;rw[A6 t];rfl
theorem w6:∀{a:Oj},bf (a.map V.ref) (a.map Value.ref)|[]=>.nil|_::_=>.cons rfl w6
def BY(h:out.Perm (c.map Value.ref)):∃d:List Addr,d.Perm c/\out=d.map Value.ref:=by
 let f:Value->Addr:=λv=>match v with|.ref a=>a|_=>0
 have e:(c.map Value.ref).map f=c:=by rw[A_];exact(Mv (g:=id) λa _=>rfl).trans (List.map_id c)
 have i:(out.map f).map Value.ref=out:=by rw[A_];refine(Mv (g:=id) λv j=>?_).trans (List.map_id out);obtain⟨a,_,rfl⟩:=oi.mp (h.mem_iff.mp j);rfl
 have b:=h.map f;rw[e]at b;exact⟨_,b,i.symm⟩
def Aw(K:N_)(A:X.K=K):dw X (.builtin "sorted") (λl H Q=>∃(p:Addr)(c:Oj),l=[.ref p]/\aY K H p (c.map V.ref)/\c.length<64/\(∀u∈c,∃x y z,aS K H u [.str x,.str y,.str z])/\∀(q:Addr)(d:Oj),H q=none->d.Perm c->Q (.ref q) (aI H q (.lst (d.map V.ref)))):=by
 subst A;intro m s P H l R Q I r h;obtain⟨p,c,rfl,B,hn,C,q⟩:=h;obtain⟨u,rfl,D⟩:=j5 r;obtain rfl:u=Value.ref p:=D;obtain⟨e,f,⟨o,n,g,i,w,E⟩,_⟩:=I.list B;obtain rfl:=A6 f;refine zC (vs:=c.map Value.ref) ⟨o,g,i,n,E⟩ (by rw[b_];lia) (λv F=>?_) λout j=>?_
 ·obtain⟨a,hm,rfl⟩:=oi.mp F;obtain⟨x,y,z,G⟩:=C a hm;obtain⟨e,f,⟨o,g,i,n,w⟩,_⟩:=I.tuple G;cases f with|cons h1 t=>cases t with|cons h2 t=>cases t with|cons h3 t=>cases t;obtain⟨J,rfl⟩:=h1;obtain⟨L,rfl⟩:=h2;obtain⟨M,rfl⟩:=h3;exact⟨a,o,n,x,y,z,J,L,M,rfl,g,i,w⟩
 ·obtain⟨d,b,rfl⟩:=BY j;obtain⟨N,k⟩:=sortedAll_at s.heap (c.map Value.ref) (d.map Value.ref).toArray;have O:=b.length_eq;refine⟨.ref (s.heap.objs.size+1),_,I.laid (h':=sortedAll s.heap (c.map Value.ref) (d.map Value.ref).toArray) (t':=s.toks) (o:=.lst (d.map V.ref)) (λ_ _=>sortedAll_old) (so _) ⟨?_,_,N,w6,k⟩,rfl,q _ d (I.hok.fresh (so _)) b⟩;rw[b_,nk];lia
end L2
namespace L2
open PySem PySem.Spec PyProof.Rows PySem.W
def xu{J:It}{n:Nat}{g:TG}{ds:Oi}{k:Nat}{tc:TT}{te:TE}{r:St}{s:Hp}{D:Addr}{F:Hp->Prop}(Pv:Nat->List V->Hp->Prop)(h0:Pv 0 [] (aI s D (.lst [])))(hg:∀i a c,i<n->Pv i a c->J.go i c)(t:∀i a c x h,i<n->Pv i a c->J.yld i c x h->g x (iG ds k r) h λd q=>tc d q λb j=>if b=true then te d j λy l=>l D=some (.lst a)/\a.length<sizeLine/\∃f,f<n-i/\f=n-(i+1)/\i+1<=n/\Pv (i+1) (a++[y]) (aI l D (.lst (a++[y])))else∃f,f<n-i/\f=n-(i+1)/\i+1<=n/\Pv (i+1) a j)(hd:∀a c,Pv n a c->J.stop n c/\F c):∃W:Nat->Nat->List V->Hp->Prop,(∃m,W 0 m [] (aI s D (.lst [])))/\∀i m a c,W i m a c->(J.stop i c/\F c)\/(J.go i c/\∀x h,J.yld i c x h->g x (iG ds k r) h λd q=>tc d q λb j=>if b=true then te d j λy l=>l D=some (.lst a)/\a.length<sizeLine/\∃f,f<m/\W (i+1) f (a++[y]) (aI l D (.lst (a++[y])))else∃f,f<m/\W (i+1) f a j):=by
 refine⟨λi m a c=>m=n-i/\i<=n/\Pv i a c,⟨_,rfl,o_ _,h0⟩,?_⟩;rintro i m a c⟨rfl,hi,p⟩
 by_cases o:i<n
 ·exact .inr ⟨hg i a c o p,λx h y=>t i a c x h o p y⟩
 ·have e:i=n:=by lia
  subst e;exact .inl (hd a c p)
def EV{J:It}{n:Nat}{g:TG}{j:TS}{D:j3}{a:St}{H:Hp}(Pv:Nat->St->Hp->Prop)(h0:Pv 0 a H)(hg:∀i a H,i<n->Pv i a H->J.go i H)(o:∀i a H x c,i<n->Pv i a H->J.yld i H x c->g x a c λd h=>j {D with nx:=Pv (i+1),ct:=Pv (i+1),bk:=D.nx} d h)(hd:∀a H,Pv n a H->J.stop n H/\D.nx a H):∃W:Nat->Nat->St->Hp->Prop,(∃m,W 0 m a H)/\∀i m a H,W i m a H->(J.stop i H/\D.nx a H)\/(J.go i H/\∃N:St->Hp->Prop,(∀f c,N f c->∃l,l<m/\W (i+1) l f c)/\∀x c,J.yld i H x c->g x a c λd h=>j {D with nx:=N,ct:=N,bk:=D.nx} d h):=by
 refine⟨λi m a H=>m=n-i/\i<=n/\Pv i a H,⟨n,by simp,o_ _,h0⟩,?_⟩;rintro i m a H⟨rfl,hi,p⟩
 by_cases b:i<n
 ·exact .inr ⟨hg i a H b p,Pv (i+1),λf c k=>⟨n-(i+1),by omega,rfl,b,k⟩,λx c y=>o i a H x c b p y⟩
 ·have e:i=n:=by lia
  subst e;exact .inl (hd a H p)
end L2
namespace L2
open PySem
def rF{K:N_}{f:Str}{a C dx:Addr}{fs:List (Str×V)}{v:V}{H:Hp}{R:V->Prop}(h:H a=some (.ins C dx fs))(hc:xS K C)(hn:cg K C f)(j:fs.lookup f=some v)(k:R v):∃g d e c i,V.ref a=.ref g/\H g=some (.ins d e c)/\xS K d/\cg K d f/\c.lookup f=some i/\R i:=⟨a,C,dx,fs,v,rfl,h,hc,hn,j,k⟩
def rM{a C dx:Addr}{m:Str}{fs:List (Str×V)}{H:Hp}{R:Prop}(h:H a=some (.ins C dx fs))(hn:fs.lookup m=none)(k:R):∃e d c,V.ref a=.ref e/\H e=some (.ins C d c)/\c.lookup m=none/\R:=⟨a,dx,fs,rfl,h,hn,k⟩
def rG{d:Type}{a:Addr}{A R:Addr->d->Prop}(v:d)(h:A a v)(k:R a v):∃c e,V.ref a=.ref c/\A c e/\R c e:=⟨a,v,rfl,h,k⟩
def rX{A:Addr->List V->Prop}{p:Addr}{c:List V}{i:Int}{v:V}{R:V->Prop}(h:A p c)(g:vq c i=some v)(k:R v):∃d a e f,V.ref p=.ref d/\V.int i=.int e/\A d a/\vq a e=some f/\R f:=⟨p,c,i,v,rfl,rfl,h,g,k⟩
def rA{l:Addr}{c:List V}{y:V}{H:Hp}{R:Addr->List V->V->Prop}(h:H l=some (.lst c))(f:c.length<sizeLine)(k:R l c y):∃d a e,V.ref l=.ref d/\[y]=[e]/\H d=some (.lst a)/\a.length<sizeLine/\R d a e:=⟨l,c,y,rfl,rfl,h,f,k⟩
def r2{i j:Int}{R:Int->Int->Prop}(k:R i j):∃a c,V.int i=.int a/\V.int j=.int c/\R a c:=⟨i,j,rfl,rfl,k⟩
def U{a:Type}{A R:a->Prop}{v:a}(h:A v)(k:R v):∃v,A v/\R v:=⟨v,h,k⟩
def iz{K:N_}{f:Str}{a C dx:Addr}{fs:List (Str×V)}{o:Option (Option V)}{v:V}{H:Hp}{R:V->Prop}(h:H a=some (.ins C dx fs))(hc:xS K C)(hn:cg K C f)(h0:o=some (some (.ref a)))(j:fs.lookup f=some v)(k:R v):∃w,o=some (some w)/\∃g d e c i,w=.ref g/\H g=some (.ins d e c)/\xS K d/\cg K d f/\c.lookup f=some i/\R i:=⟨_,h0,a,C,dx,fs,v,rfl,h,hc,hn,j,k⟩
def nQ{a C dx:Addr}{m:Str}{fs:List (Str×V)}{o:Option (Option V)}{H:Hp}{R:V->Prop}(h:H a=some (.ins C dx fs))(h0:o=some (some (.ref a)))(hn:fs.lookup m=none)(k:R (.ref a)):∃w,o=some (some w)/\∃e d c,w=.ref e/\H e=some (.ins C d c)/\c.lookup m=none/\R w:=⟨_,h0,a,dx,fs,rfl,h,hn,k⟩
end L2
namespace L2
open PySem PySem.Spec PyProof.Rows PySem.W
section
variable{X:Cx}
theorem IsPs.mem(I:aO X f l H s):∀{g:List V}{ds:List PyData}{e:Od},IsPs X.K H g ds->bf g e->(∀u∈e,∃d∈ds,∃c,Reads s.heap u d c)/\∀d∈ds,∃u∈e,∃c,Reads s.heap u d c
 |_,_,_,.nil,r=>by cases r;exact⟨λu a=>(nomatch a),λu a=>(nomatch a)⟩|_,_,_,.cons h b,.cons i r2=>by
  obtain⟨c,q⟩:=AI.reads I h i;obtain⟨j,k⟩:=IsPs.mem I b r2;refine⟨λu a=>?_,λd hd=>?_⟩
  ·rcases tA.mp a with rfl|a
   ·exact⟨_,m_,c,q⟩
   ·obtain⟨d,hd,x⟩:=j u a;exact⟨d,lm _ hd,x⟩
  ·rcases tA.mp hd with rfl|hd
   ·exact⟨_,m_,c,q⟩
   ·obtain⟨u,a,x⟩:=k d hd;exact⟨u,lm _ a,x⟩
abbrev qf(e:Of):PyData:=.tuple (e.map PyData.str)
theorem zv:∀{e:Of}{c:Od}{d:Oj},ReadsAll h c (e.map PyData.str) d->∀j(a:j<c.length),∃x t,e[j]?=some x/\c[j]=.str x t
 |[],_,_,.nil,j,a=>absurd a (Nv _)|x::r,_,_,.cons h1 h2,0,a=>by cases h1 with|str _ t=>exact⟨x,t,rfl,rfl⟩
 |x::r,_,_,.cons h1 h2,j+1,a=>by obtain⟨y,t,b,f⟩:=zv (e:=r) h2 j (by simpa using a);exact⟨y,t,by simpa using b,by simpa using f⟩
theorem AN:∀{e d:Of}{a:Od}{c bs:Oj},ReadsAll h a (e.map PyData.str) c->ReadsAll h a (d.map PyData.str) bs->e=d|[],[],_,_,_,_,_=>rfl|[],_::_,_,_,_,.nil,k=>nomatch k|_::_,[],_,_,_,.cons _ _,k=>nomatch k|x::r,y::q,_,_,_,.cons h1 h2,.cons b f=>by cases h1 with|str _ t=>cases b with|str _ _=>rw[AN h2 f]
theorem sW:∀e:List Str,PyData.eqvAll (e.map PyData.str) (e.map PyData.str)=true|[]=>rfl|x::r=>by rw[pu,PyData.eqvAll,sW r];simp[PyData.eqv]
def HR(r:Reads s.heap a (qf e) I)(u:Reads s.heap b (qf d) bs)(v:A.units<cLine):SeqAt.EqAt A s a b (PyData.eqv (qf e) (qf d)):=by cases r with|@tuple l o w n _ _ h1 h2 h3 h4=>cases u with|@tuple i J c n2 _ _ f z g h=>
   show SeqAt.EqAt A s (.ref l) (.ref i) (PyData.eqvAll (e.map PyData.str) (d.map PyData.str))
   by_cases q:l=i
   ·subst q;rw[h1]at f;obtain rfl:=nB f;rw[h3]at g;cases g;rw[AN h4 h,sW];exact .same _
   ·have B:w.size=(e.map PyData.str).length:=by simpa using SeqAt.ReadsAll.length _ _ _ h4
    have C:c.size=(d.map PyData.str).length:=by simpa using SeqAt.ReadsAll.length _ _ _ h
    rw[<-SeqAt.eqvAll_eq,<-B,<-C];refine .of_refs q (SeqAt.RcAt.tuples ⟨_,h1,h2,_,h3⟩ ⟨_,f,z,_,g⟩ v λj D E=>?_);obtain⟨x,t,F,k⟩:=zv h4 j (by simpa using D);obtain⟨y,G,H,m⟩:=zv h j (by simpa using E);have p:SeqAt.pairEq (e.map PyData.str) (d.map PyData.str) j=(x==y):=by unfold SeqAt.pairEq;rw[to,to,i_,i_,F,H];rfl
    rw[Array.getElem_toList]at k m;rw[p,k,m];exact .str_str x t y G
def K6{A:Around}{k:Nat}(a:eZ k A):A.units+65<cLine:=by have:=a.un;lia
end
end L2
namespace L2
open PySem PySem.Spec PyProof.Rows PySem.W
set_option genInjectivity false in
set_option genSizeOf false in
structure AF where
 x:Addr
 d:FuncData
structure Df(K:N_)(mg:Oc)(n:Str)(st:Stmt)(a:AF)(ps:Of):Prop where
 f:xR K n n st a.x a.d
 m:mg n=some (.ref a.x)b:fU K a.d ps []
structure Mf(K:N_)(C:Addr)(n q:Str)(st:Stmt)(a:AF)(ps:Of):Prop where
 f:xR K n q st a.x a.d
 m:Fw K C n a.x
 b:fU K a.d ps []
section
variable{K:N_}{h:Heap}{mg:Oc}{n q:Str}{st:Stmt}{x C:Addr}{fd:FuncData}
def HF{c:Of}(X:K.In h)(G:h.Ns mainGlobals mg)(a:PySem.W.nsIn K mainGlobals n=some (some (.ref x)))(F:xR K n n st x fd)(b:xR K n n st x fd->fU K fd c []):Df K mg n st ⟨x,fd⟩ c:=⟨F,PySem.W.mg_of X G a,b F⟩
def KP{c:Of}(a:PySem.W.findIn K (.ref C) n=some (some (.ref x)))(i:PySem.W.isFn K (.ref x)=true)(F:xR K n q st x fd)(b:xR K n q st x fd->fU K fd c []):Mf K C n q st ⟨x,fd⟩ c:=⟨F,⟨a,i,F.kp⟩,b F⟩
def K8(X:K.In h)(G:h.Ns mainGlobals mg)(a:PySem.W.nsIn K mainGlobals n=some (some (.ref x))):mg n=some (.ref x):=PySem.W.mg_of X G a
def J9(X:K.In h)(G:h.Ns mainGlobals mg)(a:PySem.W.nsIn K mainGlobals n=some none):mg n=none:=PySem.W.mg_none_of X G a
def KY{i:Int}{t:Tok}(X:K.In h)(G:h.Ns mainGlobals mg)(a:PySem.W.nsIn K mainGlobals n=some (some (.int i t))):∃u,mg n=some u/\bd (.int i) u:=⟨_,PySem.W.mg_of X G a,_,rfl⟩
def Kw{i:Str}{t:Tok}(X:K.In h)(G:h.Ns mainGlobals mg)(a:PySem.W.nsIn K mainGlobals n=some (some (.str i t))):∃u,mg n=some u/\bd (.str i) u:=⟨_,PySem.W.mg_of X G a,_,rfl⟩
def HB(a:PySem.W.excIn K x [.type "ValueError",.type "Exception",.type "BaseException",.type "object"] "ValueError.__new__"=true):vA K x:=a
def Bc(a:PySem.W.findIn K (.ref C) n=some none):cg K C n:=a
def KW{dd:Option Addr}{a:Oh}{d:Nat}{sl:Array (Option Value)}{c:List V}(w:K.lookup x=some ⟨.type "tuple",dd,.seq a d,sl⟩)(y:bf c a.toList)(l:Nat.ble c.length 65536=true):L2.Lu K x c:=⟨_,a,d,w,rfl,rfl,by rw[<-o0,<-y.length];exact cH (ND l),y⟩
abbrev J2(st:Stmt)(n q:Str)(kV a pm:Value)(d:Option Addr)(c ct:Value)(e:Od):=bindArgs (PySem.W.fnOf n q (pX st) (gA st) (ao st) .none kV a pm d c ct) ⟨e,[]⟩
variable{c d e f g j:Str}
def vj{n:Nat}{i:Od}(h:i.length=n+1):∃u a,i=u::a/\a.length=n:=by cases i with|nil=>cases h|cons u a=>exact⟨u,a,rfl,Nat.succ.inj h⟩
def b1(F:xR K n q st x fd)(h:∀kV a pm l i ct u,J2 st n q kV a pm l i ct [u]=pure [(c,u)]:=by intros;rfl):fU K fd [c] []:=F.binds λkV a pm l i ct b k=>by obtain⟨u,b,rfl,h1⟩:=vj k;cases List.length_eq_zero_iff.mp h1;exact h kV a pm l i ct u
def b2(F:xR K n q st x fd)(h:∀kV a pm l i ct u v,J2 st n q kV a pm l i ct [u,v]=pure [(c,u),(d,v)]:=by intros;rfl):fU K fd [c,d] []:=F.binds λkV a pm l i ct b k=>by obtain⟨u,b,rfl,h1⟩:=vj k;obtain⟨v,b,rfl,h2⟩:=vj h1;cases List.length_eq_zero_iff.mp h2;exact h kV a pm l i ct u v
def b3(F:xR K n q st x fd)(h:∀kV a pm l i ct u v w,J2 st n q kV a pm l i ct [u,v,w]=pure [(c,u),(d,v),(e,w)]:=by intros;rfl):fU K fd [c,d,e] []:=F.binds λkV a pm l i ct b k=>by obtain⟨u,b,rfl,h1⟩:=vj k;obtain⟨v,b,rfl,h2⟩:=vj h1;obtain⟨w,b,rfl,h3⟩:=vj h2;cases List.length_eq_zero_iff.mp h3;exact h kV a pm l i ct u v w
def b4(F:xR K n q st x fd)(h:∀kV a pm l i ct u v w y,J2 st n q kV a pm l i ct [u,v,w,y]=pure [(c,u),(d,v),(e,w),(f,y)]:=by intros;rfl):fU K fd [c,d,e,f] []:=F.binds λkV a pm l i ct b k=>by obtain⟨u,b,rfl,h1⟩:=vj k;obtain⟨v,b,rfl,h2⟩:=vj h1;obtain⟨w,b,rfl,h3⟩:=vj h2;obtain⟨y,b,rfl,h4⟩:=vj h3;cases List.length_eq_zero_iff.mp h4;exact h kV a pm l i ct u v w y
def b5(F:xR K n q st x fd)(h:∀kV a pm l i ct u v w y z,J2 st n q kV a pm l i ct [u,v,w,y,z]=pure [(c,u),(d,v),(e,w),(f,y),(g,z)]:=by intros;rfl):fU K fd [c,d,e,f,g] []:=F.binds λkV a pm l i ct b k=>by obtain⟨u,b,rfl,h1⟩:=vj k;obtain⟨v,b,rfl,h2⟩:=vj h1;obtain⟨w,b,rfl,h3⟩:=vj h2;obtain⟨y,b,rfl,h4⟩:=vj h3;obtain⟨z,b,rfl,h5⟩:=vj h4;cases List.length_eq_zero_iff.mp h5;exact h kV a pm l i ct u v w y z
def b6(F:xR K n q st x fd)(h:∀kV a pm l i ct u v w y z r,J2 st n q kV a pm l i ct [u,v,w,y,z,r]=pure [(c,u),(d,v),(e,w),(f,y),(g,z),(j,r)]:=by intros;rfl):fU K fd [c,d,e,f,g,j] []:=F.binds λkV a pm l i ct b k=>by obtain⟨u,b,rfl,h1⟩:=vj k;obtain⟨v,b,rfl,h2⟩:=vj h1;obtain⟨w,b,rfl,h3⟩:=vj h2;obtain⟨y,b,rfl,h4⟩:=vj h3;obtain⟨z,b,rfl,h5⟩:=vj h4;obtain⟨r,b,rfl,h6⟩:=vj h5;cases List.length_eq_zero_iff.mp h6;exact h kV a pm l i ct u v w y z r
end
def cd{i j:Int}(h:decide (0<j/\j<1073741824)=true):fE i j:=(ov h:0<j/\j<1073741824)
def ls{n:Nat}(h:Nat.ble n 65536=true):n<=sizeLine:=cH (ND h)
section
variable{X:Cx}{n:Str}{st:Stmt}{a:AF}{l:Of}{sp:Sp}{j k:Nat}{e:Expr}{h:Og}{t:TA}{p c:Pos}
def pc(D:Df X.K X.mg n st a l)(F:aT X.prog X.w X.K X.mg X.base dR j a.x a.d l sp)(o:eZ k X.A)(q:PA X (e::h) t)(r:j<=k:=by decide)(hg:Gl X n:=by rfl)(g:(n==("__debug__":Str))=false:=by decide)(s:starEach (e::h) X.env=(false,eval e X.env)::starEach h X.env:=by rfl)(i:(backTo c (starEach h X.env)).any (·.1)=false:=by rfl):PE X (.Call (.Name n p) (e::h) [] c) (Ho sp [] E0 t):=a0 (F.mono r) o hg D.m D.f.kp D.b .nil bw q g s i
def bj(i:Nat){x:Str}{te:TE}{d:Pos}(g:X.N.Nodup)(m:PE X e te)(hi:X.N[i]?=some x:=by rfl)(f:X.env.scope.names.lookup x=some .local:=by rfl)(o:swapsWith e (some (.Name x d)) c.line X.env=pure false:=by rfl):PS X (.Assign [.Name x d] e c) (wL te (jK i)):=oC g hi (.inl f) m o (.inr f)
def qg(i:Nat){x:Str}(f:X.N.Nodup)(hi:X.N[i]?=some x:=by rfl)(d:X.env.scope.names.lookup x=some .local:=by rfl):PG X (.Name x c) (jK i):=wT f hi (.inl d) (.inr d)
def nA(N0 d:Of)(i:Nat){x:Str}(f:(N0++d).Nodup:=by decide+kernel)(g:X.N=N0++d:=by rfl)(hi:(N0++d)[i]?=some x:=by rfl)(m:JV X.env.scope x:=by first|exact Or.inl rfl|exact Or.inr rfl)(o:X.fn x=true\/X.env.scope.names.lookup x=some .local:=by first|exact .inl rfl|exact .inr rfl):PG X (.Name x c) (jK i):=by rw[<-g]at f hi;exact wT f hi m o
def sQ(N0 d:Of)(ds o:Oi)(f:Scope){i q iter:Expr}{m:Og}{scope:Scope}{u:TI}{g:TG}{tc:TT}{te:TE}(hg:GK g o)(hi:PI X q iter u)(v:∀cl C s₀ H₀ ex,PG (X.comp scope (N0++d) cl C s₀ H₀ ex) q g/\Hf (X.comp scope (N0++d) cl C s₀ H₀ ex) m tc/\PE (X.comp scope (N0++d) cl C s₀ H₀ ex) i te)(hc:X.calm=true:=by rfl)(r:X.N=N0:=by rfl)(s:X.env.scope=f:=by rfl)(ok:qL N0 ds f scope=true:=by decide+kernel)(w:(o.all λj=>ds.contains j||decide (N0.length<=j))=true:=by decide+kernel)(y:∀x,foldedSetIterable iter X.env x=pure x:=by intro _;rfl):PE X (.ListComp i [⟨q,iter,m,0⟩] scope c) (tj u g ds d.length tc te):=G3 N0 d ds o f hc r s ok w hg hi v y
def Fa(i:Nat)(N0 d:Of)(ds u:Oi)(f:Scope){x:Str}{m o:Pos}{q s iter:Expr}{r:Og}{scope:Scope}{B:TI}{g:TG}{tc:TT}{te:TE}(hg:GK g u)(hi:PI X s iter B)(D:∀cl C s₀ H₀ ex,PG (X.comp scope (N0++d) cl C s₀ H₀ ex) s g/\Hf (X.comp scope (N0++d) cl C s₀ H₀ ex) r tc/\PE (X.comp scope (N0++d) cl C s₀ H₀ ex) q te)(v:N0.Nodup)(hc:X.calm=true:=by rfl)(w:X.N=N0:=by rfl)(y:X.env.scope=f:=by rfl)(ok:qL N0 ds f scope=true:=by decide+kernel)(E:(u.all λj=>ds.contains j||decide (N0.length<=j))=true:=by decide+kernel)(z:N0[i]?=some x:=by rfl)(F:f.names.lookup x=some .local:=by rfl)(A:swapsWith (.ListComp q [⟨s,iter,r,0⟩] scope c) (some (.Name x m)) o.line X.env=pure true:=by rfl)(G:∀x,foldedSetIterable iter X.env x=pure x:=by intro _;rfl):PS X (.Assign [.Name x m] (.ListComp q [⟨s,iter,r,0⟩] scope c) o) (wL (tj B g ds d.length tc te) (jK i)):=Fd N0 d ds u f hc w y ok E hg hi D v z F A G
def gG(K:N_){a b:Expr}{d f:TE}(g:PE X a d)(i:PE X b f)(m:X.K=K:=by rfl)(o:xL b:=by intro _ _;rfl):PE X (.Subscript a b c) (HX (IN K) d f):=yr (EE K m) g i o
def cQ(K:N_){a b:Expr}{d f:TE}(g:PE X a d)(i:PE X b f)(m:X.K=K:=by rfl)(o:xL b:=by intro _ _;rfl):PE X (.Subscript a b c) (HX (IM K) d f):=yr (GP K m) g i o
end
section
variable{P:Oe}{w:World}{K:N_}{mg:Oc}{base:Heap}{n q:Str}{st:Stmt}{a:AF}{C:Addr}{N c:Of}{k:Nat}{sp:Sp}
theorem Df.ok(D:Df K mg n st a c)(S:aC N c (ao st))(e:∀(g:Value)(A:Around)(outer:List Env)(s:Shared)(H:Hp)(i:List V)(Q:VK)(E:XK),eZ k (A.deeper (envOfC n (ao st) s.heap.objs.size a.x g))->sp i H Q E->∃t,vx (qJ dR P w K mg base N n (ao st) a.x g A outer s H E).nox (gA st) t/\t {nx:=λ_ j=>Q .non j,rt:=Q} (i3 N i) H)(len:∀i H Q E,sp i H Q E->i.length=c.length:=by intro _ _ _ _ h;cases h;subst_vars;rfl):aT P w K mg base dR (k+1) a.x a.d c sp:=D.f.ok S len e
theorem Mf.ok(D:Mf K C n q st a c)(S:aC N c (ao st))(e:∀(g:Value)(A:Around)(outer:List Env)(s:Shared)(H:Hp)(i:List V)(Q:VK)(E:XK),eZ k (A.deeper (envOfC q (ao st) s.heap.objs.size a.x g))->sp i H Q E->∃t,vx (qJ dR P w K mg base N q (ao st) a.x g A outer s H E).nox (gA st) t/\t {nx:=λ_ j=>Q .non j,rt:=Q} (i3 N i) H)(len:∀i H Q E,sp i H Q E->i.length=c.length:=by intro _ _ _ _ h;cases h;subst_vars;rfl):aT P w K mg base dR (k+1) a.x a.d c sp:=D.f.ok S len e
theorem Df.okE(D:Df K mg n st a c)(S:aC N c (ao st))(e:∀(g:Value)(A:Around)(outer:List Env)(s:Shared)(H:Hp)(i:List V)(Q:VK)(E:XK),eZ k (A.deeper (envOfC n (ao st) s.heap.objs.size a.x g))->sp i H Q E->∃t,vx (qJ (oS P w) P w K mg base N n (ao st) a.x g A outer s H E) (gA st) t/\t {nx:=λ_ j=>Q .non j,rt:=Q} (i3 N i) H)(len:∀i H Q E,sp i H Q E->i.length=c.length:=by intro _ _ _ _ h;cases h;subst_vars;rfl):aT P w K mg base (oS P w) (k+1) a.x a.d c sp:=D.f.okE S len e
theorem Mf.okE(D:Mf K C n q st a c)(S:aC N c (ao st))(e:∀(g:Value)(A:Around)(outer:List Env)(s:Shared)(H:Hp)(i:List V)(Q:VK)(E:XK),eZ k (A.deeper (envOfC q (ao st) s.heap.objs.size a.x g))->sp i H Q E->∃t,vx (qJ (oS P w) P w K mg base N q (ao st) a.x g A outer s H E) (gA st) t/\t {nx:=λ_ j=>Q .non j,rt:=Q} (i3 N i) H)(len:∀i H Q E,sp i H Q E->i.length=c.length:=by intro _ _ _ _ h;cases h;subst_vars;rfl):aT P w K mg base (oS P w) (k+1) a.x a.d c sp:=D.f.okE S len e
end
end L2
namespace L2
open PySem PySem.Spec PyProof.Rows PySem.W
section
variable{X:Cx}
theorem xW:∀{e d:Of},PyData.eqvAll (e.map PyData.str) (d.map PyData.str)=true->e=d|[],[],_=>rfl|[],_::_,h=>by cases h|_::_,[],h=>by cases h|x::r,y::q,h=>by rw[pu,pu,PyData.eqvAll,pa]at h;rw[xW h.2,eq_of_beq (show(x==y)=true from h.1)]
def Ht(K:N_):R2:=λx y H Q=>∃(p:Addr)(a:List V)(d:Of)(ds:List (List Str)),y=.ref p/\aY K H p a/\AI K H x (qf d)/\IsPs K H a (ds.map qf)/\Q (.bl (!decide (d∈ds))) H
def Gr(D:X.A.units+65<cLine):lz X (compareOp .NotIn) (Ht X.K):=by
 intro j s E H x y v u Q I k l h;obtain⟨p,F,d,ds,rfl,m,n,o,q⟩:=h;cases l;obtain⟨a,r,pl,G⟩:=I.list m;obtain⟨J,t⟩:=n.reads I k;obtain⟨z,B⟩:=IsPs.mem I o r;have at_:∀{w:Value}{e:Of}{bs:Oj},Reads s.heap w (qf e) bs->SeqAt.EqAt X.A.in1 s w v (PyData.eqv (qf e) (qf d)):=λC=>HR C t (by show X.A.units+1<cLine;lia)
 classical
 refine SeqAt.notIn_listAt (λw=>decide (∃e∈ds,PyData.eqv (qf e) (qf d)=true/\∃bs,Reads s.heap w (qf e) bs)) pl.isList (λw f=>?_) ⟨.bl _,H,I,rfl,?_⟩
 ·by_cases c:∃e∈ds,PyData.eqv (qf e) (qf d)=true/\∃bs,Reads s.heap w (qf e) bs
  ·rw[ol c];obtain⟨e,b,h1,bs,h2⟩:=c;rw[<-h1];exact at_ h2
  ·rw[op c];obtain⟨L,i,bs,h2⟩:=z w (by simpa using f);obtain⟨e,b,rfl⟩:=oi.mp i;have h1:PyData.eqv (qf e) (qf d)=false:=by cases g:PyData.eqv (qf e) (qf d)with|false=>rfl|true=>exact absurd ⟨e,b,g,bs,h2⟩ c
   rw[<-h1];exact at_ h2
 ·rw[show(a.toArray.any λw=>decide (∃e∈ds,PyData.eqv (qf e) (qf d)=true/\∃bs,Reads s.heap w (qf e) bs))=decide (d∈ds)by
   by_cases hd:d∈ds
   ·obtain⟨w,f,bs,h2⟩:=B (qf d) (oi.mpr ⟨d,hd,rfl⟩);rw[ol hd,Array.any_eq_true'];exact⟨w,by simpa using f,ol ⟨d,hd,sW d,bs,h2⟩⟩
   ·rw[op hd];cases g:(a.toArray.any λw=>decide (∃e∈ds,PyData.eqv (qf e) (qf d)=true/\∃bs,Reads s.heap w (qf e) bs))with|false=>rfl|true=>rw[Array.any_eq_true']at g;obtain⟨w,_,g⟩:=g;obtain⟨e,b,h1,_⟩:=ov g;rw[xW h1]at b;exact absurd b hd]
  exact q
def yx(K:N_)(a:X.K=K)(c:X.A.units+65<cLine):lz X (compareOp .NotIn) (Ht K):=by subst a;exact Gr c
end
end L2
namespace L2
open PySem PySem.W PyProof.Rows
section
variable{M:Model}{A:Around}{E:Oa}
end
end L2
namespace L2
open PySem PySem.W PyProof.Rows
def lM(K:N_)(C D:Addr):Prop:=vA K C/\∃a,JS K C a/\(Value.ref C::a).contains (.ref D)=true
def Ka{K:N_}{x C:Addr}{d:Value}{f:Option Addr}{a:ClassData}{g:Array (Option Value)}{c:Od}(h:vA K x)(l:K.lookup x=some ⟨d,f,.cls a,g⟩)(o:a.mro=.ref x::c)(e:(Value.ref x::c).contains (.ref C)=true):lM K x C:=⟨h,_,⟨_,_,_,_,l,o⟩,e⟩
def Kc(K:N_)(c:XK->TS)(S:Addr)(d:TS):TS:=λD a H=>c (λb _ e=>∃C,b=.ref C/\lM K C S/\d D a e) D a H
def Gg{X:Cx}{st v:Stmt}{a:List Stmt}{y:XK->TS}{A:TS}{S:Addr}{x:Str}{M d i:Pos}(K:N_)(O:X.K=K)(j:X.stack=X.env::X.outer)(P:X.env.frame=some X.env.locals)(Q:vA X.K S)(hg:Gl X x)(hm:X.mg x=some (.ref S))(R:∀(E:XK)(c:Ob)(e:St)(g:Oa),mL (oS X.prog X.w) (X.wish g) E c e->JN (X.wish g) c e st (y E))(hh:∀l,vx (X.inExc l) (v::a) A)(m:(x==("__debug__":Str))=false:=by decide):PS X (.Try [st] [.ExceptHandler (some (.Name x M)) none (v::a) d] [] [] i) (Kc K y S A):=by subst O;intro c s e H D I h;refine CW j P (λE p e g U=>IX (R E p e g U)) I h λl C' H' s5 V L=>?_;obtain⟨C,rfl,⟨Y,k,Z,n⟩,o⟩:=V;obtain⟨bm,N,nm,q,bs,hd,sn,sub,ab,aa,dd,k0,k1,k2,k3,k5,mN,r,hN,ac,T⟩:=Q.at I.mod.kin;obtain⟨t,N',ad,q',al,an,ap,B,as,G,ax,a2,a3,a5,a6,a7,a8,b,ba,J,T'⟩:=Y.at I.mod.kin;obtain⟨ob,u,f⟩:=L.obj;refine wpAny_handleBy_cons (codeAny_handlers_test (pT (L.inv.inExc l) hg hm ?_ m)) (by intro z;cases z);refine B9 (L.inv.bk _ _ b) (L.inv.bk _ _ r) u f (T.hasType PySem.F.excBase_ValueError.hasBase) ?_;obtain rfl:t=k:=Z.is I.mod.kin b rfl rfl;rw[n];exact codeAny_handlers_suite (L.run hh o λ_ _ z=>z)
end L2
set_option genSizeOf false
namespace My
open PySem L2
seal L2.vx L2.PS L2.PE L2.PT L2.PA L2.PI L2.PG L2.PW L2.JP L2.PO
def gj(i:Nat):Stmt:=PySem.Challenge.pw_layersplit_k43_whole_who_is_in_stays.main.body.getD i (.Pass ⟨0,0,0,0⟩)
abbrev qh(c i:Nat):Stmt:=(G4 (gj c)).getD i (.Pass ⟨0,0,0,0⟩)
abbrev tS:Stmt:=gj 20
abbrev kZ:Stmt:=gj 21
abbrev vM:Stmt:=gj 22
abbrev tU:Stmt:=gj 23
abbrev oA:Stmt:=gj 28
abbrev tP:Stmt:=gj 29
abbrev rf:Stmt:=gj 35
abbrev vP:Stmt:=gj 36
abbrev jy:Stmt:=gj 37
abbrev tW:Stmt:=gj 38
abbrev pA:Stmt:=gj 39
abbrev oz:Stmt:=gj 40
abbrev vO:Stmt:=gj 41
abbrev sK:Stmt:=gj 42
abbrev tV:Stmt:=gj 48
abbrev vN:Stmt:=gj 49
abbrev tT:Stmt:=gj 50
abbrev re:Stmt:=gj 51
abbrev k7:Stmt:=gj 52
abbrev jR:Stmt:=gj 53
abbrev oB:Stmt:=gj 54
abbrev nN:Stmt:=gj 55
abbrev pj:Stmt:=gj 56
abbrev nO:Stmt:=gj 57
abbrev nL:Stmt:=gj 58
abbrev pk:Stmt:=gj 59
abbrev rg:Stmt:=gj 60
abbrev kg:Stmt:=gj 61
abbrev nM:Stmt:=gj 62
abbrev jQ:Stmt:=gj 64
abbrev pz:Stmt:=gj 65
abbrev nK:Stmt:=gj 66
abbrev nP:Stmt:=gj 67
abbrev mh:Stmt:=gj 68
abbrev lD:Stmt:=gj 69
abbrev px:Stmt:=gj 70
abbrev nJ:Stmt:=gj 71
abbrev pq:Stmt:=gj 72
abbrev py:Stmt:=gj 73
abbrev tR:Stmt:=gj 75
abbrev AW:Stmt:=gj 76
abbrev tQ:Stmt:=gj 78
abbrev mj:Stmt:=qh 80 0
abbrev kh:Stmt:=qh 80 1
abbrev jz:Stmt:=qh 80 2
abbrev lc:Stmt:=qh 80 3
abbrev k9:Stmt:=qh 80 4
abbrev jA:Stmt:=qh 80 5
abbrev pB:Stmt:=qh 80 6
abbrev ml:Stmt:=qh 83 0
abbrev mi:Stmt:=qh 84 0
abbrev mw:Stmt:=qh 85 0
abbrev tZ:Stmt:=qh 85 1
abbrev pE:Stmt:=qh 85 2
abbrev ko:Stmt:=qh 85 3
abbrev km:Stmt:=qh 85 4
abbrev fu:Stmt:=qh 85 5
abbrev lF:Stmt:=qh 85 6
abbrev kn:Stmt:=qh 85 7
abbrev kr:Stmt:=qh 85 8
abbrev mq:Stmt:=qh 85 9
abbrev kj:Stmt:=qh 85 10
abbrev lE:Stmt:=qh 85 11
abbrev fH:Stmt:=qh 85 12
abbrev gK:Stmt:=qh 85 13
abbrev ki:Stmt:=qh 85 14
abbrev jB:Stmt:=qh 85 17
abbrev i7:Stmt:=qh 85 19
abbrev ib:Stmt:=qh 85 20
abbrev mn:Stmt:=qh 85 25
abbrev tY:Stmt:=gj 87
abbrev yk:Stmt:=gj 88
abbrev AX:Stmt:=gj 89
abbrev ym:Stmt:=gj 90
abbrev AY:Stmt:=gj 91
abbrev tX:Stmt:=gj 92
abbrev AZ:Stmt:=gj 94
abbrev pD:Stmt:=gj 95
abbrev ld:Stmt:=gj 96
abbrev pC:Stmt:=gj 97
abbrev A5:Stmt:=gj 98
abbrev mm:Stmt:=gj 99
abbrev yj:Stmt:=gj 100
abbrev vQ:Stmt:=gj 101
abbrev A4:Stmt:=gj 102
abbrev vL:Stmt:=gj 103
set_option genInjectivity false in
set_option genSizeOf false in
structure fV where(fN fe eu fO kP ky fA m9 iX cB b7 j4 m7 dS dN m4 kO iU gU gh kT gf fg bK dW gS dP aN gc f8 fk f9 dX dz cX fi dU fh fj kH wu kA eD db bg eC eB cN fY eF eA eL jn fZ dh dg bL dD cw dn eK df cI cx de cu cP eJ dA eI jm eE rQ mS eX qW wG gY gX qV wH iY qU nu uV law:AF)(bS fq fS cC cO Bu AG AE Fs xI AH Fv Bs uT xP qY mP fD uW:Addr)pm:Params
structure Txt(K:N_)(mg:Oc)(a:fV):Prop where
 GH:mg "Table"=some (.ref a.bS)GI:mg "Layer"=some (.ref a.fq)GF:mg "Trial"=some (.ref a.fS)GJ:mg "House"=some (.ref a.cC)xi:mg "SplitError"=some (.ref a.cO)J0:mg "NoHouse"=some (.ref a.Bu)yS:mg "NoDeed"=some (.ref a.AG)Et:mg "NoWord"=some (.ref a.AE)GG:mg "Taken"=some (.ref a.Fs)Cc:mg "Unknown"=some (.ref a.xI)Ev:mg "NoArms"=some (.ref a.AH)KS:mg "NoRule"=some (.ref a.Fv)JZ:mg "NoShuts"=some (.ref a.Bs)oI:mg "NoNumber"=some (.ref a.uT)Cd:mg "NoMarks"=some (.ref a.xP)Ex:mg "Closed"=some (.ref a.qY)Eu:mg "NoRoom"=some (.ref a.mP)Ce:mg "LENGTHS"=some (.ref a.fD)Ew:mg "HELD"=some (.ref a.uW)fN:Df K mg "is_whole" tS a.fN ["thing"]fe:Df K mg "is_text_of" kZ a.fe ["thing","signs","longest"]eu:Df K mg "is_word" vM a.eu ["thing"]fO:Df K mg "is_guest" tU a.fO ["thing"]kP:Df K mg "is_prime" oA a.kP ["thing"]ky:Df K mg "point_of" tP a.ky ["p","salt","guest"]fA:Df K mg "is_number" rf a.fA ["thing"]m9:Df K mg "is_mark" vP a.m9 ["thing"]iX:Df K mg "are_marks" jy a.iX ["thing"]cB:Df K mg "has_form" tW a.cB ["thing","depth"]b7:Df K mg "all_within" pA a.b7 ["rule"]j4:Df K mg "words_of" oz a.j4 ["rule"]m7:Df K mg "is_rule" vO a.m7 ["thing"]dS:Df K mg "holds" sK a.dS ["rule","marks"]dN:Df K mg "is_count" tV a.dN ["thing"]m4:Df K mg "is_salt" vN a.m4 ["thing"]kO:Df K mg "is_total" tT a.kO ["thing"]iU:Df K mg "is_weight" re a.iU ["thing"]gU:Df K mg "are_counts" k7 a.gU ["thing","many"]gh:Df K mg "are_weights" jR a.gh ["thing","many"]kT:Df K mg "are_arms" oB a.kT ["thing"]gf:Df K mg "check_house" nN a.gf ["prime","salt"]fg:Df K mg "check_word" pj a.fg ["thing"]bK:Df K mg "check_guest" nO a.bK ["thing"]dW:Df K mg "check_marks" nL a.dW ["thing"]gS:Df K mg "check_rule" pk a.gS ["thing"]dP:Df K mg "check_new" rg a.dP ["thing","names"]aN:Df K mg "check_standing" kg a.aN ["thing","names"]gc:Df K mg "check_known" nM a.gc ["thing","names"]f8:Df K mg "check_slope" jQ a.f8 ["thing","prime","layers"]fk:Df K mg "check_arms" pz a.fk ["thing"]f9:Df K mg "check_shuts" nK a.f9 ["thing","trials"]dX:Df K mg "check_count" nP a.dX ["thing"]dz:Df K mg "check_shares" mh a.dz ["thing","many"]cX:Df K mg "check_dealing" lD a.cX ["total","weights","many"]fi:Df K mg "check_form" px a.fi ["deed"]dU:Df K mg "check_trial" nJ a.dU ["deed","layers","trials"]fh:Df K mg "check_open" pq a.fh ["deed","trials"]fj:Df K mg "check_deed" py a.fj ["deed","prime","layers","trials"]kH:Df K mg "most_due" tR a.kH ["weights","given"]wu:Df K mg "dealt" AW a.wu ["total","weights"]kA:Df K mg "place_of" tQ a.kA ["p","slope","point"]eD:Mf K a.bS "__init__" "Table.__init__" mj a.eD ["self","many"]db:Mf K a.bS "owner_of" "Table.owner_of" kh a.db ["self","place"]bg:Mf K a.bS "places_of" "Table.places_of" jz a.bg ["self","owner"]eC:Mf K a.bS "free" "Table.free" lc a.eC ["self"]eB:Mf K a.bS "told" "Table.told" k9 a.eB ["self","wanted"]cN:Mf K a.bS "give_back" "Table.give_back" jA a.cN ["self","owner","number"]fY:Mf K a.bS "take" "Table.take" pB a.fY ["self","owner","number"]eF:Mf K a.fq "__init__" "Layer.__init__" ml a.eF ["self","slope","many"]eA:Mf K a.fS "__init__" "Trial.__init__" mi a.eA ["self","home","arms","rule","shuts"]eL:Mf K a.cC "__init__" "House.__init__" mw a.eL ["self","prime","salt"]jn:Mf K a.cC "do" "House.do" tZ a.jn ["self","deed"]fZ:Mf K a.cC "done" "House.done" pE a.fZ ["self","deed"]dh:Mf K a.cC "do_layer" "House.do_layer" ko a.dh ["self","name","slope"]dg:Mf K a.cC "do_trial" "House.do_trial" km a.dg ["self","name","trial"]bL:Mf K a.cC "do_share" "House.do_share" fu a.bL ["self","name","numbers"]dD:Mf K a.cC "do_hold" "House.do_hold" lF a.dD ["self","name","number"]cw:Mf K a.cC "do_pause" "House.do_pause" kn a.cw ["self","name","paused"]dn:Mf K a.cC "do_close" "House.do_close" kr a.dn ["self","name"]eK:Mf K a.cC "do_bar" "House.do_bar" mq a.eK ["self","guest","name"]df:Mf K a.cC "do_visit" "House.do_visit" kj a.df ["self","guest","marks"]cI:Mf K a.cC "put_out" "House.put_out" lE a.cI ["self","layer","guests"]cx:Mf K a.cC "after_visit" "House.after_visit" fH a.cx ["self","guest","marks"]de:Mf K a.cC "seat_for" "House.seat_for" gK a.de ["self","layer","guest","marks","been"]cu:Mf K a.cC "place_in" "House.place_in" ki a.cu ["self","layer","guest"]cP:Mf K a.cC "places_in" "House.places_in" jB a.cP ["self","trial","arm"]eJ:Mf K a.cC "shares" "House.shares" i7 a.eJ ["self","trial"]dA:Mf K a.cC "stand" "House.stand" ib a.dA ["self","guest"]eI:Mf K a.cC "trials" "House.trials" mn a.eI ["self"]jm:Df K mg "_law_cell_at" tY a.jm ["_law_script","_law_k"]eE:Df K mg "_law_mixed" yk a.eE ["_law_script","_law_k","_law_salt"]rQ:Df K mg "_law_word" AX a.rQ ["_law_k","_law_number"]mS:Df K mg "_law_guest" ym a.mS ["_law_k","_law_number"]eX:Df K mg "_law_rule" AY a.eX ["_law_number","_law_high"]qW:Df K mg "_law_marks" tX a.qW ["_law_number"]wG:Df K mg "_law_plan" AZ a.wG ["_law_script"]gY:Df K mg "_law_new_layer" pD a.gY ["_law_script","_law_plan_here"]gX:Df K mg "_law_new_trial" ld a.gX ["_law_script","_law_plan_here","_law_number"]qV:Df K mg "_law_share" pC a.qV ["_law_script","_law_plan_here","_law_k","_law_number"]wH:Df K mg "_law_deed" A5 a.wH ["_law_script","_law_plan_here","_law_k"]iY:Df K mg "_law_any_deed" mm a.iY ["_law_script","_law_plan_here","_law_k"]qU:Df K mg "_law_tried" yj a.qU ["_law_house","_law_deed_here"]nu:Df K mg "_law_may_go" vQ a.nu ["_law_deed_here","_law_guest_here","_law_seat","_law_before","_law_behind"]uV:Df K mg "_law_many" A4 a.uV ["_law_house","_law_arms"]law:Df K mg "law" vL a.law ["_law_script"]CJ:∃u,mg "LETTERS"=some u/\bd (.str "abcdefghijklmnopqrstuvwxyz") u
 jX:∃u,mg "GUEST_SIGNS"=some u/\bd (.str "abcdefghijklmnopqrstuvwxyz0123456789") u
 uI:∃u,mg "LONGEST_WORD"=some u/\bd (.int 12) u
 lL:∃u,mg "LONGEST_GUEST"=some u/\bd (.int 24) u
 vo:∃u,mg "LEAST_PRIME"=some u/\bd (.int 2) u
 qO:∃u,mg "GREATEST_PRIME"=some u/\bd (.int 997) u
 G6:∃u,mg "MIXER"=some u/\bd (.int 1009) u
 xD:∃u,mg "MOST_MARKS"=some u/\bd (.int 8) u
 uJ:∃u,mg "DEEPEST_RULE"=some u/\bd (.int 6) u
 xC:∃u,mg "MOST_RULES"=some u/\bd (.int 30) u
 xy:∃u,mg "MOST_WORDS"=some u/\bd (.int 3) u
 zk:∃u,mg "MOST_ARMS"=some u/\bd (.int 4) u
 xB:∃u,mg "MOST_SHUTS"=some u/\bd (.int 8) u
 xz:∃u,mg "MOST_TOTAL"=some u/\bd (.int 1000) u
 bx:xS K a.bS
 Ee:L2.Mk K a.bS a.eD.x
 nX:cg K a.bS "many"eP:cg K a.bS "owners"gx:cg K a.bS "taken"ce:xS K a.fq
 Ef:L2.Mk K a.fq a.eF.x
 jh:cg K a.fq "slope"fc:cg K a.fq "table"bV:cg K a.fq "inside"bq:xS K a.fS
 Ed:L2.Mk K a.fS a.eA.x
 ii:cg K a.fS "home"eQ:cg K a.fS "arms"nW:cg K a.fS "rule"mE:cg K a.fS "shuts"iD:cg K a.fS "paused"iE:cg K a.fS "closed"iF:cg K a.fS "barred"aD:xS K a.cC
 Eg:L2.Mk K a.cC a.eL.x
 cF:cg K a.cC "own_prime"jI:cg K a.cC "own_salt"aW:cg K a.cC "layer_named"aP:cg K a.cC "trial_named"ee:cg K a.cC "came_into"mF:cg K a.cC "deeds"vi:vA K a.cO
 Jv:vA K a.Bu
 wm:vA K a.AG
 Cs:vA K a.AE
 EX:vA K a.Fs
 As:vA K a.xI
 Cu:vA K a.AH
 J1:vA K a.Fv
 Ju:vA K a.Bs
 mJ:vA K a.uT
 At:vA K a.xP
 Cv:vA K a.qY
 Ct:vA K a.mP
 Ag:L2.Hh K a.pm a.fD
 kL:∃tk,PySem.W.nsIn K a.fD "layer"=some (some (.int 3 tk))gP:∃tk,PySem.W.nsIn K a.fD "trial"=some (some (.int 6 tk))kJ:∃tk,PySem.W.nsIn K a.fD "share"=some (some (.int 3 tk))lK:∃tk,PySem.W.nsIn K a.fD "deal"=some (some (.int 4 tk))lJ:∃tk,PySem.W.nsIn K a.fD "hold"=some (some (.int 3 tk))kK:∃tk,PySem.W.nsIn K a.fD "pause"=some (some (.int 2 tk))nY:∃tk,PySem.W.nsIn K a.fD "go"=some (some (.int 2 tk))kM:∃tk,PySem.W.nsIn K a.fD "close"=some (some (.int 2 tk))mG:∃tk,PySem.W.nsIn K a.fD "bar"=some (some (.int 3 tk))gO:∃tk,PySem.W.nsIn K a.fD "visit"=some (some (.int 3 tk))Bi:L2.Lu K a.uW [.str "",.str ""]lT:L2.lM K a.mP a.cO
 lV:L2.lM K a.qY a.cO
 ik:L2.lM K a.AG a.cO
 nz:L2.lM K a.Fs a.cO
 lN:L2.lM K a.xI a.cO
 lU:L2.lM K a.AH a.cO
 lS:L2.lM K a.AE a.cO
 gJ:L2.lM K a.xP a.cO
 dZ:L2.lM K a.uT a.cO
 vW:mg "all"=none
 Eb:mg "any"=none
 Jf:mg "bool"=none
 Ea:mg "divmod"=none
 yO:mg "enumerate"=none
 KN:mg "int"=none
 bW:mg "isinstance"=none
 bF:mg "len"=none
 zZ:mg "list"=none
 KM:mg "max"=none
 D9:mg "min"=none
 eh:mg "range"=none
 zY:mg "reversed"=none
 D8:mg "set"=none
 yN:mg "sorted"=none
 Hw:mg "str"=none
 KL:mg "sum"=none
 dJ:mg "tuple"=none
 KK:mg "zip"=none
def ScB(N P:Of)(a:Scope):Bool:=decide (a.kind=.function)&&!a.isCoroutine&&!a.isGenerator&&decide N.Nodup&&decide (N.take P.length=P)&&P.all (λx=>decide (a.names.lookup x=some .local\/a.names.lookup x=some .cell))&&a.names.all λy=>decide (y.2≠.free)
def dF{N P:Of}{a:Scope}(h:ScB N P a=true:=by rfl):aC N P a:=by simp only[ScB,pa,decide_eq_true_eq,Bool.not_eq_true',N2]at h;exact⟨h.1.1.1.1.1.1,h.1.1.1.1.1.2,h.1.1.1.1.2,h.1.1.1.2,h.1.1.2,h.1.2,h.2⟩
def ye:aC ["thing"] ["thing"] (ao tS):=dF
abbrev lA:List Str:=["thing","signs","longest"]
def u4:aC lA ["thing","signs","longest"] (ao kZ):=dF
def zF:aC ["thing"] ["thing"] (ao vM):=dF
def q8:aC ["thing"] ["thing"] (ao tU):=dF
def yg:aC ["thing"] ["thing"] (ao oA):=dF
def jt:aC ["p","salt","guest","mixed","sign"] ["p","salt","guest"] (ao tP):=dF
def wQ:aC ["thing"] ["thing"] (ao rf):=dF
def zI:aC ["thing"] ["thing"] (ao vP):=dF
def wS:aC ["thing"] ["thing"] (ao jy):=dF
def lZ:aC ["thing","depth","kind"] ["thing","depth"] (ao tW):=dF
def hV:aC ["rule","found","inner"] ["rule"] (ao pA):=dF
def yd:aC ["rule"] ["rule"] (ao oz):=dF
def zH:aC ["thing"] ["thing"] (ao vO):=dF
abbrev qb:List Str:=["rule","marks","kind"]
def tG:aC qb ["rule","marks"] (ao sK):=dF
def q9:aC ["thing"] ["thing"] (ao tV):=dF
def zG:aC ["thing"] ["thing"] (ao vN):=dF
def yf:aC ["thing"] ["thing"] (ao tT):=dF
def wP:aC ["thing"] ["thing"] (ao re):=dF
abbrev iQ:List Str:=["thing","many"]
def u9:aC iQ ["thing","many"] (ao k7):=dF
abbrev og:List Str:=["thing","many"]
def tN:aC og ["thing","many"] (ao jR):=dF
def yh:aC ["thing"] ["thing"] (ao oB):=dF
def tL:aC ["prime","salt"] ["prime","salt"] (ao nN):=dF
def u5:aC ["thing"] ["thing"] (ao pj):=dF
def l7:aC ["thing"] ["thing"] (ao nO):=dF
def tJ:aC ["thing"] ["thing"] (ao nL):=dF
def u6:aC ["thing"] ["thing"] (ao pk):=dF
def wR:aC ["thing","names"] ["thing","names"] (ao rg):=dF
def jv:aC ["thing","names"] ["thing","names"] (ao kg):=dF
def tK:aC ["thing","names"] ["thing","names"] (ao nM):=dF
abbrev j0:List Str:=["thing","prime","layers"]
def tI:aC j0 ["thing","prime","layers"] (ao jQ):=dF
def u8:aC ["thing"] ["thing"] (ao pz):=dF
def i6:aC ["thing","trials","k","name"] ["thing","trials"] (ao nK):=dF
def tM:aC ["thing"] ["thing"] (ao nP):=dF
def rS:aC ["thing","many"] ["thing","many"] (ao mh):=dF
def qt:aC ["total","weights","many"] ["total","weights","many"] (ao lD):=dF
def u7:aC ["deed"] ["deed"] (ao px):=dF
def tH:aC ["deed","layers","trials"] ["deed","layers","trials"] (ao nJ):=dF
def jO:aC ["deed","trials","trial","many"] ["deed","trials"] (ao pq):=dF
def nH:aC ["deed","prime","layers","trials","kind"] ["deed","prime","layers","trials"] (ao py):=dF
def ju:aC ["weights","given","best","k"] ["weights","given"] (ao tR):=dF
def o9:aC ["total","weights","given","turn","k"] ["total","weights"] (ao AW):=dF
def lY:aC ["p","slope","point","x","y"] ["p","slope","point"] (ao tQ):=dF
def rW:aC ["self","many"] ["self","many"] (ao mj):=dF
def pb:aC ["self","place"] ["self","place"] (ao kh):=dF
def ox:aC ["self","owner"] ["self","owner"] (ao jz):=dF
def va:aC ["self"] ["self"] (ao lc):=dF
abbrev iR:List Str:=["self","wanted","more","back","owner","number"]
def dB:aC iR ["self","wanted"] (ao k9):=dF
def d0:aC ["self","owner","number","places","back","place"] ["self","owner","number"] (ao jA):=dF
def ia:aC ["self","owner","number","places","more","place"] ["self","owner","number"] (ao pB):=dF
def rY:aC ["self","slope","many"] ["self","slope","many"] (ao ml):=dF
def rT:aC ["self","home","arms","rule","shuts"] ["self","home","arms","rule","shuts"] (ao mi):=dF
def r9:aC ["self","prime","salt"] ["self","prime","salt"] (ao mw):=dF
def rc:aC ["self","deed","answer"] ["self","deed"] (ao tZ):=dF
def nI:aC ["self","deed","kind"] ["self","deed"] (ao pE):=dF
def pi:aC ["self","name","slope"] ["self","name","slope"] (ao ko):=dF
def ph:aC ["self","name","trial"] ["self","name","trial"] (ao km):=dF
abbrev c6:List Str:=["self","name","numbers","trial","layer","back","guests"]
def dy:aC c6 ["self","name","numbers"] (ao fu):=dF
def qu:aC ["self","name","number"] ["self","name","number"] (ao lF):=dF
def jw:aC ["self","name","paused","trial"] ["self","name","paused"] (ao kn):=dF
def jx:aC ["self","name","trial"] ["self","name"] (ao kr):=dF
def iB:aC ["self","guest","name","trial","layer"] ["self","guest","name"] (ao mq):=dF
def cL:aC ["self","guest","marks","answer","name","trial","arm","layer"] ["self","guest","marks"] (ao kj):=dF
def ft:aC ["self","layer","guests","out","guest","seat"] ["self","layer","guests"] (ao lE):=dF
abbrev fL:List Str:=["self","guest","marks","been","answer","name","layer","seat"]
def bI:aC fL ["self","guest","marks"] (ao fH):=dF
abbrev gW:List Str:=["self","layer","guest","marks","been","owner","trial"]
def gm:aC gW ["self","layer","guest","marks","been"] (ao gK):=dF
def pf:aC ["self","layer","guest"] ["self","layer","guest"] (ao ki):=dF
def oy:aC ["self","trial","arm"] ["self","trial","arm"] (ao jB):=dF
abbrev jl:List Str:=["self","trial"]
def r6:aC jl ["self","trial"] (ao i7):=dF
abbrev dC:List Str:=["self","guest","standing"]
def mf:aC dC ["self","guest"] (ao ib):=dF
def rZ:aC ["self"] ["self"] (ao mn):=dF
def yi:aC ["_law_script","_law_k"] ["_law_script","_law_k"] (ao tY):=dF
def ka:aC ["_law_script","_law_k","_law_salt","_law_cell","_law_lap","_law_near"] ["_law_script","_law_k","_law_salt"] (ao yk):=dF
def pd:aC ["_law_k","_law_number","_law_some","_law_stem","_law_at"] ["_law_k","_law_number"] (ao AX):=dF
def ke:aC ["_law_k","_law_number","_law_some","_law_stem","_law_at","_law_own"] ["_law_k","_law_number"] (ao ym):=dF
def l9:aC ["_law_number","_law_high","_law_way","_law_some","_law_word_here"] ["_law_number","_law_high"] (ao AY):=dF
abbrev uU:List Str:=["_law_number","_law_marks_here","_law_k","_law_word_here"]
def kc:aC uU ["_law_number"] (ao tX):=dF
def tO:aC ["_law_script","_law_number","_law_prime"] ["_law_script"] (ao AZ):=dF
def jP:aC ["_law_script","_law_plan_here","_law_k","_law_name"] ["_law_script","_law_plan_here"] (ao pD):=dF
abbrev lB:List Str:=["_law_script","_law_plan_here","_law_number","_law_k","_law_name","_law_layer","_law_arms","_law_shuts","_law_more","_law_j"]
def cV:aC lB ["_law_script","_law_plan_here","_law_number"] (ao ld):=dF
abbrev mQ:List Str:=["_law_script","_law_plan_here","_law_k","_law_number","_law_trial","_law_most","_law_weights"]
def mW:aC mQ ["_law_script","_law_plan_here","_law_k","_law_number"] (ao pC):=dF
def kf:aC ["_law_script","_law_plan_here","_law_k","_law_number","_law_some","_law_guest_here","_law_early","_law_trial"] ["_law_script","_law_plan_here","_law_k"] (ao A5):=dF
abbrev mR:List Str:=["_law_script","_law_plan_here","_law_k","_law_number","_law_trial","_law_many_here","_law_layer","_law_guest_here","_law_some"]
def cj:aC mR ["_law_script","_law_plan_here","_law_k"] (ao mm):=dF
def vK:aC ["_law_house","_law_deed_here","_law_found"] ["_law_house","_law_deed_here"] (ao yj):=dF
def zJ:aC ["_law_deed_here","_law_guest_here","_law_seat","_law_before","_law_behind"] ["_law_deed_here","_law_guest_here","_law_seat","_law_before","_law_behind"] (ao vQ):=dF
def ma:aC ["_law_house","_law_arms","_law_found","_law_trial","_law_numbers","_law_k"] ["_law_house","_law_arms"] (ao A4):=dF
abbrev qa:List Str:=["_law_script","_law_plan_here","_law_house","_law_guests","_law_arms","_law_k","_law_deed_here","_law_ahead","_law_before","_law_done","_law_behind","_law_at","_law_guest_here","_law_now","_law_layer","_law_trial","_law_arm","_law_new"]
def eT:aC qa ["_law_script"] (ao vL):=dF
variable{P:Oe}{w:World}{K:N_}{mg:Oc}{base:Heap}{a:fV}{H H':Hp}
inductive JW{A0 A1:Type}(p:A0->A1->Prop):Prop|mk(x0:A0)(x1:A1)(h:p x0 x1)
inductive Ex3{A0 A1 A2:Type}(p:A0->A1->A2->Prop):Prop|mk(x0:A0)(x1:A1)(x2:A2)(h:p x0 x1 x2)
inductive Ex4{A0 A1 A2 A3:Type}(p:A0->A1->A2->A3->Prop):Prop|mk(x0:A0)(x1:A1)(x2:A2)(x3:A3)(h:p x0 x1 x2 x3)
structure L4(p0 p1 p2 p3 p4:Prop):Prop where
 h0:p0
 h1:p1
 h2:p2
 h3:p3
 h4:p4
structure L5(p0 p1 p2 p3 p4 p5 p6 p7 p8 p9 p10 p11:Prop):Prop where
 h0:p0
 h1:p1
 h2:p2
 h3:p3
 h4:p4
 h5:p5
 h6:p6
 h7:p7
 h8:p8
 h9:p9
 h10:p10
 h11:p11
def dk{p:Prop}[Decidable p](h:decide p=true):p:=ov h
@[irreducible]def wx(ns:Ol)(k:Int):Int:=if ns.length=0 then 0 else ns.getD (k%(ns.length:Int)).toNat 0
def KU(ns:Ol)(k:Int):Int:=k/(if(ns.length:Int)>1 then(ns.length:Int)else 1)
def D7(ns:Ol)(k m:Int):Int:=(Builtin.bitAnd (wx ns k) 2147483647+1009*k*k+7919*m*m+12)*48271%2147483647
@[irreducible]def cS(ns:Ol)(k m:Int):Int:=(wx ns k/2^(31*(m+128*KU ns k)).toNat+D7 ns k m*D7 ns k m%2147483629)%2147483648
def Bf(ns:Ol)(k m:Int):0<=cS ns k m/\cS ns k m<2147483648:=by unfold cS;exact bJ _ (by decide)
inductive IC(K:N_)(vs:List V)(H:Hp)(Q:VK)(_E:XK):Prop|mk(a:Addr)(ns:Ol)(k:Int)(_:vs=[.ref a,.int k])(_:aY K H a (ns.map V.int))(_:ns.length<=63)(_:Q (.int (wx ns k)) H)
inductive FW(K:N_)(vs:List V)(H:Hp)(Q:VK)(_E:XK):Prop|mk(a:Addr)(ns:Ol)(k m:Int)(_:vs=[.ref a,.int k,.int m])(_:aY K H a (ns.map V.int))(_:ns.length<=63)(_:(0<=k/\k<=1000000))(_:(0<=m/\m<=1000000))(_:Q (.int (cS ns k m)) H)
inductive Dl(K:N_)(vs:List V)(H:Hp)(Q:VK)(_E:XK):Prop|mk(a:Addr)(ns:Ol)(_:vs=[.ref a])(_:aY K H a (ns.map V.int))(_:ns.length<=63)(_:∀H',Q (.bl true) H')
section
variable{P:Oe}{w:World}{K:N_}{mg:Oc}{base:Heap}{a:fV}
def rj(T:Txt K mg a):aT P w K mg base dR 1 a.jm.x a.jm.d ["_law_script","_law_k"] (IC K):=by
 refine T.jm.ok yi λe A outer s H f Q E g h=>?_
 ·obtain⟨p,ns,k,rfl,b,i,q⟩:=h;refine⟨_,(ai (aM (aE aU (aA (aJ K rfl) (by rfl) T.bF L2.aL (ae (Y 0) af)) ah (aG _)) (aj (aB ah)) aF) (aj (aB (gG K (Y 0) (az aV (Y 1) (aA (aJ K rfl) (by rfl) T.bF L2.aL (ae (Y 0) af))))))),?_⟩
  refine U rfl ⟨_,ns.length,rfl,.inl ⟨_,b,by simp⟩,rfl,U rfl ?_⟩;unfold wx at q;refine kN (λh0=>?_) (λh0=>?_)
  ·rw[mo (by exact Int.ofNat_inj.mp h0)]at q;exact q
  have c:(0:Int)<(ns.length:Int):=by lia
  have hm:=bJ k c;rw[l_ (by lia)]at q;exact U rfl (U rfl (U rfl ⟨_,ns.length,rfl,.inl ⟨_,b,by simp⟩,_,U rfl ⟨rfl,c,rX b (nq hm.1 hm.2) q⟩⟩))
def cM(T:Txt K mg a):aT P w K mg base dR 2 a.eE.x a.eE.d ["_law_script","_law_k","_law_salt"] (FW K):=by
 refine T.eE.ok ka λi A outer s H u Q E j h=>?_
 ·obtain⟨p,ns,k,m,rfl,e,l,⟨o,v⟩,⟨y,z⟩,q⟩:=h;refine⟨_,(ai (bj 3 ka.nd (pc T.jm (rj T) j (ae (Y 0) (ae (Y 1) af)))) (ai (bj 4 ka.nd (az bu (Y 1) (aA (CD rfl) (by rfl) T.KM L2.Fk (ae ah (ae (aA (aJ K rfl) (by rfl) T.bF L2.aL (ae (Y 0) af)) af))))) (ai (bj 5 ka.nd (az bR (az bR (az bR (az DY (Y 3) ah) (az gL (az gL ah (Y 1)) (Y 1))) (az gL (az gL ah (Y 2)) (Y 2))) ah)) (ai (bj 5 ka.nd (az aV (az gL (Y 5) ah) ah)) (aj (aB (az DY (az bR (az IY (Y 3) (az gL ah (az bR (Y 2) (az gL ah (Y 4))))) (az aV (az gL (Y 5) (Y 5)) ah)) ah))))))),?_⟩
  unfold cS D7 KU at q;refine U rfl (U rfl ⟨p,ns,k,rfl,e,l,?_⟩);generalize wx ns k=c at q⊢;have hn:∃n:Int,n=(if(ns.length:Int)>1 then(ns.length:Int)else 1)/\0<n/\n<1073741824:=(U rfl ⟨by split<;>lia,by split<;>lia⟩);obtain⟨n,f,n0,n1⟩:=hn;rw[<-f]at q;refine U rfl (U rfl ⟨_,ns.length,rfl,.inl ⟨_,e,by simp⟩,_,U rfl ⟨_,n,rfl,by rw[f],⟨n0,n1⟩,?_⟩⟩);have r:0<=k/n:=Int.ediv_nonneg o (by exact NS n0)
  try dsimp only
  generalize k/n=t at r q⊢;refine U rfl (r2 (U rfl (r2 ⟨.inl ⟨by decide,by decide⟩,U rfl (r2 ⟨.inr ⟨by lia,by lia⟩,_,U rfl ⟨rfl,U rfl (r2 ⟨.inl ⟨by decide,by decide⟩,U rfl (r2 ⟨.inr ⟨by lia,by lia⟩,_,U rfl ⟨rfl,r2 ?_⟩⟩)⟩)⟩⟩)⟩)));refine U rfl (r2 ⟨.inr ⟨by decide,by decide⟩,_,U rfl ⟨rfl,(by show(0:Int)<_;first|decide|lia),?_⟩⟩);have b:=bJ ((Builtin.bitAnd c 2147483647+1009*k*k+7919*m*m+12)*48271) (show(0:Int)<2147483647 by decide)
  try dsimp only
  generalize(Builtin.bitAnd c 2147483647+1009*k*k+7919*m*m+12)*48271%2147483647=g at b q⊢;refine U rfl (U rfl (U rfl (r2 ⟨.inl ⟨by decide,by decide⟩,_,U rfl ⟨rfl,r2 ⟨.inl ⟨by decide,by decide⟩,_,U rfl ⟨rfl,(by show(0:Int)<=_;lia),U rfl (U rfl (r2 ⟨.inl ⟨by lia,by lia⟩,_,U rfl ⟨rfl,(by show(0:Int)<_;first|decide|lia),_,U rfl ⟨rfl,r2 ?_⟩⟩⟩))⟩⟩⟩⟩)))
  try dsimp only
  rw[Jh];exact q
def Ci(T:Txt K mg a)(s:Shared)(u:Value):BindsTo s a.law.d ⟨[u],[]⟩ [("_law_script",u)]:=by obtain⟨oc,i,kV,b,pm,j,c,ct,g,e,lk,h⟩:=T.law.f.ex;rw[e];exact .of_eq rfl
def Ch{p:Addr}{ns:Ol}(c:ns.length<=63)(d:aY K H p (ns.map V.int)):Dl K [.ref p] H (λv _=>v=.bl true) λ_ _ _=>False:=⟨p,ns,rfl,d,c,λ_=>rfl⟩
end
section
variable{j g:Type}{F G:j->g->Prop}{a c:List j}{b d:List g}
def Paired.mapM(h:Paired F a b)(f:∀x∈a,∀y,F x y->G x y):Paired G a b:=by induction h with|nil=>exact .nil|cons h _ e=>exact .cons (f _ m_ _ h) (e λx m=>f x (lm _ m))
def Paired.ex(h:Paired F a b):∀x∈a,∃y,F x y:=by induction h with|nil=>exactλx e=>(nomatch e)|cons h _ f=>
  intro x e;rcases tA.mp e with rfl|m
  ·exact⟨_,h⟩
  ·exact f x m
def Paired.at_(h:Paired F a b):∀(i:Nat)(x:j),a[i]?=some x->∃y,b[i]?=some y/\F x y:=by induction h with|nil=>exactλi x e=>(nomatch e)|cons h _ f=>intro i x e;cases i with|zero=>obtain rfl:=nB e;exact⟨_,rfl,h⟩|succ i=>exact f i x e
def qw(h:Paired F a b):∀(i:Nat)(y:g),b[i]?=some y->∃x,a[i]?=some x/\F x y:=by induction h with|nil=>exactλi x e=>(nomatch e)|cons h _ f=>intro i x e;cases i with|zero=>obtain rfl:=nB e;exact⟨_,rfl,h⟩|succ i=>exact f i x e
def DQ(h:Paired F a b)(k:Paired F c d):Paired F (a++c) (b++d):=by induction h with|nil=>exact k|cons h _ e=>exact .cons h e
end
inductive Ru where|any|has(w:Str)|least(w:Str)(n:Int)|not(q:Ru)|both(q r:Ru)|either(q r:Ru)
def Ru.hgt:Ru->Nat|.any=>1|.has _=>1|.least _ _=>1|.not q=>q.hgt+1|.both q r=>max q.hgt r.hgt+1|.either q r=>max q.hgt r.hgt+1
def Ru.hgt_pos:∀r:Ru,0<r.hgt|.any=>Nat.one_pos|.has _=>Nat.one_pos|.least _ _=>Nat.one_pos|.not _=>rV _|.both _ _=>rV _|.either _ _=>rV _
def K7(w:Str)(m:Str×Int):Bool:=decide (V.str m.1=V.str w)
def gN(w:Str)(n:Int)(m:Str×Int):Bool:=if decide (V.str m.1=V.str w)=true then decide (n<=m.2)else false
def Ru.sat(c:List (Str×Int)):Ru->Bool|.any=>true|.has w=>(c.map (K7 w)).any id|.least w n=>(c.map (gN w n)).any id|.not q=>!q.sat c|.both q r=>if q.sat c=true then r.sat c else false|.either q r=>if q.sat c=true then true else r.sat c
inductive fC(K:N_)(H:Hp):Ru->V->Prop|any{a:Addr}:aS K H a [.str "any"]->fC K H .any (.ref a)|has{a:Addr}{w:Str}:aS K H a [.str "has",.str w]->fC K H (.has w) (.ref a)|least{a:Addr}{w:Str}{n:Int}:aS K H a [.str "least",.str w,.int n]->fC K H (.least w n) (.ref a)|not{a:Addr}{q:Ru}{v:V}:aS K H a [.str "not",v]->fC K H q v->fC K H (.not q) (.ref a)|both{a:Addr}{q r:Ru}{v u:V}:aS K H a [.str "both",v,u]->fC K H q v->fC K H r u->fC K H (.both q r) (.ref a)|either{a:Addr}{q r:Ru}{v u:V}:aS K H a [.str "either",v,u]->fC K H q v->fC K H r u->fC K H (.either q r) (.ref a)
def JJ(H H':Hp):Prop:=∀u b,H u=some (.tup b)->H' u=some (.tup b)
def JJ.sq{a:Addr}{d:List V}(e:JJ H H')(f:∀u o,(∃c,H u=some (.frz c o))->∃c,H' u=some (.frz c o))(h:aS K H a d):aS K H' a d:=by
 rcases h with h|h
 ·rcases h with h|h
  ·exact .inl (.inl (e _ _ h))
  ·exact .inl (.inr (f _ _ h))
 ·exact .inr h
structure Kp(H H':Hp):Prop where
 tp:JJ H H'
 fz:∀u o,(∃o',H u=some (.frz o' o))->∃o',H' u=some (.frz o' o)
def Kp.trans(a:Kp H d)(b:Kp d e):Kp H e:=⟨λu c h=>b.tp u c (a.tp u c h),λu o h=>b.fz u o (a.fz u o h)⟩
def Kp.of(h:aq H H'):Kp H H':=⟨λu c e=>h u _ e,λu o⟨b,e⟩=>⟨b,h u _ e⟩⟩
theorem Kp.lst{a:Addr}{o:HO}{d:List V}(c:H a=some (.lst d)):Kp H (aI H a o):=⟨λu f h=>by rw[au (λe=>by rw[e,c]at h;cases h)];exact h,λu o⟨b,h⟩=>⟨b,by rw[au (λe=>by rw[e,c]at h;cases h)];exact h⟩⟩
def Kp.new{a:Addr}{o:HO}(hn:H a=none):Kp H (aI H a o):=.of (ak (aq.refl H) hn)
def Kp.tq{a:Addr}{c:List V}(e:Kp H H')(h:aS K H a c):aS K H' a c:=e.tp.sq e.fz h
def fC.kp(e:Kp H H')(h:fC K H r v):fC K H' r v:=by induction h with|any h=>exact .any (e.tq h)|has h=>exact .has (e.tq h)|least h=>exact .least (e.tq h)|not h _ q=>exact .not (e.tq h) q|both h _ _ q r=>exact .both (e.tq h) q r|either h _ _ q r=>exact .either (e.tq h) q r
def qS(K:N_)(H:Hp)(d:List (Str×Int))(v:V):Prop:=∃a c,v=.ref a/\aS K H a c/\c.length=d.length/\∀(i:Nat)(m:Str×Int),d[i]?=some m->∃b,c[i]?=some (.ref b)/\aS K H b [.str m.1,.int m.2]
def qS.kp(e:Kp H H')(h:qS K H c v):qS K H' c v:=by obtain⟨a,d,h1,h2,h3,h4⟩:=h;exact⟨a,d,h1,e.tq h2,h3,λi m hm=>let⟨b,f,g⟩:=h4 i m hm;⟨b,f,e.tq g⟩⟩
def sZ{c d:Type}{f:c->d}{l:List c}{i:Nat}{m:c}(h:l[i]?=some m):(l.take (i+1)).map f=(l.take i).map f++[f m]:=by rw[x_,h,me];rfl
inductive jY(ws:Of):Ru->Prop|any:jY ws .any|has{w:Str}:w∈ws->jY ws (.has w)|least{w:Str}{n:Int}:w∈ws->-cJ<=n->n<=cJ->jY ws (.least w n)|not{q:Ru}:jY ws q->jY ws (.not q)|both{q r:Ru}:jY ws q->jY ws r->jY ws (.both q r)|either{q r:Ru}:jY ws q->jY ws r->jY ws (.either q r)
def qm:(100:Int)<=cJ:=by have:=ql;lia
def Ru.subs:Ru->List Ru|.any=>[.any]|.has w=>[.has w]|.least w n=>[.least w n]|.not q=>.not q::q.subs|.both q r=>.both q r::(q.subs++r.subs)|.either q r=>.either q r::(q.subs++r.subs)
def Ru.cnt(r:Ru):Nat:=r.subs.length
def Ru.words:Ru->List Str|.any=>[]|.has w=>[w]|.least w _=>[w]|.not q=>q.words|.both q r=>q.words++r.words|.either q r=>q.words++r.words
def Ru.word1:Ru->Option Str|.has w=>some w|.least w _=>some w|_=>none
theorem Ru.words_subs:∀r:Ru,r.subs.filterMap Ru.word1=r.words|.any=>rfl|.has _=>rfl|.least _ _=>rfl|.not q=>by show(Ru.not q::q.subs).filterMap Ru.word1=q.words;rw[Nb rfl,q.words_subs]|.both q r=>by show(Ru.both q r::(q.subs++r.subs)).filterMap Ru.word1=q.words++r.words;rw[Nb rfl,Me,q.words_subs,r.words_subs]|.either q r=>by show(Ru.either q r::(q.subs++r.subs)).filterMap Ru.word1=q.words++r.words;rw[Nb rfl,Me,q.words_subs,r.words_subs]
def A7{a b:Nat}:2^a+2^b<=2^(max a b+1):=by have h1:2^a<=2^max a b:=Ml (by decide) (Nw _ _);have h2:2^b<=2^max a b:=Ml (by decide) (Nh _ _);rw[Nm];lia
theorem Ru.cnt_lt:∀r:Ru,r.cnt+1<=2^r.hgt|.any=>f_ _|.has _=>f_ _|.least _ _=>f_ _|.not q=>by have h:=q.cnt_lt;show(q.subs.length+1)+1<=2^(q.hgt+1);unfold Ru.cnt at h;rw[Nm];have:=q.hgt_pos;have:2^1<=2^q.hgt:=Ml (by decide) this;lia|.both q r=>by have h1:=q.cnt_lt;have h2:=r.cnt_lt;show((q.subs++r.subs).length+1)+1<=2^(max q.hgt r.hgt+1);unfold Ru.cnt at h1 h2;rw[k_];have:=A7 (a:=q.hgt) (b:=r.hgt);lia|.either q r=>by have h1:=q.cnt_lt;have h2:=r.cnt_lt;show((q.subs++r.subs).length+1)+1<=2^(max q.hgt r.hgt+1);unfold Ru.cnt at h1 h2;rw[k_];have:=A7 (a:=q.hgt) (b:=r.hgt);lia
def Ru.words_le(r:Ru):r.words.length<=r.cnt:=by rw[<-r.words_subs];exact Mw _ _
structure xO(s:Str)(m:Nat)(x:Str):Prop where
 lo:1<=x.length
 hi:x.length<=m
 cs:∀c∈x.cps.toList,c∈s.cps.toList
abbrev pR:Str:="abcdefghijklmnopqrstuvwxyz"
abbrev gy:Str:="abcdefghijklmnopqrstuvwxyz0123456789"
abbrev Wd:Str->Prop:=xO pR 12
abbrev xT:Str->Prop:=xO gy 24
def EA(x:Str):x.cps.toList.length=x.length:=by show x.cps.toList.length=x.cps.size;simp
def DD:List Str:=["ab","ba","b","a","aab","abab","bab","aa","abb","baa","bb","soap"]
def AQ:Nat->Str|0=>""|1=>"soap"|2=>"upperlayer"|_=>"z"
def jr(N:Int):Str:=AQ (N%4).toNat
def CL(N:Int):Int:=N/4%(((jr N).length:Int)+1)
def pS(k:Nat):Str:=⟨#[97+k]⟩
def vJ(i:Nat):Str:=(DD[i]?).getD "a"
def Ei(z:Str)(i:Int)(c:Nat):Str:=Txt.slice z none (some i)++pS c++Txt.slice z (some i) none
def dq(k N:Int):Str:=if N/40%2=1 then vJ ((k+N/80)%12).toNat else Ei (jr N) (CL N) ((k+N/80)%26).toNat
def Hl(x:Str):Bool:=decide (x≠"nothingso")&&decide (1<=x.length)&&decide (x.length<=12)&&x.cps.toList.all λc=>decide (c∈pR.cps.toList)
def CO(h:Hl x=true):Wd x:=by unfold Hl at h;rw[pa,pa,pa]at h;exact⟨ov h.1.1.2,ov h.1.2,λc hc=>ov (N2.mp h.2 c hc)⟩
def Gb:∀i∈List.range 12,Hl (vJ i)=true:=dk rfl
def DA:∀i∈List.range 12,∀j∈List.range 12,vJ i=vJ j->i=j:=dk rfl
def Jg:∀r∈List.range 4,∀i∈List.range 11,∀c∈List.range 26,Hl (Ei (AQ r) (i:Int) c)=true:=dk rfl
def BF(r:Nat):(AQ r).length<=10:=by
 unfold AQ
 split<;>decide+kernel
def vH(N:Int):(jr N).length<=10:=BF _
def Fn(N:Int):0<=CL N/\CL N<((jr N).length:Int)+1:=⟨MA _ (by exact ov rfl),MC _ (by exact t6.mpr (rV _))⟩
def AM(k N:Int):Hl (dq k N)=true:=by
 unfold dq;have b1:=bJ (k+N/80) (show(0:Int)<12 by decide);have b2:=bJ (k+N/80) (show(0:Int)<26 by decide);have b3:=bJ N (show(0:Int)<4 by decide);have b4:=Fn N;have b5:=vH N
 split
 ·exact Gb _ (by rw[yl];lia)
 ·have:=Jg (N%4).toNat (by rw[yl];lia) (CL N).toNat (by rw[yl];lia) ((k+N/80)%26).toNat (by rw[yl];lia);rw[show(((CL N).toNat:Nat):Int)=CL N by lia]at this;exact this
def sU(k N:Int):Wd (dq k N):=CO (AM k N)
def CS(k N:Int):dq k N≠"nothingso":=by have h:=AM k N;unfold Hl at h;rw[pa,pa,pa]at h;exact ov h.1.1.1
def Gz(h:Ei z i c=Ei z i d):c=d:=by have h:((Txt.slice z none (some i)).cps++#[97+c]++(Txt.slice z (some i) none).cps)=((Txt.slice z none (some i)).cps++#[97+d]++(Txt.slice z (some i) none).cps):=w_ Str.cps h;have h2:=w_ Array.toList h;simp at h2;exact h2
def Bd{i j a m:Int}(hi:0<=i/\i<m)(c:0<=j/\j<m)(h:((i+a)%m).toNat=((j+a)%m).toNat):i=j:=by
 have p:=λx=>MA x (Int.ne_of_gt (Int.lt_of_le_of_lt hi.1 hi.2));have e:(i+a)%m=(j+a)%m:=by rw[<-E_ (p (i+a)),h,E_ (p (j+a))]
 rw[Int.emod_add_cancel_right,NT hi.1 hi.2,NT c.1 c.2]at e;exact e
def qj(hi:0<=i/\i<12)(c:0<=j/\j<12)(h:dq i N=dq j N):i=j:=by
 unfold dq at h
 split at h
 ·exact Bd hi c (DA _ (by rw[yl];omega) _ (by rw[yl];omega) h)
 ·exact Bd (m:=26) ⟨hi.1,Int.lt_trans hi.2 (by decide)⟩ ⟨c.1,Int.lt_trans c.2 (by decide)⟩ (Gz h)
def Ez:∀c∈List.range 26,vq ("abcdefghijklmnopqrstuvwxyz":Str).cps.toList (c:Int)=some (97+c):=dk rfl
def C4:vq [V.str "",V.str "soap",V.str "upperlayer",V.str "z"] (N%4)=some (V.str (jr N)):=by have h1:0<=N%4:=MA _ (by decide);have h2:N%4<4:=MC _ (by decide);unfold jr;rcases(by lia:N%4=0\/N%4=1\/N%4=2\/N%4=3)with e|e|e|e<;>rw[e]<;>rfl
def DB:∀i∈List.range 12,vq (DD.map V.str) (i:Int)=some (V.str (vJ i)):=dk rfl
inductive FK(vs:List V)(H:Hp)(Q:VK)(_E:XK):Prop|mk(k N:Int)(_:vs=[.int k,.int N])(_:∀H',aq H H'->Q (.str (dq k N)) H')
local macro_rules|`(tactic|walk_at "a")=>`(tactic|(repeat(first|refine U rfl ?_|refine r2 ?_|refine⟨(rfl:fG _ _=true),?_⟩|refine⟨(show fE _ _ from cd rfl),?_⟩|refine⟨(show(0:Int)<_ by first|decide|lia),?_⟩|refine⟨(rfl:V.int 10=V.int 10),rfl,?_⟩)))
section
def uq(T:Txt K mg a):aT P w K mg base dR 1 a.rQ.x a.rQ.d ["_law_k","_law_number"] FK:=by
 refine T.rQ.ok pd λr A outer s H z Q E B h=>?_
 ·obtain⟨k,N,rfl,q⟩:=h;refine⟨_,(ai (aM (aE aU (az aV (az bu (Y 1) ah) ah) ah (aG _)) (ai (bj 2 pd.nd (bh (ae ay (ae ay (ae ay (ae ay (ae ay (ae ay (ae ay (ae ay (ae ay (ae ay (ae ay (ae ay af)))))))))))))) (aj (aB (gG K (Y 2) (az aV (az bR (Y 0) (az bu (Y 1) ah)) ah))))) aF) (ai (bj 3 pd.nd (gG K (bh (ae ay (ae ay (ae ay (ae ay af))))) (az aV (Y 1) ah))) (ai (bj 4 pd.nd (az aV (az bu (Y 1) ah) (az bR (aA (aJ K rfl) (by rfl) T.bF L2.aL (ae (Y 3) af)) ah))) (aj (aB (az jd (az jd (gr wN (Y 3) iM (iL (Y 4))) (yr Ah ay (az aV (az bR (Y 0) (az bu (Y 1) ah)) ah) (λ_ _=>rfl))) (gr wN (Y 3) (iL (Y 4)) iM))))))),?_⟩
  have b1:=bJ (k+N/80) (show(0:Int)<12 by decide);have b2:=bJ (k+N/80) (show(0:Int)<26 by decide);have c:=vH N
  walk_at "a"
  refine kN (λg=>?_) (λg=>?_)
  ·have i:dq k N=vJ ((k+N/80)%12).toNat:=mo g;refine⟨ls rfl,λl j=>?_⟩
   walk_at "a"
   have e:=DB ((k+N/80)%12).toNat (by rw[yl];lia);rw[show((((k+N/80)%12).toNat:Nat):Int)=(k+N/80)%12 by lia]at e;refine⟨l,_,_,U rfl ⟨rfl,aY.of ag,e,?_⟩⟩;rw[<-i];exact q _ (ak (aq.refl H) j)
  ·have i:dq k N=Ei (jr N) (CL N) ((k+N/80)%26).toNat:=l_ g;refine⟨ls rfl,λl j=>?_⟩;have p:=ak (o:=.lst [V.str "",V.str "soap",V.str "upperlayer",V.str "z"]) (aq.refl H) j;have f:aI H l (.lst [V.str "",V.str "soap",V.str "upperlayer",V.str "z"]) l=some (.lst [V.str "",V.str "soap",V.str "upperlayer",V.str "z"]):=ag;generalize aI H l (.lst [V.str "",V.str "soap",V.str "upperlayer",V.str "z"])=C at p f⊢
   walk_at "a"
   refine⟨l,_,_,U rfl ⟨rfl,aY.of f,C4,av ?_⟩⟩;have t:=Fn N;have u:=Txt.slice_le (jr N) none (some (CL N));have v:=Txt.slice_le (jr N) (some (CL N)) none
   walk_at "a"
   refine⟨_,(jr N).length,rfl,⟨cH (by exact n7 c (ov rfl)),rfl⟩,_,U rfl ⟨rfl,r2 ⟨(by show(0:Int)<_;exact t6.mpr (rV _)),av ?_⟩⟩⟩;have m:∀a b:Str,(a++b).length=a.length+b.length:=λa b=>by show(a.cps++b.cps).size=a.cps.size+b.cps.size;exact Array.size_append
   have y:(pS ((k+N/80)%26).toNat).length=1:=rfl;have e:=Ez ((k+N/80)%26).toNat (by rw[yl];lia);rw[show((((k+N/80)%26).toNat:Nat):Int)=(k+N/80)%26 by lia]at e;refine U rfl (U rfl ⟨CL N,rfl,jr N,rfl,cH (by exact n7 c (ov rfl)),?_⟩)
   walk_at "a"
   refine⟨"abcdefghijklmnopqrstuvwxyz",_,97+((k+N/80)%26).toNat,rfl,rfl,cH (dk rfl),e,_,pS ((k+N/80)%26).toNat,rfl,rfl,cH (by lia),U rfl (U rfl ⟨CL N,rfl,jr N,rfl,cH (by lia),_,U rfl ⟨rfl,cH (by rw[m];lia),?_⟩⟩)⟩;have n:Txt.slice (jr N) none (some (CL N))++pS ((k+N/80)%26).toNat++Txt.slice (jr N) (some (CL N)) none=dq k N:=by rw[i];rfl
   rw[n];exact q _ p
end
inductive FL(K:N_)(vs:List V)(H:Hp)(Q:VK)(_E:XK):Prop|mk(z:_)(_:vs=[.int z])(_:Q (.bl true) H)
def pG(s:Str)(m:Nat)(x:Str):Bool:=decide (1<=x.length)&&(decide (x.length<=m)&&x.cps.toList.all λc=>decide (c∈s.cps.toList))
def xO.b{s:Str}{m:Nat}{x:Str}(h:xO s m x):pG s m x=true:=by unfold pG;rw[ol h.lo,ol h.hi];exact N2.mpr λc hc=>ol (h.cs c hc)
def HI(K:N_)(H:Hp)(v:V):Prop:=∃T,kW K H v (.type T)/\PySem.W.kitOne K (.type T) (.type "str")=some false
def LX(K:N_)(H:Hp)(v:V):Prop:=HI K H v\/∃x:Str,v=.str x/\x.length<=60/\pG pR 12 x=false
inductive Dc(K:N_)(vs:List V)(H:Hp)(Q:VK)(_E:XK):Prop|mk(v:V)(s:Str)(m:Nat)(_:vs=[v,.str s,.int m])(_:((∃x:Str,v=.str x/\x.length<=60/\∀H',aq H H'->Q (.bl (pG s m x)) H')\/(HI K H v/\Q (.bl false) H)))
inductive LF(K:N_)(vs:List V)(H:Hp)(Q:VK)(_E:XK):Prop|mk(v:V)(_:vs=[v])(_:((∃x,v=.str x/\Wd x/\∀H',aq H H'->Q (.bl true) H')\/(LX K H v/\∀H',aq H H'->Q (.bl false) H')))
inductive Kr(vs:List V)(H:Hp)(Q:VK)(_E:XK):Prop|mk(x:_)(_:vs=[.str x])(_:xT x)(_:∀H',aq H H'->Q (.bl true) H')
inductive Kq(vs:List V)(H:Hp)(Q:VK)(_E:XK):Prop|mk(z:_)(_:vs=[.int z])(_:(-cJ<=z/\z<=cJ))(_:Q (.bl true) H)
inductive F4(vs:List V)(H:Hp)(Q:VK)(_E:XK):Prop|mk(z:_)(_:vs=[.int z])(_:0<=z)(_:Q (.bl true) H)
inductive C7(vs:List V)(H:Hp)(Q:VK)(_E:XK):Prop|mk(z:_)(_:vs=[.int z])(_:(1<=z/\z<=cJ))(_:Q (.bl true) H)
def iK{Q:VK}{p:Prop}[Decidable p]{H:Hp}(h:p)(q:Q (.bl true) H):Q (.bl (decide p)) H:=by rw[ol h];exact q
section
def io(T:Txt K mg a):aT P w K mg base dR 1 a.fN.x a.fN.d ["thing"] (FL K):=by
 refine T.fN.ok ye λb A outer s H c Q E e h=>?_
 ·obtain⟨z,rfl,k⟩:=h;refine⟨_,(aj (aB (cp (aA (nj K rfl) (by rfl) T.bW L2.bp (ae (Y 0) (ae (lG rfl T.KN L2.Fl) af))) (c8 (DT (aA (nj K rfl) (by rfl) T.bW L2.bp (ae (Y 0) (ae (lG rfl T.Jf L2.CK) af)))))))),?_⟩;refine U rfl ⟨_,"int",_,true,rfl,.int z,fJ (dk rfl),true,rfl,bo ?_⟩;exact U rfl ⟨_,"bool",_,false,rfl,.int z,fJ (dk rfl),false,rfl,k⟩
def jT(T:Txt K mg a):aT P w K mg base dR 1 a.fe.x a.fe.d ["thing","signs","longest"] (Dc K):=by
 refine T.fe.ok u4 λf A outer s H l Q E n h=>?_
 ·obtain⟨v,g,m,rfl,h⟩:=h;refine⟨_,(ai (aM (cf (aQ K rfl (aA (nj K rfl) (by rfl) T.bW L2.bp (ae (Y 0) (ae (lG rfl T.Hw L2.zm) af))) (λ_=>rfl))) (aj (aB gu)) aF) (aj (aB (cp (ua jD jD ah (aA (aJ K rfl) (by rfl) T.bF L2.aL (ae (Y 0) af)) (Y 2)) (c8 (aA (iW K rfl rfl) (by rfl) T.vW L2.kS (ae (sQ lA ["sign"] [] [3] (ao kZ) (bY 3) (DS (Y 0)) (λcl C s₀ H₀ ex=>⟨(nA lA ["sign"] 3),ck,(bB BZ (Y 3) (Y 1) (by with_unfolding_all rfl))⟩)) af))))))),?_⟩
  rcases h with⟨x,rfl,o,q⟩|⟨⟨p,ty,j⟩,q⟩
  ·refine U rfl ⟨_,"str",_,true,rfl,.str x,fJ (dk rfl),true,rfl,bX ?_⟩;refine U rfl ⟨_,x.length,rfl,⟨by rw[nk];lia,rfl⟩,_,U rfl ⟨rfl,U rfl ?_⟩⟩;unfold pG at q;refine lO (λh1=>?_) (λh1=>?_)
   ·rw[ol (show 1<=x.length by exact NR.mp h1),Bool.true_and]at q;refine U rfl (r2 (U rfl ?_));refine lO (λh2=>?_) (λh2=>?_)
    ·rw[ol (show x.length<=m by exact Nq.mp h2),Bool.true_and]at q;refine U rfl ⟨x,rfl,λD k=>?_⟩;have r:=EA x;refine Fc (K:=K) (z:=x) (λi b e=>b=((x.cps.toList.take i).map λc=>decide (c∈g.cps.toList)).map V.bl/\e=aI H D (.lst b)) ⟨rfl,rfl⟩ ?_ ?_
     ·rintro i c b e hc⟨rfl,rfl⟩;have hi:i<x.cps.toList.length:=(d_.mp hc).1;refine av (iZ (bo ?_));refine U rfl (U rfl ⟨_,U rfl ⟨rfl,ag,?_,lf hi ⟨?_,?_⟩⟩⟩)
      ·rw[b_,b_,o8,nk];lia
      ·rw[StrLaws.found_one,x_,hc,me,me];rfl
      ·rw[gZ]
     ·rintro b e⟨rfl,rfl⟩;refine⟨D,_,rfl,aY.of ag,?_⟩;rw[oD (f_ _),List.all_map];exact q _ (ak (aq.refl _) k)
    ·rw[op (show¬x.length<=m by lia),Bool.false_and]at q;exact q H (aq.refl H)
   ·rw[op (show¬1<=x.length by lia),Bool.false_and]at q;exact U rfl (bX (q H (aq.refl H)))
  ·exact U rfl ⟨_,"str",_,false,rfl,ty,j,false,rfl,bo q⟩
def gM(T:Txt K mg a):aT P w K mg base dR 2 a.eu.x a.eu.d ["thing"] (LF K):=by
 refine T.eu.ok zF λe A outer s H g Q E f h=>?_
 ·obtain⟨v,rfl,h⟩:=h;refine⟨_,(aj (aB (pc T.fe (jT T) f (ae (Y 0) (ae (cn T.CJ rfl) (ae (cn T.uI rfl) af)))))),?_⟩;refine U rfl ⟨v,_,12,rfl,?_⟩;rcases h with⟨x,rfl,c,q⟩|⟨h|⟨x,rfl,h1,h2⟩,q⟩
  ·exact .inl ⟨x,rfl,by have:=c.hi;exact n7 this (ov rfl),by rw[c.b];exact q⟩
  ·exact .inr ⟨h,q H (aq.refl H)⟩
  ·exact .inl ⟨x,rfl,h1,by rw[h2];exact q⟩
def yD(T:Txt K mg a):aT P w K mg base dR 2 a.fO.x a.fO.d ["thing"] Kr:=by
 refine T.fO.ok q8 λe A outer s H g Q E f h=>?_
 ·obtain⟨x,rfl,c,q⟩:=h;refine⟨_,(aj (aB (pc T.fe (jT T) f (ae (Y 0) (ae (cn T.jX rfl) (ae (cn T.lL rfl) af)))))),?_⟩;exact U rfl ⟨.str x,_,24,rfl,.inl ⟨x,rfl,by have:=c.hi;exact n7 this (ov rfl),by rw[c.b];exact q⟩⟩
def pH(T:Txt K mg a):aT P w K mg base dR 2 a.fA.x a.fA.d ["thing"] Kq:=by
 refine T.fA.ok wQ λb A outer s H e Q E c h=>?_
 ·obtain⟨z,rfl,⟨h1,h2⟩,q⟩:=h;refine⟨_,(aj (aB (cp (pc T.fN (io T) c (ae (Y 0) af)) (c8 (ua jD jD (Hv CT (az ub ah ah)) (Y 0) (az ub ah ah)))))),?_⟩;refine U rfl ⟨z,rfl,U rfl (bo ?_)⟩
  walk_at "a"
  refine lO (λ_=>?_) (λh=>absurd h1 h)
  walk_at "a"
  exact iK h2 q
def jE(T:Txt K mg a):aT P w K mg base dR 2 a.dN.x a.dN.d ["thing"] F4:=by
 refine T.dN.ok q9 λb A outer s H e Q E c h=>?_
 ·obtain⟨z,rfl,h1,q⟩:=h;refine⟨_,(aj (aB (cp (pc T.fN (io T) c (ae (Y 0) af)) (c8 (bB DX (Y 0) ah (aG _)))))),?_⟩;refine U rfl ⟨z,rfl,U rfl (bo ?_)⟩
  walk_at "a"
  exact iK h1 q
def wV(T:Txt K mg a):aT P w K mg base dR 2 a.iU.x a.iU.d ["thing"] C7:=by
 refine T.iU.ok wP λb A outer s H e Q E c h=>?_
 ·obtain⟨z,rfl,⟨h1,h2⟩,q⟩:=h;refine⟨_,(aj (aB (cp (pc T.fN (io T) c (ae (Y 0) af)) (c8 (ua jD jD ah (Y 0) (az ub ah ah)))))),?_⟩;refine U rfl ⟨z,rfl,U rfl (bo ?_)⟩
  walk_at "a"
  refine lO (λ_=>?_) (λh=>absurd h1 h)
  walk_at "a"
  exact iK h2 q
end
inductive Iu(K:N_)(vs:List V)(H:Hp)(Q:VK)(_E:XK):Prop|mk(b:Addr)(m:Str×Int)(_:vs=[.ref b])(_:aS K H b [.str m.1,.int m.2])(_:Wd m.1)(_:(-cJ<=m.2/\m.2<=cJ))(_:∀H',aq H H'->Q (.bl true) H')
def rP(K:N_)(H:Hp)(v:V):Prop:=∃T,kW K H v (.type T)/\PySem.W.kitOne K (.type T) (.type "tuple")=some false
inductive FX(K:N_)(vs:List V)(H:Hp)(Q:VK)(_E:XK):Prop|mk(v:V)(_:vs=[v])(_:((rP K H v/\Q (.bl false) H)\/∃l:List (Str×Int),qS K H l v/\(∀m∈l,Wd m.1/\-cJ<=m.2/\m.2<=cJ)/\l.length<=8/\∀H',aq H H'->Q (.bl (decide (l.map Prod.fst).Nodup)) H'))
inductive Dp(K:N_)(vs:List V)(H:Hp)(Q:VK)(_E:XK):Prop|mk(p:Addr)(n:Nat)(_:vs=[.ref p,.int n])(_:((∃us,aS K H p us/\us.length≠n/\us.length<=100/\Q (.bl false) H)\/∃l:List Int,n=l.length/\aS K H p (l.map V.int)/\(∀i∈l,0<=i)/\l.length<=100/\∀H',aq H H'->Q (.bl true) H'))
inductive BH(K:N_)(vs:List V)(H:Hp)(Q:VK)(_E:XK):Prop|mk(p:Addr)(l:Ol)(_:vs=[.ref p,.int (l.length:Nat)])(_:aS K H p (l.map V.int))(_:(∀i∈l,1<=i/\i<=cJ))(_:l.length<=100)(_:∀H',aq H H'->Q (.bl true) H')
inductive ID(K:N_)(vs:List V)(H:Hp)(Q:VK)(_E:XK):Prop|mk(p:Addr)(l:Of)(_:vs=[.ref p])(_:aS K H p (l.map V.str))(_:(∀w∈l,Wd w))(_:1<=l.length)(_:l.length<=4)(_:∀H',aq H H'->Q (.bl (decide l.Nodup)) H')
def i0(i:Nat):(List.replicate i true).map V.bl++[V.bl true]=(List.replicate (i+1) true).map V.bl:=by rw[List.replicate_succ',me];rfl
def j7(n:Nat):(List.replicate n true).all id=true:=by simp
def j6(i:Nat)(h:i<=1000):((List.replicate i true).map V.bl).length<sizeLine:=by rw[b_,Md,nk];exact sg h (ov rfl)
def xh{c d:Type}{f:c->d}{l:List c}{i:Nat}{v:d}(h:(l.map f)[i]?=some v):∃x,l[i]?=some x/\v=f x/\x∈l:=by rw[i_]at h;cases e:l[i]?with|none=>rw[e]at h;cases h|some x=>rw[e]at h;cases h;exact⟨x,rfl,rfl,g_ e⟩
def wa(l:Of):(l.map (Sum.inr:Str->bQ)).map kV=l.map V.str:=by rw[A_];rfl
def Bk(l:Of):(dd (l.map (Sum.inr:Str->bQ))).length<=l.length:=by have k:=ni (l.map (Sum.inr:Str->bQ)) [];rw[b_,Nz,Nat.zero_add]at k;exact k
def yW(l:Of){n:Nat}(e:n=l.length):decide (V.int ((dd (l.map (Sum.inr:Str->bQ))).length:Nat)=V.int (n:Nat))=decide l.Nodup:=by have h:=Jz (l.map (Sum.inr:Str->bQ));rw[b_]at h;refine decide_eq_decide.mpr ⟨λz=>(List.pairwise_map.mp (h.mp (by have:=V.int.inj z;lia))).imp λh e=>h (by rw[e]),λz=>?_⟩;rw[h.mpr (z.map _ λa b h e=>h (sT e)),e]
section
def zU(T:Txt K mg a):aT P w K mg base dR 3 a.m9.x a.m9.d ["thing"] (Iu K):=by
 refine T.m9.ok zI λg A outer s H j Q E e h=>?_
 ·obtain⟨b,m,rfl,c,h1,h2,q⟩:=h;refine⟨_,(aj (aB (cp (aA (fm K rfl) (by rfl) T.bW L2.bp (ae (Y 0) (ae (lG rfl T.dJ L2.bP) af))) (cp (bB aU (aA (aJ K rfl) (by rfl) T.bF L2.aL (ae (Y 0) af)) ah (aG _)) (cp (pc T.eu (gM T) e (ae (cQ K (Y 0) ah) af)) (c8 (pc T.fA (pH T) e (ae (cQ K (Y 0) ah) af)))))))),?_⟩;refine U rfl ⟨_,"tuple",_,true,rfl,.inr ⟨b,U rfl ⟨c,rfl⟩⟩,fJ (dk rfl),true,rfl,bo ?_⟩;refine U rfl ⟨_,2,rfl,.inr ⟨_,c,rfl⟩,rfl,U rfl (bo ?_)⟩;refine U rfl (rX c rfl ⟨V.str m.1,rfl,.inl ⟨m.1,rfl,h1,λi f=>(U rfl (bo ?_))⟩⟩);exact U rfl (rX (aq.tseq f c) rfl ⟨m.2,rfl,h2,q i f⟩)
def wZ(T:Txt K mg a):aT P w K mg base dR 4 a.iX.x a.iX.d ["thing"] (FX K):=by
 refine T.iX.ok wS λS A outer s H g Q E W h=>?_
 ·obtain⟨v,rfl,h⟩:=h;refine⟨_,(ai (aM (PW.pt (fb (cf (aQ K rfl (aA (fm K rfl) (by rfl) T.bW L2.bp (ae (Y 0) (ae (lG rfl T.dJ L2.bP) af))) (λ_=>rfl))) (dL (aE nR (aA (aJ K rfl) (by rfl) T.bF L2.aL (ae (Y 0) af)) (cn T.xD rfl) (aG _))))) (aj (aB gu)) aF) (ai (aM (cf (aQ K rfl (aA (iW K rfl rfl) (by rfl) T.vW L2.kS (ae (sQ ["thing"] ["mark"] [] [1] (ao jy) (bY 1) (ie K rfl (Y 0)) (λcl C s₀ H₀ ex=>⟨(nA ["thing"] ["mark"] 1),ck,(pc T.m9 (zU T) W (ae (Y 1) af))⟩)) af)) (λ_=>rfl))) (aj (aB gu)) aF) (aj (aB (bB aU (aA (uH (P:=P) (w:=w)) (by rfl) T.bF L2.aL (ae (cZ (uG (P:=P) (w:=w) K rfl rfl) (by rfl) T.D8 L2.uK (ae (sQ ["thing"] ["mark"] [] [1] (ao jy) (bY 1) (ie K rfl (Y 0)) (λcl C s₀ H₀ ex=>⟨(nA ["thing"] ["mark"] 1),ck,(cQ K (Y 1) ah)⟩)) af)) af)) (aA (aJ K rfl) (by rfl) T.bF L2.aL (ae (Y 0) af)) (aG _)))))),?_⟩
  rcases h with⟨⟨T1,ty,X⟩,q⟩|⟨l,⟨p,g,rfl,j,u,y⟩,h1,h3,q⟩
  ·exact U rfl ⟨_,"tuple",_,false,rfl,.inl ty,X,false,rfl,bo q⟩
  refine U rfl ⟨_,"tuple",_,true,rfl,.inr ⟨p,U rfl ⟨j,rfl⟩⟩,fJ (dk rfl),true,rfl,bX ?_⟩;refine U rfl ⟨_,g.length,rfl,.inr ⟨_,j,rfl⟩,_,U rfl ⟨rfl,U rfl (lO (λh=>absurd h (by lia)) (λ_=>?_))⟩⟩;refine U rfl ⟨p,rfl,⟨_,j⟩,λD L=>?_⟩;refine gC (K:=K) (a:=p) (xs:=g) (λi c H'=>c=(List.replicate i true).map V.bl/\aq H H'/\H' D=some (.lst c)) ⟨rfl,ak (aq.refl _) L,ag⟩ (λi c H' _ h=>aq.tseq h.2.1 j) ?_ ?_
  ·rintro i v c M k⟨rfl,n,r⟩;have hi:i<g.length:=(d_.mp k).1;have e:l[i]?=some (l[i]'(by lia)):=h_ (by lia);generalize l[i]'(by lia)=m at e;obtain⟨b,B,F⟩:=y i m e;rw[B]at k;cases k;have hm:=h1 m (g_ e);refine av (iZ (bo (U rfl ⟨b,m,rfl,aq.tseq n F,hm.1,hm.2,λG t=>⟨t _ _ r,j6 i (by lia),lf hi ⟨i0 i,bv (n.trans t) L,ag⟩⟩⟩)))
  ·rintro c M⟨rfl,n,r⟩;refine⟨D,_,rfl,aY.of r,_,rfl,?_⟩;rw[j7];refine bX (U rfl ⟨p,rfl,⟨_,aq.tseq n j⟩,λN z=>?_⟩);refine gC (K:=K) (a:=p) (xs:=g) (λi c H'=>c=((l.take i).map Prod.fst).map V.str/\aq M H'/\H' N=some (.lst c)) ⟨by rw[Mm];rfl,ak (aq.refl _) z,ag⟩ (λi c H' _ h=>aq.tseq (n.trans h.2.1) j) ?_ ?_
   ·rintro i v c G k⟨rfl,t,f⟩;have hi:i<g.length:=(d_.mp k).1;have e:l[i]?=some (l[i]'(by lia)):=h_ (by lia);generalize l[i]'(by lia)=m at e;obtain⟨b,B,F⟩:=y i m e;rw[B]at k;cases k;refine av (iZ (bo (U rfl (rX (aq.tseq (n.trans t) F) rfl ⟨f,?_,lf hi ⟨?_,bv t z,ag⟩⟩))))
    ·rw[b_,b_,o8,nk];lia
    ·rw[sZ e,me];rfl
   ·rintro c G⟨rfl,t,f⟩;rw[oD (by exact Mt u.symm),<-wa]at f;have I:=Bk (l.map Prod.fst);rw[b_]at I;refine⟨N,(l.map Prod.fst).map Sum.inr,rfl,aY.of f,by rw[b_,b_];exact sg h3 (ov rfl),λO J=>?_⟩;refine⟨O,U rfl ⟨ag,by lia,?_⟩⟩;have R:∀o,aq H (aI G O o):=λo=>ak (n.trans t) J;refine U rfl ⟨_,g.length,rfl,.inr ⟨_,aq.tseq (R _) j,rfl⟩,rfl,?_⟩;rw[yW _ (by rw[b_];exact u)];exact q _ (R _)
def vd(T:Txt K mg a):aT P w K mg base dR 3 a.gU.x a.gU.d ["thing","many"] (Dp K):=by
 refine T.gU.ok u9 λm A outer s H y Q E o h=>?_
 ·obtain⟨p,n,rfl,h⟩:=h;refine⟨_,(aj (aB (cp (aA (fm K rfl) (by rfl) T.bW L2.bp (ae (Y 0) (ae (lG rfl T.dJ L2.bP) af))) (cp (bB aU (aA (aJ K rfl) (by rfl) T.bF L2.aL (ae (Y 0) af)) (Y 1) (aG _)) (c8 (aA (iW K rfl rfl) (by rfl) T.vW L2.kS (ae (sQ iQ ["number"] [] [2] (ao k7) (bY 2) (ie K rfl (Y 0)) (λcl C s₀ H₀ ex=>⟨(nA iQ ["number"] 2),ck,(pc T.dN (jE T) o (ae (Y 2) af))⟩)) af))))))),?_⟩
  rcases h with⟨g,c,h1,h2,q⟩|⟨l,rfl,c,h1,h2,q⟩
  ·refine U rfl ⟨_,"tuple",_,true,rfl,.inr ⟨p,U rfl ⟨c,rfl⟩⟩,fJ (dk rfl),true,rfl,bo ?_⟩;refine U rfl ⟨_,g.length,rfl,.inr ⟨_,c,rfl⟩,U rfl ⟨rfl,U rfl ?_⟩⟩;rw[op (show¬V.int (g.length:Nat)=V.int (n:Nat)fromλz=>h1 (by have:=V.int.inj z;omega))];exact bX q
  refine U rfl ⟨_,"tuple",_,true,rfl,.inr ⟨p,U rfl ⟨c,rfl⟩⟩,fJ (dk rfl),true,rfl,bo ?_⟩;refine U rfl ⟨_,l.length,rfl,.inr ⟨_,c,by simp⟩,U rfl ⟨rfl,U rfl ?_⟩⟩;rw[ol rfl];refine bo (U rfl ⟨p,rfl,⟨_,c⟩,λD j=>?_⟩);refine gC (K:=K) (a:=p) (xs:=l.map V.int) (λi b H'=>b=(List.replicate i true).map V.bl/\aq H H'/\H' D=some (.lst b)) ⟨rfl,ak (aq.refl _) j,ag⟩ (λi b H' _ h=>aq.tseq h.2.1 c) ?_ ?_
  ·rintro i v b r k⟨rfl,f,e⟩;have hi:=(d_.mp k).1;obtain⟨z,_,rfl,t⟩:=xh k;have u:i<l.length:=by simpa using hi
   exact av (iZ (bo (U rfl ⟨z,rfl,h1 z t,e,j6 i (by lia),lf hi ⟨i0 i,bv f j,ag⟩⟩)))
  ·rintro b r⟨rfl,f,e⟩;refine⟨D,_,rfl,aY.of e,?_⟩;rw[j7];exact q _ f
def uo(T:Txt K mg a):aT P w K mg base dR 3 a.gh.x a.gh.d ["thing","many"] (BH K):=by
 refine T.gh.ok tN λk A outer s H t Q E m h=>?_
 ·obtain⟨p,l,rfl,e,h1,h2,q⟩:=h;refine⟨_,(aj (aB (cp (aA (fm K rfl) (by rfl) T.bW L2.bp (ae (Y 0) (ae (lG rfl T.dJ L2.bP) af))) (cp (bB aU (aA (aJ K rfl) (by rfl) T.bF L2.aL (ae (Y 0) af)) (Y 1) (aG _)) (c8 (aA (iW K rfl rfl) (by rfl) T.vW L2.kS (ae (sQ og ["number"] [] [2] (ao jR) (bY 2) (ie K rfl (Y 0)) (λcl C s₀ H₀ ex=>⟨(nA iQ ["number"] 2),ck,(pc T.iU (wV T) m (ae (Y 2) af))⟩)) af))))))),?_⟩
  refine U rfl ⟨_,"tuple",_,true,rfl,.inr ⟨p,U rfl ⟨e,rfl⟩⟩,fJ (dk rfl),true,rfl,bo ?_⟩;refine U rfl ⟨_,l.length,rfl,.inr ⟨_,e,by simp⟩,U rfl ⟨rfl,U rfl ?_⟩⟩;rw[ol rfl];refine bo (U rfl ⟨p,rfl,⟨_,e⟩,λD g=>?_⟩);refine gC (K:=K) (a:=p) (xs:=l.map V.int) (λi b H'=>b=(List.replicate i true).map V.bl/\aq H H'/\H' D=some (.lst b)) ⟨rfl,ak (aq.refl _) g,ag⟩ (λi b H' _ h=>aq.tseq h.2.1 e) ?_ ?_
  ·rintro i v b n j⟨rfl,f,c⟩;have hi:=(d_.mp j).1;obtain⟨z,_,rfl,o⟩:=xh j;have r:i<l.length:=by simpa using hi
   exact av (iZ (bo (U rfl ⟨z,rfl,h1 z o,c,j6 i (by lia),lf hi ⟨i0 i,bv f g,ag⟩⟩)))
  ·rintro b n⟨rfl,f,c⟩;refine⟨D,_,rfl,aY.of c,?_⟩;rw[j7];exact q _ f
def yF(T:Txt K mg a):aT P w K mg base dR 3 a.kT.x a.kT.d ["thing"] (ID K):=by
 refine T.kT.ok yh λy A outer s H J Q E B h=>?_
 ·obtain⟨p,l,rfl,e,h1,h3,h4,q⟩:=h;refine⟨_,(ai (aM (PW.pt (fb (cf (aQ K rfl (aA (fm K rfl) (by rfl) T.bW L2.bp (ae (Y 0) (ae (lG rfl T.dJ L2.bP) af))) (λ_=>rfl))) (dL (cf (yo jD jD ah (aA (aJ K rfl) (by rfl) T.bF L2.aL (ae (Y 0) af)) (cn T.zk rfl)))))) (aj (aB gu)) aF) (aj (aB (cp (aA (iW K rfl rfl) (by rfl) T.vW L2.kS (ae (sQ ["thing"] ["arm"] [] [1] (ao oB) (bY 1) (ie K rfl (Y 0)) (λcl C s₀ H₀ ex=>⟨(nA ["thing"] ["arm"] 1),ck,(pc T.eu (gM T) B (ae (Y 1) af))⟩)) af)) (c8 (bB aU (aA (uH (P:=P) (w:=w)) (by rfl) T.bF L2.aL (ae (cZ (Ax (P:=P) (w:=w) K rfl rfl) (by rfl) T.D8 L2.uK (ae (Y 0) af)) af)) (aA (aJ K rfl) (by rfl) T.bF L2.aL (ae (Y 0) af)) (aG _))))))),?_⟩
  refine U rfl ⟨_,"tuple",_,true,rfl,.inr ⟨p,U rfl ⟨e,rfl⟩⟩,fJ (dk rfl),true,rfl,bX ?_⟩;have f:l.length=(l.map V.str).length:=by simp
  refine U rfl ⟨_,l.length,rfl,.inr ⟨_,e,f⟩,_,U rfl ⟨rfl,U rfl (lO (λ_=>?_) (λh=>absurd (by lia) h))⟩⟩;refine r2 (U rfl ?_);show if(!decide ((l.length:Int)<=4))=true then _ else _
  rw[ol (show(l.length:Int)<=4 by exact Nq.mpr h4)];refine bX ?_;refine U rfl ⟨p,rfl,⟨_,e⟩,λD k=>?_⟩;refine gC (K:=K) (a:=p) (xs:=l.map V.str) (λi b H'=>b=(List.replicate i true).map V.bl/\aq H H'/\H' D=some (.lst b)) ⟨rfl,ak (aq.refl _) k,ag⟩ (λi b H' _ h=>aq.tseq h.2.1 e) ?_ ?_
  ·rintro i v b m n⟨rfl,g,c⟩;have hi:=(d_.mp n).1;obtain⟨z,_,rfl,F⟩:=xh n;have G:i<l.length:=by simpa using hi
   exact av (iZ (bo (U rfl ⟨V.str z,rfl,.inl ⟨z,rfl,h1 z F,λM r=>⟨r _ _ c,j6 i (by lia),lf hi ⟨i0 i,bv (g.trans r) k,ag⟩⟩⟩⟩)))
  ·rintro b m⟨rfl,g,c⟩;refine⟨D,_,rfl,aY.of c,_,rfl,?_⟩;rw[j7];have I:=Bk l;refine bo (U rfl ⟨p,l.map Sum.inr,rfl,by rw[wa];exact aq.tseq g e,by rw[b_];exact sg h4 (ov rfl),λt j=>?_⟩);refine⟨t,U rfl ⟨ag,by lia,?_⟩⟩;have u:∀o,aq H (aI m t o):=λo=>ak g j;refine U rfl ⟨_,l.length,rfl,.inr ⟨_,aq.tseq (u _) e,f⟩,rfl,?_⟩;rw[yW l rfl];exact q _ (u _)
end
def mT{A B:Prop}{x y:Str}(h:x≠y)(b:B):if decide (V.str x=V.str y)=true then A else B:=EG (λe=>absurd e h) (λ_=>b)
def be{A B:Prop}{x:Str}(a:A):if decide (V.str x=V.str x)=true then A else B:=EG (λ_=>a) (λh=>absurd rfl h)
def wn{A B:Prop}{x y:Str}(b:B)(h:(x==y)=false:=by first|rfl|(dsimp only[Ru.kind];rfl)):if decide (V.str x=V.str y)=true then A else B:=mT (ne_of_beq_false h) b
abbrev jk(K:N_)(H:Hp):List Ru->List V->Prop:=Paired (fC K H)
theorem jk.kp(e:Kp H H')(h:jk K H c d):jk K H' c d:=Paired.mapP h λ_ _ q=>q.kp e
def jk.app(h:jk K H c d)(k:jk K H e f):jk K H (c++e) (d++f):=DQ h k
def jk.get(h:jk K H c d)(i:Nat)(v:V)(e:d[i]?=some v):∃r,c[i]?=some r/\fC K H r v:=qw h i v e
def Ru.kids:Ru->List Ru|.not q=>[q]|.both q r=>[q,r]|.either q r=>[q,r]|_=>[]
def Ru.kind:Ru->Str|.any=>"any"|.has _=>"has"|.least _ _=>"least"|.not _=>"not"|.both _ _=>"both"|.either _ _=>"either"
def Ru.deep:Ru->Bool|.not _=>true|.both _ _=>true|.either _ _=>true|_=>false
def Ru.subs_kids(r:Ru):r.subs=r::(r.kids.map Ru.subs).flatten:=by cases r<;>simp[Ru.subs,Ru.kids]
def fC.tup(h:fC K H r v):∃t c,v=.ref t/\aS K H t (.str r.kind::c)/\(r.deep=true->jk K H r.kids c/\c≠[])/\(∀w,r.word1=some w->∃d,c=.str w::d):=by cases h with|any h=>exact⟨_,_,rfl,h,λe=>(nomatch e),λw e=>(nomatch e)⟩|has h=>exact⟨_,_,rfl,h,λe=>(nomatch e),λw e=>by cases e;exact⟨_,rfl⟩⟩|least h=>exact⟨_,_,rfl,h,λe=>(nomatch e),λw e=>by cases e;exact⟨_,rfl⟩⟩|not h q=>exact⟨_,U rfl ⟨h,λ_=>⟨.cons q .nil,nofun⟩,λw e=>(nomatch e)⟩⟩|both h q r=>exact⟨_,U rfl ⟨h,λ_=>⟨.cons q (.cons r .nil),nofun⟩,λw e=>(nomatch e)⟩⟩|either h q r=>exact⟨_,U rfl ⟨h,λ_=>⟨.cons q (.cons r .nil),nofun⟩,λw e=>(nomatch e)⟩⟩
def GU(r:Ru):oR (.str r.kind) [.str "not",.str "both",.str "either"]=r.deep:=by cases r with|any=>exact(show oR (.str "any") [.str "not",.str "both",.str "either"]=false by decide+kernel)|has _=>exact(show oR (.str "has") [.str "not",.str "both",.str "either"]=false by decide+kernel)|least _ _=>exact(show oR (.str "least") [.str "not",.str "both",.str "either"]=false by decide+kernel)|not _=>exact(show oR (.str "not") [.str "not",.str "both",.str "either"]=true by decide+kernel)|both _ _=>exact(show oR (.str "both") [.str "not",.str "both",.str "either"]=true by decide+kernel)|either _ _=>exact(show oR (.str "either") [.str "not",.str "both",.str "either"]=true by decide+kernel)
def GT(r:Ru):oR (.str r.kind) [.str "has",.str "least"]=r.word1.isSome:=by cases r with|any=>exact(show oR (.str "any") [.str "has",.str "least"]=false by decide+kernel)|has _=>exact(show oR (.str "has") [.str "has",.str "least"]=true by decide+kernel)|least _ _=>exact(show oR (.str "least") [.str "has",.str "least"]=true by decide+kernel)|not _=>exact(show oR (.str "not") [.str "has",.str "least"]=false by decide+kernel)|both _ _=>exact(show oR (.str "both") [.str "has",.str "least"]=false by decide+kernel)|either _ _=>exact(show oR (.str "either") [.str "has",.str "least"]=false by decide+kernel)
def GN{r k:Ru}{n:Nat}(h:k∈r.kids)(hh:r.hgt<=n+1):k.hgt<=n:=by
 cases r with|any=>cases h|has _=>cases h|least _ _=>cases h|not q=>
  have:k=q:=by simpa[Ru.kids]using h
  have hh:q.hgt+1<=n+1:=hh;rw[this];exact Nat.le_of_lt_succ hh|both q r=>
  have:k=q\/k=r:=by simpa[Ru.kids]using h
  have hh:max q.hgt r.hgt+1<=n+1:=hh;have h1:=Nw q.hgt r.hgt;have h2:=Nh q.hgt r.hgt;rcases this with rfl|rfl<;>lia|either q r=>
  have:k=q\/k=r:=by simpa[Ru.kids]using h
  have hh:max q.hgt r.hgt+1<=n+1:=hh;have h1:=Nw q.hgt r.hgt;have h2:=Nh q.hgt r.hgt;rcases this with rfl|rfl<;>lia
def E8(x:V)(c:List V):HT.ic (x::c).length 0 (some 1)=1:=by show(if(1:Int)<0 then((1:Int)+((x::c).length:Int)).toNat else min (1:Int).toNat (c.length+1))=1;rw[l_ (by decide)];show min 1 (c.length+1)=1;exact rfl
def G1(x:V)(c:List V):¬HT.ic (x::c).length 0 (some 1)=0:=by rw[E8];decide
def E7(x:V)(c:List V):vk (x::c) (some 1) none=c:=by unfold vk;rw[E8,HT.DI];show c.take ((c.length+1)-1)=c;rw[Nat.add_sub_cancel,oD (f_ _)]
inductive C6(K:N_)(h:Nat)(vs:List V)(H:Hp)(Q:VK)(_E:XK):Prop|mk(r:Ru)(rv:V)(_:vs=[rv])(_:fC K H r rv)(_:r.hgt<=h)(_:h<=6)(_:∀(l:Addr)(us:List V)(H':Hp),aq H H'->H l=none->H' l=some (.lst us)->jk K H' r.subs us->Q (.ref l) H')
section
theorem jV(T:Txt K mg a):∀h:Nat,aT P w K mg base dR (h+1) a.b7.x a.b7.d ["rule"] (C6 K h)
 |0=>by
  refine T.b7.f.ok hV (λe H Q E h=>?_) (λX A outer s H e Q E hr h=>?_)
  ·obtain⟨r,Z,rfl,_⟩:=h;rfl
  ·obtain⟨r,Z,rfl,_,hh,_⟩:=h;have:=r.hgt_pos;lia|n+1=>by
  have ih:=jV T n;refine T.b7.f.ok hV (λe H Q E h=>?_) (λX A outer s H e Q E hr h=>?_)
  ·obtain⟨r,Z,rfl,_⟩:=h;rfl
  ·obtain⟨r,Z,rfl,hR,hh,h6,q⟩:=h;obtain⟨t,e,rfl,hT,v,_⟩:=hR.tup;refine⟨_,(ai (bj 1 hV.nd (bh (ae (Y 0) af))) (ai (aM (aE (oE K rfl) (cQ K (Y 0) ah) (aR (ae ay (ae ay (ae ay af)))) (by with_unfolding_all rfl)) (aj (d6 qq rfl (ie K rfl (gr (AU K rfl) (Y 0) (iL ah) iM)) (qg 2 hV.nd) (aj (aZ (jc K rfl PySem.F.plainAttrs_list PySem.F.slot_list_extend PySem.F.type_list_extend vX (Y 1) (ae (a0 ih hr rfl T.b7.m T.b7.f.kp T.b7.b .nil bw (ae (Y 2) af)) af)))))) aF) (aj (aB (Y 1))))),?_⟩
   refine U rfl ⟨ls rfl,λl O=>?_⟩;have s0:=ak (o:=.lst [.ref t]) (aq.refl H) O;have y:aI H l (.lst [.ref t]) l=some (.lst [.ref t]):=ag
   try dsimp only
   generalize aI H l (.lst [.ref t])=H0 at s0 y⊢;refine U rfl (rX (aq.tseq s0 hT) (am (k:=0) rfl) ⟨ls rfl,λt3 G=>?_⟩);have I:=ak (o:=.tup [.str "not",.str "both",.str "either"]) s0 G;have j:aI H0 t3 (.tup [.str "not",.str "both",.str "either"]) l=some (.lst [.ref t]):=by rw[au (aH y G)];exact y
   refine⟨t3,U rfl ⟨.inr (aS.of ag),rfl,rfl,U rfl ?_⟩⟩;show if oR (.str r.kind) [.str "not",.str "both",.str "either"]=true then _ else _
   rw[GU]
   try dsimp only
   generalize aI H0 t3 (.tup [.str "not",.str "both",.str "either"])=R at I j⊢;cases hd:r.deep with
 |false=>
    refine bX (U rfl ?_);have hs:r.subs=[r]:=by cases r<;>first|rfl|cases hd
    exact q l [.ref t] R I O j (by rw[hs];exact .cons (hR.kp (.of I)) .nil)|true=>
    obtain⟨hK,an⟩:=v hd;refine bo ?_;refine⟨_,rfl,_,rfl,?_⟩;have hc:=r.cnt_lt;have ap:2^r.hgt<=2^6:=Ml (by decide) (by lia);have aa:e.length=r.kids.length:=(Paired.length hK).symm;have J:∀(i:Nat)(k:Ru),r.kids[i]?=some k->k.hgt<=n:=λi k S=>GN (g_ S) hh;refine⟨t,U rfl ⟨aq.tseq I hT,λz=>absurd z.1 (G1 _ _),λp hp=>?_⟩⟩;rw[E7];have s2:=ak (o:=.tup e) I hp;have L:aI R p (.tup e) l=some (.lst [.ref t]):=by rw[au (aH j hp)];exact j
    have B:aI R p (.tup e) p=some (.tup e):=ag
    try dsimp only
    generalize aI R p (.tup e)=H2 at s2 L B⊢;refine⟨p,rfl,⟨_,aS.of B⟩,GX (xs:=e) (D:={nx:=Ke (FE 1) {nx:=λ_ H'=>Q .non H',rt:=Q},rt:=Q}) (λi V H'=>aq H H'/\H' p=some (.tup e)/\(∃C,H' l=some (.lst C)/\jk K H' (r::((r.kids.take i).map Ru.subs).flatten) C)/\∃v2,V=[some (.ref t),some (.ref l),v2]) ⟨s2,B,⟨[.ref t],L,.cons (hR.kp (.of s2)) .nil⟩,_,rfl⟩ (λi V H' _ h=>aS.of h.2.1) ?_ ?_⟩
    ·rintro i x V H3 hx⟨W,u,⟨C,c,g⟩,v2,rfl⟩;obtain⟨k,S,ac⟩:=jk.get hK i x hx;refine av (U rfl ⟨.inl ⟨rfl,_,aY.of c⟩,U rfl ⟨k,x,rfl,ac.kp (.of W),J i k S,by exact z_ h6,λl' ad H4 M as al N=>?_⟩⟩);have e1:((r.kids.take (i+1)).map Ru.subs).flatten=((r.kids.take i).map Ru.subs).flatten++k.subs:=by rw[x_,S,me,List.flatten_append];simp
     have n1:=Paired.length g;have n2:=Paired.length N;have n3:(((r.kids.take i).map Ru.subs).flatten).length+k.subs.length<=64:=by
      have e2:r.subs.length=1+((r.kids.map Ru.subs).flatten).length:=by rw[r.subs_kids,pw];lia
      have e3:((r.kids.map Ru.subs).flatten).length=(((r.kids.take (i+1)).map Ru.subs).flatten).length+(((r.kids.drop (i+1)).map Ru.subs).flatten).length:=by rw[<-k_,<-List.flatten_append,<-me,ro]
      rw[e1,k_]at e3;unfold Ru.cnt at hc;lia
     rw[pw]at n1;refine⟨l,l',_,U rfl ⟨rfl,M _ _ c,al,by rw[nk];lia,?_⟩⟩;have kq:Kp H4 (aI H4 l (.lst (C++ad))):=.lst (M _ _ c);refine⟨bv (W.trans M) O,?_,⟨_,ag,?_⟩,_,rfl⟩
     ·rw[au (λz=>by rw[z,c]at u;cases u)];exact M _ _ u
     ·rw[e1,<-List.cons_append];exact jk.app ((g.kp (.of M)).kp kq) (N.kp kq)
    ·rintro V H3⟨W,u,⟨C,c,g⟩,v2,rfl⟩;refine U rfl (q l C H3 W O c ?_);rw[r.subs_kids];rw[aa,oD (f_ _)]at g;exact g
end
def Jy[DecidableEq g][BEq g][LawfulBEq g][DecidableEq h][BEq h][LawfulBEq h](f:g->h)(i:∀a b,f a=f b->a=b)(d:List g):dd (d.map f)=(dd d).map f:=by
 have gen:∀(d c:List g),(d.map f).foldl PyProof.Rows.step_dedup (c.map f)=(d.foldl PyProof.Rows.step_dedup c).map f:=by
  intro d
  induction d with|nil=>intro c;rfl|cons k r j=>
   intro c;rw[pu,E1,E1,<-j]
   congr 1
   unfold PyProof.Rows.step_dedup;have e:(c.map f).any (λy=>y==f k)=c.any (λy=>y==k):=by
    rw[List.any_map]
    congr 1
    funext y
    show(f y==f k)=(y==k)
    by_cases q:y=k
    ·rw[q,Ms,Ms]
    ·rw[beq_false_of_ne q,beq_false_of_ne (λz=>q (i _ _ z))]
   by_cases q:c.any (λy=>y==k)=true
   ·rw[mo (e.trans q),mo q]
   ·rw[l_ (λz=>q (e.symm.trans z)),l_ q,me];rfl
 exact gen d []
def Ru.wset(r:Ru):List Str:=dd r.words
def Ru.wset_keys(r:Ru):dd (r.words.map (Sum.inr:Str->bQ))=r.wset.map Sum.inr:=Jy Sum.inr (λ_ _ h=>sT h) r.words
def Ru.wset_le(r:Ru):r.wset.length<=r.cnt:=by have h1:=ni r.words [];have h2:=r.words_le;unfold Ru.wset dd;simp at h1;lia
inductive FJ(K:N_)(vs:List V)(H:Hp)(Q:VK)(_E:XK):Prop|mk(r:Ru)(rv:V)(_:vs=[rv])(_:fC K H r rv)(_:r.hgt<=6)(_:∀(l:Addr)(ss:Of)(H':Hp),aq H H'->H l=none->H' l=some (.lst (ss.map V.str))->ss.Perm r.wset->ss.Pairwise ny->Q (.ref l) H')
section
def yy(T:Txt K mg a):aT P w K mg base dR 8 a.j4.x a.j4.d ["rule"] (FJ K):=by
 refine T.j4.ok yd λaa A outer s H vs Q E hr h=>?_
 ·obtain⟨r,rv,rfl,hR,hh,q⟩:=h;refine⟨_,(aj (aB (aA (xv (P:=P) (w:=w) rfl) (by rfl) T.yN L2.rN (ae (cZ (uG (P:=P) (w:=w) K rfl rfl) (by rfl) T.D8 L2.uK (ae (sQ ["rule"] ["inner"] [] [1] (ao oz) (bY 1) (c7 K rfl (a0 ((jV T 6).mono (by decide)) hr rfl T.b7.m T.b7.f.kp T.b7.b .nil bw (ae (Y 0) af))) (λcl C s₀ H₀ ex=>⟨(nA ["rule"] ["inner"] 1),(mY (aE (oE K rfl) (cQ K (Y 1) ah) (aR (ae ay (ae ay af))) (by with_unfolding_all rfl))),(cQ K (Y 1) ah)⟩)) af)) af)))),?_⟩
  refine U rfl ⟨r,rv,rfl,hR,hh,f_ _,λl F H1 M hl u y=>?_⟩;have hc:=r.cnt_lt;have ac:2^r.hgt<=2^6:=Ml (by decide) (by omega);have G:F.length=r.subs.length:=(Paired.length y).symm;have ad:r.subs.length<64:=by unfold Ru.cnt at hc;lia
  refine⟨l,rfl,⟨_,aY.of u⟩,λD N=>?_⟩;refine gR (K:=K) (a:=l) (xs:=F) (λi e H'=>e=((r.subs.take i).filterMap Ru.word1).map V.str/\aq H1 H'/\H' D=some (.lst e)) ⟨by rw[Mm];rfl,ak (aq.refl _) N,ag⟩ (λi e H' _ h=>aY.of (h.2.1 _ _ u)) ?_ ?_
  ·rintro i v e B O⟨rfl,p,c⟩;have hi:i<F.length:=(d_.mp O).1;obtain⟨k,hk,I⟩:=jk.get y i v O;obtain⟨t,vs,rfl,R,_,hw⟩:=(I.kp (.of p)).tup;refine av (U rfl (rX R (am (k:=0) rfl) ⟨ls rfl,λS J=>?_⟩));have g:=ak (o:=.tup [.str "has",.str "least"]) (aq.refl B) J;refine⟨S,U rfl ⟨.inr (aS.of ag),rfl,rfl,U rfl ?_⟩⟩;show if oR (.str k.kind) [.str "has",.str "least"]=true then _ else _
   rw[GT]
   try dsimp only
   generalize aI B S (.tup [.str "has",.str "least"])=H3 at g⊢;have W:(r.subs.take (i+1)).filterMap Ru.word1=(r.subs.take i).filterMap Ru.word1++k.word1.toList:=by
    rw[x_,hk,Me]
    congr 1
   have fl:((r.subs.take i).filterMap Ru.word1).length<=i:=n7 (Mw _ _) (MV _ _);cases j:k.word1 with|none=>refine bX (lf hi ⟨?_,p.trans g,g _ _ c⟩);rw[W,j];simp|some wd=>
    obtain⟨al,rfl⟩:=hw wd j;refine bo (U rfl (rX (aq.tseq g R) (am (k:=1) rfl) ⟨g _ _ c,?_,lf hi ⟨?_,bv (p.trans g) N,ag⟩⟩))
    ·rw[b_,nk];lia
    ·rw[W,j,me];rfl
  ·rintro e B⟨rfl,p,c⟩;rw[G,oD (f_ _),r.words_subs]at c;have wl:=r.words_le;have an:=r.wset_le;have c:B D=some (.lst ((r.words.map (Sum.inr:Str->bQ)).map kV)):=by rw[A_];exact c
   refine⟨D,r.words.map Sum.inr,rfl,aY.of c,by rw[b_];lia,λX L=>?_⟩;rw[r.wset_keys];have g:=ak (o:=wO P w X (r.wset.map Sum.inr)) (aq.refl B) L;refine⟨X,r.wset,rfl,ag,by lia,λZ ss n hp hs=>?_⟩;have s4:=ak (o:=.lst (ss.map V.str)) g n;exact q Z ss _ ((M.trans p).trans s4) (by cases z:H Z with|none=>rfl|some o=>rw[((M.trans p).trans g) _ _ z]at n;cases n) ag hp hs
end
theorem yM[BEq c][LawfulBEq c]:∀{l m:List c},l.Nodup->(∀x∈l,x∈m)->l.length<=m.length
 |[],m,_,_=>o_ _|a::l,m,h,g=>by
  obtain⟨h1,h2⟩:=MS.mp h;have p:=List.perm_cons_erase (g a m_);have:=yM (m:=m.erase a) h2 λx b=>by
   rcases tA.mp (p.mem_iff.mp (g x (lm _ b)))with rfl|q
   ·exact absurd b h1
   ·exact q
  have e:=p.length_eq;rw[pw]at e⊢;lia
theorem E6[DecidableEq d][BEq d][LawfulBEq d]:∀(f c:List d)(x:d),x∈f.foldl PyProof.Rows.step_dedup c↔x∈c\/x∈f
 |[],c,x=>by simp|k::r,c,x=>by
  rw[E1,E6 r];unfold PyProof.Rows.step_dedup
  by_cases e:c.any (λy=>y==k)=true
  ·rw[mo e];obtain⟨y,b,q⟩:=NZ.mp e;have g:k∈c:=by rw[<-eq_of_beq q];exact b
   constructor
   ·rintro(h|h)
    ·exact .inl h
    ·exact .inr (lm _ h)
   ·rintro(h|h)
    ·exact .inl h
    ·rcases tA.mp h with rfl|h
     ·exact .inl g
     ·exact .inr h
  ·rw[l_ e];simp only[Ny,List.mem_singleton,tA,or_assoc,rl,false_or]
def Jx{c:Type}[DecidableEq c][BEq c][LawfulBEq c]{d:List c}{x:c}(h:x∈dd d):x∈d:=by
 rcases(E6 d [] x).mp h with h|h
 ·cases h
 ·exact h
theorem HG[DecidableEq d][BEq d][LawfulBEq d]:∀(f c:List d),c.Nodup->(f.foldl PyProof.Rows.step_dedup c).Nodup
 |[],c,h=>h|k::r,c,h=>by
  rw[E1];refine HG r _ ?_;unfold PyProof.Rows.step_dedup
  by_cases e:c.any (λy=>y==k)=true
  ·rw[mo e];exact h
  ·rw[l_ e,q_];refine⟨h,by simp,λa g b i=>?_⟩;rw[List.mem_singleton.mp i];rintro rfl;exact e (NZ.mpr ⟨a,g,Ms a⟩)
inductive F0(K:N_)(n:Nat)(vs:List V)(H:Hp)(Q:VK)(_E:XK):Prop|mk(r:Ru)(rv:V)(ws:Of)(_:vs=[rv,.int (n:Nat)])(_:fC K H r rv)(_:r.hgt<=n)(_:jY ws r)(_:(∀w∈ws,Wd w))(_:∀H',aq H H'->Q (.bl true) H')
def Ey{a b n:Nat}(h:max a b+1<=n+1):a<=n/\b<=n:=by have h1:=Nw a b;have h2:=Nh a b;lia
section
theorem rh(T:Txt K mg a):∀n:Nat,aT P w K mg base dR (n+3) a.cB.x a.cB.d ["thing","depth"] (F0 K n)
 |0=>by
  refine T.cB.f.ok lZ (λz H Q E h=>?_) (λC A outer s H z Q E j h=>?_)
  ·obtain⟨r,D,e,rfl,_⟩:=h;rfl
  ·obtain⟨r,D,e,rfl,_,hh,_⟩:=h;have:=r.hgt_pos;lia|n+1=>by
  have F:=rh T n;refine T.cB.f.ok lZ (λz H Q E h=>?_) (λC A outer s H z Q E j h=>?_)
  ·obtain⟨r,D,e,rfl,_⟩:=h;rfl
  ·obtain⟨r,D,e,rfl,O,hh,o,l,q⟩:=h;refine⟨_,(ai (aM (PW.pt (fb (aE aU (Y 1) ah (aG _)) (fb (cf (aQ K rfl (aA (fm K rfl) (by rfl) T.bW L2.bp (ae (Y 0) (ae (lG rfl T.dJ L2.bP) af))) (λ_=>rfl))) (dL (aE aU (aA (aJ K rfl) (by rfl) T.bF L2.aL (ae (Y 0) af)) ah (aG _)))))) (aj (aB gu)) aF) (ai (bj 2 lZ.nd (cQ K (Y 0) ah)) (ai (aM (aE aU (Y 2) ay (aG _)) (aj (aB (bB aU (aA (aJ K rfl) (by rfl) T.bF L2.aL (ae (Y 0) af)) ah (aG _)))) aF) (ai (aM (aE aU (Y 2) ay (aG _)) (aj (aB (cp (bB aU (aA (aJ K rfl) (by rfl) T.bF L2.aL (ae (Y 0) af)) ah (aG _)) (c8 (a0 ((gM T).mono (by first|decide|exact N6 _ _)) j rfl T.eu.m T.eu.f.kp T.eu.b .nil bw (ae (cQ K (Y 0) ah) af)))))) aF) (ai (aM (aE aU (Y 2) ay (aG _)) (aj (aB (cp (bB aU (aA (aJ K rfl) (by rfl) T.bF L2.aL (ae (Y 0) af)) ah (aG _)) (cp (a0 ((gM T).mono (by first|decide|exact N6 _ _)) j rfl T.eu.m T.eu.f.kp T.eu.b .nil bw (ae (cQ K (Y 0) ah) af)) (c8 (a0 ((pH T).mono (by first|decide|exact N6 _ _)) j rfl T.fA.m T.fA.f.kp T.fA.b .nil bw (ae (cQ K (Y 0) ah) af))))))) aF) (ai (aM (aE aU (Y 2) ay (aG _)) (aj (aB (cp (bB aU (aA (aJ K rfl) (by rfl) T.bF L2.aL (ae (Y 0) af)) ah (aG _)) (c8 (a0 F j rfl T.cB.m T.cB.f.kp T.cB.b .nil bw (ae (cQ K (Y 0) ah) (ae (az fW (Y 1) ah) af))))))) aF) (ai (aM (PW.pt (fb (aE aU (Y 2) ay (aG _)) (dL (aE aU (Y 2) ay (aG _))))) (aj (aB (cp (bB aU (aA (aJ K rfl) (by rfl) T.bF L2.aL (ae (Y 0) af)) ah (aG _)) (cp (a0 F j rfl T.cB.m T.cB.f.kp T.cB.b .nil bw (ae (cQ K (Y 0) ah) (ae (az fW (Y 1) ah) af))) (c8 (a0 F j rfl T.cB.m T.cB.f.kp T.cB.b .nil bw (ae (cQ K (Y 0) ah) (ae (az fW (Y 1) ah) af)))))))) aF) (aj (aB gu))))))))),?_⟩
   have hd:((n+1:Nat):Int)-1=(n:Int):=by lia
   obtain⟨t,z,rfl,B,-⟩:=O.tup;refine U rfl ⟨rfl,U rfl (kN (λh=>absurd h (by exact ov rfl)) (λG=>?_))⟩;refine U rfl ⟨_,"tuple",_,true,rfl,.inr ⟨t,U rfl ⟨B,rfl⟩⟩,fJ (dk rfl),true,rfl,bX ?_⟩;refine U rfl ⟨_,U rfl ⟨.inr ⟨_,B,rfl⟩,rfl,U rfl (kN (λh=>absurd h (by rw[pw];lia)) (λI=>?_))⟩⟩;refine U rfl (rX B (am (k:=0) rfl) ?_);refine av ?_;clear B G I;cases O with
 |any h=>refine U rfl ⟨rfl,U rfl (be ?_)⟩;refine U rfl ⟨_,U rfl ⟨.inr ⟨_,h,rfl⟩,rfl,?_⟩⟩;exact iK (p:=V.int 1=V.int 1) rfl (q H (aq.refl _))|has h=>cases o with|has hm=>refine U rfl ⟨rfl,U rfl (wn ?_)⟩;refine U rfl ⟨rfl,U rfl (be ?_)⟩;refine U rfl ⟨_,U rfl ⟨.inr ⟨_,h,rfl⟩,rfl,U rfl (bo ?_)⟩⟩;exact U rfl (rX h rfl ⟨V.str _,rfl,.inl (U rfl ⟨l _ hm,q⟩)⟩)
   |least h=>cases o with|least hm h1 h2=>(iterate 2 refine U rfl ⟨rfl,U rfl (wn ?_)⟩);refine U rfl ⟨rfl,U rfl (be ?_)⟩;refine U rfl ⟨_,U rfl ⟨.inr ⟨_,h,rfl⟩,rfl,U rfl (bo ?_)⟩⟩;refine U rfl (rX h rfl ⟨V.str _,rfl,.inl (U rfl ⟨l _ hm,λJ c=>(U rfl (bo ?_))⟩)⟩);exact⟨_,rfl,t,_,2,_,rfl,rfl,aq.tseq c h,rfl,_,rfl,⟨h1,h2⟩,q J c⟩
   |not h h1=>cases o with|not u=>rename_i g i;have hh:g.hgt+1<=n+1:=hh;(iterate 3 refine U rfl ⟨rfl,U rfl (wn ?_)⟩);refine U rfl ⟨rfl,U rfl (be ?_)⟩;refine U rfl ⟨_,U rfl ⟨.inr ⟨_,h,rfl⟩,rfl,U rfl (bo ?_)⟩⟩;refine U rfl (rX h rfl (U rfl (r2 ?_)));exact⟨g,i,e,by show[i,V.int (((n+1:Nat):Int)-1)]=_;rw[hd],h1,by exact Nat.le_of_lt_succ hh,u,l,q⟩
   |both h h1 h2=>cases o with|both u L=>rename_i g v i y;have hh:=Ey (show max g.hgt v.hgt+1<=n+1 from hh);(iterate 4 refine U rfl ⟨rfl,U rfl (wn ?_)⟩);refine U rfl ⟨rfl,U rfl (be ?_)⟩;refine U rfl ⟨_,U rfl ⟨.inr ⟨_,h,rfl⟩,rfl,U rfl (bo ?_)⟩⟩;refine U rfl (rX h rfl (U rfl (r2 ?_)));refine⟨g,i,e,by show[i,V.int (((n+1:Nat):Int)-1)]=_;rw[hd],h1,hh.1,u,l,λJ c=>(U rfl (bo ?_))⟩;refine U rfl (rX (aq.tseq c h) rfl (U rfl (r2 ?_)));exact⟨v,y,e,by show[y,V.int (((n+1:Nat):Int)-1)]=_;rw[hd],h2.kp (.of c),hh.2,L,l,λM N=>q M (c.trans N)⟩
   |either h h1 h2=>cases o with|either u L=>rename_i g v i y;have hh:=Ey (show max g.hgt v.hgt+1<=n+1 from hh);(iterate 5 refine U rfl ⟨rfl,U rfl (wn ?_)⟩);refine U rfl ⟨rfl,U rfl (be ?_)⟩;refine U rfl ⟨_,U rfl ⟨.inr ⟨_,h,rfl⟩,rfl,U rfl (bo ?_)⟩⟩;refine U rfl (rX h rfl (U rfl (r2 ?_)));refine⟨g,i,e,by show[i,V.int (((n+1:Nat):Int)-1)]=_;rw[hd],h1,hh.1,u,l,λJ c=>(U rfl (bo ?_))⟩;refine U rfl (rX (aq.tseq c h) rfl (U rfl (r2 ?_)));exact⟨v,y,e,by show[y,V.int (((n+1:Nat):Int)-1)]=_;rw[hd],h2.kp (.of c),hh.2,L,l,λM N=>q M (c.trans N)⟩
end
def jY.mem(h:jY c r):∀w∈r.words,w∈c:=by induction h with|any=>exactλw h=>(nomatch h)|has h=>intro w b;rw[List.mem_singleton.mp b];exact h|least h=>intro w b;rw[List.mem_singleton.mp b];exact h|not _ h=>exact h|both _ _ h g=>exactλw b=>(Ny.mp b).elim (h w) (g w)|either _ _ h g=>exactλw b=>(Ny.mp b).elim (h w) (g w)
def jY.few{c:Of}{r:Ru}(h:jY c r):r.wset.length<=c.length:=yM (HG r.words [] MX) λx b=>h.mem x (Jx b)
inductive Dn(K:N_)(vs:List V)(H:Hp)(Q:VK)(_E:XK):Prop|mk(r:Ru)(rv:V)(ws:Of)(_:vs=[rv])(_:fC K H r rv)(_:r.hgt<=6)(_:r.cnt<=30)(_:jY ws r)(_:(∀w∈ws,Wd w))(_:ws.length<=3)(_:∀H',aq H H'->Q (.bl true) H')
section
def zT(T:Txt K mg a):aT P w K mg base dR 10 a.m7.x a.m7.d ["thing"] (Dn K):=by
 refine T.m7.ok zH λv A outer s H L Q E c h=>?_
 ·obtain⟨r,e,y,rfl,g,hh,hc,o,z,M,q⟩:=h;refine⟨_,(ai (aM (cf (aQ K rfl (a0 ((rh T 6).mono (by decide)) c rfl T.cB.m T.cB.f.kp T.cB.b .nil bw (ae (Y 0) (ae (cn T.uJ rfl) af))) (λ_=>rfl))) (aj (aB gu)) aF) (aj (aB (cp (bB jD (aA (aJ K rfl) (by rfl) T.bF L2.aL (ae (a0 ((jV T 6).mono (by decide)) c rfl T.b7.m T.b7.f.kp T.b7.b .nil bw (ae (Y 0) af)) af)) (cn T.xC rfl) (aG _)) (c8 (bB jD (aA (aJ K rfl) (by rfl) T.bF L2.aL (ae (pc T.j4 (yy T) c (ae (Y 0) af)) af)) (cn T.xy rfl) (aG _))))))),?_⟩
  refine U rfl ⟨r,e,y,rfl,g,hh,o,z,λN i=>(U rfl (bX ?_))⟩;refine U rfl ⟨r,e,rfl,g.kp (.of i),hh,f_ _,λl p O t B j k=>?_⟩;have C:p.length=r.subs.length:=(Paired.length k).symm;unfold Ru.cnt at hc;refine⟨_,p.length,rfl,.inl ⟨_,aY.of j,rfl⟩,_,U rfl ⟨rfl,U rfl (lO (λ_=>?_) (λh=>absurd (by lia) h))⟩⟩;refine U rfl ⟨r,e,rfl,g.kp (.of (i.trans t)),hh,λR u D F G n I _=>?_⟩;have S:=o.few;have J:=I.length_eq;refine⟨_,u.length,rfl,.inl ⟨_,aY.of n,by simp⟩,_,U rfl ⟨rfl,?_⟩⟩;exact iK (show((u.length:Nat):Int)<=3 by lia) (q D ((i.trans t).trans F))
end
inductive FY(K:N_)(h:Nat)(vs:List V)(H:Hp)(Q:VK)(_E:XK):Prop|mk(r:Ru)(rv:V)(ms:List (Str×Int))(mv:V)(_:vs=[rv,mv])(_:fC K H r rv)(_:r.hgt<=h)(_:qS K H ms mv)(_:ms.length<=100)(_:∀H',aq H H'->Q (.bl (r.sat ms)) H')
section
theorem yE(T:Txt K mg a):∀h:Nat,aT P w K mg base dR (h+1) a.dS.x a.dS.d ["rule","marks"] (FY K h)
 |0=>by
  refine T.dS.f.ok tG (λvs H Q E h=>?_) (λaa A outer s H vs Q E O h=>?_)
  ·obtain⟨r,rv,k,mv,rfl,_⟩:=h;rfl
  ·obtain⟨r,rv,k,mv,rfl,_,hh,_⟩:=h;have:=r.hgt_pos;lia|n+1=>by
  have S:=yE T n;refine T.dS.f.ok tG (λvs H Q E h=>?_) (λaa A outer s H vs Q E O h=>?_)
  ·obtain⟨r,rv,k,mv,rfl,_⟩:=h;rfl
  ·obtain⟨r,rv,k,mv,rfl,hR,hh,R,p,q⟩:=h;obtain⟨mt,l,rfl,I,W,X⟩:=id R;refine⟨_,(ai (bj 2 tG.nd (cQ K (Y 0) ah)) (ai (aM (aE aU (Y 2) ay (aG _)) (aj (aB gu)) aF) (ai (aM (aE aU (Y 2) ay (aG _)) (aj (aB (aA (qN K rfl rfl) (by rfl) T.Eb L2.uN (ae (sQ qb ["mark"] [] [3] (ao sK) (bY 3) (ie K rfl (Y 1)) (λcl C s₀ H₀ ex=>⟨(nA qb ["mark"] 3),ck,(bB aU (cQ K (Y 3) ah) (cQ K (Y 0) ah) (aG _))⟩)) af)))) aF) (ai (aM (aE aU (Y 2) ay (aG _)) (aj (aB (aA (qN K rfl rfl) (by rfl) T.Eb L2.uN (ae (sQ qb ["mark"] [] [3] (ao sK) (bY 3) (ie K rfl (Y 1)) (λcl C s₀ H₀ ex=>⟨(nA qb ["mark"] 3),ck,(cp (bB aU (cQ K (Y 3) ah) (cQ K (Y 0) ah) (aG _)) (c8 (bB DX (cQ K (Y 3) ah) (cQ K (Y 0) ah) (aG _))))⟩)) af)))) aF) (ai (aM (aE aU (Y 2) ay (aG _)) (aj (aB (DT (a0 S O rfl T.dS.m T.dS.f.kp T.dS.b .nil bw (ae (cQ K (Y 0) ah) (ae (Y 1) af)))))) aF) (ai (aM (aE aU (Y 2) ay (aG _)) (aj (aB (cp (a0 S O rfl T.dS.m T.dS.f.kp T.dS.b .nil bw (ae (cQ K (Y 0) ah) (ae (Y 1) af))) (c8 (a0 S O rfl T.dS.m T.dS.f.kp T.dS.b .nil bw (ae (cQ K (Y 0) ah) (ae (Y 1) af))))))) aF) (aj (aB (KG (a0 S O rfl T.dS.m T.dS.f.kp T.dS.b .nil bw (ae (cQ K (Y 0) ah) (ae (Y 1) af))) (c8 (a0 S O rfl T.dS.m T.dS.f.kp T.dS.b .nil bw (ae (cQ K (Y 0) ah) (ae (Y 1) af))))))))))))),?_⟩
   have c:∀{A B:Prop}{x y:Str},x≠y->B->if decide (V.str x=V.str y)=true then A else B:=λh b=>EG (λe=>absurd e h) (λ_=>b)
   have j:∀{A B:Prop}{x:Str},A->if decide (V.str x=V.str x)=true then A else B:=λa=>EG (λ_=>a) (λh=>absurd rfl h)
   cases hR with|any h=>refine U rfl (rX h rfl ?_);exact U rfl ⟨rfl,U rfl (j (q _ (aq.refl _)))⟩|has h=>
    refine U rfl (rX h rfl ?_);refine U rfl ⟨rfl,U rfl (c (dk rfl) ?_)⟩;refine U rfl ⟨rfl,U rfl (j ?_)⟩;rename_i Z wd;refine U rfl ⟨mt,rfl,⟨_,I⟩,λD hD=>?_⟩;have t:∀g,aq H (aI H D (.lst g)):=λg=>ak (aq.refl _) hD;refine gC (K:=K) (a:=mt) (xs:=l) (λi g H'=>g=((k.take i).map (K7 wd)).map V.bl/\H'=aI H D (.lst g)) ⟨by rw[Mm];rfl,rfl⟩ (λi g H' _ h=>h.2▸aq.tseq (t _) I) ?_ ?_
    ·rintro i v g _ L⟨rfl,rfl⟩;have hi:i<l.length:=(d_.mp L).1;obtain⟨b,hb,hB⟩:=X i (k[i]'(by lia)) (h_ (by lia));rw[hb]at L;cases L;refine av (iZ (bo ?_));refine U rfl (rX (aq.tseq (t _) hB) rfl (U rfl (rX (aq.tseq (t _) h) rfl ⟨rfl,ag,?_,lf hi ⟨?_,?_⟩⟩)))
     ·rw[b_,b_,o8,nk];lia
     ·rw[sZ (h_ (by lia)),me];rfl
     ·rw[gZ]
    ·rintro g _⟨rfl,rfl⟩;refine⟨D,_,rfl,aY.of ag,?_⟩;rw[W,oD (f_ _)];exact q _ (t _)|least h=>
    refine U rfl (rX h rfl ?_);(iterate 2 refine U rfl ⟨rfl,U rfl (c (dk rfl) ?_)⟩);refine U rfl ⟨rfl,U rfl (j ?_)⟩;rename_i Z wd F;refine U rfl ⟨mt,rfl,⟨_,I⟩,λD hD=>?_⟩;have t:∀g,aq H (aI H D (.lst g)):=λg=>ak (aq.refl _) hD;refine gC (K:=K) (a:=mt) (xs:=l) (λi g H'=>g=((k.take i).map (gN wd F)).map V.bl/\H'=aI H D (.lst g)) ⟨by rw[Mm];rfl,rfl⟩ (λi g H' _ h=>h.2▸aq.tseq (t _) I) ?_ ?_
    ·rintro i v g _ L⟨rfl,rfl⟩;have hi:i<l.length:=(d_.mp L).1;obtain⟨b,hb,hB⟩:=X i (k[i]'(by lia)) (h_ (by lia));rw[hb]at L;cases L;have fin:∀b,b=gN wd F (k[i]'(by lia))->aI H D (.lst (((k.take i).map (gN wd F)).map V.bl)) D=some (.lst (((k.take i).map (gN wd F)).map V.bl))/\(((k.take i).map (gN wd F)).map V.bl).length<sizeLine/\∃m',m'<l.length-i/\m'=l.length-(i+1)/\i+1<=l.length/\((((k.take i).map (gN wd F)).map V.bl++[V.bl b]=((k.take (i+1)).map (gN wd F)).map V.bl)/\aI (aI H D (.lst (((k.take i).map (gN wd F)).map V.bl))) D (.lst (((k.take i).map (gN wd F)).map V.bl++[V.bl b]))=aI H D (.lst (((k.take i).map (gN wd F)).map V.bl++[V.bl b]))):=λb eb=>by
      refine⟨ag,?_,lf hi ⟨?_,?_⟩⟩
      ·rw[b_,b_,o8,nk];lia
      ·rw[sZ (h_ (by lia)),me,eb];rfl
      ·rw[gZ]
     refine av (iZ (bo ?_));refine U rfl (rX (aq.tseq (t _) hB) rfl (U rfl (rX (aq.tseq (t _) h) rfl ⟨rfl,U rfl (EG (λe=>?_) (λe=>?_))⟩)))
     ·refine U rfl (rX (aq.tseq (t _) hB) rfl (U rfl (rX (aq.tseq (t _) h) rfl (r2 (fin _ ?_)))));unfold gN;rw[mo (by rw[e];exact ol rfl)]
     ·refine fin _ ?_;unfold gN;rw[l_ (by rw[op (λz=>e (V.str.inj z))];exact oa)]
    ·rintro g _⟨rfl,rfl⟩;refine⟨D,_,rfl,aY.of ag,?_⟩;rw[W,oD (f_ _)];exact q _ (t _)|not h h1=>rename_i Z G v;have hq:G.hgt+1<=n+1:=hh;refine U rfl (rX h rfl ?_);(iterate 3 refine U rfl ⟨rfl,U rfl (c (dk rfl) ?_)⟩);refine U rfl ⟨rfl,U rfl (j ?_)⟩;exact U rfl (rX h rfl (U rfl ⟨G,v,k,_,rfl,h1,by lia,R,p,λH' o=>(U rfl (q H' o))⟩))|both h h1 h2=>
    rename_i Z G M v u;have hq:max G.hgt M.hgt+1<=n+1:=hh;refine U rfl (rX h rfl ?_);(iterate 4 refine U rfl ⟨rfl,U rfl (c (dk rfl) ?_)⟩);refine U rfl ⟨rfl,U rfl (j ?_)⟩;refine U rfl (rX h rfl (U rfl ⟨G,v,k,_,rfl,h1,by lia,R,p,λH' o=>(U rfl ?_)⟩));have J:∀H',aq H H'->Q (.bl (if G.sat k=true then M.sat k else false)) H':=q;refine xl (λe=>?_) (λe=>?_)
    ·rw[mo e]at J;exact U rfl (rX (aq.tseq o h) rfl (U rfl ⟨M,u,k,_,rfl,h2.kp (.of o),by lia,R.kp (.of o),p,λH2 N=>J H2 (o.trans N)⟩))
    ·rw[l_ (by rw[e];exact oa)]at J;exact J H' o|either h h1 h2=>
    rename_i Z G M v u;have hq:max G.hgt M.hgt+1<=n+1:=hh;refine U rfl (rX h rfl ?_);(iterate 5 refine U rfl ⟨rfl,U rfl (c (dk rfl) ?_)⟩);refine U rfl (rX h rfl (U rfl ⟨G,v,k,_,rfl,h1,by lia,R,p,λH' o=>(U rfl ?_)⟩));have J:∀H',aq H H'->Q (.bl (if G.sat k=true then true else M.sat k)) H':=q;refine xl (λe=>?_) (λe=>?_)
    ·rw[mo e]at J;exact J H' o
    ·rw[l_ (by rw[e];exact oa)]at J;exact U rfl (rX (aq.tseq o h) rfl (U rfl ⟨M,u,k,_,rfl,h2.kp (.of o),by lia,R.kp (.of o),p,λH2 N=>J H2 (o.trans N)⟩))
end
inductive F6(vs:List V)(H:Hp)(Q:VK)(_E:XK):Prop|mk(x:_)(_:vs=[.str x])(_:Wd x)(_:∀H',aq H H'->Q .non H')
inductive F7(K:N_)(vs:List V)(H:Hp)(Q:VK)(_E:XK):Prop|mk(r:Ru)(rv:V)(ws:Of)(_:vs=[rv])(_:fC K H r rv)(_:r.hgt<=6)(_:r.cnt<=30)(_:jY ws r)(_:(∀w∈ws,Wd w))(_:ws.length<=3)(_:∀H',aq H H'->Q .non H')
inductive Dw(vs:List V)(H:Hp)(Q:VK)(_E:XK):Prop|mk(x:_)(_:vs=[.str x])(_:xT x)(_:∀H',aq H H'->Q .non H')
section
def jU(T:Txt K mg a):aT P w K mg base dR 3 a.fg.x a.fg.d ["thing"] F6:=by
 refine T.fg.ok u5 λb A outer s H i Q E c h=>?_
 ·obtain⟨x,rfl,e,q⟩:=h;refine⟨_,(aj (aM (cf (aQ K rfl (pc T.eu (gM T) c (ae (Y 0) af)) (λ_=>rfl))) (aj fM) aF)),?_⟩;exact U rfl ⟨V.str x,rfl,.inl ⟨x,rfl,e,λf g=>(U rfl (bX (q f g)))⟩⟩
def vc(T:Txt K mg a):aT P w K mg base dR 11 a.gS.x a.gS.d ["thing"] (F7 K):=by
 refine T.gS.ok u6 λb A outer s H j Q E c h=>?_
 ·obtain⟨r,e,f,rfl,h1,h2,h3,h4,h5,h6,q⟩:=h;refine⟨_,(aj (aM (cf (aQ K rfl (pc T.m7 (zT T) c (ae (Y 0) af)) (λ_=>rfl))) (aj fM) aF)),?_⟩;exact U rfl ⟨r,e,f,rfl,h1,h2,h3,h4,h5,h6,λg i=>(U rfl (bX (q g i)))⟩
def ui(T:Txt K mg a):aT P w K mg base dR 3 a.bK.x a.bK.d ["thing"] Dw:=by
 refine T.bK.ok l7 λb A outer s H i Q E c h=>?_
 ·obtain⟨x,rfl,e,q⟩:=h;refine⟨_,(aj (aM (cf (aQ K rfl (pc T.fO (yD T) c (ae (Y 0) af)) (λ_=>rfl))) (aj fM) aF)),?_⟩;exact U rfl ⟨x,rfl,e,λf g=>(U rfl (bX (q f g)))⟩
end
inductive BK(vs:List V)(H:Hp)(Q:VK)(_E:XK):Prop|mk(z:Int)(_:vs=[.int z])(_:(2<=z/\z<=997))(_:(∀i:Nat,2+(i:Int)<z->z%(2+(i:Int))≠0))(_:∀H',aq H H'->Q (.bl true) H')
inductive Dm(vs:List V)(H:Hp)(Q:VK)(_E:XK):Prop|mk(z:_)(_:vs=[.int z])(_:(0<=z/\z<=cJ))(_:Q (.bl true) H)
inductive Dv(vs:List V)(H:Hp)(Q:VK)(_E:XK):Prop|mk(z s:Int)(_:vs=[.int z,.int s])(_:(2<=z/\z<=997))(_:(∀i:Nat,2+(i:Int)<z->z%(2+(i:Int))≠0))(_:(0<=s/\s<=cJ))(_:∀H',aq H H'->Q .non H')
inductive Ds(vs:List V)(H:Hp)(Q:VK)(_E:XK):Prop|mk(x:Str)(d:Addr)(kvs:List (bQ×V))(_:vs=[.str x,.ref d])(_:Wd x)(_:H d=some (.dK kvs))(_:(bn kvs (.inr x)).isSome=true)(_:∀H',aq H H'->Q .non H')
theorem qo:∀c:List Str,(c.map V.str).all n6=true|[]=>rfl|w::r=>by rw[pu,MK,qo r];rfl
section
def yC(T:Txt K mg a):aT P w K mg base dR 2 a.kP.x a.kP.d ["thing"] BK:=by
 refine T.kP.ok yg λe A outer s H j Q E f h=>?_
 ·obtain⟨z,rfl,⟨h1,h2⟩,hd,q⟩:=h;refine⟨_,(ai (aM (PW.pt (fb (cf (aQ K rfl (pc T.fN (io T) f (ae (Y 0) af)) (λ_=>rfl))) (dL (cf (yo jD jD (cn T.vo rfl) (Y 0) (cn T.qO rfl)))))) (aj (aB gu)) aF) (aj (aB (aA (iW K rfl rfl) (by rfl) T.vW L2.kS (ae (sQ ["thing"] ["divisor"] [] [1] (ao oA) (bY 1) (vS rfl T.eh (ae ah (ae (Y 0) af))) (λcl C s₀ H₀ ex=>⟨(nA ["thing"] ["divisor"] 1),ck,(bB A9 (az aV (Y 0) (Y 1)) ah (aG _))⟩)) af))))),?_⟩
  refine U rfl ⟨z,rfl,U rfl (bX ?_)⟩;refine U rfl (r2 (U rfl ?_));refine lO (λ_=>?_) (λh=>absurd h1 h);refine r2 (U rfl ?_);rw[ol h2];refine bX ?_;refine U rfl ⟨_,U rfl ⟨⟨by decide,by decide,by lia,by lia⟩,λD g=>?_⟩⟩;refine ff (K:=K) (lo:=2) (n:=(z-2).toNat) (λi b c=>b=(List.replicate i true).map V.bl/\c=aI H D (.lst b)) ⟨rfl,rfl⟩ ?_ ?_
  ·rintro i b c hi⟨rfl,rfl⟩;refine av (iZ (bo (U rfl (U rfl (r2 ⟨(by show(0:Int)<_;first|decide|lia),rfl,?_⟩)))));refine⟨ag,j6 i (by omega),lf hi ⟨?_,by rw[gZ]⟩⟩;have hn:=hd i (by omega);rw[<-i0]
   congr 2
   simp[hn]
  ·rintro b c⟨rfl,rfl⟩;refine⟨D,_,rfl,aY.of ag,?_⟩;rw[j7];exact q _ (ak (aq.refl _) g)
def zS(T:Txt K mg a):aT P w K mg base dR 3 a.m4.x a.m4.d ["thing"] Dm:=by
 refine T.m4.ok zG λb A outer s H e Q E c h=>?_
 ·obtain⟨z,rfl,⟨h1,h2⟩,q⟩:=h;refine⟨_,(aj (aB (cp (pc T.dN (jE T) c (ae (Y 0) af)) (c8 (bB jD (Y 0) (az ub ah ah) (aG _)))))),?_⟩;refine U rfl ⟨z,rfl,h1,U rfl (bo ?_)⟩
  walk_at "a"
  exact iK h2 q
def uh(T:Txt K mg a):aT P w K mg base dR 4 a.gf.x a.gf.d ["prime","salt"] Dv:=by
 refine T.gf.ok tL λc A outer s H g Q E b h=>?_
 ·obtain⟨z,sa,rfl,h1,h2,h3,q⟩:=h;refine⟨_,(aj (aM (PW.pt (fb (cf (aQ K rfl (pc T.kP (yC T) b (ae (Y 0) af)) (λ_=>rfl))) (dL (cf (aQ K rfl (pc T.m4 (zS T) b (ae (Y 1) af)) (λ_=>rfl)))))) (aj fM) aF)),?_⟩;refine U rfl ⟨z,rfl,h1,h2,λe f=>(U rfl (bX ?_))⟩;exact U rfl ⟨sa,rfl,h3,U rfl (bX (q e f))⟩
def pI(T:Txt K mg a):aT P w K mg base dR 4 a.aN.x a.aN.d ["thing","names"] Ds:=by
 refine T.aN.ok jv λf A outer s H i Q E c h=>?_
 ·obtain⟨x,d,b,rfl,h1,h2,h3,q⟩:=h;refine⟨_,(ai (aZ (pc T.fg (jU T) c (ae (Y 0) af))) (aj (aM (mz (kC (cb c) (Y 0) (Y 1)) rfl) (aj fM) aF))),?_⟩
  refine U rfl ⟨x,rfl,h1,λg e=>?_⟩;refine U rfl (U rfl (rG (bn b (.inr x)) (dH.k (k:=.inr x) (e _ _ h2)) (U rfl ?_)));rw[h3];exact bX (q g e)
end
abbrev Pl:=bN×V×List Int
def fB(H:Hp)(tk:List eU)(m:List Pl):Prop:=Paired (λ(x:eU)(y:Pl)=>x.1=y.1/\x.2.1=y.2.1/\∃l,x.2.2=.ref l/\H l=some (.lst (y.2.2.map V.int))) tk m
structure eW(P:Oe)(w:World)(K:N_)(C:Addr)(H:Hp)(t od td:Addr)(n:Nat)(ow:List (bQ×V))(tk:List eU)(m:List Pl):Prop where
 ins:∃dx,H t=some (.ins C dx [("many",.int n),("owners",.ref od),("taken",.ref td)])own:H od=some (.dK ow)tak:H td=some (dM P w td tk)keys:cT K H tk
 lsts:fB H tk m
def fB.same(e:aq H H')(h:fB H tk m):fB H' tk m:=Paired.mapP h λ_ _ h=>⟨h.1,h.2.1,h.2.2.imp λ_ q=>⟨q.1,e _ _ q.2⟩⟩
def cq(e:Kp H H')(h:cR K H k v):cR K H' k v:=by match k,h with|.inl _,h=>exact h|.inr [],h=>exact h|.inr (_::_),h=>obtain⟨b,h1,h2⟩:=h;exact⟨b,h1,e.tq h2⟩
def oK(e:aq H H')(h:cR K H k v):cR K H' k v:=by exact cq (.of e) h
theorem eW.same(e:aq H H')(h:eW P w K C H t c d n ow tk m):eW P w K C H' t c d n ow tk m:=⟨let⟨dx,i⟩:=h.ins;⟨dx,e _ _ i⟩,e _ _ h.own,e _ _ h.tak,λx b=>oK e (h.keys x b),h.lsts.same e⟩
def fB.val(h:fB H tk m)(k:bN):(∃l c,dQ tk k=some (.ref l)/\dQ m k=some c/\H l=some (.lst (c.map V.int)))\/(dQ tk k=none/\dQ m k=none):=by induction h with|nil=>exact .inr ⟨rfl,rfl⟩|@cons x y _ _ h _ b=>
  unfold dQ at b⊢;rw[t4,t4,<-h.1]
  by_cases e:x.1=k
  ·rw[ol e];exact .inl (h.2.2.imp λ_ q=>⟨y.2.2,w_ some q.1,rfl,q.2⟩)
  ·rw[op e];exact b
def bE(m:List Pl)(k:bN):List Int:=(dQ m k).getD []
def gz(n:Nat)(ow:List (bQ×V)):List Int:=((List.range n).filter λ(i:Nat)=>(bn ow (.inl (i:Int))).isNone).map λ(i:Nat)=>(i:Int)
inductive Iw(P:Oe)(w:World)(K:N_)(C:Addr)(vs:List V)(H:Hp)(Q:VK)(_E:XK):Prop|mk(t dx:Addr)(n:Nat)(_:vs=[.ref t,.int n])(_:H t=some (.ins C dx []))(_:H dx=some (.own t))(_:∀(od td:Addr)H',H od=none->H td=none->(∀b o,H b=some o->b≠t->H' b=some o)->eW P w K C H' t od td n [] [] []->Q .non H')
inductive BJ(P:Oe)(w:World)(K:N_)(C:Addr)(vs:List V)(H:Hp)(Q:VK)(_E:XK):Prop|mk(t od td:Addr)(n:Nat)(ow:List (bQ×V))(tk:List eU)(m:List Pl)(p:Int)(_:vs=[.ref t,.int p])(_:eW P w K C H t od td n ow tk m)(_:Q ((bn ow (.inl p)).getD .non) H)
inductive zA(P:Oe)(w:World)(K:N_)(C:Addr)(vs:List V)(H:Hp)(Q:VK)(_E:XK):Prop|mk(t od td:Addr)(n:Nat)(ow:List (bQ×V))(tk:List eU)(m:List Pl)(k:bN)(kv:V)(_:vs=[.ref t,kv])(_:eW P w K C H t od td n ow tk m)(_:cR K H k kv)(_:∀(l:Addr)H',aq H H'->H l=none->H' l=some (.lst ((bE m k).map V.int))->Q (.ref l) H')
inductive IA(P:Oe)(w:World)(K:N_)(C:Addr)(vs:List V)(H:Hp)(Q:VK)(_E:XK):Prop|mk(t od td:Addr)(n:Nat)(ow:List (bQ×V))(tk:List eU)(m:List Pl)(_:vs=[.ref t])(_:eW P w K C H t od td n ow tk m)(_:n<=1000)(_:∀(l:Addr)H',aq H H'->H l=none->H' l=some (.lst ((gz n ow).map V.int))->Q (.ref l) H')
section
def sr(T:Txt K mg a):aT P w K mg base dR 1 a.eD.x a.eD.d ["self","many"] (Iw P w K a.bS):=by
 refine T.eD.ok rW λF A outer s H L Q E M h=>?_
 ·obtain⟨t,dx,n,rfl,G,N,q⟩:=h;refine⟨_,(ai (cG K rfl (Y 0) (Y 1)) (ai (cG K rfl (Y 0) jb) (aj (cG K rfl (Y 0) (yu (P:=P) (w:=w)))))),?_⟩
  refine U rfl (U rfl ⟨t,_,dx,U rfl ⟨G,T.bx,T.nX,by decide,?_⟩⟩);have v:gn "many" (V.int n) []=([("many",V.int n)]:List (Str×V)):=rfl;rw[v];have i:aI H t (.ins a.bS dx [("many",V.int n)]) t=some (.ins a.bS dx [("many",V.int n)]):=ag;have f1:∀b o,H b=some o->b≠t->aI H t (.ins a.bS dx [("many",V.int n)]) b=some o:=λb o e j=>by rw[au j];exact e
  generalize aI H t (.ins a.bS dx [("many",V.int n)])=u at i f1⊢;refineλc g=>(U rfl ⟨t,_,dx,U rfl ⟨by rw[au (aH i g)];exact i,T.bx,T.eP,by simp,?_⟩⟩);have y:gn "owners" (V.ref c) [("many",V.int n)]=([("many",V.int n),("owners",V.ref c)]:List (Str×V)):=rfl;rw[y];have B:c≠t:=λz=>by rw[z,i]at g;cases g
  have k:aI (aI u c (.dK [])) t (.ins a.bS dx [("many",V.int n),("owners",V.ref c)]) t=some (.ins a.bS dx [("many",V.int n),("owners",V.ref c)]):=ag;have m:aI (aI u c (.dK [])) t (.ins a.bS dx [("many",V.int n),("owners",V.ref c)]) c=some (.dK []):=by rw[au B];exact ag
  have f2:∀b o,H b=some o->b≠t->aI (aI u c (.dK [])) t (.ins a.bS dx [("many",V.int n),("owners",V.ref c)]) b=some o:=λb o e j=>by rw[au j,au (λz=>by rw[<-z,f1 b o e j]at g;cases g)];exact f1 b o e j
  generalize aI (aI u c (.dK [])) t (.ins a.bS dx [("many",V.int n),("owners",V.ref c)])=O at k m f2⊢;refineλl f=>(U rfl ⟨t,_,dx,U rfl ⟨by rw[au (aH k f)];exact k,T.bx,T.gx,by simp,?_⟩⟩);have C:gn "taken" (V.ref l) [("many",V.int n),("owners",V.ref c)]=([("many",V.int n),("owners",V.ref c),("taken",V.ref l)]:List (Str×V)):=rfl;rw[C];have D:l≠t:=λz=>by rw[z,k]at f;cases f
  have I:c≠l:=λz=>by rw[<-z,m]at f;cases f
  have p:H c=none:=by cases z:H c with|none=>rfl|some o=>rw[f1 c o z B]at g;cases g
  have r:H l=none:=by cases z:H l with|none=>rfl|some o=>rw[f2 l o z D]at f;cases f
  refine q c l _ p r (λb o e j=>?_) ⟨⟨dx,ag⟩,by rw[au B,au I];exact m,by rw[au D];exact ag,λx J=>(by cases J),.nil⟩;rw[au j,au (λz=>by rw[<-z,f2 b o e j]at f;cases f)];exact f2 b o e j
def d9(T:Txt K mg a):aT P w K mg base dR 1 a.bg.x a.bg.d ["self","owner"] (zA P w K a.bS):=by
 refine T.bg.ok ox λv A outer s H F Q E y h=>?_
 ·obtain⟨t,G,z,n,ow,tk,m,k,I,rfl,i,B,q⟩:=h;refine⟨_,(aj (aB (cZ (Ay K rfl) (by rfl) T.zZ L2.qP (ae (yq (P:=P) (w:=w) K rfl (cb y) (aK K rfl (Y 0)) (Y 1) (bh af) ⟨rfl,rfl,rfl,rfl⟩) af)))),?_⟩;obtain⟨dx,C⟩:=i.ins;refine U rfl ⟨t,_,dx,_,U rfl ⟨C,T.bx,T.gx,rfl,z,tk,rfl,i.tak,U rfl ⟨ls rfl,λg j=>?_⟩⟩⟩;have e:=ak (o:=.lst []) (aq.refl H) j;have c:aI H g (.lst []) g=some (.lst []):=ag;generalize aI H g (.lst [])=J at e c⊢;have f:=i.same e;refine⟨tk,k,f.tak,f.keys,oK e B,?_⟩;rcases f.lsts.val k with⟨l,L,p,r,D⟩|⟨p,r⟩
  ·rw[p];refine⟨l,U rfl ⟨.inl (aY.of D),λu b=>q u _ (ak e b) (e.free b) ?_⟩⟩;unfold bE;rw[r];exact ag
  ·rw[p];refine⟨g,U rfl ⟨.inl (aY.of c),λu b=>q u _ (ak e b) (e.free b) ?_⟩⟩;unfold bE;rw[r];exact ag
def nV(T:Txt K mg a):aT P w K mg base dR 1 a.eC.x a.eC.d ["self"] (IA P w K a.bS):=by
 refine T.eC.ok va λp A outer s H y Q E r h=>?_
 ·obtain⟨t,z,B,n,ow,tk,m,rfl,j,hn,q⟩:=h;refine⟨_,(aj (aB (sQ ["self"] ["place"] [] [1] (ao lc) (bY 1) (cY rfl T.eh (ae (aK K rfl (Y 0)) af)) (λcl C s₀ H₀ ex=>⟨(nA ["self"] ["place"] 1),(mY (mz (kC (cb r) (Y 1) (aK K rfl (Y 0))) rfl)),(Y 1)⟩)))),?_⟩
  obtain⟨dx,l⟩:=j.ins;refine U rfl ⟨t,_,dx,_,U rfl ⟨l,T.bx,T.nX,rfl,(n:Int),rfl,by exact mu _,by lia,λD o=>?_⟩⟩;have g:∀b,aq H (aI H D (.lst b)):=λb=>ak (aq.refl _) o;refine ff (K:=K) (lo:=0) (n:=(n:Int).toNat) (λi b H'=>b=(gz i ow).map V.int/\H'=aI H D (.lst b)) ⟨rfl,rfl⟩ ?_ ?_
  ·rintro i b _ hi⟨rfl,rfl⟩;have u:((gz i ow).map V.int).length<=i:=by unfold gz;rw[b_,b_];exact n7 (z4 _ _) (by rw[r4];exact f_ _)
   have c:gz (i+1) ow=gz i ow++if(bn ow (.inl (i:Int))).isNone=true then[(i:Int)]else[]:=by
    unfold gz;rw[Nx,MY,me]
    congr 1
    by_cases e:(bn ow (.inl (i:Int))).isNone=true
    ·simp[e]
    ·simp[e]
   rw[show(0:Int)+(i:Int)=((i:Nat):Int)by lia];refine av (U rfl (U rfl ⟨t,_,dx,_,U rfl ⟨g _ _ _ l,T.bx,T.eP,rfl,rG _ (dH.k (k:=.inl (i:Int)) (g _ _ _ j.own)) (U rfl ?_)⟩⟩));have f:i<(n:Int).toNat:=hi;cases e:bn ow (.inl (i:Int))with|none=>refine bo (U rfl ⟨ag,by rw[nk];lia,lf f ⟨?_,by rw[gZ]⟩⟩);rw[c,e,me];rfl|some v=>refine bX (lf f ⟨?_,rfl⟩);rw[c,e,me];exact(E2 _).symm
  ·rintro b _⟨rfl,rfl⟩;have e:(n:Int).toNat=n:=by exact rfl
   rw[e];exact q D _ (g _) o ag
end
def E9(c:List V)(h:0<=i):vk c (some i) none=c.drop i.toNat:=by
 show(c.drop (if i<0 then(i+(c.length:Int)).toNat else min i.toNat c.length)).take (c.length-(if i<0 then(i+(c.length:Int)).toNat else min i.toNat c.length))=c.drop i.toNat;rw[l_ (by lia)];rcases Nat.le_total i.toNat c.length with b|b
 ·rw[Nat.min_eq_left b,oD (by rw[L9];exact f_ _)]
 ·rw[Nat.min_eq_right b,Np (f_ _),Np b,List.take_nil]
def Av(c:List V)(h:0<=i):vk c none (some i)=c.take i.toNat:=by
 show(c.drop 0).take ((if i<0 then(i+(c.length:Int)).toNat else min i.toNat c.length)-0)=c.take i.toNat;rw[l_ (by lia),List.drop_zero,Nat.sub_zero];rcases Nat.le_total i.toNat c.length with b|b
 ·rw[Nat.min_eq_left b]
 ·rw[Nat.min_eq_right b,oD (f_ _),oD b]
def By(c:List (bQ×V))(k j:bQ):bn (dO c k) j=if j=k then none else bn c j:=by induction c with|nil=>split<;>rfl|cons p r f=>
  by_cases e:p.1=k
  ·rw[wo e,f]
   by_cases b:j=k
   ·rw[mo b,mo b]
   ·rw[l_ b,l_ b,bM (λz=>b (z.symm.trans e))]
  ·rw[wq e]
   by_cases d:p.1=j
   ·rw[cz d,l_ (λz=>e (d.trans z)),cz d]
   ·rw[bM d,f,bM d]
def sH(ow:List (bQ×V))(c:Ol):List (bQ×V):=c.foldl (λo p=>dO o (.inl p)) ow
def qk(c:Ol):∀(ow:List (bQ×V))(j:Int),bn (sH ow c) (.inl j)=if j∈c then none else bn ow (.inl j):=by induction c with|nil=>intro ow j;rw[l_ (by simp)];rfl|cons p r b=>
  intro ow j;show bn (sH (dO ow (.inl p)) r) (.inl j)=_;rw[b,By]
  by_cases h1:j∈r
  ·rw[mo h1,mo (lm _ h1)]
  ·rw[l_ h1]
   by_cases h2:j=p
   ·rw[mo (by rw[h2]),mo (by rw[h2];exact m_)]
   ·rw[l_ (λz=>h2 (Sum.inl.inj z)),l_ (λz=>(tA.mp z).elim h2 h1)]
def mO(c d:Addr)(H H':Hp):Prop:=∀b o,H b=some o->b≠c->b≠d->H' b=some o
def mO.of(h:aq H H'):mO c d H H':=λb o e _ _=>h b o e
def mO.trans(a:mO d e H f)(b:mO d e f g):mO d e H g:=λc o h h1 h2=>b c o (a c o h h1 h2) h1 h2
def mO.tp(h:mO c d H H')(h1:H c=some (.dK f))(h2:H d=some (.ext φ))(e:H b=some (.tup g)):H' b=some (.tup g):=h b _ e (λz=>by rw[z,h1]at e;cases e) (λz=>by rw[z,h2]at e;cases e)
def eR(h:mO c d H H')(h1:H c=some (.dK f))(h2:H d=some (.ext φ))(g:cR K H k v):cR K H' k v:=by exact cq ⟨λu i e=>h.tp h1 h2 e,λu o⟨b,e⟩=>⟨b,h u _ e (λz=>by rw[z,h1]at e;cases e) (λz=>by rw[z,h2]at e;cases e)⟩⟩ g
def fB.off(h:mO c d H H')(h1:H c=some (.dK f))(h2:H d=some (.ext φ))(t:fB H tk m):fB H' tk m:=Paired.mapP t λ_ _ q=>⟨q.1,q.2.1,q.2.2.imp λ_ e=>⟨e.1,h _ _ e.2 (λz=>by rw[z,h1]at e;cases e.2) (λz=>by rw[z,h2]at e;cases e.2)⟩⟩
def fB.put(d:H l=some (.lst (f.map V.int))):∀{tk:List eU}{m:List Pl},fB H tk m->fB H (fI tk k j (.ref l)) (fI m k j f):=by
 intro tk m h;have b:(dQ tk k).isSome=(dQ m k).isSome:=by rcases h.val k with⟨l,f,g,i,_⟩|⟨g,i⟩<;>rw[g,i]<;>rfl
 unfold fI;rw[b]
 split
 ·rename_i hc;clear b hc
  induction h with|nil=>exact .nil|@cons x y n o r t c=>
   refine .cons ?_ c;dsimp only;rw[<-r.1]
   by_cases e:x.1=k
   ·rw[mo e,mo e];exact⟨rfl,r.2.1,l,rfl,d⟩
   ·rw[l_ e,l_ e];exact r
 ·rename_i hc;clear b hc
  induction h with|nil=>exact .cons ⟨rfl,rfl,l,rfl,d⟩ .nil|cons r t c=>exact .cons r c
def fF(H:Hp)(tk c:List eU):Prop:=∀x∈c,(∃y∈tk,y.2.2=x.2.2)\/∃l,x.2.2=.ref l/\H l=none
def fF.put(c:H l=none):fF H tk (fI tk k e (.ref l)):=by
 intro x b;unfold fI at b
 split at b
 ·obtain⟨y,d,rfl⟩:=oi.mp b
  split
  ·exact .inr ⟨l,rfl,c⟩
  ·exact .inl ⟨y,d,rfl⟩
 ·rcases Ny.mp b with b|b
  ·exact .inl ⟨x,b,rfl⟩
  ·rw[List.mem_singleton.mp b];exact .inr ⟨l,rfl,c⟩
def pQ(h:mO c d H H')(h1:H' c≠none)(h2:H' d≠none)(e:H' b=none):H b=none:=by cases z:H b with|none=>rfl|some o=>have:=h b o z (λq=>h1 (by rw[<-q];exact e)) (λq=>h2 (by rw[<-q];exact e));rw[e]at this;cases this
inductive Iz(P:Oe)(w:World)(K:N_)(C:Addr)(vs:List V)(H:Hp)(Q:VK)(_E:XK):Prop|mk(t od td:Addr)(n:Nat)(ow:List (bQ×V))(tk:List eU)(m:List Pl)(k:bN)(kv:V)(num:Int)(_:vs=[.ref t,kv,.int num])(_:eW P w K C H t od td n ow tk m)(_:cR K H k kv)(_:0<=num)(_:tk.length<100000)(_:(∀p∈(bE m k).drop num.toNat,(bn ow (.inl p)).isSome=true))(_:(bE m k).Nodup)(_:∀(l:Addr)(tk':List eU)H',mO od td H H'->H l=none->H' l=some (.lst (((bE m k).drop num.toNat).reverse.map V.int))->tk'.length<=tk.length+1->fF H tk tk'->eW P w K C H' t od td n (sH ow ((bE m k).drop num.toNat).reverse) tk' (fI m k kv ((bE m k).take num.toNat))->Q (.ref l) H')
def uw(c:List (bN×d×e))(k:bN)(b:d)(v:e):(fI c k b v).length<=c.length+1:=by
 unfold fI
 split
 ·rw[b_];exact so _
 ·rw[k_];simp
def cT.put(h:cT K H tk)(d:cR K H k e):cT K H (fI tk k e v):=by
 unfold fI
 split
 ·intro x b;obtain⟨y,c,rfl⟩:=oi.mp b
  split
  ·exact h y c
  ·exact h y c
 ·intro x b;rcases Ny.mp b with b|b
  ·exact h x b
  ·rw[List.mem_singleton.mp b];exact d
section
def oG(T:Txt K mg a):aT P w K mg base dR 2 a.cN.x a.cN.d ["self","owner","number"] (Iz P w K a.bS):=by
 refine T.cN.ok d0 λb0 A outer s H vs Q E hr h=>?_
 ·obtain⟨t,M,u,n,ow,tk,m,k,kv,c,rfl,g,hk,N,b8,O,al,q⟩:=h;refine⟨_,(ai (bj 3 d0.nd (bA (Y 0) T.bx T.bg.m ((d9 (P:=P) (w:=w) T).mono (by decide)) hr T.bg.b .nil bw (ae (Y 1) af))) (ai (bj 4 d0.nd (zQ K rfl rfl (by rfl) T.zZ (by rfl) T.zY (gr (tD K rfl) (Y 3) (iL (Y 2)) iM))) (ai (d6 qq rfl (c7 K rfl (Y 4)) (qg 5 d0.nd) (aj (aZ (yt (aK K rfl (Y 0)) (Y 5) ⟨rfl,rfl,rfl,rfl⟩)))) (ai (iC (gr (tD K rfl) (Y 3) iM (iL (Y 2))) (ja (aK K rfl (Y 0)) (Y 1) (zE (P:=P) (w:=w) K rfl (cb hr)))) (aj (aB (Y 4))))))),?_⟩
  obtain⟨dx,hI⟩:=g.ins;refine nQ hI rfl rfl (U rfl ⟨t,M,u,n,ow,tk,m,k,kv,rfl,g,hk,λlp H1 s1 b9 I=>av ?_⟩);have cc:=g.same s1;generalize bE m k=C at O al q I⊢;refine U rfl (U rfl ⟨c,rfl,lp,U rfl ⟨aY.of I,λl2 an=>?_⟩⟩);rw[E9 _ N,<-List.map_drop];have s2:=ak (o:=.lst ((C.drop c.toNat).map V.int)) s1 an;have R:aI H1 l2 (.lst ((C.drop c.toNat).map V.int)) l2=some (.lst ((C.drop c.toNat).map V.int)):=ag;have D:aI H1 l2 (.lst ((C.drop c.toNat).map V.int)) lp=some (.lst (C.map V.int)):=by rw[au (aH I an)];exact I
  generalize aI H1 l2 (.lst ((C.drop c.toNat).map V.int))=H2 at s2 R D⊢;refine⟨l2,U rfl ⟨aY.of R,λS ac=>av ?_⟩⟩;rw[<-List.map_reverse];generalize ap:(C.drop c.toNat).reverse=bk at q⊢;have s3:=ak (o:=.lst (bk.map V.int)) s2 ac;have l:aI H2 S (.lst (bk.map V.int)) S=some (.lst (bk.map V.int)):=ag;have F:aI H2 S (.lst (bk.map V.int)) lp=some (.lst (C.map V.int)):=by rw[au (aH D ac)];exact D
  generalize aI H2 S (.lst (bk.map V.int))=H3 at s3 l F⊢;have r:=g.same s3;obtain⟨ad,J⟩:=r.ins;have a7:H S=none:=s2.free ac;have a8:bk.Nodup:=by rw[<-ap];exact(List.reverse_perm _).nodup_iff.mpr ((List.drop_sublist _ _).nodup al)
  have ba:∀p∈bk,(bn ow (.inl p)).isSome=true:=λp W=>O p (by rw[<-ap]at W;exact L8.mp W);have ne:∀{b:Addr}{o:HO},H3 b=some o->(∀bb,o≠.dK bb)->(∀φ,o≠.ext φ)->b≠M/\b≠u:=λe h1 h2=>⟨λz=>by rw[z,r.own]at e;cases e;exact h1 _ rfl,λz=>by rw[z,r.tak]at e;cases e;exact h2 _ rfl⟩;have G:=ne l (λ_ z=>nomatch z) (λ_ z=>nomatch z);have as:=ne F (λ_ z=>nomatch z) (λ_ z=>nomatch z);have nt:=ne J (λ_ z=>nomatch z) (λ_ z=>nomatch z);have ax:u≠M:=λz=>by have e:=r.tak;rw[z,r.own]at e;cases e
  refine U rfl ⟨S,rfl,⟨_,aY.of l⟩,?_⟩;refine uC (xs:=bk.map V.int) (λi σ H'=>mO M u H3 H'/\H' M=some (.dK (sH ow (bk.take i)))/\H' u=some (dM P w u tk)/\∃v5,σ=[some (.ref t),some kv,some (.int c),some (.ref lp),some (.ref S),v5]) ⟨.of (aq.refl _),r.own,r.tak,_,rfl⟩ (λi σ H' _ h=>aY.of (h.1 _ _ l G.1 G.2)) ?_ ?_
  ·rintro i x σ H4 X⟨L,f,y,v5,rfl⟩;have hi:i<bk.length:=by simpa using(d_.mp X).1
   have W:bk[i]?=some bk[i]:=h_ hi;rw[i_,W]at X;generalize bk[i]=p at X W;cases X;have bc:p∉bk.take i:=λz=>by
    obtain⟨j,hj⟩:=m3.mp z;have bi:j<i:=by have:=(d_.mp hj).1;rw[o8]at this;lia
    rw[Na bi]at hj;have:=(M7 (d_.mp hj).1 a8).mp (hj.trans W.symm);lia
   obtain⟨v,hv⟩:=z8.mp (ba p (g_ W));have bl:bn (sH ow (bk.take i)) (.inl p)=some v:=by rw[qk,l_ bc];exact hv
   have hg:sH ow (bk.take (i+1))=dO (sH ow (bk.take i)) (.inl p):=by unfold sH;rw[x_,W,Mh];rfl
   refine av (U rfl ⟨t,_,ad,_,U rfl ⟨L _ _ J nt.1 nt.2,T.bx,T.eP,rfl,M,rfl,.inl ⟨_,.inl f⟩,U rfl ⟨_,.inl p,v,f,rfl,bl,?_⟩⟩⟩);refine⟨λb o e h1 h2=>by rw[au h1];exact L b o e h1 h2,by rw[hg];exact ag,by rw[au ax];exact y,_,rfl⟩
  ·rintro σ H4⟨L,f,y,v5,rfl⟩;rw[b_,oD (f_ _)]at f;have a2:=L _ _ F as.1 as.2;refine U rfl (U rfl ⟨c,rfl,lp,U rfl ⟨aY.of a2,λZ a3=>?_⟩⟩);rw[Av _ N,<-NH];have s5:=ak (o:=.lst ((C.take c.toNat).map V.int)) (aq.refl H4) a3;have B:aI H4 Z (.lst ((C.take c.toNat).map V.int)) Z=some (.lst ((C.take c.toNat).map V.int)):=ag;generalize aI H4 Z (.lst ((C.take c.toNat).map V.int))=H5 at s5 B⊢;have o5:mO M u H H5:=(mO.of s3).trans (L.trans (.of s5));have aa:=s5 _ _ y;have bt:=eR o5 g.own g.tak hk;have a5:cT K H5 tk:=λx X=>eR o5 g.own g.tak (g.keys x X);have n5:Z≠u:=λz=>by rw[z,aa]at B;cases B
   refine U rfl ⟨t,_,ad,_,U rfl ⟨s5 _ _ (L _ _ J nt.1 nt.2),T.bx,T.gx,rfl,U rfl ⟨u,tk,k,rfl,aa,a5,bt,by rw[nk];lia,U rfl ?_⟩⟩⟩;have o6:mO M u H (aI H5 u (dM P w u (fI tk k kv (.ref Z)))):=λb o e h1 h2=>by rw[au h2];exact o5 b o e h1 h2
   have bz:aI H5 u (dM P w u (fI tk k kv (.ref Z))) Z=some (.lst ((C.take c.toNat).map V.int)):=by rw[au n5];exact B
   have a6:H Z=none:=pQ ((mO.of s3).trans L) (by rw[f];simp) (by rw[y];simp) a3;refine q S _ _ o6 a7 (by rw[au G.2];exact s5 _ _ (L _ _ l G.1 G.2)) (uw _ _ _ _) (fF.put a6) ⟨⟨ad,by rw[au nt.2];exact s5 _ _ (L _ _ J nt.1 nt.2)⟩,by rw[au (rb ax)];exact s5 _ _ f,ag,?_,?_⟩
   ·exact cT.put (λx X=>eR o6 g.own g.tak (g.keys x X)) (eR o6 g.own g.tak hk)
   ·exact fB.put bz (g.lsts.off o6 g.own g.tak)
end
def mH(ow:List (bQ×V))(c:V)(d:Ol):List (bQ×V):=d.foldl (λo p=>eY o (.inl p) c) ow
def sV(c:V)(d:Ol):∀(ow:List (bQ×V))(j:Int),bn (mH ow c d) (.inl j)=if j∈d then some c else bn ow (.inl j):=by induction d with|nil=>intro ow j;rw[l_ (by simp)];rfl|cons p r b=>
  intro ow j;show bn (mH (eY ow (.inl p) c) c r) (.inl j)=_;rw[b,xU]
  by_cases h1:j∈r
  ·rw[mo h1,mo (lm _ h1)]
  ·rw[l_ h1]
   by_cases h2:j=p
   ·rw[mo (by rw[h2]),mo (by rw[h2];exact m_)]
   ·rw[l_ (λz=>h2 (Sum.inl.inj z)),l_ (λz=>(tA.mp z).elim h2 h1)]
def wj(c:V)(d:Ol):∀(ow:List (bQ×V)),(mH ow c d).length<=ow.length+d.length:=by induction d with|nil=>intro ow;exact f_ _|cons p r b=>intro ow;have h1:=b (eY ow (.inl p) c);have h2:=jJ ow (.inl p) c;show(mH (eY ow (.inl p) c) c r).length<=_;rw[pw];lia
def Aq(n:Nat)(ow:List (bQ×V)):(gz n ow).length<=n:=by unfold gz;rw[b_];exact n7 (z4 _ _) (by rw[r4];exact f_ _)
inductive Ij(P:Oe)(w:World)(K:N_)(C:Addr)(vs:List V)(H:Hp)(Q:VK)(_E:XK):Prop|mk(t od td:Addr)(n:Nat)(ow:List (bQ×V))(tk:List eU)(m:List Pl)(k:bN)(kv:V)(num:Int)(_:vs=[.ref t,kv,.int num])(_:eW P w K C H t od td n ow tk m)(_:cR K H k kv)(_:n<=1000)(_:((bE m k).length:Int)<=num)(_:(bE m k).length<=1000000)(_:tk.length<100000)(_:ow.length<1000000)(_:∀(tk':List eU)H',mO od td H H'->tk'.length<=tk.length+1->fF H tk tk'->eW P w K C H' t od td n (mH ow kv ((gz n ow).take (num-(bE m k).length).toNat)) tk' (fI m k kv (bE m k++(gz n ow).take (num-(bE m k).length).toNat))->Q .non H')
section
def ve(T:Txt K mg a):aT P w K mg base dR 2 a.fY.x a.fY.d ["self","owner","number"] (Ij P w K a.bS):=by
 refine T.fY.ok ia λbl A outer s H vs Q E hr h=>?_
 ·obtain⟨t,D,l,n,ow,tk,m,k,F,G,rfl,f,hk,hn,Z,a5,bt,bz,q⟩:=h;refine⟨_,(ai (bj 3 ia.nd (bA (Y 0) T.bx T.bg.m ((d9 (P:=P) (w:=w) T).mono (by decide)) hr T.bg.b .nil bw (ae (Y 1) af))) (ai (bj 4 ia.nd (gr (tD K rfl) (t7 (Y 0) T.bx T.eC.m ((nV (P:=P) (w:=w) T).mono (by decide)) hr T.eC.b .nil bw) iM (iL (az fW (Y 2) (aA (aJ K rfl) (by rfl) T.bF L2.aL (ae (Y 3) af)))))) (ai (d6 qq rfl (c7 K rfl (Y 4)) (qg 5 ia.nd) (aj (iC (Y 1) (ja (aK K rfl (Y 0)) (Y 5) (oq (cb hr)))))) (aj (iC (az oF (Y 3) (Y 4)) (ja (aK K rfl (Y 0)) (Y 1) (zE (P:=P) (w:=w) K rfl (cb hr)))))))),?_⟩
  obtain⟨dx,hI⟩:=f.ins;refine nQ hI rfl rfl (U rfl ⟨t,D,l,n,ow,tk,m,k,F,rfl,f,hk,λlp H1 s1 b0 aa=>av ?_⟩);have a6:=f.same s1;generalize bE m k=C at Z a5 q aa⊢;refine nQ (s1 _ _ hI) rfl rfl ⟨t,D,l,n,ow,tk,m,rfl,a6,hn,λa7 H2 s2 b8 ac=>?_⟩;have a8:=Aq n ow;generalize gz n ow=fs at a8 ac q;have y:=s2 _ _ aa;refine U rfl (U rfl ⟨_,C.length,rfl,.inl ⟨_,aY.of y,by rw[b_]⟩,G,(C.length:Int),rfl,rfl,G-(C.length:Int),rfl,a7,U rfl ⟨aY.of ac,λR ad=>av ?_⟩⟩);rw[Av _ (by omega),<-NH];generalize ba:fs.take (G-(C.length:Int)).toNat=c at q⊢;have b9:c.length<=1000:=by rw[<-ba,o8];omega
  have s3:=ak (o:=.lst (c.map V.int)) (s1.trans s2) ad;have g:aI H2 R (.lst (c.map V.int)) R=some (.lst (c.map V.int)):=ag;have B:aI H2 R (.lst (c.map V.int)) lp=some (.lst (C.map V.int)):=by rw[au (aH y ad)];exact y
  generalize aI H2 R (.lst (c.map V.int))=H3 at s3 g B⊢;have r:=f.same s3;obtain⟨S,I⟩:=r.ins;have ne:∀{b:Addr}{o:HO},H3 b=some o->(∀bb,o≠.dK bb)->(∀φ,o≠.ext φ)->b≠D/\b≠l:=λe h1 h2=>⟨λz=>by rw[z,r.own]at e;cases e;exact h1 _ rfl,λz=>by rw[z,r.tak]at e;cases e;exact h2 _ rfl⟩;have J:=ne g (λ_ z=>nomatch z) (λ_ z=>nomatch z);have al:=ne B (λ_ z=>nomatch z) (λ_ z=>nomatch z);have W:=ne I (λ_ z=>nomatch z) (λ_ z=>nomatch z);have an:l≠D:=λz=>by have e:=r.tak;rw[z,r.own]at e;cases e
  refine U rfl ⟨R,rfl,⟨_,aY.of g⟩,?_⟩;refine uC (xs:=c.map V.int) (λi σ H'=>mO D l H3 H'/\H' D=some (.dK (mH ow F (c.take i)))/\H' l=some (dM P w l tk)/\∃v5,σ=[some (.ref t),some F,some (.int G),some (.ref lp),some (.ref R),v5]) ⟨.of (aq.refl _),r.own,r.tak,_,rfl⟩ (λi σ H' _ h=>aY.of (h.1 _ _ g J.1 J.2)) ?_ ?_
  ·rintro i x σ H4 M⟨L,j,u,v5,rfl⟩;have hi:i<c.length:=by simpa using(d_.mp M).1
   have hp:c[i]?=some c[i]:=h_ hi;rw[i_,hp]at M;generalize c[i]=p at M hp;cases M;have hg:mH ow F (c.take (i+1))=eY (mH ow F (c.take i)) (.inl p) F:=by unfold mH;rw[x_,hp,Mh];rfl
   have cc:=wj F (c.take i) ow;have ci:=MV i c;refine av (U rfl (U rfl ⟨t,_,S,_,U rfl ⟨L _ _ I W.1 W.2,T.bx,T.eP,rfl,U rfl ⟨D,_,.inl p,rfl,rfl,j,by rw[nk];omega,?_⟩⟩⟩));refine⟨λb o e h1 h2=>by rw[au h1];exact L b o e h1 h2,by rw[hg];exact ag,by rw[au an];exact u,_,rfl⟩
  ·rintro σ H4⟨L,j,u,v5,rfl⟩;rw[b_,oD (f_ _)]at j;have ap:=L _ _ B al.1 al.2;have as:=L _ _ g J.1 J.2;refine U rfl (U rfl ⟨lp,R,_,U rfl ⟨rfl,ap,as,by rw[b_,b_,nk];lia,λN ax=>?_⟩⟩);rw[<-me];have X:=ak (o:=.lst ((C++c).map V.int)) (aq.refl H4) ax;have v:aI H4 N (.lst ((C++c).map V.int)) N=some (.lst ((C++c).map V.int)):=ag;generalize aI H4 N (.lst ((C++c).map V.int))=H5 at X v⊢;have o5:mO D l H H5:=(mO.of s3).trans (L.trans (.of X));have O:=X _ _ u;have bc:=eR o5 f.own f.tak hk;have a2:cT K H5 tk:=λx M=>eR o5 f.own f.tak (f.keys x M);have n5:N≠l:=λz=>by rw[z,O]at v;cases v
   refine U rfl ⟨t,_,S,_,U rfl ⟨X _ _ (L _ _ I W.1 W.2),T.bx,T.gx,rfl,U rfl ⟨l,tk,k,rfl,O,a2,bc,by rw[nk];omega,?_⟩⟩⟩;have o6:mO D l H (aI H5 l (dM P w l (fI tk k F (.ref N)))):=λb o e h1 h2=>by rw[au h2];exact o5 b o e h1 h2
   have bi:aI H5 l (dM P w l (fI tk k F (.ref N))) N=some (.lst ((C++c).map V.int)):=by rw[au n5];exact v
   have a3:H N=none:=pQ ((mO.of s3).trans L) (by rw[j];simp) (by rw[u];simp) ax;refine q _ _ o6 (uw _ _ _ _) (fF.put a3) ⟨⟨S,by rw[au W.2];exact X _ _ (L _ _ I W.1 W.2)⟩,by rw[au (rb an)];exact X _ _ j,ag,?_,?_⟩
   ·exact cT.put (λx M=>eR o6 f.own f.tak (f.keys x M)) (eR o6 f.own f.tak hk)
   ·exact fB.put bi (f.lsts.off o6 f.own f.tak)
end
structure AS where
 pl:bN->List Int
 oc:Int->Bool
def iw(n:Nat)(oc:Int->Bool):List Int:=((List.range n).filter λ(i:Nat)=>!oc (i:Int)).map λ(i:Nat)=>(i:Int)
def AS.give(s:AS)(k:bN)(c:Nat):AS:=⟨λj=>if j=k then(s.pl k).take c else s.pl j,λp=>if p∈(s.pl k).drop c then false else s.oc p⟩
def AS.took(s:AS)(n:Nat)(k:bN)(c:Nat):AS:=⟨λj=>if j=k then s.pl k++(iw n s.oc).take (c-(s.pl k).length)else s.pl j,λp=>if p∈(iw n s.oc).take (c-(s.pl k).length)then true else s.oc p⟩
structure AS.Ok(n:Nat)(s:AS):Prop where
 in_:∀k p,p∈s.pl k->0<=p/\p<n/\s.oc p=true
 dj:∀k j p,p∈s.pl k->p∈s.pl j->k=j
 nd:∀k,(s.pl k).Nodup
def AS.new:AS:=⟨λ_=>[],λ_=>false⟩
def AS.new_ok(n:Nat):AS.new.Ok n:=⟨λ_ _ h=>(nomatch h),λ_ _ _ h=>(nomatch h),λ_=>MX⟩
def sO:p∈iw n oc↔0<=p/\p<n/\oc p=false:=by
 unfold iw;rw[oi]
 constructor
 ·rintro⟨i,hi,rfl⟩;obtain⟨h1,h2⟩:=List.mem_filter.mp hi;have:=yl.mp h1;exact⟨by exact mu _,by exact NR.mpr this,by simpa using h2⟩
 ·rintro⟨h1,h2,h3⟩;refine⟨p.toNat,List.mem_filter.mpr ⟨yl.mpr (by lia),?_⟩,by exact E_ h1⟩;rw[show((p.toNat:Nat):Int)=p by exact E_ h1,h3];rfl
def xq(n:Nat)(oc:Int->Bool):(iw n oc).Nodup:=by unfold iw;rw[Mn,List.pairwise_map];exact(Mn.mp (List.filter_sublist.nodup List.nodup_range)).imp λh=>by lia
def Js(n:Nat)(oc:Int->Bool):(iw n oc).length<=n:=by unfold iw;rw[b_];exact n7 (z4 _ _) (by rw[r4];exact f_ _)
def DH{l m:Ol}(h1:l.Nodup)(h2:m.Nodup)(h:∀x,x∈l↔x∈m):l.length=m.length:=N5 (yM h1 λx b=>(h x).mp b) (yM h2 λx b=>(h x).mpr b)
def EU{n:Nat}{oc:Int->Bool}{c:Ol}(hn:c.Nodup)(f:∀p∈c,0<=p/\p<n/\oc p=true):(iw n λp=>if p∈c then false else oc p).length=(iw n oc).length+c.length:=by
 rw[<-k_];refine DH (xq _ _) ?_ λx=>?_
 ·rw[q_];refine⟨xq _ _,hn,λa g b i e=>?_⟩;subst e;have h1:=(sO.mp g).2.2;rw[(f a i).2.2]at h1;cases h1
 ·rw[sO,Ny,sO]
  by_cases d:x∈c
  ·rw[mo d];have:=f x d;exact⟨λ_=>.inr d,λ_=>⟨this.1,this.2.1,rfl⟩⟩
  ·rw[l_ d];exact⟨λh=>.inl h,λh=>h.resolve_right d⟩
def y7{l:Ol}(h:l.Nodup)(i:Nat):l.filter (λx=>decide (x∉l.take i))=l.drop i:=by
 have e:l.filter (λx=>decide (x∉l.take i))=(l.take i++l.drop i).filter (λx=>decide (x∉l.take i)):=by rw[ro]
 rw[e,MY];have h1:(l.take i).filter (λx=>decide (x∉l.take i))=[]:=by rw[List.filter_eq_nil_iff];intro x b;simp[b]
 have h2:(l.drop i).filter (λx=>decide (x∉l.take i))=l.drop i:=by rw[List.filter_eq_self];intro x b;have h:=h;rw[<-ro i l,q_]at h;exact ol λz=>h.2.2 x z x b rfl
 rw[h1,h2];rfl
def Cp(n:Nat)(oc:Int->Bool)(i:Nat):(iw n λp=>if p∈(iw n oc).take i then true else oc p)=(iw n oc).drop i:=by
 have e:(iw n λp=>if p∈(iw n oc).take i then true else oc p)=(iw n oc).filter (λx=>decide (x∉(iw n oc).take i)):=by
  generalize(iw n oc).take i=c;unfold iw;rw[List.filter_map,List.filter_filter]
  congr 1
  refine NP λj _=>?_;show(!if(j:Int)∈c then true else oc j)=(decide ((j:Int)∉c)&&!oc j)
  by_cases b:(j:Int)∈c
  ·rw[mo b];simp[b]
  ·rw[l_ b];simp[b]
 rw[e];exact y7 (xq _ _) i
theorem AS.Ok.give{n:Nat}{s:AS}(h:s.Ok n)(k:bN)(c:Nat):(s.give k c).Ok n:=by
 have f:∀p,p∈(s.pl k).take c->p∉(s.pl k).drop c:=λp h1 h2=>by have:=h.nd k;rw[<-ro c (s.pl k),q_]at this;exact this.2.2 p h1 p h2 rfl
 have sub:∀j p,p∈(s.give k c).pl j->p∈s.pl j:=λj p d=>by
  have d:p∈(if j=k then(s.pl k).take c else s.pl j):=d
  split at d
  ·rename_i e;rw[e];exact MM d
  ·exact d
 refine⟨λj p d=>?_,λj i p h1 h2=>h.dj j i p (sub j p h1) (sub i p h2),λj=>?_⟩
 ·obtain⟨a,b,e⟩:=h.in_ j p (sub j p d);refine⟨a,b,?_⟩;show(if p∈(s.pl k).drop c then false else s.oc p)=true;rw[l_,e];intro z;have d:p∈(if j=k then(s.pl k).take c else s.pl j):=d
  split at d
  ·exact f p d z
  ·rename_i g;exact g (h.dj j k p d (MN z))
 ·show(if j=k then(s.pl k).take c else s.pl j).Nodup
  split
  ·exact(M5 _ _).nodup (h.nd k)
  ·exact h.nd j
theorem AS.Ok.took{n:Nat}{s:AS}(h:s.Ok n)(k:bN)(c:Nat):(s.took n k c).Ok n:=by
 have fr:∀p∈(iw n s.oc).take (c-(s.pl k).length),0<=p/\p<n/\s.oc p=false:=λp f=>sO.mp (MM f);have g:((iw n s.oc).take (c-(s.pl k).length)).Nodup:=(M5 _ _).nodup (xq _ _);unfold AS.took;generalize(iw n s.oc).take (c-(s.pl k).length)=l at fr g;have d:∀j p,p∈(if j=k then s.pl k++l else s.pl j)->p∈s.pl j\/(j=k/\p∈l):=λj p f=>by
  split at f
  ·rename_i e;rcases Ny.mp f with z|z
   ·rw[e];exact .inl z
   ·exact .inr ⟨e,z⟩
  ·exact .inl f
 refine⟨λj p f=>?_,λj i p h1 h2=>?_,λj=>?_⟩
 ·show 0<=p/\p<n/\(if p∈l then true else s.oc p)=true;rcases d j p f with z|⟨_,z⟩
  ·obtain⟨a,b,e⟩:=h.in_ j p z;refine⟨a,b,?_⟩
   split
   ·rfl
   ·exact e
  ·exact⟨(fr p z).1,(fr p z).2.1,by rw[mo z]⟩
 ·rcases d j p h1 with z|⟨m,z⟩<;>rcases d i p h2 with y|⟨o,y⟩
  ·exact h.dj j i p z y
  ·have:=(h.in_ j p z).2.2;rw[(fr p y).2.2]at this;cases this
  ·have:=(h.in_ i p y).2.2;rw[(fr p z).2.2]at this;cases this
  ·rw[m,o]
 ·show(if j=k then s.pl k++l else s.pl j).Nodup
  split
  ·rw[q_];refine⟨h.nd k,g,λa q b r z=>?_⟩;subst z;have h1:=(h.in_ k a q).2.2;rw[(fr a r).2.2]at h1;cases h1
  ·exact h.nd j
abbrev Wl:=List (bN×Int)
def bC(s:AS)(W:Wl):AS:=W.foldl (λs x=>s.give x.1 x.2.toNat) s
def cr:AS->Wl->List Int|_,[]=>[]|s,x::r=>((s.pl x.1).drop x.2.toNat).reverse++cr (s.give x.1 x.2.toNat) r
def bT(n:Nat)(s:AS)(W:Wl):AS:=W.foldl (λs x=>s.took n x.1 x.2.toNat) s
def cW(s:AS)(W:Wl):Int:=(W.map λx=>x.2-((s.pl x.1).length:Int)).sum
def lr(s:AS)(W:Wl)(x:bN×Int):bC s (W++[x])=(bC s W).give x.1 x.2.toNat:=by unfold bC;rw[Mh];rfl
theorem pY:∀(W:Wl)(s:AS)(x:bN×Int),cr s (W++[x])=cr s W++(((bC s W).pl x.1).drop x.2.toNat).reverse|[],s,x=>by show _++[]=[]++_;rw[E2,List.nil_append];rfl|y::r,s,x=>by show _++cr _ (r++[x])=(_++cr _ r)++_;rw[pY r,M8];rfl
def oU(n:Nat)(s:AS)(W:Wl)(x:bN×Int):bT n s (W++[x])=(bT n s W).took n x.1 x.2.toNat:=by unfold bT;rw[Mh];rfl
theorem gQ{n:Nat}:∀(W:Wl){s:AS},s.Ok n->(bC s W).Ok n|[],_,h=>h|x::r,_,h=>gQ r (h.give x.1 x.2.toNat)
theorem kX{n:Nat}:∀(W:Wl){s:AS},s.Ok n->(bT n s W).Ok n|[],_,h=>h|x::r,_,h=>kX r (h.took x.1 x.2.toNat)
theorem jH:∀{W:Wl},(∀x∈W,s'.pl x.1=s.pl x.1)->cW s' W=cW s W|[],_=>rfl|x::r,h=>by have b:=jH (s:=s) (s':=s') (W:=r) λy c=>h y (lm _ c);unfold cW at b⊢;rw[pu,List.sum_cons,pu,List.sum_cons,b,h x m_]
def vV(s:AS)(V W:Wl):cW s (V++W)=cW s V+cW s W:=by unfold cW;rw[me,List.sum_append]
def jg(s:AS)(x:bN×Int)(W:Wl):cW s (x::W)=(x.2-((s.pl x.1).length:Int))+cW s W:=by unfold cW;rw[pu,List.sum_cons]
def G8{a b x:Int}{l t:Nat}(h:l-t+min l t=l):a+(x-((min t l:Nat):Int)+b)=a+(x-l+b)+((l-t:Nat):Int):=by rw[Nat.min_comm];lia
def HU{x:Int}(h:0<=x)(l:Nat):(x-l).toNat=x.toNat-l:=by obtain⟨k,rfl⟩:=Int.eq_ofNat_of_zero_le h;exact Int.toNat_sub k l
def Co{n:Nat}{s:AS}(h:s.Ok n){V W:Wl}{x:bN×Int}(d:0<=x.2)(hn:((V++x::W).map (·.1)).Nodup):cW (s.give x.1 x.2.toNat) (V++x::W)=cW s (V++x::W)+(((s.pl x.1).drop x.2.toNat).length:Int)/\(iw n (s.give x.1 x.2.toNat).oc).length=(iw n s.oc).length+((s.pl x.1).drop x.2.toNat).length:=by
 constructor
 ·rw[vV,vV,jg,jg];rw[me,pu,q_]at hn;have h1:cW (s.give x.1 x.2.toNat) V=cW s V:=jH λy b=>by show(if y.1=x.1 then _ else s.pl y.1)=_;rw[l_ λz=>hn.2.2 y.1 (List.mem_map_of_mem b) x.1 m_ z]
  have h2:cW (s.give x.1 x.2.toNat) W=cW s W:=jH λy b=>by show(if y.1=x.1 then _ else s.pl y.1)=_;rw[l_ λ(z:y.1=x.1)=>(MS.mp hn.2.1).1 (z▸oi.mpr ⟨y,b,rfl⟩)]
  have h3:(s.give x.1 x.2.toNat).pl x.1=(s.pl x.1).take x.2.toNat:=mo rfl;rw[h1,h2,h3,o8,L9];exact G8 (Nat.sub_add_min_cancel _ _)
 ·exact EU ((List.drop_sublist _ _).nodup (h.nd x.1)) λp c=>h.in_ x.1 p (MN c)
theorem y0{n:Nat}{s:AS}(h:s.Ok n){W:Wl}(hn:(W.map (·.1)).Nodup)(h0:∀x∈W,0<=x.2):∀i,i<=W.length->cW (bC s (W.take i)) W+((iw n s.oc).length:Int)=cW s W+((iw n (bC s (W.take i)).oc).length:Int)/\∀x∈W.take i,(((bC s (W.take i)).pl x.1).length:Int)<=x.2
 |0,_=>⟨rfl,λx c=>(nomatch c)⟩|i+1,hi=>by
  obtain⟨e,le⟩:=y0 h hn h0 i (by exact z_ hi);have c:W[i]?=some (W[i]'(by exact hi)):=h_ (by exact hi);have b:W=W.take i++W[i]'(by exact hi)::W.drop (i+1):=by have:=ro i W;rw[List.drop_eq_getElem_cons (by exact hi)]at this;exact this.symm
  have hm:=g_ c;generalize W[i]'(by exact hi)=x at c b hm;have d:W.take (i+1)=W.take i++[x]:=by rw[x_,c];rfl
  have f:=Co (gQ (W.take i) h) (V:=W.take i) (x:=x) (W:=W.drop (i+1)) (h0 x hm) (by rw[<-b];exact hn);rw[<-b]at f;rw[d,lr];refine⟨by lia,λy j=>?_⟩;show(((if y.1=x.1 then((bC s (W.take i)).pl x.1).take x.2.toNat else(bC s (W.take i)).pl y.1)).length:Int)<=y.2;rcases Ny.mp j with z|z
  ·have g:y.1≠x.1:=λq=>by rw[b,me,pu,q_]at hn;exact hn.2.2 y.1 (oi.mpr ⟨y,z,rfl⟩) x.1 m_ q
   rw[l_ g];exact le y z
  ·rw[List.mem_singleton.mp z,mo rfl,o8];exact Int.le_trans (Nq.mpr (N4 _ _)) (Int.le_of_eq (E_ (h0 x hm)))
def CY{n:Nat}{s:AS}{k:bN}{c:Nat}(h:c-(s.pl k).length<=(iw n s.oc).length):(iw n (s.took n k c).oc).length=(iw n s.oc).length-(c-(s.pl k).length):=by show(iw n λp=>if p∈(iw n s.oc).take (c-(s.pl k).length)then true else s.oc p).length=_;rw[Cp,L9]
def xc{n:Nat}{c:Ol}(h:c.Nodup)(d:∀p∈c,0<=p/\p<n):c.length<=n:=by
 have:=yM (l:=c) (m:=(List.range n).map λ(i:Nat)=>(i:Int)) h λp b=>by obtain⟨h1,h2⟩:=d p b;exact oi.mpr ⟨p.toNat,yl.mpr (by lia),by exact E_ h1⟩
 rw[b_,r4]at this;exact this
def JF(K:N_)(H:Hp)(d:List V)(W:Wl):Prop:=Paired (λ(v:V)(x:bN×Int)=>∃b c,v=.ref b/\aS K H b [c,.int x.2]/\cR K H x.1 c) d W
def JF.get(h:JF K H d W)(i:Nat)(v:V)(e:d[i]?=some v):∃x,W[i]?=some x/\∃b c,v=.ref b/\aS K H b [c,.int x.2]/\cR K H x.1 c:=Paired.at_ h i v e
def D3(h:mO d f H H')(h1:H d=some (.dK g))(h2:H f=some (.ext φ))(e:aS K H b c):aS K H' b c:=by have kp:Kp H H':=⟨λu c e=>h.tp h1 h2 e,λu o⟨i,e⟩=>⟨i,h u _ e (λz=>by rw[z,h1]at e;cases e) (λz=>by rw[z,h2]at e;cases e)⟩⟩;exact kp.tq e
def eW.list(h:eW P w K C H t i j n ow tk m)(d:H c=some (.lst bs))(f:∀x∈tk,x.2.2≠.ref c):eW P w K C (aI H c (.lst cs)) t i j n ow tk m:=by
 obtain⟨dx,b⟩:=h.ins;have kp:Kp H (aI H c (.lst cs)):=.lst d;refine⟨⟨dx,by rw[au (λz=>by rw[z,d]at b;cases b)];exact b⟩,by rw[au (λz=>by have e:=h.own;rw[z,d]at e;cases e)];exact h.own,by rw[au (λz=>by have e:=h.tak;rw[z,d]at e;cases e)];exact h.tak,λx k=>?_,?_⟩
 ·exact cq kp (h.keys x k)
 ·have go:∀{tk:List eU}{m:List Pl},fB H tk m->(∀x∈tk,x.2.2≠.ref c)->fB (aI H c (.lst cs)) tk m:=by
   intro tk m h f
   induction h with|nil=>exact .nil|@cons x y v A r t o=>obtain⟨p,q,l,g,s⟩:=r;refine .cons ⟨p,q,l,g,?_⟩ (o λz u=>f z (lm _ u));rw[au (λz=>f x m_ (by rw[g,z]))];exact s
  exact go h.lsts f
theorem fB.at_(h:fB H tk m)(i:Nat)(x:eU)(e:tk[i]?=some x):∃y:Pl,m[i]?=some y/\∃l,x.2.2=.ref l/\H l=some (.lst (y.2.2.map V.int)):=(Paired.at_ h i x e).imp λ_ q=>⟨q.1,q.2.2.2⟩
def EO(c:Ol):∀(ow:List (bQ×V)),(sH ow c).length<=ow.length:=by induction c with|nil=>intro ow;exact f_ _|cons p r b=>intro ow;exact n7 (b _) (y8 ow (.inl p))
def uv(f:List (bN×g×h))(k j:bN)(b:g)(v:h):dQ (fI f k b v) j=if j=k then some v else dQ f j:=by
 have d:∀c:List (bN×g×h),dQ (c.map λy=>if y.1=k then(y.1,y.2.1,v)else y) j=(dQ c j).map λx=>if j=k then v else x:=by
  intro c
  induction c with|nil=>rfl|cons z r m=>
   unfold dQ at m⊢;rw[pu,t4,t4];have i:(if z.1=k then(z.1,z.2.1,v)else z).1=z.1:=by split<;>rfl
   rw[i]
   by_cases e:z.1=j
   ·rw[ol e];show some (if z.1=k then(z.1,z.2.1,v)else z).2.2=some (if j=k then v else z.2.2);rw[e]
    split<;>rfl
   ·rw[op e];exact m
 have l:∀c:List (bN×g×h),dQ c k=none->dQ (c++[(k,b,v)]) j=if j=k then some v else dQ c j:=by
  intro c i;unfold dQ at i⊢;rw[List.find?_append]
  by_cases e:j=k
  ·subst e;rw[mo rfl,Option.map_eq_none_iff.mp i];simp
  ·rw[l_ e];have:List.find? (λy:bN×g×h=>decide (y.1=j)) [(k,b,v)]=none:=by simp[rb e]
   rw[this,Option.or_none]
 unfold fI
 by_cases hc:(dQ f k).isSome=true
 ·rw[mo hc,d]
  by_cases e:j=k
  ·subst e;obtain⟨x,n⟩:=z8.mp hc;rw[n,mo rfl];simp
  ·rw[l_ e];simp[e]
 ·rw[l_ hc];exact l f (by simpa using hc)
def jp(n:Nat)(s:AS)(ow:List (bQ×V))(m:List Pl):Prop:=(∀k,bE m k=s.pl k)/\∀p:Int,0<=p->p<n->(bn ow (.inl p)).isSome=s.oc p
def iN(m:List Pl)(k j:bN)(d:V)(c:Ol):bE (fI m k d c) j=if j=k then c else bE m j:=by
 unfold bE;rw[uv]
 split<;>rfl
def jp.free(h:jp n s ow m):gz n ow=iw n s.oc:=by
 unfold gz iw
 congr 1
 refine NP λi hi=>?_;have:=yl.mp hi;rw[<-h.2 i (by exact mu _) (by exact NR.mpr this)];cases bn ow (.inl (i:Int))<;>rfl
theorem jp.give(h:jp n s ow m)(k:bN)(d:V)(c:Nat):jp n (s.give k c) (sH ow ((s.pl k).drop c).reverse) (fI m k d ((s.pl k).take c)):=by
 refine⟨λj=>?_,λp e f=>?_⟩
 ·rw[iN,h.1];rfl
 ·rw[qk];show _=if p∈(s.pl k).drop c then false else s.oc p
  by_cases b:p∈(s.pl k).drop c
  ·rw[mo b,mo (L8.mpr b)];rfl
  ·rw[l_ b,l_ (λz=>b (L8.mp z))];exact h.2 p e f
theorem jp.took(h:jp n s ow m)(k:bN)(d:V)(c:Nat):jp n (s.took n k c) (mH ow d ((iw n s.oc).take (c-(s.pl k).length))) (fI m k d (s.pl k++(iw n s.oc).take (c-(s.pl k).length))):=by
 refine⟨λj=>?_,λp b e=>?_⟩
 ·rw[iN,h.1];rfl
 ·rw[sV];show _=if p∈(iw n s.oc).take (c-(s.pl k).length)then true else s.oc p
  split
  ·rfl
  ·exact h.2 p b e
def fF.refl(H:Hp)(tk:List eU):fF H tk tk:=λx b=>.inl ⟨x,b,rfl⟩
theorem fF.trans(a:fF H tk c)(b:fF i c d)(h:∀l,i l=none->H l=none):fF H tk d:=λx j=>by
 rcases b x j with⟨y,k,e⟩|⟨l,e,f⟩
 ·rcases a y k with⟨z,m,g⟩|⟨l,g,f⟩
  ·exact .inl ⟨z,m,g.trans e⟩
  ·exact .inr ⟨l,e▸g,f⟩
 ·exact .inr ⟨l,e,h l f⟩
def dI{c:Type}{l:List c}{i:Nat}{x:c}(h:l[i]?=some x):l.take (i+1)=l.take i++[x]:=by rw[x_,h];rfl
theorem rO{n:Nat}:∀(W:Wl){s:AS},s.Ok n->(cr s W).length<=n*W.length|[],_,_=>o_ _|x::r,s,h=>by show(_++cr _ r).length<=n*(r.length+1);have c:=rO r (h.give x.1 x.2.toNat);have h1:=xc (h.nd x.1) λp b=>⟨(h.in_ x.1 p b).1,(h.in_ x.1 p b).2.1⟩;rw[k_,MW,L9,Nat.mul_add,Nat.mul_one,Nat.add_comm];exact Nat.add_le_add c (n7 (Nat.sub_le _ _) h1)
def iV{K:N_}{a:Addr}{xs:List V}{g:TG}{tb:TS}{D:j3}{c:St}{H:Hp}(Pv:Nat->St->Hp->Prop)(h0:Pv 0 c H)(f:∀i c H,i<=xs.length->Pv i c H->aY K H a xs)(h:∀i x c H,xs[i]?=some x->Pv i c H->∀(N:St->Hp->Prop)(R:VK)(B:St->Hp->Prop),(∀c H,Pv (i+1) c H->N c H)->g x c H λd j=>tb ⟨N,R,B,N⟩ d j)(hd:∀c H,Pv xs.length c H->D.nx c H):=uC (K:=K) (a:=a) (g:=g) (tb:=tb) (D:=D) Pv h0 f (λi x c H e p=>h i x c H e p _ D.rt _ λ_ _ q=>q) hd
def lu{lo:Int}{n:Nat}{g:TG}{tb:TS}{D:j3}{c:St}{H:Hp}(Pv:Nat->St->Hp->Prop)(h0:Pv 0 c H)(f:∀i c H,i<n->Pv i c H->∀(N:St->Hp->Prop)(R:VK)(B:St->Hp->Prop),(∀c H,Pv (i+1) c H->N c H)->g (.int (lo+i)) c H λd h=>tb ⟨N,R,B,N⟩ d h)(hd:∀c H,Pv n c H->D.nx c H):=ng (lo:=lo) (n:=n) (g:=g) (tb:=tb) (D:=D) Pv h0 (λi c H e p=>f i c H e p _ D.rt _ λ_ _ q=>q) hd
def uY(R:bN->V->Prop)(n:Nat)(s:AS)(ow:List (bQ×V)):Prop:=∀(p:Int)(v:V),0<=p->p<n->bn ow (.inl p)=some v->∃k,p∈s.pl k/\R k v
theorem uY.give(h:uY R n s ow)(k:bN)(c:Nat):uY R n (s.give k c) (sH ow ((s.pl k).drop c).reverse):=by
 intro p v d f e;rw[qk]at e
 split at e
 ·cases e
 ·rename_i g;obtain⟨j,b,r⟩:=h p v d f e;refine⟨j,?_,r⟩;show p∈if j=k then(s.pl k).take c else s.pl j
  split
  ·rename_i i;rw[i,<-ro c (s.pl k),Ny]at b;exact b.resolve_right λz=>g (L8.mpr z)
  ·exact b
theorem uY.took(h:uY R n s ow)(k:bN)(d:R k f)(c:Nat):uY R n (s.took n k c) (mH ow f ((iw n s.oc).take (c-(s.pl k).length))):=by
 intro p v g i e;rw[sV]at e
 split at e
 ·rename_i l;cases e;refine⟨k,?_,d⟩;show p∈if k=k then s.pl k++(iw n s.oc).take (c-(s.pl k).length)else s.pl k
  rw[mo rfl];exact rd _ l
 ·obtain⟨j,b,r⟩:=h p v g i e;refine⟨j,?_,r⟩;show p∈if j=k then s.pl k++(iw n s.oc).take (c-(s.pl k).length)else s.pl j
  split
  ·rename_i m;rw[m]at b;exact th _ b
  ·exact b
def uY.mono(h:uY R n s ow)(f:∀k v,R k v->c k v):uY c n s ow:=λp v b d e=>let⟨k,h1,h2⟩:=h p v b d e;⟨k,h1,f k v h2⟩
inductive Db(P:Oe)(w:World)(K:N_)(C N:Addr)(vs:List V)(H:Hp)(Q:VK)(E:XK):Prop|mk(t od td wl:Addr)(n:Nat)(ow:List (bQ×V))(tk:List eU)(m:List Pl)(S:AS)(W:Wl)(ts:List V)(_:vs=[.ref t,.ref wl])(_:eW P w K C H t od td n ow tk m)(_:jp n S ow m)(_:uY (cR K H) n S ow)(_:S.Ok n)(_:H wl=some (.lst ts))(_:JF K H ts W)(_:(∀x∈W,0<=x.2))(_:(W.map (·.1)).Nodup)(_:W.length<=5)(_:n<=1000)(_:tk.length<=5000)(_:ow.length<=500000)(_:(cW S W<=((iw n S.oc).length:Int)->∀(l:Addr)(ow':List (bQ×V))(tk':List eU)(m':List Pl)H',mO od td H H'->eW P w K C H' t od td n ow' tk' m'->jp n (bT n (bC S W) W) ow' m'->uY (cR K H) n (bT n (bC S W) W) ow'->H l=none->H' l=some (.lst ((cr S W).map V.int))->fF H tk tk'->(∀x∈tk',x.2.2≠.ref l)->tk'.length<=tk.length+10->ow'.length<=ow.length+5000->Q (.ref l) H'))(_:(((iw n S.oc).length:Int)<cW S W->∀H',aq H H'->E (.ref N) none H'))
def Le{a b c d i:Nat}(h1:b<=a+1000*i)(h2:c<=b+d)(h3:d<=1000):c<=a+1000*(i+1):=by rw[Nat.mul_add,<-Nat.add_assoc];exact n7 h2 (Nat.add_le_add h1 h3)
inductive JG(P:Oe)(w:World)(K:N_)(a:fV)(H H2:Hp)(t od td:Addr)(n:Nat)(wl lb:Addr)(tk:List eU)(ow:List (bQ×V))(S:AS)(W:Wl)(i:Nat)(σ:St)(H':Hp):Prop|mk(ow':List (bQ×V))(tk':List eU)(m':List Pl)(v2 v4 v5:Option V)(o:mO od td H2 H')(hT:eW P w K a.bS H' t od td n ow' tk' m')(hS:jp n (bC S (W.take i)) ow' m')(hR:uY (cR K H) n (bC S (W.take i)) ow')(nw:fF H2 tk tk')(lt:tk'.length<=tk.length+i)(lo:ow'.length<=ow.length)(nl:∀x∈tk',x.2.2≠.ref lb)(bs:H' lb=some (.lst ((cr S (W.take i)).map V.int)))(le:∀j x,j<i->W[j]?=some x->((bE m' x.1).length:Int)<=x.2)(e:σ=[some (.ref t),some (.ref wl),v2,some (.ref lb),v4,v5]):JG P w K a H H2 t od td n wl lb tk ow S W i σ H'
inductive JH(P:Oe)(w:World)(K:N_)(a:fV)(H H2:Hp)(t od td:Addr)(n:Nat)(wl lb:Addr)(tk':List eU)(ow':List (bQ×V))(tk:List eU)(S:AS)(W:Wl)(v2:Option V)(i:Nat)(σ:St)(H':Hp):Prop|mk(ow5:List (bQ×V))(tk5:List eU)(m5:List Pl)(v4 v5:Option V)(o:mO od td H2 H')(hT:eW P w K a.bS H' t od td n ow5 tk5 m5)(hS:jp n (bT n (bC S W) (W.take i)) ow5 m5)(hR:uY (cR K H) n (bT n (bC S W) (W.take i)) ow5)(nw:fF H2 tk tk5)(nl:∀x∈tk5,x.2.2≠.ref lb)(bs:H' lb=some (.lst ((cr S W).map V.int)))(lt:tk5.length<=tk'.length+i)(lo:ow5.length<=ow'.length+1000*i)(le:∀j x,i<=j->W[j]?=some x->((bE m5 x.1).length:Int)<=x.2)(e:σ=[some (.ref t),some (.ref wl),v2,some (.ref lb),v4,v5]):JH P w K a H H2 t od td n wl lb tk' ow' tk S W v2 i σ H'
section
def nU(T:Txt K mg a):aT P w K mg base (oS P w) 3 a.eB.x a.eB.d ["self","wanted"] (Db P w K a.bS a.mP):=by
 refine T.eB.okE dB λer A outer s H vs Q E hr h=>?_
 ·obtain⟨t,od,td,wl,n,ow,tk,m,S,W,ts,rfl,hT,hS,hR,hO,c0,hW,dc,eg,es,hn,et,ev,q,qe⟩:=h;refine⟨_,(ai (bj 2 dB.nd (aA (CC K rfl rfl) (by rfl) T.KL L2.Fj (ae (sQ iR [] [4,5] [4,5] (ao k9) (xo _ 4 5) (c7 K rfl (Y 1)) (λcl C s₀ H₀ ex=>⟨(gq K rfl rfl (bH (nA iR [] 4) (bH (nA iR [] 5) gp))),ck,(az fW (Y 5) (aA (aJ K rfl) (by rfl) T.bF L2.aL (ae (bA (Y 0) T.bx T.bg.m ((d9 (P:=P) (w:=w) T).mono (by decide)) hr T.bg.b .nil bw (ae (Y 4) af)) af)))⟩)) af))) (ai (aM (aE nR (Y 2) (aA (aJ K rfl) (by rfl) T.bF L2.aL (ae (t7 (Y 0) T.bx T.eC.m ((nV (P:=P) (w:=w) T).mono (by decide)) hr T.eC.b .nil bw) af)) (aG _)) (aj (eO T.Ct rfl T.Eu rfl eM (ae ay af))) aF) (ai (bj 3 dB.nd (bh af)) (ai (PS.nox (d6 qq rfl (c7 K rfl (Y 1)) (gq K rfl rfl (bH (qg 4 dB.nd) (bH (qg 5 dB.nd) gp))) (aj (aZ (jc K rfl PySem.F.plainAttrs_list PySem.F.slot_list_extend PySem.F.type_list_extend vX (Y 3) (ae (bA (Y 0) T.bx T.cN.m ((oG (P:=P) (w:=w) T).mono (by decide)) hr T.cN.b .nil bw (ae (Y 4) (ae (Y 5) af))) af)))))) (ai (PS.nox (d6 qq rfl (c7 K rfl (Y 1)) (gq K rfl rfl (bH (qg 4 dB.nd) (bH (qg 5 dB.nd) gp))) (aj (aZ (bA (Y 0) T.bx T.fY.m ((ve (P:=P) (w:=w) T).mono (by decide)) hr T.fY.b .nil bw (ae (Y 4) (ae (Y 5) af))))))) (aj (aB (Y 3)))))))),?_⟩
  obtain⟨dx,hI⟩:=hT.ins;have di:ts.length=W.length:=Paired.length hW;refine U rfl ⟨wl,rfl,⟨_,aY.of c0⟩,λD hD=>?_⟩;refine gR (K:=K) (a:=wl) (xs:=ts) (λi ax H'=>aq H H'/\H' D=some (.lst ax)/\ax=((W.take i).map λx=>x.2-((S.pl x.1).length:Int)).map V.int) ⟨ak (aq.refl _) hD,ag,rfl⟩ (λi ax H' _ h=>aY.of (h.1 _ _ c0)) ?_ ?_
  ·rintro i v ax H1 hv⟨s1,ba,rfl⟩;have hi:i<ts.length:=(d_.mp hv).1;obtain⟨x,L,b,kv,rfl,hb,hk⟩:=hW.get i v hv;refine⟨b,U rfl ⟨aq.tseq s1 hb,rfl,_,U rfl (av ⟨_,U rfl (av ⟨rfl,iZ (bo ?_)⟩)⟩)⟩⟩;refine U rfl (nQ (s1 _ _ hI) rfl rfl (U rfl ⟨t,od,td,n,ow,tk,m,x.1,kv,rfl,hT.same s1,oK s1 hk,λlp H2 s2 ew ei=>?_⟩));refine⟨_,U rfl ⟨.inl ⟨_,aY.of ei,rfl⟩,_,U rfl ⟨rfl,s2 _ _ ba,by rw[b_,b_,o8,nk];omega,lf hi ⟨bv (s1.trans s2) hD,ag,?_⟩⟩⟩⟩;rw[dI L,me,me,hS.1,b_];rfl
  ·rintro ax H1⟨s1,ba,rfl⟩;rw[oD (by exact Mt di.symm)]at ba;refine⟨D,U rfl ⟨.inl (aY.of ba),av ?_⟩⟩;have ej:=hT.same s1;refine U rfl (nQ (s1 _ _ hI) rfl rfl ⟨t,od,td,n,ow,tk,m,rfl,ej,hn,λey H2 s2 ez dt=>?_⟩);rw[hS.free]at dt;refine⟨_,U rfl ⟨.inl ⟨_,aY.of dt,rfl⟩,_,U rfl ⟨rfl,U rfl ?_⟩⟩⟩;have I:=s1.trans s2;rw[b_];refine xl (λe=>⟨ls rfl,qe (ov e) H2 I⟩) (λe=>lP ⟨ls rfl,λlb aa=>av ?_⟩);have q:=q (Int.not_lt.mp (of_decide_eq_false e));clear e qe;have ac:=hT.same I;have s3:=ak (o:=.lst []) (aq.refl H2) aa;have b0:aI H2 lb (.lst []) lb=some (.lst []):=ag;have dv:H lb=none:=I.free aa;generalize aI H2 lb (.lst [])=H3 at s3 b0⊢;have g:=I _ _ c0;refine U rfl ⟨wl,rfl,⟨_,aY.of (s3 _ _ g)⟩,?_⟩;have a2:lb≠od:=λz=>by have e:=ac.own;rw[<-z,aa]at e;cases e
   have a3:lb≠td:=λz=>by have e:=ac.tak;rw[<-z,aa]at e;cases e
   have dK:wl≠od:=λz=>by have e:=ac.own;rw[<-z,g]at e;cases e
   have dT:wl≠td:=λz=>by have e:=ac.tak;rw[<-z,g]at e;cases e
   have ad:wl≠od/\wl≠td:=⟨dK,dT⟩;have dV:∀x∈tk,x.2.2≠.ref lb:=λx L z=>by obtain⟨i,hi⟩:=m3.mp L;obtain⟨y,_,l,e3,e4⟩:=fB.at_ ac.lsts i x hi;rw[e3]at z;cases z;rw[aa]at e4;cases e4
   have d1:fF H2 tk tk:=fF.refl _ _;have fresh:∀H',mO od td H2 H'->H' od≠none->H' td≠none->∀l,H' l=none->H2 l=none:=λH' o h1 h2 l hl=>pQ o h1 h2 hl;refine iV (xs:=ts) (JG P w K a H H2 t od td n wl lb tk ow S W) ⟨ow,tk,m,_,_,_,.of s3,ac.same s3,hS,hR,d1,f_ _,f_ _,dV,b0,λj x hj=>absurd hj (Nv _),rfl⟩ (λi σ H' _ h=>by obtain⟨_,_,_,_,_,_,o,_⟩:=h;exact aY.of (o _ _ g ad.1 ad.2)) ?_ ?_
   ·rintro i v σ H4 hv⟨al,bb,m',v2,v4,v5,o4,an,ap,bc,a5,d2,b8,a6,k,X,rfl⟩N R B hN;have hi:i<ts.length:=(d_.mp hv).1;obtain⟨x,L,b,kv,rfl,hb,hk⟩:=hW.get i v hv;have bi:=dc x (g_ L);obtain⟨eG,ek⟩:=an.ins;have d3:mO od td H H4:=(mO.of I).trans o4;have M:=gQ (W.take i) hO;have as:=dI L;have f:=ap.1 x.1;have c1:(bE m' x.1).length<=n:=by rw[f];exact xc (M.nd x.1) λp hp=>⟨(M.in_ x.1 p hp).1,(M.in_ x.1 p hp).2.1⟩
    have el:=rO (W.take i) hO;have d4:n*(W.take i).length<=1000*5:=Nat.mul_le_mul hn (by rw[o8];lia);refine⟨b,U rfl ⟨D3 d3 hT.own hT.tak hb,rfl,_,U rfl (av ⟨_,U rfl (av ⟨rfl,?_⟩)⟩)⟩⟩;refine U rfl ⟨.inl ⟨rfl,_,aY.of k⟩,nQ ek rfl rfl (U rfl (U rfl ⟨t,od,td,n,al,bb,m',x.1,kv,x.2,rfl,an,eR d3 hT.own hT.tak hk,bi,by lia,λp hp=>?_,by rw[f];exact M.nd x.1,λl O H5 o5 eH d5 b9 r G=>?_⟩))⟩
    ·rw[f]at hp;obtain⟨p0,p1,p2⟩:=M.in_ x.1 p (MN hp);rw[ap.2 p p0 p1];exact p2
    ·have cc:=o5 _ _ k a2 a3;have u:∀y∈O,y.2.2≠.ref lb:=λy hy z=>by
      rcases r y hy with⟨y',c2,e⟩|⟨l',e,a7⟩
      ·exact a6 y' c2 (e.trans z)
      ·rw[e]at z;cases z;rw[k]at a7;cases a7
     have bl:(sH al ((bE m' x.1).drop x.2.toNat).reverse).length<=al.length:=EO _ _;have c3:fF H2 tk O:=a5.trans r (fresh H4 o4 (by rw[an.own];simp) (by rw[an.tak];simp));have J:=ap.give x.1 kv x.2.toNat;rw[f]at d5 G bl;refine⟨lb,l,_,U rfl ⟨rfl,cc,d5,by rw[b_,b_,MW,L9,nk];rw[f]at c1;exact n7 (Nat.add_le_add (n7 el d4) (n7 (Nat.sub_le _ _) (n7 c1 hn))) (by decide),?_⟩⟩;refine hN _ _ ⟨_,O,_,_,_,_,λc o e h1 h2=>?_,G.list cc u,by rw[as,lr];exact J,by rw[as,lr];exact bc.give x.1 x.2.toNat,c3,by omega,n7 bl b8,u,?_,λj y hj hy=>?_,rfl⟩
     ·rw[au (λz=>by rw[z,aa]at e;cases e)];exact o5 _ _ (o4 c o e h1 h2) h1 h2
     ·rw[as,pY,me];exact ag
     ·rw[iN]
      split
      ·rename_i e;rcases No j i with a8|a8
       ·have h1:=X j y a8 hy;rw[e,f]at h1;rw[o8];exact Int.le_trans (Nq.mpr (MH _ _)) h1
       ·have:j=i:=by lia
        subst this;rw[L]at hy;cases hy;rw[o8];exact Int.le_trans (Nq.mpr (N4 _ _)) (Int.le_of_eq (E_ bi))
      ·rename_i e;rcases No j i with a8|a8
       ·exact X j y a8 hy
       ·have:j=i:=by lia
        subst this;rw[L]at hy;cases hy;exact absurd rfl e
   ·rintro σ H4⟨al,bb,m',v2,v4,v5,o4,an,ap,bc,a5,d2,b8,a6,k,X,rfl⟩;rw[oD (by lia)]at ap bc k;have M:=gQ W hO;refine U rfl ⟨wl,rfl,⟨_,aY.of (o4 _ _ g ad.1 ad.2)⟩,?_⟩;refine iV (xs:=ts) (JH P w K a H H2 t od td n wl lb bb al tk S W v2) ⟨al,bb,m',_,_,o4,an,ap,bc,a5,a6,k,f_ _,f_ _,λj x _ L=>X j x (by rw[di];exact(d_.mp L).1) L,rfl⟩ (λi σ H' _ h=>by obtain⟨_,_,_,_,_,o,_⟩:=h;exact aY.of (o _ _ g ad.1 ad.2)) ?_ ?_
    ·rintro i v σ H5 hv⟨bt,O,m5,v4,v5,o5,G,J,bz,r,u,Z,b9,ci,cC,rfl⟩N R B hN;have hi:i<ts.length:=(d_.mp hv).1;obtain⟨x,L,b,kv,rfl,hb,hk⟩:=hW.get i v hv;have bi:=dc x (g_ L);obtain⟨eN,en⟩:=G.ins;have ea:mO od td H H5:=(mO.of I).trans o5;have c4:=kX (W.take i) M;have as:=dI L;have f:=J.1 x.1;have c1:(bE m5 x.1).length<=n:=by rw[f];exact xc (c4.nd x.1) λp hp=>⟨(c4.in_ x.1 p hp).1,(c4.in_ x.1 p hp).2.1⟩
     have da:=cC i x (f_ _) L;refine⟨b,U rfl ⟨D3 ea hT.own hT.tak hb,rfl,_,U rfl (av ⟨_,U rfl (av ⟨rfl,?_⟩)⟩)⟩⟩;refine nQ en rfl rfl (U rfl (U rfl ⟨t,od,td,n,bt,O,m5,x.1,kv,x.2,rfl,G,eR ea hT.own hT.tak hk,hn,da,by lia,by lia,by lia,λeb H6 o6 eq cO ec=>?_⟩));have eo:(x.2-((bE m5 x.1).length:Int)).toNat=x.2.toNat-(((bT n (bC S W) (W.take i)).pl x.1).length):=by rw[<-f];exact HU bi _
     rw[eo,J.free,f]at ec;have bl:=wj kv ((iw n (bT n (bC S W) (W.take i)).oc).take (x.2.toNat-(((bT n (bC S W) (W.take i)).pl x.1).length))) bt;have ed:((iw n (bT n (bC S W) (W.take i)).oc).take (x.2.toNat-(((bT n (bC S W) (W.take i)).pl x.1).length))).length<=1000:=by have:=Js n (bT n (bC S W) (W.take i)).oc;rw[o8];exact n7 (MH _ _) (n7 this hn)
     have ep:=J.took x.1 kv x.2.toNat;have ef:∀y∈eb,y.2.2≠.ref lb:=λy hy z=>by
      rcases cO y hy with⟨y',c2,e⟩|⟨l',e,a7⟩
      ·exact u y' c2 (e.trans z)
      ·rw[e]at z;cases z;rw[Z]at a7;cases a7
     refine hN _ _ ⟨_,eb,_,_,_,o5.trans o6,ec,by rw[as,oU];exact ep,by rw[as,oU];exact bz.took x.1 hk x.2.toNat,r.trans cO (fresh H5 o5 (by rw[G.own];simp) (by rw[G.tak];simp)),ef,o6 _ _ Z a2 a3,by omega,Le ci bl ed,λj y hj hy=>?_,rfl⟩;rw[iN,l_ (λz=>?_)]
     ·exact cC j y (by lia) hy
     ·have e1:(W.map (·.1))[j]?=some x.1:=by rw[i_,hy,<-z];rfl
      have e2:(W.map (·.1))[i]?=some x.1:=by rw[i_,L];rfl
      have:=(M7 (d_.mp e1).1 eg).mp (e1.trans e2.symm);lia
    ·rintro σ H5⟨bt,O,m5,v4,v5,o5,G,J,bz,r,u,Z,b9,ci,_,rfl⟩;rw[oD (by lia)]at J bz;exact U rfl (q lb bt O m5 H5 ((mO.of I).trans o5) G J bz dv Z (fF.trans (fF.refl H tk) r λl hl=>I.free hl) u (by lia) (by lia))
end
abbrev gd(ns:Ol)(k:Nat):Int:=ns.getD k 0
def Au(c gs:Ol):Nat->Nat|0=>0|n+1=>if gd c (n+1)*(gd gs (Au c gs n)+1)>gd c (Au c gs n)*(gd gs (n+1)+1)then n+1 else Au c gs n
theorem xr(c gs:Ol):∀n,Au c gs n<=n
 |0=>f_ _|n+1=>by
  have:=xr c gs n;unfold Au
  split<;>lia
def deal(c:Ol):Nat->List Int|0=>List.replicate c.length 0|n+1=>(deal c n).set (Au c (deal c n) (c.length-1)) (gd (deal c n) (Au c (deal c n) (c.length-1))+1)
theorem kR(c:Ol):∀n,(deal c n).length=c.length|0=>by simp[deal]|n+1=>by rw[deal,y3,kR c n]
def Jq(ns:Ol)(i j:Nat)(v:Int)(h:i<ns.length):gd (ns.set i v) j=if i=j then v else gd ns j:=by
 unfold gd;rw[to,to,M6]
 by_cases e:i=j
 ·rw[mo e,mo e];simp[h]
 ·rw[l_ e,l_ e]
theorem xt(c:Ol):∀n k,0<=gd (deal c n) k/\gd (deal c n) k<=n
 |0,k=>by
  have e:gd (deal c 0) k=0:=by
   unfold gd deal;rw[to,List.getElem?_replicate]
   split<;>rfl
  rw[e];exact⟨M9 _,by exact M9 _⟩|n+1,k=>by
  have b:=xt c n
  by_cases h0:c.length=0
  ·have:(deal c (n+1)).length=0:=by rw[kR,h0]
   have e:=List.length_eq_zero_iff.mp this;rw[e];exact⟨M9 _,by show(0:Int)<=_;exact mu _⟩
  ·have d:=xr c (deal c n) (c.length-1);rw[deal,Jq _ _ _ _ (by rw[kR];lia)]
   split
   ·have:=b (Au c (deal c n) (c.length-1));lia
   ·have:=b k;lia
inductive Ir(K:N_)(vs:List V)(H:Hp)(Q:VK)(_E:XK):Prop|mk(wt gl:Addr)(ws gs:Ol)(_:vs=[.ref wt,.ref gl])(_:aS K H wt (ws.map V.int))(_:aY K H gl (gs.map V.int))(_:gs.length=ws.length)(_:0<ws.length)(_:ws.length<=4)(_:(∀k,0<=gd gs k/\gd gs k<=2000))(_:Q (.int (Au ws gs (ws.length-1):Nat)) H)
inductive F3(K:N_)(vs:List V)(H:Hp)(Q:VK)(_E:XK):Prop|mk(n:Nat)(wt:Addr)(ws:Ol)(_:vs=[.int n,.ref wt])(_:n<=2000)(_:aS K H wt (ws.map V.int))(_:0<ws.length)(_:ws.length<=4)(_:∀t H',aq H H'->H' t=some (.tup ((deal ws n).map V.int))->Q (.ref t) H')
section
def yB(T:Txt K mg a):aT P w K mg base dR 1 a.kH.x a.kH.d ["weights","given"] (Ir K):=by
 refine T.kH.ok ju λl A outer s H t Q E u h=>?_
 ·obtain⟨m,gl,b,gs,rfl,c,g,j,y,l4,k,q⟩:=h;refine⟨_,(ai (bj 2 ju.nd ah) (ai (d6 qq rfl (vS rfl T.eh (ae ah (ae (aA (aJ K rfl) (by rfl) T.bF L2.aL (ae (Y 0) af)) af))) (qg 3 ju.nd) (aj (aM (aE nR (az gL (cQ K (Y 0) (Y 3)) (az bR (gG K (Y 1) (Y 2)) ah)) (az gL (cQ K (Y 0) (Y 2)) (az bR (gG K (Y 1) (Y 3)) ah)) (aG _)) (aj (bj 2 ju.nd (Y 3))) aF))) (aj (aB (Y 2))))),?_⟩
  refine U rfl ⟨_,b.length,rfl,.inr ⟨_,c,by simp⟩,_,U rfl ⟨⟨by decide,by decide,by exact mu _,by lia⟩,?_⟩⟩;refine ng (lo:=1) (n:=((b.length:Int)-1).toNat) (λi f H'=>H=H'/\∃v,f=[some (.ref m),some (.ref gl),some (.int (Au b gs i:Nat)),v]) ⟨rfl,_,rfl⟩ ?_ ?_
  ·rintro i f _ hi⟨rfl,v,rfl⟩;have hd:=xr b gs i;have o:0<=gs.getD (Au b gs i) 0/\gs.getD (Au b gs i) 0<=2000:=k (Au b gs i);have p:0<=gs.getD (i+1) 0/\gs.getD (i+1) 0<=2000:=k (i+1);have r:((1:Int)+(i:Int))=((i+1:Nat):Int):=by lia
   refine U rfl (U rfl (rX c (nq (by exact mu _) (by omega)) (U rfl (U rfl (rX g (nq (by exact mu _) (by omega)) (r2 (r2 ?_)))))));refine⟨.inr ⟨?_,?_⟩,?_⟩
   ·simp only[sf];lia
   ·simp only[sf];lia
   refine U rfl (U rfl (rX c (nq (by exact mu _) (by omega)) (U rfl (U rfl (rX g (nq (by exact mu _) (by omega)) (r2 (r2 ?_)))))));rw[r];refine⟨.inr ⟨?_,?_⟩,?_⟩
   ·simp only[sf];lia
   ·simp only[sf];lia
   refine r2 (U rfl ?_);simp only[sf];refine lO (λh=>?_) (λh=>?_)
   ·refine U rfl ⟨rfl,some (.int ((i+1:Nat):Int)),?_⟩;rw[Au,mo h];rfl
   ·refine⟨rfl,some (.int ((i+1:Nat):Int)),?_⟩;rw[Au,l_ h];rfl
  ·rintro f _⟨rfl,v,rfl⟩;have e:((b.length:Int)-1).toNat=b.length-1:=by lia
   rw[e];exact U rfl q
def DZ(T:Txt K mg a):aT P w K mg base dR 2 a.wu.x a.wu.d ["total","weights"] (F3 K):=by
 refine T.wu.ok o9 λC A outer s H N Q E D h=>?_
 ·obtain⟨n,f,b,rfl,hn,y,F,l4,q⟩:=h;refine⟨_,(ai (bj 2 o9.nd (az DU (bh (ae ah af)) (aA (aJ K rfl) (by rfl) T.bF L2.aL (ae (Y 1) af)))) (ai (d6 qq rfl (cY rfl T.eh (ae (Y 0) af)) (qg 3 o9.nd) (ai (bj 4 o9.nd (pc T.kH (yB T) D (ae (Y 1) (ae (Y 2) af)))) (aj (iC (az bR (gG K (Y 2) (Y 4)) ah) (ja (Y 2) (Y 4) DG))))) (aj (aB (cZ (dY K rfl) (by rfl) T.dJ L2.bP (ae (Y 2) af)))))),?_⟩
  refine⟨ls rfl,λl z=>?_⟩;have j:aS K (aI H l (.lst [.int 0])) f (b.map V.int):=aq.tseq (ak (aq.refl H) z) y;refine U rfl ⟨_,b.length,rfl,.inr ⟨_,j,by simp⟩,l,_,U rfl ⟨rfl,ag,by exact mu _,by lia,cH (by simp;lia),λg hg=>?_⟩⟩;have G:aq H (aI (aI H l (.lst [.int 0])) g (.lst (List.replicate (b.length:Int).toNat [V.int 0]).flatten)):=ak (ak (aq.refl H) z) hg;have I:(List.replicate (b.length:Int).toNat [V.int 0]).flatten=(deal b 0).map V.int:=by
   rw[sf,deal,List.map_replicate];generalize b.length=m
   induction m with|zero=>rfl|succ m J=>rw[vl,Mi,J,vl];rfl
  have o:H g=none:=(Je hg).2;refine U rfl ⟨(n:Int),rfl,by exact mu _,by lia,?_⟩;refine ng (lo:=0) (n:=(n:Int).toNat) (λi p H'=>aq H H'/\H' g=some (.lst ((deal b i).map V.int))/\(JW λr u=>p=[some (.int n),some (.ref f),some (.ref g),r,u])) ⟨G,by rw[ag,I],_,_,rfl⟩ ?_ ?_
  ·rintro i p L hi⟨e,c,r,u,rfl⟩;have B:=xt b i;have hd:=xr b (deal b i) (b.length-1);have v:=kR b i;refine U rfl (U rfl ⟨f,g,b,deal b i,rfl,aq.tseq e y,aY.of c,v,F,l4,λk=>⟨(B k).1,by have:=(B k).2;lia⟩,?_⟩);refine U rfl (U rfl (rX (aY.of c) (nq (by exact mu _) (by lia)) (r2 ?_)));refine U rfl (U rfl ⟨g,_,_,U rfl ⟨rfl,c,GR (by exact mu _) (by simp;lia),?_⟩⟩);refine⟨bv e o,?_,_,_,rfl⟩;rw[ag];simp only[sf];rw[yR];rfl
  ·rintro p L⟨e,c,r,u,rfl⟩;refine U rfl ⟨g,U rfl (.inl ⟨aY.of c,λt M=>?_⟩)⟩;exact q t _ (ak e M) ag
end
inductive x5(C:Addr)(vs:List V)(H:Hp)(Q:VK)(_E:XK):Prop|mk(t dx ar ru sh:Addr)(hm:Str)(_:vs=[.ref t,.str hm,.ref ar,.ref ru,.ref sh])(_:H t=some (.ins C dx []))(_:∀(ba:Addr)H',H ba=none->(∀b o,H b=some o->b≠t->H' b=some o)->H' t=some (.ins C dx [("home",.str hm),("arms",.ref ar),("rule",.ref ru),("shuts",.ref sh),("paused",.bl false),("closed",.bl false),("barred",.ref ba)])->H' ba=some (.dK [])->Q .non H')
section
def sk(T:Txt K mg a):aT P w K mg base dR 1 a.eA.x a.eA.d ["self","home","arms","rule","shuts"] (x5 a.fS):=by
 refine T.eA.ok rT λk A outer s H m Q E n h=>?_
 ·obtain⟨t,dx,ar,ru,sh,hm,rfl,l,q⟩:=h;refine⟨_,(ai (cG K rfl (Y 0) (Y 1)) (ai (cG K rfl (Y 0) (Y 2)) (ai (cG K rfl (Y 0) (Y 3)) (ai (cG K rfl (Y 0) (Y 4)) (ai (cG K rfl (Y 0) gu) (ai (cG K rfl (Y 0) gu) (aj (cG K rfl (Y 0) jb)))))))),?_⟩
  refine U rfl (U rfl ⟨t,_,dx,U rfl ⟨l,T.bq,T.ii,by simp,?_⟩⟩);rw[show gn "home" (V.str hm) []=([("home",V.str hm)]:List (Str×V))from rfl];refine U rfl (U rfl ⟨t,_,dx,U rfl ⟨ag,T.bq,T.eQ,by simp,?_⟩⟩);rw[gZ,show gn "arms" (V.ref ar) [("home",V.str hm)]=([("home",V.str hm),("arms",V.ref ar)]:List (Str×V))from rfl];refine U rfl (U rfl ⟨t,_,dx,U rfl ⟨ag,T.bq,T.nW,by simp,?_⟩⟩);rw[gZ,show gn "rule" (V.ref ru) [("home",V.str hm),("arms",V.ref ar)]=([("home",V.str hm),("arms",V.ref ar),("rule",V.ref ru)]:List (Str×V))from rfl];refine U rfl (U rfl ⟨t,_,dx,U rfl ⟨ag,T.bq,T.mE,by simp,?_⟩⟩);rw[gZ,show gn "shuts" (V.ref sh) [("home",V.str hm),("arms",V.ref ar),("rule",V.ref ru)]=([("home",V.str hm),("arms",V.ref ar),("rule",V.ref ru),("shuts",V.ref sh)]:List (Str×V))from rfl];refine U rfl ⟨t,_,dx,U rfl ⟨ag,T.bq,T.iD,by simp,?_⟩⟩;rw[gZ,show gn "paused" (V.bl false) [("home",V.str hm),("arms",V.ref ar),("rule",V.ref ru),("shuts",V.ref sh)]=([("home",V.str hm),("arms",V.ref ar),("rule",V.ref ru),("shuts",V.ref sh),("paused",V.bl false)]:List (Str×V))from rfl];refine U rfl ⟨t,_,dx,U rfl ⟨ag,T.bq,T.iE,by simp,?_⟩⟩;rw[gZ,show gn "closed" (V.bl false) [("home",V.str hm),("arms",V.ref ar),("rule",V.ref ru),("shuts",V.ref sh),("paused",V.bl false)]=([("home",V.str hm),("arms",V.ref ar),("rule",V.ref ru),("shuts",V.ref sh),("paused",V.bl false),("closed",V.bl false)]:List (Str×V))from rfl];refineλf c=>?_;have i:t≠f:=λz=>by rw[<-z,ag]at c;cases c
  refine U rfl ⟨t,_,dx,U rfl ⟨by rw[au i];exact ag,T.bq,T.iF,by simp,?_⟩⟩;rw[show gn "barred" (V.ref f) [("home",V.str hm),("arms",V.ref ar),("rule",V.ref ru),("shuts",V.ref sh),("paused",V.bl false),("closed",V.bl false)]=([("home",V.str hm),("arms",V.ref ar),("rule",V.ref ru),("shuts",V.ref sh),("paused",V.bl false),("closed",V.bl false),("barred",V.ref f)]:List (Str×V))from rfl];have g:H f=none:=by rw[au (rb i)]at c;exact c
  refine q f _ g (λb o e j=>?_) ag (by rw[au (rb i)];exact ag);rw[au j,au (aH e g),au j];exact e
end
inductive x6(P:Oe)(w:World)(K:N_)(C D:Addr)(vs:List V)(H:Hp)(Q:VK)(_E:XK):Prop|mk(t dx:Addr)(z:Int)(n:Nat)(_:vs=[.ref t,.int z,.int n])(_:H t=some (.ins C dx []))(_:∀(tb od td iu:Addr)H',H tb=none->H od=none->H td=none->H iu=none->od≠iu->(∀b o,H b=some o->b≠t->H' b=some o)->H' t=some (.ins C dx [("slope",.int z),("table",.ref tb),("inside",.ref iu)])->eW P w K D H' tb od td n [] [] []->H' iu=some (.dK [])->Q .non H')
section
def su(T:Txt K mg a):aT P w K mg base dR 3 a.eF.x a.eF.d ["self","slope","many"] (x6 P w K a.fq a.bS):=by
 refine T.eF.ok rY λX A outer s H vs Q E Z h=>?_
 ·obtain⟨t,dx,z,n,rfl,hT,q⟩:=h;refine⟨_,(ai (cG K rfl (Y 0) (Y 1)) (ai (cG K rfl (Y 0) (sL T.Ee ((sr (P:=P) (w:=w) T).mono (by decide)) Z rfl T.GH T.eD.b .nil bw (ae (Y 2) af))) (aj (cG K rfl (Y 0) jb)))),?_⟩
  refine U rfl (U rfl ⟨t,_,dx,U rfl ⟨hT,T.ce,T.jh,by simp,?_⟩⟩);rw[show gn "slope" (V.int z) []=([("slope",V.int z)]:List (Str×V))from rfl];have f1:∀b o,H b=some o->b≠t->aI H t (.ins a.fq dx [("slope",V.int z)]) b=some o:=λb o e m=>by rw[au m];exact e
  have g:aI H t (.ins a.fq dx [("slope",V.int z)]) t=some (.ins a.fq dx [("slope",V.int z)]):=ag;have y:∀b,aI H t (.ins a.fq dx [("slope",V.int z)]) b=none->H b=none:=λb e=>by
   by_cases h:b=t
   ·rw[h,ag]at e;cases e
   ·rw[au h]at e;exact e
  generalize aI H t (.ins a.fq dx [("slope",V.int z)])=k at f1 g y⊢;refine U rfl (λc ty i G I=>?_);have f2:∀b o,k b=some o->aI (aI k ty (.own c)) c (.ins a.bS ty []) b=some o:=λb o e=>by rw[au (aH e i),au (aH e G)];exact e
  have B:aI (aI k ty (.own c)) c (.ins a.bS ty []) c=some (.ins a.bS ty []):=ag;have C:aI (aI k ty (.own c)) c (.ins a.bS ty []) ty=some (.own c):=by rw[au I];exact ag
  generalize aI (aI k ty (.own c)) c (.ins a.bS ty [])=H2 at f2 B C⊢;refine⟨c,ty,n,rfl,B,C,λS W D p r f3 f=>⟨rfl,?_⟩⟩;have n1:∀b,H2 b=none->k b=none:=λb e=>by cases z:k b with|none=>rfl|some o=>rw[f2 b o z]at e;cases e
  have u:∀b o,k b=some o->D b=some o:=λb o e=>f3 b o (f2 b o e) (aH e i);have J:=u _ _ g;refine U rfl ⟨t,_,dx,U rfl ⟨J,T.ce,T.fc,by simp,?_⟩⟩;rw[show gn "table" (V.ref c) [("slope",V.int z)]=([("slope",V.int z),("table",V.ref c)]:List (Str×V))from rfl];refineλv l=>?_;have L:t≠v:=λz=>by rw[<-z,ag]at l;cases l
  have j:D v=none:=by rw[au (rb L)]at l;exact l
  refine U rfl ⟨t,_,dx,U rfl ⟨by rw[au L];exact ag,T.ce,T.bV,by simp,?_⟩⟩;rw[show gn "inside" (V.ref v) [("slope",V.int z),("table",V.ref c)]=([("slope",V.int z),("table",V.ref c),("inside",V.ref v)]:List (Str×V))from rfl];have n3:∀b,D b=none->k b=none:=λb e=>by cases z:k b with|none=>rfl|some o=>rw[u b o z]at e;cases e
  have F:∀b o,D b=some o->b≠t->aI (aI (aI D t (.ins a.fq dx [("slope",V.int z),("table",V.ref c)])) v (.dK [])) t (.ins a.fq dx [("slope",V.int z),("table",V.ref c),("inside",V.ref v)]) b=some o:=λb o e m=>by rw[au m,au (aH e j),au m];exact e
  have M:c≠t:=λz=>by rw[z,g]at i;cases i
  have N:S≠t:=λz=>by rw[z,f2 _ _ g]at p;cases p
  have O:W≠t:=λz=>by rw[z,f2 _ _ g]at r;cases r
  refine q c S W v _ (y _ i) (y _ (n1 _ p)) (y _ (n1 _ r)) (y _ (n3 _ j)) (aH f.own j) (λb o e m=>F b o (u b o (f1 b o e m)) m) ag ?_ (by rw[au (rb L)];exact ag);obtain⟨R,hI⟩:=f.ins;exact⟨⟨R,F _ _ hI M⟩,F _ _ f.own N,F _ _ f.tak O,λx hx=>(by cases hx),.nil⟩
end
inductive x8(C:Addr)(vs:List V)(H:Hp)(Q:VK)(_E:XK):Prop|mk(t dx:Addr)(z sa:Int)(_:vs=[.ref t,.int z,.int sa])(_:H t=some (.ins C dx []))(_:(2<=z/\z<=997))(_:(∀i:Nat,2+(i:Int)<z->z%(2+(i:Int))≠0))(_:(0<=sa/\sa<=cJ))(_:∀(ln tn ci dl:Addr)H',H ln=none->H tn=none->H ci=none->H dl=none->ln≠tn->ln≠ci->tn≠ci->(∀b o,H b=some o->b≠t->H' b=some o)->H' t=some (.ins C dx [("own_prime",.int z),("own_salt",.int sa),("layer_named",.ref ln),("trial_named",.ref tn),("came_into",.ref ci),("deeds",.ref dl)])->H' ln=some (.dK [])->H' tn=some (.dK [])->H' ci=some (.dK [])->H' dl=some (.lst [])->Q .non H')
def uS(t:Addr)(H H':Hp):Prop:=∀b o,H b=some o->b≠t->H' b=some o
def uS.no{t a:Addr}(h:uS t H H')(e:H' a=none)(n:a≠t):H a=none:=by cases z:H a with|none=>rfl|some o=>rw[h a o z n]at e;cases e
@[elab_as_elim]theorem jf{H:Hp}{a:Addr}{o:HO}{motive:Hp->Prop}(c:H a=none)(h:∀H',aq H H'->H' a=some o->motive H'):motive (aI H a o):=h _ (ak (aq.refl H) c) ag
@[elab_as_elim]theorem BR{H:Hp}{t:Addr}{o:HO}{motive:Hp->Prop}(h:∀H',uS t H H'->H' t=some o->motive H'):motive (aI H t o):=h _ (λ_ _ e n=>by rw[au n];exact e) ag
section
def sB(T:Txt K mg a):aT P w K mg base dR 5 a.eL.x a.eL.d ["self","prime","salt"] (x8 a.cC):=by
 refine T.eL.ok r9 λaa A outer s H vs Q E hr h=>?_
 ·obtain⟨t,dx,z,sa,rfl,k,h1,h2,h3,q⟩:=h;refine⟨_,(ai (aZ (pc T.gf (uh T) hr (ae (Y 1) (ae (Y 2) af)))) (ai (cG K rfl (Y 0) (Y 1)) (ai (cG K rfl (Y 0) (Y 2)) (ai (cG K rfl (Y 0) jb) (ai (cG K rfl (Y 0) jb) (ai (cG K rfl (Y 0) jb) (aj (cG K rfl (Y 0) (bh af))))))))),?_⟩
  refine U rfl (U rfl ⟨z,sa,rfl,h1,h2,h3,λH0 v=>?_⟩);refine U rfl (U rfl ⟨t,_,dx,U rfl ⟨v _ _ k,T.aD,T.cF,by simp,?_⟩⟩);refine BR λH1 o1 t1=>?_;refine U rfl (U rfl ⟨t,_,dx,U rfl ⟨t1,T.aD,T.jI,(show 1<1000 by decide),?_⟩⟩);refine BR λH2 o2 B=>?_;refineλln g=>jf g λH3 C e3=>?_;refine U rfl ⟨t,_,dx,U rfl ⟨C _ _ B,T.aD,T.aW,(show 2<1000 by decide),?_⟩⟩;refine BR λl m D=>?_;refineλtn f=>jf f λH5 F e5=>?_;refine U rfl ⟨t,_,dx,U rfl ⟨F _ _ D,T.aD,T.aP,(show 3<1000 by decide),?_⟩⟩;refine BR λp G I=>?_;refineλJ c=>jf c λH7 L e7=>?_;refine U rfl ⟨t,_,dx,U rfl ⟨L _ _ I,T.aD,T.ee,(show 4<1000 by decide),?_⟩⟩;refine BR λr M N=>?_;refine⟨ls rfl,λdl i=>jf i λH9 O e9=>?_⟩;refine U rfl ⟨t,_,dx,U rfl ⟨O _ _ N,T.aD,T.mF,(show 5<1000 by decide),?_⟩⟩;refine BR λR S ta=>?_;have n1:ln≠t:=λy=>by rw[y,B]at g;cases g
  have n2:tn≠t:=λy=>by rw[y,D]at f;cases f
  have n3:J≠t:=λy=>by rw[y,I]at c;cases c
  have n4:dl≠t:=λy=>by rw[y,N]at i;cases i
  have V:uS t H H2:=λb o e n=>o2 b o (o1 b o (v b o e) n) n;have p4:uS t H3 l:=m;have W:uS t H l:=λb o e n=>m b o (C b o (V b o e n)) n;have X:uS t l p:=λb o e n=>G b o (F b o e) n;have u:uS t p r:=λb o e n=>M b o (L b o e) n;have j:uS t r R:=λb o e n=>S b o (O b o e) n;have Z:uS t H p:=λb o e n=>X b o (W b o e n) n;have k8:uS t H r:=λb o e n=>u b o (Z b o e n) n;have l4:=m _ _ e3 n1;have l6:=X _ _ l4 n1;have l8:=u _ _ l6 n1;have m6:=G _ _ e5 n2;have m8:=u _ _ m6 n2;exact q ln tn J dl R (V.no g n1) (W.no f n2) (Z.no c n3) (k8.no i n4) (aH l4 f) (aH l6 c) (aH m6 c) (λb o e n=>j b o (k8 b o e n) n) ta (j _ _ l8 n1) (j _ _ m8 n2) (j _ _ (M _ _ e7 n3) n3) (S _ _ e9 n4)
end
def Ba(c:Nat):Int:=Txt.find gy ⟨#[c]⟩
def xg(m:Int)(cs:Oi):Int:=cs.foldl (λm c=>1009*m+Ba c+1) m
def Eh{m:Int}{cs:Oi}{i c:Nat}(h:cs[i]?=some c):xg m (cs.take (i+1))=1009*xg m (cs.take i)+Ba c+1:=by unfold xg;rw[x_,h,Mh];rfl
def Jb{c:Nat}(h:c∈gy.cps.toList):∃i r,Builtin.Str.occurrences gy ⟨#[c]⟩ 0 gy.length 1=i::r/\Ba c=(i:Nat):=by have e:=StrLaws.found_one gy c;rw[ol h]at e;cases q:Builtin.Str.occurrences gy ⟨#[c]⟩ 0 gy.length 1 with|nil=>rw[q]at e;cases e|cons i r=>refine⟨i,r,rfl,?_⟩;unfold Ba Txt.find;rw[q]
def qy(p m sl:Int)(x:Str):Int:=if sl=p then xg m x.cps.toList%(p*p)%p else(xg m x.cps.toList%(p*p)/p+sl*(xg m x.cps.toList%(p*p)%p))%p
inductive FR(vs:List V)(H:Hp)(Q:VK)(_E:XK):Prop|mk(p:_)(m:_)(x:_)(_:vs=[.int p,.int m,.str x])(_:xT x)(_:(2<=p/\p<=997))(_:∀t,H t=none->Q (.ref t) (aI H t (.tup [.int (xg m x.cps.toList%(p*p)/p),.int (xg m x.cps.toList%(p*p)%p)])))
inductive FT(K:N_)(vs:List V)(H:Hp)(Q:VK)(_E:XK):Prop|mk(t:Addr)(p s x y:Int)(_:vs=[.int p,.int s,.ref t])(_:aS K H t [.int x,.int y])(_:0<p)(_:(0<=s/\s<=1000))(_:Q (.int (if s=p then y else(x+s*y)%p)) H)
inductive BI(a:fV)(vs:List V)(H:Hp)(Q:VK)(_E:XK):Prop|mk(h lo dx dl:Addr)(fs gs:List (Str×V))(p m sl:Int)(x:Str)(_:vs=[.ref h,.ref lo,.str x])(_:H h=some (.ins a.cC dx fs))(_:fs.lookup ("own_prime":Str)=some (V.int p))(_:fs.lookup ("own_salt":Str)=some (V.int m))(_:H lo=some (.ins a.fq dl gs))(_:gs.lookup ("slope":Str)=some (V.int sl))(_:xT x)(_:(2<=p/\p<=997))(_:(0<=sl/\sl<=1000))(_:∀H',aq H H'->Q (.int (qy p m sl x)) H')
section
def yz(T:Txt K mg a):aT P w K mg base dR 1 a.ky.x a.ky.d ["p","salt","guest"] FR:=by
 refine T.ky.ok jt λg A outer s H l Q E n h=>?_
 ·obtain⟨p,m,x,rfl,hg,⟨b,o⟩,q⟩:=h;refine⟨_,(ai (bj 3 jt.nd (Y 1)) (ai (d6 qq rfl (DS (Y 2)) (qg 4 jt.nd) (aj (bj 3 jt.nd (az bR (az bR (az gL (cn T.G6 rfl) (Y 3)) (jc K rfl PySem.F.plainAttrs_str PySem.F.slot_str_index PySem.F.type_str_index Ec (cn T.jX rfl) (ae (Y 4) af))) ah)))) (aj (aB (aA zj (by rfl) T.Ea L2.zn (ae (az aV (Y 3) (az gL (Y 0) (Y 0))) (ae (Y 0) af))))))),?_⟩
  refine U rfl (U rfl ⟨x,rfl,?_⟩);refine GY (λi e H'=>H=H'/\∃v,e=[some (.int p),some (.int m),some (.str x),some (.int (xg m (x.cps.toList.take i))),v]) ⟨rfl,_,rfl⟩ ?_ ?_
  ·rintro i c e _ hc⟨rfl,v,rfl⟩;obtain⟨j,r,k,hn⟩:=Jb (hg.cs c (g_ hc));refine U rfl (r2 ⟨.inl ⟨by decide,by decide⟩,rfl,U rfl ⟨gy,_,j,r,rfl,rfl,k,_,U rfl ⟨rfl,r2 ⟨rfl,some (.str ⟨#[c]⟩),?_⟩⟩⟩⟩);rw[Eh hc,hn];rfl
  ·rintro e _⟨rfl,v,rfl⟩;rw[oD (f_ _)];have f:(0:Int)<p*p:=Int.mul_pos (by exact NS b) (by exact NS b);exact U rfl (U rfl (U rfl (r2 ⟨.inl ⟨by lia,by lia⟩,_,U rfl ⟨rfl,f,U rfl ⟨_,U rfl ⟨⟨by exact NS b,by lia⟩,q⟩⟩⟩⟩)))
def yA(T:Txt K mg a):aT P w K mg base dR 1 a.kA.x a.kA.d ["p","slope","point"] (FT K):=by
 refine T.kA.ok lY λc A outer s H f Q E g h=>?_
 ·obtain⟨t,p,s,x,y,rfl,b,e,⟨i,j⟩,q⟩:=h;refine⟨_,(ai (bj 3 lY.nd (cQ K (Y 2) ah)) (ai (bj 4 lY.nd (cQ K (Y 2) ah)) (ai (aM (aE aU (Y 1) (Y 0) (aG _)) (aj (aB (Y 4))) aF) (aj (aB (az aV (az bR (Y 3) (az gL (Y 1) (Y 4))) (Y 0))))))),?_⟩
  (iterate 2 refine U rfl (rX b rfl ?_));refine U rfl (U rfl ⟨rfl,U rfl (kN (λh=>?_) (λh=>?_))⟩)
  ·rw[mo h]at q;exact U rfl q
  ·rw[l_ h]at q;exact U rfl (U rfl (U rfl (r2 ⟨.inl ⟨by lia,by lia⟩,_,U rfl ⟨rfl,U rfl (r2 ⟨e,q⟩)⟩⟩)))
def jF(T:Txt K mg a):aT P w K mg base dR 2 a.cu.x a.cu.d ["self","layer","guest"] (BI a):=by
 refine T.cu.ok pf λf A outer s H r Q E c h=>?_
 ·obtain⟨h,lo,dx,dl,fs,gs,p,m,sl,x,rfl,b,e,g,i,j,k,l,n,q⟩:=h;refine⟨_,(aj (aB (pc T.kA (yA T) c (ae (aK K rfl (Y 0)) (ae (aK K rfl (Y 1)) (ae (pc T.ky (yz T) c (ae (aK K rfl (Y 0)) (ae (aK K rfl (Y 0)) (ae (Y 2) af)))) af)))))),?_⟩;refine U rfl ⟨h,_,dx,_,U rfl ⟨b,T.aD,T.cF,e,U rfl ⟨lo,_,dl,_,U rfl ⟨i,T.ce,T.jh,j,U rfl ⟨h,_,dx,_,U rfl ⟨b,T.aD,T.cF,e,U rfl ⟨h,_,dx,_,U rfl ⟨b,T.aD,T.jI,g,U rfl ⟨p,m,x,rfl,k,l,λt o=>?_⟩⟩⟩⟩⟩⟩⟩⟩⟩;exact⟨t,p,sl,_,_,rfl,aS.of ag,by lia,n,q _ (ak (aq.refl H) o)⟩
end
abbrev a9(x y:Str):bN:=.inr [.inr x,.inr y]
structure cD where
 nm:Str
 sl:Int
 S:AS
 ins:List (Str×Str×Str)
structure c5 where
 nm:Str
 home:Str
 arms:List Str
 rule:Ru
 shuts:List Str
 pau:Bool
 clo:Bool
 bar:List Str
structure bD where
 p:Nat
 salt:Int
 las:List cD
 trs:List c5
 came:List (Str×List (Str×Str))
inductive Ro|hh|ln|tn|ci|dl|lo(i:Nat)|iu(i:Nat)|tb(i:Nat)|od(i:Nat)|td(i:Nat)|tr(i:Nat)|ba(i:Nat)deriving DecidableEq
structure ZS where
 G:Ro->Addr
 dx:Ro->Addr
 cv:List (bQ×V)ds:List V
 iv:Nat->List (bQ×V)ow:Nat->List (bQ×V)tk:Nat->List eU
 ar:Nat->Addr
 ru:Nat->V
 sh:Nat->Addr
def iP:List Str->(Nat->V)->List (bQ×V)|[],_=>[]|n::r,f=>(.inr n,f 0)::iP r λi=>f (i+1)
def cont(P:Oe)(w:World)(a:fV)(M:bD)(Z:ZS):Ro->Option HO|.hh=>some (.ins a.cC (Z.dx .hh) [("own_prime",.int M.p),("own_salt",.int M.salt),("layer_named",.ref (Z.G .ln)),("trial_named",.ref (Z.G .tn)),("came_into",.ref (Z.G .ci)),("deeds",.ref (Z.G .dl))])|.ln=>some (.dK (iP (M.las.map cD.nm) λi=>.ref (Z.G (.lo i))))|.tn=>some (.dK (iP (M.trs.map c5.nm) λi=>.ref (Z.G (.tr i))))|.ci=>some (.dK Z.cv)|.dl=>some (.lst Z.ds)|.lo i=>M.las[i]?.map λl=>.ins a.fq (Z.dx (.lo i)) [("slope",.int l.sl),("table",.ref (Z.G (.tb i))),("inside",.ref (Z.G (.iu i)))]|.iu i=>M.las[i]?.map λ_=>.dK (Z.iv i)|.tb i=>M.las[i]?.map λ_=>.ins a.bS (Z.dx (.tb i)) [("many",.int M.p),("owners",.ref (Z.G (.od i))),("taken",.ref (Z.G (.td i)))]|.od i=>M.las[i]?.map λ_=>.dK (Z.ow i)|.td i=>M.las[i]?.map λ_=>dM P w (Z.G (.td i)) (Z.tk i)|.tr i=>M.trs[i]?.map λt=>.ins a.fS (Z.dx (.tr i)) [("home",.str t.home),("arms",.ref (Z.ar i)),("rule",Z.ru i),("shuts",.ref (Z.sh i)),("paused",.bl t.pau),("closed",.bl t.clo),("barred",.ref (Z.G (.ba i)))]|.ba i=>M.trs[i]?.map λt=>.dK (t.bar.map λg=>(.inr g,.bl true))
def bZ(K:N_)(H:Hp)(iv:List (bQ×V))(ins:List (Str×Str×Str)):Prop:=Paired (λ(x:bQ×V)(y:Str×Str×Str)=>x.1=.inr y.1/\∃s,x.2=.ref s/\aS K H s [.str y.2.1,.str y.2.2]) iv ins
def iH(K:N_)(H:Hp)(c:List V)(d:List (Str×Str)):Prop:=Paired (λ(u:V)(y:Str×Str)=>∃s,u=.ref s/\aS K H s [.str y.1,.str y.2]) c d
def eV(K:N_)(H:Hp)(dl:Addr)(cv:List (bQ×V))(cm:List (Str×List (Str×Str))):Prop:=Paired (λ(x:bQ×V)(y:Str×List (Str×Str))=>x.1=.inr y.1/\∃l b,x.2=.ref l/\l≠dl/\H l=some (.lst b)/\iH K H b y.2) cv cm
structure Im(dl:Addr)(H H':Hp):Prop where
 kp:Kp H H'
 ls:∀b xs,H b=some (.lst xs)->b≠dl->H' b=some (.lst xs)
section
variable{K:N_}{H a:Hp}{dl:Addr}
theorem Im.of(h:aq H a):Im dl H a:=⟨.of h,λb c e _=>h b _ e⟩
def bZ.kp(e:Kp H a)(h:bZ K H iv ins):bZ K a iv ins:=Paired.mapP h λ_ _ q=>⟨q.1,q.2.imp λ_ q=>⟨q.1,e.tq q.2⟩⟩
def iH.kp(e:Kp H a)(h:iH K H c d):iH K a c d:=Paired.mapP h λ_ _ q=>q.imp λ_ q=>⟨q.1,e.tq q.2⟩
def eV.im(e:Im dl H a)(h:eV K H dl cv cm):eV K a dl cv cm:=Paired.mapP h λ_ _ q=>⟨q.1,q.2.imp λ_ q=>q.imp λ_ q=>⟨q.1,q.2.1,e.ls _ _ q.2.2.1 q.2.1,q.2.2.2.kp e.kp⟩⟩
def fB.im(e:Im dl H a)(n:∀x∈tk,x.2.2≠.ref dl)(h:fB H tk m):fB a tk m:=Paired.mapM h λx b _ q=>⟨q.1,q.2.1,q.2.2.imp λ_ q=>⟨q.1,e.ls _ _ q.2 λz=>n x b (by rw[q.1,z])⟩⟩
end
structure bG(P:Oe)(w:World)(K:N_)(a:fV)(H:Hp)(M:bD)(Z:ZS):Prop where
 inj:∀r r' o o',cont P w a M Z r=some o->cont P w a M Z r'=some o'->Z.G r=Z.G r'->r=r'
 at_:∀r o,cont P w a M Z r=some o->H (Z.G r)=some o
 seats:∀i l,M.las[i]?=some l->bZ K H (Z.iv i) l.ins
 trs:∀i t,M.trs[i]?=some t->aS K H (Z.ar i) (t.arms.map V.str)/\fC K H t.rule (Z.ru i)/\aS K H (Z.sh i) (t.shuts.map V.str)tabs:∀i l,M.las[i]?=some l->cT K H (Z.tk i)/\(∃m,fB H (Z.tk i) m/\jp M.p l.S (Z.ow i) m)/\uY (cR K H) M.p l.S (Z.ow i)/\∀x∈Z.tk i,x.2.2≠.ref (Z.G .dl)came:eV K H (Z.G .dl) Z.cv M.came
section
variable{P:Oe}{w:World}{K:N_}{a:fV}{H H':Hp}{M s:bD}{Z c:ZS}
def bG.imm(h:bG P w K a H M Z)(e:cont P w a M Z r=some o)(f:∀b o,H b=some o->b≠Z.G r->H' b=some o):Im (Z.G .dl) H H':=by
 have g:=h.at_ r o e;have i:(∀d,o≠.tup d)/\(∀x y,o≠.frz x y)/\∀d,o=.lst d->r=.dl:=by
  cases r<;>simp only[cont,Option.map_eq_some_iff,M3]at e
  case hh=>subst e;exact⟨λ_ z=>(nomatch z),λ_ _ z=>(nomatch z),λ_ z=>(nomatch z)⟩
  case ln=>subst e;exact⟨λ_ z=>(nomatch z),λ_ _ z=>(nomatch z),λ_ z=>(nomatch z)⟩
  case tn=>subst e;exact⟨λ_ z=>(nomatch z),λ_ _ z=>(nomatch z),λ_ z=>(nomatch z)⟩
  case ci=>subst e;exact⟨λ_ z=>(nomatch z),λ_ _ z=>(nomatch z),λ_ z=>(nomatch z)⟩
  case dl=>subst e;exact⟨λ_ z=>(nomatch z),λ_ _ z=>(nomatch z),λ_ _=>rfl⟩
  all_goals obtain⟨_,_,e⟩:=e;subst e;exact⟨λ_ z=>(nomatch z),λ_ _ z=>(nomatch z),λ_ z=>(nomatch z)⟩
 obtain⟨j,k,l⟩:=i;refine⟨⟨λu d q=>f _ _ q λz=>?_,λu x⟨m,q⟩=>⟨m,f _ _ q λz=>?_⟩⟩,λb d q n=>f _ _ q λz=>?_⟩
 ·rw[z,g]at q;exact j _ (nB q)
 ·rw[z,g]at q;exact k _ _ (nB q)
 ·rw[z,g]at q;exact n (by rw[z,l _ (nB q)])
def bG.set(h:bG P w K a H M Z)(f:cont P w a M Z d=some C)(v:∀b o,H b=some o->b≠Z.G d->H' b=some o)(u:c.G=Z.G)(j:∀r o,cont P w a s c r=some o->(r=d/\H' (Z.G d)=some o)\/(r≠d/\cont P w a M Z r=some o))(seats:∀i l,s.las[i]?=some l->bZ K H' (c.iv i) l.ins)(trs:∀i t,s.trs[i]?=some t->aS K H' (c.ar i) (t.arms.map V.str)/\fC K H' t.rule (c.ru i)/\aS K H' (c.sh i) (t.shuts.map V.str))(tabs:∀i l,s.las[i]?=some l->cT K H' (c.tk i)/\(∃m,fB H' (c.tk i) m/\jp s.p l.S (c.ow i) m)/\uY (cR K H') s.p l.S (c.ow i)/\∀x∈c.tk i,x.2.2≠.ref (c.G .dl))(came:eV K H' (c.G .dl) c.cv s.came):bG P w K a H' s c:=by
 refine⟨λr y o A e B g=>?_,λr o e=>?_,seats,trs,tabs,came⟩
 ·rw[u]at g;rcases j r o e with⟨rfl,_⟩|⟨_,q⟩<;>rcases j y A B with⟨rfl,_⟩|⟨_,k⟩
  ·rfl
  ·exact h.inj _ _ _ _ f k g
  ·exact h.inj _ _ _ _ q f g
  ·exact h.inj _ _ _ _ q k g
 ·rw[u];rcases j r o e with⟨rfl,q⟩|⟨n,q⟩
  ·exact q
  ·exact v _ _ (h.at_ _ _ q) λz=>n (h.inj _ _ _ _ q f z)
def bG.trsI(h:bG P w K a H M Z)(e:Kp H H'):∀i t,M.trs[i]?=some t->aS K H' (Z.ar i) (t.arms.map V.str)/\fC K H' t.rule (Z.ru i)/\aS K H' (Z.sh i) (t.shuts.map V.str):=λi t b=>let⟨h1,h2,h3⟩:=h.trs i t b;⟨e.tq h1,h2.kp e,e.tq h3⟩
def bG.tabsI(h:bG P w K a H M Z)(e:Im (Z.G .dl) H H'):∀i l,M.las[i]?=some l->cT K H' (Z.tk i)/\(∃m,fB H' (Z.tk i) m/\jp M.p l.S (Z.ow i) m)/\uY (cR K H') M.p l.S (Z.ow i)/\∀x∈Z.tk i,x.2.2≠.ref (Z.G .dl):=λi l b=>let⟨h1,⟨m,h2,h3⟩,h4,h5⟩:=h.tabs i l b;⟨λx d=>cq e.kp (h1 x d),⟨m,h2.im e h5,h3⟩,h4.mono λ_ _ q=>cq e.kp q,h5⟩
def bG.same(h:bG P w K a H M Z)(e:aq H H'):bG P w K a H' M Z:=⟨h.inj,λr o q=>e _ _ (h.at_ r o q),λi l b=>(h.seats i l b).kp (.of e),h.trsI (.of e),h.tabsI (.of e),h.came.im (.of e)⟩
def hU{d l:Type}{g:List d}{i:Nat}{x y:d}(h:g[i]?=some x)(f:d->l)(e:f y=f x)(j:Nat):(g.set i y)[j]?.map f=g[j]?.map f:=by
 rw[M6]
 by_cases q:i=j
 ·subst q;rw[mo rfl,mo (d_.mp h).1,h];exact w_ some e
 ·rw[l_ q]
def c9{d l:Type}{g:List d}{i:Nat}{x y:d}(h:g[i]?=some x)(f:d->l)(e:f y=f x):(g.set i y).map f=g.map f:=C_ λj=>by rw[i_,i_];exact hU h f e j
def oX{d:Type}{f:List d}{i j:Nat}{y z:d}(e:(f.set i y)[j]?=some z):(j=i/\z=y)\/(j≠i/\f[j]?=some z):=by
 rw[M6]at e
 by_cases q:i=j
 ·rw[mo q]at e
  split at e
  ·exact .inl ⟨q.symm,(nB e).symm⟩
  ·cases e
 ·rw[l_ q]at e;exact .inr ⟨λz=>q z.symm,e⟩
def zd{i:Nat}{l l':cD}(d:M.las[i]?=some l)(h1:l'.nm=l.nm)(h2:l'.sl=l.sl)(r:Ro):cont P w a {M with las:=M.las.set i l'} Z r=cont P w a M Z r:=by cases r with|ln=>exact w_ (λns=>some (HO.dK (iP ns λi=>.ref (Z.G (.lo i))))) (c9 d cD.nm h1)|lo j=>exact hU d _ (by rw[h2]) j|iu j=>exact hU (y:=l') d _ rfl j|tb j=>exact hU (y:=l') d _ rfl j|od j=>exact hU (y:=l') d _ rfl j|td j=>exact hU (y:=l') d _ rfl j|_=>rfl
def Fb{i:Nat}{t d:c5}(e:M.trs[i]?=some t)(h1:d.nm=t.nm)(r:Ro)(h2:r=.tr i->d.home=t.home/\d.pau=t.pau/\d.clo=t.clo)(h3:r=.ba i->d.bar=t.bar):cont P w a {M with trs:=M.trs.set i d} Z r=cont P w a M Z r:=by
 cases r with|tn=>exact w_ (λns=>some (HO.dK (iP ns λi=>.ref (Z.G (.tr i))))) (c9 e c5.nm h1)|tr j=>
  by_cases q:j=i
  ·subst q;obtain⟨a1,b,f⟩:=h2 rfl;exact hU e _ (by rw[a1,b,f]) j
  ·show((M.trs.set i d)[j]?).map _=_;rw[r_ (λz=>q z.symm)];rfl|ba j=>
  by_cases q:j=i
  ·subst q;exact hU e _ (by rw[h3 rfl]) j
  ·show((M.trs.set i d)[j]?).map _=_;rw[r_ (λz=>q z.symm)];rfl|_=>rfl
def cA:∀b o,H b=some o->b≠x->aI H x o' b=some o:=λb o e n=>by rw[au n];exact e
def bG.setIns(h:bG P w K a H M Z){i:Nat}{l:cD}{ins':List (Str×Str×Str)}{iv':List (bQ×V)}(d:M.las[i]?=some l)(m:bZ K H iv' ins'):bG P w K a (aI H (Z.G (.iu i)) (.dK iv')) {M with las:=M.las.set i {l with ins:=ins'}} {Z with iv:=λj=>if j=i then iv' else Z.iv j}:=by
 have g:cont P w a M Z (.iu i)=some (.dK (Z.iv i)):=by simp[cont,d]
 have im:=h.imm g (cA (o':=.dK iv'));refine h.set g cA rfl (λr o e=>?_) (λj b e=>?_) (h.trsI im.kp) (λj b e=>?_) (h.came.im im)
 ·rw[zd (l':={l with ins:=ins'}) d rfl rfl]at e
  by_cases f:r=.iu i
  ·subst f;refine .inl ⟨rfl,?_⟩;rw[ag,<-e];simp[cont,d]
  ·refine .inr ⟨f,?_⟩;rw[<-e];cases r with|iu j=>show _=M.las[j]?.map λ_=>HO.dK (if j=i then iv' else Z.iv j);rw[l_ λz=>f (by rw[z])];rfl|_=>rfl
 ·rcases oX e with⟨rfl,rfl⟩|⟨n,q⟩
  ·show bZ K _ (if j=j then iv' else Z.iv j) ins';rw[mo rfl];exact m.kp im.kp
  ·show bZ K _ (if j=i then iv' else Z.iv j) b.ins;rw[l_ n];exact(h.seats j b q).kp im.kp
 ·rcases oX e with⟨rfl,rfl⟩|⟨n,q⟩
  ·exact h.tabsI im _ l d
  ·exact h.tabsI im j b q
def bG.setTr(h:bG P w K a H M Z){i:Nat}{t t':c5}{r0:Ro}{o':HO}(d:M.trs[i]?=some t)(h1:t'.nm=t.nm)(h2:t'.arms=t.arms)(h3:t'.rule=t.rule)(h4:t'.shuts=t.shuts)(f:(r0=.tr i/\t'.bar=t.bar)\/(r0=.ba i/\t'.home=t.home/\t'.pau=t.pau/\t'.clo=t.clo))(l:cont P w a {M with trs:=M.trs.set i t'} Z r0=some o'):bG P w K a (aI H (Z.G r0) o') {M with trs:=M.trs.set i t'} Z:=by
 obtain⟨g,k⟩:∃g,cont P w a M Z r0=some g:=by rcases f with⟨rfl,_⟩|⟨rfl,_⟩<;>exact⟨_,by simp only[cont,d];rfl⟩
 have im:=h.imm k (cA (o':=o'));refine h.set k cA rfl (λr o e=>?_) (λj m e=>(h.seats j m e).kp im.kp) (λj p e=>?_) (h.tabsI im) (h.came.im im)
 ·by_cases b:r=r0
  ·subst b;rw[l]at e;exact .inl ⟨rfl,by rw[ag];exact e⟩
  ·refine .inr ⟨b,?_⟩;rw[<-e];refine(Fb d h1 r (λz=>?_) λz=>?_).symm
   ·rcases f with⟨q,_⟩|⟨_,q⟩
    ·exact absurd (z.trans q.symm) b
    ·exact q
   ·rcases f with⟨_,q⟩|⟨q,_⟩
    ·exact q
    ·exact absurd (z.trans q.symm) b
 ·rcases oX e with⟨rfl,rfl⟩|⟨n,q⟩
  ·rw[h2,h3,h4];exact h.trsI im.kp _ t d
  ·exact h.trsI im.kp j p q
def bG.deed(h:bG P w K a H M Z)(d:V):bG P w K a (aI H (Z.G .dl) (.lst (Z.ds++[d]))) M {Z with ds:=Z.ds++[d]}:=by
 have f:cont P w a M Z .dl=some (.lst Z.ds):=rfl;have im:=h.imm f (cA (o':=.lst (Z.ds++[d])));refine h.set f cA rfl (λr o e=>?_) (λj g e=>(h.seats j g e).kp im.kp) (h.trsI im.kp) (h.tabsI im) (h.came.im im)
 by_cases b:r=.dl
 ·subst b;exact .inl ⟨rfl,by rw[ag];exact e⟩
 ·refine .inr ⟨b,?_⟩;rw[<-e];cases r with|dl=>exact absurd rfl b|_=>rfl
def bG.setCame(h:bG P w K a H M Z)(hc:eV K H (Z.G .dl) d f):bG P w K a (aI H (Z.G .ci) (.dK d)) {M with came:=f} {Z with cv:=d}:=by
 have g:cont P w a M Z .ci=some (.dK Z.cv):=rfl;have im:=h.imm g (cA (o':=.dK d));refine h.set g cA rfl (λr o e=>?_) (λj i e=>(h.seats j i e).kp im.kp) (h.trsI im.kp) (h.tabsI im) (hc.im im)
 by_cases b:r=.ci
 ·subst b;exact .inl ⟨rfl,by rw[ag];exact e⟩
 ·refine .inr ⟨b,?_⟩;rw[<-e];cases r with|ci=>exact absurd rfl b|_=>rfl
end
theorem xb:∀(ns:Of)(x:Str)(f:Nat->V),iP (ns++[x]) f=iP ns f++[(.inr x,f ns.length)]|[],_,_=>rfl|n::r,x,f=>by show(Sum.inr n,f 0)::iP (r++[x]) _=(Sum.inr n,f 0)::(iP r _++_);rw[xb r x];rfl
theorem qC:∀{ns:Of}{f g:Nat->V},(∀i,i<ns.length->f i=g i)->iP ns f=iP ns g|[],_,_,_=>rfl|n::r,f,g,h=>by show(Sum.inr n,f 0)::iP r _=(Sum.inr n,g 0)::iP r _;rw[h 0 (by simp),qC (ns:=r) (f:=λi=>f (i+1)) (g:=λi=>g (i+1)) λi hi=>h (i+1) (by simpa using hi)]
theorem iO:∀(ns:Of)(f:Nat->V),(iP ns f).length=ns.length|[],_=>rfl|n::r,f=>by rw[iP,pw,pw,iO r]
theorem sM:∀{ns:Of}{f:Nat->V}{i:Nat}{x:Str},ns.Nodup->ns[i]?=some x->bn (iP ns f) (.inr x)=some (f i)
 |[],_,i,_,_,h=>by simp at h|n::r,f,0,x,_,h=>by
  have e:n=x:=by simpa using h
  exact cz (by rw[e])|n::r,f,i+1,x,hn,h=>by
  have h:r[i]?=some x:=by simpa using h
  rw[MS]at hn;have ne:n≠x:=λz=>hn.1 (by rw[z];exact g_ h);show bn ((Sum.inr n,f 0)::iP r _) _=_;rw[bM λz=>ne (sT z)];exact sM hn.2 h
theorem je:∀{ns:Of}{f:Nat->V}{x:Str},x∉ns->bn (iP ns f) (.inr x)=none|[],_,_,_=>rfl|n::r,f,x,h=>by show bn ((Sum.inr n,f 0)::iP r _) _=_;rw[bM λz=>h (by rw[sT z];exact m_)];exact je λz=>h (lm _ z)
theorem xa:∀{ns:Of}{f:Nat->V}{i:Nat},(iP ns f)[i]?=ns[i]?.map λx=>(.inr x,f i)|[],_,i=>by simp[iP]|n::r,f,0=>rfl|n::r,f,i+1=>by show(iP r λi=>f (i+1))[i]?=_;rw[xa];simp
section
variable{P:Oe}{w:World}{K:N_}{a:fV}{H c:Hp}{M:bD}{Z:ZS}
def bG.tab(h:bG P w K a H M Z)(d:M.las[i]?=some l):∃m,eW P w K a.bS H (Z.G (.tb i)) (Z.G (.od i)) (Z.G (.td i)) M.p (Z.ow i) (Z.tk i) m/\jp M.p l.S (Z.ow i) m:=by obtain⟨h1,⟨m,h2,h3⟩,_⟩:=h.tabs i l d;exact⟨m,⟨⟨_,h.at_ (.tb i) _ (by simp only[cont,d];rfl)⟩,h.at_ (.od i) _ (by simp only[cont,d];rfl),h.at_ (.td i) _ (by simp only[cont,d];rfl),h1,h2⟩,h3⟩
def bG.told(h:bG P w K a H M Z)(s:M.las[i]?=some l)(o:mO (Z.G (.od i)) (Z.G (.td i)) H c)(C:eW P w K a.bS c (Z.G (.tb i)) (Z.G (.od i)) (Z.G (.td i)) M.p f d I)(L:jp M.p t f I)(N:uY (cR K H) M.p t f)(O:fF H (Z.tk i) d):bG P w K a c {M with las:=M.las.set i {l with S:=t}} {Z with ow:=λj=>if j=i then f else Z.ow j,tk:=λj=>if j=i then d else Z.tk j}:=by
 obtain⟨m,J,_⟩:=h.tab s;have im:Im (Z.G .dl) H c:=by
  have g:∀b ob,H b=some ob->(∀D,ob≠.dK D)->(∀φ,ob≠.ext φ)->c b=some ob:=λb ob e h1 h2=>o b ob e (λz=>by rw[z,J.own]at e;cases e;exact h1 _ rfl) (λz=>by rw[z,J.tak]at e;cases e;exact h2 _ rfl)
  exact⟨⟨λu Q e=>g _ _ e (λ_ z=>(nomatch z)) (λ_ z=>(nomatch z)),λu x⟨E,e⟩=>⟨E,g _ _ e (λ_ z=>(nomatch z)) (λ_ z=>(nomatch z))⟩⟩,λb Q e _=>g _ _ e (λ_ z=>(nomatch z)) (λ_ z=>(nomatch z))⟩
 have v:∀r ob,cont P w a {M with las:=M.las.set i {l with S:=t}} {Z with ow:=λj=>if j=i then f else Z.ow j,tk:=λj=>if j=i then d else Z.tk j} r=some ob->(r=.od i/\ob=.dK f)\/(r=.td i/\ob=dM P w (Z.G (.td i)) d)\/(r≠.od i/\r≠.td i/\cont P w a M Z r=some ob):=λr ob e=>by
  rw[zd (l':={l with S:=t}) s rfl rfl]at e;cases r with|od j=>
   by_cases q:j=i
   ·subst q;have e:(M.las[j]?.map λ_=>HO.dK (if j=j then f else Z.ow j))=some ob:=e;rw[s,mo rfl]at e;exact .inl ⟨rfl,(nB e).symm⟩
   ·have e:(M.las[j]?.map λ_=>HO.dK (if j=i then f else Z.ow j))=some ob:=e;rw[l_ q]at e;exact .inr (.inr ⟨λz=>q (by injection z),λz=>(nomatch z),e⟩)|td j=>
   by_cases q:j=i
   ·subst q;have e:(M.las[j]?.map λ_=>dM P w (Z.G (.td j)) (if j=j then d else Z.tk j))=some ob:=e;rw[s,mo rfl]at e;exact .inr (.inl ⟨rfl,(nB e).symm⟩)
   ·have e:(M.las[j]?.map λ_=>dM P w (Z.G (.td j)) (if j=i then d else Z.tk j))=some ob:=e;rw[l_ q]at e;exact .inr (.inr ⟨λz=>(nomatch z),λz=>q (by injection z),e⟩)|_=>exact .inr (.inr ⟨λz=>(nomatch z),λz=>(nomatch z),e⟩)
 have A:cont P w a M Z (.od i)=some (.dK (Z.ow i)):=by simp only[cont,s];rfl
 have B:cont P w a M Z (.td i)=some (dM P w (Z.G (.td i)) (Z.tk i)):=by simp only[cont,s];rfl
 have live:∀r ob,cont P w a {M with las:=M.las.set i {l with S:=t}} {Z with ow:=λj=>if j=i then f else Z.ow j,tk:=λj=>if j=i then d else Z.tk j} r=some ob->∃E,cont P w a M Z r=some E:=λr ob e=>by
  rcases v r ob e with⟨rfl,_⟩|⟨rfl,_⟩|⟨_,_,q⟩
  ·exact⟨_,A⟩
  ·exact⟨_,B⟩
  ·exact⟨_,q⟩
 refine⟨λr R ob F e T g=>?_,λr ob e=>?_,λj k e=>?_,h.trsI im.kp,λj k e=>?_,h.came.im im⟩
 ·obtain⟨_,q⟩:=live r ob e;obtain⟨_,U⟩:=live R F T;exact h.inj _ _ _ _ q U g
 ·rcases v r ob e with⟨rfl,rfl⟩|⟨rfl,rfl⟩|⟨n1,n2,q⟩
  ·exact C.own
  ·exact C.tak
  ·exact o _ _ (h.at_ _ _ q) (λz=>n1 (h.inj _ _ _ _ q A z)) (λz=>n2 (h.inj _ _ _ _ q B z))
 ·rcases oX e with⟨rfl,rfl⟩|⟨n,q⟩
  ·exact(h.seats _ l s).kp im.kp
  ·exact(h.seats j k q).kp im.kp
 ·rcases oX e with⟨rfl,rfl⟩|⟨n,q⟩
  ·show cT K c (if j=j then d else Z.tk j)/\(∃m,fB c (if j=j then d else Z.tk j) m/\jp M.p t (if j=j then f else Z.ow j) m)/\uY (cR K c) M.p t (if j=j then f else Z.ow j)/\∀x∈(if j=j then d else Z.tk j),x.2.2≠.ref (Z.G .dl);rw[mo rfl,mo rfl];refine⟨C.keys,⟨I,C.lsts,L⟩,N.mono λ_ _ q=>cq im.kp q,λx V z=>?_⟩;rcases O x V with⟨y,W,e⟩|⟨X,e,hn⟩
   ·exact(h.tabs _ l s).2.2.2 y W (e.trans z)
   ·rw[e]at z;cases z;rw[h.at_ .dl _ rfl]at hn;cases hn
  ·show cT K c (if j=i then d else Z.tk j)/\(∃m,fB c (if j=i then d else Z.tk j) m/\jp M.p k.S (if j=i then f else Z.ow j) m)/\uY (cR K c) M.p k.S (if j=i then f else Z.ow j)/\∀x∈(if j=i then d else Z.tk j),x.2.2≠.ref (Z.G .dl);rw[l_ n,l_ n];exact h.tabsI im j k q
end
def vy(c d:Nat):Ro->Prop|.lo i=>i<c|.iu i=>i<c|.tb i=>i<c|.od i=>i<c|.td i=>i<c|.tr i=>i<d|.ba i=>i<d|_=>True
def qK(e:cont P w a M Z r=some o):vy M.las.length M.trs.length r:=by cases r<;>first|exact trivial|(obtain⟨y,h1,_⟩:=Option.map_eq_some_iff.mp e;exact(d_.mp h1).1)
def mZ(P:Oe)(w:World)(a:fV)(Z:ZS)(h:vy M.las.length M.trs.length r):∃o,cont P w a M Z r=some o:=by cases r<;>first|exact⟨_,rfl⟩|(have h:_<M.las.length:=h;exact⟨_,by simp only[cont,h_ h];rfl⟩)|(have h:_<M.trs.length:=h;exact⟨_,by simp only[cont,h_ h];rfl⟩)
def ZS.newL(Z:ZS)(n:Nat)(lo e t f g c d:Addr):ZS:={Z with
 G:=λr=>if r=.lo n then lo else if r=.iu n then e else if r=.tb n then t else if r=.od n then f else if r=.td n then g else Z.G r
 dx:=λr=>if r=.lo n then c else if r=.tb n then d else Z.dx r
 iv:=λj=>if j=n then[]else Z.iv j
 ow:=λj=>if j=n then[]else Z.ow j
 tk:=λj=>if j=n then[]else Z.tk j}
def ZS.newT(Z:ZS)(n:Nat)(t c dx ar:Addr)(ru:V)(sh:Addr):ZS:={Z with
 G:=λr=>if r=.tr n then t else if r=.ba n then c else Z.G r
 dx:=λr=>if r=.tr n then dx else Z.dx r
 ar:=λj=>if j=n then ar else Z.ar j
 ru:=λj=>if j=n then ru else Z.ru j
 sh:=λj=>if j=n then sh else Z.sh j}
def oV(e:(c++[x])[j]?=some y):(j=c.length/\y=x)\/(j≠c.length/\c[j]?=some y):=by
 rcases Nat.lt_trichotomy j c.length with q|q|q
 ·rw[y_ q]at e;exact .inr ⟨ot q,e⟩
 ·subst q;rw[List.getElem?_concat_length]at e;exact .inl ⟨rfl,(nB e).symm⟩
 ·rw[p_ (by simp;exact q)]at e;cases e
def i4(e:(c++[x])[j]?.map f=some o):(j=c.length/\o=f x)\/(j≠c.length/\c[j]?.map f=some o):=by
 obtain⟨y,h1,h2⟩:=Option.map_eq_some_iff.mp e;rcases oV h1 with⟨q,rfl⟩|⟨q,z⟩
 ·exact .inl ⟨q,h2.symm⟩
 ·exact .inr ⟨q,by rw[z];exact w_ some h2⟩
section
variable{P:Oe}{w:World}{K:N_}{a:fV}{H H':Hp}{M:bD}{Z:ZS}
theorem bG.newL(h:bG P w K a H M Z)(h1:H lo=none)(h2:H iu=none)(h3:H t=none)(h4:H od=none)(h5:H td=none)(D:od≠iu)(l:∀b o,H b=some o->b≠Z.G .ln->H' b=some o)(O:H' (Z.G .ln)=some (.dK (iP (M.las.map cD.nm) (λi=>.ref (Z.G (.lo i)))++[(.inr nm,.ref lo)])))(Q:H' lo=some (.ins a.fq c [("slope",.int sl),("table",.ref t),("inside",.ref iu)]))(R:eW P w K a.bS H' t od td M.p [] [] [])(E:lo≠t)(T:H' iu=some (.dK [])):∃s,s.G .hh=Z.G .hh/\s.G .dl=Z.G .dl/\s.ds=Z.ds/\(∀j,s.tk j=(if j=M.las.length then[]else Z.tk j)/\s.ow j=(if j=M.las.length then[]else Z.ow j))/\s.cv=Z.cv/\bG P w K a H' {M with las:=M.las++[⟨nm,sl,AS.new,[]⟩]} s/\∀r,vy (M.las.length+1) M.trs.length r->H (s.G r)=none\/(s.G r=Z.G r/\vy M.las.length M.trs.length r):=by
 obtain⟨d,U⟩:=R.ins;have im:=h.imm (r:=.ln) rfl l;have F:(M.las.map cD.nm).length=M.las.length:=b_ ..;have u:∀r o,cont P w a {M with las:=M.las++[⟨nm,sl,AS.new,[]⟩]} (Z.newL M.las.length lo iu t od td c d) r=some o->(H' ((Z.newL M.las.length lo iu t od td c d).G r)=some o/\(r=.lo M.las.length\/r=.iu M.las.length\/r=.tb M.las.length\/r=.od M.las.length\/r=.td M.las.length))\/((Z.newL M.las.length lo iu t od td c d).G r=Z.G r/\H' (Z.G r)=some o/\∃W,cont P w a M Z r=some W):=λr o e=>by
  cases r with|hh=>exact .inr ⟨rfl,l _ _ (h.at_ .hh _ e) λz=>(nomatch h.inj .hh .ln _ _ rfl rfl z),_,e⟩|tn=>exact .inr ⟨rfl,l _ _ (h.at_ .tn _ e) λz=>(nomatch h.inj .tn .ln _ _ rfl rfl z),_,e⟩|ci=>exact .inr ⟨rfl,l _ _ (h.at_ .ci _ e) λz=>(nomatch h.inj .ci .ln _ _ rfl rfl z),_,e⟩|dl=>exact .inr ⟨rfl,l _ _ (h.at_ .dl _ e) λz=>(nomatch h.inj .dl .ln _ _ rfl rfl z),_,e⟩|tr j=>exact .inr ⟨rfl,l _ _ (h.at_ (.tr j) _ e) λz=>(nomatch h.inj (.tr j) .ln _ _ e rfl z),_,e⟩|ba j=>exact .inr ⟨rfl,l _ _ (h.at_ (.ba j) _ e) λz=>(nomatch h.inj (.ba j) .ln _ _ e rfl z),_,e⟩|ln=>refine .inr ⟨rfl,?_,_,rfl⟩;rw[O,<-e];show _=some (HO.dK (iP ((M.las++[(⟨nm,sl,AS.new,[]⟩:cD)]).map cD.nm) λi=>V.ref ((Z.newL M.las.length lo iu t od td c d).G (.lo i))));rw[me,NI,xb,F];have e1:(Z.newL M.las.length lo iu t od td c d).G (.lo M.las.length)=lo:=mo rfl;rw[e1,qC (f:=λi=>V.ref ((Z.newL M.las.length lo iu t od td c d).G (.lo i))) (g:=λi=>V.ref (Z.G (.lo i)))];intro i hi;rw[F]at hi;have n:∀x:Nat->Ro,(∀i j,x i=x j->i=j)->x i≠x M.las.length:=λx I z=>ot hi (I _ _ z);show V.ref (if Ro.lo i=.lo M.las.length then lo else _)=_;rw[l_ (n Ro.lo λ_ _ z=>by injection z)];rfl|lo j=>
   rcases i4 e with⟨rfl,rfl⟩|⟨q,e⟩
   ·refine .inl ⟨?_,.inl rfl⟩;have B:(Z.newL M.las.length lo iu t od td c d).G (.lo M.las.length)=lo:=mo rfl;have X:(Z.newL M.las.length lo iu t od td c d).G (.tb M.las.length)=t:=by simp[ZS.newL]
    have y:(Z.newL M.las.length lo iu t od td c d).G (.iu M.las.length)=iu:=by simp[ZS.newL]
    have A:(Z.newL M.las.length lo iu t od td c d).dx (.lo M.las.length)=c:=mo rfl;rw[B,X,y,A];exact Q
   ·have e:cont P w a M Z (.lo j)=some o:=by rw[<-e];simp[cont,ZS.newL,q]
    exact .inr ⟨by simp[ZS.newL,q],l _ _ (h.at_ (.lo j) _ e) λz=>(nomatch h.inj (.lo j) .ln _ _ e rfl z),_,e⟩|iu j=>
   rcases i4 e with⟨rfl,rfl⟩|⟨q,e⟩
   ·refine .inl ⟨?_,.inr (.inl rfl)⟩;have y:(Z.newL M.las.length lo iu t od td c d).G (.iu M.las.length)=iu:=by simp[ZS.newL]
    have A:(Z.newL M.las.length lo iu t od td c d).iv M.las.length=[]:=mo rfl;rw[y,A];exact T
   ·have e:cont P w a M Z (.iu j)=some o:=by rw[<-e];simp[cont,ZS.newL,q]
    exact .inr ⟨by simp[ZS.newL,q],l _ _ (h.at_ (.iu j) _ e) λz=>(nomatch h.inj (.iu j) .ln _ _ e rfl z),_,e⟩|tb j=>
   rcases i4 e with⟨rfl,rfl⟩|⟨q,e⟩
   ·refine .inl ⟨?_,.inr (.inr (.inl rfl))⟩;have X:(Z.newL M.las.length lo iu t od td c d).G (.tb M.las.length)=t:=by simp[ZS.newL]
    have y:(Z.newL M.las.length lo iu t od td c d).G (.od M.las.length)=od:=by simp[ZS.newL]
    have g5:(Z.newL M.las.length lo iu t od td c d).G (.td M.las.length)=td:=by simp[ZS.newL]
    have A:(Z.newL M.las.length lo iu t od td c d).dx (.tb M.las.length)=d:=by simp[ZS.newL]
    rw[X,y,A,g5];exact U
   ·have e:cont P w a M Z (.tb j)=some o:=by rw[<-e];simp[cont,ZS.newL,q]
    exact .inr ⟨by simp[ZS.newL,q],l _ _ (h.at_ (.tb j) _ e) λz=>(nomatch h.inj (.tb j) .ln _ _ e rfl z),_,e⟩|od j=>
   rcases i4 e with⟨rfl,rfl⟩|⟨q,e⟩
   ·refine .inl ⟨?_,.inr (.inr (.inr (.inl rfl)))⟩;have y:(Z.newL M.las.length lo iu t od td c d).G (.od M.las.length)=od:=by simp[ZS.newL]
    have A:(Z.newL M.las.length lo iu t od td c d).ow M.las.length=[]:=mo rfl;rw[y,A];exact R.own
   ·have e:cont P w a M Z (.od j)=some o:=by rw[<-e];simp[cont,ZS.newL,q]
    exact .inr ⟨by simp[ZS.newL,q],l _ _ (h.at_ (.od j) _ e) λz=>(nomatch h.inj (.od j) .ln _ _ e rfl z),_,e⟩|td j=>
   rcases i4 e with⟨rfl,rfl⟩|⟨q,e⟩
   ·refine .inl ⟨?_,.inr (.inr (.inr (.inr rfl)))⟩;have y:(Z.newL M.las.length lo iu t od td c d).G (.td M.las.length)=td:=by simp[ZS.newL]
    have A:(Z.newL M.las.length lo iu t od td c d).tk M.las.length=[]:=mo rfl;rw[y,A];exact R.tak
   ·have e:cont P w a M Z (.td j)=some o:=by rw[<-e];simp[cont,ZS.newL,q]
    exact .inr ⟨by simp[ZS.newL,q],l _ _ (h.at_ (.td j) _ e) λz=>(nomatch h.inj (.td j) .ln _ _ e rfl z),_,e⟩
 have gs:∀r,(r=.lo M.las.length\/r=.iu M.las.length\/r=.tb M.las.length\/r=.od M.las.length\/r=.td M.las.length)->H ((Z.newL M.las.length lo iu t od td c d).G r)=none:=λr Y=>by rcases Y with rfl|rfl|rfl|rfl|rfl<;>simp only[ZS.newL]<;>simp[h1,h2,h3,h4,h5]
 refine⟨Z.newL M.las.length lo iu t od td c d,rfl,rfl,rfl,λj=>⟨rfl,rfl⟩,rfl,⟨λr r' o W e e' g=>?_,λr o e=>?_,λj C e=>?_,h.trsI im.kp,λj C e=>?_,h.came.im im⟩,λr Y=>?_⟩
 ·rcases u r o e with⟨q,n⟩|⟨B,q,x,J⟩<;>rcases u r' W e' with⟨q',n'⟩|⟨L,q',x',N⟩
  ·rw[g,q']at q;have q:=nB q;rcases n with rfl|rfl|rfl|rfl|rfl<;>rcases n' with rfl|rfl|rfl|rfl|rfl<;>first|rfl|(exfalso;simp[ZS.newL]at g;first|exact E g|exact E g.symm|exact D g|exact D g.symm|(simp[cont]at e e';rw[<-e,<-e']at q;cases q))
  ·rw[L]at g;have:=h.at_ _ _ N;rw[<-g,gs r n]at this;cases this
  ·rw[B]at g;have:=h.at_ _ _ J;rw[g,gs r' n']at this;cases this
  ·rw[B,L]at g;exact h.inj _ _ _ _ J N g
 ·rcases u r o e with⟨q,n⟩|⟨B,q,x,J⟩
  ·exact q
  ·rw[B];exact q
 ·rcases oV e with⟨rfl,rfl⟩|⟨n,q⟩
  ·show bZ K H' (if M.las.length=M.las.length then[]else _) [];rw[mo rfl];exact .nil
  ·show bZ K H' (if j=M.las.length then[]else Z.iv j) C.ins;rw[l_ n];exact(h.seats j C q).kp im.kp
 ·rcases oV e with⟨rfl,rfl⟩|⟨n,q⟩
  ·show cT K H' (if M.las.length=M.las.length then[]else _)/\(∃m,fB H' (if M.las.length=M.las.length then[]else _) m/\jp M.p AS.new (if M.las.length=M.las.length then[]else _) m)/\uY (cR K H') M.p AS.new (if M.las.length=M.las.length then[]else _)/\∀x∈(if M.las.length=M.las.length then[]else Z.tk _),x.2.2≠.ref (Z.G .dl);rw[mo rfl,mo rfl];exact⟨λx I=>(nomatch I),⟨[],.nil,λk=>rfl,λp _ _=>rfl⟩,λp v _ _ z=>(nomatch z),λx I=>(nomatch I)⟩
  ·show cT K H' (if j=M.las.length then[]else Z.tk j)/\(∃m,fB H' (if j=M.las.length then[]else Z.tk j) m/\jp M.p C.S (if j=M.las.length then[]else Z.ow j) m)/\uY (cR K H') M.p C.S (if j=M.las.length then[]else Z.ow j)/\∀x∈(if j=M.las.length then[]else Z.tk j),x.2.2≠.ref (Z.G .dl);rw[l_ n,l_ n];exact h.tabsI im j C q
 ·obtain⟨o,e⟩:=mZ P w a (M:={M with las:=M.las++[⟨nm,sl,AS.new,[]⟩]}) (Z.newL M.las.length lo iu t od td c d) (r:=r) (by simpa using Y);rcases u r o e with⟨_,n⟩|⟨B,_,x,J⟩
  ·exact .inl (gs r n)
  ·exact .inr ⟨B,qK J⟩
theorem bG.newT(h:bG P w K a H M Z){nm home:Str}{arms shuts:Of}{rule:Ru}{t ba dx ar sh:Addr}{ru:V}(h1:H t=none)(h2:H ba=none)(c:∀b o,H b=some o->b≠Z.G .tn->H' b=some o)(v:H' (Z.G .tn)=some (.dK (iP (M.trs.map c5.nm) (λi=>.ref (Z.G (.tr i)))++[(.inr nm,.ref t)])))(I:H' t=some (.ins a.fS dx [("home",.str home),("arms",.ref ar),("rule",ru),("shuts",.ref sh),("paused",.bl false),("closed",.bl false),("barred",.ref ba)]))(J:H' ba=some (.dK []))(L:aS K H ar (arms.map V.str))(N:fC K H rule ru)(O:aS K H sh (shuts.map V.str)):∃d,d.G .hh=Z.G .hh/\d.G .dl=Z.G .dl/\d.ds=Z.ds/\d.tk=Z.tk/\d.ow=Z.ow/\d.cv=Z.cv/\bG P w K a H' {M with trs:=M.trs++[⟨nm,home,arms,rule,shuts,false,false,[]⟩]} d/\∀r,vy M.las.length (M.trs.length+1) r->H (d.G r)=none\/(d.G r=Z.G r/\vy M.las.length M.trs.length r):=by
 have im:=h.imm (r:=.tn) rfl c;have m:(M.trs.map c5.nm).length=M.trs.length:=b_ ..;have k:∀r o,cont P w a {M with trs:=M.trs++[⟨nm,home,arms,rule,shuts,false,false,[]⟩]} (Z.newT M.trs.length t ba dx ar ru sh) r=some o->(H' ((Z.newT M.trs.length t ba dx ar ru sh).G r)=some o/\(r=.tr M.trs.length\/r=.ba M.trs.length))\/((Z.newT M.trs.length t ba dx ar ru sh).G r=Z.G r/\H' (Z.G r)=some o/\∃y,cont P w a M Z r=some y):=λr o e=>by
  cases r with|tn=>refine .inr ⟨rfl,?_,_,rfl⟩;rw[v,<-e];show _=some (HO.dK (iP ((M.trs++[(⟨nm,home,arms,rule,shuts,false,false,[]⟩:c5)]).map c5.nm) λi=>V.ref ((Z.newT M.trs.length t ba dx ar ru sh).G (.tr i))));rw[me,NI,xb,m];have Q:(Z.newT M.trs.length t ba dx ar ru sh).G (.tr M.trs.length)=t:=mo rfl;rw[Q,qC (f:=λi=>V.ref ((Z.newT M.trs.length t ba dx ar ru sh).G (.tr i))) (g:=λi=>V.ref (Z.G (.tr i)))];intro i hi;rw[m]at hi;show V.ref (if Ro.tr i=.tr M.trs.length then t else _)=_;rw[l_ λz=>ot hi (by injection z)];rfl|tr j=>
   rcases i4 e with⟨rfl,rfl⟩|⟨q,e⟩
   ·refine .inl ⟨?_,.inl rfl⟩;have l:(Z.newT M.trs.length t ba dx ar ru sh).G (.tr M.trs.length)=t:=mo rfl;have A:(Z.newT M.trs.length t ba dx ar ru sh).G (.ba M.trs.length)=ba:=by simp[ZS.newT]
    have R:(Z.newT M.trs.length t ba dx ar ru sh).dx (.tr M.trs.length)=dx:=mo rfl;have S:(Z.newT M.trs.length t ba dx ar ru sh).ar M.trs.length=ar:=mo rfl;have T:(Z.newT M.trs.length t ba dx ar ru sh).ru M.trs.length=ru:=mo rfl;have U:(Z.newT M.trs.length t ba dx ar ru sh).sh M.trs.length=sh:=mo rfl;rw[l,A,R,S,T,U];exact I
   ·have e:cont P w a M Z (.tr j)=some o:=by rw[<-e];simp[cont,ZS.newT,q]
    exact .inr ⟨by simp[ZS.newT,q],c _ _ (h.at_ (.tr j) _ e) λz=>(nomatch h.inj (.tr j) .tn _ _ e rfl z),_,e⟩|ba j=>
   rcases i4 e with⟨rfl,rfl⟩|⟨q,e⟩
   ·refine .inl ⟨?_,.inr rfl⟩;have A:(Z.newT M.trs.length t ba dx ar ru sh).G (.ba M.trs.length)=ba:=by simp[ZS.newT]
    rw[A];exact J
   ·have e:cont P w a M Z (.ba j)=some o:=by rw[<-e];rfl
    exact .inr ⟨by simp[ZS.newT,q],c _ _ (h.at_ (.ba j) _ e) λz=>(nomatch h.inj (.ba j) .tn _ _ e rfl z),_,e⟩|hh=>exact .inr ⟨rfl,c _ _ (h.at_ .hh _ e) λz=>(nomatch h.inj .hh .tn _ _ rfl rfl z),_,e⟩|ln=>exact .inr ⟨rfl,c _ _ (h.at_ .ln _ e) λz=>(nomatch h.inj .ln .tn _ _ rfl rfl z),_,e⟩|ci=>exact .inr ⟨rfl,c _ _ (h.at_ .ci _ e) λz=>(nomatch h.inj .ci .tn _ _ rfl rfl z),_,e⟩|dl=>exact .inr ⟨rfl,c _ _ (h.at_ .dl _ e) λz=>(nomatch h.inj .dl .tn _ _ rfl rfl z),_,e⟩|lo j=>exact .inr ⟨rfl,c _ _ (h.at_ (.lo j) _ e) λz=>(nomatch h.inj (.lo j) .tn _ _ e rfl z),_,e⟩|iu j=>exact .inr ⟨rfl,c _ _ (h.at_ (.iu j) _ e) λz=>(nomatch h.inj (.iu j) .tn _ _ e rfl z),_,e⟩|tb j=>exact .inr ⟨rfl,c _ _ (h.at_ (.tb j) _ e) λz=>(nomatch h.inj (.tb j) .tn _ _ e rfl z),_,e⟩|od j=>exact .inr ⟨rfl,c _ _ (h.at_ (.od j) _ e) λz=>(nomatch h.inj (.od j) .tn _ _ e rfl z),_,e⟩|td j=>exact .inr ⟨rfl,c _ _ (h.at_ (.td j) _ e) λz=>(nomatch h.inj (.td j) .tn _ _ e rfl z),_,e⟩
 have gs:∀r,(r=.tr M.trs.length\/r=.ba M.trs.length)->H ((Z.newT M.trs.length t ba dx ar ru sh).G r)=none:=λr B=>by rcases B with rfl|rfl<;>simp only[ZS.newT]<;>simp[h1,h2]
 refine⟨Z.newT M.trs.length t ba dx ar ru sh,rfl,rfl,rfl,rfl,rfl,rfl,⟨λr D o y e C g=>?_,λr o e=>?_,λj W e=>(h.seats j W e).kp im.kp,λj X e=>?_,h.tabsI im,h.came.im im⟩,λr B=>?_⟩
 ·rcases k r o e with⟨q,n⟩|⟨l,q,x,p⟩<;>rcases k D y C with⟨E,F⟩|⟨s,E,Y,u⟩
  ·rw[g,E]at q;have q:=nB q;rcases n with rfl|rfl<;>rcases F with rfl|rfl<;>first|rfl|(exfalso;simp[cont]at e C;rw[<-e,<-C]at q;cases q)
  ·rw[s]at g;have:=h.at_ _ _ u;rw[<-g,gs r n]at this;cases this
  ·rw[l]at g;have:=h.at_ _ _ p;rw[g,gs D F]at this;cases this
  ·rw[l,s]at g;exact h.inj _ _ _ _ p u g
 ·rcases k r o e with⟨q,n⟩|⟨l,q,x,p⟩
  ·exact q
  ·rw[l];exact q
 ·rcases oV e with⟨rfl,rfl⟩|⟨n,q⟩
  ·show aS K H' (if M.trs.length=M.trs.length then ar else _) (arms.map V.str)/\fC K H' rule (if M.trs.length=M.trs.length then ru else _)/\aS K H' (if M.trs.length=M.trs.length then sh else _) (shuts.map V.str);rw[mo rfl,mo rfl,mo rfl];exact⟨im.kp.tq L,N.kp im.kp,im.kp.tq O⟩
  ·show aS K H' (if j=M.trs.length then ar else Z.ar j) _/\fC K H' _ (if j=M.trs.length then ru else Z.ru j)/\aS K H' (if j=M.trs.length then sh else Z.sh j) _;rw[l_ n,l_ n,l_ n];exact h.trsI im.kp j X q
 ·obtain⟨o,e⟩:=mZ P w a (M:={M with trs:=M.trs++[⟨nm,home,arms,rule,shuts,false,false,[]⟩]}) (Z.newT M.trs.length t ba dx ar ru sh) (r:=r) (by simpa using B);rcases k r o e with⟨_,n⟩|⟨l,_,x,p⟩
  ·exact .inl (gs r n)
  ·exact .inr ⟨l,qK p⟩
end
def gI(M:bD)(Z:ZS)(b:Addr):Prop:=(∃r,vy M.las.length M.trs.length r/\b=Z.G r)\/(∃i,i<M.las.length/\∃x∈Z.tk i,x.2.2=.ref b)\/∃x∈Z.cv,x.2=.ref b
def fB.outs(n:∀x∈tk,∀l c,x.2.2=.ref l->H l=some (.lst c)->H' l=some (.lst c))(h:fB H tk m):fB H' tk m:=Paired.mapM h λx b _ q=>⟨q.1,q.2.1,q.2.2.imp λ_ q=>⟨q.1,n x b _ _ q.1 q.2⟩⟩
def eV.outs(e:Kp H H')(n:∀x∈cv,∀l c,x.2=.ref l->H l=some (.lst c)->H' l=some (.lst c))(h:eV K H dl cv cm):eV K H' dl cv cm:=Paired.mapM h λx b _ q=>⟨q.1,q.2.imp λ_ q=>q.imp λ_ q=>⟨q.1,q.2.1,n x b _ _ q.1 q.2.2.1,q.2.2.2.kp e⟩⟩
def bG.out(h:bG P w K a H M Z)(n:¬gI M Z o)(kp:Kp H H')(f:∀b ob,H b=some ob->b≠o->H' b=some ob):bG P w K a H' M Z:=⟨h.inj,λr ob e=>f _ _ (h.at_ r ob e) λz=>n (.inl ⟨r,qK e,z.symm⟩),λi l d=>(h.seats i l d).kp kp,h.trsI kp,λi l d=>let⟨h1,⟨m,h2,h3⟩,h4,h5⟩:=h.tabs i l d;⟨λx c=>cq kp (h1 x c),⟨m,h2.outs λx c l k g j=>f _ _ j λz=>n (.inr (.inl ⟨i,(d_.mp d).1,x,c,by rw[g,z]⟩)),h3⟩,h4.mono λ_ _ q=>cq kp q,h5⟩,h.came.outs kp λx c l k g j=>f _ _ j λz=>n (.inr (.inr ⟨x,c,by rw[g,z]⟩))⟩
def mD{a b:Addr}{o:HO}(h:aI H a o b=none):H b=none:=by
 by_cases e:b=a
 ·rw[e,ag]at h;cases h
 ·rw[au e]at h;exact h
structure gD(H:Hp)(M:bD)(Z:ZS)(H':Hp)(M':bD)(Z':ZS):Prop where
 hh:Z'.G .hh=Z.G .hh
 fr:∀b o,H b=some o->¬gI M Z b->H' b=some o
 fp:∀b,gI M' Z' b->gI M Z b\/H b=none
 dm:∀b,H' b=none->H b=none
 dd:Z'.G .dl=Z.G .dl
section
variable{H m f j:Hp}{M M1 M2 c:bD}{Z d g a:ZS}
def gD.of(s:aq H j):gD H M Z j M Z:=⟨rfl,λb o h _=>s b o h,λ_ h=>.inl h,λ_ h=>s.free h,rfl⟩
theorem gD.trans(s:gD H M Z m M1 d)(t:gD m M1 d f M2 g):gD H M Z f M2 g:=⟨t.hh.trans s.hh,λb o h n=>t.fr b o (s.fr b o h n) λq=>(s.fp b q).elim n λz=>(by rw[h]at z;cases z),λb q=>(t.fp b q).elim (s.fp b) λz=>.inr (s.dm b z),λb z=>s.dm b (t.dm b z),t.dd.trans s.dd⟩
def gD.put(s:vy M.las.length M.trs.length r)(p:a.G=Z.G)(h1:c.las.length=M.las.length)(h2:c.trs.length=M.trs.length)(h3:a.tk=Z.tk)(h4:∀x∈a.cv,x∈Z.cv\/∃l,x.2=.ref l/\(gI M Z l\/H l=none)):gD H M Z (aI H (Z.G r) o) c a:=⟨by rw[p],λb o h n=>(by rw[au λz=>n (.inl ⟨r,s,z⟩)];exact h),λb q=>by
  rcases q with⟨t,h,e⟩|⟨i,hi,x,k,e⟩|⟨x,k,e⟩
  ·exact .inl (.inl ⟨t,by rw[<-h1,<-h2];exact h,by rw[e,p]⟩)
  ·exact .inl (.inr (.inl ⟨i,by rw[<-h1];exact hi,x,by rw[<-h3];exact k,e⟩))
  ·rcases h4 x k with q|⟨l,u,q⟩
   ·exact .inl (.inr (.inr ⟨x,q,e⟩))
   ·rw[u]at e;cases e;exact q,λb z=>mD z,by rw[p]⟩
end
def gD.out{o:Addr}{x:HO}{H c:Hp}{M M1:bD}{Z d:ZS}(s:gD H M Z c M1 d)(n:H o=none):gD H M Z (aI c o x) M1 d:=⟨s.hh,λb e h q=>(by rw[au (aH h n)];exact s.fr b e h q),s.fp,λb z=>s.dm b (mD z),s.dd⟩
theorem fB.ex(h:fB H tk m)(x:eU)(c:x∈tk):∃l d,x.2.2=.ref l/\H l=some (.lst d):=(Paired.ex h x c).elim λ_ q=>q.2.2.imp λ_ q=>⟨_,q⟩
theorem eV.ex(h:eV K H dl cv cm)(x:bQ×V)(c:x∈cv):∃l d,x.2=.ref l/\H l=some (.lst d):=(Paired.ex h x c).elim λ_ q=>q.2.imp λ_ q=>q.imp λ_ q=>⟨q.1,q.2.2.1⟩
def bG.foot(h:bG P w K a H M Z)(c:H b=none):¬gI M Z b:=λz=>by
 rcases z with⟨r,j,e⟩|⟨i,hi,x,d,e⟩|⟨x,d,e⟩
 ·obtain⟨o,q⟩:=mZ P w a Z j;rw[e,h.at_ r o q]at c;cases c
 ·obtain⟨_,⟨m,q,_⟩,_⟩:=h.tabs i _ (h_ hi);obtain⟨l,k,f,g⟩:=q.ex x d;rw[f]at e;cases e;rw[g]at c;cases c
 ·obtain⟨l,k,f,g⟩:=h.came.ex x d;rw[f]at e;cases e;rw[g]at c;cases c
structure Fy(M:bD)(c:Nat)(l:cD):Prop where
 wd:Wd l.nm
 sl:0<=l.sl/\l.sl<=M.p
 ok:l.S.Ok M.p
 len:l.ins.length<=c
 gs:∀x∈l.ins,xT x.1
 nd:(l.ins.map (·.1)).Nodup
 own:∀k q,q∈l.S.pl k->k=a9 "" ""\/∃t∈M.trs,t.home=l.nm/\∃y∈t.arms,k=a9 t.nm y
structure Hb(M:bD)(t:c5):Prop where
 wd:Wd t.nm
 hm:t.home∈M.las.map cD.nm
 a1:1<=t.arms.length
 a4:t.arms.length<=4
 nd:t.arms.Nodup
 aw:∀x∈t.arms,Wd x
 hg:t.rule.hgt<=6
 s8:t.shuts.length<=8
structure jo(M:bD)(c:Nat):Prop where
 p:2<=M.p/\M.p<=997
 ln:(M.las.map cD.nm).Nodup
 tn:(M.trs.map c5.nm).Nodup
 la:∀l∈M.las,Fy M c l
 tr:∀t∈M.trs,Hb M t
 cm:∀x∈M.came,x.2.length<=10*c
 l4:M.las.length<=4
 tc:M.trs.length<=10
 cl:M.came.length<=10*c
 br:∀t∈M.trs,t.bar.length<=c
structure cU(P:Oe)(w:World)(K:N_)(a:fV)(H:Hp)(M:bD)(Z:ZS)(c:Nat):Prop where
 g:bG P w K a H M Z
 ok:jo M c
 tk:∀i,(Z.tk i).length<=10*c
 ow:∀i,(Z.ow i).length<=5000*c
 ds:Z.ds.length<=c
def Fy.mono(h:Fy M c l)(hc:c<=d):Fy M d l:={h with len:=n7 h.len hc}
theorem jo.mono(h:jo M c)(hc:c<=d):jo M d:={h with la:=λl b=>(h.la l b).mono hc,cm:=λx e=>n7 (h.cm x e) (MU _ hc),cl:=n7 h.cl (MU _ hc),br:=λt f=>n7 (h.br t f) hc}
theorem cU.mono(h:cU P w K a H M Z c)(hc:c<=d):cU P w K a H M Z d:=⟨h.g,h.ok.mono hc,λi=>n7 (h.tk i) (MU _ hc),λi=>n7 (h.ow i) (MU _ hc),n7 h.ds hc⟩
theorem cU.same(h:cU P w K a H M Z c)(e:aq H H'):cU P w K a H' M Z c:={h with g:=h.g.same e}
section
variable{P:Oe}{w:World}{K:N_}{a:fV}{H d:Hp}{M:bD}{Z:ZS}{c:Nat}
def bG.house(h:bG P w K a H M Z):H (Z.G .hh)=some (.ins a.cC (Z.dx .hh) [("own_prime",.int M.p),("own_salt",.int M.salt),("layer_named",.ref (Z.G .ln)),("trial_named",.ref (Z.G .tn)),("came_into",.ref (Z.G .ci)),("deeds",.ref (Z.G .dl))]):=h.at_ .hh _ rfl
def bG.lays(h:bG P w K a H M Z):H (Z.G .ln)=some (.dK (iP (M.las.map cD.nm) λi=>.ref (Z.G (.lo i)))):=h.at_ .ln _ rfl
def bG.tris(h:bG P w K a H M Z):H (Z.G .tn)=some (.dK (iP (M.trs.map c5.nm) λi=>.ref (Z.G (.tr i)))):=h.at_ .tn _ rfl
def bG.cams(h:bG P w K a H M Z):H (Z.G .ci)=some (.dK Z.cv):=h.at_ .ci _ rfl
def bG.dees(h:bG P w K a H M Z):H (Z.G .dl)=some (.lst Z.ds):=h.at_ .dl _ rfl
def bG.layer(h:bG P w K a H M Z)(e:M.las[i]?=some l):H (Z.G (.lo i))=some (.ins a.fq (Z.dx (.lo i)) [("slope",.int l.sl),("table",.ref (Z.G (.tb i))),("inside",.ref (Z.G (.iu i)))]):=h.at_ (.lo i) _ (by simp only[cont,e];rfl)
def bG.inside(h:bG P w K a H M Z)(e:M.las[i]?=some l):H (Z.G (.iu i))=some (.dK (Z.iv i)):=h.at_ (.iu i) _ (by simp only[cont,e];rfl)
def bG.trial(h:bG P w K a H M Z)(e:M.trs[i]?=some t):H (Z.G (.tr i))=some (.ins a.fS (Z.dx (.tr i)) [("home",.str t.home),("arms",.ref (Z.ar i)),("rule",Z.ru i),("shuts",.ref (Z.sh i)),("paused",.bl t.pau),("closed",.bl t.clo),("barred",.ref (Z.G (.ba i)))]):=h.at_ (.tr i) _ (by simp only[cont,e];rfl)
def bG.barred(h:bG P w K a H M Z)(e:M.trs[i]?=some t):H (Z.G (.ba i))=some (.dK (t.bar.map λg=>(.inr g,.bl true))):=h.at_ (.ba i) _ (by simp only[cont,e];rfl)
def jo.lget(h:jo M c)(e:M.las[i]?=some l):bn (iP (M.las.map cD.nm) λi=>.ref (Z.G (.lo i))) (.inr l.nm)=some (.ref (Z.G (.lo i))):=sM h.ln (by rw[i_,e];rfl)
def jo.tget(h:jo M c)(e:M.trs[i]?=some t):bn (iP (M.trs.map c5.nm) λi=>.ref (Z.G (.tr i))) (.inr t.nm)=some (.ref (Z.G (.tr i))):=sM h.tn (by rw[i_,e];rfl)
theorem jo.home(h:jo M c)(f:t∈M.trs):∃(i:Nat)(l:cD),M.las[i]?=some l/\l.nm=t.home:=by obtain⟨l,b,e⟩:=oi.mp (h.tr t f).hm;obtain⟨i,hi⟩:=m3.mp b;exact⟨i,l,hi,e⟩
end
section
variable{K:N_}{H:Hp}
def bZ.find(h:bZ K H iv ins)(hn:(ins.map (·.1)).Nodup):∀x∈ins,∃s,bn iv (.inr x.1)=some (.ref s)/\aS K H s [.str x.2.1,.str x.2.2]:=by induction h with|nil=>exactλx b=>(nomatch b)|@cons _ y _ _ h _ c=>
  intro x b;obtain⟨h1,s,h2,h3⟩:=h;rw[pu,MS]at hn;rcases tA.mp b with rfl|b
  ·exact⟨s,by rw[cz h1,h2],h3⟩
  ·obtain⟨d,f,g⟩:=c hn.2 x b;refine⟨d,?_,g⟩;rw[bM,f];intro e;rw[h1]at e;exact hn.1 (by rw[show y.1=x.1 from sT e];exact oi.mpr ⟨x,b,rfl⟩)
theorem bZ.none(h:bZ K H iv ins)(hn:g∉ins.map (·.1)):bn iv (.inr g)=Option.none:=by induction h with|nil=>rfl|@cons _ y _ _ h _ b=>
  rw[pu]at hn;rw[bM]
  ·exact b λz=>hn (lm _ z)
  ·intro e;rw[h.1]at e;exact hn (by rw[show y.1=g from sT e];exact m_)
def bZ.drop(g:Str)(h:bZ K H iv ins):bZ K H (dO iv (.inr g)) (ins.filter λx=>decide (x.1≠g)):=by induction h with|nil=>exact .nil|@cons x y _ _ h _ b=>
  by_cases e:y.1=g
  ·rw[wo (by rw[h.1,e]),List.filter_cons_of_neg (by simp[e])];exact b
  ·rw[wq (λz=>e (by rw[h.1]at z;exact sT z)),List.filter_cons_of_pos (by simp[e])];exact .cons h b
end
def cy(ins:List (Str×Str×Str))(gs:Of):List (Str×Str×Str):=ins.filter λx=>decide (x.1∉gs)
def lq(ins:List (Str×Str×Str)):cy ins []=ins:=List.filter_eq_self.mpr λ_ _=>by simp
def rD(ins:List (Str×Str×Str))(gs:Of)(g:Str):cy ins (gs++[g])=(cy ins gs).filter λx=>decide (x.1≠g):=by
 unfold cy;rw[List.filter_filter];refine NP λx _=>?_
 by_cases h1:x.1∈gs<;>by_cases h2:x.1=g<;>simp[h1,h2]
def Al(h:g∈ins.map (·.1))(hn:g∉gs):∃x∈cy ins gs,x.1=g:=by obtain⟨x,b,rfl⟩:=oi.mp h;exact⟨x,List.mem_filter.mpr ⟨b,by simpa using hn⟩,rfl⟩
def we(h:(ins.map (·.1)).Nodup):((cy ins gs).map (·.1)).Nodup:=(List.Sublist.map _ List.filter_sublist).nodup h
abbrev bD.setL(M:bD)(i:Nat)(l:cD):bD:={M with las:=M.las.set i l}
def mV{M:bD}{i:Nat}{l:cD}(c:M.las[i]?=some l):M.setL i l=M:=by
 have e:M.las.set i l=M.las:=C_ λj=>by
  rw[M6]
  split
  ·rename_i q;subst q;rw[mo (d_.mp c).1,c]
  ·rfl
 unfold bD.setL;rw[e]
def tF{M:bD}{i:Nat}{l c:cD}:(M.setL i l).setL i c=M.setL i c:=by unfold bD.setL;rw[List.set_set]
def j9{M:bD}{i:Nat}{l l':cD}(c:M.las[i]?=some l):(M.setL i l').las[i]?=some l':=by show(M.las.set i l')[i]?=_;rw[Mc (d_.mp c).1]
theorem jo.setL{M:bD}{c d:Nat}(h:jo M c){i:Nat}{l l':cD}(f:M.las[i]?=some l)(h1:l'.nm=l.nm)(hc:c<=d)(ok:Fy M d l'):jo (M.setL i l') d:=by
 have b:(M.las.set i l').map cD.nm=M.las.map cD.nm:=c9 f cD.nm h1;have h:=h.mono hc;refine{h with ln:=by rw[b];exact h.ln,la:=λx g=>?_,tr:=λt e=>{h.tr t e with hm:=by show t.home∈(M.las.set i l').map cD.nm;rw[b];exact(h.tr t e).hm},l4:=by show(M.las.set i l').length<=4;rw[y3];exact h.l4};rcases G_ g with q|rfl
 ·exact{h.la x q with}
 ·exact{ok with}
inductive Ko(P:Oe)(w:World)(K:N_)(a:fV)(vs:List V)(H:Hp)(Q:VK)(_E:XK):Prop|mk(M:bD)(Z:ZS)(c i:Nat)(l:cD)(g:Addr)(gs:Of)(_:vs=[.ref (Z.G .hh),.ref (Z.G (.lo i)),.ref g])(_:cU P w K a H M Z c)(_:M.las[i]?=some l)(_:H g=some (.lst (gs.map V.str)))(_:(∀x∈gs,x∈l.ins.map (·.1)))(_:gs.Nodup)(_:gs.length<=63)(_:∀(r:Addr)(us:List V)(Z':ZS)(H':Hp),gD H M Z H' (M.setL i {l with ins:=cy l.ins gs}) Z'->cU P w K a H' (M.setL i {l with ins:=cy l.ins gs}) Z' c->H r=none->H' r=some (.lst us)->Z'.ds=Z.ds->Q (.ref r) H')
inductive JO(P:Oe)(w:World)(K:N_)(a:fV)(H:Hp)(M:bD)(Z:ZS)(i:Nat)(l:cD)(g:Addr)(gs:Of)(o:Addr)(k:Nat)(σ:St)(H':Hp):Prop|mk(Z':ZS)(us:Oj)(v4 v5:Option V)(hG:bG P w K a H' (M.setL i {l with ins:=cy l.ins (gs.take k)}) Z')(eG:Z'.G=Z.G)(etk:Z'.tk=Z.tk)(eow:Z'.ow=Z.ow)(eds:Z'.ds=Z.ds)(ecv:Z'.cv=Z.cv)(nf:¬gI (M.setL i {l with ins:=cy l.ins (gs.take k)}) Z' o)(st:gD H M Z H' (M.setL i {l with ins:=cy l.ins (gs.take k)}) Z')(hg:H' g=some (.lst (gs.map V.str)))(ho:H' o=some (.lst (us.map V.ref)))(hul:us.length=k)(hus:∀u∈us,∃x y z,aS K H' u [.str x,.str y,.str z])(e:σ=[some (.ref (Z.G .hh)),some (.ref (Z.G (.lo i))),some (.ref g),some (.ref o),v4,v5]):JO P w K a H M Z i l g gs o k σ H'
section
def kF(T:Txt K mg a):aT P w K mg base dR 1 a.cI.x a.cI.d ["self","layer","guests"] (Ko P w K a):=by
 refine T.cI.ok ft λbt A outer s H vs Q E hr h=>?_
 ·obtain⟨M,Z,c,i,l,g,gs,rfl,hZ,hl,hg,a5,a6,bl,q⟩:=h;refine⟨_,(ai (bj 3 ft.nd (bh af)) (ai (d6 qq rfl (c7 K rfl (Y 2)) (qg 4 ft.nd) (ai (bj 5 ft.nd (yt (aK K rfl (Y 1)) (Y 4) ⟨rfl,rfl,rfl,rfl⟩)) (aj (aZ (jc K rfl PySem.F.plainAttrs_list PySem.F.slot_list_append PySem.F.type_list_append fw (Y 3) (ae (az (uc K rfl) (aR (ae (Y 4) af)) (Y 5)) af)))))) (aj (aB (aA (Aw K rfl) (by rfl) T.yN L2.rN (ae (Y 3) af)))))),?_⟩
  refine⟨ls rfl,λo ho=>av ?_⟩;refine jf ho λH1 s1 a7=>?_;have hL:=hZ.ok.la l (g_ hl);have a8:¬gI M Z o:=hZ.g.foot ho;have ba:(gs.map V.str).length=gs.length:=b_ ..;refine U rfl ⟨g,rfl,⟨_,aY.of (s1 _ _ hg)⟩,?_⟩;refine iV (xs:=gs.map V.str) (JO P w K a H M Z i l g gs o) ⟨Z,[],_,_,by rw[Mm,lq];exact(mV hl).symm▸hZ.g.same s1,rfl,rfl,rfl,rfl,rfl,by rw[Mm,lq];exact(mV hl).symm▸a8,by rw[Mm,lq];exact(mV hl).symm▸gD.of s1,s1 _ _ hg,a7,rfl,λu hu=>(nomatch hu),rfl⟩ (λk σ H' _ h=>by obtain⟨_,_,_,_,_,_,_,_,_,_,_,_,h,_⟩:=h;exact aY.of h) ?_ ?_
  ·rintro k v σ H2 hv⟨f,us,v4,v5,m,eG,aa,ac,D,an,S,p,ad,C,I,t,rfl⟩N R B hN;rw[i_]at hv;obtain⟨x,W,rfl⟩:=Option.map_eq_some_iff.mp hv;have hk:k<gs.length:=(d_.mp W).1;have X:=dI W;have bb:x∉gs.take k:=λz=>by have:=a6;rw[<-ro k gs,q_]at this;exact this.2.2 x z x (g_ (by rw[NJ,Nat.add_zero];exact W)) rfl
   have bc:¬gI (M.setL i {l with ins:=cy l.ins (gs.take k)}) f o:=λz=>(S z);obtain⟨y,hy,ey⟩:=Al (a5 x (g_ W)) bb;have n:=j9 (l':={l with ins:=cy l.ins (gs.take k)}) hl;have ap:=m.seats i _ n;obtain⟨s,as,J⟩:=ap.find (we hL.nd) y hy;rw[ey]at as;refine av (iz (by rw[<-eG];exact m.layer n) T.ce T.bV rfl rfl ⟨f.G (.iu i),rfl,.inl ⟨_,.inl (m.inside n)⟩,U rfl ⟨_,.inr x,_,m.inside n,rfl,as,av ?_⟩⟩);have L:=m.setIns n (ap.drop x);have im:=m.imm (r:=.iu i) (by simp only[cont,n];rfl) (cA (o':=.dK (dO (f.iv i) (.inr x))));have O:gD H2 _ f (aI H2 (f.G (.iu i)) (.dK (dO (f.iv i) (.inr x)))) ((M.setL i {l with ins:=cy l.ins (gs.take k)}).setL i {l with ins:=(cy l.ins (gs.take k)).filter λz=>decide (z.1≠x)}) {f with iv:=λj=>if j=i then dO (f.iv i) (.inr x)else f.iv j}:=gD.put (show i<_ from(d_.mp n).1) rfl (y3 ..) rfl rfl λx W=>.inl W;have ax:=cA (x:=f.G (.iu i)) (o':=.dK (dO (f.iv i) (.inr x))) _ _ ad λz=>by have e:=m.inside n;rw[<-z,ad]at e;cases e
   have al:=cA (x:=f.G (.iu i)) (o':=.dK (dO (f.iv i) (.inr x))) _ _ C λz=>by have e:=m.inside n;rw[<-z,C]at e;cases e
   rw[tF,<-rD,<-X]at O;have L:bG P w K a (aI H2 (f.G (.iu i)) (.dK (dO (f.iv i) (.inr x)))) (M.setL i {l with ins:=cy l.ins (gs.take (k+1))}) {f with iv:=λj=>if j=i then dO (f.iv i) (.inr x)else f.iv j}:=by rw[X,rD,<-tF (l:={l with ins:=cy l.ins (gs.take k)})];exact L
   have J:=im.kp.tq J;have t:∀u∈us,∃x1 y1 z1,aS K (aI H2 (f.G (.iu i)) (.dK (dO (f.iv i) (.inr x)))) u [.str x1,.str y1,.str z1]:=λu hu=>let⟨x1,y1,z1,h⟩:=t u hu;⟨x1,y1,z1,im.kp.tq h⟩;generalize aI H2 (f.G (.iu i)) (.dK (dO (f.iv i) (.inr x)))=H3 at L O ax al J t⊢;refine U rfl ⟨.inl ⟨rfl,_,aY.of al⟩,U rfl ⟨ls rfl,λT1 a2=>(U rfl ⟨T1,s,[.str x],U rfl ⟨rfl,aS.of ag,aq.tseq (ak (aq.refl _) a2) J,by simp,by rw[nk];simp,λz=>(nomatch z),λ_ T2 bi=>?_⟩⟩)⟩⟩;have s5:=ak (o:=.tup ([.str x]++[.str y.2.1,.str y.2.2])) (ak (o:=.tup [.str x]) (aq.refl H3) a2) bi;have e5:aI (aI H3 T1 (.tup [.str x])) T2 (.tup ([.str x]++[.str y.2.1,.str y.2.2])) T2=some (.tup [.str x,.str y.2.1,.str y.2.2]):=ag;generalize aI (aI H3 T1 (.tup [.str x])) T2 (.tup ([.str x]++[.str y.2.1,.str y.2.2]))=H5 at s5 e5⊢;have a3:=s5 _ _ al;refine rA a3 (by rw[b_,I,nk];lia) ?_;have kp:Kp H5 (aI H5 o (.lst (us.map V.ref++[.ref T2]))):=.lst a3;have nF:¬gI (M.setL i {l with ins:=cy l.ins (gs.take (k+1))}) {f with iv:=λj=>if j=i then dO (f.iv i) (.inr x)else f.iv j} o:=λz=>by
    rcases O.fp o z with q|q
    ·exact bc q
    ·rw[C]at q;cases q
   have kq:∀b ob,H5 b=some ob->b≠o->aI H5 o (.lst (us.map V.ref++[.ref T2])) b=some ob:=cA;refine hN _ _ ⟨{f with iv:=λj=>if j=i then dO (f.iv i) (.inr x)else f.iv j},us++[T2],_,_,(L.same s5).out nF kp kq,eG,aa,ac,D,an,nF,((p.trans O).trans (gD.of s5)).out ho,?_,?_,by rw[k_,I];rfl,λu hu=>?_,rfl⟩
   ·exact kq _ _ (s5 _ _ ax) λz=>by rw[z,ho]at hg;cases hg
   ·rw[ag,me];rfl
   ·rcases Ny.mp hu with z|z
    ·obtain⟨x1,y1,z1,h⟩:=t u z;exact⟨x1,y1,z1,kp.tq (aq.tseq s5 h)⟩
    ·rw[List.mem_singleton.mp z];exact⟨_,_,_,kp.tq (aS.of e5)⟩
  ·rintro σ H2⟨f,us,v4,v5,m,eG,aa,ac,D,an,S,p,ad,C,I,t,rfl⟩;rw[ba]at I m p;rw[oD (f_ _)]at m p;refine U rfl ⟨o,us,rfl,aY.of C,by lia,t,λr vs hr hp=>?_⟩;have s6:=ak (o:=.lst (vs.map V.ref)) (aq.refl H2) hr;refine q r (vs.map V.ref) f _ (p.trans (gD.of s6)) ⟨m.same s6,?_,λj=>by rw[aa];exact hZ.tk j,λj=>by rw[ac];exact hZ.ow j,by rw[D];exact hZ.ds⟩ (p.dm _ hr) ag D;refine hZ.ok.setL hl rfl (f_ _) {hL with len:=n7 (z4 _ _) hL.len,gs:=λx W=>hL.gs x (List.mem_filter.mp W).1,nd:=we hL.nd}
end
def JF.kp(e:Kp H H')(h:JF K H c W):JF K H' c W:=Paired.mapP h λ_ _ q=>q.imp λ_ q=>q.imp λ_ q=>⟨q.1,e.tq q.2.1,cq e q.2.2⟩
def oh(x:Str)(arms:Of)(l:Ol):Wl:=(arms.zip l).map λp=>(a9 x p.1,p.2)
def FC(h:l.length=arms.length):(oh x arms l).length=arms.length:=by unfold oh;rw[b_,List.length_zip,h,Nat.min_self]
def HP{x:Str}{arms:Of}{l:Ol}{i:Nat}{y:Str}{z:Int}(h1:arms[i]?=some y)(h2:l[i]?=some z):(oh x arms l)[i]?=some (a9 x y,z):=by unfold oh;rw[i_,List.getElem?_zip_eq_some (z:=(y,z))|>.mpr ⟨h1,h2⟩];rfl
theorem sR:∀{arms:Of}{l:Ol},l.length=arms.length->(oh x arms l).map (·.1)=arms.map (a9 x)|[],_,_=>rfl|y::r,[],h=>nomatch h|y::r,z::l,h=>by show a9 x y::(oh x r l).map (·.1)=a9 x y::r.map (a9 x);rw[sR (by simpa using h)]
def gT(h:a9 x y=a9 z u):x=z/\y=u:=by have h:=sT h;rw[N7,N7]at h;exact⟨sT h.1,sT h.2.1⟩
def wJ(h:l.length=arms.length)(hn:arms.Nodup):((oh x arms l).map (·.1)).Nodup:=by rw[sR h,Mn,List.pairwise_map];exact(Mn.mp hn).imp λh e=>h (gT e).2
def zu(h:∀i∈l,0<=i):∀y∈oh x arms l,0<=y.2:=λy b=>by obtain⟨p,c,rfl⟩:=oi.mp b;exact h _ (MR c).2
def EQ{S:AS}{j k:bN}{n:Nat}{q:Int}(h:q∈(S.give j n).pl k):q∈S.pl k:=by
 have h:q∈(if k=j then(S.pl j).take n else S.pl k):=h
 split at h
 ·rename_i e;rw[e];exact MM h
 ·exact h
theorem mI:∀{W:Wl}{S:AS}{k:bN}{q:Int},q∈(bC S W).pl k->q∈S.pl k|[],_,_,_,h=>h|x::r,_,_,_,h=>EQ (mI (W:=r) h)
theorem lW:∀{W:Wl}{S:AS}{k:bN}{q:Int},q∈(bT n S W).pl k->q∈S.pl k\/k∈W.map (·.1)
 |[],_,_,_,h=>.inl h|x::r,S,k,q,h=>by
  rcases lW (W:=r) h with h|h
  ·have h:q∈(if k=x.1 then S.pl x.1++_ else S.pl k):=h
   split at h
   ·rename_i e;exact .inr (by rw[pu,e];exact m_)
   ·exact .inl h
  ·exact .inr (lm _ h)
section
variable{P:Oe}{w:World}{K:N_}{a:fV}{H d:Hp}{M:bD}{Z:ZS}{c:Nat}
theorem cU.told(h:cU P w K a H M Z c)(A:M.las[i]?=some l)(o:mO (Z.G (.od i)) (Z.G (.td i)) H d)(C:eW P w K a.bS d (Z.G (.tb i)) (Z.G (.od i)) (Z.G (.td i)) M.p f s L)(N:jp M.p v f L)(O:uY (cR K H) M.p v f)(I:fF H (Z.tk i) s)(b1:s.length<=(Z.tk i).length+10)(b2:f.length<=(Z.ow i).length+5000)(hok:v.Ok M.p)(own:∀k q,q∈v.pl k->(∃D,D∈l.S.pl k)\/k=a9 "" ""\/∃t∈M.trs,t.home=l.nm/\∃y∈t.arms,k=a9 t.nm y):∃B,cU P w K a d (M.setL i {l with S:=v}) B (c+1)/\gD H M Z d (M.setL i {l with S:=v}) B/\B.ds=Z.ds/\B.G=Z.G:=by
 have J:=h.ok.la l (g_ A);obtain⟨m,U,_⟩:=h.g.tab A;have len:(M.setL i {l with S:=v}).las.length=M.las.length:=y3 ..;refine⟨_,⟨h.g.told A o C N O I,h.ok.setL A rfl (so c) {J.mono (so c)with ok:=hok,own:=λk q Q=>?_},λj=>?_,λj=>?_,r3 h.ds⟩,⟨rfl,λb ob e n=>?_,λb q=>?_,λb z=>pQ o (by rw[C.own];simp) (by rw[C.tak];simp) z,rfl⟩,rfl,rfl⟩
 ·rcases own k q Q with⟨D,h1⟩|h1
  ·exact J.own k D h1
  ·exact h1
 ·show(if j=i then s else Z.tk j).length<=_;have:=h.tk j
  split
  ·rename_i e;subst e;lia
  ·lia
 ·show(if j=i then f else Z.ow j).length<=_;have:=h.ow j
  split
  ·rename_i e;subst e;lia
  ·lia
 ·have hi:=(d_.mp A).1;exact o b ob e (λz=>n (.inl ⟨.od i,hi,z⟩)) (λz=>n (.inl ⟨.td i,hi,z⟩))
 ·rcases q with⟨r,R,e⟩|⟨j,E,x,u,e⟩|⟨x,u,e⟩
  ·exact .inl (.inl ⟨r,by rw[<-len];exact R,e⟩)
  ·rw[len]at E
   replace u:x∈(if j=i then s else Z.tk j):=u
   by_cases q:j=i
   ·rw[mo q]at u;subst q;rcases I x u with⟨y,T,F⟩|⟨V,F,hn⟩
    ·exact .inl (.inr (.inl ⟨j,E,y,T,by rw[F,e]⟩))
    ·rw[F]at e;cases e;exact .inr hn
   ·rw[l_ q]at u;exact .inl (.inr (.inl ⟨j,E,x,u,e⟩))
  ·exact .inl (.inr (.inr ⟨x,u,e⟩))
end
def bZ.get(h:bZ K H iv ins)(k:Nat)(x:bQ×V)(e:iv[k]?=some x):∃y,ins[k]?=some y/\x.1=.inr y.1:=(Paired.at_ h k x e).imp λ_ q=>⟨q.1,q.2.1⟩
def bZ.len(h:bZ K H iv ins):iv.length=ins.length:=Paired.length h
def Bm{z:Int}{l:Ol}:oR (.int z) (l.map V.int)=decide (z∈l):=by
 by_cases h:z∈l
 ·rw[ol h];unfold oR;rw[NZ];exact⟨.int z,oi.mpr ⟨z,h,rfl⟩,by show(z==z)=true;exact Ms z⟩
 ·rw[op h];unfold oR;rw[List.any_eq_false];intro v b e;obtain⟨y,c,rfl⟩:=oi.mp b;have e:(y==z)=true:=e;exact h (by rw[<-eq_of_beq e];exact c)
theorem oM:∀l:List Int,(l.map V.int).all n6=true|[]=>rfl|w::r=>by rw[pu,MK,oM r];rfl
def Am(M:bD)(l:cD)(c:Ol):List Str:=(l.ins.map (·.1)).filter λg=>decide (qy M.p M.salt l.sl g∈c)
def i5(M:bD)(l:cD)(t:c5)(ns:Ol):AS:=bT M.p (bC l.S (oh t.nm t.arms ns)) (oh t.nm t.arms ns)
def jN(M:bD)(i:Nat)(l:cD)(t:c5)(ns:Ol):bD:=M.setL i {l with S:=i5 M l t ns,ins:=cy l.ins (Am M l (cr l.S (oh t.nm t.arms ns)))}
inductive FP(P:Oe)(w:World)(K:N_)(a:fV)(vs:List V)(H:Hp)(Q:VK)(E:XK):Prop|mk(M:bD)(Z:ZS)(c i j:Nat)(l:cD)(t:c5)(nv:Addr)(ns:Ol)(_:vs=[.ref (Z.G .hh),.str t.nm,.ref nv])(_:cU P w K a H M Z c)(_:c<=63)(_:M.trs[j]?=some t)(_:M.las[i]?=some l)(_:l.nm=t.home)(_:(aY K H nv (ns.map V.int)\/aS K H nv (ns.map V.int)))(_:ns.length=t.arms.length)(_:(∀x∈ns,0<=x))(_:(cW l.S (oh t.nm t.arms ns)<=((iw M.p l.S.oc).length:Int)->∀(r:Addr)(us:List V)(Z':ZS)(H':Hp),gD H M Z H' (jN M i l t ns) Z'->cU P w K a H' (jN M i l t ns) Z' (c+1)->H r=none->H' r=some (.lst us)->Z'.ds=Z.ds->Q (.ref r) H'))(_:(((iw M.p l.S.oc).length:Int)<cW l.S (oh t.nm t.arms ns)->∀H',aq H H'->E (.ref a.mP) none H'))
section
def gw(T:Txt K mg a):aT P w K mg base (oS P w) 4 a.bL.x a.bL.d ["self","name","numbers"] (FP P w K a):=by
 refine T.bL.okE dy λec A outer s H vs Q E hr h=>?_
 ·obtain⟨M,Z,c,i,j,l,t,nv,ns,rfl,u,hc,hj,hl,hh,ci,aa,cC,q,qe⟩:=h;refine⟨_,(ai (bj 3 dy.nd (d7 (cb hr) (aK K rfl (Y 0)) (Y 1) (λ_ _=>rfl))) (ai (oC (i:=4) dy.nd rfl (.inr rfl) (d7 (cb hr) (aK K rfl (Y 0)) (aK K rfl (Y 3)) (λ_ _=>rfl))) (ai (oC (i:=5) dy.nd rfl (.inr rfl) (bA (aK K rfl (Y 4)) T.bx T.eB.m ((nU (P:=P) (w:=w) T).mono (by decide)) hr T.eB.b .nil bU (ae (sQ c6 ["arm","number"] [] [7,8] (ao fu) (xo _ 7 8) (Gi K rfl rfl T.KK (ae (aK K rfl (Y 3)) (ae (Y 2) af))) (λcl C s₀ H₀ ex=>⟨(gq K rfl rfl (bH (nA c6 ["arm","number"] 7) (bH (nA c6 ["arm","number"] 8) gp))),ck,(aR (ae (aR (ae (Y 1) (ae (Y 7) af))) (ae (Y 8) af)))⟩)) af))) (ai (zO (P:=P) (w:=w) (Fa 6 c6 ["guest"] [] [7] (ao fu) (bY 7) (Gm (P:=P) (w:=w) (aK K rfl (Y 4))) (λcl C s₀ H₀ ex=>⟨(nA c6 ["guest"] 7),(mY (aE (oE K rfl) (bA (Y 0) T.aD T.cu.m ((jF (P:=P) (w:=w) T).mono (by decide)) hr T.cu.b .nil bw (ae (Y 4) (ae (Y 7) af))) (Y 5) (by with_unfolding_all rfl))),(Y 7)⟩) dy.nd)) (aj (aB (bA (Y 0) T.aD T.cI.m ((kF (P:=P) (w:=w) T).mono (by decide)) hr T.cI.b .nil bw (ae (Y 4) (ae (Y 6) af))))))))),?_⟩
  have a6:=g_ hj;have hT:=u.ok.tr t a6;have hL:=u.ok.la l (g_ hl);have hI:=u.g.house;have a7:=u.g.trial hj;obtain⟨a8,-,-⟩:=u.g.trs j t hj;have ba:=u.ok.lget (Z:=Z) hl;rw[hh]at ba;refine iz hI T.aD T.aP rfl rfl (U rfl (rG (.ref (Z.G (.tr j))) (by rw[<-u.ok.tget (Z:=Z) hj];exact dH.k (k:=.inr t.nm) u.g.tris) (av ?_)));refine iz hI T.aD T.aW rfl rfl (iz a7 T.bq T.ii rfl rfl (rG (.ref (Z.G (.lo i))) (by rw[<-ba];exact dH.k (k:=.inr t.home) u.g.lays) (av ?_)));obtain⟨m,bb,ed⟩:=u.g.tab hl;obtain⟨ef,cO⟩:=bb.ins;refine iz (u.g.layer hl) T.ce T.fc rfl rfl (rM cO rfl ?_);refine iz a7 T.bq T.eQ rfl rfl (U rfl ⟨Z.ar j,nv,t.arms.map V.str,ns.map V.int,rfl,a8,?_⟩);have c0:(oh t.nm t.arms ns).length=t.arms.length:=FC aa;have eg:=hT.a4;refine CA (K:=K) (a:=Z.ar j) (l:=nv) (xs:=t.arms.map V.str) (ys:=ns.map V.int) (λD k f H'=>aq H H'/\H' D=some (.lst f)/\JF K H' f ((oh t.nm t.arms ns).take k)) ci (λD hD=>⟨ak (aq.refl _) hD,ag,.nil⟩) (by rw[b_,b_,aa]) (λD k f H' h=>⟨aq.tseq h.1 a8,h.1⟩) ?_ ?_
  ·rintro D k x1 x2 f H2 T1 hD as bc⟨s2,ax,L⟩c1;have hi:k<(t.arms.map V.str).length:=(d_.mp as).1;rw[i_]at as bc;obtain⟨ya,c2,rfl⟩:=Option.map_eq_some_iff.mp as;obtain⟨z2,c3,rfl⟩:=Option.map_eq_some_iff.mp bc;refine jf c1 λJ s3 a2=>?_;refine⟨T1,U rfl ⟨aS.of a2,rfl,_,U rfl (av ⟨_,U rfl (av ⟨rfl,iZ (bo ?_)⟩)⟩)⟩⟩;refine U rfl (U rfl ⟨ls rfl,λB c4=>(U rfl ⟨ls rfl,λT5 bi=>?_⟩)⟩);have s5:=ak (o:=.tup [.ref B,.int z2]) (ak (o:=.tup [.str t.nm,.str ya]) s3 c4) bi;have e5:aI (aI J B (.tup [.str t.nm,.str ya])) T5 (.tup [.ref B,.int z2]) T5=some (.tup [.ref B,.int z2]):=ag;have e4:aI (aI J B (.tup [.str t.nm,.str ya])) T5 (.tup [.ref B,.int z2]) B=some (.tup [.str t.nm,.str ya]):=by rw[au (aH ag bi)];exact ag
   have da:f.length<=4:=by have:=Paired.length L;rw[o8]at this;lia
   show aI (aI J B (.tup [.str t.nm,.str ya])) T5 (.tup [.ref B,.int z2]) D=some (.lst f)/\_;generalize aI (aI J B (.tup [.str t.nm,.str ya])) T5 (.tup [.ref B,.int z2])=H5 at s5 e4 e5⊢;have N:=s5 _ _ ax;have kp:Kp H5 (aI H5 D (.lst (f++[.ref T5]))):=.lst N;refine⟨N,by rw[nk];exact sg da (ov rfl),lf hi ⟨bv (s2.trans s5) hD,ag,?_⟩⟩;rw[dI (HP c2 c3)];exact Paired.snoc ((L.kp (.of s5)).kp kp) ⟨T5,.ref B,rfl,kp.tq (aS.of e5),B,rfl,kp.tq (aS.of e4)⟩
  ·rintro D f H2 hD⟨s2,ax,L⟩;rw[b_,oD (by exact Mt c0)]at L;have a3:=u.same s2;obtain⟨m2,a5,bl⟩:=a3.g.tab hl;have ei:=u.tk i;have ej:=u.ow i;have hp:=u.ok.p;refine⟨Z.G (.tb i),Z.G (.od i),Z.G (.td i),D,M.p,Z.ow i,Z.tk i,m2,l.S,oh t.nm t.arms ns,f,rfl,a5,bl,(a3.g.tabs i l hl).2.2.1,hL.ok,ax,L,zu cC,wJ aa hT.nd,by lia,by lia,by lia,by lia,λdc lb ek el m' J off a2 di dt en O nw nl b1 b2=>av ?_,λdv J s3=>qe dv J (s2.trans s3)⟩;obtain⟨Z3,v,dT,dV,eG⟩:=a3.told hl off a2 di dt nw b1 b2 (kX _ (gQ _ hL.ok)) λk x hx=>by
    rcases lW hx with h|h
    ·exact .inl ⟨x,mI h⟩
    ·rw[sR aa]at h;obtain⟨y,hy,rfl⟩:=oi.mp h;exact .inr (.inr ⟨t,a6,hh.symm,y,hy,rfl⟩)
   have ac:=j9 (l':={l with S:=i5 M l t ns}) hl;have v:cU P w K a J (M.setL i {l with S:=i5 M l t ns}) Z3 (c+1):=v;have bt:=v.g.seats i _ ac;have R:=v.g.layer ac;have F:=v.g.house;have I:=v.g.inside ac;rw[eG]at F R I;refine iz R T.ce T.bV rfl rfl ⟨Z.G (.iu i),U rfl ⟨I,λep=>λDg ad=>?_⟩⟩;have nd:Z.G (.iu i)≠Dg:=λz=>by rw[<-z,ag]at ad;cases ad
   have ap:J Dg=none:=by rw[au (rb nd)]at ad;exact ad
   have d1:(l.ins.map (·.1)).length=(Z3.iv i).length:=by rw[b_];exact bt.len.symm
   have eo:=hL.len;refine xu (n:=(Z3.iv i).length) (λk f H2=>(∀b o,J b=some o->b≠Z.G (.iu i)->H2 b=some o)/\H2 (Z.G (.iu i))=some (dE P w (Z.G (.iu i)) (Z3.iv i) ep)/\H2 Dg=some (.lst f)/\f=(((l.ins.map (·.1)).take k).filter λg=>decide (qy M.p M.salt l.sl g∈cr l.S (oh t.nm t.arms ns))).map V.str) ⟨λb o e n=>by rw[au (aH e ap),au n];exact e,by rw[au nd,ag],ag,rfl⟩ (λk f H2 hk h=>⟨h.2.1,hk⟩) ?_ ?_
   ·rintro k f H4 x H5 hk⟨f4,W,X,rfl⟩⟨rfl,hx⟩;obtain⟨p0,d2,rfl⟩:=Option.map_eq_some_iff.mp hx;obtain⟨y,hy,ey⟩:=bt.get k p0 d2;have d3:=hL.gs y (g_ hy);rw[ey];have bz:Z.G .hh≠Z.G (.iu i):=λz=>by rw[z,I]at F;cases F
    have d4:Z.G (.lo i)≠Z.G (.iu i):=λz=>by rw[z,I]at R;cases R
    have d5:lb≠Z.G (.iu i):=λz=>by rw[z,I]at O;cases O
    have ea:=hL.sl;refine av (nQ (f4 _ _ F bz) rfl rfl (U rfl (U rfl ⟨Z.G .hh,Z.G (.lo i),_,_,_,_,M.p,M.salt,l.sl,y.1,rfl,f4 _ _ F bz,rfl,rfl,f4 _ _ R d4,rfl,d3,⟨by lia,by lia⟩,⟨by exact ea.1,by lia⟩,λH6 s6=>?_⟩)));refine U rfl ⟨lb,U rfl ⟨.inl (aY.of (s6 _ _ (f4 _ _ O d5))),rfl,oM _,U rfl ?_⟩⟩;have bS:(l.ins.map (·.1)).take (k+1)=(l.ins.map (·.1)).take k++[y.1]:=dI (by rw[i_,hy];rfl);have al:((((l.ins.map (·.1)).take k).filter λg=>decide (qy M.p M.salt l.sl g∈cr l.S (oh t.nm t.arms ns))).map V.str).length<=63:=by rw[b_];refine n7 (z4 _ _) ?_;rw[o8,b_];lia
    show if(if false=true then _ else oR (.int (qy M.p M.salt l.sl y.1)) _)=true then _ else _
    rw[l_ oa,Bm];have f6:∀b o,J b=some o->b≠Z.G (.iu i)->H6 b=some o:=λb o e n=>s6 _ _ (f4 b o e n)
    by_cases an:qy M.p M.salt l.sl y.1∈cr l.S (oh t.nm t.arms ns)
    ·rw[ol an];refine bo (U rfl ⟨s6 _ _ X,by rw[nk];lia,lf hk ⟨λb o e n=>by rw[au (aH e ap)];exact f6 b o e n,by rw[au nd];exact s6 _ _ W,ag,?_⟩⟩);rw[bS,MY,me,List.filter_cons_of_pos (by simpa using an)];rfl
    ·rw[op an];refine bX (lf hk ⟨f6,s6 _ _ W,by rw[s6 _ _ X],?_⟩);rw[bS,MY,me,List.filter_cons_of_neg (by simpa using an)];exact(E2 _).symm
   ·rintro f H4⟨f4,W,X,rfl⟩;refine⟨⟨W,f_ _⟩,av ⟨Z.G (.iu i),_,ep,W,?_⟩⟩;rw[oD (by exact Mt d1)]at X;have s4:aq J (aI H4 (Z.G (.iu i)) (.dK (Z3.iv i))):=λb o e=>by
     by_cases z:b=Z.G (.iu i)
     ·rw[z,I]at e;rw[z,ag];exact e
     ·rw[au z];exact f4 b o e z
    have N:aI H4 (Z.G (.iu i)) (.dK (Z3.iv i)) Dg=some (.lst ((Am M l (cr l.S (oh t.nm t.arms ns))).map V.str)):=by rw[au (rb nd)];exact X
    generalize aI H4 (Z.G (.iu i)) (.dK (Z3.iv i))=H5 at s4 N⊢;refine nQ (s4 _ _ F) rfl rfl (U rfl (U rfl ⟨M.setL i {l with S:=i5 M l t ns},Z3,c+1,i,_,Dg,Am M l (cr l.S (oh t.nm t.arms ns)),by rw[eG];rfl,v.same s4,ac,N,λx hx=>(List.mem_filter.mp hx).1,List.filter_sublist.nodup hL.nd,?_,λr us Z6 H6 b0 b8 hr eb b9=>?_⟩))
    ·refine n7 (z4 _ _) ?_;rw[b_];lia
    ·rw[tF]at b0 b8;have cc:gD H M Z H5 (M.setL i {l with S:=i5 M l t ns}) Z3:=((gD.of s2).trans dT).trans (gD.of s4);exact q dc r us Z6 H6 (cc.trans b0) b8 (cc.dm _ hr) eb (b9.trans dV)
end
abbrev bD.setT(M:bD)(j:Nat)(t:c5):bD:={M with trs:=M.trs.set j t}
def j8{M:bD}{i:Nat}{t t':c5}(c:M.trs[i]?=some t):(M.setT i t').trs[i]?=some t':=by show(M.trs.set i t')[i]?=_;rw[Mc (d_.mp c).1]
section
variable{P:Oe}{w:World}{K:N_}{a:fV}{H d:Hp}{M:bD}{Z:ZS}{c:Nat}
theorem jo.setT(h:jo M c){j:Nat}{t f:c5}(g:M.trs[j]?=some t)(h1:f.nm=t.nm)(h2:f.home=t.home)(h3:f.arms=t.arms)(h4:f.rule=t.rule)(h5:f.shuts=t.shuts)(p:f.bar.length<=c):jo (M.setT j f) c:=by
 have r:(M.trs.set j f).map c5.nm=M.trs.map c5.nm:=c9 g c5.nm h1;refine{h with tn:=by rw[r];exact h.tn,la:=λl s=>?_,tr:=λx b=>?_,tc:=by show(M.trs.set j f).length<=10;rw[y3];exact h.tc,br:=λx b=>?_}
 ·have q:=h.la l s;refine{q with own:=λk z u=>?_};rcases q.own k z u with e|⟨x,b,m,y,n,o⟩
  ·exact .inl e
  ·obtain⟨i,hi⟩:=m3.mp b
   by_cases e:i=j
   ·subst e;rw[g]at hi;cases hi;exact .inr ⟨f,g_ (j8 g),by rw[h2];exact m,y,by rw[h3];exact n,by rw[h1];exact o⟩
   ·exact .inr ⟨x,g_ (i:=i) (by rw[r_ λz=>e z.symm];exact hi),m,y,n,o⟩
 ·rcases G_ b with q|rfl
  ·exact{h.tr x q with}
  ·have q:=h.tr t (g_ g);exact⟨by rw[h1];exact q.wd,by rw[h2];exact q.hm,by rw[h3];exact q.a1,by rw[h3];exact q.a4,by rw[h3];exact q.nd,by rw[h3];exact q.aw,by rw[h4];exact q.hg,by rw[h5];exact q.s8⟩
 ·rcases G_ b with q|rfl
  ·exact h.br x q
  ·exact p
theorem cU.setTr(h:cU P w K a H M Z c)(e:M.trs[j]?=some t)(h1:t'.nm=t.nm)(h0:t'.home=t.home)(h2:t'.arms=t.arms)(h3:t'.rule=t.rule)(h4:t'.shuts=t.shuts)(i:t'.bar.length<=c)(f:(r0=.tr j/\t'.bar=t.bar)\/(r0=.ba j/\t'.home=t.home/\t'.pau=t.pau/\t'.clo=t.clo))(l:cont P w a (M.setT j t') Z r0=some o'):cU P w K a (aI H (Z.G r0) o') (M.setT j t') Z c/\gD H M Z (aI H (Z.G r0) o') (M.setT j t') Z:=by refine⟨⟨h.g.setTr e h1 h2 h3 h4 f l,h.ok.setT e h1 h0 h2 h3 h4 i,h.tk,h.ow,h.ds⟩,gD.put ?_ rfl rfl (y3 ..) rfl λx b=>.inl b⟩;have hi:=(d_.mp e).1;rcases f with⟨rfl,_⟩|⟨rfl,_⟩<;>exact hi
end
theorem vU{S:AS}:∀{W:Wl},(∀x∈W,x.2=0)->cW S W<=0|[],_=>M9 _|x::r,h=>by rw[jg,h x m_];have:=vU (S:=S) (W:=r) λy b=>h y (lm _ b);lia
def ij:bN:=a9 "" ""
def EK(M:bD)(i:Nat)(l:cD)(z:Int):bD:=M.setL i {l with S:=bT M.p (bC l.S [(ij,z)]) [(ij,z)]}
def oT(t:c5):List Int:=List.replicate t.arms.length 0
inductive Ix(P:Oe)(w:World)(K:N_)(a:fV)(vs:List V)(H:Hp)(Q:VK)(E:XK):Prop|mk(M:bD)(Z:ZS)(c i:Nat)(l:cD)(z:Int)(_:vs=[.ref (Z.G .hh),.str l.nm,.int z])(_:cU P w K a H M Z c)(_:c<=63)(_:M.las[i]?=some l)(_:0<=z)(_:(cW l.S [(ij,z)]<=((iw M.p l.S.oc).length:Int)->∀(r:Addr)(Z':ZS)(H':Hp),gD H M Z H' (EK M i l z) Z'->cU P w K a H' (EK M i l z) Z' (c+1)->H r=none->H' r=some (.lst [])->Z'.ds=Z.ds->Q (.ref r) H'))(_:(((iw M.p l.S.oc).length:Int)<cW l.S [(ij,z)]->∀H',aq H H'->E (.ref a.mP) none H'))
inductive FU(P:Oe)(w:World)(K:N_)(a:fV)(vs:List V)(H:Hp)(Q:VK)(E:XK):Prop|mk(M:bD)(Z:ZS)(c j:Nat)(t:c5)(b:Bool)(_:vs=[.ref (Z.G .hh),.str t.nm,.bl b])(_:cU P w K a H M Z c)(_:M.trs[j]?=some t)(_:∀(r:Addr)(H':Hp),gD H M Z H' (M.setT j {t with pau:=b}) Z->cU P w K a H' (M.setT j {t with pau:=b}) Z c->H r=none->H' r=some (.lst [])->Q (.ref r) H')
inductive F5(P:Oe)(w:World)(K:N_)(a:fV)(vs:List V)(H:Hp)(Q:VK)(E:XK):Prop|mk(M:bD)(Z:ZS)(c i j:Nat)(l:cD)(t:c5)(_:vs=[.ref (Z.G .hh),.str t.nm])(_:cU P w K a H M Z c)(_:c<=63)(_:M.trs[j]?=some t)(_:M.las[i]?=some l)(_:l.nm=t.home)(_:∀(r:Addr)(us:List V)(Z':ZS)(H':Hp),gD H M Z H' (jN (M.setT j {t with clo:=true}) i l {t with clo:=true} (oT t)) Z'->cU P w K a H' (jN (M.setT j {t with clo:=true}) i l {t with clo:=true} (oT t)) Z' (c+1)->H r=none->H' r=some (.lst us)->Z'.ds=Z.ds->Q (.ref r) H')
section
def qB(T:Txt K mg a):aT P w K mg base (oS P w) 4 a.dD.x a.dD.d ["self","name","number"] (Ix P w K a):=by
 refine T.dD.okE qu λan A outer s H vs Q E u h=>?_
 ·obtain⟨M,Z,c,i,l,z,rfl,f,hc,j,hz,q,qe⟩:=h;refine⟨_,(ai (aZ (bA (aK K rfl (d7 (cb u) (aK K rfl (Y 0)) (Y 1) (λ_ _=>rfl))) T.bx T.eB.m ((nU (P:=P) (w:=w) T).mono (by decide)) u T.eB.b .nil bU (ae (bh (ae (aR (ae (cn (v:=.ref a.uW) ⟨_,T.Ew,rfl⟩ rfl) (ae (Y 2) af))) af)) af))) (aj (aB (bh af)))),?_⟩
  have hL:=f.ok.la l (g_ j);obtain⟨m,y,ap⟩:=f.g.tab j;obtain⟨as,I⟩:=y.ins;refine iz f.g.house T.aD T.aW rfl rfl (U rfl (rG (.ref (Z.G (.lo i))) (by rw[<-f.ok.lget (Z:=Z) j];exact dH.k (k:=.inr l.nm) f.g.lays) ?_));refine rF (f.g.layer j) T.ce T.fc rfl (rM I rfl ?_);refine U rfl ⟨ls rfl,λe J=>⟨ls rfl,λD hD=>?_⟩⟩;have F:=ak (o:=.lst [.ref e]) (ak (o:=.tup [.ref a.uW,.int z]) (aq.refl H) J) hD;have e5:aI (aI H e (.tup [.ref a.uW,.int z])) D (.lst [.ref e]) D=some (.lst [.ref e]):=ag;have e4:aI (aI H e (.tup [.ref a.uW,.int z])) D (.lst [.ref e]) e=some (.tup [.ref a.uW,.int z]):=by rw[au (aH ag hD)];exact ag
  generalize aI (aI H e (.tup [.ref a.uW,.int z])) D (.lst [.ref e])=H2 at F e4 e5⊢;have n:=f.same F;obtain⟨m2,t,B⟩:=n.g.tab j;have ax:=f.tk i;have a2:=f.ow i;have hp:=f.ok.p;refine⟨Z.G (.tb i),Z.G (.od i),Z.G (.td i),D,M.p,Z.ow i,Z.tk i,m2,l.S,[(ij,z)],[.ref e],rfl,t,B,(n.g.tabs i l j).2.2.1,hL.ok,e5,.cons ⟨e,.ref a.uW,rfl,aS.of e4,a.uW,rfl,T.Bi.sq _⟩ .nil,λx L=>by rw[List.mem_singleton.mp L];exact hz,by simp,by simp,by lia,by lia,by lia,λN lb a3 a5 m' O off R V W a6 al nw nl b1 b2=>?_,λX O s3=>qe X O (F.trans s3)⟩;obtain⟨Z3,aa,ac,ad,eG⟩:=n.told j off R V W nw b1 b2 (kX _ (gQ _ hL.ok)) λk x L=>by
   rcases lW L with h|h
   ·exact .inl ⟨x,mI h⟩
   ·exact .inr (.inl (List.mem_singleton.mp h))
  refine⟨ls rfl,λr u=>?_⟩;have s4:=ak (o:=.lst []) (aq.refl O) u;have C:=(gD.of F).trans ac;exact q N r Z3 _ (C.trans (gD.of s4)) (aa.same s4) (C.dm _ u) ag ad
def jG(T:Txt K mg a):aT P w K mg base dR 1 a.cw.x a.cw.d ["self","name","paused"] (FU P w K a):=by
 refine T.cw.ok jw λu A outer s H v Q E l h=>?_
 ·obtain⟨M,Z,c,j,t,b,rfl,e,f,q⟩:=h;refine⟨_,(ai (bj 3 jw.nd (d7 (cb l) (aK K rfl (Y 0)) (Y 1) (λ_ _=>rfl))) (ai (cG K rfl (Y 3) (Y 2)) (aj (aB (bh af))))),?_⟩
  have m:=e.g.trial f;refine iz e.g.house T.aD T.aP rfl rfl (U rfl (rG (.ref (Z.G (.tr j))) (by rw[<-e.ok.tget (Z:=Z) f];exact dH.k (k:=.inr t.nm) e.g.tris) (av ?_)));refine U rfl (U rfl ⟨Z.G (.tr j),_,_,U rfl ⟨m,T.bq,T.iD,by simp,?_⟩⟩);obtain⟨n,i⟩:=e.setTr (t':={t with pau:=b}) (r0:=.tr j) f rfl rfl rfl rfl rfl (e.ok.br t (g_ f)) (.inl ⟨rfl,rfl⟩) (by simp only[cont,j8 f];rfl);refine⟨ls rfl,λr l=>?_⟩;have p:=ak (o:=.lst []) (aq.refl _) l;exact q r _ (i.trans (gD.of p)) (n.same p) (i.dm _ l) ag
def pP(T:Txt K mg a):aT P w K mg base (oS P w) 5 a.dn.x a.dn.d ["self","name"] (F5 P w K a):=by
 refine T.dn.okE jx λan A outer s H vs Q E z h=>?_
 ·obtain⟨M,Z,c,i,j,l,t,rfl,f,hc,n,hl,hh,q⟩:=h;refine⟨_,(ai (bj 2 jx.nd (d7 (cb z) (aK K rfl (Y 0)) (Y 1) (λ_ _=>rfl))) (ai (cG K rfl (Y 2) gu) (aj (aB (bA (Y 0) T.aD T.bL.m ((gw (P:=P) (w:=w) T).mono (by decide)) z T.bL.b .nil bU (ae (Y 1) (ae (az DU (bh (ae ah af)) (aA (aJ K rfl) (by rfl) T.bF L2.aL (ae (aK K rfl (Y 2)) af))) af))))))),?_⟩
  have B:=f.g.trial n;refine iz f.g.house T.aD T.aP rfl rfl (U rfl (rG (.ref (Z.G (.tr j))) (by rw[<-f.ok.tget (Z:=Z) n];exact dH.k (k:=.inr t.nm) f.g.tris) (av ?_)));refine U rfl ⟨Z.G (.tr j),_,_,U rfl ⟨B,T.bq,T.iE,by simp,?_⟩⟩;have u:=j8 (t':={t with clo:=true}) n;obtain⟨e,C⟩:=f.setTr (t':={t with clo:=true}) (r0:=.tr j) n rfl rfl rfl rfl rfl (f.ok.br t (g_ n)) (.inl ⟨rfl,rfl⟩) (by simp only[cont,j8 n];rfl);have D:=e.g.house;have F:=e.g.trial u;obtain⟨v,-,-⟩:=e.g.trs j _ u;refine nQ D rfl rfl (U rfl ⟨ls rfl,λI J=>?_⟩);have L:=ak (o:=.lst [.int 0]) (aq.refl _) J;have e2:aI (aI H (Z.G (.tr j)) (.ins a.fS (Z.dx (.tr j)) [("home",.str t.home),("arms",.ref (Z.ar j)),("rule",Z.ru j),("shuts",.ref (Z.sh j)),("paused",.bl t.pau),("closed",.bl true),("barred",.ref (Z.G (.ba j)))])) I (.lst [.int 0]) I=some (.lst [.int 0]):=ag;refine iz (L _ _ F) T.bq T.eQ rfl rfl ⟨_,t.arms.length,rfl,.inr ⟨_,aq.tseq L v,by simp⟩,I,_,U rfl ⟨rfl,e2,by exact mu _,by have:=(f.ok.tr t (g_ n)).a4;lia,cH (by have:=(f.ok.tr t (g_ n)).a4;simp;exact n7 this (ov rfl)),λg hg=>?_⟩⟩;have N:=ak (o:=.lst (List.replicate (t.arms.length:Int).toNat [V.int 0]).flatten) L hg;have e0:(List.replicate (t.arms.length:Int).toNat [V.int 0]).flatten=(oT t).map V.int:=by
   unfold oT;rw[sf,List.map_replicate];generalize t.arms.length=j
   induction j with|zero=>rfl|succ j ih=>rw[vl,Mi,ih,vl];rfl
  rw[e0]at N⊢;have O:∀x∈oh t.nm t.arms (oT t),x.2=0:=λx R=>by obtain⟨p,hp,rfl⟩:=oi.mp R;exact List.eq_of_mem_replicate (MR hp).2
  have W:=vU (S:=l.S) O;refine⟨M.setT j {t with clo:=true},Z,c,i,j,l,{t with clo:=true},g,oT t,rfl,e.same N,hc,u,hl,hh,.inl (aY.of ag),Md,λx R=>by rw[List.eq_of_mem_replicate R];exact M9 _,λap r us Z' H4 X aa z ac ad=>?_,λal=>absurd W (by show¬cW l.S (oh t.nm t.arms (oT t))<=0;have:cW l.S (oh t.nm t.arms (oT t))>_:=al;lia)⟩;have y:=C.trans (gD.of N);exact q r us Z' H4 (y.trans X) aa (y.dm _ z) ac ad
end
def fK(bs:Of)(g:Str):List Str:=if g∈bs then bs else bs++[g]
def DO(bs:Of)(g:Str):eY (bs.map λg=>((.inr g:bQ),V.bl true)) (.inr g) (.bl true)=(fK bs g).map λg=>((.inr g:bQ),V.bl true):=by
 unfold fK
 by_cases h:g∈bs
 ·rw[mo h];unfold eY;rw[mo (by rw[List.any_map,NZ];exact⟨g,h,by simp⟩),A_];refine Mv λx _=>?_;show(if((.inr x:bQ))=.inr g then((.inr x:bQ),V.bl true)else _)=_
  split<;>rfl
 ·rw[l_ h,pF,me]
  ·rfl
  ·have:∀cs:List Str,g∉cs->bn (cs.map λg=>((.inr g:bQ),V.bl true)) (.inr g)=none:=by
    intro cs
    induction cs with|nil=>intro _;rfl|cons x r b=>intro hn;rw[pu,bM λe=>hn (by rw[<-sT e];exact m_)];exact b λz=>hn (lm _ z)
   exact this bs h
theorem qD:∀{l:List d},(l.map f).Nodup->∀x∈l,∀y∈l,f x=f y->x=y
 |[],_,x,b,_,_,_=>nomatch b|z::r,h,x,b,y,c,e=>by
  rw[pu,MS]at h;rcases tA.mp b with q|q<;>rcases tA.mp c with p|p
  ·rw[q,p]
  ·exact absurd (oi.mpr ⟨y,p,by rw[<-e,q]⟩) h.1
  ·exact absurd (oi.mpr ⟨x,q,by rw[e,p]⟩) h.1
  ·exact qD h.2 x q y p e
def n8(l:cD)(t:c5)(g:Str):List Str:=if∃x∈l.ins,x.1=g/\x.2.1=t.nm then[g]else[]
def AB(M:bD)(i j:Nat)(l:cD)(t:c5)(g:Str):bD:=(M.setT j {t with bar:=fK t.bar g}).setL i {l with ins:=cy l.ins (n8 l t g)}
inductive Kv(P:Oe)(w:World)(K:N_)(a:fV)(vs:List V)(H:Hp)(Q:VK)(E:XK):Prop|mk(M:bD)(Z:ZS)(c i j:Nat)(l:cD)(t:c5)(g:Str)(_:vs=[.ref (Z.G .hh),.str g,.str t.nm])(_:cU P w K a H M Z c)(_:c<=63)(_:M.trs[j]?=some t)(_:M.las[i]?=some l)(_:l.nm=t.home)(_:xT g)(_:∀(r:Addr)(us:List V)(Z':ZS)(H':Hp),gD H M Z H' (AB M i j l t g) Z'->cU P w K a H' (AB M i j l t g) Z' (c+1)->H r=none->H' r=some (.lst us)->Z'.ds=Z.ds->Q (.ref r) H')
section
def sy(T:Txt K mg a):aT P w K mg base dR 2 a.eK.x a.eK.d ["self","guest","name"] (Kv P w K a):=by
 refine T.eK.ok iB λas A outer s H vs Q E n h=>?_
 ·obtain⟨M,Z,c,i,j,l,t,g,rfl,p,hc,B,C,hh,hg,q⟩:=h;refine⟨_,(ai (bj 3 iB.nd (d7 (cb n) (aK K rfl (Y 0)) (Y 2) (λ_ _=>rfl))) (ai (bj 4 iB.nd (d7 (cb n) (aK K rfl (Y 0)) (aK K rfl (Y 3)) (λ_ _=>rfl))) (ai (iC gu (ja (aK K rfl (Y 3)) (Y 1) (oq (cb n)))) (ai (aM (PW.pt (my (mz (zR (cb n) (Y 1) (aK K rfl (Y 4))) rfl) (jC (aE aU (cQ K (d7 (cb n) (aK K rfl (Y 4)) (Y 1) (λ_ _=>rfl)) ah) (Y 2) (aG _))))) (aj (aB (bA (Y 0) T.aD T.cI.m ((kF (P:=P) (w:=w) T).mono (by decide)) n T.cI.b .nil bw (ae (Y 4) (ae (bh (ae (Y 1) af)) af))))) aF) (aj (aB (bh af))))))),?_⟩
  have aa:=g_ B;have hL:=p.ok.la l (g_ C);have D:=p.g.trial B;have F:=p.ok.lget (Z:=Z) C;rw[hh]at F;refine iz p.g.house T.aD T.aP rfl rfl (U rfl (rG (.ref (Z.G (.tr j))) (by rw[<-p.ok.tget (Z:=Z) B];exact dH.k (k:=.inr t.nm) p.g.tris) (av ?_)));refine iz p.g.house T.aD T.aW rfl rfl (iz D T.bq T.ii rfl rfl (rG (.ref (Z.G (.lo i))) (by rw[<-F];exact dH.k (k:=.inr t.home) p.g.lays) (av ?_)));have I:=p.ok.br t aa;refine iz D T.bq T.iF rfl rfl (U rfl ⟨Z.G (.ba j),_,.inr g,rfl,rfl,p.g.barred B,by rw[b_,nk];lia,?_⟩);rw[DO];have ax:=j8 (t':={t with bar:=fK t.bar g}) B;obtain⟨f,v⟩:=(p.mono (so c)).setTr (t':={t with bar:=fK t.bar g}) (r0:=.ba j) (o':=.dK ((fK t.bar g).map λg=>((.inr g:bQ),V.bl true))) B rfl rfl rfl rfl rfl (by show(fK t.bar g).length<=c+1;unfold fK;split;exact r3 I;rw[k_];exact t8 I) (.inr ⟨rfl,rfl,rfl,rfl⟩) (by simp only[cont,j8 B];rfl);generalize aI H (Z.G (.ba j)) (.dK ((fK t.bar g).map λg=>((.inr g:bQ),V.bl true)))=H1 at f v⊢;have J:=f.g.layer C;have L:=f.g.inside C;have N:=f.g.seats i l C;refine U rfl (iz J T.ce T.bV rfl rfl (rG (bn (Z.iv i) (.inr g)) (dH.k (k:=.inr g) L) (U rfl ?_)));have u:n8 l t g=[]->∀r,H1 r=none->Q (.ref r) (aI H1 r (.lst [])):=λe r n=>by
   have O:=ak (o:=.lst []) (aq.refl _) n;have em:AB M i j l t g=M.setT j {t with bar:=fK t.bar g}:=by unfold AB;rw[e,lq];exact mV (M:=M.setT j {t with bar:=fK t.bar g}) C
   exact q r [] Z _ (em▸v.trans (gD.of O)) (em▸f.same O) (v.dm _ n) ag rfl
  by_cases z:g∈l.ins.map (·.1)
  ·obtain⟨x,hx,ex⟩:=oi.mp z;obtain⟨s,hv,ac⟩:=N.find hL.nd x hx;rw[ex]at hv;rw[hv];refine bo (iz J T.ce T.bV rfl rfl (U rfl (rG (.ref s) (by rw[<-hv];exact dH.k (k:=.inr g) L) (rX ac (am (k:=0) rfl) (U rfl ⟨rfl,U rfl ?_⟩)))))
   by_cases hq:x.2.1=t.nm
   ·have R:n8 l t g=[g]:=mo ⟨x,hx,ex,hq⟩;rw[hq];refine be (nQ f.g.house rfl rfl (U rfl (U rfl ⟨ls rfl,λDg ad=>?_⟩)));have O:=ak (o:=.lst [.str g]) (aq.refl _) ad;refine⟨M.setT j {t with bar:=fK t.bar g},Z,c+1,i,l,Dg,[g],rfl,f.same O,C,ag,λy S=>by rw[List.mem_singleton.mp S];exact z,by simp,by simp,λr us Z6 H6 al an n ap W=>?_⟩;have em:AB M i j l t g=(M.setT j {t with bar:=fK t.bar g}).setL i {l with ins:=cy l.ins [g]}:=by unfold AB;rw[R]
    have X:=v.trans (gD.of O);exact q r us Z6 H6 (em▸X.trans al) (em▸an) (X.dm _ n) ap W
   ·have R:n8 l t g=[]:=l_ λ⟨y,S,e1,e2⟩=>hq (by rw[<-qD hL.nd y S x hx (e1.trans ex.symm)];exact e2)
    refine mT hq ⟨ls rfl,u R⟩
  ·have R:n8 l t g=[]:=l_ λ⟨y,S,e1,e2⟩=>z (oi.mpr ⟨y,S,e1⟩);rw[N.none z];exact bX ⟨ls rfl,u R⟩
end
def xH(M:bD)(nm:Str)(sl:Int):bD:={M with las:=M.las++[⟨nm,sl,AS.new,[]⟩]}
def xG(M:bD)(t:c5):bD:={M with trs:=M.trs++[t]}
section
variable{P:Oe}{w:World}{K:N_}{a:fV}{H d:Hp}{M:bD}{Z:ZS}{c:Nat}
def jo.addL(h:jo M c){nm:Str}{sl:Int}(g:Wd nm)(hn:nm∉M.las.map cD.nm)(i:0<=sl/\sl<=M.p)(h4:M.las.length<4):jo (xH M nm sl) c:=by
 have em:(M.las++[(⟨nm,sl,AS.new,[]⟩:cD)]).map cD.nm=M.las.map cD.nm++[nm]:=by rw[me];rfl
 refine{h with ln:=?_,la:=λl j=>?_,tr:=λt f=>{h.tr t f with hm:=?_},l4:=by show(M.las++[_]).length<=4;rw[k_];exact h4}
 ·show((M.las++[(⟨nm,sl,AS.new,[]⟩:cD)]).map cD.nm).Nodup;rw[em,q_];exact⟨h.ln,by simp,λx b y m e=>hn (by rw[<-List.mem_singleton.mp m,<-e];exact b)⟩
 ·rcases Ny.mp j with q|q
  ·exact{h.la l q with}
  ·rw[List.mem_singleton.mp q];exact⟨g,i,AS.new_ok _,o_ _,λx b=>(nomatch b),MX,λk q n=>(nomatch n)⟩
 ·show t.home∈(M.las++[(⟨nm,sl,AS.new,[]⟩:cD)]).map cD.nm;rw[em];exact th _ (h.tr t f).hm
def jo.addT(h:jo M c){t:c5}(ok:Hb M t)(hn:t.nm∉M.trs.map c5.nm)(h4:M.trs.length<10)(f:t.bar=[]):jo (xG M t) c:=by
 refine{h with tn:=?_,la:=λl g=>?_,tr:=λx b=>?_,tc:=by show(M.trs++[_]).length<=10;rw[k_];exact h4,br:=λx b=>?_}
 ·show((M.trs++[t]).map c5.nm).Nodup;rw[me,q_];exact⟨h.tn,by simp,λx b y i e=>hn (by rw[<-show y=t.nm from List.mem_singleton.mp i,<-e];exact b)⟩
 ·have q:=h.la l g;refine{q with own:=λk z j=>?_};rcases q.own k z j with e|⟨x,b,e⟩
  ·exact .inl e
  ·exact .inr ⟨x,th _ b,e⟩
 ·rcases Ny.mp b with q|q
  ·exact{h.tr x q with}
  ·rw[List.mem_singleton.mp q];exact{ok with}
 ·rcases Ny.mp b with q|q
  ·exact h.br x q
  ·rw[List.mem_singleton.mp q,f];exact o_ _
end
inductive BM(P:Oe)(w:World)(K:N_)(a:fV)(vs:List V)(H:Hp)(Q:VK)(E:XK):Prop|mk(M:bD)(Z:ZS)(c:Nat)(nm:Str)(sl:Int)(_:vs=[.ref (Z.G .hh),.str nm,.int sl])(_:cU P w K a H M Z c)(_:Wd nm)(_:nm∉M.las.map cD.nm)(_:(0<=sl/\sl<=M.p))(_:M.las.length<4)(_:∀(r:Addr)(Z':ZS)(H':Hp),gD H M Z H' (xH M nm sl) Z'->cU P w K a H' (xH M nm sl) Z' c->H r=none->H' r=some (.lst [])->Z'.ds=Z.ds->Q (.ref r) H')
inductive BL(P:Oe)(w:World)(K:N_)(a:fV)(vs:List V)(H:Hp)(Q:VK)(E:XK):Prop|mk(M:bD)(Z:ZS)(c:Nat)(H0:Hp)(t ba dx ar sh:Addr)(ru:V)(x:c5)(_:vs=[.ref (Z.G .hh),.str x.nm,.ref t])(_:cU P w K a H0 M Z c)(_:aq H0 H)(_:H0 t=none)(_:H0 ba=none)(_:H ba=some (.dK []))(_:H t=some (.ins a.fS dx [("home",.str x.home),("arms",.ref ar),("rule",ru),("shuts",.ref sh),("paused",.bl false),("closed",.bl false),("barred",.ref ba)]))(_:aS K H0 ar (x.arms.map V.str))(_:fC K H0 x.rule ru)(_:aS K H0 sh (x.shuts.map V.str))(_:x.pau=false)(_:x.clo=false)(_:x.bar=[])(_:Hb M x)(_:x.nm∉M.trs.map c5.nm)(_:M.trs.length<10)(_:∀(r:Addr)(Z':ZS)(H':Hp),gD H0 M Z H' (xG M x) Z'->cU P w K a H' (xG M x) Z' c->H0 r=none->H' r=some (.lst [])->Z'.ds=Z.ds->Q (.ref r) H')
section
def pO(T:Txt K mg a):aT P w K mg base dR 5 a.dh.x a.dh.d ["self","name","slope"] (BM P w K a):=by
 refine T.dh.ok pi λaa A outer s H vs Q E j h=>?_
 ·obtain⟨M,Z,c,nm,sl,rfl,t,hw,hn,hs,h4,q⟩:=h;refine⟨_,(ai (iC (sL T.Ef ((su (P:=P) (w:=w) T).mono (by decide)) j rfl T.GI T.eF.b .nil bw (ae (Y 2) (ae (aK K rfl (Y 0)) af))) (ja (aK K rfl (Y 0)) (Y 1) (oq (cb j)))) (aj (aB (bh af)))),?_⟩
  have W:=t.g.house;refine U rfl (iz W T.aD T.cF rfl rfl (λlo ty l F ac=>?_));have f2:aq H (aI (aI H ty (.own lo)) lo (.ins a.fq ty [])):=λb o e=>by rw[au (aH e l),au (aH e F)];exact e
  have m:aI (aI H ty (.own lo)) lo (.ins a.fq ty []) lo=some (.ins a.fq ty []):=ag;generalize aI (aI H ty (.own lo)) lo (.ins a.fq ty [])=H2 at f2 m⊢;refine⟨lo,ty,sl,M.p,rfl,m,λtb od td iu I u J L N O f3 hL R hu=>⟨rfl,?_⟩⟩;have f:aq H I:=λb o e=>f3 b o (f2 b o e) (aH e l);refine iz (f _ _ W) T.aD T.aW rfl rfl (U rfl ⟨Z.G .ln,_,.inr nm,rfl,rfl,f _ _ t.g.lays,by rw[iO,b_,nk];exact pv h4 (ov rfl),?_⟩);rw[pF _ (je hn)];have v:∀b,H b=none->b≠Z.G .ln:=λb e z=>by rw[z,t.g.lays]at e;cases e
  have y:=f2.free J;have B:=f2.free L;have C:=f2.free u;have D:=f2.free N;obtain⟨dT,iT⟩:=R.ins;obtain⟨X,e1,S,e2,V,e4,hG,lv⟩:=t.g.newL (H':=aI I (Z.G .ln) (.dK (iP (M.las.map cD.nm) (λi=>.ref (Z.G (.lo i)))++[(.inr nm,.ref lo)]))) (nm:=nm) (sl:=sl) l D C y B O (λb o e n=>by rw[au n];exact f b o e) ag (by rw[au (v _ l)];exact hL) ⟨⟨dT,by rw[au (v _ C)];exact iT⟩,by rw[au (v _ y)];exact R.own,by rw[au (v _ B)];exact R.tak,λx k=>(nomatch k),.nil⟩ (λz=>by rw[z,u]at m;cases m) (by rw[au (v _ D)];exact hu)
  refine⟨ls rfl,λr j=>?_⟩;have s5:=ak (o:=.lst []) (aq.refl _) j;have st:gD H M Z (aI I (Z.G .ln) (.dK (iP (M.las.map cD.nm) (λi=>.ref (Z.G (.lo i)))++[(.inr nm,.ref lo)]))) (xH M nm sl) X:=by
   refine⟨e1,λb o e n=>by rw[au λz=>n (.inl ⟨.ln,trivial,z⟩)];exact f b o e,λb z=>?_,λb z=>f.free (mD z),S⟩;rcases z with⟨r,j,rfl⟩|⟨i,hi,x,k,e⟩|⟨x,k,e⟩
   ·have j:vy (M.las++[_]).length M.trs.length r:=j;rw[k_]at j;rcases lv r j with q|⟨q,p⟩
    ·exact .inr q
    ·exact .inl (.inl ⟨r,p,q⟩)
   ·rw[(V i).1]at k;have hi:i<(M.las++[_]).length:=hi;rw[k_]at hi
    by_cases z:i=M.las.length
    ·rw[mo z]at k;cases k
    ·rw[l_ z]at k;exact .inl (.inr (.inl ⟨i,by have:i<M.las.length+1:=hi;lia,x,k,e⟩))
   ·rw[e4]at k;exact .inl (.inr (.inr ⟨x,k,e⟩))
  refine q r X _ (st.trans (gD.of s5)) (cU.same ⟨hG,t.ok.addL hw hn hs h4,λi=>?_,λi=>?_,by rw[e2];exact t.ds⟩ s5) (st.dm _ j) ag e2
  ·rw[(V i).1]
   split
   ·exact o_ _
   ·exact t.tk i
  ·rw[(V i).2]
   split
   ·exact o_ _
   ·exact t.ow i
def pN(T:Txt K mg a):aT P w K mg base dR 4 a.dg.x a.dg.d ["self","name","trial"] (BL P w K a):=by
 refine T.dg.ok ph λS A outer s H vs Q E f h=>?_
 ·obtain⟨M,Z,c,C,t,ba,dx,ar,sh,ru,x,rfl,j,k,l,m,V,W,X,q2,q3,D,F,v,ok,hn,h10,q⟩:=h;refine⟨_,(ai (iC (Y 2) (ja (aK K rfl (Y 0)) (Y 1) (oq (cb f)))) (aj (aB (bh af)))),?_⟩
  refine U rfl (iz (k _ _ j.g.house) T.aD T.aP rfl rfl (U rfl ⟨Z.G .tn,_,.inr x.nm,rfl,rfl,k _ _ j.g.tris,by rw[iO,b_,nk];exact pv h10 (ov rfl),?_⟩));rw[pF _ (je hn)];have I:∀b,C b=none->b≠Z.G .tn:=λb e z=>by rw[z,j.g.tris]at e;cases e
  obtain⟨J,e1,B,L,N,e4,e5,O,lv⟩:=j.g.newT (H':=aI H (Z.G .tn) (.dK (iP (M.trs.map c5.nm) (λi=>.ref (Z.G (.tr i)))++[(.inr x.nm,.ref t)]))) (nm:=x.nm) (home:=x.home) (arms:=x.arms) (shuts:=x.shuts) (rule:=x.rule) l m (λb o e n=>by rw[au n];exact k b o e) ag (by rw[au (I _ l)];exact W) (by rw[au (I _ m)];exact V) X q2 q3;have ex:(⟨x.nm,x.home,x.arms,x.rule,x.shuts,false,false,[]⟩:c5)=x:=by obtain⟨a1,a2,a3,a4,a5,a6,a7,a8⟩:=x;simp only at D F v;rw[D,F,v]
  rw[ex]at O;refine⟨ls rfl,λr f=>?_⟩;have R:=ak (o:=.lst []) (aq.refl _) f;have st:gD C M Z (aI H (Z.G .tn) (.dK (iP (M.trs.map c5.nm) (λi=>.ref (Z.G (.tr i)))++[(.inr x.nm,.ref t)]))) (xG M x) J:=by
   refine⟨e1,λb o e n=>by rw[au λz=>n (.inl ⟨.tn,trivial,z⟩)];exact k b o e,λb z=>?_,λb z=>k.free (mD z),B⟩;rcases z with⟨r,f,rfl⟩|⟨i,hi,y,u,e⟩|⟨y,u,e⟩
   ·have f:vy M.las.length (M.trs++[_]).length r:=f;rw[k_]at f;rcases lv r f with q|⟨q,p⟩
    ·exact .inr q
    ·exact .inl (.inl ⟨r,p,q⟩)
   ·rw[N]at u;exact .inl (.inr (.inl ⟨i,hi,y,u,e⟩))
   ·rw[e5]at u;exact .inl (.inr (.inr ⟨y,u,e⟩))
  exact q r J _ (st.trans (gD.of R)) (cU.same ⟨O,j.ok.addT ok hn h10 v,λi=>by rw[N];exact j.tk i,λi=>by rw[e4];exact j.ow i,by rw[L];exact j.ds⟩ R) (st.dm _ f) ag L
end
section
def pK(T:Txt K mg a):aT P w K mg base dR 1 a.db.x a.db.d ["self","place"] (BJ P w K a.bS):=by
 refine T.db.ok pb λc A outer s H i Q E e h=>?_
 ·obtain⟨t,f,j,n,ow,tk,m,p,rfl,b,q⟩:=h;refine⟨_,(aj (aB (t9 (cb e) (aK K rfl (Y 0)) (Y 1) ⟨rfl,rfl,rfl,rfl⟩))),?_⟩;obtain⟨dx,g⟩:=b.ins;exact U rfl ⟨t,_,dx,_,U rfl ⟨g,T.bx,T.eP,rfl,f,rfl,.inl ⟨_,.inl b.own⟩,U rfl ⟨_,dH.k (k:=.inl p) b.own,q⟩⟩⟩
end
def Hk(h:Wd x):PyData.strOk x=true:=by obtain⟨_,_,h⟩:=h;unfold PyData.strOk;rw[<-Array.all_toList,N2];intro c hc;have b:∀c∈pR.cps.toList,decide (c<1114112)=true:=dk rfl;have:=ov (b c (h c hc));simp;lia
structure sI(P:Oe)(w:World)(K:N_)(a:fV)(H0 H:Hp)(M:bD)(Z:ZS)(c:Nat):Prop where
 z:cU P w K a H0 M Z c
 k:∀b o,H0 b=some o->b≠Z.G .ln->H b=some o
section
variable{P:Oe}{w:World}{K:N_}{a:fV}{d H f:Hp}{M:bD}{Z:ZS}{c:Nat}
def sI.same(h:sI P w K a d H M Z c)(s:aq H f):sI P w K a d f M Z c:=⟨h.z,λb o e n=>s _ _ (h.k b o e n)⟩
def sI.kp(h:sI P w K a d H M Z c):Kp d H:=⟨λu i e=>h.k _ _ e λz=>(by rw[z,h.z.g.lays]at e;cases e),λu o⟨b,e⟩=>⟨b,h.k _ _ e λz=>by rw[z,h.z.g.lays]at e;cases e⟩⟩
theorem sI.at_(h:sI P w K a d H M Z c)(e:cont P w a M Z r=some o)(n:r≠.ln):H (Z.G r)=some o:=h.k _ _ (h.z.g.at_ r o e) λz=>n (h.z.g.inj r .ln _ _ e rfl z)
def IQ{p:Nat}{m sl:Int}{x:Str}(e:2<=p):0<=qy p m sl x/\qy p m sl x<p:=by
 unfold qy;have h:(0:Int)<(p:Int):=by lia
 split
 ·exact⟨MA _ (by lia),MC _ h⟩
 ·exact⟨MA _ (by lia),MC _ h⟩
def sI.owner(h:sI P w K a d H M Z c){i:Nat}{l:cD}(m:M.las[i]?=some l){q:Int}(s:0<=q)(u:q<M.p):(bn (Z.ow i) (.inl q)).getD .non=.non\/∃b x y,(bn (Z.ow i) (.inl q)).getD .non=.ref b/\aS K H b [.str x,.str y]/\((x=""/\y="")\/∃(j:Nat)(t:c5),M.trs[j]?=some t/\t.nm=x/\(Wd y/\Wd t.nm/\q∈l.S.pl (a9 t.nm y))):=by cases A:bn (Z.ow i) (.inl q)with|none=>exact .inl rfl|some v=>
  refine .inr ?_;obtain⟨k,n,o⟩:=(h.z.g.tabs i l m).2.2.1 q v s u A;rcases(h.z.ok.la l (g_ m)).own k q n with rfl|⟨t,r,_,y,B,rfl⟩
  ·obtain⟨b,rfl,e⟩:=o;exact⟨b,_,U rfl ⟨h.kp.tq e,.inl ⟨rfl,rfl⟩⟩⟩
  ·obtain⟨b,rfl,e⟩:=o;obtain⟨j,C⟩:=m3.mp r;have tk:=h.z.ok.tr t r;exact⟨b,_,U rfl ⟨h.kp.tq e,.inr ⟨j,t,C,rfl,tk.aw y B,tk.wd,n⟩⟩⟩
end
def uR(M:bD)(l:cD)(g x y:Str):Prop:=x≠""/\qy M.p M.salt l.sl g∈l.S.pl (a9 x y)
inductive Ik(P:Oe)(w:World)(K:N_)(a:fV)(vs:List V)(H:Hp)(Q:VK)(E:XK):Prop|mk(H0:Hp)(M:bD)(Z:ZS)(c i:Nat)(l:cD)(g:Str)(mv:V)(ms:List (Str×Int))(bl:Addr)(bs:Of)(_:vs=[.ref (Z.G .hh),.ref (Z.G (.lo i)),.str g,mv,.ref bl])(_:sI P w K a H0 H M Z c)(_:M.las[i]?=some l)(_:xT g)(_:qS K H ms mv)(_:ms.length<=8)(_:H bl=some (.lst (bs.map V.str)))(_:(∀H',aq H H'->Q .non H'))(_:∀(s:Addr)(t:c5)(y:Str)(H':Hp),aq H H'->aS K H' s [.str t.nm,.str y]->uR M l g t.nm y->Q (.ref s) H')
section
def pL(T:Txt K mg a):aT P w K mg base dR 8 a.de.x a.de.d ["self","layer","guest","marks","been"] (Ik P w K a):=by
 refine T.de.ok gm λbz A outer s H vs Q E O h=>?_
 ·obtain⟨H0,M,Z,c,i,l,g,mv,ms,bl,bs,rfl,B,I,hg,hm,b0,a3,R,qs⟩:=h;refine⟨_,(ai (bj 5 gm.nd (bA (aK K rfl (Y 1)) T.bx T.db.m ((pK (P:=P) (w:=w) T).mono (by decide)) O T.db.b .nil bw (ae (bA (Y 0) T.aD T.cu.m ((jF (P:=P) (w:=w) T).mono (by decide)) O T.cu.b .nil bw (ae (Y 1) (ae (Y 2) af))) af))) (ai (aM (PW.pt (fb (aE DW (Y 5) jS (aG _)) (dL (aE (Gs K rfl (LP O)) (Y 5) (cn (v:=.ref a.uW) ⟨_,T.Ew,rfl⟩ rfl) (aG _))))) (aj (aB jS)) aF) (ai (bj 6 gm.nd (d7 (cb O) (aK K rfl (Y 0)) (cQ K (Y 5) ah) (λ_ _=>rfl))) (ai (aM (PW.pt (fb (aQ K rfl (aK K rfl (Y 6)) (λ_=>rfl)) (fb (mz (zR (cb O) (Y 2) (aK K rfl (Y 6))) rfl) (dL (cf (aQ K rfl (a0 ((yE T 6).mono (by decide)) O rfl T.dS.m T.dS.f.kp T.dS.b .nil bw (ae (aK K rfl (Y 6)) (ae (Y 3) af))) (λ_=>rfl))))))) (aj (aB jS)) aF) (ai (aM (aQ K rfl (aA (qN K rfl rfl) (by rfl) T.Eb L2.uN (ae (sQ gW ["name"] [] [7] (ao gK) (bY 7) (ie K rfl (aK K rfl (Y 6))) (λcl C s₀ H₀ ex=>⟨(nA gW ["name"] 7),ck,(bB (oE K rfl) (Y 7) (Y 4) (by with_unfolding_all rfl))⟩)) af)) (λ_=>rfl)) (aj (aB jS)) aF) (aj (aB (Y 5)))))))),?_⟩
  have J:=B.z;have hL:=J.ok.la l (g_ I);have hp:=J.ok.p;have a5:=hL.sl;have hI:=B.at_ (r:=.hh) rfl (by simp);have X:=B.at_ (r:=.lo i) (by simp only[cont,I];rfl) (by simp);have aa:=B.at_ (r:=.tb i) (by simp only[cont,I];rfl) (by simp);have a6:=B.at_ (r:=.od i) (by simp only[cont,I];rfl) (by simp);have a7:=B.at_ (r:=.td i) (by simp only[cont,I];rfl) (by simp);have a8:=B.at_ (r:=.tn) rfl (by simp);refine iz X T.ce T.fc rfl rfl (rM aa rfl (nQ hI rfl rfl (U rfl (U rfl ⟨Z.G .hh,Z.G (.lo i),_,_,_,_,M.p,M.salt,l.sl,g,rfl,hI,rfl,rfl,X,rfl,hg,⟨by lia,by lia⟩,⟨by exact a5.1,by lia⟩,λH1 o=>?_⟩))));obtain⟨bb,⟨m,bc,b8⟩,b9,cc⟩:=J.g.tabs i l I;have n:=B.same o;have ac:eW P w K a.bS H1 (Z.G (.tb i)) (Z.G (.od i)) (Z.G (.td i)) M.p (Z.ow i) (Z.tk i) m:=⟨⟨_,o _ _ aa⟩,o _ _ a6,o _ _ a7,λx hx=>cq n.kp (bb x hx),bc.outs λx hx lb xs e1 e2=>n.k _ _ e2 λz=>by rw[z,J.g.lays]at e2;cases e2⟩;have hq:=IQ (m:=M.salt) (sl:=l.sl) (x:=g) hp.1;refine⟨Z.G (.tb i),Z.G (.od i),Z.G (.td i),M.p,Z.ow i,Z.tk i,m,qy M.p M.salt l.sl g,rfl,ac,av ?_⟩;rcases n.owner I hq.1 hq.2 with e|⟨b,x,y,e,hb,ad⟩
  ·rw[e];exact U rfl ⟨rfl,U rfl (bo (bo (R _ o)))⟩
  rw[e];refine U rfl ⟨rfl,U rfl (bX ?_)⟩;have al:PyData.strOk x=true/\PyData.strOk y=true:=by
   rcases ad with⟨rfl,rfl⟩|⟨j,t,S,rfl,h1,h2,_⟩
   ·exact⟨by decide+kernel,by decide+kernel⟩
   ·exact⟨Hk h2,Hk h1⟩
  refine U rfl ⟨.tuple [.str x,.str y],.tuple [.str "",.str ""],.tup hb (.cons (.str x) (.cons (.str y) .nil)),.tup (T.Bi.sq _) (.cons (.str _) (.cons (.str _) .nil)),?_,by decide+kernel,U rfl ?_⟩
  ·unfold SeqAt.shaped;simp[PyData.canLay0,PyData.canLayAll0,PyData.depth,PyData.depthAll,al.1,al.2]
  refine xl (λ_=>R _ o) (λef=>?_);rcases ad with⟨rfl,rfl⟩|⟨j,t,S,rfl,_,_,hy⟩
  ·exact absurd ef (dk rfl)
  have an:=o _ _ a8;have F:=n.at_ (r:=.tr j) (by simp only[cont,S];rfl) (by simp);have bi:=n.at_ (r:=.ba j) (by simp only[cont,S];rfl) (by simp);obtain⟨-,bt,ap⟩:=J.g.trs j t S;have L:=J.ok.tr t (g_ S);refine iz (o _ _ hI) T.aD T.aP rfl rfl (U rfl (rX hb (am (k:=0) rfl) (rG (.ref (Z.G (.tr j))) (by rw[<-J.ok.tget (Z:=Z) S];exact dH.k (k:=.inr t.nm) an) (av ?_))));refine iz F T.bq T.iD rfl rfl ⟨t.pau,rfl,?_⟩;refine xl (λ_=>bo (R _ o)) (λ_=>?_);refine U rfl (iz F T.bq T.iF rfl rfl (rG _ (dH.k (k:=.inr g) bi) (U rfl ?_)));refine xl (λ_=>bo (R _ o)) (λ_=>?_);refine iz F T.bq T.nW rfl rfl (U rfl ⟨t.rule,Z.ru j,ms,mv,rfl,bt.kp n.kp,L.hg,hm.kp (.of o),by lia,λH2 s2=>(U rfl ?_)⟩);have q:=o.trans s2;refine xl (λ_=>R _ q) (λ_=>?_);have as:=B.same q;refine iz (s2 _ _ F) T.bq T.mE rfl rfl ⟨Z.sh j,rfl,⟨_,as.kp.tq ap⟩,λD hD=>?_⟩;have ax:=q _ _ a3;have h8:=L.s8;refine gC (K:=K) (a:=Z.sh j) (xs:=t.shuts.map V.str) (λk u H'=>aq H2 H'/\H' D=some (.lst u)/\∃(cs:List Bool),u=cs.map V.bl/\cs.length=k) ⟨ak (aq.refl _) hD,ag,[],rfl,rfl⟩ (λk u H' _ h=>aq.tseq h.1 (as.kp.tq ap)) ?_ ?_
  ·rintro k v u H3 hv⟨W,N,cs,rfl,a2⟩;have hk:k<(t.shuts.map V.str).length:=(d_.mp hv).1;rw[i_]at hv;obtain⟨x,hx,rfl⟩:=Option.map_eq_some_iff.mp hv;refine av (iZ (bo (U rfl (U rfl ⟨bl,U rfl ⟨.inl (aY.of (W _ _ ax)),rfl,qo bs,N,?_,lf hk ⟨bv W hD,ag,cs++[_],by rw[me];rfl,by rw[k_,a2];rfl⟩⟩⟩))));rw[b_]at hk⊢;rw[nk];lia
  ·rintro u H3⟨W,N,cs,rfl,a2⟩;refine⟨D,cs,rfl,aY.of N,U rfl ?_⟩;refine xl (λ_=>R _ (q.trans W)) (λ_=>?_);exact U rfl (qs b t y _ (q.trans W) (aq.tseq (s2.trans W) hb) ⟨λz=>absurd L.wd.1 (by rw[z];decide+kernel),hy⟩)
end
def eV.find(g:Str)(h:eV K H dl cv cm):bn cv (.inr g)=none\/∃l c d,bn cv (.inr g)=some (.ref l)/\l≠dl/\H l=some (.lst c)/\iH K H c d/\(g,d)∈cm:=by induction h with|nil=>exact .inl rfl|@cons _ y _ _ h _ b=>
  by_cases e:y.1=g
  ·obtain⟨h1,l,c,h2,n,h3,h4⟩:=h;exact .inr ⟨l,c,y.2,by rw[cz (by rw[h1,e]),h2],n,h3,h4,by rw[<-e];exact m_⟩
  ·rw[bM (λz=>e (by rw[h.1]at z;exact sT z))];exact b.imp id λq=>q.imp λ_ q=>q.imp λ_ q=>q.imp λ_ q=>⟨q.1,q.2.1,q.2.2.1,q.2.2.2.1,lm _ q.2.2.2.2⟩
def iH.get(h:iH K H c d)(k:Nat)(u:V)(e:c[k]?=some u):∃y:Str×Str,∃s,u=.ref s/\aS K H s [.str y.1,.str y.2]:=(Paired.at_ h k u e).imp λ_ q=>q.2
def wI(K:N_)(H:Hp)(M:bD)(g:Str)(c:List V):Prop:=∀u∈c,∃(b:Addr)(i:Nat)(l:cD)(t y:Str),u=.ref b/\aS K H b [.str l.nm,.str t,.str y]/\M.las[i]?=some l/\(g∉l.ins.map (·.1)->uR M l g t y)
def wI.kp{M:bD}{g:Str}{c:List V}(e:Kp H H')(h:wI K H M g c):wI K H' M g c:=λu d=>let⟨b,i,l,t,y,h1,h2,h3⟩:=h u d;⟨b,i,l,t,y,h1,e.tq h2,h3⟩
inductive Ga(P:Oe)(w:World)(K:N_)(a:fV)(vs:List V)(H:Hp)(Q:VK)(E:XK):Prop|mk(M:bD)(Z:ZS)(c:Nat)(g:Str)(mv:V)(ms:List (Str×Int))(_:vs=[.ref (Z.G .hh),.str g,mv])(_:cU P w K a H M Z c)(_:c<=63)(_:xT g)(_:qS K H ms mv)(_:ms.length<=8)(_:∀(r:Addr)(us:List V)(H':Hp),aq H H'->H r=none->H' r=some (.lst us)->wI K H' M g us->us.length<=4->Q (.ref r) H')
section
def mC(T:Txt K mg a):aT P w K mg base dR 9 a.cx.x a.cx.d ["self","guest","marks"] (Ga P w K a):=by
 refine T.cx.ok bI λdT A outer s H vs Q E hr h=>?_
 ·obtain⟨M,Z,c,g,mv,ms,rfl,I,hc,hg,hm,c2,q⟩:=h;refine⟨_,(ai (Fa 3 fL [] [7] [7] (ao fH) (bY 7) (c7 K rfl (yw (cb hr) (aK K rfl (Y 0)) (Y 1) (bh af) ⟨rfl,rfl,rfl,rfl⟩)) (λcl C s₀ H₀ ex=>⟨(nA fL [] 7),ck,(cQ K (Y 7) ah)⟩) bI.nd) (ai (bj 4 bI.nd (bh af)) (ai (zO (P:=P) (w:=w) (d6 qq rfl (yp (P:=P) (w:=w) (aK K rfl (Y 0))) (gq K rfl rfl (bH (qg 5 bI.nd) (bH (qg 6 bI.nd) gp))) (ai (bj 7 bI.nd (t9 (cb hr) (aK K rfl (Y 6)) (Y 1) ⟨rfl,rfl,rfl,rfl⟩)) (ai (aM (aE DW (Y 7) jS (aG _)) (aj (bj 7 bI.nd (bA (Y 0) T.aD T.de.m ((pL (P:=P) (w:=w) T).mono (by decide)) hr T.de.b .nil bw (ae (Y 6) (ae (Y 1) (ae (Y 2) (ae (Y 3) af))))))) aF) (aj (aM (aE wU (Y 7) jS (aG _)) (ai (aZ (jc K rfl PySem.F.plainAttrs_list PySem.F.slot_list_append PySem.F.type_list_append fw (Y 3) (ae (cQ K (Y 7) ah) af))) (aj (aZ (jc K rfl PySem.F.plainAttrs_list PySem.F.slot_list_append PySem.F.type_list_append fw (Y 4) (ae (az (uc K rfl) (aR (ae (Y 5) af)) (Y 7)) af))))) aF)))))) (aj (aB (Y 4)))))),?_⟩
  have hI:=I.g.house;have dV:=I.ok.l4;refine iz hI T.aD T.ee rfl rfl ⟨Z.G .ci,rfl,.inl ⟨_,.inl I.g.cams⟩,U rfl ⟨ls rfl,λl0 c3=>?_⟩⟩;refine jf c3 λH1 s0 e0=>?_;refine⟨bn Z.cv (.inr g),dH.k (k:=.inr g) (s0 _ _ I.g.cams),?_⟩;obtain⟨ll,J,W,ev,ba,hw,d1⟩:∃ll J W,(bn Z.cv (.inr g)).getD (.ref l0)=.ref ll/\H1 ll=some (.lst J)/\iH K H1 J W/\W.length<=630:=by
   rcases I.g.came.find g with e|⟨l,us,ss,e,_,h2,h3,h4⟩
   ·exact⟨l0,[],[],by rw[e];rfl,e0,.nil,by simp⟩
   ·have:=I.ok.cm _ h4;have:ss.length<=10*c:=this;exact⟨l,us,ss,by rw[e];rfl,s0 _ _ h2,h3.kp (.of s0),by lia⟩
  rw[ev];have d2:J.length=W.length:=Paired.length hw;refine⟨ll,rfl,⟨_,aY.of ba⟩,λD hD=>?_⟩;refine gR (K:=K) (a:=ll) (xs:=J) (λk R H'=>aq H1 H'/\H' D=some (.lst R)/\∃(bs:Of),R=bs.map V.str/\bs.length=k) ⟨ak (aq.refl _) hD,ag,[],rfl,rfl⟩ (λk R H' _ h=>aY.of (h.1 _ _ ba)) ?_ ?_
  ·rintro k v R H3 hv⟨s3,X,bs,rfl,bb⟩;have hk:k<J.length:=(d_.mp hv).1;obtain⟨y,s,rfl,B⟩:=hw.get k v hv;refine av (iZ (bo (U rfl (rX (aq.tseq s3 B) (am (k:=0) rfl) ⟨X,by rw[b_,nk];lia,lf hk ⟨bv s3 hD,ag,bs++[y.1],by rw[me];rfl,by rw[k_,bb];rfl⟩⟩))))
  rintro R H2⟨s2,ap,bs,rfl,bb⟩;refine av ⟨ls rfl,λO as=>av ?_⟩;have s3:=ak (o:=.lst []) (aq.refl H2) as;have bc:aI H2 O (.lst []) O=some (.lst []):=ag;have X:=s3 _ _ ap;have bi:H D=none:=s0.free hD;have ax:H O=none:=s0.free (s2.free as);have bl:D≠O:=λz=>by rw[z,as]at ap;cases ap
  have aa:aq H (aI H2 O (.lst [])):=(s0.trans s2).trans s3;generalize aI H2 O (.lst [])=H3 at s3 bc X aa⊢;refine iz (aa _ _ hI) T.aD T.aW rfl rfl ⟨Z.G .ln,U rfl ⟨aa _ _ I.g.lays,λep=>?_⟩⟩;have bt:Z.G .ln≠D:=λz=>by have e:=I.g.lays;rw[z,bi]at e;cases e
  have a2:Z.G .ln≠O:=λz=>by have e:=I.g.lays;rw[z,ax]at e;cases e
  refine EV (n:=M.las.length) (λk σ H'=>(∀b o,H b=some o->b≠Z.G .ln->H' b=some o)/\H' (Z.G .ln)=some (dE P w (Z.G .ln) (iP (M.las.map cD.nm) λi=>.ref (Z.G (.lo i))) ep)/\(∃bs:List Str,H' D=some (.lst (bs.map V.str))/\bs.length<=630+k)/\(∃us,H' O=some (.lst us)/\wI K H' M g us/\us.length<=k)/\∃v5 v6 v7,σ=[some (.ref (Z.G .hh)),some (.str g),some mv,some (.ref D),some (.ref O),v5,v6,v7]) ⟨λb o e n=>by rw[au n];exact aa b o e,ag,⟨bs,by rw[au (rb bt)];exact X,by lia⟩,⟨[],by rw[au (rb a2)];exact bc,λu hu=>(nomatch hu),f_ _⟩,_,_,_,rfl⟩ (λk σ H' hk h=>⟨h.2.1,by rw[iO,b_];exact hk⟩) ?_ ?_
  ·rintro k σ H4 x H5 hk⟨f4,f,⟨j,bz,a3⟩,⟨S,a5,p,ad⟩,v5,v6,v7,rfl⟩⟨T1,kk,vv,c4,rfl,rfl,bS⟩;obtain⟨l,hl⟩:∃l,M.las[k]?=some l:=⟨_,h_ hk⟩;rw[xa,i_,hl]at bS;obtain⟨rfl,rfl⟩:=ML (nB bS);refine jf c4 λH5 s5 e5=>?_;have e5:H5 T1=some (.tup [.str l.nm,.ref (Z.G (.lo k))]):=e5;have L:sI P w K a H H5 M Z c:=⟨I,λb o e n=>s5 _ _ (f4 b o e n)⟩;refine⟨T1,U rfl ⟨aS.of e5,rfl,_,U rfl (av ⟨_,U rfl (av ⟨rfl,?_⟩)⟩)⟩⟩;have da:=L.at_ (r:=.lo k) (by simp only[cont,hl];rfl) (by simp);have b0:=L.at_ (r:=.iu k) (by simp only[cont,hl];rfl) (by simp);refine iz da T.ce T.bV rfl rfl ⟨Z.G (.iu k),rfl,.inl ⟨_,.inl b0⟩,U rfl ⟨bn (Z.iv k) (.inr g),dH.k (k:=.inr g) b0,av ?_⟩⟩;have b8:=s5 _ _ bz;have dc:=s5 _ _ a5;refine U rfl ⟨rfl,U rfl (HH (λσ H'=>aq H5 H'/\∃sv,σ=[some (.ref (Z.G .hh)),some (.str g),some mv,some (.ref D),some (.ref O),some (.str l.nm),some (.ref (Z.G (.lo k))),some sv]/\(sv=.non\/∃s t y,sv=.ref s/\aS K H' s [.str t,.str y]/\(g∉l.ins.map (·.1)->uR M l g t y))) ?_ ?_)⟩
   ·rintro σ H6⟨s6,sv,rfl,di⟩;have ac:=s6 _ _ b8;have b9:=s6 _ _ dc;have al:=s6 _ _ (s5 _ _ f);have f6:∀b o,H b=some o->b≠Z.G .ln->H6 b=some o:=λb o e n=>s6 _ _ (s5 _ _ (f4 b o e n));rcases di with rfl|⟨s,t,y,rfl,B,a6⟩
    ·exact U rfl ⟨rfl,U rfl (bX ⟨f6,al,⟨j,ac,by exact r3 a3⟩,⟨S,b9,p.kp (.of (s5.trans s6)),by exact r3 ad⟩,_,_,_,rfl⟩)⟩
    refine U rfl ⟨rfl,U rfl (bo (U rfl ⟨.inl ⟨rfl,_,aY.of ac⟩,U rfl (rX B (am (k:=0) rfl) (rA ac (by rw[b_,nk];lia) ?_))⟩))⟩;have a7:Kp H6 (aI H6 D (.lst (j.map V.str++[.str t]))):=.lst ac;have f7:∀b o,H6 b=some o->b≠D->aI H6 D (.lst (j.map V.str++[.str t])) b=some o:=cA;have cc:aI H6 D (.lst (j.map V.str++[.str t])) D=some (.lst ((j++[t]).map V.str)):=by rw[ag,me];rfl
    generalize aI H6 D (.lst (j.map V.str++[.str t]))=H7 at a7 f7 cc⊢;have cC:=f7 _ _ b9 (rb bl);have cO:=f7 _ _ al bt;refine U rfl ⟨.inl ⟨rfl,_,aY.of cC⟩,U rfl ⟨ls rfl,λT2 c0=>(U rfl ⟨T2,s,[.str l.nm],U rfl ⟨rfl,aS.of ag,aq.tseq (ak (aq.refl _) c0) (a7.tq B),by simp,by rw[nk];simp,λz=>(nomatch z),λ_ T3 dt=>?_⟩⟩)⟩⟩;have s9:=ak (o:=.tup ([.str l.nm]++[.str t,.str y])) (ak (o:=.tup [.str l.nm]) (aq.refl H7) c0) dt;have e9:aI (aI H7 T2 (.tup [.str l.nm])) T3 (.tup ([.str l.nm]++[.str t,.str y])) T3=some (.tup [.str l.nm,.str t,.str y]):=ag;generalize aI (aI H7 T2 (.tup [.str l.nm])) T3 (.tup ([.str l.nm]++[.str t,.str y]))=H9 at s9 e9⊢;have c1:=s9 _ _ cC;refine rA c1 (by rw[nk];lia) ?_;have kp:Kp H9 (aI H9 O (.lst (S++[.ref T3]))):=.lst c1;refine⟨λb o e n=>by rw[au (aH e ax)];exact s9 _ _ (f7 _ _ (f6 b o e n) (aH e bi)),by rw[au a2];exact s9 _ _ cO,⟨j++[t],by rw[au bl];exact s9 _ _ cc,by rw[k_];simp;exact t8 a3⟩,⟨S++[.ref T3],ag,λu hu=>?_,by rw[k_];simp;omega⟩,_,_,_,rfl⟩;rcases Ny.mp hu with z|z
    ·obtain⟨b,i,l',t',y',h1,h2,h3⟩:=p u z;exact⟨b,i,l',t',y',h1,kp.tq (aq.tseq s9 (a7.tq (aq.tseq (s5.trans s6) h2))),h3⟩
    ·rw[List.mem_singleton.mp z];exact⟨T3,k,l,t,y,rfl,kp.tq (aS.of e9),hl,a6⟩
   ·intro N hN
    by_cases a8:g∈l.ins.map (·.1)
    ·obtain⟨x,hx,ex⟩:=oi.mp a8;obtain⟨s,hv,B⟩:=(I.g.seats k l hl).find (I.ok.la l (g_ hl)).nd x hx;rw[ex]at hv;rw[hv];exact bX (hN _ _ ⟨aq.refl _,U rfl (.inr ⟨s,x.2.1,x.2.2,rfl,L.kp.tq B,λz=>absurd a8 z⟩)⟩)
    ·rw[(I.g.seats k l hl).none a8];have dv:=L.at_ (r:=.hh) rfl (by simp);refine bo (nQ dv rfl rfl (U rfl (U rfl (U rfl (U rfl ⟨H,M,Z,c,k,l,g,mv,ms,D,j,rfl,L,hl,hg,hm.kp L.kp,c2,b8,λH' s'=>av (hN _ _ ⟨s',U rfl (.inl rfl)⟩),λs t y H' s' B a6=>av (hN _ _ ⟨s',U rfl (.inr ⟨s,_,U rfl ⟨B,λ_=>a6⟩⟩)⟩)⟩)))))
  ·rintro σ H4⟨f4,f,⟨j,bz,a3⟩,⟨S,a5,p,ad⟩,v5,v6,v7,rfl⟩;refine⟨⟨f,by rw[iO,b_];exact f_ _⟩,Z.G .ln,_,ep,f,?_⟩;have sF:aq H (aI H4 (Z.G .ln) (.dK (iP (M.las.map cD.nm) λi=>.ref (Z.G (.lo i))))):=λb o e=>by
    by_cases z:b=Z.G .ln
    ·rw[z,I.g.lays]at e;rw[z,ag];exact e
    ·rw[au z];exact f4 b o e z
   have kp:Kp H4 (aI H4 (Z.G .ln) (.dK (iP (M.las.map cD.nm) λi=>.ref (Z.G (.lo i))))):=⟨λu xs e=>by rw[au λz=>by rw[z,f]at e;cases e];exact e,λu o⟨o',e⟩=>⟨o',by rw[au λz=>by rw[z,f]at e;cases e];exact e⟩⟩;exact U rfl (q O S _ sF ax (by rw[au (rb a2)];exact a5) (p.kp kp) (by lia))
end
def vb(cm:List (Str×List (Str×Str)))(g:Str)(c:List (Str×Str)):List (Str×List (Str×Str)):=if(cm.any λx=>decide (x.1=g))=true then cm.map (λx=>if x.1=g then(x.1,c)else x)else cm++[(g,c)]
def DM:(vb cm g ss).length<=cm.length+1:=by
 unfold vb
 split
 ·rw[b_];exact so _
 ·rw[k_];exact f_ _
def DL(h:x∈vb cm g c):x∈cm\/x.2=c:=by
 unfold vb at h
 split at h
 ·obtain⟨y,b,e⟩:=oi.mp h
  split at e
  ·rw[<-e];exact .inr rfl
  ·rw[<-e];exact .inl b
 ·rcases Ny.mp h with q|q
  ·exact .inl q
  ·rw[List.mem_singleton.mp q];exact .inr rfl
theorem eV.any(g:Str)(h:eV K H dl cv cm):(cv.any λx=>decide (x.1=.inr g))=cm.any λx=>decide (x.1=g):=by induction h with|nil=>rfl|@cons _ y _ _ h _ b=>
  rw[J_,J_,b,h.1]
  congr 1
  by_cases e:y.1=g
  ·rw[ol e,ol (by rw[e])]
  ·rw[op e,op λz=>e (sT z)]
def eV.put(n:l≠dl)(d:H l=some (.lst c))(f:iH K H c i)(h:eV K H dl cv cm):eV K H dl (eY cv (.inr g) (.ref l)) (vb cm g i):=by
 unfold eY vb;rw[h.any g]
 split
 ·rename_i j;clear j
  induction h with|nil=>exact .nil|@cons x y _ _ q r k=>
   refine .cons ?_ k;obtain⟨h1,q⟩:=q
   by_cases e:y.1=g
   ·have b:x.1=.inr g:=by rw[h1,e]
    dsimp only;rw[mo b,mo e];exact⟨h1,l,c,rfl,n,d,f⟩
   ·have b:¬x.1=.inr g:=λz=>e (by rw[h1]at z;exact sT z);dsimp only;rw[l_ b,l_ e];exact⟨h1,q⟩
 ·exact Paired.snoc h ⟨rfl,l,c,rfl,n,d,f⟩
def DN{cv:List (bQ×V)}{k:bQ}{v:V}{x:bQ×V}(h:x∈eY cv k v):x∈cv\/x.2=v:=by
 unfold eY at h
 split at h
 ·obtain⟨y,b,e⟩:=oi.mp h
  split at e
  ·rw[<-e];exact .inr rfl
  ·rw[<-e];exact .inl b
 ·rcases Ny.mp h with q|q
  ·exact .inl q
  ·rw[List.mem_singleton.mp q];exact .inr rfl
def bZ.some(h:bZ K H iv ins)(hg:g∈ins.map (·.1)):(bn iv (.inr g)).isSome=true:=by induction h with|nil=>cases hg|@cons _ y _ _ h _ b=>
  by_cases e:y.1=g
  ·rw[cz (by rw[h.1,e])];rfl
  ·rw[bM (λz=>e (by rw[h.1]at z;exact sT z))];rw[pu]at hg;exact b ((tA.mp hg).resolve_left λq=>e q.symm)
def HM(M:bD)(l:cD)(g:Str)(c:List (Str×Str×Str)):Prop:=c=l.ins\/(g∉l.ins.map (·.1)/\∃t y,c=l.ins++[(g,t,y)]/\uR M l g t y)
structure kU(g:Str)(M M':bD):Prop where
 p:M'.p=M.p
 salt:M'.salt=M.salt
 trs:M'.trs=M.trs
 len:M'.las.length=M.las.length
 las:∀(i:Nat)(l:cD),M.las[i]?=some l->∃ins',M'.las[i]?=some {l with ins:=ins'}/\HM M l g ins'
def kU.refl(g:Str)(M:bD):kU g M M:=⟨rfl,rfl,rfl,rfl,λi l b=>⟨l.ins,b,.inl rfl⟩⟩
def kU.names(h:kU g M c):c.las.map cD.nm=M.las.map cD.nm:=by
 refine C_ λi=>?_;rw[i_,i_]
 by_cases hi:i<M.las.length
 ·obtain⟨b,e,_⟩:=h.las i _ (h_ hi);rw[e,h_ hi];rfl
 ·rw[p_ (by rw[h.len];exact MI hi),p_ (by exact MI hi)]
def jo.vis(h:jo M c)(v:kU g M j)(hg:xT g)(h1:∀x∈j.came,x.2.length<=10*c+4)(h2:j.came.length<=10*c+4):jo j (c+1):=by
 have m:=v.names;refine⟨by rw[v.p];exact h.p,by rw[m];exact h.ln,by rw[v.trs];exact h.tn,λl o=>?_,λt b=>?_,λx d=>by have:=h1 x d;lia,by rw[v.len];exact h.l4,by rw[v.trs];exact h.tc,by lia,λt b=>by rw[v.trs]at b;exact r3 (h.br t b)⟩
 ·obtain⟨i,hi⟩:=m3.mp o;have f:i<M.las.length:=by rw[<-v.len];exact(d_.mp hi).1
  obtain⟨n,e,q⟩:=v.las i _ (h_ f);rw[hi]at e;have e:=nB e;have k:=h.la _ (t_ f);rw[e];have own:∀k z,z∈(M.las[i]).S.pl k->k=a9 "" ""\/∃t∈j.trs,t.home=(M.las[i]).nm/\∃y∈t.arms,k=a9 t.nm y:=by rw[v.trs];exact k.own
  rcases q with rfl|⟨hn,t,y,rfl,-⟩
  ·exact⟨k.wd,by rw[v.p];exact k.sl,by rw[v.p];exact k.ok,r3 k.len,k.gs,k.nd,own⟩
  ·refine⟨k.wd,by rw[v.p];exact k.sl,by rw[v.p];exact k.ok,by show(_++[_]).length<=c+1;rw[k_];exact t8 k.len,λx d=>?_,?_,own⟩
   ·rcases Ny.mp d with q|q
    ·exact k.gs x q
    ·rw[List.mem_singleton.mp q];exact hg
   ·show((_++[(g,t,y)]).map (·.1)).Nodup;rw[me,q_];exact⟨k.nd,by simp,λx d z r e=>hn (by rw[<-show z=g from List.mem_singleton.mp r,<-e];exact d)⟩
 ·rw[v.trs]at b;have k:=h.tr t b;exact{k with hm:=by rw[m];exact k.hm}
def kU.step{g:Str}{M d:bD}(v:kU g M d){i:Nat}{l:cD}{c:List (Str×Str×Str)}{t y:Str}{cm:List (Str×List (Str×Str))}(h:M.las[i]?=some l)(f:d.las[i]?=some {l with ins:=c})(hi:HM M l g c)(hn:g∉c.map (·.1))(m:g∉l.ins.map (·.1)->uR M l g t y):kU g M {d.setL i {l with ins:=c++[(g,t,y)]}with came:=cm}:=by
 have e:c=l.ins:=by
  rcases hi with e|⟨_,t,y,e,_⟩
  ·exact e
  ·exact absurd (by rw[e,me];exact rd _ m_) hn
 refine⟨v.p,v.salt,v.trs,by rw[<-v.len];exact y3 ..,λj k h2=>?_⟩
 by_cases q:j=i
 ·subst q;rw[h]at h2;cases h2;rw[e]at hn;exact⟨_,j9 f,.inr ⟨hn,t,y,by rw[e],m hn⟩⟩
 ·obtain⟨b,n,o⟩:=v.las j k h2;exact⟨b,by show(d.las.set i _)[j]?=_;rw[r_ λz=>q z.symm];exact n,o⟩
inductive FM(P:Oe)(w:World)(K:N_)(a:fV)(vs:List V)(H:Hp)(Q:VK)(E:XK):Prop|mk(M:bD)(Z:ZS)(c:Nat)(g:Str)(mv:V)(ms:List (Str×Int))(_:vs=[.ref (Z.G .hh),.str g,mv])(_:cU P w K a H M Z c)(_:c<=63)(_:xT g)(_:qS K H ms mv)(_:ms.length<=8)(_:∀(r:Addr)(us:List V)(M':bD)(Z':ZS)(H':Hp),kU g M M'->gD H M Z H' M' Z'->cU P w K a H' M' Z' (c+1)->H r=none->H' r=some (.lst us)->Z'.ds=Z.ds->Q (.ref r) H')
section
def pM(T:Txt K mg a):aT P w K mg base dR 10 a.df.x a.df.d ["self","guest","marks"] (FM P w K a):=by
 refine T.df.ok cL λez A outer s H vs Q E hr h=>?_
 ·obtain⟨M,Z,c,g,mv,ms,rfl,W,hc,hg,hm,d4,q⟩:=h;refine⟨_,(ai (bj 3 cL.nd (bA (Y 0) T.aD T.cx.m ((mC (P:=P) (w:=w) T).mono (by decide)) hr T.cx.b .nil bw (ae (Y 1) (ae (Y 2) af)))) (ai (d6 qq rfl (c7 K rfl (Y 3)) (gq K rfl rfl (bH (qg 4 cL.nd) (bH (qg 5 cL.nd) (bH (qg 6 cL.nd) gp)))) (ai (bj 7 cL.nd (d7 (cb hr) (aK K rfl (Y 0)) (Y 4) (λ_ _=>rfl))) (aj (aM (mz (kC (cb hr) (Y 1) (aK K rfl (Y 7))) rfl) (ai (iC (aR (ae (Y 5) (ae (Y 6) af))) (ja (aK K rfl (Y 7)) (Y 1) (oq (cb hr)))) (aj (iC (az oF (yw (cb hr) (aK K rfl (Y 0)) (Y 1) (bh af) ⟨rfl,rfl,rfl,rfl⟩) (bh (ae (aR (ae (Y 5) (ae (Y 6) af))) af))) (ja (aK K rfl (Y 0)) (Y 1) (oq (cb hr)))))) aF)))) (aj (aB (Y 3))))),?_⟩
  refine nQ W.g.house rfl rfl (U rfl (U rfl ⟨M,Z,c,g,mv,ms,rfl,W,hc,hg,hm,d4,λr us H1 s1 hr b9 cc eG=>av ?_⟩));have d5:¬gI M Z r:=W.g.foot hr;refine U rfl ⟨r,rfl,⟨_,aY.of b9⟩,?_⟩;refine iV (xs:=us) (λk σ H'=>JW λM' Z'=>L5 (kU g M M') (bG P w K a H' M' Z') (Z'.tk=Z.tk) (Z'.ow=Z.ow) (Z'.ds=Z.ds) ((∀x∈M'.came,x.2.length<=10*c+k)) (M'.came.length<=10*c+k) (gD H M Z H' M' Z') (¬gI M' Z' r) (H' r=some (.lst us)) (wI K H' M g us) (Ex4 λv4 v5 v6 v7=>σ=[some (.ref (Z.G .hh)),some (.str g),some mv,some (.ref r),v4,v5,v6,v7])) ⟨M,Z,kU.refl g M,W.g.same s1,rfl,rfl,rfl,W.ok.cm,W.ok.cl,gD.of s1,d5,b9,cc,_,_,_,_,rfl⟩ (λk σ H' _ h=>by obtain⟨_,_,_,_,_,_,_,_,_,_,_,h,_⟩:=h;exact aY.of h) ?_ ?_
  ·rintro k v σ H2 hv⟨M2,f,v2,F,a5,a6,X,aa,ba,ac,ad,al,I,v4,v5,v6,v7,rfl⟩N R B hN;have hk:k<us.length:=(d_.mp hv).1;obtain⟨b,i,l,t,y,rfl,hb,hl,ea⟩:=I v (g_ hv);refine⟨b,U rfl ⟨hb,rfl,_,U rfl (av ⟨_,U rfl (av ⟨_,U rfl (av ⟨rfl,?_⟩)⟩)⟩)⟩⟩;obtain⟨p,J,cC⟩:=v2.las i l hl;have cO:f.G .hh=Z.G .hh:=ac.hh;have c0:=F.house;have c1:=F.lays;have c2:bn (iP (M2.las.map cD.nm) λi=>V.ref (f.G (.lo i))) (.inr l.nm)=some (.ref (f.G (.lo i))):=sM (by rw[v2.names];exact W.ok.ln) (by rw[i_,J];rfl);rw[cO]at c0;refine iz c0 T.aD T.aW rfl rfl (U rfl (rG (.ref (f.G (.lo i))) (by rw[<-c2];exact dH.k (k:=.inr l.nm) c1) (av ?_)));have c3:=F.layer J;have c4:=F.inside J;refine U rfl (iz c3 T.ce T.bV rfl rfl (rG (bn (f.iv i) (.inr g)) (dH.k (k:=.inr g) c4) (U rfl ?_)));have bb:=F.seats i _ J
   by_cases bc:g∈p.map (·.1)
   ·rw[bb.some bc];exact bX (hN _ _ ⟨M2,f,v2,F,a5,a6,X,λx hx=>by have:=aa x hx;exact r3 this,by exact r3 ba,ac,ad,al,I,_,_,_,_,rfl⟩)
   ·have an:=bb.none bc;rw[an];refine bo (U rfl (U rfl ⟨ls rfl,λT1 eb=>?_⟩));refine jf eb λH3 s3 e3=>?_;have bi:=F.same s3;have ec:(f.iv i).length<=100:=by
     rw[bb.len];show p.length<=100;have:=(W.ok.la l (g_ hl)).len;rcases cC with e|⟨_,_,_,e,_⟩
     ·rw[e];lia
     ·rw[e,k_];simp;lia
    refine iz (s3 _ _ c3) T.ce T.bV rfl rfl (U rfl ⟨f.G (.iu i),_,.inr g,rfl,rfl,s3 _ _ c4,by rw[nk];exact sg ec (ov rfl),?_⟩);rw[pF _ an];have L:bG P w K a (aI H3 (f.G (.iu i)) (.dK (f.iv i++[(.inr g,.ref T1)]))) (M2.setL i {l with ins:=p++[(g,t,y)]}) {f with iv:=λj=>if j=i then f.iv i++[(.inr g,.ref T1)]else f.iv j}:=bi.setIns (iv':=f.iv i++[(.inr g,.ref T1)]) (ins':=p++[(g,t,y)]) J (Paired.snoc (bi.seats i _ J) ⟨rfl,T1,rfl,aS.of e3⟩);have da:=(d_.mp J).1;have ap:gD H3 M2 f (aI H3 (f.G (.iu i)) (.dK (f.iv i++[(.inr g,.ref T1)]))) (M2.setL i {l with ins:=p++[(g,t,y)]}) {f with iv:=λj=>if j=i then f.iv i++[(.inr g,.ref T1)]else f.iv j}:=gD.put (show i<_ from da) rfl (y3 ..) rfl rfl λx hx=>.inl hx;have bl:=bi.imm (r:=.iu i) (by simp only[cont,J];rfl) (cA (o':=.dK (f.iv i++[(.inr g,.ref T1)])));have bt:=cA (x:=f.G (.iu i)) (o':=.dK (f.iv i++[(.inr g,.ref T1)])) _ _ (s3 _ _ al) λz=>ad (.inl ⟨.iu i,da,z⟩);have bz:¬gI (M2.setL i {l with ins:=p++[(g,t,y)]}) {f with iv:=λj=>if j=i then f.iv i++[(.inr g,.ref T1)]else f.iv j} r:=λz=>(ap.fp r z).elim ad λz=>by rw[s3 _ _ al]at z;cases z
    have ed:=bl.kp.tq (K:=K) (aS.of e3);have as:=(I.kp (.of s3)).kp bl.kp;generalize dc:M2.setL i {l with ins:=p++[(g,t,y)]}=M4 at L ap bz;generalize ax:({f with iv:=λj=>if j=i then f.iv i++[(.inr g,.ref T1)]else f.iv j}:ZS)=C at L ap bz;have a2:C.G=f.G:=by rw[<-ax]
    have et:C.cv=f.cv:=by rw[<-ax]
    have di:C.tk=f.tk:=by rw[<-ax]
    have dt:C.ow=f.ow:=by rw[<-ax]
    have dv:C.ds=f.ds:=by rw[<-ax]
    have O:M4.came=M2.came:=by rw[<-dc]
    generalize aI H3 (f.G (.iu i)) (.dK (f.iv i++[(.inr g,.ref T1)]))=H4 at L ap bl bt ed as⊢;have bS:=L.house;rw[a2,cO]at bS;have a7:=L.cams;rw[a2]at a7;refine iz bS T.aD T.ee rfl rfl ⟨f.G .ci,rfl,.inl ⟨_,.inl a7⟩,U rfl ⟨ls rfl,λl0 ef=>?_⟩⟩;refine jf ef λH5 s5 e5=>?_;refine⟨bn C.cv (.inr g),dH.k (k:=.inr g) (s5 _ _ a7),_,rfl,U rfl ⟨ls rfl,λS eg=>⟨ls rfl,λl1 dT=>?_⟩⟩⟩;have s7:=ak (o:=.lst [.ref S]) (ak (o:=.tup [.str t,.str y]) (aq.refl H5) eg) dT;have e7:aI (aI H5 S (.tup [.str t,.str y])) l1 (.lst [.ref S]) l1=some (.lst [.ref S]):=ag;have e6:aI (aI H5 S (.tup [.str t,.str y])) l1 (.lst [.ref S]) S=some (.tup [.str t,.str y]):=by rw[au (aH ag dT)];exact ag
    generalize aI (aI H5 S (.tup [.str t,.str y])) l1 (.lst [.ref S])=H7 at s7 e6 e7⊢;have a8:=s5.trans s7;obtain⟨ll,u,D,ev,ei,dV,ej⟩:∃ll u D,(bn C.cv (.inr g)).getD (.ref l0)=.ref ll/\H7 ll=some (.lst u)/\iH K H7 u D/\D.length<=10*c+k:=by
     rcases L.came.find g with e|⟨ek,el,en,e,_,h2,h3,h4⟩
     ·exact⟨l0,[],[],by rw[e];rfl,s7 _ _ e5,.nil,by simp⟩
     ·rw[O]at h4;have:=aa _ h4;exact⟨ek,el,en,by rw[e];rfl,a8 _ _ h2,h3.kp (.of a8),this⟩
    have ew:u.length=D.length:=Paired.length dV;rw[ev];refine⟨ll,l1,u,[.ref S],rfl,rfl,ei,e7,by rw[nk];simp;lia,λlp b0=>?_⟩;have s8:=ak (o:=.lst (u++[.ref S])) a8 b0;have e8:aI H7 lp (.lst (u++[.ref S])) lp=some (.lst (u++[.ref S])):=ag;have d1:iH K (aI H7 lp (.lst (u++[.ref S]))) (u++[.ref S]) (D++[(t,y)]):=iH.kp (Kp.new b0) (Paired.snoc dV ⟨S,rfl,aS.of e6⟩);have a3:H4 lp=none:=a8.free b0;generalize aI H7 lp (.lst (u++[.ref S]))=H8 at s8 e8 d1⊢;have b8:=L.same s8;have ey:C.cv.length<=10*c+k:=by have:=Paired.length L.came;rw[this,O];exact ba
    refine iz (s8 _ _ bS) T.aD T.ee rfl rfl (U rfl ⟨f.G .ci,_,.inr g,rfl,rfl,s8 _ _ a7,by rw[nk];lia,?_⟩);have eo:lp≠C.G .dl:=λz=>by rw[z,L.dees]at a3;cases a3
    have ep:bG P w K a (aI H8 (f.G .ci) (.dK (eY C.cv (.inr g) (.ref lp)))) {M4 with came:=vb M4.came g (D++[(t,y)])} {C with cv:=eY C.cv (.inr g) (.ref lp)}:=by rw[show f.G .ci=C.G .ci by rw[a2]];exact b8.setCame (b8.came.put (g:=g) eo e8 d1)
    have d2:=b8.imm (r:=.ci) rfl (cA (o':=.dK (eY C.cv (.inr g) (.ref lp))));rw[a2]at d2;have d3:gD H4 M4 C (aI H8 (f.G .ci) (.dK (eY C.cv (.inr g) (.ref lp)))) {M4 with came:=vb M4.came g (D++[(t,y)])} {C with cv:=eY C.cv (.inr g) (.ref lp)}:=by
     refine⟨rfl,λb o e n=>by rw[au λz=>n (.inl ⟨.ci,trivial,by rw[a2];exact z⟩)];exact s8 b o e,λb z=>?_,λb z=>s8.free (mD z),rfl⟩;rcases z with z|z|⟨x,hx,e⟩
     ·exact .inl (.inl z)
     ·exact .inl (.inr (.inl z))
     ·rcases DN hx with q|q
      ·exact .inl (.inr (.inr ⟨x,q,e⟩))
      ·rw[q]at e;cases e;exact .inr a3
    have v9:kU g M {M4 with came:=vb M4.came g (D++[(t,y)])}:=by rw[<-dc];exact v2.step hl J cC bc ea
    have eq:=(ac.trans (gD.of s3)).trans (ap.trans d3);have er:aI H8 (f.G .ci) (.dK (eY C.cv (.inr g) (.ref lp))) r=some (.lst us):=by rw[au λz=>ad (.inl ⟨.ci,trivial,z⟩)];exact s8 _ _ bt
    refine hN _ _ ⟨_,{C with cv:=eY C.cv (.inr g) (.ref lp)},v9,ep,di.trans a5,dt.trans a6,dv.trans X,λx hx=>?_,?_,eq,λz=>(d3.fp r z).elim bz (λz=>by rw[bt]at z;cases z),er,(as.kp (.of s8)).kp d2.kp,_,_,_,_,rfl⟩
    ·rcases DL hx with q|q
     ·rw[O]at q;have:=aa x q;exact r3 this
     ·rw[q,k_];simp;exact t8 ej
    ·have:=DM (cm:=M4.came) (g:=g) (ss:=D++[(t,y)]);rw[O]at this;show(vb M4.came g (D++[(t,y)])).length<=_;rw[O];lia
  ·rintro σ H2⟨M2,f,v2,F,a5,a6,X,aa,ba,ac,ad,al,I,v4,v5,v6,v7,rfl⟩;exact U rfl (q r us M2 f H2 v2 ac ⟨F,W.ok.vis v2 hg (λx hx=>by have:=aa x hx;lia) (by lia),λj=>by rw[a5];have:=W.tk j;exact n7 this (Ni _ _),λj=>by rw[a6];have:=W.ow j;exact n7 this (Ni _ _),by rw[X];have:=W.ds;exact r3 this⟩ hr al X)
end
inductive Du(K:N_)(vs:List V)(H:Hp)(Q:VK)(_E:XK):Prop|mk(t d:Addr)(l:Of)(kvs:List (bQ×V))(_:vs=[.ref t,.ref d])(_:aS K H t (l.map V.str))(_:H d=some (.dK kvs))(_:(∀x∈l,Wd x/\(bn kvs (.inr x)).isSome=true))(_:l.Nodup)(_:l.length<=8)(_:∀H',aq H H'->Q .non H')
inductive Dt(P:Oe)(w:World)(K:N_)(a:fV)(vs:List V)(H:Hp)(Q:VK)(_E:XK):Prop|mk(z:Int)(M:bD)(Z:ZS)(_:vs=[.int z,.int M.p,.ref (Z.G .ln)])(_:bG P w K a H M Z)(_:M.las.length<=4)(_:0<=z)(_:z<=M.p)(_:z∉M.las.map cD.sl)(_:∀H',aq H H'->Q .non H')
inductive Dr(K:N_)(vs:List V)(H:Hp)(Q:VK)(_E:XK):Prop|mk(d ly tr ar sh:Addr)(ru:V)(x y:Str)(r:Ru)(ws l ss:Of)(lk tk:List (bQ×V))(_:vs=[.ref d,.ref ly,.ref tr])(_:aS K H d [.str "trial",.str x,.str y,.ref ar,ru,.ref sh])(_:Wd x)(_:Wd y)(_:H ly=some (.dK lk))(_:H tr=some (.dK tk))(_:bn tk (.inr x)=none)(_:(bn lk (.inr y)).isSome=true)(_:aS K H ar (l.map V.str))(_:(∀w∈l,Wd w))(_:l.Nodup)(_:1<=l.length)(_:l.length<=4)(_:fC K H r ru)(_:r.hgt<=6)(_:r.cnt<=30)(_:jY ws r)(_:(∀w∈ws,Wd w))(_:ws.length<=3)(_:aS K H sh (ss.map V.str))(_:(∀x∈ss,Wd x/\(bn tk (.inr x)).isSome=true))(_:ss.Nodup)(_:ss.length<=8)(_:∀H',aq H H'->Q .non H')
section
def ue(T:Txt K mg a):aT P w K mg base dR 5 a.f9.x a.f9.d ["thing","trials"] (Du K):=by
 refine T.f9.ok i6 λS A outer s H vs Q E W h=>?_
 ·obtain⟨t,d,l,B,rfl,b,hd,X,C,h8,q⟩:=h;refine⟨_,(ai (aM (PW.pt (fb (cf (aQ K rfl (aA (fm K rfl) (by rfl) T.bW L2.bp (ae (Y 0) (ae (lG rfl T.dJ L2.bP) af))) (λ_=>rfl))) (dL (aE nR (aA (aJ K rfl) (by rfl) T.bF L2.aL (ae (Y 0) af)) (cn T.xB rfl) (aG _))))) (aj fM) aF) (aj (d6 qq rfl (Gn K rfl rfl T.yO (ae (Y 0) af)) (gq K rfl rfl (bH (qg 2 i6.nd) (bH (qg 3 i6.nd) gp))) (ai (aZ (pc T.aN (pI T) W (ae (Y 3) (ae (Y 1) af)))) (aj (aM (aE (oE K rfl) (Y 3) (gr (AU K rfl) (Y 0) iM (iL (Y 2))) (by with_unfolding_all rfl)) (aj fM) aF)))))),?_⟩
  refine U rfl ⟨_,"tuple",_,true,rfl,.inr ⟨t,U rfl ⟨b,rfl⟩⟩,fJ (dk rfl),true,rfl,bX ?_⟩;refine U rfl ⟨_,l.length,rfl,.inr ⟨_,b,by simp⟩,_,U rfl ⟨rfl,U rfl (lO (λh=>absurd h (by lia)) (λ_=>?_))⟩⟩;refine U rfl ⟨t,U rfl ⟨b,?_⟩⟩;refine EV (n:=l.length) (λk j H'=>aq H H'/\(JW λD F=>j=[some (.ref t),some (.ref d),D,F])) ⟨aq.refl H,_,_,rfl⟩ (λk j H' L h=>⟨_,.str l[k],aq.tseq h.1 b,by rw[i_,h_ L];rfl⟩) ?_ ?_
  ·rintro k j m v Z L⟨c,D,F,rfl⟩⟨r,x,G,rfl,rfl,y⟩;have y:=y _ (aq.tseq c b);rw[i_]at y;obtain⟨z,M,rfl⟩:=Option.map_eq_some_iff.mp y;have I:=ak (o:=.tup [.int k,.str z]) c G;have N:aI m r (.tup [.int k,.str z]) r=some (.tup [.int k,.str z]):=ag;generalize aI m r (.tup [.int k,.str z])=Z at I N⊢;refine⟨r,U rfl ⟨aS.of N,rfl,_,U rfl (av ⟨_,U rfl (av ⟨rfl,?_⟩)⟩)⟩⟩;have f:=X z (g_ M);refine U rfl (U rfl ⟨z,d,B,rfl,f.1,I _ _ hd,f.2,λH3 s3=>?_⟩);have g:=I.trans s3;refine U rfl (U rfl (U rfl (U rfl ⟨t,U rfl ⟨aq.tseq g b,?_,λp hp=>?_⟩⟩)))
   ·rintro⟨_,e⟩;rw[b_]at e;have e:(if(k:Int)<0 then((k:Int)+(l.length:Int)).toNat else min (k:Int).toNat l.length)=l.length:=e;rw[l_ (by exact ov rfl)]at e;lia
   ·rw[Av _ (by exact mu _)];refine⟨p,U rfl ⟨.inr (aS.of ag),rfl,?_,U rfl ?_⟩⟩
    ·rw[<-NH];exact qo _
    ·rw[<-NH];have J:z∉l.take (k:Int).toNat:=λh=>by have:=C;rw[<-ro k l,q_]at this;exact this.2.2 z (by simpa using h) z (g_ (i:=0) (by rw[NJ,Nat.add_zero];exact M)) rfl
     have e:oR (.str z) ((l.take (k:Int).toNat).map V.str)=false:=by cases O:oR (.str z) ((l.take (k:Int).toNat).map V.str)with|false=>rfl|true=>unfold oR at O;obtain⟨v,hv,e⟩:=NZ.mp O;obtain⟨u,R,rfl⟩:=oi.mp hv;have e:(u==z)=true:=e;rw[eq_of_beq e]at R;exact absurd R J
     show if(if false=true then _ else oR (.str z) ((l.take (k:Int).toNat).map V.str))=true then _ else _
     rw[l_ oa,e];exact bX ⟨(g.trans (ak (aq.refl _) hp)),_,_,rfl⟩
  ·rintro j m⟨c,D,F,rfl⟩;exact⟨⟨_,aq.tseq c b,by rw[b_]⟩,q m c⟩
def ud(T:Txt K mg a):aT P w K mg base dR 3 a.f8.x a.f8.d ["thing","prime","layers"] (Dt P w K a):=by
 refine T.f8.ok tI λN A outer s H S Q E O h=>?_
 ·obtain⟨z,M,Z,rfl,J,h4,h0,h1,hn,q⟩:=h;refine⟨_,(ai (aM (PW.pt (fb (cf (aQ K rfl (pc T.dN (jE T) O (ae (Y 0) af)) (λ_=>rfl))) (dL (aE nR (Y 0) (Y 1) (aG _))))) (aj fM) aF) (aj (aM (aE (oE K rfl) (Y 0) (IW (P:=P) (w:=w) (sQ j0 ["layer"] [] [3] (ao jQ) (bY 3) (Gj (P:=P) (w:=w) (Y 2)) (λcl C s₀ H₀ ex=>⟨(nA j0 ["layer"] 3),ck,(aK K rfl (Y 3))⟩))) (by with_unfolding_all rfl)) (aj fM) aF))),?_⟩
  refine U rfl ⟨z,rfl,h0,U rfl (bX ?_)⟩;refine U rfl (U rfl ⟨z,M.p,rfl,rfl,U rfl (lO (λh=>absurd h (by lia)) (λ_=>?_))⟩);have g:=J.lays;refine U rfl (U rfl ⟨Z.G .ln,U rfl ⟨g,λL=>?_⟩⟩);refineλD t=>?_;have nd:Z.G .ln≠D:=λz=>by rw[<-z,ag]at t;cases t
  have r:H D=none:=by rw[au (rb nd)]at t;exact t
  refine xu (n:=M.las.length) (λk c u=>(∀b o,H b=some o->b≠Z.G .ln->u b=some o)/\u (Z.G .ln)=some (dE P w (Z.G .ln) (iP (M.las.map cD.nm) λi=>.ref (Z.G (.lo i))) L)/\u D=some (.lst c)/\c=((M.las.map cD.sl).take k).map V.int) ⟨λb o e n=>by rw[au (aH e r),au n];exact e,by rw[au nd,ag],ag,rfl⟩ (λk c u v h=>⟨h.2.1,by rw[iO,b_];exact v⟩) ?_ ?_
  ·rintro k c R x W v⟨y,f,j,rfl⟩⟨rfl,B⟩;have I:=h_ v;rw[xa,i_,I]at B;have B:V.ref (Z.G (.lo k))=x:=nB B;subst B;have m:=J.layer I;refine av (iZ (bo (iz (y _ _ m (λz=>by rw[z,g]at m;cases m)) T.ce T.jh rfl rfl ⟨j,by rw[b_,o8,nk];lia,lf v ⟨λb o e n=>by rw[au (aH e r)];exact y b o e n,by rw[au nd];exact f,ag,?_⟩⟩)));rw[dI (l:=M.las.map cD.sl) (x:=(M.las[k]).sl) (by rw[i_,I];rfl),me];rfl
  ·rintro c R⟨y,f,j,rfl⟩;refine⟨⟨f,by rw[iO,b_];exact f_ _⟩,Z.G .ln,_,L,f,D,_,rfl,.inl (aY.of (by rw[au (rb nd)];exact j)),rfl,oM _,_,rfl,?_⟩;rw[oD (by rw[b_];exact f_ _)];show if(if false=true then _ else oR (.int z) ((M.las.map cD.sl).map V.int))=true then _ else _
   rw[l_ oa,Bm,op hn];refine bX (q _ λb o e=>?_)
   by_cases F:b=Z.G .ln
   ·rw[F,g]at e;rw[F,ag];exact e
   ·rw[au F];exact y b o e F
end
inductive Dd|layer(nm:Str)(sl:Int)|trial(x:c5)|share(t:c5)(ns:Ol)|deal(t:c5)(z:Int)(ws:Ol)|hold(l:cD)(z:Int)|pause(t:c5)(b:Bool)|close(t:c5)|bar(g:Str)(t:c5)|visit(g:Str)
def Dd.clo:Dd->Bool|.share t _=>t.clo|.deal t _ _=>t.clo|.pause t _=>t.clo|.close t=>t.clo|_=>false
inductive iS(K:N_)(H:Hp)(M:bD):Dd->List V->Prop|layer{nm:Str}{sl:Int}(h1:Wd nm)(h2:nm∉M.las.map cD.nm)(h3:0<=sl/\sl<=M.p)(h4:sl∉M.las.map cD.sl)(h5:M.las.length<4):iS K H M (.layer nm sl) [.str "layer",.str nm,.int sl]|trial{x:c5}{ar sh ra:Addr}{ws:Of}(h1:Hb M x)(h2:x.nm∉M.trs.map c5.nm)(h3:aS K H ar (x.arms.map V.str))(h4:fC K H x.rule (.ref ra))(h5:x.rule.cnt<=30)(h6:jY ws x.rule)(h7:∀w∈ws,Wd w)(h8:ws.length<=3)(h9:aS K H sh (x.shuts.map V.str))(ha:∀s∈x.shuts,s∈M.trs.map c5.nm)(hb:x.shuts.Nodup)(hc:x.pau=false)(hd:x.clo=false)(he:x.bar=[])(hf:M.trs.length<10):iS K H M (.trial x) [.str "trial",.str x.nm,.str x.home,.ref ar,.ref ra,.ref sh]|share{t:c5}{ns:Ol}{nv:Addr}(h1:t∈M.trs)(h2:aS K H nv (ns.map V.int))(h3:ns.length=t.arms.length)(h4:∀x∈ns,0<=x):iS K H M (.share t ns) [.str "share",.str t.nm,.ref nv]|deal{t:c5}{z:Int}{ws:Ol}{wv:Addr}(h1:t∈M.trs)(hz:0<=z/\z<=1000)(h2:aS K H wv (ws.map V.int))(h3:ws.length=t.arms.length)(h4:∀x∈ws,1<=x/\x<=cJ):iS K H M (.deal t z ws) [.str "deal",.str t.nm,.int z,.ref wv]|hold{l:cD}{z:Int}(h1:l∈M.las)(h2:0<=z):iS K H M (.hold l z) [.str "hold",.str l.nm,.int z]|pause{t:c5}(h1:t∈M.trs):iS K H M (.pause t true) [.str "pause",.str t.nm]|go{t:c5}(h1:t∈M.trs):iS K H M (.pause t false) [.str "go",.str t.nm]|close{t:c5}(h1:t∈M.trs):iS K H M (.close t) [.str "close",.str t.nm]|bar{g:Str}{t:c5}(h1:xT g)(h2:t∈M.trs):iS K H M (.bar g t) [.str "bar",.str g,.str t.nm]|visit{g:Str}{mv:V}{ms:List (Str×Int)}(h1:xT g)(h2:qS K H ms mv)(h3:∀m∈ms,Wd m.1/\-cJ<=m.2/\m.2<=cJ)(h4:(ms.map Prod.fst).Nodup)(h5:ms.length<=8):iS K H M (.visit g) [.str "visit",.str g,mv]
theorem iS.kp(e:Kp H H')(h:iS K H M d c):iS K H' M d c:=by cases h with|layer h1 h2 h3 h4 h5=>exact .layer h1 h2 h3 h4 h5|trial h1 h2 h3 h4 h5 h6 h7 h8 h9 b f hc hd g i=>exact .trial h1 h2 (e.tq h3) (h4.kp e) h5 h6 h7 h8 (e.tq h9) b f hc hd g i|share h1 h2 h3 h4=>exact .share h1 (e.tq h2) h3 h4|deal h1 j h2 h3 h4=>exact .deal h1 j (e.tq h2) h3 h4|hold h1 h2=>exact .hold h1 h2|pause h1=>exact .pause h1|go h1=>exact .go h1|close h1=>exact .close h1|bar h1 h2=>exact .bar h1 h2|visit h1 h2 h3 h4 h5=>exact .visit h1 (h2.kp e) h3 h4 h5
inductive xN(K:N_)(H:Hp)(many:Nat):Str->List V->Prop|share{p:Addr}{l:Ol}(h1:aS K H p (l.map V.int))(h2:∀i∈l,0<=i)(h3:l.length=many):xN K H many "share" [.ref p]|deal{z:Int}{p:Addr}{l:Ol}(hz:0<=z/\z<=1000)(h1:aS K H p (l.map V.int))(h2:∀i∈l,1<=i/\i<=cJ)(h3:l.length=many):xN K H many "deal" [.int z,.ref p]|other{k:Str}(h1:k≠"share")(h2:k≠"deal"):xN K H many k []
inductive Io(P:Oe)(w:World)(K:N_)(a:fV)(vs:List V)(H:Hp)(Q:VK)(E:XK):Prop|mk(d:Addr)(M:bD)(Z:ZS)(c:Nat)(k:Str)(t:c5)(xs:List V)(_:vs=[.ref d,.ref (Z.G .tn)])(_:aS K H d (.str k::.str t.nm::xs))(_:bG P w K a H M Z)(_:jo M c)(_:t∈M.trs)(_:xN K H t.arms.length k xs)(_:(t.clo=false->∀H',aq H H'->Q .non H'))(_:(t.clo=true->∀H',aq H H'->E (.ref a.qY) none H'))
inductive F8(P:Oe)(w:World)(K:N_)(a:fV)(vs:List V)(H:Hp)(Q:VK)(E:XK):Prop|mk(dv:Addr)(M:bD)(Z:ZS)(c:Nat)(d:Dd)(xs:List V)(_:vs=[.ref dv,.int M.p,.ref (Z.G .ln),.ref (Z.G .tn)])(_:aS K H dv xs)(_:bG P w K a H M Z)(_:jo M c)(_:iS K H M d xs)(_:(d.clo=false->∀H',aq H H'->Q .non H'))(_:(d.clo=true->∀H',aq H H'->E (.ref a.qY) none H'))
def zb(c:Ol)(n:Nat):∀i∈deal c n,0<=i:=λi hi=>by obtain⟨k,b⟩:=m3.mp hi;have:=(xt c n k).1;unfold gd at this;rw[to,b]at this;exact this
inductive dG(M:bD):Dd->bD->Prop|layer{nm:Str}{sl:Int}:dG M (.layer nm sl) (xH M nm sl)|trial{x:c5}:dG M (.trial x) (xG M x)|share{t:c5}{ns:Ol}{i:Nat}{l:cD}(hl:M.las[i]?=some l)(hh:l.nm=t.home)(hn:cW l.S (oh t.nm t.arms ns)<=((iw M.p l.S.oc).length:Int)):dG M (.share t ns) (jN M i l t ns)|deal{t:c5}{z:Int}{ws:Ol}{i:Nat}{l:cD}(hl:M.las[i]?=some l)(hh:l.nm=t.home)(hn:cW l.S (oh t.nm t.arms (deal ws z.toNat))<=((iw M.p l.S.oc).length:Int)):dG M (.deal t z ws) (jN M i l t (deal ws z.toNat))|hold{l:cD}{z:Int}{i:Nat}(hl:M.las[i]?=some l):dG M (.hold l z) (EK M i l z)|pause{t:c5}{b:Bool}{j:Nat}(hj:M.trs[j]?=some t):dG M (.pause t b) (M.setT j {t with pau:=b})|close{t:c5}{i j:Nat}{l:cD}(hj:M.trs[j]?=some t)(hl:M.las[i]?=some l)(hh:l.nm=t.home):dG M (.close t) (jN (M.setT j {t with clo:=true}) i l {t with clo:=true} (oT t))|bar{g:Str}{t:c5}{i j:Nat}{l:cD}(hj:M.trs[j]?=some t)(hl:M.las[i]?=some l)(hh:l.nm=t.home):dG M (.bar g t) (AB M i j l t g)|visit{g:Str}{M':bD}(h:kU g M M'):dG M (.visit g) M'
def Dd.adds:Dd->Bool|.layer _ _=>true|.trial _=>true|_=>false
def Dd.clo_adds{d:Dd}(h:d.clo=true):d.adds=false:=by cases d<;>first|rfl|cases h
inductive IB(P:Oe)(w:World)(K:N_)(a:fV)(vs:List V)(H:Hp)(Q:VK)(E:XK):Prop|mk(M:bD)(Z:ZS)(c:Nat)(dv:Addr)(d:Dd)(xs:List V)(_:vs=[.ref (Z.G .hh),.ref dv])(_:cU P w K a H M Z c)(_:c<=63)(_:aS K H dv xs)(_:iS K H M d xs)(_:(∀(r:Addr)(us:List V)(M':bD)(Z':ZS)(H':Hp),dG M d M'->gD H M Z H' M' Z'->cU P w K a H' M' Z' (c+1)->H r=none->H' r=some (.lst us)->Z'.ds=Z.ds->Q (.ref r) H'))(_:(d.adds=false->∀H',aq H H'->E (.ref a.mP) none H'))
section
def vh(T:Txt K mg a):aT P w K mg base (oS P w) 11 a.fZ.x a.fZ.d ["self","deed"] (IB P w K a):=by
 refine T.fZ.okE nI λan A outer s H vs Q E p h=>?_
 ·obtain⟨M,Z,c,dv,d,xs,rfl,y,hc,u,hD,q,S⟩:=h;refine⟨_,(ai (bj 2 nI.nd (cQ K (Y 1) ah)) (ai (aM (aE aU (Y 2) ay (aG _)) (aj (aB (bA (Y 0) T.aD T.dh.m ((pO (P:=P) (w:=w) T).mono (by decide)) p T.dh.b .nil bw (ae (cQ K (Y 1) ah) (ae (cQ K (Y 1) ah) af))))) aF) (ai (aM (aE aU (Y 2) ay (aG _)) (aj (aB (bA (Y 0) T.aD T.dg.m ((pN (P:=P) (w:=w) T).mono (by decide)) p T.dg.b .nil bw (ae (cQ K (Y 1) ah) (ae (sL T.Ed ((sk (P:=P) (w:=w) T).mono (by decide)) p rfl T.GF T.eA.b .nil bw (ae (cQ K (Y 1) ah) (ae (cQ K (Y 1) ah) (ae (cQ K (Y 1) ah) (ae (cQ K (Y 1) ah) af))))) af))))) aF) (ai (aM (aE aU (Y 2) ay (aG _)) (aj (aB (bA (Y 0) T.aD T.bL.m ((gw (P:=P) (w:=w) T).mono (by decide)) p T.bL.b .nil bU (ae (cQ K (Y 1) ah) (ae (cQ K (Y 1) ah) af))))) aF) (ai (aM (aE aU (Y 2) ay (aG _)) (aj (aB (bA (Y 0) T.aD T.bL.m ((gw (P:=P) (w:=w) T).mono (by decide)) p T.bL.b .nil bU (ae (cQ K (Y 1) ah) (ae (pc T.wu (DZ T) p (ae (cQ K (Y 1) ah) (ae (cQ K (Y 1) ah) af))) af))))) aF) (ai (aM (aE aU (Y 2) ay (aG _)) (aj (aB (bA (Y 0) T.aD T.dD.m ((qB (P:=P) (w:=w) T).mono (by decide)) p T.dD.b .nil bU (ae (cQ K (Y 1) ah) (ae (cQ K (Y 1) ah) af))))) aF) (ai (aM (aE aU (Y 2) ay (aG _)) (aj (aB (bA (Y 0) T.aD T.cw.m ((jG (P:=P) (w:=w) T).mono (by decide)) p T.cw.b .nil bw (ae (cQ K (Y 1) ah) (ae gu af))))) aF) (ai (aM (aE aU (Y 2) ay (aG _)) (aj (aB (bA (Y 0) T.aD T.cw.m ((jG (P:=P) (w:=w) T).mono (by decide)) p T.cw.b .nil bw (ae (cQ K (Y 1) ah) (ae gu af))))) aF) (ai (aM (aE aU (Y 2) ay (aG _)) (aj (aB (bA (Y 0) T.aD T.dn.m ((pP (P:=P) (w:=w) T).mono (by decide)) p T.dn.b .nil bU (ae (cQ K (Y 1) ah) af)))) aF) (ai (aM (aE aU (Y 2) ay (aG _)) (aj (aB (bA (Y 0) T.aD T.eK.m ((sy (P:=P) (w:=w) T).mono (by decide)) p T.eK.b .nil bw (ae (cQ K (Y 1) ah) (ae (cQ K (Y 1) ah) af))))) aF) (aj (aB (bA (Y 0) T.aD T.df.m ((pM (P:=P) (w:=w) T).mono (by decide)) p T.df.b .nil bw (ae (cQ K (Y 1) ah) (ae (cQ K (Y 1) ah) af))))))))))))))),?_⟩
  have F:=y.g.house;cases hD with|@layer nm sl h1 h2 h3 h4 h5=>refine U rfl (rX u (am (k:=0) rfl) (av ?_));refine U rfl ⟨rfl,U rfl (be ?_)⟩;exact nQ F rfl rfl (U rfl (rX u (am (k:=1) rfl) (U rfl (rX u (am (k:=2) rfl) ⟨M,Z,c,nm,sl,rfl,y,h1,h2,h3,h5,λr B H' st f p n v=>q r [] _ B H' .layer st (f.mono (so c)) p n v⟩))))|@trial x ar sh ra J h1 h2 h3 h4 h5 h6 h7 h8 h9 ha hb V hd he hf=>
   refine U rfl (rX u (am (k:=0) rfl) (av ?_));refine U rfl ⟨rfl,U rfl (wn ?_)⟩;refine U rfl ⟨rfl,U rfl (be ?_)⟩;refine nQ F rfl rfl (U rfl (rX u (am (k:=1) rfl) ?_));refine U rfl (rX u (am (k:=2) rfl) (U rfl (rX u (am (k:=3) rfl) (U rfl (rX u (am (k:=4) rfl) (U rfl (rX u (am (k:=5) rfl) (λt ty L W ap=>?_))))))));have X:aq H (aI (aI H ty (.own t)) t (.ins a.fS ty [])):=λb o e=>by rw[au (aH e L),au (aH e W)];exact e
   have N:aI (aI H ty (.own t)) t (.ins a.fS ty []) t=some (.ins a.fS ty []):=ag;generalize aI (aI H ty (.own t)) t (.ins a.fS ty [])=H2 at X N⊢;refine⟨t,ty,ar,ra,sh,x.home,rfl,N,λba H3 aa f3 ac ad=>⟨rfl,?_⟩⟩;have s3:aq H H3:=λb o e=>f3 b o (X b o e) (aH e L);exact⟨M,Z,c,H,t,ba,ty,ar,sh,.ref ra,x,rfl,y,s3,L,X.free aa,ad,ac,h3,h4,h9,V,hd,he,h1,h2,hf,λr B H' st f p n v=>q r [] _ B H' .trial st (f.mono (so c)) p n v⟩|@share t ns nv h1 h2 h3 h4=>obtain⟨j,C⟩:=m3.mp h1;obtain⟨i,l,D,hh⟩:=y.ok.home h1;refine U rfl (rX u (am (k:=0) rfl) (av ?_));(iterate 2 refine U rfl ⟨rfl,U rfl (wn ?_)⟩);refine U rfl ⟨rfl,U rfl (be ?_)⟩;exact nQ F rfl rfl (U rfl (rX u (am (k:=1) rfl) (U rfl (rX u (am (k:=2) rfl) ⟨M,Z,c,i,j,l,t,nv,ns,rfl,y,hc,C,D,hh,.inr h2,h3,h4,λG r I B H' st f p n v=>q r I _ B H' (.share D hh G) st f p n v,λ_=>S rfl⟩))))|@deal t z J wv h1 hz h2 h3 h4=>
   obtain⟨j,C⟩:=m3.mp h1;obtain⟨i,l,D,hh⟩:=y.ok.home h1;have O:=y.ok.tr t h1;have a1:=O.a1;have a4:=O.a4;refine U rfl (rX u (am (k:=0) rfl) (av ?_));(iterate 3 refine U rfl ⟨rfl,U rfl (wn ?_)⟩);refine U rfl ⟨rfl,U rfl (be ?_)⟩;refine nQ F rfl rfl (U rfl (rX u (am (k:=1) rfl) (U rfl (rX u (am (k:=2) rfl) (U rfl (rX u (am (k:=3) rfl) ⟨z.toNat,wv,J,by rw[show((z.toNat:Nat):Int)=z by lia];rfl,by lia,h2,by lia,by lia,λtv H1 R L=>?_⟩))))));have al:(deal J z.toNat).length=t.arms.length:=by rw[kR];exact h3
   exact⟨M,Z,c,i,j,l,t,tv,deal J z.toNat,rfl,y.same R,hc,C,D,hh,.inr (aS.of L),al,zb J z.toNat,λG r I B H' st f p n v=>q r I _ B H' (.deal D hh G) ((gD.of R).trans st) f (R.free p) n v,λ_ H' s'=>S rfl H' (R.trans s')⟩|@hold l z h1 h2=>obtain⟨i,D⟩:=m3.mp h1;refine U rfl (rX u (am (k:=0) rfl) (av ?_));(iterate 4 refine U rfl ⟨rfl,U rfl (wn ?_)⟩);refine U rfl ⟨rfl,U rfl (be ?_)⟩;exact nQ F rfl rfl (U rfl (rX u (am (k:=1) rfl) (U rfl (rX u (am (k:=2) rfl) ⟨M,Z,c,i,l,z,rfl,y,hc,D,h2,λG r B H' st f p n v=>q r [] _ B H' (.hold D) st f p n v,λ_=>S rfl⟩))))|@pause t h1=>obtain⟨j,C⟩:=m3.mp h1;refine U rfl (rX u (am (k:=0) rfl) (av ?_));(iterate 5 refine U rfl ⟨rfl,U rfl (wn ?_)⟩);refine U rfl ⟨rfl,U rfl (be ?_)⟩;exact nQ F rfl rfl (U rfl (rX u (am (k:=1) rfl) ⟨M,Z,c,j,t,true,rfl,y,C,λr H' st f p n=>q r [] _ Z H' (.pause C) st (f.mono (so c)) p n rfl⟩))|@go t h1=>obtain⟨j,C⟩:=m3.mp h1;refine U rfl (rX u (am (k:=0) rfl) (av ?_));(iterate 6 refine U rfl ⟨rfl,U rfl (wn ?_)⟩);refine U rfl ⟨rfl,U rfl (be ?_)⟩;exact nQ F rfl rfl (U rfl (rX u (am (k:=1) rfl) ⟨M,Z,c,j,t,false,rfl,y,C,λr H' st f p n=>q r [] _ Z H' (.pause C) st (f.mono (so c)) p n rfl⟩))|@close t h1=>obtain⟨j,C⟩:=m3.mp h1;obtain⟨i,l,D,hh⟩:=y.ok.home h1;refine U rfl (rX u (am (k:=0) rfl) (av ?_));(iterate 7 refine U rfl ⟨rfl,U rfl (wn ?_)⟩);refine U rfl ⟨rfl,U rfl (be ?_)⟩;exact nQ F rfl rfl (U rfl (rX u (am (k:=1) rfl) ⟨M,Z,c,i,j,l,t,rfl,y,hc,C,D,hh,λr I B H' st f p n v=>q r I _ B H' (.close C D hh) st f p n v⟩))|@bar g t h1 h2=>obtain⟨j,C⟩:=m3.mp h2;obtain⟨i,l,D,hh⟩:=y.ok.home h2;refine U rfl (rX u (am (k:=0) rfl) (av ?_));(iterate 8 refine U rfl ⟨rfl,U rfl (wn ?_)⟩);refine U rfl ⟨rfl,U rfl (be ?_)⟩;exact nQ F rfl rfl (U rfl (rX u (am (k:=1) rfl) (U rfl (rX u (am (k:=2) rfl) ⟨M,Z,c,i,j,l,t,g,rfl,y,hc,C,D,hh,h1,λr I B H' st f p n v=>q r I _ B H' (.bar C D hh) st f p n v⟩))))|@visit g mv ms h1 h2 h3 h4 h5=>refine U rfl (rX u (am (k:=0) rfl) (av ?_));(iterate 9 refine U rfl ⟨rfl,U rfl (wn ?_)⟩);exact nQ F rfl rfl (U rfl (rX u (am (k:=1) rfl) (U rfl (rX u (am (k:=2) rfl) ⟨M,Z,c,g,mv,ms,rfl,y,hc,h1,h2,h5,λr I M' B H' vt st f p n v=>q r I M' B H' (.visit vt) st f p n v⟩))))
end
inductive Kt(P:Oe)(w:World)(K:N_)(a:fV)(vs:List V)(H:Hp)(Q:VK)(E:XK):Prop|mk(M:bD)(Z:ZS)(c:Nat)(dv:Addr)(d:Dd)(xs:List V)(_:vs=[.ref (Z.G .hh),.ref dv])(_:cU P w K a H M Z c)(_:c<=63)(_:aS K H dv xs)(_:iS K H M d xs)(_:(d.clo=false->∀(r:Addr)(us:List V)(M':bD)(Z':ZS)(H':Hp),dG M d M'->gD H M Z H' M' Z'->cU P w K a H' M' Z' (c+1)->H r=none->H' r=some (.lst us)->Z'.ds=Z.ds++[.ref dv]->Q (.ref r) H'))(_:(d.adds=false->∀H',aq H H'->E (.ref a.mP) none H'))(_:(d.adds=false->∀H',aq H H'->E (.ref a.qY) none H'))
def Hq:List Str:=["ann","ann7","7ann","an","nan","ana","anan","b","bob12","bob1","21bob","annbob"]
def C5:List Str:=["","ann7","0","guestofthishouse99"]
def DF(k:Nat):Nat:=if k<26 then 97+k else 22+k
def LK(z:Str)(i:Int)(c:Nat):Str:=Txt.slice z none (some i)++(⟨#[c]⟩:Str)++Txt.slice z (some i) none
def Lr(x:Str):Bool:=decide (1<=x.length)&&decide (x.length<=24)&&x.cps.toList.all λc=>decide (c∈gy.cps.toList)
def Hz(h:Lr x=true):xT x:=by unfold Lr at h;rw[pa,pa]at h;exact⟨ov h.1.1,ov h.1.2,λc hc=>ov (N2.mp h.2 c hc)⟩
def DC:∀z∈Hq,Lr z=true:=dk rfl
def GA:∀z∈C5,∀i∈List.range 19,∀c∈List.range 36,Lr (LK z (i:Int) (DF c))=true:=dk rfl
def BG:∀z∈C5,z.length<=18:=dk rfl
def IG:∀c∈List.range 36,vq ("abcdefghijklmnopqrstuvwxyz0123456789":Str).cps.toList (c:Int)=some (DF c):=dk rfl
def ix{zs:Of}{i:Int}(h0:0<=i)(h1:i<(zs.length:Int)):∃z∈zs,vq (zs.map V.str) i=some (V.str z):=by obtain⟨v,b,hm⟩:=uQ (xs:=zs.map V.str) h0 (by rw[b_];exact h1);obtain⟨z,c,rfl⟩:=oi.mp hm;exact⟨z,c,b⟩
inductive Do(vs:List V)(H:Hp)(Q:VK)(_E:XK):Prop|mk(k N:Int)(_:vs=[.int k,.int N])(_:∀(g:Str)H',aq H H'->xT g->Q (.str g) H')
def lP(h:N c H):(j3.mk N R B C).nx c H:=h
def qI{c:TT}{t u:TS}{D:j3}{d:St}(h1:u D d H)(h2:∀N:St->Hp->Prop,N d H->FG c t x4 {D with nx:=N} d H):tf (FG c t x4) u D d H:=h2 (u D) h1
def Lq:List Str:=["age","size","old"]
inductive FQ(K:N_)(h:Nat)(vs:List V)(H:Hp)(Q:VK)(_E:XK):Prop|mk(n i:Int)(_:vs=[.int n,.int i])(_:1<=i)(_:i<=(h:Int))(_:∀(r:Ru)(rv:V)H',aq H H'->fC K H' r rv->jY Lq r->r.hgt<=h->r.cnt<2^h->Q rv H')
section
def qA(T:Txt K mg a):aT P w K mg base dR 1 a.mS.x a.mS.d ["_law_k","_law_number"] Do:=by
 refine T.mS.ok ke λp A outer s H D Q E F h=>?_
 ·obtain⟨k,N,rfl,q⟩:=h;refine⟨_,(ai (aM (aE aU (az aV (az bu (Y 1) ah) ah) ah (aG _)) (ai (bj 2 ke.nd (bh (ae ay (ae ay (ae ay (ae ay (ae ay (ae ay (ae ay (ae ay (ae ay (ae ay (ae ay (ae ay af)))))))))))))) (aj (aB (gG K (Y 2) (az aV (az bR (Y 0) (az bu (Y 1) ah)) ah))))) aF) (ai (bj 3 ke.nd (gG K (bh (ae ay (ae ay (ae ay (ae ay af))))) (az aV (Y 1) ah))) (ai (bj 4 ke.nd (az aV (az bu (Y 1) ah) (az bR (aA (aJ K rfl) (by rfl) T.bF L2.aL (ae (Y 3) af)) ah))) (ai (bj 5 ke.nd (az aV (az bR (Y 0) (az bu (Y 1) ah)) ah)) (aj (aB (az jd (az jd (gr wN (Y 3) iM (iL (Y 4))) (yr Ah ay (Y 5) (λ_ _=>rfl))) (gr wN (Y 3) (iL (Y 4)) iM)))))))),?_⟩
  have b1:=bJ (k+N/160) (show(0:Int)<12 by decide);have b2:=bJ (k+N/160) (show(0:Int)<36 by decide);have b3:=bJ N (show(0:Int)<4 by decide)
  walk_at "a"
  refine kN (λr=>?_) (λr=>?_)
  ·refine⟨ls rfl,λl g=>?_⟩
   walk_at "a"
   obtain⟨z,f,i⟩:=ix (zs:=Hq) b1.1 b1.2;exact⟨l,_,_,U rfl ⟨rfl,aY.of ag,i,q z _ (ak (aq.refl H) g) (Hz (DC z f))⟩⟩
  ·refine⟨ls rfl,λl g=>?_⟩;obtain⟨z,f,i⟩:=ix (zs:=C5) b3.1 b3.2;have u:=BG z f;have n:=ak (o:=.lst [V.str "",V.str "ann7",V.str "0",V.str "guestofthishouse99"]) (aq.refl H) g;have c:aI H l (.lst [V.str "",V.str "ann7",V.str "0",V.str "guestofthishouse99"]) l=some (.lst [V.str "",V.str "ann7",V.str "0",V.str "guestofthishouse99"]):=ag;generalize aI H l (.lst [V.str "",V.str "ann7",V.str "0",V.str "guestofthishouse99"])=G at n c⊢
   walk_at "a"
   refine⟨l,_,_,U rfl ⟨rfl,aY.of c,i,av ?_⟩⟩
   walk_at "a"
   refine⟨_,z.length,rfl,⟨cH (by lia),rfl⟩,_,U rfl ⟨rfl,r2 ⟨(by show(0:Int)<_;exact t6.mpr (rV _)),av ?_⟩⟩⟩;have v:=bJ (N/4) (show(0:Int)<(z.length:Int)+1 by exact t6.mpr (rV _));have y:=Txt.slice_le z none (some (N/4%((z.length:Int)+1)));have B:=Txt.slice_le z (some (N/4%((z.length:Int)+1))) none;have hok:=GA z f (N/4%((z.length:Int)+1)).toNat (by rw[yl];lia) ((k+N/160)%36).toNat (by rw[yl];lia);have e:=IG ((k+N/160)%36).toNat (by rw[yl];lia);rw[show(((N/4%((z.length:Int)+1)).toNat:Nat):Int)=N/4%((z.length:Int)+1)by lia]at hok;rw[show((((k+N/160)%36).toNat:Nat):Int)=(k+N/160)%36 by lia]at e;generalize DF ((k+N/160)%36).toNat=j at*;have m:∀a b:Str,(a++b).length=a.length+b.length:=λa b=>by show(a.cps++b.cps).size=a.cps.size+b.cps.size;exact Array.size_append
   have C:(⟨#[j]⟩:Str).length=1:=rfl
   walk_at "a"
   refine⟨cH (by lia),?_⟩
   walk_at "a"
   exact⟨"abcdefghijklmnopqrstuvwxyz0123456789",_,j,rfl,rfl,cH (dk rfl),e,_,(⟨#[j]⟩:Str),rfl,rfl,cH (by lia),U rfl (U rfl ⟨N/4%((z.length:Int)+1),rfl,z,rfl,cH (by lia),_,U rfl ⟨rfl,cH (by rw[m];lia),q _ _ n (Hz hok)⟩⟩)⟩
theorem yG(T:Txt K mg a):∀h:Nat,aT P w K mg base dR (h+1) a.eX.x a.eX.d ["_law_number","_law_high"] (FQ K h)
 |0=>by
  refine T.eX.f.ok l9 (λR H Q E h=>?_) (λS A outer s H R Q E e h=>?_)
  ·obtain⟨n,i,rfl,_⟩:=h;rfl
  ·obtain⟨n,i,rfl,h1,h2,_⟩:=h;lia|hh+1=>by
  have G:=yG T hh;refine T.eX.f.ok l9 (λR H Q E h=>?_) (λS A outer s H R Q E e h=>?_)
  ·obtain⟨n,i,rfl,_⟩:=h;rfl
  ·obtain⟨n,i,rfl,h1,h2,q⟩:=h;refine⟨_,(ai (bj 2 l9.nd (az aV (Y 0) ah)) (ai (bj 3 l9.nd (az bu (Y 0) ah)) (ai (bj 4 l9.nd (gG K (bh (ae ay (ae ay (ae ay af)))) (az aV (Y 3) ah))) (ai (aM (aE aU (Y 2) ah (aG _)) (aj (aB (aR (ae ay (ae (Y 4) af))))) aF) (ai (aM (PW.pt (fb (aE aU (Y 2) ah (aG _)) (dL (aE aU (Y 2) ah (aG _))))) (aj (aB (aR (ae ay (ae (Y 4) (ae (az fW (az aV (az bu (Y 3) ah) ah) ah) af)))))) aF) (ai (aM (PW.pt (my (aE nR (Y 1) ah (aG _)) (jC (aE aU (Y 2) ah (aG _))))) (aj (aB (aR (ae ay (ae (a0 G e rfl T.eX.m T.eX.f.kp T.eX.b .nil bw (ae (Y 3) (ae (az fW (Y 1) ah) af))) af))))) aF) (ai (aM (PW.pt (my (aE nR (Y 1) ah (aG _)) (jC (aE aU (Y 2) ah (aG _))))) (aj (aB (aR (ae ay (ae (a0 G e rfl T.eX.m T.eX.f.kp T.eX.b .nil bw (ae (Y 3) (ae (az fW (Y 1) ah) af))) (ae (a0 G e rfl T.eX.m T.eX.f.kp T.eX.b .nil bw (ae (az bu (Y 3) ah) (ae (az fW (Y 1) ah) af))) af)))))) aF) (ai (aM (PW.pt (my (aE nR (Y 1) ah (aG _)) (jC (aE aU (Y 2) ah (aG _))))) (aj (aB (aR (ae ay (ae (a0 G e rfl T.eX.m T.eX.f.kp T.eX.b .nil bw (ae (Y 3) (ae (az fW (Y 1) ah) af))) (ae (a0 G e rfl T.eX.m T.eX.f.kp T.eX.b .nil bw (ae (az bu (Y 3) ah) (ae (az fW (Y 1) ah) af))) af)))))) aF) (aj (aB (aR (ae ay af)))))))))))),?_⟩
   have W:2<=2^(hh+1):=by rw[Nm];have:=Nat.two_pow_pos hh;lia
   walk_at "a"
   refine⟨ls rfl,λl hl=>?_⟩;have b3:=bJ (n/10) (show(0:Int)<3 by decide);obtain⟨z,hz,ha⟩:=ix (zs:=Lq) b3.1 b3.2;have v:=ak (o:=.lst [V.str "age",V.str "size",V.str "old"]) (aq.refl H) hl;have y:aI H l (.lst [V.str "age",V.str "size",V.str "old"]) l=some (.lst [V.str "age",V.str "size",V.str "old"]):=ag;generalize aI H l (.lst [V.str "age",V.str "size",V.str "old"])=H0 at v y⊢
   walk_at "a"
   refine⟨l,_,_,U rfl ⟨rfl,aY.of y,ha,av ?_⟩⟩;clear y ha b3;refine lP (qI ?_ (λN j=>?_))
   rotate_left
   ·walk_at "a"
    refine kN (λe1=>?_) (λe1=>j);exact U rfl ⟨ls rfl,λt c=>q (.has z) _ _ (ak v c) (.has (aS.of ag)) (.has hz) (by show 1<=hh+1;exact rV _) W⟩
   refine qI ?_ (λN j=>?_)
   rotate_left
   ·have b9:=bJ (n/10/3) (show(0:Int)<9 by decide);have ac:=qm;refine U rfl ⟨rfl,U rfl (kN (λ_=>bo ?_) (λ_=>(U rfl ⟨rfl,U rfl (kN (λ_=>?_) (λ_=>j))⟩)))⟩
    all_goals
     walk_at "a"
     exact⟨ls rfl,λt c=>q (.least z _) _ _ (ak v c) (.least (aS.of ag)) (.least hz (by lia) (by lia)) (by show 1<=hh+1;lia) W⟩
   have X:∀m:Nat,m<2^hh->m+1<2^(hh+1):=λm hm=>by rw[Nm];lia
   have u:∀m k:Nat,m<2^hh->k<2^hh->m+k+1<2^(hh+1):=λm k hm hk=>by rw[Nm];lia
   refine qI ?_ (λN j=>?_)
   rotate_left
   ·refine U rfl (r2 (U rfl (lO (λg=>?_) (λ_=>bX j))));refine U rfl ⟨rfl,U rfl (kN (λ_=>?_) (λ_=>j))⟩;refine U rfl (U rfl (r2 ⟨n/10,i-1,rfl,by lia,by lia,λr O H1 I e J h3 h4=>⟨ls rfl,λt c=>?_⟩⟩));exact q (.not r) _ _ (ak (v.trans I) c) (.not (aS.of ag) (e.kp (.of (ak (aq.refl _) c)))) (.not J) (by show r.hgt+1<=hh+1;exact t8 h3) (X _ h4)
   refine qI ?_ (λN j=>?_)
   rotate_left
   ·refine U rfl (r2 (U rfl (lO (λg=>?_) (λ_=>bX j))));refine U rfl ⟨rfl,U rfl (kN (λ_=>?_) (λ_=>j))⟩;refine U rfl (U rfl (r2 ⟨n/10,i-1,rfl,by lia,by lia,λr O H1 I e J h3 h4=>?_⟩));refine U rfl (r2 ⟨⟨by decide,by decide⟩,U rfl (r2 ⟨n/10/40,i-1,rfl,by lia,by lia,λp B Z L C D aa F=>⟨ls rfl,λt c=>?_⟩⟩)⟩);have M:=ak (o:=.tup [.str "both",O,B]) (aq.refl Z) c;exact q (.both r p) _ _ (ak ((v.trans I).trans L) c) (.both (aS.of ag) ((e.kp (.of L)).kp (.of M)) (C.kp (.of M))) (.both J D) (by show max r.hgt p.hgt+1<=hh+1;lia) (by rw[show(Ru.both r p).cnt=r.cnt+p.cnt+1 from w_ (·+1) k_];exact u _ _ h4 F)
   refine qI ?_ (λN j=>?_)
   rotate_left
   ·refine U rfl (r2 (U rfl (lO (λg=>?_) (λ_=>bX j))));refine U rfl ⟨rfl,U rfl (kN (λ_=>?_) (λ_=>j))⟩;refine U rfl (U rfl (r2 ⟨n/10,i-1,rfl,by lia,by lia,λr O H1 I e J h3 h4=>?_⟩));refine U rfl (r2 ⟨⟨by decide,by decide⟩,U rfl (r2 ⟨n/10/40,i-1,rfl,by lia,by lia,λp B Z L C D aa F=>⟨ls rfl,λt c=>?_⟩⟩)⟩);have M:=ak (o:=.tup [.str "either",O,B]) (aq.refl Z) c;exact q (.either r p) _ _ (ak ((v.trans I).trans L) c) (.either (aS.of ag) ((e.kp (.of L)).kp (.of M)) (C.kp (.of M))) (.either J D) (by show max r.hgt p.hgt+1<=hh+1;lia) (by rw[show(Ru.either r p).cnt=r.cnt+p.cnt+1 from w_ (·+1) k_];exact u _ _ h4 F)
   exact⟨ls rfl,λt c=>q .any _ _ (ak v c) (.any (aS.of ag)) .any (by show 1<=hh+1;exact rV _) W⟩
end
def zW(m:Int)(j:Nat):Str:=Lq.getD (((j:Int)+m)%3).toNat "age"
def Jt:List Str:=["marka","markb","markc","markd","marke"]
def Gx(m:Int):zW m=zW (m%3):=by
 funext j
 unfold zW;rw[Int.add_emod,Int.add_emod (j:Int) (m%3),Int.emod_emod]
def El(m:Int):(Jt++(List.range 3).map (zW m)).Nodup/\∀z∈Jt++(List.range 3).map (zW m),Hl z=true:=by rw[Gx];have b:=bJ m (show(0:Int)<3 by decide);rcases(by lia:m%3=0\/m%3=1\/m%3=2)with e|e|e<;>rw[e]<;>decide+kernel
def Jd{m:Int}{j:Nat}:vq [V.str "age",V.str "size",V.str "old"] ((0+(j:Int)+m)%3)=some (V.str (zW m j)):=by rw[Int.zero_add];have b:=bJ ((j:Int)+m) (show(0:Int)<3 by decide);unfold zW;rcases(by lia:((j:Int)+m)%3=0\/((j:Int)+m)%3=1\/((j:Int)+m)%3=2)with e|e|e<;>rw[e]<;>rfl
def J6(K:N_)(H:Hp)(v:V)(m:Str×Int):Prop:=∃b,v=.ref b/\aS K H b [.str m.1,.int m.2]
def rn(e:Kp H H')(h:Paired (J6 K H) c d):Paired (J6 K H') c d:=Paired.mapP h λv m⟨b,h1,h2⟩=>⟨b,h1,e.tq h2⟩
def KO{a:Addr}{c:List V}{d:List (Str×Int)}(h:Paired (J6 K H) c d)(e:aS K H a c):qS K H d (.ref a):=⟨a,c,rfl,e,Paired.length h,λi m hm=>by obtain⟨v,h1,b,rfl,h2⟩:=qw h i m hm;exact⟨b,h1,h2⟩⟩
def mK{ns:Ol}{i:Int}(h0:0<=i)(h1:i<(ns.length:Int)):∃z∈ns,vq (ns.map V.int) i=some (V.int z):=by obtain⟨v,b,hm⟩:=uQ (xs:=ns.map V.int) h0 (by rw[b_];exact h1);obtain⟨z,c,rfl⟩:=oi.mp hm;exact⟨z,c,b⟩
def Bn:List (Str×Int):=[("marka",-2),("markb",-1),("markc",0),("markd",1),("marke",2)]
def EW:∀j∈List.range 5,vq ("abcde":Str).cps.toList (0+(j:Int))=some (97+j)/\Bn[j]?=some (("mark":Str)++(⟨#[97+j]⟩:Str),0+(j:Int)-2):=dk rfl
inductive Dk(K:N_)(vs:List V)(H:Hp)(Q:VK)(_E:XK):Prop|mk(n:Int)(_:vs=[.int n])(_:∀(t:Addr)(ms:List (Str×Int))H',aq H H'->qS K H' ms (.ref t)->(∀m∈ms,Wd m.1/\-cJ<=m.2/\m.2<=cJ)->(ms.map Prod.fst).Nodup->ms.length<=8->Q (.ref t) H')
section
def B6(T:Txt K mg a):aT P w K mg base dR 2 a.qW.x a.qW.d ["_law_number"] (Dk K):=by
 refine T.qW.ok kc λbb A outer s H r Q E hr h=>?_
 ·obtain⟨n,rfl,q⟩:=h;refine⟨_,(ai (bj 1 kc.nd (bh af)) (ai (d6 qq rfl (cY rfl T.eh (ae ah af)) (qg 2 kc.nd) (aj (aM (aE aU (az aV (az bu (Y 0) (gG K (bh (ae ah (ae ah (ae ah af)))) (Y 2))) ah) ah (aG _)) (ai (bj 3 kc.nd (gG K (bh (ae ay (ae ay (ae ay af)))) (az aV (az bR (Y 2) (az bu (Y 0) ah)) ah))) (aj (aZ (jc K rfl PySem.F.plainAttrs_list PySem.F.slot_list_append PySem.F.type_list_append fw (Y 1) (ae (aR (ae (Y 3) (ae (az fW (az aV (az bu (Y 0) (gG K (bh (ae ah (ae ah (ae ah af)))) (Y 2))) ah) ah) af))) af))))) aF))) (ai (aM (aE aU (az aV (az bu (Y 0) ah) ah) ah (aG _)) (aj (bj 1 kc.nd (az oF (sQ uU [] [2] [2] (ao tX) (bY 2) (cY rfl T.eh (ae ah af)) (λcl C s₀ H₀ ex=>⟨(nA uU [] 2),ck,(aR (ae (az jd ay (yr Ah ay (Y 2) (λ_ _=>rfl))) (ae (az fW (Y 2) ah) af)))⟩)) (Y 1)))) aF) (aj (aB (cZ (dY K rfl) (by rfl) T.dJ L2.bP (ae (Y 1) af))))))),?_⟩
  refine⟨ls rfl,λl hl=>?_⟩;have s0:=ak (o:=.lst []) (aq.refl H) hl;refine av ⟨3,rfl,by exact mu _,by exact mu _,?_⟩;refine ng (lo:=0) (n:=3) (λi R H'=>aq H H'/\(JW λ(g:List (Str×Int))(r:List V)=>L4 (H' l=some (.lst r)) (Paired (J6 K H') r g) ((g.map (·.1)).Sublist ((List.range i).map (zW (n/8)))) ((∀m∈g,-100<=m.2/\m.2<=100)) (JW λS W=>R=[some (.int n),some (.ref l),S,W]))) ⟨s0,[],[],ag,.nil,List.nil_sublist _,(λm hm=>nomatch hm),_,_,rfl⟩ ?_ ?_
  ·rintro i R X hi⟨s1,g,r,Z,G,b,hb,S,W,rfl⟩;refine av ?_
   walk_at "a"
   refine⟨ls rfl,λl1 ap=>?_⟩;have f:=ak (o:=.lst [V.int 1,V.int 2,V.int 4]) (aq.refl X) ap;have u:aI X l1 (.lst [V.int 1,V.int 2,V.int 4]) l1=some (.lst [V.int 1,V.int 2,V.int 4]):=ag;generalize aI X l1 (.lst [V.int 1,V.int 2,V.int 4])=I at f u⊢;obtain⟨d,hd,ha⟩:=mK (ns:=[1,2,4]) (i:=0+(i:Int)) (by exact mu _) (by show _<(3:Int);lia);have bc:d=1\/d=2\/d=4:=by simpa using hd
   refine U rfl ⟨l1,_,_,U rfl ⟨rfl,aY.of u,ha,_,U rfl ⟨rfl,⟨by lia,by lia⟩,_,U rfl ⟨rfl,(show(0:Int)<2 by decide),rfl,U rfl ?_⟩⟩⟩⟩;refine kN (λ_=>?_) (λ_=>?_)
   ·refine⟨ls rfl,λl2 as=>?_⟩;have J:=ak (o:=.lst [V.str "age",V.str "size",V.str "old"]) (aq.refl I) as;have v:aI I l2 (.lst [V.str "age",V.str "size",V.str "old"]) l2=some (.lst [V.str "age",V.str "size",V.str "old"]):=ag;generalize aI I l2 (.lst [V.str "age",V.str "size",V.str "old"])=H3 at J v⊢
    walk_at "a"
    refine⟨l2,_,_,U rfl ⟨rfl,aY.of v,Jd,av ?_⟩⟩;have ax:=J _ _ (f _ _ Z);refine U rfl ⟨.inl ⟨rfl,_,aY.of ax⟩,U rfl (U rfl ⟨ls rfl,λl3 a2=>?_⟩)⟩;have s4:=ak (o:=.lst [V.int 24,V.int 240,V.int 2400]) (aq.refl H3) a2;have y:aI H3 l3 (.lst [V.int 24,V.int 240,V.int 2400]) l3=some (.lst [V.int 24,V.int 240,V.int 2400]):=ag;generalize aI H3 l3 (.lst [V.int 24,V.int 240,V.int 2400])=H4 at s4 y⊢;obtain⟨k,a3,a5⟩:=mK (ns:=[24,240,2400]) (i:=0+(i:Int)) (by exact mu _) (by show _<(3:Int);lia);have ba:k=24\/k=240\/k=2400:=by simpa using a3
    have bi:=bJ (n/k) (show(0:Int)<10 by decide);refine U rfl ⟨l3,_,_,U rfl ⟨rfl,aY.of y,a5,_,U rfl ⟨rfl,⟨by lia,by lia⟩,_,U rfl ⟨rfl,(show(0:Int)<10 by decide),_,U rfl ⟨rfl,ls rfl,λt ht=>?_⟩⟩⟩⟩⟩;have s5:=ak (o:=.tup [.str (zW (n/8) i),.int (n/k%10-5)]) (aq.refl H4) ht;have aa:aI H4 t (.tup [.str (zW (n/8) i),.int (n/k%10-5)]) t=some (.tup [.str (zW (n/8) i),.int (n/k%10-5)]):=ag;have s6:aq X (aI H4 t (.tup [.str (zW (n/8) i),.int (n/k%10-5)])):=((f.trans J).trans s4).trans s5;generalize aI H4 t (.tup [.str (zW (n/8) i),.int (n/k%10-5)])=H5 at s6 aa⊢;have ac:=s6 _ _ Z;have a6:=Paired.length G;have L:=b.length_le;rw[b_,b_,r4]at L;refine rA ac (by rw[nk];lia) ⟨bv (s1.trans s6) hl,g++[(zW (n/8) i,n/k%10-5)],_,ag,?_,?_,λm hm=>?_,_,_,rfl⟩
    ·exact rn (.lst ac) (Paired.snoc (rn (.of s6) G) ⟨t,rfl,aS.of aa⟩)
    ·rw[me,Nx,me];exact b.append (NQ _)
    ·rcases Ny.mp hm with z|z
     ·exact hb m z
     ·rw[List.mem_singleton.mp z];show-100<=n/k%10-5/\n/k%10-5<=100;lia
   ·refine⟨s1.trans f,g,r,f _ _ Z,rn (.of f) G,?_,hb,_,_,rfl⟩;rw[Nx,me];exact b.trans (List.sublist_append_left _ _)
  ·rintro R X⟨s1,g,r,Z,G,b,hb,S,W,rfl⟩
   walk_at "a"
   refine HH (λR H'=>aq H H'/\(Ex3 λ(l':Addr)(g:List (Str×Int))(r:List V)=>L4 (H' l'=some (.lst r)) (Paired (J6 K H') r g) ((g.map (·.1)).Sublist (Jt++(List.range 3).map (zW (n/8)))) ((∀m∈g,-100<=m.2/\m.2<=100)) (JW λS W=>R=[some (.int n),some (.ref l'),S,W]))) ?A (λN hJ=>?B)
   case B=>
    refine kN (λ_=>?_) (λ_=>hJ _ _ ⟨s1,l,g,r,Z,G,b.trans (List.sublist_append_right _ _),hb,_,_,rfl⟩);refine⟨5,rfl,by exact mu _,by exact mu _,λD hD=>?_⟩;refine ff (K:=K) (lo:=0) (n:=5) (λj p H'=>aq X H'/\H' D=some (.lst p)/\Paired (J6 K H') p (Bn.take j)) ⟨ak (aq.refl _) hD,ag,.nil⟩ ?_ ?_
    ·rintro j p I hj⟨f,M,c⟩;obtain⟨e1,e2⟩:=EW j (yl.mpr hj);have O:=Paired.length c;rw[o8]at O;refine av (iZ (bo ?_));refine U rfl ⟨"abcde",_,97+j,rfl,rfl,cH (dk rfl),e1,"mark",(⟨#[97+j]⟩:Str),rfl,rfl,cH (show 4+1<=65536 by decide),U rfl (r2 ⟨ls rfl,λt ht=>?_⟩)⟩;have J:=ak (o:=.tup [.str (("mark":Str)++(⟨#[97+j]⟩:Str)),.int (0+(j:Int)-2)]) (aq.refl I) ht;have ad:=J _ _ M;refine⟨ad,by rw[nk];lia,lf hj ⟨bv (f.trans J) hD,ag,?_⟩⟩;rw[dI e2];exact rn (.lst ad) (Paired.snoc (rn (.of J) c) ⟨t,rfl,aS.of ag⟩)
    ·rintro p I⟨f,M,c⟩;have O:=Paired.length c;have a6:=Paired.length G;have L:=b.length_le;rw[b_,b_,r4]at L;refine U rfl ⟨D,l,_,U rfl ⟨rfl,M,f _ _ Z,by rw[nk];have:p.length=5:=O;lia,λl' al=>av (hJ _ _ ⟨ak (s1.trans f) al,l',Bn++g,_,ag,rn (.new al) (DQ c (rn (.of f) G)),?_,λm hm=>?_,_,_,rfl⟩)⟩⟩
     ·rw[me];exact(NQ _).append b
     ·rcases Ny.mp hm with z|z
      ·exact(by decide:∀m∈Bn,-100<=m.2/\m.2<=100) m z
      ·exact hb m z
   case A=>rintro R I⟨f,l',a7,bl,a8,c,e,an,S,W,rfl⟩;refine U rfl ⟨l',U rfl (.inl ⟨aY.of a8,λt ht=>?_⟩)⟩;obtain⟨m1,m2⟩:=El (n/8);have bt:=qm;exact q t a7 _ (ak f ht) (KO (rn (.new ht) c) (aS.of ag)) (λm hm=>⟨CO (m2 _ (e.subset (oi.mpr ⟨m,hm,rfl⟩))),by have:=an m hm;lia,by have:=an m hm;lia⟩) (e.nodup m1) (by have:=e.length_le;rw[b_]at this;exact this)
end
def xJ(p:Nat):Prop:=p∈[2,3,5,7,11,13,17,37,61]
def xJ.le(h:xJ p):2<=p/\p<=61:=(by decide:∀p∈[2,3,5,7,11,13,17,37,61],2<=p/\p<=61) p h
structure xM where
 pl:Addr
 L:Addr
 T:Addr
def CM(K:N_)(H:Hp)(v:V)(t:Str×Nat):Prop:=∃b,v=.ref b/\aS K H b [.str t.1,.int t.2]
def CM.kp(e:Kp H H')(h:Paired (CM K H) c d):Paired (CM K H') c d:=Paired.mapP h λv m⟨b,h1,h2⟩=>⟨b,h1,e.tq h2⟩
structure pZ(K:N_)(H:Hp)(p:Nat)(sa:Int)(ns:Of)(ts:List (Str×Nat))(A:xM):Prop where
 pl:H A.pl=some (.lst [.int p,.int sa,.ref A.L,.ref A.T])L:H A.L=some (.lst (ns.map V.str))T:∃us,H A.T=some (.lst us)/\Paired (CM K H) us ts
 n1:A.pl≠A.L
 n2:A.pl≠A.T
 n3:A.L≠A.T
def pZ.same(h:pZ K H p sa ns c A)(e:aq H H'):pZ K H' p sa ns c A:=let⟨b,h1,h2⟩:=h.T
 ⟨e _ _ h.pl,e _ _ h.L,⟨b,e _ _ h1,CM.kp (.of e) h2⟩,h.n1,h.n2,h.n3⟩
inductive FS(K:N_)(vs:List V)(H:Hp)(Q:VK)(_E:XK):Prop|mk(sc:Addr)(ns:Ol)(_:vs=[.ref sc])(_:aY K H sc (ns.map V.int))(_:ns.length<=63)(_:∀(A:xM)(p:Nat)(sa:Int)H',aq H H'->H A.pl=none->H A.L=none->H A.T=none->pZ K H' p sa [] [] A->xJ p->(0<=sa/\sa<=cJ)->Q (.ref A.pl) H')
section
def D0(T:Txt K mg a):aT P w K mg base dR 3 a.wG.x a.wG.d ["_law_script"] (FS K):=by
 refine T.wG.ok tO λS A outer s H Z Q E F h=>?_
 ·obtain⟨G,ns,rfl,I,J,q⟩:=h;have W:=ql;refine⟨_,(ai (bj 1 tO.nd (pc T.eE (cM T) F (ae (Y 0) (ae ah (ae ah af))))) (ai (bj 2 tO.nd (gG K (bh (ae ah (ae ah (ae ah (ae ah (ae ah (ae ah (ae ah (ae (gG K (bh (ae ah (ae ah (ae ah (ae ah af))))) (az aV (az bu (Y 1) ah) ah)) af))))))))) (az aV (Y 1) ah))) (aj (aB (bh (ae (Y 2) (ae (az aV (pc T.jm (rj T) F (ae (Y 0) (ae ah af))) (az bR (az ub ah ah) ah)) (ae (bh af) (ae (bh af) af))))))))),?_⟩
  refine U rfl ⟨G,ns,0,1,rfl,I,J,⟨by decide,by decide⟩,⟨by decide,by decide⟩,av ?_⟩;generalize cS ns 0 1=x;refine⟨ls rfl,λj r=>?_⟩;have M:=ak (o:=.lst [V.int 5,V.int 17,V.int 37,V.int 61]) (aq.refl H) r;have e:aI H j (.lst [V.int 5,V.int 17,V.int 37,V.int 61]) j=some (.lst [V.int 5,V.int 17,V.int 37,V.int 61]):=ag;generalize aI H j (.lst [V.int 5,V.int 17,V.int 37,V.int 61])=t at M e⊢;have b4:=bJ (x/8) (show(0:Int)<4 by decide);have u:=bJ x (show(0:Int)<8 by decide);obtain⟨z,v,N⟩:=mK (ns:=[5,17,37,61]) b4.1 b4.2
  walk_at "a"
  refine⟨j,_,_,U rfl ⟨rfl,aY.of e,N,ls rfl,λk y=>?_⟩⟩;have O:=ak (o:=.lst [V.int 2,V.int 3,V.int 5,V.int 7,V.int 11,V.int 13,V.int 7,V.int z]) (aq.refl t) y;have f:aI t k (.lst [V.int 2,V.int 3,V.int 5,V.int 7,V.int 11,V.int 13,V.int 7,V.int z]) k=some (.lst [V.int 2,V.int 3,V.int 5,V.int 7,V.int 11,V.int 13,V.int 7,V.int z]):=ag;generalize aI t k (.lst [V.int 2,V.int 3,V.int 5,V.int 7,V.int 11,V.int 13,V.int 7,V.int z])=l at O f⊢;obtain⟨p,B,g⟩:=mK (ns:=[2,3,5,7,11,13,7,z]) u.1 u.2
  walk_at "a"
  refine⟨k,_,_,U rfl ⟨rfl,aY.of f,g,av ?_⟩⟩;have C:xJ p.toNat/\0<=p:=by
   simp only[tA,rl,Mj]at B v;rcases B with rfl|rfl|rfl|rfl|rfl|rfl|rfl|rfl
   all_goals try exact⟨by unfold xJ;decide,by decide⟩
   rcases v with rfl|rfl|rfl|rfl
   all_goals exact⟨by unfold xJ;decide,by decide⟩
  obtain⟨pn,rfl⟩:∃n:Nat,p=n:=⟨p.toNat,by lia⟩;clear B g f v N e b4 u;have i:=M.trans O;refine U rfl (U rfl ⟨G,ns,1,rfl,i.seq I,J,?_⟩);generalize wx ns 1=c;have X:=bJ c (show(0:Int)<cJ+1 by lia)
  walk_at "a"
  refine⟨ls rfl,λL D=>⟨ls rfl,λT m=>⟨ls rfl,λpl b=>?_⟩⟩⟩;have n3:L≠T:=λz=>by rw[<-z,ag]at m;cases m
  have n2:pl≠T:=λz=>by rw[z,ag]at b;cases b
  have n1:pl≠L:=λz=>by rw[z,au n3,ag]at b;cases b
  have R:aq l (aI (aI l L (.lst [])) T (.lst [])):=ak (ak (aq.refl l) D) m;exact q ⟨pl,L,T⟩ pn _ _ (i.trans (ak R b)) ((i.trans R).free b) (i.free D) ((i.trans (ak (aq.refl l) D)).free m) ⟨ag,by show aI _ _ _ L=_;rw[au (rb n1),au n3,ag];rfl,⟨[],by show aI _ _ _ T=_;rw[au (rb n2),ag],.nil⟩,n1,n2,n3⟩ C.1 ⟨X.1,by lia⟩
end
def gH{t u:TS}{D:j3}{c:St}(h:∀v:TS,v=u->tf t v D c H):tf t u D c H:=h u rfl
def fX(M:bD):List Str:=M.las.map cD.nm
def iJ(M:bD):List (Str×Nat):=M.trs.map λt=>(t.nm,t.arms.length)
def v0(M:bD):Dd->List Str|.layer nm _=>fX M++[nm]|_=>fX M
def sY(M:bD):Dd->List (Str×Nat)|.trial x=>iJ M++[(x.nm,x.arms.length)]|_=>iJ M
def fQ(ns:Ol)(m:Nat):List Str:=(List.range m).map λ(j:Nat)=>dq j (cS ns 3 4)
def Fp(ns:Ol)(h:m<=4):(fQ ns m).length=m/\(fQ ns m).Nodup/\∀x∈fQ ns m,Wd x:=by
 refine⟨by unfold fQ;rw[b_,r4],?_,λx c=>?_⟩
 ·refine List.pairwise_iff_getElem.mpr λi j hi b d e=>?_;unfold fQ at e hi b;rw[b_,r4]at hi b;rw[NY,NY,List.getElem_range,List.getElem_range]at e;have:=qj ⟨by exact mu _,by lia⟩ ⟨by exact mu _,by lia⟩ e;lia
 ·obtain⟨j,_,rfl⟩:=oi.mp c;exact sU _ _
structure n9(ns:Ol)(M:bD):Prop where
 ln:∀(i:Nat)(l:cD),M.las[i]?=some l->l.nm=dq i (cS ns 1 2)/\l.sl=(cS ns 2 2+i)%((M.p:Int)+1)tn:∀(j:Nat)(t:c5),M.trs[j]?=some t->t.nm=dq j (cS ns 2 3)/\t.arms=fQ ns t.arms.length
 lp:M.las.length<=M.p+1
 pr:xJ M.p
def He(ns:Ol)(M:bD):Dd->Prop|.layer nm sl=>nm=dq M.las.length (cS ns 1 2)/\sl=(cS ns 2 2+M.las.length)%((M.p:Int)+1)/\M.las.length<M.p+1|.trial x=>x.nm=dq M.trs.length (cS ns 2 3)/\x.arms=fQ ns x.arms.length|_=>True
def Ll(A:xM)(H H':Hp):Prop:=∃o,(o=A.L\/o=A.T)/\Kp H H'/\∀b ob,H b=some ob->b≠o->H' b=some ob
theorem Ll.of(s:aq H H'):Ll A H H':=⟨A.L,.inl rfl,.of s,λb o h _=>s b o h⟩
def iy(K:N_)(ns:Ol)(M:bD)(A:xM)(H:Hp)(Q:VK):Prop:=∀(b:Addr)(d:Dd)(c:List V)(H':Hp),Ll A H H'->aS K H' b c->iS K H' M d c->pZ K H' M.p M.salt (v0 M d) (sY M d) A->He ns M d->(M.trs.length=0->d.adds=true)->Q (.ref b) H'
def iy.same(h:iy K ns M A H Q)(s:aq H c):iy K ns M A c Q:=λe d f H'⟨o,h1,h2,h3⟩=>h e d f H' ⟨o,h1,Kp.trans (.of s) h2,λb ob g=>h3 b ob (s b ob g)⟩
structure uX(K:N_)(H:Hp)(sc:Addr)(ns:Ol)(M:bD)(A:xM)(c:Nat):Prop where
 sq:aY K H sc (ns.map V.int)len:ns.length<=63
 pl:pZ K H M.p M.salt (fX M) (iJ M) A
 ok:jo M c
 pn:n9 ns M
 n4:∀H',(∀b ob,H b=some ob->b≠A.L->H' b=some ob)->aY K H' sc (ns.map V.int)
theorem uX.same(h:uX K H d ns M A c)(s:aq H H'):uX K H' d ns M A c:=⟨s.seq h.sq,h.len,h.pl.same s,h.ok,h.pn,λf g=>h.n4 f λb ob e n=>g b ob (s b ob e) n⟩
def pZ.addL(h:pZ K H p sa ns c A)(x:Str):pZ K (aI H A.L (.lst (ns.map V.str++[.str x]))) p sa (ns++[x]) c A:=let⟨b,h1,h2⟩:=h.T
 ⟨by rw[au h.n1];exact h.pl,by rw[ag,me];rfl,⟨b,by rw[au (rb h.n3)];exact h1,CM.kp (.lst h.L) h2⟩,h.n1,h.n2,h.n3⟩
def pZ.addT(h:pZ K H p sa ns c A)(h1:H A.T=some (.lst d))(h2:Paired (CM K H) d c)(e:aS K H b [.str x.1,.int x.2]):pZ K (aI H A.T (.lst (d++[.ref b]))) p sa ns (c++[x]) A:=⟨by rw[au h.n2];exact h.pl,by rw[au h.n3];exact h.L,⟨_,ag,CM.kp (.lst h1) (Paired.snoc h2 ⟨b,rfl,e⟩)⟩,h.n1,h.n2,h.n3⟩
inductive Iq(K:N_)(vs:List V)(H:Hp)(Q:VK)(_E:XK):Prop|mk(sc:Addr)(ns:Ol)(M:bD)(A:xM)(c:Nat)(_:vs=[.ref sc,.ref A.pl])(_:uX K H sc ns M A c)(_:M.las.length<4)(_:M.las.length<M.p+1)(_:iy K ns M A H Q)
def BQ(h:n9 ns M)(c:M.las.length<M.p+1):(cS ns 2 2+M.las.length)%((M.p:Int)+1)∉M.las.map cD.sl:=λz=>by obtain⟨l,hm,e⟩:=oi.mp z;obtain⟨i,hi⟩:=m3.mp hm;have b:=(d_.mp hi).1;rw[(h.ln i l hi).2]at e;have h1:((cS ns 2 2+M.las.length)-(cS ns 2 2+i))%((M.p:Int)+1)=0:=Int.emod_eq_emod_iff_emod_sub_eq_zero.mp e.symm;rw[show(cS ns 2 2+(M.las.length:Int))-(cS ns 2 2+i)=((M.las.length-i:Nat):Int)by lia,NT (by exact mu _) (by lia)]at h1;lia
def Cg(h:n9 ns M)(c:M.las.length<4):dq M.las.length (cS ns 1 2)∉M.las.map cD.nm:=λz=>by obtain⟨l,hm,e⟩:=oi.mp z;obtain⟨i,hi⟩:=m3.mp hm;have b:=(d_.mp hi).1;rw[(h.ln i l hi).1]at e;have:=qj ⟨by exact mu _,by lia⟩ ⟨by exact mu _,by lia⟩ e;lia
def BE(h:n9 ns M)(c:M.trs.length<10):dq M.trs.length (cS ns 2 3)∉M.trs.map c5.nm:=λz=>by obtain⟨t,hm,e⟩:=oi.mp z;obtain⟨i,hi⟩:=m3.mp hm;have b:=(d_.mp hi).1;rw[(h.tn i t hi).1]at e;have:=qj ⟨by exact mu _,by lia⟩ ⟨by exact mu _,by lia⟩ e;lia
section
def vg(T:Txt K mg a):aT P w K mg base dR 3 a.gY.x a.gY.d ["_law_script","_law_plan_here"] (Iq K):=by
 refine T.gY.ok jP λC A outer s H I Q E r h=>?_
 ·obtain⟨z,ns,M,A,c,rfl,g,h4,B,q⟩:=h;refine⟨_,(ai (bj 2 jP.nd (aA (aJ K rfl) (by rfl) T.bF L2.aL (ae (gG K (Y 1) ah) af))) (ai (bj 3 jP.nd (pc T.rQ (uq T) r (ae (Y 2) (ae (pc T.eE (cM T) r (ae (Y 0) (ae ah (ae ah af)))) af)))) (ai (aZ (jc K rfl PySem.F.plainAttrs_list PySem.F.slot_list_append PySem.F.type_list_append fw (gG K (Y 1) ah) (ae (Y 3) af))) (aj (aB (aR (ae ay (ae (Y 3) (ae (az aV (az bR (pc T.eE (cM T) r (ae (Y 0) (ae ah (ae ah af)))) (Y 2)) (az bR (gG K (Y 1) ah) ah)) af))))))))),?_⟩
  have t:=g.pl;have j:(fX M).length=M.las.length:=b_ _;refine U rfl (rX (aY.of t.pl) (am (k:=2) rfl) ⟨_,M.las.length,rfl,.inl ⟨_,aY.of t.L,by rw[b_,j]⟩,av ?_⟩);refine U rfl (U rfl ⟨z,ns,1,2,rfl,g.sq,g.len,⟨by decide,by decide⟩,⟨by decide,by decide⟩,(M.las.length:Int),cS ns 1 2,rfl,λl m=>av ?_⟩);have f:=t.same m;refine U rfl (rX (aY.of f.pl) (am (k:=2) rfl) ⟨.inl ⟨rfl,_,aY.of f.L⟩,U rfl (rA f.L (by rw[b_,j,nk];exact pv h4 (ov rfl)) ?_)⟩);have i:=f.addL (dq M.las.length (cS ns 1 2));have kp:Kp l (aI l A.L (.lst ((fX M).map V.str++[.str (dq M.las.length (cS ns 1 2))]))):=.lst f.L;have u:∀b ob,l b=some ob->b≠A.L->aI l A.L (.lst ((fX M).map V.str++[.str (dq M.las.length (cS ns 1 2))])) b=some ob:=λb ob e n=>by rw[au n];exact e
  generalize aI l A.L (.lst ((fX M).map V.str++[.str (dq M.las.length (cS ns 1 2))]))=D at i kp u⊢;have bs:=bJ (cS ns 2 2+M.las.length) (show(0:Int)<(M.p:Int)+1 by exact t6.mpr (rV _));refine U rfl (U rfl ⟨z,ns,2,2,rfl,(g.same m).n4 _ u,g.len,⟨by decide,by decide⟩,⟨by decide,by decide⟩,U rfl (r2 (U rfl (rX (aY.of i.pl) (am (k:=0) rfl) (r2 (r2 ⟨by show(0:Int)<(M.p:Int)+1;exact t6.mpr (rV _),ls rfl,λG v=>?_⟩)))))⟩);have y:=ak (o:=.tup [.str "layer",.str (dq M.las.length (cS ns 1 2)),.int ((cS ns 2 2+M.las.length)%((M.p:Int)+1))]) (aq.refl D) v;exact q G (.layer _ _) _ _ ⟨A.L,.inl rfl,Kp.trans (.of m) (Kp.trans kp (.of y)),λb ob e n=>y _ _ (u b ob (m _ _ e) n)⟩ (aS.of ag) (.layer (sU _ _) (Cg g.pn h4) ⟨bs.1,by lia⟩ (BQ g.pn B) h4) (i.same y) ⟨rfl,rfl,B⟩ λ_=>rfl
end
inductive Ip(K:N_)(vs:List V)(H:Hp)(Q:VK)(_E:XK):Prop|mk(sc:Addr)(ns:Ol)(M:bD)(A:xM)(c:Nat)(n:Int)(_:vs=[.ref sc,.ref A.pl,.int n])(_:uX K H sc ns M A c)(_:M.trs.length<10)(_:0<M.las.length)(_:iy K ns M A H Q)
section
def vf(T:Txt K mg a):aT P w K mg base dR 5 a.gX.x a.gX.d ["_law_script","_law_plan_here","_law_number"] (Ip K):=by
 refine T.gX.ok cV λdi A outer s H vs Q E W h=>?_
 ·obtain⟨sc,ns,M,A,c,n,rfl,X,h10,dt,q⟩:=h;refine⟨_,(ai (bj 3 cV.nd (aA (aJ K rfl) (by rfl) T.bF L2.aL (ae (gG K (Y 1) ah) af))) (ai (bj 4 cV.nd (pc T.rQ (uq T) W (ae (Y 3) (ae (pc T.eE (cM T) W (ae (Y 0) (ae ah (ae ah af)))) af)))) (ai (bj 5 cV.nd (gG K (gG K (Y 1) ah) (az aV (Y 2) (aA (aJ K rfl) (by rfl) T.bF L2.aL (ae (gG K (Y 1) ah) af))))) (ai (bj 6 cV.nd (cZ (dY K rfl) (by rfl) T.dJ L2.bP (ae (sQ lB [] [9] [9] (ao ld) (bY 9) (cY rfl T.eh (ae (az bR ah (az aV (az bu (Y 2) ah) ah)) af)) (λcl C s₀ H₀ ex=>⟨(nA lB [] 9),ck,(pc T.rQ (uq T) W (ae (Y 9) (ae (pc T.eE (cM T) W (ae (Y 0) (ae ah (ae ah af)))) af)))⟩)) af))) (ai (bj 7 cV.nd (bh af)) (ai (bj 8 cV.nd (pc T.eE (cM T) W (ae (Y 0) (ae (az bR ah (Y 3)) (ae ah af))))) (ai (d6 qq rfl (cY rfl T.eh (ae (aA (qM rfl) (by rfl) T.D9 L2.uL (ae ah (ae (Y 3) af))) af)) (qg 9 cV.nd) (aj (aM (aE aU (az aV (az bu (Y 8) (gG K (bh (ae ah (ae ah (ae ah (ae ah (ae ah (ae ah (ae ah (ae ah af))))))))) (Y 9))) ah) ah (aG _)) (aj (aZ (jc K rfl PySem.F.plainAttrs_list PySem.F.slot_list_append PySem.F.type_list_append fw (Y 7) (ae (cQ K (gG K (gG K (Y 1) ah) (az fW (az fW (Y 3) ah) (Y 9))) ah) af)))) aF))) (ai (aZ (jc K rfl PySem.F.plainAttrs_list PySem.F.slot_list_append PySem.F.type_list_append fw (gG K (Y 1) ah) (ae (aR (ae (Y 4) (ae (aA (aJ K rfl) (by rfl) T.bF L2.aL (ae (Y 6) af)) af))) af))) (aj (aB (aR (ae ay (ae (Y 4) (ae (Y 5) (ae (Y 6) (ae (a0 ((yG T 3).mono (by decide)) W rfl T.eX.m T.eX.f.kp T.eX.b .nil bw (ae (az bu (Y 2) ah) (ae ah af))) (ae (cZ (dY K rfl) (by rfl) T.dJ L2.bP (ae (Y 7) af)) af))))))))))))))))),?_⟩
  have hP:=X.pl;have dK:(fX M).length=M.las.length:=b_ _;have b9:(iJ M).length=M.trs.length:=b_ _;have l4:=X.ok.l4;obtain⟨us,as,ax⟩:=hP.T;have a2:=Paired.length ax;rw[b9]at a2;refine gH λu1 g=>?_;refine U rfl (rX (aY.of hP.pl) (am (k:=3) rfl) ⟨_,M.trs.length,rfl,.inl ⟨_,aY.of as,by rw[a2]⟩,av (lP ?_)⟩);subst g;refine gH λu1 g=>?_;refine U rfl (U rfl ⟨sc,ns,2,3,rfl,X.sq,X.len,⟨by decide,by decide⟩,⟨by decide,by decide⟩,(M.trs.length:Int),cS ns 2 3,rfl,λH1 s1=>av (lP ?_)⟩);subst g;refine gH λu1 g=>?_;have u:=X.same s1;have bl:=bJ n (show(0:Int)<((fX M).length:Int)by lia);obtain⟨hm,cc,ci⟩:=ix bl.1 bl.2;refine U rfl (rX (aY.of u.pl.pl) (am (k:=2) rfl) (U rfl (U rfl (rX (aY.of u.pl.pl) (am (k:=2) rfl) ⟨_,(fX M).length,rfl,.inl ⟨_,aY.of u.pl.L,by rw[b_]⟩,_,U rfl ⟨rfl,by show(0:Int)<((fX M).length:Int);lia,A.L,_,_,U rfl ⟨rfl,aY.of u.pl.L,ci,av (lP ?_)⟩⟩⟩))));subst g;refine gH λu1 g=>?_;have b4:=bJ (n/4) (show(0:Int)<4 by decide)
  walk_at "a"
  refine⟨by lia,by lia,λD hD=>?_⟩;obtain⟨m,cC,a7,em⟩:∃m:Nat,1<=m/\m<=4/\1+n/4%4=(m:Int):=⟨(1+n/4%4).toNat,by lia,by lia,by lia⟩;rw[em];obtain⟨al,a8,aw⟩:=Fp ns a7;refine ff (K:=K) (lo:=0) (n:=m) (λj Z H'=>aq H1 H'/\H' D=some (.lst Z)/\Z=((fQ ns m).take j).map V.str) ⟨ak (aq.refl _) hD,ag,rfl⟩ ?_ ?_
  ·rintro j Z H2 hj⟨s2,J,rfl⟩;rw[show(0:Int)+(j:Int)=((j:Nat):Int)by lia];refine av (iZ (bo ?_));refine U rfl (U rfl ⟨sc,ns,3,4,rfl,s2.seq u.sq,X.len,⟨by decide,by decide⟩,⟨by decide,by decide⟩,(j:Int),cS ns 3 4,rfl,λH3 s3=>?_⟩);refine⟨s3 _ _ J,by rw[b_,o8,nk];exact sg (MH _ _) (by rw[al];omega),lf hj ⟨bv (s2.trans s3) hD,ag,?_⟩⟩;have e:(fQ ns m)[j]?=some (dq (j:Int) (cS ns 3 4)):=by unfold fQ;rw[i_,List.getElem?_range hj];rfl
   rw[dI e,me];rfl
  ·rintro Z H2⟨s2,J,rfl⟩;rw[oD (Mt al)]at J;refine⟨D,U rfl (.inl ⟨aY.of J,λar ba=>av (lP ?_)⟩)⟩;subst g;refine gH λu1 g=>?_;have s3:aq H1 (aI H2 ar (.tup ((fQ ns m).map V.str))):=ak s2 ba;have aa:aI H2 ar (.tup ((fQ ns m).map V.str)) ar=some (.tup ((fQ ns m).map V.str)):=ag;generalize aI H2 ar (.tup ((fQ ns m).map V.str))=H3 at s3 aa⊢;clear J s2 ba hD;refine⟨ls rfl,λsl a3=>av (lP ?_)⟩;subst g;refine gH λu1 g=>?_;have s4:=ak (o:=.lst []) s3 a3;have ac:=ak (o:=.lst []) (aq.refl H3) a3 _ _ aa;have bb:=u.same s4;have ad:H1 sl=none:=s3.free a3;have an:aI H3 sl (.lst []) sl=some (.lst []):=ag;generalize aI H3 sl (.lst [])=H4 at s4 ac bb an⊢;refine U rfl (U rfl (r2 ⟨sc,ns,5+(M.trs.length:Int),7,rfl,bb.sq,X.len,⟨by exact mu _,by lia⟩,⟨by decide,by decide⟩,av (lP ?_)⟩));subst g;refine gH λu1 g=>?_;generalize cS ns (5+(M.trs.length:Int)) 7=mr;obtain⟨kk,k8,kt,a5⟩:∃k:Nat,k<=8/\k<=M.trs.length/\(if(M.trs.length:Int)<8 then(M.trs.length:Int)else 8)=(k:Int):=⟨min 8 M.trs.length,N4 _ _,MH _ _,by split<;>omega⟩;refine U rfl ⟨_,U rfl (U rfl ⟨by rw[a5];lia,by rw[a5];lia,?_⟩)⟩;rw[a5];have nd:((M.trs.map c5.nm).reverse).Nodup:=List.pairwise_reverse.mpr (List.Pairwise.imp (λh=>rb h) X.ok.tn);have dT:((M.trs.map c5.nm).reverse).length=M.trs.length:=by rw[MW,b_]
   refine lu (lo:=0) (n:=kk) (λi σ H'=>aq H1 H'/\H' ar=some (.tup ((fQ ns m).map V.str))/\∃(I:Of),H' sl=some (.lst (I.map V.str))/\I.Sublist ((M.trs.map c5.nm).reverse.take i)/\∃v9,σ=[some (.ref sc),some (.ref A.pl),some (.int n),some (.int M.trs.length),some (.str (dq M.trs.length (cS ns 2 3))),some (.str hm),some (.ref ar),some (.ref sl),some (.int mr),v9]) ⟨s4,ac,[],an,List.nil_sublist _,_,rfl⟩ ?_ ?_
   ·rintro i σ H5 hi⟨O,l,I,hz,p,v9,rfl⟩N R B hN;have i8:i<8:=pv hi k8;have it:i<M.trs.length:=pv hi kt;refine av ?_;refine U rfl ⟨ls rfl,λl5 cO=>?_⟩;refine jf cO λH6 y c0=>?_;obtain⟨d,hd,ha⟩:=mK (ns:=[1,4,16,64,256,1024,4096,16384]) (i:=0+(i:Int)) (by exact mu _) (by show _<(8:Int);lia);have c1:=(by decide:∀d∈[(1:Int),4,16,64,256,1024,4096,16384],0<d/\d<1073741824) d hd;refine U rfl ⟨l5,_,_,U rfl ⟨rfl,aY.of c0,ha,_,U rfl ⟨rfl,c1,_,U rfl ⟨rfl,(show(0:Int)<4 by decide),rfl,U rfl ?_⟩⟩⟩⟩;have a6:(M.trs.map c5.nm).reverse[i]?=(M.trs.map c5.nm)[M.trs.length-1-i]?:=by rw[List.getElem?_reverse (by rw[b_];exact it),b_]
    obtain⟨t,ht⟩:∃t,M.trs[M.trs.length-1-i]?=some t:=⟨_,h_ (sg (Nat.sub_le _ _) (Nat.sub_lt (Nat.zero_lt_of_lt it) Nat.one_pos))⟩;rw[i_,ht]at a6;refine kN (λ_=>?_) (λ_=>hN _ _ ⟨O.trans y,y _ _ l,I,y _ _ hz,by rw[dI a6];exact p.trans (List.sublist_append_left _ _),_,rfl⟩);have c2:=u.pl.same (O.trans y);obtain⟨v,hv,b,rfl,hb⟩:=qw ax (M.trs.length-1-i) (t.nm,t.arms.length) (by unfold iJ;rw[i_,ht];rfl);have G:=(s1.trans (O.trans y)) _ _ as;have bc:=y _ _ hz;have bi:=n7 p.length_le (MV _ _);refine U rfl ⟨.inl ⟨rfl,_,aY.of bc⟩,U rfl (rX (aY.of c2.pl) (am (k:=3) rfl) (U rfl (r2 (U rfl (r2 ?_)))))⟩;refine rX (aY.of G) (by rw[show(M.trs.length:Int)-1-(0+(i:Int))=((M.trs.length-1-i:Nat):Int)by lia];exact am hv) (rX (aq.tseq (s1.trans (O.trans y)) hb) (am (k:=0) rfl) ?_);refine rA bc (by rw[b_,nk];lia) (hN _ _ ⟨bv (O.trans y) ad,by rw[au λz=>by rw[z,hz]at l;cases l];exact y _ _ l,I++[t.nm],by rw[ag,me];rfl,?_,_,rfl⟩);rw[dI a6];exact p.append (NQ _)
   ·rintro σ H5⟨O,l,I,hz,p,v9,rfl⟩;refine lP ?_;subst g;refine gH λu1 g=>?_;have bt:=u.same O;have c3:=(p.trans (M5 _ _)).nodup nd;have bi:=n7 (n7 p.length_le (MV _ _)) k8;have S:=(s1.trans O) _ _ as;have bz:=CM.kp (.of (s1.trans O)) ax;refine U rfl (rX (aY.of bt.pl.pl) (am (k:=3) rfl) ⟨.inl ⟨rfl,_,aY.of S⟩,U rfl (U rfl ⟨_,m,rfl,.inr ⟨_,aS.of l,by rw[b_,al]⟩,ls rfl,λb hb=>?_⟩)⟩);refine jf hb λH6 y c4=>?_;have G:=y _ _ S;refine rA G (by rw[a2,nk];exact pv h10 (ov rfl)) (lP ?_);subst g;have bS:=(bt.pl.same y).addT G (CM.kp (.of y) bz) (x:=(dq M.trs.length (cS ns 2 3),m)) (aS.of c4);have kp:Kp H6 (aI H6 A.T (.lst (us++[.ref b]))):=.lst G;have hk:∀d ob,H6 d=some ob->d≠A.T->aI H6 A.T (.lst (us++[.ref b])) d=some ob:=λd ob e n=>by rw[au n];exact e
    generalize aI H6 A.T (.lst (us++[.ref b]))=H7 at bS kp hk⊢;have nT:∀{d:Addr},H1 d=none->d≠A.T:=λh z=>by rw[z,u.pl.T.choose_spec.1]at h;cases h
    have b0:=hk _ _ (y _ _ l) (λz=>by rw[z,S]at l;cases l);have da:=hk _ _ (y _ _ hz) (nT ad);refine U rfl (U rfl (U rfl (U rfl (r2 ⟨⟨by decide,by decide⟩,n/16,3,rfl,by decide,by decide,λr rv H8 s8 W ho hh hc=>?_⟩))));refine U rfl ⟨sl,U rfl (.inl ⟨aY.of (s8 _ _ da),λsh dc=>⟨ls rfl,λdv b8=>?_⟩⟩)⟩;obtain⟨ra,rfl⟩:∃ra,rv=.ref ra:=by cases W<;>exact⟨_,rfl⟩
    have s9:=ak (o:=.tup (I.map V.str)) (aq.refl H8) dc;have ap:aI H8 sh (.tup (I.map V.str)) sh=some (.tup (I.map V.str)):=ag;generalize aI H8 sh (.tup (I.map V.str))=H9 at s9 ap b8⊢;have sa:=ak (o:=.tup [.str "trial",.str (dq M.trs.length (cS ns 2 3)),.str hm,.ref ar,.ref ra,.ref sh]) (aq.refl H9) b8;refine q dv (.trial ⟨dq M.trs.length (cS ns 2 3),hm,fQ ns m,r,I,false,false,[]⟩) _ _ ⟨A.T,.inr rfl,Kp.trans (.of ((s1.trans O).trans y)) (Kp.trans kp (.of ((s8.trans s9).trans sa))),λd ob e n=>((s8.trans s9).trans sa) _ _ (hk d ob (((s1.trans O).trans y) _ _ e) n)⟩ (aS.of ag) ?_ ?_ ⟨rfl,by show fQ ns m=fQ ns (fQ ns m).length;rw[al]⟩ λ_=>rfl
    ·exact .trial ⟨sU _ _,cc,by rw[al];exact cC,by rw[al];exact a7,a8,aw,by show r.hgt<=6;omega,bi⟩ (BE X.pn h10) (aS.of (((s8.trans s9).trans sa) _ _ b0)) ((W.kp (.of s9)).kp (.of sa)) (by show r.cnt<=30;omega) ho (λw hw=>CO ((dk rfl:∀w∈Lq,Hl w=true) w hw)) (by decide) (aS.of (sa _ _ ap)) (λz hz=>L8.mp (MM (p.subset hz))) c3 rfl rfl rfl h10
    ·have:=bS.same ((s8.trans s9).trans sa);rw[show sY M (.trial ⟨dq M.trs.length (cS ns 2 3),hm,fQ ns m,r,I,false,false,[]⟩)=iJ M++[(dq M.trs.length (cS ns 2 3),m)]by show iJ M++[(_,(fQ ns m).length)]=_;rw[al]];exact this
end
inductive Dj(K:N_)(vs:List V)(H:Hp)(Q:VK)(_E:XK):Prop|mk(sc:Addr)(ns:Ol)(M:bD)(A:xM)(c:Nat)(k n:Int)(_:vs=[.ref sc,.ref A.pl,.int k,.int n])(_:uX K H sc ns M A c)(_:(0<=k/\k<=1000))(_:0<M.trs.length)(_:iy K ns M A H Q)
def uX.tri(h:uX K H l ns M A c)(h1:H A.T=some (.lst d))(h2:Paired (CM K H) d (iJ M))(n:Int)(h0:0<M.trs.length):∃(t:c5)(b:Addr),t∈M.trs/\vq d (n%(d.length:Int))=some (.ref b)/\aS K H b [.str t.nm,.int t.arms.length]:=by
 have e:=Paired.length h2;rw[show(iJ M).length=M.trs.length from b_ _]at e;have b:=bJ n (show(0:Int)<(d.length:Int)by lia);have f:(n%(d.length:Int)).toNat<M.trs.length:=by lia
 obtain⟨v,g,i,rfl,j⟩:=qw h2 (n%(d.length:Int)).toNat _ (by unfold iJ;rw[i_,h_ f];rfl);refine⟨_,i,t_ f,?_,j⟩;have:=am g;rw[show(((n%(d.length:Int)).toNat:Nat):Int)=n%(d.length:Int)by lia]at this;exact this
section
def B5(T:Txt K mg a):aT P w K mg base dR 3 a.qV.x a.qV.d ["_law_script","_law_plan_here","_law_k","_law_number"] (Dj K):=by
 refine T.qV.ok mW λad A outer s H vs Q E hr h=>?_
 ·obtain⟨sc,ns,M,A,c,k,n,rfl,r,⟨k0,k1⟩,h0,q⟩:=h;refine⟨_,(ai (bj 4 mW.nd (gG K (gG K (Y 1) ah) (az aV (Y 3) (aA (aJ K rfl) (by rfl) T.bF L2.aL (ae (gG K (Y 1) ah) af))))) (ai (oC (i:=5) mW.nd rfl (.inr rfl) (az bR (az bu (gG K (Y 1) ah) ah) ah)) (ai (aM (aE aU (az aV (az bu (Y 3) ah) ah) ah (aG _)) (ai (bj 6 mW.nd (cZ (dY K rfl) (by rfl) T.dJ L2.bP (ae (sQ mQ ["_law_j"] [] [7] (ao pC) (bY 7) (cY rfl T.eh (ae (cQ K (Y 4) ah) af)) (λcl C s₀ H₀ ex=>⟨(nA mQ ["_law_j"] 7),ck,(az bR ah (az aV (pc T.eE (cM T) hr (ae (Y 0) (ae (Y 2) (ae (az bR ah (Y 7)) af)))) ah))⟩)) af))) (aj (aB (aR (ae ay (ae (cQ K (Y 4) ah) (ae (az aV (pc T.eE (cM T) hr (ae (Y 0) (ae (Y 2) (ae ah af)))) (az bR (gG K (Y 1) ah) ah)) (ae (Y 6) af)))))))) aF) (aj (aB (aR (ae ay (ae (cQ K (Y 4) ah) (ae (cZ (dY K rfl) (by rfl) T.dJ L2.bP (ae (sQ mQ ["_law_j"] [] [7] (ao pC) (bY 7) (cY rfl T.eh (ae (cQ K (Y 4) ah) af)) (λcl C s₀ H₀ ex=>⟨(nA mQ ["_law_j"] 7),ck,(az aV (pc T.eE (cM T) hr (ae (Y 0) (ae (Y 2) (ae (az bR ah (Y 7)) af)))) (Y 5))⟩)) af)) af))))))))),?_⟩
  have J:=r.pl;have hp:=r.pn.pr.le;have al:=qm;obtain⟨us,L,X⟩:=J.T;have aa:=Paired.length X;rw[show(iJ M).length=M.trs.length from b_ _]at aa;obtain⟨t,b,B,ac,hb⟩:=r.tri L X n h0;have a1:=(r.ok.tr t B).a1;have a4:=(r.ok.tr t B).a4;refine gH λu1 O=>?_;refine U rfl (rX (aY.of J.pl) (am (k:=3) rfl) (U rfl (U rfl (rX (aY.of J.pl) (am (k:=3) rfl) ⟨_,us.length,rfl,.inl ⟨_,aY.of L,rfl⟩,_,U rfl ⟨rfl,by show(0:Int)<(us.length:Int);lia,A.T,_,_,U rfl ⟨rfl,aY.of L,ac,av (lP ?_)⟩⟩⟩))));subst O;refine gH λu1 O=>?_;refine U rfl (rX (aY.of J.pl) (am (k:=0) rfl) (r2 ⟨⟨by decide,by decide⟩,_,U rfl ⟨rfl,av (lP ?_)⟩⟩));subst O;refine qI ?_ (λN hN=>?_)
  rotate_left
  ·walk_at "a"
   refine kN (λ_=>?_) (λ_=>hN);refine U rfl (rX hb (am (k:=1) rfl) (U rfl ⟨by exact mu _,by lia,λD Z=>?_⟩));refine ff (K:=K) (lo:=0) (n:=(t.arms.length:Int).toNat) (λj f H'=>aq H H'/\H' D=some (.lst f)/\∃(e:Ol),f=e.map V.int/\e.length=j/\∀x∈e,1<=x/\x<=9) ⟨ak (aq.refl _) Z,ag,[],rfl,rfl,λx v=>nomatch v⟩ ?_ ?_
   ·rintro j f R hj⟨F,l,e,rfl,m,g⟩;refine av (iZ (bo ?_));have b9:=bJ (cS ns k (11+(0+(j:Int)))) (show(0:Int)<9 by decide);refine U rfl (U rfl (U rfl (r2 ⟨sc,ns,k,11+(0+(j:Int)),rfl,F.seq r.sq,r.len,⟨by omega,by lia⟩,⟨by exact mu _,by lia⟩,_,U rfl ⟨rfl,(show(0:Int)<9 by decide),_,U rfl ⟨rfl,?_⟩⟩⟩)));refine⟨l,by rw[b_,nk];lia,lf hj ⟨bv F Z,ag,e++[1+cS ns k (11+(0+(j:Int)))%9],by rw[me];rfl,by rw[k_,m];rfl,λx v=>?_⟩⟩;rcases Ny.mp v with z|z
    ·exact g x z
    ·rw[List.mem_singleton.mp z];lia
   ·rintro f R⟨F,l,e,rfl,m,g⟩;refine⟨D,U rfl (.inl ⟨aY.of l,λG S=>av ?_⟩)⟩;have y:=ak (o:=.tup (e.map V.int)) F S;have u:aI R G (.tup (e.map V.int)) G=some (.tup (e.map V.int)):=ag;generalize aI R G (.tup (e.map V.int))=H3 at y u⊢;have bz:=bJ (cS ns k 10) (show(0:Int)<(M.p:Int)+1 by exact t6.mpr (rV _));refine U rfl (rX (aq.tseq y hb) (am (k:=0) rfl) (U rfl (U rfl ⟨sc,ns,k,10,rfl,y.seq r.sq,r.len,⟨by omega,by lia⟩,⟨by decide,by decide⟩,U rfl (rX (aY.of (y _ _ J.pl)) (am (k:=0) rfl) (r2 (r2 ⟨by show(0:Int)<(M.p:Int)+1;exact t6.mpr (rV _),U rfl ⟨ls rfl,λdv I=>?_⟩⟩)))⟩)));have W:=ak (o:=.tup [.str "deal",.str t.nm,.int (cS ns k 10%((M.p:Int)+1)),.ref G]) (aq.refl H3) I;exact q dv (.deal t _ e) _ _ (.of (y.trans W)) (aS.of ag) (.deal B ⟨bz.1,by lia⟩ (aS.of (W _ _ u)) (by exact m) λx v=>⟨(g x v).1,by have:=(g x v).2;lia⟩) (J.same (y.trans W)) trivial λz=>absurd z (qr h0)
  ·refine U rfl (rX hb (am (k:=0) rfl) (U rfl (rX hb (am (k:=1) rfl) (U rfl ⟨by exact mu _,by lia,λD Z=>?_⟩))));refine ff (K:=K) (lo:=0) (n:=(t.arms.length:Int).toNat) (λj f H'=>aq H H'/\H' D=some (.lst f)/\∃(e:Ol),f=e.map V.int/\e.length=j/\∀x∈e,0<=x) ⟨ak (aq.refl _) Z,ag,[],rfl,rfl,λx v=>nomatch v⟩ ?_ ?_
   ·rintro j f R hj⟨F,l,e,rfl,m,g⟩;refine av (iZ (bo ?_));have b9:=bJ (cS ns k (11+(0+(j:Int)))) (show(0:Int)<(M.p:Int)/2+2 by exact t6.mpr (rV _));refine U rfl (U rfl (U rfl (r2 ⟨sc,ns,k,11+(0+(j:Int)),rfl,F.seq r.sq,r.len,⟨by omega,by lia⟩,⟨by exact mu _,by lia⟩,U rfl (r2 ⟨(by show(0:Int)<(M.p:Int)/2+2;exact t6.mpr (rV _)),?_⟩)⟩)));refine⟨l,by rw[b_,nk];lia,lf hj ⟨bv F Z,ag,e++[cS ns k (11+(0+(j:Int)))%((M.p:Int)/2+2)],by rw[me];rfl,by rw[k_,m];rfl,λx v=>?_⟩⟩;rcases Ny.mp v with z|z
    ·exact g x z
    ·rw[List.mem_singleton.mp z];exact b9.1
   ·rintro f R⟨F,l,e,rfl,m,g⟩;refine⟨D,U rfl (.inl ⟨aY.of l,λG S=>⟨ls rfl,λdv I=>?_⟩⟩)⟩;have y:=ak (o:=.tup (e.map V.int)) F S;have u:aI R G (.tup (e.map V.int)) G=some (.tup (e.map V.int)):=ag;generalize aI R G (.tup (e.map V.int))=H3 at y u I⊢;have W:=ak (o:=.tup [.str "share",.str t.nm,.ref G]) (aq.refl H3) I;exact q dv (.share t e) _ _ (.of (y.trans W)) (aS.of ag) (.share B (aS.of (W _ _ u)) (by exact m) g) (J.same (y.trans W)) trivial λz=>absurd z (qr h0)
end
def rH(F G:Prop)(hc:∀Q:Bool->Hp->Prop,(F->Q true H)->(G->Q false H)->c d H Q)(h1:F->∀N:St->Hp->Prop,t {D with nx:=N} d H)(h2:G->u D d H):tf (FG c t x4) u D d H:=hc _ (λf=>bo (h1 f _)) λg=>bX (h2 g)
def za{c:Prop}[Decidable c]{Q:Bool->Hp->Prop}{H:Hp}(h1:c->Q true H)(h2:¬c->Q false H):Q (decide c) H:=by
 by_cases e:c
 ·rw[ol e];exact h1 e
 ·rw[op e];exact h2 e
def LS{te:TE}{g:TG}{u:TS}{D:j3}{c:St}(h1:∀Q:VK,(∀b,Q (.bl b) H)->te c H Q)(h2:∀b,g (.bl b) c H (u D)):tf (wL te g) u D c H:=h1 _ h2
inductive F2(K:N_)(vs:List V)(H:Hp)(Q:VK)(_E:XK):Prop|mk(sc:Addr)(ns:Ol)(M:bD)(A:xM)(c:Nat)(k:Int)(_:vs=[.ref sc,.ref A.pl,.int k])(_:uX K H sc ns M A c)(_:(0<=k/\k<=1000))(_:iy K ns M A H Q)
section
def D1(T:Txt K mg a):aT P w K mg base dR 6 a.wH.x a.wH.d ["_law_script","_law_plan_here","_law_k"] (F2 K):=by
 refine T.wH.ok kf λal A outer s H vs Q E G h=>?_
 ·obtain⟨R,ns,M,A,c,k,rfl,y,⟨k0,k1⟩,q0⟩:=h;refine⟨_,(ai (bj 3 kf.nd (pc T.eE (cM T) G (ae (Y 0) (ae (Y 2) (ae ah af))))) (ai (bj 4 kf.nd (az bu (Y 3) ah)) (ai (bj 5 kf.nd (pc T.mS (qA T) G (ae (az aV (Y 4) ah) (ae (pc T.eE (cM T) G (ae (Y 0) (ae ah (ae ah af)))) af)))) (ai (aM (PW.pt (fb (aE aU (aA (aJ K rfl) (by rfl) T.bF L2.aL (ae (gG K (Y 1) ah) af)) ah (aG _)) (dL (PW.pt (my (aE aU (az aV (Y 3) ah) ah (aG _)) (jC (aE vT (aA (aJ K rfl) (by rfl) T.bF L2.aL (ae (gG K (Y 1) ah) af)) (aA (qM rfl) (by rfl) T.D9 L2.uL (ae (az bR (gG K (Y 1) ah) ah) (ae ah af))) (aG _)))))))) (aj (aB (pc T.gY (vg T) G (ae (Y 0) (ae (Y 1) af))))) aF) (ai (bj 6 kf.nd (cp (bB vT (Y 2) ah (aG _)) (c8 (bB vT (az aV (Y 3) ah) ah (aG _))))) (ai (aM (PW.pt (fb (aE aU (aA (aJ K rfl) (by rfl) T.bF L2.aL (ae (gG K (Y 1) ah) af)) ah (aG _)) (dL (PW.pt (my (aE vT (aA (aJ K rfl) (by rfl) T.bF L2.aL (ae (gG K (Y 1) ah) af)) ah (aG _)) (jC (PW.pt (fb (aQ K rfl (Y 6) (λ_=>rfl)) (dL (aE aU (az aV (Y 3) ah) ah (aG _))))))))))) (aj (aB (pc T.gX (vf T) G (ae (Y 0) (ae (Y 1) (ae (Y 4) af)))))) aF) (ai (aM (aE vT (az aV (Y 3) ah) ah (aG _)) (aj (aB (pc T.qV (B5 T) G (ae (Y 0) (ae (Y 1) (ae (Y 2) (ae (Y 4) af))))))) aF) (ai (bj 7 kf.nd (cQ K (gG K (gG K (Y 1) ah) (az aV (az bu (Y 4) ah) (aA (aJ K rfl) (by rfl) T.bF L2.aL (ae (gG K (Y 1) ah) af)))) ah)) (ai (aM (aE aU (az aV (Y 3) ah) ah (aG _)) (aj (aB (aR (ae ay (ae (gG K (gG K (Y 1) ah) (az aV (Y 4) (aA (aJ K rfl) (by rfl) T.bF L2.aL (ae (gG K (Y 1) ah) af)))) (ae (az aV (az bu (Y 4) ah) (az bR (az bu (gG K (Y 1) ah) ah) ah)) af)))))) aF) (ai (aM (aE aU (az aV (Y 3) ah) ah (aG _)) (aj (aB (aR (ae (gG K (bh (ae ay (ae ay (ae ay af)))) (az aV (Y 4) ah)) (ae (Y 7) af))))) aF) (ai (aM (aE aU (az aV (Y 3) ah) ah (aG _)) (aj (aB (aR (ae (gG K (bh (ae ay (ae ay (ae ay (ae ay af))))) (az aV (Y 4) ah)) (ae (Y 7) af))))) aF) (ai (aM (aE aU (az aV (Y 3) ah) ah (aG _)) (aj (aB (aR (ae ay (ae (Y 5) (ae (Y 7) af)))))) aF) (aj (aB (aR (ae ay (ae (Y 5) (ae (pc T.qW (B6 T) G (ae (az bu (Y 4) ah) af)) af)))))))))))))))))),?_⟩
  refine gH λu1 n=>?_;refine U rfl (U rfl ⟨R,ns,k,5,rfl,y.sq,y.len,⟨by omega,by lia⟩,⟨by decide,by decide⟩,av (lP ?_)⟩);subst n;refine gH λu1 n=>?_;have x0:=(Bf ns k 5).1;generalize cS ns k 5=x at x0⊢;refine U rfl (r2 ⟨⟨by decide,by decide⟩,av (lP ?_)⟩);subst n;refine gH λu1 n=>?_;refine U rfl (r2 ⟨(show(0:Int)<7 by decide),U rfl ⟨R,ns,4,6,rfl,y.sq,y.len,⟨by decide,by decide⟩,⟨by decide,by decide⟩,x/16%7,cS ns 4 6,rfl,λg H1 s1 hg=>av (lP ?_)⟩⟩);subst n;have O:=y.same s1;have q:=q0.same s1;clear y q0 s1;have i:=O.pl;have hp:=O.pn.pr.le;obtain⟨us,D,S⟩:=i.T;have aa:=Paired.length S;rw[show(iJ M).length=M.trs.length from b_ _]at aa;have W:((fX M).map V.str).length=M.las.length:=by rw[b_];exact b_ _
  refine rH (M.las.length<4/\M.las.length<M.p+1) (0<M.las.length) (λQ r u=>?_) (λf N=>?_) (λh0=>?_)
  ·refine U rfl (rX (aY.of i.pl) (am (k:=2) rfl) ⟨_,M.las.length,rfl,.inl ⟨_,aY.of i.L,W.symm⟩,rfl,U rfl (kN (λe=>r ⟨by lia,by lia⟩) (λe=>?_))⟩);refine U rfl (r2 ⟨(show(0:Int)<16 by decide),rfl,U rfl (kN (λ_=>?_) (λ_=>u (by lia)))⟩);refine U rfl (rX (aY.of i.pl) (am (k:=2) rfl) ⟨_,M.las.length,rfl,.inl ⟨_,aY.of i.L,W.symm⟩,U rfl (rX (aY.of i.pl) (am (k:=0) rfl) (r2 ⟨(M.p:Int)+1,4,rfl,r2 (U rfl (za (λf=>r ?_) (λ_=>u (by lia))))⟩))⟩)
   split at f<;>lia
  ·exact U rfl (U rfl ⟨R,ns,M,A,c,rfl,O,f.1,f.2,q⟩)
  refine LS (λQ h=>?_) (λeb=>av ?_)
  ·refine U rfl (r2 (U rfl (lO (λ_=>?_) (λ_=>h _))));exact U rfl (r2 ⟨(show(0:Int)<16 by decide),_,U rfl ⟨rfl,h _⟩⟩)
  refine rH (M.trs.length<10) (0<M.trs.length) (λQ r u=>?_) (λf N=>?_) (λF=>?_)
  ·refine U rfl (rX (aY.of i.pl) (am (k:=3) rfl) ⟨_,us.length,rfl,.inl ⟨_,aY.of D,rfl⟩,rfl,U rfl (kN (λe=>r (by lia)) (λe=>?_))⟩);have g0:0<M.trs.length:=by lia
   refine U rfl (rX (aY.of i.pl) (am (k:=3) rfl) ⟨_,us.length,rfl,.inl ⟨_,aY.of D,rfl⟩,_,U rfl ⟨rfl,U rfl (lO (λe=>?_) (λ_=>u g0))⟩⟩);have f:=r (by lia);refine U rfl ⟨eb,rfl,xl (λ_=>f) (λ_=>?_)⟩;exact U rfl (r2 ⟨(show(0:Int)<16 by decide),rfl,U rfl (za (λ_=>f) (λ_=>u g0))⟩)
  ·exact U rfl (U rfl (U rfl ⟨R,ns,M,A,c,x/16,rfl,O,f,h0,q⟩))
  refine rH True True (λQ r u=>?_) (λ_ N=>?_) (λ_=>?_)
  ·exact U rfl (r2 ⟨(show(0:Int)<16 by decide),_,U rfl ⟨rfl,U rfl (za (λ_=>r trivial) (λ_=>u trivial))⟩⟩)
  ·exact U rfl (U rfl (U rfl (U rfl ⟨R,ns,M,A,c,k,x/16,rfl,O,⟨k0,k1⟩,F,q⟩)))
  obtain⟨t,b,B,ac,hb⟩:=O.tri D S (x/16/7) F;refine gH λu1 n=>?_;refine U rfl (rX (aY.of i.pl) (am (k:=3) rfl) (U rfl (r2 ⟨⟨by decide,by decide⟩,U rfl (rX (aY.of i.pl) (am (k:=3) rfl) ⟨_,us.length,rfl,.inl ⟨_,aY.of D,rfl⟩,_,U rfl ⟨rfl,by show(0:Int)<(us.length:Int);lia,A.T,_,_,U rfl ⟨rfl,aY.of D,ac,rX hb (am (k:=0) rfl) (av (lP ?_))⟩⟩⟩)⟩)));subst n;refine rH True True (λQ r u=>?_) (λ_ N=>?_) (λ_=>?_)
  ·exact U rfl (r2 ⟨(show(0:Int)<16 by decide),rfl,U rfl (za (λ_=>r trivial) (λ_=>u trivial))⟩)
  ·have an:(fX M).length=M.las.length:=b_ _;have bl:=bJ (x/16) (show(0:Int)<((fX M).length:Int)by lia);have bz:=bJ (x/16/4) (show(0:Int)<(M.p:Int)/3+2 by exact t6.mpr (rV _));obtain⟨nm,ad,X⟩:=ix bl.1 bl.2;obtain⟨l,hl,rfl⟩:=oi.mp ad;refine U rfl (rX (aY.of i.pl) (am (k:=2) rfl) (U rfl (U rfl (rX (aY.of i.pl) (am (k:=2) rfl) ⟨_,(fX M).length,rfl,.inl ⟨_,aY.of i.L,by rw[b_]⟩,_,U rfl ⟨rfl,by show(0:Int)<((fX M).length:Int);lia,A.L,_,_,U rfl ⟨rfl,aY.of i.L,X,?_⟩⟩⟩))));refine U rfl (r2 ⟨⟨by decide,by decide⟩,U rfl (rX (aY.of i.pl) (am (k:=0) rfl) (r2 ⟨⟨by decide,by decide⟩,_,U rfl ⟨rfl,r2 ⟨by show(0:Int)<(M.p:Int)/3+2;exact t6.mpr (rV _),ls rfl,λC m=>?_⟩⟩⟩))⟩);have j:=ak (o:=.tup [.str "hold",.str l.nm,.int (x/16/4%((M.p:Int)/3+2))]) (aq.refl H1) m;exact q C (.hold l _) _ _ (.of j) (aS.of ag) (.hold hl bz.1) (i.same j) trivial λz=>absurd z (qr F)
  refine rH True True (λQ r u=>?_) (λ_ N=>?_) (λ_=>?_)
  ·exact U rfl (r2 ⟨(show(0:Int)<16 by decide),rfl,U rfl (za (λ_=>r trivial) (λ_=>u trivial))⟩)
  ·refine⟨ls rfl,λl1 I=>?_⟩;refine jf I λZ v J=>?_;have bm:=bJ (x/16) (show(0:Int)<3 by decide);obtain⟨z,hz,X⟩:=ix (zs:=["pause","go","go"]) bm.1 bm.2;refine U rfl (r2 ⟨(show(0:Int)<3 by decide),l1,_,_,U rfl ⟨rfl,aY.of J,X,U rfl ⟨ls rfl,λC m=>?_⟩⟩⟩);have j:=ak (o:=.tup [.str z,.str t.nm]) (aq.refl Z) m;simp only[tA,rl,Mj]at hz;rcases hz with rfl|rfl|rfl
   ·exact q C (.pause t true) _ _ (.of (v.trans j)) (aS.of ag) (.pause B) (i.same (v.trans j)) trivial λz=>absurd z (qr F)
   all_goals exact q C (.pause t false) _ _ (.of (v.trans j)) (aS.of ag) (.go B) (i.same (v.trans j)) trivial λz=>absurd z (qr F)
  refine rH True True (λQ r u=>?_) (λ_ N=>?_) (λ_=>?_)
  ·exact U rfl (r2 ⟨(show(0:Int)<16 by decide),rfl,U rfl (za (λ_=>r trivial) (λ_=>u trivial))⟩)
  ·refine⟨ls rfl,λl1 I=>?_⟩;refine jf I λZ v J=>?_;have bm:=bJ (x/16) (show(0:Int)<4 by decide);obtain⟨z,hz,X⟩:=ix (zs:=["close","pause","go","go"]) bm.1 bm.2;refine U rfl (r2 ⟨(show(0:Int)<4 by decide),l1,_,_,U rfl ⟨rfl,aY.of J,X,U rfl ⟨ls rfl,λC m=>?_⟩⟩⟩);have j:=ak (o:=.tup [.str z,.str t.nm]) (aq.refl Z) m;simp only[tA,rl,Mj]at hz;rcases hz with rfl|rfl|rfl|rfl
   ·exact q C (.close t) _ _ (.of (v.trans j)) (aS.of ag) (.close B) (i.same (v.trans j)) trivial λz=>absurd z (qr F)
   ·exact q C (.pause t true) _ _ (.of (v.trans j)) (aS.of ag) (.pause B) (i.same (v.trans j)) trivial λz=>absurd z (qr F)
   all_goals exact q C (.pause t false) _ _ (.of (v.trans j)) (aS.of ag) (.go B) (i.same (v.trans j)) trivial λz=>absurd z (qr F)
  refine rH True True (λQ r u=>?_) (λ_ N=>?_) (λ_=>?_)
  ·exact U rfl (r2 ⟨(show(0:Int)<16 by decide),rfl,U rfl (za (λ_=>r trivial) (λ_=>u trivial))⟩)
  ·refine U rfl (U rfl ⟨ls rfl,λC m=>?_⟩);have j:=ak (o:=.tup [.str "bar",.str g,.str t.nm]) (aq.refl H1) m;exact q C (.bar g t) _ _ (.of j) (aS.of ag) (.bar hg B) (i.same j) trivial λz=>absurd z (qr F)
  refine U rfl (U rfl (r2 ⟨⟨by decide,by decide⟩,x/16/7,rfl,λmt ms Z v hm h3 h4 h5=>⟨ls rfl,λC m=>?_⟩⟩));have j:=ak (o:=.tup [.str "visit",.str g,.ref mt]) (aq.refl Z) m;exact q C (.visit g) _ _ (.of (v.trans j)) (aS.of ag) (.visit hg (hm.kp (.of j)) h3 h4 h5) (i.same (v.trans j)) trivial λz=>absurd z (qr F)
end
def XE(K:N_)(a:fV)(H:Hp)(E:XK):Prop:=∀C H',lM K C a.cO->aq H H'->E (.ref C) none H'
def XE.same{E:XK}(h:XE K a H E)(s:aq H H'):XE K a H' E:=λC b u c=>h C b u (s.trans c)
inductive FZ(K:N_)(a:fV)(vs:List V)(H:Hp)(Q:VK)(E:XK):Prop|mk(v:V)(_:vs=[v])(_:((rP K H v/\XE K a H E)\/∃(d:Addr)(k:Str)(xs:List V)(n:Int),v=.ref d/\aS K H d (.str k::xs)/\(∃tk,PySem.W.nsIn K a.fD k=some (some (.int n tk)))/\(n=(xs.length:Int)+1->Q .non H)/\(n≠(xs.length:Int)+1->XE K a H E)))
inductive De(K:N_)(a:fV)(vs:List V)(H:Hp)(Q:VK)(E:XK):Prop|mk(kvs:List (bQ×V))(x:Str)(d:Addr)(_:vs=[.str x,.ref d])(_:Wd x)(_:H d=some (.dK kvs))(_:(bn kvs (.inr x)=none->∀H',aq H H'->Q .non H'))(_:((bn kvs (.inr x)).isSome=true->XE K a H E))
inductive Dh(K:N_)(a:fV)(vs:List V)(H:Hp)(Q:VK)(E:XK):Prop|mk(kvs:List (bQ×V))(x:Str)(d:Addr)(_:vs=[.str x,.ref d])(_:Wd x)(_:H d=some (.dK kvs))(_:((bn kvs (.inr x)).isSome=true->∀H',aq H H'->Q .non H'))(_:(bn kvs (.inr x)=none->XE K a H E))
inductive F9(K:N_)(a:fV)(vs:List V)(H:Hp)(Q:VK)(E:XK):Prop|mk(p:Addr)(l:Of)(_:vs=[.ref p])(_:aS K H p (l.map V.str))(_:(∀w∈l,Wd w))(_:1<=l.length)(_:l.length<=4)(_:(l.Nodup->∀H',aq H H'->Q .non H'))(_:(¬l.Nodup->XE K a H E))
inductive Iy(vs:List V)(H:Hp)(Q:VK)(_E:XK):Prop|mk(x:_)(_:vs=[.str x])(_:x.length<=60)(_:∀H',aq H H'->Q (.bl (pG gy 24 x)) H')
inductive BO(K:N_)(a:fV)(vs:List V)(H:Hp)(Q:VK)(E:XK):Prop|mk(x:_)(_:vs=[.str x])(_:x.length<=60)(_:(pG gy 24 x=true->∀H',aq H H'->Q .non H'))(_:(pG gy 24 x=false->XE K a H E))
def Bt(K:N_)(H:Hp)(v:V):Prop:=rP K H v\/∃l:List (Str×Int),qS K H l v/\(∀m∈l,Wd m.1/\-cJ<=m.2/\m.2<=cJ)/\¬(l.map Prod.fst).Nodup/\l.length<=8
def Bz{v:V}{u:Value}(s:aq H H')(ty:kW K H v u):kW K H' v u:=by cases ty with|non=>exact .non|bl x=>exact .bl x|int i=>exact .int i|str x=>exact .str x|flt x=>exact .flt x|lst e=>exact .lst (s _ _ e)|frz e=>exact .frz (s _ _ e)|tup e=>exact .tup (s _ _ e)|dK e=>exact .dK (s _ _ e)|dT e=>exact .dT (s _ _ e)|ins e h1 h2 h3 h4 h5=>exact .ins (s _ _ e) h1 h2 h3 h4 h5
def rP.same{v:V}(s:aq H H')(h:rP K H v):rP K H' v:=h.imp λ_ q=>⟨Bz s q.1,q.2⟩
theorem Bt.same{v:V}(s:aq H H')(h:Bt K H v):Bt K H' v:=h.imp (·.same s) λq=>q.imp λ_ q=>⟨q.1.kp (.of s),q.2⟩
inductive BN(K:N_)(a:fV)(vs:List V)(H:Hp)(Q:VK)(E:XK):Prop|mk(v:V)(_:vs=[v])(_:((rP K H v/\XE K a H E)\/∃l:List (Str×Int),qS K H l v/\(∀m∈l,Wd m.1/\-cJ<=m.2/\m.2<=cJ)/\l.length<=8/\((l.map Prod.fst).Nodup->∀H',aq H H'->Q .non H')/\(¬(l.map Prod.fst).Nodup->XE K a H E)))
inductive Dq(vs:List V)(H:Hp)(Q:VK)(_E:XK):Prop|mk(z:Int)(_:vs=[.int z])(_:Q (.bl (decide (0<=z))) H)
inductive BP(K:N_)(a:fV)(vs:List V)(H:Hp)(Q:VK)(E:XK):Prop|mk(z:Int)(_:vs=[.int z])(_:(0<=z->Q .non H))(_:(z<0->XE K a H E))
inductive C9(vs:List V)(H:Hp)(Q:VK)(_E:XK):Prop|mk(z:Int)(_:vs=[.int z])(_:0<=z)(_:Q (.bl (decide (z<=1000))) H)
inductive Dx(K:N_)(a:fV)(vs:List V)(H:Hp)(Q:VK)(E:XK):Prop|mk(x y:V)(z:Int)(_:vs=[.int z,x,y])(_:0<=z)(_:(z<=1000->∃(p:Addr)(l:Ol),x=.ref p/\y=.int (l.length:Nat)/\aS K H p (l.map V.int)/\(∀i∈l,1<=i/\i<=cJ)/\l.length<=100/\∀H',aq H H'->Q .non H'))(_:(1000<z->XE K a H E))
inductive zB(K:N_)(a:fV)(vs:List V)(H:Hp)(Q:VK)(E:XK):Prop|mk(p:Addr)(n:Nat)(_:vs=[.ref p,.int n])(_:((∃us,aS K H p us/\us.length≠n/\us.length<=100/\XE K a H E)\/∃l:List Int,n=l.length/\aS K H p (l.map V.int)/\(∀i∈l,0<=i)/\l.length<=100/\∀H',aq H H'->Q .non H'))
def Jc{c A B:Prop}[Decidable c](h1:c->B)(h2:¬c->A):if(!decide c)=true then A else B:=by
 by_cases e:c
 ·rw[ol e];exact bX (h1 e)
 ·rw[op e];exact bo (h2 e)
section
def uj(T:Txt K mg a)(f:w.params=a.pm):aT P w K mg base (oS P w) 1 a.fi.x a.fi.d ["deed"] (FZ K a):=by
 refine T.fi.okE u7 λg A outer s H m Q E o h=>?_
 ·obtain⟨v,rfl,h⟩:=h;refine⟨_,(ai (aM (PW.pt (fb (cf (aQ K rfl (aA (fm K rfl) (by rfl) T.bW L2.bp (ae (Y 0) (ae (lG rfl T.dJ L2.bP) af))) (λ_=>rfl))) (dL (aE aU (aA (aJ K rfl) (by rfl) T.bF L2.aL (ae (Y 0) af)) ah (aG _))))) (aj (eO T.wm rfl T.yS rfl eM (ae ay af))) aF) (aj (aM (PW.pt (fb (cf (aQ K rfl (aA (nj K rfl) (by rfl) T.bW L2.bp (ae (cQ K (Y 0) ah) (ae (lG rfl T.Hw L2.zm) af))) (λ_=>rfl))) (dL (aE A9 (Go K rfl (LL f T.Ag) rfl T.Ce (cQ K (Y 0) ah) ⟨rfl,rfl,rfl,rfl⟩) (aA (aJ K rfl) (by rfl) T.bF L2.aL (ae (Y 0) af)) (aG _))))) (aj (eO T.wm rfl T.yS rfl eM (ae ay af))) aF))),?_⟩
  rcases h with⟨⟨p,ty,i⟩,q⟩|⟨d,k,c,n,rfl,b,⟨tk,j⟩,q,l⟩
  ·exact U rfl ⟨_,"tuple",_,false,rfl,.inl ty,i,false,rfl,bo (bo ⟨ls rfl,q _ _ T.ik (aq.refl H)⟩)⟩
  refine U rfl ⟨_,"tuple",_,true,rfl,.inr ⟨d,U rfl ⟨b,rfl⟩⟩,fJ (dk rfl),true,rfl,bX ?_⟩;refine U rfl ⟨_,U rfl ⟨.inr ⟨_,b,rfl⟩,rfl,U rfl (kN (λh=>absurd h (by rw[pw];lia)) (λ_=>?_))⟩⟩;refine U rfl (rX b (am (k:=0) rfl) ?_);refine⟨_,"str",_,true,rfl,.str k,fJ (dk rfl),true,rfl,bX ?_⟩;refine U rfl (rX b (am (k:=0) rfl) ⟨k,U rfl ⟨j,.inr ⟨_,.int n,rfl,⟨tk,rfl⟩,?_⟩⟩⟩);refine U rfl ⟨_,U rfl ⟨.inr ⟨_,b,rfl⟩,rfl,U rfl ?_⟩⟩
  by_cases e:n=(c.length:Int)+1
  ·rw[ol (show V.int n=V.int (((V.str k::c).length:Nat):Int)by rw[e];simp)];exact bX (q e)
  ·rw[op (show¬V.int n=V.int (((V.str k::c).length:Nat):Int)fromλz=>e (by have:=V.int.inj z;simpa using this))];exact bo ⟨ls rfl,l e _ _ T.ik (aq.refl H)⟩
def nS(T:Txt K mg a):aT P w K mg base (oS P w) 4 a.dP.x a.dP.d ["thing","names"] (De K a):=by
 refine T.dP.okE wR λg A outer s H l Q E e h=>?_
 ·obtain⟨b,x,d,rfl,h1,h2,q,i⟩:=h;refine⟨_,(ai (aZ (pc T.fg (jU T) e (ae (Y 0) af))) (aj (aM (mz (zR (cb e) (Y 0) (Y 1)) rfl) (aj (eO T.EX rfl T.GG rfl eM (ae ay af))) aF))),?_⟩
  refine U rfl ⟨x,rfl,h1,λj c=>?_⟩;refine U rfl (U rfl (rG (bn b (.inr x)) (dH.k (k:=.inr x) (c _ _ h2)) (U rfl ?_)));cases f:bn b (.inr x)with|none=>exact bX (q f j c)|some v=>exact bo ⟨ls rfl,i (by rw[f];rfl) _ _ T.nz c⟩
def d8(T:Txt K mg a):aT P w K mg base (oS P w) 4 a.aN.x a.aN.d ["thing","names"] (Dh K a):=by
 refine T.aN.okE jv λg A outer s H l Q E e h=>?_
 ·obtain⟨b,x,d,rfl,h1,h2,q,i⟩:=h;refine⟨_,(ai (aZ (pc T.fg (jU T) e (ae (Y 0) af))) (aj (aM (mz (kC (cb e) (Y 0) (Y 1)) rfl) (aj (eO T.As rfl T.Cc rfl eM (ae ay af))) aF))),?_⟩
  refine U rfl ⟨x,rfl,h1,λj c=>?_⟩;refine U rfl (U rfl (rG (bn b (.inr x)) (dH.k (k:=.inr x) (c _ _ h2)) (U rfl ?_)));cases f:bn b (.inr x)with|none=>exact bo ⟨ls rfl,i f _ _ T.lN c⟩|some v=>exact bX (q (by rw[f];rfl) j c)
def um(T:Txt K mg a):aT P w K mg base (oS P w) 4 a.fk.x a.fk.d ["thing"] (F9 K a):=by
 refine T.fk.okE u8 λc A outer s H j Q E f h=>?_
 ·obtain⟨p,l,rfl,h1,h2,h4,h5,q,g⟩:=h;refine⟨_,(aj (aM (cf (aQ K rfl (pc T.kT (yF T) f (ae (Y 0) af)) (λ_=>rfl))) (aj (eO T.Cu rfl T.Ev rfl eM (ae ay af))) aF)),?_⟩;refine U rfl ⟨p,l,rfl,h1,h2,h4,h5,λi b=>(U rfl (Jc (λe=>q e i b) (λe=>⟨ls rfl,g e _ _ T.lU b⟩)))⟩
def wX(T:Txt K mg a):aT P w K mg base dR 2 a.fO.x a.fO.d ["thing"] Iy:=by
 refine T.fO.ok q8 λb A outer s H e Q E c h=>?_
 ·obtain⟨x,rfl,h1,q⟩:=h;refine⟨_,(aj (aB (pc T.fe (jT T) c (ae (Y 0) (ae (cn T.jX rfl) (ae (cn T.lL rfl) af)))))),?_⟩;exact U rfl ⟨.str x,_,24,rfl,.inl ⟨x,rfl,h1,q⟩⟩
def lH(T:Txt K mg a):aT P w K mg base (oS P w) 3 a.bK.x a.bK.d ["thing"] (BO K a):=by
 refine T.bK.okE l7 λe A outer s H j Q E f h=>?_
 ·obtain⟨x,rfl,h1,q,g⟩:=h;refine⟨_,(aj (aM (cf (aQ K rfl (pc T.fO (wX T) f (ae (Y 0) af)) (λ_=>rfl))) (aj (eO T.Cs rfl T.Et rfl eM (ae ay af))) aF)),?_⟩;refine U rfl ⟨x,rfl,h1,λi b=>(U rfl ?_)⟩;cases c:pG gy 24 x with|true=>exact bX (q c i b)|false=>exact bo ⟨ls rfl,g c _ _ T.lS b⟩
def se(T:Txt K mg a):aT P w K mg base (oS P w) 5 a.dW.x a.dW.d ["thing"] (BN K a):=by
 refine T.dW.okE tJ λc A outer s H j Q E f h=>?_
 ·obtain⟨v,rfl,h⟩:=h;refine⟨_,(aj (aM (cf (aQ K rfl (pc T.iX (wZ T) f (ae (Y 0) af)) (λ_=>rfl))) (aj (eO T.At rfl T.Cd rfl eM (ae ay af))) aF)),?_⟩;rcases h with⟨h,q⟩|⟨l,h1,h2,h4,q,g⟩
  ·exact U rfl ⟨v,rfl,.inl ⟨h,U rfl (bo ⟨ls rfl,q _ _ T.gJ (aq.refl H)⟩)⟩⟩
  ·exact U rfl ⟨v,rfl,.inr ⟨l,h1,h2,h4,λi b=>(U rfl (Jc (λe=>q e i b) (λe=>⟨ls rfl,g e _ _ T.gJ b⟩)))⟩⟩
def wY(T:Txt K mg a):aT P w K mg base dR 2 a.dN.x a.dN.d ["thing"] Dq:=by
 refine T.dN.ok q9 λb A outer s H e Q E c h=>?_
 ·obtain⟨z,rfl,q⟩:=h;refine⟨_,(aj (aB (cp (pc T.fN (io T) c (ae (Y 0) af)) (c8 (bB DX (Y 0) ah (aG _)))))),?_⟩;refine U rfl ⟨z,rfl,U rfl (bo ?_)⟩
  walk_at "a"
  exact q
def sj(T:Txt K mg a):aT P w K mg base (oS P w) 3 a.dX.x a.dX.d ["thing"] (BP K a):=by
 refine T.dX.okE tM λb A outer s H g Q E c h=>?_
 ·obtain⟨z,rfl,q,f⟩:=h;refine⟨_,(aj (aM (cf (aQ K rfl (pc T.dN (wY T) c (ae (Y 0) af)) (λ_=>rfl))) (aj (eO T.mJ rfl T.oI rfl eM (ae ay af))) aF)),?_⟩;exact U rfl ⟨z,rfl,U rfl (Jc q (λe=>⟨ls rfl,f (Int.not_le.mp e) _ _ T.dZ (aq.refl H)⟩))⟩
def wW(T:Txt K mg a):aT P w K mg base dR 3 a.kO.x a.kO.d ["thing"] C9:=by
 refine T.kO.ok yf λb A outer s H e Q E c h=>?_
 ·obtain⟨z,rfl,h1,q⟩:=h;refine⟨_,(aj (aB (cp (pc T.dN (jE T) c (ae (Y 0) af)) (c8 (bB jD (Y 0) (cn T.xz rfl) (aG _)))))),?_⟩;refine U rfl ⟨z,rfl,h1,U rfl (bo ?_)⟩
  walk_at "a"
  exact q
def pJ(T:Txt K mg a):aT P w K mg base (oS P w) 4 a.cX.x a.cX.d ["total","weights","many"] (Dx K a):=by
 refine T.cX.okE qt λc A outer s H j Q E b h=>?_
 ·obtain⟨x,y,z,rfl,h1,q,f⟩:=h;refine⟨_,(aj (aM (PW.pt (fb (cf (aQ K rfl (pc T.kO (wW T) b (ae (Y 0) af)) (λ_=>rfl))) (dL (cf (aQ K rfl (pc T.gh (uo T) b (ae (Y 1) (ae (Y 2) af))) (λ_=>rfl)))))) (aj (eO T.mJ rfl T.oI rfl eM (ae ay af))) aF)),?_⟩;refine U rfl ⟨z,rfl,h1,U rfl ?_⟩
  by_cases e:z<=1000
  ·obtain⟨p,l,rfl,rfl,h2,h3,h4,q⟩:=q e;rw[ol e];exact bX (U rfl (U rfl ⟨p,l,rfl,h2,h3,h4,λg i=>(U rfl (bX (q g i)))⟩))
  ·rw[op e];exact bo (bo ⟨ls rfl,f (Int.not_le.mp e) _ _ T.dZ (aq.refl H)⟩)
def qz(T:Txt K mg a):aT P w K mg base (oS P w) 4 a.dz.x a.dz.d ["thing","many"] (zB K a):=by
 refine T.dz.okE rS λb A outer s H k Q E c h=>?_
 ·obtain⟨p,n,rfl,h⟩:=h;refine⟨_,(aj (aM (cf (aQ K rfl (pc T.gU (vd T) c (ae (Y 0) (ae (Y 1) af))) (λ_=>rfl))) (aj (eO T.mJ rfl T.oI rfl eM (ae ay af))) aF)),?_⟩;rcases h with⟨f,g,h1,h2,q⟩|⟨l,e,h1,h2,h3,q⟩
  ·exact U rfl (U rfl ⟨p,n,rfl,.inl ⟨f,g,h1,h2,U rfl (bo ⟨ls rfl,q _ _ T.dZ (aq.refl H)⟩)⟩⟩)
  ·exact U rfl (U rfl ⟨p,n,rfl,.inr ⟨l,e,h1,h2,h3,λi j=>(U rfl (bX (q i j)))⟩⟩)
end
def JD(J:St->Hp->Prop)(h1:∀c H,J c H->u D c H)(h2:∀(N:St->Hp->Prop)(R:VK)(B C:St->Hp->Prop),(∀c H,J c H->N c H)->t ⟨N,R,B,C⟩ c H):tf t u D c H:=h2 (u D) D.rt D.bk D.ct h1
inductive uZ(K:N_)(H:Hp)(M:bD):V->Prop|form{v:V}(h:rP K H v):uZ K H M v|pause{b:Addr}(h:aS K H b [.str "pause"]):uZ K H M (.ref b)|go{b:Addr}{x y:V}(h:aS K H b [.str "go",x,y]):uZ K H M (.ref b)|layer{b:Addr}{l:cD}{x:V}(h:aS K H b [.str "layer",.str l.nm,x])(h1:l∈M.las):uZ K H M (.ref b)|trial{b:Addr}{t:c5}{x y z u:V}(h:aS K H b [.str "trial",.str t.nm,x,y,z,u])(h1:t∈M.trs):uZ K H M (.ref b)|arms{b ar:Addr}{x y:Str}{l:cD}{z u:V}(h:aS K H b [.str "trial",.str x,.str l.nm,.ref ar,z,u])(h1:Wd x)(h2:l∈M.las)(h3:aS K H ar [.str y,.str y])(h4:Wd y):uZ K H M (.ref b)|share{b nv:Addr}{t:c5}{us:List V}(h:aS K H b [.str "share",.str t.nm,.ref nv])(h1:t∈M.trs)(h2:aS K H nv us)(h3:us.length=t.arms.length+1):uZ K H M (.ref b)|deal{b:Addr}{t:c5}{x:V}(h:aS K H b [.str "deal",.str t.nm,.int 1001,x])(h1:t∈M.trs):uZ K H M (.ref b)|hold{b:Addr}{l:cD}(h:aS K H b [.str "hold",.str l.nm,.int (-1)])(h1:l∈M.las):uZ K H M (.ref b)|bar{b:Addr}{g x:Str}(h:aS K H b [.str "bar",.str g,.str x])(h1:xT g)(h2:Wd x)(h3:x∉M.trs.map c5.nm):uZ K H M (.ref b)|close{b:Addr}{x:Str}(h:aS K H b [.str "close",.str x])(h2:Wd x)(h3:x∉M.trs.map c5.nm):uZ K H M (.ref b)|guest{b:Addr}{x:V}(h:aS K H b [.str "visit",.str "Ann",x]):uZ K H M (.ref b)|marks{b:Addr}{g:Str}{v:V}(h:aS K H b [.str "visit",.str g,v])(h1:xT g)(h2:Bt K H v):uZ K H M (.ref b)
inductive C8(P:Oe)(w:World)(K:N_)(a:fV)(vs:List V)(H:Hp)(Q:VK)(E:XK):Prop|mk(d:Addr)(M:bD)(Z:ZS)(c:Nat)(x:Str)(xs:List V)(_:vs=[.ref d,.ref (Z.G .ln),.ref (Z.G .tn)])(_:bG P w K a H M Z)(_:jo M c)(_:aS K H d (.str "trial"::.str x::xs))(_:Wd x)(_:(x∈M.trs.map c5.nm\/∃l∈M.las,∃ar y z u,xs=[.str l.nm,.ref ar,z,u]/\aS K H ar [.str y,.str y]/\Wd y))(_:XE K a H E)
inductive FV(P:Oe)(w:World)(K:N_)(a:fV)(vs:List V)(H:Hp)(Q:VK)(E:XK):Prop|mk(d:Addr)(M:bD)(Z:ZS)(c:Nat)(k x:Str)(xs:List V)(_:vs=[.ref d,.ref (Z.G .tn)])(_:bG P w K a H M Z)(_:jo M c)(_:aS K H d (.str k::.str x::xs))(_:Wd x)(_:(x∉M.trs.map c5.nm\/∃t∈M.trs,t.nm=x/\((k="share"/\∃nv us,xs=[.ref nv]/\aS K H nv us/\us.length=t.arms.length+1)\/(k="deal"/\∃y,xs=[.int 1001,y]))))(_:XE K a H E)
inductive F1(P:Oe)(w:World)(K:N_)(a:fV)(vs:List V)(H:Hp)(Q:VK)(E:XK):Prop|mk(v:V)(M:bD)(Z:ZS)(c:Nat)(_:vs=[v,.int M.p,.ref (Z.G .ln),.ref (Z.G .tn)])(_:bG P w K a H M Z)(_:jo M c)(_:uZ K H M v)(_:XE K a H E)
inductive Ks(P:Oe)(w:World)(K:N_)(a:fV)(vs:List V)(H:Hp)(Q:VK)(E:XK):Prop|mk(v:V)(M:bD)(Z:ZS)(c:Nat)(_:vs=[.ref (Z.G .hh),v])(_:cU P w K a H M Z c)(_:uZ K H M v)(_:XE K a H E)
section
def jo.ltf{M:bD}{c:Nat}(d:jo M c){Z:ZS}{l:cD}(e:l∈M.las):(bn (iP (M.las.map cD.nm) λi=>V.ref (Z.G (.lo i))) (.inr l.nm)).isSome=true:=by obtain⟨j,b⟩:=m3.mp e;rw[d.lget (Z:=Z) b];rfl
def jo.ttf{M:bD}{c:Nat}(d:jo M c){Z:ZS}{t:c5}(e:t∈M.trs):(bn (iP (M.trs.map c5.nm) λi=>V.ref (Z.G (.tr i))) (.inr t.nm)).isSome=true:=by obtain⟨j,b⟩:=m3.mp e;rw[d.tget (Z:=Z) b];rfl
def sd(T:Txt K mg a):aT P w K mg base (oS P w) 12 a.dU.x a.dU.d ["deed","layers","trials"] (λD H Q E=>C8 P w K a D H Q E\/Dr K D H Q E):=by
 refine T.dU.f.okE tH (λD H Q E h=>?_) (λal A outer s H D Q E v h=>?_)
 ·rcases h with⟨d,M,Z,c,x,xs,rfl,_⟩|⟨d,ly,tr,ar,sh,ru,x,y,r,ws,l,ss,lk,tk,rfl,_⟩
  ·rfl
  ·rfl
 ·refine⟨_,(ai (aZ (a0 ((nS T).mono (by decide)) v rfl T.dP.m T.dP.f.kp T.dP.b .nil bU (ae (cQ K (Y 0) ah) (ae (Y 2) af)))) (ai (aZ (a0 ((d8 T).mono (by decide)) v rfl T.aN.m T.aN.f.kp T.aN.b .nil bU (ae (cQ K (Y 0) ah) (ae (Y 1) af)))) (ai (aZ (a0 ((um T).mono (by decide)) v rfl T.fk.m T.fk.f.kp T.fk.b .nil bU (ae (cQ K (Y 0) ah) af))) (ai (aZ (pc T.gS (vc T) v (ae (cQ K (Y 0) ah) af))) (aj (aZ (pc T.f9 (ue T) v (ae (cQ K (Y 0) ah) (ae (Y 2) af))))))))),?_⟩
  rcases h with⟨d,M,Z,c,x,xs,rfl,hG,hM,i,F,h,q⟩|⟨d,ly,tr,ar,sh,ru,x,y,r,ws,l,ss,lk,tk,rfl,i,F,hy,I,B,C,J,L,h1,h2,h3,h4,N,O,R,S,V,W,X,aa,ac,ad,q⟩
  ·refine U rfl (rX i (am (k:=1) rfl) (U rfl ⟨_,x,Z.G .tn,rfl,F,hG.tris,λe H1 o=>?_,λ_=>q⟩));rcases h with h|⟨l,hl,ar,y,z,u,rfl,h3,h4⟩
   ·obtain⟨t,ht,rfl⟩:=oi.mp h;obtain⟨j,hj⟩:=m3.mp ht;rw[hM.tget (Z:=Z) hj]at e;cases e
   refine U rfl (rX (aq.tseq o i) (am (k:=2) rfl) (U rfl ⟨_,l.nm,Z.G .ln,rfl,(hM.la l hl).wd,o _ _ hG.lays,λ_ H2 s2=>?_,λ_=>q.same o⟩));have g:=o.trans s2;exact⟨_,rfl,d,_,3,_,rfl,rfl,aq.tseq g i,am (k:=3) rfl,ar,[y,y],rfl,aq.tseq g h3,λz hz=>by rcases tA.mp hz with rfl|hz;exact h4;rw[List.mem_singleton.mp hz];exact h4,by simp,by simp,λe=>absurd e (by simp),λ_=>q.same g⟩
  ·refine U rfl (rX i rfl (U rfl ⟨tk,x,tr,rfl,F,B,λ_ H1 o=>?_,λe=>absurd e (by rw[C];decide)⟩));refine U rfl (rX (aq.tseq o i) rfl (U rfl ⟨lk,y,ly,rfl,hy,o _ _ I,λ_ H2 s2=>?_,λe=>absurd J (by rw[e];decide)⟩));have g:=o.trans s2;refine U rfl (rX (aq.tseq g i) rfl ⟨ar,l,rfl,aq.tseq g L,h1,h3,h4,λ_ H3 s3=>?_,λe=>absurd h2 e⟩);have p:=g.trans s3;refine U rfl (rX (aq.tseq p i) rfl ⟨r,ru,ws,rfl,N.kp (.of p),O,R,S,V,W,λH4 s4=>?_⟩);have n:=p.trans s4;exact U rfl (rX (aq.tseq n i) rfl (U rfl ⟨sh,tr,ss,tk,rfl,aq.tseq n X,n _ _ B,aa,ac,ad,λH5 s5=>q H5 (n.trans s5)⟩))
def uf(T:Txt K mg a):aT P w K mg base (oS P w) 5 a.fh.x a.fh.d ["deed","trials"] (λJ H Q E=>FV P w K a J H Q E\/Io P w K a J H Q E):=by
 refine T.fh.f.okE jO (λJ H Q E h=>?_) (λaa A outer s H J Q E L h=>?_)
 ·rcases h with⟨d,M,Z,c,k,x,R,rfl,_⟩|⟨d,M,Z,c,k,t,R,rfl,_⟩
  ·rfl
  ·rfl
 ·refine⟨_,(ai (aZ (a0 ((d8 T).mono (by decide)) L rfl T.aN.m T.aN.f.kp T.aN.b .nil bU (ae (cQ K (Y 0) ah) (ae (Y 1) af)))) (ai (bj 2 jO.nd (d7 (cb L) (Y 1) (cQ K (Y 0) ah) (λ_ _=>rfl))) (ai (bj 3 jO.nd (aA (aJ K rfl) (by rfl) T.bF L2.aL (ae (aK K rfl (Y 2)) af))) (ai (aM (aE aU (cQ K (Y 0) ah) ay (aG _)) (aj (aZ (a0 ((qz T).mono (by decide)) L rfl T.dz.m T.dz.f.kp T.dz.b .nil bU (ae (cQ K (Y 0) ah) (ae (Y 3) af))))) (aj (aM (aE aU (cQ K (Y 0) ah) ay (aG _)) (aj (aZ (a0 ((pJ T).mono (by decide)) L rfl T.cX.m T.cX.f.kp T.cX.b .nil bU (ae (cQ K (Y 0) ah) (ae (cQ K (Y 0) ah) (ae (Y 3) af)))))) aF))) (aj (aM (aQ K rfl (aK K rfl (Y 2)) (λ_=>rfl)) (aj (eO T.Cv rfl T.Ex rfl eM (ae ay af))) aF)))))),?_⟩
  rcases h with⟨d,M,Z,c,k,x,R,rfl,v,B,u,hx,h,q⟩|⟨d,M,Z,c,k,t,R,rfl,u,v,B,C,hO,q,qe⟩
  ·refine U rfl (rX u (am (k:=1) rfl) (U rfl ⟨_,x,Z.G .tn,rfl,hx,v.tris,λe W n=>?_,λ_=>q⟩));rcases h with h|⟨t,C,rfl,h⟩
   ·rw[je h]at e;cases e
   obtain⟨j,o⟩:=m3.mp C;have N:=B.tget (Z:=Z) o;have S:=(B.tr t C).a4;have i:=v.same n;have g:=aq.tseq n u;obtain⟨p,-,-⟩:=i.trs j t o;refine U rfl (U rfl (rX g (am (k:=1) rfl) (rG (.ref (Z.G (.tr j))) (by rw[<-N];exact dH.k (k:=.inr t.nm) i.tris) (av ?_))));refine iz (i.trial o) T.bq T.eQ rfl rfl ⟨_,t.arms.length,rfl,.inr ⟨_,p,by simp⟩,av ?_⟩;rcases h with⟨rfl,D,us,rfl,h2,h3⟩|⟨rfl,y,rfl⟩
   ·refine U rfl (rX g (am (k:=0) rfl) ⟨rfl,U rfl (be ?_)⟩);exact U rfl (rX g (am (k:=2) rfl) (U rfl ⟨D,t.arms.length,rfl,.inl ⟨us,aq.tseq n h2,by omega,by omega,q.same n⟩⟩))
   ·refine U rfl (rX g (am (k:=0) rfl) ⟨rfl,U rfl (wn ?_)⟩);refine U rfl (rX g (am (k:=0) rfl) ⟨rfl,U rfl (be ?_)⟩);exact U rfl (rX g (am (k:=2) rfl) (U rfl (rX g (am (k:=3) rfl) (U rfl ⟨y,_,1001,rfl,by decide,λe=>absurd e (by decide),λ_=>q.same n⟩))))
  ·obtain⟨j,o⟩:=m3.mp C;have F:=B.tr t C;have N:=B.tget (Z:=Z) o;have S:=F.a4;refine U rfl (rX u (am (k:=1) rfl) (U rfl ⟨_,t.nm,Z.G .tn,rfl,F.wd,v.tris,λ_ W n=>?_,λe=>by rw[N]at e;cases e⟩));have i:=v.same n;have X:=i.trial o;obtain⟨p,-,-⟩:=i.trs j t o;refine U rfl (U rfl (rX (aq.tseq n u) (am (k:=1) rfl) (rG (.ref (Z.G (.tr j))) (by rw[<-N];exact dH.k (k:=.inr t.nm) i.tris) (av ?_))));refine iz X T.bq T.eQ rfl rfl ⟨_,t.arms.length,rfl,.inr ⟨_,p,by simp⟩,av (lP ?_)⟩;have g:=aq.tseq n u;refine JD (λσ H'=>∃v3,aq W H'/\σ=[some (.ref d),some (.ref (Z.G .tn)),some (.ref (Z.G (.tr j))),v3]) ?A1 (λNn R' B' C' V=>?B1)
   case A1=>
    rintro σ O⟨v3,r,rfl⟩;refine iz (r _ _ X) T.bq T.iE rfl rfl ⟨t.clo,rfl,?_⟩;cases I:t.clo
    ·exact bX (q I O (n.trans r))
    ·exact bo ⟨ls rfl,qe I O (n.trans r)⟩
   case B1=>refine U rfl (rX g (am (k:=0) rfl) ⟨rfl,U rfl ?_⟩);cases hO with|@share D l h1 h2 h3=>exact be ⟨_,rfl,d,_,2,_,rfl,rfl,g,am (k:=2) rfl,_,rfl,D,t.arms.length,rfl,.inr ⟨l,h3.symm,aq.tseq n h1,h2,by omega,λO r=>V _ _ ⟨_,r,rfl⟩⟩⟩|@deal z D l hz h1 h2 h3=>refine mT (dk rfl) ?_;refine U rfl (rX g (am (k:=0) rfl) ⟨rfl,U rfl (be ?_)⟩);exact U rfl (rX g (am (k:=2) rfl) (U rfl (rX g (am (k:=3) rfl) (U rfl ⟨_,_,z,rfl,hz.1,λ_=>⟨D,l,rfl,by rw[h3],aq.tseq n h1,h2,by omega,λO r=>V _ _ ⟨_,r,rfl⟩⟩,λe=>absurd hz.2 (by omega)⟩))))|other h1 h2=>exact mT h1 ⟨_,rfl,d,_,0,_,rfl,rfl,g,am (k:=0) rfl,rfl,_,rfl,mT h2 (V _ _ ⟨_,aq.refl _,rfl⟩)⟩
end
section
def uk(T:Txt K mg a)(W:w.params=a.pm):aT P w K mg base (oS P w) 13 a.fj.x a.fj.d ["deed","prime","layers","trials"] (λJ H Q E=>F1 P w K a J H Q E\/F8 P w K a J H Q E):=by
 refine T.fj.f.okE nH (λJ H Q E h=>?_) (λV A outer s H J Q E p h=>?_)
 ·rcases h with⟨v,M,Z,c,rfl,_⟩|⟨dv,M,Z,c,d,X,rfl,_⟩
  ·rfl
  ·rfl
 ·refine⟨_,(ai (aZ (a0 ((uj T W).mono (by decide)) p rfl T.fi.m T.fi.f.kp T.fi.b .nil bU (ae (Y 0) af))) (ai (bj 4 nH.nd (cQ K (Y 0) ah)) (aj (aM (aE aU (Y 4) ay (aG _)) (ai (aZ (a0 ((nS T).mono (by decide)) p rfl T.dP.m T.dP.f.kp T.dP.b .nil bU (ae (cQ K (Y 0) ah) (ae (Y 2) af)))) (aj (aZ (pc T.f8 (ud T) p (ae (cQ K (Y 0) ah) (ae (Y 1) (ae (Y 2) af))))))) (aj (aM (aE aU (Y 4) ay (aG _)) (aj (aZ (a0 ((sd T).mono (by decide)) p rfl T.dU.m T.dU.f.kp T.dU.b .nil bU (ae (Y 0) (ae (Y 2) (ae (Y 3) af)))))) (aj (aM (aE aU (Y 4) ay (aG _)) (ai (aZ (a0 ((d8 T).mono (by decide)) p rfl T.aN.m T.aN.f.kp T.aN.b .nil bU (ae (cQ K (Y 0) ah) (ae (Y 2) af)))) (aj (aZ (a0 ((sj T).mono (by decide)) p rfl T.dX.m T.dX.f.kp T.dX.b .nil bU (ae (cQ K (Y 0) ah) af))))) (aj (aM (aE aU (Y 4) ay (aG _)) (ai (aZ (a0 ((lH T).mono (by decide)) p rfl T.bK.m T.bK.f.kp T.bK.b .nil bU (ae (cQ K (Y 0) ah) af))) (aj (aZ (a0 ((d8 T).mono (by decide)) p rfl T.aN.m T.aN.f.kp T.aN.b .nil bU (ae (cQ K (Y 0) ah) (ae (Y 3) af)))))) (aj (aM (aE aU (Y 4) ay (aG _)) (ai (aZ (a0 ((lH T).mono (by decide)) p rfl T.bK.m T.bK.f.kp T.bK.b .nil bU (ae (cQ K (Y 0) ah) af))) (aj (aZ (a0 ((se T).mono (by decide)) p rfl T.dW.m T.dW.f.kp T.dW.b .nil bU (ae (cQ K (Y 0) ah) af))))) (aj (aZ (a0 ((uf T).mono (by decide)) p rfl T.fh.m T.fh.f.kp T.fh.b .nil bU (ae (Y 0) (ae (Y 3) af))))))))))))))))),?_⟩
  rcases h with⟨v,M,Z,c,rfl,o,n,N,q⟩|⟨b,M,Z,c,d,X,rfl,i,o,n,N,q,B⟩
  ·cases N with|form h=>exact⟨_,rfl,v,rfl,.inl ⟨h,q⟩⟩|@pause b i=>exact⟨_,rfl,.ref b,rfl,.inr ⟨b,"pause",[],2,rfl,i,T.kK,λe=>absurd e (by decide),λ_=>q⟩⟩|@go b x y i=>exact⟨_,rfl,.ref b,rfl,.inr ⟨b,"go",[x,y],2,rfl,i,T.nY,λe=>absurd e (by simp),λ_=>q⟩⟩|@layer b l x i h1=>refine U rfl ⟨.ref b,rfl,.inr ⟨b,"layer",_,3,rfl,i,T.kL,λ_=>?_,λe=>absurd rfl e⟩⟩;refine U rfl (rX i (am (k:=0) rfl) (av ?_));refine U rfl ⟨rfl,U rfl (be ?_)⟩;exact U rfl (rX i (am (k:=1) rfl) (U rfl ⟨_,l.nm,Z.G .ln,rfl,(n.la l h1).wd,o.lays,λe=>absurd (n.ltf (Z:=Z) h1) (by rw[e];decide),λ_=>q⟩))|@trial b t x y z u i h1=>refine U rfl ⟨.ref b,rfl,.inr ⟨b,"trial",_,6,rfl,i,T.gP,λ_=>?_,λe=>absurd rfl e⟩⟩;refine U rfl (rX i (am (k:=0) rfl) (av ?_));refine U rfl ⟨rfl,U rfl (wn ?_)⟩;refine U rfl ⟨rfl,U rfl (be ?_)⟩;exact U rfl (U rfl (U rfl (.inl ⟨b,M,Z,c,t.nm,_,rfl,o,n,i,(n.tr t h1).wd,.inl (oi.mpr ⟨t,h1,rfl⟩),q⟩)))|@arms b ar x y l z u i h1 h2 h3 h4=>refine U rfl ⟨.ref b,rfl,.inr ⟨b,"trial",_,6,rfl,i,T.gP,λ_=>?_,λe=>absurd rfl e⟩⟩;refine U rfl (rX i (am (k:=0) rfl) (av ?_));refine U rfl ⟨rfl,U rfl (wn ?_)⟩;refine U rfl ⟨rfl,U rfl (be ?_)⟩;exact U rfl (U rfl (U rfl (.inl ⟨b,M,Z,c,x,_,rfl,o,n,i,h1,.inr ⟨l,h2,ar,y,z,u,rfl,h3,h4⟩,q⟩)))|@share b O t us i h1 h2 h3=>refine U rfl ⟨.ref b,rfl,.inr ⟨b,"share",_,3,rfl,i,T.kJ,λ_=>?_,λe=>absurd rfl e⟩⟩;refine U rfl (rX i (am (k:=0) rfl) (av ?_));(iterate 5 refine U rfl ⟨rfl,U rfl (wn ?_)⟩);exact U rfl (U rfl (.inl ⟨b,M,Z,c,"share",t.nm,_,rfl,o,n,i,(n.tr t h1).wd,.inr ⟨t,h1,rfl,.inl ⟨rfl,O,us,rfl,h2,h3⟩⟩,q⟩))|@deal b t x i h1=>refine U rfl ⟨.ref b,rfl,.inr ⟨b,"deal",_,4,rfl,i,T.lK,λ_=>?_,λe=>absurd rfl e⟩⟩;refine U rfl (rX i (am (k:=0) rfl) (av ?_));(iterate 5 refine U rfl ⟨rfl,U rfl (wn ?_)⟩);exact U rfl (U rfl (.inl ⟨b,M,Z,c,"deal",t.nm,_,rfl,o,n,i,(n.tr t h1).wd,.inr ⟨t,h1,rfl,.inr ⟨rfl,x,rfl⟩⟩,q⟩))|@close b x i h2 h3=>refine U rfl ⟨.ref b,rfl,.inr ⟨b,"close",_,2,rfl,i,T.kM,λ_=>?_,λe=>absurd rfl e⟩⟩;refine U rfl (rX i (am (k:=0) rfl) (av ?_));(iterate 5 refine U rfl ⟨rfl,U rfl (wn ?_)⟩);exact U rfl (U rfl (.inl ⟨b,M,Z,c,"close",x,_,rfl,o,n,i,h2,.inl h3,q⟩))|@hold b l i h1=>refine U rfl ⟨.ref b,rfl,.inr ⟨b,"hold",_,3,rfl,i,T.lJ,λ_=>?_,λe=>absurd rfl e⟩⟩;refine U rfl (rX i (am (k:=0) rfl) (av ?_));(iterate 2 refine U rfl ⟨rfl,U rfl (wn ?_)⟩);refine U rfl ⟨rfl,U rfl (be ?_)⟩;refine U rfl (rX i (am (k:=1) rfl) (U rfl ⟨_,l.nm,Z.G .ln,rfl,(n.la l h1).wd,o.lays,λ_ r j=>?_,λ_=>q⟩));exact U rfl (rX (aq.tseq j i) (am (k:=2) rfl) ⟨-1,rfl,λe=>absurd e (by decide),λ_=>q.same j⟩)|@bar b g x i h1 h2 h3=>refine U rfl ⟨.ref b,rfl,.inr ⟨b,"bar",_,3,rfl,i,T.mG,λ_=>?_,λe=>absurd rfl e⟩⟩;refine U rfl (rX i (am (k:=0) rfl) (av ?_));(iterate 3 refine U rfl ⟨rfl,U rfl (wn ?_)⟩);refine U rfl ⟨rfl,U rfl (be ?_)⟩;refine U rfl (rX i (am (k:=1) rfl) ⟨g,rfl,by have:=h1.hi;omega,λ_ r j=>?_,λ_=>q⟩);exact U rfl (rX (aq.tseq j i) (am (k:=2) rfl) (U rfl ⟨_,x,Z.G .tn,rfl,h2,j _ _ o.tris,λe=>absurd e (by rw[je h3];decide),λ_=>q.same j⟩))|@guest b x i=>refine U rfl ⟨.ref b,rfl,.inr ⟨b,"visit",_,3,rfl,i,T.gO,λ_=>?_,λe=>absurd rfl e⟩⟩;refine U rfl (rX i (am (k:=0) rfl) (av ?_));(iterate 4 refine U rfl ⟨rfl,U rfl (wn ?_)⟩);refine U rfl ⟨rfl,U rfl (be ?_)⟩;exact U rfl (rX i (am (k:=1) rfl) ⟨"Ann",rfl,dk rfl,λe=>absurd e (dk rfl),λ_=>q⟩)|@marks b g v i h1 h2=>
   refine U rfl ⟨.ref b,rfl,.inr ⟨b,"visit",_,3,rfl,i,T.gO,λ_=>?_,λe=>absurd rfl e⟩⟩;refine U rfl (rX i (am (k:=0) rfl) (av ?_));(iterate 4 refine U rfl ⟨rfl,U rfl (wn ?_)⟩);refine U rfl ⟨rfl,U rfl (be ?_)⟩;refine U rfl (rX i (am (k:=1) rfl) ⟨g,rfl,by have:=h1.hi;omega,λ_ r j=>?_,λ_=>q⟩);refine U rfl (rX (aq.tseq j i) (am (k:=2) rfl) ⟨v,rfl,?_⟩);rcases h2.same j with h|⟨l,k1,k2,k3,k4⟩
   ·exact .inl ⟨h,q.same j⟩
   ·exact .inr ⟨l,k1,k2,k4,λe=>absurd e k3,λ_=>q.same j⟩
  ·cases N with|@layer nm sl h1 h2 h3 h4 h5=>refine U rfl ⟨.ref b,rfl,.inr ⟨b,"layer",_,3,rfl,i,T.kL,λ_=>?_,λe=>absurd rfl e⟩⟩;refine U rfl (rX i (am (k:=0) rfl) (av ?_));refine U rfl ⟨rfl,U rfl (be ?_)⟩;refine U rfl (rX i (am (k:=1) rfl) (U rfl ⟨_,nm,Z.G .ln,rfl,h1,o.lays,λ_ r j=>?_,λe=>absurd e (by rw[je h2];decide)⟩));exact U rfl (rX (aq.tseq j i) (am (k:=2) rfl) (U rfl (U rfl ⟨sl,M,Z,rfl,o.same j,by lia,h3.1,h3.2,h4,λC D=>q rfl C (j.trans D)⟩)))|@trial x ar sh ra R h1 h2 h3 h4 h5 h6 h7 h8 h9 ha hb hc hd he hf=>refine U rfl ⟨.ref b,rfl,.inr ⟨b,"trial",_,6,rfl,i,T.gP,λ_=>?_,λe=>absurd rfl e⟩⟩;refine U rfl (rX i (am (k:=0) rfl) (av ?_));refine U rfl ⟨rfl,U rfl (wn ?_)⟩;refine U rfl ⟨rfl,U rfl (be ?_)⟩;obtain⟨lh,F,I⟩:=oi.mp h1.hm;refine U rfl (U rfl (U rfl (.inr ⟨b,Z.G .ln,Z.G .tn,ar,sh,.ref ra,x.nm,x.home,x.rule,R,x.arms,x.shuts,_,_,rfl,i,h1.wd,by rw[<-I];exact(n.la lh F).wd,o.lays,o.tris,je h2,by rw[<-I];exact n.ltf F,h3,h1.aw,h1.nd,h1.a1,h1.a4,h4,h1.hg,h5,h6,h7,h8,h9,λy hy=>?_,hb,h1.s8,q rfl⟩)));obtain⟨z,L,S⟩:=oi.mp (ha y hy);exact⟨by rw[<-S];exact(n.tr z L).wd,by rw[<-S];exact n.ttf L⟩|@hold l z h1 h2=>refine U rfl ⟨.ref b,rfl,.inr ⟨b,"hold",_,3,rfl,i,T.lJ,λ_=>?_,λe=>absurd rfl e⟩⟩;refine U rfl (rX i (am (k:=0) rfl) (av ?_));(iterate 2 refine U rfl ⟨rfl,U rfl (wn ?_)⟩);refine U rfl ⟨rfl,U rfl (be ?_)⟩;refine U rfl (rX i (am (k:=1) rfl) (U rfl ⟨_,l.nm,Z.G .ln,rfl,(n.la l h1).wd,o.lays,λ_ r j=>?_,λe=>absurd (n.ltf (Z:=Z) h1) (by rw[e];decide)⟩));exact U rfl (rX (aq.tseq j i) (am (k:=2) rfl) ⟨z,rfl,λ_=>q rfl r j,λe=>absurd h2 (by omega)⟩)|@bar g t h1 h2=>refine U rfl ⟨.ref b,rfl,.inr ⟨b,"bar",_,3,rfl,i,T.mG,λ_=>?_,λe=>absurd rfl e⟩⟩;refine U rfl (rX i (am (k:=0) rfl) (av ?_));(iterate 3 refine U rfl ⟨rfl,U rfl (wn ?_)⟩);refine U rfl ⟨rfl,U rfl (be ?_)⟩;refine U rfl (rX i (am (k:=1) rfl) ⟨g,rfl,by have:=h1.hi;omega,λ_ r j=>?_,λe=>absurd h1.b (by rw[e];decide)⟩);exact U rfl (rX (aq.tseq j i) (am (k:=2) rfl) (U rfl ⟨_,t.nm,Z.G .tn,rfl,(n.tr t h2).wd,j _ _ o.tris,λ_ C D=>q rfl C (j.trans D),λe=>absurd (n.ttf (Z:=Z) h2) (by rw[e];decide)⟩))|@visit g mv ms h1 h2 h3 h4 h5=>refine U rfl ⟨.ref b,rfl,.inr ⟨b,"visit",_,3,rfl,i,T.gO,λ_=>?_,λe=>absurd rfl e⟩⟩;refine U rfl (rX i (am (k:=0) rfl) (av ?_));(iterate 4 refine U rfl ⟨rfl,U rfl (wn ?_)⟩);refine U rfl ⟨rfl,U rfl (be ?_)⟩;refine U rfl (rX i (am (k:=1) rfl) ⟨g,rfl,by have:=h1.hi;omega,λ_ r j=>?_,λe=>absurd h1.b (by rw[e];decide)⟩);exact U rfl (rX (aq.tseq j i) (am (k:=2) rfl) ⟨mv,rfl,.inr ⟨ms,h2.kp (.of j),h3,h5,λ_ C D=>q rfl C (j.trans D),λe=>absurd h4 e⟩⟩)|@share t ns O h1 h2 h3 h4=>refine U rfl ⟨.ref b,rfl,.inr ⟨b,"share",_,3,rfl,i,T.kJ,λ_=>?_,λe=>absurd rfl e⟩⟩;refine U rfl (rX i (am (k:=0) rfl) (av ?_));(iterate 5 refine U rfl ⟨rfl,U rfl (wn ?_)⟩);exact U rfl (U rfl (.inr ⟨b,M,Z,c,_,t,_,rfl,i,o,n,h1,.share h2 h4 h3,q,B⟩))|@deal t z R wv h1 L h2 h3 h4=>refine U rfl ⟨.ref b,rfl,.inr ⟨b,"deal",_,4,rfl,i,T.lK,λ_=>?_,λe=>absurd rfl e⟩⟩;refine U rfl (rX i (am (k:=0) rfl) (av ?_));(iterate 5 refine U rfl ⟨rfl,U rfl (wn ?_)⟩);exact U rfl (U rfl (.inr ⟨b,M,Z,c,_,t,_,rfl,i,o,n,h1,.deal L h2 h4 h3,q,B⟩))|@pause t h1=>refine U rfl ⟨.ref b,rfl,.inr ⟨b,"pause",_,2,rfl,i,T.kK,λ_=>?_,λe=>absurd rfl e⟩⟩;refine U rfl (rX i (am (k:=0) rfl) (av ?_));(iterate 5 refine U rfl ⟨rfl,U rfl (wn ?_)⟩);exact U rfl (U rfl (.inr ⟨b,M,Z,c,_,t,_,rfl,i,o,n,h1,.other (dk rfl) (dk rfl),q,B⟩))|@go t h1=>refine U rfl ⟨.ref b,rfl,.inr ⟨b,"go",_,2,rfl,i,T.nY,λ_=>?_,λe=>absurd rfl e⟩⟩;refine U rfl (rX i (am (k:=0) rfl) (av ?_));(iterate 5 refine U rfl ⟨rfl,U rfl (wn ?_)⟩);exact U rfl (U rfl (.inr ⟨b,M,Z,c,_,t,_,rfl,i,o,n,h1,.other (dk rfl) (dk rfl),q,B⟩))|@close t h1=>refine U rfl ⟨.ref b,rfl,.inr ⟨b,"close",_,2,rfl,i,T.kM,λ_=>?_,λe=>absurd rfl e⟩⟩;refine U rfl (rX i (am (k:=0) rfl) (av ?_));(iterate 5 refine U rfl ⟨rfl,U rfl (wn ?_)⟩);exact U rfl (U rfl (.inr ⟨b,M,Z,c,_,t,_,rfl,i,o,n,h1,.other (dk rfl) (dk rfl),q,B⟩))
def w5(T:Txt K mg a)(W:w.params=a.pm):aT P w K mg base (oS P w) 14 a.jn.x a.jn.d ["self","deed"] (λB H Q E=>Ks P w K a B H Q E\/Kt P w K a B H Q E):=by
 refine T.jn.f.okE rc (λB H Q E h=>?_) (λV A outer s H B Q E t h=>?_)
 ·rcases h with⟨v,M,Z,c,rfl,_⟩|⟨M,Z,c,n,d,D,rfl,_⟩
  ·rfl
  ·rfl
 ·refine⟨_,(ai (aZ (a0 ((uk T W).mono (by decide)) t rfl T.fj.m T.fj.f.kp T.fj.b .nil bU (ae (Y 1) (ae (aK K rfl (Y 0)) (ae (aK K rfl (Y 0)) (ae (aK K rfl (Y 0)) af)))))) (ai (bj 2 rc.nd (bA (Y 0) T.aD T.fZ.m ((vh (P:=P) (w:=w) T).mono (by decide)) t T.fZ.b .nil bU (ae (Y 1) af))) (ai (aZ (jc K rfl PySem.F.plainAttrs_list PySem.F.slot_list_append PySem.F.type_list_append fw (aK K rfl (Y 0)) (ae (Y 1) af))) (aj (aB (Y 2)))))),?_⟩
  rcases h with⟨v,M,Z,c,rfl,i,C,q⟩|⟨M,Z,c,n,d,D,rfl,i,hc,R,C,q,X,qc⟩
  ·have k:=i.g.house;exact U rfl (iz k T.aD T.cF rfl rfl (iz k T.aD T.aW rfl rfl (iz k T.aD T.aP rfl rfl (.inl ⟨v,M,Z,c,rfl,i.g,i.ok,C,q⟩))))
  ·have k:=i.g.house;refine U rfl (iz k T.aD T.cF rfl rfl (iz k T.aD T.aW rfl rfl (iz k T.aD T.aP rfl rfl ?_)));refine .inr ⟨n,M,Z,c,d,D,rfl,R,i.g,i.ok,C,λo H1 l=>?_,λo=>qc (Dd.clo_adds o)⟩;refine nQ (l _ _ k) rfl rfl (U rfl ⟨M,Z,c,n,d,D,rfl,i.same l,hc,aq.tseq l R,C.kp (.of l),λr us I j S nx st e t J p=>?_,λha H' s'=>X ha H' (l.trans s')⟩);have u:=e.g.house;rw[st.hh]at u;have y:=e.g.dees;have L:=i.ds;refine av (iz u T.aD T.mF rfl rfl ⟨.inl ⟨rfl,_,aY.of y⟩,U rfl (rA y (by rw[p,nk];lia) ?_)⟩);have N:=e.g.deed (.ref n);have O:gD S I j (aI S (j.G .dl) (.lst (j.ds++[.ref n]))) I {j with ds:=j.ds++[.ref n]}:=gD.put (r:=.dl) trivial rfl rfl rfl rfl λx hx=>.inl hx;refine U rfl (q o r us I {j with ds:=j.ds++[.ref n]} _ nx (((gD.of l).trans st).trans O) ⟨N,e.ok,e.tk,e.ow,by show(j.ds++[_]).length<=c+1;rw[k_,p];exact t8 L⟩ (l.free t) ?_ (by show j.ds++[_]=_;rw[p]));rw[au λz=>?_]
   ·exact J
   ·rw[z,st.dd,l _ _ i.g.dees]at t;cases t
end
theorem uB:∀{W:Wl}{s:AS}{k:bN},(∀x∈W,x.1≠k)->(bC s W).pl k=s.pl k|[],_,_,_=>rfl|x::r,s,k,h=>(uB (W:=r) λy b=>h y (lm _ b)).trans (l_ λe=>h x m_ e.symm)
theorem om:∀{W:Wl}{s:AS}{k:bN},(∀x∈W,x.1≠k)->(bT n s W).pl k=s.pl k|[],_,_,_=>rfl|x::r,s,k,h=>(om (W:=r) λy b=>h y (lm _ b)).trans (l_ λe=>h x m_ e.symm)
theorem Bb:∀{W:Wl},(∀x∈W,((s.pl x.1).length:Int)<=x.2)->0<=cW s W|[],_=>M9 _|x::r,h=>by rw[jg];have h1:=h x m_;have h2:=Bb λy b=>h y (lm _ b);lia
theorem vE:∀{W:Wl}{s:AS},(W.map (·.1)).Nodup->(∀x∈W,((s.pl x.1).length:Int)<=x.2)->cW s W<=((iw n s.oc).length:Int)->∀x∈W,(((bT n s W).pl x.1).length:Int)=x.2
 |x::r,s,hn,h,f,y,c=>by
  rw[pu,MS]at hn;have h1:=h x m_;have h2:=Bb λy c=>h y (lm _ c);rw[jg]at f;have ne:∀z∈r,z.1≠x.1:=λz b e=>hn.1 (e▸oi.mpr ⟨z,b,rfl⟩);have d:∀z∈r,(s.took n x.1 x.2.toNat).pl z.1=s.pl z.1:=λz b=>l_ (ne z b);have g:x.2.toNat-(s.pl x.1).length<=(iw n s.oc).length:=by omega
  rcases tA.mp c with rfl|c
  ·show(((bT n (s.took n y.1 y.2.toNat) r).pl y.1).length:Int)=y.2;rw[om λz b e=>ne z b e];show(((if y.1=y.1 then s.pl y.1++(iw n s.oc).take (y.2.toNat-(s.pl y.1).length)else s.pl y.1)).length:Int)=y.2;rw[mo rfl,k_,o8];lia
  ·exact vE (W:=r) hn.2 (λz b=>by rw[d z b];exact h z (lm _ b)) (by rw[jH d,CY g];omega) y c
def xY(c:s.Ok n)(hn:(W.map (·.1)).Nodup)(h0:∀x∈W,0<=x.2)(d:cW s W<=((iw n s.oc).length:Int)):∀x∈W,(((bT n (bC s W) W).pl x.1).length:Int)=x.2:=by obtain⟨e,le⟩:=y0 c hn h0 W.length (f_ _);rw[List.take_length]at e le;exact vE hn le (by lia)
def nE(M:bD):Prop:=∀l∈M.las,∀x∈l.ins,uR M l x.1 x.2.1 x.2.2
def Fm{W:Wl}:∀{S:AS}{q:Int},(W.map (·.1)).Nodup->q∈cr S W->∃x∈W,q∈S.pl x.1/\x.2.toNat<(S.pl x.1).length:=by induction W with|nil=>exactλ_ h=>nomatch h|cons x r c=>
  intro S q hn h;have h:q∈((S.pl x.1).drop x.2.toNat).reverse++cr (S.give x.1 x.2.toNat) r:=h;rw[pu,MS]at hn;rcases Ny.mp h with z|z
  ·have z:=L8.mp z;exact⟨x,m_,MN z,Nat.lt_of_not_le λe=>by rw[Np e]at z;cases z⟩
  ·obtain⟨y,b,h1,h2⟩:=c hn.2 z;have e:(S.give x.1 x.2.toNat).pl y.1=S.pl y.1:=l_ λe=>hn.1 (by rw[<-e];exact oi.mpr ⟨y,b,rfl⟩);rw[e]at h1 h2;exact⟨y,lm _ b,h1,h2⟩
def An{W:Wl}:∀{S:AS}{k:bN}{q:Int},q∈S.pl k->q∉cr S W->q∈(bC S W).pl k:=by induction W with|nil=>exactλh _=>h|cons x r b=>
  intro S k q h n;have n:q∉((S.pl x.1).drop x.2.toNat).reverse++cr (S.give x.1 x.2.toNat) r:=n;rw[Ny,not_or]at n;refine b (S:=S.give x.1 x.2.toNat) ?_ n.2;show q∈(if k=x.1 then(S.pl x.1).take x.2.toNat else S.pl k)
  split
  ·next e=>rw[e,<-ro x.2.toNat (S.pl x.1)]at h;exact(Ny.mp h).resolve_right λz=>n.1 (L8.mpr z)
  ·exact h
def zz{n:Nat}{W:Wl}:∀{S:AS}{k:bN}{q:Int},q∈S.pl k->q∈(bT n S W).pl k:=by induction W with|nil=>exactλh=>h|cons x r b=>
  intro S k q h;refine b (S:=S.took n x.1 x.2.toNat) ?_;show q∈(if k=x.1 then S.pl x.1++_ else S.pl k)
  split
  ·next e=>rw[e]at h;exact th _ h
  ·exact h
def HN{x:Str}{arms:Of}{l:Ol}{z:bN×Int}(h:z∈oh x arms l):∃y∈arms,z.1=a9 x y:=by obtain⟨p,c,rfl⟩:=oi.mp h;obtain⟨k,b⟩:=m3.mp c;rw[List.getElem?_zip_eq_some]at b;exact⟨p.1,g_ b.1,rfl⟩
theorem nE.setL{M:bD}{i:Nat}{l':cD}(h:nE M)(q:∀x∈l'.ins,uR M l' x.1 x.2.1 x.2.2):nE (M.setL i l'):=λc d x b=>by
 rcases G_ d with z|z
 ·exact h c z x b
 ·rw[z]at b⊢;exact q x b
def yb{M:bD}{l:cD}{c:Ol}{x:Str×Str×Str}:x∈cy l.ins (Am M l c)↔x∈l.ins/\qy M.p M.salt l.sl x.1∉c:=by unfold cy Am;rw[List.mem_filter,decide_eq_true_iff,List.mem_filter,decide_eq_true_iff,not_and];exact⟨λh=>⟨h.1,h.2 (oi.mpr ⟨x,h.1,rfl⟩)⟩,λh=>⟨h.1,λ_=>h.2⟩⟩
def nE.share{M:bD}{i:Nat}{l:cD}{t:c5}{ns:Ol}(h:nE M)(c:M.las[i]?=some l):nE (jN M i l t ns):=h.setL λx b=>by obtain⟨h1,h2⟩:=yb.mp b;obtain⟨n,h3⟩:=h l (g_ c) x h1;exact⟨n,zz (An h3 h2)⟩
def nE.next{M m:bD}{d:Dd}(h:nE M)(n:dG M d m):nE m:=by
 cases n with|layer=>
  intro l b x c;rcases Ny.mp b with z|z
  ·exact h l z x c
  ·rw[List.mem_singleton.mp z]at c;cases c|trial=>exact h|share b hh hn=>exact h.share b|deal b hh hn=>exact h.share b|@hold l z i b=>
  refine h.setL λx c=>?_;obtain⟨n,h3⟩:=h l (g_ b) x c;have ne:∀y,y∈[((ij:bN),z)]->y.1≠a9 x.2.1 x.2.2:=λy r e=>by rw[List.mem_singleton.mp r]at e;exact n (gT e).1.symm
  refine⟨n,?_⟩;show _∈(bT M.p (bC l.S _) _).pl _;rw[om ne,uB ne];exact h3|pause o=>exact h|@close t i j l o b hh=>exact nE.share (M:=M.setT j {t with clo:=true}) h b|@bar g t i j l o b hh=>exact nE.setL (M:=M.setT j {t with bar:=fK t.bar g}) (l':={l with ins:=cy l.ins (n8 l t g)}) h λx c=>h l (g_ b) x (List.mem_filter.mp c).1|visit v=>
  intro l b x c;obtain⟨i,hi⟩:=m3.mp b;have f:=(d_.mp hi).1;rw[v.len]at f;obtain⟨k,h1,h2⟩:=v.las i _ (h_ f);rw[hi]at h1;obtain rfl:=nB h1;unfold uR;rw[v.p,v.salt];rcases h2 with e|⟨_,t,y,e,q⟩
  ·exact h _ (t_ f) x (e▸c)
  ·have c:x∈k:=c;rw[e]at c;rcases Ny.mp c with z|z
   ·exact h _ (t_ f) x z
   ·rw[List.mem_singleton.mp z];exact q
inductive zq(M':bD)(l:cD)(g a b:Str):Dd->Prop|share{t:c5}{ns:Ol}{l':cD}(h:t.nm=a)(hl:l'∈M'.las)(e:l'.nm=l.nm)(lt:(l'.S.pl (a9 a b)).length<(l.S.pl (a9 a b)).length):zq M' l g a b (.share t ns)|deal{t:c5}{z:Int}{ws:Ol}{l':cD}(h:t.nm=a)(hl:l'∈M'.las)(e:l'.nm=l.nm)(lt:(l'.S.pl (a9 a b)).length<(l.S.pl (a9 a b)).length):zq M' l g a b (.deal t z ws)|close{t:c5}(h:t.nm=a):zq M' l g a b (.close t)|bar{t:c5}(h:t.nm=a):zq M' l g a b (.bar g t)
def ux{M:bD}{i:Nat}{l l' c:cD}{x:Str×Str×Str}(d:M.las[i]?=some l)(e:l'.nm=l.nm)(h2:c∈M.las)(g:x∈c.ins):(∃f∈(M.setL i l').las,f.nm=c.nm/\x∈f.ins)\/(c=l/\x∉l'.ins):=by
 obtain⟨j,b⟩:=m3.mp h2
 by_cases q:j=i
 ·rw[q,d]at b;obtain rfl:=nB b
  by_cases z:x∈l'.ins
  ·exact .inl ⟨l',g_ (j9 d),e,z⟩
  ·exact .inr ⟨rfl,z⟩
 ·exact .inl ⟨c,g_ (i:=j) (by show(M.las.set i l')[j]?=_;rw[r_ (rb q)];exact b),rfl,g⟩
def on{M:bD}{c i:Nat}{l d:cD}{t:c5}{ns:Ol}{g a b:Str}(h:nE M)(n:jo M c)(o:M.las[i]?=some l)(hn:ns.length=t.arms.length)(nd:t.arms.Nodup)(h2:d∈M.las)(j:(g,a,b)∈d.ins):(∃m∈(jN M i l t ns).las,m.nm=d.nm/\(g,a,b)∈m.ins)\/(d=l/\t.nm=a/\∃x∈oh t.nm t.arms ns,x.1=a9 a b/\x.2.toNat<(l.S.pl (a9 a b)).length):=by refine(ux (l':={l with S:=i5 M l t ns,ins:=cy l.ins (Am M l (cr l.S (oh t.nm t.arms ns)))}) o rfl h2 j).imp id λ⟨e,q⟩=>⟨e,?_⟩;subst e;have q:qy M.p M.salt d.sl g∈cr d.S (oh t.nm t.arms ns):=Decidable.of_not_not λz=>q (yb.mpr ⟨j,z⟩);obtain⟨x,f,h3,h4⟩:=Fm (wJ hn nd) q;have e:=(n.la d h2).ok.dj _ _ _ h3 (h d h2 _ j).2;rw[e]at h4;obtain⟨y,_,k⟩:=HN f;exact⟨(gT (k.symm.trans e)).1,x,f,e,h4⟩
def dG.goes{M D:bD}{c:Nat}{d:Dd}{R:List V}{m:cD}{g a b:Str}(n:dG M d D)(G:iS K H M d R)(h:nE M)(o:jo M c)(h2:m∈M.las)(f:(g,a,b)∈m.ins):(∃I∈D.las,I.nm=m.nm/\(g,a,b)∈I.ins)\/zq D m g a b d:=by cases n with
 |layer=>exact .inl ⟨m,th _ h2,rfl,f⟩|trial=>exact .inl ⟨m,h2,rfl,f⟩|@share t ns i l k hh hn=>cases G with|share u T r J=>refine(on h o k r (o.tr t u).nd h2 f).imp id λ⟨e,A,x,s,B,lt⟩=>?_;have E:=xY (o.la l (g_ k)).ok (wJ r (o.tr t u).nd) (zu J) hn x s;rw[B]at E;subst e;exact .share A (g_ (j9 k)) rfl (by show((i5 M m t ns).pl _).length<_;unfold i5;omega)
 |@deal t z L i l k hh hn=>cases G with|deal u Y T r J=>
   have r:(My.deal L z.toNat).length=t.arms.length:=by rw[kR];exact r
   refine(on h o k r (o.tr t u).nd h2 f).imp id λ⟨e,A,x,s,B,lt⟩=>?_;have E:=xY (o.la l (g_ k)).ok (wJ r (o.tr t u).nd) (zu (zb L z.toNat)) hn x s;rw[B]at E;subst e;exact .deal A (g_ (j9 k)) rfl (by show((i5 M m t _).pl _).length<_;unfold i5;omega)
 |@hold l z i k=>exact(ux (l':={l with S:=bT M.p (bC l.S [(ij,z)]) [(ij,z)]}) k rfl h2 f).imp id λ⟨e,q⟩=>absurd (e▸f) q|pause C=>exact .inl ⟨m,h2,rfl,f⟩|@close t i j l C k hh=>have N:=g_ C;refine(on (M:=M.setT j {t with clo:=true}) (t:={t with clo:=true}) h (o.setT C rfl rfl rfl rfl rfl (o.br t N)) k (Md) (o.tr t N).nd h2 f).imp id λ⟨e,A,_⟩=>.close A|@bar F t i j l C k hh=>
  refine(ux (M:=M.setT j {t with bar:=fK t.bar F}) (l':={l with ins:=cy l.ins (n8 l t F)}) k rfl h2 f).imp id λ⟨e,q⟩=>?_;subst e;have q:g∈n8 m t F:=Decidable.of_not_not λz=>q (List.mem_filter.mpr ⟨f,ol z⟩);unfold n8 at q
  split at q
  ·next w=>obtain⟨y,W,B,O⟩:=w;have X:=List.mem_singleton.mp q;subst X;have:=qD (o.la m h2).nd y W _ f B;rw[this]at O;exact .bar O.symm
  ·cases q|visit v=>
  obtain⟨i,hi⟩:=m3.mp h2;obtain⟨Q,h1,q⟩:=v.las i m hi;refine .inl ⟨_,g_ h1,rfl,?_⟩;rcases q with e|⟨_,_,_,e,_⟩
  ·exact e.symm▸f
  ·exact e.symm▸th _ f
def uy{M:bD}{i:Nat}{l l' c:cD}{x:Str×Str×Str}(g:M.las[i]?=some l)(e:l'.nm=l.nm)(s:∀y∈l'.ins,y∈l.ins)(h2:c∈(M.setL i l').las)(d:x∈c.ins):∃f∈M.las,f.nm=c.nm/\x∈f.ins:=by
 rcases G_ h2 with z|z
 ·exact⟨c,z,rfl,d⟩
 ·rw[z]at d⊢;exact⟨l,g_ g,e.symm,s x d⟩
def oo{M:bD}{i:Nat}{l c:cD}{t:c5}{ns:Ol}{x:Str×Str×Str}(e:M.las[i]?=some l)(h2:c∈(jN M i l t ns).las)(f:x∈c.ins):∃d∈M.las,d.nm=c.nm/\x∈d.ins:=uy (l':={l with S:=i5 M l t ns,ins:=cy l.ins (Am M l (cr l.S (oh t.nm t.arms ns)))}) e rfl (λy b=>(List.mem_filter.mp b).1) h2 f
def dG.comes{M o:bD}{d:Dd}{h:cD}{x:Str×Str×Str}(n:dG M d o)(h2:h∈o.las)(c:x∈h.ins):(∃r∈M.las,r.nm=h.nm/\x∈r.ins)\/d=.visit x.1:=by
 cases n with|layer=>
  rcases Ny.mp h2 with z|z
  ·exact .inl ⟨h,z,rfl,c⟩
  ·rw[List.mem_singleton.mp z]at c;cases c|trial=>exact .inl ⟨h,h2,rfl,c⟩|share b=>exact .inl (oo b h2 c)|deal b=>exact .inl (oo b h2 c)|@hold l z i b=>exact .inl (uy (l':={l with S:=bT M.p (bC l.S [(ij,z)]) [(ij,z)]}) b rfl (λy m=>m) h2 c)|pause=>exact .inl ⟨h,h2,rfl,c⟩|@close t i j l u b=>exact .inl (oo (M:=M.setT j {t with clo:=true}) b h2 c)|@bar g t i j l u b=>exact .inl (uy (M:=M.setT j {t with bar:=fK t.bar g}) (l':={l with ins:=cy l.ins (n8 l t g)}) b rfl (λy m=>(List.mem_filter.mp m).1) h2 c)|visit v=>
  obtain⟨i,hi⟩:=m3.mp h2;have f:=(d_.mp hi).1;rw[v.len]at f;obtain⟨k,h1,q⟩:=v.las i _ (h_ f);rw[hi]at h1;obtain rfl:=nB h1;have c:x∈k:=c;rcases q with e|⟨_,t,y,e,_⟩
  ·exact .inl ⟨_,t_ f,rfl,e▸c⟩
  ·rw[e]at c;rcases Ny.mp c with z|z
   ·exact .inl ⟨_,t_ f,rfl,z⟩
   ·rw[List.mem_singleton.mp z];exact .inr rfl
theorem uZ.same{M:bD}{v:V}(s:aq H H')(h:uZ K H M v):uZ K H' M v:=by cases h with|form h=>exact .form (h.same s)|pause h=>exact .pause (aq.tseq s h)|go h=>exact .go (aq.tseq s h)|layer h h1=>exact .layer (aq.tseq s h) h1|trial h h1=>exact .trial (aq.tseq s h) h1|arms h h1 h2 h3 h4=>exact .arms (aq.tseq s h) h1 h2 (aq.tseq s h3) h4|share h h1 h2 h3=>exact .share (aq.tseq s h) h1 (aq.tseq s h2) h3|deal h h1=>exact .deal (aq.tseq s h) h1|hold h h1=>exact .hold (aq.tseq s h) h1|bar h h1 h2 h3=>exact .bar (aq.tseq s h) h1 h2 h3|close h h2 h3=>exact .close (aq.tseq s h) h2 h3|guest h=>exact .guest (aq.tseq s h)|marks h h1 h2=>exact .marks (aq.tseq s h) h1 (h2.same s)
def JQ(K:N_)(H:Hp)(M:bD)(v:V):Prop:=uZ K H M v\/∃b l z,v=.ref b/\aS K H b [.str "hold",.str l.nm,.int z]/\l∈M.las/\0<=z
theorem JQ.same{M:bD}{v:V}(s:aq H H')(h:JQ K H M v):JQ K H' M v:=h.imp (·.same s) λ⟨b,l,z,h1,h2,h3⟩=>⟨b,l,z,h1,aq.tseq s h2,h3⟩
def EvO(K:N_)(M:bD)(c:St)(te:TE):Prop:=∀(H:Hp)(Q:VK),(∀v H',aq H H'->JQ K H' M v->Q v H')->te c H Q
def AJ(K:N_)(M:bD)(c:St)(n:Nat)(d:TA):Prop:=∀(H:Hp)(Q:List V->Hp->Prop),(∀b H',aq H H'->b.length=n->(∀u∈b,JQ K H' M u)->Q b H')->d c H Q
def LZ(K:N_)(M:bD)(H:Hp)(n:Nat)(v:V):Prop:=∃a b,v=.ref a/\H a=some (.lst b)/\b.length=n/\∀u∈b,JQ K H M u
def Fo{te:TE}{i:Nat}{u:TS}{D:j3}{c:St}(h:te c H λx d=>u D (c.set i (some x)) d):tf (wL te (jK i)) u D c H:=h
def oj{p b:Addr}{o c:HO}(h:H p=some o)(d:H b=none):aI H b c p=some o:=by rw[au (aH h d)];exact h
section
variable{K:N_}{M:bD}{c:St}{te:TE}{d:TA}{m n:Nat}{H:Hp}{Q:VK}
def AJ.nil:AJ K M c 0 HY:=λH Q h=>h [] H (aq.refl H) rfl λ_ z=>nomatch z
def AJ.cons(h1:EvO K M c te)(h2:AJ K M c n d):AJ K M c (n+1) (Hn te d):=λH Q h=>h1 H _ λv e f o=>h2 e _ λg i b j k=>h (v::g) i (f.trans b) (by rw[pw,j]) λu l=>by
 rcases tA.mp l with rfl|z
 ·exact o.same b
 ·exact k u z
def D4(h:AJ K M c n d)(hn:n<=16)(q:∀v H',aq H H'->LZ K M H' n v->Q v H'):Ib d c H Q:=h H _ λe k f g i=>⟨cH (by lia),λp b=>q _ _ (ak f b) ⟨p,e,rfl,ag,g,λu j=>(i u j).same (ak (aq.refl _) b)⟩⟩
def w9{i:Nat}{v:V}(l:LZ K M H m v)(e:c[i]?=some (some v))(h:AJ K M c n d)(hn:m+n<=16)(q:∀v H',aq H H'->LZ K M H' (m+n) v->Q v H'):HX KF (FE i) (Ib d) c H Q:=by
 obtain⟨a,k,rfl,o,r,s⟩:=l;refine⟨_,e,D4 h (by lia) λv B f⟨b,t,e,x,g,y⟩=>⟨a,b,k,t,rfl,e,f _ _ o,x,cH (by lia),λp j=>q _ _ (ak f j) ⟨p,U rfl ⟨ag,by rw[k_,r,g],λu A=>JQ.same (ak (aq.refl _) j) ?_⟩⟩⟩⟩;rcases Ny.mp A with z|z
 ·exact(s u z).same f
 ·exact y u z
end
inductive IE(K:N_)(vs:List V)(H:Hp)(Q:VK)(_E:XK):Prop|mk(sc:Addr)(ns:Ol)(M:bD)(A:xM)(c:Nat)(k:Int)(_:vs=[.ref sc,.ref A.pl,.int k])(_:uX K H sc ns M A c)(_:(0<=k/\k<=1000))(_:iy K ns M A H Q)(_:(0<M.trs.length->∀v H',aq H H'->uZ K H' M v->Q v H'))
section
def w4(T:Txt K mg a):aT P w K mg base dR 7 a.iY.x a.iY.d ["_law_script","_law_plan_here","_law_k"] (IE K):=by
 refine T.iY.ok cj λal A outer s H vs Q E X h=>?_
 ·obtain⟨sc,ns,M,A,c,k,rfl,o,⟨k0,k1⟩,q0,qx⟩:=h;refine⟨_,(ai (bj 3 cj.nd (pc T.eE (cM T) X (ae (Y 0) (ae (Y 2) (ae ah af))))) (ai (aM (PW.pt (fb (aE nR (az aV (Y 3) ah) ah (aG _)) (dL (aE aU (aA (aJ K rfl) (by rfl) T.bF L2.aL (ae (gG K (Y 1) ah) af)) ah (aG _))))) (aj (aB (pc T.wH (D1 T) X (ae (Y 0) (ae (Y 1) (ae (Y 2) af)))))) aF) (ai (iC (gG K (gG K (Y 1) ah) (az aV (az bu (Y 3) ah) (aA (aJ K rfl) (by rfl) T.bF L2.aL (ae (gG K (Y 1) ah) af)))) (gq K rfl rfl (bH (qg 4 cj.nd) (bH (qg 5 cj.nd) gp)))) (ai (bj 6 cj.nd (gG K (gG K (Y 1) ah) (az aV (az bu (Y 3) ah) (aA (aJ K rfl) (by rfl) T.bF L2.aL (ae (gG K (Y 1) ah) af))))) (ai (bj 7 cj.nd (pc T.mS (qA T) X (ae (az aV (az bu (Y 3) ah) ah) (ae (pc T.eE (cM T) X (ae (Y 0) (ae ah (ae ah af)))) af)))) (ai (bj 8 cj.nd (bh (ae (aR (ae ay (ae (Y 6) (ae ah af)))) (ae (aR (ae ay (ae (Y 4) (ae (cZ (dY K rfl) (by rfl) T.dJ L2.bP (ae (sQ mR ["_law_j"] [] [9] (ao mm) (bY 9) (cY rfl T.eh (ae (az bR (Y 5) ah) af)) (λcl C s₀ H₀ ex=>⟨(nA mR ["_law_j"] 9),ck,ah⟩)) af)) af)))) (ae (aR (ae ay (ae ay (ae (aR af) af)))) af))))) (ai (bj 8 cj.nd (az oF (Y 8) (bh (ae (aR (ae ay (ae (Y 7) (ae ay af)))) (ae jS (ae (aR (ae ay af)) (ae (aR (ae ay (ae (Y 6) (ae (Hv CT ah) af)))) (ae (aR (ae ay (ae (Y 6) (ae (az DV ah ah) af)))) af)))))))) (ai (bj 8 cj.nd (az oF (Y 8) (bh (ae (aR (ae ay (ae (Y 4) (ae (Y 6) (ae (aR (ae ay af)) (ae (aR (ae ay af)) (ae (aR af) af))))))) (ae (aR (ae ay (ae (Y 4) (ae ah (ae (aR (ae ah af)) af))))) (ae (bh (ae ay (ae (Y 4) af))) af)))))) (ai (bj 8 cj.nd (az oF (Y 8) (bh (ae (aR (ae ay (ae (Y 7) (ae (bh (ae (aR (ae ay (ae ah af))) af)) af)))) (ae (aR (ae ay (ae (Y 7) (ae (aR (ae (aR (ae ay (ae ah af))) (ae (aR (ae ay (ae ah af))) af))) af)))) (ae (aR (ae ay (ae ay af))) af)))))) (ai (bj 8 cj.nd (az oF (Y 8) (bh (ae (aR (ae ay (ae ay (ae (Y 6) (ae (aR (ae ay (ae ay af))) (ae (aR (ae ay af)) (ae (aR af) af))))))) (ae (aR (ae ay (ae (Y 4) (ae (Y 4) af)))) af))))) (aj (aB (gG K (Y 8) (az aV (az bu (Y 3) ah) ah)))))))))))))),?_⟩
  refine gH λu1 r=>?_;refine U rfl (U rfl ⟨sc,ns,k,95,rfl,o.sq,o.len,⟨by lia,by lia⟩,⟨by decide,by decide⟩,av (lP ?_)⟩);subst r;have x0:=(Bf ns k 95).1;generalize cS ns k 95=x at x0⊢;have y:=o.pl;obtain⟨us,F,O⟩:=y.T;have R:=Paired.length O;rw[show(iJ M).length=M.trs.length from b_ _]at R;refine rH True (0<M.trs.length) (λQ hT hF=>?_) (λ_ N=>?_) (λt0=>?_)
  ·refine U rfl (r2 ⟨(show(0:Int)<5 by decide),_,U rfl ⟨rfl,U rfl (lO (λ_=>hT trivial) (λ_=>?_))⟩⟩);exact U rfl (rX (aY.of y.pl) (am (k:=3) rfl) ⟨_,us.length,rfl,.inl ⟨_,aY.of F,rfl⟩,rfl,U rfl (za (λ_=>hT trivial) (λe=>hF (Nat.pos_of_ne_zero λz=>e (by rw[R,z];rfl))))⟩)
  ·exact U rfl (U rfl (U rfl ⟨sc,ns,M,A,c,k,rfl,o,⟨k0,k1⟩,q0⟩))
  obtain⟨t,b,B,aa,hb⟩:=o.tri F O (x/5) t0;refine gH λu1 r=>?_;refine U rfl (rX (aY.of y.pl) (am (k:=3) rfl) (U rfl (r2 ⟨⟨by decide,by decide⟩,U rfl (rX (aY.of y.pl) (am (k:=3) rfl) ⟨_,us.length,rfl,.inl ⟨_,aY.of F,rfl⟩,_,U rfl ⟨rfl,by show(0:Int)<(us.length:Int);lia,A.T,_,_,U rfl ⟨rfl,aY.of F,aa,?_⟩⟩⟩)⟩)));refine⟨b,U rfl ⟨hb,rfl,_,U rfl (av ⟨_,U rfl (av ⟨rfl,lP ?_⟩)⟩)⟩⟩;subst r;refine gH λu1 r=>?_;have l0:0<(fX M).length:=List.length_pos_of_mem (o.ok.tr t B).hm;have bl:=bJ (x/30) (show(0:Int)<((fX M).length:Int)by lia);obtain⟨nm,ac,ha⟩:=ix bl.1 bl.2;obtain⟨l,Z,rfl⟩:=oi.mp ac;refine U rfl (rX (aY.of y.pl) (am (k:=2) rfl) (U rfl (r2 ⟨⟨by decide,by decide⟩,U rfl (rX (aY.of y.pl) (am (k:=2) rfl) ⟨_,(fX M).length,rfl,.inl ⟨_,aY.of y.L,by rw[b_]⟩,_,U rfl ⟨rfl,by show(0:Int)<((fX M).length:Int);lia,A.L,_,_,U rfl ⟨rfl,aY.of y.L,ha,av (lP ?_)⟩⟩⟩)⟩)));subst r;refine gH λu1 r=>?_;refine U rfl (r2 ⟨⟨by decide,by decide⟩,_,U rfl ⟨rfl,(show(0:Int)<7 by decide),U rfl ⟨sc,ns,4,6,rfl,o.sq,o.len,⟨by decide,by decide⟩,⟨by decide,by decide⟩,x/120%7,cS ns 4 6,rfl,λg H1 s1 hg=>av (lP ?_)⟩⟩⟩);subst r;have hA:=o.same s1;have q:=q0.same s1;have qx:∀v H',aq H1 H'->uZ K H' M v->Q v H':=λv H' s'=>qx t0 v H' (s1.trans s');clear o q0 s1 y hb;have y:=hA.pl;have nn:("nothingso":Str)∉M.trs.map c5.nm:=λz=>by obtain⟨u,hu,e⟩:=oi.mp z;obtain⟨j,hj⟩:=m3.mp hu;exact CS _ _ ((hA.pn.tn j u hj).1.symm.trans e)
  have nw:Wd "nothingso":=⟨by decide,by decide,dk rfl⟩;have ow:Wd "old":=⟨by decide,by decide,dk rfl⟩;have wn:Wd "newtrial":=⟨by decide,by decide,dk rfl⟩;have sz:∀{n:Nat},Nat.ble n 8=true->n<=sizeLine:=λh=>cH (by have:=ND h;lia);refine Fo (D4 (K:=K) (M:=M) (n:=3) (.cons ?_ (.cons ?_ (.cons ?_ .nil))) (by decide) λv1 H2 S o2=>?_)
  ·exactλH Q q=>(U rfl ⟨sz rfl,λp f=>q _ _ (ak (aq.refl H) f) (.inl (.layer (aS.of ag) Z))⟩)
  ·have a4:=(hA.ok.tr t B).a4;refineλH Q q=>(U rfl (U rfl (r2 ⟨(t.arms.length:Int)+1,rfl,by lia,by lia,λD hD=>?_⟩)));refine ff (K:=K) (lo:=0) (n:=((t.arms.length:Int)+1).toNat) (λj G H'=>aq H H'/\H' D=some (.lst G)/\G.length=j) ⟨ak (aq.refl _) hD,ag,rfl⟩ ?_ ?_
   ·rintro j G H2 hj⟨S,I,V⟩;exact av (iZ (bo ⟨I,by rw[nk];lia,lf hj ⟨bv S hD,ag,by rw[k_,V];rfl⟩⟩))
   ·rintro G H2⟨S,I,V⟩;exact⟨D,U rfl (.inl ⟨aY.of I,λwv ad=>⟨sz rfl,λp f=>q _ _ (ak (ak S ad) f) (.inl (.share (aS.of ag) B (aS.of (oj ag f)) (by lia)))⟩⟩)⟩
  ·exactλH Q q=>⟨sz rfl,λp0 h0=>⟨sz rfl,λp f=>q _ _ (ak (ak (aq.refl H) h0) f) (.inl (.guest (aS.of ag)))⟩⟩
  refine Fo (w9 o2 rfl (n:=5) (.cons ?_ (.cons ?_ (.cons ?_ (.cons ?_ (.cons ?_ .nil))))) (by decide) λv2 H3 s3 o3=>?_)
  ·exactλH Q q=>(U rfl ⟨sz rfl,λp f=>q _ _ (ak (aq.refl H) f) (.inl (.bar (aS.of ag) hg nw nn))⟩)
  ·exactλH Q q=>q _ H (aq.refl H) (.inl (.form ⟨_,.non,fJ (dk rfl)⟩))
  ·exactλH Q q=>⟨sz rfl,λp f=>q _ _ (ak (aq.refl H) f) (.inl (.pause (aS.of ag)))⟩
  ·exactλH Q q=>(U rfl ⟨1,rfl,sz rfl,λp f=>q _ _ (ak (aq.refl H) f) (.inl (.hold (aS.of ag) Z))⟩)
  ·exactλH Q q=>(U rfl ⟨10,20,rfl,rfl,⟨by decide,by decide,by decide⟩,sz rfl,λp f=>q _ _ (ak (aq.refl H) f) (.inr ⟨p,l,U rfl ⟨aS.of ag,Z,dk rfl⟩⟩)⟩)
  refine Fo (w9 o3 rfl (n:=3) (.cons ?_ (.cons ?_ (.cons ?_ .nil))) (by decide) λv3 H4 s4 o4=>?_)
  ·exactλH Q q=>(U rfl (U rfl ⟨sz rfl,λJ h1=>⟨sz rfl,λp2 h2=>⟨sz rfl,λp3 h3=>⟨sz rfl,λp f=>q _ _ (ak (ak (ak (ak (aq.refl H) h1) h2) h3) f) (.inl (.trial (aS.of ag) B))⟩⟩⟩⟩))
  ·exactλH Q q=>(U rfl ⟨sz rfl,λJ h1=>⟨sz rfl,λp f=>q _ _ (ak (ak (aq.refl H) h1) f) (.inl (.deal (aS.of ag) B))⟩⟩)
  ·exactλH Q q=>(U rfl ⟨sz rfl,λp f=>q _ _ (ak (aq.refl H) f) (.inl (.form ⟨_,.lst ag,fJ (dk rfl)⟩))⟩)
  refine Fo (w9 o4 rfl (n:=3) (.cons ?_ (.cons ?_ (.cons ?_ .nil))) (by decide) λv4 H5 s5 o5=>?_)
  ·refineλH Q q=>(U rfl ⟨sz rfl,λJ h1=>⟨sz rfl,λp2 h2=>⟨sz rfl,λp f=>q _ _ (ak (ak (ak (aq.refl H) h1) h2) f) (.inl (.marks (aS.of ag) hg (.inl ⟨_,.lst (xs:=[.ref J]) ?_,fJ (dk rfl)⟩)))⟩⟩⟩);exact ak (aq.refl _) f _ _ ag
  ·refineλH Q q=>(U rfl ⟨sz rfl,λJ h1=>⟨sz rfl,λp2 h2=>⟨sz rfl,λp3 h3=>⟨sz rfl,λp f=>?_⟩⟩⟩⟩);refine q _ _ (ak (ak (ak (ak (aq.refl H) h1) h2) h3) f) (.inl (.marks (aS.of ag) hg (.inr ⟨[("age",1),("age",2)],⟨p3,U rfl ⟨aS.of (oj ag f),rfl,λi m e=>?_⟩⟩,λm hm=>?_,by decide,by decide⟩)))
   ·match i,e with|0,e=>cases e;exact⟨J,rfl,aS.of (oj (oj (oj ag h2) h3) f)⟩|1,e=>cases e;exact⟨p2,rfl,aS.of (oj (oj ag h3) f)⟩
   ·have an:=ql;have aw:Wd "age":=⟨by decide,by decide,dk rfl⟩;rcases tA.mp hm with rfl|hm
    ·exact⟨aw,by show-cJ<=1;lia,by show 1<=cJ;lia⟩
    ·rw[List.mem_singleton.mp hm];exact⟨aw,by show-cJ<=2;lia,by show 2<=cJ;lia⟩
  ·exactλH Q q=>⟨sz rfl,λp f=>q _ _ (ak (aq.refl H) f) (.inl (.close (aS.of ag) nw nn))⟩
  refine Fo (w9 o5 rfl (n:=2) (.cons ?_ (.cons ?_ .nil)) (by decide) λv5 H6 s6 o6=>?_)
  ·refineλH Q q=>(U rfl ⟨sz rfl,λJ h1=>⟨sz rfl,λp2 h2=>⟨sz rfl,λp3 h3=>⟨sz rfl,λp f=>q _ _ (ak (ak (ak (ak (aq.refl H) h1) h2) h3) f) (.inl (.arms (aS.of ag) wn Z (aS.of ?_) ow))⟩⟩⟩⟩);exact ak (ak (ak (aq.refl _) h2) h3) f _ _ ag
  ·exactλH Q q=>(U rfl (U rfl ⟨sz rfl,λp f=>q _ _ (ak (aq.refl H) f) (.inl (.go (aS.of ag)))⟩))
  obtain⟨a6,W,rfl,h6,l6,o6⟩:=o6;have b6:=bJ (x/840) (show(0:Int)<16 by decide);obtain⟨v,hv,hm⟩:=uQ (xs:=W) b6.1 (by rw[l6];exact b6.2);have sA:=(((S.trans s3).trans s4).trans s5).trans s6;refine U rfl (U rfl (r2 ⟨⟨by decide,by decide⟩,_,U rfl ⟨rfl,(show(0:Int)<16 by decide),a6,W,_,v,rfl,rfl,aY.of h6,hv,?_⟩⟩));rcases o6 v hm with d|⟨b',l',z,rfl,h1,h2,h3⟩
  ·exact qx v _ sA d
  ·exact q b' (.hold l' z) _ _ (.of sA) h1 (.hold h2 h3) (y.same sA) trivial λz=>absurd z (qr t0)
end
inductive AL(K:N_)(H:Hp)(M:bD):V->Option (Dd×List V)->Prop|dd{b:Addr}{d:Dd}{xs:List V}(h:aS K H b xs)(h1:iS K H M d xs):AL K H M (.ref b) (some (d,xs))|no{v:V}(h:uZ K H M v):AL K H M v none
inductive FN(P:Oe)(w:World)(K:N_)(a:fV)(vs:List V)(H:Hp)(Q:VK)(_E:XK):Prop|mk(M:bD)(Z:ZS)(c:Nat)(v:V)(o:Option (Dd×List V))(_:vs=[.ref (Z.G .hh),v])(_:cU P w K a H M Z c)(_:c<=63)(_:AL K H M v o)(_:(∀d xs,o=some (d,xs)->d.clo=false->∀(r:Addr)(us:List V)(M':bD)(Z':ZS)(H':Hp),dG M d M'->gD H M Z H' M' Z'->cU P w K a H' M' Z' (c+1)->H' r=some (.lst us)->Q (.ref r) H'))(_:((∀d xs,o=some (d,xs)->d.adds=false)->∀H',aq H H'->Q .non H'))
section
def B4(T:Txt K mg a)(I:w.params=a.pm):aT P w K mg base dR 15 a.qU.x a.qU.d ["_law_house","_law_deed_here"] (FN P w K a):=by
 refine T.qU.ok vK λJ A outer s H X Q E F h=>?_
 ·obtain⟨M,Z,c,v,o,rfl,l,hc,f,L,n⟩:=h;refine⟨_,(ai (Gg K rfl rfl rfl T.vi rfl T.xi (λE G σ Xe N=>(II (i:=2) vK.nd rfl (by first|exact Or.inl rfl|exact Or.inr rfl) (GB (Y 0) T.aD T.jn.m ((w5 (P:=P) (w:=w) T I).mono (by decide)) F T.jn.b .nil N (ae (Y 1) af)))) (λea=>(aj (aB jS)))) (aj (aB (Y 2)))),?_⟩
  cases f with|@dd b d p O f=>
   have na:d.adds=false->∀q j,some (d,p)=some (q,j)->q.adds=false:=λh q j e=>by cases e;exact h
   exact nQ l.g.house rfl rfl (U rfl (.inr ⟨M,Z,c,b,d,p,rfl,l,hc,O,f,λt r R S V k nx st y F z W=>av (U rfl (L d p rfl t r R S V k nx st y z)),λB k D=>(U rfl ⟨T.lT,n (na B) k D⟩),λB k D=>(U rfl ⟨T.lV,n (na B) k D⟩)⟩))|no f=>exact(nQ l.g.house rfl rfl (U rfl (.inl ⟨v,M,Z,c,rfl,l,f,λC H' u s=>(U rfl ⟨u,n (λ_ _ e=>nomatch e) H' s⟩)⟩)))
end
def GM:∀{c:List (bQ×V)}{d:List (bQ×Value)}{acc:Od},KV c d->acc.length=d.length->(∀(j:Nat)(v:Value),acc[j]?=some v->∃(k:bQ)(x:Value),d[j]?=some (k,x)/\(aX P w).is k v=true)->bf (c.map λp=>kV p.1) acc:=by
 intro c d acc h
 induction h generalizing acc with|nil=>intro b _;rw[Nz,List.length_eq_zero_iff]at b;rw[b];exact .nil|@cons p q _ _ h _ f=>intro b hi;cases acc with|nil=>cases b|cons v r=>
   refine .cons ?_ (f (by simpa using b) λj u e=>by simpa using hi (j+1) u (by simpa using e));obtain⟨k,x,e,g⟩:=hi 0 v rfl;have e:q=(k,x):=by simpa using e
   show bd (kV p.1) v;rw[show p.1=k by rw[h.1,e]];exact xf g
def Az{X:Cx}(hc:X.calm=true):dw X (.type "list") (λg H Q=>∃(d:Addr)(c:List (bQ×V)),g=[.ref d]/\H d=some (.dK c)/\∀l,H l=none->Q (.ref l) (aI H l (.lst (c.map λp=>kV p.1)))):=by intro i s B H g C Q I r h;obtain⟨d,c,rfl,hd,q⟩:=h;obtain⟨u,rfl,n⟩:=j5 r;obtain rfl:u=Value.ref d:=n;obtain⟨t,x,D,k,f⟩:=I.hok d _ hd;obtain⟨E,y⟩:=f.dictAt;have F:=Paired.length k;refine PySem.W.kdl_call (PySem.W.kdl_dict x) (I.ok.hd hc) y (by lia) λh' tk b z kp e m=>?_;have A:=GM (acc:=b.toList) k (by rw[o0];exact m.1) λj v e=>m.2 j v (by rw[<-vu];exact e);refine⟨.ref s.heap.objs.size,_,I.laid (h':=h') (t':=tk) (a:=s.heap.objs.size) (o:=.lst (c.map λp=>kV p.1)) kp (f_ _) ?_,rfl,q _ (I.hok.fresh (f_ _))⟩;exact⟨by rw[b_];exact t,b.toList,z,A,by simpa using e⟩
theorem yK:∀(ns:Of)(f:Nat->V),(iP ns f).map (λp=>kV p.1)=ns.map V.str|[],_=>rfl|n::r,f=>by show V.str n::(iP r _).map _=V.str n::r.map V.str;rw[yK r]
def gk(l:cD)(t:c5):List Int:=t.arms.map λz=>((l.S.pl (a9 t.nm z)).length:Int)
def ou(l:cD)(g:Str):Option (Str×Str):=(l.ins.find? λx=>decide (x.1=g)).map (·.2)
def eS(M:bD)(g:Str):List (Str×Str×Str):=M.las.filterMap λl=>(ou l g).map λp=>(l.nm,p.1,p.2)
def wE(K:N_)(H:Hp)(c:V):Option (Str×Str)->Prop|none=>c=.non|some p=>∃s,c=.ref s/\aS K H s [.str p.1,.str p.2]
def wE.kp(e:Kp H H')(h:wE K H c o):wE K H' c o:=by cases o with|none=>exact h|some p=>obtain⟨s,h1,h2⟩:=h;exact⟨s,h1,e.tq h2⟩
def bZ.seat(g:Str)(h:bZ K H iv ins):wE K H ((bn iv (.inr g)).getD .non) ((ins.find? λx=>decide (x.1=g)).map (·.2)):=by induction h with|nil=>rfl|@cons _ y _ _ h _ b=>
  by_cases e:y.1=g
  ·obtain⟨h1,s,h2,h3⟩:=h;rw[cz (by rw[h1,e]),List.find?_cons_of_pos (by simp[e]),h2];exact⟨s,rfl,h3⟩
  ·rw[bM (λz=>e (by rw[h.1]at z;exact sT z)),List.find?_cons_of_neg (by simp[e])];exact b
def wF(K:N_)(H:Hp)(g:Str)(d:List V)(ls:List cD):Prop:=Paired (λ(u:V)(l:cD)=>∃b c,u=.ref b/\aS K H b [.str l.nm,c]/\wE K H c (ou l g)) d ls
def gF(K:N_)(H:Hp)(c:List V)(d:List (Str×Str×Str)):Prop:=Paired (λ(u:V)(y:Str×Str×Str)=>∃b,u=.ref b/\aS K H b [.str y.1,.str y.2.1,.str y.2.2]) c d
theorem wF.kp{g:Str}(e:Kp H H'){c:List V}{ls:List cD}(h:wF K H g c ls):wF K H' g c ls:=Paired.mapP h λ_ _ q=>q.imp λ_ q=>q.imp λ_ q=>⟨q.1,e.tq q.2.1,q.2.2.kp e⟩
def gF.kp(e:Kp H H')(h:gF K H c d):gF K H' c d:=Paired.mapP h λ_ _ q=>q.imp λ_ q=>⟨q.1,e.tq q.2⟩
def wF.get{g:Str}{c:List V}{ls:List cD}(h:wF K H g c ls)(k:Nat)(u:V)(e:c[k]?=some u):∃l,ls[k]?=some l/\∃b d,u=.ref b/\aS K H b [.str l.nm,d]/\wE K H d (ou l g):=Paired.at_ h k u e
inductive Ku(vs:List V)(H:Hp)(Q:VK)(_E:XK):Prop|mk(x:Str)(d:Addr)(kvs:List (bQ×V))(_:vs=[.str x,.ref d])(_:Wd x)(_:H d=some (.dK kvs))(_:(bn kvs (.inr x)).isSome=true)(_:∀H',aq H H'->Q .non H')
inductive Ii(P:Oe)(w:World)(K:N_)(a:fV)(vs:List V)(H:Hp)(Q:VK)(_E:XK):Prop|mk(M:bD)(Z:ZS)(c:Nat)(_:vs=[.ref (Z.G .hh)])(_:cU P w K a H M Z c)(_:∀(r:Addr)H',aq H H'->H r=none->H' r=some (.lst ((M.trs.map c5.nm).map V.str))->Q (.ref r) H')
inductive Il(P:Oe)(w:World)(K:N_)(a:fV)(vs:List V)(H:Hp)(Q:VK)(_E:XK):Prop|mk(M:bD)(Z:ZS)(c i j:Nat)(l:cD)(t:c5)(z:Str)(_:vs=[.ref (Z.G .hh),.str t.nm,.str z])(_:cU P w K a H M Z c)(_:M.trs[j]?=some t)(_:M.las[i]?=some l)(_:l.nm=t.home)(_:∀(r:Addr)H',aq H H'->H r=none->H' r=some (.lst ((l.S.pl (a9 t.nm z)).map V.int))->Q (.ref r) H')
inductive Di(P:Oe)(w:World)(K:N_)(a:fV)(vs:List V)(H:Hp)(Q:VK)(_E:XK):Prop|mk(M:bD)(Z:ZS)(c i j:Nat)(l:cD)(t:c5)(_:vs=[.ref (Z.G .hh),.str t.nm])(_:cU P w K a H M Z c)(_:M.trs[j]?=some t)(_:M.las[i]?=some l)(_:l.nm=t.home)(_:∀(r:Addr)H',aq H H'->H r=none->H' r=some (.tup ((gk l t).map V.int))->Q (.ref r) H')
inductive FO(P:Oe)(w:World)(K:N_)(a:fV)(vs:List V)(H:Hp)(Q:VK)(_E:XK):Prop|mk(M:bD)(Z:ZS)(c:Nat)(g:Str)(_:vs=[.ref (Z.G .hh),.str g])(_:cU P w K a H M Z c)(_:xT g)(_:∀(r:Addr)(us:List V)H',aq H H'->H r=none->H' r=some (.lst us)->gF K H' us (eS M g)->Q (.ref r) H')
inductive JC(P:Oe)(w:World)(K:N_)(H1:Hp)(M:bD)(Z:ZS)(g:Str)(D:Addr)(ep:Nat)(k:Nat)(acc:List V)(H2:Hp):Prop|mk(f:∀b o,H1 b=some o->b≠Z.G .ln->H2 b=some o)(hu:H2 (Z.G .ln)=some (dE P w (Z.G .ln) (iP (M.las.map cD.nm) λi=>.ref (Z.G (.lo i))) ep))(hD:H2 D=some (.lst acc))(hR:wF K H2 g acc (M.las.take k)):JC P w K H1 M Z g D ep k acc H2
section
def ug(T:Txt K mg a):aT P w K mg base dR 3 a.gc.x a.gc.d ["thing","names"] Ku:=by
 refine T.gc.ok tK λf A outer s H i Q E c h=>?_
 ·obtain⟨x,d,b,rfl,h1,h2,h3,q⟩:=h;refine⟨_,(aj (aM (PW.pt (fb (cf (aQ K rfl (pc T.eu (gM T) c (ae (Y 0) af)) (λ_=>rfl))) (dL (mz (kC (cb c) (Y 0) (Y 1)) rfl)))) (aj fM) aF)),?_⟩;refine⟨_,rfl,V.str x,rfl,.inl ⟨x,rfl,h1,λg e=>⟨_,rfl,bX ?_⟩⟩⟩;refine U rfl (U rfl (rG (bn b (.inr x)) (dH.k (k:=.inr x) (e _ _ h2)) (U rfl ?_)));rw[h3];exact bX (q g e)
def sw(T:Txt K mg a):aT P w K mg base dR 1 a.eI.x a.eI.d ["self"] (Ii P w K a):=by
 refine T.eI.ok rZ λf A outer s H i Q E j h=>?_
 ·obtain⟨M,Z,c,rfl,b,q⟩:=h;refine⟨_,(aj (aB (cZ (Az rfl) (by rfl) T.zZ L2.qP (ae (aK K rfl (Y 0)) af)))),?_⟩;exact iz b.g.house T.aD T.aP rfl rfl ⟨Z.G .tn,U rfl ⟨b.g.tris,λl e=>q l _ (ak (aq.refl H) e) e (by rw[ag,yK])⟩⟩
def oH(T:Txt K mg a):aT P w K mg base dR 2 a.cP.x a.cP.d ["self","trial","arm"] (Il P w K a):=by
 refine T.cP.ok oy λR A outer s H X Q E n h=>?_
 ·obtain⟨M,Z,c,i,j,l,t,z,rfl,e,L,B,hh,q⟩:=h;refine⟨_,(aj (aB (bA (aK K rfl (d7 (cb n) (aK K rfl (Y 0)) (aK K rfl (d7 (cb n) (aK K rfl (Y 0)) (Y 1) (λ_ _=>rfl))) (λ_ _=>rfl))) T.bx T.bg.m ((d9 (P:=P) (w:=w) T).mono (by decide)) n T.bg.b .nil bw (ae (aR (ae (Y 1) (ae (Y 2) af))) af)))),?_⟩;have N:=e.g.house;have C:=e.g.trial L;obtain⟨m,f,D⟩:=e.g.tab B;obtain⟨S,F⟩:=f.ins;have u:=e.ok.lget (Z:=Z) B;rw[hh]at u;refine iz N T.aD T.aW rfl rfl ?_;refine iz N T.aD T.aP rfl rfl (U rfl (rG (.ref (Z.G (.tr j))) (by rw[<-e.ok.tget (Z:=Z) L];exact dH.k (k:=.inr t.nm) e.g.tris) ?_));refine rF C T.bq T.ii rfl (rG (.ref (Z.G (.lo i))) (by rw[<-u];exact dH.k (k:=.inr t.home) e.g.lays) ?_);refine rF (e.g.layer B) T.ce T.fc rfl (rM F rfl ?_);refine U rfl (U rfl ⟨ls rfl,λv I=>?_⟩);have y:=ak (o:=.tup [.str t.nm,.str z]) (aq.refl H) I;have O:aI H v (.tup [.str t.nm,.str z]) v=some (.tup [.str t.nm,.str z]):=ag;generalize aI H v (.tup [.str t.nm,.str z])=H4 at y O⊢;refine⟨Z.G (.tb i),Z.G (.od i),Z.G (.td i),M.p,Z.ow i,Z.tk i,m,a9 t.nm z,.ref v,rfl,f.same y,⟨v,rfl,aS.of O⟩,λr V W n J=>q r V (y.trans W) (y.free n) ?_⟩;rw[<-D.1];exact J
def sx(T:Txt K mg a):aT P w K mg base dR 4 a.eJ.x a.eJ.d ["self","trial"] (Di P w K a):=by
 refine T.eJ.ok r6 λaa A outer s H vs Q E p h=>?_
 ·obtain⟨M,Z,c,i,j,l,t,rfl,o,y,hl,hh,q⟩:=h;refine⟨_,(ai (aZ (pc T.gc (ug T) p (ae (Y 1) (ae (aK K rfl (Y 0)) af)))) (aj (aB (cZ (dY K rfl) (by rfl) T.dJ L2.bP (ae (sQ jl ["arm"] [] [2] (ao i7) (bY 2) (ie K rfl (aK K rfl (d7 (cb p) (aK K rfl (Y 0)) (Y 1) (λ_ _=>rfl)))) (λcl C s₀ H₀ ex=>⟨(nA jl ["arm"] 2),ck,(aA (aJ K rfl) (by rfl) T.bF L2.aL (ae (bA (Y 0) T.aD T.cP.m ((oH (P:=P) (w:=w) T).mono (by decide)) p T.cP.b .nil bw (ae (Y 1) (ae (Y 2) af))) af))⟩)) af))))),?_⟩
  have I:=o.g.house;have J:=o.g.trial y;have B:=o.ok.tr t (g_ y);obtain⟨F,-,-⟩:=o.g.trs j t y;have R:=o.ok.tget (Z:=Z) y;have a4:=B.a4;refine U rfl (iz I T.aD T.aP rfl rfl ⟨t.nm,Z.G .tn,(iP (M.trs.map c5.nm) λi=>.ref (Z.G (.tr i))),rfl,B.wd,o.g.tris,by rw[R];rfl,λH1 u=>?_⟩);refine iz (u _ _ I) T.aD T.aP rfl rfl (U rfl (rG (.ref (Z.G (.tr j))) (by rw[<-R];exact dH.k (k:=.inr t.nm) (u _ _ o.g.tris)) ?_));refine rF (u _ _ J) T.bq T.eQ rfl ⟨Z.ar j,rfl,⟨_,aq.tseq u F⟩,λD W=>?_⟩;have L:H D=none:=u.free W;refine gC (K:=K) (a:=Z.ar j) (xs:=t.arms.map V.str) (λk f H'=>aq H H'/\H' D=some (.lst f)/\f=((gk l t).take k).map V.int) ⟨ak u W,ag,rfl⟩ (λk f H' _ h=>aq.tseq h.1 F) ?_ ?_
  ·rintro k x f H2 N⟨v,n,rfl⟩;have hi:k<(t.arms.map V.str).length:=(d_.mp N).1;rw[i_]at N;obtain⟨z,hz,rfl⟩:=Option.map_eq_some_iff.mp N;refine av (iZ (bo ?_));refine nQ (v _ _ I) rfl rfl (U rfl (U rfl ⟨M,Z,c,i,j,l,t,z,rfl,o.same v,y,hl,hh,λr H3 X p O=>?_⟩));refine⟨_,U rfl ⟨.inl ⟨_,aY.of O,rfl⟩,X _ _ n,by rw[b_,o8,nk];rw[b_]at hi;lia,lf hi ⟨bv (v.trans X) L,ag,?_⟩⟩⟩;have e:(gk l t)[k]?=some ((l.S.pl (a9 t.nm z)).length:Int):=by unfold gk;rw[i_,hz];rfl
   rw[dI e,me,b_];rfl
  ·rintro f H2⟨v,n,rfl⟩;rw[b_,oD (by unfold gk;rw[b_];exact f_ _)]at n;exact⟨D,U rfl (.inl ⟨aY.of n,λr p=>q r _ (ak v p) (v.free p) ag⟩)⟩
def mB(T:Txt K mg a):aT P w K mg base dR 4 a.dA.x a.dA.d ["self","guest"] (FO P w K a):=by
 refine T.dA.ok mf λbb A outer s H vs Q E hr h=>?_
 ·obtain⟨M,Z,c,g,rfl,hZ,hg,q⟩:=h;refine⟨_,(ai (aZ (pc T.bK (ui T) hr (ae (Y 1) af))) (ai (zO (P:=P) (w:=w) (Fa 2 dC ["name","layer"] [] [3,4] (ao ib) (xo _ 3 4) (yp (P:=P) (w:=w) (aK K rfl (Y 0))) (λcl C s₀ H₀ ex=>⟨(gq K rfl rfl (bH (nA dC ["name","layer"] 3) (bH (nA dC ["name","layer"] 4) gp))),ck,(aR (ae (Y 3) (ae (t9 (cb hr) (aK K rfl (Y 4)) (Y 1) ⟨rfl,rfl,rfl,rfl⟩) af)))⟩) mf.nd)) (aj (aB (sQ dC ["name","seat"] [] [3,4] (ao ib) (xo _ 3 4) (c7 K rfl (Y 2)) (λcl C s₀ H₀ ex=>⟨(gq K rfl rfl (bH (nA dC ["name","seat"] 3) (bH (nA dC ["name","seat"] 4) gp))),(mY (aE wU (Y 4) jS (aG _))),(az (uc K rfl) (aR (ae (Y 3) af)) (Y 4))⟩)))))),?_⟩
  have aa:=hZ.ok.l4;refine U rfl ⟨g,rfl,hg,λH1 s1=>?_⟩;have J:=hZ.same s1;have ac:=J.g.lays;refine iz J.g.house T.aD T.aW rfl rfl ⟨Z.G .ln,U rfl ⟨ac,λep=>λD hD=>?_⟩⟩;have nd:Z.G .ln≠D:=λz=>by rw[<-z,ag]at hD;cases hD
  have ad:H1 D=none:=by rw[au (rb nd)]at hD;exact hD
  refine xu (n:=M.las.length) (JC P w K H1 M Z g D ep) ⟨λb o e n=>by rw[au (aH e ad),au n];exact e,by rw[au nd,ag],ag,.nil⟩ (λk f H2 O h=>by obtain⟨_,h,_⟩:=h;exact⟨h,by rw[iO,b_];exact O⟩) ?_ ?_
  ·rintro k f H4 x H5 O⟨f4,t,R,I⟩⟨T1,kk,vv,a5,rfl,rfl,al⟩;obtain⟨l,N⟩:∃l,M.las[k]?=some l:=⟨_,h_ O⟩;rw[xa,i_,N]at al;obtain⟨rfl,rfl⟩:=ML (nB al);refine jf a5 λH5 s5 e5=>?_;have e5:H5 T1=some (.tup [.str l.nm,.ref (Z.G (.lo k))]):=e5;have S:sI P w K a H1 H5 M Z c:=⟨J,λb o e n=>s5 _ _ (f4 b o e n)⟩;refine⟨T1,U rfl ⟨aS.of e5,rfl,_,U rfl (av ⟨_,U rfl (av ⟨rfl,iZ (bo ?_)⟩)⟩)⟩⟩;have a6:=S.at_ (r:=.lo k) (by simp only[cont,N];rfl) (by simp);have an:=S.at_ (r:=.iu k) (by simp only[cont,N];rfl) (by simp);refine U rfl (iz a6 T.ce T.bV rfl rfl ⟨Z.G (.iu k),rfl,.inl ⟨_,.inl an⟩,U rfl ⟨bn (Z.iv k) (.inr g),dH.k (k:=.inr g) an,ls rfl,λT6 a7=>?_⟩⟩);refine jf a7 λH6 F e6=>?_;have m:=F _ _ (s5 _ _ R);have kp:Kp H6 (aI H6 D (.lst (f++[.ref T6]))):=.lst m;have ap:f.length<=4:=by rw[Paired.length I];exact n7 (List.length_take_le' _ _) aa
   refine⟨m,by rw[nk];lia,lf O ⟨λb o e n=>by rw[au (aH e ad)];exact F _ _ (s5 _ _ (f4 b o e n)),by rw[au nd];exact F _ _ (s5 _ _ t),ag,?_⟩⟩;rw[dI N];have a8:=(J.g.seats k _ N).seat g;exact Paired.snoc (((I.kp (.of s5)).kp (.of F)).kp kp) ⟨T6,U rfl ⟨kp.tq (aS.of e6),((a8.kp S.kp).kp (.of F)).kp kp⟩⟩
  ·rintro f H4⟨f4,t,R,I⟩;rw[oD (f_ _)]at I;refine⟨⟨t,by rw[iO,b_];exact f_ _⟩,av ⟨Z.G .ln,_,ep,t,?_⟩⟩;have sF:aq H1 (aI H4 (Z.G .ln) (.dK (iP (M.las.map cD.nm) λi=>.ref (Z.G (.lo i))))):=λb o e=>by
    by_cases z:b=Z.G .ln
    ·rw[z,ac]at e;rw[z,ag];exact e
    ·rw[au z];exact f4 b o e z
   have kp:Kp H4 (aI H4 (Z.G .ln) (.dK (iP (M.las.map cD.nm) λi=>.ref (Z.G (.lo i))))):=⟨λu xs e=>by rw[au λz=>by rw[z,t]at e;cases e];exact e,λu o⟨o',e⟩=>⟨o',by rw[au λz=>by rw[z,t]at e;cases e];exact e⟩⟩;have V:aI H4 (Z.G .ln) (.dK (iP (M.las.map cD.nm) λi=>.ref (Z.G (.lo i)))) D=some (.lst f):=by rw[au (rb nd)];exact R
   have W:=I.kp kp;generalize aI H4 (Z.G .ln) (.dK (iP (M.las.map cD.nm) λi=>.ref (Z.G (.lo i))))=H5 at sF V W⊢;have ap:f.length=M.las.length:=Paired.length W;refine U rfl ⟨D,rfl,⟨_,aY.of V⟩,λD2 X=>?_⟩;refine gR (K:=K) (a:=D) (xs:=f) (λk j H'=>aq H5 H'/\H' D2=some (.lst j)/\gF K H' j ((M.las.take k).filterMap λl=>(ou l g).map λp=>(l.nm,p.1,p.2))) ⟨ak (aq.refl _) X,ag,.nil⟩ (λk j H' _ h=>aY.of (h.1 _ _ V)) ?_ ?_
   ·rintro k v j H6 hv⟨F,m,y⟩;have O:k<f.length:=(d_.mp hv).1;obtain⟨l,N,b,sv,rfl,hb,B⟩:=W.get k v hv;have as:j.length<=4:=by rw[Paired.length y];exact n7 (Mw _ _) (n7 (List.length_take_le' _ _) aa)
    refine⟨b,U rfl ⟨aq.tseq F hb,rfl,_,U rfl (av ⟨_,U rfl (av ⟨rfl,?_⟩)⟩)⟩⟩;cases L:ou l g with|none=>rw[L]at B;have B:sv=.non:=B;subst B;refine U rfl ⟨rfl,U rfl (bX (lf O ⟨F,m,?_⟩))⟩;rw[dI N,Me,L6,L];exact(E2 _).symm▸y|some p=>rw[L]at B;obtain⟨s,rfl,hs⟩:=B;refine U rfl ⟨rfl,U rfl (bo (U rfl ⟨ls rfl,λT7 ax=>(U rfl ⟨T7,s,[.str l.nm],U rfl ⟨rfl,aS.of ag,aq.tseq (ak F ax) hs,by simp,by rw[nk];simp,λz=>(nomatch z),λ_ T8 ba=>?_⟩⟩)⟩))⟩;refine jf ba λH9 s8 e9=>?_;have s9:=(ak (o:=.tup [.str l.nm]) (aq.refl H6) ax).trans s8;have e9:H9 T8=some (.tup [.str l.nm,.str p.1,.str p.2]):=e9;have a2:=s9 _ _ m;have a3:Kp H9 (aI H9 D2 (.lst (j++[.ref T8]))):=.lst a2;refine⟨a2,by rw[nk];exact sg as (ov rfl),lf O ⟨bv (F.trans s9) X,ag,?_⟩⟩;rw[dI N,Me,L6,L];exact Paired.snoc ((y.kp (.of s9)).kp a3) ⟨T8,rfl,a3.tq (aS.of e9)⟩
   ·rintro j H6⟨F,m,y⟩;rw[ap,oD (f_ _)]at y;exact q D2 j H6 ((s1.trans sF).trans F) (s1.free (sF.free X)) m y
end
def ca(h:H b=some o)(n:H b=none):False:=by rw[h]at n;cases n
def Af(c:H o=some x)(h1:∀d,x≠.tup d)(h2:∀y z,x≠.frz y z)(f:∀b ob,H b=some ob->b≠o->H' b=some ob):Kp H H':=⟨λu d e=>f _ _ e λz=>(by rw[z,c]at e;exact h1 _ (nB e)),λu y⟨g,e⟩=>⟨g,f _ _ e λz=>by rw[z,c]at e;exact h2 _ _ (nB e)⟩⟩
section
variable{P:Oe}{w:World}{K:N_}{a:fV}{I H g E F:Hp}{M p:bD}{Z j:ZS}{ns:Ol}{A:xM}{dd D:Addr}{c:Nat}{v s:List (bQ×V)}{ls B:Of}{C t:List (Str×Nat)}{d:Dd}{f:List V}
def bG.ntup(h:bG P w K a H M Z)(L:gI M Z b):(∀f,H b≠some (.tup f))/\∀x y,H b≠some (.frz x y):=by
 have lst:∀l f,H l=some (.lst f)->(∀N,H l≠some (.tup N))/\∀x y,H l≠some (.frz x y):=λl f e=>by rw[e];exact⟨λ_ z=>(nomatch z),λ_ _ z=>(nomatch z)⟩
 rcases L with⟨r,O,rfl⟩|⟨i,hi,x,k,e⟩|⟨x,k,e⟩
 ·obtain⟨o,q⟩:=mZ P w a Z O;have im:=(h.imm (H':=λb=>if b=Z.G r then none else H b) q λb o e n=>by show(if b=Z.G r then none else H b)=_;rw[l_ n];exact e).kp;refine⟨λf e=>?_,λx y e=>?_⟩
  ·have:=im.tp _ _ e;rw[mo rfl]at this;cases this
  ·obtain⟨_,this⟩:=im.fz _ _ ⟨_,e⟩;rw[mo rfl]at this;cases this
 ·obtain⟨_,⟨m,q,_⟩,_⟩:=h.tabs i _ (h_ hi);obtain⟨l,f,u,J⟩:=q.ex x k;rw[u]at e;cases e;exact lst _ _ J
 ·obtain⟨l,f,u,J⟩:=h.came.ex x k;rw[u]at e;cases e;exact lst _ _ J
def bG.stp(h:bG P w K a H M Z)(st:gD H M Z g p j):Kp H g:=⟨λu f e=>st.fr _ _ e λz=>(h.ntup z).1 _ e,λu o⟨b,e⟩=>⟨b,st.fr _ _ e λz=>(h.ntup z).2 _ _ e⟩⟩
def gD.nf(st:gD H M Z g p j)(e:H b=some o)(n:¬gI M Z b):¬gI p j b:=λz=>(st.fp b z).elim n (ca e)
end
def rR(K:N_)(H:Hp)(M:bD)(c:List (bQ×V)):Prop:=∀t∈M.trs,∃ar,bn c (.inr t.nm)=some (.ref ar)/\aS K H ar (t.arms.map V.str)
def rR.kp{M:bD}{c:List (bQ×V)}(h:rR K H M c)(e:Kp H H'):rR K H' M c:=λt b=>(h t b).imp λ_ q=>⟨q.1,e.tq q.2⟩
def lw(M:bD)(c:List eU):Prop:=∀t∈M.trs,∀l∈M.las,l.nm=t.home->∀y v,dQ c (a9 t.nm y)=some v->v=.int (l.S.pl (a9 t.nm y)).length
def xQ(M:bD)(c:List eU)(i k:Nat):Prop:=∀j t,M.trs[j]?=some t->∀q y,t.arms[q]?=some y->j<i\/(j=i/\q<k)->(dQ c (a9 t.nm y)).isSome=true
inductive HJ(P:Oe)(w:World)(K:N_)(H:Hp)(M:bD)(D:Addr)(n i k:Nat)(H':Hp):Prop|mk(mv:List eU)(s:aq H H')(h:H' D=some (dM P w D mv))(ks:cT K H' mv)(r:lw M mv)(g:xQ M mv i k)(l:mv.length<=n):HJ P w K H M D n i k H'
section
variable{P:Oe}{w:World}{K:N_}{H f d:Hp}{M:bD}{D:Addr}{n i k c:Nat}{t:c5}{l:cD}{y:Str}{a:List eU}
def lw.put{r:V}(h:lw M a)(m:jo M c)(s:t∈M.trs)(u:l∈M.las)(hh:l.nm=t.home):lw M (fI a (a9 t.nm y) r (.int (l.S.pl (a9 t.nm y)).length)):=λo b p g j x v e=>by
 rw[uv]at e
 split at e
 ·next q=>obtain⟨z,A⟩:=gT q;have B:=qD m.tn o b t s z;subst B;have C:=qD m.ln p g l u (j.trans hh.symm);subst C;rw[A];exact(nB e).symm
 ·exact h o b p g j x v e
def xQ.put{o v:V}(h:xQ M a i k)(p:M.trs[i]?=some t)(r:t.arms[k]?=some y):xQ M (fI a (a9 t.nm y) o v) i (k+1):=λj s b q u g e=>by
 rw[uv]
 split
 ·rfl
 ·next ne=>
  refine h j s b q u g (e.imp id λ⟨m,x⟩=>⟨m,?_⟩)
  by_cases z:q=k
  ·rw[m,p]at b;obtain rfl:=nB b;rw[z,r]at g;exact absurd (by rw[nB g]) ne
  ·lia
def HJ.same(h:HJ P w K H M D n i k f)(s:aq f d):HJ P w K H M D n i k d:=by obtain⟨a,b,h1,e,r,g,l⟩:=h;exact⟨a,b.trans s,s _ _ h1,λx j=>cq (.of s) (e x j),r,g,l⟩
end
inductive Iv(P:Oe)(w:World)(K:N_)(a:fV)(vs:List V)(H:Hp)(Q:VK)(_E:XK):Prop|mk(M:bD)(Z:ZS)(c:Nat)(O:Addr)(kvs:List (bQ×V))(_:vs=[.ref (Z.G .hh),.ref O])(_:cU P w K a H M Z c)(_:H O=some (.dK kvs))(_:rR K H M kvs)(_:∀(D:Addr)H',H D=none->HJ P w K H M D 40 M.trs.length 0 H'->Q (.ref D) H')
section
def yH(T:Txt K mg a):aT P w K mg base dR 5 a.uV.x a.uV.d ["_law_house","_law_arms"] (Iv P w K a):=by
 refine T.uV.ok ma λbb A outer s H vs Q E L h=>?_
 ·obtain⟨M,Z,c,O,bc,rfl,u,al,hA,q⟩:=h;refine⟨_,(ai (bj 2 ma.nd (yu (P:=P) (w:=w))) (ai (d6 qq rfl (c7 K rfl (t7 (Y 0) T.aD T.eI.m ((sw (P:=P) (w:=w) T).mono (by decide)) L T.eI.b .nil bw)) (qg 3 ma.nd) (ai (bj 4 ma.nd (bA (Y 0) T.aD T.eJ.m ((sx (P:=P) (w:=w) T).mono (by decide)) L T.eJ.b .nil bw (ae (Y 3) af))) (aj (d6 qq rfl (cY rfl T.eh (ae (aA (aJ K rfl) (by rfl) T.bF L2.aL (ae (Y 4) af)) af)) (qg 5 ma.nd) (aj (iC (cQ K (Y 4) (Y 5)) (ja (Y 2) (aR (ae (Y 3) (ae (cQ K (d7 (cb L) (Y 1) (Y 3) (λ_ _=>rfl)) (Y 5)) af))) (zE (P:=P) (w:=w) K rfl (cb L))))))))) (aj (aB (Y 2))))),?_⟩
  refineλD hD=>av (lP ?_);have s0:=ak (o:=dM P w D []) (aq.refl H) hD;have h0:HJ P w K H M D 0 0 0 (aI H D (dM P w D [])):=⟨[],s0,ag,λ_ z=>(nomatch z),λ_ _ _ _ _ _ _ z=>(nomatch z),λ_ _ _ _ _ _ z=>by lia,f_ _⟩;generalize aI H D (dM P w D [])=H0 at s0 h0⊢;have W:=u.same s0;refine nQ W.g.house rfl rfl ⟨M,Z,c,rfl,W,λr H1 s1 L X=>⟨r,rfl,⟨_,aY.of X⟩,?_⟩⟩;have bi:=u.ok.tc;refine iV (K:=K) (a:=r) (xs:=(M.trs.map c5.nm).map V.str) (λi p H'=>HJ P w K H M D (4*i) i 0 H'/\H' r=some (.lst ((M.trs.map c5.nm).map V.str))/\(Ex3 λv3 v4 v5=>p=[some (.ref (Z.G .hh)),some (.ref O),some (.ref D),v3,v4,v5])) ⟨h0.same s1,X,_,_,_,rfl⟩ (λi p H' _ h=>aY.of h.2.1) ?_ ?_
  ·rintro i v p H2 hv⟨hm,aa,v3,v4,v5,rfl⟩N R B hN;have hi:i<((M.trs.map c5.nm).map V.str).length:=(d_.mp hv).1;rw[b_,b_]at hi;have I:=h_ hi;rw[i_,i_,I]at hv;obtain rfl:=nB hv;generalize M.trs[i]=t at I;have ht:=g_ I;obtain⟨il,l,hl,hh⟩:=u.ok.home ht;obtain⟨ar,an,ap⟩:=hA t ht;have as:=u.ok.tr t ht;have a4:=as.a4;have ac:aq H H2:=by obtain⟨_,b,_⟩:=hm;exact b
   refine av (nQ (ac _ _ u.g.house) rfl rfl (U rfl ⟨M,Z,c,il,i,l,t,rfl,u.same ac,I,hl,hh,λr2 H3 s3 bl ad=>av (lP ?_)⟩));have sl:(gk l t).length=t.arms.length:=b_ _;refine U rfl ⟨_,t.arms.length,rfl,.inr ⟨_,aS.of ad,by rw[b_,sl]⟩,U rfl ⟨by exact mu _,by lia,?_⟩⟩;refine lu (lo:=0) (n:=t.arms.length) (λk p H'=>HJ P w K H M D (4*i+k) i k H'/\H' r=some (.lst ((M.trs.map c5.nm).map V.str))/\H' r2=some (.tup ((gk l t).map V.int))/\∃v5,p=[some (.ref (Z.G .hh)),some (.ref O),some (.ref D),some (.str t.nm),some (.ref r2),v5]) ⟨hm.same s3,s3 _ _ aa,ad,_,rfl⟩ ?_ ?_
   ·rintro k p H4 hk⟨ax,s4,f,a7,rfl⟩N' R' B' a8;have hy:=h_ hk;generalize t.arms[k]=y at hy;have hs:(gk l t)[k]?=some ((l.S.pl (a9 t.nm y)).length:Int):=by unfold gk;rw[i_,hy];rfl
    obtain⟨J,s5,b2,b3,b4,b5,b6⟩:=ax;rw[show(0:Int)+(k:Int)=((k:Nat):Int)by lia];refine av (U rfl (U rfl (rX (aS.of f) (am (by rw[i_,hs];rfl)) ?_)));refine⟨_,rfl,_,rfl,_,rfl,_,rfl,O,.ref ar,rfl,by rw[<-an];exact dH.k (k:=.inr t.nm) (s5 _ _ al),_,rfl,ar,_,_,_,rfl,rfl,aq.tseq s5 ap,am (by rw[i_,hy];rfl),ls rfl,λT1 ba=>?_⟩;refine jf ba λH5 C e5=>?_;have k5:cR K H5 (a9 t.nm y) (.ref T1):=⟨T1,rfl,aS.of e5⟩;refine⟨D,J,a9 t.nm y,rfl,C _ _ b2,λx hx=>cq (.of C) (b3 x hx),k5,by rw[nk];lia,a8 _ _ ?_⟩;have kp:Kp H5 (aI H5 D (dM P w D (fI J (a9 t.nm y) (.ref T1) (.int (l.S.pl (a9 t.nm y)).length)))):=Af (C _ _ b2) (λ_ z=>(nomatch z)) (λ_ _ z=>(nomatch z)) cA;have nD:r2≠D:=λz=>by rw[z,b2]at f;cases f
    refine⟨⟨_,bv (s5.trans C) hD,ag,λx hx=>cq kp (cT.put (λx hx=>cq (.of C) (b3 x hx)) k5 x hx),b4.put u.ok ht (g_ hl) hh,b5.put I hy,n7 (uw _ _ _ _) (by exact t8 b6)⟩,by rw[au λz=>by rw[z,b2]at s4;cases s4];exact C _ _ s4,by rw[au nD];exact C _ _ f,_,rfl⟩
   ·rintro p H4⟨⟨J,b1,b2,b3,b4,b5,b6⟩,s4,f,a7,rfl⟩;refine hN _ _ ⟨⟨J,b1,b2,b3,b4,λj t2 F q y hq e=>?_,by lia⟩,s4,_,_,_,rfl⟩;refine b5 j t2 F q y hq ?_
    by_cases z:j=i
    ·refine .inr ⟨z,?_⟩;rw[z,I]at F;obtain rfl:=nB F;exact(d_.mp hq).1
    ·exact .inl (by lia)
  ·rintro p H2⟨hm,-,v3,v4,v5,rfl⟩;rw[b_,b_]at hm;obtain⟨J,a1,a2,a3,a4,a5,a6⟩:=hm;exact U rfl (q D H2 hD ⟨J,a1,a2,a3,a4,a5,by lia⟩)
end
inductive J8(a b g:Str)(mb md:List eU):List V->Prop|told{k:Str}{r:List V}{m n:Int}(hk:k="share"\/k="deal")(h1:dQ mb (a9 a b)=some (.int m))(h2:dQ md (a9 a b)=some (.int n))(h3:n<m):J8 a b g mb md (.str k::.str a::r)|close:J8 a b g mb md [.str "close",.str a]|bar:J8 a b g mb md [.str "bar",.str g,.str a]
inductive LG(P:Oe)(w:World)(K:N_)(vs:List V)(H:Hp)(Q:VK)(_E:XK):Prop|mk(dv s B D:Addr)(xs:List V)(g a b:Str)(mb md:List eU)(_:vs=[.ref dv,.str g,.ref s,.ref B,.ref D])(_:aS K H dv xs)(_:aS K H s [.str a,.str b])(_:H B=some (dM P w B mb))(_:cT K H mb)(_:H D=some (dM P w D md))(_:cT K H md)(_:J8 a b g mb md xs)(_:∀H',aq H H'->Q (.bl true) H')
def inS{k:Str}(h:k="share"\/k="deal"):oR (.str k) [.str "share",.str "deal"]=true:=by rcases h with rfl|rfl<;>decide+kernel
section
def zV(T:Txt K mg a):aT P w K mg base dR 2 a.nu.x a.nu.d ["_law_deed_here","_law_guest_here","_law_seat","_law_before","_law_behind"] (LG P w K):=by
 refine T.nu.ok zJ λz A outer s H L Q E t h=>?_
 ·obtain⟨M,s,B,D,N,g,a,b,C,u,rfl,e,o,F,G,v,I,h,q⟩:=h;refine⟨_,(ai (aM (aE (oE K rfl) (cQ K (Y 0) ah) (bh (ae ay (ae ay af))) (by with_unfolding_all rfl)) (aj (aB (cp (bB aU (cQ K (Y 0) ah) (cQ K (Y 2) ah) (aG _)) (c8 (bB vT (yq (P:=P) (w:=w) K rfl (cb t) (Y 4) (Y 2) ah ⟨rfl,rfl,rfl,rfl⟩) (IU (P:=P) (w:=w) K rfl (cb t) (Y 3) (Y 2) (λ_ _=>rfl)) (aG _)))))) aF) (ai (aM (aE aU (cQ K (Y 0) ah) ay (aG _)) (aj (aB (bB aU (cQ K (Y 0) ah) (cQ K (Y 2) ah) (aG _)))) aF) (aj (aB (cp (bB aU (cQ K (Y 0) ah) ay (aG _)) (cp (bB aU (cQ K (Y 0) ah) (Y 1) (aG _)) (c8 (bB aU (cQ K (Y 0) ah) (cQ K (Y 2) ah) (aG _))))))))),?_⟩
  cases h with|@told k r m n J h1 h2 h3=>refine U rfl (rX e (am (k:=0) rfl) ⟨ls rfl,λl i=>?_⟩);refine jf i λf c j=>?_;refine⟨l,U rfl ⟨.inl (aY.of j),rfl,rfl,U rfl ?_⟩⟩;rw[inS J];refine bo ?_;refine U rfl (rX (aq.tseq c e) (am (k:=1) rfl) (U rfl (rX (aq.tseq c o) (am (k:=0) rfl) ⟨rfl,U rfl (be ?_)⟩)));have y:cR K f (a9 a b) (.ref s):=⟨s,rfl,aq.tseq c o⟩;refine U rfl ⟨D,u,rfl,c _ _ v,U rfl ⟨u,a9 a b,c _ _ v,λx p=>cq (.of c) (I x p),y,?_⟩⟩;rw[h2];refine U rfl (U rfl ⟨B,C,a9 a b,.int m,rfl,c _ _ F,λx p=>cq (.of c) (G x p),y,h1,n,m,rfl,rfl,?_⟩);exact iK h3 (q f c)|close=>refine U rfl (rX e (am (k:=0) rfl) ⟨ls rfl,λl i=>?_⟩);refine jf i λf c j=>?_;refine⟨l,U rfl ⟨.inl (aY.of j),rfl,rfl,U rfl ?_⟩⟩;rw[show oR (.str "close") [.str "share",.str "deal"]=false by decide+kernel];refine bX (U rfl (rX (aq.tseq c e) (am (k:=0) rfl) ⟨rfl,U rfl (be ?_)⟩));exact U rfl (rX (aq.tseq c e) (am (k:=1) rfl) (U rfl (rX (aq.tseq c o) (am (k:=0) rfl) ⟨rfl,iK rfl (q f c)⟩)))|bar=>refine U rfl (rX e (am (k:=0) rfl) ⟨ls rfl,λl i=>?_⟩);refine jf i λf c j=>?_;refine⟨l,U rfl ⟨.inl (aY.of j),rfl,rfl,U rfl ?_⟩⟩;rw[show oR (.str "bar") [.str "share",.str "deal"]=false by decide+kernel];refine bX (U rfl (rX (aq.tseq c e) (am (k:=0) rfl) ⟨rfl,U rfl (wn ?_)⟩));refine U rfl (rX (aq.tseq c e) (am (k:=0) rfl) ⟨rfl,U rfl (be ?_)⟩);refine U rfl (rX (aq.tseq c e) (am (k:=1) rfl) (U rfl ⟨rfl,U rfl (be ?_)⟩));exact U rfl (rX (aq.tseq c e) (am (k:=2) rfl) (U rfl (rX (aq.tseq c o) (am (k:=0) rfl) ⟨rfl,iK rfl (q f c)⟩)))
end
def AT{d:Type}{c:List d}{x y:d}{i:Nat}(h:(c++[x])[i]?=some y):c[i]?=some y\/(i=c.length/\y=x):=by
 rcases No i c.length with z|z
 ·exact .inl (by rw[<-h];exact(y_ z).symm)
 ·rw[Mo z]at h;obtain⟨b,e⟩:=d_.mp h;have b:i-c.length<1:=b;obtain rfl:i=c.length:=by lia
  simp only[Nat.sub_self,List.getElem_cons_zero]at e;exact .inr ⟨rfl,e.symm⟩
section
variable{ns:Ol}{M a:bD}{d:Dd}
def Dd.na(h:d.adds=false):v0 M d=fX M/\sY M d=iJ M:=by cases d<;>first|exact⟨rfl,rfl⟩|cases h
def n9.keep(h:n9 ns M)(c:a.p=M.p)(g:a.salt=M.salt)(e:a.las.map (λl=>(l.nm,l.sl))=M.las.map λl=>(l.nm,l.sl))(f:a.trs.map (λt=>(t.nm,t.arms))=M.trs.map λt=>(t.nm,t.arms)):n9 ns a/\a.p=M.p/\a.salt=M.salt/\fX a=fX M/\iJ a=iJ M:=by
 have a1:∀N:bD,fX N=(N.las.map λl=>(l.nm,l.sl)).map Prod.fst:=λN=>by rw[A_];rfl
 have b:∀N:bD,iJ N=(N.trs.map λt=>(t.nm,t.arms)).map λx=>(x.1,x.2.length):=λN=>by rw[A_];rfl
 have k:a.las.length=M.las.length:=by have:=w_ List.length e;rw[b_,b_]at this;exact this
 refine⟨⟨λi l m=>?_,λj t n=>?_,by rw[k,c];exact h.lp,by rw[c];exact h.pr⟩,c,g,by rw[a1,a1,e],by rw[b,b,f]⟩
 ·have q:(M.las.map λl=>(l.nm,l.sl))[i]?=some (l.nm,l.sl):=by rw[<-e,i_,m];rfl
  rw[i_]at q;obtain⟨o,h0,q⟩:=Option.map_eq_some_iff.mp q;rw[<-(ML q).1,<-(ML q).2,c];exact h.ln i o h0
 ·have q:(M.trs.map λt=>(t.nm,t.arms))[j]?=some (t.nm,t.arms):=by rw[<-f,i_,n];rfl
  rw[i_]at q;obtain⟨r,h0,q⟩:=Option.map_eq_some_iff.mp q;rw[<-(ML q).1,<-(ML q).2];exact h.tn j r h0
def dG.nx(h:n9 ns M)(n:dG M d a)(f:He ns M d):n9 ns a/\a.p=M.p/\a.salt=M.salt/\fX a=v0 M d/\iJ a=sY M d:=by cases n with
 |@layer nm sl=>
  obtain⟨k,m,o⟩:=f;refine⟨⟨λi l b=>?_,h.tn,?_,h.pr⟩,rfl,rfl,me,rfl⟩
  ·rcases AT b with b|⟨rfl,rfl⟩
   ·exact h.ln i l b
   ·exact⟨k,m⟩
  ·show(M.las++[_]).length<=M.p+1;rw[k_];exact o|@trial x=>
  refine⟨⟨h.ln,λj t e=>?_,h.lp,h.pr⟩,rfl,rfl,rfl,me⟩;rcases AT e with e|⟨rfl,rfl⟩
  ·exact h.tn j t e
  ·exact f|share b hh hn=>exact h.keep rfl rfl (c9 b _ rfl) rfl|deal b hh hn=>exact h.keep rfl rfl (c9 b _ rfl) rfl|hold b=>exact h.keep rfl rfl (c9 b _ rfl) rfl|pause c=>exact h.keep rfl rfl rfl (c9 c _ rfl)|close c b hh=>exact h.keep rfl rfl (c9 b _ rfl) (c9 c _ rfl)|bar c b hh=>exact h.keep rfl rfl (c9 b _ rfl) (c9 c _ rfl)|visit v=>
  refine h.keep v.p v.salt (C_ λi=>?_) (by rw[v.trs]);rw[i_,i_]
  by_cases hi:i<M.las.length
  ·obtain⟨g,h1,_⟩:=v.las i _ (h_ hi);rw[h1,h_ hi];rfl
  ·rw[p_ (by have:=v.len;lia),p_ (by exact MI hi)]
end
structure nC(P:Oe)(w:World)(K:N_)(a:fV)(H0 H:Hp)(ns:Ol)(M:bD)(Z:ZS)(A:xM)(c:Nat)(ls:Of)(ts:List (Str×Nat)):Prop where
 z:cU P w K a H M Z c
 pl:pZ K H M.p M.salt ls ts A
 pn:n9 ns M
 f1:¬gI M Z A.pl
 f2:¬gI M Z A.L
 f3:¬gI M Z A.T
 bs:∀b o,H0 b=some o->H b=some o/\¬gI M Z b/\b≠A.L/\b≠A.T
section
variable{P:Oe}{w:World}{K:N_}{a:fV}{f H j q:Hp}{M i:bD}{Z t:ZS}{ns:Ol}{A:xM}{v:Addr}{c:Nat}{ls r:Of}{u m:List (Str×Nat)}{d:Dd}
theorem nC.same(h:nC P w K a f H ns M Z A c ls u)(s:aq H j):nC P w K a f j ns M Z A c ls u:={h with z:=h.z.same s,pl:=h.pl.same s,bs:=λb o e=>⟨s _ _ (h.bs b o e).1,(h.bs b o e).2⟩}
def nC.dr(h:nC P w K a f H ns M Z A c (fX M) (iJ M))(sq:aY K f v (ns.map V.int))(l:ns.length<=63):uX K H v ns M A c:=⟨aq.seq (λb o e=>(h.bs b o e).1) sq,l,h.pl,h.z.ok,h.pn,λj g=>aq.seq (λb o e=>g _ _ (h.bs b o e).1 (h.bs b o e).2.2.1) sq⟩
def nC.chg(h:nC P w K a f H ns M Z A c ls u)(n:Ll A H j)(l:pZ K j M.p M.salt r m A):nC P w K a f j ns M Z A c r m:=by
 obtain⟨o,s,kp,k⟩:=n;rcases s with rfl|rfl
 ·exact{h with z:={h.z with g:=h.z.g.out h.f2 kp k},pl:=l,bs:=λb o e=>⟨k _ _ (h.bs b o e).1 (h.bs b o e).2.2.1,(h.bs b o e).2⟩}
 ·exact{h with z:={h.z with g:=h.z.g.out h.f3 kp k},pl:=l,bs:=λb o e=>⟨k _ _ (h.bs b o e).1 (h.bs b o e).2.2.2,(h.bs b o e).2⟩}
def nC.fin(h:nC P w K a f H ns M Z A c (v0 M d) (sY M d))(n:dG M d i)(st:gD H M Z q i t)(p:cU P w K a q i t (c+1))(s:He ns M d):nC P w K a f q ns i t A (c+1) (fX i) (iJ i):=by
 have kp:=h.z.g.stp st;obtain⟨x,y,B,C,D⟩:=n.nx h.pn s;obtain⟨E,k,l⟩:=h.pl.T;refine⟨p,?_,x,st.nf h.pl.pl h.f1,st.nf h.pl.L h.f2,st.nf k h.f3,λb o e=>?_⟩
 ·rw[y,B,C,D];exact⟨st.fr _ _ h.pl.pl h.f1,st.fr _ _ h.pl.L h.f2,⟨E,st.fr _ _ k h.f3,CM.kp kp l⟩,h.pl.n1,h.pl.n2,h.pl.n3⟩
 ·obtain⟨b1,b2,b3⟩:=h.bs b o e;exact⟨st.fr _ _ b1 b2,st.nf b1 b2,b3⟩
def nC.not(h:nC P w K a f H ns M Z A c (v0 M d) (sY M d))(hd:d.adds=false)(s:aq H q):nC P w K a f q ns M Z A (c+1) (fX M) (iJ M):=by obtain⟨b,e⟩:=Dd.na (M:=M) hd;rw[b,e]at h;exact{h.same s with z:=(h.same s).z.mono (so c)}
end
structure zt(K:N_)(H0 H:Hp)(M:bD)(Z:ZS)(A:xM)(O:Addr)(kvs:List (bQ×V)):Prop where
 at_:H O=some (.dK kvs)nf:¬gI M Z O
 n1:O≠A.pl
 n2:O≠A.L
 n3:O≠A.T
 n0:H0 O=none
 ok:rR K H M kvs
 ln:kvs.length<=M.trs.length
def JM(M:bD)(Z:ZS)(A:xM)(O b:Addr):Prop:=¬gI M Z b/\b≠A.L/\b≠A.T/\b≠O
open Classical in
noncomputable def Hr(H:Hp)(M:bD)(Z:ZS)(A:xM)(O:Addr):Hp:=λb=>if JM M Z A O b then H b else none
section
variable{P:Oe}{w:World}{K:N_}{a:fV}{i x H l:Hp}{M t:bD}{Z r:ZS}{ns:Ol}{A:xM}{O:Addr}{c v:Nat}{f j:List (bQ×V)}{ls q:Of}{m p:List (Str×Nat)}
def kx{b:Addr}{o:HO}(h:H b=some o)(s:JM M Z A O b):Hr H M Z A O b=some o:=(mo s).trans h
def IL{b:Addr}{o:HO}(e:Hr H M Z A O b=some o):H b=some o/\JM M Z A O b:=by
 by_cases s:JM M Z A O b
 ·exact⟨(mo s).symm.trans e,s⟩
 ·cases(l_ s).symm.trans e
def nC.based(h:nC P w K a i H ns M Z A c ls m):nC P w K a (Hr H M Z A O) H ns M Z A c ls m:={h with bs:=λb o e=>let⟨d,g,k,n,_⟩:=IL e;⟨d,g,k,n⟩}
def nC.rebase(h0:nC P w K a i H ns M Z A c ls m)(n0:i O=none)(h:nC P w K a (Hr H M Z A O) l ns t r A v q p):nC P w K a i l ns t r A v q p:={h with bs:=λb o e=>let⟨d,g,k,n⟩:=h0.bs b o e;h.bs b o (kx d ⟨g,k,n,aH e n0⟩)}
def nC.new_sf(h:nC P w K a i H ns M Z A c ls m)(d:zt K i H M Z A O f){b:Addr}(e:H b=none):JM M Z A O b:=by obtain⟨n,k,_⟩:=h.pl.T;exact⟨h.z.g.foot e,λz=>ca h.pl.L (z▸e),λz=>ca k (z▸e),λz=>ca d.at_ (z▸e)⟩
def nC.kpr(h0:nC P w K a i H ns M Z A c ls m)(d:zt K i H M Z A O f)(h:∀b o,Hr H M Z A O b=some o->l b=some o):Kp H l:=by
 obtain⟨D,B,_⟩:=h0.pl.T;have s:∀b o,H b=some o->¬gI M Z b->(∀y,o≠.lst y)->(∀k,o≠.dK k)->JM M Z A O b:=λb o e n h1 h2=>by
  refine⟨n,λz=>?_,λz=>?_,λz=>?_⟩
  ·rw[z,h0.pl.L]at e;exact h1 _ (nB e).symm
  ·rw[z,B]at e;exact h1 _ (nB e).symm
  ·rw[z,d.at_]at e;exact h2 _ (nB e).symm
 exact⟨λu y e=>h u _ (kx e (s u _ e (λz=>(h0.z.g.ntup z).1 _ e) (λ_ z=>(nomatch z)) λ_ z=>(nomatch z))),λu o⟨C,e⟩=>⟨C,h u _ (kx e (s u _ e (λz=>(h0.z.g.ntup z).2 _ _ e) (λ_ z=>(nomatch z)) λ_ z=>(nomatch z)))⟩⟩
def nC.putD(h:nC P w K a i H ns M Z A c ls m)(s:H O=some (.dK f))(nf:¬gI M Z O)(n1:O≠A.pl)(n2:O≠A.L)(n3:O≠A.T)(n0:i O=none):nC P w K a i (aI H O (.dK j)) ns M Z A c ls m:=by
 have d:∀b ob,H b=some ob->b≠O->aI H O (.dK j) b=some ob:=λb ob e n=>by rw[au n];exact e
 have kp:Kp H (aI H O (.dK j)):=Af s (λ_ z=>(nomatch z)) (λ_ _ z=>(nomatch z)) d;obtain⟨k,u,y⟩:=h.pl.T;exact{h with z:={h.z with g:=h.z.g.out nf kp d},pl:=⟨d _ _ h.pl.pl (rb n1),d _ _ h.pl.L (rb n2),⟨k,d _ _ u (rb n3),CM.kp kp y⟩,h.pl.n1,h.pl.n2,h.pl.n3⟩,bs:=λb o e=>⟨d _ _ (h.bs b o e).1 (aH e n0),(h.bs b o e).2⟩}
def zt.same(h:zt K i H M Z A O f)(s:aq H l):zt K i l M Z A O f:={h with at_:=s _ _ h.at_,ok:=h.ok.kp (.of s)}
def zt.based(h:zt K i H M Z A O f):zt K (Hr H M Z A O) H M Z A O f:={h with n0:=l_ λz=>z.2.2.2 rfl}
def zt.chg(h:zt K i H M Z A O f)(d:Ll A H l):zt K i l M Z A O f:=by
 obtain⟨o,b,kp,e⟩:=d;refine{h with at_:=e _ _ h.at_ λz=>?_,ok:=h.ok.kp kp};rcases b with rfl|rfl
 ·exact h.n2 z
 ·exact h.n3 z
end
theorem dG.arms{M c:bD}{d:Dd}(n:dG M d c):(∃x,d=.trial x/\c.trs=M.trs++[x])\/((∀x,d≠.trial x)/\c.trs.map (λt=>(t.nm,t.arms))=M.trs.map λt=>(t.nm,t.arms)):=by cases n with|trial=>exact .inl ⟨_,rfl,rfl⟩|pause b=>exact .inr ⟨λ_ z=>(nomatch z),c9 b _ rfl⟩|close b=>exact .inr ⟨λ_ z=>(nomatch z),c9 b _ rfl⟩|bar b=>exact .inr ⟨λ_ z=>(nomatch z),c9 b _ rfl⟩|visit v=>exact .inr ⟨λ_ z=>(nomatch z),by rw[v.trs]⟩|_=>exact .inr ⟨λ_ z=>(nomatch z),rfl⟩
theorem rR.map{M d:bD}{c:List (bQ×V)}(h:rR K H M c)(e:d.trs.map (λt=>(t.nm,t.arms))=M.trs.map λt=>(t.nm,t.arms)):rR K H d c:=λt b=>by
 have:(t.nm,t.arms)∈M.trs.map λt=>(t.nm,t.arms):=by rw[<-e];exact oi.mpr ⟨t,b,rfl⟩
 obtain⟨f,h0,g⟩:=oi.mp this;obtain⟨ar,h1,h2⟩:=h f h0;obtain⟨i,j⟩:=ML g;exact⟨ar,by rw[<-i];exact h1,by rw[<-j];exact h2⟩
def iS.kind{M:bD}{d:Dd}{c:List V}(h:iS K H M d c)(n:∀x,d≠.trial x):∃k r,c=.str k::r/\k≠"trial":=by cases h with|trial=>exact absurd rfl (n _)|_=>exact⟨_,_,rfl,by decide+kernel⟩
def yc{l:cD}{g:Str}{p:Str×Str}(nd:(l.ins.map (·.1)).Nodup):ou l g=some p↔(g,p)∈l.ins:=by
 unfold ou
 constructor
 ·intro h;obtain⟨x,b,e⟩:=Option.map_eq_some_iff.mp h;have h1:=List.mem_of_find?_eq_some b;have h2:x.1=g:=by simpa using List.find?_some b
  rw[<-h2,<-e];exact h1
 ·intro h;obtain⟨x,b⟩:=z8.mp (List.find?_isSome.mpr ⟨_,h,ol rfl⟩:(l.ins.find? λx=>decide (x.1=g)).isSome=true);rw[b,qD nd x (List.mem_of_find?_eq_some b) (g,p) h (by simpa using List.find?_some b)];rfl
def mU{M:bD}{c:Nat}{g:Str}{y:Str×Str×Str}(d:jo M c):y∈eS M g↔∃l∈M.las,l.nm=y.1/\(g,y.2)∈l.ins:=by
 unfold eS;rw[List.mem_filterMap]
 constructor
 ·rintro⟨l,b,e⟩;obtain⟨p,f,e⟩:=Option.map_eq_some_iff.mp e;subst e;exact⟨l,b,rfl,(yc (d.la l b).nd).mp f⟩
 ·rintro⟨l,b,e,h⟩;exact⟨l,b,by rw[(yc (d.la l b).nd).mpr h,<-show(l.nm,y.2.1,y.2.2)=y by rw[e]];rfl⟩
section
variable{K:N_}{H:Hp}{M f:bD}{c p:Nat}{d:Dd}{o:List V}{g a b:Str}{y:Str×Str×Str}{l:cD}{i m:List eU}
def dG.stGoes(n:dG M d f)(u:iS K H M d o)(r:nE M)(s:jo M c)(j:jo f p)(h:y∈eS M g)(h':y∉eS f g):∃l∈M.las,uR M l g y.2.1 y.2.2/\zq f l g y.2.1 y.2.2 d:=by obtain⟨l,k,e,t⟩:=(mU s).mp h;refine⟨l,k,r l k _ t,(n.goes u r s k t).resolve_left λ⟨v,h3,x,q⟩=>h' ((mU j).mpr ⟨v,h3,x.trans e,q⟩)⟩
def dG.stComes(n:dG M d f)(q:jo M c)(j:jo f p)(h:y∈eS f g)(h':y∉eS M g):d=.visit g:=by obtain⟨l,r,e,s⟩:=(mU j).mp h;exact(n.comes r s).resolve_left λ⟨t,h3,u,k⟩=>h' ((mU q).mpr ⟨t,h3,u.trans e,k⟩)
def D5(r:lw M i)(n:xQ M i M.trs.length 0){t:c5}(e:t∈M.trs)(s:l∈M.las)(hh:l.nm=t.home){y:Str}(u:y∈t.arms):dQ i (a9 t.nm y)=some (.int (l.S.pl (a9 t.nm y)).length):=by obtain⟨j,h⟩:=m3.mp e;obtain⟨q,x⟩:=m3.mp u;obtain⟨v,k⟩:=z8.mp (n j t h q y x (.inl (d_.mp h).1));rw[k,r t e l s hh y v k]
def wf(n:uR M l g a b)(v:jo M c)(q:l∈M.las)(x:lw M i)(A:xQ M i M.trs.length 0)(B:lw f m)(gd:xQ f m f.trs.length 0)(C:f.trs=M.trs){h:cD}(j:h∈f.las)(e:h.nm=l.nm)(lt:(h.S.pl (a9 a b)).length<(l.S.pl (a9 a b)).length){k:Str}{r:List V}(D:k="share"\/k="deal"):J8 a b g i m (.str k::.str a::r):=by
 rcases(v.la l q).own _ _ n.2 with z|⟨t,s,hh,y,u,z⟩
 ·exact absurd (gT z).1 n.1
 ·obtain⟨E,F⟩:=gT z;subst E F;exact .told D (D5 x A s q hh.symm u) (D5 B gd (C▸s) j (e.trans hh.symm) u) (by exact NR.mpr lt)
def zq.gov(h:zq f l g a b d)(n:dG M d f)(e:iS K H M d o)(j:uR M l g a b)(q:jo M c)(r:l∈M.las)(s:lw M i)(t:xQ M i M.trs.length 0)(u:lw f m)(gd:xQ f m f.trs.length 0):J8 a b g i m o:=by cases h with|share h1 h2 h3 h4=>cases e;subst h1;exact wf j q r s t u gd (by cases n;rfl) h2 h3 h4 (.inl rfl)|deal h1 h2 h3 h4=>cases e;subst h1;exact wf j q r s t u gd (by cases n;rfl) h2 h3 h4 (.inr rfl)|close h1=>cases e;subst h1;exact .close|bar h1=>cases e;subst h1;exact .bar
end
def lX(y:Str×Str×Str):List Str:=[y.1,y.2.1,y.2.2]
def BS{x y:Str×Str×Str}(h:lX x=lX y):x=y:=by obtain⟨b,c,d⟩:=x;obtain⟨e,f,g⟩:=y;simp only[lX,N7,and_true]at h;obtain⟨rfl,rfl,rfl⟩:=h;rfl
def o7{y:Str×Str×Str}{c:List (Str×Str×Str)}:lX y∈c.map lX↔y∈c:=⟨λh=>by obtain⟨z,b,e⟩:=oi.mp h;rw[<-BS e];exact b,λh=>oi.mpr ⟨y,h,rfl⟩⟩
def gF.data(h:gF K H c d):IsPs K H c ((d.map lX).map qf):=by induction h with|nil=>exact .nil|cons h _ e=>obtain⟨b,rfl,h⟩:=h;exact .cons (.tup h (.cons (.str _) (.cons (.str _) (.cons (.str _) .nil)))) e
def gF.at_{d:List V}{c:List (Str×Str×Str)}(h:gF K H d c){k:Nat}{v:V}(e:d[k]?=some v):∃y∈c,∃b,v=.ref b/\aS K H b [.str y.1,.str y.2.1,.str y.2.2]:=by
 have f:k<c.length:=by rw[<-Paired.length h];exact(d_.mp e).1
 obtain⟨u,g,b,rfl,i⟩:=qw h k _ (h_ f);rw[e]at g;obtain rfl:=nB g;exact⟨_,t_ f,b,rfl,i⟩
def AV{b:Addr}{y:Str×Str×Str}(h:aS K H b [.str y.1,.str y.2.1,.str y.2.2]):AI K H (.ref b) (qf (lX y)):=.tup h (.cons (.str _) (.cons (.str _) (.cons (.str _) .nil)))
def vI{M:bD}{g:Str}:(eS M g).length<=M.las.length:=Mw _ _
def uA(p:Nat)(sa:Int):bD:=⟨p,sa,[],[],[]⟩
def xm(h ln tn c dl dx:Addr):ZS:=⟨λr=>match r with|.hh=>h|.ln=>ln|.tn=>tn|.ci=>c|_=>dl,λ_=>dx,[],[],λ_=>[],λ_=>[],λ_=>[],λ_=>dx,λ_=>.non,λ_=>dx⟩
section
variable{P:Oe}{w:World}{K:N_}{a:fV}{d f H:Hp}{p:Nat}{sa:Int}{h ln tn c dl dx:Addr}
def GV(e:2<=p/\p<=997):jo (uA p sa) 0:=⟨e,.nil,.nil,λl g=>(nomatch g),λt b=>(nomatch b),λx i=>(nomatch i),o_ _,o_ _,o_ _,λt b=>(nomatch b)⟩
def EJ(hh:H h=some (.ins a.cC dx [("own_prime",.int p),("own_salt",.int sa),("layer_named",.ref ln),("trial_named",.ref tn),("came_into",.ref c),("deeds",.ref dl)]))(m:H ln=some (.dK []))(n:H tn=some (.dK []))(s:H c=some (.dK []))(u:H dl=some (.lst []))(n1:ln≠tn)(n2:ln≠c)(n3:tn≠c):bG P w K a H (uA p sa) (xm h ln tn c dl dx):=by
 have at_:∀r o,cont P w a (uA p sa) (xm h ln tn c dl dx) r=some o->H ((xm h ln tn c dl dx).G r)=some o:=λr o e=>by cases r<;>first|(obtain rfl:=nB e;assumption)|cases e
 refine⟨λr j o k e b q=>?_,at_,λi l g=>(nomatch g),λi t v=>(nomatch v),λi l g=>(nomatch g),.nil⟩;have x:=at_ r o e
 have y:=at_ j k b
 rw[q,y]at x;cases r<;>cases j<;>first|rfl|(cases e;done)|(cases b;done)|exact absurd q n1|exact absurd q n2|exact absurd q n3|exact absurd q.symm n1|exact absurd q.symm n2|exact absurd q.symm n3|(cases e;cases b;cases x;done)
def y6(g:gI (uA p sa) (xm h ln tn c dl dx) b):b=h\/b=ln\/b=tn\/b=c\/b=dl:=by
 rcases g with⟨r,j,e⟩|⟨i,hi,_⟩|⟨x,k,_⟩
 ·cases r
  ·exact .inl e
  ·exact .inr (.inl e)
  ·exact .inr (.inr (.inl e))
  ·exact .inr (.inr (.inr (.inl e)))
  ·exact .inr (.inr (.inr (.inr e)))
  all_goals cases j
 ·cases hi
 ·cases k
end
def Ld(J:St->Hp->Prop)(h1:∀c H,J c H->u D c H)(h2:∀(N:St->Hp->Prop)(R:VK)(B C:St->Hp->Prop),(∀c H,J c H->N c H)->tf d e ⟨N,R,B,C⟩ c H):tf d (tf e u) D c H:=h2 (u D) D.rt D.bk D.ct h1
def xJ.pr(h:xJ p)(i:Nat)(hi:2+(i:Int)<(p:Int)):(p:Int)%(2+(i:Int))≠0:=λz=>by have h1:=(dk rfl:∀p∈[2,3,5,7,11,13,17,37,61],∀i,i<61->2+i<p->p%(2+i)≠0) p h i (by have:=h.le;lia) (by lia);have e:(((p%(2+i):Nat)):Int)=(p:Int)%((2+i:Nat):Int):=Int.natCast_emod _ _;rw[show(((2+i:Nat)):Int)=2+(i:Int)by lia,z]at e;lia
def lnO(M:bD):Option (Dd×List V)->List Str|some x=>v0 M x.1|none=>fX M
def trO(M:bD):Option (Dd×List V)->List (Str×Nat)|some x=>sY M x.1|none=>iJ M
def PlO(ns:Ol)(M:bD):Option (Dd×List V)->Prop|some x=>He ns M x.1|none=>True
inductive JL(P:Oe)(w:World)(K:N_)(a:fV)(H0:Hp)(ns:Ol)(A:xM)(sc h gl O:Addr)(i:Nat)(σ:St)(H':Hp):Prop|mk(M:bD)(Z:ZS)(kvs:List (bQ×V))(v5 v6 v7 v8 v9 v10 v11 v12 v13 v14 v15 v16 v17:Option V)(L:nC P w K a H0 H' ns M Z A i (fX M) (iJ M))(e:Z.G .hh=h)(I:nE M)(D:zt K H0 H' M Z A O kvs)(s:σ=[some (.ref sc),some (.ref A.pl),some (.ref h),some (.ref gl),some (.ref O),v5,v6,v7,v8,v9,v10,v11,v12,v13,v14,v15,v16,v17]):JL P w K a H0 ns A sc h gl O i σ H'
theorem AL.same{M:bD}{v:V}{o:Option (Dd×List V)}(h:AL K H M v o)(s:aq H H'):AL K H' M v o:=by cases h with|dd h h1=>exact .dd (aq.tseq s h) (h1.kp (.of s))|no h=>exact .no (h.same s)
inductive L1(K:N_)(H:Hp)(M M':bD)(v:V):Bool->Prop|no(h:M'=M):L1 K H M M' v false|yes{dv:Addr}{d:Dd}{xs:List V}(e:v=.ref dv)(hT:aS K H dv xs)(hD:iS K H M d xs)(n:dG M d M'):L1 K H M M' v true
inductive JT(P:Oe)(w:World)(K:N_)(a:fV)(H9:Hp)(ns:Ol)(A:xM)(M:bD)(Z:ZS)(v:V)(O:Addr)(i:Nat)(f:Bool->St)(σ:St)(H':Hp):Prop|mk(M':bD)(Z':ZS)(kvs':List (bQ×V))(b:Bool)(L:nC P w K a (Hr H9 M Z A O) H' ns M' Z' A (i+1) (fX M') (iJ M'))(e:Z'.G .hh=Z.G .hh)(I:nE M')(D:zt K (Hr H9 M Z A O) H' M' Z' A O kvs')(h:L1 K H9 M M' v b)(s:σ=f b):JT P w K a H9 ns A M Z v O i f σ H'
inductive JI(sc pl h gl O D B Be:Addr)(i:Nat)(v:V)(b:Bool)(H11:Hp)(j:Nat)(σ:St)(H':Hp):Prop|mk(v11 v12 v13 v14 v15 v16 v17:Option V)(s:aq H11 H')(e:σ=[some (.ref sc),some (.ref pl),some (.ref h),some (.ref gl),some (.ref O),some (.int (i:Nat)),some v,some (.ref D),some (.ref B),some (.bl b),some (.ref Be),v11,v12,v13,v14,v15,v16,v17]):JI sc pl h gl O D B Be i v b H11 j σ H'
inductive J3(H13:Hp)(f:Option V->Option V->Option V->St)(σ:St)(H':Hp):Prop|mk(w1 w2 w3:Option V)(s:aq H13 H')(e:σ=f w1 w2 w3):J3 H13 f σ H'
def AhV(K:N_)(M:bD)(D:Addr)(d c:Hp)(v:V)(g:Str):Prop:=∃l b,v=.ref l/\l≠D/\d l=none/\c l=some (.lst b)/\gF K c b (eS M g)
section
def Ja(T:Txt K mg a)(hw:w.params=a.pm):aT P w K mg base dR 17 a.law.x a.law.d ["_law_script"] (Dl K):=by
 refine T.law.ok eT λkw A outer s H vs Q E hr h=>?_
 ·obtain⟨sc,ns,rfl,hS,hl,q⟩:=h;refine⟨_,(ai (bj 1 eT.nd (pc T.wG (D0 T) hr (ae (Y 0) af))) (ai (oC (i:=2) eT.nd rfl (.inr rfl) (sL T.Eg ((sB (P:=P) (w:=w) T).mono (by decide)) hr rfl T.GJ T.eL.b .nil bw (ae (gG K (Y 1) ah) (ae (gG K (Y 1) ah) af)))) (ai (Fa 3 qa [] [5] [5] (ao vL) (bY 5) (cY rfl T.eh (ae ah af)) (λcl C s₀ H₀ ex=>⟨(nA qa [] 5),ck,(pc T.mS (qA T) hr (ae (Y 5) (ae (pc T.eE (cM T) hr (ae (Y 0) (ae ah (ae ah af)))) af)))⟩) eT.nd) (ai (bj 4 eT.nd jb) (ai (d6 qq rfl (cY rfl T.eh (ae (aA (qM rfl) (by rfl) T.D9 L2.uL (ae (az bR (aA (aJ K rfl) (by rfl) T.bF L2.aL (ae (Y 0) af)) ah) (ae ah af))) af)) (qg 5 eT.nd) (ai (bj 6 eT.nd (pc T.iY (w4 T) hr (ae (Y 0) (ae (Y 1) (ae (Y 5) af))))) (ai (oC (i:=7) eT.nd rfl (.inr rfl) (sQ qa [] [12] [12] (ao vL) (bY 12) (c7 K rfl (Y 3)) (λcl C s₀ H₀ ex=>⟨(nA qa [] 12),ck,(bA (Y 2) T.aD T.dA.m ((mB (P:=P) (w:=w) T).mono (by decide)) hr T.dA.b .nil bw (ae (Y 12) af))⟩))) (ai (bj 8 eT.nd (pc T.uV (yH T) hr (ae (Y 2) (ae (Y 4) af)))) (ai (bj 9 eT.nd (bB wU (pc T.qU (B4 T hw) hr (ae (Y 2) (ae (Y 6) af))) jS (aG _))) (ai (aM (PW.pt (my (aQ K rfl (Y 9) (λ_=>rfl)) (jC (aE aU (cQ K (Y 6) ah) ay (aG _))))) (aj (iC (cQ K (Y 6) ah) (ja (Y 4) (cQ K (Y 6) ah) (oq (cb hr))))) aF) (ai (bj 10 eT.nd (pc T.uV (yH T) hr (ae (Y 2) (ae (Y 4) af)))) (aj (d6 qq rfl (cY rfl T.eh (ae ah af)) (wT (i:=11) eT.nd rfl (.inr rfl)) (ai (bj 12 eT.nd (gG K (Y 3) (Y 11))) (ai (oC (i:=13) eT.nd rfl (.inr rfl) (bA (Y 2) T.aD T.dA.m ((mB (P:=P) (w:=w) T).mono (by decide)) hr T.dA.b .nil bw (ae (Y 12) af))) (ai (d6 qq rfl (c7 K rfl (sQ qa ["_law_seat"] [] [18] (ao vL) (bY 18) (c7 K rfl (gG K (Y 7) (Y 11))) (λcl C s₀ H₀ ex=>⟨(nA qa ["_law_seat"] 18),(mY (aE (yx K rfl (K6 hr)) (Y 18) (Y 13) (by with_unfolding_all rfl))),(Y 18)⟩))) (gq K rfl rfl (bH (qg 14 eT.nd) (bH (qg 15 eT.nd) (bH (qg 16 eT.nd) gp)))) (ai (aM (cf (aQ K rfl (Y 9) (λ_=>rfl))) (aj (aB gu)) aF) (aj (aM (cf (aQ K rfl (pc T.nu (zV T) hr (ae (Y 6) (ae (Y 12) (ae (aR (ae (Y 15) (ae (Y 16) af))) (ae (Y 8) (ae (Y 10) af)))))) (λ_=>rfl))) (aj (aB gu)) aF)))) (ai (Fa 17 qa ["_law_seat"] [] [18] (ao vL) (bY 18) (c7 K rfl (Y 13)) (λcl C s₀ H₀ ex=>⟨(nA qa ["_law_seat"] 18),(mY (aE (yx K rfl (K6 hr)) (Y 18) (gG K (Y 7) (Y 11)) (by with_unfolding_all rfl))),(Y 18)⟩) eT.nd) (aj (aM (PW.pt (my (aE nR (aA (aJ K rfl) (by rfl) T.bF L2.aL (ae (Y 17) af)) ah (aG _)) (jC (PW.pt (fb (cf (aQ K rfl (Y 9) (λ_=>rfl))) (fb (aE A9 (cQ K (Y 6) ah) ay (aG _)) (dL (aE A9 (cQ K (Y 6) ah) (Y 12) (aG _))))))))) (aj (aB gu)) aF))))))))))))))) (aj (aB gu))))))),?_⟩
  refine gH λu1 f=>?_;refine U rfl ⟨sc,ns,rfl,hS,hl,λA p sa H1 s1 kz hY hZ hP pr ig=>av (lP ?_)⟩;subst f;refine gH λu1 f=>?_;have hp:=pr.le;refine U rfl (rX (aY.of hP.pl) (am (k:=0) rfl) (U rfl (rX (aY.of hP.pl) (am (k:=1) rfl) (λh dx hh ih kD=>?_))));have f2:aq H1 (aI (aI H1 dx (.own h)) h (.ins a.cC dx [])):=λb o e=>by rw[au (aH e hh),au (aH e ih)];exact e
  have eq:aI (aI H1 dx (.own h)) h (.ins a.cC dx []) h=some (.ins a.cC dx []):=ag;generalize aI (aI H1 dx (.own h)) h (.ins a.cC dx [])=H2 at f2 eq⊢;refine⟨h,dx,(p:Int),sa,rfl,eq,⟨by lia,by lia⟩,pr.pr,ig,λln tn ci dl H3 fl fo fq fv il ir iu f3 er bt bz bS b0=>⟨rfl,av (lP ?_)⟩⟩;subst f;have s3:aq H1 H3:=λb o e=>f3 b o (f2 b o e) (aH e hh);have fx:bG P w K a H3 (uA p sa) (xm h ln tn ci dl dx):=EJ er bt bz bS b0 il ir iu;obtain⟨ut,es,_⟩:=hP.T;have b8:∀b o,H1 b=some o->¬gI (uA p sa) (xm h ln tn ci dl dx) b:=λb o e z=>by
   rcases y6 z with rfl|rfl|rfl|rfl|rfl
   ·exact ca e hh
   ·exact ca e (f2.free fl)
   ·exact ca e (f2.free fo)
   ·exact ca e (f2.free fq)
   ·exact ca e (f2.free fv)
  have dT:nC P w K a H H3 ns (uA p sa) (xm h ln tn ci dl dx) A 0 [] []:=⟨⟨fx,GV ⟨by exact hp.1,by lia⟩,λi=>o_ _,λi=>o_ _,o_ _⟩,hP.same s3,⟨λi l hl=>(nomatch hl),λj t ht=>(nomatch ht),o_ _,pr⟩,b8 _ _ hP.pl,b8 _ _ hP.L,b8 _ _ es,λb o e=>⟨s3 _ _ (s1 _ _ e),b8 _ _ (s1 _ _ e),aH e hY,aH e hZ⟩⟩;have dV:∀b,H3 b=none->¬gI (uA p sa) (xm h ln tn ci dl dx) b:=λb e z=>by
   rcases y6 z with rfl|rfl|rfl|rfl|rfl
   ·exact ca er e
   ·exact ca bt e
   ·exact ca bz e
   ·exact ca bS e
   ·exact ca b0 e
  generalize fy:xm h ln tn ci dl dx=Z0 at dT dV;have fD:Z0.G .hh=h:=by rw[<-fy];rfl
  clear fy fx er bt bz bS b0 fl fo fq fv f3 f2 eq b8;refine gH λu1 f=>?_;refine U rfl ⟨by exact mu _,by exact mu _,λgl ax=>?_⟩;refine ff (K:=K) (lo:=0) (n:=7) (λj F H'=>aq H3 H'/\H' gl=some (.lst F)/\∃(gs:Of),F=gs.map V.str/\gs.length=j/\∀g∈gs,xT g) ⟨ak (aq.refl _) ax,ag,[],rfl,rfl,λx hx=>nomatch hx⟩ ?_ ?_
  ·rintro j F H4 hj⟨s4,b9,gs,rfl,fR,d1⟩;refine av (iZ (bo ?_));refine U rfl (U rfl ⟨sc,ns,4,6,rfl,((s1.trans s3).trans s4).seq hS,hl,⟨by decide,by decide⟩,⟨by decide,by decide⟩,0+(j:Int),cS ns 4 6,rfl,λg H5 s5 hg=>?_⟩);refine⟨s5 _ _ b9,by rw[b_,nk];lia,lf hj ⟨bv (s4.trans s5) ax,ag,gs++[g],by rw[me];rfl,by rw[k_,fR];rfl,λx hx=>?_⟩⟩;rcases Ny.mp hx with z|z
   ·exact d1 x z
   ·rw[List.mem_singleton.mp z];exact hg
  rintro F H4⟨s4,b9,gs,rfl,fR,d1⟩;refine av (lP ?_);subst f;refine gH λu1 f=>?_;refineλO W=>av (lP ?_);subst f;refine jf W λH5 s5 fS=>?_;have ew:=s4.trans s5;have n3:H3 O=none:=s4.free W;have f0:∀b o,aI H gl (.lst (gs.map V.str)) b=some o->H5 b=some o/\¬gI (uA p sa) Z0 b/\b≠A.L/\b≠A.T:=λb o e=>by
   by_cases z:b=gl
   ·rw[z,ag]at e;rw[z];exact⟨by rw[<-e];exact s5 _ _ b9,dV _ ax,λy=>ca (hP.same s3).L (y▸ax),λy=>ca (s3 _ _ es) (y▸ax)⟩
   ·rw[au z]at e;exact(dT.same ew).bs b o e
  have d2:nC P w K a (aI H gl (.lst (gs.map V.str))) H5 ns (uA p sa) Z0 A 0 [] []:={dT.same ew with bs:=f0};have ey:zt K (aI H gl (.lst (gs.map V.str))) H5 (uA p sa) Z0 A O []:=⟨fS,dV _ n3,λz=>ca (hP.same s3).pl (z▸n3),λz=>ca (hP.same s3).L (z▸n3),λz=>ca (s3 _ _ es) (z▸n3),by rw[au (aH b9 W).symm];exact(s1.trans s3).free n3,λt ht=>(nomatch ht),o_ _⟩;have ez:aY K (aI H gl (.lst (gs.map V.str))) sc (ns.map V.int):=(ak (aq.refl H) ((s1.trans s3).free ax)).seq hS;have eG:aI H gl (.lst (gs.map V.str)) gl=some (.lst (gs.map V.str)):=ag;clear f0;generalize aI H gl (.lst (gs.map V.str))=H0 at d2 ey ez eG;clear dT dV s4 b9 ew n3 ax W fS s5;obtain⟨n,en,n0,n1⟩:∃n:Int,n=(if(63:Int)<(ns.length:Int)+8 then 63 else(ns.length:Int)+8)/\0<=n/\n<=63:=⟨_,rfl,by split<;>lia,by split<;>lia⟩;refine U rfl ⟨_,ns.length,rfl,.inl ⟨_,(d2.dr ez hl).sq,by simp⟩,_,U rfl ⟨rfl,_,U rfl ⟨n,(by rw[en]),(by lia),(by lia),?_⟩⟩⟩;refine lu (lo:=0) (n:=n.toNat) (JL P w K a H0 ns A sc h gl O) ⟨_,Z0,[],_,_,_,_,_,_,_,_,_,_,_,_,_,d2,fD,λl hl=>(nomatch hl),ey,rfl⟩ ?_ (λσ H' _=>q H');clear d2 ey fD;rintro i σ H6 hi⟨M,Z,a2,v5,v6,v7,v8,v9,f4,f5,f6,f7,ga,gb,ge,gg,hL,rfl,hI,hA,rfl⟩N0 R B iA;rw[show(0:Int)+(i:Int)=((i:Nat):Int)by lia];refine av ?_;refine JD (λσ H'=>JW λv o=>L4 (nC P w K a H0 H' ns M Z A i (lnO M o) (trO M o)) (zt K H0 H' M Z A O a2) (AL K H' M v o) (PlO ns M o) (σ=[some (.ref sc),some (.ref A.pl),some (.ref (Z.G .hh)),some (.ref gl),some (.ref O),some (.int (i:Nat)),some v,v7,v8,v9,f4,f5,f6,f7,ga,gb,ge,gg])) ?A1 (λNn R' B' C' hJ=>?B1)
  case B1=>
   refine U rfl (U rfl (U rfl ⟨sc,ns,M,A,i,(i:Int),rfl,hL.dr ez hl,⟨by exact mu _,by lia⟩,λdv d xs H7 ch hT hD iT i1 W=>av (hJ _ _ ?_),λt0 v H7 s7 hD=>av (hJ _ _ ?_)⟩))
   ·exact⟨.ref dv,some (d,xs),hL.chg ch iT,hA.chg ch,.dd hT hD,i1,rfl⟩
   ·exact⟨v,none,hL.same s7,hA.same s7,.no hD,trivial,rfl⟩
  case A1=>
  rintro σ H7⟨v,o,a3,eH,i2,i8,rfl⟩;clear hL hA;have cc:=(a3.bs _ _ eG).1;have l4:=a3.z.ok.l4;refine gH λu1 f=>?_;refine U rfl ⟨gl,rfl,⟨_,aY.of cc⟩,λD hD=>?_⟩;refine gR (K:=K) (a:=gl) (xs:=gs.map V.str) (λj F H'=>aq H7 H'/\H' D=some (.lst F)/\Paired (AhV K M D H7 H') F (gs.take j)) ⟨ak (aq.refl _) hD,ag,.nil⟩ (λj F H' _ h=>aY.of (h.1 _ _ cc)) ?_ ?_
  ·rintro j u F k4 hv⟨s2,al,gt⟩;have hj:j<(gs.map V.str).length:=(d_.mp hv).1;rw[i_]at hv;obtain⟨g,hg,rfl⟩:=Option.map_eq_some_iff.mp hv;refine av (iZ (bo ?_));refine nQ (s2 _ _ a3.z.g.house) rfl rfl (U rfl ⟨M,Z,i,g,rfl,a3.z.same s2,d1 g (g_ hg),λr us gv d3 hr ji cO=>?_⟩);have gV:=d3 _ _ al;have kp:Kp gv (aI gv D (.lst (F++[.ref r]))):=.lst gV;have nr:r≠D:=λz=>ca al (z▸hr);have an:F.length<=7:=by have:=Paired.length gt;rw[o8]at this;lia
   refine⟨gV,by rw[nk];lia,lf hj ⟨bv (s2.trans d3) hD,ag,?_⟩⟩;rw[dI hg];exact Paired.snoc (Paired.mapP gt λv g⟨l,us,e1,e2,e3,e4,e5⟩=>⟨l,us,e1,e2,e3,by rw[au e2];exact d3 _ _ e4,(e5.kp (.of d3)).kp kp⟩) ⟨r,us,rfl,nr,s2.free hr,by rw[au nr];exact ji,cO.kp kp⟩
  rintro F H8⟨s8,g0,eN⟩;rw[b_,List.take_length]at eN;refine av (lP ?_);subst f;refine gH λu1 f=>?_;have e0:=a3.same s8;have d4:=eH.same s8;refine U rfl (U rfl ⟨M,Z,i,O,a2,rfl,e0.z,d4.at_,d4.ok,λB H9 g1 g2=>av (lP ?_)⟩);subst f;have s9:aq H8 H9:=by obtain⟨_,s,_⟩:=g2;exact s
  have a8:=e0.same s9;have d5:=d4.same s9;have e6:=i2.same (s8.trans s9);refine Ld (JT P w K a H9 ns A M Z v O i λb=>[some (.ref sc),some (.ref A.pl),some (.ref (Z.G .hh)),some (.ref gl),some (.ref O),some (.int (i:Nat)),some v,some (.ref D),some (.ref B),some (.bl b),f4,f5,f6,f7,ga,gb,ge,gg]) ?A2 (λNn R' B' C' hJ=>?B2)
  case B2=>
   have ea:=a8.based (O:=O);have c:=d5.based;refine U rfl (U rfl ⟨M,Z,i,v,o,rfl,a8.z,by lia,e6,λd xs eo k6 r us M' Z' X nx st js k8=>?_,λha X eb=>?_⟩)
   ·subst eo;cases e6 with|@dd dv _ _ hT ad=>
    have kp:=a8.z.g.stp st;have c0:=ea.fin nx st js i8;have W:=st.fr _ _ c.at_ c.nf;have nf:=st.nf c.at_ c.nf;refine⟨rfl,av (lP ?_)⟩;rw[op (show¬V.ref r=V.non from nofun)];refine U rfl ⟨true,rfl,bo ?_⟩;rcases nx.arms with⟨x,rfl,et⟩|⟨nt,et⟩
    ·cases ad with|@trial _ ar sh ra ws h1 h2 h3 h4 h5 h6 h7 h8 h9 ha hb hc hd he hf=>
     have c1:=kp.tq hT;refine U rfl (rX c1 (am (k:=0) rfl) ⟨rfl,U rfl (be ?_)⟩);have kl:=c.ln;refine U rfl (rX c1 (am (k:=3) rfl) (U rfl (U rfl (rX c1 (am (k:=1) rfl) ⟨O,a2,.inr x.nm,rfl,rfl,W,by rw[nk];lia,hJ _ _ ?_⟩))));have kd:Kp X (aI X O (.dK (eY a2 (.inr x.nm) (.ref ar)))):=Af W (λ_ z=>(nomatch z)) (λ_ _ z=>(nomatch z)) cA;refine⟨M',Z',eY a2 (.inr x.nm) (.ref ar),true,c0.putD W nf c.n1 c.n2 c.n3 c.n0,st.hh,hI.next nx,⟨ag,nf,c.n1,c.n2,c.n3,c.n0,λt ht=>?_,?_⟩,.yes rfl hT (.trial h1 h2 h3 h4 h5 h6 h7 h8 h9 ha hb hc hd he hf) nx,rfl⟩
     ·rw[xU];rw[et]at ht;rcases Ny.mp ht with z|z
      ·obtain⟨j1,q1,q2⟩:=c.ok t z;rw[l_ λy=>h2 (by rw[<-sT y];exact oi.mpr ⟨t,z,rfl⟩)];exact⟨j1,q1,kd.tq (kp.tq q2)⟩
      ·rw[List.mem_singleton.mp z,mo rfl];exact⟨ar,rfl,kd.tq (kp.tq h3)⟩
     ·rw[et,k_];exact n7 (jJ _ _ _) (t8 kl)
    ·obtain⟨k,r',rfl,hk⟩:=ad.kind nt;refine U rfl (rX (kp.tq hT) (am (k:=0) rfl) ⟨rfl,U rfl (mT hk (hJ _ _ ?_))⟩);exact⟨M',Z',a2,true,c0,st.hh,hI.next nx,⟨W,nf,c.n1,c.n2,c.n3,c.n0,(c.ok.kp kp).map et,by have e:=w_ List.length et;rw[b_,b_]at e;rw[e];exact c.ln⟩,.yes rfl hT ad nx,rfl⟩
   ·refine⟨rfl,av (lP (U rfl ⟨false,rfl,bX (bX (hJ _ _ ?_))⟩))⟩;refine⟨M,Z,a2,false,?_,rfl,hI,c.same eb,.no rfl,rfl⟩;cases e6 with|dd hT ad=>exact ea.not (ha _ _ rfl) eb|no hX=>exact{ea.same eb with z:=(ea.same eb).z.mono (so i)}
  case A2=>
  rintro σ X⟨M',Z',c2,b,I,ec,j2,c3,g3,rfl⟩;have kp:=a8.kpr d5 λb o e=>(I.bs b o e).1;have ed:∀x,H7 x=none->JM M Z A O x:=λx hx=>a3.new_sf eH hx;have ei:X D=some (.lst F):=(I.bs _ _ (kx (s9 _ _ g0) (ed D hD))).1;have g4:Paired (λv g=>∃l us,v=.ref l/\X l=some (.lst us)/\gF K X us (eS M g)) F gs:=Paired.mapP eN λv g⟨l,us,e1,e2,e3,e4,e5⟩=>⟨l,us,e1,(I.bs _ _ (kx (s9 _ _ e4) (ed l e3))).1,(e5.kp (.of s9)).kp kp⟩;obtain⟨mb,_,ej,kB,rB,gB,_⟩:=g2;have g5:X B=some (dM P w B mb):=(I.bs _ _ (kx ej (ed B (s8.free g1)))).1;have g6:cT K X mb:=λx hx=>cq kp (kB x hx);have c0:=a8.rebase d5.n0 I;have e7:=(c0.bs _ _ eG).1;have kb:zt K H0 X M' Z' A O c2:={c3 with n0:=d5.n0};have hM:=a8.z.ok;have e8:=I.z.ok;clear eN g0 ej kB a3 eH e0 d4 cc g1 ed;refine gH λu1 f=>?_;refine U rfl (U rfl ⟨M',Z',i+1,O,c2,by rw[ec];rfl,I.z,c3.at_,c3.ok,λBe g7 hE g8=>av (lP ?_)⟩);subst f;obtain⟨md,ef,ho,kE,rE,gE,_⟩:=g8;refine⟨7,rfl,by exact mu _,by exact mu _,?_⟩;refine lu (lo:=0) (n:=7) (JI sc A.pl (Z.G .hh) gl O D B Be i v b g7) ⟨_,_,_,_,_,_,_,aq.refl _,rfl⟩ ?_ ?_
  ·rintro j σ kk hj⟨hq,hs,hB,hC,hF,hG,c4,ba,rfl⟩N1 R1 B1 hH;rw[show(0:Int)+(j:Int)=((j:Nat):Int)by lia];have a6:=ef.trans ba;have hK:j<gs.length:=by lia
   have hg:=h_ hK;have hO:=d1 _ (t_ hK);generalize gs[j]=g at hg hO;obtain⟨u,hu,l,us,rfl,da,cO⟩:=qw g4 j _ hg;refine av ?_;refine gH λu1 f=>?_;refine U rfl (U rfl ⟨gl,gs.map V.str,_,.str g,rfl,rfl,aY.of (a6 _ _ e7),am (by rw[i_,hg];rfl),av (lP ?_)⟩);subst f;refine gH λu1 f=>?_;refine nQ (by rw[<-ec];exact a6 _ _ I.z.g.house) rfl rfl (U rfl ⟨M',Z',i+1,g,by rw[ec];rfl,I.z.same a6,hO,λr eg hQ e9 hr dc di=>av (lP ?_)⟩);subst f;have ap:=a6.trans e9;refine JD (J3 hQ λw1 w2 w3=>[some (.ref sc),some (.ref A.pl),some (.ref (Z.G .hh)),some (.ref gl),some (.ref O),some (.int (i:Nat)),some v,some (.ref D),some (.ref B),some (.bl b),some (.ref Be),some (.int (j:Nat)),some (.str g),some (.ref r),w1,w2,w3,c4]) ?A3 (λNn R' lb C' hJ=>?B3)
   case B3=>
    refine U rfl (U rfl ⟨D,F,_,.ref l,rfl,rfl,aY.of (ap _ _ ei),am hu,l,rfl,⟨us,aY.of (ap _ _ da)⟩,λD2 al=>?_⟩);refine gR (K:=K) (a:=l) (xs:=us) (λk ac H'=>aq hQ H'/\H' D2=some (.lst ac)/\ac.length<=k/\∀u∈ac,∃(y:Str×Str×Str)(bb:Addr),u=.ref bb/\aS K H' bb [.str y.1,.str y.2.1,.str y.2.2]/\y∈eS M g/\y∉eS M' g) ⟨ak (aq.refl _) al,ag,f_ _,λ_ z=>(nomatch z)⟩ (λk ac H' _ h=>aY.of (h.1 _ _ (ap _ _ da))) ?_ ?_
    ·rintro k u' ac bc a5⟨J,aa,an,as⟩;have hk:k<us.length:=(d_.mp a5).1;obtain⟨y,hy,bb,rfl,bi⟩:=((cO.kp (.of ap)).kp (.of J)).at_ a5;refine av (U rfl (U rfl ⟨r,eg,lX y,(eS M' g).map lX,rfl,aY.of (J _ _ dc),AV bi,(di.kp (.of J)).data,U rfl ?_⟩))
     by_cases hm:y∈eS M' g
     ·rw[ol (o7.mpr hm)];exact bX (lf hk ⟨J,aa,by exact r3 an,as⟩)
     ·rw[op λz=>hm (o7.mp z)];have ul:=Paired.length cO;have sl:=vI (M:=M) (g:=g);have ek:Kp bc (aI bc D2 (.lst (ac++[.ref bb]))):=.lst aa;refine bo (U rfl ⟨aa,by rw[nk];lia,lf hk ⟨bv J al,ag,by rw[k_];exact t8 an,λu hz=>?_⟩⟩);rcases Ny.mp hz with z|z
      ·obtain⟨y',b',q1,q2,q3⟩:=as u z;exact⟨y',b',q1,ek.tq q2,q3⟩
      ·rw[List.mem_singleton.mp z];exact⟨y,bb,rfl,ek.tq bi,hy,hm⟩
    ·rintro ac bc⟨J,aa,an,as⟩;refine⟨D2,rfl,⟨_,aY.of aa⟩,?_⟩;refine iV (K:=K) (a:=D2) (xs:=ac) (λ_=>J3 bc λw1 w2 w3=>[some (.ref sc),some (.ref A.pl),some (.ref (Z.G .hh)),some (.ref gl),some (.ref O),some (.int (i:Nat)),some v,some (.ref D),some (.ref B),some (.bl b),some (.ref Be),some (.int (j:Nat)),some (.str g),some (.ref r),w1,w2,w3,c4]) ⟨_,_,_,aq.refl _,rfl⟩ (λk σ H' _ h=>by obtain⟨_,_,_,s,_⟩:=h;exact aY.of (s _ _ aa)) ?_ (λσ H'⟨w1,w2,w3,s,e⟩=>hJ _ _ ⟨w1,w2,w3,J.trans s,e⟩);rintro k u' σ fa a5⟨w1,w2,w3,S,rfl⟩N R2 B2 hN;obtain⟨y,bb,rfl,bi,hy,hR⟩:=as u' (g_ a5);refine⟨bb,U rfl ⟨aq.tseq S bi,rfl,_,U rfl (av ⟨_,U rfl (av ⟨_,U rfl (av ⟨rfl,?_⟩)⟩)⟩)⟩⟩;cases g3 with|no e=>exact absurd (e.symm▸hy) hR|@yes dv d xs ev hT ad nx=>subst ev;refine U rfl ⟨true,rfl,bX ?_⟩;obtain⟨lx,kq,si,go⟩:=nx.stGoes ad hI hM e8 hy hR;have gov:=go.gov nx ad si hM kq rB gB rE gE;refine U rfl (U rfl (U rfl (U rfl ⟨ls rfl,λT1 kt=>?_⟩)));refine jf kt λlh hW ku=>?_;have sE:=((ba.trans e9).trans (J.trans S)).trans hW;have sA:=ef.trans sE;exact U rfl (U rfl ⟨dv,T1,B,Be,xs,g,y.2.1,y.2.2,mb,md,rfl,aq.tseq sA (kp.tq hT),aS.of ku,sA _ _ g5,λx hx=>cq (.of sA) (g6 x hx),sE _ _ ho,λx hx=>cq (.of sE) (kE x hx),gov,λli kv=>(U rfl (bX (hN _ _ ⟨_,_,_,(S.trans hW).trans kv,rfl⟩)))⟩)
   case A3=>
   rintro σ bc⟨w1,w2,w3,J,rfl⟩;have el:=ap.trans J;have ul:=Paired.length di;have sl:=vI (M:=M') (g:=g);have ll:=e8.l4;refine gH λu1 f=>?_;refine U rfl ⟨r,rfl,⟨eg,aY.of (J _ _ dc)⟩,λD2 al=>?_⟩;refine gR (K:=K) (a:=r) (xs:=eg) (λk ac H'=>aq bc H'/\H' D2=some (.lst ac)/\ac.length<=k/\(ac≠[]->∃y:Str×Str×Str,y∈eS M' g/\y∉eS M g)) ⟨ak (aq.refl _) al,ag,f_ _,λz=>absurd rfl z⟩ (λk ac H' _ h=>aY.of (h.1 _ _ (J _ _ dc))) ?_ ?_
   ·rintro k u' ac fa a5⟨S,a7,an,as⟩;have hk:k<eg.length:=(d_.mp a5).1;obtain⟨y,hy,bb,rfl,bi⟩:=((di.kp (.of J)).kp (.of S)).at_ a5;have dt:=el.trans S;refine av (U rfl (U rfl (U rfl ⟨D,F,_,.ref l,rfl,rfl,aY.of (dt _ _ ei),am hu,l,us,lX y,(eS M g).map lX,rfl,aY.of (dt _ _ da),AV bi,(cO.kp (.of dt)).data,U rfl ?_⟩)))
    by_cases hm:y∈eS M g
    ·rw[ol (o7.mpr hm)];exact bX (lf hk ⟨S,a7,by exact r3 an,as⟩)
    ·rw[op λz=>hm (o7.mp z)];exact bo (U rfl ⟨a7,by rw[nk];lia,lf hk ⟨bv S al,ag,by rw[k_];exact t8 an,λ_=>⟨y,hy,hm⟩⟩⟩)
   rintro ac fa⟨S,a7,an,as⟩;have fin:aq g7 fa:=((ba.trans e9).trans J).trans S;refine av (lP ?_);subst f;refine U rfl ⟨_,ac.length,rfl,.inl ⟨_,aY.of a7,rfl⟩,_,U rfl ⟨rfl,U rfl (lO (λh0=>?_) (λ_=>bX (hH _ _ ⟨_,_,_,_,_,_,_,fin,rfl⟩)))⟩⟩;obtain⟨y,hy,hm⟩:=as λz=>by rw[z]at h0;exact absurd h0 (by decide)
   cases g3 with|no e=>exact absurd (e▸hy) hm|@yes dv d xs ev hT ad nx=>subst ev;obtain rfl:=nx.stComes hM e8 hy hm;cases ad with|@visit _ mv ms h1 h2 h3 h4 h5=>have ep:=aq.tseq ((el).trans S) (kp.tq hT);refine U rfl ⟨true,rfl,bX ?_⟩;refine U rfl (rX ep (am (k:=0) rfl) ⟨rfl,U rfl ?_⟩);rw[ol (show V.str (Str.ofString "visit")=V.str (Str.ofString "visit")from rfl)];refine bX (U rfl (rX ep (am (k:=1) rfl) (U rfl ⟨rfl,U rfl ?_⟩)));rw[ol (show V.str g=V.str g from rfl)];exact bX (hH _ _ ⟨_,_,_,_,_,_,_,fin,rfl⟩)
  ·rintro σ kk⟨hq,hs,hB,hC,hF,hG,c4,ba,rfl⟩;exact iA _ _ ⟨M',Z',c2,_,_,_,_,_,_,_,_,_,_,_,_,_,c0.same (ef.trans ba),ec,j2,kb.same (ef.trans ba),rfl⟩
end
end My
structure PySem.W.Fast:Prop where(tw16082624776664236371 tw9246734166159321917 tw16710024166464986448 tw7156363182087194160 tw10253480154000485838 tw5021276579920744698 tw4241036252408771429 tw4284345350915331736 tw17498083470016625425 tw8958458794208980526 tw5653874324453459522 tw5123588780244646170 tw5566530980696149067 tw7008238803375247232 tw5871183822102161396 tw12211649313595609830 tw4559262889148583609 tw15034316776042402738 tw7151425222854169850 tw15007429892298015488 tw9019768311816198943 tw8479377492627761836 tw16780254785932443131 tw2459271166165650685 tw14853351362082524521 tw17796893840321925573 tw9266373791707199147 tw10786097886734559735 tw803386118273235636 tw12104348510711847457 tw9389801888180760014 tw12483726012726095646 tw8342901510975010363 tw13112979176050992953 tw16458869842767591553 tw12843521639794417779 tw2110749609137748441 tw8551067915878214744 tw14944098074800802124 tw911595714964872164 tw14221037219275803784 tw13146246907566334217 tw13479717773186429256 tw8601424069938079965 tw12162525611460503784 tw16745178295337466761 tw2342766648369844902 tw12730864751933810289 tw4663036547392626381 tw5093023359382747658 tw16786596114993960052 tw12253626265494050491 tw8866942751977194583 tw9198253488319146431 tw18446146241902627623 tw15205052256688389692 tw8907965184543229798 tw15479160258146479885 tw8840955462354427492 tw9546996724110385771 tw10372442424158746060 tw6006975130027866452 tw4528675024737466378 tw16769903019126545289 tw11569974650607478495 tw1489803030449852527 tw5333972522056089170 tw7178103142761831928 tw1571923471351700948 tw13817228659202506765 tw8151088845701095674 tw4674828060204910735 tw8853157065923473483 tw9426687160220028254 tw4882946214371292253 tw821774492908587392 tw7541018613813484574 tw17144100531061076451 tw2428916058285206215 tw609464711890508888 tw12322933118201940533 tw7850196126731561864 tw8390203463192457571 tw8325654725810553586 tw6500103738888866984 tw15422332796820199791 tw3192242273058875450 tw9038731639889156855 tw3717825665614124024 tw282142795177579937 tw5078647350479042559 tw751737578119548285 tw5304746436071613150 tw7596775896405325217 tw8106818462754785393 tw7694431752853208535 tw5219041668259694246 tw1203409175759796645 tw12195296202528999971 tw13206658166894449888 tw6081001296198535900 tw3926098684406145151 tw5806911059421991123 tw7159605058142330176 tw15159499964114722289 tw4784122853320808035 tw17730822272075735291 tw12089076396089271679 tw18429649320586067390 tw3828253565473852045 tw17611166205898369704 tw10880548081384152504 tw16531251609270016509 tw11148447360987039660 tw4830380397091184733 tw2031554356163642252 tw8874809711304394347 tw5893908234156185899 tw7125114429714226521 tw5531782636292427230 tw3723818822972750949 tw9456227357446891589 tw10345695046169347217 tw2573399726466813917 tw15260555236117511081 tw9394121043511638631 tw12020426653770251205 tw13420830024688676412 tw7053229025421268331 tw11516796669089651880 tw3134117916979700670 tw5854478164080333721 tw3068408271315669961 tw16544141073426246211 tw3299321549378759989 tw2921937595836176838 tw14234675707392786620 tw4087453723974449308 tw1855440074190049854 tw2098588513187031550 tw6217424246626678290 tw9555016277709011868 tw2626785040969043210 tw14208401070081473277 tw9947275921299992068 tw8904841449884621174 tw13611600284659256160 tw9004336528826760461 tw9998512621154477051 tw9414194846362053675 tw11394236880061104743 tw1431203801032922376 tw9661591872579508026 tw16598292413731960026 tw14891439515107948901 tw9742577341023894788 tw10284895357878069308 tw10288619138596563265 tw284048131532365038 tw7078477103215240889 tw11922673651548738545 tw1605885043631562769 tw3927333258041918221 tw1737092644429827824 tw18131529566976580174 tw14155441342520667078 tw3651279692125452137 tw1883710802891159379 tw4629221536928800837 tw4161914403981698134 tw13739838339340537936 tw17951223715185325457 tw6004933814947211138 tw2823988134304005286 tw18355557399081802364 tw8480373710835118292 tw15269188888363544561 tw10737030269393958955 tw12926814367381783575 tw7552887251265450009 tw10426623142951091072 tw10594622442150387473 tw5460316067900544988 tw5206100692351702568 tw3582328003052797380 tw15877094350644405185 tw8948822380749695075 tw16043842583978983544 tw17125427353408022353 tw176390759889639425 tw6280724835669236977 tw5338337816230365392 tw18388057482641836342 tw13871580431967063424 tw15459617339908249535 tw6281304817915988015 tw16093115136524735102 tw798658525161115279 tw840355776073312455 tw12794389734421823656 tw3025305492826179838 tw15581636048966706910 tw15087469357306391410 tw15486209154626916584 tw11187129619164154167 tw7401369487354016321 tw14787030279458119806 tw4759833354175447975 tw11602544446597574909 tw6110580569196218889 tw10665180653720753202 tw1038163686758670283 tw2311742773054251449 tw8042067391362543923 tw18421370587648581210 tw3924977443104106894 tw18277882414546843875 tw15995420668023018513 tw9684773194828710382 tw17550443337804415261 tw8357031646411539553 tw2107340260955151222 tw18316886188293343520 tw5470741273627227555 tw17583302783124093070 tw10752982910485914955 tw15161649206607662957 tw9391569632270898962 tw13471230039022086424 tw9623133560500202941 tw1556088279306468145 tw870776140255643049 tw11424896126400542189 tw14422402257871476545 tw16598129262048087033 tw17208451061955606231 tw10416105070212015144 tw16980126165764021639 tw9721483258773798735 tw9450672227939953852 tw14994766044978728735 tw8145620345373103740 tw6535405522190276350 tw8326659350557568952 tw3262108838378884541 tw6389028620416035826 tw15049136247486104518 tw14693835465535774430 tw4019859592510168451 tw9177920649048544671 tw8669453076948462123 tw4612085535340273564 tw10404281905377579961 tw13123638652817177124 tw7669220502074172641 tw9041004361540355174 tw1107635376032966741 tw17214764569123351433 tw3996861764338291020 tw9276582307183659835 tw11658044265115098890 tw8474624484613552377 tw13884478614467476157 tw10732020542471479371 tw12227639657272247427 tw2666473876213778640 tw2243952278705309810 tw4912496266044288815 tw11378240991236827933 tw353733826299966854 tw4665465601693460794 tw17495361378704598845 tw12513616473616012277 tw13568827299565265849 tw9306027584116365016 tw8773572449125630459 tw1466083405467706756 tw11228760711625736044 tw7744644269909436712 tw12980127368778481714 tw13390648013735837256 tw16904560586471114231 tw8223021168930809864 tw6761665179191057815 tw8201874364528386152 tw8106344278261555055 tw4386698394269842691 tw15977394343787539289 tw7360493700493390727 tw16203140172724858265 tw8767988417461447784 tw2619460986690887352 tw12584461609279108000 tw8152650340490452191 tw15149554397305950778 tw14478279148796533082 tw13336280377204771809 tw14842253891771071870 tw14342880815586361641 tw70877755916690273 tw17679816844089497913 tw2452667325017551319 tw15675837771295250719 tw10171217646139280030 tw4725320409556406012 tw8644074414527923470 tw4428141441359768312 tw2384582186122505821 tw14244354063089233288 tw14310788901285480806 tw3991098950131328648 tw4557312281822364125 tw18439718693917057107 tw4555998944358543541 tw14390399371415935564 tw9361566664028505030 tw11706532109907969705 tw2638761114043215373 tw737030884259554137 tw2395465944767485272 tw16055530756746518088 tw8011496501466534552 tw3990728850641780284 tw7424017743030479055 tw10771170717934435112 tw13678906371800127276 tw13400388343394452983 tw1134612733138859233 tw16442172896964591101 tw10452594724292757273 tw4537415311431508562 tw15060314797038729256 tw3271836027283457463 tw6990576026542903728 tw8649483586900092382 tw1129235835055305150 tw2157755842986823056 tw998211420098225519 tw5202669477770627644 tw9575223384187802209 tw13513321524143173952 tw18259639514377042012 tw2197750536124903550 tw5824813122291260102 tw14301326180645501758 tw15930263805346395029 tw17178089071988670036 tw3386124721559740179 tw16882428523059677934 tw12011306859311163392 tw7776751164107844299 tw11918615925480901669 tw9516914529015600902 tw8057096218125150265 tw10647952583176698131 tw16939251923340622010 tw9508393900086413525 tw17575238475714822606 tw8503013809634769550 tw6983038164607916308 tw12849480788026121284 tw2413715486509272040 tw16111859351731210751 tw9259940912515310514 tw1655800110331641225 tw15591396395507127384 tw7045018620348944113 tw6625790572066833771 tw6461231367347150219 tw4017437101078484194 tw1473251142420120526 tw936795488214997122 tw1558937606452785757 tw10267085102389469809 tw7281458006813554577 tw13027134660466108575 tw9163010909399357608 tw13059059131602257948 tw8257834781298354342 tw13723194346536301304 tw18115633033875874239 tw10513018838137227422 tw967520787453897877 tw15326845123626575286 tw5790078681093695954 tw7394052206295350775 tw16427676362590270992 tw1367986064403800692 tw16639318472618011775 tw17146026855676440457 tw4375773557156669408 tw13608317682815749670 tw13233740920437140033 tw12435193614462629813 tw9407912228014982694 tw17875373883767089970 tw15932412978150749493 tw3325868015822449778 tw14957753293850611117 tw17347780900217463826 tw16886950039711151047 tw15453237570515594271 tw2036364139192340021 tw6134628678427796365 tw13608244058224716558 tw16252604459846523148 tw9586401149582504526 tw5838242459117945138 tw17299222119134659433 tw12420453372611009564 tw10357097220799761295 tw4850300651122085626 tw8664528284916329571 tw18364331695501787729 tw17886314158293346467 tw783505733092240895 tw3571121017113584761 tw2266460450774944067 tw3730126967438546724 tw2491300898011668344 tw15343011756853217034 tw8527923541401061799 tw18432075203080385159 tw7607106216515740594 tw11174996831886051811 tw16325141948826903364 tw7129397709706491371 tw4076913300407464783 tw17994500035239335370 tw7517585413030154833 tw14303791302433652966 tw10260375585044984125 tw10340742321526950474 tw2618230404198856110 tw5848579099201609514 tw15518044609302952184 tw16209266626917793647 tw4215207434976061508 tw442953102336945183 tw10257538667185312212 tw4093043629292065806 tw4985122311703032790 tw13387866420960978859 tw4255493459883731710 tw508413672451646274 tw12126686220331883965 tw10061492489090870965 tw8946174587270245770 tw537716608088952959 tw13226096076280885414 tw15543932818306489081 tw10529955348566875071 tw2009369261036608499 tw12995725841078681309 tw73990941122608498 tw8763998832659796359 tw16131216777090443501 tw2604021446211426540 tw1331982002135225748 tw6284037862897109343 tw9710261937434427418 tw4682789077019556687 tw9588453846757962278 tw10338689223259935005 tw1648913216877025611 tw5281134097285365261 tw16912374514033129783 tw5522869441180070046 tw1903457114919249360 tw7000666267783281440 tw2226037386435058835 tw9328121350519104283 tw21064313845898686 tw3526595939892722597 tw5225831410518586541 tw4847488634004410350 tw13293195770339301614 tw1163060911967244452 tw18032222887231625523 tw12398126941143824174 tw12175557246667171207 tw3700163500671094456 tw12223877981437271254 tw1694691577020969323 tw8030748844003269828 tw12865214900597902391 tw15011233968381634888 tw13216874029819066866 tw2046385168057273027 tw13410531321195559862 tw11789416530770539695 tw15187534754310986433 tw6327437322785615604 tw17781998780425586398 tw2020262932487873463 tw9465413338415833353 tw17190888905347478177 tw6259889866059630809 tw7863001998566492847 tw13781694050528816444 tw5440741897629326319 tw11172027056347805883 tw689245881506117887 tw17274505526815439119 tw3905792151899692785 tw13247510485527839657 tw14638182601782804767 tw7168532971014587040 tw3969956975388284633 tw7745032335496595264 tw14430094320998018556 tw14774634660959820189 tw15712208860621162184 tw2603392185659147416 tw14750269085288011151 tw3924265738870794428 tw9711924175657584879 tw627949410726847384 tw8448712976944111536 tw14710754681119033789 tw7057284554628569892 tw13541859548499304090 tw16743694944034571922 tw3241346724892110583 tw4647475282963751174 tw5106535528193451893 tw8326951264042801818 tw6215195252748916087 tw12246741461556352124 tw11772005810693147039 tw18297710781131459510 tw1548288714616482426 tw15139535654435546752 tw5363973409035857869 tw15121331376728649727 tw18244073488132253560 tw12462311968119099290 tw16024508067911404026 tw6352458993649296567 tw10946749039881891664 tw491359159060984289 tw6150343764470699697 tw17357249487360243061 tw10440220384339487009 tw939340150388086461 tw3947968923253807270 tw5614922006948389853 tw94674324804227425 tw15246127288196288335 tw3019257139597937742 tw6956385225733778589 tw14113662464530478805 tw10761209072851381166 tw602318968948199831 tw5130861863275257707 tw1251863194250898016 tw10548413720029017981 tw8308995677852588438 tw6697221092615363691 tw10880308485415034383 tw13724588039525555402 tw5830966853560120026 tw11777601328536599184 tw6502415201020613272 tw14646444527615903094 tw5809687758322709352 tw12100892401372992681 tw14029822152288583194 tw7971460683560044319 tw13211047738288110191 tw10641321134926341902 tw16449867412230978566 tw16849595940389554137 tw11252332360483113951 tw3120654288390367718 tw11383745026677850204 tw3284751095145581421 tw6944869200289851198 tw4588902342097551006 tw4853405679062284246 tw7560788459775904168 tw9639775421868836936 tw5565453814813997430 tw11073051244282544140 tw13958473179745251531 tw4978164736908349736 tw12194360341400143510 tw8362814900521592205 tw12022967730743455086 tw4944762744686228644 tw7241807899040022593 tw9736019744463735641 tw12189972248980185539 tw9779074600925510152 tw16037049848696866800 tw4399296925500637989 tw1673954504189487899 tw14069642014337158351 tw14401887084797478199 tw454990966435934544 tw2805790646152917740 tw10384664129562582965 tw5258825409666835826 tw8051653367380682771 tw13150589595792679356 tw4313932434713692625 tw4917565050734617718 tw7116522759522013839 tw3469857314268647545 tw2642446049764187257 tw12050601875994450349 tw37163347703752502 tw18155919147476787205 tw11407623613895469408 tw14428752893984572771 tw13890579110446877097 tw9415547953759833436 tw17274782303436030895 tw6314861352131228219 tw5044401564017689305 tw5075242387314986165 tw17671432704900388509 tw3135330556300314742 tw13226069385561850086 tw12064067060361392663 tw3599913838881471639 tw7837360431615231944 tw4211214157607066178 tw1477431796831144447 tw14250564234678879441 tw15184033288966724487 tw4754531967694523740 tw12532922754937605620 tw11453449592679091838 tw9104872059815022206 tw17858969677989941341 tw7414502348510736019 tw10261573919091818388 tw11120708639719942464 tw6870740242453033277 tw2661951596206318791 tw13606066246147204944 tw8699855915302925122 tw12499834813969460776 tw2923291635594577080 tw10711103550597744188 tw6955213212584200937 tw17889380116774626273 tw17777472398587349629 tw12672854521581405326 tw1847829042969765543 tw7445412098274649885 tw4066623717399855739 tw11551358793956549672 tw4270120635580514777 tw7506937505125202199 tw16520100222451592225 tw10276818571769741875 tw6185250943296340934 tw1856638369450473732 tw3015035998090535288 tw15992033100446495663 tw4607112237568777489 tw1136206654895283412 tw9162915474697671213 tw15292286998837409346 tw14147634039093362678 tw8786629650290334229 tw13626181328112208715 tw3952396968032744642 tw2214982633277891439 tw4644061555997404521 tw3404181359385098119 tw5864742134298853463 tw5752349676973408685 tw11371924501941233833 tw7325450999171565448 tw11423757192109066422 tw1164853130491324640 tw16984883311898763439 tw14633588187480184256 tw4179644382693651936 tw15922063711759663027 tw8757619267527923459 tw1914205917997539748 tw13648312137082402221 tw2106322434297922396 tw8738920461181824210 tw13450412359287596876 tw18209846893404771286 tw1689255474236491138 tw10447316648187303819 tw6869226712554190609 tw15158818267380495289 tw16082393927074608752 tw1258999053273147829 tw5023686707471369658 tw344602258986309019 tw9903898254923366408 tw15745348502233367981 tw3407466162690385085 tw9367864828463244975 tw17758576070112969462 tw10147398878217596769 tw14991942237486601713 tw10688788897250742548 tw8606081331366582576 tw12571404132015550856 tw13974745727416839840 tw12531217001600711296 tw17576222402310844828 tw9464000885750684381 tw6599837230096704165 tw9950690344593137706 tw4691174803940053889 tw10540313373383952304 tw8831207833003227379 tw11147599274075750741 tw15912023807826494690 tw13316557918079962989 tw1469394978905334438 tw13495027121343753061 tw9463727095694506378 tw2874922086749850135 tw4341524056762666107 tw14620452395529395034 tw7462445474512299078 tw4626715247044167075 tw16555903146346938272 tw11189891111216419234 tw4541322039773428961 tw10285663955964028706 tw12896318761447236507 tw11936680733380323333 tw3837529785336851253 tw17271073684922676113 tw12797788368249227386 tw581790024992540756 tw12356665938299673940 tw6230646086402436343 tw17885000505567028735 tw4094133687082439494 tw11934603699801854289 tw9720487401546755752 tw740004060882438701 tw4774100577365431131 tw3117758490837559239 tw1137450963629150373 tw17567907566759681445 tw2868157764957684045 tw5767830576692188245 tw8056412962608306795 tw4047920465958019058 tw7443649591685221 tw16277326932586711818 tw11515920397259287862 tw1185181485044239627 tw8141807292468184535 tw13585789847850598789 tw11643297871280855885 tw2679223263067685056 tw12068903113982614096 tw7014013489484006634 tw15570531548362456589 tw7988745300980594636 tw5472364629810512850 tw4096314546296831526 tw16207156308613230084 tw14726605624571465894 tw15617609653286863051 tw2583344157127396301 tw10930340435454970096:True)
open PySem PySem.W PyProof.Rows
set_option maxRecDepth 100000 in
set_option maxHeartbeats 0 in
theorem PySem.Challenge.cw_layersplit_k43_whole_who_is_in_stays_holds : PySem.Challenge.rw_layersplit_k43_whole_who_is_in_stays.Holds := by
 w_on;o_law;k_head;(case hw=>w_witness2)
 k_fill
 refine L2.CQ (l:=PySem.Challenge.rw_layersplit_k43_whole_who_is_in_stays) (n:=63) (k:=17) (x:="_law_script") (CX:=L2.dR) (sp:=My.Dl) rfl (by decide) rfl ⟨rfl,by decide,by decide⟩ (λw h Y=>PySem.W.kIn_of Y) ?F ?S ?C
 case F=>
  intro w mg fa h KX G hmg;have T:∃a:My.fV,My.Txt (L2.KOf KX) mg a/\w.params=a.pm:=by
   dsimp only[L2.KOf]
   refine'⟨My.fV.mk ..,?T,rfl⟩
   case T=>
   constructor
   all_goals try dsimp only
   iterate 19(exact L2.K8 KX G (by k_is))
   iterate 42(exact L2.HF KX G (by k_is) (L2.Ap (by k_is) (by k_is) (by k_is)) (by first|exact L2.b1|exact L2.b2|exact L2.b3|exact L2.b4|exact L2.b5))
   iterate 28(exact L2.KP (by k_is) (by k_is) (L2.Ap (by k_is) (by k_is) (by k_is)) (by first|exact L2.b1|exact L2.b2|exact L2.b3|exact L2.b4|exact L2.b5))
   iterate 16(exact L2.HF KX G (by k_is) (L2.Ap (by k_is) (by k_is) (by k_is)) (by first|exact L2.b1|exact L2.b2|exact L2.b3|exact L2.b4|exact L2.b5))
   iterate 2(exact L2.Kw KX G (by k_is))
   iterate 12(exact L2.KY KX G (by k_is))
   iterate 2(exact⟨by k_is,by k_is,by k_is,by k_is⟩)
   iterate 3(exact L2.Bc (by k_is))
   iterate 2(exact⟨by k_is,by k_is,by k_is,by k_is⟩)
   iterate 3(exact L2.Bc (by k_is))
   iterate 2(exact⟨by k_is,by k_is,by k_is,by k_is⟩)
   iterate 7(exact L2.Bc (by k_is))
   iterate 2(exact⟨by k_is,by k_is,by k_is,by k_is⟩)
   iterate 6(exact L2.Bc (by k_is))
   iterate 13(exact L2.HB (by k_exc))
   exact⟨by decide,_,_,by k_is,by k_keys⟩
   iterate 10(exact⟨_,by k_is⟩)
   exact L2.KW (by k_is) (by(repeat(first|exact .nil|refine .cons ⟨_,rfl⟩ ?_))) rfl
   iterate 9(exact L2.Ka (L2.HB (by k_exc)) (by k_is) rfl (by decide))
   iterate 19(exact L2.J9 KX G (by k_is))
  obtain⟨a,T,hw⟩:=T;have e0:=hmg.symm.trans T.law.m;cases e0;exact⟨a.law.d,My.Ci T,λbase kb nb=>My.Ja T hw⟩
 case S=>exactλK H a ns hl hO hS=>My.Ch hl hS
 case C=>exactλ_ _ _ _ z=>z
#print axioms PySem.Challenge.cw_layersplit_k43_whole_who_is_in_stays_holds
