import PyProof.Rows.All
import Wide.All
import OpenK.AllK
import Wide.FinOn
import Lean
import PyProof.EqAt
import PyProof.EqKinds
import PyProof.TupleCall
import PyProof.WalksMore
import PyProof.SetScanFacts
import PyProof.Logic
import PyProof.FactsBase
import PyProof.TableTree
import PyProof.FactsTree
import PyProof.PlainAttrs
import PyProof.DictWalks
import PyProof.SetKind
import PyProof.ForAny
import PyProof.FactsAll.set_1
import PyProof.CollectWalk
import PyProof.WalkLemmas
import PyProof.FactsAll.set_2
import PyProof.Walk
import PyProof.Rows.SortStr
import KE.KRevIter
import KE.KDictList
import KE.KDictLaws
import PyProof.FString
import OpenK.KTop
import PyProof.StrLawsTight
import PyProof.Rows.StrLawsPart
import KE.KIntText
import PyProof.Rows.StrSplitJoin
import PyProof.ZipIter
import KE.IntTextLaws
import KE.KDictOf
import PyProof.AttrMissHeap
import PyProof.EnumMake
import PyProof.EnumFor
import PyProof.Draws
import PyProof.DictItems
import KE.KPairComp
import KE.KSortTup
import PyProof.Rows.SortWalk
import PySem.Challenge.RW_layersplit_k28_a_book_replayed
set_option Elab.async false
set_option linter.all false
set_option maxRecDepth 100000
set_option compiler.extract_closed false
def a_:=@PySem.wpAny_bind
def b_:=@List.length_map
def c_:=@List.getElem?_eq_some_iff
def d_:=@PySem.Heap.get?_push_of_some
def e_:=@Nat.le_refl
def f_:=@PySem.wpAny_pure
def g_:=@List.mem_of_getElem?
def h_:=@List.getElem?_eq_getElem
def i_:=@List.getElem?_map
def j_:=@PySem.Heap.get?_push_size
def k_:=@List.map_append
def l_:=@List.take_of_length_le
def md:=@if_pos
def me:=@if_neg
def mo:=@PySem.sizeLine_eq
def mu:=@List.length_append
def m3:=@PySem.Heap.lt_size
def m_:=@List.size_toArray
def nk:=@List.mem_iff_getElem?
def nn:=@Bool.false_ne_true
def np:=@List.mem_cons_of_mem
def nr:=@Nat.le_trans
def nB:=@Nat.ne_of_lt
def n_:=@Option.some.inj
def oa:=@List.mem_cons_self
def oi:=@List.mem_map
def ol:=@decide_eq_true
def op:=@decide_eq_false
def ot:=@Array.length_toList
def ov:=@Nat.zero_le
def oD:=@List.length_take
def o0:=@Bool.and_eq_true
def o8:=@List.map_cons
def o_:=@List.length_cons
def pa:=@List.getD_eq_getElem?_getD
def pu:=@Nat.lt_of_lt_of_le
def pv:=@List.mem_append_right
def pw:=@of_decide_eq_true
def p5:=@List.nodup_append
def p_:=@Ne.symm
def qq:=@PySem.PassesOwn.never
def qx:=@List.mem_append_left
def q4:=@List.append_nil
def q_:=@Nat.ne_of_gt
def rd:=@List.length_range
def rf:=@PySem.Heap.size_push
def ri:=@PySem.wpAny_holding
def rk:=@PySem.wpAny_call_entry
def rl:=@List.not_mem_nil
def rm:=@PySem.wpAny_newObj_type
def rr:=@List.find?_cons_of_neg
def ry:=@Int.toNat_natCast
def rV:=@List.getElem?_eq_none
def r4:=@PySem.wpAny_callSpecial?_slot
def r_:=@congrArg
def sg:=@Nat.lt_irrefl
def si:=@Sum.inr.inj
def so:=@List.getElem?_set_ne
def sD:=@List.getElem?_append_left
def sT:=@PySem.wpAny_setField_rec
def s_:=@List.find?_cons_of_pos
def th:=@PySem.wpAny_truthy_bool
def to:=@PySem.Calls.spliced_cons
def tx:=@List.find?_cons
def tA:=@beq_self_eq_true
def t0:=@PySem.Calls.callWith_builtin
def t2:=@List.replicate_succ
def t4:=@List.filterMap_cons
def t6:=@Nat.le_succ
def t_:=@List.take_append_drop
def u2:=@List.filterMap_append
def u_:=@PySem.Heap.get?_update_self
def vl:=@Array.getElem?_toList
def vr:=@Option.isSome_iff_exists
def vu:=@List.mem_cons
def v_:=@PySem.wpAny_ite_split
def wh:=@Nat.le_of_lt
def wr:=@List.map_map
def w1:=@PySem.wpAny_field
def w_:=@Nat.lt_succ_self
def x3:=@List.mem_range
def x_:=@PySem.Heap.get?_update_other
def yl:=@List.mem_filter
def y1:=@Array.getElem?_eq_getElem
def y2:=@List.length_filter_le
def y_:=@PySem.wpAny_Call_Name_kw
def z1:=@PySem.wpAny_seqItems
def z3:=@List.take_zero
def z4:=@PySem.Calls.evalArgs_plain
def z5:=@List.take_add_one
def z7:=@List.getElem?_inj
def z8:=@List.append_assoc
def z_:=@PySem.Calls.spliced_nil
def A_:=@PySem.wpAny_rule
def B_:=@List.length_set
def C1:=@List.foldl_cons
def C2:=@PyProof.Rows.callWith_type1
def C_:=@List.getElem?_set_self
def D_:=@List.any_cons
def Es:=@List.getElem?_append_right
def E1:=@PySem.wpAny_dictEpoch
def E2:=@PySem.codeAny_mono
def E_:=@Nat.lt_trans
def F_:=@Nat.lt_succ_of_lt
def G_:=@Nat.le_succ_of_le
def Ha:=@List.foldl_append
def H_:=@List.ext_getElem?
def I_:=@beq_eq_false_iff_ne
def J_:=@List.length_take_le
def K_:=@PySem.Heap.SameBut.update
def L_:=@Nat.succ_le_succ
def M_:=@List.all_eq_true
def Ng:=@PySem.tupleKind_room_in1
def Nh:=@PySem.call_meetsIn
def Ni:=@Nat.lt_of_le_of_lt
def Nj:=@PySem.wpAny_setState_of
def Nk:=@List.flatten_cons
def Nl:=@Nat.pow_le_pow_right
def Nm:=@List.nodup_iff_pairwise_ne
def Nn:=@PySem.F.slot_tuple_iterator_next
def No:=@PySem.Around.under_plainId
def Np:=@PySem.wpAny_askSetting
def Nq:=@List.getElem?_eq_none_iff
def Nr:=@List.map_congr_left
def Nt:=@or_false
def Nu:=@PySem.codeAny_builtin
def Nv:=@Option.map_some
def Nw:=@Int.emod_nonneg
def Nx:=@PySem.wpAny_pyIter_tuple
def Ny:=@List.map_singleton
def Nz:=@Int.emod_lt_of_pos
def NA:=@Bool.false_eq_true
def NB:=@PySem.wpAny_getItem_str_slice
def NC:=@PySem.wpAny_Call_method
def ND:=@PySem.builtinLookup_eq_fast
def NE:=@List.length_replicate
def NF:=@Nat.min_le_right
def NG:=@List.mem_reverse
def NH:=@List.length_drop
def NI:=@PySem.plainId_quiet
def NJ:=@List.all_cons
def NK:=@Prod.mk.inj
def NL:=@Nat.not_succ_le_self
def NM:=@List.mem_of_mem_take
def NN:=@PySem.Heap.get?_push_cases
def NO:=@PySem.wpAny_passesOwn
def NP:=@PySem.wpAny_execs_nil
def NQ:=@List.range_succ
def NR:=@List.of_mem_zip
def NS:=@PySem.wpAny_setEntries_of
def NT:=@Nat.mul_le_mul_left
def NU:=@List.length_reverse
def NV:=@Int.toNat_of_nonneg
def NW:=@List.map_nil
def NX:=@List.nodup_nil
def NY:=@List.mem_filterMap
def NZ:=@List.filter_append
def N1:=@Int.fdiv_eq_ediv_of_nonneg
def N2:=@List.mem_or_eq_of_mem_set
def N3:=@List.mem_of_find?_eq_some
def N4:=@PySem.wpAny_pyIter_list
def N5:=@Option.some.injEq
def N6:=@Option.isSome_map
def N7:=@List.take_sublist
def N8:=@List.getElem?_set
def N9:=@PySem.wpAny_attempt
def N_:=@List.length_filterMap_le
def Oa:=@List.getElem?_take_of_lt
def Ob:=@List.filterMap_cons_none
def Oc:=@PySem.AutoSeq1.wpAny_loadPart'
def Od:=@PySem.wpAny_isInstance
def Oe:=@if_false
def Of:=@Nat.le_max_right
def Og:=@List.lookup_cons
def Oh:=@List.head_eq_of_cons_eq
def Oi:=@List.filter_cons_of_pos
def Oj:=@List.filter_cons_of_neg
def Ol:=@List.filter_cons
def Om:=@List.append_inj'
def On:=@List.any_eq_true
def Oo:=@PyProof.Rows.F.plain_set_update_loop
def Op:=@Nat.succ_pos
def Oq:=@Nat.pow_succ
def Os:=@Nat.lt_or_ge
def Ot:=@PySem.wpAny_specialOf
def Ou:=@PySem.typeLookup_type
def Ov:=@PySem.post_val_or_str
def Ow:=@Nat.not_lt_zero
def Ox:=@Nat.le_max_left
def Oy:=@List.forIn_cons
def Oz:=@PySem.F.slot_zip_next
def OA:=@Bool.eq_iff_iff
def OB:=@List.getElem?_toArray
def OC:=@PySem.isSubtype_type
def OD:=@Option.or_none
def OE:=@List.Perm.refl
def OF:=@Int.le_refl
def OG:=@List.map_take
def OH:=@of_decide_eq_false
def OI:=@List.getElem?_drop
def OJ:=@List.find?_eq_none
def OK:=@PySem.wpAny_typeOf
def OL:=@PySem.wpAny_pyIter_slot
def OM:=@if_true
def ON:=@Nat.le_of_eq
def OO:=@List.find?_isSome
def OP:=@List.find?_append
def OQ:=@List.any_eq_false
def OR:=@List.Sublist.refl
def OS:=@Int.emod_eq_of_lt
def OT:=@Array.toList_push
def OU:=@PyProof.Rows.slot_tuple_getitem
def OV:=@PySem.wpAny_forIn_list
def OW:=@PySem.wpAny_execs_cons
def OX:=@Nat.le_of_not_lt
def OY:=@List.getElem_mem
def OZ:=@List.getElem_map
def O0:=@List.take_append_of_le_length
def O1:=@PySem.wpAny_updateSeq
def O2:=@List.nodup_cons
def O3:=@List.length_nil
def O4:=@List.find?_some
def O5:=@PySem.F.args_tuple_iterator_next_1
abbrev O6:=PySem.W.Frag
abbrev O7:=PySem.Value->PySem.Shared->Prop
abbrev O8:=List (PySem.Addr×PySem.Obj)
abbrev O9:=PySem.Str->Option PySem.Value
abbrev O_:=List PySem.Value
abbrev Pa:=PySem.Program
abbrev Pb:=List PySem.Str
abbrev Pc:=List PySem.Expr
abbrev Pd:=Array PySem.Value
abbrev Pe:=List Nat
abbrev Pf:=List PySem.Addr
abbrev Pg:=List Int
set_option genSizeOf false in
inductive My.Ro|hh|ln|tn|ci|dl|lo(i:Nat)|iu(i:Nat)|tb(i:Nat)|od(i:Nat)|td(i:Nat)|tr(i:Nat)|ba(i:Nat)deriving DecidableEq
section
local macro_rules|`(tactic|show $e)=>`(tactic|refine $e)
local macro_rules|`(())=>`(rfl)
local macro_rules(kind:=«term{_}»)|`({$a,*})=>`(⟨$a,*⟩)
local macro_rules|`(($a,$b,*))=>if b.elemsAndSeps.size%2==0 then `(⟨$a,$b,*⟩)else Lean.Macro.throwUnsupported
namespace L2
open PySem PySem.Spec PyProof.Rows
abbrev bZ:=Sum Int Str
def nN:bZ->Value->Bool|.inl k,v=>Value.isInt k v|.inr x,v=>Value.isStrOf x v
def MW(w:World):bZ->Int|.inl k=>hashInt k|.inr x=>hashStr w x
def cG:∀{k:bZ}{v:Value},nN k v=true->(∃i t,k=Sum.inl i/\v=Value.int i t)\/(∃x t,k=Sum.inr x/\v=Value.str x t)|.inl i,v,h=>by obtain⟨t,e⟩:=Value.isInt_shape (k:=i) (v:=v) h;show .inl {i,t,(),e}|.inr x,v,h=>by obtain⟨t,e⟩:=Value.isStrOf_shape (x:=x) (v:=v) h;show .inr {x,t,(),e}
def wL(i:Int)(t:Tok):nN (.inl i) (.int i t)=true:=by simp[nN,Value.isInt]
def wK(x:Str)(t:Tok):nN (.inr x) (.str x t)=true:=by simp[nN,Value.isStrOf]
def J0(a b:Int):decide ((Sum.inl a:bZ)=Sum.inl b)=(a==b):=by
 by_cases e:a=b
 ·subst e;simp
 ·have h:¬(Sum.inl a:bZ)=Sum.inl b:=λq=>e (Sum.inl.inj q);rw[op h];show(I_.mpr e).symm
def JX(a b:Str):decide ((Sum.inr a:bZ)=Sum.inr b)=decide (a=b):=by
 by_cases e:a=b
 ·subst e;simp
 ·have h:¬(Sum.inr a:bZ)=Sum.inr b:=λq=>e (si q);rw[op h,op e]
def JZ(a:Int)(b:Str):decide ((Sum.inl a:bZ)=Sum.inr b)=false:=op (nofun)
def JY(a:Str)(b:Int):decide ((Sum.inr a:bZ)=Sum.inl b)=false:=op (nofun)
def aU(prog:Pa)(w:World):PySem.KeyKind prog w bZ where
 is:=nN
 hash:=MW w
 inj:=λv a b g f=>by
  rcases cG g with⟨i,t,rfl,rfl⟩|⟨x,t,rfl,rfl⟩
  ·rcases cG f with⟨j,u,rfl,e⟩|⟨y,u,rfl,e⟩
   ·injection e with c _;rw[c]
   ·show nomatch e
  ·rcases cG f with⟨j,u,rfl,e⟩|⟨y,u,rfl,e⟩
   ·show nomatch e
   ·injection e with c _;rw[c]
 byValue:=λk v h=>by rcases cG h with⟨i,t,rfl,rfl⟩|⟨x,t,rfl,rfl⟩<;>rfl
 pyHash:=λd h=>by
  rcases cG d with⟨i,t,rfl,rfl⟩|⟨x,t,rfl,rfl⟩
  ·show wpAny_pyHash_int h
  ·show wpAny_pyHash_str h
 eqBool:=λl d h=>by
  rcases cG l with⟨i,t,rfl,rfl⟩|⟨x,t,rfl,rfl⟩
  ·rcases cG d with⟨j,u,rfl,rfl⟩|⟨y,u,rfl,rfl⟩
   ·rw[J0]at h;show wpAny_eqBool_int h
   ·rw[JZ]at h;show SeqAt.EqAt.int_str i t y u _ _ _ _ h
  ·rcases cG d with⟨j,u,rfl,rfl⟩|⟨y,u,rfl,rfl⟩
   ·rw[JY]at h;show SeqAt.EqAt.str_int x t j u _ _ _ _ h
   ·rw[JX]at h;show wpAny_eqBool_str h
 «strs»:=λk x t v h=>by
  rcases cG h with⟨i,u,rfl,e⟩|⟨y,u,rfl,e⟩
  ·show nomatch e
  ·injection e with c _
   subst c
   cases v<;>rfl
def At(prog:Pa)(w:World)(k:bZ)(v:Value):(aU prog w).is k v=nN k v:=rfl
def zc(prog:Pa)(w:World)(i:Int)(t:Tok):(aU prog w).is (.inl i) (.int i t)=true:=wL i t
def rB(prog:Pa)(w:World)(x:Str)(t:Tok):(aU prog w).is (.inr x) (.str x t)=true:=wK x t
inductive V where|non|bl(b:Bool)|int(i:Int)|str(x:Str)|byt(b:Array UInt8)|flt(b:UInt64)|ref(a:Addr)|ty(n:String)deriving DecidableEq
def aV:V->Value->Prop|.non,u=>u=Value.none|.bl b,u=>u=Value.bool b|.int i,u=>∃t,u=Value.int i t|.str x,u=>∃t,u=Value.str x t|.byt b,u=>∃t,u=Value.bytes b t|.flt b,u=>∃t,u=Value.float b t|.ref a,u=>u=Value.ref a|.ty n,u=>u=Value.type n
abbrev aZ:List V->List Value->Prop:=Paired aV
theorem aZ.length(r:aZ a c):a.length=c.length:=Paired.length r
theorem aZ.get:∀{a:List V}{c:O_}{i:Nat}{x:V},aZ a c->a[i]?=some x->∃u,c[i]?=some u/\aV x u|_,_,_,_,.nil,e=>by simp at e|_,_,0,_,.cons r _,e=>by simp at e;subst e;show{_,(),r}|_,_,i+1,x,.cons _ t,e=>by obtain⟨u,h1,h2⟩:=aZ.get (i:=i) (x:=x) t (by simpa using e);show{u,by simpa using h1,h2}
theorem aZ.set(r:aV x u):∀{a:List V}{c:O_}(i:Nat),aZ a c->aZ (a.set i x) (c.set i u)|_,_,_,.nil=>.nil|_,_,0,.cons _ t=>.cons r t|_,_,i+1,.cons q t=>.cons q (aZ.set r i t)
theorem aZ.append:∀{a c:List V}{d e:O_},aZ a d->aZ c e->aZ (a++c) (d++e)|_,_,_,_,.nil,s=>s|_,_,_,_,.cons r t,s=>.cons r (aZ.append t s)
theorem aZ.take:∀{a:List V}{c:O_}(n:Nat),aZ a c->aZ (a.take n) (c.take n)|_,_,0,_=>.nil|_,_,_+1,.nil=>.nil|_,_,n+1,.cons r t=>.cons r (aZ.take n t)
theorem aZ.drop:∀{a:List V}{c:O_}(n:Nat),aZ a c->aZ (a.drop n) (c.drop n)|_,_,0,r=>r|_,_,_+1,.nil=>.nil|_,_,n+1,.cons _ t=>aZ.drop n t
def kM:Option V->Option Value->Prop|some v,some u=>aV v u|none,none=>True|_,_=>False
def KV{a:Type}:List (a×V)->List (a×Value)->Prop:=Paired λ(p:a×V)(q:a×Value)=>p.1=q.1/\aV p.2 q.2
def kV:bZ->V|.inl i=>.int i|.inr x=>.str x
inductive HO where|lst(xs:List V)|tup(xs:List V)|dK(kvs:List (bZ×V))|dT(kvs:List (List bZ×V))|set(S:Int->Bool)(n:Nat)|ins(C dx:Addr)(fs:List (Str×V))|own(x:Addr)|xd(fs:List (Str×V))|met(f x:Addr)|rng(lo hi:Int)|frz(o:Obj)(u:HO)|tbl(ps:Pd)|ext(φ:Heap->Prop)
abbrev Hp:=Addr->Option HO
def aH(H:Hp)(a:Addr)(o:HO):Hp:=λb=>if b=a then some o else H b
def ae:aH H a o a=some o:=by unfold aH;rw[md ()]
def ak(h:b≠a):aH H a o b=H b:=by unfold aH;rw[me h]
def iw:aH (aH H a o) a u=aH H a u:=by funext b;unfold aH;split<;>rfl
def Lz{H:Hp}{a b:Addr}{o u:HO}(h:H a=some o)(h':H b=some u)(d:o≠u):a≠b:=by intro e;subst e;rw[h]at h';show d (n_ h')
def av{H:Hp}{a b:Addr}{o:HO}(h:H a=some o)(h':H b=none):a≠b:=by intro e;subst e;rw[h]at h';cases h'
section
variable(P:Pa)(w:World)
def dw(H:Hp)(h:Heap)(a:Addr):HO->Prop|.lst d=>d.length<=sizeLine/\∃(b:O_)(n:Nat),aZ d b/\h.get? a=some {cls:=.type "list",data:=.seq b.toArray n}|.tup d=>d.length<=sizeLine/\∃b:List Value,aZ d b/\IsTup h a b.toArray|.dK c=>c.length<=sizeLine/\(a==sysModules)=false/\∃g,KV c g/\h.DictOf (aU P w) a g|.dT c=>c.length<=sizeLine/\(a==sysModules)=false/\∃d:List (List bZ×Addr×Value),Paired (λ(p:List bZ×V)(q:List bZ×Addr×Value)=>p.1=q.1/\H q.2.1=some (.tup (p.1.map kV))/\aV p.2 q.2.2) c d/\∃o es ep,h.get? a=some o/\o.ExactDict/\o.data=.dict es ep/\es.toList=d.map (entryOfKey (tupleKind (aU P w)))/\(d.map (·.1)).Nodup|.set S n=>h.SetOf (intKind P w) a S n|.ins C dx fs=>H dx=some (.own a)/\fs.length<=1000/\dx≠a/\h.get? a=some (PySem.W.instObj C dx)/\∃e,h.Ns1 dx e/\(∀f,kM (fs.lookup f) (e f))/\PySem.Within e (fs.map (·.1))|.own _=>∃o,h.get? a=some o|.xd fs=>∃e,h.Ns1 a e/\∀f,kM (fs.lookup f) (e f)|.rng lo hi=>∃t u v,h.get? a=some {cls:=.type "range",data:=.fields #[.int lo t,.int hi u,.int 1 v]}|.frz o u=>h.get? a=some o/\dw H h a u|.tbl i=>h.get? a=some {cls:=.none,data:=.fields i}|.met f x=>h.get? a=some (PySem.W.methodObj (.ref f) (.ref x))|.ext φ=>φ h/\(∃o,h.get? a=some o)/\∀h1 h2:Heap,φ h1->(∀o,h1.get? a=some o->h2.get? a=some o)->φ h2
def lG(H:Hp)(h:Heap):Prop:=∀a o,H a=some o->dw P w H h a o
end
section
variable{P:Pa}{w:World}{H g:Hp}{h h':Heap}{a:Addr}{o:HO}
theorem dw.lt(x:dw P w H h a o):a<h.objs.size:=by cases o with|lst c=>obtain⟨_,_,_,_,e⟩:=x;show m3 e|tup c=>obtain⟨_,_,_,p⟩:=x;show p.lt|dK b=>obtain⟨_,_,_,_,o,_,_,e,_⟩:=x;show m3 e|dT b=>obtain⟨_,_,_,_,o,_,_,e,_⟩:=x;show m3 e|set S n=>obtain⟨o,_,_,_,e,_⟩:=x;show m3 e|ins C dx fs=>obtain⟨_,_,_,e,_⟩:=x;show m3 e|own y=>obtain⟨_,e⟩:=x;show m3 e|xd fs=>obtain⟨_,⟨_,_,_,e,_⟩,_⟩:=x;show m3 e|rng lo hi=>obtain⟨_,_,_,e⟩:=x;show m3 e|frz ob u=>obtain⟨e,_⟩:=x;show m3 e|tbl d=>show m3 (show h.get? a=some _ from x)|met f y=>show m3 (show h.get? a=some _ from x)|ext φ=>obtain⟨_,⟨_,e⟩,_⟩:=x;show m3 e
theorem Paired.mapP:∀{c:List e}{d:List i},Paired F c d->(∀a b,F a b->G a b)->Paired G c d|_,_,.nil,_=>.nil|_,_,.cons r t,f=>.cons (f _ _ r) (Paired.mapP t f)
def dw.stay(x:dw P w H h a o)(k:∀b u,(b=a\/H b=some (.own a))->h.get? b=some u->h'.get? b=some u)(B:∀b,H b=some (.own a)->g b=some (.own a))(D:∀b j,H b=some (.tup j)->g b=some (.tup j)):dw P w g h' a o:=by induction o with|lst j=>obtain⟨z,i,n,r,e⟩:=x;show{z,i,n,r,k _ _ (.inl ()) e}|tup j=>obtain⟨z,i,r,ob,e,c⟩:=x;show{z,i,r,ob,k _ _ (.inl ()) e,c}|dK l=>obtain⟨z,y,E,r,ob,es,ep,e,c⟩:=x;show{z,y,E,r,ob,es,ep,k _ _ (.inl ()) e,c}|dT l=>obtain⟨z,y,j,r,ob,es,ep,e,c⟩:=x;show{z,y,j,Paired.mapP r λp q z=>{z.1,D _ _ z.2.1,z.2.2},ob,es,ep,k _ _ (.inl ()) e,c}|set S n=>obtain⟨ob,es,ep,t,e,c⟩:=x;show{ob,es,ep,t,k _ _ (.inl ()) e,c}|ins C dx fs=>obtain⟨d,z,ne,e,m,⟨s,es,ep,F,c⟩,r⟩:=x;show{B _ d,z,ne,k _ _ (.inl ()) e,m,{s,es,ep,k _ _ (.inr d) F,c},r}|own y=>obtain⟨ob,e⟩:=x;show{ob,k _ _ (.inl ()) e}|xd fs=>obtain⟨m,⟨s,es,ep,e,c⟩,r⟩:=x;show{m,{s,es,ep,k _ _ (.inl ()) e,c},r}|rng lo hi=>obtain⟨t,u,v,e⟩:=x;show{t,u,v,k _ _ (.inl ()) e}|frz ob u G=>obtain⟨e,q⟩:=x;show{k _ _ (.inl ()) e,G q}|tbl A=>have e:h.get? a=some {cls:=.none,data:=.fields A}:=x;change h'.get? a=some {cls:=.none,data:=.fields A};show k a _ (.inl ()) e|met f y=>have e:h.get? a=some (PySem.W.methodObj (.ref f) (.ref y)):=x;change h'.get? a=some (PySem.W.methodObj (.ref f) (.ref y));show k a _ (.inl ()) e|ext φ=>obtain⟨p,⟨o,e⟩,st⟩:=x;show{st _ _ p λo q=>k _ _ (.inl ()) q,{o,k _ _ (.inl ()) e},st}
theorem lG.lt(x:lG P w H h)(e:H a=some o):a<h.objs.size:=(x a o e).lt
def lG.fresh(x:lG P w H h)(e:h.objs.size<=a):H a=none:=by cases q:H a with|none=>rfl|some u=>show absurd (pu (x.lt q) e) (sg _)
def lG.kept(x:lG P w H h)(k:∀b u,h.get? b=some u->h'.get? b=some u):lG P w H h':=λa o e=>(x a o e).stay (λb u _ q=>k b u q) (λ_ q=>q) λ_ _ q=>q
def lG.laid(x:lG P w H h)(k:∀b u,h.get? b=some u->h'.get? b=some u)(f:h.objs.size<=a)(new:dw P w (aH H a o) h' a o):lG P w (aH H a o) h':=λb u e=>by
 have hn:=x.fresh f
 by_cases d:b=a
 ·subst d;rw[ae]at e;cases e;show new
 ·rw[ak d]at e;show(x b u e).stay (λc v _ q=>k c v q) (λc q=>by rw[ak (av q hn)];show q) λc i q=>by rw[ak (av q hn)];show q
end
def Rd(H:Hp)(a:Addr)(u:HO):Prop:=H a=some u\/∃o,H a=some (.frz o u)
def Rd.ok(r:Rd H a u)(x:lG P w H h):dw P w H h a u:=by
 rcases r with r|⟨o,r⟩
 ·show x a u r
 ·obtain⟨_,q⟩:=x a _ r;show q
def Mh:Option HO->Prop|some (.lst _)=>True|some (.dK _)=>True|some (.dT _)=>True|some (.set _ _)=>True|some (.ins _ _ _)=>True|some (.ext _)=>True|_=>False
section
variable{P:Pa}{w:World}{H:Hp}{h h':Heap}{x e:Addr}{a:HO}
def lG.write(ok:lG P w H h)(g:Mh (H x))(m:e=x\/H e=some (.own x))(k:∀b u,b≠e->h.get? b=some u->h'.get? b=some u)(l:∃u,h'.get? e=some u)(new:dw P w (aH H x a) h' x a):lG P w (aH H x a) h':=λb u q=>by
 have f:∀c y,H c=some (.own y)->c≠x:=λc y r z=>by subst z;rw[r]at g;show g
 have ntup:∀c i,H c=some (.tup i)->c≠x:=λc i r z=>by subst z;rw[r]at g;show g
 by_cases j:b=x
 ·subst j;rw[ae]at q;cases q;show new
 ·rw[ak j]at q
  by_cases d:b=e
  ·have n:H b=some (.own x):=by
    rcases m with z|z
    ·show absurd (d.trans z) j
    ·rw[d];show z
   rw[q]at n;cases n;obtain⟨v,o⟩:=l;show{v,by rw[d];show o}
  ·show(ok b u q).stay (λc v hc r=>k c v ?_ r) (λc r=>by rw[ak (f c b r)];show r) λc i r=>by rw[ak (ntup c i r)];show r
   rcases hc with rfl|hc
   ·show d
   ·rintro rfl;rcases m with z|z
    ·show f c b hc z
    ·rw[hc]at z;cases z;show j ()
end
structure Un(fs ex:Pf)(H H':Hp)(h h':Heap):Prop where
 keep:∀b o,h.get? b=some o->H b=none->b∉fs->b∉ex->h'.get? b=some o
 slot:∀b o,h.get? b=some o->H b=none->b∈fs->b∉ex->∃sl,h'.get? b=some {o with slots:=sl}free:∀b o,h.get? b=some o->H b=none->b∉ex->H' b=none
 there:∀b o,h.get? b=some o->b∉ex->∃o',h'.get? b=some o'
 tups:∀b xs,H b=some (.tup xs)->H' b=some (.tup xs)frzs:∀b o u,H b=some (.frz o u)->H' b=some (.frz o u)tbls:∀b ps,H b=some (.tbl ps)->∃more,H' b=some (.tbl (ps++more))
section
variable{fs ex:Pf}{H c:Hp}{h h1 h':Heap}{a x e:Addr}{o:HO}
def Un.any(u:Un fs ex H c h h1){b:Addr}{ob:Obj}(q:h.get? b=some ob)(n:H b=none)(i:b∉ex):∃sl,h1.get? b=some {ob with slots:=sl}:=by
 by_cases j:b∈fs
 ·show u.slot b ob q n j i
 ·show{ob.slots,u.keep b ob q n j i}
def Un.kept(k:∀b u,h.get? b=some u->h'.get? b=some u):Un fs ex H H h h':={λb ob q _ _ _=>k b ob q,λb ob q _ _ _=>{ob.slots,k b ob q},λ_ _ _ n _=>n,λb ob q _=>{ob,k b ob q},λ_ _ q=>q,λ_ _ _ q=>q,λ_ i q=>{#[],by rw[q];simp}}
def Un.refl:Un fs ex H H h h:=Un.kept λ_ _ q=>q
def Un.laid(k:∀b u,h.get? b=some u->h'.get? b=some u)(i:h.objs.size<=a)(hn:H a=none):Un fs ex H (aH H a o) h h' where
 keep:=λb u q _ _ _=>k b u q
 slot:=λb u q _ _ _=>{u.slots,k b u q}
 free:=λb u q n _=>by rw[ak (nB (pu (m3 q) i))];show n
 there:=λb u q _=>{u,k b u q}
 tups:=λb j q=>by rw[ak (av q hn)];show q
 frzs:=λb u j q=>by rw[ak (av q hn)];show q
 tbls:=λb l q=>{#[],by rw[ak (av q hn),q];simp}
def Un.write(j:Mh (H x))(s:e=x\/H e=some (.own x))(k:∀b u,b≠e->h.get? b=some u->h'.get? b=some u)(l:∃u,h'.get? e=some u):Un fs ex H (aH H x o) h h':=by
 have m:∀b,H b=none->b≠x:=λb n z=>by subst z;rw[n]at j;show j
 have p:∀b,H b=none->b≠e:=λb n z=>by
  subst z;rcases s with r|r
  ·show m b n r
  ·rw[n]at r;cases r
 have hm:∀b u,H b=some u->¬Mh (some u)->b≠x:=λb u q nm z=>by subst z;rw[q]at j;show nm j
 show{λb u q n _ _=>k b u (p b n) q,λb u q n _ _=>{u.slots,k b u (p b n) q},λb u q n _=>by rw[ak (m b n)];show n,λb u q _=>?_,λb t q=>by rw[ak (hm b _ q λz=>z)];show q,λb u t q=>by rw[ak (hm b _ q λz=>z)];show q,λb v q=>{#[],by rw[ak (hm b _ q λz=>z),q];simp}}
 by_cases i:b=e
 ·subst i;show l
 ·show{u,k b u i q}
end
def Mu(h:Heap)(H:Hp):List Addr:=(List.range h.objs.size).filter λa=>(H a).isSome
def xP(h:Heap)(H:Hp):Heap:=PySem.W.hideAll h (Mu h H)
def Cz(h:Heap)(H:Hp):(xP h H).objs.size=h.objs.size:=PySem.W.hideAll_size _ _
def EW(e:h.get? b=some o)(n:H b=none):(xP h H).get? b=some o:=PySem.W.hideAll_get _ e λhm=>by have q:(H b).isSome=true:=(yl.mp hm).2;rw[n]at q;simp at q
def GS(e:(xP h H).get? b=some o):h.get? b=some o/\H b=none:=by have a:h.get? b=some o:=PySem.W.of_hideAll (Mu h H) e;show{a,?_};cases q:H b with|none=>rfl|some x=>have hm:b∈Mu h H:=yl.mpr {x3.mpr (m3 a),by simp[q]};have z:(xP h H).get? b=none:=PySem.W.hideAll_none (Mu h H) hm;rw[z]at e;cases e
def HE(g h:Heap)(L:Addr):List (Addr×Obj):=(List.range h.objs.size).filterMap λa=>if a=L\/(g.get? a).isSome=true then none else(h.get? a).map λo=>(a,o)
def qp(g h:Heap)(L d:Addr):List (Addr×Obj):=(HE g h L).filter λp=>decide (p.1≠d)
structure Mi(K:O6)(mg:O9)(base:Heap):Prop where
 kin:K.In base
 glob:base.Ns mainGlobals mg
 blt:∃mb,base.Ns builtinsNs mb/\∀x:Str,x≠"__name__"->mb x=bootBuiltins x
 nolimit:base.NoLimit
structure Cx where
 prog:Program
 w:World
 K:O6
 mg:Str->Option Value
 base:Heap
 A:Around
 N:List Str
 s₀:Shared
 H₀:Hp
 env:Env
 outer:List Env
 stack:List Env
 ex:List Addr
 fn:Str->Bool
 calm:Bool
 pn:List (Addr×Obj)xe:Value->Shared->Prop
def jR(l:List Env):List Addr:=l.filterMap (·.frame)
abbrev Cx.fs(X:Cx):List Addr:=jR X.outer
def MA(a:Scope)(x:Str):Prop:=a.names.lookup x=some .local\/a.names.lookup x=some .cell\/a.names.lookup x=some .free
def Kw(a:Scope)(x:Str):Prop:=a.names.lookup x=some .local\/a.names.lookup x=some .cell
def Nc(env:Env)(h:Heap)(m:O9)(x:Str)(u:Value):Prop:=(env.kindOf x=some .local/\m x=some u)\/((env.kindOf x=some .cell\/env.kindOf x=some .free)/\∃c,env.cells.lookup x=some c/\h.IsCell c (some u))
structure Cx.Ok(X:Cx):Prop where
 mod:Mi X.K X.mg X.base
 kind:X.env.scope.kind=.function
 glob:X.env.globals=mainGlobals
 blt:X.env.builtins=builtinsNs
 above:X.s₀.heap.objs.size<=X.env.locals
 inj:∀x y c,X.env.cells.lookup x=some c->X.env.cells.lookup y=some c->x=y
 has:∀x,(X.env.kindOf x=some .cell\/X.env.kindOf x=some .free)->∃c,X.env.cells.lookup x=some c
 cab:∀x c,X.fn x=true->X.env.cells.lookup x=some c->X.s₀.heap.objs.size<=c
 hd:X.calm=true->X.A.handled=none
 frames:X.A.frames=some X.stack
 stk:X.stack=X.outer\/(X.stack=X.env::X.outer/\X.env.frame=some X.env.locals)exf:∀b∈X.ex,b≠X.env.locals/\∀x c,X.env.cells.lookup x=some c->c≠b
 bs:∀b o,X.base.get? b=some o->X.s₀.heap.get? b=some o/\X.H₀ b=none
 bsz:X.base.objs.size<=X.s₀.heap.objs.size
 noex:∀b o,X.base.get? b=some o->b∉X.ex
 exfs:∀b∈X.ex,b∉X.fs
 funs:X.s₀.heap.FunFrames X.base X.outer
 frf:∀b∈X.fs,X.H₀ b=none
structure aO(X:Cx)(pins:O8)(σ:List (Option V))(H:Hp)(s:Shared):Prop where
 ok:X.Ok
 os:s.os=X.s₀.os
 bare:AllBare s.gens
 base:Un X.fs X.ex X.H₀ H X.s₀.heap s.heap
 loc:∃m,s.heap.Ns X.env.locals m/\∀(i:Nat)(x:Str)(v:V),X.N[i]?=some x->σ[i]?=some (some v)->MA X.env.scope x->∃u,aV v u/\Nc X.env s.heap m x u
 cell:∀x c,X.env.cells.lookup x=some c->∃v,s.heap.IsCell c v
 free:H X.env.locals=none
 freeC:∀x c,X.env.cells.lookup x=some c->H c=none
 pin:∀p∈X.pn++pins,s.heap.get? p.1=some p.2/\H p.1=none/\p.1≠X.env.locals/\p.1∉X.fs/\∀v,p.2.data≠.cell v
 hok:lG X.prog X.w H s.heap
 len:σ.length=X.N.length
section
variable{X:Cx}{f:O8}{g:List (Option V)}{H B:Hp}{s:Shared}{h':Heap}
def Cx.Ok.nofr(ok:X.Ok)(e:X.base.get? b=some o):b∉X.fs:=λa=>by have:=(ok.funs.mem a).1;rw[e]at this;cases this
theorem aO.bs(I:aO X f g H s):∀b o,X.base.get? b=some o->s.heap.get? b=some o/\H b=none:=λb o e=>{I.base.keep b o (I.ok.bs b o e).1 (I.ok.bs b o e).2 (I.ok.nofr e) (I.ok.noex b o e),I.base.free b o (I.ok.bs b o e).1 (I.ok.bs b o e).2 (I.ok.noex b o e)}
def aO.bk(I:aO X f g H s):∀b o,X.base.get? b=some o->s.heap.get? b=some o:=λb o e=>(I.bs b o e).1
theorem aO.mod(I:aO X f g H s):Mi X.K X.mg X.base:=I.ok.mod
def aO.kIn(I:aO X f g H s):X.K.In s.heap:=I.ok.mod.kin.keeps I.bk
def aO.fr(I:aO X f g H s):∃m,Fr X.base X.env.locals s.heap m:=let⟨m,hn,_⟩:=I.loc
 {m,hn,I.bk,nr I.ok.bsz I.ok.above}
theorem aO.lt(I:aO X f g H s):X.env.locals<s.heap.objs.size:=let⟨_,hn,_⟩:=I.loc;hn.lt
def aO.sz(I:aO X f g H s):X.s₀.heap.objs.size<=s.heap.objs.size:=nr I.ok.above (wh I.lt)
def aO.nofs(I:aO X f g H s)(h:s.heap.objs.size<=a):a∉X.fs:=λb=>by obtain⟨_,o,c,_⟩:=I.ok.funs.mem b;show absurd (pu (m3 c) (nr I.sz h)) (sg _)
def aO.cne(I:aO X f g H s):∀x c,X.env.cells.lookup x=some c->c≠X.env.locals:=λx c e z=>by obtain⟨v,o,d,hd⟩:=I.cell x c e;obtain⟨m,⟨h,es,ep,a,b,_⟩,_⟩:=I.loc;rw[z,a]at d;cases d;rw[b]at hd;cases hd
theorem aO.funs(I:aO X f g H s):s.heap.FunFrames X.base X.outer:=by
 have all:∀(l:List Env),(∀b∈jR l,b∈X.fs)->X.s₀.heap.FunFrames X.base l->s.heap.FunFrames X.base l:=by
  intro l
  induction l with|nil=>intro _ _;trivial|cons env r i=>intro h j;obtain⟨k,⟨L,o,a,hn,m,hd⟩,n⟩:=j;have c:L∈X.fs:=h L (by unfold jR;rw[t4,a];show oa);obtain⟨sl,e⟩:=I.base.slot L o m (I.ok.frf L c) c λz=>I.ok.exfs L z c;show{k,{L,_,a,hn,e,hd},i (λb d=>h b (by unfold jR;rw[t4,a];show np _ d)) n}
 show all X.outer (λ_ d=>d) I.ok.funs
theorem aO.stack(I:aO X f g H s):s.heap.FunFrames X.base X.stack:=by
 rcases I.ok.stk with e|⟨e,a⟩
 ·rw[e];show I.funs
 ·rw[e];obtain⟨m,hn,_⟩:=I.loc;show .cons (by rw[I.ok.kind];decide) a hn ?_ I.funs;show Heap.get?_none_of_le (nr I.ok.bsz I.ok.above)
def aO.stkSub(I:aO X f g H s):∀b∈jR X.stack,b∈X.env.locals::X.fs:=λb a=>by
 rcases I.ok.stk with e|⟨e,c⟩
 ·rw[e]at a;show np _ a
 ·rw[e]at a;unfold jR at a;rw[t4,c]at a;show a
def aO.stkFree(I:aO X f g H s):∀b∈jR X.stack,H b=none:=λb a=>by
 rcases vu.mp (I.stkSub b a)with e|a
 ·rw[e];show I.free
 ·obtain⟨_,o,c,_⟩:=I.ok.funs.mem a;show I.base.free b o c (I.ok.frf b a) λz=>I.ok.exfs b z a
def aO.step{g':Array GenState}{P:Nat}{d':Drawn}{ch:Pf}(I:aO X f g H s)(h:∀b∈ch,(b∈X.ex\/X.s₀.heap.objs.size<=b)/\b≠X.env.locals/\(∀x c,X.env.cells.lookup x=some c->c≠b)/\∀p∈X.pn++f,p.1≠b)(keep:∀b o,b≠X.env.locals->b∉X.fs->b∉ch->s.heap.get? b=some o->H b=none->h'.get? b=some o)(slot:∀b o,b≠X.env.locals->b∈X.fs->b∉ch->s.heap.get? b=some o->H b=none->∃sl,h'.get? b=some {o with slots:=sl})(free:∀b o,b∉ch->s.heap.get? b=some o->H b=none->B b=none)(there:∀b o,b∉ch->s.heap.get? b=some o->∃F,h'.get? b=some F)(tups:∀b C,H b=some (.tup C)->B b=some (.tup C))(frzs:∀b o u,H b=some (.frz o u)->B b=some (.frz o u))(tbls:∀b L,H b=some (.tbl L)->∃G,B b=some (.tbl (L++G)))(ns:∀m,s.heap.Ns X.env.locals m->h'.Ns X.env.locals m)(hok:lG X.prog X.w B h')(hg:AllBare g'):aO X f g B {s with heap:=h',gens:=g',drawn:=d',toks:=P}:=by
 have J:∀b o,X.s₀.heap.get? b=some o->b≠X.env.locals:=λb o e=>nB (pu (m3 e) I.ok.above);have y:∀b o,X.s₀.heap.get? b=some o->b∉X.ex->b∉ch:=λb o e a D=>by
  rcases(h b D).1 with z|z
  ·show a z
  ·show absurd (pu (m3 e) z) (sg _)
 have j:∀x c,X.env.cells.lookup x=some c->∀v,s.heap.IsCell c v->h'.IsCell c v:=λx c e v⟨o,E,hd⟩=>by
  have t:c∉ch:=λz=>(h c z).2.2.1 x c e ()
  by_cases hc:c∈X.fs
  ·obtain⟨sl,q⟩:=slot c o (I.cne x c e) hc t E (I.freeC x c e);show{_,q,hd}
  ·show{o,keep c o (I.cne x c e) hc t E (I.freeC x c e),hd}
 show{I.ok,I.os,hg,{λb o e n D a=>?_,λb o e n D a=>?_,λb o e n a=>?_,λb o e a=>?_,λb C e=>tups b C (I.base.tups b C e),λb o C e=>frzs b o C (I.base.frzs b o C e),λb L e=>?_},?_,λx c e=>?_,?_,λx c e=>?_,λp N=>?_,hok,I.len}
 ·show keep b o (J b o e) D (y b o e a) (I.base.keep b o e n D a) (I.base.free b o e n a)
 ·obtain⟨sl,A⟩:=I.base.slot b o e n D a;obtain⟨M,K⟩:=slot b _ (J b o e) D (y b o e a) A (I.base.free b o e n a);show(M,K,)
 ·obtain⟨F,A⟩:=I.base.there b o e a;show free b F (y b o e a) A (I.base.free b o e n a)
 ·obtain⟨F,A⟩:=I.base.there b o e a;show there b F (y b o e a) A
 ·obtain⟨O,A⟩:=I.base.tbls b L e;obtain⟨Q,K⟩:=tbls b _ A;show{O++Q,by rw[K,Array.append_assoc]}
 ·obtain⟨m,hn,R⟩:=I.loc;show{m,ns m hn,λi x v A K S=>?_};obtain⟨u,r,l⟩:=R i x v A K S;show{u,r,?_};rcases l with l|⟨k,c,e,z⟩
  ·show .inl l
  ·show .inr {k,c,e,j x c e _ z}
 ·obtain⟨v,z⟩:=I.cell x c e;show{v,j x c e v z}
 ·obtain⟨m,⟨o,_,_,E,_⟩,_⟩:=I.loc;show free _ o (λz=>(h _ z).2.1 ()) E I.free
 ·obtain⟨v,o,E,hd⟩:=I.cell x c e;show free c o (λz=>(h c z).2.2.1 x c e ()) E (I.freeC x c e)
 ·obtain⟨e,n,ne,nf,d⟩:=I.pin p N;have t:p.1∉ch:=λz=>(h p.1 z).2.2.2 p N ();show{keep p.1 p.2 ne nf t e n,free p.1 p.2 t e n,ne,nf,d}
def aO.un{t':Nat}(I:aO X f g H s)(u:Un X.fs [] H B s.heap h')(hok:lG X.prog X.w B h'):aO X f g B {s with heap:=h',toks:=t'}:=by obtain⟨m,⟨o,es,ep,i,r⟩,_⟩:=id I.loc;obtain⟨sl,j⟩:=u.any i I.free (by simp);show I.step (g':=s.gens) (d':=s.drawn) (ch:=[]) (λ_ z=>nomatch z) (λb o _ c _ e n=>u.keep b o e n c (by simp)) (λb o _ c _ e n=>u.slot b o e n c (by simp)) (λb o _ e n=>u.free b o e n (by simp)) (λb o _ e=>u.there b o e (by simp)) u.tups u.frzs u.tbls (λt hm=>by obtain⟨v,d,h,a,k⟩:=hm;rw[i]at a;cases a;show{_,d,h,j,k}) hok I.bare
def aO.call{g':Array GenState}{t':Nat}{d':Drawn}{ch:Pf}(I:aO X f g H s)(u:Un (jR X.stack) ch H B s.heap h')(hok:lG X.prog X.w B h')(hg:AllBare g')(a:∀b∈ch,(b∈X.ex\/X.s₀.heap.objs.size<=b)/\b≠X.env.locals/\(∀x c,X.env.cells.lookup x=some c->c≠b)/\∀p∈X.pn++f,p.1≠b):aO X f g B {s with heap:=h',gens:=g',drawn:=d',toks:=t'}:=by obtain⟨m,⟨o,es,ep,k,r⟩,_⟩:=id I.loc;obtain⟨sl,h⟩:=u.any k I.free λz=>(a _ z).2.1 ();show I.step (ch:=ch) a (λb o h l hc e n=>u.keep b o e n (λz=>(vu.mp (I.stkSub b z)).elim h l) hc) (λb o _ _ hc e n=>u.any e n hc) (λb o hc e n=>u.free b o e n hc) (λb o hc e=>u.there b o e hc) u.tups u.frzs u.tbls (λt hm=>by obtain⟨v,i,j,d,q⟩:=hm;rw[k]at d;cases d;show{_,i,j,h,q}) hok hg
def aO.turned{t':Nat}{it:Addr}(I:aO X f g H s)(k:∀b o,b≠it->s.heap.get? b=some o->h'.get? b=some o)(hn:H it=none)(d:it≠X.env.locals)(h1:it∈X.ex\/X.s₀.heap.objs.size<=it)(h2:∀x c,X.env.cells.lookup x=some c->c≠it)(h3:∀p∈X.pn++f,p.1≠it):aO X f g H {s with heap:=h',toks:=t'}:=by
 have a:∀b u,H b=some u->b≠it:=λb u e z=>by rw[z,hn]at e;cases e
 show I.step (g':=s.gens) (d':=s.drawn) (ch:=[it]) (λb h=>?_) (λb o _ _ hc e _=>k b o (λz=>hc (by simp[z])) e) (λb o _ _ hc e _=>{o.slots,k b o (λz=>hc (by simp[z])) e}) (λ_ _ _ _ n=>n) (λb o hc e=>{o,k b o (λz=>hc (by simp[z])) e}) (λ_ _ e=>e) (λ_ _ _ e=>e) (λb w e=>{#[],by rw[e];simp}) (λm hm=>?_) (λb u e=>?_) I.bare
 ·have e:b=it:=by simpa using h
  subst e;show(h1,d,h2,h3,)
 ·obtain⟨o,es,ep,i,r⟩:=hm;show{o,es,ep,k _ o (p_ d) i,r}
 ·show(I.hok b u e).stay (λc v hc q=>k c v ?_ q) (λ_ q=>q) λ_ _ q=>q;rcases hc with z|z
  ·rw[z];show a b u e
  ·show a c _ z
def aO.tok(I:aO X f g H s)(t:Nat):aO X f g H {s with toks:=t}:=I.un (h':=s.heap) (t':=t) Un.refl I.hok
theorem aO.kept(I:aO X f g H s)(k:∀b u,s.heap.get? b=some u->h'.get? b=some u):aO X f g H {s with heap:=h',toks:=t'}:=I.un (Un.kept k) (I.hok.kept k)
theorem aO.laid(I:aO X f g H s)(k:∀b u,s.heap.get? b=some u->h'.get? b=some u)(c:s.heap.objs.size<=a)(new:dw X.prog X.w (aH H a o) h' a o):aO X f g (aH H a o) {s with heap:=h',toks:=t'}:=I.un (Un.laid k c (I.hok.fresh c)) (I.hok.laid k c new)
theorem aO.write(I:aO X f g H s)(c:Mh (H x))(d:e=x\/H e=some (.own x))(k:∀b u,b≠e->s.heap.get? b=some u->h'.get? b=some u)(a:∃u,h'.get? e=some u)(new:dw X.prog X.w (aH H x o) h' x o):aO X f g (aH H x o) {s with heap:=h',toks:=t'}:=I.un (Un.write c d k a) (I.hok.write c d k a new)
def aO.weak(I:aO X f g H s)(c:a.length=g.length)(w:∀(i:Nat)v,a[i]?=some (some v)->g[i]?=some (some v)):aO X f a H s:={I.ok,I.os,I.bare,I.base,let⟨m,hn,b⟩:=I.loc;{m,hn,λi x v d e h=>b i x v d (w i v e) h},I.cell,I.free,I.freeC,I.pin,I.hok,c.trans I.len}
def aO.pins_of(I:aO X f g H s)(h:∀p∈a,s.heap.get? p.1=some p.2/\H p.1=none/\p.1≠X.env.locals/\p.1∉X.fs/\∀v,p.2.data≠.cell v):aO X a g H s:={I.ok,I.os,I.bare,I.base,I.loc,I.cell,I.free,I.freeC,λp b=>(List.mem_append.mp b).elim (λz=>I.pin p (qx _ z)) (h p),I.hok,I.len}
def y8{N:Pb}(c:N.Nodup){i j:Nat}{x:Str}(a:N[i]?=some x)(b:N[j]?=some x):i=j:=by obtain⟨h1,d⟩:=c_.mp a;obtain⟨h2,e⟩:=c_.mp b;show(List.getElem_inj c).mp (d.trans e.symm)
def wj{M:Model}{A:Around}{E:O7}{i:Nat}{x:Str}{v:V}{u:Value}{Q:Unit->Shared->Prop}(I:aO X f g H s)(hN:X.N.Nodup)(hi:X.N[i]?=some x)(D:Kw X.env.scope x)(r:aV v u)(h:∀s',aO X f (g.set i (some v)) H s'->(∃a,Heap.SameBut a s.heap s'.heap/\(a=X.env.locals\/X.env.cells.lookup x=some a))->Q Unit.unit s')(hf:X.fn x=true\/X.env.scope.names.lookup x=some .local:=by first|show .inl ()|show .inr ()|assumption):wpAny M A (storeName X.env x u) Q E s:=by
 obtain⟨m,hn,hl⟩:=id I.loc;have R:(X.env.scope.kind==.class||(X.env.scope.kind==.module&&X.env.locals !=X.env.globals))=false:=by rw[I.ok.kind];rfl
 have J:i<g.length:=by rw[I.len];show(c_.mp hi).1
 have cne:=I.cne;have t:∀{a:Addr}{h':Heap},(∃o,s.heap.get? a=some o/\H a=none)->Heap.SameBut a s.heap h'->lG X.prog X.w H h':=λ{a h'}ha l b ob e=>by
  obtain⟨_,_,F⟩:=ha;show(I.hok b ob e).stay (λc Y hc q=>(l.2 c ?_).trans q) (λ_ q=>q) λ_ _ q=>q;rintro rfl;rcases hc with rfl|hc
  ·rw[F]at e;cases e
  ·rw[F]at hc;cases hc
 rcases D with K|K
 ·show wpAny_storeName_local K hn (λh' aa l=>?_) R;obtain⟨oL,_,_,ad,_⟩:=id hn;show h _ {I.ok,I.os,I.bare,{λb o e n L D=>?_,λb o e n L D=>?_,I.base.free,λb o e D=>?_,I.base.tups,I.base.frzs,I.base.tbls},{_,aa,λj y v' C G e3=>?_},λy c e=>?_,I.free,I.freeC,λp hp=>?_,t (oL,ad,I.free,) l,by simpa using I.len} {_,l,.inl ()}
  ·show(l.2 b (nB (pu (m3 e) I.ok.above))).trans (I.base.keep b o e n L D)
  ·obtain⟨sl,C⟩:=I.base.slot b o e n L D;show{sl,(l.2 b (nB (pu (m3 e) I.ok.above))).trans C}
  ·obtain⟨o',C⟩:=I.base.there b o e D;show{o',(l.2 b (nB (pu (m3 e) I.ok.above))).trans C}
  ·by_cases O:j=i
   ·subst O;rw[hi]at C;cases C;rw[C_ J]at G;cases G;show{u,r,.inl {K,by simp}}
   ·rw[so (p_ O)]at G;obtain⟨u',r',q⟩:=hl j y v' C G e3;show{u',r',?_};rcases q with⟨k,e⟩|⟨k,c,e,z⟩
    ·show .inl {k,?_};have:y≠x:=λe=>O (y8 hN C (e▸hi));simp[this,e]
    ·show .inr {k,c,e,z.sameBut l (cne y c e)}
  ·obtain⟨Y,z⟩:=I.cell y c e;show{Y,z.sameBut l (cne y c e)}
  ·obtain⟨e,n,ne,nf,d⟩:=I.pin p hp;show{(l.2 p.1 ne).trans e,n,ne,nf,d}
 ·have P:X.fn x=true:=by
   rcases hf with z|z
   ·show z
   ·rw[z]at K;cases K
  obtain⟨c,hc⟩:=I.ok.has x (.inl K);obtain⟨Y,z⟩:=I.cell x c hc;show wpAny_storeName_cell I.ok.kind K hc z (λh' S l=>?_);obtain⟨oc,T,U⟩:=id z;show h {s with heap:=h'} {I.ok,I.os,I.bare,{λb o e n L D=>?_,λb o e n L D=>?_,I.base.free,λb o e D=>?_,I.base.tups,I.base.frzs,I.base.tbls},{m,hn.sameBut l (p_ (cne x c hc)),λj y v' C G e3=>?_},λy Z e=>?_,I.free,I.freeC,λp hp=>?_,t {oc,T,I.freeC x c hc} l,by simpa using I.len} {c,l,.inr hc}
  ·show(l.2 b (nB (pu (m3 e) (I.ok.cab x c P hc)))).trans (I.base.keep b o e n L D)
  ·obtain⟨sl,C⟩:=I.base.slot b o e n L D;show{sl,(l.2 b (nB (pu (m3 e) (I.ok.cab x c P hc)))).trans C}
  ·obtain⟨o',C⟩:=I.base.there b o e D;show{o',(l.2 b (nB (pu (m3 e) (I.ok.cab x c P hc)))).trans C}
  ·by_cases O:j=i
   ·subst O;rw[hi]at C;cases C;rw[C_ J]at G;cases G;show{u,r,.inr {.inl K,c,hc,S}}
   ·rw[so (p_ O)]at G;obtain⟨u',r',q⟩:=hl j y v' C G e3;show{u',r',?_};rcases q with q|⟨k,Z,e,z'⟩
    ·show .inl q
    ·show .inr {k,Z,e,z'.sameBut l ?_};rintro rfl;show O (y8 hN C (I.ok.inj _ _ _ e hc▸hi))
  ·by_cases W:Z=c
   ·subst W;show{_,S}
   ·obtain⟨w2,z2⟩:=I.cell y Z e;show{w2,z2.sameBut l W}
  ·obtain⟨e,n,ne,nf,d⟩:=I.pin p hp;show{(l.2 p.1 ?_).trans e,n,ne,nf,d};intro q;rw[q,T]at e;have q':oc=p.2:=n_ e;show d Y (by rw[<-q'];show U)
def sX(I:aO X f g H s)(c:X.N.Nodup)(hi:X.N[i]?=some x)(d:Kw X.env.scope x)(r:aV v u)(h:∀a,aO X f (g.set i (some v)) H a->Q Unit.unit a)(e:X.fn x=true\/X.env.scope.names.lookup x=some .local:=by first|show .inl ()|show .inr ()|assumption):wpAny M A (storeName X.env x u) Q E s:=wj I c hi d r (λa b _=>h a b) e
def aO.call'(I:aO X f g H s)(j:s'.os=s.os)(u:Un (jR X.stack) ch H B s.heap s'.heap)(hok:lG X.prog X.w B s'.heap)(hg:AllBare s'.gens)(a:∀b∈ch,(b∈X.ex\/X.s₀.heap.objs.size<=b)/\b≠X.env.locals/\(∀x c,X.env.cells.lookup x=some c->c≠b)/\∀p∈X.pn++f,p.1≠b):aO X f g B s':=by obtain⟨h',d,h,i,k⟩:=s';have e:k=s.os:=j;subst e;show I.call (g':=d) (t':=i) (d':=h) u hok hg a
end
abbrev XK:=Value->Option Addr->Hp->Prop
abbrev St:=List (Option V)
abbrev VK:=V->Hp->Prop
abbrev TE:=St->Hp->VK->Prop
abbrev TT:=St->Hp->(Bool->Hp->Prop)->Prop
abbrev TA:=St->Hp->(List V->Hp->Prop)->Prop
structure jV where
 nx:St->Hp->Prop
 rt:VK
 bk:St->Hp->Prop:=λ_ _=>False
 ct:St->Hp->Prop:=λ_ _=>False
abbrev TS:=jV->St->Hp->Prop
def EP(X:Cx)(a:O8)(c:St)(Q:VK)(u:Value)(d:Shared):Prop:=∃v b,aO X a c b d/\aV v u/\Q v b
def TP(X:Cx)(a:O8)(d:St)(Q:Bool->Hp->Prop)(b:Bool)(e:Shared):Prop:=∃c,aO X a d c e/\Q b c
def AP(X:Cx)(a:O8)(d:St)(Q:List V->Hp->Prop)(e:O_)(f:Shared):Prop:=∃b c,aO X a d c f/\aZ b e/\Q b c
def SP(X:Cx)(c:O8)(D:jV)(f:Flow)(d:Shared):Prop:=match f with|.next=>∃a b,aO X c a b d/\D.nx a b|.brk=>∃a b,aO X c a b d/\D.bk a b|.cont=>∃a b,aO X c a b d/\D.ct a b|.ret u=>∃v a b,aO X c a b d/\aV v u/\D.rt v b
def PE(X:Cx)(e:Expr)(t:TE):Prop:=∀(a:O8)(s:Shared)(b:St)(H:Hp)(Q:VK),aO X a b H s->t b H Q->wpAny (model X.prog X.w) X.A (eval e X.env) (EP X a b Q) X.xe s
def PT(X:Cx)(e:Expr)(t:TT):Prop:=∀(a:O8)(s:Shared)(b:St)(H:Hp)(Q:Bool->Hp->Prop),aO X a b H s->t b H Q->wpAny (model X.prog X.w) X.A (isTrue e X.env (eval e X.env)) (TP X a b Q) X.xe s
def PW(X:Cx)(e:Expr)(t:TT):Prop:=∀(b:Sem Value)(a:O8)(s:Shared)(c:St)(H:Hp)(Q:Bool->Hp->Prop),aO X a c H s->t c H Q->wpAny (model X.prog X.w) X.A (isTrue e X.env b) (TP X a c Q) X.xe s
def PW.pt(h:PW X e t):PT X e t:=h _
def PA(X:Cx)(es:Pc)(t:TA):Prop:=∀(b:Pos)(a:O8)(s:Shared)(c:St)(H:Hp)(Q:List V->Hp->Prop),aO X a c H s->t c H Q->wpAny (model X.prog X.w) X.A (spliced (backTo b (starEach es X.env))) (AP X a c Q) X.xe s
def PS(X:Cx)(st:Stmt)(t:TS):Prop:=∀(a:O8)(s:Shared)(b:St)(H:Hp)(D:jV),aO X a b H s->t D b H->wpAny (model X.prog X.w) X.A (exec st X.env) (SP X a D) X.xe s
def ve(X:Cx)(st:List Stmt)(t:TS):Prop:=∀(a:O8)(s:Shared)(b:St)(H:Hp)(D:jV),aO X a b H s->t D b H->wpAny (model X.prog X.w) X.A (execs st X.env) (SP X a D) X.xe s
def cy(h:wpAny M A t Q E s)(c:∀a s,Q a s->d a s):wpAny M A t d E s:=wpAny_mono h c λ_ _ x=>x
section
variable{X:Cx}
def IB(i:Nat):TE:=λa H Q=>∃v,a[i]?=some (some v)/\Q v H
def tC(v:V):TE:=λ_ H Q=>Q v H
def Jw(j:X.N[i]?=some x)(n:MA X.env.scope x)(hd:(x==("__debug__":Str))=false:=by decide)(g:(x==("__classdict__":Str))=false:=by decide):PE X (.Name x f) (IB i):=by
 intro d s k H Q I h;obtain⟨v,e,h⟩:=h;obtain⟨m,hn,o⟩:=I.loc;obtain⟨u,r,l⟩:=o i x v j e n;have fin:EP X d k Q u s:=(v,H,I,r,h,);rcases l with⟨b,hm⟩|⟨b,c,hc,a⟩
 ·show wpAny_Name (wpAny_loadName_local I.ok.kind b hn hm fin) hd
 ·rcases b with b|b
  ·show wpAny_Name (wpAny_loadName_cell I.ok.kind b hc a fin) hd
  ·show wpAny_Name (wpAny_loadName_free I.ok.kind b hc a fin g) hd
def ag{i j f}:PE X (.Constant (.int i) j f) (tC (.int i)):=λ_ _ _ H _ I h=>wpAny_Constant_int {.int i,H,I.tok _,{_,()},h}
def gT{b j f}:PE X (.Constant (.bool b) j f) (tC (.bl b)):=λ_ _ _ H _ I h=>Constant_bool {.bl b,H,I,(),h}
def oj{j f}:PE X (.Constant .none j f) (tC .non):=λ_ _ _ H _ I h=>Constant_none {.non,H,I,(),h}
def aE{x j f}:PE X (.Constant (.str x) j f) (tC (.str x)):=λ_ _ _ H _ I h=>Calls.Constant_str {.str x,H,I.tok _,{_,()},h}
def Gl(X:Cx)(x:Str):Prop:=X.env.kindOf x=some .globalImplicit
def mL(I:aO X a c H s)(hg:Gl X x)(hm:X.mg x=some u)(h:Q u s)(hd:(x==("__debug__":Str))=false:=by decide):wpAny (model X.prog X.w) X.A (eval (.Name x f) X.env) Q E s:=Calls.Name_function_global I.ok.kind hg (Calls.loadGlobal_global (by rw[I.ok.glob];show I.mod.glob.keeps I.bk) hm h) hd
def k7(I:aO X a d H s)(hg:Gl X x)(hm:X.mg x=none)(c:bootBuiltins x=some u)(h:Q u s)(hn:x≠"__name__":=by decide)(hd:(x==("__debug__":Str))=false:=by decide):wpAny (model X.prog X.w) X.A (eval (.Name x f) X.env) Q E s:=by obtain⟨b,h1,h2⟩:=I.mod.blt;show Calls.Name_function_global I.ok.kind hg (Calls.loadGlobal_builtin (by rw[I.ok.glob];show I.mod.glob.keeps I.bk) hm (by rw[I.ok.blt];show h1.keeps I.bk) ((h2 x hn).trans c) h) hd
def Bj(hg:Gl X x)(hm:X.mg x=some u)(r:aV v u)(hd:(x==("__debug__":Str))=false:=by decide):PE X (.Name x f) (tC v):=λ_ _ _ H _ I h=>mL I hg hm (v,H,I,r,h,) hd
def GN{x:Str}{v:V}{u:Value}{f:Pos}(hg:Gl X x)(hm:X.mg x=none)(a:bootBuiltins x=some u)(r:aV v u)(hn:x≠"__name__":=by decide)(hd:(x==("__debug__":Str))=false:=by decide):PE X (.Name x f) (tC v):=λ_ _ _ H _ I h=>k7 I hg hm a (v,H,I,r,h,) hn hd
variable{a b:Expr}{g p:TE}{f:Pos}
def PC(X:Cx)(h:CmpOp)(a b:Expr)(t:TE):Prop:=∀(c:O8)(s:Shared)(e:St)(H:Hp)(Q:VK),aO X c e H s->t e H Q->wpAny (model X.prog X.w) X.A (eval a X.env) (λv s₁=>wpAny (model X.prog X.w) X.A (eval b X.env) (λu d=>wpAny (model X.prog X.w) X.A (compareOp h v u) (EP X c e Q) X.xe d) X.xe s₁) X.xe s
def tB(t:TE):TT:=λd H Q=>t d H λx e=>∃c,x=.bl c/\Q c e
def og(h:PC X i a b t)(h1:behindInMarks i b=false:=by first|show nobehind _ (by decide) (by decide)|rfl):PT X (.Compare a [i] [b] f) (tB t):=by intro e s j H Q I k;show wpAny_isTrue_Compare1 (cy (h e s j H _ I k) λv o h1=>cy h1 λu r h2=>cy h2 λc w⟨x,l,I1,m,n⟩=>?_) h1;obtain⟨d,rfl,q⟩:=n;cases m;show th (l,I1,q,)
variable{n o:TT}{qp:Pc}
def ML(t u:TT):TT:=λd H Q=>t d H λc e=>if c=true then u d e Q else Q false e
def tOr(t u:TT):TT:=λd H Q=>t d H λc e=>if c=true then Q true e else u d e Q
def MH(t:TT):TT:=λd H Q=>t d H λc e=>Q (!c) e
def mH(i:PT X a n):PW X (.BoolOp .And [a] f) n:=by intro k d s j H Q I h;show isTrue_and (cy (i d s j H Q I h) λc l e=>?_);cases c with|true=>show isTrue_and_nil e|false=>show e
def dJ(i:PT X a n):PW X (.BoolOp .Or [a] f) n:=by intro k d s j H Q I h;show isTrue_or (cy (i d s j H Q I h) λc l e=>?_);cases c with|false=>show isTrue_or_nil e|true=>show e
def qt(l:PT X a n)(m:PW X (.BoolOp .And (b::qp) f) o):PW X (.BoolOp .And (a::b::qp) f) (ML n o):=by intro k d s e H Q I h;show isTrue_and (cy (l d s e H _ I h) λc q r=>?_);obtain⟨i,I1,j⟩:=r;cases c with|true=>show m k d q e i Q I1 j|false=>show(i,I1,j,)
def eW(l:PT X a n)(m:PW X (.BoolOp .Or (b::qp) f) o):PW X (.BoolOp .Or (a::b::qp) f) (tOr n o):=by intro k d s e H Q I h;show isTrue_or (cy (l d s e H _ I h) λc q r=>?_);obtain⟨i,I1,j⟩:=r;cases c with|true=>show(i,I1,j,)|false=>show m k d q e i Q I1 j
def cu(e:PT X a n):PT X (.UnaryOp .Not a f) (MH n):=by intro d s i H Q I h;show isTrue_not (e d s i H (λc j=>Q (!c) j) I h)
def La(g p:TE):TE:=λd H Q=>g d H λx e=>∃c,x=.bl c/\if c=true then p d e Q else Q (.bl false) e
def MG(g p:TE):TE:=λd H Q=>g d H λx e=>∃c,x=.bl c/\if c=true then Q (.bl true) e else p d e Q
def K2(g:TE):TE:=λd H Q=>g d H λx e=>∃c,x=.bl c/\Q (.bl (!c)) e
def dL{d}(h:PE X a t):PE X (.BoolOp d [a] f) t:=λc s e H Q I i=>BoolOp_one (h c s e H Q I i)
def cD(l:PE X a g)(m:PE X (.BoolOp .And (b::qp) f) p):PE X (.BoolOp .And (a::b::qp) f) (La g p):=by intro d s i H Q I h;show BoolOp_and (cy (l d s i H _ I h) λv k q=>?_);obtain⟨x,j,I1,r,e⟩:=q;obtain⟨c,rfl,e⟩:=e;cases r;show th ?_;cases c with|true=>show m d k i j Q I1 e|false=>show{.bl false,j,I1,(),e}
def Lw(l:PE X a g)(m:PE X (.BoolOp .Or (b::qp) f) p):PE X (.BoolOp .Or (a::b::qp) f) (MG g p):=by intro d s i H Q I h;show BoolOp_or (cy (l d s i H _ I h) λv k q=>?_);obtain⟨x,j,I1,r,e⟩:=q;obtain⟨c,rfl,e⟩:=e;cases r;show th ?_;cases c with|false=>show m d k i j Q I1 e|true=>show{.bl true,j,I1,(),e}
def DX(i:PE X a g):PE X (.UnaryOp .Not a f) (K2 g):=by intro d s j H Q I h;show UnaryOp_ (cy (i d s j H _ I h) λv q k=>?_);obtain⟨x,l,I1,m,e⟩:=k;obtain⟨c,rfl,e⟩:=e;cases m;show not_of (th {.bl (!c),l,I1,(),e})
end
def aR(K:O6)(H:Hp)(a:Addr)(c:List V):Prop:=Rd H a (.lst c)\/∃(o:Obj)(b:Pd)(n:Nat),K.lookup a=some o/\o.cls=.type "list"/\o.dict=none/\o.data=.seq b n/\b.size<=sizeLine/\aZ c b.toList
def aY(K:O6)(H:Hp)(a:Addr)(c:List V):Prop:=Rd H a (.tup c)\/∃(o:Obj)(b:Pd)(n:Nat),K.lookup a=some o/\o.cls=.type "tuple"/\o.data=.seq b n/\b.size<=sizeLine/\aZ c b.toList
def M6:Value->Option V|.none=>some .non|.bool b=>some (.bl b)|.int i _=>some (.int i)|.str x _=>some (.str x)|.bytes b _=>some (.byt b)|.float b _=>some (.flt b)|.ref a=>some (.ref a)|.type n=>some (.ty n)|_=>none
def aV.abs(r:aV x u):M6 u=some x:=by cases x with|non=>cases r;rfl|bl _=>cases r;rfl|int _=>obtain⟨t,rfl⟩:=r;rfl|str _=>obtain⟨t,rfl⟩:=r;rfl|byt _=>obtain⟨t,rfl⟩:=r;rfl|flt _=>obtain⟨t,rfl⟩:=r;rfl|ref _=>cases r;rfl|ty _=>cases r;rfl
def aV.inj(r:aV x u)(q:aV y u):x=y:=n_ (r.abs.symm.trans q.abs)
theorem aZ.inj:∀{a c:List V}{d:O_},aZ a d->aZ c d->a=c|_,_,_,.nil,.nil=>()|_,_,_,.cons r t,.cons b e=>by rw[r.inj b,aZ.inj t e]
section
variable{X:Cx}{c:O8}{g:St}{H:Hp}{s:Shared}{a:Addr}{xs f:List V}
def aR.of{K:O6}(h:H a=some (.lst xs)):aR K H a xs:=.inl (.inl h)
def aY.of{K:O6}(h:H a=some (.tup xs)):aY K H a xs:=.inl (.inl h)
def aO.list(I:aO X c g H s)(h:aR X.K H a xs):∃d:List Value,aZ xs d/\PlainL s.heap a d.toArray/\xs.length<=sizeLine:=by
 rcases h with h|⟨o,d,n,b,hc,hd,i,j,r⟩
 ·obtain⟨z,d,n,r,e⟩:=h.ok I.hok;show{d,r,{_,n,e,(),(),()},z}
 ·show{d.toList,r,{o,n,I.kIn a o b,hc,hd,by simpa using i},?_};have e:=r.length;simp only[ot]at e;lia
def aO.tuple(I:aO X c g H s)(h:aY X.K H a xs):∃d:List Value,aZ xs d/\IsTup s.heap a d.toArray/\xs.length<=sizeLine:=by
 rcases h with h|⟨o,d,n,b,hc,i,j,r⟩
 ·obtain⟨z,d,r,p⟩:=h.ok I.hok;show(d,r,p,z,)
 ·show{d.toList,r,{o,I.kIn a o b,hc,n,by simpa using i},?_};have e:=r.length;simp only[ot]at e;lia
def aO.list_inj(I:aO X c g H s)(h:aR X.K H a xs)(h':aR X.K H a f):xs=f:=by
 obtain⟨i,r,⟨o,n,e,_,_,d⟩,_⟩:=I.list h;obtain⟨b,l,⟨m,p,j,_,_,k⟩,_⟩:=I.list h';rw[e]at j;cases j;rw[d]at k;injection k with d1 _;have:i=b:=by simpa using r_ Array.toList d1
 subst this;show r.inj l
def aO.tuple_inj(I:aO X c g H s)(h:aY X.K H a xs)(h':aY X.K H a f):xs=f:=by
 obtain⟨i,r,⟨o,e,_,n,d⟩,_⟩:=I.tuple h;obtain⟨b,l,⟨m,j,_,p,k⟩,_⟩:=I.tuple h';rw[e]at j;cases j;rw[d]at k;injection k with d1 _;have:i=b:=by simpa using r_ Array.toList d1
 subst this;show r.inj l
end
abbrev Cx.wish(X:Cx)(E:O7):Cx:={X with xe:=E}
abbrev Cx.nox(X:Cx):Cx:=X.wish λ_ _=>False
theorem Cx.Ok.wish{X:Cx}(ok:X.Ok)(E:O7):(X.wish E).Ok:=(ok.mod,ok.kind,ok.glob,ok.blt,ok.above,ok.inj,ok.has,ok.cab,ok.hd,ok.frames,ok.stk,ok.exf,ok.bs,ok.bsz,ok.noex,ok.exfs,ok.funs,ok.frf,)
def Cx.Ok.unwish{X:Cx}{E:O7}(ok:(X.wish E).Ok):X.Ok:=(ok.mod,ok.kind,ok.glob,ok.blt,ok.above,ok.inj,ok.has,ok.cab,ok.hd,ok.frames,ok.stk,ok.exf,ok.bs,ok.bsz,ok.noex,ok.exfs,ok.funs,ok.frf,)
section
variable{X:Cx}{a:O8}{c:St}{H:Hp}{s:Shared}{E:O7}
theorem aO.wish(I:aO X a c H s)(E:O7):aO (X.wish E) a c H s:={I.ok.wish E,I.os,I.bare,I.base,I.loc,I.cell,I.free,I.freeC,I.pin,I.hok,I.len}
theorem aO.unwish(I:aO (X.wish E) a c H s):aO X a c H s:=(I.ok.unwish,I.os,I.bare,I.base,I.loc,I.cell,I.free,I.freeC,I.pin,I.hok,I.len,)
theorem SP.unwish(h:SP (X.wish E) a D f e):SP X a D f e:=by cases f with|next=>obtain⟨b,d,I,q⟩:=h;show(b,d,I.unwish,q,)|brk=>obtain⟨b,d,I,q⟩:=h;show(b,d,I.unwish,q,)|cont=>obtain⟨b,d,I,q⟩:=h;show(b,d,I.unwish,q,)|ret u=>obtain⟨v,b,d,I,r,q⟩:=h;show(v,b,d,I.unwish,r,q,)
theorem ve.nox{st:List Stmt}{t:TS}(h:ve X.nox st t):ve X st t:=λa s c H D I b=>wpAny_mono (h a s c H D (I.wish _) b) (λ_ _ q=>q.unwish) λ_ _ z=>False.elim z
end
section
variable{X:Cx}{st:Stmt}{qp:List Stmt}{t u:TS}{e:Expr}{te:TE}{g:Pos}
def ym:TS:=λD a H=>D.nx a H
def zV(t u:TS):TS:=λD a H=>t {D with nx:=u D} a H
def aF:ve X [] ym:=λ_ _ a H _ I h=>NP (a,H,I,h,)
def af(h1:PS X st t)(h2:ve X qp u):ve X (st::qp) (zV t u):=by intro a s c H D I h;show OW (cy (h1 a s c H {D with nx:=u D} I h) λf d q=>?_);cases f with|next=>obtain⟨b,i,j,q⟩:=q;show h2 a d b i D j q|ret v=>show q|brk=>show q|cont=>show q
def ah(h1:PS X st t):ve X [st] t:=by intro a s b H D I h;show OW (cy (h1 a s b H D I h) λf c q=>?_);cases f with|next=>show NP q|ret v=>show q|brk=>show q|cont=>show q
def aO.quiet(I:aO X a c H s):interactive X.env=false:=by simp[interactive,I.ok.kind]
def K7(te:TE):TS:=λD a H=>te a H λ_ b=>D.nx a b
def aM(c:PE X e te)(d:swapsWith e none g.line X.env=pure false:=by rfl):PS X (.Expr e g) (K7 te):=by intro a s b H D I h;show wpAny_Expr_any (cy (c a s b H _ I h) λv j⟨x,f,I1,k,i⟩=>(b,f,I1,i,)) I.quiet d
def K0(te:TE):TS:=λD a H=>te a H D.rt
def az(c:PE X e te):PS X (.Return (some e) g) (K0 te):=by intro a s b H D I h;show wpAny_Return_some (cy (c a s b H _ I h) λv k d=>?_);obtain⟨x,f,I1,i,j⟩:=d;show(x,b,f,I1,i,j,)
def FX(c:TT)(t u:TS):TS:=λD a H=>c a H λb d=>if b=true then t D a d else u D a d
def aN(hc:PT X c tc)(m:ve X a t)(n:ve X b u):PS X (.If c a b g) (FX tc t u):=by intro f s i H D I h;show wpAny_If (cy (hc f s i H _ I h) λd j o=>?_);obtain⟨k,I1,l⟩:=o;cases d with|true=>show m f j i k D I1 l|false=>show n f j i k D I1 l
def ID:TS:=λ_ _ _=>False
def cg:PS X st ID:=λ_ _ _ _ _ _ h=>h.elim
end
abbrev TG:=V->St->Hp->(St->Hp->Prop)->Prop
abbrev KN:=List V->St->Hp->(St->Hp->Prop)->Prop
def PG(X:Cx)(a:Expr)(t:TG):Prop:=∀(b:O8)(s:Shared)(d:St)(H:Hp)(v:V)(u:Value)(Q:St->Hp->Prop),aO X b d H s->aV v u->t v d H Q->wpAny (model X.prog X.w) X.A (assign a X.env u) (λ_ f=>∃c e,aO X b c e f/\Q c e) X.xe s
def Kt(X:Cx)(g:Pc)(t:KN):Prop:=∀(a:O8)(s:Shared)(c:St)(H:Hp)(d:List V)(e:O_)(Q:St->Hp->Prop),aO X a c H s->aZ d e->t d c H Q->wpAny (model X.prog X.w) X.A (assignInOrder ((assignEach g X.env).map (·.2)) e) (λ_ h=>∃b f,aO X a b f h/\Q b f) X.xe s
abbrev HI:=V->V->V->Hp->(Hp->Prop)->Prop
def HM(X:Cx)(t:HI):Prop:=∀(a:O8)(s:Shared)(b:St)(H:Hp)(o i v:V)(c iv u:Value)(Q:Hp->Prop),aO X a b H s->aV o c->aV i iv->aV v u->t o i v H Q->wpAny (model X.prog X.w) X.A (setItem c iv u) (λ_ e=>∃d,aO X a b d e/\Q d) X.xe s
section
variable{X:Cx}{c:Pos}
def kI(i:Nat):TG:=λv a H Q=>Q (a.set i (some v)) H
def xx(d:X.N.Nodup)(hi:X.N[i]?=some x)(e:Kw X.env.scope x)(f:X.fn x=true\/X.env.scope.names.lookup x=some .local:=by first|show .inl ()|show .inr ()|assumption):PG X (.Name x c) (kI i):=by intro a s g H v u Q I r h;show wpAny_assign_Name (sX I d hi e r (λj b=>{_,H,b,h}) f)
def L4:KN:=λa b H Q=>a=[]/\Q b H
def E4(t:TG)(u:KN):KN:=λb d H Q=>∃v r,b=v::r/\t v d H λa e=>u r a e Q
def fY:Kt X [] L4:=by intro a s b H d f Q I r h;obtain⟨e,h⟩:=h;subst e;cases r;show assignInOrder_nil (b,H,I,h,)
def bu(h1:PG X e t)(h2:Kt X es u)(d:(assignEach (e::es) X.env).map (·.2)=assign e X.env::(assignEach es X.env).map (·.2):=by rfl):Kt X (e::es) (E4 t u):=by intro a s f H n o Q I r h;obtain⟨v,p,g,h⟩:=h;subst g;cases r with|cons r i=>rw[d];show assignInOrder_cons (cy (h1 a s f H _ _ _ I r h) λ_ j k=>?_);obtain⟨b,l,I1,m⟩:=k;show h2 a j b l _ _ Q I1 i m
def J6(K:O6)(n:Nat)(t:KN):TG:=λv d H Q=>∃a b,v=.ref a/\aY K H a b/\b.length=n/\t b d H Q
def Jv(hc:X.calm=true)(h:Kt X es t)(hn:(assignEach es X.env).length=n:=by rfl)(f:(assignEach es X.env).findIdx? (·.1)=none:=by rfl):PG X (.Tuple es k c) (J6 X.K n t):=by intro d s i H v u Q I r g;obtain⟨a,l,m,p,q,g⟩:=g;subst m;cases r;obtain⟨w,j,x,z⟩:=I.tuple p;show assign_Tuple_tuple (I.ok.hd hc) x (by simp[hn,<-q,j.length]) f λh' y=>?_;have I1:aO X d i H {s with heap:=h'}:=I.kept (t':=s.toks) λb o e=>y b o (nB (m3 e)) e;show h d _ i H l _ Q I1 (by simpa using j) g
def M0(d e:TE)(t:HI):TG:=λv a H Q=>d a H λo b=>e a b λi f=>t o i v f λg=>Q a g
def jN(f:PE X o g)(hi:PE X i j)(l:HM X t)(m:∀v,assign (.Subscript o i c) X.env v=(do
   let d<-holding [v] (eval o X.env)let iv<-holding [v,d] (eval i X.env)standAt c
   holding [v,d,iv] (setItem d iv v)release [v,d,iv] []):=by intro _;rfl):PG X (.Subscript o i c) (M0 g j t):=by intro a s e H v u Q I r h;rw[m];show a_ (ri (cy (f a s e H _ I h) λd k b=>?_));obtain⟨x,n,I1,p,q⟩:=b;show a_ (ri (cy (hi a k e n _ I1 q) λiv w b=>?_));obtain⟨y,z,A,r2,B⟩:=b;show a_ (wpAny_standAt (a_ (ri (cy (l a w e z x y v d iv u _ A p r2 r B) λ_ F b=>?_))));obtain⟨C,D,E⟩:=b;show wpAny_release (e,C,D,E,)
def yn(te:TE)(g:TG):TS:=λD a H=>te a H λx b=>g x a b D.nx
def jM(f:PE X e te)(hg:PG X d g)(i:swapsWithSole [d] e c.line X.env=pure false:=by rfl)(j:swappedStores [d] e X.env=pure none:=by rfl)(h1:(assignEach [d] X.env).map (·.2)=[assign d X.env]:=by rfl):PS X (.Assign [d] e c) (yn te g):=by intro a s b H D I h;show wpAny_Assign_stores (cy (f a s b H _ I h) λv k⟨x,l,I1,m,n⟩=>?_) i j;rw[h1];show cy (hg a k b l x v _ I1 m n) λ_ o q=>q
def ud(d:X.N.Nodup)(hi:X.N[i]?=some x)(f:Kw X.env.scope x)(g:PE X e te)(j:swapsWith e (some (.Name x a)) c.line X.env=pure false:=by rfl)(l:X.fn x=true\/X.env.scope.names.lookup x=some .local:=by first|show .inl ()|show .inr ()|assumption):PS X (.Assign [.Name x a] e c) (yn te (kI i)):=by intro b s k H D I h;show wpAny_Assign_Name (cy (g b s k H _ I h) λv q⟨y,m,I1,n,o⟩=>?_) j;show sX I1 d hi f n (λr p=>{_,m,p,o}) l
end
structure It where
 go:Nat->Hp->Prop
 yld:Nat->Hp->V->Hp->Prop
 stop:Nat->Hp->Prop
def vY(X:Cx)(a:O8)(H:Hp)(b:Addr):Prop:=H b=none/\b≠X.env.locals/\b∉X.fs/\(b∈X.ex\/X.s₀.heap.objs.size<=b)/\(∀x c,X.env.cells.lookup x=some c->c≠b)/\∀p∈X.pn++a,p.1≠b
def aO.fpOk(I:aO X a h H s)(d:s.heap.objs.size<=b)(hn:f b=none):vY X a f b:=by
 show{hn,q_ (pu I.lt d),I.nofs d,.inr (nr I.sz d),λx c e z=>?_,λp g z=>?_}
 ·obtain⟨v,q⟩:=I.cell x c e;show absurd (pu q.lt (by rw[z];show d)) (sg _)
 ·show absurd (pu (m3 (I.pin p g).1) (by rw[z];show d)) (sg _)
structure vV(P:Pa)(w:World)(K:O6)(tg:Expr)(J:It)(fp:Pf)(it:Addr)(tn:Nat->Heap->Prop):Prop where
 mem:it∈fp
 obj:∀i h,tn i h->∀b∈fp,∃o,h.get? b=some o/\∀v,o.data≠.cell v
 keep:∀i h h',tn i h->(∀b∈fp,∀o,h.get? b=some o->h'.get? b=some o)->tn i h'
 item:∀(X:Cx),X.prog=P->X.w=w->X.K=K->X.calm=true->∀(i:Nat)(pins:O8)(s:Shared)(σ:St)(H:Hp)(E:O7),aO X pins σ H s->(∀b∈fp,vY X pins H b)->tn i s.heap->J.go i H->wpAny (model P w) X.A (pyNext (.ref it)) (λr s1=>∃u,r=some u/\wpAny (model P w) X.A (letOwnedTupleGo tg (.ref it) u) (λ_ s2=>∃x H',aO X pins σ H' s2/\aV x u/\J.yld i H x H'/\tn (i+1) s2.heap/\∀b∈fp,H' b=none) E s1) E s
 done:∀(X:Cx),X.prog=P->X.w=w->X.K=K->X.calm=true->∀(i:Nat)(pins:O8)(s:Shared)(σ:St)(H:Hp)(E:O7),aO X pins σ H s->(∀b∈fp,vY X pins H b)->tn i s.heap->J.stop i H->wpAny (model P w) X.A (pyNext (.ref it)) (λr s1=>r=none/\aO X pins σ H s1) E s
 self:∀(A:Around)(i:Nat)(s:Shared)(Q:O7)(E:O7),tn i s.heap->Q (.ref it) s->wpAny (model P w) A (pyIter (.ref it)) Q E s
abbrev TI:=St->Hp->(It->Hp->Prop)->Prop
def M9(X:Cx)(a:O8)(g:St)(h:Expr)(R:It->Hp->Prop)(c:Value)(e:Shared):Prop:=∃(f:Addr)(fp:Pf)(tn:Nat->Heap->Prop)(J:It)(d:Hp),c=.ref f/\aO X a g d e/\vV X.prog X.w X.K h J fp f tn/\tn 0 e.heap/\(∀b∈fp,vY X a d b)/\R J d
def PI(X:Cx)(c iter:Expr)(d:TI):Prop:=∀(a:O8)(s:Shared)(b:St)(H:Hp)(R:It->Hp->Prop),aO X a b H s->d b H R->wpAny (model X.prog X.w) X.A (eval iter X.env) (λv e=>wpAny (model X.prog X.w) X.A (pyIter v) (M9 X a b c R) X.xe e) X.xe s
def wO(c:s.heap.get? d=some o)(hc:o.cls=.type n)(hd:o.data=.fields e)(hn:["enumerate","zip","dict_itemiterator","dict_reverseitemiterator","odict_iterator","itertools.zip_longest","itertools.pairwise"].contains n=false)(a:Q Unit.unit s):wpAny M A (letOwnedTupleGo f (.ref d) u) Q E s:=by unfold letOwnedTupleGo;cases f<;>first|show f_ a|(cases u<;>first
 |show f_ a
    |(show a_ (wpAny_load c ?_)
      rw[hc,hd];change wpAny M A (if(["enumerate","zip","dict_itemiterator","dict_reverseitemiterator","odict_iterator","itertools.zip_longest","itertools.pairwise"].contains n&&e[0]?==some (rawInt _))=true then _ else _) Q E s;rw[me (by intro h;rw[hn,Bool.false_and]at h;cases h)];show f_ a))
def Ip(K:O6)(a:Addr):It:={λi H=>∃b x,aR K H a b/\b[i]?=some x,λi H x c=>c=H/\∀b,aR K H a b->b[i]?=some x,λi H=>∃b,aR K H a b/\b.length<=i}
def Io(K:O6)(a:Addr):It:={λi H=>∃b x,aY K H a b/\b[i]?=some x,λi H x c=>c=H/\∀b,aY K H a b->b[i]?=some x,λi H=>∃b,aY K H a b/\b.length<=i}
def FQ(lo:Int)(n:Nat):It:={λi _=>i<n,λi H x a=>a=H/\x=.int (lo+i),λi _=>n<=i}
def BN{P:Pa}{w:World}{K:O6}{J:Expr}(a g:Addr):vV P w K J (Ip K a) [g] g (λi h=>h.IsListIter g a i)where
 mem:=by simp
 obj:=λi h st b j=>by
  have e:b=g:=by simpa using j
  subst e;obtain⟨o,e,c,d⟩:=st;show{o,e,λv z=>by rw[d]at z;cases z}
 keep:=λi h h' st k=>st.at λo e=>k g (by simp) o e
 item:=by intro X q r t hc i f s G H E I m st hg;subst q r t;obtain⟨L,x,n,y⟩:=hg;obtain⟨A,B,p,M⟩:=I.list n;obtain⟨u,N,ru⟩:=B.get y;obtain⟨C,f1,f2,f3,D,F⟩:=m g (by simp);show wpAny_pyNext_list_item st p.isList (x:=u) (by simpa using N) λh' l O=>?_;have I1:aO X f G H {s with heap:=h'}:=I.turned (t':=s.toks) (λb o j e=>(O.2 b j).trans e) C f1 f3 D F;obtain⟨o,e,c,d⟩:=id l;show{u,(),wO (s:={s with heap:=h'}) e c d (by decide) {x,H,I1,ru,{(),λT R=>by rw[I.list_inj R n];show y},l,λb j=>(m b j).1}}
 done:=by intro X q r t hc i f s G H E I m st hg;subst q r t;obtain⟨L,n,y⟩:=hg;obtain⟨A,B,p,M⟩:=I.list n;obtain⟨C,f1,f2,f3,D,F⟩:=m g (by simp);have U:=B.length;show wpAny_pyNext_list_end (I.ok.hd hc) st p.isList (by simp;lia) λh' S=>{(),I.turned (t':=s.toks) (λb o j e=>S b o j e) C f1 f3 D F}
 self:=λ_ _ _ _ _ st h=>wpAny_pyIter_listiter st h
def zS{P:Pa}{w:World}{K:O6}{J:Expr}(a g:Addr):vV P w K J (Io K a) [g] g (λi h=>h.IsTupleIter g a i)where
 mem:=by simp
 obj:=λi h st b j=>by
  have e:b=g:=by simpa using j
  subst e;obtain⟨o,e,c,d⟩:=st;show{o,e,λv z=>by rw[d]at z;cases z}
 keep:=λi h h' st k=>st.at λo e=>k g (by simp) o e
 item:=by intro X r t y hc i f s G H E I n st hg;subst r t y;obtain⟨L,x,q,A⟩:=hg;obtain⟨l,B,p,M⟩:=I.tuple q;obtain⟨u,N,ru⟩:=B.get A;obtain⟨C,f1,f2,f3,D,F⟩:=n g (by simp);show wpAny_pyNext_tuple_item st (show s.heap.IsTuple a l.toArray from p) (x:=u) (by simpa using N) λh' m O=>?_;have I1:aO X f G H {s with heap:=h'}:=I.turned (t':=s.toks) (λb o j e=>(O.2 b j).trans e) C f1 f3 D F;obtain⟨o,e,c,d⟩:=id m;show{u,(),wO (s:={s with heap:=h'}) e c d (by decide) {x,H,I1,ru,{(),λT R=>by rw[I.tuple_inj R q];show A},m,λb j=>(n b j).1}}
 done:=by intro X r t y hc i f s G H E I n st hg;subst r t y;obtain⟨L,q,A⟩:=hg;obtain⟨l,B,p,M⟩:=I.tuple q;obtain⟨C,f1,f2,f3,D,F⟩:=n g (by simp);have U:=B.length;show wpAny_pyNext_tuple_end (I.ok.hd hc) st (show s.heap.IsTuple a l.toArray from p) (by simp;lia) λh' S=>{(),I.turned (t':=s.toks) (λb o j e=>S b o j e) C f1 f3 D F}
 self:=λ_ _ _ _ _ st h=>wpAny_pyIter_tupleiter st h
def zT{P:Pa}{w:World}{K:O6}{x:Expr}(a:Addr)(lo:Int)(n:Nat):vV P w K x (FQ lo n) [a] a (λi h=>IsRangeIter h a (lo+(i:Nat)*1) ((n:Int)-(i:Nat)) 1)where
 mem:=by simp
 obj:=λi h st b d=>by
  have e:b=a:=by simpa using d
  subst e;show{_,st,λv z=>by have y:Data.fields _=Data.cell v:=z;cases y}
 keep:=λi h h' st k=>k a (by simp) _ st
 item:=by intro X j l m hc i c s u H E I g st hg;subst j l m;obtain⟨p,f1,f2,f3,q,r⟩:=g a (by simp);have W:=Walks.range (prog:=X.prog) (w:=X.w) (I.ok.hd hc) a lo 1 n;show W.item i s _ _ hg st λv h' tk A f B=>?_;obtain⟨t,rfl⟩:=A;have I1:aO X c u H {s with heap:=h',toks:=tk}:=I.turned (λb o d e=>B b o (by simpa using d) e) p f1 f3 q r;show{_,(),wO (s:={s with heap:=h',toks:=tk}) (n:="range_iterator") f () () (by decide) {.int (lo+i),H,I1,{t,?_},{(),()},f,λb d=>(g b d).1}};rw[Int.mul_one]
 done:=by intro X j l m hc i c s u H E I g st hg;subst j l m;obtain⟨p,f1,f2,f3,q,r⟩:=g a (by simp);show wpAny_pyNext_range_end (I.ok.hd hc) st (by have:n<=i:=hg;lia) λh' C=>{(),I.turned (t':=s.toks) (λb o d e=>C b o d e) p f1 f3 q r}
 self:=λ_ _ _ _ _ st h=>wpAny_pyIter_rangeiter st h
section
variable{X:Cx}{c:Expr}
def HY(K:O6)(d:TE):TI:=λe H R=>d e H λx b=>∃a,x=.ref a/\(∃f,aR K b a f)/\R (Ip K a) b
def LW(K:O6)(d:TE):TI:=λe H R=>d e H λx b=>∃a,x=.ref a/\(∃f,aY K b a f)/\R (Io K a) b
def GH{l:Expr}{g:TE}(i:PE X l g):PI X c l (HY X.K g):=by
 intro d s j H R I h;show cy (i d s j H _ I h) λv f k=>?_;obtain⟨x,m,I1,n,r⟩:=k;obtain⟨a,e,⟨y,t⟩,q⟩:=r;subst e;cases n;obtain⟨u,z,p,A⟩:=I1.list t;show N4 p.isList ?_;show{f.heap.objs.size,[f.heap.objs.size],_,_,m,(),I1.kept (t':=f.toks) λb o e=>d_ _ e,BN a _,{_,j_ _ (),(),()},λb w=>?_,q};have e:b=f.heap.objs.size:=by simpa using w
 subst e;show I1.fpOk (e_ _) (I1.hok.fresh (e_ _))
def Ju{l:Expr}{i:TE}(j:PE X l i):PI X c l (LW X.K i):=by
 intro d s k H R I h;show cy (j d s k H _ I h) λv f m=>?_;obtain⟨x,n,I1,r,t⟩:=m;obtain⟨a,e,⟨y,u⟩,q⟩:=t;subst e;cases r;obtain⟨g,z,p,A⟩:=I1.tuple u;show Nx (show f.heap.IsTuple a g.toArray from p) ?_;show{f.heap.objs.size,[f.heap.objs.size],_,_,n,(),I1.kept (t':=f.toks) λb o e=>d_ _ e,zS a _,{_,j_ _ (),(),()},λb w=>?_,q};have e:b=f.heap.objs.size:=by simpa using w
 subst e;show I1.fpOk (e_ _) (I1.hok.fresh (e_ _))
def yK{a:O8}{d:St}{H:Hp}{s:Shared}{R:It->Hp->Prop}{E:O7}{lo hi:Int}{t u v:Tok}{tk:Nat}(I:aO X a d H s)(h1:-(2^62)<=lo)(h2:lo<2^62)(h3:-(2^62)<=hi)(h4:hi<2^62)(q:R (FQ lo (hi-lo).toNat) H):wpAny (model X.prog X.w) X.A (pyIter (.ref s.heap.objs.size)) (M9 X a d c R) E {s with heap:=s.heap.push {cls:=.type "range",data:=.fields #[.int lo t,.int hi u,.int 1 v]},toks:=tk}:=by
 show wpAny_pyIter_range (IsRange.new ..) (small_one h1 h2 h3 h4) ?_;have I1:aO X a d H {s with heap:=s.heap.push {cls:=.type "range",data:=.fields #[.int lo t,.int hi u,.int 1 v]},toks:=tk}:=I.kept λb o e=>d_ _ e;show{(s.heap.push {cls:=.type "range",data:=.fields #[.int lo t,.int hi u,.int 1 v]}).objs.size,[(s.heap.push {cls:=.type "range",data:=.fields #[.int lo t,.int hi u,.int 1 v]}).objs.size],_,_,H,(),I1.kept (t':=tk) λb o e=>d_ _ e,zT _ lo (hi-lo).toNat,?_,λb f=>?_,q}
 ·have g:lo+((0:Nat):Int)*1=lo:=by simp
  have h:(((hi-lo).toNat:Nat):Int)-((0:Nat):Int)=Builtin.Range.rangeSize lo hi 1:=by rw[rangeSize_one];split<;>lia
  change IsRangeIter _ _ (lo+((0:Nat):Int)*1) ((((hi-lo).toNat:Nat):Int)-((0:Nat):Int)) 1;rw[g,h];show j_ _ ()
 ·have e:b=(s.heap.push {cls:=.type "range",data:=.fields #[.int lo t,.int hi u,.int 1 v]}).objs.size:=by simpa using f
  subst e;show I1.fpOk (e_ _) (I1.hok.fresh (e_ _))
def LY(a:TA):TI:=λb H R=>a b H λd e=>∃j:Int,d=[.int j]/\-(2^62)<=j/\j<2^62/\R (FQ 0 j.toNat) e
def LX(a:TA):TI:=λb H R=>a b H λd e=>∃i j:Int,d=[.int i,.int j]/\(-(2^62)<=i/\i<2^62/\-(2^62)<=j/\j<2^62)/\R (FQ i (j-i).toNat) e
def dQ{a:Expr}{g:TA}{p d:Pos}(hg:Gl X "range")(hm:X.mg "range"=none)(i:PA X [a] g)(l:starEach [a] X.env=[(false,eval a X.env)]:=by rfl):PI X c (.Call (.Name "range" p) [a] [] d) (LY g):=by intro b s k H R I h;show Call_ (k7 I hg hm boot_range (C2 (cy (i d b s k H _ I h) λu v⟨w,x,I1,m,f⟩=>?_) l ()));obtain⟨j,e,f,n,q⟩:=f;subst e;cases m with|cons r o=>cases o;obtain⟨t,rfl⟩:=r;show call_range_1 (yK I1 (by lia) (by lia) f n (by simpa using q))
def wz(hg:Gl X "range")(hm:X.mg "range"=none)(m:PA X [a,b] n)(o:starEach [a,b] X.env=[(false,eval a X.env),(false,eval b X.env)]:=by rfl)(d:starEach [b] X.env=[(false,eval b X.env)]:=by rfl):PI X c (.Call (.Name "range" p) [a,b] [] g) (LX n):=by intro f s u H R I h;show Call_ (k7 I hg hm boot_range (C2 (cy (m g f s u H _ I h) λA B⟨C,D,I1,v,k⟩=>?_) (by rw[o,d]) (by rw[d];rfl)));obtain⟨i,j,e,⟨k,w,x,y⟩,q⟩:=k;subst e;cases v with|cons r l=>cases l with|cons z l=>cases l;obtain⟨t,rfl⟩:=r;obtain⟨E,rfl⟩:=z;show call_range_2 (yK I1 k w x y q)
def MJ(h:TI)(g:TG)(j:TS):TS:=λD a H=>h a H λJ k=>∃W:Nat->Nat->St->Hp->Prop,(∃m,W 0 m a k)/\∀i m a H,W i m a H->(J.stop i H/\D.nx a H)\/(J.go i H/\∃N:St->Hp->Prop,(∀b d,N b d->∃f,f<m/\W (i+1) f b d)/\∀x d,J.yld i H x d->g x a d λe l=>j {D with nx:=N,ct:=N,bk:=D.nx} e l)
def uf(fp:Pf)(h:Heap):List (Addr×Obj):=fp.filterMap λb=>(h.get? b).map λo=>(b,o)
def kY(a:b∈fp)(e:h.get? b=some o):(b,o)∈uf fp h:=NY.mpr {b,a,by rw[e];rfl}
def Cl(a:p∈uf fp h):p.1∈fp/\h.get? p.1=some p.2:=by obtain⟨b,d,e⟩:=NY.mp a;cases q:h.get? b with|none=>rw[q]at e;cases e|some o=>rw[q]at e;have f:(b,o)=p:=n_ e;subst f;show(d,q,)
def aO.pinned(I:aO X a h H s)(i:∀b∈fp,vY X a H b)(j:∀b∈fp,∃o,s.heap.get? b=some o/\∀v,o.data≠.cell v):aO X (a++uf fp s.heap) h H s:=I.pins_of λp k=>(List.mem_append.mp k).elim (λz=>I.pin p (pv _ z)) λz=>by obtain⟨f,e⟩:=Cl z;obtain⟨l,f1,f2,_⟩:=i p.1 f;obtain⟨o,g,d⟩:=j p.1 f;rw[e]at g;cases g;show(e,l,f1,f2,d,)
def aO.unpinned(I:aO X (a++pl) d H s):aO X a d H s:=I.pins_of λp b=>I.pin p (pv _ (qx _ b))
def d6(E:PassesOwn (model X.prog X.w) X.A X.env X.xe)(hc:X.calm=true)(hi:PI X c iter wi)(hg:PG X c g)(l:ve X F tb)(hs:∀x,foldedSetIterable iter X.env x=pure x:=by intro _;rfl):PS X (.For c iter F [] aa) (MJ wi g tb):=by
 intro a s Z H D I h;show wpAny_For (cy (hi a s Z H _ I h) λv s1 h1=>cy h1 λad s2 h2=>?_) hs;obtain⟨it,fp,tn,J,H2,e,I2,T,P,f2,W,⟨m0,w0⟩,G⟩:=h2;subst e;have k:∀{z:Hp},(∀b∈fp,z b=none)->∀b∈fp,vY X a z b:=λhn b l=>{hn b l,(f2 b l).2};show codeAny_forLoop_any (λn s'=>∃i p z,aO X a p z s'/\tn i s'.heap/\(∀b∈fp,z b=none)/\W i n p z) ?_ m0 {0,Z,H2,I2,P,λb l=>(f2 b l).1,w0};rintro n s3⟨i,q,O,I3,K,L,w3⟩;rcases G i n q O w3 with⟨stop,qn⟩|⟨go,N,hN,step⟩
 ·show NO E (cy (T.done X () () () hc i a s3 q O X.xe I3 (k L) K stop) λr s4⟨Q,I4⟩=>?_);subst Q;show NP (q,O,I4,qn,)
 ·show NO E (cy (T.item X () () () hc i a s3 q O X.xe I3 (k L) K go) λr s4⟨u,Q,h4⟩=>?_);subst Q;show NO E (cy h4 λ_ s5 R=>?_);obtain⟨x,H5,I5,r5,y5,C,S⟩:=R;have U:=I5.pinned (k S) (T.obj _ _ C);show NO E (cy (hg _ s5 q H5 x u _ U r5 (step x H5 y5)) λ_ s6 R=>?_);obtain⟨V,H6,I6,q6⟩:=R;show NO E (cy (l _ s6 V H6 _ I6 q6) λf Y B=>?_);have again:∀{j:St}{t:Hp},aO X (a++uf fp s5.heap) j t Y->N j t->∃m,m<n/\∃i p z,aO X a p z Y/\tn i Y.heap/\(∀b∈fp,z b=none)/\W i m p z:=λ{j t}y M=>by obtain⟨m',hm,w7⟩:=hN j t M;show{m',hm,i+1,j,t,y.unpinned,T.keep _ _ _ C λb l o e=>(y.pin (b,o) (pv _ (pv _ (kY l e)))).1,λb l=>?_,w7};obtain⟨o,e,d⟩:=T.obj _ _ C b l;show(y.pin (b,o) (pv _ (pv _ (kY l e)))).2.1
  cases f with|next=>obtain⟨j,t,y,M⟩:=B;show again y M|cont=>obtain⟨j,t,y,M⟩:=B;show again y M|brk=>obtain⟨j,t,y,B⟩:=B;show(j,t,y.unpinned,B,)|ret v=>obtain⟨x7,j,t,y,r7,B⟩:=B;show(x7,j,t,y.unpinned,r7,B,)
end
def uL{K:O6}{a:Addr}{xs:List V}{g:TG}{tb:TS}{D:jV}{c:St}{H:Hp}(Pv:Nat->St->Hp->Prop)(h0:Pv 0 c H)(n:∀i c H,i<=xs.length->Pv i c H->aR K H a xs)(o:∀i x c H,xs[i]?=some x->Pv i c H->g x c H λd j=>tb {D with nx:=Pv (i+1),ct:=Pv (i+1),bk:=D.nx} d j)(hd:∀c H,Pv xs.length c H->D.nx c H):∃W:Nat->Nat->St->Hp->Prop,(∃m,W 0 m c H)/\∀i m c H,W i m c H->((Ip K a).stop i H/\D.nx c H)\/((Ip K a).go i H/\∃N:St->Hp->Prop,(∀f h,N f h->∃l,l<m/\W (i+1) l f h)/\∀x h,(Ip K a).yld i H x h->g x c h λd j=>tb {D with nx:=N,ct:=N,bk:=D.nx} d j):=by
 show{λi m c H=>m=xs.length-i/\i<=xs.length/\Pv i c H,{xs.length,by simp,ov _,h0},?_};rintro i m c H⟨rfl,hi,p⟩;have q:=n i c H hi p
 by_cases b:i<xs.length
 ·show .inr {{xs,xs[i],q,by simp[b]},Pv (i+1),λf h k=>{xs.length-(i+1),by lia,(),b,k},λx h y=>?_};obtain⟨e,y⟩:=y;subst e;show o i x c _ (y xs q) p
 ·have e:i=xs.length:=by lia
  subst e;show .inl {{xs,q,e_ _},hd c H p}
def Ho{K:O6}{a:Addr}{xs:List V}{g:TG}{l:TS}{D:jV}{c:St}{H:Hp}(Pv:Nat->St->Hp->Prop)(h0:Pv 0 c H)(o:∀i c H,i<=xs.length->Pv i c H->aY K H a xs)(r:∀i x c H,xs[i]?=some x->Pv i c H->g x c H λd j=>l {D with nx:=Pv (i+1),ct:=Pv (i+1),bk:=D.nx} d j)(hd:∀c H,Pv xs.length c H->D.nx c H):∃W:Nat->Nat->St->Hp->Prop,(∃m,W 0 m c H)/\∀i m c H,W i m c H->((Io K a).stop i H/\D.nx c H)\/((Io K a).go i H/\∃N:St->Hp->Prop,(∀f h,N f h->∃n,n<m/\W (i+1) n f h)/\∀x h,(Io K a).yld i H x h->g x c h λd j=>l {D with nx:=N,ct:=N,bk:=D.nx} d j):=by
 show{λi m c H=>m=xs.length-i/\i<=xs.length/\Pv i c H,{xs.length,by simp,ov _,h0},?_};rintro i m c H⟨rfl,hi,p⟩;have q:=o i c H hi p
 by_cases b:i<xs.length
 ·show .inr {{xs,xs[i],q,by simp[b]},Pv (i+1),λf h k=>{xs.length-(i+1),by lia,(),b,k},λx h y=>?_};obtain⟨e,y⟩:=y;subst e;show r i x c _ (y xs q) p
 ·have e:i=xs.length:=by lia
  subst e;show .inl {{xs,q,e_ _},hd c H p}
def mQ{lo:Int}{n:Nat}{g:TG}{tb:TS}{D:jV}{a:St}{H:Hp}(Pv:Nat->St->Hp->Prop)(h0:Pv 0 a H)(l:∀i a H,i<n->Pv i a H->g (.int (lo+i)) a H λc h=>tb {D with nx:=Pv (i+1),ct:=Pv (i+1),bk:=D.nx} c h)(hd:∀a H,Pv n a H->D.nx a H):∃W:Nat->Nat->St->Hp->Prop,(∃m,W 0 m a H)/\∀i m a H,W i m a H->((FQ lo n).stop i H/\D.nx a H)\/((FQ lo n).go i H/\∃N:St->Hp->Prop,(∀d f,N d f->∃j,j<m/\W (i+1) j d f)/\∀x f,(FQ lo n).yld i H x f->g x a f λc h=>tb {D with nx:=N,ct:=N,bk:=D.nx} c h):=by
 show{λi m a H=>m=n-i/\i<=n/\Pv i a H,{n,by simp,ov _,h0},?_};rintro i m a H⟨rfl,hi,p⟩
 by_cases b:i<n
 ·show .inr {b,Pv (i+1),λd f k=>{n-(i+1),by lia,(),b,k},λx f y=>?_};obtain⟨e,y⟩:=y;subst e y;show l i a _ b p
 ·have e:i=n:=by lia
  subst e;show .inl {e_ _,hd a H p}
abbrev R2:=V->V->Hp->VK->Prop
def lg(X:Cx)(f:Value->Value->Sem Value)(r:R2):Prop:=∀(a:O8)(s:Shared)(b:St)(H:Hp)(x y:V)(v u:Value)(Q:VK),aO X a b H s->aV x v->aV y u->r x y H Q->wpAny (model X.prog X.w) X.A (f v u) (EP X a b Q) X.xe s
def M7(X:Cx)(f:Value->Sem Value)(r:V->Hp->VK->Prop):Prop:=∀(a:O8)(s:Shared)(b:St)(H:Hp)(x:V)(v:Value)(Q:VK),aO X a b H s->aV x v->r x H Q->wpAny (model X.prog X.w) X.A (f v) (EP X a b Q) X.xe s
def dy(X:Cx)(f:Value)(r:List V->Hp->VK->Prop):Prop:=∀(a:O8)(s:Shared)(b:St)(H:Hp)(c:List V)(d:O_)(Q:VK),aO X a b H s->aZ c d->r c H Q->wpAny (model X.prog X.w) X.A (call f d) (EP X a b Q) X.xe s
def M8(X:Cx)(r:V->Hp->(Bool->Hp->Prop)->Prop):Prop:=∀(a:O8)(s:Shared)(b:St)(H:Hp)(x:V)(v:Value)(Q:Bool->Hp->Prop),aO X a b H s->aV x v->r x H Q->wpAny (model X.prog X.w) X.A (truthy v) (TP X a b Q) X.xe s
def KA(r:R2)(c d:TE):TE:=λa H Q=>c a H λx b=>d a b λy e=>r x y e Q
def tUn(r:V->Hp->VK->Prop)(a:TE):TE:=λb H Q=>a b H λx c=>r x c Q
def rI(C:Int->Int->Prop)(g:Int->Int->V):R2:=λx y H Q=>∃i j,x=.int i/\y=.int j/\C i j/\Q (g i j) H
def GA(g:Int->Int->V):R2:=λx y H Q=>∃i j,x=.int i/\y=.int j/\Q (g i j) H
def rU(g:Int->V):V->Hp->VK->Prop:=λx H Q=>∃i,x=.int i/\Q (g i) H
section
variable{X:Cx}{a b:Expr}{d l:TE}{e:Pos}
def Kk(p:PE X a d)(q:PE X b l){g:O8}{s:Shared}{i:St}{H:Hp}{R:V->V->Hp->Prop}(I:aO X g i H s)(h:d i H λx o=>l i o λy j=>R x y j){Q:O7}{f:Value->Value->Sem Value}(r:∀v u n x y j,aO X g i j n->aV x v->aV y u->R x y j->wpAny (model X.prog X.w) X.A (f v u) Q X.xe n):wpAny (model X.prog X.w) X.A (eval a X.env) (λv s₁=>wpAny (model X.prog X.w) X.A (eval b X.env) (λu m=>wpAny (model X.prog X.w) X.A (f v u) Q X.xe m) X.xe s₁) X.xe s:=by show cy (p g s i H _ I h) λv t k=>?_;obtain⟨x,o,I1,z,B⟩:=k;show cy (q g t i o _ I1 B) λu n k=>?_;obtain⟨y,j,C,r2,D⟩:=k;show r v u n x y j C z r2 D
def aB{g:Operator}{r:R2}(i:lg X (binaryOp g) r)(j:PE X a d)(m:PE X b l):PE X (.BinOp a g b e) (KA r d l):=by intro f s k H Q I h;show wpAny_BinOp (Kk j m I h λv u n x y o p t w q=>i f n k o x y v u Q p t w q)
def Lv(i:M7 X (unaryOp j) r)(m:PE X a d):PE X (.UnaryOp j a e) (tUn r d):=by intro f s g H Q I h;show UnaryOp_ (cy (m f s g H _ I h) λv k n=>?_);obtain⟨x,o,I1,p,q⟩:=n;show i f k g o x v Q I1 p q
def Ly{f:Value->Value->Sem Value}{C:Int->Int->Prop}{g:Int->Int->Int}(rule:∀(i j:Int)(t u:Tok)(s:Shared)(Q:O7)(E:O7),C i j->Q (.int (g i j) s.toks) {s with toks:=s.toks+1}->wpAny (model X.prog X.w) X.A (f (.int i t) (.int j u)) Q E s):lg X f (rI C λi j=>.int (g i j)):=by intro k s p H x y v u Q I m n h;obtain⟨i,j,rfl,rfl,hc,q⟩:=h;obtain⟨t,rfl⟩:=m;obtain⟨o,rfl⟩:=n;show rule i j t o s _ _ hc {.int (g i j),H,I.tok _,{_,()},q}
def JE{f:Value->Value->Sem Value}{g:Int->Int->Int}(rule:∀(i j:Int)(t u:Tok)(s:Shared)(Q:O7)(E:O7),Q (.int (g i j) s.toks) {s with toks:=s.toks+1}->wpAny (model X.prog X.w) X.A (f (.int i t) (.int j u)) Q E s):lg X f (GA λi j=>.int (g i j)):=by intro k s p H x y v u Q I m n h;obtain⟨i,j,rfl,rfl,q⟩:=h;obtain⟨t,rfl⟩:=m;obtain⟨o,rfl⟩:=n;show rule i j t o s _ _ {.int (g i j),H,I.tok _,{_,()},q}
def GR{f:Value->Value->Sem Value}{g:Int->Int->Bool}(rule:∀(i j:Int)(t u:Tok)(s:Shared)(Q:O7)(E:O7),Q (.bool (g i j)) s->wpAny (model X.prog X.w) X.A (f (.int i t) (.int j u)) Q E s):lg X f (GA λi j=>.bl (g i j)):=by intro k s p H x y v u Q I m n h;obtain⟨i,j,rfl,rfl,q⟩:=h;obtain⟨t,rfl⟩:=m;obtain⟨o,rfl⟩:=n;show rule i j t o s _ _ {.bl (g i j),H,I,(),q}
def fW(i j:Int):Prop:=0<j/\j<1073741824
def Nf(i j:Int):Prop:=0<=j/\j<=1000000/\i.natAbs<2^64
def Kx(i j:Int):Prop:=(-(2^64)<i/\i<2^64)\/(-(2^64)<j/\j<2^64)
def Kx.ok(h:Kx i j):IntMulOk i j:=by
 rcases h with⟨h1,h2⟩|⟨h1,h2⟩
 ·show .of_left (intBits_le_64 h1 h2)
 ·show .of_right (intBits_le_64 h1 h2)
def two_pow_nn(k:Nat):(0:Int)<=2^k:=by rw[two_pow_cast];show Int.natCast_nonneg _
def bV:lg X (binaryOp .Add) (GA λi j=>.int (i+j)):=JE λ_ _ _ _ _ _ _ q=>add_int q
def f9:lg X (binaryOp .Sub) (GA λi j=>.int (i-j)):=JE λ_ _ _ _ _ _ _ q=>sub_int q
def gZ:lg X (binaryOp .Mult) (rI Kx λi j=>.int (i*j)):=Ly λ_ _ _ _ _ _ _ hc q=>mul_int q hc.ok
def bL:lg X (binaryOp .FloorDiv) (rI fW λi j=>.int (i/j)):=Ly λi j _ _ _ _ _ hc q=>by have h1:(0:Int)<j:=hc.1;have h2:j<1073741824:=hc.2;show floordiv_int (by lia) (by rw[N1 i (by lia)];show q) (.inl (PyProof.noPylong_small (by lia)))
def aW:lg X (binaryOp .Mod) (rI (λ_ j=>0<j) λi j=>.int (i%j)):=Ly λi j _ _ _ _ _ hc q=>by have h1:(0:Int)<j:=hc;show mod_int' (by lia) (by rw[Int.fmod_eq_emod_of_nonneg i (by lia)];show q)
def JA:lg X (binaryOp .Pow) (rI Nf λi j=>.int (i^j.toNat)):=Ly λ_ _ _ _ _ _ _ hc q=>pow_int_small hc.1 hc.2.1 hc.2.2 q
def Jz:lg X (binaryOp .RShift) (rI (λ_ j=>0<=j) λi j=>.int (i/2^j.toNat)):=Ly λi j _ _ _ _ _ hc q=>rshift_int hc (by rw[N1 i (two_pow_nn _)];show q)
def D6:lg X (binaryOp .BitAnd) (GA λi j=>.int (Builtin.bitAnd i j)):=JE λ_ _ _ _ _ _ _ q=>and_int q
def unI{f:Value->Sem Value}{g:Int->Int}(rule:∀(i:Int)(t:Tok)(s:Shared)(Q:O7)(E:O7),Q (.int (g i) s.toks) {s with toks:=s.toks+1}->wpAny (model X.prog X.w) X.A (f (.int i t)) Q E s):M7 X f (rU λi=>.int (g i)):=by intro j s m H x v Q I k h;obtain⟨i,rfl,q⟩:=h;obtain⟨t,rfl⟩:=k;show rule i t s _ _ {.int (g i),H,I.tok _,{_,()},q}
def Iw:M7 X (unaryOp .USub) (rU λi=>.int (-i)):=unI λ_ _ _ _ _ q=>neg_int q
end
def f8:V->V->Bool|.non,.non=>true|.non,.int _=>true|.int _,.non=>true|.non,.bl _=>true|.bl _,.non=>true|.non,.str _=>true|.str _,.non=>true|.int _,.int _=>true|.bl _,.bl _=>true|.str _,.str _=>true|.byt _,.byt _=>true|.int _,.str _=>true|.str _,.int _=>true|.bl _,.str _=>true|.str _,.bl _=>true|_,_=>false
def rEq:R2:=λx y H Q=>f8 x y=true/\Q (.bl (decide (x=y))) H
def rNe:R2:=λx y H Q=>f8 x y=true/\Q (.bl (!decide (x=y))) H
def BA:decide (V.int i=V.int j)=(i==j):=by rw[OA];simp
def Fd:decide (V.bl i=V.bl j)=(i==j):=by rw[OA];simp
def Bz:decide (V.str i=V.str j)=(i==j):=by rw[OA];simp
def BB:decide (V.byt i=V.byt j)=(i.toList==j.toList):=by rw[OA];cases i;cases j;simp
section
variable{X:Cx}{a b c:Expr}{f g tc:TE}{l:Pos}
def bO(I:aO X d h H s)(q:Q (.bl k) H)(e:k=i):EP X d h Q (.bool i) s:=by subst e;show{.bl k,H,I,(),q}
def aX:lg X (compareOp .Eq) rEq:=by intro n s o H x y v u Q I m d h;obtain⟨k,q⟩:=h;cases x with
 |non=>cases m;cases y with|non=>cases d;show PySem.EqNone.eq_none_none (bO I q (by simp))|bl j=>cases d;show PySem.EqNone.eq_none_bool (bO I q (by simp))|int j=>obtain⟨e,rfl⟩:=d;show PySem.EqNone.eq_none_int (bO I q (by simp))|str j=>obtain⟨e,rfl⟩:=d;show PySem.EqNone.eq_none_str (bO I q (by simp))|_=>show absurd (show false=true from k) nn
 |bl i=>cases m;cases y with|non=>cases d;show PySem.EqNone.eq_bool_none (bO I q (by simp))|bl j=>cases d;show eq_bool (bO I q Fd)|str j=>obtain⟨e,rfl⟩:=d;show PySem.EqMixed.eq_bool_str (bO I q (by simp))|_=>show absurd (show false=true from k) nn
 |int i=>obtain⟨t,rfl⟩:=m;cases y with|non=>cases d;show PySem.EqNone.eq_int_none (bO I q (by simp))|int j=>obtain⟨e,rfl⟩:=d;show eq_int (bO I q BA)|str j=>obtain⟨e,rfl⟩:=d;show PySem.EqMixed.eq_int_str (bO I q (by simp))|_=>show absurd (show false=true from k) nn
 |str i=>obtain⟨t,rfl⟩:=m;cases y with|non=>cases d;show PySem.EqNone.eq_str_none (bO I q (by simp))|bl j=>cases d;show PySem.EqMixed.eq_str_bool (bO I q (by simp))|int j=>obtain⟨e,rfl⟩:=d;show PySem.EqMixed.eq_str_int (bO I q (by simp))|str j=>obtain⟨e,rfl⟩:=d;show eq_str (bO I q Bz)|_=>show absurd (show false=true from k) nn
 |byt i=>obtain⟨t,rfl⟩:=m;cases y with|byt j=>obtain⟨e,rfl⟩:=d;show PySem.W.eq_bytes (bO I q BB)|_=>show absurd (show false=true from k) nn
 |_=>cases y<;>show absurd (show false=true from k) nn
def D1:lg X (compareOp .NotEq) rNe:=by intro n s o H x y v u Q I m d h;obtain⟨k,q⟩:=h;cases x with
 |non=>cases m;cases y with|non=>cases d;show PySem.EqNone.ne_none_none (bO I q (by simp))|bl j=>cases d;show PySem.EqNone.ne_none_bool (bO I q (by simp))|int j=>obtain⟨e,rfl⟩:=d;show PySem.EqNone.ne_none_int (bO I q (by simp))|str j=>obtain⟨e,rfl⟩:=d;show PySem.EqNone.ne_none_str (bO I q (by simp))|_=>show absurd (show false=true from k) nn
 |bl i=>cases m;cases y with|non=>cases d;show PySem.EqNone.ne_bool_none (bO I q (by simp))|bl j=>cases d;show ne_bool (bO I q (r_ not Fd))|str j=>obtain⟨e,rfl⟩:=d;show PySem.EqMixed.ne_bool_str (bO I q (by simp))|_=>show absurd (show false=true from k) nn
 |int i=>obtain⟨t,rfl⟩:=m;cases y with|non=>cases d;show PySem.EqNone.ne_int_none (bO I q (by simp))|int j=>obtain⟨e,rfl⟩:=d;show ne_int (bO I q (r_ not BA))|str j=>obtain⟨e,rfl⟩:=d;show PySem.EqMixed.ne_int_str (bO I q (by simp))|_=>show absurd (show false=true from k) nn
 |str i=>obtain⟨t,rfl⟩:=m;cases y with|non=>cases d;show PySem.EqNone.ne_str_none (bO I q (by simp))|bl j=>cases d;show PySem.EqMixed.ne_str_bool (bO I q (by simp))|int j=>obtain⟨e,rfl⟩:=d;show PySem.EqMixed.ne_str_int (bO I q (by simp))|str j=>obtain⟨e,rfl⟩:=d;show ne_str (bO I q (r_ not Bz))|_=>show absurd (show false=true from k) nn
 |byt i=>obtain⟨t,rfl⟩:=m;cases y with|byt j=>obtain⟨e,rfl⟩:=d;show PySem.W.ne_bytes (bO I q (r_ not BB))|_=>show absurd (show false=true from k) nn
 |_=>cases y<;>show absurd (show false=true from k) nn
def yR:lg X (compareOp .Lt) (GA λi j=>.bl (decide (i<j))):=GR λ_ _ _ _ _ _ _ q=>lt_int q
def jz:lg X (compareOp .LtE) (GA λi j=>.bl (decide (i<=j))):=GR λ_ _ _ _ _ _ _ q=>le_int q
def rh:lg X (compareOp .Gt) (GA λi j=>.bl (decide (j<i))):=GR λ_ _ _ _ _ _ _ q=>gt_int q
def D4:lg X (compareOp .GtE) (GA λi j=>.bl (decide (j<=i))):=GR λ_ _ _ _ _ _ _ q=>ge_int q
def Ch:lg X (compareOp .In) (λx y H Q=>∃i j,x=.str i/\y=.str j/\Q (.bl (!(Builtin.Str.occurrences j i 0 j.length 1).isEmpty)) H):=by intro d s m H x y v u Q I e k h;obtain⟨i,j,rfl,rfl,q⟩:=h;obtain⟨t,rfl⟩:=e;obtain⟨n,rfl⟩:=k;show in_str (bO I q ())
def D3:lg X (compareOp .Is) (λx y H Q=>y=.non/\Q (.bl (decide (x=.non))) H):=by intro d s j H x y v u Q I e i h;obtain⟨rfl,q⟩:=h;cases i;show is_none_gen (bO I q ?_);cases x<;>first|(cases e;rfl)|(obtain⟨t,rfl⟩:=e;rfl)
def Bk:lg X (compareOp .IsNot) (λx y H Q=>y=.non/\Q (.bl (!decide (x=.non))) H):=by intro d s j H x y v u Q I e i h;obtain⟨rfl,q⟩:=h;cases i;show isnot_none_gen (bO I q ?_);cases x<;>first|(cases e;rfl)|(obtain⟨t,rfl⟩:=e;rfl)
def aG(b:Expr)(h:d≠.In:=by decide)(h2:d≠.NotIn:=by decide):behindInMarks d b=false:=by
 have e:(d==CmpOp.In)=false:=by cases d<;>first|rfl|show absurd () h
 have i:(d==CmpOp.NotIn)=false:=by cases d<;>first|rfl|show absurd () h2
 cases b<;>simp[behindInMarks,e,i]
def bS(i:lg X (compareOp e) r)(j:PE X a f)(m:PE X b g)(hm:behindInMarks e b=false):PE X (.Compare a [e] [b] l) (KA r f g):=by intro d s k H Q I h;show wpAny_Compare1 (Kk j m I h λv u n x y o p t w q=>i d n k o x y v u Q p t w q) hm
def HS(t:TE):TT:=λd H Q=>t d H λx e=>∃k,x=.bl k/\Q k e
def aD(m:lg X (compareOp j) r)(n:PE X a f)(o:PE X b g)(hm:behindInMarks j b=false):PT X (.Compare a [j] [b] l) (HS (KA r f g)):=by
 intro d s i H Q I h;show wpAny_isTrue_Compare1 (cy (n d s i H _ I h) λv p⟨x,q,I1,t,w⟩=>cy (o d p i q _ I1 w) λu A⟨y,B,C,r2,D⟩=>cy (m d A i B x y v u _ C t r2 D) λc J⟨z,E,F,r3,k,e,G⟩=>?_) hm
 subst e;cases r3;show th (E,F,G,)
def C8(r h:R2)(f g tc:TE):TE:=λd H Q=>f d H λx i=>g d i λy j=>r x y j λz e=>∃k,z=.bl k/\(if k=true then tc d e λm n=>h y m n Q else Q (.bl false) e)
def ui(w:lg X (compareOp o) r)(n:lg X (compareOp j) A)(B:PE X a f)(C:PE X b g)(hc:PE X c tc)(hm:lastMarks [o,j] [b,c]=false:=by with_unfolding_all rfl):PE X (.Compare a [o,j] [b,c] l) (C8 r A f g tc):=by
 intro i s m H Q I h;show Compare_chain (cy (B i s m H _ I h) λv D⟨x,E,I1,F,G⟩=>chain_link (cy (C i D m E _ I1 G) λu J⟨y,K,L,r2,M⟩=>cy (w i J m K x y v u _ L F r2 M) λd N⟨z,p,q,r3,k,e,t⟩=>?_)) hm
 subst e;cases r3;show th ?_;cases k with|false=>show ite_ff {.bl false,p,q,(),t}|true=>show ite_tt (chain_last (cy (hc i N m p _ q t) λO P⟨R,S,T,U,V⟩=>n i P m S y R u O Q T r2 U V))
def yM(A:lg X (compareOp p) r)(n:lg X (compareOp j) B)(C:PE X a f)(D:PE X b g)(hc:PE X c tc)(hm:lastMarks [p,j] [b,c]=false:=by with_unfolding_all rfl):PT X (.Compare a [p,j] [b,c] l) (HS (C8 r B f g tc)):=by
 intro i s m H Q I h;show isTrue_chain (cy (C i s m H _ I h) λv E⟨x,F,I1,G,J⟩=>test_link (cy (D i E m F _ I1 J) λu K⟨y,L,M,r2,N⟩=>cy (A i K m L x y v u _ M G r2 N) λd O⟨z,q,t,r3,k,e,w⟩=>?_)) hm
 subst e;cases r3;show th ?_;cases k with|false=>obtain⟨k',P,R⟩:=w;cases P;show ite_ff (q,t,R,)|true=>show ite_tt (test_last (cy (hc i O m q _ t w) λS T o=>?_));obtain⟨U,V,W,Y,Z⟩:=o;show cy (n i T m V y U u S _ W r2 Y Z) λd' s5 o=>?_;obtain⟨z2,H5,I5,r5,k2,e2,q5⟩:=o;subst e2;cases r5;show th (H5,I5,q5,)
def Ko(K:O6)(x:V)(H:Hp)(k:Bool):Prop:=match x with|.non=>k=false|.bl b=>k=b|.int i=>k=(i !=0)|.str y=>y.length<=sizeLine/\k=((y.length:Int)!=0)|.byt y=>y.size<=sizeLine/\k=((y.size:Int)!=0)|.ref p=>(∃d,aR K H p d/\k=!d.isEmpty)\/(∃d,aY K H p d/\k=!d.isEmpty)\/∃e,H p=some (.dK e)/\k=!e.isEmpty|_=>False
def AC(r:KV d e):(!e.isEmpty)=!d.isEmpty:=by cases r<;>rfl
def uG(r:aZ e d):(!d.toArray.isEmpty)=!e.isEmpty:=by cases r<;>simp
def qA:(sizeLine:Nat)<2^63:=by rw[mo];decide
def Iy:M8 X (λx H Q=>∃k,Ko X.K x H k/\Q k H):=by intro C s G H x v Q I u h;obtain⟨k,e,q⟩:=h;have J:=qA;have L:sizeLine=16777216:=mo;cases x with|non=>cases u;have d:k=false:=e;subst d;show truthy_none (H,I,q,)|bl b=>cases u;have d:k=b:=e;subst d;show th (H,I,q,)|int i=>obtain⟨t,rfl⟩:=u;have d:k=(i !=0):=e;subst d;show PySem.P.truthy_int (H,I,q,)|str y=>obtain⟨t,rfl⟩:=u;obtain⟨E,d⟩:y.length<=sizeLine/\k=((y.length:Int)!=0):=e;subst d;show PySem.P.truthy_str (by lia) {H,I.tok _,q}|byt y=>obtain⟨t,rfl⟩:=u;obtain⟨E,d⟩:y.size<=sizeLine/\k=((y.size:Int)!=0):=e;subst d;show PySem.W.truthy_bytes (by lia) {H,I.tok _,q}|ref p=>
  cases u;have d:(∃o,aR X.K H p o/\k=!o.isEmpty)\/(∃o,aY X.K H p o/\k=!o.isEmpty)\/∃j,H p=some (.dK j)/\k=!j.isEmpty:=e;rcases d with⟨o,z,d⟩|⟨o,z,d⟩|⟨j,z,d⟩
  ·subst d;obtain⟨B,r,pl,D⟩:=I.list z;have n:=r.length;show wpAny_truthy_list pl.isList (by simp only[m_];lia) {H,I.tok _,by rw[uG r];show q}
  ·subst d;obtain⟨B,r,pl,D⟩:=I.tuple z;have n:=r.length;show truthy_tuple pl (by simp only[m_];lia) {H,I.tok _,by rw[uG r];show q}
  ·subst d;obtain⟨D,F,A,r,m⟩:j.length<=sizeLine/\(p==sysModules)=false/\∃A,KV j A/\s.heap.DictOf (aU X.prog X.w) p A:=I.hok p _ z;have n:j.length=A.length:=Paired.length r;show wpAny_truthy_dict F m (by lia) {H,I.tok _,by rw[AC r];show q}|_=>show(show False from e).elim
def DU(m:PE X a f)(n:∀d,isTrue a X.env d=(do let v<-d;standAt a.pos;holding [v] (truthy v))):PT X a (λi H Q=>f i H λx j=>∃k,Ko X.K x j k/\Q k j):=by intro e s i H Q I h;show isTrue_plain (cy (m e s i H _ I h) λv o⟨x,p,I1,q,r⟩=>Iy e o i p x v Q I1 q r) (n _)
def jd:lg X (binaryOp .Add) (λx y H Q=>∃i j,x=.str i/\y=.str j/\i.length+j.length<=sizeLine/\Q (.str (i++j)) H):=by intro d s o H x y v u Q I e k h;obtain⟨i,j,rfl,rfl,m,q⟩:=h;obtain⟨t,rfl⟩:=e;obtain⟨n,rfl⟩:=k;show add_str (λn tk=>{.str (i++j),H,I.tok _,{_,()},q}) m
def jY(r:aZ [x] d):∃u,d=[u]/\aV x u:=by cases r with|cons e r2=>cases r2;show{_,(),e}
def wc(r:aZ [x,y] e):∃u d,e=[u,d]/\aV x u/\aV y d:=by cases r with|cons h r2=>cases r2 with|cons r3 i=>cases i;show{_,_,(),h,r3}
def CK(hc:X.calm=true):dy X (.builtin "max") (λe H Q=>∃i j,e=[.int i,.int j]/\Q (.int (if j>i then j else i)) H):=by
 intro m s n H e o Q I r h;obtain⟨i,j,rfl,q⟩:=h;obtain⟨u,p,rfl,⟨t,rfl⟩,⟨v,rfl⟩⟩:=wc r;show max_two_ints (I.ok.hd hc) λh' tk k=>{_,H,I.kept k,?_,q}
 by_cases d:j>i
 ·rw[md d,md d];show{_,()}
 ·rw[me d,me d];show{_,()}
def qP(hc:X.calm=true):dy X (.builtin "min") (λe H Q=>∃i j,e=[.int i,.int j]/\Q (.int (if j<i then j else i)) H):=by
 intro m s n H e o Q I r h;obtain⟨i,j,rfl,q⟩:=h;obtain⟨u,p,rfl,⟨t,rfl⟩,⟨v,rfl⟩⟩:=wc r;show min_two_ints (I.ok.hd hc) λh' tk k=>{_,H,I.kept k,?_,q}
 by_cases d:j<i
 ·rw[md d,md d];show{_,()}
 ·rw[me d,me d];show{_,()}
def Mj(K:O6)(x:V)(H:Hp)(n:Nat):Prop:=match x with|.str y=>y.length<=sizeLine/\n=y.length|.byt y=>y.size<=sizeLine/\n=y.size|.ref p=>(∃d,aR K H p d/\n=d.length)\/∃d,aY K H p d/\n=d.length|_=>False
def Fq:dy X (.builtin "len") (λd H Q=>∃x n,d=[x]/\Mj X.K x H n/\Q (.int n) H):=by
 intro w s B H d C Q I r h;obtain⟨x,n,rfl,e,q⟩:=h;obtain⟨u,rfl,k⟩:=jY r;have D:=qA;have E:sizeLine=16777216:=mo;cases x with|str y=>obtain⟨t,rfl⟩:=k;obtain⟨z,j⟩:y.length<=sizeLine/\n=y.length:=e;subst j;show len_str (by lia) {.int _,H,I.tok _,{_,()},q}|byt y=>obtain⟨t,rfl⟩:=k;obtain⟨z,j⟩:y.size<=sizeLine/\n=y.size:=e;subst j;show PySem.W.len_bytes (by lia) {.int _,H,I.tok _,{_,()},q}|ref p=>
  cases k;have j:(∃d,aR X.K H p d/\n=d.length)\/∃d,aY X.K H p d/\n=d.length:=e;rcases j with⟨d,m,j⟩|⟨d,m,j⟩
  ·subst j;obtain⟨o,v,pl,A⟩:=I.list m;have i:=v.length;show Calls.call_len_list pl.isList (by simp only[m_];lia) {.int d.length,H,I.tok _,{_,by simp only[m_];rw[i]},q}
  ·subst j;obtain⟨o,v,pl,A⟩:=I.tuple m;have i:=v.length;show len_tuple pl (by simp only[m_];lia) {.int d.length,H,I.tok _,{_,by simp only[m_];rw[i]},q}|_=>show(show False from e).elim
def zG:dy X (.builtin "divmod") (λd H Q=>∃i j,d=[.int i,.int j]/\fW i j/\∀p,H p=none->Q (.ref p) (aH H p (.tup [.int (i/j),.int (i%j)]))):=by intro k s m H d n Q I r h;obtain⟨i,j,rfl,⟨h1,h2⟩,q⟩:=h;obtain⟨u,v,rfl,⟨t,rfl⟩,⟨w,rfl⟩⟩:=wc r;show divmod_int (by lia) ?_ (.inl (PyProof.noPylong_small (by lia)));rw[N1 i (by lia),Int.fmod_eq_emod_of_nonneg i (by lia)];have hn:H s.heap.objs.size=none:=I.hok.fresh (e_ _);show{.ref s.heap.objs.size,_,?_,(),q _ hn};show I.laid (λb o e=>d_ _ e) (e_ _) {by simp only[o_,O3];rw[mo];decide,[.int (i/j) s.toks,.int (i%j) (s.toks+1)],.cons {_,()} (.cons {_,()} .nil),?_};show{_,j_ s.heap (),(),0,()}
end
structure AW(h:Heap)(x dx C:Addr)(mA:O9):Prop where
 obj:h.get? x=some (PySem.W.instObj C dx)ns:h.Ns1 dx mA
 ne:dx≠x
def Cq{h:Heap}{dx:Addr}{d:O9}(n:h.Ns1 dx d):∃f,h.get? dx=some f/\∀c,PySem.W.lookIn c f=some (d c):=by
 obtain⟨o,es,ep,g,hd,i,_,hm⟩:=n;show{o,g,λc=>?_};have e:=hm c;unfold nsFind findBy at e;rw[<-Array.find?_toList]at e;unfold PySem.W.lookIn;rw[hd];dsimp only
 split
 ·rename_i y q;rw[q]at e;show r_ some e
 ·rename_i q;rw[q]at e;have a:es.toList.any (·.refKey)=false:=by rw[OQ];intro y j;obtain⟨z,t,b⟩:=i y (Array.mem_toList_iff.mp j);simp[DictEntry.refKey,b]
  have k:¬es.toList.any (·.refKey)=true:=by rw[a];show nn
  rw[me k];show r_ some e
def AW.look(I:AW h x dx C d):∃c,PySem.W.InstAt h x (PySem.W.instObj C dx) C (some c)/\∀a,PySem.W.lookIn a c=some (d a):=let⟨c,b,e⟩:=Cq I.ns
 {c,{I.obj,(),(),b},e}
section
variable{prog:Pa}{w:World}{A:Around}{E:O7}{s:Shared}{K:O6}{x dx C f:Addr}{e:O9}{c:Str}{v:Value}
def Hm(X:K.In s.heap)(I:AW s.heap x dx C e)(hg:PySem.W.plainGet K C c=true)(hh:PySem.W.hasDictIn K C=true)(g:PySem.W.findIn K (.ref C) c=some none)(i:e c=some v)(a:PySem.W.handedIn v=true)(h:Q v {s with toks:=s.toks+1}):wpAny (model prog w) A (getAttr (.ref x) c d) Q E s:=by obtain⟨j,J,b⟩:=I.look;show PySem.W.get_value X J (PySem.W.plainGet_of hg).1 (PySem.W.findObj_own hh g () (by rw[b,i])) a h
def EZ(X:K.In s.heap)(I:AW s.heap x dx C e)(hg:PySem.W.plainGet K C c=true)(a:PySem.W.findIn K (.ref C) c=some (some (.ref f)))(d:PySem.W.isFn K (.ref f)=true)(g:e c=none)(h:Q (.ref f,[.ref x]) s):wpAny (model prog w) A (getMethod (.ref x) c pl) Q E s:=by obtain⟨b,J,i⟩:=I.look;show PySem.W.method_fn X J (PySem.W.plainGet_of hg).1 (PySem.W.plainGet_of hg).2 a (beq_iff_eq.mp d) (by change(PySem.W.lookIn c b).map (·.isSome)=some false;rw[i,g];rfl) h
def iy(X:K.In s.heap)(I:AW s.heap x dx C e)(m:PySem.W.findIn K (.ref C) "__setattr__"=some (some (.builtin "object.__setattr__")))(n:PySem.W.plainOver K C=true)(o:PySem.W.takerIn K C c=some none)(hh:PySem.W.hasDictIn K C=true)(p:PySem.Within e ns)(q:ns.length<=sizeLine)(h:∀h',AW h' x dx C (λy=>if y=c then some v else e y)->Heap.SameBut dx s.heap h'->Q Unit.unit {s with heap:=h',toks:=s.toks+2}):wpAny (model prog w) A (setAttr (.ref x) c v) Q E s:=by obtain⟨B,J,D⟩:=I.look;show PySem.W.set_plain X J m (PySem.W.osa_open (s:={s with toks:=s.toks+1}) (r:=none) X J n o λb=>?_);obtain⟨cd,hc,i⟩:=PySem.W.any_some hh;have t:s.heap.get? x=some {.ref C,some dx,.plain,#[]}:=I.obj;show a_ (f_ (a_ (a_ (wpAny_loadPart t (a_ (PySem.W.Looks.here (s:={s with toks:=s.toks+1}) (PySem.W.looks_clsIn X hc) ?_))))));rw[i];show f_ (a:=some dx) (a_ (f_ (a_ ?_)));show wpAny_nsSet1 (s:={s with toks:=s.toks+1}) I.ns λh' d g=>?_;obtain⟨F,u,z,j,k,l⟩:=d.count (PySem.Within.cons c v p);show a_ (wpAny_lookBehind j (by rw[k];show pastItsLine_dict (nr l (by rw[o_];lia))) ?_);show f_ (h _ {(g.2 _ (p_ I.ne)).trans I.obj,d,I.ne} g)
def Ew(X:K.In s.heap)(hm:PySem.W.makesIn K C=true)(hi:PySem.W.findIn K (.ref C) "__init__"=some (some (.ref f)))(j:PySem.W.typeIn K (.ref f)=some (.type "function"))(h:codeAny (model prog w) (A.under (.builtin "type.__call__" {.ref C::a,i})) (.call (.ref f) {.ref (s.heap.objs.size+1)::a,i}) (PySem.W.InitBack (s.heap.objs.size+1) R) {s with heap:=(s.heap.push PySem.W.emptyDict).push (PySem.W.instObj C s.heap.objs.size)}):codeAny (model prog w) A (.call (.ref C) (a,i,)) R s:=by obtain⟨hh,g,d,t,os⟩:=s;show PySem.W.make_core (PySem.W.makes_of X hm) (PySem.W.looks_findIn X hi) (λself=>PySem.W.bind_fn X self j) (.inl ()) h
end
def gF(f:Str)(v:V):List (Str×V)->List (Str×V)|[]=>[(f,v)]|(g,x)::r=>if g=f then(g,v)::r else(g,x)::gF f v r
theorem rC(f g:Str)(v:V):∀fs:List (Str×V),(gF f v fs).lookup g=if g=f then some v else fs.lookup g
 |[]=>by
  change List.lookup g [(f,v)]=_
  by_cases h:g=f
  ·have a:(g==f)=true:=beq_iff_eq.mpr h;simp only[List.lookup,a,md h]
  ·have a:(g==f)=false:=I_.mpr h;simp only[List.lookup,a,me h]|(k,x)::r=>by
  have c:=rC f g v r;rw[show gF f v ((k,x)::r)=(if k=f then(k,v)::r else(k,x)::gF f v r)from ()]
  by_cases b:k=f
  ·rw[md b]
   by_cases h:g=k
   ·have a:(g==k)=true:=beq_iff_eq.mpr h;simp only[List.lookup,a,md (h.trans b)]
   ·have a:(g==k)=false:=I_.mpr h;simp only[List.lookup,a,me (λe:g=f=>h (e.trans b.symm))]
  ·rw[me b]
   by_cases h:g=k
   ·have a:(g==k)=true:=beq_iff_eq.mpr h;simp only[List.lookup,a,me (λe:g=f=>b (h.symm.trans e))]
   ·have a:(g==k)=false:=I_.mpr h;simp only[List.lookup,a];show c
theorem qI(f:Str)(v:V):∀fs:List (Str×V),f∈(gF f v fs).map (·.1)/\∀g,g∈fs.map (·.1)->g∈(gF f v fs).map (·.1)
 |[]=>{by simp[gF],λg h=>by simp at h}|(k,x)::r=>by
  obtain⟨b,c⟩:=qI f v r;rw[show gF f v ((k,x)::r)=(if k=f then(k,v)::r else(k,x)::gF f v r)from ()]
  by_cases a:k=f
  ·rw[md a];subst a;show{by simp,λg h=>by simpa using h}
  ·rw[me a];show{?_,λg h=>?_}
   ·rw[o8];show np _ b
   ·rw[o8]at h⊢;rcases vu.mp h with e|e
    ·show vu.mpr (.inl e)
    ·show np _ (c g e)
theorem rE(f:Str)(v:V):∀fs:List (Str×V),(gF f v fs).length<=fs.length+1
 |[]=>by simp[gF]|(k,x)::r=>by
  have b:=rE f v r;rw[show gF f v ((k,x)::r)=(if k=f then(k,v)::r else(k,x)::gF f v r)from ()]
  by_cases a:k=f
  ·rw[md a,o_,o_];lia
  ·rw[me a,o_,o_];lia
def kM.some_of(r:kM (some v) o):∃u,o=some u/\aV v u:=by cases o with|none=>show(show False from r).elim|some u=>show{u,(),r}
def kM.none_of(r:kM none o):o=none:=by cases o with|none=>rfl|some u=>show(show False from r).elim
def CA(r:aV v u):PySem.W.handedIn u=true:=by cases v with|non=>cases(show u=Value.none from r);rfl|bl b=>cases(show u=Value.bool b from r);rfl|int i=>obtain⟨t,e⟩:=(show∃t,u=Value.int i t from r);cases e;rfl|str x=>obtain⟨t,e⟩:=(show∃t,u=Value.str x t from r);cases e;rfl|byt b=>obtain⟨t,e⟩:=(show∃t,u=Value.bytes b t from r);cases e;rfl|flt b=>obtain⟨t,e⟩:=(show∃t,u=Value.float b t from r);cases e;rfl|ref a=>cases(show u=Value.ref a from r);rfl|ty n=>cases(show u=Value.type n from r);rfl
section
variable{P:Pa}{w:World}{H:Hp}{h:Heap}{a C dx:Addr}{fs:List (Str×V)}
def sM(hok:lG P w H h)(e:H a=some (.ins C dx fs)):∃i,AW h a dx C i/\(∀f,kM (fs.lookup f) (i f))/\PySem.Within i (fs.map (·.1))/\fs.length<=1000/\H dx=some (.own a):=by obtain⟨d,z,ne,ob,i,n,r,q⟩:=(show dw P w H h a (.ins C dx fs)from hok a _ e);show{i,(ob,n,ne,),r,q,z,d}
end
structure yg(K:O6)(C:Addr):Prop where
 pg:PySem.W.plainGet K C Str.empty=true
 hd:PySem.W.hasDictIn K C=true
 po:PySem.W.plainOver K C=true
 sa:PySem.W.findIn K (.ref C) "__setattr__"=some (some (.builtin "object.__setattr__"))
def yg.get{K:O6}{C:Addr}(c:yg K C)(f:Str):PySem.W.plainGet K C f=true:=c.pg
def cb(K:O6)(C:Addr)(f:Str):Prop:=PySem.W.findIn K (.ref C) f=some none
def cb.taker{K:O6}{C:Addr}{f:Str}(n:cb K C f):PySem.W.takerIn K C f=some none:=by unfold PySem.W.takerIn;rw[show PySem.W.findIn K (.ref C) f=some none from n];rfl
structure FI(K:O6)(C:Addr)(m:Str)(f:Addr):Prop where
 at_:PySem.W.findIn K (.ref C) m=some (some (.ref f))fn:PySem.W.isFn K (.ref f)=true
 kp:PySem.W.keepIn K (.ref f)=true
section
variable{X:Cx}{d:O8}{i:St}{H:Hp}{s:Shared}{a C dx:Addr}{fs:List (Str×V)}{f:Str}{v:V}{A:Around}{E:O7}
def AH(I:aO X d i H s)(e:H a=some (.ins C dx fs))(c:yg X.K C)(n:cb X.K C f)(l:fs.lookup f=some v)(h:∀u g,aO X d i H g->aV v u->Q u g):wpAny (model X.prog X.w) A (getAttr (.ref a) f b) Q E s:=by obtain⟨j,O,r,_,_,_⟩:=sM I.hok e;obtain⟨u,k,ru⟩:=kM.some_of (v:=v) (o:=j f) (by rw[<-l];show r f);show Hm I.kIn O (c.get f) c.hd n k (CA ru) (h u _ (I.tok _) ru)
def oy(I:aO X d i H s)(e:H a=some (.ins C dx fs))(c:yg X.K C)(k:FI X.K C m g)(l:fs.lookup m=none)(h:Q (.ref g,[.ref a]) s):wpAny (model X.prog X.w) A (getMethod (.ref a) m pl) Q E s:=by obtain⟨b,O,r,_,_,_⟩:=sM I.hok e;have hn:b m=none:=kM.none_of (by rw[<-l];show r m);show EZ I.kIn O (c.get m) k.at_ k.fn hn h
def zX(I:aO X d i H s)(e:H a=some (.ins C dx fs))(c:yg X.K C)(n:cb X.K C f)(J:fs.length<1000)(t:aV y u)(h:∀l,aO X d i (aH H a (.ins C dx (gF f y fs))) l->Q Unit.unit l):wpAny (model X.prog X.w) A (setAttr (.ref a) f u) Q E s:=by
 obtain⟨k,O,r,m,_,p⟩:=sM I.hok e;have B:(fs.map (·.1)).length<=sizeLine:=by rw[b_,mo];lia
 show iy I.kIn O c.sa c.po n.taker c.hd m B λh' j D=>h _ ?_;have hd:∃o,h'.get? dx=some o:=let⟨o,_,_,F,_⟩:=j.ns;(o,F,);show I.write (x:=a) (e:=dx) (by rw[e];show True.intro) (.inr p) (λb q G z=>(D.2 b G).trans z) hd ?_;show{by rw[ak O.ne];show p,?_,O.ne,j.obj,_,j.ns,λg=>?_,λg hg=>?_}
 ·have:=rE f y fs;lia
 ·change kM ((gF f y fs).lookup g) (if g=f then some u else k g);rw[rC]
  by_cases q:g=f
  ·rw[md q,md q];show t
  ·rw[me q,me q];show r g
 ·by_cases q:g=f
  ·rw[q];show(qI f y fs).1
  ·show(qI f y fs).2 g (m g λz=>hg ?_);change(if g=f then some u else k g)=none;rw[me q];show z
def aO.made(I:aO X d i H s):aO X d i (aH (aH H s.heap.objs.size (.own (s.heap.objs.size+1))) (s.heap.objs.size+1) (.ins C s.heap.objs.size [])) {s with heap:=(s.heap.push PySem.W.emptyDict).push (PySem.W.instObj C s.heap.objs.size)}:=by
 have c:(s.heap.push PySem.W.emptyDict).get? s.heap.objs.size=some PySem.W.emptyDict:=j_ s.heap ();have g:((s.heap.push PySem.W.emptyDict).push (PySem.W.instObj C s.heap.objs.size)).get? (s.heap.objs.size+1)=some (PySem.W.instObj C s.heap.objs.size):=by
  have:=j_ (s.heap.push PySem.W.emptyDict) (o:=PySem.W.instObj C s.heap.objs.size) ()
  rwa[rf]at this
 have h:(s.heap.push PySem.W.emptyDict).Ns s.heap.objs.size (λ_=>none):={PySem.W.emptyDict,#[],_,c,(),(λe j=>absurd j (by simp)),λ_=>()};have I1:=I.laid (a:=s.heap.objs.size) (o:=.own (s.heap.objs.size+1)) (h':=s.heap.push PySem.W.emptyDict) (t':=s.toks) (λb u q=>d_ _ q) (e_ _) {_,c};show I1.laid (a:=s.heap.objs.size+1) (o:=.ins C s.heap.objs.size []) (t':=s.toks) (λb u q=>d_ _ q) (ON (rf _ _)) ?_;have ne:s.heap.objs.size≠s.heap.objs.size+1:=nB (w_ _);show{by rw[ak ne,ae],ov _,ne,g,λ_=>none,(Heap.Ns1.of_empty h).at λo q=>d_ _ q,λ_=>True.intro,λy l=>absurd () l}
def HC(c:attributeBase e f env (eval e env)=eval e env)(h:wpAny (model prog w) A (eval e env) (λo s₁=>wpAny (model prog w) A (getAttr o f true) Q E s₁) E s):wpAny (model prog w) A (eval (.Attribute e f g) env) Q E s:=Attribute_any_ h (by rw[arm_eval_Attribute,c])
end
def K6(K:O6)(c:TE)(f:Str):TE:=λd H Q=>c d H λx b=>∃a C dx fs v,x=.ref a/\b a=some (.ins C dx fs)/\yg K C/\cb K C f/\fs.lookup f=some v/\Q v b
def Lm(K:O6)(d e:TE)(f:Str):TS:=λD b H=>e b H λy g=>d b g λx c=>∃a C dx fs,x=.ref a/\c a=some (.ins C dx fs)/\yg K C/\cb K C f/\fs.length<1000/\D.nx b (aH c a (.ins C dx (gF f y fs)))
section
variable{X:Cx}{o e d:Expr}{f:Str}{i g:Pos}{j m:TE}
def Jx(r:PE X e j)(t:attributeBase e f X.env (eval e X.env)=eval e X.env):PE X (.Attribute e f i) (K6 X.K j f):=by intro b s k H Q I h;show HC t (cy (r b s k H _ I h) λu D w=>?_);obtain⟨x,y,I1,z,a,C,dx,fs,v,ex,A,c,n,l,q⟩:=w;subst ex;obtain rfl:u=Value.ref a:=z;show AH I1 A c n l λE F B ru=>(v,y,B,ru,q,)
def Jq(r:PE X o j)(t:PE X d m)(v:swapsWith d (some (.Attribute o f g)) i.line X.env=pure false):PS X (.Assign [.Attribute o f g] d i) (Lm X.K j m f):=by intro b s k H D I h;show plainObj_wpAny_Assign_Attribute (cy (t b s k H _ I h) λu w⟨y,z,I1,A,q⟩=>cy (r b w k z _ I1 q) λB M⟨x,N,E,F,a,C,dx,fs,ex,G,c,n,l,J⟩=>?_) v;subst ex;obtain rfl:B=Value.ref a:=F;show zX E G c n l A λO L=>{k,_,L,J}
end
section
variable{X:Cx}{d:O8}{f:St}{H:Hp}{s:Shared}{A:Around}{E:O7}{Q:O7}{c:Value}{b:Bool}
inductive mx(K:O6)(H:Hp):V->Value->Prop where|non:mx K H .non (.type "NoneType")|bl(x:Bool):mx K H (.bl x) (.type "bool")|int(i:Int):mx K H (.int i) (.type "int")|str(x:Str):mx K H (.str x) (.type "str")|flt(x:UInt64):mx K H (.flt x) (.type "float")|lst{a:Addr}{xs:List V}(e:H a=some (.lst xs)):mx K H (.ref a) (.type "list")|frz{a:Addr}{o:Obj}{xs:List V}(e:H a=some (.frz o (.lst xs))):mx K H (.ref a) (.type "list")|tup{a:Addr}{xs:List V}(e:H a=some (.tup xs)):mx K H (.ref a) (.type "tuple")|dK{a:Addr}{kvs:List (bZ×V)}(e:H a=some (.dK kvs)):mx K H (.ref a) (.type "dict")|dT{a:Addr}{kvs:List (List bZ×V)}(e:H a=some (.dT kvs)):mx K H (.ref a) (.type "dict")|ins{a C dx:Addr}{fs:List (Str×V)}(e:H a=some (.ins C dx fs))(cl:yg K C)(ha:PySem.W.findIn K (.ref C) "__class__"=some (some (.builtin "object.__class__")))(hn:PySem.W.specialIn K (.builtin "object.__class__") "__get__"=some (some (.builtin "getset_descriptor.__get__")))(htk:PySem.W.takesIn K (.builtin "object.__class__")=some true)(hm:PySem.W.mroIn K C (.type "object")=some true):mx K H (.ref a) (.ref C)
def Cv(I:aO X d f H s)(g:aV x u)(ty:mx X.K H x t)(e:PySem.W.kitOne X.K t c=some b)(h:∀tk,Q (.bool b) {s with toks:=tk}):wpAny (model X.prog X.w) A (call (.builtin "isinstance") [u,c]) Q E s:=by cases ty with|non=>cases(show u=Value.none from g);show PySem.W.kia_one PySem.W.kitx_none I.kIn True.intro e (nofun) h|bl y=>cases(show u=Value.bool y from g);show PySem.W.kia_one PySem.W.kitx_bool I.kIn True.intro e (nofun) h|int i=>obtain⟨t,q⟩:=(show∃t,u=Value.int i t from g);cases q;show PySem.W.kia_one PySem.W.kitx_int I.kIn True.intro e (nofun) h|str y=>obtain⟨t,q⟩:=(show∃t,u=Value.str y t from g);cases q;show PySem.W.kia_one PySem.W.kitx_str I.kIn True.intro e (nofun) h|flt y=>obtain⟨t,q⟩:=(show∃t,u=Value.float y t from g);cases q;show PySem.W.kia_one PySem.W.kitx_float I.kIn True.intro e (nofun) h|@lst a l j=>cases(show u=Value.ref a from g);obtain⟨_,_,n,_,h1⟩:=(show dw X.prog X.w H s.heap a (.lst l)from I.hok a _ j);show PySem.W.kia_one PySem.W.kitx_list I.kIn {_,h1,()} e (nofun) h|@frz a ob l j=>cases(show u=Value.ref a from g);obtain⟨_,_,_,n,_,h1⟩:=(show dw X.prog X.w H s.heap a (.frz ob (.lst l))from I.hok a _ j);show PySem.W.kia_one PySem.W.kitx_list I.kIn {_,h1,()} e (nofun) h|@tup a l j=>cases(show u=Value.ref a from g);obtain⟨_,_,_,p⟩:=(show dw X.prog X.w H s.heap a (.tup l)from I.hok a _ j);obtain⟨o,h1,h2,_⟩:=p;show PySem.W.kia_one PySem.W.kitx_tuple I.kIn (o,h1,h2,) e (nofun) h|@dK a k j=>cases(show u=Value.ref a from g);obtain⟨_,_,v,_,p⟩:=(show dw X.prog X.w H s.heap a (.dK k)from I.hok a _ j);obtain⟨o,es,ep,h1,h2,_⟩:=p;show PySem.W.kia_one PySem.W.kitx_dict I.kIn (o,h1,h2.1,) e (nofun) h|@dT a k j=>cases(show u=Value.ref a from g);obtain⟨_,_,l,_,o,es,ep,h1,h2,_⟩:=(show dw X.prog X.w H s.heap a (.dT k)from I.hok a _ j);show PySem.W.kia_one PySem.W.kitx_dict I.kIn (o,h1,h2.1,) e (nofun) h|@ins a C dx fs j cl r hn m hm=>cases(show u=Value.ref a from g);obtain⟨B,O,_⟩:=sM I.hok j;obtain⟨D,J,_⟩:=O.look;show PySem.W.kia_one (PySem.W.kitx_own (cl.get _) cl.hd r hn m hm) I.kIn J e (nofun) h
end
structure eV(k:Nat)(A:Around):Prop where
 hd:A.handled=none
 dp:A.depth+3*k+5<recursionLimit
 un:A.units+16*k+200<cLine
def eV.mono{j k:Nat}{A:Around}(r:eV k A)(h:j<=k):eV j A:={r.hd,by have:=r.dp;lia,by have:=r.un;lia}
theorem eV.deeper(r:eV (k+1) A)(env:Env):eV k (A.deeper env):={r.hd,by have:=r.dp;change A.depth+1+3*k+5<_;lia,by have:=r.un;change A.units+3+16*k+200<_;lia}
def Ay{A:Around}{C:Addr}{a:O_}{c:List (Str×Value)}:(A.under (.builtin "type.__call__" {.ref C::a,c})).depth=A.depth+1:=by first|rfl|simp[Around.under,Code.weight,Code.isCreation,Code.isGuard,Code.isCaller,Code.frames,Code.isFrame,guardIds]
def Ax{A:Around}{C:Addr}{a:O_}{c:List (Str×Value)}:(A.under (.builtin "type.__call__" {.ref C::a,c})).units=A.units+1:=by first|rfl|simp[Around.under,Code.cUnits,Code.frames,Code.isFrame]
def eV.make(r:eV (k+1) A)(C:Addr)(a:O_)(c:List (Str×Value)):eV k (A.under (.builtin "type.__call__" {.ref C::a,c})):={r.hd,by have:=r.dp;rw[Ay];lia,by have:=r.un;rw[Ax];lia}
theorem eV.depth{k:Nat}{A:Around}(r:eV k A):A.depth<recursionLimit:=by have:=r.dp;lia
theorem eV.units{k:Nat}{A:Around}(r:eV k A):A.units+64<cLine:=by have:=r.un;lia
def K3:TA:=λ_ H Q=>Q [] H
def K9(c:TE)(tr:TA):TA:=λa H Q=>c a H λx b=>tr a b λd e=>Q (x::d) e
section
variable{X:Cx}{e:Expr}{es:Pc}{te:TE}{t:TA}{a:Pos}
def O:PA X [] K3:=λ_ _ _ _ H Q I h=>z_ {[],H,I,.nil,h}
def ac(f:PE X e te)(g:PA X es t)(i:starEach (e::es) X.env=(false,eval e X.env)::starEach es X.env:=by rfl):PA X (e::es) (K9 te t):=by intro a b s d H Q I h;rw[i];change wpAny _ _ (spliced ((false,eval e X.env)::backTo a (starEach es X.env))) _ _ s;show to (cy (f b s d H _ I h) λu j c=>?_);obtain⟨x,k,I1,l,m⟩:=c;show cy (g a b j d k _ I1 m) λr v c=>?_;obtain⟨n,o,p,r2,q⟩:=c;show{x::n,o,p,.cons l r2,q}
def MF(t:TA):TE:=λd H Q=>t d H λb c=>b.length<=sizeLine/\∀p,c p=none->Q (.ref p) (aH c p (.tup b))
def MI(t:TA):TE:=λd H Q=>t d H λb c=>b.length<=sizeLine/\∀p,c p=none->Q (.ref p) (aH c p (.lst b))
def bp{g}(h:PA X es t):PE X (.Tuple es g a) (MF t):=by intro c s i H Q I j;show wpAny_Tuple_spliced (cy (h a c s i H _ I j) λk d l=>?_);obtain⟨m,f,I1,r,z,q⟩:=l;show{by rw[<-r.length];show z,?_};have n:f d.heap.objs.size=none:=I1.hok.fresh (e_ _);show{.ref d.heap.objs.size,aH f d.heap.objs.size (.tup m),I1.laid (t':=d.toks) (λb u e=>d_ _ e) (e_ _) ?_,(),q _ n};show{z,k,r,{_,j_ _ (),(),_,()}}
def bg(h:PA X es t):PE X (.List es a) (MI t):=by intro c s g H Q I i;show wpAny_List_spliced (cy (h a c s g H _ I i) λj d k=>?_);obtain⟨l,f,I1,r,z,q⟩:=k;show{by rw[<-r.length];show z,?_};have m:f d.heap.objs.size=none:=I1.hok.fresh (e_ _);show{.ref d.heap.objs.size,aH f d.heap.objs.size (.lst l),I1.laid (t':=d.toks) (λb u e=>d_ _ e) (e_ _) ?_,(),q _ m};show{z,j,0,r,j_ _ ()}
end
abbrev Sp:=List V->Hp->VK->XK->Prop
abbrev zQ:=List Env->Hp->Shared->XK->Value->Shared->Prop
structure AX(P:Pa)(w:World)(K:O6)(mg:O9)(base:Heap)(A:Around)(outer:List Env)(s:Shared)(H:Hp):Prop where
 frames:A.frames=some outer
 mod:Mi K mg base
 bs:∀b o,base.get? b=some o->s.heap.get? b=some o/\H b=none
 bsz:base.objs.size<=s.heap.objs.size
 funs:s.heap.FunFrames base outer
 frf:∀b∈jR outer,H b=none
 hok:lG P w H s.heap
 bare:AllBare s.gens
def CE(outer:List Env)(P:Pa)(w:World)(H:Hp)(s:Shared)(Q:VK)(u:Value)(a:Shared):Prop:=∃v b,a.os=s.os/\AllBare a.gens/\Un (jR outer) [] H b s.heap a.heap/\lG P w b a.heap/\aV v u/\Q v b
def CR(c:zQ)(outer:List Env)(P:Pa)(w:World)(H:Hp)(s:Shared)(Q:VK)(E:XK)(r:Result)(a:Shared):Prop:=match r with|.ok (.ret u)=>CE outer P w H s Q u a|.ok _=>False|.error e=>c outer H s E e a
structure aP(P:Pa)(w:World)(K:O6)(mg:O9)(base:Heap)(CX:zQ)(k:Nat)(f:Addr)(fd:FuncData)(ps:Pb)(sp:Sp):Prop where
 len:∀vs H Q E,sp vs H Q E->vs.length=ps.length
 run:∀(A:Around)(outer:List Env)(s:Shared)(H:Hp)(args:Args)(us:O_)(vs:List V)(Q:VK)(E:XK),eV k A->AX P w K mg base A outer s H->BindsTo s fd args (ps.zip us)->aZ vs us->sp vs H Q E->codeAny (model P w) A (.call (.ref f) args) (CR CX outer P w H s Q E) s
theorem aP.mono{P:Pa}{w:World}{K:O6}{mg:O9}{base:Heap}{c:zQ}{j k:Nat}{f:Addr}{fd:FuncData}{d:Pb}{sp:Sp}(F:aP P w K mg base c j f fd d sp)(h:j<=k):aP P w K mg base c k f fd d sp:={F.len,λA outer s H a b e Q E g=>F.run A outer s H a b e Q E (g.mono h)}
def AX.make{P:Pa}{w:World}{K:O6}{mg:O9}{base:Heap}{A:Around}{outer:List Env}{s:Shared}{H:Hp}(e:AX P w K mg base A outer s H)(C:Addr)(a:O_)(c:List (Str×Value)):AX P w K mg base (A.under (.builtin "type.__call__" {.ref C::a,c})) outer s H:={by first|show e.frames|(simpa[Around.under,Code.envs,Code.isFrame,pushEnvs]using e.frames),e.mod,e.bs,e.bsz,e.funs,e.frf,e.hok,e.bare}
section
variable{X:Cx}{a:O8}{e:St}{H:Hp}{s c:Shared}
def aO.env0(I:aO X a e H s):AX X.prog X.w X.K X.mg X.base X.A X.stack s H:={I.ok.frames,I.ok.mod,I.bs,nr I.ok.bsz I.sz,I.stack,I.stkFree,I.hok,I.bare}
def aO.after(I:aO X a e H s)(h:CE X.stack X.prog X.w H s Q u c):EP X a e Q u c:=by obtain⟨v,i,os,bare,un,hok,r,q⟩:=h;obtain⟨hh,g,d,t,f⟩:=c;obtain rfl:f=s.os:=os;show{v,i,I.call (h':=hh) (g':=g) (d':=d) (t':=t) (ch:=[]) un hok bare (λb z=>absurd z (by simp)),r,q}
end
def HU(sp:Sp)(a:List V)(E:XK)(t:TA):TE:=λb H Q=>t b H λc d=>sp (c++a) d Q E
def C7(C:Addr)(m:Str)(sp:Sp)(c:List V)(E:XK)(e:TE)(t:TA):TE:=λb H Q=>e b H λx d=>∃a dx fs,x=.ref a/\d a=some (.ins C dx fs)/\fs.lookup m=none/\t b d λf g=>sp (x::(f++c)) g Q E
def K4(C:Addr)(sp:Sp)(a:List V)(E:XK)(t:TA):TE:=λc H Q=>t c H λd b=>∀x dx,b x=none->b dx=none->dx≠x->sp (.ref x::(d++a)) (aH (aH b dx (.own x)) x (.ins C dx [])) (λv e=>v=.non/\Q (.ref x) e) E
def fX(K:O6)(fd:FuncData)(c:Pb)(ds:O_):Prop:=∀(s:Shared)(a:O_),K.In s.heap->(a++ds).length=c.length->BindsTo s fd {a,[]} (c.zip (a++ds))
def fX.all{K:O6}{fd:FuncData}{c:Pb}(h:∀a:List Value,a.length=c.length->bindArgs fd {a,[]}=pure (c.zip a)):fX K fd c []:=λs a _ b=>by rw[q4]at b⊢;show .of_eq (h a b)
def mz(c:zQ)(X:Cx)(E:XK):Prop:=∀(a:O8)(d:St)(H:Hp)(s:Shared)(e:Value)(b:Shared),aO X a d H s->c X.stack H s E e b->X.xe e b
section
variable{X:Cx}{n:zQ}{k:Nat}{f C:Addr}{fd:FuncData}{j:Pb}{sp:Sp}{g:List V}{ds:O_}{E:XK}{x m:Str}{p d i:Pos}{e o:Expr}{es:Pc}{y:TE}{t:TA}
def Ab(F:aP X.prog X.w X.K X.mg X.base n k f fd j sp)(l:eV k X.A)(q:fX X.K fd j ds)(hd:aZ g ds)(v:mz n X E)(I:aO X a c H s)(r:aZ vs us)(h:sp (vs++g) H Q E):wpAny (model X.prog X.w) X.A (call (.ref f) us) (EP X a c Q) X.xe s:=by
 have r2:aZ (vs++g) (us++ds):=r.append hd;have z:(us++ds).length=j.length:=by rw[<-r2.length];show F.len _ _ _ _ h
 show wpAny_call (E2 (F.run X.A X.stack s H {us,[]} (us++ds) (vs++g) Q E l I.env0 (q s us I.kIn z) r2 h) λr B b=>?_);cases r with|error e=>show v a c H s e B I b|ok D=>cases D with|ret u=>show I.after b|next=>show False.elim b|brk=>show False.elim b|cont=>show False.elim b
def bT(F:aP X.prog X.w X.K X.mg X.base n k f fd j sp)(u:eV k X.A)(hg:Gl X x)(hm:X.mg x=some (.ref f))(v:PySem.W.keepIn X.K (.ref f)=true)(z:fX X.K fd j ds)(hd:aZ g ds)(B:mz n X E)(D:PA X (e::es) t)(c:(x==("__debug__":Str))=false:=by decide)(G:starEach (e::es) X.env=(false,eval e X.env)::starEach es X.env:=by rfl)(l:(backTo d (starEach es X.env)).any (·.1)=false:=by rfl):PE X (.Call (.Name x p) (e::es) [] d) (HU sp g E t):=by intro a s J H Q I h;show y_ (mL I hg hm ?_ c);show PySem.W.callWith_K (h₀:=X.base) I.ok.mod.kin v (cy (D d a s J H _ I h) λL M⟨N,O,I1,r,q⟩=>{I1.kIn,?_}) G l;show Ab F u z hd B I1 r q
def aS(N:PE X o y)(c:yg X.K C)(hm:FI X.K C m f)(F:aP X.prog X.w X.K X.mg X.base n k f fd j sp)(P:eV k X.A)(R:fX X.K fd j ds)(hd:aZ g ds)(S:mz n X E)(T:PA X (e::es) t)(v:starEach (e::es) X.env=(false,eval e X.env)::starEach es X.env:=by rfl)(z:(backTo d (starEach es X.env)).any (·.1)=false:=by rfl)(Z:eval (.Call (.Attribute o m i) (e::es) [] d) X.env=(do
   let B<-eval o X.env
   standAt i.atName let(f,first)<-holding [B] (getMethod B m pl)callWith d f first (backTo d (starEach (e::es) X.env)) (backToKw d (keywordEach [] X.env))):=by rfl):PE X (.Call (.Attribute o m i) (e::es) [] d) (C7 C m sp g E y t):=by intro b s D H Q I h;show PySem.W.methodCall_KW (pl:=pl) (cy (N b s D H _ I h) λu O⟨x,U,I1,Y,a,dx,fs,ex,ea,l,q⟩=>?_) Z;subst ex;obtain rfl:u=Value.ref a:=Y;show oy I1 ea c hm l ?_;show PySem.W.callWith_K (first:=[.ref a]) (h₀:=X.base) I.ok.mod.kin hm.kp (cy (T d b O D U _ I1 q) λJ s2⟨L,H2,M,r,q2⟩=>{M.kIn,?_}) v z;show Ab (us:=.ref a::J) (vs:=.ref a::L) F P R hd S M (.cons () r) q2
def eX(v:PE X o y)(c:yg X.K C)(hm:FI X.K C m f)(F:aP X.prog X.w X.K X.mg X.base n k f fd j sp)(z:eV k X.A)(B:fX X.K fd j ds)(hd:aZ g ds)(D:mz n X E)(G:eval (.Call (.Attribute o m i) [] [] d) X.env=(do
   let r<-eval o X.env
   standAt i.atName let(f,first)<-holding [r] (getMethod r m pl)callWith d f first (backTo d (starEach [] X.env)) (backToKw d (keywordEach [] X.env))):=by rfl):PE X (.Call (.Attribute o m i) [] [] d) (C7 C m sp g E y K3):=by intro b s J H Q I h;show PySem.W.methodCall_KW (pl:=pl) (cy (v b s J H _ I h) λu N⟨x,O,I1,L,a,dx,fs,ex,M,l,q⟩=>?_) G;subst ex;obtain rfl:u=Value.ref a:=L;show oy I1 M c hm l ?_;show PySem.W.callWith_K0 (first:=[.ref a]) I1.kIn hm.kp (Ab (us:=[.ref a]) (vs:=[.ref a]) F z B hd D I1 (.cons () .nil) q)
structure Mk(K:O6)(C f:Addr):Prop where
 makes:PySem.W.makesIn K C=true
 init:PySem.W.findIn K (.ref C) "__init__"=some (some (.ref f))fn:PySem.W.isFn K (.ref f)=true
 kp:PySem.W.keepIn K (.ref C)=true
def DN(M:Mk X.K C f)(F:aP X.prog X.w X.K X.mg X.base n k f fd j sp)(D:eV (k+1) X.A)(G:fX X.K fd j ds)(hd:aZ g ds)(J:mz n X E)(I:aO X c q H s)(r:aZ z l)(h:∀x dx,H x=none->H dx=none->dx≠x->sp (.ref x::(z++g)) (aH (aH H dx (.own x)) x (.ins C dx [])) (λv L=>v=.non/\Q (.ref x) L) E):wpAny (model X.prog X.w) X.A (call (.ref C) l) (EP X c q Q) X.xe s:=by
 have B:=h (s.heap.objs.size+1) s.heap.objs.size (I.hok.fresh (t6 _)) (I.hok.fresh (e_ _)) (nB (w_ _));have b:=aO.made (C:=C) I;have r2:aZ (V.ref (s.heap.objs.size+1)::(z++g)) (Value.ref (s.heap.objs.size+1)::(l++ds)):=.cons () (r.append hd);have N:(Value.ref (s.heap.objs.size+1)::l++ds).length=j.length:=by have e:=r2.length;rw[F.len _ _ _ _ B]at e;show e.symm
 show wpAny_call (Ew (f:=f) I.kIn M.makes M.init (beq_iff_eq.mp M.fn) (E2 (F.run _ X.stack _ _ {Value.ref (s.heap.objs.size+1)::l,[]} (Value.ref (s.heap.objs.size+1)::(l++ds)) _ _ E (D.make C l []) (b.env0.make C l []) (G _ (Value.ref (s.heap.objs.size+1)::l) b.kIn N) r2 B) λr O a=>?_))
 cases r with|error e=>show J c q _ _ e O b a|ok P=>cases P with|ret u=>obtain⟨v,R,S,T,U,W⟩:=b.after a;subst U;show{T,{V.ref (s.heap.objs.size+1),R,S,(),W}}|next=>show False.elim a|brk=>show False.elim a|cont=>show False.elim a
def mI(M:Mk X.K C f)(F:aP X.prog X.w X.K X.mg X.base n k f fd j sp)(u:eV (k+1) X.A)(hg:Gl X x)(hm:X.mg x=some (.ref C))(v:fX X.K fd j ds)(hd:aZ g ds)(z:mz n X E)(B:PA X (e::es) t)(c:(x==("__debug__":Str))=false:=by decide)(D:starEach (e::es) X.env=(false,eval e X.env)::starEach es X.env:=by rfl)(l:(backTo d (starEach es X.env)).any (·.1)=false:=by rfl):PE X (.Call (.Name x p) (e::es) [] d) (K4 C sp g E t):=by intro a s G H Q I h;show y_ (mL I hg hm ?_ c);show PySem.W.callWith_K (h₀:=X.base) I.ok.mod.kin M.kp (cy (B d a s G H _ I h) λJ L⟨N,O,I1,r,q⟩=>{I1.kIn,?_}) D l;show DN M F u v hd z I1 r q
end
structure ay(N P:Pb)(sc:Scope):Prop where
 kind:sc.kind=.function
 co:sc.isCoroutine=false
 gen:sc.isGenerator=false
 nd:N.Nodup
 pre:N.take P.length=P
 par:∀x∈P,sc.names.lookup x=some .local\/sc.names.lookup x=some .cell
 nofree:∀y∈sc.names,y.2≠.free
theorem w4{kindOf:Str->Option NameKind}{x:Str}:∀{binds:List (Str×Value)}{m:O9},(∀v,(x,v)∉binds)->bindL kindOf binds m x=m x
 |[],_,_=>()|(n,v)::r,m,h=>by
  unfold bindL;rw[w4 λw a=>h w (np _ a)]
  split
  ·have:x≠n:=by rintro rfl;show h v oa
   simp[this]
  ·rfl
theorem w6{kindOf:Str->Option NameKind}{x:Str}:∀{binds:List (Str×Value)}{m:O9},(∀v,(x,v)∉binds)->bindC kindOf binds m x=m x
 |[],_,_=>()|(n,v)::r,m,h=>by
  unfold bindC;rw[w6 λw a=>h w (np _ a)]
  split
  ·rfl
  ·have:x≠n:=by rintro rfl;show h v oa
   simp[this]
theorem w5{kindOf:Str->Option NameKind}{x:Str}{v:Value}:∀{P:Pb}{a:O_}{i:Nat}{m:O9},P.Nodup->P[i]?=some x->a[i]?=some v->kindOf x=some .local->bindL kindOf (P.zip a) m x=some v|[],_,_,_,_,h,_,_=>by simp at h|_::_,[],_,_,_,_,h,_=>by simp at h|p::P,w::a,0,m,nd,h1,h2,b=>by simp at h1 h2;subst h1;subst h2;change bindL kindOf ((p,w)::P.zip a) m p=_;unfold bindL;rw[w4 λv c=>(O2.mp nd).1 (NR c).1,md b];simp|p::P,w::a,i+1,m,nd,h1,h2,b=>by change bindL kindOf ((p,w)::P.zip a) m x=_;unfold bindL;show w5 (i:=i) (O2.mp nd).2 (by simpa using h1) (by simpa using h2) b
theorem w9{kindOf:Str->Option NameKind}{x:Str}{v:Value}:∀{P:Pb}{a:O_}{i:Nat}{m:O9},P.Nodup->P[i]?=some x->a[i]?=some v->kindOf x≠some .local->bindC kindOf (P.zip a) m x=some v|[],_,_,_,_,h,_,_=>by simp at h|_::_,[],_,_,_,_,h,_=>by simp at h|p::P,w::a,0,m,nd,h1,h2,b=>by simp at h1 h2;subst h1;subst h2;change bindC kindOf ((p,w)::P.zip a) m p=_;unfold bindC;rw[w6 λv c=>(O2.mp nd).1 (NR c).1,me b];simp|p::P,w::a,i+1,m,nd,h1,h2,b=>by change bindC kindOf ((p,w)::P.zip a) m x=_;unfold bindC;show w9 (i:=i) (O2.mp nd).2 (by simpa using h1) (by simpa using h2) b
def i6(N:Pb)(a:List V):St:=a.map some++List.replicate (N.length-a.length) none
def qN(c:zQ)(P:Pa)(w:World)(K:O6)(mg:O9)(base:Heap)(N:Pb)(a:Str)(scope:Scope)(f:Addr)(cd:Value)(A:Around)(outer:List Env)(s:Shared)(H:Hp)(E:XK):Cx where
 prog:=P
 w:=w
 K:=K
 mg:=mg
 base:=base
 A:=A.deeper (envOfC a scope s.heap.objs.size f cd)
 N:=N
 s₀:=s
 H₀:=H
 env:=envOfC a scope s.heap.objs.size f cd
 outer:=outer
 stack:=envOfC a scope s.heap.objs.size f cd::outer
 ex:=[]
 calm:=true
 fn:=λ_=>true
 pn:=[]
 xe:=λe d=>wpAny (model P w) (A.deeper (envOfC a scope s.heap.objs.size f cd)) (leaving (envOfC a scope s.heap.objs.size f cd) e) (λ_ b=>c outer H s E e b) (λg b=>c outer H s E g b) d
def zC{a:Scope}{n:Nat}{x:Str}(h:a.names.lookup x=some .cell):∃c,(cellsFrom n a.names []).lookup x=some c:=by have q:=PySem.W.cellsFrom_some a.names n [] (.inl h);show vr.mp q
def Cw{D:zQ}{P:Pa}{w:World}{K:O6}{mg:O9}{base:Heap}{N j:Pb}{d:Str}{scope:Scope}{f:Addr}{cd:Value}{A:Around}{outer:List Env}{s F:Shared}{H:Hp}{E:XK}{C:O_}{l:List V}(S:ay N j scope)(hd:A.handled=none)(g:AX P w K mg base A outer s H)(Q:l.length=j.length)(r:aZ l C)(x:InCallC s s.heap.objs.size (bindL (envOfC d scope s.heap.objs.size f cd).kindOf (j.zip C) λ_=>none) (cellsFrom (s.heap.objs.size+1) scope.names []) (bindC (envOfC d scope s.heap.objs.size f cd).kindOf (j.zip C) λ_=>none) F):aO (qN D P w K mg base N d scope f cd A outer s H E) [] (i6 N l) H F:=by
 have J:j.length<=N.length:=by have:=r_ List.length S.pre;rw[oD]at this;lia
 obtain⟨h1,tk,rfl,G⟩:=x.done;have m:∀b:Addr,b∉(qN D P w K mg base N d scope f cd A outer s H E).ex:=λb z=>absurd (show b∈([]:Pf)from z) (by simp);show{{g.mod,S.kind,(),(),e_ _,λy z c h1 h2=>?_,λy o=>?_,λy c _ h=>?_,λ_=>hd,Around.frames_deeper g.frames,.inr {(),()},λb z=>absurd z (m b),g.bs,g.bsz,λb _ _=>m b,λb z=>absurd z (m b),g.funs,g.frf},(),g.bare,Un.kept G,{_,x.toInCall.ns,λi y v h1 h2 h3=>?_},λy c h=>{_,x.cell y c h},g.hok.fresh (e_ _),λy c h=>?_,λp t=>absurd (show p∈([]:O8)from t) (by simp),g.hok.kept G,?_}
 ·show name_of_addr x.apart (PySem.mem_of_lookup h1) (PySem.mem_of_lookup h2)
 ·have o:scope.names.lookup y=some .cell\/scope.names.lookup y=some .free:=o;rcases o with o|o
  ·show zC o
  ·show absurd () (S.nofree _ (PySem.mem_of_lookup o))
 ·show wh (x.above y c (PySem.mem_of_lookup h))
 ·have hi:i<l.length:=by
   unfold i6 at h2
   by_cases hi:i<l.length
   ·show hi
   ·rw[Es (by simpa using hi)]at h2;rw[List.getElem?_replicate]at h2
    split at h2<;>cases h2
  have L:l[i]?=some v:=by unfold i6 at h2;rw[sD (by simpa using hi),i_]at h2;cases e:l[i]?with|none=>rw[e]at h2;cases h2|some a=>rw[e]at h2;cases h2;rfl
  obtain⟨u,I,M⟩:=r.get L;have t:j[i]?=some y:=by rw[<-S.pre,Oa (by lia)];show h1
  have B:j.Nodup:=by rw[<-S.pre];show S.nd.sublist (N7 _ _)
  show{u,M,?_};rcases S.par y (g_ t)with k|k
  ·show .inl {k,w5 B t I k}
  ·obtain⟨c,e⟩:=zC (n:=s.heap.objs.size+1) k;show .inr {.inl k,c,e,?_};have q:=x.cell y c e;rw[w9 B t I (by change scope.names.lookup y≠_;rw[k];decide)]at q;show q
 ·show g.hok.fresh (wh (x.above y c (PySem.mem_of_lookup h)))
 ·unfold i6;change _=N.length;rw[mu,b_,NE];lia
def Ia{F:zQ}{P:Pa}{w:World}{K:O6}{mg:O9}{base:Heap}{k:Nat}{f:Addr}{j a:Str}{d:Arguments}{g:List Stmt}{scope:Scope}{X kV B pm c ct oc:Value}{Z od:Option Addr}{L:Array (Option Value)}{N G:Pb}{sp:Sp}(lk:K.lookup f=some {oc,od,.func (PySem.W.fnOf j a d g scope X kV B pm Z c ct),L})(M:PySem.W.codeIn K c a=true)(S:ay N G scope)(len:∀h H Q E,sp h H Q E->h.length=G.length)(m:∀(A:Around)(outer:List Env)(s:Shared)(H:Hp)(h:List V)(Q:VK)(E:XK),eV k (A.deeper (envOfC a scope s.heap.objs.size f c))->sp h H Q E->∃t,ve (qN F P w K mg base N a scope f c A outer s H E) g t/\t {nx:=λ_ l=>Q .non l,rt:=Q} (i6 N h) H):aP P w K mg base F (k+1) f (PySem.W.fnOf j a d g scope X kV B pm Z c ct) G sp:=by
 show{len,λA outer s H Y us h Q E O C hb r D=>?_};have hl:=len _ _ _ _ D;have KX:K.In s.heap:=C.mod.kin.keeps λb o e=>(C.bs b o e).1;have R:s.heap.NoLimit:=C.mod.nolimit.keeps λb o e=>(C.bs b o e).1;have p:∀y∈G.zip us,scope.names.lookup y.1=some .local\/(scope.names.lookup y.1=some .cell/\((cellsFrom (s.heap.objs.size+1) scope.names []).lookup y.1).isSome=true):=λ⟨n,v⟩hy=>by
  rcases S.par n (NR hy).1 with q|q
  ·show .inl q
  ·show .inr {q,PySem.W.cellsFrom_some _ _ _ (.inl q)}
 show codeAny_call_function O.depth (KX _ _ lk) () S.co S.gen () (PySem.W.codeRec_of KX M) (hb _ _ _ _ ?_);show wpAny_newFunctionEnv_cells S.kind p λenv he s1 x=>?_;subst he;show{R.keeps x.toInCall.keep,codeAny_func ?_};obtain⟨t,ht,hq⟩:=m A outer s H h Q E (O.deeper _) D;have I:aO (qN F P w K mg base N a scope f c A outer s H E) [] (i6 N h) H s1:=Cw S O.hd C hl r x;show wpAny_mono (ht [] s1 (i6 N h) H _ I hq) (λfl T z=>?_) λe T z=>z;have fin:∀{i:St}{l:Hp}{v:V}{u:Value},aO (qN F P w K mg base N a scope f c A outer s H E) [] i l T->aV v u->Q v l->CE outer P w H s Q u T:=λ{i l v u}J U q=>(v,l,J.os,J.bare,J.base,J.hok,U,q,)
 cases fl with|ret u=>obtain⟨v,i,l,J,U,q⟩:=z;show fin J U q|next=>obtain⟨i,l,J,q⟩:=z;show fin (v:=V.non) (u:=Value.none) J () q|brk=>obtain⟨_,_,_,q⟩:=z;show False.elim q|cont=>obtain⟨_,_,_,q⟩:=z;show False.elim q
section
variable{X:Cx}{x:Str}{p a:Pos}{e:Expr}{es:Pc}{t:TA}{id T:String}{r:List V->Hp->VK->Prop}
def tCB(r:List V->Hp->VK->Prop)(t:TA):TE:=λb H Q=>t b H λc d=>r c d Q
def aA(hc:dy X (.builtin id) r)(hg:Gl X x)(hm:X.mg x=none)(g:bootBuiltins x=some (.builtin id))(i:PA X (e::es) t)(hn:x≠"__name__":=by decide)(c:(x==("__debug__":Str))=false:=by decide)(j:starEach (e::es) X.env=(false,eval e X.env)::starEach es X.env:=by rfl)(d:(backTo a (starEach es X.env)).any (·.1)=false:=by rfl):PE X (.Call (.Name x p) (e::es) [] a) (tCB r t):=by intro b s f H Q I h;show y_ (k7 I hg hm g ?_ hn c);show PyProof.Rows.callWith_builtin1 (cy (i a b s f H _ I h) λk l⟨m,n,I1,o,q⟩=>hc b l f n m k Q I1 o q) j d
def b0(hc:dy X (.type T) r)(hg:Gl X x)(hm:X.mg x=none)(g:bootBuiltins x=some (.type T))(i:PA X (e::es) t)(hn:x≠"__name__":=by decide)(c:(x==("__debug__":Str))=false:=by decide)(j:starEach (e::es) X.env=(false,eval e X.env)::starEach es X.env:=by rfl)(d:(backTo a (starEach es X.env)).any (·.1)=false:=by rfl):PE X (.Call (.Name x p) (e::es) [] a) (tCB r t):=by intro b s f H Q I h;show y_ (k7 I hg hm g ?_ hn c);show C2 (cy (i a b s f H _ I h) λk l⟨m,n,I1,o,q⟩=>hc b l f n m k Q I1 o q) j d
end
end L2
namespace HT
open PySem PyProof.Rows
section
variable{prog:Pa}{w:World}{A:Around}{E:O7}{s:Shared}
def Hz(p:IsTup s.heap t d.toArray)(q:IsTup s.heap b a.toArray)(m:d≠[])(h1:a=[]->Q (.ref t) s)(h2:a≠[]->Q (.ref s.heap.objs.size) {s with heap:=s.heap.push {cls:=.type "tuple",data:=.seq (d++a).toArray}})(l:d.length+a.length<=sizeLine):wpAny (model prog w) A (binaryOp .Add (.ref t) (.ref b)) Q E s:=by
 obtain⟨⟨cls,dd,data,sl⟩,j,hc,n,hd⟩:=id p;obtain⟨⟨o,f,data2,g⟩,c,h,n2,i⟩:=id q;simp only at hc hd h i;subst hc hd h i;have e:d.toArray++a.toArray=(d++a).toArray:=by simp
 by_cases k:a=[]
 ·show concat_meets {_,j,()} {_,c,()} noFill_tuple_add seq_tuple_add PySem.F.slot_tuple_add PySem.F.entry_tuple_add (PySem.F.args_tuple_add_2 _ _) (tuple_addW1 t b d.toArray a.toArray n n2 dd f sl g (by simpa using m) (by simp[k])) {j,c,h1 k}
 ·show concat_meets {_,j,()} {_,c,()} noFill_tuple_add seq_tuple_add PySem.F.slot_tuple_add PySem.F.entry_tuple_add (PySem.F.args_tuple_add_2 _ _) (tuple_addW2 t b d.toArray a.toArray n n2 dd f sl g (by simpa using m) (by simpa using k) (by rw[m_,m_];show l)) {j,c,?_}
  rw[e];show h2 k
def iD(n d:Nat):Option Int->Nat|none=>d|some v=>if v<0 then(v+(n:Int)).toNat else min v.toNat n
def DM(n d:Nat):iD n d none=d:=rfl
def Jh(n d:Nat)(hd:d<=n)(o:Option Int):iD n d o<=n:=by cases o with|none=>show hd|some v=>
  change(if v<0 then(v+(n:Int)).toNat else min v.toNat n)<=n
  by_cases a:v<0
  ·rw[md a];lia
  ·rw[me a];show NF _ _
def BC(v:Int)(n d:Nat):(if v<0 then max (v+(n:Int)) 0 else min v (n:Int))=((iD n d (some v):Nat):Int):=by
 change(if v<0 then max (v+(n:Int)) 0 else min v (n:Int))=(((if v<0 then(v+(n:Int)).toNat else min v.toNat n):Nat):Int)
 by_cases a:v<0
 ·simp only[md a];lia
 ·simp only[me a];lia
def AU(lo hi:Option Int)(n:Nat):Builtin.Slice.sliceAdjust lo hi 1 (n:Int)=(((iD n 0 lo:Nat):Int),((iD n n hi:Nat):Int)):=by
 have h1:¬((1:Int)<0):=by lia
 unfold Builtin.Slice.sliceAdjust;simp only[h1,Oe];show Prod.ext ?_ ?_
 ·cases lo with|none=>rfl|some v=>show BC v n 0
 ·cases hi with|none=>rfl|some v=>show BC v n n
def Ag(i j:Nat):Builtin.Slice.slicePlaces (i:Int) (j:Int) 1=j-i:=by
 unfold Builtin.Slice.slicePlaces;have h1:(1:Int)>0:=by lia
 simp only[h1,OM,Int.ediv_one]
 split<;>lia
def tf(p:IsPart v o)(h:Q o s):wpAny (model prog w) A (Builtin.Slice.slicePartIndex v) Q E s:=by cases p with|none=>show slicePart_none h|int i t=>show slicePart_int h
def qk{sl:Addr}{c d:Value}{lo hi:Option Int}{n:Nat}{Q:Int×Int×Nat->Shared->Prop}(e:s.heap.IsSliceOf sl c d .none)(pl:IsPart c lo)(f:IsPart d hi)(h:Q (((iD n 0 lo:Nat):Int),1,iD n n hi-iD n 0 lo) s):wpAny (model prog w) A (Builtin.Slice.sliceApplied (.ref sl) (pure (n:Int))) Q E s:=by obtain⟨os,a,g,b⟩:=id e;unfold Builtin.Slice.sliceApplied Builtin.Slice.sliceFields;show a_ (a_ (w1 a b (x:=c) () (a_ (w1 a b (x:=d) () (a_ (w1 a b (x:=.none) () (f_ ?_)))))));show a_ (slicePart_none ?_);change wpAny _ _ (if((1:Int)==0)=true then _ else _) _ _ s;rw[me (by decide)];show a_ (tf pl (a_ (tf f (a_ (f_ ?_)))));change wpAny _ _ (match Builtin.Slice.sliceAdjust lo hi 1 (n:Int)with|(lo,hi)=>pure (lo,(1:Int),Builtin.Slice.slicePlaces lo hi 1)) _ _ s;rw[AU lo hi n];change wpAny _ _ (pure (((iD n 0 lo:Nat):Int),(1:Int),Builtin.Slice.slicePlaces ((iD n 0 lo:Nat):Int) ((iD n n hi:Nat):Int) 1)) _ _ s;rw[Ag];show f_ h
def DV(a:Pd)(i k:Nat):((List.range k).filterMap λ(m:Nat)=>a[((i:Int)+(m:Int)*1).toNat]?).toArray=((a.toList.drop i).take k).toArray:=by
 have e:(λ(m:Nat)=>a[((i:Int)+(m:Int)*1).toNat]?)=λm=>a[i+m]?:=by
  funext m
  have:((i:Int)+(m:Int)*1).toNat=i+m:=by lia
  rw[this]
 rw[e];have:=pick_run a i k;rw[List.filterMap_map]at this;have b:((λx=>a[x]?)∘λx=>i+x)=λm=>a[i+m]?:=();rw[b]at this;rw[this]
def pV{t sl:Addr}{a:Pd}{i j:Value}{lo hi:Option Int}{Q:O7}(c:IsTup s.heap t a)(l:s.heap.IsSliceOf sl i j .none)(pl:IsPart i lo)(n:IsPart j hi)(o:¬(iD a.size 0 lo=0/\iD a.size a.size hi=a.size))(h:Q (.ref s.heap.objs.size) {s with heap:=s.heap.push {cls:=.type "tuple",data:=.seq ((a.toList.drop (iD a.size 0 lo)).take (iD a.size a.size hi-iD a.size 0 lo)).toArray}})(p:a.size<=sizeLine):wpAny (model prog w) A (getItem (.ref t) (.ref sl)) Q E s:=by
 have b:sizeOk (.seq ((a.toList.drop (iD a.size 0 lo)).take (iD a.size a.size hi-iD a.size 0 lo)).toArray):=by change((a.toList.drop (iD a.size 0 lo)).take (iD a.size a.size hi-iD a.size 0 lo)).toArray.size<=sizeLine;rw[m_,oD,NH,ot];lia
 have u:iD a.size a.size hi<=a.size:=Jh _ _ (e_ _) hi;obtain⟨os,d,e,r⟩:=id l;have f:s.TypeIs (.ref sl) "slice":=(os,d,e,);unfold getItem
 try with_reducible show ri ?_
 first|show a_ (f_ ?_)|skip
 show a_ (wpAny_sequenceKey c.typeIs (by decide) ?_);show a_ (r4 (name:=Str.ofString "__getitem__") c.typeIs OU (rk OU c.typeIs entry_tuple_getitem ?_ (args_tuple_getitem _ _)))
 change wpAny _ _ (Builtin.Tuple.tupleItemsOf (.ref t)>>=_) _ _ s;show a_ (tupleItemsOf_ c ?_);show a_ (OK f ?_);rw[md (by decide)];show a_ (qk l pl n ?_);have g:¬((((iD a.size 0 lo:Nat):Int)==0&&(1:Int)==1&&(iD a.size a.size hi-iD a.size 0 lo)==a.size)=true):=by intro q;rw[o0,o0]at q;have v:((iD a.size 0 lo:Nat):Int)=0:=eq_of_beq q.1.1;have x:iD a.size a.size hi-iD a.size 0 lo=a.size:=eq_of_beq q.2;show o {by lia,by lia}
 change wpAny _ _ (if(((iD a.size 0 lo:Nat):Int)==0&&(1:Int)==1&&(iD a.size a.size hi-iD a.size 0 lo)==a.size)=true then _ else _) _ _ s;rw[me g,DV]
 first|show a_ (m:=Builtin.Tuple.tupleExact _) (rm (f_ {_,(),f_ h}) b)|show a_ (m:=Builtin.Tuple.tupleExact _) (rm (a_ (f_ (f_ {_,(),f_ h}))) b)|show a_ (a_ (m:=Builtin.Tuple.tupleExact _) (rm (f_ (f_ {_,(),f_ h})) b))|show a_ (a_ (m:=Builtin.Tuple.tupleExact _) (rm (f_ {_,(),f_ h}) b))
end
end HT
namespace L2
open PySem PySem.Spec PyProof.Rows
abbrev TO:=St->Hp->(Option Int->Hp->Prop)->Prop
def PO(X:Cx)(e:Option Expr)(t:TO):Prop:=∀(a:O8)(s:Shared)(b:St)(H:Hp)(Q:Option Int->Hp->Prop),aO X a b H s->t b H Q->wpAny (model X.prog X.w) X.A (evalPart e X.env) (λu d=>∃o c,aO X a b c d/\IsPart u o/\Q o c) X.xe s
def FW:TO:=λ_ H Q=>Q none H
def K1(t:TE):TO:=λa H Q=>t a H λx b=>∃i,x=.int i/\Q (some i) b
def AE:∀{a:O_},aZ (ns.map V.int) a->IntsAre a ns:=by induction ns with|nil=>intro a r;rw[NW]at r;cases r;show .nil|cons n ns b=>intro a r;rw[o8]at r;cases r with|cons c r2=>obtain⟨t,e⟩:=c;subst e;show .cons n t (b r2)
section
variable{X:Cx}{e:Expr}{te:TE}{lo hi:Option Expr}{c d:TO}{g f:Pos}
def iV:PO X none FW:=by intro a s b H Q I h;rw[evalPart_none];show f_ {none,H,I,.none,h}
def iU(h:PE X e te):PO X (some e) (K1 te):=by intro a s b H Q I j;rw[evalPart_some];show cy (h a s b H _ I j) λu o k=>?_;obtain⟨x,l,I1,m,n⟩:=k;obtain⟨i,rfl,q⟩:=n;obtain⟨t,rfl⟩:=m;show{some i,l,I1,.int i t,q}
def KO(X:Cx)(r:V->Option Int->Option Int->Hp->VK->Prop):Prop:=∀(a:O8)(s:Shared)(b:St)(H:Hp)(x:V)(v h i:Value)(lo hi:Option Int)(sl:Addr)(Q:VK),aO X a b H s->aV x v->s.heap.IsSliceOf sl h i .none->IsPart h lo->IsPart i hi->r x lo hi H Q->∃T id,typeLookup (.type T) "__getitem__"=pure (some (.builtin id))/\s.TypeIs v T/\wpAny (model X.prog X.w) X.A (getItem v (.ref sl)) (EP X a b Q) X.xe s
def tSl(r:V->Option Int->Option Int->Hp->VK->Prop)(te:TE)(c d:TO):TE:=λa H Q=>te a H λx b=>c a b λl h=>d a h λu i=>r x l u i Q
def gG(p:KO X r)(t:PE X e te)(y:PO X lo c)(z:PO X hi d):PE X (.Subscript e (.Slice lo hi none f) g) (tSl r te c d):=by intro a s j H Q I h;show Subscript_ (cy (t a s j H _ I h) λv B k=>?_);obtain⟨x,C,I1,D,E⟩:=k;show wpAny_Slice (cy (y a B j C _ I1 E) λm F k=>?_);obtain⟨l,G,J,pl,K⟩:=k;show cy (z a F j G _ J K) λn i k=>?_;obtain⟨u,o,L,M,N⟩:=k;rw[evalPart_none];show f_ ?_;have O:aO X a j o {i with heap:=i.heap.push {cls:=.type "slice",data:=.fields #[m,n,.none]}}:=L.kept (t':=i.toks) λb ob q=>d_ _ q;obtain⟨T,id,P,R,hg⟩:=p a {i with heap:=i.heap.push {cls:=.type "slice",data:=.fields #[m,n,.none]}} j o x v m n l u i.heap.objs.size Q O D (Heap.IsSliceOf.new ..) pl M N;change wpAny (model X.prog X.w) X.A (subscriptTail e (.Slice lo hi none f) v (.ref i.heap.objs.size)) (EP X a j Q) X.xe {i with heap:=i.heap.push {cls:=.type "slice",data:=.fields #[m,n,.none]}};show tail_any (ops:=[.ref i.heap.objs.size,v]) R P hg (by with_unfolding_all rfl)
def vN(a:List V)(lo hi:Option Int):List V:=(a.drop (HT.iD a.length 0 lo)).take (HT.iD a.length a.length hi-HT.iD a.length 0 lo)
def rL(a:List V)(lo hi:Option Int):(vN a lo hi).length<=a.length:=by unfold vN;rw[oD,NH];lia
def Ln(K:O6):V->Option Int->Option Int->Hp->VK->Prop:=λx lo hi H Q=>∃a b,x=.ref a/\aY K H a b/\¬(HT.iD b.length 0 lo=0/\HT.iD b.length b.length hi=b.length)/\∀p,H p=none->Q (.ref p) (aH H p (.tup (vN b lo hi)))
def Jd:KO X (Ln X.K):=by
 intro l s z H x v A B lo hi sl Q I p t pl u h;obtain⟨a,j,rfl,w,y,q⟩:=h;cases p;obtain⟨k,r,m,n⟩:=I.tuple w;have i:k.toArray.size=j.length:=by rw[m_];show r.length.symm
 show{"tuple",_,PyProof.Rows.slot_tuple_getitem.lookup,m.typeIs,?_};show HT.pV m t pl u (by rw[i];show y) ?_ (by rw[i];show n);rw[i];show{.ref s.heap.objs.size,_,I.laid (t':=s.toks) (o:=.tup (vN j lo hi)) (λb ob q=>d_ _ q) (e_ _) ?_,(),q _ (I.hok.fresh (e_ _))};show{nr (rL j lo hi) n,_,(r.drop (HT.iD j.length 0 lo)).take (HT.iD j.length j.length hi-HT.iD j.length 0 lo),IsTup.new _ _}
def HX(K:O6):R2:=λx y H Q=>∃a b i h,x=.ref a/\y=.ref b/\aY K H a i/\aY K H b h/\i≠[]/\i.length+h.length<=sizeLine/\(h=[]->Q (.ref a) H)/\(h≠[]->∀p,H p=none->Q (.ref p) (aH H p (.tup (i++h))))
def aZ.nil_iff(r:aZ a h):h=[]↔a=[]:=by cases r with|nil=>simp|cons _ _=>simp
def GQ:lg X (binaryOp .Add) (HX X.K):=by intro j s G H x y v u Q I m n h;obtain⟨a,b,p,r,rfl,rfl,t,A,B,k,C,D⟩:=h;cases m;cases n;obtain⟨E,i,F,_⟩:=I.tuple t;obtain⟨l,r2,f,_⟩:=I.tuple A;show HT.Hz F f (λz=>B (i.nil_iff.mp z)) (λz=>{.ref a,H,I,(),C (r2.nil_iff.mp z)}) (λz=>?_) (by rw[<-i.length,<-r2.length];show k);show{.ref s.heap.objs.size,_,I.laid (t':=s.toks) (o:=.tup (p++r)) (λb ob q=>d_ _ q) (e_ _) ?_,(),D (λw=>z (r2.nil_iff.mpr w)) _ (I.hok.fresh (e_ _))};show{by rw[mu];show k,_,i.append r2,IsTup.new _ _}
end
def Hh(n:Nat)(i:Int):Option Nat:=if 0<=i then(if i<n then some i.toNat else none)else if-(n:Int)<=i then some (i+n).toNat else none
def vS{a:Type}(c:List a)(i:Int):Option a:=(Hh c.length i).bind λj=>c[j]?
def Bu(h:Hh n i=some j):seqIndex? i n=some j/\j<n/\-(n:Int)<=i/\i<n:=by
 unfold Hh at h
 by_cases h0:0<=i
 ·rw[md h0]at h
  by_cases h1:i<n
  ·rw[md h1]at h;have e:i.toNat=j:=n_ h;show{by rw[seqIndex_of h0 h1,e],by lia,by lia,h1}
  ·rw[me h1]at h;cases h
 ·rw[me h0]at h
  by_cases h1:-(n:Int)<=i
  ·rw[md h1]at h;have e:(i+n).toNat=j:=n_ h;show{by rw[seqIndex_neg (by lia) h1,e],by lia,h1,by lia}
  ·rw[me h1]at h;cases h
def x5(h:vS a i=some v):∃j,seqIndex? i a.length=some j/\a[j]?=some v/\j<a.length/\-(a.length:Int)<=i/\i<a.length:=by unfold vS at h;cases e:Hh a.length i with|none=>rw[e]at h;cases h|some j=>rw[e]at h;obtain⟨h1,h2,h3,h4⟩:=Bu e;show(j,h1,h,h2,h3,h4,)
def x9(b:Expr):Prop:=∀o i,subscripted b false o i=operate [o,i] (getItem o i)
def KR(X:Cx)(r:R2):Prop:=∀(c a:Expr)(b:O8)(s:Shared)(d:St)(H:Hp)(x y:V)(v u:Value)(Q:VK),aO X b d H s->aV x v->aV y u->r x y H Q->subscripted a false v u=operate [v,u] (getItem v u)->wpAny (model X.prog X.w) X.A (subscriptTail c a v u) (EP X b d Q) X.xe s
def Nb(X:Cx)(id:String)(r:V->List V->Hp->VK->Prop):Prop:=∀(a:O8)(s:Shared)(b:St)(H:Hp)(x:V)(c:List V)(v:Value)(d:O_)(Q:VK),aO X a b H s->aV x v->aZ c d->r x c H Q->wpAny (model X.prog X.w) X.A (call (.builtin id) (v::d)) (EP X a b Q) X.xe s
section
variable{X:Cx}{a b:Expr}{E D:TE}{C:Pos}
def yO(d:KR X r)(e:PE X a E)(f:PE X b D)(g:x9 b):PE X (.Subscript a b C) (KA r E D):=by intro c s i H Q I h;show Subscript_ (Kk e f I h λv u j x y k l m n q=>d a b c j i k x y v u Q l m n q (g _ _))
def Jo(K:O6):R2:=λx y H Q=>∃p c i v,x=.ref p/\y=.int i/\aR K H p c/\vS c i=some v/\Q v H
def Jn(K:O6):R2:=λx y H Q=>∃p c i v,x=.ref p/\y=.int i/\aY K H p c/\vS c i=some v/\Q v H
def MR:R2:=λx y H Q=>∃z i c,x=.str z/\y=.int i/\z.length<=sizeLine/\vS z.cps.toList i=some c/\Q (.str {#[c]}) H
def Hf:KR X (Jo X.K):=by
 intro d e c s l H x y v u Q I o A h m;obtain⟨p,M,i,z,rfl,rfl,B,F,q⟩:=h;cases o;obtain⟨t,rfl⟩:=A;obtain⟨f,r,pl,N⟩:=I.list B;obtain⟨j,h1,h2,h3,h4,G⟩:=x5 F;obtain⟨w,n,g⟩:=r.get h2;have J:=r.length;have hn:=qA;have fin:EP X c l Q w s:=(z,H,I,g,q,)
 by_cases h0:0<=i
 ·have k:i.toNat=j:=by rw[seqIndex_of h0 G]at h1;show n_ h1
  show item_listR pl.isList h0 (by lia) (by rw[k];simpa using n) fin m
 ·have k:(i+(f.toArray.size:Int)).toNat=j:=by rw[seqIndex_neg (by lia) h4]at h1;rw[m_,<-J];show n_ h1
  show subscriptTail_builtinR (x:=w) pl.isList.typeIs slot_list_getitem.lookup (wpAny_getItem_list_neg (Q:=λr L=>r=w/\EP X c l Q r L) pl.isList (by lia) (by rw[m_]<;>lia) (by lia) (by rw[k];simpa using n) {(),fin}) m
def J2:KR X (Jn X.K):=by intro d e c s g H x y v u Q I k l h m;obtain⟨p,J,i,z,rfl,rfl,n,o,q⟩:=h;cases k;obtain⟨t,rfl⟩:=l;obtain⟨A,r,pl,L⟩:=I.tuple n;obtain⟨j,h1,h2,h3,h4,M⟩:=x5 o;obtain⟨w,B,f⟩:=r.get h2;have F:=r.length;have hn:=qA;have fin:EP X c g Q w s:=(z,H,I,f,q,);show subscriptTail_builtinR (x:=w) pl.typeIs slot_tuple_getitem.lookup (getItem_tuple (j:=j) (Q:=λr G=>r=w/\EP X c g Q r G) pl (by lia) (by lia) (by rw[m_,<-F];show h1) (by simpa using B) {(),fin}) m
def AB:KR X MR:=by
 intro d e f s w H x y v u Q I g k h l;obtain⟨z,i,c,rfl,rfl,A,m,q⟩:=h;obtain⟨t,rfl⟩:=g;obtain⟨B,rfl⟩:=k;obtain⟨j,h1,h2,h3,h4,n⟩:=x5 m;have o:z.cps.toList.length=z.length:=by simp[Str.length]
 rw[o]at h1 h4 n;have hn:=qA;show tail_any (typeIs_str s z t) slot_str_getitem.lookup (getItem_str (c:=c) (by have p:decide (i< -(2^63:Int))=false:=op (by lia);have r:decide (i>=2^63)=false:=op (by lia);rw[p,r,Bool.or_false]) (by rw[h1];simpa using h2) {.str {#[c]},H,I.tok _,{_,()},q}) l
def Aw(c:O_)(n j:Nat)(u:Value):Obj.mapSeq (·.setIfInBounds j u) {cls:=.type "list",data:=.seq c.toArray n}={cls:=.type "list",data:=.seq (c.set j u).toArray n}:=by simp[Obj.mapSeq]
theorem aO.lst(I:aO X d g H s)(h:H p=some (.lst f)):∃(c:O_)(n:Nat),aZ f c/\s.heap.get? p=some {cls:=.type "list",data:=.seq c.toArray n}/\f.length<=sizeLine:=by obtain⟨z,c,n,r,e⟩:=I.hok p _ h;show(c,n,r,e,z,)
def aO.lstUpd{d:O8}{l:St}{H:Hp}{s:Shared}{p:Addr}{o i:List V}{g c:O_}{n j:Nat}{f:Obj->Obj}(I:aO X d l H s)(h:H p=some (.lst o))(v:s.heap.get? p=some {cls:=.type "list",data:=.seq g.toArray n})(m:f {cls:=.type "list",data:=.seq g.toArray n}={cls:=.type "list",data:=.seq c.toArray j})(r:aZ i c)(w:i.length<=sizeLine)(t:Nat):aO X d l (aH H p (.lst i)) {s with heap:=s.heap.update p f,toks:=t}:=by
 have e:(s.heap.update p f).get? p=some {cls:=.type "list",data:=.seq c.toArray j}:=by rw[u_ f v (by rw[m]<;>rfl),m]
 show I.write (x:=p) (e:=p) (by rw[h];trivial) (.inl ()) (λb u k q=>(x_ _ _ (p_ k)).trans q) {_,e} ?_;show(w,c,j,r,e,)
def Lq:V->V->V->Hp->(Hp->Prop)->Prop:=λo i v H Q=>∃p c k j,o=.ref p/\i=.int k/\H p=some (.lst c)/\Hh c.length k=some j/\Q (aH H p (.lst (c.set j v)))
def yw:HM X Lq:=by
 intro c s w H o i v G iv u Q I x y z h;obtain⟨p,A,k,j,rfl,rfl,l,B,q⟩:=h;cases x;obtain⟨t,rfl⟩:=y;obtain⟨d,n,r,e,F⟩:=I.lst l;obtain⟨h1,h2,h3,h4⟩:=Bu B;have f:=r.length;have hn:=qA;have m:aO X c w (aH H p (.lst (A.set j v))) {s with heap:=s.heap.update p (Obj.mapSeq (·.setIfInBounds j u))}:=I.lstUpd l e (Aw d n j u) (r.set z j) (by rw[B_];show F) s.toks
 by_cases h0:0<=k
 ·have g:k.toNat=j:=by rw[seqIndex_of h0 h4]at h1;show n_ h1
  show PySem.W.ki_setAt e h0 (by lia) (by rw[m_,<-f];show h4) (by rw[g];show{_,m,q})
 ·have g:(k+(d.toArray.size:Int)).toNat=j:=by rw[seqIndex_neg (by lia) h3]at h1;rw[m_,<-f];show n_ h1
  show PySem.W.ki_setBack e (by lia) (by rw[m_,<-f];show h3) (by lia) (by rw[g];show{_,m,q})
def xk(lo hi:Option Int)(n:Nat):(sliceBounds lo hi none n).1=((HT.iD n 0 lo:Nat):Int)/\(sliceBounds lo hi none n).2.1=((HT.iD n n hi:Nat):Int)/\(sliceBounds lo hi none n).2.2=1:=by
 show{?_,?_,()}
 ·cases lo with|none=>simp[sliceBounds,HT.iD]|some i=>
   simp only[sliceBounds,HT.iD,Option.getD_none,show(1:Int)>0 by decide,OM]
   by_cases h:i<0
   ·simp only[h,OM]<;>lia
   ·simp only[h,Oe]<;>lia
 ·cases hi with|none=>simp[sliceBounds,HT.iD]|some i=>
   simp only[sliceBounds,HT.iD,Option.getD_none,show(1:Int)>0 by decide,OM]
   by_cases h:i<0
   ·simp only[h,OM]<;>lia
   ·simp only[h,Oe]<;>lia
def vh(c:O_)(lo hi:Option Int):slicePick c.toArray lo hi none=((c.drop (HT.iD c.length 0 lo)).take (HT.iD c.length c.length hi-HT.iD c.length 0 lo)).toArray:=by obtain⟨h1,h2,h3⟩:=xk lo hi c.toArray.size;unfold slicePick;rw[h1,h2,h3];simp only[sliceRange_one,pick_run,m_]<;>rfl
def Lo(K:O6):V->Option Int->Option Int->Hp->VK->Prop:=λx lo hi H Q=>∃a c,x=.ref a/\aR K H a c/\∀p,H p=none->Q (.ref p) (aH H p (.lst (vN c lo hi)))
def Gz:KO X (Lo X.K):=by intro e s n H x v p t lo hi sl Q I g i pl j h;obtain⟨a,c,rfl,k,q⟩:=h;cases g;obtain⟨l,r,f,m⟩:=I.list k;have d:=r.length;show{"list",_,slot_list_getitem.lookup,f.isList.typeIs,?_};show wpAny_getItem_list_slice f.isList i pl j .none (by simp) ?_ (by rw[m_]<;>lia);rw[vh,<-d];show{.ref s.heap.objs.size,_,I.laid (t':=s.toks) (o:=.lst (vN c lo hi)) (λb ob q=>d_ _ q) (e_ _) ?_,(),q _ (I.hok.fresh (e_ _))};show{nr (rL c lo hi) m,_,0,(r.drop (HT.iD c.length 0 lo)).take (HT.iD c.length c.length hi-HT.iD c.length 0 lo),j_ _ ()}
def nO:V->Bool|.non=>true|.bl _=>true|.int _=>true|.str _=>true|_=>false
def Ic:V->V->Bool|.non,.non=>true|.bl a,.bl b=>a==b|.bl a,.int b=>(if a then 1 else 0)==b|.int a,.bl b=>a==(if b then 1 else 0)|.int a,.int b=>a==b|.str a,.str b=>a==b|_,_=>false
def Ke(e:aV y u)(c:aV x v)(g:nO y=true)(f:nO x=true):SeqAt.EqAt A s u v (Ic y x):=by cases y with
 |non=>cases e;cases x with|non=>cases c;show SeqAt.EqAt.same _|bl b=>cases c;show SeqAt.EqAt.none_bool b|int b=>obtain⟨t,rfl⟩:=c;show SeqAt.EqAt.none_int b t|str b=>obtain⟨t,rfl⟩:=c;show SeqAt.EqAt.none_str b t|_=>show absurd (show false=true from f) nn
 |bl a=>cases e;cases x with|non=>cases c;show SeqAt.EqAt.bool_none a|bl b=>cases c;show SeqAt.EqAt.bool_bool a b|int b=>obtain⟨t,rfl⟩:=c;show SeqAt.EqAt.bool_int a b t|str b=>obtain⟨t,rfl⟩:=c;show SeqAt.EqAt.bool_str a b t|_=>show absurd (show false=true from f) nn
 |int a=>obtain⟨d,rfl⟩:=e;cases x with|non=>cases c;show SeqAt.EqAt.int_none a d|bl b=>cases c;show SeqAt.EqAt.int_bool a d b|int b=>obtain⟨t,rfl⟩:=c;show SeqAt.EqAt.int_int a d b t|str b=>obtain⟨t,rfl⟩:=c;show SeqAt.EqAt.int_str a d b t|_=>show absurd (show false=true from f) nn
 |str a=>obtain⟨d,rfl⟩:=e;cases x with|non=>cases c;show SeqAt.EqAt.str_none a d|bl b=>cases c;show SeqAt.EqAt.str_bool a d b|int b=>obtain⟨t,rfl⟩:=c;show SeqAt.EqAt.str_int a d b t|str b=>obtain⟨t,rfl⟩:=c;show SeqAt.EqAt.str_str a d b t|_=>show absurd (show false=true from f) nn
 |_=>show absurd (show false=true from g) nn
def Ht(x:V)(u:Value):Bool:=match u with|.none=>Ic .non x|.bool b=>Ic (.bl b) x|.int i _=>Ic (.int i) x|.str z _=>Ic (.str z) x|_=>false
def E8(r:aV y u)(f:nO y=true):Ht x u=Ic y x:=by cases y with|non=>cases r;rfl|bl b=>cases r;rfl|int i=>obtain⟨t,rfl⟩:=r;rfl|str z=>obtain⟨t,rfl⟩:=r;rfl|_=>show absurd (show false=true from f) nn
theorem x6:∀{c:List V}{d:O_},aZ c d->c.all nO=true->d.any (Ht x)=c.any λy=>Ic y x|_,_,.nil,_=>()|y::c,u::d,.cons r t,f=>by rw[NJ,o0]at f;rw[D_,D_,E8 r f.1,x6 t f.2]
theorem uD(g:aV x v)(h:nO x=true):∀{d:List V}{e:O_},aZ d e->d.all nO=true->∀u∈e,SeqAt.EqAt A s u v (Ht x u)
 |_,_,.nil,_=>λu c=>by cases c|y::d,u::e,.cons r t,f=>λi c=>by
  rw[NJ,o0]at f;rcases vu.mp c with rfl|c
  ·rw[E8 r f.1];show Ke r g f.1 h
  ·show uD g h t f.2 i c
def ox(x:V)(c:List V):Bool:=c.any λy=>Ic y x
def rIn(K:O6)(d:Bool):R2:=λx y H Q=>∃p c,y=.ref p/\(aR K H p c\/aY K H p c)/\nO x=true/\c.all nO=true/\Q (.bl (if d then !ox x c else ox x c)) H
def Ci:lg X (compareOp .In) (rIn X.K false):=by
 intro f s l H x y v u Q I g j h;obtain⟨p,m,rfl,d,i,fs,q⟩:=h;cases j;rcases d with d|d
 ·obtain⟨c,r,pl,k⟩:=I.list d;show SeqAt.in_listAt (Ht x) pl.isList (λw e=>uD g i r fs w (by simpa using e)) {.bl _,H,I,(),?_};rw[show c.toArray.any (Ht x)=c.any (Ht x)by simp,x6 r fs];show q
 ·obtain⟨c,r,pl,k⟩:=I.tuple d;show SeqAt.in_tupleAt (Ht x) pl (λw e=>uD g i r fs w (by simpa using e)) {.bl _,H,I,(),?_};rw[show c.toArray.any (Ht x)=c.any (Ht x)by simp,x6 r fs];show q
def xV:dy X (.type "list") (λv H Q=>∃p d,v=[.ref p]/\(aR X.K H p d\/aY X.K H p d)/\∀l,H l=none->Q (.ref l) (aH H l (.lst d))):=by
 intro i s y H v A Q I r h;obtain⟨p,d,rfl,j,q⟩:=h;obtain⟨u,rfl,z⟩:=jY r;cases z;have fin:∀(c:O_),aZ d c->d.length<=sizeLine->∀(h':Heap)(f:Nat),(∀b x,s.heap.get? b=some x->h'.get? b=some x)->h'.get? s.heap.objs.size=some {cls:=.type "list",dict:=none,data:=.seq c.toArray f,slots:=#[]}->EP X i y Q (.ref s.heap.objs.size) {s with heap:=h'}:=λc g k h' f kp e=>{.ref s.heap.objs.size,_,I.laid (t':=s.toks) kp (e_ _) (show dw X.prog X.w _ h' _ (.lst d)from(k,c,f,g,e,)),(),q _ (I.hok.fresh (e_ _))}
 rcases j with j|j
 ·obtain⟨c,g,pl,k⟩:=I.list j;have m:=g.length;obtain⟨o,t,hc,n,hd⟩:=pl.isList;show call_list_seq p (.inl ()) t hc hd (λh' f kp e=>fin c g k h' f kp e) (by simp only[m_]<;>lia)
 ·obtain⟨c,g,pl,k⟩:=I.tuple j;have m:=g.length;obtain⟨o,t,hc,n,hd⟩:=pl;show call_list_seq p (.inr ()) t hc hd (λh' f kp e=>fin c g k h' f kp e) (by simp only[m_]<;>lia)
def vP:dy X (.type "tuple") (λj H Q=>∃p f,j=[.ref p]/\((aR X.K H p f/\∀l,H l=none->Q (.ref l) (aH H l (.tup f)))\/(aY X.K H p f/\Q (.ref p) H))):=by
 intro c s k H j y Q I r h;obtain⟨p,f,rfl,h⟩:=h;obtain⟨u,rfl,t⟩:=jY r;cases t;rcases h with⟨g,q⟩|⟨g,q⟩
 ·obtain⟨d,i,pl,m⟩:=I.list g;have n:=i.length;show call_tuple_list pl.isList (λh' kp=>?_) (by simp only[m_]<;>lia);have I1:aO X c k H {s with heap:=h'}:=I.kept (t':=s.toks) kp;have x:aO X c k (aH H h'.objs.size (.tup f)) {s with heap:=h'.push {cls:=.type "tuple",data:=.seq d.toArray}}:=I1.laid (t':=s.toks) (λb o e=>d_ _ e) (e_ _) (show dw X.prog X.w _ _ _ (.tup f)from{m,d,i,IsTup.new _ _})
  show{.ref h'.objs.size,_,x,(),q _ (I1.hok.fresh (e_ _))}
 ·obtain⟨d,i,pl,m⟩:=I.tuple g;show call_tuple_same pl {.ref p,H,I,(),q}
def tyV(K:O6)(T:String)(x:V)(H:Hp):Prop:=match x with|.str _=>T="str"|.int _=>T="int"|.ref p=>(T="list"/\∃d,aR K H p d)\/(T="tuple"/\∃o,K.lookup p=some o/\o.cls=.type "tuple"/\o.dict=none)\/(T="dict"/\((∃c,H p=some (.dK c))\/∃c,H p=some (.dT c)))\/(T="set"/\∃S n,H p=some (.set S n))|_=>False
def Ix(I:aO X h l H s)(r:aV x v)(ty:tyV X.K T x H):
 s.TypeIs v T/\∀a,v=.ref a->∃ob,s.heap.get? a=some ob/\ob.dict=none:=by cases x with|str z=>obtain⟨t,rfl⟩:=r;cases(show T="str"from ty);show{typeIs_str s z t,λ_ e=>nomatch e}|int i=>obtain⟨t,rfl⟩:=r;cases(show T="int"from ty);show{typeIs_int s i t,λ_ e=>nomatch e}|ref p=>
  cases r;rcases ty with⟨rfl,m,j⟩|⟨rfl,o,d,hc,hd⟩|⟨rfl,d⟩|⟨rfl,S,n,d⟩
  ·obtain⟨k,_,pl,_⟩:=I.list j;show{pl.isList.typeIs,λa e=>?_};cases e;obtain⟨o,n,e,c,hd,_⟩:=pl;show(o,e,hd,)
  ·show{{o,I.kIn p o d,hc},λa e=>?_};cases e;show{o,I.kIn _ o d,hd}
  ·have z:∃o,s.heap.get? p=some o/\o.ExactDict:=by
    rcases d with⟨f,d⟩|⟨f,d⟩
    ·obtain⟨_,_,_,_,o,_,_,e,ex,_⟩:=I.hok p _ d;show(o,e,ex,)
    ·obtain⟨_,_,_,_,o,_,_,e,ex,_⟩:=I.hok p _ d;show(o,e,ex,)
   obtain⟨o,e,ex⟩:=z;show{(o,e,ex.1,),λa g=>?_};cases g;show(o,e,ex.2.1,)
  ·obtain⟨o,_,_,_,e,ex,_⟩:=I.hok p _ d;show{(o,e,ex.1,),λa g=>?_};cases g;show(o,e,ex.2.1,)|_=>show False.elim ty
def tBM(K:O6)(T:String)(r:V->List V->Hp->VK->Prop)(B:TE)(t:TA):TE:=λc H Q=>B c H λx d=>tyV K T x d/\t c d λe f=>r x e f Q
variable{o e:Expr}{es:Pc}{B:TE}{t:TA}{g:Str}{m d:Pos}{T id:String}{r:V->List V->Hp->VK->Prop}
def Lx(w:PlainAttrs T)(slot:Slot T g id)(n:typeOf (.builtin id)=pure (.type "method_descriptor"))(hm:Nb X id r)(y:PE X o B)(z:PA X (e::es) t)(i:attributeBase o g X.env (eval o X.env)=eval o X.env:=by rfl)(l:((backTo d (starEach (e::es) X.env)).all (λx=>!x.1)&&(backToKw d (keywordEach [] X.env)).all (λx=>x.1.isSome)&&decide ((e::es).length+([]:List Keyword).length+(if([]:List Keyword).isEmpty then 0 else 1)<30))=true:=by rfl)(j:(m.endLine==d.line)=true:=by rfl)(A:starEach (e::es) X.env=(false,eval e X.env)::starEach es X.env:=by rfl)(f:(backTo d (starEach es X.env)).any (·.1)=false:=by rfl):PE X (.Call (.Attribute o g m) (e::es) [] d) (tBM X.K T r B t):=by intro c s k H Q I h;show wpAny_Call_method_late i l j () (cy (y c s k H _ I h) λv F p=>?_);obtain⟨x,G,I1,q,ty,J⟩:=p;obtain⟨h1,h2⟩:=Ix I1 q ty;show{T,id,w,slot,n,h1,h2,?_};have u:=z d c F k G _ I1 J;rw[A]at u⊢;show t0 (by change(false||(backTo d (starEach es X.env)).any (·.1))=false;rw[f]<;>rfl) (z4 ?_);show cy u λL M p=>?_;obtain⟨N,O,P,r2,R⟩:=p;show hm c M k O x N v L Q P q r2 R
end
def MtM(X:Cx)(id:String)(r:V->List V->Hp->VK->Prop):Prop:=∀(a:O8)(s:Shared)(b:St)(H:Hp)(x:V)(c:List V)(v:Value)(d:O_)(Q:VK),aO X a b H s->aV x v->aZ c d->r x c H Q->wpAny (model X.prog X.w) X.A (call (.builtin id) (v::d)) (EP X a b Q) X.xe s
def aZ.one:∀{x:V}{a:O_},aZ [x] a->∃u,a=[u]/\aV x u|_,_,.cons r .nil=>{_,(),r}
theorem aZ.reverse(h:aZ a c):aZ a.reverse c.reverse:=by induction h with|nil=>show .nil|cons r t b=>rw[List.reverse_cons,List.reverse_cons];show aZ.append b (.cons r .nil)
theorem aZ.rep(h:aZ a c):∀k:Nat,aZ (List.replicate k a).flatten (List.replicate k c).flatten|0=>.nil|k+1=>by rw[t2,t2,Nk,Nk];show aZ.append h (aZ.rep h k)
theorem wQ(a:O_):∀(k:Nat)(c:O_),List.foldl (λd f=>d++f) c.toArray (List.replicate k a.toArray)=(c++(List.replicate k a).flatten).toArray
 |0,c=>by simp|k+1,c=>by
  have e:c.toArray++a.toArray=(c++a).toArray:=by simp
  have b:(c++a)++(List.replicate k a).flatten=c++(List.replicate (k+1) a).flatten:=by rw[t2,Nk,z8]
  rw[<-b,<-wQ a k (c++a),<-e,t2,C1]
section
variable{X:Cx}{a:O8}{d:St}{H:Hp}{s:Shared}{l:Addr}{g c:List V}
def aO.lset{h its':O_}{n:Nat}{f:Array Value->Array Value}{j:Nat}(I:aO X a d H s)(m:H l=some (.lst g))(e:s.heap.get? l=some {cls:=.type "list",data:=.seq h.toArray n})(o:f h.toArray=its'.toArray)(p:aZ c its')(r:c.length<=sizeLine):aO X a d (aH H l (.lst c)) {s with heap:=s.heap.update l (Obj.mapSeq f),toks:=j}:=by have q:=PySem.IsL.update e f;rw[o]at q;show I.write (x:=l) (e:=l) (by rw[m];show trivial) (.inl ()) (λv u k t=>(x_ s.heap (Obj.mapSeq f) (p_ k)).trans t) {_,q} ?_;show{r,its',_,p,q}
def aO.lnew(I:aO X a d H s)(f:aZ c e)(h:c.length<=sizeLine):aO X a d (aH H s.heap.objs.size (.lst c)) {s with heap:=s.heap.push {cls:=.type "list",data:=.seq e.toArray},toks:=t'}:=I.laid (λ_ _ q=>d_ _ q) (e_ _) {h,e,0,f,j_ _ ()}
theorem aO.fresh(I:aO X a d H s):H s.heap.objs.size=none:=I.hok.fresh (e_ _)
def aO.lstM(I:aO X a d H s)(h:H l=some (.lst g)):g.length<=sizeLine/\∃(f:O_)(n:Nat),aZ g f/\g.length=f.length/\s.heap.get? l=some {cls:=.type "list",data:=.seq f.toArray n}:=by obtain⟨z,f,n,r,e⟩:=I.hok l _ h;show(z,f,n,r,r.length,e,)
def y7{n:Nat}(h:n<=sizeLine):Builtin.List.listTooLong n=false:=by unfold Builtin.List.listTooLong;show op (by lia)
end
section
variable{X:Cx}
def GC:V->List V->Hp->VK->Prop:=λx b H Q=>∃l a y,x=.ref l/\b=[y]/\H l=some (.lst a)/\a.length<sizeLine/\Q .non (aH H l (.lst (a++[y])))
def cq:MtM X "list.append" GC:=by intro b s i H x j v k Q I f g h;obtain⟨l,m,y,rfl,rfl,c,o,q⟩:=h;cases f;obtain⟨u,rfl,ru⟩:=g.one;obtain⟨z,a,n,r,p,e⟩:=I.lstM c;show call_meets F.slot_list_append {_,e,()} F.entry_list_append (F.args_list_append_2 _ _) (PySem.list_append l a.toArray n u (by rw[m_];lia)) {e,?_};show{.non,_,I.lset (its':=a++[u]) c e (by simp) (r.append (.cons ru .nil)) ?_,(),q};rw[mu,List.length_singleton];lia
def GB:V->List V->Hp->VK->Prop:=λx d H Q=>∃l b a c,x=.ref l/\d=[.ref b]/\H l=some (.lst a)/\H b=some (.lst c)/\a.length+c.length<=sizeLine/\Q .non (aH H l (.lst (a++c)))
def wG:MtM X "list.extend" GB:=by
 intro g s w H x y v A Q I k m h;obtain⟨l,b,B,C,rfl,rfl,i,o,D,q⟩:=h;cases k;obtain⟨u,rfl,ru⟩:=m.one;cases ru;obtain⟨z,c,n,r,E,e⟩:=I.lstM i;obtain⟨G,a,n2,r2,p,t⟩:=I.lstM o;have f:c.toArray.size+a.toArray.size<=sizeLine:=by rw[m_,m_];lia
 have d:¬(!c.toArray.isEmpty&&Builtin.List.listTooLong (c.toArray.size+a.toArray.size))=true:=by rw[y7 f,Bool.and_false];show nn
 show call_meets F.slot_list_extend {_,e,()} F.entry_list_extend (F.args_list_extend_2 _ _) (AutoSeq1.list_extend_list_list_0 l c.toArray n b a.toArray n2 d (by rw[m_];lia) (by lia)) {e,t,?_}
 show{.non,_,I.lset (its':=c++a) i e (by simp) (r.append r2) ?_,(),q};rw[mu];lia
def MT:R2:=λx y H Q=>∃l b a c,x=.ref l/\y=.ref b/\H l=some (.lst a)/\H b=some (.lst c)/\a.length+c.length<=sizeLine/\∀p,H p=none->Q (.ref p) (aH H p (.lst (a++c)))
def Ak:lg X (binaryOp .Add) MT:=by
 intro d s p H x y v u Q I f g h;obtain⟨l,b,t,w,rfl,rfl,i,j,A,q⟩:=h;cases f;cases g;obtain⟨z,c,n,r,B,e⟩:=I.lstM i;obtain⟨C,a,n2,r2,k,m⟩:=I.lstM j;show PySem.P.add_list e m ?_ (by rw[m_,m_];lia);have o:c.toArray++a.toArray=(c++a).toArray:=by simp
 rw[o];show{.ref _,_,I.lnew (t':=s.toks) (r.append r2) (by rw[mu];lia),(),q _ I.fresh}
def MP:R2:=λx y H Q=>∃l k a,x=.ref l/\y=.int k/\H l=some (.lst a)/\-(2^63)<=k/\k<2^63/\a.length*k.toNat<=sizeLine/\∀p,H p=none->Q (.ref p) (aH H p (.lst (List.replicate k.toNat a).flatten))
def G7(a:List c)(k:Nat):(List.replicate k a).flatten.length=k*a.length:=by induction k with|zero=>simp|succ k b=>rw[t2,Nk,mu,b,Nat.succ_mul,Nat.add_comm]
def D0:lg X (binaryOp .Mult) MP:=by
 intro p s J H x y v u Q I A B h;obtain⟨l,k,K,rfl,rfl,C,h1,h2,w,q⟩:=h;cases A;obtain⟨t,rfl⟩:=B;obtain⟨z,b,n,r,D,e⟩:=I.lstM C;have d:b.toArray.size*k.toNat<=sizeLine:=by rw[m_,<-D];show w
 have f:¬b.toArray.size*k.toNat>(2^63-1)/8:=by
  have:(sizeLine:Nat)<=(2^63-1)/8:=by decide
  lia
 have g:¬(!Builtin.List.listFitsIndex k)=true:=by rw[fitsIndex_both h1 h2];show nn
 have c:¬Builtin.List.listTooLong (b.toArray.size*k.toNat)=true:=by rw[y7 d];show nn
 have i:List.foldl (λj o=>j++o) #[] (List.replicate (if b.toArray.isEmpty=true then 0 else k.toNat) b.toArray)=(List.replicate k.toNat b).flatten.toArray:=by
  have E:∀m:Nat,List.foldl (λj o=>j++o) #[] (List.replicate m b.toArray)=(List.replicate m b).flatten.toArray:=λm=>by have:=wQ b m [];rw[List.nil_append]at this;show this
  rw[E];cases b with|nil=>simp|cons a L=>rw[me (by simp)]
 show wpAny_binaryOp_repeat_ref (T:="list") (U:="int") (by decide) {_,e,()} (λG=>typeIs_int G k t) noFill_list_mul F.fills_int_mul F.slot_int_rmul repeat_list F.slot_int_index.lookup (call_meets F.slot_int_rmul (typeIs_int s k t) F.entry_int_rmul (F.args_int_rmul_2 _ _) (int___rmul___int_list k t l b.toArray n) {e,(),{_,e,()},call_meets F.slot_list_mul {_,e,()} F.entry_list_mul (F.args_list_mul_2 _ _) (AutoListH.list___mul___list_int_3 l b.toArray n k t g f c) {e,?_}})
 rw[i];show{.ref _,_,I.lnew (t':=s.toks) (r.rep k.toNat) (by rw[G7,Nat.mul_comm];show w),(),q _ I.fresh}
end
section
variable{c:Type}[DecidableEq c]
def bf(a:List (c×V))(k:c):Option V:=(a.find? λb=>decide (b.1=k)).map (·.2)
def fA(a:List (c×V))(k:c)(v:V):List (c×V):=if(a.any λb=>decide (b.1=k))=true then a.map (λb=>if b.1=k then(b.1,v)else b)else a++[(k,v)]
def dZ(a:List (c×V))(k:c):List (c×V):=a.filter λb=>decide (b.1≠k)
def cf{p:c×V}{r:List (c×V)}{k:c}(e:p.1=k):bf (p::r) k=some p.2:=by simp[bf,tx,e]
def bw{p:c×V}{r:List (c×V)}{k:c}(e:¬p.1=k):bf (p::r) k=bf r k:=by simp[bf,tx,e]
theorem lH(k:c):∀a:List (c×V),(a.any λd=>decide (d.1=k))=(bf a k).isSome
 |[]=>()|p::r=>by
  rw[D_]
  by_cases e:p.1=k
  ·simp only[cf e,ol e,Bool.true_or,Option.isSome_some]
  ·rw[bw e,op e,Bool.false_or];show lH k r
theorem yi(k j:c)(y:V):∀a:List (c×V),bf (a.map λd=>if d.1=k then(d.1,y)else d) j=(bf a j).map λx=>if j=k then y else x
 |[]=>()|p::r=>by
  have b:=yi k j y r;rw[o8]
  by_cases h:p.1=k
  ·rw[md h]
   by_cases e:p.1=j
   ·rw[cf (p:=(p.1,y)) e,cf e,Nv,md (e.symm.trans h)]
   ·rw[bw (p:=(p.1,y)) e,bw e,b]
  ·rw[me h]
   by_cases e:p.1=j
   ·rw[cf (p:=p) e,cf e,Nv,me (λz=>h (e.trans z))]
   ·rw[bw (p:=p) e,bw e,b]
theorem we(k j:c)(y:V):∀a:List (c×V),bf a k=none->bf (a++[(k,y)]) j=if j=k then some y else bf a j
 |[],_=>by
  by_cases e:k=j
  ·rw[md e.symm];show cf (p:=(k,y)) e
  ·rw[me (λz=>e z.symm)];show bw (p:=(k,y)) e|p::r,hn=>by
  rw[List.cons_append];have b:¬p.1=k:=λz=>by rw[cf z]at hn;cases hn
  rw[bw b]at hn;have d:=we k j y r hn
  by_cases e:p.1=j
  ·rw[cf e,cf e,me (λz=>b (e.trans z))]
  ·rw[bw e,bw e,d]
def CZ(d:List (c×V))(k j:c)(y:V):bf (fA d k y) j=if j=k then some y else bf d j:=by
 unfold fA
 by_cases a:(d.any λb=>decide (b.1=k))=true
 ·rw[md a,yi];rw[lH]at a
  by_cases e:j=k
  ·obtain⟨x,f⟩:=vr.mp a;rw[md e,e,f,Nv,md ()]
  ·rw[me e];cases bf d j with|none=>rfl|some x=>rw[Nv,me e]
 ·rw[me a];show we k j y d ?_;rw[lH]at a;cases q:bf d k with|none=>rfl|some x=>rw[q]at a;show(a ()).elim
def mh(a:List (c×V))(k:c)(v:V):(fA a k v).length<=a.length+1:=by
 unfold fA
 split
 ·rw[b_];lia
 ·rw[mu,o_,O3];lia
def pB{a:List (c×V)}{k:c}(v:V)(h:bf a k=none):fA a k v=a++[(k,v)]:=by unfold fA;rw[lH,h];show me (by decide)
def kM.isSome_eq(r:kM o u):o.isSome=u.isSome:=by cases o with
 |none=>cases u with|none=>rfl|some _=>show(show False from r).elim
 |some _=>cases u with|none=>show(show False from r).elim|some _=>rfl
theorem kM.getD(r:kM o u)(a:aV d e):aV (o.getD d) (u.getD e):=by cases o with
 |none=>cases u with|none=>show a|some _=>show(show False from r).elim
 |some _=>cases u with|none=>show(show False from r).elim|some _=>show r
def KV.val{a:List (c×V)}{g:List (c×Value)}(r:KV a g)(k:c):kM (bf a k) (valueAt g k):=by
 unfold KV at r
 induction r with|nil=>show True.intro|@cons p q j d h t i=>
  obtain⟨h1,h2⟩:=h
  by_cases e:p.1=k
  ·have f:q.1=k:=h1.symm.trans e;have b:valueAt (q::d) k=some q.2:=by simp[valueAt,tx,f]
   rw[cf e,b];show h2
  ·have f:¬q.1=k:=λz=>e (h1.trans z);have b:valueAt (q::d) k=valueAt d k:=by simp[valueAt,tx,f]
   rw[bw e,b];show i
theorem KV.any(r:KV a e)(k:c):(a.any λd=>decide (d.1=k))=e.any λd=>decide (d.1=k):=by
 unfold KV at r
 induction r with|nil=>rfl|cons h t b=>rw[D_,D_,b,h.1]
def KV.repl(r:KV d f)(k:c)(g:aV y u):KV (d.map λa=>if a.1=k then(a.1,y)else a) (f.map λa=>if a.1=k then(a.1,u)else a):=by
 unfold KV at r⊢
 induction r with|nil=>show .nil|@cons p q i j h t b=>
  rw[o8,o8];show .cons ?_ b;obtain⟨h1,h2⟩:=h
  by_cases e:p.1=k
  ·rw[md e,md (h1.symm.trans e)];show(h1,g,)
  ·rw[me e,me (λz=>e (h1.trans z))];show(h1,h2,)
def KV.put(r:KV a vs)(k:c)(d:aV y u):KV (fA a k y) (stored vs k u):=by
 unfold fA stored;rw[r.any k]
 by_cases e:(vs.any λb=>decide (b.1=k))=true
 ·rw[md e,md e];show r.repl k d
 ·rw[me e,me e];show Paired.snoc r {(),d}
def KV.drop(r:KV d g)(k:c):KV (dZ d k) (without g k):=by
 unfold KV at r⊢;unfold dZ without
 induction r with|nil=>show .nil|@cons p q j l h t f=>
  obtain⟨h1,h2⟩:=h;rw[Ol,Ol]
  by_cases e:p.1=k
  ·have a:¬decide (p.1≠k)=true:=by simp[e]
   have b:¬decide (q.1≠k)=true:=by simp[h1.symm.trans e]
   rw[me a,me b];show f
  ·have i:¬q.1=k:=λz=>e (h1.trans z);have a:decide (p.1≠k)=true:=by simp[e]
   have b:decide (q.1≠k)=true:=by simp[i]
   rw[md a,md b];show .cons (h1,h2,) f
theorem KV.length(r:KV a d):a.length=d.length:=Paired.length r
def zu(a:List (c×V))(k:c):(dZ a k).length<=a.length:=y2 _ _
end
def pS(r:aV (kV k) u):(aU P w).is k u=true:=by cases k with|inl i=>obtain⟨t,e⟩:=(show∃t,u=Value.int i t from r);subst e;show zc P w i t|inr x=>obtain⟨t,e⟩:=(show∃t,u=Value.str x t from r);subst e;show rB P w x t
theorem qJ:∀{a:List bZ}{c:O_},aZ (a.map kV) c->ItemsAre (aU P w) a c|[],_,r=>by rw[NW]at r;cases r;show .nil|k::a,_,r=>by rw[o8]at r;cases r with|cons h t=>show .cons (pS h) (qJ t)
abbrev KT(H:Hp):List (List bZ×V)->List (List bZ×Addr×Value)->Prop:=Paired λp q=>p.1=q.1/\H q.2.1=some (.tup (p.1.map kV))/\aV p.2 q.2.2
def KT.val{H:Hp}{a:List (List bZ×V)}{f:List (List bZ×Addr×Value)}(r:KT H a f)(k:List bZ):kM (bf a k) ((atKey f k).map (·.2)):=by induction r with|nil=>show True.intro|@cons p q i c h t g=>
  obtain⟨h1,_,h2⟩:=h
  by_cases e:p.1=k
  ·have d:q.1=k:=h1.symm.trans e;have b:atKey (q::c) k=some q.2:=by simp[atKey,tx,d]
   rw[cf e,b];show h2
  ·have d:¬q.1=k:=λz=>e (h1.trans z);have b:atKey (q::c) k=atKey c k:=by simp[atKey,tx,d]
   rw[bw e,b];show g
def KT.repl(r:KT H a d)(k:List bZ)(f:aV y u):KT H (a.map λc=>if c.1=k then(c.1,y)else c) (d.map (putAt k u)):=by induction r with|nil=>show .nil|@cons p q g i h t b=>
  rw[o8,o8];show .cons ?_ b;obtain⟨h1,h2,h3⟩:=h;unfold putAt
  by_cases e:p.1=k
  ·rw[md e,md (h1.symm.trans e)];show(h1,h2,f,)
  ·rw[me e,me (λz=>e (h1.trans z))];show(h1,h2,h3,)
def KT.put(r:KT H a c)(k:List bZ)(f:H b=some (.tup (k.map kV)))(d:aV y u):KT H (fA a k y) (storedH c k b u):=by
 have e:(a.any λg=>decide (g.1=k))=(atKey c k).isSome:=by rw[lH,(r.val k).isSome_eq,N6]
 unfold fA storedH;rw[e]
 by_cases q:(atKey c k).isSome=true
 ·rw[md q,md q];show r.repl k d
 ·rw[me q,me q];show Paired.snoc r {(),f,d}
def KT.keeps(r:KT H a d)(e:∀b c,H b=some (.tup c)->f b=some (.tup c)):KT f a d:=Paired.mapP r λ_ _ z=>{z.1,e _ _ z.2.1,z.2.2}
section
variable{P:Pa}{w:World}{H:Hp}{h:Heap}{a:Addr}
def HW(ok:lG P w H h)(e:Rd H a u):dw P w H h a u:=e.ok ok
def rK(ok:lG P w H h)(e:Rd H a (.dK c)):c.length<=sizeLine/\(a==sysModules)=false/\∃d,KV c d/\h.DictOf (aU P w) a d:=show dw P w H h a (.dK c)from HW ok e
def Ie(ok:lG P w H h)(e:H a=some (.dK c)):c.length<=sizeLine/\(a==sysModules)=false/\∃d,KV c d/\h.DictOf (aU P w) a d:=rK ok (.inl e)
def oo(ok:lG P w H h)(e:H a=some (.tup (c.map kV))):(tupleKind (aU P w)).is h c a:=by obtain⟨_,b,r,o,h1,h2,n,h3⟩:=(show dw P w H h a (.tup (c.map kV))from ok a _ e);show{o,b.toArray,n,h1,h2,h3,by simpa using qJ r}
def rJ(ok:lG P w H h)(e:Rd H a (.dT c)):c.length<=sizeLine/\(a==sysModules)=false/\∃d,KT H c d/\h.DictOfH (tupleKind (aU P w)) a d:=by
 obtain⟨z,y,d,r,o,es,ep,h1,h2,h3,h4,g⟩:=(show dw P w H h a (.dT c)from HW ok e);show{z,y,d,r,o,es,ep,h1,h2,h3,h4,λx b=>?_,g};have all:∀{l:List (List bZ×V)}{m:List (List bZ×Addr×Value)},KT H l m->∀x∈m,(tupleKind (aU P w)).is h x.1 x.2.1:=by
  intro l m q
  induction q with|nil=>intro x b;show nomatch b|@cons p q j k f t i=>
   intro x b;rcases vu.mp b with e|b
   ·subst e;show oo ok (by rw[<-f.1];show f.2.1)
   ·show i x b
 show all r x b
def L8(ok:lG P w H h)(e:H a=some (.dT c)):c.length<=sizeLine/\(a==sysModules)=false/\∃d,KT H c d/\h.DictOfH (tupleKind (aU P w)) a d:=rJ ok (.inl e)
end
def dA(H:Hp)(a:Addr)(y:V)(r:Option V):Prop:=(∃c k,Rd H a (.dK c)/\y=kV k/\r=bf c k)\/∃c k b,Rd H a (.dT c)/\y=.ref b/\H b=some (.tup (k.map kV))/\r=bf c k
def HQ(H:Hp)(a:Addr)(y v:V)(d:Hp):Prop:=(∃c k,H a=some (.dK c)/\y=kV k/\c.length<sizeLine/\d=aH H a (.dK (fA c k v)))\/∃c k b,H a=some (.dT c)/\y=.ref b/\H b=some (.tup (k.map kV))/\c.length<sizeLine/\d=aH H a (.dT (fA c k v))
theorem dA.k{H:Hp}{a:Addr}{c:List (bZ×V)}{k:bZ}(e:H a=some (.dK c)):dA H a (kV k) (bf c k):=.inl {c,k,.inl e,(),()}
theorem HQ.k{H:Hp}{a:Addr}{c:List (bZ×V)}{k:bZ}{v:V}(e:H a=some (.dK c))(d:c.length<sizeLine):HQ H a (kV k) v (aH H a (.dK (fA c k v))):=.inl {c,k,e,(),d,()}
section
variable{X:Cx}{d:O8}{f:St}{H:Hp}{s:Shared}{a:Addr}{y v:V}{u r:Value}{o:Option V}{A:Around}{E:O7}
def aO.big(I:aO X d f H s):sysModules<s.heap.objs.size:=by have h:mainGlobals<s.heap.objs.size:=(I.mod.glob.keeps I.bk).lt;show E_ (by decide) h
def CG(C:A.units+1<cLine)(I:aO X d f H s)(g:dA H a y (some v))(x:aV y u)(h:∀j B,aO X d f H B->aV v j->Q j B):wpAny (model X.prog X.w) A (getItem (.ref a) u) Q E s:=by
 rcases g with⟨m,k,e,n,l⟩|⟨m,k,b,e,n,D,l⟩
 ·subst n;obtain⟨z,hd,F,c,dd⟩:=rK I.hok e;obtain⟨j,q,i⟩:=kM.some_of (v:=v) (o:=valueAt F k) (by rw[l];show c.val k);show wpAny_getItem_of (pS x) dd.mapOf q (h j _ (I.tok _) i)
 ·subst n;cases(show u=Value.ref b from x);obtain⟨z,hd,G,c,dd⟩:=rJ I.hok e;obtain⟨j,q,i⟩:=kM.some_of (v:=v) (o:=(atKey G k).map (·.2)) (by rw[l];show c.val k);obtain⟨p,J,t⟩:=Option.map_eq_some_iff.mp q;show wpAny_getItem_heap (Ng C) (oo I.hok D) dd J ?_;rw[t];show h j _ (I.tok _) i
def M3(p:A.units+1<cLine)(I:aO X d f H s)(g:dA H a y o)(m:aV y u)(h:∀n,aO X d f H n->Q (.bool o.isSome) n):wpAny (model X.prog X.w) A (compareOp .In u (.ref a)) Q E s:=by
 rcases g with⟨i,k,e,j,l⟩|⟨i,k,b,e,j,t,l⟩
 ·subst j;obtain⟨z,hd,x,c,dd⟩:=rK I.hok e;show wpAny_in_of (pS m) hd dd.mapOf ?_;rw[<-(c.val k).isSome_eq,<-l];show h _ (I.tok _)
 ·subst j;cases(show u=Value.ref b from m);obtain⟨z,hd,B,c,dd⟩:=rJ I.hok e;show wpAny_in_heap (Ng p) (oo I.hok t) hd dd ?_;have q:=(c.val k).isSome_eq;rw[N6]at q;rw[<-q,<-l];show h _ (I.tok _)
def Hu(p:A.units+1<cLine)(I:aO X d f H s)(g:dA H a y o)(m:aV y u)(h:∀n,aO X d f H n->Q (.bool (!o.isSome)) n):wpAny (model X.prog X.w) A (compareOp .NotIn u (.ref a)) Q E s:=by
 rcases g with⟨i,k,e,j,l⟩|⟨i,k,b,e,j,t,l⟩
 ·subst j;obtain⟨z,hd,x,c,dd⟩:=rK I.hok e;show wpAny_notIn_of (pS m) hd dd.mapOf ?_;rw[<-(c.val k).isSome_eq,<-l];show h _ (I.tok _)
 ·subst j;cases(show u=Value.ref b from m);obtain⟨z,hd,B,c,dd⟩:=rJ I.hok e;show wpAny_notIn_heap (Ng p) (oo I.hok t) hd dd ?_;have q:=(c.val k).isSome_eq;rw[N6]at q;rw[<-q,<-l];show h _ (I.tok _)
def sO(I:aO X d f H s)(c:Mh (H a))(g:Heap.SameBut a s.heap h')(h:∃q,h'.get? a=some q)(new:dw X.prog X.w (aH H a ob) h' a ob):aO X d f (aH H a ob) {s with heap:=h',toks:=j}:=I.write (x:=a) (e:=a) c (.inl ()) (λb q i z=>(g.2 b i).trans z) h new
def Fb(z:c.length<=sizeLine)(hd:(a==sysModules)=false)(e:KV c g)(dd:h'.DictOf (aU P w) a g):dw P w h h' a (.dK c):=(z,hd,g,e,dd,)
def CF(M:A.units+1<cLine)(I:aO X d f H s)(g:HQ H a y v N)(F:aV y u)(G:aV v r)(h:∀J,aO X d f N J->Q Unit.unit J):wpAny (model X.prog X.w) A (setItem (.ref a) u r) Q E s:=by
 rcases g with⟨i,k,e,p,l,t⟩|⟨i,k,b,e,p,K,l,t⟩
 ·subst p t;obtain⟨z,hd,O,j,dd⟩:=Ie I.hok e;have x:O.length<=sizeLine:=by rw[<-j.length];show z
  have B:(fA i k v).length<=sizeLine:=by have:=mh i k v;lia
  show wpAny_setItem_pairs (hsz:=x) (pS F) dd λh' m D=>h _ ?_;have P:∃q,h'.get? a=some q:=let⟨q,_,_,n,_⟩:=m;(q,n,);show sO I (by rw[e];show True.intro) D P (Fb B hd (j.put k G) m)
 ·subst p t;cases(show u=Value.ref b from F);obtain⟨z,hd,R,j,dd⟩:=L8 I.hok e;have x:R.length<=sizeLine:=by rw[<-Paired.length j];show z
  have B:(fA i k v).length<=sizeLine:=by have:=mh i k v;lia
  show wpAny_setItem_heap (hsz:=x) (Ng M) (oo I.hok K) dd λh' m D=>h _ ?_;obtain⟨q,es,ep,n,h2,h3,h4,_,S⟩:=m;show sO I (by rw[e];show True.intro) D (q,n,) {B,hd,_,(j.put k K G).keeps λc T L=>?_,q,es,ep,n,h2,h3,h4,S};rw[ak (Lz L e (nofun))];show L
end
section
variable{X:Cx}{d:O8}{f:St}{H:Hp}{s:Shared}{a:Addr}{c:List (bZ×V)}{k:bZ}{u:Value}{A:Around}{E:O7}
def L9(I:aO X d f H s)(e:H a=some (.dK c))(n:aV (kV k) u)(l:bf c k=some v)(hm:g=[]\/∃x,g=[x])(h:∀j r,aO X d f (aH H a (.dK (dZ c k))) r->aV v j->Q j r):wpAny (model X.prog X.w) A (call (.builtin "dict.pop") (.ref a::u::g)) Q E s:=by
 obtain⟨z,hd,y,b,dd⟩:=Ie I.hok e;obtain⟨j,B,p⟩:=kM.some_of (v:=v) (o:=valueAt y k) (by rw[<-l];show b.val k);have C:(keyPart u).isSome=true:=by cases k with|inl i=>obtain⟨t,q⟩:=(show∃t,u=Value.int i t from n);subst q;rfl|inr x=>obtain⟨t,q⟩:=(show∃t,u=Value.str x t from n);subst q;rfl
 have D:argsOk "dict.pop" {.ref a::u::g,[]}:=by
  rcases hm with q|⟨x,q⟩
  ·subst q;show PySem.F.args_dict_pop_2 _ _
  ·subst q;show PySem.F.args_dict_pop_3 _ _ _
 show Nh PySem.F.slot_dict_pop dd.typeIs PySem.F.entry_dict_pop D (meets_dict_pop_there (aU X.prog X.w) a (pS n) g hm C) {y,j,dd,by rw[<-b.length];show z,B,λh' m G=>h j _ ?_ p}
 have J:∃q,h'.get? a=some q:=let⟨q,_,_,K,_⟩:=m;(q,K,);show sO I (by rw[e];show True.intro) G J (Fb (nr (zu c k) z) hd (b.drop k) m)
end
def Mg(i:Expr):Prop:=∀a iv,subscripted i false a iv=operate [a,iv] (getItem a iv)
def FZ{prog:Pa}{w:World}{A:Around}{E:O7}{s:Shared}{env:Env}{c a:Expr}{j:Pos}{T id:String}{Q:O7}(l:typeLookup (.type T) "__getitem__"=pure (some (.builtin id)))(m:Mg a)(h:wpAny (model prog w) A (eval c env) (λo s₁=>wpAny (model prog w) A (eval a env) (λi d=>d.TypeIs o T/\wpAny (model prog w) A (getItem o i) Q E d) E s₁) E s):wpAny (model prog w) A (eval (.Subscript c a j) env) Q E s:=by
 show Subscript_ (wpAny_mono h (λo s₁ f=>wpAny_mono f (λi d b=>?_) λ_ _ x=>x) λ_ _ x=>x);obtain⟨k,b⟩:=b;unfold subscriptTail;show a_ ?_;rw[getitemInPython_of_ne k.not_modules];show a_ (Ot k l ?_);have fin:wpAny (model prog w) A (subscripted a false o i) (λr e=>wpAny (model prog w) A (letTemporaryGo c o r>>=λ_=>pure r) Q E e) E d:=by rw[m o i];show wpAny_operating (wpAny_mono b (λr e g=>a_ (wpAny_letTemporaryGo (f_ g))) λ_ _ x=>x)
 first|show f_ (a_ fin)|show a_ (f_ (a_ fin))|show a_ fin
def zw(I:aO X d f H s)(g:dA H a y o):s.TypeIs (.ref a) "dict":=by
 rcases g with⟨c,k,e,_,_⟩|⟨c,k,b,e,_,_,_⟩
 ·obtain⟨_,_,h,_,dd⟩:=rK I.hok e;show dd.typeIs
 ·obtain⟨_,_,i,_,dd⟩:=rJ I.hok e;show dd.typeIs
def K8(d ty:TE):TE:=λb H Q=>d b H λx e=>ty b e λy c=>∃a v,x=.ref a/\dA c a y (some v)/\Q v c
def MK(ty d:TE):TE:=λb H Q=>ty b H λy e=>d b e λx c=>∃a o,x=.ref a/\dA c a y o/\Q (.bl o.isSome) c
def FY(ty d:TE):TE:=λb H Q=>ty b H λy e=>d b e λx c=>∃a o,x=.ref a/\dA c a y o/\Q (.bl (!o.isSome)) c
section
variable{X:Cx}{o i:Expr}{f:Pos}{c ty:TE}
def cQ(r:X.A.units+1<cLine)(t:PE X o c)(hi:PE X i ty)(w:Mg i):PE X (.Subscript o i f) (K8 c ty):=by intro b s p H Q I h;show FZ PySem.F.slot_dict_getitem.lookup w (cy (t b s p H _ I h) λu z k=>?_);obtain⟨x,B,I1,C,D⟩:=k;show cy (hi b z p B _ I1 D) λiv L k=>?_;obtain⟨y,E,q,G,a,v,ex,g,J⟩:=k;subst ex;obtain rfl:u=Value.ref a:=C;show{zw q g,CG r q g G λM N K n=>(v,E,K,n,J,)}
def Aj(p:X.A.units+1<cLine)(hi:PE X i ty)(q:PE X o c):PC X .In i o (MK ty c):=by intro b s n H Q I h;show cy (hi b s n H _ I h) λiv r k=>?_;obtain⟨y,t,I1,v,w⟩:=k;show cy (q b r n t _ I1 w) λu G k=>?_;obtain⟨x,z,B,C,a,D,ex,g,E⟩:=k;subst ex;obtain rfl:u=Value.ref a:=C;show M3 p B g v λJ F=>{.bl D.isSome,z,F,(),E}
def mJ(p:X.A.units+1<cLine)(hi:PE X i ty)(q:PE X o c):PC X .NotIn i o (FY ty c):=by intro b s n H Q I h;show cy (hi b s n H _ I h) λiv r k=>?_;obtain⟨y,t,I1,v,w⟩:=k;show cy (q b r n t _ I1 w) λu G k=>?_;obtain⟨x,z,B,C,a,D,ex,g,E⟩:=k;subst ex;obtain rfl:u=Value.ref a:=C;show Hu p B g v λJ F=>{.bl (!D.isSome),z,F,(),E}
end
def Fc(h:Heap)(a:sysModules<h.objs.size):dw P w H (h.push {cls:=.type "dict",data:=.dict #[]}) h.objs.size (.dK []):={ov _,I_.mpr (p_ (nB a)),[],.nil,Heap.DictOf.new h}
def IH:TE:=λ_ H Q=>∀p,H p=none->Q (.ref p) (aH H p (.dK []))
section
variable{X:Cx}{c:Pos}
def ky:PE X (.Dict [] [] c) IH:=λb s d H Q I h=>wpAny_Dict_empty {.ref s.heap.objs.size,_,I.laid (a:=s.heap.objs.size) (o:=.dK []) (t':=s.toks) (λ_ _ q=>d_ _ q) (e_ _) (Fc s.heap I.big),(),h _ (I.hok.fresh (e_ _))}
end
structure M1(X:Cx)(o:Expr)(m:Str)(apos:Pos)(e:Expr)(cpos:Pos):Prop where
 base:attributeBase o m X.env (eval o X.env)=eval o X.env
 few:((backTo cpos (starEach [e] X.env)).all (λx=>!x.1)&&(backToKw cpos (keywordEach [] X.env)).all (λx=>x.1.isSome)&&decide (([e]:Pc).length+([]:List Keyword).length+(if([]:List Keyword).isEmpty then 0 else 1)<30))=true
 line:(apos.endLine==cpos.line)=true
 trees:backTo cpos (starEach [e] X.env)=[(false,eval e X.env)]
structure M2(X:Cx)(o:Expr)(m:Str)(apos:Pos)(e f:Expr)(cpos:Pos):Prop where
 base:attributeBase o m X.env (eval o X.env)=eval o X.env
 few:((backTo cpos (starEach [e,f] X.env)).all (λx=>!x.1)&&(backToKw cpos (keywordEach [] X.env)).all (λx=>x.1.isSome)&&decide (([e,f]:Pc).length+([]:List Keyword).length+(if([]:List Keyword).isEmpty then 0 else 1)<30))=true
 line:(apos.endLine==cpos.line)=true
 trees:backTo cpos (starEach [e,f] X.env)=[(false,eval e X.env),(false,eval f X.env)]
def ME(H:Hp)(a:Addr):Prop:=(∃b,Rd H a (.dK b))\/∃b,Rd H a (.dT b)
def AD(I:aO X f g H s)(d:ME H a):s.TypeIs (.ref a) "dict"/\(∀b,Value.ref a=.ref b->∃ob,s.heap.get? b=some ob/\ob.dict=none)/\(a==sysModules)=false:=by
 rcases d with⟨c,e⟩|⟨c,e⟩
 ·obtain⟨_,hd,h,_,dd⟩:=rK I.hok e;show{dd.typeIs,λb q=>?_,hd};cases q;obtain⟨ob,_,_,h1,h2,_⟩:=dd;show(ob,h1,h2.2.1,)
 ·obtain⟨_,hd,i,_,dd⟩:=rJ I.hok e;show{dd.typeIs,λb q=>?_,hd};cases q;obtain⟨ob,_,_,h1,h2,_⟩:=dd;show(ob,h1,h2.2.1,)
section
variable{X:Cx}{c:O8}{f:St}{H:Hp}{s:Shared}{a:Addr}{y d:V}{u r:Value}{o:Option V}{A:Around}{E:O7}
def Kj(t:A.units+1<cLine)(I:aO X c f H s)(g:dA H a y o)(n:aV y u)(h:∀p q,aO X c f H q->aV (o.getD .non) p->Q p q):wpAny (model X.prog X.w) A (call (.builtin "dict.get") [.ref a,u]) Q E s:=by
 rcases g with⟨j,k,e,m,l⟩|⟨j,k,b,e,m,v,l⟩
 ·subst m;obtain⟨z,hd,B,i,dd⟩:=rK I.hok e;show Nh PySem.F.slot_dict_get dd.typeIs PySem.F.entry_dict_get (PySem.F.args_dict_get_2 _ _) (meets_dict_get (aU X.prog X.w) a (pS n) hd) {_,dd.mapOf,h _ _ (I.tok _) ?_};rw[l];show(i.val k).getD ()
 ·subst m;cases(show u=Value.ref b from n);obtain⟨z,hd,x,i,dd⟩:=rJ I.hok e;show Nh PySem.F.slot_dict_get dd.typeIs PySem.F.entry_dict_get (PySem.F.args_dict_get_2 _ _) (meetsH_dict_get (tupleKind (aU X.prog X.w)) a b hd) {Ng t,k,x,oo I.hok v,dd,h _ _ (I.tok _) ?_};rw[l];show(i.val k).getD ()
def Ki(v:A.units+1<cLine)(I:aO X c f H s)(g:dA H a y o)(n:aV y u)(p:aV d r)(h:∀q t,aO X c f H t->aV (o.getD d) q->Q q t):wpAny (model X.prog X.w) A (call (.builtin "dict.get") [.ref a,u,r]) Q E s:=by
 rcases g with⟨j,k,e,m,l⟩|⟨j,k,b,e,m,x,l⟩
 ·subst m;obtain⟨z,hd,C,i,dd⟩:=rK I.hok e;show Nh PySem.F.slot_dict_get dd.typeIs PySem.F.entry_dict_get (PySem.F.args_dict_get_3 _ _ _) (meets_dict_get_default (aU X.prog X.w) a (pS n) hd r) {_,dd.mapOf,h _ _ (I.tok _) ?_};rw[l];show(i.val k).getD p
 ·subst m;cases(show u=Value.ref b from n);obtain⟨z,hd,B,i,dd⟩:=rJ I.hok e;show Nh PySem.F.slot_dict_get dd.typeIs PySem.F.entry_dict_get (PySem.F.args_dict_get_3 _ _ _) (meetsH_dict_get_default (tupleKind (aU X.prog X.w)) a b hd r) {Ng v,k,B,oo I.hok x,dd,h _ _ (I.tok _) ?_};rw[l];show(i.val k).getD p
end
def IJ(e ty:TE):TE:=λb H Q=>e b H λx c=>∃a,x=.ref a/\ME c a/\ty b c λy d=>∃o,dA d a y o/\Q (o.getD .non) d
def II(e ty f:TE):TE:=λb H Q=>e b H λx c=>∃a,x=.ref a/\ME c a/\ty b c λy g=>f b g λz d=>∃o,dA d a y o/\Q (o.getD z) d
def IF(f ty:TE):TE:=λc H Q=>f c H λx d=>∃a,x=.ref a/\ME d a/\ty c d λy e=>∃b k v,e a=some (.dK b)/\y=kV k/\bf b k=some v/\Q v (aH e a (.dK (dZ b k)))
section
variable{X:Cx}{o e f:Expr}{i c:Pos}{j ty n:TE}
def uh(q:X.A.units+1<cLine)(r:PE X o j)(t:PE X e ty)(m:M1 X o "get" i e c):PE X (.Call (.Attribute o "get" i) [e] [] c) (IJ j ty):=by intro b s p H Q I h;show NC m.base m.few m.line PySem.F.plainAttrs_dict PySem.F.slot_dict_get PySem.F.type_dict_get (cy (r b s p H _ I h) λu v k=>?_);obtain⟨x,w,I1,z,a,ex,d,B⟩:=k;subst ex;obtain rfl:u=Value.ref a:=z;obtain⟨C,D,_⟩:=AD I1 d;show{C,D,?_};rw[m.trees];show t0 () (z4 (to (cy (t b v p w _ I1 B) λiv M k=>?_)));obtain⟨y,E,G,J,N,g,K⟩:=k;show z_ ?_;show Kj q G g J λO P L l=>{_,E,L,l,K}
def ug(p:X.A.units+1<cLine)(q:PE X o j)(r:PE X e ty)(t:PE X f n)(m:M2 X o "get" i e f c):PE X (.Call (.Attribute o "get" i) [e,f] [] c) (II j ty n):=by
 intro b s k H Q I h;show NC m.base m.few m.line PySem.F.plainAttrs_dict PySem.F.slot_dict_get PySem.F.type_dict_get (cy (q b s k H _ I h) λu v w=>?_);obtain⟨x,B,I1,C,a,ex,d,D⟩:=w;subst ex;obtain rfl:u=Value.ref a:=C;obtain⟨E,G,_⟩:=AD I1 d;show{E,G,?_};rw[m.trees];show t0 () (z4 (to (cy (r b v k B _ I1 D) λiv J⟨y,K,L,M,N⟩=>to (cy (t b J k K _ L N) λU V⟨z,O,P,R,W,g,S⟩=>z_ ?_))))
 show Ki p P g M R λY Z T l=>{_,O,T,l,S}
def yP(r:PE X o j)(t:PE X e ty)(m:M1 X o "pop" i e c):PE X (.Call (.Attribute o "pop" i) [e] [] c) (IF j ty):=by intro b s q H Q I h;show NC m.base m.few m.line PySem.F.plainAttrs_dict PySem.F.slot_dict_pop PySem.F.type_dict_pop (cy (r b s q H _ I h) λu w g=>?_);obtain⟨x,z,I1,A,a,ex,d,B⟩:=g;subst ex;obtain rfl:u=Value.ref a:=A;obtain⟨C,D,_⟩:=AD I1 d;show{C,D,?_};rw[m.trees];show t0 () (z4 (to (cy (t b w q z _ I1 B) λiv O g=>?_)));obtain⟨y,P,E,G,J,k,v,K,L,l,M⟩:=g;show z_ ?_;subst L;show L9 E K G l (.inl ()) λR S N p=>{v,_,N,p,M}
end
end L2
namespace Att
open PySem PySem.W PySem.Calls PyProof.Rows
def sC:∀(ns:Pg)(c:O_),WellAll P h c (ns.map WData.int)->IntsAre c ns:=by
 intro ns
 induction ns with|nil=>intro c w;rw[NW]at w;cases w;show .nil|cons n ns d=>intro c w;rw[o8]at w;cases w with|cons a b=>cases a;show .cons _ _ (d _ b)
def Cb{l:OpenLaw}{n:Nat}(hn:l.most=some n){P:Params}{h:Heap}{args:List WData}{c:O_}(e:l.row.toRowW.claim.pre args=true)(i:WellAll P h c args):∃a m ns,c=[Value.ref a]/\args=[WData.list (ns.map WData.int)]/\h.get? a=some {cls:=.type "list",data:=.seq m.toArray}/\IntsAre m ns/\ns.length<=n:=by
 have j:WShape.hasAll [] args [.list .int]=true:=(pre_splitW e).1;have hc:l.pre.holds [] {args:=args}=true:=(pre_splitW e).2;obtain⟨d,r,rfl,h1,h2⟩:=hasAllW_cons j;obtain rfl:=hasAllW_nil h2;obtain⟨t,rfl,h3⟩:=hasW_list h1;obtain⟨ns,rfl⟩:=items_int h3;have b:ns.length<=n:=by
  unfold OpenLaw.pre at hc;have h4:(WTm.not (.lt (.lit (.int (n:Int))) (.len (.arg 0)))).holds [] {args:=[.list (ns.map .int)]}=true:=by have h4:=(holds_andW hc).1;rw[hn]at h4;show h4
  have g:=condW_of h4 (w_not (w_lt w_lit (w_len_list (w_arg ()))));rw[b_]at g;show OX λq=>?_;have k:(n:Int)<((ns.length:Nat):Int):=by lia
  first|(rw[ol k]at g;show absurd g (by decide))|(simp at g;lia)
 cases i with|cons o p=>cases p;cases o with|list s f=>show{_,_,ns,(),(),s,sC ns _ f,b}
def Cf(l:OpenLaw)(args:List WData):l.row.toRowW.claim.post args (.bool true) args=true:=postW_of (r:=l.row.toRowW) (X:=(true==true)) (show WShape.has [] (.bool true) .bool=true by first|rfl|decide|simp[WShape.has,WShape.arms,WShape.armsAll]) (show(WTm.eq .res (.lit (.bool true))).value [] {args:=args,res:=some (.bool true),after:=args}=some (.bool (true==true))from w_eq_bool (w_res ()) w_lit) ()
def zK{l:OpenLaw}{n:Nat}{q:Pa}{c:Pb}{x:(Str->Option Value)->Heap->Prop}{y:World->Heap->Prop}{d:DefRec}(hn:l.most=some n)(p:d.params.defaults=[])(call:∀(w:World)(s₀ s₁:Shared)(mg s:O9)(h:Addr)(o:Obj)(pm cd e:Value)(a:Addr)(g:O_)(ns:Pg),Ground q c [] x w s₀ mg s s₁.heap->y w s₁.heap->s₁.heap.get? h=some o->o.data=.func (docDef d.name d.params d.body d.scope pm cd e)->s₁.heap.CodeRec cd d.name->mg d.name=some (.ref h)->s₁.heap.get? a=some {cls:=.type "list",data:=.seq g.toArray}->IntsAre g ns->ns.length<=n->s₁.gens=#[]->codeAny (model l.prog w) callerA (.call (.ref h) {[.ref a],[]}) (λr m=>r=.ok (.ret (.bool true))/\OldK s₁.heap m.heap/\m.os=s₁.os/\AllBare m.gens) s₁):WalkO q c x y l.row.toRowW d [] (λf g=>PySem.call f g):=by intro w s₀ s₁ mg s G Y h o pm cd e D kV E hd t z u hg A B J i C F v H;obtain rfl:D=.none:=Dflts.none z p;obtain rfl:kV=.none:=Dflts.noKw z;obtain⟨a,g,ns,rfl,rfl,j,b,k⟩:=Cb hn i v;show enter_call (E2 (call w s₀ s₁ mg s h o pm cd e a g ns G Y E (fd_plain hd) t u j b k hg) λr m I=>?_);obtain⟨rfl,h2,h3,h4⟩:=I;show{.inl {.bool true,.bool true,[],(),λ_=>(),.bool true,Cf l _,λ_=>{List.Pairwise.nil,λ_ hm=>(nomatch hm)}},h2,h3,h4}
end Att
namespace L2
open PySem PySem.Spec PyProof.Rows
theorem wb:∀{a:O_}{ns:Pg},IntsAre a ns->aZ (ns.map V.int) a|_,_,.nil=>.nil|_,_,.cons n t h=>.cons {t,()} (wb h)
def yd(H:Hp):Prop:=∀b,H b=none\/∃o a,H b=some (.frz o (.lst a))
def EH{P:Pa}{w:World}{K:O6}{mg G:O9}{R:zQ}{k:Nat}{I a:Addr}{fd:FuncData}{x:Str}{sp:Sp}{s₁:Shared}{l:O_}{ns:Pg}(S:K.In s₁.heap)(t:s₁.heap.Ns mainGlobals mg)(f:s₁.heap.Ns builtinsNs G)(J:∀x:Str,x≠"__name__"->G x=bootBuiltins x)(y:s₁.heap.NoLimit)(hg:s₁.gens=#[])(E:s₁.heap.get? a=some {cls:=.type "list",data:=.seq l.toArray})(hi:IntsAre l ns)(T:ns.length<=sizeLine)(hr:eV k callerA)(F:∀base:Heap,K.In base->base.Ns mainGlobals mg->aP P w K mg base R k I fd [x] sp)(p:∀(s:Shared)(u:Value),BindsTo s fd {[u],[]} [(x,u)])(L:∀H:Hp,yd H->aR K H a (ns.map V.int)->sp [.ref a] H (λv _=>v=.bl true) λ_ _ _=>False)(M:∀H e g,R [] H s₁ (λ_ _ _=>False) e g->False):codeAny (model P w) callerA (.call (.ref I) {[.ref a],[]}) (λr g=>r=.ok (.ret (.bool true))/\OldK s₁.heap g.heap/\g.os=s₁.os/\AllBare g.gens) s₁:=by
 have U:=wb hi;have A:=hi.length;have j:∀H:Hp,yd H->aR K H a (ns.map V.int)->lG P w H s₁.heap->(∀b,H b≠none->b=a)->(H a≠none->K.lookup a=none)->codeAny (model P w) callerA (.call (.ref I) {[.ref a],[]}) (λr g=>r=.ok (.ret (.bool true))/\OldK s₁.heap g.heap/\g.os=s₁.os/\AllBare g.gens) s₁:=by
  intro H X hS hok Y hK;have c:∀{b:Addr}{o:Obj},s₁.heap.get? b=some o->H b=none->(xP s₁.heap H).get? b=some o:=λe n=>EW e n;have N:∀{b:Addr}{o:Obj}{es:Array DictEntry}{ep:Nat},s₁.heap.get? b=some o->o.data=.dict es ep->H b=none:=λ{b o es ep}e d=>by cases q:H b with|none=>rfl|some u=>have O:b=a:=Y b (by rw[q];simp);subst O;rw[E]at e;cases e;have d':Data.seq l.toArray _=Data.dict es ep:=d;cases d'
  have i:∀{b:Addr}{m:O9},s₁.heap.Ns b m->(xP s₁.heap H).Ns b m:=λ{b m}⟨o,es,ep,e,d,r⟩=>{o,es,ep,c e (N e d),d,r};have B:K.In (xP s₁.heap H):=λb o e=>c (S b o e) (by cases q:H b with|none=>rfl|some u=>have O:b=a:=Y b (by rw[q];simp);subst O;rw[hK (by rw[q];simp)]at e;cases e)
  have hM:Mi K mg (xP s₁.heap H):={B,i t,{G,i f,J},let⟨mc,h1,h2⟩:=y;{mc,i h1,h2}};have e0:AX P w K mg (xP s₁.heap H) callerA [] s₁ H:={(),hM,λb o e=>GS e,ON (Cz _ _),trivial,λb f=>absurd (show b∈([]:Pf)from f) (by simp),hok,.of_eq hg};show E2 ((F _ B (i t)).run callerA [] s₁ H {[.ref a],[]} [.ref a] [.ref a] _ _ hr e0 (p s₁ (.ref a)) (.cons () .nil) (L H X hS)) λr g h=>?_;cases r with|error e=>show(M H e g h).elim|ok fl=>cases fl with|next=>show False.elim h|brk=>show False.elim h|cont=>show False.elim h|ret u=>obtain⟨v,H',os,bare,un,C,r',q⟩:=h;have q':v=.bl true:=q;subst q';obtain rfl:u=Value.bool true:=r';show{(),OldK.of_keep λb o e=>?_,os,bare};cases q:H b with|none=>show un.keep b o e q (by intro z;show absurd (show b∈([]:Pf)from z) (by simp)) (by simp)|some u=>
     rcases X b with z|⟨ob,xs,z⟩
     ·rw[q]at z;cases z
     ·have z2:=un.frzs b ob _ z;obtain⟨Z,_⟩:=hok b _ z;obtain⟨e2,_⟩:=C b _ z2;rw[e]at Z;cases Z;show e2
 cases Q:K.lookup a with|some o=>have e:=S a o Q;rw[E]at e;cases e;show j (λ_=>none) (λ_=>.inl ()) (.inr {_,l.toArray,_,Q,(),(),(),by rw[m_,A];show T,by simpa using U}) (λb u z=>by have D:(none:Option HO)=some u:=z;cases D) (λb z=>absurd () z) λz=>absurd () z|none=>
  show j (λb=>if b=a then some (.frz {cls:=.type "list",data:=.seq l.toArray} (.lst (ns.map V.int)))else none) (λb=>?_) (.inl (.inr {{cls:=.type "list",data:=.seq l.toArray},md ()})) (λb u z=>?_) (λb z=>?_) λ_=>Q
  ·by_cases f:b=a
   ·show .inr {_,_,md f}
   ·show .inl (me f)
  ·by_cases f:b=a
   ·have D:=(md f).symm.trans z;cases D;subst f;show{E,by rw[b_];show T,l,_,U,E}
   ·have D:=(me f).symm.trans z;cases D
  ·by_cases f:b=a
   ·show f
   ·show absurd (me f) z
abbrev KOf{K:O6}{h:Heap}(_:K.In h):O6:=K
def FT{l:PySem.W.OpenLaw}{n k:Nat}{q:Pa}{i:Pb}{I:(Str->Option Value)->Heap->Prop}{C:World->Heap->Prop}{d:DefRec}{K:Params->O6}{CX:World->zQ}{sp:World->Sp}{x:Str}(hn:l.most=some n)(r:n<=sizeLine)(t:d.params.defaults=[])(J:eV k callerA)(L:∀(w:World)(h:Heap),C w h->(K w.params).In h)(F:∀(w:World)(mg:O9)(p:Addr)(h:Heap),(K w.params).In h->h.Ns mainGlobals mg->mg d.name=some (.ref p)->∃fd:FuncData,(∀(s:Shared)(u:Value),BindsTo s fd {[u],[]} [(x,u)])/\∀base:Heap,(K w.params).In base->base.Ns mainGlobals mg->aP l.prog w (K w.params) mg base (CX w) k p fd [x] (sp w))(y:∀(w:World)(H:Hp)(a:Addr)(ns:Pg),ns.length<=n->yd H->aR (K w.params) H a (ns.map V.int)->sp w [.ref a] H (λv _=>v=.bl true) λ_ _ _=>False)(z:∀(w:World)(H:Hp)(s:Shared)(e:Value)(A:Shared),CX w [] H s (λ_ _ _=>False) e A->False):PySem.W.WalkO q i I C l.row.toRowW d [] (λf D=>PySem.call f D):=by show Att.zK hn t λw s₀ s₁ mg S p o pm cd M a D ns G Y U hd N B m j c hg=>?_;have E:=L w _ Y;obtain⟨fd,O,P⟩:=F w mg p _ E G.T.g B;show EH E G.T.g G.T.b G.T.builtins G.T.nolimit hg m j (nr c r) J P O (λH Q R=>y w H a ns c Q R) λH e A=>z w H s₁ e A
def CY{l:PySem.W.OpenLaw}{n k:Nat}{q:Pa}{c:Pb}{t:(Str->Option Value)->Heap->Prop}{p:World->Heap->Prop}{d:DefRec}{K:Params->O6}{CX:zQ}{sp:O6->Sp}{x:Str}(hn:l.most=some n)(g:n<=sizeLine)(i:d.params.defaults=[])(y:eV k callerA)(z:∀(w:World)(h:Heap),p w h->(K w.params).In h)(F:∀(w:World)(mg:O9)(r:Addr)(h:Heap),(K w.params).In h->h.Ns mainGlobals mg->mg d.name=some (.ref r)->∃fd:FuncData,(∀(s:Shared)(u:Value),BindsTo s fd {[u],[]} [(x,u)])/\∀base:Heap,(K w.params).In base->base.Ns mainGlobals mg->aP l.prog w (K w.params) mg base CX k r fd [x] (sp (K w.params)))(j:∀(K:O6)(H:Hp)(a:Addr)(ns:Pg),ns.length<=n->yd H->aR K H a (ns.map V.int)->sp K [.ref a] H (λv _=>v=.bl true) λ_ _ _=>False)(m:∀(H:Hp)(s:Shared)(e:Value)(o:Shared),CX [] H s (λ_ _ _=>False) e o->False):PySem.W.WalkO q c t p l.row.toRowW d [] (λf A=>PySem.call f A):=FT (K:=K) (CX:=λ_=>CX) (sp:=λw=>sp (K w.params)) hn g i y z F (λw H a ns h1 h2 h3=>j (K w.params) H a ns h1 h2 h3) λ_ H s e o=>m H s e o
def pW(s:Stmt):Arguments:=match s with|.FunctionDef _ a _ _ _ _ _ _ _ _=>a|_=>{posonlyargs:=[],args:=[],vararg:=none,kwonlyargs:=[],kw_defaults:=[],kwarg:=none,defaults:=[]}
def gQ(s:Stmt):List Stmt:=match s with|.FunctionDef _ _ b _ _ _ _ _ _ _=>b|_=>[]
def ai(s:Stmt):Scope:=match s with|.FunctionDef _ _ _ _ _ _ a _ _ _=>a|_=>{kind:=.function,names:=[],isGenerator:=false,isCoroutine:=false}
abbrev cU:zQ:=λ_ _ _ _ _ _=>False
abbrev E0:XK:=λ_ _ _=>False
def aQ:mz cU X E0:=λ_ _ _ _ _ _ _ h=>h.elim
structure yf(K:O6)(x qual:Str)(st:Stmt)(f:Addr)(fd:FuncData):Prop where
 ex:∃(oc:Value)(od:Option Addr)(kV doc pm:Value)(an:Option Addr)(cdv ct:Value)(osl:Array (Option Value)),fd=PySem.W.fnOf x qual (pW st) (gQ st) (ai st) .none kV doc pm an cdv ct/\K.lookup f=some {oc,od,.func fd,osl}/\PySem.W.codeIn K cdv qual=true
 kp:PySem.W.keepIn K (.ref f)=true
section
variable{P:Pa}{w:World}{K:O6}{mg:O9}{base:Heap}
def yf.ok{x a:Str}{st:Stmt}{f:Addr}{fd:FuncData}{N g:Pb}{k:Nat}{sp:Sp}(F:yf K x a st f fd)(S:ay N g (ai st))(len:∀d H Q E,sp d H Q E->d.length=g.length)(e:∀(c:Value)(A:Around)(outer:List Env)(s:Shared)(H:Hp)(d:List V)(Q:VK)(E:XK),eV k (A.deeper (envOfC a (ai st) s.heap.objs.size f c))->sp d H Q E->∃t,ve (qN cU P w K mg base N a (ai st) f c A outer s H E).nox (gQ st) t/\t {nx:=λ_ j=>Q .non j,rt:=Q} (i6 N d) H):aP P w K mg base cU (k+1) f fd g sp:=by obtain⟨oc,o,kV,l,pm,p,c,ct,m,rfl,lk,b⟩:=F.ex;show Ia lk b S len λA outer s H d Q E n i=>?_;obtain⟨t,h,q⟩:=e c A outer s H d Q E n i;show(t,h.nox,q,)
def yf.binds{x a:Str}{st:Stmt}{f:Addr}{fd:FuncData}{e:Pb}(F:yf K x a st f fd)(h:∀(kV c pm:Value)(g:Option Addr)(d ct:Value)(i:O_),i.length=e.length->bindArgs (PySem.W.fnOf x a (pW st) (gQ st) (ai st) .none kV c pm g d ct) {i,[]}=pure (e.zip i)):fX K fd e []:=by obtain⟨oc,k,kV,c,pm,g,d,ct,b,rfl,lk,j⟩:=F.ex;show .all (h kV c pm g d ct)
def AI{x a:Str}{st:Stmt}{f:Addr}{oc:Value}{i h:Option Addr}{g:Array (Option Value)}{kV e pm d ct:Value}(l:K.lookup f=some {oc,i,.func (PySem.W.fnOf x a (pW st) (gQ st) (ai st) .none kV e pm h d ct),g})(c:PySem.W.codeIn K d a=true)(k:PySem.W.keepIn K (.ref f)=true):yf K x a st f (PySem.W.fnOf x a (pW st) (gQ st) (ai st) .none kV e pm h d ct):={{oc,i,kV,e,pm,h,d,ct,g,(),l,c},k}
end
def b7(a:eV k A):A.units+1<cLine:=Ni (Nat.add_le_add_left (by decide:1<=64) _) a.units
section
variable{X:Cx}
def Y(i:Nat)(c:X.N[i]?=some x:=by rfl)(d:MA X.env.scope x:=by first|show Or.inl ()|show Or.inr (Or.inl ())|show Or.inr (Or.inr ()))(hd:(x==("__debug__":Str))=false:=by decide)(a:(x==("__classdict__":Str))=false:=by decide):PE X (.Name x e) (IB i):=Jw c d hd a
end
def cj{A B:Prop}(h:B):if false=true then A else B:=by rw[me nn];show h
def bB{A B:Prop}(h:A):if true=true then A else B:=by rw[md ()];show h
def am(H a:Hp):Prop:=∀b o,H b=some o->a b=some o
def am.refl(H:Hp):am H H:=λ_ _ h=>h
def am.trans(a:am H d)(b:am d e):am H e:=λc o h=>b c o (a c o h)
def am.free(e:am H a)(h:a l=Option.none):H l=Option.none:=by cases q:H l with|none=>rfl|some o=>rw[e l o q]at h;cases h
def am.seq{K:O6}{H c:Hp}{a:Addr}{d:List V}(e:am H c)(h:aR K H a d):aR K c a d:=by
 rcases h with(h|⟨o,h⟩)|h
 ·show .inl (.inl (e _ _ h))
 ·show .inl (.inr {o,e _ _ h})
 ·show .inr h
section
variable{a:Type}[DecidableEq a]
def wT{p:a×V}{r:List (a×V)}{k:a}(e:p.1=k):dZ (p::r) k=dZ r k:=by unfold dZ;rw[Ol,me (by simp[e])]
def wU{p:a×V}{r:List (a×V)}{k:a}(e:¬p.1=k):dZ (p::r) k=p::dZ r k:=by unfold dZ;rw[Ol,md (by simp[e])]
end
end L2
set_option maxHeartbeats 4000000
namespace L2
open PySem PySem.Spec PyProof.Rows
section
variable{prog:Pa}{w:World}{A:Around}{R:Result->Shared->Prop}{s:Shared}
def kA(h:wpAny M A t Q (λ_ _=>False) s)(k:∀a s,Q a s->c a s):wpAny M A t c E s:=wpAny_mono h k λ_ _ z=>z.elim
def zA(J:Nat->Shared->Prop)(l:∀n s,J n s->wpAny (model prog w) A (pyNext z) (λr s₁=>match r with|none=>R (.ok .next) s₁|some v=>wpAny (model prog w) A (letOwnedTupleGo a z v) (λ_ d=>wpAny (model prog w) A (assign a env v) (λ_ e=>wpAny (model prog w) A (forIn k true λc r=>if r=true then do let ok<-isTrue c env (eval c env);pure (ForInStep.yield ok)else pure (ForInStep.yield r)) (λok b=>if ok=true then wpAny (model prog w) A (eval o env) (λx f=>wpAny (model prog w) A (call (.builtin "list.append") [p,x]) (λ_ g=>∃m,m<n/\J m g) (λ_ _=>False) f) (λ_ _=>False) b else∃m,m<n/\J m b) (λ_ _=>False) e) (λ_ _=>False) d) (λ_ _=>False) s₁) (λ_ _=>False) s)(n:Nat)(h:J n s):codeAny (model prog w) A (.compLoop (.ListComp o [{a,iter,k,0}] scope B) 0 z p env) R s:=by show codeAny_loop () J (λn s C=>?_) n h;change wpAny _ A ((compTurn (.ListComp o [{a,iter,k,0}] scope B) 0 z p env).onRaise (λx=>do noteFrame x env;theTreesLotGoes x)) _ _ s;show wpAny_noted ?_;rw[compTurn_list];show a_ (wpAny_standAt (a_ (kA (l n s C) (λr s₁ i=>?_))));cases r with|none=>show f_ i|some v=>show a_ (kA i λ_ d q=>a_ (kA q λ_ e t=>a_ (kA t λok b j=>?_)));cases ok with|false=>show f_ {(),j}|true=>show a_ (a_ (kA j λx f u=>a_ (kA u λ_ g y=>f_ (f_ {(),y}))))
end
theorem lD{f:Str->NameKind->NameKind}:∀(l:List (Str×NameKind))(x:Str),(l.map λp=>(p.1,f p.1 p.2)).lookup x=(l.lookup x).map (f x)|[],_=>()|(n,k)::r,x=>by rw[o8,Og,Og];cases a:x==n with
 |true=>
   have e:x=n:=by simpa using a
   subst e;rfl|false=>show lD r x
def lW(env:Env)(n:Str)(k:NameKind):NameKind:=if(k==.free&&env.scope.kind==.function&&env.kindOf n==some .cell)=true then .cell else k
def jc(scope:Scope)(env:Env)(x:Str):(relabel scope env).names.lookup x=(scope.names.lookup x).map (lW env x):=by
 rw[<-lD];unfold relabel
 congr 1
 change List.map _ scope.names=List.map _ scope.names
 congr 1
 funext p
 obtain⟨n,k⟩:=p;change(if(k==NameKind.free&&env.scope.kind==.function&&env.kindOf n==some .cell)=true then(n,NameKind.cell)else(n,k))=(n,lW env n k);unfold lW
 split<;>rfl
theorem oB{env:Env}{f:Str×NameKind->List (Str×Addr)->Sem (ForInStep (List (Str×Addr)))}(d:∀n c r,cellOf env n=pure c->f (n,.free) r=pure (.yield ((n,c)::r)))(g:∀n k r,k≠.free->f (n,k) r=pure (.yield r)):∀(l:List (Str×NameKind))(cs:List (Str×Addr)),(∀y∈l,y.2=.free->∃c,env.cells.lookup y.1=some c)->∃cl:List (Str×Addr),forIn l cs f=pure cl/\(∀x c,cl.lookup x=some c->env.cells.lookup x=some c\/cs.lookup x=some c)/\(∀x,(∃c,cs.lookup x=some c)\/(x,NameKind.free)∈l->∃c,cl.lookup x=some c)
 |[],cs,_=>{cs,(),λ_ _ h=>.inr h,λx h=>h.elim id nofun}|(n,k)::r,cs,h=>by
  by_cases o:k=.free
  ·subst o;obtain⟨c,hc⟩:=h (n,.free) oa ();obtain⟨cl,h1,h2,h3⟩:=oB d g r ((n,c)::cs) λy p=>h y (np _ p);show{cl,?_,λx i a=>?_,λx a=>h3 x ?_}
   ·rw[Oy,d n c cs (by unfold cellOf;rw[hc])];show h1
   ·rcases h2 x i a with z|z
    ·show .inl z
    ·rw[Og]at z;cases b:x==n with|true=>
      rw[b]at z;have j:x=n:=by simpa using b
      have m:c=i:=by simpa using z
      subst j;subst m;show .inl hc|false=>rw[b]at z;show .inr z
   ·rcases a with⟨i,a⟩|a
    ·show .inl ?_;rw[Og];cases b:x==n with|true=>show{c,()}|false=>show(i,a,)
    ·rcases vu.mp a with e|e
     ·injection e with j m;subst j;show .inl {c,by simp}
     ·show .inr e
  ·obtain⟨cl,h1,h2,h3⟩:=oB d g r cs λy p=>h y (np _ p);show{cl,?_,h2,λx a=>h3 x ?_}
   ·rw[Oy,g n k cs o];show h1
   ·rcases a with a|a
    ·show .inl a
    ·rcases vu.mp a with e|e
     ·injection e with j m;show absurd m.symm o
     ·show .inr e
def vO{env:Env}{scope:Scope}(h:∀y∈scope.names,y.2=.free->∃c,env.cells.lookup y.1=some c):∃cl:List (Str×Addr),closureFor scope env=pure cl/\(∀x c,cl.lookup x=some c->env.cells.lookup x=some c)/\(∀x,(x,NameKind.free)∈scope.names->∃c,cl.lookup x=some c):=by
 simp only[closureFor];obtain⟨cl,h1,h2,h3⟩:=oB (env:=env) (f:=λ(x:Str×NameKind)(r:List (Str×Addr))=>match x with|(b,kind)=>if(kind==NameKind.free)=true then(do let a<-cellOf env b;pure (ForInStep.yield ((b,a)::r)))else pure (ForInStep.yield r)) (λn c r e=>by change(if(NameKind.free==NameKind.free)=true then(do let a<-cellOf env n;pure (ForInStep.yield ((n,a)::r)))else pure (ForInStep.yield r):Sem _)=_;rw[md (by decide),e];rfl) (λn k r e=>by change(if(k==NameKind.free)=true then(do let a<-cellOf env n;pure (ForInStep.yield ((n,a)::r)))else pure (ForInStep.yield r):Sem _)=_;rw[me (by simpa using e)]) scope.names [] h
 show{cl,?_,λx c e=>(h2 x c e).elim id λz=>by simp at z,λx d=>h3 x (.inr d)};rw[h1];rfl
def Cx.comp(X:Cx)(scope:Scope)(a:Pb)(cl:List (Str×Addr))(C:Addr)(s₀:Shared)(H₀:Hp)(ex:Pf):Cx:={prog:=X.prog,w:=X.w,K:=X.K,mg:=X.mg,base:=X.base,A:=X.A,N:=a,s₀:=s₀,H₀:=H₀,env:=compEnvC scope cl C X.env,outer:=X.stack,stack:=X.stack,ex:=ex,fn:=λ_=>false,calm:=X.calm,pn:=X.pn,xe:=λ_ _=>False}
def iQ(ds:Pe)(k:Nat)(a:St):St:=ds.foldl (λa i=>a.set i none) a++List.replicate k none
def oA(ds:Pe):∀a:St,(ds.foldl (λa i=>a.set i none) a).length=a.length:=by induction ds with|nil=>intro a;rfl|cons d r b=>intro a;rw[C1,b];simp
def AK(ds:Pe):∀(a:St)(i:Nat)(v:V),(ds.foldl (λa i=>a.set i none) a)[i]?=some (some v)->a[i]?=some (some v)/\i∉ds:=by induction ds with|nil=>intro a i v h;show{h,by simp}|cons d r b=>
  intro a i v h;rw[C1]at h;obtain⟨h1,h2⟩:=b _ i v h
  by_cases e:d=i
  ·subst e
   by_cases c:d<a.length
   ·rw[C_ c]at h1;cases h1
   ·rw[Nq.mpr (by rw[B_];lia)]at h1;cases h1
  ·rw[so e]at h1;show{h1,λz=>(vu.mp z).elim (λq=>e q.symm) h2}
def zp(h:(iQ ds k a)[i]?=some (some v)):a[i]?=some (some v)/\i∉ds/\i<a.length:=by
 unfold iQ at h
 by_cases b:i<a.length
 ·rw[sD (by rw[oA];show b)]at h;obtain⟨h1,h2⟩:=AK ds a i v h;show(h1,h2,b,)
 ·rw[Es (by rw[oA];lia)]at h;have:=c_.mp h;obtain⟨h1,h2⟩:=this;rw[List.getElem_replicate]at h2;cases h2
def HL(X:Cx)(d:Pc)(t:TT):Prop:=∀(a:O8)(s:Shared)(b:St)(H:Hp)(Q:Bool->Hp->Prop),aO X a b H s->t b H Q->wpAny (model X.prog X.w) X.A (forIn d true λc r=>if r=true then do let ok<-isTrue c X.env (eval c X.env);pure (ForInStep.yield ok)else pure (ForInStep.yield r)) (TP X a b Q) X.xe s
def KW:TT:=λ_ H Q=>Q true H
def bR:HL X [] KW:=λ_ _ _ H _ I h=>wpAny_tests_nil (H,I,h,)
def pC(h:PT X c t):HL X [c] t:=λa s b H Q I q=>wpAny_tests_one (h a s b H Q I q)
def GK(g:TG)(c:Pe):Prop:=∀x b H Q,g x b H Q->g x b H λa d=>Q a d/\a.length=b.length/\∀i,i∉c->a[i]?=b[i]?
def ca(j:Nat):GK (kI j) [j]:=λx a H Q h=>by show{h,by simp,λi hi=>?_};rw[so (λe=>hi (by simp[e]))]
def qL(K:O6)(i j:Nat):GK (J6 K 2 (E4 (kI i) (E4 (kI j) L4))) [i,j]:=λx l H Q h=>by obtain⟨a,b,e,c,d,v,r,f,u,r2,g,k,q⟩:=h;show{a,b,e,c,d,v,r,f,u,r2,g,k,q,by simp,λn hn=>?_};have h1:n≠i:=λz=>hn (by simp[z]);have h2:n≠j:=λz=>hn (by simp[z]);rw[so (p_ h2),so (p_ h1)]
def sW(o:TI)(g:TG)(ds:Pe)(k:Nat)(tc:TT)(te:TE):TE:=λf H Q=>o f H λJ h=>∀D,h D=none->∃W:Nat->Nat->List V->Hp->Prop,(∃m,W 0 m [] (aH h D (.lst [])))/\∀i m a c,W i m a c->(J.stop i c/\Q (.ref D) c)\/(J.go i c/\∀x j,J.yld i c x j->g x (iQ ds k f) j λd p=>tc d p λb l=>if b=true then te d l λy n=>n D=some (.lst a)/\a.length<sizeLine/\∃e,e<m/\W (i+1) e (a++[y]) (aH n D (.lst (a++[y])))else∃e,e<m/\W (i+1) e a l)
section
variable{X:Cx}
def Fo(I:aO X t σ H s)(f:∀b∈fp,vY X t H b)(fo:∀b∈fp,∃o,s.heap.get? b=some o)(E:scope.kind=.function)(F:∀y∈scope.names,y.2≠.cell)(G:∀y∈scope.names,y.2=.free->X.env.scope.names.lookup y.1=some .cell\/X.env.scope.names.lookup y.1=some .free)(g:∀x c,cl.lookup x=some c->X.env.cells.lookup x=some c)(D:∀x,(x,NameKind.free)∈scope.names->∃c,cl.lookup x=some c)(hN:W=X.N++L)(hk:L.length=k)(M:∀i x,X.N[i]?=some x->scope.names.lookup x=some .local->i∈ds)(P:s.heap.objs.size<C)(keep:∀b o,s.heap.get? b=some o->j.get? b=some o)(Z:j.Ns C m)(hD:j.get? s.heap.objs.size=some {cls:=.type "list",data:=.seq ([]:O_).toArray 0}):aO (X.comp scope W cl C s H fp) t (iQ ds k σ) (aH H s.heap.objs.size (.lst [])) {s with heap:=j,toks:=tk}:=by
 have fresh:H s.heap.objs.size=none:=I.hok.fresh (e_ _);have O:lG X.prog X.w (aH H s.heap.objs.size (.lst [])) j:=I.hok.laid keep (e_ _) {ov _,[],0,.nil,hD};have J:∀b∈fp,b<s.heap.objs.size:=λb A=>let⟨_,e⟩:=fo b A;m3 e;have K:∀b,b∈jR X.stack->∀p∈X.pn++t,p.1≠b:=λb A p T e=>by
  obtain⟨_,_,n1,n2,_⟩:=I.pin p T;rcases vu.mp (I.stkSub b A)with z|z
  ·show n1 (e.trans z)
  ·show n2 (e▸z)
 have B:∀x c,cl.lookup x=some c->c<s.heap.objs.size:=λx c e=>by obtain⟨v,z⟩:=I.cell x c (g x c e);show z.lt
 have a:∀x,(relabel scope X.env).names.lookup x=some .cell\/(relabel scope X.env).names.lookup x=some .free->scope.names.lookup x=some .free:=λx h=>by rw[jc]at h;cases e:scope.names.lookup x with|none=>rw[e]at h;simp at h|some q=>
   rw[e]at h;have hm:=mem_of_lookup e;have nc:q≠.cell:=F _ hm;simp only[Nv,N5]at h;unfold lW at h
   split at h
   ·rename_i hc;have:(q==NameKind.free)=true:=by cases hq:q==NameKind.free with|true=>rfl|false=>rw[hq]at hc;simp at hc
    have:q=.free:=by simpa using this
    rw[this]
   ·rcases h with h|h
    ·show absurd h nc
    ·rw[h]
 show{{I.ok.mod,?_,I.ok.glob,I.ok.blt,wh P,?_,?_,?_,I.ok.hd,I.ok.frames,.inl (),?_,I.bs,nr I.ok.bsz I.sz,?_,?_,I.stack,I.stkFree},(),I.bare,Un.laid keep (e_ _) fresh,{m,Z,?_},?_,?_,?_,?_,O,?_}
 ·show E
 ·intro x y c Y hy;show I.ok.inj x y c (g x c Y) (g y c hy)
 ·intro x Y;show D x (mem_of_lookup (a x Y))
 ·intro x c hf;show absurd hf (by simp[Cx.comp])
 ·intro b A;show{nB (E_ (J b A) P),λx c e z=>?_};show(f b A).2.2.2.2.1 x c (g x c e) z
 ·intro b o e A;rcases(f b A).2.2.2.1 with z|z
  ·show I.ok.noex b o e z
  ·show absurd (pu (m3 e) (nr I.ok.bsz z)) (sg _)
 ·intro b A hs;rcases vu.mp (I.stkSub b hs)with z|z
  ·show(f b A).2.1 z
  ·show(f b A).2.2.1 z
 ·intro i x v U e2 vis;obtain⟨g1,g2,g3⟩:=zp e2;have Q:X.N[i]?=some x:=by have U:W[i]?=some x:=U;rw[hN,sD (by rw[<-I.len];show g3)]at U;show U
  have hv:scope.names.lookup x=some .free:=by
   rcases vis with z|z|z
   ·exfalso;have z:(relabel scope X.env).names.lookup x=some .local:=z;rw[jc]at z;cases e:scope.names.lookup x with|none=>rw[e]at z;simp at z|some q=>
     rw[e]at z;simp only[Nv,N5]at z;unfold lW at z
     split at z
     ·cases z
     ·subst z;show g2 (M i x Q e)
   ·show a x (.inl z)
   ·show a x (.inr z)
  have hm:=mem_of_lookup hv;have hX:=G _ hm ();obtain⟨mX,_,hl⟩:=I.loc;have R:MA X.env.scope x:=by
   rcases hX with z|z
   ·show .inr (.inl z)
   ·show .inr (.inr z)
  obtain⟨u,r,l⟩:=hl i x v Q g1 R;show{u,r,.inr {?_,?_}}
  ·change(relabel scope X.env).names.lookup x=some .cell\/(relabel scope X.env).names.lookup x=some .free;rw[jc,hv];change some (lW X.env x .free)=some .cell\/some (lW X.env x .free)=some .free;unfold lW
   split
   ·show .inl ()
   ·show .inr ()
  ·obtain⟨c,hc⟩:=D x hm;have aa:=g x c hc;show{c,hc,?_};rcases l with⟨V,_⟩|⟨_,c',S,o,ho,hd⟩
   ·exfalso;have V:X.env.scope.names.lookup x=some .local:=V;rcases hX with z|z
    ·rw[V]at z;cases z
    ·rw[V]at z;cases z
   ·rw[aa]at S;cases S;show{o,keep c o ho,hd}
 ·intro x c e;obtain⟨v,o,ho,hd⟩:=I.cell x c (g x c e);show{v,o,keep c o ho,hd}
 ·change aH H s.heap.objs.size (.lst []) C=none;rw[ak (q_ P)];show I.hok.fresh (wh P)
 ·intro x c e;rw[ak (nB (B x c e))];show I.freeC x c (g x c e)
 ·intro p T;obtain⟨e,n,n1,n2,d⟩:=I.pin p T;have lt:=m3 e;show{keep _ _ e,?_,nB (E_ lt P),λz=>K p.1 z p T (),d};rw[ak (nB lt)];show n
 ·change(iQ ds k σ).length=W.length;unfold iQ;rw[mu,oA,I.len,hN,mu,NE,hk]
def Fn(I:aO X a m H s)(f:∀b∈fp,vY X a H b)(g:aO (X.comp scope x cl C s H fp) a p i j)(r:s.heap.objs.size<C)(l:Heap.SameBut C j.heap h'):aO X a m i {j with heap:=h'}:=by
 have u:=g.base;have d:i C=none:=g.free;have ne:∀b o,s.heap.get? b=some o->b≠C:=λb o e=>nB (E_ (m3 e) r);have t:Un (jR X.stack) fp H i s.heap h':=by
  show{λb o e n h1 h2=>?_,λb o e n h1 h2=>?_,u.free,λb o e h2=>?_,u.tups,u.frzs,u.tbls}
  ·show(l.2 b (ne b o e)).trans (u.keep b o e n h1 h2)
  ·obtain⟨sl,q⟩:=u.slot b o e n h1 h2;show{sl,(l.2 b (ne b o e)).trans q}
  ·obtain⟨v,q⟩:=u.there b o e h2;show{v,(l.2 b (ne b o e)).trans q}
 have h:lG X.prog X.w i h':=λb ob e=>by
  show(g.hok b ob e).stay (λc y hc q=>(l.2 c ?_).trans q) (λ_ q=>q) λ_ _ q=>q;rintro rfl;rcases hc with rfl|hc
  ·rw[d]at e;cases e
  ·rw[d]at hc;cases hc
 show I.call' (s':={j with heap:=h'}) g.os t h g.bare λb k=>{(f b k).2.2.2.1,(f b k).2.1,(f b k).2.2.2.2.1,(f b k).2.2.2.2.2}
def aO.block_gone(I:aO X a d H s)(hn:H C=none)(f:C≠X.env.locals)(h1:X.s₀.heap.objs.size<=C)(h2:∀x c,X.env.cells.lookup x=some c->c≠C)(h3:∀p∈X.pn++a,p.1≠C)(g:Heap.SameBut C s.heap h'):aO X a d H {s with heap:=h'}:=I.turned (t':=s.toks) (λb o h e=>(g.2 b h).trans e) hn f (.inr h1) h2 h3
def wW(N':Pb)(ds:Pe)(k:Nat){a:O8}{s:Shared}{P:St}{H:Hp}{Q:VK}{use:Option (Value->Sem Unit)}{QV:O7}(hc:X.calm=true)(hi:PI X tg iter wi)(F:∀cl C s₀ H₀ ex,PG (X.comp scope N' cl C s₀ H₀ ex) tg g/\HL (X.comp scope N' cl C s₀ H₀ ex) R tc/\PE (X.comp scope N' cl C s₀ H₀ ex) a8 te)(hg:GK g js)(hj:∀P:St,P.length=X.N.length->∀j∈js,∀v,(iQ ds k P)[j]?≠some (some v))(G:scope.kind=.function)(S:∀y∈scope.names,y.2≠.cell)(aa:∀y∈scope.names,y.2=.local->scope.names.lookup y.1=some .local)(Z:∀y∈scope.names,y.2=.free->X.env.scope.names.lookup y.1=some .cell\/X.env.scope.names.lookup y.1=some .free)(hN:N'=X.N++a9)(hk:a9.length=k)(ba:∀i x,X.N[i]?=some x->scope.names.lookup x=some .local->i∈ds)(hs:∀x,foldedSetIterable iter X.env x=pure x)(I:aO X a P H s)(h:sW wi g ds k tc te P H Q)(fin:∀(D C:Addr)(H':Hp)(s':Shared)(m:O9),aO X a P H' s'->Q (.ref D) H'->s'.heap.Ns C m->H' C=none->C≠X.env.locals->X.s₀.heap.objs.size<=C->(∀x c,X.env.cells.lookup x=some c->c≠C)->(∀p∈X.pn++a,p.1≠C)->compPost (model X.prog X.w) X.A X.xe use QV (.ref D) C (.ok .next) s'):wpAny (model X.prog X.w) X.A (comprehension (.ListComp a8 [{tg,iter,R,0}] scope bb) scope X.env (firstIterPos [{tg,iter,R,0}] bb) (newList []) (firstAsync [{tg,iter,R,0}]) (firstIter [{tg,iter,R,0}] X.env) use) QV X.xe s:=by
 have V:∀y∈scope.names,y.2=.free->∃c,X.env.cells.lookup y.1=some c:=λy hy e=>I.ok.has y.1 (Z y hy e);obtain⟨cl,ax,bc,bh⟩:=vO V;show wpAny_comprehension_free (use:=use) () hs ax G aa (cy (hi a s P H _ I h) λv s1 h1=>cy h1 λdc l h2=>?_);obtain⟨it,fp,tn,J,H2,e,Y,T,bi,f2,q⟩:=h2;subst e;have di:=Y;obtain⟨W,⟨m0,w0⟩,bl⟩:=q l.heap.objs.size (Y.hok.fresh (e_ _));show rm (wpAny_newFunctionEnv S (by intro y hy;simp at hy) (λB t hsb₁=>?_) G);dsimp only at t hsb₁⊢;generalize a5:l.heap.push {cls:=.type "list",dict:=none,data:=.seq ([]:O_).toArray}=G2 at t hsb₁⊢;have hC:l.heap.objs.size<G2.objs.size:=by rw[<-a5,rf];show w_ _
 have keep:∀b o,l.heap.get? b=some o->B.get? b=some o:=λb o e=>hsb₁.extBut b o (nB (E_ (m3 e) hC)) (d_ _ (a5▸d_ _ e))
 have hD:B.get? l.heap.objs.size=some {cls:=.type "list",data:=.seq ([]:O_).toArray 0}:=hsb₁.extBut _ _ (nB hC) (d_ _ (a5▸j_ _ ()));have fo:∀b∈fp,∃o,l.heap.get? b=some o:=λb F=>let⟨o,e,_⟩:=T.obj _ _ bi b F;(o,e,);obtain⟨bt,bz,bQ⟩:=F cl G2.objs.size l H2 fp;generalize f:X.comp scope N' cl G2.objs.size l H2 fp=L at bt bz bQ;have xp:L.prog=X.prog:=by rw[<-f];rfl
 have xw:L.w=X.w:=by rw[<-f];rfl
 have xK:L.K=X.K:=by rw[<-f];rfl
 have xA:L.A=X.A:=by rw[<-f];rfl
 have xe:L.xe=λ_ _=>False:=by rw[<-f];rfl
 have E:L.env=compEnvC scope cl G2.objs.size X.env:=by rw[<-f];rfl
 have b8:L.calm=true:=by rw[<-f];show hc
 have i6:aO L a (iQ ds k P) (aH H2 l.heap.objs.size (.lst [])) {l with heap:=B,toks:=l.toks+([]:List (Str×Value)).length}:=by rw[<-f];show Fo Y f2 fo G S Z bc bh hN hk ba hC keep t hD
 have b9:tn 0 B:=T.keep _ _ _ bi λb _ o e=>keep b o e;have c1:∀b∈fp,aH H2 l.heap.objs.size (.lst []) b=none:=λb F=>by obtain⟨o,e⟩:=fo b F;rw[ak (nB (m3 e))];show(f2 b F).1
 have U:∀{H':Hp},(∀b∈fp,H' b=none)->∀b∈fp,vY L a H' b:=λhn b F=>by
  obtain⟨f0,f1,f3,f4,f5,f6⟩:=f2 b F;obtain⟨o,e⟩:=fo b F;show{hn b F,?_,?_,?_,?_,?_}
  ·rw[E];show nB (E_ (m3 e) hC)
  ·intro z;have z:b∈jR X.stack:=by rw[<-f]at z;show z
   rcases vu.mp (Y.stkSub b z)with y|y
   ·show f1 y
   ·show f3 y
  ·rw[<-f];show .inl F
  ·intro x c ec;rw[E]at ec;show f5 x c (bc x c ec)
  ·intro p hp;rw[<-f]at hp;show f6 p hp
 have as:codeAny (model X.prog X.w) X.A (.compLoop (.ListComp a8 [{tg,iter,R,0}] scope bb) 0 (.ref it) (.ref l.heap.objs.size) (compEnvC scope cl G2.objs.size X.env)) (compPost (model X.prog X.w) X.A X.xe use QV (.ref l.heap.objs.size) G2.objs.size) {l with heap:=B,toks:=l.toks+([]:List (Str×Value)).length}:=by
  show zA (λn s'=>∃i M H',aO L a (iQ ds k P) H' s'/\tn i s'.heap/\(∀b∈fp,H' b=none)/\W i n M H') ?_ m0 {0,[],_,i6,b9,c1,w0};rintro n s3⟨i,M,H3,I3,cc,ci,w3⟩;rcases bl i n M H3 w3 with⟨stop,qn⟩|⟨go,step⟩
  ·have td:=T.done L xp xw xK b8 i a s3 _ H3 (λ_ _=>False) I3 (U ci) cc stop;rw[xA]at td;show cy td λr s4 O=>?_;obtain⟨hr,I4⟩:=O;subst hr;have ad:=I4;rw[<-f]at ad;obtain⟨m',c2,_⟩:=ad.loc;show fin l.heap.objs.size G2.objs.size H3 s4 m' (Fn (h':=s4.heap) Y f2 ad hC (.refl ..)) qn c2 ad.free (q_ (E_ Y.lt hC)) (wh (Ni Y.sz hC)) (λx c e z=>?_) λp hp z=>?_
   ·obtain⟨v,q⟩:=Y.cell x c e;show absurd (E_ q.lt hC) (by rw[z];show sg _)
   ·show absurd (E_ (m3 (Y.pin p hp).1) hC) (by rw[z];show sg _)
  ·have ti:=T.item L xp xw xK b8 i a s3 _ H3 (λ_ _=>False) I3 (U ci) cc go;rw[xA]at ti;show cy ti λr s4 O=>?_;obtain⟨u,hr,h4⟩:=O;subst hr;show cy h4 λ_ s5 O=>?_;obtain⟨x,H5,I5,r5,y5,a6,c3⟩:=O;have c4:=I5.pinned (U c3) (T.obj _ _ a6);have pg:=bt _ s5 _ H5 x u _ c4 r5 (hg x _ H5 _ (step x H5 y5));rw[xp,xw,xA,E,xe]at pg;show cy pg λ_ s6 O=>?_;obtain⟨an,H6,I6,⟨q6,cr,a7⟩⟩:=O;have again:∀{H7:Hp}{s7:Shared},aO L (a++uf fp s5.heap) an H7 s7->aO L a (iQ ds k P) H7 s7/\tn (i+1) s7.heap/\∀b∈fp,H7 b=none:=λ{H7 s7}I7=>by
    show{I7.unpinned.weak cr.symm λj v e=>?_,T.keep _ _ _ a6 λb F o e=>(I7.pin (b,o) (pv _ (pv _ (kY F e)))).1,λb F=>?_}
    ·rw[a7 j λz=>hj P I.len j z v e];show e
    ·obtain⟨o,e,d⟩:=T.obj _ _ a6 b F;show(I7.pin (b,o) (pv _ (pv _ (kY F e)))).2.1
   have pt:=bz _ s6 an H6 _ I6 q6;rw[xp,xw,xA,E,xe]at pt;show cy pt λok s7 O=>?_;obtain⟨H7,I7,q7⟩:=O;cases ok with|false=>obtain⟨m',hm,w7⟩:=q7;obtain⟨a1,a2,a3⟩:=again I7;show{m',hm,i+1,M,H7,a1,a2,a3,w7}|true=>have pe:=bQ _ s7 an H7 _ I7 q7;rw[xp,xw,xA,E,xe]at pe;show cy pe λyv s8 O=>?_;obtain⟨y,H8,I8,r8,da,c0,m',hm,w8⟩:=O;have ap:=cq (X:=L) _ s8 an H8 (.ref l.heap.objs.size) [y] _ [yv] (λv H9=>H9=aH H8 l.heap.objs.size (.lst (M++[y]))) I8 () (.cons r8 .nil) {_,M,y,(),(),da,c0,()};rw[xp,xw,xA,xe]at ap;show cy ap λ_ s9 O=>?_;obtain⟨_,H9,I9,_,e9⟩:=O;subst e9;obtain⟨a1,a2,a3⟩:=again I9;show{m',hm,i+1,M++[y],_,a1,a2,a3,w8}
 show codeAny_compStart_list as (T.self _ 0 _ _ _ b9 as)
def GM(f:Pb)(ds:Pe)(k:Nat)(hc:X.calm=true)(hi:PI X t iter u)(w:∀cl C s₀ H₀ ex,PG (X.comp scope f cl C s₀ H₀ ex) t g/\HL (X.comp scope f cl C s₀ H₀ ex) o tc/\PE (X.comp scope f cl C s₀ H₀ ex) p te)(hg:GK g z)(A:∀r:St,r.length=X.N.length->∀j∈z,∀v,(iQ ds k r)[j]?≠some (some v))(c:scope.kind=.function)(d:∀y∈scope.names,y.2≠.cell)(a:∀y∈scope.names,y.2=.local->scope.names.lookup y.1=some .local)(e:∀y∈scope.names,y.2=.free->X.env.scope.names.lookup y.1=some .cell\/X.env.scope.names.lookup y.1=some .free)(B:f=X.N++l)(E:l.length=k)(n:∀i x,X.N[i]?=some x->scope.names.lookup x=some .local->i∈ds)(F:∀x,foldedSetIterable iter X.env x=pure x:=by intro _;rfl):PE X (.ListComp p [{t,iter,o,0}] scope G) (sW u g ds k tc te):=by intro b s r H Q I h;rw[eval_ListComp];show wW f ds k hc hi w hg A c d a e B E n F I h λD C J O m K q hn n1 n2 n3 n4 L=>?_;show{m,hn,λh' M=>{.ref D,J,K.block_gone n1 n2 n3 n4 L M,(),q}}
def GE(r:Pb)(ds:Pe)(k:Nat)(F:X.N.Nodup)(G:X.N[i]?=some x)(Q:Kw X.env.scope x)(R:X.fn x=true\/X.env.scope.names.lookup x=some .local)(J:swapsWith (.ListComp f [{E,iter,l,0}] scope t) (some (.Name x c)) u.line X.env=pure true)(hc:X.calm=true)(hi:PI X E iter S)(T:∀cl C s₀ H₀ ex,PG (X.comp scope r cl C s₀ H₀ ex) E g/\HL (X.comp scope r cl C s₀ H₀ ex) l tc/\PE (X.comp scope r cl C s₀ H₀ ex) f te)(hg:GK g W)(Z:∀L:St,L.length=X.N.length->∀j∈W,∀v,(iQ ds k L)[j]?≠some (some v))(n:scope.kind=.function)(o:∀y∈scope.names,y.2≠.cell)(d:∀y∈scope.names,y.2=.local->scope.names.lookup y.1=some .local)(p:∀y∈scope.names,y.2=.free->X.env.scope.names.lookup y.1=some .cell\/X.env.scope.names.lookup y.1=some .free)(hN:r=X.N++w)(hk:w.length=k)(B:∀i x,X.N[i]?=some x->scope.names.lookup x=some .local->i∈ds)(hs:∀x,foldedSetIterable iter X.env x=pure x:=by intro _;rfl):PS X (.Assign [.Name x c] (.ListComp f [{E,iter,l,0}] scope t) u) (yn (sW S g ds k tc te) (kI i)):=by
 intro b s L H D I h;rw[exec_Assign_Name_used _ _ _ _ J];show a_ (wpAny_standAt (a_ ?_));change wpAny _ X.A (do let _<-comprehension (.ListComp f [⟨E,iter,l,0⟩] scope t) scope X.env _ (newList []) false (eval iter X.env) (some (assign (.Name x c) X.env))) _ _ s;show a_ (wpAny_mono (wW (QV:=λ_ K=>SP X b D .next K) (use:=some (assign (.Name x c) X.env)) r ds k hc hi T hg Z n o d p hN hk B hs I h λDa C V K m Y q hn n1 n2 n3 n4 n5=>?_) (λ_ K hq=>f_ (f_ hq)) λ_ _ e=>e)
 change wpAny _ X.A (assign (.Name x c) X.env (.ref Da)) _ _ _;show wpAny_assign_Name (wj Y F G Q (v:=.ref Da) () (λaa M⟨a,sb,ha⟩=>?_) R);have O:C≠a:=by
  rcases ha with z|z
  ·rw[z];show n2
  ·showλe=>n4 x a z e.symm
 show{m,hn.sameBut sb O,λh' P=>{_,V,M.block_gone n1 n2 n3 n4 n5 P,q}}
def qO(N0:Pb)(ds:Pe)(a scope:Scope):Bool:=scope.kind==.function&&scope.names.all (λy=>!(y.2==.cell)&&(!(y.2==.local)||scope.names.lookup y.1==some .local)&&(!(y.2==.free)||(a.names.lookup y.1==some .cell||a.names.lookup y.1==some .free)))&&N0.zipIdx.all λp=>!(scope.names.lookup p.1==some .local)||ds.contains p.2
def uO{N0:Pb}{ds f:Pe}{a scope:Scope}{k:Nat}(ok:qO N0 ds a scope=true)(c:(f.all λj=>ds.contains j||decide (N0.length<=j))=true):(∀d:St,d.length=N0.length->∀j∈f,∀v,(iQ ds k d)[j]?≠some (some v))/\scope.kind=.function/\(∀y∈scope.names,y.2≠.cell)/\(∀y∈scope.names,y.2=.local->scope.names.lookup y.1=some .local)/\(∀y∈scope.names,y.2=.free->a.names.lookup y.1=some .cell\/a.names.lookup y.1=some .free)/\(∀i x,N0[i]?=some x->scope.names.lookup x=some .local->i∈ds):=by
 unfold qO at ok;rw[o0,o0]at ok;obtain⟨⟨h1,h2⟩,h3⟩:=ok;have h2:=M_.mp h2;have h3:=M_.mp h3;have c:=M_.mp c;show{?_,(by simpa using h1),?_,?_,?_,?_}
 ·intro d m j hm v e;obtain⟨_,g,n⟩:=zp e;have:=c j hm;rw[Bool.or_eq_true]at this;rcases this with z|z
  ·show g (by simpa using z)
  ·have:=pw z;lia
 ·intro y b e;have:=h2 y b;rw[o0,o0]at this;have z:=this.1.1;rw[e]at z;show absurd z (by decide)
 ·intro y b e;have:=h2 y b;rw[o0,o0]at this;have z:=this.1.2;rw[e]at z;simpa using z
 ·intro y b e;have:=h2 y b;rw[o0,o0]at this;have z:=this.2;rw[e]at z;simpa using z
 ·intro i x h l;have:=h3 (x,i) (by rw[List.mem_zipIdx_iff_getElem?];show h);rw[Bool.or_eq_true]at this;rcases this with z|z
  ·rw[l]at z;show absurd z (by decide)
  ·simpa using z
def Hx(N0 a:Pb)(ds m:Pe)(c:Scope){d f iter:Expr}{e:Pc}{scope:Scope}{h:Pos}{n:TI}{g:TG}{tc:TT}{te:TE}(hc:X.calm=true)(i:X.N=N0)(l:X.env.scope=c)(ok:qO N0 ds c scope=true)(o:(m.all λj=>ds.contains j||decide (N0.length<=j))=true)(hg:GK g m)(hi:PI X f iter n)(p:∀cl C s₀ H₀ ex,PG (X.comp scope (N0++a) cl C s₀ H₀ ex) f g/\HL (X.comp scope (N0++a) cl C s₀ H₀ ex) e tc/\PE (X.comp scope (N0++a) cl C s₀ H₀ ex) d te)(q:∀x,foldedSetIterable iter X.env x=pure x:=by intro _;rfl):PE X (.ListComp d [{f,iter,e,0}] scope h) (sW n g ds a.length tc te):=by subst i;subst l;obtain⟨h1,h2,h3,h4,b,k⟩:=uO ok o;show GM (X.N++a) ds a.length hc hi p hg h1 h2 h3 h4 b () () k q
def Fm(N0 a:Pb)(ds s:Pe)(e:Scope){i:Nat}{x:Str}{c d:Pos}{f m iter:Expr}{h:Pc}{scope:Scope}{l:Pos}{t:TI}{g:TG}{tc:TT}{te:TE}(hc:X.calm=true)(n:X.N=N0)(o:X.env.scope=e)(ok:qO N0 ds e scope=true)(v:(s.all λj=>ds.contains j||decide (N0.length<=j))=true)(hg:GK g s)(hi:PI X m iter t)(w:∀cl C s₀ H₀ ex,PG (X.comp scope (N0++a) cl C s₀ H₀ ex) m g/\HL (X.comp scope (N0++a) cl C s₀ H₀ ex) h tc/\PE (X.comp scope (N0++a) cl C s₀ H₀ ex) f te)(p:N0.Nodup)(q:N0[i]?=some x:=by rfl)(u:e.names.lookup x=some .local:=by rfl)(r:swapsWith (.ListComp f [{m,iter,h,0}] scope l) (some (.Name x c)) d.line X.env=pure true:=by rfl)(y:∀x,foldedSetIterable iter X.env x=pure x:=by intro _;rfl):PS X (.Assign [.Name x c] (.ListComp f [{m,iter,h,0}] scope l) d) (yn (sW t g ds a.length tc te) (kI i)):=by subst n;subst o;obtain⟨h1,h2,h3,h4,b,k⟩:=uO ok v;show GE (X.N++a) ds a.length p q (.inl u) (.inr u) r hc hi w hg h1 h2 h3 h4 b () () k y
def zF:dy X (.builtin "isinstance") (λa H Q=>∃x T t b,a=[x,.ty T]/\mx X.K H x t/\PySem.W.kitOne X.K t (.type T)=some b/\Q (.bl b) H):=by intro c s g H a i Q I r h;obtain⟨x,T,t,b,rfl,ty,e,q⟩:=h;obtain⟨u,d,rfl,f,rt⟩:=wc r;obtain rfl:d=Value.type T:=rt;show Cv I f ty e λtk=>{.bl b,H,I.tok tk,(),q}
def wZ{bs:List Bool}{a:O_}(r:aZ (bs.map V.bl) a){i:Nat}{v:Value}(h:a[i]?=some v):∃b,bs[i]?=some b/\v=.bool b:=by
 have d:=r.length;rw[b_]at d;have hi:i<a.length:=(c_.mp h).1;have c:bs[i]?=some bs[i]:=by simp
 obtain⟨u,h1,h2⟩:=r.get (i:=i) (x:=.bl bs[i]) (by rw[i_,c];rfl);rw[h]at h1;cases h1;show(bs[i],c,h2,)
def Ce{bs:List Bool}:((List.range bs.length).all λi=>bs.getD i true)=bs.all id:=by induction bs with|nil=>rfl|cons b r a=>
  rw[o_,List.range_succ_eq_map,NJ,List.all_map,NJ]
  congr 1
def Cd{bs:List Bool}:((List.range bs.length).any λi=>bs.getD i true)=bs.any id:=by induction bs with|nil=>rfl|cons b r a=>
  rw[o_,List.range_succ_eq_map,D_,List.any_map,D_]
  congr 1
def ER{A:Around}(h:A.handled=none):A.in1.handled=none:=h
def CO(hc:X.calm=true):dy X (.builtin "all") (λg H Q=>∃(p:Addr)(bs:List Bool),g=[.ref p]/\aR X.K H p (bs.map V.bl)/\Q (.bl (bs.all id)) H):=by
 intro j s A H g B Q I r h;obtain⟨p,bs,rfl,m,q⟩:=h;obtain⟨u,rfl,t⟩:=jY r;cases t;obtain⟨a,k,pl,C⟩:=I.list m;show call_all_walk (N4 pl.isList ?_);have d:p≠s.heap.objs.size:=nB (by obtain⟨o,n,e,_⟩:=pl;show m3 e);have l:=k.length;rw[b_]at l;show{s.heap.objs.size,_,_,_,_,_,λi=>bs.getD i true,(),Walks.list (ER (I.ok.hd hc)) s.heap.objs.size p d a.toArray,{{_,j_ _ (),(),()},?_},?_,?_}
 ·show pl.isList.push _
 ·intro i v w x D f c;have f:a.toArray[i]?=some v:=f;obtain⟨b,y,rfl⟩:=wZ k (i:=i) (v:=v) (by simpa using f);show th ?_;have e:bs.getD i true=b:=by simp[List.getD,y]
  have c:x (bs.getD i true) w:=c;rw[e]at c;show c
 ·intro h' tk z;have e:((List.range a.toArray.size).all λi=>bs.getD i true)=bs.all id:=by rw[m_,<-l,Ce]
  rw[e];show{.bl _,H,I.kept (h':=h') (t':=tk) λb o e=>z b o (by simp[nB (m3 e)]) (d_ _ e),(),q}
def CN(hc:X.calm=true):dy X (.builtin "any") (λg H Q=>∃(p:Addr)(bs:List Bool),g=[.ref p]/\aR X.K H p (bs.map V.bl)/\Q (.bl (bs.any id)) H):=by
 intro j s A H g B Q I r h;obtain⟨p,bs,rfl,m,q⟩:=h;obtain⟨u,rfl,t⟩:=jY r;cases t;obtain⟨a,k,pl,C⟩:=I.list m;show call_any_walk (N4 pl.isList ?_);have d:p≠s.heap.objs.size:=nB (by obtain⟨o,n,e,_⟩:=pl;show m3 e);have l:=k.length;rw[b_]at l;show{s.heap.objs.size,_,_,_,_,_,λi=>bs.getD i true,(),Walks.list (ER (I.ok.hd hc)) s.heap.objs.size p d a.toArray,{{_,j_ _ (),(),()},?_},?_,?_}
 ·show pl.isList.push _
 ·intro i v w x D f c;have f:a.toArray[i]?=some v:=f;obtain⟨b,y,rfl⟩:=wZ k (i:=i) (v:=v) (by simpa using f);show th ?_;have e:bs.getD i true=b:=by simp[List.getD,y]
  have c:x (bs.getD i true) w:=c;rw[e]at c;show c
 ·intro h' tk z;have e:((List.range a.toArray.size).any λi=>bs.getD i true)=bs.any id:=by rw[m_,<-l,Cd]
  rw[e];show{.bl _,H,I.kept (h':=h') (t':=tk) λb o e=>z b o (by simp[nB (m3 e)]) (d_ _ e),(),q}
def HP(x:Str):It:={λi _=>i<x.cps.size,λi H y a=>a=H/\∃c,x.cps[i]?=some c/\y=.str {#[c]},λi _=>x.cps.size<=i}
def C3{P:Pa}{w:World}{K:O6}{L:Expr}(a:Addr)(x:Str)(t:Tok)(f:String)(hn:["enumerate","zip","dict_itemiterator","dict_reverseitemiterator","odict_iterator","itertools.zip_longest","itertools.pairwise"].contains f=false)(W:∀A:Around,A.handled=none->Walks P w A a [a] [a] x.cps.size (SignAt x) (λi h=>h.IsStrIter a f x t i))(S:∀(A:Around)(i:Nat)(s:Shared)(Q:O7)(E:O7),s.heap.IsStrIter a f x t i->Q (.ref a) s->wpAny (model P w) A (pyIter (.ref a)) Q E s):vV P w K L (HP x) [a] a (λi h=>i<=x.cps.size/\h.IsStrIter a f x t i)where
 mem:=by simp
 obj:=λi h st b j=>by
  have e:b=a:=by simpa using j
  subst e;obtain⟨_,o,e,c,d⟩:=st;show{o,e,λv z=>by rw[d]at z;cases z}
 keep:=λi h h' st k=>by obtain⟨l,o,e,r⟩:=st;show{l,o,k a (by simp) o e,r}
 item:=by intro X p q y hc i g s J H E I n st hg;subst p q y;obtain⟨B,f1,f2,f3,C,D⟩:=n a (by simp);show(W X.A (I.ok.hd hc)).item i s _ _ hg st.2 λv h' tk M m F=>?_;obtain⟨c,u,G,rfl⟩:=M;have I1:aO X g J H {s with heap:=h',toks:=tk}:=I.turned (λb o j e=>F b o (by simpa using j) e) B f1 f3 C D;obtain⟨o,e,N,d⟩:=id m;have O:i<x.cps.size:=hg;show{_,(),wO (s:={s with heap:=h',toks:=tk}) e N d hn {.str {#[c]},H,I1,{u,()},{(),c,G,()},{by omega,m},λb j=>(n b j).1}}
 done:=by intro X p q y hc i g s J H E I n st hg;subst p q y;obtain⟨B,f1,f2,f3,C,D⟩:=n a (by simp);have e:i=x.cps.size:=Nat.le_antisymm st.1 hg;subst e;show(W X.A (I.ok.hd hc)).done s _ _ st.2 λh' tk F=>{(),I.turned (λb o j e=>F b o (by simpa using j) e) B f1 f3 C D}
 self:=λA i s Q E st h=>S A i s Q E st.2 h
def MY(a:TE):TI:=λb H R=>a b H λv c=>∃x,v=.str x/\R (HP x) c
def DW{g l:Expr}{j:TE}(n:PE X l j):PI X g l (MY j):=by
 intro d s k H R I h;show cy (n d s k H _ I h) λv a p=>?_;obtain⟨y,r,I1,u,z⟩:=p;obtain⟨x,e,q⟩:=z;subst e;obtain⟨t,rfl⟩:=u;have fin:∀(c:String)(ob:Obj),(["enumerate","zip","dict_itemiterator","dict_reverseitemiterator","odict_iterator","itertools.zip_longest","itertools.pairwise"].contains c=false)->(∀A:Around,A.handled=none->Walks X.prog X.w A a.heap.objs.size [a.heap.objs.size] [a.heap.objs.size] x.cps.size (SignAt x) (λi h=>h.IsStrIter a.heap.objs.size c x t i))->(∀(A:Around)(i:Nat)(s:Shared)(Q:O7)(E:O7),s.heap.IsStrIter a.heap.objs.size c x t i->Q (.ref a.heap.objs.size) s->wpAny (model X.prog X.w) A (pyIter (.ref a.heap.objs.size)) Q E s)->(a.heap.push ob).IsStrIter a.heap.objs.size c x t 0->M9 X d k g R (.ref a.heap.objs.size) {a with heap:=a.heap.push ob}:=λc ob h1 h2 h3 h4=>by
  show{a.heap.objs.size,[a.heap.objs.size],_,HP x,r,(),I1.kept (t':=a.toks) λb o e=>d_ _ e,C3 _ x t c h1 h2 h3,{ov _,h4},λb B=>?_,q};have e:b=a.heap.objs.size:=by simpa using B
  subst e;show I1.fpOk (e_ _) (I1.hok.fresh (e_ _))
 cases m:x.cps.all (·<128)
 ·show wpAny_pyIter_wide m (fin "str_iterator" _ (by decide) (λA f=>Walks.strWide f _ x t) (λA i s Q E st h=>wpAny_pyIter_striter_wide st h) {_,j_ _ (),(),()})
 ·show wpAny_pyIter_ascii m (fin "str_ascii_iterator" _ (by decide) (λA f=>Walks.strAscii f _ x t) (λA i s Q E st h=>wpAny_pyIter_striter_ascii st h) {_,j_ _ (),(),()})
def Hq{x:Str}{g:TG}{l:TS}{D:jV}{a:St}{H:Hp}(Pv:Nat->St->Hp->Prop)(h0:Pv 0 a H)(o:∀i c a H,x.cps.toList[i]?=some c->Pv i a H->g (.str {#[c]}) a H λd j=>l {D with nx:=Pv (i+1),ct:=Pv (i+1),bk:=D.nx} d j)(hd:∀a H,Pv x.cps.toList.length a H->D.nx a H):∃W:Nat->Nat->St->Hp->Prop,(∃m,W 0 m a H)/\∀i m a H,W i m a H->((HP x).stop i H/\D.nx a H)\/((HP x).go i H/\∃N:St->Hp->Prop,(∀f h,N f h->∃n,n<m/\W (i+1) n f h)/\∀y h,(HP x).yld i H y h->g y a h λd j=>l {D with nx:=N,ct:=N,bk:=D.nx} d j):=by
 have k:x.cps.toList.length=x.cps.size:=by simp
 show{λi m a H=>m=x.cps.size-i/\i<=x.cps.size/\Pv i a H,{x.cps.size,by simp,ov _,h0},?_};rintro i m a H⟨rfl,hi,p⟩
 by_cases b:i<x.cps.size
 ·show .inr {b,Pv (i+1),λf h q=>{x.cps.size-(i+1),by omega,(),b,q},λy h r=>?_};obtain⟨e,c,hc,rfl⟩:=r;subst e;show o i c a _ (by simpa using hc) p
 ·have e:i=x.cps.size:=by omega
  subst e;show .inl {e_ _,hd a H (by rw[k];show p)}
def Jp:V->List V->Hp->VK->Prop:=λx a H Q=>∃z y i r,x=.str z/\a=[.str y]/\Builtin.Str.occurrences z y 0 z.length 1=i::r/\Q (.int (i:Nat)) H
def Ek:Nb X "str.index" Jp:=by intro a s e H x f v g Q I b c h;obtain⟨z,y,i,r,rfl,rfl,d,q⟩:=h;obtain⟨t,rfl⟩:=b;obtain⟨u,rfl,j,rfl⟩:=jY c;show SC.index d {.int _,H,I.tok _,{_,()},q}
end
section
variable{X:Cx}(K:O6)(c:X.K=K)
include c
def aI:dy X (.builtin "len") (λa H Q=>∃x n,a=[x]/\Mj K x H n/\Q (.int n) H):=by subst c;show Fq
def kJ:dy X (.builtin "isinstance") (λa H Q=>∃x T t b,a=[x,.ty T]/\mx K H x t/\PySem.W.kitOne K t (.type T)=some b/\Q (.bl b) H):=by subst c;show zF
def i3(hc:X.calm=true):dy X (.builtin "all") (λa H Q=>∃(p:Addr)(bs:List Bool),a=[.ref p]/\aR K H p (bs.map V.bl)/\Q (.bl (bs.all id)) H):=by subst c;show CO hc
def qQ(hc:X.calm=true):dy X (.builtin "any") (λa H Q=>∃(p:Addr)(bs:List Bool),a=[.ref p]/\aR K H p (bs.map V.bl)/\Q (.bl (bs.any id)) H):=by subst c;show CN hc
def EL:KR X (Jo K):=by subst c;show Hf
def He:KR X (Jn K):=by subst c;show J2
def tj:KO X (Lo K):=by subst c;show Gz
def A7:KO X (Ln K):=by subst c;show Jd
def qv:lg X (compareOp .In) (rIn K false):=by subst c;show Ci
def uj:lg X (binaryOp .Add) (HX K):=by subst c;show GQ
def ic:dy X (.type "list") (λd H Q=>∃p a,d=[.ref p]/\(aR K H p a\/aY K H p a)/\∀l,H l=none->Q (.ref l) (aH H l (.lst a))):=by subst c;show xV
def fg:dy X (.type "tuple") (λd H Q=>∃p a,d=[.ref p]/\((aR K H p a/\∀l,H l=none->Q (.ref l) (aH H l (.tup a)))\/(aY K H p a/\Q (.ref p) H))):=by subst c;show vP
def cP{d l:Expr}{a:TE}(e:PE X l a):PI X d l (HY K a):=by subst c;show GH e
def iE{d l:Expr}{a:TE}(e:PE X l a):PI X d l (LW K a):=by subst c;show Ju e
def aT{a:Expr}{e:TE}(g:PE X a e)(h:∀d,isTrue a X.env d=(do let v<-d;standAt a.pos;holding [v] (truthy v))):PT X a (λi H Q=>e i H λx f=>∃k,Ko K x f k/\Q k f):=by subst c;show DU g h
def fZ{es:Pc}{k:Nat}{a:Pos}{t:KN}{n:Nat}(hc:X.calm=true)(h:Kt X es t)(hn:(assignEach es X.env).length=n:=by rfl)(d:(assignEach es X.env).findIdx? (·.1)=none:=by rfl):PG X (.Tuple es k a) (J6 K n t):=by subst c;show Jv hc h hn d
variable{o e:Expr}{es:Pc}{i:TE}{t:TA}{f:Str}{g d:Pos}{T id:String}{r:V->List V->Hp->VK->Prop}
def eO(n:PlainAttrs T)(slot:Slot T f id)(m:typeOf (.builtin id)=pure (.type "method_descriptor"))(hm:Nb X id r)(p:PE X o i)(q:PA X (e::es) t)(h:attributeBase o f X.env (eval o X.env)=eval o X.env:=by rfl)(l:((backTo d (starEach (e::es) X.env)).all (λx=>!x.1)&&(backToKw d (keywordEach [] X.env)).all (λx=>x.1.isSome)&&decide ((e::es).length+([]:List Keyword).length+(if([]:List Keyword).isEmpty then 0 else 1)<30))=true:=by rfl)(j:(g.endLine==d.line)=true:=by rfl)(s:starEach (e::es) X.env=(false,eval e X.env)::starEach es X.env:=by rfl)(a:(backTo d (starEach es X.env)).any (·.1)=false:=by rfl):PE X (.Call (.Attribute o f g) (e::es) [] d) (tBM K T r i t):=by subst c;show Lx n slot m hm p q h l j s a
end
def aL:bootBuiltins "len"=some (.builtin "len"):=by decide+kernel
def Fu:bootBuiltins "max"=some (.builtin "max"):=by decide+kernel
def uW:bootBuiltins "min"=some (.builtin "min"):=by decide+kernel
def bd:bootBuiltins "isinstance"=some (.builtin "isinstance"):=by decide+kernel
def kK:bootBuiltins "all"=some (.builtin "all"):=by decide+kernel
def uY:bootBuiltins "any"=some (.builtin "any"):=by decide+kernel
def zI:bootBuiltins "divmod"=some (.builtin "divmod"):=by decide+kernel
def mq:bootBuiltins "sorted"=some (.builtin "sorted"):=by decide+kernel
def Ft:bootBuiltins "sum"=some (.builtin "sum"):=by decide+kernel
def Fv:bootBuiltins "int"=some (.type "int"):=by decide+kernel
def uU:bootBuiltins "str"=some (.type "str"):=by decide+kernel
def CQ:bootBuiltins "bool"=some (.type "bool"):=by decide+kernel
def gx:bootBuiltins "list"=some (.type "list"):=by decide+kernel
def bX:bootBuiltins "tuple"=some (.type "tuple"):=by decide+kernel
def uV:bootBuiltins "set"=some (.type "set"):=by decide+kernel
def uX:bootBuiltins "enumerate"=some (.type "enumerate"):=by decide+kernel
def Fs:bootBuiltins "zip"=some (.type "zip"):=by decide+kernel
def vR:bootBuiltins "reversed"=some (.type "reversed"):=by decide+kernel
section
variable{X:Cx}
def kx(hg:Gl X x)(hm:X.mg x=none)(a:bootBuiltins x=some (.type T))(hn:x≠"__name__":=by decide)(hd:(x==("__debug__":Str))=false:=by decide):PE X (.Name x c) (tC (.ty T)):=GN hg hm a () hn hd
def cC(hm:∃u,X.mg x=some u/\aV v u)(hg:Gl X x)(hd:(x==("__debug__":Str))=false:=by decide):PE X (.Name x a) (tC v):=by obtain⟨u,h1,h2⟩:=hm;show Bj hg h1 h2 hd
end
def gN{K:O6}{A B:String}{b:Bool}(h:(if((Value.type A)==.type B)=true then some true else if PySem.W.kitMeta B=true then(fastBuiltinMro A).map (·.contains (.type B))else none)=some b):PySem.W.kitOne K (.type A) (.type B)=some b:=h
def kC{i j:Int}{A B:Prop}(h1:i=j->A)(h2:i≠j->B):if decide (V.int i=V.int j)=true then A else B:=by
 by_cases h:i=j
 ·subst h;rw[ol ()];show bB (h1 ())
 ·rw[op (λe=>h (V.int.inj e))];show cj (h2 h)
def LR{i j:Int}{A B:Prop}(h1:i≠j->A)(h2:i=j->B):if(!decide (V.int i=V.int j))=true then A else B:=by
 by_cases h:i=j
 ·subst h;rw[ol ()];show cj (h2 ())
 ·rw[op (λe=>h (V.int.inj e))];show bB (h1 h)
def k9{c:Prop}[Decidable c]{A B:Prop}(h1:c->A)(h2:¬c->B):if decide c=true then A else B:=by
 by_cases h:c
 ·rw[ol h];show bB (h1 h)
 ·rw[op h];show cj (h2 h)
def vL{b:Bool}{A B:Prop}(h1:b=true->A)(h2:b=false->B):if b=true then A else B:=by cases b with|true=>show bB (h1 ())|false=>show cj (h2 ())
def au(h:F (a.set j (some x)) H):kI j x a H F:=h
def iJ(h:F true H):KW a H F:=h
def JK(h:aH H a o b=none):b≠a/\H b=none:=by
 by_cases e:b=a
 ·rw[e,ae]at h;cases h
 ·rw[ak e]at h;show(e,h,)
def bN(i:Int){n:Int}(h:0<n):0<=i%n/\i%n<n:={Nw _ (by lia),Nz _ h}
def JQ(x:Int):Builtin.bitAnd x 2147483647=x%2147483648:=PySem.W.kbt_mask x 31
section
variable{X:Cx}
def MO:V->Option Int->Option Int->Hp->VK->Prop:=λx lo hi H Q=>∃z,x=.str z/\z.length<=sizeLine/\Q (.str (Txt.slice z lo hi)) H
def xl:KO X MO:=by intro a s g H x v n o lo hi sl Q I m b pl d h;obtain⟨z,rfl,c,q⟩:=h;obtain⟨t,rfl⟩:=m;show{"str",_,F.slot_str_getitem.lookup,typeIs_str _ _ _,?_};have fin:∀(e:Tok)(k:Nat),EP X a g Q (.str (Txt.slice z lo hi) e) {s with toks:=k}:=λe k=>{.str _,H,I.tok k,{_,()},q};cases pl with
 |none=>cases d with|none=>show NB (l:=none) (u:=none) (st:=none) b () (Ov {nr (Txt.slice_le z _ _) c,fin})|int j u=>show NB (l:=none) (u:=some (j,u)) (st:=none) b () (Ov {nr (Txt.slice_le z _ _) c,fin})
 |int i f=>cases d with|none=>show NB (l:=some (i,f)) (u:=none) (st:=none) b () (Ov {nr (Txt.slice_le z _ _) c,fin})|int j u=>show NB (l:=some (i,f)) (u:=some (j,u)) (st:=none) b () (Ov {nr (Txt.slice_le z _ _) c,fin})
end
def Ii{c:Bool}{t u:TS}{D:jV}{a:St}{H:Hp}(J:St->Hp->Prop)(h1:∀a H,J a H->D.nx a H)(h2:∀N:St->Hp->Prop,(∀a H,J a H->N a H)->if c=true then t {D with nx:=N} a H else u {D with nx:=N} a H):if c=true then t D a H else u D a H:=h2 D.nx h1
def lF(h:D.nx a H):ym D a H:=h
def aj(h:am c H)(hn:H a=none):am c (aH H a o):=λb d f=>by have e:=h b d f;rw[ak (av e hn)];show e
def zL(h0:0<=i)(h1:i<xs.length):∃c,vS xs i=some c/\c∈xs:=by show{xs[i.toNat]'(by lia),?_,OY _};unfold vS Hh;rw[md h0,md h1];change xs[i.toNat]?=_;rw[h_ (by lia)]
def dq{n:Nat}(h:n<=65536):n<=sizeLine:=by rw[mo];lia
mutual
inductive CT(K:O6)(H:Hp):V->PyData->Prop|non:CT K H .non .none|bl(b:Bool):CT K H (.bl b) (.bool b)|int(i:Int):CT K H (.int i) (.int i)|str(x:Str):CT K H (.str x) (.str x)|lst{a:Addr}{xs:List V}{ds:List PyData}:aR K H a xs->IsPs K H xs ds->CT K H (.ref a) (.list ds)|tup{a:Addr}{xs:List V}{ds:List PyData}:aY K H a xs->IsPs K H xs ds->CT K H (.ref a) (.tuple ds)
inductive IsPs(K:O6)(H:Hp):List V->List PyData->Prop|nil:IsPs K H [] []|cons{v:V}{d:PyData}{vs:List V}{ds:List PyData}:CT K H v d->IsPs K H vs ds->IsPs K H (v::vs) (d::ds)
end
section
variable{X:Cx}{c:O8}{f:St}{H:Hp}{s:Shared}
mutual
theorem CT.reads(I:aO X c f H s):∀{v:V}{d:PyData}{u:Value},CT X.K H v d->aV v u->∃g,Reads s.heap u d g|_,_,_,.non,r=>by obtain rfl:_=Value.none:=r;show{_,.none}|_,_,_,.bl b,r=>by obtain rfl:_=Value.bool b:=r;show{_,.bool b}|_,_,_,.int i,r=>by obtain⟨t,rfl⟩:=r;show{_,.int i t}|_,_,_,.str x,r=>by obtain⟨t,rfl⟩:=r;show{_,.str x t}|_,_,_,.lst (a:=a) h j,r=>by obtain rfl:_=Value.ref a:=r;obtain⟨k,l,⟨o,n,e,hc,_,hd⟩,_⟩:=I.list h;obtain⟨g,q⟩:=IsPs.reads I j l;show{_,.list e hc hd (by simpa using q)}|_,_,_,.tup (a:=a) h j,r=>by obtain rfl:_=Value.ref a:=r;obtain⟨k,l,⟨o,e,hc,n,hd⟩,_⟩:=I.tuple h;obtain⟨g,q⟩:=IsPs.reads I j l;show{_,.tuple e hc hd (by simpa using q)}
theorem IsPs.reads(I:aO X c f H s):∀{a:List V}{ds:List PyData}{d:O_},IsPs X.K H a ds->aZ a d->∃e,ReadsAll s.heap d ds e|_,_,_,.nil,r=>by cases r;show{_,.nil}|_,_,_,.cons h b,r=>by cases r with|cons g r2=>obtain⟨e,q⟩:=CT.reads I h g;obtain⟨bs,p⟩:=IsPs.reads I b r2;show{_,.cons q p}
end
end
section
variable{X:Cx}
def Ls(K:O6):R2:=λx y H Q=>∃d e,CT K H x d/\CT K H y e/\SeqAt.shaped d=true/\SeqAt.shaped e=true/\Q (.bl (PyData.eqv d e)) H
def JB(c:X.A.units+64<cLine):lg X (compareOp .Eq) (Ls X.K):=by intro a s i H x y v u Q I b f h;obtain⟨d,e,h1,h2,h3,h4,q⟩:=h;obtain⟨j,g⟩:=h1.reads I b;obtain⟨bs,r2⟩:=h2.reads I f;show eq_dataH g r2 h3 h4 c {.bl _,H,I,(),q}
def MZ{A:Around}{k:Nat}(a:eV k A):A.units+64<cLine:=by have:=a.un;lia
def GP(K:O6)(a:X.K=K)(c:X.A.units+64<cLine):lg X (compareOp .Eq) (Ls K):=by subst a;show JB c
def Fp(hc:X.calm=true):dy X (.builtin "sum") (λa H Q=>∃(p:Addr)(ns:Pg),a=[.ref p]/\(aR X.K H p (ns.map V.int)\/aY X.K H p (ns.map V.int))/\Q (.int ns.sum) H):=by
 intro j s n H a o Q I r h;obtain⟨p,ns,rfl,d,q⟩:=h;obtain⟨u,rfl,k⟩:=jY r;cases k;have sm:∀{b:O_},aZ (ns.map V.int) b->∃a:Array (Int×Tok),b.toArray=intItems a/\preSum (numAt a) a.size=ns.sum:=λf=>by
  have hi:IntsAre _ ns:=AE f;obtain⟨a,c⟩:=hi.allInts.items;show{a,c,?_};have l:ns=a.toList.map (·.1):=by rw[<-nums_intItems,<-c];show hi.numsOf.symm
  rw[preSum_eq,l_ (by simp),l]
 rcases d with d|d
 ·obtain⟨b,f,pl,m⟩:=I.list d;obtain⟨a,c,e⟩:=sm f;show sum_intListG (I.ok.hd hc) (xs:=a) (c▸pl.isList) λh' tk g i=>?_;rw[e];show{.int _,H,I.kept (h':=h') (t':=tk) i,{_,()},q}
 ·obtain⟨b,f,pt,m⟩:=I.tuple d;obtain⟨a,c,e⟩:=sm f;show PySem.W.ktm_sumG (I.ok.hd hc) (xs:=a) (c▸pt) λh' tk g i=>?_;rw[e];show{.int _,H,I.kept (h':=h') (t':=tk) i,{_,()},q}
def CJ(K:O6)(a:X.K=K)(hc:X.calm=true):dy X (.builtin "sum") (λc H Q=>∃(p:Addr)(ns:Pg),c=[.ref p]/\(aR K H p (ns.map V.int)\/aY K H p (ns.map V.int))/\Q (.int ns.sum) H):=by subst a;show Fp hc
end
def bG(h:am d H)(hn:d a=none):am d (aH H a o):=λb f c=>by
 have:b≠a:=λe=>by rw[e,hn]at c;cases c
 rw[ak this];show h b f c
def aq{a:Type}{c:List a}{k:Nat}{v:a}(h:c[k]?=some v):vS c (k:Int)=some v:=by have b:=(c_.mp h).1;unfold vS Hh;rw[md (by lia),md (by lia)];show h
def mS{ns:Pg}{k:Int}(h0:0<=k)(h1:k<ns.length):vS (ns.map V.int) k=some (.int (ns.getD k.toNat 0)):=by obtain⟨n,rfl⟩:∃n:Nat,k=n:={k.toNat,by lia};show aq ?_;rw[i_,h_ (by lia)];simp only[ry,List.getD,h_ (show n<ns.length by lia)];rfl
def Hg{n:Nat}{k:Int}(h0:0<=k)(h1:k<n):Hh n k=some k.toNat:=by unfold Hh;rw[md h0,md h1]
def ze(ns:Pg)(j:Nat)(v:Int):(ns.map V.int).set j (.int v)=(ns.set j v).map V.int:=by rw[List.map_set]
def am.tseq{K:O6}{H c:Hp}{a:Addr}{d:List V}(e:am H c)(h:aY K H a d):aY K c a d:=by
 rcases h with h|h
 ·rcases h with h|⟨o,h⟩
  ·show .inl (.inl (e _ _ h))
  ·show .inl (.inr {o,e _ _ h})
 ·show .inr h
@[irreducible]def cw:Int:=10^(30:Int).toNat
def yk:cw=10^(30:Int).toNat:=by unfold cw;rfl
def mE:1000000000000000000<cw:=by rw[yk];decide+kernel
section
variable{X:Cx}
def qu:lg X (binaryOp .Pow) (λx y H Q=>x=.int 10/\y=.int 30/\Q (.int cw) H):=by intro a s b H x y v u Q I c d h;obtain⟨rfl,rfl,q⟩:=h;rw[yk]at q;show JA a s b H _ _ v u Q I c d {10,30,(),(),{by decide,by decide,by decide},q}
end
def lf{n i:Nat}{P:Prop}(hi:i<n)(h:P):∃a,a<n-i/\a=n-(i+1)/\i+1<=n/\P:={_,by lia,(),hi,h}
def fb{K:O6}{lo:Int}{n:Nat}{g:TG}{ds:Pe}{k:Nat}{tc:TT}{te:TE}{r:St}{s:Hp}{D:Addr}{F:Hp->Prop}(Pv:Nat->List V->Hp->Prop)(h0:Pv 0 [] (aH s D (.lst [])))(t:∀i a c,i<n->Pv i a c->g (.int (lo+i)) (iQ ds k r) c λd o=>tc d o λb h=>if b=true then te d h λy j=>j D=some (.lst a)/\a.length<sizeLine/\∃f,f<n-i/\f=n-(i+1)/\i+1<=n/\Pv (i+1) (a++[y]) (aH j D (.lst (a++[y])))else∃f,f<n-i/\f=n-(i+1)/\i+1<=n/\Pv (i+1) a h)(hd:∀a c,Pv n a c->F c):∃W:Nat->Nat->List V->Hp->Prop,(∃m,W 0 m [] (aH s D (.lst [])))/\∀i m a c,W i m a c->((FQ lo n).stop i c/\F c)\/((FQ lo n).go i c/\∀x q,(FQ lo n).yld i c x q->g x (iQ ds k r) q λd o=>tc d o λb h=>if b=true then te d h λy j=>j D=some (.lst a)/\a.length<sizeLine/\∃f,f<m/\W (i+1) f (a++[y]) (aH j D (.lst (a++[y])))else∃f,f<m/\W (i+1) f a h):=by
 show{λi m a c=>m=n-i/\i<=n/\Pv i a c,{_,(),ov _,h0},?_};rintro i m a c⟨rfl,hi,p⟩
 by_cases l:i<n
 ·show .inr {l,λx q y=>?_};obtain⟨e,y⟩:=y;subst e y;show t i a _ l p
 ·have e:i=n:=by lia
  subst e;show .inl {e_ _,hd a c p}
def i0{K:O6}{a:Addr}{xs:List V}{g:TG}{ds:Pe}{k:Nat}{tc:TT}{te:TE}{s:St}{t:Hp}{D:Addr}{F:Hp->Prop}(Pv:Nat->List V->Hp->Prop)(h0:Pv 0 [] (aH t D (.lst [])))(u:∀i c d,i<=xs.length->Pv i c d->aR K d a xs)(v:∀i x c d,xs[i]?=some x->Pv i c d->g x (iQ ds k s) d λf n=>tc f n λb j=>if b=true then te f j λy l=>l D=some (.lst c)/\c.length<sizeLine/\∃h,h<xs.length-i/\h=xs.length-(i+1)/\i+1<=xs.length/\Pv (i+1) (c++[y]) (aH l D (.lst (c++[y])))else∃h,h<xs.length-i/\h=xs.length-(i+1)/\i+1<=xs.length/\Pv (i+1) c j)(hd:∀c d,Pv xs.length c d->F d):∃W:Nat->Nat->List V->Hp->Prop,(∃m,W 0 m [] (aH t D (.lst [])))/\∀i m c d,W i m c d->((Ip K a).stop i d/\F d)\/((Ip K a).go i d/\∀x o,(Ip K a).yld i d x o->g x (iQ ds k s) o λf n=>tc f n λb j=>if b=true then te f j λy l=>l D=some (.lst c)/\c.length<sizeLine/\∃h,h<m/\W (i+1) h (c++[y]) (aH l D (.lst (c++[y])))else∃h,h<m/\W (i+1) h c j):=by
 show{λi m c d=>m=xs.length-i/\i<=xs.length/\Pv i c d,{_,(),ov _,h0},?_};rintro i m c d⟨rfl,hi,p⟩;have q:=u i c d hi p
 by_cases r:i<xs.length
 ·show .inr {{xs,xs[i],q,by simp[r]},λx o y=>?_};obtain⟨e,y⟩:=y;subst e;show v i x c _ (y xs q) p
 ·have e:i=xs.length:=by lia
  subst e;show .inl {{xs,q,e_ _},hd c d p}
def gR{K:O6}{a:Addr}{xs:List V}{g:TG}{ds:Pe}{k:Nat}{tc:TT}{te:TE}{s:St}{t:Hp}{D:Addr}{F:Hp->Prop}(Pv:Nat->List V->Hp->Prop)(h0:Pv 0 [] (aH t D (.lst [])))(u:∀i c d,i<=xs.length->Pv i c d->aY K d a xs)(v:∀i x c d,xs[i]?=some x->Pv i c d->g x (iQ ds k s) d λf n=>tc f n λb j=>if b=true then te f j λy l=>l D=some (.lst c)/\c.length<sizeLine/\∃h,h<xs.length-i/\h=xs.length-(i+1)/\i+1<=xs.length/\Pv (i+1) (c++[y]) (aH l D (.lst (c++[y])))else∃h,h<xs.length-i/\h=xs.length-(i+1)/\i+1<=xs.length/\Pv (i+1) c j)(hd:∀c d,Pv xs.length c d->F d):∃W:Nat->Nat->List V->Hp->Prop,(∃m,W 0 m [] (aH t D (.lst [])))/\∀i m c d,W i m c d->((Io K a).stop i d/\F d)\/((Io K a).go i d/\∀x o,(Io K a).yld i d x o->g x (iQ ds k s) o λf n=>tc f n λb j=>if b=true then te f j λy l=>l D=some (.lst c)/\c.length<sizeLine/\∃h,h<m/\W (i+1) h (c++[y]) (aH l D (.lst (c++[y])))else∃h,h<m/\W (i+1) h c j):=by
 show{λi m c d=>m=xs.length-i/\i<=xs.length/\Pv i c d,{_,(),ov _,h0},?_};rintro i m c d⟨rfl,hi,p⟩;have q:=u i c d hi p
 by_cases r:i<xs.length
 ·show .inr {{xs,xs[i],q,by simp[r]},λx o y=>?_};obtain⟨e,y⟩:=y;subst e;show v i x c _ (y xs q) p
 ·have e:i=xs.length:=by lia
  subst e;show .inl {{xs,q,e_ _},hd c d p}
def Fl{K:O6}{z:Str}{g:TG}{ds:Pe}{k:Nat}{tc:TT}{te:TE}{r:St}{s:Hp}{D:Addr}{F:Hp->Prop}(Pv:Nat->List V->Hp->Prop)(h0:Pv 0 [] (aH s D (.lst [])))(t:∀i c a d,z.cps.toList[i]?=some c->Pv i a d->g (.str {#[c]}) (iQ ds k r) d λf n=>tc f n λb j=>if b=true then te f j λy l=>l D=some (.lst a)/\a.length<sizeLine/\∃h,h<z.cps.toList.length-i/\h=z.cps.toList.length-(i+1)/\i+1<=z.cps.toList.length/\Pv (i+1) (a++[y]) (aH l D (.lst (a++[y])))else∃h,h<z.cps.toList.length-i/\h=z.cps.toList.length-(i+1)/\i+1<=z.cps.toList.length/\Pv (i+1) a j)(hd:∀a d,Pv z.cps.toList.length a d->F d):∃W:Nat->Nat->List V->Hp->Prop,(∃m,W 0 m [] (aH s D (.lst [])))/\∀i m a d,W i m a d->((HP z).stop i d/\F d)\/((HP z).go i d/\∀x o,(HP z).yld i d x o->g x (iQ ds k r) o λf n=>tc f n λb j=>if b=true then te f j λy l=>l D=some (.lst a)/\a.length<sizeLine/\∃h,h<m/\W (i+1) h (a++[y]) (aH l D (.lst (a++[y])))else∃h,h<m/\W (i+1) h a j):=by
 show{λi m a d=>m=z.cps.toList.length-i/\i<=z.cps.toList.length/\Pv i a d,{_,(),ov _,h0},?_};rintro i m a d⟨rfl,hi,p⟩;have v:z.cps.toList.length=z.cps.size:=by simp
 by_cases q:i<z.cps.size
 ·show .inr {q,λy o u=>?_};obtain⟨e,c,hc,rfl⟩:=u;subst e;show t i c a _ (by simpa using hc) p
 ·have e:i=z.cps.toList.length:=by lia
  subst e;show .inl {by change z.cps.size<=_;lia,hd a d p}
def EN{i j:Str}{A B:Prop}(h1:i=j->A)(h2:i≠j->B):if decide (V.str i=V.str j)=true then A else B:=by
 by_cases h:i=j
 ·subst h;rw[ol ()];show bB (h1 ())
 ·rw[op (λe=>h (V.str.inj e))];show cj (h2 h)
abbrev fQ(led:Bool):Obj:={cls:=.type "set",dict:=none,data:=.set #[] 0 (.fresh 0 0 led)}
def uC{a:Type}[BEq a](c:Nat->a)(i:Nat):List a:=((List.range i).map c).foldl step_dedup []
section
variable{a:Type}[DecidableEq a][BEq a][LawfulBEq a]
def wH(c:Nat->a)(i:Nat):uC c (i+1)=step_dedup (uC c i) (c i):=by change((List.range (i+1)).map c).foldl step_dedup []=_;rw[NQ,k_,Ha];rfl
def Et(c:Nat->a)(i:Nat):(uC c i).length<=i:=by induction i with|zero=>show e_ 0|succ i b=>
  rw[wH];unfold step_dedup
  split
  ·show G_ b
  ·rw[mu];show L_ b
end
def qf(b:Bool)(h:Heap)(a:Addr)(c:Pd):Prop:=∃o,h.get? a=some o/\o.cls=.type (cond b "list" "tuple")/\∃n,o.data=.seq c n
def qZ(b:Bool)(h:Heap)(a l:Addr)(i:Nat):Prop:=∃o,h.get? a=some o/\o.cls=.type (cond b "list_iterator" "tuple_iterator")/\o.data=.fields #[.ref l,.int i 0]
def qf.at{b:Bool}{h h':Heap}{a:Addr}{c:Pd}(x:qf b h a c)(e:∀o,h.get? a=some o->h'.get? a=some o):qf b h' a c:=Exists.imp (λ_ r=>{e _ r.1,r.2}) x
def qZ.at{b:Bool}{h h':Heap}{a l:Addr}{i:Nat}(x:qZ b h a l i)(e:∀o,h.get? a=some o->h'.get? a=some o):qZ b h' a l i:=Exists.imp (λ_ r=>{e _ r.1,r.2}) x
section
variable{P:Pa}{w:World}{A:Around}{E:O7}{s:Shared}
def A5{b:Bool}{l:Addr}{a:Pd}{Q:O7}(c:qf b s.heap l a)(q:Q (.ref s.heap.objs.size) {s with heap:=s.heap.push {cls:=.type (cond b "list_iterator" "tuple_iterator"),data:=.fields #[.ref l,.int 0 0]}}):wpAny (model P w) A (pyIter (.ref l)) Q E s:=by cases b with|false=>show Nx c q|true=>show N4 c q
end
instance(priority:=10000)keyBEq:BEq (Sum Int Str):={λa b=>decide (a=b)}
instance(priority:=10000)keyLaw:LawfulBEq (Sum Int Str)where
 eq_of_beq:=λh=>pw h
 rfl:=ol rfl
def dd{a:Type}[BEq a](c:List a):List a:=c.foldl step_dedup []
def nZ(a:List c)(d:c):(List.range a.length).map (λi=>a.getD i d)=a:=by show List.ext_getElem (by simp) λi h1 h2=>?_;simp[List.getD,h_ h2]
def GZ[BEq c](a:List c)(d:c):uC (λi=>a.getD i d) a.length=dd a:=by unfold uC dd;rw[nZ]
section
def Hd(r:aV (kV k) v):nN k v=true/\v.scannable=true:=by cases k with|inl i=>obtain⟨t,rfl⟩:=r;show{wL i t,()}|inr x=>obtain⟨t,rfl⟩:=r;show{wK x t,()}
end
theorem qM[BEq c]:∀(d:List c)(a:List c),(d.foldl step_dedup a).length<=a.length+d.length
 |[],a=>e_ _|k::r,a=>by
  have:=qM r (step_dedup a k);have h2:(step_dedup a k).length<=a.length+1:=by
   unfold step_dedup
   split
   ·show t6 _
   ·rw[mu];show e_ _
  rw[C1,o_];lia
theorem zy[DecidableEq d][BEq d][LawfulBEq d]:∀(f c:List d),c.Nodup->((f.foldl step_dedup c).length=c.length+f.length↔(c++f).Nodup)
 |[],c,h=>by simp[h]|k::r,c,h=>by
  rw[C1]
  by_cases e:c.any (·==k)=true
  ·have g:step_dedup c k=c:=by unfold step_dedup;rw[md e]
   have hm:k∈c:=by obtain⟨x,j,q⟩:=On.mp e;rw[<-eq_of_beq q];show j
   rw[g]
   constructor
   ·intro q;have:=qM r c;rw[o_]at q;lia
   ·intro q;rw[p5]at q;show absurd () (q.2.2 k hm k (oa))
  ·have g:step_dedup c k=c++[k]:=by unfold step_dedup;rw[me e]
   have hm:k∉c:=λl=>e (On.mpr {k,l,tA k});rw[g];have i:=zy r (c++[k]) (by rw[p5];show{h,by simp,λa m b n q=>hm (by rw[List.mem_singleton.mp n]at q;show q▸m)})
   rw[z8]at i;rw[show c++k::r=c++([k]++r)by rfl,<-i,mu,o_,List.length_singleton]
   constructor<;>intro q<;>lia
def Kh[DecidableEq c][BEq c][LawfulBEq c](a:List c):(dd a).length=a.length↔a.Nodup:=by have:=zy a [] NX;simp at this;unfold dd;show this
end L2
namespace L2
open PySem
def C5(t:SetTable)(n:Nat):(t.orStandIn n).led=t.led/\(t.plain=false->(t.orStandIn n).plain=false):=by
 unfold SetTable.orStandIn
 split
 ·show{(),id}
 ·show{(),λ_=>()}
def IA(t:SetTable)(es:Array (Int×Value))(h:Int)(x:Value):(layNew t es h x).2.1.led=t.led/\(t.plain=false->(layNew t es h x).2.1.plain=false):=by
 unfold layNew
 split
 ·rename_i sl wd e;show C5 (t.put sl).1 _
 ·show{(),λ_=>()}
def C6(t:SetTable)(es:Array (Int×Value))(n:Nat):(relayAll t es n).2.1.led=t.led/\(t.plain=false->(relayAll t es n).2.1.plain=false):=by
 unfold relayAll
 split
 ·rename_i a c e;have b:a.led=t.led/\a.plain=t.plain:=by unfold SetTable.relaid SetTable.laid at e;cases hc:SetTable.layClean (SetTable.sizeAbove n-1) (es.map (·.1))with|none=>rw[hc]at e;cases e|some ow=>rw[hc]at e;cases e;show{(),()}
  dsimp only
  split
  ·show{b.1,λh=>b.2.trans h}
  ·show{(),λ_=>()}
 ·show{(),λ_=>()}
def uM(h:l[i]?=some x):(x::l.eraseIdx i).Perm l:=by
 have a:=(c_.mp h).1;have b:=(c_.mp h).2;have e:l=l.take i++x::l.drop (i+1):=by rw[<-b,List.getElem_cons_drop,t_]
 rw[List.eraseIdx_eq_take_drop_succ];show List.Perm.trans ?_ (List.Perm.of_eq e.symm);show List.perm_middle.symm
def ww(next:Nat->Nat)(c:Array d):(pickOrder next c).toList.Perm c.toList:=by
 have go:∀(a k:Nat)(left:List d)(out:Array d),left.length<=a->(pickOrder.go next a k left out).toList.Perm (out.toList++left):=by
  intro a
  induction a with|zero=>intro k left out h;have:left=[]:=List.length_eq_zero_iff.mp (by lia);subst this;unfold pickOrder.go;rw[q4]|succ a e=>intro k left out h;unfold pickOrder.go;cases b:left[next k%left.length]?with
 |none=>
    have hn:left=[]:=by cases left with|nil=>rfl|cons y f=>have:=Nq.mp b;have:=Nat.mod_lt (next k) (show 0<(y::f).length from Op _);lia
    subst hn;rw[q4]|some x=>have g:=(c_.mp b).1;have i:=(c_.mp b).2;dsimp only;show(e _ _ _ (by rw[List.length_eraseIdx];split<;>lia)).trans ?_;rw[OT,z8];show List.Perm.append_left _ ?_;change(x::left.eraseIdx (next k%left.length)).Perm left;show uM b
 have:=go c.size 0 c.toList #[] (by simp);unfold pickOrder;simpa using this
def ix:Slot "set_iterator" "__next__" "set_iterator.__next__":=.of (owner:="set_iterator") (n:="__next__") (by rw[Ou,ND];kernel_rfl) (by decide+kernel) (by decide+kernel) (by decide+kernel) (by first|show .inl (by decide+kernel)|show .inr (by decide+kernel)) (by rw[OC];kernel_rfl)
def sI:Slot "set_iterator" "__iter__" "set_iterator.__iter__":=.of (owner:="set_iterator") (n:="__iter__") (by rw[Ou,ND];kernel_rfl) (by decide+kernel) (by decide+kernel) (by decide+kernel) (by first|show .inl (by decide+kernel)|show .inr (by decide+kernel)) (by rw[OC];kernel_rfl)
def yt:Manifest.owners.lookup (String.ofList ['r','o','t','a','r','e','t','i','_','t','e','s'].reverse)=some Manifest.sig_set_iterator:=by kernel_rfl
def kP(a:Value):argsOk "set_iterator.__next__" {[a],[]}:=by unfold argsOk;rw[signature?_of (id:="set_iterator.__next__") (n:=['_','_','t','x','e','n','_','_']) (o:=['r','o','t','a','r','e','t','i','_','t','e','s']) (by kernel_rfl) yt];kernel_rfl
def oJ(a:Value):argsOk "set_iterator.__iter__" {[a],[]}:=by unfold argsOk;rw[signature?_of (id:="set_iterator.__iter__") (n:=['_','_','r','e','t','i','_','_']) (o:=['r','o','t','a','r','e','t','i','_','t','e','s']) (by kernel_rfl) yt];kernel_rfl
def jH:entryFor table "set_iterator.__next__"=some Builtin.«set_iterator.__next__»:=entryFor_of_tree (by kernel_rfl)
def mY:entryFor table "set_iterator.__iter__"=some Builtin.«dict_keyiterator.__iter__»:=entryFor_alias (id':="dict_keyiterator.__iter__") (by kernel_rfl) () (by decide+kernel) (by kernel_rfl)
def tu:entryFor table "set.__iter__"=some Builtin.«frozenset.__iter__»:=entryFor_alias (id':="frozenset.__iter__") (by kernel_rfl) () (by decide+kernel) (by kernel_rfl)
abbrev iI(first:Value)(i:Nat)(a:Addr)(n ep:Nat):Obj:={cls:=.type "set_iterator",dict:=none,data:=.fields #[first,.int i 0,.ref a,.int n 0,.int ep 0],slots:=#[]}
abbrev lu(a:O_):Obj:={cls:=.type "tuple",dict:=none,data:=.seq a.toArray}
structure fV(h:Heap)(a:Addr)(es:Array (Int×Value))(ep:Nat)(t:SetTable):Prop where
 ob:∃o,h.get? a=some o/\o.cls=.type "set"/\o.data=.set es ep t
 fits:t.fits es.size=true
def fV.keep(x:fV h a es ep t)(k:∀o,h.get? a=some o->h'.get? a=some o):fV h' a es ep t:={let⟨o,e,r⟩:=x.ob;{o,k o e,r},x.fits}
def fV.ty{s:Shared}{a:Addr}{es:Array (Int×Value)}{ep:Nat}{t:SetTable}(x:fV s.heap a es ep t):s.TypeIs (.ref a) "set":=let⟨o,e,c,_⟩:=x.ob;(o,e,c,)
section
variable{prog:Pa}{w:World}{A:Around}{E:O7}{s:Shared}
theorem uN:∀(n:Nat)(a:List f)(s:Shared)(Q:List f->Shared->Prop),a.length<=n->(∀c d,c.Perm a->Q c {s with drawn:=d})->wpAny (model prog w) A (drawOrder n a) Q E s
 |0,a,s,Q,e,h=>by have:a=[]:=List.length_eq_zero_iff.mp (by lia);subst this;unfold drawOrder;show f_ (h [] s.drawn (OE _))|n+1,[],s,Q,e,h=>by unfold drawOrder;show f_ (h [] s.drawn (OE _))|n+1,x::r,s,Q,e,h=>by
  unfold drawOrder;show a_ (m:=choose .order (x::r).length) (λΓ p g=>?_);unfold choose;rw[Sem.wp_choose];show{Nat.succ_ne_zero _,?_};have hi:w.draws .order (s.drawn.get .order)%(x::r).length<(x::r).length:=Nat.mod_lt _ (Op _);have b:wpAny (model prog w) A (match(x::r)[w.draws .order (s.drawn.get .order)%(x::r).length]?with|some y=>do return y::(<-drawOrder n ((x::r).eraseIdx (w.draws .order (s.drawn.get .order)%(x::r).length)))|none=>unsupported "internal:drawOrder") Q E {s with drawn:=s.drawn.bump .order}:=by generalize w.draws .order (s.drawn.get .order)%(x::r).length=i at hi⊢;rw[h_ hi];show a_ (uN n _ _ _ (by rw[List.length_eraseIdx,md hi];lia) λc d j=>?_);show f_ (h _ _ ((List.Perm.cons _ j).trans (uM (h_ hi))))
  show b
set_option maxHeartbeats 4000000 in
def EM{a:Addr}{es:Array (Int×Value)}{ep:Nat}{t:SetTable}{Q:O7}(d:fV s.heap a es ep t)(hn:es.size<=sizeLine)(h1:(!w.params.followText "set-order"&&(!t.plain&&decide (es.size>1)))=false->Q (.ref s.heap.objs.size) {s with heap:=s.heap.push (iI (.int 0 0) 0 a es.size ep)})(h2:(!w.params.followText "set-order"&&(!t.plain&&decide (es.size>1)))=true->∀(c:Pe)(e:Drawn),c.Perm (List.range es.size)->Q (.ref (s.heap.objs.size+1)) {s with heap:=(s.heap.push (lu (c.map λ(i:Nat)=>Value.int (i:Int) 0))).push (iI (.ref s.heap.objs.size) 0 a es.size ep),drawn:=e}):wpAny (model prog w) A (pyIter (.ref a)) Q E s:=by obtain⟨o,b,hc,hd⟩:=d.ob;have f:=d.fits;show OL d.ty F.slot_set_iter (rk F.slot_set_iter d.ty tu ?_ (F.args_set_iter_1 _));unfold Builtin.«frozenset.__iter__»;show a_ (m:=Builtin.Frozenset.slot0 "__iter__" _) (a_ (m:=slotArgs "__iter__" 0 _) (f_ (f_ ?_)));show a_ (m:=Builtin.Frozenset.sizeOf a) (a_ (NS b hd f (f_ ?_)));show a_ (m:=setDrawn a) (a_ (Nj b hd f (a_ (a_ (Np (f_ ?_))))));show f_ ?_;dsimp only;change wpAny _ _ (if(!w.params.followText "set-order"&&(!t.plain&&decide (es.size>1)))=true then _ else _) _ _ s;cases hc:(!w.params.followText "set-order"&&(!t.plain&&decide (es.size>1)))with|false=>rw[me nn];show a_ (f_ ?_);show a_ (wpAny_setEpoch_of b hd f ?_);show a_ (rm (f_ {_,(),"set_iterator",_,{_,j_ _ (),()},ix.lookup,?_}));show h1 hc|true=>
  rw[md ()];show a_ (uN es.size (List.range es.size) s _ (by rw[rd];show e_ _) λc e h=>?_);have j:c.length=es.size:=by rw[h.length_eq,rd]
  show a_ (rm ?_ (by change(c.map λ(i:Nat)=>rawInt i).toArray.size<=sizeLine;rw[m_,b_,j];show hn));have g:(s.heap.push (lu (c.map λ(i:Nat)=>Value.int (i:Int) 0))).get? a=some o:=d_ _ b;show a_ (wpAny_setEpoch_of (s:={s with heap:=s.heap.push (lu (c.map λ(i:Nat)=>Value.int (i:Int) 0)),drawn:=e}) g hd f ?_);show a_ (rm (f_ {_,(),"set_iterator",_,{_,j_ _ (),()},ix.lookup,?_}));have:=h2 hc c e h;rw[show s.heap.objs.size+1=(s.heap.push (lu (c.map λ(i:Nat)=>Value.int (i:Int) 0))).objs.size from(rf ..).symm]at this;show this
def Cm{I a:Addr}{es:Array (Int×Value)}{ep i slot nx:Nat}{t:SetTable}{x:Value}{Q:Option Value->Shared->Prop}(c:s.heap.get? I=some (iI (.int slot 0) i a es.size ep))(d:fV s.heap a es ep t)(hn:∀(A:Around)(e:Option (Value×Nat)->Shared->Prop)(E:O7),e (some (x,nx)) s->wpAny (model prog w) A (setNext a slot i ep) e E s)(f:∀h',h'.get? I=some (iI (.int nx 0) (i+1) a es.size ep)->Heap.SameBut I s.heap h'->Q (some x) {s with heap:=h'}):wpAny (model prog w) A (pyNext (.ref I)) Q E s:=by obtain⟨o,g,hc,hd⟩:=d.ob;have ty:s.TypeIs (.ref I) "set_iterator":={_,c,()};unfold pyNext;show a_ (N9 (r4 (name:=Str.ofString "__next__") ty ix (rk ix ty jH ?_ (kP _))));unfold Builtin.«set_iterator.__next__»;show a_ (m:=slotArgs "__next__" 0 _) (f_ ?_);show a_ (wpAny_fieldsOf c () ?_);change wpAny _ _ (setEntries a>>=_) _ _ s;show a_ (NS g hd d.fits ?_);rw[me (by simp)];show a_ (m:=setNext a slot i ep) (hn _ _ _ ?_);show a_ (sT c (by simp) λh1 h b1=>?_);show a_ (sT (s:={s with heap:=h1}) h (by simp) λh2 j b2=>?_);show f_ {_,(),f_ (f h2 ?_ (b1.trans b2))};rw[j];rfl
def Ap{I T a:Addr}{es:Array (Int×Value)}{ep i:Nat}{c:Pe}{j:Nat}{t:SetTable}{x:Int×Value}{Q:Option Value->Shared->Prop}(d:s.heap.get? I=some (iI (.ref T) i a es.size ep))(e:fV s.heap a es ep t)(l:s.heap.get? T=some (lu (c.map λ(i:Nat)=>Value.int (i:Int) 0)))(n:c[i]?=some j)(p:es[j]?=some x)(q:∀h',h'.get? I=some (iI (.ref T) (i+1) a es.size ep)->Heap.SameBut I s.heap h'->Q (some x.2) {s with heap:=h'}):wpAny (model prog w) A (pyNext (.ref I)) Q E s:=by
 obtain⟨o,g,hc,hd⟩:=e.ob;have ty:s.TypeIs (.ref I) "set_iterator":={_,d,()};unfold pyNext;show a_ (N9 (r4 (name:=Str.ofString "__next__") ty ix (rk ix ty jH ?_ (kP _))));unfold Builtin.«set_iterator.__next__»;show a_ (m:=slotArgs "__next__" 0 _) (f_ ?_);show a_ (wpAny_fieldsOf d () ?_);change wpAny _ _ (setEntries a>>=_) _ _ s;show a_ (NS g hd e.fits ?_);rw[me (by simp)];change wpAny _ _ (seqItems? (.ref T)>>=_) _ _ s;show a_ (z1 l () ?_);have b:(c.map λ(i:Nat)=>Value.int (i:Int) 0).toArray[(i:Int).toNat]?=some (.int (j:Nat) 0):=by rw[OB,i_,ry,n];rfl
 change wpAny _ _ (match(c.map λ(i:Nat)=>Value.int (i:Int) 0).toArray[(i:Int).toNat]?with|some (.int f _)=>_|some _=>_|none=>_) _ _ s;rw[b];show a_ (m:=setNextDrawn a j ep) ?_;unfold setNextDrawn;show a_ (Nj g hd e.fits ?_);dsimp only;rw[me (by simp)];rw[p];show f_ ?_;show a_ (sT d (by simp) λh1 k b1=>?_);show f_ {_,(),f_ (q h1 ?_ b1)};rw[k];rfl
end
def gz(a:Array Nat):Prop:=∀i j:Nat,i<j->j<a.size->a.getD i 0<a.getD j 0
def E3{a:Array Nat}{i:Nat}(h:i<a.size)(d:Nat):a.getD i d=a.getD i 0:=by simp[Array.getD,h]
def gz.le(r:gz a)(h:i<=j)(c:j<a.size):a.getD i 0<=a.getD j 0:=by
 rcases Os i j with q|q
 ·show wh (r i j q c)
 ·have:i=j:=by lia
  rw[this];show e_ _
theorem u0{a:Array Nat}(r:gz a)(j:Nat):∀(fuel lo hi:Nat),hi-lo<=fuel->lo<=hi->hi<=a.size->(∀k,k<lo->a.getD k 0<j)->(∀k,hi<=k->k<a.size->¬a.getD k 0<j)->SetTable.below.go a j fuel lo hi<=a.size/\(∀k,k<SetTable.below.go a j fuel lo hi->a.getD k 0<j)/\(∀k,SetTable.below.go a j fuel lo hi<=k->k<a.size->¬a.getD k 0<j)
 |0,lo,hi,g,h,c,h1,h2=>by
  unfold SetTable.below.go;have:lo=hi:=by lia
  subst this;show(c,h1,h2,)|fuel+1,lo,hi,g,h,c,h1,h2=>by
  unfold SetTable.below.go
  by_cases b:lo<hi
  ·rw[md b];have hm:(lo+hi)/2<a.size:=by lia
   dsimp only;rw[E3 hm j]
   by_cases d:a.getD ((lo+hi)/2) 0<j
   ·rw[md d];show u0 r j fuel _ _ (by lia) (by lia) c (λk f=>Ni (r.le (by lia) hm) d) h2
   ·rw[me d];show u0 r j fuel _ _ (by lia) (by lia) (by lia) h1 (λk f e q=>d (Ni (r.le f e) q))
  ·rw[me b];have:lo=hi:=by lia
   subst this;show(c,h1,h2,)
def qS(r:gz a)(j:Nat):SetTable.below a j<=a.size/\(∀k,k<SetTable.below a j->a.getD k 0<j)/\(∀k,SetTable.below a j<=k->k<a.size->¬a.getD k 0<j):=u0 r j a.size 0 a.size (by lia) (ov _) (e_ _) (λk b=>absurd b (Ow _)) (λk h1 h2=>absurd h2 (by lia))
def DJ(a:Array Nat):Nat->Nat|0=>0|i+1=>a.getD i 0+1
def uZ(r:gz a):∀{i:Nat},i<=a.size->SetTable.below a (DJ a i)=i
 |0,_=>by
  obtain⟨h1,h2,h3⟩:=qS r 0;rcases Nat.eq_zero_or_pos (SetTable.below a 0)with q|q
  ·show q
  ·show absurd (h2 0 q) (Ow _)|i+1,hi=>by
  obtain⟨h1,h2,h3⟩:=qS r (a.getD i 0+1);change SetTable.below a (a.getD i 0+1)=i+1;rcases Nat.lt_trichotomy (SetTable.below a (a.getD i 0+1)) (i+1)with q|q|q
  ·show absurd (w_ _) (h3 i (by lia) (by lia))
  ·show q
  ·have:=h2 (i+1) q;have:=r i (i+1) (w_ _) (by lia);lia
def gz.few{a:Array Nat}(h:a.size<=1):gz a:=λi j h1 h2=>by lia
section
variable{prog:Pa}{w:World}{A:Around}{E:O7}{s:Shared}
def oM(c:fV s.heap a es ep t)(d:w.params.followText "set-order"=true)(h:Q (((pickOrder (w.params.setOrder a ep) es)[i]?).map λe=>(e.2,slot)) s):wpAny (model prog w) A (setNext a slot i ep) Q E s:=by obtain⟨o,b,hc,hd⟩:=c.ob;unfold setNext;show a_ (Nj b hd c.fits ?_);dsimp only;show a_ (m:=setsByText) (a_ (Np (f_ ?_)));change wpAny _ _ (if(w.params.followText "set-order")=true then _ else _) _ _ s;rw[md d,me (by simp)];show a_ (m:=setWalk a) ?_;unfold setWalk;show a_ (Nj b hd c.fits ?_);dsimp only;show a_ (m:=setsByText) (a_ (Np (f_ ?_)));change wpAny _ _ (if(w.params.followText "set-order")=true then _ else _) _ _ s;rw[md d];show a_ (Np (f_ ?_));show f_ h
def oN(c:fV s.heap a es ep t)(d:w.params.followText "set-order"=false)(e:(!t.plain&&decide (es.size>1))=false)(f:t.led=true)(h:Q (match es[SetTable.below t.place slot]?,t.place[SetTable.below t.place slot]?with|some (_,x),some j=>some (x,j+1)|_,_=>none) s):wpAny (model prog w) A (setNext a slot i ep) Q E s:=by obtain⟨o,b,hc,hd⟩:=c.ob;unfold setNext;show a_ (Nj b hd c.fits ?_);dsimp only;show a_ (m:=setsByText) (a_ (Np (f_ ?_)));change wpAny _ _ (if(w.params.followText "set-order")=true then _ else _) _ _ s;rw[me (by rw[d];show nn)];change wpAny _ _ (if(!t.plain&&decide (es.size>1))=true then _ else _) _ _ s;rw[me (by rw[e];show nn)];show a_ ?_;change wpAny _ _ (if(!t.led&&!es.isEmpty)=true then _ else _) _ _ s;rw[me (by rw[f];simp)];show f_ (f_ h)
def za(hh:A.handled=none)(f:s.heap.get? I=some (iI first i a es.size ep))(j:fV s.heap a es ep t)(hn:(∃slot:Nat,first=.int slot 0/\∀(A:Around)(l:Option (Value×Nat)->Shared->Prop)(E:O7),l none s->wpAny (model prog w) A (setNext a slot i ep) l E s)\/∃(T:Addr)(d:Pe),first=.ref T/\s.heap.get? T=some (lu (d.map λ(i:Nat)=>Value.int (i:Int) 0))/\d[i]?=none)(p:∀h',(∀b o,b≠I->s.heap.get? b=some o->h'.get? b=some o)->Q none {s with heap:=h'}):wpAny (model prog w) A (pyNext (.ref I)) Q E s:=by
 obtain⟨o,q,hc,hd⟩:=j.ob;have ty:s.TypeIs (.ref I) "set_iterator":={_,f,()};have fin:∀(R:Fin->Shared->Prop)(h1:Heap),(∀b o,b≠I->s.heap.get? b=some o->h1.get? b=some o)->wpAny (model prog w) A.in1 (newExc (.type "StopIteration") []>>=λe=>raiseNew e:Sem Fin) R (λe r=>wpAny (model prog w) A (do if<-isInstance e (.type "StopIteration")then pure none else throw e) Q E r) {s with heap:=h1}:=by intro R h1 u;show a_ ?_;simp only[newExc,newTuple];show a_ (rm ?_ (by size_fits));show a_ (m:=firstArgMember _ _) (wpAny_of_eq (a:=Value.none) (by first|rfl|(simp only[firstArgMember];rfl)) ?_);show rm ?_ (by size_fits);simp only[raiseNew];show a_ (wpAny_handled ?_);rw[show A.in1.handled=none from hh];show a_ (f_ (wpAny_throw ?_));show a_ (Od (T:="StopIteration") (b:=true) {_,j_ _ (),()} isSubtype_stop ?_);show f_ (p _ λb o c e=>d_ _ (d_ _ (u b o c e)))
 unfold pyNext;show a_ (N9 (r4 (name:=Str.ofString "__next__") ty ix (rk ix ty jH ?_ (kP _))));unfold Builtin.«set_iterator.__next__»;show a_ (m:=slotArgs "__next__" 0 _) (f_ ?_);show a_ (wpAny_fieldsOf f () ?_);change wpAny _ _ (setEntries a>>=_) _ _ s;show a_ (NS q hd j.fits ?_);rw[me (by simp)];rcases hn with⟨slot,rfl,hn⟩|⟨T,d,rfl,v,x⟩
 ·show a_ (m:=setNext a slot i ep) (hn _ _ _ ?_);show a_ (sT f (by simp) λh1 n b1=>?_);show fin _ h1 λb o c e=>(b1.2 b c).trans e
 ·change wpAny _ _ (seqItems? (.ref T)>>=_) _ _ s;show a_ (z1 v () ?_);have g:(d.map λ(i:Nat)=>Value.int (i:Int) 0).toArray[(i:Int).toNat]?=none:=by rw[OB,i_,ry,x];rfl
  change wpAny _ _ (match(d.map λ(i:Nat)=>Value.int (i:Int) 0).toArray[(i:Int).toNat]?with|some (.int h _)=>_|some _=>_|none=>_) _ _ s;rw[g];show a_ (sT f (by simp) λh1 n b1=>?_);show a_ (sT (s:={s with heap:=h1}) n (by simp) λh2 y b2=>?_);show fin _ h2 λb o c e=>(b2.2 b c).trans ((b1.2 b c).trans e)
def CW(hh:A.handled=none)(J:fV s.heap a es ep t)(hn:es.size<=sizeLine)(Z:w.params.followText "set-order"=false->t.led=true)(hr:t.plain=true->gz t.place)(h:∀(I:Addr)(h':Heap)(P:Drawn)(ord:List (Int×Value))(fp:Pf)(St:Nat->Heap->Prop),ord.Perm es.toList->(∀b o,s.heap.get? b=some o->h'.get? b=some o)->s.heap.objs.size<=I->I<h'.objs.size->(∀b∈fp,b=a\/s.heap.objs.size<=b)->Walks prog w A I fp [I] es.size (λi v=>∃x,ord[i]?=some x/\v=x.2) St->St 0 h'->Q (.ref I) {s with heap:=h',drawn:=P}):wpAny (model prog w) A (pyIter (.ref a)) Q E s:=by
 have ha:a<s.heap.objs.size:=let⟨o,e,_⟩:=J.ob;m3 e;have R:t.place.size=es.size:=by have:=J.fits;unfold SetTable.fits at this;simp only[o0,beq_iff_eq]at this;show this.1
 show EM J hn (λhc=>?_) (λhc g P H=>?_)
 ·--by slots
  have K:∀b o,s.heap.get? b=some o->(s.heap.push (iI (.int 0 0) 0 a es.size ep)).get? b=some o:=λb o e=>d_ _ e;have hg:(s.heap.push (iI (.int 0 0) 0 a es.size ep)).get? s.heap.objs.size=some (iI (.int 0 0) 0 a es.size ep):=j_ _ ();have S:s.heap.objs.size<(s.heap.push (iI (.int 0 0) 0 a es.size ep)).objs.size:=by rw[rf];show w_ _
  have D:a≠s.heap.objs.size:=nB ha;have p:∀(first:Nat->Nat)(ord:List (Int×Value)),first 0=0->ord.Perm es.toList->(∀(i:Nat)(c:Shared)(x:Int×Value),ord[i]?=some x->fV c.heap a es ep t->∀(A:Around)(u:Option (Value×Nat)->Shared->Prop)(E:O7),u (some (x.2,first (i+1))) c->wpAny (model prog w) A (setNext a (first i) i ep) u E c)->(∀(c:Shared),fV c.heap a es ep t->∀(A:Around)(u:Option (Value×Nat)->Shared->Prop)(E:O7),u none c->wpAny (model prog w) A (setNext a (first es.size) es.size ep) u E c)->Q (.ref s.heap.objs.size) {s with heap:=s.heap.push (iI (.int 0 0) 0 a es.size ep)}:=by
   intro first ord f0 H hi hd;have T:ord.length=es.size:=by rw[H.length_eq,ot]
   show h s.heap.objs.size _ s.drawn ord [s.heap.objs.size,a] (λi h'=>h'.get? s.heap.objs.size=some (iI (.int (first i) 0) i a es.size ep)/\fV h' a es ep t) H K (e_ _) S ?_ ?_ ?_
   ·intro b d;simp only[vu,rl,Nt]at d;rcases d with rfl|rfl
    ·show .inr (e_ _)
    ·show .inl ()
   ·show{sub:=λb d=>?_,frame:=λi h1 h2 st k=>?_,item:=λi c L M U st q=>?_,done:=λc L M st q=>?_,self:=λi c L M st q=>?_}
    ·rw[List.mem_singleton.mp d];show oa
    ·show{k _ oa _ st.1,st.2.keep λo e=>k _ (np _ oa) _ e}
    ·obtain⟨x,f⟩:∃x,ord[i]?=some x:={ord[i]'(by lia),h_ (by lia)};show Cm (nx:=first (i+1)) st.1 st.2 (hi i c x f st.2) λh2 V b2=>?_;show q x.2 h2 c.toks {x,f,()} {V,st.2.keep λo e=>(b2.2 _ D).trans e} λb o d e=>(b2.2 b λz=>d (by rw[z];show List.mem_singleton.mpr ())).trans e
    ·show za hh st.1 st.2 (.inl {_,(),hd c st.2}) λh2 W=>?_;show q h2 c.toks λb o d e=>W b o (λz=>d (by rw[z];show List.mem_singleton.mpr ())) e
    ·have ty:c.TypeIs (.ref s.heap.objs.size) "set_iterator":={_,st.1,()};show OL ty sI (rk sI ty mY ?_ (oJ _));show f_ {_,(),"set_iterator",_,ty,ix.lookup,q}
   ·rw[f0];show{hg,J.keep λo e=>K _ _ e}
  cases F:w.params.followText "set-order"with
 |true=>
   have T:(pickOrder (w.params.setOrder a ep) es).toList.length=es.size:=by rw[(ww _ _).length_eq,ot]
   show p (λ_=>0) (pickOrder (w.params.setOrder a ep) es).toList () (ww _ _) (λi c x f m A u E q=>?_) (λc m A u E q=>?_)
   ·show oM m F ?_;have f:(pickOrder (w.params.setOrder a ep) es)[i]?=some x:=by rw[<-vl];show f
    rw[f];show q
   ·show oM m F ?_;have f:(pickOrder (w.params.setOrder a ep) es)[es.size]?=none:=by rw[<-vl];show Nq.mpr (by lia)
    rw[f];show q|false=>
   have B:(!t.plain&&decide (es.size>1))=false:=by rw[F]at hc;simpa using hc
   have rs:gz t.place:=by cases C:t.plain with|true=>show hr C|false=>rw[C]at B;show gz.few ?_;rw[R];simpa using B
   show p (DJ t.place) es.toList () (OE _) (λi c x f m A u E q=>?_) (λc m A u E q=>?_)
   ·have f:es[i]?=some x:=by rw[<-vl];show f
    have hi:i<es.size:=(Array.getElem?_eq_some_iff.mp f).1;show oN m F B (Z F) ?_;rw[uZ rs (by lia),f];have C:t.place[i]?=some (t.place.getD i 0):=by rw[y1 (by lia)];simp[Array.getD,show i<t.place.size by lia]
    rw[C];show q
   ·show oN m F B (Z F) ?_;rw[uZ rs (by lia)];rw[show es[es.size]?=none from Array.getElem?_eq_none (e_ _)];show q
 ·--drawn
  have X:(s.heap.push (lu (g.map λ(i:Nat)=>Value.int (i:Int) 0))).get? s.heap.objs.size=some (lu (g.map λ(i:Nat)=>Value.int (i:Int) 0)):=j_ _ ();have hz:(s.heap.push (lu (g.map λ(i:Nat)=>Value.int (i:Int) 0))).objs.size=s.heap.objs.size+1:=rf ..;have K:∀b o,s.heap.get? b=some o->((s.heap.push (lu (g.map λ(i:Nat)=>Value.int (i:Int) 0))).push (iI (.ref s.heap.objs.size) 0 a es.size ep)).get? b=some o:=λb o e=>d_ _ (d_ _ e);have hg:((s.heap.push (lu (g.map λ(i:Nat)=>Value.int (i:Int) 0))).push (iI (.ref s.heap.objs.size) 0 a es.size ep)).get? (s.heap.objs.size+1)=some (iI (.ref s.heap.objs.size) 0 a es.size ep):=by rw[<-hz];show j_ _ ()
  have aa:g.length=es.size:=by rw[H.length_eq,rd]
  have N:∀(i j:Nat),g[i]?=some j->j<es.size:=λi j q=>by have:=H.mem_iff.mp (g_ q);show x3.mp this
  show h (s.heap.objs.size+1) _ P (g.filterMap λj=>es[j]?) [s.heap.objs.size+1,a,s.heap.objs.size] (λi h'=>h'.get? (s.heap.objs.size+1)=some (iI (.ref s.heap.objs.size) i a es.size ep)/\fV h' a es ep t/\h'.get? s.heap.objs.size=some (lu (g.map λ(i:Nat)=>Value.int (i:Int) 0))) ?_ K (t6 _) ?_ ?_ ?_ ?_
  ·have:=H.filterMap (λj=>es[j]?);rw[filterMap_getElem?_range]at this;show this
  ·rw[rf,hz];show w_ _
  ·intro b d;simp only[vu,rl,Nt]at d;rcases d with rfl|rfl|rfl
   ·show .inr (t6 _)
   ·show .inl ()
   ·show .inr (e_ _)
  ·have D:a≠s.heap.objs.size+1:=nB (F_ ha);have O:∀(i:Nat)(j:Nat)(x:Int×Value),g[i]?=some j->es[j]?=some x->(g.filterMap λj=>es[j]?)[i]?=some x:=by
    have gen:∀(l:Pe),(∀j∈l,j<es.size)->∀(i j:Nat)(x:Int×Value),l[i]?=some j->es[j]?=some x->(l.filterMap λj=>es[j]?)[i]?=some x:=by
     intro l
     induction l with|nil=>intro _ i j x hi _;simp at hi|cons y r ih=>intro d i j x hi f;have hy:es[y]?=some (es[y]'(d y oa)):=y1 _;rw[List.filterMap_cons_some hy];cases i with|zero=>simp only[List.getElem?_cons_zero,N5]at hi⊢;subst hi;rw[hy]at f;show n_ f|succ i=>simp only[List.getElem?_cons_succ]at hi⊢;show ih (λj G=>d j (np _ G)) i j x hi f
    intro i j x h1 h2;show gen g (λj G=>?_) i j x h1 h2;obtain⟨n,hn⟩:=nk.mp G;show N n j hn
   show{sub:=λb d=>?_,frame:=λi h1 h2 st k=>?_,item:=λi c L M U st q=>?_,done:=λc L M st q=>?_,self:=λi c L M st q=>?_}
   ·rw[List.mem_singleton.mp d];show oa
   ·show{k _ oa _ st.1,st.2.1.keep λo e=>k _ (np _ oa) _ e,k _ (np _ (np _ oa)) _ st.2.2}
   ·obtain⟨j,G⟩:∃j,g[i]?=some j:={g[i]'(by lia),h_ (by lia)};have Y:=N i j G;have f:es[j]?=some (es[j]'Y):=y1 _;show Ap st.1 st.2.1 st.2.2 G f λh2 V b2=>?_;show q _ h2 c.toks {_,O i j _ G f,()} {V,st.2.1.keep λo e=>(b2.2 _ D).trans e,(b2.2 _ (nB (w_ _))).trans st.2.2} λb o d e=>(b2.2 b λz=>d (by rw[z];show List.mem_singleton.mpr ())).trans e
   ·show za hh st.1 st.2.1 (.inr {_,g,(),st.2.2,Nq.mpr (by lia)}) λh2 W=>?_;show q h2 c.toks λb o d e=>W b o (λz=>d (by rw[z];show List.mem_singleton.mpr ())) e
   ·have ty:c.TypeIs (.ref (s.heap.objs.size+1)) "set_iterator":={_,st.1,()};show OL ty sI (rk sI ty mY ?_ (oJ _));show f_ {_,(),"set_iterator",_,ty,ix.lookup,q}
  ·show{hg,J.keep λo e=>K _ _ e,d_ _ X}
def EU(ty:s.TypeIs (.ref a) "set")(h:Q false s):wpAny (model prog w) A (Builtin.List.listLengthHint (.ref a)) Q E s:=by
 unfold Builtin.List.listLengthHint;show a_ (Ot ty F.slot_set_len.lookup ?_);generalize c:("set.__len__":String)=nm
 wp_delta
 rw[show splitId nm=some ("set","__len__")from by subst c;decide+kernel];subst c;show a_ (Od (T:="set") (b:=true) ty (by rw[OC];kernel_rfl) ?_);show v_ (λz=>absurd z (by decide)) (λ_=>?_);show v_ (λ_=>?_) (λz=>absurd (by decide+kernel) z);show a_ (OK ty (f_ h))
def zB(hh:A.handled=none)(Q:fV s.heap a es ep t)(hn:es.size<=sizeLine)(Z:w.params.followText "set-order"=false->t.led=true)(l:t.plain=true->gz t.place)(h:∀(h':Heap)(d':Drawn)(tk:Nat)(S:O_),S.Perm (es.toList.map (·.2))->(∀b o,s.heap.get? b=some o->h'.get? b=some o)->s.heap.objs.size<=h'.objs.size->R S {s with heap:=h',drawn:=d',toks:=tk}):wpAny (model prog w) A (collect (.ref a)) R E s:=by
 have J:a<s.heap.objs.size:=let⟨o,e,_⟩:=Q.ob;m3 e;unfold collect;show a_ (wpAny_runValue (Nu F.entry_proto_collect ?_));rw[No F.plain_proto_collect _];show a_ (m:=newList []) (rm ?_);show f_ {NI F.plain_list_iadd _,Nu F.entry_list_iadd ?_};rw[No F.plain_list_iadd _];have U:(s.heap.push {cls:=.type "list",data:=.seq ([]:O_).toArray}).get? s.heap.objs.size=some {cls:=.type "list",data:=.seq #[]}:=j_ _ ();have g:fV (s.heap.push {cls:=.type "list",data:=.seq ([]:O_).toArray}) a es ep t:=Q.keep λo e=>d_ _ e;have j:(s.heap.push {cls:=.type "list",data:=.seq ([]:O_).toArray}).objs.size=s.heap.objs.size+1:=rf ..;have K:∀b o,s.heap.get? b=some o->(s.heap.push {cls:=.type "list",data:=.seq ([]:O_).toArray}).get? b=some o:=λb o e=>d_ _ e;generalize s.heap.push {cls:=.type "list",data:=.seq ([]:O_).toArray}=h0 at U g j K⊢;change wpAny _ A.in1 (Builtin.List.listExtendWith (.ref s.heap.objs.size) (.ref a) (.ref s.heap.objs.size)) _ _ {s with heap:=h0};unfold Builtin.List.listExtendWith;show a_ (OK (T:="set") (s:={s with heap:=h0}) g.ty ?_);have ne:Builtin.List.listSameRef (.ref s.heap.objs.size) (.ref a)=false:=by simp[Builtin.List.listSameRef,q_ J]
 rw[me (by rw[ne];decide)];show a_ (CW (s:={s with heap:=h0}) (A:=A.in1) hh g hn Z l λI h1 d1 ord fp St V D hI aa n W st=>?_);show a_ (ri (EU (s:={s with heap:=h1,drawn:=d1}) (g.keep λo e=>D _ _ e).ty ?_));have L:=D _ _ U;have X:ord.length=es.size:=by rw[V.length_eq,ot]
 have k:∀(h2:Heap)(c:Nat),St 0 h2->(∀b o,s.heap.get? b=some o->h2.get? b=some o)->h2.get? s.heap.objs.size=some {cls:=.type "list",dict:=none,data:=.seq #[] c,slots:=#[]}->codeAny (model prog w) A (.builtin "list.extend.loop" {[.ref s.heap.objs.size,.ref I,.ref s.heap.objs.size],[]}) (λr p=>∃v,r=.ok (.ret v)/\v=.ref s.heap.objs.size/\∃(h':Heap)(tk:Nat)(f:Pd)(u:Nat),p={s with heap:=h',drawn:=d1,toks:=tk}/\(∀b o,s.heap.get? b=some o->h'.get? b=some o)/\h'.get? s.heap.objs.size=some {cls:=.type "list",dict:=none,data:=.seq f u,slots:=#[]}/\f.toList.Perm (es.toList.map (·.2))) {s with heap:=h2,drawn:=d1}:=by
  intro h2 c M k2 G;show codeAny_extend_loopS W.toS hn s.heap.objs.size (λhm=>?_) _ es.size 0 _ #[] c () (ov _) M G (ItemsOf.nil _) λp d u H g' Y=>?_
  ·rcases n _ hm with e|e
   ·show absurd e (q_ J)
   ·have:h0.objs.size<=s.heap.objs.size:=e;rw[j]at this;show absurd this (NL _)
  ·obtain⟨h3,N,d3,t3,o3⟩:=p;obtain rfl:N=s.gens:=H.gens;obtain rfl:d3=d1:=H.drawn;obtain rfl:o3=s.os:=H.os;show{_,(),(),h3,t3,d,u,(),λb o e=>?_,g',?_}
   ·show H.heap b o (λhm=>?_) (k2 b o e);have y:b<s.heap.objs.size:=m3 e;rcases vu.mp hm with z|z
    ·show absurd z (nB y)
    ·rw[List.mem_singleton.mp z]at y;have:h0.objs.size<=I:=hI;rw[j]at this;show absurd (E_ y (Nat.lt_of_succ_le this)) (sg _)
   ·have e1:d.toList=ord.map (·.2):=by show H_ λi=>?_;rw[i_,vl];cases q:d[i]?with|some v=>obtain⟨x,hx,rfl⟩:=Y.2 i v q;rw[hx];rfl|none=>have:d.size<=i:=Array.getElem?_eq_none_iff.mp q;rw[Y.1]at this;rw[rV (by lia)];rfl
    rw[e1];show V.map _
 show v_ (λ_=>?_) (λ_=>f_ {NI F.plain_extend_loop _,E2 (k h1 0 st (λb o e=>D _ _ (K _ _ e)) L) λr p l=>?_})
 case refine_2=>obtain⟨v,rfl,rfl,h',tk,f,u,rfl,O,B,P⟩:=l;show a_ (wpAny_load B (f_ (h h' d1 tk f.toList P O (wh (m3 B)))))
 show a_ (A_ (a_ ?_));change wpAny _ _ (updateSeq s.heap.objs.size (·.push .none)>>=λ_=>updateSeq s.heap.objs.size (·.pop)) _ _ _;show a_ (O1 L () ?_);have G:=u_ (Obj.mapSeq (·.push Value.none)) L ();show O1 (hz:=by seq_fits) G () ?_;have N:=u_ (Obj.mapSeq (·.pop)) G ();show f_ {NI F.plain_extend_loop _,E2 (k _ _ (W.frame 0 _ _ st λb y o e=>?_) (λb o e=>?_) N) λr p l=>?_}
 ·have C:b≠s.heap.objs.size:=λz=>by
   rcases n _ y with q|q
   ·show absurd (z.symm.trans q) (q_ J)
   ·have:h0.objs.size<=b:=q;rw[j,z]at this;show absurd this (NL _)
  show(x_ _ _ (p_ C)).trans ((x_ _ _ (p_ C)).trans e)
 ·have C:b≠s.heap.objs.size:=nB (m3 e);show(x_ _ _ (p_ C)).trans ((x_ _ _ (p_ C)).trans (D _ _ (K _ _ e)))
 ·obtain⟨v,rfl,rfl,h',tk,f,u,rfl,O,B,P⟩:=l;show a_ (wpAny_load B (f_ (h h' d1 tk f.toList P O (wh (m3 B)))))
end
structure qU(led:Bool)(t:SetTable):Prop where
 led:t.led=led
 up:t.plain=true->gz t.place
def qU.off{led:Bool}{t:SetTable}(x:qU led t):qU led {t with plain:=false}:={x.led,λh=>by cases h}
def Ec{t:SetTable}{j:Nat}(h:t.slot j=.empty\/t.slot j=.dummy):t.place[SetTable.below t.place j]?≠some j:=by intro e;unfold SetTable.slot at h;dsimp only at h;rw[md (by rw[e];simp)]at h;rcases h with h|h<;>cases h
theorem oz:∀(fuel:Nat)(p:SetTable.Probe)(j:Nat)(d:Option Nat),(∀x,p.dummy=some x->t.slot x=.dummy)->SetTable.probe.go t l h fuel p=some (.empty j d)->t.slot j=.empty/\∀x,d=some x->t.slot x=.dummy|0,p,j,d,c,e=>by unfold SetTable.probe.go at e;cases e|fuel+1,p,j,d,c,e=>by unfold SetTable.probe.go at e;cases a:t.slot p.j with
 |empty=>rw[a]at e;injection e with e;injection e with f g;subst f;subst g;show(a,c,)|dummy=>
   rw[a]at e;show oz fuel _ j d (λx b=>?_) e;have:(t.advance {p with dummy:=some p.j}).dummy=some p.j:=by
    unfold SetTable.advance
    split<;>rfl
   rw[this]at b;cases b;show a|live i=>
   rw[a]at e;dsimp only at e
   split at e
   ·cases e
   ·show oz fuel _ j d (λx b=>c x ?_) e;have:(t.advance p).dummy=p.dummy:=by
     unfold SetTable.advance
     split<;>rfl
    rw[this]at b;show b
def CB{t:SetTable}{h:Int}{sl:Nat}{wd:Bool}(e:t.freeSlot h=some (sl,wd)):t.place[SetTable.below t.place sl]?≠some sl:=by unfold SetTable.freeSlot at e;cases a:t.probe (λ_=>h+1) h (t.probeStart h)with|none=>rw[a]at e;cases e|some m=>rw[a]at e;cases m with|candidate _ _ _=>cases e|empty j d=>have:=oz (10*SetTable.turns t.mask) (t.probeStart h) j d (λx b=>by cases b) a;injection e with e;injection e with c f;subst c;show Ec ?_;cases d with|none=>show .inl this.1|some x=>show .inr (this.2 x ())
def gd(a:Array Nat)(i:Nat):a.getD i 0=(a.toList[i]?).getD 0:=by rw[vl,Array.getD_eq_getD_getElem?]
def Ac{l:Pe}(h:l.Pairwise (·<·)):gz l.toArray:=by intro i j a b;rw[m_]at b;have:=List.pairwise_iff_getElem.mp h i j (by lia) b a;rw[gd,gd];change(l[i]?).getD 0<(l[j]?).getD 0;rw[h_ b,h_ (show i<l.length by lia)];show this
def zo(c:p<=a.size):(SetTable.insertAt a p x).getD k 0=if k<p then a.getD k 0 else if k=p then x else if k<a.size+1 then a.getD (k-1) 0 else 0:=by
 have e:(SetTable.insertAt a p x).toList=a.toList.take p++x::a.toList.drop p:=by rw[SetTable.toList_insertAt]
 rw[gd,e];have b:(a.toList.take p).length=p:=by rw[oD,ot];lia
 by_cases h1:k<p
 ·rw[md h1,sD (by lia),List.getElem?_take,md h1,gd]
 ·rw[me h1,Es (by lia),b]
  by_cases h2:k=p
  ·rw[md h2,h2,Nat.sub_self];rfl
  ·rw[me h2];obtain⟨m,rfl⟩:∃m,k=p+(m+1):={k-p-1,by lia};rw[show p+(m+1)-p=m+1 by lia,List.getElem?_cons_succ,OI]
   by_cases h3:p+(m+1)<a.size+1
   ·rw[md h3,gd,show p+(m+1)-1=p+m by lia]
   ·rw[me h3,rV (by rw[ot];lia)];rfl
def EO(c:p<=a.size):(SetTable.insertAt a p x).size=a.size+1:=by rw[<-ot,(SetTable.insertAt_perm a p x).length_eq,ot,Array.size_push]
def Cc{t:SetTable}{sl:Nat}(r:gz t.place)(h:t.place[SetTable.below t.place sl]?≠some sl):gz (t.put sl).1.place:=by
 obtain⟨b1,b2,b3⟩:=qS r sl;change gz (SetTable.insertAt t.place (SetTable.below t.place sl) sl);generalize SetTable.below t.place sl=p at h b1 b2 b3;have b4:∀k,p<=k->k<t.place.size->sl<t.place.getD k 0:=by
  intro k d a;have e:t.place[p]?=some (t.place.getD p 0):=by rw[y1 (by lia)];simp[Array.getD,show p<t.place.size by lia]
  have f:t.place.getD p 0≠sl:=λz=>h (by rw[e,z]);have h1:=b3 p (e_ _) (by lia);have h2:=r.le d a;lia
 intro i j b c;rw[EO b1]at c;rw[zo b1,zo b1]
 by_cases h1:j<p
 ·rw[md (by lia),md h1];show r i j b (by lia)
 ·rw[me h1]
  by_cases h2:j=p
  ·rw[md h2,md (by lia)];show b2 i (by lia)
  ·rw[me h2,md c]
   by_cases h3:i<p
   ·rw[md h3];have:=b2 i h3;have:=b4 (j-1) (by lia) (by lia);lia
   ·rw[me h3]
    by_cases h4:i=p
    ·rw[md h4];show b4 (j-1) (by lia) (by lia)
    ·rw[me h4,md (by lia)];show r (i-1) (j-1) (by lia) (by lia)
def qU.lay{led:Bool}{t:SetTable}(x:qU led t)(es:Array (Int×Value))(h:Int)(v:Value):qU led (layNew t es h v).2.1:=by
 show{(IA t es h v).1.trans x.led,?_};unfold layNew
 split
 ·rename_i sl wd e;intro a;dsimp only at a⊢;unfold SetTable.orStandIn at a⊢
  split
  ·rename_i b;rw[md b]at a;show Cc (x.up a) (CB e)
  ·rename_i b;rw[me b]at a;cases a
 ·intro a;cases a
def qU.relay{led:Bool}{t:SetTable}(x:qU led t)(es:Array (Int×Value))(n:Nat):qU led (relayAll t es n).2.1:=by
 show{(C6 t es n).1.trans x.led,?_};unfold relayAll
 split
 ·rename_i l m e;dsimp only
  split
  ·intro _;unfold SetTable.relaid SetTable.laid at e;cases hc:SetTable.layClean (SetTable.sizeAbove n-1) (es.map (·.1))with|none=>rw[hc]at e;cases e|some ow=>
    rw[hc]at e;cases e;change gz ((((List.range (SetTable.sizeAbove n-1+1)).filterMap λj=>(ow.getD j none).map (j,·)).map (·.1)).toArray);have k:(((List.range (SetTable.sizeAbove n-1+1)).filterMap λj=>(ow.getD j none).map (j,·)).map (·.1)).Pairwise (·<·):=by rw[List.map_filterMap];show List.Pairwise.filterMap _ (R:=(·<·)) (S:=(·<·)) ?_ List.pairwise_lt_range;intro a b f x c y d;cases h:ow.getD a none with|none=>rw[h]at c;cases c|some v=>cases i:ow.getD b none with|none=>rw[i]at d;cases d|some u=>rw[h]at c;rw[i]at d;cases c;cases d;show f
    show Ac k
  ·intro g;cases g
 ·intro g;cases g
section
variable{prog:Pa}{w:World}{c:Type}[DecidableEq c](knd:PySem.KeyKind prog w c)(kOf:Value->c)
structure jD(led:Bool)(h:Heap)(a:Addr)(ks:List c):Prop where ex:∃o es ep t,h.get? a=some o/\o.ExactSet/\o.data=.set es ep t/\ElemsOf knd es.toList/\(es.toList.map λe=>kOf e.2).Perm ks/\es.size<scanBound/\t.fits es.size=true/\qU led t
variable{knd kOf}
def jD.keep(x:jD knd kOf led h a d)(k:∀o,h.get? a=some o->h'.get? a=some o):jD knd kOf led h' a d:=by obtain⟨o,es,ep,t,e,r⟩:=x.ex;show{o,es,ep,t,k o e,r}
variable{A:Around}{E:O7}{s:Shared}
def Eu(f:∀k v,knd.is k v=true->kOf v=k)(d:ElemsOf knd es)(g:(es.map λe=>kOf e.2).Perm h)(k:c):k∈h↔∃e∈es,knd.is k e.2=true:=by
 rw[<-g.mem_iff,oi]
 constructor
 ·rintro⟨e,a,rfl⟩;obtain⟨⟨b,h1,_⟩,_⟩:=d e a;show{e,a,?_};rw[f b e.2 h1];show h1
 ·rintro⟨e,a,h1⟩;show{e,a,f k e.2 h1}
def sY{led:Bool}{h:Heap}{a:Addr}{o:Obj}{es d:Array (Int×Value)}{ep:Nat}{t f:SetTable}{ks:List c}(j:h.get? a=some o)(hex:o.ExactSet)(hd:o.data=.set es ep t)(i:ElemsOf knd d.toList)(l:(d.toList.map λe=>kOf e.2).Perm ks)(m:d.size<scanBound)(n:f.fits d.size=true)(p:qU led f):(h.update a (Obj.putSet d f)).get? a=some {o with data:=.set d (ep+1) f}/\jD knd kOf led (h.update a (Obj.putSet d f)) a ks:=by
 have g:(h.update a (Obj.putSet d f)).get? a=some {o with data:=.set d (ep+1) f}:=by
  have q:=u_ (Obj.putSet d f) j (by rw[putSet_of d f hd];rfl)
  rwa[putSet_of d f hd]at q
 show{g,_,d,ep+1,f,g,hex,(),i,l,m,n,p}
def FA{led:Bool}{a:Addr}{f:List c}{k:c}{x:Value}{Q:Bool->Shared->Prop}(W:∀k v,knd.is k v=true->kOf v=k)(i:knd.is k x=true)(y:x.scannable=true)(X:jD knd kOf led s.heap a f)(F:f.length+1<scanBound)(h:∀h' b,Heap.SameBut a s.heap h'->jD knd kOf led h' a (if k∈f then f else f++[k])->Q b {s with heap:=h'}):wpAny (model prog w) A (setAddHashed a x (knd.hash k)) Q E s:=by
 obtain⟨o,es,ep,t,N,hex,hd,m,O,hb,Y,ti⟩:=X.ex;have hn:es.size=f.length:=by rw[<-O.length_eq,b_,ot]
 have p:=Eu W m O;unfold setAddHashed setAddHashedIn;show ri (a_ (Nj N hd Y ?_));dsimp only;rw[byScan_of y hb m,md ()];unfold setAddByScan;show a_ (a_ (A_ (a_ (wpAny_setScan_of i N hd Y m ?_))));cases Z:List.findIdx? (λe=>knd.is k e.2) es.toList with|some j=>obtain⟨hj,P,_⟩:=List.findIdx?_eq_some_iff_getElem.mp Z;have B:k∈f:=(p k).mpr {_,OY hj,P};show f_ (f_ ?_);have q:=h s.heap false (Heap.SameBut.refl a s.heap);rw[md B]at q;show q X|none=>
  have B:k∉f:=λz=>by obtain⟨e,he,h1⟩:=(p k).mp z;have:=List.findIdx?_eq_none_iff.mp Z e he;rw[h1]at this;cases this
  dsimp only;have q:∀h' b,Heap.SameBut a s.heap h'->jD knd kOf led h' a (f++[k])->Q b {s with heap:=h'}:=λh' b sb x=>h h' b sb (by rw[me B];show x);have D:=layNew_perm t es (knd.hash k) x;have G:=layNew_fits t es (knd.hash k) x;have H:=ti.lay es (knd.hash k) x;generalize hL:layNew t es (knd.hash k) x=L at D G H⊢;obtain⟨d,R,wd,gv⟩:=L;dsimp only at D G H⊢;rw[OT]at D;have u:ElemsOf knd d.toList:=(m.push i y).perm D;have I:(d.toList.map λe=>kOf e.2).Perm (f++[k]):=by show(D.map _).trans ?_;rw[k_,Ny,W k x i];show O.append_right _
  have S:d.size=f.length+1:=by rw[<-ot,D.length_eq,mu,ot,hn];rfl
  have n:d.size<scanBound:=by rw[S];show F
  have say:∀(b:Bool)(T:Shared)(U:Unit->Shared->Prop),U Unit.unit T->wpAny (model prog w) A (match b with|true=>rule "set.scan.the-table-gave-way"|false=>pure Unit.unit) U E T:=λb T U z=>by cases b<;>first|show f_ z|show A_ z
  have l:∀g:SetTable,g.fits d.size=true->qU led g->wpAny (model prog w) A (do
 storeSet a d g if(!wd&&g.tooFull)=true then do
      (match(relayAll g d (SetTable.grown d.size)).2.2 with|true=>rule "set.scan.the-table-gave-way"|false=>pure Unit.unit)storeSet a (relayAll g d (SetTable.grown d.size)).1 (relayAll g d (SetTable.grown d.size)).2.1
      pure (some true)else pure (some true)) (λr s'=>wpAny (model prog w) A (match r with|some C=>pure C|none=>setAddHashedIn a x (knd.hash k) 99999) Q E s') E s:=by
   intro g f2 i2;show a_ (wpAny_storeSet_of N hd ?_ (fits_of_scanBound n));obtain⟨g1,S1⟩:=sY (knd:=knd) (kOf:=kOf) N hex hd u I n f2 i2;have J:=K_ s.heap a (Obj.putSet d g);show v_ (λ_=>?_) (λ_=>f_ (f_ (q _ _ J S1)));have K:=relayAll_perm g d (SetTable.grown d.size);have r2:=relayAll_fits g d (SetTable.grown d.size);have r3:=i2.relay d (SetTable.grown d.size);generalize relayAll g d (SetTable.grown d.size)=Rl at K r2 r3⊢;obtain⟨V,t3,aa⟩:=Rl;dsimp only at K r2 r3⊢;have M:V.size=d.size:=by rw[<-ot,K.length_eq,ot]
   show a_ (say _ _ _ ?_);show a_ (wpAny_storeSet_of (s:={s with heap:=s.heap.update a (Obj.putSet d g)}) g1 () ?_ (fits_of_scanBound (by rw[M];show n)));obtain⟨_,S2⟩:=sY (knd:=knd) (kOf:=kOf) (ks:=f++[k]) g1 hex () (u.perm K) ((K.map _).trans I) (by rw[M];show n) r2 r3;show f_ (f_ (q _ _ (J.trans (K_ _ a _)) S2))
  show a_ (say _ _ _ ?_)
  split
  ·show a_ ?_;rw[hashByValue_scannable 8 y];show f_ ?_;cases ad:plainKind x with|true=>show l R G H|false=>show l {R with plain:=false} (SetTable.fits_plain_off G) H.off
  ·show a_ (f_ (l R G H))
end
end L2
namespace L2
open PySem PySem.Spec PyProof.Rows
section
variable{prog:Pa}{w:World}{A:Around}{E:O7}{s:Shared}
def GU(v:Value)(h:Q₁ (.ref s.heap.objs.size) {s with heap:=s.heap.push (fQ (!w.params.followText "set-order"))}):codeAny (model prog w) A (.call (.builtin "set.__new__") {[.type "set",v],[]}) (wants Q₁ E) s:=by show codeAny_of_tree (show wpAny _ A.in1 (do checkBuiltinCall "set.__new__" ⟨[.type "set",v],[]⟩;again (.builtin "set.__new__" ⟨[.type "set",v],[]⟩)) _ _ s from ?_);show a_ (wpAny_of_eq (F.newCall_set_1 v) (f_ {NI F.plain_set_new _,Nu F.entry_set_new ?_}));rw[No F.plain_set_new _];unfold Builtin.«set.__new__»Builtin.Frozenset.newClass;have a:=sub_set_self;obtain⟨b,g,d,tk,os⟩:=s;dsimp only;wp_walk;show Np (f_ ?_);dsimp only;simp only[newObj];show a_ (wpAny_alloc (f_ (f_ h)))
end
section
variable{prog:Pa}{w:World}{A:Around}{R:Result->Shared->Prop}{c:Type}[DecidableEq c][BEq c][LawfulBEq c]{j a:Addr}{fp g:Pf}{G:Array GenState->Array GenState->Prop}{n:Nat}{P:Nat->Value->Prop}{St:Nat->Shared->Prop}
def CD(l:List c)(x:c)[d:Decidable (x∈l)]:(if x∈l then l else l++[x])=step_dedup l x:=by
 unfold step_dedup
 by_cases h:x∈l
 ·have q:(l.any λy=>y==x)=true:=On.mpr {x,h,tA x};rw[md h,md q]
 ·have q:¬(l.any λy=>y==x)=true:=λz=>h (by obtain⟨y,b,q⟩:=On.mp z;rw[<-eq_of_beq q];show b);rw[me h,me q]
def CC(l:PySem.KeyKind prog w c)(kOf:Value->c)(led:Bool)(I:∀k v,l.is k v=true->kOf v=k)(q:WalksS prog w A.in1 j fp g G n P St)(C:a∉fp)(h:Nat->c)(r:∀i v,P i v->l.is (h i) v=true/\v.scannable=true)(D:n+1<scanBound):∀(d i:Nat)(s:Shared),n-i=d->i<=n->St i s->jD l kOf led s.heap a (uC h i)->(∀p,Moved (a::g) G s p->jD l kOf led p.heap a (uC h n)->R (.ok (.ret .none)) p)->codeAny (model prog w) A (.builtin "set.update.loop" {[.ref a,.ref j],[]}) R s:=by
 have aw:a∉g:=λz=>C (q.sub _ z);have up:∀b∈g,b∈a::g:=λb z=>np _ z;intro d
 induction d with|zero=>
  intro i s hd hi st f k;obtain rfl:i=n:=by lia
  show Nu F.entry_set_update_loop ?_;rw[No Oo _];show a_ (m:=pyNext (.ref j)) (q.done s _ _ st λp t=>?_);show f_ (k p (t.mono up) (f.keep λo e=>t.heap a o aw e))|succ d J=>
  intro i s hd hi st f k;have lt:i<n:=by lia
  show Nu F.entry_set_update_loop ?_;rw[No Oo _];show a_ (m:=pyNext (.ref j)) (q.item i s _ _ lt st λv p Y u t=>?_);obtain⟨E,K⟩:=r i v Y;have L:jD l kOf led p.heap a (uC h i):=f.keep λo e=>t.heap a o aw e;show a_ (m:=holding [v] (setAdd a v)) (ri ?_);unfold setAdd;show ri (a_ (l.pyHash (k:=h i) E ?_));have M:(uC h i).length+1<scanBound:=by have:=Et h i;lia
  show FA (s:={p with toks:=p.toks+1}) I E K L M λh' O H f2=>?_;rw[CD,<-wH]at f2;show f_ {NI Oo _,J (i+1) _ (by lia) lt (q.frame _ p _ _ u (t6 _) λb z o e=>?_) f2 λx y N=>?_}
  ·show(H.2 b λB=>C (B▸z)).trans e
  ·show k x (Moved.trans q.gtrans ((t.mono up).then_heap (t6 _) λb o z e=>?_) y) N;show(H.2 b λB=>z (B▸oa)).trans e
end
section
variable{prog:Pa}{w:World}{A:Around}{E:O7}{s:Shared}{d:Type}[DecidableEq d][BEq d][LawfulBEq d]
set_option maxHeartbeats 3200000 in
def zm{b:Bool}(n:PySem.KeyKind prog w d)(kOf:Value->d)(T:∀k v,n.is k v=true->kOf v=k){l:Addr}{j:Pd}{key:Nat->d}{Q:O7}(hh:A.handled=none)(W:qf b s.heap l j)(y:∀i v,j[i]?=some v->n.is (key i) v=true/\v.scannable=true)(z:j.size+1<scanBound)(k:∀(h':Heap)(tk:Nat),jD n kOf (!w.params.followText "set-order") h' s.heap.objs.size (uC key j.size)->(∀b o,s.heap.get? b=some o->h'.get? b=some o)->Q (.ref s.heap.objs.size) {s with heap:=h',toks:=tk}):wpAny (model prog w) A (call (.type "set") [.ref l]) Q E s:=by
 obtain⟨c,tl,L⟩:=F.called_set.mro;have made:=F.called_set.made;have sub:=F.called_set.sub;have nt:=F.called_set.notType;have cc:=F.called_set.canCreate;have tc:=F.typeCall_set_1 (.ref l);show wpAny_call (codeAny_of_tree ?_);change wpAny _ _ (callAny (.type "set") _) _ _ _;show f_ {Code.quiet_builtin _ (by decide+kernel),Nu F.entry_type_call ?_};rw[Around.under_plain (weight_type_call_type "set" [.ref l] []) ()]
 (repeat(any_goals(first|assumption|wp_step)));skip
 show E2 (GU (.ref l) (E:=E) (Q₁:=λu s₁=>u=.ref s.heap.objs.size/\s₁={s with heap:=s.heap.push (fQ (!w.params.followText "set-order"))}) {(),()}) λr s₁ G=>?_;cases r with|error e=>show G|ok U=>cases U with
 |ret u=>
   obtain⟨rfl,rfl⟩:=G;have N:(s.heap.push (fQ (!w.params.followText "set-order"))).get? s.heap.objs.size=some (fQ (!w.params.followText "set-order")):=j_ _ ();have ty:Shared.TypeIs {s with heap:=s.heap.push (fQ (!w.params.followText "set-order"))} (.ref s.heap.objs.size) "set":={_,N,()};have li:=F.called_set.init.lookup;have bi:=F.called_set.init.bind (.ref s.heap.objs.size)
   (repeat(any_goals(first|assumption|wp_step)));skip
   show E2 (codeAny_call_builtin (R:=wants (λr p=>r=.none/\∃h' tk,p={s with heap:=h',toks:=tk}/\jD n kOf (!w.params.followText "set-order") h' s.heap.objs.size (uC key j.size)/\∀b o,s.heap.get? b=some o->h'.get? b=some o) E) F.called_set.init.plain F.entry_set_init (check_set_init_1 ty ?_)) λB p m=>?_
   ·obtain⟨⟨cl,V,dt,sl⟩,e,O,P,S⟩:=id W;simp only at O S;subst O;subst S;have X:(s.heap.push (fQ (!w.params.followText "set-order"))).get? l=some {cls:=.type (cond b "list" "tuple"),dict:=V,data:=.seq j P,slots:=sl}:=d_ _ e;have s1:isSubtype (.type (cond b "list" "tuple")) (.type "set")=pure false:=by cases b;show F.sub_tuple_set;show F.sub_list_set
    have s2:isSubtype (.type (cond b "list" "tuple")) (.type "frozenset")=pure false:=by cases b;show F.sub_tuple_frozenset;show F.sub_list_frozenset
    have ne:(Value.type (cond b "list" "tuple")==Value.type "dict")=false:=by cases b<;>decide
    have C:qf b (s.heap.push (fQ (!w.params.followText "set-order"))) l j:={_,X,(),P,()};have Y:∀(A:Around)(I t:Addr),A.handled=none->t≠I->Walks prog w A I [I,t] [I] j.size (λi v=>j[i]?=some v) (λi h=>qZ b h I t i/\qf b h t j):=by
     cases b
     ·showλA I t q r=>Walks.tuple q I t r j
     ·showλA I t q r=>Walks.list q I t r j
    unfold Builtin.«set.__init__»noKeywords Builtin.Frozenset.updateFrom;generalize H:pyIter=PI;wp_walk;subst H;show A5 C ?_;show a_ (wpAny_runValue ?_);have lt:l<s.heap.objs.size:=m3 e;have sz:(s.heap.push (fQ (!w.params.followText "set-order"))).objs.size=s.heap.objs.size+1:=rf ..;show CC n kOf (!w.params.followText "set-order") T ((Y A.in1.in1.in1 _ l (by simp[hh]) (by rw[sz];show nB (F_ lt))).toS) (a:=s.heap.objs.size) (by rw[sz];simp only[vu,rl,Nt,not_or];show{nB (w_ _),q_ lt}) key y z (j.size-0) 0 _ (by omega) (ov _) {{_,j_ _ (),(),()},C.at λ_ e=>d_ _ e} ?f0 ?fR
    case f0=>have g:((s.heap.push (fQ (!w.params.followText "set-order"))).push {cls:=.type (cond b "list_iterator" "tuple_iterator"),data:=.fields #[.ref l,.int 0 0]}).get? s.heap.objs.size=some (fQ (!w.params.followText "set-order")):=d_ _ N;show{_,#[],0,_,g,{(),(),()},(),λe Z=>by simp at Z,OE _,by decide,by rfl,{(),λ_=>gz.few (ov _)}}
    case fR=>rintro⟨h',g',d',J,K⟩D f;obtain rfl:g'=s.gens:=D.gens;obtain rfl:d'=s.drawn:=D.drawn;obtain rfl:K=s.os:=D.os;change wpAny _ _ _ _ _ _;show f_ (show wpAny _ _ (ret Value.none) _ _ _ from f_ {(),h',J,(),f,λb o q=>?_});have b1:b<s.heap.objs.size:=m3 q;show D.heap b o (by rw[sz];simp only[vu,rl,Nt,not_or];show{nB b1,nB (F_ b1)}) (d_ _ (d_ _ q))
   ·cases B with|error e=>show m|ok x=>cases x with|ret r=>
      obtain⟨rfl,h',tk,rfl,f,kk⟩:=m
      (repeat(any_goals(first|assumption|wp_step)));show k _ _ f kk|_=>show m.elim
  |_=>show G.elim
end
section
variable{prog:Pa}{w:World}{A:Around}{E:O7}{s:Shared}
def DE(hh:A.handled=none)(i:fV s.heap a es ep t)(hn:es.size<=sizeLine)(j:w.params.followText "set-order"=false->t.led=true)(l:t.plain=true->gz t.place)(h:∀(h1:Heap)(d1:Drawn)(tk:Nat)(c:O_),c.Perm (es.toList.map (·.2))->(∀b o,s.heap.get? b=some o->h1.get? b=some o)->s.heap.objs.size<=h1.objs.size->(h1.push (seqObj "list" c.toArray 0)).get? h1.objs.size=some (seqObj "list" c.toArray 0)->wpAny (model prog w) A.in1.in1 (Builtin.«list.sort» {[.ref h1.objs.size],[]}) (λfin d=>∃v,fin=.done (.ret v)/\Q (.ref h1.objs.size) d) E {s with heap:=h1.push (seqObj "list" c.toArray 0),drawn:=d1,toks:=tk}):wpAny (model prog w) A (call (.builtin "sorted") [.ref a]) Q E s:=by
 show Calls.call_function_entry kind_sorted plain_sorted entry_sorted (args_sorted1 _) ?_;unfold Builtin.«sorted»;show a_ (m:=checkCount "sorted" 1 1 _) (f_ ?_);show a_ (zB (A:=A.in1) hh i hn j l λh1 d1 tk c f k n=>?_);have p:c.length=es.size:=by rw[f.length_eq,b_,ot]
 show a_ (wpAny_newList ?_ (by rw[p];show hn));have g:(h1.push (seqObj "list" c.toArray 0)).get? h1.objs.size=some (seqObj "list" c.toArray 0):=j_ _ ();show a_ (ri (rk slot_list_sort (s:={s with heap:=h1.push (seqObj "list" c.toArray 0),drawn:=d1,toks:=tk}) {_,g,()} entry_list_sort (wpAny_mono (h h1 d1 tk c f k n g) (λfin d x=>?_) λ_ _ e=>e) (args_list_sort _)));obtain⟨v,rfl,q⟩:=x;show{v,(),f_ {_,(),q}}
def zq{h1:Heap}{vs:O_}{out:Pd}:(∀b o,h1.get? b=some o->(sortedHeap (h1.push (seqObj "list" vs.toArray 0)) h1.objs.size vs out).get? b=some o)/\∃e,(sortedHeap (h1.push (seqObj "list" vs.toArray 0)) h1.objs.size vs out).get? h1.objs.size=some (seqObj "list" out e):=by have g:(h1.push (seqObj "list" vs.toArray 0)).get? h1.objs.size=some (seqObj "list" vs.toArray 0):=j_ _ ();show{λb o e=>?_,sortedHeap_at g};have a:b<h1.objs.size:=m3 e;rw[sortedHeap_old (nB a) (by rw[rf];show F_ a)];show d_ _ e
end
def kOf:Value->bZ|.int i _=>.inl i|.str x _=>.inr x|_=>.inl 0
def EK(P:Pa)(w:World):∀(k:bZ)(v:Value),(aU P w).is k v=true->kOf v=k:=λk v h=>by rcases cG h with⟨i,t,rfl,rfl⟩|⟨x,t,rfl,rfl⟩<;>rfl
abbrev xm(P:Pa)(w:World)(q:Addr)(a:List bZ):HO:=.ext λh=>jD (aU P w) kOf (!w.params.followText "set-order") h q a
theorem aO.drawn(I:aO X a c H s)(d:Drawn):aO X a c H {s with drawn:=d}:=(I.ok,I.os,I.bare,I.base,I.loc,I.cell,I.free,I.freeC,I.pin,I.hok,I.len,)
theorem wg:∀{a:O_}{c:Pb},StrsAre a c->aZ (c.map V.str) a|_,_,.nil=>.nil|_,_,.cons x t h=>.cons {t,()} (wg h)
def HJ(b:Bool)(K:O6)(H:Hp)(p:Addr)(a:List V):Prop:=cond b (aR K H p a) (aY K H p a)
def aO.sqE{X:Cx}{c:O8}{g:St}{H:Hp}{s:Shared}{b:Bool}{p:Addr}{e:List V}(I:aO X c g H s)(h:HJ b X.K H p e):∃a,aZ e a/\qf b s.heap p a.toArray/\∀d,HJ b X.K H p d->d=e:=by cases b with|false=>obtain⟨a,f,p,_⟩:=I.tuple h;show{a,f,p,λd q=>I.tuple_inj q h}|true=>obtain⟨a,f,p,_⟩:=I.list h;show{a,f,p.isList,λd q=>I.list_inj q h}
section
variable{X:Cx}
def wY{b:Bool}(hc:X.calm=true):dy X (.type "set") (λj H Q=>∃(p:Addr)(a:List bZ),j=[.ref p]/\HJ b X.K H p (a.map kV)/\a.length<4000/\∀q,H q=none->Q (.ref q) (aH H q (xm X.prog X.w q (dd a)))):=by
 intro k s C H j D Q I r h;obtain⟨p,a,rfl,t,l,q⟩:=h;obtain⟨u,rfl,y⟩:=jY r;cases y;obtain⟨c,m,pl,E⟩:=I.sqE t;have n:=m.length;rw[b_]at n;show zm (aU X.prog X.w) kOf (EK _ _) (key:=λi=>a.getD i (.inl 0)) (I.ok.hd hc) pl (λi v d=>?_) (by rw[m_];unfold scanBound;omega) λh' tk f A=>?_
 ·have d:c[i]?=some v:=by simpa using d
  have hi:i<c.length:=(c_.mp d).1;obtain⟨u,h1,h2⟩:=m.get (i:=i) (x:=kV (a[i]'(by lia))) (by rw[i_,h_ (by lia)];rfl);rw[d]at h1;cases h1;have e:a.getD i (.inl 0)=a[i]'(by lia):=by simp[List.getD,h_ (show i<a.length by lia)]
  change(aU X.prog X.w).is (a.getD i (.inl 0)) v=true/\_;rw[e,At];show Hd h2
 ·rw[show c.toArray.size=a.length by rw[m_];show n.symm,GZ]at f;show{.ref s.heap.objs.size,_,I.laid (h':=h') (t':=tk) (o:=xm X.prog X.w s.heap.objs.size (dd a)) A (e_ _) {f,?_,λh1 h2 g B=>g.keep B},(),q _ (I.hok.fresh (e_ _))};obtain⟨o,_,_,_,e,_⟩:=f.ex;show(o,e,)
def CL:dy X (.builtin "len") (λc H Q=>∃(p:Addr)(a:List bZ),c=[.ref p]/\H p=some (xm X.prog X.w p a)/\a.length<=4096/\Q (.int a.length) H):=by
 intro b s k H c l Q I r h;obtain⟨p,a,rfl,d,hn,q⟩:=h;obtain⟨u,rfl,g⟩:=jY r;cases g;obtain⟨f,_,_⟩:=I.hok p _ d;obtain⟨o,es,ep,t,e,ex,hd,_,pm,_,i,_⟩:=f.ex;have j:es.size=a.length:=by rw[<-pm.length_eq,b_,ot]
 show call_len_set e ex hd i (by omega) {.int _,H,I.tok _,{_,()},?_};rw[j];show q
def Jf(f:jD (aU P w) kOf led h a c):∃es ep t,fV h a es ep t/\es.size=c.length/\(es.toList.map λe=>kOf e.2).Perm c/\qU led t/\∀e∈es.toList,nN (kOf e.2) e.2=true:=by obtain⟨o,es,ep,t,e,ex,hd,b,pm,_,d,g⟩:=f.ex;show{es,ep,t,{(o,e,ex.1,hd,),d},by rw[<-pm.length_eq,b_,ot],pm,g,λx i=>?_};obtain⟨⟨k,h1,_⟩,_⟩:=b x i;rw[EK P w k x.2 h1];show h1
variable{P:Pa}{w:World}
def uQ(K:O6)(c:X.K=K)(hc:X.calm=true)(d:X.prog=P:=by rfl)(e:X.w=w:=by rfl):dy X (.type "set") (λf H Q=>∃(p:Addr)(a:List bZ),f=[.ref p]/\aR K H p (a.map kV)/\a.length<4000/\∀q,H q=none->Q (.ref q) (aH H q (xm P w q (dd a)))):=by subst c;subst d;subst e;show wY (b:=true) hc
def AO(K:O6)(c:X.K=K)(hc:X.calm=true)(d:X.prog=P:=by rfl)(e:X.w=w:=by rfl):dy X (.type "set") (λf H Q=>∃(p:Addr)(a:List bZ),f=[.ref p]/\aY K H p (a.map kV)/\a.length<4000/\∀q,H q=none->Q (.ref q) (aH H q (xm P w q (dd a)))):=by subst c;subst d;subst e;show wY (b:=false) hc
def uR(c:X.prog=P:=by rfl)(d:X.w=w:=by rfl):dy X (.builtin "len") (λe H Q=>∃(p:Addr)(a:List bZ),e=[.ref p]/\H p=some (xm P w p a)/\a.length<=4096/\Q (.int a.length) H):=by subst c;subst d;show CL
end
section
variable{prog:Pa}{w:World}{A:Around}{E:O7}{s:Shared}
def mT(a b:Str):Prop:=¬b.cps.toList<a.cps.toList
def vg(g:StrsAre d v)(h:a.Perm (pairsOf d))(n:SortedToK strKind a (pairsOf d).size):∃c,StrsAre (a.map (·.2)).toList c/\c.Perm v/\c.Pairwise mT:=by
 obtain⟨o,h1,h2,_⟩:=sorted_out_str g h n;show{o,h1,h2,?_};have z:a.toList.Perm (d.zip d):=by rw[<-pairsOf_toList];show Array.perm_iff_toList_perm.mp h
 have b:∀p,p∈a.toList->p.1=p.2/\p.1∈d:=λp k=>mem_zip_self (z.mem_iff.mp k);have e:o=a.toList.map λp=>strOf p.2:=by rw[<-h1.strs,Array.toList_map,wr];rfl
 rw[e,List.pairwise_iff_getElem];intro i j hi B l;have m:i<a.size:=by simpa using hi
 have f:j<a.size:=by simpa using B
 have q:=n i j (wh l) (by rw[<-h.size_eq];show f);obtain⟨x,t,ex⟩:=g.all _ (b a[i] (by simp)).2;obtain⟨y,u,r⟩:=g.all _ (b a[j] (by simp)).2;rw[KK_str m (x:=x) (t:=t) (q:=a[i].2) (Prod.ext ex ()),KK_str f (x:=y) (t:=u) (q:=a[j].2) (Prod.ext r ())]at q
 change decide (y.cps.toList<x.cps.toList)=false at q
 simp only[OZ,Array.getElem_toList];have C:strOf a[i].2=x:=by rw[<-(b a[i] (by simp)).1,ex];rfl
 have D:strOf a[j].2=y:=by rw[<-(b a[j] (by simp)).1,r];rfl
 unfold mT;rw[C,D];show OH q
def sZ(hh:A.handled=none)(q:fV s.heap a es ep t)(r:es.size<64)(u:w.params.followText "set-order"=false->t.led=true)(y:t.plain=true->gz t.place)(B:∀e∈es.toList,∃x t,e.2=Value.str x t)(h:∀(D:Addr)(h':Heap)(C:Drawn)(tk e:Nat)(out:O_)(f:Pb),s.heap.objs.size<=D->(∀b o,s.heap.get? b=some o->h'.get? b=some o)->h'.get? D=some (seqObj "list" out.toArray e)->StrsAre out f->f.Perm (es.toList.map λe=>strOf e.2)->f.Pairwise mT->Q (.ref D) {s with heap:=h',drawn:=C,toks:=tk}):wpAny (model prog w) A (call (.builtin "sorted") [.ref a]) Q E s:=by
 show DE hh q (by rw[mo];lia) u y λh1 d1 tk c i F G g=>?_;have N:c.length=es.size:=by rw[i.length_eq,b_,ot]
 have j:StrsAre c (c.map strOf):=strsAre_map c λv hm=>by obtain⟨e,H,rfl⟩:=oi.mp (i.mem_iff.mp hm);show B e H
 show list_sort_treeK strKind_oneLt g j.keysOf (λn p qp e=>keyKind_strs (by rw[<-e];show j)) (by lia) λd k l=>{_,(),?_};obtain⟨m,I,J,K⟩:=vg j k l;obtain⟨L,e,M⟩:=zq (h1:=h1) (vs:=c) (out:=(arrOf d).map (·.2));show h h1.objs.size _ d1 tk e ((arrOf d).map (·.2)).toList m G (λb o z=>L b o (F b o z)) ?_ I (J.trans ?_) K
 ·rw[Array.toArray_toList];show M
 ·have:=i.map strOf;rw[wr]at this;show this
end
section
variable{X:Cx}
def zE(hc:X.calm=true):dy X (.builtin "sorted") (λj H Q=>∃(p:Addr)(a:Pb),j=[.ref p]/\H p=some (xm X.prog X.w p (a.map Sum.inr))/\a.length<64/\∀(q:Addr)(c:Pb),H q=none->c.Perm a->c.Pairwise mT->Q (.ref q) (aH H q (.lst (c.map V.str)))):=by
 intro l s M H j N Q I r h;obtain⟨p,a,rfl,B,hn,q⟩:=h;obtain⟨u,rfl,C⟩:=jY r;cases C;obtain⟨f,_,_⟩:=I.hok p _ B;obtain⟨es,ep,t,E,m,pm,n,F⟩:=Jf f;rw[b_]at m;have v:∀e∈es.toList,∃x t,e.2=Value.str x t:=λe d=>by
  have hm:kOf e.2∈a.map Sum.inr:=pm.mem_iff.mp (oi.mpr {e,d,()});obtain⟨x,_,b⟩:=oi.mp hm;rcases cG (F e d)with⟨i,t,h1,h2⟩|⟨y,t,h1,h2⟩
  ·rw[h1]at b;cases b
  ·show(y,t,h2,)
 show sZ (I.ok.hd hc) E (by lia) (λz=>by rw[n.led,z];rfl) n.up v λD h' G tk e out c A J g sa sp K=>?_;have sl:c.length=a.length:=by rw[sp.length_eq,b_,ot,m]
 have ex:(es.toList.map λe=>strOf e.2).Perm a:=by
  have h1:=pm.map (λk:bZ=>match k with|.inr x=>x|.inl _=>({#[]}:Str));rw[wr,wr]at h1;have L:(a.map ((λk:bZ=>match k with|.inr x=>x|.inl _=>({#[]}:Str))∘Sum.inr))=a:=by rw[show((λk:bZ=>match k with|.inr x=>x|.inl _=>({#[]}:Str))∘Sum.inr)=id from (),List.map_id]
  rw[L]at h1;show(List.Perm.of_eq (Nr λe d=>?_)).trans h1;obtain⟨x,t,b⟩:=v e d;rw[b];change strOf (Value.str x t)=(match kOf e.2 with|.inr x=>x|.inl _=>({#[]}:Str));rw[b];rfl
 show{.ref D,_,(I.drawn G).laid (h':=h') (t':=tk) (o:=.lst (c.map V.str)) J A {?_,out,e,wg sa,g},(),q D c (I.hok.fresh A) (sp.trans ex) K};rw[b_,sl,mo];lia
def xU(hc:X.calm=true)(d:X.prog=P:=by rfl)(e:X.w=w:=by rfl):dy X (.builtin "sorted") (λf H Q=>∃(p:Addr)(a:Pb),f=[.ref p]/\H p=some (xm P w p (a.map Sum.inr))/\a.length<64/\∀(q:Addr)(c:Pb),H q=none->c.Perm a->c.Pairwise mT->Q (.ref q) (aH H q (.lst (c.map V.str)))):=by subst d;subst e;show zE hc
end
end L2
namespace L2
open PySem PySem.W PyProof.Rows
def v8(P:Pa)(w:World):zQ:=λouter H s E e a=>∃(d:Addr)(C:Value)(B:Heap)(t:Addr)(c:Hp),e=.ref d/\a.os=s.os/\AllBare a.gens/\Un (jR outer) [] H c s.heap a.heap/\lG P w c a.heap/\Heap.FlyingW B outer d C (.ref t) a.heap/\(∀b o,c b=some o->∃u,B.get? b=some u)/\(∀b o,s.heap.get? b=some o->b∉jR outer->∃u,B.get? b=some u)/\E C none c
def zt(h:env.frame=some L):jR (env::l)=L::jR l:=by unfold jR;rw[t4,h]
def lG.flown{P:Pa}{w:World}{H:Hp}{h h' B:Heap}(x:lG P w H h)(c:∀b o,H b=some o->∃u,B.get? b=some u)(k:B.StaysIn h)(l:B.StaysIn h'):lG P w H h':=λa o e=>(x a o e).stay (λb u d q=>by
  obtain⟨f,g⟩:∃f,H b=some f:=by
   rcases d with rfl|d
   ·show{_,e}
   ·show{_,d}
  obtain⟨v,i⟩:=c b f g;have j:=k b v i;rw[q]at j;cases j;show l b _ i) (λ_ q=>q) λ_ _ q=>q
section
variable{P:Pa}{w:World}{K:O6}{mg:O9}{base:Heap}{N:Pb}{a:Str}{scope:Scope}{f:Addr}{cd:Value}{A:Around}{outer:List Env}{c:Shared}{d:Hp}{E:XK}
def iF:mz (v8 P w) (qN (v8 P w) P w K mg base N a scope f cd A outer c d E) E:=by
 rintro M W H s e G I⟨J,C,B,t,O,rfl,os,bare,un,hok,r,m,h,q⟩;have v:(envOfC a scope c.heap.objs.size f cd).frame=some c.heap.objs.size:=();have x:jR (envOfC a scope c.heap.objs.size f cd::outer)=c.heap.objs.size::jR outer:=zt v;have j:Un (jR outer) [] d H c.heap s.heap:=I.base;have un:Un (jR (envOfC a scope c.heap.objs.size f cd::outer)) [] H O s.heap G.heap:=un;have h:∀b o,s.heap.get? b=some o->b∉jR (envOfC a scope c.heap.objs.size f cd::outer)->∃u,B.get? b=some u:=h;have r:Heap.FlyingW B (envOfC a scope c.heap.objs.size f cd::outer) J C (.ref t) G.heap:=r;have y:∀b o,c.heap.get? b=some o->b∉jR outer->b∉jR (envOfC a scope c.heap.objs.size f cd::outer):=λb o e g hm=>by
  rw[x]at hm;rcases vu.mp hm with rfl|hm
  ·show absurd (m3 e) (sg _)
  ·show g hm
 have p:∀b o,c.heap.get? b=some o->b∉jR outer->∃u,B.get? b=some u:=λb o e g=>by obtain⟨o1,i⟩:=j.there b o e (by simp);show h b o1 i (y b o e g)
 change wpAny (model P w) (A.deeper (envOfC a scope c.heap.objs.size f cd)) (leaving (envOfC a scope c.heap.objs.size f cd) (.ref J)) _ _ G;show wpAny_leaves_onW (outer:=outer) I.ok.frames v r λh' k up=>?_;show{J,C,B,t,O,(),os.trans I.os,bare,?_,hok.flown m r.1 k.1,k,m,p,q};have slot:∀b o,c.heap.get? b=some o->d b=none->b∈jR outer->∃sl,h'.get? b=some {o with slots:=sl}:=λb o e n g=>by
  obtain⟨sl,i⟩:=j.slot b o e n g (by simp);have n1:=j.free b o e n (by simp);obtain⟨S,z⟩:=un.slot b _ i n1 (by rw[x];show np _ g) (by simp);obtain⟨_,Q,l,hd⟩:=I.ok.funs.mem g;have:Q=o:=by have l:c.heap.get? b=some Q:=l;rw[e]at l;show(n_ l).symm
  subst this;obtain⟨L,D⟩:=up b _ z hd;show(L,D,)
 show{λb o e n g _=>?_,λb o e n g _=>slot b o e n g,λb o e n _=>?_,λb o e _=>?_,λb R e=>un.tups b R (j.tups b R e),λb o u e=>un.frzs b o u (j.frzs b o u e),λb T e=>?_}
 ·have i:=j.keep b o e n g (by simp);have n1:=j.free b o e n (by simp);have z:=un.keep b o i n1 (y b o e g) (by simp);obtain⟨u,F⟩:=p b o e g;have D:=r.1 b u F;rw[z]at D;cases D;show k.1 b _ F
 ·obtain⟨o1,i⟩:=j.there b o e (by simp);show un.free b o1 i (j.free b o e n (by simp)) (by simp)
 ·by_cases g:b∈jR outer
  ·have n:d b=none:=I.ok.frf b g;obtain⟨sl,i⟩:=slot b o e n g;show{_,i}
  ·obtain⟨u,F⟩:=p b o e g;show{u,k.1 b u F}
 ·obtain⟨U,i⟩:=j.tbls b T e;obtain⟨V,z⟩:=un.tbls b _ i;show{U++V,by rw[z,Array.append_assoc]}
end
def dw.held{P:Pa}{w:World}{H:Hp}{h:Heap}{a:Addr}{o:HO}(x:dw P w H h a o):∃u,h.get? a=some u:=by cases o with|lst c=>obtain⟨_,_,_,_,e⟩:=x;show{_,e}|tup c=>obtain⟨_,_,_,_,e,_⟩:=x;show{_,e}|dK b=>obtain⟨_,_,_,_,o,_,_,e,_⟩:=x;show{_,e}|dT b=>obtain⟨_,_,_,_,o,_,_,e,_⟩:=x;show{_,e}|set S n=>obtain⟨o,_,_,_,e,_⟩:=x;show{_,e}|ins C dx fs=>obtain⟨_,_,_,e,_⟩:=x;show{_,e}|own y=>show x|xd fs=>obtain⟨_,⟨_,_,_,e,_⟩,_⟩:=x;show{_,e}|rng lo hi=>obtain⟨_,_,_,e⟩:=x;show{_,e}|frz ob u=>show{_,x.1}|tbl d=>show{_,(show h.get? a=some _ from x)}|met f y=>show{_,(show h.get? a=some _ from x)}|ext φ=>show x.2.1
def FB(X:Cx)(E:XK):Prop:=∀(a:O8)(c:St)(H:Hp)(s:Shared)(C:Value)(d:O_)(h':Heap)(b:Addr),aO X a c H s->Heap.MadeExcOf s.heap h' b C d->E C none H->X.xe (.ref b) {s with heap:=h'}
section
variable{P:Pa}{w:World}{K:O6}{mg:O9}{base:Heap}{N:Pb}{a:Str}{scope:Scope}{f:Addr}{cd:Value}{A:Around}{outer:List Env}{c:Shared}{d:Hp}{E:XK}
def yL:FB (qN (v8 P w) P w K mg base N a scope f cd A outer c d E) E:=by
 intro L U H s C V h' M I O q;have m:(envOfC a scope c.heap.objs.size f cd).frame=some c.heap.objs.size:=();have z:jR (envOfC a scope c.heap.objs.size f cd::outer)=c.heap.objs.size::jR outer:=zt m;have k:Un (jR outer) [] d H c.heap s.heap:=I.base;have p:∀b o,c.heap.get? b=some o->b∉jR outer->b∉jR (envOfC a scope c.heap.objs.size f cd::outer):=λb o e g hm=>by
  rw[z]at hm;rcases vu.mp hm with rfl|hm
  ·show absurd (m3 e) (sg _)
  ·show g hm
 generalize D:hideAll s.heap (jR (envOfC a scope c.heap.objs.size f cd::outer))=B;have l:∀{b o},s.heap.get? b=some o->b∉jR (envOfC a scope c.heap.objs.size f cd::outer)->B.get? b=some o:=λe g=>by rw[<-D];show hideAll_get _ e g
 have r:B.StaysIn s.heap:=λb o e=>by rw[<-D]at e;show of_hideAll _ e
 have fr:s.heap.FunFrames B (envOfC a scope c.heap.objs.size f cd::outer):=by rw[<-D];show funFrames_hide (base:=base) I.stack λenv R b g=>NY.mpr (env,R,g,)
 have v:∀b o,c.heap.get? b=some o->b∉jR outer->∃u,B.get? b=some u:=λb o e g=>by obtain⟨o1,x⟩:=k.there b o e (by simp);show{o1,l x (p b o e g)}
 have j:∀b o,H b=some o->∃u,B.get? b=some u:=λb o e=>by obtain⟨u,F⟩:=(I.hok b o e).held;show{u,l F λhm=>by have n:H b=none:=I.stkFree b hm;rw[e]at n;cases n}
 change wpAny (model P w) (A.deeper (envOfC a scope c.heap.objs.size f cd)) (leaving (envOfC a scope c.heap.objs.size f cd) (.ref M)) _ _ _;show wpAny_leaves_madeW (outer:=outer) (h:=s.heap) I.ok.frames m r fr O λG t y tup _ up=>?_;show{M,C,B,t,H,(),I.os,I.bare,?_,I.hok.flown j r y.1,y,j,v,q};have slot:∀b o,c.heap.get? b=some o->d b=none->b∈jR outer->∃sl,G.get? b=some {o with slots:=sl}:=λb o e n g=>by
  obtain⟨sl,x⟩:=k.slot b o e n g (by simp);have S:=O.keeps _ _ x;obtain⟨_,Q,i,hd⟩:=I.ok.funs.mem g;have:Q=o:=by have i:c.heap.get? b=some Q:=i;rw[e]at i;show(n_ i).symm
  subst this;obtain⟨J,T⟩:=up b _ S hd;show(J,T,)
 show{λb o e n g _=>?_,λb o e n g _=>slot b o e n g,λb o e n _=>k.free b o e n (by simp),λb o e _=>?_,k.tups,k.frzs,k.tbls}
 ·show y.1 b o (l (k.keep b o e n g (by simp)) (p b o e g))
 ·by_cases g:b∈jR outer
  ·obtain⟨sl,x⟩:=slot b o e (I.ok.frf b g) g;show{_,x}
  ·obtain⟨u,F⟩:=v b o e g;show{u,y.1 b u F}
end
def xi:List Value:=[.type "ValueError",.type "Exception",.type "BaseException",.type "object"]
def xh(K:O6)(C:Addr):Prop:=excIn K C xi "ValueError.__new__"=true
theorem xh.at{K:O6}{C:Addr}{h:Heap}(kin:K.In h)(x:xh K C):∃j N nm q bs hd f sub g d dd r s t u v l,h.get? C=some (excClassObj nm q C N bs j hd f sub g d dd r s t u v "ValueError.__new__")/\h.Ns N l/\l "__init__"=none/\OwnTail h xi j:=by
 unfold xh excIn at x
 split at x
 ·rename_i dd c sl look
  split at x
  ·rename_i E w k m n o y p a slots;simp only[o0,beq_iff_eq,Bool.not_eq_true']at x;obtain⟨⟨⟨⟨⟨z,A⟩,del⟩,i⟩,b⟩,e⟩:=x;subst z A;rcases c with⟨nm,bs,B,ns,D,hd,f,sub,g,d,dl⟩;dsimp only at a del b e;subst a;subst del;obtain rfl:sl=#[k,m,n,o,some (.builtin "ValueError.__new__"),p]:=by rcases sl with⟨list⟩;show r_ Array.mk slots
   show{w,ns,nm,D,bs,hd,f,sub,g,d,dd,k,m,n,o,p,_,kin _ _ look,.of_isNs (isNs_of_in kin b),nsMap_none_of_in kin b e,tail_of_in kin i}
  ·cases x
 ·cases x
def IC(C:Addr)(E:XK)(t:TA):TS:=λ_ a H=>t a H λb c=>b.length<=sizeLine/\E (.ref C) none c
def yN{X:Cx}{C:Addr}{E:XK}{x:Str}{R a g:Pos}{e:Expr}{es:Pc}{t:TA}(S:xh X.K C)(hg:Gl X x)(hm:X.mg x=some (.ref C))(hc:X.calm=true)(W:FB X E)(Z:PA X (e::es) t)(i:(x==("__debug__":Str))=false:=by decide)(p:starEach (e::es) X.env=(false,eval e X.env)::starEach es X.env:=by rfl)(j:(backTo a (starEach es X.env)).any (·.1)=false:=by rfl):PS X (.Raise (some (.Call (.Name x R) (e::es) [] a)) none g) (IC C E t):=by
 intro c s u H D I h;obtain⟨v,N,nm,q,bs,hd,w,sub,y,d,dd,A,B,G,J,L,M,U,V,k,T⟩:=S.at I.mod.kin;show wpAny_Raise_call_subT (C:=C) (N:=N) (bm:=v) (mN:=M) (bmB:=xi) (newId:="ValueError.__new__") (nm:=nm) (q:=q) (bs:=bs) (hdct:=hd) (sn:=w) (sub:=sub) (ab:=y) (col:=d) (dd:=dd) (k0:=A) (k1:=B) (k2:=G) (k3:=J) (k5:=L) PySem.F.excBase_ValueError (T.hasType PySem.F.excBase_ValueError.hasBase) (I.ok.hd hc) ?_ k (mL I hg hm {(),?_} i)
 ·rw[p];change(false||(backTo a (starEach es X.env)).any (·.1))=false;rw[j];rfl
 ·have f:=Z a c s u H _ I h;rw[p]at f⊢;show z4 (cy f λP Q z0=>?_);obtain⟨vs,H1,I1,r,z,q1⟩:=z0;have n:∀b o,X.base.get? b=some o->Q.heap.get? b=some o:=I1.bk;show{(),by change P.length<=_;rw[<-r.length];show z,n _ _ U,V.keeps n,T.keeps n,λh' ea m=>W c u H1 Q (.ref C) P h' ea I1 m q1}
def Un.flown{fs:Pf}{H j:Hp}{h1 h' d B:Heap}(un:Un fs [] H j h1 h')(c:∀b o,h1.get? b=some o->b∉fs->∃u,B.get? b=some u)(k:B.StaysIn h')(l:B.StaysIn d)(up:h'.UpToSlots d)(fr:∀b∈fs,H b=none/\∀o,h1.get? b=some o->∀m,o.data≠.fields m):Un fs [] H j h1 d:=by
 have slot:∀b o,h1.get? b=some o->H b=none->b∈fs->∃sl,d.get? b=some {o with slots:=sl}:=λb o e n a=>by obtain⟨sl,h⟩:=un.slot b o e n a (by simp);obtain⟨i,f⟩:=up b _ h ((fr b a).2 o e);show(i,f,)
 show{λb o e n a p=>?_,λb o e n a _=>slot b o e n a,un.free,λb o e _=>?_,un.tups,un.frzs,un.tbls}
 ·have q:=un.keep b o e n a p;obtain⟨u,g⟩:=c b o e a;have f:=k b u g;rw[q]at f;cases f;show l b _ g
 ·by_cases a:b∈fs
  ·obtain⟨sl,h⟩:=slot b o e (fr b a).1 a;show{_,h}
  ·obtain⟨u,g⟩:=c b o e a;show{u,l b u g}
abbrev Cx.inExc(X:Cx)(a:Addr):Cx:={X with A:=X.A.mark (some (.ref a)),calm:=false,xe:=λ_ _=>False}
section
variable{X:Cx}{a:O8}{d:St}{H:Hp}{s:Shared}{c:Addr}
theorem Cx.Ok.inExc(ok:X.Ok)(c:Addr):(X.inExc c).Ok:={ok.mod,ok.kind,ok.glob,ok.blt,ok.above,ok.inj,ok.has,ok.cab,λz=>absurd z (by simp),ok.frames,ok.stk,ok.exf,ok.bs,ok.bsz,ok.noex,ok.exfs,ok.funs,ok.frf}
theorem aO.inExc(I:aO X a d H s)(c:Addr):aO (X.inExc c) a d H s:={I.ok.inExc c,I.os,I.bare,I.base,I.loc,I.cell,I.free,I.freeC,I.pin,I.hok,I.len}
def aO.outExc(ok:X.Ok)(I:aO (X.inExc c) a d H s):aO X a d H s:=(ok,I.os,I.bare,I.base,I.loc,I.cell,I.free,I.freeC,I.pin,I.hok,I.len,)
theorem SP.outExc(ok:X.Ok)(h:SP (X.inExc c) a D f g):SP X a D f g:=by cases f with|next=>obtain⟨b,e,I,q⟩:=h;show{b,e,I.outExc ok,q}|brk=>obtain⟨b,e,I,q⟩:=h;show{b,e,I.outExc ok,q}|cont=>obtain⟨b,e,I,q⟩:=h;show{b,e,I.outExc ok,q}|ret u=>obtain⟨v,b,e,I,r,q⟩:=h;show{v,b,e,I.outExc ok,r,q}
end
def my(c:zQ)(X:Cx)(E:XK)(a:O8)(d:St):Prop:=∀(H:Hp)(s:Shared)(e:Value)(b:Shared),aO X a d H s->c X.stack H s E e b->X.xe e b
def Mc(X:Cx)(a:O8)(c:St)(e:Expr)(t:TE):Prop:=∀(s:Shared)(H:Hp)(Q:VK),aO X a c H s->t c H Q->wpAny (model X.prog X.w) X.A (eval e X.env) (EP X a c Q) X.xe s
def Ks(X:Cx)(a:O8)(c:St)(st:Stmt)(t:TS):Prop:=∀(s:Shared)(H:Hp)(D:jV),aO X a c H s->t D c H->wpAny (model X.prog X.w) X.A (exec st X.env) (SP X a D) X.xe s
structure FJ(X:Cx)(pins:O8)(σ:St)(ea:Addr)(C':Value)(H':Hp)(s:Shared):Prop where
 inv:aO X pins σ H' s
 fly:∃(B:Heap)(t:Addr),Heap.FlyingW B X.stack ea C' (.ref t) s.heap/\∀h6,B.StaysIn h6->s.heap.UpToSlots h6->aO X pins σ H' {s with heap:=h6}nh:H' ea=none
 src:∃(H1:Hp)(s1:Shared),aO X pins σ H1 s1/\s1.heap.get? ea=none
def FJ.run{X:Cx}{a:O8}{d:St}{c:Addr}{m:Value}{e:Hp}{s:Shared}{D:jV}{b:List Stmt}{j:TS}{A:Around}{l:Flow->Shared->Prop}{n o:O7}(L:FJ X a d c m e s)(hh:∀c,ve (X.inExc c) b j)(g:j D d e)(p:∀f s,SP X a D f s->l f s):wpAny (model X.prog X.w) A (setFlight (.ref c) none) (λ_ s₁=>wpAny (model X.prog X.w) (X.A.mark (some (.ref c))) (execs b X.env) l n s₁) o s:=by obtain⟨B,t,q,k⟩:=L.fly;show lands_againW q λr h i=>wpAny_mono (hh c a _ d e D ((k r h.1 i).inExc c) g) (λf u z=>p f u (z.outExc L.inv.ok)) λ_ _ z=>z.elim
def FJ.obj{X:Cx}{a:O8}{e:St}{c:Addr}{d:Value}{f:Hp}{s:Shared}(L:FJ X a e c d f s):∃o,s.heap.get? c=some o/\o.cls=d:=by obtain⟨B,t,b,k⟩:=L.fly;show b.there
def Md(X:Cx)(a:O8)(c:St)(bs:List Stmt)(t:TS):Prop:=∀(s:Shared)(H:Hp)(D:jV),aO X a c H s->t D c H->wpAny (model X.prog X.w) X.A (execs bs X.env) (SP X a D) X.xe s
def Jy{X:Cx}{a:O8}{c:St}{st:Stmt}{t:TS}(h:Ks X a c st t):Md X a c [st] t:=λs H D I q=>OW (cy (h s H D I q) λf b z=>by cases f with|next=>show NP z|ret v=>show z|brk=>show z|cont=>show z)
def C4{X:Cx}{bs:List Stmt}{h0:ExceptHandler}{Q:List ExceptHandler}{Z:XK->TS}{R:Value->Hp->Prop}{S:Pos}{a:O8}{s:Shared}{i:St}{H:Hp}{D:jV}(n:X.stack=X.env::X.outer)(F:X.env.frame=some X.env.locals)(P:∀(E:XK)(a:O8)(i:St)(Xe:O7),my (v8 X.prog X.w) (X.wish Xe) E a i->Md (X.wish Xe) a i bs (Z E))(I:aO X a i H s)(h:Z (λj _ g=>R j g) D i H)(hc:∀c j g s5,R j g->FJ X a i c j g s5->wpAny (model X.prog X.w) X.A (handleBy (.ref c) X.env (h0::Q)) (SP X a D) X.xe s5):wpAny (model X.prog X.w) X.A (exec (.Try bs (h0::Q) [] [] S) X.env) (SP X a D) X.xe s:=by
 show wpAny_Try_except ?_;have hp:my (v8 X.prog X.w) (X.wish λe s₁=>wpAny (model X.prog X.w) X.A (noteFrame e X.env) (λ_ G=>wpAny (model X.prog X.w) X.A (setFlight e none) (λ_ J=>wpAny (model X.prog X.w) X.A (handleBy e X.env (h0::Q)) (SP X a D) X.xe J) X.xe G) X.xe s₁) (λj _ g=>R j g) a i:=by
  rintro T p e q I1⟨c,j,B,t,g,rfl,os,bare,un,hok,r,l,d,U⟩;have I1:=I1.unwish;have un:Un (jR X.stack) [] T g p.heap q.heap:=un;have r:Heap.FlyingW B X.stack c j (.ref t) q.heap:=r;have d:∀b o,p.heap.get? b=some o->b∉jR X.stack->∃u,B.get? b=some u:=d;have x:∀b∈jR X.stack,T b=none/\∀o,p.heap.get? b=some o->∀V,o.data≠.fields V:=λb P=>by show{I1.stkFree b P,λo e=>?_};obtain⟨_,o',K,hd⟩:=I1.stack.mem P;rw[e]at K;cases K;show hd
  have Y:∀b u,B.get? b=some u->b≠c:=λb u e z=>by rw[z,r.2.1]at e;cases e
  have nh:g c=none:=by cases z:g c with|none=>rfl|some o=>show absurd () (Y _ _ (l _ _ z).choose_spec)
  have nw:p.heap.get? c=none:=by cases z:p.heap.get? c with|none=>rfl|some o=>
    by_cases F:c∈jR X.stack
    ·obtain⟨sl,e1⟩:=un.slot c o z (x c F).1 F (rl);obtain⟨_,_,_,oe,V,_,_,_,he,_,hd,_⟩:=r;rw[he]at e1;cases e1;show absurd hd ((x c F).2 o z V)
    ·show absurd () (Y _ _ (d _ _ z F).choose_spec)
  have m:∀y,B.StaysIn y->q.heap.UpToSlots y->aO X a i g {q with heap:=y}:=λy k up=>I1.call' (s':={q with heap:=y}) (ch:=[]) os (un.flown d r.1 k up x) (hok.flown l r.1 k) bare λb z=>absurd z (by simp)
  change wpAny (model X.prog X.w) X.A (noteFrame (.ref c) X.env) _ X.xe q;have L:=r;rw[n]at L;show wpAny_looks_onW (outer:=X.outer) (by rw[I.ok.frames,n]) F L λh4 C M=>?_;show wpAny_landsW C λy N O=>hc c j g _ U {m y N.1 (M.trans O),{B,t,by rw[n];show N,λh6 k6 W=>m h6 k6 ((M.trans O).trans W)},nh,T,p,I1,nw}
 show wpAny_mono (P _ a i _ hp s H D (I.wish _) h) (λf p z=>?_) λ_ _ z=>z;have z:=z.unwish;cases f with|next=>show NP z|ret v=>show z|brk=>show z|cont=>show z
section
variable{X:Cx}{L:zQ}{k:Nat}{f C:Addr}{fd:FuncData}{J:Pb}{sp:Sp}{n:List V}{ds:O_}{E:XK}{x m:Str}{j B:Pos}{e o:Expr}{es:Pc}{M:TE}{t:TA}{d:O8}{G:St}
def Ji(F:aP X.prog X.w X.K X.mg X.base L k f fd J sp)(c:eV k X.A)(g:fX X.K fd J ds)(hd:aZ n ds)(i:my L X E d G)(I:aO X d G H s)(r:aZ vs us)(h:sp (vs++n) H Q E):wpAny (model X.prog X.w) X.A (call (.ref f) us) (EP X d G Q) X.xe s:=by
 have a:aZ (vs++n) (us++ds):=r.append hd;have len:(us++ds).length=J.length:=a.length▸F.len _ _ _ _ h;show wpAny_call (E2 (F.run X.A X.stack s H {us,[]} (us++ds) (vs++n) Q E c I.env0 (g s us I.kIn len) a h) λb l z=>?_);rcases b with ex|q
 ·show i H s ex l I z
 ·cases q with|ret u=>show I.after z|next=>cases z|brk=>cases z|cont=>cases z
def GY(P:PE X o M)(c:yg X.K C)(hm:FI X.K C m f)(F:aP X.prog X.w X.K X.mg X.base L k f fd J sp)(R:eV k X.A)(S:fX X.K fd J ds)(hd:aZ n ds)(T:my L X E d G)(Z:PA X (e::es) t)(i:starEach (e::es) X.env=(false,eval e X.env)::starEach es X.env:=by rfl)(y:(backTo j (starEach es X.env)).any (·.1)=false:=by rfl)(ht:eval (.Call (.Attribute o m B) (e::es) [] j) X.env=(do
   let obj<-eval o X.env
   standAt B.atName let(g,first)<-holding [obj] (getMethod obj m pl)callWith j g first (backTo j (starEach (e::es) X.env)) (backToKw j (keywordEach [] X.env))):=by rfl):Mc X d G (.Call (.Attribute o m B) (e::es) [] j) (C7 C m sp n E M t):=by intro s H Q I h;show PySem.W.methodCall_KW (pl:=pl) (cy (P d s G H _ I h) λu O⟨v,U,I1,Y,a,dx,fs,ev,ea,l,q⟩=>?_) ht;subst ev;cases(show u=Value.ref a from Y);show oy I1 ea c hm l (PySem.W.callWith_K (first:=[.ref a]) (h₀:=X.base) I.ok.mod.kin hm.kp (cy (Z j d O G U _ I1 q) λz s2⟨D,H2,N,r,q2⟩=>{N.kIn,?_}) i y);show Ji (us:=.ref a::z) (vs:=.ref a::D) F R S hd T N (.cons () r) q2
def Jg(c:X.N.Nodup)(hi:X.N[i]?=some x)(g:Kw X.env.scope x)(l:Mc X d G e te)(q:swapsWith e (some (.Name x a)) j.line X.env=pure false:=by rfl)(r:X.fn x=true\/X.env.scope.names.lookup x=some .local:=by first|show .inl ()|show .inr ()|assumption):Ks X d G (.Assign [.Name x a] e j) (yn te (kI i)):=by intro s H D I h;show wpAny_Assign_Name (cy (l s H _ I h) λv A⟨y,b,I1,u,w⟩=>sX I1 c hi g u (λF z=>{_,b,z,w}) r) q
end
theorem PS.nox{X:Cx}{st:Stmt}{t:TS}(h:PS X.nox st t):PS X st t:=λa s b H D I c=>wpAny_mono (h a s b H D (I.wish _) c) (λ_ _ q=>q.unwish) λ_ _ z=>False.elim z
section
variable{P:Pa}{w:World}{K:O6}{mg:O9}{base:Heap}
def yf.okE{x a:Str}{st:Stmt}{f:Addr}{fd:FuncData}{N g:Pb}{k:Nat}{sp:Sp}(F:yf K x a st f fd)(S:ay N g (ai st))(len:∀d H Q E,sp d H Q E->d.length=g.length)(e:∀(c:Value)(A:Around)(outer:List Env)(s:Shared)(H:Hp)(d:List V)(Q:VK)(E:XK),eV k (A.deeper (envOfC a (ai st) s.heap.objs.size f c))->sp d H Q E->∃t,ve (qN (v8 P w) P w K mg base N a (ai st) f c A outer s H E) (gQ st) t/\t {nx:=λ_ i=>Q .non i,rt:=Q} (i6 N d) H):aP P w K mg base (v8 P w) (k+1) f fd g sp:=by obtain⟨oc,n,kV,j,pm,o,c,ct,l,rfl,lk,b⟩:=F.ex;show Ia lk b S len λA outer s H d Q E m h=>e c A outer s H d Q E m h
end
def Hy(s:Stmt):List Stmt:=match s with|.ClassDef _ _ _ b _ _ _ _ _ _ _=>b|_=>[]
abbrev cn:=bZ⊕List bZ
section
variable(P:Pa)(w:World)
def iH:cn->Int|.inl k=>(aU P w).hash k|.inr []=>hashW w.params .none|.inr (k::a)=>(tupleKind (aU P w)).hash (k::a)
def jP:cn->Nat|.inl _=>1|.inr a=>a.length+1
def kZ(h:Heap)(k:cn)(v:Value):Prop:=match k with|.inl k=>(aU P w).is k v=true|.inr []=>v=.none|.inr (k::b)=>∃a,v=.ref a/\(tupleKind (aU P w)).is h (k::b) a
abbrev jU:=cn×Value×Value
def sy(x:jU):DictEntry:={iH P w x.1,x.2.1,x.2.2}
end
section
variable{P:Pa}{w:World}{A:Around}{E:O7}{s:Shared}
def kZ.flat(x:kZ P w h (.inl k) v):(∃i t,v=.int i t/\k=.inl i)\/∃z t,v=.str z t/\k=.inr z:=by have x:nN k v=true:=x;cases k with
 |inl i=>have x:Value.isInt i v=true:=x;cases v with|int j t=>simp[Value.isInt]at x;show .inl {_,_,(),by rw[x]}|_=>cases x
 |inr z=>have x:Value.isStrOf z v=true:=x;cases v with|str j t=>simp[Value.isStrOf]at x;show .inr {_,_,(),by rw[x]}|_=>cases x
def Ez(d:A.units<cLine)(c:kZ P w s.heap k v)(q:Q (iH P w k) {s with toks:=s.toks+jP k}):wpAny (model P w) A (pyHash v) Q E s:=by match k,c,q with|.inl k,c,q=>show(aU P w).pyHash c q|.inr [],c,q=>cases c;show pyHash_slot (T:="NoneType") () F.slot_NoneType_hash F.entry_NoneType_hash (F.args_NoneType_hash_1 _) (beq_builtin_none _) (.inr (by omega)) (a_ (f_ (a_ (wpAny_mkInt (f_ {_,_,(),q})))))|.inr (k::e),c,q=>obtain⟨a,rfl,b⟩:=c;show(tupleKind (aU P w)).pyHash d b q
def L7:SeqAt.EqAt A s .none .none true:=λprog w E Q a=>by unfold eqBool;show ri ?_;show v_ (λ_=>a_ (A_ (f_ a))) (λz=>absurd (by decide) z)
def G1(f:A.units<cLine)(d:kZ P w s.heap x u)(c:kZ P w s.heap y v)(q:Q (decide (x=y)) s):wpAny (model P w) A (eqBool u v) Q E s:=by match x,d,q with
 |.inl x,d,q=>match y,c,q with
  |.inl y,c,q=>show(aU P w).eqBool d c (by simpa using q)|.inr [],c,q=>
   cases c;rw[op (by intro z;cases z)]at q;rcases kZ.flat d with⟨i,t,rfl,_⟩|⟨z,t,rfl,_⟩
   ·show SeqAt.EqAt.int_none i t P w E Q q
   ·show SeqAt.EqAt.str_none z t P w E Q q|.inr (k::j),c,q=>
   obtain⟨a,rfl,o,g,n,e,hc,hd,hi⟩:=c;rw[op (by intro z;cases z)]at q;rcases kZ.flat d with⟨i,t,rfl,_⟩|⟨z,t,rfl,_⟩
   ·show SeqAt.EqAt.int_tuple i t {_,e,hc,_,hd} f P w E Q q
   ·show SeqAt.EqAt.str_tuple z t {_,e,hc,_,hd} f P w E Q q
 |.inr [],d,q=>
  cases d
  match y,c,q with
  |.inl y,c,q=>
   rw[op (by intro z;cases z)]at q;rcases kZ.flat c with⟨i,t,rfl,_⟩|⟨z,t,rfl,_⟩
   ·show SeqAt.EqAt.none_int i t P w E Q q
   ·show SeqAt.EqAt.none_str z t P w E Q q|.inr [],c,q=>cases c;rw[ol ()]at q;show L7 P w E Q q|.inr (k::j),c,q=>obtain⟨a,rfl,o,g,n,e,hc,hd,hi⟩:=c;rw[op (by intro z;cases z)]at q;show SeqAt.EqAt.none_tuple {_,e,hc,_,hd} f P w E Q q
 |.inr (k::j),d,q=>
  obtain⟨a,rfl,h⟩:=d
  match y,c,q with
 |.inl y,c,q=>
   obtain⟨o,g,n,e,hc,hd,hi⟩:=h;rw[op (by intro z;cases z)]at q;rcases kZ.flat c with⟨i,t,rfl,_⟩|⟨z,t,rfl,_⟩
   ·show SeqAt.EqAt.tuple_int i t {_,e,hc,_,hd} f P w E Q q
   ·show SeqAt.EqAt.tuple_str z t {_,e,hc,_,hd} f P w E Q q|.inr [],c,q=>cases c;obtain⟨o,g,n,e,hc,hd,hi⟩:=h;rw[op (by intro z;cases z)]at q;show SeqAt.EqAt.tuple_none {_,e,hc,_,hd} f P w E Q q|.inr (l::ls),c,q=>obtain⟨b,rfl,m⟩:=c;show(tupleKind (aU P w)).eqBool f h m (by simpa using q)
def Bo(c:kZ P w s.heap k v)(q:Q true s):wpAny (model P w) A (eqIsQuiet 8 v) Q E s:=by match k,c with
 |.inl k,c=>
  rcases kZ.flat c with⟨i,t,rfl,_⟩|⟨z,t,rfl,_⟩
  ·show f_ q
  ·show f_ q|.inr [],c=>cases c;show f_ q|.inr (k::d),c=>obtain⟨a,rfl,b⟩:=c;show(tupleKind (aU P w)).quiet b q
theorem kZ.inj(d:kZ P w h x v)(c:kZ P w h y v):x=y:=by match x,d with
 |.inl x,d=>match y,c with|.inl y,c=>rw[(aU P w).inj v x y d c]|.inr [],c=>cases c;rcases kZ.flat d with⟨i,t,e,_⟩|⟨z,t,e,_⟩<;>cases e|.inr (k::f),c=>obtain⟨a,rfl,_⟩:=c;rcases kZ.flat d with⟨i,t,e,_⟩|⟨z,t,e,_⟩<;>cases e
 |.inr [],d=>
  cases d
  match y,c with|.inl y,c=>rcases kZ.flat c with⟨i,t,e,_⟩|⟨z,t,e,_⟩<;>cases e|.inr [],_=>rfl|.inr (k::f),c=>obtain⟨a,e,_⟩:=c;cases e
 |.inr (k::f),d=>
  obtain⟨a,rfl,g⟩:=d
  match y,c with|.inl y,c=>rcases kZ.flat c with⟨i,t,e,_⟩|⟨z,t,e,_⟩<;>cases e|.inr [],c=>cases c|.inr (l::ls),c=>obtain⟨b,e,j⟩:=c;cases e;rw[(tupleKind (aU P w)).inj g j]
def G0{k:cn}{v:Value}{st:O_}{Q:Bool->Shared->Prop}(d:kZ P w s.heap k v)(e:∀u∈st,∃a,kZ P w s.heap a u)(q:Q false s):wpAny (model P w) A (tableMayTell v st) Q E s:=by
 unfold tableMayTell
 split
 ·show f_ q
 ·show a_ (Bo d ?_);simp only[Bool.not_true,NA,Oe];show a_ (OV _ (λleft r b=>b=s/\r=(none,Unit.unit)/\∀u∈left,∃a,kZ P w s.heap a u) _ ?_ ?_ _ _ {(),(),e})
  ·rintro u left r b⟨rfl,rfl,c⟩;obtain⟨a,f⟩:=c u oa;show a_ (Bo f ?_);simp only[Bool.not_true,NA,Oe];show f_ {(),(),λz g=>c z (np _ g)}
  ·rintro r b⟨rfl,rfl,_⟩;show f_ q
def LI{es:Array DictEntry}{a:List jU}(c:es.toList=a.map (sy P w))(j:Nat):es[j]?=(a[j]?).map (sy P w):=by rw[<-vl,c,i_]
def Ex{es:Array DictEntry}{a:List jU}(c:es.toList=a.map (sy P w)):es.size=a.length:=by rw[<-ot,c,b_]
def Ey{a:List jU}(hn:(a.map (·.1)).Nodup){i j:Nat}{k:cn}{p q:Value×Value}(hi:a[i]?=some (k,p))(c:a[j]?=some (k,q)):i=j:=by
 have b:(a.map (·.1))[i]?=some k:=by rw[i_,hi];rfl
 have d:(a.map (·.1))[j]?=some k:=by rw[i_,c];rfl
 show(z7 (c_.mp b).1 hn).mp (b.trans d.symm)
def MX[Decidable c](h1:c->wpAny (model P w) A t Q E s)(h2:¬c->wpAny (model P w) A u Q E s):wpAny (model P w) A (if c then t else u) Q E s:=by
 by_cases h:c
 ·rw[md h];show h1 h
 ·rw[me h];show h2 h
def Kv(a:List jU)(k:cn)(s:Shared)(b:Option (Option Nat)×Option Nat)(c:Shared):Prop:=c=s/\((∃j p,b=(some (some j),none)/\a[j]?=some (k,p))\/(b.1=none/\((b.2=none/\∀(j:Nat)(p:Value×Value),a[j]?≠some (k,p))\/∃j p,b.2=some j/\a[j]?=some (k,p))))
def JR{h:List jU}{k:cn}{a:Pe}(hn:(h.map (·.1)).Nodup)(u:∀j p,h[j]?=some (k,p)->j∈a)(v:∀j∈a,∃y:jU,h[j]?=some y/\iH P w y.1=iH P w k)(m:a.Nodup)(f:Nat->Option (Option Nat)×Option Nat->Sem (ForInStep (Option (Option Nat)×Option Nat)))(h1:∀(x:Nat)(p:Value×Value)(R:ForInStep (Option (Option Nat)×Option Nat)->Shared->Prop),x∈a->h[x]?=some (k,p)->R (.done (some (some x),none)) s->R (.yield (none,some x)) s->wpAny (model P w) A (f x (none,none)) R E s)(h2:∀(x:Nat)(n:Option Nat)(y:jU)(R:ForInStep (Option (Option Nat)×Option Nat)->Shared->Prop),x∈a->h[x]?=some y->iH P w y.1=iH P w k->y.1≠k->R (.yield (none,n)) s->wpAny (model P w) A (f x (none,n)) R E s):wpAny (model P w) A (forIn a ((none,none):Option (Option Nat)×Option Nat) f) (Kv h k s) E s:=by
 show OV f (λleft b B=>B=s/\b.1=none/\∃pre,a=pre++left/\((b.2=none/\∀j∈pre,∀p,h[j]?≠some (k,p))\/∃j p,b.2=some j/\j∈pre/\h[j]?=some (k,p))) _ ?_ ?_ _ _ {(),(),[],(),.inl {(),by simp}}
 ·rintro x left⟨b1,b2⟩B⟨rfl,rfl,pre,o,t⟩;have i:x∈a:=by rw[o];simp
  have C:x∉pre:=λz=>by rw[o,p5]at m;show m.2.2 x z x oa ()
  obtain⟨y,l,hh⟩:=v x i;have r:a=(pre++[x])++left:=by rw[o];simp
  by_cases e:y.1=k
  ·obtain⟨D,p⟩:=y;have e:D=k:=e;subst e;rcases t with⟨rfl,g⟩|⟨j,q,rfl,d,c⟩
   ·show h1 x p _ i l {(),.inl {x,p,(),l}} {(),(),pre++[x],r,.inr {x,p,(),by simp,l}}
   ·show absurd (Ey hn c l▸d) C
  ·show h2 x b2 y _ i l hh e {(),(),pre++[x],r,?_};rcases t with⟨rfl,g⟩|⟨j,q,rfl,d,c⟩
   ·show .inl {(),λj d p z=>?_};rcases List.mem_append.mp d with d|d
    ·show g j d p z
    ·rw[List.mem_singleton.mp d,l]at z;cases z;show e ()
   ·show .inr {j,q,(),qx _ d,c}
 ·rintro⟨b1,b2⟩B⟨rfl,rfl,pre,o,t⟩;show{(),.inr {(),?_}};rcases t with⟨rfl,g⟩|⟨j,q,rfl,d,c⟩
  ·show .inl {(),λj p z=>g j ?_ p z};have:=u j p z;rw[o,q4]at this;show this
  ·show .inr {j,q,(),c}
def EA{d:Addr}{o:Obj}{es:Array DictEntry}{ep:Nat}{u:List jU}{k:cn}{g:Value}{Q:Option Nat->Shared->Prop}(hu:A.units<cLine)(f:kZ P w s.heap k g)(H:s.heap.get? d=some o)(hd:o.data=.dict es ep)(he:es.toList=u.map (sy P w))(his:∀x∈u,kZ P w s.heap x.1 x.2.1)(hn:(u.map (·.1)).Nodup)(B:(∀(j:Nat)(p:Value×Value),u[j]?≠some (k,p))->Q none s)(n:∀(j:Nat)(p:Value×Value),u[j]?=some (k,p)->Q (some j) s):wpAny (model P w) A (dictFind d g (iH P w k)) Q E s:=by
 have sz:=Ex he;have q:=LI he;generalize I:placesWithHash es.size (λi=>es[i]?.map (·.hash)) (iH P w k)=c;have Z:∀j p,u[j]?=some (k,p)->j∈c:=λj p l=>by
  rw[<-I];unfold placesWithHash;show yl.mpr {x3.mpr ?_,?_}
  ·rw[sz];show(c_.mp l).1
  ·change(es[j]?.map (·.hash)==some (iH P w k))=true;rw[q j,l];simp[sy]
 have M:∀j∈c,∃y:jU,u[j]?=some y/\iH P w y.1=iH P w k:=λj l=>by rw[<-I]at l;unfold placesWithHash at l;obtain⟨h1,h2⟩:=yl.mp l;have h1:=x3.mp h1;rw[sz]at h1;show{u[j],h_ h1,?_};have h2:(es[j]?.map (·.hash)==some (iH P w k))=true:=h2;rw[q j,h_ h1]at h2;simpa[sy]using h2
 have ad:c.Nodup:=by rw[<-I];show List.filter_sublist.nodup List.nodup_range
 have plain:wpAny (model P w) A (dictWalkPlain d g (iH P w k) es c) Q E s:=by
  unfold dictWalkPlain;show a_ (OV _ (λleft b s'=>s'=s/\b=(none,Unit.unit)/\∃pre,c=pre++left/\∀j∈pre,∀p,u[j]?≠some (k,p)) _ ?_ ?_ _ _ {(),(),[],(),by simp})
  ·rintro x left b s'⟨rfl,rfl,pre,hp,N⟩;obtain⟨⟨J,kv,v'⟩,m,hh⟩:=M x (by rw[hp];simp);have hex:es[x]?=some {iH P w J,kv,v'}:=by rw[q x,m];rfl
   rw[hex];dsimp only;rw[md (by rw[hh];simp)];show a_ (E1 H hd (a_ (G1 (x:=J) (y:=k) hu (his _ (g_ m)) f (a_ (E1 H hd ?_)))));change wpAny (model P w) A (if(ep !=ep)=true then _ else _) _ E s';rw[me (by simp)]
   by_cases K:J=k
   ·rw[ol K];subst K;show a_ (A_ (f_ (f_ (n x _ m))))
   ·rw[op K];show a_ (A_ (f_ {(),(),pre++[x],by rw[hp];simp,λj l p z=>?_}));rcases List.mem_append.mp l with l|l
    ·show N j l p z
    ·rw[List.mem_singleton.mp l,m]at z;cases z;show K ()
  ·rintro b s'⟨rfl,rfl,pre,hp,N⟩;show f_ (B λj p z=>N j ?_ p z);have:=Z j p z;rw[hp,q4]at this;show this
 have aa:∀v∈c.filterMap (λi=>es[i]?.map (·.key)),∃J,kZ P w s.heap J v:=λv O=>by obtain⟨i,hi,O⟩:=NY.mp O;obtain⟨y,F,_⟩:=M i hi;rw[q i,F]at O;cases O;show{_,his y (g_ F)}
 unfold dictFind
 with_reducible show ri ?_
 show a_ (wpAny_dictEntries H hd ?_);dsimp only;rw[I];generalize a6:c.filterMap (λi=>es[i]?.map (·.key))=stored at aa⊢;have D:∀z t,g=.str z t->(es.all λe=>isExactStrKey e.key)=true->wpAny (model P w) A (foundByValue d g es z) Q E s:=by
  rintro z t rfl-;have ek:k=.inl (.inr z):=by
   cases k with|inl k=>
    rcases f.flat with⟨i,t',e,_⟩|⟨z',t',e,e2⟩
    ·cases e
    ·cases e;rw[e2]|inr ks=>cases ks with|nil=>cases f|cons k ks=>obtain⟨a,e,_⟩:=f;cases e
  have an:∀(j:Nat)(y:jU),u[j]?=some y->y.2.1.isStr z=true->y.1=k:=λj y F G=>by have h3:=his y (g_ F);show kZ.inj h3 ?_;rw[ek];cases O:y.2.1 with
 |str z' t'=>
    rw[O]at G;have:z'=z:=by simpa[Value.isStr]using G
    rw[this];show rB P w z t'|_=>rw[O]at G;cases G
  have ap:∀(j:Nat)(p:Value×Value),u[j]?=some (k,p)->p.1.isStr z=true:=λj p l=>by
   have h3:kZ P w s.heap k p.1:=his _ (g_ l);rw[ek]at h3;rcases h3.flat with⟨i,t',_,e⟩|⟨z',t',e,e2⟩
   ·cases e
   ·cases e2;rw[e];simp[Value.isStr]
  unfold foundByValue;cases hf:es.findIdx? (λe=>e.key.isStr z)with
 |none=>
   show f_ (B λj p l=>?_);have C:=Array.findIdx?_eq_none_iff.mp hf;have h4:es[j]?=some (sy P w (k,p)):=by rw[q j,l];rfl
   have h5:=C _ (Array.mem_of_getElem? h4);have h6:p.1.isStr z=false:=by simpa[sy]using h5
   rw[ap j p l]at h6;cases h6|some i=>
   obtain⟨S,hi,_⟩:=Array.findIdx?_eq_some_iff_getElem.mp hf;have m:u[i]?=some (u[i]'(by rw[<-sz];show S)):=h_ _;generalize u[i]'(by rw[<-sz];show S)=y at m;have hex:es[i]?=some (sy P w y):=by rw[q i,m];rfl
   have as:y.2.1.isStr z=true:=by rw[y1 S]at hex;rw[n_ hex]at hi;show hi
   have F:=an i y m as;obtain⟨J,p⟩:=y;have F:J=k:=F;subst F;dsimp only;rw[hex];dsimp only;show a_ (E1 H hd (a_ (G1 (x:=J) (y:=J) hu (his _ (g_ m)) f (a_ (E1 H hd ?_)))));rw[me (by simp),md (ol ())];show a_ (A_ (f_ (n i p m)))
 have L:∀a,g=.ref a->¬(es.any λe=>e.key==g&&e.hash !=iH P w k)=true:=by intro a ea;rw[<-Array.any_toList,he,On];rintro⟨e,ax,hc⟩;obtain⟨y,F,rfl⟩:=oi.mp ax;simp only[sy,o0,beq_iff_eq,bne_iff_ne,ne_eq]at hc;have h3:=his y F;rw[hc.1]at h3;show hc.2 (by rw[h3.inj f])
 by_cases C:((g::stored).all carriedByValue)=true
 ·rw[md C]
  split
  ·rename_i z t
   split
   ·rename_i G;show D z t () G
   ·show plain
  ·show plain
 ·rw[me C];have T:(∃i t,g=.int i t)\/(∃z t,g=.str z t)\/(∃a,g=.ref a)\/g=.none:=by
   cases k with|inl k=>
    rcases f.flat with⟨i,t,e,_⟩|⟨z,t,e,_⟩
    ·show .inl (i,t,e,)
    ·show .inr (.inl (z,t,e,))|inr ks=>cases ks with|nil=>show .inr (.inr (.inr f))|cons k ks=>obtain⟨a,e,_⟩:=f;show .inr (.inr (.inl (a,e,)))
  have U:∀(x:Nat)(p:Value×Value),u[x]?=some (k,p)->∃e,es[x]?=some e/\e.hash=iH P w k/\kZ P w s.heap k e.key:=λx p m=>{_,by rw[q x,m];rfl,(),his _ (g_ m)};have V:∀(x:Nat)(y:jU),u[x]?=some y->∃e,es[x]?=some e/\e.hash=iH P w y.1/\kZ P w s.heap y.1 e.key:=λx y m=>{_,by rw[q x,m];rfl,(),his _ (g_ m)};rcases T with⟨i,t,e⟩|⟨z,t,e⟩|⟨a,e⟩|e
  case' inl=>subst e;dsimp only
  case' inr.inl=>
   subst e;dsimp only
   by_cases G:(es.all λe=>isExactStrKey e.key)=true
   case pos=>rw[md G];show D z t () G
   case' neg=>rw[me G]
  case' inr.inr.inl=>subst e;dsimp only;rw[me (L a ())]
  case' inr.inr.inr=>subst e;dsimp only
  all_goals show MX (λ_=>a_ (f_ ?_)) (λ_=>a_ (G0 f aa ?_))
  all_goals rw[me (by simp)];show a_ (wpAny_mono (JR (P:=P) (w:=w) hn Z M ad _ ?_ ?_) (λb s' z=>?_) λ_ _ z=>z)
  all_goals first
   |(obtain⟨b1,b2⟩:=b
     obtain⟨rfl,h⟩:=z;rcases h with⟨j,p,e,l⟩|⟨e,h⟩
     ·cases e;show f_ (n j p l)
     ·have e:b1=none:=e;subst e;rcases h with⟨e,h⟩|⟨j,p,e,l⟩<;>(have e:b2=_:=e;subst e)
      ·show f_ (B h)
      ·show f_ (n j p l))
   |(intro x p R a3 m r1 r2
     obtain⟨e,W,X,Y⟩:=U x p m;rw[W];dsimp only;rw[md (by rw[X];simp)];show a_ (E1 H hd (a_ (G1 (x:=k) (y:=k) hu Y f (a_ (E1 H hd ?_)))));rw[me (by simp),md (ol ()),me (by simp)];show a_ (A_ ?_)
     split
     ·show f_ r1
     ·show f_ r2)
   |(intro x a7 y R a3 m hh a5 r
     obtain⟨e,W,X,Y⟩:=V x y m;rw[W];dsimp only;rw[md (by rw[X,hh];simp)];show a_ (E1 H hd (a_ (G1 (x:=y.1) (y:=k) hu Y f (a_ (E1 H hd ?_)))));rw[me (by simp),me (by simp[a5])];show a_ (A_ ?_);rw[me (by simp)];show f_ r)
def Bp{c:Type}{a:List (cn×c)}(hn:(a.map (·.1)).Nodup){j:Nat}{k:cn}{p:c}(d:a[j]?=some (k,p)):a.find? (λx=>decide (x.1=k))=some (k,p):=by
 rw[List.find?_eq_some_iff_append];obtain⟨g,e⟩:=c_.mp d;show{ol (),a.take j,a.drop (j+1),?_,λy h=>?_}
 ·rw[<-e,List.getElem_cons_drop,t_]
 ·obtain⟨i,hi⟩:=nk.mp h;have b:i<j:=by have:=(c_.mp hi).1;rw[oD]at this;omega
  rw[Oa b]at hi;have:y.1≠k:=λz=>by
   have f:(a.map (·.1))[i]?=some k:=by rw[i_,hi,<-z];rfl
   have l:(a.map (·.1))[j]?=some k:=by rw[i_,d];rfl
   have:=(z7 (c_.mp f).1 hn).mp (f.trans l.symm);lia
  simp[this]
def wI{c:Type}{d:List (cn×c)}{k:cn}(h:∀(j:Nat)(p:c),d[j]?≠some (k,p)):d.find? (λx=>decide (x.1=k))=none:=by rw[OJ];intro x b a;obtain⟨j,e⟩:=nk.mp b;have a:x.1=k:=pw a;show h j x.2 (by rw[e,<-a])
structure jk(P:Pa)(w:World)(h:Heap)(d:Addr)(ys:List jU):Prop where ok:∃o es ep,h.get? d=some o/\o.ExactDict/\o.data=.dict es ep/\es.toList=ys.map (sy P w)nd:(ys.map (·.1)).Nodup
def fP{c a:Type}(d:List (cn×c×a))(k:cn):Option a:=(d.find? λy=>decide (y.1=k)).map (·.2.2)
def gA{a c:Type}(d:List (cn×a×c))(k:cn)(e:a)(v:c):List (cn×a×c):=if(fP d k).isSome then d.map λy=>if y.1=k then(y.1,y.2.1,v)else y else d++[(k,e,v)]
def LH{d:Addr}{e:List jU}{k:cn}{c:Value}{Q:Option Value->Shared->Prop}(f:A.units<cLine)(a:kZ P w s.heap k c)(hm:jk P w s.heap d e)(his:∀x∈e,kZ P w s.heap x.1 x.2.1)(q:Q (fP e k) {s with toks:=s.toks+jP k}):wpAny (model P w) A (dictGet d c) Q E s:=by
 obtain⟨o,es,ep,b,hc,hd,g⟩:=hm.ok;unfold dictGet
 with_reducible show ri ?_
 show a_ (Ez f a (a_ (EA (s:={s with toks:=s.toks+jP k}) f a b hd g his hm.nd (λno=>?_) λj p h=>?_)))
 ·unfold fP at q;rw[wI no]at q;show f_ q
 ·unfold fP at q;rw[Bp hm.nd h]at q;show a_ (wpAny_dictEntries (s:={s with toks:=s.toks+jP k}) b hd ?_);rw[LI g j,h];show f_ q
def JT(a:List (cn×d×c))(k:cn)(v:c):(a.map λy=>if y.1=k then(y.1,y.2.1,v)else y).map (·.1)=a.map (·.1):=by
 rw[wr];show Nr λy _=>?_;change(if y.1=k then(y.1,y.2.1,v)else y).1=y.1
 split<;>rfl
def LG{d:Addr}{f:List jU}{k:cn}{c v:Value}{Q:Unit->Shared->Prop}(t:A.units<cLine)(g:kZ P w s.heap k c)(hm:jk P w s.heap d f)(his:∀x∈f,kZ P w s.heap x.1 x.2.1)(u:f.length<sizeLine)(q:∀h',jk P w h' d (gA f k c v)->Heap.SameBut d s.heap h'->Q Unit.unit {s with heap:=h',toks:=s.toks+jP k}):wpAny (model P w) A (dictSet d c v) Q E s:=by
 obtain⟨o,es,ep,h,hc,hd,m⟩:=hm.ok;unfold dictSet
 with_reducible show ri ?_
 show a_ (Ez t g ?_);unfold dictSetHashed
 with_reducible show ri ?_
 show a_ (EA (s:={s with toks:=s.toks+jP k}) t g h hd m his hm.nd (λno=>?_) λj p l=>?_)
 ·have n:gA f k c v=f++[(k,c,v)]:=by unfold gA fP;rw[wI no];rfl
  have B:k∉f.map (·.1):=λz=>by obtain⟨y,C,e⟩:=oi.mp z;obtain⟨j,l⟩:=nk.mp C;show no j y.2 (by rw[l,<-e])
  rw[n]at q;show a_ (A_ (wpAny_updateDictKeys (hz:=by have:=Ex m;omega) (s:={s with toks:=s.toks+jP k}) h hd (q _ {{_,_,ep+1,u_ _ h (Obj.isFreed_of_dict (Obj.data_mapDictKeys hd _)),hc.mapDictKeys _,Obj.data_mapDictKeys hd _,?_},?_} (K_ ..))))
  ·rw[OT,m,k_];rfl
  ·rw[k_,p5];show{hm.nd,by simp,λa D b r e=>B ?_};have r:b=k:=List.mem_singleton.mp r;rw[<-r,<-e];show D
 ·have n:gA f k c v=f.map λy=>if y.1=k then(y.1,y.2.1,v)else y:=by unfold gA fP;rw[Bp hm.nd l];rfl
  rw[n]at q;show a_ (A_ (a_ (wpAny_updateDict (s:={s with toks:=s.toks+jP k}) h hd (wpAny_point (q _ {{_,_,ep,u_ _ h (Obj.isFreed_of_dict (Obj.data_mapDict hd _)),hc.mapDict _,Obj.data_mapDict hd _,?_},by rw[JT];show hm.nd} (K_ ..))))));rw[Array.toList_modify,m];show H_ λi=>?_;rw[List.getElem?_modify,i_,i_,i_];cases hi:f[i]?with|none=>by_cases e:j=i<;>simp[e]|some y=>
   by_cases e:j=i
   ·subst e;rw[l]at hi;cases hi;simp[sy]
   ·have:y.1≠k:=λz=>e (Ey hm.nd l (q:=y.2) (by rw[hi,<-z]));simp[e,this]
def jk.type(hm:jk P w s.heap d c):s.TypeIs (.ref d) "dict":=let⟨o,_,_,a,hc,_⟩:=hm.ok;(o,a,hc.1,)
def jk.bare(hm:jk P w s.heap d c):∀b,Value.ref d=.ref b->∃ob,s.heap.get? b=some ob/\ob.dict=none:=λb e=>by cases e;obtain⟨o,_,_,a,hc,_⟩:=hm.ok;show(o,a,hc.2.1,)
def Av(d:Addr)(a dflt:Value)(hd:(d==sysModules)=false):MeetsIn P w (Builtin.«dict.get» {[.ref d,a,dflt],[]}) (λA R s=>A.in1.units<cLine/\∃k c,kZ P w s.heap k a/\jk P w s.heap d c/\(∀x∈c,kZ P w s.heap x.1 x.2.1)/\R (.ok (.ret ((fP c k).getD dflt))) {s with toks:=s.toks+jP k}):=.of_wp λA R s⟨e,k,c,f,hm,hi,h⟩=>by change wpAny (model P w) _ (dictGet d a>>=_) _ _ s;show a_ (LH e f hm hi ?_);cases b:fP c k with|some v=>rw[b]at h;show f_ {v,(),h}|none=>rw[b]at h;show a_ (wpAny_missed_other hd (f_ {dflt,(),h}))
def Co(f:A.in1.units<cLine)(c:kZ P w s.heap k a)(hm:jk P w s.heap d e)(his:∀x∈e,kZ P w s.heap x.1 x.2.1)(g:e.length<sizeLine)(q:∀h',jk P w h' d (gA e k a v)->Heap.SameBut d s.heap h'->Q Unit.unit {s with heap:=h',toks:=s.toks+jP k}):wpAny (model P w) A (setItem (.ref d) a v) Q E s:=by
 unfold setItem
 with_reducible show ri ?_
 show a_ (wpAny_sequenceKey hm.type (by decide) (a_ (r4 (name:=Str.ofString "__setitem__") hm.type slot_dict_setitem (rk slot_dict_setitem hm.type entry_dict_setitem ?_ (args_dict_setitem _ _ _)))));change wpAny (model P w) _ (Builtin.Dict.notOrdered "__setitem__" {[.ref d,a,v],[]}>>=_) _ _ s;show a_ (wpAny_notOrdered_dict hm.type ?_);change wpAny (model P w) A.in1 (dictSet d a v>>=_) _ _ s;show a_ (LG f c hm his g λh' h1 h2=>f_ {.none,(),f_ (q h' h1 h2)})
end
abbrev gB:=cn×V×V
def qW(a:List gB)(c:List jU):Prop:=Paired (λ(p:gB)(q:jU)=>p.1=q.1/\aV p.2.1 q.2.1/\aV p.2.2 q.2.2) a c
abbrev dM(P:Pa)(w:World)(d:Addr)(c:List gB):HO:=.ext λh=>(d==sysModules)=false/\∃a,qW c a/\jk P w h d a
def c8(K:O6)(H:Hp)(k:cn)(v:V):Prop:=match k with|.inl k=>v=kV k|.inr []=>v=.non|.inr (k::b)=>∃a,v=.ref a/\aY K H a ((k::b).map kV)
def eP(K:O6)(H:Hp)(a:List gB):Prop:=∀x∈a,c8 K H x.1 x.2.1
def jk.keep(m:jk P w h1 d a)(k:∀o,h1.get? d=some o->h2.get? d=some o):jk P w h2 d a:=let⟨o,es,ep,e,r⟩:=m.ok;{{o,es,ep,k o e,r},m.nd}
def Id(hd:(d==sysModules)=false)(r:qW a ys)(m:jk P w h d ys):dw P w H h d (dM P w d a):={(hd,ys,r,m,),let⟨o,_,_,e,_⟩:=m.ok;(o,e,),λ_ _⟨h1,ys,h2,h3⟩k=>{h1,ys,h2,h3.keep k}}
def c8.is(I:aO X f l H s)(h:c8 X.K H k v)(r:aV v u):kZ X.prog X.w s.heap k u:=by cases k with|inl k=>have h:v=kV k:=h;subst h;show pS r|inr b=>cases b with|nil=>have h:v=.non:=h;subst h;show r|cons k b=>obtain⟨a,rfl,g⟩:=h;cases r;obtain⟨i,j,⟨o,e,c,n,d⟩,_⟩:=I.tuple g;show{a,(),o,_,n,e,c,d,qJ j}
theorem qW.keys(I:aO X c g H s):∀{d:List gB}{e:List jU},qW d e->eP X.K H d->∀y∈e,kZ X.prog X.w s.heap y.1 y.2.1
 |_,_,.nil,_,y,b=>nomatch b|_,_,.cons (a:=p) r t,k,y,b=>by
  rcases vu.mp b with rfl|b
  ·rw[<-r.1];show(k p oa).is I r.2.1
  ·show qW.keys I t (λx f=>k x (np _ f)) y b
theorem qW.val:∀{a:List gB}{c:List jU},qW a c->∀k,kM (fP a k) (fP c k)
 |_,_,.nil,_=>True.intro|p::a,q::c,.cons r t,k=>by
  unfold fP;rw[tx,tx,<-r.1]
  by_cases e:p.1=k
  ·rw[ol e];show r.2.2
  ·rw[op e];show qW.val t k
def qW.put(h:qW c d)(g:aV i j)(f:aV v u):qW (gA c k i v) (gA d k j u):=by
 have a:(fP c k).isSome=(fP d k).isSome:=(h.val k).isSome_eq;unfold gA;rw[a]
 split
 ·rename_i hc;clear a hc
  induction h with|nil=>show .nil|@cons p q l m r t b=>
   show .cons ?_ b;dsimp only;rw[<-r.1]
   by_cases e:p.1=k
   ·rw[md e,md e];show{(),r.2.1,f}
   ·rw[me e,me e];show r
 ·rename_i hc;clear a hc
  induction h with|nil=>show .cons {(),g,f} .nil|cons r t b=>show .cons r b
def qW.len(h:qW a c):a.length=c.length:=Paired.length h
section
variable{X:Cx}{P:Pa}{w:World}{o e f:Expr}{n g c:Pos}{j ty l:TE}
def IG(P:Pa)(w:World):TE:=λ_ H Q=>∀p,H p=none->Q (.ref p) (aH H p (dM P w p []))
def DZ(d:X.prog=P:=by rfl)(i:X.w=w:=by rfl):PE X (.Dict [] [] n) (IG P w):=λb s k H Q I h=>by subst d i;show wpAny_Dict_empty {.ref s.heap.objs.size,_,I.laid (a:=s.heap.objs.size) (o:=dM X.prog X.w s.heap.objs.size []) (t':=s.toks) (λ_ _ q=>d_ _ q) (e_ _) ?_,(),h _ (I.hok.fresh (e_ _))};show Id (ys:=[]) (I_.mpr λz=>absurd (z▸I.big) (sg _)) .nil {{_,#[],0,j_ _ (),{(),(),()},(),()},NX}
def IE(K:O6)(P:Pa)(w:World)(j ty l:TE):TE:=λd H Q=>j d H λx m=>∃a h,x=.ref a/\m a=some (dM P w a h)/\ty d m λy p=>l d p λz b=>∃i k,b a=some (dM P w a i)/\eP K b i/\c8 K b k y/\Q ((fP i k).getD z) b
def DY(K:O6)(B:X.K=K)(C:X.A.units+1<cLine)(D:PE X o j)(E:PE X e ty)(G:PE X f l)(m:M2 X o "get" g e f c)(J:X.prog=P:=by rfl)(L:X.w=w:=by rfl):PE X (.Call (.Attribute o "get" g) [e,f] [] c) (IE K P w j ty l):=by subst J L B;intro b s r H Q I h;show NC m.base m.few m.line PySem.F.plainAttrs_dict PySem.F.slot_dict_get PySem.F.type_dict_get (cy (D b s r H _ I h) λu M i=>?_);obtain⟨x,N,I1,O,a,R,ex,d,S⟩:=i;subst ex;cases(show u=Value.ref a from O);obtain⟨⟨_,T,_,t⟩,_⟩:=I1.hok a _ d;show{t.type,t.bare,?_};rw[m.trees];show t0 () (z4 (to (cy (E b M r N _ I1 S) λiv U i=>?_)));obtain⟨y,V,Y,Z,q2⟩:=i;show to (cy (G b U r V _ Y q2) λfv s3 i=>?_);obtain⟨z,H3,q,rz,xs,k,d3,ks,hk,q3⟩:=i;show z_ ?_;obtain⟨⟨hd,ys,p,v⟩,_⟩:=q.hok a _ d3;show Nh PySem.F.slot_dict_get v.type PySem.F.entry_dict_get (PySem.F.args_dict_get_3 _ _ _) (Av a iv fv hd) {C,k,ys,hk.is q Z,v,p.keys q ks,?_};show{_,H3,q.tok _,(p.val k).getD rz,q3}
def Lp(K:O6)(P:Pa)(w:World):HI:=λo i v H Q=>∃a b k,o=.ref a/\H a=some (dM P w a b)/\eP K H b/\c8 K H k i/\b.length<sizeLine/\Q (aH H a (dM P w a (gA b k i v)))
def DL(K:O6)(x:X.K=K)(y:X.A.units+1<cLine)(z:X.prog=P:=by rfl)(B:X.w=w:=by rfl):HM X (Lp K P w):=by subst z B x;intro p s L H o i v M iv u Q I C r D h;obtain⟨a,N,k,rfl,d,E,F,G,q⟩:=h;cases C;obtain⟨⟨hd,O,b,m⟩,_⟩:=I.hok a _ d;show Co y (F.is I r) m (b.keys I E) (by rw[<-b.len];show G) λh' t J=>?_;show{_,sO I (by rw[d];show True.intro) J (let⟨o,_,_,e,_⟩:=t.ok;(o,e,)) ?_,q};show Id hd (b.put r D) t
end
section
variable{X:Cx}{o e c:Expr}{f:Str}{j g:Pos}{l m:TE}
def aC(K:O6)(a:X.K=K)(d:PE X e l)(h:attributeBase e f X.env (eval e X.env)=eval e X.env:=by rfl):PE X (.Attribute e f j) (K6 K l f):=by subst a;show Jx d h
def cz(K:O6)(a:X.K=K)(d:PE X o l)(h:PE X c m)(i:swapsWith c (some (.Attribute o f g)) j.line X.env=pure false:=by rfl):PS X (.Assign [.Attribute o f g] c j) (Lm K l m f):=by subst a;show Jq d h i
def Lr:HI:=λo i v H Q=>∃a b k,o=.ref a/\i=kV k/\H a=some (.dK b)/\b.length<sizeLine/\Q (aH H a (.dK (fA b k v)))
def ql(n:X.A.units+1<cLine):HM X Lr:=by intro b s z H o i v B iv u Q I p r t h;obtain⟨a,w,k,rfl,rfl,d,x,q⟩:=h;cases p;show CF n I (HQ.k d x) r t λC y=>{_,y,q}
end
section
variable{P:Pa}{w:World}{A:Around}{E:O7}{s:Shared}
def EV(ty:s.TypeIs (.ref r) "list_reverseiterator")(q:Q false s):wpAny (model P w) A (Builtin.List.listLengthHint (.ref r)) Q E s:=by
 unfold Builtin.List.listLengthHint;show a_ (Ot (r:=none) ty (by rw[Ou,ND];kernel_rfl) ?_);show v_ (λz=>absurd z (by decide+kernel)) (λ_=>?_);show v_ (λz=>absurd z (by decide)) (λ_=>?_);show a_ (Ot (r:=some (.builtin "list_reverseiterator.__length_hint__")) ty (by rw[Ou,ND];kernel_rfl) ?_);generalize a:("list_reverseiterator.__length_hint__":String)=nm
 wp_delta
 rw[show splitId nm=some ("list_reverseiterator","__length_hint__")from by subst a;decide+kernel];subst a;show a_ (Od (T:="list_reverseiterator") (b:=true) ty (by rw[OC];kernel_rfl) ?_);show v_ (λz=>absurd z (by decide)) (λ_=>?_);show v_ (λ_=>?_) (λz=>absurd (by decide+kernel) z);show v_ (λz=>absurd z (by decide+kernel)) (λ_=>?_);show f_ q
def Ad(hh:A.handled=none)(p:s.heap.IsRevIter r l ((a.size:Int)-1))(D:s.heap.IsList l a)(hn:a.size<=sizeLine)(t:l≠r)(n:S≠r)(u:S≠l)(d:Value)(y:Nat)(G:s.heap.get? S=some {cls:=.type "list",data:=.seq #[] y})(q:∀h' tk g c,(∀b o,b≠S->b≠r->s.heap.get? b=some o->h'.get? b=some o)->h'.get? S=some {cls:=.type "list",dict:=none,data:=.seq g c,slots:=#[]}->ItemsOf (λi v=>a[a.size-1-i]?=some v) g a.size->R (.ok (.ret d)) {s with heap:=h',toks:=tk}):wpAny (model P w) A.in1 (Builtin.List.listExtendWith (.ref S) (.ref r) d) (λfin j=>match fin with|.done f=>R (.ok f) j|.again B=>B.quiet=true/\codeAny (model P w) A B R j) (λe j=>R (.error e) j) s:=by
 have W:=Walks.listRev (prog:=P) (w:=w) (A:=A.in1) hh r l t a;have go:∀(h:Heap)(k tk:Nat),h.IsRevIter r l ((a.size:Int)-1)->h.IsList l a->(∀b o,b≠S->s.heap.get? b=some o->h.get? b=some o)->h.get? S=some {cls:=.type "list",data:=.seq #[] k}->codeAny (model P w) A (.builtin "list.extend.loop" {[.ref S,.ref r,d],[]}) R {s with heap:=h,toks:=tk}:=by
  intro h k tk x H I J;show codeAny_extend_loopS W.toS hn S (by simp[n,u]) d a.size 0 _ #[] k () (ov _) {ov _,by simpa using x,H} J (ItemsOf.nil _) λj g c C K L=>?_;rw[Moved.eq_with C];show q j.heap j.toks g c (λb o b1 b2 e=>C.heap b o (λm=>?_) (I b o b1 e)) K L;rcases vu.mp m with z|z
  ·show b1 z
  ·show b2 (List.mem_singleton.mp z)
 unfold Builtin.List.listExtendWith;show a_ (OK p.typeIs ?_);have ne:Builtin.List.listSameRef (.ref S) (.ref r)=false:=by simp[Builtin.List.listSameRef,n]
 have M:(Value.type "list_reverseiterator"==Value.type "list")=false:=by decide
 have N:(Value.type "list_reverseiterator"==Value.type "tuple")=false:=by decide
 simp only[ne,M,N,Bool.or_false,NA,Oe];show a_ (wpAny_pyIter_revIter p (a_ (ri (EV p.typeIs ?_))));show v_ (λz=>absurd z (by decide+kernel)) (λ_=>f_ {NI PySem.F.plain_extend_loop _,go s.heap y s.toks p D (λ_ _ _ e=>e) G})
def DP(hh:A.handled=none)(u:s.heap.IsRevIter r l ((items.size:Int)-1))(x:s.heap.IsList l items)(hn:items.size<=sizeLine)(f:l≠r)(q:∀h' tk a c,(∀b o,b≠r->s.heap.get? b=some o->h'.get? b=some o)->h'.get? s.heap.objs.size=some {cls:=.type "list",dict:=none,data:=.seq a c,slots:=#[]}->ItemsOf (λi v=>items[items.size-1-i]?=some v) a items.size->Q (.ref s.heap.objs.size) {s with heap:=h',toks:=tk}):wpAny (model P w) A (call (.type "list") [.ref r]) Q E s:=by
 show callType_codes (Q₁:=λobj k=>obj=.ref s.heap.objs.size/\k={s with heap:=s.heap.push {cls:=.type "list",data:=.seq #[]}}) PySem.F.called_list (PySem.F.typeCall_list_1 _) PySem.F.entry_list_init (code_list_new _ {(),()}) λobj k z=>?_;obtain⟨rfl,rfl⟩:=z;have new:(s.heap.push {cls:=.type "list",data:=.seq #[]}).get? s.heap.objs.size=some {cls:=.type "list",data:=.seq #[]}:=j_ _ ();obtain⟨y,m,B,C⟩:=u;have n:s.heap.objs.size≠r:=q_ (m3 m);obtain⟨D,p,cl,G,dl⟩:=x;have t:s.heap.objs.size≠l:=q_ (m3 p);show{{_,new,()},PySem.F.args_list_init_2 _ _,?_};change wpAny (model P w) _ (do let g<-Builtin.List.listItems (.ref s.heap.objs.size);Builtin.List.listUpdate (.ref s.heap.objs.size) (λ_=>#[]);letGo g.toList.reverse;Builtin.List.listExtendWith (.ref s.heap.objs.size) (.ref r) .none) _ _ _;show a_ ?_;unfold Builtin.List.listItems;show a_ (z1 new () (f_ (a_ (O1 new () (a_ (wpAny_letGo ?_))))));have d:=u_ (Obj.mapSeq (λ_=>(#[]:Pd))) new ();have keep:∀b o,b≠s.heap.objs.size->s.heap.get? b=some o->((s.heap.push {cls:=.type "list",data:=.seq #[]}).update s.heap.objs.size (Obj.mapSeq (λ_=>(#[]:Pd)))).get? b=some o:=λb o h e=>by rw[x_ _ _ (p_ h)];show d_ _ e
 show Ad (A:=A.in1) hh {y,keep _ _ (p_ n) m,B,C} {D,keep _ _ (p_ t) p,cl,G,dl} hn f n t .none _ d λh' tk a c H I J=>?_;show{(),q h' tk a c (λb o h e=>H b o (nB (m3 e)) h (keep b o (nB (m3 e)) e)) I J}
end
section
variable{X:Cx}{e:Expr}{te:TE}{i g f d:Pos}
def KZ(K:O6)(te:TE):TE:=λc H Q=>te c H λx a=>∃p b,x=.ref p/\aR K a p b/\∀l,a l=none->Q (.ref l) (aH a l (.lst b.reverse))
def Ah(K:O6)(Z:X.K=K)(hc:X.calm=true)(g1:Gl X "list")(m1:X.mg "list"=none)(g2:Gl X "reversed")(m2:X.mg "reversed"=none)(he:PE X e te)(B:starEach [.Call (.Name "reversed" g) [e] [] d] X.env=[(false,eval (.Call (.Name "reversed" g) [e] [] d) X.env)]:=by rfl)(C:starEach [e] X.env=[(false,eval e X.env)]:=by rfl):PE X (.Call (.Name "list" i) [.Call (.Name "reversed" g) [e] [] d] [] f) (KZ K te):=by
 subst Z;intro y s N H Q I h;show y_ (k7 I g1 m1 L2.gx (callWith_type1 ?_ B));rw[B];change wpAny (model X.prog X.w) X.A (spliced [(false,eval (.Call (.Name "reversed" g) [e] [] d) X.env)]) _ _ s;show to (y_ (k7 I g2 m2 L2.vR (callWith_type1 ?_ C)));rw[C];change wpAny (model X.prog X.w) X.A (spliced [(false,eval e X.env)]) _ _ s;show to (cy (he y s N H _ I h) λu m Y=>?_);obtain⟨x,H1,I1,rx,p,xs,ex,hq,q⟩:=Y;show z_ ?_;subst ex;cases(show u=Value.ref p from rx);obtain⟨k,O,⟨o,n,F,co,dd,ds⟩,P⟩:=I1.list hq;have hl:m.heap.IsList p k.toArray:=(o,F,co,n,ds,);show call_reversed_list hl (z_ ?_);have pr:p≠m.heap.objs.size:=nB (m3 F);have R:aO X y N H1 {m with heap:=m.heap.push (revObj p ((k.toArray.size:Int)-1))}:=I1.kept (t':=m.toks) λb o e=>d_ _ e;show DP (r:=m.heap.objs.size) (l:=p) (items:=k.toArray) (I.ok.hd hc) {_,j_ _ (),(),()} {o,d_ _ F,co,n,ds} (by simpa[<-O.length]using P) pr λh' tk t c kk sS T=>?_;have D:t.toList=k.reverse:=by
  show H_ λj=>?_;have J:t.size=k.length:=by simpa using T.1
  rcases Os j k.length with E|E
  ·have U:t[j]?=some (t[j]'(by lia)):=y1 _;have L:=T.2 j _ U;rw[vl,U,List.getElem?_reverse E];simpa using L.symm
  ·rw[rV (by simpa[J]using E),rV (by simpa using E)]
 have I3:=R.laid (a:=(m.heap.push (revObj p ((k.toArray.size:Int)-1))).objs.size) (o:=.lst xs.reverse) (h':=(m.heap.push (revObj p ((k.toArray.size:Int)-1))).push {cls:=.type "list",data:=.seq t c}) (t':=tk) (λb u e=>d_ _ e) (e_ _) {by rw[NU];show P,k.reverse,c,O.reverse,by rw[<-D];show j_ _ ()}
 have M:m.heap.objs.size<(m.heap.push (revObj p ((k.toArray.size:Int)-1))).objs.size:=by rw[rf];lia
 have I4:=I3.turned (it:=m.heap.objs.size) (h':=h') (t':=tk) (λb o hb e=>?_) (by rw[ak (nB M)];show I1.hok.fresh (e_ _)) (q_ I1.lt) (.inr I1.sz) (λx c e z=>by obtain⟨v,o,V,_⟩:=I1.cell x c e;rw[z]at V;show absurd (m3 V) (sg _)) (λpp hp z=>by have:=(I1.pin pp hp).1;rw[z]at this;show absurd (m3 this) (sg _))
 ·show{.ref (m.heap.push (revObj p ((k.toArray.size:Int)-1))).objs.size,_,I4,(),q _ (R.hok.fresh (e_ _))}
 ·by_cases z:b=(m.heap.push (revObj p ((k.toArray.size:Int)-1))).objs.size
  ·subst z;rw[j_ _ ()]at e;cases e;show sS
  ·rcases NN e with⟨z2,_⟩|L
   ·show absurd z2 z
   ·show kk b o hb L
end
end L2
namespace L2
open PySem
seal L2.ve L2.PS L2.PE L2.PT L2.PA L2.PI L2.PG L2.PW L2.Kt L2.PO
section
variable{X:Cx}
def CM:dy X (.builtin "isinstance") (λc H Q=>∃x T t b,c=[x,.ty T]/\(mx X.K H x t\/∃p d,x=.ref p/\aY X.K H p d/\t=.type "tuple")/\PySem.W.kitOne X.K t (.type T)=some b/\Q (.bl b) H):=by
 intro a s f H c g Q I r h;obtain⟨x,T,t,b,rfl,ty,e,q⟩:=h;rcases ty with ty|⟨p,d,rfl,i,rfl⟩
 ·show zF a s f H _ g Q I r {x,T,t,b,(),ty,e,q}
 ·obtain⟨u,j,rfl,k,rt⟩:=wc r;obtain rfl:j=Value.type T:=rt;cases k;obtain⟨l,_,⟨o,h1,h2,_⟩,_⟩:=I.tuple i;show PySem.W.kia_one PySem.W.kitx_tuple I.kIn (o,h1,h2,) e (nofun) λtk=>{.bl b,H,I.tok tk,(),q}
def fh(K:O6)(a:X.K=K):dy X (.builtin "isinstance") (λc H Q=>∃x T t b,c=[x,.ty T]/\(mx K H x t\/∃p d,x=.ref p/\aY K H p d/\t=.type "tuple")/\PySem.W.kitOne K t (.type T)=some b/\Q (.bl b) H):=by subst a;show CM
end
end L2
namespace L2
open PySem PySem.Spec PyProof.Rows
def HN(K:O6)(pm:Params)(a:Addr):Prop:=(a==sysModules)=false/\∃es n,K.lookup a=some {.type "dict",none,.dict es n,#[]}/\PySem.W.KeysLit pm es.toList
def MC(K:O6)(t:Addr)(c:List V):Prop:=∃(o:Obj)(a:Pd)(n:Nat),K.lookup t=some o/\o.cls=.type "tuple"/\o.data=.seq a n/\a.size<=sizeLine/\aZ c a.toList
def MC.sq{K:O6}{t:Addr}{a:List V}(h:MC K t a)(H:Hp):aY K H t a:=.inr h
section
variable{P:Pa}{w:World}{A:Around}{E:O7}{s:Shared}
def sU(c:s.heap.IsTupleIter j t k)(f:s.heap.IsTuple t d)(h:d[k]?=some v)(q:∀g,g.IsTupleIter j t (k+1)->Heap.SameBut j s.heap g->Q v {s with heap:=g}):wpAny (model P w) A (Builtin.SmallTypes.nextOf (.ref j)) Q E s:=by obtain⟨ob,b,i,a⟩:=id c;obtain⟨l,f1,_,m,f3⟩:=f;unfold Builtin.SmallTypes.nextOf;show a_ (r4 (name:=Str.ofString "__next__") c.typeIs Nn (rk Nn c.typeIs F.entry_tuple_iterator_next ?_ (O5 _)));show(show wpAny _ _ (field (.ref j) 0>>=_) _ _ s from a_ (w1 b a (x:=.ref t) () ?_));show(show wpAny _ _ (if(Value.ref t==Value.none)=true then _ else(field (.ref j) 1>>=_)) _ _ s from ?_);rw[me (show¬(Value.ref t==Value.none)=true fromλz=>nn z)];show a_ (w1 b a (x:=.int k 0) () ?_);show(show wpAny _ _ (seqItems? (.ref t)>>=_) _ _ s from a_ (z1 f1 f3 ?_));simp only[ry,h];show a_ (wpAny_setField b a (by simp) (f_ {v,(),f_ (q _ {_,u_ _ b (Obj.isFreed_of_fields (Obj.data_mapFields a _)),(Obj.cls_mapFields ..).trans i,?_} (K_ ..))}));rw[Obj.data_mapFields a];simp[rawInt]
def yj(hh:A.handled=none)(c:s.heap.IsTupleIter j t k)(h:s.heap.IsTuple t d)(i:d[k]?=none)(q:∀g x,Heap.ExtBut j s.heap g->(∃ob,g.get? x=some ob/\ob.cls=.type "StopIteration")->E (.ref x) {s with heap:=g}):wpAny (model P w) A (Builtin.SmallTypes.nextOf (.ref j)) Q E s:=by
 obtain⟨ob,b,l,e⟩:=id c;obtain⟨n,f1,_,o,f3⟩:=h;unfold Builtin.SmallTypes.nextOf;show a_ (r4 (name:=Str.ofString "__next__") c.typeIs Nn (rk Nn c.typeIs F.entry_tuple_iterator_next ?_ (O5 _)));show(show wpAny _ _ (field (.ref j) 0>>=_) _ _ s from a_ (w1 b e (x:=.ref t) () ?_));show(show wpAny _ _ (if(Value.ref t==Value.none)=true then _ else(field (.ref j) 1>>=_)) _ _ s from ?_);rw[me (show¬(Value.ref t==Value.none)=true fromλz=>nn z)];show a_ (w1 b e (x:=.int k 0) () ?_);show(show wpAny _ _ (seqItems? (.ref t)>>=_) _ _ s from a_ (z1 f1 f3 ?_));simp only[ry,i];show a_ (A_ (a_ (wpAny_setField b e (by simp) (show wpAny _ _ (newExc (.type "StopIteration") []>>=_) _ _ _ from a_ ?_))));simp only[newExc,newTuple];show a_ (rm (a_ (m:=firstArgMember _ _) (wpAny_of_eq (a:=Value.none) (by first|rfl|(simp only[firstArgMember];rfl)) (rm ?_ (by size_fits)))) (by size_fits));simp only[raiseNew];show a_ (wpAny_handled ?_)
 first|rw[show A.in1.handled=none from hh]|rw[hh]
 show a_ (f_ (wpAny_throw (q _ _ (((K_ ..).extBut.push _).push _) {_,j_ _ (),()})))
def F0{b:Bool}{j t:Addr}{k:Nat}{a:Pd}{v:Value}{Q:O7}(c:qZ b s.heap j t k)(d:qf b s.heap t a)(e:a[k]?=some v)(q:∀g,qZ b g j t (k+1)->Heap.SameBut j s.heap g->Q v {s with heap:=g}):wpAny (model P w) A (Builtin.SmallTypes.nextOf (.ref j)) Q E s:=by cases b with|false=>show sU c d e q|true=>show wpAny_nextOf_list_item c d e q
def FD(z o2 a d:Addr)(h g:Heap):Prop:=∀c ob,c≠z->c≠o2->c≠a->c≠d->h.get? c=some ob->g.get? c=some ob
def BJ{c:Bool}{z o1 o2 h i t l:Addr}{I J:Nat}{X Z:Pd}{x y a b:Value}{Q:O7}(D:ZipApart z o1 o2 h i t l)(r:IsZip s.heap z o1 o2 .none)(p1:IsPair s.heap o1 (.ref h) (.ref i))(p2:IsPair s.heap o2 a b)(i1:s.heap.IsTupleIter h t I)(i2:qZ c s.heap i l J)(tt:s.heap.IsTuple t X)(ll:qf c s.heap l Z)(hx:X[I]?=some x)(hy:Z[J]?=some y)(q:∀g,IsZip g z o1 o2 (rawInt s.heap.objs.size)->IsPair g o2 x y->g.IsTupleIter h t (I+1)->qZ c g i l (J+1)->IsPair g s.heap.objs.size x y->g.objs.size=s.heap.objs.size+1->FD z o2 h i s.heap g->Q (.ref s.heap.objs.size) {s with heap:=g}):wpAny (model P w) A (Builtin.«zip.__next__» {[.ref z],[]}) (λfin s'=>∃v,fin=.done (.ret v)/\Q v s') E s:=by
 show(show wpAny _ _ (field (.ref z) 2>>=_) _ _ _ from a_ (w1 r () (x:=.bool false) () ?_));show(show wpAny _ _ (field (.ref z) 3>>=_) _ _ _ from a_ (w1 r () (x:=.ref o1) () (a_ (z1 p1 () ?_))));show(show wpAny _ _ (Builtin.SmallTypes.ownedTupleIsFree (.ref z)>>=_) _ _ _ from a_ ?_);unfold Builtin.SmallTypes.ownedTupleIsFree;show a_ (w1 r () (x:=.none) () (f_ ?_));simp only[OM];show a_ (A_ (a_ (w1 r () (x:=.ref o2) () (a_ (sT r (by simp) λg1 M j=>?_)))))
 replace M:IsZip g1 z o1 o2 .ellipsis:=M
 show a_ ?_;simp only[List.zipIdx_cons,List.zipIdx_nil,Oy,List.forIn_nil];show a_ (a_ (wpAny_onRaise (show wpAny _ _ (Builtin.SmallTypes.nextOf (.ref h)>>=_) _ _ _ from a_ (sU (i1.extBut j.extBut D.i1z) (tt.extBut j.extBut D.l1z) hx λg2 N n=>f_ ?_))));have u:IsPair g2 o2 a b:=n.extBut _ _ D.TOi1 (j.extBut _ _ D.TOz p2);show a_ (z1 u () (a_ (wpAny_updateSeq_pair u λg3 k p=>?_)))
 replace k:IsPair g3 o2 x b:=k
 show a_ (wpAny_letGo (f_ (a_ (a_ (wpAny_onRaise ?_)))));show(show wpAny _ _ (Builtin.SmallTypes.nextOf (.ref i)>>=_) _ _ _ from a_ (F0 (i2.at λ_ e=>p.extBut _ _ D.TOi2.symm (n.extBut _ _ D.i12.symm (j.extBut _ _ D.i2z e))) (ll.at λ_ e=>p.extBut _ _ D.l2TO (n.extBut _ _ D.l2i1 (j.extBut _ _ D.l2z e))) hy λg4 O B=>f_ ?_))
 have C:IsPair g4 o2 x b:=B.extBut _ _ D.TOi2 k;show a_ (z1 C () (a_ (wpAny_updateSeq_pair C λd f F=>?_)))
 replace f:IsPair d o2 x y:=f
 show a_ (wpAny_letGo (f_ (f_ (a_ (z1 f () (a_ (wpAny_newTuple ?_)))))));have sz:d.objs.size=s.heap.objs.size:=by rw[F.1,B.1,p.1,n.1,j.1]
 have Y:IsZip d z o1 o2 .ellipsis:=F.extBut _ _ D.TOz.symm (B.extBut _ _ D.i2z.symm (p.extBut _ _ D.TOz.symm (n.extBut _ _ D.i1z.symm M)));have k5:FD z o2 h i s.heap d:=λc o m K R S e=>F.extBut _ _ K (B.extBut _ _ S (p.extBut _ _ K (n.extBut _ _ R (j.extBut _ _ m e))));have T:d.IsTupleIter h t (I+1):=((N.extBut p.extBut D.TOi1.symm).extBut B.extBut D.i12).extBut F.extBut D.TOi1.symm;have U:qZ c d i l (J+1):=O.at λ_ e=>F.extBut _ _ D.TOi2.symm e;have zl:z<d.objs.size:=m3 Y;show(show wpAny _ _ (Builtin.SmallTypes.ownedTupleHandOut (.ref z) (.ref d.objs.size)>>=_) _ _ _ from a_ ?_);unfold Builtin.SmallTypes.ownedTupleHandOut;have z6:IsZip (d.push {cls:=.type "tuple",data:=.seq #[x,y]}) z o1 o2 .ellipsis:=d_ _ Y;show a_ (sT z6 (by simp) λg7 V W=>?_)
 replace V:IsZip g7 z o1 o2 (rawInt d.objs.size):=V
 show sT V (by simp) λG L s8=>?_
 replace L:IsZip G z o1 o2 (rawInt d.objs.size):=L
 have up:∀c ob,c≠z->d.get? c=some ob->G.get? c=some ob:=λc ob m e=>s8.extBut _ _ m (W.extBut _ _ m (d_ _ e));have pn:IsPair G d.objs.size x y:=s8.extBut _ _ (q_ zl) (W.extBut _ _ (q_ zl) (j_ _ ()));have H:G.objs.size=d.objs.size+1:=by rw[s8.1,W.1,rf]
 rw[sz]at L pn H;show f_ {_,(),(show Q (.ref d.objs.size) _ from ?_)};rw[sz];show q G L (up _ _ D.TOz f) (T.at λob e=>up _ ob D.i1z e) (U.at λob e=>up _ ob D.i2z e) pn H λc ob m K R S e=>up c ob m (k5 c ob m K R S e)
def BI(hh:A.handled=none)(D:ZipApart z o1 o2 j n t l)(h:IsZip s.heap z o1 o2 .none)(v:IsPair s.heap o1 (.ref j) (.ref n))(R:IsPair s.heap o2 a b)(y:s.heap.IsTupleIter j t B)(C:s.heap.IsTuple t F)(G:F[B]?=none)(q:∀g e,FD z o2 j n s.heap g->(∃ob,g.get? e=some ob/\ob.cls=.type "StopIteration")->E (.ref e) {s with heap:=g}):wpAny (model P w) A (Builtin.«zip.__next__» {[.ref z],[]}) Q E s:=by
 show(show wpAny _ _ (field (.ref z) 2>>=_) _ _ _ from a_ (w1 h () (x:=.bool false) () ?_));show(show wpAny _ _ (field (.ref z) 3>>=_) _ _ _ from a_ (w1 h () (x:=.ref o1) () (a_ (z1 v () ?_))));show(show wpAny _ _ (Builtin.SmallTypes.ownedTupleIsFree (.ref z)>>=_) _ _ _ from a_ ?_);unfold Builtin.SmallTypes.ownedTupleIsFree;show a_ (w1 h () (x:=.none) () (f_ ?_));simp only[OM];show a_ (A_ (a_ (w1 h () (x:=.ref o2) () (a_ (sT h (by simp) λH k m=>?_)))))
 replace k:IsZip H z o1 o2 .ellipsis:=k
 show a_ ?_;simp only[List.zipIdx_cons,List.zipIdx_nil,Oy,List.forIn_nil];show a_ (a_ (wpAny_onRaise (show wpAny _ _ (Builtin.SmallTypes.nextOf (.ref j)>>=_) _ _ _ from a_ (yj hh (y.extBut m.extBut D.i1z) (C.extBut m.extBut D.l1z) G λI e o J=>?_))));obtain⟨K,f,i⟩:=J;have p:IsZip I z o1 o2 .ellipsis:=o _ _ D.i1z.symm k;have L:e≠z:=λc=>by subst c;rw[p]at f;cases f;simp at i
 show sT p (by simp) λM _ r=>q M e (λc ob u _ N _ d=>r.extBut _ _ u (o _ _ N (m.extBut _ _ u d))) {K,r.extBut _ _ L f,i}
def BK{c:Bool}{z o1 o2 d e t l:Addr}{f h:Nat}{i j:Pd}{x y a b:Value}{Q:Option Value->Shared->Prop}(D:ZipApart z o1 o2 d e t l)(m:IsZip s.heap z o1 o2 .none)(n:IsPair s.heap o1 (.ref d) (.ref e))(o:IsPair s.heap o2 a b)(p:s.heap.IsTupleIter d t f)(r:qZ c s.heap e l h)(u:s.heap.IsTuple t i)(v:qf c s.heap l j)(B:i[f]?=some x)(C:j[h]?=some y)(q:∀g,IsZip g z o1 o2 (rawInt s.heap.objs.size)->IsPair g o2 x y->g.IsTupleIter d t (f+1)->qZ c g e l (h+1)->IsPair g s.heap.objs.size x y->g.objs.size=s.heap.objs.size+1->FD z o2 d e s.heap g->Q (some (.ref s.heap.objs.size)) {s with heap:=g}):wpAny (model P w) A (pyNext (.ref z)) Q E s:=by have ty:s.TypeIs (.ref z) "zip":={_,m,()};unfold pyNext;show a_ (N9 (r4 (name:=Str.ofString "__next__") ty Oz (rk Oz ty F.entry_zip_next (BJ D m n o p r u v B C λg a1 a2 G a4 H I J=>?_) (F.args_zip_next_1 _))));show f_ (q g a1 a2 G a4 H I J)
def CU(hh:A.handled=none)(D:ZipApart z o1 o2 c d t l)(f:IsZip s.heap z o1 o2 .none)(i:IsPair s.heap o1 (.ref c) (.ref d))(j:IsPair s.heap o2 a b)(m:s.heap.IsTupleIter c t n)(o:s.heap.IsTuple t p)(r:p[n]?=none)(q:∀g,FD z o2 c d s.heap g->Q none {s with heap:=g}):wpAny (model P w) A (pyNext (.ref z)) Q E s:=by have ty:s.TypeIs (.ref z) "zip":={_,f,()};unfold pyNext;show a_ (N9 (r4 (name:=Str.ofString "__next__") ty Oz (rk Oz ty F.entry_zip_next (BI hh D f i j m o r λg e k u=>?_) (F.args_zip_next_1 _))));obtain⟨ob,h1,h2⟩:=u;show a_ (Od (T:="StopIteration") (b:=true) (ob,h1,h2,) isSubtype_stop (f_ (q g k)))
abbrev FR(h:Heap)(t:Addr):Heap:=h.push {cls:=.type "tuple_iterator",data:=.fields #[.ref t,.int 0 0]}
abbrev Mt(c:Bool)(h:Heap)(t l:Addr):Heap:=(FR h t).push {cls:=.type (cond c "list_iterator" "tuple_iterator"),data:=.fields #[.ref l,.int 0 0]}
abbrev Mr(c:Bool)(h:Heap)(t l:Addr):Heap:=(Mt c h t l).push {cls:=.type "tuple",data:=.seq #[.ref h.objs.size,.ref (FR h t).objs.size]}
abbrev Mq(c:Bool)(h:Heap)(t l:Addr):Heap:=(Mr c h t l).push {cls:=.type "tuple",data:=.seq #[.none,.none]}
abbrev Ky(c:Bool)(h:Heap)(t l:Addr):Heap:=(Mq c h t l).push {cls:=.type "zip",data:=.fields #[.none,.bool false,.bool false,.ref (Mt c h t l).objs.size,.ref (Mr c h t l).objs.size]}
def Au(c:Bool)(t l:Addr)(a f:Pd):Meets (Builtin.«zip.__new__» {[.type "zip",.ref t,.ref l],[]}) (λ_ R s=>s.heap.IsTuple t a/\qf c s.heap l f/\R (.ok (.ret (.ref (Mq c s.heap t l).objs.size))) {s with heap:=Ky c s.heap t l}):=.of_wp λprog w A R s h=>by
  obtain⟨b,g,d,tk,os⟩:=s;obtain⟨h1,h2,h⟩:=h;have i:=sub_zip;have j:Heap.IsTuple (Shared.heap (b,g,d,tk,os,)) t a:=h1;have k:qf c (Shared.heap {b.push {cls:=.type "tuple_iterator",data:=.fields #[.ref t,.int 0 0]},g,d,tk,os}) l f:=h2.at λ_ e=>d_ _ e
  wp_walk using Nx j,A5 k
  show{_,(),h}
def CI{c:Bool}{t l:Addr}{h i:Pd}{Q:O7}(h1:s.heap.IsTuple t h)(h2:qf c s.heap l i)(q:∀g,IsZip g (s.heap.objs.size+4) (s.heap.objs.size+2) (s.heap.objs.size+3) .none->IsPair g (s.heap.objs.size+2) (.ref s.heap.objs.size) (.ref (s.heap.objs.size+1))->IsPair g (s.heap.objs.size+3) .none .none->g.IsTupleIter s.heap.objs.size t 0->qZ c g (s.heap.objs.size+1) l 0->(∀c o,s.heap.get? c=some o->g.get? c=some o)->Q (.ref (s.heap.objs.size+4)) {s with heap:=g}):wpAny (model P w) A (call (.type "zip") [.ref t,.ref l]) Q E s:=by
 show callType_new F.called_zip (by decide) (F.typeCall_zip_2 _ _) (F.newCall_zip_2 _ _) (λob=>F.args_object_init_3 ob _ _) F.entry_zip_new (Au c t l h i) {h1,h2,?_};have a:(FR s.heap t).objs.size=s.heap.objs.size+1:=rf ..;have b:(Mt c s.heap t l).objs.size=s.heap.objs.size+2:=by rw[rf,a]
 have e:(Mr c s.heap t l).objs.size=s.heap.objs.size+3:=by rw[rf,b]
 have j:(Mq c s.heap t l).objs.size=s.heap.objs.size+4:=by rw[rf,e]
 have f:(Ky c s.heap t l).get? (Mq c s.heap t l).objs.size=some _:=j_ _ ();have k:(Ky c s.heap t l).get? (Mr c s.heap t l).objs.size=some _:=d_ _ (j_ _ ());have m:(Ky c s.heap t l).get? (Mt c s.heap t l).objs.size=some _:=d_ _ (d_ _ (j_ _ ()));have n:(Ky c s.heap t l).get? (FR s.heap t).objs.size=some _:=d_ _ (d_ _ (d_ _ (j_ _ ())));have p:(Ky c s.heap t l).get? s.heap.objs.size=some _:=d_ _ (d_ _ (d_ _ (d_ _ (j_ _ ()))));change _/\_;rw[b,e,j]at f;rw[a,b]at m;rw[e]at k;rw[a]at n;rw[j];show{{_,f,()},q _ f m k {_,p,(),()} {_,n,(),()} λc ob d=>d_ _ (d_ _ (d_ _ (d_ _ (d_ _ d))))}
end
def kG{X:Cx}{a:O8}{g:St}{H:Hp}{s:Shared}{h':Heap}{t':Nat}{ch:Pf}(I:aO X a g H s)(k:∀b o,b∉ch->s.heap.get? b=some o->h'.get? b=some o)(f:∀b∈ch,vY X a H b):aO X a g H {s with heap:=h',toks:=t'}:=by
 have d:∀b u,H b=some u->b∉ch:=λb u e z=>by rw[(f b z).1]at e;cases e
 show I.step (g':=s.gens) (d':=s.drawn) (ch:=ch) (λb h=>?_) (λb o _ _ hc e _=>k b o hc e) (λb o _ _ hc e _=>{o.slots,k b o hc e}) (λ_ _ _ _ n=>n) (λb o hc e=>{o,k b o hc e}) (λ_ _ e=>e) (λ_ _ _ e=>e) (λb w e=>{#[],by rw[e];simp}) (λm hm=>?_) (λb u e=>?_) I.bare
 ·obtain⟨_,f1,_,f3,i,j⟩:=f b h;show(f3,f1,i,j,)
 ·obtain⟨o,es,ep,l,r⟩:=hm;show{o,es,ep,k _ o (λz=>(f _ z).2.1 ()) l,r}
 ·show(I.hok b u e).stay (λc v hc q=>k c v ?_ q) (λ_ q=>q) λ_ _ q=>q;rcases hc with z|z
  ·rw[z];show d b u e
  ·show d c _ z
def Mm(c:Bool)(K:O6)(t l:Addr):It:={λi H=>∃a b x y,aY K H t a/\HJ c K H l b/\a[i]?=some x/\b[i]?=some y,λi H v d=>∃T x y,H T=none/\v=.ref T/\d=aH H T (.tup [x,y])/\∀a b,aY K H t a->HJ c K H l b->a[i]?=some x/\b[i]?=some y,λi H=>∃a,aY K H t a/\a.length<=i}
def C0{c:Bool}{P:Pa}{w:World}{K:O6}{C:Pc}{x1:Nat}{L:Pos}{z o1 o2 j m t l:Addr}(D:ZipApart z o1 o2 j m t l):vV P w K (.Tuple C x1 L) (Mm c K t l) [z,o1,o2,j,m] z (λi h=>IsZip h z o1 o2 .none/\IsPair h o1 (.ref j) (.ref m)/\(∃a b,IsPair h o2 a b)/\h.IsTupleIter j t i/\qZ c h m l i)where
 mem:=by simp
 obj:=λi h st b d=>by
  obtain⟨a1,a2,⟨_,_,n⟩,⟨ad,a4,_,d4⟩,⟨an,r,_,d5⟩⟩:=st;simp only[vu,rl,Nt]at d;rcases d with rfl|rfl|rfl|rfl|rfl
  ·show{_,a1,λv e=>by cases e}
  ·show{_,a2,λv e=>by cases e}
  ·show{_,n,λv e=>by cases e}
  ·show{_,a4,λv e=>by rw[d4]at e;cases e}
  ·show{_,r,λv e=>by rw[d5]at e;cases e}
 keep:=λi h h' st k=>by obtain⟨a1,a2,⟨a,b,n⟩,a4,r⟩:=st;show{k z (by simp) _ a1,k o1 (by simp) _ a2,{a,b,k o2 (by simp) _ n},a4.at λob e=>k j (by simp) ob e,r.at λob e=>k m (by simp) ob e}
 item:=by
  intro X M N O hc i q s σ H E I J st hg;subst M N O;obtain⟨xs,ys,x,y,F,Q,R,hy⟩:=hg;obtain⟨A,S,p,hz⟩:=I.tuple F;obtain⟨aa,T,p2,U⟩:=I.sqE Q;obtain⟨u,hu,ru⟩:=S.get R;obtain⟨V,Y,Z⟩:=T.get hy;obtain⟨a1,a2,⟨a,b,n⟩,a4,r⟩:=st;show BK D a1 a2 n a4 r (show s.heap.IsTuple t A.toArray from p) p2 (x:=u) (y:=V) (by simpa using hu) (by simpa using Y) λg b1 b2 b3 b4 b5 b6 off=>?_;show{_,(),wpAny_letOwnedTupleGo_zip b1 λg' c1 B=>?_};have lt:∀c∈[z,o1,o2,j,m],c≠s.heap.objs.size:=λc G e=>by
   have hs:∃ob,s.heap.get? c=some ob:=by
    simp only[vu,rl,Nt]at G;rcases G with rfl|rfl|rfl|rfl|rfl
    ·show{_,a1}
    ·show{_,a2}
    ·show{_,n}
    ·obtain⟨ob,e,_⟩:=a4;show(ob,e,)
    ·obtain⟨ob,e,_⟩:=r;show(ob,e,)
   obtain⟨ob,h⟩:=hs;rw[e]at h;show absurd (m3 h) (sg _)
  have fresh:H s.heap.objs.size=none:=I.hok.fresh (e_ _);have I1:aO X q σ (aH H s.heap.objs.size (.tup [x,y])) {s with heap:=s.heap.push {cls:=.type "tuple",data:=.seq #[u,V]},toks:=s.toks}:=I.laid (λb o e=>d_ _ e) (e_ _) {by rw[mo];simp,[u,V],.cons ru (.cons Z .nil),{_,j_ _ (),(),_,()}}
  have I2:=kG (h':=g') (t':=s.toks) (ch:=[z,o1,o2,j,m]) I1 (λb o d e=>?_) (λb d=>?_)
  ·show{.ref s.heap.objs.size,_,I2,(),{_,x,y,fresh,(),(),λap as h1 h2=>{by rw[I.tuple_inj h1 F];show R,by rw[U _ h2];show hy}},{c1,B.extBut _ _ D.TIz (off _ _ D.TIz D.TITO D.TIi1 D.TIi2 a2),{_,_,B.extBut _ _ D.TOz b2},b3.extBut B.extBut D.i1z,b4.at λ_ e=>B.extBut _ _ D.i2z e},λb d=>?_};rw[ak (lt b d)];show(J b d).1
  ·have f:b≠z/\b≠o1/\b≠o2/\b≠j/\b≠m:=by simpa using d
   by_cases eb:b=s.heap.objs.size
   ·subst eb;rw[j_ _ ()]at e;cases e;show B.extBut _ _ f.1 b5
   ·have e':s.heap.get? b=some o:=by
     rcases NN e with⟨z2,_⟩|e2
     ·show absurd z2 eb
     ·show e2
    show B.extBut _ _ f.1 (off b o f.1 f.2.2.1 f.2.2.2.1 f.2.2.2.2 e')
  ·obtain⟨f0,f1⟩:=J b d;show{by rw[ak (lt b d)];show f0,f1}
 done:=by
  intro X M N O hc i q s σ H E I J st hg;subst M N O;obtain⟨xs,hq,R⟩:=hg;obtain⟨A,S,p,hz⟩:=I.tuple hq;have hl:=S.length;obtain⟨a1,a2,⟨a,b,n⟩,a4,r⟩:=st;show CU (I.ok.hd hc) D a1 a2 n a4 (show s.heap.IsTuple t A.toArray from p) (by simp;lia) λg off=>{(),kG (t':=s.toks) (ch:=[z,o1,o2,j,m]) I (λb o d e=>?_) J};have f:b≠z/\b≠o1/\b≠o2/\b≠j/\b≠m:=by simpa using d
  show off b o f.1 f.2.2.1 f.2.2.2.1 f.2.2.2.2 e
 self:=λ_ _ _ _ _ st h=>wpAny_pyIter_zip st.1 h
end L2
namespace L2
open PySem PySem.Spec PyProof.Rows PySem.W
def MV{K:O6}{w:World}{pm:Params}{a:Addr}(h:w.params=pm)(k:HN K pm a):HN K w.params a:=h▸k
def gl(c:Nat):List (List Nat)->List Nat|[]=>[]|[x]=>x|x::y::r=>x++c::gl c (y::r)
abbrev dE(P:Pa)(w:World)(d:Addr)(a:List (bZ×V))(ep:Nat):HO:=.ext λh=>((d==sysModules)=false/\a.length<=sizeLine)/\∃b,KV a b/\h.DictAt (aU P w) d b ep
theorem xM:∀{a:List (bZ×V)}{d:List (bZ×Value)},KV a d->∀(i:Nat)(k:bZ)(v:V),a[i]?=some (k,v)->∃u,d[i]?=some (k,u)/\aV v u|_,_,.nil,i,k,v,h=>by simp at h|_,_,.cons (b:=q) ⟨c,e⟩ t,i,k,v,h=>by cases i with|zero=>simp at h;subst h;obtain⟨f,u⟩:=q;have c:k=f:=c;subst c;show{u,(),e}|succ i=>obtain⟨u,h1,h2⟩:=xM t i k v (by simpa using h);show{u,by simpa using h1,h2}
def xH(h:(aU P w).is k u=true):aV (kV k) u:=by
 rcases kZ.flat (P:=P) (w:=w) (h:=default) (k:=k) (v:=u) h with⟨i,t,rfl,rfl⟩|⟨z,t,rfl,rfl⟩
 ·show{t,()}
 ·show{t,()}
section
variable{X:Cx}{g:O8}{i:St}{H:Hp}{s:Shared}{d:Addr}{f:List (bZ×V)}{ep:Nat}
def aO.walk(I:aO X g i H s)(h:H d=some (.dK f)):∃ep j,KV f j/\s.heap.DictAt (aU X.prog X.w) d j ep/\(d==sysModules)=false/\aO X g i (aH H d (dE X.prog X.w d f ep)) s:=by obtain⟨r,n,j,p,l⟩:=I.hok d _ h;obtain⟨ep,m⟩:=l.dictAt;obtain⟨o,es,q,_⟩:=id m;show{ep,j,p,m,n,?_};have J:=I.write (h':=s.heap) (t':=s.toks) (x:=d) (e:=d) (o:=dE X.prog X.w d f ep) (by rw[h];show True.intro) (.inl ()) (λ_ _ _ e=>e) (o,q,) {{(n,r,),j,p,m},(o,q,),λ_ _⟨a,j,b,c⟩k=>{a,j,b,c.at' k}};show J
def aO.thaw(I:aO X g i H s)(h:H d=some (dE X.prog X.w d f ep)):aO X g i (aH H d (.dK f)) s:=by obtain⟨⟨⟨a,b⟩,c,j,k⟩,⟨o,l⟩,_⟩:=I.hok d _ h;have J:=I.write (h':=s.heap) (t':=s.toks) (x:=d) (e:=d) (o:=.dK f) (by rw[h];show True.intro) (.inl ()) (λ_ _ _ e=>e) (o,l,) (b,a,c,j,k.dictOf,);show J
end
def MD(P:Pa)(w:World)(d:Addr)(a:List (bZ×V))(ep:Nat)(f:bZ×V->V):It:={λi H=>H d=some (dE P w d a ep)/\i<a.length,λi H x b=>b=H/\a[i]?.map f=some x,λi H=>H d=some (dE P w d a ep)/\a.length<=i}
def BO{P:Pa}{w:World}{K:O6}{M:Expr}(d g:Addr)(a:List (bZ×V))(ep:Nat):vV P w K M (MD P w d a ep λp=>kV p.1) [g] g (λi h=>h.IsKeyIter g d i a.length ep)where
 mem:=by simp
 obj:=λi h st b l=>by
  have e:b=g:=by simpa using l
  subst e;obtain⟨o,e,c,dt⟩:=st;show{o,e,λv z=>by rw[dt]at z;cases z}
 keep:=λi h h'⟨o,e,r⟩k=>{o,k g (by simp) o e,r}
 item:=by intro X t x y hc i j s J H E I n st hg;subst t x y;obtain⟨hd,hi⟩:=hg;obtain⟨⟨_,A,q,B⟩,_⟩:=I.hok d _ hd;have f:a.length=A.length:=Paired.length q;obtain⟨C,f1,f2,f3,D,F⟩:=n g (by simp);have L:a[i]?=some a[i]:=h_ hi;obtain⟨u,N,ru⟩:=xM q i a[i].1 a[i].2 L;have st:s.heap.IsKeyIter g d i a.length ep:=st;rw[f]at st;show wpAny_pyNext_dict_item st B N λG h' O m Q=>?_;have I1:aO X j J H {s with heap:=h'}:=I.turned (t':=s.toks) (λb o l e=>(Q.2 b l).trans e) C f1 f3 D F;obtain⟨o,e,c,dt⟩:=id m;rw[<-f]at m;show{G,(),wO (s:={s with heap:=h'}) e c dt (by decide) {kV a[i].1,H,I1,xH O,{(),by rw[L];rfl},m,λb l=>(n b l).1}}
 done:=by intro X t x y hc i j s J H E I n st hg;subst t x y;obtain⟨hd,hi⟩:=hg;obtain⟨⟨_,A,q,B⟩,_⟩:=I.hok d _ hd;have f:a.length=A.length:=Paired.length q;obtain⟨C,f1,f2,f3,D,F⟩:=n g (by simp);have st:s.heap.IsKeyIter g d i a.length ep:=st;rw[f]at st;show wpAny_pyNext_dict_end (I.ok.hd hc) st B (rV (by lia)) λh' S=>{(),I.turned (t':=s.toks) (λb o l e=>S b o l e) C f1 f3 D F}
 self:=λ_ _ _ _ _ st h=>wpAny_pyIter_keyiter st h
def BM{P:Pa}{w:World}{K:O6}{L:Expr}(d g:Addr)(a:List (bZ×V))(ep:Nat):vV P w K L (MD P w d a ep λp=>p.2) [g] g (λi h=>h.IsValIter g d i a.length ep)where
 mem:=by simp
 obj:=λi h st b l=>by
  have e:b=g:=by simpa using l
  subst e;obtain⟨o,e,c,dt⟩:=st;show{o,e,λv z=>by rw[dt]at z;cases z}
 keep:=λi h h'⟨o,e,r⟩k=>{o,k g (by simp) o e,r}
 item:=by intro X t x y hc i j s G H E I n st hg;subst t x y;obtain⟨hd,hi⟩:=hg;obtain⟨⟨_,A,q,B⟩,_⟩:=I.hok d _ hd;have f:a.length=A.length:=Paired.length q;obtain⟨C,f1,f2,f3,D,F⟩:=n g (by simp);have J:a[i]?=some a[i]:=h_ hi;obtain⟨u,M,ru⟩:=xM q i a[i].1 a[i].2 J;have st:s.heap.IsValIter g d i a.length ep:=st;rw[f]at st;show wpAny_pyNext_values_item st B M λh' m N=>?_;have I1:aO X j G H {s with heap:=h'}:=I.turned (t':=s.toks) (λb o l e=>(N.2 b l).trans e) C f1 f3 D F;obtain⟨o,e,c,dt⟩:=id m;rw[<-f]at m;show{u,(),wO (s:={s with heap:=h'}) e c dt (by decide) {a[i].2,H,I1,ru,{(),by rw[J];rfl},m,λb l=>(n b l).1}}
 done:=by intro X t x y hc i j s G H E I n st hg;subst t x y;obtain⟨hd,hi⟩:=hg;obtain⟨⟨_,A,q,B⟩,_⟩:=I.hok d _ hd;have f:a.length=A.length:=Paired.length q;obtain⟨C,f1,f2,f3,D,F⟩:=n g (by simp);have st:s.heap.IsValIter g d i a.length ep:=st;rw[f]at st;show wpAny_pyNext_values_end (I.ok.hd hc) st B (rV (by lia)) λh' Q=>{(),I.turned (t':=s.toks) (λb o l e=>Q b o l e) C f1 f3 D F}
 self:=λ_ _ _ _ _ st h=>wpAny_pyIter_valiter st h
section
variable{X:Cx}{P:Pa}{w:World}{j l o e:Expr}{a g te:TE}
def LZ(P:Pa)(w:World)(a:TE):TI:=λh H R=>a h H λx f=>∃d b,x=.ref d/\f d=some (.dK b)/\∀ep,R (MD P w d b ep λp=>kV p.1) (aH f d (dE P w d b ep))
def GI(r:PE X l a)(t:X.prog=P:=by rfl)(u:X.w=w:=by rfl):PI X j l (LZ P w a):=by
 subst t u;intro f s y H R I h;show cy (r f s y H _ I h) λv n z=>?_;obtain⟨x,G,I1,A,d,k,e,hd,q⟩:=z;subst e;obtain rfl:v=Value.ref d:=A;obtain⟨ep,B,C,D,E,p⟩:=I1.walk hd;have m:k.length=B.length:=Paired.length C;show wpAny_pyIter_dict E D ?_;show{n.heap.objs.size,[n.heap.objs.size],_,_,_,(),p.kept (t':=n.toks) λb o e=>d_ _ e,BO d _ k ep,{_,j_ _ (),(),by rw[m];rfl},λb F=>?_,q ep};have e:b=n.heap.objs.size:=by simpa using F
 subst e;show p.fpOk (e_ _) (p.hok.fresh (e_ _))
def LV(P:Pa)(w:World)(g:TE):TI:=λh H R=>g h H λx f=>∃d b,x=.ref d/\f d=some (.dK b)/\∀ep,R (MD P w d b ep λp=>p.2) (aH f d (dE P w d b ep))
def MM(P:Pa)(w:World)(t:TE):TE:=λh H Q=>t h H λv f=>∃d b ep,f d=some (dE P w d b ep)/\Q v (aH f d (.dK b))
def Ai(h:PE X e te)(f:X.prog=P:=by rfl)(m:X.w=w:=by rfl):PE X e (MM P w te):=by subst f m;intro b s k H Q I n;show cy (h b s k H _ I n) λu x p=>?_;obtain⟨v,y,I1,r,d,t,ep,hd,q⟩:=p;show{v,_,I1.thaw hd,r,q}
def Lb(P:Pa)(w:World)(t:TS):TS:=λD k H=>t {D with nx:=λf h=>∃d b ep,h d=some (dE P w d b ep)/\D.nx f (aH h d (.dK b))} k H
def Ae{st:Stmt}{t:TS}(h:PS X st t)(m:X.prog=P:=by rfl)(n:X.w=w:=by rfl):PS X st (Lb P w t):=by subst m n;intro b s p H D I r;show wpAny_mono (h b s p H _ I r) (λf y z=>?_) λ_ _ z=>z;cases f with|next=>obtain⟨k,A,v,d,x,ep,hd,q⟩:=z;show{k,_,v.thaw hd,q}|brk=>show z|cont=>show z|ret u=>show z
end
section
variable{X:Cx}{P:Pa}{w:World}{j o e:Expr}{g ty:TE}{f c:Pos}
def GG(C:PE X o g)(D:X.prog=P:=by rfl)(E:X.w=w:=by rfl)(m:attributeBase o "values" X.env (eval o X.env)=eval o X.env:=by rfl)(n:(f.endLine==c.line)=true:=by rfl):PI X j (.Call (.Attribute o "values" f) [] [] c) (LV P w g):=by
 subst D E;intro k s G H R I h;show wpAny_Call_method0_late m n (cy (C k s G H _ I h) λv a J=>?_);obtain⟨x,U,I1,K,d,r,e,hd,q⟩:=J;subst e;obtain rfl:v=Value.ref d:=K;obtain⟨ep,B,L,t,M,N⟩:=I1.walk hd;have u:r.length=B.length:=Paired.length L;obtain⟨ob,es,y,O,_⟩:=id t;show{"dict","dict.values",PySem.F.plainAttrs_dict,PySem.F.slot_dict_values,PySem.F.type_dict_values,t.dictOf.typeIs,?_,t0 () (PySem.evalArgs_none (Nh PySem.F.slot_dict_values t.dictOf.typeIs PySem.F.entry_dict_values (PySem.F.args_dict_values_1 _) (meets_dict_values (aU X.prog X.w) d M) {(B,t.dictOf,),?_}))}
 ·intro b z;cases z;show(ob,y,O.2.1,)
 ·have Q:(a.heap.push {cls:=.type "dict_values",data:=.fields #[.ref d]}).IsValuesView a.heap.objs.size d:={_,j_ _ (),(),()};change wpAny _ _ (pyIter (.ref a.heap.objs.size)) _ _ _;have A:=N.kept (h':=a.heap.push {cls:=.type "dict_values",data:=.fields #[.ref d]}) (t':=a.toks) λb o e=>d_ _ e;show wpAny_pyIter_values (s:={a with heap:=a.heap.push {cls:=.type "dict_values",data:=.fields #[.ref d]}}) Q (t.push _) ?_;show{_,[(a.heap.push {cls:=.type "dict_values",data:=.fields #[.ref d]}).objs.size],_,_,_,(),A.kept (t':=a.toks) λb o e=>d_ _ e,BM d _ r ep,{_,j_ _ (),(),by rw[u];rfl},λb T=>?_,q ep};have e:b=(a.heap.push {cls:=.type "dict_values",data:=.fields #[.ref d]}).objs.size:=by simpa using T
  subst e;show A.fpOk (e_ _) (A.hok.fresh (e_ _))
def K5(K:O6)(a:Addr)(ty:TE):TE:=λd H Q=>ty d H λy b=>∃x r,y=.str x/\PySem.W.nsIn K a x=some r/\((r=none/\Q .non b)\/∃u v,r=some u/\aV v u/\Q v b)
def GL(K:O6)(L:X.K=K)(hd:HN K X.w.params a)(hg:Gl X x)(hm:X.mg x=some (.ref a))(M:PE X e ty)(m:M1 X (.Name x d) "get" f e c)(B:(x==("__debug__":Str))=false:=by decide):PE X (.Call (.Attribute (.Name x d) "get" f) [e] [] c) (K5 K a ty):=by
 subst L;intro k s E H Q I h;obtain⟨lo,es,n,A,G⟩:=hd;have hn:PE X (.Name x d) (tC (.ref a)):=Bj hg hm () B;show NC m.base m.few m.line PySem.F.plainAttrs_dict PySem.F.slot_dict_get PySem.F.type_dict_get (cy (hn k s E H (λv N=>v=.ref a/\N=H) I {(),()}) λu O⟨z,R,I1,S,T,U⟩=>?_);subst T U;obtain rfl:u=Value.ref a:=S;have C:=PySem.W.mapOf_K (prog:=X.prog) (w:=X.w) I1.kIn A G;show{C.typeIs,λb z=>by cases z;show{_,I1.kIn _ _ A,()},?_};rw[m.trees];show t0 () (z4 (to (cy (M k O E R _ I1 h) λiv s2 V=>?_)));obtain⟨y,J,D,Y,Z,r,ey,hu,q2⟩:=V;show z_ ?_;subst ey;obtain⟨tk,rfl⟩:=Y;have t:=PySem.W.mapOf_K (prog:=X.prog) (w:=X.w) D.kIn A G;show Nh PySem.F.slot_dict_get t.typeIs PySem.F.entry_dict_get (PySem.F.args_dict_get_2 _ _) (meets_dict_get (strKind X.prog X.w) a (PySem.strKind_is X.prog X.w Z tk) lo) {_,t,?_};rw[PySem.W.find_K A hu];rcases q2 with⟨rfl,q⟩|⟨u',v',rfl,rv,q⟩
 ·show{.non,J,D.tok _,(),q}
 ·show{v',J,D.tok _,rv,q}
end
end L2
namespace L2
open PySem PySem.W PyProof.Rows
section
variable{M:Model}{A:Around}{E:O7}
def Cn{C D N J:Addr}{nm q m L:Str}{bs n o a:O_}{hd P sub R p r u c v i}{dd w:Option Addr}{S T W X Z x y z B F:Option Value}{id G:String}{s:Shared}{e:Addr}{H:Obj}{Q:Bool->Shared->Prop}(hC:s.heap.get? C=some (excClassObj nm q C N bs o hd P sub R p dd S T W X Z id))(I:s.heap.get? D=some (excClassObj m L D J n a r u c v i w x y z B F G))(he:s.heap.get? e=some H)(j:H.cls=.ref C)(hb:a.contains (.type "BaseException")=true)(l:Q ((Value.ref C::o).contains (.ref D)) s):wpAny M A (excMatches (.ref e) (.ref D)) Q E s:=by
 obtain⟨h,g,d,t,os⟩:=s;have b:(Value.ref D::a).contains (.type "BaseException")=true:=by rw[List.contains_cons,hb,Bool.or_true]
 have f:=tc_notTuple;unfold excMatches
 repeat(first|(with_reducible show wpAny_loadPart_at he ?_;rw[j])|with_reducible show wpAny_loadPart_at I ?_|(with_reducible show wpAny_isSubtype_exc I ?_;rw[b])|(with_reducible show wpAny_isSubtype_exc hC ?_)|wp_step)
 cases hc:(Value.ref C::o).contains (Value.ref D)with|true=>rw[hc]at l;rw[md ()];show f_ (f_ (f_ l))|false=>rw[hc]at l;rw[me nn];show f_ (f_ (f_ l))
end
def Ku(K:O6)(C:Addr)(a:O_):Prop:=∃b dd cd sl,K.lookup C=some {b,dd,.cls cd,sl}/\cd.mro=.ref C::a
def Ku.is{K:O6}{C:Addr}{d c:O_}{h:Heap}{o:Obj}{a:ClassData}(m:Ku K C d)(kin:K.In h)(e:h.get? C=some o)(hd:o.data=.cls a)(hm:a.mro=.ref C::c):c=d:=by obtain⟨f,dd,cd,sl,l,r⟩:=m;have b:=kin _ _ l;rw[e]at b;cases b;have hd:Data.cls cd=Data.cls a:=hd;cases hd;rw[hm]at r;show(List.cons.inj r).2
def FM(K:O6)(C D:Addr):Prop:=∃a,Ku K C a/\(Value.ref C::a).contains (.ref D)=false
def KY(f:XK->TS)(g:Addr)(a:TS)(h:Addr)(c:TS):TS:=λD b H=>f (λd _ e=>(d=.ref g/\a D b e)\/(d=.ref h/\c D b e)) D b H
def GD{X:Cx}{st b1 b2:Stmt}{a c:List Stmt}{tb:XK->TS}{j l:TS}{r t:Addr}{u v:Str}{y A B C G:Pos}(J:X.stack=X.env::X.outer)(hf:X.env.frame=some X.env.locals)(M:xh X.K r)(P:Gl X u)(Q:X.mg u=some (.ref r))(R:xh X.K t)(S:Gl X v)(W:X.mg v=some (.ref t))(Z:FM X.K t r)(hb:∀(E:XK)(d:O8)(m:St)(x:O7),my (v8 X.prog X.w) (X.wish x) E d m->Ks (X.wish x) d m st (tb E))(aa:∀i,ve (X.inExc i) (b1::a) j)(ad:∀i,ve (X.inExc i) (b2::c) l)(n:(u==("__debug__":Str))=false:=by decide)(o:(v==("__debug__":Str))=false:=by decide):PS X (.Try [st] [.ExceptHandler (some (.Name u y)) none (b1::a) A,.ExceptHandler (some (.Name v B)) none (b2::c) C] [] [] G) (KY tb r j t l):=by
 intro d s m H D I h;obtain⟨O,Z,U⟩:=Z;show C4 J hf (λE p m x hx=>Jy (hb E p m x hx)) I h λi C' H' s5 b L=>?_;obtain⟨bm,N,nm,q,bs,hd,sn,sub,ab,as,dd,k0,k1,k2,k3,k5,mN,k,hN,ax,T⟩:=M.at I.mod.kin;obtain⟨V,N',a3,q',a5,a6,a7,Y,a8,an,a9,ba,bb,bc,bh,bi,bl,e,bt,ap,T'⟩:=R.at I.mod.kin;obtain⟨ob,g,f⟩:=L.obj;show wpAny_handleBy_cons (codeAny_handlers_test (mL (L.inv.inExc i) P Q ?_ n)) (by intro z;cases z);rcases b with⟨rfl,b⟩|⟨rfl,b⟩
 ·show wpAny_excMatches_sub_self (L.inv.bk _ _ k) g f (T.hasType PySem.F.excBase_ValueError.hasBase) (codeAny_handlers_suite (L.run aa b λ_ _ z=>z))
 ·show Cn (L.inv.bk _ _ e) (L.inv.bk _ _ k) g f (T.hasType PySem.F.excBase_ValueError.hasBase) ?_;obtain rfl:V=O:=Z.is I.mod.kin e () ();rw[U];show wpAny_handleBy_cons (codeAny_handlers_test (mL (L.inv.inExc i) S W ?_ o)) (by intro z;cases z);show wpAny_excMatches_sub_self (L.inv.bk _ _ e) g f (T'.hasType PySem.F.excBase_ValueError.hasBase) (codeAny_handlers_suite (L.run ad b λ_ _ z=>z))
end L2
namespace L2
open PySem PySem.Spec PyProof.Rows PySem.W
section
variable{X:Cx}
def LU(K:O6)(e:TA):TI:=λb H R=>e b H λf a=>∃t l g h,f=[.ref t,.ref l]/\aY K a t g/\∃c,HJ c K a l h/\R (Mm c K t l) a
def GF(K:O6)(D:X.K=K){i:Pc}{E:Nat}{j:Pos}{a b:Expr}{z:TA}{p m:Pos}(hg:Gl X "zip")(hm:X.mg "zip"=none)(F:PA X [a,b] z)(G:starEach [a,b] X.env=[(false,eval a X.env),(false,eval b X.env)]:=by rfl)(n:starEach [b] X.env=[(false,eval b X.env)]:=by rfl):PI X (.Tuple i E j) (.Call (.Name "zip" p) [a,b] [] m) (LU K z):=by
 subst D;intro k s J H R I h;show y_ (k7 I hg hm Fs (C2 (cy (F m k s J H _ I h) λus f L=>?_) (by rw[G,n]) (by rw[n];rfl)));obtain⟨vs,M,I1,N,t,l,xs,ys,e,w,c,x,q⟩:=L;subst e;obtain⟨u,v,rfl,rt,O⟩:=wc N;obtain rfl:u=Value.ref t:=rt;obtain rfl:v=Value.ref l:=O;obtain⟨y,rv,pl,hz⟩:=I1.tuple w;obtain⟨A,P,o,Q⟩:=I1.sqE x;obtain⟨o1,S,_⟩:=id pl;obtain⟨o2,T,_⟩:=id o;show CI (show f.heap.IsTuple t y.toArray from pl) o λg B U V Y Z kk=>?_;show wpAny_pyIter_zip B {_,[f.heap.objs.size+4,f.heap.objs.size+2,f.heap.objs.size+3,f.heap.objs.size,f.heap.objs.size+1],_,_,M,(),I1.kept (t':=f.toks) kk,C0 (ktu_apart f.heap.objs.size t l (m3 S) (m3 T)),{B,U,{_,_,V},Y,Z},λb C=>?_,q};have r:f.heap.objs.size<=b:=by simp only[vu,rl,Nt]at C;rcases C with rfl|rfl|rfl|rfl|rfl<;>first|show e_ _|show Nat.le_add_right _ _
 show I1.fpOk r (I1.hok.fresh r)
def CH{K:O6}{a l:Addr}{xs ys:List V}{g:TG}{ds:Pe}{k:Nat}{tc:TT}{te:TE}{E:St}{j:Hp}{F:Addr->Hp->Prop}(Pv:Addr->Nat->List V->Hp->Prop)(r:aR K j l ys\/aY K j l ys)(h0:∀D,j D=none->Pv D 0 [] (aH j D (.lst [])))(w:xs.length=ys.length)(G:∀D i f h,Pv D i f h->aY K h a xs/\am j h)(H:∀D i x y f h T,j D=none->xs[i]?=some x->ys[i]?=some y->Pv D i f h->h T=none->g (.ref T) (iQ ds k E) (aH h T (.tup [x,y])) λn A=>tc n A λb t=>if b=true then te n t λy u=>u D=some (.lst f)/\f.length<sizeLine/\∃o,o<xs.length-i/\o=xs.length-(i+1)/\i+1<=xs.length/\Pv D (i+1) (f++[y]) (aH u D (.lst (f++[y])))else∃o,o<xs.length-i/\o=xs.length-(i+1)/\i+1<=xs.length/\Pv D (i+1) f t)(hd:∀D f h,j D=none->Pv D xs.length f h->F D h):∃c,HJ c K j l ys/\∀D,j D=none->∃W:Nat->Nat->List V->Hp->Prop,(∃m,W 0 m [] (aH j D (.lst [])))/\∀i m f h,W i m f h->((Mm c K a l).stop i h/\F D h)\/((Mm c K a l).go i h/\∀x B,(Mm c K a l).yld i h x B->g x (iQ ds k E) B λn A=>tc n A λb t=>if b=true then te n t λy u=>u D=some (.lst f)/\f.length<sizeLine/\∃o,o<m/\W (i+1) o (f++[y]) (aH u D (.lst (f++[y])))else∃o,o<m/\W (i+1) o f t):=by
 obtain⟨c,hc,I⟩:∃c,HJ c K j l ys/\∀h,am j h->HJ c K h l ys:=by
  rcases r with r|r
  ·show{true,r,λ_ z=>z.seq r}
  ·show{false,r,λ_ z=>am.tseq z r}
 show{c,hc,λD C=>{λi m f h=>m=xs.length-i/\i<=xs.length/\Pv D i f h,{_,(),ov _,h0 D C},?_}};rintro i m f h⟨rfl,hi,p⟩;obtain⟨q,v⟩:=G D i f h p;have v:=I h v
 by_cases s:i<xs.length
 ·show .inr {{xs,ys,xs[i],ys[i],q,v,by simp[s],by simp[<-w,s]},λx B y=>?_};obtain⟨T,J,L,M,e,N,y⟩:=y;subst e N;obtain⟨O,P⟩:=y xs ys q v;show H D i J L f _ T C O P p M
 ·have e:i=xs.length:=Nat.le_antisymm hi (OX s);subst e;show .inl {{xs,q,e_ _},hd D f h C p}
end
def E9(hh:A.handled=none)(c t:Addr)(ne:t≠c)(a:Pd):Draws P w A c [c,t] a.size (λi v=>a[i]?=some v) (λi h=>h.IsTupleIter c t i/\h.IsTuple t a)where
 live:=λ_ _ st=>let⟨o,e,_⟩:=st.1;(o,e,)
 frame:=λ_ _ _ st k=>{st.1.at λo e=>k c (by simp) o e,st.2.at λo e=>k t (by simp) o e}
 item:=λi s Q E hi st q=>sU st.1 st.2 (v:=a[i]) (by simp[hi]) λg d b=>q _ g s.toks (by simp[hi]) {d,st.2.extBut b.extBut ne} b
 done:=λs Q E st q=>yj hh st.1 st.2 (by simp) q
def zd(t:Addr)(a:Pd)(n:Nat)(f:Option Addr)(sl:Array (Option Value)):Meets (Builtin.«enumerate.__new__» {[.type "enumerate",.ref t],[]}) (λ_ R s=>s.heap.get? t=some {cls:=.type "tuple",dict:=f,data:=.seq a n,slots:=sl}/\R (.ok (.ret (.ref (FR s.heap t).objs.size))) {s with heap:=(FR s.heap t).push {cls:=.type "enumerate",data:=.fields #[.none,.bool false,.ref s.heap.objs.size,rawInt 0,.none,.none]}}):=.of_wp λprog w A R s h=>by
  obtain⟨i,g,d,tk,os⟩:=s;obtain⟨b,h⟩:=h;have f1:=sub_enumerate;have e:Heap.IsTuple (Shared.heap (i,g,d,tk,os,)) t a:={_,b,(),n,()}
  wp_walk using Oc b
  show wpAny_stack_any λst=>f_ ?_
  split
  ·rename_i c _ _ _ _ _;cases(c==Value.type "enumerate")<;>(wp_walk using Oc b,Nx e)<;>show{_,(),h}
  ·wp_walk using Oc b,Nx e
   show{_,(),h}
def AR(i:s.heap.IsTuple t a)(q:∀g,IsEnum g (s.heap.objs.size+1) s.heap.objs.size 0 .none->g.IsTupleIter s.heap.objs.size t 0->(∀b o,s.heap.get? b=some o->g.get? b=some o)->Q (.ref (s.heap.objs.size+1)) {s with heap:=g}):wpAny (model P w) A (call (.type "enumerate") [.ref t]) Q E s:=by
 obtain⟨⟨c,j,dt,sl⟩,k,d,n,e⟩:=i;simp only at d e;subst d e;show callType_new F.called_enumerate (by decide) (F.typeCall_enumerate_1 _) (F.newCall_enumerate_1 _) (λob=>F.args_object_init_2 ob _) F.entry_enumerate_new (zd t a n j sl) {k,?_};have f:(FR s.heap t).objs.size=s.heap.objs.size+1:=rf ..;change _/\_;rw[f];have h:IsEnum ((FR s.heap t).push {cls:=.type "enumerate",data:=.fields #[.none,.bool false,.ref s.heap.objs.size,rawInt 0,.none,.none]}) (s.heap.objs.size+1) s.heap.objs.size 0 .none:=by have z:=j_ (FR s.heap t) (o:={cls:=.type "enumerate",data:=.fields #[.none,.bool false,.ref s.heap.objs.size,rawInt 0,.none,.none]}) ();rw[f]at z;show z
 show{{_,h,()},q _ h {_,d_ _ (j_ _ ()),(),()} λb o x=>d_ _ (d_ _ x)}
def Ite(K:O6)(t:Addr):It:={λi H=>∃a x,aY K H t a/\a[i]?=some x,λi H v b=>∃T x,H T=none/\v=.ref T/\b=aH H T (.tup [.int i,x])/\∀a,aY K H t a->a[i]?=some x,λi H=>∃a,aY K H t a/\a.length=i}
def BP{P:Pa}{w:World}{K:O6}{q:Pc}{Z:Nat}{D:Pos}{e a t:Addr}(n1:e≠a)(n2:t≠a)(n3:t≠e):vV P w K (.Tuple q Z D) (Ite K t) [e,a] e (λi h=>(∃d,IsEnum h e a i d)/\h.IsTupleIter a t i)where
 mem:=by simp
 obj:=λi h st b j=>by
  obtain⟨⟨_,a1⟩,ob,a2,_,d2⟩:=st;simp only[vu,rl,Nt]at j;rcases j with rfl|rfl
  ·show{_,a1,λv z=>by cases z}
  ·show{_,a2,λv z=>by rw[d2]at z;cases z}
 keep:=λi h h' st k=>by obtain⟨⟨d,a1⟩,a2⟩:=st;show{{d,k e (by simp) _ a1},a2.at λob z=>k a (by simp) ob z}
 item:=by
  intro X F G J hc i l s Q H E I y st hg;subst F G J;obtain⟨U,x,B,R⟩:=hg;obtain⟨f,L,p,V⟩:=I.tuple B;obtain⟨u,S,ru⟩:=L.get R;obtain⟨⟨d,a1⟩,a2⟩:=st;have hi:i<f.toArray.size:=by rw[m_];show(c_.mp S).1
  have m:X.A.in1.handled=none:=by simp[I.ok.hd hc]
  show wpAny_pyNext_enum_itemD (E9 m a t n2 f.toArray) a1 (a2,p,) hi n1 (by simp[n1,p_ n3]) λv g tk C b1 b2 b3 b4 off=>?_;have Y:v=u:=by have C:f.toArray[i]?=some v:=C;rw[OB,S]at C;show(n_ C).symm
  subst Y;show{_,(),wpAny_letOwnedTupleGo_enum b1 λg' c1 M=>?_};have lt:∀c∈[e,a],c≠s.heap.objs.size:=λc r z=>by
   have hs:∃ob,s.heap.get? c=some ob:=by
    simp only[vu,rl,Nt]at r;rcases r with rfl|rfl
    ·show{_,a1}
    ·obtain⟨ob,z,_⟩:=a2;show(ob,z,)
   obtain⟨ob,h⟩:=hs;rw[z]at h;show absurd (m3 h) (sg _)
  have fresh:H s.heap.objs.size=none:=I.hok.fresh (e_ _);have I1:aO X l Q (aH H s.heap.objs.size (.tup [.int i,x])) {s with heap:=s.heap.push {cls:=.type "tuple",data:=.seq #[.int i tk,v]},toks:=tk+1}:=I.laid (λb o z=>d_ _ z) (e_ _) {by rw[mo];simp,[.int i tk,v],.cons {tk,()} (.cons ru .nil),{_,j_ _ (),(),_,()}}
  have I2:=kG (h':=g') (t':=tk+1) (ch:=[e,a]) I1 (λb o j z=>?_) (λb j=>?_)
  ·show{.ref s.heap.objs.size,_,I2,(),{_,x,fresh,(),(),λaa h1=>by rw[I.tuple_inj h1 B];show R},{{_,by simpa using c1},b2.1.extBut M.extBut (p_ n1)},λb j=>?_};rw[ak (lt b j)];show(y b j).1
  ·have n:b≠e/\b≠a:=by simpa using j
   by_cases T:b=s.heap.objs.size
   ·subst T;rw[j_ _ ()]at z;cases z;show M.extBut _ _ n.1 b3
   ·have z':s.heap.get? b=some o:=by
     rcases NN z with⟨N,_⟩|N
     ·show absurd N T
     ·show N
    show M.extBut _ _ n.1 (off b o n.1 n.2 z')
  ·obtain⟨f0,f1⟩:=y b j;show{by rw[ak (lt b j)];show f0,f1}
 done:=by
  intro X F G J hc i l s Q H E I y st hg;subst F G J;obtain⟨U,B,rfl⟩:=hg;obtain⟨f,L,p,V⟩:=I.tuple B;have hl:=L.length;obtain⟨⟨d,a1⟩,a2⟩:=st;have m:X.A.in1.handled=none:=by simp[I.ok.hd hc]
  have O:s.heap.IsTupleIter a t f.toArray.size:=by rw[m_,<-hl];show a2
  show wpAny_pyNext_enum_endD (E9 m a t n2 f.toArray) a1 (O,p,) λg off=>{(),kG (t':=s.toks) (ch:=[e,a]) I (λb o j z=>?_) y};have n:b≠e/\b≠a:=by simpa using j
  show off b o n.2 z
 self:=λ_ _ _ _ _ st h=>by obtain⟨⟨d,a1⟩,_⟩:=st;show wpAny_pyIter_enum a1 h
section
variable{X:Cx}
def L0(K:O6)(c:TA):TI:=λb H R=>c b H λd a=>∃t e,d=[.ref t]/\aY K a t e/\R (Ite K t) a
def GJ(K:O6)(r:X.K=K){c:Pc}{v:Nat}{d:Pos}{a:Expr}{m:TA}{p f:Pos}(hg:Gl X "enumerate")(hm:X.mg "enumerate"=none)(w:PA X [a] m)(x:starEach [a] X.env=[(false,eval a X.env)]:=by rfl):PI X (.Tuple c v d) (.Call (.Name "enumerate" p) [a] [] f) (L0 K m):=by
 subst r;intro i s y H R I h;show y_ (k7 I hg hm L2.uX (C2 (cy (w f i s y H _ I h) λG j⟨J,z,I1,A,B⟩=>?_) (by rw[x];rfl) (by rfl)));obtain⟨t,L,e,C,q⟩:=B;subst e;obtain⟨u,rfl,rt⟩:=jY A;obtain rfl:u=Value.ref t:=rt;obtain⟨l,M,pl,N⟩:=I1.tuple C;obtain⟨o1,D,_⟩:=id pl;have lt:=m3 D;show AR (show j.heap.IsTuple t l.toArray from pl) λg n E F=>?_;show wpAny_pyIter_enum n {_,[j.heap.objs.size+1,j.heap.objs.size],_,_,z,(),I1.kept (t':=j.toks) F,BP (t:=t) (q_ (w_ _)) (nB lt) (nB (F_ lt)),{{_,n},E},λb o=>?_,q};have k:j.heap.objs.size<=b:=by
  simp only[vu,rl,Nt]at o;rcases o with rfl|rfl
  ·show Nat.le_add_right _ _
  ·show e_ _
 show I1.fpOk k (I1.hok.fresh k)
end
def Iti(P:Pa)(w:World)(d:Addr)(a:List (bZ×V))(ep:Nat):It:={λi H=>H d=some (dE P w d a ep)/\i<a.length,λi H x b=>∃T k v,H T=none/\x=.ref T/\b=aH H T (.tup [kV k,v])/\a[i]?=some (k,v),λi H=>H d=some (dE P w d a ep)/\a.length<=i}
def zU{P:Pa}{w:World}{K:O6}{l:Pc}{Q:Nat}{t:Pos}(d f:Addr)(a:List (bZ×V))(ep:Nat):vV P w K (.Tuple l Q t) (Iti P w d a ep) [f] f (λi h=>∃ok m,IsItemIter h f d i a.length ep ok m)where
 mem:=by simp
 obj:=λi h st b g=>by
  have e:b=f:=by simpa using g
  subst e;obtain⟨_,_,e⟩:=st;show{_,e,λv z=>by cases z}
 keep:=λi h h'⟨ok,m,e⟩k=>{ok,m,k f (by simp) _ e}
 item:=by
  intro X x y A hc i j s J H E I p st hg;subst x y A;obtain⟨hd,hi⟩:=hg;obtain⟨⟨_,B,q,C⟩,_⟩:=I.hok d _ hd;have c:a.length=B.length:=Paired.length q;have L:a[i]?=some a[i]:=h_ hi;obtain⟨u,R,ru⟩:=xM q i a[i].1 a[i].2 L;obtain⟨ok,m,st⟩:=st;have lt:f<s.heap.objs.size:=m3 st;rw[c]at st;show wpAny_pyNext_items_item st C R λn h' S out T hz U=>?_;show{_,(),wpAny_letOwnedTupleGo_items out λY M N=>?_};rw[<-c]at M;have fresh:H s.heap.objs.size=none:=I.hok.fresh (e_ _);have I1:aO X j J (aH H s.heap.objs.size (.tup [kV a[i].1,a[i].2])) {s with heap:=s.heap.push {cls:=.type "tuple",data:=.seq #[n,u]}}:=I.laid (t':=s.toks) (λb o z=>d_ _ z) (e_ _) {by rw[mo];simp,[n,u],.cons (xH S) (.cons ru .nil),{_,j_ _ (),(),_,()}}
  have Z:=kG (h':=Y) (t':=s.toks) (ch:=[f]) I1 (λb o g z=>?_) (λb g=>?_)
  ·show{.ref s.heap.objs.size,_,Z,(),{_,a[i].1,a[i].2,fresh,(),(),L},{_,_,M},λb g=>?_};have e:b=f:=by simpa using g
   subst e;rw[ak (nB lt)];show(p b g).1
  ·have D:b≠f:=by simpa using g
   by_cases r:b=s.heap.objs.size
   ·subst r;rw[j_ _ ()]at z;cases z;show N.extBut _ _ D T
   ·have z':s.heap.get? b=some o:=by
     rcases NN z with⟨F,_⟩|F
     ·show absurd F r
     ·show F
    show N.extBut _ _ D (U b o D z')
  ·have e:b=f:=by simpa using g
   subst e;obtain⟨G,f1⟩:=p b g;show{by rw[ak (nB lt)];show G,f1}
 done:=by intro X x y A hc i j s J H E I p st hg;subst x y A;obtain⟨hd,hi⟩:=hg;obtain⟨⟨_,B,q,C⟩,_⟩:=I.hok d _ hd;have c:a.length=B.length:=Paired.length q;obtain⟨G,f1,f2,f3,f4,f5⟩:=p f (by simp);obtain⟨ok,m,st⟩:=st;rw[c]at st;show wpAny_pyNext_items_end (I.ok.hd hc) st C (rV (by omega)) λh' r=>{(),I.turned (t':=s.toks) (λb o g e=>r b o g e) G f1 f3 f4 f5}
 self:=λ_ _ _ _ _ st h=>by obtain⟨_,_,st⟩:=st;show kcp_self st h
section
variable{X:Cx}{P:Pa}{w:World}{o:Expr}{i:TE}{c a g:Pos}{f:Pc}{j:Nat}
def J3(P:Pa)(w:World)(i:TE):TI:=λh H R=>i h H λx e=>∃d b,x=.ref d/\e d=some (.dK b)/\∀ep,R (Iti P w d b ep) (aH e d (dE P w d b ep))
def pE(B:PE X o i)(C:X.prog=P:=by rfl)(D:X.w=w:=by rfl)(l:attributeBase o "items" X.env (eval o X.env)=eval o X.env:=by rfl)(m:(c.endLine==a.line)=true:=by rfl):PI X (.Tuple f j g) (.Call (.Attribute o "items" c) [] [] a) (J3 P w i):=by
 subst C D;intro n s E H R I h;show wpAny_Call_method0_late l m (cy (B n s E H _ I h) λv k G=>?_);obtain⟨x,T,I1,J,d,p,e,hd,q⟩:=G;subst e;obtain rfl:v=Value.ref d:=J;obtain⟨ep,A,K,r,L,M⟩:=I1.walk hd;have t:p.length=A.length:=Paired.length K;obtain⟨ob,es,u,N,_⟩:=id r;show{"dict","dict.items",PySem.F.plainAttrs_dict,PySem.F.slot_dict_items,PySem.F.type_dict_items,r.dictOf.typeIs,?_,t0 () (PySem.evalArgs_none (Nh PySem.F.slot_dict_items r.dictOf.typeIs PySem.F.entry_dict_items (PySem.F.args_dict_items_1 _) (meets_dict_items (aU X.prog X.w) d L) {(A,r.dictOf,),?_}))}
 ·intro b z;cases z;show(ob,u,N.2.1,)
 ·have O:(k.heap.push {cls:=.type "dict_items",data:=.fields #[.ref d]}).IsItemsView k.heap.objs.size d:={_,j_ _ (),(),()};change wpAny _ _ (pyIter (.ref k.heap.objs.size)) _ _ _;have y:=M.kept (h':=k.heap.push {cls:=.type "dict_items",data:=.fields #[.ref d]}) (t':=k.toks) λb o e=>d_ _ e;show wpAny_pyIter_items (s:={k with heap:=k.heap.push {cls:=.type "dict_items",data:=.fields #[.ref d]}}) O (r.push _) ?_;show{_,[(k.heap.push {cls:=.type "dict_items",data:=.fields #[.ref d]}).objs.size],_,_,_,(),y.kept (t':=k.toks) λb o e=>d_ _ e,zU d _ p ep,{_,_,by rw[t];show j_ _ ()},λb S=>?_,q ep};have e:b=(k.heap.push {cls:=.type "dict_items",data:=.fields #[.ref d]}).objs.size:=by simpa using S
  subst e;show y.fpOk (e_ _) (y.hok.fresh (e_ _))
end
def rQ(n:Nat){c:Type}(R:c->Prop):KasT c->Prop|.ret a=>R a|.ask i j k=>i<n/\j<n/\∀b,rQ n R (k b)
theorem rQ.bind{n:Nat}{c d:Type}{R:c->Prop}{S:d->Prop}{f:c->KasT d}(e:∀a,R a->rQ n S (f a)):∀{t:KasT c},rQ n R t->rQ n S (t.bind f)|.ret a,h=>e a h|.ask i j k,h=>{h.1,h.2.1,λb=>rQ.bind e (h.2.2 b)}
def PR(n:Nat)(p:Array Nat):Prop:=p.toList.Perm (List.range n)
def PR.lt(h:PR n p)(hn:0<n)(k:Nat):p.getD k 0<n:=by
 by_cases a:k<p.size
 ·have e:p.getD k 0=p[k]:=by simp[Array.getD,a]
  rw[e];show x3.mp (h.mem_iff.mp (Array.mem_toList_iff.mpr (Array.getElem_mem a)))
 ·have e:p.getD k 0=0:=by simp[Array.getD,a]
  rw[e];show hn
def PR.rev(h:PR n p)(i j:Nat):PR n (kas_rev p i j):=(mirror_perm p i j _).toList.trans h
section
variable{n:Nat}(hn:0<n)
include hn
theorem xN(h:PR n p):∀f m,rQ n (λ_=>True) (kas_asc p f m)|0,_=>trivial|f+1,m=>{h.lt hn _,h.lt hn _,λb=>by cases b with|true=>show trivial|false=>show xN h f (m+1)}
theorem pR:∀(f:Nat){p:Array Nat}(m q:Nat),PR n p->rQ n (λr:Array Nat×Nat×Nat=>PR n r.1) (kas_desc f p m q)|0,_,_,_,h=>h|f+1,p,m,q,h=>⟨h.lt hn _,h.lt hn _,λb=>by
 cases b with|true=>
   show rQ n _ (if q>0 then _ else _)
   split
   ·exact pR f _ _ (h.rev _ _)
   ·exact pR f _ _ h|false=>refine⟨h.lt hn _,h.lt hn _,λd=>?_⟩;cases d with|true=>exact h|false=>exact pR f _ _ h⟩
def zj{p:Array Nat}(m r:Nat)(h:PR n p):rQ n (λr:Nat×Array Nat=>PR n r.2) (kas_tail3 m r p):=rQ.bind (S:=λr:Nat×Array Nat=>PR n r.2) (f:=λa=>.ret (a,kas_rev p 0 m)) (λ_ _=>h.rev _ _) (xN hn (h.rev _ _) _ _)
def zk{p:Array Nat}(m r:Nat)(h:PR n p):rQ n (λr:Nat×Array Nat=>PR n r.2) (kas_descPart m r p):=rQ.bind (λa b=>by
 change rQ n _ (if a.2.2>0 then _ else _)
 split
 ·show zj hn _ _ (b.rev _ _)
 ·show zj hn _ _ b) (pR hn _ _ _ h)
def Cu{p:Array Nat}(r:Nat)(h:PR n p):rQ n (λr:Nat×Array Nat=>PR n r.2) (kas_count r p):=rQ.bind (λm _=>by
 change rQ n _ (if(m==r)=true then _ else _)
 split
 ·show h
 ·split
  ·show{h.lt hn _,h.lt hn _,λc=>?_};cases c with|true=>show h|false=>show zk hn _ _ (h.rev _ _)
  ·show zk hn _ _ h) (xN hn h _ _)
theorem qH{p:Array Nat}(h:PR n p)(k:Nat):∀f l r,rQ n (λ_=>True) (kas_place p k f l r)
 |0,_,_=>trivial|f+1,l,r=>by
  change rQ n _ (if l>=r then _ else _)
  split
  ·show trivial
  ·show{h.lt hn _,h.lt hn _,λc=>?_};cases c with|true=>show qH h k f _ _|false=>show qH h k f _ _
theorem Bt:∀(f:Nat){p:Array Nat}(k:Nat),PR n p->rQ n (PR n) (kas_bin f p k)|0,_,_,h=>h|f+1,p,k,h=>rQ.bind (λl _=>Bt f _ ((bubble_perm p k _).toList.trans h)) (qH hn h _ _ _ _)
def uF:rQ n (PR n) (kas_sort n):=rQ.bind (λr a=>by
 change rQ n _ (if r.1<n then _ else _)
 split
 ·show Bt hn _ _ a
 ·show a) (Cu hn _ (show(List.toArray (List.range n)).toList.Perm _ by show .refl _))
end
theorem Bg:∀{c:Pf}{a:O_},aZ (c.map V.ref) a->a=c.map Value.ref|[],_,.nil=>()|u::r,_,.cons h t=>by obtain rfl:_=Value.ref u:=h;rw[Bg t];rfl
theorem xE:∀{a:Pf},aZ (a.map V.ref) (a.map Value.ref)|[]=>.nil|_::_=>.cons () xE
def pX{J:It}{n:Nat}{g:TG}{ds:Pe}{k:Nat}{tc:TT}{te:TE}{r:St}{s:Hp}{D:Addr}{F:Hp->Prop}(Pv:Nat->List V->Hp->Prop)(h0:Pv 0 [] (aH s D (.lst [])))(hg:∀i a c,i<n->Pv i a c->J.go i c)(t:∀i a c x h,i<n->Pv i a c->J.yld i c x h->g x (iQ ds k r) h λd q=>tc d q λb j=>if b=true then te d j λy l=>l D=some (.lst a)/\a.length<sizeLine/\∃f,f<n-i/\f=n-(i+1)/\i+1<=n/\Pv (i+1) (a++[y]) (aH l D (.lst (a++[y])))else∃f,f<n-i/\f=n-(i+1)/\i+1<=n/\Pv (i+1) a j)(hd:∀a c,Pv n a c->J.stop n c/\F c):∃W:Nat->Nat->List V->Hp->Prop,(∃m,W 0 m [] (aH s D (.lst [])))/\∀i m a c,W i m a c->(J.stop i c/\F c)\/(J.go i c/\∀x h,J.yld i c x h->g x (iQ ds k r) h λd q=>tc d q λb j=>if b=true then te d j λy l=>l D=some (.lst a)/\a.length<sizeLine/\∃f,f<m/\W (i+1) f (a++[y]) (aH l D (.lst (a++[y])))else∃f,f<m/\W (i+1) f a j):=by
 show{λi m a c=>m=n-i/\i<=n/\Pv i a c,{_,(),ov _,h0},?_};rintro i m a c⟨rfl,hi,p⟩
 by_cases o:i<n
 ·show .inr {hg i a c o p,λx h y=>t i a c x h o p y}
 ·have e:i=n:=by lia
  subst e;show .inl (hd a c p)
def E5{J:It}{n:Nat}{g:TG}{tb:TS}{D:jV}{a:St}{H:Hp}(Pv:Nat->St->Hp->Prop)(h0:Pv 0 a H)(hg:∀i a H,i<n->Pv i a H->J.go i H)(l:∀i a H x c,i<n->Pv i a H->J.yld i H x c->g x a c λd h=>tb {D with nx:=Pv (i+1),ct:=Pv (i+1),bk:=D.nx} d h)(hd:∀a H,Pv n a H->J.stop n H/\D.nx a H):∃W:Nat->Nat->St->Hp->Prop,(∃m,W 0 m a H)/\∀i m a H,W i m a H->(J.stop i H/\D.nx a H)\/(J.go i H/\∃N:St->Hp->Prop,(∀f c,N f c->∃j,j<m/\W (i+1) j f c)/\∀x c,J.yld i H x c->g x a c λd h=>tb {D with nx:=N,ct:=N,bk:=D.nx} d h):=by
 show{λi m a H=>m=n-i/\i<=n/\Pv i a H,{n,by simp,ov _,h0},?_};rintro i m a H⟨rfl,hi,p⟩
 by_cases b:i<n
 ·show .inr {hg i a H b p,Pv (i+1),λf c k=>{n-(i+1),by omega,(),b,k},λx c y=>l i a H x c b p y}
 ·have e:i=n:=by lia
  subst e;show .inl (hd a H p)
end L2
namespace L2
open PySem
def rF{K:O6}{f:Str}{a C dx:Addr}{fs:List (Str×V)}{v:V}{H:Hp}{R:V->Prop}(h:H a=some (.ins C dx fs))(hc:yg K C)(hn:cb K C f)(j:fs.lookup f=some v)(k:R v):∃g d e c i,V.ref a=.ref g/\H g=some (.ins d e c)/\yg K d/\cb K d f/\c.lookup f=some i/\R i:={a,C,dx,fs,v,(),h,hc,hn,j,k}
def rM{a C dx:Addr}{m:Str}{fs:List (Str×V)}{H:Hp}{R:Prop}(h:H a=some (.ins C dx fs))(hn:fs.lookup m=none)(k:R):∃e d c,V.ref a=.ref e/\H e=some (.ins C d c)/\c.lookup m=none/\R:={a,dx,fs,(),h,hn,k}
def rG{d:Type}{a:Addr}{A R:Addr->d->Prop}(v:d)(h:A a v)(k:R a v):∃c e,V.ref a=.ref c/\A c e/\R c e:={a,v,(),h,k}
def rX{A:Addr->List V->Prop}{p:Addr}{c:List V}{i:Int}{v:V}{R:V->Prop}(h:A p c)(g:vS c i=some v)(k:R v):∃d a e f,V.ref p=.ref d/\V.int i=.int e/\A d a/\vS a e=some f/\R f:={p,c,i,v,(),(),h,g,k}
def rA{l:Addr}{c:List V}{y:V}{H:Hp}{R:Addr->List V->V->Prop}(h:H l=some (.lst c))(f:c.length<sizeLine)(k:R l c y):∃d a e,V.ref l=.ref d/\[y]=[e]/\H d=some (.lst a)/\a.length<sizeLine/\R d a e:={l,c,y,(),(),h,f,k}
def r2{i j:Int}{R:Int->Int->Prop}(k:R i j):∃a c,V.int i=.int a/\V.int j=.int c/\R a c:={i,j,(),(),k}
def U{a:Type}{A R:a->Prop}{v:a}(h:A v)(k:R v):∃v,A v/\R v:=(v,h,k,)
def fM{K:O6}{f:Str}{a C dx:Addr}{fs:List (Str×V)}{o:Option (Option V)}{v:V}{H:Hp}{R:V->Prop}(h:H a=some (.ins C dx fs))(hc:yg K C)(hn:cb K C f)(h0:o=some (some (.ref a)))(j:fs.lookup f=some v)(k:R v):∃w,o=some (some w)/\∃g d e c i,w=.ref g/\H g=some (.ins d e c)/\yg K d/\cb K d f/\c.lookup f=some i/\R i:={_,h0,a,C,dx,fs,v,(),h,hc,hn,j,k}
def iS{a C dx:Addr}{m:Str}{fs:List (Str×V)}{o:Option (Option V)}{H:Hp}{R:V->Prop}(h:H a=some (.ins C dx fs))(h0:o=some (some (.ref a)))(hn:fs.lookup m=none)(k:R (.ref a)):∃w,o=some (some w)/\∃e d c,w=.ref e/\H e=some (.ins C d c)/\c.lookup m=none/\R w:={_,h0,a,dx,fs,(),h,hn,k}
end L2
namespace L2
open PySem PySem.Spec PyProof.Rows PySem.W
section
def Cy{A:Around}{k:Nat}(a:eV k A):A.units+65<cLine:=by have:=a.un;lia
end
set_option genInjectivity false in
set_option genSizeOf false in
structure AF where
 x:Addr
 d:FuncData
structure Df(K:O6)(mg:O9)(n:Str)(st:Stmt)(a:AF)(ps:Pb):Prop where
 f:yf K n n st a.x a.d
 m:mg n=some (.ref a.x)b:fX K a.d ps []
structure Mf(K:O6)(C:Addr)(n q:Str)(st:Stmt)(a:AF)(ps:Pb):Prop where
 f:yf K n q st a.x a.d
 m:FI K C n a.x
 b:fX K a.d ps []
section
variable{K:O6}{h:Heap}{mg:O9}{n q:Str}{st:Stmt}{x C:Addr}{fd:FuncData}
def Ig{c:Pb}(X:K.In h)(G:h.Ns mainGlobals mg)(a:PySem.W.nsIn K mainGlobals n=some (some (.ref x)))(F:yf K n n st x fd)(b:yf K n n st x fd->fX K fd c []):Df K mg n st (x,fd,) c:={F,PySem.W.mg_of X G a,b F}
def LF{c:Pb}(a:PySem.W.findIn K (.ref C) n=some (some (.ref x)))(i:PySem.W.isFn K (.ref x)=true)(F:yf K n q st x fd)(b:yf K n q st x fd->fX K fd c []):Mf K C n q st (x,fd,) c:={F,(a,i,F.kp,),b F}
def L3(X:K.In h)(G:h.Ns mainGlobals mg)(a:PySem.W.nsIn K mainGlobals n=some (some (.ref x))):mg n=some (.ref x):=PySem.W.mg_of X G a
def KS(X:K.In h)(G:h.Ns mainGlobals mg)(a:PySem.W.nsIn K mainGlobals n=some none):mg n=none:=PySem.W.mg_none_of X G a
def LT{i:Int}{t:Tok}(X:K.In h)(G:h.Ns mainGlobals mg)(a:PySem.W.nsIn K mainGlobals n=some (some (.int i t))):∃u,mg n=some u/\aV (.int i) u:={_,PySem.W.mg_of X G a,_,()}
def Ll{i:Str}{t:Tok}(X:K.In h)(G:h.Ns mainGlobals mg)(a:PySem.W.nsIn K mainGlobals n=some (some (.str i t))):∃u,mg n=some u/\aV (.str i) u:={_,PySem.W.mg_of X G a,_,()}
def L5(a:PySem.W.excIn K x [.type "ValueError",.type "Exception",.type "BaseException",.type "object"] "ValueError.__new__"=true):xh K x:=a
def Bm(a:PySem.W.findIn K (.ref C) n=some none):cb K C n:=a
def LP{dd:Option Addr}{a:Pd}{d:Nat}{sl:Array (Option Value)}{c:List V}(w:K.lookup x=some {.type "tuple",dd,.seq a d,sl})(y:aZ c a.toList)(l:Nat.ble c.length 65536=true):L2.MC K x c:={_,a,d,w,(),(),by rw[<-ot,<-y.length];show dq (Nat.le_of_ble_eq_true l),y}
def Mb{d:Value}{f:Option Addr}{a:ClassData}{g:Array (Option Value)}{c:O_}(l:K.lookup x=some {d,f,.cls a,g})(o:a.mro=.ref x::c)(e:(Value.ref x::c).contains (.ref C)=false):L2.FM K x C:={_,{_,_,_,_,l,o},e}
abbrev KM(st:Stmt)(n q:Str)(kV a pm:Value)(d:Option Addr)(c ct:Value)(e:O_):=bindArgs (PySem.W.fnOf n q (pW st) (gQ st) (ai st) .none kV a pm d c ct) {e,[]}
variable{c d f g j m:Str}
def vM{n:Nat}{e:O_}(h:e.length=n+1):∃u a,e=u::a/\a.length=n:=by cases e with|nil=>cases h|cons u a=>show{u,a,(),Nat.succ.inj h}
def b1(F:yf K n q st x fd)(h:∀kV a pm i e ct u,KM st n q kV a pm i e ct [u]=pure [(c,u)]:=by intros;rfl):fX K fd [c] []:=F.binds λkV a pm i e ct b k=>by obtain⟨u,b,rfl,h1⟩:=vM k;cases List.length_eq_zero_iff.mp h1;show h kV a pm i e ct u
def b2(F:yf K n q st x fd)(h:∀kV a pm i e ct u v,KM st n q kV a pm i e ct [u,v]=pure [(c,u),(d,v)]:=by intros;rfl):fX K fd [c,d] []:=F.binds λkV a pm i e ct b k=>by obtain⟨u,b,rfl,h1⟩:=vM k;obtain⟨v,b,rfl,h2⟩:=vM h1;cases List.length_eq_zero_iff.mp h2;show h kV a pm i e ct u v
def b3(F:yf K n q st x fd)(h:∀kV a pm i e ct u v w,KM st n q kV a pm i e ct [u,v,w]=pure [(c,u),(d,v),(f,w)]:=by intros;rfl):fX K fd [c,d,f] []:=F.binds λkV a pm i e ct b k=>by obtain⟨u,b,rfl,h1⟩:=vM k;obtain⟨v,b,rfl,h2⟩:=vM h1;obtain⟨w,b,rfl,h3⟩:=vM h2;cases List.length_eq_zero_iff.mp h3;show h kV a pm i e ct u v w
def b4(F:yf K n q st x fd)(h:∀kV a pm i e ct u v w y,KM st n q kV a pm i e ct [u,v,w,y]=pure [(c,u),(d,v),(f,w),(g,y)]:=by intros;rfl):fX K fd [c,d,f,g] []:=F.binds λkV a pm i e ct b k=>by obtain⟨u,b,rfl,h1⟩:=vM k;obtain⟨v,b,rfl,h2⟩:=vM h1;obtain⟨w,b,rfl,h3⟩:=vM h2;obtain⟨y,b,rfl,h4⟩:=vM h3;cases List.length_eq_zero_iff.mp h4;show h kV a pm i e ct u v w y
def b5(F:yf K n q st x fd)(h:∀kV a pm i e ct u v w y z,KM st n q kV a pm i e ct [u,v,w,y,z]=pure [(c,u),(d,v),(f,w),(g,y),(j,z)]:=by intros;rfl):fX K fd [c,d,f,g,j] []:=F.binds λkV a pm i e ct b k=>by obtain⟨u,b,rfl,h1⟩:=vM k;obtain⟨v,b,rfl,h2⟩:=vM h1;obtain⟨w,b,rfl,h3⟩:=vM h2;obtain⟨y,b,rfl,h4⟩:=vM h3;obtain⟨z,b,rfl,l⟩:=vM h4;cases List.length_eq_zero_iff.mp l;show h kV a pm i e ct u v w y z
def b6(F:yf K n q st x fd)(h:∀kV a pm i e ct u v w y z r,KM st n q kV a pm i e ct [u,v,w,y,z,r]=pure [(c,u),(d,v),(f,w),(g,y),(j,z),(m,r)]:=by intros;rfl):fX K fd [c,d,f,g,j,m] []:=F.binds λkV a pm i e ct b k=>by obtain⟨u,b,rfl,h1⟩:=vM k;obtain⟨v,b,rfl,h2⟩:=vM h1;obtain⟨w,b,rfl,h3⟩:=vM h2;obtain⟨y,b,rfl,h4⟩:=vM h3;obtain⟨z,b,rfl,l⟩:=vM h4;obtain⟨r,b,rfl,o⟩:=vM l;cases List.length_eq_zero_iff.mp o;show h kV a pm i e ct u v w y z r
end
def cd{i j:Int}(h:decide (0<j/\j<1073741824)=true):fW i j:=(pw h:0<j/\j<1073741824)
def ls{n:Nat}(h:Nat.ble n 65536=true):n<=sizeLine:=dq (Nat.le_of_ble_eq_true h)
section
variable{X:Cx}{n:Str}{st:Stmt}{a:AF}{h:Pb}{sp:Sp}{j k:Nat}{e:Expr}{es:Pc}{t:TA}{p c:Pos}
def pc(D:Df X.K X.mg n st a h)(F:aP X.prog X.w X.K X.mg X.base cU j a.x a.d h sp)(l:eV k X.A)(o:PA X (e::es) t)(q:j<=k:=by decide)(hg:Gl X n:=by rfl)(g:(n==("__debug__":Str))=false:=by decide)(r:starEach (e::es) X.env=(false,eval e X.env)::starEach es X.env:=by rfl)(i:(backTo c (starEach es X.env)).any (·.1)=false:=by rfl):PE X (.Call (.Name n p) (e::es) [] c) (HU sp [] E0 t):=bT (F.mono q) l hg D.m D.f.kp D.b .nil aQ o g r i
def bo(i:Nat){x:Str}{te:TE}{d:Pos}(g:X.N.Nodup)(l:PE X e te)(hi:X.N[i]?=some x:=by rfl)(f:X.env.scope.names.lookup x=some .local:=by rfl)(m:swapsWith e (some (.Name x d)) c.line X.env=pure false:=by rfl):PS X (.Assign [.Name x d] e c) (yn te (kI i)):=ud g hi (.inl f) l m (.inr f)
def sf(i:Nat){x:Str}(f:X.N.Nodup)(hi:X.N[i]?=some x:=by rfl)(d:X.env.scope.names.lookup x=some .local:=by rfl):PG X (.Name x c) (kI i):=xx f hi (.inl d) (.inr d)
def lE(N0 d:Pb)(i:Nat){x:Str}(f:(N0++d).Nodup:=by decide+kernel)(g:X.N=N0++d:=by rfl)(hi:(N0++d)[i]?=some x:=by rfl)(l:Kw X.env.scope x:=by first|show Or.inl ()|show Or.inr ())(m:X.fn x=true\/X.env.scope.names.lookup x=some .local:=by first|show .inl ()|show .inr ()):PG X (.Name x c) (kI i):=by rw[<-g]at f hi;show xx f hi l m
def rN(N0 d:Pb)(ds m:Pe)(f:Scope){i o iter:Expr}{l:Pc}{scope:Scope}{s:TI}{g:TG}{tc:TT}{te:TE}(hg:GK g m)(hi:PI X o iter s)(u:∀cl C s₀ H₀ ex,PG (X.comp scope (N0++d) cl C s₀ H₀ ex) o g/\HL (X.comp scope (N0++d) cl C s₀ H₀ ex) l tc/\PE (X.comp scope (N0++d) cl C s₀ H₀ ex) i te)(hc:X.calm=true:=by rfl)(q:X.N=N0:=by rfl)(r:X.env.scope=f:=by rfl)(ok:qO N0 ds f scope=true:=by decide+kernel)(v:(m.all λj=>ds.contains j||decide (N0.length<=j))=true:=by decide+kernel)(w:∀x,foldedSetIterable iter X.env x=pure x:=by intro _;rfl):PE X (.ListComp i [{o,iter,l,0}] scope c) (sW s g ds d.length tc te):=Hx N0 d ds m f hc q r ok v hg hi u w
def Hw(i:Nat)(N0 d:Pb)(ds s:Pe)(f:Scope){x:Str}{l m:Pos}{o r iter:Expr}{q:Pc}{scope:Scope}{A:TI}{g:TG}{tc:TT}{te:TE}(hg:GK g s)(hi:PI X r iter A)(B:∀cl C s₀ H₀ ex,PG (X.comp scope (N0++d) cl C s₀ H₀ ex) r g/\HL (X.comp scope (N0++d) cl C s₀ H₀ ex) q tc/\PE (X.comp scope (N0++d) cl C s₀ H₀ ex) o te)(u:N0.Nodup)(hc:X.calm=true:=by rfl)(v:X.N=N0:=by rfl)(w:X.env.scope=f:=by rfl)(ok:qO N0 ds f scope=true:=by decide+kernel)(D:(s.all λj=>ds.contains j||decide (N0.length<=j))=true:=by decide+kernel)(y:N0[i]?=some x:=by rfl)(E:f.names.lookup x=some .local:=by rfl)(z:swapsWith (.ListComp o [{r,iter,q,0}] scope c) (some (.Name x l)) m.line X.env=pure true:=by rfl)(F:∀x,foldedSetIterable iter X.env x=pure x:=by intro _;rfl):PS X (.Assign [.Name x l] (.ListComp o [{r,iter,q,0}] scope c) m) (yn (sW A g ds d.length tc te) (kI i)):=Fm N0 d ds s f hc v w ok D hg hi B u y E z F
def iP(K:O6){a b:Expr}{d f:TE}(g:PE X a d)(i:PE X b f)(l:X.K=K:=by rfl)(m:x9 b:=by intro _ _;rfl):PE X (.Subscript a b c) (KA (Jo K) d f):=yO (EL K l) g i m
def dP(K:O6){a b:Expr}{d f:TE}(g:PE X a d)(i:PE X b f)(l:X.K=K:=by rfl)(m:x9 b:=by intro _ _;rfl):PE X (.Subscript a b c) (KA (Jn K) d f):=yO (He K l) g i m
end
section
variable{P:Pa}{w:World}{K:O6}{mg:O9}{base:Heap}{n q:Str}{st:Stmt}{a:AF}{C:Addr}{N c:Pb}{k:Nat}{sp:Sp}
theorem Df.ok(D:Df K mg n st a c)(S:ay N c (ai st))(e:∀(g:Value)(A:Around)(outer:List Env)(s:Shared)(H:Hp)(i:List V)(Q:VK)(E:XK),eV k (A.deeper (envOfC n (ai st) s.heap.objs.size a.x g))->sp i H Q E->∃t,ve (qN cU P w K mg base N n (ai st) a.x g A outer s H E).nox (gQ st) t/\t {nx:=λ_ j=>Q .non j,rt:=Q} (i6 N i) H)(len:∀i H Q E,sp i H Q E->i.length=c.length:=by intro _ _ _ _ h;cases h;subst_vars;rfl):aP P w K mg base cU (k+1) a.x a.d c sp:=D.f.ok S len e
theorem Mf.ok(D:Mf K C n q st a c)(S:ay N c (ai st))(e:∀(g:Value)(A:Around)(outer:List Env)(s:Shared)(H:Hp)(i:List V)(Q:VK)(E:XK),eV k (A.deeper (envOfC q (ai st) s.heap.objs.size a.x g))->sp i H Q E->∃t,ve (qN cU P w K mg base N q (ai st) a.x g A outer s H E).nox (gQ st) t/\t {nx:=λ_ j=>Q .non j,rt:=Q} (i6 N i) H)(len:∀i H Q E,sp i H Q E->i.length=c.length:=by intro _ _ _ _ h;cases h;subst_vars;rfl):aP P w K mg base cU (k+1) a.x a.d c sp:=D.f.ok S len e
theorem Df.okE(D:Df K mg n st a c)(S:ay N c (ai st))(e:∀(g:Value)(A:Around)(outer:List Env)(s:Shared)(H:Hp)(i:List V)(Q:VK)(E:XK),eV k (A.deeper (envOfC n (ai st) s.heap.objs.size a.x g))->sp i H Q E->∃t,ve (qN (v8 P w) P w K mg base N n (ai st) a.x g A outer s H E) (gQ st) t/\t {nx:=λ_ j=>Q .non j,rt:=Q} (i6 N i) H)(len:∀i H Q E,sp i H Q E->i.length=c.length:=by intro _ _ _ _ h;cases h;subst_vars;rfl):aP P w K mg base (v8 P w) (k+1) a.x a.d c sp:=D.f.okE S len e
theorem Mf.okE(D:Mf K C n q st a c)(S:ay N c (ai st))(e:∀(g:Value)(A:Around)(outer:List Env)(s:Shared)(H:Hp)(i:List V)(Q:VK)(E:XK),eV k (A.deeper (envOfC q (ai st) s.heap.objs.size a.x g))->sp i H Q E->∃t,ve (qN (v8 P w) P w K mg base N q (ai st) a.x g A outer s H E) (gQ st) t/\t {nx:=λ_ j=>Q .non j,rt:=Q} (i6 N i) H)(len:∀i H Q E,sp i H Q E->i.length=c.length:=by intro _ _ _ _ h;cases h;subst_vars;rfl):aP P w K mg base (v8 P w) (k+1) a.x a.d c sp:=D.f.okE S len e
end
end L2
set_option genSizeOf false
namespace My
open PySem L2
seal L2.ve L2.PS L2.PE L2.PT L2.PA L2.PI L2.PG L2.PW L2.Kt L2.PO
def gC(i:Nat):Stmt:=PySem.Challenge.pw_layersplit_k28_a_book_replayed.main.body.getD i (.Pass ⟨0,0,0,0⟩)
abbrev lC(c i:Nat):Stmt:=(Hy (gC c)).getD i (.Pass {0,0,0,0})
abbrev tW:Stmt:=gC 19
abbrev kR:Stmt:=gC 20
abbrev wo:Stmt:=gC 21
abbrev tY:Stmt:=gC 22
abbrev nX:Stmt:=gC 27
abbrev tT:Stmt:=gC 28
abbrev re:Stmt:=gC 34
abbrev wu:Stmt:=gC 35
abbrev jv:Stmt:=gC 36
abbrev t7:Stmt:=gC 37
abbrev pf:Stmt:=gC 38
abbrev nW:Stmt:=gC 39
abbrev wq:Stmt:=gC 40
abbrev sJ:Stmt:=gC 41
abbrev tZ:Stmt:=gC 47
abbrev wp:Stmt:=gC 48
abbrev tX:Stmt:=gC 49
abbrev rc:Stmt:=gC 50
abbrev kS:Stmt:=gC 51
abbrev jL:Stmt:=gC 52
abbrev nY:Stmt:=gC 53
abbrev nq:Stmt:=gC 54
abbrev oY:Stmt:=gC 55
abbrev nu:Stmt:=gC 56
abbrev ni:Stmt:=gC 57
abbrev oZ:Stmt:=gC 58
abbrev rg:Stmt:=gC 59
abbrev ka:Stmt:=gC 60
abbrev nj:Stmt:=gC 61
abbrev ng:Stmt:=gC 62
abbrev jK:Stmt:=gC 63
abbrev pd:Stmt:=gC 64
abbrev m9:Stmt:=gC 65
abbrev ny:Stmt:=gC 66
abbrev lO:Stmt:=gC 67
abbrev lw:Stmt:=gC 68
abbrev o9:Stmt:=gC 69
abbrev m7:Stmt:=gC 70
abbrev o7:Stmt:=gC 71
abbrev pb:Stmt:=gC 72
abbrev tV:Stmt:=gC 74
abbrev Ba:Stmt:=gC 75
abbrev tU:Stmt:=gC 77
abbrev lQ:Stmt:=lC 79 0
abbrev kc:Stmt:=lC 79 1
abbrev jw:Stmt:=lC 79 2
abbrev kU:Stmt:=lC 79 3
abbrev kT:Stmt:=lC 79 4
abbrev jx:Stmt:=lC 79 5
abbrev ph:Stmt:=lC 79 6
abbrev lR:Stmt:=lC 82 0
abbrev lP:Stmt:=lC 83 0
abbrev lV:Stmt:=lC 84 0
abbrev ub:Stmt:=lC 84 1
abbrev px:Stmt:=lC 84 2
abbrev kj:Stmt:=lC 84 3
abbrev kh:Stmt:=lC 84 4
abbrev fw:Stmt:=lC 84 5
abbrev lz:Stmt:=lC 84 6
abbrev ki:Stmt:=lC 84 7
abbrev km:Stmt:=lC 84 8
abbrev lU:Stmt:=lC 84 9
abbrev kg:Stmt:=lC 84 10
abbrev lx:Stmt:=lC 84 11
abbrev fJ:Stmt:=lC 84 12
abbrev gY:Stmt:=lC 84 13
abbrev ke:Stmt:=lC 84 14
abbrev nC:Stmt:=lC 84 15
abbrev nE:Stmt:=lC 84 16
abbrev jy:Stmt:=lC 84 17
abbrev ja:Stmt:=lC 84 19
abbrev iC:Stmt:=lC 84 20
abbrev pq:Stmt:=lC 84 21
abbrev nz:Stmt:=lC 84 22
abbrev lS:Stmt:=lC 84 23
abbrev jb:Stmt:=lC 84 24
abbrev lT:Stmt:=lC 84 25
abbrev kf:Stmt:=lC 84 26
abbrev py:Stmt:=lC 84 27
abbrev nA:Stmt:=lC 84 28
abbrev pk:Stmt:=lC 84 29
abbrev t5:Stmt:=gC 86
abbrev ua:Stmt:=gC 88
abbrev yI:Stmt:=gC 89
abbrev Bb:Stmt:=gC 90
abbrev yJ:Stmt:=gC 91
abbrev Bd:Stmt:=gC 92
abbrev t9:Stmt:=gC 93
abbrev Be:Stmt:=gC 95
abbrev pj:Stmt:=gC 96
abbrev kW:Stmt:=gC 97
abbrev pi:Stmt:=gC 98
abbrev Bf:Stmt:=gC 99
abbrev sK:Stmt:=gC 100
abbrev Bc:Stmt:=gC 101
abbrev A8:Stmt:=gC 102
set_option genInjectivity false in
set_option genSizeOf false in
structure fN where(gO gb d9 kF kE kn fD mP i4 cx bY jX mO dY eZ mM kD iZ ii gy kL gu gc cH fe hU hV bP cW gt gq ib gr gw fE eM ia gp fc ff kB wV ko eu ck be et eg cM gf eB ee cT dn gk dg df bI dO cp dh eD de cB bA c9 bH fq ft cN eC fk gj dG ip cS cR db eE dH gi kH jl eA rP oF eU qY xc io ik qX xf qd xb law:AF)(bQ fj fU bh u4 BH FG FE Ij BE FH FF BF zN BG q9 mC fH vd:Addr)pm:Params
structure Txt(K:O6)(mg:O9)(a:fN):Prop where
 G4:mg "Table"=some (.ref a.bQ)G6:mg "Layer"=some (.ref a.fj)G3:mg "Trial"=some (.ref a.fU)xL:mg "House"=some (.ref a.bh)G5:mg "SplitError"=some (.ref a.u4)KF:mg "NoHouse"=some (.ref a.BH)LL:mg "NoDeed"=some (.ref a.FG)LJ:mg "NoWord"=some (.ref a.FE)Mw:mg "Taken"=some (.ref a.Ij)KB:mg "Unknown"=some (.ref a.BE)LM:mg "NoArms"=some (.ref a.FH)LK:mg "NoRule"=some (.ref a.FF)KC:mg "NoShuts"=some (.ref a.BF)JU:mg "NoNumber"=some (.ref a.zN)KD:mg "NoMarks"=some (.ref a.BG)zg:mg "Closed"=some (.ref a.q9)zf:mg "NoRoom"=some (.ref a.mC)Cp:mg "LENGTHS"=some (.ref a.fH)EB:mg "HELD"=some (.ref a.vd)gO:Df K mg "is_whole" tW a.gO ["thing"]gb:Df K mg "is_text_of" kR a.gb ["thing","signs","longest"]d9:Df K mg "is_word" wo a.d9 ["thing"]kF:Df K mg "is_guest" tY a.kF ["thing"]kE:Df K mg "is_prime" nX a.kE ["thing"]kn:Df K mg "point_of" tT a.kn ["p","salt","guest"]fD:Df K mg "is_number" re a.fD ["thing"]mP:Df K mg "is_mark" wu a.mP ["thing"]i4:Df K mg "are_marks" jv a.i4 ["thing"]cx:Df K mg "has_form" t7 a.cx ["thing","depth"]bY:Df K mg "all_within" pf a.bY ["rule"]jX:Df K mg "words_of" nW a.jX ["rule"]mO:Df K mg "is_rule" wq a.mO ["thing"]dY:Df K mg "holds" sJ a.dY ["rule","marks"]eZ:Df K mg "is_count" tZ a.eZ ["thing"]mM:Df K mg "is_salt" wp a.mM ["thing"]kD:Df K mg "is_total" tX a.kD ["thing"]iZ:Df K mg "is_weight" rc a.iZ ["thing"]ii:Df K mg "are_counts" kS a.ii ["thing","many"]gy:Df K mg "are_weights" jL a.gy ["thing","many"]kL:Df K mg "are_arms" nY a.kL ["thing"]gu:Df K mg "check_house" nq a.gu ["prime","salt"]gc:Df K mg "check_word" oY a.gc ["thing"]cH:Df K mg "check_guest" nu a.cH ["thing"]fe:Df K mg "check_marks" ni a.fe ["thing"]hU:Df K mg "check_rule" oZ a.hU ["thing"]hV:Df K mg "check_new" rg a.hV ["thing","names"]bP:Df K mg "check_standing" ka a.bP ["thing","names"]cW:Df K mg "check_known" nj a.cW ["thing","names"]gt:Df K mg "check_place" ng a.gt ["thing","prime"]gq:Df K mg "check_slope" jK a.gq ["thing","prime","layers"]ib:Df K mg "check_arms" pd a.ib ["thing"]gr:Df K mg "check_shuts" m9 a.gr ["thing","trials"]gw:Df K mg "check_count" ny a.gw ["thing"]fE:Df K mg "check_shares" lO a.fE ["thing","many"]eM:Df K mg "check_dealing" lw a.eM ["total","weights","many"]ia:Df K mg "check_form" o9 a.ia ["deed"]gp:Df K mg "check_trial" m7 a.gp ["deed","layers","trials"]fc:Df K mg "check_open" o7 a.fc ["deed","trials"]ff:Df K mg "check_deed" pb a.ff ["deed","prime","layers","trials"]kB:Df K mg "most_due" tV a.kB ["weights","given"]wV:Df K mg "dealt" Ba a.wV ["total","weights"]ko:Df K mg "place_of" tU a.ko ["p","slope","point"]eu:Mf K a.bQ "__init__" "Table.__init__" lQ a.eu ["self","many"]ck:Mf K a.bQ "owner_of" "Table.owner_of" kc a.ck ["self","place"]be:Mf K a.bQ "places_of" "Table.places_of" jw a.be ["self","owner"]et:Mf K a.bQ "free" "Table.free" kU a.et ["self"]eg:Mf K a.bQ "told" "Table.told" kT a.eg ["self","wanted"]cM:Mf K a.bQ "give_back" "Table.give_back" jx a.cM ["self","owner","number"]gf:Mf K a.bQ "take" "Table.take" ph a.gf ["self","owner","number"]eB:Mf K a.fj "__init__" "Layer.__init__" lR a.eB ["self","slope","many"]ee:Mf K a.fU "__init__" "Trial.__init__" lP a.ee ["self","home","arms","rule","shuts"]cT:Mf K a.bh "__init__" "House.__init__" lV a.cT ["self","prime","salt"]dn:Mf K a.bh "do" "House.do" ub a.dn ["self","deed"]gk:Mf K a.bh "done" "House.done" px a.gk ["self","deed"]dg:Mf K a.bh "do_layer" "House.do_layer" kj a.dg ["self","name","slope"]df:Mf K a.bh "do_trial" "House.do_trial" kh a.df ["self","name","trial"]bI:Mf K a.bh "do_share" "House.do_share" fw a.bI ["self","name","numbers"]dO:Mf K a.bh "do_hold" "House.do_hold" lz a.dO ["self","name","number"]cp:Mf K a.bh "do_pause" "House.do_pause" ki a.cp ["self","name","paused"]dh:Mf K a.bh "do_close" "House.do_close" km a.dh ["self","name"]eD:Mf K a.bh "do_bar" "House.do_bar" lU a.eD ["self","guest","name"]de:Mf K a.bh "do_visit" "House.do_visit" kg a.de ["self","guest","marks"]cB:Mf K a.bh "put_out" "House.put_out" lx a.cB ["self","layer","guests"]bA:Mf K a.bh "after_visit" "House.after_visit" fJ a.bA ["self","guest","marks"]c9:Mf K a.bh "seat_for" "House.seat_for" gY a.c9 ["self","layer","guest","marks","been"]bH:Mf K a.bh "place_in" "House.place_in" ke a.bH ["self","layer","guest"]fq:Mf K a.bh "place" "House.place" nC a.fq ["self","layer","guest"]ft:Mf K a.bh "owner" "House.owner" nE a.ft ["self","layer","place"]cN:Mf K a.bh "places_in" "House.places_in" jy a.cN ["self","trial","arm"]eC:Mf K a.bh "shares" "House.shares" ja a.eC ["self","trial"]fk:Mf K a.bh "stand" "House.stand" iC a.fk ["self","guest"]gj:Mf K a.bh "ever" "House.ever" pq a.gj ["self","guest"]dG:Mf K a.bh "would" "House.would" nz a.dG ["self","guest","marks"]ip:Mf K a.bh "who" "House.who" lS a.ip ["self","trial"]cS:Mf K a.bh "layers" "House.layers" jb a.cS ["self"]cR:Mf K a.bh "trials" "House.trials" lT a.cR ["self"]db:Mf K a.bh "layer_of" "House.layer_of" kf a.db ["self","trial"]eE:Mf K a.bh "book" "House.book" py a.eE ["self"]dH:Mf K a.bh "prime" "House.prime" nA a.dH ["self"]gi:Mf K a.bh "salt" "House.salt" pk a.gi ["self"]kH:Df K mg "house_of" t5 a.kH ["prime","salt","deeds"]jl:Df K mg "_law_cell_at" ua a.jl ["_law_script","_law_k"]eA:Df K mg "_law_mixed" yI a.eA ["_law_script","_law_k","_law_salt"]rP:Df K mg "_law_word" Bb a.rP ["_law_k","_law_number"]oF:Df K mg "_law_guest" yJ a.oF ["_law_k","_law_number"]eU:Df K mg "_law_rule" Bd a.eU ["_law_number","_law_high"]qY:Df K mg "_law_marks" t9 a.qY ["_law_number"]xc:Df K mg "_law_plan" Be a.xc ["_law_script"]io:Df K mg "_law_new_layer" pj a.io ["_law_script","_law_plan_here"]ik:Df K mg "_law_new_trial" kW a.ik ["_law_script","_law_plan_here","_law_number"]qX:Df K mg "_law_share" pi a.qX ["_law_script","_law_plan_here","_law_k","_law_number"]xf:Df K mg "_law_deed" Bf a.xf ["_law_script","_law_plan_here","_law_k"]qd:Df K mg "_law_snap" sK a.qd ["_law_house","_law_guests"]xb:Df K mg "_law_told" Bc a.xb ["_law_house","_law_deed_here"]law:Df K mg "law" A8 a.law ["_law_script"]CP:∃u,mg "LETTERS"=some u/\aV (.str "abcdefghijklmnopqrstuvwxyz") u
 nQ:∃u,mg "GUEST_SIGNS"=some u/\aV (.str "abcdefghijklmnopqrstuvwxyz0123456789") u
 uS:∃u,mg "LONGEST_WORD"=some u/\aV (.int 12) u
 sG:∃u,mg "LONGEST_GUEST"=some u/\aV (.int 24) u
 vQ:∃u,mg "LEAST_PRIME"=some u/\aV (.int 2) u
 qR:∃u,mg "GREATEST_PRIME"=some u/\aV (.int 997) u
 HB:∃u,mg "MIXER"=some u/\aV (.int 1009) u
 x4:∃u,mg "MOST_MARKS"=some u/\aV (.int 8) u
 uT:∃u,mg "DEEPEST_RULE"=some u/\aV (.int 6) u
 xZ:∃u,mg "MOST_RULES"=some u/\aV (.int 30) u
 xW:∃u,mg "MOST_WORDS"=some u/\aV (.int 3) u
 zH:∃u,mg "MOST_ARMS"=some u/\aV (.int 4) u
 xY:∃u,mg "MOST_SHUTS"=some u/\aV (.int 8) u
 xX:∃u,mg "MOST_TOTAL"=some u/\aV (.int 1000) u
 bn:yg K a.bQ
 En:L2.Mk K a.bQ a.eu.x
 nM:cb K a.bQ "many"eI:cb K a.bQ "owners"gK:cb K a.bQ "taken"bD:yg K a.fj
 Eo:L2.Mk K a.fj a.eB.x
 gL:cb K a.fj "slope"dU:cb K a.fj "table"bJ:cb K a.fj "inside"a0:yg K a.fU
 Em:L2.Mk K a.fU a.ee.x
 eK:cb K a.fU "home"fO:cb K a.fU "arms"nL:cb K a.fU "rule"ma:cb K a.fU "shuts"iM:cb K a.fU "paused"eF:cb K a.fU "closed"iN:cb K a.fU "barred"ao:yg K a.bh
 uB:L2.Mk K a.bh a.cT.x
 bW:cb K a.bh "own_prime"gM:cb K a.bh "own_salt"aK:cb K a.bh "layer_named"aJ:cb K a.bh "trial_named"c7:cb K a.bh "came_into"je:cb K a.bh "deeds"FO:xh K a.u4
 Kd:xh K a.BH
 KK:xh K a.FG
 KI:xh K a.FE
 L6:xh K a.Ij
 Ka:xh K a.BE
 KL:xh K a.FH
 KJ:xh K a.FF
 Kb:xh K a.BF
 Ib:xh K a.zN
 Kc:xh K a.BG
 wS:xh K a.q9
 wR:xh K a.mC
 AA:L2.HN K a.pm a.fH
 qF:∃tk,PySem.W.nsIn K a.fH "layer"=some (some (.int 3 tk))qC:∃tk,PySem.W.nsIn K a.fH "trial"=some (some (.int 6 tk))qD:∃tk,PySem.W.nsIn K a.fH "share"=some (some (.int 3 tk))sB:∃tk,PySem.W.nsIn K a.fH "deal"=some (some (.int 4 tk))sA:∃tk,PySem.W.nsIn K a.fH "hold"=some (some (.int 3 tk))qE:∃tk,PySem.W.nsIn K a.fH "pause"=some (some (.int 2 tk))vK:∃tk,PySem.W.nsIn K a.fH "go"=some (some (.int 2 tk))qG:∃tk,PySem.W.nsIn K a.fH "close"=some (some (.int 2 tk))uE:∃tk,PySem.W.nsIn K a.fH "bar"=some (some (.int 3 tk))qB:∃tk,PySem.W.nsIn K a.fH "visit"=some (some (.int 3 tk))Br:L2.MC K a.vd [.str "",.str ""]qT:L2.FM K a.q9 a.mC
 wF:mg "all"=none
 Ej:mg "any"=none
 JM:mg "bool"=none
 Ei:mg "divmod"=none
 zb:mg "enumerate"=none
 LD:mg "int"=none
 bM:mg "isinstance"=none
 bC:mg "len"=none
 mf:mg "list"=none
 LC:mg "max"=none
 Eh:mg "min"=none
 fC:mg "range"=none
 As:mg "reversed"=none
 Eg:mg "set"=none
 uA:mg "sorted"=none
 Ef:mg "str"=none
 LB:mg "sum"=none
 d8:mg "tuple"=none
 LA:mg "zip"=none
def ScB(N P:Pb)(a:Scope):Bool:=decide (a.kind=.function)&&!a.isCoroutine&&!a.isGenerator&&decide N.Nodup&&decide (N.take P.length=P)&&P.all (λx=>decide (a.names.lookup x=some .local\/a.names.lookup x=some .cell))&&a.names.all λy=>decide (y.2≠.free)
def c5{N P:Pb}{a:Scope}(h:ScB N P a=true:=by rfl):ay N P a:=by simp only[ScB,o0,decide_eq_true_eq,Bool.not_eq_true',M_]at h;show(h.1.1.1.1.1.1,h.1.1.1.1.1.2,h.1.1.1.1.2,h.1.1.1.2,h.1.1.2,h.1.2,h.2,)
def yA:ay ["thing"] ["thing"] (ai tW):=c5
abbrev lj:List Str:=["thing","signs","longest"]
def vi:ay lj ["thing","signs","longest"] (ai kR):=c5
def zY:ay ["thing"] ["thing"] (ai wo):=c5
def yD:ay ["thing"] ["thing"] (ai tY):=c5
def yC:ay ["thing"] ["thing"] (ai nX):=c5
def jq:ay ["p","salt","guest","mixed","sign"] ["p","salt","guest"] (ai tT):=c5
def xq:ay ["thing"] ["thing"] (ai re):=c5
def Aa:ay ["thing"] ["thing"] (ai wu):=c5
def xt:ay ["thing"] ["thing"] (ai jv):=c5
def lL:ay ["thing","depth","kind"] ["thing","depth"] (ai t7):=c5
def iz:ay ["rule","found","inner"] ["rule"] (ai pf):=c5
def yz:ay ["rule"] ["rule"] (ai nW):=c5
def z9:ay ["thing"] ["thing"] (ai wq):=c5
abbrev pZ:List Str:=["rule","marks","kind"]
def tE:ay pZ ["rule","marks"] (ai sJ):=c5
def yE:ay ["thing"] ["thing"] (ai tZ):=c5
def zZ:ay ["thing"] ["thing"] (ai wp):=c5
def yB:ay ["thing"] ["thing"] (ai tX):=c5
def xo:ay ["thing"] ["thing"] (ai rc):=c5
abbrev iX:List Str:=["thing","many"]
def vo:ay iX ["thing","many"] (ai kS):=c5
abbrev nS:List Str:=["thing","many"]
def tN:ay nS ["thing","many"] (ai jL):=c5
def yF:ay ["thing"] ["thing"] (ai nY):=c5
def tK:ay ["prime","salt"] ["prime","salt"] (ai nq):=c5
def vj:ay ["thing"] ["thing"] (ai oY):=c5
def tL:ay ["thing"] ["thing"] (ai nu):=c5
def tI:ay ["thing"] ["thing"] (ai ni):=c5
def vk:ay ["thing"] ["thing"] (ai oZ):=c5
def xr:ay ["thing","names"] ["thing","names"] (ai rg):=c5
def oQ:ay ["thing","names"] ["thing","names"] (ai ka):=c5
def tJ:ay ["thing","names"] ["thing","names"] (ai nj):=c5
def tH:ay ["thing","prime"] ["thing","prime"] (ai ng):=c5
abbrev jT:List Str:=["thing","prime","layers"]
def tG:ay jT ["thing","prime","layers"] (ai jK):=c5
def vn:ay ["thing"] ["thing"] (ai pd):=c5
def i9:ay ["thing","trials","k","name"] ["thing","trials"] (ai m9):=c5
def tM:ay ["thing"] ["thing"] (ai ny):=c5
def rR:ay ["thing","many"] ["thing","many"] (ai lO):=c5
def qm:ay ["total","weights","many"] ["total","weights","many"] (ai lw):=c5
def vm:ay ["deed"] ["deed"] (ai o9):=c5
def tF:ay ["deed","layers","trials"] ["deed","layers","trials"] (ai m7):=c5
def jI:ay ["deed","trials","trial","many"] ["deed","trials"] (ai o7):=c5
def mZ:ay ["deed","prime","layers","trials","kind"] ["deed","prime","layers","trials"] (ai pb):=c5
def jr:ay ["weights","given","best","k"] ["weights","given"] (ai tV):=c5
def oP:ay ["total","weights","given","turn","k"] ["total","weights"] (ai Ba):=c5
def lJ:ay ["p","slope","point","x","y"] ["p","slope","point"] (ai tU):=c5
def rT:ay ["self","many"] ["self","many"] (ai lQ):=c5
def oR:ay ["self","place"] ["self","place"] (ai kc):=c5
def nU:ay ["self","owner"] ["self","owner"] (ai jw):=c5
def vp:ay ["self"] ["self"] (ai kU):=c5
abbrev iY:List Str:=["self","wanted","more","back","owner","number"]
def dI:ay iY ["self","wanted"] (ai kT):=c5
def d0:ay ["self","owner","number","places","back","place"] ["self","owner","number"] (ai jx):=c5
def iB:ay ["self","owner","number","places","more","place"] ["self","owner","number"] (ai ph):=c5
def rW:ay ["self","slope","many"] ["self","slope","many"] (ai lR):=c5
def rS:ay ["self","home","arms","rule","shuts"] ["self","home","arms","rule","shuts"] (ai lP):=c5
def se:ay ["self","prime","salt"] ["self","prime","salt"] (ai lV):=c5
def rb:ay ["self","deed","answer"] ["self","deed"] (ai ub):=c5
def m4:ay ["self","deed","kind"] ["self","deed"] (ai px):=c5
def oX:ay ["self","name","slope"] ["self","name","slope"] (ai kj):=c5
def oW:ay ["self","name","trial"] ["self","name","trial"] (ai kh):=c5
abbrev cY:List Str:=["self","name","numbers","trial","layer","back","guests"]
def dD:ay cY ["self","name","numbers"] (ai fw):=c5
def qo:ay ["self","name","number"] ["self","name","number"] (ai lz):=c5
def jt:ay ["self","name","paused","trial"] ["self","name","paused"] (ai ki):=c5
def ju:ay ["self","name","trial"] ["self","name"] (ai km):=c5
def iK:ay ["self","guest","name","trial","layer"] ["self","guest","name"] (ai lU):=c5
def cJ:ay ["self","guest","marks","answer","name","trial","arm","layer"] ["self","guest","marks"] (ai kg):=c5
def fu:ay ["self","layer","guests","out","guest","seat"] ["self","layer","guests"] (ai lx):=c5
abbrev fL:List Str:=["self","guest","marks","been","answer","name","layer","seat"]
def bF:ay fL ["self","guest","marks"] (ai fJ):=c5
abbrev ij:List Str:=["self","layer","guest","marks","been","owner","trial"]
def gE:ay ij ["self","layer","guest","marks","been"] (ai gY):=c5
def oU:ay ["self","layer","guest"] ["self","layer","guest"] (ai ke):=c5
def tR:ay ["self","layer","guest"] ["self","layer","guest"] (ai nC):=c5
def tS:ay ["self","layer","place"] ["self","layer","place"] (ai nE):=c5
def nV:ay ["self","trial","arm"] ["self","trial","arm"] (ai jy):=c5
abbrev jj:List Str:=["self","trial"]
def rZ:ay jj ["self","trial"] (ai ja):=c5
abbrev dN:List Str:=["self","guest","standing"]
def lN:ay dN ["self","guest"] (ai iC):=c5
def vw:ay ["self","guest"] ["self","guest"] (ai pq):=c5
def tP:ay ["self","guest","marks"] ["self","guest","marks"] (ai nz):=c5
abbrev jE:List Str:=["self","trial","inside"]
def oT:ay jE ["self","trial"] (ai lS):=c5
def sd:ay ["self"] ["self"] (ai jb):=c5
def rY:ay ["self"] ["self"] (ai lT):=c5
def oV:ay ["self","trial"] ["self","trial"] (ai kf):=c5
def vx:ay ["self"] ["self"] (ai py):=c5
def tQ:ay ["self"] ["self"] (ai nA):=c5
def vq:ay ["self"] ["self"] (ai pk):=c5
def lK:ay ["prime","salt","deeds","house","deed"] ["prime","salt","deeds"] (ai t5):=c5
def yH:ay ["_law_script","_law_k"] ["_law_script","_law_k"] (ai ua):=c5
def j6:ay ["_law_script","_law_k","_law_salt","_law_cell","_law_lap","_law_near"] ["_law_script","_law_k","_law_salt"] (ai yI):=c5
def oS:ay ["_law_k","_law_number","_law_some","_law_stem","_law_at"] ["_law_k","_law_number"] (ai Bb):=c5
def j8:ay ["_law_k","_law_number","_law_some","_law_stem","_law_at","_law_own"] ["_law_k","_law_number"] (ai yJ):=c5
def lM:ay ["_law_number","_law_high","_law_way","_law_some","_law_word_here"] ["_law_number","_law_high"] (ai Bd):=c5
abbrev vb:List Str:=["_law_number","_law_marks_here","_law_k","_law_word_here"]
def j7:ay vb ["_law_number"] (ai t9):=c5
def tO:ay ["_law_script","_law_number","_law_prime"] ["_law_script"] (ai Be):=c5
def jJ:ay ["_law_script","_law_plan_here","_law_k","_law_name"] ["_law_script","_law_plan_here"] (ai pj):=c5
abbrev lq:List Str:=["_law_script","_law_plan_here","_law_number","_law_k","_law_name","_law_layer","_law_arms","_law_shuts","_law_more","_law_j"]
def cV:ay lq ["_law_script","_law_plan_here","_law_number"] (ai kW):=c5
abbrev mD:List Str:=["_law_script","_law_plan_here","_law_k","_law_number","_law_trial","_law_most","_law_weights"]
def mG:ay mD ["_law_script","_law_plan_here","_law_k","_law_number"] (ai pi):=c5
def j9:ay ["_law_script","_law_plan_here","_law_k","_law_number","_law_some","_law_guest_here","_law_early","_law_trial"] ["_law_script","_law_plan_here","_law_k"] (ai Bf):=c5
abbrev qa:List Str:=["_law_house","_law_guests","_law_found","_law_name","_law_slope","_law_trial","_law_guest_here"]
def j5:ay qa ["_law_house","_law_guests"] (ai sK):=c5
def yG:ay ["_law_house","_law_deed_here","_law_found"] ["_law_house","_law_deed_here"] (ai Bc):=c5
abbrev zO:List Str:=["_law_script","_law_plan_here","_law_house","_law_guests","_law_told_here","_law_answers","_law_k","_law_found","_law_pages","_law_handed","_law_again","_law_kept","_law_third"]
def gX:ay zO ["_law_script"] (ai A8):=c5
variable{P:Pa}{w:World}{K:O6}{mg:O9}{base:Heap}{a:fN}{H H':Hp}
inductive Mn{A0 A1:Type}(p:A0->A1->Prop):Prop|mk(x0:A0)(x1:A1)(h:p x0 x1)
inductive Ex3{A0 A1 A2:Type}(p:A0->A1->A2->Prop):Prop|mk(x0:A0)(x1:A1)(x2:A2)(h:p x0 x1 x2)
structure An5(p0 p1 p2 p3 p4:Prop):Prop where
 h0:p0
 h1:p1
 h2:p2
 h3:p3
 h4:p4
def dk{p:Prop}[Decidable p](h:decide p=true):p:=pw h
@[irreducible]def wX(ns:Pg)(k:Int):Int:=if ns.length=0 then 0 else ns.getD (k%(ns.length:Int)).toNat 0
def LO(ns:Pg)(k:Int):Int:=k/(if(ns.length:Int)>1 then(ns.length:Int)else 1)
def Ed(ns:Pg)(k m:Int):Int:=(Builtin.bitAnd (wX ns k) 2147483647+1009*k*k+7919*m*m+12)*48271%2147483647
@[irreducible]def cX(ns:Pg)(k m:Int):Int:=(wX ns k/2^(31*(m+128*LO ns k)).toNat+Ed ns k m*Ed ns k m%2147483629)%2147483648
def GV(ns:Pg)(k m:Int):0<=cX ns k m/\cX ns k m<2147483648:=by unfold cX;show bN _ (by decide)
inductive I0(K:O6)(vs:List V)(H:Hp)(Q:VK)(_E:XK):Prop|mk(a:Addr)(ns:Pg)(k:Int)(_:vs=[.ref a,.int k])(_:aR K H a (ns.map V.int))(_:ns.length<=63)(_:Q (.int (wX ns k)) H)
inductive Gh(K:O6)(vs:List V)(H:Hp)(Q:VK)(_E:XK):Prop|mk(a:Addr)(ns:Pg)(k m:Int)(_:vs=[.ref a,.int k,.int m])(_:aR K H a (ns.map V.int))(_:ns.length<=63)(_:(0<=k/\k<=1000000))(_:(0<=m/\m<=1000000))(_:Q (.int (cX ns k m)) H)
inductive Dp(K:O6)(vs:List V)(H:Hp)(Q:VK)(_E:XK):Prop|mk(a:Addr)(ns:Pg)(_:vs=[.ref a])(_:aR K H a (ns.map V.int))(_:ns.length<=63)(_:∀H',Q (.bl true) H')
section
variable{P:Pa}{w:World}{K:O6}{mg:O9}{base:Heap}{a:fN}
def rn(T:Txt K mg a):aP P w K mg base cU 1 a.jl.x a.jl.d ["_law_script","_law_k"] (I0 K):=by
 show T.jl.ok yH λe A outer s H f Q E g h=>?_
 ·obtain⟨p,ns,k,rfl,b,i,q⟩:=h;show{_,(af (aN (aD aX (aA (aI K ()) (by rfl) T.bC L2.aL (ac (Y 0) O)) ag (aG _)) (ah (az ag)) aF) (ah (az (iP K (Y 0) (aB aW (Y 1) (aA (aI K ()) (by rfl) T.bC L2.aL (ac (Y 0) O))))))),?_}
  show U () {_,ns.length,(),.inl {_,b,by simp},(),U () ?_};unfold wX at q;show kC (λh0=>?_) (λh0=>?_)
  ·rw[md (by lia)]at q;show q
  have c:(0:Int)<(ns.length:Int):=by lia
  have hm:=bN k c;rw[me (by lia)]at q;show U () (U () (U () {_,ns.length,(),.inl {_,b,by simp},_,U () {(),c,rX b (mS hm.1 hm.2) q}}))
def cK(T:Txt K mg a):aP P w K mg base cU 2 a.eA.x a.eA.d ["_law_script","_law_k","_law_salt"] (Gh K):=by
 show T.eA.ok j6 λi A outer s H u Q E j h=>?_
 ·obtain⟨p,ns,k,m,rfl,e,l,⟨o,v⟩,⟨y,z⟩,q⟩:=h;show{_,(af (bo 3 j6.nd (pc T.jl (rn T) j (ac (Y 0) (ac (Y 1) O)))) (af (bo 4 j6.nd (aB bL (Y 1) (aA (CK ()) (by rfl) T.LC L2.Fu (ac ag (ac (aA (aI K ()) (by rfl) T.bC L2.aL (ac (Y 0) O)) O))))) (af (bo 5 j6.nd (aB bV (aB bV (aB bV (aB D6 (Y 3) ag) (aB gZ (aB gZ ag (Y 1)) (Y 1))) (aB gZ (aB gZ ag (Y 2)) (Y 2))) ag)) (af (bo 5 j6.nd (aB aW (aB gZ (Y 5) ag) ag)) (ah (az (aB D6 (aB bV (aB Jz (Y 3) (aB gZ ag (aB bV (Y 2) (aB gZ ag (Y 4))))) (aB aW (aB gZ (Y 5) (Y 5)) ag)) ag))))))),?_}
  unfold cX Ed LO at q;show U () (U () {p,ns,k,(),e,l,?_});generalize wX ns k=c at q⊢;have hn:∃n:Int,n=(if(ns.length:Int)>1 then(ns.length:Int)else 1)/\0<n/\n<1073741824:=(U () {by split<;>lia,by split<;>lia});obtain⟨n,f,n0,n1⟩:=hn;rw[<-f]at q;show U () (U () {_,ns.length,(),.inl {_,e,by simp},_,U () {_,n,(),by rw[f],(n0,n1,),?_}});have r:0<=k/n:=Int.ediv_nonneg o (by lia)
  try dsimp only
  generalize k/n=t at r q⊢;show U () (r2 (U () (r2 {.inl {by decide,by decide},U () (r2 {.inr {by lia,by lia},_,U () {(),U () (r2 {.inl {by decide,by decide},U () (r2 {.inr {by lia,by lia},_,U () {(),r2 ?_}})})}})})));show U () (r2 {.inr {by decide,by decide},_,U () {(),(by change(0:Int)<_;first|decide|lia),?_}});have b:=bN ((Builtin.bitAnd c 2147483647+1009*k*k+7919*m*m+12)*48271) (show(0:Int)<2147483647 by decide)
  try dsimp only
  generalize(Builtin.bitAnd c 2147483647+1009*k*k+7919*m*m+12)*48271%2147483647=g at b q⊢;show U () (U () (U () (r2 {.inl {by decide,by decide},_,U () {(),r2 {.inl {by decide,by decide},_,U () {(),(by change(0:Int)<=_;lia),U () (U () (r2 {.inl {by lia,by lia},_,U () {(),(by change(0:Int)<_;first|decide|lia),_,U () {(),r2 ?_}}}))}}}})))
  try dsimp only
  rw[JQ];show q
def Ct(T:Txt K mg a)(s:Shared)(u:Value):BindsTo s a.law.d {[u],[]} [("_law_script",u)]:=by obtain⟨oc,i,kV,b,pm,j,c,ct,g,e,lk,h⟩:=T.law.f.ex;rw[e];show .of_eq ()
def Cs{p:Addr}{ns:Pg}(c:ns.length<=63)(d:aR K H p (ns.map V.int)):Dp K [.ref p] H (λv _=>v=.bl true) λ_ _ _=>False:={p,ns,(),d,c,λ_=>()}
end
section
variable{j g:Type}{F G:j->g->Prop}{a c:List j}{b d:List g}
def Paired.mapM(h:Paired F a b)(f:∀x∈a,∀y,F x y->G x y):Paired G a b:=by induction h with|nil=>show .nil|cons h _ e=>show .cons (f _ oa _ h) (e λx m=>f x (np _ m))
def Paired.ex(h:Paired F a b):∀x∈a,∃y,F x y:=by induction h with|nil=>showλx e=>(nomatch e)|cons h _ f=>
  intro x e;rcases vu.mp e with rfl|m
  ·show{_,h}
  ·show f x m
def Paired.at_(h:Paired F a b):∀(i:Nat)(x:j),a[i]?=some x->∃y,b[i]?=some y/\F x y:=by induction h with|nil=>showλi x e=>(nomatch e)|cons h _ f=>intro i x e;cases i with|zero=>obtain rfl:=n_ e;show{_,(),h}|succ i=>show f i x e
def ue(h:Paired F a b):∀(i:Nat)(y:g),b[i]?=some y->∃x,a[i]?=some x/\F x y:=by induction h with|nil=>showλi x e=>(nomatch e)|cons h _ f=>intro i x e;cases i with|zero=>obtain rfl:=n_ e;show{_,(),h}|succ i=>show f i x e
def xv(h:Paired F a b)(k:Paired F c d):Paired F (a++c) (b++d):=by induction h with|nil=>show k|cons h _ e=>show .cons h e
end
inductive Ru where|any|has(w:Str)|least(w:Str)(n:Int)|not(q:Ru)|both(q r:Ru)|either(q r:Ru)
def Ru.hgt:Ru->Nat|.any=>1|.has _=>1|.least _ _=>1|.not q=>q.hgt+1|.both q r=>max q.hgt r.hgt+1|.either q r=>max q.hgt r.hgt+1
def Ru.hgt_pos:∀r:Ru,0<r.hgt|.any=>Nat.one_pos|.has _=>Nat.one_pos|.least _ _=>Nat.one_pos|.not _=>Op _|.both _ _=>Op _|.either _ _=>Op _
def L1(w:Str)(m:Str×Int):Bool:=decide (V.str m.1=V.str w)
def hE(w:Str)(n:Int)(m:Str×Int):Bool:=if decide (V.str m.1=V.str w)=true then decide (n<=m.2)else false
def Ru.sat(c:List (Str×Int)):Ru->Bool|.any=>true|.has w=>(c.map (L1 w)).any id|.least w n=>(c.map (hE w n)).any id|.not q=>!q.sat c|.both q r=>if q.sat c=true then r.sat c else false|.either q r=>if q.sat c=true then true else r.sat c
inductive fG(K:O6)(H:Hp):Ru->V->Prop|any{a:Addr}:aY K H a [.str "any"]->fG K H .any (.ref a)|has{a:Addr}{w:Str}:aY K H a [.str "has",.str w]->fG K H (.has w) (.ref a)|least{a:Addr}{w:Str}{n:Int}:aY K H a [.str "least",.str w,.int n]->fG K H (.least w n) (.ref a)|not{a:Addr}{q:Ru}{v:V}:aY K H a [.str "not",v]->fG K H q v->fG K H (.not q) (.ref a)|both{a:Addr}{q r:Ru}{v u:V}:aY K H a [.str "both",v,u]->fG K H q v->fG K H r u->fG K H (.both q r) (.ref a)|either{a:Addr}{q r:Ru}{v u:V}:aY K H a [.str "either",v,u]->fG K H q v->fG K H r u->fG K H (.either q r) (.ref a)
def Kn(H H':Hp):Prop:=∀u b,H u=some (.tup b)->H' u=some (.tup b)
def Kn.sq{a:Addr}{d:List V}(e:Kn H H')(f:∀u o,(∃c,H u=some (.frz c o))->∃c,H' u=some (.frz c o))(h:aY K H a d):aY K H' a d:=by
 rcases h with h|h
 ·rcases h with h|h
  ·show .inl (.inl (e _ _ h))
  ·show .inl (.inr (f _ _ h))
 ·show .inr h
structure Kp(H H':Hp):Prop where
 tp:Kn H H'
 fz:∀u o,(∃o',H u=some (.frz o' o))->∃o',H' u=some (.frz o' o)
def Kp.trans(a:Kp H d)(b:Kp d e):Kp H e:={λu c h=>b.tp u c (a.tp u c h),λu o h=>b.fz u o (a.fz u o h)}
def Kp.of(h:am H H'):Kp H H':={λu c e=>h u _ e,λu o⟨b,e⟩=>{b,h u _ e}}
theorem Kp.lst{a:Addr}{o:HO}{d:List V}(c:H a=some (.lst d)):Kp H (aH H a o):={λu f h=>by rw[ak (λe=>by rw[e,c]at h;cases h)];show h,λu o⟨b,h⟩=>{b,by rw[ak (λe=>by rw[e,c]at h;cases h)];show h}}
def Kp.new{a:Addr}{o:HO}(hn:H a=none):Kp H (aH H a o):=.of (aj (am.refl H) hn)
def Kp.tq{a:Addr}{c:List V}(e:Kp H H')(h:aY K H a c):aY K H' a c:=e.tp.sq e.fz h
def fG.kp(e:Kp H H')(h:fG K H r v):fG K H' r v:=by induction h with|any h=>show .any (e.tq h)|has h=>show .has (e.tq h)|least h=>show .least (e.tq h)|not h _ q=>show .not (e.tq h) q|both h _ _ q r=>show .both (e.tq h) q r|either h _ _ q r=>show .either (e.tq h) q r
def qb(K:O6)(H:Hp)(d:List (Str×Int))(v:V):Prop:=∃a c,v=.ref a/\aY K H a c/\c.length=d.length/\∀(i:Nat)(m:Str×Int),d[i]?=some m->∃b,c[i]?=some (.ref b)/\aY K H b [.str m.1,.int m.2]
def qb.kp(e:Kp H H')(h:qb K H c v):qb K H' c v:=by obtain⟨a,d,h1,h2,h3,h4⟩:=h;show{a,d,h1,e.tq h2,h3,λi m hm=>let⟨b,f,g⟩:=h4 i m hm;{b,f,e.tq g}}
def sV{c d:Type}{f:c->d}{l:List c}{i:Nat}{m:c}(h:l[i]?=some m):(l.take (i+1)).map f=(l.take i).map f++[f m]:=by rw[z5,h,k_];rfl
inductive jS(ws:Pb):Ru->Prop|any:jS ws .any|has{w:Str}:w∈ws->jS ws (.has w)|least{w:Str}{n:Int}:w∈ws->-cw<=n->n<=cw->jS ws (.least w n)|not{q:Ru}:jS ws q->jS ws (.not q)|both{q r:Ru}:jS ws q->jS ws r->jS ws (.both q r)|either{q r:Ru}:jS ws q->jS ws r->jS ws (.either q r)
def qi:(100:Int)<=cw:=by have:=mE;lia
def Ru.subs:Ru->List Ru|.any=>[.any]|.has w=>[.has w]|.least w n=>[.least w n]|.not q=>.not q::q.subs|.both q r=>.both q r::(q.subs++r.subs)|.either q r=>.either q r::(q.subs++r.subs)
def Ru.cnt(r:Ru):Nat:=r.subs.length
def Ru.words:Ru->List Str|.any=>[]|.has w=>[w]|.least w _=>[w]|.not q=>q.words|.both q r=>q.words++r.words|.either q r=>q.words++r.words
def Ru.word1:Ru->Option Str|.has w=>some w|.least w _=>some w|_=>none
theorem Ru.words_subs:∀r:Ru,r.subs.filterMap Ru.word1=r.words|.any=>()|.has _=>()|.least _ _=>()|.not q=>by change(Ru.not q::q.subs).filterMap Ru.word1=q.words;rw[Ob (),q.words_subs]|.both q r=>by change(Ru.both q r::(q.subs++r.subs)).filterMap Ru.word1=q.words++r.words;rw[Ob (),u2,q.words_subs,r.words_subs]|.either q r=>by change(Ru.either q r::(q.subs++r.subs)).filterMap Ru.word1=q.words++r.words;rw[Ob (),u2,q.words_subs,r.words_subs]
def Bi{a b:Nat}:2^a+2^b<=2^(max a b+1):=by have h1:2^a<=2^max a b:=Nl (by decide) (Ox _ _);have h2:2^b<=2^max a b:=Nl (by decide) (Of _ _);rw[Oq];lia
theorem Ru.cnt_lt:∀r:Ru,r.cnt+1<=2^r.hgt|.any=>e_ _|.has _=>e_ _|.least _ _=>e_ _|.not q=>by have h:=q.cnt_lt;change(q.subs.length+1)+1<=2^(q.hgt+1);unfold Ru.cnt at h;rw[Oq];have:=q.hgt_pos;have:2^1<=2^q.hgt:=Nl (by decide) this;lia|.both q r=>by have h1:=q.cnt_lt;have h2:=r.cnt_lt;change((q.subs++r.subs).length+1)+1<=2^(max q.hgt r.hgt+1);unfold Ru.cnt at h1 h2;rw[mu];have:=Bi (a:=q.hgt) (b:=r.hgt);lia|.either q r=>by have h1:=q.cnt_lt;have h2:=r.cnt_lt;change((q.subs++r.subs).length+1)+1<=2^(max q.hgt r.hgt+1);unfold Ru.cnt at h1 h2;rw[mu];have:=Bi (a:=q.hgt) (b:=r.hgt);lia
def Ru.words_le(r:Ru):r.words.length<=r.cnt:=by rw[<-r.words_subs];show N_ _ _
structure yd(s:Str)(m:Nat)(x:Str):Prop where
 lo:1<=x.length
 hi:x.length<=m
 cs:∀c∈x.cps.toList,c∈s.cps.toList
abbrev pP:Str:="abcdefghijklmnopqrstuvwxyz"
abbrev jQ:Str:="abcdefghijklmnopqrstuvwxyz0123456789"
abbrev Wd:Str->Prop:=yd pP 12
abbrev xg:Str->Prop:=yd jQ 24
def EG(x:Str):x.cps.toList.length=x.length:=by change x.cps.toList.length=x.cps.size;simp
def DI:List Str:=["ab","ba","b","a","aab","abab","bab","aa","abb","baa","bb","soap"]
def A4:Nat->Str|0=>""|1=>"soap"|2=>"upperlayer"|_=>"z"
def jp(N:Int):Str:=A4 (N%4).toNat
def CS(N:Int):Int:=N/4%(((jp N).length:Int)+1)
def pQ(k:Nat):Str:={#[97+k]}
def wm(i:Nat):Str:=(DI[i]?).getD "a"
def Er(z:Str)(i:Int)(c:Nat):Str:=Txt.slice z none (some i)++pQ c++Txt.slice z (some i) none
def dB(k N:Int):Str:=if N/40%2=1 then wm ((k+N/80)%12).toNat else Er (jp N) (CS N) ((k+N/80)%26).toNat
def Iq(x:Str):Bool:=decide (x≠"nothingso")&&decide (1<=x.length)&&decide (x.length<=12)&&x.cps.toList.all λc=>decide (c∈pP.cps.toList)
def AY(h:Iq x=true):Wd x:=by unfold Iq at h;rw[o0,o0,o0]at h;show{pw h.1.1.2,pw h.1.2,λc hc=>pw (M_.mp h.2 c hc)}
def Gy:∀i∈List.range 12,Iq (wm i)=true:=dk ()
def DF:∀i∈List.range 12,∀j∈List.range 12,wm i=wm j->i=j:=dk ()
def JN:∀r∈List.range 4,∀i∈List.range 11,∀c∈List.range 26,Iq (Er (A4 r) (i:Int) c)=true:=dk ()
def BR(r:Nat):(A4 r).length<=10:=by
 unfold A4
 split<;>decide+kernel
def wk(N:Int):(jp N).length<=10:=BR _
def Fy(N:Int):0<=CS N/\CS N<((jp N).length:Int)+1:={Nw _ (by lia),Nz _ (by lia)}
def FV(k N:Int):Iq (dB k N)=true:=by
 unfold dB;have b1:=bN (k+N/80) (show(0:Int)<12 by decide);have b2:=bN (k+N/80) (show(0:Int)<26 by decide);have b3:=bN N (show(0:Int)<4 by decide);have b4:=Fy N;have b5:=wk N
 split
 ·show Gy _ (by rw[x3];lia)
 ·have:=JN (N%4).toNat (by rw[x3];lia) (CS N).toNat (by rw[x3];lia) ((k+N/80)%26).toNat (by rw[x3];lia);rw[show(((CS N).toNat:Nat):Int)=CS N by lia]at this;show this
def sQ(k N:Int):Wd (dB k N):=AY (FV k N)
def GW(h:Er z i c=Er z i d):c=d:=by have h:((Txt.slice z none (some i)).cps++#[97+c]++(Txt.slice z (some i) none).cps)=((Txt.slice z none (some i)).cps++#[97+d]++(Txt.slice z (some i) none).cps):=r_ Str.cps h;have h2:=r_ Array.toList h;simp at h2;show h2
def Bn{i j a m:Int}(hi:0<=i/\i<m)(c:0<=j/\j<m)(h:((i+a)%m).toNat=((j+a)%m).toNat):i=j:=by
 have p:=λx=>Nw x (Int.ne_of_gt (Int.lt_of_le_of_lt hi.1 hi.2));have e:(i+a)%m=(j+a)%m:=by rw[<-NV (p (i+a)),h,NV (p (j+a))]
 rw[Int.emod_add_cancel_right,OS hi.1 hi.2,OS c.1 c.2]at e;show e
def qg(hi:0<=i/\i<12)(c:0<=j/\j<12)(h:dB i N=dB j N):i=j:=by
 unfold dB at h
 split at h
 ·show Bn hi c (DF _ (by rw[x3];omega) _ (by rw[x3];omega) h)
 ·show Bn (m:=26) {hi.1,Int.lt_trans hi.2 (by decide)} {c.1,Int.lt_trans c.2 (by decide)} (GW h)
def EF:∀c∈List.range 26,vS ("abcdefghijklmnopqrstuvwxyz":Str).cps.toList (c:Int)=some (97+c):=dk ()
def C9:vS [V.str "",V.str "soap",V.str "upperlayer",V.str "z"] (N%4)=some (V.str (jp N)):=by have h1:0<=N%4:=Nw _ (by decide);have h2:N%4<4:=Nz _ (by decide);unfold jp;rcases(by lia:N%4=0\/N%4=1\/N%4=2\/N%4=3)with e|e|e|e<;>rw[e]<;>rfl
def DG:∀i∈List.range 12,vS (DI.map V.str) (i:Int)=some (V.str (wm i)):=dk ()
inductive F3(vs:List V)(H:Hp)(Q:VK)(_E:XK):Prop|mk(k N:Int)(_:vs=[.int k,.int N])(_:∀H',am H H'->Q (.str (dB k N)) H')
local macro_rules|`(tactic|walk_at "a")=>`(tactic|(repeat(first|refine U rfl ?_|refine r2 ?_|refine⟨(rfl:f8 _ _=true),?_⟩|refine⟨(show fW _ _ from cd rfl),?_⟩|refine⟨(show(0:Int)<_ by first|decide|lia),?_⟩|refine⟨(rfl:V.int 10=V.int 10),rfl,?_⟩)))
section
def uv(T:Txt K mg a):aP P w K mg base cU 1 a.rP.x a.rP.d ["_law_k","_law_number"] F3:=by
 show T.rP.ok oS λp A outer s H z Q E B h=>?_
 ·obtain⟨k,N,rfl,q⟩:=h;show{_,(af (aN (aD aX (aB aW (aB bL (Y 1) ag) ag) ag (aG _)) (af (bo 2 oS.nd (bg (ac aE (ac aE (ac aE (ac aE (ac aE (ac aE (ac aE (ac aE (ac aE (ac aE (ac aE (ac aE O)))))))))))))) (ah (az (iP K (Y 2) (aB aW (aB bV (Y 0) (aB bL (Y 1) ag)) ag))))) aF) (af (bo 3 oS.nd (iP K (bg (ac aE (ac aE (ac aE (ac aE O))))) (aB aW (Y 1) ag))) (af (bo 4 oS.nd (aB aW (aB bL (Y 1) ag) (aB bV (aA (aI K ()) (by rfl) T.bC L2.aL (ac (Y 3) O)) ag))) (ah (az (aB jd (aB jd (gG xl (Y 3) iV (iU (Y 4))) (yO AB aE (aB aW (aB bV (Y 0) (aB bL (Y 1) ag)) ag) (λ_ _=>()))) (gG xl (Y 3) (iU (Y 4)) iV))))))),?_}
  have b1:=bN (k+N/80) (show(0:Int)<12 by decide);have b2:=bN (k+N/80) (show(0:Int)<26 by decide);have r:=wk N
  walk_at "a"
  show kC (λf=>?_) (λf=>?_)
  ·have g:dB k N=wm ((k+N/80)%12).toNat:=md f;show{ls (),λl i=>?_}
   walk_at "a"
   have c:=DG ((k+N/80)%12).toNat (by rw[x3];lia);rw[show((((k+N/80)%12).toNat:Nat):Int)=(k+N/80)%12 by lia]at c;show{l,_,_,U () {(),aR.of ae,c,?_}};rw[<-g];show q _ (aj (am.refl H) i)
  ·have g:dB k N=Er (jp N) (CS N) ((k+N/80)%26).toNat:=me f;show{ls (),λl i=>?_};have n:=aj (o:=.lst [V.str "",V.str "soap",V.str "upperlayer",V.str "z"]) (am.refl H) i;have e:aH H l (.lst [V.str "",V.str "soap",V.str "upperlayer",V.str "z"]) l=some (.lst [V.str "",V.str "soap",V.str "upperlayer",V.str "z"]):=ae;generalize aH H l (.lst [V.str "",V.str "soap",V.str "upperlayer",V.str "z"])=C at n e⊢
   walk_at "a"
   show{l,_,_,U () {(),aR.of e,C9,au ?_}};have t:=Fy N;have u:=Txt.slice_le (jp N) none (some (CS N));have v:=Txt.slice_le (jp N) (some (CS N)) none
   walk_at "a"
   show{_,(jp N).length,(),{dq (by lia),()},_,U () {(),r2 {(by change(0:Int)<_;lia),au ?_}}};have j:∀a b:Str,(a++b).length=a.length+b.length:=λa b=>by change(a.cps++b.cps).size=a.cps.size+b.cps.size;show Array.size_append
   have y:(pQ ((k+N/80)%26).toNat).length=1:=();have c:=EF ((k+N/80)%26).toNat (by rw[x3];lia);rw[show((((k+N/80)%26).toNat:Nat):Int)=(k+N/80)%26 by lia]at c;show U () (U () {CS N,(),jp N,(),dq (by lia),?_})
   walk_at "a"
   show{"abcdefghijklmnopqrstuvwxyz",_,97+((k+N/80)%26).toNat,(),(),dq (dk ()),c,_,pQ ((k+N/80)%26).toNat,(),(),dq (by lia),U () (U () {CS N,(),jp N,(),dq (by lia),_,U () {(),dq (by rw[j];lia),?_}})};have m:Txt.slice (jp N) none (some (CS N))++pQ ((k+N/80)%26).toNat++Txt.slice (jp N) (some (CS N)) none=dB k N:=by rw[g];rfl
   rw[m];show q _ n
end
inductive F4(K:O6)(vs:List V)(H:Hp)(Q:VK)(_E:XK):Prop|mk(z:_)(_:vs=[.int z])(_:Q (.bl true) H)
def yS(s:Str)(m:Nat)(x:Str):Bool:=decide (1<=x.length)&&(decide (x.length<=m)&&x.cps.toList.all λc=>decide (c∈s.cps.toList))
def yd.b{s:Str}{m:Nat}{x:Str}(h:yd s m x):yS s m x=true:=by unfold yS;rw[ol h.lo,ol h.hi];show M_.mpr λc hc=>ol (h.cs c hc)
def Ik(K:O6)(H:Hp)(v:V):Prop:=∃T,mx K H v (.type T)/\PySem.W.kitOne K (.type T) (.type "str")=some false
def Na(K:O6)(H:Hp)(v:V):Prop:=Ik K H v\/∃x:Str,v=.str x/\x.length<=60/\yS pP 12 x=false
inductive Dj(K:O6)(vs:List V)(H:Hp)(Q:VK)(_E:XK):Prop|mk(v:V)(s:Str)(m:Nat)(_:vs=[v,.str s,.int m])(_:((∃x:Str,v=.str x/\x.length<=60/\∀H',am H H'->Q (.bl (yS s m x)) H')\/(Ik K H v/\Q (.bl false) H)))
inductive MN(K:O6)(vs:List V)(H:Hp)(Q:VK)(_E:XK):Prop|mk(v:V)(_:vs=[v])(_:((∃x,v=.str x/\Wd x/\∀H',am H H'->Q (.bl true) H')\/(Na K H v/\∀H',am H H'->Q (.bl false) H')))
inductive Lf(vs:List V)(H:Hp)(Q:VK)(_E:XK):Prop|mk(x:_)(_:vs=[.str x])(_:xg x)(_:∀H',am H H'->Q (.bl true) H')
inductive Le(vs:List V)(H:Hp)(Q:VK)(_E:XK):Prop|mk(z:_)(_:vs=[.int z])(_:(-cw<=z/\z<=cw))(_:Q (.bl true) H)
inductive Go(vs:List V)(H:Hp)(Q:VK)(_E:XK):Prop|mk(z:_)(_:vs=[.int z])(_:0<=z)(_:Q (.bl true) H)
inductive F6(vs:List V)(H:Hp)(Q:VK)(_E:XK):Prop|mk(z:_)(_:vs=[.int z])(_:(0<=z/\z<=1000))(_:Q (.bl true) H)
inductive Dh(vs:List V)(H:Hp)(Q:VK)(_E:XK):Prop|mk(z:_)(_:vs=[.int z])(_:(1<=z/\z<=cw))(_:Q (.bl true) H)
def kO{Q:VK}{p:Prop}[Decidable p]{H:Hp}(h:p)(q:Q (.bl true) H):Q (.bl (decide p)) H:=by rw[ol h];show q
section
def jA(T:Txt K mg a):aP P w K mg base cU 1 a.gO.x a.gO.d ["thing"] (F4 K):=by
 show T.gO.ok yA λb A outer s H c Q E e h=>?_
 ·obtain⟨z,rfl,k⟩:=h;show{_,(ah (az (cD (aA (kJ K ()) (by rfl) T.bM L2.bd (ac (Y 0) (ac (kx () T.LD L2.Fv) O))) (dL (DX (aA (kJ K ()) (by rfl) T.bM L2.bd (ac (Y 0) (ac (kx () T.JM L2.CQ) O)))))))),?_};show U () {_,"int",_,true,(),.int z,gN (dk ()),true,(),bB ?_};show U () {_,"bool",_,false,(),.int z,gN (dk ()),false,(),k}
def nG(T:Txt K mg a):aP P w K mg base cU 1 a.gb.x a.gb.d ["thing","signs","longest"] (Dj K):=by
 show T.gb.ok vi λf A outer s H l Q E n h=>?_
 ·obtain⟨v,g,m,rfl,h⟩:=h;show{_,(af (aN (cu (aT K () (aA (kJ K ()) (by rfl) T.bM L2.bd (ac (Y 0) (ac (kx () T.Ef L2.uU) O))) (λ_=>()))) (ah (az gT)) aF) (ah (az (cD (ui jz jz ag (aA (aI K ()) (by rfl) T.bC L2.aL (ac (Y 0) O)) (Y 2)) (dL (aA (i3 K () ()) (by rfl) T.wF L2.kK (ac (rN lj ["sign"] [] [3] (ai kR) (ca 3) (DW (Y 0)) (λcl C s₀ H₀ ex=>{(lE lj ["sign"] 3),bR,(bS Ch (Y 3) (Y 1) (by with_unfolding_all rfl))})) O))))))),?_}
  rcases h with⟨x,rfl,o,q⟩|⟨⟨p,ty,j⟩,q⟩
  ·show U () {_,"str",_,true,(),.str x,gN (dk ()),true,(),cj ?_};show U () {_,x.length,(),{by rw[mo];lia,()},_,U () {(),U () ?_}};unfold yS at q;show k9 (λh1=>?_) (λh1=>?_)
   ·rw[ol (show 1<=x.length by omega),Bool.true_and]at q;show U () (r2 (U () ?_));show k9 (λh2=>?_) (λh2=>?_)
    ·rw[ol (show x.length<=m by omega),Bool.true_and]at q;show U () {x,(),λD k=>?_};have r:=EG x;show Fl (K:=K) (z:=x) (λi b e=>b=((x.cps.toList.take i).map λc=>decide (c∈g.cps.toList)).map V.bl/\e=aH H D (.lst b)) {(),()} ?_ ?_
     ·rintro i c b e hc⟨rfl,rfl⟩;have hi:i<x.cps.toList.length:=(c_.mp hc).1;show au (iJ (bB ?_));show U () (U () {_,U () {(),ae,?_,lf hi {?_,?_}}})
      ·rw[b_,b_,oD,mo];lia
      ·rw[StrLaws.found_one,z5,hc,k_,k_];rfl
      ·rw[iw]
     ·rintro b e⟨rfl,rfl⟩;show{D,_,(),aR.of ae,?_};rw[l_ (e_ _),List.all_map];show q _ (aj (am.refl _) k)
    ·rw[op (show¬x.length<=m by omega),Bool.false_and]at q;show q H (am.refl H)
   ·rw[op (show¬1<=x.length by omega),Bool.false_and]at q;show U () (cj (q H (am.refl H)))
  ·show U () {_,"str",_,false,(),ty,j,false,(),bB q}
def g9(T:Txt K mg a):aP P w K mg base cU 2 a.d9.x a.d9.d ["thing"] (MN K):=by
 show T.d9.ok zY λe A outer s H g Q E f h=>?_
 ·obtain⟨v,rfl,h⟩:=h;show{_,(ah (az (pc T.gb (nG T) f (ac (Y 0) (ac (cC T.CP ()) (ac (cC T.uS ()) O)))))),?_};show U () {v,_,12,(),?_};rcases h with⟨x,rfl,c,q⟩|⟨h|⟨x,rfl,h1,h2⟩,q⟩
  ·show .inl {x,(),by have:=c.hi;omega,by rw[c.b];show q}
  ·show .inr {h,q H (am.refl H)}
  ·show .inl {x,(),h1,by rw[h2];show q}
def yZ(T:Txt K mg a):aP P w K mg base cU 2 a.kF.x a.kF.d ["thing"] Lf:=by
 show T.kF.ok yD λe A outer s H g Q E f h=>?_
 ·obtain⟨x,rfl,c,q⟩:=h;show{_,(ah (az (pc T.gb (nG T) f (ac (Y 0) (ac (cC T.nQ ()) (ac (cC T.sG ()) O)))))),?_};show U () {.str x,_,24,(),.inl {x,(),by have:=c.hi;omega,by rw[c.b];show q}}
def pF(T:Txt K mg a):aP P w K mg base cU 2 a.fD.x a.fD.d ["thing"] Le:=by
 show T.fD.ok xq λb A outer s H e Q E c h=>?_
 ·obtain⟨z,rfl,⟨h1,h2⟩,q⟩:=h;show{_,(ah (az (cD (pc T.gO (jA T) c (ac (Y 0) O)) (dL (ui jz jz (Lv Iw (aB qu ag ag)) (Y 0) (aB qu ag ag)))))),?_};show U () {z,(),U () (bB ?_)}
  walk_at "a"
  show k9 (λ_=>?_) (λh=>absurd h1 h)
  walk_at "a"
  show kO h2 q
def gm(T:Txt K mg a):aP P w K mg base cU 2 a.eZ.x a.eZ.d ["thing"] Go:=by
 show T.eZ.ok yE λb A outer s H e Q E c h=>?_
 ·obtain⟨z,rfl,h1,q⟩:=h;show{_,(ah (az (cD (pc T.gO (jA T) c (ac (Y 0) O)) (dL (bS D4 (Y 0) ag (aG _)))))),?_};show U () {z,(),U () (bB ?_)}
  walk_at "a"
  show kO h1 q
def yX(T:Txt K mg a):aP P w K mg base cU 3 a.kD.x a.kD.d ["thing"] F6:=by
 show T.kD.ok yB λb A outer s H e Q E c h=>?_
 ·obtain⟨z,rfl,⟨h1,h2⟩,q⟩:=h;show{_,(ah (az (cD (pc T.eZ (gm T) c (ac (Y 0) O)) (dL (bS jz (Y 0) (cC T.xX ()) (aG _)))))),?_};show U () {z,(),h1,U () (bB ?_)}
  walk_at "a"
  show kO h2 q
def xB(T:Txt K mg a):aP P w K mg base cU 2 a.iZ.x a.iZ.d ["thing"] Dh:=by
 show T.iZ.ok xo λb A outer s H e Q E c h=>?_
 ·obtain⟨z,rfl,⟨h1,h2⟩,q⟩:=h;show{_,(ah (az (cD (pc T.gO (jA T) c (ac (Y 0) O)) (dL (ui jz jz ag (Y 0) (aB qu ag ag)))))),?_};show U () {z,(),U () (bB ?_)}
  walk_at "a"
  show k9 (λ_=>?_) (λh=>absurd h1 h)
  walk_at "a"
  show kO h2 q
end
inductive IT(K:O6)(vs:List V)(H:Hp)(Q:VK)(_E:XK):Prop|mk(b:Addr)(m:Str×Int)(_:vs=[.ref b])(_:aY K H b [.str m.1,.int m.2])(_:Wd m.1)(_:(-cw<=m.2/\m.2<=cw))(_:∀H',am H H'->Q (.bl true) H')
inductive Gi(K:O6)(vs:List V)(H:Hp)(Q:VK)(_E:XK):Prop|mk(v:V)(l:List (Str×Int))(_:vs=[v])(_:qb K H l v)(_:(∀m∈l,Wd m.1/\-cw<=m.2/\m.2<=cw))(_:(l.map Prod.fst).Nodup)(_:l.length<=8)(_:∀H',am H H'->Q (.bl true) H')
inductive Du(K:O6)(vs:List V)(H:Hp)(Q:VK)(_E:XK):Prop|mk(p:Addr)(l:Pg)(_:vs=[.ref p,.int (l.length:Nat)])(_:aY K H p (l.map V.int))(_:(∀i∈l,0<=i))(_:l.length<=100)(_:∀H',am H H'->Q (.bl true) H')
inductive BT(K:O6)(vs:List V)(H:Hp)(Q:VK)(_E:XK):Prop|mk(p:Addr)(l:Pg)(_:vs=[.ref p,.int (l.length:Nat)])(_:aY K H p (l.map V.int))(_:(∀i∈l,1<=i/\i<=cw))(_:l.length<=100)(_:∀H',am H H'->Q (.bl true) H')
inductive Jc(K:O6)(vs:List V)(H:Hp)(Q:VK)(_E:XK):Prop|mk(p:Addr)(l:Pb)(_:vs=[.ref p])(_:aY K H p (l.map V.str))(_:(∀w∈l,Wd w))(_:l.Nodup)(_:1<=l.length)(_:l.length<=4)(_:∀H',am H H'->Q (.bl true) H')
def i5(i:Nat):(List.replicate i true).map V.bl++[V.bl true]=(List.replicate (i+1) true).map V.bl:=by rw[List.replicate_succ',k_];rfl
def j0(n:Nat):(List.replicate n true).all id=true:=by simp
def jZ(i:Nat)(h:i<=1000):((List.replicate i true).map V.bl).length<sizeLine:=by rw[b_,NE,mo];lia
def xJ{c d:Type}{f:c->d}{l:List c}{i:Nat}{v:d}(h:(l.map f)[i]?=some v):∃x,l[i]?=some x/\v=f x/\x∈l:=by rw[i_]at h;cases e:l[i]?with|none=>rw[e]at h;cases h|some x=>rw[e]at h;cases h;show{x,(),(),g_ e}
def wJ(l:Pb):(l.map (Sum.inr:Str->bZ)).map kV=l.map V.str:=by rw[wr];rfl
def zn{l:Pb}(h:l.Nodup):(dd (l.map (Sum.inr:Str->bZ))).length=l.length:=by have:=(Kh (l.map (Sum.inr:Str->bZ))).mpr (h.map _ (λa b h e=>h (si e)));rw[this,b_]
section
def An(T:Txt K mg a):aP P w K mg base cU 3 a.mP.x a.mP.d ["thing"] (IT K):=by
 show T.mP.ok Aa λg A outer s H j Q E e h=>?_
 ·obtain⟨b,m,rfl,c,h1,h2,q⟩:=h;show{_,(ah (az (cD (aA (fh K ()) (by rfl) T.bM L2.bd (ac (Y 0) (ac (kx () T.d8 L2.bX) O))) (cD (bS aX (aA (aI K ()) (by rfl) T.bC L2.aL (ac (Y 0) O)) ag (aG _)) (cD (pc T.d9 (g9 T) e (ac (dP K (Y 0) ag) O)) (dL (pc T.fD (pF T) e (ac (dP K (Y 0) ag) O)))))))),?_};show U () {_,"tuple",_,true,(),.inr {b,U () {c,()}},gN (dk ()),true,(),bB ?_};show U () {_,2,(),.inr {_,c,()},(),U () (bB ?_)};show U () (rX c () {V.str m.1,(),.inl {m.1,(),h1,λi f=>(U () (bB ?_))}});show U () (rX (am.tseq f c) () {m.2,(),h2,q i f})
def xC(T:Txt K mg a):aP P w K mg base cU 4 a.i4.x a.i4.d ["thing"] (Gi K):=by
 show T.i4.ok xt λW A outer s H g Q E X h=>?_
 ·obtain⟨v,l,rfl,Z,h1,h2,h3,q⟩:=h;obtain⟨p,g,rfl,j,B,y⟩:=Z;show{_,(af (aN (PW.pt (eW (cu (aT K () (aA (fh K ()) (by rfl) T.bM L2.bd (ac (Y 0) (ac (kx () T.d8 L2.bX) O))) (λ_=>()))) (dJ (aD rh (aA (aI K ()) (by rfl) T.bC L2.aL (ac (Y 0) O)) (cC T.x4 ()) (aG _))))) (ah (az gT)) aF) (af (aN (cu (aT K () (aA (i3 K () ()) (by rfl) T.wF L2.kK (ac (rN ["thing"] ["mark"] [] [1] (ai jv) (ca 1) (iE K () (Y 0)) (λcl C s₀ H₀ ex=>{(lE ["thing"] ["mark"] 1),bR,(pc T.mP (An T) X (ac (Y 1) O))})) O)) (λ_=>()))) (ah (az gT)) aF) (ah (az (bS aX (aA (uR (P:=P) (w:=w)) (by rfl) T.bC L2.aL (ac (b0 (uQ (P:=P) (w:=w) K () ()) (by rfl) T.Eg L2.uV (ac (rN ["thing"] ["mark"] [] [1] (ai jv) (ca 1) (iE K () (Y 0)) (λcl C s₀ H₀ ex=>{(lE ["thing"] ["mark"] 1),bR,(dP K (Y 1) ag)})) O)) O)) (aA (aI K ()) (by rfl) T.bC L2.aL (ac (Y 0) O)) (aG _)))))),?_}
  show U () {_,"tuple",_,true,(),.inr {p,U () {j,()}},gN (dk ()),true,(),cj ?_};show U () {_,g.length,(),.inr {_,j,()},_,U () {(),U () (k9 (λh=>absurd h (by lia)) (λ_=>?_))}};show U () {p,(),{_,j},λD L=>?_};show gR (K:=K) (a:=p) (xs:=g) (λi c H'=>c=(List.replicate i true).map V.bl/\am H H'/\H' D=some (.lst c)) {(),aj (am.refl _) L,ae} (λi c H' _ h=>am.tseq h.2.1 j) ?_ ?_
  ·rintro i v c M k⟨rfl,n,r⟩;have hi:i<g.length:=(c_.mp k).1;have e:l[i]?=some (l[i]'(by lia)):=h_ (by lia);generalize l[i]'(by lia)=m at e;obtain⟨b,F,G⟩:=y i m e;rw[F]at k;cases k;have hm:=h1 m (g_ e);show au (iJ (bB (U () {b,m,(),am.tseq n G,hm.1,hm.2,λI t=>{t _ _ r,jZ i (by lia),lf hi {i5 i,bG (n.trans t) L,ae}}})))
  ·rintro c M⟨rfl,n,r⟩;show{D,_,(),aR.of r,_,(),?_};rw[j0];show cj (U () {p,(),{_,am.tseq n j},λN z=>?_});show gR (K:=K) (a:=p) (xs:=g) (λi c H'=>c=((l.take i).map Prod.fst).map V.str/\am M H'/\H' N=some (.lst c)) {by rw[z3];rfl,aj (am.refl _) z,ae} (λi c H' _ h=>am.tseq (n.trans h.2.1) j) ?_ ?_
   ·rintro i v c I k⟨rfl,t,f⟩;have hi:i<g.length:=(c_.mp k).1;have e:l[i]?=some (l[i]'(by lia)):=h_ (by lia);generalize l[i]'(by lia)=m at e;obtain⟨b,F,G⟩:=y i m e;rw[F]at k;cases k;show au (iJ (bB (U () (rX (am.tseq (n.trans t) G) () {f,?_,lf hi {?_,bG t z,ae}}))))
    ·rw[b_,b_,oD,mo];lia
    ·rw[sV e,k_];rfl
   ·rintro c I⟨rfl,t,f⟩;rw[l_ (by lia),<-wJ]at f;have u:=zn h2;rw[b_]at u;show{N,(l.map Prod.fst).map Sum.inr,(),aR.of f,by rw[b_,b_];lia,λR J=>?_};show{R,U () {ae,by rw[u];omega,?_}};have S:∀o,am H (aH I R o):=λo=>aj (n.trans t) J;show U () {_,g.length,(),.inr {_,am.tseq (S _) j,()},(),?_};rw[u,<-B,ol ()];show q _ (S _)
def vD(T:Txt K mg a):aP P w K mg base cU 3 a.ii.x a.ii.d ["thing","many"] (Du K):=by
 show T.ii.ok vo λk A outer s H t Q E m h=>?_
 ·obtain⟨p,l,rfl,e,h1,h2,q⟩:=h;show{_,(ah (az (cD (aA (fh K ()) (by rfl) T.bM L2.bd (ac (Y 0) (ac (kx () T.d8 L2.bX) O))) (cD (bS aX (aA (aI K ()) (by rfl) T.bC L2.aL (ac (Y 0) O)) (Y 1) (aG _)) (dL (aA (i3 K () ()) (by rfl) T.wF L2.kK (ac (rN iX ["number"] [] [2] (ai kS) (ca 2) (iE K () (Y 0)) (λcl C s₀ H₀ ex=>{(lE iX ["number"] 2),bR,(pc T.eZ (gm T) m (ac (Y 2) O))})) O))))))),?_}
  show U () {_,"tuple",_,true,(),.inr {p,U () {e,()}},gN (dk ()),true,(),bB ?_};show U () {_,l.length,(),.inr {_,e,by simp},U () {(),U () ?_}};rw[ol ()];show bB (U () {p,(),{_,e},λD g=>?_});show gR (K:=K) (a:=p) (xs:=l.map V.int) (λi b H'=>b=(List.replicate i true).map V.bl/\am H H'/\H' D=some (.lst b)) {(),aj (am.refl _) g,ae} (λi b H' _ h=>am.tseq h.2.1 e) ?_ ?_
  ·rintro i v b n j⟨rfl,f,c⟩;have hi:=(c_.mp j).1;obtain⟨z,_,rfl,o⟩:=xJ j;have r:i<l.length:=by simpa using hi
   show au (iJ (bB (U () {z,(),h1 z o,c,jZ i (by lia),lf hi {i5 i,bG f g,ae}})))
  ·rintro b n⟨rfl,f,c⟩;show{D,_,(),aR.of c,?_};rw[j0];show q _ f
def uu(T:Txt K mg a):aP P w K mg base cU 3 a.gy.x a.gy.d ["thing","many"] (BT K):=by
 show T.gy.ok tN λk A outer s H t Q E m h=>?_
 ·obtain⟨p,l,rfl,e,h1,h2,q⟩:=h;show{_,(ah (az (cD (aA (fh K ()) (by rfl) T.bM L2.bd (ac (Y 0) (ac (kx () T.d8 L2.bX) O))) (cD (bS aX (aA (aI K ()) (by rfl) T.bC L2.aL (ac (Y 0) O)) (Y 1) (aG _)) (dL (aA (i3 K () ()) (by rfl) T.wF L2.kK (ac (rN nS ["number"] [] [2] (ai jL) (ca 2) (iE K () (Y 0)) (λcl C s₀ H₀ ex=>{(lE iX ["number"] 2),bR,(pc T.iZ (xB T) m (ac (Y 2) O))})) O))))))),?_}
  show U () {_,"tuple",_,true,(),.inr {p,U () {e,()}},gN (dk ()),true,(),bB ?_};show U () {_,l.length,(),.inr {_,e,by simp},U () {(),U () ?_}};rw[ol ()];show bB (U () {p,(),{_,e},λD g=>?_});show gR (K:=K) (a:=p) (xs:=l.map V.int) (λi b H'=>b=(List.replicate i true).map V.bl/\am H H'/\H' D=some (.lst b)) {(),aj (am.refl _) g,ae} (λi b H' _ h=>am.tseq h.2.1 e) ?_ ?_
  ·rintro i v b n j⟨rfl,f,c⟩;have hi:=(c_.mp j).1;obtain⟨z,_,rfl,o⟩:=xJ j;have r:i<l.length:=by simpa using hi
   show au (iJ (bB (U () {z,(),h1 z o,c,jZ i (by lia),lf hi {i5 i,bG f g,ae}})))
  ·rintro b n⟨rfl,f,c⟩;show{D,_,(),aR.of c,?_};rw[j0];show q _ f
def y4(T:Txt K mg a):aP P w K mg base cU 3 a.kL.x a.kL.d ["thing"] (Jc K):=by
 show T.kL.ok yF λB A outer s H J Q E F h=>?_
 ·obtain⟨p,l,rfl,e,h1,h2,h3,h4,q⟩:=h;show{_,(af (aN (PW.pt (eW (cu (aT K () (aA (fh K ()) (by rfl) T.bM L2.bd (ac (Y 0) (ac (kx () T.d8 L2.bX) O))) (λ_=>()))) (dJ (cu (yM jz jz ag (aA (aI K ()) (by rfl) T.bC L2.aL (ac (Y 0) O)) (cC T.zH ())))))) (ah (az gT)) aF) (ah (az (cD (aA (i3 K () ()) (by rfl) T.wF L2.kK (ac (rN ["thing"] ["arm"] [] [1] (ai nY) (ca 1) (iE K () (Y 0)) (λcl C s₀ H₀ ex=>{(lE ["thing"] ["arm"] 1),bR,(pc T.d9 (g9 T) F (ac (Y 1) O))})) O)) (dL (bS aX (aA (uR (P:=P) (w:=w)) (by rfl) T.bC L2.aL (ac (b0 (AO (P:=P) (w:=w) K () ()) (by rfl) T.Eg L2.uV (ac (Y 0) O)) O)) (aA (aI K ()) (by rfl) T.bC L2.aL (ac (Y 0) O)) (aG _))))))),?_}
  show U () {_,"tuple",_,true,(),.inr {p,U () {e,()}},gN (dk ()),true,(),cj ?_};have f:l.length=(l.map V.str).length:=by simp
  show U () {_,l.length,(),.inr {_,e,f},_,U () {(),U () (k9 (λ_=>?_) (λh=>absurd (by lia) h))}};show r2 (U () ?_);change if(!decide ((l.length:Int)<=4))=true then _ else _
  rw[ol (show(l.length:Int)<=4 by lia)];show cj ?_;show U () {p,(),{_,e},λD m=>?_};show gR (K:=K) (a:=p) (xs:=l.map V.str) (λi b H'=>b=(List.replicate i true).map V.bl/\am H H'/\H' D=some (.lst b)) {(),aj (am.refl _) m,ae} (λi b H' _ h=>am.tseq h.2.1 e) ?_ ?_
  ·rintro i v b n r⟨rfl,j,c⟩;have hi:=(c_.mp r).1;obtain⟨z,_,rfl,G⟩:=xJ r;have I:i<l.length:=by simpa using hi
   show au (iJ (bB (U () {V.str z,(),.inl {z,(),h1 z G,λM t=>{t _ _ c,jZ i (by lia),lf hi {i5 i,bG (j.trans t) m,ae}}}})))
  ·rintro b n⟨rfl,j,c⟩;show{D,_,(),aR.of c,_,(),?_};rw[j0];have g:=zn h2;show bB (U () {p,l.map Sum.inr,(),by rw[wJ];show am.tseq j e,by rw[b_];lia,λu k=>?_});show{u,U () {ae,by rw[g];omega,?_}};have y:∀o,am H (aH n u o):=λo=>aj j k;show U () {_,l.length,(),.inr {_,am.tseq (y _) e,f},(),?_};rw[g,ol ()];show q _ (y _)
end
def sH{A B:Prop}{x y:Str}(h:x≠y)(b:B):if decide (V.str x=V.str y)=true then A else B:=EN (λe=>absurd e h) (λ_=>b)
def ce{A B:Prop}{x:Str}(a:A):if decide (V.str x=V.str x)=true then A else B:=EN (λ_=>a) (λh=>absurd () h)
def wn{A B:Prop}{x y:Str}(b:B)(h:(x==y)=false:=by first|rfl|(dsimp only[Ru.kind];rfl)):if decide (V.str x=V.str y)=true then A else B:=sH (ne_of_beq_false h) b
abbrev jh(K:O6)(H:Hp):List Ru->List V->Prop:=Paired (fG K H)
theorem jh.kp(e:Kp H H')(h:jh K H c d):jh K H' c d:=Paired.mapP h λ_ _ q=>q.kp e
def jh.app(h:jh K H c d)(k:jh K H e f):jh K H (c++e) (d++f):=xv h k
def jh.get(h:jh K H c d)(i:Nat)(v:V)(e:d[i]?=some v):∃r,c[i]?=some r/\fG K H r v:=ue h i v e
def Ru.kids:Ru->List Ru|.not q=>[q]|.both q r=>[q,r]|.either q r=>[q,r]|_=>[]
def Ru.kind:Ru->Str|.any=>"any"|.has _=>"has"|.least _ _=>"least"|.not _=>"not"|.both _ _=>"both"|.either _ _=>"either"
def Ru.deep:Ru->Bool|.not _=>true|.both _ _=>true|.either _ _=>true|_=>false
def Ru.subs_kids(r:Ru):r.subs=r::(r.kids.map Ru.subs).flatten:=by cases r<;>simp[Ru.subs,Ru.kids]
def fG.tup(h:fG K H r v):∃t c,v=.ref t/\aY K H t (.str r.kind::c)/\(r.deep=true->jh K H r.kids c/\c≠[])/\(∀w,r.word1=some w->∃d,c=.str w::d):=by cases h with|any h=>show{_,_,(),h,λe=>(nomatch e),λw e=>(nomatch e)}|has h=>show{_,_,(),h,λe=>(nomatch e),λw e=>by cases e;show{_,()}}|least h=>show{_,_,(),h,λe=>(nomatch e),λw e=>by cases e;show{_,()}}|not h q=>show{_,U () {h,λ_=>{.cons q .nil,nofun},λw e=>(nomatch e)}}|both h q r=>show{_,U () {h,λ_=>{.cons q (.cons r .nil),nofun},λw e=>(nomatch e)}}|either h q r=>show{_,U () {h,λ_=>{.cons q (.cons r .nil),nofun},λw e=>(nomatch e)}}
def Hk(r:Ru):ox (.str r.kind) [.str "not",.str "both",.str "either"]=r.deep:=by cases r with|any=>show(show ox (.str "any") [.str "not",.str "both",.str "either"]=false by decide+kernel)|has _=>show(show ox (.str "has") [.str "not",.str "both",.str "either"]=false by decide+kernel)|least _ _=>show(show ox (.str "least") [.str "not",.str "both",.str "either"]=false by decide+kernel)|not _=>show(show ox (.str "not") [.str "not",.str "both",.str "either"]=true by decide+kernel)|both _ _=>show(show ox (.str "both") [.str "not",.str "both",.str "either"]=true by decide+kernel)|either _ _=>show(show ox (.str "either") [.str "not",.str "both",.str "either"]=true by decide+kernel)
def Hj(r:Ru):ox (.str r.kind) [.str "has",.str "least"]=r.word1.isSome:=by cases r with|any=>show(show ox (.str "any") [.str "has",.str "least"]=false by decide+kernel)|has _=>show(show ox (.str "has") [.str "has",.str "least"]=true by decide+kernel)|least _ _=>show(show ox (.str "least") [.str "has",.str "least"]=true by decide+kernel)|not _=>show(show ox (.str "not") [.str "has",.str "least"]=false by decide+kernel)|both _ _=>show(show ox (.str "both") [.str "has",.str "least"]=false by decide+kernel)|either _ _=>show(show ox (.str "either") [.str "has",.str "least"]=false by decide+kernel)
def Hc{r k:Ru}{n:Nat}(h:k∈r.kids)(hh:r.hgt<=n+1):k.hgt<=n:=by
 cases r with|any=>cases h|has _=>cases h|least _ _=>cases h|not q=>
  have:k=q:=by simpa[Ru.kids]using h
  have hh:q.hgt+1<=n+1:=hh;rw[this];lia|both q r=>
  have:k=q\/k=r:=by simpa[Ru.kids]using h
  have hh:max q.hgt r.hgt+1<=n+1:=hh;have h1:=Ox q.hgt r.hgt;have h2:=Of q.hgt r.hgt;rcases this with rfl|rfl<;>lia|either q r=>
  have:k=q\/k=r:=by simpa[Ru.kids]using h
  have hh:max q.hgt r.hgt+1<=n+1:=hh;have h1:=Ox q.hgt r.hgt;have h2:=Of q.hgt r.hgt;rcases this with rfl|rfl<;>lia
def Fh(x:V)(c:List V):HT.iD (x::c).length 0 (some 1)=1:=by change(if(1:Int)<0 then((1:Int)+((x::c).length:Int)).toNat else min (1:Int).toNat (c.length+1))=1;rw[me (by decide)];change min 1 (c.length+1)=1;lia
def Hv(x:V)(c:List V):¬HT.iD (x::c).length 0 (some 1)=0:=by rw[Fh];decide
def Fg(x:V)(c:List V):vN (x::c) (some 1) none=c:=by unfold vN;rw[Fh,HT.DM];change c.take ((c.length+1)-1)=c;rw[Nat.add_sub_cancel,l_ (e_ _)]
inductive De(K:O6)(h:Nat)(vs:List V)(H:Hp)(Q:VK)(_E:XK):Prop|mk(r:Ru)(rv:V)(_:vs=[rv])(_:fG K H r rv)(_:r.hgt<=h)(_:h<=6)(_:∀(l:Addr)(us:List V)(H':Hp),am H H'->H l=none->H' l=some (.lst us)->jh K H' r.subs us->Q (.ref l) H')
section
theorem jO(T:Txt K mg a):∀h:Nat,aP P w K mg base cU (h+1) a.bY.x a.bY.d ["rule"] (De K h)
 |0=>by
  show T.bY.f.ok iz (λe H Q E h=>?_) (λZ A outer s H e Q E hr h=>?_)
  ·obtain⟨r,rv,rfl,_⟩:=h;rfl
  ·obtain⟨r,rv,rfl,_,hh,_⟩:=h;have:=r.hgt_pos;lia|n+1=>by
  have ih:=jO T n;show T.bY.f.ok iz (λe H Q E h=>?_) (λZ A outer s H e Q E hr h=>?_)
  ·obtain⟨r,rv,rfl,_⟩:=h;rfl
  ·obtain⟨r,rv,rfl,hR,hh,h6,q⟩:=h;obtain⟨t,e,rfl,hT,v,_⟩:=hR.tup;show{_,(af (bo 1 iz.nd (bg (ac (Y 0) O))) (af (aN (aD (qv K ()) (dP K (Y 0) ag) (bp (ac aE (ac aE (ac aE O)))) (by with_unfolding_all rfl)) (ah (d6 qq () (iE K () (gG (A7 K ()) (Y 0) (iU ag) iV)) (sf 2 iz.nd) (ah (aM (eO K () PySem.F.plainAttrs_list PySem.F.slot_list_extend PySem.F.type_list_extend wG (Y 1) (ac (bT ih hr () T.bY.m T.bY.f.kp T.bY.b .nil aQ (ac (Y 2) O)) O)))))) aF) (ah (az (Y 1))))),?_}
   show U () {ls (),λl R=>?_};have s0:=aj (o:=.lst [.ref t]) (am.refl H) R;have y:aH H l (.lst [.ref t]) l=some (.lst [.ref t]):=ae
   try dsimp only
   generalize aH H l (.lst [.ref t])=H0 at s0 y⊢;show U () (rX (am.tseq s0 hT) (aq (k:=0) ()) {ls (),λt3 G=>?_});have I:=aj (o:=.tup [.str "not",.str "both",.str "either"]) s0 G;have j:aH H0 t3 (.tup [.str "not",.str "both",.str "either"]) l=some (.lst [.ref t]):=by rw[ak (av y G)];show y
   show{t3,U () {.inr (aY.of ae),(),(),U () ?_}};change if ox (.str r.kind) [.str "not",.str "both",.str "either"]=true then _ else _
   rw[Hk]
   try dsimp only
   generalize aH H0 t3 (.tup [.str "not",.str "both",.str "either"])=S at I j⊢;cases hd:r.deep with
 |false=>
    show cj (U () ?_);have hs:r.subs=[r]:=by cases r<;>first|rfl|cases hd
    show q l [.ref t] S I R j (by rw[hs];show .cons (hR.kp (.of I)) .nil)|true=>
    obtain⟨hK,as⟩:=v hd;show bB ?_;show{_,(),_,(),?_};have hc:=r.cnt_lt;have ax:2^r.hgt<=2^6:=Nl (by decide) (by lia);have aa:e.length=r.kids.length:=(Paired.length hK).symm;have J:∀(i:Nat)(k:Ru),r.kids[i]?=some k->k.hgt<=n:=λi k V=>Hc (g_ V) hh;show{t,U () {am.tseq I hT,λz=>absurd z.1 (Hv _ _),λp hp=>?_}};rw[Fg];have s2:=aj (o:=.tup e) I hp;have L:aH S p (.tup e) l=some (.lst [.ref t]):=by rw[ak (av j hp)];show j
    have B:aH S p (.tup e) p=some (.tup e):=ae
    try dsimp only
    generalize aH S p (.tup e)=H2 at s2 L B⊢;show{p,(),{_,aY.of B},Ho (xs:=e) (D:={nx:=K0 (IB 1) {nx:=λ_ H'=>Q .non H',rt:=Q},rt:=Q}) (λi W H'=>am H H'/\H' p=some (.tup e)/\(∃C,H' l=some (.lst C)/\jh K H' (r::((r.kids.take i).map Ru.subs).flatten) C)/\∃v2,W=[some (.ref t),some (.ref l),v2]) {s2,B,{[.ref t],L,.cons (hR.kp (.of s2)) .nil},_,()} (λi W H' _ h=>aY.of h.2.1) ?_ ?_}
    ·rintro i x W H3 hx⟨X,u,⟨C,c,g⟩,v2,rfl⟩;obtain⟨k,V,ad⟩:=jh.get hK i x hx;show au (U () {.inl {(),_,aR.of c},U () {k,x,(),ad.kp (.of X),J i k V,by lia,λl' an H4 M a3 ap N=>?_}});have e1:((r.kids.take (i+1)).map Ru.subs).flatten=((r.kids.take i).map Ru.subs).flatten++k.subs:=by rw[z5,V,k_,List.flatten_append];simp
     have n1:=Paired.length g;have n2:=Paired.length N;have n3:(((r.kids.take i).map Ru.subs).flatten).length+k.subs.length<=64:=by
      have e2:r.subs.length=1+((r.kids.map Ru.subs).flatten).length:=by rw[r.subs_kids,o_];lia
      have e3:((r.kids.map Ru.subs).flatten).length=(((r.kids.take (i+1)).map Ru.subs).flatten).length+(((r.kids.drop (i+1)).map Ru.subs).flatten).length:=by rw[<-mu,<-List.flatten_append,<-k_,t_]
      rw[e1,mu]at e3;unfold Ru.cnt at hc;lia
     rw[o_]at n1;show{l,l',_,U () {(),M _ _ c,ap,by rw[mo];lia,?_}};have kq:Kp H4 (aH H4 l (.lst (C++an))):=.lst (M _ _ c);show{bG (X.trans M) R,?_,{_,ae,?_},_,()}
     ·rw[ak (λz=>by rw[z,c]at u;cases u)];show M _ _ u
     ·rw[e1,<-List.cons_append];show jh.app ((g.kp (.of M)).kp kq) (N.kp kq)
    ·rintro W H3⟨X,u,⟨C,c,g⟩,v2,rfl⟩;show U () (q l C H3 X R c ?_);rw[r.subs_kids];rw[aa,l_ (e_ _)]at g;show g
end
def Kg[DecidableEq g][BEq g][LawfulBEq g][DecidableEq h][BEq h][LawfulBEq h](f:g->h)(i:∀a b,f a=f b->a=b)(d:List g):dd (d.map f)=(dd d).map f:=by
 have gen:∀(d c:List g),(d.map f).foldl PyProof.Rows.step_dedup (c.map f)=(d.foldl PyProof.Rows.step_dedup c).map f:=by
  intro d
  induction d with|nil=>intro c;rfl|cons k r j=>
   intro c;rw[o8,C1,C1,<-j]
   congr 1
   unfold PyProof.Rows.step_dedup;have e:(c.map f).any (λy=>y==f k)=c.any (λy=>y==k):=by
    rw[List.any_map]
    congr 1
    funext y
    change(f y==f k)=(y==k)
    by_cases q:y=k
    ·rw[q,tA,tA]
    ·rw[beq_false_of_ne q,beq_false_of_ne (λz=>q (i _ _ z))]
   by_cases q:c.any (λy=>y==k)=true
   ·rw[md (e.trans q),md q]
   ·rw[me (λz=>q (e.symm.trans z)),me q,k_];rfl
 show gen d []
def Ru.wset(r:Ru):List Str:=dd r.words
def Ru.wset_keys(r:Ru):dd (r.words.map (Sum.inr:Str->bZ))=r.wset.map Sum.inr:=Kg Sum.inr (λ_ _ h=>si h) r.words
def Ru.wset_le(r:Ru):r.wset.length<=r.cnt:=by have h1:=qM r.words [];have h2:=r.words_le;unfold Ru.wset dd;simp at h1;lia
inductive F2(K:O6)(vs:List V)(H:Hp)(Q:VK)(_E:XK):Prop|mk(r:Ru)(rv:V)(_:vs=[rv])(_:fG K H r rv)(_:r.hgt<=6)(_:∀(l:Addr)(ss:Pb)(H':Hp),am H H'->H l=none->H' l=some (.lst (ss.map V.str))->ss.Perm r.wset->ss.Pairwise mT->Q (.ref l) H')
section
def yT(T:Txt K mg a):aP P w K mg base cU 8 a.jX.x a.jX.d ["rule"] (F2 K):=by
 show T.jX.ok yz λaa A outer s H vs Q E hr h=>?_
 ·obtain⟨r,rv,rfl,hR,hh,q⟩:=h;show{_,(ah (az (aA (xU (P:=P) (w:=w) ()) (by rfl) T.uA L2.mq (ac (b0 (uQ (P:=P) (w:=w) K () ()) (by rfl) T.Eg L2.uV (ac (rN ["rule"] ["inner"] [] [1] (ai nW) (ca 1) (cP K () (bT ((jO T 6).mono (by decide)) hr () T.bY.m T.bY.f.kp T.bY.b .nil aQ (ac (Y 0) O))) (λcl C s₀ H₀ ex=>{(lE ["rule"] ["inner"] 1),(pC (aD (qv K ()) (dP K (Y 1) ag) (bp (ac aE (ac aE O))) (by with_unfolding_all rfl))),(dP K (Y 1) ag)})) O)) O)))),?_}
  show U () {r,rv,(),hR,hh,e_ _,λl F H1 M hl u y=>?_};have hc:=r.cnt_lt;have ad:2^r.hgt<=2^6:=Nl (by decide) (by lia);have G:F.length=r.subs.length:=(Paired.length y).symm;have an:r.subs.length<64:=by unfold Ru.cnt at hc;lia
  show{l,(),{_,aR.of u},λD N=>?_};show i0 (K:=K) (a:=l) (xs:=F) (λi e H'=>e=((r.subs.take i).filterMap Ru.word1).map V.str/\am H1 H'/\H' D=some (.lst e)) {by rw[z3];rfl,aj (am.refl _) N,ae} (λi e H' _ h=>aR.of (h.2.1 _ _ u)) ?_ ?_
  ·rintro i v e B R⟨rfl,p,c⟩;have hi:i<F.length:=(c_.mp R).1;obtain⟨k,hk,I⟩:=jh.get y i v R;obtain⟨t,vs,rfl,S,_,hw⟩:=(I.kp (.of p)).tup;show au (U () (rX S (aq (k:=0) ()) {ls (),λW J=>?_}));have g:=aj (o:=.tup [.str "has",.str "least"]) (am.refl B) J;show{W,U () {.inr (aY.of ae),(),(),U () ?_}};change if ox (.str k.kind) [.str "has",.str "least"]=true then _ else _
   rw[Hj]
   try dsimp only
   generalize aH B W (.tup [.str "has",.str "least"])=H3 at g⊢;have X:(r.subs.take (i+1)).filterMap Ru.word1=(r.subs.take i).filterMap Ru.word1++k.word1.toList:=by
    rw[z5,hk,u2]
    congr 1
   have fl:((r.subs.take i).filterMap Ru.word1).length<=i:=nr (N_ _ _) (J_ _ _);cases j:k.word1 with|none=>show cj (lf hi {?_,p.trans g,g _ _ c});rw[X,j];simp|some wd=>
    obtain⟨ap,rfl⟩:=hw wd j;show bB (U () (rX (am.tseq g S) (aq (k:=1) ()) {g _ _ c,?_,lf hi {?_,bG (p.trans g) N,ae}}))
    ·rw[b_,mo];lia
    ·rw[X,j,k_];rfl
  ·rintro e B⟨rfl,p,c⟩;rw[G,l_ (e_ _),r.words_subs]at c;have wl:=r.words_le;have as:=r.wset_le;have c:B D=some (.lst ((r.words.map (Sum.inr:Str->bZ)).map kV)):=by rw[wr];show c
   show{D,r.words.map Sum.inr,(),aR.of c,by rw[b_];lia,λZ L=>?_};rw[r.wset_keys];have g:=aj (o:=xm P w Z (r.wset.map Sum.inr)) (am.refl B) L;show{Z,r.wset,(),ae,by lia,λq2 ss n hp hs=>?_};have s4:=aj (o:=.lst (ss.map V.str)) g n;show q q2 ss _ ((M.trans p).trans s4) (by cases z:H q2 with|none=>rfl|some o=>rw[((M.trans p).trans g) _ _ z]at n;cases n) ae hp hs
end
theorem Ee[BEq c][LawfulBEq c]:∀{l m:List c},l.Nodup->(∀x∈l,x∈m)->l.length<=m.length
 |[],m,_,_=>ov _|a::l,m,h,g=>by
  obtain⟨h1,h2⟩:=O2.mp h;have p:=List.perm_cons_erase (g a oa);have:=Ee (m:=m.erase a) h2 λx b=>by
   rcases vu.mp (p.mem_iff.mp (g x (np _ b)))with rfl|q
   ·show absurd b h1
   ·show q
  have e:=p.length_eq;rw[o_]at e⊢;lia
theorem Ff[DecidableEq d][BEq d][LawfulBEq d]:∀(f c:List d)(x:d),x∈f.foldl PyProof.Rows.step_dedup c↔x∈c\/x∈f
 |[],c,x=>by simp|k::r,c,x=>by
  rw[C1,Ff r];unfold PyProof.Rows.step_dedup
  by_cases e:c.any (λy=>y==k)=true
  ·rw[md e];obtain⟨y,b,q⟩:=On.mp e;have g:k∈c:=by rw[<-eq_of_beq q];show b
   constructor
   ·rintro(h|h)
    ·show .inl h
    ·show .inr (np _ h)
   ·rintro(h|h)
    ·show .inl h
    ·rcases vu.mp h with rfl|h
     ·show .inl g
     ·show .inr h
  ·rw[me e];simp only[List.mem_append,List.mem_singleton,vu,or_assoc,rl,false_or]
def Kf{c:Type}[DecidableEq c][BEq c][LawfulBEq c]{d:List c}{x:c}(h:x∈dd d):x∈d:=by
 rcases(Ff d [] x).mp h with h|h
 ·cases h
 ·show h
theorem Ih[DecidableEq d][BEq d][LawfulBEq d]:∀(f c:List d),c.Nodup->(f.foldl PyProof.Rows.step_dedup c).Nodup
 |[],c,h=>h|k::r,c,h=>by
  rw[C1];show Ih r _ ?_;unfold PyProof.Rows.step_dedup
  by_cases e:c.any (λy=>y==k)=true
  ·rw[md e];show h
  ·rw[me e,p5];show{h,by simp,λa g b i=>?_};rw[List.mem_singleton.mp i];rintro rfl;show e (On.mpr {a,g,tA a})
inductive Gk(K:O6)(n:Nat)(vs:List V)(H:Hp)(Q:VK)(_E:XK):Prop|mk(r:Ru)(rv:V)(ws:Pb)(_:vs=[rv,.int (n:Nat)])(_:fG K H r rv)(_:r.hgt<=n)(_:jS ws r)(_:(∀w∈ws,Wd w))(_:∀H',am H H'->Q (.bl true) H')
def ED{a b n:Nat}(h:max a b+1<=n+1):a<=n/\b<=n:=by have h1:=Ox a b;have h2:=Of a b;lia
section
theorem rj(T:Txt K mg a):∀n:Nat,aP P w K mg base cU (n+3) a.cx.x a.cx.d ["thing","depth"] (Gk K n)
 |0=>by
  show T.cx.f.ok lL (λy H Q E h=>?_) (λB A outer s H y Q E j h=>?_)
  ·obtain⟨r,C,e,rfl,_⟩:=h;rfl
  ·obtain⟨r,C,e,rfl,_,hh,_⟩:=h;have:=r.hgt_pos;lia|n+1=>by
  have D:=rj T n;show T.cx.f.ok lL (λy H Q E h=>?_) (λB A outer s H y Q E j h=>?_)
  ·obtain⟨r,C,e,rfl,_⟩:=h;rfl
  ·obtain⟨r,C,e,rfl,M,hh,o,l,q⟩:=h;show{_,(af (aN (PW.pt (eW (aD aX (Y 1) ag (aG _)) (eW (cu (aT K () (aA (fh K ()) (by rfl) T.bM L2.bd (ac (Y 0) (ac (kx () T.d8 L2.bX) O))) (λ_=>()))) (dJ (aD aX (aA (aI K ()) (by rfl) T.bC L2.aL (ac (Y 0) O)) ag (aG _)))))) (ah (az gT)) aF) (af (bo 2 lL.nd (dP K (Y 0) ag)) (af (aN (aD aX (Y 2) aE (aG _)) (ah (az (bS aX (aA (aI K ()) (by rfl) T.bC L2.aL (ac (Y 0) O)) ag (aG _)))) aF) (af (aN (aD aX (Y 2) aE (aG _)) (ah (az (cD (bS aX (aA (aI K ()) (by rfl) T.bC L2.aL (ac (Y 0) O)) ag (aG _)) (dL (bT ((g9 T).mono (by first|decide|omega)) j () T.d9.m T.d9.f.kp T.d9.b .nil aQ (ac (dP K (Y 0) ag) O)))))) aF) (af (aN (aD aX (Y 2) aE (aG _)) (ah (az (cD (bS aX (aA (aI K ()) (by rfl) T.bC L2.aL (ac (Y 0) O)) ag (aG _)) (cD (bT ((g9 T).mono (by first|decide|omega)) j () T.d9.m T.d9.f.kp T.d9.b .nil aQ (ac (dP K (Y 0) ag) O)) (dL (bT ((pF T).mono (by first|decide|omega)) j () T.fD.m T.fD.f.kp T.fD.b .nil aQ (ac (dP K (Y 0) ag) O))))))) aF) (af (aN (aD aX (Y 2) aE (aG _)) (ah (az (cD (bS aX (aA (aI K ()) (by rfl) T.bC L2.aL (ac (Y 0) O)) ag (aG _)) (dL (bT D j () T.cx.m T.cx.f.kp T.cx.b .nil aQ (ac (dP K (Y 0) ag) (ac (aB f9 (Y 1) ag) O))))))) aF) (af (aN (PW.pt (eW (aD aX (Y 2) aE (aG _)) (dJ (aD aX (Y 2) aE (aG _))))) (ah (az (cD (bS aX (aA (aI K ()) (by rfl) T.bC L2.aL (ac (Y 0) O)) ag (aG _)) (cD (bT D j () T.cx.m T.cx.f.kp T.cx.b .nil aQ (ac (dP K (Y 0) ag) (ac (aB f9 (Y 1) ag) O))) (dL (bT D j () T.cx.m T.cx.f.kp T.cx.b .nil aQ (ac (dP K (Y 0) ag) (ac (aB f9 (Y 1) ag) O)))))))) aF) (ah (az gT))))))))),?_}
   have hd:((n+1:Nat):Int)-1=(n:Int):=by lia
   obtain⟨t,y,rfl,z,-⟩:=M.tup;show U () {(),U () (kC (λh=>absurd h (by lia)) (λF=>?_))};show U () {_,"tuple",_,true,(),.inr {t,U () {z,()}},gN (dk ()),true,(),cj ?_};show U () {_,U () {.inr {_,z,()},(),U () (kC (λh=>absurd h (by rw[o_];lia)) (λG=>?_))}};show U () (rX z (aq (k:=0) ()) ?_);show au ?_;clear z F G;cases M with
 |any h=>show U () {(),U () (ce ?_)};show U () {_,U () {.inr {_,h,()},(),?_}};show kO (p:=V.int 1=V.int 1) () (q H (am.refl _))|has h=>cases o with|has hm=>show U () {(),U () (wn ?_)};show U () {(),U () (ce ?_)};show U () {_,U () {.inr {_,h,()},(),U () (bB ?_)}};show U () (rX h () {V.str _,(),.inl (U () {l _ hm,q})})
   |least h=>cases o with|least hm h1 h2=>(iterate 2 show U () {(),U () (wn ?_)});show U () {(),U () (ce ?_)};show U () {_,U () {.inr {_,h,()},(),U () (bB ?_)}};show U () (rX h () {V.str _,(),.inl (U () {l _ hm,λI c=>(U () (bB ?_))})});show{_,(),t,_,2,_,(),(),am.tseq c h,(),_,(),(h1,h2,),q I c}
   |not h h1=>cases o with|not o1=>rename_i g i;have hh:g.hgt+1<=n+1:=hh;(iterate 3 show U () {(),U () (wn ?_)});show U () {(),U () (ce ?_)};show U () {_,U () {.inr {_,h,()},(),U () (bB ?_)}};show U () (rX h () (U () (r2 ?_)));show{g,i,e,by change[i,V.int (((n+1:Nat):Int)-1)]=_;rw[hd],h1,by lia,o1,l,q}
   |both h h1 h2=>cases o with|both o1 o2=>rename_i g u i v;have hh:=ED (show max g.hgt u.hgt+1<=n+1 from hh);(iterate 4 show U () {(),U () (wn ?_)});show U () {(),U () (ce ?_)};show U () {_,U () {.inr {_,h,()},(),U () (bB ?_)}};show U () (rX h () (U () (r2 ?_)));show{g,i,e,by change[i,V.int (((n+1:Nat):Int)-1)]=_;rw[hd],h1,hh.1,o1,l,λI c=>(U () (bB ?_))};show U () (rX (am.tseq c h) () (U () (r2 ?_)));show{u,v,e,by change[v,V.int (((n+1:Nat):Int)-1)]=_;rw[hd],h2.kp (.of c),hh.2,o2,l,λJ L=>q J (c.trans L)}
   |either h h1 h2=>cases o with|either o1 o2=>rename_i g u i v;have hh:=ED (show max g.hgt u.hgt+1<=n+1 from hh);(iterate 5 show U () {(),U () (wn ?_)});show U () {(),U () (ce ?_)};show U () {_,U () {.inr {_,h,()},(),U () (bB ?_)}};show U () (rX h () (U () (r2 ?_)));show{g,i,e,by change[i,V.int (((n+1:Nat):Int)-1)]=_;rw[hd],h1,hh.1,o1,l,λI c=>(U () (bB ?_))};show U () (rX (am.tseq c h) () (U () (r2 ?_)));show{u,v,e,by change[v,V.int (((n+1:Nat):Int)-1)]=_;rw[hd],h2.kp (.of c),hh.2,o2,l,λJ L=>q J (c.trans L)}
end
def jS.mem(h:jS c r):∀w∈r.words,w∈c:=by induction h with|any=>showλw h=>(nomatch h)|has h=>intro w b;rw[List.mem_singleton.mp b];show h|least h=>intro w b;rw[List.mem_singleton.mp b];show h|not _ h=>show h|both _ _ h g=>showλw b=>(List.mem_append.mp b).elim (h w) (g w)|either _ _ h g=>showλw b=>(List.mem_append.mp b).elim (h w) (g w)
def jS.few{c:Pb}{r:Ru}(h:jS c r):r.wset.length<=c.length:=Ee (Ih r.words [] NX) λx b=>h.mem x (Kf b)
inductive Dr(K:O6)(vs:List V)(H:Hp)(Q:VK)(_E:XK):Prop|mk(r:Ru)(rv:V)(ws:Pb)(_:vs=[rv])(_:fG K H r rv)(_:r.hgt<=6)(_:r.cnt<=30)(_:jS ws r)(_:(∀w∈ws,Wd w))(_:ws.length<=3)(_:∀H',am H H'->Q (.bl true) H')
section
def Am(T:Txt K mg a):aP P w K mg base cU 10 a.mO.x a.mO.d ["thing"] (Dr K):=by
 show T.mO.ok z9 λv A outer s H L Q E c h=>?_
 ·obtain⟨r,e,y,rfl,g,hh,hc,o,z,M,q⟩:=h;show{_,(af (aN (cu (aT K () (bT ((rj T 6).mono (by decide)) c () T.cx.m T.cx.f.kp T.cx.b .nil aQ (ac (Y 0) (ac (cC T.uT ()) O))) (λ_=>()))) (ah (az gT)) aF) (ah (az (cD (bS jz (aA (aI K ()) (by rfl) T.bC L2.aL (ac (bT ((jO T 6).mono (by decide)) c () T.bY.m T.bY.f.kp T.bY.b .nil aQ (ac (Y 0) O)) O)) (cC T.xZ ()) (aG _)) (dL (bS jz (aA (aI K ()) (by rfl) T.bC L2.aL (ac (pc T.jX (yT T) c (ac (Y 0) O)) O)) (cC T.xW ()) (aG _))))))),?_}
  show U () {r,e,y,(),g,hh,o,z,λN i=>(U () (cj ?_))};show U () {r,e,(),g.kp (.of i),hh,e_ _,λl p R t B j k=>?_};have C:p.length=r.subs.length:=(Paired.length k).symm;unfold Ru.cnt at hc;show{_,p.length,(),.inl {_,aR.of j,()},_,U () {(),U () (k9 (λ_=>?_) (λh=>absurd (by lia) h))}};show U () {r,e,(),g.kp (.of (i.trans t)),hh,λS u D F G n I _=>?_};have V:=o.few;have J:=I.length_eq;show{_,u.length,(),.inl {_,aR.of n,by simp},_,U () {(),?_}};show kO (show((u.length:Nat):Int)<=3 by lia) (q D ((i.trans t).trans F))
end
inductive Gj(K:O6)(h:Nat)(vs:List V)(H:Hp)(Q:VK)(_E:XK):Prop|mk(r:Ru)(rv:V)(ms:List (Str×Int))(mv:V)(_:vs=[rv,mv])(_:fG K H r rv)(_:r.hgt<=h)(_:qb K H ms mv)(_:ms.length<=100)(_:∀H',am H H'->Q (.bl (r.sat ms)) H')
section
theorem y3(T:Txt K mg a):∀h:Nat,aP P w K mg base cU (h+1) a.dY.x a.dY.d ["rule","marks"] (Gj K h)
 |0=>by
  show T.dY.f.ok tE (λvs H Q E h=>?_) (λaa A outer s H vs Q E N h=>?_)
  ·obtain⟨r,rv,k,mv,rfl,_⟩:=h;rfl
  ·obtain⟨r,rv,k,mv,rfl,_,hh,_⟩:=h;have:=r.hgt_pos;lia|n+1=>by
  have S:=y3 T n;show T.dY.f.ok tE (λvs H Q E h=>?_) (λaa A outer s H vs Q E N h=>?_)
  ·obtain⟨r,rv,k,mv,rfl,_⟩:=h;rfl
  ·obtain⟨r,rv,k,mv,rfl,hR,hh,R,o,q⟩:=h;obtain⟨mt,l,rfl,G,W,X⟩:=id R;show{_,(af (bo 2 tE.nd (dP K (Y 0) ag)) (af (aN (aD aX (Y 2) aE (aG _)) (ah (az gT)) aF) (af (aN (aD aX (Y 2) aE (aG _)) (ah (az (aA (qQ K () ()) (by rfl) T.Ej L2.uY (ac (rN pZ ["mark"] [] [3] (ai sJ) (ca 3) (iE K () (Y 1)) (λcl C s₀ H₀ ex=>{(lE pZ ["mark"] 3),bR,(bS aX (dP K (Y 3) ag) (dP K (Y 0) ag) (aG _))})) O)))) aF) (af (aN (aD aX (Y 2) aE (aG _)) (ah (az (aA (qQ K () ()) (by rfl) T.Ej L2.uY (ac (rN pZ ["mark"] [] [3] (ai sJ) (ca 3) (iE K () (Y 1)) (λcl C s₀ H₀ ex=>{(lE pZ ["mark"] 3),bR,(cD (bS aX (dP K (Y 3) ag) (dP K (Y 0) ag) (aG _)) (dL (bS D4 (dP K (Y 3) ag) (dP K (Y 0) ag) (aG _))))})) O)))) aF) (af (aN (aD aX (Y 2) aE (aG _)) (ah (az (DX (bT S N () T.dY.m T.dY.f.kp T.dY.b .nil aQ (ac (dP K (Y 0) ag) (ac (Y 1) O)))))) aF) (af (aN (aD aX (Y 2) aE (aG _)) (ah (az (cD (bT S N () T.dY.m T.dY.f.kp T.dY.b .nil aQ (ac (dP K (Y 0) ag) (ac (Y 1) O))) (dL (bT S N () T.dY.m T.dY.f.kp T.dY.b .nil aQ (ac (dP K (Y 0) ag) (ac (Y 1) O))))))) aF) (ah (az (Lw (bT S N () T.dY.m T.dY.f.kp T.dY.b .nil aQ (ac (dP K (Y 0) ag) (ac (Y 1) O))) (dL (bT S N () T.dY.m T.dY.f.kp T.dY.b .nil aQ (ac (dP K (Y 0) ag) (ac (Y 1) O))))))))))))),?_}
   have c:∀{A B:Prop}{x y:Str},x≠y->B->if decide (V.str x=V.str y)=true then A else B:=λh b=>EN (λe=>absurd e h) (λ_=>b)
   have j:∀{A B:Prop}{x:Str},A->if decide (V.str x=V.str x)=true then A else B:=λa=>EN (λ_=>a) (λh=>absurd () h)
   cases hR with|any h=>show U () (rX h () ?_);show U () {(),U () (j (q _ (am.refl _)))}|has h=>
    show U () (rX h () ?_);show U () {(),U () (c (dk ()) ?_)};show U () {(),U () (j ?_)};rename_i Z wd;show U () {mt,(),{_,G},λD hD=>?_};have p:∀g,am H (aH H D (.lst g)):=λg=>aj (am.refl _) hD;show gR (K:=K) (a:=mt) (xs:=l) (λi g H'=>g=((k.take i).map (L1 wd)).map V.bl/\H'=aH H D (.lst g)) {by rw[z3];rfl,()} (λi g H' _ h=>h.2▸am.tseq (p _) G) ?_ ?_
    ·rintro i v g _ J⟨rfl,rfl⟩;have hi:i<l.length:=(c_.mp J).1;obtain⟨b,hb,hB⟩:=X i (k[i]'(by lia)) (h_ (by lia));rw[hb]at J;cases J;show au (iJ (bB ?_));show U () (rX (am.tseq (p _) hB) () (U () (rX (am.tseq (p _) h) () {(),ae,?_,lf hi {?_,?_}})))
     ·rw[b_,b_,oD,mo];lia
     ·rw[sV (h_ (by lia)),k_];rfl
     ·rw[iw]
    ·rintro g _⟨rfl,rfl⟩;show{D,_,(),aR.of ae,?_};rw[W,l_ (e_ _)];show q _ (p _)|least h=>
    show U () (rX h () ?_);(iterate 2 show U () {(),U () (c (dk ()) ?_)});show U () {(),U () (j ?_)};rename_i Z wd t;show U () {mt,(),{_,G},λD hD=>?_};have p:∀g,am H (aH H D (.lst g)):=λg=>aj (am.refl _) hD;show gR (K:=K) (a:=mt) (xs:=l) (λi g H'=>g=((k.take i).map (hE wd t)).map V.bl/\H'=aH H D (.lst g)) {by rw[z3];rfl,()} (λi g H' _ h=>h.2▸am.tseq (p _) G) ?_ ?_
    ·rintro i v g _ J⟨rfl,rfl⟩;have hi:i<l.length:=(c_.mp J).1;obtain⟨b,hb,hB⟩:=X i (k[i]'(by lia)) (h_ (by lia));rw[hb]at J;cases J;have fin:∀b,b=hE wd t (k[i]'(by lia))->aH H D (.lst (((k.take i).map (hE wd t)).map V.bl)) D=some (.lst (((k.take i).map (hE wd t)).map V.bl))/\(((k.take i).map (hE wd t)).map V.bl).length<sizeLine/\∃m',m'<l.length-i/\m'=l.length-(i+1)/\i+1<=l.length/\((((k.take i).map (hE wd t)).map V.bl++[V.bl b]=((k.take (i+1)).map (hE wd t)).map V.bl)/\aH (aH H D (.lst (((k.take i).map (hE wd t)).map V.bl))) D (.lst (((k.take i).map (hE wd t)).map V.bl++[V.bl b]))=aH H D (.lst (((k.take i).map (hE wd t)).map V.bl++[V.bl b]))):=λb eb=>by
      show{ae,?_,lf hi {?_,?_}}
      ·rw[b_,b_,oD,mo];lia
      ·rw[sV (h_ (by lia)),k_,eb];rfl
      ·rw[iw]
     show au (iJ (bB ?_));show U () (rX (am.tseq (p _) hB) () (U () (rX (am.tseq (p _) h) () {(),U () (EN (λe=>?_) (λe=>?_))})))
     ·show U () (rX (am.tseq (p _) hB) () (U () (rX (am.tseq (p _) h) () (r2 (fin _ ?_)))));unfold hE;rw[md (by rw[e];show ol ())]
     ·show fin _ ?_;unfold hE;rw[me (by rw[op (λz=>e (V.str.inj z))];show nn)]
    ·rintro g _⟨rfl,rfl⟩;show{D,_,(),aR.of ae,?_};rw[W,l_ (e_ _)];show q _ (p _)|not h h1=>rename_i Z F v;have hq:F.hgt+1<=n+1:=hh;show U () (rX h () ?_);(iterate 3 show U () {(),U () (c (dk ()) ?_)});show U () {(),U () (j ?_)};show U () (rX h () (U () {F,v,k,_,(),h1,by lia,R,o,λH' sm=>(U () (q H' sm))}))|both h h1 h2=>
    rename_i Z F L v u;have hq:max F.hgt L.hgt+1<=n+1:=hh;show U () (rX h () ?_);(iterate 4 show U () {(),U () (c (dk ()) ?_)});show U () {(),U () (j ?_)};show U () (rX h () (U () {F,v,k,_,(),h1,by lia,R,o,λH' sm=>(U () ?_)}));have I:∀H',am H H'->Q (.bl (if F.sat k=true then L.sat k else false)) H':=q;show vL (λe=>?_) (λe=>?_)
    ·rw[md e]at I;show U () (rX (am.tseq sm h) () (U () {L,u,k,_,(),h2.kp (.of sm),by lia,R.kp (.of sm),o,λH2 M=>I H2 (sm.trans M)}))
    ·rw[me (by rw[e];show nn)]at I;show I H' sm|either h h1 h2=>
    rename_i Z F L v u;have hq:max F.hgt L.hgt+1<=n+1:=hh;show U () (rX h () ?_);(iterate 5 show U () {(),U () (c (dk ()) ?_)});show U () (rX h () (U () {F,v,k,_,(),h1,by lia,R,o,λH' sm=>(U () ?_)}));have I:∀H',am H H'->Q (.bl (if F.sat k=true then true else L.sat k)) H':=q;show vL (λe=>?_) (λe=>?_)
    ·rw[md e]at I;show I H' sm
    ·rw[me (by rw[e];show nn)]at I;show U () (rX (am.tseq sm h) () (U () {L,u,k,_,(),h2.kp (.of sm),by lia,R.kp (.of sm),o,λH2 M=>I H2 (sm.trans M)}))
end
inductive Gq(vs:List V)(H:Hp)(Q:VK)(_E:XK):Prop|mk(x:_)(_:vs=[.str x])(_:Wd x)(_:∀H',am H H'->Q .non H')
inductive Gw(K:O6)(vs:List V)(H:Hp)(Q:VK)(_E:XK):Prop|mk(p:Addr)(l:Pb)(_:vs=[.ref p])(_:aY K H p (l.map V.str))(_:(∀w∈l,Wd w))(_:l.Nodup)(_:1<=l.length)(_:l.length<=4)(_:∀H',am H H'->Q .non H')
inductive Gr(K:O6)(vs:List V)(H:Hp)(Q:VK)(_E:XK):Prop|mk(r:Ru)(rv:V)(ws:Pb)(_:vs=[rv])(_:fG K H r rv)(_:r.hgt<=6)(_:r.cnt<=30)(_:jS ws r)(_:(∀w∈ws,Wd w))(_:ws.length<=3)(_:∀H',am H H'->Q .non H')
inductive DC(vs:List V)(H:Hp)(Q:VK)(_E:XK):Prop|mk(x:_)(_:vs=[.str x])(_:xg x)(_:∀H',am H H'->Q .non H')
inductive DA(K:O6)(vs:List V)(H:Hp)(Q:VK)(_E:XK):Prop|mk(v:V)(l:List (Str×Int))(_:vs=[v])(_:qb K H l v)(_:(∀m∈l,Wd m.1/\-cw<=m.2/\m.2<=cw))(_:(l.map Prod.fst).Nodup)(_:l.length<=8)(_:∀H',am H H'->Q .non H')
inductive DD(vs:List V)(H:Hp)(Q:VK)(_E:XK):Prop|mk(z:_)(_:vs=[.int z])(_:0<=z)(_:Q .non H)
inductive B6(K:O6)(vs:List V)(H:Hp)(Q:VK)(_E:XK):Prop|mk(p:Addr)(l:Pg)(_:vs=[.ref p,.int (l.length:Nat)])(_:aY K H p (l.map V.int))(_:(∀i∈l,0<=i))(_:l.length<=100)(_:∀H',am H H'->Q .non H')
inductive Gv(K:O6)(vs:List V)(H:Hp)(Q:VK)(_E:XK):Prop|mk(z:Int)(p:Addr)(l:Pg)(_:vs=[.int z,.ref p,.int (l.length:Nat)])(_:(0<=z/\z<=1000))(_:aY K H p (l.map V.int))(_:(∀i∈l,1<=i/\i<=cw))(_:l.length<=100)(_:∀H',am H H'->Q .non H')
section
def nH(T:Txt K mg a):aP P w K mg base cU 3 a.gc.x a.gc.d ["thing"] Gq:=by
 show T.gc.ok vj λb A outer s H i Q E c h=>?_
 ·obtain⟨x,rfl,e,q⟩:=h;show{_,(ah (aN (cu (aT K () (pc T.d9 (g9 T) c (ac (Y 0) O)) (λ_=>()))) (ah cg) aF)),?_};show U () {V.str x,(),.inl {x,(),e,λf g=>(U () (cj (q f g)))}}
def vC(T:Txt K mg a):aP P w K mg base cU 4 a.ib.x a.ib.d ["thing"] (Gw K):=by
 show T.ib.ok vn λb A outer s H i Q E c h=>?_
 ·obtain⟨p,l,rfl,h1,h2,h3,h4,e,q⟩:=h;show{_,(ah (aN (cu (aT K () (pc T.kL (y4 T) c (ac (Y 0) O)) (λ_=>()))) (ah cg) aF)),?_};show U () {p,l,(),h1,h2,h3,h4,e,λf g=>(U () (cj (q f g)))}
def vy(T:Txt K mg a):aP P w K mg base cU 11 a.hU.x a.hU.d ["thing"] (Gr K):=by
 show T.hU.ok vk λb A outer s H l Q E c h=>?_
 ·obtain⟨r,e,f,rfl,h1,h2,h3,h4,g,i,q⟩:=h;show{_,(ah (aN (cu (aT K () (pc T.mO (Am T) c (ac (Y 0) O)) (λ_=>()))) (ah cg) aF)),?_};show U () {r,e,f,(),h1,h2,h3,h4,g,i,λj k=>(U () (cj (q j k)))}
def dS(T:Txt K mg a):aP P w K mg base cU 3 a.cH.x a.cH.d ["thing"] DC:=by
 show T.cH.ok tL λb A outer s H i Q E c h=>?_
 ·obtain⟨x,rfl,e,q⟩:=h;show{_,(ah (aN (cu (aT K () (pc T.kF (yZ T) c (ac (Y 0) O)) (λ_=>()))) (ah cg) aF)),?_};show U () {x,(),e,λf g=>(U () (cj (q f g)))}
def lX(T:Txt K mg a):aP P w K mg base cU 5 a.fe.x a.fe.d ["thing"] (DA K):=by
 show T.fe.ok tI λb A outer s H g Q E c h=>?_
 ·obtain⟨v,l,rfl,h1,h2,h3,h4,q⟩:=h;show{_,(ah (aN (cu (aT K () (pc T.i4 (xC T) c (ac (Y 0) O)) (λ_=>()))) (ah cg) aF)),?_};show U () {v,l,(),h1,h2,h3,h4,λe f=>(U () (cj (q e f)))}
def ur(T:Txt K mg a):aP P w K mg base cU 3 a.gw.x a.gw.d ["thing"] DD:=by
 show T.gw.ok tM λb A outer s H e Q E c h=>?_
 ·obtain⟨z,rfl,h0,q⟩:=h;show{_,(ah (aN (cu (aT K () (pc T.eZ (gm T) c (ac (Y 0) O)) (λ_=>()))) (ah cg) aF)),?_};show U () {z,(),h0,U () (cj q)}
def sj(T:Txt K mg a):aP P w K mg base cU 4 a.fE.x a.fE.d ["thing","many"] (B6 K):=by
 show T.fE.ok rR λb A outer s H g Q E c h=>?_
 ·obtain⟨p,l,rfl,h1,h2,h3,q⟩:=h;show{_,(ah (aN (cu (aT K () (pc T.ii (vD T) c (ac (Y 0) (ac (Y 1) O))) (λ_=>()))) (ah cg) aF)),?_};show U () (U () {p,l,(),h1,h2,h3,λe f=>(U () (cj (q e f)))})
def qw(T:Txt K mg a):aP P w K mg base cU 4 a.eM.x a.eM.d ["total","weights","many"] (Gv K):=by
 show T.eM.ok qm λc A outer s H i Q E b h=>?_
 ·obtain⟨z,p,l,rfl,e,h1,h2,h3,q⟩:=h;show{_,(ah (aN (PW.pt (eW (cu (aT K () (pc T.kD (yX T) b (ac (Y 0) O)) (λ_=>()))) (dJ (cu (aT K () (pc T.gy (uu T) b (ac (Y 1) (ac (Y 2) O))) (λ_=>())))))) (ah cg) aF)),?_};show U () {z,(),e,U () (cj ?_)};show U () (U () {p,l,(),h1,h2,h3,λf g=>(U () (cj (q f g)))})
end
inductive BY(vs:List V)(H:Hp)(Q:VK)(_E:XK):Prop|mk(z:Int)(_:vs=[.int z])(_:(2<=z/\z<=997))(_:(∀i:Nat,2+(i:Int)<z->z%(2+(i:Int))≠0))(_:∀H',am H H'->Q (.bl true) H')
inductive Dq(vs:List V)(H:Hp)(Q:VK)(_E:XK):Prop|mk(z:_)(_:vs=[.int z])(_:(0<=z/\z<=cw))(_:Q (.bl true) H)
inductive DB(vs:List V)(H:Hp)(Q:VK)(_E:XK):Prop|mk(z s:Int)(_:vs=[.int z,.int s])(_:(2<=z/\z<=997))(_:(∀i:Nat,2+(i:Int)<z->z%(2+(i:Int))≠0))(_:(0<=s/\s<=cw))(_:∀H',am H H'->Q .non H')
inductive Ja(vs:List V)(H:Hp)(Q:VK)(_E:XK):Prop|mk(x:Str)(d:Addr)(kvs:List (bZ×V))(_:vs=[.str x,.ref d])(_:Wd x)(_:H d=some (.dK kvs))(_:bf kvs (.inr x)=none)(_:∀H',am H H'->Q .non H')
inductive Dw(vs:List V)(H:Hp)(Q:VK)(_E:XK):Prop|mk(x:Str)(d:Addr)(kvs:List (bZ×V))(_:vs=[.str x,.ref d])(_:Wd x)(_:H d=some (.dK kvs))(_:(bf kvs (.inr x)).isSome=true)(_:∀H',am H H'->Q .non H')
theorem qj:∀c:List Str,(c.map V.str).all nO=true|[]=>()|w::r=>by rw[o8,NJ,qj r];rfl
def EQ{w:Str}{c:Pb}(h:w∈c):ox (.str w) (c.map V.str)=true:=by unfold ox;rw[On];show{.str w,oi.mpr {w,h,()},by change(w==w)=true;show tA w}
section
def yY(T:Txt K mg a):aP P w K mg base cU 2 a.kE.x a.kE.d ["thing"] BY:=by
 show T.kE.ok yC λe A outer s H j Q E f h=>?_
 ·obtain⟨z,rfl,⟨h1,h2⟩,hd,q⟩:=h;show{_,(af (aN (PW.pt (eW (cu (aT K () (pc T.gO (jA T) f (ac (Y 0) O)) (λ_=>()))) (dJ (cu (yM jz jz (cC T.vQ ()) (Y 0) (cC T.qR ())))))) (ah (az gT)) aF) (ah (az (aA (i3 K () ()) (by rfl) T.wF L2.kK (ac (rN ["thing"] ["divisor"] [] [1] (ai nX) (ca 1) (wz () T.fC (ac ag (ac (Y 0) O))) (λcl C s₀ H₀ ex=>{(lE ["thing"] ["divisor"] 1),bR,(bS D1 (aB aW (Y 0) (Y 1)) ag (aG _))})) O))))),?_}
  show U () {z,(),U () (cj ?_)};show U () (r2 (U () ?_));show k9 (λ_=>?_) (λh=>absurd h1 h);show r2 (U () ?_);rw[ol h2];show cj ?_;show U () {_,U () {{by decide,by decide,by omega,by omega},λD g=>?_}};show fb (K:=K) (lo:=2) (n:=(z-2).toNat) (λi b c=>b=(List.replicate i true).map V.bl/\c=aH H D (.lst b)) {(),()} ?_ ?_
  ·rintro i b c hi⟨rfl,rfl⟩;show au (iJ (bB (U () (U () (r2 {(by change(0:Int)<_;first|decide|omega),(),?_})))));show{ae,jZ i (by omega),lf hi {?_,by rw[iw]}};have hn:=hd i (by omega);rw[<-i5]
   congr 2
   simp[hn]
  ·rintro b c⟨rfl,rfl⟩;show{D,_,(),aR.of ae,?_};rw[j0];show q _ (aj (am.refl _) g)
def Al(T:Txt K mg a):aP P w K mg base cU 3 a.mM.x a.mM.d ["thing"] Dq:=by
 show T.mM.ok zZ λb A outer s H e Q E c h=>?_
 ·obtain⟨z,rfl,⟨h1,h2⟩,q⟩:=h;show{_,(ah (az (cD (pc T.eZ (gm T) c (ac (Y 0) O)) (dL (bS jz (Y 0) (aB qu ag ag) (aG _)))))),?_};show U () {z,(),h1,U () (bB ?_)}
  walk_at "a"
  show kO h2 q
def uq(T:Txt K mg a):aP P w K mg base cU 4 a.gu.x a.gu.d ["prime","salt"] DB:=by
 show T.gu.ok tK λc A outer s H g Q E b h=>?_
 ·obtain⟨z,sa,rfl,h1,h2,h3,q⟩:=h;show{_,(ah (aN (PW.pt (eW (cu (aT K () (pc T.kE (yY T) b (ac (Y 0) O)) (λ_=>()))) (dJ (cu (aT K () (pc T.mM (Al T) b (ac (Y 1) O)) (λ_=>())))))) (ah cg) aF)),?_};show U () {z,(),h1,h2,λe f=>(U () (cj ?_))};show U () {sa,(),h3,U () (cj (q e f))}
def pG(T:Txt K mg a):aP P w K mg base cU 4 a.hV.x a.hV.d ["thing","names"] Ja:=by
 show T.hV.ok xr λe A outer s H i Q E b h=>?_
 ·obtain⟨x,d,f,rfl,h1,h2,h3,q⟩:=h;show{_,(af (aM (pc T.gc (nH T) b (ac (Y 0) O))) (ah (aN (og (Aj (b7 b) (Y 0) (Y 1)) ()) (ah cg) aF))),?_}
  show U () {x,(),h1,λg c=>?_};show U () (U () (rG none (by rw[<-h3];show dA.k (k:=.inr x) (c _ _ h2)) (U () (cj (q g c)))))
def dF(T:Txt K mg a):aP P w K mg base cU 4 a.bP.x a.bP.d ["thing","names"] Dw:=by
 show T.bP.ok oQ λf A outer s H i Q E c h=>?_
 ·obtain⟨x,d,b,rfl,h1,h2,h3,q⟩:=h;show{_,(af (aM (pc T.gc (nH T) c (ac (Y 0) O))) (ah (aN (og (mJ (b7 c) (Y 0) (Y 1)) ()) (ah cg) aF))),?_}
  show U () {x,(),h1,λg e=>?_};show U () (U () (rG (bf b (.inr x)) (dA.k (k:=.inr x) (e _ _ h2)) (U () ?_)));rw[h3];show cj (q g e)
end
abbrev Pl:=cn×V×List Int
def fF(H:Hp)(tk:List gB)(m:List Pl):Prop:=Paired (λ(x:gB)(y:Pl)=>x.1=y.1/\x.2.1=y.2.1/\∃l,x.2.2=.ref l/\H l=some (.lst (y.2.2.map V.int))) tk m
structure eR(P:Pa)(w:World)(K:O6)(C:Addr)(H:Hp)(t od td:Addr)(n:Nat)(ow:List (bZ×V))(tk:List gB)(m:List Pl):Prop where
 ins:∃dx,H t=some (.ins C dx [("many",.int n),("owners",.ref od),("taken",.ref td)])own:H od=some (.dK ow)tak:H td=some (dM P w td tk)keys:eP K H tk
 lsts:fF H tk m
def fF.same(e:am H H')(h:fF H tk m):fF H' tk m:=Paired.mapP h λ_ _ h=>{h.1,h.2.1,h.2.2.imp λ_ q=>{q.1,e _ _ q.2}}
def dW(e:Kp H H')(h:c8 K H k v):c8 K H' k v:=by match k,h with|.inl _,h=>show h|.inr [],h=>show h|.inr (_::_),h=>obtain⟨b,h1,h2⟩:=h;show{b,h1,e.tq h2}
def oq(e:am H H')(h:c8 K H k v):c8 K H' k v:=by show dW (.of e) h
theorem eR.same(e:am H H')(h:eR P w K C H t c d n ow tk m):eR P w K C H' t c d n ow tk m:={let⟨dx,i⟩:=h.ins;{dx,e _ _ i},e _ _ h.own,e _ _ h.tak,λx b=>oq e (h.keys x b),h.lsts.same e}
def fF.val(h:fF H tk m)(k:cn):(∃l c,fP tk k=some (.ref l)/\fP m k=some c/\H l=some (.lst (c.map V.int)))\/(fP tk k=none/\fP m k=none):=by induction h with|nil=>show .inr {(),()}|@cons x y _ _ h _ b=>
  unfold fP at b⊢;rw[tx,tx,<-h.1]
  by_cases e:x.1=k
  ·rw[ol e];show .inl (h.2.2.imp λ_ q=>{y.2.2,r_ some q.1,(),q.2})
  ·rw[op e];show b
def bq(m:List Pl)(k:cn):List Int:=(fP m k).getD []
def gP(n:Nat)(ow:List (bZ×V)):List Int:=((List.range n).filter λ(i:Nat)=>(bf ow (.inl (i:Int))).isNone).map λ(i:Nat)=>(i:Int)
inductive IU(P:Pa)(w:World)(K:O6)(C:Addr)(vs:List V)(H:Hp)(Q:VK)(_E:XK):Prop|mk(t dx:Addr)(n:Nat)(_:vs=[.ref t,.int n])(_:H t=some (.ins C dx []))(_:H dx=some (.own t))(_:∀(od td:Addr)H',H od=none->H td=none->(∀b o,H b=some o->b≠t->H' b=some o)->eR P w K C H' t od td n [] [] []->Q .non H')
inductive BV(P:Pa)(w:World)(K:O6)(C:Addr)(vs:List V)(H:Hp)(Q:VK)(_E:XK):Prop|mk(t od td:Addr)(n:Nat)(ow:List (bZ×V))(tk:List gB)(m:List Pl)(p:Int)(_:vs=[.ref t,.int p])(_:eR P w K C H t od td n ow tk m)(_:Q ((bf ow (.inl p)).getD .non) H)
inductive zW(P:Pa)(w:World)(K:O6)(C:Addr)(vs:List V)(H:Hp)(Q:VK)(_E:XK):Prop|mk(t od td:Addr)(n:Nat)(ow:List (bZ×V))(tk:List gB)(m:List Pl)(k:cn)(kv:V)(_:vs=[.ref t,kv])(_:eR P w K C H t od td n ow tk m)(_:c8 K H k kv)(_:∀(l:Addr)H',am H H'->H l=none->H' l=some (.lst ((bq m k).map V.int))->Q (.ref l) H')
inductive IX(P:Pa)(w:World)(K:O6)(C:Addr)(vs:List V)(H:Hp)(Q:VK)(_E:XK):Prop|mk(t od td:Addr)(n:Nat)(ow:List (bZ×V))(tk:List gB)(m:List Pl)(_:vs=[.ref t])(_:eR P w K C H t od td n ow tk m)(_:n<=1000)(_:∀(l:Addr)H',am H H'->H l=none->H' l=some (.lst ((gP n ow).map V.int))->Q (.ref l) H')
section
def sr(T:Txt K mg a):aP P w K mg base cU 1 a.eu.x a.eu.d ["self","many"] (IU P w K a.bQ):=by
 show T.eu.ok rT λF A outer s H J Q E L h=>?_
 ·obtain⟨t,dx,n,rfl,G,M,q⟩:=h;show{_,(af (cz K () (Y 0) (Y 1)) (af (cz K () (Y 0) ky) (ah (cz K () (Y 0) (DZ (P:=P) (w:=w)))))),?_}
  show U () (U () {t,_,dx,U () {G,T.bn,T.nM,by decide,?_}});have v:gF "many" (V.int n) []=([("many",V.int n)]:List (Str×V)):=();rw[v];have i:aH H t (.ins a.bQ dx [("many",V.int n)]) t=some (.ins a.bQ dx [("many",V.int n)]):=ae;have f1:∀b o,H b=some o->b≠t->aH H t (.ins a.bQ dx [("many",V.int n)]) b=some o:=λb o e j=>by rw[ak j];show e
  generalize aH H t (.ins a.bQ dx [("many",V.int n)])=u at i f1⊢;showλc g=>(U () {t,_,dx,U () {by rw[ak (av i g)];show i,T.bn,T.eI,by simp,?_}});have y:gF "owners" (V.ref c) [("many",V.int n)]=([("many",V.int n),("owners",V.ref c)]:List (Str×V)):=();rw[y];have B:c≠t:=λz=>by rw[z,i]at g;cases g
  have k:aH (aH u c (.dK [])) t (.ins a.bQ dx [("many",V.int n),("owners",V.ref c)]) t=some (.ins a.bQ dx [("many",V.int n),("owners",V.ref c)]):=ae;have m:aH (aH u c (.dK [])) t (.ins a.bQ dx [("many",V.int n),("owners",V.ref c)]) c=some (.dK []):=by rw[ak B];show ae
  have f2:∀b o,H b=some o->b≠t->aH (aH u c (.dK [])) t (.ins a.bQ dx [("many",V.int n),("owners",V.ref c)]) b=some o:=λb o e j=>by rw[ak j,ak (λz=>by rw[<-z,f1 b o e j]at g;cases g)];show f1 b o e j
  generalize aH (aH u c (.dK [])) t (.ins a.bQ dx [("many",V.int n),("owners",V.ref c)])=N at k m f2⊢;showλl f=>(U () {t,_,dx,U () {by rw[ak (av k f)];show k,T.bn,T.gK,by simp,?_}});have C:gF "taken" (V.ref l) [("many",V.int n),("owners",V.ref c)]=([("many",V.int n),("owners",V.ref c),("taken",V.ref l)]:List (Str×V)):=();rw[C];have D:l≠t:=λz=>by rw[z,k]at f;cases f
  have dt:c≠l:=λz=>by rw[<-z,m]at f;cases f
  have p:H c=none:=by cases z:H c with|none=>rfl|some o=>rw[f1 c o z B]at g;cases g
  have r:H l=none:=by cases z:H l with|none=>rfl|some o=>rw[f2 l o z D]at f;cases f
  show q c l _ p r (λb o e j=>?_) {(dx,ae,),by rw[ak B,ak dt];show m,by rw[ak D];show ae,λx I=>(by cases I),.nil};rw[ak j,ak (λz=>by rw[<-z,f2 b o e j]at f;cases f)];show f2 b o e j
def d7(T:Txt K mg a):aP P w K mg base cU 1 a.be.x a.be.d ["self","owner"] (zW P w K a.bQ):=by
 show T.be.ok nU λv A outer s H F Q E y h=>?_
 ·obtain⟨t,G,z,n,ow,tk,m,k,I,rfl,i,B,q⟩:=h;show{_,(ah (az (b0 (ic K ()) (by rfl) T.mf L2.gx (ac (DY (P:=P) (w:=w) K () (b7 y) (aC K () (Y 0)) (Y 1) (bg O) {(),(),(),()}) O)))),?_};obtain⟨dx,C⟩:=i.ins;show U () {t,_,dx,_,U () {C,T.bn,T.gK,(),z,tk,(),i.tak,U () {ls (),λg j=>?_}}};have e:=aj (o:=.lst []) (am.refl H) j;have c:aH H g (.lst []) g=some (.lst []):=ae;generalize aH H g (.lst [])=J at e c⊢;have f:=i.same e;show{tk,k,f.tak,f.keys,oq e B,?_};rcases f.lsts.val k with⟨l,L,p,r,D⟩|⟨p,r⟩
  ·rw[p];show{l,U () {.inl (aR.of D),λu b=>q u _ (aj e b) (e.free b) ?_}};unfold bq;rw[r];show ae
  ·rw[p];show{g,U () {.inl (aR.of c),λu b=>q u _ (aj e b) (e.free b) ?_}};unfold bq;rw[r];show ae
def nJ(T:Txt K mg a):aP P w K mg base cU 1 a.et.x a.et.d ["self"] (IX P w K a.bQ):=by
 show T.et.ok vp λp A outer s H y Q E r h=>?_
 ·obtain⟨t,z,B,n,ow,tk,m,rfl,j,hn,q⟩:=h;show{_,(ah (az (rN ["self"] ["place"] [] [1] (ai kU) (ca 1) (dQ () T.fC (ac (aC K () (Y 0)) O)) (λcl C s₀ H₀ ex=>{(lE ["self"] ["place"] 1),(pC (og (mJ (b7 r) (Y 1) (aC K () (Y 0))) ())),(Y 1)})))),?_}
  obtain⟨dx,l⟩:=j.ins;show U () {t,_,dx,_,U () {l,T.bn,T.nM,(),(n:Int),(),by lia,by lia,λD o=>?_}};have g:∀b,am H (aH H D (.lst b)):=λb=>aj (am.refl _) o;show fb (K:=K) (lo:=0) (n:=(n:Int).toNat) (λi b H'=>b=(gP i ow).map V.int/\H'=aH H D (.lst b)) {(),()} ?_ ?_
  ·rintro i b _ hi⟨rfl,rfl⟩;have u:((gP i ow).map V.int).length<=i:=by unfold gP;rw[b_,b_];show nr (y2 _ _) (by rw[rd];show e_ _)
   have c:gP (i+1) ow=gP i ow++if(bf ow (.inl (i:Int))).isNone=true then[(i:Int)]else[]:=by
    unfold gP;rw[NQ,NZ,k_]
    congr 1
    by_cases e:(bf ow (.inl (i:Int))).isNone=true
    ·simp[e]
    ·simp[e]
   rw[show(0:Int)+(i:Int)=((i:Nat):Int)by lia];show au (U () (U () {t,_,dx,_,U () {g _ _ _ l,T.bn,T.eI,(),rG _ (dA.k (k:=.inl (i:Int)) (g _ _ _ j.own)) (U () ?_)}}));have f:i<(n:Int).toNat:=hi;cases e:bf ow (.inl (i:Int))with|none=>show bB (U () {ae,by rw[mo];lia,lf f {?_,by rw[iw]}});rw[c,e,k_];rfl|some v=>show cj (lf f {?_,()});rw[c,e,k_];show(q4 _).symm
  ·rintro b _⟨rfl,rfl⟩;have e:(n:Int).toNat=n:=by lia
   rw[e];show q D _ (g _) o ae
end
def Fi(c:List V)(h:0<=i):vN c (some i) none=c.drop i.toNat:=by
 change(c.drop (if i<0 then(i+(c.length:Int)).toNat else min i.toNat c.length)).take (c.length-(if i<0 then(i+(c.length:Int)).toNat else min i.toNat c.length))=c.drop i.toNat;rw[me (by lia)];rcases Nat.le_total i.toNat c.length with b|b
 ·rw[Nat.min_eq_left b,l_ (by rw[NH];lia)]
 ·rw[Nat.min_eq_right b,List.drop_eq_nil_of_le (e_ _),List.drop_eq_nil_of_le b,List.take_nil]
def AN(c:List V)(h:0<=i):vN c none (some i)=c.take i.toNat:=by
 change(c.drop 0).take ((if i<0 then(i+(c.length:Int)).toNat else min i.toNat c.length)-0)=c.take i.toNat;rw[me (by lia),List.drop_zero,Nat.sub_zero];rcases Nat.le_total i.toNat c.length with b|b
 ·rw[Nat.min_eq_left b]
 ·rw[Nat.min_eq_right b,l_ (e_ _),l_ b]
def BL(c:List (bZ×V))(k j:bZ):bf (dZ c k) j=if j=k then none else bf c j:=by induction c with|nil=>split<;>rfl|cons p r f=>
  by_cases e:p.1=k
  ·rw[wT e,f]
   by_cases b:j=k
   ·rw[md b,md b]
   ·rw[me b,me b,bw (λz=>b (z.symm.trans e))]
  ·rw[wU e]
   by_cases d:p.1=j
   ·rw[cf d,me (λz=>e (d.trans z)),cf d]
   ·rw[bw d,f,bw d]
def sE(ow:List (bZ×V))(c:Pg):List (bZ×V):=c.foldl (λo p=>dZ o (.inl p)) ow
def qh(c:Pg):∀(ow:List (bZ×V))(j:Int),bf (sE ow c) (.inl j)=if j∈c then none else bf ow (.inl j):=by induction c with|nil=>intro ow j;rw[me (by simp)];rfl|cons p r b=>
  intro ow j;change bf (sE (dZ ow (.inl p)) r) (.inl j)=_;rw[b,BL]
  by_cases h1:j∈r
  ·rw[md h1,md (np _ h1)]
  ·rw[me h1]
   by_cases h2:j=p
   ·rw[md (by rw[h2]),md (by rw[h2];show oa)]
   ·rw[me (λz=>h2 (Sum.inl.inj z)),me (λz=>(vu.mp z).elim h2 h1)]
def mB(c d:Addr)(H H':Hp):Prop:=∀b o,H b=some o->b≠c->b≠d->H' b=some o
def mB.of(h:am H H'):mB c d H H':=λb o e _ _=>h b o e
def mB.trans(a:mB d e H f)(b:mB d e f g):mB d e H g:=λc o h h1 h2=>b c o (a c o h h1 h2) h1 h2
def mB.tp(h:mB c d H H')(h1:H c=some (.dK f))(h2:H d=some (.ext φ))(e:H b=some (.tup g)):H' b=some (.tup g):=h b _ e (λz=>by rw[z,h1]at e;cases e) (λz=>by rw[z,h2]at e;cases e)
def eL(h:mB c d H H')(h1:H c=some (.dK f))(h2:H d=some (.ext φ))(g:c8 K H k v):c8 K H' k v:=by show dW {λu i e=>h.tp h1 h2 e,λu o⟨b,e⟩=>{b,h u _ e (λz=>by rw[z,h1]at e;cases e) (λz=>by rw[z,h2]at e;cases e)}} g
def fF.off(h:mB c d H H')(h1:H c=some (.dK f))(h2:H d=some (.ext φ))(t:fF H tk m):fF H' tk m:=Paired.mapP t λ_ _ q=>{q.1,q.2.1,q.2.2.imp λ_ e=>{e.1,h _ _ e.2 (λz=>by rw[z,h1]at e;cases e.2) (λz=>by rw[z,h2]at e;cases e.2)}}
def fF.put(d:H l=some (.lst (f.map V.int))):∀{tk:List gB}{m:List Pl},fF H tk m->fF H (gA tk k j (.ref l)) (gA m k j f):=by
 intro tk m h;have b:(fP tk k).isSome=(fP m k).isSome:=by rcases h.val k with⟨l,f,g,i,_⟩|⟨g,i⟩<;>rw[g,i]<;>rfl
 unfold gA;rw[b]
 split
 ·rename_i hc;clear b hc
  induction h with|nil=>show .nil|@cons x y n o r t c=>
   show .cons ?_ c;dsimp only;rw[<-r.1]
   by_cases e:x.1=k
   ·rw[md e,md e];show{(),r.2.1,l,(),d}
   ·rw[me e,me e];show r
 ·rename_i hc;clear b hc
  induction h with|nil=>show .cons {(),(),l,(),d} .nil|cons r t c=>show .cons r c
def fI(H:Hp)(tk c:List gB):Prop:=∀x∈c,(∃y∈tk,y.2.2=x.2.2)\/∃l,x.2.2=.ref l/\H l=none
def fI.put(c:H l=none):fI H tk (gA tk k e (.ref l)):=by
 intro x b;unfold gA at b
 split at b
 ·obtain⟨y,d,rfl⟩:=oi.mp b
  split
  ·show .inr {l,(),c}
  ·show .inl {y,d,()}
 ·rcases List.mem_append.mp b with b|b
  ·show .inl {x,b,()}
  ·rw[List.mem_singleton.mp b];show .inr {l,(),c}
def pO(h:mB c d H H')(h1:H' c≠none)(h2:H' d≠none)(e:H' b=none):H b=none:=by cases z:H b with|none=>rfl|some o=>have:=h b o z (λq=>h1 (by rw[<-q];show e)) (λq=>h2 (by rw[<-q];show e));rw[e]at this;cases this
inductive IW(P:Pa)(w:World)(K:O6)(C:Addr)(vs:List V)(H:Hp)(Q:VK)(_E:XK):Prop|mk(t od td:Addr)(n:Nat)(ow:List (bZ×V))(tk:List gB)(m:List Pl)(k:cn)(kv:V)(num:Int)(_:vs=[.ref t,kv,.int num])(_:eR P w K C H t od td n ow tk m)(_:c8 K H k kv)(_:0<=num)(_:tk.length<100000)(_:(∀p∈(bq m k).drop num.toNat,(bf ow (.inl p)).isSome=true))(_:(bq m k).Nodup)(_:∀(l:Addr)(tk':List gB)H',mB od td H H'->H l=none->H' l=some (.lst (((bq m k).drop num.toNat).reverse.map V.int))->tk'.length<=tk.length+1->fI H tk tk'->eR P w K C H' t od td n (sE ow ((bq m k).drop num.toNat).reverse) tk' (gA m k kv ((bq m k).take num.toNat))->Q (.ref l) H')
def zh(c:List (cn×d×e))(k:cn)(b:d)(v:e):(gA c k b v).length<=c.length+1:=by
 unfold gA
 split
 ·rw[b_];lia
 ·rw[mu];simp
def eP.put(h:eP K H tk)(d:c8 K H k e):eP K H (gA tk k e v):=by
 unfold gA
 split
 ·intro x b;obtain⟨y,c,rfl⟩:=oi.mp b
  split
  ·show h y c
  ·show h y c
 ·intro x b;rcases List.mem_append.mp b with b|b
  ·show h x b
  ·rw[List.mem_singleton.mp b];show d
section
def om(T:Txt K mg a):aP P w K mg base cU 2 a.cM.x a.cM.d ["self","owner","number"] (IW P w K a.bQ):=by
 show T.cM.ok d0 λb9 A outer s H vs Q E hr h=>?_
 ·obtain⟨t,M,u,n,ow,tk,m,k,kv,c,rfl,g,hk,N,cc,R,ap,q⟩:=h;show{_,(af (bo 3 d0.nd (aS (Y 0) T.bn T.be.m ((d7 (P:=P) (w:=w) T).mono (by decide)) hr T.be.b .nil aQ (ac (Y 1) O))) (af (bo 4 d0.nd (Ah K () () (by rfl) T.mf (by rfl) T.As (gG (tj K ()) (Y 3) (iU (Y 2)) iV))) (af (d6 qq () (cP K () (Y 4)) (sf 5 d0.nd) (ah (aM (yP (aC K () (Y 0)) (Y 5) {(),(),(),()})))) (af (jM (gG (tj K ()) (Y 3) iV (iU (Y 2))) (jN (aC K () (Y 0)) (Y 1) (DL (P:=P) (w:=w) K () (b7 hr)))) (ah (az (Y 4))))))),?_}
  obtain⟨dx,hI⟩:=g.ins;show iS hI () () (U () {t,M,u,n,ow,tk,m,k,kv,(),g,hk,λlp H1 s1 ci I=>au ?_});have cr:=g.same s1;generalize bq m k=C at R ap q I⊢;show U () (U () {c,(),lp,U () {aR.of I,λl2 as=>?_}});rw[Fi _ N,<-List.map_drop];have s2:=aj (o:=.lst ((C.drop c.toNat).map V.int)) s1 as;have S:aH H1 l2 (.lst ((C.drop c.toNat).map V.int)) l2=some (.lst ((C.drop c.toNat).map V.int)):=ae;have D:aH H1 l2 (.lst ((C.drop c.toNat).map V.int)) lp=some (.lst (C.map V.int)):=by rw[ak (av I as)];show I
  generalize aH H1 l2 (.lst ((C.drop c.toNat).map V.int))=H2 at s2 S D⊢;show{l2,U () {aR.of S,λW ad=>au ?_}};rw[<-List.map_reverse];generalize ax:(C.drop c.toNat).reverse=bk at q⊢;have s3:=aj (o:=.lst (bk.map V.int)) s2 ad;have l:aH H2 W (.lst (bk.map V.int)) W=some (.lst (bk.map V.int)):=ae;have F:aH H2 W (.lst (bk.map V.int)) lp=some (.lst (C.map V.int)):=by rw[ak (av D ad)];show D
  generalize aH H2 W (.lst (bk.map V.int))=H3 at s3 l F⊢;have r:=g.same s3;obtain⟨an,J⟩:=r.ins;have ba:H W=none:=s2.free ad;have bb:bk.Nodup:=by rw[<-ax];show(List.reverse_perm _).nodup_iff.mpr ((List.drop_sublist _ _).nodup ap)
  have bc:∀p∈bk,(bf ow (.inl p)).isSome=true:=λp X=>R p (by rw[<-ax]at X;show NG.mp X);have ne:∀{b:Addr}{o:HO},H3 b=some o->(∀bh,o≠.dK bh)->(∀φ,o≠.ext φ)->b≠M/\b≠u:=λe h1 h2=>{λz=>by rw[z,r.own]at e;cases e;show h1 _ (),λz=>by rw[z,r.tak]at e;cases e;show h2 _ ()};have G:=ne l (λ_ z=>nomatch z) (λ_ z=>nomatch z);have a3:=ne F (λ_ z=>nomatch z) (λ_ z=>nomatch z);have nt:=ne J (λ_ z=>nomatch z) (λ_ z=>nomatch z);have a5:u≠M:=λz=>by have e:=r.tak;rw[z,r.own]at e;cases e
  show U () {W,(),{_,aR.of l},?_};show uL (xs:=bk.map V.int) (λi σ H'=>mB M u H3 H'/\H' M=some (.dK (sE ow (bk.take i)))/\H' u=some (dM P w u tk)/\∃v5,σ=[some (.ref t),some kv,some (.int c),some (.ref lp),some (.ref W),v5]) {.of (am.refl _),r.own,r.tak,_,()} (λi σ H' _ h=>aR.of (h.1 _ _ l G.1 G.2)) ?_ ?_
  ·rintro i x σ H4 Z⟨L,f,y,v5,rfl⟩;have hi:i<bk.length:=by simpa using(c_.mp Z).1
   have X:bk[i]?=some bk[i]:=h_ hi;rw[i_,X]at Z;generalize bk[i]=p at Z X;cases Z;have bi:p∉bk.take i:=λz=>by
    obtain⟨j,hj⟩:=nk.mp z;have bl:j<i:=by have:=(c_.mp hj).1;rw[oD]at this;lia
    rw[Oa bl]at hj;have:=(z7 (c_.mp hj).1 bb).mp (hj.trans X.symm);lia
   obtain⟨v,hv⟩:=vr.mp (bc p (g_ X));have bt:bf (sE ow (bk.take i)) (.inl p)=some v:=by rw[qh,me bi];show hv
   have hg:sE ow (bk.take (i+1))=dZ (sE ow (bk.take i)) (.inl p):=by unfold sE;rw[z5,X,Ha];rfl
   show au (U () {t,_,an,_,U () {L _ _ J nt.1 nt.2,T.bn,T.eI,(),M,(),.inl {_,.inl f},U () {_,.inl p,v,f,(),bt,?_}}});show{λb o e h1 h2=>by rw[ak h1];show L b o e h1 h2,by rw[hg];show ae,by rw[ak a5];show y,_,()}
  ·rintro σ H4⟨L,f,y,v5,rfl⟩;rw[b_,l_ (e_ _)]at f;have a6:=L _ _ F a3.1 a3.2;show U () (U () {c,(),lp,U () {aR.of a6,λl5 a7=>?_}});rw[AN _ N,<-OG];have s5:=aj (o:=.lst ((C.take c.toNat).map V.int)) (am.refl H4) a7;have B:aH H4 l5 (.lst ((C.take c.toNat).map V.int)) l5=some (.lst ((C.take c.toNat).map V.int)):=ae;generalize aH H4 l5 (.lst ((C.take c.toNat).map V.int))=H5 at s5 B⊢;have o5:mB M u H H5:=(mB.of s3).trans (L.trans (.of s5));have aa:=s5 _ _ y;have bz:=eL o5 g.own g.tak hk;have a8:eP K H5 tk:=λx Z=>eL o5 g.own g.tak (g.keys x Z);have n5:l5≠u:=λz=>by rw[z,aa]at B;cases B
   show U () {t,_,an,_,U () {s5 _ _ (L _ _ J nt.1 nt.2),T.bn,T.gK,(),U () {u,tk,k,(),aa,a8,bz,by rw[mo];lia,U () ?_}}};have o6:mB M u H (aH H5 u (dM P w u (gA tk k kv (.ref l5)))):=λb o e h1 h2=>by rw[ak h2];show o5 b o e h1 h2
   have b8:aH H5 u (dM P w u (gA tk k kv (.ref l5))) l5=some (.lst ((C.take c.toNat).map V.int)):=by rw[ak n5];show B
   have a9:H l5=none:=pO ((mB.of s3).trans L) (by rw[f];simp) (by rw[y];simp) a7;show q W _ _ o6 ba (by rw[ak G.2];show s5 _ _ (L _ _ l G.1 G.2)) (zh _ _ _ _) (fI.put a9) {{an,by rw[ak nt.2];show s5 _ _ (L _ _ J nt.1 nt.2)},by rw[ak (p_ a5)];show s5 _ _ f,ae,?_,?_}
   ·show eP.put (λx Z=>eL o6 g.own g.tak (g.keys x Z)) (eL o6 g.own g.tak hk)
   ·show fF.put b8 (g.lsts.off o6 g.own g.tak)
end
def mi(ow:List (bZ×V))(c:V)(d:Pg):List (bZ×V):=d.foldl (λo p=>fA o (.inl p) c) ow
def sR(c:V)(d:Pg):∀(ow:List (bZ×V))(j:Int),bf (mi ow c d) (.inl j)=if j∈d then some c else bf ow (.inl j):=by induction d with|nil=>intro ow j;rw[me (by simp)];rfl|cons p r b=>
  intro ow j;change bf (mi (fA ow (.inl p) c) c r) (.inl j)=_;rw[b,CZ]
  by_cases h1:j∈r
  ·rw[md h1,md (np _ h1)]
  ·rw[me h1]
   by_cases h2:j=p
   ·rw[md (by rw[h2]),md (by rw[h2];show oa)]
   ·rw[me (λz=>h2 (Sum.inl.inj z)),me (λz=>(vu.mp z).elim h2 h1)]
def wP(c:V)(d:Pg):∀(ow:List (bZ×V)),(mi ow c d).length<=ow.length+d.length:=by induction d with|nil=>intro ow;show e_ _|cons p r b=>intro ow;have h1:=b (fA ow (.inl p) c);have h2:=mh ow (.inl p) c;change(mi (fA ow (.inl p) c) c r).length<=_;rw[o_];lia
def AJ(n:Nat)(ow:List (bZ×V)):(gP n ow).length<=n:=by unfold gP;rw[b_];show nr (y2 _ _) (by rw[rd];show e_ _)
inductive IL(P:Pa)(w:World)(K:O6)(C:Addr)(vs:List V)(H:Hp)(Q:VK)(_E:XK):Prop|mk(t od td:Addr)(n:Nat)(ow:List (bZ×V))(tk:List gB)(m:List Pl)(k:cn)(kv:V)(num:Int)(_:vs=[.ref t,kv,.int num])(_:eR P w K C H t od td n ow tk m)(_:c8 K H k kv)(_:n<=1000)(_:((bq m k).length:Int)<=num)(_:(bq m k).length<=1000000)(_:tk.length<100000)(_:ow.length<1000000)(_:∀(tk':List gB)H',mB od td H H'->tk'.length<=tk.length+1->fI H tk tk'->eR P w K C H' t od td n (mi ow kv ((gP n ow).take (num-(bq m k).length).toNat)) tk' (gA m k kv (bq m k++(gP n ow).take (num-(bq m k).length).toNat))->Q .non H')
section
def vE(T:Txt K mg a):aP P w K mg base cU 2 a.gf.x a.gf.d ["self","owner","number"] (IL P w K a.bQ):=by
 show T.gf.ok iB λbz A outer s H vs Q E hr h=>?_
 ·obtain⟨t,D,l,n,ow,tk,m,k,F,G,rfl,f,hk,hn,aa,a9,b8,b9,q⟩:=h;show{_,(af (bo 3 iB.nd (aS (Y 0) T.bn T.be.m ((d7 (P:=P) (w:=w) T).mono (by decide)) hr T.be.b .nil aQ (ac (Y 1) O))) (af (bo 4 iB.nd (gG (tj K ()) (eX (Y 0) T.bn T.et.m ((nJ (P:=P) (w:=w) T).mono (by decide)) hr T.et.b .nil aQ) iV (iU (aB f9 (Y 2) (aA (aI K ()) (by rfl) T.bC L2.aL (ac (Y 3) O)))))) (af (d6 qq () (cP K () (Y 4)) (sf 5 iB.nd) (ah (jM (Y 1) (jN (aC K () (Y 0)) (Y 5) (ql (b7 hr)))))) (ah (jM (aB Ak (Y 3) (Y 4)) (jN (aC K () (Y 0)) (Y 1) (DL (P:=P) (w:=w) K () (b7 hr)))))))),?_}
  obtain⟨dx,hI⟩:=f.ins;show iS hI () () (U () {t,D,l,n,ow,tk,m,k,F,(),f,hk,λlp H1 s1 cc ad=>au ?_});have ba:=f.same s1;generalize bq m k=C at aa a9 q ad⊢;show iS (s1 _ _ hI) () () {t,D,l,n,ow,tk,m,(),ba,hn,λbb H2 s2 ci an=>?_};have bc:=AJ n ow;generalize gP n ow=fs at bc an q;have y:=s2 _ _ ad;show U () (U () {_,C.length,(),.inl {_,aR.of y,by rw[b_]},G,(C.length:Int),(),(),G-(C.length:Int),(),bb,U () {aR.of an,λS ap=>au ?_}});rw[AN _ (by omega),<-OG];generalize bh:fs.take (G-(C.length:Int)).toNat=c at q⊢;have cr:c.length<=1000:=by rw[<-bh,oD];omega
  have s3:=aj (o:=.lst (c.map V.int)) (s1.trans s2) ap;have g:aH H2 S (.lst (c.map V.int)) S=some (.lst (c.map V.int)):=ae;have B:aH H2 S (.lst (c.map V.int)) lp=some (.lst (C.map V.int)):=by rw[ak (av y ap)];show y
  generalize aH H2 S (.lst (c.map V.int))=H3 at s3 g B⊢;have r:=f.same s3;obtain⟨W,I⟩:=r.ins;have ne:∀{b:Addr}{o:HO},H3 b=some o->(∀bi,o≠.dK bi)->(∀φ,o≠.ext φ)->b≠D/\b≠l:=λe h1 h2=>{λz=>by rw[z,r.own]at e;cases e;show h1 _ (),λz=>by rw[z,r.tak]at e;cases e;show h2 _ ()};have J:=ne g (λ_ z=>nomatch z) (λ_ z=>nomatch z);have as:=ne B (λ_ z=>nomatch z) (λ_ z=>nomatch z);have X:=ne I (λ_ z=>nomatch z) (λ_ z=>nomatch z);have ax:l≠D:=λz=>by have e:=r.tak;rw[z,r.own]at e;cases e
  show U () {S,(),{_,aR.of g},?_};show uL (xs:=c.map V.int) (λi σ H'=>mB D l H3 H'/\H' D=some (.dK (mi ow F (c.take i)))/\H' l=some (dM P w l tk)/\∃v5,σ=[some (.ref t),some F,some (.int G),some (.ref lp),some (.ref S),v5]) {.of (am.refl _),r.own,r.tak,_,()} (λi σ H' _ h=>aR.of (h.1 _ _ g J.1 J.2)) ?_ ?_
  ·rintro i x σ H4 M⟨L,j,u,v5,rfl⟩;have hi:i<c.length:=by simpa using(c_.mp M).1
   have hp:c[i]?=some c[i]:=h_ hi;rw[i_,hp]at M;generalize c[i]=p at M hp;cases M;have hg:mi ow F (c.take (i+1))=fA (mi ow F (c.take i)) (.inl p) F:=by unfold mi;rw[z5,hp,Ha];rfl
   have c0:=wP F (c.take i) ow;have c1:=J_ i c;show au (U () (U () {t,_,W,_,U () {L _ _ I X.1 X.2,T.bn,T.eI,(),U () {D,_,.inl p,(),(),j,by rw[mo];omega,?_}}}));show{λb o e h1 h2=>by rw[ak h1];show L b o e h1 h2,by rw[hg];show ae,by rw[ak ax];show u,_,()}
  ·rintro σ H4⟨L,j,u,v5,rfl⟩;rw[b_,l_ (e_ _)]at j;have a3:=L _ _ B as.1 as.2;have a5:=L _ _ g J.1 J.2;show U () (U () {lp,S,_,U () {(),a3,a5,by rw[b_,b_,mo];omega,λN a6=>?_}});rw[<-k_];have Z:=aj (o:=.lst ((C++c).map V.int)) (am.refl H4) a6;have v:aH H4 N (.lst ((C++c).map V.int)) N=some (.lst ((C++c).map V.int)):=ae;generalize aH H4 N (.lst ((C++c).map V.int))=H5 at Z v⊢;have o5:mB D l H H5:=(mB.of s3).trans (L.trans (.of Z));have R:=Z _ _ u;have bl:=eL o5 f.own f.tak hk;have a7:eP K H5 tk:=λx M=>eL o5 f.own f.tak (f.keys x M);have n5:N≠l:=λz=>by rw[z,R]at v;cases v
   show U () {t,_,W,_,U () {Z _ _ (L _ _ I X.1 X.2),T.bn,T.gK,(),U () {l,tk,k,(),R,a7,bl,by rw[mo];omega,?_}}};have o6:mB D l H (aH H5 l (dM P w l (gA tk k F (.ref N)))):=λb o e h1 h2=>by rw[ak h2];show o5 b o e h1 h2
   have bt:aH H5 l (dM P w l (gA tk k F (.ref N))) N=some (.lst ((C++c).map V.int)):=by rw[ak n5];show v
   have a8:H N=none:=pO ((mB.of s3).trans L) (by rw[j];simp) (by rw[u];simp) a6;show q _ _ o6 (zh _ _ _ _) (fI.put a8) {{W,by rw[ak X.2];show Z _ _ (L _ _ I X.1 X.2)},by rw[ak (p_ ax)];show Z _ _ j,ae,?_,?_}
   ·show eP.put (λx M=>eL o6 f.own f.tak (f.keys x M)) (eL o6 f.own f.tak hk)
   ·show fF.put bt (f.lsts.off o6 f.own f.tak)
end
structure AS where
 pl:cn->List Int
 oc:Int->Bool
def mV(n:Nat)(oc:Int->Bool):List Int:=((List.range n).filter λ(i:Nat)=>!oc (i:Int)).map λ(i:Nat)=>(i:Int)
def AS.give(s:AS)(k:cn)(c:Nat):AS:={λj=>if j=k then(s.pl k).take c else s.pl j,λp=>if p∈(s.pl k).drop c then false else s.oc p}
def AS.took(s:AS)(n:Nat)(k:cn)(c:Nat):AS:={λj=>if j=k then s.pl k++(mV n s.oc).take (c-(s.pl k).length)else s.pl j,λp=>if p∈(mV n s.oc).take (c-(s.pl k).length)then true else s.oc p}
structure AS.Ok(n:Nat)(s:AS):Prop where
 in_:∀k p,p∈s.pl k->0<=p/\p<n/\s.oc p=true
 dj:∀k j p,p∈s.pl k->p∈s.pl j->k=j
 nd:∀k,(s.pl k).Nodup
def AS.new:AS:={λ_=>[],λ_=>false}
def AS.new_ok(n:Nat):AS.new.Ok n:={λ_ _ h=>(nomatch h),λ_ _ _ h=>(nomatch h),λ_=>NX}
def Hn:p∈mV n oc↔0<=p/\p<n/\oc p=false:=by
 unfold mV;rw[oi]
 constructor
 ·rintro⟨i,hi,rfl⟩;obtain⟨h1,h2⟩:=yl.mp hi;have:=x3.mp h1;show{by omega,by omega,by simpa using h2}
 ·rintro⟨h1,h2,h3⟩;show{p.toNat,yl.mpr {x3.mpr (by omega),?_},by omega};rw[show((p.toNat:Nat):Int)=p by omega,h3];rfl
def J7(n:Nat)(oc:Int->Bool):(mV n oc).Nodup:=by unfold mV;rw[Nm,List.pairwise_map];show(Nm.mp (List.filter_sublist.nodup List.nodup_range)).imp λh=>by omega
def J8(n:Nat)(oc:Int->Bool):(mV n oc).length<=n:=by unfold mV;rw[b_];show nr (y2 _ _) (by rw[rd];show e_ _)
theorem AS.Ok.give{n:Nat}{s:AS}(h:s.Ok n)(k:cn)(c:Nat):(s.give k c).Ok n:=by
 have f:∀p,p∈(s.pl k).take c->p∉(s.pl k).drop c:=λp h1 h2=>by have:=h.nd k;rw[<-t_ c (s.pl k),p5]at this;show this.2.2 p h1 p h2 ()
 have sub:∀j p,p∈(s.give k c).pl j->p∈s.pl j:=λj p d=>by
  have d:p∈(if j=k then(s.pl k).take c else s.pl j):=d
  split at d
  ·rename_i e;rw[e];show NM d
  ·show d
 show{λj p d=>?_,λj i p h1 h2=>h.dj j i p (sub j p h1) (sub i p h2),λj=>?_}
 ·obtain⟨a,b,e⟩:=h.in_ j p (sub j p d);show{a,b,?_};change(if p∈(s.pl k).drop c then false else s.oc p)=true;rw[me,e];intro z;have d:p∈(if j=k then(s.pl k).take c else s.pl j):=d
  split at d
  ·show f p d z
  ·rename_i g;show g (h.dj j k p d (List.mem_of_mem_drop z))
 ·change(if j=k then(s.pl k).take c else s.pl j).Nodup
  split
  ·show(N7 _ _).nodup (h.nd k)
  ·show h.nd j
theorem AS.Ok.took{n:Nat}{s:AS}(h:s.Ok n)(k:cn)(c:Nat):(s.took n k c).Ok n:=by
 have fr:∀p∈(mV n s.oc).take (c-(s.pl k).length),0<=p/\p<n/\s.oc p=false:=λp f=>Hn.mp (NM f);have g:((mV n s.oc).take (c-(s.pl k).length)).Nodup:=(N7 _ _).nodup (J7 _ _);unfold AS.took;generalize(mV n s.oc).take (c-(s.pl k).length)=l at fr g;have d:∀j p,p∈(if j=k then s.pl k++l else s.pl j)->p∈s.pl j\/(j=k/\p∈l):=λj p f=>by
  split at f
  ·rename_i e;rcases List.mem_append.mp f with z|z
   ·rw[e];show .inl z
   ·show .inr (e,z,)
  ·show .inl f
 show{λj p f=>?_,λj i p h1 h2=>?_,λj=>?_}
 ·change 0<=p/\p<n/\(if p∈l then true else s.oc p)=true;rcases d j p f with z|⟨_,z⟩
  ·obtain⟨a,b,e⟩:=h.in_ j p z;show{a,b,?_}
   split
   ·rfl
   ·show e
  ·show{(fr p z).1,(fr p z).2.1,by rw[md z]}
 ·rcases d j p h1 with z|⟨m,z⟩<;>rcases d i p h2 with y|⟨o,y⟩
  ·show h.dj j i p z y
  ·have:=(h.in_ j p z).2.2;rw[(fr p y).2.2]at this;cases this
  ·have:=(h.in_ i p y).2.2;rw[(fr p z).2.2]at this;cases this
  ·rw[m,o]
 ·change(if j=k then s.pl k++l else s.pl j).Nodup
  split
  ·rw[p5];show{h.nd k,g,λa q b r z=>?_};subst z;have h1:=(h.in_ k a q).2.2;rw[(fr a r).2.2]at h1;cases h1
  ·show h.nd j
abbrev Wl:=List (cn×Int)
def cL(s:AS)(W:Wl):AS:=W.foldl (λs x=>s.give x.1 x.2.toNat) s
def cA:AS->Wl->List Int|_,[]=>[]|s,x::r=>((s.pl x.1).drop x.2.toNat).reverse++cA (s.give x.1 x.2.toNat) r
def dC(n:Nat)(s:AS)(W:Wl):AS:=W.foldl (λs x=>s.took n x.1 x.2.toNat) s
def gW(s:AS)(W:Wl):Int:=(W.map λx=>x.2-((s.pl x.1).length:Int)).sum
def pU(s:AS)(W:Wl)(x:cn×Int):cL s (W++[x])=(cL s W).give x.1 x.2.toNat:=by unfold cL;rw[Ha];rfl
theorem pY:∀(W:Wl)(s:AS)(x:cn×Int),cA s (W++[x])=cA s W++(((cL s W).pl x.1).drop x.2.toNat).reverse|[],s,x=>by change _++[]=[]++_;rw[q4,List.nil_append];rfl|y::r,s,x=>by change _++cA _ (r++[x])=(_++cA _ r)++_;rw[pY r,z8];rfl
def oH(n:Nat)(s:AS)(W:Wl)(x:cn×Int):dC n s (W++[x])=(dC n s W).took n x.1 x.2.toNat:=by unfold dC;rw[Ha];rfl
theorem jf{n:Nat}:∀(W:Wl){s:AS},s.Ok n->(cL s W).Ok n|[],_,h=>h|x::r,_,h=>jf r (h.give x.1 x.2.toNat)
theorem kN{n:Nat}:∀(W:Wl){s:AS},s.Ok n->(dC n s W).Ok n|[],_,h=>h|x::r,_,h=>kN r (h.took x.1 x.2.toNat)
def Aq(s:AS)(x:cn×Int)(W:Wl):gW s (x::W)=(x.2-((s.pl x.1).length:Int))+gW s W:=by unfold gW;rw[o8,List.sum_cons]
def Iz{x:Int}(h:0<=x)(l:Nat):(x-l).toNat=x.toNat-l:=by obtain⟨k,rfl⟩:=Int.eq_ofNat_of_zero_le h;show Int.toNat_sub k l
def xG{n:Nat}{c:Pg}(h:c.Nodup)(d:∀p∈c,0<=p/\p<n):c.length<=n:=by
 have:=Ee (l:=c) (m:=(List.range n).map λ(i:Nat)=>(i:Int)) h λp b=>by obtain⟨h1,h2⟩:=d p b;show oi.mpr {p.toNat,x3.mpr (by omega),by omega}
 rw[b_,rd]at this;show this
def Km(K:O6)(H:Hp)(d:List V)(W:Wl):Prop:=Paired (λ(v:V)(x:cn×Int)=>∃b c,v=.ref b/\aY K H b [c,.int x.2]/\c8 K H x.1 c) d W
def Km.get(h:Km K H d W)(i:Nat)(v:V)(e:d[i]?=some v):∃x,W[i]?=some x/\∃b c,v=.ref b/\aY K H b [c,.int x.2]/\c8 K H x.1 c:=Paired.at_ h i v e
def Eb(h:mB d f H H')(h1:H d=some (.dK g))(h2:H f=some (.ext φ))(e:aY K H b c):aY K H' b c:=by have kp:Kp H H':={λu c e=>h.tp h1 h2 e,λu o⟨i,e⟩=>{i,h u _ e (λz=>by rw[z,h1]at e;cases e) (λz=>by rw[z,h2]at e;cases e)}};show kp.tq e
def eR.list(h:eR P w K C H t i j n ow tk m)(d:H c=some (.lst bs))(f:∀x∈tk,x.2.2≠.ref c):eR P w K C (aH H c (.lst cs)) t i j n ow tk m:=by
 obtain⟨dx,b⟩:=h.ins;have kp:Kp H (aH H c (.lst cs)):=.lst d;show{{dx,by rw[ak (λz=>by rw[z,d]at b;cases b)];show b},by rw[ak (λz=>by have e:=h.own;rw[z,d]at e;cases e)];show h.own,by rw[ak (λz=>by have e:=h.tak;rw[z,d]at e;cases e)];show h.tak,λx k=>?_,?_}
 ·show dW kp (h.keys x k)
 ·have go:∀{tk:List gB}{m:List Pl},fF H tk m->(∀x∈tk,x.2.2≠.ref c)->fF (aH H c (.lst cs)) tk m:=by
   intro tk m h f
   induction h with|nil=>show .nil|@cons x y v A r t o=>obtain⟨p,q,l,g,s⟩:=r;show .cons {p,q,l,g,?_} (o λz u=>f z (np _ u));rw[ak (λz=>f x oa (by rw[g,z]))];show s
  show go h.lsts f
theorem fF.at_(h:fF H tk m)(i:Nat)(x:gB)(e:tk[i]?=some x):∃y:Pl,m[i]?=some y/\∃l,x.2.2=.ref l/\H l=some (.lst (y.2.2.map V.int)):=(Paired.at_ h i x e).imp λ_ q=>(q.1,q.2.2.2,)
def EX(c:Pg):∀(ow:List (bZ×V)),(sE ow c).length<=ow.length:=by induction c with|nil=>intro ow;show e_ _|cons p r b=>intro ow;show nr (b _) (zu ow (.inl p))
def EC(f:List (cn×g×h))(k j:cn)(b:g)(v:h):fP (gA f k b v) j=if j=k then some v else fP f j:=by
 have d:∀c:List (cn×g×h),fP (c.map λy=>if y.1=k then(y.1,y.2.1,v)else y) j=(fP c j).map λx=>if j=k then v else x:=by
  intro c
  induction c with|nil=>rfl|cons z r m=>
   unfold fP at m⊢;rw[o8,tx,tx];have i:(if z.1=k then(z.1,z.2.1,v)else z).1=z.1:=by split<;>rfl
   rw[i]
   by_cases e:z.1=j
   ·rw[ol e];change some (if z.1=k then(z.1,z.2.1,v)else z).2.2=some (if j=k then v else z.2.2);rw[e]
    split<;>rfl
   ·rw[op e];show m
 have l:∀c:List (cn×g×h),fP c k=none->fP (c++[(k,b,v)]) j=if j=k then some v else fP c j:=by
  intro c i;unfold fP at i⊢;rw[OP]
  by_cases e:j=k
  ·subst e;rw[md (),Option.map_eq_none_iff.mp i];simp
  ·rw[me e];have:List.find? (λy:cn×g×h=>decide (y.1=j)) [(k,b,v)]=none:=by simp[p_ e]
   rw[this,OD]
 unfold gA
 by_cases hc:(fP f k).isSome=true
 ·rw[md hc,d]
  by_cases e:j=k
  ·subst e;obtain⟨x,n⟩:=vr.mp hc;rw[n,md ()];simp
  ·rw[me e];simp[e]
 ·rw[me hc];show l f (by simpa using hc)
def jn(n:Nat)(s:AS)(ow:List (bZ×V))(m:List Pl):Prop:=(∀k,bq m k=s.pl k)/\∀p:Int,0<=p->p<n->(bf ow (.inl p)).isSome=s.oc p
def iW(m:List Pl)(k j:cn)(d:V)(c:Pg):bq (gA m k d c) j=if j=k then c else bq m j:=by
 unfold bq;rw[EC]
 split<;>rfl
def jn.free(h:jn n s ow m):gP n ow=mV n s.oc:=by
 unfold gP mV
 congr 1
 show List.filter_congr λi hi=>?_;have:=x3.mp hi;rw[<-h.2 i (by omega) (by omega)];cases bf ow (.inl (i:Int))<;>rfl
theorem jn.give(h:jn n s ow m)(k:cn)(d:V)(c:Nat):jn n (s.give k c) (sE ow ((s.pl k).drop c).reverse) (gA m k d ((s.pl k).take c)):=by
 show{λj=>?_,λp e f=>?_}
 ·rw[iW,h.1];rfl
 ·rw[qh];change _=if p∈(s.pl k).drop c then false else s.oc p
  by_cases b:p∈(s.pl k).drop c
  ·rw[md b,md (NG.mpr b)];rfl
  ·rw[me b,me (λz=>b (NG.mp z))];show h.2 p e f
theorem jn.took(h:jn n s ow m)(k:cn)(d:V)(c:Nat):jn n (s.took n k c) (mi ow d ((mV n s.oc).take (c-(s.pl k).length))) (gA m k d (s.pl k++(mV n s.oc).take (c-(s.pl k).length))):=by
 show{λj=>?_,λp b e=>?_}
 ·rw[iW,h.1];rfl
 ·rw[sR];change _=if p∈(mV n s.oc).take (c-(s.pl k).length)then true else s.oc p
  split
  ·rfl
  ·show h.2 p b e
def fI.refl(H:Hp)(tk:List gB):fI H tk tk:=λx b=>.inl {x,b,()}
theorem fI.trans(a:fI H tk c)(b:fI i c d)(h:∀l,i l=none->H l=none):fI H tk d:=λx j=>by
 rcases b x j with⟨y,k,e⟩|⟨l,e,f⟩
 ·rcases a y k with⟨z,m,g⟩|⟨l,g,f⟩
  ·show .inl {z,m,g.trans e}
  ·show .inr {l,e▸g,f}
 ·show .inr {l,e,h l f}
def bx{c:Type}{l:List c}{i:Nat}{x:c}(h:l[i]?=some x):l.take (i+1)=l.take i++[x]:=by rw[z5,h];rfl
theorem rO{n:Nat}:∀(W:Wl){s:AS},s.Ok n->(cA s W).length<=n*W.length|[],_,_=>ov _|x::r,s,h=>by change(_++cA _ r).length<=n*(r.length+1);have c:=rO r (h.give x.1 x.2.toNat);have h1:=xG (h.nd x.1) λp b=>{(h.in_ x.1 p b).1,(h.in_ x.1 p b).2.1};rw[mu,NU,NH,Nat.mul_add,Nat.mul_one,Nat.add_comm];show Nat.add_le_add c (nr (Nat.sub_le _ _) h1)
def gn{K:O6}{a:Addr}{xs:List V}{g:TG}{tb:TS}{D:jV}{c:St}{H:Hp}(Pv:Nat->St->Hp->Prop)(h0:Pv 0 c H)(f:∀i c H,i<=xs.length->Pv i c H->aR K H a xs)(h:∀i x c H,xs[i]?=some x->Pv i c H->∀(N:St->Hp->Prop)(R:VK)(B:St->Hp->Prop),(∀c H,Pv (i+1) c H->N c H)->g x c H λd j=>tb (N,R,B,N,) d j)(hd:∀c H,Pv xs.length c H->D.nx c H):=uL (K:=K) (a:=a) (g:=g) (tb:=tb) (D:=D) Pv h0 f (λi x c H e p=>h i x c H e p _ D.rt _ λ_ _ q=>q) hd
def uK{lo:Int}{n:Nat}{g:TG}{tb:TS}{D:jV}{c:St}{H:Hp}(Pv:Nat->St->Hp->Prop)(h0:Pv 0 c H)(f:∀i c H,i<n->Pv i c H->∀(N:St->Hp->Prop)(R:VK)(B:St->Hp->Prop),(∀c H,Pv (i+1) c H->N c H)->g (.int (lo+i)) c H λd h=>tb (N,R,B,N,) d h)(hd:∀c H,Pv n c H->D.nx c H):=mQ (lo:=lo) (n:=n) (g:=g) (tb:=tb) (D:=D) Pv h0 (λi c H e p=>f i c H e p _ D.rt _ λ_ _ q=>q) hd
def vf(R:cn->V->Prop)(n:Nat)(s:AS)(ow:List (bZ×V)):Prop:=∀(p:Int)(v:V),0<=p->p<n->bf ow (.inl p)=some v->∃k,p∈s.pl k/\R k v
theorem vf.give(h:vf R n s ow)(k:cn)(c:Nat):vf R n (s.give k c) (sE ow ((s.pl k).drop c).reverse):=by
 intro p v d f e;rw[qh]at e
 split at e
 ·cases e
 ·rename_i g;obtain⟨j,b,r⟩:=h p v d f e;show{j,?_,r};change p∈if j=k then(s.pl k).take c else s.pl j
  split
  ·rename_i i;rw[i,<-t_ c (s.pl k),List.mem_append]at b;show b.resolve_right λz=>g (NG.mpr z)
  ·show b
theorem vf.took(h:vf R n s ow)(k:cn)(d:R k f)(c:Nat):vf R n (s.took n k c) (mi ow f ((mV n s.oc).take (c-(s.pl k).length))):=by
 intro p v g i e;rw[sR]at e
 split at e
 ·rename_i l;cases e;show{k,?_,d};change p∈if k=k then s.pl k++(mV n s.oc).take (c-(s.pl k).length)else s.pl k
  rw[md ()];show pv _ l
 ·obtain⟨j,b,r⟩:=h p v g i e;show{j,?_,r};change p∈if j=k then s.pl k++(mV n s.oc).take (c-(s.pl k).length)else s.pl j
  split
  ·rename_i m;rw[m]at b;show qx _ b
  ·show b
def vf.mono(h:vf R n s ow)(f:∀k v,R k v->c k v):vf c n s ow:=λp v b d e=>let⟨k,h1,h2⟩:=h p v b d e;{k,h1,f k v h2}
inductive Di(P:Pa)(w:World)(K:O6)(C N:Addr)(vs:List V)(H:Hp)(Q:VK)(E:XK):Prop|mk(t od td wl:Addr)(n:Nat)(ow:List (bZ×V))(tk:List gB)(m:List Pl)(S:AS)(W:Wl)(ts:List V)(_:vs=[.ref t,.ref wl])(_:eR P w K C H t od td n ow tk m)(_:jn n S ow m)(_:vf (c8 K H) n S ow)(_:S.Ok n)(_:H wl=some (.lst ts))(_:Km K H ts W)(_:(∀x∈W,0<=x.2))(_:(W.map (·.1)).Nodup)(_:W.length<=5)(_:n<=1000)(_:tk.length<=5000)(_:ow.length<=500000)(_:(gW S W<=((mV n S.oc).length:Int)->∀(l:Addr)(ow':List (bZ×V))(tk':List gB)(m':List Pl)H',mB od td H H'->eR P w K C H' t od td n ow' tk' m'->jn n (dC n (cL S W) W) ow' m'->vf (c8 K H) n (dC n (cL S W) W) ow'->H l=none->H' l=some (.lst ((cA S W).map V.int))->fI H tk tk'->(∀x∈tk',x.2.2≠.ref l)->tk'.length<=tk.length+10->ow'.length<=ow.length+5000->Q (.ref l) H'))(_:(((mV n S.oc).length:Int)<gW S W->∀H',am H H'->E (.ref N) none H'))
def Ma{a b c d i:Nat}(h1:b<=a+1000*i)(h2:c<=b+d)(h3:d<=1000):c<=a+1000*(i+1):=by rw[Nat.mul_add,<-Nat.add_assoc];show nr h2 (Nat.add_le_add h1 h3)
inductive JG(P:Pa)(w:World)(K:O6)(a:fN)(H H2:Hp)(t od td:Addr)(n:Nat)(wl lb:Addr)(tk:List gB)(ow:List (bZ×V))(S:AS)(W:Wl)(i:Nat)(σ:St)(H':Hp):Prop|mk(ow':List (bZ×V))(tk':List gB)(m':List Pl)(v2 v4 v5:Option V)(o:mB od td H2 H')(hT:eR P w K a.bQ H' t od td n ow' tk' m')(hS:jn n (cL S (W.take i)) ow' m')(hR:vf (c8 K H) n (cL S (W.take i)) ow')(nw:fI H2 tk tk')(lt:tk'.length<=tk.length+i)(lo:ow'.length<=ow.length)(nl:∀x∈tk',x.2.2≠.ref lb)(bs:H' lb=some (.lst ((cA S (W.take i)).map V.int)))(le:∀j x,j<i->W[j]?=some x->((bq m' x.1).length:Int)<=x.2)(e:σ=[some (.ref t),some (.ref wl),v2,some (.ref lb),v4,v5]):JG P w K a H H2 t od td n wl lb tk ow S W i σ H'
inductive JH(P:Pa)(w:World)(K:O6)(a:fN)(H H2:Hp)(t od td:Addr)(n:Nat)(wl lb:Addr)(tk':List gB)(ow':List (bZ×V))(tk:List gB)(S:AS)(W:Wl)(v2:Option V)(i:Nat)(σ:St)(H':Hp):Prop|mk(ow5:List (bZ×V))(tk5:List gB)(m5:List Pl)(v4 v5:Option V)(o:mB od td H2 H')(hT:eR P w K a.bQ H' t od td n ow5 tk5 m5)(hS:jn n (dC n (cL S W) (W.take i)) ow5 m5)(hR:vf (c8 K H) n (dC n (cL S W) (W.take i)) ow5)(nw:fI H2 tk tk5)(nl:∀x∈tk5,x.2.2≠.ref lb)(bs:H' lb=some (.lst ((cA S W).map V.int)))(lt:tk5.length<=tk'.length+i)(lo:ow5.length<=ow'.length+1000*i)(le:∀j x,i<=j->W[j]?=some x->((bq m5 x.1).length:Int)<=x.2)(e:σ=[some (.ref t),some (.ref wl),v2,some (.ref lb),v4,v5]):JH P w K a H H2 t od td n wl lb tk' ow' tk S W v2 i σ H'
section
def nI(T:Txt K mg a):aP P w K mg base (v8 P w) 3 a.eg.x a.eg.d ["self","wanted"] (Di P w K a.bQ a.mC):=by
 show T.eg.okE dI λe6 A outer s H vs Q E hr h=>?_
 ·obtain⟨t,od,td,wl,n,ow,tk,m,S,W,ts,rfl,hT,hS,hR,hO,c4,hW,dT,er,e7,hn,e8,e9,q,qe⟩:=h;show{_,(af (bo 2 dI.nd (aA (CJ K () ()) (by rfl) T.LB L2.Ft (ac (rN iY [] [4,5] [4,5] (ai kT) (qL _ 4 5) (cP K () (Y 1)) (λcl C s₀ H₀ ex=>{(fZ K () () (bu (lE iY [] 4) (bu (lE iY [] 5) fY))),bR,(aB f9 (Y 5) (aA (aI K ()) (by rfl) T.bC L2.aL (ac (aS (Y 0) T.bn T.be.m ((d7 (P:=P) (w:=w) T).mono (by decide)) hr T.be.b .nil aQ (ac (Y 4) O)) O)))})) O))) (af (aN (aD rh (Y 2) (aA (aI K ()) (by rfl) T.bC L2.aL (ac (eX (Y 0) T.bn T.et.m ((nJ (P:=P) (w:=w) T).mono (by decide)) hr T.et.b .nil aQ) O)) (aG _)) (ah (yN T.wR () T.zf () yL (ac aE O))) aF) (af (bo 3 dI.nd (bg O)) (af (PS.nox (d6 qq () (cP K () (Y 1)) (fZ K () () (bu (sf 4 dI.nd) (bu (sf 5 dI.nd) fY))) (ah (aM (eO K () PySem.F.plainAttrs_list PySem.F.slot_list_extend PySem.F.type_list_extend wG (Y 3) (ac (aS (Y 0) T.bn T.cM.m ((om (P:=P) (w:=w) T).mono (by decide)) hr T.cM.b .nil aQ (ac (Y 4) (ac (Y 5) O))) O)))))) (af (PS.nox (d6 qq () (cP K () (Y 1)) (fZ K () () (bu (sf 4 dI.nd) (bu (sf 5 dI.nd) fY))) (ah (aM (aS (Y 0) T.bn T.gf.m ((vE (P:=P) (w:=w) T).mono (by decide)) hr T.gf.b .nil aQ (ac (Y 4) (ac (Y 5) O))))))) (ah (az (Y 3)))))))),?_}
  obtain⟨dx,hI⟩:=hT.ins;have ev:ts.length=W.length:=Paired.length hW;show U () {wl,(),{_,aR.of c4},λD hD=>?_};show i0 (K:=K) (a:=wl) (xs:=ts) (λi a6 H'=>am H H'/\H' D=some (.lst a6)/\a6=((W.take i).map λx=>x.2-((S.pl x.1).length:Int)).map V.int) {aj (am.refl _) hD,ae,()} (λi a6 H' _ h=>aR.of (h.1 _ _ c4)) ?_ ?_
  ·rintro i v a6 H1 hv⟨s1,bh,rfl⟩;have hi:i<ts.length:=(c_.mp hv).1;obtain⟨x,L,b,kv,rfl,hb,hk⟩:=hW.get i v hv;show{b,U () {am.tseq s1 hb,(),_,U () (au {_,U () (au {(),iJ (bB ?_)})})}};show U () (iS (s1 _ _ hI) () () (U () {t,od,td,n,ow,tk,m,x.1,kv,(),hT.same s1,oq s1 hk,λlp H2 s2 fa ew=>?_}));show{_,U () {.inl {_,aR.of ew,()},_,U () {(),s2 _ _ bh,by rw[b_,b_,oD,mo];lia,lf hi {bG (s1.trans s2) hD,ae,?_}}}};rw[bx L,k_,k_,hS.1,b_];rfl
  ·rintro a6 H1⟨s1,bh,rfl⟩;rw[l_ (by lia)]at bh;show{D,U () {.inl (aR.of bh),au ?_}};have ey:=hT.same s1;show U () (iS (s1 _ _ hI) () () {t,od,td,n,ow,tk,m,(),ey,hn,λfj H2 s2 fl dV=>?_});rw[hS.free]at dV;show{_,U () {.inl {_,aR.of dV,()},_,U () {(),U () ?_}}};have I:=s1.trans s2;rw[b_];show vL (λe=>{ls (),qe (pw e) H2 I}) (λe=>lF {ls (),λlb ad=>au ?_});have q:=q (Int.not_lt.mp (OH e));clear e qe;have an:=hT.same I;have s3:=aj (o:=.lst []) (am.refl H2) ad;have cc:aH H2 lb (.lst []) lb=some (.lst []):=ae;have d4:H lb=none:=I.free ad;generalize aH H2 lb (.lst [])=H3 at s3 cc⊢;have g:=I _ _ c4;show U () {wl,(),{_,aR.of (s3 _ _ g)},?_};have a7:lb≠od:=λz=>by have e:=an.own;rw[<-z,ad]at e;cases e
   have a8:lb≠td:=λz=>by have e:=an.tak;rw[<-z,ad]at e;cases e
   have d5:wl≠od:=λz=>by have e:=an.own;rw[<-z,g]at e;cases e
   have ea:wl≠td:=λz=>by have e:=an.tak;rw[<-z,g]at e;cases e
   have ap:wl≠od/\wl≠td:=(d5,ea,);have eb:∀x∈tk,x.2.2≠.ref lb:=λx L z=>by obtain⟨i,hi⟩:=nk.mp L;obtain⟨y,_,l,e3,e4⟩:=fF.at_ an.lsts i x hi;rw[e3]at z;cases z;rw[ad]at e4;cases e4
   have ec:fI H2 tk tk:=fI.refl _ _;have fresh:∀H',mB od td H2 H'->H' od≠none->H' td≠none->∀l,H' l=none->H2 l=none:=λH' o h1 h2 l hl=>pO o h1 h2 hl;show gn (xs:=ts) (JG P w K a H H2 t od td n wl lb tk ow S W) {ow,tk,m,_,_,_,.of s3,an.same s3,hS,hR,ec,e_ _,e_ _,eb,cc,λj x hj=>absurd hj (Ow _),()} (λi σ H' _ h=>by obtain⟨_,_,_,_,_,_,o,_⟩:=h;show aR.of (o _ _ g ap.1 ap.2)) ?_ ?_
   ·rintro i v σ H4 hv⟨as,bi,m',v2,v4,v5,o4,ax,a3,bl,a9,ed,ci,ba,k,Z,rfl⟩N R B hN;have hi:i<ts.length:=(c_.mp hv).1;obtain⟨x,L,b,kv,rfl,hb,hk⟩:=hW.get i v hv;have bt:=dT x (g_ L);obtain⟨fm,ez⟩:=ax.ins;have ef:mB od td H H4:=(mB.of I).trans o4;have M:=jf (W.take i) hO;have a5:=bx L;have f:=a3.1 x.1;have da:(bq m' x.1).length<=n:=by rw[f];show xG (M.nd x.1) λp hp=>{(M.in_ x.1 p hp).1,(M.in_ x.1 p hp).2.1}
    have eG:=rO (W.take i) hO;have eh:n*(W.take i).length<=1000*5:=Nat.mul_le_mul hn (by rw[oD];lia);show{b,U () {Eb ef hT.own hT.tak hb,(),_,U () (au {_,U () (au {(),?_})})}};show U () {.inl {(),_,aR.of k},iS ez () () (U () (U () {t,od,td,n,as,bi,m',x.1,kv,x.2,(),ax,eL ef hT.own hT.tak hk,bt,by lia,λp hp=>?_,by rw[f];show M.nd x.1,λl X H5 o5 fo ei cr r G=>?_}))}
    ·rw[f]at hp;obtain⟨p0,p1,p2⟩:=M.in_ x.1 p (List.mem_of_mem_drop hp);rw[a3.2 p p0 p1];show p2
    ·have c0:=o5 _ _ k a7 a8;have u:∀y∈X,y.2.2≠.ref lb:=λy hy z=>by
      rcases r y hy with⟨y',dc,e⟩|⟨l',e,bb⟩
      ·show ba y' dc (e.trans z)
      ·rw[e]at z;cases z;rw[k]at bb;cases bb
     have bz:(sE as ((bq m' x.1).drop x.2.toNat).reverse).length<=as.length:=EX _ _;have di:fI H2 tk X:=a9.trans r (fresh H4 o4 (by rw[ax.own];simp) (by rw[ax.tak];simp));have J:=a3.give x.1 kv x.2.toNat;rw[f]at ei G bz;show{lb,l,_,U () {(),c0,ei,by rw[b_,b_,NU,NH,mo];rw[f]at da;show nr (Nat.add_le_add (nr eG eh) (nr (Nat.sub_le _ _) (nr da hn))) (by decide),?_}};show hN _ _ {_,X,_,_,_,_,λc o e h1 h2=>?_,G.list c0 u,by rw[a5,pU];show J,by rw[a5,pU];show bl.give x.1 x.2.toNat,di,by omega,nr bz ci,u,?_,λj y hj hy=>?_,()}
     ·rw[ak (λz=>by rw[z,ad]at e;cases e)];show o5 _ _ (o4 c o e h1 h2) h1 h2
     ·rw[a5,pY,k_];show ae
     ·rw[iW]
      split
      ·rename_i e;rcases Os j i with bc|bc
       ·have h1:=Z j y bc hy;rw[e,f]at h1;rw[oD];show Int.le_trans (Int.ofNat_le.mpr (NF _ _)) h1
       ·have:j=i:=by lia
        subst this;rw[L]at hy;cases hy;rw[oD];show Int.le_trans (Int.ofNat_le.mpr (Nat.min_le_left _ _)) (Int.le_of_eq (NV bt))
      ·rename_i e;rcases Os j i with bc|bc
       ·show Z j y bc hy
       ·have:j=i:=by lia
        subst this;rw[L]at hy;cases hy;show absurd () e
   ·rintro σ H4⟨as,bi,m',v2,v4,v5,o4,ax,a3,bl,a9,ed,ci,ba,k,Z,rfl⟩;rw[l_ (by lia)]at a3 bl k;have M:=jf W hO;show U () {wl,(),{_,aR.of (o4 _ _ g ap.1 ap.2)},?_};show gn (xs:=ts) (JH P w K a H H2 t od td n wl lb bi as tk S W v2) {as,bi,m',_,_,o4,ax,a3,bl,a9,ba,k,e_ _,e_ _,λj x _ L=>Z j x (by rw[ev];show(c_.mp L).1) L,()} (λi σ H' _ h=>by obtain⟨_,_,_,_,_,o,_⟩:=h;show aR.of (o _ _ g ap.1 ap.2)) ?_ ?_
    ·rintro i v σ H5 hv⟨b8,X,m5,v4,v5,o5,G,J,b9,r,u,aa,cr,c1,c2,rfl⟩N R B hN;have hi:i<ts.length:=(c_.mp hv).1;obtain⟨x,L,b,kv,rfl,hb,hk⟩:=hW.get i v hv;have bt:=dT x (g_ L);obtain⟨fv,eH⟩:=G.ins;have ej:mB od td H H5:=(mB.of I).trans o5;have dv:=kN (W.take i) M;have a5:=bx L;have f:=J.1 x.1;have da:(bq m5 x.1).length<=n:=by rw[f];show xG (dv.nd x.1) λp hp=>{(dv.in_ x.1 p hp).1,(dv.in_ x.1 p hp).2.1}
     have dK:=c2 i x (e_ _) L;show{b,U () {Eb ej hT.own hT.tak hb,(),_,U () (au {_,U () (au {(),?_})})}};show iS eH () () (U () (U () {t,od,td,n,b8,X,m5,x.1,kv,x.2,(),G,eL ej hT.own hT.tak hk,hn,dK,by lia,by lia,by lia,λek H6 o6 e5 c3 el=>?_}));have eN:(x.2-((bq m5 x.1).length:Int)).toNat=x.2.toNat-(((dC n (cL S W) (W.take i)).pl x.1).length):=by rw[<-f];show Iz bt _
     rw[eN,J.free,f]at el;have bz:=wP kv ((mV n (dC n (cL S W) (W.take i)).oc).take (x.2.toNat-(((dC n (cL S W) (W.take i)).pl x.1).length))) b8;have en:((mV n (dC n (cL S W) (W.take i)).oc).take (x.2.toNat-(((dC n (cL S W) (W.take i)).pl x.1).length))).length<=1000:=by have:=J8 n (dC n (cL S W) (W.take i)).oc;rw[oD];show nr (NF _ _) (nr this hn)
     have e0:=J.took x.1 kv x.2.toNat;have eo:∀y∈ek,y.2.2≠.ref lb:=λy hy z=>by
      rcases c3 y hy with⟨y',dc,e⟩|⟨l',e,bb⟩
      ·show u y' dc (e.trans z)
      ·rw[e]at z;cases z;rw[aa]at bb;cases bb
     show hN _ _ {_,ek,_,_,_,o5.trans o6,el,by rw[a5,oH];show e0,by rw[a5,oH];show b9.took x.1 hk x.2.toNat,r.trans c3 (fresh H5 o5 (by rw[G.own];simp) (by rw[G.tak];simp)),eo,o6 _ _ aa a7 a8,by omega,Ma c1 bz en,λj y hj hy=>?_,()};rw[iW,me (λz=>?_)]
     ·show c2 j y (by lia) hy
     ·have e1:(W.map (·.1))[j]?=some x.1:=by rw[i_,hy,<-z];rfl
      have e2:(W.map (·.1))[i]?=some x.1:=by rw[i_,L];rfl
      have:=(z7 (c_.mp e1).1 er).mp (e1.trans e2.symm);lia
    ·rintro σ H5⟨b8,X,m5,v4,v5,o5,G,J,b9,r,u,aa,cr,c1,_,rfl⟩;rw[l_ (by lia)]at J b9;show U () (q lb b8 X m5 H5 ((mB.of I).trans o5) G J b9 d4 aa (fI.trans (fI.refl H tk) r λl hl=>I.free hl) u (by lia) (by lia))
end
abbrev gd(ns:Pg)(k:Nat):Int:=ns.getD k 0
def AL(c gs:Pg):Nat->Nat|0=>0|n+1=>if gd c (n+1)*(gd gs (AL c gs n)+1)>gd c (AL c gs n)*(gd gs (n+1)+1)then n+1 else AL c gs n
theorem xQ(c gs:Pg):∀n,AL c gs n<=n
 |0=>e_ _|n+1=>by
  have:=xQ c gs n;unfold AL
  split<;>lia
def deal(c:Pg):Nat->List Int|0=>List.replicate c.length 0|n+1=>(deal c n).set (AL c (deal c n) (c.length-1)) (gd (deal c n) (AL c (deal c n) (c.length-1))+1)
theorem mm(c:Pg):∀n,(deal c n).length=c.length|0=>by simp[deal]|n+1=>by rw[deal,B_,mm c n]
def J5(ns:Pg)(i j:Nat)(v:Int)(h:i<ns.length):gd (ns.set i v) j=if i=j then v else gd ns j:=by
 unfold gd;rw[pa,pa,N8]
 by_cases e:i=j
 ·rw[md e,md e];simp[h]
 ·rw[me e,me e]
theorem xT(c:Pg):∀n k,0<=gd (deal c n) k/\gd (deal c n) k<=n
 |0,k=>by
  have e:gd (deal c 0) k=0:=by
   unfold gd deal;rw[pa,List.getElem?_replicate]
   split<;>rfl
  rw[e];show{OF _,by lia}|n+1,k=>by
  have b:=xT c n
  by_cases h0:c.length=0
  ·have:(deal c (n+1)).length=0:=by rw[mm,h0]
   have e:=List.length_eq_zero_iff.mp this;rw[e];show{OF _,by change(0:Int)<=_;lia}
  ·have d:=xQ c (deal c n) (c.length-1);rw[deal,J5 _ _ _ _ (by rw[mm];lia)]
   split
   ·have:=b (AL c (deal c n) (c.length-1));lia
   ·have:=b k;lia
inductive IS(K:O6)(vs:List V)(H:Hp)(Q:VK)(_E:XK):Prop|mk(wt gl:Addr)(ws gs:Pg)(_:vs=[.ref wt,.ref gl])(_:aY K H wt (ws.map V.int))(_:aR K H gl (gs.map V.int))(_:gs.length=ws.length)(_:0<ws.length)(_:ws.length<=4)(_:(∀k,0<=gd gs k/\gd gs k<=2000))(_:Q (.int (AL ws gs (ws.length-1):Nat)) H)
inductive Gn(K:O6)(vs:List V)(H:Hp)(Q:VK)(_E:XK):Prop|mk(n:Nat)(wt:Addr)(ws:Pg)(_:vs=[.int n,.ref wt])(_:n<=2000)(_:aY K H wt (ws.map V.int))(_:0<ws.length)(_:ws.length<=4)(_:∀t H',am H H'->H' t=some (.tup ((deal ws n).map V.int))->Q (.ref t) H')
section
def yW(T:Txt K mg a):aP P w K mg base cU 1 a.kB.x a.kB.d ["weights","given"] (IS K):=by
 show T.kB.ok jr λl A outer s H t Q E u h=>?_
 ·obtain⟨m,gl,b,gs,rfl,c,g,j,y,l4,k,q⟩:=h;show{_,(af (bo 2 jr.nd ag) (af (d6 qq () (wz () T.fC (ac ag (ac (aA (aI K ()) (by rfl) T.bC L2.aL (ac (Y 0) O)) O))) (sf 3 jr.nd) (ah (aN (aD rh (aB gZ (dP K (Y 0) (Y 3)) (aB bV (iP K (Y 1) (Y 2)) ag)) (aB gZ (dP K (Y 0) (Y 2)) (aB bV (iP K (Y 1) (Y 3)) ag)) (aG _)) (ah (bo 2 jr.nd (Y 3))) aF))) (ah (az (Y 2))))),?_}
  show U () {_,b.length,(),.inr {_,c,by simp},_,U () {{by decide,by decide,by lia,by lia},?_}};show mQ (lo:=1) (n:=((b.length:Int)-1).toNat) (λi f H'=>H=H'/\∃v,f=[some (.ref m),some (.ref gl),some (.int (AL b gs i:Nat)),v]) {(),_,()} ?_ ?_
  ·rintro i f _ hi⟨rfl,v,rfl⟩;have hd:=xQ b gs i;have o:0<=gs.getD (AL b gs i) 0/\gs.getD (AL b gs i) 0<=2000:=k (AL b gs i);have p:0<=gs.getD (i+1) 0/\gs.getD (i+1) 0<=2000:=k (i+1);have r:((1:Int)+(i:Int))=((i+1:Nat):Int):=by lia
   show U () (U () (rX c (mS (by lia) (by lia)) (U () (U () (rX g (mS (by lia) (by lia)) (r2 (r2 ?_)))))));show{.inr {?_,?_},?_}
   ·simp only[ry];lia
   ·simp only[ry];lia
   show U () (U () (rX c (mS (by lia) (by lia)) (U () (U () (rX g (mS (by lia) (by lia)) (r2 (r2 ?_)))))));rw[r];show{.inr {?_,?_},?_}
   ·simp only[ry];lia
   ·simp only[ry];lia
   show r2 (U () ?_);simp only[ry];show k9 (λh=>?_) (λh=>?_)
   ·show U () {(),some (.int ((i+1:Nat):Int)),?_};rw[AL,md h];rfl
   ·show{(),some (.int ((i+1:Nat):Int)),?_};rw[AL,me h];rfl
  ·rintro f _⟨rfl,v,rfl⟩;have e:((b.length:Int)-1).toNat=b.length-1:=by lia
   rw[e];show U () q
def D7(T:Txt K mg a):aP P w K mg base cU 2 a.wV.x a.wV.d ["total","weights"] (Gn K):=by
 show T.wV.ok oP λC A outer s H N Q E D h=>?_
 ·obtain⟨n,f,b,rfl,hn,y,F,l4,q⟩:=h;show{_,(af (bo 2 oP.nd (aB D0 (bg (ac ag O)) (aA (aI K ()) (by rfl) T.bC L2.aL (ac (Y 1) O)))) (af (d6 qq () (dQ () T.fC (ac (Y 0) O)) (sf 3 oP.nd) (af (bo 4 oP.nd (pc T.kB (yW T) D (ac (Y 1) (ac (Y 2) O)))) (ah (jM (aB bV (iP K (Y 2) (Y 4)) ag) (jN (Y 2) (Y 4) yw))))) (ah (az (b0 (fg K ()) (by rfl) T.d8 L2.bX (ac (Y 2) O)))))),?_}
  show{ls (),λl z=>?_};have j:aY K (aH H l (.lst [.int 0])) f (b.map V.int):=am.tseq (aj (am.refl H) z) y;show U () {_,b.length,(),.inr {_,j,by simp},l,_,U () {(),ae,by lia,by lia,dq (by simp;lia),λg hg=>?_}};have G:am H (aH (aH H l (.lst [.int 0])) g (.lst (List.replicate (b.length:Int).toNat [V.int 0]).flatten)):=aj (aj (am.refl H) z) hg;have I:(List.replicate (b.length:Int).toNat [V.int 0]).flatten=(deal b 0).map V.int:=by
   rw[ry,deal,List.map_replicate];generalize b.length=m
   induction m with|zero=>rfl|succ m J=>rw[t2,Nk,J,t2];rfl
  have o:H g=none:=(JK hg).2;show U () {(n:Int),(),by lia,by lia,?_};show mQ (lo:=0) (n:=(n:Int).toNat) (λi p H'=>am H H'/\H' g=some (.lst ((deal b i).map V.int))/\(Mn λr u=>p=[some (.int n),some (.ref f),some (.ref g),r,u])) {G,by rw[ae,I],_,_,()} ?_ ?_
  ·rintro i p L hi⟨e,c,r,u,rfl⟩;have B:=xT b i;have hd:=xQ b (deal b i) (b.length-1);have v:=mm b i;show U () (U () {f,g,b,deal b i,(),am.tseq e y,aR.of c,v,F,l4,λk=>{(B k).1,by have:=(B k).2;lia},?_});show U () (U () (rX (aR.of c) (mS (by lia) (by lia)) (r2 ?_)));show U () (U () {g,_,_,U () {(),c,Hg (by lia) (by simp;lia),?_}});show{bG e o,?_,_,_,()};rw[ae];simp only[ry];rw[ze];rfl
  ·rintro p L⟨e,c,r,u,rfl⟩;show U () {g,U () (.inl {aR.of c,λt M=>?_})};show q t _ (aj e M) ae
end
inductive yo(C:Addr)(vs:List V)(H:Hp)(Q:VK)(_E:XK):Prop|mk(t dx ar ru sh:Addr)(hm:Str)(_:vs=[.ref t,.str hm,.ref ar,.ref ru,.ref sh])(_:H t=some (.ins C dx []))(_:∀(ba:Addr)H',H ba=none->(∀b o,H b=some o->b≠t->H' b=some o)->H' t=some (.ins C dx [("home",.str hm),("arms",.ref ar),("rule",.ref ru),("shuts",.ref sh),("paused",.bl false),("closed",.bl false),("barred",.ref ba)])->H' ba=some (.dK [])->Q .non H')
section
def sk(T:Txt K mg a):aP P w K mg base cU 1 a.ee.x a.ee.d ["self","home","arms","rule","shuts"] (yo a.fU):=by
 show T.ee.ok rS λk A outer s H m Q E n h=>?_
 ·obtain⟨t,dx,ar,ru,sh,hm,rfl,l,q⟩:=h;show{_,(af (cz K () (Y 0) (Y 1)) (af (cz K () (Y 0) (Y 2)) (af (cz K () (Y 0) (Y 3)) (af (cz K () (Y 0) (Y 4)) (af (cz K () (Y 0) gT) (af (cz K () (Y 0) gT) (ah (cz K () (Y 0) ky)))))))),?_}
  show U () (U () {t,_,dx,U () {l,T.a0,T.eK,by simp,?_}});rw[show gF "home" (V.str hm) []=([("home",V.str hm)]:List (Str×V))from ()];show U () (U () {t,_,dx,U () {ae,T.a0,T.fO,by simp,?_}});rw[iw,show gF "arms" (V.ref ar) [("home",V.str hm)]=([("home",V.str hm),("arms",V.ref ar)]:List (Str×V))from ()];show U () (U () {t,_,dx,U () {ae,T.a0,T.nL,by simp,?_}});rw[iw,show gF "rule" (V.ref ru) [("home",V.str hm),("arms",V.ref ar)]=([("home",V.str hm),("arms",V.ref ar),("rule",V.ref ru)]:List (Str×V))from ()];show U () (U () {t,_,dx,U () {ae,T.a0,T.ma,by simp,?_}});rw[iw,show gF "shuts" (V.ref sh) [("home",V.str hm),("arms",V.ref ar),("rule",V.ref ru)]=([("home",V.str hm),("arms",V.ref ar),("rule",V.ref ru),("shuts",V.ref sh)]:List (Str×V))from ()];show U () {t,_,dx,U () {ae,T.a0,T.iM,by simp,?_}};rw[iw,show gF "paused" (V.bl false) [("home",V.str hm),("arms",V.ref ar),("rule",V.ref ru),("shuts",V.ref sh)]=([("home",V.str hm),("arms",V.ref ar),("rule",V.ref ru),("shuts",V.ref sh),("paused",V.bl false)]:List (Str×V))from ()];show U () {t,_,dx,U () {ae,T.a0,T.eF,by simp,?_}};rw[iw,show gF "closed" (V.bl false) [("home",V.str hm),("arms",V.ref ar),("rule",V.ref ru),("shuts",V.ref sh),("paused",V.bl false)]=([("home",V.str hm),("arms",V.ref ar),("rule",V.ref ru),("shuts",V.ref sh),("paused",V.bl false),("closed",V.bl false)]:List (Str×V))from ()];showλf c=>?_;have i:t≠f:=λz=>by rw[<-z,ae]at c;cases c
  show U () {t,_,dx,U () {by rw[ak i];show ae,T.a0,T.iN,by simp,?_}};rw[show gF "barred" (V.ref f) [("home",V.str hm),("arms",V.ref ar),("rule",V.ref ru),("shuts",V.ref sh),("paused",V.bl false),("closed",V.bl false)]=([("home",V.str hm),("arms",V.ref ar),("rule",V.ref ru),("shuts",V.ref sh),("paused",V.bl false),("closed",V.bl false),("barred",V.ref f)]:List (Str×V))from ()];have g:H f=none:=by rw[ak (p_ i)]at c;show c
  show q f _ g (λb o e j=>?_) ae (by rw[ak (p_ i)];show ae);rw[ak j,ak (av e g),ak j];show e
end
inductive yp(P:Pa)(w:World)(K:O6)(C D:Addr)(vs:List V)(H:Hp)(Q:VK)(_E:XK):Prop|mk(t dx:Addr)(z:Int)(n:Nat)(_:vs=[.ref t,.int z,.int n])(_:H t=some (.ins C dx []))(_:∀(tb od td iu:Addr)H',H tb=none->H od=none->H td=none->H iu=none->od≠iu->(∀b o,H b=some o->b≠t->H' b=some o)->H' t=some (.ins C dx [("slope",.int z),("table",.ref tb),("inside",.ref iu)])->eR P w K D H' tb od td n [] [] []->H' iu=some (.dK [])->Q .non H')
section
def su(T:Txt K mg a):aP P w K mg base cU 3 a.eB.x a.eB.d ["self","slope","many"] (yp P w K a.fj a.bQ):=by
 show T.eB.ok rW λZ A outer s H vs Q E hr h=>?_
 ·obtain⟨t,dx,z,n,rfl,hT,q⟩:=h;show{_,(af (cz K () (Y 0) (Y 1)) (af (cz K () (Y 0) (mI T.En ((sr (P:=P) (w:=w) T).mono (by decide)) hr () T.G4 T.eu.b .nil aQ (ac (Y 2) O))) (ah (cz K () (Y 0) ky)))),?_}
  show U () (U () {t,_,dx,U () {hT,T.bD,T.gL,by simp,?_}});rw[show gF "slope" (V.int z) []=([("slope",V.int z)]:List (Str×V))from ()];have f1:∀b o,H b=some o->b≠t->aH H t (.ins a.fj dx [("slope",V.int z)]) b=some o:=λb o e m=>by rw[ak m];show e
  have g:aH H t (.ins a.fj dx [("slope",V.int z)]) t=some (.ins a.fj dx [("slope",V.int z)]):=ae;have y:∀b,aH H t (.ins a.fj dx [("slope",V.int z)]) b=none->H b=none:=λb e=>by
   by_cases h:b=t
   ·rw[h,ae]at e;cases e
   ·rw[ak h]at e;show e
  generalize aH H t (.ins a.fj dx [("slope",V.int z)])=k at f1 g y⊢;show U () (λc ty i G I=>?_);have f2:∀b o,k b=some o->aH (aH k ty (.own c)) c (.ins a.bQ ty []) b=some o:=λb o e=>by rw[ak (av e i),ak (av e G)];show e
  have B:aH (aH k ty (.own c)) c (.ins a.bQ ty []) c=some (.ins a.bQ ty []):=ae;have C:aH (aH k ty (.own c)) c (.ins a.bQ ty []) ty=some (.own c):=by rw[ak I];show ae
  generalize aH (aH k ty (.own c)) c (.ins a.bQ ty [])=H2 at f2 B C⊢;show{c,ty,n,(),B,C,λW X D p r f3 f=>{(),?_}};have n1:∀b,H2 b=none->k b=none:=λb e=>by cases z:k b with|none=>rfl|some o=>rw[f2 b o z]at e;cases e
  have u:∀b o,k b=some o->D b=some o:=λb o e=>f3 b o (f2 b o e) (av e i);have J:=u _ _ g;show U () {t,_,dx,U () {J,T.bD,T.dU,by simp,?_}};rw[show gF "table" (V.ref c) [("slope",V.int z)]=([("slope",V.int z),("table",V.ref c)]:List (Str×V))from ()];showλv l=>?_;have L:t≠v:=λz=>by rw[<-z,ae]at l;cases l
  have j:D v=none:=by rw[ak (p_ L)]at l;show l
  show U () {t,_,dx,U () {by rw[ak L];show ae,T.bD,T.bJ,by simp,?_}};rw[show gF "inside" (V.ref v) [("slope",V.int z),("table",V.ref c)]=([("slope",V.int z),("table",V.ref c),("inside",V.ref v)]:List (Str×V))from ()];have n3:∀b,D b=none->k b=none:=λb e=>by cases z:k b with|none=>rfl|some o=>rw[u b o z]at e;cases e
  have F:∀b o,D b=some o->b≠t->aH (aH (aH D t (.ins a.fj dx [("slope",V.int z),("table",V.ref c)])) v (.dK [])) t (.ins a.fj dx [("slope",V.int z),("table",V.ref c),("inside",V.ref v)]) b=some o:=λb o e m=>by rw[ak m,ak (av e j),ak m];show e
  have M:c≠t:=λz=>by rw[z,g]at i;cases i
  have N:W≠t:=λz=>by rw[z,f2 _ _ g]at p;cases p
  have R:X≠t:=λz=>by rw[z,f2 _ _ g]at r;cases r
  show q c W X v _ (y _ i) (y _ (n1 _ p)) (y _ (n1 _ r)) (y _ (n3 _ j)) (av f.own j) (λb o e m=>F b o (u b o (f1 b o e m)) m) ae ?_ (by rw[ak (p_ L)];show ae);obtain⟨S,hI⟩:=f.ins;show{{S,F _ _ hI M},F _ _ f.own N,F _ _ f.tak R,λx hx=>(by cases hx),.nil}
end
inductive yq(C:Addr)(vs:List V)(H:Hp)(Q:VK)(_E:XK):Prop|mk(t dx:Addr)(z sa:Int)(_:vs=[.ref t,.int z,.int sa])(_:H t=some (.ins C dx []))(_:(2<=z/\z<=997))(_:(∀i:Nat,2+(i:Int)<z->z%(2+(i:Int))≠0))(_:(0<=sa/\sa<=cw))(_:∀(ln tn ci dl:Addr)H',H ln=none->H tn=none->H ci=none->H dl=none->ln≠tn->ln≠ci->tn≠ci->(∀b o,H b=some o->b≠t->H' b=some o)->H' t=some (.ins C dx [("own_prime",.int z),("own_salt",.int sa),("layer_named",.ref ln),("trial_named",.ref tn),("came_into",.ref ci),("deeds",.ref dl)])->H' ln=some (.dK [])->H' tn=some (.dK [])->H' ci=some (.dK [])->H' dl=some (.lst [])->Q .non H')
def va(t:Addr)(H H':Hp):Prop:=∀b o,H b=some o->b≠t->H' b=some o
def va.no{t a:Addr}(h:va t H H')(e:H' a=none)(n:a≠t):H a=none:=by cases z:H a with|none=>rfl|some o=>rw[h a o z n]at e;cases e
@[elab_as_elim]theorem fB{H:Hp}{a:Addr}{o:HO}{motive:Hp->Prop}(c:H a=none)(h:∀H',am H H'->H' a=some o->motive H'):motive (aH H a o):=h _ (aj (am.refl H) c) ae
@[elab_as_elim]theorem Ca{H:Hp}{t:Addr}{o:HO}{motive:Hp->Prop}(h:∀H',va t H H'->H' t=some o->motive H'):motive (aH H t o):=h _ (λ_ _ e n=>by rw[ak n];show e) ae
section
def iL(T:Txt K mg a):aP P w K mg base cU 5 a.cT.x a.cT.d ["self","prime","salt"] (yq a.bh):=by
 show T.cT.ok se λaa A outer s H vs Q E hr h=>?_
 ·obtain⟨t,dx,z,sa,rfl,k,h1,h2,h3,q⟩:=h;show{_,(af (aM (pc T.gu (uq T) hr (ac (Y 1) (ac (Y 2) O)))) (af (cz K () (Y 0) (Y 1)) (af (cz K () (Y 0) (Y 2)) (af (cz K () (Y 0) ky) (af (cz K () (Y 0) ky) (af (cz K () (Y 0) ky) (ah (cz K () (Y 0) (bg O))))))))),?_}
  show U () (U () {z,sa,(),h1,h2,h3,λH0 v=>?_});show U () (U () {t,_,dx,U () {v _ _ k,T.ao,T.bW,by simp,?_}});show Ca λH1 o1 t1=>?_;show U () (U () {t,_,dx,U () {t1,T.ao,T.gM,(show 1<1000 by decide),?_}});show Ca λH2 o2 B=>?_;showλln g=>fB g λH3 C e3=>?_;show U () {t,_,dx,U () {C _ _ B,T.ao,T.aK,(show 2<1000 by decide),?_}};show Ca λl m D=>?_;showλtn f=>fB f λH5 F e5=>?_;show U () {t,_,dx,U () {F _ _ D,T.ao,T.aJ,(show 3<1000 by decide),?_}};show Ca λp G I=>?_;showλJ c=>fB c λH7 L e7=>?_;show U () {t,_,dx,U () {L _ _ I,T.ao,T.c7,(show 4<1000 by decide),?_}};show Ca λr M N=>?_;show{ls (),λdl i=>fB i λH9 R e9=>?_};show U () {t,_,dx,U () {R _ _ N,T.ao,T.je,(show 5<1000 by decide),?_}};show Ca λS V ta=>?_;have n1:ln≠t:=λy=>by rw[y,B]at g;cases g
  have n2:tn≠t:=λy=>by rw[y,D]at f;cases f
  have n3:J≠t:=λy=>by rw[y,I]at c;cases c
  have n4:dl≠t:=λy=>by rw[y,N]at i;cases i
  have W:va t H H2:=λb o e n=>o2 b o (o1 b o (v b o e) n) n;have p4:va t H3 l:=m;have X:va t H l:=λb o e n=>m b o (C b o (W b o e n)) n;have Z:va t l p:=λb o e n=>G b o (F b o e) n;have u:va t p r:=λb o e n=>M b o (L b o e) n;have j:va t r S:=λb o e n=>V b o (R b o e) n;have k6:va t H p:=λb o e n=>Z b o (X b o e n) n;have k8:va t H r:=λb o e n=>u b o (k6 b o e n) n;have l4:=m _ _ e3 n1;have l6:=Z _ _ l4 n1;have l8:=u _ _ l6 n1;have m6:=G _ _ e5 n2;have m8:=u _ _ m6 n2;show q ln tn J dl S (W.no g n1) (X.no f n2) (k6.no c n3) (k8.no i n4) (av l4 f) (av l6 c) (av m6 c) (λb o e n=>j b o (k8 b o e n) n) ta (j _ _ l8 n1) (j _ _ m8 n2) (j _ _ (M _ _ e7 n3) n3) (V _ _ e9 n4)
end
def Bl(c:Nat):Int:=Txt.find jQ {#[c]}
def xI(m:Int)(cs:Pe):Int:=cs.foldl (λm c=>1009*m+Bl c+1) m
def Ep{m:Int}{cs:Pe}{i c:Nat}(h:cs[i]?=some c):xI m (cs.take (i+1))=1009*xI m (cs.take i)+Bl c+1:=by unfold xI;rw[z5,h,Ha];rfl
def JI{c:Nat}(h:c∈jQ.cps.toList):∃i r,Builtin.Str.occurrences jQ {#[c]} 0 jQ.length 1=i::r/\Bl c=(i:Nat):=by have e:=StrLaws.found_one jQ c;rw[ol h]at e;cases q:Builtin.Str.occurrences jQ {#[c]} 0 jQ.length 1 with|nil=>rw[q]at e;cases e|cons i r=>show{i,r,(),?_};unfold Bl Txt.find;rw[q]
def oh(p m sl:Int)(x:Str):Int:=if sl=p then xI m x.cps.toList%(p*p)%p else(xI m x.cps.toList%(p*p)/p+sl*(xI m x.cps.toList%(p*p)%p))%p
inductive Gc(vs:List V)(H:Hp)(Q:VK)(_E:XK):Prop|mk(p:_)(m:_)(x:_)(_:vs=[.int p,.int m,.str x])(_:xg x)(_:(2<=p/\p<=997))(_:∀t,H t=none->Q (.ref t) (aH H t (.tup [.int (xI m x.cps.toList%(p*p)/p),.int (xI m x.cps.toList%(p*p)%p)])))
inductive Ge(K:O6)(vs:List V)(H:Hp)(Q:VK)(_E:XK):Prop|mk(t:Addr)(p s x y:Int)(_:vs=[.int p,.int s,.ref t])(_:aY K H t [.int x,.int y])(_:0<p)(_:(0<=s/\s<=1000))(_:Q (.int (if s=p then y else(x+s*y)%p)) H)
inductive BU(a:fN)(vs:List V)(H:Hp)(Q:VK)(_E:XK):Prop|mk(h lo dx dl:Addr)(fs gs:List (Str×V))(p m sl:Int)(x:Str)(_:vs=[.ref h,.ref lo,.str x])(_:H h=some (.ins a.bh dx fs))(_:fs.lookup ("own_prime":Str)=some (V.int p))(_:fs.lookup ("own_salt":Str)=some (V.int m))(_:H lo=some (.ins a.fj dl gs))(_:gs.lookup ("slope":Str)=some (V.int sl))(_:xg x)(_:(2<=p/\p<=997))(_:(0<=sl/\sl<=1000))(_:∀H',am H H'->Q (.int (oh p m sl x)) H')
section
def yU(T:Txt K mg a):aP P w K mg base cU 1 a.kn.x a.kn.d ["p","salt","guest"] Gc:=by
 show T.kn.ok jq λf A outer s H k Q E l h=>?_
 ·obtain⟨p,m,x,rfl,hg,⟨n,o⟩,q⟩:=h;show{_,(af (bo 3 jq.nd (Y 1)) (af (d6 qq () (DW (Y 2)) (sf 4 jq.nd) (ah (bo 3 jq.nd (aB bV (aB bV (aB gZ (cC T.HB ()) (Y 3)) (eO K () PySem.F.plainAttrs_str PySem.F.slot_str_index PySem.F.type_str_index Ek (cC T.nQ ()) (ac (Y 4) O))) ag)))) (ah (az (aA zG (by rfl) T.Ei L2.zI (ac (aB aW (Y 3) (aB gZ (Y 0) (Y 0))) (ac (Y 0) O))))))),?_}
  show U () (U () {x,(),?_});show Hq (λi b H'=>H=H'/\∃v,b=[some (.int p),some (.int m),some (.str x),some (.int (xI m (x.cps.toList.take i))),v]) {(),_,()} ?_ ?_
  ·rintro i c b _ hc⟨rfl,v,rfl⟩;obtain⟨j,r,g,hn⟩:=JI (hg.cs c (g_ hc));show U () (r2 {.inl {by decide,by decide},(),U () {jQ,_,j,r,(),(),g,_,U () {(),r2 {(),some (.str {#[c]}),?_}}}});rw[Ep hc,hn];rfl
  ·rintro b _⟨rfl,v,rfl⟩;rw[l_ (e_ _)];have e:(0:Int)<p*p:=Int.mul_pos (by lia) (by lia);show U () (U () (U () (r2 {.inl {by lia,by lia},_,U () {(),e,U () {_,U () {{by lia,by lia},q}}}})))
def yV(T:Txt K mg a):aP P w K mg base cU 1 a.ko.x a.ko.d ["p","slope","point"] (Ge K):=by
 show T.ko.ok lJ λc A outer s H f Q E g h=>?_
 ·obtain⟨t,p,s,x,y,rfl,b,e,⟨i,j⟩,q⟩:=h;show{_,(af (bo 3 lJ.nd (dP K (Y 2) ag)) (af (bo 4 lJ.nd (dP K (Y 2) ag)) (af (aN (aD aX (Y 1) (Y 0) (aG _)) (ah (az (Y 4))) aF) (ah (az (aB aW (aB bV (Y 3) (aB gZ (Y 1) (Y 4))) (Y 0))))))),?_}
  (iterate 2 show U () (rX b () ?_));show U () (U () {(),U () (kC (λh=>?_) (λh=>?_))})
  ·rw[md h]at q;show U () q
  ·rw[me h]at q;show U () (U () (U () (r2 {.inl {by lia,by lia},_,U () {(),U () (r2 (e,q,))}})))
def gH(T:Txt K mg a):aP P w K mg base cU 2 a.bH.x a.bH.d ["self","layer","guest"] (BU a):=by
 show T.bH.ok oU λf A outer s H r Q E c h=>?_
 ·obtain⟨h,lo,dx,dl,fs,gs,p,m,sl,x,rfl,b,e,g,i,j,k,l,n,q⟩:=h;show{_,(ah (az (pc T.ko (yV T) c (ac (aC K () (Y 0)) (ac (aC K () (Y 1)) (ac (pc T.kn (yU T) c (ac (aC K () (Y 0)) (ac (aC K () (Y 0)) (ac (Y 2) O)))) O)))))),?_};show U () {h,_,dx,_,U () {b,T.ao,T.bW,e,U () {lo,_,dl,_,U () {i,T.bD,T.gL,j,U () {h,_,dx,_,U () {b,T.ao,T.bW,e,U () {h,_,dx,_,U () {b,T.ao,T.gM,g,U () {p,m,x,(),k,l,λt o=>?_}}}}}}}}};show{t,p,sl,_,_,(),aY.of ae,by lia,n,q _ (aj (am.refl H) o)}
end
abbrev cI(x y:Str):cn:=.inr [.inr x,.inr y]
structure bE where
 nm:Str
 sl:Int
 S:AS
 ins:List (Str×Str×Str)
structure du where
 nm:Str
 home:Str
 arms:List Str
 rule:Ru
 shuts:List Str
 pau:Bool
 clo:Bool
 bar:List Str
structure bj where
 p:Nat
 salt:Int
 las:List bE
 trs:List du
 came:List (Str×List (Str×Str))
structure ZS where
 G:Ro->Addr
 dx:Ro->Addr
 cv:List (bZ×V)ds:List V
 iv:Nat->List (bZ×V)ow:Nat->List (bZ×V)tk:Nat->List gB
 ar:Nat->Addr
 ru:Nat->V
 sh:Nat->Addr
def gU:List Str->(Nat->V)->List (bZ×V)|[],_=>[]|n::r,f=>(.inr n,f 0)::gU r λi=>f (i+1)
def cont(P:Pa)(w:World)(a:fN)(M:bj)(Z:ZS):Ro->Option HO|.hh=>some (.ins a.bh (Z.dx .hh) [("own_prime",.int M.p),("own_salt",.int M.salt),("layer_named",.ref (Z.G .ln)),("trial_named",.ref (Z.G .tn)),("came_into",.ref (Z.G .ci)),("deeds",.ref (Z.G .dl))])|.ln=>some (.dK (gU (M.las.map bE.nm) λi=>.ref (Z.G (.lo i))))|.tn=>some (.dK (gU (M.trs.map du.nm) λi=>.ref (Z.G (.tr i))))|.ci=>some (.dK Z.cv)|.dl=>some (.lst Z.ds)|.lo i=>M.las[i]?.map λl=>.ins a.fj (Z.dx (.lo i)) [("slope",.int l.sl),("table",.ref (Z.G (.tb i))),("inside",.ref (Z.G (.iu i)))]|.iu i=>M.las[i]?.map λ_=>.dK (Z.iv i)|.tb i=>M.las[i]?.map λ_=>.ins a.bQ (Z.dx (.tb i)) [("many",.int M.p),("owners",.ref (Z.G (.od i))),("taken",.ref (Z.G (.td i)))]|.od i=>M.las[i]?.map λ_=>.dK (Z.ow i)|.td i=>M.las[i]?.map λ_=>dM P w (Z.G (.td i)) (Z.tk i)|.tr i=>M.trs[i]?.map λt=>.ins a.fU (Z.dx (.tr i)) [("home",.str t.home),("arms",.ref (Z.ar i)),("rule",Z.ru i),("shuts",.ref (Z.sh i)),("paused",.bl t.pau),("closed",.bl t.clo),("barred",.ref (Z.G (.ba i)))]|.ba i=>M.trs[i]?.map λt=>.dK (t.bar.map λg=>(.inr g,.bl true))
def bU(K:O6)(H:Hp)(iv:List (bZ×V))(ins:List (Str×Str×Str)):Prop:=Paired (λ(x:bZ×V)(y:Str×Str×Str)=>x.1=.inr y.1/\∃s,x.2=.ref s/\aY K H s [.str y.2.1,.str y.2.2]) iv ins
def fK(K:O6)(H:Hp)(c:List V)(d:List (Str×Str)):Prop:=Paired (λ(u:V)(y:Str×Str)=>∃s,u=.ref s/\aY K H s [.str y.1,.str y.2]) c d
def eQ(K:O6)(H:Hp)(dl:Addr)(cv:List (bZ×V))(cm:List (Str×List (Str×Str))):Prop:=Paired (λ(x:bZ×V)(y:Str×List (Str×Str))=>x.1=.inr y.1/\∃l b,x.2=.ref l/\l≠dl/\H l=some (.lst b)/\fK K H b y.2) cv cm
structure Im(dl:Addr)(H H':Hp):Prop where
 kp:Kp H H'
 ls:∀b xs,H b=some (.lst xs)->b≠dl->H' b=some (.lst xs)
section
variable{K:O6}{H a:Hp}{dl:Addr}
theorem Im.of(h:am H a):Im dl H a:={.of h,λb c e _=>h b _ e}
def bU.kp(e:Kp H a)(h:bU K H iv ins):bU K a iv ins:=Paired.mapP h λ_ _ q=>{q.1,q.2.imp λ_ q=>{q.1,e.tq q.2}}
def fK.kp(e:Kp H a)(h:fK K H c d):fK K a c d:=Paired.mapP h λ_ _ q=>q.imp λ_ q=>{q.1,e.tq q.2}
def eQ.im(e:Im dl H a)(h:eQ K H dl cv cm):eQ K a dl cv cm:=Paired.mapP h λ_ _ q=>{q.1,q.2.imp λ_ q=>q.imp λ_ q=>{q.1,q.2.1,e.ls _ _ q.2.2.1 q.2.1,q.2.2.2.kp e.kp}}
def fF.im(e:Im dl H a)(n:∀x∈tk,x.2.2≠.ref dl)(h:fF H tk m):fF a tk m:=Paired.mapM h λx b _ q=>{q.1,q.2.1,q.2.2.imp λ_ q=>{q.1,e.ls _ _ q.2 λz=>n x b (by rw[q.1,z])}}
end
structure bv(P:Pa)(w:World)(K:O6)(a:fN)(H:Hp)(M:bj)(Z:ZS):Prop where
 inj:∀r r' o o',cont P w a M Z r=some o->cont P w a M Z r'=some o'->Z.G r=Z.G r'->r=r'
 at_:∀r o,cont P w a M Z r=some o->H (Z.G r)=some o
 seats:∀i l,M.las[i]?=some l->bU K H (Z.iv i) l.ins
 trs:∀i t,M.trs[i]?=some t->aY K H (Z.ar i) (t.arms.map V.str)/\fG K H t.rule (Z.ru i)/\aY K H (Z.sh i) (t.shuts.map V.str)tabs:∀i l,M.las[i]?=some l->eP K H (Z.tk i)/\(∃m,fF H (Z.tk i) m/\jn M.p l.S (Z.ow i) m)/\vf (c8 K H) M.p l.S (Z.ow i)/\∀x∈Z.tk i,x.2.2≠.ref (Z.G .dl)came:eQ K H (Z.G .dl) Z.cv M.came
section
variable{P:Pa}{w:World}{K:O6}{a:fN}{H H':Hp}{M s:bj}{Z c:ZS}
def bv.imm(h:bv P w K a H M Z)(e:cont P w a M Z r=some o)(f:∀b o,H b=some o->b≠Z.G r->H' b=some o):Im (Z.G .dl) H H':=by
 have g:=h.at_ r o e;have i:(∀d,o≠.tup d)/\(∀x y,o≠.frz x y)/\∀d,o=.lst d->r=.dl:=by
  cases r<;>simp only[cont,Option.map_eq_some_iff,N5]at e
  case hh=>subst e;show{λ_ z=>(nomatch z),λ_ _ z=>(nomatch z),λ_ z=>(nomatch z)}
  case ln=>subst e;show{λ_ z=>(nomatch z),λ_ _ z=>(nomatch z),λ_ z=>(nomatch z)}
  case tn=>subst e;show{λ_ z=>(nomatch z),λ_ _ z=>(nomatch z),λ_ z=>(nomatch z)}
  case ci=>subst e;show{λ_ z=>(nomatch z),λ_ _ z=>(nomatch z),λ_ z=>(nomatch z)}
  case dl=>subst e;show{λ_ z=>(nomatch z),λ_ _ z=>(nomatch z),λ_ _=>()}
  all_goals obtain⟨_,_,e⟩:=e;subst e;show{λ_ z=>(nomatch z),λ_ _ z=>(nomatch z),λ_ z=>(nomatch z)}
 obtain⟨j,k,l⟩:=i;show{{λu d q=>f _ _ q λz=>?_,λu x⟨m,q⟩=>{m,f _ _ q λz=>?_}},λb d q n=>f _ _ q λz=>?_}
 ·rw[z,g]at q;show j _ (n_ q)
 ·rw[z,g]at q;show k _ _ (n_ q)
 ·rw[z,g]at q;show n (by rw[z,l _ (n_ q)])
def bv.set(h:bv P w K a H M Z)(f:cont P w a M Z d=some C)(v:∀b o,H b=some o->b≠Z.G d->H' b=some o)(u:c.G=Z.G)(j:∀r o,cont P w a s c r=some o->(r=d/\H' (Z.G d)=some o)\/(r≠d/\cont P w a M Z r=some o))(seats:∀i l,s.las[i]?=some l->bU K H' (c.iv i) l.ins)(trs:∀i t,s.trs[i]?=some t->aY K H' (c.ar i) (t.arms.map V.str)/\fG K H' t.rule (c.ru i)/\aY K H' (c.sh i) (t.shuts.map V.str))(tabs:∀i l,s.las[i]?=some l->eP K H' (c.tk i)/\(∃m,fF H' (c.tk i) m/\jn s.p l.S (c.ow i) m)/\vf (c8 K H') s.p l.S (c.ow i)/\∀x∈c.tk i,x.2.2≠.ref (c.G .dl))(came:eQ K H' (c.G .dl) c.cv s.came):bv P w K a H' s c:=by
 show{λr y o A e B g=>?_,λr o e=>?_,seats,trs,tabs,came}
 ·rw[u]at g;rcases j r o e with⟨rfl,_⟩|⟨_,q⟩<;>rcases j y A B with⟨rfl,_⟩|⟨_,k⟩
  ·rfl
  ·show h.inj _ _ _ _ f k g
  ·show h.inj _ _ _ _ q f g
  ·show h.inj _ _ _ _ q k g
 ·rw[u];rcases j r o e with⟨rfl,q⟩|⟨n,q⟩
  ·show q
  ·show v _ _ (h.at_ _ _ q) λz=>n (h.inj _ _ _ _ q f z)
def bv.trsI(h:bv P w K a H M Z)(e:Kp H H'):∀i t,M.trs[i]?=some t->aY K H' (Z.ar i) (t.arms.map V.str)/\fG K H' t.rule (Z.ru i)/\aY K H' (Z.sh i) (t.shuts.map V.str):=λi t b=>let⟨h1,h2,h3⟩:=h.trs i t b;{e.tq h1,h2.kp e,e.tq h3}
def bv.tabsI(h:bv P w K a H M Z)(e:Im (Z.G .dl) H H'):∀i l,M.las[i]?=some l->eP K H' (Z.tk i)/\(∃m,fF H' (Z.tk i) m/\jn M.p l.S (Z.ow i) m)/\vf (c8 K H') M.p l.S (Z.ow i)/\∀x∈Z.tk i,x.2.2≠.ref (Z.G .dl):=λi l d=>let⟨h1,⟨m,h2,h3⟩,h4,b⟩:=h.tabs i l d;{λx f=>dW e.kp (h1 x f),{m,h2.im e b,h3},h4.mono λ_ _ q=>dW e.kp q,b}
def bv.same(h:bv P w K a H M Z)(e:am H H'):bv P w K a H' M Z:={h.inj,λr o q=>e _ _ (h.at_ r o q),λi l b=>(h.seats i l b).kp (.of e),h.trsI (.of e),h.tabsI (.of e),h.came.im (.of e)}
def iy{d l:Type}{g:List d}{i:Nat}{x y:d}(h:g[i]?=some x)(f:d->l)(e:f y=f x)(j:Nat):(g.set i y)[j]?.map f=g[j]?.map f:=by
 rw[N8]
 by_cases q:i=j
 ·subst q;rw[md (),md (c_.mp h).1,h];show r_ some e
 ·rw[me q]
def eJ{d l:Type}{g:List d}{i:Nat}{x y:d}(h:g[i]?=some x)(f:d->l)(e:f y=f x):(g.set i y).map f=g.map f:=H_ λj=>by rw[i_,i_];show iy h f e j
def oK{d:Type}{f:List d}{i j:Nat}{y z:d}(e:(f.set i y)[j]?=some z):(j=i/\z=y)\/(j≠i/\f[j]?=some z):=by
 rw[N8]at e
 by_cases q:i=j
 ·rw[md q]at e
  split at e
  ·show .inl {q.symm,(n_ e).symm}
  ·cases e
 ·rw[me q]at e;show .inr {λz=>q z.symm,e}
def zz{i:Nat}{l l':bE}(d:M.las[i]?=some l)(h1:l'.nm=l.nm)(h2:l'.sl=l.sl)(r:Ro):cont P w a {M with las:=M.las.set i l'} Z r=cont P w a M Z r:=by cases r with|ln=>show r_ (λns=>some (HO.dK (gU ns λi=>.ref (Z.G (.lo i))))) (eJ d bE.nm h1)|lo j=>show iy d _ (by rw[h2]) j|iu j=>show iy (y:=l') d _ () j|tb j=>show iy (y:=l') d _ () j|od j=>show iy (y:=l') d _ () j|td j=>show iy (y:=l') d _ () j|_=>rfl
def Fk{i:Nat}{t d:du}(e:M.trs[i]?=some t)(h1:d.nm=t.nm)(r:Ro)(h2:r=.tr i->d.home=t.home/\d.pau=t.pau/\d.clo=t.clo)(h3:r=.ba i->d.bar=t.bar):cont P w a {M with trs:=M.trs.set i d} Z r=cont P w a M Z r:=by
 cases r with|tn=>show r_ (λns=>some (HO.dK (gU ns λi=>.ref (Z.G (.tr i))))) (eJ e du.nm h1)|tr j=>
  by_cases q:j=i
  ·subst q;obtain⟨a1,a2,b⟩:=h2 ();show iy e _ (by rw[a1,a2,b]) j
  ·change((M.trs.set i d)[j]?).map _=_;rw[so (λz=>q z.symm)];rfl|ba j=>
  by_cases q:j=i
  ·subst q;show iy e _ (by rw[h3 ()]) j
  ·change((M.trs.set i d)[j]?).map _=_;rw[so (λz=>q z.symm)];rfl|_=>rfl
def cO:∀b o,H b=some o->b≠x->aH H x o' b=some o:=λb o e n=>by rw[ak n];show e
def bv.setIns(h:bv P w K a H M Z){i:Nat}{l:bE}{ins':List (Str×Str×Str)}{iv':List (bZ×V)}(d:M.las[i]?=some l)(m:bU K H iv' ins'):bv P w K a (aH H (Z.G (.iu i)) (.dK iv')) {M with las:=M.las.set i {l with ins:=ins'}} {Z with iv:=λj=>if j=i then iv' else Z.iv j}:=by
 have g:cont P w a M Z (.iu i)=some (.dK (Z.iv i)):=by simp[cont,d]
 have im:=h.imm g (cO (o':=.dK iv'));show h.set g cO () (λr o e=>?_) (λj b e=>?_) (h.trsI im.kp) (λj b e=>?_) (h.came.im im)
 ·rw[zz (l':={l with ins:=ins'}) d () ()]at e
  by_cases f:r=.iu i
  ·subst f;show .inl {(),?_};rw[ae,<-e];simp[cont,d]
  ·show .inr {f,?_};rw[<-e];cases r with|iu j=>change _=M.las[j]?.map λ_=>HO.dK (if j=i then iv' else Z.iv j);rw[me λz=>f (by rw[z])];rfl|_=>rfl
 ·rcases oK e with⟨rfl,rfl⟩|⟨n,q⟩
  ·change bU K _ (if j=j then iv' else Z.iv j) ins';rw[md ()];show m.kp im.kp
  ·change bU K _ (if j=i then iv' else Z.iv j) b.ins;rw[me n];show(h.seats j b q).kp im.kp
 ·rcases oK e with⟨rfl,rfl⟩|⟨n,q⟩
  ·show h.tabsI im _ l d
  ·show h.tabsI im j b q
def bv.setTr(h:bv P w K a H M Z){i:Nat}{t t':du}{r0:Ro}{o':HO}(d:M.trs[i]?=some t)(h1:t'.nm=t.nm)(h2:t'.arms=t.arms)(h3:t'.rule=t.rule)(h4:t'.shuts=t.shuts)(f:(r0=.tr i/\t'.bar=t.bar)\/(r0=.ba i/\t'.home=t.home/\t'.pau=t.pau/\t'.clo=t.clo))(l:cont P w a {M with trs:=M.trs.set i t'} Z r0=some o'):bv P w K a (aH H (Z.G r0) o') {M with trs:=M.trs.set i t'} Z:=by
 obtain⟨g,k⟩:∃g,cont P w a M Z r0=some g:=by rcases f with⟨rfl,_⟩|⟨rfl,_⟩<;>show{_,by simp only[cont,d];rfl}
 have im:=h.imm k (cO (o':=o'));show h.set k cO () (λr o e=>?_) (λj m e=>(h.seats j m e).kp im.kp) (λj p e=>?_) (h.tabsI im) (h.came.im im)
 ·by_cases b:r=r0
  ·subst b;rw[l]at e;show .inl {(),by rw[ae];show e}
  ·show .inr {b,?_};rw[<-e];show(Fk d h1 r (λz=>?_) λz=>?_).symm
   ·rcases f with⟨q,_⟩|⟨_,q⟩
    ·show absurd (z.trans q.symm) b
    ·show q
   ·rcases f with⟨_,q⟩|⟨q,_⟩
    ·show q
    ·show absurd (z.trans q.symm) b
 ·rcases oK e with⟨rfl,rfl⟩|⟨n,q⟩
  ·rw[h2,h3,h4];show h.trsI im.kp _ t d
  ·show h.trsI im.kp j p q
def bv.deed(h:bv P w K a H M Z)(d:V):bv P w K a (aH H (Z.G .dl) (.lst (Z.ds++[d]))) M {Z with ds:=Z.ds++[d]}:=by
 have f:cont P w a M Z .dl=some (.lst Z.ds):=();have im:=h.imm f (cO (o':=.lst (Z.ds++[d])));show h.set f cO () (λr o e=>?_) (λj g e=>(h.seats j g e).kp im.kp) (h.trsI im.kp) (h.tabsI im) (h.came.im im)
 by_cases b:r=.dl
 ·subst b;show .inl {(),by rw[ae];show e}
 ·show .inr {b,?_};rw[<-e];cases r with|dl=>show absurd () b|_=>rfl
def bv.setCame(h:bv P w K a H M Z)(hc:eQ K H (Z.G .dl) d f):bv P w K a (aH H (Z.G .ci) (.dK d)) {M with came:=f} {Z with cv:=d}:=by
 have g:cont P w a M Z .ci=some (.dK Z.cv):=();have im:=h.imm g (cO (o':=.dK d));show h.set g cO () (λr o e=>?_) (λj i e=>(h.seats j i e).kp im.kp) (h.trsI im.kp) (h.tabsI im) (hc.im im)
 by_cases b:r=.ci
 ·subst b;show .inl {(),by rw[ae];show e}
 ·show .inr {b,?_};rw[<-e];cases r with|ci=>show absurd () b|_=>rfl
end
theorem xF:∀(ns:Pb)(x:Str)(f:Nat->V),gU (ns++[x]) f=gU ns f++[(.inr x,f ns.length)]|[],_,_=>()|n::r,x,f=>by change(Sum.inr n,f 0)::gU (r++[x]) _=(Sum.inr n,f 0)::(gU r _++_);rw[xF r x];rfl
theorem qz:∀{ns:Pb}{f g:Nat->V},(∀i,i<ns.length->f i=g i)->gU ns f=gU ns g|[],_,_,_=>()|n::r,f,g,h=>by change(Sum.inr n,f 0)::gU r _=(Sum.inr n,g 0)::gU r _;rw[h 0 (by simp),qz (ns:=r) (f:=λi=>f (i+1)) (g:=λi=>g (i+1)) λi hi=>h (i+1) (by simpa using hi)]
theorem gJ:∀(ns:Pb)(f:Nat->V),(gU ns f).length=ns.length|[],_=>()|n::r,f=>by rw[gU,o_,o_,gJ r]
theorem sL:∀{ns:Pb}{f:Nat->V}{i:Nat}{x:Str},ns.Nodup->ns[i]?=some x->bf (gU ns f) (.inr x)=some (f i)
 |[],_,i,_,_,h=>by simp at h|n::r,f,0,x,_,h=>by
  have e:n=x:=by simpa using h
  show cf (by rw[e])|n::r,f,i+1,x,hn,h=>by
  have h:r[i]?=some x:=by simpa using h
  rw[O2]at hn;have ne:n≠x:=λz=>hn.1 (by rw[z];show g_ h);change bf ((Sum.inr n,f 0)::gU r _) _=_;rw[bw λz=>ne (si z)];show sL hn.2 h
theorem l9:∀{ns:Pb}{f:Nat->V}{x:Str},x∉ns->bf (gU ns f) (.inr x)=none|[],_,_,_=>()|n::r,f,x,h=>by change bf ((Sum.inr n,f 0)::gU r _) _=_;rw[bw λz=>h (by rw[si z];show oa)];show l9 λz=>h (np _ z)
theorem uz:∀{ns:Pb}{f:Nat->V}{i:Nat},(gU ns f)[i]?=ns[i]?.map λx=>(.inr x,f i)|[],_,i=>by simp[gU]|n::r,f,0=>()|n::r,f,i+1=>by change(gU r λi=>f (i+1))[i]?=_;rw[uz];simp
section
variable{P:Pa}{w:World}{K:O6}{a:fN}{H c:Hp}{M:bj}{Z:ZS}
def bv.tab(h:bv P w K a H M Z)(d:M.las[i]?=some l):∃m,eR P w K a.bQ H (Z.G (.tb i)) (Z.G (.od i)) (Z.G (.td i)) M.p (Z.ow i) (Z.tk i) m/\jn M.p l.S (Z.ow i) m:=by obtain⟨h1,⟨m,h2,h3⟩,_⟩:=h.tabs i l d;show{m,{{_,h.at_ (.tb i) _ (by simp only[cont,d];rfl)},h.at_ (.od i) _ (by simp only[cont,d];rfl),h.at_ (.td i) _ (by simp only[cont,d];rfl),h1,h2},h3}
def bv.told(h:bv P w K a H M Z)(s:M.las[i]?=some l)(o:mB (Z.G (.od i)) (Z.G (.td i)) H c)(C:eR P w K a.bQ c (Z.G (.tb i)) (Z.G (.od i)) (Z.G (.td i)) M.p f d I)(L:jn M.p t f I)(N:vf (c8 K H) M.p t f)(Q:fI H (Z.tk i) d):bv P w K a c {M with las:=M.las.set i {l with S:=t}} {Z with ow:=λj=>if j=i then f else Z.ow j,tk:=λj=>if j=i then d else Z.tk j}:=by
 obtain⟨m,J,_⟩:=h.tab s;have im:Im (Z.G .dl) H c:=by
  have g:∀b ob,H b=some ob->(∀D,ob≠.dK D)->(∀φ,ob≠.ext φ)->c b=some ob:=λb ob e h1 h2=>o b ob e (λz=>by rw[z,J.own]at e;cases e;show h1 _ ()) (λz=>by rw[z,J.tak]at e;cases e;show h2 _ ())
  show{{λu O e=>g _ _ e (λ_ z=>(nomatch z)) (λ_ z=>(nomatch z)),λu x⟨E,e⟩=>{E,g _ _ e (λ_ z=>(nomatch z)) (λ_ z=>(nomatch z))}},λb O e _=>g _ _ e (λ_ z=>(nomatch z)) (λ_ z=>(nomatch z))}
 have v:∀r ob,cont P w a {M with las:=M.las.set i {l with S:=t}} {Z with ow:=λj=>if j=i then f else Z.ow j,tk:=λj=>if j=i then d else Z.tk j} r=some ob->(r=.od i/\ob=.dK f)\/(r=.td i/\ob=dM P w (Z.G (.td i)) d)\/(r≠.od i/\r≠.td i/\cont P w a M Z r=some ob):=λr ob e=>by
  rw[zz (l':={l with S:=t}) s () ()]at e;cases r with|od j=>
   by_cases q:j=i
   ·subst q;have e:(M.las[j]?.map λ_=>HO.dK (if j=j then f else Z.ow j))=some ob:=e;rw[s,md ()]at e;show .inl {(),(n_ e).symm}
   ·have e:(M.las[j]?.map λ_=>HO.dK (if j=i then f else Z.ow j))=some ob:=e;rw[me q]at e;show .inr (.inr {λz=>q (by injection z),λz=>(nomatch z),e})|td j=>
   by_cases q:j=i
   ·subst q;have e:(M.las[j]?.map λ_=>dM P w (Z.G (.td j)) (if j=j then d else Z.tk j))=some ob:=e;rw[s,md ()]at e;show .inr (.inl {(),(n_ e).symm})
   ·have e:(M.las[j]?.map λ_=>dM P w (Z.G (.td j)) (if j=i then d else Z.tk j))=some ob:=e;rw[me q]at e;show .inr (.inr {λz=>(nomatch z),λz=>q (by injection z),e})|_=>show .inr (.inr {λz=>(nomatch z),λz=>(nomatch z),e})
 have A:cont P w a M Z (.od i)=some (.dK (Z.ow i)):=by simp only[cont,s];rfl
 have B:cont P w a M Z (.td i)=some (dM P w (Z.G (.td i)) (Z.tk i)):=by simp only[cont,s];rfl
 have live:∀r ob,cont P w a {M with las:=M.las.set i {l with S:=t}} {Z with ow:=λj=>if j=i then f else Z.ow j,tk:=λj=>if j=i then d else Z.tk j} r=some ob->∃E,cont P w a M Z r=some E:=λr ob e=>by
  rcases v r ob e with⟨rfl,_⟩|⟨rfl,_⟩|⟨_,_,q⟩
  ·show{_,A}
  ·show{_,B}
  ·show{_,q}
 show{λr R ob F e T g=>?_,λr ob e=>?_,λj k e=>?_,h.trsI im.kp,λj k e=>?_,h.came.im im}
 ·obtain⟨_,q⟩:=live r ob e;obtain⟨_,U⟩:=live R F T;show h.inj _ _ _ _ q U g
 ·rcases v r ob e with⟨rfl,rfl⟩|⟨rfl,rfl⟩|⟨n1,n2,q⟩
  ·show C.own
  ·show C.tak
  ·show o _ _ (h.at_ _ _ q) (λz=>n1 (h.inj _ _ _ _ q A z)) (λz=>n2 (h.inj _ _ _ _ q B z))
 ·rcases oK e with⟨rfl,rfl⟩|⟨n,q⟩
  ·show(h.seats _ l s).kp im.kp
  ·show(h.seats j k q).kp im.kp
 ·rcases oK e with⟨rfl,rfl⟩|⟨n,q⟩
  ·change eP K c (if j=j then d else Z.tk j)/\(∃m,fF c (if j=j then d else Z.tk j) m/\jn M.p t (if j=j then f else Z.ow j) m)/\vf (c8 K c) M.p t (if j=j then f else Z.ow j)/\∀x∈(if j=j then d else Z.tk j),x.2.2≠.ref (Z.G .dl);rw[md (),md ()];show{C.keys,(I,C.lsts,L,),N.mono λ_ _ q=>dW im.kp q,λx V z=>?_};rcases Q x V with⟨y,W,e⟩|⟨X,e,hn⟩
   ·show(h.tabs _ l s).2.2.2 y W (e.trans z)
   ·rw[e]at z;cases z;rw[h.at_ .dl _ ()]at hn;cases hn
  ·change eP K c (if j=i then d else Z.tk j)/\(∃m,fF c (if j=i then d else Z.tk j) m/\jn M.p k.S (if j=i then f else Z.ow j) m)/\vf (c8 K c) M.p k.S (if j=i then f else Z.ow j)/\∀x∈(if j=i then d else Z.tk j),x.2.2≠.ref (Z.G .dl);rw[me n,me n];show h.tabsI im j k q
end
def vW(c d:Nat):Ro->Prop|.lo i=>i<c|.iu i=>i<c|.tb i=>i<c|.od i=>i<c|.td i=>i<c|.tr i=>i<d|.ba i=>i<d|_=>True
def mR(e:cont P w a M Z r=some o):vW M.las.length M.trs.length r:=by cases r<;>first|show trivial|(obtain⟨y,h1,_⟩:=Option.map_eq_some_iff.mp e;show(c_.mp h1).1)
def mK(P:Pa)(w:World)(a:fN)(Z:ZS)(h:vW M.las.length M.trs.length r):∃o,cont P w a M Z r=some o:=by cases r<;>first|show{_,()}|(have h:_<M.las.length:=h;show{_,by simp only[cont,h_ h];rfl})|(have h:_<M.trs.length:=h;show{_,by simp only[cont,h_ h];rfl})
def ZS.newL(Z:ZS)(n:Nat)(lo e t f g c d:Addr):ZS:={Z with
 G:=λr=>if r=.lo n then lo else if r=.iu n then e else if r=.tb n then t else if r=.od n then f else if r=.td n then g else Z.G r
 dx:=λr=>if r=.lo n then c else if r=.tb n then d else Z.dx r
 iv:=λj=>if j=n then[]else Z.iv j
 ow:=λj=>if j=n then[]else Z.ow j
 tk:=λj=>if j=n then[]else Z.tk j}
def ZS.newT(Z:ZS)(n:Nat)(t c dx ar:Addr)(ru:V)(sh:Addr):ZS:={Z with
 G:=λr=>if r=.tr n then t else if r=.ba n then c else Z.G r
 dx:=λr=>if r=.tr n then dx else Z.dx r
 ar:=λj=>if j=n then ar else Z.ar j
 ru:=λj=>if j=n then ru else Z.ru j
 sh:=λj=>if j=n then sh else Z.sh j}
def oI(e:(c++[x])[j]?=some y):(j=c.length/\y=x)\/(j≠c.length/\c[j]?=some y):=by
 rcases Nat.lt_trichotomy j c.length with q|q|q
 ·rw[sD q]at e;show .inr {nB q,e}
 ·subst q;rw[List.getElem?_concat_length]at e;show .inl {(),(n_ e).symm}
 ·rw[rV (by simp;lia)]at e;cases e
def i7(e:(c++[x])[j]?.map f=some o):(j=c.length/\o=f x)\/(j≠c.length/\c[j]?.map f=some o):=by
 obtain⟨y,h1,h2⟩:=Option.map_eq_some_iff.mp e;rcases oI h1 with⟨q,rfl⟩|⟨q,z⟩
 ·show .inl (q,h2.symm,)
 ·show .inr {q,by rw[z];show r_ some h2}
section
variable{P:Pa}{w:World}{K:O6}{a:fN}{H H':Hp}{M:bj}{Z:ZS}
theorem bv.newL(h:bv P w K a H M Z)(h1:H lo=none)(h2:H iu=none)(h3:H t=none)(h4:H od=none)(h5:H td=none)(D:od≠iu)(l:∀b o,H b=some o->b≠Z.G .ln->H' b=some o)(Q:H' (Z.G .ln)=some (.dK (gU (M.las.map bE.nm) (λi=>.ref (Z.G (.lo i)))++[(.inr nm,.ref lo)])))(R:H' lo=some (.ins a.fj c [("slope",.int sl),("table",.ref t),("inside",.ref iu)]))(T:eR P w K a.bQ H' t od td M.p [] [] [])(E:lo≠t)(W:H' iu=some (.dK [])):∃s,s.G .hh=Z.G .hh/\s.G .dl=Z.G .dl/\s.ds=Z.ds/\(∀j,s.tk j=(if j=M.las.length then[]else Z.tk j)/\s.ow j=(if j=M.las.length then[]else Z.ow j))/\s.cv=Z.cv/\bv P w K a H' {M with las:=M.las++[{nm,sl,AS.new,[]}]} s/\∀r,vW (M.las.length+1) M.trs.length r->H (s.G r)=none\/(s.G r=Z.G r/\vW M.las.length M.trs.length r):=by
 obtain⟨d,O⟩:=T.ins;have im:=h.imm (r:=.ln) () l;have F:(M.las.map bE.nm).length=M.las.length:=b_ ..;have u:∀r o,cont P w a {M with las:=M.las++[{nm,sl,AS.new,[]}]} (Z.newL M.las.length lo iu t od td c d) r=some o->(H' ((Z.newL M.las.length lo iu t od td c d).G r)=some o/\(r=.lo M.las.length\/r=.iu M.las.length\/r=.tb M.las.length\/r=.od M.las.length\/r=.td M.las.length))\/((Z.newL M.las.length lo iu t od td c d).G r=Z.G r/\H' (Z.G r)=some o/\∃U,cont P w a M Z r=some U):=λr o e=>by
  cases r with|hh=>show .inr {(),l _ _ (h.at_ .hh _ e) λz=>(nomatch h.inj .hh .ln _ _ () () z),_,e}|tn=>show .inr {(),l _ _ (h.at_ .tn _ e) λz=>(nomatch h.inj .tn .ln _ _ () () z),_,e}|ci=>show .inr {(),l _ _ (h.at_ .ci _ e) λz=>(nomatch h.inj .ci .ln _ _ () () z),_,e}|dl=>show .inr {(),l _ _ (h.at_ .dl _ e) λz=>(nomatch h.inj .dl .ln _ _ () () z),_,e}|tr j=>show .inr {(),l _ _ (h.at_ (.tr j) _ e) λz=>(nomatch h.inj (.tr j) .ln _ _ e () z),_,e}|ba j=>show .inr {(),l _ _ (h.at_ (.ba j) _ e) λz=>(nomatch h.inj (.ba j) .ln _ _ e () z),_,e}|ln=>show .inr {(),?_,_,()};rw[Q,<-e];change _=some (HO.dK (gU ((M.las++[({nm,sl,AS.new,[]}:bE)]).map bE.nm) λi=>V.ref ((Z.newL M.las.length lo iu t od td c d).G (.lo i))));rw[k_,Ny,xF,F];have e1:(Z.newL M.las.length lo iu t od td c d).G (.lo M.las.length)=lo:=md ();rw[e1,qz (f:=λi=>V.ref ((Z.newL M.las.length lo iu t od td c d).G (.lo i))) (g:=λi=>V.ref (Z.G (.lo i)))];intro i hi;rw[F]at hi;have n:∀x:Nat->Ro,(∀i j,x i=x j->i=j)->x i≠x M.las.length:=λx I z=>nB hi (I _ _ z);change V.ref (if Ro.lo i=.lo M.las.length then lo else _)=_;rw[me (n Ro.lo λ_ _ z=>by injection z)];rfl|lo j=>
   rcases i7 e with⟨rfl,rfl⟩|⟨q,e⟩
   ·show .inl {?_,.inl ()};have B:(Z.newL M.las.length lo iu t od td c d).G (.lo M.las.length)=lo:=md ();have X:(Z.newL M.las.length lo iu t od td c d).G (.tb M.las.length)=t:=by simp[ZS.newL]
    have y:(Z.newL M.las.length lo iu t od td c d).G (.iu M.las.length)=iu:=by simp[ZS.newL]
    have A:(Z.newL M.las.length lo iu t od td c d).dx (.lo M.las.length)=c:=md ();rw[B,X,y,A];show R
   ·have e:cont P w a M Z (.lo j)=some o:=by rw[<-e];simp[cont,ZS.newL,q]
    show .inr {by simp[ZS.newL,q],l _ _ (h.at_ (.lo j) _ e) λz=>(nomatch h.inj (.lo j) .ln _ _ e () z),_,e}|iu j=>
   rcases i7 e with⟨rfl,rfl⟩|⟨q,e⟩
   ·show .inl {?_,.inr (.inl ())};have y:(Z.newL M.las.length lo iu t od td c d).G (.iu M.las.length)=iu:=by simp[ZS.newL]
    have A:(Z.newL M.las.length lo iu t od td c d).iv M.las.length=[]:=md ();rw[y,A];show W
   ·have e:cont P w a M Z (.iu j)=some o:=by rw[<-e];simp[cont,ZS.newL,q]
    show .inr {by simp[ZS.newL,q],l _ _ (h.at_ (.iu j) _ e) λz=>(nomatch h.inj (.iu j) .ln _ _ e () z),_,e}|tb j=>
   rcases i7 e with⟨rfl,rfl⟩|⟨q,e⟩
   ·show .inl {?_,.inr (.inr (.inl ()))};have X:(Z.newL M.las.length lo iu t od td c d).G (.tb M.las.length)=t:=by simp[ZS.newL]
    have y:(Z.newL M.las.length lo iu t od td c d).G (.od M.las.length)=od:=by simp[ZS.newL]
    have g5:(Z.newL M.las.length lo iu t od td c d).G (.td M.las.length)=td:=by simp[ZS.newL]
    have A:(Z.newL M.las.length lo iu t od td c d).dx (.tb M.las.length)=d:=by simp[ZS.newL]
    rw[X,y,A,g5];show O
   ·have e:cont P w a M Z (.tb j)=some o:=by rw[<-e];simp[cont,ZS.newL,q]
    show .inr {by simp[ZS.newL,q],l _ _ (h.at_ (.tb j) _ e) λz=>(nomatch h.inj (.tb j) .ln _ _ e () z),_,e}|od j=>
   rcases i7 e with⟨rfl,rfl⟩|⟨q,e⟩
   ·show .inl {?_,.inr (.inr (.inr (.inl ())))};have y:(Z.newL M.las.length lo iu t od td c d).G (.od M.las.length)=od:=by simp[ZS.newL]
    have A:(Z.newL M.las.length lo iu t od td c d).ow M.las.length=[]:=md ();rw[y,A];show T.own
   ·have e:cont P w a M Z (.od j)=some o:=by rw[<-e];simp[cont,ZS.newL,q]
    show .inr {by simp[ZS.newL,q],l _ _ (h.at_ (.od j) _ e) λz=>(nomatch h.inj (.od j) .ln _ _ e () z),_,e}|td j=>
   rcases i7 e with⟨rfl,rfl⟩|⟨q,e⟩
   ·show .inl {?_,.inr (.inr (.inr (.inr ())))};have y:(Z.newL M.las.length lo iu t od td c d).G (.td M.las.length)=td:=by simp[ZS.newL]
    have A:(Z.newL M.las.length lo iu t od td c d).tk M.las.length=[]:=md ();rw[y,A];show T.tak
   ·have e:cont P w a M Z (.td j)=some o:=by rw[<-e];simp[cont,ZS.newL,q]
    show .inr {by simp[ZS.newL,q],l _ _ (h.at_ (.td j) _ e) λz=>(nomatch h.inj (.td j) .ln _ _ e () z),_,e}
 have gs:∀r,(r=.lo M.las.length\/r=.iu M.las.length\/r=.tb M.las.length\/r=.od M.las.length\/r=.td M.las.length)->H ((Z.newL M.las.length lo iu t od td c d).G r)=none:=λr Y=>by rcases Y with rfl|rfl|rfl|rfl|rfl<;>simp only[ZS.newL]<;>simp[h1,h2,h3,h4,h5]
 show{Z.newL M.las.length lo iu t od td c d,(),(),(),λj=>{(),()},(),{λr r' o U e e' g=>?_,λr o e=>?_,λj C e=>?_,h.trsI im.kp,λj C e=>?_,h.came.im im},λr Y=>?_}
 ·rcases u r o e with⟨q,n⟩|⟨B,q,x,J⟩<;>rcases u r' U e' with⟨q',n'⟩|⟨L,q',x',N⟩
  ·rw[g,q']at q;have q:=n_ q;rcases n with rfl|rfl|rfl|rfl|rfl<;>rcases n' with rfl|rfl|rfl|rfl|rfl<;>first|rfl|(exfalso;simp[ZS.newL]at g;first|show E g|show E g.symm|show D g|show D g.symm|(simp[cont]at e e';rw[<-e,<-e']at q;cases q))
  ·rw[L]at g;have:=h.at_ _ _ N;rw[<-g,gs r n]at this;cases this
  ·rw[B]at g;have:=h.at_ _ _ J;rw[g,gs r' n']at this;cases this
  ·rw[B,L]at g;show h.inj _ _ _ _ J N g
 ·rcases u r o e with⟨q,n⟩|⟨B,q,x,J⟩
  ·show q
  ·rw[B];show q
 ·rcases oI e with⟨rfl,rfl⟩|⟨n,q⟩
  ·change bU K H' (if M.las.length=M.las.length then[]else _) [];rw[md ()];show .nil
  ·change bU K H' (if j=M.las.length then[]else Z.iv j) C.ins;rw[me n];show(h.seats j C q).kp im.kp
 ·rcases oI e with⟨rfl,rfl⟩|⟨n,q⟩
  ·change eP K H' (if M.las.length=M.las.length then[]else _)/\(∃m,fF H' (if M.las.length=M.las.length then[]else _) m/\jn M.p AS.new (if M.las.length=M.las.length then[]else _) m)/\vf (c8 K H') M.p AS.new (if M.las.length=M.las.length then[]else _)/\∀x∈(if M.las.length=M.las.length then[]else Z.tk _),x.2.2≠.ref (Z.G .dl);rw[md (),md ()];show{λx I=>(nomatch I),{[],.nil,λk=>(),λp _ _=>()},λp v _ _ z=>(nomatch z),λx I=>(nomatch I)}
  ·change eP K H' (if j=M.las.length then[]else Z.tk j)/\(∃m,fF H' (if j=M.las.length then[]else Z.tk j) m/\jn M.p C.S (if j=M.las.length then[]else Z.ow j) m)/\vf (c8 K H') M.p C.S (if j=M.las.length then[]else Z.ow j)/\∀x∈(if j=M.las.length then[]else Z.tk j),x.2.2≠.ref (Z.G .dl);rw[me n,me n];show h.tabsI im j C q
 ·obtain⟨o,e⟩:=mK P w a (M:={M with las:=M.las++[{nm,sl,AS.new,[]}]}) (Z.newL M.las.length lo iu t od td c d) (r:=r) (by simpa using Y);rcases u r o e with⟨_,n⟩|⟨B,_,x,J⟩
  ·show .inl (gs r n)
  ·show .inr {B,mR J}
theorem bv.newT(h:bv P w K a H M Z){nm home:Str}{arms shuts:Pb}{rule:Ru}{t ba dx ar sh:Addr}{ru:V}(h1:H t=none)(h2:H ba=none)(c:∀b o,H b=some o->b≠Z.G .tn->H' b=some o)(v:H' (Z.G .tn)=some (.dK (gU (M.trs.map du.nm) (λi=>.ref (Z.G (.tr i)))++[(.inr nm,.ref t)])))(I:H' t=some (.ins a.fU dx [("home",.str home),("arms",.ref ar),("rule",ru),("shuts",.ref sh),("paused",.bl false),("closed",.bl false),("barred",.ref ba)]))(J:H' ba=some (.dK []))(L:aY K H ar (arms.map V.str))(N:fG K H rule ru)(Q:aY K H sh (shuts.map V.str)):∃d,d.G .hh=Z.G .hh/\d.G .dl=Z.G .dl/\d.ds=Z.ds/\d.tk=Z.tk/\d.ow=Z.ow/\d.cv=Z.cv/\bv P w K a H' {M with trs:=M.trs++[{nm,home,arms,rule,shuts,false,false,[]}]} d/\∀r,vW M.las.length (M.trs.length+1) r->H (d.G r)=none\/(d.G r=Z.G r/\vW M.las.length M.trs.length r):=by
 have im:=h.imm (r:=.tn) () c;have m:(M.trs.map du.nm).length=M.trs.length:=b_ ..;have k:∀r o,cont P w a {M with trs:=M.trs++[{nm,home,arms,rule,shuts,false,false,[]}]} (Z.newT M.trs.length t ba dx ar ru sh) r=some o->(H' ((Z.newT M.trs.length t ba dx ar ru sh).G r)=some o/\(r=.tr M.trs.length\/r=.ba M.trs.length))\/((Z.newT M.trs.length t ba dx ar ru sh).G r=Z.G r/\H' (Z.G r)=some o/\∃y,cont P w a M Z r=some y):=λr o e=>by
  cases r with|tn=>show .inr {(),?_,_,()};rw[v,<-e];change _=some (HO.dK (gU ((M.trs++[({nm,home,arms,rule,shuts,false,false,[]}:du)]).map du.nm) λi=>V.ref ((Z.newT M.trs.length t ba dx ar ru sh).G (.tr i))));rw[k_,Ny,xF,m];have O:(Z.newT M.trs.length t ba dx ar ru sh).G (.tr M.trs.length)=t:=md ();rw[O,qz (f:=λi=>V.ref ((Z.newT M.trs.length t ba dx ar ru sh).G (.tr i))) (g:=λi=>V.ref (Z.G (.tr i)))];intro i hi;rw[m]at hi;change V.ref (if Ro.tr i=.tr M.trs.length then t else _)=_;rw[me λz=>nB hi (by injection z)];rfl|tr j=>
   rcases i7 e with⟨rfl,rfl⟩|⟨q,e⟩
   ·show .inl {?_,.inl ()};have l:(Z.newT M.trs.length t ba dx ar ru sh).G (.tr M.trs.length)=t:=md ();have A:(Z.newT M.trs.length t ba dx ar ru sh).G (.ba M.trs.length)=ba:=by simp[ZS.newT]
    have R:(Z.newT M.trs.length t ba dx ar ru sh).dx (.tr M.trs.length)=dx:=md ();have S:(Z.newT M.trs.length t ba dx ar ru sh).ar M.trs.length=ar:=md ();have T:(Z.newT M.trs.length t ba dx ar ru sh).ru M.trs.length=ru:=md ();have U:(Z.newT M.trs.length t ba dx ar ru sh).sh M.trs.length=sh:=md ();rw[l,A,R,S,T,U];show I
   ·have e:cont P w a M Z (.tr j)=some o:=by rw[<-e];simp[cont,ZS.newT,q]
    show .inr {by simp[ZS.newT,q],c _ _ (h.at_ (.tr j) _ e) λz=>(nomatch h.inj (.tr j) .tn _ _ e () z),_,e}|ba j=>
   rcases i7 e with⟨rfl,rfl⟩|⟨q,e⟩
   ·show .inl {?_,.inr ()};have A:(Z.newT M.trs.length t ba dx ar ru sh).G (.ba M.trs.length)=ba:=by simp[ZS.newT]
    rw[A];show J
   ·have e:cont P w a M Z (.ba j)=some o:=by rw[<-e];rfl
    show .inr {by simp[ZS.newT,q],c _ _ (h.at_ (.ba j) _ e) λz=>(nomatch h.inj (.ba j) .tn _ _ e () z),_,e}|hh=>show .inr {(),c _ _ (h.at_ .hh _ e) λz=>(nomatch h.inj .hh .tn _ _ () () z),_,e}|ln=>show .inr {(),c _ _ (h.at_ .ln _ e) λz=>(nomatch h.inj .ln .tn _ _ () () z),_,e}|ci=>show .inr {(),c _ _ (h.at_ .ci _ e) λz=>(nomatch h.inj .ci .tn _ _ () () z),_,e}|dl=>show .inr {(),c _ _ (h.at_ .dl _ e) λz=>(nomatch h.inj .dl .tn _ _ () () z),_,e}|lo j=>show .inr {(),c _ _ (h.at_ (.lo j) _ e) λz=>(nomatch h.inj (.lo j) .tn _ _ e () z),_,e}|iu j=>show .inr {(),c _ _ (h.at_ (.iu j) _ e) λz=>(nomatch h.inj (.iu j) .tn _ _ e () z),_,e}|tb j=>show .inr {(),c _ _ (h.at_ (.tb j) _ e) λz=>(nomatch h.inj (.tb j) .tn _ _ e () z),_,e}|od j=>show .inr {(),c _ _ (h.at_ (.od j) _ e) λz=>(nomatch h.inj (.od j) .tn _ _ e () z),_,e}|td j=>show .inr {(),c _ _ (h.at_ (.td j) _ e) λz=>(nomatch h.inj (.td j) .tn _ _ e () z),_,e}
 have gs:∀r,(r=.tr M.trs.length\/r=.ba M.trs.length)->H ((Z.newT M.trs.length t ba dx ar ru sh).G r)=none:=λr B=>by rcases B with rfl|rfl<;>simp only[ZS.newT]<;>simp[h1,h2]
 show{Z.newT M.trs.length t ba dx ar ru sh,(),(),(),(),(),(),{λr D o y e C g=>?_,λr o e=>?_,λj W e=>(h.seats j W e).kp im.kp,λj X e=>?_,h.tabsI im,h.came.im im},λr B=>?_}
 ·rcases k r o e with⟨q,n⟩|⟨l,q,x,p⟩<;>rcases k D y C with⟨E,F⟩|⟨s,E,Y,u⟩
  ·rw[g,E]at q;have q:=n_ q;rcases n with rfl|rfl<;>rcases F with rfl|rfl<;>first|rfl|(exfalso;simp[cont]at e C;rw[<-e,<-C]at q;cases q)
  ·rw[s]at g;have:=h.at_ _ _ u;rw[<-g,gs r n]at this;cases this
  ·rw[l]at g;have:=h.at_ _ _ p;rw[g,gs D F]at this;cases this
  ·rw[l,s]at g;show h.inj _ _ _ _ p u g
 ·rcases k r o e with⟨q,n⟩|⟨l,q,x,p⟩
  ·show q
  ·rw[l];show q
 ·rcases oI e with⟨rfl,rfl⟩|⟨n,q⟩
  ·change aY K H' (if M.trs.length=M.trs.length then ar else _) (arms.map V.str)/\fG K H' rule (if M.trs.length=M.trs.length then ru else _)/\aY K H' (if M.trs.length=M.trs.length then sh else _) (shuts.map V.str);rw[md (),md (),md ()];show{im.kp.tq L,N.kp im.kp,im.kp.tq Q}
  ·change aY K H' (if j=M.trs.length then ar else Z.ar j) _/\fG K H' _ (if j=M.trs.length then ru else Z.ru j)/\aY K H' (if j=M.trs.length then sh else Z.sh j) _;rw[me n,me n,me n];show h.trsI im.kp j X q
 ·obtain⟨o,e⟩:=mK P w a (M:={M with trs:=M.trs++[{nm,home,arms,rule,shuts,false,false,[]}]}) (Z.newT M.trs.length t ba dx ar ru sh) (r:=r) (by simpa using B);rcases k r o e with⟨_,n⟩|⟨l,_,x,p⟩
  ·show .inl (gs r n)
  ·show .inr {l,mR p}
end
def cZ(M:bj)(Z:ZS)(b:Addr):Prop:=(∃r,vW M.las.length M.trs.length r/\b=Z.G r)\/(∃i,i<M.las.length/\∃x∈Z.tk i,x.2.2=.ref b)\/∃x∈Z.cv,x.2=.ref b
def fF.outs(n:∀x∈tk,∀l c,x.2.2=.ref l->H l=some (.lst c)->H' l=some (.lst c))(h:fF H tk m):fF H' tk m:=Paired.mapM h λx b _ q=>{q.1,q.2.1,q.2.2.imp λ_ q=>{q.1,n x b _ _ q.1 q.2}}
def eQ.outs(e:Kp H H')(n:∀x∈cv,∀l c,x.2=.ref l->H l=some (.lst c)->H' l=some (.lst c))(h:eQ K H dl cv cm):eQ K H' dl cv cm:=Paired.mapM h λx b _ q=>{q.1,q.2.imp λ_ q=>q.imp λ_ q=>{q.1,q.2.1,n x b _ _ q.1 q.2.2.1,q.2.2.2.kp e}}
def bv.out(h:bv P w K a H M Z)(n:¬cZ M Z o)(kp:Kp H H')(f:∀b ob,H b=some ob->b≠o->H' b=some ob):bv P w K a H' M Z:={h.inj,λr ob e=>f _ _ (h.at_ r ob e) λz=>n (.inl {r,mR e,z.symm}),λi l d=>(h.seats i l d).kp kp,h.trsI kp,λi l d=>let⟨h1,⟨m,h2,h3⟩,h4,k⟩:=h.tabs i l d;{λx c=>dW kp (h1 x c),{m,h2.outs λx c l p g j=>f _ _ j λz=>n (.inr (.inl {i,(c_.mp d).1,x,c,by rw[g,z]})),h3},h4.mono λ_ _ q=>dW kp q,k},h.came.outs kp λx c l p g j=>f _ _ j λz=>n (.inr (.inr {x,c,by rw[g,z]}))}
def l7{a b:Addr}{o:HO}(h:aH H a o b=none):H b=none:=by
 by_cases e:b=a
 ·rw[e,ae]at h;cases h
 ·rw[ak e]at h;show h
structure gh(H:Hp)(M:bj)(Z:ZS)(H':Hp)(M':bj)(Z':ZS):Prop where
 hh:Z'.G .hh=Z.G .hh
 fr:∀b o,H b=some o->¬cZ M Z b->H' b=some o
 fp:∀b,cZ M' Z' b->cZ M Z b\/H b=none
 dm:∀b,H' b=none->H b=none
 dd:Z'.G .dl=Z.G .dl
section
variable{H m d g:Hp}{M M1 M2 c:bj}{Z f j a:ZS}
def gh.of(s:am H g):gh H M Z g M Z:={(),λb o h _=>s b o h,λ_ h=>.inl h,λ_ h=>s.free h,()}
theorem gh.trans(s:gh H M Z m M1 f)(t:gh m M1 f d M2 j):gh H M Z d M2 j:={t.hh.trans s.hh,λb o h n=>t.fr b o (s.fr b o h n) λq=>(s.fp b q).elim n λz=>(by rw[h]at z;cases z),λb q=>(t.fp b q).elim (s.fp b) λz=>.inr (s.dm b z),λb z=>s.dm b (t.dm b z),t.dd.trans s.dd}
def gh.put(s:vW M.las.length M.trs.length r)(p:a.G=Z.G)(h1:c.las.length=M.las.length)(h2:c.trs.length=M.trs.length)(h3:a.tk=Z.tk)(h4:∀x∈a.cv,x∈Z.cv\/∃l,x.2=.ref l/\(cZ M Z l\/H l=none)):gh H M Z (aH H (Z.G r) o) c a:={by rw[p],λb o h n=>(by rw[ak λz=>n (.inl (r,s,z,))];show h),λb q=>by
  rcases q with⟨t,h,e⟩|⟨i,hi,x,k,e⟩|⟨x,k,e⟩
  ·show .inl (.inl {t,by rw[<-h1,<-h2];show h,by rw[e,p]})
  ·show .inl (.inr (.inl {i,by rw[<-h1];show hi,x,by rw[<-h3];show k,e}))
  ·rcases h4 x k with q|⟨l,u,q⟩
   ·show .inl (.inr (.inr (x,q,e,)))
   ·rw[u]at e;cases e;show q,λb z=>l7 z,by rw[p]}
end
def gh.out{o:Addr}{x:HO}{H c:Hp}{M M1:bj}{Z d:ZS}(s:gh H M Z c M1 d)(n:H o=none):gh H M Z (aH c o x) M1 d:={s.hh,λb e h q=>(by rw[ak (av h n)];show s.fr b e h q),s.fp,λb z=>s.dm b (l7 z),s.dd}
theorem fF.ex(h:fF H tk m)(x:gB)(c:x∈tk):∃l d,x.2.2=.ref l/\H l=some (.lst d):=(Paired.ex h x c).elim λ_ q=>q.2.2.imp λ_ q=>{_,q}
theorem eQ.ex(h:eQ K H dl cv cm)(x:bZ×V)(c:x∈cv):∃l d,x.2=.ref l/\H l=some (.lst d):=(Paired.ex h x c).elim λ_ q=>q.2.imp λ_ q=>q.imp λ_ q=>(q.1,q.2.2.1,)
def bv.foot(h:bv P w K a H M Z)(c:H b=none):¬cZ M Z b:=λz=>by
 rcases z with⟨r,j,e⟩|⟨i,hi,x,d,e⟩|⟨x,d,e⟩
 ·obtain⟨o,q⟩:=mK P w a Z j;rw[e,h.at_ r o q]at c;cases c
 ·obtain⟨_,⟨m,q,_⟩,_⟩:=h.tabs i _ (h_ hi);obtain⟨l,k,f,g⟩:=q.ex x d;rw[f]at e;cases e;rw[g]at c;cases c
 ·obtain⟨l,k,f,g⟩:=h.came.ex x d;rw[f]at e;cases e;rw[g]at c;cases c
structure FK(M:bj)(c:Nat)(l:bE):Prop where
 wd:Wd l.nm
 sl:0<=l.sl/\l.sl<=M.p
 ok:l.S.Ok M.p
 len:l.ins.length<=c
 gs:∀x∈l.ins,xg x.1
 nd:(l.ins.map (·.1)).Nodup
 own:∀k q,q∈l.S.pl k->k=cI "" ""\/∃t∈M.trs,t.home=l.nm/\∃y∈t.arms,k=cI t.nm y
structure HH(M:bj)(t:du):Prop where
 wd:Wd t.nm
 hm:t.home∈M.las.map bE.nm
 a1:1<=t.arms.length
 a4:t.arms.length<=4
 nd:t.arms.Nodup
 aw:∀x∈t.arms,Wd x
 hg:t.rule.hgt<=6
 s8:t.shuts.length<=8
structure jF(M:bj)(c:Nat):Prop where
 p:2<=M.p/\M.p<=997
 ln:(M.las.map bE.nm).Nodup
 tn:(M.trs.map du.nm).Nodup
 la:∀l∈M.las,FK M c l
 tr:∀t∈M.trs,HH M t
 cm:∀x∈M.came,x.2.length<=10*c
 l4:M.las.length<=4
 tc:M.trs.length<=10
 cl:M.came.length<=10*c
 br:∀t∈M.trs,t.bar.length<=c
structure bK(P:Pa)(w:World)(K:O6)(a:fN)(H:Hp)(M:bj)(Z:ZS)(c:Nat):Prop where
 g:bv P w K a H M Z
 ok:jF M c
 tk:∀i,(Z.tk i).length<=10*c
 ow:∀i,(Z.ow i).length<=5000*c
 ds:Z.ds.length<=c
def FK.mono(h:FK M c l)(hc:c<=d):FK M d l:={h with len:=nr h.len hc}
theorem jF.mono(h:jF M c)(hc:c<=d):jF M d:={h with la:=λl b=>(h.la l b).mono hc,cm:=λx e=>nr (h.cm x e) (NT _ hc),cl:=nr h.cl (NT _ hc),br:=λt f=>nr (h.br t f) hc}
theorem bK.mono(h:bK P w K a H M Z c)(hc:c<=d):bK P w K a H M Z d:={h.g,h.ok.mono hc,λi=>nr (h.tk i) (NT _ hc),λi=>nr (h.ow i) (NT _ hc),nr h.ds hc}
theorem bK.same(h:bK P w K a H M Z c)(e:am H H'):bK P w K a H' M Z c:={h with g:=h.g.same e}
section
variable{P:Pa}{w:World}{K:O6}{a:fN}{H:Hp}{M:bj}{Z:ZS}{c:Nat}
def bv.house(h:bv P w K a H M Z):H (Z.G .hh)=some (.ins a.bh (Z.dx .hh) [("own_prime",.int M.p),("own_salt",.int M.salt),("layer_named",.ref (Z.G .ln)),("trial_named",.ref (Z.G .tn)),("came_into",.ref (Z.G .ci)),("deeds",.ref (Z.G .dl))]):=h.at_ .hh _ ()
def bv.lays(h:bv P w K a H M Z):H (Z.G .ln)=some (.dK (gU (M.las.map bE.nm) λi=>.ref (Z.G (.lo i)))):=h.at_ .ln _ ()
def bv.tris(h:bv P w K a H M Z):H (Z.G .tn)=some (.dK (gU (M.trs.map du.nm) λi=>.ref (Z.G (.tr i)))):=h.at_ .tn _ ()
def bv.cams(h:bv P w K a H M Z):H (Z.G .ci)=some (.dK Z.cv):=h.at_ .ci _ ()
def bv.dees(h:bv P w K a H M Z):H (Z.G .dl)=some (.lst Z.ds):=h.at_ .dl _ ()
def bv.layer(h:bv P w K a H M Z)(e:M.las[i]?=some l):H (Z.G (.lo i))=some (.ins a.fj (Z.dx (.lo i)) [("slope",.int l.sl),("table",.ref (Z.G (.tb i))),("inside",.ref (Z.G (.iu i)))]):=h.at_ (.lo i) _ (by simp only[cont,e];rfl)
def bv.inside(h:bv P w K a H M Z)(e:M.las[i]?=some l):H (Z.G (.iu i))=some (.dK (Z.iv i)):=h.at_ (.iu i) _ (by simp only[cont,e];rfl)
def bv.trial(h:bv P w K a H M Z)(e:M.trs[i]?=some t):H (Z.G (.tr i))=some (.ins a.fU (Z.dx (.tr i)) [("home",.str t.home),("arms",.ref (Z.ar i)),("rule",Z.ru i),("shuts",.ref (Z.sh i)),("paused",.bl t.pau),("closed",.bl t.clo),("barred",.ref (Z.G (.ba i)))]):=h.at_ (.tr i) _ (by simp only[cont,e];rfl)
def bv.barred(h:bv P w K a H M Z)(e:M.trs[i]?=some t):H (Z.G (.ba i))=some (.dK (t.bar.map λg=>(.inr g,.bl true))):=h.at_ (.ba i) _ (by simp only[cont,e];rfl)
def jF.lget(h:jF M c)(e:M.las[i]?=some l):bf (gU (M.las.map bE.nm) λi=>.ref (Z.G (.lo i))) (.inr l.nm)=some (.ref (Z.G (.lo i))):=sL h.ln (by rw[i_,e];rfl)
def jF.tget(h:jF M c)(e:M.trs[i]?=some t):bf (gU (M.trs.map du.nm) λi=>.ref (Z.G (.tr i))) (.inr t.nm)=some (.ref (Z.G (.tr i))):=sL h.tn (by rw[i_,e];rfl)
theorem jF.home(h:jF M c)(f:t∈M.trs):∃(i:Nat)(l:bE),M.las[i]?=some l/\l.nm=t.home:=by obtain⟨l,b,e⟩:=oi.mp (h.tr t f).hm;obtain⟨i,hi⟩:=nk.mp b;show(i,l,hi,e,)
end
section
open PySem.Spec PyProof.Rows PySem.W
def J1{d:Type}(c:Nat->Nat->Bool):KasT d->d|.ret a=>a|.ask i j k=>J1 c (k (c i j))
theorem Az{n:Nat}{d:Type}{R:d->Prop}{c:Nat->Nat->Bool}:∀{t:KasT d},rQ n R t->R (J1 c t)|.ret a,h=>h|.ask i j k,h=>Az (t:=k (c i j)) (h.2.2 _)
theorem EJ{n:Nat}{e:Type}{R:e->Prop}{c:Nat->Nat->Bool}{d:Nat->Nat->(Bool->Shared->Prop)->Shared->Prop}{Q:e->Shared->Prop}{s:Shared}(hc:∀i j C,i<n->j<n->C (c i j) s->d i j C s):∀{t:KasT e},rQ n R t->Q (J1 c t) s->t.kasWp d Q s|.ret a,_,q=>q|.ask i j k,h,q=>hc i j _ h.1 h.2.1 (EJ hc (h.2.2 _) q)
def Cg(c:Nat->Nat->Bool)(n:Nat):List Nat:=if n<2 then List.range n else(J1 c (kas_sort n)).toList
def wB(c:Nat->Nat->Bool)(n:Nat):(Cg c n).Perm (List.range n):=by
 unfold Cg
 split
 ·show .refl _
 ·show Az (uF (n:=n) (by omega))
def nZ{e:Type}(c:List e)(d:e):(List.range c.length).map (λi=>c.getD i d)=c:=by
 show H_ λi=>?_;rw[i_]
 by_cases hi:i<c.length
 ·rw[List.getElem?_range hi];simp[hi]
 ·rw[rV (by rw[rd];lia),rV (by lia)];rfl
def KG:List Str->List Str->Bool|a::r,b::q=>if a=b then KG r q else decide (a.cps.toList<b.cps.toList)|_,_=>false
def xy(ds:List (List Str)):List Nat:=Cg (λi j=>KG (ds.getD i []) (ds.getD j [])) ds.length
def A6(ds:List (List Str)):List (List Str):=(xy ds).map λi=>ds.getD i []
variable{prog:Pa}{w:World}{A:Around}{E:O7}{s:Shared}{κ:SortKind}
def B7{a:Addr}{d:O_}{n:Nat}{c:Nat->Nat->Bool}{P:Fin->Shared->Prop}(y:s.heap.get? a=some (seqObj "list" d.toArray n))(L:d.length<64)(M:2<=d.length->∀l:Shared,(∀b o,b≠a->s.heap.get? b=some o->l.heap.get? b=some o)->(∀Q:SortKind->Shared->Prop,Q κ l->wpAny (model prog w) A (keyKind' d.toArray) Q (λ_ _=>False) l)/\∀i j C,i<d.length->j<d.length->C (c i j) l->wpAny (model prog w) A (keyLt' κ (d.getD i Value.none) (d.getD j Value.none)) C (λ_ _=>False) l)(h:P (.done (.ret .none)) {s with heap:=sortedHeap s.heap a d ((Cg c d.length).map λi=>d.getD i Value.none).toArray}):wpAny (model prog w) A (Builtin.«list.sort» {[.ref a],[]}) P E s:=by
 rw[list_sort_plain];have k:d.toArray.size=d.length:=by simp
 show a_ (listItems_at y () ?_);show a_ (listUpdate_at y () ?_ (by rw[k,mo];lia) (ov _));obtain⟨B,m⟩:∃B,(s.heap.update a (Obj.mapSeq λ_=>#[])).get? a=some (seqObj "list" #[] B):={_,get?_update_seq y (λ_=>#[])};show a_ (seqEpoch_at m () ?_);show a_ (wpAny_newTuple ?_ (by change d.length<=_;rw[mo];lia));show a_ (wpAny_newList ?_ (ov _));show ri ?_;have kept:∀b o,b≠a->s.heap.get? b=some o->(((s.heap.update a (Obj.mapSeq λ_=>#[])).push (seqObj "tuple" d.toArray 0)).push (seqObj "list" #[] 0)).get? b=some o:=λb o N q=>d_ _ (d_ _ ((Heap.get?_update_ne _ _ _ _ N).trans q))
 have f:(((s.heap.update a (Obj.mapSeq λ_=>#[])).push (seqObj "tuple" d.toArray 0)).push (seqObj "list" #[] 0)).get? a=some (seqObj "list" #[] B):=d_ _ (d_ _ m);change wpAny (model prog w) A _ P E {s with heap:=((s.heap.update a (Obj.mapSeq λ_=>#[])).push (seqObj "tuple" d.toArray 0)).push (seqObj "list" #[] 0)};dsimp only;have D:(d.toArray.zip d.toArray).size=d.length:=by simp
 by_cases h2:d.toArray.size<2
 ·rw[md h2,md h2];show a_ (f_ ?_);rw[StateT.run_pure];show a_ (f_ ?_);dsimp only;show a_ (seqEpoch_at f () ?_);show a_ (listUpdate_at f () ?_ (ov _) (by show nr (ON ((Array.size_map ..).trans D)) ?_;rw[mo];lia));simp only[bne_self_eq_false,NA,Oe];have e:(d.toArray.zip d.toArray).map (·.2)=d.toArray:=by
   apply Array.toList_inj.mp;have e:(d.toArray.zip d.toArray).toList=d.zip d:=by simp
   rw[Array.toList_map,e];show List.map_snd_zip (e_ _)
  have:=h;rw[Cg,md (show d.length<2 by rw[<-k];show h2),nZ]at this;rw[<-e]at this;show f_ this
 ·rw[me h2,me h2];have r:2<=d.length:=by lia
  obtain⟨O,R⟩:=M r {s with heap:=((s.heap.update a (Obj.mapSeq λ_=>#[])).push (seqObj "tuple" d.toArray 0)).push (seqObj "list" #[] 0)} kept;show a_ (wpAny_mono (O (λt J=>t=κ/\J={s with heap:=((s.heap.update a (Obj.mapSeq λ_=>#[])).push (seqObj "tuple" d.toArray 0)).push (seqObj "list" #[] 0)}) {(),()}) (λt J z=>?_) λ_ _ x=>x.elim);obtain⟨rfl,rfl⟩:=z;show a_ (wpAny_mono (kat_run (ks:=d) (vs:=d) (Q:=λg u=>∃p:Array Nat,arrOf g=p.map (kas_item (d.toArray.zip d.toArray))/\failedOf g=none/\p=J1 c (kas_sort d.length)/\u=_) (G:=λp u=>p=J1 c (kas_sort d.length)/\u=_) () r L (λp g u a1 a2 T a4=>(p,a2,T,a4,)) (EJ (c:=c) (λi j C hi U V=>?_) (uF (n:=d.length) (by omega)) {(),()})) ?_ λ_ _ e=>e)
  ·unfold kas_ask;show R i j C hi U V
  ·rintro⟨⟨⟩,g⟩u⟨p,F,W,rfl,rfl⟩;dsimp only;have v:=kat_snds (ks:=d) (vs:=d) () F;have I:(J1 c (kas_sort d.length)).toList.length=d.length:=by rw[(Az (c:=c) (uF (n:=d.length) (by omega))).length_eq,rd]
   rw[v];show a_ (seqEpoch_at f () ?_);show a_ (listUpdate_at f () ?_ (ov _) (by rw[m_,b_,I,mo];lia));rw[W];simp only[bne_self_eq_false,NA,Oe];rw[Cg,me (show¬d.length<2 by omega)]at h;show f_ h
def HK(h:Heap)(v:Value)(d:Pb):Prop:=∃a o n b,v=.ref a/\h.get? a=some o/\o.cls=.type "tuple"/\o.data=.seq (List.toArray b) n/\aZ (d.map V.str) b
def HK.kept{h h':Heap}{v:Value}{d:Pb}(p:HK h v d)(k:∀b o,h.get? b=some o->h'.get? b=some o):HK h' v d:=by obtain⟨a,o,n,t,e,c,r⟩:=p;show{a,o,n,t,e,k _ _ c,r}
def EE{C:Bool->Shared->Prop}:∀{d e:Pb}{c f:O_}{i:Nat},aZ (d.map V.str) c->aZ (e.map V.str) f->d.length=e.length->C (KG d e) s->KatLex prog w A true false C (c.zip f) i s:=by
 intro d
 induction d with|nil=>intro e c f i h1 h2 g b;cases h1;show kat_nil b|cons x d j=>intro e c f i h1 h2 g b;cases e with|nil=>cases g|cons y e=>cases h1 with|cons k l=>cases h2 with|cons m n=>
  obtain⟨o,rfl⟩:=k;obtain⟨p,rfl⟩:=m;unfold KG at b;show kat_cons (wpAny_eqBool_str (kat_go (λh=>?_) (λh=>?_)))
  ·rw[md (pw h)]at b;show kat_yes (j l n (Nat.succ.inj g) b)
  ·rw[me (OH h)]at b;cases i with|zero=>show kat_no (oneLt_str b)|succ i=>show kat_no (kat_one _ _ (lt_str b))
def Jr{v u:Value}{d e:Pb}{C:Bool->Shared->Prop}(j:HK s.heap v d)(l:HK s.heap u e)(m:d.length=e.length)(p:C (KG d e) s):wpAny (model prog w) A (keyLt' (tuples' true) v u) C (λ_ _=>False) s:=by obtain⟨a,o,n,f,rfl,k,hc,hd,i⟩:=j;obtain⟨x,y,z,b,rfl,g,q,h,c⟩:=l;have r:=i.length;have t:=c.length;rw[b_]at r t;show kat_lt k hd g h ?_;rw[show decide (f.toArray.size<b.toArray.size)=false from op (by rw[m_,m_];omega)];show EE i c m p
def Af{h:Heap}{c:O_}{ds:List (List Str)}(f:Paired (HK h) c ds)(hm:∀d∈ds,0<d.length):∃fs:List Value,KatTups h c fs/\fs.length=c.length/\∀v∈fs,∃x t,v=Value.str x t:=by induction f with|nil=>show{[],.nil,(),λv b=>nomatch b}|@cons _ d _ _ h _ g=>obtain⟨a,o,n,i,rfl,j,hc,hd,k⟩:=h;obtain⟨fs,h1,h2,h3⟩:=g λd hd=>hm d (.tail _ hd);have e:=hm d (.head _);cases d with|nil=>cases e|cons x r=>cases k with|cons l p=>
  obtain⟨m,rfl⟩:=l;show{.str _ m::fs,.cons j hc hd () h1,by simp[h2],λv b=>?_};rcases vu.mp b with rfl|b
  ·show{_,_,()}
  ·show h3 v b
def yr{l:Addr}{vs:O_}{Q:O7}(z:s.heap.IsList l vs.toArray)(B:vs.length<64){ds:List (List Str)}{m:Nat}(h0:0<m)(hm:∀d∈ds,d.length=m)(n:Paired (HK s.heap) vs ds)(h:Q (.ref (s.heap.objs.size+1)) {s with heap:=sortedAll s.heap vs ((xy ds).map λi=>vs.getD i Value.none).toArray}):wpAny (model prog w) A (call (.builtin "sorted") [.ref l]) Q E s:=by
 show Calls.call_function_entry kind_sorted plain_sorted entry_sorted (args_sorted1 _) ?_;unfold Builtin.«sorted»;show a_ (m:=checkCount "sorted" 1 1 _) (f_ ?_);show a_ (collect_list z ?_ (by rw[mo];lia));show a_ (wpAny_newList ?_ (by rw[mo];lia));have f:((s.heap.push (seqObj "list" #[] 0)).update s.heap.objs.size (Obj.mapSeq (·++vs.toArray))).objs.size=s.heap.objs.size+1:=by rw[Heap.size_update,size_push']
 have k:(((s.heap.push (seqObj "list" #[] 0)).update s.heap.objs.size (Obj.mapSeq (·++vs.toArray))).push (seqObj "list" vs.toArray 0)).get? (s.heap.objs.size+1)=some (seqObj "list" vs.toArray 0):=by rw[<-f];show j_ _ ()
 have keep:∀b o,s.heap.get? b=some o->b≠s.heap.objs.size+1/\(((s.heap.push (seqObj "list" #[] 0)).update s.heap.objs.size (Obj.mapSeq (·++vs.toArray))).push (seqObj "list" vs.toArray 0)).get? b=some o:=λb o q=>by have e:b<s.heap.objs.size:=m3 q;show{nB (F_ e),?_};rw[Heap.get?_push_ne _ _ _ (by rw[f];show nB (F_ e)),Heap.get?_update_ne _ _ _ _ (nB e),Heap.get?_push_ne _ _ _ (nB e)];show q
 change wpAny _ _ _ _ _ {s with heap:=((s.heap.push (seqObj "list" #[] 0)).update s.heap.objs.size (Obj.mapSeq (·++vs.toArray))).push (seqObj "list" vs.toArray 0)};rw[f];show a_ (ri (rk slot_list_sort (s:={s with heap:=((s.heap.push (seqObj "list" #[] 0)).update s.heap.objs.size (Obj.mapSeq (·++vs.toArray))).push (seqObj "list" vs.toArray 0)}) {_,k,()} entry_list_sort (B7 (κ:=tuples' true) (c:=λi j=>KG (ds.getD i []) (ds.getD j [])) k B (λh2 D F=>?_) {_,(),?_}) (args_list_sort _)))
 ·have g:Paired (HK D.heap) vs ds:=Paired.mapP n λv d q=>q.kept λb o q=>F b o (keep b o q).1 (keep b o q).2;show{λN G=>?_,λi j C hi p r=>?_}
  ·obtain⟨fs,h1,I,h3⟩:=Af g λd hd=>by rw[hm d hd];show h0
   show kat_kind (T:=Value.type "str") h1 (by lia) (λv J=>?_) (by decide+kernel) ?_
   ·obtain⟨x,t,rfl⟩:=h3 v J;show Looks.of_pure ()
   ·rw[show(Value.type "str"!=Value.type "tuple")=true by decide+kernel];show G
  ·obtain⟨d,u,L⟩:=Paired.at_ g i _ (h_ hi);obtain⟨O,y,M⟩:=Paired.at_ g j _ (h_ p);rw[pa,h_ hi,pa,h_ p];rw[pa,u,pa,y]at r;show Jr L M ((hm _ (g_ u)).trans (hm _ (g_ y)).symm) r
 ·rw[Paired.length n];show f_ (U () h)
end
theorem Bh{ι c d:Type}{F:c->d->Prop}{f:ι->c}{g:ι->d}:∀{l:List ι},(∀i∈l,F (f i) (g i))->Paired F (l.map f) (l.map g)|[],_=>.nil|i::l,h=>.cons (h i oa) (Bh λj m=>h j (np _ m))
section
open PySem.Spec PyProof.Rows PySem.W
def uP{X:Cx}(K:O6)(G:X.K=K):dy X (.builtin "sorted") (λC H Q=>∃(p:Addr)(c:Pf)(ds:List (List Str))(m:Nat),C=[.ref p]/\aR K H p (c.map V.ref)/\c.length<64/\0<m/\(∀d∈ds,d.length=m)/\Paired (λ(u:Addr)(d:Pb)=>aY K H u (d.map V.str)) c ds/\∀(q:Addr)(l:Pf),H q=none->Paired (λ(u:Addr)(d:Pb)=>aY K H u (d.map V.str)) l (A6 ds)->Q (.ref q) (aH H q (.lst (l.map V.ref)))):=by
 subst G;intro D s N H C O Q I r h;obtain⟨p,c,ds,m,rfl,E,hn,h0,hm,t,q⟩:=h;obtain⟨u,rfl,J⟩:=jY r;obtain rfl:u=Value.ref p:=J;obtain⟨g,k,⟨o,n,v,x,y,F⟩,-⟩:=I.list E;obtain rfl:=Bg k;have L:Paired (HK s.heap) (c.map Value.ref) ds:=by
  clear hn q F y k E r hm
  induction t with|nil=>show .nil|@cons u d _ _ h _ M=>show .cons ?_ M;obtain⟨g,k,⟨o,v,x,n,y⟩,_⟩:=I.tuple h;show{u,o,n,g,(),v,x,y,k}
 have b:c.length=ds.length:=Paired.length t;have j:∀i∈xy ds,i<c.length:=λi hi=>by rw[b];show x3.mp ((wB _ _).mem_iff.mp hi)
 have z:(xy ds).length=c.length:=by rw[b];show(wB _ _).length_eq.trans rd
 have A:(xy ds).map (λi=>(c.map Value.ref).getD i Value.none)=((xy ds).map λi=>c.getD i 0).map Value.ref:=by rw[wr];show Nr λi hi=>?_;have hi:=j i hi;change _=Value.ref (c.getD i 0);rw[pa,i_,pa,h_ hi];rfl
 show yr (vs:=c.map Value.ref) (o,v,x,n,F,) (by rw[b_];omega) h0 hm L ?_;rw[A];obtain⟨ep,B⟩:=PyProof.Rows.sortedAll_at s.heap (c.map Value.ref) (((xy ds).map λi=>c.getD i 0).map Value.ref).toArray;show{.ref (s.heap.objs.size+1),_,I.laid (h':=sortedAll s.heap (c.map Value.ref) (((xy ds).map λi=>c.getD i 0).map Value.ref).toArray) (t':=s.toks) (o:=.lst (((xy ds).map λi=>c.getD i 0).map V.ref)) (λ_ _=>sortedAll_old) (t6 _) {?_,_,ep,xE,B},(),q _ _ (I.hok.fresh (t6 _)) (Bh λi hi=>?_)}
 ·rw[b_,b_,z,mo];omega
 ·have hi:=j i hi;obtain⟨d,e,f⟩:=Paired.at_ t i _ (h_ hi);rw[pa,h_ hi,pa,e];show f
end
def fi(K:O6)(H:Hp)(c:List V)(e:List (List Str)):Prop:=Paired (λ(u:V)(d:Pb)=>∃b,u=.ref b/\aY K H b (d.map V.str)) c e
def fi.kp(e:Kp H H'){c:List V}{d:List (List Str)}(h:fi K H c d):fi K H' c d:=Paired.mapP h λ_ _ q=>q.imp λ_ q=>{q.1,e.tq q.2}
def fi.of{c:Pf}{e:List (List Str)}(h:Paired (λ(u:Addr)(d:Pb)=>aY K H u (d.map V.str)) c e):fi K H (c.map V.ref) e:=by induction h with|nil=>show .nil|cons h _ b=>show .cons {_,(),h} b
def uc(ins:List (Str×Str×Str))(g:Str):List Str:=(ins.find? λx=>decide (x.1=g)).elim [g,"",""] λy=>[g,y.2.1,y.2.2]
def yQ(ins:List (Str×Str×Str))(gs:Pb):List (List Str):=A6 (gs.map (uc ins))
def Jl(ins:List (Str×Str×Str))(gs:Pb):∀d∈gs.map (uc ins),d.length=3:=λd hd=>by obtain⟨g,_,rfl⟩:=oi.mp hd;unfold uc;cases ins.find? λx=>decide (x.1=g)<;>rfl
theorem Ar:∀{l:List d},(l.map f).Nodup->∀x∈l,∀y∈l,f x=f y->x=y
 |[],_,x,b=>(nomatch b)|z::l,h,x,b=>λy c e=>by
  rw[o8,O2]at h;rcases vu.mp b with rfl|p<;>rcases vu.mp c with rfl|q
  ·rfl
  ·show absurd (oi.mpr (y,q,e.symm,)) h.1
  ·show absurd (oi.mpr (x,p,e,)) h.1
  ·show Ar h.2 x p y q e
def Jk{ins:List (Str×Str×Str)}(nd:(ins.map (·.1)).Nodup){y:Str×Str×Str}(c:y∈ins):uc ins y.1=[y.1,y.2.1,y.2.2]:=by obtain⟨x,b⟩:=vr.mp (OO.mpr {y,c,ol ()}:(ins.find? λx=>decide (x.1=y.1)).isSome=true);have e:=Ar nd x (N3 b) y c (by simpa using O4 b);unfold uc;rw[b,e];rfl
section
variable{K:O6}{H:Hp}
def bU.find(h:bU K H iv ins)(hn:(ins.map (·.1)).Nodup):∀x∈ins,∃s,bf iv (.inr x.1)=some (.ref s)/\aY K H s [.str x.2.1,.str x.2.2]:=by induction h with|nil=>showλx b=>(nomatch b)|@cons _ y _ _ h _ c=>
  intro x b;obtain⟨h1,s,h2,h3⟩:=h;rw[o8,O2]at hn;rcases vu.mp b with rfl|b
  ·show{s,by rw[cf h1,h2],h3}
  ·obtain⟨d,f,g⟩:=c hn.2 x b;show{d,?_,g};rw[bw,f];intro e;rw[h1]at e;show hn.1 (by rw[show y.1=x.1 from si e];show oi.mpr {x,b,()})
theorem bU.none(h:bU K H iv ins)(hn:g∉ins.map (·.1)):bf iv (.inr g)=Option.none:=by induction h with|nil=>rfl|@cons _ y _ _ h _ b=>
  rw[o8]at hn;rw[bw]
  ·show b λz=>hn (np _ z)
  ·intro e;rw[h.1]at e;show hn (by rw[show y.1=g from si e];show oa)
def bU.drop(g:Str)(h:bU K H iv ins):bU K H (dZ iv (.inr g)) (ins.filter λx=>decide (x.1≠g)):=by induction h with|nil=>show .nil|@cons x y _ _ h _ b=>
  by_cases e:y.1=g
  ·rw[wT (by rw[h.1,e]),Oj (by simp[e])];show b
  ·rw[wU (λz=>e (by rw[h.1]at z;show si z)),Oi (by simp[e])];show .cons h b
end
def dz(ins:List (Str×Str×Str))(gs:Pb):List (Str×Str×Str):=ins.filter λx=>decide (x.1∉gs)
def lc(ins:List (Str×Str×Str)):dz ins []=ins:=List.filter_eq_self.mpr λ_ _=>by simp
def rH(ins:List (Str×Str×Str))(gs:Pb)(g:Str):dz ins (gs++[g])=(dz ins gs).filter λx=>decide (x.1≠g):=by
 unfold dz;rw[List.filter_filter];show List.filter_congr λx _=>?_
 by_cases h1:x.1∈gs<;>by_cases h2:x.1=g<;>simp[h1,h2]
def AG(h:g∈ins.map (·.1))(hn:g∉gs):∃x∈dz ins gs,x.1=g:=by obtain⟨x,b,rfl⟩:=oi.mp h;show{x,yl.mpr {b,by simpa using hn},()}
def wM(h:(ins.map (·.1)).Nodup):((dz ins gs).map (·.1)).Nodup:=(List.Sublist.map _ List.filter_sublist).nodup h
abbrev bj.setL(M:bj)(i:Nat)(l:bE):bj:={M with las:=M.las.set i l}
def mF{M:bj}{i:Nat}{l:bE}(c:M.las[i]?=some l):M.setL i l=M:=by
 have e:M.las.set i l=M.las:=H_ λj=>by
  rw[N8]
  split
  ·rename_i q;subst q;rw[md (c_.mp c).1,c]
  ·rfl
 unfold bj.setL;rw[e]
def tw{M:bj}{i:Nat}{l c:bE}:(M.setL i l).setL i c=M.setL i c:=by unfold bj.setL;rw[List.set_set]
def yx{M:bj}{i:Nat}{l l':bE}(c:M.las[i]?=some l):(M.setL i l').las[i]?=some l':=by change(M.las.set i l')[i]?=_;rw[C_ (c_.mp c).1]
theorem jF.setL{M:bj}{c d:Nat}(h:jF M c){i:Nat}{l e:bE}(g:M.las[i]?=some l)(h1:e.nm=l.nm)(hc:c<=d)(ok:FK M d e):jF (M.setL i e) d:=by
 have b:(M.las.set i e).map bE.nm=M.las.map bE.nm:=eJ g bE.nm h1;have h:=h.mono hc;show{h with ln:=by rw[b];show h.ln,la:=λx j=>?_,tr:=λt f=>{h.tr t f with hm:=by change t.home∈(M.las.set i e).map bE.nm;rw[b];show(h.tr t f).hm},l4:=by change(M.las.set i e).length<=4;rw[B_];show h.l4};rcases N2 j with q|rfl
 ·show{h.la x q with}
 ·show{ok with}
inductive Ld(P:Pa)(w:World)(K:O6)(a:fN)(vs:List V)(H:Hp)(Q:VK)(_E:XK):Prop|mk(M:bj)(Z:ZS)(c i:Nat)(l:bE)(g:Addr)(gs:Pb)(_:vs=[.ref (Z.G .hh),.ref (Z.G (.lo i)),.ref g])(_:bK P w K a H M Z c)(_:M.las[i]?=some l)(_:H g=some (.lst (gs.map V.str)))(_:(∀x∈gs,x∈l.ins.map (·.1)))(_:gs.Nodup)(_:gs.length<=63)(_:∀(r:Addr)(us:List V)(Z':ZS)(H':Hp),gh H M Z H' (M.setL i {l with ins:=dz l.ins gs}) Z'->bK P w K a H' (M.setL i {l with ins:=dz l.ins gs}) Z' c->H r=none->H' r=some (.lst us)->Z'.ds=Z.ds->fi K H' us (yQ l.ins gs)->¬cZ (M.setL i {l with ins:=dz l.ins gs}) Z' r->Q (.ref r) H')
inductive JO(P:Pa)(w:World)(K:O6)(a:fN)(H:Hp)(M:bj)(Z:ZS)(i:Nat)(l:bE)(g:Addr)(gs:Pb)(o:Addr)(k:Nat)(σ:St)(H':Hp):Prop|mk(Z':ZS)(us:Pf)(v4 v5:Option V)(hG:bv P w K a H' (M.setL i {l with ins:=dz l.ins (gs.take k)}) Z')(eG:Z'.G=Z.G)(etk:Z'.tk=Z.tk)(eow:Z'.ow=Z.ow)(eds:Z'.ds=Z.ds)(ecv:Z'.cv=Z.cv)(nf:¬cZ (M.setL i {l with ins:=dz l.ins (gs.take k)}) Z' o)(st:gh H M Z H' (M.setL i {l with ins:=dz l.ins (gs.take k)}) Z')(hg:H' g=some (.lst (gs.map V.str)))(ho:H' o=some (.lst (us.map V.ref)))(hul:us.length=k)(hus:Paired (λ(u:Addr)(d:Pb)=>aY K H' u (d.map V.str)) us ((gs.take k).map (uc l.ins)))(e:σ=[some (.ref (Z.G .hh)),some (.ref (Z.G (.lo i))),some (.ref g),some (.ref o),v4,v5]):JO P w K a H M Z i l g gs o k σ H'
section
def kz(T:Txt K mg a):aP P w K mg base cU 1 a.cB.x a.cB.d ["self","layer","guests"] (Ld P w K a):=by
 show T.cB.ok fu λbz A outer s H vs Q E hr h=>?_
 ·obtain⟨M,Z,c,i,l,g,gs,rfl,hZ,hl,hg,a8,a9,bt,q⟩:=h;show{_,(af (bo 3 fu.nd (bg O)) (af (d6 qq () (cP K () (Y 2)) (sf 4 fu.nd) (af (bo 5 fu.nd (yP (aC K () (Y 1)) (Y 4) {(),(),(),()})) (ah (aM (eO K () PySem.F.plainAttrs_list PySem.F.slot_list_append PySem.F.type_list_append cq (Y 3) (ac (aB (uj K ()) (bp (ac (Y 4) O)) (Y 5)) O)))))) (ah (az (aA (uP K ()) (by rfl) T.uA L2.mq (ac (Y 3) O)))))),?_}
  show{ls (),λo ho=>au ?_};show fB ho λH1 s1 ba=>?_;have hL:=hZ.ok.la l (g_ hl);have bb:¬cZ M Z o:=hZ.g.foot ho;have bc:(gs.map V.str).length=gs.length:=b_ ..;show U () {g,(),{_,aR.of (s1 _ _ hg)},?_};show gn (xs:=gs.map V.str) (JO P w K a H M Z i l g gs o) {Z,[],_,_,by rw[z3,lc];show(mF hl).symm▸hZ.g.same s1,(),(),(),(),(),by rw[z3,lc];show(mF hl).symm▸bb,by rw[z3,lc];show(mF hl).symm▸gh.of s1,s1 _ _ hg,ba,(),.nil,()} (λk σ H' _ h=>by obtain⟨_,_,_,_,_,_,_,_,_,_,_,_,h,_⟩:=h;show aR.of h) ?_ ?_
  ·rintro k v σ H2 hv⟨f,us,v4,v5,m,eG,aa,ad,D,as,W,t,an,u,I,p,rfl⟩N R B hN;rw[i_]at hv;obtain⟨x,X,rfl⟩:=Option.map_eq_some_iff.mp hv;have hk:k<gs.length:=(c_.mp X).1;have C:=bx X;have bh:x∉gs.take k:=λz=>by have:=a9;rw[<-t_ k gs,p5]at this;show this.2.2 x z x (g_ (by rw[OI,Nat.add_zero];show X)) ()
   have bi:¬cZ (M.setL i {l with ins:=dz l.ins (gs.take k)}) f o:=λz=>(W z);obtain⟨y,hy,ey⟩:=AG (a8 x (g_ X)) bh;have n:=yx (l':={l with ins:=dz l.ins (gs.take k)}) hl;have ax:=m.seats i _ n;obtain⟨s,a3,J⟩:=ax.find (wM hL.nd) y hy;rw[ey]at a3;show au (fM (by rw[<-eG];show m.layer n) T.bD T.bJ () () {f.G (.iu i),(),.inl {_,.inl (m.inside n)},U () {_,.inr x,_,m.inside n,(),a3,au ?_}});have L:=m.setIns n (ax.drop x);have im:=m.imm (r:=.iu i) (by simp only[cont,n];rfl) (cO (o':=.dK (dZ (f.iv i) (.inr x))));have S:gh H2 _ f (aH H2 (f.G (.iu i)) (.dK (dZ (f.iv i) (.inr x)))) ((M.setL i {l with ins:=dz l.ins (gs.take k)}).setL i {l with ins:=(dz l.ins (gs.take k)).filter λz=>decide (z.1≠x)}) {f with iv:=λj=>if j=i then dZ (f.iv i) (.inr x)else f.iv j}:=gh.put (show i<_ from(c_.mp n).1) () (B_ ..) () () λx X=>.inl X;have a5:=cO (x:=f.G (.iu i)) (o':=.dK (dZ (f.iv i) (.inr x))) _ _ an λz=>by have e:=m.inside n;rw[<-z,an]at e;cases e
   have ap:=cO (x:=f.G (.iu i)) (o':=.dK (dZ (f.iv i) (.inr x))) _ _ u λz=>by have e:=m.inside n;rw[<-z,u]at e;cases e
   rw[tw,<-rH,<-C]at S;have L:bv P w K a (aH H2 (f.G (.iu i)) (.dK (dZ (f.iv i) (.inr x)))) (M.setL i {l with ins:=dz l.ins (gs.take (k+1))}) {f with iv:=λj=>if j=i then dZ (f.iv i) (.inr x)else f.iv j}:=by rw[C,rH,<-tw (l:={l with ins:=dz l.ins (gs.take k)})];show L
   have J:=im.kp.tq J;have p:=Paired.mapP p λ_ _ q=>im.kp.tq q;generalize aH H2 (f.G (.iu i)) (.dK (dZ (f.iv i) (.inr x)))=H3 at L S a5 ap J p⊢;show U () {.inl {(),_,aR.of ap},U () {ls (),λT1 a6=>(U () {T1,s,[.str x],U () {(),aY.of ae,am.tseq (aj (am.refl _) a6) J,by simp,by rw[mo];simp,λz=>(nomatch z),λ_ T2 bl=>?_}})}};have s5:=aj (o:=.tup ([.str x]++[.str y.2.1,.str y.2.2])) (aj (o:=.tup [.str x]) (am.refl H3) a6) bl;have e5:aH (aH H3 T1 (.tup [.str x])) T2 (.tup ([.str x]++[.str y.2.1,.str y.2.2])) T2=some (.tup [.str x,.str y.2.1,.str y.2.2]):=ae;generalize aH (aH H3 T1 (.tup [.str x])) T2 (.tup ([.str x]++[.str y.2.1,.str y.2.2]))=H5 at s5 e5⊢;have a7:=s5 _ _ ap;show rA a7 (by rw[b_,I,mo];lia) ?_;have kp:Kp H5 (aH H5 o (.lst (us.map V.ref++[.ref T2]))):=.lst a7;have nF:¬cZ (M.setL i {l with ins:=dz l.ins (gs.take (k+1))}) {f with iv:=λj=>if j=i then dZ (f.iv i) (.inr x)else f.iv j} o:=λz=>by
    rcases S.fp o z with q|q
    ·show bi q
    ·rw[u]at q;cases q
   have kq:∀b ob,H5 b=some ob->b≠o->aH H5 o (.lst (us.map V.ref++[.ref T2])) b=some ob:=cO;show hN _ _ {{f with iv:=λj=>if j=i then dZ (f.iv i) (.inr x)else f.iv j},us++[T2],_,_,(L.same s5).out nF kp kq,eG,aa,ad,D,as,nF,((t.trans S).trans (gh.of s5)).out ho,?_,?_,by rw[mu,I];rfl,?_,()}
   ·show kq _ _ (s5 _ _ a5) λz=>by rw[z,ho]at hg;cases hg
   ·rw[ae,k_];rfl
   ·rw[C,k_];show Paired.snoc (Paired.mapP p λ_ _ q=>kp.tq (am.tseq s5 q)) ?_;rw[<-ey,Jk hL.nd (yl.mp hy).1,ey];show kp.tq (aY.of e5)
  ·rintro σ H2⟨f,us,v4,v5,m,eG,aa,ad,D,as,W,t,an,u,I,p,rfl⟩;rw[bc]at I m t p;rw[l_ (e_ _)]at m t p;show U () {o,us,gs.map (uc l.ins),3,(),aR.of u,by omega,by decide,Jl _ _,p,λr vs hr hp=>?_};have s6:=aj (o:=.lst (vs.map V.ref)) (am.refl H2) hr;show q r (vs.map V.ref) f _ (t.trans (gh.of s6)) {m.same s6,?_,λj=>by rw[aa];show hZ.tk j,λj=>by rw[ad];show hZ.ow j,by rw[D];show hZ.ds} (t.dm _ hr) ae D (fi.of (Paired.mapP hp λ_ _ q=>am.tseq s6 q)) (m.foot hr);show hZ.ok.setL hl () (e_ _) {hL with len:=nr (y2 _ _) hL.len,gs:=λx X=>hL.gs x (yl.mp X).1,nd:=wM hL.nd}
end
def Km.kp(e:Kp H H')(h:Km K H c W):Km K H' c W:=Paired.mapP h λ_ _ q=>q.imp λ_ q=>q.imp λ_ q=>{q.1,e.tq q.2.1,dW e q.2.2}
def mU(x:Str)(arms:Pb)(l:Pg):Wl:=(arms.zip l).map λp=>(cI x p.1,p.2)
def FU(h:l.length=arms.length):(mU x arms l).length=arms.length:=by unfold mU;rw[b_,List.length_zip,h,Nat.min_self]
def Iv{x:Str}{arms:Pb}{l:Pg}{i:Nat}{y:Str}{z:Int}(h1:arms[i]?=some y)(h2:l[i]?=some z):(mU x arms l)[i]?=some (cI x y,z):=by unfold mU;rw[i_,List.getElem?_zip_eq_some (z:=(y,z))|>.mpr (h1,h2,)];rfl
theorem sP:∀{arms:Pb}{l:Pg},l.length=arms.length->(mU x arms l).map (·.1)=arms.map (cI x)|[],_,_=>()|y::r,[],h=>nomatch h|y::r,z::l,h=>by change cI x y::(mU x r l).map (·.1)=cI x y::r.map (cI x);rw[sP (by simpa using h)]
def oC(h:cI x y=cI z u):x=z/\y=u:=by have h:=si h;rw[List.cons.injEq,List.cons.injEq]at h;show{si h.1,si h.2.1}
def Iu(h:l.length=arms.length)(hn:arms.Nodup):((mU x arms l).map (·.1)).Nodup:=by rw[sP h,Nm,List.pairwise_map];show(Nm.mp hn).imp λh e=>h (oC e).2
def Ir(h:∀i∈l,0<=i):∀y∈mU x arms l,0<=y.2:=λy b=>by obtain⟨p,c,rfl⟩:=oi.mp b;show h _ (NR c).2
def EY{S:AS}{j k:cn}{n:Nat}{q:Int}(h:q∈(S.give j n).pl k):q∈S.pl k:=by
 have h:q∈(if k=j then(S.pl j).take n else S.pl k):=h
 split at h
 ·rename_i e;rw[e];show NM h
 ·show h
theorem mj:∀{W:Wl}{S:AS}{k:cn}{q:Int},q∈(cL S W).pl k->q∈S.pl k|[],_,_,_,h=>h|x::r,_,_,_,h=>EY (mj (W:=r) h)
theorem lI:∀{W:Wl}{S:AS}{k:cn}{q:Int},q∈(dC n S W).pl k->q∈S.pl k\/k∈W.map (·.1)
 |[],_,_,_,h=>.inl h|x::r,S,k,q,h=>by
  rcases lI (W:=r) h with h|h
  ·have h:q∈(if k=x.1 then S.pl x.1++_ else S.pl k):=h
   split at h
   ·rename_i e;show .inr (by rw[o8,e];show oa)
   ·show .inl h
  ·show .inr (np _ h)
section
variable{P:Pa}{w:World}{K:O6}{a:fN}{H d:Hp}{M:bj}{Z:ZS}{c:Nat}
theorem bK.told(h:bK P w K a H M Z c)(A:M.las[i]?=some l)(o:mB (Z.G (.od i)) (Z.G (.td i)) H d)(C:eR P w K a.bQ d (Z.G (.tb i)) (Z.G (.od i)) (Z.G (.td i)) M.p f s L)(N:jn M.p v f L)(Q:vf (c8 K H) M.p v f)(I:fI H (Z.tk i) s)(b1:s.length<=(Z.tk i).length+10)(b2:f.length<=(Z.ow i).length+5000)(hok:v.Ok M.p)(own:∀k q,q∈v.pl k->(∃D,D∈l.S.pl k)\/k=cI "" ""\/∃t∈M.trs,t.home=l.nm/\∃y∈t.arms,k=cI t.nm y):∃B,bK P w K a d (M.setL i {l with S:=v}) B (c+1)/\gh H M Z d (M.setL i {l with S:=v}) B/\B.ds=Z.ds/\B.G=Z.G:=by
 have J:=h.ok.la l (g_ A);obtain⟨m,U,_⟩:=h.g.tab A;have len:(M.setL i {l with S:=v}).las.length=M.las.length:=B_ ..;show{_,{h.g.told A o C N Q I,h.ok.setL A () (t6 c) {J.mono (t6 c)with ok:=hok,own:=λk q O=>?_},λj=>?_,λj=>?_,G_ h.ds},{(),λb ob e n=>?_,λb q=>?_,λb z=>pO o (by rw[C.own];simp) (by rw[C.tak];simp) z,()},(),()}
 ·rcases own k q O with⟨D,h1⟩|h1
  ·show J.own k D h1
  ·show h1
 ·change(if j=i then s else Z.tk j).length<=_;have:=h.tk j
  split
  ·rename_i e;subst e;lia
  ·lia
 ·change(if j=i then f else Z.ow j).length<=_;have:=h.ow j
  split
  ·rename_i e;subst e;lia
  ·lia
 ·have hi:=(c_.mp A).1;show o b ob e (λz=>n (.inl {.od i,hi,z})) (λz=>n (.inl {.td i,hi,z}))
 ·rcases q with⟨r,R,e⟩|⟨j,E,x,u,e⟩|⟨x,u,e⟩
  ·show .inl (.inl {r,by rw[<-len];show R,e})
  ·rw[len]at E
   replace u:x∈(if j=i then s else Z.tk j):=u
   by_cases q:j=i
   ·rw[md q]at u;subst q;rcases I x u with⟨y,T,F⟩|⟨V,F,hn⟩
    ·show .inl (.inr (.inl {j,E,y,T,by rw[F,e]}))
    ·rw[F]at e;cases e;show .inr hn
   ·rw[me q]at u;show .inl (.inr (.inl (j,E,x,u,e,)))
  ·show .inl (.inr (.inr (x,u,e,)))
end
def bU.get(h:bU K H iv ins)(k:Nat)(x:bZ×V)(e:iv[k]?=some x):∃y,ins[k]?=some y/\x.1=.inr y.1:=(Paired.at_ h k x e).imp λ_ q=>(q.1,q.2.1,)
def bU.len(h:bU K H iv ins):iv.length=ins.length:=Paired.length h
def Bv{z:Int}{l:Pg}:ox (.int z) (l.map V.int)=decide (z∈l):=by
 by_cases h:z∈l
 ·rw[ol h];unfold ox;rw[On];show{.int z,oi.mpr {z,h,()},by change(z==z)=true;show tA z}
 ·rw[op h];unfold ox;rw[OQ];intro v b e;obtain⟨y,c,rfl⟩:=oi.mp b;have e:(y==z)=true:=e;show h (by rw[<-eq_of_beq e];show c)
theorem ou:∀l:List Int,(l.map V.int).all nO=true|[]=>()|w::r=>by rw[o8,NJ,ou r];rfl
def zr(M:bj)(l:bE)(c:Pg):List Str:=(l.ins.map (·.1)).filter λg=>decide (oh M.p M.salt l.sl g∈c)
def tm(M:bj)(l:bE)(t:du)(ns:Pg):AS:=dC M.p (cL l.S (mU t.nm t.arms ns)) (mU t.nm t.arms ns)
def kQ(M:bj)(i:Nat)(l:bE)(t:du)(ns:Pg):bj:=M.setL i {l with S:=tm M l t ns,ins:=dz l.ins (zr M l (cA l.S (mU t.nm t.arms ns)))}
inductive F9(P:Pa)(w:World)(K:O6)(a:fN)(vs:List V)(H:Hp)(Q:VK)(E:XK):Prop|mk(M:bj)(Z:ZS)(c i j:Nat)(l:bE)(t:du)(nv:Addr)(ns:Pg)(_:vs=[.ref (Z.G .hh),.str t.nm,.ref nv])(_:bK P w K a H M Z c)(_:c<=63)(_:M.trs[j]?=some t)(_:M.las[i]?=some l)(_:l.nm=t.home)(_:(aR K H nv (ns.map V.int)\/aY K H nv (ns.map V.int)))(_:ns.length=t.arms.length)(_:(∀x∈ns,0<=x))(_:(gW l.S (mU t.nm t.arms ns)<=((mV M.p l.S.oc).length:Int)->∀(r:Addr)(us:List V)(Z':ZS)(H':Hp),gh H M Z H' (kQ M i l t ns) Z'->bK P w K a H' (kQ M i l t ns) Z' (c+1)->H r=none->H' r=some (.lst us)->Z'.ds=Z.ds->fi K H' us (yQ l.ins (zr M l (cA l.S (mU t.nm t.arms ns))))->¬cZ (kQ M i l t ns) Z' r->Q (.ref r) H'))(_:(((mV M.p l.S.oc).length:Int)<gW l.S (mU t.nm t.arms ns)->∀H',am H H'->E (.ref a.mC) none H'))
section
def gI(T:Txt K mg a):aP P w K mg base (v8 P w) 4 a.bI.x a.bI.d ["self","name","numbers"] (F9 P w K a):=by
 show T.bI.okE dD λeh A outer s H vs Q E hr h=>?_
 ·obtain⟨M,Z,c,i,j,l,t,nv,ns,rfl,u,hc,hj,hl,hh,c0,ad,c1,q,qe⟩:=h;show{_,(af (bo 3 dD.nd (cQ (b7 hr) (aC K () (Y 0)) (Y 1) (λ_ _=>()))) (af (ud (i:=4) dD.nd () (.inr ()) (cQ (b7 hr) (aC K () (Y 0)) (aC K () (Y 3)) (λ_ _=>()))) (af (ud (i:=5) dD.nd () (.inr ()) (aS (aC K () (Y 4)) T.bn T.eg.m ((nI (P:=P) (w:=w) T).mono (by decide)) hr T.eg.b .nil iF (ac (rN cY ["arm","number"] [] [7,8] (ai fw) (qL _ 7 8) (GF K () () T.LA (ac (aC K () (Y 3)) (ac (Y 2) O))) (λcl C s₀ H₀ ex=>{(fZ K () () (bu (lE cY ["arm","number"] 7) (bu (lE cY ["arm","number"] 8) fY))),bR,(bp (ac (bp (ac (Y 1) (ac (Y 7) O))) (ac (Y 8) O)))})) O))) (af (Ae (P:=P) (w:=w) (Hw 6 cY ["guest"] [] [7] (ai fw) (ca 7) (GI (P:=P) (w:=w) (aC K () (Y 4))) (λcl C s₀ H₀ ex=>{(lE cY ["guest"] 7),(pC (aD (qv K ()) (aS (Y 0) T.ao T.bH.m ((gH (P:=P) (w:=w) T).mono (by decide)) hr T.bH.b .nil aQ (ac (Y 4) (ac (Y 7) O))) (Y 5) (by with_unfolding_all rfl))),(Y 7)}) dD.nd)) (ah (az (aS (Y 0) T.ao T.cB.m ((kz (P:=P) (w:=w) T).mono (by decide)) hr T.cB.b .nil aQ (ac (Y 4) (ac (Y 6) O))))))))),?_}
  have a9:=g_ hj;have hT:=u.ok.tr t a9;have hL:=u.ok.la l (g_ hl);have hI:=u.g.house;have ba:=u.g.trial hj;obtain⟨bb,-,-⟩:=u.g.trs j t hj;have bc:=u.ok.lget (Z:=Z) hl;rw[hh]at bc;show fM hI T.ao T.aJ () () (U () (rG (.ref (Z.G (.tr j))) (by rw[<-u.ok.tget (Z:=Z) hj];show dA.k (k:=.inr t.nm) u.g.tris) (au ?_)));show fM hI T.ao T.aK () () (fM ba T.a0 T.eK () () (rG (.ref (Z.G (.lo i))) (by rw[<-bc];show dA.k (k:=.inr t.home) u.g.lays) (au ?_)));obtain⟨m,bh,ei⟩:=u.g.tab hl;obtain⟨ej,c2⟩:=bh.ins;show fM (u.g.layer hl) T.bD T.dU () () (rM c2 () ?_);show fM ba T.a0 T.fO () () (U () {Z.ar j,nv,t.arms.map V.str,ns.map V.int,(),bb,?_});have ek:(mU t.nm t.arms ns).length=t.arms.length:=FU ad;have el:=hT.a4;show CH (K:=K) (a:=Z.ar j) (l:=nv) (xs:=t.arms.map V.str) (ys:=ns.map V.int) (λD k f H'=>am H H'/\H' D=some (.lst f)/\Km K H' f ((mU t.nm t.arms ns).take k)) c0 (λD hD=>{aj (am.refl _) hD,ae,.nil}) (by rw[b_,b_,ad]) (λD k f H' h=>{am.tseq h.1 bb,h.1}) ?_ ?_
  ·rintro D k x1 x2 f H2 T1 hD a3 bi⟨s2,a5,L⟩c3;have hi:k<(t.arms.map V.str).length:=(c_.mp a3).1;rw[i_]at a3 bi;obtain⟨ya,c4,rfl⟩:=Option.map_eq_some_iff.mp a3;obtain⟨z2,da,rfl⟩:=Option.map_eq_some_iff.mp bi;show fB c3 λJ s3 a6=>?_;show{T1,U () {aY.of a6,(),_,U () (au {_,U () (au {(),iJ (bB ?_)})})}};show U () (U () {ls (),λB dc=>(U () {ls (),λT5 bl=>?_})});have s5:=aj (o:=.tup [.ref B,.int z2]) (aj (o:=.tup [.str t.nm,.str ya]) s3 dc) bl;have e5:aH (aH J B (.tup [.str t.nm,.str ya])) T5 (.tup [.ref B,.int z2]) T5=some (.tup [.ref B,.int z2]):=ae;have e4:aH (aH J B (.tup [.str t.nm,.str ya])) T5 (.tup [.ref B,.int z2]) B=some (.tup [.str t.nm,.str ya]):=by rw[ak (av ae bl)];show ae
   have en:f.length<=4:=by have:=Paired.length L;rw[oD]at this;lia
   change aH (aH J B (.tup [.str t.nm,.str ya])) T5 (.tup [.ref B,.int z2]) D=some (.lst f)/\_;generalize aH (aH J B (.tup [.str t.nm,.str ya])) T5 (.tup [.ref B,.int z2])=H5 at s5 e4 e5⊢;have N:=s5 _ _ a5;have kp:Kp H5 (aH H5 D (.lst (f++[.ref T5]))):=.lst N;show{N,by rw[mo];lia,lf hi {bG (s2.trans s5) hD,ae,?_}};rw[bx (Iv c4 da)];show Paired.snoc ((L.kp (.of s5)).kp kp) {T5,.ref B,(),kp.tq (aY.of e5),B,(),kp.tq (aY.of e4)}
  ·rintro D f H2 hD⟨s2,a5,L⟩;rw[b_,l_ (by lia)]at L;have a7:=u.same s2;obtain⟨m2,a8,bt⟩:=a7.g.tab hl;have eo:=u.tk i;have er:=u.ow i;have hp:=u.ok.p;show{Z.G (.tb i),Z.G (.od i),Z.G (.td i),D,M.p,Z.ow i,Z.tk i,m2,l.S,mU t.nm t.arms ns,f,(),a8,bt,(a7.g.tabs i l hl).2.2.1,hL.ok,a5,L,Ir c1,Iu ad hT.nd,by lia,by lia,by lia,by lia,λdi lb ev ew m' J off a6 dv dT ez R nw nl b1 b2=>au ?_,λdV J s3=>qe dV J (s2.trans s3)};obtain⟨Z3,v,d4,d5,eG⟩:=a7.told hl off a6 dv dT nw b1 b2 (kN _ (jf _ hL.ok)) λk x hx=>by
    rcases lI hx with h|h
    ·show .inl {x,mj h}
    ·rw[sP ad]at h;obtain⟨y,hy,rfl⟩:=oi.mp h;show .inr (.inr {t,a9,hh.symm,y,hy,()})
   have an:=yx (l':={l with S:=tm M l t ns}) hl;have v:bK P w K a J (M.setL i {l with S:=tm M l t ns}) Z3 (c+1):=v;have bz:=v.g.seats i _ an;have W:=v.g.layer an;have F:=v.g.house;have I:=v.g.inside an;rw[eG]at F W I;show fM W T.bD T.bJ () () {Z.G (.iu i),U () {I,λep=>λDg ap=>?_}};have nd:Z.G (.iu i)≠Dg:=λz=>by rw[<-z,ae]at ap;cases ap
   have ax:J Dg=none:=by rw[ak (p_ nd)]at ap;show ap
   have eH:(l.ins.map (·.1)).length=(Z3.iv i).length:=by rw[b_];show bz.len.symm
   have eN:=hL.len;show pX (n:=(Z3.iv i).length) (λk f H2=>(∀b o,J b=some o->b≠Z.G (.iu i)->H2 b=some o)/\H2 (Z.G (.iu i))=some (dE P w (Z.G (.iu i)) (Z3.iv i) ep)/\H2 Dg=some (.lst f)/\f=(((l.ins.map (·.1)).take k).filter λg=>decide (oh M.p M.salt l.sl g∈cA l.S (mU t.nm t.arms ns))).map V.str) {λb o e n=>by rw[ak (av e ax),ak n];show e,by rw[ak nd,ae],ae,()} (λk f H2 hk h=>(h.2.1,hk,)) ?_ ?_
   ·rintro k f H4 x H5 hk⟨f4,X,aa,rfl⟩⟨rfl,hx⟩;obtain⟨p0,ea,rfl⟩:=Option.map_eq_some_iff.mp hx;obtain⟨y,hy,ey⟩:=bz.get k p0 ea;have eb:=hL.gs y (g_ hy);rw[ey];have bQ:Z.G .hh≠Z.G (.iu i):=λz=>by rw[z,I]at F;cases F
    have ec:Z.G (.lo i)≠Z.G (.iu i):=λz=>by rw[z,I]at W;cases W
    have ed:lb≠Z.G (.iu i):=λz=>by rw[z,I]at R;cases R
    have e0:=hL.sl;show au (iS (f4 _ _ F bQ) () () (U () (U () {Z.G .hh,Z.G (.lo i),_,_,_,_,M.p,M.salt,l.sl,y.1,(),f4 _ _ F bQ,(),(),f4 _ _ W ec,(),eb,{by lia,by lia},{by lia,by lia},λH6 s6=>?_})));show U () {lb,U () {.inl (aR.of (s6 _ _ (f4 _ _ R ed))),(),ou _,U () ?_}};have b8:(l.ins.map (·.1)).take (k+1)=(l.ins.map (·.1)).take k++[y.1]:=bx (by rw[i_,hy];rfl);have al:((((l.ins.map (·.1)).take k).filter λg=>decide (oh M.p M.salt l.sl g∈cA l.S (mU t.nm t.arms ns))).map V.str).length<=63:=by rw[b_];show nr (y2 _ _) ?_;rw[oD,b_];lia
    change if(if false=true then _ else ox (.int (oh M.p M.salt l.sl y.1)) _)=true then _ else _
    rw[me nn,Bv];have f6:∀b o,J b=some o->b≠Z.G (.iu i)->H6 b=some o:=λb o e n=>s6 _ _ (f4 b o e n)
    by_cases as:oh M.p M.salt l.sl y.1∈cA l.S (mU t.nm t.arms ns)
    ·rw[ol as];show bB (U () {s6 _ _ aa,by rw[mo];lia,lf hk {λb o e n=>by rw[ak (av e ax)];show f6 b o e n,by rw[ak nd];show s6 _ _ X,ae,?_}});rw[b8,NZ,k_,Oi (by simpa using as)];rfl
    ·rw[op as];show cj (lf hk {f6,s6 _ _ X,by rw[s6 _ _ aa],?_});rw[b8,NZ,k_,Oj (by simpa using as)];show(q4 _).symm
   ·rintro f H4⟨f4,X,aa,rfl⟩;show{{X,e_ _},au {Z.G (.iu i),_,ep,X,?_}};rw[l_ (by lia)]at aa;have s4:am J (aH H4 (Z.G (.iu i)) (.dK (Z3.iv i))):=λb o e=>by
     by_cases z:b=Z.G (.iu i)
     ·rw[z,I]at e;rw[z,ae];show e
     ·rw[ak z];show f4 b o e z
    have N:aH H4 (Z.G (.iu i)) (.dK (Z3.iv i)) Dg=some (.lst ((zr M l (cA l.S (mU t.nm t.arms ns))).map V.str)):=by rw[ak (p_ nd)];show aa
    generalize aH H4 (Z.G (.iu i)) (.dK (Z3.iv i))=H5 at s4 N⊢;show iS (s4 _ _ F) () () (U () (U () {M.setL i {l with S:=tm M l t ns},Z3,c+1,i,_,Dg,zr M l (cA l.S (mU t.nm t.arms ns)),by rw[eG];rfl,v.same s4,an,N,λx hx=>(yl.mp hx).1,List.filter_sublist.nodup hL.nd,?_,λr us Z6 H6 b9 cc hr ef ci ro nf=>?_}))
    ·show nr (y2 _ _) ?_;rw[b_];lia
    ·rw[tw]at b9 cc nf;have cr:gh H M Z H5 (M.setL i {l with S:=tm M l t ns}) Z3:=((gh.of s2).trans d4).trans (gh.of s4);show q di r us Z6 H6 (cr.trans b9) cc (cr.dm _ hr) ef (ci.trans d5) ro nf
end
abbrev bj.setT(M:bj)(j:Nat)(t:du):bj:={M with trs:=M.trs.set j t}
def j4{M:bj}{i:Nat}{t t':du}(c:M.trs[i]?=some t):(M.setT i t').trs[i]?=some t':=by change(M.trs.set i t')[i]?=_;rw[C_ (c_.mp c).1]
section
variable{P:Pa}{w:World}{K:O6}{a:fN}{H:Hp}{M:bj}{Z:ZS}{c:Nat}
theorem jF.setT(h:jF M c){j:Nat}{t f:du}(g:M.trs[j]?=some t)(h1:f.nm=t.nm)(h2:f.home=t.home)(h3:f.arms=t.arms)(h4:f.rule=t.rule)(p:f.shuts=t.shuts)(r:f.bar.length<=c):jF (M.setT j f) c:=by
 have s:(M.trs.set j f).map du.nm=M.trs.map du.nm:=eJ g du.nm h1;show{h with tn:=by rw[s];show h.tn,la:=λl u=>?_,tr:=λx b=>?_,tc:=by change(M.trs.set j f).length<=10;rw[B_];show h.tc,br:=λx b=>?_}
 ·have q:=h.la l u;show{q with own:=λk z v=>?_};rcases q.own k z v with e|⟨x,b,m,y,n,o⟩
  ·show .inl e
  ·obtain⟨i,hi⟩:=nk.mp b
   by_cases e:i=j
   ·subst e;rw[g]at hi;cases hi;show .inr {f,g_ (j4 g),by rw[h2];show m,y,by rw[h3];show n,by rw[h1];show o}
   ·show .inr {x,g_ (i:=i) (by rw[so λz=>e z.symm];show hi),m,y,n,o}
 ·rcases N2 b with q|rfl
  ·show{h.tr x q with}
  ·have q:=h.tr t (g_ g);show{by rw[h1];show q.wd,by rw[h2];show q.hm,by rw[h3];show q.a1,by rw[h3];show q.a4,by rw[h3];show q.nd,by rw[h3];show q.aw,by rw[h4];show q.hg,by rw[p];show q.s8}
 ·rcases N2 b with q|rfl
  ·show h.br x q
  ·show r
theorem bK.setTr(h:bK P w K a H M Z c)(e:M.trs[j]?=some t)(h1:t'.nm=t.nm)(h0:t'.home=t.home)(h2:t'.arms=t.arms)(h3:t'.rule=t.rule)(h4:t'.shuts=t.shuts)(i:t'.bar.length<=c)(f:(r0=.tr j/\t'.bar=t.bar)\/(r0=.ba j/\t'.home=t.home/\t'.pau=t.pau/\t'.clo=t.clo))(l:cont P w a (M.setT j t') Z r0=some o'):bK P w K a (aH H (Z.G r0) o') (M.setT j t') Z c/\gh H M Z (aH H (Z.G r0) o') (M.setT j t') Z:=by show{{h.g.setTr e h1 h2 h3 h4 f l,h.ok.setT e h1 h0 h2 h3 h4 i,h.tk,h.ow,h.ds},gh.put ?_ () () (B_ ..) () λx b=>.inl b};have hi:=(c_.mp e).1;rcases f with⟨rfl,_⟩|⟨rfl,_⟩<;>show hi
end
theorem wE{S:AS}:∀{W:Wl},(∀x∈W,x.2=0)->gW S W<=0|[],_=>OF _|x::r,h=>by rw[Aq,h x oa];have:=wE (S:=S) (W:=r) λy b=>h y (np _ b);lia
def ld:cn:=cI "" ""
def Bw(M:bj)(i:Nat)(l:bE)(z:Int):bj:=M.setL i {l with S:=dC M.p (cL l.S [(ld,z)]) [(ld,z)]}
def lr(t:du):List Int:=List.replicate t.arms.length 0
inductive IV(P:Pa)(w:World)(K:O6)(a:fN)(vs:List V)(H:Hp)(Q:VK)(E:XK):Prop|mk(M:bj)(Z:ZS)(c i:Nat)(l:bE)(z:Int)(_:vs=[.ref (Z.G .hh),.str l.nm,.int z])(_:bK P w K a H M Z c)(_:c<=63)(_:M.las[i]?=some l)(_:0<=z)(_:(gW l.S [(ld,z)]<=((mV M.p l.S.oc).length:Int)->∀(r:Addr)(Z':ZS)(H':Hp),gh H M Z H' (Bw M i l z) Z'->bK P w K a H' (Bw M i l z) Z' (c+1)->H r=none->H' r=some (.lst [])->Z'.ds=Z.ds->¬cZ (Bw M i l z) Z' r->Q (.ref r) H'))(_:(((mV M.p l.S.oc).length:Int)<gW l.S [(ld,z)]->∀H',am H H'->E (.ref a.mC) none H'))
inductive Gf(P:Pa)(w:World)(K:O6)(a:fN)(vs:List V)(H:Hp)(Q:VK)(E:XK):Prop|mk(M:bj)(Z:ZS)(c j:Nat)(t:du)(b:Bool)(_:vs=[.ref (Z.G .hh),.str t.nm,.bl b])(_:bK P w K a H M Z c)(_:M.trs[j]?=some t)(_:∀(r:Addr)(H':Hp),gh H M Z H' (M.setT j {t with pau:=b}) Z->bK P w K a H' (M.setT j {t with pau:=b}) Z c->H r=none->H' r=some (.lst [])->¬cZ (M.setT j {t with pau:=b}) Z r->Q (.ref r) H')
inductive Gp(P:Pa)(w:World)(K:O6)(a:fN)(vs:List V)(H:Hp)(Q:VK)(E:XK):Prop|mk(M:bj)(Z:ZS)(c i j:Nat)(l:bE)(t:du)(_:vs=[.ref (Z.G .hh),.str t.nm])(_:bK P w K a H M Z c)(_:c<=63)(_:M.trs[j]?=some t)(_:M.las[i]?=some l)(_:l.nm=t.home)(_:∀(r:Addr)(us:List V)(Z':ZS)(H':Hp),gh H M Z H' (kQ (M.setT j {t with clo:=true}) i l {t with clo:=true} (lr t)) Z'->bK P w K a H' (kQ (M.setT j {t with clo:=true}) i l {t with clo:=true} (lr t)) Z' (c+1)->H r=none->H' r=some (.lst us)->Z'.ds=Z.ds->fi K H' us (yQ l.ins (zr M l (cA l.S (mU t.nm t.arms (lr t)))))->¬cZ (kQ (M.setT j {t with clo:=true}) i l {t with clo:=true} (lr t)) Z' r->Q (.ref r) H')
section
def qy(T:Txt K mg a):aP P w K mg base (v8 P w) 4 a.dO.x a.dO.d ["self","name","number"] (IV P w K a):=by
 show T.dO.okE qo λax A outer s H vs Q E u h=>?_
 ·obtain⟨M,Z,c,i,l,z,rfl,f,hc,j,hz,q,qe⟩:=h;show{_,(af (aM (aS (aC K () (cQ (b7 u) (aC K () (Y 0)) (Y 1) (λ_ _=>()))) T.bn T.eg.m ((nI (P:=P) (w:=w) T).mono (by decide)) u T.eg.b .nil iF (ac (bg (ac (bp (ac (cC (v:=.ref a.vd) {_,T.EB,()} ()) (ac (Y 2) O))) O)) O))) (ah (az (bg O)))),?_}
  have hL:=f.ok.la l (g_ j);obtain⟨m,y,a3⟩:=f.g.tab j;obtain⟨a5,J⟩:=y.ins;show fM f.g.house T.ao T.aK () () (U () (rG (.ref (Z.G (.lo i))) (by rw[<-f.ok.lget (Z:=Z) j];show dA.k (k:=.inr l.nm) f.g.lays) ?_));show rF (f.g.layer j) T.bD T.dU () (rM J () ?_);show U () {ls (),λe L=>{ls (),λD hD=>?_}};have I:=aj (o:=.lst [.ref e]) (aj (o:=.tup [.ref a.vd,.int z]) (am.refl H) L) hD;have e5:aH (aH H e (.tup [.ref a.vd,.int z])) D (.lst [.ref e]) D=some (.lst [.ref e]):=ae;have e4:aH (aH H e (.tup [.ref a.vd,.int z])) D (.lst [.ref e]) e=some (.tup [.ref a.vd,.int z]):=by rw[ak (av ae hD)];show ae
  generalize aH (aH H e (.tup [.ref a.vd,.int z])) D (.lst [.ref e])=H2 at I e4 e5⊢;have n:=f.same I;obtain⟨m2,t,B⟩:=n.g.tab j;have a6:=f.tk i;have a7:=f.ow i;have hp:=f.ok.p;show{Z.G (.tb i),Z.G (.od i),Z.G (.td i),D,M.p,Z.ow i,Z.tk i,m2,l.S,[(ld,z)],[.ref e],(),t,B,(n.g.tabs i l j).2.2.1,hL.ok,e5,.cons {e,.ref a.vd,(),aY.of e4,a.vd,(),T.Br.sq _} .nil,λx N=>by rw[List.mem_singleton.mp N];show hz,by simp,by simp,by lia,by lia,by lia,λR lb a8 a9 m' V off W X aa ba as nw nl b1 b2=>?_,λad V s3=>qe ad V (I.trans s3)};obtain⟨Z3,C,an,ap,eG⟩:=n.told j off W X aa nw b1 b2 (kN _ (jf _ hL.ok)) λk x N=>by
   rcases lI N with h|h
   ·show .inl {x,mj h}
   ·show .inr (.inl (List.mem_singleton.mp h))
  show{ls (),λr u=>?_};have s4:=aj (o:=.lst []) (am.refl V) u;have F:=(gh.of I).trans an;show q R r Z3 _ (F.trans (gh.of s4)) (C.same s4) (F.dm _ u) ae ap (C.g.foot u)
def jC(T:Txt K mg a):aP P w K mg base cU 1 a.cp.x a.cp.d ["self","name","paused"] (Gf P w K a):=by
 show T.cp.ok jt λu A outer s H v Q E f h=>?_
 ·obtain⟨M,Z,c,j,t,b,rfl,e,i,q⟩:=h;show{_,(af (bo 3 jt.nd (cQ (b7 f) (aC K () (Y 0)) (Y 1) (λ_ _=>()))) (af (cz K () (Y 3) (Y 2)) (ah (az (bg O))))),?_}
  have n:=e.g.trial i;show fM e.g.house T.ao T.aJ () () (U () (rG (.ref (Z.G (.tr j))) (by rw[<-e.ok.tget (Z:=Z) i];show dA.k (k:=.inr t.nm) e.g.tris) (au ?_)));show U () (U () {Z.G (.tr j),_,_,U () {n,T.a0,T.iM,by simp,?_}});obtain⟨l,m⟩:=e.setTr (t':={t with pau:=b}) (r0:=.tr j) i () () () () () (e.ok.br t (g_ i)) (.inl {(),()}) (by simp only[cont,j4 i];rfl);show{ls (),λr f=>?_};have p:=aj (o:=.lst []) (am.refl _) f;show q r _ (m.trans (gh.of p)) (l.same p) (m.dm _ f) ae (l.g.foot f)
def pN(T:Txt K mg a):aP P w K mg base (v8 P w) 5 a.dh.x a.dh.d ["self","name"] (Gp P w K a):=by
 show T.dh.okE ju λax A outer s H vs Q E z h=>?_
 ·obtain⟨M,Z,c,i,j,l,t,rfl,f,hc,n,hl,hh,q⟩:=h;show{_,(af (bo 2 ju.nd (cQ (b7 z) (aC K () (Y 0)) (Y 1) (λ_ _=>()))) (af (cz K () (Y 2) gT) (ah (az (aS (Y 0) T.ao T.bI.m ((gI (P:=P) (w:=w) T).mono (by decide)) z T.bI.b .nil iF (ac (Y 1) (ac (aB D0 (bg (ac ag O)) (aA (aI K ()) (by rfl) T.bC L2.aL (ac (aC K () (Y 2)) O))) O))))))),?_}
  have B:=f.g.trial n;show fM f.g.house T.ao T.aJ () () (U () (rG (.ref (Z.G (.tr j))) (by rw[<-f.ok.tget (Z:=Z) n];show dA.k (k:=.inr t.nm) f.g.tris) (au ?_)));show U () {Z.G (.tr j),_,_,U () {B,T.a0,T.eF,by simp,?_}};have u:=j4 (t':={t with clo:=true}) n;obtain⟨e,C⟩:=f.setTr (t':={t with clo:=true}) (r0:=.tr j) n () () () () () (f.ok.br t (g_ n)) (.inl {(),()}) (by simp only[cont,j4 n];rfl);have D:=e.g.house;have F:=e.g.trial u;obtain⟨v,-,-⟩:=e.g.trs j _ u;show iS D () () (U () {ls (),λI J=>?_});have L:=aj (o:=.lst [.int 0]) (am.refl _) J;have e2:aH (aH H (Z.G (.tr j)) (.ins a.fU (Z.dx (.tr j)) [("home",.str t.home),("arms",.ref (Z.ar j)),("rule",Z.ru j),("shuts",.ref (Z.sh j)),("paused",.bl t.pau),("closed",.bl true),("barred",.ref (Z.G (.ba j)))])) I (.lst [.int 0]) I=some (.lst [.int 0]):=ae;show fM (L _ _ F) T.a0 T.fO () () {_,t.arms.length,(),.inr {_,am.tseq L v,by simp},I,_,U () {(),e2,by lia,by have:=(f.ok.tr t (g_ n)).a4;lia,dq (by have:=(f.ok.tr t (g_ n)).a4;simp;lia),λg hg=>?_}};have N:=aj (o:=.lst (List.replicate (t.arms.length:Int).toNat [V.int 0]).flatten) L hg;have e0:(List.replicate (t.arms.length:Int).toNat [V.int 0]).flatten=(lr t).map V.int:=by
   unfold lr;rw[ry,List.map_replicate];generalize t.arms.length=j
   induction j with|zero=>rfl|succ j ih=>rw[t2,Nk,ih,t2];rfl
  rw[e0]at N⊢;have R:∀x∈mU t.nm t.arms (lr t),x.2=0:=λx W=>by obtain⟨p,hp,rfl⟩:=oi.mp W;show List.eq_of_mem_replicate (NR hp).2
  have X:=wE (S:=l.S) R;show{M.setT j {t with clo:=true},Z,c,i,j,l,{t with clo:=true},g,lr t,(),e.same N,hc,u,hl,hh,.inl (aR.of ae),NE,λx W=>by rw[List.eq_of_mem_replicate W];show OF _,λa3 r us Z' H4 aa ad z an ap ro nf=>?_,λas=>absurd X (by change¬gW l.S (mU t.nm t.arms (lr t))<=0;have:gW l.S (mU t.nm t.arms (lr t))>_:=as;omega)};have y:=C.trans (gh.of N);show q r us Z' H4 (y.trans aa) ad (y.dm _ z) an ap ro nf
end
def ie(bs:Pb)(g:Str):List Str:=if g∈bs then bs else bs++[g]
def DT(bs:Pb)(g:Str):fA (bs.map λg=>((.inr g:bZ),V.bl true)) (.inr g) (.bl true)=(ie bs g).map λg=>((.inr g:bZ),V.bl true):=by
 unfold ie
 by_cases h:g∈bs
 ·rw[md h];unfold fA;rw[md (by rw[List.any_map,On];show{g,h,by simp}),wr];show Nr λx _=>?_;change(if((.inr x:bZ))=.inr g then((.inr x:bZ),V.bl true)else _)=_
  split<;>rfl
 ·rw[me h,pB,k_]
  ·rfl
  ·have:∀cs:List Str,g∉cs->bf (cs.map λg=>((.inr g:bZ),V.bl true)) (.inr g)=none:=by
    intro cs
    induction cs with|nil=>intro _;rfl|cons x r b=>intro hn;rw[o8,bw λe=>hn (by rw[<-si e];show oa)];show b λz=>hn (np _ z)
   show this bs h
def u3(l:bE)(t:du)(g:Str):List Str:=if∃x∈l.ins,x.1=g/\x.2.1=t.nm then[g]else[]
def zJ(M:bj)(i j:Nat)(l:bE)(t:du)(g:Str):bj:=(M.setT j {t with bar:=ie t.bar g}).setL i {l with ins:=dz l.ins (u3 l t g)}
inductive Lj(P:Pa)(w:World)(K:O6)(a:fN)(vs:List V)(H:Hp)(Q:VK)(E:XK):Prop|mk(M:bj)(Z:ZS)(c i j:Nat)(l:bE)(t:du)(g:Str)(_:vs=[.ref (Z.G .hh),.str g,.str t.nm])(_:bK P w K a H M Z c)(_:c<=63)(_:M.trs[j]?=some t)(_:M.las[i]?=some l)(_:l.nm=t.home)(_:xg g)(_:∀(r:Addr)(us:List V)(Z':ZS)(H':Hp),gh H M Z H' (zJ M i j l t g) Z'->bK P w K a H' (zJ M i j l t g) Z' (c+1)->H r=none->H' r=some (.lst us)->Z'.ds=Z.ds->fi K H' us (yQ l.ins (u3 l t g))->¬cZ (zJ M i j l t g) Z' r->Q (.ref r) H')
section
def sx(T:Txt K mg a):aP P w K mg base cU 2 a.eD.x a.eD.d ["self","guest","name"] (Lj P w K a):=by
 show T.eD.ok iK λa5 A outer s H vs Q E n h=>?_
 ·obtain⟨M,Z,c,i,j,l,t,g,rfl,p,hc,B,C,hh,hg,q⟩:=h;show{_,(af (bo 3 iK.nd (cQ (b7 n) (aC K () (Y 0)) (Y 2) (λ_ _=>()))) (af (bo 4 iK.nd (cQ (b7 n) (aC K () (Y 0)) (aC K () (Y 3)) (λ_ _=>()))) (af (jM gT (jN (aC K () (Y 3)) (Y 1) (ql (b7 n)))) (af (aN (PW.pt (qt (og (Aj (b7 n) (Y 1) (aC K () (Y 4))) ()) (mH (aD aX (dP K (cQ (b7 n) (aC K () (Y 4)) (Y 1) (λ_ _=>())) ag) (Y 2) (aG _))))) (ah (az (aS (Y 0) T.ao T.cB.m ((kz (P:=P) (w:=w) T).mono (by decide)) n T.cB.b .nil aQ (ac (Y 4) (ac (bg (ac (Y 1) O)) O))))) aF) (ah (az (bg O))))))),?_}
  have ad:=g_ B;have hL:=p.ok.la l (g_ C);have F:=p.g.trial B;have I:=p.ok.lget (Z:=Z) C;rw[hh]at I;show fM p.g.house T.ao T.aJ () () (U () (rG (.ref (Z.G (.tr j))) (by rw[<-p.ok.tget (Z:=Z) B];show dA.k (k:=.inr t.nm) p.g.tris) (au ?_)));show fM p.g.house T.ao T.aK () () (fM F T.a0 T.eK () () (rG (.ref (Z.G (.lo i))) (by rw[<-I];show dA.k (k:=.inr t.home) p.g.lays) (au ?_)));have J:=p.ok.br t ad;show fM F T.a0 T.iN () () (U () {Z.G (.ba j),_,.inr g,(),(),p.g.barred B,by rw[b_,mo];lia,?_});rw[DT];have a6:=j4 (t':={t with bar:=ie t.bar g}) B;obtain⟨f,v⟩:=(p.mono (t6 c)).setTr (t':={t with bar:=ie t.bar g}) (r0:=.ba j) (o':=.dK ((ie t.bar g).map λg=>((.inr g:bZ),V.bl true))) B () () () () () (by change(ie t.bar g).length<=c+1;unfold ie;split;show G_ J;rw[mu];show L_ J) (.inr {(),(),(),()}) (by simp only[cont,j4 B];rfl);generalize aH H (Z.G (.ba j)) (.dK ((ie t.bar g).map λg=>((.inr g:bZ),V.bl true)))=H1 at f v⊢;have L:=f.g.layer C;have N:=f.g.inside C;have R:=f.g.seats i l C;show U () (fM L T.bD T.bJ () () (rG (bf (Z.iv i) (.inr g)) (dA.k (k:=.inr g) N) (U () ?_)));have u:u3 l t g=[]->∀r,H1 r=none->Q (.ref r) (aH H1 r (.lst [])):=λe r n=>by
   have S:=aj (o:=.lst []) (am.refl _) n;have em:zJ M i j l t g=M.setT j {t with bar:=ie t.bar g}:=by unfold zJ;rw[e,lc];show mF (M:=M.setT j {t with bar:=ie t.bar g}) C
   show q r [] Z _ (em▸v.trans (gh.of S)) (em▸f.same S) (v.dm _ n) ae () (by rw[e];show .nil) (em▸f.g.foot n)
  by_cases z:g∈l.ins.map (·.1)
  ·obtain⟨x,hx,ex⟩:=oi.mp z;obtain⟨s,hv,an⟩:=R.find hL.nd x hx;rw[ex]at hv;rw[hv];show bB (fM L T.bD T.bJ () () (U () (rG (.ref s) (by rw[<-hv];show dA.k (k:=.inr g) N) (rX an (aq (k:=0) ()) (U () {(),U () ?_})))))
   by_cases hq:x.2.1=t.nm
   ·have D:u3 l t g=[g]:=md (x,hx,ex,hq,);rw[hq];show ce (iS f.g.house () () (U () (U () {ls (),λDg ap=>?_})));have S:=aj (o:=.lst [.str g]) (am.refl _) ap;show{M.setT j {t with bar:=ie t.bar g},Z,c+1,i,l,Dg,[g],(),f.same S,C,ae,λy W=>by rw[List.mem_singleton.mp W];show z,by simp,by simp,λr us Z6 H6 as ax n a3 X ro nf=>?_};have em:zJ M i j l t g=(M.setT j {t with bar:=ie t.bar g}).setL i {l with ins:=dz l.ins [g]}:=by unfold zJ;rw[D]
    have aa:=v.trans (gh.of S);show q r us Z6 H6 (em▸aa.trans as) (em▸ax) (aa.dm _ n) a3 X (by rw[D];show ro) (em▸nf)
   ·have D:u3 l t g=[]:=me λ⟨y,W,e1,e2⟩=>hq (by rw[<-Ar hL.nd y W x hx (e1.trans ex.symm)];show e2)
    show sH hq {ls (),u D}
  ·have D:u3 l t g=[]:=me λ⟨y,W,e1,e2⟩=>z (oi.mpr (y,W,e1,));rw[R.none z];show cj {ls (),u D}
end
def vU(M:bj)(nm:Str)(sl:Int):bj:={M with las:=M.las++[{nm,sl,AS.new,[]}]}
def vT(M:bj)(t:du):bj:={M with trs:=M.trs++[t]}
section
variable{M:bj}{c:Nat}
def jF.addL(h:jF M c){nm:Str}{sl:Int}(g:Wd nm)(hn:nm∉M.las.map bE.nm)(i:0<=sl/\sl<=M.p)(h4:M.las.length<4):jF (vU M nm sl) c:=by
 have em:(M.las++[({nm,sl,AS.new,[]}:bE)]).map bE.nm=M.las.map bE.nm++[nm]:=by rw[k_];rfl
 show{h with ln:=?_,la:=λl j=>?_,tr:=λt f=>{h.tr t f with hm:=?_},l4:=by change(M.las++[_]).length<=4;rw[mu];show h4}
 ·change((M.las++[({nm,sl,AS.new,[]}:bE)]).map bE.nm).Nodup;rw[em,p5];show{h.ln,by simp,λx b y m e=>hn (by rw[<-List.mem_singleton.mp m,<-e];show b)}
 ·rcases List.mem_append.mp j with q|q
  ·show{h.la l q with}
  ·rw[List.mem_singleton.mp q];show{g,i,AS.new_ok _,ov _,λx b=>(nomatch b),NX,λk q n=>(nomatch n)}
 ·change t.home∈(M.las++[({nm,sl,AS.new,[]}:bE)]).map bE.nm;rw[em];show qx _ (h.tr t f).hm
def jF.addT(h:jF M c){t:du}(ok:HH M t)(hn:t.nm∉M.trs.map du.nm)(h4:M.trs.length<10)(f:t.bar=[]):jF (vT M t) c:=by
 show{h with tn:=?_,la:=λl g=>?_,tr:=λx b=>?_,tc:=by change(M.trs++[_]).length<=10;rw[mu];show h4,br:=λx b=>?_}
 ·change((M.trs++[t]).map du.nm).Nodup;rw[k_,p5];show{h.tn,by simp,λx b y i e=>hn (by rw[<-show y=t.nm from List.mem_singleton.mp i,<-e];show b)}
 ·have q:=h.la l g;show{q with own:=λk z j=>?_};rcases q.own k z j with e|⟨x,b,e⟩
  ·show .inl e
  ·show .inr {x,qx _ b,e}
 ·rcases List.mem_append.mp b with q|q
  ·show{h.tr x q with}
  ·rw[List.mem_singleton.mp q];show{ok with}
 ·rcases List.mem_append.mp b with q|q
  ·show h.br x q
  ·rw[List.mem_singleton.mp q,f];show ov _
end
inductive B5(P:Pa)(w:World)(K:O6)(a:fN)(vs:List V)(H:Hp)(Q:VK)(E:XK):Prop|mk(M:bj)(Z:ZS)(c:Nat)(nm:Str)(sl:Int)(_:vs=[.ref (Z.G .hh),.str nm,.int sl])(_:bK P w K a H M Z c)(_:Wd nm)(_:nm∉M.las.map bE.nm)(_:(0<=sl/\sl<=M.p))(_:M.las.length<4)(_:∀(r:Addr)(Z':ZS)(H':Hp),gh H M Z H' (vU M nm sl) Z'->bK P w K a H' (vU M nm sl) Z' c->H r=none->H' r=some (.lst [])->Z'.ds=Z.ds->¬cZ (vU M nm sl) Z' r->Q (.ref r) H')
inductive B4(P:Pa)(w:World)(K:O6)(a:fN)(vs:List V)(H:Hp)(Q:VK)(E:XK):Prop|mk(M:bj)(Z:ZS)(c:Nat)(H0:Hp)(t ba dx ar sh:Addr)(ru:V)(x:du)(_:vs=[.ref (Z.G .hh),.str x.nm,.ref t])(_:bK P w K a H0 M Z c)(_:am H0 H)(_:H0 t=none)(_:H0 ba=none)(_:H ba=some (.dK []))(_:H t=some (.ins a.fU dx [("home",.str x.home),("arms",.ref ar),("rule",ru),("shuts",.ref sh),("paused",.bl false),("closed",.bl false),("barred",.ref ba)]))(_:aY K H0 ar (x.arms.map V.str))(_:fG K H0 x.rule ru)(_:aY K H0 sh (x.shuts.map V.str))(_:x.pau=false)(_:x.clo=false)(_:x.bar=[])(_:HH M x)(_:x.nm∉M.trs.map du.nm)(_:M.trs.length<10)(_:∀(r:Addr)(Z':ZS)(H':Hp),gh H0 M Z H' (vT M x) Z'->bK P w K a H' (vT M x) Z' c->H0 r=none->H' r=some (.lst [])->Z'.ds=Z.ds->¬cZ (vT M x) Z' r->Q (.ref r) H')
section
def pM(T:Txt K mg a):aP P w K mg base cU 5 a.dg.x a.dg.d ["self","name","slope"] (B5 P w K a):=by
 show T.dg.ok oX λaa A outer s H vs Q E f h=>?_
 ·obtain⟨M,Z,c,nm,sl,rfl,t,hw,hn,hs,h4,q⟩:=h;show{_,(af (jM (mI T.Eo ((su (P:=P) (w:=w) T).mono (by decide)) f () T.G6 T.eB.b .nil aQ (ac (Y 2) (ac (aC K () (Y 0)) O))) (jN (aC K () (Y 0)) (Y 1) (ql (b7 f)))) (ah (az (bg O)))),?_}
  have X:=t.g.house;show U () (fM X T.ao T.bW () () (λlo ty l F ad=>?_));have f2:am H (aH (aH H ty (.own lo)) lo (.ins a.fj ty [])):=λb o e=>by rw[ak (av e l),ak (av e F)];show e
  have m:aH (aH H ty (.own lo)) lo (.ins a.fj ty []) lo=some (.ins a.fj ty []):=ae;generalize aH (aH H ty (.own lo)) lo (.ins a.fj ty [])=H2 at f2 m⊢;show{lo,ty,sl,M.p,(),m,λtb od td iu I u J L N R f3 hL S hu=>{(),?_}};have j:am H I:=λb o e=>f3 b o (f2 b o e) (av e l);show fM (j _ _ X) T.ao T.aK () () (U () {Z.G .ln,_,.inr nm,(),(),j _ _ t.g.lays,by rw[gJ,b_,mo];lia,?_});rw[pB _ (l9 hn)];have v:∀b,H b=none->b≠Z.G .ln:=λb e z=>by rw[z,t.g.lays]at e;cases e
  have y:=f2.free J;have B:=f2.free L;have C:=f2.free u;have D:=f2.free N;obtain⟨dT,iT⟩:=S.ins;obtain⟨Z',e1,V,e2,W,e4,hG,lv⟩:=t.g.newL (H':=aH I (Z.G .ln) (.dK (gU (M.las.map bE.nm) (λi=>.ref (Z.G (.lo i)))++[(.inr nm,.ref lo)]))) (nm:=nm) (sl:=sl) l D C y B R (λb o e n=>by rw[ak n];show j b o e) ae (by rw[ak (v _ l)];show hL) {{dT,by rw[ak (v _ C)];show iT},by rw[ak (v _ y)];show S.own,by rw[ak (v _ B)];show S.tak,λx k=>(nomatch k),.nil} (λz=>by rw[z,u]at m;cases m) (by rw[ak (v _ D)];show hu)
  show{ls (),λr f=>?_};have s5:=aj (o:=.lst []) (am.refl _) f;have st:gh H M Z (aH I (Z.G .ln) (.dK (gU (M.las.map bE.nm) (λi=>.ref (Z.G (.lo i)))++[(.inr nm,.ref lo)]))) (vU M nm sl) Z':=by
   show{e1,λb o e n=>by rw[ak λz=>n (.inl {.ln,trivial,z})];show j b o e,λb z=>?_,λb z=>j.free (l7 z),V};rcases z with⟨r,f,rfl⟩|⟨i,hi,x,k,e⟩|⟨x,k,e⟩
   ·have f:vW (M.las++[_]).length M.trs.length r:=f;rw[mu]at f;rcases lv r f with q|⟨q,p⟩
    ·show .inr q
    ·show .inl (.inl (r,p,q,))
   ·rw[(W i).1]at k;have hi:i<(M.las++[_]).length:=hi;rw[mu]at hi
    by_cases z:i=M.las.length
    ·rw[md z]at k;cases k
    ·rw[me z]at k;show .inl (.inr (.inl {i,by have:i<M.las.length+1:=hi;lia,x,k,e}))
   ·rw[e4]at k;show .inl (.inr (.inr (x,k,e,)))
  show q r Z' _ (st.trans (gh.of s5)) (bK.same {hG,t.ok.addL hw hn hs h4,λi=>?_,λi=>?_,by rw[e2];show t.ds} s5) (st.dm _ f) ae e2 (hG.foot f)
  ·rw[(W i).1]
   split
   ·show ov _
   ·show t.tk i
  ·rw[(W i).2]
   split
   ·show ov _
   ·show t.ow i
def pL(T:Txt K mg a):aP P w K mg base cU 4 a.df.x a.df.d ["self","name","trial"] (B4 P w K a):=by
 show T.df.ok oW λW A outer s H vs Q E f h=>?_
 ·obtain⟨M,Z,c,F,t,ba,dx,ar,sh,ru,x,rfl,j,k,l,m,X,ht,q1,q2,q3,I,J,v,ok,hn,B,q⟩:=h;show{_,(af (jM (Y 2) (jN (aC K () (Y 0)) (Y 1) (ql (b7 f)))) (ah (az (bg O)))),?_}
  show U () (fM (k _ _ j.g.house) T.ao T.aJ () () (U () {Z.G .tn,_,.inr x.nm,(),(),k _ _ j.g.tris,by rw[gJ,b_,mo];lia,?_}));rw[pB _ (l9 hn)];have L:∀b,F b=none->b≠Z.G .tn:=λb e z=>by rw[z,j.g.tris]at e;cases e
  obtain⟨N,e1,C,R,S,e4,e5,D,lv⟩:=j.g.newT (H':=aH H (Z.G .tn) (.dK (gU (M.trs.map du.nm) (λi=>.ref (Z.G (.tr i)))++[(.inr x.nm,.ref t)]))) (nm:=x.nm) (home:=x.home) (arms:=x.arms) (shuts:=x.shuts) (rule:=x.rule) l m (λb o e n=>by rw[ak n];show k b o e) ae (by rw[ak (L _ l)];show ht) (by rw[ak (L _ m)];show X) q1 q2 q3;have ex:({x.nm,x.home,x.arms,x.rule,x.shuts,false,false,[]}:du)=x:=by obtain⟨a1,a2,a3,a4,a5,a6,a7,a8⟩:=x;simp only at I J v;rw[I,J,v]
  rw[ex]at D;show{ls (),λr f=>?_};have V:=aj (o:=.lst []) (am.refl _) f;have st:gh F M Z (aH H (Z.G .tn) (.dK (gU (M.trs.map du.nm) (λi=>.ref (Z.G (.tr i)))++[(.inr x.nm,.ref t)]))) (vT M x) N:=by
   show{e1,λb o e n=>by rw[ak λz=>n (.inl {.tn,trivial,z})];show k b o e,λb z=>?_,λb z=>k.free (l7 z),C};rcases z with⟨r,f,rfl⟩|⟨i,hi,y,u,e⟩|⟨y,u,e⟩
   ·have f:vW M.las.length (M.trs++[_]).length r:=f;rw[mu]at f;rcases lv r f with q|⟨q,p⟩
    ·show .inr q
    ·show .inl (.inl (r,p,q,))
   ·rw[S]at u;show .inl (.inr (.inl (i,hi,y,u,e,)))
   ·rw[e5]at u;show .inl (.inr (.inr (y,u,e,)))
  show q r N _ (st.trans (gh.of V)) (bK.same {D,j.ok.addT ok hn B v,λi=>by rw[S];show j.tk i,λi=>by rw[e4];show j.ow i,by rw[R];show j.ds} V) (st.dm _ f) ae R (D.foot f)
end
section
def jB(T:Txt K mg a):aP P w K mg base cU 1 a.ck.x a.ck.d ["self","place"] (BV P w K a.bQ):=by
 show T.ck.ok oR λc A outer s H i Q E e h=>?_
 ·obtain⟨t,f,j,n,ow,tk,m,p,rfl,b,q⟩:=h;show{_,(ah (az (uh (b7 e) (aC K () (Y 0)) (Y 1) {(),(),(),()}))),?_};obtain⟨dx,g⟩:=b.ins;show U () {t,_,dx,_,U () {g,T.bn,T.eI,(),f,(),.inl {_,.inl b.own},U () {_,dA.k (k:=.inl p) b.own,q}}}
end
def HR(h:Wd x):PyData.strOk x=true:=by obtain⟨_,_,h⟩:=h;unfold PyData.strOk;rw[<-Array.all_toList,M_];intro c hc;have b:∀c∈pP.cps.toList,decide (c<1114112)=true:=dk ();have:=pw (b c (h c hc));simp;lia
structure q8(P:Pa)(w:World)(K:O6)(a:fN)(H0 H:Hp)(M:bj)(Z:ZS)(c:Nat):Prop where
 z:bK P w K a H0 M Z c
 k:∀b o,H0 b=some o->b≠Z.G .ln->H b=some o
section
variable{P:Pa}{w:World}{K:O6}{a:fN}{d H f:Hp}{M:bj}{Z:ZS}{c:Nat}
def q8.same(h:q8 P w K a d H M Z c)(s:am H f):q8 P w K a d f M Z c:={h.z,λb o e n=>s _ _ (h.k b o e n)}
def q8.kp(h:q8 P w K a d H M Z c):Kp d H:={λu i e=>h.k _ _ e λz=>(by rw[z,h.z.g.lays]at e;cases e),λu o⟨b,e⟩=>{b,h.k _ _ e λz=>by rw[z,h.z.g.lays]at e;cases e}}
theorem q8.at_(h:q8 P w K a d H M Z c)(e:cont P w a M Z r=some o)(n:r≠.ln):H (Z.G r)=some o:=h.k _ _ (h.z.g.at_ r o e) λz=>n (h.z.g.inj r .ln _ _ e () z)
def Js{p:Nat}{m sl:Int}{x:Str}(e:2<=p):0<=oh p m sl x/\oh p m sl x<p:=by
 unfold oh;have h:(0:Int)<(p:Int):=by lia
 split
 ·show{Nw _ (by lia),Nz _ h}
 ·show{Nw _ (by lia),Nz _ h}
def q8.owner(h:q8 P w K a d H M Z c){i:Nat}{l:bE}(s:M.las[i]?=some l){q:Int}(u:0<=q)(A:q<M.p):((bf (Z.ow i) (.inl q)).getD .non=.non/\∀k,q∉l.S.pl k)\/∃b x y,(bf (Z.ow i) (.inl q)).getD .non=.ref b/\aY K H b [.str x,.str y]/\q∈l.S.pl (cI x y)/\((x=""/\y="")\/∃(j:Nat)(t:du),M.trs[j]?=some t/\t.nm=x/\(Wd y/\Wd t.nm/\y∈t.arms/\t.home=l.nm)):=by have B:=h.z.ok.la l (g_ s);obtain⟨_,⟨m,_,G⟩,r,_⟩:=h.z.g.tabs i l s;have e:=G.2 q u A;cases C:bf (Z.ow i) (.inl q)with|none=>rw[C]at e;show .inl {(),λk z=>?_};have:=(B.ok.in_ k q z).2.2;rw[<-e]at this;cases this|some v=>
  show .inr ?_;obtain⟨k,n,D⟩:=r q v u A C;rcases B.own k q n with rfl|⟨t,E,hh,y,F,rfl⟩
  ·obtain⟨b,rfl,o⟩:=D;show{b,_,U () {h.kp.tq o,n,.inl {(),()}}}
  ·obtain⟨b,rfl,o⟩:=D;obtain⟨j,I⟩:=nk.mp E;have tk:=h.z.ok.tr t E;show{b,_,U () {h.kp.tq o,n,.inr {j,t,I,(),tk.aw y F,tk.wd,F,hh}}}
end
def HD{cs:List Bool}(h:cs.any id=false){b:Bool}(m:b∈cs):b=false:=by cases b with|false=>rfl|true=>rw[On.mpr {true,m,()}]at h;cases h
structure vc(M:bj)(l:bE)(g:Str)(ms:List (Str×Int))(bs:Pb)(t:du)(y:Str):Prop where
 mem:t∈M.trs
 arm:y∈t.arms
 home:t.home=l.nm
 at_:oh M.p M.salt l.sl g∈l.S.pl (cI t.nm y)pau:t.pau=false
 bar:g∉t.bar
 sat:t.rule.sat ms=true
 shut:∀n∈t.shuts,n∉bs
def jF.tuniq{M:bj}{c:Nat}(h:jF M c){t u:du}(d:t∈M.trs)(f:u∈M.trs)(e:t.nm=u.nm):t=u:=by obtain⟨i,hi⟩:=nk.mp d;obtain⟨j,b⟩:=nk.mp f;have q:i=j:=(z7 (by rw[b_];show(c_.mp hi).1) h.tn).mp (by rw[i_,i_,hi,b];show r_ some e);rw[q,b]at hi;show(n_ hi).symm
def vc.one{M:bj}{c:Nat}{l:bE}{g:Str}{e:List (Str×Int)}{bs:Pb}{t:du}{x y d:Str}(f:jF M c)(h:l∈M.las)(i:oh M.p M.salt l.sl g∈l.S.pl (cI x y))(L:vc M l g e bs t d):t.nm=x/\d=y:=oC ((f.la l h).ok.dj _ _ _ L.at_ i)
theorem Fx{g:Str}:∀{bs:Pb},(bf (bs.map λg=>((.inr g:bZ),V.bl true)) (.inr g)).isSome=true->g∈bs
 |[],z=>nomatch z|b::r,h=>by
  by_cases e:b=g
  ·show e▸oa
  ·rw[o8,bw (λq=>e (si q))]at h;show np _ (Fx h)
def LS{z:Str}{c:Pb}(e:ox (.str z) (c.map V.str)=true):z∈c:=by
 unfold ox at e;obtain⟨v,b,e⟩:=On.mp e;obtain⟨u,d,rfl⟩:=oi.mp b;have e:(u==z)=true:=e
 rwa[eq_of_beq e]at d
def Kl{cs:List Bool}(h:cs.any id=true):true∈cs:=by obtain⟨b,c,e⟩:=On.mp h;show e▸c
theorem BD{g:Str}:∀{bs:Pb},(bf (bs.map λg=>((.inr g:bZ),V.bl true)) (.inr g)).isSome=false->g∉bs
 |[],_,z=>nomatch z|b::r,h,z=>by
  rw[o8]at h
  by_cases e:b=g
  ·rw[cf (by rw[e])]at h;cases h
  ·rw[bw (λq=>e (si q))]at h;show(vu.mp z).elim (λq=>e q.symm) (BD h)
inductive IN(P:Pa)(w:World)(K:O6)(a:fN)(vs:List V)(H:Hp)(Q:VK)(E:XK):Prop|mk(H0:Hp)(M:bj)(Z:ZS)(c i:Nat)(l:bE)(g:Str)(mv:V)(ms:List (Str×Int))(bl:Addr)(bs:Pb)(_:vs=[.ref (Z.G .hh),.ref (Z.G (.lo i)),.str g,mv,.ref bl])(_:q8 P w K a H0 H M Z c)(_:M.las[i]?=some l)(_:xg g)(_:qb K H ms mv)(_:ms.length<=8)(_:H bl=some (.lst (bs.map V.str)))(_:(∀H',am H H'->(∀t y,¬vc M l g ms bs t y)->Q .non H'))(_:∀(s:Addr)(t:du)(y:Str)(H':Hp),am H H'->aY K H' s [.str t.nm,.str y]->vc M l g ms bs t y->Q (.ref s) H')
section
def pI(T:Txt K mg a):aP P w K mg base cU 8 a.c9.x a.c9.d ["self","layer","guest","marks","been"] (IN P w K a):=by
 show T.c9.ok gE λc1 A outer s H vs Q E hr h=>?_
 ·obtain⟨H0,M,Z,c,i,l,g,mv,ms,bl,bs,rfl,J,R,hg,hm,c2,bb,qn,qs⟩:=h;show{_,(af (bo 5 gE.nd (aS (aC K () (Y 1)) T.bn T.ck.m ((jB (P:=P) (w:=w) T).mono (by decide)) hr T.ck.b .nil aQ (ac (aS (Y 0) T.ao T.bH.m ((gH (P:=P) (w:=w) T).mono (by decide)) hr T.bH.b .nil aQ (ac (Y 1) (ac (Y 2) O))) O))) (af (aN (PW.pt (eW (aD D3 (Y 5) oj (aG _)) (dJ (aD (GP K () (MZ hr)) (Y 5) (cC (v:=.ref a.vd) {_,T.EB,()} ()) (aG _))))) (ah (az oj)) aF) (af (bo 6 gE.nd (cQ (b7 hr) (aC K () (Y 0)) (dP K (Y 5) ag) (λ_ _=>()))) (af (aN (PW.pt (eW (aT K () (aC K () (Y 6)) (λ_=>())) (eW (og (Aj (b7 hr) (Y 2) (aC K () (Y 6))) ()) (dJ (cu (aT K () (bT ((y3 T 6).mono (by decide)) hr () T.dY.m T.dY.f.kp T.dY.b .nil aQ (ac (aC K () (Y 6)) (ac (Y 3) O))) (λ_=>()))))))) (ah (az oj)) aF) (af (aN (aT K () (aA (qQ K () ()) (by rfl) T.Ej L2.uY (ac (rN ij ["name"] [] [7] (ai gY) (ca 7) (iE K () (aC K () (Y 6))) (λcl C s₀ H₀ ex=>{(lE ij ["name"] 7),bR,(bS (qv K ()) (Y 7) (Y 4) (by with_unfolding_all rfl))})) O)) (λ_=>())) (ah (az oj)) aF) (ah (az (Y 5)))))))),?_}
  have B:=J.z;have hL:=B.ok.la l (g_ R);have hp:=B.ok.p;have c3:=hL.sl;have hI:=J.at_ (r:=.hh) () (by simp);have ad:=J.at_ (r:=.lo i) (by simp only[cont,R];rfl) (by simp);have an:=J.at_ (r:=.tb i) (by simp only[cont,R];rfl) (by simp);have bc:=J.at_ (r:=.od i) (by simp only[cont,R];rfl) (by simp);have bh:=J.at_ (r:=.td i) (by simp only[cont,R];rfl) (by simp);have bi:=J.at_ (r:=.tn) () (by simp);show fM ad T.bD T.dU () () (rM an () (iS hI () () (U () (U () {Z.G .hh,Z.G (.lo i),_,_,_,_,M.p,M.salt,l.sl,g,(),hI,(),(),ad,(),hg,{by lia,by lia},{by lia,by lia},λH1 u=>?_}))));obtain⟨bt,⟨m,bz,c4⟩,da,dc⟩:=B.g.tabs i l R;have o:=J.same u;have ap:eR P w K a.bQ H1 (Z.G (.tb i)) (Z.G (.od i)) (Z.G (.td i)) M.p (Z.ow i) (Z.tk i) m:={{_,u _ _ an},u _ _ bc,u _ _ bh,λx hx=>dW o.kp (bt x hx),bz.outs λx hx lb xs e1 W=>o.k _ _ W λz=>by rw[z,B.g.lays]at W;cases W};have hq:=Js (m:=M.salt) (sl:=l.sl) (x:=g) hp.1;show{Z.G (.tb i),Z.G (.od i),Z.G (.td i),M.p,Z.ow i,Z.tk i,m,oh M.p M.salt l.sl g,(),ap,au ?_};have as:=g_ R;rcases o.owner R hq.1 hq.2 with⟨e,b8⟩|⟨b,x,y,e,hb,X,ax⟩
  ·rw[e];show U () {(),U () (bB (bB (qn _ u λt y L=>b8 _ L.at_)))}
  rw[e];show U () {(),U () (cj ?_)};have a3:PyData.strOk x=true/\PyData.strOk y=true:=by
   rcases ax with⟨rfl,rfl⟩|⟨j,t,S,rfl,h1,h2,_,_⟩
   ·show{by decide+kernel,by decide+kernel}
   ·show{HR h2,HR h1}
  show U () {.tuple [.str x,.str y],.tuple [.str "",.str ""],.tup hb (.cons (.str x) (.cons (.str y) .nil)),.tup (T.Br.sq _) (.cons (.str _) (.cons (.str _) .nil)),?_,by decide+kernel,U () ?_}
  ·unfold SeqAt.shaped;simp[PyData.canLay0,PyData.canLayAll0,PyData.depth,PyData.depthAll,a3.1,a3.2]
  rcases ax with⟨rfl,rfl⟩|⟨j,t,S,rfl,wy,wx,hy,hh⟩
  ·show vL (λ_=>qn _ u λt y L=>by have:=(B.ok.tr t L.mem).wd.lo;rw[(vc.one B.ok as X L).1]at this;show absurd this (by decide)) (λef=>absurd ef (by decide+kernel))
  have b9:=g_ S;have one:∀t' y',vc M l g ms bs t' y'->t'=t:=λt' y' L=>B.ok.tuniq L.mem b9 (vc.one B.ok as X L).1;show vL (λef=>?held) (λef=>?_)
  case held=>simp[PyData.eqv,PyData.eqvAll]at ef;have:=wx.lo;rw[ef.1]at this;show absurd this (by decide)
  have a5:=u _ _ bi;have N:=o.at_ (r:=.tr j) (by simp only[cont,S];rfl) (by simp);have cc:=o.at_ (r:=.ba j) (by simp only[cont,S];rfl) (by simp);obtain⟨-,ci,a6⟩:=B.g.trs j t S;have a7:=B.ok.tr t (g_ S);show fM (u _ _ hI) T.ao T.aJ () () (U () (rX hb (aq (k:=0) ()) (rG (.ref (Z.G (.tr j))) (by rw[<-B.ok.tget (Z:=Z) S];show dA.k (k:=.inr t.nm) a5) (au ?_))));show fM N T.a0 T.iM () () {t.pau,(),?_};show vL (λe1=>bB (qn _ u λt' y' L=>by have:=L.pau;rw[one _ _ L,e1]at this;cases this)) (λe1=>?_);show U () (fM N T.a0 T.iN () () (rG _ (dA.k (k:=.inr g) cc) (U () ?_)));show vL (λW=>bB (qn _ u λt' y' L=>by have:=L.bar;rw[one _ _ L]at this;show this (Fx W))) (λW=>?_);show fM N T.a0 T.nL () () (U () {t.rule,Z.ru j,ms,mv,(),ci.kp o.kp,a7.hg,hm.kp (.of u),by lia,λH2 s2=>(U () ?_)});have F:=u.trans s2;show vL (λe3=>qn _ F λt' y' L=>by have:=L.sat;rw[one _ _ L]at this;rw[this]at e3;cases e3) (λe3=>?_);have a8:=J.same F;show fM (s2 _ _ N) T.a0 T.ma () () {Z.sh j,(),{_,a8.kp.tq a6},λD hD=>?_};have a9:=F _ _ bb;have h8:=a7.s8;show gR (K:=K) (a:=Z.sh j) (xs:=t.shuts.map V.str) (λk I H'=>am H2 H'/\H' D=some (.lst I)/\∃cs:List Bool,I=cs.map V.bl/\Paired (λ(b:Bool)(x:Str)=>(b=false->x∉bs)/\(b=true->x∈bs)) cs (t.shuts.take k)) {aj (am.refl _) hD,ae,[],(),.nil} (λk I H' _ h=>am.tseq h.1 (a8.kp.tq a6)) ?_ ?_
  ·rintro k v I H3 hv⟨s3,aa,cs,rfl,q⟩;have hk:k<(t.shuts.map V.str).length:=(c_.mp hv).1;rw[i_]at hv;obtain⟨x,hx,rfl⟩:=Option.map_eq_some_iff.mp hv;have di:cs.length<=k:=by rw[Paired.length q];show J_ _ _
   show au (iJ (bB (U () (U () {bl,U () {.inl (aR.of (s3 _ _ a9)),(),qj bs,aa,?_,lf hk {bG s3 hD,ae,cs++[_],by rw[k_];rfl,by rw[bx hx];show xv q (.cons {λe m=>(by rw[EQ m]at e;cases e),λe=>LS e} .nil)}}}))));rw[b_]at hk⊢;rw[mo];lia
  ·rintro I H3⟨s3,aa,cs,rfl,q⟩;show{D,cs,(),aR.of aa,U () ?_};rw[b_,l_ (e_ _)]at q;show vL (λea=>qn _ (F.trans s3) λt' y' L=>?no) (λea=>?_)
   case no=>have sh:=L.shut;rw[one _ _ L]at sh;obtain⟨k,hk⟩:=nk.mp (Kl ea);obtain⟨x,hx,hb⟩:=Paired.at_ q k _ hk;show sh x (g_ hx) (hb.2 ())
   show U () (qs b t y _ (F.trans s3) (am.tseq (s2.trans s3) hb) {g_ S,hy,hh,X,e1,BD W,by simpa using e3,λn hn=>?_});obtain⟨i,hi⟩:=nk.mp hn;obtain⟨b',cr,c0⟩:=ue q i n hi;show c0.1 (HD ea (g_ cr))
end
def Fj(J:St->Hp->Prop)(h1:∀c H,J c H->u D c H)(h2:∀(N:St->Hp->Prop)(R:VK)(B C:St->Hp->Prop),(∀c H,J c H->N c H)->t (N,R,B,C,) c H):zV t u D c H:=h2 (u D) D.rt D.bk D.ct h1
def c6(l:bE)(g:Str):Option (Str×Str):=(l.ins.find? λx=>decide (x.1=g)).map (·.2)
def Dc(M:bj)(g:Str):List (Str×Str×Str):=M.las.filterMap λl=>(c6 l g).map λp=>(l.nm,p.1,p.2)
def u5(K:O6)(H:Hp)(c:V):Option (Str×Str)->Prop|none=>c=.non|some p=>∃s,c=.ref s/\aY K H s [.str p.1,.str p.2]
def u5.kp(e:Kp H H')(h:u5 K H c o):u5 K H' c o:=by cases o with|none=>show h|some p=>obtain⟨s,h1,h2⟩:=h;show{s,h1,e.tq h2}
def bU.seat(g:Str)(h:bU K H iv ins):u5 K H ((bf iv (.inr g)).getD .non) ((ins.find? λx=>decide (x.1=g)).map (·.2)):=by induction h with|nil=>rfl|@cons _ y _ _ h _ b=>
  by_cases e:y.1=g
  ·obtain⟨h1,s,h2,h3⟩:=h;rw[cf (by rw[h1,e]),s_ (by simp[e]),h2];show{s,(),h3}
  ·rw[bw (λz=>e (by rw[h.1]at z;show si z)),rr (by simp[e])];show b
def eS(K:O6)(H:Hp)(c:List V)(d:List (Str×Str×Str)):Prop:=Paired (λ(u:V)(y:Str×Str×Str)=>∃b,u=.ref b/\aY K H b [.str y.1,.str y.2.1,.str y.2.2]) c d
def eS.kp(e:Kp H H')(h:eS K H c d):eS K H' c d:=Paired.mapP h λ_ _ q=>q.imp λ_ q=>{q.1,e.tq q.2}
def dX(cm:List (Str×List (Str×Str)))(g:Str):List (Str×Str):=((cm.find? λx=>decide (x.1=g)).map (·.2)).getD []
def yh(M:bj)(g:Str)(c:List (Str×Str×Str)):List Str:=(dX M.came g).map (·.1)++c.map (·.2.1)
def Fw{M:bj}{g:Str}{c:List (Str×Str×Str)}{x:Str×Str×Str}:yh M g (c++[x])=yh M g c++[x.2.1]:=by unfold yh;rw[k_,z8];rfl
def u8(M:bj)(g:Str)(c:List (Str×Int))(l:bE)(bs:Pb)(r:Str×Str):Prop:=c6 l g=some r\/(c6 l g=none/\∃t y,r=(t.nm,y)/\vc M l g c bs t y)
inductive jW(M:bj)(g:Str)(ms:List (Str×Int)):List bE->List (Str×Str×Str)->Prop|nil:jW M g ms [] []|skip{ls:List bE}{ss:List (Str×Str×Str)}{l:bE}(h:jW M g ms ls ss)(hn:c6 l g=none)(hx:∀t y,¬vc M l g ms (yh M g ss) t y):jW M g ms (ls++[l]) ss|row{ls:List bE}{ss:List (Str×Str×Str)}{l:bE}{r:Str×Str}(h:jW M g ms ls ss)(hr:u8 M g ms l (yh M g ss) r):jW M g ms (ls++[l]) (ss++[(l.nm,r)])
theorem u8.one{M:bj}{c:Nat}{g:Str}{d:List (Str×Int)}{l:bE}{bs:Pb}{r f:Str×Str}(i:jF M c)(j:l∈M.las)(h:u8 M g d l bs r)(h':u8 M g d l bs f):r=f:=by
 rcases h with e|⟨e,t,y,rfl,L⟩
 ·rcases h' with b|⟨b,_⟩
  ·show n_ (e.symm.trans b)
  ·rw[e]at b;cases b
 ·rcases h' with b|⟨_,o,p,rfl,k⟩
  ·rw[e]at b;cases b
  ·obtain⟨m,n⟩:=vc.one i j k.at_ L;rw[m,n]
theorem jW.one{M:bj}{c:Nat}{g:Str}{p:List (Str×Int)}(u:jF M c){ls:List bE}{n:List (Str×Str×Str)}(h:jW M g p ls n):(∀l∈ls,l∈M.las)->∀{d},jW M g p ls d->n=d:=by induction h with
 |nil=>intro _ d h';generalize e:([]:List bE)=ls at h';cases h' with|nil=>rfl|skip=>show absurd e.symm (by simp)|row=>show absurd e.symm (by simp)
 |@skip ls n l h hn v j=>intro hm d h';generalize e:ls++[l]=o at h';cases h' with|nil=>show absurd e (by simp)|skip h1 k m=>obtain⟨rfl,i⟩:=Om e ();show j (λb q=>hm b (qx _ q)) h1|row h1 f=>
   obtain⟨rfl,i⟩:=Om e ();obtain rfl:=Oh i;obtain rfl:=j (λb q=>hm b (qx _ q)) h1;rcases f with q|⟨_,t,y,_,L⟩
   ·rw[hn]at q;cases q
   ·show absurd L (v t y)
 |@row ls n l r h s j=>intro hm d h';generalize e:ls++[l]=o at h';cases h' with
 |nil=>show absurd e (by simp)|skip h1 k m=>
   obtain⟨rfl,i⟩:=Om e ();obtain rfl:=Oh i;obtain rfl:=j (λb q=>hm b (qx _ q)) h1;rcases s with q|⟨_,t,y,_,L⟩
   ·rw[k]at q;cases q
   ·show absurd L (m t y)|row h1 f=>obtain⟨rfl,i⟩:=Om e ();obtain rfl:=Oh i;obtain rfl:=j (λb q=>hm b (qx _ q)) h1;rw[u8.one u (hm _ (pv _ (List.mem_singleton.mpr ()))) s f]
def eQ.find{dl:Addr}{cv:List (bZ×V)}{cm:List (Str×List (Str×Str))}(g:Str)(h:eQ K H dl cv cm):(bf cv (.inr g)=none/\dX cm g=[])\/∃l c,bf cv (.inr g)=some (.ref l)/\l≠dl/\H l=some (.lst c)/\fK K H c (dX cm g)/\(g,dX cm g)∈cm:=by induction h with|nil=>show .inl {(),()}|@cons _ y _ _ h _ d=>
  by_cases e:y.1=g
  ·obtain⟨h1,l,c,h2,n,h3,h4⟩:=h;have b:∀q,dX (y::q) g=y.2:=λq=>by unfold dX;rw[s_ (by simp[e])];rfl
   rw[b];show .inr {l,c,by rw[cf (by rw[h1,e]),h2],n,h3,h4,by rw[<-e];show oa}
  ·have b:∀q,dX (y::q) g=dX q g:=λq=>by unfold dX;rw[rr (by simp[e])]
   rw[b,bw (λz=>e (by rw[h.1]at z;show si z))];show d.imp id λq=>q.imp λ_ q=>q.imp λ_ q=>{q.1,q.2.1,q.2.2.1,q.2.2.2.1,np _ q.2.2.2.2}
inductive Gx(P:Pa)(w:World)(K:O6)(a:fN)(vs:List V)(H:Hp)(Q:VK)(E:XK):Prop|mk(M:bj)(Z:ZS)(c:Nat)(g:Str)(mv:V)(ms:List (Str×Int))(_:vs=[.ref (Z.G .hh),.str g,mv])(_:bK P w K a H M Z c)(_:c<=63)(_:xg g)(_:qb K H ms mv)(_:ms.length<=8)(_:∀(r:Addr)(us:List V)(H':Hp),am H H'->H r=none->H' r=some (.lst us)->∀ss,eS K H' us ss->jW M g ms M.las ss->ss.length<=4->Q (.ref r) H')
def Hr{J:It}{n:Nat}{g:TG}{tb:TS}{D:jV}{c:St}{H:Hp}(Pv:Nat->St->Hp->Prop)(h0:Pv 0 c H)(hg:∀i c H,i<n->Pv i c H->J.go i H)(f:∀i c H x H',i<n->Pv i c H->J.yld i H x H'->∀(N:St->Hp->Prop)(R:VK)(B:St->Hp->Prop),(∀c H,Pv (i+1) c H->N c H)->g x c H' λd h=>tb (N,R,B,N,) d h)(hd:∀c H,Pv n c H->J.stop n H/\D.nx c H):=E5 (J:=J) (n:=n) (g:=g) (tb:=tb) (D:=D) Pv h0 hg (λi c H x H' e p y=>f i c H x H' e p y _ D.rt _ λ_ _ q=>q) hd
inductive JV(P:Pa)(w:World)(K:O6)(H:Hp)(M:bj)(Z:ZS)(g:Str)(ms:List (Str×Int))(mv:V)(D an:Addr)(ep:Nat)(k:Nat)(σ:St)(H':Hp):Prop|mk(us:List V)(ss:List (Str×Str×Str))(v5 v6 v7:Option V)(f:∀b o,H b=some o->b≠Z.G .ln->H' b=some o)(hl:H' (Z.G .ln)=some (dE P w (Z.G .ln) (gU (M.las.map bE.nm) λi=>.ref (Z.G (.lo i))) ep))(hD:H' D=some (.lst ((yh M g ss).map V.str)))(hA:H' an=some (.lst us))(hs:eS K H' us ss)(hR:jW M g ms (M.las.take k) ss)(hk:ss.length<=k)(e:σ=[some (.ref (Z.G .hh)),some (.str g),some mv,some (.ref D),some (.ref an),v5,v6,v7]):JV P w K H M Z g ms mv D an ep k σ H'
inductive JS(K:O6)(M:bj)(g:Str)(ms:List (Str×Int))(l:bE)(bs:Pb)(H5:Hp)(f:V->St)(σ:St)(H':Hp):Prop|no(s:am H5 H')(e:σ=f .non)(hn:c6 l g=none)(hx:∀t y,¬vc M l g ms bs t y):JS K M g ms l bs H5 f σ H'|yes(b:Addr)(r:Str×Str)(s:am H5 H')(e:σ=f (.ref b))(hq:aY K H' b [.str r.1,.str r.2])(hr:u8 M g ms l bs r):JS K M g ms l bs H5 f σ H'
section
def iG(T:Txt K mg a):aP P w K mg base cU 9 a.bA.x a.bA.d ["self","guest","marks"] (Gx P w K a):=by
 show T.bA.ok bF λeh A outer s H vs Q E hr h=>?_
 ·obtain⟨M,Z,c,g,mv,ms,rfl,X,hc,hg,hm,dc,q⟩:=h;show{_,(af (Hw 3 fL [] [7] [7] (ai fJ) (ca 7) (cP K () (ug (b7 hr) (aC K () (Y 0)) (Y 1) (bg O) {(),(),(),()})) (λcl C s₀ H₀ ex=>{(lE fL [] 7),bR,(dP K (Y 7) ag)}) bF.nd) (af (bo 4 bF.nd (bg O)) (af (Ae (P:=P) (w:=w) (d6 qq () (pE (P:=P) (w:=w) (aC K () (Y 0))) (fZ K () () (bu (sf 5 bF.nd) (bu (sf 6 bF.nd) fY))) (af (bo 7 bF.nd (uh (b7 hr) (aC K () (Y 6)) (Y 1) {(),(),(),()})) (af (aN (aD D3 (Y 7) oj (aG _)) (ah (bo 7 bF.nd (aS (Y 0) T.ao T.c9.m ((pI (P:=P) (w:=w) T).mono (by decide)) hr T.c9.b .nil aQ (ac (Y 6) (ac (Y 1) (ac (Y 2) (ac (Y 3) O))))))) aF) (ah (aN (aD Bk (Y 7) oj (aG _)) (af (aM (eO K () PySem.F.plainAttrs_list PySem.F.slot_list_append PySem.F.type_list_append cq (Y 3) (ac (dP K (Y 7) ag) O))) (ah (aM (eO K () PySem.F.plainAttrs_list PySem.F.slot_list_append PySem.F.type_list_append cq (Y 4) (ac (aB (uj K ()) (bp (ac (Y 5) O)) (Y 7)) O))))) aF)))))) (ah (az (Y 4)))))),?_}
  have hI:=X.g.house;have ei:=X.ok.l4;show fM hI T.ao T.c7 () () {Z.G .ci,(),.inl {_,.inl X.g.cams},U () {ls (),λl0 di=>?_}};have s0:=aj (o:=.lst []) (am.refl H) di;have e0:aH H l0 (.lst []) l0=some (.lst []):=ae;generalize aH H l0 (.lst [])=H1 at s0 e0⊢;show{bf Z.cv (.inr g),dA.k (k:=.inr g) (s0 _ _ X.g.cams),?_};obtain⟨ll,J,ev,bh,hw,ej⟩:∃ll J,(bf Z.cv (.inr g)).getD (.ref l0)=.ref ll/\H1 ll=some (.lst J)/\fK K H1 J (dX M.came g)/\(dX M.came g).length<=630:=by
   rcases X.g.came.find g with⟨e,e'⟩|⟨l,us,e,_,h2,h3,h4⟩
   ·show{l0,[],by rw[e];rfl,e0,by rw[e'];show .nil,by rw[e'];show ov _}
   ·have:=X.ok.cm _ h4;have:(dX M.came g).length<=10*c:=this;show{l,us,by rw[e];rfl,s0 _ _ h2,h3.kp (.of s0),by lia}
  rw[ev];have dv:J.length=(dX M.came g).length:=Paired.length hw;show{ll,(),{_,aR.of bh},λD hD=>?_};show i0 (K:=K) (a:=ll) (xs:=J) (λk L H'=>am H1 H'/\H' D=some (.lst L)/\L=((dX M.came g).take k).map λy=>V.str y.1) {aj (am.refl _) hD,ae,()} (λk L H' _ h=>aR.of (h.1 _ _ bh)) ?_ ?_
  ·rintro k v L H3 hv⟨s3,ad,rfl⟩;have hk:k<J.length:=(c_.mp hv).1;obtain⟨y,hy,s,rfl,p⟩:=Paired.at_ hw k v hv;have ek:=J_ k (dX M.came g);show au (iJ (bB (U () (rX (am.tseq s3 p) (aq (k:=0) ()) {ad,by rw[b_,mo];lia,lf hk {bG s3 hD,ae,by rw[bx hy,k_];rfl}}))))
  rintro L H2⟨s2,ap,ea⟩;have eb:L=(yh M g []).map V.str:=by rw[ea,dv,l_ (e_ _)];unfold yh;rw[NW,q4,wr];rfl
  rw[eb]at ap;show au {ls (),λan a7=>au ?_};have s3:=aj (o:=.lst []) (am.refl H2) a7;have bi:aH H2 an (.lst []) an=some (.lst []):=ae;have ad:=s3 _ _ ap;have bl:H D=none:=s0.free hD;have a8:H an=none:=s0.free (s2.free a7);have bt:D≠an:=λz=>by rw[z,a7]at ap;cases ap
  have as:am H (aH H2 an (.lst [])):=(s0.trans s2).trans s3;generalize aH H2 an (.lst [])=H3 at s3 bi ad as⊢;show fM (as _ _ hI) T.ao T.aK () () {Z.G .ln,U () {as _ _ X.g.lays,λep=>?_}};have bz:Z.G .ln≠D:=λz=>by have e:=X.g.lays;rw[z,bl]at e;cases e
  have a9:Z.G .ln≠an:=λz=>by have e:=X.g.lays;rw[z,a8]at e;cases e
  show Hr (n:=M.las.length) (JV P w K H M Z g ms mv D an ep) {[],[],_,_,_,λb o e n=>by rw[ak n];show as b o e,ae,by rw[ak (p_ bz)];show ad,by rw[ak (p_ a9)];show bi,.nil,.nil,e_ _,()} (λk σ H' hk h=>by obtain⟨_,_,_,_,_,_,h,_⟩:=h;show{h,by rw[gJ,b_];show hk}) ?_ ?_
  ·rintro k σ H4 x H5 hk⟨S,f,v5,v6,v7,f4,j,bQ,ba,I,aa,bb,rfl⟩⟨T1,kk,vv,dT,rfl,rfl,b8⟩N R B hN;have el:S.length=f.length:=Paired.length I;have en:(yh M g f).length<=630+k:=by unfold yh;rw[mu,b_,b_];lia
   obtain⟨l,hl⟩:∃l,M.las[k]?=some l:={_,h_ hk};rw[uz,i_,hl]at b8;obtain⟨rfl,rfl⟩:=NK (n_ b8);have b9:M.las.take (k+1)=M.las.take k++[l]:=bx hl;show fB dT λH5 s5 e5=>?_;have e5:H5 T1=some (.tup [.str l.nm,.ref (Z.G (.lo k))]):=e5;have W:q8 P w K a H H5 M Z c:={X,λb o e n=>s5 _ _ (f4 b o e n)};show{T1,U () {aY.of e5,(),_,U () (au {_,U () (au {(),?_})})}};have dV:=W.at_ (r:=.lo k) (by simp only[cont,hl];rfl) (by simp);have cc:=W.at_ (r:=.iu k) (by simp only[cont,hl];rfl) (by simp);show fM dV T.bD T.bJ () () {Z.G (.iu k),(),.inl {_,.inl cc},U () {bf (Z.iv k) (.inr g),dA.k (k:=.inr g) cc,au ?_}};have cr:=s5 _ _ bQ;have d4:=s5 _ _ ba;show U () {(),U () (Ii (JS K M g ms l (yh M g f) H5 λsv=>[some (.ref (Z.G .hh)),some (.str g),some mv,some (.ref D),some (.ref an),some (.str l.nm),some (.ref (Z.G (.lo k))),some sv]) ?_ ?_)}
   ·intro σ H6 hj;have s6:am H5 H6:=by cases hj<;>assumption
    have ax:=s6 _ _ cr;have c0:=s6 _ _ d4;have a6:=s6 _ _ (s5 _ _ j);have f6:∀b o,H b=some o->b≠Z.G .ln->H6 b=some o:=λb o e n=>s6 _ _ (s5 _ _ (f4 b o e n));rcases hj with⟨-,rfl,hn,hx⟩|⟨s,⟨t,y⟩,-,rfl,p,d5⟩
    ·show U () {(),U () (cj (hN _ _ {S,f,_,_,_,f6,a6,ax,c0,I.kp (.of (s5.trans s6)),by rw[b9];show aa.skip hn hx,G_ bb,()}))}
    show U () {(),U () (bB (U () {.inl {(),_,aR.of ax},U () (rX p (aq (k:=0) ()) (rA ax (by rw[b_,mo];lia) ?_))}))};have a3:Kp H6 (aH H6 D (.lst ((yh M g f).map V.str++[.str t]))):=.lst ax;have f7:∀b o,H6 b=some o->b≠D->aH H6 D (.lst ((yh M g f).map V.str++[.str t])) b=some o:=cO;have c1:aH H6 D (.lst ((yh M g f).map V.str++[.str t])) D=some (.lst ((yh M g f++[t]).map V.str)):=by rw[ae,k_];rfl
    generalize aH H6 D (.lst ((yh M g f).map V.str++[.str t]))=H7 at a3 f7 c1⊢;have c2:=f7 _ _ c0 (p_ bt);have c3:=f7 _ _ a6 bz;show U () {.inl {(),_,aR.of c2},U () {ls (),λT2 c4=>(U () {T2,s,[.str l.nm],U () {(),aY.of ae,am.tseq (aj (am.refl _) c4) (a3.tq p),by simp,by rw[mo];simp,λz=>(nomatch z),λ_ T3 ec=>?_}})}};have s9:=aj (o:=.tup ([.str l.nm]++[.str t,.str y])) (aj (o:=.tup [.str l.nm]) (am.refl H7) c4) ec;have e9:aH (aH H7 T2 (.tup [.str l.nm])) T3 (.tup ([.str l.nm]++[.str t,.str y])) T3=some (.tup [.str l.nm,.str t,.str y]):=ae;generalize aH (aH H7 T2 (.tup [.str l.nm])) T3 (.tup ([.str l.nm]++[.str t,.str y]))=H9 at s9 e9⊢;have da:=s9 _ _ c2;show rA da (by rw[mo];lia) ?_;have kp:Kp H9 (aH H9 an (.lst (S++[.ref T3]))):=.lst da;show hN _ _ {S++[.ref T3],f++[(l.nm,t,y)],_,_,_,λb o e n=>by rw[ak (av e a8)];show s9 _ _ (f7 _ _ (f6 b o e n) (av e bl)),by rw[ak a9];show s9 _ _ c3,by rw[ak bt,Fw];show s9 _ _ c1,ae,xv (I.kp {λu xs e=>kp.1 _ _ (s9 _ _ (a3.1 _ _ ((s5.trans s6) _ _ e))),λu o e=>kp.2 _ _ (((Kp.of s9).2 _ _ (a3.2 _ _ ((Kp.of (s5.trans s6)).2 _ _ e))))}) (.cons {T3,(),kp.tq (aY.of e9)} .nil),by rw[b9];show aa.row d5,by rw[mu];show L_ bb,()}
   ·intro N' bc;have a5:u5 K H _ (c6 l g):=(X.g.seats k l hl).seat g;cases eo:c6 l g with|some r=>rw[eo]at a5;obtain⟨s,es,p⟩:=a5;rw[es];show cj (bc _ _ (.yes s r (am.refl _) () (W.kp.tq p) (.inl eo)))|none=>rw[eo]at a5;rw[show(bf (Z.iv k) (.inr g)).getD .non=.non from a5];have ed:=W.at_ (r:=.hh) () (by simp);show bB (iS ed () () (U () (U () (U () (U () {H,M,Z,c,k,l,g,mv,ms,D,yh M g f,(),W,hl,hg,hm.kp W.kp,dc,cr,λH' s' hx=>au (bc _ _ (.no s' () eo hx)),λs t y H' s' p ef=>au (bc _ _ (.yes s (t.nm,y) s' () p (.inr {eo,t,y,(),ef})))})))))
  ·rintro σ H4⟨S,f,v5,v6,v7,f4,j,bQ,ba,I,aa,bb,rfl⟩;rw[List.take_length]at aa;show{{j,by rw[gJ,b_];show e_ _},Z.G .ln,_,ep,j,?_};have sF:am H (aH H4 (Z.G .ln) (.dK (gU (M.las.map bE.nm) λi=>.ref (Z.G (.lo i))))):=λb o e=>by
    by_cases z:b=Z.G .ln
    ·rw[z,X.g.lays]at e;rw[z,ae];show e
    ·rw[ak z];show f4 b o e z
   have kp:Kp H4 (aH H4 (Z.G .ln) (.dK (gU (M.las.map bE.nm) λi=>.ref (Z.G (.lo i))))):={λu xs e=>by rw[ak λz=>by rw[z,j]at e;cases e];show e,λu o⟨o',e⟩=>{o',by rw[ak λz=>by rw[z,j]at e;cases e];show e}};show U () (q an S _ sF a8 (by rw[ak (p_ a9)];show ba) f (I.kp kp) aa (by lia))
end
def pA(cm:List (Str×List (Str×Str)))(g:Str)(c:List (Str×Str)):List (Str×List (Str×Str)):=if(cm.any λx=>decide (x.1=g))=true then cm.map (λx=>if x.1=g then(x.1,c)else x)else cm++[(g,c)]
def DR:(pA cm g ss).length<=cm.length+1:=by
 unfold pA
 split
 ·rw[b_];lia
 ·rw[mu];show e_ _
def DQ(h:x∈pA cm g c):x∈cm\/x.2=c:=by
 unfold pA at h
 split at h
 ·obtain⟨y,b,e⟩:=oi.mp h
  split at e
  ·rw[<-e];show .inr ()
  ·rw[<-e];show .inl b
 ·rcases List.mem_append.mp h with q|q
  ·show .inl q
  ·rw[List.mem_singleton.mp q];show .inr ()
theorem eQ.any(g:Str)(h:eQ K H dl cv cm):(cv.any λx=>decide (x.1=.inr g))=cm.any λx=>decide (x.1=g):=by induction h with|nil=>rfl|@cons _ y _ _ h _ b=>
  rw[D_,D_,b,h.1]
  congr 1
  by_cases e:y.1=g
  ·rw[ol e,ol (by rw[e])]
  ·rw[op e,op λz=>e (si z)]
def eQ.put(n:l≠dl)(d:H l=some (.lst c))(f:fK K H c i)(h:eQ K H dl cv cm):eQ K H dl (fA cv (.inr g) (.ref l)) (pA cm g i):=by
 unfold fA pA;rw[h.any g]
 split
 ·rename_i j;clear j
  induction h with|nil=>show .nil|@cons x y _ _ q r k=>
   show .cons ?_ k;obtain⟨h1,q⟩:=q
   by_cases e:y.1=g
   ·have b:x.1=.inr g:=by rw[h1,e]
    dsimp only;rw[md b,md e];show{h1,l,c,(),n,d,f}
   ·have b:¬x.1=.inr g:=λz=>e (by rw[h1]at z;show si z);dsimp only;rw[me b,me e];show(h1,q,)
 ·show Paired.snoc h {(),l,c,(),n,d,f}
def DS{cv:List (bZ×V)}{k:bZ}{v:V}{x:bZ×V}(h:x∈fA cv k v):x∈cv\/x.2=v:=by
 unfold fA at h
 split at h
 ·obtain⟨y,b,e⟩:=oi.mp h
  split at e
  ·rw[<-e];show .inr ()
  ·rw[<-e];show .inl b
 ·rcases List.mem_append.mp h with q|q
  ·show .inl q
  ·rw[List.mem_singleton.mp q];show .inr ()
def bU.some(h:bU K H iv ins)(hg:g∈ins.map (·.1)):(bf iv (.inr g)).isSome=true:=by induction h with|nil=>cases hg|@cons _ y _ _ h _ b=>
  by_cases e:y.1=g
  ·rw[cf (by rw[h.1,e])];rfl
  ·rw[bw (λz=>e (by rw[h.1]at z;show si z))];rw[o8]at hg;show b ((vu.mp hg).resolve_left λq=>e q.symm)
theorem yu{c:Type}:∀{xs:List c}{i:Nat}{x:c},xs[i]?=some x->xs.set i x=xs|[],_,_,h=>by cases h|y::r,0,x,h=>by rw[n_ h];rfl|y::r,i+1,x,h=>r_ (y::·) (yu (xs:=r) h)
def sN(M:bj)(g nm:Str):Bool:=M.las.any λl=>decide (l.nm=nm)&&(c6 l g).isSome
def cF(M:bj)(g:Str)(c:List (Str×Str×Str)):List (Str×Str):=c.filterMap λr=>if sN M g r.1=true then none else some r.2
def Bq{M:bj}(hn:(M.las.map bE.nm).Nodup){i j:Nat}{l c:bE}(hi:M.las[i]?=some l)(d:M.las[j]?=some c)(e:l.nm=c.nm):i=j:=by show(z7 (l:=M.las.map bE.nm) (by rw[b_];show(c_.mp hi).1) hn).mp ?_;rw[i_,i_,hi,d];show r_ some e
def uJ{M:bj}{g:Str}(hn:(M.las.map bE.nm).Nodup){i:Nat}{l:bE}(c:M.las[i]?=some l):sN M g l.nm=(c6 l g).isSome:=by unfold sN;cases e:c6 l g with|some r=>show On.mpr {l,g_ c,by rw[ol (),e];rfl}|none=>show OQ.mpr λf b z=>?_;obtain⟨j,d⟩:=nk.mp b;rw[o0]at z;have q:=Bq hn d c (pw z.1);rw[q,c]at d;rw[<-n_ d,e]at z;cases z.2
def wD{M:bj}{g:Str}{c:List (Str×Str×Str)}{r:Str×Str×Str}{b:Bool}(h:sN M g r.1=b):cF M g (c++[r])=cF M g c++if b=true then[]else[r.2]:=by unfold cF;rw[u2,t4,h];cases b<;>rfl
def xn{l:bE}{g:Str}:(c6 l g).isSome=true↔g∈l.ins.map (·.1):=by
 unfold c6;rw[N6]
 constructor
 ·intro h;obtain⟨x,b⟩:=vr.mp h;have c:=O4 b;show oi.mpr {x,N3 b,pw c}
 ·intro h;obtain⟨x,b,e⟩:=oi.mp h;show OO.mpr {x,b,ol e}
def zD{cm:List (Str×List (Str×Str))}{g c:Str}{j:List (Str×Str)}:dX (pA cm g j) c=if c=g then j else dX cm c:=by
 unfold pA
 split
 ·next h=>induction cm with|nil=>cases h|cons y r i=>
   by_cases e:y.1=g
   ·rw[o8,md e]
    by_cases b:c=g
    ·rw[md b];unfold dX;rw[s_ (by simp[e,b])];rfl
    ·rw[me b];have ne:¬y.1=c:=λz=>b (by rw[<-z,e]);have q:∀q:List (Str×List (Str×Str)),dX (q.map λx=>if x.1=g then(x.1,j)else x) c=dX q c:=λq=>by induction q with|nil=>rfl|cons z q k=>
       unfold dX at k⊢;rw[o8]
       by_cases d:z.1=c
       ·rw[me λw=>b (by rw[<-d,w]),s_ (by simp[d]),s_ (by simp[d])]
       ·rw[rr (by split<;>simp[d]),rr (by simp[d])];show k
     have l:=q r;unfold dX at l⊢;rw[rr (by simp[ne]),rr (by simp[ne])];show l
   ·rw[D_,op e,Bool.false_or]at h;have i:=i h;rw[o8,me e]
    by_cases f:y.1=c
    ·rw[me λz=>e (by rw[f,z])];unfold dX;rw[s_ (by simp[f]),s_ (by simp[f])]
    ·unfold dX at i⊢;rw[rr (by simp[f]),rr (by simp[f])];show i
 ·next h=>
  unfold dX;rw[OP]
  by_cases e:c=g
  ·subst e;rw[md (),OJ.mpr λx m z=>h (On.mpr (x,m,z,))];rw[s_ (by simp)];rfl
  ·rw[me e,rr (by simp[p_ e]),List.find?_nil,OD]
def yy(c:List (Str×Str×Str))(nm:Str):Option (Str×Str):=(c.find? λr=>decide (r.1=nm)).map (·.2)
def x8(g:Str)(c:List (Str×Str×Str))(l:bE):List (Str×Str×Str):=if(c6 l g).isSome=true then[]else(yy c l.nm).toList.map λr=>(g,r)
def xO(g:Str)(c:List (Str×Str×Str))(l:bE):bE:={l with ins:=l.ins++x8 g c l}
def oO{c:List (Str×Str×Str)}{r:Str×Str×Str}{nm:Str}:yy (c++[r]) nm=(yy c nm).or (if r.1=nm then some r.2 else none):=by unfold yy;rw[OP];cases c.find? λr=>decide (r.1=nm)with|some x=>rfl|none=>
  by_cases e:r.1=nm
  ·rw[md e,s_ (by simp[e])];rfl
  ·rw[me e,rr (by simp[e])];rfl
def tz{c:List (Str×Str×Str)}{nm:Str}(h:nm∉c.map (·.1)):yy c nm=none:=by unfold yy;rw[OJ.mpr λx b z=>h (oi.mpr {x,b,pw z})];rfl
def uH{g:Str}{c:List (Str×Str×Str)}{l:bE}(h:x8 g c l=[]):xO g c l=l:=by unfold xO;rw[h,q4]
def HG{g:Str}{c:List (Str×Str×Str)}{r:Str×Str×Str}{l:bE}(h:r.1≠l.nm):xO g (c++[r]) l=xO g c l:=by unfold xO x8;rw[oO,me h,OD]
def HF{g:Str}{ss:List (Str×Str×Str)}(l:bE):x8 g ss l=[]\/∃r,x8 g ss l=[(g,r)]/\g∉l.ins.map (·.1):=by unfold x8;cases e:(c6 l g).isSome with|true=>show .inl ()|false=>cases yy ss l.nm with|none=>show .inl ()|some r=>show .inr {r,(),λz=>by rw[xn.mpr z]at e;cases e}
structure iR(g:Str)(ss:List (Str×Str×Str))(M M':bj):Prop where
 p:M'.p=M.p
 salt:M'.salt=M.salt
 trs:M'.trs=M.trs
 las:M'.las=M.las.map (xO g ss)came:dX M'.came g=dX M.came g++cF M g ss
 cm:M'.came=(cF M g ss).foldl (λc r=>pA c g (dX c g++[r])) M.came
 oth:∀g',g'≠g->dX M'.came g'=dX M.came g'
def iR.refl(g:Str)(M:bj):iR g [] M M:={(),(),(),by have:xO g []=id:=funext λl=>uH (by unfold x8;split<;>rfl);rw[this,List.map_id],by rw[show cF M g []=[]from (),q4],(),λ_ _=>()}
def iR.names{g:Str}{d:List (Str×Str×Str)}{M c:bj}(h:iR g d M c):c.las.map bE.nm=M.las.map bE.nm:=by rw[h.las,wr];rfl
def jF.vis{g:Str}{i:List (Str×Str×Str)}{M d:bj}{c:Nat}(h:jF M c)(v:iR g i M d)(hg:xg g)(h1:∀x∈d.came,x.2.length<=10*c+4)(h2:d.came.length<=10*c+4):jF d (c+1):=by
 have j:=v.names;show{by rw[v.p];show h.p,by rw[j];show h.ln,by rw[v.trs];show h.tn,λl m=>?_,λt b=>?_,λx f=>by have:=h1 x f;lia,by rw[v.las,b_];show h.l4,by rw[v.trs];show h.tc,by lia,λt b=>by rw[v.trs]at b;show G_ (h.br t b)}
 ·rw[v.las]at m;obtain⟨l,hm,rfl⟩:=oi.mp m;have k:=h.la l hm;have own:∀k z,z∈l.S.pl k->k=cI "" ""\/∃t∈d.trs,t.home=l.nm/\∃y∈t.arms,k=cI t.nm y:=by rw[v.trs];show k.own
  rcases HF (g:=g) (ss:=i) l with e|⟨r,e,hn⟩
  ·rw[uH e];show{k.wd,by rw[v.p];show k.sl,by rw[v.p];show k.ok,G_ k.len,k.gs,k.nd,own}
  ·unfold xO;rw[e];show{k.wd,by rw[v.p];show k.sl,by rw[v.p];show k.ok,by change(_++[_]).length<=c+1;rw[mu];show L_ k.len,λx f=>?_,?_,own}
   ·rcases List.mem_append.mp f with q|q
    ·show k.gs x q
    ·rw[List.mem_singleton.mp q];show hg
   ·change((_++[(g,r)]).map (·.1)).Nodup;rw[k_,p5];show{k.nd,by simp,λx f z n e=>hn (by rw[<-show z=g from List.mem_singleton.mp n,<-e];show f)}
 ·rw[v.trs]at b;have k:=h.tr t b;show{k with hm:=by rw[j];show k.hm}
def iR.row{g:Str}{m:List (Str×Str×Str)}{M d:bj}(v:iR g m M d)(hn:(M.las.map bE.nm).Nodup){i:Nat}{l:bE}{r:Str×Str}{cm:List (Str×List (Str×Str))}(h:M.las[i]?=some l)(s:yy m l.nm=none){b:Bool}(o:(c6 l g).isSome=b)(hc:dX cm g=dX d.came g++if b=true then[]else[r])(t:∀f,f≠g->dX cm f=dX d.came f)(u:cm=(if b=true then[]else[r]).foldl (λc r=>pA c g (dX c g++[r])) d.came):iR g (m++[(l.nm,r)]) M {d.setL i {l with ins:=l.ins++if b=true then[]else[(g,r)]}with came:=cm}:=by
 show{v.p,v.salt,v.trs,?_,?_,?_,λf n=>(t f n).trans (v.oth f n)}
 ·show H_ λj=>?_;rw[i_];change(d.las.set i _)[j]?=_
  by_cases q:i=j
  ·subst q;rw[C_ (by rw[v.las,b_];show(c_.mp h).1),h];show r_ some ?_;unfold xO x8;rw[oO,s,md (),o];cases b<;>rfl
  ·rw[so q,v.las,i_];cases e:M.las[j]?with|none=>rfl|some k=>show r_ some (HG λz=>q (Bq hn h e z)).symm
 ·change dX cm g=_;rw[hc,v.came,wD (r:=(l.nm,r)) ((uJ hn h).trans o),z8]
 ·change cm=_;rw[wD (r:=(l.nm,r)) ((uJ hn h).trans o),Ha,<-v.cm,u]
def iR.one{g:Str}{c:List (Str×Str×Str)}{M M1 M2:bj}(h1:iR g c M M1)(h2:iR g c M M2):M1=M2:=by cases M1;cases M2;obtain⟨rfl,rfl,rfl,rfl,_,rfl,_⟩:=h1;obtain⟨rfl,rfl,rfl,rfl,_,rfl,_⟩:=h2;rfl
structure Mp(M:bj)(g:Str)(ms:List (Str×Int))(ls:List bE)(ss:List (Str×Str×Str)):Prop where
 nd:(ss.map (·.1)).Nodup
 nm:∀r∈ss,r.1∈ls.map bE.nm
 at_:∀(j:Nat)(r:Str×Str×Str),ss[j]?=some r->∃l∈ls,r.1=l.nm/\u8 M g ms l (yh M g (ss.take j)) r.2
 seat:∀l∈ls,c6 l g≠none->yy ss l.nm=c6 l g
 all:ls.filterMap (λl=>(yy ss l.nm).map λr=>(l.nm,r))=ss
def jW.ok{M:bj}{g:Str}{t:List (Str×Int)}{ls:List bE}{c:List (Str×Str×Str)}(h:jW M g t ls c):(ls.map bE.nm).Nodup->Mp M g t ls c:=by
 induction h with|nil=>showλ_=>{.nil,λr i=>(nomatch i),λj r e=>(nomatch e),λl A=>(nomatch A),()}|@skip ls c l h hn _ p=>
  intro hd;rw[k_,p5]at hd;have k:=p hd.1;have no:yy c l.nm=none:=tz λz=>by obtain⟨r,i,e⟩:=oi.mp z;show hd.2.2 _ (k.nm r i) l.nm (List.mem_singleton.mpr ()) e
  show{k.nd,λr i=>by rw[k_];show qx _ (k.nm r i),λj r e=>let⟨b,h1,h2⟩:=k.at_ j r e;{b,qx _ h1,h2},λb d m=>?_,?_}
  ·rcases List.mem_append.mp d with q|q
   ·show k.seat b q m
   ·rw[List.mem_singleton.mp q]at m;show absurd hn m
  ·rw[u2,k.all,t4,no];show q4 _|@row ls c l r h i p=>
  intro hd;rw[k_,p5]at hd;have k:=p hd.1;have ne:∀u∈ls.map bE.nm,u≠l.nm:=λu h' e=>hd.2.2 _ h' l.nm (List.mem_singleton.mpr ()) e;have no:yy c l.nm=none:=tz λz=>by obtain⟨r,i,e⟩:=oi.mp z;show ne _ (k.nm r i) e
  have oth:∀b∈ls,yy (c++[(l.nm,r)]) b.nm=yy c b.nm:=λb d=>by rw[oO,me λe=>ne _ (oi.mpr {b,d,()}) e.symm,OD]
  have own:yy (c++[(l.nm,r)]) l.nm=some r:=by rw[oO,no,md ()];rfl
  show{?_,λx s=>?_,λj x e=>?_,λb d m=>?_,?_}
  ·rw[k_,p5];show{k.nd,by simp,λx s z B e=>?_};obtain⟨y,C,rfl⟩:=oi.mp s;show ne _ (k.nm y C) (e.trans (List.mem_singleton.mp B))
  ·rw[k_];rcases List.mem_append.mp s with q|q
   ·show qx _ (k.nm x q)
   ·rw[List.mem_singleton.mp q];show pv _ (List.mem_singleton.mpr ())
  ·by_cases o:j<c.length
   ·rw[sD o]at e;rw[O0 (wh o)];obtain⟨b,h1,h2⟩:=k.at_ j x e;show{b,qx _ h1,h2}
   ·have o:c.length<=j:=OX o;rw[Es o]at e;have h0:j-c.length=0:=by cases q:j-c.length with|zero=>rfl|succ n=>rw[q]at e;cases e
    rw[h0]at e;obtain rfl:=n_ e;have D:j=c.length:=by lia
    rw[D,O0 (e_ _),l_ (e_ _)];show{l,pv _ (List.mem_singleton.mpr ()),(),i}
  ·rcases List.mem_append.mp d with q|q
   ·rw[oth b q];show k.seat b q m
   ·rw[List.mem_singleton.mp q]at m⊢;rw[own];rcases i with e|⟨e,_⟩
    ·show e.symm
    ·show absurd e m
  ·rw[u2,t4,own,show ls.filterMap (λb=>(yy (c++[(l.nm,r)]) b.nm).map λr=>(b.nm,r))=c from ?_]
   ·rfl
   ·show Eq.trans ?_ k.all;have v:∀f:bE->Option (Str×Str×Str),ls.filterMap f=(ls.map f).filterMap id:=λf=>by rw[List.filterMap_map];rfl
    rw[v,v,Nr λb d=>by rw[oth b d]]
inductive F5(P:Pa)(w:World)(K:O6)(a:fN)(vs:List V)(H:Hp)(Q:VK)(E:XK):Prop|mk(M:bj)(Z:ZS)(c:Nat)(g:Str)(mv:V)(ms:List (Str×Int))(_:vs=[.ref (Z.G .hh),.str g,mv])(_:bK P w K a H M Z c)(_:c<=63)(_:xg g)(_:qb K H ms mv)(_:ms.length<=8)(_:∀(r:Addr)(us:List V)(ss:List (Str×Str×Str))(M':bj)(Z':ZS)(H':Hp),jW M g ms M.las ss->iR g ss M M'->gh H M Z H' M' Z'->bK P w K a H' M' Z' (c+1)->H r=none->H' r=some (.lst us)->Z'.ds=Z.ds->eS K H' us ss->¬cZ M' Z' r->Q (.ref r) H')
inductive JD(P:Pa)(w:World)(K:O6)(a:fN)(H:Hp)(M:bj)(Z:ZS)(c:Nat)(g:Str)(mv:V)(r:Addr)(us:List V)(ss:List (Str×Str×Str))(k:Nat)(σ:St)(H':Hp):Prop|mk(M':bj)(Z':ZS)(v4 v5 v6 v7:Option V)(v:iR g (ss.take k) M M')(hG:bv P w K a H' M' Z')(etk:Z'.tk=Z.tk)(eow:Z'.ow=Z.ow)(eds:Z'.ds=Z.ds)(hcm:∀x∈M'.came,x.2.length<=10*c+k)(hcl:M'.came.length<=10*c+k)(st:gh H M Z H' M' Z')(nF:¬cZ M' Z' r)(hr:H' r=some (.lst us))(hs:eS K H' us ss)(e:σ=[some (.ref (Z.G .hh)),some (.str g),some mv,some (.ref r),v4,v5,v6,v7]):JD P w K a H M Z c g mv r us ss k σ H'
section
def pK(T:Txt K mg a):aP P w K mg base cU 10 a.de.x a.de.d ["self","guest","marks"] (F5 P w K a):=by
 show T.de.ok cJ λfx A outer s H vs Q E hr h=>?_
 ·obtain⟨M,Z,c,g,mv,ms,rfl,W,hc,hg,hm,eo,q⟩:=h;show{_,(af (bo 3 cJ.nd (aS (Y 0) T.ao T.bA.m ((iG (P:=P) (w:=w) T).mono (by decide)) hr T.bA.b .nil aQ (ac (Y 1) (ac (Y 2) O)))) (af (d6 qq () (cP K () (Y 3)) (fZ K () () (bu (sf 4 cJ.nd) (bu (sf 5 cJ.nd) (bu (sf 6 cJ.nd) fY)))) (af (bo 7 cJ.nd (cQ (b7 hr) (aC K () (Y 0)) (Y 4) (λ_ _=>()))) (ah (aN (og (mJ (b7 hr) (Y 1) (aC K () (Y 7))) ()) (af (jM (bp (ac (Y 5) (ac (Y 6) O))) (jN (aC K () (Y 7)) (Y 1) (ql (b7 hr)))) (ah (jM (aB Ak (ug (b7 hr) (aC K () (Y 0)) (Y 1) (bg O) {(),(),(),()}) (bg (ac (bp (ac (Y 5) (ac (Y 6) O))) O))) (jN (aC K () (Y 0)) (Y 1) (ql (b7 hr)))))) aF)))) (ah (az (Y 3))))),?_}
  show iS W.g.house () () (U () (U () {M,Z,c,g,mv,ms,(),W,hc,hg,hm,eo,λr us H1 s1 hr c2 ss aa hA c3=>au ?_}));have c4:=hA.ok W.ok.ln;have c3:us.length<=4:=by rw[Paired.length aa];show c3
  have er:¬cZ M Z r:=W.g.foot hr;show U () {r,(),{_,aR.of c2},?_};show gn (xs:=us) (JD P w K a H M Z c g mv r us ss) {M,Z,_,_,_,_,iR.refl g M,W.g.same s1,(),(),(),W.ok.cm,W.ok.cl,gh.of s1,er,c2,aa,()} (λk σ H' _ h=>by obtain⟨_,_,_,_,_,_,_,_,_,_,_,_,_,_,_,h,_⟩:=h;show aR.of h) ?_ ?_
  ·rintro k v σ H2 hv⟨M2,f,v4,v5,v6,v7,v2,F,a8,a9,ad,an,da,ap,X,as,L,rfl⟩N R B hN;have hk:k<us.length:=(c_.mp hv).1;obtain⟨⟨nm,t,y⟩,dc,b,rfl,hb⟩:=Paired.at_ L k v hv;obtain⟨l,ew,en,fy⟩:=c4.at_ k _ dc;obtain rfl:nm=l.nm:=en;obtain⟨i,hl⟩:=nk.mp ew;have bl:ss.take (k+1)=ss.take k++[(l.nm,t,y)]:=bx dc;have bt:yy (ss.take k) l.nm=none:=tz λz=>by have nd:=c4.nd;rw[<-t_ (k+1) ss,bl,k_,k_]at nd;show(p5.mp (p5.mp nd).1).2.2 _ z l.nm (List.mem_singleton.mpr ()) ()
   show{b,U () {hb,(),_,U () (au {_,U () (au {_,U () (au {(),?_})})})}};have I:M2.las[i]?=some l:=by rw[v2.las,i_,hl];show r_ some (uH (by unfold x8;rw[bt];split<;>rfl))
   have di:f.G .hh=Z.G .hh:=ap.hh;have dv:=F.house;have dT:=F.lays;have dV:bf (gU (M2.las.map bE.nm) λi=>V.ref (f.G (.lo i))) (.inr l.nm)=some (.ref (f.G (.lo i))):=sL (by rw[v2.names];show W.ok.ln) (by rw[i_,I];rfl);rw[di]at dv;show fM dv T.ao T.aK () () (U () (rG (.ref (f.G (.lo i))) (by rw[<-dV];show dA.k (k:=.inr l.nm) dT) (au ?_)));have d4:=F.layer I;have d5:=F.inside I;show U () (fM d4 T.bD T.bJ () () (rG (bf (f.iv i) (.inr g)) (dA.k (k:=.inr g) d5) (U () ?_)));have bz:=F.seats i _ I
   by_cases ba:g∈l.ins.map (·.1)
   ·rw[bz.some ba];have ey:(c6 l g).isSome=true:=xn.mpr ba;show cj (hN _ _ {M2,f,_,_,_,_,?_,F,a8,a9,ad,λx hx=>by have:=an x hx;lia,by lia,ap,X,as,L,()});have v3:=v2.row (r:=(t,y)) (cm:=M2.came) W.ok.ln hl bt ey (by rw[md (),q4]) (λ_ _=>()) ();rw[md (),q4]at v3;rw[bl];have e3:({M2.setL i {l with ins:=l.ins}with came:=M2.came}:bj)=M2:=by change{M2 with las:=M2.las.set i l}=M2;rw[yu I]
    show e3▸v3
   ·have ax:=bz.none ba;rw[ax];show bB (U () (U () {ls (),λT1 ez=>?_}));show fB ez λH3 s3 e3=>?_;have bQ:=F.same s3;have fH:(f.iv i).length<=100:=by rw[bz.len];have:=(W.ok.la l (g_ hl)).len;lia
    show fM (s3 _ _ d4) T.bD T.bJ () () (U () {f.G (.iu i),_,.inr g,(),(),s3 _ _ d5,by rw[mo];lia,?_});rw[pB _ ax];have J:bv P w K a (aH H3 (f.G (.iu i)) (.dK (f.iv i++[(.inr g,.ref T1)]))) (M2.setL i {l with ins:=l.ins++[(g,t,y)]}) {f with iv:=λj=>if j=i then f.iv i++[(.inr g,.ref T1)]else f.iv j}:=bQ.setIns (iv':=f.iv i++[(.inr g,.ref T1)]) (ins':=l.ins++[(g,t,y)]) I (Paired.snoc (bQ.seats i _ I) {(),T1,(),aY.of e3});have ea:=(c_.mp I).1;have a3:gh H3 M2 f (aH H3 (f.G (.iu i)) (.dK (f.iv i++[(.inr g,.ref T1)]))) (M2.setL i {l with ins:=l.ins++[(g,t,y)]}) {f with iv:=λj=>if j=i then f.iv i++[(.inr g,.ref T1)]else f.iv j}:=gh.put (show i<_ from ea) () (B_ ..) () () λx hx=>.inl hx;have b8:=bQ.imm (r:=.iu i) (by simp only[cont,I];rfl) (cO (o':=.dK (f.iv i++[(.inr g,.ref T1)])));have b9:=cO (x:=f.G (.iu i)) (o':=.dK (f.iv i++[(.inr g,.ref T1)])) _ _ (s3 _ _ as) λz=>X (.inl {.iu i,ea,z});have cc:¬cZ (M2.setL i {l with ins:=l.ins++[(g,t,y)]}) {f with iv:=λj=>if j=i then f.iv i++[(.inr g,.ref T1)]else f.iv j} r:=λz=>(a3.fp r z).elim X λz=>by rw[s3 _ _ as]at z;cases z
    have eG:=b8.kp.tq (K:=K) (aY.of e3);have bi:=(L.kp (.of s3)).kp b8.kp;generalize bb:M2.setL i {l with ins:=l.ins++[(g,t,y)]}=M4 at J a3 cc;generalize a5:({f with iv:=λj=>if j=i then f.iv i++[(.inr g,.ref T1)]else f.iv j}:ZS)=C at J a3 cc;have a6:C.G=f.G:=by rw[<-a5]
    have fm:C.cv=f.cv:=by rw[<-a5]
    have eb:C.tk=f.tk:=by rw[<-a5]
    have ec:C.ow=f.ow:=by rw[<-a5]
    have ed:C.ds=f.ds:=by rw[<-a5]
    have D:M4.came=M2.came:=by rw[<-bb]
    generalize aH H3 (f.G (.iu i)) (.dK (f.iv i++[(.inr g,.ref T1)]))=H4 at J a3 b8 b9 eG bi⊢;have cr:=J.house;rw[a6,di]at cr;have bc:=J.cams;rw[a6]at bc;show fM cr T.ao T.c7 () () {f.G .ci,(),.inl {_,.inl bc},U () {ls (),λl0 eH=>?_}};show fB eH λH5 s5 e5=>?_;show{bf C.cv (.inr g),dA.k (k:=.inr g) (s5 _ _ bc),_,(),U () {ls (),λS eN=>{ls (),λl1 ef=>?_}}};have s7:=aj (o:=.lst [.ref S]) (aj (o:=.tup [.str t,.str y]) (am.refl H5) eN) ef;have e7:aH (aH H5 S (.tup [.str t,.str y])) l1 (.lst [.ref S]) l1=some (.lst [.ref S]):=ae;have e6:aH (aH H5 S (.tup [.str t,.str y])) l1 (.lst [.ref S]) S=some (.tup [.str t,.str y]):=by rw[ak (av ae ef)];show ae
    generalize aH (aH H5 S (.tup [.str t,.str y])) l1 (.lst [.ref S])=H7 at s7 e6 e7⊢;have bh:=s5.trans s7;obtain⟨ll,p,u,eh,ev,e0,ei,fU⟩:∃ll p u,u=dX M4.came g/\(bf C.cv (.inr g)).getD (.ref l0)=.ref ll/\H7 ll=some (.lst p)/\fK K H7 p u/\u.length<=10*c+k:=by
     rcases J.came.find g with⟨e,e'⟩|⟨e1,e2,e,_,h2,h3,h4⟩
     ·show{l0,[],[],e'.symm,by rw[e];rfl,s7 _ _ e5,.nil,by simp}
     ·have h5:=h4;rw[D]at h5;have:=an _ h5;show{e1,e2,U () {by rw[e];rfl,bh _ _ h2,h3.kp (.of bh),by rw[D];show this}}
    have fo:p.length=u.length:=Paired.length ei;rw[ev];show{ll,l1,p,[.ref S],(),(),e0,e7,by rw[mo];simp;lia,λlp c0=>?_};have s8:=aj (o:=.lst (p++[.ref S])) bh c0;have e8:aH H7 lp (.lst (p++[.ref S])) lp=some (.lst (p++[.ref S])):=ae;have ej:fK K (aH H7 lp (.lst (p++[.ref S]))) (p++[.ref S]) (u++[(t,y)]):=fK.kp (Kp.new c0) (Paired.snoc ei {S,(),aY.of e6});have a7:H4 lp=none:=bh.free c0;generalize aH H7 lp (.lst (p++[.ref S]))=H8 at s8 e8 ej⊢;have c1:=J.same s8;have fv:C.cv.length<=10*c+k:=by have:=Paired.length J.came;rw[this,D];show da
    show fM (s8 _ _ cr) T.ao T.c7 () () (U () {f.G .ci,_,.inr g,(),(),s8 _ _ bc,by rw[mo];lia,?_});have e4:lp≠C.G .dl:=λz=>by rw[z,J.dees]at a7;cases a7
    have e9:bv P w K a (aH H8 (f.G .ci) (.dK (fA C.cv (.inr g) (.ref lp)))) {M4 with came:=pA M4.came g (u++[(t,y)])} {C with cv:=fA C.cv (.inr g) (.ref lp)}:=by rw[show f.G .ci=C.G .ci by rw[a6]];show c1.setCame (c1.came.put (g:=g) e4 e8 ej)
    have ek:=c1.imm (r:=.ci) () (cO (o':=.dK (fA C.cv (.inr g) (.ref lp))));rw[a6]at ek;have el:gh H4 M4 C (aH H8 (f.G .ci) (.dK (fA C.cv (.inr g) (.ref lp)))) {M4 with came:=pA M4.came g (u++[(t,y)])} {C with cv:=fA C.cv (.inr g) (.ref lp)}:=by
     show{(),λb o e n=>by rw[ak λz=>n (.inl {.ci,trivial,by rw[a6];show z})];show s8 b o e,λb z=>?_,λb z=>s8.free (l7 z),()};rcases z with z|z|⟨x,hx,e⟩
     ·show .inl (.inl z)
     ·show .inl (.inr (.inl z))
     ·rcases DS hx with q|q
      ·show .inl (.inr (.inr (x,q,e,)))
      ·rw[q]at e;cases e;show .inr a7
    have v9:iR g (ss.take (k+1)) M {M4 with came:=pA M4.came g (u++[(t,y)])}:=by
     rw[bl,<-bb];show v2.row (r:=(t,y)) W.ok.ln hl bt (b:=false) ?_ ?_ (λg' n=>?_) ?_
     ·cases e:(c6 l g).isSome with|false=>rfl|true=>show absurd (xn.mp e) ba
     ·rw[zD,md (),eh,<-bb];rfl
     ·rw[zD,me n]
     ·rw[eh,<-bb];rfl
    have fa:=(ap.trans (gh.of s3)).trans (a3.trans el);have fj:aH H8 (f.G .ci) (.dK (fA C.cv (.inr g) (.ref lp))) r=some (.lst us):=by rw[ak λz=>X (.inl {.ci,trivial,z})];show s8 _ _ b9
    show hN _ _ {_,{C with cv:=fA C.cv (.inr g) (.ref lp)},_,_,_,_,v9,e9,eb.trans a8,ec.trans a9,ed.trans ad,λx hx=>?_,?_,fa,λz=>(el.fp r z).elim cc (λz=>by rw[b9]at z;cases z),fj,(bi.kp (.of s8)).kp ek.kp,()}
    ·rcases DQ hx with q|q
     ·rw[D]at q;have:=an x q;lia
     ·rw[q,mu];simp;lia
    ·have:=DR (cm:=M4.came) (g:=g) (ss:=u++[(t,y)]);rw[D]at this;change(pA M4.came g (u++[(t,y)])).length<=_;rw[D];lia
  ·rintro σ H2⟨M2,f,v4,v5,v6,v7,v2,F,a8,a9,ad,an,da,ap,X,as,L,rfl⟩;rw[Paired.length aa,l_ (e_ _)]at v2;show U () (q r us ss M2 f H2 hA v2 ap {F,W.ok.vis v2 hg (λx hx=>by have:=an x hx;omega) (by omega),λj=>by rw[a8];have:=W.tk j;omega,λj=>by rw[a9];have:=W.ow j;omega,by rw[ad];have:=W.ds;omega} hr as ad L X)
end
inductive Gs(K:O6)(g:Addr)(vs:List V)(H:Hp)(Q:VK)(_E:XK):Prop|mk(d:Addr)(k:Str)(xs:List V)(_:vs=[.ref d])(_:aY K H d (.str k::xs))(_:(∃tk,PySem.W.nsIn K g k=some (some (.int ((xs.length:Int)+1) tk))))(_:Q .non H)
inductive Dy(K:O6)(vs:List V)(H:Hp)(Q:VK)(_E:XK):Prop|mk(t d:Addr)(l:Pb)(kvs:List (bZ×V))(_:vs=[.ref t,.ref d])(_:aY K H t (l.map V.str))(_:H d=some (.dK kvs))(_:(∀x∈l,Wd x/\(bf kvs (.inr x)).isSome=true))(_:l.Nodup)(_:l.length<=8)(_:∀H',am H H'->Q .non H')
inductive Dx(P:Pa)(w:World)(K:O6)(a:fN)(vs:List V)(H:Hp)(Q:VK)(_E:XK):Prop|mk(z:Int)(M:bj)(Z:ZS)(_:vs=[.int z,.int M.p,.ref (Z.G .ln)])(_:bv P w K a H M Z)(_:M.las.length<=4)(_:0<=z)(_:z<=M.p)(_:z∉M.las.map bE.sl)(_:∀H',am H H'->Q .non H')
inductive Dv(K:O6)(vs:List V)(H:Hp)(Q:VK)(_E:XK):Prop|mk(d ly tr ar sh:Addr)(ru:V)(x y:Str)(r:Ru)(ws l ss:Pb)(lk tk:List (bZ×V))(_:vs=[.ref d,.ref ly,.ref tr])(_:aY K H d [.str "trial",.str x,.str y,.ref ar,ru,.ref sh])(_:Wd x)(_:Wd y)(_:H ly=some (.dK lk))(_:H tr=some (.dK tk))(_:bf tk (.inr x)=none)(_:(bf lk (.inr y)).isSome=true)(_:aY K H ar (l.map V.str))(_:(∀w∈l,Wd w))(_:l.Nodup)(_:1<=l.length)(_:l.length<=4)(_:fG K H r ru)(_:r.hgt<=6)(_:r.cnt<=30)(_:jS ws r)(_:(∀w∈ws,Wd w))(_:ws.length<=3)(_:aY K H sh (ss.map V.str))(_:(∀x∈ss,Wd x/\(bf tk (.inr x)).isSome=true))(_:ss.Nodup)(_:ss.length<=8)(_:∀H',am H H'->Q .non H')
section
def vA(T:Txt K mg a)(f:w.params=a.pm):aP P w K mg base cU 1 a.ia.x a.ia.d ["deed"] (Gs K a.fH):=by
 show T.ia.ok vm λg A outer s H j Q E l h=>?_
 ·obtain⟨d,k,c,rfl,b,⟨tk,i⟩,q⟩:=h;show{_,(af (aN (PW.pt (eW (cu (aT K () (aA (fh K ()) (by rfl) T.bM L2.bd (ac (Y 0) (ac (kx () T.d8 L2.bX) O))) (λ_=>()))) (dJ (aD aX (aA (aI K ()) (by rfl) T.bC L2.aL (ac (Y 0) O)) ag (aG _))))) (ah cg) aF) (ah (aN (PW.pt (eW (cu (aT K () (aA (kJ K ()) (by rfl) T.bM L2.bd (ac (dP K (Y 0) ag) (ac (kx () T.Ef L2.uU) O))) (λ_=>()))) (dJ (aD D1 (GL K () (MV f T.AA) () T.Cp (dP K (Y 0) ag) {(),(),(),()}) (aA (aI K ()) (by rfl) T.bC L2.aL (ac (Y 0) O)) (aG _))))) (ah cg) aF))),?_}
  show U () {_,"tuple",_,true,(),.inr {d,U () {b,()}},gN (dk ()),true,(),cj ?_};show U () {_,U () {.inr {_,b,()},(),U () (kC (λh=>absurd h (by rw[o_];lia)) (λ_=>?_))}};show U () (rX b (aq (k:=0) ()) ?_);show{_,"str",_,true,(),.str k,gN (dk ()),true,(),cj ?_};show U () (rX b (aq (k:=0) ()) {k,U () {i,.inr {_,.int ((c.length:Int)+1),(),{tk,()},?_}}});show U () {_,U () {.inr {_,b,()},(),U () ?_}};have e:decide (V.int ((c.length:Int)+1)=V.int (((V.str k::c).length:Nat):Int))=true:=ol (by simp);rw[e];show q
def um(T:Txt K mg a):aP P w K mg base cU 5 a.gr.x a.gr.d ["thing","trials"] (Dy K):=by
 show T.gr.ok i9 λW A outer s H vs Q E X h=>?_
 ·obtain⟨t,d,l,B,rfl,b,hd,Z,C,h8,q⟩:=h;show{_,(af (aN (PW.pt (eW (cu (aT K () (aA (fh K ()) (by rfl) T.bM L2.bd (ac (Y 0) (ac (kx () T.d8 L2.bX) O))) (λ_=>()))) (dJ (aD rh (aA (aI K ()) (by rfl) T.bC L2.aL (ac (Y 0) O)) (cC T.xY ()) (aG _))))) (ah cg) aF) (ah (d6 qq () (GJ K () () T.zb (ac (Y 0) O)) (fZ K () () (bu (sf 2 i9.nd) (bu (sf 3 i9.nd) fY))) (af (aM (pc T.bP (dF T) X (ac (Y 3) (ac (Y 1) O)))) (ah (aN (aD (qv K ()) (Y 3) (gG (A7 K ()) (Y 0) iV (iU (Y 2))) (by with_unfolding_all rfl)) (ah cg) aF)))))),?_}
  show U () {_,"tuple",_,true,(),.inr {t,U () {b,()}},gN (dk ()),true,(),cj ?_};show U () {_,l.length,(),.inr {_,b,by simp},_,U () {(),U () (k9 (λh=>absurd h (by lia)) (λ_=>?_))}};show U () {t,U () {b,?_}};show E5 (n:=l.length) (λk j H'=>am H H'/\(Mn λD F=>j=[some (.ref t),some (.ref d),D,F])) {am.refl H,_,_,()} (λk j H' L h=>{_,.str l[k],am.tseq h.1 b,by rw[i_,h_ L];rfl}) ?_ ?_
  ·rintro k j m v H2 L⟨c,D,F,rfl⟩⟨r,x,G,rfl,rfl,y⟩;have y:=y _ (am.tseq c b);rw[i_]at y;obtain⟨z,M,rfl⟩:=Option.map_eq_some_iff.mp y;have I:=aj (o:=.tup [.int k,.str z]) c G;have N:aH m r (.tup [.int k,.str z]) r=some (.tup [.int k,.str z]):=ae;generalize aH m r (.tup [.int k,.str z])=H2 at I N⊢;show{r,U () {aY.of N,(),_,U () (au {_,U () (au {(),?_})})}};have f:=Z z (g_ M);show U () (U () {z,d,B,(),f.1,I _ _ hd,f.2,λH3 s3=>?_});have g:=I.trans s3;show U () (U () (U () (U () {t,U () {am.tseq g b,?_,λp hp=>?_}})))
   ·rintro⟨_,e⟩;rw[b_]at e;have e:(if(k:Int)<0 then((k:Int)+(l.length:Int)).toNat else min (k:Int).toNat l.length)=l.length:=e;rw[me (by lia)]at e;lia
   ·rw[AN _ (by lia)];show{p,U () {.inr (aY.of ae),(),?_,U () ?_}}
    ·rw[<-OG];show qj _
    ·rw[<-OG];have J:z∉l.take (k:Int).toNat:=λh=>by have:=C;rw[<-t_ k l,p5]at this;show this.2.2 z (by simpa using h) z (g_ (i:=0) (by rw[OI,Nat.add_zero];show M)) ()
     have e:ox (.str z) ((l.take (k:Int).toNat).map V.str)=false:=by cases R:ox (.str z) ((l.take (k:Int).toNat).map V.str)with|false=>rfl|true=>unfold ox at R;obtain⟨v,hv,e⟩:=On.mp R;obtain⟨u,S,rfl⟩:=oi.mp hv;have e:(u==z)=true:=e;rw[eq_of_beq e]at S;show absurd S J
     change if(if false=true then _ else ox (.str z) ((l.take (k:Int).toNat).map V.str))=true then _ else _
     rw[me nn,e];show cj {(g.trans (aj (am.refl _) hp)),_,_,()}
  ·rintro j m⟨c,D,F,rfl⟩;show{{_,am.tseq c b,by rw[b_]},q m c}
def ul(T:Txt K mg a):aP P w K mg base cU 3 a.gq.x a.gq.d ["thing","prime","layers"] (Dx P w K a):=by
 show T.gq.ok tG λL A outer s H S Q E N h=>?_
 ·obtain⟨z,M,Z,rfl,J,h4,h0,h1,hn,q⟩:=h;show{_,(af (aN (PW.pt (eW (cu (aT K () (pc T.eZ (gm T) N (ac (Y 0) O)) (λ_=>()))) (dJ (aD rh (Y 0) (Y 1) (aG _))))) (ah cg) aF) (ah (aN (aD (qv K ()) (Y 0) (Ai (P:=P) (w:=w) (rN jT ["layer"] [] [3] (ai jK) (ca 3) (GG (P:=P) (w:=w) (Y 2)) (λcl C s₀ H₀ ex=>{(lE jT ["layer"] 3),bR,(aC K () (Y 3))}))) (by with_unfolding_all rfl)) (ah cg) aF))),?_}
  show U () {z,(),h0,U () (cj ?_)};show U () (U () {z,M.p,(),(),U () (k9 (λh=>absurd h (by lia)) (λ_=>?_))});have g:=J.lays;show U () (U () {Z.G .ln,U () {g,λep=>?_}});showλD t=>?_;have nd:Z.G .ln≠D:=λz=>by rw[<-z,ae]at t;cases t
  have r:H D=none:=by rw[ak (p_ nd)]at t;show t
  show pX (n:=M.las.length) (λk c u=>(∀b o,H b=some o->b≠Z.G .ln->u b=some o)/\u (Z.G .ln)=some (dE P w (Z.G .ln) (gU (M.las.map bE.nm) λi=>.ref (Z.G (.lo i))) ep)/\u D=some (.lst c)/\c=((M.las.map bE.sl).take k).map V.int) {λb o e n=>by rw[ak (av e r),ak n];show e,by rw[ak nd,ae],ae,()} (λk c u v h=>{h.2.1,by rw[gJ,b_];show v}) ?_ ?_
  ·rintro k c R x W v⟨y,f,j,rfl⟩⟨rfl,B⟩;have I:=h_ v;rw[uz,i_,I]at B;have B:V.ref (Z.G (.lo k))=x:=n_ B;subst B;have m:=J.layer I;show au (iJ (bB (fM (y _ _ m (λz=>by rw[z,g]at m;cases m)) T.bD T.gL () () {j,by rw[b_,oD,mo];lia,lf v {λb o e n=>by rw[ak (av e r)];show y b o e n,by rw[ak nd];show f,ae,?_}})));rw[bx (l:=M.las.map bE.sl) (x:=(M.las[k]).sl) (by rw[i_,I];rfl),k_];rfl
  ·rintro c R⟨y,f,j,rfl⟩;show{{f,by rw[gJ,b_];show e_ _},Z.G .ln,_,ep,f,D,_,(),.inl (aR.of (by rw[ak (p_ nd)];show j)),(),ou _,_,(),?_};rw[l_ (by rw[b_];show e_ _)];change if(if false=true then _ else ox (.int z) ((M.las.map bE.sl).map V.int))=true then _ else _
   rw[me nn,Bv,op hn];show cj (q _ λb o e=>?_)
   by_cases F:b=Z.G .ln
   ·rw[F,g]at e;rw[F,ae];show e
   ·rw[ak F];show y b o e F
def uk(T:Txt K mg a):aP P w K mg base cU 12 a.gp.x a.gp.d ["deed","layers","trials"] (Dv K):=by
 show T.gp.ok tF λI A outer s H vs Q E f h=>?_
 ·obtain⟨d,J,tr,ar,sh,ru,x,y,r,L,l,M,lk,tk,rfl,g,N,R,k,i,j,m,n,h1,h2,h3,h4,o,p,t,u,v,z,B,C,D,F,q⟩:=h;show{_,(af (aM (pc T.hV (pG T) f (ac (dP K (Y 0) ag) (ac (Y 2) O)))) (af (aM (pc T.bP (dF T) f (ac (dP K (Y 0) ag) (ac (Y 1) O)))) (af (aM (pc T.ib (vC T) f (ac (dP K (Y 0) ag) O))) (af (aM (pc T.hU (vy T) f (ac (dP K (Y 0) ag) O))) (ah (aM (pc T.gr (um T) f (ac (dP K (Y 0) ag) (ac (Y 2) O))))))))),?_}
  show U () (rX g () (U () {x,tr,tk,(),N,i,j,λH1 G=>?_}));show U () (rX (am.tseq G g) () (U () {y,J,lk,(),R,G _ _ k,m,λH2 S=>?_}));have c:=G.trans S;show U () (rX (am.tseq c g) () {ar,l,(),am.tseq c n,h1,h2,h3,h4,λH3 V=>?_});have e:=c.trans V;show U () (rX (am.tseq e g) () {r,ru,L,(),o.kp (.of e),p,t,u,v,z,λH4 W=>?_});have b:=e.trans W;show U () (rX (am.tseq b g) () (U () {sh,tr,M,tk,(),am.tseq b B,b _ _ i,C,D,F,λX Z=>q X (b.trans Z)}))
end
inductive Dd|layer(nm:Str)(sl:Int)|trial(x:du)|share(t:du)(ns:Pg)|deal(t:du)(z:Int)(ws:Pg)|hold(l:bE)(z:Int)|pause(t:du)(b:Bool)|close(t:du)|bar(g:Str)(t:du)|visit(g:Str)(ms:List (Str×Int))
def Dd.clo:Dd->Bool|.share t _=>t.clo|.deal t _ _=>t.clo|.pause t _=>t.clo|.close t=>t.clo|_=>false
inductive jo(K:O6)(H:Hp)(M:bj):Dd->List V->Prop|layer{nm:Str}{sl:Int}(h1:Wd nm)(h2:nm∉M.las.map bE.nm)(h3:0<=sl/\sl<=M.p)(h4:sl∉M.las.map bE.sl)(h5:M.las.length<4):jo K H M (.layer nm sl) [.str "layer",.str nm,.int sl]|trial{x:du}{ar sh ra:Addr}{ws:Pb}(h1:HH M x)(h2:x.nm∉M.trs.map du.nm)(h3:aY K H ar (x.arms.map V.str))(h4:fG K H x.rule (.ref ra))(h5:x.rule.cnt<=30)(h6:jS ws x.rule)(h7:∀w∈ws,Wd w)(h8:ws.length<=3)(h9:aY K H sh (x.shuts.map V.str))(ha:∀s∈x.shuts,s∈M.trs.map du.nm)(hb:x.shuts.Nodup)(hc:x.pau=false)(hd:x.clo=false)(he:x.bar=[])(hf:M.trs.length<10):jo K H M (.trial x) [.str "trial",.str x.nm,.str x.home,.ref ar,.ref ra,.ref sh]|share{t:du}{ns:Pg}{nv:Addr}(h1:t∈M.trs)(h2:aY K H nv (ns.map V.int))(h3:ns.length=t.arms.length)(h4:∀x∈ns,0<=x):jo K H M (.share t ns) [.str "share",.str t.nm,.ref nv]|deal{t:du}{z:Int}{ws:Pg}{wv:Addr}(h1:t∈M.trs)(hz:0<=z/\z<=1000)(h2:aY K H wv (ws.map V.int))(h3:ws.length=t.arms.length)(h4:∀x∈ws,1<=x/\x<=cw):jo K H M (.deal t z ws) [.str "deal",.str t.nm,.int z,.ref wv]|hold{l:bE}{z:Int}(h1:l∈M.las)(h2:0<=z):jo K H M (.hold l z) [.str "hold",.str l.nm,.int z]|pause{t:du}(h1:t∈M.trs):jo K H M (.pause t true) [.str "pause",.str t.nm]|go{t:du}(h1:t∈M.trs):jo K H M (.pause t false) [.str "go",.str t.nm]|close{t:du}(h1:t∈M.trs):jo K H M (.close t) [.str "close",.str t.nm]|bar{g:Str}{t:du}(h1:xg g)(h2:t∈M.trs):jo K H M (.bar g t) [.str "bar",.str g,.str t.nm]|visit{g:Str}{mv:V}{ms:List (Str×Int)}(h1:xg g)(h2:qb K H ms mv)(h3:∀m∈ms,Wd m.1/\-cw<=m.2/\m.2<=cw)(h4:(ms.map Prod.fst).Nodup)(h5:ms.length<=8):jo K H M (.visit g ms) [.str "visit",.str g,mv]
theorem jo.kp(e:Kp H H')(h:jo K H M d c):jo K H' M d c:=by cases h with|layer h1 h2 h3 h4 b=>show .layer h1 h2 h3 h4 b|trial h1 h2 h3 h4 b f g i j k l hc hd m n=>show .trial h1 h2 (e.tq h3) (h4.kp e) b f g i (e.tq j) k l hc hd m n|share h1 h2 h3 h4=>show .share h1 (e.tq h2) h3 h4|deal h1 o h2 h3 h4=>show .deal h1 o (e.tq h2) h3 h4|hold h1 h2=>show .hold h1 h2|pause h1=>show .pause h1|go h1=>show .go h1|close h1=>show .close h1|bar h1 h2=>show .bar h1 h2|visit h1 h2 h3 h4 b=>show .visit h1 (h2.kp e) h3 h4 b
inductive yc(K:O6)(H:Hp)(many:Nat):Str->List V->Prop|share{p:Addr}{l:Pg}(h1:aY K H p (l.map V.int))(h2:∀i∈l,0<=i)(h3:l.length=many):yc K H many "share" [.ref p]|deal{z:Int}{p:Addr}{l:Pg}(hz:0<=z/\z<=1000)(h1:aY K H p (l.map V.int))(h2:∀i∈l,1<=i/\i<=cw)(h3:l.length=many):yc K H many "deal" [.int z,.ref p]|other{k:Str}(h1:k≠"share")(h2:k≠"deal"):yc K H many k []
inductive IP(P:Pa)(w:World)(K:O6)(a:fN)(vs:List V)(H:Hp)(Q:VK)(E:XK):Prop|mk(d:Addr)(M:bj)(Z:ZS)(c:Nat)(k:Str)(t:du)(xs:List V)(_:vs=[.ref d,.ref (Z.G .tn)])(_:aY K H d (.str k::.str t.nm::xs))(_:bv P w K a H M Z)(_:jF M c)(_:t∈M.trs)(_:yc K H t.arms.length k xs)(_:(t.clo=false->∀H',am H H'->Q .non H'))(_:(t.clo=true->∀H',am H H'->E (.ref a.q9) none H'))
section
def vz(T:Txt K mg a):aP P w K mg base (v8 P w) 5 a.fc.x a.fc.d ["deed","trials"] (IP P w K a):=by
 show T.fc.okE jI λF A outer s H N Q E n h=>?_
 ·obtain⟨d,M,Z,c,k,t,R,rfl,o,y,z,B,I,q,r⟩:=h;show{_,(af (aM (pc T.bP (dF T) n (ac (dP K (Y 0) ag) (ac (Y 1) O)))) (af (bo 2 jI.nd (cQ (b7 n) (Y 1) (dP K (Y 0) ag) (λ_ _=>()))) (af (bo 3 jI.nd (aA (aI K ()) (by rfl) T.bC L2.aL (ac (aC K () (Y 2)) O))) (af (aN (aD aX (dP K (Y 0) ag) aE (aG _)) (ah (aM (pc T.fE (sj T) n (ac (dP K (Y 0) ag) (ac (Y 3) O))))) (ah (aN (aD aX (dP K (Y 0) ag) aE (aG _)) (ah (aM (pc T.eM (qw T) n (ac (dP K (Y 0) ag) (ac (dP K (Y 0) ag) (ac (Y 3) O)))))) aF))) (ah (aN (aT K () (aC K () (Y 2)) (λ_=>())) (ah (yN T.wS () T.zg () yL (ac aE O))) aF)))))),?_}
  obtain⟨j,u⟩:=nk.mp B;have l:=z.tr t B;have C:=z.tget (Z:=Z) u;have J:=l.a4;show U () (rX o (aq (k:=1) ()) (U () {t.nm,Z.G .tn,_,(),l.wd,y.tris,by rw[C];rfl,λD e=>?_}));have g:=y.same e;have p:=g.trial u;obtain⟨v,-,-⟩:=g.trs j t u;show U () (U () (rX (am.tseq e o) (aq (k:=1) ()) (rG (.ref (Z.G (.tr j))) (by rw[<-C];show dA.k (k:=.inr t.nm) g.tris) (au ?_))));show fM p T.a0 T.fO () () {_,t.arms.length,(),.inr {_,v,by simp},au ?_};show U () (rX (am.tseq e o) (aq (k:=0) ()) {(),U () ?_});have f:=am.tseq e o;cases I with
 |share h1 h2 h3=>
   show ce ?_;show U () (rX f (aq (k:=2) ()) (U () {_,_,by rw[h3];rfl,am.tseq e h1,h2,by lia,λm i=>?_}));show fM (i _ _ p) T.a0 T.eF () () {t.clo,(),?_};cases b:t.clo
   ·show cj (q b m (e.trans i))
   ·show bB {ls (),r b m (e.trans i)}|deal L h1 h2 h3=>
   show wn ?_;show U () (rX f (aq (k:=0) ()) {(),U () (ce ?_)});show U () (rX f (aq (k:=2) ()) (U () (rX f (aq (k:=3) ()) (U () {_,_,_,by rw[h3];rfl,L,am.tseq e h1,h2,by lia,λm i=>?_}))));show fM (i _ _ p) T.a0 T.eF () () {t.clo,(),?_};cases b:t.clo
   ·show cj (q b m (e.trans i))
   ·show bB {ls (),r b m (e.trans i)}|other h1 h2=>
   show sH h1 ?_;show U () (rX f (aq (k:=0) ()) {(),U () (sH h2 ?_)});show fM p T.a0 T.eF () () {t.clo,(),?_};cases b:t.clo
   ·show cj (q b D e)
   ·show bB {ls (),r b D e}
end
inductive Gu(P:Pa)(w:World)(K:O6)(a:fN)(vs:List V)(H:Hp)(Q:VK)(E:XK):Prop|mk(dv:Addr)(M:bj)(Z:ZS)(c:Nat)(d:Dd)(xs:List V)(_:vs=[.ref dv,.int M.p,.ref (Z.G .ln),.ref (Z.G .tn)])(_:aY K H dv xs)(_:bv P w K a H M Z)(_:jF M c)(_:jo K H M d xs)(_:(d.clo=false->∀H',am H H'->Q .non H'))(_:(d.clo=true->∀H',am H H'->E (.ref a.q9) none H'))
section
def vB(T:Txt K mg a)(hw:w.params=a.pm):aP P w K mg base (v8 P w) 13 a.ff.x a.ff.d ["deed","prime","layers","trials"] (Gu P w K a):=by
 show T.ff.okE mZ λaa A outer s H vs Q E p h=>?_
 ·obtain⟨n,M,Z,c,d,xs,rfl,e,r,u,hD,q,C⟩:=h;show{_,(af (aM (pc T.ia (vA T hw) p (ac (Y 0) O))) (af (bo 4 mZ.nd (dP K (Y 0) ag)) (ah (aN (aD aX (Y 4) aE (aG _)) (af (aM (pc T.hV (pG T) p (ac (dP K (Y 0) ag) (ac (Y 2) O)))) (ah (aM (pc T.gq (ul T) p (ac (dP K (Y 0) ag) (ac (Y 1) (ac (Y 2) O))))))) (ah (aN (aD aX (Y 4) aE (aG _)) (ah (aM (pc T.gp (uk T) p (ac (Y 0) (ac (Y 2) (ac (Y 3) O)))))) (ah (aN (aD aX (Y 4) aE (aG _)) (af (aM (pc T.bP (dF T) p (ac (dP K (Y 0) ag) (ac (Y 2) O)))) (ah (aM (pc T.gw (ur T) p (ac (dP K (Y 0) ag) O))))) (ah (aN (aD aX (Y 4) aE (aG _)) (af (aM (pc T.cH (dS T) p (ac (dP K (Y 0) ag) O))) (ah (aM (pc T.bP (dF T) p (ac (dP K (Y 0) ag) (ac (Y 3) O)))))) (ah (aN (aD aX (Y 4) aE (aG _)) (af (aM (pc T.cH (dS T) p (ac (dP K (Y 0) ag) O))) (ah (aM (pc T.fe (lX T) p (ac (dP K (Y 0) ag) O))))) (ah (aM (bT ((vz T).mono (by decide)) p () T.fc.m T.fc.f.kp T.fc.b .nil iF (ac (Y 0) (ac (Y 3) O))))))))))))))))),?_}
  have v:∀t∈M.trs,(bf (gU (M.trs.map du.nm) λi=>V.ref (Z.G (.tr i))) (.inr t.nm)).isSome=true:=λt ht=>by obtain⟨j,S⟩:=nk.mp ht;rw[u.tget (Z:=Z) S];rfl
  have B:∀l∈M.las,(bf (gU (M.las.map bE.nm) λi=>V.ref (Z.G (.lo i))) (.inr l.nm)).isSome=true:=λl hl=>by obtain⟨j,S⟩:=nk.mp hl;rw[u.lget (Z:=Z) S];rfl
  cases hD with|@layer nm sl h1 h2 h3 h4 L=>show U () {n,_,_,(),e,T.qF,?_};show U () (rX e (aq (k:=0) ()) (au ?_));show U () {(),U () (ce ?_)};show U () (rX e (aq (k:=1) ()) (U () {_,Z.G .ln,_,(),h1,r.lays,l9 h2,λN o=>?_}));show U () (rX (am.tseq o e) (aq (k:=2) ()) (U () (U () {sl,M,Z,(),r.same o,by lia,h3.1,h3.2,h4,λD F=>q () D (o.trans F)})))|@trial x ar sh ra W h1 h2 h3 h4 L h6 h7 h8 h9 ha hb hc hd he hf=>show U () {n,_,_,(),e,T.qC,?_};show U () (rX e (aq (k:=0) ()) (au ?_));show U () {(),U () (wn ?_)};show U () {(),U () (ce ?_)};obtain⟨X,I,J⟩:=oi.mp h1.hm;show U () (U () (U () {n,Z.G .ln,Z.G .tn,ar,sh,.ref ra,x.nm,x.home,x.rule,W,x.arms,x.shuts,_,_,(),e,h1.wd,by rw[<-J];show(u.la X I).wd,r.lays,r.tris,l9 h2,by rw[<-J];show B X I,h3,h1.aw,h1.nd,h1.a1,h1.a4,h4,h1.hg,L,h6,h7,h8,h9,λy hy=>?_,hb,h1.s8,q ()}));obtain⟨z,R,ez⟩:=oi.mp (ha y hy);show{by rw[<-ez];show(u.tr z R).wd,by rw[<-ez];show v z R}|@hold l z h1 h2=>show U () {n,_,_,(),e,T.sA,?_};show U () (rX e (aq (k:=0) ()) (au ?_));(iterate 2 show U () {(),U () (wn ?_)});show U () {(),U () (ce ?_)};show U () (rX e (aq (k:=1) ()) (U () {_,Z.G .ln,_,(),(u.la l h1).wd,r.lays,B l h1,λN o=>?_}));show U () {n,_,2,_,(),(),am.tseq o e,aq (k:=2) (),_,(),h2,q () N o}|@bar g t h1 h2=>show U () {n,_,_,(),e,T.uE,?_};show U () (rX e (aq (k:=0) ()) (au ?_));(iterate 3 show U () {(),U () (wn ?_)});show U () {(),U () (ce ?_)};show U () (rX e (aq (k:=1) ()) {g,(),h1,λN o=>?_});show U () (rX (am.tseq o e) (aq (k:=2) ()) (U () {t.nm,Z.G .tn,_,(),(u.tr t h2).wd,o _ _ r.tris,v t h2,λD F=>q () D (o.trans F)}))|@visit g mv ms h1 h2 h3 h4 L=>show U () {n,_,_,(),e,T.qB,?_};show U () (rX e (aq (k:=0) ()) (au ?_));(iterate 4 show U () {(),U () (wn ?_)});show U () {(),U () (ce ?_)};show U () (rX e (aq (k:=1) ()) {g,(),h1,λN o=>?_});show U () (rX (am.tseq o e) (aq (k:=2) ()) {mv,ms,(),h2.kp (.of o),h3,h4,L,λD F=>q () D (o.trans F)})|@share t ns nv h1 h2 h3 h4=>show U () {n,_,_,(),e,T.qD,?_};show U () (rX e (aq (k:=0) ()) (au ?_));(iterate 5 show U () {(),U () (wn ?_)});show U () (U () {n,M,Z,c,_,t,_,(),e,r,u,h1,.share h2 h4 h3,q,C})|@deal t z W wv h1 R h2 h3 h4=>show U () {n,_,_,(),e,T.sB,?_};show U () (rX e (aq (k:=0) ()) (au ?_));(iterate 5 show U () {(),U () (wn ?_)});show U () (U () {n,M,Z,c,_,t,_,(),e,r,u,h1,.deal R h2 h4 h3,q,C})|@pause t h1=>show U () {n,_,_,(),e,T.qE,?_};show U () (rX e (aq (k:=0) ()) (au ?_));(iterate 5 show U () {(),U () (wn ?_)});show U () (U () {n,M,Z,c,_,t,_,(),e,r,u,h1,.other (by decide+kernel) (by decide+kernel),q,C})|@go t h1=>show U () {n,_,_,(),e,T.vK,?_};show U () (rX e (aq (k:=0) ()) (au ?_));(iterate 5 show U () {(),U () (wn ?_)});show U () (U () {n,M,Z,c,_,t,_,(),e,r,u,h1,.other (by decide+kernel) (by decide+kernel),q,C})|@close t h1=>show U () {n,_,_,(),e,T.qG,?_};show U () (rX e (aq (k:=0) ()) (au ?_));(iterate 5 show U () {(),U () (wn ?_)});show U () (U () {n,M,Z,c,_,t,_,(),e,r,u,h1,.other (by decide+kernel) (by decide+kernel),q,C})
end
def Fe(c:Pg)(n:Nat):∀i∈deal c n,0<=i:=λi hi=>by obtain⟨k,b⟩:=nk.mp hi;have:=(xT c n k).1;unfold gd at this;rw[pa,b]at this;show this
inductive eT(M:bj):Dd->bj->Prop|layer{nm:Str}{sl:Int}:eT M (.layer nm sl) (vU M nm sl)|trial{x:du}:eT M (.trial x) (vT M x)|share{t:du}{ns:Pg}{i:Nat}{l:bE}(hl:M.las[i]?=some l)(hh:l.nm=t.home)(hn:gW l.S (mU t.nm t.arms ns)<=((mV M.p l.S.oc).length:Int)):eT M (.share t ns) (kQ M i l t ns)|deal{t:du}{z:Int}{ws:Pg}{i:Nat}{l:bE}(hl:M.las[i]?=some l)(hh:l.nm=t.home)(hn:gW l.S (mU t.nm t.arms (deal ws z.toNat))<=((mV M.p l.S.oc).length:Int)):eT M (.deal t z ws) (kQ M i l t (deal ws z.toNat))|hold{l:bE}{z:Int}{i:Nat}(hl:M.las[i]?=some l)(hn:gW l.S [(ld,z)]<=((mV M.p l.S.oc).length:Int)):eT M (.hold l z) (Bw M i l z)|pause{t:du}{b:Bool}{j:Nat}(hj:M.trs[j]?=some t):eT M (.pause t b) (M.setT j {t with pau:=b})|close{t:du}{i j:Nat}{l:bE}(hj:M.trs[j]?=some t)(hl:M.las[i]?=some l)(hh:l.nm=t.home):eT M (.close t) (kQ (M.setT j {t with clo:=true}) i l {t with clo:=true} (lr t))|bar{g:Str}{t:du}{i j:Nat}{l:bE}(hj:M.trs[j]?=some t)(hl:M.las[i]?=some l)(hh:l.nm=t.home):eT M (.bar g t) (zJ M i j l t g)|visit{g:Str}{ms:List (Str×Int)}{ss:List (Str×Str×Str)}{M':bj}(ha:jW M g ms M.las ss)(h:iR g ss M M'):eT M (.visit g ms) M'
inductive Kq(M:bj):Dd->Prop|share{t:du}{ns:Pg}{i:Nat}{l:bE}(hl:M.las[i]?=some l)(hh:l.nm=t.home)(hn:((mV M.p l.S.oc).length:Int)<gW l.S (mU t.nm t.arms ns)):Kq M (.share t ns)|deal{t:du}{z:Int}{ws:Pg}{i:Nat}{l:bE}(hl:M.las[i]?=some l)(hh:l.nm=t.home)(hn:((mV M.p l.S.oc).length:Int)<gW l.S (mU t.nm t.arms (deal ws z.toNat))):Kq M (.deal t z ws)|hold{l:bE}{z:Int}{i:Nat}(hl:M.las[i]?=some l)(hn:((mV M.p l.S.oc).length:Int)<gW l.S [(ld,z)]):Kq M (.hold l z)
def jF.luniq{M:bj}{c:Nat}(h:jF M c){i j:Nat}{l u:bE}(hi:M.las[i]?=some l)(d:M.las[j]?=some u)(e:l.nm=u.nm):i=j/\l=u:=by have q:i=j:=(z7 (by rw[b_];show(c_.mp hi).1) h.ln).mp (by rw[i_,i_,hi,d];show r_ some e);show{q,?_};rw[q,d]at hi;show(n_ hi).symm
def jF.tidx{M:bj}{c:Nat}(h:jF M c){i j:Nat}{t:du}(hi:M.trs[i]?=some t)(d:M.trs[j]?=some t):i=j:=(z7 (by rw[b_];show(c_.mp hi).1) h.tn).mp (by rw[i_,i_,hi,d])
def eT.not{M i:bj}{c:Nat}{d:Dd}(h:jF M c)(n:eT M d i):¬Kq M d:=by intro r;cases n with
 |share g hh hn=>cases r with|share b e f=>obtain⟨_,rfl⟩:=h.luniq g b (hh.trans e.symm);omega
 |deal g hh hn=>cases r with|deal b e f=>obtain⟨_,rfl⟩:=h.luniq g b (hh.trans e.symm);omega
 |hold g hn=>cases r with|hold b f=>omega
 |layer=>cases r|trial=>cases r|pause=>cases r|close=>cases r|bar=>cases r|visit=>cases r
theorem eT.one{M M1 M2:bj}{c:Nat}{d:Dd}(h:jF M c)(n1:eT M d M1)(n2:eT M d M2):M1=M2:=by cases n1 with
 |layer=>cases n2 with|layer=>rfl
 |trial=>cases n2 with|trial=>rfl
 |share g hh hn=>cases n2 with|share b e i=>obtain⟨rfl,rfl⟩:=h.luniq g b (hh.trans e.symm);rfl
 |deal g hh hn=>cases n2 with|deal b e i=>obtain⟨rfl,rfl⟩:=h.luniq g b (hh.trans e.symm);rfl
 |hold g hn=>cases n2 with|hold b i=>obtain⟨rfl,_⟩:=h.luniq g b ();rfl
 |pause j=>cases n2 with|pause f=>rw[h.tidx j f]
 |close j g hh=>cases n2 with|close f b e=>obtain⟨rfl,rfl⟩:=h.luniq g b (hh.trans e.symm);rw[h.tidx j f]
 |bar j g hh=>cases n2 with|bar f b e=>obtain⟨rfl,rfl⟩:=h.luniq g b (hh.trans e.symm);rw[h.tidx j f]
 |visit n o=>cases n2 with|visit k m=>obtain rfl:=n.one h (λl q=>q) k;show o.one m
def r3(y:Str×Str×Str):List Str:=[y.1,y.2.1,y.2.2]
inductive oG(M:bj):Dd->List (List Str)->Prop|layer{nm:Str}{sl:Int}:oG M (.layer nm sl) []|trial{x:du}:oG M (.trial x) []|share{t:du}{ns:Pg}{i:Nat}{l:bE}(hl:M.las[i]?=some l)(hh:l.nm=t.home):oG M (.share t ns) (yQ l.ins (zr M l (cA l.S (mU t.nm t.arms ns))))|deal{t:du}{z:Int}{ws:Pg}{i:Nat}{l:bE}(hl:M.las[i]?=some l)(hh:l.nm=t.home):oG M (.deal t z ws) (yQ l.ins (zr M l (cA l.S (mU t.nm t.arms (deal ws z.toNat)))))|hold{l:bE}{z:Int}:oG M (.hold l z) []|pause{t:du}{b:Bool}:oG M (.pause t b) []|close{t:du}{i:Nat}{l:bE}(hl:M.las[i]?=some l)(hh:l.nm=t.home):oG M (.close t) (yQ l.ins (zr M l (cA l.S (mU t.nm t.arms (lr t)))))|bar{g:Str}{t:du}{i:Nat}{l:bE}(hl:M.las[i]?=some l)(hh:l.nm=t.home):oG M (.bar g t) (yQ l.ins (u3 l t g))|visit{g:Str}{ms:List (Str×Int)}{ss:List (Str×Str×Str)}(ha:jW M g ms M.las ss):oG M (.visit g ms) (ss.map r3)
theorem oG.one{M:bj}{c:Nat}{d:Dd}{a b:List (List Str)}(h:jF M c)(n1:oG M d a)(n2:oG M d b):a=b:=by cases n1 with
 |layer=>cases n2 with|layer=>rfl
 |trial=>cases n2 with|trial=>rfl
 |share g hh=>cases n2 with|share e f=>obtain⟨_,rfl⟩:=h.luniq g e (hh.trans f.symm);rfl
 |deal g hh=>cases n2 with|deal e f=>obtain⟨_,rfl⟩:=h.luniq g e (hh.trans f.symm);rfl
 |hold=>cases n2 with|hold=>rfl
 |pause=>cases n2 with|pause=>rfl
 |close g hh=>cases n2 with|close e f=>obtain⟨_,rfl⟩:=h.luniq g e (hh.trans f.symm);rfl
 |bar g hh=>cases n2 with|bar e f=>obtain⟨_,rfl⟩:=h.luniq g e (hh.trans f.symm);rfl
 |visit j=>cases n2 with|visit i=>obtain rfl:=j.one h (λl q=>q) i;rfl
def eS.rows{c:List V}{d:List (Str×Str×Str)}(h:eS K H c d):fi K H c (d.map r3):=by induction h with|nil=>show .nil|cons h _ b=>show .cons h b
structure FN(K:O6)(H':Hp)(M M':bj)(Z':ZS)(d:Dd)(r:Addr)(us:List V)(rs:List (List Str)):Prop where
 a:oG M d rs
 w:fi K H' us rs
 n:¬cZ M' Z' r
def Dd.adds:Dd->Bool|.layer _ _=>true|.trial _=>true|_=>false
def Dd.clo_adds{d:Dd}(h:d.clo=true):d.adds=false:=by cases d<;>first|rfl|cases h
inductive IZ(P:Pa)(w:World)(K:O6)(a:fN)(vs:List V)(H:Hp)(Q:VK)(E:XK):Prop|mk(M:bj)(Z:ZS)(c:Nat)(dv:Addr)(d:Dd)(xs:List V)(_:vs=[.ref (Z.G .hh),.ref dv])(_:bK P w K a H M Z c)(_:c<=63)(_:aY K H dv xs)(_:jo K H M d xs)(_:(∀(r:Addr)(us:List V)(rs:List (List Str))(M':bj)(Z':ZS)(H':Hp),eT M d M'->FN K H' M M' Z' d r us rs->gh H M Z H' M' Z'->bK P w K a H' M' Z' (c+1)->H r=none->H' r=some (.lst us)->Z'.ds=Z.ds->Q (.ref r) H'))(_:(d.adds=false->Kq M d->∀H',am H H'->E (.ref a.mC) none H'))
section
def vJ(T:Txt K mg a):aP P w K mg base (v8 P w) 11 a.gk.x a.gk.d ["self","deed"] (IZ P w K a):=by
 show T.gk.okE m4 λa3 A outer s H vs Q E p h=>?_
 ·obtain⟨M,Z,c,dv,d,xs,rfl,B,hc,u,hD,q,qe⟩:=h;show{_,(af (bo 2 m4.nd (dP K (Y 1) ag)) (af (aN (aD aX (Y 2) aE (aG _)) (ah (az (aS (Y 0) T.ao T.dg.m ((pM (P:=P) (w:=w) T).mono (by decide)) p T.dg.b .nil aQ (ac (dP K (Y 1) ag) (ac (dP K (Y 1) ag) O))))) aF) (af (aN (aD aX (Y 2) aE (aG _)) (ah (az (aS (Y 0) T.ao T.df.m ((pL (P:=P) (w:=w) T).mono (by decide)) p T.df.b .nil aQ (ac (dP K (Y 1) ag) (ac (mI T.Em ((sk (P:=P) (w:=w) T).mono (by decide)) p () T.G3 T.ee.b .nil aQ (ac (dP K (Y 1) ag) (ac (dP K (Y 1) ag) (ac (dP K (Y 1) ag) (ac (dP K (Y 1) ag) O))))) O))))) aF) (af (aN (aD aX (Y 2) aE (aG _)) (ah (az (aS (Y 0) T.ao T.bI.m ((gI (P:=P) (w:=w) T).mono (by decide)) p T.bI.b .nil iF (ac (dP K (Y 1) ag) (ac (dP K (Y 1) ag) O))))) aF) (af (aN (aD aX (Y 2) aE (aG _)) (ah (az (aS (Y 0) T.ao T.bI.m ((gI (P:=P) (w:=w) T).mono (by decide)) p T.bI.b .nil iF (ac (dP K (Y 1) ag) (ac (pc T.wV (D7 T) p (ac (dP K (Y 1) ag) (ac (dP K (Y 1) ag) O))) O))))) aF) (af (aN (aD aX (Y 2) aE (aG _)) (ah (az (aS (Y 0) T.ao T.dO.m ((qy (P:=P) (w:=w) T).mono (by decide)) p T.dO.b .nil iF (ac (dP K (Y 1) ag) (ac (dP K (Y 1) ag) O))))) aF) (af (aN (aD aX (Y 2) aE (aG _)) (ah (az (aS (Y 0) T.ao T.cp.m ((jC (P:=P) (w:=w) T).mono (by decide)) p T.cp.b .nil aQ (ac (dP K (Y 1) ag) (ac gT O))))) aF) (af (aN (aD aX (Y 2) aE (aG _)) (ah (az (aS (Y 0) T.ao T.cp.m ((jC (P:=P) (w:=w) T).mono (by decide)) p T.cp.b .nil aQ (ac (dP K (Y 1) ag) (ac gT O))))) aF) (af (aN (aD aX (Y 2) aE (aG _)) (ah (az (aS (Y 0) T.ao T.dh.m ((pN (P:=P) (w:=w) T).mono (by decide)) p T.dh.b .nil iF (ac (dP K (Y 1) ag) O)))) aF) (af (aN (aD aX (Y 2) aE (aG _)) (ah (az (aS (Y 0) T.ao T.eD.m ((sx (P:=P) (w:=w) T).mono (by decide)) p T.eD.b .nil aQ (ac (dP K (Y 1) ag) (ac (dP K (Y 1) ag) O))))) aF) (ah (az (aS (Y 0) T.ao T.de.m ((pK (P:=P) (w:=w) T).mono (by decide)) p T.de.b .nil aQ (ac (dP K (Y 1) ag) (ac (dP K (Y 1) ag) O))))))))))))))),?_}
  have I:=B.g.house;cases hD with|@layer nm sl h1 h2 h3 h4 W=>show U () (rX u (aq (k:=0) ()) (au ?_));show U () {(),U () (ce ?_)};show iS I () () (U () (rX u (aq (k:=1) ()) (U () (rX u (aq (k:=2) ()) {M,Z,c,nm,sl,(),B,h1,h2,h3,W,λr C H' st f p n v nf=>q r [] [] _ C H' .layer {.layer,.nil,nf} st (f.mono (t6 c)) p n v}))))|@trial x ar sh ra N h1 h2 h3 h4 W h6 h7 h8 h9 ha hb aa hd he hf=>
   show U () (rX u (aq (k:=0) ()) (au ?_));show U () {(),U () (wn ?_)};show U () {(),U () (ce ?_)};show iS I () () (U () (rX u (aq (k:=1) ()) ?_));show U () (rX u (aq (k:=2) ()) (U () (rX u (aq (k:=3) ()) (U () (rX u (aq (k:=4) ()) (U () (rX u (aq (k:=5) ()) (λt ty R ad a5=>?_))))))));have s2:am H (aH (aH H ty (.own t)) t (.ins a.fU ty [])):=λb o e=>by rw[ak (av e R),ak (av e ad)];show e
   have S:aH (aH H ty (.own t)) t (.ins a.fU ty []) t=some (.ins a.fU ty []):=ae;generalize aH (aH H ty (.own t)) t (.ins a.fU ty [])=H2 at s2 S⊢;show{t,ty,ar,ra,sh,x.home,(),S,λba H3 an f3 ap as=>{(),?_}};have s3:am H H3:=λb o e=>f3 b o (s2 b o e) (av e R);show{M,Z,c,H,t,ba,ty,ar,sh,.ref ra,x,(),B,s3,R,s2.free an,as,ap,h3,h4,h9,aa,hd,he,h1,h2,hf,λr C H' st f p n v nf=>q r [] [] _ C H' .trial {.trial,.nil,nf} st (f.mono (t6 c)) p n v}|@share t ns nv h1 h2 h3 h4=>obtain⟨j,D⟩:=nk.mp h1;obtain⟨i,l,y,hh⟩:=B.ok.home h1;show U () (rX u (aq (k:=0) ()) (au ?_));(iterate 2 show U () {(),U () (wn ?_)});show U () {(),U () (ce ?_)};show iS I () () (U () (rX u (aq (k:=1) ()) (U () (rX u (aq (k:=2) ()) {M,Z,c,i,j,l,t,nv,ns,(),B,hc,D,y,hh,.inr h2,h3,h4,λF r J C H' st f p n v L nf=>q r J _ _ C H' (.share y hh F) {.share y hh,L,nf} st f p n v,λG=>qe () (.share y hh G)}))))|@deal t z N wv h1 hz h2 h3 h4=>
   obtain⟨j,D⟩:=nk.mp h1;obtain⟨i,l,y,hh⟩:=B.ok.home h1;have V:=B.ok.tr t h1;have a1:=V.a1;have a4:=V.a4;show U () (rX u (aq (k:=0) ()) (au ?_));(iterate 3 show U () {(),U () (wn ?_)});show U () {(),U () (ce ?_)};show iS I () () (U () (rX u (aq (k:=1) ()) (U () (rX u (aq (k:=2) ()) (U () (rX u (aq (k:=3) ()) {z.toNat,wv,N,by rw[show((z.toNat:Nat):Int)=z by lia];rfl,by lia,h2,by lia,by lia,λtv H1 X R=>?_}))))));have ax:(deal N z.toNat).length=t.arms.length:=by rw[mm];show h3
   show{M,Z,c,i,j,l,t,tv,deal N z.toNat,(),B.same X,hc,D,y,hh,.inr (aY.of R),ax,Fe N z.toNat,λF r J C H' st f p n v L nf=>q r J _ _ C H' (.deal y hh F) {.deal y hh,L,nf} ((gh.of X).trans st) f (X.free p) n v,λG H' s'=>qe () (.deal y hh G) H' (X.trans s')}|@hold l z h1 h2=>obtain⟨i,y⟩:=nk.mp h1;show U () (rX u (aq (k:=0) ()) (au ?_));(iterate 4 show U () {(),U () (wn ?_)});show U () {(),U () (ce ?_)};show iS I () () (U () (rX u (aq (k:=1) ()) (U () (rX u (aq (k:=2) ()) {M,Z,c,i,l,z,(),B,hc,y,h2,λF r C H' st f p n v nf=>q r [] [] _ C H' (.hold y F) {.hold,.nil,nf} st f p n v,λG=>qe () (.hold y G)}))))|@pause t h1=>obtain⟨j,D⟩:=nk.mp h1;show U () (rX u (aq (k:=0) ()) (au ?_));(iterate 5 show U () {(),U () (wn ?_)});show U () {(),U () (ce ?_)};show iS I () () (U () (rX u (aq (k:=1) ()) {M,Z,c,j,t,true,(),B,D,λr H' st f p n nf=>q r [] [] _ Z H' (.pause D) {.pause,.nil,nf} st (f.mono (t6 c)) p n ()}))|@go t h1=>obtain⟨j,D⟩:=nk.mp h1;show U () (rX u (aq (k:=0) ()) (au ?_));(iterate 6 show U () {(),U () (wn ?_)});show U () {(),U () (ce ?_)};show iS I () () (U () (rX u (aq (k:=1) ()) {M,Z,c,j,t,false,(),B,D,λr H' st f p n nf=>q r [] [] _ Z H' (.pause D) {.pause,.nil,nf} st (f.mono (t6 c)) p n ()}))|@close t h1=>obtain⟨j,D⟩:=nk.mp h1;obtain⟨i,l,y,hh⟩:=B.ok.home h1;show U () (rX u (aq (k:=0) ()) (au ?_));(iterate 7 show U () {(),U () (wn ?_)});show U () {(),U () (ce ?_)};show iS I () () (U () (rX u (aq (k:=1) ()) {M,Z,c,i,j,l,t,(),B,hc,D,y,hh,λr J C H' st f p n v L nf=>q r J _ _ C H' (.close D y hh) {.close y hh,L,nf} st f p n v}))|@bar g t h1 h2=>obtain⟨j,D⟩:=nk.mp h2;obtain⟨i,l,y,hh⟩:=B.ok.home h2;show U () (rX u (aq (k:=0) ()) (au ?_));(iterate 8 show U () {(),U () (wn ?_)});show U () {(),U () (ce ?_)};show iS I () () (U () (rX u (aq (k:=1) ()) (U () (rX u (aq (k:=2) ()) {M,Z,c,i,j,l,t,g,(),B,hc,D,y,hh,h1,λr J C H' st f p n v L nf=>q r J _ _ C H' (.bar D y hh) {.bar y hh,L,nf} st f p n v}))))|@visit g mv ms h1 h2 h3 h4 W=>show U () (rX u (aq (k:=0) ()) (au ?_));(iterate 9 show U () {(),U () (wn ?_)});show iS I () () (U () (rX u (aq (k:=1) ()) (U () (rX u (aq (k:=2) ()) {M,Z,c,g,mv,ms,(),B,hc,h1,h2,W,λr J ss M' C H' ha vt st f p n v hs nf=>q r J _ M' C H' (.visit ha vt) {.visit ha,hs.rows,nf} st f p n v}))))
end
inductive Lg(P:Pa)(w:World)(K:O6)(a:fN)(vs:List V)(H:Hp)(Q:VK)(E:XK):Prop|mk(M:bj)(Z:ZS)(c:Nat)(dv:Addr)(d:Dd)(xs:List V)(_:vs=[.ref (Z.G .hh),.ref dv])(_:bK P w K a H M Z c)(_:c<=63)(_:aY K H dv xs)(_:jo K H M d xs)(_:(d.clo=false->∀(r:Addr)(us:List V)(rs:List (List Str))(M':bj)(Z':ZS)(H':Hp),eT M d M'->FN K H' M M' Z' d r us rs->gh H M Z H' M' Z'->bK P w K a H' M' Z' (c+1)->H r=none->H' r=some (.lst us)->Z'.ds=Z.ds++[.ref dv]->Q (.ref r) H'))(_:(d.adds=false->Kq M d->∀H',am H H'->E (.ref a.mC) none H'))(_:(d.clo=true->∀H',am H H'->E (.ref a.q9) none H'))
section
def rp(T:Txt K mg a)(W:w.params=a.pm):aP P w K mg base (v8 P w) 14 a.dn.x a.dn.d ["self","deed"] (Lg P w K a):=by
 show T.dn.okE rb λX A outer s H vs Q E o h=>?_
 ·obtain⟨M,Z,c,p,d,N,rfl,t,hc,R,S,q,qr,qc⟩:=h;show{_,(af (aM (bT ((vB T W).mono (by decide)) o () T.ff.m T.ff.f.kp T.ff.b .nil iF (ac (Y 1) (ac (aC K () (Y 0)) (ac (aC K () (Y 0)) (ac (aC K () (Y 0)) O)))))) (af (bo 2 rb.nd (aS (Y 0) T.ao T.gk.m ((vJ (P:=P) (w:=w) T).mono (by decide)) o T.gk.b .nil iF (ac (Y 1) O))) (af (aM (eO K () PySem.F.plainAttrs_list PySem.F.slot_list_append PySem.F.type_list_append cq (aC K () (Y 0)) (ac (Y 1) O))) (ah (az (Y 2)))))),?_}
  have v:=t.g.house;show U () (fM v T.ao T.bW () () (fM v T.ao T.aK () () (fM v T.ao T.aJ () () ?_)));show{p,M,Z,c,d,N,(),R,t.g,t.ok,S,λy H1 j=>?_,qc};show iS (j _ _ v) () () (U () {M,Z,c,p,d,N,(),t.same j,hc,am.tseq j R,S.kp (.of j),λr us rs B i V nx aw st e o C k=>?_,λha D H' s'=>qr ha D H' (j.trans s')});have u:=e.g.house;rw[st.hh]at u;have l:=e.g.dees;have I:=t.ds;show au (fM u T.ao T.je () () {.inl {(),_,aR.of l},U () (rA l (by rw[k,mo];lia) ?_)});have J:=e.g.deed (.ref p);have L:gh V B i (aH V (i.G .dl) (.lst (i.ds++[.ref p]))) B {i with ds:=i.ds++[.ref p]}:=gh.put (r:=.dl) trivial () () () () λx D=>.inl D;show U () (q y r us rs B {i with ds:=i.ds++[.ref p]} _ nx {aw.a,aw.w.kp (.lst l),aw.n} (((gh.of j).trans st).trans L) {J,e.ok,e.tk,e.ow,by change(i.ds++[_]).length<=c+1;rw[mu,k];show L_ I} (j.free o) ?_ (by change i.ds++[_]=_;rw[k]));rw[ak λz=>?_]
  ·show C
  ·rw[z,st.dd,j _ _ t.g.dees]at o;cases o
end
def HV:List Str:=["ann","ann7","7ann","an","nan","ana","anan","b","bob12","bob1","21bob","annbob"]
def Db:List Str:=["","ann7","0","guestofthishouse99"]
def DK(k:Nat):Nat:=if k<26 then 97+k else 22+k
def MU(z:Str)(i:Int)(c:Nat):Str:=Txt.slice z none (some i)++({#[c]}:Str)++Txt.slice z (some i) none
def Mz(x:Str):Bool:=decide (1<=x.length)&&decide (x.length<=24)&&x.cps.toList.all λc=>decide (c∈jQ.cps.toList)
def HZ(h:Mz x=true):xg x:=by unfold Mz at h;rw[o0,o0]at h;show{pw h.1.1,pw h.1.2,λc hc=>pw (M_.mp h.2 c hc)}
def DH:∀z∈HV,Mz z=true:=dk ()
def GX:∀z∈Db,∀i∈List.range 19,∀c∈List.range 36,Mz (MU z (i:Int) (DK c))=true:=dk ()
def BS:∀z∈Db,z.length<=18:=dk ()
def Je:∀c∈List.range 36,vS ("abcdefghijklmnopqrstuvwxyz0123456789":Str).cps.toList (c:Int)=some (DK c):=dk ()
def jg{zs:Pb}{i:Int}(h0:0<=i)(h1:i<(zs.length:Int)):∃z∈zs,vS (zs.map V.str) i=some (V.str z):=by obtain⟨v,b,hm⟩:=zL (xs:=zs.map V.str) h0 (by rw[b_];show h1);obtain⟨z,c,rfl⟩:=oi.mp hm;show(z,c,b,)
inductive Ds(vs:List V)(H:Hp)(Q:VK)(_E:XK):Prop|mk(k N:Int)(_:vs=[.int k,.int N])(_:∀(g:Str)H',am H H'->xg g->Q (.str g) H')
def lF(h:N c H):(jV.mk N R B C).nx c H:=h
def qK{c:TT}{t u:TS}{D:jV}{d:St}(h1:u D d H)(h2:∀N:St->Hp->Prop,N d H->FX c t ym {D with nx:=N} d H):zV (FX c t ym) u D d H:=h2 (u D) h1
def Mv:List Str:=["age","size","old"]
inductive Gb(K:O6)(h:Nat)(vs:List V)(H:Hp)(Q:VK)(_E:XK):Prop|mk(n i:Int)(_:vs=[.int n,.int i])(_:1<=i)(_:i<=(h:Int))(_:∀(r:Ru)(rv:V)H',am H H'->fG K H' r rv->jS Mv r->r.hgt<=h->r.cnt<2^h->Q rv H')
section
def wC(T:Txt K mg a):aP P w K mg base cU 1 a.oF.x a.oF.d ["_law_k","_law_number"] Ds:=by
 show T.oF.ok j8 λp A outer s H D Q E F h=>?_
 ·obtain⟨k,N,rfl,q⟩:=h;show{_,(af (aN (aD aX (aB aW (aB bL (Y 1) ag) ag) ag (aG _)) (af (bo 2 j8.nd (bg (ac aE (ac aE (ac aE (ac aE (ac aE (ac aE (ac aE (ac aE (ac aE (ac aE (ac aE (ac aE O)))))))))))))) (ah (az (iP K (Y 2) (aB aW (aB bV (Y 0) (aB bL (Y 1) ag)) ag))))) aF) (af (bo 3 j8.nd (iP K (bg (ac aE (ac aE (ac aE (ac aE O))))) (aB aW (Y 1) ag))) (af (bo 4 j8.nd (aB aW (aB bL (Y 1) ag) (aB bV (aA (aI K ()) (by rfl) T.bC L2.aL (ac (Y 3) O)) ag))) (af (bo 5 j8.nd (aB aW (aB bV (Y 0) (aB bL (Y 1) ag)) ag)) (ah (az (aB jd (aB jd (gG xl (Y 3) iV (iU (Y 4))) (yO AB aE (Y 5) (λ_ _=>()))) (gG xl (Y 3) (iU (Y 4)) iV)))))))),?_}
  have b1:=bN (k+N/160) (show(0:Int)<12 by decide);have b2:=bN (k+N/160) (show(0:Int)<36 by decide);have b3:=bN N (show(0:Int)<4 by decide)
  walk_at "a"
  show kC (λr=>?_) (λr=>?_)
  ·show{ls (),λl g=>?_}
   walk_at "a"
   obtain⟨z,f,i⟩:=jg (zs:=HV) b1.1 b1.2;show{l,_,_,U () {(),aR.of ae,i,q z _ (aj (am.refl H) g) (HZ (DH z f))}}
  ·show{ls (),λl g=>?_};obtain⟨z,f,i⟩:=jg (zs:=Db) b3.1 b3.2;have u:=BS z f;have n:=aj (o:=.lst [V.str "",V.str "ann7",V.str "0",V.str "guestofthishouse99"]) (am.refl H) g;have c:aH H l (.lst [V.str "",V.str "ann7",V.str "0",V.str "guestofthishouse99"]) l=some (.lst [V.str "",V.str "ann7",V.str "0",V.str "guestofthishouse99"]):=ae;generalize aH H l (.lst [V.str "",V.str "ann7",V.str "0",V.str "guestofthishouse99"])=G at n c⊢
   walk_at "a"
   show{l,_,_,U () {(),aR.of c,i,au ?_}}
   walk_at "a"
   show{_,z.length,(),{dq (by lia),()},_,U () {(),r2 {(by change(0:Int)<_;lia),au ?_}}};have v:=bN (N/4) (show(0:Int)<(z.length:Int)+1 by lia);have y:=Txt.slice_le z none (some (N/4%((z.length:Int)+1)));have B:=Txt.slice_le z (some (N/4%((z.length:Int)+1))) none;have hok:=GX z f (N/4%((z.length:Int)+1)).toNat (by rw[x3];lia) ((k+N/160)%36).toNat (by rw[x3];lia);have e:=Je ((k+N/160)%36).toNat (by rw[x3];lia);rw[show(((N/4%((z.length:Int)+1)).toNat:Nat):Int)=N/4%((z.length:Int)+1)by lia]at hok;rw[show((((k+N/160)%36).toNat:Nat):Int)=(k+N/160)%36 by lia]at e;generalize DK ((k+N/160)%36).toNat=j at*;have m:∀a b:Str,(a++b).length=a.length+b.length:=λa b=>by change(a.cps++b.cps).size=a.cps.size+b.cps.size;show Array.size_append
   have C:({#[j]}:Str).length=1:=()
   walk_at "a"
   show{dq (by lia),?_}
   walk_at "a"
   show{"abcdefghijklmnopqrstuvwxyz0123456789",_,j,(),(),dq (dk ()),e,_,({#[j]}:Str),(),(),dq (by lia),U () (U () {N/4%((z.length:Int)+1),(),z,(),dq (by lia),_,U () {(),dq (by rw[m];lia),q _ _ n (HZ hok)}})}
theorem y6(T:Txt K mg a):∀h:Nat,aP P w K mg base cU (h+1) a.eU.x a.eU.d ["_law_number","_law_high"] (Gb K h)
 |0=>by
  show T.eU.f.ok lM (λS H Q E h=>?_) (λW A outer s H S Q E e h=>?_)
  ·obtain⟨n,i,rfl,_⟩:=h;rfl
  ·obtain⟨n,i,rfl,h1,h2,_⟩:=h;lia|hh+1=>by
  have G:=y6 T hh;show T.eU.f.ok lM (λS H Q E h=>?_) (λW A outer s H S Q E e h=>?_)
  ·obtain⟨n,i,rfl,_⟩:=h;rfl
  ·obtain⟨n,i,rfl,h1,h2,q⟩:=h;show{_,(af (bo 2 lM.nd (aB aW (Y 0) ag)) (af (bo 3 lM.nd (aB bL (Y 0) ag)) (af (bo 4 lM.nd (iP K (bg (ac aE (ac aE (ac aE O)))) (aB aW (Y 3) ag))) (af (aN (aD aX (Y 2) ag (aG _)) (ah (az (bp (ac aE (ac (Y 4) O))))) aF) (af (aN (PW.pt (eW (aD aX (Y 2) ag (aG _)) (dJ (aD aX (Y 2) ag (aG _))))) (ah (az (bp (ac aE (ac (Y 4) (ac (aB f9 (aB aW (aB bL (Y 3) ag) ag) ag) O)))))) aF) (af (aN (PW.pt (qt (aD rh (Y 1) ag (aG _)) (mH (aD aX (Y 2) ag (aG _))))) (ah (az (bp (ac aE (ac (bT G e () T.eU.m T.eU.f.kp T.eU.b .nil aQ (ac (Y 3) (ac (aB f9 (Y 1) ag) O))) O))))) aF) (af (aN (PW.pt (qt (aD rh (Y 1) ag (aG _)) (mH (aD aX (Y 2) ag (aG _))))) (ah (az (bp (ac aE (ac (bT G e () T.eU.m T.eU.f.kp T.eU.b .nil aQ (ac (Y 3) (ac (aB f9 (Y 1) ag) O))) (ac (bT G e () T.eU.m T.eU.f.kp T.eU.b .nil aQ (ac (aB bL (Y 3) ag) (ac (aB f9 (Y 1) ag) O))) O)))))) aF) (af (aN (PW.pt (qt (aD rh (Y 1) ag (aG _)) (mH (aD aX (Y 2) ag (aG _))))) (ah (az (bp (ac aE (ac (bT G e () T.eU.m T.eU.f.kp T.eU.b .nil aQ (ac (Y 3) (ac (aB f9 (Y 1) ag) O))) (ac (bT G e () T.eU.m T.eU.f.kp T.eU.b .nil aQ (ac (aB bL (Y 3) ag) (ac (aB f9 (Y 1) ag) O))) O)))))) aF) (ah (az (bp (ac aE O)))))))))))),?_}
   have X:2<=2^(hh+1):=by rw[Oq];have:=Nat.two_pow_pos hh;lia
   walk_at "a"
   show{ls (),λl hl=>?_};have b3:=bN (n/10) (show(0:Int)<3 by decide);obtain⟨z,hz,ha⟩:=jg (zs:=Mv) b3.1 b3.2;have v:=aj (o:=.lst [V.str "age",V.str "size",V.str "old"]) (am.refl H) hl;have y:aH H l (.lst [V.str "age",V.str "size",V.str "old"]) l=some (.lst [V.str "age",V.str "size",V.str "old"]):=ae;generalize aH H l (.lst [V.str "age",V.str "size",V.str "old"])=H0 at v y⊢
   walk_at "a"
   show{l,_,_,U () {(),aR.of y,ha,au ?_}};clear y ha b3;show lF (qK ?_ (λN j=>?_))
   rotate_left
   ·walk_at "a"
    show kC (λe1=>?_) (λe1=>j);show U () {ls (),λt c=>q (.has z) _ _ (aj v c) (.has (aY.of ae)) (.has hz) (by change 1<=hh+1;lia) X}
   show qK ?_ (λN j=>?_)
   rotate_left
   ·have b9:=bN (n/10/3) (show(0:Int)<9 by decide);have ad:=qi;show U () {(),U () (kC (λ_=>bB ?_) (λ_=>(U () {(),U () (kC (λ_=>?_) (λ_=>j))})))}
    all_goals
     walk_at "a"
     show{ls (),λt c=>q (.least z _) _ _ (aj v c) (.least (aY.of ae)) (.least hz (by lia) (by lia)) (by change 1<=hh+1;lia) X}
   have Z:∀m:Nat,m<2^hh->m+1<2^(hh+1):=λm hm=>by rw[Oq];lia
   have u:∀m k:Nat,m<2^hh->k<2^hh->m+k+1<2^(hh+1):=λm k hm hk=>by rw[Oq];lia
   show qK ?_ (λN j=>?_)
   rotate_left
   ·show U () (r2 (U () (k9 (λg=>?_) (λ_=>cj j))));show U () {(),U () (kC (λ_=>?_) (λ_=>j))};show U () (U () (r2 {n/10,i-1,(),by lia,by lia,λr R H1 I e J h3 h4=>{ls (),λt c=>?_}}));show q (.not r) _ _ (aj (v.trans I) c) (.not (aY.of ae) (e.kp (.of (aj (am.refl _) c)))) (.not J) (by change r.hgt+1<=hh+1;lia) (Z _ h4)
   show qK ?_ (λN j=>?_)
   rotate_left
   ·show U () (r2 (U () (k9 (λg=>?_) (λ_=>cj j))));show U () {(),U () (kC (λ_=>?_) (λ_=>j))};show U () (U () (r2 {n/10,i-1,(),by lia,by lia,λr R H1 I e J h3 h4=>?_}));show U () (r2 {{by decide,by decide},U () (r2 {n/10/40,i-1,(),by lia,by lia,λp B H2 L C D aa F=>{ls (),λt c=>?_}})});have M:=aj (o:=.tup [.str "both",R,B]) (am.refl H2) c;show q (.both r p) _ _ (aj ((v.trans I).trans L) c) (.both (aY.of ae) ((e.kp (.of L)).kp (.of M)) (C.kp (.of M))) (.both J D) (by change max r.hgt p.hgt+1<=hh+1;lia) (by rw[show(Ru.both r p).cnt=r.cnt+p.cnt+1 from r_ (·+1) mu];show u _ _ h4 F)
   show qK ?_ (λN j=>?_)
   rotate_left
   ·show U () (r2 (U () (k9 (λg=>?_) (λ_=>cj j))));show U () {(),U () (kC (λ_=>?_) (λ_=>j))};show U () (U () (r2 {n/10,i-1,(),by lia,by lia,λr R H1 I e J h3 h4=>?_}));show U () (r2 {{by decide,by decide},U () (r2 {n/10/40,i-1,(),by lia,by lia,λp B H2 L C D aa F=>{ls (),λt c=>?_}})});have M:=aj (o:=.tup [.str "either",R,B]) (am.refl H2) c;show q (.either r p) _ _ (aj ((v.trans I).trans L) c) (.either (aY.of ae) ((e.kp (.of L)).kp (.of M)) (C.kp (.of M))) (.either J D) (by change max r.hgt p.hgt+1<=hh+1;lia) (by rw[show(Ru.either r p).cnt=r.cnt+p.cnt+1 from r_ (·+1) mu];show u _ _ h4 F)
   show{ls (),λt c=>q .any _ _ (aj v c) (.any (aY.of ae)) .any (by change 1<=hh+1;lia) X}
end
def Ao(m:Int)(j:Nat):Str:=Mv.getD (((j:Int)+m)%3).toNat "age"
def J9:List Str:=["marka","markb","markc","markd","marke"]
def GT(m:Int):Ao m=Ao (m%3):=by
 funext j
 unfold Ao;rw[Int.add_emod,Int.add_emod (j:Int) (m%3),Int.emod_emod]
def Ev(m:Int):(J9++(List.range 3).map (Ao m)).Nodup/\∀z∈J9++(List.range 3).map (Ao m),Iq z=true:=by rw[GT];have b:=bN m (show(0:Int)<3 by decide);rcases(by lia:m%3=0\/m%3=1\/m%3=2)with e|e|e<;>rw[e]<;>decide+kernel
def JJ{m:Int}{j:Nat}:vS [V.str "age",V.str "size",V.str "old"] ((0+(j:Int)+m)%3)=some (V.str (Ao m j)):=by rw[Int.zero_add];have b:=bN ((j:Int)+m) (show(0:Int)<3 by decide);unfold Ao;rcases(by lia:((j:Int)+m)%3=0\/((j:Int)+m)%3=1\/((j:Int)+m)%3=2)with e|e|e<;>rw[e]<;>rfl
def KP(K:O6)(H:Hp)(v:V)(m:Str×Int):Prop:=∃b,v=.ref b/\aY K H b [.str m.1,.int m.2]
def rq(e:Kp H H')(h:Paired (KP K H) c d):Paired (KP K H') c d:=Paired.mapP h λv m⟨b,h1,h2⟩=>{b,h1,e.tq h2}
def LE{a:Addr}{c:List V}{d:List (Str×Int)}(h:Paired (KP K H) c d)(e:aY K H a c):qb K H d (.ref a):={a,c,(),e,Paired.length h,λi m hm=>by obtain⟨v,h1,b,rfl,h2⟩:=ue h i m hm;show(b,h1,h2,)}
def mw{ns:Pg}{i:Int}(h0:0<=i)(h1:i<(ns.length:Int)):∃z∈ns,vS (ns.map V.int) i=some (V.int z):=by obtain⟨v,b,hm⟩:=zL (xs:=ns.map V.int) h0 (by rw[b_];show h1);obtain⟨z,c,rfl⟩:=oi.mp hm;show(z,c,b,)
def Bx:List (Str×Int):=[("marka",-2),("markb",-1),("markc",0),("markd",1),("marke",2)]
def E7:∀j∈List.range 5,vS ("abcde":Str).cps.toList (0+(j:Int))=some (97+j)/\Bx[j]?=some (("mark":Str)++({#[97+j]}:Str),0+(j:Int)-2):=dk ()
inductive Do(K:O6)(vs:List V)(H:Hp)(Q:VK)(_E:XK):Prop|mk(n:Int)(_:vs=[.int n])(_:∀(t:Addr)(ms:List (Str×Int))H',am H H'->qb K H' ms (.ref t)->(∀m∈ms,Wd m.1/\-cw<=m.2/\m.2<=cw)->(ms.map Prod.fst).Nodup->ms.length<=8->Q (.ref t) H')
section
def Ck(T:Txt K mg a):aP P w K mg base cU 2 a.qY.x a.qY.d ["_law_number"] (Do K):=by
 show T.qY.ok j7 λbh A outer s H p Q E hr h=>?_
 ·obtain⟨n,rfl,q⟩:=h;show{_,(af (bo 1 j7.nd (bg O)) (af (d6 qq () (dQ () T.fC (ac ag O)) (sf 2 j7.nd) (ah (aN (aD aX (aB aW (aB bL (Y 0) (iP K (bg (ac ag (ac ag (ac ag O)))) (Y 2))) ag) ag (aG _)) (af (bo 3 j7.nd (iP K (bg (ac aE (ac aE (ac aE O)))) (aB aW (aB bV (Y 2) (aB bL (Y 0) ag)) ag))) (ah (aM (eO K () PySem.F.plainAttrs_list PySem.F.slot_list_append PySem.F.type_list_append cq (Y 1) (ac (bp (ac (Y 3) (ac (aB f9 (aB aW (aB bL (Y 0) (iP K (bg (ac ag (ac ag (ac ag O)))) (Y 2))) ag) ag) O))) O))))) aF))) (af (aN (aD aX (aB aW (aB bL (Y 0) ag) ag) ag (aG _)) (ah (bo 1 j7.nd (aB Ak (rN vb [] [2] [2] (ai t9) (ca 2) (dQ () T.fC (ac ag O)) (λcl C s₀ H₀ ex=>{(lE vb [] 2),bR,(bp (ac (aB jd aE (yO AB aE (Y 2) (λ_ _=>()))) (ac (aB f9 (Y 2) ag) O)))})) (Y 1)))) aF) (ah (az (b0 (fg K ()) (by rfl) T.d8 L2.bX (ac (Y 1) O))))))),?_}
  show{ls (),λl hl=>?_};have s0:=aj (o:=.lst []) (am.refl H) hl;show au {3,(),by lia,by lia,?_};show mQ (lo:=0) (n:=3) (λi R H'=>am H H'/\(Mn λ(g:List (Str×Int))(p:List V)=>An5 (H' l=some (.lst p)) (Paired (KP K H') p g) ((g.map (·.1)).Sublist ((List.range i).map (Ao (n/8)))) ((∀m∈g,-100<=m.2/\m.2<=100)) (Mn λS W=>R=[some (.int n),some (.ref l),S,W]))) {s0,[],[],ae,.nil,List.nil_sublist _,(λm hm=>nomatch hm),_,_,()} ?_ ?_
  ·rintro i R X hi⟨s1,g,p,Z,y,b,hb,S,W,rfl⟩;show au ?_
   walk_at "a"
   show{ls (),λl1 ax=>?_};have f:=aj (o:=.lst [V.int 1,V.int 2,V.int 4]) (am.refl X) ax;have r:aH X l1 (.lst [V.int 1,V.int 2,V.int 4]) l1=some (.lst [V.int 1,V.int 2,V.int 4]):=ae;generalize aH X l1 (.lst [V.int 1,V.int 2,V.int 4])=G at f r⊢;obtain⟨d,hd,ha⟩:=mw (ns:=[1,2,4]) (i:=0+(i:Int)) (by lia) (by change _<(3:Int);lia);have bi:d=1\/d=2\/d=4:=by simpa using hd
   show U () {l1,_,_,U () {(),aR.of r,ha,_,U () {(),{by lia,by lia},_,U () {(),(show(0:Int)<2 by decide),(),U () ?_}}}};show kC (λ_=>?_) (λ_=>?_)
   ·show{ls (),λl2 a3=>?_};have I:=aj (o:=.lst [V.str "age",V.str "size",V.str "old"]) (am.refl G) a3;have u:aH G l2 (.lst [V.str "age",V.str "size",V.str "old"]) l2=some (.lst [V.str "age",V.str "size",V.str "old"]):=ae;generalize aH G l2 (.lst [V.str "age",V.str "size",V.str "old"])=H3 at I u⊢
    walk_at "a"
    show{l2,_,_,U () {(),aR.of u,JJ,au ?_}};have a5:=I _ _ (f _ _ Z);show U () {.inl {(),_,aR.of a5},U () (U () {ls (),λl3 a6=>?_})};have s4:=aj (o:=.lst [V.int 24,V.int 240,V.int 2400]) (am.refl H3) a6;have v:aH H3 l3 (.lst [V.int 24,V.int 240,V.int 2400]) l3=some (.lst [V.int 24,V.int 240,V.int 2400]):=ae;generalize aH H3 l3 (.lst [V.int 24,V.int 240,V.int 2400])=H4 at s4 v⊢;obtain⟨d2,a7,a8⟩:=mw (ns:=[24,240,2400]) (i:=0+(i:Int)) (by lia) (by change _<(3:Int);lia);have bc:d2=24\/d2=240\/d2=2400:=by simpa using a7
    have bl:=bN (n/d2) (show(0:Int)<10 by decide);show U () {l3,_,_,U () {(),aR.of v,a8,_,U () {(),{by lia,by lia},_,U () {(),(show(0:Int)<10 by decide),_,U () {(),ls (),λt ht=>?_}}}}};have s5:=aj (o:=.tup [.str (Ao (n/8) i),.int (n/d2%10-5)]) (am.refl H4) ht;have aa:aH H4 t (.tup [.str (Ao (n/8) i),.int (n/d2%10-5)]) t=some (.tup [.str (Ao (n/8) i),.int (n/d2%10-5)]):=ae;have s6:am X (aH H4 t (.tup [.str (Ao (n/8) i),.int (n/d2%10-5)])):=((f.trans I).trans s4).trans s5;generalize aH H4 t (.tup [.str (Ao (n/8) i),.int (n/d2%10-5)])=H5 at s6 aa⊢;have ad:=s6 _ _ Z;have a9:=Paired.length y;have J:=b.length_le;rw[b_,b_,rd]at J;show rA ad (by rw[mo];lia) {bG (s1.trans s6) hl,g++[(Ao (n/8) i,n/d2%10-5)],_,ae,?_,?_,λm hm=>?_,_,_,()}
    ·show rq (.lst ad) (Paired.snoc (rq (.of s6) y) {t,(),aY.of aa})
    ·rw[k_,NQ,k_];show b.append (OR _)
    ·rcases List.mem_append.mp hm with z|z
     ·show hb m z
     ·rw[List.mem_singleton.mp z];change-100<=n/d2%10-5/\n/d2%10-5<=100;lia
   ·show{s1.trans f,g,p,f _ _ Z,rq (.of f) y,?_,hb,_,_,()};rw[NQ,k_];show b.trans (List.sublist_append_left _ _)
  ·rintro R X⟨s1,g,p,Z,y,b,hb,S,W,rfl⟩
   walk_at "a"
   show Ii (λR H'=>am H H'/\(Ex3 λ(l':Addr)(g:List (Str×Int))(p:List V)=>An5 (H' l'=some (.lst p)) (Paired (KP K H') p g) ((g.map (·.1)).Sublist (J9++(List.range 3).map (Ao (n/8)))) ((∀m∈g,-100<=m.2/\m.2<=100)) (Mn λS W=>R=[some (.int n),some (.ref l'),S,W]))) ?A (λN hJ=>?B)
   case B=>
    show kC (λ_=>?_) (λ_=>hJ _ _ {s1,l,g,p,Z,y,b.trans (List.sublist_append_right _ _),hb,_,_,()});show{5,(),by lia,by lia,λD hD=>?_};show fb (K:=K) (lo:=0) (n:=5) (λj k H'=>am X H'/\H' D=some (.lst k)/\Paired (KP K H') k (Bx.take j)) {aj (am.refl _) hD,ae,.nil} ?_ ?_
    ·rintro j k G hj⟨f,L,c⟩;obtain⟨e1,e2⟩:=E7 j (x3.mpr hj);have M:=Paired.length c;rw[oD]at M;show au (iJ (bB ?_));show U () {"abcde",_,97+j,(),(),dq (dk ()),e1,"mark",({#[97+j]}:Str),(),(),dq (show 4+1<=65536 by decide),U () (r2 {ls (),λt ht=>?_})};have I:=aj (o:=.tup [.str (("mark":Str)++({#[97+j]}:Str)),.int (0+(j:Int)-2)]) (am.refl G) ht;have an:=I _ _ L;show{an,by rw[mo];lia,lf hj {bG (f.trans I) hD,ae,?_}};rw[bx e2];show rq (.lst an) (Paired.snoc (rq (.of I) c) {t,(),aY.of ae})
    ·rintro k G⟨f,L,c⟩;have M:=Paired.length c;have a9:=Paired.length y;have J:=b.length_le;rw[b_,b_,rd]at J;show U () {D,l,_,U () {(),L,f _ _ Z,by rw[mo];have:k.length=5:=M;lia,λl' ap=>au (hJ _ _ {aj (s1.trans f) ap,l',Bx++g,_,ae,rq (.new ap) (xv c (rq (.of f) y)),?_,λm hm=>?_,_,_,()})}}
     ·rw[k_];show(OR _).append b
     ·rcases List.mem_append.mp hm with z|z
      ·show(by decide:∀m∈Bx,-100<=m.2/\m.2<=100) m z
      ·show hb m z
   case A=>rintro R G⟨f,l',ba,bt,bb,c,e,as,S,W,rfl⟩;show U () {l',U () (.inl {aR.of bb,λt ht=>?_})};obtain⟨m1,m2⟩:=Ev (n/8);have bz:=qi;show q t ba _ (aj f ht) (LE (rq (.new ht) c) (aY.of ae)) (λm hm=>{AY (m2 _ (e.subset (oi.mpr {m,hm,()}))),by have:=as m hm;lia,by have:=as m hm;lia}) (e.nodup m1) (by have:=e.length_le;rw[b_]at this;show this)
end
def qV(p:Nat):Prop:=p∈[2,3,5,7,11,13,17,31,61,97]
def qV.le{p:Nat}(h:qV p):2<=p/\p<=97:=(by decide:∀p∈[2,3,5,7,11,13,17,31,61,97],2<=p/\p<=97) p h
structure yb where
 pl:Addr
 L:Addr
 T:Addr
def AV(K:O6)(H:Hp)(v:V)(t:Str×Nat):Prop:=∃b,v=.ref b/\aY K H b [.str t.1,.int t.2]
def AV.kp(e:Kp H H')(h:Paired (AV K H) c d):Paired (AV K H') c d:=Paired.mapP h λv m⟨b,h1,h2⟩=>{b,h1,e.tq h2}
structure oE(K:O6)(H:Hp)(p:Nat)(sa:Int)(ns:Pb)(ts:List (Str×Nat))(A:yb):Prop where
 pl:H A.pl=some (.lst [.int p,.int sa,.ref A.L,.ref A.T])L:H A.L=some (.lst (ns.map V.str))T:∃us,H A.T=some (.lst us)/\Paired (AV K H) us ts
 n1:A.pl≠A.L
 n2:A.pl≠A.T
 n3:A.L≠A.T
def oE.same(h:oE K H p sa ns c A)(e:am H H'):oE K H' p sa ns c A:=let⟨b,h1,h2⟩:=h.T
 {e _ _ h.pl,e _ _ h.L,{b,e _ _ h1,AV.kp (.of e) h2},h.n1,h.n2,h.n3}
inductive Gd(K:O6)(vs:List V)(H:Hp)(Q:VK)(_E:XK):Prop|mk(sc:Addr)(ns:Pg)(_:vs=[.ref sc])(_:aR K H sc (ns.map V.int))(_:ns.length<=63)(_:∀(A:yb)(p:Nat)(sa:Int)H',am H H'->H A.pl=none->H A.L=none->H A.T=none->oE K H' p sa [] [] A->qV p->(0<=sa/\sa<=cw)->Q (.ref A.pl) H')
section
def D9(T:Txt K mg a):aP P w K mg base cU 3 a.xc.x a.xc.d ["_law_script"] (Gd K):=by
 show T.xc.ok tO λF A outer s H J Q E u h=>?_
 ·obtain⟨v,ns,rfl,y,B,q⟩:=h;have G:=mE;show{_,(af (bo 1 tO.nd (pc T.eA (cK T) u (ac (Y 0) (ac ag (ac ag O))))) (af (bo 2 tO.nd (iP K (bg (ac ag (ac ag (ac ag (ac ag (ac ag (ac ag (ac ag (ac ag O))))))))) (aB aW (Y 1) ag))) (ah (az (bg (ac (Y 2) (ac (aB aW (pc T.jl (rn T) u (ac (Y 0) (ac ag O))) (aB bV (aB qu ag ag) ag)) (ac (bg O) (ac (bg O) O))))))))),?_}
  show U () {v,ns,0,1,(),y,B,{by decide,by decide},{by decide,by decide},au ?_};generalize cX ns 0 1=x;have l:=bN x (show(0:Int)<8 by decide);show{ls (),λi m=>?_};have f:=aj (o:=.lst [V.int 2,V.int 3,V.int 5,V.int 7,V.int 11,V.int 13,V.int 7,V.int 5]) (am.refl H) m;have e:aH H i (.lst [V.int 2,V.int 3,V.int 5,V.int 7,V.int 11,V.int 13,V.int 7,V.int 5]) i=some (.lst [V.int 2,V.int 3,V.int 5,V.int 7,V.int 11,V.int 13,V.int 7,V.int 5]):=ae;generalize aH H i (.lst [V.int 2,V.int 3,V.int 5,V.int 7,V.int 11,V.int 13,V.int 7,V.int 5])=j at f e⊢;obtain⟨p,C,g⟩:=mw (ns:=[2,3,5,7,11,13,7,5]) l.1 l.2
  walk_at "a"
  show{i,_,_,U () {(),aR.of e,g,au ?_}};have r:qV p.toNat/\0<=p:=(by unfold qV;decide:∀p∈[(2:Int),3,5,7,11,13,7,5],qV p.toNat/\0<=p) p C;obtain⟨pn,rfl⟩:∃n:Nat,p=n:={p.toNat,by lia};clear C g e l;show U () (U () {v,ns,1,(),f.seq y,B,?_});generalize wX ns 1=c;have I:=bN c (show(0:Int)<cw+1 by lia)
  walk_at "a"
  show{ls (),λL t=>{ls (),λT k=>{ls (),λpl b=>?_}}};have n3:L≠T:=λz=>by rw[<-z,ae]at k;cases k
  have n2:pl≠T:=λz=>by rw[z,ae]at b;cases b
  have n1:pl≠L:=λz=>by rw[z,ak n3,ae]at b;cases b
  have D:am j (aH (aH j L (.lst [])) T (.lst [])):=aj (aj (am.refl j) t) k;show q (pl,L,T,) pn _ _ (f.trans (aj D b)) ((f.trans D).free b) (f.free t) ((f.trans (aj (am.refl j) t)).free k) {ae,by change aH _ _ _ L=_;rw[ak (p_ n1),ak n3,ae];rfl,{[],by change aH _ _ _ T=_;rw[ak (p_ n2),ae],.nil},n1,n2,n3} r.1 {I.1,by omega}
end
def mn{t u:TS}{D:jV}{c:St}(h:∀v:TS,v=u->zV t v D c H):zV t u D c H:=h u ()
def iO(M:bj):List Str:=M.las.map bE.nm
def jG(M:bj):List (Str×Nat):=M.trs.map λt=>(t.nm,t.arms.length)
def zi(M:bj):Dd->List Str|.layer nm _=>iO M++[nm]|_=>iO M
def wf(M:bj):Dd->List (Str×Nat)|.trial x=>jG M++[(x.nm,x.arms.length)]|_=>jG M
def fT(ns:Pg)(m:Nat):List Str:=(List.range m).map λ(j:Nat)=>dB j (cX ns 3 4)
def Fz(ns:Pg)(h:m<=4):(fT ns m).length=m/\(fT ns m).Nodup/\∀x∈fT ns m,Wd x:=by
 show{by unfold fT;rw[b_,rd],?_,λx c=>?_}
 ·show List.pairwise_iff_getElem.mpr λi j hi b d e=>?_;unfold fT at e hi b;rw[b_,rd]at hi b;rw[OZ,OZ,List.getElem_range,List.getElem_range]at e;have:=qg {by lia,by lia} {by lia,by lia} e;lia
 ·obtain⟨j,_,rfl⟩:=oi.mp c;show sQ _ _
structure nR(ns:Pg)(M:bj):Prop where
 ln:∀(i:Nat)(l:bE),M.las[i]?=some l->l.nm=dB i (cX ns 1 2)/\l.sl=(cX ns 2 2+i)%((M.p:Int)+1)tn:∀(j:Nat)(t:du),M.trs[j]?=some t->t.nm=dB j (cX ns 2 3)/\t.arms=fT ns t.arms.length
 lp:M.las.length<=M.p+1
 pr:qV M.p
def Kr(ns:Pg)(M:bj):Dd->Prop|.layer nm sl=>nm=dB M.las.length (cX ns 1 2)/\sl=(cX ns 2 2+M.las.length)%((M.p:Int)+1)/\M.las.length<M.p+1|.trial x=>x.nm=dB M.trs.length (cX ns 2 3)/\x.arms=fT ns x.arms.length|_=>True
def Mo(A:yb)(H H':Hp):Prop:=∃o,(o=A.L\/o=A.T)/\Kp H H'/\∀b ob,H b=some ob->b≠o->H' b=some ob
theorem Mo.of(s:am H H'):Mo A H H':={A.L,.inl (),.of s,λb o h _=>s b o h}
def jm(K:O6)(ns:Pg)(M:bj)(A:yb)(H:Hp)(Q:VK):Prop:=∀(b:Addr)(d:Dd)(c:List V)(H':Hp),Mo A H H'->aY K H' b c->jo K H' M d c->oE K H' M.p M.salt (zi M d) (wf M d) A->Kr ns M d->(M.trs.length=0->d.adds=true)->Q (.ref b) H'
def jm.same(h:jm K ns M A H Q)(s:am H c):jm K ns M A c Q:=λe d f H'⟨o,h1,h2,h3⟩=>h e d f H' {o,h1,Kp.trans (.of s) h2,λb ob g=>h3 b ob (s b ob g)}
structure vZ(K:O6)(H:Hp)(sc:Addr)(ns:Pg)(M:bj)(A:yb)(c:Nat):Prop where
 sq:aR K H sc (ns.map V.int)len:ns.length<=63
 pl:oE K H M.p M.salt (iO M) (jG M) A
 ok:jF M c
 pn:nR ns M
 n4:∀H',(∀b ob,H b=some ob->b≠A.L->H' b=some ob)->aR K H' sc (ns.map V.int)
theorem vZ.same(h:vZ K H d ns M A c)(s:am H H'):vZ K H' d ns M A c:={s.seq h.sq,h.len,h.pl.same s,h.ok,h.pn,λf g=>h.n4 f λb ob e n=>g b ob (s b ob e) n}
def oE.addL(h:oE K H p sa ns c A)(x:Str):oE K (aH H A.L (.lst (ns.map V.str++[.str x]))) p sa (ns++[x]) c A:=let⟨b,h1,h2⟩:=h.T
 {by rw[ak h.n1];show h.pl,by rw[ae,k_];rfl,{b,by rw[ak (p_ h.n3)];show h1,AV.kp (.lst h.L) h2},h.n1,h.n2,h.n3}
def oE.addT(h:oE K H p sa ns c A)(h1:H A.T=some (.lst d))(h2:Paired (AV K H) d c)(e:aY K H b [.str x.1,.int x.2]):oE K (aH H A.T (.lst (d++[.ref b]))) p sa ns (c++[x]) A:={by rw[ak h.n2];show h.pl,by rw[ak h.n3];show h.L,{_,ae,AV.kp (.lst h1) (Paired.snoc h2 {b,(),e})},h.n1,h.n2,h.n3}
inductive IR(K:O6)(vs:List V)(H:Hp)(Q:VK)(_E:XK):Prop|mk(sc:Addr)(ns:Pg)(M:bj)(A:yb)(c:Nat)(_:vs=[.ref sc,.ref A.pl])(_:vZ K H sc ns M A c)(_:M.las.length<4)(_:M.las.length<M.p+1)(_:jm K ns M A H Q)
def B8(h:nR ns M)(c:M.las.length<M.p+1):(cX ns 2 2+M.las.length)%((M.p:Int)+1)∉M.las.map bE.sl:=λz=>by obtain⟨l,hm,e⟩:=oi.mp z;obtain⟨i,hi⟩:=nk.mp hm;have b:=(c_.mp hi).1;rw[(h.ln i l hi).2]at e;have h1:((cX ns 2 2+M.las.length)-(cX ns 2 2+i))%((M.p:Int)+1)=0:=Int.emod_eq_emod_iff_emod_sub_eq_zero.mp e.symm;rw[show(cX ns 2 2+(M.las.length:Int))-(cX ns 2 2+i)=((M.las.length-i:Nat):Int)by lia,OS (by lia) (by lia)]at h1;lia
def Cr(h:nR ns M)(c:M.las.length<4):dB M.las.length (cX ns 1 2)∉M.las.map bE.nm:=λz=>by obtain⟨l,hm,e⟩:=oi.mp z;obtain⟨i,hi⟩:=nk.mp hm;have b:=(c_.mp hi).1;rw[(h.ln i l hi).1]at e;have:=qg {by lia,by lia} {by lia,by lia} e;lia
def BQ(h:nR ns M)(c:M.trs.length<10):dB M.trs.length (cX ns 2 3)∉M.trs.map du.nm:=λz=>by obtain⟨t,hm,e⟩:=oi.mp z;obtain⟨i,hi⟩:=nk.mp hm;have b:=(c_.mp hi).1;rw[(h.tn i t hi).1]at e;have:=qg {by lia,by lia} {by lia,by lia} e;lia
section
def vG(T:Txt K mg a):aP P w K mg base cU 3 a.io.x a.io.d ["_law_script","_law_plan_here"] (IR K):=by
 show T.io.ok jJ λC A outer s H I Q E r h=>?_
 ·obtain⟨z,ns,M,A,c,rfl,g,h4,B,q⟩:=h;show{_,(af (bo 2 jJ.nd (aA (aI K ()) (by rfl) T.bC L2.aL (ac (iP K (Y 1) ag) O))) (af (bo 3 jJ.nd (pc T.rP (uv T) r (ac (Y 2) (ac (pc T.eA (cK T) r (ac (Y 0) (ac ag (ac ag O)))) O)))) (af (aM (eO K () PySem.F.plainAttrs_list PySem.F.slot_list_append PySem.F.type_list_append cq (iP K (Y 1) ag) (ac (Y 3) O))) (ah (az (bp (ac aE (ac (Y 3) (ac (aB aW (aB bV (pc T.eA (cK T) r (ac (Y 0) (ac ag (ac ag O)))) (Y 2)) (aB bV (iP K (Y 1) ag) ag)) O))))))))),?_}
  have t:=g.pl;have j:(iO M).length=M.las.length:=b_ _;show U () (rX (aR.of t.pl) (aq (k:=2) ()) {_,M.las.length,(),.inl {_,aR.of t.L,by rw[b_,j]},au ?_});show U () (U () {z,ns,1,2,(),g.sq,g.len,{by decide,by decide},{by decide,by decide},(M.las.length:Int),cX ns 1 2,(),λl m=>au ?_});have f:=t.same m;show U () (rX (aR.of f.pl) (aq (k:=2) ()) {.inl {(),_,aR.of f.L},U () (rA f.L (by rw[b_,j,mo];lia) ?_)});have i:=f.addL (dB M.las.length (cX ns 1 2));have kp:Kp l (aH l A.L (.lst ((iO M).map V.str++[.str (dB M.las.length (cX ns 1 2))]))):=.lst f.L;have u:∀b ob,l b=some ob->b≠A.L->aH l A.L (.lst ((iO M).map V.str++[.str (dB M.las.length (cX ns 1 2))])) b=some ob:=λb ob e n=>by rw[ak n];show e
  generalize aH l A.L (.lst ((iO M).map V.str++[.str (dB M.las.length (cX ns 1 2))]))=D at i kp u⊢;have bs:=bN (cX ns 2 2+M.las.length) (show(0:Int)<(M.p:Int)+1 by lia);show U () (U () {z,ns,2,2,(),(g.same m).n4 _ u,g.len,{by decide,by decide},{by decide,by decide},U () (r2 (U () (rX (aR.of i.pl) (aq (k:=0) ()) (r2 (r2 {by change(0:Int)<(M.p:Int)+1;lia,ls (),λG v=>?_})))))});have y:=aj (o:=.tup [.str "layer",.str (dB M.las.length (cX ns 1 2)),.int ((cX ns 2 2+M.las.length)%((M.p:Int)+1))]) (am.refl D) v;show q G (.layer _ _) _ _ {A.L,.inl (),Kp.trans (.of m) (Kp.trans kp (.of y)),λb ob e n=>y _ _ (u b ob (m _ _ e) n)} (aY.of ae) (.layer (sQ _ _) (Cr g.pn h4) {bs.1,by lia} (B8 g.pn B) h4) (i.same y) {(),(),B} λ_=>()
end
inductive IQ(K:O6)(vs:List V)(H:Hp)(Q:VK)(_E:XK):Prop|mk(sc:Addr)(ns:Pg)(M:bj)(A:yb)(c:Nat)(n:Int)(_:vs=[.ref sc,.ref A.pl,.int n])(_:vZ K H sc ns M A c)(_:M.trs.length<10)(_:0<M.las.length)(_:jm K ns M A H Q)
section
def vF(T:Txt K mg a):aP P w K mg base cU 5 a.ik.x a.ik.d ["_law_script","_law_plan_here","_law_number"] (IQ K):=by
 show T.ik.ok cV λd4 A outer s H vs Q E X h=>?_
 ·obtain⟨sc,ns,M,A,c,n,rfl,Z,ba,d5,q⟩:=h;show{_,(af (bo 3 cV.nd (aA (aI K ()) (by rfl) T.bC L2.aL (ac (iP K (Y 1) ag) O))) (af (bo 4 cV.nd (pc T.rP (uv T) X (ac (Y 3) (ac (pc T.eA (cK T) X (ac (Y 0) (ac ag (ac ag O)))) O)))) (af (bo 5 cV.nd (iP K (iP K (Y 1) ag) (aB aW (Y 2) (aA (aI K ()) (by rfl) T.bC L2.aL (ac (iP K (Y 1) ag) O))))) (af (bo 6 cV.nd (b0 (fg K ()) (by rfl) T.d8 L2.bX (ac (rN lq [] [9] [9] (ai kW) (ca 9) (dQ () T.fC (ac (aB bV ag (aB aW (aB bL (Y 2) ag) ag)) O)) (λcl C s₀ H₀ ex=>{(lE lq [] 9),bR,(pc T.rP (uv T) X (ac (Y 9) (ac (pc T.eA (cK T) X (ac (Y 0) (ac ag (ac ag O)))) O)))})) O))) (af (bo 7 cV.nd (bg O)) (af (bo 8 cV.nd (pc T.eA (cK T) X (ac (Y 0) (ac (aB bV ag (Y 3)) (ac ag O))))) (af (d6 qq () (dQ () T.fC (ac (aA (qP ()) (by rfl) T.Eh L2.uW (ac ag (ac (Y 3) O))) O)) (sf 9 cV.nd) (ah (aN (aD aX (aB aW (aB bL (Y 8) (iP K (bg (ac ag (ac ag (ac ag (ac ag (ac ag (ac ag (ac ag (ac ag O))))))))) (Y 9))) ag) ag (aG _)) (ah (aM (eO K () PySem.F.plainAttrs_list PySem.F.slot_list_append PySem.F.type_list_append cq (Y 7) (ac (dP K (iP K (iP K (Y 1) ag) (aB f9 (aB f9 (Y 3) ag) (Y 9))) ag) O)))) aF))) (af (aM (eO K () PySem.F.plainAttrs_list PySem.F.slot_list_append PySem.F.type_list_append cq (iP K (Y 1) ag) (ac (bp (ac (Y 4) (ac (aA (aI K ()) (by rfl) T.bC L2.aL (ac (Y 6) O)) O))) O))) (ah (az (bp (ac aE (ac (Y 4) (ac (Y 5) (ac (Y 6) (ac (bT ((y6 T 3).mono (by decide)) X () T.eU.m T.eU.f.kp T.eU.b .nil aQ (ac (aB bL (Y 2) ag) (ac ag O))) (ac (b0 (fg K ()) (by rfl) T.d8 L2.bX (ac (Y 7) O)) O))))))))))))))))),?_}
  have hP:=Z.pl;have ea:(iO M).length=M.las.length:=b_ _;have cr:(jG M).length=M.trs.length:=b_ _;have l4:=Z.ok.l4;obtain⟨us,a3,a5⟩:=hP.T;have a6:=Paired.length a5;rw[cr]at a6;show mn λu1 g=>?_;show U () (rX (aR.of hP.pl) (aq (k:=3) ()) {_,M.trs.length,(),.inl {_,aR.of a3,by rw[a6]},au (lF ?_)});subst g;show mn λu1 g=>?_;show U () (U () {sc,ns,2,3,(),Z.sq,Z.len,{by decide,by decide},{by decide,by decide},(M.trs.length:Int),cX ns 2 3,(),λH1 s1=>au (lF ?_)});subst g;show mn λu1 g=>?_;have u:=Z.same s1;have bl:=bN n (show(0:Int)<((iO M).length:Int)by lia);obtain⟨hm,c0,c1⟩:=jg bl.1 bl.2;show U () (rX (aR.of u.pl.pl) (aq (k:=2) ()) (U () (U () (rX (aR.of u.pl.pl) (aq (k:=2) ()) {_,(iO M).length,(),.inl {_,aR.of u.pl.L,by rw[b_]},_,U () {(),by change(0:Int)<((iO M).length:Int);lia,A.L,_,_,U () {(),aR.of u.pl.L,c1,au (lF ?_)}}}))));subst g;show mn λu1 g=>?_;have b4:=bN (n/4) (show(0:Int)<4 by decide)
  walk_at "a"
  show{by lia,by lia,λD hD=>?_};obtain⟨m,c2,bb,em⟩:∃m:Nat,1<=m/\m<=4/\1+n/4%4=(m:Int):={(1+n/4%4).toNat,by lia,by lia,by lia};rw[em];obtain⟨al,bc,aw⟩:=Fz ns bb;show fb (K:=K) (lo:=0) (n:=m) (λj aa H'=>am H1 H'/\H' D=some (.lst aa)/\aa=((fT ns m).take j).map V.str) {aj (am.refl _) hD,ae,()} ?_ ?_
  ·rintro j aa H2 hj⟨s2,J,rfl⟩;rw[show(0:Int)+(j:Int)=((j:Nat):Int)by lia];show au (iJ (bB ?_));show U () (U () {sc,ns,3,4,(),s2.seq u.sq,Z.len,{by decide,by decide},{by decide,by decide},(j:Int),cX ns 3 4,(),λH3 s3=>?_});show{s3 _ _ J,by rw[b_,oD,mo];show Ni (NF _ _) (by rw[al];omega),lf hj {bG (s2.trans s3) hD,ae,?_}};have e:(fT ns m)[j]?=some (dB (j:Int) (cX ns 3 4)):=by unfold fT;rw[i_,List.getElem?_range hj];rfl
   rw[bx e,k_];rfl
  ·rintro aa H2⟨s2,J,rfl⟩;rw[l_ (ON al)]at J;show{D,U () (.inl {aR.of J,λar bh=>au (lF ?_)})};subst g;show mn λu1 g=>?_;have s3:am H1 (aH H2 ar (.tup ((fT ns m).map V.str))):=aj s2 bh;have ad:aH H2 ar (.tup ((fT ns m).map V.str)) ar=some (.tup ((fT ns m).map V.str)):=ae;generalize aH H2 ar (.tup ((fT ns m).map V.str))=H3 at s3 ad⊢;clear J s2 bh hD;show{ls (),λsl a7=>au (lF ?_)};subst g;show mn λu1 g=>?_;have s4:=aj (o:=.lst []) s3 a7;have an:=aj (o:=.lst []) (am.refl H3) a7 _ _ ad;have bi:=u.same s4;have ap:H1 sl=none:=s3.free a7;have as:aH H3 sl (.lst []) sl=some (.lst []):=ae;generalize aH H3 sl (.lst [])=H4 at s4 an bi as⊢;show U () (U () (r2 {sc,ns,5+(M.trs.length:Int),7,(),bi.sq,Z.len,{by lia,by lia},{by decide,by decide},au (lF ?_)}));subst g;show mn λu1 g=>?_;generalize cX ns (5+(M.trs.length:Int)) 7=mr;obtain⟨kk,k8,kt,a8⟩:∃k:Nat,k<=8/\k<=M.trs.length/\(if(M.trs.length:Int)<8 then(M.trs.length:Int)else 8)=(k:Int):={min 8 M.trs.length,Nat.min_le_left _ _,NF _ _,by split<;>omega};show U () {_,U () (U () {by rw[a8];lia,by rw[a8];lia,?_})};rw[a8];have nd:((M.trs.map du.nm).reverse).Nodup:=List.pairwise_reverse.mpr (List.Pairwise.imp (λh=>p_ h) Z.ok.tn);have eb:((M.trs.map du.nm).reverse).length=M.trs.length:=by rw[NU,b_]
   show uK (lo:=0) (n:=kk) (λi σ H'=>am H1 H'/\H' ar=some (.tup ((fT ns m).map V.str))/\∃(I:Pb),H' sl=some (.lst (I.map V.str))/\I.Sublist ((M.trs.map du.nm).reverse.take i)/\∃v9,σ=[some (.ref sc),some (.ref A.pl),some (.int n),some (.int M.trs.length),some (.str (dB M.trs.length (cX ns 2 3))),some (.str hm),some (.ref ar),some (.ref sl),some (.int mr),v9]) {s4,an,[],as,List.nil_sublist _,_,()} ?_ ?_
   ·rintro i σ H5 hi⟨S,l,I,hz,p,v9,rfl⟩N R B hN;have i8:i<8:=pu hi k8;have it:i<M.trs.length:=pu hi kt;show au ?_;show U () {ls (),λl5 c3=>?_};show fB c3 λH6 y c4=>?_;obtain⟨d,hd,ha⟩:=mw (ns:=[1,4,16,64,256,1024,4096,16384]) (i:=0+(i:Int)) (by lia) (by change _<(8:Int);lia);have da:=(by decide:∀d∈[(1:Int),4,16,64,256,1024,4096,16384],0<d/\d<1073741824) d hd;show U () {l5,_,_,U () {(),aR.of c4,ha,_,U () {(),da,_,U () {(),(show(0:Int)<4 by decide),(),U () ?_}}}};have a9:(M.trs.map du.nm).reverse[i]?=(M.trs.map du.nm)[M.trs.length-1-i]?:=by rw[List.getElem?_reverse (by rw[b_];show it),b_]
    obtain⟨t,ht⟩:∃t,M.trs[M.trs.length-1-i]?=some t:={_,h_ (Ni (Nat.sub_le _ _) (Nat.sub_lt (Nat.zero_lt_of_lt it) Nat.one_pos))};rw[i_,ht]at a9;show kC (λ_=>?_) (λ_=>hN _ _ {S.trans y,y _ _ l,I,y _ _ hz,by rw[bx a9];show p.trans (List.sublist_append_left _ _),_,()});have dc:=u.pl.same (S.trans y);obtain⟨v,hv,b,rfl,hb⟩:=ue a5 (M.trs.length-1-i) (t.nm,t.arms.length) (by unfold jG;rw[i_,ht];rfl);have G:=(s1.trans (S.trans y)) _ _ a3;have bt:=y _ _ hz;have bz:=nr p.length_le (J_ _ _);show U () {.inl {(),_,aR.of bt},U () (rX (aR.of dc.pl) (aq (k:=3) ()) (U () (r2 (U () (r2 ?_)))))};show rX (aR.of G) (by rw[show(M.trs.length:Int)-1-(0+(i:Int))=((M.trs.length-1-i:Nat):Int)by lia];show aq hv) (rX (am.tseq (s1.trans (S.trans y)) hb) (aq (k:=0) ()) ?_);show rA bt (by rw[b_,mo];lia) (hN _ _ {bG (S.trans y) ap,by rw[ak λz=>by rw[z,hz]at l;cases l];show y _ _ l,I++[t.nm],by rw[ae,k_];rfl,?_,_,()});rw[bx a9];show p.append (OR _)
   ·rintro σ H5⟨S,l,I,hz,p,v9,rfl⟩;show lF ?_;subst g;show mn λu1 g=>?_;have bQ:=u.same S;have di:=(p.trans (N7 _ _)).nodup nd;have bz:=nr (nr p.length_le (J_ _ _)) k8;have W:=(s1.trans S) _ _ a3;have b8:=AV.kp (.of (s1.trans S)) a5;show U () (rX (aR.of bQ.pl.pl) (aq (k:=3) ()) {.inl {(),_,aR.of W},U () (U () {_,m,(),.inr {_,aY.of l,by rw[b_,al]},ls (),λb hb=>?_})});show fB hb λH6 y dK=>?_;have G:=y _ _ W;show rA G (by rw[a6,mo];lia) (lF ?_);subst g;have b9:=(bQ.pl.same y).addT G (AV.kp (.of y) b8) (x:=(dB M.trs.length (cX ns 2 3),m)) (aY.of dK);have kp:Kp H6 (aH H6 A.T (.lst (us++[.ref b]))):=.lst G;have hk:∀d ob,H6 d=some ob->d≠A.T->aH H6 A.T (.lst (us++[.ref b])) d=some ob:=λd ob e n=>by rw[ak n];show e
    generalize aH H6 A.T (.lst (us++[.ref b]))=H7 at b9 kp hk⊢;have nT:∀{d:Addr},H1 d=none->d≠A.T:=λh z=>by rw[z,u.pl.T.choose_spec.1]at h;cases h
    have cc:=hk _ _ (y _ _ l) (λz=>by rw[z,W]at l;cases l);have dT:=hk _ _ (y _ _ hz) (nT ap);show U () (U () (U () (U () (r2 {{by decide,by decide},n/16,3,(),by decide,by decide,λr rv H8 s8 X ho hh hc=>?_}))));show U () {sl,U () (.inl {aR.of (s8 _ _ dT),λsh dV=>{ls (),λdv ci=>?_}})};obtain⟨ra,rfl⟩:∃ra,rv=.ref ra:=by cases X<;>show{_,()}
    have s9:=aj (o:=.tup (I.map V.str)) (am.refl H8) dV;have ax:aH H8 sh (.tup (I.map V.str)) sh=some (.tup (I.map V.str)):=ae;generalize aH H8 sh (.tup (I.map V.str))=H9 at s9 ax ci⊢;have sa:=aj (o:=.tup [.str "trial",.str (dB M.trs.length (cX ns 2 3)),.str hm,.ref ar,.ref ra,.ref sh]) (am.refl H9) ci;show q dv (.trial {dB M.trs.length (cX ns 2 3),hm,fT ns m,r,I,false,false,[]}) _ _ {A.T,.inr (),Kp.trans (.of ((s1.trans S).trans y)) (Kp.trans kp (.of ((s8.trans s9).trans sa))),λd ob e n=>((s8.trans s9).trans sa) _ _ (hk d ob (((s1.trans S).trans y) _ _ e) n)} (aY.of ae) ?_ ?_ {(),by change fT ns m=fT ns (fT ns m).length;rw[al]} λ_=>()
    ·show .trial {sQ _ _,c0,by rw[al];show c2,by rw[al];show bb,bc,aw,by change r.hgt<=6;omega,bz} (BQ Z.pn ba) (aY.of (((s8.trans s9).trans sa) _ _ cc)) ((X.kp (.of s9)).kp (.of sa)) (by change r.cnt<=30;omega) ho (λw hw=>AY ((dk ():∀w∈Mv,Iq w=true) w hw)) (by decide) (aY.of (sa _ _ ax)) (λz hz=>NG.mp (NM (p.subset hz))) di () () () ba
    ·have:=b9.same ((s8.trans s9).trans sa);rw[show wf M (.trial {dB M.trs.length (cX ns 2 3),hm,fT ns m,r,I,false,false,[]})=jG M++[(dB M.trs.length (cX ns 2 3),m)]by change jG M++[(_,(fT ns m).length)]=_;rw[al]];show this
end
inductive Dl(K:O6)(vs:List V)(H:Hp)(Q:VK)(_E:XK):Prop|mk(sc:Addr)(ns:Pg)(M:bj)(A:yb)(c:Nat)(k n:Int)(_:vs=[.ref sc,.ref A.pl,.int k,.int n])(_:vZ K H sc ns M A c)(_:(0<=k/\k<=1000))(_:0<M.trs.length)(_:jm K ns M A H Q)
def vZ.tri(h:vZ K H l ns M A c)(h1:H A.T=some (.lst d))(h2:Paired (AV K H) d (jG M))(n:Int)(h0:0<M.trs.length):∃(t:du)(b:Addr),t∈M.trs/\vS d (n%(d.length:Int))=some (.ref b)/\aY K H b [.str t.nm,.int t.arms.length]:=by
 have e:=Paired.length h2;rw[show(jG M).length=M.trs.length from b_ _]at e;have b:=bN n (show(0:Int)<(d.length:Int)by lia);have f:(n%(d.length:Int)).toNat<M.trs.length:=by lia
 obtain⟨v,g,i,rfl,j⟩:=ue h2 (n%(d.length:Int)).toNat _ (by unfold jG;rw[i_,h_ f];rfl);show{_,i,OY f,?_,j};have:=aq g;rw[show(((n%(d.length:Int)).toNat:Nat):Int)=n%(d.length:Int)by lia]at this;show this
section
def Cj(T:Txt K mg a):aP P w K mg base cU 3 a.qX.x a.qX.d ["_law_script","_law_plan_here","_law_k","_law_number"] (Dl K):=by
 show T.qX.ok mG λan A outer s H vs Q E hr h=>?_
 ·obtain⟨sc,ns,M,A,c,k,n,rfl,m,⟨k0,k1⟩,h0,q⟩:=h;show{_,(af (bo 4 mG.nd (iP K (iP K (Y 1) ag) (aB aW (Y 3) (aA (aI K ()) (by rfl) T.bC L2.aL (ac (iP K (Y 1) ag) O))))) (af (ud (i:=5) mG.nd () (.inr ()) (aB bV (aB bL (iP K (Y 1) ag) ag) ag)) (af (aN (aD aX (aB aW (aB bL (Y 3) ag) ag) ag (aG _)) (af (bo 6 mG.nd (b0 (fg K ()) (by rfl) T.d8 L2.bX (ac (rN mD ["_law_j"] [] [7] (ai pi) (ca 7) (dQ () T.fC (ac (dP K (Y 4) ag) O)) (λcl C s₀ H₀ ex=>{(lE mD ["_law_j"] 7),bR,(aB bV ag (aB aW (pc T.eA (cK T) hr (ac (Y 0) (ac (Y 2) (ac (aB bV ag (Y 7)) O)))) ag))})) O))) (ah (az (bp (ac aE (ac (dP K (Y 4) ag) (ac (aB aW (pc T.eA (cK T) hr (ac (Y 0) (ac (Y 2) (ac ag O)))) (aB bV (iP K (Y 1) ag) ag)) (ac (Y 6) O)))))))) aF) (ah (az (bp (ac aE (ac (dP K (Y 4) ag) (ac (b0 (fg K ()) (by rfl) T.d8 L2.bX (ac (rN mD ["_law_j"] [] [7] (ai pi) (ca 7) (dQ () T.fC (ac (dP K (Y 4) ag) O)) (λcl C s₀ H₀ ex=>{(lE mD ["_law_j"] 7),bR,(aB aW (pc T.eA (cK T) hr (ac (Y 0) (ac (Y 2) (ac (aB bV ag (Y 7)) O)))) (Y 5))})) O)) O))))))))),?_}
  have J:=m.pl;have hp:=m.pn.pr.le;have ap:=qi;obtain⟨us,L,Z⟩:=J.T;have aa:=Paired.length Z;rw[show(jG M).length=M.trs.length from b_ _]at aa;obtain⟨t,b,B,ad,hb⟩:=m.tri L Z n h0;have a1:=(m.ok.tr t B).a1;have a4:=(m.ok.tr t B).a4;show mn λu1 R=>?_;show U () (rX (aR.of J.pl) (aq (k:=3) ()) (U () (U () (rX (aR.of J.pl) (aq (k:=3) ()) {_,us.length,(),.inl {_,aR.of L,()},_,U () {(),by change(0:Int)<(us.length:Int);lia,A.T,_,_,U () {(),aR.of L,ad,au (lF ?_)}}}))));subst R;show mn λu1 R=>?_;show U () (rX (aR.of J.pl) (aq (k:=0) ()) (r2 {{by decide,by decide},_,U () {(),au (lF ?_)}}));subst R;show qK ?_ (λN hN=>?_)
  rotate_left
  ·walk_at "a"
   show kC (λ_=>?_) (λ_=>hN);show U () (rX hb (aq (k:=1) ()) (U () {by lia,by lia,λD hD=>?_}));show fb (K:=K) (lo:=0) (n:=(t.arms.length:Int).toNat) (λj f H'=>am H H'/\H' D=some (.lst f)/\∃(e:Pg),f=e.map V.int/\e.length=j/\∀x∈e,1<=x/\x<=9) {aj (am.refl _) hD,ae,[],(),(),λx v=>nomatch v} ?_ ?_
   ·rintro j f S hj⟨F,l,e,rfl,r,g⟩;show au (iJ (bB ?_));have b9:=bN (cX ns k (11+(0+(j:Int)))) (show(0:Int)<9 by decide);show U () (U () (U () (r2 {sc,ns,k,11+(0+(j:Int)),(),F.seq m.sq,m.len,{by lia,by lia},{by lia,by lia},_,U () {(),(show(0:Int)<9 by decide),_,U () {(),?_}}})));show{l,by rw[b_,mo];lia,lf hj {bG F hD,ae,e++[1+cX ns k (11+(0+(j:Int)))%9],by rw[k_];rfl,by rw[mu,r];rfl,λx v=>?_}};rcases List.mem_append.mp v with z|z
    ·show g x z
    ·rw[List.mem_singleton.mp z];lia
   ·rintro f S⟨F,l,e,rfl,r,g⟩;show{D,U () (.inl {aR.of l,λG W=>au ?_})};have y:=aj (o:=.tup (e.map V.int)) F W;have u:aH S G (.tup (e.map V.int)) G=some (.tup (e.map V.int)):=ae;generalize aH S G (.tup (e.map V.int))=H3 at y u⊢;have bz:=bN (cX ns k 10) (show(0:Int)<(M.p:Int)+1 by lia);show U () (rX (am.tseq y hb) (aq (k:=0) ()) (U () (U () {sc,ns,k,10,(),y.seq m.sq,m.len,{by lia,by lia},{by decide,by decide},U () (rX (aR.of (y _ _ J.pl)) (aq (k:=0) ()) (r2 (r2 {by change(0:Int)<(M.p:Int)+1;lia,U () {ls (),λdv I=>?_}})))})));have X:=aj (o:=.tup [.str "deal",.str t.nm,.int (cX ns k 10%((M.p:Int)+1)),.ref G]) (am.refl H3) I;show q dv (.deal t _ e) _ _ (.of (y.trans X)) (aY.of ae) (.deal B {bz.1,by lia} (aY.of (X _ _ u)) (by lia) λx v=>{(g x v).1,by have:=(g x v).2;lia}) (J.same (y.trans X)) trivial λz=>absurd z (q_ h0)
  ·show U () (rX hb (aq (k:=0) ()) (U () (rX hb (aq (k:=1) ()) (U () {by lia,by lia,λD hD=>?_}))));show fb (K:=K) (lo:=0) (n:=(t.arms.length:Int).toNat) (λj f H'=>am H H'/\H' D=some (.lst f)/\∃(e:Pg),f=e.map V.int/\e.length=j/\∀x∈e,0<=x) {aj (am.refl _) hD,ae,[],(),(),λx v=>nomatch v} ?_ ?_
   ·rintro j f S hj⟨F,l,e,rfl,r,g⟩;show au (iJ (bB ?_));have b9:=bN (cX ns k (11+(0+(j:Int)))) (show(0:Int)<(M.p:Int)/2+2 by lia);show U () (U () (U () (r2 {sc,ns,k,11+(0+(j:Int)),(),F.seq m.sq,m.len,{by lia,by lia},{by lia,by lia},U () (r2 {(by change(0:Int)<(M.p:Int)/2+2;lia),?_})})));show{l,by rw[b_,mo];lia,lf hj {bG F hD,ae,e++[cX ns k (11+(0+(j:Int)))%((M.p:Int)/2+2)],by rw[k_];rfl,by rw[mu,r];rfl,λx v=>?_}};rcases List.mem_append.mp v with z|z
    ·show g x z
    ·rw[List.mem_singleton.mp z];show b9.1
   ·rintro f S⟨F,l,e,rfl,r,g⟩;show{D,U () (.inl {aR.of l,λG W=>{ls (),λdv I=>?_}})};have y:=aj (o:=.tup (e.map V.int)) F W;have u:aH S G (.tup (e.map V.int)) G=some (.tup (e.map V.int)):=ae;generalize aH S G (.tup (e.map V.int))=H3 at y u I⊢;have X:=aj (o:=.tup [.str "share",.str t.nm,.ref G]) (am.refl H3) I;show q dv (.share t e) _ _ (.of (y.trans X)) (aY.of ae) (.share B (aY.of (X _ _ u)) (by lia) g) (J.same (y.trans X)) trivial λz=>absurd z (q_ h0)
end
def uI(F G:Prop)(hc:∀Q:Bool->Hp->Prop,(F->Q true H)->(G->Q false H)->c d H Q)(h1:F->∀N:St->Hp->Prop,t {D with nx:=N} d H)(h2:G->u D d H):zV (FX c t ym) u D d H:=hc _ (λf=>bB (h1 f _)) λg=>cj (h2 g)
def AM{c:Prop}[Decidable c]{Q:Bool->Hp->Prop}{H:Hp}(h1:c->Q true H)(h2:¬c->Q false H):Q (decide c) H:=by
 by_cases e:c
 ·rw[ol e];show h1 e
 ·rw[op e];show h2 e
def M5{te:TE}{g:TG}{u:TS}{D:jV}{c:St}(h1:∀Q:VK,(∀b,Q (.bl b) H)->te c H Q)(h2:∀b,g (.bl b) c H (u D)):zV (yn te g) u D c H:=h1 _ h2
inductive Gm(K:O6)(vs:List V)(H:Hp)(Q:VK)(_E:XK):Prop|mk(sc:Addr)(ns:Pg)(M:bj)(A:yb)(c:Nat)(k:Int)(_:vs=[.ref sc,.ref A.pl,.int k])(_:vZ K H sc ns M A c)(_:(0<=k/\k<=1000))(_:jm K ns M A H Q)
section
def Ea(T:Txt K mg a):aP P w K mg base cU 6 a.xf.x a.xf.d ["_law_script","_law_plan_here","_law_k"] (Gm K):=by
 show T.xf.ok j9 λap A outer s H vs Q E G h=>?_
 ·obtain⟨S,ns,M,A,c,k,rfl,y,⟨k0,k1⟩,q0⟩:=h;show{_,(af (bo 3 j9.nd (pc T.eA (cK T) G (ac (Y 0) (ac (Y 2) (ac ag O))))) (af (bo 4 j9.nd (aB bL (Y 3) ag)) (af (bo 5 j9.nd (pc T.oF (wC T) G (ac (aB aW (Y 4) ag) (ac (pc T.eA (cK T) G (ac (Y 0) (ac ag (ac ag O)))) O)))) (af (aN (PW.pt (eW (aD aX (aA (aI K ()) (by rfl) T.bC L2.aL (ac (iP K (Y 1) ag) O)) ag (aG _)) (dJ (PW.pt (qt (aD aX (aB aW (Y 3) ag) ag (aG _)) (mH (aD yR (aA (aI K ()) (by rfl) T.bC L2.aL (ac (iP K (Y 1) ag) O)) (aA (qP ()) (by rfl) T.Eh L2.uW (ac (aB bV (iP K (Y 1) ag) ag) (ac ag O))) (aG _)))))))) (ah (az (pc T.io (vG T) G (ac (Y 0) (ac (Y 1) O))))) aF) (af (bo 6 j9.nd (cD (bS yR (Y 2) ag (aG _)) (dL (bS yR (aB aW (Y 3) ag) ag (aG _))))) (af (aN (PW.pt (eW (aD aX (aA (aI K ()) (by rfl) T.bC L2.aL (ac (iP K (Y 1) ag) O)) ag (aG _)) (dJ (PW.pt (qt (aD yR (aA (aI K ()) (by rfl) T.bC L2.aL (ac (iP K (Y 1) ag) O)) ag (aG _)) (mH (PW.pt (eW (aT K () (Y 6) (λ_=>())) (dJ (aD aX (aB aW (Y 3) ag) ag (aG _))))))))))) (ah (az (pc T.ik (vF T) G (ac (Y 0) (ac (Y 1) (ac (Y 4) O)))))) aF) (af (aN (aD yR (aB aW (Y 3) ag) ag (aG _)) (ah (az (pc T.qX (Cj T) G (ac (Y 0) (ac (Y 1) (ac (Y 2) (ac (Y 4) O))))))) aF) (af (bo 7 j9.nd (dP K (iP K (iP K (Y 1) ag) (aB aW (aB bL (Y 4) ag) (aA (aI K ()) (by rfl) T.bC L2.aL (ac (iP K (Y 1) ag) O)))) ag)) (af (aN (aD aX (aB aW (Y 3) ag) ag (aG _)) (ah (az (bp (ac aE (ac (iP K (iP K (Y 1) ag) (aB aW (Y 4) (aA (aI K ()) (by rfl) T.bC L2.aL (ac (iP K (Y 1) ag) O)))) (ac (aB aW (aB bL (Y 4) ag) (aB bV (aB bL (iP K (Y 1) ag) ag) ag)) O)))))) aF) (af (aN (aD aX (aB aW (Y 3) ag) ag (aG _)) (ah (az (bp (ac (iP K (bg (ac aE (ac aE (ac aE O)))) (aB aW (Y 4) ag)) (ac (Y 7) O))))) aF) (af (aN (aD aX (aB aW (Y 3) ag) ag (aG _)) (ah (az (bp (ac (iP K (bg (ac aE (ac aE (ac aE (ac aE O))))) (aB aW (Y 4) ag)) (ac (Y 7) O))))) aF) (af (aN (aD aX (aB aW (Y 3) ag) ag (aG _)) (ah (az (bp (ac aE (ac (Y 5) (ac (Y 7) O)))))) aF) (ah (az (bp (ac aE (ac (Y 5) (ac (pc T.qY (Ck T) G (ac (aB bL (Y 4) ag) O)) O)))))))))))))))))),?_}
  show mn λu1 n=>?_;show U () (U () {S,ns,k,5,(),y.sq,y.len,{by lia,by lia},{by decide,by decide},au (lF ?_)});subst n;show mn λu1 n=>?_;have x0:=(GV ns k 5).1;generalize cX ns k 5=x at x0⊢;show U () (r2 {{by decide,by decide},au (lF ?_)});subst n;show mn λu1 n=>?_;show U () (r2 {(show(0:Int)<7 by decide),U () {S,ns,4,6,(),y.sq,y.len,{by decide,by decide},{by decide,by decide},x/16%7,cX ns 4 6,(),λg H1 s1 hg=>au (lF ?_)}});subst n;have R:=y.same s1;have q:=q0.same s1;clear y q0 s1;have i:=R.pl;have hp:=R.pn.pr.le;obtain⟨us,D,W⟩:=i.T;have aa:=Paired.length W;rw[show(jG M).length=M.trs.length from b_ _]at aa;have X:((iO M).map V.str).length=M.las.length:=by rw[b_];show b_ _
  show uI (M.las.length<4/\M.las.length<M.p+1) (0<M.las.length) (λQ r u=>?_) (λf N=>?_) (λh0=>?_)
  ·show U () (rX (aR.of i.pl) (aq (k:=2) ()) {_,M.las.length,(),.inl {_,aR.of i.L,X.symm},(),U () (kC (λe=>r {by lia,by lia}) (λe=>?_))});show U () (r2 {(show(0:Int)<16 by decide),(),U () (kC (λ_=>?_) (λ_=>u (by lia)))});show U () (rX (aR.of i.pl) (aq (k:=2) ()) {_,M.las.length,(),.inl {_,aR.of i.L,X.symm},U () (rX (aR.of i.pl) (aq (k:=0) ()) (r2 {(M.p:Int)+1,4,(),r2 (U () (AM (λf=>r ?_) (λ_=>u (by lia))))}))})
   split at f<;>lia
  ·show U () (U () {S,ns,M,A,c,(),R,f.1,f.2,q})
  show M5 (λQ h=>?_) (λeb=>au ?_)
  ·show U () (r2 (U () (k9 (λ_=>?_) (λ_=>h _))));show U () (r2 {(show(0:Int)<16 by decide),_,U () {(),h _}})
  show uI (M.trs.length<10) (0<M.trs.length) (λQ r u=>?_) (λf N=>?_) (λF=>?_)
  ·show U () (rX (aR.of i.pl) (aq (k:=3) ()) {_,us.length,(),.inl {_,aR.of D,()},(),U () (kC (λe=>r (by lia)) (λe=>?_))});have g0:0<M.trs.length:=by lia
   show U () (rX (aR.of i.pl) (aq (k:=3) ()) {_,us.length,(),.inl {_,aR.of D,()},_,U () {(),U () (k9 (λe=>?_) (λ_=>u g0))}});have f:=r (by lia);show U () {eb,(),vL (λ_=>f) (λ_=>?_)};show U () (r2 {(show(0:Int)<16 by decide),(),U () (AM (λ_=>f) (λ_=>u g0))})
  ·show U () (U () (U () {S,ns,M,A,c,x/16,(),R,f,h0,q}))
  show uI True True (λQ r u=>?_) (λ_ N=>?_) (λ_=>?_)
  ·show U () (r2 {(show(0:Int)<16 by decide),_,U () {(),U () (AM (λ_=>r trivial) (λ_=>u trivial))}})
  ·show U () (U () (U () (U () {S,ns,M,A,c,k,x/16,(),R,(k0,k1,),F,q})))
  obtain⟨t,b,B,ad,hb⟩:=R.tri D W (x/16/7) F;show mn λu1 n=>?_;show U () (rX (aR.of i.pl) (aq (k:=3) ()) (U () (r2 {{by decide,by decide},U () (rX (aR.of i.pl) (aq (k:=3) ()) {_,us.length,(),.inl {_,aR.of D,()},_,U () {(),by change(0:Int)<(us.length:Int);lia,A.T,_,_,U () {(),aR.of D,ad,rX hb (aq (k:=0) ()) (au (lF ?_))}}})})));subst n;show uI True True (λQ r u=>?_) (λ_ N=>?_) (λ_=>?_)
  ·show U () (r2 {(show(0:Int)<16 by decide),(),U () (AM (λ_=>r trivial) (λ_=>u trivial))})
  ·have as:(iO M).length=M.las.length:=b_ _;have bl:=bN (x/16) (show(0:Int)<((iO M).length:Int)by lia);have bz:=bN (x/16/4) (show(0:Int)<(M.p:Int)/3+2 by lia);obtain⟨nm,an,Z⟩:=jg bl.1 bl.2;obtain⟨l,hl,rfl⟩:=oi.mp an;show U () (rX (aR.of i.pl) (aq (k:=2) ()) (U () (U () (rX (aR.of i.pl) (aq (k:=2) ()) {_,(iO M).length,(),.inl {_,aR.of i.L,by rw[b_]},_,U () {(),by change(0:Int)<((iO M).length:Int);lia,A.L,_,_,U () {(),aR.of i.L,Z,?_}}}))));show U () (r2 {{by decide,by decide},U () (rX (aR.of i.pl) (aq (k:=0) ()) (r2 {{by decide,by decide},_,U () {(),r2 {by change(0:Int)<(M.p:Int)/3+2;lia,ls (),λC m=>?_}}}))});have j:=aj (o:=.tup [.str "hold",.str l.nm,.int (x/16/4%((M.p:Int)/3+2))]) (am.refl H1) m;show q C (.hold l _) _ _ (.of j) (aY.of ae) (.hold hl bz.1) (i.same j) trivial λz=>absurd z (q_ F)
  show uI True True (λQ r u=>?_) (λ_ N=>?_) (λ_=>?_)
  ·show U () (r2 {(show(0:Int)<16 by decide),(),U () (AM (λ_=>r trivial) (λ_=>u trivial))})
  ·show{ls (),λl1 I=>?_};show fB I λH2 v J=>?_;have bm:=bN (x/16) (show(0:Int)<3 by decide);obtain⟨z,hz,Z⟩:=jg (zs:=["pause","go","go"]) bm.1 bm.2;show U () (r2 {(show(0:Int)<3 by decide),l1,_,_,U () {(),aR.of J,Z,U () {ls (),λC m=>?_}}});have j:=aj (o:=.tup [.str z,.str t.nm]) (am.refl H2) m;simp only[vu,rl,Nt]at hz;rcases hz with rfl|rfl|rfl
   ·show q C (.pause t true) _ _ (.of (v.trans j)) (aY.of ae) (.pause B) (i.same (v.trans j)) trivial λz=>absurd z (q_ F)
   all_goals show q C (.pause t false) _ _ (.of (v.trans j)) (aY.of ae) (.go B) (i.same (v.trans j)) trivial λz=>absurd z (q_ F)
  show uI True True (λQ r u=>?_) (λ_ N=>?_) (λ_=>?_)
  ·show U () (r2 {(show(0:Int)<16 by decide),(),U () (AM (λ_=>r trivial) (λ_=>u trivial))})
  ·show{ls (),λl1 I=>?_};show fB I λH2 v J=>?_;have bm:=bN (x/16) (show(0:Int)<4 by decide);obtain⟨z,hz,Z⟩:=jg (zs:=["close","pause","go","go"]) bm.1 bm.2;show U () (r2 {(show(0:Int)<4 by decide),l1,_,_,U () {(),aR.of J,Z,U () {ls (),λC m=>?_}}});have j:=aj (o:=.tup [.str z,.str t.nm]) (am.refl H2) m;simp only[vu,rl,Nt]at hz;rcases hz with rfl|rfl|rfl|rfl
   ·show q C (.close t) _ _ (.of (v.trans j)) (aY.of ae) (.close B) (i.same (v.trans j)) trivial λz=>absurd z (q_ F)
   ·show q C (.pause t true) _ _ (.of (v.trans j)) (aY.of ae) (.pause B) (i.same (v.trans j)) trivial λz=>absurd z (q_ F)
   all_goals show q C (.pause t false) _ _ (.of (v.trans j)) (aY.of ae) (.go B) (i.same (v.trans j)) trivial λz=>absurd z (q_ F)
  show uI True True (λQ r u=>?_) (λ_ N=>?_) (λ_=>?_)
  ·show U () (r2 {(show(0:Int)<16 by decide),(),U () (AM (λ_=>r trivial) (λ_=>u trivial))})
  ·show U () (U () {ls (),λC m=>?_});have j:=aj (o:=.tup [.str "bar",.str g,.str t.nm]) (am.refl H1) m;show q C (.bar g t) _ _ (.of j) (aY.of ae) (.bar hg B) (i.same j) trivial λz=>absurd z (q_ F)
  show U () (U () (r2 {{by decide,by decide},x/16/7,(),λmt ms H2 v hm h3 h4 h5=>{ls (),λC m=>?_}}));have j:=aj (o:=.tup [.str "visit",.str g,.ref mt]) (am.refl H2) m;show q C (.visit g _) _ _ (.of (v.trans j)) (aY.of ae) (.visit hg (hm.kp (.of j)) h3 h4 h5) (i.same (v.trans j)) trivial λz=>absurd z (q_ F)
end
def G9:∀{c:List (bZ×V)}{d:List (bZ×Value)}{acc:O_},KV c d->acc.length=d.length->(∀(j:Nat)(v:Value),acc[j]?=some v->∃(k:bZ)(x:Value),d[j]?=some (k,x)/\(aU P w).is k v=true)->aZ (c.map λp=>kV p.1) acc:=by
 intro c d acc h
 induction h generalizing acc with|nil=>intro b _;rw[O3,List.length_eq_zero_iff]at b;rw[b];show .nil|@cons p q _ _ h _ f=>intro b hi;cases acc with|nil=>cases b|cons v r=>
   show .cons ?_ (f (by simpa using b) λj u e=>by simpa using hi (j+1) u (by simpa using e));obtain⟨k,x,e,g⟩:=hi 0 v ();have e:q=(k,x):=by simpa using e
   change aV (kV p.1) v;rw[show p.1=k by rw[h.1,e]];show xH g
def AQ{X:Cx}(hc:X.calm=true):dy X (.type "list") (λg H Q=>∃(d:Addr)(c:List (bZ×V)),g=[.ref d]/\H d=some (.dK c)/\∀l,H l=none->Q (.ref l) (aH H l (.lst (c.map λp=>kV p.1)))):=by intro i s B H g C Q I r h;obtain⟨d,c,rfl,hd,q⟩:=h;obtain⟨u,rfl,n⟩:=jY r;obtain rfl:u=Value.ref d:=n;obtain⟨t,x,D,k,f⟩:=I.hok d _ hd;obtain⟨ep,y⟩:=f.dictAt;have E:=Paired.length k;show PySem.W.kdl_call (PySem.W.kdl_dict x) (I.ok.hd hc) y (by lia) λh' tk b z kp e m=>?_;have A:=G9 (acc:=b.toList) k (by rw[ot];show m.1) λj v e=>m.2 j v (by rw[<-vl];show e);show{.ref s.heap.objs.size,_,I.laid (h':=h') (t':=tk) (a:=s.heap.objs.size) (o:=.lst (c.map λp=>kV p.1)) kp (e_ _) ?_,(),q _ (I.hok.fresh (e_ _))};show{by rw[b_];show t,b.toList,z,A,by simpa using e}
theorem y9:∀(ns:Pb)(f:Nat->V),(gU ns f).map (λp=>kV p.1)=ns.map V.str|[],_=>()|n::r,f=>by change V.str n::(gU r _).map _=V.str n::r.map V.str;rw[y9 r]
def j3(l:bE)(t:du):List Int:=t.arms.map λz=>((l.S.pl (cI t.nm z)).length:Int)
inductive Li(vs:List V)(H:Hp)(Q:VK)(_E:XK):Prop|mk(x:Str)(d:Addr)(kvs:List (bZ×V))(_:vs=[.str x,.ref d])(_:Wd x)(_:H d=some (.dK kvs))(_:(bf kvs (.inr x)).isSome=true)(_:∀H',am H H'->Q .non H')
inductive IK(P:Pa)(w:World)(K:O6)(a:fN)(vs:List V)(H:Hp)(Q:VK)(_E:XK):Prop|mk(M:bj)(Z:ZS)(c:Nat)(_:vs=[.ref (Z.G .hh)])(_:bK P w K a H M Z c)(_:∀(r:Addr)H',am H H'->H r=none->H' r=some (.lst ((M.trs.map du.nm).map V.str))->Q (.ref r) H')
inductive IO(P:Pa)(w:World)(K:O6)(a:fN)(vs:List V)(H:Hp)(Q:VK)(_E:XK):Prop|mk(M:bj)(Z:ZS)(c i j:Nat)(l:bE)(t:du)(z:Str)(_:vs=[.ref (Z.G .hh),.str t.nm,.str z])(_:bK P w K a H M Z c)(_:M.trs[j]?=some t)(_:M.las[i]?=some l)(_:l.nm=t.home)(_:∀(r:Addr)H',am H H'->H r=none->H' r=some (.lst ((l.S.pl (cI t.nm z)).map V.int))->Q (.ref r) H')
inductive Dk(P:Pa)(w:World)(K:O6)(a:fN)(vs:List V)(H:Hp)(Q:VK)(_E:XK):Prop|mk(M:bj)(Z:ZS)(c i j:Nat)(l:bE)(t:du)(_:vs=[.ref (Z.G .hh),.str t.nm])(_:bK P w K a H M Z c)(_:M.trs[j]?=some t)(_:M.las[i]?=some l)(_:l.nm=t.home)(_:∀(r:Addr)H',am H H'->H r=none->H' r=some (.tup ((j3 l t).map V.int))->Q (.ref r) H')
def zM(K:O6)(H:Hp)(S:AS)(p:Int)(v:V):Prop:=(v=.non/\∀k,p∉S.pl k)\/∃x y,p∈S.pl (cI x y)/\c8 K H (cI x y) v
def zM.kp{S:AS}{p:Int}{v:V}(e:Kp H H')(h:zM K H S p v):zM K H' S p v:=h.imp id λ⟨x,y,h1,h2⟩=>{x,y,h1,dW e h2}
theorem bK.own{M:bj}{Z:ZS}{c i:Nat}{l:bE}{p:Int}(h:bK P w K a H M Z c)(d:M.las[i]?=some l)(f:0<=p)(j:p<M.p):zM K H l.S p ((bf (Z.ow i) (.inl p)).getD .non):=by have b:=h.ok.la l (g_ d);obtain⟨_,⟨m,_,o⟩,r,_⟩:=h.g.tabs i l d;have e:=o.2 p f j;cases n:bf (Z.ow i) (.inl p)with|none=>rw[n]at e;show .inl {(),λk z=>?_};have:=(b.ok.in_ k p z).2.2;rw[<-e]at this;cases this|some v=>
  obtain⟨k,h1,h2⟩:=r p v f j n;rcases b.own k p h1 with rfl|⟨t,_,_,y,_,rfl⟩
  ·show .inr {_,_,h1,h2}
  ·show .inr {_,_,h1,h2}
def ye(K:O6)(H:Hp)(v:V)(l:bE):Prop:=∃b,v=.ref b/\aY K H b [.str l.nm,.int l.sl]
def ye.kp(e:Kp H H'){c:List V}{ls:List bE}(h:Paired (ye K H) c ls):Paired (ye K H') c ls:=Paired.mapP h λ_ _ q=>q.imp λ_ q=>{q.1,e.tq q.2}
inductive Dz(vs:List V)(H:Hp)(Q:VK)(_E:XK):Prop|mk(p n:Int)(_:vs=[.int p,.int n])(_:0<=p)(_:p<n)(_:Q .non H)
inductive BX(P:Pa)(w:World)(K:O6)(a:fN)(vs:List V)(H:Hp)(Q:VK)(_E:XK):Prop|mk(M:bj)(Z:ZS)(c j:Nat)(t:du)(_:vs=[.ref (Z.G .hh),.str t.nm])(_:bK P w K a H M Z c)(_:M.trs[j]?=some t)(_:∀H',am H H'->Q (.str t.home) H')
inductive Dm(P:Pa)(w:World)(K:O6)(a:fN)(vs:List V)(H:Hp)(Q:VK)(_E:XK):Prop|mk(M:bj)(Z:ZS)(c:Nat)(_:vs=[.ref (Z.G .hh)])(_:bK P w K a H M Z c)(_:Q (.int M.p) H)
inductive Gg(P:Pa)(w:World)(K:O6)(a:fN)(vs:List V)(H:Hp)(Q:VK)(_E:XK):Prop|mk(M:bj)(Z:ZS)(c i:Nat)(l:bE)(p:Int)(_:vs=[.ref (Z.G .hh),.str l.nm,.int p])(_:bK P w K a H M Z c)(_:M.las[i]?=some l)(_:0<=p)(_:p<M.p)(_:∀(v:V)H',am H H'->zM K H' l.S p v->Q v H')
inductive BW(P:Pa)(w:World)(K:O6)(a:fN)(vs:List V)(H:Hp)(Q:VK)(_E:XK):Prop|mk(M:bj)(Z:ZS)(c:Nat)(_:vs=[.ref (Z.G .hh)])(_:bK P w K a H M Z c)(_:∀(r:Addr)(us:List V)H',am H H'->H r=none->H' r=some (.lst us)->Paired (ye K H') us M.las->Q (.ref r) H')
inductive Ga(P:Pa)(w:World)(K:O6)(a:fN)(vs:List V)(H:Hp)(Q:VK)(_E:XK):Prop|mk(M:bj)(Z:ZS)(c:Nat)(_:vs=[.ref (Z.G .hh)])(_:bK P w K a H M Z c)(_:Q (.int M.salt) H)
inductive Jb(P:Pa)(w:World)(K:O6)(a:fN)(vs:List V)(H:Hp)(Q:VK)(_E:XK):Prop|mk(M:bj)(Z:ZS)(c:Nat)(_:vs=[.ref (Z.G .hh)])(_:bK P w K a H M Z c)(_:∀(r:Addr)H',am H H'->H r=none->H' r=some (.lst Z.ds)->Q (.ref r) H')
inductive Dn(P:Pa)(w:World)(K:O6)(a:fN)(vs:List V)(H:Hp)(Q:VK)(_E:XK):Prop|mk(M:bj)(Z:ZS)(c i:Nat)(l:bE)(g:Str)(_:vs=[.ref (Z.G .hh),.str l.nm,.str g])(_:bK P w K a H M Z c)(_:M.las[i]?=some l)(_:xg g)(_:∀H',am H H'->Q (.int (oh M.p M.salt l.sl g)) H')
inductive F1(P:Pa)(w:World)(K:O6)(a:fN)(vs:List V)(H:Hp)(Q:VK)(E:XK):Prop|mk(M:bj)(Z:ZS)(c:Nat)(g:Str)(mv:V)(ms:List (Str×Int))(_:vs=[.ref (Z.G .hh),.str g,mv])(_:bK P w K a H M Z c)(_:c<=63)(_:xg g)(_:qb K H ms mv)(_:(∀m∈ms,Wd m.1/\-cw<=m.2/\m.2<=cw))(_:(ms.map Prod.fst).Nodup)(_:ms.length<=8)(_:∀(r:Addr)(us:List V)(H':Hp),am H H'->H r=none->H' r=some (.lst us)->∀ss,eS K H' us ss->jW M g ms M.las ss->ss.length<=4->Q (.ref r) H')
section
def eY(T:Txt K mg a):aP P w K mg base cU 3 a.cW.x a.cW.d ["thing","names"] Li:=by
 show T.cW.ok tJ λf A outer s H i Q E c h=>?_
 ·obtain⟨x,d,b,rfl,h1,h2,h3,q⟩:=h;show{_,(ah (aN (PW.pt (eW (cu (aT K () (pc T.d9 (g9 T) c (ac (Y 0) O)) (λ_=>()))) (dJ (og (mJ (b7 c) (Y 0) (Y 1)) ())))) (ah cg) aF)),?_};show{_,(),V.str x,(),.inl {x,(),h1,λg e=>{_,(),cj ?_}}};show U () (U () (rG (bf b (.inr x)) (dA.k (k:=.inr x) (e _ _ h2)) (U () ?_)));rw[h3];show cj (q g e)
def uo(T:Txt K mg a):aP P w K mg base cU 3 a.gt.x a.gt.d ["thing","prime"] Dz:=by
 show T.gt.ok tH λb A outer s H e Q E c h=>?_
 ·obtain⟨z,p,rfl,h0,h1,q⟩:=h;show{_,(ah (aN (PW.pt (eW (cu (aT K () (pc T.eZ (gm T) c (ac (Y 0) O)) (λ_=>()))) (dJ (aD D4 (Y 0) (Y 1) (aG _))))) (ah cg) aF)),?_};show U () {z,(),h0,U () (cj ?_)};show U () (U () {z,p,(),(),U () (k9 (λh=>absurd h (by omega)) (λ_=>q))})
def lA(T:Txt K mg a):aP P w K mg base cU 1 a.cR.x a.cR.d ["self"] (IK P w K a):=by
 show T.cR.ok rY λf A outer s H i Q E j h=>?_
 ·obtain⟨M,Z,c,rfl,b,q⟩:=h;show{_,(ah (az (b0 (AQ ()) (by rfl) T.mf L2.gx (ac (aC K () (Y 0)) O)))),?_};show fM b.g.house T.ao T.aJ () () {Z.G .tn,U () {b.g.tris,λl e=>q l _ (aj (am.refl H) e) e (by rw[ae,y9])}}
def on(T:Txt K mg a):aP P w K mg base cU 2 a.cN.x a.cN.d ["self","trial","arm"] (IO P w K a):=by
 show T.cN.ok nV λS A outer s H vs Q E n h=>?_
 ·obtain⟨M,Z,c,i,j,l,t,z,rfl,e,L,B,hh,q⟩:=h;show{_,(ah (az (aS (aC K () (cQ (b7 n) (aC K () (Y 0)) (aC K () (cQ (b7 n) (aC K () (Y 0)) (Y 1) (λ_ _=>()))) (λ_ _=>()))) T.bn T.be.m ((d7 (P:=P) (w:=w) T).mono (by decide)) n T.be.b .nil aQ (ac (bp (ac (Y 1) (ac (Y 2) O))) O)))),?_};have N:=e.g.house;have C:=e.g.trial L;obtain⟨m,f,D⟩:=e.g.tab B;obtain⟨V,F⟩:=f.ins;have u:=e.ok.lget (Z:=Z) B;rw[hh]at u;show fM N T.ao T.aK () () ?_;show fM N T.ao T.aJ () () (U () (rG (.ref (Z.G (.tr j))) (by rw[<-e.ok.tget (Z:=Z) L];show dA.k (k:=.inr t.nm) e.g.tris) ?_));show rF C T.a0 T.eK () (rG (.ref (Z.G (.lo i))) (by rw[<-u];show dA.k (k:=.inr t.home) e.g.lays) ?_);show rF (e.g.layer B) T.bD T.dU () (rM F () ?_);show U () (U () {ls (),λv I=>?_});have y:=aj (o:=.tup [.str t.nm,.str z]) (am.refl H) I;have R:aH H v (.tup [.str t.nm,.str z]) v=some (.tup [.str t.nm,.str z]):=ae;generalize aH H v (.tup [.str t.nm,.str z])=H4 at y R⊢;show{Z.G (.tb i),Z.G (.od i),Z.G (.td i),M.p,Z.ow i,Z.tk i,m,cI t.nm z,.ref v,(),f.same y,{v,(),aY.of R},λr W X n J=>q r W (y.trans X) (y.free n) ?_};rw[<-D.1];show J
def sw(T:Txt K mg a):aP P w K mg base cU 4 a.eC.x a.eC.d ["self","trial"] (Dk P w K a):=by
 show T.eC.ok rZ λaa A outer s H vs Q E p h=>?_
 ·obtain⟨M,Z,c,i,j,l,t,rfl,o,y,hl,hh,q⟩:=h;show{_,(af (aM (pc T.cW (eY T) p (ac (Y 1) (ac (aC K () (Y 0)) O)))) (ah (az (b0 (fg K ()) (by rfl) T.d8 L2.bX (ac (rN jj ["arm"] [] [2] (ai ja) (ca 2) (iE K () (aC K () (cQ (b7 p) (aC K () (Y 0)) (Y 1) (λ_ _=>())))) (λcl C s₀ H₀ ex=>{(lE jj ["arm"] 2),bR,(aA (aI K ()) (by rfl) T.bC L2.aL (ac (aS (Y 0) T.ao T.cN.m ((on (P:=P) (w:=w) T).mono (by decide)) p T.cN.b .nil aQ (ac (Y 1) (ac (Y 2) O))) O))})) O))))),?_}
  have I:=o.g.house;have J:=o.g.trial y;have B:=o.ok.tr t (g_ y);obtain⟨F,-,-⟩:=o.g.trs j t y;have W:=o.ok.tget (Z:=Z) y;have a4:=B.a4;show U () (fM I T.ao T.aJ () () {t.nm,Z.G .tn,(gU (M.trs.map du.nm) λi=>.ref (Z.G (.tr i))),(),B.wd,o.g.tris,by rw[W];rfl,λH1 u=>?_});show fM (u _ _ I) T.ao T.aJ () () (U () (rG (.ref (Z.G (.tr j))) (by rw[<-W];show dA.k (k:=.inr t.nm) (u _ _ o.g.tris)) ?_));show rF (u _ _ J) T.a0 T.fO () {Z.ar j,(),{_,am.tseq u F},λD X=>?_};have L:H D=none:=u.free X;show gR (K:=K) (a:=Z.ar j) (xs:=t.arms.map V.str) (λk f H'=>am H H'/\H' D=some (.lst f)/\f=((j3 l t).take k).map V.int) {aj u X,ae,()} (λk f H' _ h=>am.tseq h.1 F) ?_ ?_
  ·rintro k x f H2 N⟨v,n,rfl⟩;have hi:k<(t.arms.map V.str).length:=(c_.mp N).1;rw[i_]at N;obtain⟨z,hz,rfl⟩:=Option.map_eq_some_iff.mp N;show au (iJ (bB ?_));show iS (v _ _ I) () () (U () (U () {M,Z,c,i,j,l,t,z,(),o.same v,y,hl,hh,λr H3 s3 p R=>?_}));show{_,U () {.inl {_,aR.of R,()},s3 _ _ n,by rw[b_,oD,mo];rw[b_]at hi;lia,lf hi {bG (v.trans s3) L,ae,?_}}};have e:(j3 l t)[k]?=some ((l.S.pl (cI t.nm z)).length:Int):=by unfold j3;rw[i_,hz];rfl
   rw[bx e,k_,b_];rfl
  ·rintro f H2⟨v,n,rfl⟩;rw[b_,l_ (by unfold j3;rw[b_];show e_ _)]at n;show{D,U () (.inl {aR.of n,λr p=>q r _ (aj v p) (v.free p) ae})}
def lZ(T:Txt K mg a):aP P w K mg base cU 1 a.dH.x a.dH.d ["self"] (Dm P w K a):=by
 show T.dH.ok tQ λb A outer s H f Q E i h=>?_
 ·obtain⟨M,Z,c,rfl,e,q⟩:=h;show{_,(ah (az (aC K () (Y 0)))),?_};show fM e.g.house T.ao T.bW () () q
def vH(T:Txt K mg a):aP P w K mg base cU 1 a.gi.x a.gi.d ["self"] (Ga P w K a):=by
 show T.gi.ok vq λb A outer s H f Q E i h=>?_
 ·obtain⟨M,Z,c,rfl,e,q⟩:=h;show{_,(ah (az (aC K () (Y 0)))),?_};show fM e.g.house T.ao T.gM () () q
def nK(T:Txt K mg a):aP P w K mg base cU 1 a.eE.x a.eE.d ["self"] (Jb P w K a):=by
 show T.eE.ok vx λf A outer s H i Q E j h=>?_
 ·obtain⟨M,Z,c,rfl,b,q⟩:=h;show{_,(ah (az (b0 (ic K ()) (by rfl) T.mf L2.gx (ac (aC K () (Y 0)) O)))),?_};show fM b.g.house T.ao T.je () () {Z.G .dl,U () {.inl (aR.of b.g.dees),λl e=>q l _ (aj (am.refl H) e) e ae}}
def pJ(T:Txt K mg a):aP P w K mg base cU 4 a.db.x a.db.d ["self","trial"] (BX P w K a):=by
 show T.db.ok oV λp A outer s H u Q E m h=>?_
 ·obtain⟨M,Z,c,j,t,rfl,b,f,q⟩:=h;show{_,(af (aM (pc T.cW (eY T) m (ac (Y 1) (ac (aC K () (Y 0)) O)))) (ah (az (aC K () (cQ (b7 m) (aC K () (Y 0)) (Y 1) (λ_ _=>())))))),?_}
  have n:=b.g.house;have l:=b.ok.tr t (g_ f);have o:=b.ok.tget (Z:=Z) f;show U () (fM n T.ao T.aJ () () {t.nm,Z.G .tn,(gU (M.trs.map du.nm) λi=>.ref (Z.G (.tr i))),(),l.wd,b.g.tris,by rw[o];rfl,λr e=>?_});show fM (e _ _ n) T.ao T.aJ () () (U () (rG (.ref (Z.G (.tr j))) (by rw[<-o];show dA.k (k:=.inr t.nm) (e _ _ b.g.tris)) ?_));show rF (e _ _ (b.g.trial f)) T.a0 T.eK () (q r e)
def uy(T:Txt K mg a):aP P w K mg base cU 4 a.ft.x a.ft.d ["self","layer","place"] (Gg P w K a):=by
 show T.ft.ok tS λB A outer s H J Q E r h=>?_
 ·obtain⟨M,Z,c,i,l,p,rfl,j,n,v,y,q⟩:=h;show{_,(af (aM (pc T.cW (eY T) r (ac (Y 1) (ac (aC K () (Y 0)) O)))) (af (aM (pc T.gt (uo T) r (ac (Y 2) (ac (aC K () (Y 0)) O)))) (ah (az (aS (aC K () (cQ (b7 r) (aC K () (Y 0)) (Y 1) (λ_ _=>()))) T.bn T.ck.m ((jB (P:=P) (w:=w) T).mono (by decide)) r T.ck.b .nil aQ (ac (Y 2) O)))))),?_}
  have t:=j.g.house;have z:=j.ok.lget (Z:=Z) n;have C:=j.ok.la l (g_ n);show U () (fM t T.ao T.aK () () {l.nm,Z.G .ln,(gU (M.las.map bE.nm) λi=>.ref (Z.G (.lo i))),(),C.wd,j.g.lays,by rw[z];rfl,λD o=>?_});have f:=j.same o;obtain⟨m,e,F⟩:=f.g.tab n;obtain⟨I,u⟩:=e.ins;show U () (fM (o _ _ t) T.ao T.bW () () {p,M.p,(),v,y,?_});show fM (o _ _ t) T.ao T.aK () () (U () (rG (.ref (Z.G (.lo i))) (by rw[<-z];show dA.k (k:=.inr l.nm) (o _ _ j.g.lays)) ?_));show rF (f.g.layer n) T.bD T.dU () (rM u () (U () {Z.G (.tb i),Z.G (.od i),Z.G (.td i),M.p,Z.ow i,Z.tk i,m,p,(),e,q _ D o (f.own n v y)}))
def lB(T:Txt K mg a):aP P w K mg base cU 1 a.cS.x a.cS.d ["self"] (BW P w K a):=by
 show T.cS.ok sd λas A outer s H vs Q E hr h=>?_
 ·obtain⟨M,Z,c,rfl,R,q⟩:=h;show{_,(ah (az (Ai (P:=P) (w:=w) (rN ["self"] ["name","layer"] [] [1,2] (ai jb) (qL _ 1 2) (pE (P:=P) (w:=w) (aC K () (Y 0))) (λcl C s₀ H₀ ex=>{(fZ K () () (bu (lE ["self"] ["name","layer"] 1) (bu (lE ["self"] ["name","layer"] 2) fY))),bR,(bp (ac (Y 1) (ac (aC K () (Y 2)) O)))}))))),?_}
  have ax:=R.ok.l4;have F:=R.g.lays;show fM R.g.house T.ao T.aK () () {Z.G .ln,U () {F,λep=>λD S=>?_}};have nd:Z.G .ln≠D:=λz=>by rw[<-z,ae]at S;cases S
  have m:H D=none:=by rw[ak (p_ nd)]at S;show S
  show pX (n:=M.las.length) (λk f I=>(∀b o,H b=some o->b≠Z.G .ln->I b=some o)/\I (Z.G .ln)=some (dE P w (Z.G .ln) (gU (M.las.map bE.nm) λi=>.ref (Z.G (.lo i))) ep)/\I D=some (.lst f)/\Paired (ye K I) f (M.las.take k)) {λb o e n=>by rw[ak (av e m),ak n];show e,by rw[ak nd,ae],ae,.nil} (λk f I V h=>{h.2.1,by rw[gJ,b_];show V}) ?_ ?_
  ·rintro k f p x v V⟨W,j,t,l⟩⟨X,kk,vv,aa,rfl,rfl,J⟩;have hl:=h_ V;rw[uz,i_,hl]at J;obtain⟨rfl,rfl⟩:=NK (n_ J);have y:=aj (o:=.tup [kV (.inr (M.las[k]).nm),.ref (Z.G (.lo k))]) (am.refl p) aa;have e5:aH p X (.tup [kV (.inr (M.las[k]).nm),.ref (Z.G (.lo k))]) X=some (.tup [.str (M.las[k]).nm,.ref (Z.G (.lo k))]):=ae;generalize aH p X (.tup [kV (.inr (M.las[k]).nm),.ref (Z.G (.lo k))])=v at y e5⊢;have ad:q8 P w K a H v M Z c:={R,λb o e n=>y _ _ (W b o e n)};show{X,U () {aY.of e5,(),_,U () (au {_,U () (au {(),iJ (bB ?_)})})}};have an:=ad.at_ (r:=.lo k) (by simp only[cont,hl];rfl) (by simp);show U () (fM an T.bD T.gL () () {ls (),λB ap=>?_});have L:=aj (o:=.tup [.str (M.las[k]).nm,.int (M.las[k]).sl]) (am.refl v) ap;have e6:aH v B (.tup [.str (M.las[k]).nm,.int (M.las[k]).sl]) B=some (.tup [.str (M.las[k]).nm,.int (M.las[k]).sl]):=ae;change aH v B (.tup [.str (M.las[k]).nm,.int (M.las[k]).sl]) D=some (.lst f)/\_;generalize aH v B (.tup [.str (M.las[k]).nm,.int (M.las[k]).sl])=H6 at L e6⊢;have N:=L _ _ (y _ _ t);have kp:Kp H6 (aH H6 D (.lst (f++[.ref B]))):=.lst N;have a3:f.length=k:=by have:=Paired.length l;rw[oD]at this;lia
   show{N,by rw[mo];lia,lf V {λb o e n=>by rw[ak (av e m)];show L _ _ (y _ _ (W b o e n)),by rw[ak nd];show L _ _ (y _ _ j),ae,?_}};rw[bx hl];show Paired.snoc (ye.kp ((Kp.trans (.of y) (.of L)).trans kp) l) {B,(),kp.tq (aY.of e6)}
  ·rintro f p⟨W,j,t,l⟩;rw[l_ (e_ _)]at l;show{{j,by rw[gJ,b_];show e_ _},Z.G .ln,_,ep,j,?_};have sF:am H (aH p (Z.G .ln) (.dK (gU (M.las.map bE.nm) λi=>.ref (Z.G (.lo i))))):=λb o e=>by
    by_cases z:b=Z.G .ln
    ·rw[z,F]at e;rw[z,ae];show e
    ·rw[ak z];show W b o e z
   have kp:Kp p (aH p (Z.G .ln) (.dK (gU (M.las.map bE.nm) λi=>.ref (Z.G (.lo i))))):={λu xs e=>by rw[ak λz=>by rw[z,j]at e;cases e];show e,λu o⟨o',e⟩=>{o',by rw[ak λz=>by rw[z,j]at e;cases e];show e}};show q D f _ sF m (by rw[ak (p_ nd)];show t) (ye.kp kp l)
def ux(T:Txt K mg a):aP P w K mg base cU 8 a.fq.x a.fq.d ["self","layer","guest"] (Dn P w K a):=by
 show T.fq.ok tR λv A outer s H I Q E o h=>?_
 ·obtain⟨M,Z,c,i,l,g,rfl,j,r,hg,q⟩:=h;show{_,(af (aM (pc T.cW (eY T) o (ac (Y 1) (ac (aC K () (Y 0)) O)))) (af (aM (pc T.cH (dS T) o (ac (Y 2) O))) (ah (az (aS (Y 0) T.ao T.bH.m ((gH (P:=P) (w:=w) T).mono (by decide)) o T.bH.b .nil aQ (ac (cQ (b7 o) (aC K () (Y 0)) (Y 1) (λ_ _=>())) (ac (Y 2) O))))))),?_}
  have y:=j.g.house;have t:=j.ok.lget (Z:=Z) r;have u:=j.ok.la l (g_ r);have J:=j.ok.p;have z:=u.sl;show U () (fM y T.ao T.aK () () {l.nm,Z.G .ln,(gU (M.las.map bE.nm) λi=>.ref (Z.G (.lo i))),(),u.wd,j.g.lays,by rw[t];rfl,λL B=>?_});show U () {g,(),hg,λN C=>?_};have n:=B.trans C;have e:=j.same n;have f:=e.g.house;show iS f () () (fM f T.ao T.aK () () (U () (rG (.ref (Z.G (.lo i))) (by rw[<-t];show dA.k (k:=.inr l.nm) e.g.lays) ?_)));show U () {Z.G .hh,Z.G (.lo i),_,_,_,_,M.p,M.salt,l.sl,g,(),f,(),(),e.g.layer r,(),hg,{by omega,by omega},{by omega,by omega},λD F=>q D (n.trans F)}
def lY(T:Txt K mg a):aP P w K mg base cU 10 a.dG.x a.dG.d ["self","guest","marks"] (F1 P w K a):=by
 show T.dG.ok tP λp A outer s H F Q E f h=>?_
 ·obtain⟨M,Z,c,g,k,l,rfl,t,hc,hg,hm,h3,h4,n,q⟩:=h;show{_,(af (aM (pc T.cH (dS T) f (ac (Y 1) O))) (af (aM (pc T.fe (lX T) f (ac (Y 2) O))) (ah (az (aS (Y 0) T.ao T.bA.m ((iG (P:=P) (w:=w) T).mono (by decide)) f T.bA.b .nil aQ (ac (Y 1) (ac (Y 2) O))))))),?_}
  show U () {g,(),hg,λG o=>?_};show U () {k,l,(),hm.kp (.of o),h3,h4,n,λI u=>?_};have e:=o.trans u;have i:=t.same e;show iS i.g.house () () (U () (U () {M,Z,c,g,k,l,(),i,hc,hg,hm.kp (.of e),n,λr v y z f j B C D h4=>q r v y (e.trans z) (e.free f) j B C D h4}))
end
def xa(K:O6)(H:Hp)(g:Str)(d:List V)(ls:List bE):Prop:=Paired (λ(u:V)(l:bE)=>∃b c,u=.ref b/\aY K H b [.str l.nm,c]/\u5 K H c (c6 l g)) d ls
theorem xa.kp{g:Str}(e:Kp H H'){c:List V}{ls:List bE}(h:xa K H g c ls):xa K H' g c ls:=Paired.mapP h λ_ _ q=>q.imp λ_ q=>q.imp λ_ q=>{q.1,e.tq q.2.1,q.2.2.kp e}
def xa.get{g:Str}{c:List V}{ls:List bE}(h:xa K H g c ls)(k:Nat)(u:V)(e:c[k]?=some u):∃l,ls[k]?=some l/\∃b d,u=.ref b/\aY K H b [.str l.nm,d]/\u5 K H d (c6 l g):=Paired.at_ h k u e
inductive F8(P:Pa)(w:World)(K:O6)(a:fN)(vs:List V)(H:Hp)(Q:VK)(_E:XK):Prop|mk(M:bj)(Z:ZS)(c:Nat)(g:Str)(_:vs=[.ref (Z.G .hh),.str g])(_:bK P w K a H M Z c)(_:xg g)(_:∀(r:Addr)(us:List V)H',am H H'->H r=none->H' r=some (.lst us)->eS K H' us (Dc M g)->Q (.ref r) H')
inductive IY(P:Pa)(w:World)(K:O6)(a:fN)(vs:List V)(H:Hp)(Q:VK)(_E:XK):Prop|mk(M:bj)(Z:ZS)(c:Nat)(g:Str)(_:vs=[.ref (Z.G .hh),.str g])(_:bK P w K a H M Z c)(_:c<=200)(_:xg g)(_:∀(r:Addr)(us:List V)H',am H H'->H r=none->H' r=some (.lst us)->fK K H' us (dX M.came g)->Q (.ref r) H')
inductive JC(P:Pa)(w:World)(K:O6)(H1:Hp)(M:bj)(Z:ZS)(g:Str)(D:Addr)(ep:Nat)(k:Nat)(acc:List V)(H2:Hp):Prop|mk(f:∀b o,H1 b=some o->b≠Z.G .ln->H2 b=some o)(hu:H2 (Z.G .ln)=some (dE P w (Z.G .ln) (gU (M.las.map bE.nm) λi=>.ref (Z.G (.lo i))) ep))(hD:H2 D=some (.lst acc))(hR:xa K H2 g acc (M.las.take k)):JC P w K H1 M Z g D ep k acc H2
section
def uw(T:Txt K mg a):aP P w K mg base cU 4 a.fk.x a.fk.d ["self","guest"] (F8 P w K a):=by
 show T.fk.ok lN λbi A outer s H vs Q E hr h=>?_
 ·obtain⟨M,Z,c,g,rfl,hZ,hg,q⟩:=h;show{_,(af (aM (pc T.cH (dS T) hr (ac (Y 1) O))) (af (Ae (P:=P) (w:=w) (Hw 2 dN ["name","layer"] [] [3,4] (ai iC) (qL _ 3 4) (pE (P:=P) (w:=w) (aC K () (Y 0))) (λcl C s₀ H₀ ex=>{(fZ K () () (bu (lE dN ["name","layer"] 3) (bu (lE dN ["name","layer"] 4) fY))),bR,(bp (ac (Y 3) (ac (uh (b7 hr) (aC K () (Y 4)) (Y 1) {(),(),(),()}) O)))}) lN.nd)) (ah (az (rN dN ["name","seat"] [] [3,4] (ai iC) (qL _ 3 4) (cP K () (Y 2)) (λcl C s₀ H₀ ex=>{(fZ K () () (bu (lE dN ["name","seat"] 3) (bu (lE dN ["name","seat"] 4) fY))),(pC (aD Bk (Y 4) oj (aG _))),(aB (uj K ()) (bp (ac (Y 3) O)) (Y 4))})))))),?_}
  have ad:=hZ.ok.l4;show U () {g,(),hg,λH1 s1=>?_};have J:=hZ.same s1;have an:=J.g.lays;show fM J.g.house T.ao T.aK () () {Z.G .ln,U () {an,λep=>λD hD=>?_}};have nd:Z.G .ln≠D:=λz=>by rw[<-z,ae]at hD;cases hD
  have ap:H1 D=none:=by rw[ak (p_ nd)]at hD;show hD
  show pX (n:=M.las.length) (JC P w K H1 M Z g D ep) {λb o e n=>by rw[ak (av e ap),ak n];show e,by rw[ak nd,ae],ae,.nil} (λk f H2 R h=>by obtain⟨_,h,_⟩:=h;show{h,by rw[gJ,b_];show R}) ?_ ?_
  ·rintro k f H4 x H5 R⟨f4,t,S,I⟩⟨T1,kk,vv,a8,rfl,rfl,as⟩;obtain⟨l,N⟩:∃l,M.las[k]?=some l:={_,h_ R};rw[uz,i_,N]at as;obtain⟨rfl,rfl⟩:=NK (n_ as);show fB a8 λH5 s5 e5=>?_;have e5:H5 T1=some (.tup [.str l.nm,.ref (Z.G (.lo k))]):=e5;have V:q8 P w K a H1 H5 M Z c:={J,λb o e n=>s5 _ _ (f4 b o e n)};show{T1,U () {aY.of e5,(),_,U () (au {_,U () (au {(),iJ (bB ?_)})})}};have a9:=V.at_ (r:=.lo k) (by simp only[cont,N];rfl) (by simp);have ax:=V.at_ (r:=.iu k) (by simp only[cont,N];rfl) (by simp);show U () (fM a9 T.bD T.bJ () () {Z.G (.iu k),(),.inl {_,.inl ax},U () {bf (Z.iv k) (.inr g),dA.k (k:=.inr g) ax,ls (),λT6 ba=>?_}});show fB ba λH6 F e6=>?_;have m:=F _ _ (s5 _ _ S);have kp:Kp H6 (aH H6 D (.lst (f++[.ref T6]))):=.lst m;have a3:f.length<=4:=by rw[Paired.length I];show nr (List.length_take_le' _ _) ad
   show{m,by rw[mo];lia,lf R {λb o e n=>by rw[ak (av e ap)];show F _ _ (s5 _ _ (f4 b o e n)),by rw[ak nd];show F _ _ (s5 _ _ t),ae,?_}};rw[bx N];have bb:=(J.g.seats k _ N).seat g;show Paired.snoc (((I.kp (.of s5)).kp (.of F)).kp kp) {T6,U () {kp.tq (aY.of e6),((bb.kp V.kp).kp (.of F)).kp kp}}
  ·rintro f H4⟨f4,t,S,I⟩;rw[l_ (e_ _)]at I;show{{t,by rw[gJ,b_];show e_ _},au {Z.G .ln,_,ep,t,?_}};have sF:am H1 (aH H4 (Z.G .ln) (.dK (gU (M.las.map bE.nm) λi=>.ref (Z.G (.lo i))))):=λb o e=>by
    by_cases z:b=Z.G .ln
    ·rw[z,an]at e;rw[z,ae];show e
    ·rw[ak z];show f4 b o e z
   have kp:Kp H4 (aH H4 (Z.G .ln) (.dK (gU (M.las.map bE.nm) λi=>.ref (Z.G (.lo i))))):={λu xs e=>by rw[ak λz=>by rw[z,t]at e;cases e];show e,λu o⟨o',e⟩=>{o',by rw[ak λz=>by rw[z,t]at e;cases e];show e}};have W:aH H4 (Z.G .ln) (.dK (gU (M.las.map bE.nm) λi=>.ref (Z.G (.lo i)))) D=some (.lst f):=by rw[ak (p_ nd)];show S
   have X:=I.kp kp;generalize aH H4 (Z.G .ln) (.dK (gU (M.las.map bE.nm) λi=>.ref (Z.G (.lo i))))=H5 at sF W X⊢;have a3:f.length=M.las.length:=Paired.length X;show U () {D,(),{_,aR.of W},λD2 aa=>?_};show i0 (K:=K) (a:=D) (xs:=f) (λk j H'=>am H5 H'/\H' D2=some (.lst j)/\eS K H' j ((M.las.take k).filterMap λl=>(c6 l g).map λp=>(l.nm,p.1,p.2))) {aj (am.refl _) aa,ae,.nil} (λk j H' _ h=>aR.of (h.1 _ _ W)) ?_ ?_
   ·rintro k v j H6 hv⟨F,m,y⟩;have R:k<f.length:=(c_.mp hv).1;obtain⟨l,N,b,sv,rfl,hb,B⟩:=X.get k v hv;have bh:j.length<=4:=by rw[Paired.length y];show nr (N_ _ _) (nr (List.length_take_le' _ _) ad)
    show{b,U () {am.tseq F hb,(),_,U () (au {_,U () (au {(),?_})})}};cases L:c6 l g with|none=>rw[L]at B;have B:sv=.non:=B;subst B;show U () {(),U () (cj (lf R {F,m,?_}))};rw[bx N,u2,t4,L];show(q4 _).symm▸y|some p=>rw[L]at B;obtain⟨s,rfl,hs⟩:=B;show U () {(),U () (bB (U () {ls (),λT7 a5=>(U () {T7,s,[.str l.nm],U () {(),aY.of ae,am.tseq (aj F a5) hs,by simp,by rw[mo];simp,λz=>(nomatch z),λ_ T8 bc=>?_}})}))};show fB bc λH9 s8 e9=>?_;have s9:=(aj (o:=.tup [.str l.nm]) (am.refl H6) a5).trans s8;have e9:H9 T8=some (.tup [.str l.nm,.str p.1,.str p.2]):=e9;have a6:=s9 _ _ m;have a7:Kp H9 (aH H9 D2 (.lst (j++[.ref T8]))):=.lst a6;show{a6,by rw[mo];lia,lf R {bG (F.trans s9) aa,ae,?_}};rw[bx N,u2,t4,L];show Paired.snoc ((y.kp (.of s9)).kp a7) {T8,(),a7.tq (aY.of e9)}
   ·rintro j H6⟨F,m,y⟩;rw[a3,l_ (e_ _)]at y;show q D2 j H6 ((s1.trans sF).trans F) (s1.free (sF.free aa)) m y
def vI(T:Txt K mg a):aP P w K mg base cU 4 a.gj.x a.gj.d ["self","guest"] (IY P w K a):=by
 show T.gj.ok vw λC A outer s H N Q E i h=>?_
 ·obtain⟨M,Z,c,g,rfl,D,hc,hg,q⟩:=h;show{_,(af (aM (pc T.cH (dS T) i (ac (Y 1) O))) (ah (az (b0 (ic K ()) (by rfl) T.mf L2.gx (ac (ug (b7 i) (aC K () (Y 0)) (Y 1) (bg O) {(),(),(),()}) O))))),?_}
  show U () {g,(),hg,λp v=>?_};have f:=D.same v;show fM f.g.house T.ao T.c7 () () {Z.G .ci,(),.inl {_,.inl f.g.cams},U () {ls (),λj t=>?_}};have m:=aj (o:=.lst []) (am.refl p) t;have y:aH p j (.lst []) j=some (.lst []):=ae;generalize aH p j (.lst [])=z at m y⊢;show{bf Z.cv (.inr g),dA.k (k:=.inr g) (m _ _ f.g.cams),?_};obtain⟨n,b,F,u,I⟩:∃n b,(bf Z.cv (.inr g)).getD (.ref j)=.ref n/\z n=some (.lst b)/\fK K z b (dX M.came g):=by
   rcases f.g.came.find g with⟨e,J⟩|⟨l,L,e,_,h2,h3,h4⟩
   ·show{j,[],by rw[e];rfl,y,by rw[J];show .nil}
   ·show{l,L,by rw[e];rfl,m _ _ h2,h3.kp (.of m)}
  rw[F];have B:=v.trans m;show{n,b,(),.inl (aR.of u),λr i=>q r b _ (aj B i) (B.free i) ae (I.kp (.of (aj (am.refl _) i)))}
end
def zR(ins:List (Str×Str×Str))(t:Str):List (List Str):=(ins.filter λx=>decide (x.2.1=t)).map λx=>[x.1,x.2.2]
inductive Lc(P:Pa)(w:World)(K:O6)(a:fN)(vs:List V)(H:Hp)(Q:VK)(_E:XK):Prop|mk(M:bj)(Z:ZS)(c i j:Nat)(l:bE)(t:du)(_:vs=[.ref (Z.G .hh),.str t.nm])(_:bK P w K a H M Z c)(_:c<=63)(_:M.trs[j]?=some t)(_:M.las[i]?=some l)(_:l.nm=t.home)(_:∀(r:Addr)(us:List V)H',am H H'->H r=none->H' r=some (.lst us)->fi K H' us (A6 (zR l.ins t.nm))->Q (.ref r) H')
def wa{ins:List (Str×Str×Str)}{t:Str}{y:Str×Str×Str}:zR (ins++[y]) t=zR ins t++if y.2.1=t then[[y.1,y.2.2]]else[]:=by
 unfold zR;rw[NZ,k_]
 by_cases e:y.2.1=t
 ·rw[md e,Oi (by simp[e])];rfl
 ·rw[me e,Oj (by simp[e])];rfl
def KU{ins:List (Str×Str×Str)}{t:Str}:∀d∈zR ins t,d.length=2:=λd hd=>by obtain⟨_,_,rfl⟩:=oi.mp hd;rfl
inductive JW(P:Pa)(w:World)(K:O6)(H1:Hp)(u:Addr)(iv:List (bZ×V))(ins:List (Str×Str×Str))(t:Str)(D:Addr)(ep k:Nat)(acc:List V)(H2:Hp):Prop|mk(us:Pf)(f:∀b o,H1 b=some o->b≠u->H2 b=some o)(hu:H2 u=some (dE P w u iv ep))(hD:H2 D=some (.lst acc))(e:acc=us.map V.ref)(hk:us.length<=k)(hR:Paired (λ(u:Addr)(d:Pb)=>aY K H2 u (d.map V.str)) us (zR (ins.take k) t)):JW P w K H1 u iv ins t D ep k acc H2
section
def xD(T:Txt K mg a):aP P w K mg base cU 4 a.ip.x a.ip.d ["self","trial"] (Lc P w K a):=by
 show T.ip.ok oT λbh A outer s H vs Q E I h=>?_
 ·obtain⟨M,Z,c,i,j,l,t,rfl,F,hc,hj,W,hh,q⟩:=h;show{_,(af (aM (pc T.cW (eY T) I (ac (Y 1) (ac (aC K () (Y 0)) O)))) (af (bo 2 oT.nd (aC K () (cQ (b7 I) (aC K () (Y 0)) (aC K () (cQ (b7 I) (aC K () (Y 0)) (Y 1) (λ_ _=>()))) (λ_ _=>())))) (ah (az (aA (uP K ()) (by rfl) T.uA L2.mq (ac (Ai (P:=P) (w:=w) (rN jE ["guest","seat"] [] [3,4] (ai lS) (qL _ 3 4) (pE (P:=P) (w:=w) (Y 2)) (λcl C s₀ H₀ ex=>{(fZ K () () (bu (lE jE ["guest","seat"] 3) (bu (lE jE ["guest","seat"] 4) fY))),(pC (aD aX (dP K (Y 4) ag) (Y 1) (aG _))),(bp (ac (Y 3) (ac (dP K (Y 4) ag) O)))}))) O)))))),?_}
  have hI:=F.g.house;have bi:=F.g.trial hj;have a6:=F.ok.tr t (g_ hj);have hv:=F.ok.tget (Z:=Z) hj;have X:=F.ok.lget (Z:=Z) W;rw[hh]at X;have bc:=(F.ok.la l (g_ W)).len;show U () (fM hI T.ao T.aJ () () {t.nm,Z.G .tn,(gU (M.trs.map du.nm) λi=>.ref (Z.G (.tr i))),(),a6.wd,F.g.tris,by rw[hv];rfl,λN s1=>?_});have f:=F.same s1;show fM f.g.house T.ao T.aK () () ?_;show fM f.g.house T.ao T.aJ () () (U () (rG (.ref (Z.G (.tr j))) (by rw[<-hv];show dA.k (k:=.inr t.nm) f.g.tris) ?_));show rF (f.g.trial hj) T.a0 T.eK () (rG (.ref (Z.G (.lo i))) (by rw[<-X];show dA.k (k:=.inr t.home) f.g.lays) ?_);show rF (f.g.layer W) T.bD T.bJ () (au ?_);have v:N (Z.G (.iu i))=some (.dK (Z.iv i)):=f.g.at_ (.iu i) _ (by simp only[cont,W];rfl);have aa:=f.g.seats i l W;have ad:(Z.iv i).length=l.ins.length:=Paired.length aa;show U () {Z.G (.iu i),U () {v,λep=>λD hD=>?_}};have nd:Z.G (.iu i)≠D:=λz=>by rw[<-z,ae]at hD;cases hD
  have an:N D=none:=by rw[ak (p_ nd)]at hD;show hD
  show pX (n:=(Z.iv i).length) (JW P w K N (Z.G (.iu i)) (Z.iv i) l.ins t.nm D ep) {[],λb o e n=>by rw[ak (av e an),ak n];show e,by rw[ak nd,ae],ae,(),e_ _,.nil} (λk ap H2 hk h=>by obtain⟨_,_,h,_⟩:=h;show(h,hk,)) ?_ ?_
  ·rintro k ap R x H5 hk⟨S,f4,m,B,rfl,J,p⟩⟨T1,kk,vv,a7,rfl,rfl,a8⟩;obtain⟨y,hy,rfl,s,rfl,a9⟩:=Paired.at_ aa k _ a8;show fB a7 λH5 L e5=>?_;have e5:H5 T1=some (.tup [.str y.1,.ref s]):=e5;have f5:∀b o,N b=some o->b≠Z.G (.iu i)->H5 b=some o:=λb o e n=>L _ _ (f4 b o e n);have ba:Kp N H5:={λu xs e=>f5 _ _ e λz=>(by rw[z,v]at e;cases e),λu o⟨o',e⟩=>{o',f5 _ _ e λz=>by rw[z,v]at e;cases e}};have as:=ba.tq a9;show{T1,U () {aY.of e5,(),_,U () (au {_,U () (au {(),?_})})}};show U () (rX as (aq (k:=0) ()) (U () {(),U () ?_}));change if decide (V.str y.2.1=V.str t.nm)=true then _ else _
   show k9 (λe=>?_) (λe=>?_)
   ·have e:y.2.1=t.nm:=V.str.inj e;show U () (U () (rX as (aq (k:=1) ()) {ls (),λT6 bb=>?_}));show fB bb λH6 s6 e6=>?_;have ax:=s6 _ _ (L _ _ B);have kp:Kp H6 (aH H6 D (.lst (S.map V.ref++[.ref T6]))):=.lst ax;show{ax,by rw[b_,mo];omega,lf hk {S++[T6],λb o e n=>by rw[ak (av e an)];show s6 _ _ (f5 b o e n),by rw[ak nd];show s6 _ _ (L _ _ m),ae,by rw[k_];rfl,by rw[mu];show L_ J,?_}};rw[bx hy,wa,md e];show Paired.snoc (Paired.mapP p λ_ _ q=>kp.tq ((Kp.of s6).tq ((Kp.of L).tq q))) (kp.tq (aY.of e6))
   ·show lf hk {S,f5,L _ _ m,L _ _ B,(),G_ J,by rw[bx hy,wa,me (λz=>e (by rw[z])),q4];show Paired.mapP p λ_ _ q=>(Kp.of L).tq q}
  ·rintro ap R⟨S,f4,m,B,rfl,J,p⟩;rw[ad,l_ (e_ _)]at p;show{{m,e_ _},Z.G (.iu i),_,ep,m,?_};have sF:am N (aH R (Z.G (.iu i)) (.dK (Z.iv i))):=λb o e=>by
    by_cases z:b=Z.G (.iu i)
    ·rw[z,v]at e;rw[z,ae];show e
    ·rw[ak z];show f4 b o e z
   have kp:Kp R (aH R (Z.G (.iu i)) (.dK (Z.iv i))):={λu xs e=>by rw[ak λz=>by rw[z,m]at e;cases e];show e,λu o⟨o',e⟩=>{o',by rw[ak λz=>by rw[z,m]at e;cases e];show e}};have a3:aH R (Z.G (.iu i)) (.dK (Z.iv i)) D=some (.lst (S.map V.ref)):=by rw[ak (p_ nd)];show B
   have a5:=Paired.mapP p λ_ _ q=>kp.tq q;generalize aH R (Z.G (.iu i)) (.dK (Z.iv i))=H5 at sF a3 a5⊢;show{D,S,_,2,(),aR.of a3,by omega,by decide,KU,a5,λr vs I hp=>?_};show q r (vs.map V.ref) _ (s1.trans (aj sF I)) (s1.free (sF.free I)) ae (fi.of (Paired.mapP hp λ_ _ q=>am.tseq (aj (am.refl _) I) q))
end
inductive Dt|n|i(z:Int)|s(x:Str)|r(a:Addr)|l(ds:List Dt)|t(ds:List Dt)
mutual
inductive gS(K:O6)(H:Hp):Nat->Dt->V->Prop|n{k:Nat}:gS K H k .n .non|i{k:Nat}{z:Int}:gS K H k (.i z) (.int z)|s{k:Nat}{x:Str}:gS K H k (.s x) (.str x)|r{k:Nat}{a:Addr}:gS K H k (.r a) (.ref a)|l{k:Nat}{ds:List Dt}{p:Addr}{xs:List V}(h:aR K H p xs)(hs:DtsAt K H k ds xs):gS K H (k+1) (.l ds) (.ref p)|t{k:Nat}{ds:List Dt}{p:Addr}{xs:List V}(h:aY K H p xs)(hs:DtsAt K H k ds xs):gS K H (k+1) (.t ds) (.ref p)
inductive DtsAt(K:O6)(H:Hp):Nat->List Dt->List V->Prop|nil{k:Nat}:DtsAt K H k [] []|cons{k:Nat}{d:Dt}{ds:List Dt}{x:V}{xs:List V}(h:gS K H k d x)(hs:DtsAt K H k ds xs):DtsAt K H k (d::ds) (x::xs)
end
section
open PySem.Spec PyProof.Rows PySem.W
variable{X:Cx}{a:O8}{c:L2.St}{H:Hp}{s:Shared}
def DtsAt.sm{A:Around}{k:Nat}(f:∀{d:Dt}{x y:V}{u v:Value},gS X.K H k d x->gS X.K H k d y->aV x u->aV y v->SeqAt.EqAt A s u v true):∀{ds:List Dt}{m n:List V}{i l:O_},DtsAt X.K H k ds m->DtsAt X.K H k ds n->aZ m i->aZ n l->i.length=l.length/\∀j(h1:j<i.length)(h2:j<l.length),SeqAt.EqAt A s i[j] l[j] true:=by
 intro ds
 induction ds with|nil=>intro m n i l h1 h2 b r2;cases h1;cases h2;cases b;cases r2;show{(),λj h=>absurd h (Ow _)}|cons d ds o=>intro m n i l h1 h2 b r2;cases h1 with|cons a1 b1=>cases h2 with|cons a2 b2=>cases b with|cons p q=>cases r2 with|cons r t=>obtain⟨e,g⟩:=o b1 b2 q t;show{r_ Nat.succ e,λj h1 h2=>?_};cases j with|zero=>show f a1 a2 p r|succ j=>show g j (Nat.lt_of_succ_lt_succ h1) (Nat.lt_of_succ_lt_succ h2)
def By{A:Around}{p q:Addr}(h:p≠q->SeqAt.RcAt A s (.ref p) (.ref q) true):SeqAt.EqAt A s (.ref p) (.ref q) true:=by
 by_cases z:p=q
 ·rw[z];show PySem.SeqAt.EqAt.same _
 ·show PySem.SeqAt.EqAt.of_refs z (h z)
theorem gS.eq(I:aO X a c H s)(k:Nat):∀{A:Around}{d:Dt}{x y:V}{u v:Value},A.units+k<cLine->gS X.K H k d x->gS X.K H k d y->aV x u->aV y v->SeqAt.EqAt A s u v true:=by induction k with
 |zero=>intro A d x y u v L h1 h2 b r2;cases h1 with|n=>cases h2;cases b;cases r2;show PySem.SeqAt.EqAt.same _|@i _ z=>cases h2;obtain⟨g,rfl⟩:=b;obtain⟨h,rfl⟩:=r2;have:=PySem.SeqAt.EqAt.int_int (A:=A) (s:=s) z g z h;rwa[tA]at this|@s _ z=>cases h2;obtain⟨g,rfl⟩:=b;obtain⟨h,rfl⟩:=r2;have:=PySem.SeqAt.EqAt.str_str (A:=A) (s:=s) z g z h;rwa[tA]at this|r=>cases h2;cases b;cases r2;show PySem.SeqAt.EqAt.same _
 |succ k J=>
  intro A d x y u v L h1 h2 b r2;have hi:A.in1.units+k<cLine:=by change A.units+1+k<cLine;omega
  cases h1 with
 |n=>cases h2;cases b;cases r2;show PySem.SeqAt.EqAt.same _|@i _ z=>cases h2;obtain⟨g,rfl⟩:=b;obtain⟨h,rfl⟩:=r2;have:=PySem.SeqAt.EqAt.int_int (A:=A) (s:=s) z g z h;rwa[tA]at this|@s _ z=>cases h2;obtain⟨g,rfl⟩:=b;obtain⟨h,rfl⟩:=r2;have:=PySem.SeqAt.EqAt.str_str (A:=A) (s:=s) z g z h;rwa[tA]at this|r=>cases h2;cases b;cases r2;show PySem.SeqAt.EqAt.same _|l q w=>cases h2 with|l B C=>
    cases b;cases r2;obtain⟨p,D,pl,_⟩:=I.list q;obtain⟨f,m,o,_⟩:=I.list B;obtain⟨E,eq⟩:=DtsAt.sm (A:=A.in1) (λh1 h2 b r2=>J hi h1 h2 b r2) w C D m;show By λ_=>?_;have:=PySem.SeqAt.RcAt.lists (e:=λ_=>true) (A:=A) pl.isList o.isList (by simpa using E) (by omega) (λj F G=>by simpa using eq j (by simpa using F) (by simpa using G))
    rwa[M_.mpr λ_ _=>()]at this
  |t q w=>cases h2 with|t B C=>
    cases b;cases r2;obtain⟨p,D,pl,_⟩:=I.tuple q;obtain⟨f,m,o,_⟩:=I.tuple B;obtain⟨E,eq⟩:=DtsAt.sm (A:=A.in1) (λh1 h2 b r2=>J hi h1 h2 b r2) w C D m;show By λ_=>?_;have:=PySem.SeqAt.RcAt.tuples (e:=λ_=>true) (A:=A) pl o (by omega) (λj F G=>by simpa using eq j (by simpa using F) (by simpa using G))
    rwa[M_.mpr λ_ _=>(),show(p.toArray.size==f.toArray.size)=true by simpa using E]at this
end
def MQ(K:O6):R2:=λx y H Q=>∃(ds:List Dt)(k:Nat),k<=16/\gS K H (k+1) (.l ds) x/\gS K H (k+1) (.l ds) y/\Q (.bl false) H
def xz{X:Cx}(K:O6)(f:X.K=K)(D:X.A.units+65<cLine):lg X (compareOp .NotEq) (MQ K):=by subst f;intro c s E H x y v u Q I g i h;obtain⟨ds,k,F,h1,h2,q⟩:=h;cases h1 with|l m n=>cases h2 with|l o p=>cases g;cases i;obtain⟨r,t,pl,_⟩:=I.list m;obtain⟨d,a,b,_⟩:=I.list o;obtain⟨w,eq⟩:=DtsAt.sm (A:=X.A.in1) (λh1 h2 z r2=>gS.eq I k (by change X.A.units+1+k<cLine;omega) h1 h2 z r2) n p t a;show PySem.SeqAt.RcNeAt.lists (e:=λ_=>true) pl.isList b.isList (by simpa using w) (by omega) (λj B C=>by simpa using eq j (by simpa using B) (by simpa using C)) _ _ _ _ {.bl false,H,I,?_,q};change Value.bool _=Value.bool _;rw[M_.mpr λ_ _=>()];rfl
def MS(K:O6):R2:=λx y H Q=>∃(ds:List Dt)(k:Nat),k<=16/\gS K H (k+1) (.l ds) x/\gS K H (k+1) (.l ds) y/\Q (.bl true) H
def D5{X:Cx}(K:O6)(f:X.K=K)(D:X.A.units+65<cLine):lg X (compareOp .Eq) (MS K):=by subst f;intro c s E H x y v u Q I g i h;obtain⟨ds,k,F,h1,h2,q⟩:=h;cases h1 with|l m n=>cases h2 with|l o p=>cases g;cases i;obtain⟨r,t,pl,_⟩:=I.list m;obtain⟨d,a,b,_⟩:=I.list o;obtain⟨w,eq⟩:=DtsAt.sm (A:=X.A.in1) (λh1 h2 z r2=>gS.eq I k (by change X.A.units+1+k<cLine;omega) h1 h2 z r2) n p t a;show PySem.SeqAt.eq_listAt (e:=λ_=>true) pl.isList b.isList (by simpa using w) (by omega) (λj B C=>by simpa using eq j (by simpa using B) (by simpa using C)) {.bl true,H,I,?_,q};change Value.bool _=Value.bool _;rw[M_.mpr λ_ _=>()]
mutual
theorem gS.same(s:am H c):∀{k:Nat}{d:Dt}{x:V},gS K H k d x->gS K c k d x|_,_,_,.n=>.n|_,_,_,.i=>.i|_,_,_,.s=>.s|_,_,_,.r=>.r|_,_,_,.l h a=>.l (am.seq s h) (DtsAt.same s a)|_,_,_,.t h a=>.t (am.tseq s h) (DtsAt.same s a)
theorem DtsAt.same(s:am H c):∀{k:Nat}{ds:List Dt}{a:List V},DtsAt K H k ds a->DtsAt K c k ds a|_,_,_,.nil=>.nil|_,_,_,.cons h b=>.cons (gS.same s h) (DtsAt.same s b)
end
def cE(h:H b=some o)(n:H b=none):False:=by rw[h]at n;cases n
section
variable{P:Pa}{w:World}{K:O6}{a:fN}{H g:Hp}{M p:bj}{Z j:ZS}{f:List V}
def bv.ntup(h:bv P w K a H M Z)(L:cZ M Z b):(∀f,H b≠some (.tup f))/\∀x y,H b≠some (.frz x y):=by
 have lst:∀l f,H l=some (.lst f)->(∀N,H l≠some (.tup N))/\∀x y,H l≠some (.frz x y):=λl f e=>by rw[e];show{λ_ z=>(nomatch z),λ_ _ z=>(nomatch z)}
 rcases L with⟨r,O,rfl⟩|⟨i,hi,x,k,e⟩|⟨x,k,e⟩
 ·obtain⟨o,q⟩:=mK P w a Z O;have im:=(h.imm (H':=λb=>if b=Z.G r then none else H b) q λb o e n=>by change(if b=Z.G r then none else H b)=_;rw[me n];show e).kp;show{λf e=>?_,λx y e=>?_}
  ·have:=im.tp _ _ e;rw[md ()]at this;cases this
  ·obtain⟨_,this⟩:=im.fz _ _ {_,e};rw[md ()]at this;cases this
 ·obtain⟨_,⟨m,q,_⟩,_⟩:=h.tabs i _ (h_ hi);obtain⟨l,f,u,J⟩:=q.ex x k;rw[u]at e;cases e;show lst _ _ J
 ·obtain⟨l,f,u,J⟩:=h.came.ex x k;rw[u]at e;cases e;show lst _ _ J
def bv.stp(h:bv P w K a H M Z)(st:gh H M Z g p j):Kp H g:={λu f e=>st.fr _ _ e λz=>(h.ntup z).1 _ e,λu o⟨b,e⟩=>{b,st.fr _ _ e λz=>(h.ntup z).2 _ _ e}}
def gh.nf(st:gh H M Z g p j)(e:H b=some o)(n:¬cZ M Z b):¬cZ p j b:=λz=>(st.fp b z).elim n (cE e)
end
def xj{c:Type}{a:List c}{x y:c}{i:Nat}(h:(a++[x])[i]?=some y):a[i]?=some y\/(i=a.length/\y=x):=by
 rcases Os i a.length with z|z
 ·show .inl (by rw[<-h];show(sD z).symm)
 ·rw[Es z]at h;obtain⟨b,d⟩:=c_.mp h;have b:i-a.length<1:=b;obtain rfl:i=a.length:=by lia
  simp only[Nat.sub_self,List.getElem_cons_zero]at d;show .inr {(),d.symm}
section
variable{ns:Pg}{M a:bj}{d:Dd}
def Dd.na(h:d.adds=false):zi M d=iO M/\wf M d=jG M:=by cases d<;>first|show{(),()}|cases h
def nR.keep(h:nR ns M)(ep:a.p=M.p)(es:a.salt=M.salt)(c:a.las.map (λl=>(l.nm,l.sl))=M.las.map λl=>(l.nm,l.sl))(e:a.trs.map (λt=>(t.nm,t.arms))=M.trs.map λt=>(t.nm,t.arms)):nR ns a/\a.p=M.p/\a.salt=M.salt/\iO a=iO M/\jG a=jG M:=by
 have a1:∀N:bj,iO N=(N.las.map λl=>(l.nm,l.sl)).map Prod.fst:=λN=>by rw[wr];rfl
 have a2:∀N:bj,jG N=(N.trs.map λt=>(t.nm,t.arms)).map λx=>(x.1,x.2.length):=λN=>by rw[wr];rfl
 have b:a.las.length=M.las.length:=by have:=r_ List.length c;rw[b_,b_]at this;show this
 show{{λi l f=>?_,λj t g=>?_,by rw[b,ep];show h.lp,by rw[ep];show h.pr},ep,es,by rw[a1,a1,c],by rw[a2,a2,e]}
 ·have q:(M.las.map λl=>(l.nm,l.sl))[i]?=some (l.nm,l.sl):=by rw[<-c,i_,f];rfl
  rw[i_]at q;obtain⟨k,h0,q⟩:=Option.map_eq_some_iff.mp q;rw[<-(NK q).1,<-(NK q).2,ep];show h.ln i k h0
 ·have q:(M.trs.map λt=>(t.nm,t.arms))[j]?=some (t.nm,t.arms):=by rw[<-e,i_,g];rfl
  rw[i_]at q;obtain⟨m,h0,q⟩:=Option.map_eq_some_iff.mp q;rw[<-(NK q).1,<-(NK q).2];show h.tn j m h0
def eT.nx(h:nR ns M)(n:eT M d a)(f:Kr ns M d):nR ns a/\a.p=M.p/\a.salt=M.salt/\iO a=zi M d/\jG a=wf M d:=by cases n with
 |@layer nm sl=>
  obtain⟨g,k,m⟩:=f;show{{λi l b=>?_,h.tn,?_,h.pr},(),(),k_,()}
  ·rcases xj b with b|⟨rfl,rfl⟩
   ·show h.ln i l b
   ·show(g,k,)
  ·change(M.las++[_]).length<=M.p+1;rw[mu];show m|@trial x=>
  show{{h.ln,λj t e=>?_,h.lp,h.pr},(),(),(),k_};rcases xj e with e|⟨rfl,rfl⟩
  ·show h.tn j t e
  ·show f|share b hh hn=>show h.keep () () (eJ b _ ()) ()|deal b hh hn=>show h.keep () () (eJ b _ ()) ()|hold b=>show h.keep () () (eJ b _ ()) ()|pause c=>show h.keep () () () (eJ c _ ())|close c b hh=>show h.keep () () (eJ b _ ()) (eJ c _ ())|bar c b hh=>show h.keep () () (eJ b _ ()) (eJ c _ ())|visit o v=>show h.keep v.p v.salt (by rw[v.las,wr];rfl) (by rw[v.trs])
end
structure mW(P:Pa)(w:World)(K:O6)(a:fN)(H0 H:Hp)(ns:Pg)(M:bj)(Z:ZS)(A:yb)(c:Nat)(ls:Pb)(ts:List (Str×Nat)):Prop where
 z:bK P w K a H M Z c
 pl:oE K H M.p M.salt ls ts A
 pn:nR ns M
 f1:¬cZ M Z A.pl
 f2:¬cZ M Z A.L
 f3:¬cZ M Z A.T
 bs:∀b o,H0 b=some o->H b=some o/\¬cZ M Z b/\b≠A.L/\b≠A.T
section
variable{P:Pa}{w:World}{K:O6}{a:fN}{f H i r:Hp}{M j:bj}{Z u:ZS}{ns:Pg}{A:yb}{v:Addr}{c:Nat}{ls m:Pb}{t q:List (Str×Nat)}{d:Dd}
theorem mW.same(h:mW P w K a f H ns M Z A c ls t)(s:am H i):mW P w K a f i ns M Z A c ls t:={h with z:=h.z.same s,pl:=h.pl.same s,bs:=λb o e=>{s _ _ (h.bs b o e).1,(h.bs b o e).2}}
def mW.dr(h:mW P w K a f H ns M Z A c (iO M) (jG M))(sq:aR K f v (ns.map V.int))(l:ns.length<=63):vZ K H v ns M A c:={am.seq (λb o e=>(h.bs b o e).1) sq,l,h.pl,h.z.ok,h.pn,λi g=>am.seq (λb o e=>g _ _ (h.bs b o e).1 (h.bs b o e).2.2.1) sq}
def mW.chg(h:mW P w K a f H ns M Z A c ls t)(n:Mo A H i)(l:oE K i M.p M.salt m q A):mW P w K a f i ns M Z A c m q:=by
 obtain⟨o,s,kp,k⟩:=n;rcases s with rfl|rfl
 ·show{h with z:={h.z with g:=h.z.g.out h.f2 kp k},pl:=l,bs:=λb o e=>{k _ _ (h.bs b o e).1 (h.bs b o e).2.2.1,(h.bs b o e).2}}
 ·show{h with z:={h.z with g:=h.z.g.out h.f3 kp k},pl:=l,bs:=λb o e=>{k _ _ (h.bs b o e).1 (h.bs b o e).2.2.2,(h.bs b o e).2}}
def mW.fin(h:mW P w K a f H ns M Z A c (zi M d) (wf M d))(n:eT M d j)(st:gh H M Z r j u)(p:bK P w K a r j u (c+1))(s:Kr ns M d):mW P w K a f r ns j u A (c+1) (iO j) (jG j):=by
 have kp:=h.z.g.stp st;obtain⟨x,y,B,C,D⟩:=n.nx h.pn s;obtain⟨E,k,l⟩:=h.pl.T;show{p,?_,x,st.nf h.pl.pl h.f1,st.nf h.pl.L h.f2,st.nf k h.f3,λb o e=>?_}
 ·rw[y,B,C,D];show{st.fr _ _ h.pl.pl h.f1,st.fr _ _ h.pl.L h.f2,{E,st.fr _ _ k h.f3,AV.kp kp l},h.pl.n1,h.pl.n2,h.pl.n3}
 ·obtain⟨b1,b2,b3⟩:=h.bs b o e;show{st.fr _ _ b1 b2,st.nf b1 b2,b3}
def mW.not(h:mW P w K a f H ns M Z A c (zi M d) (wf M d))(hd:d.adds=false)(s:am H r):mW P w K a f r ns M Z A (c+1) (iO M) (jG M):=by obtain⟨b,e⟩:=Dd.na (M:=M) hd;rw[b,e]at h;show{h.same s with z:=(h.same s).z.mono (t6 c)}
end
def pT(p:Nat)(sa:Int):bj:={p,sa,[],[],[]}
def ES(h ln tn a dl dx:Addr):ZS:={λr=>match r with|.hh=>h|.ln=>ln|.tn=>tn|.ci=>a|_=>dl,λ_=>dx,[],[],λ_=>[],λ_=>[],λ_=>[],λ_=>dx,λ_=>.non,λ_=>dx}
section
variable{P:Pa}{w:World}{K:O6}{a:fN}{H:Hp}{p:Nat}{sa:Int}{h ln tn c dl dx:Addr}
def Hl(e:2<=p/\p<=997):jF (pT p sa) 0:={e,.nil,.nil,λl g=>(nomatch g),λt b=>(nomatch b),λx i=>(nomatch i),ov _,ov _,ov _,λt b=>(nomatch b)}
def ET(hh:H h=some (.ins a.bh dx [("own_prime",.int p),("own_salt",.int sa),("layer_named",.ref ln),("trial_named",.ref tn),("came_into",.ref c),("deeds",.ref dl)]))(m:H ln=some (.dK []))(n:H tn=some (.dK []))(s:H c=some (.dK []))(u:H dl=some (.lst []))(n1:ln≠tn)(n2:ln≠c)(n3:tn≠c):bv P w K a H (pT p sa) (ES h ln tn c dl dx):=by
 have at_:∀r o,cont P w a (pT p sa) (ES h ln tn c dl dx) r=some o->H ((ES h ln tn c dl dx).G r)=some o:=λr o e=>by cases r<;>first|(obtain rfl:=n_ e;assumption)|cases e
 show{λr j o k e b q=>?_,at_,λi l g=>(nomatch g),λi t v=>(nomatch v),λi l g=>(nomatch g),.nil};have x:=at_ r o e
 have y:=at_ j k b
 rw[q,y]at x;cases r<;>cases j<;>first|rfl|(cases e;done)|(cases b;done)|show absurd q n1|show absurd q n2|show absurd q n3|show absurd q.symm n1|show absurd q.symm n2|show absurd q.symm n3|(cases e;cases b;cases x;done)
def E6(g:cZ (pT p sa) (ES h ln tn c dl dx) b):b=h\/b=ln\/b=tn\/b=c\/b=dl:=by
 rcases g with⟨r,j,e⟩|⟨i,hi,_⟩|⟨x,k,_⟩
 ·cases r
  ·show .inl e
  ·show .inr (.inl e)
  ·show .inr (.inr (.inl e))
  ·show .inr (.inr (.inr (.inl e)))
  ·show .inr (.inr (.inr (.inr e)))
  all_goals cases j
 ·cases hi
 ·cases k
end
abbrev FP:=List (List Str)
structure vX(K:O6)(H:Hp)(M:bj)(vs:List V)(Ms:Nat->bj)(Rs:List (List (List Str))):Prop where
 z:Ms 0=M
 l:Rs.length=vs.length
 s:∀k v,vs[k]?=some v->∃dv xs d rs,v=.ref dv/\aY K H dv xs/\jo K H (Ms k) d xs/\d.clo=false/\eT (Ms k) d (Ms (k+1))/\Rs[k]?=some rs/\oG (Ms k) d rs
section
variable{K:O6}{H g:Hp}{M i:bj}{a:List V}{c:Nat->bj}{f:List (List (List Str))}
theorem vX.kp(e:Kp H g)(h:vX K H M a c f):vX K g M a c f:={h.z,h.l,λk v b=>by obtain⟨j,m,d,n,h1,h2,h3,h4⟩:=h.s k v b;show{j,m,d,n,h1,e.tq h2,h3.kp e,h4}}
def vX.refs(h:vX K H M a c f)(v:V)(d:v∈a):∃b,v=.ref b:=by obtain⟨k,j⟩:=nk.mp d;obtain⟨l,_,_,_,e,_⟩:=h.s k v j;show(l,e,)
def vX.snoc{e:Addr}{j:List V}{d:Dd}{n:List (List Str)}(h:vX K H M a c f)(p:aY K H e j)(q:jo K H (c a.length) d j)(hc:d.clo=false)(nx:eT (c a.length) d i)(r:oG (c a.length) d n):vX K H M (a++[.ref e]) (λk=>if k<=a.length then c k else i) (f++[n]):=by
 show{h.z,by rw[mu,mu,h.l];rfl,λk v m=>?_};rcases xj m with m|⟨rfl,rfl⟩
 ·obtain⟨e,j,d,o,h1,h2,h3,h4,t,u,w⟩:=h.s k v m;have b:=(c_.mp m).1;show{e,j,d,o,h1,h2,by rw[md (wh b)];show h3,h4,by rw[md (wh b),md (show k+1<=a.length from b)];show t,by rw[sD (by rw[h.l];show b)];show u,by rw[md (wh b)];show w}
 ·show{e,j,d,n,(),p,by rw[md (e_ _)];show q,hc,by rw[md (e_ _),me (NL _)];show nx,by rw[<-h.l];show List.getElem?_concat_length,by rw[md (e_ _)];show r}
end
def HA{mg:O9}{base:Heap}{k:Nat}{f:Addr}{fd:FuncData}{d:Pb}{sp c:Sp}(F:aP P w K mg base (v8 P w) k f fd d sp)(h:∀a H Q E,c a H Q E->sp a H Q λ_ _ _=>False):aP P w K mg base cU k f fd d c:={λa H Q E q=>F.len a H Q _ (h _ _ _ _ q),λA outer s H b g a Q E i j l m n=>E2 (F.run A outer s H b g a Q _ i j l m (h _ _ _ _ n)) λr p z=>by cases r with|ok o=>cases o<;>show z|error e=>obtain⟨_,_,_,_,_,_,_,_,_,_,_,_,_,z⟩:=z;show z.elim}
def qV.pr(h:qV p)(i:Nat)(hi:2+(i:Int)<(p:Int)):(p:Int)%(2+(i:Int))≠0:=λz=>by have h1:=(by decide+kernel:∀p∈[2,3,5,7,11,13,17,31,61,97],∀i,i<97->2+i<p->p%(2+i)≠0) p h i (by have:=h.le;omega) (by omega);have e:(((p%(2+i):Nat)):Int)=(p:Int)%((2+i:Nat):Int):=Int.natCast_emod _ _;rw[show(((2+i:Nat)):Int)=2+(i:Int)by lia,z]at e;lia
inductive Nd(P:Pa)(w:World)(K:O6)(a:fN)(p:Nat)(sa:Int)(H H':Hp)(Z:ZS):Prop|mk(z:bK P w K a H' (pT p sa) Z 0)(d:Z.ds=[])(s:am H H')(f:∀b,cZ (pT p sa) Z b->H b=none)
def J4{p:Nat}{sa:Int}{n d c:Hp}{h ln tn f dl dx:Addr}(A:2<=p/\p<=97)(hh:n h=none)(f2:am n d)(q:d ln=none)(r:d tn=none)(s:d f=none)(t:d dl=none)(u:ln≠tn)(v:ln≠f)(x:tn≠f)(f3:∀b o,d b=some o->b≠h->c b=some o)(y:c h=some (.ins a.bh dx [("own_prime",.int p),("own_salt",.int sa),("layer_named",.ref ln),("trial_named",.ref tn),("came_into",.ref f),("deeds",.ref dl)]))(g:c ln=some (.dK []))(j:c tn=some (.dK []))(l:c f=some (.dK []))(m:c dl=some (.lst [])):∃Z:ZS,Z.G .hh=h/\Nd P w K a p sa n c Z:=by
 show{ES h ln tn f dl dx,(),{ET y g j l m u v x,Hl {A.1,by omega},λi=>ov _,λi=>ov _,ov _},(),λb o e=>f3 b o (f2 b o e) (av e hh),λb z=>?_};rcases E6 z with rfl|rfl|rfl|rfl|rfl
 ·show hh
 ·show f2.free q
 ·show f2.free r
 ·show f2.free s
 ·show f2.free t
inductive Lh(P:Pa)(w:World)(K:O6)(a:fN)(vs:List V)(H:Hp)(Q:VK)(_E:XK):Prop|mk(M:bj)(Z:ZS)(c:Nat)(dv:Addr)(d:Dd)(xs:List V)(_:vs=[.ref (Z.G .hh),.ref dv])(_:bK P w K a H M Z c)(_:c<=63)(_:aY K H dv xs)(_:jo K H M d xs)(_:d.clo=false)(_:¬Kq M d)(_:∀(r:Addr)(us:List V)(rs:List (List Str))(M':bj)(Z':ZS)(H':Hp),eT M d M'->FN K H' M M' Z' d r us rs->gh H M Z H' M' Z'->bK P w K a H' M' Z' (c+1)->H r=none->H' r=some (.lst us)->Z'.ds=Z.ds++[.ref dv]->Q (.ref r) H')
inductive BZ(P:Pa)(w:World)(K:O6)(a:fN)(vs:List V)(H:Hp)(Q:VK)(_E:XK):Prop|mk(p:Nat)(sa:Int)(dl:Addr)(us:List V)(Ms:Nat->bj)(Rs:List FP)(_:vs=[.int p,.int sa,.ref dl])(_:qV p)(_:(0<=sa/\sa<=cw))(_:us.length<=63)(_:aR K H dl us)(_:vX K H (pT p sa) us Ms Rs)(_:∀(Z:ZS)(H':Hp),am H H'->bK P w K a H' (Ms us.length) Z us.length->Z.ds=us->(∀b,cZ (Ms us.length) Z b->H b=none)->Q (.ref (Z.G .hh)) H')
inductive JHo(P:Pa)(w:World)(K:O6)(a:fN)(H:Hp)(us:List V)(Ms:Nat->bj)(h:Addr)(v0 v1 v2:V)(i:Nat)(σ:St)(H':Hp):Prop|mk(Z:ZS)(v:Option V)(z:bK P w K a H' (Ms i) Z i)(d:Z.ds=us.take i)(s:am H H')(f:∀b,cZ (Ms i) Z b->H b=none)(e:Z.G .hh=h)(l:σ=[some v0,some v1,some v2,some (.ref h),v]):JHo P w K a H us Ms h v0 v1 v2 i σ H'
section
def kX(T:Txt K mg a)(e:w.params=a.pm):aP P w K mg base cU 14 a.dn.x a.dn.d ["self","deed"] (Lh P w K a):=HA (rp T e) λn H Q E h=>by obtain⟨M,Z,c,f,d,g,rfl,i,hc,j,k,b,l,q⟩:=h;show{M,Z,c,f,d,g,(),i,hc,j,k,λ_=>q,λ_ m=>absurd m l,λz=>by rw[b]at z;cases z}
def y0(T:Txt K mg a)(hw:w.params=a.pm):aP P w K mg base cU 15 a.kH.x a.kH.d ["prime","salt","deeds"] (BZ P w K a):=by
 show T.kH.ok lK λad A outer s H vs Q E hr h=>?_
 ·obtain⟨p,sa,dl,M,Ms,Rs,rfl,pr,S,hl,hS,hH,q⟩:=h;show{_,(af (bo 3 lK.nd (mI T.uB ((iL (P:=P) (w:=w) T).mono (by decide)) hr () T.xL T.cT.b .nil aQ (ac (Y 0) (ac (Y 1) O)))) (af (d6 qq () (cP K () (Y 2)) (sf 4 lK.nd) (ah (aM (aS (Y 3) T.ao T.dn.m ((kX (P:=P) (w:=w) T hw).mono (by decide)) hr T.dn.b .nil aQ (ac (Y 4) O))))) (ah (az (Y 3))))),?_}
  have hp:=pr.le;show U () (U () (λh dx hh V an=>?_));have f2:am H (aH (aH H dx (.own h)) h (.ins a.bh dx [])):=λb o e=>by rw[ak (av e hh),ak (av e V)];show e
  have n:aH (aH H dx (.own h)) h (.ins a.bh dx []) h=some (.ins a.bh dx []):=ae;generalize aH (aH H dx (.own h)) h (.ins a.bh dx [])=H2 at f2 n⊢;show{h,dx,(p:Int),sa,(),n,{by omega,by omega},pr.pr,S,λln tn ci ap H3 y C D F G I J f3 L f j k l=>{(),au ?_}};obtain⟨Z,e,c,hd,s3,t⟩:=J4 (P:=P) (w:=w) (K:=K) hp hh f2 y C D F G I J f3 L f j k l;rw[<-hH.z]at c t;clear y C D F G I J f3 L f j k l f2 n;show U () {dl,(),{_,am.seq s3 hS},?_};show gn (K:=K) (a:=dl) (xs:=M) (JHo P w K a H M Ms h (.int p) (.int sa) (.ref dl)) {Z,_,c,hd,s3,t,e,()} (λi σ H' _ h=>by obtain⟨_,_,_,_,s,_⟩:=h;show am.seq s hS) ?_ ?_
  ·rintro i v σ H4 W⟨Z,v4,c,hd,u,t,e,rfl⟩N R B hN;obtain⟨dv,xs,d,_,rfl,hT,hD,hc,nx,_⟩:=hH.s i v W;have hi:=(c_.mp W).1;show au ?_;show{_,(),h,_,_,(),by rw[<-e];show c.g.house,(),_,(),Ms i,Z,i,dv,d,xs,by rw[e];rfl,c,by omega,am.tseq u hT,hD.kp (.of u),hc,nx.not c.ok,λr M rs M' Z' H5 n5 _ st X _ _ aa=>by obtain rfl:=nx.one c.ok n5;show hN _ _ {Z',_,X,by rw[aa,hd,bx W],λb o eb=>st.fr _ _ (u _ _ eb) λz=>cE eb (t b z),λb z=>(st.fp b z).elim (t b) λz=>u.free z,st.hh.trans e,()}}
  ·rintro σ H4⟨Z,v4,c,hd,u,t,e,rfl⟩;show U () ?_;rw[<-e];show q Z H4 u c (by rw[hd,l_ (e_ _)]) t
end
def del(D:Addr)(H:Hp):Hp:=λb=>if b=D then none else H b
section
variable{K:O6}{H w:Hp}{D b:Addr}{k:Nat}{o:HO}{xs A:List V}{ds:List Dt}{S:AS}{p:Int}{v:V}{n c:Nat}{M:bj}{g:Str}{C:List (Str×Int)}{B:List (Str×Str×Str)}
def ml(n:b≠D):del D H b=H b:=me n
def xS:am (del D H) H:=λb o e=>by
 by_cases z:b=D
 ·cases(md z).symm.trans e
 ·show(ml z).symm.trans e
def zx(s:am H w):am (del D H) (del D w):=λb o e=>by
 by_cases z:b=D
 ·cases(md z).symm.trans e
 ·show(ml z).trans (s _ _ ((ml z).symm.trans e))
open Classical in
noncomputable def dl(p:Addr->Prop)(H:Hp):Hp:=λb=>if p b then none else H b
def Tf(H:Hp)(b:Addr):Prop:=(∀xs,H b≠some (.tup xs))/\∀x y,H b≠some (.frz x y)
def Me(H:Hp)(b:Addr):Prop:=H b≠none/\Tf H b
def pD(H:Hp)(D b:Addr):Prop:=b=D\/Me H b
def LQ(h:H D=some (.lst xs)):Kp H (del D H):={λu xs e=>(ml λz=>by rw[z,h]at e;cases e).trans e,λu o⟨a,e⟩=>{a,(ml λz=>by rw[z,h]at e;cases e).trans e}}
def fS{p:Addr->Prop}(n:¬p b):dl p H b=H b:=me n
def nP{p:Addr->Prop}{o:HO}(e:dl p H b=some o):¬p b/\H b=some o:=by
 by_cases z:p b
 ·cases(md z).symm.trans e
 ·show{z,(fS z).symm.trans e}
def xR{p:Addr->Prop}(s:am H w):am (dl p H) (dl p w):=λb o e=>(fS (nP e).1).trans (s _ _ (nP e).2)
def zv{p:Addr->Prop}:am (dl p H) H:=λb o e=>(nP e).2
def Fa{p:Addr->Prop}(a:p D):dl p (aH H D o)=dl p H:=funext λb=>by
 by_cases z:p b
 ·show(md z).trans (md z).symm
 ·rw[fS z,fS z,ak λe=>z (by rw[e];show a)]
def EI{p:Addr->Prop}(h:∀b,p b->Tf H b):Kp H (dl p H):={λu xs e=>(fS λz=>(h u z).1 _ e).trans e,λu o⟨a,e⟩=>{a,(fS λz=>(h u z).2 _ _ e).trans e}}
theorem Tf.lst(h:H b=some (.lst xs)):Tf H b:={λ_ e=>(nomatch h.symm.trans e),λ_ _ e=>(nomatch h.symm.trans e)}
def Lu(s:am H w)(h:Me H b):Tf w b:=by obtain⟨h1,h2⟩:=h;obtain⟨o,e⟩:=Option.ne_none_iff_exists'.mp h1;show{λxs z=>h2.1 xs (e.trans ((s _ _ e).symm.trans z)),λx y z=>h2.2 x y (e.trans ((s _ _ e).symm.trans z))}
def Bs(s:am H w)(h:w D=some (.lst xs)):Kp w (dl (pD H D) w):=EI λb z=>z.elim (λz=>z▸.lst h) (Lu s)
def wA(n:b≠D)(h:H b=none):¬pD H D b:=λz=>z.elim n λz=>z.1 h
def DtsAt.len:∀{ds:List Dt}{xs:List V},DtsAt K H k ds xs->xs.length=ds.length:=by
 intro ds
 induction ds with|nil=>intro xs h;cases h;rfl|cons d ds a=>intro xs h;cases h with|cons _ h=>show r_ Nat.succ (a h)
def DtsAt.app{es:List Dt}{a:List V}(h2:DtsAt K H k es a):∀{ds:List Dt}{xs:List V},DtsAt K H k ds xs->DtsAt K H k (ds++es) (xs++a):=by
 intro ds
 induction ds with|nil=>intro xs h;cases h;show h2|cons d ds e=>intro xs h;cases h with|cons h1 h=>show .cons h1 (e h)
def DtsAt.of{a:Type}{f:a->Dt}{R:V->a->Prop}{d:List a}(h:Paired R A d)(e:∀u y,R u y->gS K H k (f y) u):DtsAt K H k (d.map f) A:=by induction h with|nil=>show .nil|cons h _ i=>show .cons (e _ _ h) i
open Classical in
noncomputable def GO(S:AS)(p:Int):Dt:=if h:∃x:Str×Str,p∈S.pl (cI x.1 x.2)then .t [.s h.choose.1,.s h.choose.2]else .n
def zM.dt(h:zM K H S p v)(a:S.Ok n):gS K H (k+1) (GO S p) v:=by
 unfold GO;rcases h with⟨rfl,h⟩|⟨x,y,h1,h2⟩
 ·rw[dif_neg (λ⟨x,d⟩=>h _ d)];show .n
 ·have e:∃x:Str×Str,p∈S.pl (cI x.1 x.2):={(x,y),h1};rw[dif_pos e];obtain⟨f,i⟩:=oC (a.dj _ _ _ e.choose_spec h1);rw[f,i];obtain⟨b,rfl,j⟩:=h2;show .t j (.cons .s (.cons .s .nil))
open Classical in
noncomputable def FS(M:bj)(g:Str)(C:List (Str×Int)):List (Str×Str×Str):=if h:∃B,jW M g C M.las B then h.choose else[]
def jW.dt(h:jW M g C M.las B)(a:jF M c):FS M g C=B:=by have e:∃B,jW M g C M.las B:=(B,h,);unfold FS;rw[dif_pos e];show jW.one a e.choose_spec (λl q=>q) h
def d2(y:Str×Str):Dt:=.t [.s y.1,.s y.2]
def dR(y:Pb):Dt:=.t (y.map Dt.s)
def d3(y:Str×Str×Str):Dt:=.t [.s y.1,.s y.2.1,.s y.2.2]
def eS.dt(h:eS K H A B):DtsAt K H (k+1) (B.map d3) A:=DtsAt.of h λu y q=>by obtain⟨b,rfl,q⟩:=q;show .t q (.cons .s (.cons .s (.cons .s .nil)))
def AZ:∀{a:Pb},DtsAt K H k (a.map Dt.s) (a.map V.str):=by
 intro a
 induction a with|nil=>show .nil|cons z a d=>show .cons .s d
def fi.dt{a:List (List Str)}(h:fi K H A a):DtsAt K H (k+1) (a.map dR) A:=DtsAt.of h λu y q=>by obtain⟨b,rfl,q⟩:=q;show .t q AZ
def fK.dt{a:List (Str×Str)}(h:fK K H A a):DtsAt K H (k+1) (a.map d2) A:=DtsAt.of h λu y q=>by obtain⟨b,rfl,q⟩:=q;show .t q (.cons .s (.cons .s .nil))
def Hi:∀{a:Pg},DtsAt K H k (a.map Dt.i) (a.map V.int):=by
 intro a
 induction a with|nil=>show .nil|cons z a d=>show .cons .i d
def Jt{f:Str->Int}:∀{gs:Pb},DtsAt K H k (gs.map λg=>Dt.i (f g)) (gs.map λg=>V.int (f g)):=by
 intro gs
 induction gs with|nil=>show .nil|cons z d a=>show .cons .i a
def El{t u:Addr}{m:Str×Int}(h:aY K H t [.ref u])(a:aY K H u [.str m.1,.int m.2]):qb K H [m] (.ref t):={t,_,(),h,(),λi y e=>by
  rcases i with _|i
  ·cases e;show{u,(),a}
  ·cases e}
def CV:Wd "age":=AY (by decide+kernel)
def Jm:V->Dt|.ref a=>.r a|_=>.n
def xu:∀{a:List V},(∀v∈a,∃b,v=.ref b)->DtsAt K H k (a.map Jm) a:=by
 intro a
 induction a with|nil=>intro _;show .nil|cons z f d=>intro h;obtain⟨b,rfl⟩:=h z (.head _);show .cons .r (d λv e=>h v (.tail _ e))
def LN(l:bE):Dt:=.t [.s l.nm,.i l.sl]
def G8{ls:List bE}(h:Paired (ye K H) A ls):DtsAt K H (k+1) (ls.map LN) A:=DtsAt.of h λu y q=>by obtain⟨b,rfl,q⟩:=q;show .t q (.cons .s (.cons .i .nil))
def wN(M:bj)(ds:List V):List Dt:=[.l (M.las.map LN),.l ((M.trs.map du.nm).map Dt.s),.l (ds.map Jm),.i M.p,.i M.salt]
noncomputable def KH(M:bj)(gs:Pb)(l:bE):List Dt:=[.l ((List.range M.p).map λi=>GO l.S (i:Nat)),.l (gs.map λg=>.i (oh M.p M.salt l.sl g))]
def Kz(M:bj)(t:du):Dt:=(M.las.find? λl=>decide (l.nm=t.home)).elim .n λl=>.l [.s t.home,.t ((j3 l t).map Dt.i),.l ((A6 (zR l.ins t.nm)).map dR)]
noncomputable def Mx(M:bj)(g:Str):Dt:=.l [.l ((Dc M g).map d3),.l ((dX M.came g).map d2),.l ((FS M g []).map d3),.l ((FS M g [("age",3)]).map d3)]
noncomputable def Lk(M:bj)(ds:List V)(gs:Pb):List Dt:=wN M ds++M.las.flatMap (KH M gs)++M.trs.map (Kz M)++gs.map (Mx M)
def jF.home_find(f:jF M c){i:Nat}{l:bE}{x:Str}(d:M.las[i]?=some l)(e:l.nm=x):(M.las.find? λl=>decide (l.nm=x))=some l:=by
 obtain⟨y,a⟩:=vr.mp (OO.mpr {l,g_ d,ol e}:(M.las.find? λl=>decide (l.nm=x)).isSome=true);obtain⟨j,h⟩:=nk.mp (N3 a);have m:y.nm=x:=by simpa using O4 a
 rw[a,(f.luniq d h (e.trans m.symm)).2]
end
structure Il(K:O6)(H H0:Hp)(D:Addr)(ds:List Dt)(m:Nat)(xs:List V)(H':Hp):Prop where
 s:am (del D H0) H'
 at_:H' D=some (.lst xs)dt:DtsAt K (dl (pD H D) H') 3 ds xs
 n:xs.length<=m
section
variable{K:O6}{H a c i:Hp}{D:Addr}{ds:List Dt}{d:Dt}{m:Nat}{g:List V}{v:V}
def Il.put(h:Il K H a D ds m g c)(s:am c i)(hd:gS K (dl (pD H D) i) 3 d v):Il K H a D (ds++[d]) (m+1) (g++[v]) (aH i D (.lst (g++[v]))):={λb o e=>by
  by_cases z:b=D
  ·cases(md z).symm.trans e
  ·rw[ak z];show s _ _ (h.s _ _ e),ae,by rw[Fa (.inl ())];show DtsAt.app (.cons hd .nil) (h.dt.same (xR s)),by rw[mu];show L_ h.n}
def Il.same(h:Il K H a D ds m g c)(f:H D=none)(s:am H a):am H c:=λb o e=>h.s _ _ ((ml (av e f)).trans (s _ _ e))
def Hs{ls:List bE}{l:bE}{k:Nat}(h:ls[k]?=some l)(f:bE->List Dt)(hd:List Dt){x y:Dt}(e:f l=[x,y]):hd++(ls.take (k+1)).flatMap f=(hd++(ls.take k).flatMap f++[x])++[y]:=by rw[bx h,List.flatMap_append];simp[e]
end
inductive KQ(K:O6)(H H0:Hp)(D hh gl:Addr)(ds:List Dt)(m:Nat)(σ:St)(H':Hp):Prop|mk(xs:List V)(v3 v4 v5 v6:Option V)(c:Il K H H0 D ds m xs H')(e:σ=[some (.ref hh),some (.ref gl),some (.ref D),v3,v4,v5,v6]):KQ K H H0 D hh gl ds m σ H'
inductive IM(P:Pa)(w:World)(K:O6)(a:fN)(vs:List V)(H:Hp)(Q:VK)(_E:XK):Prop|mk(M:bj)(Z:ZS)(c:Nat)(gl:Addr)(gs:Pb)(_:vs=[.ref (Z.G .hh),.ref gl])(_:bK P w K a H M Z c)(_:c<=63)(_:(∀v∈Z.ds,∃b,v=.ref b))(_:aR K H gl (gs.map V.str))(_:gs.length<=7)(_:(∀g∈gs,xg g))(_:∀(r:Addr)(H':Hp),am H H'->H r=none->gS K (dl (Me H) H') 4 (.l (Lk M Z.ds gs)) (.ref r)->Q (.ref r) H')
inductive JSm(K:O6)(H H0:Hp)(D hh gl:Addr)(nm:Str)(ds:List Dt)(m:Nat)(σ:St)(H':Hp):Prop|mk(xs:List V)(v4 v5 v6:Option V)(c:Il K H H0 D ds m xs H')(e:σ=[some (.ref hh),some (.ref gl),some (.ref D),some (.str nm),v4,v5,v6]):JSm K H H0 D hh gl nm ds m σ H'
inductive JPl(H:Hp)(D:Addr)(M:bj)(sl:Int)(gs:Pb)(j:Nat)(acc:List V)(H':Hp):Prop|mk(s:am H H')(at_:H' D=some (.lst acc))(p:acc=(gs.take j).map λg=>V.int (oh M.p M.salt sl g)):JPl H D M sl gs j acc H'
inductive JOw(K:O6)(H:Hp)(D:Addr)(S:AS)(j:Nat)(acc:List V)(H':Hp):Prop|mk(s:am H H')(at_:H' D=some (.lst acc))(p:Paired (λv(i:Nat)=>zM K H' S (i:Int) v) acc (List.range j)):JOw K H D S j acc H'
section
def pH(T:Txt K mg a):aP P w K mg base cU 11 a.qd.x a.qd.d ["_law_house","_law_guests"] (IM P w K a):=by
 show T.qd.ok j5 λeo A outer s H vs Q E hr h=>?_
 ·obtain⟨M,Z,c,gl,gs,rfl,y,hc,dv,hS,er,c1,q⟩:=h;show{_,(af (bo 2 j5.nd (bg (ac (eX (Y 0) T.ao T.cS.m ((lB (P:=P) (w:=w) T).mono (by decide)) hr T.cS.b .nil aQ) (ac (eX (Y 0) T.ao T.cR.m ((lA (P:=P) (w:=w) T).mono (by decide)) hr T.cR.b .nil aQ) (ac (eX (Y 0) T.ao T.eE.m ((nK (P:=P) (w:=w) T).mono (by decide)) hr T.eE.b .nil aQ) (ac (eX (Y 0) T.ao T.dH.m ((lZ (P:=P) (w:=w) T).mono (by decide)) hr T.dH.b .nil aQ) (ac (eX (Y 0) T.ao T.gi.m ((vH (P:=P) (w:=w) T).mono (by decide)) hr T.gi.b .nil aQ) O))))))) (af (d6 qq () (cP K () (eX (Y 0) T.ao T.cS.m ((lB (P:=P) (w:=w) T).mono (by decide)) hr T.cS.b .nil aQ)) (fZ K () () (bu (xx (i:=3) j5.nd () (.inr ())) (bu (sf 4 j5.nd) fY))) (af (aM (eO K () PySem.F.plainAttrs_list PySem.F.slot_list_append PySem.F.type_list_append cq (Y 2) (ac (rN qa ["_law_place"] [] [7] (ai sK) (ca 7) (dQ () T.fC (ac (eX (Y 0) T.ao T.dH.m ((lZ (P:=P) (w:=w) T).mono (by decide)) hr T.dH.b .nil aQ) O)) (λcl C s₀ H₀ ex=>{(lE qa ["_law_place"] 7),bR,(aS (Y 0) T.ao T.ft.m ((uy (P:=P) (w:=w) T).mono (by decide)) hr T.ft.b .nil aQ (ac (Y 3) (ac (Y 7) O)))})) O))) (ah (aM (eO K () PySem.F.plainAttrs_list PySem.F.slot_list_append PySem.F.type_list_append cq (Y 2) (ac (rN qa [] [6] [6] (ai sK) (ca 6) (cP K () (Y 1)) (λcl C s₀ H₀ ex=>{(lE qa [] 6),bR,(aS (Y 0) T.ao T.fq.m ((ux (P:=P) (w:=w) T).mono (by decide)) hr T.fq.b .nil aQ (ac (Y 3) (ac (Y 6) O)))})) O)))))) (af (d6 qq () (cP K () (eX (Y 0) T.ao T.cR.m ((lA (P:=P) (w:=w) T).mono (by decide)) hr T.cR.b .nil aQ)) (sf 5 j5.nd) (ah (aM (eO K () PySem.F.plainAttrs_list PySem.F.slot_list_append PySem.F.type_list_append cq (Y 2) (ac (bg (ac (aS (Y 0) T.ao T.db.m ((pJ (P:=P) (w:=w) T).mono (by decide)) hr T.db.b .nil aQ (ac (Y 5) O)) (ac (aS (Y 0) T.ao T.eC.m ((sw (P:=P) (w:=w) T).mono (by decide)) hr T.eC.b .nil aQ (ac (Y 5) O)) (ac (aS (Y 0) T.ao T.ip.m ((xD (P:=P) (w:=w) T).mono (by decide)) hr T.ip.b .nil aQ (ac (Y 5) O)) O)))) O))))) (af (d6 qq () (cP K () (Y 1)) (sf 6 j5.nd) (ah (aM (eO K () PySem.F.plainAttrs_list PySem.F.slot_list_append PySem.F.type_list_append cq (Y 2) (ac (bg (ac (aS (Y 0) T.ao T.fk.m ((uw (P:=P) (w:=w) T).mono (by decide)) hr T.fk.b .nil aQ (ac (Y 6) O)) (ac (aS (Y 0) T.ao T.gj.m ((vI (P:=P) (w:=w) T).mono (by decide)) hr T.gj.b .nil aQ (ac (Y 6) O)) (ac (aS (Y 0) T.ao T.dG.m ((lY (P:=P) (w:=w) T).mono (by decide)) hr T.dG.b .nil aQ (ac (Y 6) (ac (bp O) O))) (ac (aS (Y 0) T.ao T.dG.m ((lY (P:=P) (w:=w) T).mono (by decide)) hr T.dG.b .nil aQ (ac (Y 6) (ac (bp (ac (bp (ac aE (ac ag O))) O)) O))) O))))) O))))) (ah (az (Y 2))))))),?_}
  have hI:=y.g.house;show iS hI () () {M,Z,c,(),y,λr0 ev H0 s0 n0 e0 p0=>?_};show iS (s0 _ _ hI) () () {M,Z,c,(),y.same s0,λr1 H1 s1 n1 e1=>?_};have a6:=s0.trans s1;show iS (a6 _ _ hI) () () {M,Z,c,(),y.same a6,λr2 H2 s2 n2 e2=>?_};have an:=a6.trans s2;show iS (an _ _ hI) () () {M,Z,c,(),y.same an,?_};show iS (an _ _ hI) () () {M,Z,c,(),y.same an,ls (),λD hD=>au (lF ?_)};show fB hD λH3 s3 e3=>?_;have X:H D=none:=an.free hD;have as:=an.trans s3;have nD:∀{r:Addr}{xs:List V},H r=none->H2 r=some (.lst xs)->aR K (dl (pD H D) H3) r xs:=λn e=>aR.of ((fS (wA (av e hD) n)).trans (s3 _ _ e));have hJ:Il K H H D (wN M Z.ds) 5 [.ref r0,.ref r1,.ref r2,.int M.p,.int M.salt] H3:={(xS).trans as,e3,.cons (.l (nD n0 ((s1.trans s2) _ _ e0)) (G8 (ye.kp ((Kp.of ((s1.trans s2).trans s3)).trans (Bs as e3)) p0))) (.cons (.l (nD (s0.free n1) (s2 _ _ e1)) AZ) (.cons (.l (nD (a6.free n2) e2) (xu dv)) (.cons .i (.cons .i .nil)))),e_ _};clear nD s3 hD an s2 a6 s1 s0 p0 e0 e1 e2 n0 n1 n2;have l4:=y.ok.l4;show Fj (KQ K H H D (Z.G .hh) gl (wN M Z.ds++M.las.flatMap (KH M gs)) 13) ?A1 (λN _ _ _ hN=>?B1)
  case B1=>
   show iS (as _ _ hI) () () {M,Z,c,(),y.same as,λr us H4 s4 n4 e4 p4=>?_};have I:=as.trans s4;have rD:r≠D:=λz=>cE e3 (z▸n4);have ax:=s4 _ _ e3;show{r,(),{_,aR.of e4},?_};show gn (K:=K) (a:=r) (xs:=us) (λk=>KQ K H H4 D (Z.G .hh) gl (wN M Z.ds++(M.las.take k).flatMap (KH M gs)) (5+2*k)) {_,_,_,_,_,{xS,ax,by rw[z3,List.flatMap_nil,q4];show hJ.dt.same (xR s4),hJ.n},()} (λi σ H' _ h=>by obtain⟨_,_,_,_,_,h,_⟩:=h;show aR.of (h.s _ _ ((ml rD).trans e4))) ?_ ?_
   ·rintro k x σ H5 hx⟨xs,v3,v4,v5,v6,f,rfl⟩N R B hN;obtain⟨l,hl,b,rfl,hb⟩:=Paired.at_ p4 k x hx;have J:am H H5:=f.same X I;have a7:=y.same J;have ew:k<M.las.length:=(c_.mp hl).1;have hL:=y.ok.la l (g_ hl);have hp:=y.ok.p;have kb:=(((LQ ax).trans (.of f.s)).tq hb);show{b,U () {kb,(),_,U () (au {_,U () (au {(),?_})})}};show Fj (JSm K H H4 D (Z.G .hh) gl l.nm ((wN M Z.ds++(M.las.take k).flatMap (KH M gs))++[.l ((List.range M.p).map λi=>GO l.S (i:Nat))]) (5+2*k+1)) ?A2 (λN _ _ _ hN=>?B2)
    case B2=>
     show U () {.inl {(),_,aR.of f.at_},?_};show iS (J _ _ hI) () () {M,Z,c,(),a7,U () {by omega,by omega,λD2 aa=>?_}};have b9:D2≠D:=λz=>cE f.at_ (z▸aa);show fb (K:=K) (lo:=0) (n:=M.p) (JOw K H5 D2 l.S) {aj (am.refl _) aa,ae,.nil} ?_ ?_
     ·rintro j a3 H6 hj⟨W,L,bl⟩;show au (iJ (bB ?_));show iS ((J.trans W) _ _ hI) () () (U () (U () {M,Z,c,k,l,0+(j:Int),(),a7.same W,hl,by omega,by omega,λv H7 s7 hv=>?_}));have ey:a3.length=j:=by rw[Paired.length bl,rd]
      have a8:=s7 _ _ L;have kp:Kp H7 (aH H7 D2 (.lst (a3++[v]))):=.lst a8;show{a8,by rw[mo];omega,lf hj {bG (W.trans s7) aa,ae,?_}};rw[NQ];show Paired.snoc (Paired.mapP bl λ_ _ q=>(q.kp (.of s7)).kp kp) (by rw[<-Int.zero_add (j:Int)];show hv.kp kp)
     ·rintro a3 H6⟨W,L,bl⟩;have bt:=W _ _ f.at_;show rA bt (by have:=f.n;rw[mo];omega) (hN _ _ {_,_,_,_,f.put W (.l (aR.of ((fS (wA b9 (J.free aa))).trans L)) (DtsAt.of bl λu i q=>(q.kp (Bs (J.trans W) bt)).dt hL.ok)),()})
    case A2=>
    clear f a7 J kb;rintro σ H5⟨xs,v4,v5,v6,f,rfl⟩;have J:am H H5:=f.same X I;have a7:=y.same J;show U () {.inl {(),_,aR.of f.at_},?_};show U () {gl,(),{_,am.seq J hS},λD2 aa=>?_};have b9:D2≠D:=λz=>cE f.at_ (z▸aa);show i0 (K:=K) (a:=gl) (xs:=gs.map V.str) (JPl H5 D2 M l.sl gs) {aj (am.refl _) aa,ae,()} (λj a3 H' _ h=>by obtain⟨h,_⟩:=h;show am.seq (J.trans h) hS) ?_ ?_
    ·rintro j v a3 H6 hv⟨W,L,rfl⟩;have hj:=(c_.mp hv).1;rw[i_]at hv;obtain⟨g,hg,rfl⟩:=Option.map_eq_some_iff.mp hv;show au (iJ (bB ?_));show iS ((J.trans W) _ _ hI) () () (U () (U () {M,Z,c,k,l,g,(),a7.same W,hl,c1 g (g_ hg),λH7 s7=>?_}));show{s7 _ _ L,by rw[b_,oD,mo];omega,lf hj {bG (W.trans s7) aa,ae,by rw[bx hg,k_];rfl}}
    ·rintro a3 H6⟨W,L,rfl⟩;have bt:=W _ _ f.at_;rw[b_,l_ (e_ _)]at L;have hP:=f.put W (.l (aR.of ((fS (wA b9 (J.free aa))).trans L)) (Jt (k:=2)));rw[<-Hs hl (KH M gs) _ ()]at hP;show rA bt (by have:=f.n;rw[mo];omega) (hN _ _ {_,_,_,_,_,hP,()})
   ·rintro σ H5⟨xs,v3,v4,v5,v6,f,rfl⟩;rw[Paired.length p4,l_ (e_ _)]at f;show hN _ _ {xs,v3,v4,v5,v6,{(zx I).trans f.s,f.at_,f.dt,nr f.n (by omega)},()}
  case A1=>
  clear hJ e3 as;rintro σ H3⟨xs,v3,v4,v5,v6,f,rfl⟩;have s3:am H H3:=f.same X (am.refl H);generalize dK:wN M Z.ds++M.las.flatMap (KH M gs)=d1 at f;show Fj (KQ K H H D (Z.G .hh) gl (d1++M.trs.map (Kz M)) 80) ?A3 (λN _ _ _ hN=>?B3)
  case B3=>
   show iS (s3 _ _ hI) () () {M,Z,c,(),y.same s3,λr H4 s4 n4 e4=>?_};have I:=s3.trans s4;have rD:r≠D:=λz=>cE f.at_ (z▸n4);have ax:=s4 _ _ f.at_;show{r,(),{_,aR.of e4},?_};show gn (K:=K) (a:=r) (xs:=(M.trs.map du.nm).map V.str) (λk=>KQ K H H4 D (Z.G .hh) gl (d1++(M.trs.take k).map (Kz M)) (13+k)) {_,_,_,_,_,{xS,ax,by rw[z3,NW,q4];show f.dt.same (xR s4),f.n},()} (λi σ H' _ h=>by obtain⟨_,_,_,_,_,h,_⟩:=h;show aR.of (h.s _ _ ((ml rD).trans e4))) ?_ ?_
   ·clear f;rintro k x σ H5 hx⟨xs,v3,v4,v5,v6,f,rfl⟩N R B hN;rw[i_,i_]at hx;obtain⟨_,dT,rfl⟩:=Option.map_eq_some_iff.mp hx;obtain⟨t,ht,rfl⟩:=Option.map_eq_some_iff.mp dT;have J:am H H5:=f.same X I;have hk:=(c_.mp ht).1;obtain⟨i,l,hl,hh⟩:=y.ok.home (g_ ht);have c2:=y.ok.tc;show au ?_;show U () {.inl {(),_,aR.of f.at_},?_};show iS (J _ _ hI) () () (U () {M,Z,c,k,t,(),y.same J,ht,λH6 W=>?_});have ad:=J.trans W;show iS (ad _ _ hI) () () (U () {M,Z,c,i,k,l,t,(),y.same ad,ht,hl,hh,λr7 H7 s7 n7 e7=>?_});have ap:=ad.trans s7;show iS (ap _ _ hI) () () (U () {M,Z,c,i,k,l,t,(),y.same ap,hc,ht,hl,hh,λr8 ez H8 s8 n8 e8 p8=>?_});show{ls (),λr9 cc=>?_};show fB cc λH9 s9 e9=>?_;have ci:=((W.trans s7).trans s8).trans s9;have a8:=(W.trans s7) _ _ f.at_;have c3:=ci _ _ f.at_;have kd:=Bs (J.trans ci) c3;have kp:Kp H7 (dl (pD H D) H9):=(Kp.of (s8.trans s9)).trans kd;have n8:=wA (av a8 n8).symm (ap.free n8);have n9:=wA (av (s8 _ _ a8) cc).symm ((ap.trans s8).free cc);have tD:gS K (dl (pD H D) H9) 3 (Kz M t) (.ref r9):=by unfold Kz;rw[y.ok.home_find hl hh];show .l (aR.of ((fS n9).trans e9)) (.cons .s (.cons (.t (kp.tq (aY.of e7)) Hi) (.cons (.l (aR.of ((fS n8).trans (s9 _ _ e8))) (p8.kp ((Kp.of s9).trans kd)).dt) .nil)))
    have hP:=f.put ci tD;rw[z8,<-Ny,<-k_,<-bx ht]at hP;show rA c3 (by have:=f.n;rw[mo];omega) (hN _ _ {_,_,_,_,_,hP,()})
   ·rintro σ H5⟨xs,v3,v4,v5,v6,f,rfl⟩;have c2:=y.ok.tc;rw[b_,b_,l_ (e_ _)]at f;show hN _ _ {xs,v3,v4,v5,v6,{(zx I).trans f.s,f.at_,f.dt,nr f.n (by omega)},()}
  case A3=>
  clear f s3;rintro σ H4⟨xs,v3,v4,v5,v6,f,rfl⟩;have I:am H H4:=f.same X (am.refl H);have ax:=f.at_;generalize dV:d1++M.trs.map (Kz M)=d4 at f;show U () {gl,(),{_,am.seq I hS},?_};show gn (K:=K) (a:=gl) (xs:=gs.map V.str) (λk=>KQ K H H4 D (Z.G .hh) gl (d4++(gs.take k).map (Mx M)) (80+k)) {_,_,_,_,_,{xS,ax,by rw[z3,NW,q4];show f.dt,f.n},()} (λi σ H' _ h=>by obtain⟨_,_,_,_,_,h,_⟩:=h;show am.seq (h.same X I) hS) ?_ ?_
  ·clear f;rintro k x σ H5 hx⟨xs,v3,v4,v5,v6,f,rfl⟩N R B hN;rw[i_]at hx;obtain⟨g,hg,rfl⟩:=Option.map_eq_some_iff.mp hx;have J:am H H5:=f.same X I;have hk:=(c_.mp hg).1;have hG:=c1 g (g_ hg);show au ?_;show U () {.inl {(),_,aR.of f.at_},?_};show iS (J _ _ hI) () () (U () {M,Z,c,g,(),y.same J,hG,λr6 u6 H6 W n6 e6 p6=>?_});have ad:=J.trans W;show iS (ad _ _ hI) () () (U () {M,Z,c,g,(),y.same ad,by omega,hG,λr7 u7 H7 s7 n7 e7 p7=>?_});have ap:=ad.trans s7;show iS (ap _ _ hI) () () (U () {ls (),λt8 d5=>?_});show fB d5 λH8 s8 e8=>?_;have cr:=ap.trans s8;show{M,Z,c,g,.ref t8,[],(),y.same cr,hc,hG,{t8,[],(),aY.of e8,(),λi m e=>(nomatch e)},λm hm=>(nomatch hm),.nil,ov _,λr9 u9 H9 s9 n9 e9 eG p9 a9 _=>?_};have c4:=cr.trans s9;show iS (c4 _ _ hI) () () (U () {ls (),λeH da=>?_});show fB da λeN ba ea=>?_;show{ls (),λeb dc=>?_};show fB dc λe5 a5 ec=>?_;have bb:=(c4.trans ba).trans a5;show{M,Z,c,g,.ref eb,[("age",3)],(),y.same bb,hc,hG,El (aY.of ec) (am.tseq a5 (aY.of ea)),λm hm=>?_,.cons (λ_ h=>(nomatch h)) .nil,Nat.le_add_left 1 7,λfa fj fl bc ed ef en eh ei _=>?_}
   ·rw[List.mem_singleton.mp hm];have:=mE;show{CV,by change-cw<=(3:Int);omega,by change(3:Int)<=cw;omega}
   show{ls (),λej bz=>?_};show fB bz λek bh el=>?_;have bi:=(((s8.trans s9).trans ba).trans a5).trans (bc.trans bh);have c0:=(W.trans s7).trans bi;have L:=W _ _ f.at_;have di:=(s7.trans s8) _ _ L;have bQ:=((s9.trans ba).trans a5) _ _ di;have b8:=c0 _ _ f.at_;have kd:=Bs (J.trans c0) b8;have ne:∀{H1:Hp}{r:Addr}{xs:List V},H1 D=some (.lst xs)->am H H1->H1 r=none->¬pD H D r:=λh s n=>wA (av h n).symm (s.free n);have gD:gS K (dl (pD H D) ek) 3 (Mx M g) (.ref ej):=by unfold Mx;rw[a9.dt y.ok,ei.dt y.ok];show .l (aR.of ((fS (ne (bc _ _ bQ) (bb.trans bc) bz)).trans el)) (.cons (.l (aR.of ((fS (ne f.at_ J n6)).trans ((s7.trans bi) _ _ e6))) (p6.kp ((Kp.of (s7.trans bi)).trans kd)).dt) (.cons (.l (aR.of ((fS (ne L ad n7)).trans (bi _ _ e7))) (fK.dt (fK.kp ((Kp.of bi).trans kd) p7))) (.cons (.l (aR.of ((fS (ne di cr n9)).trans (((ba.trans a5).trans (bc.trans bh)) _ _ e9))) (p9.kp ((Kp.of ((ba.trans a5).trans (bc.trans bh))).trans kd)).dt) (.cons (.l (aR.of ((fS (ne bQ bb ed)).trans (bh _ _ ef))) (eh.kp ((Kp.of bh).trans kd)).dt) .nil))))
   have hP:=f.put c0 gD;rw[z8,<-Ny,<-k_,<-bx hg]at hP;show rA b8 (by have:=f.n;rw[mo];omega) (hN _ _ {_,_,_,_,_,hP,()})
  ·rintro σ H5⟨xs,v3,v4,v5,v6,f,rfl⟩;rw[b_,l_ (e_ _),<-dV,<-dK]at f;show U () (q D H5 (f.same X I) X (.l (aR.of ((fS λz=>z.1 X).trans f.at_)) (f.dt.same λb o e=>(fS λz=>(nP e).1 (.inr z)).trans (nP e).2)))
end
inductive F7(P:Pa)(w:World)(K:O6)(a:fN)(vs:List V)(H:Hp)(Q:VK)(E:XK):Prop|mk(M:bj)(Z:ZS)(c:Nat)(dv:Addr)(d:Dd)(xs:List V)(_:vs=[.ref (Z.G .hh),.ref dv])(_:bK P w K a H M Z c)(_:c<=63)(_:aY K H dv xs)(_:jo K H M d xs)(_:(d.clo=false->∀(r:Addr)(us:List V)(rs:FP)(M':bj)(Z':ZS)(H':Hp),eT M d M'->FN K H' M M' Z' d r us rs->gh H M Z H' M' Z'->bK P w K a H' M' Z' (c+1)->H r=none->H' r=some (.lst us)->Z'.ds=Z.ds++[.ref dv]->Q (.ref r) H'))(_:(d.adds=false->∀(z:Str)H',am H H'->Q (.str z) H'))
section
def D8(T:Txt K mg a)(y:w.params=a.pm):aP P w K mg base cU 15 a.xb.x a.xb.d ["_law_house","_law_deed_here"] (F7 P w K a):=by
 show T.xb.ok yG λz A outer s H S Q E f h=>?_
 ·obtain⟨M,Z,c,B,d,C,rfl,t,hc,D,F,q,u⟩:=h;show{_,(af (GD () () T.wR () T.zf T.wS () T.zg T.qT (λE v V W G=>(Jg (i:=2) yG.nd () (by first|show Or.inl ()|show Or.inr ()) (GY (Y 0) T.ao T.dn.m ((rp (P:=P) (w:=w) T y).mono (by decide)) f T.dn.b .nil G (ac (Y 1) O)))) (λI=>(ah (az aE))) (λI=>(ah (az aE)))) (ah (az (Y 2)))),?_}
  show iS t.g.house () () (U () {M,Z,c,B,d,C,(),t,hc,D,F,λj r J L N R e nx aw st k f l n=>?_,λo _ e p=>?_,λo e p=>?_})
  ·show au (U () (q j r J L N R e nx aw st k f l n))
  ·show .inl {(),u o _ e p}
  ·show .inr {(),u (Dd.clo_adds o) _ e p}
end
def AT(a:FP):Dt:=.l (a.map dR)
def MB(M:bj)(Z:ZS)(A:yb)(a c b:Addr):Prop:=¬cZ M Z b/\b≠A.L/\b≠A.T/\b≠a/\b≠c
noncomputable def zP(H:Hp)(M:bj)(Z:ZS)(A:yb)(a c:Addr):Hp:=dl (λb=>¬MB M Z A a c b) H
structure FC(Hb:Hp)(M:bj)(Z:ZS)(A:yb)(t:Addr):Prop where
 nf:¬cZ M Z t
 n1:t≠A.pl
 n2:t≠A.L
 n3:t≠A.T
 n0:Hb t=none
structure FL(K:O6)(Hb H:Hp)(M:bj)(Z:ZS)(A:yb)(tl al:Addr)(Ms:Nat->bj)(Rs:List FP)(p:Nat)(sa:Int)(xs ys:List V):Prop where
 a1:H tl=some (.lst xs)a2:H al=some (.lst ys)ne:tl≠al
 o1:FC Hb M Z A tl
 o2:FC Hb M Z A al
 his:vX K H (pT p sa) Z.ds Ms Rs
 now:Ms Z.ds.length=M
 ep:M.p=p
 es:M.salt=sa
 d1:DtsAt K Hb 2 (Rs.map AT) xs
 d2:DtsAt K Hb 2 (Rs.map AT) ys
section
variable{P:Pa}{w:World}{K:O6}{a:fN}{Q f D H F B:Hp}{M j:bj}{Z v:ZS}{ns:Pg}{A:yb}{tl al b:Addr}{c R p:Nat}{sa:Int}{ls J:Pb}{E N:List (Str×Nat)}{I:Nat->bj}{G:List FP}{u C y:List V}
def bv.outF(h:bv P w K a H M Z)(kp:Kp H F)(n:∀b ob,H b=some ob->cZ M Z b->F b=some ob):bv P w K a F M Z:={h.inj,λr ob e=>n _ _ (h.at_ r ob e) (.inl {r,mR e,()}),λi l g=>(h.seats i l g).kp kp,h.trsI kp,λi l g=>let⟨h1,⟨m,h2,h3⟩,h4,s⟩:=h.tabs i l g;{λx d=>dW kp (h1 x d),{m,h2.outs λx d l u k o=>n _ _ o (.inr (.inl {i,(c_.mp g).1,x,d,k})),h3},h4.mono λ_ _ q=>dW kp q,s},h.came.outs kp λx d l u k o=>n _ _ o (.inr (.inr (x,d,k,)))}
def pz{o:HO}(h:H b=some o)(s:MB M Z A tl al b):zP H M Z A tl al b=some o:=(fS (λz=>z s)).trans h
def Jj{o:HO}(e:zP H M Z A tl al b=some o):H b=some o/\MB M Z A tl al b:={(nP e).2,Classical.byContradiction (nP e).1}
def mW.based(h:mW P w K a Q H ns M Z A c ls E):mW P w K a (zP H M Z A tl al) H ns M Z A c ls E:={h with bs:=λb o e=>let⟨d,g,i,k,_⟩:=Jj e;(d,g,i,k,)}
def mW.bsame(h:mW P w K a f H ns M Z A c ls E)(n1:f tl=none)(n2:f al=none):am f (zP H M Z A tl al):=λb o e=>let⟨d,g,i,k⟩:=h.bs b o e;pz d {g,i,k,av e n1,av e n2}
def mW.sfn(h:mW P w K a f H ns M Z A c ls E)(n:H b=none)(n1:b≠tl)(n2:b≠al):MB M Z A tl al b:=by obtain⟨y,d,_⟩:=h.pl.T;show{h.z.g.foot n,λz=>cE h.pl.L (z▸n),λz=>cE d (z▸n),n1,n2}
def mW.own(h:mW P w K a f H ns M Z A c ls E)(n:H b=none)(h0:f b=none):FC f M Z A b:=by obtain⟨y,d,_⟩:=h.pl.T;show{h.z.g.foot n,λz=>cE h.pl.pl (z▸n),λz=>cE h.pl.L (z▸n),λz=>cE d (z▸n),h0}
def mW.put(h:mW P w K a f H ns M Z A c ls E){y vs:List V}(i:H b=some (.lst y))(o:FC f M Z A b):mW P w K a f (aH H b (.lst vs)) ns M Z A c ls E:=by
 have kp:Kp H (aH H b (.lst vs)):=.lst i;have d:∀x ob,H x=some ob->x≠b->aH H b (.lst vs) x=some ob:=λx ob e n=>by rw[ak n];show e
 obtain⟨y,k,l⟩:=h.pl.T;show{h with z:={h.z with g:=h.z.g.out o.nf kp d},pl:={d _ _ h.pl.pl (p_ o.n1),d _ _ h.pl.L (p_ o.n2),{y,d _ _ k (p_ o.n3),AV.kp kp l},h.pl.n1,h.pl.n2,h.pl.n3},bs:=λx ob e=>{d _ _ (h.bs x ob e).1 (av e o.n0),(h.bs x ob e).2}}
def DO(h:b=tl\/b=al):zP H M Z A tl al b=none:=md λz=>h.elim z.2.2.2.1 z.2.2.2.2
def FC.based(o:FC Q M Z A b)(h:b=tl\/b=al):FC (zP H M Z A tl al) M Z A b:={o with n0:=DO h}
def FC.stp(o:FC f M Z A b)(st:gh H M Z F j v){x:HO}(d:H b=some x):FC f j v A b:={o with nf:=st.nf d o.nf}
def mW.kpr(h:mW P w K a f H ns M Z A c ls E)(h1:H tl=some (.lst u))(h2:H al=some (.lst C)):Kp H (zP H M Z A tl al):=by obtain⟨y,e,_⟩:=h.pl.T;show EI λb i=>Classical.byContradiction λd=>i {λz=>d (h.z.g.ntup z),λz=>d (z▸.lst h.pl.L),λz=>d (z▸.lst e),λz=>d (z▸.lst h1),λz=>d (z▸.lst h2)}
def FL.same(h:FL K f H M Z A tl al I G p sa u C)(s:am H F):FL K f F M Z A tl al I G p sa u C:={h with a1:=s _ _ h.a1,a2:=s _ _ h.a2,his:=h.his.kp (.of s)}
def FL.chg(h:FL K f H M Z A tl al I G p sa u C)(g:Mo A H F):FL K f F M Z A tl al I G p sa u C:=by obtain⟨o,i,kp,d⟩:=g;have n:∀{t:Addr},FC f M Z A t->t≠o:=λq z=>i.elim (λe=>q.n2 (z.trans e)) λe=>q.n3 (z.trans e);show{h with a1:=d _ _ h.a1 (n h.o1),a2:=d _ _ h.a2 (n h.o2),his:=h.his.kp kp}
def FL.told(h:FL K f H M Z A tl al I G p sa u C)(hL:mW P w K a f H ns M Z A c ls E)(aa:mW P w K a f D ns j v A R J N)(st:gh H M Z D j v){dv r r2:Addr}{d:Dd}{zs:List V}{W:FP}(hT:aY K H dv zs)(hD:jo K H M d zs)(hc:d.clo=false)(nx:eT M d j)(aw:FN K D M j v d r y W)(X:H r=none)(ad:D r=some (.lst y))(ep:j.p=M.p)(es:j.salt=M.salt)(s:v.ds=Z.ds++[.ref dv])(n2:aH D tl (.lst (u++[.ref r])) r2=none)(t:am (aH D tl (.lst (u++[.ref r]))) B)(e3:B r2=some (.lst y)):∃an m,FL K m (aH B al (.lst (C++[.ref r2]))) j v A tl al an (G++[W]) p sa (u++[.ref r]) (C++[.ref r2])/\mW P w K a m (aH B al (.lst (C++[.ref r2]))) ns j v A R J N/\am f m:=by
 have kp:=hL.z.g.stp st;have b1:=st.fr _ _ h.a1 h.o1.nf;have b2:=st.fr _ _ h.a2 h.o2.nf;have o1:=h.o1.stp st h.a1;have o2:=h.o2.stp st h.a2;have c1:aH D tl (.lst (u++[.ref r])) tl=some (.lst (u++[.ref r])):=ae;have c2:aH D tl (.lst (u++[.ref r])) al=some (.lst C):=by rw[ak h.ne.symm];show b2
 have rt:r≠tl:=(av h.a1 X).symm;have cr:aH D tl (.lst (u++[.ref r])) r=some (.lst y):=by rw[ak rt];show ad
 have x:=aa.put (vs:=u++[.ref r]) b1 o1;have o:=x.same t;have a1:=t _ _ c1;have a2:=t _ _ c2;have i:Kp D B:=(Kp.lst b1).trans (.of t);have kr:=o.kpr a1 a2;have O:am f (zP B j v A tl al):=o.bsame h.o1.n0 h.o2.n0;have ob:=hL.pl.T;obtain⟨ut,U,_⟩:=ob;have fr:zP B j v A tl al r=some (.lst y):=pz (t _ _ cr) {aw.n,λz=>cE hL.pl.L (z▸X),λz=>cE U (z▸X),rt,(av h.a2 X).symm};have Y:zP B j v A tl al r2=some (.lst y):=pz e3 (x.sfn n2 (av c1 n2).symm (av c2 n2).symm);have row:DtsAt K (zP B j v A tl al) 1 (W.map dR) y:=((aw.w.kp i).kp kr).dt;have dt:∀{q:Addr},zP B j v A tl al q=some (.lst y)->gS K (zP B j v A tl al) 2 (AT W) (.ref q):=λe=>.l (aR.of e) row;show{λk=>if k<=Z.ds.length then I k else j,zP B j v A tl al,{by rw[ak h.ne];show a1,ae,h.ne,o1.based (.inl ()),o2.based (.inr ()),?_,?_,ep.trans h.ep,es.trans h.es,?_,?_},o.based.put a2 (o2.based (.inr ())),O}
 ·rw[s];have kq:Kp H (aH B al (.lst (C++[.ref r2]))):=(kp.trans i).trans (.lst a2);show(h.his.kp kq).snoc (kq.tq hT) (by rw[h.now];show hD.kp kq) hc (by rw[h.now];show nx) (by rw[h.now];show aw.a)
 ·rw[s,mu];show me (NL _)
 ·rw[k_];show DtsAt.app (.cons (dt fr) .nil) (h.d1.same O)
 ·rw[k_];show DtsAt.app (.cons (dt Y) .nil) (h.d2.same O)
end
inductive JP(K:O6)(H:Hp)(A:yb)(sa:Int)(f:St)(σ:St)(H':Hp):Prop|mk(p:Nat)(pr:qV p)(s:am H H')(P:oE K H' p sa [] [] A)(e:σ=f):JP K H A sa f σ H'
inductive JGu(H:Hp)(gl:Addr)(j:Nat)(acc:List V)(H':Hp):Prop|mk(gs:Pb)(s:am H H')(at_:H' gl=some (.lst acc))(e:acc=gs.map V.str)(n:gs.length=j)(g:∀g∈gs,xg g):JGu H gl j acc H'
structure BsS(K:O6)(Hb:Hp)(sc gl:Addr)(ns:Pg)(gs:Pb):Prop where sq:aR K Hb sc (ns.map V.int)gl:Hb gl=some (.lst (gs.map V.str))
inductive JL(P:Pa)(w:World)(K:O6)(a:fN)(ns:Pg)(A:yb)(sc h gl tl al:Addr)(gs:Pb)(p:Nat)(sa:Int)(f:Option V->Option V->St)(i:Nat)(σ:St)(H':Hp):Prop|mk(Hb:Hp)(M:bj)(Z:ZS)(Ms:Nat->bj)(Rs:List FP)(xs ys:List V)(v6 v7:Option V)(L:mW P w K a Hb H' ns M Z A i (iO M) (jG M))(e:Z.G .hh=h)(S:FL K Hb H' M Z A tl al Ms Rs p sa xs ys)(B:BsS K Hb sc gl ns gs)(s:σ=f v6 v7):JL P w K a ns A sc h gl tl al gs p sa f i σ H'
inductive Ml(P:Pa)(w:World)(K:O6)(a:fN)(H0:Hp)(Ms:Nat->bj)(Rs:List FP)(ds:List V)(h D:Addr)(k:Nat)(acc:List V)(H':Hp):Prop|mk(Z:ZS)(s:am H0 H')(z:bK P w K a H' (Ms k) Z k)(d:Z.ds=ds.take k)(e:Z.G .hh=h)(f:∀b,cZ (Ms k) Z b->H0 b=none)(at_:H' D=some (.lst acc))(n:¬cZ (Ms k) Z D)(dt:DtsAt K (dl (λb=>b=D\/cZ (Ms k) Z b) H') 2 ((Rs.take k).map AT) acc):Ml P w K a H0 Ms Rs ds h D k acc H'
def Ml.next{u H m i:Hp}{j:Nat->bj}{v:List FP}{ds:List V}{h D r2:Addr}{k:Nat}{c B:List V}{Z p:ZS}{C:FP}(s:am u H)(f:∀b,cZ (j k) Z b->u b=none)(at_:H D=some (.lst c))(n:¬cZ (j k) Z D)(dt:DtsAt K (dl (λb=>b=D\/cZ (j k) Z b) H) 2 ((v.take k).map AT) c)(h0:u D=none)(st:gh H (j k) Z m (j (k+1)) p)(z:bK P w K a m (j (k+1)) p (k+1))(d:p.ds=ds.take (k+1))(e:p.G .hh=h)(aw:fi K m B C)(x:v[k]?=some C)(r:am m i)(n2:m r2=none)(J:i r2=some (.lst B)):Ml P w K a u j v ds h D (k+1) (c++[.ref r2]) (aH i D (.lst (c++[.ref r2]))):=by
 have a1:=st.fr _ _ at_ n
 have a2:=r _ _ a1;have E:=st.nf at_ n
 have kp:Kp i (aH i D (.lst (c++[.ref r2]))):=.lst a2;have F:∀b ob,i b=some ob->b≠D->aH i D (.lst (c++[.ref r2])) b=some ob:=λb ob e n=>by rw[ak n];show e
 have y:=z.same r;show{p,λb o t=>F b o (r _ _ (st.fr _ _ (s _ _ t) λq=>cE t (f b q))) (av t h0),{y with g:=y.g.out E kp F},d,e,λb q=>(st.fp b q).elim (f b) λq=>s.free q,ae,E,?_};rw[Fa (.inl ()),bx x,k_];show DtsAt.app (.cons (.l (aR.of ((fS λq=>q.elim (av a1 n2).symm (z.g.foot n2)).trans J)) ((aw.kp (.of r)).kp (EI λb q=>q.elim (λq=>q▸.lst a2) λq=>y.g.ntup q)).dt) .nil) (dt.same λb o t=>?_);obtain⟨A,I⟩:=nP t;show(fS λq=>q.elim (λq=>A (.inl q)) λq=>(st.fp b q).elim (λq=>A (.inr q)) λq=>cE I q).trans (r _ _ (st.fr _ _ I λq=>A (.inr q)))
section
def JF(T:Txt K mg a)(hw:w.params=a.pm):aP P w K mg base cU 17 a.law.x a.law.d ["_law_script"] (Dp K):=by
 show T.law.ok gX λku A outer s H vs Q E c h=>?_
 ·obtain⟨sc,ns,rfl,hS,hl,q⟩:=h;show{_,(af (bo 1 gX.nd (pc T.xc (D9 T) c (ac (Y 0) O))) (af (aN (aD aX (aB aW (pc T.eA (cK T) c (ac (Y 0) (ac ag (ac ag O)))) ag) ag (aG _)) (ah (jM (iP K (bg (ac ag (ac ag (ac ag (ac ag O))))) (aB aW (pc T.eA (cK T) c (ac (Y 0) (ac ag (ac ag O)))) ag)) (jN (Y 1) ag yw))) aF) (af (bo 2 gX.nd (mI T.uB ((iL (P:=P) (w:=w) T).mono (by decide)) c () T.xL T.cT.b .nil aQ (ac (iP K (Y 1) ag) (ac (iP K (Y 1) ag) O)))) (af (Hw 3 zO [] [6] [6] (ai A8) (ca 6) (dQ () T.fC (ac ag O)) (λcl C s₀ H₀ ex=>{(lE zO [] 6),bR,(pc T.oF (wC T) c (ac (Y 6) (ac (pc T.eA (cK T) c (ac (Y 0) (ac ag (ac ag O)))) O)))}) gX.nd) (af (bo 4 gX.nd (bg O)) (af (bo 5 gX.nd (bg O)) (af (d6 qq () (dQ () T.fC (ac (aA (qP ()) (by rfl) T.Eh L2.uW (ac (aB bV (aA (aI K ()) (by rfl) T.bC L2.aL (ac (Y 0) O)) ag) (ac ag O))) O)) (sf 6 gX.nd) (af (bo 7 gX.nd (pc T.xb (D8 T hw) c (ac (Y 2) (ac (pc T.xf (Ea T) c (ac (Y 0) (ac (Y 1) (ac (Y 6) O)))) O)))) (ah (aN (cu (aT K () (aA (kJ K ()) (by rfl) T.bM L2.bd (ac (Y 7) (ac (kx () T.Ef L2.uU) O))) (λ_=>()))) (af (aM (eO K () PySem.F.plainAttrs_list PySem.F.slot_list_append PySem.F.type_list_append cq (Y 4) (ac (Y 7) O))) (ah (aM (eO K () PySem.F.plainAttrs_list PySem.F.slot_list_append PySem.F.type_list_append cq (Y 5) (ac (b0 (ic K ()) (by rfl) T.mf L2.gx (ac (Y 7) O)) O))))) aF)))) (af (bo 8 gX.nd (eX (Y 2) T.ao T.eE.m ((nK (P:=P) (w:=w) T).mono (by decide)) c T.eE.b .nil aQ)) (af (bo 9 gX.nd (b0 (ic K ()) (by rfl) T.mf L2.gx (ac (Y 8) O))) (af (bo 10 gX.nd (pc T.kH (y0 T hw) c (ac (iP K (Y 1) ag) (ac (iP K (Y 1) ag) (ac (Y 9) O))))) (af (aN (PW.pt (eW (aD (xz K () (Cy c)) (Y 9) (Y 8) (aG _)) (dJ (aD D1 (aA (aI K ()) (by rfl) T.bC L2.aL (ac (Y 8) O)) (aA (aI K ()) (by rfl) T.bC L2.aL (ac (Y 5) O)) (aG _))))) (ah (az gT)) aF) (af (aM (eO K () PySem.F.plainAttrs_list PySem.F.slot_list_append PySem.F.type_list_append cq (Y 9) (ac (bp (ac aE (ac aE O))) O))) (af (bo 11 gX.nd (pc T.qd (pH T) c (ac (Y 2) (ac (Y 3) O)))) (af (aN (aD (xz K () (Cy c)) (pc T.qd (pH T) c (ac (Y 10) (ac (Y 3) O))) (Y 11) (aG _)) (ah (az gT)) aF) (af (ud (i:=12) gX.nd () (.inr ()) (mI T.uB ((iL (P:=P) (w:=w) T).mono (by decide)) c () T.xL T.cT.b .nil aQ (ac (iP K (Y 1) ag) (ac (iP K (Y 1) ag) O)))) (af (aN (PW.pt (eW (aD (xz K () (Cy c)) (rN zO ["_law_deed_here"] [] [13] (ai A8) (ca 13) (cP K () (Y 8)) (λcl C s₀ H₀ ex=>{(lE zO ["_law_deed_here"] 13),bR,(b0 (ic K ()) (by rfl) T.mf L2.gx (ac (aS (Y 12) T.ao T.dn.m ((kX (P:=P) (w:=w) T hw).mono (by decide)) c T.dn.b .nil aQ (ac (Y 13) O)) O))})) (Y 5) (aG _)) (dJ (aD (xz K () (Cy c)) (Y 4) (Y 5) (aG _))))) (ah (az gT)) aF) (af (aM (aS (Y 2) T.ao T.dn.m ((kX (P:=P) (w:=w) T hw).mono (by decide)) c T.dn.b .nil aQ (ac (bp (ac aE (ac (iP K (Y 3) ag) (ac (bp (ac (bp (ac aE (ac (aB qu ag ag) O))) O)) O)))) O))) (ah (az (cD (bS (D5 K () (Cy c)) (pc T.qd (pH T) c (ac (Y 10) (ac (Y 3) O))) (Y 11) (aG _)) (dL (bS (D5 K () (Cy c)) (pc T.qd (pH T) c (ac (Y 12) (ac (Y 3) O))) (Y 11) (aG _))))))))))))))))))))))),?_}
  show mn λu1 bi=>?_;show U () {sc,ns,(),hS,hl,λA p sa H1 s1 hC hF hG hP pr e0=>au (lF ?_)};subst bi;show Fj (JP K H A sa [some (.ref sc),some (.ref A.pl),none,none,none,none,none,none,none,none,none,none,none]) ?A0 (λN _ _ _ hN=>?B0)
  case B0=>
   show U () {sc,ns,3,1,(),s1.seq hS,hl,{by decide,by decide},{by decide,by decide},_,U () {(),(show(0:Int)<8 by decide),(),U () (k9 (λ_=>?_) (λ_=>?_))}}
   ·show{ls (),λl1 hH=>?_};show fB hH λH2 s2 e2=>?_;have b4:=bN (cX ns 4 1) (show(0:Int)<4 by decide);obtain⟨z,hz,ha⟩:=mw (ns:=[17,31,61,97]) b4.1 b4.2;obtain⟨hI,hJ⟩:=(by unfold qV;decide:∀z∈[(17:Int),31,61,97],qV z.toNat/\0<=z) z hz;obtain⟨ut,ec,gg⟩:=hP.T;have e1:=hP.same s2;have hk:∀b o,H2 b=some o->b≠A.pl->aH H2 A.pl (.lst [.int z,.int sa,.ref A.L,.ref A.T]) b=some o:=λb o e n=>by rw[ak n];show e
    show U () {sc,ns,4,1,(),(s1.trans s2).seq hS,hl,{by decide,by decide},{by decide,by decide},_,U () {(),(show(0:Int)<4 by decide),l1,_,_,U () {(),aR.of e2,ha,?_}}};show U () {A.pl,_,0,0,(),(),e1.pl,(),hN _ _ {z.toNat,hI,λb o e=>hk b o ((s1.trans s2) _ _ e) (av e hC),{by rw[NV hJ];show ae,hk _ _ e1.L hP.n1.symm,{ut,hk _ _ (s2 _ _ ec) hP.n2.symm,AV.kp (.lst e1.pl) (AV.kp (.of s2) gg)},hP.n1,hP.n2,hP.n3},()}}
   ·show hN _ _ {p,pr,s1,hP,()}
  case A0=>
  clear hP pr;rintro σ H1⟨p,pr,s1,hP,rfl⟩;show mn λu1 bi=>?_;have hp:=pr.le;show U () (rX (aR.of hP.pl) (aq (k:=0) ()) (U () (rX (aR.of hP.pl) (aq (k:=1) ()) (λh dx hh e3 hM=>?_))));have f2:am H1 (aH (aH H1 dx (.own h)) h (.ins a.bh dx [])):=λb o e=>by rw[ak (av e hh),ak (av e e3)];show e
  have ax:aH (aH H1 dx (.own h)) h (.ins a.bh dx []) h=some (.ins a.bh dx []):=ae;generalize aH (aH H1 dx (.own h)) h (.ins a.bh dx [])=H2 at f2 ax⊢;show{h,dx,(p:Int),sa,(),ax,{by lia,by lia},pr.pr,e0,λln tn ci dl H3 bl bt bz a9 bQ b8 b9 f3 cc aa ad an ap=>{(),au (lF ?_)}};subst bi;obtain⟨Z0,rfl,hZ,e5,s3,hf⟩:=J4 (P:=P) (w:=w) (K:=K) hp hh f2 bl bt bz a9 bQ b8 b9 f3 cc aa ad an ap;obtain⟨ut,ec,_⟩:=hP.T;have cr:∀b o,H1 b=some o->¬cZ (pT p sa) Z0 b:=λb o e z=>cE e (hf b z);have e6:mW P w K a H H3 ns (pT p sa) Z0 A 0 [] []:={hZ,hP.same s3,{λi l hl=>(nomatch hl),λj t ht=>(nomatch ht),ov _,pr},cr _ _ hP.pl,cr _ _ hP.L,cr _ _ ec,λb o e=>{s3 _ _ (s1 _ _ e),cr _ _ (s1 _ _ e),av e hF,av e hG}};clear bl bt bz a9 bQ b8 b9 f3 cc aa ad an ap f2 ax cr;have V:=s1.trans s3;show mn λu1 bi=>?_;show U () {by lia,by lia,λgl W=>?_};show fb (K:=K) (lo:=0) (n:=7) (JGu H3 gl) {[],aj (am.refl _) W,ae,(),(),λx hx=>nomatch hx} ?_ ?_
  ·rintro j ed H4 hj⟨gs,s4,hO,rfl,gv,a3⟩;show au (iJ (bB ?_));show U () (U () {sc,ns,4,6,(),(V.trans s4).seq hS,hl,{by decide,by decide},{by decide,by decide},0+(j:Int),cX ns 4 6,(),λg H5 s5 hg=>?_});show{s5 _ _ hO,by rw[b_,mo];omega,lf hj {gs++[g],bG (s4.trans s5) W,ae,by rw[k_];rfl,by rw[mu,gv];rfl,λx hx=>?_}};rcases List.mem_append.mp hx with z|z
   ·show a3 x z
   ·rw[List.mem_singleton.mp z];show hg
  rintro ed H4⟨gs,s4,a7,rfl,gv,a3⟩;show au (lF ?_);subst bi;show{ls (),λtl c0=>au (lF ?_)};show fB c0 λH5 s5 c1=>?_;show{ls (),λal ba=>au (lF ?_)};show fB ba λH6 s6 ev=>?_;have hQ:=s4.trans (s5.trans s6);have e7:=e6.same s4;have fa:=e7.same s5;have fj:=fa.same s6;have fl:H tl=none:=(V.trans s4).free c0;have fm:H al=none:=((V.trans s4).trans s5).free ba;have ef:BsS K (zP H6 (pT p sa) Z0 A tl al) sc gl ns gs:={(fj.bsame fl fm).seq hS,pz ((s5.trans s6) _ _ a7) (e6.sfn W (av a7 c0) (av (s5 _ _ a7) ba))};have fo:FL K (zP H6 (pT p sa) Z0 A tl al) H6 (pT p sa) Z0 A tl al (λ_=>pT p sa) [] p sa [] []:={s6 _ _ c1,ev,av c1 ba,(e7.own c0 fl).based (.inl ()),(fa.own ba fm).based (.inr ()),{(),by rw[e5];rfl,λk v hv=>by rw[e5]at hv;cases hv},(),(),(),.nil,.nil};have hL:=fj.based (tl:=tl) (al:=al);clear e6 e7 fa fj fl fm a7 ev c1 s6 ba s5 c0 s4 W ec hP hZ e5 hf s3 V hQ;generalize eh:Z0.G .hh=h0;obtain⟨n,en,n0,n1⟩:∃n:Int,n=(if(63:Int)<(ns.length:Int)+5 then 63 else(ns.length:Int)+5)/\0<=n/\n<=63:={_,(),by split<;>omega,by split<;>omega};show Fj (JL P w K a ns A sc h0 gl tl al gs p sa (λv6 v7=>[some (.ref sc),some (.ref A.pl),some (.ref h0),some (.ref gl),some (.ref tl),some (.ref al),v6,v7,none,none,none,none,none]) n.toNat) ?A9 (λN _ _ _ hN=>?B9)
  case B9=>
   show U () {_,ns.length,(),.inl {_,(hL.dr ef.sq hl).sq,by simp},_,U () {(),_,U () {n,(by rw[en]),(by omega),(by omega),?_}}};show uK (lo:=0) (n:=n.toNat) (JL P w K a ns A sc h0 gl tl al gs p sa λv6 v7=>[some (.ref sc),some (.ref A.pl),some (.ref h0),some (.ref gl),some (.ref tl),some (.ref al),v6,v7,none,none,none,none,none]) {_,_,Z0,_,_,_,_,_,_,hL,eh,fo,ef,()} ?_ hN;clear hL fo ef eh;rintro i σ H7 hi⟨Hb,M,Z,Ms,Rs,xs,ys,v6,v7,hL,rfl,u,hB,rfl⟩N R B hN;rw[show(0:Int)+(i:Int)=((i:Nat):Int)by lia];show au ?_;show U () (U () (U () (U () {sc,ns,M,A,i,(i:Int),(),hL.dr hB.sq hl,{by omega,by omega},λdv d zs H8 ch hT hD hR gD kv=>?_})));have bb:=hL.chg ch hR;have y:=u.chg ch;show{M,Z,i,dv,d,zs,(),bb.z,by omega,hT,hD,λhc r us rs M' Z' H9 nx aw st hW c c2 fv=>au (lF ?_),λha z H9 s9=>au (lF ?_)}
   ·obtain⟨_,ep,es,_⟩:=nx.nx bb.pn gD;have hX:=bb.fin nx st hW gD;have a9:=y.his.l;have x1:=y.d1.len;have x2:=y.d2.len;have kw:=bb.z.ds;rw[b_]at x1 x2;have a1:=st.fr _ _ y.a1 y.o1.nf;show U () {_,"str",_,false,(),.lst c2,gN (by decide+kernel),false,(),bB ?_};show U () {.inl {(),_,aR.of a1},U () (rA a1 (by rw[mo];omega) ?_)};have rt:r≠tl:=(av y.a1 c).symm;have a2:aH H9 tl (.lst (xs++[.ref r])) al=some (.lst ys):=by rw[ak y.ne.symm];show st.fr _ _ y.a2 y.o2.nf
    show lF (U () {.inl {(),_,aR.of a2},U () {r,us,(),.inl (aR.of (by rw[ak rt];show c2)),λr2 c3=>?_}});show fB c3 λhY I h5=>?_;obtain⟨h6,h7,h8,ig,sb⟩:=y.told bb hX st hT hD hc nx aw c c2 ep es fv c3 I h5;show rA (I _ _ a2) (by rw[mo];omega) (hN _ _ {h7,M',Z',h6,_,_,_,_,_,ig,st.hh,h8,{sb.seq hB.sq,sb _ _ hB.gl},()})
   ·show U () {_,"str",_,true,(),.str z,gN (by decide+kernel),true,(),cj ?_};show hN _ _ {Hb,M,Z,Ms,Rs,xs,ys,_,_,bb.not ha s9,(),y.same s9,hB,()}
  case A9=>
  clear hL fo ef eh;rintro σ H7⟨Hb,M,Z,Ms,Rs,xs,ys,v6,v7,hL,rfl,u,hB,rfl⟩;have hc:n.toNat<=63:=by omega
  have a8:Z.ds.length<=63:=nr hL.z.ds hc;show iS hL.z.g.house () () {M,Z,n.toNat,(),hL.z,λr8 H8 s8 n8 e8=>au (lF ?_)};show U () {r8,U () {.inl (aR.of e8),λr9 fx=>au (lF ?_)}};show fB fx λH9 s9 e9=>?_;have c4:=s8.trans s9;have a5:=c4 _ _ hL.pl.pl;rw[u.ep,u.es]at a5;have fy:=u.his.kp (.of c4);show U () (rX (aR.of a5) (aq (k:=0) ()) (U () (rX (aR.of a5) (aq (k:=1) ()) (U () {p,sa,r9,Z.ds,Ms,Rs,(),pr,e0,a8,aR.of e9,fy,λZ2 hY I X ei da=>au (lF ?_)}))));rw[u.now]at X da;have x2:=u.d2.len;rw[b_,u.his.l]at x2;show U () (U () {Z.ds.map Jm,1,(show 1<=16 by decide),.l (aR.of (I _ _ e9)) (xu fy.refs),.l (aR.of ((s9.trans I) _ _ e8)) (xu fy.refs),U () (cj ?_)});show U () {_,U () {.inl {_,aR.of ((s9.trans I) _ _ e8),()},U () {_,U () {.inl {_,aR.of ((c4.trans I) _ _ u.a2),()},(),U () (LR (λz=>absurd (by omega) z) λ_=>lF ?_)}}}};have fH:=I _ _ e9;show U () {.inl {(),_,aR.of fH},ls (),λT1 ej=>?_};show fB ej λa6 dc _=>?_;have fR:=dc _ _ fH;show rA fR (by rw[mo];omega) (lF ?_);have gV:=(c4.trans I).trans dc;have h9:∀{b:Addr}{o:HO},H8 b=some o->b≠r9:=λe=>av e fx;have kp:Kp a6 (aH a6 r9 (.lst (Z.ds++[.ref T1]))):=.lst fR;have hk:∀b ob,a6 b=some ob->b≠r9->aH a6 r9 (.lst (Z.ds++[.ref T1])) b=some ob:=λb ob e n=>by rw[ak n];show e
  have di:am H8 (aH a6 r9 (.lst (Z.ds++[.ref T1]))):=λb o e=>hk b o (((s9.trans I).trans dc) _ _ e) (h9 e);have X:=X.same dc;have X:bK P w K a (aH a6 r9 (.lst (Z.ds++[.ref T1]))) M Z2 Z.ds.length:={X with g:=X.g.out (λz=>cE e9 (da _ z)) kp hk};have da:∀b,cZ M Z2 b->H8 b=none:=λb z=>s9.free (da b z);have dK:=hL.z.same s8;have hZ:=dK.same di;generalize aH a6 r9 (.lst (Z.ds++[.ref T1]))=g1 at di X hZ;have g2:am Hb H8:=λb o e=>s8 _ _ (hL.bs b o e).1;have W:=g2 _ _ hB.gl;have k4:∀{b:Addr},¬Me H8 b->¬cZ M Z b:=λ{b}hb z=>by
   by_cases n:H8 b=none
   ·show dK.g.foot n z
   ·show hb {n,dK.g.ntup z}
  clear hk kp fR fH dc gV h9 ej e9 fx I s9 c4 a5;have ew:=s8 _ _ hL.pl.pl;rw[u.ep,u.es]at ew;show U () (U () {M,Z,n.toNat,gl,gs,(),hZ,hc,u.his.refs,aR.of (di _ _ W),by omega,a3,λk6 k8 V lb g3=>au (lF ?_)});show U () (U () {M,Z2,Z.ds.length,gl,gs,(),X.same V,a8,by rw[ei];show u.his.refs,aR.of ((di.trans V) _ _ W),by omega,a3,λlh dT ek ih fU=>?_});rw[ei]at fU;show U () {_,3,(show 3<=16 by decide),fU.same zv,(g3.same zv).same ek,U () (cj (lF ?_))};have J:=di.trans (V.trans ek);have f0:=V.trans ek;clear fU ih;have a5:=J _ _ ew;show U () (rX (aR.of a5) (aq (k:=0) ()) (U () (rX (aR.of a5) (aq (k:=1) ()) (λh dx hh e3 hM=>?_))));have f2:am dT (aH (aH dT dx (.own h)) h (.ins a.bh dx [])):=λb o e=>by rw[ak (av e hh),ak (av e e3)];show e
  have ax:aH (aH dT dx (.own h)) h (.ins a.bh dx []) h=some (.ins a.bh dx []):=ae;generalize aH (aH dT dx (.own h)) h (.ins a.bh dx [])=H2 at f2 ax⊢;show{h,dx,(p:Int),sa,(),ax,{by omega,by omega},pr.pr,e0,λln tn ci dl li bl bt bz a9 bQ b8 b9 f3 cc aa ad an ap=>{(),au (lF ?_)}};obtain⟨Z3,rfl,f5,il,el,g4⟩:=J4 (P:=P) (w:=w) (K:=K) hp hh f2 bl bt bz a9 bQ b8 b9 f3 cc aa ad an ap;clear bl bt bz a9 bQ b8 b9 f3 cc aa ad an ap f2 ax;have kt:=s8.trans (J.trans el);show U () {r8,(),{_,aR.of ((J.trans el) _ _ e8)},λD hD=>?_};rw[<-u.his.z]at f5 g4;show i0 (K:=K) (a:=r8) (xs:=Z.ds) (Ml P w K a dT Ms Rs Z.ds (Z3.G .hh) D) {Z3,aj el hD,f5.same (aj (am.refl _) hD),il,(),g4,ae,f5.g.foot hD,.nil} (λi ed H' _ h=>by obtain⟨_,s,_⟩:=h;show aR.of ((J.trans s) _ _ e8)) ?_ ?_
  ·rintro k v ed iq hv⟨Z4,bc,as,dV,e4,f4,eo,f6,d4⟩;obtain⟨dv,zs,d,rs,rfl,hT,ir,iu,nx,iA,iT⟩:=u.his.s k v hv;have hk:=(c_.mp hv).1;have ey:=s8.trans (J.trans bc);show au (iJ (bB ?_));show iS (by rw[<-e4];show as.g.house) () () (U () {Ms k,Z4,k,dv,d,zs,by rw[e4];rfl,as,by omega,am.tseq ey hT,ir.kp (.of ey),iu,nx.not as.ok,λr us ll M' Z5 i1 n5 aw st i2 c c2 fv=>?_});obtain rfl:=nx.one as.ok n5;obtain rfl:=iT.one as.ok aw.a;show{r,us,(),.inl (aR.of c2),λr2 c3=>?_};show fB c3 λi8 d5 f7=>?_;have ji:=st.fr _ _ eo f6;have js:=d5 _ _ ji;have j1:=d4.len;rw[b_,oD]at j1;show{js,by rw[mo];omega,lf hk (Ml.next bc f4 eo f6 d4 (el.free hD) st i2 (by rw[fv,dV,bx hv]) (st.hh.trans e4) aw.w iA d5 c3 f7)}
  rintro ed iq⟨Z4,bc,as,dV,e4,f4,eo,f6,d4⟩;rw[<-u.his.l,l_ (e_ _)]at d4;rw[u.now]at as f4;rw[l_ (e_ _)]at dV;have S:=J.trans bc;have ea:=g2.trans S;have a1:=s8.trans S _ _ u.a1;have a2:=s8.trans S _ _ u.a2;show U () {Rs.map AT,2,(show 2<=16 by decide),.l (aR.of eo) (d4.same zv),.l (aR.of a2) (u.d2.same ea),U () (cj ?_)};show U () (U () {Rs.map AT,2,(show 2<=16 by decide),.l (aR.of a1) (u.d1.same ea),.l (aR.of a2) (u.d2.same ea),U () (cj (lF ?_))});have eb:=dK.same S;have g5:=S _ _ W;obtain⟨g0,g6⟩:∃g0,gs[0]?=some g0:={_,h_ (by omega)};show iS eb.g.house () () ?_;show U () {gl,_,0,.str g0,(),(),aR.of g5,aq (k:=0) (by rw[i_,g6];rfl),?_};show{(),(),ls (),λT1 ej=>?_};show fB ej λi1 j2 kb=>?_;show{ls (),λT2 kd=>?_};show fB kd λi8 d5 f7=>?_;show{ls (),λT3 kk=>?_};show fB kk λlm ga kl=>?_;have f:=(j2.trans d5).trans ga;show{M,Z,n.toNat,T3,.visit g0 [("age",cw)],[.str "visit",.str g0,.ref T2],(),eb.same f,hc,aY.of kl,.visit (a3 g0 (g_ g6)) (El (am.tseq ga (aY.of f7)) (am.tseq (d5.trans ga) (aY.of kb))) (λm hm=>?_) (.cons (λ_ h=>(nomatch h)) .nil) (Nat.le_add_left 1 7),(),λz=>(nomatch z),λr us rs M' Z' g7 _ _ st _ _ _ _=>lF ?_}
  ·rw[List.mem_singleton.mp hm];have:=mE;show{CV,by change-cw<=cw;omega,OF _}
  have g8:=eb.same f;have ez:=g8.g.stp st;have he:=S.trans f;have ge:=f0.trans (bc.trans f);have ho:∀{b:Addr},H8 b=none->¬cZ M Z b:=λe=>dK.g.foot e;have eG:=X.same ge;have eH:=as.same f;have hA:bK P w K a g7 M Z2 Z.ds.length:={eG with g:=eG.g.outF ez λb ob e hb=>st.fr _ _ e (ho (da b hb))};have hT:bK P w K a g7 M Z4 Z.ds.length:={eH with g:=eH.g.outF ez λb ob e hb=>st.fr _ _ e (ho (J.free (f4 b hb)))};have eN:=st.fr _ _ (he _ _ W) (hL.bs _ _ hB.gl).2.1;have hq:∀{b:Addr},¬Me g1 b->¬cZ M Z b:=λ{b}hb z=>by
   by_cases n:g1 b=none
   ·show hZ.g.foot n z
   ·show hb {n,hZ.g.ntup z}
  have hs:=g3.same λx o e=>st.fr _ _ ((ek.trans (bc.trans f)) _ _ (nP e).2) (hq (nP e).1);show U () (U () {M,Z2,Z.ds.length,gl,gs,(),hA,a8,by rw[ei];show u.his.refs,aR.of eN,by omega,a3,λlv ly er l0 hu=>?_});rw[ei]at hu;show U () {_,3,(show 3<=16 by decide),hu.same zv,hs.same er,true,(),bB ?_};show U () (U () {M,Z4,Z.ds.length,gl,gs,by rw[e4];rfl,hT.same er,a8,by rw[dV];show u.his.refs,aR.of (er _ _ eN),by omega,a3,λl2 kq kr l3 hy=>?_});rw[dV]at hy;show U () {_,3,(show 3<=16 by decide),hy.same zv,(hs.same er).same kr,q kq}
end
end My
end
structure PySem.W.Fast:Prop where(tw267656774133415239 tw10018712218229049465 tw12217951465904382148 tw2101321060347614022 tw6112432035706462241 tw14911718087833511979 tw12275664103386480727 tw141681923339327284 tw1789263713471591411 tw12768247044286984354 tw15016147933830608773 tw1920097046529996354 tw442049467519067034 tw17656479347806009790 tw17363078492683575433 tw13767933005598556910 tw8872017421260971489 tw15197697470076335136 tw9491802470290635234 tw6709664412007698232 tw905583941271569529 tw13963966273673559902 tw15432509600059289227 tw11261076798389665050 tw1477338325211054188 tw8336272011768805490 tw17155976932922077033 tw14037630487192081829 tw7890284215113427505 tw3177949248796916830 tw10890508515049646828 tw11420330539102388563 tw9396574047930314194 tw14638303646286585296 tw847722766370011778 tw9721009365622237475 tw8530540682204039503 tw17181573709104736502 tw10837384222031592205 tw9350505480229745839 tw17748341519325225586 tw8273668305643306309 tw10435079126560975137 tw14598362850395498591 tw6378085080664832541 tw1110371729256694922 tw3767288301023184810 tw13870681691549274871 tw13791552290781881157 tw10423740285666657252 tw9985976187510404509 tw3131056062982411720 tw17454360291939694085 tw6635071251709742908 tw13023141706542201833 tw8723417739669075865 tw99327979365290608 tw17151117212641838264 tw12366128153732543871 tw15250613704033532002 tw5071628768382038550 tw3925685136834148714 tw13222478361596684303 tw3115233098268260616 tw15936990365829336378 tw11176715885490525156 tw8355290255080018145 tw2537771481062876147 tw14684531098718726619 tw4827225869193952524 tw13397612678690712229 tw12193926019898675205 tw12162899315502357988 tw11730815527890503982 tw7595182508291744987 tw12019310228546374737 tw15837871520482320806 tw7263099433943695858 tw9340934618328539469 tw9295547024354154794 tw14190992584557150158 tw15869454273333059741 tw2003405836163174751 tw3662091213004988663 tw18157565517396925710 tw70304084575512642 tw10228315987132380393 tw5778336630170597637 tw2294439712439282269 tw5089508253312061442 tw4563788190270587472 tw16097162403453018911 tw7612037001610020319 tw6025704517656434556 tw8114124760077146629 tw15222349739034434458 tw1864896302842363315 tw293993403196039125 tw7645068122992654544 tw2206893686867588400 tw8665768958956358538 tw4311001441579548858 tw4272893469798605602 tw15050178551975047962 tw18021476454380703114 tw2580248959893744828 tw15270686667986528641 tw15103291528126212427 tw9959472372136565983 tw5992374029490126269 tw14494437172812983773 tw10698347888827039444 tw2654422643299147785 tw8918742060211478955 tw5319422987712686698 tw5830417367725558269 tw15520160513190213313 tw11868171942154776848 tw1261355346874919133 tw13066128871961415609 tw7486964943660532531 tw3861936598269770677 tw18066321846508245634 tw10803275762600317690 tw1584634803445922278 tw7703723324919143833 tw4750847221250665030 tw5879878285476885211 tw7880891063230959431 tw17524673518691873805 tw14545230364824073197 tw8173052654750665755 tw14250651106097893899 tw17390208145226183705 tw11581490170831456132 tw2995220516014178634 tw1166386132309106726 tw6200999262171823839 tw5434860132769501349 tw3810111656556364060 tw17465048844652541355 tw906120924271825685 tw1775137279095714581 tw9673671320179815702 tw5716635422801468693 tw17239000597467267033 tw5837966656234050703 tw961896058661809514 tw13319581035673547255 tw14851678872521643368 tw11097606112809097018 tw12691009009743653180 tw134444756492408778 tw2358350675515326371 tw15976267424978116316 tw13800285387868688396 tw11195164547310618151 tw10356610567246866845 tw6710068807130594605 tw4830544050244612308 tw11082180060863644837 tw12725601940835172774 tw2167394491885556688 tw7613948884012923632 tw15702373288396764811 tw12464627058044912742 tw13765245276341215884 tw4090370958991047555 tw9936981699403336695 tw1834472407767854505 tw4587097895867798491 tw12042260369680470754 tw13937737685302628900 tw9447075096971763772 tw14523729738948629840 tw10887750842105050169 tw8274200245331558994 tw15454526776229446331 tw8127899627709508218 tw4493813224720313356 tw11755004826184910222 tw11390134119714056615 tw9953824407536211555 tw13607881536970606877 tw18127227296024427701 tw5065220904057302047 tw10184622002827499202 tw14813378850398095116 tw11938550630651391285 tw4575904551042234220 tw3651241319722152617 tw15862424366822674777 tw10857355283239386350 tw16619113178197359013 tw11885367029577753789 tw5335451145998428808 tw6602232028626423518 tw8840040486653280731 tw1177359717949463120 tw6516021004715232042 tw7370131780607162815 tw11039023239511752873 tw9003734634945979757 tw4334598877743244435 tw1407108571992696196 tw3253360156524263010 tw12459605884311539763 tw3670589248305715706 tw14041291083168979323 tw17747353052724043873 tw15854690135276876185 tw2766283703696342485 tw271667987062719707 tw13724805612981651399 tw15200321731536559935 tw16011599212248833878 tw15139714853865777732 tw5141002397851166651 tw9271566085949539955 tw13680335176866007618 tw15472827161787417770 tw1550109812355879427 tw15180998349610400787 tw704750745626509013 tw8523000895672437674 tw4904670893701043502 tw14445654890418158758 tw15653499731766873319 tw3548227009070363019 tw3956472774824250650 tw11041346237773502889 tw2269857886758649931 tw12820403214305980078 tw7181091306271318027 tw2659598575432896076 tw238275636262643640 tw11704398072897498197 tw1789722668079286670 tw7283335190131777892 tw10657620138947145317 tw4657373328676387458 tw9359288256249321141 tw8501629776522820929 tw17470489430444066091 tw10268630109438049299 tw10841988752062094704 tw17106546141335530233 tw9997904756866525358 tw12287419023343040698 tw14388141987239353627 tw6329335926734166958 tw9210577347798928959 tw14398319370290706298 tw530175178792397482 tw8995523279238531362 tw959754704761834298 tw16225399986467416848 tw14895317715179681076 tw10756382523693773256 tw943937393816965663 tw14516702275798175552 tw7291583250179251911 tw18045967113716604689 tw7771462665589258311 tw10673604170640583906 tw6480374709747456850 tw1909075576139332775 tw15535786509550302790 tw649304332967799220 tw2410649159226527225 tw18348776671705590972 tw974499912113753351 tw12812152590760939453 tw8692391356310145580 tw86099503854625942 tw2858383541964227229 tw7678890659811156842 tw11006089842939698127 tw13682223750845583061 tw9867201151119949273 tw2141214284663138260 tw10161431592605198989 tw9542193840508214085 tw7237558771133908436 tw11224699210545080036 tw5812325066359694916 tw6482100160205932719 tw8258600695068956494 tw4133374039204978985 tw303345521923985202 tw14884410962757058532 tw4034538298546673312 tw6458534215789387627 tw15136929685200330783 tw12974876632713798909 tw613684413499865765 tw10790914472633199105 tw17810570109901176100 tw17536694736198490393 tw7433773156874782928 tw9760927875199322404 tw17502592777923589647 tw11819328997903815366 tw6282944724997737813 tw9182799655252281791 tw3446617822508249374 tw13135923457378801196 tw9270317120064040345 tw9612181313671858316 tw11254494105110796236 tw15674050022743089840 tw4065616600225299353 tw17535780019474015141 tw664114540639924879 tw9383446539503095550 tw18025890194677495478 tw15663419784644502718 tw998070714400914535 tw10785373406767732577 tw8031408569462000412 tw5064866893973279962 tw13564675899408658007 tw5969219062581713289 tw13057613777488985461 tw7055413300257956038 tw2964262454581233978 tw13944390721477770734 tw5772853539826847792 tw1511298921268411140 tw1967704806742173221 tw17534903456437090223 tw403800943495074531 tw4575755627774235090 tw11831526946510503484 tw17212349734093911523 tw1831161676071945037 tw10133578635693692140 tw11312118831793551091 tw7795614700390541531 tw13998836454152983530 tw3749364208576759821 tw17931480419267839689 tw1349176966319779483 tw8652545757429917226 tw12990890386553965278 tw5436316892532266179 tw17662347540299900484 tw6598036742092083770 tw3713908132854963750 tw9810700352154766556 tw10067545849736869119 tw13664688771659139006 tw6654035366276905258 tw15291085758574741277 tw9365751316937539695 tw174732811501107833 tw14156583051526794168 tw8206775887779904230 tw13731691075637731418 tw8932166508044644776 tw4745197129084122516 tw8016548700342673498 tw6829273483089349047 tw17843037814821289753 tw4285700090102130042 tw14378981518919265856 tw5075154398202927696 tw12383717145039893300 tw6621562324345787764 tw13681359578648293188 tw3779615961874041876 tw9817611154238509581 tw14313589191443989161 tw7289597872088377220 tw9859473283169344157 tw2625089955568247319 tw11158960130968114938 tw4378880236577029524 tw4713965789921099115 tw4067871971666010724 tw1523122166894423611 tw599576805259007673 tw3601656834319370640 tw10334984198523399296 tw13648167933716133976 tw774197782876196430 tw9000693313106508563 tw17616044336829078319 tw187662724103405927 tw16454121466980465347 tw14669150212377226736 tw14978597339533906536 tw13092774041259892220 tw6193075131660636205 tw1294866922265371779 tw16097504796196283086 tw12844818931917883743 tw11746380377949227658 tw11694399256694212794 tw5904056519229781159 tw9762762436118401275 tw10561906506725832745 tw1357364539354303361 tw15180355185394077588 tw11294618846563218595 tw9360357183230130828 tw10727688320508211679 tw222072516164310614 tw2955411209190406159 tw14845941159958900854 tw90544912584551757 tw11299099991672740484 tw15130438617125570659 tw11173001036601620934 tw12260625806336738643 tw3563015479388684122 tw11743828680538662345 tw11426310092674732858 tw5358579591097498204 tw15369041837708510859 tw6439900350503483553 tw17181106863704151913 tw6378498142885678521 tw980942420039593438 tw7032534073075424087 tw11376341006010093692 tw17420724655448612687 tw18268003352961838284 tw1177509044210283157 tw8053452153984411338 tw2885127986078787686 tw1570727459837287048 tw8296530869504596673 tw16852377831724918518 tw15883521348507850825 tw4832078679448939430 tw6111627744775565192 tw10686923399661710759 tw3092489584010149661 tw17034485526808791091 tw16147034834281264729 tw4712433806939601707 tw17464265383113154404 tw2967089602282358859 tw581227727541165618 tw15267009392802654610 tw1198733400058546125 tw3763046039205344775 tw17382069126385673138 tw14662681723804437420 tw10756832240544251550 tw11807078262106467905 tw1744489134896992670 tw15097111619063227201 tw5839804763260532711 tw1772892796152198417 tw5645813486522867180 tw17810571274483159170 tw1102169175877929720 tw7283525116701307561 tw5313460730268151832 tw7971782831616273632 tw787279590333364415 tw2821776684991705295 tw16610232589287826438 tw7635677643368345043 tw15601600114744412489 tw10229282172771052242 tw4621358467393523253 tw17352992657110606635 tw2387803717897424596 tw1612790865218136367 tw15333164222108143365 tw354536530227448921 tw15852956495822226552 tw3804426458543548706 tw1874009939241787324 tw16820593148336875852 tw11806756219757349427 tw8353432336136216251 tw15598069566657172499 tw1770630493803203052 tw6909823783914873860 tw4704079272281245672 tw16498003280788778691 tw14675578426930893103 tw13596139900016734169 tw7994837573583415801 tw17001574736721096481 tw2907681759233091976 tw10356896984146508259 tw14052212573361586991 tw8442451648114272815 tw2157929085888872005 tw8638084437475812051 tw4139464636444337734 tw11046498955392009371 tw18251809996013414790 tw16027374333162795314 tw8509260856537236175 tw12773839893591013684 tw2014682698301884392 tw16880116102880720340 tw16555087276199821957 tw9710626024689271326 tw15146495648730023120 tw10636416401249575708 tw11789161723210395073 tw7129761702969034663 tw10710674091976009237 tw8315512160312225759 tw16192824086667302126 tw12849595254286552691 tw17328750966027875565 tw6731531092314276507 tw4967925162061314998 tw15828699399897543476 tw4601253519462704978 tw13355196382692985793 tw3148597194262054767 tw5152862630245031558 tw1815264811789212815 tw18407205036920496774 tw4272384422360625705 tw8543369459927175318 tw13752276160773810761 tw13244581773317685852 tw13010897281851878381 tw9690445121639915249 tw8838813141497900652 tw2955016781209786554 tw10545563692859581786 tw14835203516876437637 tw8599744201945112396 tw4951765823965435607 tw17228880284447597389 tw4989968790644349248 tw2225529002884644883 tw5006010094414127272 tw15733194806193353965 tw17726919852720019249 tw5677100740653027137 tw5076544874301470795 tw8824719254033833259 tw14347528954451589714 tw15947164318393881267 tw4907888380740638693 tw16179836543994195418 tw2183023813099927512 tw4442091454488538874 tw12855177233266439856 tw17331090461215424430 tw688028053060937543 tw18393341338898467835 tw8791575608110131318 tw8371707715913765899 tw16564452902187152777 tw15715620353363902421 tw7704718089810543515 tw14696820036302335428 tw6057052702728863680 tw10899705561516813915 tw14773345367675728499 tw5415049194258522897 tw5673131769001942994 tw16484060261059128838 tw1365347260157306526 tw6680072025885718410 tw11050449374305305103 tw5851797027472899647 tw906220172070886562 tw3221504222784148080 tw1222665187115659687 tw6845413218344867866 tw4954922612317183360 tw5440834680393492916 tw1765055823419369013 tw17368753661125769463 tw5846718063702722134 tw9972627541676709995 tw7650890858506860553 tw3094970911505487100 tw2104050919087774883 tw2841457918906263402 tw9054790387003166186 tw11143127507174632866 tw13544663865345339082 tw5323084782270462414 tw3511514301253085329 tw10056362526509649960 tw3249672752751537198 tw4819240062262380419 tw4763789543294056038 tw10553611223867837499 tw9598286657230474119 tw6021918378742468792 tw11543548223155386025 tw7111210243052687684 tw5524363443721088918 tw14165218290467667027 tw105336201397129084 tw12387781438807760907 tw2136954646724529021 tw677312994791676151 tw1016269871103212834 tw17732739512832961249 tw13042665240658920722 tw2034990546127393956 tw5857798704209616262 tw3448917974147619650 tw15119301880726140260 tw1391045419849068082 tw17768824895279469631 tw5546010462997092673 tw12900187572326612825 tw6034659301603255914 tw6075715530819147620 tw7820317196329007904 tw4950418817426619462 tw2030946932387290212 tw11821786764700219490 tw18183476134549637548 tw12170679648366770371 tw5768268654114690644 tw15435857772600237386 tw15502505280023998882 tw7117842784672827065 tw16597399826830625529 tw8388967999395111002 tw8448318638473499306 tw5385618424457242859 tw3895959158951213689 tw5005328535513388931 tw14903690316521629433 tw9812281809491157295 tw3604458367730179300 tw1072927658029735390 tw6728720068158055758 tw16686618485970368469 tw1686622443905479219 tw5674848474926324185 tw8767774166505824461 tw12920062945587660717 tw17475236014666408252 tw9944776988542773561 tw13376916313350848405 tw2975113725494407914 tw10267589326524096868 tw13308057906565324726 tw4069038701289447522 tw10379173494134189352 tw1705827133430158840 tw12624509626872566522 tw17231548266049857881 tw8867330215450562450 tw13113667984722328338 tw13866824691488317061 tw4239163164742734394 tw11155372100706644306 tw17156208856189290744 tw16538846377302849655 tw6455118640230449262 tw15905163305928439966 tw1990845821616568787 tw18414244327899545342 tw12715220270125256415 tw7942959200708891501 tw18115648766312035365 tw9236855875242405908 tw16202012906037981755 tw15337585846852948351 tw13521258494411718315 tw1035335341098761844 tw15812955118951169943 tw3929462026961867268 tw5788186373257728402 tw12140952429370339099 tw2345050360504842534 tw687874482352011240 tw2586317178890153349 tw7597785916364609785 tw4012667204890639926 tw13576037077596483610 tw2533851650630092886 tw10197789509228381152 tw17888684424280916371 tw795038713941895116 tw4667112981435861778 tw11748826938896565050 tw16654997710241585545 tw9713656889753474979 tw12720896896058166721 tw12252720398711037701 tw649099582521796428 tw7379940381745833552 tw9004371673809690970 tw7052719399230853884 tw9608567920703923810 tw12198965124798367317 tw964897928243986465 tw15486617229443986167 tw16379369425320456354 tw11803052556442595896 tw9528333713119185520 tw16022802866844231342 tw17104811324523149014 tw6738571414414553704 tw229439836415827985 tw221528293607197991 tw16391647443365518882 tw9428857550201381118 tw4350896143820576925 tw4206890012925160273 tw5781339456166245803 tw17742754891145350822 tw8016475847587416860 tw3608716067303480335 tw3150925690120381855 tw2126941857158543839 tw11004264525183621167 tw10631282267471975355 tw13054084029521122557 tw395204252856998238 tw17033728209328785213 tw2926185354107706330 tw7339657822007556139 tw5791648957797085110 tw17257007220763797317 tw14608443826895958488 tw6670226127605884053 tw15953256789213298288 tw17696456117769095669 tw2448246869771705847 tw5541133030236731909 tw8167740064630412580 tw6651568145013940650 tw16377187072001169066 tw2158549860606584481 tw5998282926831085955 tw17740495519574726630 tw15318536471806880505 tw9490785573919375005 tw6200074076923969392 tw5204014379030685805 tw7680372406131986173 tw17981552735455693872 tw14519808594236561847 tw1230341066215709222 tw16856684742057032860 tw14539605865490197076 tw5372299719366604029 tw1869960864121651434 tw3225734413909608149 tw11885014794613503449 tw4503833355232666632 tw8762392081860354326 tw12652579424918707320 tw16102315721073014208 tw8354290308666153031 tw4607518542392735821 tw956845577707261809 tw6699102313773945464 tw15908802646489685222 tw9266022929173823616 tw4373649788770409280 tw15204312167686679833 tw11717249681012266435 tw1097269510934623561 tw17060381243349577557 tw5793155393398636452 tw13375924374225387076 tw13067574661428056888 tw21612120211289957 tw9951107880268503656 tw8180268848459738635 tw1897244405276136804 tw8907471442321803041 tw4356213346563937812 tw11958542633156757639 tw13946316292694672076 tw5955294805212931272 tw10179890952058918518 tw6538415556132953366 tw7228435082367444036 tw2782771600802280974 tw9950283034296871738 tw2205962210473862127 tw6659807890464189715 tw2318298863558040650 tw6088971444514906934 tw13340778077299489529 tw13879918744235053759 tw14529125052191381955 tw10051245789603770428 tw3515506550344949833 tw9830655883583804283 tw12782460892772855225 tw9057313539244197804 tw15555916115264133219 tw7326468851362164307 tw4940547614274111154 tw5224852649280282116 tw333864634824634563 tw14421549355361171318 tw5302394655273483964 tw6813717878870743805 tw18445478889333001111 tw18259004563170815438 tw6924832988086778636 tw1421296787605395536 tw7510465136292325902 tw16171421925448909778 tw15598247550122202705 tw14249975876500910779 tw9332926528842949506 tw18043510674911990604 tw3244812370947191721 tw8603790062606450798 tw13132994188742561829 tw16698306184853282748 tw14871569283249651018 tw16210800590009789198 tw5936381251808576849 tw7350144353327730290 tw16518949374209205609 tw1132363102523977753 tw1563234198208894257 tw15249720523120055434 tw5226462003888099795 tw3038960921884226855 tw8671013560503840618 tw5279206302914934827 tw7802307821407784473 tw4384733427469204192 tw13836852713044536385 tw14183040089690556893 tw18283824030880349086 tw1335250432311284249 tw5844598311638694357 tw10384673252443595656 tw10889221415804443359 tw2016950157627758906 tw6001750599422394523 tw3993052480396485759 tw8038828597450583473 tw11651664316016214500 tw16419969371706510329 tw17799412843560943239 tw6504089113246796378 tw9969837659448813862 tw7140303049178035709 tw11191519653093527340 tw17636341552693374476 tw15793978540560628862 tw7708312814032658840 tw4184996573265769785 tw14388808807602084477 tw3879286972854508555 tw15598597605276920744 tw17621523602421343364 tw15402076361049014387 tw16447995716305059401 tw8970223649455709734 tw1848277562686914897 tw2792650904498955897 tw3711948097870512007 tw1523197515274633867 tw5640369978801869743 tw14570028304243918714 tw6954990606076307771 tw12834022281143178040 tw4527036075900596166 tw618874134079444465 tw6709748040096181997 tw6600349385826943987 tw16816381508109340711 tw13396622120548364862 tw6538365138338854587 tw8812539825337405871 tw2781269005447674221 tw4975031766560557409 tw11630837188052520263 tw6505163666955834664 tw14188545828373402989 tw7051077509397105796 tw14503213602690406741 tw17390533749290554963 tw17348840655914873152 tw16221106948013658901 tw13084568718548210027 tw12215138096478980764 tw7460670615222664709 tw10052679680147338875 tw7389623004735536351 tw4031188773962250052 tw15655778892993773157 tw419455440711122601 tw4752421650397392488 tw6489449429591506520 tw1343257009910617561 tw6518667389761378485 tw10146409669419438788 tw16091442108303157831 tw8448273151804002077 tw18397407174682713016 tw10304250864003693061 tw14550850318325401411 tw5059639325992816868 tw13333801528396747634 tw16068507410779745508 tw13983482346249292336 tw8056340143451353548 tw4086762167514084843 tw14136312928448363002 tw14411986396947947209 tw9790163445753971151 tw9538416949819644795 tw6521282369816956078 tw10330295979583890481 tw12875246335310633770 tw2620419283583976894 tw3314779222176306441 tw15474930757626799633 tw1430182477791290334 tw17491606357194145355 tw17686526019968795491 tw15887667356404044903 tw1960976801637501156 tw14865517335655317983 tw2821702494091212334 tw6161217468625735730 tw5635685714938187849 tw9197859876864336907 tw7693294960351401318 tw10700575872307867975 tw12559868375599550367 tw17287542415921522578 tw2989549629213812857 tw15869234441775360056 tw11253171644764224252 tw6864609628736125134 tw3255353380628621479 tw8887695056941974257 tw12341748442159235054 tw14259282025748390405 tw703939130616916624 tw3564077029881319408 tw1376755357140844251 tw6837913832514859856 tw5596675451979186244 tw2591869335692640337 tw8122704341432817872 tw11707410682188310559 tw16707399948857893782 tw2813727783783680083 tw18347693969171693439 tw15470696208988583060 tw15961227418122043792 tw5024973574211623435 tw9069767041620356722 tw6193112587558811625 tw12085294003355071459 tw10019239919830552430 tw9865614120949377352 tw6270604227586479973 tw9610462351510501675 tw12389377511147104261 tw7435238316012295093 tw8004945450994801455 tw1803407620319404817 tw2830515246601394560 tw11577175570964113650 tw2950727176128090533:True)
open PySem PySem.W PyProof.Rows
set_option maxRecDepth 100000 in
set_option maxHeartbeats 0 in
theorem PySem.Challenge.cw_layersplit_k28_a_book_replayed_holds : PySem.Challenge.rw_layersplit_k28_a_book_replayed.Holds := by
 w_on;o_law;k_head;(case hw=>w_witness2)
 k_fill
 refine L2.CY (l:=PySem.Challenge.rw_layersplit_k28_a_book_replayed) (n:=63) (k:=17) (x:="_law_script") (CX:=L2.cU) (sp:=My.Dp) rfl (by decide) rfl ⟨rfl,by decide,by decide⟩ (λw h Y=>PySem.W.kIn_of Y) ?F ?S ?C
 case F=>
  intro w mg fa h KX G hmg;have T:∃a:My.fN,My.Txt (L2.KOf KX) mg a/\w.params=a.pm:=by
   dsimp only[L2.KOf]
   refine'⟨My.fN.mk ..,?T,rfl⟩
   case T=>
   constructor
   all_goals try dsimp only
   iterate 19(exact L2.L3 KX G (by k_is))
   iterate 43(exact L2.Ig KX G (by k_is) (L2.AI (by k_is) (by k_is) (by k_is)) (by first|exact L2.b1|exact L2.b2|exact L2.b3|exact L2.b4|exact L2.b5))
   iterate 38(exact L2.LF (by k_is) (by k_is) (L2.AI (by k_is) (by k_is) (by k_is)) (by first|exact L2.b1|exact L2.b2|exact L2.b3|exact L2.b4|exact L2.b5))
   iterate 15(exact L2.Ig KX G (by k_is) (L2.AI (by k_is) (by k_is) (by k_is)) (by first|exact L2.b1|exact L2.b2|exact L2.b3|exact L2.b4|exact L2.b5))
   iterate 2(exact L2.Ll KX G (by k_is))
   iterate 12(exact L2.LT KX G (by k_is))
   iterate 2(exact⟨by k_is,by k_is,by k_is,by k_is⟩)
   iterate 3(exact L2.Bm (by k_is))
   iterate 2(exact⟨by k_is,by k_is,by k_is,by k_is⟩)
   iterate 3(exact L2.Bm (by k_is))
   iterate 2(exact⟨by k_is,by k_is,by k_is,by k_is⟩)
   iterate 7(exact L2.Bm (by k_is))
   iterate 2(exact⟨by k_is,by k_is,by k_is,by k_is⟩)
   iterate 6(exact L2.Bm (by k_is))
   iterate 13(exact L2.L5 (by k_exc))
   exact⟨by decide,_,_,by k_is,by k_keys⟩
   iterate 10(exact⟨_,by k_is⟩)
   exact L2.LP (by k_is) (by(repeat(first|exact .nil|refine .cons ⟨_,rfl⟩ ?_))) rfl;exact L2.Mb (by k_is) rfl (by decide)
   iterate 19(exact L2.KS KX G (by k_is))
  obtain⟨a,T,hw⟩:=T;have e0:=hmg.symm.trans T.law.m;cases e0;exact⟨a.law.d,My.Ct T,λbase kb nb=>My.JF T hw⟩
 case S=>exactλK H a ns hl hO hS=>My.Cs hl hS
 case C=>exactλ_ _ _ _ z=>z
#print axioms PySem.Challenge.cw_layersplit_k28_a_book_replayed_holds
