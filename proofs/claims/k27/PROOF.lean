import PyProof.Rows.All
import Wide.All
import OpenK.AllK
import Wide.FinOn
import Lean
import PyProof.EqAt
import PyProof.EqKinds
import PyProof.TupleCall
import PyProof.WalksMore
import PyProof.SetScanFacts
import PyProof.Logic
import PyProof.FactsBase
import PyProof.TableTree
import PyProof.FactsTree
import PyProof.PlainAttrs
import PyProof.DictWalks
import PyProof.SetKind
import PyProof.ForAny
import PyProof.FactsAll.set_1
import PyProof.CollectWalk
import PyProof.WalkLemmas
import PyProof.FactsAll.set_2
import PyProof.Walk
import PyProof.Rows.SortStr
import KE.KRevIter
import KE.KDictList
import KE.KDictLaws
import PyProof.FString
import OpenK.KTop
import PyProof.StrLawsTight
import PyProof.Rows.StrLawsPart
import KE.KIntText
import PyProof.Rows.StrSplitJoin
import PyProof.ZipIter
import KE.IntTextLaws
import KE.KDictOf
import PyProof.AttrMissHeap
import PyProof.EnumMake
import PyProof.EnumFor
import PyProof.Draws
import PyProof.DictItems
import KE.KPairComp
import KE.KSortTup
import PyProof.Rows.SortWalk
import PySem.Challenge.RW_layersplit_k27_told_lists_are_own
set_option Elab.async false
set_option linter.all false
set_option maxRecDepth 100000
set_option compiler.extract_closed false
def a_:=@PySem.wpAny_bind
def b_:=@List.length_map
def c_:=@PySem.Heap.get?_push_of_some
def d_:=@List.getElem?_eq_some_iff
def e_:=@Nat.le_refl
def f_:=@PySem.wpAny_pure
def gV:=@List.mem_of_getElem?
def g6:=@List.getElem?_eq_getElem
def g8:=@List.getElem?_map
def g_:=@PySem.Heap.get?_push_size
def hF:=@List.map_append
def hQ:=@List.length_append
def hY:=@if_pos
def h_:=@if_neg
def ig:=@PySem.sizeLine_eq
def il:=@List.size_toArray
def iq:=@List.take_of_length_le
def ir:=@PySem.Heap.lt_size
def iA:=@Option.some.inj
def i_:=@List.mem_iff_getElem?
def ji:=@Bool.false_ne_true
def j_:=@List.mem_cons_of_mem
def kl:=@Nat.le_trans
def ku:=@Nat.ne_of_lt
def kw:=@List.mem_map
def k4:=@List.mem_cons_self
def k_:=@decide_eq_true
def lh:=@Nat.zero_le
def lm:=@decide_eq_false
def l_:=@Array.length_toList
def mo:=@List.length_take
def mu:=@Bool.and_eq_true
def m3:=@List.map_cons
def m_:=@List.length_cons
def nk:=@List.getD_eq_getElem?_getD
def nn:=@Nat.lt_of_lt_of_le
def np:=@PySem.PassesOwn.never
def nr:=@List.mem_append_right
def n7:=@List.append_nil
def n_:=@of_decide_eq_true
def oa:=@List.nodup_append
def oi:=@Ne.symm
def ol:=@List.mem_append_left
def op:=@List.length_range
def ot:=@Nat.ne_of_gt
def ov:=@List.getElem?_eq_none
def oD:=@Int.toNat_natCast
def o0:=@PySem.Heap.size_push
def o8:=@PySem.wpAny_holding
def o_:=@PySem.wpAny_call_entry
def pa:=@List.not_mem_nil
def pu:=@PySem.wpAny_newObj_type
def pv:=@List.find?_cons_of_neg
def pw:=@PySem.Calls.spliced_cons
def p6:=@PySem.wpAny_callSpecial?_slot
def p_:=@congrArg
def qq:=@beq_self_eq_true
def qx:=@Nat.lt_irrefl
def q4:=@Sum.inr.inj
def q_:=@List.getElem?_set_ne
def rc:=@List.getElem?_append_left
def rd:=@PySem.wpAny_setField_rec
def rf:=@List.find?_cons_of_pos
def ri:=@PySem.Calls.callWith_builtin
def rk:=@List.length_filter_le
def rl:=@Array.getElem?_toList
def rm:=@PySem.wpAny_truthy_bool
def rr:=@Nat.le_succ_of_le
def ry:=@Nat.le_succ
def rV:=@List.find?_cons
def r4:=@Nat.succ_le_succ
def r_:=@List.replicate_succ
def sg:=@List.filterMap_cons
def si:=@List.take_append_drop
def so:=@List.filterMap_append
def sD:=@PySem.Heap.get?_update_self
def sT:=@Option.isSome_iff_exists
def s_:=@List.mem_cons
def to:=@PySem.wpAny_ite_split
def tx:=@Nat.le_of_lt
def tA:=@List.map_map
def t0:=@PySem.wpAny_field
def t4:=@Nat.lt_succ_self
def t6:=@PySem.wpAny_seqItems
def t8:=@List.mem_range
def t_:=@PySem.Heap.get?_update_other
def u6:=@PySem.Calls.spliced_nil
def u_:=@List.mem_filter
def vl:=@Array.getElem?_eq_getElem
def vr:=@PySem.wpAny_Call_Name_kw
def vu:=@PySem.Calls.evalArgs_plain
def v_:=@List.take_add_one
def wh:=@List.getElem?_inj
def wr:=@PySem.wpAny_rule
def w1:=@List.length_set
def w_:=@List.foldl_cons
def x3:=@PyProof.Rows.callWith_type1
def x_:=@List.getElem?_set_self
def yl:=@List.any_cons
def y1:=@List.take_zero
def y2:=@List.getElem?_append_right
def y_:=@PySem.wpAny_dictEpoch
def z1:=@PySem.codeAny_mono
def z3:=@Nat.lt_trans
def z4:=@Nat.lt_succ_of_lt
def z5:=@List.foldl_append
def z7:=@List.ext_getElem?
def z8:=@List.append_assoc
def z_:=@beq_eq_false_iff_ne
def A_:=@List.length_take_le
def B_:=@PySem.Heap.SameBut.update
def C1:=@List.all_eq_true
def C2:=@PySem.tupleKind_room_in1
def C_:=@PySem.call_meetsIn
def D_:=@Nat.lt_of_le_of_lt
def Es:=@List.length_replicate
def E1:=@PySem.wpAny_setState_of
def E2:=@PySem.wpAny_loadPart_at
def E_:=@List.flatten_cons
def F_:=@Nat.pow_le_pow_right
def G_:=@List.nodup_iff_pairwise_ne
def Ha:=@PySem.F.slot_tuple_iterator_next
def H_:=@PySem.Around.under_plainId
def I_:=@PySem.wpAny_askSetting
def J_:=@List.mem_of_find?_eq_some
def K_:=@List.getElem?_eq_none_iff
def L_:=@PySem.wpAny_isSubtype_exc
def M_:=@List.map_congr_left
def Ng:=@or_false
def Nh:=@List.length_filterMap_le
def Ni:=@PySem.codeAny_builtin
def Nj:=@Option.map_some
def Nk:=@Int.emod_nonneg
def Nl:=@PySem.wpAny_pyIter_tuple
def Nm:=@Int.emod_lt_of_pos
def No:=@Bool.false_eq_true
def Np:=@PySem.wpAny_getItem_str_slice
def Nq:=@PySem.wpAny_Call_method
def Nr:=@PySem.builtinLookup_eq_fast
def Nt:=@PySem.wpAny_isInstance
def Nu:=@Nat.min_le_right
def Nv:=@List.mem_reverse
def Nw:=@List.length_drop
def Nx:=@PySem.plainId_quiet
def Ny:=@List.all_cons
def Nz:=@Prod.mk.inj
def NA:=@Nat.not_succ_le_self
def NB:=@List.mem_of_mem_take
def NC:=@PySem.Heap.get?_push_cases
def ND:=@PySem.wpAny_passesOwn
def NE:=@PySem.wpAny_execs_nil
def NF:=@List.range_succ
def NG:=@List.of_mem_zip
def NH:=@PySem.wpAny_setEntries_of
def NI:=@Nat.mul_le_mul_left
def NJ:=@List.length_reverse
def NK:=@Option.ne_none_iff_exists'
def NL:=@List.nodup_nil
def NM:=@List.mem_filterMap
def NN:=@List.filter_append
def NO:=@List.contains_cons
def NP:=@Int.fdiv_eq_ediv_of_nonneg
def NQ:=@List.mem_or_eq_of_mem_set
def NR:=@PySem.wpAny_pyIter_list
def NS:=@Option.some.injEq
def NT:=@Option.isSome_map
def NU:=@List.take_sublist
def NV:=@List.getElem?_set
def NW:=@PySem.wpAny_attempt
def NX:=@List.getElem?_take_of_lt
def NY:=@List.filterMap_cons_none
def NZ:=@PySem.AutoSeq1.wpAny_loadPart'
def N1:=@PySem.wpAny_Call_method0_late
def N3:=@if_false
def N4:=@Nat.le_max_right
def N5:=@List.lookup_cons
def N6:=@List.head_eq_of_cons_eq
def N7:=@List.filter_cons_of_pos
def N8:=@List.filter_cons_of_neg
def N9:=@List.filter_cons
def N_:=@List.append_inj'
def Oa:=@List.any_eq_true
def Ob:=@PyProof.Rows.F.plain_set_update_loop
def Oc:=@PySem.call_meets
def Od:=@Nat.succ_pos
def Oe:=@Nat.pow_succ
def Of:=@Nat.lt_or_ge
def Og:=@Nat.le_of_eq
def Oh:=@List.map_nil
def Oi:=@PySem.wpAny_specialOf
def Oj:=@PySem.typeLookup_type
def Ol:=@PySem.post_val_or_str
def Om:=@Nat.not_lt_zero
def On:=@Nat.le_max_left
def Oo:=@List.forIn_cons
def Op:=@PySem.F.slot_zip_next
def Oq:=@Bool.eq_iff_iff
def Os:=@List.getElem?_toArray
def Ot:=@PySem.isSubtype_type
def Ou:=@Option.or_none
def Ov:=@List.Perm.refl
def Ow:=@Int.toNat_of_nonneg
def Ox:=@List.map_take
def Oy:=@of_decide_eq_false
def Oz:=@List.map_singleton
def OA:=@List.getElem?_drop
def OB:=@List.find?_eq_none
def OC:=@PySem.wpAny_typeOf
def OD:=@PySem.wpAny_pyIter_slot
def OE:=@if_true
def OF:=@List.find?_isSome
def OG:=@List.find?_append
def OH:=@List.any_eq_false
def OI:=@List.Sublist.refl
def OJ:=@Int.emod_eq_of_lt
def OK:=@Array.toList_push
def OL:=@PyProof.Rows.slot_tuple_getitem
def OM:=@PySem.wpAny_forIn_list
def ON:=@PySem.wpAny_execs_cons
def OO:=@Nat.le_of_not_lt
def OP:=@Nat.le_add_right
def OQ:=@List.getElem_mem
def OR:=@List.getElem_map
def OS:=@List.take_append_of_le_length
def OT:=@Int.le_refl
def OU:=@PySem.wpAny_updateSeq
def OV:=@List.nodup_cons
def OW:=@List.length_nil
def OX:=@List.find?_some
def OY:=@PySem.F.args_tuple_iterator_next_1
abbrev OZ:=PySem.W.Frag
abbrev O0:=PySem.Value->PySem.Shared->Prop
abbrev O1:=List (PySem.Addr×PySem.Obj)
abbrev O2:=PySem.Str->Option PySem.Value
abbrev O3:=List PySem.Value
abbrev O4:=PySem.Program
abbrev O5:=List PySem.Str
abbrev O6:=List PySem.Expr
abbrev O7:=Array PySem.Value
abbrev O8:=List Nat
abbrev O9:=List PySem.Addr
abbrev O_:=List Int
set_option genSizeOf false in
inductive My.Ro|hh|ln|tn|ci|dl|lo(i:Nat)|iu(i:Nat)|tb(i:Nat)|od(i:Nat)|td(i:Nat)|tr(i:Nat)|ba(i:Nat)deriving DecidableEq
section
local macro_rules|`(tactic|show $e)=>`(tactic|refine $e)
local macro_rules|`(())=>`(rfl)
local macro_rules(kind:=«term{_}»)|`({$a,*})=>`(⟨$a,*⟩)
local macro_rules|`(($a,$b,*))=>if b.elemsAndSeps.size%2==0 then `(⟨$a,$b,*⟩)else Lean.Macro.throwUnsupported
namespace L2
open PySem PySem.Spec PyProof.Rows
abbrev bV:=Sum Int Str
def nN:bV->Value->Bool|.inl k,v=>Value.isInt k v|.inr x,v=>Value.isStrOf x v
def MT(w:World):bV->Int|.inl k=>hashInt k|.inr x=>hashStr w x
def cG:∀{k:bV}{v:Value},nN k v=true->(∃i t,k=Sum.inl i/\v=Value.int i t)\/(∃x t,k=Sum.inr x/\v=Value.str x t)|.inl i,v,h=>by obtain⟨t,e⟩:=Value.isInt_shape (k:=i) (v:=v) h;show .inl {i,t,(),e}|.inr x,v,h=>by obtain⟨t,e⟩:=Value.isStrOf_shape (x:=x) (v:=v) h;show .inr {x,t,(),e}
def wH(i:Int)(t:Tok):nN (.inl i) (.int i t)=true:=by simp[nN,Value.isInt]
def wG(x:Str)(t:Tok):nN (.inr x) (.str x t)=true:=by simp[nN,Value.isStrOf]
def JQ(a b:Int):decide ((Sum.inl a:bV)=Sum.inl b)=(a==b):=by
 by_cases e:a=b
 ·subst e;simp
 ·have h:¬(Sum.inl a:bV)=Sum.inl b:=λq=>e (Sum.inl.inj q);rw[lm h];show(z_.mpr e).symm
def JM(a b:Str):decide ((Sum.inr a:bV)=Sum.inr b)=decide (a=b):=by
 by_cases e:a=b
 ·subst e;simp
 ·have h:¬(Sum.inr a:bV)=Sum.inr b:=λq=>e (q4 q);rw[lm h,lm e]
def JP(a:Int)(b:Str):decide ((Sum.inl a:bV)=Sum.inr b)=false:=lm (nofun)
def JN(a:Str)(b:Int):decide ((Sum.inr a:bV)=Sum.inl b)=false:=lm (nofun)
def aU(prog:O4)(w:World):PySem.KeyKind prog w bV where
 is:=nN
 hash:=MT w
 inj:=λv a b g f=>by
  rcases cG g with⟨i,t,rfl,rfl⟩|⟨x,t,rfl,rfl⟩
  ·rcases cG f with⟨j,u,rfl,e⟩|⟨y,u,rfl,e⟩
   ·injection e with c _;rw[c]
   ·show nomatch e
  ·rcases cG f with⟨j,u,rfl,e⟩|⟨y,u,rfl,e⟩
   ·show nomatch e
   ·injection e with c _;rw[c]
 byValue:=λk v h=>by rcases cG h with⟨i,t,rfl,rfl⟩|⟨x,t,rfl,rfl⟩<;>rfl
 pyHash:=λd h=>by
  rcases cG d with⟨i,t,rfl,rfl⟩|⟨x,t,rfl,rfl⟩
  ·show wpAny_pyHash_int h
  ·show wpAny_pyHash_str h
 eqBool:=λl d h=>by
  rcases cG l with⟨i,t,rfl,rfl⟩|⟨x,t,rfl,rfl⟩
  ·rcases cG d with⟨j,u,rfl,rfl⟩|⟨y,u,rfl,rfl⟩
   ·rw[JQ]at h;show wpAny_eqBool_int h
   ·rw[JP]at h;show SeqAt.EqAt.int_str i t y u _ _ _ _ h
  ·rcases cG d with⟨j,u,rfl,rfl⟩|⟨y,u,rfl,rfl⟩
   ·rw[JN]at h;show SeqAt.EqAt.str_int x t j u _ _ _ _ h
   ·rw[JM]at h;show wpAny_eqBool_str h
 «strs»:=λk x t v h=>by
  rcases cG h with⟨i,u,rfl,e⟩|⟨y,u,rfl,e⟩
  ·show nomatch e
  ·injection e with c _
   subst c
   cases v<;>rfl
def Aj(prog:O4)(w:World)(k:bV)(v:Value):(aU prog w).is k v=nN k v:=rfl
def y3(prog:O4)(w:World)(i:Int)(t:Tok):(aU prog w).is (.inl i) (.int i t)=true:=wH i t
def rh(prog:O4)(w:World)(x:Str)(t:Tok):(aU prog w).is (.inr x) (.str x t)=true:=wG x t
inductive V where|non|bl(b:Bool)|int(i:Int)|str(x:Str)|byt(b:Array UInt8)|flt(b:UInt64)|ref(a:Addr)|ty(n:String)deriving DecidableEq
def aX:V->Value->Prop|.non,u=>u=Value.none|.bl b,u=>u=Value.bool b|.int i,u=>∃t,u=Value.int i t|.str x,u=>∃t,u=Value.str x t|.byt b,u=>∃t,u=Value.bytes b t|.flt b,u=>∃t,u=Value.float b t|.ref a,u=>u=Value.ref a|.ty n,u=>u=Value.type n
abbrev aY:List V->List Value->Prop:=Paired aX
theorem aY.length(r:aY a c):a.length=c.length:=Paired.length r
theorem aY.get:∀{a:List V}{c:O3}{i:Nat}{x:V},aY a c->a[i]?=some x->∃u,c[i]?=some u/\aX x u|_,_,_,_,.nil,e=>by simp at e|_,_,0,_,.cons r _,e=>by simp at e;subst e;show{_,(),r}|_,_,i+1,x,.cons _ t,e=>by obtain⟨u,h1,h2⟩:=aY.get (i:=i) (x:=x) t (by simpa using e);show{u,by simpa using h1,h2}
theorem aY.set(r:aX x u):∀{a:List V}{c:O3}(i:Nat),aY a c->aY (a.set i x) (c.set i u)|_,_,_,.nil=>.nil|_,_,0,.cons _ t=>.cons r t|_,_,i+1,.cons q t=>.cons q (aY.set r i t)
theorem aY.append:∀{a c:List V}{d e:O3},aY a d->aY c e->aY (a++c) (d++e)|_,_,_,_,.nil,s=>s|_,_,_,_,.cons r t,s=>.cons r (aY.append t s)
theorem aY.take:∀{a:List V}{c:O3}(n:Nat),aY a c->aY (a.take n) (c.take n)|_,_,0,_=>.nil|_,_,_+1,.nil=>.nil|_,_,n+1,.cons r t=>.cons r (aY.take n t)
theorem aY.drop:∀{a:List V}{c:O3}(n:Nat),aY a c->aY (a.drop n) (c.drop n)|_,_,0,r=>r|_,_,_+1,.nil=>.nil|_,_,n+1,.cons _ t=>aY.drop n t
def kS:Option V->Option Value->Prop|some v,some u=>aX v u|none,none=>True|_,_=>False
def KV{a:Type}:List (a×V)->List (a×Value)->Prop:=Paired λ(p:a×V)(q:a×Value)=>p.1=q.1/\aX p.2 q.2
def kV:bV->V|.inl i=>.int i|.inr x=>.str x
inductive HO where|lst(xs:List V)|tup(xs:List V)|dK(kvs:List (bV×V))|dT(kvs:List (List bV×V))|set(S:Int->Bool)(n:Nat)|ins(C dx:Addr)(fs:List (Str×V))|own(x:Addr)|xd(fs:List (Str×V))|met(f x:Addr)|rng(lo hi:Int)|frz(o:Obj)(u:HO)|tbl(ps:O7)|ext(φ:Heap->Prop)
abbrev Hp:=Addr->Option HO
def aG(H:Hp)(a:Addr)(o:HO):Hp:=λb=>if b=a then some o else H b
def ae:aG H a o a=some o:=by unfold aG;rw[hY ()]
def ak(h:b≠a):aG H a o b=H b:=by unfold aG;rw[h_ h]
def iy:aG (aG H a o) a u=aG H a u:=by funext b;unfold aG;split<;>rfl
def Ly{H:Hp}{a b:Addr}{o u:HO}(h:H a=some o)(h':H b=some u)(d:o≠u):a≠b:=by intro e;subst e;rw[h]at h';show d (iA h')
def av{H:Hp}{a b:Addr}{o:HO}(h:H a=some o)(h':H b=none):a≠b:=by intro e;subst e;rw[h]at h';cases h'
section
variable(P:O4)(w:World)
def c6(H:Hp)(h:Heap)(a:Addr):HO->Prop|.lst d=>d.length<=sizeLine/\∃(b:O3)(n:Nat),aY d b/\h.get? a=some {cls:=.type "list",data:=.seq b.toArray n}|.tup d=>d.length<=sizeLine/\∃b:List Value,aY d b/\IsTup h a b.toArray|.dK c=>c.length<=sizeLine/\(a==sysModules)=false/\∃g,KV c g/\h.DictOf (aU P w) a g|.dT c=>c.length<=sizeLine/\(a==sysModules)=false/\∃d:List (List bV×Addr×Value),Paired (λ(p:List bV×V)(q:List bV×Addr×Value)=>p.1=q.1/\H q.2.1=some (.tup (p.1.map kV))/\aX p.2 q.2.2) c d/\∃o i j,h.get? a=some o/\o.ExactDict/\o.data=.dict i j/\i.toList=d.map (entryOfKey (tupleKind (aU P w)))/\(d.map (·.1)).Nodup|.set S n=>h.SetOf (intKind P w) a S n|.ins C dx fs=>H dx=some (.own a)/\fs.length<=1000/\dx≠a/\h.get? a=some (PySem.W.instObj C dx)/\∃e,h.Ns1 dx e/\(∀f,kS (fs.lookup f) (e f))/\PySem.Within e (fs.map (·.1))|.own _=>∃o,h.get? a=some o|.xd fs=>∃e,h.Ns1 a e/\∀f,kS (fs.lookup f) (e f)|.rng lo hi=>∃t u v,h.get? a=some {cls:=.type "range",data:=.fields #[.int lo t,.int hi u,.int 1 v]}|.frz o u=>h.get? a=some o/\c6 H h a u|.tbl k=>h.get? a=some {cls:=.none,data:=.fields k}|.met f x=>h.get? a=some (PySem.W.methodObj (.ref f) (.ref x))|.ext φ=>φ h/\(∃o,h.get? a=some o)/\∀h1 h2:Heap,φ h1->(∀o,h1.get? a=some o->h2.get? a=some o)->φ h2
def lO(H:Hp)(h:Heap):Prop:=∀a o,H a=some o->c6 P w H h a o
end
section
variable{P:O4}{w:World}{H g:Hp}{h h':Heap}{a:Addr}{o:HO}
theorem c6.lt(x:c6 P w H h a o):a<h.objs.size:=by cases o with|lst c=>obtain⟨_,_,_,_,e⟩:=x;show ir e|tup c=>obtain⟨_,_,_,p⟩:=x;show p.lt|dK b=>obtain⟨_,_,_,_,o,_,_,e,_⟩:=x;show ir e|dT b=>obtain⟨_,_,_,_,o,_,_,e,_⟩:=x;show ir e|set S n=>obtain⟨o,_,_,_,e,_⟩:=x;show ir e|ins C dx fs=>obtain⟨_,_,_,e,_⟩:=x;show ir e|own y=>obtain⟨_,e⟩:=x;show ir e|xd fs=>obtain⟨_,⟨_,_,_,e,_⟩,_⟩:=x;show ir e|rng lo hi=>obtain⟨_,_,_,e⟩:=x;show ir e|frz ob u=>obtain⟨e,_⟩:=x;show ir e|tbl d=>show ir (show h.get? a=some _ from x)|met f y=>show ir (show h.get? a=some _ from x)|ext φ=>obtain⟨_,⟨_,e⟩,_⟩:=x;show ir e
theorem Paired.mapP:∀{c:List e}{d:List i},Paired F c d->(∀a b,F a b->G a b)->Paired G c d|_,_,.nil,_=>.nil|_,_,.cons r t,f=>.cons (f _ _ r) (Paired.mapP t f)
def c6.stay(x:c6 P w H h a o)(k:∀b u,(b=a\/H b=some (.own a))->h.get? b=some u->h'.get? b=some u)(E:∀b,H b=some (.own a)->g b=some (.own a))(F:∀b m,H b=some (.tup m)->g b=some (.tup m)):c6 P w g h' a o:=by induction o with|lst m=>obtain⟨z,l,n,r,e⟩:=x;show{z,l,n,r,k _ _ (.inl ()) e}|tup m=>obtain⟨z,l,r,ob,e,c⟩:=x;show{z,l,r,ob,k _ _ (.inl ()) e,c}|dK s=>obtain⟨z,y,G,r,ob,i,j,e,c⟩:=x;show{z,y,G,r,ob,i,j,k _ _ (.inl ()) e,c}|dT s=>obtain⟨z,y,m,r,ob,i,j,e,c⟩:=x;show{z,y,m,Paired.mapP r λp q z=>{z.1,F _ _ z.2.1,z.2.2},ob,i,j,k _ _ (.inl ()) e,c}|set S n=>obtain⟨ob,i,j,t,e,c⟩:=x;show{ob,i,j,t,k _ _ (.inl ()) e,c}|ins C dx fs=>obtain⟨d,z,ne,e,A,⟨B,i,j,I,c⟩,r⟩:=x;show{E _ d,z,ne,k _ _ (.inl ()) e,A,{B,i,j,k _ _ (.inr d) I,c},r}|own y=>obtain⟨ob,e⟩:=x;show{ob,k _ _ (.inl ()) e}|xd fs=>obtain⟨A,⟨B,i,j,e,c⟩,r⟩:=x;show{A,{B,i,j,k _ _ (.inl ()) e,c},r}|rng lo hi=>obtain⟨t,u,v,e⟩:=x;show{t,u,v,k _ _ (.inl ()) e}|frz ob u J=>obtain⟨e,q⟩:=x;show{k _ _ (.inl ()) e,J q}|tbl D=>have e:h.get? a=some {cls:=.none,data:=.fields D}:=x;change h'.get? a=some {cls:=.none,data:=.fields D};show k a _ (.inl ()) e|met f y=>have e:h.get? a=some (PySem.W.methodObj (.ref f) (.ref y)):=x;change h'.get? a=some (PySem.W.methodObj (.ref f) (.ref y));show k a _ (.inl ()) e|ext φ=>obtain⟨p,⟨o,e⟩,st⟩:=x;show{st _ _ p λo q=>k _ _ (.inl ()) q,{o,k _ _ (.inl ()) e},st}
theorem lO.lt(x:lO P w H h)(e:H a=some o):a<h.objs.size:=(x a o e).lt
def lO.fresh(x:lO P w H h)(e:h.objs.size<=a):H a=none:=by cases q:H a with|none=>rfl|some u=>show absurd (nn (x.lt q) e) (qx _)
def lO.kept(x:lO P w H h)(k:∀b u,h.get? b=some u->h'.get? b=some u):lO P w H h':=λa o e=>(x a o e).stay (λb u _ q=>k b u q) (λ_ q=>q) λ_ _ q=>q
def lO.laid(x:lO P w H h)(k:∀b u,h.get? b=some u->h'.get? b=some u)(f:h.objs.size<=a)(new:c6 P w (aG H a o) h' a o):lO P w (aG H a o) h':=λb u e=>by
 have hn:=x.fresh f
 by_cases d:b=a
 ·subst d;rw[ae]at e;cases e;show new
 ·rw[ak d]at e;show(x b u e).stay (λc v _ q=>k c v q) (λc q=>by rw[ak (av q hn)];show q) λc i q=>by rw[ak (av q hn)];show q
end
def Rd(H:Hp)(a:Addr)(u:HO):Prop:=H a=some u\/∃o,H a=some (.frz o u)
def Rd.ok(r:Rd H a u)(x:lO P w H h):c6 P w H h a u:=by
 rcases r with r|⟨o,r⟩
 ·show x a u r
 ·obtain⟨_,q⟩:=x a _ r;show q
def Mc:Option HO->Prop|some (.lst _)=>True|some (.dK _)=>True|some (.dT _)=>True|some (.set _ _)=>True|some (.ins _ _ _)=>True|some (.ext _)=>True|_=>False
section
variable{P:O4}{w:World}{H:Hp}{h h':Heap}{x e:Addr}{a:HO}
def lO.write(ok:lO P w H h)(g:Mc (H x))(m:e=x\/H e=some (.own x))(k:∀b u,b≠e->h.get? b=some u->h'.get? b=some u)(l:∃u,h'.get? e=some u)(new:c6 P w (aG H x a) h' x a):lO P w (aG H x a) h':=λb u q=>by
 have f:∀c y,H c=some (.own y)->c≠x:=λc y r z=>by subst z;rw[r]at g;show g
 have ntup:∀c i,H c=some (.tup i)->c≠x:=λc i r z=>by subst z;rw[r]at g;show g
 by_cases j:b=x
 ·subst j;rw[ae]at q;cases q;show new
 ·rw[ak j]at q
  by_cases d:b=e
  ·have n:H b=some (.own x):=by
    rcases m with z|z
    ·show absurd (d.trans z) j
    ·rw[d];show z
   rw[q]at n;cases n;obtain⟨v,o⟩:=l;show{v,by rw[d];show o}
  ·show(ok b u q).stay (λc v hc r=>k c v ?_ r) (λc r=>by rw[ak (f c b r)];show r) λc i r=>by rw[ak (ntup c i r)];show r
   rcases hc with rfl|hc
   ·show d
   ·rintro rfl;rcases m with z|z
    ·show f c b hc z
    ·rw[hc]at z;cases z;show j ()
end
structure Un(fs ex:O9)(H H':Hp)(h h':Heap):Prop where
 keep:∀b o,h.get? b=some o->H b=none->b∉fs->b∉ex->h'.get? b=some o
 slot:∀b o,h.get? b=some o->H b=none->b∈fs->b∉ex->∃sl,h'.get? b=some {o with slots:=sl}free:∀b o,h.get? b=some o->H b=none->b∉ex->H' b=none
 there:∀b o,h.get? b=some o->b∉ex->∃o',h'.get? b=some o'
 tups:∀b xs,H b=some (.tup xs)->H' b=some (.tup xs)frzs:∀b o u,H b=some (.frz o u)->H' b=some (.frz o u)tbls:∀b ps,H b=some (.tbl ps)->∃more,H' b=some (.tbl (ps++more))
section
variable{fs ex:O9}{H d:Hp}{h h1 h':Heap}{a x e:Addr}{o:HO}
def Un.any(u:Un fs ex H d h h1){b:Addr}{ob:Obj}(q:h.get? b=some ob)(n:H b=none)(i:b∉ex):∃sl,h1.get? b=some {ob with slots:=sl}:=by
 by_cases j:b∈fs
 ·show u.slot b ob q n j i
 ·show{ob.slots,u.keep b ob q n j i}
def Un.kept(k:∀b u,h.get? b=some u->h'.get? b=some u):Un fs ex H H h h':={λb ob q _ _ _=>k b ob q,λb ob q _ _ _=>{ob.slots,k b ob q},λ_ _ _ n _=>n,λb ob q _=>{ob,k b ob q},λ_ _ q=>q,λ_ _ _ q=>q,λ_ i q=>{#[],by rw[q];simp}}
def Un.refl:Un fs ex H H h h:=Un.kept λ_ _ q=>q
def Un.laid(k:∀b u,h.get? b=some u->h'.get? b=some u)(i:h.objs.size<=a)(hn:H a=none):Un fs ex H (aG H a o) h h' where
 keep:=λb u q _ _ _=>k b u q
 slot:=λb u q _ _ _=>{u.slots,k b u q}
 free:=λb u q n _=>by rw[ak (ku (nn (ir q) i))];show n
 there:=λb u q _=>{u,k b u q}
 tups:=λb j q=>by rw[ak (av q hn)];show q
 frzs:=λb u j q=>by rw[ak (av q hn)];show q
 tbls:=λb l q=>{#[],by rw[ak (av q hn),q];simp}
def Un.write(j:Mc (H x))(s:e=x\/H e=some (.own x))(k:∀b u,b≠e->h.get? b=some u->h'.get? b=some u)(l:∃u,h'.get? e=some u):Un fs ex H (aG H x o) h h':=by
 have m:∀b,H b=none->b≠x:=λb n z=>by subst z;rw[n]at j;show j
 have p:∀b,H b=none->b≠e:=λb n z=>by
  subst z;rcases s with r|r
  ·show m b n r
  ·rw[n]at r;cases r
 have hm:∀b u,H b=some u->¬Mc (some u)->b≠x:=λb u q nm z=>by subst z;rw[q]at j;show nm j
 show{λb u q n _ _=>k b u (p b n) q,λb u q n _ _=>{u.slots,k b u (p b n) q},λb u q n _=>by rw[ak (m b n)];show n,λb u q _=>?_,λb t q=>by rw[ak (hm b _ q λz=>z)];show q,λb u t q=>by rw[ak (hm b _ q λz=>z)];show q,λb v q=>{#[],by rw[ak (hm b _ q λz=>z),q];simp}}
 by_cases i:b=e
 ·subst i;show l
 ·show{u,k b u i q}
end
def Mo(h:Heap)(H:Hp):List Addr:=(List.range h.objs.size).filter λa=>(H a).isSome
def xH(h:Heap)(H:Hp):Heap:=PySem.W.hideAll h (Mo h H)
def Cw(h:Heap)(H:Hp):(xH h H).objs.size=h.objs.size:=PySem.W.hideAll_size _ _
def ES(e:h.get? b=some o)(n:H b=none):(xH h H).get? b=some o:=PySem.W.hideAll_get _ e λhm=>by have q:(H b).isSome=true:=(u_.mp hm).2;rw[n]at q;simp at q
def GJ(e:(xH h H).get? b=some o):h.get? b=some o/\H b=none:=by have a:h.get? b=some o:=PySem.W.of_hideAll (Mo h H) e;show{a,?_};cases q:H b with|none=>rfl|some x=>have hm:b∈Mo h H:=u_.mpr {t8.mpr (ir a),by simp[q]};have z:(xH h H).get? b=none:=PySem.W.hideAll_none (Mo h H) hm;rw[z]at e;cases e
def Hv(g h:Heap)(L:Addr):List (Addr×Obj):=(List.range h.objs.size).filterMap λa=>if a=L\/(g.get? a).isSome=true then none else(h.get? a).map λo=>(a,o)
def qd(g h:Heap)(L d:Addr):List (Addr×Obj):=(Hv g h L).filter λp=>decide (p.1≠d)
structure Me(K:OZ)(mg:O2)(base:Heap):Prop where
 kin:K.In base
 glob:base.Ns mainGlobals mg
 blt:∃mb,base.Ns builtinsNs mb/\∀x:Str,x≠"__name__"->mb x=bootBuiltins x
 nolimit:base.NoLimit
structure Cx where
 prog:Program
 w:World
 K:OZ
 mg:Str->Option Value
 base:Heap
 A:Around
 N:List Str
 s₀:Shared
 H₀:Hp
 env:Env
 outer:List Env
 stack:List Env
 ex:List Addr
 fn:Str->Bool
 calm:Bool
 pn:List (Addr×Obj)xe:Value->Shared->Prop
def j4(l:List Env):List Addr:=l.filterMap (·.frame)
abbrev Cx.fs(X:Cx):List Addr:=j4 X.outer
def Mu(a:Scope)(x:Str):Prop:=a.names.lookup x=some .local\/a.names.lookup x=some .cell\/a.names.lookup x=some .free
def Kq(a:Scope)(x:Str):Prop:=a.names.lookup x=some .local\/a.names.lookup x=some .cell
def Nb(env:Env)(h:Heap)(m:O2)(x:Str)(u:Value):Prop:=(env.kindOf x=some .local/\m x=some u)\/((env.kindOf x=some .cell\/env.kindOf x=some .free)/\∃c,env.cells.lookup x=some c/\h.IsCell c (some u))
structure Cx.Ok(X:Cx):Prop where
 mod:Me X.K X.mg X.base
 kind:X.env.scope.kind=.function
 glob:X.env.globals=mainGlobals
 blt:X.env.builtins=builtinsNs
 above:X.s₀.heap.objs.size<=X.env.locals
 inj:∀x y c,X.env.cells.lookup x=some c->X.env.cells.lookup y=some c->x=y
 has:∀x,(X.env.kindOf x=some .cell\/X.env.kindOf x=some .free)->∃c,X.env.cells.lookup x=some c
 cab:∀x c,X.fn x=true->X.env.cells.lookup x=some c->X.s₀.heap.objs.size<=c
 hd:X.calm=true->X.A.handled=none
 frames:X.A.frames=some X.stack
 stk:X.stack=X.outer\/(X.stack=X.env::X.outer/\X.env.frame=some X.env.locals)exf:∀b∈X.ex,b≠X.env.locals/\∀x c,X.env.cells.lookup x=some c->c≠b
 bs:∀b o,X.base.get? b=some o->X.s₀.heap.get? b=some o/\X.H₀ b=none
 bsz:X.base.objs.size<=X.s₀.heap.objs.size
 noex:∀b o,X.base.get? b=some o->b∉X.ex
 exfs:∀b∈X.ex,b∉X.fs
 funs:X.s₀.heap.FunFrames X.base X.outer
 frf:∀b∈X.fs,X.H₀ b=none
structure aN(X:Cx)(pins:O1)(σ:List (Option V))(H:Hp)(s:Shared):Prop where
 ok:X.Ok
 os:s.os=X.s₀.os
 bare:AllBare s.gens
 base:Un X.fs X.ex X.H₀ H X.s₀.heap s.heap
 loc:∃m,s.heap.Ns X.env.locals m/\∀(i:Nat)(x:Str)(v:V),X.N[i]?=some x->σ[i]?=some (some v)->Mu X.env.scope x->∃u,aX v u/\Nb X.env s.heap m x u
 cell:∀x c,X.env.cells.lookup x=some c->∃v,s.heap.IsCell c v
 free:H X.env.locals=none
 freeC:∀x c,X.env.cells.lookup x=some c->H c=none
 pin:∀p∈X.pn++pins,s.heap.get? p.1=some p.2/\H p.1=none/\p.1≠X.env.locals/\p.1∉X.fs/\∀v,p.2.data≠.cell v
 hok:lO X.prog X.w H s.heap
 len:σ.length=X.N.length
section
variable{X:Cx}{f:O1}{g:List (Option V)}{H B:Hp}{s:Shared}{h':Heap}
def Cx.Ok.nofr(ok:X.Ok)(e:X.base.get? b=some o):b∉X.fs:=λa=>by have:=(ok.funs.mem a).1;rw[e]at this;cases this
theorem aN.bs(I:aN X f g H s):∀b o,X.base.get? b=some o->s.heap.get? b=some o/\H b=none:=λb o e=>{I.base.keep b o (I.ok.bs b o e).1 (I.ok.bs b o e).2 (I.ok.nofr e) (I.ok.noex b o e),I.base.free b o (I.ok.bs b o e).1 (I.ok.bs b o e).2 (I.ok.noex b o e)}
def aN.bk(I:aN X f g H s):∀b o,X.base.get? b=some o->s.heap.get? b=some o:=λb o e=>(I.bs b o e).1
theorem aN.mod(I:aN X f g H s):Me X.K X.mg X.base:=I.ok.mod
def aN.kIn(I:aN X f g H s):X.K.In s.heap:=I.ok.mod.kin.keeps I.bk
def aN.fr(I:aN X f g H s):∃m,Fr X.base X.env.locals s.heap m:=let⟨m,hn,_⟩:=I.loc
 {m,hn,I.bk,kl I.ok.bsz I.ok.above}
theorem aN.lt(I:aN X f g H s):X.env.locals<s.heap.objs.size:=let⟨_,hn,_⟩:=I.loc;hn.lt
def aN.sz(I:aN X f g H s):X.s₀.heap.objs.size<=s.heap.objs.size:=kl I.ok.above (tx I.lt)
def aN.nofs(I:aN X f g H s)(h:s.heap.objs.size<=a):a∉X.fs:=λb=>by obtain⟨_,o,c,_⟩:=I.ok.funs.mem b;show absurd (nn (ir c) (kl I.sz h)) (qx _)
def aN.cne(I:aN X f g H s):∀x c,X.env.cells.lookup x=some c->c≠X.env.locals:=λx c e z=>by obtain⟨v,o,d,hd⟩:=I.cell x c e;obtain⟨m,⟨h,i,j,a,b,_⟩,_⟩:=I.loc;rw[z,a]at d;cases d;rw[b]at hd;cases hd
theorem aN.funs(I:aN X f g H s):s.heap.FunFrames X.base X.outer:=by
 have all:∀(l:List Env),(∀b∈j4 l,b∈X.fs)->X.s₀.heap.FunFrames X.base l->s.heap.FunFrames X.base l:=by
  intro l
  induction l with|nil=>intro _ _;trivial|cons env r i=>intro h j;obtain⟨k,⟨L,o,a,hn,m,hd⟩,n⟩:=j;have c:L∈X.fs:=h L (by unfold j4;rw[sg,a];show k4);obtain⟨sl,e⟩:=I.base.slot L o m (I.ok.frf L c) c λz=>I.ok.exfs L z c;show{k,{L,_,a,hn,e,hd},i (λb d=>h b (by unfold j4;rw[sg,a];show j_ _ d)) n}
 show all X.outer (λ_ d=>d) I.ok.funs
theorem aN.stack(I:aN X f g H s):s.heap.FunFrames X.base X.stack:=by
 rcases I.ok.stk with e|⟨e,a⟩
 ·rw[e];show I.funs
 ·rw[e];obtain⟨m,hn,_⟩:=I.loc;show .cons (by rw[I.ok.kind];decide) a hn ?_ I.funs;show Heap.get?_none_of_le (kl I.ok.bsz I.ok.above)
def aN.stkSub(I:aN X f g H s):∀b∈j4 X.stack,b∈X.env.locals::X.fs:=λb a=>by
 rcases I.ok.stk with e|⟨e,c⟩
 ·rw[e]at a;show j_ _ a
 ·rw[e]at a;unfold j4 at a;rw[sg,c]at a;show a
def aN.stkFree(I:aN X f g H s):∀b∈j4 X.stack,H b=none:=λb a=>by
 rcases s_.mp (I.stkSub b a)with e|a
 ·rw[e];show I.free
 ·obtain⟨_,o,c,_⟩:=I.ok.funs.mem a;show I.base.free b o c (I.ok.frf b a) λz=>I.ok.exfs b z a
def aN.step{g':Array GenState}{P:Nat}{d':Drawn}{ch:O9}(I:aN X f g H s)(h:∀b∈ch,(b∈X.ex\/X.s₀.heap.objs.size<=b)/\b≠X.env.locals/\(∀x c,X.env.cells.lookup x=some c->c≠b)/\∀p∈X.pn++f,p.1≠b)(keep:∀b o,b≠X.env.locals->b∉X.fs->b∉ch->s.heap.get? b=some o->H b=none->h'.get? b=some o)(slot:∀b o,b≠X.env.locals->b∈X.fs->b∉ch->s.heap.get? b=some o->H b=none->∃sl,h'.get? b=some {o with slots:=sl})(free:∀b o,b∉ch->s.heap.get? b=some o->H b=none->B b=none)(there:∀b o,b∉ch->s.heap.get? b=some o->∃F,h'.get? b=some F)(tups:∀b C,H b=some (.tup C)->B b=some (.tup C))(frzs:∀b o u,H b=some (.frz o u)->B b=some (.frz o u))(tbls:∀b L,H b=some (.tbl L)->∃G,B b=some (.tbl (L++G)))(ns:∀m,s.heap.Ns X.env.locals m->h'.Ns X.env.locals m)(hok:lO X.prog X.w B h')(hg:AllBare g'):aN X f g B {s with heap:=h',gens:=g',drawn:=d',toks:=P}:=by
 have J:∀b o,X.s₀.heap.get? b=some o->b≠X.env.locals:=λb o e=>ku (nn (ir e) I.ok.above);have y:∀b o,X.s₀.heap.get? b=some o->b∉X.ex->b∉ch:=λb o e a D=>by
  rcases(h b D).1 with z|z
  ·show a z
  ·show absurd (nn (ir e) z) (qx _)
 have j:∀x c,X.env.cells.lookup x=some c->∀v,s.heap.IsCell c v->h'.IsCell c v:=λx c e v⟨o,E,hd⟩=>by
  have t:c∉ch:=λz=>(h c z).2.2.1 x c e ()
  by_cases hc:c∈X.fs
  ·obtain⟨sl,q⟩:=slot c o (I.cne x c e) hc t E (I.freeC x c e);show{_,q,hd}
  ·show{o,keep c o (I.cne x c e) hc t E (I.freeC x c e),hd}
 show{I.ok,I.os,hg,{λb o e n D a=>?_,λb o e n D a=>?_,λb o e n a=>?_,λb o e a=>?_,λb C e=>tups b C (I.base.tups b C e),λb o C e=>frzs b o C (I.base.frzs b o C e),λb L e=>?_},?_,λx c e=>?_,?_,λx c e=>?_,λp N=>?_,hok,I.len}
 ·show keep b o (J b o e) D (y b o e a) (I.base.keep b o e n D a) (I.base.free b o e n a)
 ·obtain⟨sl,A⟩:=I.base.slot b o e n D a;obtain⟨M,K⟩:=slot b _ (J b o e) D (y b o e a) A (I.base.free b o e n a);show(M,K,)
 ·obtain⟨F,A⟩:=I.base.there b o e a;show free b F (y b o e a) A (I.base.free b o e n a)
 ·obtain⟨F,A⟩:=I.base.there b o e a;show there b F (y b o e a) A
 ·obtain⟨O,A⟩:=I.base.tbls b L e;obtain⟨Q,K⟩:=tbls b _ A;show{O++Q,by rw[K,Array.append_assoc]}
 ·obtain⟨m,hn,R⟩:=I.loc;show{m,ns m hn,λi x v A K S=>?_};obtain⟨u,r,l⟩:=R i x v A K S;show{u,r,?_};rcases l with l|⟨k,c,e,z⟩
  ·show .inl l
  ·show .inr {k,c,e,j x c e _ z}
 ·obtain⟨v,z⟩:=I.cell x c e;show{v,j x c e v z}
 ·obtain⟨m,⟨o,_,_,E,_⟩,_⟩:=I.loc;show free _ o (λz=>(h _ z).2.1 ()) E I.free
 ·obtain⟨v,o,E,hd⟩:=I.cell x c e;show free c o (λz=>(h c z).2.2.1 x c e ()) E (I.freeC x c e)
 ·obtain⟨e,n,ne,nf,d⟩:=I.pin p N;have t:p.1∉ch:=λz=>(h p.1 z).2.2.2 p N ();show{keep p.1 p.2 ne nf t e n,free p.1 p.2 t e n,ne,nf,d}
def aN.un{t':Nat}(I:aN X f g H s)(u:Un X.fs [] H B s.heap h')(hok:lO X.prog X.w B h'):aN X f g B {s with heap:=h',toks:=t'}:=by obtain⟨m,⟨o,l,p,i,r⟩,_⟩:=id I.loc;obtain⟨sl,j⟩:=u.any i I.free (by simp);show I.step (g':=s.gens) (d':=s.drawn) (ch:=[]) (λ_ z=>nomatch z) (λb o _ c _ e n=>u.keep b o e n c (by simp)) (λb o _ c _ e n=>u.slot b o e n c (by simp)) (λb o _ e n=>u.free b o e n (by simp)) (λb o _ e=>u.there b o e (by simp)) u.tups u.frzs u.tbls (λx hm=>by obtain⟨y,d,h,a,k⟩:=hm;rw[i]at a;cases a;show{_,d,h,j,k}) hok I.bare
def aN.call{g':Array GenState}{t':Nat}{d':Drawn}{ch:O9}(I:aN X f g H s)(u:Un (j4 X.stack) ch H B s.heap h')(hok:lO X.prog X.w B h')(hg:AllBare g')(a:∀b∈ch,(b∈X.ex\/X.s₀.heap.objs.size<=b)/\b≠X.env.locals/\(∀x c,X.env.cells.lookup x=some c->c≠b)/\∀p∈X.pn++f,p.1≠b):aN X f g B {s with heap:=h',gens:=g',drawn:=d',toks:=t'}:=by obtain⟨m,⟨o,t,v,k,r⟩,_⟩:=id I.loc;obtain⟨sl,h⟩:=u.any k I.free λz=>(a _ z).2.1 ();show I.step (ch:=ch) a (λb o h l hc e n=>u.keep b o e n (λz=>(s_.mp (I.stkSub b z)).elim h l) hc) (λb o _ _ hc e n=>u.any e n hc) (λb o hc e n=>u.free b o e n hc) (λb o hc e=>u.there b o e hc) u.tups u.frzs u.tbls (λy hm=>by obtain⟨A,i,j,d,q⟩:=hm;rw[k]at d;cases d;show{_,i,j,h,q}) hok hg
def aN.turned{t':Nat}{it:Addr}(I:aN X f g H s)(k:∀b o,b≠it->s.heap.get? b=some o->h'.get? b=some o)(hn:H it=none)(d:it≠X.env.locals)(h1:it∈X.ex\/X.s₀.heap.objs.size<=it)(h2:∀x c,X.env.cells.lookup x=some c->c≠it)(h3:∀p∈X.pn++f,p.1≠it):aN X f g H {s with heap:=h',toks:=t'}:=by
 have a:∀b u,H b=some u->b≠it:=λb u e z=>by rw[z,hn]at e;cases e
 show I.step (g':=s.gens) (d':=s.drawn) (ch:=[it]) (λb h=>?_) (λb o _ _ hc e _=>k b o (λz=>hc (by simp[z])) e) (λb o _ _ hc e _=>{o.slots,k b o (λz=>hc (by simp[z])) e}) (λ_ _ _ _ n=>n) (λb o hc e=>{o,k b o (λz=>hc (by simp[z])) e}) (λ_ _ e=>e) (λ_ _ _ e=>e) (λb A e=>{#[],by rw[e];simp}) (λm hm=>?_) (λb u e=>?_) I.bare
 ·have e:b=it:=by simpa using h
  subst e;show(h1,d,h2,h3,)
 ·obtain⟨o,i,j,l,r⟩:=hm;show{o,i,j,k _ o (oi d) l,r}
 ·show(I.hok b u e).stay (λc v hc q=>k c v ?_ q) (λ_ q=>q) λ_ _ q=>q;rcases hc with z|z
  ·rw[z];show a b u e
  ·show a c _ z
def aN.tok(I:aN X f g H s)(t:Nat):aN X f g H {s with toks:=t}:=I.un (h':=s.heap) (t':=t) Un.refl I.hok
theorem aN.kept(I:aN X f g H s)(k:∀b u,s.heap.get? b=some u->h'.get? b=some u):aN X f g H {s with heap:=h',toks:=t'}:=I.un (Un.kept k) (I.hok.kept k)
theorem aN.laid(I:aN X f g H s)(k:∀b u,s.heap.get? b=some u->h'.get? b=some u)(c:s.heap.objs.size<=a)(new:c6 X.prog X.w (aG H a o) h' a o):aN X f g (aG H a o) {s with heap:=h',toks:=t'}:=I.un (Un.laid k c (I.hok.fresh c)) (I.hok.laid k c new)
theorem aN.write(I:aN X f g H s)(c:Mc (H x))(d:e=x\/H e=some (.own x))(k:∀b u,b≠e->s.heap.get? b=some u->h'.get? b=some u)(a:∃u,h'.get? e=some u)(new:c6 X.prog X.w (aG H x o) h' x o):aN X f g (aG H x o) {s with heap:=h',toks:=t'}:=I.un (Un.write c d k a) (I.hok.write c d k a new)
def aN.weak(I:aN X f g H s)(c:a.length=g.length)(w:∀(i:Nat)v,a[i]?=some (some v)->g[i]?=some (some v)):aN X f a H s:={I.ok,I.os,I.bare,I.base,let⟨m,hn,b⟩:=I.loc;{m,hn,λi x v d e h=>b i x v d (w i v e) h},I.cell,I.free,I.freeC,I.pin,I.hok,c.trans I.len}
def aN.pins_of(I:aN X f g H s)(h:∀p∈a,s.heap.get? p.1=some p.2/\H p.1=none/\p.1≠X.env.locals/\p.1∉X.fs/\∀v,p.2.data≠.cell v):aN X a g H s:={I.ok,I.os,I.bare,I.base,I.loc,I.cell,I.free,I.freeC,λp b=>(List.mem_append.mp b).elim (λz=>I.pin p (ol _ z)) (h p),I.hok,I.len}
def yV{N:O5}(c:N.Nodup){i j:Nat}{x:Str}(a:N[i]?=some x)(b:N[j]?=some x):i=j:=by obtain⟨h1,d⟩:=d_.mp a;obtain⟨h2,e⟩:=d_.mp b;show(List.getElem_inj c).mp (d.trans e.symm)
def wc{M:Model}{A:Around}{E:O0}{i:Nat}{x:Str}{v:V}{u:Value}{Q:Unit->Shared->Prop}(I:aN X f g H s)(hN:X.N.Nodup)(hi:X.N[i]?=some x)(D:Kq X.env.scope x)(r:aX v u)(h:∀s',aN X f (g.set i (some v)) H s'->(∃a,Heap.SameBut a s.heap s'.heap/\(a=X.env.locals\/X.env.cells.lookup x=some a))->Q Unit.unit s')(hf:X.fn x=true\/X.env.scope.names.lookup x=some .local:=by first|show .inl ()|show .inr ()|assumption):wpAny M A (storeName X.env x u) Q E s:=by
 obtain⟨m,hn,hl⟩:=id I.loc;have R:(X.env.scope.kind==.class||(X.env.scope.kind==.module&&X.env.locals !=X.env.globals))=false:=by rw[I.ok.kind];rfl
 have J:i<g.length:=by rw[I.len];show(d_.mp hi).1
 have cne:=I.cne;have t:∀{a:Addr}{h':Heap},(∃o,s.heap.get? a=some o/\H a=none)->Heap.SameBut a s.heap h'->lO X.prog X.w H h':=λ{a h'}ha l b ob e=>by
  obtain⟨_,_,F⟩:=ha;show(I.hok b ob e).stay (λc Y hc q=>(l.2 c ?_).trans q) (λ_ q=>q) λ_ _ q=>q;rintro rfl;rcases hc with rfl|hc
  ·rw[F]at e;cases e
  ·rw[F]at hc;cases hc
 rcases D with K|K
 ·show wpAny_storeName_local K hn (λh' aa l=>?_) R;obtain⟨oL,_,_,ad,_⟩:=id hn;show h _ {I.ok,I.os,I.bare,{λb o e n L D=>?_,λb o e n L D=>?_,I.base.free,λb o e D=>?_,I.base.tups,I.base.frzs,I.base.tbls},{_,aa,λj y v' C G e3=>?_},λy c e=>?_,I.free,I.freeC,λp hp=>?_,t (oL,ad,I.free,) l,by simpa using I.len} {_,l,.inl ()}
  ·show(l.2 b (ku (nn (ir e) I.ok.above))).trans (I.base.keep b o e n L D)
  ·obtain⟨sl,C⟩:=I.base.slot b o e n L D;show{sl,(l.2 b (ku (nn (ir e) I.ok.above))).trans C}
  ·obtain⟨o',C⟩:=I.base.there b o e D;show{o',(l.2 b (ku (nn (ir e) I.ok.above))).trans C}
  ·by_cases O:j=i
   ·subst O;rw[hi]at C;cases C;rw[x_ J]at G;cases G;show{u,r,.inl {K,by simp}}
   ·rw[q_ (oi O)]at G;obtain⟨u',r',q⟩:=hl j y v' C G e3;show{u',r',?_};rcases q with⟨k,e⟩|⟨k,c,e,z⟩
    ·show .inl {k,?_};have:y≠x:=λe=>O (yV hN C (e▸hi));simp[this,e]
    ·show .inr {k,c,e,z.sameBut l (cne y c e)}
  ·obtain⟨Y,z⟩:=I.cell y c e;show{Y,z.sameBut l (cne y c e)}
  ·obtain⟨e,n,ne,nf,d⟩:=I.pin p hp;show{(l.2 p.1 ne).trans e,n,ne,nf,d}
 ·have P:X.fn x=true:=by
   rcases hf with z|z
   ·show z
   ·rw[z]at K;cases K
  obtain⟨c,hc⟩:=I.ok.has x (.inl K);obtain⟨Y,z⟩:=I.cell x c hc;show wpAny_storeName_cell I.ok.kind K hc z (λh' S l=>?_);obtain⟨oc,T,U⟩:=id z;show h {s with heap:=h'} {I.ok,I.os,I.bare,{λb o e n L D=>?_,λb o e n L D=>?_,I.base.free,λb o e D=>?_,I.base.tups,I.base.frzs,I.base.tbls},{m,hn.sameBut l (oi (cne x c hc)),λj y v' C G e3=>?_},λy Z e=>?_,I.free,I.freeC,λp hp=>?_,t {oc,T,I.freeC x c hc} l,by simpa using I.len} {c,l,.inr hc}
  ·show(l.2 b (ku (nn (ir e) (I.ok.cab x c P hc)))).trans (I.base.keep b o e n L D)
  ·obtain⟨sl,C⟩:=I.base.slot b o e n L D;show{sl,(l.2 b (ku (nn (ir e) (I.ok.cab x c P hc)))).trans C}
  ·obtain⟨o',C⟩:=I.base.there b o e D;show{o',(l.2 b (ku (nn (ir e) (I.ok.cab x c P hc)))).trans C}
  ·by_cases O:j=i
   ·subst O;rw[hi]at C;cases C;rw[x_ J]at G;cases G;show{u,r,.inr {.inl K,c,hc,S}}
   ·rw[q_ (oi O)]at G;obtain⟨u',r',q⟩:=hl j y v' C G e3;show{u',r',?_};rcases q with q|⟨k,Z,e,z'⟩
    ·show .inl q
    ·show .inr {k,Z,e,z'.sameBut l ?_};rintro rfl;show O (yV hN C (I.ok.inj _ _ _ e hc▸hi))
  ·by_cases W:Z=c
   ·subst W;show{_,S}
   ·obtain⟨w2,z2⟩:=I.cell y Z e;show{w2,z2.sameBut l W}
  ·obtain⟨e,n,ne,nf,d⟩:=I.pin p hp;show{(l.2 p.1 ?_).trans e,n,ne,nf,d};intro q;rw[q,T]at e;have q':oc=p.2:=iA e;show d Y (by rw[<-q'];show U)
def sY(I:aN X f g H s)(c:X.N.Nodup)(hi:X.N[i]?=some x)(d:Kq X.env.scope x)(r:aX v u)(h:∀a,aN X f (g.set i (some v)) H a->Q Unit.unit a)(e:X.fn x=true\/X.env.scope.names.lookup x=some .local:=by first|show .inl ()|show .inr ()|assumption):wpAny M A (storeName X.env x u) Q E s:=wc I c hi d r (λa b _=>h a b) e
def aN.call'(I:aN X f g H s)(j:s'.os=s.os)(u:Un (j4 X.stack) ch H B s.heap s'.heap)(hok:lO X.prog X.w B s'.heap)(hg:AllBare s'.gens)(a:∀b∈ch,(b∈X.ex\/X.s₀.heap.objs.size<=b)/\b≠X.env.locals/\(∀x c,X.env.cells.lookup x=some c->c≠b)/\∀p∈X.pn++f,p.1≠b):aN X f g B s':=by obtain⟨h',d,h,i,k⟩:=s';have e:k=s.os:=j;subst e;show I.call (g':=d) (t':=i) (d':=h) u hok hg a
end
abbrev XK:=Value->Option Addr->Hp->Prop
abbrev St:=List (Option V)
abbrev VK:=V->Hp->Prop
abbrev TE:=St->Hp->VK->Prop
abbrev TT:=St->Hp->(Bool->Hp->Prop)->Prop
abbrev TA:=St->Hp->(List V->Hp->Prop)->Prop
structure j8 where
 nx:St->Hp->Prop
 rt:VK
 bk:St->Hp->Prop:=λ_ _=>False
 ct:St->Hp->Prop:=λ_ _=>False
abbrev TS:=j8->St->Hp->Prop
def EP(X:Cx)(a:O1)(c:St)(Q:VK)(u:Value)(d:Shared):Prop:=∃v b,aN X a c b d/\aX v u/\Q v b
def TP(X:Cx)(a:O1)(d:St)(Q:Bool->Hp->Prop)(b:Bool)(e:Shared):Prop:=∃c,aN X a d c e/\Q b c
def AP(X:Cx)(a:O1)(d:St)(Q:List V->Hp->Prop)(e:O3)(f:Shared):Prop:=∃b c,aN X a d c f/\aY b e/\Q b c
def SP(X:Cx)(c:O1)(D:j8)(f:Flow)(d:Shared):Prop:=match f with|.next=>∃a b,aN X c a b d/\D.nx a b|.brk=>∃a b,aN X c a b d/\D.bk a b|.cont=>∃a b,aN X c a b d/\D.ct a b|.ret u=>∃v a b,aN X c a b d/\aX v u/\D.rt v b
def PE(X:Cx)(e:Expr)(t:TE):Prop:=∀(a:O1)(s:Shared)(b:St)(H:Hp)(Q:VK),aN X a b H s->t b H Q->wpAny (model X.prog X.w) X.A (eval e X.env) (EP X a b Q) X.xe s
def PT(X:Cx)(e:Expr)(t:TT):Prop:=∀(a:O1)(s:Shared)(b:St)(H:Hp)(Q:Bool->Hp->Prop),aN X a b H s->t b H Q->wpAny (model X.prog X.w) X.A (isTrue e X.env (eval e X.env)) (TP X a b Q) X.xe s
def PW(X:Cx)(e:Expr)(t:TT):Prop:=∀(b:Sem Value)(a:O1)(s:Shared)(c:St)(H:Hp)(Q:Bool->Hp->Prop),aN X a c H s->t c H Q->wpAny (model X.prog X.w) X.A (isTrue e X.env b) (TP X a c Q) X.xe s
def PW.pt(h:PW X e t):PT X e t:=h _
def PA(X:Cx)(d:O6)(t:TA):Prop:=∀(b:Pos)(a:O1)(s:Shared)(c:St)(H:Hp)(Q:List V->Hp->Prop),aN X a c H s->t c H Q->wpAny (model X.prog X.w) X.A (spliced (backTo b (starEach d X.env))) (AP X a c Q) X.xe s
def PS(X:Cx)(st:Stmt)(t:TS):Prop:=∀(a:O1)(s:Shared)(b:St)(H:Hp)(D:j8),aN X a b H s->t D b H->wpAny (model X.prog X.w) X.A (exec st X.env) (SP X a D) X.xe s
def vR(X:Cx)(st:List Stmt)(t:TS):Prop:=∀(a:O1)(s:Shared)(b:St)(H:Hp)(D:j8),aN X a b H s->t D b H->wpAny (model X.prog X.w) X.A (execs st X.env) (SP X a D) X.xe s
def cw(h:wpAny M A t Q E s)(c:∀a s,Q a s->d a s):wpAny M A t d E s:=wpAny_mono h c λ_ _ x=>x
section
variable{X:Cx}
def Ir(i:Nat):TE:=λa H Q=>∃v,a[i]?=some (some v)/\Q v H
def tC(v:V):TE:=λ_ H Q=>Q v H
def Jn(j:X.N[i]?=some x)(n:Mu X.env.scope x)(hd:(x==("__debug__":Str))=false:=by decide)(g:(x==("__classdict__":Str))=false:=by decide):PE X (.Name x f) (Ir i):=by
 intro d s k H Q I h;obtain⟨v,e,h⟩:=h;obtain⟨m,hn,o⟩:=I.loc;obtain⟨u,r,l⟩:=o i x v j e n;have fin:EP X d k Q u s:=(v,H,I,r,h,);rcases l with⟨b,hm⟩|⟨b,c,hc,a⟩
 ·show wpAny_Name (wpAny_loadName_local I.ok.kind b hn hm fin) hd
 ·rcases b with b|b
  ·show wpAny_Name (wpAny_loadName_cell I.ok.kind b hc a fin) hd
  ·show wpAny_Name (wpAny_loadName_free I.ok.kind b hc a fin g) hd
def af{i j f}:PE X (.Constant (.int i) j f) (tC (.int i)):=λ_ _ _ H _ I h=>wpAny_Constant_int {.int i,H,I.tok _,{_,()},h}
def gH{b j f}:PE X (.Constant (.bool b) j f) (tC (.bl b)):=λ_ _ _ H _ I h=>Constant_bool {.bl b,H,I,(),h}
def n9{j f}:PE X (.Constant .none j f) (tC .non):=λ_ _ _ H _ I h=>Constant_none {.non,H,I,(),h}
def aF{x j f}:PE X (.Constant (.str x) j f) (tC (.str x)):=λ_ _ _ H _ I h=>Calls.Constant_str {.str x,H,I.tok _,{_,()},h}
def Gl(X:Cx)(x:Str):Prop:=X.env.kindOf x=some .globalImplicit
def mP(I:aN X a c H s)(hg:Gl X x)(hm:X.mg x=some u)(h:Q u s)(hd:(x==("__debug__":Str))=false:=by decide):wpAny (model X.prog X.w) X.A (eval (.Name x f) X.env) Q E s:=Calls.Name_function_global I.ok.kind hg (Calls.loadGlobal_global (by rw[I.ok.glob];show I.mod.glob.keeps I.bk) hm h) hd
def lz(I:aN X a d H s)(hg:Gl X x)(hm:X.mg x=none)(c:bootBuiltins x=some u)(h:Q u s)(hn:x≠"__name__":=by decide)(hd:(x==("__debug__":Str))=false:=by decide):wpAny (model X.prog X.w) X.A (eval (.Name x f) X.env) Q E s:=by obtain⟨b,h1,h2⟩:=I.mod.blt;show Calls.Name_function_global I.ok.kind hg (Calls.loadGlobal_builtin (by rw[I.ok.glob];show I.mod.glob.keeps I.bk) hm (by rw[I.ok.blt];show h1.keeps I.bk) ((h2 x hn).trans c) h) hd
def A6(hg:Gl X x)(hm:X.mg x=some u)(r:aX v u)(hd:(x==("__debug__":Str))=false:=by decide):PE X (.Name x f) (tC v):=λ_ _ _ H _ I h=>mP I hg hm (v,H,I,r,h,) hd
def GE{x:Str}{v:V}{u:Value}{f:Pos}(hg:Gl X x)(hm:X.mg x=none)(a:bootBuiltins x=some u)(r:aX v u)(hn:x≠"__name__":=by decide)(hd:(x==("__debug__":Str))=false:=by decide):PE X (.Name x f) (tC v):=λ_ _ _ H _ I h=>lz I hg hm a (v,H,I,r,h,) hn hd
variable{a b:Expr}{g p:TE}{f:Pos}
def PC(X:Cx)(h:CmpOp)(a b:Expr)(t:TE):Prop:=∀(c:O1)(s:Shared)(e:St)(H:Hp)(Q:VK),aN X c e H s->t e H Q->wpAny (model X.prog X.w) X.A (eval a X.env) (λv s₁=>wpAny (model X.prog X.w) X.A (eval b X.env) (λu d=>wpAny (model X.prog X.w) X.A (compareOp h v u) (EP X c e Q) X.xe d) X.xe s₁) X.xe s
def tB(t:TE):TT:=λd H Q=>t d H λx e=>∃c,x=.bl c/\Q c e
def n6(h:PC X i a b t)(h1:behindInMarks i b=false:=by first|show nobehind _ (by decide) (by decide)|rfl):PT X (.Compare a [i] [b] f) (tB t):=by intro e s j H Q I k;show wpAny_isTrue_Compare1 (cw (h e s j H _ I k) λv o h1=>cw h1 λu r h2=>cw h2 λc w⟨x,l,I1,m,n⟩=>?_) h1;obtain⟨d,rfl,q⟩:=n;cases m;show rm (l,I1,q,)
variable{n o:TT}{qd:O6}
def MJ(t u:TT):TT:=λd H Q=>t d H λc e=>if c=true then u d e Q else Q false e
def tOr(t u:TT):TT:=λd H Q=>t d H λc e=>if c=true then Q true e else u d e Q
def MF(t:TT):TT:=λd H Q=>t d H λc e=>Q (!c) e
def lq(i:PT X a n):PW X (.BoolOp .And [a] f) n:=by intro k d s j H Q I h;show isTrue_and (cw (i d s j H Q I h) λc l e=>?_);cases c with|true=>show isTrue_and_nil e|false=>show e
def dO(i:PT X a n):PW X (.BoolOp .Or [a] f) n:=by intro k d s j H Q I h;show isTrue_or (cw (i d s j H Q I h) λc l e=>?_);cases c with|false=>show isTrue_or_nil e|true=>show e
def nZ(l:PT X a n)(m:PW X (.BoolOp .And (b::qd) f) o):PW X (.BoolOp .And (a::b::qd) f) (MJ n o):=by intro k d s e H Q I h;show isTrue_and (cw (l d s e H _ I h) λc q r=>?_);obtain⟨i,I1,j⟩:=r;cases c with|true=>show m k d q e i Q I1 j|false=>show(i,I1,j,)
def fI(l:PT X a n)(m:PW X (.BoolOp .Or (b::qd) f) o):PW X (.BoolOp .Or (a::b::qd) f) (tOr n o):=by intro k d s e H Q I h;show isTrue_or (cw (l d s e H _ I h) λc q r=>?_);obtain⟨i,I1,j⟩:=r;cases c with|true=>show(i,I1,j,)|false=>show m k d q e i Q I1 j
def ca(e:PT X a n):PT X (.UnaryOp .Not a f) (MF n):=by intro d s i H Q I h;show isTrue_not (e d s i H (λc j=>Q (!c) j) I h)
def K6(g p:TE):TE:=λd H Q=>g d H λx e=>∃c,x=.bl c/\if c=true then p d e Q else Q (.bl false) e
def ME(g p:TE):TE:=λd H Q=>g d H λx e=>∃c,x=.bl c/\if c=true then Q (.bl true) e else p d e Q
def KU(g:TE):TE:=λd H Q=>g d H λx e=>∃c,x=.bl c/\Q (.bl (!c)) e
def dH{d}(h:PE X a t):PE X (.BoolOp d [a] f) t:=λc s e H Q I i=>BoolOp_one (h c s e H Q I i)
def cE(l:PE X a g)(m:PE X (.BoolOp .And (b::qd) f) p):PE X (.BoolOp .And (a::b::qd) f) (K6 g p):=by intro d s i H Q I h;show BoolOp_and (cw (l d s i H _ I h) λv k q=>?_);obtain⟨x,j,I1,r,e⟩:=q;obtain⟨c,rfl,e⟩:=e;cases r;show rm ?_;cases c with|true=>show m d k i j Q I1 e|false=>show{.bl false,j,I1,(),e}
def Lu(l:PE X a g)(m:PE X (.BoolOp .Or (b::qd) f) p):PE X (.BoolOp .Or (a::b::qd) f) (ME g p):=by intro d s i H Q I h;show BoolOp_or (cw (l d s i H _ I h) λv k q=>?_);obtain⟨x,j,I1,r,e⟩:=q;obtain⟨c,rfl,e⟩:=e;cases r;show rm ?_;cases c with|false=>show m d k i j Q I1 e|true=>show{.bl true,j,I1,(),e}
def D0(i:PE X a g):PE X (.UnaryOp .Not a f) (KU g):=by intro d s j H Q I h;show UnaryOp_ (cw (i d s j H _ I h) λv q k=>?_);obtain⟨x,l,I1,m,e⟩:=k;obtain⟨c,rfl,e⟩:=e;cases m;show not_of (rm {.bl (!c),l,I1,(),e})
end
def aR(K:OZ)(H:Hp)(a:Addr)(c:List V):Prop:=Rd H a (.lst c)\/∃(o:Obj)(b:O7)(n:Nat),K.lookup a=some o/\o.cls=.type "list"/\o.dict=none/\o.data=.seq b n/\b.size<=sizeLine/\aY c b.toList
def a0(K:OZ)(H:Hp)(a:Addr)(c:List V):Prop:=Rd H a (.tup c)\/∃(o:Obj)(b:O7)(n:Nat),K.lookup a=some o/\o.cls=.type "tuple"/\o.data=.seq b n/\b.size<=sizeLine/\aY c b.toList
def M3:Value->Option V|.none=>some .non|.bool b=>some (.bl b)|.int i _=>some (.int i)|.str x _=>some (.str x)|.bytes b _=>some (.byt b)|.float b _=>some (.flt b)|.ref a=>some (.ref a)|.type n=>some (.ty n)|_=>none
def aX.abs(r:aX x u):M3 u=some x:=by cases x with|non=>cases r;rfl|bl _=>cases r;rfl|int _=>obtain⟨t,rfl⟩:=r;rfl|str _=>obtain⟨t,rfl⟩:=r;rfl|byt _=>obtain⟨t,rfl⟩:=r;rfl|flt _=>obtain⟨t,rfl⟩:=r;rfl|ref _=>cases r;rfl|ty _=>cases r;rfl
def aX.inj(r:aX x u)(q:aX y u):x=y:=iA (r.abs.symm.trans q.abs)
theorem aY.inj:∀{a c:List V}{d:O3},aY a d->aY c d->a=c|_,_,_,.nil,.nil=>()|_,_,_,.cons r t,.cons b e=>by rw[r.inj b,aY.inj t e]
section
variable{X:Cx}{c:O1}{f:St}{H:Hp}{s:Shared}{a:Addr}{xs g:List V}
def aR.of{K:OZ}(h:H a=some (.lst xs)):aR K H a xs:=.inl (.inl h)
def a0.of{K:OZ}(h:H a=some (.tup xs)):a0 K H a xs:=.inl (.inl h)
def aN.list(I:aN X c f H s)(h:aR X.K H a xs):∃d:List Value,aY xs d/\PlainL s.heap a d.toArray/\xs.length<=sizeLine:=by
 rcases h with h|⟨o,d,n,b,hc,hd,i,j,r⟩
 ·obtain⟨z,d,n,r,e⟩:=h.ok I.hok;show{d,r,{_,n,e,(),(),()},z}
 ·show{d.toList,r,{o,n,I.kIn a o b,hc,hd,by simpa using i},?_};have e:=r.length;simp only[l_]at e;lia
def aN.tuple(I:aN X c f H s)(h:a0 X.K H a xs):∃d:List Value,aY xs d/\IsTup s.heap a d.toArray/\xs.length<=sizeLine:=by
 rcases h with h|⟨o,d,n,b,hc,i,j,r⟩
 ·obtain⟨z,d,r,p⟩:=h.ok I.hok;show(d,r,p,z,)
 ·show{d.toList,r,{o,I.kIn a o b,hc,n,by simpa using i},?_};have e:=r.length;simp only[l_]at e;lia
def aN.list_inj(I:aN X c f H s)(h:aR X.K H a xs)(h':aR X.K H a g):xs=g:=by
 obtain⟨i,r,⟨o,n,e,_,_,d⟩,_⟩:=I.list h;obtain⟨b,l,⟨m,p,j,_,_,k⟩,_⟩:=I.list h';rw[e]at j;cases j;rw[d]at k;injection k with d1 _;have:i=b:=by simpa using p_ Array.toList d1
 subst this;show r.inj l
def aN.tuple_inj(I:aN X c f H s)(h:a0 X.K H a xs)(h':a0 X.K H a g):xs=g:=by
 obtain⟨i,r,⟨o,e,_,n,d⟩,_⟩:=I.tuple h;obtain⟨b,l,⟨m,j,_,p,k⟩,_⟩:=I.tuple h';rw[e]at j;cases j;rw[d]at k;injection k with d1 _;have:i=b:=by simpa using p_ Array.toList d1
 subst this;show r.inj l
end
abbrev Cx.wish(X:Cx)(E:O0):Cx:={X with xe:=E}
abbrev Cx.nox(X:Cx):Cx:=X.wish λ_ _=>False
theorem Cx.Ok.wish{X:Cx}(ok:X.Ok)(E:O0):(X.wish E).Ok:=(ok.mod,ok.kind,ok.glob,ok.blt,ok.above,ok.inj,ok.has,ok.cab,ok.hd,ok.frames,ok.stk,ok.exf,ok.bs,ok.bsz,ok.noex,ok.exfs,ok.funs,ok.frf,)
def Cx.Ok.unwish{X:Cx}{E:O0}(ok:(X.wish E).Ok):X.Ok:=(ok.mod,ok.kind,ok.glob,ok.blt,ok.above,ok.inj,ok.has,ok.cab,ok.hd,ok.frames,ok.stk,ok.exf,ok.bs,ok.bsz,ok.noex,ok.exfs,ok.funs,ok.frf,)
section
variable{X:Cx}{a:O1}{c:St}{H:Hp}{s:Shared}{E:O0}
theorem aN.wish(I:aN X a c H s)(E:O0):aN (X.wish E) a c H s:={I.ok.wish E,I.os,I.bare,I.base,I.loc,I.cell,I.free,I.freeC,I.pin,I.hok,I.len}
theorem aN.unwish(I:aN (X.wish E) a c H s):aN X a c H s:=(I.ok.unwish,I.os,I.bare,I.base,I.loc,I.cell,I.free,I.freeC,I.pin,I.hok,I.len,)
theorem SP.unwish(h:SP (X.wish E) a D f e):SP X a D f e:=by cases f with|next=>obtain⟨b,d,I,q⟩:=h;show(b,d,I.unwish,q,)|brk=>obtain⟨b,d,I,q⟩:=h;show(b,d,I.unwish,q,)|cont=>obtain⟨b,d,I,q⟩:=h;show(b,d,I.unwish,q,)|ret u=>obtain⟨v,b,d,I,r,q⟩:=h;show(v,b,d,I.unwish,r,q,)
theorem vR.nox{st:List Stmt}{t:TS}(h:vR X.nox st t):vR X st t:=λa s c H D I b=>wpAny_mono (h a s c H D (I.wish _) b) (λ_ _ q=>q.unwish) λ_ _ z=>False.elim z
end
section
variable{X:Cx}{st:Stmt}{qd:List Stmt}{t u:TS}{e:Expr}{te:TE}{g:Pos}
def yc:TS:=λD a H=>D.nx a H
def zK(t u:TS):TS:=λD a H=>t {D with nx:=u D} a H
def aD:vR X [] yc:=λ_ _ a H _ I h=>NE (a,H,I,h,)
def ag(h1:PS X st t)(h2:vR X qd u):vR X (st::qd) (zK t u):=by intro a s c H D I h;show ON (cw (h1 a s c H {D with nx:=u D} I h) λf d q=>?_);cases f with|next=>obtain⟨b,i,j,q⟩:=q;show h2 a d b i D j q|ret v=>show q|brk=>show q|cont=>show q
def ah(h1:PS X st t):vR X [st] t:=by intro a s b H D I h;show ON (cw (h1 a s b H D I h) λf c q=>?_);cases f with|next=>show NE q|ret v=>show q|brk=>show q|cont=>show q
def aN.quiet(I:aN X a c H s):interactive X.env=false:=by simp[interactive,I.ok.kind]
def K1(te:TE):TS:=λD a H=>te a H λ_ b=>D.nx a b
def aJ(c:PE X e te)(d:swapsWith e none g.line X.env=pure false:=by rfl):PS X (.Expr e g) (K1 te):=by intro a s b H D I h;show wpAny_Expr_any (cw (c a s b H _ I h) λv j⟨x,f,I1,k,i⟩=>(b,f,I1,i,)) I.quiet d
def KR(te:TE):TS:=λD a H=>te a H D.rt
def aB(c:PE X e te):PS X (.Return (some e) g) (KR te):=by intro a s b H D I h;show wpAny_Return_some (cw (c a s b H _ I h) λv k d=>?_);obtain⟨x,f,I1,i,j⟩:=d;show(x,b,f,I1,i,j,)
def FP(c:TT)(t u:TS):TS:=λD a H=>c a H λb d=>if b=true then t D a d else u D a d
def aM(hc:PT X c tc)(m:vR X a t)(n:vR X b u):PS X (.If c a b g) (FP tc t u):=by intro f s i H D I h;show wpAny_If (cw (hc f s i H _ I h) λd j o=>?_);obtain⟨k,I1,l⟩:=o;cases d with|true=>show m f j i k D I1 l|false=>show n f j i k D I1 l
def Iv:TS:=λ_ _ _=>False
def cr:PS X st Iv:=λ_ _ _ _ _ _ h=>h.elim
end
abbrev TG:=V->St->Hp->(St->Hp->Prop)->Prop
abbrev KI:=List V->St->Hp->(St->Hp->Prop)->Prop
def PG(X:Cx)(a:Expr)(t:TG):Prop:=∀(b:O1)(s:Shared)(d:St)(H:Hp)(v:V)(u:Value)(Q:St->Hp->Prop),aN X b d H s->aX v u->t v d H Q->wpAny (model X.prog X.w) X.A (assign a X.env u) (λ_ f=>∃c e,aN X b c e f/\Q c e) X.xe s
def Kn(X:Cx)(g:O6)(t:KI):Prop:=∀(a:O1)(s:Shared)(c:St)(H:Hp)(d:List V)(e:O3)(Q:St->Hp->Prop),aN X a c H s->aY d e->t d c H Q->wpAny (model X.prog X.w) X.A (assignInOrder ((assignEach g X.env).map (·.2)) e) (λ_ h=>∃b f,aN X a b f h/\Q b f) X.xe s
abbrev Hz:=V->V->V->Hp->(Hp->Prop)->Prop
def HD(X:Cx)(t:Hz):Prop:=∀(a:O1)(s:Shared)(b:St)(H:Hp)(o i v:V)(c iv u:Value)(Q:Hp->Prop),aN X a b H s->aX o c->aX i iv->aX v u->t o i v H Q->wpAny (model X.prog X.w) X.A (setItem c iv u) (λ_ e=>∃d,aN X a b d e/\Q d) X.xe s
section
variable{X:Cx}{c:Pos}
def kP(i:Nat):TG:=λv a H Q=>Q (a.set i (some v)) H
def A5(d:X.N.Nodup)(hi:X.N[i]?=some x)(e:Kq X.env.scope x)(f:X.fn x=true\/X.env.scope.names.lookup x=some .local:=by first|show .inl ()|show .inr ()|assumption):PG X (.Name x c) (kP i):=by intro a s g H v u Q I r h;show wpAny_assign_Name (sY I d hi e r (λj b=>{_,H,b,h}) f)
def L0:KI:=λa b H Q=>a=[]/\Q b H
def EY(t:TG)(u:KI):KI:=λb d H Q=>∃v r,b=v::r/\t v d H λa e=>u r a e Q
def fB:Kn X [] L0:=by intro a s b H d f Q I r h;obtain⟨e,h⟩:=h;subst e;cases r;show assignInOrder_nil (b,H,I,h,)
def bh(h1:PG X e t)(h2:Kn X d u)(f:(assignEach (e::d) X.env).map (·.2)=assign e X.env::(assignEach d X.env).map (·.2):=by rfl):Kn X (e::d) (EY t u):=by intro a s g H o p Q I r h;obtain⟨v,q,i,h⟩:=h;subst i;cases r with|cons r j=>rw[f];show assignInOrder_cons (cw (h1 a s g H _ _ _ I r h) λ_ k l=>?_);obtain⟨b,m,I1,n⟩:=l;show h2 a k b m _ _ Q I1 j n
def J0(K:OZ)(n:Nat)(t:KI):TG:=λv d H Q=>∃a b,v=.ref a/\a0 K H a b/\b.length=n/\t b d H Q
def Jm(hc:X.calm=true)(h:Kn X f t)(hn:(assignEach f X.env).length=n:=by rfl)(g:(assignEach f X.env).findIdx? (·.1)=none:=by rfl):PG X (.Tuple f k c) (J0 X.K n t):=by intro d s j H v u Q I r i;obtain⟨a,m,p,q,w,i⟩:=i;subst p;cases r;obtain⟨x,l,y,A⟩:=I.tuple q;show assign_Tuple_tuple (I.ok.hd hc) y (by simp[hn,<-w,l.length]) g λh' z=>?_;have I1:aN X d j H {s with heap:=h'}:=I.kept (t':=s.toks) λb o e=>z b o (ku (ir e)) e;show h d _ j H m _ Q I1 (by simpa using l) i
def MX(d e:TE)(t:Hz):TG:=λv a H Q=>d a H λo b=>e a b λi f=>t o i v f λg=>Q a g
def lr(f:PE X o g)(hi:PE X i j)(l:HD X t)(m:∀v,assign (.Subscript o i c) X.env v=(do
   let d<-holding [v] (eval o X.env)let iv<-holding [v,d] (eval i X.env)standAt c
   holding [v,d,iv] (setItem d iv v)release [v,d,iv] []):=by intro _;rfl):PG X (.Subscript o i c) (MX g j t):=by intro a s e H v u Q I r h;rw[m];show a_ (o8 (cw (f a s e H _ I h) λd k b=>?_));obtain⟨x,n,I1,p,q⟩:=b;show a_ (o8 (cw (hi a k e n _ I1 q) λiv w b=>?_));obtain⟨y,z,A,r2,B⟩:=b;show a_ (wpAny_standAt (a_ (o8 (cw (l a w e z x y v d iv u _ A p r2 r B) λ_ F b=>?_))));obtain⟨C,D,E⟩:=b;show wpAny_release (e,C,D,E,)
def yd(te:TE)(g:TG):TS:=λD a H=>te a H λx b=>g x a b D.nx
def jf(f:PE X e te)(hg:PG X d g)(i:swapsWithSole [d] e c.line X.env=pure false:=by rfl)(j:swappedStores [d] e X.env=pure none:=by rfl)(h1:(assignEach [d] X.env).map (·.2)=[assign d X.env]:=by rfl):PS X (.Assign [d] e c) (yd te g):=by intro a s b H D I h;show wpAny_Assign_stores (cw (f a s b H _ I h) λv k⟨x,l,I1,m,n⟩=>?_) i j;rw[h1];show cw (hg a k b l x v _ I1 m n) λ_ o q=>q
def qf(d:X.N.Nodup)(hi:X.N[i]?=some x)(f:Kq X.env.scope x)(g:PE X e te)(j:swapsWith e (some (.Name x a)) c.line X.env=pure false:=by rfl)(l:X.fn x=true\/X.env.scope.names.lookup x=some .local:=by first|show .inl ()|show .inr ()|assumption):PS X (.Assign [.Name x a] e c) (yd te (kP i)):=by intro b s k H D I h;show wpAny_Assign_Name (cw (g b s k H _ I h) λv q⟨y,m,I1,n,o⟩=>?_) j;show sY I1 d hi f n (λr p=>{_,m,p,o}) l
end
structure It where
 go:Nat->Hp->Prop
 yld:Nat->Hp->V->Hp->Prop
 stop:Nat->Hp->Prop
def vT(X:Cx)(a:O1)(H:Hp)(b:Addr):Prop:=H b=none/\b≠X.env.locals/\b∉X.fs/\(b∈X.ex\/X.s₀.heap.objs.size<=b)/\(∀x c,X.env.cells.lookup x=some c->c≠b)/\∀p∈X.pn++a,p.1≠b
def aN.fpOk(I:aN X a h H s)(d:s.heap.objs.size<=b)(hn:f b=none):vT X a f b:=by
 show{hn,ot (nn I.lt d),I.nofs d,.inr (kl I.sz d),λx c e z=>?_,λp g z=>?_}
 ·obtain⟨v,q⟩:=I.cell x c e;show absurd (nn q.lt (by rw[z];show d)) (qx _)
 ·show absurd (nn (ir (I.pin p g).1) (by rw[z];show d)) (qx _)
structure vP(P:O4)(w:World)(K:OZ)(tg:Expr)(J:It)(fp:O9)(it:Addr)(tn:Nat->Heap->Prop):Prop where
 mem:it∈fp
 obj:∀i h,tn i h->∀b∈fp,∃o,h.get? b=some o/\∀v,o.data≠.cell v
 keep:∀i h h',tn i h->(∀b∈fp,∀o,h.get? b=some o->h'.get? b=some o)->tn i h'
 item:∀(X:Cx),X.prog=P->X.w=w->X.K=K->X.calm=true->∀(i:Nat)(pins:O1)(s:Shared)(σ:St)(H:Hp)(E:O0),aN X pins σ H s->(∀b∈fp,vT X pins H b)->tn i s.heap->J.go i H->wpAny (model P w) X.A (pyNext (.ref it)) (λr s1=>∃u,r=some u/\wpAny (model P w) X.A (letOwnedTupleGo tg (.ref it) u) (λ_ s2=>∃x H',aN X pins σ H' s2/\aX x u/\J.yld i H x H'/\tn (i+1) s2.heap/\∀b∈fp,H' b=none) E s1) E s
 done:∀(X:Cx),X.prog=P->X.w=w->X.K=K->X.calm=true->∀(i:Nat)(pins:O1)(s:Shared)(σ:St)(H:Hp)(E:O0),aN X pins σ H s->(∀b∈fp,vT X pins H b)->tn i s.heap->J.stop i H->wpAny (model P w) X.A (pyNext (.ref it)) (λr s1=>r=none/\aN X pins σ H s1) E s
 self:∀(A:Around)(i:Nat)(s:Shared)(Q:O0)(E:O0),tn i s.heap->Q (.ref it) s->wpAny (model P w) A (pyIter (.ref it)) Q E s
abbrev TI:=St->Hp->(It->Hp->Prop)->Prop
def M8(X:Cx)(a:O1)(g:St)(h:Expr)(R:It->Hp->Prop)(c:Value)(e:Shared):Prop:=∃(f:Addr)(fp:O9)(tn:Nat->Heap->Prop)(J:It)(d:Hp),c=.ref f/\aN X a g d e/\vP X.prog X.w X.K h J fp f tn/\tn 0 e.heap/\(∀b∈fp,vT X a d b)/\R J d
def PI(X:Cx)(c iter:Expr)(d:TI):Prop:=∀(a:O1)(s:Shared)(b:St)(H:Hp)(R:It->Hp->Prop),aN X a b H s->d b H R->wpAny (model X.prog X.w) X.A (eval iter X.env) (λv e=>wpAny (model X.prog X.w) X.A (pyIter v) (M8 X a b c R) X.xe e) X.xe s
def wJ(c:s.heap.get? d=some o)(hc:o.cls=.type n)(hd:o.data=.fields e)(hn:["enumerate","zip","dict_itemiterator","dict_reverseitemiterator","odict_iterator","itertools.zip_longest","itertools.pairwise"].contains n=false)(a:Q Unit.unit s):wpAny M A (letOwnedTupleGo f (.ref d) u) Q E s:=by unfold letOwnedTupleGo;cases f<;>first|show f_ a|(cases u<;>first
 |show f_ a
    |(show a_ (wpAny_load c ?_)
      rw[hc,hd];change wpAny M A (if(["enumerate","zip","dict_itemiterator","dict_reverseitemiterator","odict_iterator","itertools.zip_longest","itertools.pairwise"].contains n&&e[0]?==some (rawInt _))=true then _ else _) Q E s;rw[h_ (by intro h;rw[hn,Bool.false_and]at h;cases h)];show f_ a))
def Ig(K:OZ)(a:Addr):It:={λi H=>∃b x,aR K H a b/\b[i]?=some x,λi H x c=>c=H/\∀b,aR K H a b->b[i]?=some x,λi H=>∃b,aR K H a b/\b.length<=i}
def Ie(K:OZ)(a:Addr):It:={λi H=>∃b x,a0 K H a b/\b[i]?=some x,λi H x c=>c=H/\∀b,a0 K H a b->b[i]?=some x,λi H=>∃b,a0 K H a b/\b.length<=i}
def FH(lo:Int)(n:Nat):It:={λi _=>i<n,λi H x a=>a=H/\x=.int (lo+i),λi _=>n<=i}
def BJ{P:O4}{w:World}{K:OZ}{G:Expr}(a g:Addr):vP P w K G (Ig K a) [g] g (λi h=>h.IsListIter g a i)where
 mem:=by simp
 obj:=λi h st b j=>by
  have e:b=g:=by simpa using j
  subst e;obtain⟨o,e,c,d⟩:=st;show{o,e,λv z=>by rw[d]at z;cases z}
 keep:=λi h h' st k=>st.at λo e=>k g (by simp) o e
 item:=by intro X q r t hc i f s F H E I m st hg;subst q r t;obtain⟨J,x,n,y⟩:=hg;obtain⟨A,B,p,L⟩:=I.list n;obtain⟨u,M,ru⟩:=B.get y;obtain⟨f0,f1,f2,f3,C,D⟩:=m g (by simp);show wpAny_pyNext_list_item st p.isList (x:=u) (by simpa using M) λh' l N=>?_;have I1:aN X f F H {s with heap:=h'}:=I.turned (t':=s.toks) (λb o j e=>(N.2 b j).trans e) f0 f1 f3 C D;obtain⟨o,e,c,d⟩:=id l;show{u,(),wJ (s:={s with heap:=h'}) e c d (by decide) {x,H,I1,ru,{(),λS Q=>by rw[I.list_inj Q n];show y},l,λb j=>(m b j).1}}
 done:=by intro X q r t hc i f s F H E I m st hg;subst q r t;obtain⟨J,n,y⟩:=hg;obtain⟨A,B,p,L⟩:=I.list n;obtain⟨f0,f1,f2,f3,C,D⟩:=m g (by simp);have T:=B.length;show wpAny_pyNext_list_end (I.ok.hd hc) st p.isList (by simp;lia) λh' R=>{(),I.turned (t':=s.toks) (λb o j e=>R b o j e) f0 f1 f3 C D}
 self:=λ_ _ _ _ _ st h=>wpAny_pyIter_listiter st h
def zH{P:O4}{w:World}{K:OZ}{G:Expr}(a g:Addr):vP P w K G (Ie K a) [g] g (λi h=>h.IsTupleIter g a i)where
 mem:=by simp
 obj:=λi h st b j=>by
  have e:b=g:=by simpa using j
  subst e;obtain⟨o,e,c,d⟩:=st;show{o,e,λv z=>by rw[d]at z;cases z}
 keep:=λi h h' st k=>st.at λo e=>k g (by simp) o e
 item:=by intro X r t y hc i f s F H E I n st hg;subst r t y;obtain⟨J,x,q,A⟩:=hg;obtain⟨l,B,p,L⟩:=I.tuple q;obtain⟨u,M,ru⟩:=B.get A;obtain⟨f0,f1,f2,f3,C,D⟩:=n g (by simp);show wpAny_pyNext_tuple_item st (show s.heap.IsTuple a l.toArray from p) (x:=u) (by simpa using M) λh' m N=>?_;have I1:aN X f F H {s with heap:=h'}:=I.turned (t':=s.toks) (λb o j e=>(N.2 b j).trans e) f0 f1 f3 C D;obtain⟨o,e,c,d⟩:=id m;show{u,(),wJ (s:={s with heap:=h'}) e c d (by decide) {x,H,I1,ru,{(),λS Q=>by rw[I.tuple_inj Q q];show A},m,λb j=>(n b j).1}}
 done:=by intro X r t y hc i f s F H E I n st hg;subst r t y;obtain⟨J,q,A⟩:=hg;obtain⟨l,B,p,L⟩:=I.tuple q;obtain⟨f0,f1,f2,f3,C,D⟩:=n g (by simp);have T:=B.length;show wpAny_pyNext_tuple_end (I.ok.hd hc) st (show s.heap.IsTuple a l.toArray from p) (by simp;lia) λh' R=>{(),I.turned (t':=s.toks) (λb o j e=>R b o j e) f0 f1 f3 C D}
 self:=λ_ _ _ _ _ st h=>wpAny_pyIter_tupleiter st h
def zI{P:O4}{w:World}{K:OZ}{u:Expr}(a:Addr)(lo:Int)(n:Nat):vP P w K u (FH lo n) [a] a (λi h=>IsRangeIter h a (lo+(i:Nat)*1) ((n:Int)-(i:Nat)) 1)where
 mem:=by simp
 obj:=λi h st b d=>by
  have e:b=a:=by simpa using d
  subst e;show{_,st,λv z=>by have x:Data.fields _=Data.cell v:=z;cases x}
 keep:=λi h h' st k=>k a (by simp) _ st
 item:=by intro X j l m hc i c s r H E I g st hg;subst j l m;obtain⟨f0,f1,f2,f3,p,q⟩:=g a (by simp);have W:=Walks.range (prog:=X.prog) (w:=X.w) (I.ok.hd hc) a lo 1 n;show W.item i s _ _ hg st λv h' tk y f A=>?_;obtain⟨t,rfl⟩:=y;have I1:aN X c r H {s with heap:=h',toks:=tk}:=I.turned (λb o d e=>A b o (by simpa using d) e) f0 f1 f3 p q;show{_,(),wJ (s:={s with heap:=h',toks:=tk}) (n:="range_iterator") f () () (by decide) {.int (lo+i),H,I1,{t,?_},{(),()},f,λb d=>(g b d).1}};rw[Int.mul_one]
 done:=by intro X j l m hc i c s r H E I g st hg;subst j l m;obtain⟨f0,f1,f2,f3,p,q⟩:=g a (by simp);show wpAny_pyNext_range_end (I.ok.hd hc) st (by have:n<=i:=hg;lia) λh' B=>{(),I.turned (t':=s.toks) (λb o d e=>B b o d e) f0 f1 f3 p q}
 self:=λ_ _ _ _ _ st h=>wpAny_pyIter_rangeiter st h
section
variable{X:Cx}{c:Expr}
def HR(K:OZ)(d:TE):TI:=λe H R=>d e H λx b=>∃a,x=.ref a/\(∃f,aR K b a f)/\R (Ig K a) b
def LS(K:OZ)(d:TE):TI:=λe H R=>d e H λx b=>∃a,x=.ref a/\(∃f,a0 K b a f)/\R (Ie K a) b
def Gz{l:Expr}{g:TE}(i:PE X l g):PI X c l (HR X.K g):=by
 intro d s j H R I h;show cw (i d s j H _ I h) λv f k=>?_;obtain⟨x,m,I1,n,r⟩:=k;obtain⟨a,e,⟨y,t⟩,q⟩:=r;subst e;cases n;obtain⟨u,z,p,A⟩:=I1.list t;show NR p.isList ?_;show{f.heap.objs.size,[f.heap.objs.size],_,_,m,(),I1.kept (t':=f.toks) λb o e=>c_ _ e,BJ a _,{_,g_ _ (),(),()},λb w=>?_,q};have e:b=f.heap.objs.size:=by simpa using w
 subst e;show I1.fpOk (e_ _) (I1.hok.fresh (e_ _))
def Jl{l:Expr}{i:TE}(j:PE X l i):PI X c l (LS X.K i):=by
 intro d s k H R I h;show cw (j d s k H _ I h) λv f m=>?_;obtain⟨x,n,I1,r,t⟩:=m;obtain⟨a,e,⟨y,u⟩,q⟩:=t;subst e;cases r;obtain⟨g,z,p,A⟩:=I1.tuple u;show Nl (show f.heap.IsTuple a g.toArray from p) ?_;show{f.heap.objs.size,[f.heap.objs.size],_,_,n,(),I1.kept (t':=f.toks) λb o e=>c_ _ e,zH a _,{_,g_ _ (),(),()},λb w=>?_,q};have e:b=f.heap.objs.size:=by simpa using w
 subst e;show I1.fpOk (e_ _) (I1.hok.fresh (e_ _))
def yB{a:O1}{d:St}{H:Hp}{s:Shared}{R:It->Hp->Prop}{E:O0}{lo hi:Int}{t u v:Tok}{tk:Nat}(I:aN X a d H s)(h1:-(2^62)<=lo)(h2:lo<2^62)(h3:-(2^62)<=hi)(h4:hi<2^62)(q:R (FH lo (hi-lo).toNat) H):wpAny (model X.prog X.w) X.A (pyIter (.ref s.heap.objs.size)) (M8 X a d c R) E {s with heap:=s.heap.push {cls:=.type "range",data:=.fields #[.int lo t,.int hi u,.int 1 v]},toks:=tk}:=by
 show wpAny_pyIter_range (IsRange.new ..) (small_one h1 h2 h3 h4) ?_;have I1:aN X a d H {s with heap:=s.heap.push {cls:=.type "range",data:=.fields #[.int lo t,.int hi u,.int 1 v]},toks:=tk}:=I.kept λb o e=>c_ _ e;show{(s.heap.push {cls:=.type "range",data:=.fields #[.int lo t,.int hi u,.int 1 v]}).objs.size,[(s.heap.push {cls:=.type "range",data:=.fields #[.int lo t,.int hi u,.int 1 v]}).objs.size],_,_,H,(),I1.kept (t':=tk) λb o e=>c_ _ e,zI _ lo (hi-lo).toNat,?_,λb f=>?_,q}
 ·have g:lo+((0:Nat):Int)*1=lo:=by simp
  have h:(((hi-lo).toNat:Nat):Int)-((0:Nat):Int)=Builtin.Range.rangeSize lo hi 1:=by rw[rangeSize_one];split<;>lia
  change IsRangeIter _ _ (lo+((0:Nat):Int)*1) ((((hi-lo).toNat:Nat):Int)-((0:Nat):Int)) 1;rw[g,h];show g_ _ ()
 ·have e:b=(s.heap.push {cls:=.type "range",data:=.fields #[.int lo t,.int hi u,.int 1 v]}).objs.size:=by simpa using f
  subst e;show I1.fpOk (e_ _) (I1.hok.fresh (e_ _))
def LU(a:TA):TI:=λb H R=>a b H λd e=>∃j:Int,d=[.int j]/\-(2^62)<=j/\j<2^62/\R (FH 0 j.toNat) e
def LT(a:TA):TI:=λb H R=>a b H λd e=>∃i j:Int,d=[.int i,.int j]/\(-(2^62)<=i/\i<2^62/\-(2^62)<=j/\j<2^62)/\R (FH i (j-i).toNat) e
def eM{a:Expr}{g:TA}{p d:Pos}(hg:Gl X "range")(hm:X.mg "range"=none)(i:PA X [a] g)(l:starEach [a] X.env=[(false,eval a X.env)]:=by rfl):PI X c (.Call (.Name "range" p) [a] [] d) (LU g):=by intro b s k H R I h;show Call_ (lz I hg hm boot_range (x3 (cw (i d b s k H _ I h) λu v⟨w,x,I1,m,f⟩=>?_) l ()));obtain⟨j,e,f,n,q⟩:=f;subst e;cases m with|cons r o=>cases o;obtain⟨t,rfl⟩:=r;show call_range_1 (yB I1 (by lia) (by lia) f n (by simpa using q))
def wu(hg:Gl X "range")(hm:X.mg "range"=none)(m:PA X [a,b] n)(o:starEach [a,b] X.env=[(false,eval a X.env),(false,eval b X.env)]:=by rfl)(d:starEach [b] X.env=[(false,eval b X.env)]:=by rfl):PI X c (.Call (.Name "range" p) [a,b] [] g) (LT n):=by intro f s u H R I h;show Call_ (lz I hg hm boot_range (x3 (cw (m g f s u H _ I h) λA B⟨C,D,I1,v,k⟩=>?_) (by rw[o,d]) (by rw[d];rfl)));obtain⟨i,j,e,⟨k,w,x,y⟩,q⟩:=k;subst e;cases v with|cons r l=>cases l with|cons z l=>cases l;obtain⟨t,rfl⟩:=r;obtain⟨E,rfl⟩:=z;show call_range_2 (yB I1 k w x y q)
def MH(h:TI)(g:TG)(j:TS):TS:=λD a H=>h a H λJ k=>∃W:Nat->Nat->St->Hp->Prop,(∃m,W 0 m a k)/\∀i m a H,W i m a H->(J.stop i H/\D.nx a H)\/(J.go i H/\∃N:St->Hp->Prop,(∀b d,N b d->∃f,f<m/\W (i+1) f b d)/\∀x d,J.yld i H x d->g x a d λe l=>j {D with nx:=N,ct:=N,bk:=D.nx} e l)
def ud(fp:O9)(h:Heap):List (Addr×Obj):=fp.filterMap λb=>(h.get? b).map λo=>(b,o)
def lw(a:b∈fp)(e:h.get? b=some o):(b,o)∈ud fp h:=NM.mpr {b,a,by rw[e];rfl}
def Cj(a:p∈ud fp h):p.1∈fp/\h.get? p.1=some p.2:=by obtain⟨b,d,e⟩:=NM.mp a;cases q:h.get? b with|none=>rw[q]at e;cases e|some o=>rw[q]at e;have f:(b,o)=p:=iA e;subst f;show(d,q,)
def aN.pinned(I:aN X a h H s)(i:∀b∈fp,vT X a H b)(j:∀b∈fp,∃o,s.heap.get? b=some o/\∀v,o.data≠.cell v):aN X (a++ud fp s.heap) h H s:=I.pins_of λp k=>(List.mem_append.mp k).elim (λz=>I.pin p (nr _ z)) λz=>by obtain⟨f,e⟩:=Cj z;obtain⟨f0,f1,f2,_⟩:=i p.1 f;obtain⟨o,g,d⟩:=j p.1 f;rw[e]at g;cases g;show(e,f0,f1,f2,d,)
def aN.unpinned(I:aN X (a++pl) d H s):aN X a d H s:=I.pins_of λp b=>I.pin p (nr _ (ol _ b))
def dP(E:PassesOwn (model X.prog X.w) X.A X.env X.xe)(hc:X.calm=true)(hi:PI X c iter wi)(hg:PG X c g)(l:vR X F tb)(hs:∀x,foldedSetIterable iter X.env x=pure x:=by intro _;rfl):PS X (.For c iter F [] aa) (MH wi g tb):=by
 intro a s Z H D I h;show wpAny_For (cw (hi a s Z H _ I h) λv s1 h1=>cw h1 λad s2 h2=>?_) hs;obtain⟨it,fp,tn,J,H2,e,I2,T,P,f2,W,⟨m0,w0⟩,G⟩:=h2;subst e;have k:∀{z:Hp},(∀b∈fp,z b=none)->∀b∈fp,vT X a z b:=λhn b l=>{hn b l,(f2 b l).2};show codeAny_forLoop_any (λn s'=>∃i p z,aN X a p z s'/\tn i s'.heap/\(∀b∈fp,z b=none)/\W i n p z) ?_ m0 {0,Z,H2,I2,P,λb l=>(f2 b l).1,w0};rintro n s3⟨i,q,O,I3,K,L,w3⟩;rcases G i n q O w3 with⟨stop,qn⟩|⟨go,N,hN,step⟩
 ·show ND E (cw (T.done X () () () hc i a s3 q O X.xe I3 (k L) K stop) λr s4⟨Q,I4⟩=>?_);subst Q;show NE (q,O,I4,qn,)
 ·show ND E (cw (T.item X () () () hc i a s3 q O X.xe I3 (k L) K go) λr s4⟨u,Q,h4⟩=>?_);subst Q;show ND E (cw h4 λ_ s5 R=>?_);obtain⟨x,H5,I5,r5,y5,C,S⟩:=R;have U:=I5.pinned (k S) (T.obj _ _ C);show ND E (cw (hg _ s5 q H5 x u _ U r5 (step x H5 y5)) λ_ s6 R=>?_);obtain⟨V,H6,I6,q6⟩:=R;show ND E (cw (l _ s6 V H6 _ I6 q6) λf Y B=>?_);have again:∀{j:St}{t:Hp},aN X (a++ud fp s5.heap) j t Y->N j t->∃m,m<n/\∃i p z,aN X a p z Y/\tn i Y.heap/\(∀b∈fp,z b=none)/\W i m p z:=λ{j t}y M=>by obtain⟨m',hm,w7⟩:=hN j t M;show{m',hm,i+1,j,t,y.unpinned,T.keep _ _ _ C λb l o e=>(y.pin (b,o) (nr _ (nr _ (lw l e)))).1,λb l=>?_,w7};obtain⟨o,e,d⟩:=T.obj _ _ C b l;show(y.pin (b,o) (nr _ (nr _ (lw l e)))).2.1
  cases f with|next=>obtain⟨j,t,y,M⟩:=B;show again y M|cont=>obtain⟨j,t,y,M⟩:=B;show again y M|brk=>obtain⟨j,t,y,B⟩:=B;show(j,t,y.unpinned,B,)|ret v=>obtain⟨x7,j,t,y,r7,B⟩:=B;show(x7,j,t,y.unpinned,r7,B,)
end
def uH{K:OZ}{a:Addr}{xs:List V}{g:TG}{tb:TS}{D:j8}{c:St}{H:Hp}(Pv:Nat->St->Hp->Prop)(h0:Pv 0 c H)(n:∀i c H,i<=xs.length->Pv i c H->aR K H a xs)(o:∀i x c H,xs[i]?=some x->Pv i c H->g x c H λd j=>tb {D with nx:=Pv (i+1),ct:=Pv (i+1),bk:=D.nx} d j)(hd:∀c H,Pv xs.length c H->D.nx c H):∃W:Nat->Nat->St->Hp->Prop,(∃m,W 0 m c H)/\∀i m c H,W i m c H->((Ig K a).stop i H/\D.nx c H)\/((Ig K a).go i H/\∃N:St->Hp->Prop,(∀f h,N f h->∃l,l<m/\W (i+1) l f h)/\∀x h,(Ig K a).yld i H x h->g x c h λd j=>tb {D with nx:=N,ct:=N,bk:=D.nx} d j):=by
 show{λi m c H=>m=xs.length-i/\i<=xs.length/\Pv i c H,{xs.length,by simp,lh _,h0},?_};rintro i m c H⟨rfl,hi,p⟩;have q:=n i c H hi p
 by_cases b:i<xs.length
 ·show .inr {{xs,xs[i],q,by simp[b]},Pv (i+1),λf h k=>{xs.length-(i+1),by lia,(),b,k},λx h y=>?_};obtain⟨e,y⟩:=y;subst e;show o i x c _ (y xs q) p
 ·have e:i=xs.length:=by lia
  subst e;show .inl {{xs,q,e_ _},hd c H p}
def Hf{K:OZ}{a:Addr}{xs:List V}{g:TG}{l:TS}{D:j8}{c:St}{H:Hp}(Pv:Nat->St->Hp->Prop)(h0:Pv 0 c H)(o:∀i c H,i<=xs.length->Pv i c H->a0 K H a xs)(r:∀i x c H,xs[i]?=some x->Pv i c H->g x c H λd j=>l {D with nx:=Pv (i+1),ct:=Pv (i+1),bk:=D.nx} d j)(hd:∀c H,Pv xs.length c H->D.nx c H):∃W:Nat->Nat->St->Hp->Prop,(∃m,W 0 m c H)/\∀i m c H,W i m c H->((Ie K a).stop i H/\D.nx c H)\/((Ie K a).go i H/\∃N:St->Hp->Prop,(∀f h,N f h->∃n,n<m/\W (i+1) n f h)/\∀x h,(Ie K a).yld i H x h->g x c h λd j=>l {D with nx:=N,ct:=N,bk:=D.nx} d j):=by
 show{λi m c H=>m=xs.length-i/\i<=xs.length/\Pv i c H,{xs.length,by simp,lh _,h0},?_};rintro i m c H⟨rfl,hi,p⟩;have q:=o i c H hi p
 by_cases b:i<xs.length
 ·show .inr {{xs,xs[i],q,by simp[b]},Pv (i+1),λf h k=>{xs.length-(i+1),by lia,(),b,k},λx h y=>?_};obtain⟨e,y⟩:=y;subst e;show r i x c _ (y xs q) p
 ·have e:i=xs.length:=by lia
  subst e;show .inl {{xs,q,e_ _},hd c H p}
def mT{lo:Int}{n:Nat}{g:TG}{tb:TS}{D:j8}{a:St}{H:Hp}(Pv:Nat->St->Hp->Prop)(h0:Pv 0 a H)(l:∀i a H,i<n->Pv i a H->g (.int (lo+i)) a H λc h=>tb {D with nx:=Pv (i+1),ct:=Pv (i+1),bk:=D.nx} c h)(hd:∀a H,Pv n a H->D.nx a H):∃W:Nat->Nat->St->Hp->Prop,(∃m,W 0 m a H)/\∀i m a H,W i m a H->((FH lo n).stop i H/\D.nx a H)\/((FH lo n).go i H/\∃N:St->Hp->Prop,(∀d f,N d f->∃j,j<m/\W (i+1) j d f)/\∀x f,(FH lo n).yld i H x f->g x a f λc h=>tb {D with nx:=N,ct:=N,bk:=D.nx} c h):=by
 show{λi m a H=>m=n-i/\i<=n/\Pv i a H,{n,by simp,lh _,h0},?_};rintro i m a H⟨rfl,hi,p⟩
 by_cases b:i<n
 ·show .inr {b,Pv (i+1),λd f k=>{n-(i+1),by lia,(),b,k},λx f y=>?_};obtain⟨e,y⟩:=y;subst e y;show l i a _ b p
 ·have e:i=n:=by lia
  subst e;show .inl {e_ _,hd a H p}
abbrev R2:=V->V->Hp->VK->Prop
def kU(X:Cx)(f:Value->Value->Sem Value)(r:R2):Prop:=∀(a:O1)(s:Shared)(b:St)(H:Hp)(x y:V)(v u:Value)(Q:VK),aN X a b H s->aX x v->aX y u->r x y H Q->wpAny (model X.prog X.w) X.A (f v u) (EP X a b Q) X.xe s
def M5(X:Cx)(f:Value->Sem Value)(r:V->Hp->VK->Prop):Prop:=∀(a:O1)(s:Shared)(b:St)(H:Hp)(x:V)(v:Value)(Q:VK),aN X a b H s->aX x v->r x H Q->wpAny (model X.prog X.w) X.A (f v) (EP X a b Q) X.xe s
def cP(X:Cx)(f:Value)(r:List V->Hp->VK->Prop):Prop:=∀(a:O1)(s:Shared)(b:St)(H:Hp)(c:List V)(d:O3)(Q:VK),aN X a b H s->aY c d->r c H Q->wpAny (model X.prog X.w) X.A (call f d) (EP X a b Q) X.xe s
def M6(X:Cx)(r:V->Hp->(Bool->Hp->Prop)->Prop):Prop:=∀(a:O1)(s:Shared)(b:St)(H:Hp)(x:V)(v:Value)(Q:Bool->Hp->Prop),aN X a b H s->aX x v->r x H Q->wpAny (model X.prog X.w) X.A (truthy v) (TP X a b Q) X.xe s
def Kw(r:R2)(c d:TE):TE:=λa H Q=>c a H λx b=>d a b λy e=>r x y e Q
def tUn(r:V->Hp->VK->Prop)(a:TE):TE:=λb H Q=>a b H λx c=>r x c Q
def rI(C:Int->Int->Prop)(g:Int->Int->V):R2:=λx y H Q=>∃i j,x=.int i/\y=.int j/\C i j/\Q (g i j) H
def Gr(g:Int->Int->V):R2:=λx y H Q=>∃i j,x=.int i/\y=.int j/\Q (g i j) H
def rU(g:Int->V):V->Hp->VK->Prop:=λx H Q=>∃i,x=.int i/\Q (g i) H
section
variable{X:Cx}{a b:Expr}{d l:TE}{e:Pos}
def Kf(p:PE X a d)(q:PE X b l){g:O1}{s:Shared}{i:St}{H:Hp}{R:V->V->Hp->Prop}(I:aN X g i H s)(h:d i H λx o=>l i o λy j=>R x y j){Q:O0}{f:Value->Value->Sem Value}(r:∀v u n x y j,aN X g i j n->aX x v->aX y u->R x y j->wpAny (model X.prog X.w) X.A (f v u) Q X.xe n):wpAny (model X.prog X.w) X.A (eval a X.env) (λv s₁=>wpAny (model X.prog X.w) X.A (eval b X.env) (λu m=>wpAny (model X.prog X.w) X.A (f v u) Q X.xe m) X.xe s₁) X.xe s:=by show cw (p g s i H _ I h) λv t k=>?_;obtain⟨x,o,I1,z,B⟩:=k;show cw (q g t i o _ I1 B) λu n k=>?_;obtain⟨y,j,C,r2,D⟩:=k;show r v u n x y j C z r2 D
def aA{g:Operator}{r:R2}(i:kU X (binaryOp g) r)(j:PE X a d)(m:PE X b l):PE X (.BinOp a g b e) (Kw r d l):=by intro f s k H Q I h;show wpAny_BinOp (Kf j m I h λv u n x y o p t w q=>i f n k o x y v u Q p t w q)
def Ls(i:M5 X (unaryOp j) r)(m:PE X a d):PE X (.UnaryOp j a e) (tUn r d):=by intro f s g H Q I h;show UnaryOp_ (cw (m f s g H _ I h) λv k n=>?_);obtain⟨x,o,I1,p,q⟩:=n;show i f k g o x v Q I1 p q
def Lx{f:Value->Value->Sem Value}{C:Int->Int->Prop}{g:Int->Int->Int}(rule:∀(i j:Int)(t u:Tok)(s:Shared)(Q:O0)(E:O0),C i j->Q (.int (g i j) s.toks) {s with toks:=s.toks+1}->wpAny (model X.prog X.w) X.A (f (.int i t) (.int j u)) Q E s):kU X f (rI C λi j=>.int (g i j)):=by intro k s p H x y v u Q I m n h;obtain⟨i,j,rfl,rfl,hc,q⟩:=h;obtain⟨t,rfl⟩:=m;obtain⟨o,rfl⟩:=n;show rule i j t o s _ _ hc {.int (g i j),H,I.tok _,{_,()},q}
def Ju{f:Value->Value->Sem Value}{g:Int->Int->Int}(rule:∀(i j:Int)(t u:Tok)(s:Shared)(Q:O0)(E:O0),Q (.int (g i j) s.toks) {s with toks:=s.toks+1}->wpAny (model X.prog X.w) X.A (f (.int i t) (.int j u)) Q E s):kU X f (Gr λi j=>.int (g i j)):=by intro k s p H x y v u Q I m n h;obtain⟨i,j,rfl,rfl,q⟩:=h;obtain⟨t,rfl⟩:=m;obtain⟨o,rfl⟩:=n;show rule i j t o s _ _ {.int (g i j),H,I.tok _,{_,()},q}
def GI{f:Value->Value->Sem Value}{g:Int->Int->Bool}(rule:∀(i j:Int)(t u:Tok)(s:Shared)(Q:O0)(E:O0),Q (.bool (g i j)) s->wpAny (model X.prog X.w) X.A (f (.int i t) (.int j u)) Q E s):kU X f (Gr λi j=>.bl (g i j)):=by intro k s p H x y v u Q I m n h;obtain⟨i,j,rfl,rfl,q⟩:=h;obtain⟨t,rfl⟩:=m;obtain⟨o,rfl⟩:=n;show rule i j t o s _ _ {.bl (g i j),H,I,(),q}
def fZ(i j:Int):Prop:=0<j/\j<1073741824
def Nf(i j:Int):Prop:=0<=j/\j<=1000000/\i.natAbs<2^64
def Ks(i j:Int):Prop:=(-(2^64)<i/\i<2^64)\/(-(2^64)<j/\j<2^64)
def Ks.ok(h:Ks i j):IntMulOk i j:=by
 rcases h with⟨h1,h2⟩|⟨h1,h2⟩
 ·show .of_left (intBits_le_64 h1 h2)
 ·show .of_right (intBits_le_64 h1 h2)
def two_pow_nn(k:Nat):(0:Int)<=2^k:=by rw[two_pow_cast];show Int.natCast_nonneg _
def bT:kU X (binaryOp .Add) (Gr λi j=>.int (i+j)):=Ju λ_ _ _ _ _ _ _ q=>add_int q
def gc:kU X (binaryOp .Sub) (Gr λi j=>.int (i-j)):=Ju λ_ _ _ _ _ _ _ q=>sub_int q
def g9:kU X (binaryOp .Mult) (rI Ks λi j=>.int (i*j)):=Lx λ_ _ _ _ _ _ _ hc q=>mul_int q hc.ok
def bu:kU X (binaryOp .FloorDiv) (rI fZ λi j=>.int (i/j)):=Lx λi j _ _ _ _ _ hc q=>by have h1:(0:Int)<j:=hc.1;have h2:j<1073741824:=hc.2;show floordiv_int (by lia) (by rw[NP i (by lia)];show q) (.inl (PyProof.noPylong_small (by lia)))
def aS:kU X (binaryOp .Mod) (rI (λ_ j=>0<j) λi j=>.int (i%j)):=Lx λi j _ _ _ _ _ hc q=>by have h1:(0:Int)<j:=hc;show mod_int' (by lia) (by rw[Int.fmod_eq_emod_of_nonneg i (by lia)];show q)
def Js:kU X (binaryOp .Pow) (rI Nf λi j=>.int (i^j.toNat)):=Lx λ_ _ _ _ _ _ _ hc q=>pow_int_small hc.1 hc.2.1 hc.2.2 q
def Jr:kU X (binaryOp .RShift) (rI (λ_ j=>0<=j) λi j=>.int (i/2^j.toNat)):=Lx λi j _ _ _ _ _ hc q=>rshift_int hc (by rw[NP i (two_pow_nn _)];show q)
def D6:kU X (binaryOp .BitAnd) (Gr λi j=>.int (Builtin.bitAnd i j)):=Ju λ_ _ _ _ _ _ _ q=>and_int q
def unI{f:Value->Sem Value}{g:Int->Int}(rule:∀(i:Int)(t:Tok)(s:Shared)(Q:O0)(E:O0),Q (.int (g i) s.toks) {s with toks:=s.toks+1}->wpAny (model X.prog X.w) X.A (f (.int i t)) Q E s):M5 X f (rU λi=>.int (g i)):=by intro j s m H x v Q I k h;obtain⟨i,rfl,q⟩:=h;obtain⟨t,rfl⟩:=k;show rule i t s _ _ {.int (g i),H,I.tok _,{_,()},q}
def Il:M5 X (unaryOp .USub) (rU λi=>.int (-i)):=unI λ_ _ _ _ _ q=>neg_int q
end
def gb:V->V->Bool|.non,.non=>true|.non,.int _=>true|.int _,.non=>true|.non,.bl _=>true|.bl _,.non=>true|.non,.str _=>true|.str _,.non=>true|.int _,.int _=>true|.bl _,.bl _=>true|.str _,.str _=>true|.byt _,.byt _=>true|.int _,.str _=>true|.str _,.int _=>true|.bl _,.str _=>true|.str _,.bl _=>true|_,_=>false
def rEq:R2:=λx y H Q=>gb x y=true/\Q (.bl (decide (x=y))) H
def rNe:R2:=λx y H Q=>gb x y=true/\Q (.bl (!decide (x=y))) H
def Bu:decide (V.int i=V.int j)=(i==j):=by rw[Oq];simp
def E9:decide (V.bl i=V.bl j)=(i==j):=by rw[Oq];simp
def Bt:decide (V.str i=V.str j)=(i==j):=by rw[Oq];simp
def Bv:decide (V.byt i=V.byt j)=(i.toList==j.toList):=by rw[Oq];cases i;cases j;simp
section
variable{X:Cx}{a b c:Expr}{f g tc:TE}{l:Pos}
def bJ(I:aN X d h H s)(q:Q (.bl k) H)(e:k=i):EP X d h Q (.bool i) s:=by subst e;show{.bl k,H,I,(),q}
def aW:kU X (compareOp .Eq) rEq:=by intro n s o H x y v u Q I m d h;obtain⟨k,q⟩:=h;cases x with
 |non=>cases m;cases y with|non=>cases d;show PySem.EqNone.eq_none_none (bJ I q (by simp))|bl j=>cases d;show PySem.EqNone.eq_none_bool (bJ I q (by simp))|int j=>obtain⟨e,rfl⟩:=d;show PySem.EqNone.eq_none_int (bJ I q (by simp))|str j=>obtain⟨e,rfl⟩:=d;show PySem.EqNone.eq_none_str (bJ I q (by simp))|_=>show absurd (show false=true from k) ji
 |bl i=>cases m;cases y with|non=>cases d;show PySem.EqNone.eq_bool_none (bJ I q (by simp))|bl j=>cases d;show eq_bool (bJ I q E9)|str j=>obtain⟨e,rfl⟩:=d;show PySem.EqMixed.eq_bool_str (bJ I q (by simp))|_=>show absurd (show false=true from k) ji
 |int i=>obtain⟨t,rfl⟩:=m;cases y with|non=>cases d;show PySem.EqNone.eq_int_none (bJ I q (by simp))|int j=>obtain⟨e,rfl⟩:=d;show eq_int (bJ I q Bu)|str j=>obtain⟨e,rfl⟩:=d;show PySem.EqMixed.eq_int_str (bJ I q (by simp))|_=>show absurd (show false=true from k) ji
 |str i=>obtain⟨t,rfl⟩:=m;cases y with|non=>cases d;show PySem.EqNone.eq_str_none (bJ I q (by simp))|bl j=>cases d;show PySem.EqMixed.eq_str_bool (bJ I q (by simp))|int j=>obtain⟨e,rfl⟩:=d;show PySem.EqMixed.eq_str_int (bJ I q (by simp))|str j=>obtain⟨e,rfl⟩:=d;show eq_str (bJ I q Bt)|_=>show absurd (show false=true from k) ji
 |byt i=>obtain⟨t,rfl⟩:=m;cases y with|byt j=>obtain⟨e,rfl⟩:=d;show PySem.W.eq_bytes (bJ I q Bv)|_=>show absurd (show false=true from k) ji
 |_=>cases y<;>show absurd (show false=true from k) ji
def HM:kU X (compareOp .NotEq) rNe:=by intro n s o H x y v u Q I m d h;obtain⟨k,q⟩:=h;cases x with
 |non=>cases m;cases y with|non=>cases d;show PySem.EqNone.ne_none_none (bJ I q (by simp))|bl j=>cases d;show PySem.EqNone.ne_none_bool (bJ I q (by simp))|int j=>obtain⟨e,rfl⟩:=d;show PySem.EqNone.ne_none_int (bJ I q (by simp))|str j=>obtain⟨e,rfl⟩:=d;show PySem.EqNone.ne_none_str (bJ I q (by simp))|_=>show absurd (show false=true from k) ji
 |bl i=>cases m;cases y with|non=>cases d;show PySem.EqNone.ne_bool_none (bJ I q (by simp))|bl j=>cases d;show ne_bool (bJ I q (p_ not E9))|str j=>obtain⟨e,rfl⟩:=d;show PySem.EqMixed.ne_bool_str (bJ I q (by simp))|_=>show absurd (show false=true from k) ji
 |int i=>obtain⟨t,rfl⟩:=m;cases y with|non=>cases d;show PySem.EqNone.ne_int_none (bJ I q (by simp))|int j=>obtain⟨e,rfl⟩:=d;show ne_int (bJ I q (p_ not Bu))|str j=>obtain⟨e,rfl⟩:=d;show PySem.EqMixed.ne_int_str (bJ I q (by simp))|_=>show absurd (show false=true from k) ji
 |str i=>obtain⟨t,rfl⟩:=m;cases y with|non=>cases d;show PySem.EqNone.ne_str_none (bJ I q (by simp))|bl j=>cases d;show PySem.EqMixed.ne_str_bool (bJ I q (by simp))|int j=>obtain⟨e,rfl⟩:=d;show PySem.EqMixed.ne_str_int (bJ I q (by simp))|str j=>obtain⟨e,rfl⟩:=d;show ne_str (bJ I q (p_ not Bt))|_=>show absurd (show false=true from k) ji
 |byt i=>obtain⟨t,rfl⟩:=m;cases y with|byt j=>obtain⟨e,rfl⟩:=d;show PySem.W.ne_bytes (bJ I q (p_ not Bv))|_=>show absurd (show false=true from k) ji
 |_=>cases y<;>show absurd (show false=true from k) ji
def yH:kU X (compareOp .Lt) (Gr λi j=>.bl (decide (i<j))):=GI λ_ _ _ _ _ _ _ q=>lt_int q
def jI:kU X (compareOp .LtE) (Gr λi j=>.bl (decide (i<=j))):=GI λ_ _ _ _ _ _ _ q=>le_int q
def mh:kU X (compareOp .Gt) (Gr λi j=>.bl (decide (j<i))):=GI λ_ _ _ _ _ _ _ q=>gt_int q
def HN:kU X (compareOp .GtE) (Gr λi j=>.bl (decide (j<=i))):=GI λ_ _ _ _ _ _ _ q=>ge_int q
def Ce:kU X (compareOp .In) (λx y H Q=>∃i j,x=.str i/\y=.str j/\Q (.bl (!(Builtin.Str.occurrences j i 0 j.length 1).isEmpty)) H):=by intro d s m H x y v u Q I e k h;obtain⟨i,j,rfl,rfl,q⟩:=h;obtain⟨t,rfl⟩:=e;obtain⟨n,rfl⟩:=k;show in_str (bJ I q ())
def D5:kU X (compareOp .Is) (λx y H Q=>y=.non/\Q (.bl (decide (x=.non))) H):=by intro d s j H x y v u Q I e i h;obtain⟨rfl,q⟩:=h;cases i;show is_none_gen (bJ I q ?_);cases x<;>first|(cases e;rfl)|(obtain⟨t,rfl⟩:=e;rfl)
def Bb:kU X (compareOp .IsNot) (λx y H Q=>y=.non/\Q (.bl (!decide (x=.non))) H):=by intro d s j H x y v u Q I e i h;obtain⟨rfl,q⟩:=h;cases i;show isnot_none_gen (bJ I q ?_);cases x<;>first|(cases e;rfl)|(obtain⟨t,rfl⟩:=e;rfl)
def aE(b:Expr)(h:d≠.In:=by decide)(h2:d≠.NotIn:=by decide):behindInMarks d b=false:=by
 have e:(d==CmpOp.In)=false:=by cases d<;>first|rfl|show absurd () h
 have i:(d==CmpOp.NotIn)=false:=by cases d<;>first|rfl|show absurd () h2
 cases b<;>simp[behindInMarks,e,i]
def bL(i:kU X (compareOp e) r)(j:PE X a f)(m:PE X b g)(hm:behindInMarks e b=false):PE X (.Compare a [e] [b] l) (Kw r f g):=by intro d s k H Q I h;show wpAny_Compare1 (Kf j m I h λv u n x y o p t w q=>i d n k o x y v u Q p t w q) hm
def HI(t:TE):TT:=λd H Q=>t d H λx e=>∃k,x=.bl k/\Q k e
def aC(m:kU X (compareOp j) r)(n:PE X a f)(o:PE X b g)(hm:behindInMarks j b=false):PT X (.Compare a [j] [b] l) (HI (Kw r f g)):=by
 intro d s i H Q I h;show wpAny_isTrue_Compare1 (cw (n d s i H _ I h) λv p⟨x,q,I1,t,w⟩=>cw (o d p i q _ I1 w) λu A⟨y,B,C,r2,D⟩=>cw (m d A i B x y v u _ C t r2 D) λc J⟨z,E,F,r3,k,e,G⟩=>?_) hm
 subst e;cases r3;show rm (E,F,G,)
def De(r h:R2)(f g tc:TE):TE:=λd H Q=>f d H λx i=>g d i λy j=>r x y j λz e=>∃k,z=.bl k/\(if k=true then tc d e λm n=>h y m n Q else Q (.bl false) e)
def ug(w:kU X (compareOp o) r)(n:kU X (compareOp j) A)(B:PE X a f)(C:PE X b g)(hc:PE X c tc)(hm:lastMarks [o,j] [b,c]=false:=by with_unfolding_all rfl):PE X (.Compare a [o,j] [b,c] l) (De r A f g tc):=by
 intro i s m H Q I h;show Compare_chain (cw (B i s m H _ I h) λv D⟨x,E,I1,F,G⟩=>chain_link (cw (C i D m E _ I1 G) λu J⟨y,K,L,r2,M⟩=>cw (w i J m K x y v u _ L F r2 M) λd N⟨z,p,q,r3,k,e,t⟩=>?_)) hm
 subst e;cases r3;show rm ?_;cases k with|false=>show ite_ff {.bl false,p,q,(),t}|true=>show ite_tt (chain_last (cw (hc i N m p _ q t) λO P⟨R,S,T,U,V⟩=>n i P m S y R u O Q T r2 U V))
def yD(A:kU X (compareOp p) r)(n:kU X (compareOp j) B)(C:PE X a f)(D:PE X b g)(hc:PE X c tc)(hm:lastMarks [p,j] [b,c]=false:=by with_unfolding_all rfl):PT X (.Compare a [p,j] [b,c] l) (HI (De r B f g tc)):=by
 intro i s m H Q I h;show isTrue_chain (cw (C i s m H _ I h) λv E⟨x,F,I1,G,J⟩=>test_link (cw (D i E m F _ I1 J) λu K⟨y,L,M,r2,N⟩=>cw (A i K m L x y v u _ M G r2 N) λd O⟨z,q,t,r3,k,e,w⟩=>?_)) hm
 subst e;cases r3;show rm ?_;cases k with|false=>obtain⟨k',P,R⟩:=w;cases P;show ite_ff (q,t,R,)|true=>show ite_tt (test_last (cw (hc i O m q _ t w) λS T o=>?_));obtain⟨U,V,W,Y,Z⟩:=o;show cw (n i T m V y U u S _ W r2 Y Z) λd' s5 o=>?_;obtain⟨z2,H5,I5,r5,k2,e2,q5⟩:=o;subst e2;cases r5;show rm (H5,I5,q5,)
def Kj(K:OZ)(x:V)(H:Hp)(k:Bool):Prop:=match x with|.non=>k=false|.bl b=>k=b|.int i=>k=(i !=0)|.str y=>y.length<=sizeLine/\k=((y.length:Int)!=0)|.byt y=>y.size<=sizeLine/\k=((y.size:Int)!=0)|.ref p=>(∃d,aR K H p d/\k=!d.isEmpty)\/(∃d,a0 K H p d/\k=!d.isEmpty)\/∃e,H p=some (.dK e)/\k=!e.isEmpty|_=>False
def As(r:KV d e):(!e.isEmpty)=!d.isEmpty:=by cases r<;>rfl
def uC(r:aY e d):(!d.toArray.isEmpty)=!e.isEmpty:=by cases r<;>simp
def qo:(sizeLine:Nat)<2^63:=by rw[ig];decide
def Io:M6 X (λx H Q=>∃k,Kj X.K x H k/\Q k H):=by intro C s G H x v Q I u h;obtain⟨k,e,q⟩:=h;have J:=qo;have L:sizeLine=16777216:=ig;cases x with|non=>cases u;have d:k=false:=e;subst d;show truthy_none (H,I,q,)|bl b=>cases u;have d:k=b:=e;subst d;show rm (H,I,q,)|int i=>obtain⟨t,rfl⟩:=u;have d:k=(i !=0):=e;subst d;show PySem.P.truthy_int (H,I,q,)|str y=>obtain⟨t,rfl⟩:=u;obtain⟨E,d⟩:y.length<=sizeLine/\k=((y.length:Int)!=0):=e;subst d;show PySem.P.truthy_str (by lia) {H,I.tok _,q}|byt y=>obtain⟨t,rfl⟩:=u;obtain⟨E,d⟩:y.size<=sizeLine/\k=((y.size:Int)!=0):=e;subst d;show PySem.W.truthy_bytes (by lia) {H,I.tok _,q}|ref p=>
  cases u;have d:(∃o,aR X.K H p o/\k=!o.isEmpty)\/(∃o,a0 X.K H p o/\k=!o.isEmpty)\/∃j,H p=some (.dK j)/\k=!j.isEmpty:=e;rcases d with⟨o,z,d⟩|⟨o,z,d⟩|⟨j,z,d⟩
  ·subst d;obtain⟨B,r,pl,D⟩:=I.list z;have n:=r.length;show wpAny_truthy_list pl.isList (by simp only[il];lia) {H,I.tok _,by rw[uC r];show q}
  ·subst d;obtain⟨B,r,pl,D⟩:=I.tuple z;have n:=r.length;show truthy_tuple pl (by simp only[il];lia) {H,I.tok _,by rw[uC r];show q}
  ·subst d;obtain⟨D,F,A,r,m⟩:j.length<=sizeLine/\(p==sysModules)=false/\∃A,KV j A/\s.heap.DictOf (aU X.prog X.w) p A:=I.hok p _ z;have n:j.length=A.length:=Paired.length r;show wpAny_truthy_dict F m (by lia) {H,I.tok _,by rw[As r];show q}|_=>show(show False from e).elim
def DX(m:PE X a f)(n:∀d,isTrue a X.env d=(do let v<-d;standAt a.pos;holding [v] (truthy v))):PT X a (λi H Q=>f i H λx j=>∃k,Kj X.K x j k/\Q k j):=by intro e s i H Q I h;show isTrue_plain (cw (m e s i H _ I h) λv o⟨x,p,I1,q,r⟩=>Io e o i p x v Q I1 q r) (n _)
def jg:kU X (binaryOp .Add) (λx y H Q=>∃i j,x=.str i/\y=.str j/\i.length+j.length<=sizeLine/\Q (.str (i++j)) H):=by intro d s o H x y v u Q I e k h;obtain⟨i,j,rfl,rfl,m,q⟩:=h;obtain⟨t,rfl⟩:=e;obtain⟨n,rfl⟩:=k;show add_str (λn tk=>{.str (i++j),H,I.tok _,{_,()},q}) m
def ka(r:aY [x] d):∃u,d=[u]/\aX x u:=by cases r with|cons e r2=>cases r2;show{_,(),e}
def oB(r:aY [x,y] e):∃u d,e=[u,d]/\aX x u/\aX y d:=by cases r with|cons h r2=>cases r2 with|cons r3 i=>cases i;show{_,_,(),h,r3}
def CI(hc:X.calm=true):cP X (.builtin "max") (λe H Q=>∃i j,e=[.int i,.int j]/\Q (.int (if j>i then j else i)) H):=by
 intro m s n H e o Q I r h;obtain⟨i,j,rfl,q⟩:=h;obtain⟨u,p,rfl,⟨t,rfl⟩,⟨v,rfl⟩⟩:=oB r;show max_two_ints (I.ok.hd hc) λh' tk k=>{_,H,I.kept k,?_,q}
 by_cases d:j>i
 ·rw[hY d,hY d];show{_,()}
 ·rw[h_ d,h_ d];show{_,()}
def qK(hc:X.calm=true):cP X (.builtin "min") (λe H Q=>∃i j,e=[.int i,.int j]/\Q (.int (if j<i then j else i)) H):=by
 intro m s n H e o Q I r h;obtain⟨i,j,rfl,q⟩:=h;obtain⟨u,p,rfl,⟨t,rfl⟩,⟨v,rfl⟩⟩:=oB r;show min_two_ints (I.ok.hd hc) λh' tk k=>{_,H,I.kept k,?_,q}
 by_cases d:j<i
 ·rw[hY d,hY d];show{_,()}
 ·rw[h_ d,h_ d];show{_,()}
def Mg(K:OZ)(x:V)(H:Hp)(n:Nat):Prop:=match x with|.str y=>y.length<=sizeLine/\n=y.length|.byt y=>y.size<=sizeLine/\n=y.size|.ref p=>(∃d,aR K H p d/\n=d.length)\/∃d,a0 K H p d/\n=d.length|_=>False
def Fl:cP X (.builtin "len") (λd H Q=>∃x n,d=[x]/\Mg X.K x H n/\Q (.int n) H):=by
 intro w s B H d C Q I r h;obtain⟨x,n,rfl,e,q⟩:=h;obtain⟨u,rfl,k⟩:=ka r;have D:=qo;have E:sizeLine=16777216:=ig;cases x with|str y=>obtain⟨t,rfl⟩:=k;obtain⟨z,j⟩:y.length<=sizeLine/\n=y.length:=e;subst j;show len_str (by lia) {.int _,H,I.tok _,{_,()},q}|byt y=>obtain⟨t,rfl⟩:=k;obtain⟨z,j⟩:y.size<=sizeLine/\n=y.size:=e;subst j;show PySem.W.len_bytes (by lia) {.int _,H,I.tok _,{_,()},q}|ref p=>
  cases k;have j:(∃d,aR X.K H p d/\n=d.length)\/∃d,a0 X.K H p d/\n=d.length:=e;rcases j with⟨d,m,j⟩|⟨d,m,j⟩
  ·subst j;obtain⟨o,v,pl,A⟩:=I.list m;have i:=v.length;show Calls.call_len_list pl.isList (by simp only[il];lia) {.int d.length,H,I.tok _,{_,by simp only[il];rw[i]},q}
  ·subst j;obtain⟨o,v,pl,A⟩:=I.tuple m;have i:=v.length;show len_tuple pl (by simp only[il];lia) {.int d.length,H,I.tok _,{_,by simp only[il];rw[i]},q}|_=>show(show False from e).elim
def zw:cP X (.builtin "divmod") (λd H Q=>∃i j,d=[.int i,.int j]/\fZ i j/\∀p,H p=none->Q (.ref p) (aG H p (.tup [.int (i/j),.int (i%j)]))):=by intro k s m H d n Q I r h;obtain⟨i,j,rfl,⟨h1,h2⟩,q⟩:=h;obtain⟨u,v,rfl,⟨t,rfl⟩,⟨w,rfl⟩⟩:=oB r;show divmod_int (by lia) ?_ (.inl (PyProof.noPylong_small (by lia)));rw[NP i (by lia),Int.fmod_eq_emod_of_nonneg i (by lia)];have hn:H s.heap.objs.size=none:=I.hok.fresh (e_ _);show{.ref s.heap.objs.size,_,?_,(),q _ hn};show I.laid (λb o e=>c_ _ e) (e_ _) {by simp only[m_,OW];rw[ig];decide,[.int (i/j) s.toks,.int (i%j) (s.toks+1)],.cons {_,()} (.cons {_,()} .nil),?_};show{_,g_ s.heap (),(),0,()}
end
structure AK(h:Heap)(x dx C:Addr)(mA:O2):Prop where
 obj:h.get? x=some (PySem.W.instObj C dx)ns:h.Ns1 dx mA
 ne:dx≠x
def Co{h:Heap}{dx:Addr}{d:O2}(n:h.Ns1 dx d):∃f,h.get? dx=some f/\∀c,PySem.W.lookIn c f=some (d c):=by
 obtain⟨o,g,m,i,hd,j,_,hm⟩:=n;show{o,i,λc=>?_};have e:=hm c;unfold nsFind findBy at e;rw[<-Array.find?_toList]at e;unfold PySem.W.lookIn;rw[hd];dsimp only
 split
 ·rename_i y q;rw[q]at e;show p_ some e
 ·rename_i q;rw[q]at e;have a:g.toList.any (·.refKey)=false:=by rw[OH];intro y k;obtain⟨z,t,b⟩:=j y (Array.mem_toList_iff.mp k);simp[DictEntry.refKey,b]
  have l:¬g.toList.any (·.refKey)=true:=by rw[a];show ji
  rw[h_ l];show p_ some e
def AK.look(I:AK h x dx C d):∃c,PySem.W.InstAt h x (PySem.W.instObj C dx) C (some c)/\∀a,PySem.W.lookIn a c=some (d a):=let⟨c,b,e⟩:=Co I.ns
 {c,{I.obj,(),(),b},e}
section
variable{prog:O4}{w:World}{A:Around}{E:O0}{s:Shared}{K:OZ}{x dx C f:Addr}{e:O2}{c:Str}{v:Value}
def Hd(X:K.In s.heap)(I:AK s.heap x dx C e)(hg:PySem.W.plainGet K C c=true)(hh:PySem.W.hasDictIn K C=true)(g:PySem.W.findIn K (.ref C) c=some none)(i:e c=some v)(a:PySem.W.handedIn v=true)(h:Q v {s with toks:=s.toks+1}):wpAny (model prog w) A (getAttr (.ref x) c d) Q E s:=by obtain⟨j,J,b⟩:=I.look;show PySem.W.get_value X J (PySem.W.plainGet_of hg).1 (PySem.W.findObj_own hh g () (by rw[b,i])) a h
def EW(X:K.In s.heap)(I:AK s.heap x dx C e)(hg:PySem.W.plainGet K C c=true)(a:PySem.W.findIn K (.ref C) c=some (some (.ref f)))(d:PySem.W.isFn K (.ref f)=true)(g:e c=none)(h:Q (.ref f,[.ref x]) s):wpAny (model prog w) A (getMethod (.ref x) c pl) Q E s:=by obtain⟨b,J,i⟩:=I.look;show PySem.W.method_fn X J (PySem.W.plainGet_of hg).1 (PySem.W.plainGet_of hg).2 a (beq_iff_eq.mp d) (by change(PySem.W.lookIn c b).map (·.isSome)=some false;rw[i,g];rfl) h
def iB(X:K.In s.heap)(I:AK s.heap x dx C e)(m:PySem.W.findIn K (.ref C) "__setattr__"=some (some (.builtin "object.__setattr__")))(n:PySem.W.plainOver K C=true)(o:PySem.W.takerIn K C c=some none)(hh:PySem.W.hasDictIn K C=true)(p:PySem.Within e ns)(q:ns.length<=sizeLine)(h:∀h',AK h' x dx C (λy=>if y=c then some v else e y)->Heap.SameBut dx s.heap h'->Q Unit.unit {s with heap:=h',toks:=s.toks+2}):wpAny (model prog w) A (setAttr (.ref x) c v) Q E s:=by obtain⟨B,J,D⟩:=I.look;show PySem.W.set_plain X J m (PySem.W.osa_open (s:={s with toks:=s.toks+1}) (r:=none) X J n o λb=>?_);obtain⟨cd,hc,i⟩:=PySem.W.any_some hh;have t:s.heap.get? x=some {.ref C,some dx,.plain,#[]}:=I.obj;show a_ (f_ (a_ (a_ (wpAny_loadPart t (a_ (PySem.W.Looks.here (s:={s with toks:=s.toks+1}) (PySem.W.looks_clsIn X hc) ?_))))));rw[i];show f_ (a:=some dx) (a_ (f_ (a_ ?_)));show wpAny_nsSet1 (s:={s with toks:=s.toks+1}) I.ns λh' d g=>?_;obtain⟨F,u,z,j,k,l⟩:=d.count (PySem.Within.cons c v p);show a_ (wpAny_lookBehind j (by rw[k];show pastItsLine_dict (kl l (by rw[m_];lia))) ?_);show f_ (h _ {(g.2 _ (oi I.ne)).trans I.obj,d,I.ne} g)
def Et(X:K.In s.heap)(hm:PySem.W.makesIn K C=true)(hi:PySem.W.findIn K (.ref C) "__init__"=some (some (.ref f)))(j:PySem.W.typeIn K (.ref f)=some (.type "function"))(h:codeAny (model prog w) (A.under (.builtin "type.__call__" {.ref C::a,i})) (.call (.ref f) {.ref (s.heap.objs.size+1)::a,i}) (PySem.W.InitBack (s.heap.objs.size+1) R) {s with heap:=(s.heap.push PySem.W.emptyDict).push (PySem.W.instObj C s.heap.objs.size)}):codeAny (model prog w) A (.call (.ref C) (a,i,)) R s:=by obtain⟨hh,g,d,t,os⟩:=s;show PySem.W.make_core (PySem.W.makes_of X hm) (PySem.W.looks_findIn X hi) (λself=>PySem.W.bind_fn X self j) (.inl ()) h
end
def gF(f:Str)(v:V):List (Str×V)->List (Str×V)|[]=>[(f,v)]|(g,x)::r=>if g=f then(g,v)::r else(g,x)::gF f v r
theorem rj(f g:Str)(v:V):∀fs:List (Str×V),(gF f v fs).lookup g=if g=f then some v else fs.lookup g
 |[]=>by
  change List.lookup g [(f,v)]=_
  by_cases h:g=f
  ·have a:(g==f)=true:=beq_iff_eq.mpr h;simp only[List.lookup,a,hY h]
  ·have a:(g==f)=false:=z_.mpr h;simp only[List.lookup,a,h_ h]|(k,x)::r=>by
  have c:=rj f g v r;rw[show gF f v ((k,x)::r)=(if k=f then(k,v)::r else(k,x)::gF f v r)from ()]
  by_cases b:k=f
  ·rw[hY b]
   by_cases h:g=k
   ·have a:(g==k)=true:=beq_iff_eq.mpr h;simp only[List.lookup,a,hY (h.trans b)]
   ·have a:(g==k)=false:=z_.mpr h;simp only[List.lookup,a,h_ (λe:g=f=>h (e.trans b.symm))]
  ·rw[h_ b]
   by_cases h:g=k
   ·have a:(g==k)=true:=beq_iff_eq.mpr h;simp only[List.lookup,a,h_ (λe:g=f=>b (h.symm.trans e))]
   ·have a:(g==k)=false:=z_.mpr h;simp only[List.lookup,a];show c
theorem qA(f:Str)(v:V):∀fs:List (Str×V),f∈(gF f v fs).map (·.1)/\∀g,g∈fs.map (·.1)->g∈(gF f v fs).map (·.1)
 |[]=>{by simp[gF],λg h=>by simp at h}|(k,x)::r=>by
  obtain⟨b,c⟩:=qA f v r;rw[show gF f v ((k,x)::r)=(if k=f then(k,v)::r else(k,x)::gF f v r)from ()]
  by_cases a:k=f
  ·rw[hY a];subst a;show{by simp,λg h=>by simpa using h}
  ·rw[h_ a];show{?_,λg h=>?_}
   ·rw[m3];show j_ _ b
   ·rw[m3]at h⊢;rcases s_.mp h with e|e
    ·show s_.mpr (.inl e)
    ·show j_ _ (c g e)
theorem rn(f:Str)(v:V):∀fs:List (Str×V),(gF f v fs).length<=fs.length+1
 |[]=>by simp[gF]|(k,x)::r=>by
  have b:=rn f v r;rw[show gF f v ((k,x)::r)=(if k=f then(k,v)::r else(k,x)::gF f v r)from ()]
  by_cases a:k=f
  ·rw[hY a,m_,m_];lia
  ·rw[h_ a,m_,m_];lia
def kS.some_of(r:kS (some v) o):∃u,o=some u/\aX v u:=by cases o with|none=>show(show False from r).elim|some u=>show{u,(),r}
def kS.none_of(r:kS none o):o=none:=by cases o with|none=>rfl|some u=>show(show False from r).elim
def Cy(r:aX v u):PySem.W.handedIn u=true:=by cases v with|non=>cases(show u=Value.none from r);rfl|bl b=>cases(show u=Value.bool b from r);rfl|int i=>obtain⟨t,e⟩:=(show∃t,u=Value.int i t from r);cases e;rfl|str x=>obtain⟨t,e⟩:=(show∃t,u=Value.str x t from r);cases e;rfl|byt b=>obtain⟨t,e⟩:=(show∃t,u=Value.bytes b t from r);cases e;rfl|flt b=>obtain⟨t,e⟩:=(show∃t,u=Value.float b t from r);cases e;rfl|ref a=>cases(show u=Value.ref a from r);rfl|ty n=>cases(show u=Value.type n from r);rfl
section
variable{P:O4}{w:World}{H:Hp}{h:Heap}{a C dx:Addr}{fs:List (Str×V)}
def sM(hok:lO P w H h)(e:H a=some (.ins C dx fs)):∃i,AK h a dx C i/\(∀f,kS (fs.lookup f) (i f))/\PySem.Within i (fs.map (·.1))/\fs.length<=1000/\H dx=some (.own a):=by obtain⟨d,z,ne,ob,i,n,r,q⟩:=(show c6 P w H h a (.ins C dx fs)from hok a _ e);show{i,(ob,n,ne,),r,q,z,d}
end
structure x4(K:OZ)(C:Addr):Prop where
 pg:PySem.W.plainGet K C Str.empty=true
 hd:PySem.W.hasDictIn K C=true
 po:PySem.W.plainOver K C=true
 sa:PySem.W.findIn K (.ref C) "__setattr__"=some (some (.builtin "object.__setattr__"))
def x4.get{K:OZ}{C:Addr}(c:x4 K C)(f:Str):PySem.W.plainGet K C f=true:=c.pg
def bX(K:OZ)(C:Addr)(f:Str):Prop:=PySem.W.findIn K (.ref C) f=some none
def bX.taker{K:OZ}{C:Addr}{f:Str}(n:bX K C f):PySem.W.takerIn K C f=some none:=by unfold PySem.W.takerIn;rw[show PySem.W.findIn K (.ref C) f=some none from n];rfl
structure FE(K:OZ)(C:Addr)(m:Str)(f:Addr):Prop where
 at_:PySem.W.findIn K (.ref C) m=some (some (.ref f))fn:PySem.W.isFn K (.ref f)=true
 kp:PySem.W.keepIn K (.ref f)=true
section
variable{X:Cx}{d:O1}{i:St}{H:Hp}{s:Shared}{a C dx:Addr}{fs:List (Str×V)}{f:Str}{v:V}{A:Around}{E:O0}
def Aw(I:aN X d i H s)(e:H a=some (.ins C dx fs))(c:x4 X.K C)(n:bX X.K C f)(l:fs.lookup f=some v)(h:∀u g,aN X d i H g->aX v u->Q u g):wpAny (model X.prog X.w) A (getAttr (.ref a) f b) Q E s:=by obtain⟨j,O,r,_,_,_⟩:=sM I.hok e;obtain⟨u,k,ru⟩:=kS.some_of (v:=v) (o:=j f) (by rw[<-l];show r f);show Hd I.kIn O (c.get f) c.hd n k (Cy ru) (h u _ (I.tok _) ru)
def on(I:aN X d i H s)(e:H a=some (.ins C dx fs))(c:x4 X.K C)(k:FE X.K C m g)(l:fs.lookup m=none)(h:Q (.ref g,[.ref a]) s):wpAny (model X.prog X.w) A (getMethod (.ref a) m pl) Q E s:=by obtain⟨b,O,r,_,_,_⟩:=sM I.hok e;have hn:b m=none:=kS.none_of (by rw[<-l];show r m);show EW I.kIn O (c.get m) k.at_ k.fn hn h
def zM(I:aN X d i H s)(e:H a=some (.ins C dx fs))(c:x4 X.K C)(n:bX X.K C f)(J:fs.length<1000)(t:aX y u)(h:∀l,aN X d i (aG H a (.ins C dx (gF f y fs))) l->Q Unit.unit l):wpAny (model X.prog X.w) A (setAttr (.ref a) f u) Q E s:=by
 obtain⟨k,O,r,m,_,p⟩:=sM I.hok e;have B:(fs.map (·.1)).length<=sizeLine:=by rw[b_,ig];lia
 show iB I.kIn O c.sa c.po n.taker c.hd m B λh' j D=>h _ ?_;have hd:∃o,h'.get? dx=some o:=let⟨o,_,_,F,_⟩:=j.ns;(o,F,);show I.write (x:=a) (e:=dx) (by rw[e];show True.intro) (.inr p) (λb q G z=>(D.2 b G).trans z) hd ?_;show{by rw[ak O.ne];show p,?_,O.ne,j.obj,_,j.ns,λg=>?_,λg hg=>?_}
 ·have:=rn f y fs;lia
 ·change kS ((gF f y fs).lookup g) (if g=f then some u else k g);rw[rj]
  by_cases q:g=f
  ·rw[hY q,hY q];show t
  ·rw[h_ q,h_ q];show r g
 ·by_cases q:g=f
  ·rw[q];show(qA f y fs).1
  ·show(qA f y fs).2 g (m g λz=>hg ?_);change(if g=f then some u else k g)=none;rw[h_ q];show z
def aN.made(I:aN X d i H s):aN X d i (aG (aG H s.heap.objs.size (.own (s.heap.objs.size+1))) (s.heap.objs.size+1) (.ins C s.heap.objs.size [])) {s with heap:=(s.heap.push PySem.W.emptyDict).push (PySem.W.instObj C s.heap.objs.size)}:=by
 have c:(s.heap.push PySem.W.emptyDict).get? s.heap.objs.size=some PySem.W.emptyDict:=g_ s.heap ();have g:((s.heap.push PySem.W.emptyDict).push (PySem.W.instObj C s.heap.objs.size)).get? (s.heap.objs.size+1)=some (PySem.W.instObj C s.heap.objs.size):=by
  have:=g_ (s.heap.push PySem.W.emptyDict) (o:=PySem.W.instObj C s.heap.objs.size) ()
  rwa[o0]at this
 have h:(s.heap.push PySem.W.emptyDict).Ns s.heap.objs.size (λ_=>none):={PySem.W.emptyDict,#[],_,c,(),(λe j=>absurd j (by simp)),λ_=>()};have I1:=I.laid (a:=s.heap.objs.size) (o:=.own (s.heap.objs.size+1)) (h':=s.heap.push PySem.W.emptyDict) (t':=s.toks) (λb u q=>c_ _ q) (e_ _) {_,c};show I1.laid (a:=s.heap.objs.size+1) (o:=.ins C s.heap.objs.size []) (t':=s.toks) (λb u q=>c_ _ q) (Og (o0 _ _)) ?_;have ne:s.heap.objs.size≠s.heap.objs.size+1:=ku (t4 _);show{by rw[ak ne,ae],lh _,ne,g,λ_=>none,(Heap.Ns1.of_empty h).at λo q=>c_ _ q,λ_=>True.intro,λy l=>absurd () l}
def Ht(c:attributeBase e f env (eval e env)=eval e env)(h:wpAny (model prog w) A (eval e env) (λo s₁=>wpAny (model prog w) A (getAttr o f true) Q E s₁) E s):wpAny (model prog w) A (eval (.Attribute e f g) env) Q E s:=Attribute_any_ h (by rw[arm_eval_Attribute,c])
end
def K0(K:OZ)(c:TE)(f:Str):TE:=λd H Q=>c d H λx b=>∃a C dx fs v,x=.ref a/\b a=some (.ins C dx fs)/\x4 K C/\bX K C f/\fs.lookup f=some v/\Q v b
def Li(K:OZ)(d e:TE)(f:Str):TS:=λD b H=>e b H λy g=>d b g λx c=>∃a C dx fs,x=.ref a/\c a=some (.ins C dx fs)/\x4 K C/\bX K C f/\fs.length<1000/\D.nx b (aG c a (.ins C dx (gF f y fs)))
section
variable{X:Cx}{o e d:Expr}{f:Str}{i g:Pos}{j p:TE}
def Jo(r:PE X e j)(t:attributeBase e f X.env (eval e X.env)=eval e X.env):PE X (.Attribute e f i) (K0 X.K j f):=by intro b s k H Q I h;show Ht t (cw (r b s k H _ I h) λu D w=>?_);obtain⟨x,y,I1,z,a,C,dx,fs,v,ex,A,c,n,l,q⟩:=w;subst ex;obtain rfl:u=Value.ref a:=z;show Aw I1 A c n l λE F B ru=>(v,y,B,ru,q,)
def Jh(r:PE X o j)(t:PE X d p)(v:swapsWith d (some (.Attribute o f g)) i.line X.env=pure false):PS X (.Assign [.Attribute o f g] d i) (Li X.K j p f):=by intro b s k H D I h;show plainObj_wpAny_Assign_Attribute (cw (t b s k H _ I h) λu w⟨y,z,I1,A,q⟩=>cw (r b w k z _ I1 q) λB M⟨x,N,E,F,a,C,dx,fs,ex,G,c,n,l,J⟩=>?_) v;subst ex;obtain rfl:B=Value.ref a:=F;show zM E G c n l A λO L=>{k,_,L,J}
end
section
variable{X:Cx}{d:O1}{f:St}{H:Hp}{s:Shared}{A:Around}{E:O0}{Q:O0}{c:Value}{b:Bool}
inductive lD(K:OZ)(H:Hp):V->Value->Prop where|non:lD K H .non (.type "NoneType")|bl(x:Bool):lD K H (.bl x) (.type "bool")|int(i:Int):lD K H (.int i) (.type "int")|str(x:Str):lD K H (.str x) (.type "str")|flt(x:UInt64):lD K H (.flt x) (.type "float")|lst{a:Addr}{xs:List V}(e:H a=some (.lst xs)):lD K H (.ref a) (.type "list")|frz{a:Addr}{o:Obj}{xs:List V}(e:H a=some (.frz o (.lst xs))):lD K H (.ref a) (.type "list")|tup{a:Addr}{xs:List V}(e:H a=some (.tup xs)):lD K H (.ref a) (.type "tuple")|dK{a:Addr}{kvs:List (bV×V)}(e:H a=some (.dK kvs)):lD K H (.ref a) (.type "dict")|dT{a:Addr}{kvs:List (List bV×V)}(e:H a=some (.dT kvs)):lD K H (.ref a) (.type "dict")|ins{a C dx:Addr}{fs:List (Str×V)}(e:H a=some (.ins C dx fs))(cl:x4 K C)(ha:PySem.W.findIn K (.ref C) "__class__"=some (some (.builtin "object.__class__")))(hn:PySem.W.specialIn K (.builtin "object.__class__") "__get__"=some (some (.builtin "getset_descriptor.__get__")))(htk:PySem.W.takesIn K (.builtin "object.__class__")=some true)(hm:PySem.W.mroIn K C (.type "object")=some true):lD K H (.ref a) (.ref C)
def Ct(I:aN X d f H s)(g:aX x u)(ty:lD X.K H x t)(e:PySem.W.kitOne X.K t c=some b)(h:∀tk,Q (.bool b) {s with toks:=tk}):wpAny (model X.prog X.w) A (call (.builtin "isinstance") [u,c]) Q E s:=by cases ty with|non=>cases(show u=Value.none from g);show PySem.W.kia_one PySem.W.kitx_none I.kIn True.intro e (nofun) h|bl y=>cases(show u=Value.bool y from g);show PySem.W.kia_one PySem.W.kitx_bool I.kIn True.intro e (nofun) h|int i=>obtain⟨t,q⟩:=(show∃t,u=Value.int i t from g);cases q;show PySem.W.kia_one PySem.W.kitx_int I.kIn True.intro e (nofun) h|str y=>obtain⟨t,q⟩:=(show∃t,u=Value.str y t from g);cases q;show PySem.W.kia_one PySem.W.kitx_str I.kIn True.intro e (nofun) h|flt y=>obtain⟨t,q⟩:=(show∃t,u=Value.float y t from g);cases q;show PySem.W.kia_one PySem.W.kitx_float I.kIn True.intro e (nofun) h|@lst a l j=>cases(show u=Value.ref a from g);obtain⟨_,_,n,_,h1⟩:=(show c6 X.prog X.w H s.heap a (.lst l)from I.hok a _ j);show PySem.W.kia_one PySem.W.kitx_list I.kIn {_,h1,()} e (nofun) h|@frz a ob l j=>cases(show u=Value.ref a from g);obtain⟨_,_,_,n,_,h1⟩:=(show c6 X.prog X.w H s.heap a (.frz ob (.lst l))from I.hok a _ j);show PySem.W.kia_one PySem.W.kitx_list I.kIn {_,h1,()} e (nofun) h|@tup a l j=>cases(show u=Value.ref a from g);obtain⟨_,_,_,p⟩:=(show c6 X.prog X.w H s.heap a (.tup l)from I.hok a _ j);obtain⟨o,h1,h2,_⟩:=p;show PySem.W.kia_one PySem.W.kitx_tuple I.kIn (o,h1,h2,) e (nofun) h|@dK a k j=>cases(show u=Value.ref a from g);obtain⟨_,_,D,_,p⟩:=(show c6 X.prog X.w H s.heap a (.dK k)from I.hok a _ j);obtain⟨o,r,v,h1,h2,_⟩:=p;show PySem.W.kia_one PySem.W.kitx_dict I.kIn (o,h1,h2.1,) e (nofun) h|@dT a k j=>cases(show u=Value.ref a from g);obtain⟨_,_,l,_,o,r,v,h1,h2,_⟩:=(show c6 X.prog X.w H s.heap a (.dT k)from I.hok a _ j);show PySem.W.kia_one PySem.W.kitx_dict I.kIn (o,h1,h2.1,) e (nofun) h|@ins a C dx fs j cl B hn m hm=>cases(show u=Value.ref a from g);obtain⟨F,O,_⟩:=sM I.hok j;obtain⟨G,J,_⟩:=O.look;show PySem.W.kia_one (PySem.W.kitx_own (cl.get _) cl.hd B hn m hm) I.kIn J e (nofun) h
end
structure eX(k:Nat)(A:Around):Prop where
 hd:A.handled=none
 dp:A.depth+3*k+5<recursionLimit
 un:A.units+16*k+200<cLine
def eX.mono{j k:Nat}{A:Around}(r:eX k A)(h:j<=k):eX j A:={r.hd,by have:=r.dp;lia,by have:=r.un;lia}
theorem eX.deeper(r:eX (k+1) A)(env:Env):eX k (A.deeper env):={r.hd,by have:=r.dp;change A.depth+1+3*k+5<_;lia,by have:=r.un;change A.units+3+16*k+200<_;lia}
def Ao{A:Around}{C:Addr}{a:O3}{c:List (Str×Value)}:(A.under (.builtin "type.__call__" {.ref C::a,c})).depth=A.depth+1:=by first|rfl|simp[Around.under,Code.weight,Code.isCreation,Code.isGuard,Code.isCaller,Code.frames,Code.isFrame,guardIds]
def An{A:Around}{C:Addr}{a:O3}{c:List (Str×Value)}:(A.under (.builtin "type.__call__" {.ref C::a,c})).units=A.units+1:=by first|rfl|simp[Around.under,Code.cUnits,Code.frames,Code.isFrame]
def eX.make(r:eX (k+1) A)(C:Addr)(a:O3)(c:List (Str×Value)):eX k (A.under (.builtin "type.__call__" {.ref C::a,c})):={r.hd,by have:=r.dp;rw[Ao];lia,by have:=r.un;rw[An];lia}
theorem eX.depth{k:Nat}{A:Around}(r:eX k A):A.depth<recursionLimit:=by have:=r.dp;lia
theorem eX.units{k:Nat}{A:Around}(r:eX k A):A.units+64<cLine:=by have:=r.un;lia
def KW:TA:=λ_ H Q=>Q [] H
def K3(c:TE)(tr:TA):TA:=λa H Q=>c a H λx b=>tr a b λd e=>Q (x::d) e
section
variable{X:Cx}{e:Expr}{c:O6}{te:TE}{t:TA}{a:Pos}
def O:PA X [] KW:=λ_ _ _ _ H Q I h=>u6 {[],H,I,.nil,h}
def ac(g:PE X e te)(i:PA X c t)(j:starEach (e::c) X.env=(false,eval e X.env)::starEach c X.env:=by rfl):PA X (e::c) (K3 te t):=by intro a b s f H Q I h;rw[j];change wpAny _ _ (spliced ((false,eval e X.env)::backTo a (starEach c X.env))) _ _ s;show pw (cw (g b s f H _ I h) λu k d=>?_);obtain⟨x,l,I1,m,n⟩:=d;show cw (i a b k f l _ I1 n) λv w d=>?_;obtain⟨o,p,q,r2,r⟩:=d;show{x::o,p,q,.cons m r2,r}
def MD(t:TA):TE:=λf H Q=>t f H λb d=>b.length<=sizeLine/\∀p,d p=none->Q (.ref p) (aG d p (.tup b))
def MG(t:TA):TE:=λf H Q=>t f H λb d=>b.length<=sizeLine/\∀p,d p=none->Q (.ref p) (aG d p (.lst b))
def bx{i}(h:PA X c t):PE X (.Tuple c i a) (MD t):=by intro d s j H Q I k;show wpAny_Tuple_spliced (cw (h a d s j H _ I k) λl f m=>?_);obtain⟨n,g,I1,r,z,q⟩:=m;show{by rw[<-r.length];show z,?_};have o:g f.heap.objs.size=none:=I1.hok.fresh (e_ _);show{.ref f.heap.objs.size,aG g f.heap.objs.size (.tup n),I1.laid (t':=f.toks) (λb u e=>c_ _ e) (e_ _) ?_,(),q _ o};show{z,l,r,{_,g_ _ (),(),_,()}}
def be(h:PA X c t):PE X (.List c a) (MG t):=by intro d s i H Q I j;show wpAny_List_spliced (cw (h a d s i H _ I j) λk f l=>?_);obtain⟨m,g,I1,r,z,q⟩:=l;show{by rw[<-r.length];show z,?_};have n:g f.heap.objs.size=none:=I1.hok.fresh (e_ _);show{.ref f.heap.objs.size,aG g f.heap.objs.size (.lst m),I1.laid (t':=f.toks) (λb u e=>c_ _ e) (e_ _) ?_,(),q _ n};show{z,k,0,r,g_ _ ()}
end
abbrev Sp:=List V->Hp->VK->XK->Prop
abbrev zG:=List Env->Hp->Shared->XK->Value->Shared->Prop
structure AM(P:O4)(w:World)(K:OZ)(mg:O2)(base:Heap)(A:Around)(outer:List Env)(s:Shared)(H:Hp):Prop where
 frames:A.frames=some outer
 mod:Me K mg base
 bs:∀b o,base.get? b=some o->s.heap.get? b=some o/\H b=none
 bsz:base.objs.size<=s.heap.objs.size
 funs:s.heap.FunFrames base outer
 frf:∀b∈j4 outer,H b=none
 hok:lO P w H s.heap
 bare:AllBare s.gens
def CE(outer:List Env)(P:O4)(w:World)(H:Hp)(s:Shared)(Q:VK)(u:Value)(a:Shared):Prop:=∃v b,a.os=s.os/\AllBare a.gens/\Un (j4 outer) [] H b s.heap a.heap/\lO P w b a.heap/\aX v u/\Q v b
def CR(c:zG)(outer:List Env)(P:O4)(w:World)(H:Hp)(s:Shared)(Q:VK)(E:XK)(r:Result)(a:Shared):Prop:=match r with|.ok (.ret u)=>CE outer P w H s Q u a|.ok _=>False|.error e=>c outer H s E e a
structure aP(P:O4)(w:World)(K:OZ)(mg:O2)(base:Heap)(CX:zG)(k:Nat)(f:Addr)(fd:FuncData)(ps:O5)(sp:Sp):Prop where
 len:∀vs H Q E,sp vs H Q E->vs.length=ps.length
 run:∀(A:Around)(outer:List Env)(s:Shared)(H:Hp)(args:Args)(us:O3)(vs:List V)(Q:VK)(E:XK),eX k A->AM P w K mg base A outer s H->BindsTo s fd args (ps.zip us)->aY vs us->sp vs H Q E->codeAny (model P w) A (.call (.ref f) args) (CR CX outer P w H s Q E) s
theorem aP.mono{P:O4}{w:World}{K:OZ}{mg:O2}{base:Heap}{c:zG}{j k:Nat}{f:Addr}{fd:FuncData}{d:O5}{sp:Sp}(F:aP P w K mg base c j f fd d sp)(h:j<=k):aP P w K mg base c k f fd d sp:={F.len,λA outer s H a b e Q E g=>F.run A outer s H a b e Q E (g.mono h)}
def AM.make{P:O4}{w:World}{K:OZ}{mg:O2}{base:Heap}{A:Around}{outer:List Env}{s:Shared}{H:Hp}(e:AM P w K mg base A outer s H)(C:Addr)(a:O3)(c:List (Str×Value)):AM P w K mg base (A.under (.builtin "type.__call__" {.ref C::a,c})) outer s H:={by first|show e.frames|(simpa[Around.under,Code.envs,Code.isFrame,pushEnvs]using e.frames),e.mod,e.bs,e.bsz,e.funs,e.frf,e.hok,e.bare}
section
variable{X:Cx}{a:O1}{c:St}{H:Hp}{s e:Shared}
def aN.env0(I:aN X a c H s):AM X.prog X.w X.K X.mg X.base X.A X.stack s H:={I.ok.frames,I.ok.mod,I.bs,kl I.ok.bsz I.sz,I.stack,I.stkFree,I.hok,I.bare}
def aN.after(I:aN X a c H s)(h:CE X.stack X.prog X.w H s Q u e):EP X a c Q u e:=by obtain⟨v,i,os,bare,un,hok,r,q⟩:=h;obtain⟨hh,g,d,t,f⟩:=e;obtain rfl:f=s.os:=os;show{v,i,I.call (h':=hh) (g':=g) (d':=d) (t':=t) (ch:=[]) un hok bare (λb z=>absurd z (by simp)),r,q}
end
def HJ(sp:Sp)(a:List V)(E:XK)(t:TA):TE:=λb H Q=>t b H λc d=>sp (c++a) d Q E
def Dc(C:Addr)(m:Str)(sp:Sp)(c:List V)(E:XK)(e:TE)(t:TA):TE:=λb H Q=>e b H λx d=>∃a dx fs,x=.ref a/\d a=some (.ins C dx fs)/\fs.lookup m=none/\t b d λf g=>sp (x::(f++c)) g Q E
def KY(C:Addr)(sp:Sp)(a:List V)(E:XK)(t:TA):TE:=λc H Q=>t c H λd b=>∀x dx,b x=none->b dx=none->dx≠x->sp (.ref x::(d++a)) (aG (aG b dx (.own x)) x (.ins C dx [])) (λv e=>v=.non/\Q (.ref x) e) E
def f8(K:OZ)(fd:FuncData)(c:O5)(ds:O3):Prop:=∀(s:Shared)(a:O3),K.In s.heap->(a++ds).length=c.length->BindsTo s fd {a,[]} (c.zip (a++ds))
def f8.all{K:OZ}{fd:FuncData}{c:O5}(h:∀a:List Value,a.length=c.length->bindArgs fd {a,[]}=pure (c.zip a)):f8 K fd c []:=λs a _ b=>by rw[n7]at b⊢;show .of_eq (h a b)
def mD(c:zG)(X:Cx)(E:XK):Prop:=∀(a:O1)(d:St)(H:Hp)(s:Shared)(e:Value)(b:Shared),aN X a d H s->c X.stack H s E e b->X.xe e b
section
variable{X:Cx}{y:zG}{k:Nat}{f C:Addr}{fd:FuncData}{n:O5}{sp:Sp}{g:List V}{ds:O3}{E:XK}{x m:Str}{p d i:Pos}{e o:Expr}{j:O6}{z:TE}{t:TA}
def zR(F:aP X.prog X.w X.K X.mg X.base y k f fd n sp)(l:eX k X.A)(q:f8 X.K fd n ds)(hd:aY g ds)(v:mD y X E)(I:aN X a c H s)(r:aY vs us)(h:sp (vs++g) H Q E):wpAny (model X.prog X.w) X.A (call (.ref f) us) (EP X a c Q) X.xe s:=by
 have r2:aY (vs++g) (us++ds):=r.append hd;have B:(us++ds).length=n.length:=by rw[<-r2.length];show F.len _ _ _ _ h
 show wpAny_call (z1 (F.run X.A X.stack s H {us,[]} (us++ds) (vs++g) Q E l I.env0 (q s us I.kIn B) r2 h) λr D b=>?_);cases r with|error e=>show v a c H s e D I b|ok G=>cases G with|ret u=>show I.after b|next=>show False.elim b|brk=>show False.elim b|cont=>show False.elim b
def bQ(F:aP X.prog X.w X.K X.mg X.base y k f fd n sp)(u:eX k X.A)(hg:Gl X x)(hm:X.mg x=some (.ref f))(v:PySem.W.keepIn X.K (.ref f)=true)(B:f8 X.K fd n ds)(hd:aY g ds)(D:mD y X E)(G:PA X (e::j) t)(c:(x==("__debug__":Str))=false:=by decide)(J:starEach (e::j) X.env=(false,eval e X.env)::starEach j X.env:=by rfl)(l:(backTo d (starEach j X.env)).any (·.1)=false:=by rfl):PE X (.Call (.Name x p) (e::j) [] d) (HJ sp g E t):=by intro a s L H Q I h;show vr (mP I hg hm ?_ c);show PySem.W.callWith_K (h₀:=X.base) I.ok.mod.kin v (cw (G d a s L H _ I h) λM N⟨O,P,I1,r,q⟩=>{I1.kIn,?_}) J l;show zR F u B hd D I1 r q
def aZ(P:PE X o z)(c:x4 X.K C)(hm:FE X.K C m f)(F:aP X.prog X.w X.K X.mg X.base y k f fd n sp)(R:eX k X.A)(S:f8 X.K fd n ds)(hd:aY g ds)(T:mD y X E)(Z:PA X (e::j) t)(v:starEach (e::j) X.env=(false,eval e X.env)::starEach j X.env:=by rfl)(B:(backTo d (starEach j X.env)).any (·.1)=false:=by rfl)(ht:eval (.Call (.Attribute o m i) (e::j) [] d) X.env=(do
   let D<-eval o X.env
   standAt i.atName let(f,first)<-holding [D] (getMethod D m pl)callWith d f first (backTo d (starEach (e::j) X.env)) (backToKw d (keywordEach [] X.env))):=by rfl):PE X (.Call (.Attribute o m i) (e::j) [] d) (Dc C m sp g E z t):=by intro b s G H Q I h;show PySem.W.methodCall_KW (pl:=pl) (cw (P b s G H _ I h) λu O⟨x,U,I1,Y,a,dx,fs,ex,ea,l,q⟩=>?_) ht;subst ex;obtain rfl:u=Value.ref a:=Y;show on I1 ea c hm l ?_;show PySem.W.callWith_K (first:=[.ref a]) (h₀:=X.base) I.ok.mod.kin hm.kp (cw (Z d b O G U _ I1 q) λL s2⟨M,H2,N,r,q2⟩=>{N.kIn,?_}) v B;show zR (us:=.ref a::L) (vs:=.ref a::M) F R S hd T N (.cons () r) q2
def fP(v:PE X o z)(c:x4 X.K C)(hm:FE X.K C m f)(F:aP X.prog X.w X.K X.mg X.base y k f fd n sp)(B:eX k X.A)(D:f8 X.K fd n ds)(hd:aY g ds)(G:mD y X E)(J:eval (.Call (.Attribute o m i) [] [] d) X.env=(do
   let r<-eval o X.env
   standAt i.atName let(f,first)<-holding [r] (getMethod r m pl)callWith d f first (backTo d (starEach [] X.env)) (backToKw d (keywordEach [] X.env))):=by rfl):PE X (.Call (.Attribute o m i) [] [] d) (Dc C m sp g E z KW):=by intro b s L H Q I h;show PySem.W.methodCall_KW (pl:=pl) (cw (v b s L H _ I h) λu O⟨x,P,I1,M,a,dx,fs,ex,N,l,q⟩=>?_) J;subst ex;obtain rfl:u=Value.ref a:=M;show on I1 N c hm l ?_;show PySem.W.callWith_K0 (first:=[.ref a]) I1.kIn hm.kp (zR (us:=[.ref a]) (vs:=[.ref a]) F B D hd G I1 (.cons () .nil) q)
structure Mk(K:OZ)(C f:Addr):Prop where
 makes:PySem.W.makesIn K C=true
 init:PySem.W.findIn K (.ref C) "__init__"=some (some (.ref f))fn:PySem.W.isFn K (.ref f)=true
 kp:PySem.W.keepIn K (.ref C)=true
def DR(M:Mk X.K C f)(F:aP X.prog X.w X.K X.mg X.base y k f fd n sp)(G:eX (k+1) X.A)(J:f8 X.K fd n ds)(hd:aY g ds)(L:mD y X E)(I:aN X c q H s)(r:aY B l)(h:∀x dx,H x=none->H dx=none->dx≠x->sp (.ref x::(B++g)) (aG (aG H dx (.own x)) x (.ins C dx [])) (λv N=>v=.non/\Q (.ref x) N) E):wpAny (model X.prog X.w) X.A (call (.ref C) l) (EP X c q Q) X.xe s:=by
 have D:=h (s.heap.objs.size+1) s.heap.objs.size (I.hok.fresh (ry _)) (I.hok.fresh (e_ _)) (ku (t4 _));have b:=aN.made (C:=C) I;have r2:aY (V.ref (s.heap.objs.size+1)::(B++g)) (Value.ref (s.heap.objs.size+1)::(l++ds)):=.cons () (r.append hd);have O:(Value.ref (s.heap.objs.size+1)::l++ds).length=n.length:=by have e:=r2.length;rw[F.len _ _ _ _ D]at e;show e.symm
 show wpAny_call (Et (f:=f) I.kIn M.makes M.init (beq_iff_eq.mp M.fn) (z1 (F.run _ X.stack _ _ {Value.ref (s.heap.objs.size+1)::l,[]} (Value.ref (s.heap.objs.size+1)::(l++ds)) _ _ E (G.make C l []) (b.env0.make C l []) (J _ (Value.ref (s.heap.objs.size+1)::l) b.kIn O) r2 D) λr P a=>?_))
 cases r with|error e=>show L c q _ _ e P b a|ok R=>cases R with|ret u=>obtain⟨v,S,T,U,W,Y⟩:=b.after a;subst W;show{U,{V.ref (s.heap.objs.size+1),S,T,(),Y}}|next=>show False.elim a|brk=>show False.elim a|cont=>show False.elim a
def pq(M:Mk X.K C f)(F:aP X.prog X.w X.K X.mg X.base y k f fd n sp)(u:eX (k+1) X.A)(hg:Gl X x)(hm:X.mg x=some (.ref C))(v:f8 X.K fd n ds)(hd:aY g ds)(B:mD y X E)(D:PA X (e::j) t)(c:(x==("__debug__":Str))=false:=by decide)(G:starEach (e::j) X.env=(false,eval e X.env)::starEach j X.env:=by rfl)(l:(backTo d (starEach j X.env)).any (·.1)=false:=by rfl):PE X (.Call (.Name x p) (e::j) [] d) (KY C sp g E t):=by intro a s J H Q I h;show vr (mP I hg hm ?_ c);show PySem.W.callWith_K (h₀:=X.base) I.ok.mod.kin M.kp (cw (D d a s J H _ I h) λL N⟨O,P,I1,r,q⟩=>{I1.kIn,?_}) G l;show DR M F u v hd B I1 r q
end
structure az(N P:O5)(sc:Scope):Prop where
 kind:sc.kind=.function
 co:sc.isCoroutine=false
 gen:sc.isGenerator=false
 nd:N.Nodup
 pre:N.take P.length=P
 par:∀x∈P,sc.names.lookup x=some .local\/sc.names.lookup x=some .cell
 nofree:∀y∈sc.names,y.2≠.free
theorem wV{kindOf:Str->Option NameKind}{x:Str}:∀{binds:List (Str×Value)}{m:O2},(∀v,(x,v)∉binds)->bindL kindOf binds m x=m x
 |[],_,_=>()|(n,v)::r,m,h=>by
  unfold bindL;rw[wV λw a=>h w (j_ _ a)]
  split
  ·have:x≠n:=by rintro rfl;show h v k4
   simp[this]
  ·rfl
theorem wX{kindOf:Str->Option NameKind}{x:Str}:∀{binds:List (Str×Value)}{m:O2},(∀v,(x,v)∉binds)->bindC kindOf binds m x=m x
 |[],_,_=>()|(n,v)::r,m,h=>by
  unfold bindC;rw[wX λw a=>h w (j_ _ a)]
  split
  ·rfl
  ·have:x≠n:=by rintro rfl;show h v k4
   simp[this]
theorem wW{kindOf:Str->Option NameKind}{x:Str}{v:Value}:∀{P:O5}{a:O3}{i:Nat}{m:O2},P.Nodup->P[i]?=some x->a[i]?=some v->kindOf x=some .local->bindL kindOf (P.zip a) m x=some v|[],_,_,_,_,h,_,_=>by simp at h|_::_,[],_,_,_,_,h,_=>by simp at h|p::P,w::a,0,m,nd,h1,h2,b=>by simp at h1 h2;subst h1;subst h2;change bindL kindOf ((p,w)::P.zip a) m p=_;unfold bindL;rw[wV λv c=>(OV.mp nd).1 (NG c).1,hY b];simp|p::P,w::a,i+1,m,nd,h1,h2,b=>by change bindL kindOf ((p,w)::P.zip a) m x=_;unfold bindL;show wW (i:=i) (OV.mp nd).2 (by simpa using h1) (by simpa using h2) b
theorem wY{kindOf:Str->Option NameKind}{x:Str}{v:Value}:∀{P:O5}{a:O3}{i:Nat}{m:O2},P.Nodup->P[i]?=some x->a[i]?=some v->kindOf x≠some .local->bindC kindOf (P.zip a) m x=some v|[],_,_,_,_,h,_,_=>by simp at h|_::_,[],_,_,_,_,h,_=>by simp at h|p::P,w::a,0,m,nd,h1,h2,b=>by simp at h1 h2;subst h1;subst h2;change bindC kindOf ((p,w)::P.zip a) m p=_;unfold bindC;rw[wX λv c=>(OV.mp nd).1 (NG c).1,h_ b];simp|p::P,w::a,i+1,m,nd,h1,h2,b=>by change bindC kindOf ((p,w)::P.zip a) m x=_;unfold bindC;show wY (i:=i) (OV.mp nd).2 (by simpa using h1) (by simpa using h2) b
def i9(N:O5)(a:List V):St:=a.map some++List.replicate (N.length-a.length) none
def qH(c:zG)(P:O4)(w:World)(K:OZ)(mg:O2)(base:Heap)(N:O5)(a:Str)(scope:Scope)(f:Addr)(cd:Value)(A:Around)(outer:List Env)(s:Shared)(H:Hp)(E:XK):Cx where
 prog:=P
 w:=w
 K:=K
 mg:=mg
 base:=base
 A:=A.deeper (envOfC a scope s.heap.objs.size f cd)
 N:=N
 s₀:=s
 H₀:=H
 env:=envOfC a scope s.heap.objs.size f cd
 outer:=outer
 stack:=envOfC a scope s.heap.objs.size f cd::outer
 ex:=[]
 calm:=true
 fn:=λ_=>true
 pn:=[]
 xe:=λe d=>wpAny (model P w) (A.deeper (envOfC a scope s.heap.objs.size f cd)) (leaving (envOfC a scope s.heap.objs.size f cd) e) (λ_ b=>c outer H s E e b) (λg b=>c outer H s E g b) d
def zt{a:Scope}{n:Nat}{x:Str}(h:a.names.lookup x=some .cell):∃c,(cellsFrom n a.names []).lookup x=some c:=by have q:=PySem.W.cellsFrom_some a.names n [] (.inl h);show sT.mp q
def Cu{D:zG}{P:O4}{w:World}{K:OZ}{mg:O2}{base:Heap}{N j:O5}{d:Str}{scope:Scope}{f:Addr}{cd:Value}{A:Around}{outer:List Env}{s F:Shared}{H:Hp}{E:XK}{C:O3}{l:List V}(S:az N j scope)(hd:A.handled=none)(g:AM P w K mg base A outer s H)(Q:l.length=j.length)(r:aY l C)(x:InCallC s s.heap.objs.size (bindL (envOfC d scope s.heap.objs.size f cd).kindOf (j.zip C) λ_=>none) (cellsFrom (s.heap.objs.size+1) scope.names []) (bindC (envOfC d scope s.heap.objs.size f cd).kindOf (j.zip C) λ_=>none) F):aN (qH D P w K mg base N d scope f cd A outer s H E) [] (i9 N l) H F:=by
 have J:j.length<=N.length:=by have:=p_ List.length S.pre;rw[mo]at this;lia
 obtain⟨h1,tk,rfl,G⟩:=x.done;have m:∀b:Addr,b∉(qH D P w K mg base N d scope f cd A outer s H E).ex:=λb z=>absurd (show b∈([]:O9)from z) (by simp);show{{g.mod,S.kind,(),(),e_ _,λy z c h1 h2=>?_,λy o=>?_,λy c _ h=>?_,λ_=>hd,Around.frames_deeper g.frames,.inr {(),()},λb z=>absurd z (m b),g.bs,g.bsz,λb _ _=>m b,λb z=>absurd z (m b),g.funs,g.frf},(),g.bare,Un.kept G,{_,x.toInCall.ns,λi y v h1 h2 h3=>?_},λy c h=>{_,x.cell y c h},g.hok.fresh (e_ _),λy c h=>?_,λp t=>absurd (show p∈([]:O1)from t) (by simp),g.hok.kept G,?_}
 ·show name_of_addr x.apart (PySem.mem_of_lookup h1) (PySem.mem_of_lookup h2)
 ·have o:scope.names.lookup y=some .cell\/scope.names.lookup y=some .free:=o;rcases o with o|o
  ·show zt o
  ·show absurd () (S.nofree _ (PySem.mem_of_lookup o))
 ·show tx (x.above y c (PySem.mem_of_lookup h))
 ·have hi:i<l.length:=by
   unfold i9 at h2
   by_cases hi:i<l.length
   ·show hi
   ·rw[y2 (by simpa using hi)]at h2;rw[List.getElem?_replicate]at h2
    split at h2<;>cases h2
  have L:l[i]?=some v:=by unfold i9 at h2;rw[rc (by simpa using hi),g8]at h2;cases e:l[i]?with|none=>rw[e]at h2;cases h2|some a=>rw[e]at h2;cases h2;rfl
  obtain⟨u,I,M⟩:=r.get L;have t:j[i]?=some y:=by rw[<-S.pre,NX (by lia)];show h1
  have B:j.Nodup:=by rw[<-S.pre];show S.nd.sublist (NU _ _)
  show{u,M,?_};rcases S.par y (gV t)with k|k
  ·show .inl {k,wW B t I k}
  ·obtain⟨c,e⟩:=zt (n:=s.heap.objs.size+1) k;show .inr {.inl k,c,e,?_};have q:=x.cell y c e;rw[wY B t I (by change scope.names.lookup y≠_;rw[k];decide)]at q;show q
 ·show g.hok.fresh (tx (x.above y c (PySem.mem_of_lookup h)))
 ·unfold i9;change _=N.length;rw[hQ,b_,Es];lia
def HU{F:zG}{P:O4}{w:World}{K:OZ}{mg:O2}{base:Heap}{k:Nat}{f:Addr}{j a:Str}{d:Arguments}{g:List Stmt}{scope:Scope}{X kV B pm c ct oc:Value}{Z od:Option Addr}{L:Array (Option Value)}{N G:O5}{sp:Sp}(lk:K.lookup f=some {oc,od,.func (PySem.W.fnOf j a d g scope X kV B pm Z c ct),L})(M:PySem.W.codeIn K c a=true)(S:az N G scope)(len:∀h H Q E,sp h H Q E->h.length=G.length)(m:∀(A:Around)(outer:List Env)(s:Shared)(H:Hp)(h:List V)(Q:VK)(E:XK),eX k (A.deeper (envOfC a scope s.heap.objs.size f c))->sp h H Q E->∃t,vR (qH F P w K mg base N a scope f c A outer s H E) g t/\t {nx:=λ_ l=>Q .non l,rt:=Q} (i9 N h) H):aP P w K mg base F (k+1) f (PySem.W.fnOf j a d g scope X kV B pm Z c ct) G sp:=by
 show{len,λA outer s H Y us h Q E O C hb r D=>?_};have hl:=len _ _ _ _ D;have KX:K.In s.heap:=C.mod.kin.keeps λb o e=>(C.bs b o e).1;have R:s.heap.NoLimit:=C.mod.nolimit.keeps λb o e=>(C.bs b o e).1;have p:∀y∈G.zip us,scope.names.lookup y.1=some .local\/(scope.names.lookup y.1=some .cell/\((cellsFrom (s.heap.objs.size+1) scope.names []).lookup y.1).isSome=true):=λ⟨n,v⟩hy=>by
  rcases S.par n (NG hy).1 with q|q
  ·show .inl q
  ·show .inr {q,PySem.W.cellsFrom_some _ _ _ (.inl q)}
 show codeAny_call_function O.depth (KX _ _ lk) () S.co S.gen () (PySem.W.codeRec_of KX M) (hb _ _ _ _ ?_);show wpAny_newFunctionEnv_cells S.kind p λenv he s1 x=>?_;subst he;show{R.keeps x.toInCall.keep,codeAny_func ?_};obtain⟨t,ht,hq⟩:=m A outer s H h Q E (O.deeper _) D;have I:aN (qH F P w K mg base N a scope f c A outer s H E) [] (i9 N h) H s1:=Cu S O.hd C hl r x;show wpAny_mono (ht [] s1 (i9 N h) H _ I hq) (λfl T z=>?_) λe T z=>z;have fin:∀{i:St}{l:Hp}{v:V}{u:Value},aN (qH F P w K mg base N a scope f c A outer s H E) [] i l T->aX v u->Q v l->CE outer P w H s Q u T:=λ{i l v u}J U q=>(v,l,J.os,J.bare,J.base,J.hok,U,q,)
 cases fl with|ret u=>obtain⟨v,i,l,J,U,q⟩:=z;show fin J U q|next=>obtain⟨i,l,J,q⟩:=z;show fin (v:=V.non) (u:=Value.none) J () q|brk=>obtain⟨_,_,_,q⟩:=z;show False.elim q|cont=>obtain⟨_,_,_,q⟩:=z;show False.elim q
section
variable{X:Cx}{x:Str}{p a:Pos}{e:Expr}{c:O6}{t:TA}{id T:String}{r:List V->Hp->VK->Prop}
def tCB(r:List V->Hp->VK->Prop)(t:TA):TE:=λb H Q=>t b H λd f=>r d f Q
def ay(hc:cP X (.builtin id) r)(hg:Gl X x)(hm:X.mg x=none)(i:bootBuiltins x=some (.builtin id))(j:PA X (e::c) t)(hn:x≠"__name__":=by decide)(d:(x==("__debug__":Str))=false:=by decide)(l:starEach (e::c) X.env=(false,eval e X.env)::starEach c X.env:=by rfl)(f:(backTo a (starEach c X.env)).any (·.1)=false:=by rfl):PE X (.Call (.Name x p) (e::c) [] a) (tCB r t):=by intro b s g H Q I h;show vr (lz I hg hm i ?_ hn d);show PyProof.Rows.callWith_builtin1 (cw (j a b s g H _ I h) λk m⟨n,o,I1,q,u⟩=>hc b m g o n k Q I1 q u) l f
def cx(hc:cP X (.type T) r)(hg:Gl X x)(hm:X.mg x=none)(i:bootBuiltins x=some (.type T))(j:PA X (e::c) t)(hn:x≠"__name__":=by decide)(d:(x==("__debug__":Str))=false:=by decide)(l:starEach (e::c) X.env=(false,eval e X.env)::starEach c X.env:=by rfl)(f:(backTo a (starEach c X.env)).any (·.1)=false:=by rfl):PE X (.Call (.Name x p) (e::c) [] a) (tCB r t):=by intro b s g H Q I h;show vr (lz I hg hm i ?_ hn d);show x3 (cw (j a b s g H _ I h) λk m⟨n,o,I1,q,u⟩=>hc b m g o n k Q I1 q u) l f
end
end L2
namespace HT
open PySem PyProof.Rows
section
variable{prog:O4}{w:World}{A:Around}{E:O0}{s:Shared}
def Hn(p:IsTup s.heap t d.toArray)(q:IsTup s.heap b a.toArray)(m:d≠[])(h1:a=[]->Q (.ref t) s)(h2:a≠[]->Q (.ref s.heap.objs.size) {s with heap:=s.heap.push {cls:=.type "tuple",data:=.seq (d++a).toArray}})(l:d.length+a.length<=sizeLine):wpAny (model prog w) A (binaryOp .Add (.ref t) (.ref b)) Q E s:=by
 obtain⟨⟨cls,dd,data,sl⟩,j,hc,n,hd⟩:=id p;obtain⟨⟨o,f,data2,g⟩,c,h,n2,i⟩:=id q;simp only at hc hd h i;subst hc hd h i;have e:d.toArray++a.toArray=(d++a).toArray:=by simp
 by_cases k:a=[]
 ·show concat_meets {_,j,()} {_,c,()} noFill_tuple_add seq_tuple_add PySem.F.slot_tuple_add PySem.F.entry_tuple_add (PySem.F.args_tuple_add_2 _ _) (tuple_addW1 t b d.toArray a.toArray n n2 dd f sl g (by simpa using m) (by simp[k])) {j,c,h1 k}
 ·show concat_meets {_,j,()} {_,c,()} noFill_tuple_add seq_tuple_add PySem.F.slot_tuple_add PySem.F.entry_tuple_add (PySem.F.args_tuple_add_2 _ _) (tuple_addW2 t b d.toArray a.toArray n n2 dd f sl g (by simpa using m) (by simpa using k) (by rw[il,il];show l)) {j,c,?_}
  rw[e];show h2 k
def iF(n d:Nat):Option Int->Nat|none=>d|some v=>if v<0 then(v+(n:Int)).toNat else min v.toNat n
def DQ(n d:Nat):iF n d none=d:=rfl
def IZ(n d:Nat)(hd:d<=n)(o:Option Int):iF n d o<=n:=by cases o with|none=>show hd|some v=>
  change(if v<0 then(v+(n:Int)).toNat else min v.toNat n)<=n
  by_cases a:v<0
  ·rw[hY a];lia
  ·rw[h_ a];show Nu _ _
def Bx(v:Int)(n d:Nat):(if v<0 then max (v+(n:Int)) 0 else min v (n:Int))=((iF n d (some v):Nat):Int):=by
 change(if v<0 then max (v+(n:Int)) 0 else min v (n:Int))=(((if v<0 then(v+(n:Int)).toNat else min v.toNat n):Nat):Int)
 by_cases a:v<0
 ·simp only[hY a];lia
 ·simp only[h_ a];lia
def AJ(lo hi:Option Int)(n:Nat):Builtin.Slice.sliceAdjust lo hi 1 (n:Int)=(((iF n 0 lo:Nat):Int),((iF n n hi:Nat):Int)):=by
 have h1:¬((1:Int)<0):=by lia
 unfold Builtin.Slice.sliceAdjust;simp only[h1,N3];show Prod.ext ?_ ?_
 ·cases lo with|none=>rfl|some v=>show Bx v n 0
 ·cases hi with|none=>rfl|some v=>show Bx v n n
def zW(i j:Nat):Builtin.Slice.slicePlaces (i:Int) (j:Int) 1=j-i:=by
 unfold Builtin.Slice.slicePlaces;have h1:(1:Int)>0:=by lia
 simp only[h1,OE,Int.ediv_one]
 split<;>lia
def tu(p:IsPart v o)(h:Q o s):wpAny (model prog w) A (Builtin.Slice.slicePartIndex v) Q E s:=by cases p with|none=>show slicePart_none h|int i t=>show slicePart_int h
def p8{sl:Addr}{c d:Value}{lo hi:Option Int}{n:Nat}{Q:Int×Int×Nat->Shared->Prop}(e:s.heap.IsSliceOf sl c d .none)(pl:IsPart c lo)(f:IsPart d hi)(h:Q (((iF n 0 lo:Nat):Int),1,iF n n hi-iF n 0 lo) s):wpAny (model prog w) A (Builtin.Slice.sliceApplied (.ref sl) (pure (n:Int))) Q E s:=by obtain⟨os,a,g,b⟩:=id e;unfold Builtin.Slice.sliceApplied Builtin.Slice.sliceFields;show a_ (a_ (t0 a b (x:=c) () (a_ (t0 a b (x:=d) () (a_ (t0 a b (x:=.none) () (f_ ?_)))))));show a_ (slicePart_none ?_);change wpAny _ _ (if((1:Int)==0)=true then _ else _) _ _ s;rw[h_ (by decide)];show a_ (tu pl (a_ (tu f (a_ (f_ ?_)))));change wpAny _ _ (match Builtin.Slice.sliceAdjust lo hi 1 (n:Int)with|(lo,hi)=>pure (lo,(1:Int),Builtin.Slice.slicePlaces lo hi 1)) _ _ s;rw[AJ lo hi n];change wpAny _ _ (pure (((iF n 0 lo:Nat):Int),(1:Int),Builtin.Slice.slicePlaces ((iF n 0 lo:Nat):Int) ((iF n n hi:Nat):Int) 1)) _ _ s;rw[zW];show f_ h
def DY(a:O7)(i k:Nat):((List.range k).filterMap λ(m:Nat)=>a[((i:Int)+(m:Int)*1).toNat]?).toArray=((a.toList.drop i).take k).toArray:=by
 have e:(λ(m:Nat)=>a[((i:Int)+(m:Int)*1).toNat]?)=λm=>a[i+m]?:=by
  funext m
  have:((i:Int)+(m:Int)*1).toNat=i+m:=by lia
  rw[this]
 rw[e];have:=pick_run a i k;rw[List.filterMap_map]at this;have b:((λx=>a[x]?)∘λx=>i+x)=λm=>a[i+m]?:=();rw[b]at this;rw[this]
def pO{t sl:Addr}{a:O7}{i j:Value}{lo hi:Option Int}{Q:O0}(c:IsTup s.heap t a)(l:s.heap.IsSliceOf sl i j .none)(pl:IsPart i lo)(n:IsPart j hi)(o:¬(iF a.size 0 lo=0/\iF a.size a.size hi=a.size))(h:Q (.ref s.heap.objs.size) {s with heap:=s.heap.push {cls:=.type "tuple",data:=.seq ((a.toList.drop (iF a.size 0 lo)).take (iF a.size a.size hi-iF a.size 0 lo)).toArray}})(p:a.size<=sizeLine):wpAny (model prog w) A (getItem (.ref t) (.ref sl)) Q E s:=by
 have b:sizeOk (.seq ((a.toList.drop (iF a.size 0 lo)).take (iF a.size a.size hi-iF a.size 0 lo)).toArray):=by change((a.toList.drop (iF a.size 0 lo)).take (iF a.size a.size hi-iF a.size 0 lo)).toArray.size<=sizeLine;rw[il,mo,Nw,l_];lia
 have u:iF a.size a.size hi<=a.size:=IZ _ _ (e_ _) hi;obtain⟨os,d,e,r⟩:=id l;have f:s.TypeIs (.ref sl) "slice":=(os,d,e,);unfold getItem
 try with_reducible show o8 ?_
 first|show a_ (f_ ?_)|skip
 show a_ (wpAny_sequenceKey c.typeIs (by decide) ?_);show a_ (p6 (name:=Str.ofString "__getitem__") c.typeIs OL (o_ OL c.typeIs entry_tuple_getitem ?_ (args_tuple_getitem _ _)))
 change wpAny _ _ (Builtin.Tuple.tupleItemsOf (.ref t)>>=_) _ _ s;show a_ (tupleItemsOf_ c ?_);show a_ (OC f ?_);rw[hY (by decide)];show a_ (p8 l pl n ?_);have g:¬((((iF a.size 0 lo:Nat):Int)==0&&(1:Int)==1&&(iF a.size a.size hi-iF a.size 0 lo)==a.size)=true):=by intro q;rw[mu,mu]at q;have v:((iF a.size 0 lo:Nat):Int)=0:=eq_of_beq q.1.1;have x:iF a.size a.size hi-iF a.size 0 lo=a.size:=eq_of_beq q.2;show o {by lia,by lia}
 change wpAny _ _ (if(((iF a.size 0 lo:Nat):Int)==0&&(1:Int)==1&&(iF a.size a.size hi-iF a.size 0 lo)==a.size)=true then _ else _) _ _ s;rw[h_ g,DY]
 first|show a_ (m:=Builtin.Tuple.tupleExact _) (pu (f_ {_,(),f_ h}) b)|show a_ (m:=Builtin.Tuple.tupleExact _) (pu (a_ (f_ (f_ {_,(),f_ h}))) b)|show a_ (a_ (m:=Builtin.Tuple.tupleExact _) (pu (f_ (f_ {_,(),f_ h})) b))|show a_ (a_ (m:=Builtin.Tuple.tupleExact _) (pu (f_ {_,(),f_ h}) b))
end
end HT
namespace L2
open PySem PySem.Spec PyProof.Rows
abbrev TO:=St->Hp->(Option Int->Hp->Prop)->Prop
def PO(X:Cx)(e:Option Expr)(t:TO):Prop:=∀(a:O1)(s:Shared)(b:St)(H:Hp)(Q:Option Int->Hp->Prop),aN X a b H s->t b H Q->wpAny (model X.prog X.w) X.A (evalPart e X.env) (λu d=>∃o c,aN X a b c d/\IsPart u o/\Q o c) X.xe s
def FO:TO:=λ_ H Q=>Q none H
def KS(t:TE):TO:=λa H Q=>t a H λx b=>∃i,x=.int i/\Q (some i) b
def Au:∀{a:O3},aY (ns.map V.int) a->IntsAre a ns:=by induction ns with|nil=>intro a r;rw[Oh]at r;cases r;show .nil|cons n ns b=>intro a r;rw[m3]at r;cases r with|cons c r2=>obtain⟨t,e⟩:=c;subst e;show .cons n t (b r2)
section
variable{X:Cx}{e:Expr}{te:TE}{lo hi:Option Expr}{d c:TO}{g f:Pos}
def iY:PO X none FO:=by intro a s b H Q I h;rw[evalPart_none];show f_ {none,H,I,.none,h}
def iX(h:PE X e te):PO X (some e) (KS te):=by intro a s b H Q I j;rw[evalPart_some];show cw (h a s b H _ I j) λu o k=>?_;obtain⟨x,l,I1,m,n⟩:=k;obtain⟨i,rfl,q⟩:=n;obtain⟨t,rfl⟩:=m;show{some i,l,I1,.int i t,q}
def KJ(X:Cx)(r:V->Option Int->Option Int->Hp->VK->Prop):Prop:=∀(a:O1)(s:Shared)(b:St)(H:Hp)(x:V)(v h i:Value)(lo hi:Option Int)(sl:Addr)(Q:VK),aN X a b H s->aX x v->s.heap.IsSliceOf sl h i .none->IsPart h lo->IsPart i hi->r x lo hi H Q->∃T id,typeLookup (.type T) "__getitem__"=pure (some (.builtin id))/\s.TypeIs v T/\wpAny (model X.prog X.w) X.A (getItem v (.ref sl)) (EP X a b Q) X.xe s
def tSl(r:V->Option Int->Option Int->Hp->VK->Prop)(te:TE)(d c:TO):TE:=λa H Q=>te a H λx b=>d a b λl h=>c a h λu i=>r x l u i Q
def gG(p:KJ X r)(t:PE X e te)(y:PO X lo d)(z:PO X hi c):PE X (.Subscript e (.Slice lo hi none f) g) (tSl r te d c):=by intro a s j H Q I h;show Subscript_ (cw (t a s j H _ I h) λv B k=>?_);obtain⟨x,C,I1,D,E⟩:=k;show wpAny_Slice (cw (y a B j C _ I1 E) λm F k=>?_);obtain⟨l,G,J,pl,K⟩:=k;show cw (z a F j G _ J K) λn i k=>?_;obtain⟨u,o,L,M,N⟩:=k;rw[evalPart_none];show f_ ?_;have O:aN X a j o {i with heap:=i.heap.push {cls:=.type "slice",data:=.fields #[m,n,.none]}}:=L.kept (t':=i.toks) λb ob q=>c_ _ q;obtain⟨T,id,P,R,hg⟩:=p a {i with heap:=i.heap.push {cls:=.type "slice",data:=.fields #[m,n,.none]}} j o x v m n l u i.heap.objs.size Q O D (Heap.IsSliceOf.new ..) pl M N;change wpAny (model X.prog X.w) X.A (subscriptTail e (.Slice lo hi none f) v (.ref i.heap.objs.size)) (EP X a j Q) X.xe {i with heap:=i.heap.push {cls:=.type "slice",data:=.fields #[m,n,.none]}};show tail_any (ops:=[.ref i.heap.objs.size,v]) R P hg (by with_unfolding_all rfl)
def vI(a:List V)(lo hi:Option Int):List V:=(a.drop (HT.iF a.length 0 lo)).take (HT.iF a.length a.length hi-HT.iF a.length 0 lo)
def rJ(a:List V)(lo hi:Option Int):(vI a lo hi).length<=a.length:=by unfold vI;rw[mo,Nw];lia
def Lj(K:OZ):V->Option Int->Option Int->Hp->VK->Prop:=λx lo hi H Q=>∃a b,x=.ref a/\a0 K H a b/\¬(HT.iF b.length 0 lo=0/\HT.iF b.length b.length hi=b.length)/\∀p,H p=none->Q (.ref p) (aG H p (.tup (vI b lo hi)))
def IV:KJ X (Lj X.K):=by
 intro l s z H x v A B lo hi sl Q I p t pl u h;obtain⟨a,j,rfl,w,y,q⟩:=h;cases p;obtain⟨k,r,m,n⟩:=I.tuple w;have i:k.toArray.size=j.length:=by rw[il];show r.length.symm
 show{"tuple",_,PyProof.Rows.slot_tuple_getitem.lookup,m.typeIs,?_};show HT.pO m t pl u (by rw[i];show y) ?_ (by rw[i];show n);rw[i];show{.ref s.heap.objs.size,_,I.laid (t':=s.toks) (o:=.tup (vI j lo hi)) (λb ob q=>c_ _ q) (e_ _) ?_,(),q _ (I.hok.fresh (e_ _))};show{kl (rJ j lo hi) n,_,(r.drop (HT.iF j.length 0 lo)).take (HT.iF j.length j.length hi-HT.iF j.length 0 lo),IsTup.new _ _}
def HL(K:OZ):R2:=λx y H Q=>∃a b i h,x=.ref a/\y=.ref b/\a0 K H a i/\a0 K H b h/\i≠[]/\i.length+h.length<=sizeLine/\(h=[]->Q (.ref a) H)/\(h≠[]->∀p,H p=none->Q (.ref p) (aG H p (.tup (i++h))))
def aY.nil_iff(r:aY a h):h=[]↔a=[]:=by cases r with|nil=>simp|cons _ _=>simp
def GH:kU X (binaryOp .Add) (HL X.K):=by intro j s G H x y v u Q I m n h;obtain⟨a,b,p,r,rfl,rfl,t,A,B,k,C,D⟩:=h;cases m;cases n;obtain⟨E,i,F,_⟩:=I.tuple t;obtain⟨l,r2,f,_⟩:=I.tuple A;show HT.Hn F f (λz=>B (i.nil_iff.mp z)) (λz=>{.ref a,H,I,(),C (r2.nil_iff.mp z)}) (λz=>?_) (by rw[<-i.length,<-r2.length];show k);show{.ref s.heap.objs.size,_,I.laid (t':=s.toks) (o:=.tup (p++r)) (λb ob q=>c_ _ q) (e_ _) ?_,(),D (λw=>z (r2.nil_iff.mpr w)) _ (I.hok.fresh (e_ _))};show{by rw[hQ];show k,_,i.append r2,IsTup.new _ _}
end
def G7(n:Nat)(i:Int):Option Nat:=if 0<=i then(if i<n then some i.toNat else none)else if-(n:Int)<=i then some (i+n).toNat else none
def qO{a:Type}(c:List a)(i:Int):Option a:=(G7 c.length i).bind λj=>c[j]?
def Bn(h:G7 n i=some j):seqIndex? i n=some j/\j<n/\-(n:Int)<=i/\i<n:=by
 unfold G7 at h
 by_cases h0:0<=i
 ·rw[hY h0]at h
  by_cases h1:i<n
  ·rw[hY h1]at h;have e:i.toNat=j:=iA h;show{by rw[seqIndex_of h0 h1,e],by lia,by lia,h1}
  ·rw[h_ h1]at h;cases h
 ·rw[h_ h0]at h
  by_cases h1:-(n:Int)<=i
  ·rw[hY h1]at h;have e:(i+n).toNat=j:=iA h;show{by rw[seqIndex_neg (by lia) h1,e],by lia,h1,by lia}
  ·rw[h_ h1]at h;cases h
def xS(h:qO a i=some v):∃j,seqIndex? i a.length=some j/\a[j]?=some v/\j<a.length/\-(a.length:Int)<=i/\i<a.length:=by unfold qO at h;cases e:G7 a.length i with|none=>rw[e]at h;cases h|some j=>rw[e]at h;obtain⟨h1,h2,h3,h4⟩:=Bn e;show(j,h1,h,h2,h3,h4,)
def xU(b:Expr):Prop:=∀o i,subscripted b false o i=operate [o,i] (getItem o i)
def KL(X:Cx)(r:R2):Prop:=∀(c a:Expr)(b:O1)(s:Shared)(d:St)(H:Hp)(x y:V)(v u:Value)(Q:VK),aN X b d H s->aX x v->aX y u->r x y H Q->subscripted a false v u=operate [v,u] (getItem v u)->wpAny (model X.prog X.w) X.A (subscriptTail c a v u) (EP X b d Q) X.xe s
def Md(X:Cx)(id:String)(r:V->List V->Hp->VK->Prop):Prop:=∀(a:O1)(s:Shared)(b:St)(H:Hp)(x:V)(c:List V)(v:Value)(d:O3)(Q:VK),aN X a b H s->aX x v->aY c d->r x c H Q->wpAny (model X.prog X.w) X.A (call (.builtin id) (v::d)) (EP X a b Q) X.xe s
section
variable{X:Cx}{a b:Expr}{E F:TE}{D:Pos}
def yF(d:KL X r)(e:PE X a E)(f:PE X b F)(g:xU b):PE X (.Subscript a b D) (Kw r E F):=by intro c s i H Q I h;show Subscript_ (Kf e f I h λv u j x y k l m n q=>d a b c j i k x y v u Q l m n q (g _ _))
def Je(K:OZ):R2:=λx y H Q=>∃p c i v,x=.ref p/\y=.int i/\aR K H p c/\qO c i=some v/\Q v H
def Jd(K:OZ):R2:=λx y H Q=>∃p c i v,x=.ref p/\y=.int i/\a0 K H p c/\qO c i=some v/\Q v H
def MP:R2:=λx y H Q=>∃z i c,x=.str z/\y=.int i/\z.length<=sizeLine/\qO z.cps.toList i=some c/\Q (.str {#[c]}) H
def G5:KL X (Je X.K):=by
 intro d e c s l H x y v u Q I o A h m;obtain⟨p,L,i,z,rfl,rfl,B,C,q⟩:=h;cases o;obtain⟨t,rfl⟩:=A;obtain⟨f,r,pl,M⟩:=I.list B;obtain⟨j,h1,h2,h3,h4,h5⟩:=xS C;obtain⟨w,n,g⟩:=r.get h2;have G:=r.length;have hn:=qo;have fin:EP X c l Q w s:=(z,H,I,g,q,)
 by_cases h0:0<=i
 ·have k:i.toNat=j:=by rw[seqIndex_of h0 h5]at h1;show iA h1
  show item_listR pl.isList h0 (by lia) (by rw[k];simpa using n) fin m
 ·have k:(i+(f.toArray.size:Int)).toNat=j:=by rw[seqIndex_neg (by lia) h4]at h1;rw[il,<-G];show iA h1
  show subscriptTail_builtinR (x:=w) pl.isList.typeIs slot_list_getitem.lookup (wpAny_getItem_list_neg (Q:=λr J=>r=w/\EP X c l Q r J) pl.isList (by lia) (by rw[il]<;>lia) (by lia) (by rw[k];simpa using n) {(),fin}) m
def JU:KL X (Jd X.K):=by intro d e c s g H x y v u Q I k l h m;obtain⟨p,J,i,z,rfl,rfl,n,o,q⟩:=h;cases k;obtain⟨t,rfl⟩:=l;obtain⟨A,r,pl,L⟩:=I.tuple n;obtain⟨j,h1,h2,h3,h4,h5⟩:=xS o;obtain⟨w,B,f⟩:=r.get h2;have C:=r.length;have hn:=qo;have fin:EP X c g Q w s:=(z,H,I,f,q,);show subscriptTail_builtinR (x:=w) pl.typeIs slot_tuple_getitem.lookup (getItem_tuple (j:=j) (Q:=λr G=>r=w/\EP X c g Q r G) pl (by lia) (by lia) (by rw[il,<-C];show h1) (by simpa using B) {(),fin}) m
def Ar:KL X MP:=by
 intro d e f s r H x y v u Q I g k h l;obtain⟨z,i,c,rfl,rfl,w,m,q⟩:=h;obtain⟨t,rfl⟩:=g;obtain⟨A,rfl⟩:=k;obtain⟨j,h1,h2,h3,h4,h5⟩:=xS m;have n:z.cps.toList.length=z.length:=by simp[Str.length]
 rw[n]at h1 h4 h5;have hn:=qo;show tail_any (typeIs_str s z t) slot_str_getitem.lookup (getItem_str (c:=c) (by have o:decide (i< -(2^63:Int))=false:=lm (by lia);have p:decide (i>=2^63)=false:=lm (by lia);rw[o,p,Bool.or_false]) (by rw[h1];simpa using h2) {.str {#[c]},H,I.tok _,{_,()},q}) l
def Am(c:O3)(n j:Nat)(u:Value):Obj.mapSeq (·.setIfInBounds j u) {cls:=.type "list",data:=.seq c.toArray n}={cls:=.type "list",data:=.seq (c.set j u).toArray n}:=by simp[Obj.mapSeq]
theorem aN.lst(I:aN X d g H s)(h:H p=some (.lst f)):∃(c:O3)(n:Nat),aY f c/\s.heap.get? p=some {cls:=.type "list",data:=.seq c.toArray n}/\f.length<=sizeLine:=by obtain⟨z,c,n,r,e⟩:=I.hok p _ h;show(c,n,r,e,z,)
def aN.lstUpd{d:O1}{l:St}{H:Hp}{s:Shared}{p:Addr}{o i:List V}{g c:O3}{n j:Nat}{f:Obj->Obj}(I:aN X d l H s)(h:H p=some (.lst o))(v:s.heap.get? p=some {cls:=.type "list",data:=.seq g.toArray n})(m:f {cls:=.type "list",data:=.seq g.toArray n}={cls:=.type "list",data:=.seq c.toArray j})(r:aY i c)(w:i.length<=sizeLine)(t:Nat):aN X d l (aG H p (.lst i)) {s with heap:=s.heap.update p f,toks:=t}:=by
 have e:(s.heap.update p f).get? p=some {cls:=.type "list",data:=.seq c.toArray j}:=by rw[sD f v (by rw[m]<;>rfl),m]
 show I.write (x:=p) (e:=p) (by rw[h];trivial) (.inl ()) (λb u k q=>(t_ _ _ (oi k)).trans q) {_,e} ?_;show(w,c,j,r,e,)
def Lm:V->V->V->Hp->(Hp->Prop)->Prop:=λo i v H Q=>∃p c k j,o=.ref p/\i=.int k/\H p=some (.lst c)/\G7 c.length k=some j/\Q (aG H p (.lst (c.set j v)))
def DL:HD X Lm:=by
 intro c s w H o i v G iv u Q I x y z h;obtain⟨p,A,k,j,rfl,rfl,l,B,q⟩:=h;cases x;obtain⟨t,rfl⟩:=y;obtain⟨d,n,r,e,C⟩:=I.lst l;obtain⟨h1,h2,h3,h4⟩:=Bn B;have f:=r.length;have hn:=qo;have m:aN X c w (aG H p (.lst (A.set j v))) {s with heap:=s.heap.update p (Obj.mapSeq (·.setIfInBounds j u))}:=I.lstUpd l e (Am d n j u) (r.set z j) (by rw[w1];show C) s.toks
 by_cases h0:0<=k
 ·have g:k.toNat=j:=by rw[seqIndex_of h0 h4]at h1;show iA h1
  show PySem.W.ki_setAt e h0 (by lia) (by rw[il,<-f];show h4) (by rw[g];show{_,m,q})
 ·have g:(k+(d.toArray.size:Int)).toNat=j:=by rw[seqIndex_neg (by lia) h3]at h1;rw[il,<-f];show iA h1
  show PySem.W.ki_setBack e (by lia) (by rw[il,<-f];show h3) (by lia) (by rw[g];show{_,m,q})
def xf(lo hi:Option Int)(n:Nat):(sliceBounds lo hi none n).1=((HT.iF n 0 lo:Nat):Int)/\(sliceBounds lo hi none n).2.1=((HT.iF n n hi:Nat):Int)/\(sliceBounds lo hi none n).2.2=1:=by
 show{?_,?_,()}
 ·cases lo with|none=>simp[sliceBounds,HT.iF]|some i=>
   simp only[sliceBounds,HT.iF,Option.getD_none,show(1:Int)>0 by decide,OE]
   by_cases h:i<0
   ·simp only[h,OE]<;>lia
   ·simp only[h,N3]<;>lia
 ·cases hi with|none=>simp[sliceBounds,HT.iF]|some i=>
   simp only[sliceBounds,HT.iF,Option.getD_none,show(1:Int)>0 by decide,OE]
   by_cases h:i<0
   ·simp only[h,OE]<;>lia
   ·simp only[h,N3]<;>lia
def vd(c:O3)(lo hi:Option Int):slicePick c.toArray lo hi none=((c.drop (HT.iF c.length 0 lo)).take (HT.iF c.length c.length hi-HT.iF c.length 0 lo)).toArray:=by obtain⟨h1,h2,h3⟩:=xf lo hi c.toArray.size;unfold slicePick;rw[h1,h2,h3];simp only[sliceRange_one,pick_run,il]<;>rfl
def Lk(K:OZ):V->Option Int->Option Int->Hp->VK->Prop:=λx lo hi H Q=>∃a c,x=.ref a/\aR K H a c/\∀p,H p=none->Q (.ref p) (aG H p (.lst (vI c lo hi)))
def Gq:KJ X (Lk X.K):=by intro e s n H x v p t lo hi sl Q I g i pl j h;obtain⟨a,c,rfl,k,q⟩:=h;cases g;obtain⟨l,r,f,m⟩:=I.list k;have d:=r.length;show{"list",_,slot_list_getitem.lookup,f.isList.typeIs,?_};show wpAny_getItem_list_slice f.isList i pl j .none (by simp) ?_ (by rw[il]<;>lia);rw[vd,<-d];show{.ref s.heap.objs.size,_,I.laid (t':=s.toks) (o:=.lst (vI c lo hi)) (λb ob q=>c_ _ q) (e_ _) ?_,(),q _ (I.hok.fresh (e_ _))};show{kl (rJ c lo hi) m,_,0,(r.drop (HT.iF c.length 0 lo)).take (HT.iF c.length c.length hi-HT.iF c.length 0 lo),g_ _ ()}
def nP:V->Bool|.non=>true|.bl _=>true|.int _=>true|.str _=>true|_=>false
def HW:V->V->Bool|.non,.non=>true|.bl a,.bl b=>a==b|.bl a,.int b=>(if a then 1 else 0)==b|.int a,.bl b=>a==(if b then 1 else 0)|.int a,.int b=>a==b|.str a,.str b=>a==b|_,_=>false
def J8(e:aX y u)(c:aX x v)(g:nP y=true)(f:nP x=true):SeqAt.EqAt A s u v (HW y x):=by cases y with
 |non=>cases e;cases x with|non=>cases c;show SeqAt.EqAt.same _|bl b=>cases c;show SeqAt.EqAt.none_bool b|int b=>obtain⟨t,rfl⟩:=c;show SeqAt.EqAt.none_int b t|str b=>obtain⟨t,rfl⟩:=c;show SeqAt.EqAt.none_str b t|_=>show absurd (show false=true from f) ji
 |bl a=>cases e;cases x with|non=>cases c;show SeqAt.EqAt.bool_none a|bl b=>cases c;show SeqAt.EqAt.bool_bool a b|int b=>obtain⟨t,rfl⟩:=c;show SeqAt.EqAt.bool_int a b t|str b=>obtain⟨t,rfl⟩:=c;show SeqAt.EqAt.bool_str a b t|_=>show absurd (show false=true from f) ji
 |int a=>obtain⟨d,rfl⟩:=e;cases x with|non=>cases c;show SeqAt.EqAt.int_none a d|bl b=>cases c;show SeqAt.EqAt.int_bool a d b|int b=>obtain⟨t,rfl⟩:=c;show SeqAt.EqAt.int_int a d b t|str b=>obtain⟨t,rfl⟩:=c;show SeqAt.EqAt.int_str a d b t|_=>show absurd (show false=true from f) ji
 |str a=>obtain⟨d,rfl⟩:=e;cases x with|non=>cases c;show SeqAt.EqAt.str_none a d|bl b=>cases c;show SeqAt.EqAt.str_bool a d b|int b=>obtain⟨t,rfl⟩:=c;show SeqAt.EqAt.str_int a d b t|str b=>obtain⟨t,rfl⟩:=c;show SeqAt.EqAt.str_str a d b t|_=>show absurd (show false=true from f) ji
 |_=>show absurd (show false=true from g) ji
def AA(x:V)(u:Value):Bool:=match u with|.none=>HW .non x|.bool b=>HW (.bl b) x|.int i _=>HW (.int i) x|.str z _=>HW (.str z) x|_=>false
def E5(r:aX y u)(f:nP y=true):AA x u=HW y x:=by cases y with|non=>cases r;rfl|bl b=>cases r;rfl|int i=>obtain⟨t,rfl⟩:=r;rfl|str z=>obtain⟨t,rfl⟩:=r;rfl|_=>show absurd (show false=true from f) ji
theorem pT:∀{c:List V}{d:O3},aY c d->c.all nP=true->d.any (AA x)=c.any λy=>HW y x|_,_,.nil,_=>()|y::c,u::d,.cons r t,f=>by rw[Ny,mu]at f;rw[yl,yl,E5 r f.1,pT t f.2]
theorem mn(g:aX x v)(h:nP x=true):∀{d:List V}{e:O3},aY d e->d.all nP=true->∀u∈e,SeqAt.EqAt A s u v (AA x u)
 |_,_,.nil,_=>λu c=>by cases c|y::d,u::e,.cons r t,f=>λi c=>by
  rw[Ny,mu]at f;rcases s_.mp c with rfl|c
  ·rw[E5 r f.1];show J8 r g f.1 h
  ·show mn g h t f.2 i c
def nO(x:V)(c:List V):Bool:=c.any λy=>HW y x
def Mq(K:OZ)(d:Bool):R2:=λx y H Q=>∃p c,y=.ref p/\(aR K H p c\/a0 K H p c)/\nP x=true/\c.all nP=true/\Q (.bl (if d then !nO x c else nO x c)) H
def Cf:kU X (compareOp .In) (Mq X.K false):=by
 intro f s l H x y v u Q I g j h;obtain⟨p,m,rfl,d,i,fs,q⟩:=h;cases j;rcases d with d|d
 ·obtain⟨c,r,pl,k⟩:=I.list d;show SeqAt.in_listAt (AA x) pl.isList (λw e=>mn g i r fs w (by simpa using e)) {.bl _,H,I,(),?_};rw[show c.toArray.any (AA x)=c.any (AA x)by simp,pT r fs];show q
 ·obtain⟨c,r,pl,k⟩:=I.tuple d;show SeqAt.in_tupleAt (AA x) pl (λw e=>mn g i r fs w (by simpa using e)) {.bl _,H,I,(),?_};rw[show c.toArray.any (AA x)=c.any (AA x)by simp,pT r fs];show q
def xq:kU X (compareOp .NotIn) (Mq X.K true):=by
 intro f s l H x y v u Q I g j h;obtain⟨p,m,rfl,d,i,fs,q⟩:=h;cases j;rcases d with d|d
 ·obtain⟨c,r,pl,k⟩:=I.list d;show SeqAt.notIn_listAt (AA x) pl.isList (λw e=>mn g i r fs w (by simpa using e)) {.bl _,H,I,(),?_};rw[show c.toArray.any (AA x)=c.any (AA x)by simp,pT r fs];show q
 ·obtain⟨c,r,pl,k⟩:=I.tuple d;show SeqAt.notIn_tupleAt (AA x) pl (λw e=>mn g i r fs w (by simpa using e)) {.bl _,H,I,(),?_};rw[show c.toArray.any (AA x)=c.any (AA x)by simp,pT r fs];show q
def xM:cP X (.type "list") (λv H Q=>∃p d,v=[.ref p]/\(aR X.K H p d\/a0 X.K H p d)/\∀l,H l=none->Q (.ref l) (aG H l (.lst d))):=by
 intro i s y H v A Q I r h;obtain⟨p,d,rfl,j,q⟩:=h;obtain⟨u,rfl,z⟩:=ka r;cases z;have fin:∀(c:O3),aY d c->d.length<=sizeLine->∀(h':Heap)(f:Nat),(∀b x,s.heap.get? b=some x->h'.get? b=some x)->h'.get? s.heap.objs.size=some {cls:=.type "list",dict:=none,data:=.seq c.toArray f,slots:=#[]}->EP X i y Q (.ref s.heap.objs.size) {s with heap:=h'}:=λc g k h' f kp e=>{.ref s.heap.objs.size,_,I.laid (t':=s.toks) kp (e_ _) (show c6 X.prog X.w _ h' _ (.lst d)from(k,c,f,g,e,)),(),q _ (I.hok.fresh (e_ _))}
 rcases j with j|j
 ·obtain⟨c,g,pl,k⟩:=I.list j;have m:=g.length;obtain⟨o,t,hc,n,hd⟩:=pl.isList;show call_list_seq p (.inl ()) t hc hd (λh' f kp e=>fin c g k h' f kp e) (by simp only[il]<;>lia)
 ·obtain⟨c,g,pl,k⟩:=I.tuple j;have m:=g.length;obtain⟨o,t,hc,n,hd⟩:=pl;show call_list_seq p (.inr ()) t hc hd (λh' f kp e=>fin c g k h' f kp e) (by simp only[il]<;>lia)
def vK:cP X (.type "tuple") (λj H Q=>∃p f,j=[.ref p]/\((aR X.K H p f/\∀l,H l=none->Q (.ref l) (aG H l (.tup f)))\/(a0 X.K H p f/\Q (.ref p) H))):=by
 intro c s k H j y Q I r h;obtain⟨p,f,rfl,h⟩:=h;obtain⟨u,rfl,t⟩:=ka r;cases t;rcases h with⟨g,q⟩|⟨g,q⟩
 ·obtain⟨d,i,pl,m⟩:=I.list g;have n:=i.length;show call_tuple_list pl.isList (λh' kp=>?_) (by simp only[il]<;>lia);have I1:aN X c k H {s with heap:=h'}:=I.kept (t':=s.toks) kp;have x:aN X c k (aG H h'.objs.size (.tup f)) {s with heap:=h'.push {cls:=.type "tuple",data:=.seq d.toArray}}:=I1.laid (t':=s.toks) (λb o e=>c_ _ e) (e_ _) (show c6 X.prog X.w _ _ _ (.tup f)from{m,d,i,IsTup.new _ _})
  show{.ref h'.objs.size,_,x,(),q _ (I1.hok.fresh (e_ _))}
 ·obtain⟨d,i,pl,m⟩:=I.tuple g;show call_tuple_same pl {.ref p,H,I,(),q}
def MC(K:OZ)(T:String)(x:V)(H:Hp):Prop:=match x with|.str _=>T="str"|.int _=>T="int"|.ref p=>(T="list"/\∃d,aR K H p d)\/(T="tuple"/\∃o,K.lookup p=some o/\o.cls=.type "tuple"/\o.dict=none)\/(T="dict"/\((∃c,H p=some (.dK c))\/∃c,H p=some (.dT c)))\/(T="set"/\∃S n,H p=some (.set S n))|_=>False
def C4(I:aN X h l H s)(r:aX x v)(ty:MC X.K T x H):
 s.TypeIs v T/\∀a,v=.ref a->∃ob,s.heap.get? a=some ob/\ob.dict=none:=by cases x with|str z=>obtain⟨t,rfl⟩:=r;cases(show T="str"from ty);show{typeIs_str s z t,λ_ e=>nomatch e}|int i=>obtain⟨t,rfl⟩:=r;cases(show T="int"from ty);show{typeIs_int s i t,λ_ e=>nomatch e}|ref p=>
  cases r;rcases ty with⟨rfl,m,j⟩|⟨rfl,o,d,hc,hd⟩|⟨rfl,d⟩|⟨rfl,S,n,d⟩
  ·obtain⟨k,_,pl,_⟩:=I.list j;show{pl.isList.typeIs,λa e=>?_};cases e;obtain⟨o,n,e,c,hd,_⟩:=pl;show(o,e,hd,)
  ·show{{o,I.kIn p o d,hc},λa e=>?_};cases e;show{o,I.kIn _ o d,hd}
  ·have z:∃o,s.heap.get? p=some o/\o.ExactDict:=by
    rcases d with⟨f,d⟩|⟨f,d⟩
    ·obtain⟨_,_,_,_,o,_,_,e,ex,_⟩:=I.hok p _ d;show(o,e,ex,)
    ·obtain⟨_,_,_,_,o,_,_,e,ex,_⟩:=I.hok p _ d;show(o,e,ex,)
   obtain⟨o,e,ex⟩:=z;show{(o,e,ex.1,),λa g=>?_};cases g;show(o,e,ex.2.1,)
  ·obtain⟨o,_,_,_,e,ex,_⟩:=I.hok p _ d;show{(o,e,ex.1,),λa g=>?_};cases g;show(o,e,ex.2.1,)|_=>show False.elim ty
def K4(K:OZ)(T:String)(r:V->List V->Hp->VK->Prop)(B:TE):TE:=λd H Q=>B d H λx c=>MC K T x c/\r x [] c Q
def tBM(K:OZ)(T:String)(r:V->List V->Hp->VK->Prop)(B:TE)(t:TA):TE:=λc H Q=>B c H λx d=>MC K T x d/\t c d λe f=>r x e f Q
variable{o e:Expr}{C:O6}{B:TE}{t:TA}{g:Str}{m d:Pos}{T id:String}{r:V->List V->Hp->VK->Prop}
def Jp(n:PlainAttrs T)(slot:Slot T g id)(j:typeOf (.builtin id)=pure (.type "method_descriptor"))(hm:Md X id r)(p:PE X o B)(f:attributeBase o g X.env (eval o X.env)=eval o X.env:=by rfl)(i:(m.endLine==d.line)=true:=by rfl):PE X (.Call (.Attribute o g m) [] [] d) (K4 X.K T r B):=by intro c s k H Q I h;show N1 f i (cw (p c s k H _ I h) λv q u=>?_);obtain⟨x,w,I1,l,ty,y⟩:=u;obtain⟨h1,h2⟩:=C4 I1 l ty;show{T,id,n,slot,j,h1,h2,ri () (PySem.evalArgs_none (hm c q k w x [] v [] Q I1 l .nil y))}
def Lv(w:PlainAttrs T)(slot:Slot T g id)(n:typeOf (.builtin id)=pure (.type "method_descriptor"))(hm:Md X id r)(y:PE X o B)(z:PA X (e::C) t)(i:attributeBase o g X.env (eval o X.env)=eval o X.env:=by rfl)(l:((backTo d (starEach (e::C) X.env)).all (λx=>!x.1)&&(backToKw d (keywordEach [] X.env)).all (λx=>x.1.isSome)&&decide ((e::C).length+([]:List Keyword).length+(if([]:List Keyword).isEmpty then 0 else 1)<30))=true:=by rfl)(j:(m.endLine==d.line)=true:=by rfl)(A:starEach (e::C) X.env=(false,eval e X.env)::starEach C X.env:=by rfl)(f:(backTo d (starEach C X.env)).any (·.1)=false:=by rfl):PE X (.Call (.Attribute o g m) (e::C) [] d) (tBM X.K T r B t):=by intro c s k H Q I h;show wpAny_Call_method_late i l j () (cw (y c s k H _ I h) λv G p=>?_);obtain⟨x,J,I1,q,ty,L⟩:=p;obtain⟨h1,h2⟩:=C4 I1 q ty;show{T,id,w,slot,n,h1,h2,?_};have u:=z d c G k J _ I1 L;rw[A]at u⊢;show ri (by change(false||(backTo d (starEach C X.env)).any (·.1))=false;rw[f]<;>rfl) (vu ?_);show cw u λM N p=>?_;obtain⟨O,P,R,r2,S⟩:=p;show hm c N k P x O v M Q R q r2 S
end
def Mw(X:Cx)(id:String)(r:V->List V->Hp->VK->Prop):Prop:=∀(a:O1)(s:Shared)(b:St)(H:Hp)(x:V)(c:List V)(v:Value)(d:O3)(Q:VK),aN X a b H s->aX x v->aY c d->r x c H Q->wpAny (model X.prog X.w) X.A (call (.builtin id) (v::d)) (EP X a b Q) X.xe s
def aY.one:∀{x:V}{a:O3},aY [x] a->∃u,a=[u]/\aX x u|_,_,.cons r .nil=>{_,(),r}
def aY.zero:∀{a:O3},aY [] a->a=[]|_,.nil=>()
theorem aY.eraseIdx:∀{a:List V}{c:O3}(i:Nat),aY a c->aY (a.eraseIdx i) (c.eraseIdx i)|_,_,_,.nil=>.nil|_,_,0,.cons _ t=>t|_,_,i+1,.cons r t=>.cons r (aY.eraseIdx i t)
theorem aY.reverse(h:aY a c):aY a.reverse c.reverse:=by induction h with|nil=>show .nil|cons r t b=>rw[List.reverse_cons,List.reverse_cons];show aY.append b (.cons r .nil)
theorem aY.rep(h:aY a c):∀k:Nat,aY (List.replicate k a).flatten (List.replicate k c).flatten|0=>.nil|k+1=>by rw[r_,r_,E_,E_];show aY.append h (aY.rep h k)
theorem wE:∀(l:List a)(i:Nat),(l.eraseIdx i).length<=l.length|[],_=>e_ _|_::_,0=>ry _|_::r,i+1=>r4 (wE r i)
theorem wL(a:O3):∀(k:Nat)(c:O3),List.foldl (λd f=>d++f) c.toArray (List.replicate k a.toArray)=(c++(List.replicate k a).flatten).toArray
 |0,c=>by simp|k+1,c=>by
  have e:c.toArray++a.toArray=(c++a).toArray:=by simp
  have b:(c++a)++(List.replicate k a).flatten=c++(List.replicate (k+1) a).flatten:=by rw[r_,E_,z8]
  rw[<-b,<-wL a k (c++a),<-e,r_,w_]
section
variable{X:Cx}{a:O1}{c:St}{H:Hp}{s:Shared}{l:Addr}{d ys:List V}
def aN.lset{h its':O3}{n:Nat}{f:Array Value->Array Value}{i:Nat}(I:aN X a c H s)(j:H l=some (.lst d))(e:s.heap.get? l=some {cls:=.type "list",data:=.seq h.toArray n})(m:f h.toArray=its'.toArray)(o:aY ys its')(p:ys.length<=sizeLine):aN X a c (aG H l (.lst ys)) {s with heap:=s.heap.update l (Obj.mapSeq f),toks:=i}:=by have q:=PySem.IsL.update e f;rw[m]at q;show I.write (x:=l) (e:=l) (by rw[j];show trivial) (.inl ()) (λt u k r=>(t_ s.heap (Obj.mapSeq f) (oi k)).trans r) {_,q} ?_;show{p,its',_,o,q}
def aN.lnew(I:aN X a c H s)(f:aY ys e)(h:ys.length<=sizeLine):aN X a c (aG H s.heap.objs.size (.lst ys)) {s with heap:=s.heap.push {cls:=.type "list",data:=.seq e.toArray},toks:=t'}:=I.laid (λ_ _ q=>c_ _ q) (e_ _) {h,e,0,f,g_ _ ()}
theorem aN.fresh(I:aN X a c H s):H s.heap.objs.size=none:=I.hok.fresh (e_ _)
def aN.lstM(I:aN X a c H s)(h:H l=some (.lst d)):d.length<=sizeLine/\∃(f:O3)(n:Nat),aY d f/\d.length=f.length/\s.heap.get? l=some {cls:=.type "list",data:=.seq f.toArray n}:=by obtain⟨z,f,n,r,e⟩:=I.hok l _ h;show(z,f,n,r,r.length,e,)
def yU{n:Nat}(h:n<=sizeLine):Builtin.List.listTooLong n=false:=by unfold Builtin.List.listTooLong;show lm (by lia)
end
section
variable{X:Cx}
def Gu:V->List V->Hp->VK->Prop:=λx b H Q=>∃l a y,x=.ref l/\b=[y]/\H l=some (.lst a)/\a.length<sizeLine/\Q .non (aG H l (.lst (a++[y])))
def cK:Mw X "list.append" Gu:=by intro b s i H x j v k Q I f g h;obtain⟨l,m,y,rfl,rfl,c,o,q⟩:=h;cases f;obtain⟨u,rfl,ru⟩:=g.one;obtain⟨z,a,n,r,p,e⟩:=I.lstM c;show Oc F.slot_list_append {_,e,()} F.entry_list_append (F.args_list_append_2 _ _) (PySem.list_append l a.toArray n u (by rw[il];lia)) {e,?_};show{.non,_,I.lset (its':=a++[u]) c e (by simp) (r.append (.cons ru .nil)) ?_,(),q};rw[hQ,List.length_singleton];lia
def Gs:V->List V->Hp->VK->Prop:=λx d H Q=>∃l b a c,x=.ref l/\d=[.ref b]/\H l=some (.lst a)/\H b=some (.lst c)/\a.length+c.length<=sizeLine/\Q .non (aG H l (.lst (a++c)))
def wB:Mw X "list.extend" Gs:=by
 intro g s w H x y v A Q I k m h;obtain⟨l,b,B,C,rfl,rfl,i,o,D,q⟩:=h;cases k;obtain⟨u,rfl,ru⟩:=m.one;cases ru;obtain⟨z,c,n,r,E,e⟩:=I.lstM i;obtain⟨G,a,n2,r2,p,t⟩:=I.lstM o;have f:c.toArray.size+a.toArray.size<=sizeLine:=by rw[il,il];lia
 have d:¬(!c.toArray.isEmpty&&Builtin.List.listTooLong (c.toArray.size+a.toArray.size))=true:=by rw[yU f,Bool.and_false];show ji
 show Oc F.slot_list_extend {_,e,()} F.entry_list_extend (F.args_list_extend_2 _ _) (AutoSeq1.list_extend_list_list_0 l c.toArray n b a.toArray n2 d (by rw[il];lia) (by lia)) {e,t,?_}
 show{.non,_,I.lset (its':=c++a) i e (by simp) (r.append r2) ?_,(),q};rw[hQ];lia
def Jc:V->List V->Hp->VK->Prop:=λx b H Q=>∃l a i k y,x=.ref l/\b=[.int i]/\H l=some (.lst a)/\-(2^63)<=i/\i<2^63/\seqIndex? i a.length=some k/\a[k]?=some y/\Q y (aG H l (.lst (a.eraseIdx k)))
def Eh:Mw X "list.pop" Jc:=by
 intro c s C H x D v E Q I g j h;obtain⟨l,m,i,k,y,rfl,rfl,d,h1,h2,o,p,q⟩:=h;cases g;obtain⟨u,rfl,ru⟩:=j.one;obtain⟨t,rfl⟩:=ru;obtain⟨z,a,n,r,A,e⟩:=I.lstM d;obtain⟨w,B,b⟩:=r.get p;show Oc F.slot_list_pop {_,e,()} F.entry_list_pop (F.args_list_pop_2 _ _) (MeetsSeq.list_pop_at l a.toArray n i t k w (fitsIndex_both h1 h2) (by rw[il,<-A];show o) (by rw[<-rl];show B) (by rw[il];lia)) {e,?_}
 show{y,_,I.lset (its':=a.eraseIdx k) d e ?_ (r.eraseIdx k) ?_,b,q}
 ·change a.toArray.eraseIdxIfInBounds k=(a.eraseIdx k).toArray;rw[List.eraseIdxIfInBounds_toArray]
 ·have:=wE m k;lia
def Jg:V->List V->Hp->VK->Prop:=λx a H Q=>∃l b,x=.ref l/\a=[]/\H l=some (.lst b)/\Q .non (aG H l (.lst []))
def yZ:Mw X "list.clear" Jg:=by intro c s j H x k v m Q I g i h;obtain⟨l,o,rfl,rfl,d,q⟩:=h;cases g;have a:=i.zero;subst a;obtain⟨z,b,n,r,p,e⟩:=I.lstM d;show Oc F.slot_list_clear {_,e,()} F.entry_list_clear (F.args_list_clear_1 _) (AutoSeq1.list_clear_list_0 l b.toArray n (by rw[il];lia)) {e,?_};show{.non,_,I.lset (its':=[]) (ys:=[]) d e () .nil (lh _),(),q}
def MR:R2:=λx y H Q=>∃l b a c,x=.ref l/\y=.ref b/\H l=some (.lst a)/\H b=some (.lst c)/\a.length+c.length<=sizeLine/\∀p,H p=none->Q (.ref p) (aG H p (.lst (a++c)))
def Ab:kU X (binaryOp .Add) MR:=by
 intro d s p H x y v u Q I f g h;obtain⟨l,b,t,w,rfl,rfl,i,j,A,q⟩:=h;cases f;cases g;obtain⟨z,c,n,r,B,e⟩:=I.lstM i;obtain⟨C,a,n2,r2,k,m⟩:=I.lstM j;show PySem.P.add_list e m ?_ (by rw[il,il];lia);have o:c.toArray++a.toArray=(c++a).toArray:=by simp
 rw[o];show{.ref _,_,I.lnew (t':=s.toks) (r.append r2) (by rw[hQ];lia),(),q _ I.fresh}
def MN:R2:=λx y H Q=>∃l k a,x=.ref l/\y=.int k/\H l=some (.lst a)/\-(2^63)<=k/\k<2^63/\a.length*k.toNat<=sizeLine/\∀p,H p=none->Q (.ref p) (aG H p (.lst (List.replicate k.toNat a).flatten))
def GY(a:List c)(k:Nat):(List.replicate k a).flatten.length=k*a.length:=by induction k with|zero=>simp|succ k b=>rw[r_,E_,hQ,b,Nat.succ_mul,Nat.add_comm]
def D4:kU X (binaryOp .Mult) MN:=by
 intro p s G H x y v u Q I A B h;obtain⟨l,k,J,rfl,rfl,C,h1,h2,w,q⟩:=h;cases A;obtain⟨t,rfl⟩:=B;obtain⟨z,b,n,r,D,e⟩:=I.lstM C;have d:b.toArray.size*k.toNat<=sizeLine:=by rw[il,<-D];show w
 have f:¬b.toArray.size*k.toNat>(2^63-1)/8:=by
  have:(sizeLine:Nat)<=(2^63-1)/8:=by decide
  lia
 have g:¬(!Builtin.List.listFitsIndex k)=true:=by rw[fitsIndex_both h1 h2];show ji
 have c:¬Builtin.List.listTooLong (b.toArray.size*k.toNat)=true:=by rw[yU d];show ji
 have i:List.foldl (λj o=>j++o) #[] (List.replicate (if b.toArray.isEmpty=true then 0 else k.toNat) b.toArray)=(List.replicate k.toNat b).flatten.toArray:=by
  have f0:∀m:Nat,List.foldl (λj o=>j++o) #[] (List.replicate m b.toArray)=(List.replicate m b).flatten.toArray:=λm=>by have:=wL b m [];rw[List.nil_append]at this;show this
  rw[f0];cases b with|nil=>simp|cons a K=>rw[h_ (by simp)]
 show wpAny_binaryOp_repeat_ref (T:="list") (U:="int") (by decide) {_,e,()} (λE=>typeIs_int E k t) noFill_list_mul F.fills_int_mul F.slot_int_rmul repeat_list F.slot_int_index.lookup (Oc F.slot_int_rmul (typeIs_int s k t) F.entry_int_rmul (F.args_int_rmul_2 _ _) (int___rmul___int_list k t l b.toArray n) {e,(),{_,e,()},Oc F.slot_list_mul {_,e,()} F.entry_list_mul (F.args_list_mul_2 _ _) (AutoListH.list___mul___list_int_3 l b.toArray n k t g f c) {e,?_}})
 rw[i];show{.ref _,_,I.lnew (t':=s.toks) (r.rep k.toNat) (by rw[GY,Nat.mul_comm];show w),(),q _ I.fresh}
end
section
variable{c:Type}[DecidableEq c]
def bg(a:List (c×V))(k:c):Option V:=(a.find? λb=>decide (b.1=k)).map (·.2)
def fA(a:List (c×V))(k:c)(v:V):List (c×V):=if(a.any λb=>decide (b.1=k))=true then a.map (λb=>if b.1=k then(b.1,v)else b)else a++[(k,v)]
def dX(a:List (c×V))(k:c):List (c×V):=a.filter λb=>decide (b.1≠k)
def b7{p:c×V}{r:List (c×V)}{k:c}(e:p.1=k):bg (p::r) k=some p.2:=by simp[bg,rV,e]
def bv{p:c×V}{r:List (c×V)}{k:c}(e:¬p.1=k):bg (p::r) k=bg r k:=by simp[bg,rV,e]
theorem lP(k:c):∀a:List (c×V),(a.any λd=>decide (d.1=k))=(bg a k).isSome
 |[]=>()|p::r=>by
  rw[yl]
  by_cases e:p.1=k
  ·simp only[b7 e,k_ e,Bool.true_or,Option.isSome_some]
  ·rw[bv e,lm e,Bool.false_or];show lP k r
theorem x8(k j:c)(y:V):∀a:List (c×V),bg (a.map λd=>if d.1=k then(d.1,y)else d) j=(bg a j).map λx=>if j=k then y else x
 |[]=>()|p::r=>by
  have b:=x8 k j y r;rw[m3]
  by_cases h:p.1=k
  ·rw[hY h]
   by_cases e:p.1=j
   ·rw[b7 (p:=(p.1,y)) e,b7 e,Nj,hY (e.symm.trans h)]
   ·rw[bv (p:=(p.1,y)) e,bv e,b]
  ·rw[h_ h]
   by_cases e:p.1=j
   ·rw[b7 (p:=p) e,b7 e,Nj,h_ (λz=>h (e.trans z))]
   ·rw[bv (p:=p) e,bv e,b]
theorem vY(k j:c)(y:V):∀a:List (c×V),bg a k=none->bg (a++[(k,y)]) j=if j=k then some y else bg a j
 |[],_=>by
  by_cases e:k=j
  ·rw[hY e.symm];show b7 (p:=(k,y)) e
  ·rw[h_ (λz=>e z.symm)];show bv (p:=(k,y)) e|p::r,hn=>by
  rw[List.cons_append];have b:¬p.1=k:=λz=>by rw[b7 z]at hn;cases hn
  rw[bv b]at hn;have d:=vY k j y r hn
  by_cases e:p.1=j
  ·rw[b7 e,b7 e,h_ (λz=>b (e.trans z))]
  ·rw[bv e,bv e,d]
def C3(d:List (c×V))(k j:c)(y:V):bg (fA d k y) j=if j=k then some y else bg d j:=by
 unfold fA
 by_cases a:(d.any λb=>decide (b.1=k))=true
 ·rw[hY a,x8];rw[lP]at a
  by_cases e:j=k
  ·obtain⟨x,f⟩:=sT.mp a;rw[hY e,e,f,Nj,hY ()]
  ·rw[h_ e];cases bg d j with|none=>rfl|some x=>rw[Nj,h_ e]
 ·rw[h_ a];show vY k j y d ?_;rw[lP]at a;cases q:bg d k with|none=>rfl|some x=>rw[q]at a;show(a ()).elim
def mq(a:List (c×V))(k:c)(v:V):(fA a k v).length<=a.length+1:=by
 unfold fA
 split
 ·rw[b_];lia
 ·rw[hQ,m_,OW];lia
def pj{a:List (c×V)}{k:c}(v:V)(h:bg a k=none):fA a k v=a++[(k,v)]:=by unfold fA;rw[lP,h];show h_ (by decide)
def kS.isSome_eq(r:kS o u):o.isSome=u.isSome:=by cases o with
 |none=>cases u with|none=>rfl|some _=>show(show False from r).elim
 |some _=>cases u with|none=>show(show False from r).elim|some _=>rfl
theorem kS.getD(r:kS o u)(a:aX d e):aX (o.getD d) (u.getD e):=by cases o with
 |none=>cases u with|none=>show a|some _=>show(show False from r).elim
 |some _=>cases u with|none=>show(show False from r).elim|some _=>show r
def KV.val{a:List (c×V)}{g:List (c×Value)}(r:KV a g)(k:c):kS (bg a k) (valueAt g k):=by
 unfold KV at r
 induction r with|nil=>show True.intro|@cons p q j d h t i=>
  obtain⟨h1,h2⟩:=h
  by_cases e:p.1=k
  ·have f:q.1=k:=h1.symm.trans e;have b:valueAt (q::d) k=some q.2:=by simp[valueAt,rV,f]
   rw[b7 e,b];show h2
  ·have f:¬q.1=k:=λz=>e (h1.trans z);have b:valueAt (q::d) k=valueAt d k:=by simp[valueAt,rV,f]
   rw[bv e,b];show i
theorem KV.any(r:KV a e)(k:c):(a.any λd=>decide (d.1=k))=e.any λd=>decide (d.1=k):=by
 unfold KV at r
 induction r with|nil=>rfl|cons h t b=>rw[yl,yl,b,h.1]
def KV.repl(r:KV d f)(k:c)(g:aX y u):KV (d.map λa=>if a.1=k then(a.1,y)else a) (f.map λa=>if a.1=k then(a.1,u)else a):=by
 unfold KV at r⊢
 induction r with|nil=>show .nil|@cons p q i j h t b=>
  rw[m3,m3];show .cons ?_ b;obtain⟨h1,h2⟩:=h
  by_cases e:p.1=k
  ·rw[hY e,hY (h1.symm.trans e)];show(h1,g,)
  ·rw[h_ e,h_ (λz=>e (h1.trans z))];show(h1,h2,)
def KV.put(r:KV a vs)(k:c)(d:aX y u):KV (fA a k y) (stored vs k u):=by
 unfold fA stored;rw[r.any k]
 by_cases e:(vs.any λb=>decide (b.1=k))=true
 ·rw[hY e,hY e];show r.repl k d
 ·rw[h_ e,h_ e];show Paired.snoc r {(),d}
def KV.drop(r:KV d g)(k:c):KV (dX d k) (without g k):=by
 unfold KV at r⊢;unfold dX without
 induction r with|nil=>show .nil|@cons p q j l h t f=>
  obtain⟨h1,h2⟩:=h;rw[N9,N9]
  by_cases e:p.1=k
  ·have a:¬decide (p.1≠k)=true:=by simp[e]
   have b:¬decide (q.1≠k)=true:=by simp[h1.symm.trans e]
   rw[h_ a,h_ b];show f
  ·have i:¬q.1=k:=λz=>e (h1.trans z);have a:decide (p.1≠k)=true:=by simp[e]
   have b:decide (q.1≠k)=true:=by simp[i]
   rw[hY a,hY b];show .cons (h1,h2,) f
theorem KV.length(r:KV a d):a.length=d.length:=Paired.length r
def zm(a:List (c×V))(k:c):(dX a k).length<=a.length:=rk _ _
end
def pM(r:aX (kV k) u):(aU P w).is k u=true:=by cases k with|inl i=>obtain⟨t,e⟩:=(show∃t,u=Value.int i t from r);subst e;show y3 P w i t|inr x=>obtain⟨t,e⟩:=(show∃t,u=Value.str x t from r);subst e;show rh P w x t
theorem qB:∀{a:List bV}{c:O3},aY (a.map kV) c->ItemsAre (aU P w) a c|[],_,r=>by rw[Oh]at r;cases r;show .nil|k::a,_,r=>by rw[m3]at r;cases r with|cons h t=>show .cons (pM h) (qB t)
abbrev KT(H:Hp):List (List bV×V)->List (List bV×Addr×Value)->Prop:=Paired λp q=>p.1=q.1/\H q.2.1=some (.tup (p.1.map kV))/\aX p.2 q.2.2
def KT.val{H:Hp}{a:List (List bV×V)}{f:List (List bV×Addr×Value)}(r:KT H a f)(k:List bV):kS (bg a k) ((atKey f k).map (·.2)):=by induction r with|nil=>show True.intro|@cons p q i c h t g=>
  obtain⟨h1,_,h2⟩:=h
  by_cases e:p.1=k
  ·have d:q.1=k:=h1.symm.trans e;have b:atKey (q::c) k=some q.2:=by simp[atKey,rV,d]
   rw[b7 e,b];show h2
  ·have d:¬q.1=k:=λz=>e (h1.trans z);have b:atKey (q::c) k=atKey c k:=by simp[atKey,rV,d]
   rw[bv e,b];show g
def KT.repl(r:KT H a d)(k:List bV)(f:aX y u):KT H (a.map λc=>if c.1=k then(c.1,y)else c) (d.map (putAt k u)):=by induction r with|nil=>show .nil|@cons p q g i h t b=>
  rw[m3,m3];show .cons ?_ b;obtain⟨h1,h2,h3⟩:=h;unfold putAt
  by_cases e:p.1=k
  ·rw[hY e,hY (h1.symm.trans e)];show(h1,h2,f,)
  ·rw[h_ e,h_ (λz=>e (h1.trans z))];show(h1,h2,h3,)
def KT.put(r:KT H a c)(k:List bV)(f:H b=some (.tup (k.map kV)))(d:aX y u):KT H (fA a k y) (storedH c k b u):=by
 have e:(a.any λg=>decide (g.1=k))=(atKey c k).isSome:=by rw[lP,(r.val k).isSome_eq,NT]
 unfold fA storedH;rw[e]
 by_cases q:(atKey c k).isSome=true
 ·rw[hY q,hY q];show r.repl k d
 ·rw[h_ q,h_ q];show Paired.snoc r {(),f,d}
def KT.keeps(r:KT H a d)(e:∀b c,H b=some (.tup c)->f b=some (.tup c)):KT f a d:=Paired.mapP r λ_ _ z=>{z.1,e _ _ z.2.1,z.2.2}
section
variable{P:O4}{w:World}{H:Hp}{h:Heap}{a:Addr}
def HK(ok:lO P w H h)(e:Rd H a u):c6 P w H h a u:=e.ok ok
def rH(ok:lO P w H h)(e:Rd H a (.dK c)):c.length<=sizeLine/\(a==sysModules)=false/\∃d,KV c d/\h.DictOf (aU P w) a d:=show c6 P w H h a (.dK c)from HK ok e
def HY(ok:lO P w H h)(e:H a=some (.dK c)):c.length<=sizeLine/\(a==sysModules)=false/\∃d,KV c d/\h.DictOf (aU P w) a d:=rH ok (.inl e)
def oh(ok:lO P w H h)(e:H a=some (.tup (c.map kV))):(tupleKind (aU P w)).is h c a:=by obtain⟨_,b,r,o,h1,h2,n,h3⟩:=(show c6 P w H h a (.tup (c.map kV))from ok a _ e);show{o,b.toArray,n,h1,h2,h3,by simpa using qB r}
def rq(ok:lO P w H h)(e:Rd H a (.dT c)):c.length<=sizeLine/\(a==sysModules)=false/\∃d,KT H c d/\h.DictOfH (tupleKind (aU P w)) a d:=by
 obtain⟨z,y,d,r,o,g,i,h1,h2,h3,h4,h5⟩:=(show c6 P w H h a (.dT c)from HK ok e);show{z,y,d,r,o,g,i,h1,h2,h3,h4,λx b=>?_,h5};have all:∀{l:List (List bV×V)}{m:List (List bV×Addr×Value)},KT H l m->∀x∈m,(tupleKind (aU P w)).is h x.1 x.2.1:=by
  intro l m q
  induction q with|nil=>intro x b;show nomatch b|@cons p q k n f t j=>
   intro x b;rcases s_.mp b with e|b
   ·subst e;show oh ok (by rw[<-f.1];show f.2.1)
   ·show j x b
 show all r x b
def L5(ok:lO P w H h)(e:H a=some (.dT c)):c.length<=sizeLine/\(a==sysModules)=false/\∃d,KT H c d/\h.DictOfH (tupleKind (aU P w)) a d:=rq ok (.inl e)
end
def dF(H:Hp)(a:Addr)(y:V)(r:Option V):Prop:=(∃c k,Rd H a (.dK c)/\y=kV k/\r=bg c k)\/∃c k b,Rd H a (.dT c)/\y=.ref b/\H b=some (.tup (k.map kV))/\r=bg c k
def HG(H:Hp)(a:Addr)(y v:V)(d:Hp):Prop:=(∃c k,H a=some (.dK c)/\y=kV k/\c.length<sizeLine/\d=aG H a (.dK (fA c k v)))\/∃c k b,H a=some (.dT c)/\y=.ref b/\H b=some (.tup (k.map kV))/\c.length<sizeLine/\d=aG H a (.dT (fA c k v))
theorem dF.k{H:Hp}{a:Addr}{c:List (bV×V)}{k:bV}(e:H a=some (.dK c)):dF H a (kV k) (bg c k):=.inl {c,k,.inl e,(),()}
theorem HG.k{H:Hp}{a:Addr}{c:List (bV×V)}{k:bV}{v:V}(e:H a=some (.dK c))(d:c.length<sizeLine):HG H a (kV k) v (aG H a (.dK (fA c k v))):=.inl {c,k,e,(),d,()}
section
variable{X:Cx}{d:O1}{f:St}{H:Hp}{s:Shared}{a:Addr}{y v:V}{u r:Value}{o:Option V}{A:Around}{E:O0}
def aN.big(I:aN X d f H s):sysModules<s.heap.objs.size:=by have h:mainGlobals<s.heap.objs.size:=(I.mod.glob.keeps I.bk).lt;show z3 (by decide) h
def CD(C:A.units+1<cLine)(I:aN X d f H s)(g:dF H a y (some v))(x:aX y u)(h:∀j B,aN X d f H B->aX v j->Q j B):wpAny (model X.prog X.w) A (getItem (.ref a) u) Q E s:=by
 rcases g with⟨m,k,e,n,l⟩|⟨m,k,b,e,n,D,l⟩
 ·subst n;obtain⟨z,hd,F,c,dd⟩:=rH I.hok e;obtain⟨j,q,i⟩:=kS.some_of (v:=v) (o:=valueAt F k) (by rw[l];show c.val k);show wpAny_getItem_of (pM x) dd.mapOf q (h j _ (I.tok _) i)
 ·subst n;cases(show u=Value.ref b from x);obtain⟨z,hd,G,c,dd⟩:=rq I.hok e;obtain⟨j,q,i⟩:=kS.some_of (v:=v) (o:=(atKey G k).map (·.2)) (by rw[l];show c.val k);obtain⟨p,J,t⟩:=Option.map_eq_some_iff.mp q;show wpAny_getItem_heap (C2 C) (oh I.hok D) dd J ?_;rw[t];show h j _ (I.tok _) i
def MY(p:A.units+1<cLine)(I:aN X d f H s)(g:dF H a y o)(m:aX y u)(h:∀n,aN X d f H n->Q (.bool o.isSome) n):wpAny (model X.prog X.w) A (compareOp .In u (.ref a)) Q E s:=by
 rcases g with⟨i,k,e,j,l⟩|⟨i,k,b,e,j,t,l⟩
 ·subst j;obtain⟨z,hd,x,c,dd⟩:=rH I.hok e;show wpAny_in_of (pM m) hd dd.mapOf ?_;rw[<-(c.val k).isSome_eq,<-l];show h _ (I.tok _)
 ·subst j;cases(show u=Value.ref b from m);obtain⟨z,hd,B,c,dd⟩:=rq I.hok e;show wpAny_in_heap (C2 p) (oh I.hok t) hd dd ?_;have q:=(c.val k).isSome_eq;rw[NT]at q;rw[<-q,<-l];show h _ (I.tok _)
def Bw(p:A.units+1<cLine)(I:aN X d f H s)(g:dF H a y o)(m:aX y u)(h:∀n,aN X d f H n->Q (.bool (!o.isSome)) n):wpAny (model X.prog X.w) A (compareOp .NotIn u (.ref a)) Q E s:=by
 rcases g with⟨i,k,e,j,l⟩|⟨i,k,b,e,j,t,l⟩
 ·subst j;obtain⟨z,hd,x,c,dd⟩:=rH I.hok e;show wpAny_notIn_of (pM m) hd dd.mapOf ?_;rw[<-(c.val k).isSome_eq,<-l];show h _ (I.tok _)
 ·subst j;cases(show u=Value.ref b from m);obtain⟨z,hd,B,c,dd⟩:=rq I.hok e;show wpAny_notIn_heap (C2 p) (oh I.hok t) hd dd ?_;have q:=(c.val k).isSome_eq;rw[NT]at q;rw[<-q,<-l];show h _ (I.tok _)
def sO(I:aN X d f H s)(c:Mc (H a))(g:Heap.SameBut a s.heap h')(h:∃q,h'.get? a=some q)(new:c6 X.prog X.w (aG H a ob) h' a ob):aN X d f (aG H a ob) {s with heap:=h',toks:=j}:=I.write (x:=a) (e:=a) c (.inl ()) (λb q i z=>(g.2 b i).trans z) h new
def E7(z:c.length<=sizeLine)(hd:(a==sysModules)=false)(e:KV c g)(dd:h'.DictOf (aU P w) a g):c6 P w h h' a (.dK c):=(z,hd,g,e,dd,)
def CC(M:A.units+1<cLine)(I:aN X d f H s)(g:HG H a y v N)(F:aX y u)(G:aX v r)(h:∀J,aN X d f N J->Q Unit.unit J):wpAny (model X.prog X.w) A (setItem (.ref a) u r) Q E s:=by
 rcases g with⟨i,k,e,p,l,t⟩|⟨i,k,b,e,p,K,l,t⟩
 ·subst p t;obtain⟨z,hd,O,j,dd⟩:=HY I.hok e;have x:O.length<=sizeLine:=by rw[<-j.length];show z
  have B:(fA i k v).length<=sizeLine:=by have:=mq i k v;lia
  show wpAny_setItem_pairs (hsz:=x) (pM F) dd λh' m D=>h _ ?_;have P:∃q,h'.get? a=some q:=let⟨q,_,_,n,_⟩:=m;(q,n,);show sO I (by rw[e];show True.intro) D P (E7 B hd (j.put k G) m)
 ·subst p t;cases(show u=Value.ref b from F);obtain⟨z,hd,R,j,dd⟩:=L5 I.hok e;have x:R.length<=sizeLine:=by rw[<-Paired.length j];show z
  have B:(fA i k v).length<=sizeLine:=by have:=mq i k v;lia
  show wpAny_setItem_heap (hsz:=x) (C2 M) (oh I.hok K) dd λh' m D=>h _ ?_;obtain⟨q,S,T,n,h2,h3,h4,_,h5⟩:=m;show sO I (by rw[e];show True.intro) D (q,n,) {B,hd,_,(j.put k K G).keeps λc U L=>?_,q,S,T,n,h2,h3,h4,h5};rw[ak (Ly L e (nofun))];show L
end
section
variable{X:Cx}{d:O1}{f:St}{H:Hp}{s:Shared}{a:Addr}{c:List (bV×V)}{k:bV}{u:Value}{A:Around}{E:O0}
def L6(I:aN X d f H s)(e:H a=some (.dK c))(n:aX (kV k) u)(l:bg c k=some v)(hm:g=[]\/∃x,g=[x])(h:∀j r,aN X d f (aG H a (.dK (dX c k))) r->aX v j->Q j r):wpAny (model X.prog X.w) A (call (.builtin "dict.pop") (.ref a::u::g)) Q E s:=by
 obtain⟨z,hd,y,b,dd⟩:=HY I.hok e;obtain⟨j,B,p⟩:=kS.some_of (v:=v) (o:=valueAt y k) (by rw[<-l];show b.val k);have C:(keyPart u).isSome=true:=by cases k with|inl i=>obtain⟨t,q⟩:=(show∃t,u=Value.int i t from n);subst q;rfl|inr x=>obtain⟨t,q⟩:=(show∃t,u=Value.str x t from n);subst q;rfl
 have D:argsOk "dict.pop" {.ref a::u::g,[]}:=by
  rcases hm with q|⟨x,q⟩
  ·subst q;show PySem.F.args_dict_pop_2 _ _
  ·subst q;show PySem.F.args_dict_pop_3 _ _ _
 show C_ PySem.F.slot_dict_pop dd.typeIs PySem.F.entry_dict_pop D (meets_dict_pop_there (aU X.prog X.w) a (pM n) g hm C) {y,j,dd,by rw[<-b.length];show z,B,λh' m G=>h j _ ?_ p}
 have J:∃q,h'.get? a=some q:=let⟨q,_,_,K,_⟩:=m;(q,K,);show sO I (by rw[e];show True.intro) G J (E7 (kl (zm c k) z) hd (b.drop k) m)
end
def Mb(i:Expr):Prop:=∀a iv,subscripted i false a iv=operate [a,iv] (getItem a iv)
def FR{prog:O4}{w:World}{A:Around}{E:O0}{s:Shared}{env:Env}{c a:Expr}{j:Pos}{T id:String}{Q:O0}(l:typeLookup (.type T) "__getitem__"=pure (some (.builtin id)))(m:Mb a)(h:wpAny (model prog w) A (eval c env) (λo s₁=>wpAny (model prog w) A (eval a env) (λi d=>d.TypeIs o T/\wpAny (model prog w) A (getItem o i) Q E d) E s₁) E s):wpAny (model prog w) A (eval (.Subscript c a j) env) Q E s:=by
 show Subscript_ (wpAny_mono h (λo s₁ f=>wpAny_mono f (λi d b=>?_) λ_ _ x=>x) λ_ _ x=>x);obtain⟨k,b⟩:=b;unfold subscriptTail;show a_ ?_;rw[getitemInPython_of_ne k.not_modules];show a_ (Oi k l ?_);have fin:wpAny (model prog w) A (subscripted a false o i) (λr e=>wpAny (model prog w) A (letTemporaryGo c o r>>=λ_=>pure r) Q E e) E d:=by rw[m o i];show wpAny_operating (wpAny_mono b (λr e g=>a_ (wpAny_letTemporaryGo (f_ g))) λ_ _ x=>x)
 first|show f_ (a_ fin)|show a_ (f_ (a_ fin))|show a_ fin
def zn(I:aN X d f H s)(g:dF H a y o):s.TypeIs (.ref a) "dict":=by
 rcases g with⟨c,k,e,_,_⟩|⟨c,k,b,e,_,_,_⟩
 ·obtain⟨_,_,h,_,dd⟩:=rH I.hok e;show dd.typeIs
 ·obtain⟨_,_,i,_,dd⟩:=rq I.hok e;show dd.typeIs
def K2(d ty:TE):TE:=λb H Q=>d b H λx e=>ty b e λy c=>∃a v,x=.ref a/\dF c a y (some v)/\Q v c
def MI(ty d:TE):TE:=λb H Q=>ty b H λy e=>d b e λx c=>∃a o,x=.ref a/\dF c a y o/\Q (.bl o.isSome) c
def FQ(ty d:TE):TE:=λb H Q=>ty b H λy e=>d b e λx c=>∃a o,x=.ref a/\dF c a y o/\Q (.bl (!o.isSome)) c
section
variable{X:Cx}{o i:Expr}{d:Pos}{c ty:TE}
def dy(r:X.A.units+1<cLine)(t:PE X o c)(hi:PE X i ty)(w:Mb i):PE X (.Subscript o i d) (K2 c ty):=by intro b s p H Q I h;show FR PySem.F.slot_dict_getitem.lookup w (cw (t b s p H _ I h) λu z k=>?_);obtain⟨x,B,I1,C,D⟩:=k;show cw (hi b z p B _ I1 D) λiv L k=>?_;obtain⟨y,E,q,G,a,v,ex,g,J⟩:=k;subst ex;obtain rfl:u=Value.ref a:=C;show{zn q g,CD r q g G λM N K n=>(v,E,K,n,J,)}
def zZ(p:X.A.units+1<cLine)(hi:PE X i ty)(q:PE X o c):PC X .In i o (MI ty c):=by intro b s n H Q I h;show cw (hi b s n H _ I h) λiv r k=>?_;obtain⟨y,t,I1,v,w⟩:=k;show cw (q b r n t _ I1 w) λu G k=>?_;obtain⟨x,z,B,C,a,D,ex,g,E⟩:=k;subst ex;obtain rfl:u=Value.ref a:=C;show MY p B g v λJ F=>{.bl D.isSome,z,F,(),E}
def qg(p:X.A.units+1<cLine)(hi:PE X i ty)(q:PE X o c):PC X .NotIn i o (FQ ty c):=by intro b s n H Q I h;show cw (hi b s n H _ I h) λiv r k=>?_;obtain⟨y,t,I1,v,w⟩:=k;show cw (q b r n t _ I1 w) λu G k=>?_;obtain⟨x,z,B,C,a,D,ex,g,E⟩:=k;subst ex;obtain rfl:u=Value.ref a:=C;show Bw p B g v λJ F=>{.bl (!D.isSome),z,F,(),E}
end
def E8(h:Heap)(a:sysModules<h.objs.size):c6 P w H (h.push {cls:=.type "dict",data:=.dict #[]}) h.objs.size (.dK []):={lh _,z_.mpr (oi (ku a)),[],.nil,Heap.DictOf.new h}
def Iz:TE:=λ_ H Q=>∀p,H p=none->Q (.ref p) (aG H p (.dK []))
section
variable{X:Cx}{c:Pos}
def kF:PE X (.Dict [] [] c) Iz:=λb s d H Q I h=>wpAny_Dict_empty {.ref s.heap.objs.size,_,I.laid (a:=s.heap.objs.size) (o:=.dK []) (t':=s.toks) (λ_ _ q=>c_ _ q) (e_ _) (E8 s.heap I.big),(),h _ (I.hok.fresh (e_ _))}
end
structure M1(X:Cx)(o:Expr)(m:Str)(apos:Pos)(e:Expr)(cpos:Pos):Prop where
 base:attributeBase o m X.env (eval o X.env)=eval o X.env
 few:((backTo cpos (starEach [e] X.env)).all (λx=>!x.1)&&(backToKw cpos (keywordEach [] X.env)).all (λx=>x.1.isSome)&&decide (([e]:O6).length+([]:List Keyword).length+(if([]:List Keyword).isEmpty then 0 else 1)<30))=true
 line:(apos.endLine==cpos.line)=true
 trees:backTo cpos (starEach [e] X.env)=[(false,eval e X.env)]
structure M2(X:Cx)(o:Expr)(m:Str)(apos:Pos)(e f:Expr)(cpos:Pos):Prop where
 base:attributeBase o m X.env (eval o X.env)=eval o X.env
 few:((backTo cpos (starEach [e,f] X.env)).all (λx=>!x.1)&&(backToKw cpos (keywordEach [] X.env)).all (λx=>x.1.isSome)&&decide (([e,f]:O6).length+([]:List Keyword).length+(if([]:List Keyword).isEmpty then 0 else 1)<30))=true
 line:(apos.endLine==cpos.line)=true
 trees:backTo cpos (starEach [e,f] X.env)=[(false,eval e X.env),(false,eval f X.env)]
def MA(H:Hp)(a:Addr):Prop:=(∃b,Rd H a (.dK b))\/∃b,Rd H a (.dT b)
def At(I:aN X f g H s)(d:MA H a):s.TypeIs (.ref a) "dict"/\(∀b,Value.ref a=.ref b->∃ob,s.heap.get? b=some ob/\ob.dict=none)/\(a==sysModules)=false:=by
 rcases d with⟨c,e⟩|⟨c,e⟩
 ·obtain⟨_,hd,h,_,dd⟩:=rH I.hok e;show{dd.typeIs,λb q=>?_,hd};cases q;obtain⟨ob,_,_,h1,h2,_⟩:=dd;show(ob,h1,h2.2.1,)
 ·obtain⟨_,hd,i,_,dd⟩:=rq I.hok e;show{dd.typeIs,λb q=>?_,hd};cases q;obtain⟨ob,_,_,h1,h2,_⟩:=dd;show(ob,h1,h2.2.1,)
section
variable{X:Cx}{c:O1}{f:St}{H:Hp}{s:Shared}{a:Addr}{y d:V}{u r:Value}{o:Option V}{A:Around}{E:O0}
def Kd(t:A.units+1<cLine)(I:aN X c f H s)(g:dF H a y o)(n:aX y u)(h:∀p q,aN X c f H q->aX (o.getD .non) p->Q p q):wpAny (model X.prog X.w) A (call (.builtin "dict.get") [.ref a,u]) Q E s:=by
 rcases g with⟨j,k,e,m,l⟩|⟨j,k,b,e,m,v,l⟩
 ·subst m;obtain⟨z,hd,B,i,dd⟩:=rH I.hok e;show C_ PySem.F.slot_dict_get dd.typeIs PySem.F.entry_dict_get (PySem.F.args_dict_get_2 _ _) (meets_dict_get (aU X.prog X.w) a (pM n) hd) {_,dd.mapOf,h _ _ (I.tok _) ?_};rw[l];show(i.val k).getD ()
 ·subst m;cases(show u=Value.ref b from n);obtain⟨z,hd,x,i,dd⟩:=rq I.hok e;show C_ PySem.F.slot_dict_get dd.typeIs PySem.F.entry_dict_get (PySem.F.args_dict_get_2 _ _) (meetsH_dict_get (tupleKind (aU X.prog X.w)) a b hd) {C2 t,k,x,oh I.hok v,dd,h _ _ (I.tok _) ?_};rw[l];show(i.val k).getD ()
def Kc(v:A.units+1<cLine)(I:aN X c f H s)(g:dF H a y o)(n:aX y u)(p:aX d r)(h:∀q t,aN X c f H t->aX (o.getD d) q->Q q t):wpAny (model X.prog X.w) A (call (.builtin "dict.get") [.ref a,u,r]) Q E s:=by
 rcases g with⟨j,k,e,m,l⟩|⟨j,k,b,e,m,x,l⟩
 ·subst m;obtain⟨z,hd,C,i,dd⟩:=rH I.hok e;show C_ PySem.F.slot_dict_get dd.typeIs PySem.F.entry_dict_get (PySem.F.args_dict_get_3 _ _ _) (meets_dict_get_default (aU X.prog X.w) a (pM n) hd r) {_,dd.mapOf,h _ _ (I.tok _) ?_};rw[l];show(i.val k).getD p
 ·subst m;cases(show u=Value.ref b from n);obtain⟨z,hd,B,i,dd⟩:=rq I.hok e;show C_ PySem.F.slot_dict_get dd.typeIs PySem.F.entry_dict_get (PySem.F.args_dict_get_3 _ _ _) (meetsH_dict_get_default (tupleKind (aU X.prog X.w)) a b hd r) {C2 v,k,B,oh I.hok x,dd,h _ _ (I.tok _) ?_};rw[l];show(i.val k).getD p
end
def IB(e ty:TE):TE:=λb H Q=>e b H λx c=>∃a,x=.ref a/\MA c a/\ty b c λy d=>∃o,dF d a y o/\Q (o.getD .non) d
def IA(e ty f:TE):TE:=λb H Q=>e b H λx c=>∃a,x=.ref a/\MA c a/\ty b c λy g=>f b g λz d=>∃o,dF d a y o/\Q (o.getD z) d
def Ix(f ty:TE):TE:=λc H Q=>f c H λx d=>∃a,x=.ref a/\MA d a/\ty c d λy e=>∃b k v,e a=some (.dK b)/\y=kV k/\bg b k=some v/\Q v (aG e a (.dK (dX b k)))
section
variable{X:Cx}{o e f:Expr}{c i:Pos}{j ty n:TE}
def uf(q:X.A.units+1<cLine)(r:PE X o j)(t:PE X e ty)(m:M1 X o "get" c e i):PE X (.Call (.Attribute o "get" c) [e] [] i) (IB j ty):=by intro b s p H Q I h;show Nq m.base m.few m.line PySem.F.plainAttrs_dict PySem.F.slot_dict_get PySem.F.type_dict_get (cw (r b s p H _ I h) λu v k=>?_);obtain⟨x,w,I1,z,a,ex,d,B⟩:=k;subst ex;obtain rfl:u=Value.ref a:=z;obtain⟨C,D,_⟩:=At I1 d;show{C,D,?_};rw[m.trees];show ri () (vu (pw (cw (t b v p w _ I1 B) λiv M k=>?_)));obtain⟨y,E,G,J,N,g,K⟩:=k;show u6 ?_;show Kd q G g J λO P L l=>{_,E,L,l,K}
def ue(p:X.A.units+1<cLine)(q:PE X o j)(r:PE X e ty)(t:PE X f n)(m:M2 X o "get" c e f i):PE X (.Call (.Attribute o "get" c) [e,f] [] i) (IA j ty n):=by
 intro b s k H Q I h;show Nq m.base m.few m.line PySem.F.plainAttrs_dict PySem.F.slot_dict_get PySem.F.type_dict_get (cw (q b s k H _ I h) λu v w=>?_);obtain⟨x,B,I1,C,a,ex,d,D⟩:=w;subst ex;obtain rfl:u=Value.ref a:=C;obtain⟨E,G,_⟩:=At I1 d;show{E,G,?_};rw[m.trees];show ri () (vu (pw (cw (r b v k B _ I1 D) λiv J⟨y,K,L,M,N⟩=>pw (cw (t b J k K _ L N) λU V⟨z,O,P,R,W,g,S⟩=>u6 ?_))))
 show Kc p P g M R λY Z T l=>{_,O,T,l,S}
def yG(r:PE X o j)(t:PE X e ty)(m:M1 X o "pop" c e i):PE X (.Call (.Attribute o "pop" c) [e] [] i) (Ix j ty):=by intro b s q H Q I h;show Nq m.base m.few m.line PySem.F.plainAttrs_dict PySem.F.slot_dict_pop PySem.F.type_dict_pop (cw (r b s q H _ I h) λu w g=>?_);obtain⟨x,z,I1,A,a,ex,d,B⟩:=g;subst ex;obtain rfl:u=Value.ref a:=A;obtain⟨C,D,_⟩:=At I1 d;show{C,D,?_};rw[m.trees];show ri () (vu (pw (cw (t b w q z _ I1 B) λiv O g=>?_)));obtain⟨y,P,E,G,J,k,v,K,L,l,M⟩:=g;show u6 ?_;subst L;show L6 E K G l (.inl ()) λR S N p=>{v,_,N,p,M}
end
end L2
namespace Att
open PySem PySem.W PySem.Calls PyProof.Rows
def sA:∀(ns:O_)(c:O3),WellAll P h c (ns.map WData.int)->IntsAre c ns:=by
 intro ns
 induction ns with|nil=>intro c w;rw[Oh]at w;cases w;show .nil|cons n ns d=>intro c w;rw[m3]at w;cases w with|cons a b=>cases a;show .cons _ _ (d _ b)
def B4{l:OpenLaw}{n:Nat}(hn:l.most=some n){P:Params}{h:Heap}{args:List WData}{c:O3}(e:l.row.toRowW.claim.pre args=true)(g:WellAll P h c args):∃a j ns,c=[Value.ref a]/\args=[WData.list (ns.map WData.int)]/\h.get? a=some {cls:=.type "list",data:=.seq j.toArray}/\IntsAre j ns/\ns.length<=n:=by
 have i:WShape.hasAll [] args [.list .int]=true:=(pre_splitW e).1;have hc:l.pre.holds [] {args:=args}=true:=(pre_splitW e).2;obtain⟨d,r,rfl,h1,h2⟩:=hasAllW_cons i;obtain rfl:=hasAllW_nil h2;obtain⟨s,rfl,h3⟩:=hasW_list h1;obtain⟨ns,rfl⟩:=items_int h3;have b:ns.length<=n:=by
  unfold OpenLaw.pre at hc;have h4:(WTm.not (.lt (.lit (.int (n:Int))) (.len (.arg 0)))).holds [] {args:=[.list (ns.map .int)]}=true:=by have h4:=(holds_andW hc).1;rw[hn]at h4;show h4
  have h5:=condW_of h4 (w_not (w_lt w_lit (w_len_list (w_arg ()))));rw[b_]at h5;show OO λq=>?_;have k:(n:Int)<((ns.length:Nat):Int):=by lia
  first|(rw[k_ k]at h5;show absurd h5 (by decide))|(simp at h5;lia)
 cases g with|cons m o=>cases o;cases m with|list p f=>show{_,_,ns,(),(),p,sA ns _ f,b}
def Cb(l:OpenLaw)(args:List WData):l.row.toRowW.claim.post args (.bool true) args=true:=postW_of (r:=l.row.toRowW) (X:=(true==true)) (show WShape.has [] (.bool true) .bool=true by first|rfl|decide|simp[WShape.has,WShape.arms,WShape.armsAll]) (show(WTm.eq .res (.lit (.bool true))).value [] {args:=args,res:=some (.bool true),after:=args}=some (.bool (true==true))from w_eq_bool (w_res ()) w_lit) ()
def zB{l:OpenLaw}{n:Nat}{q:O4}{c:O5}{x:(Str->Option Value)->Heap->Prop}{y:World->Heap->Prop}{d:DefRec}(hn:l.most=some n)(p:d.params.defaults=[])(call:∀(w:World)(s₀ s₁:Shared)(mg s:O2)(h:Addr)(o:Obj)(pm cd e:Value)(a:Addr)(g:O3)(ns:O_),Ground q c [] x w s₀ mg s s₁.heap->y w s₁.heap->s₁.heap.get? h=some o->o.data=.func (docDef d.name d.params d.body d.scope pm cd e)->s₁.heap.CodeRec cd d.name->mg d.name=some (.ref h)->s₁.heap.get? a=some {cls:=.type "list",data:=.seq g.toArray}->IntsAre g ns->ns.length<=n->s₁.gens=#[]->codeAny (model l.prog w) callerA (.call (.ref h) {[.ref a],[]}) (λr m=>r=.ok (.ret (.bool true))/\OldK s₁.heap m.heap/\m.os=s₁.os/\AllBare m.gens) s₁):WalkO q c x y l.row.toRowW d [] (λf g=>PySem.call f g):=by intro w s₀ s₁ mg s G Y h o pm cd e D kV E hd t z u hg A B J i C F v H;obtain rfl:D=.none:=Dflts.none z p;obtain rfl:kV=.none:=Dflts.noKw z;obtain⟨a,g,ns,rfl,rfl,j,b,k⟩:=B4 hn i v;show enter_call (z1 (call w s₀ s₁ mg s h o pm cd e a g ns G Y E (fd_plain hd) t u j b k hg) λr m I=>?_);obtain⟨rfl,h2,h3,h4⟩:=I;show{.inl {.bool true,.bool true,[],(),λ_=>(),.bool true,Cb l _,λ_=>{List.Pairwise.nil,λ_ hm=>(nomatch hm)}},h2,h3,h4}
end Att
namespace L2
open PySem PySem.Spec PyProof.Rows
theorem vX:∀{a:O3}{ns:O_},IntsAre a ns->aY (ns.map V.int) a|_,_,.nil=>.nil|_,_,.cons n t h=>.cons {t,()} (vX h)
def xW(H:Hp):Prop:=∀b,H b=none\/∃o a,H b=some (.frz o (.lst a))
def EF{P:O4}{w:World}{K:OZ}{mg J:O2}{T:zG}{k:Nat}{L a:Addr}{fd:FuncData}{x:Str}{sp:Sp}{s₁:Shared}{l:O3}{ns:O_}(X:K.In s₁.heap)(t:s₁.heap.Ns mainGlobals mg)(f:s₁.heap.Ns builtinsNs J)(M:∀x:Str,x≠"__name__"->J x=bootBuiltins x)(y:s₁.heap.NoLimit)(hg:s₁.gens=#[])(I:s₁.heap.get? a=some {cls:=.type "list",data:=.seq l.toArray})(hi:IntsAre l ns)(Z:ns.length<=sizeLine)(hr:eX k callerA)(F:∀base:Heap,K.In base->base.Ns mainGlobals mg->aP P w K mg base T k L fd [x] sp)(p:∀(s:Shared)(u:Value),BindsTo s fd {[u],[]} [(x,u)])(N:∀H:Hp,xW H->aR K H a (ns.map V.int)->sp [.ref a] H (λv _=>v=.bl true) λ_ _ _=>False)(Q:∀H e g,T [] H s₁ (λ_ _ _=>False) e g->False):codeAny (model P w) callerA (.call (.ref L) {[.ref a],[]}) (λr g=>r=.ok (.ret (.bool true))/\OldK s₁.heap g.heap/\g.os=s₁.os/\AllBare g.gens) s₁:=by
 have U:=vX hi;have A:=hi.length;have j:∀H:Hp,xW H->aR K H a (ns.map V.int)->lO P w H s₁.heap->(∀b,H b≠none->b=a)->(H a≠none->K.lookup a=none)->codeAny (model P w) callerA (.call (.ref L) {[.ref a],[]}) (λr g=>r=.ok (.ret (.bool true))/\OldK s₁.heap g.heap/\g.os=s₁.os/\AllBare g.gens) s₁:=by
  intro H Y hS hok hA hK;have c:∀{b:Addr}{o:Obj},s₁.heap.get? b=some o->H b=none->(xH s₁.heap H).get? b=some o:=λe n=>ES e n;have O:∀{b:Addr}{o:Obj}{B:Array DictEntry}{C:Nat},s₁.heap.get? b=some o->o.data=.dict B C->H b=none:=λ{b o B C}e d=>by cases q:H b with|none=>rfl|some u=>have R:b=a:=hA b (by rw[q];simp);subst R;rw[I]at e;cases e;have d':Data.seq l.toArray _=Data.dict B C:=d;cases d'
  have i:∀{b:Addr}{m:O2},s₁.heap.Ns b m->(xH s₁.heap H).Ns b m:=λ{b m}⟨o,B,C,e,d,r⟩=>{o,B,C,c e (O e d),d,r};have D:K.In (xH s₁.heap H):=λb o e=>c (X b o e) (by cases q:H b with|none=>rfl|some u=>have R:b=a:=hA b (by rw[q];simp);subst R;rw[hK (by rw[q];simp)]at e;cases e)
  have hM:Me K mg (xH s₁.heap H):={D,i t,{J,i f,M},let⟨mc,h1,h2⟩:=y;{mc,i h1,h2}};have e0:AM P w K mg (xH s₁.heap H) callerA [] s₁ H:={(),hM,λb o e=>GJ e,Og (Cw _ _),trivial,λb f=>absurd (show b∈([]:O9)from f) (by simp),hok,.of_eq hg};show z1 ((F _ D (i t)).run callerA [] s₁ H {[.ref a],[]} [.ref a] [.ref a] _ _ hr e0 (p s₁ (.ref a)) (.cons () .nil) (N H Y hS)) λr g h=>?_;cases r with|error e=>show(Q H e g h).elim|ok fl=>cases fl with|next=>show False.elim h|brk=>show False.elim h|cont=>show False.elim h|ret u=>obtain⟨v,H',os,bare,un,E,r',q⟩:=h;have q':v=.bl true:=q;subst q';obtain rfl:u=Value.bool true:=r';show{(),OldK.of_keep λb o e=>?_,os,bare};cases q:H b with|none=>show un.keep b o e q (by intro z;show absurd (show b∈([]:O9)from z) (by simp)) (by simp)|some u=>
     rcases Y b with z|⟨ob,xs,z⟩
     ·rw[q]at z;cases z
     ·have z2:=un.frzs b ob _ z;obtain⟨e1,_⟩:=hok b _ z;obtain⟨e2,_⟩:=E b _ z2;rw[e]at e1;cases e1;show e2
 cases S:K.lookup a with|some o=>have e:=X a o S;rw[I]at e;cases e;show j (λ_=>none) (λ_=>.inl ()) (.inr {_,l.toArray,_,S,(),(),(),by rw[il,A];show Z,by simpa using U}) (λb u z=>by have G:(none:Option HO)=some u:=z;cases G) (λb z=>absurd () z) λz=>absurd () z|none=>
  show j (λb=>if b=a then some (.frz {cls:=.type "list",data:=.seq l.toArray} (.lst (ns.map V.int)))else none) (λb=>?_) (.inl (.inr {{cls:=.type "list",data:=.seq l.toArray},hY ()})) (λb u z=>?_) (λb z=>?_) λ_=>S
  ·by_cases f:b=a
   ·show .inr {_,_,hY f}
   ·show .inl (h_ f)
  ·by_cases f:b=a
   ·have G:=(hY f).symm.trans z;cases G;subst f;show{I,by rw[b_];show Z,l,_,U,I}
   ·have G:=(h_ f).symm.trans z;cases G
  ·by_cases f:b=a
   ·show f
   ·show absurd (h_ f) z
abbrev KOf{K:OZ}{h:Heap}(_:K.In h):OZ:=K
def FK{l:PySem.W.OpenLaw}{n k:Nat}{q:O4}{i:O5}{I:(Str->Option Value)->Heap->Prop}{C:World->Heap->Prop}{d:DefRec}{K:Params->OZ}{CX:World->zG}{sp:World->Sp}{x:Str}(hn:l.most=some n)(r:n<=sizeLine)(t:d.params.defaults=[])(J:eX k callerA)(L:∀(w:World)(h:Heap),C w h->(K w.params).In h)(F:∀(w:World)(mg:O2)(p:Addr)(h:Heap),(K w.params).In h->h.Ns mainGlobals mg->mg d.name=some (.ref p)->∃fd:FuncData,(∀(s:Shared)(u:Value),BindsTo s fd {[u],[]} [(x,u)])/\∀base:Heap,(K w.params).In base->base.Ns mainGlobals mg->aP l.prog w (K w.params) mg base (CX w) k p fd [x] (sp w))(y:∀(w:World)(H:Hp)(a:Addr)(ns:O_),ns.length<=n->xW H->aR (K w.params) H a (ns.map V.int)->sp w [.ref a] H (λv _=>v=.bl true) λ_ _ _=>False)(z:∀(w:World)(H:Hp)(s:Shared)(e:Value)(A:Shared),CX w [] H s (λ_ _ _=>False) e A->False):PySem.W.WalkO q i I C l.row.toRowW d [] (λf D=>PySem.call f D):=by show Att.zB hn t λw s₀ s₁ mg S p o pm cd M a D ns G Y U hd N B m j c hg=>?_;have E:=L w _ Y;obtain⟨fd,O,P⟩:=F w mg p _ E G.T.g B;show EF E G.T.g G.T.b G.T.builtins G.T.nolimit hg m j (kl c r) J P O (λH Q R=>y w H a ns c Q R) λH e A=>z w H s₁ e A
def C0{l:PySem.W.OpenLaw}{n k:Nat}{q:O4}{c:O5}{t:(Str->Option Value)->Heap->Prop}{p:World->Heap->Prop}{d:DefRec}{K:Params->OZ}{CX:zG}{sp:OZ->Sp}{x:Str}(hn:l.most=some n)(g:n<=sizeLine)(i:d.params.defaults=[])(y:eX k callerA)(z:∀(w:World)(h:Heap),p w h->(K w.params).In h)(F:∀(w:World)(mg:O2)(r:Addr)(h:Heap),(K w.params).In h->h.Ns mainGlobals mg->mg d.name=some (.ref r)->∃fd:FuncData,(∀(s:Shared)(u:Value),BindsTo s fd {[u],[]} [(x,u)])/\∀base:Heap,(K w.params).In base->base.Ns mainGlobals mg->aP l.prog w (K w.params) mg base CX k r fd [x] (sp (K w.params)))(j:∀(K:OZ)(H:Hp)(a:Addr)(ns:O_),ns.length<=n->xW H->aR K H a (ns.map V.int)->sp K [.ref a] H (λv _=>v=.bl true) λ_ _ _=>False)(m:∀(H:Hp)(s:Shared)(e:Value)(o:Shared),CX [] H s (λ_ _ _=>False) e o->False):PySem.W.WalkO q c t p l.row.toRowW d [] (λf A=>PySem.call f A):=FK (K:=K) (CX:=λ_=>CX) (sp:=λw=>sp (K w.params)) hn g i y z F (λw H a ns h1 h2 h3=>j (K w.params) H a ns h1 h2 h3) λ_ H s e o=>m H s e o
def pP(s:Stmt):Arguments:=match s with|.FunctionDef _ a _ _ _ _ _ _ _ _=>a|_=>{posonlyargs:=[],args:=[],vararg:=none,kwonlyargs:=[],kw_defaults:=[],kwarg:=none,defaults:=[]}
def gQ(s:Stmt):List Stmt:=match s with|.FunctionDef _ _ b _ _ _ _ _ _ _=>b|_=>[]
def ai(s:Stmt):Scope:=match s with|.FunctionDef _ _ _ _ _ _ a _ _ _=>a|_=>{kind:=.function,names:=[],isGenerator:=false,isCoroutine:=false}
abbrev cV:zG:=λ_ _ _ _ _ _=>False
abbrev E0:XK:=λ_ _ _=>False
def aV:mD cV X E0:=λ_ _ _ _ _ _ _ h=>h.elim
structure xZ(K:OZ)(x qual:Str)(st:Stmt)(f:Addr)(fd:FuncData):Prop where
 ex:∃(oc:Value)(od:Option Addr)(kV doc pm:Value)(an:Option Addr)(cdv ct:Value)(osl:Array (Option Value)),fd=PySem.W.fnOf x qual (pP st) (gQ st) (ai st) .none kV doc pm an cdv ct/\K.lookup f=some {oc,od,.func fd,osl}/\PySem.W.codeIn K cdv qual=true
 kp:PySem.W.keepIn K (.ref f)=true
section
variable{P:O4}{w:World}{K:OZ}{mg:O2}{base:Heap}
def xZ.ok{x a:Str}{st:Stmt}{f:Addr}{fd:FuncData}{N g:O5}{k:Nat}{sp:Sp}(F:xZ K x a st f fd)(S:az N g (ai st))(len:∀d H Q E,sp d H Q E->d.length=g.length)(e:∀(c:Value)(A:Around)(outer:List Env)(s:Shared)(H:Hp)(d:List V)(Q:VK)(E:XK),eX k (A.deeper (envOfC a (ai st) s.heap.objs.size f c))->sp d H Q E->∃t,vR (qH cV P w K mg base N a (ai st) f c A outer s H E).nox (gQ st) t/\t {nx:=λ_ j=>Q .non j,rt:=Q} (i9 N d) H):aP P w K mg base cV (k+1) f fd g sp:=by obtain⟨oc,o,kV,l,pm,p,c,ct,m,rfl,lk,b⟩:=F.ex;show HU lk b S len λA outer s H d Q E n i=>?_;obtain⟨t,h,q⟩:=e c A outer s H d Q E n i;show(t,h.nox,q,)
def xZ.binds{x a:Str}{st:Stmt}{f:Addr}{fd:FuncData}{e:O5}(F:xZ K x a st f fd)(h:∀(kV c pm:Value)(g:Option Addr)(d ct:Value)(i:O3),i.length=e.length->bindArgs (PySem.W.fnOf x a (pP st) (gQ st) (ai st) .none kV c pm g d ct) {i,[]}=pure (e.zip i)):f8 K fd e []:=by obtain⟨oc,k,kV,c,pm,g,d,ct,b,rfl,lk,j⟩:=F.ex;show .all (h kV c pm g d ct)
def Ax{x a:Str}{st:Stmt}{f:Addr}{oc:Value}{i h:Option Addr}{g:Array (Option Value)}{kV e pm d ct:Value}(l:K.lookup f=some {oc,i,.func (PySem.W.fnOf x a (pP st) (gQ st) (ai st) .none kV e pm h d ct),g})(c:PySem.W.codeIn K d a=true)(k:PySem.W.keepIn K (.ref f)=true):xZ K x a st f (PySem.W.fnOf x a (pP st) (gQ st) (ai st) .none kV e pm h d ct):={{oc,i,kV,e,pm,h,d,ct,g,(),l,c},k}
end
def ce(a:eX k A):A.units+1<cLine:=D_ (Nat.add_le_add_left (by decide:1<=64) _) a.units
section
variable{X:Cx}
def Y(i:Nat)(c:X.N[i]?=some x:=by rfl)(d:Mu X.env.scope x:=by first|show Or.inl ()|show Or.inr (Or.inl ())|show Or.inr (Or.inr ()))(hd:(x==("__debug__":Str))=false:=by decide)(a:(x==("__classdict__":Str))=false:=by decide):PE X (.Name x e) (Ir i):=Jn c d hd a
end
def bW{A B:Prop}(h:B):if false=true then A else B:=by rw[h_ ji];show h
def bG{A B:Prop}(h:A):if true=true then A else B:=by rw[hY ()];show h
def am(H a:Hp):Prop:=∀b o,H b=some o->a b=some o
def am.refl(H:Hp):am H H:=λ_ _ h=>h
def am.trans(a:am H d)(b:am d e):am H e:=λc o h=>b c o (a c o h)
def am.free(e:am H a)(h:a l=Option.none):H l=Option.none:=by cases q:H l with|none=>rfl|some o=>rw[e l o q]at h;cases h
def am.seq{K:OZ}{H c:Hp}{a:Addr}{d:List V}(e:am H c)(h:aR K H a d):aR K c a d:=by
 rcases h with(h|⟨o,h⟩)|h
 ·show .inl (.inl (e _ _ h))
 ·show .inl (.inr {o,e _ _ h})
 ·show .inr h
section
variable{a:Type}[DecidableEq a]
def wO{p:a×V}{r:List (a×V)}{k:a}(e:p.1=k):dX (p::r) k=dX r k:=by unfold dX;rw[N9,h_ (by simp[e])]
def wP{p:a×V}{r:List (a×V)}{k:a}(e:¬p.1=k):dX (p::r) k=p::dX r k:=by unfold dX;rw[N9,hY (by simp[e])]
end
end L2
set_option maxHeartbeats 4000000
namespace L2
open PySem PySem.Spec PyProof.Rows
section
variable{prog:O4}{w:World}{A:Around}{R:Result->Shared->Prop}{s:Shared}
def kH(h:wpAny M A t Q (λ_ _=>False) s)(k:∀a s,Q a s->c a s):wpAny M A t c E s:=wpAny_mono h k λ_ _ z=>z.elim
def zq(J:Nat->Shared->Prop)(l:∀n s,J n s->wpAny (model prog w) A (pyNext z) (λr s₁=>match r with|none=>R (.ok .next) s₁|some v=>wpAny (model prog w) A (letOwnedTupleGo a z v) (λ_ d=>wpAny (model prog w) A (assign a env v) (λ_ e=>wpAny (model prog w) A (forIn k true λc r=>if r=true then do let ok<-isTrue c env (eval c env);pure (ForInStep.yield ok)else pure (ForInStep.yield r)) (λok b=>if ok=true then wpAny (model prog w) A (eval o env) (λx f=>wpAny (model prog w) A (call (.builtin "list.append") [p,x]) (λ_ g=>∃m,m<n/\J m g) (λ_ _=>False) f) (λ_ _=>False) b else∃m,m<n/\J m b) (λ_ _=>False) e) (λ_ _=>False) d) (λ_ _=>False) s₁) (λ_ _=>False) s)(n:Nat)(h:J n s):codeAny (model prog w) A (.compLoop (.ListComp o [{a,iter,k,0}] scope B) 0 z p env) R s:=by show codeAny_loop () J (λn s C=>?_) n h;change wpAny _ A ((compTurn (.ListComp o [{a,iter,k,0}] scope B) 0 z p env).onRaise (λx=>do noteFrame x env;theTreesLotGoes x)) _ _ s;show wpAny_noted ?_;rw[compTurn_list];show a_ (wpAny_standAt (a_ (kH (l n s C) (λr s₁ i=>?_))));cases r with|none=>show f_ i|some v=>show a_ (kH i λ_ d q=>a_ (kH q λ_ e t=>a_ (kH t λok b j=>?_)));cases ok with|false=>show f_ {(),j}|true=>show a_ (a_ (kH j λx f u=>a_ (kH u λ_ g y=>f_ (f_ {(),y}))))
end
theorem lM{f:Str->NameKind->NameKind}:∀(l:List (Str×NameKind))(x:Str),(l.map λp=>(p.1,f p.1 p.2)).lookup x=(l.lookup x).map (f x)|[],_=>()|(n,k)::r,x=>by rw[m3,N5,N5];cases a:x==n with
 |true=>
   have e:x=n:=by simpa using a
   subst e;rfl|false=>show lM r x
def mf(env:Env)(n:Str)(k:NameKind):NameKind:=if(k==.free&&env.scope.kind==.function&&env.kindOf n==some .cell)=true then .cell else k
def je(scope:Scope)(env:Env)(x:Str):(relabel scope env).names.lookup x=(scope.names.lookup x).map (mf env x):=by
 rw[<-lM];unfold relabel
 congr 1
 change List.map _ scope.names=List.map _ scope.names
 congr 1
 funext p
 obtain⟨n,k⟩:=p;change(if(k==NameKind.free&&env.scope.kind==.function&&env.kindOf n==some .cell)=true then(n,NameKind.cell)else(n,k))=(n,mf env n k);unfold mf
 split<;>rfl
theorem ox{env:Env}{f:Str×NameKind->List (Str×Addr)->Sem (ForInStep (List (Str×Addr)))}(d:∀n c r,cellOf env n=pure c->f (n,.free) r=pure (.yield ((n,c)::r)))(g:∀n k r,k≠.free->f (n,k) r=pure (.yield r)):∀(l:List (Str×NameKind))(cs:List (Str×Addr)),(∀y∈l,y.2=.free->∃c,env.cells.lookup y.1=some c)->∃cl:List (Str×Addr),forIn l cs f=pure cl/\(∀x c,cl.lookup x=some c->env.cells.lookup x=some c\/cs.lookup x=some c)/\(∀x,(∃c,cs.lookup x=some c)\/(x,NameKind.free)∈l->∃c,cl.lookup x=some c)
 |[],cs,_=>{cs,(),λ_ _ h=>.inr h,λx h=>h.elim id nofun}|(n,k)::r,cs,h=>by
  by_cases o:k=.free
  ·subst o;obtain⟨c,hc⟩:=h (n,.free) k4 ();obtain⟨cl,h1,h2,h3⟩:=ox d g r ((n,c)::cs) λy p=>h y (j_ _ p);show{cl,?_,λx i a=>?_,λx a=>h3 x ?_}
   ·rw[Oo,d n c cs (by unfold cellOf;rw[hc])];show h1
   ·rcases h2 x i a with z|z
    ·show .inl z
    ·rw[N5]at z;cases b:x==n with|true=>
      rw[b]at z;have j:x=n:=by simpa using b
      have m:c=i:=by simpa using z
      subst j;subst m;show .inl hc|false=>rw[b]at z;show .inr z
   ·rcases a with⟨i,a⟩|a
    ·show .inl ?_;rw[N5];cases b:x==n with|true=>show{c,()}|false=>show(i,a,)
    ·rcases s_.mp a with e|e
     ·injection e with j m;subst j;show .inl {c,by simp}
     ·show .inr e
  ·obtain⟨cl,h1,h2,h3⟩:=ox d g r cs λy p=>h y (j_ _ p);show{cl,?_,h2,λx a=>h3 x ?_}
   ·rw[Oo,g n k cs o];show h1
   ·rcases a with a|a
    ·show .inl a
    ·rcases s_.mp a with e|e
     ·injection e with j m;show absurd m.symm o
     ·show .inr e
def vJ{env:Env}{scope:Scope}(h:∀y∈scope.names,y.2=.free->∃c,env.cells.lookup y.1=some c):∃cl:List (Str×Addr),closureFor scope env=pure cl/\(∀x c,cl.lookup x=some c->env.cells.lookup x=some c)/\(∀x,(x,NameKind.free)∈scope.names->∃c,cl.lookup x=some c):=by
 simp only[closureFor];obtain⟨cl,h1,h2,h3⟩:=ox (env:=env) (f:=λ(x:Str×NameKind)(r:List (Str×Addr))=>match x with|(b,kind)=>if(kind==NameKind.free)=true then(do let a<-cellOf env b;pure (ForInStep.yield ((b,a)::r)))else pure (ForInStep.yield r)) (λn c r e=>by change(if(NameKind.free==NameKind.free)=true then(do let a<-cellOf env n;pure (ForInStep.yield ((n,a)::r)))else pure (ForInStep.yield r):Sem _)=_;rw[hY (by decide),e];rfl) (λn k r e=>by change(if(k==NameKind.free)=true then(do let a<-cellOf env n;pure (ForInStep.yield ((n,a)::r)))else pure (ForInStep.yield r):Sem _)=_;rw[h_ (by simpa using e)]) scope.names [] h
 show{cl,?_,λx c e=>(h2 x c e).elim id λz=>by simp at z,λx d=>h3 x (.inr d)};rw[h1];rfl
def Cx.comp(X:Cx)(scope:Scope)(a:O5)(cl:List (Str×Addr))(C:Addr)(s₀:Shared)(H₀:Hp)(ex:O9):Cx:={prog:=X.prog,w:=X.w,K:=X.K,mg:=X.mg,base:=X.base,A:=X.A,N:=a,s₀:=s₀,H₀:=H₀,env:=compEnvC scope cl C X.env,outer:=X.stack,stack:=X.stack,ex:=ex,fn:=λ_=>false,calm:=X.calm,pn:=X.pn,xe:=λ_ _=>False}
def iV(ds:O8)(k:Nat)(a:St):St:=ds.foldl (λa i=>a.set i none) a++List.replicate k none
def oq(ds:O8):∀a:St,(ds.foldl (λa i=>a.set i none) a).length=a.length:=by induction ds with|nil=>intro a;rfl|cons d r b=>intro a;rw[w_,b];simp
def Az(ds:O8):∀(a:St)(i:Nat)(v:V),(ds.foldl (λa i=>a.set i none) a)[i]?=some (some v)->a[i]?=some (some v)/\i∉ds:=by induction ds with|nil=>intro a i v h;show{h,by simp}|cons d r b=>
  intro a i v h;rw[w_]at h;obtain⟨h1,h2⟩:=b _ i v h
  by_cases e:d=i
  ·subst e
   by_cases c:d<a.length
   ·rw[x_ c]at h1;cases h1
   ·rw[K_.mpr (by rw[w1];lia)]at h1;cases h1
  ·rw[q_ e]at h1;show{h1,λz=>(s_.mp z).elim (λq=>e q.symm) h2}
def zg(h:(iV ds k a)[i]?=some (some v)):a[i]?=some (some v)/\i∉ds/\i<a.length:=by
 unfold iV at h
 by_cases b:i<a.length
 ·rw[rc (by rw[oq];show b)]at h;obtain⟨h1,h2⟩:=Az ds a i v h;show(h1,h2,b,)
 ·rw[y2 (by rw[oq];lia)]at h;have:=d_.mp h;obtain⟨h1,h2⟩:=this;rw[List.getElem_replicate]at h2;cases h2
def HC(X:Cx)(d:O6)(t:TT):Prop:=∀(a:O1)(s:Shared)(b:St)(H:Hp)(Q:Bool->Hp->Prop),aN X a b H s->t b H Q->wpAny (model X.prog X.w) X.A (forIn d true λc r=>if r=true then do let ok<-isTrue c X.env (eval c X.env);pure (ForInStep.yield ok)else pure (ForInStep.yield r)) (TP X a b Q) X.xe s
def KO:TT:=λ_ H Q=>Q true H
def cp:HC X [] KO:=λ_ _ _ H _ I h=>wpAny_tests_nil (H,I,h,)
def mK(h:PT X c t):HC X [c] t:=λa s b H Q I q=>wpAny_tests_one (h a s b H Q I q)
def GK(g:TG)(c:O8):Prop:=∀x b H Q,g x b H Q->g x b H λa d=>Q a d/\a.length=b.length/\∀i,i∉c->a[i]?=b[i]?
def cq(j:Nat):GK (kP j) [j]:=λx a H Q h=>by show{h,by simp,λi hi=>?_};rw[q_ (λe=>hi (by simp[e]))]
def qF(K:OZ)(i j:Nat):GK (J0 K 2 (EY (kP i) (EY (kP j) L0))) [i,j]:=λx l H Q h=>by obtain⟨a,b,e,c,d,v,r,f,u,r2,g,k,q⟩:=h;show{a,b,e,c,d,v,r,f,u,r2,g,k,q,by simp,λn hn=>?_};have h1:n≠i:=λz=>hn (by simp[z]);have h2:n≠j:=λz=>hn (by simp[z]);rw[q_ (oi h2),q_ (oi h1)]
def sX(o:TI)(g:TG)(ds:O8)(k:Nat)(tc:TT)(te:TE):TE:=λf H Q=>o f H λJ h=>∀D,h D=none->∃W:Nat->Nat->List V->Hp->Prop,(∃m,W 0 m [] (aG h D (.lst [])))/\∀i m a c,W i m a c->(J.stop i c/\Q (.ref D) c)\/(J.go i c/\∀x j,J.yld i c x j->g x (iV ds k f) j λd p=>tc d p λb l=>if b=true then te d l λy n=>n D=some (.lst a)/\a.length<sizeLine/\∃e,e<m/\W (i+1) e (a++[y]) (aG n D (.lst (a++[y])))else∃e,e<m/\W (i+1) e a l)
section
variable{X:Cx}
def Fj(I:aN X t σ H s)(f:∀b∈fp,vT X t H b)(fo:∀b∈fp,∃o,s.heap.get? b=some o)(E:scope.kind=.function)(F:∀y∈scope.names,y.2≠.cell)(G:∀y∈scope.names,y.2=.free->X.env.scope.names.lookup y.1=some .cell\/X.env.scope.names.lookup y.1=some .free)(g:∀x c,cl.lookup x=some c->X.env.cells.lookup x=some c)(D:∀x,(x,NameKind.free)∈scope.names->∃c,cl.lookup x=some c)(hN:W=X.N++L)(hk:L.length=k)(M:∀i x,X.N[i]?=some x->scope.names.lookup x=some .local->i∈ds)(P:s.heap.objs.size<C)(keep:∀b o,s.heap.get? b=some o->j.get? b=some o)(Z:j.Ns C m)(hD:j.get? s.heap.objs.size=some {cls:=.type "list",data:=.seq ([]:O3).toArray 0}):aN (X.comp scope W cl C s H fp) t (iV ds k σ) (aG H s.heap.objs.size (.lst [])) {s with heap:=j,toks:=tk}:=by
 have fresh:H s.heap.objs.size=none:=I.hok.fresh (e_ _);have O:lO X.prog X.w (aG H s.heap.objs.size (.lst [])) j:=I.hok.laid keep (e_ _) {lh _,[],0,.nil,hD};have J:∀b∈fp,b<s.heap.objs.size:=λb A=>let⟨_,e⟩:=fo b A;ir e;have K:∀b,b∈j4 X.stack->∀p∈X.pn++t,p.1≠b:=λb A p T e=>by
  obtain⟨_,_,n1,n2,_⟩:=I.pin p T;rcases s_.mp (I.stkSub b A)with z|z
  ·show n1 (e.trans z)
  ·show n2 (e▸z)
 have B:∀x c,cl.lookup x=some c->c<s.heap.objs.size:=λx c e=>by obtain⟨v,z⟩:=I.cell x c (g x c e);show z.lt
 have a:∀x,(relabel scope X.env).names.lookup x=some .cell\/(relabel scope X.env).names.lookup x=some .free->scope.names.lookup x=some .free:=λx h=>by rw[je]at h;cases e:scope.names.lookup x with|none=>rw[e]at h;simp at h|some q=>
   rw[e]at h;have hm:=mem_of_lookup e;have nc:q≠.cell:=F _ hm;simp only[Nj,NS]at h;unfold mf at h
   split at h
   ·rename_i hc;have:(q==NameKind.free)=true:=by cases hq:q==NameKind.free with|true=>rfl|false=>rw[hq]at hc;simp at hc
    have:q=.free:=by simpa using this
    rw[this]
   ·rcases h with h|h
    ·show absurd h nc
    ·rw[h]
 show{{I.ok.mod,?_,I.ok.glob,I.ok.blt,tx P,?_,?_,?_,I.ok.hd,I.ok.frames,.inl (),?_,I.bs,kl I.ok.bsz I.sz,?_,?_,I.stack,I.stkFree},(),I.bare,Un.laid keep (e_ _) fresh,{m,Z,?_},?_,?_,?_,?_,O,?_}
 ·show E
 ·intro x y c Y hy;show I.ok.inj x y c (g x c Y) (g y c hy)
 ·intro x Y;show D x (mem_of_lookup (a x Y))
 ·intro x c hf;show absurd hf (by simp[Cx.comp])
 ·intro b A;show{ku (z3 (J b A) P),λx c e z=>?_};show(f b A).2.2.2.2.1 x c (g x c e) z
 ·intro b o e A;rcases(f b A).2.2.2.1 with z|z
  ·show I.ok.noex b o e z
  ·show absurd (nn (ir e) (kl I.ok.bsz z)) (qx _)
 ·intro b A hs;rcases s_.mp (I.stkSub b hs)with z|z
  ·show(f b A).2.1 z
  ·show(f b A).2.2.1 z
 ·intro i x v U e2 vis;obtain⟨g1,g2,g3⟩:=zg e2;have Q:X.N[i]?=some x:=by have U:W[i]?=some x:=U;rw[hN,rc (by rw[<-I.len];show g3)]at U;show U
  have hv:scope.names.lookup x=some .free:=by
   rcases vis with z|z|z
   ·exfalso;have z:(relabel scope X.env).names.lookup x=some .local:=z;rw[je]at z;cases e:scope.names.lookup x with|none=>rw[e]at z;simp at z|some q=>
     rw[e]at z;simp only[Nj,NS]at z;unfold mf at z
     split at z
     ·cases z
     ·subst z;show g2 (M i x Q e)
   ·show a x (.inl z)
   ·show a x (.inr z)
  have hm:=mem_of_lookup hv;have hX:=G _ hm ();obtain⟨mX,_,hl⟩:=I.loc;have R:Mu X.env.scope x:=by
   rcases hX with z|z
   ·show .inr (.inl z)
   ·show .inr (.inr z)
  obtain⟨u,r,l⟩:=hl i x v Q g1 R;show{u,r,.inr {?_,?_}}
  ·change(relabel scope X.env).names.lookup x=some .cell\/(relabel scope X.env).names.lookup x=some .free;rw[je,hv];change some (mf X.env x .free)=some .cell\/some (mf X.env x .free)=some .free;unfold mf
   split
   ·show .inl ()
   ·show .inr ()
  ·obtain⟨c,hc⟩:=D x hm;have aa:=g x c hc;show{c,hc,?_};rcases l with⟨V,_⟩|⟨_,c',S,o,ho,hd⟩
   ·exfalso;have V:X.env.scope.names.lookup x=some .local:=V;rcases hX with z|z
    ·rw[V]at z;cases z
    ·rw[V]at z;cases z
   ·rw[aa]at S;cases S;show{o,keep c o ho,hd}
 ·intro x c e;obtain⟨v,o,ho,hd⟩:=I.cell x c (g x c e);show{v,o,keep c o ho,hd}
 ·change aG H s.heap.objs.size (.lst []) C=none;rw[ak (ot P)];show I.hok.fresh (tx P)
 ·intro x c e;rw[ak (ku (B x c e))];show I.freeC x c (g x c e)
 ·intro p T;obtain⟨e,n,n1,n2,d⟩:=I.pin p T;have lt:=ir e;show{keep _ _ e,?_,ku (z3 lt P),λz=>K p.1 z p T (),d};rw[ak (ku lt)];show n
 ·change(iV ds k σ).length=W.length;unfold iV;rw[hQ,oq,I.len,hN,hQ,Es,hk]
def Fi(I:aN X a m H s)(f:∀b∈fp,vT X a H b)(g:aN (X.comp scope x cl C s H fp) a p i j)(r:s.heap.objs.size<C)(l:Heap.SameBut C j.heap h'):aN X a m i {j with heap:=h'}:=by
 have u:=g.base;have d:i C=none:=g.free;have ne:∀b o,s.heap.get? b=some o->b≠C:=λb o e=>ku (z3 (ir e) r);have t:Un (j4 X.stack) fp H i s.heap h':=by
  show{λb o e n h1 h2=>?_,λb o e n h1 h2=>?_,u.free,λb o e h2=>?_,u.tups,u.frzs,u.tbls}
  ·show(l.2 b (ne b o e)).trans (u.keep b o e n h1 h2)
  ·obtain⟨sl,q⟩:=u.slot b o e n h1 h2;show{sl,(l.2 b (ne b o e)).trans q}
  ·obtain⟨v,q⟩:=u.there b o e h2;show{v,(l.2 b (ne b o e)).trans q}
 have h:lO X.prog X.w i h':=λb ob e=>by
  show(g.hok b ob e).stay (λc y hc q=>(l.2 c ?_).trans q) (λ_ q=>q) λ_ _ q=>q;rintro rfl;rcases hc with rfl|hc
  ·rw[d]at e;cases e
  ·rw[d]at hc;cases hc
 show I.call' (s':={j with heap:=h'}) g.os t h g.bare λb k=>{(f b k).2.2.2.1,(f b k).2.1,(f b k).2.2.2.2.1,(f b k).2.2.2.2.2}
def aN.block_gone(I:aN X a d H s)(hn:H C=none)(f:C≠X.env.locals)(h1:X.s₀.heap.objs.size<=C)(h2:∀x c,X.env.cells.lookup x=some c->c≠C)(h3:∀p∈X.pn++a,p.1≠C)(g:Heap.SameBut C s.heap h'):aN X a d H {s with heap:=h'}:=I.turned (t':=s.toks) (λb o h e=>(g.2 b h).trans e) hn f (.inr h1) h2 h3
def wR(N':O5)(ds:O8)(k:Nat){a:O1}{s:Shared}{P:St}{H:Hp}{Q:VK}{use:Option (Value->Sem Unit)}{QV:O0}(hc:X.calm=true)(hi:PI X tg iter wi)(F:∀cl C s₀ H₀ ex,PG (X.comp scope N' cl C s₀ H₀ ex) tg g/\HC (X.comp scope N' cl C s₀ H₀ ex) R tc/\PE (X.comp scope N' cl C s₀ H₀ ex) a8 te)(hg:GK g js)(hj:∀P:St,P.length=X.N.length->∀j∈js,∀v,(iV ds k P)[j]?≠some (some v))(G:scope.kind=.function)(S:∀y∈scope.names,y.2≠.cell)(aa:∀y∈scope.names,y.2=.local->scope.names.lookup y.1=some .local)(Z:∀y∈scope.names,y.2=.free->X.env.scope.names.lookup y.1=some .cell\/X.env.scope.names.lookup y.1=some .free)(hN:N'=X.N++ba)(hk:ba.length=k)(bb:∀i x,X.N[i]?=some x->scope.names.lookup x=some .local->i∈ds)(hs:∀x,foldedSetIterable iter X.env x=pure x)(I:aN X a P H s)(h:sX wi g ds k tc te P H Q)(fin:∀(D C:Addr)(H':Hp)(s':Shared)(m:O2),aN X a P H' s'->Q (.ref D) H'->s'.heap.Ns C m->H' C=none->C≠X.env.locals->X.s₀.heap.objs.size<=C->(∀x c,X.env.cells.lookup x=some c->c≠C)->(∀p∈X.pn++a,p.1≠C)->compPost (model X.prog X.w) X.A X.xe use QV (.ref D) C (.ok .next) s'):wpAny (model X.prog X.w) X.A (comprehension (.ListComp a8 [{tg,iter,R,0}] scope bc) scope X.env (firstIterPos [{tg,iter,R,0}] bc) (newList []) (firstAsync [{tg,iter,R,0}]) (firstIter [{tg,iter,R,0}] X.env) use) QV X.xe s:=by
 have V:∀y∈scope.names,y.2=.free->∃c,X.env.cells.lookup y.1=some c:=λy hy e=>I.ok.has y.1 (Z y hy e);obtain⟨cl,ax,bi,bl⟩:=vJ V;show wpAny_comprehension_free (use:=use) () hs ax G aa (cw (hi a s P H _ I h) λv s1 h1=>cw h1 λdv l h2=>?_);obtain⟨it,fp,tn,J,H2,e,Y,T,bt,f2,q⟩:=h2;subst e;have dA:=Y;obtain⟨W,⟨m0,w0⟩,bz⟩:=q l.heap.objs.size (Y.hok.fresh (e_ _));show pu (wpAny_newFunctionEnv S (by intro y hy;simp at hy) (λB t hsb₁=>?_) G);dsimp only at t hsb₁⊢;generalize a5:l.heap.push {cls:=.type "list",dict:=none,data:=.seq ([]:O3).toArray}=G2 at t hsb₁⊢;have hC:l.heap.objs.size<G2.objs.size:=by rw[<-a5,o0];show t4 _
 have keep:∀b o,l.heap.get? b=some o->B.get? b=some o:=λb o e=>hsb₁.extBut b o (ku (z3 (ir e) hC)) (c_ _ (a5▸c_ _ e))
 have hD:B.get? l.heap.objs.size=some {cls:=.type "list",data:=.seq ([]:O3).toArray 0}:=hsb₁.extBut _ _ (ku hC) (c_ _ (a5▸g_ _ ()));have fo:∀b∈fp,∃o,l.heap.get? b=some o:=λb F=>let⟨o,e,_⟩:=T.obj _ _ bt b F;(o,e,);obtain⟨bA,bO,b0⟩:=F cl G2.objs.size l H2 fp;generalize f:X.comp scope N' cl G2.objs.size l H2 fp=L at bA bO b0;have xp:L.prog=X.prog:=by rw[<-f];rfl
 have xw:L.w=X.w:=by rw[<-f];rfl
 have xK:L.K=X.K:=by rw[<-f];rfl
 have xA:L.A=X.A:=by rw[<-f];rfl
 have xe:L.xe=λ_ _=>False:=by rw[<-f];rfl
 have E:L.env=compEnvC scope cl G2.objs.size X.env:=by rw[<-f];rfl
 have b8:L.calm=true:=by rw[<-f];show hc
 have i9:aN L a (iV ds k P) (aG H2 l.heap.objs.size (.lst [])) {l with heap:=B,toks:=l.toks+([]:List (Str×Value)).length}:=by rw[<-f];show Fj Y f2 fo G S Z bi bl hN hk bb hC keep t hD
 have b9:tn 0 B:=T.keep _ _ _ bt λb _ o e=>keep b o e;have c4:∀b∈fp,aG H2 l.heap.objs.size (.lst []) b=none:=λb F=>by obtain⟨o,e⟩:=fo b F;rw[ak (ku (ir e))];show(f2 b F).1
 have U:∀{H':Hp},(∀b∈fp,H' b=none)->∀b∈fp,vT L a H' b:=λhn b F=>by
  obtain⟨f0,f1,f3,f4,f5,f6⟩:=f2 b F;obtain⟨o,e⟩:=fo b F;show{hn b F,?_,?_,?_,?_,?_}
  ·rw[E];show ku (z3 (ir e) hC)
  ·intro z;have z:b∈j4 X.stack:=by rw[<-f]at z;show z
   rcases s_.mp (Y.stkSub b z)with y|y
   ·show f1 y
   ·show f3 y
  ·rw[<-f];show .inl F
  ·intro x c ec;rw[E]at ec;show f5 x c (bi x c ec)
  ·intro p hp;rw[<-f]at hp;show f6 p hp
 have as:codeAny (model X.prog X.w) X.A (.compLoop (.ListComp a8 [{tg,iter,R,0}] scope bc) 0 (.ref it) (.ref l.heap.objs.size) (compEnvC scope cl G2.objs.size X.env)) (compPost (model X.prog X.w) X.A X.xe use QV (.ref l.heap.objs.size) G2.objs.size) {l with heap:=B,toks:=l.toks+([]:List (Str×Value)).length}:=by
  show zq (λn s'=>∃i M H',aN L a (iV ds k P) H' s'/\tn i s'.heap/\(∀b∈fp,H' b=none)/\W i n M H') ?_ m0 {0,[],_,i9,b9,c4,w0};rintro n s3⟨i,M,H3,I3,cc,ci,w3⟩;rcases bz i n M H3 w3 with⟨stop,qn⟩|⟨go,step⟩
  ·have td:=T.done L xp xw xK b8 i a s3 _ H3 (λ_ _=>False) I3 (U ci) cc stop;rw[xA]at td;show cw td λr s4 O=>?_;obtain⟨hr,I4⟩:=O;subst hr;have ad:=I4;rw[<-f]at ad;obtain⟨m',c5,_⟩:=ad.loc;show fin l.heap.objs.size G2.objs.size H3 s4 m' (Fi (h':=s4.heap) Y f2 ad hC (.refl ..)) qn c5 ad.free (ot (z3 Y.lt hC)) (tx (D_ Y.sz hC)) (λx c e z=>?_) λp hp z=>?_
   ·obtain⟨v,q⟩:=Y.cell x c e;show absurd (z3 q.lt hC) (by rw[z];show qx _)
   ·show absurd (z3 (ir (Y.pin p hp).1) hC) (by rw[z];show qx _)
  ·have ti:=T.item L xp xw xK b8 i a s3 _ H3 (λ_ _=>False) I3 (U ci) cc go;rw[xA]at ti;show cw ti λr s4 O=>?_;obtain⟨u,hr,h4⟩:=O;subst hr;show cw h4 λ_ s5 O=>?_;obtain⟨x,H5,I5,r5,y5,a6,da⟩:=O;have dc:=I5.pinned (U da) (T.obj _ _ a6);have pg:=bA _ s5 _ H5 x u _ dc r5 (hg x _ H5 _ (step x H5 y5));rw[xp,xw,xA,E,xe]at pg;show cw pg λ_ s6 O=>?_;obtain⟨an,H6,I6,⟨q6,c2,a7⟩⟩:=O;have again:∀{H7:Hp}{s7:Shared},aN L (a++ud fp s5.heap) an H7 s7->aN L a (iV ds k P) H7 s7/\tn (i+1) s7.heap/\∀b∈fp,H7 b=none:=λ{H7 s7}I7=>by
    show{I7.unpinned.weak c2.symm λj v e=>?_,T.keep _ _ _ a6 λb F o e=>(I7.pin (b,o) (nr _ (nr _ (lw F e)))).1,λb F=>?_}
    ·rw[a7 j λz=>hj P I.len j z v e];show e
    ·obtain⟨o,e,d⟩:=T.obj _ _ a6 b F;show(I7.pin (b,o) (nr _ (nr _ (lw F e)))).2.1
   have pt:=bO _ s6 an H6 _ I6 q6;rw[xp,xw,xA,E,xe]at pt;show cw pt λok s7 O=>?_;obtain⟨H7,I7,q7⟩:=O;cases ok with|false=>obtain⟨m',hm,w7⟩:=q7;obtain⟨a1,a2,a3⟩:=again I7;show{m',hm,i+1,M,H7,a1,a2,a3,w7}|true=>have pe:=b0 _ s7 an H7 _ I7 q7;rw[xp,xw,xA,E,xe]at pe;show cw pe λyv s8 O=>?_;obtain⟨y,H8,I8,r8,di,c3,m',hm,w8⟩:=O;have ap:=cK (X:=L) _ s8 an H8 (.ref l.heap.objs.size) [y] _ [yv] (λv H9=>H9=aG H8 l.heap.objs.size (.lst (M++[y]))) I8 () (.cons r8 .nil) {_,M,y,(),(),di,c3,()};rw[xp,xw,xA,xe]at ap;show cw ap λ_ s9 O=>?_;obtain⟨_,H9,I9,_,e9⟩:=O;subst e9;obtain⟨a1,a2,a3⟩:=again I9;show{m',hm,i+1,M++[y],_,a1,a2,a3,w8}
 show codeAny_compStart_list as (T.self _ 0 _ _ _ b9 as)
def GD(f:O5)(ds:O8)(k:Nat)(hc:X.calm=true)(hi:PI X t iter u)(w:∀cl C s₀ H₀ ex,PG (X.comp scope f cl C s₀ H₀ ex) t g/\HC (X.comp scope f cl C s₀ H₀ ex) o tc/\PE (X.comp scope f cl C s₀ H₀ ex) p te)(hg:GK g z)(A:∀r:St,r.length=X.N.length->∀j∈z,∀v,(iV ds k r)[j]?≠some (some v))(c:scope.kind=.function)(d:∀y∈scope.names,y.2≠.cell)(a:∀y∈scope.names,y.2=.local->scope.names.lookup y.1=some .local)(e:∀y∈scope.names,y.2=.free->X.env.scope.names.lookup y.1=some .cell\/X.env.scope.names.lookup y.1=some .free)(B:f=X.N++l)(E:l.length=k)(n:∀i x,X.N[i]?=some x->scope.names.lookup x=some .local->i∈ds)(F:∀x,foldedSetIterable iter X.env x=pure x:=by intro _;rfl):PE X (.ListComp p [{t,iter,o,0}] scope G) (sX u g ds k tc te):=by intro b s r H Q I h;rw[eval_ListComp];show wR f ds k hc hi w hg A c d a e B E n F I h λD C J O m K q hn n1 n2 n3 n4 L=>?_;show{m,hn,λh' M=>{.ref D,J,K.block_gone n1 n2 n3 n4 L M,(),q}}
def Gw(r:O5)(ds:O8)(k:Nat)(F:X.N.Nodup)(G:X.N[i]?=some x)(Q:Kq X.env.scope x)(R:X.fn x=true\/X.env.scope.names.lookup x=some .local)(J:swapsWith (.ListComp f [{E,iter,l,0}] scope t) (some (.Name x c)) u.line X.env=pure true)(hc:X.calm=true)(hi:PI X E iter S)(T:∀cl C s₀ H₀ ex,PG (X.comp scope r cl C s₀ H₀ ex) E g/\HC (X.comp scope r cl C s₀ H₀ ex) l tc/\PE (X.comp scope r cl C s₀ H₀ ex) f te)(hg:GK g W)(Z:∀L:St,L.length=X.N.length->∀j∈W,∀v,(iV ds k L)[j]?≠some (some v))(n:scope.kind=.function)(o:∀y∈scope.names,y.2≠.cell)(d:∀y∈scope.names,y.2=.local->scope.names.lookup y.1=some .local)(p:∀y∈scope.names,y.2=.free->X.env.scope.names.lookup y.1=some .cell\/X.env.scope.names.lookup y.1=some .free)(hN:r=X.N++w)(hk:w.length=k)(B:∀i x,X.N[i]?=some x->scope.names.lookup x=some .local->i∈ds)(hs:∀x,foldedSetIterable iter X.env x=pure x:=by intro _;rfl):PS X (.Assign [.Name x c] (.ListComp f [{E,iter,l,0}] scope t) u) (yd (sX S g ds k tc te) (kP i)):=by
 intro b s L H D I h;rw[exec_Assign_Name_used _ _ _ _ J];show a_ (wpAny_standAt (a_ ?_));change wpAny _ X.A (do let _<-comprehension (.ListComp f [⟨E,iter,l,0⟩] scope t) scope X.env _ (newList []) false (eval iter X.env) (some (assign (.Name x c) X.env))) _ _ s;show a_ (wpAny_mono (wR (QV:=λ_ K=>SP X b D .next K) (use:=some (assign (.Name x c) X.env)) r ds k hc hi T hg Z n o d p hN hk B hs I h λDa C V K m Y q hn n1 n2 n3 n4 n5=>?_) (λ_ K hq=>f_ (f_ hq)) λ_ _ e=>e)
 change wpAny _ X.A (assign (.Name x c) X.env (.ref Da)) _ _ _;show wpAny_assign_Name (wc Y F G Q (v:=.ref Da) () (λaa M⟨a,sb,ha⟩=>?_) R);have O:C≠a:=by
  rcases ha with z|z
  ·rw[z];show n2
  ·showλe=>n4 x a z e.symm
 show{m,hn.sameBut sb O,λh' P=>{_,V,M.block_gone n1 n2 n3 n4 n5 P,q}}
def qJ(N0:O5)(ds:O8)(a scope:Scope):Bool:=scope.kind==.function&&scope.names.all (λy=>!(y.2==.cell)&&(!(y.2==.local)||scope.names.lookup y.1==some .local)&&(!(y.2==.free)||(a.names.lookup y.1==some .cell||a.names.lookup y.1==some .free)))&&N0.zipIdx.all λp=>!(scope.names.lookup p.1==some .local)||ds.contains p.2
def uK{N0:O5}{ds f:O8}{a scope:Scope}{k:Nat}(ok:qJ N0 ds a scope=true)(c:(f.all λj=>ds.contains j||decide (N0.length<=j))=true):(∀d:St,d.length=N0.length->∀j∈f,∀v,(iV ds k d)[j]?≠some (some v))/\scope.kind=.function/\(∀y∈scope.names,y.2≠.cell)/\(∀y∈scope.names,y.2=.local->scope.names.lookup y.1=some .local)/\(∀y∈scope.names,y.2=.free->a.names.lookup y.1=some .cell\/a.names.lookup y.1=some .free)/\(∀i x,N0[i]?=some x->scope.names.lookup x=some .local->i∈ds):=by
 unfold qJ at ok;rw[mu,mu]at ok;obtain⟨⟨h1,h2⟩,h3⟩:=ok;have h2:=C1.mp h2;have h3:=C1.mp h3;have c:=C1.mp c;show{?_,(by simpa using h1),?_,?_,?_,?_}
 ·intro d m j hm v e;obtain⟨_,g,n⟩:=zg e;have:=c j hm;rw[Bool.or_eq_true]at this;rcases this with z|z
  ·show g (by simpa using z)
  ·have:=n_ z;lia
 ·intro y b e;have:=h2 y b;rw[mu,mu]at this;have z:=this.1.1;rw[e]at z;show absurd z (by decide)
 ·intro y b e;have:=h2 y b;rw[mu,mu]at this;have z:=this.1.2;rw[e]at z;simpa using z
 ·intro y b e;have:=h2 y b;rw[mu,mu]at this;have z:=this.2;rw[e]at z;simpa using z
 ·intro i x h l;have:=h3 (x,i) (by rw[List.mem_zipIdx_iff_getElem?];show h);rw[Bool.or_eq_true]at this;rcases this with z|z
  ·rw[l]at z;show absurd z (by decide)
  ·simpa using z
def Hl(N0 a:O5)(ds m:O8)(c:Scope){d f iter:Expr}{e:O6}{scope:Scope}{h:Pos}{n:TI}{g:TG}{tc:TT}{te:TE}(hc:X.calm=true)(i:X.N=N0)(l:X.env.scope=c)(ok:qJ N0 ds c scope=true)(o:(m.all λj=>ds.contains j||decide (N0.length<=j))=true)(hg:GK g m)(hi:PI X f iter n)(p:∀cl C s₀ H₀ ex,PG (X.comp scope (N0++a) cl C s₀ H₀ ex) f g/\HC (X.comp scope (N0++a) cl C s₀ H₀ ex) e tc/\PE (X.comp scope (N0++a) cl C s₀ H₀ ex) d te)(q:∀x,foldedSetIterable iter X.env x=pure x:=by intro _;rfl):PE X (.ListComp d [{f,iter,e,0}] scope h) (sX n g ds a.length tc te):=by subst i;subst l;obtain⟨h1,h2,h3,h4,h5,b⟩:=uK ok o;show GD (X.N++a) ds a.length hc hi p hg h1 h2 h3 h4 h5 () () b q
def Fh(N0 a:O5)(ds s:O8)(e:Scope){i:Nat}{x:Str}{c d:Pos}{f m iter:Expr}{h:O6}{scope:Scope}{l:Pos}{t:TI}{g:TG}{tc:TT}{te:TE}(hc:X.calm=true)(n:X.N=N0)(o:X.env.scope=e)(ok:qJ N0 ds e scope=true)(v:(s.all λj=>ds.contains j||decide (N0.length<=j))=true)(hg:GK g s)(hi:PI X m iter t)(w:∀cl C s₀ H₀ ex,PG (X.comp scope (N0++a) cl C s₀ H₀ ex) m g/\HC (X.comp scope (N0++a) cl C s₀ H₀ ex) h tc/\PE (X.comp scope (N0++a) cl C s₀ H₀ ex) f te)(p:N0.Nodup)(q:N0[i]?=some x:=by rfl)(u:e.names.lookup x=some .local:=by rfl)(r:swapsWith (.ListComp f [{m,iter,h,0}] scope l) (some (.Name x c)) d.line X.env=pure true:=by rfl)(y:∀x,foldedSetIterable iter X.env x=pure x:=by intro _;rfl):PS X (.Assign [.Name x c] (.ListComp f [{m,iter,h,0}] scope l) d) (yd (sX t g ds a.length tc te) (kP i)):=by subst n;subst o;obtain⟨h1,h2,h3,h4,h5,b⟩:=uK ok v;show Gw (X.N++a) ds a.length p q (.inl u) (.inr u) r hc hi w hg h1 h2 h3 h4 h5 () () b y
def uP:cP X (.builtin "isinstance") (λa H Q=>∃x T t b,a=[x,.ty T]/\lD X.K H x t/\PySem.W.kitOne X.K t (.type T)=some b/\Q (.bl b) H):=by intro c s g H a i Q I r h;obtain⟨x,T,t,b,rfl,ty,e,q⟩:=h;obtain⟨u,d,rfl,f,rt⟩:=oB r;obtain rfl:d=Value.type T:=rt;show Ct I f ty e λtk=>{.bl b,H,I.tok tk,(),q}
def wU{bs:List Bool}{a:O3}(r:aY (bs.map V.bl) a){i:Nat}{v:Value}(h:a[i]?=some v):∃b,bs[i]?=some b/\v=.bool b:=by
 have d:=r.length;rw[b_]at d;have hi:i<a.length:=(d_.mp h).1;have c:bs[i]?=some bs[i]:=by simp
 obtain⟨u,h1,h2⟩:=r.get (i:=i) (x:=.bl bs[i]) (by rw[g8,c];rfl);rw[h]at h1;cases h1;show(bs[i],c,h2,)
def Ca{bs:List Bool}:((List.range bs.length).all λi=>bs.getD i true)=bs.all id:=by induction bs with|nil=>rfl|cons b r a=>
  rw[m_,List.range_succ_eq_map,Ny,List.all_map,Ny]
  congr 1
def B7{bs:List Bool}:((List.range bs.length).any λi=>bs.getD i true)=bs.any id:=by induction bs with|nil=>rfl|cons b r a=>
  rw[m_,List.range_succ_eq_map,yl,List.any_map,yl]
  congr 1
def EM{A:Around}(h:A.handled=none):A.in1.handled=none:=h
def CN(hc:X.calm=true):cP X (.builtin "all") (λg H Q=>∃(p:Addr)(bs:List Bool),g=[.ref p]/\aR X.K H p (bs.map V.bl)/\Q (.bl (bs.all id)) H):=by
 intro j s A H g B Q I r h;obtain⟨p,bs,rfl,m,q⟩:=h;obtain⟨u,rfl,t⟩:=ka r;cases t;obtain⟨a,k,pl,C⟩:=I.list m;show call_all_walk (NR pl.isList ?_);have d:p≠s.heap.objs.size:=ku (by obtain⟨o,n,e,_⟩:=pl;show ir e);have l:=k.length;rw[b_]at l;show{s.heap.objs.size,_,_,_,_,_,λi=>bs.getD i true,(),Walks.list (EM (I.ok.hd hc)) s.heap.objs.size p d a.toArray,{{_,g_ _ (),(),()},?_},?_,?_}
 ·show pl.isList.push _
 ·intro i v w x D f c;have f:a.toArray[i]?=some v:=f;obtain⟨b,y,rfl⟩:=wU k (i:=i) (v:=v) (by simpa using f);show rm ?_;have e:bs.getD i true=b:=by simp[List.getD,y]
  have c:x (bs.getD i true) w:=c;rw[e]at c;show c
 ·intro h' tk z;have e:((List.range a.toArray.size).all λi=>bs.getD i true)=bs.all id:=by rw[il,<-l,Ca]
  rw[e];show{.bl _,H,I.kept (h':=h') (t':=tk) λb o e=>z b o (by simp[ku (ir e)]) (c_ _ e),(),q}
def CM(hc:X.calm=true):cP X (.builtin "any") (λg H Q=>∃(p:Addr)(bs:List Bool),g=[.ref p]/\aR X.K H p (bs.map V.bl)/\Q (.bl (bs.any id)) H):=by
 intro j s A H g B Q I r h;obtain⟨p,bs,rfl,m,q⟩:=h;obtain⟨u,rfl,t⟩:=ka r;cases t;obtain⟨a,k,pl,C⟩:=I.list m;show call_any_walk (NR pl.isList ?_);have d:p≠s.heap.objs.size:=ku (by obtain⟨o,n,e,_⟩:=pl;show ir e);have l:=k.length;rw[b_]at l;show{s.heap.objs.size,_,_,_,_,_,λi=>bs.getD i true,(),Walks.list (EM (I.ok.hd hc)) s.heap.objs.size p d a.toArray,{{_,g_ _ (),(),()},?_},?_,?_}
 ·show pl.isList.push _
 ·intro i v w x D f c;have f:a.toArray[i]?=some v:=f;obtain⟨b,y,rfl⟩:=wU k (i:=i) (v:=v) (by simpa using f);show rm ?_;have e:bs.getD i true=b:=by simp[List.getD,y]
  have c:x (bs.getD i true) w:=c;rw[e]at c;show c
 ·intro h' tk z;have e:((List.range a.toArray.size).any λi=>bs.getD i true)=bs.any id:=by rw[il,<-l,B7]
  rw[e];show{.bl _,H,I.kept (h':=h') (t':=tk) λb o e=>z b o (by simp[ku (ir e)]) (c_ _ e),(),q}
def HF(x:Str):It:={λi _=>i<x.cps.size,λi H y a=>a=H/\∃c,x.cps[i]?=some c/\y=.str {#[c]},λi _=>x.cps.size<=i}
def C6{P:O4}{w:World}{K:OZ}{J:Expr}(a:Addr)(x:Str)(t:Tok)(f:String)(hn:["enumerate","zip","dict_itemiterator","dict_reverseitemiterator","odict_iterator","itertools.zip_longest","itertools.pairwise"].contains f=false)(W:∀A:Around,A.handled=none->Walks P w A a [a] [a] x.cps.size (SignAt x) (λi h=>h.IsStrIter a f x t i))(S:∀(A:Around)(i:Nat)(s:Shared)(Q:O0)(E:O0),s.heap.IsStrIter a f x t i->Q (.ref a) s->wpAny (model P w) A (pyIter (.ref a)) Q E s):vP P w K J (HF x) [a] a (λi h=>i<=x.cps.size/\h.IsStrIter a f x t i)where
 mem:=by simp
 obj:=λi h st b j=>by
  have e:b=a:=by simpa using j
  subst e;obtain⟨_,o,e,c,d⟩:=st;show{o,e,λv z=>by rw[d]at z;cases z}
 keep:=λi h h' st k=>by obtain⟨l,o,e,r⟩:=st;show{l,o,k a (by simp) o e,r}
 item:=by intro X p q y hc i g s G H E I n st hg;subst p q y;obtain⟨f0,f1,f2,f3,B,C⟩:=n a (by simp);show(W X.A (I.ok.hd hc)).item i s _ _ hg st.2 λv h' tk L m D=>?_;obtain⟨c,u,F,rfl⟩:=L;have I1:aN X g G H {s with heap:=h',toks:=tk}:=I.turned (λb o j e=>D b o (by simpa using j) e) f0 f1 f3 B C;obtain⟨o,e,c1,d⟩:=id m;have M:i<x.cps.size:=hg;show{_,(),wJ (s:={s with heap:=h',toks:=tk}) e c1 d hn {.str {#[c]},H,I1,{u,()},{(),c,F,()},{by omega,m},λb j=>(n b j).1}}
 done:=by intro X p q y hc i g s G H E I n st hg;subst p q y;obtain⟨f0,f1,f2,f3,B,C⟩:=n a (by simp);have e:i=x.cps.size:=Nat.le_antisymm st.1 hg;subst e;show(W X.A (I.ok.hd hc)).done s _ _ st.2 λh' tk D=>{(),I.turned (λb o j e=>D b o (by simpa using j) e) f0 f1 f3 B C}
 self:=λA i s Q E st h=>S A i s Q E st.2 h
def MV(a:TE):TI:=λb H R=>a b H λv c=>∃x,v=.str x/\R (HF x) c
def DZ{g l:Expr}{j:TE}(n:PE X l j):PI X g l (MV j):=by
 intro d s k H R I h;show cw (n d s k H _ I h) λv a p=>?_;obtain⟨y,r,I1,u,z⟩:=p;obtain⟨x,e,q⟩:=z;subst e;obtain⟨t,rfl⟩:=u;have fin:∀(c:String)(ob:Obj),(["enumerate","zip","dict_itemiterator","dict_reverseitemiterator","odict_iterator","itertools.zip_longest","itertools.pairwise"].contains c=false)->(∀A:Around,A.handled=none->Walks X.prog X.w A a.heap.objs.size [a.heap.objs.size] [a.heap.objs.size] x.cps.size (SignAt x) (λi h=>h.IsStrIter a.heap.objs.size c x t i))->(∀(A:Around)(i:Nat)(s:Shared)(Q:O0)(E:O0),s.heap.IsStrIter a.heap.objs.size c x t i->Q (.ref a.heap.objs.size) s->wpAny (model X.prog X.w) A (pyIter (.ref a.heap.objs.size)) Q E s)->(a.heap.push ob).IsStrIter a.heap.objs.size c x t 0->M8 X d k g R (.ref a.heap.objs.size) {a with heap:=a.heap.push ob}:=λc ob h1 h2 h3 h4=>by
  show{a.heap.objs.size,[a.heap.objs.size],_,HF x,r,(),I1.kept (t':=a.toks) λb o e=>c_ _ e,C6 _ x t c h1 h2 h3,{lh _,h4},λb B=>?_,q};have e:b=a.heap.objs.size:=by simpa using B
  subst e;show I1.fpOk (e_ _) (I1.hok.fresh (e_ _))
 cases m:x.cps.all (·<128)
 ·show wpAny_pyIter_wide m (fin "str_iterator" _ (by decide) (λA f=>Walks.strWide f _ x t) (λA i s Q E st h=>wpAny_pyIter_striter_wide st h) {_,g_ _ (),(),()})
 ·show wpAny_pyIter_ascii m (fin "str_ascii_iterator" _ (by decide) (λA f=>Walks.strAscii f _ x t) (λA i s Q E st h=>wpAny_pyIter_striter_ascii st h) {_,g_ _ (),(),()})
def Hg{x:Str}{g:TG}{l:TS}{D:j8}{a:St}{H:Hp}(Pv:Nat->St->Hp->Prop)(h0:Pv 0 a H)(o:∀i c a H,x.cps.toList[i]?=some c->Pv i a H->g (.str {#[c]}) a H λd j=>l {D with nx:=Pv (i+1),ct:=Pv (i+1),bk:=D.nx} d j)(hd:∀a H,Pv x.cps.toList.length a H->D.nx a H):∃W:Nat->Nat->St->Hp->Prop,(∃m,W 0 m a H)/\∀i m a H,W i m a H->((HF x).stop i H/\D.nx a H)\/((HF x).go i H/\∃N:St->Hp->Prop,(∀f h,N f h->∃n,n<m/\W (i+1) n f h)/\∀y h,(HF x).yld i H y h->g y a h λd j=>l {D with nx:=N,ct:=N,bk:=D.nx} d j):=by
 have k:x.cps.toList.length=x.cps.size:=by simp
 show{λi m a H=>m=x.cps.size-i/\i<=x.cps.size/\Pv i a H,{x.cps.size,by simp,lh _,h0},?_};rintro i m a H⟨rfl,hi,p⟩
 by_cases b:i<x.cps.size
 ·show .inr {b,Pv (i+1),λf h q=>{x.cps.size-(i+1),by omega,(),b,q},λy h r=>?_};obtain⟨e,c,hc,rfl⟩:=r;subst e;show o i c a _ (by simpa using hc) p
 ·have e:i=x.cps.size:=by omega
  subst e;show .inl {e_ _,hd a H (by rw[k];show p)}
def Jf:V->List V->Hp->VK->Prop:=λx a H Q=>∃z y i r,x=.str z/\a=[.str y]/\Builtin.Str.occurrences z y 0 z.length 1=i::r/\Q (.int (i:Nat)) H
def Ei:Md X "str.index" Jf:=by intro a s e H x f v g Q I b c h;obtain⟨z,y,i,r,rfl,rfl,d,q⟩:=h;obtain⟨t,rfl⟩:=b;obtain⟨u,rfl,j,rfl⟩:=ka c;show SC.index d {.int _,H,I.tok _,{_,()},q}
end
section
variable{X:Cx}(K:OZ)(f:X.K=K)
include f
def aI:cP X (.builtin "len") (λa H Q=>∃x n,a=[x]/\Mg K x H n/\Q (.int n) H):=by subst f;show Fl
def kQ:cP X (.builtin "isinstance") (λa H Q=>∃x T t b,a=[x,.ty T]/\lD K H x t/\PySem.W.kitOne K t (.type T)=some b/\Q (.bl b) H):=by subst f;show uP
def ij(hc:X.calm=true):cP X (.builtin "all") (λa H Q=>∃(p:Addr)(bs:List Bool),a=[.ref p]/\aR K H p (bs.map V.bl)/\Q (.bl (bs.all id)) H):=by subst f;show CN hc
def qL(hc:X.calm=true):cP X (.builtin "any") (λa H Q=>∃(p:Addr)(bs:List Bool),a=[.ref p]/\aR K H p (bs.map V.bl)/\Q (.bl (bs.any id)) H):=by subst f;show CM hc
def EI:KL X (Je K):=by subst f;show G5
def G4:KL X (Jd K):=by subst f;show JU
def tw:KJ X (Lk K):=by subst f;show Gq
def AR:KJ X (Lj K):=by subst f;show IV
def qi:kU X (compareOp .In) (Mq K false):=by subst f;show Cf
def uj:kU X (binaryOp .Add) (HL K):=by subst f;show GH
def lC:cP X (.type "list") (λc H Q=>∃p a,c=[.ref p]/\(aR K H p a\/a0 K H p a)/\∀l,H l=none->Q (.ref l) (aG H l (.lst a))):=by subst f;show xM
def fh:cP X (.type "tuple") (λc H Q=>∃p a,c=[.ref p]/\((aR K H p a/\∀l,H l=none->Q (.ref l) (aG H l (.tup a)))\/(a0 K H p a/\Q (.ref p) H))):=by subst f;show vK
def cO{c l:Expr}{a:TE}(d:PE X l a):PI X c l (HR K a):=by subst f;show Gz d
def iG{c l:Expr}{a:TE}(d:PE X l a):PI X c l (LS K a):=by subst f;show Jl d
def aO{a:Expr}{d:TE}(g:PE X a d)(h:∀c,isTrue a X.env c=(do let v<-c;standAt a.pos;holding [v] (truthy v))):PT X a (λi H Q=>d i H λx e=>∃k,Kj K x e k/\Q k e):=by subst f;show DX g h
def fC{i:O6}{k:Nat}{a:Pos}{t:KI}{n:Nat}(hc:X.calm=true)(h:Kn X i t)(hn:(assignEach i X.env).length=n:=by rfl)(c:(assignEach i X.env).findIdx? (·.1)=none:=by rfl):PG X (.Tuple i k a) (J0 K n t):=by subst f;show Jm hc h hn c
variable{o e:Expr}{i:O6}{j:TE}{t:TA}{d:Str}{g c:Pos}{T id:String}{r:V->List V->Hp->VK->Prop}
def A7(m:PlainAttrs T)(slot:Slot T d id)(l:typeOf (.builtin id)=pure (.type "method_descriptor"))(hm:Md X id r)(n:PE X o j)(a:attributeBase o d X.env (eval o X.env)=eval o X.env:=by rfl)(h:(g.endLine==c.line)=true:=by rfl):PE X (.Call (.Attribute o d g) [] [] c) (K4 K T r j):=by subst f;show Jp m slot l hm n a h
def eZ(p:PlainAttrs T)(slot:Slot T d id)(n:typeOf (.builtin id)=pure (.type "method_descriptor"))(hm:Md X id r)(q:PE X o j)(s:PA X (e::i) t)(h:attributeBase o d X.env (eval o X.env)=eval o X.env:=by rfl)(m:((backTo c (starEach (e::i) X.env)).all (λx=>!x.1)&&(backToKw c (keywordEach [] X.env)).all (λx=>x.1.isSome)&&decide ((e::i).length+([]:List Keyword).length+(if([]:List Keyword).isEmpty then 0 else 1)<30))=true:=by rfl)(l:(g.endLine==c.line)=true:=by rfl)(u:starEach (e::i) X.env=(false,eval e X.env)::starEach i X.env:=by rfl)(a:(backTo c (starEach i X.env)).any (·.1)=false:=by rfl):PE X (.Call (.Attribute o d g) (e::i) [] c) (tBM K T r j t):=by subst f;show Lv p slot n hm q s h m l u a
end
def aK:bootBuiltins "len"=some (.builtin "len"):=by decide+kernel
def Fo:bootBuiltins "max"=some (.builtin "max"):=by decide+kernel
def uT:bootBuiltins "min"=some (.builtin "min"):=by decide+kernel
def aT:bootBuiltins "isinstance"=some (.builtin "isinstance"):=by decide+kernel
def jm:bootBuiltins "all"=some (.builtin "all"):=by decide+kernel
def uV:bootBuiltins "any"=some (.builtin "any"):=by decide+kernel
def zz:bootBuiltins "divmod"=some (.builtin "divmod"):=by decide+kernel
def mB:bootBuiltins "sorted"=some (.builtin "sorted"):=by decide+kernel
def Fn:bootBuiltins "sum"=some (.builtin "sum"):=by decide+kernel
def Fp:bootBuiltins "int"=some (.type "int"):=by decide+kernel
def zy:bootBuiltins "str"=some (.type "str"):=by decide+kernel
def CP:bootBuiltins "bool"=some (.type "bool"):=by decide+kernel
def eR:bootBuiltins "list"=some (.type "list"):=by decide+kernel
def bK:bootBuiltins "tuple"=some (.type "tuple"):=by decide+kernel
def uS:bootBuiltins "set"=some (.type "set"):=by decide+kernel
def uU:bootBuiltins "enumerate"=some (.type "enumerate"):=by decide+kernel
def Fm:bootBuiltins "zip"=some (.type "zip"):=by decide+kernel
def vM:bootBuiltins "reversed"=some (.type "reversed"):=by decide+kernel
section
variable{X:Cx}
def iJ(hg:Gl X x)(hm:X.mg x=none)(a:bootBuiltins x=some (.type T))(hn:x≠"__name__":=by decide)(hd:(x==("__debug__":Str))=false:=by decide):PE X (.Name x c) (tC (.ty T)):=GE hg hm a () hn hd
def cD(hm:∃u,X.mg x=some u/\aX v u)(hg:Gl X x)(hd:(x==("__debug__":Str))=false:=by decide):PE X (.Name x a) (tC v):=by obtain⟨u,h1,h2⟩:=hm;show A6 hg h1 h2 hd
end
def dQ{K:OZ}{A B:String}{b:Bool}(h:(if((Value.type A)==.type B)=true then some true else if PySem.W.kitMeta B=true then(fastBuiltinMro A).map (·.contains (.type B))else none)=some b):PySem.W.kitOne K (.type A) (.type B)=some b:=h
def kJ{i j:Int}{A B:Prop}(h1:i=j->A)(h2:i≠j->B):if decide (V.int i=V.int j)=true then A else B:=by
 by_cases h:i=j
 ·subst h;rw[k_ ()];show bG (h1 ())
 ·rw[lm (λe=>h (V.int.inj e))];show bW (h2 h)
def jk{c:Prop}[Decidable c]{A B:Prop}(h1:c->A)(h2:¬c->B):if decide c=true then A else B:=by
 by_cases h:c
 ·rw[k_ h];show bG (h1 h)
 ·rw[lm h];show bW (h2 h)
def vG{b:Bool}{A B:Prop}(h1:b=true->A)(h2:b=false->B):if b=true then A else B:=by cases b with|true=>show bG (h1 ())|false=>show bW (h2 ())
def aq(h:F (a.set j (some x)) H):kP j x a H F:=h
def jv(h:F true H):KO a H F:=h
def Jy(h:aG H a o b=none):b≠a/\H b=none:=by
 by_cases e:b=a
 ·rw[e,ae]at h;cases h
 ·rw[ak e]at h;show(e,h,)
def bI(i:Int){n:Int}(h:0<n):0<=i%n/\i%n<n:={Nk _ (by lia),Nm _ h}
def JF(x:Int):Builtin.bitAnd x 2147483647=x%2147483648:=PySem.W.kbt_mask x 31
section
variable{X:Cx}
def MM:V->Option Int->Option Int->Hp->VK->Prop:=λx lo hi H Q=>∃z,x=.str z/\z.length<=sizeLine/\Q (.str (Txt.slice z lo hi)) H
def xg:KJ X MM:=by intro a s g H x v n o lo hi sl Q I m b pl d h;obtain⟨z,rfl,c,q⟩:=h;obtain⟨t,rfl⟩:=m;show{"str",_,F.slot_str_getitem.lookup,typeIs_str _ _ _,?_};have fin:∀(e:Tok)(k:Nat),EP X a g Q (.str (Txt.slice z lo hi) e) {s with toks:=k}:=λe k=>{.str _,H,I.tok k,{_,()},q};cases pl with
 |none=>cases d with|none=>show Np (l:=none) (u:=none) (st:=none) b () (Ol {kl (Txt.slice_le z _ _) c,fin})|int j u=>show Np (l:=none) (u:=some (j,u)) (st:=none) b () (Ol {kl (Txt.slice_le z _ _) c,fin})
 |int i f=>cases d with|none=>show Np (l:=some (i,f)) (u:=none) (st:=none) b () (Ol {kl (Txt.slice_le z _ _) c,fin})|int j u=>show Np (l:=some (i,f)) (u:=some (j,u)) (st:=none) b () (Ol {kl (Txt.slice_le z _ _) c,fin})
end
def Ib{c:Bool}{t u:TS}{D:j8}{a:St}{H:Hp}(J:St->Hp->Prop)(h1:∀a H,J a H->D.nx a H)(h2:∀N:St->Hp->Prop,(∀a H,J a H->N a H)->if c=true then t {D with nx:=N} a H else u {D with nx:=N} a H):if c=true then t D a H else u D a H:=h2 D.nx h1
def jM(h:D.nx a H):yc D a H:=h
def aj(h:am c H)(hn:H a=none):am c (aG H a o):=λb d f=>by have e:=h b d f;rw[ak (av e hn)];show e
def zC(h0:0<=i)(h1:i<xs.length):∃c,qO xs i=some c/\c∈xs:=by show{xs[i.toNat]'(by lia),?_,OQ _};unfold qO G7;rw[hY h0,hY h1];change xs[i.toNat]?=_;rw[g6 (by lia)]
def df{n:Nat}(h:n<=65536):n<=sizeLine:=by rw[ig];lia
mutual
inductive CT(K:OZ)(H:Hp):V->PyData->Prop|non:CT K H .non .none|bl(b:Bool):CT K H (.bl b) (.bool b)|int(i:Int):CT K H (.int i) (.int i)|str(x:Str):CT K H (.str x) (.str x)|lst{a:Addr}{xs:List V}{ds:List PyData}:aR K H a xs->IsPs K H xs ds->CT K H (.ref a) (.list ds)|tup{a:Addr}{xs:List V}{ds:List PyData}:a0 K H a xs->IsPs K H xs ds->CT K H (.ref a) (.tuple ds)
inductive IsPs(K:OZ)(H:Hp):List V->List PyData->Prop|nil:IsPs K H [] []|cons{v:V}{d:PyData}{vs:List V}{ds:List PyData}:CT K H v d->IsPs K H vs ds->IsPs K H (v::vs) (d::ds)
end
section
variable{X:Cx}{c:O1}{f:St}{H:Hp}{s:Shared}
mutual
theorem CT.reads(I:aN X c f H s):∀{v:V}{d:PyData}{u:Value},CT X.K H v d->aX v u->∃g,Reads s.heap u d g|_,_,_,.non,r=>by obtain rfl:_=Value.none:=r;show{_,.none}|_,_,_,.bl b,r=>by obtain rfl:_=Value.bool b:=r;show{_,.bool b}|_,_,_,.int i,r=>by obtain⟨t,rfl⟩:=r;show{_,.int i t}|_,_,_,.str x,r=>by obtain⟨t,rfl⟩:=r;show{_,.str x t}|_,_,_,.lst (a:=a) h j,r=>by obtain rfl:_=Value.ref a:=r;obtain⟨k,l,⟨o,n,e,hc,_,hd⟩,_⟩:=I.list h;obtain⟨g,q⟩:=IsPs.reads I j l;show{_,.list e hc hd (by simpa using q)}|_,_,_,.tup (a:=a) h j,r=>by obtain rfl:_=Value.ref a:=r;obtain⟨k,l,⟨o,e,hc,n,hd⟩,_⟩:=I.tuple h;obtain⟨g,q⟩:=IsPs.reads I j l;show{_,.tuple e hc hd (by simpa using q)}
theorem IsPs.reads(I:aN X c f H s):∀{a:List V}{ds:List PyData}{d:O3},IsPs X.K H a ds->aY a d->∃e,ReadsAll s.heap d ds e|_,_,_,.nil,r=>by cases r;show{_,.nil}|_,_,_,.cons h b,r=>by cases r with|cons g r2=>obtain⟨e,q⟩:=CT.reads I h g;obtain⟨bs,p⟩:=IsPs.reads I b r2;show{_,.cons q p}
end
end
section
variable{X:Cx}
def Lo(K:OZ):R2:=λx y H Q=>∃d e,CT K H x d/\CT K H y e/\SeqAt.shaped d=true/\SeqAt.shaped e=true/\Q (.bl (PyData.eqv d e)) H
def Jt(c:X.A.units+64<cLine):kU X (compareOp .Eq) (Lo X.K):=by intro a s i H x y v u Q I b f h;obtain⟨d,e,h1,h2,h3,h4,q⟩:=h;obtain⟨j,g⟩:=h1.reads I b;obtain⟨bs,r2⟩:=h2.reads I f;show eq_dataH g r2 h3 h4 c {.bl _,H,I,(),q}
def MW{A:Around}{k:Nat}(a:eX k A):A.units+64<cLine:=by have:=a.un;lia
def GG(K:OZ)(a:X.K=K)(c:X.A.units+64<cLine):kU X (compareOp .Eq) (Lo K):=by subst a;show Jt c
def Fk(hc:X.calm=true):cP X (.builtin "sum") (λa H Q=>∃(p:Addr)(ns:O_),a=[.ref p]/\(aR X.K H p (ns.map V.int)\/a0 X.K H p (ns.map V.int))/\Q (.int ns.sum) H):=by
 intro j s n H a o Q I r h;obtain⟨p,ns,rfl,d,q⟩:=h;obtain⟨u,rfl,k⟩:=ka r;cases k;have sm:∀{b:O3},aY (ns.map V.int) b->∃a:Array (Int×Tok),b.toArray=intItems a/\preSum (numAt a) a.size=ns.sum:=λf=>by
  have hi:IntsAre _ ns:=Au f;obtain⟨a,c⟩:=hi.allInts.items;show{a,c,?_};have l:ns=a.toList.map (·.1):=by rw[<-nums_intItems,<-c];show hi.numsOf.symm
  rw[preSum_eq,iq (by simp),l]
 rcases d with d|d
 ·obtain⟨b,f,pl,m⟩:=I.list d;obtain⟨a,c,e⟩:=sm f;show sum_intListG (I.ok.hd hc) (xs:=a) (c▸pl.isList) λh' tk g i=>?_;rw[e];show{.int _,H,I.kept (h':=h') (t':=tk) i,{_,()},q}
 ·obtain⟨b,f,pt,m⟩:=I.tuple d;obtain⟨a,c,e⟩:=sm f;show PySem.W.ktm_sumG (I.ok.hd hc) (xs:=a) (c▸pt) λh' tk g i=>?_;rw[e];show{.int _,H,I.kept (h':=h') (t':=tk) i,{_,()},q}
def CH(K:OZ)(a:X.K=K)(hc:X.calm=true):cP X (.builtin "sum") (λc H Q=>∃(p:Addr)(ns:O_),c=[.ref p]/\(aR K H p (ns.map V.int)\/a0 K H p (ns.map V.int))/\Q (.int ns.sum) H):=by subst a;show Fk hc
end
def bM(h:am d H)(hn:d a=none):am d (aG H a o):=λb f c=>by
 have:b≠a:=λe=>by rw[e,hn]at c;cases c
 rw[ak this];show h b f c
def ao{a:Type}{c:List a}{k:Nat}{v:a}(h:c[k]?=some v):qO c (k:Int)=some v:=by have b:=(d_.mp h).1;unfold qO G7;rw[hY (by lia),hY (by lia)];show h
def mU{ns:O_}{k:Int}(h0:0<=k)(h1:k<ns.length):qO (ns.map V.int) k=some (.int (ns.getD k.toNat 0)):=by obtain⟨n,rfl⟩:∃n:Nat,k=n:={k.toNat,by lia};show ao ?_;rw[g8,g6 (by lia)];simp only[oD,List.getD,g6 (show n<ns.length by lia)];rfl
def G6{n:Nat}{k:Int}(h0:0<=k)(h1:k<n):G7 n k=some k.toNat:=by unfold G7;rw[hY h0,hY h1]
def y6(ns:O_)(j:Nat)(v:Int):(ns.map V.int).set j (.int v)=(ns.set j v).map V.int:=by rw[List.map_set]
def am.tseq{K:OZ}{H c:Hp}{a:Addr}{d:List V}(e:am H c)(h:a0 K H a d):a0 K c a d:=by
 rcases h with h|h
 ·rcases h with h|⟨o,h⟩
  ·show .inl (.inl (e _ _ h))
  ·show .inl (.inr {o,e _ _ h})
 ·show .inr h
@[irreducible]def cQ:Int:=10^(30:Int).toNat
def yb:cQ=10^(30:Int).toNat:=by unfold cQ;rfl
def wa:1000000000000000000<cQ:=by rw[yb];decide+kernel
section
variable{X:Cx}
def ui:kU X (binaryOp .Pow) (λx y H Q=>x=.int 10/\y=.int 30/\Q (.int cQ) H):=by intro a s b H x y v u Q I c d h;obtain⟨rfl,rfl,q⟩:=h;rw[yb]at q;show Js a s b H _ _ v u Q I c d {10,30,(),(),{by decide,by decide,by decide},q}
end
def lf{n i:Nat}{P:Prop}(hi:i<n)(h:P):∃a,a<n-i/\a=n-(i+1)/\i+1<=n/\P:={_,by lia,(),hi,h}
def ia{K:OZ}{lo:Int}{n:Nat}{g:TG}{ds:O8}{k:Nat}{tc:TT}{te:TE}{r:St}{s:Hp}{D:Addr}{F:Hp->Prop}(Pv:Nat->List V->Hp->Prop)(h0:Pv 0 [] (aG s D (.lst [])))(t:∀i a c,i<n->Pv i a c->g (.int (lo+i)) (iV ds k r) c λd o=>tc d o λb h=>if b=true then te d h λy j=>j D=some (.lst a)/\a.length<sizeLine/\∃f,f<n-i/\f=n-(i+1)/\i+1<=n/\Pv (i+1) (a++[y]) (aG j D (.lst (a++[y])))else∃f,f<n-i/\f=n-(i+1)/\i+1<=n/\Pv (i+1) a h)(hd:∀a c,Pv n a c->F c):∃W:Nat->Nat->List V->Hp->Prop,(∃m,W 0 m [] (aG s D (.lst [])))/\∀i m a c,W i m a c->((FH lo n).stop i c/\F c)\/((FH lo n).go i c/\∀x q,(FH lo n).yld i c x q->g x (iV ds k r) q λd o=>tc d o λb h=>if b=true then te d h λy j=>j D=some (.lst a)/\a.length<sizeLine/\∃f,f<m/\W (i+1) f (a++[y]) (aG j D (.lst (a++[y])))else∃f,f<m/\W (i+1) f a h):=by
 show{λi m a c=>m=n-i/\i<=n/\Pv i a c,{_,(),lh _,h0},?_};rintro i m a c⟨rfl,hi,p⟩
 by_cases l:i<n
 ·show .inr {l,λx q y=>?_};obtain⟨e,y⟩:=y;subst e y;show t i a _ l p
 ·have e:i=n:=by lia
  subst e;show .inl {e_ _,hd a c p}
def i5{K:OZ}{a:Addr}{xs:List V}{g:TG}{ds:O8}{k:Nat}{tc:TT}{te:TE}{s:St}{t:Hp}{D:Addr}{F:Hp->Prop}(Pv:Nat->List V->Hp->Prop)(h0:Pv 0 [] (aG t D (.lst [])))(u:∀i c d,i<=xs.length->Pv i c d->aR K d a xs)(v:∀i x c d,xs[i]?=some x->Pv i c d->g x (iV ds k s) d λf n=>tc f n λb j=>if b=true then te f j λy l=>l D=some (.lst c)/\c.length<sizeLine/\∃h,h<xs.length-i/\h=xs.length-(i+1)/\i+1<=xs.length/\Pv (i+1) (c++[y]) (aG l D (.lst (c++[y])))else∃h,h<xs.length-i/\h=xs.length-(i+1)/\i+1<=xs.length/\Pv (i+1) c j)(hd:∀c d,Pv xs.length c d->F d):∃W:Nat->Nat->List V->Hp->Prop,(∃m,W 0 m [] (aG t D (.lst [])))/\∀i m c d,W i m c d->((Ig K a).stop i d/\F d)\/((Ig K a).go i d/\∀x o,(Ig K a).yld i d x o->g x (iV ds k s) o λf n=>tc f n λb j=>if b=true then te f j λy l=>l D=some (.lst c)/\c.length<sizeLine/\∃h,h<m/\W (i+1) h (c++[y]) (aG l D (.lst (c++[y])))else∃h,h<m/\W (i+1) h c j):=by
 show{λi m c d=>m=xs.length-i/\i<=xs.length/\Pv i c d,{_,(),lh _,h0},?_};rintro i m c d⟨rfl,hi,p⟩;have q:=u i c d hi p
 by_cases r:i<xs.length
 ·show .inr {{xs,xs[i],q,by simp[r]},λx o y=>?_};obtain⟨e,y⟩:=y;subst e;show v i x c _ (y xs q) p
 ·have e:i=xs.length:=by lia
  subst e;show .inl {{xs,q,e_ _},hd c d p}
def gR{K:OZ}{a:Addr}{xs:List V}{g:TG}{ds:O8}{k:Nat}{tc:TT}{te:TE}{s:St}{t:Hp}{D:Addr}{F:Hp->Prop}(Pv:Nat->List V->Hp->Prop)(h0:Pv 0 [] (aG t D (.lst [])))(u:∀i c d,i<=xs.length->Pv i c d->a0 K d a xs)(v:∀i x c d,xs[i]?=some x->Pv i c d->g x (iV ds k s) d λf n=>tc f n λb j=>if b=true then te f j λy l=>l D=some (.lst c)/\c.length<sizeLine/\∃h,h<xs.length-i/\h=xs.length-(i+1)/\i+1<=xs.length/\Pv (i+1) (c++[y]) (aG l D (.lst (c++[y])))else∃h,h<xs.length-i/\h=xs.length-(i+1)/\i+1<=xs.length/\Pv (i+1) c j)(hd:∀c d,Pv xs.length c d->F d):∃W:Nat->Nat->List V->Hp->Prop,(∃m,W 0 m [] (aG t D (.lst [])))/\∀i m c d,W i m c d->((Ie K a).stop i d/\F d)\/((Ie K a).go i d/\∀x o,(Ie K a).yld i d x o->g x (iV ds k s) o λf n=>tc f n λb j=>if b=true then te f j λy l=>l D=some (.lst c)/\c.length<sizeLine/\∃h,h<m/\W (i+1) h (c++[y]) (aG l D (.lst (c++[y])))else∃h,h<m/\W (i+1) h c j):=by
 show{λi m c d=>m=xs.length-i/\i<=xs.length/\Pv i c d,{_,(),lh _,h0},?_};rintro i m c d⟨rfl,hi,p⟩;have q:=u i c d hi p
 by_cases r:i<xs.length
 ·show .inr {{xs,xs[i],q,by simp[r]},λx o y=>?_};obtain⟨e,y⟩:=y;subst e;show v i x c _ (y xs q) p
 ·have e:i=xs.length:=by lia
  subst e;show .inl {{xs,q,e_ _},hd c d p}
def Fg{K:OZ}{z:Str}{g:TG}{ds:O8}{k:Nat}{tc:TT}{te:TE}{r:St}{s:Hp}{D:Addr}{F:Hp->Prop}(Pv:Nat->List V->Hp->Prop)(h0:Pv 0 [] (aG s D (.lst [])))(t:∀i c a d,z.cps.toList[i]?=some c->Pv i a d->g (.str {#[c]}) (iV ds k r) d λf n=>tc f n λb j=>if b=true then te f j λy l=>l D=some (.lst a)/\a.length<sizeLine/\∃h,h<z.cps.toList.length-i/\h=z.cps.toList.length-(i+1)/\i+1<=z.cps.toList.length/\Pv (i+1) (a++[y]) (aG l D (.lst (a++[y])))else∃h,h<z.cps.toList.length-i/\h=z.cps.toList.length-(i+1)/\i+1<=z.cps.toList.length/\Pv (i+1) a j)(hd:∀a d,Pv z.cps.toList.length a d->F d):∃W:Nat->Nat->List V->Hp->Prop,(∃m,W 0 m [] (aG s D (.lst [])))/\∀i m a d,W i m a d->((HF z).stop i d/\F d)\/((HF z).go i d/\∀x o,(HF z).yld i d x o->g x (iV ds k r) o λf n=>tc f n λb j=>if b=true then te f j λy l=>l D=some (.lst a)/\a.length<sizeLine/\∃h,h<m/\W (i+1) h (a++[y]) (aG l D (.lst (a++[y])))else∃h,h<m/\W (i+1) h a j):=by
 show{λi m a d=>m=z.cps.toList.length-i/\i<=z.cps.toList.length/\Pv i a d,{_,(),lh _,h0},?_};rintro i m a d⟨rfl,hi,p⟩;have v:z.cps.toList.length=z.cps.size:=by simp
 by_cases q:i<z.cps.size
 ·show .inr {q,λy o u=>?_};obtain⟨e,c,hc,rfl⟩:=u;subst e;show t i c a _ (by simpa using hc) p
 ·have e:i=z.cps.toList.length:=by lia
  subst e;show .inl {by change z.cps.size<=_;lia,hd a d p}
def EK{i j:Str}{A B:Prop}(h1:i=j->A)(h2:i≠j->B):if decide (V.str i=V.str j)=true then A else B:=by
 by_cases h:i=j
 ·subst h;rw[k_ ()];show bG (h1 ())
 ·rw[lm (λe=>h (V.str.inj e))];show bW (h2 h)
abbrev fV(led:Bool):Obj:={cls:=.type "set",dict:=none,data:=.set #[] 0 (.fresh 0 0 led)}
def uz{a:Type}[BEq a](c:Nat->a)(i:Nat):List a:=((List.range i).map c).foldl step_dedup []
section
variable{a:Type}[DecidableEq a][BEq a][LawfulBEq a]
def wC(c:Nat->a)(i:Nat):uz c (i+1)=step_dedup (uz c i) (c i):=by change((List.range (i+1)).map c).foldl step_dedup []=_;rw[NF,hF,z5];rfl
def Eo(c:Nat->a)(i:Nat):(uz c i).length<=i:=by induction i with|zero=>show e_ 0|succ i b=>
  rw[wC];unfold step_dedup
  split
  ·show rr b
  ·rw[hQ];show r4 b
end
def pW(b:Bool)(h:Heap)(a:Addr)(c:O7):Prop:=∃o,h.get? a=some o/\o.cls=.type (cond b "list" "tuple")/\∃n,o.data=.seq c n
def qV(b:Bool)(h:Heap)(a l:Addr)(i:Nat):Prop:=∃o,h.get? a=some o/\o.cls=.type (cond b "list_iterator" "tuple_iterator")/\o.data=.fields #[.ref l,.int i 0]
def pW.at{b:Bool}{h h':Heap}{a:Addr}{c:O7}(x:pW b h a c)(e:∀o,h.get? a=some o->h'.get? a=some o):pW b h' a c:=Exists.imp (λ_ r=>{e _ r.1,r.2}) x
def qV.at{b:Bool}{h h':Heap}{a l:Addr}{i:Nat}(x:qV b h a l i)(e:∀o,h.get? a=some o->h'.get? a=some o):qV b h' a l i:=Exists.imp (λ_ r=>{e _ r.1,r.2}) x
section
variable{P:O4}{w:World}{A:Around}{E:O0}{s:Shared}
def AQ{b:Bool}{l:Addr}{a:O7}{Q:O0}(c:pW b s.heap l a)(q:Q (.ref s.heap.objs.size) {s with heap:=s.heap.push {cls:=.type (cond b "list_iterator" "tuple_iterator"),data:=.fields #[.ref l,.int 0 0]}}):wpAny (model P w) A (pyIter (.ref l)) Q E s:=by cases b with|false=>show Nl c q|true=>show NR c q
end
instance(priority:=10000)keyBEq:BEq (Sum Int Str):={λa b=>decide (a=b)}
instance(priority:=10000)keyLaw:LawfulBEq (Sum Int Str)where
 eq_of_beq:=λh=>n_ h
 rfl:=k_ rfl
def dd{a:Type}[BEq a](c:List a):List a:=c.foldl step_dedup []
def nY(a:List c)(d:c):(List.range a.length).map (λi=>a.getD i d)=a:=by show List.ext_getElem (by simp) λi h1 h2=>?_;simp[List.getD,g6 h2]
def GR[BEq c](a:List c)(d:c):uz (λi=>a.getD i d) a.length=dd a:=by unfold uz dd;rw[nY]
section
def G3(r:aX (kV k) v):nN k v=true/\v.scannable=true:=by cases k with|inl i=>obtain⟨t,rfl⟩:=r;show{wH i t,()}|inr x=>obtain⟨t,rfl⟩:=r;show{wG x t,()}
end
theorem qG[BEq c]:∀(d:List c)(a:List c),(d.foldl step_dedup a).length<=a.length+d.length
 |[],a=>e_ _|k::r,a=>by
  have:=qG r (step_dedup a k);have h2:(step_dedup a k).length<=a.length+1:=by
   unfold step_dedup
   split
   ·show ry _
   ·rw[hQ];show e_ _
  rw[w_,m_];lia
theorem zo[DecidableEq d][BEq d][LawfulBEq d]:∀(f c:List d),c.Nodup->((f.foldl step_dedup c).length=c.length+f.length↔(c++f).Nodup)
 |[],c,h=>by simp[h]|k::r,c,h=>by
  rw[w_]
  by_cases e:c.any (·==k)=true
  ·have g:step_dedup c k=c:=by unfold step_dedup;rw[hY e]
   have hm:k∈c:=by obtain⟨x,j,q⟩:=Oa.mp e;rw[<-eq_of_beq q];show j
   rw[g]
   constructor
   ·intro q;have:=qG r c;rw[m_]at q;lia
   ·intro q;rw[oa]at q;show absurd () (q.2.2 k hm k (k4))
  ·have g:step_dedup c k=c++[k]:=by unfold step_dedup;rw[h_ e]
   have hm:k∉c:=λl=>e (Oa.mpr {k,l,qq k});rw[g];have i:=zo r (c++[k]) (by rw[oa];show{h,by simp,λa m b n q=>hm (by rw[List.mem_singleton.mp n]at q;show q▸m)})
   rw[z8]at i;rw[show c++k::r=c++([k]++r)by rfl,<-i,hQ,m_,List.length_singleton]
   constructor<;>intro q<;>lia
def Kb[DecidableEq c][BEq c][LawfulBEq c](a:List c):(dd a).length=a.length↔a.Nodup:=by have:=zo a [] NL;simp at this;unfold dd;show this
end L2
namespace L2
open PySem
def C8(t:SetTable)(n:Nat):(t.orStandIn n).led=t.led/\(t.plain=false->(t.orStandIn n).plain=false):=by
 unfold SetTable.orStandIn
 split
 ·show{(),id}
 ·show{(),λ_=>()}
def Iq(t:SetTable)(a:Array (Int×Value))(h:Int)(x:Value):(layNew t a h x).2.1.led=t.led/\(t.plain=false->(layNew t a h x).2.1.plain=false):=by
 unfold layNew
 split
 ·rename_i sl wd e;show C8 (t.put sl).1 _
 ·show{(),λ_=>()}
def C9(t:SetTable)(a:Array (Int×Value))(n:Nat):(relayAll t a n).2.1.led=t.led/\(t.plain=false->(relayAll t a n).2.1.plain=false):=by
 unfold relayAll
 split
 ·rename_i b d e;have c:b.led=t.led/\b.plain=t.plain:=by unfold SetTable.relaid SetTable.laid at e;cases hc:SetTable.layClean (SetTable.sizeAbove n-1) (a.map (·.1))with|none=>rw[hc]at e;cases e|some ow=>rw[hc]at e;cases e;show{(),()}
  dsimp only
  split
  ·show{c.1,λh=>c.2.trans h}
  ·show{(),λ_=>()}
 ·show{(),λ_=>()}
def uI(h:l[i]?=some x):(x::l.eraseIdx i).Perm l:=by
 have a:=(d_.mp h).1;have b:=(d_.mp h).2;have e:l=l.take i++x::l.drop (i+1):=by rw[<-b,List.getElem_cons_drop,si]
 rw[List.eraseIdx_eq_take_drop_succ];show List.Perm.trans ?_ (List.Perm.of_eq e.symm);show List.perm_middle.symm
def wq(next:Nat->Nat)(c:Array d):(pickOrder next c).toList.Perm c.toList:=by
 have go:∀(a k:Nat)(left:List d)(out:Array d),left.length<=a->(pickOrder.go next a k left out).toList.Perm (out.toList++left):=by
  intro a
  induction a with|zero=>intro k left out h;have:left=[]:=List.length_eq_zero_iff.mp (by lia);subst this;unfold pickOrder.go;rw[n7]|succ a e=>intro k left out h;unfold pickOrder.go;cases b:left[next k%left.length]?with
 |none=>
    have hn:left=[]:=by cases left with|nil=>rfl|cons y f=>have:=K_.mp b;have:=Nat.mod_lt (next k) (show 0<(y::f).length from Od _);lia
    subst hn;rw[n7]|some x=>have g:=(d_.mp b).1;have i:=(d_.mp b).2;dsimp only;show(e _ _ _ (by rw[List.length_eraseIdx];split<;>lia)).trans ?_;rw[OK,z8];show List.Perm.append_left _ ?_;change(x::left.eraseIdx (next k%left.length)).Perm left;show uI b
 have:=go c.size 0 c.toList #[] (by simp);unfold pickOrder;simpa using this
def iz:Slot "set_iterator" "__next__" "set_iterator.__next__":=.of (owner:="set_iterator") (n:="__next__") (by rw[Oj,Nr];kernel_rfl) (by decide+kernel) (by decide+kernel) (by decide+kernel) (by first|show .inl (by decide+kernel)|show .inr (by decide+kernel)) (by rw[Ot];kernel_rfl)
def sJ:Slot "set_iterator" "__iter__" "set_iterator.__iter__":=.of (owner:="set_iterator") (n:="__iter__") (by rw[Oj,Nr];kernel_rfl) (by decide+kernel) (by decide+kernel) (by decide+kernel) (by first|show .inl (by decide+kernel)|show .inr (by decide+kernel)) (by rw[Ot];kernel_rfl)
def yj:Manifest.owners.lookup (String.ofList ['r','o','t','a','r','e','t','i','_','t','e','s'].reverse)=some Manifest.sig_set_iterator:=by kernel_rfl
def kY(a:Value):argsOk "set_iterator.__next__" {[a],[]}:=by unfold argsOk;rw[signature?_of (id:="set_iterator.__next__") (n:=['_','_','t','x','e','n','_','_']) (o:=['r','o','t','a','r','e','t','i','_','t','e','s']) (by kernel_rfl) yj];kernel_rfl
def oF(a:Value):argsOk "set_iterator.__iter__" {[a],[]}:=by unfold argsOk;rw[signature?_of (id:="set_iterator.__iter__") (n:=['_','_','r','e','t','i','_','_']) (o:=['r','o','t','a','r','e','t','i','_','t','e','s']) (by kernel_rfl) yj];kernel_rfl
def jS:entryFor table "set_iterator.__next__"=some Builtin.«set_iterator.__next__»:=entryFor_of_tree (by kernel_rfl)
def m7:entryFor table "set_iterator.__iter__"=some Builtin.«dict_keyiterator.__iter__»:=entryFor_alias (id':="dict_keyiterator.__iter__") (by kernel_rfl) () (by decide+kernel) (by kernel_rfl)
def tD:entryFor table "set.__iter__"=some Builtin.«frozenset.__iter__»:=entryFor_alias (id':="frozenset.__iter__") (by kernel_rfl) () (by decide+kernel) (by kernel_rfl)
abbrev iN(first:Value)(i:Nat)(a:Addr)(n c:Nat):Obj:={cls:=.type "set_iterator",dict:=none,data:=.fields #[first,.int i 0,.ref a,.int n 0,.int c 0],slots:=#[]}
abbrev lH(a:O3):Obj:={cls:=.type "tuple",dict:=none,data:=.seq a.toArray}
structure fY(h:Heap)(a:Addr)(es:Array (Int×Value))(ep:Nat)(t:SetTable):Prop where
 ob:∃o,h.get? a=some o/\o.cls=.type "set"/\o.data=.set es ep t
 fits:t.fits es.size=true
def fY.keep(x:fY h a c d t)(k:∀o,h.get? a=some o->h'.get? a=some o):fY h' a c d t:={let⟨o,e,r⟩:=x.ob;{o,k o e,r},x.fits}
def fY.ty{s:Shared}{a:Addr}{d:Array (Int×Value)}{f:Nat}{t:SetTable}(x:fY s.heap a d f t):s.TypeIs (.ref a) "set":=let⟨o,e,c,_⟩:=x.ob;(o,e,c,)
section
variable{prog:O4}{w:World}{A:Around}{E:O0}{s:Shared}
theorem uJ:∀(n:Nat)(a:List f)(s:Shared)(Q:List f->Shared->Prop),a.length<=n->(∀c d,c.Perm a->Q c {s with drawn:=d})->wpAny (model prog w) A (drawOrder n a) Q E s
 |0,a,s,Q,e,h=>by have:a=[]:=List.length_eq_zero_iff.mp (by lia);subst this;unfold drawOrder;show f_ (h [] s.drawn (Ov _))|n+1,[],s,Q,e,h=>by unfold drawOrder;show f_ (h [] s.drawn (Ov _))|n+1,x::r,s,Q,e,h=>by
  unfold drawOrder;show a_ (m:=choose .order (x::r).length) (λΓ p g=>?_);unfold choose;rw[Sem.wp_choose];show{Nat.succ_ne_zero _,?_};have hi:w.draws .order (s.drawn.get .order)%(x::r).length<(x::r).length:=Nat.mod_lt _ (Od _);have b:wpAny (model prog w) A (match(x::r)[w.draws .order (s.drawn.get .order)%(x::r).length]?with|some y=>do return y::(<-drawOrder n ((x::r).eraseIdx (w.draws .order (s.drawn.get .order)%(x::r).length)))|none=>unsupported "internal:drawOrder") Q E {s with drawn:=s.drawn.bump .order}:=by generalize w.draws .order (s.drawn.get .order)%(x::r).length=i at hi⊢;rw[g6 hi];show a_ (uJ n _ _ _ (by rw[List.length_eraseIdx,hY hi];lia) λc d j=>?_);show f_ (h _ _ ((List.Perm.cons _ j).trans (uI (g6 hi))))
  show b
set_option maxHeartbeats 4000000 in
def EJ{a:Addr}{c:Array (Int×Value)}{h:Nat}{t:SetTable}{Q:O0}(e:fY s.heap a c h t)(hn:c.size<=sizeLine)(h1:(!w.params.followText "set-order"&&(!t.plain&&decide (c.size>1)))=false->Q (.ref s.heap.objs.size) {s with heap:=s.heap.push (iN (.int 0 0) 0 a c.size h)})(h2:(!w.params.followText "set-order"&&(!t.plain&&decide (c.size>1)))=true->∀(d:O8)(f:Drawn),d.Perm (List.range c.size)->Q (.ref (s.heap.objs.size+1)) {s with heap:=(s.heap.push (lH (d.map λ(i:Nat)=>Value.int (i:Int) 0))).push (iN (.ref s.heap.objs.size) 0 a c.size h),drawn:=f}):wpAny (model prog w) A (pyIter (.ref a)) Q E s:=by obtain⟨o,b,hc,hd⟩:=e.ob;have g:=e.fits;show OD e.ty F.slot_set_iter (o_ F.slot_set_iter e.ty tD ?_ (F.args_set_iter_1 _));unfold Builtin.«frozenset.__iter__»;show a_ (m:=Builtin.Frozenset.slot0 "__iter__" _) (a_ (m:=slotArgs "__iter__" 0 _) (f_ (f_ ?_)));show a_ (m:=Builtin.Frozenset.sizeOf a) (a_ (NH b hd g (f_ ?_)));show a_ (m:=setDrawn a) (a_ (E1 b hd g (a_ (a_ (I_ (f_ ?_))))));show f_ ?_;dsimp only;change wpAny _ _ (if(!w.params.followText "set-order"&&(!t.plain&&decide (c.size>1)))=true then _ else _) _ _ s;cases hc:(!w.params.followText "set-order"&&(!t.plain&&decide (c.size>1)))with|false=>rw[h_ ji];show a_ (f_ ?_);show a_ (wpAny_setEpoch_of b hd g ?_);show a_ (pu (f_ {_,(),"set_iterator",_,{_,g_ _ (),()},iz.lookup,?_}));show h1 hc|true=>
  rw[hY ()];show a_ (uJ c.size (List.range c.size) s _ (by rw[op];show e_ _) λd f k=>?_);have l:d.length=c.size:=by rw[k.length_eq,op]
  show a_ (pu ?_ (by change(d.map λ(i:Nat)=>rawInt i).toArray.size<=sizeLine;rw[il,b_,l];show hn));have j:(s.heap.push (lH (d.map λ(i:Nat)=>Value.int (i:Int) 0))).get? a=some o:=c_ _ b;show a_ (wpAny_setEpoch_of (s:={s with heap:=s.heap.push (lH (d.map λ(i:Nat)=>Value.int (i:Int) 0)),drawn:=f}) j hd g ?_);show a_ (pu (f_ {_,(),"set_iterator",_,{_,g_ _ (),()},iz.lookup,?_}));have:=h2 hc d f k;rw[show s.heap.objs.size+1=(s.heap.push (lH (d.map λ(i:Nat)=>Value.int (i:Int) 0))).objs.size from(o0 ..).symm]at this;show this
def Ck{I a:Addr}{d:Array (Int×Value)}{c i slot nx:Nat}{t:SetTable}{x:Value}{Q:Option Value->Shared->Prop}(e:s.heap.get? I=some (iN (.int slot 0) i a d.size c))(f:fY s.heap a d c t)(hn:∀(A:Around)(g:Option (Value×Nat)->Shared->Prop)(E:O0),g (some (x,nx)) s->wpAny (model prog w) A (setNext a slot i c) g E s)(h:∀h',h'.get? I=some (iN (.int nx 0) (i+1) a d.size c)->Heap.SameBut I s.heap h'->Q (some x) {s with heap:=h'}):wpAny (model prog w) A (pyNext (.ref I)) Q E s:=by obtain⟨o,j,hc,hd⟩:=f.ob;have ty:s.TypeIs (.ref I) "set_iterator":={_,e,()};unfold pyNext;show a_ (NW (p6 (name:=Str.ofString "__next__") ty iz (o_ iz ty jS ?_ (kY _))));unfold Builtin.«set_iterator.__next__»;show a_ (m:=slotArgs "__next__" 0 _) (f_ ?_);show a_ (wpAny_fieldsOf e () ?_);change wpAny _ _ (setEntries a>>=_) _ _ s;show a_ (NH j hd f.fits ?_);rw[h_ (by simp)];show a_ (m:=setNext a slot i c) (hn _ _ _ ?_);show a_ (rd e (by simp) λh1 k b1=>?_);show a_ (rd (s:={s with heap:=h1}) k (by simp) λh2 l b2=>?_);show f_ {_,(),f_ (h h2 ?_ (b1.trans b2))};rw[l];rfl
def Af{I T a:Addr}{c:Array (Int×Value)}{d i:Nat}{e:O8}{j:Nat}{t:SetTable}{x:Int×Value}{Q:Option Value->Shared->Prop}(f:s.heap.get? I=some (iN (.ref T) i a c.size d))(g:fY s.heap a c d t)(n:s.heap.get? T=some (lH (e.map λ(i:Nat)=>Value.int (i:Int) 0)))(p:e[i]?=some j)(q:c[j]?=some x)(r:∀h',h'.get? I=some (iN (.ref T) (i+1) a c.size d)->Heap.SameBut I s.heap h'->Q (some x.2) {s with heap:=h'}):wpAny (model prog w) A (pyNext (.ref I)) Q E s:=by
 obtain⟨o,k,hc,hd⟩:=g.ob;have ty:s.TypeIs (.ref I) "set_iterator":={_,f,()};unfold pyNext;show a_ (NW (p6 (name:=Str.ofString "__next__") ty iz (o_ iz ty jS ?_ (kY _))));unfold Builtin.«set_iterator.__next__»;show a_ (m:=slotArgs "__next__" 0 _) (f_ ?_);show a_ (wpAny_fieldsOf f () ?_);change wpAny _ _ (setEntries a>>=_) _ _ s;show a_ (NH k hd g.fits ?_);rw[h_ (by simp)];change wpAny _ _ (seqItems? (.ref T)>>=_) _ _ s;show a_ (t6 n () ?_);have b:(e.map λ(i:Nat)=>Value.int (i:Int) 0).toArray[(i:Int).toNat]?=some (.int (j:Nat) 0):=by rw[Os,g8,oD,p];rfl
 change wpAny _ _ (match(e.map λ(i:Nat)=>Value.int (i:Int) 0).toArray[(i:Int).toNat]?with|some (.int h _)=>_|some _=>_|none=>_) _ _ s;rw[b];show a_ (m:=setNextDrawn a j d) ?_;unfold setNextDrawn;show a_ (E1 k hd g.fits ?_);dsimp only;rw[h_ (by simp)];rw[q];show f_ ?_;show a_ (rd f (by simp) λh1 u b1=>?_);show f_ {_,(),f_ (r h1 ?_ b1)};rw[u];rfl
end
def gy(a:Array Nat):Prop:=∀i j:Nat,i<j->j<a.size->a.getD i 0<a.getD j 0
def EX{a:Array Nat}{i:Nat}(h:i<a.size)(d:Nat):a.getD i d=a.getD i 0:=by simp[Array.getD,h]
def gy.le(r:gy a)(h:i<=j)(c:j<a.size):a.getD i 0<=a.getD j 0:=by
 rcases Of i j with q|q
 ·show tx (r i j q c)
 ·have:i=j:=by lia
  rw[this];show e_ _
theorem uX{a:Array Nat}(r:gy a)(j:Nat):∀(fuel lo hi:Nat),hi-lo<=fuel->lo<=hi->hi<=a.size->(∀k,k<lo->a.getD k 0<j)->(∀k,hi<=k->k<a.size->¬a.getD k 0<j)->SetTable.below.go a j fuel lo hi<=a.size/\(∀k,k<SetTable.below.go a j fuel lo hi->a.getD k 0<j)/\(∀k,SetTable.below.go a j fuel lo hi<=k->k<a.size->¬a.getD k 0<j)
 |0,lo,hi,g,h,c,h1,h2=>by
  unfold SetTable.below.go;have:lo=hi:=by lia
  subst this;show(c,h1,h2,)|fuel+1,lo,hi,g,h,c,h1,h2=>by
  unfold SetTable.below.go
  by_cases b:lo<hi
  ·rw[hY b];have hm:(lo+hi)/2<a.size:=by lia
   dsimp only;rw[EX hm j]
   by_cases d:a.getD ((lo+hi)/2) 0<j
   ·rw[hY d];show uX r j fuel _ _ (by lia) (by lia) c (λk f=>D_ (r.le (by lia) hm) d) h2
   ·rw[h_ d];show uX r j fuel _ _ (by lia) (by lia) (by lia) h1 (λk f e q=>d (D_ (r.le f e) q))
  ·rw[h_ b];have:lo=hi:=by lia
   subst this;show(c,h1,h2,)
def qN(r:gy a)(j:Nat):SetTable.below a j<=a.size/\(∀k,k<SetTable.below a j->a.getD k 0<j)/\(∀k,SetTable.below a j<=k->k<a.size->¬a.getD k 0<j):=uX r j a.size 0 a.size (by lia) (lh _) (e_ _) (λk b=>absurd b (Om _)) (λk h1 h2=>absurd h2 (by lia))
def DK(a:Array Nat):Nat->Nat|0=>0|i+1=>a.getD i 0+1
def uW(r:gy a):∀{i:Nat},i<=a.size->SetTable.below a (DK a i)=i
 |0,_=>by
  obtain⟨h1,h2,h3⟩:=qN r 0;rcases Nat.eq_zero_or_pos (SetTable.below a 0)with q|q
  ·show q
  ·show absurd (h2 0 q) (Om _)|i+1,hi=>by
  obtain⟨h1,h2,h3⟩:=qN r (a.getD i 0+1);change SetTable.below a (a.getD i 0+1)=i+1;rcases Nat.lt_trichotomy (SetTable.below a (a.getD i 0+1)) (i+1)with q|q|q
  ·show absurd (t4 _) (h3 i (by lia) (by lia))
  ·show q
  ·have:=h2 (i+1) q;have:=r i (i+1) (t4 _) (by lia);lia
def gy.few{a:Array Nat}(h:a.size<=1):gy a:=λi j h1 h2=>by lia
section
variable{prog:O4}{w:World}{A:Around}{E:O0}{s:Shared}
def oH(c:fY s.heap a g d t)(f:w.params.followText "set-order"=true)(h:Q (((pickOrder (w.params.setOrder a d) g)[i]?).map λe=>(e.2,slot)) s):wpAny (model prog w) A (setNext a slot i d) Q E s:=by obtain⟨o,b,hc,hd⟩:=c.ob;unfold setNext;show a_ (E1 b hd c.fits ?_);dsimp only;show a_ (m:=setsByText) (a_ (I_ (f_ ?_)));change wpAny _ _ (if(w.params.followText "set-order")=true then _ else _) _ _ s;rw[hY f,h_ (by simp)];show a_ (m:=setWalk a) ?_;unfold setWalk;show a_ (E1 b hd c.fits ?_);dsimp only;show a_ (m:=setsByText) (a_ (I_ (f_ ?_)));change wpAny _ _ (if(w.params.followText "set-order")=true then _ else _) _ _ s;rw[hY f];show a_ (I_ (f_ ?_));show f_ h
def oI(d:fY s.heap a c e t)(f:w.params.followText "set-order"=false)(g:(!t.plain&&decide (c.size>1))=false)(l:t.led=true)(h:Q (match c[SetTable.below t.place slot]?,t.place[SetTable.below t.place slot]?with|some (_,x),some j=>some (x,j+1)|_,_=>none) s):wpAny (model prog w) A (setNext a slot i e) Q E s:=by obtain⟨o,b,hc,hd⟩:=d.ob;unfold setNext;show a_ (E1 b hd d.fits ?_);dsimp only;show a_ (m:=setsByText) (a_ (I_ (f_ ?_)));change wpAny _ _ (if(w.params.followText "set-order")=true then _ else _) _ _ s;rw[h_ (by rw[f];show ji)];change wpAny _ _ (if(!t.plain&&decide (c.size>1))=true then _ else _) _ _ s;rw[h_ (by rw[g];show ji)];show a_ ?_;change wpAny _ _ (if(!t.led&&!c.isEmpty)=true then _ else _) _ _ s;rw[h_ (by rw[l];simp)];show f_ (f_ h)
def yX(hh:A.handled=none)(f:s.heap.get? I=some (iN first i a q.size g))(l:fY s.heap a q g t)(hn:(∃slot:Nat,first=.int slot 0/\∀(A:Around)(n:Option (Value×Nat)->Shared->Prop)(E:O0),n none s->wpAny (model prog w) A (setNext a slot i g) n E s)\/∃(T:Addr)(d:O8),first=.ref T/\s.heap.get? T=some (lH (d.map λ(i:Nat)=>Value.int (i:Int) 0))/\d[i]?=none)(r:∀h',(∀b o,b≠I->s.heap.get? b=some o->h'.get? b=some o)->Q none {s with heap:=h'}):wpAny (model prog w) A (pyNext (.ref I)) Q E s:=by
 obtain⟨o,u,hc,hd⟩:=l.ob;have ty:s.TypeIs (.ref I) "set_iterator":={_,f,()};have fin:∀(R:Fin->Shared->Prop)(h1:Heap),(∀b o,b≠I->s.heap.get? b=some o->h1.get? b=some o)->wpAny (model prog w) A.in1 (newExc (.type "StopIteration") []>>=λe=>raiseNew e:Sem Fin) R (λe v=>wpAny (model prog w) A (do if<-isInstance e (.type "StopIteration")then pure none else throw e) Q E v) {s with heap:=h1}:=by intro R h1 x;show a_ ?_;simp only[newExc,newTuple];show a_ (pu ?_ (by size_fits));show a_ (m:=firstArgMember _ _) (wpAny_of_eq (a:=Value.none) (by first|rfl|(simp only[firstArgMember];rfl)) ?_);show pu ?_ (by size_fits);simp only[raiseNew];show a_ (wpAny_handled ?_);rw[show A.in1.handled=none from hh];show a_ (f_ (wpAny_throw ?_));show a_ (Nt (T:="StopIteration") (b:=true) {_,g_ _ (),()} isSubtype_stop ?_);show f_ (r _ λb o c e=>c_ _ (c_ _ (x b o c e)))
 unfold pyNext;show a_ (NW (p6 (name:=Str.ofString "__next__") ty iz (o_ iz ty jS ?_ (kY _))));unfold Builtin.«set_iterator.__next__»;show a_ (m:=slotArgs "__next__" 0 _) (f_ ?_);show a_ (wpAny_fieldsOf f () ?_);change wpAny _ _ (setEntries a>>=_) _ _ s;show a_ (NH u hd l.fits ?_);rw[h_ (by simp)];rcases hn with⟨slot,rfl,hn⟩|⟨T,d,rfl,y,z⟩
 ·show a_ (m:=setNext a slot i g) (hn _ _ _ ?_);show a_ (rd f (by simp) λh1 p b1=>?_);show fin _ h1 λb o c e=>(b1.2 b c).trans e
 ·change wpAny _ _ (seqItems? (.ref T)>>=_) _ _ s;show a_ (t6 y () ?_);have h:(d.map λ(i:Nat)=>Value.int (i:Int) 0).toArray[(i:Int).toNat]?=none:=by rw[Os,g8,oD,z];rfl
  change wpAny _ _ (match(d.map λ(i:Nat)=>Value.int (i:Int) 0).toArray[(i:Int).toNat]?with|some (.int j _)=>_|some _=>_|none=>_) _ _ s;rw[h];show a_ (rd f (by simp) λh1 p b1=>?_);show a_ (rd (s:={s with heap:=h1}) p (by simp) λh2 B b2=>?_);show fin _ h2 λb o c e=>(b2.2 b c).trans ((b1.2 b c).trans e)
def CZ(hh:A.handled=none)(L:fY s.heap a c f t)(hn:c.size<=sizeLine)(hl:w.params.followText "set-order"=false->t.led=true)(hr:t.plain=true->gy t.place)(h:∀(I:Addr)(h':Heap)(S:Drawn)(ord:List (Int×Value))(fp:O9)(St:Nat->Heap->Prop),ord.Perm c.toList->(∀b o,s.heap.get? b=some o->h'.get? b=some o)->s.heap.objs.size<=I->I<h'.objs.size->(∀b∈fp,b=a\/s.heap.objs.size<=b)->Walks prog w A I fp [I] c.size (λi v=>∃x,ord[i]?=some x/\v=x.2) St->St 0 h'->Q (.ref I) {s with heap:=h',drawn:=S}):wpAny (model prog w) A (pyIter (.ref a)) Q E s:=by
 have ha:a<s.heap.objs.size:=let⟨o,e,_⟩:=L.ob;ir e;have T:t.place.size=c.size:=by have:=L.fits;unfold SetTable.fits at this;simp only[mu,beq_iff_eq]at this;show this.1
 show EJ L hn (λhc=>?_) (λhc p S K=>?_)
 ·--by slots
  have M:∀b o,s.heap.get? b=some o->(s.heap.push (iN (.int 0 0) 0 a c.size f)).get? b=some o:=λb o e=>c_ _ e;have hg:(s.heap.push (iN (.int 0 0) 0 a c.size f)).get? s.heap.objs.size=some (iN (.int 0 0) 0 a c.size f):=g_ _ ();have U:s.heap.objs.size<(s.heap.push (iN (.int 0 0) 0 a c.size f)).objs.size:=by rw[o0];show t4 _
  have G:a≠s.heap.objs.size:=ku ha;have B:∀(first:Nat->Nat)(ord:List (Int×Value)),first 0=0->ord.Perm c.toList->(∀(i:Nat)(d:Shared)(x:Int×Value),ord[i]?=some x->fY d.heap a c f t->∀(A:Around)(C:Option (Value×Nat)->Shared->Prop)(E:O0),C (some (x.2,first (i+1))) d->wpAny (model prog w) A (setNext a (first i) i f) C E d)->(∀(d:Shared),fY d.heap a c f t->∀(A:Around)(C:Option (Value×Nat)->Shared->Prop)(E:O0),C none d->wpAny (model prog w) A (setNext a (first c.size) c.size f) C E d)->Q (.ref s.heap.objs.size) {s with heap:=s.heap.push (iN (.int 0 0) 0 a c.size f)}:=by
   intro first ord f0 K hi hd;have V:ord.length=c.size:=by rw[K.length_eq,l_]
   show h s.heap.objs.size _ s.drawn ord [s.heap.objs.size,a] (λi h'=>h'.get? s.heap.objs.size=some (iN (.int (first i) 0) i a c.size f)/\fY h' a c f t) K M (e_ _) U ?_ ?_ ?_
   ·intro b g;simp only[s_,pa,Ng]at g;rcases g with rfl|rfl
    ·show .inr (e_ _)
    ·show .inl ()
   ·show{sub:=λb g=>?_,frame:=λi h1 h2 st k=>?_,item:=λi d N O W st q=>?_,done:=λd N O st q=>?_,self:=λi d N O st q=>?_}
    ·rw[List.mem_singleton.mp g];show k4
    ·show{k _ k4 _ st.1,st.2.keep λo e=>k _ (j_ _ k4) _ e}
    ·obtain⟨x,m⟩:∃x,ord[i]?=some x:={ord[i]'(by lia),g6 (by lia)};show Ck (nx:=first (i+1)) st.1 st.2 (hi i d x m st.2) λh2 X b2=>?_;show q x.2 h2 d.toks {x,m,()} {X,st.2.keep λo e=>(b2.2 _ G).trans e} λb o g e=>(b2.2 b λz=>g (by rw[z];show List.mem_singleton.mpr ())).trans e
    ·show yX hh st.1 st.2 (.inl {_,(),hd d st.2}) λh2 Y=>?_;show q h2 d.toks λb o g e=>Y b o (λz=>g (by rw[z];show List.mem_singleton.mpr ())) e
    ·have ty:d.TypeIs (.ref s.heap.objs.size) "set_iterator":={_,st.1,()};show OD ty sJ (o_ sJ ty m7 ?_ (oF _));show f_ {_,(),"set_iterator",_,ty,iz.lookup,q}
   ·rw[f0];show{hg,L.keep λo e=>M _ _ e}
  cases H:w.params.followText "set-order"with
 |true=>
   have V:(pickOrder (w.params.setOrder a f) c).toList.length=c.size:=by rw[(wq _ _).length_eq,l_]
   show B (λ_=>0) (pickOrder (w.params.setOrder a f) c).toList () (wq _ _) (λi d x m u A C E q=>?_) (λd u A C E q=>?_)
   ·show oH u H ?_;have m:(pickOrder (w.params.setOrder a f) c)[i]?=some x:=by rw[<-rl];show m
    rw[m];show q
   ·show oH u H ?_;have m:(pickOrder (w.params.setOrder a f) c)[c.size]?=none:=by rw[<-rl];show K_.mpr (by lia)
    rw[m];show q|false=>
   have D:(!t.plain&&decide (c.size>1))=false:=by rw[H]at hc;simpa using hc
   have rs:gy t.place:=by cases F:t.plain with|true=>show hr F|false=>rw[F]at D;show gy.few ?_;rw[T];simpa using D
   show B (DK t.place) c.toList () (Ov _) (λi d x m u A C E q=>?_) (λd u A C E q=>?_)
   ·have m:c[i]?=some x:=by rw[<-rl];show m
    have hi:i<c.size:=(Array.getElem?_eq_some_iff.mp m).1;show oI u H D (hl H) ?_;rw[uW rs (by lia),m];have F:t.place[i]?=some (t.place.getD i 0):=by rw[vl (by lia)];simp[Array.getD,show i<t.place.size by lia]
    rw[F];show q
   ·show oI u H D (hl H) ?_;rw[uW rs (by lia)];rw[show c[c.size]?=none from Array.getElem?_eq_none (e_ _)];show q
 ·--drawn
  have Z:(s.heap.push (lH (p.map λ(i:Nat)=>Value.int (i:Int) 0))).get? s.heap.objs.size=some (lH (p.map λ(i:Nat)=>Value.int (i:Int) 0)):=g_ _ ();have hz:(s.heap.push (lH (p.map λ(i:Nat)=>Value.int (i:Int) 0))).objs.size=s.heap.objs.size+1:=o0 ..;have M:∀b o,s.heap.get? b=some o->((s.heap.push (lH (p.map λ(i:Nat)=>Value.int (i:Int) 0))).push (iN (.ref s.heap.objs.size) 0 a c.size f)).get? b=some o:=λb o e=>c_ _ (c_ _ e);have hg:((s.heap.push (lH (p.map λ(i:Nat)=>Value.int (i:Int) 0))).push (iN (.ref s.heap.objs.size) 0 a c.size f)).get? (s.heap.objs.size+1)=some (iN (.ref s.heap.objs.size) 0 a c.size f):=by rw[<-hz];show g_ _ ()
  have ad:p.length=c.size:=by rw[K.length_eq,op]
  have P:∀(i j:Nat),p[i]?=some j->j<c.size:=λi j q=>by have:=K.mem_iff.mp (gV q);show t8.mp this
  show h (s.heap.objs.size+1) _ S (p.filterMap λj=>c[j]?) [s.heap.objs.size+1,a,s.heap.objs.size] (λi h'=>h'.get? (s.heap.objs.size+1)=some (iN (.ref s.heap.objs.size) i a c.size f)/\fY h' a c f t/\h'.get? s.heap.objs.size=some (lH (p.map λ(i:Nat)=>Value.int (i:Int) 0))) ?_ M (ry _) ?_ ?_ ?_ ?_
  ·have:=K.filterMap (λj=>c[j]?);rw[filterMap_getElem?_range]at this;show this
  ·rw[o0,hz];show t4 _
  ·intro b g;simp only[s_,pa,Ng]at g;rcases g with rfl|rfl|rfl
   ·show .inr (ry _)
   ·show .inl ()
   ·show .inr (e_ _)
  ·have G:a≠s.heap.objs.size+1:=ku (z4 ha);have R:∀(i:Nat)(j:Nat)(x:Int×Value),p[i]?=some j->c[j]?=some x->(p.filterMap λj=>c[j]?)[i]?=some x:=by
    have gen:∀(l:O8),(∀j∈l,j<c.size)->∀(i j:Nat)(x:Int×Value),l[i]?=some j->c[j]?=some x->(l.filterMap λj=>c[j]?)[i]?=some x:=by
     intro l
     induction l with|nil=>intro _ i j x hi _;simp at hi|cons y r ih=>intro g i j x hi m;have hy:c[y]?=some (c[y]'(g y k4)):=vl _;rw[List.filterMap_cons_some hy];cases i with|zero=>simp only[List.getElem?_cons_zero,NS]at hi⊢;subst hi;rw[hy]at m;show iA m|succ i=>simp only[List.getElem?_cons_succ]at hi⊢;show ih (λj J=>g j (j_ _ J)) i j x hi m
    intro i j x h1 h2;show gen p (λj J=>?_) i j x h1 h2;obtain⟨n,hn⟩:=i_.mp J;show P n j hn
   show{sub:=λb g=>?_,frame:=λi h1 h2 st k=>?_,item:=λi d N O W st q=>?_,done:=λd N O st q=>?_,self:=λi d N O st q=>?_}
   ·rw[List.mem_singleton.mp g];show k4
   ·show{k _ k4 _ st.1,st.2.1.keep λo e=>k _ (j_ _ k4) _ e,k _ (j_ _ (j_ _ k4)) _ st.2.2}
   ·obtain⟨j,J⟩:∃j,p[i]?=some j:={p[i]'(by lia),g6 (by lia)};have aa:=P i j J;have m:c[j]?=some (c[j]'aa):=vl _;show Af st.1 st.2.1 st.2.2 J m λh2 X b2=>?_;show q _ h2 d.toks {_,R i j _ J m,()} {X,st.2.1.keep λo e=>(b2.2 _ G).trans e,(b2.2 _ (ku (t4 _))).trans st.2.2} λb o g e=>(b2.2 b λz=>g (by rw[z];show List.mem_singleton.mpr ())).trans e
   ·show yX hh st.1 st.2.1 (.inr {_,p,(),st.2.2,K_.mpr (by lia)}) λh2 Y=>?_;show q h2 d.toks λb o g e=>Y b o (λz=>g (by rw[z];show List.mem_singleton.mpr ())) e
   ·have ty:d.TypeIs (.ref (s.heap.objs.size+1)) "set_iterator":={_,st.1,()};show OD ty sJ (o_ sJ ty m7 ?_ (oF _));show f_ {_,(),"set_iterator",_,ty,iz.lookup,q}
  ·show{hg,L.keep λo e=>M _ _ e,c_ _ Z}
def EQ(ty:s.TypeIs (.ref a) "set")(h:Q false s):wpAny (model prog w) A (Builtin.List.listLengthHint (.ref a)) Q E s:=by
 unfold Builtin.List.listLengthHint;show a_ (Oi ty F.slot_set_len.lookup ?_);generalize c:("set.__len__":String)=nm
 wp_delta
 rw[show splitId nm=some ("set","__len__")from by subst c;decide+kernel];subst c;show a_ (Nt (T:="set") (b:=true) ty (by rw[Ot];kernel_rfl) ?_);show to (λz=>absurd z (by decide)) (λ_=>?_);show to (λ_=>?_) (λz=>absurd (by decide+kernel) z);show a_ (OC ty (f_ h))
def zr(hh:A.handled=none)(S:fY s.heap a l ep t)(hn:l.size<=sizeLine)(hl:w.params.followText "set-order"=false->t.led=true)(n:t.plain=true->gy t.place)(h:∀(h':Heap)(d':Drawn)(tk:Nat)(X:O3),X.Perm (l.toList.map (·.2))->(∀b o,s.heap.get? b=some o->h'.get? b=some o)->s.heap.objs.size<=h'.objs.size->R X {s with heap:=h',drawn:=d',toks:=tk}):wpAny (model prog w) A (collect (.ref a)) R E s:=by
 have K:a<s.heap.objs.size:=let⟨o,e,_⟩:=S.ob;ir e;unfold collect;show a_ (wpAny_runValue (Ni F.entry_proto_collect ?_));rw[H_ F.plain_proto_collect _];show a_ (m:=newList []) (pu ?_);show f_ {Nx F.plain_list_iadd _,Ni F.entry_list_iadd ?_};rw[H_ F.plain_list_iadd _];have U:(s.heap.push {cls:=.type "list",data:=.seq ([]:O3).toArray}).get? s.heap.objs.size=some {cls:=.type "list",data:=.seq #[]}:=g_ _ ();have g:fY (s.heap.push {cls:=.type "list",data:=.seq ([]:O3).toArray}) a l ep t:=S.keep λo e=>c_ _ e;have j:(s.heap.push {cls:=.type "list",data:=.seq ([]:O3).toArray}).objs.size=s.heap.objs.size+1:=o0 ..;have L:∀b o,s.heap.get? b=some o->(s.heap.push {cls:=.type "list",data:=.seq ([]:O3).toArray}).get? b=some o:=λb o e=>c_ _ e;generalize s.heap.push {cls:=.type "list",data:=.seq ([]:O3).toArray}=h0 at U g j L⊢;change wpAny _ A.in1 (Builtin.List.listExtendWith (.ref s.heap.objs.size) (.ref a) (.ref s.heap.objs.size)) _ _ {s with heap:=h0};unfold Builtin.List.listExtendWith;show a_ (OC (T:="set") (s:={s with heap:=h0}) g.ty ?_);have ne:Builtin.List.listSameRef (.ref s.heap.objs.size) (.ref a)=false:=by simp[Builtin.List.listSameRef,ot K]
 rw[h_ (by rw[ne];decide)];show a_ (CZ (s:={s with heap:=h0}) (A:=A.in1) hh g hn hl n λI h1 d1 ord fp St V G hI aa p W st=>?_);show a_ (o8 (EQ (s:={s with heap:=h1,drawn:=d1}) (g.keep λo e=>G _ _ e).ty ?_));have M:=G _ _ U;have Y:ord.length=l.size:=by rw[V.length_eq,l_]
 have k:∀(h2:Heap)(c:Nat),St 0 h2->(∀b o,s.heap.get? b=some o->h2.get? b=some o)->h2.get? s.heap.objs.size=some {cls:=.type "list",dict:=none,data:=.seq #[] c,slots:=#[]}->codeAny (model prog w) A (.builtin "list.extend.loop" {[.ref s.heap.objs.size,.ref I,.ref s.heap.objs.size],[]}) (λr u=>∃v,r=.ok (.ret v)/\v=.ref s.heap.objs.size/\∃(h':Heap)(tk:Nat)(f:O7)(y:Nat),u={s with heap:=h',drawn:=d1,toks:=tk}/\(∀b o,s.heap.get? b=some o->h'.get? b=some o)/\h'.get? s.heap.objs.size=some {cls:=.type "list",dict:=none,data:=.seq f y,slots:=#[]}/\f.toList.Perm (l.toList.map (·.2))) {s with heap:=h2,drawn:=d1}:=by
  intro h2 c N k2 H;show codeAny_extend_loopS W.toS hn s.heap.objs.size (λhm=>?_) _ l.size 0 _ #[] c () (lh _) N H (ItemsOf.nil _) λu d y J g' Z=>?_
  ·rcases p _ hm with e|e
   ·show absurd e (ot K)
   ·have:h0.objs.size<=s.heap.objs.size:=e;rw[j]at this;show absurd this (NA _)
  ·obtain⟨h3,O,d3,t3,o3⟩:=u;obtain rfl:O=s.gens:=J.gens;obtain rfl:d3=d1:=J.drawn;obtain rfl:o3=s.os:=J.os;show{_,(),(),h3,t3,d,y,(),λb o e=>?_,g',?_}
   ·show J.heap b o (λhm=>?_) (k2 b o e);have B:b<s.heap.objs.size:=ir e;rcases s_.mp hm with z|z
    ·show absurd z (ku B)
    ·rw[List.mem_singleton.mp z]at B;have:h0.objs.size<=I:=hI;rw[j]at this;show absurd (z3 B (Nat.lt_of_succ_le this)) (qx _)
   ·have e1:d.toList=ord.map (·.2):=by show z7 λi=>?_;rw[g8,rl];cases q:d[i]?with|some v=>obtain⟨x,hx,rfl⟩:=Z.2 i v q;rw[hx];rfl|none=>have:d.size<=i:=Array.getElem?_eq_none_iff.mp q;rw[Z.1]at this;rw[ov (by lia)];rfl
    rw[e1];show V.map _
 show to (λ_=>?_) (λ_=>f_ {Nx F.plain_extend_loop _,z1 (k h1 0 st (λb o e=>G _ _ (L _ _ e)) M) λr u n=>?_})
 case refine_2=>obtain⟨v,rfl,rfl,h',tk,f,y,rfl,P,C,Q⟩:=n;show a_ (wpAny_load C (f_ (h h' d1 tk f.toList Q P (tx (ir C)))))
 show a_ (wr (a_ ?_));change wpAny _ _ (updateSeq s.heap.objs.size (·.push .none)>>=λ_=>updateSeq s.heap.objs.size (·.pop)) _ _ _;show a_ (OU M () ?_);have H:=sD (Obj.mapSeq (·.push Value.none)) M ();show OU (hz:=by seq_fits) H () ?_;have O:=sD (Obj.mapSeq (·.pop)) H ();show f_ {Nx F.plain_extend_loop _,z1 (k _ _ (W.frame 0 _ _ st λb B o e=>?_) (λb o e=>?_) O) λr u n=>?_}
 ·have D:b≠s.heap.objs.size:=λz=>by
   rcases p _ B with q|q
   ·show absurd (z.symm.trans q) (ot K)
   ·have:h0.objs.size<=b:=q;rw[j,z]at this;show absurd this (NA _)
  show(t_ _ _ (oi D)).trans ((t_ _ _ (oi D)).trans e)
 ·have D:b≠s.heap.objs.size:=ku (ir e);show(t_ _ _ (oi D)).trans ((t_ _ _ (oi D)).trans (G _ _ (L _ _ e)))
 ·obtain⟨v,rfl,rfl,h',tk,f,y,rfl,P,C,Q⟩:=n;show a_ (wpAny_load C (f_ (h h' d1 tk f.toList Q P (tx (ir C)))))
end
structure qP(led:Bool)(t:SetTable):Prop where
 led:t.led=led
 up:t.plain=true->gy t.place
def qP.off{led:Bool}{t:SetTable}(x:qP led t):qP led {t with plain:=false}:={x.led,λh=>by cases h}
def Eb{t:SetTable}{j:Nat}(h:t.slot j=.empty\/t.slot j=.dummy):t.place[SetTable.below t.place j]?≠some j:=by intro e;unfold SetTable.slot at h;dsimp only at h;rw[hY (by rw[e];simp)]at h;rcases h with h|h<;>cases h
theorem oo:∀(fuel:Nat)(p:SetTable.Probe)(j:Nat)(d:Option Nat),(∀x,p.dummy=some x->t.slot x=.dummy)->SetTable.probe.go t l h fuel p=some (.empty j d)->t.slot j=.empty/\∀x,d=some x->t.slot x=.dummy|0,p,j,d,c,e=>by unfold SetTable.probe.go at e;cases e|fuel+1,p,j,d,c,e=>by unfold SetTable.probe.go at e;cases a:t.slot p.j with
 |empty=>rw[a]at e;injection e with e;injection e with f g;subst f;subst g;show(a,c,)|dummy=>
   rw[a]at e;show oo fuel _ j d (λx b=>?_) e;have:(t.advance {p with dummy:=some p.j}).dummy=some p.j:=by
    unfold SetTable.advance
    split<;>rfl
   rw[this]at b;cases b;show a|live i=>
   rw[a]at e;dsimp only at e
   split at e
   ·cases e
   ·show oo fuel _ j d (λx b=>c x ?_) e;have:(t.advance p).dummy=p.dummy:=by
     unfold SetTable.advance
     split<;>rfl
    rw[this]at b;show b
def Cz{t:SetTable}{h:Int}{sl:Nat}{wd:Bool}(e:t.freeSlot h=some (sl,wd)):t.place[SetTable.below t.place sl]?≠some sl:=by unfold SetTable.freeSlot at e;cases a:t.probe (λ_=>h+1) h (t.probeStart h)with|none=>rw[a]at e;cases e|some m=>rw[a]at e;cases m with|candidate _ _ _=>cases e|empty j d=>have:=oo (10*SetTable.turns t.mask) (t.probeStart h) j d (λx b=>by cases b) a;injection e with e;injection e with c f;subst c;show Eb ?_;cases d with|none=>show .inl this.1|some x=>show .inr (this.2 x ())
def gd(a:Array Nat)(i:Nat):a.getD i 0=(a.toList[i]?).getD 0:=by rw[rl,Array.getD_eq_getD_getElem?]
def zS{l:O8}(h:l.Pairwise (·<·)):gy l.toArray:=by intro i j a b;rw[il]at b;have:=List.pairwise_iff_getElem.mp h i j (by lia) b a;rw[gd,gd];change(l[i]?).getD 0<(l[j]?).getD 0;rw[g6 b,g6 (show i<l.length by lia)];show this
def zf(c:p<=a.size):(SetTable.insertAt a p x).getD k 0=if k<p then a.getD k 0 else if k=p then x else if k<a.size+1 then a.getD (k-1) 0 else 0:=by
 have e:(SetTable.insertAt a p x).toList=a.toList.take p++x::a.toList.drop p:=by rw[SetTable.toList_insertAt]
 rw[gd,e];have b:(a.toList.take p).length=p:=by rw[mo,l_];lia
 by_cases h1:k<p
 ·rw[hY h1,rc (by lia),List.getElem?_take,hY h1,gd]
 ·rw[h_ h1,y2 (by lia),b]
  by_cases h2:k=p
  ·rw[hY h2,h2,Nat.sub_self];rfl
  ·rw[h_ h2];obtain⟨m,rfl⟩:∃m,k=p+(m+1):={k-p-1,by lia};rw[show p+(m+1)-p=m+1 by lia,List.getElem?_cons_succ,OA]
   by_cases h3:p+(m+1)<a.size+1
   ·rw[hY h3,gd,show p+(m+1)-1=p+m by lia]
   ·rw[h_ h3,ov (by rw[l_];lia)];rfl
def EL(c:p<=a.size):(SetTable.insertAt a p x).size=a.size+1:=by rw[<-l_,(SetTable.insertAt_perm a p x).length_eq,l_,Array.size_push]
def B5{t:SetTable}{sl:Nat}(r:gy t.place)(h:t.place[SetTable.below t.place sl]?≠some sl):gy (t.put sl).1.place:=by
 obtain⟨b1,b2,b3⟩:=qN r sl;change gy (SetTable.insertAt t.place (SetTable.below t.place sl) sl);generalize SetTable.below t.place sl=p at h b1 b2 b3;have b4:∀k,p<=k->k<t.place.size->sl<t.place.getD k 0:=by
  intro k d a;have e:t.place[p]?=some (t.place.getD p 0):=by rw[vl (by lia)];simp[Array.getD,show p<t.place.size by lia]
  have f:t.place.getD p 0≠sl:=λz=>h (by rw[e,z]);have h1:=b3 p (e_ _) (by lia);have h2:=r.le d a;lia
 intro i j b c;rw[EL b1]at c;rw[zf b1,zf b1]
 by_cases h1:j<p
 ·rw[hY (by lia),hY h1];show r i j b (by lia)
 ·rw[h_ h1]
  by_cases h2:j=p
  ·rw[hY h2,hY (by lia)];show b2 i (by lia)
  ·rw[h_ h2,hY c]
   by_cases h3:i<p
   ·rw[hY h3];have:=b2 i h3;have:=b4 (j-1) (by lia) (by lia);lia
   ·rw[h_ h3]
    by_cases h4:i=p
    ·rw[hY h4];show b4 (j-1) (by lia) (by lia)
    ·rw[h_ h4,hY (by lia)];show r (i-1) (j-1) (by lia) (by lia)
def qP.lay{led:Bool}{t:SetTable}(x:qP led t)(c:Array (Int×Value))(h:Int)(v:Value):qP led (layNew t c h v).2.1:=by
 show{(Iq t c h v).1.trans x.led,?_};unfold layNew
 split
 ·rename_i sl wd e;intro a;dsimp only at a⊢;unfold SetTable.orStandIn at a⊢
  split
  ·rename_i b;rw[hY b]at a;show B5 (x.up a) (Cz e)
  ·rename_i b;rw[h_ b]at a;cases a
 ·intro a;cases a
def qP.relay{led:Bool}{t:SetTable}(x:qP led t)(f:Array (Int×Value))(n:Nat):qP led (relayAll t f n).2.1:=by
 show{(C9 t f n).1.trans x.led,?_};unfold relayAll
 split
 ·rename_i m o e;dsimp only
  split
  ·intro _;unfold SetTable.relaid SetTable.laid at e;cases hc:SetTable.layClean (SetTable.sizeAbove n-1) (f.map (·.1))with|none=>rw[hc]at e;cases e|some ow=>
    rw[hc]at e;cases e;change gy ((((List.range (SetTable.sizeAbove n-1+1)).filterMap λj=>(ow.getD j none).map (j,·)).map (·.1)).toArray);have l:(((List.range (SetTable.sizeAbove n-1+1)).filterMap λj=>(ow.getD j none).map (j,·)).map (·.1)).Pairwise (·<·):=by rw[List.map_filterMap];show List.Pairwise.filterMap _ (R:=(·<·)) (S:=(·<·)) ?_ List.pairwise_lt_range;intro a b g x c y d;cases i:ow.getD a none with|none=>rw[i]at c;cases c|some v=>cases k:ow.getD b none with|none=>rw[k]at d;cases d|some u=>rw[i]at c;rw[k]at d;cases c;cases d;show g
    show zS l
  ·intro h;cases h
 ·intro h;cases h
section
variable{prog:O4}{w:World}{c:Type}[DecidableEq c](knd:PySem.KeyKind prog w c)(kOf:Value->c)
structure jO(led:Bool)(h:Heap)(a:Addr)(ks:List c):Prop where ex:∃o es ep t,h.get? a=some o/\o.ExactSet/\o.data=.set es ep t/\ElemsOf knd es.toList/\(es.toList.map λe=>kOf e.2).Perm ks/\es.size<scanBound/\t.fits es.size=true/\qP led t
variable{knd kOf}
def jO.keep(x:jO knd kOf led h a d)(k:∀o,h.get? a=some o->h'.get? a=some o):jO knd kOf led h' a d:=by obtain⟨o,b,f,t,e,r⟩:=x.ex;show{o,b,f,t,k o e,r}
variable{A:Around}{E:O0}{s:Shared}
def Ep(f:∀k v,knd.is k v=true->kOf v=k)(d:ElemsOf knd g)(h:(g.map λe=>kOf e.2).Perm i)(k:c):k∈i↔∃e∈g,knd.is k e.2=true:=by
 rw[<-h.mem_iff,kw]
 constructor
 ·rintro⟨e,a,rfl⟩;obtain⟨⟨b,h1,_⟩,_⟩:=d e a;show{e,a,?_};rw[f b e.2 h1];show h1
 ·rintro⟨e,a,h1⟩;show{e,a,f k e.2 h1}
def sZ{led:Bool}{h:Heap}{a:Addr}{o:Obj}{l d:Array (Int×Value)}{i:Nat}{t f:SetTable}{ks:List c}(m:h.get? a=some o)(hex:o.ExactSet)(hd:o.data=.set l i t)(j:ElemsOf knd d.toList)(n:(d.toList.map λe=>kOf e.2).Perm ks)(p:d.size<scanBound)(r:f.fits d.size=true)(u:qP led f):(h.update a (Obj.putSet d f)).get? a=some {o with data:=.set d (i+1) f}/\jO knd kOf led (h.update a (Obj.putSet d f)) a ks:=by
 have g:(h.update a (Obj.putSet d f)).get? a=some {o with data:=.set d (i+1) f}:=by
  have q:=sD (Obj.putSet d f) m (by rw[putSet_of d f hd];rfl)
  rwa[putSet_of d f hd]at q
 show{g,_,d,i+1,f,g,hex,(),j,n,p,r,u}
def Fv{led:Bool}{a:Addr}{f:List c}{k:c}{x:Value}{Q:Bool->Shared->Prop}(X:∀k v,knd.is k v=true->kOf v=k)(i:knd.is k x=true)(y:x.scannable=true)(Z:jO knd kOf led s.heap a f)(G:f.length+1<scanBound)(h:∀h' b,Heap.SameBut a s.heap h'->jO knd kOf led h' a (if k∈f then f else f++[k])->Q b {s with heap:=h'}):wpAny (model prog w) A (setAddHashed a x (knd.hash k)) Q E s:=by
 obtain⟨o,D,ep,t,O,hex,hd,m,P,hb,Y,ti⟩:=Z.ex;have hn:D.size=f.length:=by rw[<-P.length_eq,b_,l_]
 have p:=Ep X m P;unfold setAddHashed setAddHashedIn;show o8 (a_ (E1 O hd Y ?_));dsimp only;rw[byScan_of y hb m,hY ()];unfold setAddByScan;show a_ (a_ (wr (a_ (wpAny_setScan_of i O hd Y m ?_))));cases hr:List.findIdx? (λe=>knd.is k e.2) D.toList with|some j=>obtain⟨hj,R,_⟩:=List.findIdx?_eq_some_iff_getElem.mp hr;have B:k∈f:=(p k).mpr {_,OQ hj,R};show f_ (f_ ?_);have q:=h s.heap false (Heap.SameBut.refl a s.heap);rw[hY B]at q;show q Z|none=>
  have B:k∉f:=λz=>by obtain⟨e,he,h1⟩:=(p k).mp z;have:=List.findIdx?_eq_none_iff.mp hr e he;rw[h1]at this;cases this
  dsimp only;have q:∀h' b,Heap.SameBut a s.heap h'->jO knd kOf led h' a (f++[k])->Q b {s with heap:=h'}:=λh' b sb x=>h h' b sb (by rw[h_ B];show x);have F:=layNew_perm t D (knd.hash k) x;have H:=layNew_fits t D (knd.hash k) x;have I:=ti.lay D (knd.hash k) x;generalize hL:layNew t D (knd.hash k) x=L at F H I⊢;obtain⟨d,S,wd,gv⟩:=L;dsimp only at F H I⊢;rw[OK]at F;have u:ElemsOf knd d.toList:=(m.push i y).perm F;have J:(d.toList.map λe=>kOf e.2).Perm (f++[k]):=by show(F.map _).trans ?_;rw[hF,Oz,X k x i];show P.append_right _
  have T:d.size=f.length+1:=by rw[<-l_,F.length_eq,hQ,l_,hn];rfl
  have n:d.size<scanBound:=by rw[T];show G
  have say:∀(b:Bool)(U:Shared)(V:Unit->Shared->Prop),V Unit.unit U->wpAny (model prog w) A (match b with|true=>rule "set.scan.the-table-gave-way"|false=>pure Unit.unit) V E U:=λb U V z=>by cases b<;>first|show f_ z|show wr z
  have l:∀g:SetTable,g.fits d.size=true->qP led g->wpAny (model prog w) A (do
 storeSet a d g if(!wd&&g.tooFull)=true then do
      (match(relayAll g d (SetTable.grown d.size)).2.2 with|true=>rule "set.scan.the-table-gave-way"|false=>pure Unit.unit)storeSet a (relayAll g d (SetTable.grown d.size)).1 (relayAll g d (SetTable.grown d.size)).2.1
      pure (some true)else pure (some true)) (λr s'=>wpAny (model prog w) A (match r with|some C=>pure C|none=>setAddHashedIn a x (knd.hash k) 99999) Q E s') E s:=by
   intro g f2 i2;show a_ (wpAny_storeSet_of O hd ?_ (fits_of_scanBound n));obtain⟨g1,S1⟩:=sZ (knd:=knd) (kOf:=kOf) O hex hd u J n f2 i2;have K:=B_ s.heap a (Obj.putSet d g);show to (λ_=>?_) (λ_=>f_ (f_ (q _ _ K S1)));have M:=relayAll_perm g d (SetTable.grown d.size);have r2:=relayAll_fits g d (SetTable.grown d.size);have r3:=i2.relay d (SetTable.grown d.size);generalize relayAll g d (SetTable.grown d.size)=Rl at M r2 r3⊢;obtain⟨W,t3,aa⟩:=Rl;dsimp only at M r2 r3⊢;have N:W.size=d.size:=by rw[<-l_,M.length_eq,l_]
   show a_ (say _ _ _ ?_);show a_ (wpAny_storeSet_of (s:={s with heap:=s.heap.update a (Obj.putSet d g)}) g1 () ?_ (fits_of_scanBound (by rw[N];show n)));obtain⟨_,S2⟩:=sZ (knd:=knd) (kOf:=kOf) (ks:=f++[k]) g1 hex () (u.perm M) ((M.map _).trans J) (by rw[N];show n) r2 r3;show f_ (f_ (q _ _ (K.trans (B_ _ a _)) S2))
  show a_ (say _ _ _ ?_)
  split
  ·show a_ ?_;rw[hashByValue_scannable 8 y];show f_ ?_;cases ad:plainKind x with|true=>show l S H I|false=>show l {S with plain:=false} (SetTable.fits_plain_off H) I.off
  ·show a_ (f_ (l S H I))
end
end L2
namespace L2
open PySem PySem.Spec PyProof.Rows
section
variable{prog:O4}{w:World}{A:Around}{E:O0}{s:Shared}
def GM(v:Value)(h:Q₁ (.ref s.heap.objs.size) {s with heap:=s.heap.push (fV (!w.params.followText "set-order"))}):codeAny (model prog w) A (.call (.builtin "set.__new__") {[.type "set",v],[]}) (wants Q₁ E) s:=by show codeAny_of_tree (show wpAny _ A.in1 (do checkBuiltinCall "set.__new__" ⟨[.type "set",v],[]⟩;again (.builtin "set.__new__" ⟨[.type "set",v],[]⟩)) _ _ s from ?_);show a_ (wpAny_of_eq (F.newCall_set_1 v) (f_ {Nx F.plain_set_new _,Ni F.entry_set_new ?_}));rw[H_ F.plain_set_new _];unfold Builtin.«set.__new__»Builtin.Frozenset.newClass;have a:=sub_set_self;obtain⟨b,g,d,tk,os⟩:=s;dsimp only;wp_walk;show I_ (f_ ?_);dsimp only;simp only[newObj];show a_ (wpAny_alloc (f_ (f_ h)))
end
section
variable{prog:O4}{w:World}{A:Around}{R:Result->Shared->Prop}{c:Type}[DecidableEq c][BEq c][LawfulBEq c]{j a:Addr}{fp g:O9}{G:Array GenState->Array GenState->Prop}{n:Nat}{P:Nat->Value->Prop}{St:Nat->Shared->Prop}
def CB(l:List c)(x:c)[d:Decidable (x∈l)]:(if x∈l then l else l++[x])=step_dedup l x:=by
 unfold step_dedup
 by_cases h:x∈l
 ·have q:(l.any λy=>y==x)=true:=Oa.mpr {x,h,qq x};rw[hY h,hY q]
 ·have q:¬(l.any λy=>y==x)=true:=λz=>h (by obtain⟨y,b,q⟩:=Oa.mp z;rw[<-eq_of_beq q];show b);rw[h_ h,h_ q]
def CA(l:PySem.KeyKind prog w c)(kOf:Value->c)(led:Bool)(I:∀k v,l.is k v=true->kOf v=k)(q:WalksS prog w A.in1 j fp g G n P St)(C:a∉fp)(h:Nat->c)(r:∀i v,P i v->l.is (h i) v=true/\v.scannable=true)(D:n+1<scanBound):∀(d i:Nat)(s:Shared),n-i=d->i<=n->St i s->jO l kOf led s.heap a (uz h i)->(∀p,Moved (a::g) G s p->jO l kOf led p.heap a (uz h n)->R (.ok (.ret .none)) p)->codeAny (model prog w) A (.builtin "set.update.loop" {[.ref a,.ref j],[]}) R s:=by
 have aw:a∉g:=λz=>C (q.sub _ z);have up:∀b∈g,b∈a::g:=λb z=>j_ _ z;intro d
 induction d with|zero=>
  intro i s hd hi st f k;obtain rfl:i=n:=by lia
  show Ni F.entry_set_update_loop ?_;rw[H_ Ob _];show a_ (m:=pyNext (.ref j)) (q.done s _ _ st λp t=>?_);show f_ (k p (t.mono up) (f.keep λo e=>t.heap a o aw e))|succ d J=>
  intro i s hd hi st f k;have lt:i<n:=by lia
  show Ni F.entry_set_update_loop ?_;rw[H_ Ob _];show a_ (m:=pyNext (.ref j)) (q.item i s _ _ lt st λv p Y u t=>?_);obtain⟨E,K⟩:=r i v Y;have L:jO l kOf led p.heap a (uz h i):=f.keep λo e=>t.heap a o aw e;show a_ (m:=holding [v] (setAdd a v)) (o8 ?_);unfold setAdd;show o8 (a_ (l.pyHash (k:=h i) E ?_));have M:(uz h i).length+1<scanBound:=by have:=Eo h i;lia
  show Fv (s:={p with toks:=p.toks+1}) I E K L M λh' O H f2=>?_;rw[CB,<-wC]at f2;show f_ {Nx Ob _,J (i+1) _ (by lia) lt (q.frame _ p _ _ u (ry _) λb z o e=>?_) f2 λx y N=>?_}
  ·show(H.2 b λB=>C (B▸z)).trans e
  ·show k x (Moved.trans q.gtrans ((t.mono up).then_heap (ry _) λb o z e=>?_) y) N;show(H.2 b λB=>z (B▸k4)).trans e
end
section
variable{prog:O4}{w:World}{A:Around}{E:O0}{s:Shared}{d:Type}[DecidableEq d][BEq d][LawfulBEq d]
set_option maxHeartbeats 3200000 in
def zd{b:Bool}(n:PySem.KeyKind prog w d)(kOf:Value->d)(T:∀k v,n.is k v=true->kOf v=k){l:Addr}{j:O7}{key:Nat->d}{Q:O0}(hh:A.handled=none)(W:pW b s.heap l j)(y:∀i v,j[i]?=some v->n.is (key i) v=true/\v.scannable=true)(z:j.size+1<scanBound)(k:∀(h':Heap)(tk:Nat),jO n kOf (!w.params.followText "set-order") h' s.heap.objs.size (uz key j.size)->(∀b o,s.heap.get? b=some o->h'.get? b=some o)->Q (.ref s.heap.objs.size) {s with heap:=h',toks:=tk}):wpAny (model prog w) A (call (.type "set") [.ref l]) Q E s:=by
 obtain⟨c,tl,L⟩:=F.called_set.mro;have made:=F.called_set.made;have sub:=F.called_set.sub;have nt:=F.called_set.notType;have cc:=F.called_set.canCreate;have tc:=F.typeCall_set_1 (.ref l);show wpAny_call (codeAny_of_tree ?_);change wpAny _ _ (callAny (.type "set") _) _ _ _;show f_ {Code.quiet_builtin _ (by decide+kernel),Ni F.entry_type_call ?_};rw[Around.under_plain (weight_type_call_type "set" [.ref l] []) ()]
 (repeat(any_goals(first|assumption|wp_step)));skip
 show z1 (GM (.ref l) (E:=E) (Q₁:=λu s₁=>u=.ref s.heap.objs.size/\s₁={s with heap:=s.heap.push (fV (!w.params.followText "set-order"))}) {(),()}) λr s₁ G=>?_;cases r with|error e=>show G|ok U=>cases U with
 |ret u=>
   obtain⟨rfl,rfl⟩:=G;have N:(s.heap.push (fV (!w.params.followText "set-order"))).get? s.heap.objs.size=some (fV (!w.params.followText "set-order")):=g_ _ ();have ty:Shared.TypeIs {s with heap:=s.heap.push (fV (!w.params.followText "set-order"))} (.ref s.heap.objs.size) "set":={_,N,()};have li:=F.called_set.init.lookup;have bi:=F.called_set.init.bind (.ref s.heap.objs.size)
   (repeat(any_goals(first|assumption|wp_step)));skip
   show z1 (codeAny_call_builtin (R:=wants (λr p=>r=.none/\∃h' tk,p={s with heap:=h',toks:=tk}/\jO n kOf (!w.params.followText "set-order") h' s.heap.objs.size (uz key j.size)/\∀b o,s.heap.get? b=some o->h'.get? b=some o) E) F.called_set.init.plain F.entry_set_init (check_set_init_1 ty ?_)) λB p m=>?_
   ·obtain⟨⟨cl,V,dt,sl⟩,e,O,P,S⟩:=id W;simp only at O S;subst O;subst S;have X:(s.heap.push (fV (!w.params.followText "set-order"))).get? l=some {cls:=.type (cond b "list" "tuple"),dict:=V,data:=.seq j P,slots:=sl}:=c_ _ e;have s1:isSubtype (.type (cond b "list" "tuple")) (.type "set")=pure false:=by cases b;show F.sub_tuple_set;show F.sub_list_set
    have s2:isSubtype (.type (cond b "list" "tuple")) (.type "frozenset")=pure false:=by cases b;show F.sub_tuple_frozenset;show F.sub_list_frozenset
    have ne:(Value.type (cond b "list" "tuple")==Value.type "dict")=false:=by cases b<;>decide
    have C:pW b (s.heap.push (fV (!w.params.followText "set-order"))) l j:={_,X,(),P,()};have Y:∀(A:Around)(I t:Addr),A.handled=none->t≠I->Walks prog w A I [I,t] [I] j.size (λi v=>j[i]?=some v) (λi h=>qV b h I t i/\pW b h t j):=by
     cases b
     ·showλA I t q r=>Walks.tuple q I t r j
     ·showλA I t q r=>Walks.list q I t r j
    unfold Builtin.«set.__init__»noKeywords Builtin.Frozenset.updateFrom;generalize H:pyIter=PI;wp_walk;subst H;show AQ C ?_;show a_ (wpAny_runValue ?_);have lt:l<s.heap.objs.size:=ir e;have sz:(s.heap.push (fV (!w.params.followText "set-order"))).objs.size=s.heap.objs.size+1:=o0 ..;show CA n kOf (!w.params.followText "set-order") T ((Y A.in1.in1.in1 _ l (by simp[hh]) (by rw[sz];show ku (z4 lt))).toS) (a:=s.heap.objs.size) (by rw[sz];simp only[s_,pa,Ng,not_or];show{ku (t4 _),ot lt}) key y z (j.size-0) 0 _ (by omega) (lh _) {{_,g_ _ (),(),()},C.at λ_ e=>c_ _ e} ?f0 ?fR
    case f0=>have g:((s.heap.push (fV (!w.params.followText "set-order"))).push {cls:=.type (cond b "list_iterator" "tuple_iterator"),data:=.fields #[.ref l,.int 0 0]}).get? s.heap.objs.size=some (fV (!w.params.followText "set-order")):=c_ _ N;show{_,#[],0,_,g,{(),(),()},(),λe Z=>by simp at Z,Ov _,by decide,by rfl,{(),λ_=>gy.few (lh _)}}
    case fR=>rintro⟨h',g',d',J,K⟩D f;obtain rfl:g'=s.gens:=D.gens;obtain rfl:d'=s.drawn:=D.drawn;obtain rfl:K=s.os:=D.os;change wpAny _ _ _ _ _ _;show f_ (show wpAny _ _ (ret Value.none) _ _ _ from f_ {(),h',J,(),f,λb o q=>?_});have b1:b<s.heap.objs.size:=ir q;show D.heap b o (by rw[sz];simp only[s_,pa,Ng,not_or];show{ku b1,ku (z4 b1)}) (c_ _ (c_ _ q))
   ·cases B with|error e=>show m|ok x=>cases x with|ret r=>
      obtain⟨rfl,h',tk,rfl,f,kk⟩:=m
      (repeat(any_goals(first|assumption|wp_step)));show k _ _ f kk|_=>show m.elim
  |_=>show G.elim
end
section
variable{prog:O4}{w:World}{A:Around}{E:O0}{s:Shared}
def DE(hh:A.handled=none)(j:fY s.heap a d u t)(hn:d.size<=sizeLine)(l:w.params.followText "set-order"=false->t.led=true)(n:t.plain=true->gy t.place)(h:∀(h1:Heap)(d1:Drawn)(tk:Nat)(c:O3),c.Perm (d.toList.map (·.2))->(∀b o,s.heap.get? b=some o->h1.get? b=some o)->s.heap.objs.size<=h1.objs.size->(h1.push (seqObj "list" c.toArray 0)).get? h1.objs.size=some (seqObj "list" c.toArray 0)->wpAny (model prog w) A.in1.in1 (Builtin.«list.sort» {[.ref h1.objs.size],[]}) (λfin f=>∃v,fin=.done (.ret v)/\Q (.ref h1.objs.size) f) E {s with heap:=h1.push (seqObj "list" c.toArray 0),drawn:=d1,toks:=tk}):wpAny (model prog w) A (call (.builtin "sorted") [.ref a]) Q E s:=by
 show Calls.call_function_entry kind_sorted plain_sorted entry_sorted (args_sorted1 _) ?_;unfold Builtin.«sorted»;show a_ (m:=checkCount "sorted" 1 1 _) (f_ ?_);show a_ (zr (A:=A.in1) hh j hn l n λh1 d1 tk c i k p=>?_);have r:c.length=d.size:=by rw[i.length_eq,b_,l_]
 show a_ (wpAny_newList ?_ (by rw[r];show hn));have g:(h1.push (seqObj "list" c.toArray 0)).get? h1.objs.size=some (seqObj "list" c.toArray 0):=g_ _ ();show a_ (o8 (o_ slot_list_sort (s:={s with heap:=h1.push (seqObj "list" c.toArray 0),drawn:=d1,toks:=tk}) {_,g,()} entry_list_sort (wpAny_mono (h h1 d1 tk c i k p g) (λfin f x=>?_) λ_ _ e=>e) (args_list_sort _)));obtain⟨v,rfl,q⟩:=x;show{v,(),f_ {_,(),q}}
def zi{h1:Heap}{vs:O3}{out:O7}:(∀b o,h1.get? b=some o->(sortedHeap (h1.push (seqObj "list" vs.toArray 0)) h1.objs.size vs out).get? b=some o)/\∃e,(sortedHeap (h1.push (seqObj "list" vs.toArray 0)) h1.objs.size vs out).get? h1.objs.size=some (seqObj "list" out e):=by have g:(h1.push (seqObj "list" vs.toArray 0)).get? h1.objs.size=some (seqObj "list" vs.toArray 0):=g_ _ ();show{λb o e=>?_,sortedHeap_at g};have a:b<h1.objs.size:=ir e;rw[sortedHeap_old (ku a) (by rw[o0];show z4 a)];show c_ _ e
end
def kOf:Value->bV|.int i _=>.inl i|.str x _=>.inr x|_=>.inl 0
def EH(P:O4)(w:World):∀(k:bV)(v:Value),(aU P w).is k v=true->kOf v=k:=λk v h=>by rcases cG h with⟨i,t,rfl,rfl⟩|⟨x,t,rfl,rfl⟩<;>rfl
abbrev xh(P:O4)(w:World)(q:Addr)(a:List bV):HO:=.ext λh=>jO (aU P w) kOf (!w.params.followText "set-order") h q a
theorem aN.drawn(I:aN X a c H s)(d:Drawn):aN X a c H {s with drawn:=d}:=(I.ok,I.os,I.bare,I.base,I.loc,I.cell,I.free,I.freeC,I.pin,I.hok,I.len,)
theorem wb:∀{a:O3}{c:O5},StrsAre a c->aY (c.map V.str) a|_,_,.nil=>.nil|_,_,.cons x t h=>.cons {t,()} (wb h)
def HA(b:Bool)(K:OZ)(H:Hp)(p:Addr)(a:List V):Prop:=cond b (aR K H p a) (a0 K H p a)
def aN.sqE{X:Cx}{c:O1}{g:St}{H:Hp}{s:Shared}{b:Bool}{p:Addr}{e:List V}(I:aN X c g H s)(h:HA b X.K H p e):∃a,aY e a/\pW b s.heap p a.toArray/\∀d,HA b X.K H p d->d=e:=by cases b with|false=>obtain⟨a,f,p,_⟩:=I.tuple h;show{a,f,p,λd q=>I.tuple_inj q h}|true=>obtain⟨a,f,p,_⟩:=I.list h;show{a,f,p.isList,λd q=>I.list_inj q h}
section
variable{X:Cx}
def wT{b:Bool}(hc:X.calm=true):cP X (.type "set") (λj H Q=>∃(p:Addr)(a:List bV),j=[.ref p]/\HA b X.K H p (a.map kV)/\a.length<4000/\∀q,H q=none->Q (.ref q) (aG H q (xh X.prog X.w q (dd a)))):=by
 intro k s C H j D Q I r h;obtain⟨p,a,rfl,t,l,q⟩:=h;obtain⟨u,rfl,y⟩:=ka r;cases y;obtain⟨c,m,pl,E⟩:=I.sqE t;have n:=m.length;rw[b_]at n;show zd (aU X.prog X.w) kOf (EH _ _) (key:=λi=>a.getD i (.inl 0)) (I.ok.hd hc) pl (λi v d=>?_) (by rw[il];unfold scanBound;omega) λh' tk f A=>?_
 ·have d:c[i]?=some v:=by simpa using d
  have hi:i<c.length:=(d_.mp d).1;obtain⟨u,h1,h2⟩:=m.get (i:=i) (x:=kV (a[i]'(by lia))) (by rw[g8,g6 (by lia)];rfl);rw[d]at h1;cases h1;have e:a.getD i (.inl 0)=a[i]'(by lia):=by simp[List.getD,g6 (show i<a.length by lia)]
  change(aU X.prog X.w).is (a.getD i (.inl 0)) v=true/\_;rw[e,Aj];show G3 h2
 ·rw[show c.toArray.size=a.length by rw[il];show n.symm,GR]at f;show{.ref s.heap.objs.size,_,I.laid (h':=h') (t':=tk) (o:=xh X.prog X.w s.heap.objs.size (dd a)) A (e_ _) {f,?_,λh1 h2 g B=>g.keep B},(),q _ (I.hok.fresh (e_ _))};obtain⟨o,_,_,_,e,_⟩:=f.ex;show(o,e,)
def CJ:cP X (.builtin "len") (λc H Q=>∃(p:Addr)(a:List bV),c=[.ref p]/\H p=some (xh X.prog X.w p a)/\a.length<=4096/\Q (.int a.length) H):=by
 intro b s l H c m Q I r h;obtain⟨p,a,rfl,d,hn,q⟩:=h;obtain⟨u,rfl,g⟩:=ka r;cases g;obtain⟨f,_,_⟩:=I.hok p _ d;obtain⟨o,i,n,t,e,ex,hd,_,pm,_,j,_⟩:=f.ex;have k:i.size=a.length:=by rw[<-pm.length_eq,b_,l_]
 show call_len_set e ex hd j (by omega) {.int _,H,I.tok _,{_,()},?_};rw[k];show q
def IX(f:jO (aU P w) kOf led h a g):∃c d t,fY h a c d t/\c.size=g.length/\(c.toList.map λe=>kOf e.2).Perm g/\qP led t/\∀e∈c.toList,nN (kOf e.2) e.2=true:=by obtain⟨o,c,d,t,e,ex,hd,b,pm,_,i,j⟩:=f.ex;show{c,d,t,{(o,e,ex.1,hd,),i},by rw[<-pm.length_eq,b_,l_],pm,j,λx l=>?_};obtain⟨⟨k,h1,_⟩,_⟩:=b x l;rw[EH P w k x.2 h1];show h1
variable{P:O4}{w:World}
def uM(K:OZ)(c:X.K=K)(hc:X.calm=true)(d:X.prog=P:=by rfl)(e:X.w=w:=by rfl):cP X (.type "set") (λf H Q=>∃(p:Addr)(a:List bV),f=[.ref p]/\aR K H p (a.map kV)/\a.length<4000/\∀q,H q=none->Q (.ref q) (aG H q (xh P w q (dd a)))):=by subst c;subst d;subst e;show wT (b:=true) hc
def AE(K:OZ)(c:X.K=K)(hc:X.calm=true)(d:X.prog=P:=by rfl)(e:X.w=w:=by rfl):cP X (.type "set") (λf H Q=>∃(p:Addr)(a:List bV),f=[.ref p]/\a0 K H p (a.map kV)/\a.length<4000/\∀q,H q=none->Q (.ref q) (aG H q (xh P w q (dd a)))):=by subst c;subst d;subst e;show wT (b:=false) hc
def uN(c:X.prog=P:=by rfl)(d:X.w=w:=by rfl):cP X (.builtin "len") (λe H Q=>∃(p:Addr)(a:List bV),e=[.ref p]/\H p=some (xh P w p a)/\a.length<=4096/\Q (.int a.length) H):=by subst c;subst d;show CJ
end
section
variable{prog:O4}{w:World}{A:Around}{E:O0}{s:Shared}
def mV(a b:Str):Prop:=¬b.cps.toList<a.cps.toList
def vc(g:StrsAre d v)(h:a.Perm (pairsOf d))(n:SortedToK strKind a (pairsOf d).size):∃c,StrsAre (a.map (·.2)).toList c/\c.Perm v/\c.Pairwise mV:=by
 obtain⟨o,h1,h2,_⟩:=sorted_out_str g h n;show{o,h1,h2,?_};have z:a.toList.Perm (d.zip d):=by rw[<-pairsOf_toList];show Array.perm_iff_toList_perm.mp h
 have b:∀p,p∈a.toList->p.1=p.2/\p.1∈d:=λp k=>mem_zip_self (z.mem_iff.mp k);have e:o=a.toList.map λp=>strOf p.2:=by rw[<-h1.strs,Array.toList_map,tA];rfl
 rw[e,List.pairwise_iff_getElem];intro i j hi B l;have m:i<a.size:=by simpa using hi
 have f:j<a.size:=by simpa using B
 have q:=n i j (tx l) (by rw[<-h.size_eq];show f);obtain⟨x,t,ex⟩:=g.all _ (b a[i] (by simp)).2;obtain⟨y,u,r⟩:=g.all _ (b a[j] (by simp)).2;rw[KK_str m (x:=x) (t:=t) (q:=a[i].2) (Prod.ext ex ()),KK_str f (x:=y) (t:=u) (q:=a[j].2) (Prod.ext r ())]at q
 change decide (y.cps.toList<x.cps.toList)=false at q
 simp only[OR,Array.getElem_toList];have C:strOf a[i].2=x:=by rw[<-(b a[i] (by simp)).1,ex];rfl
 have D:strOf a[j].2=y:=by rw[<-(b a[j] (by simp)).1,r];rfl
 unfold mV;rw[C,D];show Oy q
def tm(hh:A.handled=none)(r:fY s.heap a f P t)(u:f.size<64)(y:w.params.followText "set-order"=false->t.led=true)(B:t.plain=true->gy t.place)(C:∀e∈f.toList,∃x t,e.2=Value.str x t)(h:∀(D:Addr)(h':Heap)(F:Drawn)(tk e:Nat)(out:O3)(i:O5),s.heap.objs.size<=D->(∀b o,s.heap.get? b=some o->h'.get? b=some o)->h'.get? D=some (seqObj "list" out.toArray e)->StrsAre out i->i.Perm (f.toList.map λe=>strOf e.2)->i.Pairwise mV->Q (.ref D) {s with heap:=h',drawn:=F,toks:=tk}):wpAny (model prog w) A (call (.builtin "sorted") [.ref a]) Q E s:=by
 show DE hh r (by rw[ig];lia) y B λh1 d1 tk c j G H g=>?_;have O:c.length=f.size:=by rw[j.length_eq,b_,l_]
 have k:StrsAre c (c.map strOf):=strsAre_map c λv hm=>by obtain⟨e,I,rfl⟩:=kw.mp (j.mem_iff.mp hm);show C e I
 show list_sort_treeK strKind_oneLt g k.keysOf (λp q qd e=>keyKind_strs (by rw[<-e];show k)) (by lia) λd l m=>{_,(),?_};obtain⟨n,J,K,L⟩:=vc k l m;obtain⟨M,e,N⟩:=zi (h1:=h1) (vs:=c) (out:=(arrOf d).map (·.2));show h h1.objs.size _ d1 tk e ((arrOf d).map (·.2)).toList n H (λb o z=>M b o (G b o z)) ?_ J (K.trans ?_) L
 ·rw[Array.toArray_toList];show N
 ·have:=j.map strOf;rw[tA]at this;show this
end
section
variable{X:Cx}
def zv(hc:X.calm=true):cP X (.builtin "sorted") (λj H Q=>∃(p:Addr)(a:O5),j=[.ref p]/\H p=some (xh X.prog X.w p (a.map Sum.inr))/\a.length<64/\∀(q:Addr)(c:O5),H q=none->c.Perm a->c.Pairwise mV->Q (.ref q) (aG H q (.lst (c.map V.str)))):=by
 intro l s N H j O Q I r h;obtain⟨p,a,rfl,C,hn,q⟩:=h;obtain⟨u,rfl,E⟩:=ka r;cases E;obtain⟨f,_,_⟩:=I.hok p _ C;obtain⟨m,P,t,F,n,pm,v,G⟩:=IX f;rw[b_]at n;have A:∀e∈m.toList,∃x t,e.2=Value.str x t:=λe d=>by
  have hm:kOf e.2∈a.map Sum.inr:=pm.mem_iff.mp (kw.mpr {e,d,()});obtain⟨x,_,b⟩:=kw.mp hm;rcases cG (G e d)with⟨i,t,h1,h2⟩|⟨y,t,h1,h2⟩
  ·rw[h1]at b;cases b
  ·show(y,t,h2,)
 show tm (I.ok.hd hc) F (by lia) (λz=>by rw[v.led,z];rfl) v.up A λD h' J tk e out c B K g sa sp L=>?_;have sl:c.length=a.length:=by rw[sp.length_eq,b_,l_,n]
 have ex:(m.toList.map λe=>strOf e.2).Perm a:=by
  have h1:=pm.map (λk:bV=>match k with|.inr x=>x|.inl _=>({#[]}:Str));rw[tA,tA]at h1;have M:(a.map ((λk:bV=>match k with|.inr x=>x|.inl _=>({#[]}:Str))∘Sum.inr))=a:=by rw[show((λk:bV=>match k with|.inr x=>x|.inl _=>({#[]}:Str))∘Sum.inr)=id from (),List.map_id]
  rw[M]at h1;show(List.Perm.of_eq (M_ λe d=>?_)).trans h1;obtain⟨x,t,b⟩:=A e d;rw[b];change strOf (Value.str x t)=(match kOf e.2 with|.inr x=>x|.inl _=>({#[]}:Str));rw[b];rfl
 show{.ref D,_,(I.drawn J).laid (h':=h') (t':=tk) (o:=.lst (c.map V.str)) K B {?_,out,e,wb sa,g},(),q D c (I.hok.fresh B) (sp.trans ex) L};rw[b_,sl,ig];lia
def xL(hc:X.calm=true)(d:X.prog=P:=by rfl)(e:X.w=w:=by rfl):cP X (.builtin "sorted") (λf H Q=>∃(p:Addr)(a:O5),f=[.ref p]/\H p=some (xh P w p (a.map Sum.inr))/\a.length<64/\∀(q:Addr)(c:O5),H q=none->c.Perm a->c.Pairwise mV->Q (.ref q) (aG H q (.lst (c.map V.str)))):=by subst d;subst e;show zv hc
def CL:cP X (.builtin "isinstance") (λc H Q=>∃x T t b,c=[x,.ty T]/\(lD X.K H x t\/∃p d,x=.ref p/\a0 X.K H p d/\t=.type "tuple")/\PySem.W.kitOne X.K t (.type T)=some b/\Q (.bl b) H):=by
 intro a s f H c g Q I r h;obtain⟨x,T,t,b,rfl,ty,e,q⟩:=h;rcases ty with ty|⟨p,d,rfl,i,rfl⟩
 ·show uP a s f H _ g Q I r {x,T,t,b,(),ty,e,q}
 ·obtain⟨u,j,rfl,k,rt⟩:=oB r;obtain rfl:j=Value.type T:=rt;cases k;obtain⟨l,_,⟨o,h1,h2,_⟩,_⟩:=I.tuple i;show PySem.W.kia_one PySem.W.kitx_tuple I.kIn (o,h1,h2,) e (nofun) λtk=>{.bl b,H,I.tok tk,(),q}
def uO(K:OZ)(a:X.K=K):cP X (.builtin "isinstance") (λc H Q=>∃x T t b,c=[x,.ty T]/\(lD K H x t\/∃p d,x=.ref p/\a0 K H p d/\t=.type "tuple")/\PySem.W.kitOne K t (.type T)=some b/\Q (.bl b) H):=by subst a;show CL
end
end L2
namespace L2
open PySem PySem.W PyProof.Rows
def vV(P:O4)(w:World):zG:=λouter H s E e a=>∃(d:Addr)(C:Value)(B:Heap)(t:Addr)(c:Hp),e=.ref d/\a.os=s.os/\AllBare a.gens/\Un (j4 outer) [] H c s.heap a.heap/\lO P w c a.heap/\Heap.FlyingW B outer d C (.ref t) a.heap/\(∀b o,c b=some o->∃u,B.get? b=some u)/\(∀b o,s.heap.get? b=some o->b∉j4 outer->∃u,B.get? b=some u)/\E C none c
def zj(h:env.frame=some L):j4 (env::l)=L::j4 l:=by unfold j4;rw[sg,h]
def lO.flown{P:O4}{w:World}{H:Hp}{h h' B:Heap}(x:lO P w H h)(c:∀b o,H b=some o->∃u,B.get? b=some u)(k:B.StaysIn h)(l:B.StaysIn h'):lO P w H h':=λa o e=>(x a o e).stay (λb u d q=>by
  obtain⟨f,g⟩:∃f,H b=some f:=by
   rcases d with rfl|d
   ·show{_,e}
   ·show{_,d}
  obtain⟨v,i⟩:=c b f g;have j:=k b v i;rw[q]at j;cases j;show l b _ i) (λ_ q=>q) λ_ _ q=>q
section
variable{P:O4}{w:World}{K:OZ}{mg:O2}{base:Heap}{N:O5}{a:Str}{scope:Scope}{f:Addr}{cd:Value}{A:Around}{outer:List Env}{c:Shared}{d:Hp}{E:XK}
def iH:mD (vV P w) (qH (vV P w) P w K mg base N a scope f cd A outer c d E) E:=by
 rintro O X H s e G I⟨J,C,B,t,Q,rfl,os,bare,un,hok,r,m,h,q⟩;have v:(envOfC a scope c.heap.objs.size f cd).frame=some c.heap.objs.size:=();have x:j4 (envOfC a scope c.heap.objs.size f cd::outer)=c.heap.objs.size::j4 outer:=zj v;have j:Un (j4 outer) [] d H c.heap s.heap:=I.base;have un:Un (j4 (envOfC a scope c.heap.objs.size f cd::outer)) [] H Q s.heap G.heap:=un;have h:∀b o,s.heap.get? b=some o->b∉j4 (envOfC a scope c.heap.objs.size f cd::outer)->∃u,B.get? b=some u:=h;have r:Heap.FlyingW B (envOfC a scope c.heap.objs.size f cd::outer) J C (.ref t) G.heap:=r;have y:∀b o,c.heap.get? b=some o->b∉j4 outer->b∉j4 (envOfC a scope c.heap.objs.size f cd::outer):=λb o e g hm=>by
  rw[x]at hm;rcases s_.mp hm with rfl|hm
  ·show absurd (ir e) (qx _)
  ·show g hm
 have p:∀b o,c.heap.get? b=some o->b∉j4 outer->∃u,B.get? b=some u:=λb o e g=>by obtain⟨L,i⟩:=j.there b o e (by simp);show h b L i (y b o e g)
 change wpAny (model P w) (A.deeper (envOfC a scope c.heap.objs.size f cd)) (leaving (envOfC a scope c.heap.objs.size f cd) (.ref J)) _ _ G;show wpAny_leaves_onW (outer:=outer) I.ok.frames v r λh' k up=>?_;show{J,C,B,t,Q,(),os.trans I.os,bare,?_,hok.flown m r.1 k.1,k,m,p,q};have slot:∀b o,c.heap.get? b=some o->d b=none->b∈j4 outer->∃sl,h'.get? b=some {o with slots:=sl}:=λb o e n g=>by
  obtain⟨sl,i⟩:=j.slot b o e n g (by simp);have n1:=j.free b o e n (by simp);obtain⟨T,z⟩:=un.slot b _ i n1 (by rw[x];show j_ _ g) (by simp);obtain⟨_,R,l,hd⟩:=I.ok.funs.mem g;have:R=o:=by have l:c.heap.get? b=some R:=l;rw[e]at l;show(iA l).symm
  subst this;obtain⟨M,D⟩:=up b _ z hd;show(M,D,)
 show{λb o e n g _=>?_,λb o e n g _=>slot b o e n g,λb o e n _=>?_,λb o e _=>?_,λb S e=>un.tups b S (j.tups b S e),λb o u e=>un.frzs b o u (j.frzs b o u e),λb U e=>?_}
 ·have i:=j.keep b o e n g (by simp);have n1:=j.free b o e n (by simp);have z:=un.keep b o i n1 (y b o e g) (by simp);obtain⟨u,F⟩:=p b o e g;have D:=r.1 b u F;rw[z]at D;cases D;show k.1 b _ F
 ·obtain⟨L,i⟩:=j.there b o e (by simp);show un.free b L i (j.free b o e n (by simp)) (by simp)
 ·by_cases g:b∈j4 outer
  ·have n:d b=none:=I.ok.frf b g;obtain⟨sl,i⟩:=slot b o e n g;show{_,i}
  ·obtain⟨u,F⟩:=p b o e g;show{u,k.1 b u F}
 ·obtain⟨V,i⟩:=j.tbls b U e;obtain⟨W,z⟩:=un.tbls b _ i;show{V++W,by rw[z,Array.append_assoc]}
end
def c6.held{P:O4}{w:World}{H:Hp}{h:Heap}{a:Addr}{o:HO}(x:c6 P w H h a o):∃u,h.get? a=some u:=by cases o with|lst c=>obtain⟨_,_,_,_,e⟩:=x;show{_,e}|tup c=>obtain⟨_,_,_,_,e,_⟩:=x;show{_,e}|dK b=>obtain⟨_,_,_,_,o,_,_,e,_⟩:=x;show{_,e}|dT b=>obtain⟨_,_,_,_,o,_,_,e,_⟩:=x;show{_,e}|set S n=>obtain⟨o,_,_,_,e,_⟩:=x;show{_,e}|ins C dx fs=>obtain⟨_,_,_,e,_⟩:=x;show{_,e}|own y=>show x|xd fs=>obtain⟨_,⟨_,_,_,e,_⟩,_⟩:=x;show{_,e}|rng lo hi=>obtain⟨_,_,_,e⟩:=x;show{_,e}|frz ob u=>show{_,x.1}|tbl d=>show{_,(show h.get? a=some _ from x)}|met f y=>show{_,(show h.get? a=some _ from x)}|ext φ=>show x.2.1
def Fw(X:Cx)(E:XK):Prop:=∀(a:O1)(c:St)(H:Hp)(s:Shared)(C:Value)(d:O3)(h':Heap)(b:Addr),aN X a c H s->Heap.MadeExcOf s.heap h' b C d->E C none H->X.xe (.ref b) {s with heap:=h'}
section
variable{P:O4}{w:World}{K:OZ}{mg:O2}{base:Heap}{N:O5}{a:Str}{scope:Scope}{f:Addr}{cd:Value}{A:Around}{outer:List Env}{c:Shared}{d:Hp}{E:XK}
def yC:Fw (qH (vV P w) P w K mg base N a scope f cd A outer c d E) E:=by
 intro L V H s C W h' M I O q;have m:(envOfC a scope c.heap.objs.size f cd).frame=some c.heap.objs.size:=();have z:j4 (envOfC a scope c.heap.objs.size f cd::outer)=c.heap.objs.size::j4 outer:=zj m;have k:Un (j4 outer) [] d H c.heap s.heap:=I.base;have p:∀b o,c.heap.get? b=some o->b∉j4 outer->b∉j4 (envOfC a scope c.heap.objs.size f cd::outer):=λb o e g hm=>by
  rw[z]at hm;rcases s_.mp hm with rfl|hm
  ·show absurd (ir e) (qx _)
  ·show g hm
 generalize D:hideAll s.heap (j4 (envOfC a scope c.heap.objs.size f cd::outer))=B;have l:∀{b o},s.heap.get? b=some o->b∉j4 (envOfC a scope c.heap.objs.size f cd::outer)->B.get? b=some o:=λe g=>by rw[<-D];show hideAll_get _ e g
 have r:B.StaysIn s.heap:=λb o e=>by rw[<-D]at e;show of_hideAll _ e
 have fr:s.heap.FunFrames B (envOfC a scope c.heap.objs.size f cd::outer):=by rw[<-D];show funFrames_hide (base:=base) I.stack λenv R b g=>NM.mpr (env,R,g,)
 have v:∀b o,c.heap.get? b=some o->b∉j4 outer->∃u,B.get? b=some u:=λb o e g=>by obtain⟨S,x⟩:=k.there b o e (by simp);show{S,l x (p b o e g)}
 have j:∀b o,H b=some o->∃u,B.get? b=some u:=λb o e=>by obtain⟨u,F⟩:=(I.hok b o e).held;show{u,l F λhm=>by have n:H b=none:=I.stkFree b hm;rw[e]at n;cases n}
 change wpAny (model P w) (A.deeper (envOfC a scope c.heap.objs.size f cd)) (leaving (envOfC a scope c.heap.objs.size f cd) (.ref M)) _ _ _;show wpAny_leaves_madeW (outer:=outer) (h:=s.heap) I.ok.frames m r fr O λG t y tup _ up=>?_;show{M,C,B,t,H,(),I.os,I.bare,?_,I.hok.flown j r y.1,y,j,v,q};have slot:∀b o,c.heap.get? b=some o->d b=none->b∈j4 outer->∃sl,G.get? b=some {o with slots:=sl}:=λb o e n g=>by
  obtain⟨sl,x⟩:=k.slot b o e n g (by simp);have T:=O.keeps _ _ x;obtain⟨_,Q,i,hd⟩:=I.ok.funs.mem g;have:Q=o:=by have i:c.heap.get? b=some Q:=i;rw[e]at i;show(iA i).symm
  subst this;obtain⟨J,U⟩:=up b _ T hd;show(J,U,)
 show{λb o e n g _=>?_,λb o e n g _=>slot b o e n g,λb o e n _=>k.free b o e n (by simp),λb o e _=>?_,k.tups,k.frzs,k.tbls}
 ·show y.1 b o (l (k.keep b o e n g (by simp)) (p b o e g))
 ·by_cases g:b∈j4 outer
  ·obtain⟨sl,x⟩:=slot b o e (I.ok.frf b g) g;show{_,x}
  ·obtain⟨u,F⟩:=v b o e g;show{u,y.1 b u F}
end
def xb:List Value:=[.type "ValueError",.type "Exception",.type "BaseException",.type "object"]
def w6(K:OZ)(C:Addr):Prop:=excIn K C xb "ValueError.__new__"=true
theorem w6.at{K:OZ}{C:Addr}{h:Heap}(kin:K.In h)(x:w6 K C):∃j N nm q bs hd f sub g d dd r s t u v l,h.get? C=some (excClassObj nm q C N bs j hd f sub g d dd r s t u v "ValueError.__new__")/\h.Ns N l/\l "__init__"=none/\OwnTail h xb j:=by
 unfold w6 excIn at x
 split at x
 ·rename_i dd c sl look
  split at x
  ·rename_i E w k m n o y p a slots;simp only[mu,beq_iff_eq,Bool.not_eq_true']at x;obtain⟨⟨⟨⟨⟨z,A⟩,del⟩,i⟩,b⟩,e⟩:=x;subst z A;rcases c with⟨nm,bs,B,ns,D,hd,f,sub,g,d,dl⟩;dsimp only at a del b e;subst a;subst del;obtain rfl:sl=#[k,m,n,o,some (.builtin "ValueError.__new__"),p]:=by rcases sl with⟨list⟩;show p_ Array.mk slots
   show{w,ns,nm,D,bs,hd,f,sub,g,d,dd,k,m,n,o,p,_,kin _ _ look,.of_isNs (isNs_of_in kin b),nsMap_none_of_in kin b e,tail_of_in kin i}
  ·cases x
 ·cases x
def Iu(C:Addr)(E:XK)(t:TA):TS:=λ_ a H=>t a H λb c=>b.length<=sizeLine/\E (.ref C) none c
def yE{X:Cx}{C:Addr}{E:XK}{x:Str}{S a i:Pos}{e:Expr}{d:O6}{t:TA}(W:w6 X.K C)(hg:Gl X x)(hm:X.mg x=some (.ref C))(hc:X.calm=true)(Z:Fw X E)(ha:PA X (e::d) t)(j:(x==("__debug__":Str))=false:=by decide)(u:starEach (e::d) X.env=(false,eval e X.env)::starEach d X.env:=by rfl)(l:(backTo a (starEach d X.env)).any (·.1)=false:=by rfl):PS X (.Raise (some (.Call (.Name x S) (e::d) [] a)) none i) (Iu C E t):=by
 intro c s v H D I h;obtain⟨w,N,nm,q,bs,hd,y,sub,A,f,dd,B,G,J,L,M,O,U,V,k,T⟩:=W.at I.mod.kin;show wpAny_Raise_call_subT (C:=C) (N:=N) (bm:=w) (mN:=O) (bmB:=xb) (newId:="ValueError.__new__") (nm:=nm) (q:=q) (bs:=bs) (hdct:=hd) (sn:=y) (sub:=sub) (ab:=A) (col:=f) (dd:=dd) (k0:=B) (k1:=G) (k2:=J) (k3:=L) (k5:=M) PySem.F.excBase_ValueError (T.hasType PySem.F.excBase_ValueError.hasBase) (I.ok.hd hc) ?_ k (mP I hg hm {(),?_} j)
 ·rw[u];change(false||(backTo a (starEach d X.env)).any (·.1))=false;rw[l];rfl
 ·have g:=ha a c s v H _ I h;rw[u]at g⊢;show vu (cw g λQ R z0=>?_);obtain⟨vs,H1,I1,r,z,q1⟩:=z0;have p:∀b o,X.base.get? b=some o->R.heap.get? b=some o:=I1.bk;show{(),by change Q.length<=_;rw[<-r.length];show z,p _ _ U,V.keeps p,T.keeps p,λh' ea m=>Z c v H1 R (.ref C) Q h' ea I1 m q1}
def Un.flown{fs:O9}{H i:Hp}{h1 h' h5 B:Heap}(un:Un fs [] H i h1 h')(c:∀b o,h1.get? b=some o->b∉fs->∃u,B.get? b=some u)(k:B.StaysIn h')(j:B.StaysIn h5)(up:h'.UpToSlots h5)(fr:∀b∈fs,H b=none/\∀o,h1.get? b=some o->∀l,o.data≠.fields l):Un fs [] H i h1 h5:=by
 have slot:∀b o,h1.get? b=some o->H b=none->b∈fs->∃sl,h5.get? b=some {o with slots:=sl}:=λb o e n a=>by obtain⟨sl,g⟩:=un.slot b o e n a (by simp);obtain⟨h,d⟩:=up b _ g ((fr b a).2 o e);show(h,d,)
 show{λb o e n a m=>?_,λb o e n a _=>slot b o e n a,un.free,λb o e _=>?_,un.tups,un.frzs,un.tbls}
 ·have p:=un.keep b o e n a m;obtain⟨u,f⟩:=c b o e a;have d:=k b u f;rw[p]at d;cases d;show j b _ f
 ·by_cases a:b∈fs
  ·obtain⟨sl,g⟩:=slot b o e (fr b a).1 a;show{_,g}
  ·obtain⟨u,f⟩:=c b o e a;show{u,j b u f}
abbrev Cx.inExc(X:Cx)(a:Addr):Cx:={X with A:=X.A.mark (some (.ref a)),calm:=false,xe:=λ_ _=>False}
section
variable{X:Cx}{a:O1}{d:St}{H:Hp}{s:Shared}{c:Addr}
theorem Cx.Ok.inExc(ok:X.Ok)(c:Addr):(X.inExc c).Ok:={ok.mod,ok.kind,ok.glob,ok.blt,ok.above,ok.inj,ok.has,ok.cab,λz=>absurd z (by simp),ok.frames,ok.stk,ok.exf,ok.bs,ok.bsz,ok.noex,ok.exfs,ok.funs,ok.frf}
theorem aN.inExc(I:aN X a d H s)(c:Addr):aN (X.inExc c) a d H s:={I.ok.inExc c,I.os,I.bare,I.base,I.loc,I.cell,I.free,I.freeC,I.pin,I.hok,I.len}
def aN.outExc(ok:X.Ok)(I:aN (X.inExc c) a d H s):aN X a d H s:=(ok,I.os,I.bare,I.base,I.loc,I.cell,I.free,I.freeC,I.pin,I.hok,I.len,)
theorem SP.outExc(ok:X.Ok)(h:SP (X.inExc c) a D f g):SP X a D f g:=by cases f with|next=>obtain⟨b,e,I,q⟩:=h;show{b,e,I.outExc ok,q}|brk=>obtain⟨b,e,I,q⟩:=h;show{b,e,I.outExc ok,q}|cont=>obtain⟨b,e,I,q⟩:=h;show{b,e,I.outExc ok,q}|ret u=>obtain⟨v,b,e,I,r,q⟩:=h;show{v,b,e,I.outExc ok,r,q}
end
def mC(c:zG)(X:Cx)(E:XK)(a:O1)(d:St):Prop:=∀(H:Hp)(s:Shared)(e:Value)(b:Shared),aN X a d H s->c X.stack H s E e b->X.xe e b
def L9(X:Cx)(a:O1)(c:St)(e:Expr)(t:TE):Prop:=∀(s:Shared)(H:Hp)(Q:VK),aN X a c H s->t c H Q->wpAny (model X.prog X.w) X.A (eval e X.env) (EP X a c Q) X.xe s
def Km(X:Cx)(a:O1)(c:St)(st:Stmt)(t:TS):Prop:=∀(s:Shared)(H:Hp)(D:j8),aN X a c H s->t D c H->wpAny (model X.prog X.w) X.A (exec st X.env) (SP X a D) X.xe s
structure zE(X:Cx)(pins:O1)(σ:St)(ea:Addr)(C':Value)(H':Hp)(s:Shared):Prop where
 inv:aN X pins σ H' s
 fly:∃(B:Heap)(t:Addr),Heap.FlyingW B X.stack ea C' (.ref t) s.heap/\∀h6,B.StaysIn h6->s.heap.UpToSlots h6->aN X pins σ H' {s with heap:=h6}nh:H' ea=none
 src:∃(H1:Hp)(s1:Shared),aN X pins σ H1 s1/\s1.heap.get? ea=none
def zE.run{X:Cx}{a:O1}{d:St}{c:Addr}{m:Value}{e:Hp}{s:Shared}{D:j8}{b:List Stmt}{j:TS}{A:Around}{l:Flow->Shared->Prop}{n o:O0}(L:zE X a d c m e s)(hh:∀c,vR (X.inExc c) b j)(g:j D d e)(p:∀f s,SP X a D f s->l f s):wpAny (model X.prog X.w) A (setFlight (.ref c) none) (λ_ s₁=>wpAny (model X.prog X.w) (X.A.mark (some (.ref c))) (execs b X.env) l n s₁) o s:=by obtain⟨B,t,q,k⟩:=L.fly;show lands_againW q λr h i=>wpAny_mono (hh c a _ d e D ((k r h.1 i).inExc c) g) (λf u z=>p f u (z.outExc L.inv.ok)) λ_ _ z=>z.elim
def zE.obj{X:Cx}{a:O1}{e:St}{c:Addr}{d:Value}{f:Hp}{s:Shared}(L:zE X a e c d f s):∃o,s.heap.get? c=some o/\o.cls=d:=by obtain⟨B,t,b,k⟩:=L.fly;show b.there
def zE.keep{X:Cx}{a:O1}{c:St}{d:Addr}{e:Value}{g:Hp}{s:Shared}{h':Heap}(L:zE X a c d e g s)(k:∀b o,s.heap.get? b=some o->h'.get? b=some o):zE X a c d e g {s with heap:=h'}:=by obtain⟨B,t,h,l⟩:=L.fly;have up:s.heap.UpToSlots h':=λb o i _=>{o.slots,k _ _ i};have f:=flying_keeps h k;show{l h' f.1 up,{B,t,f,λj m n=>l j m (up.trans n)},L.nh,L.src}
def Ma(X:Cx)(a:O1)(c:St)(bs:List Stmt)(t:TS):Prop:=∀(s:Shared)(H:Hp)(D:j8),aN X a c H s->t D c H->wpAny (model X.prog X.w) X.A (execs bs X.env) (SP X a D) X.xe s
def Jq{X:Cx}{a:O1}{c:St}{st:Stmt}{t:TS}(h:Km X a c st t):Ma X a c [st] t:=λs H D I q=>ON (cw (h s H D I q) λf b z=>by cases f with|next=>show NE z|ret v=>show z|brk=>show z|cont=>show z)
def C7{X:Cx}{bs:List Stmt}{h0:ExceptHandler}{Q:List ExceptHandler}{W:XK->TS}{R:Value->Hp->Prop}{S:Pos}{a:O1}{s:Shared}{i:St}{H:Hp}{D:j8}(n:X.stack=X.env::X.outer)(C:X.env.frame=some X.env.locals)(P:∀(E:XK)(a:O1)(i:St)(Z:O0),mC (vV X.prog X.w) (X.wish Z) E a i->Ma (X.wish Z) a i bs (W E))(I:aN X a i H s)(h:W (λj _ g=>R j g) D i H)(hc:∀c j g s5,R j g->zE X a i c j g s5->wpAny (model X.prog X.w) X.A (handleBy (.ref c) X.env (h0::Q)) (SP X a D) X.xe s5):wpAny (model X.prog X.w) X.A (exec (.Try bs (h0::Q) [] [] S) X.env) (SP X a D) X.xe s:=by
 show wpAny_Try_except ?_;have hp:mC (vV X.prog X.w) (X.wish λe s₁=>wpAny (model X.prog X.w) X.A (noteFrame e X.env) (λ_ F=>wpAny (model X.prog X.w) X.A (setFlight e none) (λ_ G=>wpAny (model X.prog X.w) X.A (handleBy e X.env (h0::Q)) (SP X a D) X.xe G) X.xe F) X.xe s₁) (λj _ g=>R j g) a i:=by
  rintro O p e q I1⟨c,j,B,t,g,rfl,os,bare,un,hok,r,l,d,T⟩;have I1:=I1.unwish;have un:Un (j4 X.stack) [] O g p.heap q.heap:=un;have r:Heap.FlyingW B X.stack c j (.ref t) q.heap:=r;have d:∀b o,p.heap.get? b=some o->b∉j4 X.stack->∃u,B.get? b=some u:=d;have x:∀b∈j4 X.stack,O b=none/\∀o,p.heap.get? b=some o->∀U,o.data≠.fields U:=λb P=>by show{I1.stkFree b P,λo e=>?_};obtain⟨_,o',J,hd⟩:=I1.stack.mem P;rw[e]at J;cases J;show hd
  have Y:∀b u,B.get? b=some u->b≠c:=λb u e z=>by rw[z,r.2.1]at e;cases e
  have nh:g c=none:=by cases z:g c with|none=>rfl|some o=>show absurd () (Y _ _ (l _ _ z).choose_spec)
  have nw:p.heap.get? c=none:=by cases z:p.heap.get? c with|none=>rfl|some o=>
    by_cases C:c∈j4 X.stack
    ·obtain⟨sl,e1⟩:=un.slot c o z (x c C).1 C (pa);obtain⟨_,_,_,oe,U,_,_,_,he,_,hd,_⟩:=r;rw[he]at e1;cases e1;show absurd hd ((x c C).2 o z U)
    ·show absurd () (Y _ _ (d _ _ z C).choose_spec)
  have m:∀h5,B.StaysIn h5->q.heap.UpToSlots h5->aN X a i g {q with heap:=h5}:=λh5 k up=>I1.call' (s':={q with heap:=h5}) (ch:=[]) os (un.flown d r.1 k up x) (hok.flown l r.1 k) bare λb z=>absurd z (by simp)
  change wpAny (model X.prog X.w) X.A (noteFrame (.ref c) X.env) _ X.xe q;have K:=r;rw[n]at K;show wpAny_looks_onW (outer:=X.outer) (by rw[I.ok.frames,n]) C K λh4 y L=>?_;show wpAny_landsW y λh5 M N=>hc c j g _ T {m h5 M.1 (L.trans N),{B,t,by rw[n];show M,λh6 k6 V=>m h6 k6 ((L.trans N).trans V)},nh,O,p,I1,nw}
 show wpAny_mono (P _ a i _ hp s H D (I.wish _) h) (λf p z=>?_) λ_ _ z=>z;have z:=z.unwish;cases f with|next=>show NE z|ret v=>show z|brk=>show z|cont=>show z
section
variable{X:Cx}{M:zG}{k:Nat}{f C:Addr}{fd:FuncData}{L:O5}{sp:Sp}{n:List V}{ds:O3}{E:XK}{x m:Str}{j B:Pos}{e o:Expr}{J:O6}{P:TE}{t:TA}{d:O1}{G:St}
def I0(F:aP X.prog X.w X.K X.mg X.base M k f fd L sp)(c:eX k X.A)(g:f8 X.K fd L ds)(hd:aY n ds)(i:mC M X E d G)(I:aN X d G H s)(r:aY vs us)(h:sp (vs++n) H Q E):wpAny (model X.prog X.w) X.A (call (.ref f) us) (EP X d G Q) X.xe s:=by
 have a:aY (vs++n) (us++ds):=r.append hd;have len:(us++ds).length=L.length:=a.length▸F.len _ _ _ _ h;show wpAny_call (z1 (F.run X.A X.stack s H {us,[]} (us++ds) (vs++n) Q E c I.env0 (g s us I.kIn len) a h) λb l z=>?_);rcases b with ex|q
 ·show i H s ex l I z
 ·cases q with|ret u=>show I.after z|next=>cases z|brk=>cases z|cont=>cases z
def GQ(R:PE X o P)(c:x4 X.K C)(hm:FE X.K C m f)(F:aP X.prog X.w X.K X.mg X.base M k f fd L sp)(S:eX k X.A)(T:f8 X.K fd L ds)(hd:aY n ds)(Z:mC M X E d G)(ha:PA X (e::J) t)(i:starEach (e::J) X.env=(false,eval e X.env)::starEach J X.env:=by rfl)(y:(backTo j (starEach J X.env)).any (·.1)=false:=by rfl)(ht:eval (.Call (.Attribute o m B) (e::J) [] j) X.env=(do
   let obj<-eval o X.env
   standAt B.atName let(g,first)<-holding [obj] (getMethod obj m pl)callWith j g first (backTo j (starEach (e::J) X.env)) (backToKw j (keywordEach [] X.env))):=by rfl):L9 X d G (.Call (.Attribute o m B) (e::J) [] j) (Dc C m sp n E P t):=by intro s H Q I h;show PySem.W.methodCall_KW (pl:=pl) (cw (R d s G H _ I h) λu O⟨v,U,I1,Y,a,dx,fs,ev,ea,l,q⟩=>?_) ht;subst ev;cases(show u=Value.ref a from Y);show on I1 ea c hm l (PySem.W.callWith_K (first:=[.ref a]) (h₀:=X.base) I.ok.mod.kin hm.kp (cw (ha j d O G U _ I1 q) λz s2⟨D,H2,N,r,q2⟩=>{N.kIn,?_}) i y);show I0 (us:=.ref a::z) (vs:=.ref a::D) F S T hd Z N (.cons () r) q2
def IY(c:X.N.Nodup)(hi:X.N[i]?=some x)(g:Kq X.env.scope x)(l:L9 X d G e te)(q:swapsWith e (some (.Name x a)) j.line X.env=pure false:=by rfl)(r:X.fn x=true\/X.env.scope.names.lookup x=some .local:=by first|show .inl ()|show .inr ()|assumption):Km X d G (.Assign [.Name x a] e j) (yd te (kP i)):=by intro s H D I h;show wpAny_Assign_Name (cw (l s H _ I h) λv A⟨y,b,I1,u,w⟩=>sY I1 c hi g u (λF z=>{_,b,z,w}) r) q
end
theorem PS.nox{X:Cx}{st:Stmt}{t:TS}(h:PS X.nox st t):PS X st t:=λa s b H D I c=>wpAny_mono (h a s b H D (I.wish _) c) (λ_ _ q=>q.unwish) λ_ _ z=>False.elim z
section
variable{P:O4}{w:World}{K:OZ}{mg:O2}{base:Heap}
def xZ.okE{x a:Str}{st:Stmt}{f:Addr}{fd:FuncData}{N g:O5}{k:Nat}{sp:Sp}(F:xZ K x a st f fd)(S:az N g (ai st))(len:∀d H Q E,sp d H Q E->d.length=g.length)(e:∀(c:Value)(A:Around)(outer:List Env)(s:Shared)(H:Hp)(d:List V)(Q:VK)(E:XK),eX k (A.deeper (envOfC a (ai st) s.heap.objs.size f c))->sp d H Q E->∃t,vR (qH (vV P w) P w K mg base N a (ai st) f c A outer s H E) (gQ st) t/\t {nx:=λ_ i=>Q .non i,rt:=Q} (i9 N d) H):aP P w K mg base (vV P w) (k+1) f fd g sp:=by obtain⟨oc,n,kV,j,pm,o,c,ct,l,rfl,lk,b⟩:=F.ex;show HU lk b S len λA outer s H d Q E m h=>e c A outer s H d Q E m h
end
def Hm(s:Stmt):List Stmt:=match s with|.ClassDef _ _ _ b _ _ _ _ _ _ _=>b|_=>[]
abbrev bY:=bV⊕List bV
section
variable(P:O4)(w:World)
def iM:bY->Int|.inl k=>(aU P w).hash k|.inr []=>hashW w.params .none|.inr (k::a)=>(tupleKind (aU P w)).hash (k::a)
def j0:bY->Nat|.inl _=>1|.inr a=>a.length+1
def lx(h:Heap)(k:bY)(v:Value):Prop:=match k with|.inl k=>(aU P w).is k v=true|.inr []=>v=.none|.inr (k::b)=>∃a,v=.ref a/\(tupleKind (aU P w)).is h (k::b) a
abbrev j7:=bY×Value×Value
def sw(x:j7):DictEntry:={iM P w x.1,x.2.1,x.2.2}
end
section
variable{P:O4}{w:World}{A:Around}{E:O0}{s:Shared}
def lx.flat(x:lx P w h (.inl k) v):(∃i t,v=.int i t/\k=.inl i)\/∃z t,v=.str z t/\k=.inr z:=by have x:nN k v=true:=x;cases k with
 |inl i=>have x:Value.isInt i v=true:=x;cases v with|int j t=>simp[Value.isInt]at x;show .inl {_,_,(),by rw[x]}|_=>cases x
 |inr z=>have x:Value.isStrOf z v=true:=x;cases v with|str j t=>simp[Value.isStrOf]at x;show .inr {_,_,(),by rw[x]}|_=>cases x
def Ew(d:A.units<cLine)(c:lx P w s.heap k v)(q:Q (iM P w k) {s with toks:=s.toks+j0 k}):wpAny (model P w) A (pyHash v) Q E s:=by match k,c,q with|.inl k,c,q=>show(aU P w).pyHash c q|.inr [],c,q=>cases c;show pyHash_slot (T:="NoneType") () F.slot_NoneType_hash F.entry_NoneType_hash (F.args_NoneType_hash_1 _) (beq_builtin_none _) (.inr (by omega)) (a_ (f_ (a_ (wpAny_mkInt (f_ {_,_,(),q})))))|.inr (k::e),c,q=>obtain⟨a,rfl,b⟩:=c;show(tupleKind (aU P w)).pyHash d b q
def L4:SeqAt.EqAt A s .none .none true:=λprog w E Q a=>by unfold eqBool;show o8 ?_;show to (λ_=>a_ (wr (f_ a))) (λz=>absurd (by decide) z)
def GT(f:A.units<cLine)(d:lx P w s.heap x u)(c:lx P w s.heap y v)(q:Q (decide (x=y)) s):wpAny (model P w) A (eqBool u v) Q E s:=by match x,d,q with
 |.inl x,d,q=>match y,c,q with
  |.inl y,c,q=>show(aU P w).eqBool d c (by simpa using q)|.inr [],c,q=>
   cases c;rw[lm (by intro z;cases z)]at q;rcases lx.flat d with⟨i,t,rfl,_⟩|⟨z,t,rfl,_⟩
   ·show SeqAt.EqAt.int_none i t P w E Q q
   ·show SeqAt.EqAt.str_none z t P w E Q q|.inr (k::j),c,q=>
   obtain⟨a,rfl,o,g,n,e,hc,hd,hi⟩:=c;rw[lm (by intro z;cases z)]at q;rcases lx.flat d with⟨i,t,rfl,_⟩|⟨z,t,rfl,_⟩
   ·show SeqAt.EqAt.int_tuple i t {_,e,hc,_,hd} f P w E Q q
   ·show SeqAt.EqAt.str_tuple z t {_,e,hc,_,hd} f P w E Q q
 |.inr [],d,q=>
  cases d
  match y,c,q with
  |.inl y,c,q=>
   rw[lm (by intro z;cases z)]at q;rcases lx.flat c with⟨i,t,rfl,_⟩|⟨z,t,rfl,_⟩
   ·show SeqAt.EqAt.none_int i t P w E Q q
   ·show SeqAt.EqAt.none_str z t P w E Q q|.inr [],c,q=>cases c;rw[k_ ()]at q;show L4 P w E Q q|.inr (k::j),c,q=>obtain⟨a,rfl,o,g,n,e,hc,hd,hi⟩:=c;rw[lm (by intro z;cases z)]at q;show SeqAt.EqAt.none_tuple {_,e,hc,_,hd} f P w E Q q
 |.inr (k::j),d,q=>
  obtain⟨a,rfl,h⟩:=d
  match y,c,q with
 |.inl y,c,q=>
   obtain⟨o,g,n,e,hc,hd,hi⟩:=h;rw[lm (by intro z;cases z)]at q;rcases lx.flat c with⟨i,t,rfl,_⟩|⟨z,t,rfl,_⟩
   ·show SeqAt.EqAt.tuple_int i t {_,e,hc,_,hd} f P w E Q q
   ·show SeqAt.EqAt.tuple_str z t {_,e,hc,_,hd} f P w E Q q|.inr [],c,q=>cases c;obtain⟨o,g,n,e,hc,hd,hi⟩:=h;rw[lm (by intro z;cases z)]at q;show SeqAt.EqAt.tuple_none {_,e,hc,_,hd} f P w E Q q|.inr (l::ls),c,q=>obtain⟨b,rfl,m⟩:=c;show(tupleKind (aU P w)).eqBool f h m (by simpa using q)
def Bh(c:lx P w s.heap k v)(q:Q true s):wpAny (model P w) A (eqIsQuiet 8 v) Q E s:=by match k,c with
 |.inl k,c=>
  rcases lx.flat c with⟨i,t,rfl,_⟩|⟨z,t,rfl,_⟩
  ·show f_ q
  ·show f_ q|.inr [],c=>cases c;show f_ q|.inr (k::d),c=>obtain⟨a,rfl,b⟩:=c;show(tupleKind (aU P w)).quiet b q
theorem lx.inj(d:lx P w h x v)(c:lx P w h y v):x=y:=by match x,d with
 |.inl x,d=>match y,c with|.inl y,c=>rw[(aU P w).inj v x y d c]|.inr [],c=>cases c;rcases lx.flat d with⟨i,t,e,_⟩|⟨z,t,e,_⟩<;>cases e|.inr (k::f),c=>obtain⟨a,rfl,_⟩:=c;rcases lx.flat d with⟨i,t,e,_⟩|⟨z,t,e,_⟩<;>cases e
 |.inr [],d=>
  cases d
  match y,c with|.inl y,c=>rcases lx.flat c with⟨i,t,e,_⟩|⟨z,t,e,_⟩<;>cases e|.inr [],_=>rfl|.inr (k::f),c=>obtain⟨a,e,_⟩:=c;cases e
 |.inr (k::f),d=>
  obtain⟨a,rfl,g⟩:=d
  match y,c with|.inl y,c=>rcases lx.flat c with⟨i,t,e,_⟩|⟨z,t,e,_⟩<;>cases e|.inr [],c=>cases c|.inr (l::ls),c=>obtain⟨b,e,j⟩:=c;cases e;rw[(tupleKind (aU P w)).inj g j]
def GS{k:bY}{v:Value}{st:O3}{Q:Bool->Shared->Prop}(d:lx P w s.heap k v)(e:∀u∈st,∃a,lx P w s.heap a u)(q:Q false s):wpAny (model P w) A (tableMayTell v st) Q E s:=by
 unfold tableMayTell
 split
 ·show f_ q
 ·show a_ (Bh d ?_);simp only[Bool.not_true,No,N3];show a_ (OM _ (λleft r b=>b=s/\r=(none,Unit.unit)/\∀u∈left,∃a,lx P w s.heap a u) _ ?_ ?_ _ _ {(),(),e})
  ·rintro u left r b⟨rfl,rfl,c⟩;obtain⟨a,f⟩:=c u k4;show a_ (Bh f ?_);simp only[Bool.not_true,No,N3];show f_ {(),(),λz g=>c z (j_ _ g)}
  ·rintro r b⟨rfl,rfl,_⟩;show f_ q
def LH{a:Array DictEntry}{c:List j7}(d:a.toList=c.map (sw P w))(j:Nat):a[j]?=(c[j]?).map (sw P w):=by rw[<-rl,d,g8]
def Eu{a:Array DictEntry}{c:List j7}(d:a.toList=c.map (sw P w)):a.size=c.length:=by rw[<-l_,d,b_]
def Ev{a:List j7}(hn:(a.map (·.1)).Nodup){i j:Nat}{k:bY}{p q:Value×Value}(hi:a[i]?=some (k,p))(c:a[j]?=some (k,q)):i=j:=by
 have b:(a.map (·.1))[i]?=some k:=by rw[g8,hi];rfl
 have d:(a.map (·.1))[j]?=some k:=by rw[g8,c];rfl
 show(wh (d_.mp b).1 hn).mp (b.trans d.symm)
def MU[Decidable c](h1:c->wpAny (model P w) A t Q E s)(h2:¬c->wpAny (model P w) A u Q E s):wpAny (model P w) A (if c then t else u) Q E s:=by
 by_cases h:c
 ·rw[hY h];show h1 h
 ·rw[h_ h];show h2 h
def Ko(a:List j7)(k:bY)(s:Shared)(b:Option (Option Nat)×Option Nat)(c:Shared):Prop:=c=s/\((∃j p,b=(some (some j),none)/\a[j]?=some (k,p))\/(b.1=none/\((b.2=none/\∀(j:Nat)(p:Value×Value),a[j]?≠some (k,p))\/∃j p,b.2=some j/\a[j]?=some (k,p))))
def JI{h:List j7}{k:bY}{a:O8}(hn:(h.map (·.1)).Nodup)(u:∀j p,h[j]?=some (k,p)->j∈a)(v:∀j∈a,∃y:j7,h[j]?=some y/\iM P w y.1=iM P w k)(m:a.Nodup)(f:Nat->Option (Option Nat)×Option Nat->Sem (ForInStep (Option (Option Nat)×Option Nat)))(h1:∀(x:Nat)(p:Value×Value)(R:ForInStep (Option (Option Nat)×Option Nat)->Shared->Prop),x∈a->h[x]?=some (k,p)->R (.done (some (some x),none)) s->R (.yield (none,some x)) s->wpAny (model P w) A (f x (none,none)) R E s)(h2:∀(x:Nat)(n:Option Nat)(y:j7)(R:ForInStep (Option (Option Nat)×Option Nat)->Shared->Prop),x∈a->h[x]?=some y->iM P w y.1=iM P w k->y.1≠k->R (.yield (none,n)) s->wpAny (model P w) A (f x (none,n)) R E s):wpAny (model P w) A (forIn a ((none,none):Option (Option Nat)×Option Nat) f) (Ko h k s) E s:=by
 show OM f (λleft b B=>B=s/\b.1=none/\∃pre,a=pre++left/\((b.2=none/\∀j∈pre,∀p,h[j]?≠some (k,p))\/∃j p,b.2=some j/\j∈pre/\h[j]?=some (k,p))) _ ?_ ?_ _ _ {(),(),[],(),.inl {(),by simp}}
 ·rintro x left⟨b1,b2⟩B⟨rfl,rfl,pre,o,t⟩;have i:x∈a:=by rw[o];simp
  have C:x∉pre:=λz=>by rw[o,oa]at m;show m.2.2 x z x k4 ()
  obtain⟨y,l,hh⟩:=v x i;have r:a=(pre++[x])++left:=by rw[o];simp
  by_cases e:y.1=k
  ·obtain⟨D,p⟩:=y;have e:D=k:=e;subst e;rcases t with⟨rfl,g⟩|⟨j,q,rfl,d,c⟩
   ·show h1 x p _ i l {(),.inl {x,p,(),l}} {(),(),pre++[x],r,.inr {x,p,(),by simp,l}}
   ·show absurd (Ev hn c l▸d) C
  ·show h2 x b2 y _ i l hh e {(),(),pre++[x],r,?_};rcases t with⟨rfl,g⟩|⟨j,q,rfl,d,c⟩
   ·show .inl {(),λj d p z=>?_};rcases List.mem_append.mp d with d|d
    ·show g j d p z
    ·rw[List.mem_singleton.mp d,l]at z;cases z;show e ()
   ·show .inr {j,q,(),ol _ d,c}
 ·rintro⟨b1,b2⟩B⟨rfl,rfl,pre,o,t⟩;show{(),.inr {(),?_}};rcases t with⟨rfl,g⟩|⟨j,q,rfl,d,c⟩
  ·show .inl {(),λj p z=>g j ?_ p z};have:=u j p z;rw[o,n7]at this;show this
  ·show .inr {j,q,(),c}
def Ex{d:Addr}{o:Obj}{n:Array DictEntry}{ep:Nat}{C:List j7}{k:bY}{g:Value}{Q:Option Nat->Shared->Prop}(hu:A.units<cLine)(f:lx P w s.heap k g)(J:s.heap.get? d=some o)(hd:o.data=.dict n ep)(he:n.toList=C.map (sw P w))(u:∀x∈C,lx P w s.heap x.1 x.2.1)(hn:(C.map (·.1)).Nodup)(D:(∀(j:Nat)(p:Value×Value),C[j]?≠some (k,p))->Q none s)(q:∀(j:Nat)(p:Value×Value),C[j]?=some (k,p)->Q (some j) s):wpAny (model P w) A (dictFind d g (iM P w k)) Q E s:=by
 have sz:=Eu he;have B:=LH he;generalize K:placesWithHash n.size (λi=>n[i]?.map (·.hash)) (iM P w k)=c;have ad:∀j p,C[j]?=some (k,p)->j∈c:=λj p l=>by
  rw[<-K];unfold placesWithHash;show u_.mpr {t8.mpr ?_,?_}
  ·rw[sz];show(d_.mp l).1
  ·change(n[j]?.map (·.hash)==some (iM P w k))=true;rw[B j,l];simp[sw]
 have O:∀j∈c,∃y:j7,C[j]?=some y/\iM P w y.1=iM P w k:=λj l=>by rw[<-K]at l;unfold placesWithHash at l;obtain⟨h1,h2⟩:=u_.mp l;have h1:=t8.mp h1;rw[sz]at h1;show{C[j],g6 h1,?_};have h2:(n[j]?.map (·.hash)==some (iM P w k))=true:=h2;rw[B j,g6 h1]at h2;simpa[sw]using h2
 have ap:c.Nodup:=by rw[<-K];show List.filter_sublist.nodup List.nodup_range
 have plain:wpAny (model P w) A (dictWalkPlain d g (iM P w k) n c) Q E s:=by
  unfold dictWalkPlain;show a_ (OM _ (λleft b s'=>s'=s/\b=(none,Unit.unit)/\∃pre,c=pre++left/\∀j∈pre,∀p,C[j]?≠some (k,p)) _ ?_ ?_ _ _ {(),(),[],(),by simp})
  ·rintro x left b s'⟨rfl,rfl,pre,hp,S⟩;obtain⟨⟨L,kv,v'⟩,m,hh⟩:=O x (by rw[hp];simp);have hex:n[x]?=some {iM P w L,kv,v'}:=by rw[B x,m];rfl
   rw[hex];dsimp only;rw[hY (by rw[hh];simp)];show a_ (y_ J hd (a_ (GT (x:=L) (y:=k) hu (u _ (gV m)) f (a_ (y_ J hd ?_)))));change wpAny (model P w) A (if(ep !=ep)=true then _ else _) _ E s';rw[h_ (by simp)]
   by_cases M:L=k
   ·rw[k_ M];subst M;show a_ (wr (f_ (f_ (q x _ m))))
   ·rw[lm M];show a_ (wr (f_ {(),(),pre++[x],by rw[hp];simp,λj l p z=>?_}));rcases List.mem_append.mp l with l|l
    ·show S j l p z
    ·rw[List.mem_singleton.mp l,m]at z;cases z;show M ()
  ·rintro b s'⟨rfl,rfl,pre,hp,S⟩;show f_ (D λj p z=>S j ?_ p z);have:=ad j p z;rw[hp,n7]at this;show this
 have an:∀v∈c.filterMap (λi=>n[i]?.map (·.key)),∃L,lx P w s.heap L v:=λv T=>by obtain⟨i,hi,T⟩:=NM.mp T;obtain⟨y,H,_⟩:=O i hi;rw[B i,H]at T;cases T;show{_,u y (gV H)}
 unfold dictFind
 with_reducible show o8 ?_
 show a_ (wpAny_dictEntries J hd ?_);dsimp only;rw[K];generalize a7:c.filterMap (λi=>n[i]?.map (·.key))=stored at an⊢;have G:∀z t,g=.str z t->(n.all λe=>isExactStrKey e.key)=true->wpAny (model P w) A (foundByValue d g n z) Q E s:=by
  rintro z t rfl-;have ek:k=.inl (.inr z):=by
   cases k with|inl k=>
    rcases f.flat with⟨i,t',e,_⟩|⟨z',t',e,e2⟩
    ·cases e
    ·cases e;rw[e2]|inr ks=>cases ks with|nil=>cases f|cons k ks=>obtain⟨a,e,_⟩:=f;cases e
  have as:∀(j:Nat)(y:j7),C[j]?=some y->y.2.1.isStr z=true->y.1=k:=λj y H I=>by have h3:=u y (gV H);show lx.inj h3 ?_;rw[ek];cases T:y.2.1 with
 |str z' t'=>
    rw[T]at I;have:z'=z:=by simpa[Value.isStr]using I
    rw[this];show rh P w z t'|_=>rw[T]at I;cases I
  have ax:∀(j:Nat)(p:Value×Value),C[j]?=some (k,p)->p.1.isStr z=true:=λj p l=>by
   have h3:lx P w s.heap k p.1:=u _ (gV l);rw[ek]at h3;rcases h3.flat with⟨i,t',_,e⟩|⟨z',t',e,e2⟩
   ·cases e
   ·cases e2;rw[e];simp[Value.isStr]
  unfold foundByValue;cases hf:n.findIdx? (λe=>e.key.isStr z)with
 |none=>
   show f_ (D λj p l=>?_);have F:=Array.findIdx?_eq_none_iff.mp hf;have h4:n[j]?=some (sw P w (k,p)):=by rw[B j,l];rfl
   have h5:=F _ (Array.mem_of_getElem? h4);have h6:p.1.isStr z=false:=by simpa[sw]using h5
   rw[ax j p l]at h6;cases h6|some i=>
   obtain⟨U,hi,_⟩:=Array.findIdx?_eq_some_iff_getElem.mp hf;have m:C[i]?=some (C[i]'(by rw[<-sz];show U)):=g6 _;generalize C[i]'(by rw[<-sz];show U)=y at m;have hex:n[i]?=some (sw P w y):=by rw[B i,m];rfl
   have a2:y.2.1.isStr z=true:=by rw[vl U]at hex;rw[iA hex]at hi;show hi
   have H:=as i y m a2;obtain⟨L,p⟩:=y;have H:L=k:=H;subst H;dsimp only;rw[hex];dsimp only;show a_ (y_ J hd (a_ (GT (x:=L) (y:=L) hu (u _ (gV m)) f (a_ (y_ J hd ?_)))));rw[h_ (by simp),hY (k_ ())];show a_ (wr (f_ (q i p m)))
 have N:∀a,g=.ref a->¬(n.any λe=>e.key==g&&e.hash !=iM P w k)=true:=by intro a ea;rw[<-Array.any_toList,he,Oa];rintro⟨e,a3,hc⟩;obtain⟨y,H,rfl⟩:=kw.mp a3;simp only[sw,mu,beq_iff_eq,bne_iff_ne,ne_eq]at hc;have h3:=u y H;rw[hc.1]at h3;show hc.2 (by rw[h3.inj f])
 by_cases F:((g::stored).all carriedByValue)=true
 ·rw[hY F]
  split
  ·rename_i z t
   split
   ·rename_i I;show G z t () I
   ·show plain
  ·show plain
 ·rw[h_ F];have V:(∃i t,g=.int i t)\/(∃z t,g=.str z t)\/(∃a,g=.ref a)\/g=.none:=by
   cases k with|inl k=>
    rcases f.flat with⟨i,t,e,_⟩|⟨z,t,e,_⟩
    ·show .inl (i,t,e,)
    ·show .inr (.inl (z,t,e,))|inr ks=>cases ks with|nil=>show .inr (.inr (.inr f))|cons k ks=>obtain⟨a,e,_⟩:=f;show .inr (.inr (.inl (a,e,)))
  have W:∀(x:Nat)(p:Value×Value),C[x]?=some (k,p)->∃e,n[x]?=some e/\e.hash=iM P w k/\lx P w s.heap k e.key:=λx p m=>{_,by rw[B x,m];rfl,(),u _ (gV m)};have X:∀(x:Nat)(y:j7),C[x]?=some y->∃e,n[x]?=some e/\e.hash=iM P w y.1/\lx P w s.heap y.1 e.key:=λx y m=>{_,by rw[B x,m];rfl,(),u _ (gV m)};rcases V with⟨i,t,e⟩|⟨z,t,e⟩|⟨a,e⟩|e
  case' inl=>subst e;dsimp only
  case' inr.inl=>
   subst e;dsimp only
   by_cases I:(n.all λe=>isExactStrKey e.key)=true
   case pos=>rw[hY I];show G z t () I
   case' neg=>rw[h_ I]
  case' inr.inr.inl=>subst e;dsimp only;rw[h_ (N a ())]
  case' inr.inr.inr=>subst e;dsimp only
  all_goals show MU (λ_=>a_ (f_ ?_)) (λ_=>a_ (GS f an ?_))
  all_goals rw[h_ (by simp)];show a_ (wpAny_mono (JI (P:=P) (w:=w) hn ad O ap _ ?_ ?_) (λb s' z=>?_) λ_ _ z=>z)
  all_goals first
   |(obtain⟨b1,b2⟩:=b
     obtain⟨rfl,h⟩:=z;rcases h with⟨j,p,e,l⟩|⟨e,h⟩
     ·cases e;show f_ (q j p l)
     ·have e:b1=none:=e;subst e;rcases h with⟨e,h⟩|⟨j,p,e,l⟩<;>(have e:b2=_:=e;subst e)
      ·show f_ (D h)
      ·show f_ (q j p l))
   |(intro x p R a5 m r1 r2
     obtain⟨e,Y,Z,aa⟩:=W x p m;rw[Y];dsimp only;rw[hY (by rw[Z];simp)];show a_ (y_ J hd (a_ (GT (x:=k) (y:=k) hu aa f (a_ (y_ J hd ?_)))));rw[h_ (by simp),hY (k_ ()),h_ (by simp)];show a_ (wr ?_)
     split
     ·show f_ r1
     ·show f_ r2)
   |(intro x a8 y R a5 m hh a6 r
     obtain⟨e,Y,Z,aa⟩:=X x y m;rw[Y];dsimp only;rw[hY (by rw[Z,hh];simp)];show a_ (y_ J hd (a_ (GT (x:=y.1) (y:=k) hu aa f (a_ (y_ J hd ?_)))));rw[h_ (by simp),h_ (by simp[a6])];show a_ (wr ?_);rw[h_ (by simp)];show f_ r)
def Bi{c:Type}{a:List (bY×c)}(hn:(a.map (·.1)).Nodup){j:Nat}{k:bY}{p:c}(d:a[j]?=some (k,p)):a.find? (λx=>decide (x.1=k))=some (k,p):=by
 rw[List.find?_eq_some_iff_append];obtain⟨g,e⟩:=d_.mp d;show{k_ (),a.take j,a.drop (j+1),?_,λy h=>?_}
 ·rw[<-e,List.getElem_cons_drop,si]
 ·obtain⟨i,hi⟩:=i_.mp h;have b:i<j:=by have:=(d_.mp hi).1;rw[mo]at this;omega
  rw[NX b]at hi;have:y.1≠k:=λz=>by
   have f:(a.map (·.1))[i]?=some k:=by rw[g8,hi,<-z];rfl
   have l:(a.map (·.1))[j]?=some k:=by rw[g8,d];rfl
   have:=(wh (d_.mp f).1 hn).mp (f.trans l.symm);lia
  simp[this]
def wD{c:Type}{d:List (bY×c)}{k:bY}(h:∀(j:Nat)(p:c),d[j]?≠some (k,p)):d.find? (λx=>decide (x.1=k))=none:=by rw[OB];intro x b a;obtain⟨j,e⟩:=i_.mp b;have a:x.1=k:=n_ a;show h j x.2 (by rw[e,<-a])
structure jq(P:O4)(w:World)(h:Heap)(d:Addr)(ys:List j7):Prop where ok:∃o es ep,h.get? d=some o/\o.ExactDict/\o.data=.dict es ep/\es.toList=ys.map (sw P w)nd:(ys.map (·.1)).Nodup
def fS{c a:Type}(d:List (bY×c×a))(k:bY):Option a:=(d.find? λy=>decide (y.1=k)).map (·.2.2)
def gA{a c:Type}(d:List (bY×a×c))(k:bY)(e:a)(v:c):List (bY×a×c):=if(fS d k).isSome then d.map λy=>if y.1=k then(y.1,y.2.1,v)else y else d++[(k,e,v)]
def LG{d:Addr}{e:List j7}{k:bY}{c:Value}{Q:Option Value->Shared->Prop}(g:A.units<cLine)(a:lx P w s.heap k c)(hm:jq P w s.heap d e)(f:∀x∈e,lx P w s.heap x.1 x.2.1)(q:Q (fS e k) {s with toks:=s.toks+j0 k}):wpAny (model P w) A (dictGet d c) Q E s:=by
 obtain⟨o,l,m,b,hc,hd,h⟩:=hm.ok;unfold dictGet
 with_reducible show o8 ?_
 show a_ (Ew g a (a_ (Ex (s:={s with toks:=s.toks+j0 k}) g a b hd h f hm.nd (λno=>?_) λj p i=>?_)))
 ·unfold fS at q;rw[wD no]at q;show f_ q
 ·unfold fS at q;rw[Bi hm.nd i]at q;show a_ (wpAny_dictEntries (s:={s with toks:=s.toks+j0 k}) b hd ?_);rw[LH h j,i];show f_ q
def JJ(a:List (bY×d×c))(k:bY)(v:c):(a.map λy=>if y.1=k then(y.1,y.2.1,v)else y).map (·.1)=a.map (·.1):=by
 rw[tA];show M_ λy _=>?_;change(if y.1=k then(y.1,y.2.1,v)else y).1=y.1
 split<;>rfl
def LF{d:Addr}{f:List j7}{k:bY}{c v:Value}{Q:Unit->Shared->Prop}(u:A.units<cLine)(g:lx P w s.heap k c)(hm:jq P w s.heap d f)(n:∀x∈f,lx P w s.heap x.1 x.2.1)(C:f.length<sizeLine)(q:∀h',jq P w h' d (gA f k c v)->Heap.SameBut d s.heap h'->Q Unit.unit {s with heap:=h',toks:=s.toks+j0 k}):wpAny (model P w) A (dictSet d c v) Q E s:=by
 obtain⟨o,H,B,h,hc,hd,m⟩:=hm.ok;unfold dictSet
 with_reducible show o8 ?_
 show a_ (Ew u g ?_);unfold dictSetHashed
 with_reducible show o8 ?_
 show a_ (Ex (s:={s with toks:=s.toks+j0 k}) u g h hd m n hm.nd (λno=>?_) λj p l=>?_)
 ·have r:gA f k c v=f++[(k,c,v)]:=by unfold gA fS;rw[wD no];rfl
  have D:k∉f.map (·.1):=λz=>by obtain⟨y,F,e⟩:=kw.mp z;obtain⟨j,l⟩:=i_.mp F;show no j y.2 (by rw[l,<-e])
  rw[r]at q;show a_ (wr (wpAny_updateDictKeys (hz:=by have:=Eu m;omega) (s:={s with toks:=s.toks+j0 k}) h hd (q _ {{_,_,B+1,sD _ h (Obj.isFreed_of_dict (Obj.data_mapDictKeys hd _)),hc.mapDictKeys _,Obj.data_mapDictKeys hd _,?_},?_} (B_ ..))))
  ·rw[OK,m,hF];rfl
  ·rw[hF,oa];show{hm.nd,by simp,λa G b t e=>D ?_};have t:b=k:=List.mem_singleton.mp t;rw[<-t,<-e];show G
 ·have r:gA f k c v=f.map λy=>if y.1=k then(y.1,y.2.1,v)else y:=by unfold gA fS;rw[Bi hm.nd l];rfl
  rw[r]at q;show a_ (wr (a_ (wpAny_updateDict (s:={s with toks:=s.toks+j0 k}) h hd (wpAny_point (q _ {{_,_,B,sD _ h (Obj.isFreed_of_dict (Obj.data_mapDict hd _)),hc.mapDict _,Obj.data_mapDict hd _,?_},by rw[JJ];show hm.nd} (B_ ..))))));rw[Array.toList_modify,m];show z7 λi=>?_;rw[List.getElem?_modify,g8,g8,g8];cases hi:f[i]?with|none=>by_cases e:j=i<;>simp[e]|some y=>
   by_cases e:j=i
   ·subst e;rw[l]at hi;cases hi;simp[sw]
   ·have:y.1≠k:=λz=>e (Ev hm.nd l (q:=y.2) (by rw[hi,<-z]));simp[e,this]
def jq.type(hm:jq P w s.heap d c):s.TypeIs (.ref d) "dict":=let⟨o,_,_,a,hc,_⟩:=hm.ok;(o,a,hc.1,)
def jq.bare(hm:jq P w s.heap d c):∀b,Value.ref d=.ref b->∃ob,s.heap.get? b=some ob/\ob.dict=none:=λb e=>by cases e;obtain⟨o,_,_,a,hc,_⟩:=hm.ok;show(o,a,hc.2.1,)
def Al(d:Addr)(a dflt:Value)(hd:(d==sysModules)=false):MeetsIn P w (Builtin.«dict.get» {[.ref d,a,dflt],[]}) (λA R s=>A.in1.units<cLine/\∃k c,lx P w s.heap k a/\jq P w s.heap d c/\(∀x∈c,lx P w s.heap x.1 x.2.1)/\R (.ok (.ret ((fS c k).getD dflt))) {s with toks:=s.toks+j0 k}):=.of_wp λA R s⟨e,k,c,f,hm,hi,h⟩=>by change wpAny (model P w) _ (dictGet d a>>=_) _ _ s;show a_ (LG e f hm hi ?_);cases b:fS c k with|some v=>rw[b]at h;show f_ {v,(),h}|none=>rw[b]at h;show a_ (wpAny_missed_other hd (f_ {dflt,(),h}))
def Cm(g:A.in1.units<cLine)(c:lx P w s.heap k a)(hm:jq P w s.heap d e)(f:∀x∈e,lx P w s.heap x.1 x.2.1)(h:e.length<sizeLine)(q:∀h',jq P w h' d (gA e k a v)->Heap.SameBut d s.heap h'->Q Unit.unit {s with heap:=h',toks:=s.toks+j0 k}):wpAny (model P w) A (setItem (.ref d) a v) Q E s:=by
 unfold setItem
 with_reducible show o8 ?_
 show a_ (wpAny_sequenceKey hm.type (by decide) (a_ (p6 (name:=Str.ofString "__setitem__") hm.type slot_dict_setitem (o_ slot_dict_setitem hm.type entry_dict_setitem ?_ (args_dict_setitem _ _ _)))));change wpAny (model P w) _ (Builtin.Dict.notOrdered "__setitem__" {[.ref d,a,v],[]}>>=_) _ _ s;show a_ (wpAny_notOrdered_dict hm.type ?_);change wpAny (model P w) A.in1 (dictSet d a v>>=_) _ _ s;show a_ (LF g c hm f h λh' h1 h2=>f_ {.none,(),f_ (q h' h1 h2)})
end
abbrev gB:=bY×V×V
def qR(a:List gB)(c:List j7):Prop:=Paired (λ(p:gB)(q:j7)=>p.1=q.1/\aX p.2.1 q.2.1/\aX p.2.2 q.2.2) a c
abbrev dM(P:O4)(w:World)(d:Addr)(c:List gB):HO:=.ext λh=>(d==sysModules)=false/\∃a,qR c a/\jq P w h d a
def dn(K:OZ)(H:Hp)(k:bY)(v:V):Prop:=match k with|.inl k=>v=kV k|.inr []=>v=.non|.inr (k::b)=>∃a,v=.ref a/\a0 K H a ((k::b).map kV)
def eS(K:OZ)(H:Hp)(a:List gB):Prop:=∀x∈a,dn K H x.1 x.2.1
def jq.keep(m:jq P w h1 d a)(k:∀o,h1.get? d=some o->h2.get? d=some o):jq P w h2 d a:=let⟨o,b,c,e,r⟩:=m.ok;{{o,b,c,k o e,r},m.nd}
def HX(hd:(d==sysModules)=false)(r:qR a ys)(m:jq P w h d ys):c6 P w H h d (dM P w d a):={(hd,ys,r,m,),let⟨o,_,_,e,_⟩:=m.ok;(o,e,),λ_ _⟨h1,ys,h2,h3⟩k=>{h1,ys,h2,h3.keep k}}
def dn.is(I:aN X f l H s)(h:dn X.K H k v)(r:aX v u):lx X.prog X.w s.heap k u:=by cases k with|inl k=>have h:v=kV k:=h;subst h;show pM r|inr b=>cases b with|nil=>have h:v=.non:=h;subst h;show r|cons k b=>obtain⟨a,rfl,g⟩:=h;cases r;obtain⟨i,j,⟨o,e,c,n,d⟩,_⟩:=I.tuple g;show{a,(),o,_,n,e,c,d,qB j}
theorem qR.keys(I:aN X c g H s):∀{d:List gB}{e:List j7},qR d e->eS X.K H d->∀y∈e,lx X.prog X.w s.heap y.1 y.2.1
 |_,_,.nil,_,y,b=>nomatch b|_,_,.cons (a:=p) r t,k,y,b=>by
  rcases s_.mp b with rfl|b
  ·rw[<-r.1];show(k p k4).is I r.2.1
  ·show qR.keys I t (λx f=>k x (j_ _ f)) y b
theorem qR.val:∀{a:List gB}{c:List j7},qR a c->∀k,kS (fS a k) (fS c k)
 |_,_,.nil,_=>True.intro|p::a,q::c,.cons r t,k=>by
  unfold fS;rw[rV,rV,<-r.1]
  by_cases e:p.1=k
  ·rw[k_ e];show r.2.2
  ·rw[lm e];show qR.val t k
def qR.put(h:qR c d)(g:aX i j)(f:aX v u):qR (gA c k i v) (gA d k j u):=by
 have a:(fS c k).isSome=(fS d k).isSome:=(h.val k).isSome_eq;unfold gA;rw[a]
 split
 ·rename_i hc;clear a hc
  induction h with|nil=>show .nil|@cons p q l m r t b=>
   show .cons ?_ b;dsimp only;rw[<-r.1]
   by_cases e:p.1=k
   ·rw[hY e,hY e];show{(),r.2.1,f}
   ·rw[h_ e,h_ e];show r
 ·rename_i hc;clear a hc
  induction h with|nil=>show .cons {(),g,f} .nil|cons r t b=>show .cons r b
def qR.len(h:qR a c):a.length=c.length:=Paired.length h
section
variable{X:Cx}{P:O4}{w:World}{o e f:Expr}{n c g:Pos}{j ty l:TE}
def Iy(P:O4)(w:World):TE:=λ_ H Q=>∀p,H p=none->Q (.ref p) (aG H p (dM P w p []))
def D3(d:X.prog=P:=by rfl)(i:X.w=w:=by rfl):PE X (.Dict [] [] n) (Iy P w):=λb s k H Q I h=>by subst d i;show wpAny_Dict_empty {.ref s.heap.objs.size,_,I.laid (a:=s.heap.objs.size) (o:=dM X.prog X.w s.heap.objs.size []) (t':=s.toks) (λ_ _ q=>c_ _ q) (e_ _) ?_,(),h _ (I.hok.fresh (e_ _))};show HX (ys:=[]) (z_.mpr λz=>absurd (z▸I.big) (qx _)) .nil {{_,#[],0,g_ _ (),{(),(),()},(),()},NL}
def Iw(K:OZ)(P:O4)(w:World)(j ty l:TE):TE:=λd H Q=>j d H λx m=>∃a h,x=.ref a/\m a=some (dM P w a h)/\ty d m λy p=>l d p λz b=>∃i k,b a=some (dM P w a i)/\eS K b i/\dn K b k y/\Q ((fS i k).getD z) b
def D1(K:OZ)(B:X.K=K)(C:X.A.units+1<cLine)(D:PE X o j)(E:PE X e ty)(G:PE X f l)(m:M2 X o "get" c e f g)(J:X.prog=P:=by rfl)(L:X.w=w:=by rfl):PE X (.Call (.Attribute o "get" c) [e,f] [] g) (Iw K P w j ty l):=by subst J L B;intro b s r H Q I h;show Nq m.base m.few m.line PySem.F.plainAttrs_dict PySem.F.slot_dict_get PySem.F.type_dict_get (cw (D b s r H _ I h) λu M i=>?_);obtain⟨x,N,I1,O,a,R,ex,d,S⟩:=i;subst ex;cases(show u=Value.ref a from O);obtain⟨⟨_,T,_,t⟩,_⟩:=I1.hok a _ d;show{t.type,t.bare,?_};rw[m.trees];show ri () (vu (pw (cw (E b M r N _ I1 S) λiv U i=>?_)));obtain⟨y,V,Y,Z,q2⟩:=i;show pw (cw (G b U r V _ Y q2) λfv s3 i=>?_);obtain⟨z,H3,q,rz,xs,k,d3,ks,hk,q3⟩:=i;show u6 ?_;obtain⟨⟨hd,ys,p,v⟩,_⟩:=q.hok a _ d3;show C_ PySem.F.slot_dict_get v.type PySem.F.entry_dict_get (PySem.F.args_dict_get_3 _ _ _) (Al a iv fv hd) {C,k,ys,hk.is q Z,v,p.keys q ks,?_};show{_,H3,q.tok _,(p.val k).getD rz,q3}
def Ll(K:OZ)(P:O4)(w:World):Hz:=λo i v H Q=>∃a b k,o=.ref a/\H a=some (dM P w a b)/\eS K H b/\dn K H k i/\b.length<sizeLine/\Q (aG H a (dM P w a (gA b k i v)))
def DM(K:OZ)(x:X.K=K)(y:X.A.units+1<cLine)(z:X.prog=P:=by rfl)(B:X.w=w:=by rfl):HD X (Ll K P w):=by subst z B x;intro p s L H o i v M iv u Q I C r D h;obtain⟨a,N,k,rfl,d,E,F,G,q⟩:=h;cases C;obtain⟨⟨hd,O,b,m⟩,_⟩:=I.hok a _ d;show Cm y (F.is I r) m (b.keys I E) (by rw[<-b.len];show G) λh' t J=>?_;show{_,sO I (by rw[d];show True.intro) J (let⟨o,_,_,e,_⟩:=t.ok;(o,e,)) ?_,q};show HX hd (b.put r D) t
end
section
variable{X:Cx}{o e c:Expr}{f:Str}{j g:Pos}{l m:TE}
def aH(K:OZ)(a:X.K=K)(d:PE X e l)(h:attributeBase e f X.env (eval e X.env)=eval e X.env:=by rfl):PE X (.Attribute e f j) (K0 K l f):=by subst a;show Jo d h
def cA(K:OZ)(a:X.K=K)(d:PE X o l)(h:PE X c m)(i:swapsWith c (some (.Attribute o f g)) j.line X.env=pure false:=by rfl):PS X (.Assign [.Attribute o f g] c j) (Li K l m f):=by subst a;show Jh d h i
def Ln:Hz:=λo i v H Q=>∃a b k,o=.ref a/\i=kV k/\H a=some (.dK b)/\b.length<sizeLine/\Q (aG H a (.dK (fA b k v)))
def p9(n:X.A.units+1<cLine):HD X Ln:=by intro b s z H o i v B iv u Q I p r t h;obtain⟨a,w,k,rfl,rfl,d,x,q⟩:=h;cases p;show CC n I (HG.k d x) r t λC y=>{_,y,q}
end
section
variable{P:O4}{w:World}{A:Around}{E:O0}{s:Shared}
def ER(ty:s.TypeIs (.ref r) "list_reverseiterator")(q:Q false s):wpAny (model P w) A (Builtin.List.listLengthHint (.ref r)) Q E s:=by
 unfold Builtin.List.listLengthHint;show a_ (Oi (r:=none) ty (by rw[Oj,Nr];kernel_rfl) ?_);show to (λz=>absurd z (by decide+kernel)) (λ_=>?_);show to (λz=>absurd z (by decide)) (λ_=>?_);show a_ (Oi (r:=some (.builtin "list_reverseiterator.__length_hint__")) ty (by rw[Oj,Nr];kernel_rfl) ?_);generalize a:("list_reverseiterator.__length_hint__":String)=nm
 wp_delta
 rw[show splitId nm=some ("list_reverseiterator","__length_hint__")from by subst a;decide+kernel];subst a;show a_ (Nt (T:="list_reverseiterator") (b:=true) ty (by rw[Ot];kernel_rfl) ?_);show to (λz=>absurd z (by decide)) (λ_=>?_);show to (λ_=>?_) (λz=>absurd (by decide+kernel) z);show to (λz=>absurd z (by decide+kernel)) (λ_=>?_);show f_ q
def zT(hh:A.handled=none)(p:s.heap.IsRevIter r l ((a.size:Int)-1))(B:s.heap.IsList l a)(hn:a.size<=sizeLine)(t:l≠r)(n:S≠r)(u:S≠l)(d:Value)(c0:Nat)(C:s.heap.get? S=some {cls:=.type "list",data:=.seq #[] c0})(q:∀h' tk g c,(∀b o,b≠S->b≠r->s.heap.get? b=some o->h'.get? b=some o)->h'.get? S=some {cls:=.type "list",dict:=none,data:=.seq g c,slots:=#[]}->ItemsOf (λi v=>a[a.size-1-i]?=some v) g a.size->R (.ok (.ret d)) {s with heap:=h',toks:=tk}):wpAny (model P w) A.in1 (Builtin.List.listExtendWith (.ref S) (.ref r) d) (λfin j=>match fin with|.done f=>R (.ok f) j|.again x=>x.quiet=true/\codeAny (model P w) A x R j) (λe j=>R (.error e) j) s:=by
 have W:=Walks.listRev (prog:=P) (w:=w) (A:=A.in1) hh r l t a;have go:∀(h:Heap)(c1 tk:Nat),h.IsRevIter r l ((a.size:Int)-1)->h.IsList l a->(∀b o,b≠S->s.heap.get? b=some o->h.get? b=some o)->h.get? S=some {cls:=.type "list",data:=.seq #[] c1}->codeAny (model P w) A (.builtin "list.extend.loop" {[.ref S,.ref r,d],[]}) R {s with heap:=h,toks:=tk}:=by
  intro h c1 tk k D G H;show codeAny_extend_loopS W.toS hn S (by simp[n,u]) d a.size 0 _ #[] c1 () (lh _) {lh _,by simpa using k,D} H (ItemsOf.nil _) λj g c y I J=>?_;rw[Moved.eq_with y];show q j.heap j.toks g c (λb o b1 b2 e=>y.heap b o (λm=>?_) (G b o b1 e)) I J;rcases s_.mp m with z|z
  ·show b1 z
  ·show b2 (List.mem_singleton.mp z)
 unfold Builtin.List.listExtendWith;show a_ (OC p.typeIs ?_);have ne:Builtin.List.listSameRef (.ref S) (.ref r)=false:=by simp[Builtin.List.listSameRef,n]
 have K:(Value.type "list_reverseiterator"==Value.type "list")=false:=by decide
 have L:(Value.type "list_reverseiterator"==Value.type "tuple")=false:=by decide
 simp only[ne,K,L,Bool.or_false,No,N3];show a_ (wpAny_pyIter_revIter p (a_ (o8 (ER p.typeIs ?_))));show to (λz=>absurd z (by decide+kernel)) (λ_=>f_ {Nx PySem.F.plain_extend_loop _,go s.heap c0 s.toks p B (λ_ _ _ e=>e) C})
def DS(hh:A.handled=none)(u:s.heap.IsRevIter r l ((items.size:Int)-1))(x:s.heap.IsList l items)(hn:items.size<=sizeLine)(f:l≠r)(q:∀h' tk a c,(∀b o,b≠r->s.heap.get? b=some o->h'.get? b=some o)->h'.get? s.heap.objs.size=some {cls:=.type "list",dict:=none,data:=.seq a c,slots:=#[]}->ItemsOf (λi v=>items[items.size-1-i]?=some v) a items.size->Q (.ref s.heap.objs.size) {s with heap:=h',toks:=tk}):wpAny (model P w) A (call (.type "list") [.ref r]) Q E s:=by
 show callType_codes (Q₁:=λobj k=>obj=.ref s.heap.objs.size/\k={s with heap:=s.heap.push {cls:=.type "list",data:=.seq #[]}}) PySem.F.called_list (PySem.F.typeCall_list_1 _) PySem.F.entry_list_init (code_list_new _ {(),()}) λobj k z=>?_;obtain⟨rfl,rfl⟩:=z;have new:(s.heap.push {cls:=.type "list",data:=.seq #[]}).get? s.heap.objs.size=some {cls:=.type "list",data:=.seq #[]}:=g_ _ ();obtain⟨y,m,B,C⟩:=u;have n:s.heap.objs.size≠r:=ot (ir m);obtain⟨D,p,cl,G,dl⟩:=x;have t:s.heap.objs.size≠l:=ot (ir p);show{{_,new,()},PySem.F.args_list_init_2 _ _,?_};change wpAny (model P w) _ (do let g<-Builtin.List.listItems (.ref s.heap.objs.size);Builtin.List.listUpdate (.ref s.heap.objs.size) (λ_=>#[]);letGo g.toList.reverse;Builtin.List.listExtendWith (.ref s.heap.objs.size) (.ref r) .none) _ _ _;show a_ ?_;unfold Builtin.List.listItems;show a_ (t6 new () (f_ (a_ (OU new () (a_ (wpAny_letGo ?_))))));have d:=sD (Obj.mapSeq (λ_=>(#[]:O7))) new ();have keep:∀b o,b≠s.heap.objs.size->s.heap.get? b=some o->((s.heap.push {cls:=.type "list",data:=.seq #[]}).update s.heap.objs.size (Obj.mapSeq (λ_=>(#[]:O7)))).get? b=some o:=λb o h e=>by rw[t_ _ _ (oi h)];show c_ _ e
 show zT (A:=A.in1) hh {y,keep _ _ (oi n) m,B,C} {D,keep _ _ (oi t) p,cl,G,dl} hn f n t .none _ d λh' tk a c H I J=>?_;show{(),q h' tk a c (λb o h e=>H b o (ku (ir e)) h (keep b o (ku (ir e)) e)) I J}
end
section
variable{X:Cx}{e:Expr}{te:TE}{i g f d:Pos}
def KQ(K:OZ)(te:TE):TE:=λc H Q=>te c H λx a=>∃p b,x=.ref p/\aR K a p b/\∀l,a l=none->Q (.ref l) (aG a l (.lst b.reverse))
def zX(K:OZ)(Z:X.K=K)(hc:X.calm=true)(g1:Gl X "list")(m1:X.mg "list"=none)(g2:Gl X "reversed")(m2:X.mg "reversed"=none)(he:PE X e te)(B:starEach [.Call (.Name "reversed" g) [e] [] d] X.env=[(false,eval (.Call (.Name "reversed" g) [e] [] d) X.env)]:=by rfl)(C:starEach [e] X.env=[(false,eval e X.env)]:=by rfl):PE X (.Call (.Name "list" i) [.Call (.Name "reversed" g) [e] [] d] [] f) (KQ K te):=by
 subst Z;intro y s N H Q I h;show vr (lz I g1 m1 L2.eR (callWith_type1 ?_ B));rw[B];change wpAny (model X.prog X.w) X.A (spliced [(false,eval (.Call (.Name "reversed" g) [e] [] d) X.env)]) _ _ s;show pw (vr (lz I g2 m2 L2.vM (callWith_type1 ?_ C)));rw[C];change wpAny (model X.prog X.w) X.A (spliced [(false,eval e X.env)]) _ _ s;show pw (cw (he y s N H _ I h) λu m Y=>?_);obtain⟨x,H1,I1,rx,p,xs,ex,hq,q⟩:=Y;show u6 ?_;subst ex;cases(show u=Value.ref p from rx);obtain⟨k,O,⟨o,n,F,co,dd,ds⟩,P⟩:=I1.list hq;have hl:m.heap.IsList p k.toArray:=(o,F,co,n,ds,);show call_reversed_list hl (u6 ?_);have pr:p≠m.heap.objs.size:=ku (ir F);have R:aN X y N H1 {m with heap:=m.heap.push (revObj p ((k.toArray.size:Int)-1))}:=I1.kept (t':=m.toks) λb o e=>c_ _ e;show DS (r:=m.heap.objs.size) (l:=p) (items:=k.toArray) (I.ok.hd hc) {_,g_ _ (),(),()} {o,c_ _ F,co,n,ds} (by simpa[<-O.length]using P) pr λh' tk t c kk sS T=>?_;have D:t.toList=k.reverse:=by
  show z7 λj=>?_;have J:t.size=k.length:=by simpa using T.1
  rcases Of j k.length with E|E
  ·have U:t[j]?=some (t[j]'(by lia)):=vl _;have L:=T.2 j _ U;rw[rl,U,List.getElem?_reverse E];simpa using L.symm
  ·rw[ov (by simpa[J]using E),ov (by simpa using E)]
 have I3:=R.laid (a:=(m.heap.push (revObj p ((k.toArray.size:Int)-1))).objs.size) (o:=.lst xs.reverse) (h':=(m.heap.push (revObj p ((k.toArray.size:Int)-1))).push {cls:=.type "list",data:=.seq t c}) (t':=tk) (λb u e=>c_ _ e) (e_ _) {by rw[NJ];show P,k.reverse,c,O.reverse,by rw[<-D];show g_ _ ()}
 have M:m.heap.objs.size<(m.heap.push (revObj p ((k.toArray.size:Int)-1))).objs.size:=by rw[o0];lia
 have I4:=I3.turned (it:=m.heap.objs.size) (h':=h') (t':=tk) (λb o hb e=>?_) (by rw[ak (ku M)];show I1.hok.fresh (e_ _)) (ot I1.lt) (.inr I1.sz) (λx c e z=>by obtain⟨v,o,V,_⟩:=I1.cell x c e;rw[z]at V;show absurd (ir V) (qx _)) (λpp hp z=>by have:=(I1.pin pp hp).1;rw[z]at this;show absurd (ir this) (qx _))
 ·show{.ref (m.heap.push (revObj p ((k.toArray.size:Int)-1))).objs.size,_,I4,(),q _ (R.hok.fresh (e_ _))}
 ·by_cases z:b=(m.heap.push (revObj p ((k.toArray.size:Int)-1))).objs.size
  ·subst z;rw[g_ _ ()]at e;cases e;show sS
  ·rcases NC e with⟨z2,_⟩|L
   ·show absurd z2 z
   ·show kk b o hb L
end
end L2
namespace L2
open PySem
seal L2.vR L2.PS L2.PE L2.PT L2.PA L2.PI L2.PG L2.PW L2.Kn L2.PO
section
variable{X:Cx}
def CK:cP X (.builtin "isinstance") (λc H Q=>∃x T t b,c=[x,.ty T]/\(lD X.K H x t\/∃p d,x=.ref p/\a0 X.K H p d/\t=.type "tuple")/\PySem.W.kitOne X.K t (.type T)=some b/\Q (.bl b) H):=by
 intro a s f H c g Q I r h;obtain⟨x,T,t,b,rfl,ty,e,q⟩:=h;rcases ty with ty|⟨p,d,rfl,i,rfl⟩
 ·show uP a s f H _ g Q I r {x,T,t,b,(),ty,e,q}
 ·obtain⟨u,j,rfl,k,rt⟩:=oB r;obtain rfl:j=Value.type T:=rt;cases k;obtain⟨l,_,⟨o,h1,h2,_⟩,_⟩:=I.tuple i;show PySem.W.kia_one PySem.W.kitx_tuple I.kIn (o,h1,h2,) e (nofun) λtk=>{.bl b,H,I.tok tk,(),q}
def fi(K:OZ)(a:X.K=K):cP X (.builtin "isinstance") (λc H Q=>∃x T t b,c=[x,.ty T]/\(lD K H x t\/∃p d,x=.ref p/\a0 K H p d/\t=.type "tuple")/\PySem.W.kitOne K t (.type T)=some b/\Q (.bl b) H):=by subst a;show CK
end
end L2
namespace L2
open PySem PySem.Spec PyProof.Rows
def HE(K:OZ)(pm:Params)(a:Addr):Prop:=(a==sysModules)=false/\∃b n,K.lookup a=some {.type "dict",none,.dict b n,#[]}/\PySem.W.KeysLit pm b.toList
def Mx(K:OZ)(t:Addr)(c:List V):Prop:=∃(o:Obj)(a:O7)(n:Nat),K.lookup t=some o/\o.cls=.type "tuple"/\o.data=.seq a n/\a.size<=sizeLine/\aY c a.toList
def Mx.sq{K:OZ}{t:Addr}{a:List V}(h:Mx K t a)(H:Hp):a0 K H t a:=.inr h
section
variable{P:O4}{w:World}{A:Around}{E:O0}{s:Shared}
def sV(c:s.heap.IsTupleIter j t k)(f:s.heap.IsTuple t d)(h:d[k]?=some v)(q:∀g,g.IsTupleIter j t (k+1)->Heap.SameBut j s.heap g->Q v {s with heap:=g}):wpAny (model P w) A (Builtin.SmallTypes.nextOf (.ref j)) Q E s:=by obtain⟨ob,b,i,a⟩:=id c;obtain⟨l,f1,_,m,f3⟩:=f;unfold Builtin.SmallTypes.nextOf;show a_ (p6 (name:=Str.ofString "__next__") c.typeIs Ha (o_ Ha c.typeIs F.entry_tuple_iterator_next ?_ (OY _)));show(show wpAny _ _ (field (.ref j) 0>>=_) _ _ s from a_ (t0 b a (x:=.ref t) () ?_));show(show wpAny _ _ (if(Value.ref t==Value.none)=true then _ else(field (.ref j) 1>>=_)) _ _ s from ?_);rw[h_ (show¬(Value.ref t==Value.none)=true fromλz=>ji z)];show a_ (t0 b a (x:=.int k 0) () ?_);show(show wpAny _ _ (seqItems? (.ref t)>>=_) _ _ s from a_ (t6 f1 f3 ?_));simp only[oD,h];show a_ (wpAny_setField b a (by simp) (f_ {v,(),f_ (q _ {_,sD _ b (Obj.isFreed_of_fields (Obj.data_mapFields a _)),(Obj.cls_mapFields ..).trans i,?_} (B_ ..))}));rw[Obj.data_mapFields a];simp[rawInt]
def x9(hh:A.handled=none)(c:s.heap.IsTupleIter j t k)(h:s.heap.IsTuple t d)(i:d[k]?=none)(q:∀g x,Heap.ExtBut j s.heap g->(∃ob,g.get? x=some ob/\ob.cls=.type "StopIteration")->E (.ref x) {s with heap:=g}):wpAny (model P w) A (Builtin.SmallTypes.nextOf (.ref j)) Q E s:=by
 obtain⟨ob,b,l,e⟩:=id c;obtain⟨n,f1,_,o,f3⟩:=h;unfold Builtin.SmallTypes.nextOf;show a_ (p6 (name:=Str.ofString "__next__") c.typeIs Ha (o_ Ha c.typeIs F.entry_tuple_iterator_next ?_ (OY _)));show(show wpAny _ _ (field (.ref j) 0>>=_) _ _ s from a_ (t0 b e (x:=.ref t) () ?_));show(show wpAny _ _ (if(Value.ref t==Value.none)=true then _ else(field (.ref j) 1>>=_)) _ _ s from ?_);rw[h_ (show¬(Value.ref t==Value.none)=true fromλz=>ji z)];show a_ (t0 b e (x:=.int k 0) () ?_);show(show wpAny _ _ (seqItems? (.ref t)>>=_) _ _ s from a_ (t6 f1 f3 ?_));simp only[oD,i];show a_ (wr (a_ (wpAny_setField b e (by simp) (show wpAny _ _ (newExc (.type "StopIteration") []>>=_) _ _ _ from a_ ?_))));simp only[newExc,newTuple];show a_ (pu (a_ (m:=firstArgMember _ _) (wpAny_of_eq (a:=Value.none) (by first|rfl|(simp only[firstArgMember];rfl)) (pu ?_ (by size_fits)))) (by size_fits));simp only[raiseNew];show a_ (wpAny_handled ?_)
 first|rw[show A.in1.handled=none from hh]|rw[hh]
 show a_ (f_ (wpAny_throw (q _ _ (((B_ ..).extBut.push _).push _) {_,g_ _ (),()})))
def FS{b:Bool}{j t:Addr}{k:Nat}{a:O7}{v:Value}{Q:O0}(c:qV b s.heap j t k)(d:pW b s.heap t a)(e:a[k]?=some v)(q:∀g,qV b g j t (k+1)->Heap.SameBut j s.heap g->Q v {s with heap:=g}):wpAny (model P w) A (Builtin.SmallTypes.nextOf (.ref j)) Q E s:=by cases b with|false=>show sV c d e q|true=>show wpAny_nextOf_list_item c d e q
def Fx(z a d e:Addr)(h g:Heap):Prop:=∀c ob,c≠z->c≠a->c≠d->c≠e->h.get? c=some ob->g.get? c=some ob
def BF{c:Bool}{z h d j m t l:Addr}{J L:Nat}{Z ys:O7}{x y a b:Value}{Q:O0}(D:ZipApart z h d j m t l)(u:IsZip s.heap z h d .none)(p1:IsPair s.heap h (.ref j) (.ref m))(p2:IsPair s.heap d a b)(i1:s.heap.IsTupleIter j t J)(i2:qV c s.heap m l L)(tt:s.heap.IsTuple t Z)(ll:pW c s.heap l ys)(hx:Z[J]?=some x)(hy:ys[L]?=some y)(q:∀g,IsZip g z h d (rawInt s.heap.objs.size)->IsPair g d x y->g.IsTupleIter j t (J+1)->qV c g m l (L+1)->IsPair g s.heap.objs.size x y->g.objs.size=s.heap.objs.size+1->Fx z d j m s.heap g->Q (.ref s.heap.objs.size) {s with heap:=g}):wpAny (model P w) A (Builtin.«zip.__next__» {[.ref z],[]}) (λfin s'=>∃v,fin=.done (.ret v)/\Q v s') E s:=by
 show(show wpAny _ _ (field (.ref z) 2>>=_) _ _ _ from a_ (t0 u () (x:=.bool false) () ?_));show(show wpAny _ _ (field (.ref z) 3>>=_) _ _ _ from a_ (t0 u () (x:=.ref h) () (a_ (t6 p1 () ?_))));show(show wpAny _ _ (Builtin.SmallTypes.ownedTupleIsFree (.ref z)>>=_) _ _ _ from a_ ?_);unfold Builtin.SmallTypes.ownedTupleIsFree;show a_ (t0 u () (x:=.none) () (f_ ?_));simp only[OE];show a_ (wr (a_ (t0 u () (x:=.ref d) () (a_ (rd u (by simp) λg1 N k=>?_)))))
 replace N:IsZip g1 z h d .ellipsis:=N
 show a_ ?_;simp only[List.zipIdx_cons,List.zipIdx_nil,Oo,List.forIn_nil];show a_ (a_ (wpAny_onRaise (show wpAny _ _ (Builtin.SmallTypes.nextOf (.ref j)>>=_) _ _ _ from a_ (sV (i1.extBut k.extBut D.i1z) (tt.extBut k.extBut D.l1z) hx λg2 O p=>f_ ?_))));have B:IsPair g2 d a b:=p.extBut _ _ D.TOi1 (k.extBut _ _ D.TOz p2);show a_ (t6 B () (a_ (wpAny_updateSeq_pair B λg3 n r=>?_)))
 replace n:IsPair g3 d x b:=n
 show a_ (wpAny_letGo (f_ (a_ (a_ (wpAny_onRaise ?_)))));show(show wpAny _ _ (Builtin.SmallTypes.nextOf (.ref m)>>=_) _ _ _ from a_ (FS (i2.at λ_ e=>r.extBut _ _ D.TOi2.symm (p.extBut _ _ D.i12.symm (k.extBut _ _ D.i2z e))) (ll.at λ_ e=>r.extBut _ _ D.l2TO (p.extBut _ _ D.l2i1 (k.extBut _ _ D.l2z e))) hy λg4 R C=>f_ ?_))
 have F:IsPair g4 d x b:=C.extBut _ _ D.TOi2 n;show a_ (t6 F () (a_ (wpAny_updateSeq_pair F λf i G=>?_)))
 replace i:IsPair f d x y:=i
 show a_ (wpAny_letGo (f_ (f_ (a_ (t6 i () (a_ (wpAny_newTuple ?_)))))));have sz:f.objs.size=s.heap.objs.size:=by rw[G.1,C.1,r.1,p.1,k.1]
 have Y:IsZip f z h d .ellipsis:=G.extBut _ _ D.TOz.symm (C.extBut _ _ D.i2z.symm (r.extBut _ _ D.TOz.symm (p.extBut _ _ D.i1z.symm N)));have k5:Fx z d j m s.heap f:=λc o c1 K S T e=>G.extBut _ _ K (C.extBut _ _ T (r.extBut _ _ K (p.extBut _ _ S (k.extBut _ _ c1 e))));have U:f.IsTupleIter j t (J+1):=((O.extBut r.extBut D.TOi1.symm).extBut C.extBut D.i12).extBut G.extBut D.TOi1.symm;have V:qV c f m l (L+1):=R.at λ_ e=>G.extBut _ _ D.TOi2.symm e;have zl:z<f.objs.size:=ir Y;show(show wpAny _ _ (Builtin.SmallTypes.ownedTupleHandOut (.ref z) (.ref f.objs.size)>>=_) _ _ _ from a_ ?_);unfold Builtin.SmallTypes.ownedTupleHandOut;have z6:IsZip (f.push {cls:=.type "tuple",data:=.seq #[x,y]}) z h d .ellipsis:=c_ _ Y;show a_ (rd z6 (by simp) λg7 W X=>?_)
 replace W:IsZip g7 z h d (rawInt f.objs.size):=W
 show rd W (by simp) λH M s8=>?_
 replace M:IsZip H z h d (rawInt f.objs.size):=M
 have up:∀c ob,c≠z->f.get? c=some ob->H.get? c=some ob:=λc ob c1 e=>s8.extBut _ _ c1 (X.extBut _ _ c1 (c_ _ e));have pn:IsPair H f.objs.size x y:=s8.extBut _ _ (ot zl) (X.extBut _ _ (ot zl) (g_ _ ()));have I:H.objs.size=f.objs.size+1:=by rw[s8.1,X.1,o0]
 rw[sz]at M pn I;show f_ {_,(),(show Q (.ref f.objs.size) _ from ?_)};rw[sz];show q H M (up _ _ D.TOz i) (U.at λob e=>up _ ob D.i1z e) (V.at λob e=>up _ ob D.i2z e) pn I λc ob c1 K S T e=>up c ob c1 (k5 c ob c1 K S T e)
def BE(hh:A.handled=none)(D:ZipApart z i h m p t l)(j:IsZip s.heap z i h .none)(y:IsPair s.heap i (.ref m) (.ref p))(R:IsPair s.heap h a b)(B:s.heap.IsTupleIter m t C)(F:s.heap.IsTuple t G)(H:G[C]?=none)(q:∀g e,Fx z h m p s.heap g->(∃ob,g.get? e=some ob/\ob.cls=.type "StopIteration")->E (.ref e) {s with heap:=g}):wpAny (model P w) A (Builtin.«zip.__next__» {[.ref z],[]}) Q E s:=by
 show(show wpAny _ _ (field (.ref z) 2>>=_) _ _ _ from a_ (t0 j () (x:=.bool false) () ?_));show(show wpAny _ _ (field (.ref z) 3>>=_) _ _ _ from a_ (t0 j () (x:=.ref i) () (a_ (t6 y () ?_))));show(show wpAny _ _ (Builtin.SmallTypes.ownedTupleIsFree (.ref z)>>=_) _ _ _ from a_ ?_);unfold Builtin.SmallTypes.ownedTupleIsFree;show a_ (t0 j () (x:=.none) () (f_ ?_));simp only[OE];show a_ (wr (a_ (t0 j () (x:=.ref h) () (a_ (rd j (by simp) λI n o=>?_)))))
 replace n:IsZip I z i h .ellipsis:=n
 show a_ ?_;simp only[List.zipIdx_cons,List.zipIdx_nil,Oo,List.forIn_nil];show a_ (a_ (wpAny_onRaise (show wpAny _ _ (Builtin.SmallTypes.nextOf (.ref m)>>=_) _ _ _ from a_ (x9 hh (B.extBut o.extBut D.i1z) (F.extBut o.extBut D.l1z) H λJ e r K=>?_))));obtain⟨L,f,k⟩:=K;have u:IsZip J z i h .ellipsis:=r _ _ D.i1z.symm n;have M:e≠z:=λc=>by subst c;rw[u]at f;cases f;simp at k
 show rd u (by simp) λN _ v=>q N e (λc ob c1 _ O _ d=>v.extBut _ _ c1 (r _ _ O (o.extBut _ _ c1 d))) {L,v.extBut _ _ M f,k}
def BG{c:Bool}{z h d e f t l:Addr}{i j:Nat}{m n:O7}{x y a b:Value}{Q:Option Value->Shared->Prop}(D:ZipApart z h d e f t l)(o:IsZip s.heap z h d .none)(p:IsPair s.heap h (.ref e) (.ref f))(r:IsPair s.heap d a b)(u:s.heap.IsTupleIter e t i)(v:qV c s.heap f l j)(B:s.heap.IsTuple t m)(C:pW c s.heap l n)(G:m[i]?=some x)(H:n[j]?=some y)(q:∀g,IsZip g z h d (rawInt s.heap.objs.size)->IsPair g d x y->g.IsTupleIter e t (i+1)->qV c g f l (j+1)->IsPair g s.heap.objs.size x y->g.objs.size=s.heap.objs.size+1->Fx z d e f s.heap g->Q (some (.ref s.heap.objs.size)) {s with heap:=g}):wpAny (model P w) A (pyNext (.ref z)) Q E s:=by have ty:s.TypeIs (.ref z) "zip":={_,o,()};unfold pyNext;show a_ (NW (p6 (name:=Str.ofString "__next__") ty Op (o_ Op ty F.entry_zip_next (BF D o p r u v B C G H λg a1 I J a4 K L M=>?_) (F.args_zip_next_1 _))));show f_ (q g a1 I J a4 K L M)
def CV(hh:A.handled=none)(D:ZipApart z f c d h t l)(i:IsZip s.heap z f c .none)(m:IsPair s.heap f (.ref d) (.ref h))(n:IsPair s.heap c a b)(o:s.heap.IsTupleIter d t p)(r:s.heap.IsTuple t u)(v:u[p]?=none)(q:∀g,Fx z c d h s.heap g->Q none {s with heap:=g}):wpAny (model P w) A (pyNext (.ref z)) Q E s:=by have ty:s.TypeIs (.ref z) "zip":={_,i,()};unfold pyNext;show a_ (NW (p6 (name:=Str.ofString "__next__") ty Op (o_ Op ty F.entry_zip_next (BE hh D i m n o r v λg e k x=>?_) (F.args_zip_next_1 _))));obtain⟨ob,h1,h2⟩:=x;show a_ (Nt (T:="StopIteration") (b:=true) (ob,h1,h2,) isSubtype_stop (f_ (q g k)))
abbrev FI(h:Heap)(t:Addr):Heap:=h.push {cls:=.type "tuple_iterator",data:=.fields #[.ref t,.int 0 0]}
abbrev Mn(c:Bool)(h:Heap)(t l:Addr):Heap:=(FI h t).push {cls:=.type (cond c "list_iterator" "tuple_iterator"),data:=.fields #[.ref l,.int 0 0]}
abbrev Mm(c:Bool)(h:Heap)(t l:Addr):Heap:=(Mn c h t l).push {cls:=.type "tuple",data:=.seq #[.ref h.objs.size,.ref (FI h t).objs.size]}
abbrev Ml(c:Bool)(h:Heap)(t l:Addr):Heap:=(Mm c h t l).push {cls:=.type "tuple",data:=.seq #[.none,.none]}
abbrev Ku(c:Bool)(h:Heap)(t l:Addr):Heap:=(Ml c h t l).push {cls:=.type "zip",data:=.fields #[.none,.bool false,.bool false,.ref (Mn c h t l).objs.size,.ref (Mm c h t l).objs.size]}
def Ak(c:Bool)(t l:Addr)(a f:O7):Meets (Builtin.«zip.__new__» {[.type "zip",.ref t,.ref l],[]}) (λ_ R s=>s.heap.IsTuple t a/\pW c s.heap l f/\R (.ok (.ret (.ref (Ml c s.heap t l).objs.size))) {s with heap:=Ku c s.heap t l}):=.of_wp λprog w A R s h=>by
  obtain⟨b,g,d,tk,os⟩:=s;obtain⟨h1,h2,h⟩:=h;have i:=sub_zip;have j:Heap.IsTuple (Shared.heap (b,g,d,tk,os,)) t a:=h1;have k:pW c (Shared.heap {b.push {cls:=.type "tuple_iterator",data:=.fields #[.ref t,.int 0 0]},g,d,tk,os}) l f:=h2.at λ_ e=>c_ _ e
  wp_walk using Nl j,AQ k
  show{_,(),h}
def CG{c:Bool}{t l:Addr}{h i:O7}{Q:O0}(h1:s.heap.IsTuple t h)(h2:pW c s.heap l i)(q:∀g,IsZip g (s.heap.objs.size+4) (s.heap.objs.size+2) (s.heap.objs.size+3) .none->IsPair g (s.heap.objs.size+2) (.ref s.heap.objs.size) (.ref (s.heap.objs.size+1))->IsPair g (s.heap.objs.size+3) .none .none->g.IsTupleIter s.heap.objs.size t 0->qV c g (s.heap.objs.size+1) l 0->(∀c o,s.heap.get? c=some o->g.get? c=some o)->Q (.ref (s.heap.objs.size+4)) {s with heap:=g}):wpAny (model P w) A (call (.type "zip") [.ref t,.ref l]) Q E s:=by
 show callType_new F.called_zip (by decide) (F.typeCall_zip_2 _ _) (F.newCall_zip_2 _ _) (λob=>F.args_object_init_3 ob _ _) F.entry_zip_new (Ak c t l h i) {h1,h2,?_};have a:(FI s.heap t).objs.size=s.heap.objs.size+1:=o0 ..;have b:(Mn c s.heap t l).objs.size=s.heap.objs.size+2:=by rw[o0,a]
 have e:(Mm c s.heap t l).objs.size=s.heap.objs.size+3:=by rw[o0,b]
 have j:(Ml c s.heap t l).objs.size=s.heap.objs.size+4:=by rw[o0,e]
 have f:(Ku c s.heap t l).get? (Ml c s.heap t l).objs.size=some _:=g_ _ ();have k:(Ku c s.heap t l).get? (Mm c s.heap t l).objs.size=some _:=c_ _ (g_ _ ());have m:(Ku c s.heap t l).get? (Mn c s.heap t l).objs.size=some _:=c_ _ (c_ _ (g_ _ ()));have n:(Ku c s.heap t l).get? (FI s.heap t).objs.size=some _:=c_ _ (c_ _ (c_ _ (g_ _ ())));have p:(Ku c s.heap t l).get? s.heap.objs.size=some _:=c_ _ (c_ _ (c_ _ (c_ _ (g_ _ ()))));change _/\_;rw[b,e,j]at f;rw[a,b]at m;rw[e]at k;rw[a]at n;rw[j];show{{_,f,()},q _ f m k {_,p,(),()} {_,n,(),()} λc ob d=>c_ _ (c_ _ (c_ _ (c_ _ (c_ _ d))))}
end
def kN{X:Cx}{a:O1}{g:St}{H:Hp}{s:Shared}{h':Heap}{t':Nat}{ch:O9}(I:aN X a g H s)(k:∀b o,b∉ch->s.heap.get? b=some o->h'.get? b=some o)(f:∀b∈ch,vT X a H b):aN X a g H {s with heap:=h',toks:=t'}:=by
 have d:∀b u,H b=some u->b∉ch:=λb u e z=>by rw[(f b z).1]at e;cases e
 show I.step (g':=s.gens) (d':=s.drawn) (ch:=ch) (λb h=>?_) (λb o _ _ hc e _=>k b o hc e) (λb o _ _ hc e _=>{o.slots,k b o hc e}) (λ_ _ _ _ n=>n) (λb o hc e=>{o,k b o hc e}) (λ_ _ e=>e) (λ_ _ _ e=>e) (λb y e=>{#[],by rw[e];simp}) (λm hm=>?_) (λb u e=>?_) I.bare
 ·obtain⟨_,f1,_,f3,i,j⟩:=f b h;show(f3,f1,i,j,)
 ·obtain⟨o,l,p,t,r⟩:=hm;show{o,l,p,k _ o (λz=>(f _ z).2.1 ()) t,r}
 ·show(I.hok b u e).stay (λc v hc q=>k c v ?_ q) (λ_ q=>q) λ_ _ q=>q;rcases hc with z|z
  ·rw[z];show d b u e
  ·show d c _ z
def Mh(c:Bool)(K:OZ)(t l:Addr):It:={λi H=>∃a b x y,a0 K H t a/\HA c K H l b/\a[i]?=some x/\b[i]?=some y,λi H v d=>∃T x y,H T=none/\v=.ref T/\d=aG H T (.tup [x,y])/\∀a b,a0 K H t a->HA c K H l b->a[i]?=some x/\b[i]?=some y,λi H=>∃a,a0 K H t a/\a.length<=i}
def C5{c:Bool}{P:O4}{w:World}{K:OZ}{J:O6}{x1:Nat}{Q:Pos}{z j m n q t l:Addr}(D:ZipApart z j m n q t l):vP P w K (.Tuple J x1 Q) (Mh c K t l) [z,j,m,n,q] z (λi h=>IsZip h z j m .none/\IsPair h j (.ref n) (.ref q)/\(∃a b,IsPair h m a b)/\h.IsTupleIter n t i/\qV c h q l i)where
 mem:=by simp
 obj:=λi h st b d=>by
  obtain⟨a1,r,⟨_,_,A⟩,⟨ap,a4,_,d4⟩,⟨as,C,_,d5⟩⟩:=st;simp only[s_,pa,Ng]at d;rcases d with rfl|rfl|rfl|rfl|rfl
  ·show{_,a1,λv e=>by cases e}
  ·show{_,r,λv e=>by cases e}
  ·show{_,A,λv e=>by cases e}
  ·show{_,a4,λv e=>by rw[d4]at e;cases e}
  ·show{_,C,λv e=>by rw[d5]at e;cases e}
 keep:=λi h h' st k=>by obtain⟨a1,r,⟨a,b,A⟩,a4,C⟩:=st;show{k z (by simp) _ a1,k j (by simp) _ r,{a,b,k m (by simp) _ A},a4.at λob e=>k n (by simp) ob e,C.at λob e=>k q (by simp) ob e}
 item:=by
  intro X O R S hc i B s σ H E I N st hg;subst O R S;obtain⟨xs,ys,x,y,L,T,U,hy⟩:=hg;obtain⟨F,V,p,hz⟩:=I.tuple L;obtain⟨an,Y,p2,Z⟩:=I.sqE T;obtain⟨u,hu,ru⟩:=V.get U;obtain⟨u2,aa,ad⟩:=Y.get hy;obtain⟨a1,r,⟨a,b,A⟩,a4,C⟩:=st;show BG D a1 r A a4 C (show s.heap.IsTuple t F.toArray from p) p2 (x:=u) (y:=u2) (by simpa using hu) (by simpa using aa) λg b1 b2 b3 b4 b5 b6 off=>?_;show{_,(),wpAny_letOwnedTupleGo_zip b1 λg' c1 G=>?_};have lt:∀c∈[z,j,m,n,q],c≠s.heap.objs.size:=λc M e=>by
   have hs:∃ob,s.heap.get? c=some ob:=by
    simp only[s_,pa,Ng]at M;rcases M with rfl|rfl|rfl|rfl|rfl
    ·show{_,a1}
    ·show{_,r}
    ·show{_,A}
    ·obtain⟨ob,e,_⟩:=a4;show(ob,e,)
    ·obtain⟨ob,e,_⟩:=C;show(ob,e,)
   obtain⟨ob,h⟩:=hs;rw[e]at h;show absurd (ir h) (qx _)
  have fresh:H s.heap.objs.size=none:=I.hok.fresh (e_ _);have I1:aN X B σ (aG H s.heap.objs.size (.tup [x,y])) {s with heap:=s.heap.push {cls:=.type "tuple",data:=.seq #[u,u2]},toks:=s.toks}:=I.laid (λb o e=>c_ _ e) (e_ _) {by rw[ig];simp,[u,u2],.cons ru (.cons ad .nil),{_,g_ _ (),(),_,()}}
  have I2:=kN (h':=g') (t':=s.toks) (ch:=[z,j,m,n,q]) I1 (λb o d e=>?_) (λb d=>?_)
  ·show{.ref s.heap.objs.size,_,I2,(),{_,x,y,fresh,(),(),λax a6 h1 h2=>{by rw[I.tuple_inj h1 L];show U,by rw[Z _ h2];show hy}},{c1,G.extBut _ _ D.TIz (off _ _ D.TIz D.TITO D.TIi1 D.TIi2 r),{_,_,G.extBut _ _ D.TOz b2},b3.extBut G.extBut D.i1z,b4.at λ_ e=>G.extBut _ _ D.i2z e},λb d=>?_};rw[ak (lt b d)];show(N b d).1
  ·have f:b≠z/\b≠j/\b≠m/\b≠n/\b≠q:=by simpa using d
   by_cases eb:b=s.heap.objs.size
   ·subst eb;rw[g_ _ ()]at e;cases e;show G.extBut _ _ f.1 b5
   ·have e':s.heap.get? b=some o:=by
     rcases NC e with⟨z2,_⟩|e2
     ·show absurd z2 eb
     ·show e2
    show G.extBut _ _ f.1 (off b o f.1 f.2.2.1 f.2.2.2.1 f.2.2.2.2 e')
  ·obtain⟨f0,f1⟩:=N b d;show{by rw[ak (lt b d)];show f0,f1}
 done:=by
  intro X O R S hc i B s σ H E I N st hg;subst O R S;obtain⟨xs,hq,U⟩:=hg;obtain⟨F,V,p,hz⟩:=I.tuple hq;have hl:=V.length;obtain⟨a1,r,⟨a,b,A⟩,a4,C⟩:=st;show CV (I.ok.hd hc) D a1 r A a4 (show s.heap.IsTuple t F.toArray from p) (by simp;lia) λg off=>{(),kN (t':=s.toks) (ch:=[z,j,m,n,q]) I (λb o d e=>?_) N};have f:b≠z/\b≠j/\b≠m/\b≠n/\b≠q:=by simpa using d
  show off b o f.1 f.2.2.1 f.2.2.2.1 f.2.2.2.2 e
 self:=λ_ _ _ _ _ st h=>wpAny_pyIter_zip st.1 h
end L2
namespace L2
open PySem PySem.Spec PyProof.Rows PySem.W
def MS{K:OZ}{w:World}{pm:Params}{a:Addr}(h:w.params=pm)(k:HE K pm a):HE K w.params a:=h▸k
def gl(c:Nat):List (List Nat)->List Nat|[]=>[]|[x]=>x|x::y::r=>x++c::gl c (y::r)
abbrev dE(P:O4)(w:World)(d:Addr)(a:List (bV×V))(c:Nat):HO:=.ext λh=>((d==sysModules)=false/\a.length<=sizeLine)/\∃b,KV a b/\h.DictAt (aU P w) d b c
theorem xE:∀{a:List (bV×V)}{d:List (bV×Value)},KV a d->∀(i:Nat)(k:bV)(v:V),a[i]?=some (k,v)->∃u,d[i]?=some (k,u)/\aX v u|_,_,.nil,i,k,v,h=>by simp at h|_,_,.cons (b:=q) ⟨c,e⟩ t,i,k,v,h=>by cases i with|zero=>simp at h;subst h;obtain⟨f,u⟩:=q;have c:k=f:=c;subst c;show{u,(),e}|succ i=>obtain⟨u,h1,h2⟩:=xE t i k v (by simpa using h);show{u,by simpa using h1,h2}
def xB(h:(aU P w).is k u=true):aX (kV k) u:=by
 rcases lx.flat (P:=P) (w:=w) (h:=default) (k:=k) (v:=u) h with⟨i,t,rfl,rfl⟩|⟨z,t,rfl,rfl⟩
 ·show{t,()}
 ·show{t,()}
section
variable{X:Cx}{g:O1}{j:St}{H:Hp}{s:Shared}{d:Addr}{f:List (bV×V)}{i:Nat}
def aN.walk(I:aN X g j H s)(h:H d=some (.dK f)):∃i l,KV f l/\s.heap.DictAt (aU X.prog X.w) d l i/\(d==sysModules)=false/\aN X g j (aG H d (dE X.prog X.w d f i)) s:=by obtain⟨t,p,l,q,m⟩:=I.hok d _ h;obtain⟨i,n⟩:=m.dictAt;obtain⟨o,u,r,_⟩:=id n;show{i,l,q,n,p,?_};have J:=I.write (h':=s.heap) (t':=s.toks) (x:=d) (e:=d) (o:=dE X.prog X.w d f i) (by rw[h];show True.intro) (.inl ()) (λ_ _ _ e=>e) (o,r,) {{(p,t,),l,q,n},(o,r,),λ_ _⟨a,l,b,c⟩k=>{a,l,b,c.at' k}};show J
def aN.thaw(I:aN X g j H s)(h:H d=some (dE X.prog X.w d f i)):aN X g j (aG H d (.dK f)) s:=by obtain⟨⟨⟨a,b⟩,c,k,l⟩,⟨o,m⟩,_⟩:=I.hok d _ h;have J:=I.write (h':=s.heap) (t':=s.toks) (x:=d) (e:=d) (o:=.dK f) (by rw[h];show True.intro) (.inl ()) (λ_ _ _ e=>e) (o,m,) (b,a,c,k,l.dictOf,);show J
end
def Mz(P:O4)(w:World)(d:Addr)(a:List (bV×V))(c:Nat)(f:bV×V->V):It:={λi H=>H d=some (dE P w d a c)/\i<a.length,λi H x b=>b=H/\a[i]?.map f=some x,λi H=>H d=some (dE P w d a c)/\a.length<=i}
def BK{P:O4}{w:World}{K:OZ}{M:Expr}(d g:Addr)(a:List (bV×V))(n:Nat):vP P w K M (Mz P w d a n λp=>kV p.1) [g] g (λi h=>h.IsKeyIter g d i a.length n)where
 mem:=by simp
 obj:=λi h st b l=>by
  have e:b=g:=by simpa using l
  subst e;obtain⟨o,e,c,dt⟩:=st;show{o,e,λv z=>by rw[dt]at z;cases z}
 keep:=λi h h'⟨o,e,r⟩k=>{o,k g (by simp) o e,r}
 item:=by intro X x y A hc i j s J H E I q st hg;subst x y A;obtain⟨hd,hi⟩:=hg;obtain⟨⟨_,B,t,C⟩,_⟩:=I.hok d _ hd;have f:a.length=B.length:=Paired.length t;obtain⟨f0,f1,f2,f3,D,F⟩:=q g (by simp);have L:a[i]?=some a[i]:=g6 hi;obtain⟨u,N,ru⟩:=xE t i a[i].1 a[i].2 L;have st:s.heap.IsKeyIter g d i a.length n:=st;rw[f]at st;show wpAny_pyNext_dict_item st C N λG h' O m Q=>?_;have I1:aN X j J H {s with heap:=h'}:=I.turned (t':=s.toks) (λb o l e=>(Q.2 b l).trans e) f0 f1 f3 D F;obtain⟨o,e,c,dt⟩:=id m;rw[<-f]at m;show{G,(),wJ (s:={s with heap:=h'}) e c dt (by decide) {kV a[i].1,H,I1,xB O,{(),by rw[L];rfl},m,λb l=>(q b l).1}}
 done:=by intro X x y A hc i j s J H E I q st hg;subst x y A;obtain⟨hd,hi⟩:=hg;obtain⟨⟨_,B,t,C⟩,_⟩:=I.hok d _ hd;have f:a.length=B.length:=Paired.length t;obtain⟨f0,f1,f2,f3,D,F⟩:=q g (by simp);have st:s.heap.IsKeyIter g d i a.length n:=st;rw[f]at st;show wpAny_pyNext_dict_end (I.ok.hd hc) st C (ov (by lia)) λh' S=>{(),I.turned (t':=s.toks) (λb o l e=>S b o l e) f0 f1 f3 D F}
 self:=λ_ _ _ _ _ st h=>wpAny_pyIter_keyiter st h
def BI{P:O4}{w:World}{K:OZ}{L:Expr}(d g:Addr)(a:List (bV×V))(n:Nat):vP P w K L (Mz P w d a n λp=>p.2) [g] g (λi h=>h.IsValIter g d i a.length n)where
 mem:=by simp
 obj:=λi h st b l=>by
  have e:b=g:=by simpa using l
  subst e;obtain⟨o,e,c,dt⟩:=st;show{o,e,λv z=>by rw[dt]at z;cases z}
 keep:=λi h h'⟨o,e,r⟩k=>{o,k g (by simp) o e,r}
 item:=by intro X x y A hc i j s G H E I q st hg;subst x y A;obtain⟨hd,hi⟩:=hg;obtain⟨⟨_,B,t,C⟩,_⟩:=I.hok d _ hd;have f:a.length=B.length:=Paired.length t;obtain⟨f0,f1,f2,f3,D,F⟩:=q g (by simp);have J:a[i]?=some a[i]:=g6 hi;obtain⟨u,M,ru⟩:=xE t i a[i].1 a[i].2 J;have st:s.heap.IsValIter g d i a.length n:=st;rw[f]at st;show wpAny_pyNext_values_item st C M λh' m N=>?_;have I1:aN X j G H {s with heap:=h'}:=I.turned (t':=s.toks) (λb o l e=>(N.2 b l).trans e) f0 f1 f3 D F;obtain⟨o,e,c,dt⟩:=id m;rw[<-f]at m;show{u,(),wJ (s:={s with heap:=h'}) e c dt (by decide) {a[i].2,H,I1,ru,{(),by rw[J];rfl},m,λb l=>(q b l).1}}
 done:=by intro X x y A hc i j s G H E I q st hg;subst x y A;obtain⟨hd,hi⟩:=hg;obtain⟨⟨_,B,t,C⟩,_⟩:=I.hok d _ hd;have f:a.length=B.length:=Paired.length t;obtain⟨f0,f1,f2,f3,D,F⟩:=q g (by simp);have st:s.heap.IsValIter g d i a.length n:=st;rw[f]at st;show wpAny_pyNext_values_end (I.ok.hd hc) st C (ov (by lia)) λh' Q=>{(),I.turned (t':=s.toks) (λb o l e=>Q b o l e) f0 f1 f3 D F}
 self:=λ_ _ _ _ _ st h=>wpAny_pyIter_valiter st h
section
variable{X:Cx}{P:O4}{w:World}{j l o e:Expr}{a i te:TE}
def LV(P:O4)(w:World)(a:TE):TI:=λk H R=>a k H λx f=>∃d b,x=.ref d/\f d=some (.dK b)/\∀h,R (Mz P w d b h λp=>kV p.1) (aG f d (dE P w d b h))
def GA(t:PE X l a)(u:X.prog=P:=by rfl)(y:X.w=w:=by rfl):PI X j l (LV P w a):=by
 subst u y;intro f s z H R I h;show cw (t f s z H _ I h) λv n A=>?_;obtain⟨x,J,I1,B,d,k,e,hd,q⟩:=A;subst e;obtain rfl:v=Value.ref d:=B;obtain⟨r,C,D,E,F,p⟩:=I1.walk hd;have m:k.length=C.length:=Paired.length D;show wpAny_pyIter_dict F E ?_;show{n.heap.objs.size,[n.heap.objs.size],_,_,_,(),p.kept (t':=n.toks) λb o e=>c_ _ e,BK d _ k r,{_,g_ _ (),(),by rw[m];rfl},λb G=>?_,q r};have e:b=n.heap.objs.size:=by simpa using G
 subst e;show p.fpOk (e_ _) (p.hok.fresh (e_ _))
def LR(P:O4)(w:World)(i:TE):TI:=λk H R=>i k H λx f=>∃d b,x=.ref d/\f d=some (.dK b)/\∀h,R (Mz P w d b h λp=>p.2) (aG f d (dE P w d b h))
def MK(P:O4)(w:World)(t:TE):TE:=λh H Q=>t h H λv f=>∃d b k,f d=some (dE P w d b k)/\Q v (aG f d (.dK b))
def zY(h:PE X e te)(f:X.prog=P:=by rfl)(m:X.w=w:=by rfl):PE X e (MK P w te):=by subst f m;intro b s k H Q I n;show cw (h b s k H _ I n) λu x p=>?_;obtain⟨v,y,I1,r,d,t,z,hd,q⟩:=p;show{v,_,I1.thaw hd,r,q}
def K7(P:O4)(w:World)(t:TS):TS:=λD k H=>t {D with nx:=λf h=>∃d b m,h d=some (dE P w d b m)/\D.nx f (aG h d (.dK b))} k H
def zU{st:Stmt}{t:TS}(h:PS X st t)(m:X.prog=P:=by rfl)(n:X.w=w:=by rfl):PS X st (K7 P w t):=by subst m n;intro b s p H D I r;show wpAny_mono (h b s p H _ I r) (λf y z=>?_) λ_ _ z=>z;cases f with|next=>obtain⟨k,A,v,d,x,B,hd,q⟩:=z;show{k,_,v.thaw hd,q}|brk=>show z|cont=>show z|ret u=>show z
end
section
variable{X:Cx}{P:O4}{w:World}{p o e:Expr}{j ty:TE}{c f:Pos}
def Gy(D:PE X o j)(E:X.prog=P:=by rfl)(G:X.w=w:=by rfl)(g:attributeBase o "values" X.env (eval o X.env)=eval o X.env:=by rfl)(i:(c.endLine==f.line)=true:=by rfl):PI X p (.Call (.Attribute o "values" c) [] [] f) (LR P w j):=by
 subst E G;intro k s J H R I h;show N1 g i (cw (D k s J H _ I h) λv a K=>?_);obtain⟨x,V,I1,L,d,m,e,hd,q⟩:=K;subst e;obtain rfl:v=Value.ref d:=L;obtain⟨A,C,M,n,N,O⟩:=I1.walk hd;have r:m.length=C.length:=Paired.length M;obtain⟨ob,W,u,Q,_⟩:=id n;show{"dict","dict.values",PySem.F.plainAttrs_dict,PySem.F.slot_dict_values,PySem.F.type_dict_values,n.dictOf.typeIs,?_,ri () (PySem.evalArgs_none (C_ PySem.F.slot_dict_values n.dictOf.typeIs PySem.F.entry_dict_values (PySem.F.args_dict_values_1 _) (meets_dict_values (aU X.prog X.w) d N) {(C,n.dictOf,),?_}))}
 ·intro b z;cases z;show(ob,u,Q.2.1,)
 ·have S:(a.heap.push {cls:=.type "dict_values",data:=.fields #[.ref d]}).IsValuesView a.heap.objs.size d:={_,g_ _ (),(),()};change wpAny _ _ (pyIter (.ref a.heap.objs.size)) _ _ _;have y:=O.kept (h':=a.heap.push {cls:=.type "dict_values",data:=.fields #[.ref d]}) (t':=a.toks) λb o e=>c_ _ e;show wpAny_pyIter_values (s:={a with heap:=a.heap.push {cls:=.type "dict_values",data:=.fields #[.ref d]}}) S (n.push _) ?_;show{_,[(a.heap.push {cls:=.type "dict_values",data:=.fields #[.ref d]}).objs.size],_,_,_,(),y.kept (t':=a.toks) λb o e=>c_ _ e,BI d _ m A,{_,g_ _ (),(),by rw[r];rfl},λb U=>?_,q A};have e:b=(a.heap.push {cls:=.type "dict_values",data:=.fields #[.ref d]}).objs.size:=by simpa using U
  subst e;show y.fpOk (e_ _) (y.hok.fresh (e_ _))
def FN(K:OZ)(ty j:TE):TE:=λd H Q=>ty d H λy g=>j d g λx b=>(∃a o,x=.ref a/\dF b a y o/\Q (.bl (!o.isSome)) b)\/Mq K true y x b Q
def Cc(K:OZ)(C:X.K=K)(D:X.A.units+1<cLine)(hi:PE X i ty)(E:PE X o j):PC X .NotIn i o (FN K ty j):=by
 subst C;intro b s d H Q I h;show cw (hi b s d H _ I h) λiv F k=>?_;obtain⟨y,G,I1,m,J⟩:=k;show cw (E b F d G _ I1 J) λn L k=>?_;obtain⟨x,u,v,z,M⟩:=k;rcases M with⟨a,r,e,g,q⟩|q
 ·subst e;obtain rfl:n=Value.ref a:=z;show Bw D v g m λO N=>{.bl (!r.isSome),u,N,(),q}
 ·show xq b L d u y x iv n Q v m z q
def KZ(K:OZ)(a:Addr)(ty:TE):TE:=λd H Q=>ty d H λy b=>∃x r,y=.str x/\PySem.W.nsIn K a x=some r/\((r=none/\Q .non b)\/∃u v,r=some u/\aX v u/\Q v b)
def GC(K:OZ)(L:X.K=K)(hd:HE K X.w.params a)(hg:Gl X x)(hm:X.mg x=some (.ref a))(M:PE X e ty)(m:M1 X (.Name x d) "get" c e f)(A:(x==("__debug__":Str))=false:=by decide):PE X (.Call (.Attribute (.Name x d) "get" c) [e] [] f) (KZ K a ty):=by
 subst L;intro g s E H Q I h;obtain⟨lo,es,n,k,G⟩:=hd;have hn:PE X (.Name x d) (tC (.ref a)):=A6 hg hm () A;show Nq m.base m.few m.line PySem.F.plainAttrs_dict PySem.F.slot_dict_get PySem.F.type_dict_get (cw (hn g s E H (λv N=>v=.ref a/\N=H) I {(),()}) λu O⟨z,R,I1,S,T,U⟩=>?_);subst T U;obtain rfl:u=Value.ref a:=S;have C:=PySem.W.mapOf_K (prog:=X.prog) (w:=X.w) I1.kIn k G;show{C.typeIs,λb z=>by cases z;show{_,I1.kIn _ _ k,()},?_};rw[m.trees];show ri () (vu (pw (cw (M g O E R _ I1 h) λiv s2 V=>?_)));obtain⟨y,J,D,Y,Z,r,ey,hu,q2⟩:=V;show u6 ?_;subst ey;obtain⟨tk,rfl⟩:=Y;have i:=PySem.W.mapOf_K (prog:=X.prog) (w:=X.w) D.kIn k G;show C_ PySem.F.slot_dict_get i.typeIs PySem.F.entry_dict_get (PySem.F.args_dict_get_2 _ _) (meets_dict_get (strKind X.prog X.w) a (PySem.strKind_is X.prog X.w Z tk) lo) {_,i,?_};rw[PySem.W.find_K k hu];rcases q2 with⟨rfl,q⟩|⟨u',v',rfl,rv,q⟩
 ·show{.non,J,D.tok _,(),q}
 ·show{v',J,D.tok _,rv,q}
end
section
variable{X:Cx}
def LQ(K:OZ)(e:TA):TI:=λb H R=>e b H λf a=>∃t l g h,f=[.ref t,.ref l]/\a0 K a t g/\∃c,HA c K a l h/\R (Mh c K t l) a
def Gx(K:OZ)(D:X.K=K){i:O6}{E:Nat}{j:Pos}{a b:Expr}{z:TA}{p m:Pos}(hg:Gl X "zip")(hm:X.mg "zip"=none)(F:PA X [a,b] z)(G:starEach [a,b] X.env=[(false,eval a X.env),(false,eval b X.env)]:=by rfl)(n:starEach [b] X.env=[(false,eval b X.env)]:=by rfl):PI X (.Tuple i E j) (.Call (.Name "zip" p) [a,b] [] m) (LQ K z):=by
 subst D;intro k s J H R I h;show vr (lz I hg hm Fm (x3 (cw (F m k s J H _ I h) λus f L=>?_) (by rw[G,n]) (by rw[n];rfl)));obtain⟨vs,M,I1,N,t,l,xs,ys,e,w,c,x,q⟩:=L;subst e;obtain⟨u,v,rfl,rt,O⟩:=oB N;obtain rfl:u=Value.ref t:=rt;obtain rfl:v=Value.ref l:=O;obtain⟨y,rv,pl,hz⟩:=I1.tuple w;obtain⟨A,P,o,Q⟩:=I1.sqE x;obtain⟨o1,S,_⟩:=id pl;obtain⟨o2,T,_⟩:=id o;show CG (show f.heap.IsTuple t y.toArray from pl) o λg B U V Y Z kk=>?_;show wpAny_pyIter_zip B {_,[f.heap.objs.size+4,f.heap.objs.size+2,f.heap.objs.size+3,f.heap.objs.size,f.heap.objs.size+1],_,_,M,(),I1.kept (t':=f.toks) kk,C5 (ktu_apart f.heap.objs.size t l (ir S) (ir T)),{B,U,{_,_,V},Y,Z},λb C=>?_,q};have r:f.heap.objs.size<=b:=by simp only[s_,pa,Ng]at C;rcases C with rfl|rfl|rfl|rfl|rfl<;>first|show e_ _|show OP _ _
 show I1.fpOk r (I1.hok.fresh r)
def CF{K:OZ}{a l:Addr}{xs ys:List V}{g:TG}{ds:O8}{k:Nat}{tc:TT}{te:TE}{E:St}{j:Hp}{F:Addr->Hp->Prop}(Pv:Addr->Nat->List V->Hp->Prop)(r:aR K j l ys\/a0 K j l ys)(h0:∀D,j D=none->Pv D 0 [] (aG j D (.lst [])))(w:xs.length=ys.length)(G:∀D i f h,Pv D i f h->a0 K h a xs/\am j h)(H:∀D i x y f h T,j D=none->xs[i]?=some x->ys[i]?=some y->Pv D i f h->h T=none->g (.ref T) (iV ds k E) (aG h T (.tup [x,y])) λn A=>tc n A λb t=>if b=true then te n t λy u=>u D=some (.lst f)/\f.length<sizeLine/\∃o,o<xs.length-i/\o=xs.length-(i+1)/\i+1<=xs.length/\Pv D (i+1) (f++[y]) (aG u D (.lst (f++[y])))else∃o,o<xs.length-i/\o=xs.length-(i+1)/\i+1<=xs.length/\Pv D (i+1) f t)(hd:∀D f h,j D=none->Pv D xs.length f h->F D h):∃c,HA c K j l ys/\∀D,j D=none->∃W:Nat->Nat->List V->Hp->Prop,(∃m,W 0 m [] (aG j D (.lst [])))/\∀i m f h,W i m f h->((Mh c K a l).stop i h/\F D h)\/((Mh c K a l).go i h/\∀x B,(Mh c K a l).yld i h x B->g x (iV ds k E) B λn A=>tc n A λb t=>if b=true then te n t λy u=>u D=some (.lst f)/\f.length<sizeLine/\∃o,o<m/\W (i+1) o (f++[y]) (aG u D (.lst (f++[y])))else∃o,o<m/\W (i+1) o f t):=by
 obtain⟨c,hc,I⟩:∃c,HA c K j l ys/\∀h,am j h->HA c K h l ys:=by
  rcases r with r|r
  ·show{true,r,λ_ z=>z.seq r}
  ·show{false,r,λ_ z=>am.tseq z r}
 show{c,hc,λD C=>{λi m f h=>m=xs.length-i/\i<=xs.length/\Pv D i f h,{_,(),lh _,h0 D C},?_}};rintro i m f h⟨rfl,hi,p⟩;obtain⟨q,v⟩:=G D i f h p;have v:=I h v
 by_cases s:i<xs.length
 ·show .inr {{xs,ys,xs[i],ys[i],q,v,by simp[s],by simp[<-w,s]},λx B y=>?_};obtain⟨T,J,L,M,e,N,y⟩:=y;subst e N;obtain⟨O,P⟩:=y xs ys q v;show H D i J L f _ T C O P p M
 ·have e:i=xs.length:=Nat.le_antisymm hi (OO s);subst e;show .inl {{xs,q,e_ _},hd D f h C p}
end
def E6(hh:A.handled=none)(c t:Addr)(ne:t≠c)(a:O7):Draws P w A c [c,t] a.size (λi v=>a[i]?=some v) (λi h=>h.IsTupleIter c t i/\h.IsTuple t a)where
 live:=λ_ _ st=>let⟨o,e,_⟩:=st.1;(o,e,)
 frame:=λ_ _ _ st k=>{st.1.at λo e=>k c (by simp) o e,st.2.at λo e=>k t (by simp) o e}
 item:=λi s Q E hi st q=>sV st.1 st.2 (v:=a[i]) (by simp[hi]) λg d b=>q _ g s.toks (by simp[hi]) {d,st.2.extBut b.extBut ne} b
 done:=λs Q E st q=>x9 hh st.1 st.2 (by simp) q
def y4(t:Addr)(a:O7)(n:Nat)(f:Option Addr)(sl:Array (Option Value)):Meets (Builtin.«enumerate.__new__» {[.type "enumerate",.ref t],[]}) (λ_ R s=>s.heap.get? t=some {cls:=.type "tuple",dict:=f,data:=.seq a n,slots:=sl}/\R (.ok (.ret (.ref (FI s.heap t).objs.size))) {s with heap:=(FI s.heap t).push {cls:=.type "enumerate",data:=.fields #[.none,.bool false,.ref s.heap.objs.size,rawInt 0,.none,.none]}}):=.of_wp λprog w A R s h=>by
  obtain⟨i,g,d,tk,os⟩:=s;obtain⟨b,h⟩:=h;have f1:=sub_enumerate;have e:Heap.IsTuple (Shared.heap (i,g,d,tk,os,)) t a:={_,b,(),n,()}
  wp_walk using NZ b
  show wpAny_stack_any λst=>f_ ?_
  split
  ·rename_i c _ _ _ _ _;cases(c==Value.type "enumerate")<;>(wp_walk using NZ b,Nl e)<;>show{_,(),h}
  ·wp_walk using NZ b,Nl e
   show{_,(),h}
def AI(i:s.heap.IsTuple t a)(q:∀g,IsEnum g (s.heap.objs.size+1) s.heap.objs.size 0 .none->g.IsTupleIter s.heap.objs.size t 0->(∀b o,s.heap.get? b=some o->g.get? b=some o)->Q (.ref (s.heap.objs.size+1)) {s with heap:=g}):wpAny (model P w) A (call (.type "enumerate") [.ref t]) Q E s:=by
 obtain⟨⟨c,j,dt,sl⟩,k,d,n,e⟩:=i;simp only at d e;subst d e;show callType_new F.called_enumerate (by decide) (F.typeCall_enumerate_1 _) (F.newCall_enumerate_1 _) (λob=>F.args_object_init_2 ob _) F.entry_enumerate_new (y4 t a n j sl) {k,?_};have f:(FI s.heap t).objs.size=s.heap.objs.size+1:=o0 ..;change _/\_;rw[f];have h:IsEnum ((FI s.heap t).push {cls:=.type "enumerate",data:=.fields #[.none,.bool false,.ref s.heap.objs.size,rawInt 0,.none,.none]}) (s.heap.objs.size+1) s.heap.objs.size 0 .none:=by have z:=g_ (FI s.heap t) (o:={cls:=.type "enumerate",data:=.fields #[.none,.bool false,.ref s.heap.objs.size,rawInt 0,.none,.none]}) ();rw[f]at z;show z
 show{{_,h,()},q _ h {_,c_ _ (g_ _ ()),(),()} λb o x=>c_ _ (c_ _ x)}
def Ite(K:OZ)(t:Addr):It:={λi H=>∃a x,a0 K H t a/\a[i]?=some x,λi H v b=>∃T x,H T=none/\v=.ref T/\b=aG H T (.tup [.int i,x])/\∀a,a0 K H t a->a[i]?=some x,λi H=>∃a,a0 K H t a/\a.length=i}
def BL{P:O4}{w:World}{K:OZ}{r:O6}{Z:Nat}{F:Pos}{e a t:Addr}(n1:e≠a)(n2:t≠a)(n3:t≠e):vP P w K (.Tuple r Z F) (Ite K t) [e,a] e (λi h=>(∃d,IsEnum h e a i d)/\h.IsTupleIter a t i)where
 mem:=by simp
 obj:=λi h st b j=>by
  obtain⟨⟨_,a1⟩,ob,l,_,d2⟩:=st;simp only[s_,pa,Ng]at j;rcases j with rfl|rfl
  ·show{_,a1,λv z=>by cases z}
  ·show{_,l,λv z=>by rw[d2]at z;cases z}
 keep:=λi h h' st k=>by obtain⟨⟨d,a1⟩,l⟩:=st;show{{d,k e (by simp) _ a1},l.at λob z=>k a (by simp) ob z}
 item:=by
  intro X G J L hc i m s R H E I B st hg;subst G J L;obtain⟨V,x,C,S⟩:=hg;obtain⟨f,M,p,Y⟩:=I.tuple C;obtain⟨u,T,ru⟩:=M.get S;obtain⟨⟨d,a1⟩,l⟩:=st;have hi:i<f.toArray.size:=by rw[il];show(d_.mp T).1
  have n:X.A.in1.handled=none:=by simp[I.ok.hd hc]
  show wpAny_pyNext_enum_itemD (E6 n a t n2 f.toArray) a1 (l,p,) hi n1 (by simp[n1,oi n3]) λv g tk D b1 b2 b3 b4 off=>?_;have ev:v=u:=by have D:f.toArray[i]?=some v:=D;rw[Os,T]at D;show(iA D).symm
  subst ev;show{_,(),wpAny_letOwnedTupleGo_enum b1 λg' c1 N=>?_};have lt:∀c∈[e,a],c≠s.heap.objs.size:=λc y z=>by
   have hs:∃ob,s.heap.get? c=some ob:=by
    simp only[s_,pa,Ng]at y;rcases y with rfl|rfl
    ·show{_,a1}
    ·obtain⟨ob,z,_⟩:=l;show(ob,z,)
   obtain⟨ob,h⟩:=hs;rw[z]at h;show absurd (ir h) (qx _)
  have fresh:H s.heap.objs.size=none:=I.hok.fresh (e_ _);have I1:aN X m R (aG H s.heap.objs.size (.tup [.int i,x])) {s with heap:=s.heap.push {cls:=.type "tuple",data:=.seq #[.int i tk,v]},toks:=tk+1}:=I.laid (λb o z=>c_ _ z) (e_ _) {by rw[ig];simp,[.int i tk,v],.cons {tk,()} (.cons ru .nil),{_,g_ _ (),(),_,()}}
  have I2:=kN (h':=g') (t':=tk+1) (ch:=[e,a]) I1 (λb o j z=>?_) (λb j=>?_)
  ·show{.ref s.heap.objs.size,_,I2,(),{_,x,fresh,(),(),λaa h1=>by rw[I.tuple_inj h1 C];show S},{{_,by simpa using c1},b2.1.extBut N.extBut (oi n1)},λb j=>?_};rw[ak (lt b j)];show(B b j).1
  ·have q:b≠e/\b≠a:=by simpa using j
   by_cases U:b=s.heap.objs.size
   ·subst U;rw[g_ _ ()]at z;cases z;show N.extBut _ _ q.1 b3
   ·have z':s.heap.get? b=some o:=by
     rcases NC z with⟨O,_⟩|O
     ·show absurd O U
     ·show O
    show N.extBut _ _ q.1 (off b o q.1 q.2 z')
  ·obtain⟨f0,f1⟩:=B b j;show{by rw[ak (lt b j)];show f0,f1}
 done:=by
  intro X G J L hc i m s R H E I B st hg;subst G J L;obtain⟨V,C,rfl⟩:=hg;obtain⟨f,M,p,Y⟩:=I.tuple C;have hl:=M.length;obtain⟨⟨d,a1⟩,l⟩:=st;have n:X.A.in1.handled=none:=by simp[I.ok.hd hc]
  have Q:s.heap.IsTupleIter a t f.toArray.size:=by rw[il,<-hl];show l
  show wpAny_pyNext_enum_endD (E6 n a t n2 f.toArray) a1 (Q,p,) λg off=>{(),kN (t':=s.toks) (ch:=[e,a]) I (λb o j z=>?_) B};have q:b≠e/\b≠a:=by simpa using j
  show off b o q.2 z
 self:=λ_ _ _ _ _ st h=>by obtain⟨⟨d,a1⟩,_⟩:=st;show wpAny_pyIter_enum a1 h
section
variable{X:Cx}
def LW(K:OZ)(c:TA):TI:=λb H R=>c b H λd a=>∃t e,d=[.ref t]/\a0 K a t e/\R (Ite K t) a
def GB(K:OZ)(r:X.K=K){c:O6}{v:Nat}{d:Pos}{a:Expr}{m:TA}{p f:Pos}(hg:Gl X "enumerate")(hm:X.mg "enumerate"=none)(w:PA X [a] m)(x:starEach [a] X.env=[(false,eval a X.env)]:=by rfl):PI X (.Tuple c v d) (.Call (.Name "enumerate" p) [a] [] f) (LW K m):=by
 subst r;intro i s y H R I h;show vr (lz I hg hm L2.uU (x3 (cw (w f i s y H _ I h) λG j⟨J,z,I1,A,B⟩=>?_) (by rw[x];rfl) (by rfl)));obtain⟨t,L,e,C,q⟩:=B;subst e;obtain⟨u,rfl,rt⟩:=ka A;obtain rfl:u=Value.ref t:=rt;obtain⟨l,M,pl,N⟩:=I1.tuple C;obtain⟨O,D,_⟩:=id pl;have lt:=ir D;show AI (show j.heap.IsTuple t l.toArray from pl) λg n E F=>?_;show wpAny_pyIter_enum n {_,[j.heap.objs.size+1,j.heap.objs.size],_,_,z,(),I1.kept (t':=j.toks) F,BL (t:=t) (ot (t4 _)) (ku lt) (ku (z4 lt)),{{_,n},E},λb o=>?_,q};have k:j.heap.objs.size<=b:=by
  simp only[s_,pa,Ng]at o;rcases o with rfl|rfl
  ·show OP _ _
  ·show e_ _
 show I1.fpOk k (I1.hok.fresh k)
end
def Iti(P:O4)(w:World)(d:Addr)(a:List (bV×V))(c:Nat):It:={λi H=>H d=some (dE P w d a c)/\i<a.length,λi H x b=>∃T k v,H T=none/\x=.ref T/\b=aG H T (.tup [kV k,v])/\a[i]?=some (k,v),λi H=>H d=some (dE P w d a c)/\a.length<=i}
def zJ{P:O4}{w:World}{K:OZ}{l:O6}{Q:Nat}{t:Pos}(d f:Addr)(a:List (bV×V))(G:Nat):vP P w K (.Tuple l Q t) (Iti P w d a G) [f] f (λi h=>∃ok m,IsItemIter h f d i a.length G ok m)where
 mem:=by simp
 obj:=λi h st b g=>by
  have e:b=f:=by simpa using g
  subst e;obtain⟨_,_,e⟩:=st;show{_,e,λv z=>by cases z}
 keep:=λi h h'⟨ok,m,e⟩k=>{ok,m,k f (by simp) _ e}
 item:=by
  intro X x y A hc i j s J H E I p st hg;subst x y A;obtain⟨hd,hi⟩:=hg;obtain⟨⟨_,B,q,C⟩,_⟩:=I.hok d _ hd;have c:a.length=B.length:=Paired.length q;have L:a[i]?=some a[i]:=g6 hi;obtain⟨u,O,ru⟩:=xE q i a[i].1 a[i].2 L;obtain⟨ok,m,st⟩:=st;have lt:f<s.heap.objs.size:=ir st;rw[c]at st;show wpAny_pyNext_items_item st C O λn h' R out S hz T=>?_;show{_,(),wpAny_letOwnedTupleGo_items out λU c1 M=>?_};rw[<-c]at c1;have fresh:H s.heap.objs.size=none:=I.hok.fresh (e_ _);have I1:aN X j J (aG H s.heap.objs.size (.tup [kV a[i].1,a[i].2])) {s with heap:=s.heap.push {cls:=.type "tuple",data:=.seq #[n,u]}}:=I.laid (t':=s.toks) (λb o z=>c_ _ z) (e_ _) {by rw[ig];simp,[n,u],.cons (xB R) (.cons ru .nil),{_,g_ _ (),(),_,()}}
  have Y:=kN (h':=U) (t':=s.toks) (ch:=[f]) I1 (λb o g z=>?_) (λb g=>?_)
  ·show{.ref s.heap.objs.size,_,Y,(),{_,a[i].1,a[i].2,fresh,(),(),L},{_,_,c1},λb g=>?_};have e:b=f:=by simpa using g
   subst e;rw[ak (ku lt)];show(p b g).1
  ·have D:b≠f:=by simpa using g
   by_cases r:b=s.heap.objs.size
   ·subst r;rw[g_ _ ()]at z;cases z;show M.extBut _ _ D S
   ·have Z:s.heap.get? b=some o:=by
     rcases NC z with⟨F,_⟩|F
     ·show absurd F r
     ·show F
    show M.extBut _ _ D (T b o D Z)
  ·have e:b=f:=by simpa using g
   subst e;obtain⟨f0,f1⟩:=p b g;show{by rw[ak (ku lt)];show f0,f1}
 done:=by intro X x y A hc i j s J H E I p st hg;subst x y A;obtain⟨hd,hi⟩:=hg;obtain⟨⟨_,B,q,C⟩,_⟩:=I.hok d _ hd;have c:a.length=B.length:=Paired.length q;obtain⟨f0,f1,f2,f3,f4,f5⟩:=p f (by simp);obtain⟨ok,m,st⟩:=st;rw[c]at st;show wpAny_pyNext_items_end (I.ok.hd hc) st C (ov (by omega)) λh' r=>{(),I.turned (t':=s.toks) (λb o g e=>r b o g e) f0 f1 f3 f4 f5}
 self:=λ_ _ _ _ _ st h=>by obtain⟨_,_,st⟩:=st;show kcp_self st h
section
variable{X:Cx}{P:O4}{w:World}{o:Expr}{i:TE}{a c f:Pos}{g:O6}{j:Nat}
def JX(P:O4)(w:World)(i:TE):TI:=λk H R=>i k H λx e=>∃d b,x=.ref d/\e d=some (.dK b)/\∀h,R (Iti P w d b h) (aG e d (dE P w d b h))
def pk(C:PE X o i)(D:X.prog=P:=by rfl)(E:X.w=w:=by rfl)(l:attributeBase o "items" X.env (eval o X.env)=eval o X.env:=by rfl)(m:(a.endLine==c.line)=true:=by rfl):PI X (.Tuple g j f) (.Call (.Attribute o "items" a) [] [] c) (JX P w i):=by
 subst D E;intro n s G H R I h;show N1 l m (cw (C n s G H _ I h) λv k J=>?_);obtain⟨x,U,I1,K,d,p,e,hd,q⟩:=J;subst e;obtain rfl:v=Value.ref d:=K;obtain⟨A,B,L,r,M,N⟩:=I1.walk hd;have t:p.length=B.length:=Paired.length L;obtain⟨ob,V,u,O,_⟩:=id r;show{"dict","dict.items",PySem.F.plainAttrs_dict,PySem.F.slot_dict_items,PySem.F.type_dict_items,r.dictOf.typeIs,?_,ri () (PySem.evalArgs_none (C_ PySem.F.slot_dict_items r.dictOf.typeIs PySem.F.entry_dict_items (PySem.F.args_dict_items_1 _) (meets_dict_items (aU X.prog X.w) d M) {(B,r.dictOf,),?_}))}
 ·intro b z;cases z;show(ob,u,O.2.1,)
 ·have Q:(k.heap.push {cls:=.type "dict_items",data:=.fields #[.ref d]}).IsItemsView k.heap.objs.size d:={_,g_ _ (),(),()};change wpAny _ _ (pyIter (.ref k.heap.objs.size)) _ _ _;have y:=N.kept (h':=k.heap.push {cls:=.type "dict_items",data:=.fields #[.ref d]}) (t':=k.toks) λb o e=>c_ _ e;show wpAny_pyIter_items (s:={k with heap:=k.heap.push {cls:=.type "dict_items",data:=.fields #[.ref d]}}) Q (r.push _) ?_;show{_,[(k.heap.push {cls:=.type "dict_items",data:=.fields #[.ref d]}).objs.size],_,_,_,(),y.kept (t':=k.toks) λb o e=>c_ _ e,zJ d _ p A,{_,_,by rw[t];show g_ _ ()},λb T=>?_,q A};have e:b=(k.heap.push {cls:=.type "dict_items",data:=.fields #[.ref d]}).objs.size:=by simpa using T
  subst e;show y.fpOk (e_ _) (y.hok.fresh (e_ _))
end
def rN(n:Nat){c:Type}(R:c->Prop):KasT c->Prop|.ret a=>R a|.ask i j k=>i<n/\j<n/\∀b,rN n R (k b)
theorem rN.bind{n:Nat}{c d:Type}{R:c->Prop}{S:d->Prop}{f:c->KasT d}(e:∀a,R a->rN n S (f a)):∀{t:KasT c},rN n R t->rN n S (t.bind f)|.ret a,h=>e a h|.ask i j k,h=>{h.1,h.2.1,λb=>rN.bind e (h.2.2 b)}
def PR(n:Nat)(p:Array Nat):Prop:=p.toList.Perm (List.range n)
def PR.lt(h:PR n p)(hn:0<n)(k:Nat):p.getD k 0<n:=by
 by_cases a:k<p.size
 ·have e:p.getD k 0=p[k]:=by simp[Array.getD,a]
  rw[e];show t8.mp (h.mem_iff.mp (Array.mem_toList_iff.mpr (Array.getElem_mem a)))
 ·have e:p.getD k 0=0:=by simp[Array.getD,a]
  rw[e];show hn
def PR.rev(h:PR n p)(i j:Nat):PR n (kas_rev p i j):=(mirror_perm p i j _).toList.trans h
section
variable{n:Nat}(hn:0<n)
include hn
theorem xF(h:PR n p):∀f m,rN n (λ_=>True) (kas_asc p f m)|0,_=>trivial|f+1,m=>{h.lt hn _,h.lt hn _,λb=>by cases b with|true=>show trivial|false=>show xF h f (m+1)}
theorem pL:∀(f:Nat){p:Array Nat}(m q:Nat),PR n p->rN n (λr:Array Nat×Nat×Nat=>PR n r.1) (kas_desc f p m q)|0,_,_,_,h=>h|f+1,p,m,q,h=>⟨h.lt hn _,h.lt hn _,λb=>by
 cases b with|true=>
   show rN n _ (if q>0 then _ else _)
   split
   ·exact pL f _ _ (h.rev _ _)
   ·exact pL f _ _ h|false=>refine⟨h.lt hn _,h.lt hn _,λd=>?_⟩;cases d with|true=>exact h|false=>exact pL f _ _ h⟩
def zb{p:Array Nat}(m r:Nat)(h:PR n p):rN n (λr:Nat×Array Nat=>PR n r.2) (kas_tail3 m r p):=rN.bind (S:=λr:Nat×Array Nat=>PR n r.2) (f:=λa=>.ret (a,kas_rev p 0 m)) (λ_ _=>h.rev _ _) (xF hn (h.rev _ _) _ _)
def zc{p:Array Nat}(m r:Nat)(h:PR n p):rN n (λr:Nat×Array Nat=>PR n r.2) (kas_descPart m r p):=rN.bind (λa b=>by
 change rN n _ (if a.2.2>0 then _ else _)
 split
 ·show zb hn _ _ (b.rev _ _)
 ·show zb hn _ _ b) (pL hn _ _ _ h)
def Cs{p:Array Nat}(r:Nat)(h:PR n p):rN n (λr:Nat×Array Nat=>PR n r.2) (kas_count r p):=rN.bind (λm _=>by
 change rN n _ (if(m==r)=true then _ else _)
 split
 ·show h
 ·split
  ·show{h.lt hn _,h.lt hn _,λc=>?_};cases c with|true=>show h|false=>show zc hn _ _ (h.rev _ _)
  ·show zc hn _ _ h) (xF hn h _ _)
theorem qz{p:Array Nat}(h:PR n p)(k:Nat):∀f l r,rN n (λ_=>True) (kas_place p k f l r)
 |0,_,_=>trivial|f+1,l,r=>by
  change rN n _ (if l>=r then _ else _)
  split
  ·show trivial
  ·show{h.lt hn _,h.lt hn _,λc=>?_};cases c with|true=>show qz h k f _ _|false=>show qz h k f _ _
theorem Bm:∀(f:Nat){p:Array Nat}(k:Nat),PR n p->rN n (PR n) (kas_bin f p k)|0,_,_,h=>h|f+1,p,k,h=>rN.bind (λl _=>Bm f _ ((bubble_perm p k _).toList.trans h)) (qz hn h _ _ _ _)
def uB:rN n (PR n) (kas_sort n):=rN.bind (λr a=>by
 change rN n _ (if r.1<n then _ else _)
 split
 ·show Bm hn _ _ a
 ·show a) (Cs hn _ (show(List.toArray (List.range n)).toList.Perm _ by show .refl _))
end
theorem AZ:∀{c:O9}{a:O3},aY (c.map V.ref) a->a=c.map Value.ref|[],_,.nil=>()|u::r,_,.cons h t=>by obtain rfl:_=Value.ref u:=h;rw[AZ t];rfl
theorem xv:∀{a:O9},aY (a.map V.ref) (a.map Value.ref)|[]=>.nil|_::_=>.cons () xv
def pQ{J:It}{n:Nat}{g:TG}{ds:O8}{k:Nat}{tc:TT}{te:TE}{r:St}{s:Hp}{D:Addr}{F:Hp->Prop}(Pv:Nat->List V->Hp->Prop)(h0:Pv 0 [] (aG s D (.lst [])))(hg:∀i a c,i<n->Pv i a c->J.go i c)(t:∀i a c x h,i<n->Pv i a c->J.yld i c x h->g x (iV ds k r) h λd q=>tc d q λb j=>if b=true then te d j λy l=>l D=some (.lst a)/\a.length<sizeLine/\∃f,f<n-i/\f=n-(i+1)/\i+1<=n/\Pv (i+1) (a++[y]) (aG l D (.lst (a++[y])))else∃f,f<n-i/\f=n-(i+1)/\i+1<=n/\Pv (i+1) a j)(hd:∀a c,Pv n a c->J.stop n c/\F c):∃W:Nat->Nat->List V->Hp->Prop,(∃m,W 0 m [] (aG s D (.lst [])))/\∀i m a c,W i m a c->(J.stop i c/\F c)\/(J.go i c/\∀x h,J.yld i c x h->g x (iV ds k r) h λd q=>tc d q λb j=>if b=true then te d j λy l=>l D=some (.lst a)/\a.length<sizeLine/\∃f,f<m/\W (i+1) f (a++[y]) (aG l D (.lst (a++[y])))else∃f,f<m/\W (i+1) f a j):=by
 show{λi m a c=>m=n-i/\i<=n/\Pv i a c,{_,(),lh _,h0},?_};rintro i m a c⟨rfl,hi,p⟩
 by_cases o:i<n
 ·show .inr {hg i a c o p,λx h y=>t i a c x h o p y}
 ·have e:i=n:=by lia
  subst e;show .inl (hd a c p)
def EZ{J:It}{n:Nat}{g:TG}{tb:TS}{D:j8}{a:St}{H:Hp}(Pv:Nat->St->Hp->Prop)(h0:Pv 0 a H)(hg:∀i a H,i<n->Pv i a H->J.go i H)(l:∀i a H x c,i<n->Pv i a H->J.yld i H x c->g x a c λd h=>tb {D with nx:=Pv (i+1),ct:=Pv (i+1),bk:=D.nx} d h)(hd:∀a H,Pv n a H->J.stop n H/\D.nx a H):∃W:Nat->Nat->St->Hp->Prop,(∃m,W 0 m a H)/\∀i m a H,W i m a H->(J.stop i H/\D.nx a H)\/(J.go i H/\∃N:St->Hp->Prop,(∀f c,N f c->∃j,j<m/\W (i+1) j f c)/\∀x c,J.yld i H x c->g x a c λd h=>tb {D with nx:=N,ct:=N,bk:=D.nx} d h):=by
 show{λi m a H=>m=n-i/\i<=n/\Pv i a H,{n,by simp,lh _,h0},?_};rintro i m a H⟨rfl,hi,p⟩
 by_cases b:i<n
 ·show .inr {hg i a H b p,Pv (i+1),λf c k=>{n-(i+1),by omega,(),b,k},λx c y=>l i a H x c b p y}
 ·have e:i=n:=by lia
  subst e;show .inl (hd a H p)
end L2
namespace L2
open PySem
def rF{K:OZ}{f:Str}{a C dx:Addr}{fs:List (Str×V)}{v:V}{H:Hp}{R:V->Prop}(h:H a=some (.ins C dx fs))(hc:x4 K C)(hn:bX K C f)(j:fs.lookup f=some v)(k:R v):∃g d e c i,V.ref a=.ref g/\H g=some (.ins d e c)/\x4 K d/\bX K d f/\c.lookup f=some i/\R i:={a,C,dx,fs,v,(),h,hc,hn,j,k}
def rM{a C dx:Addr}{m:Str}{fs:List (Str×V)}{H:Hp}{R:Prop}(h:H a=some (.ins C dx fs))(hn:fs.lookup m=none)(k:R):∃e d c,V.ref a=.ref e/\H e=some (.ins C d c)/\c.lookup m=none/\R:={a,dx,fs,(),h,hn,k}
def rG{d:Type}{a:Addr}{A R:Addr->d->Prop}(v:d)(h:A a v)(k:R a v):∃c e,V.ref a=.ref c/\A c e/\R c e:={a,v,(),h,k}
def rX{A:Addr->List V->Prop}{p:Addr}{c:List V}{i:Int}{v:V}{R:V->Prop}(h:A p c)(g:qO c i=some v)(k:R v):∃d a e f,V.ref p=.ref d/\V.int i=.int e/\A d a/\qO a e=some f/\R f:={p,c,i,v,(),(),h,g,k}
def rA{l:Addr}{c:List V}{y:V}{H:Hp}{R:Addr->List V->V->Prop}(h:H l=some (.lst c))(f:c.length<sizeLine)(k:R l c y):∃d a e,V.ref l=.ref d/\[y]=[e]/\H d=some (.lst a)/\a.length<sizeLine/\R d a e:={l,c,y,(),(),h,f,k}
def r2{i j:Int}{R:Int->Int->Prop}(k:R i j):∃a c,V.int i=.int a/\V.int j=.int c/\R a c:={i,j,(),(),k}
def U{a:Type}{A R:a->Prop}{v:a}(h:A v)(k:R v):∃v,A v/\R v:=(v,h,k,)
def gE{K:OZ}{f:Str}{a C dx:Addr}{fs:List (Str×V)}{o:Option (Option V)}{v:V}{H:Hp}{R:V->Prop}(h:H a=some (.ins C dx fs))(hc:x4 K C)(hn:bX K C f)(h0:o=some (some (.ref a)))(j:fs.lookup f=some v)(k:R v):∃w,o=some (some w)/\∃g d e c i,w=.ref g/\H g=some (.ins d e c)/\x4 K d/\bX K d f/\c.lookup f=some i/\R i:={_,h0,a,C,dx,fs,v,(),h,hc,hn,j,k}
def jw{a C dx:Addr}{m:Str}{fs:List (Str×V)}{o:Option (Option V)}{H:Hp}{R:V->Prop}(h:H a=some (.ins C dx fs))(h0:o=some (some (.ref a)))(hn:fs.lookup m=none)(k:R (.ref a)):∃w,o=some (some w)/\∃e d c,w=.ref e/\H e=some (.ins C d c)/\c.lookup m=none/\R w:={_,h0,a,dx,fs,(),h,hn,k}
end L2
namespace L2
open PySem PySem.Spec PyProof.Rows PySem.W
section
def Cv{A:Around}{k:Nat}(a:eX k A):A.units+65<cLine:=by have:=a.un;lia
end
set_option genInjectivity false in
set_option genSizeOf false in
structure AF where
 x:Addr
 d:FuncData
structure Df(K:OZ)(mg:O2)(n:Str)(st:Stmt)(a:AF)(ps:O5):Prop where
 f:xZ K n n st a.x a.d
 m:mg n=some (.ref a.x)b:f8 K a.d ps []
structure Mf(K:OZ)(C:Addr)(n q:Str)(st:Stmt)(a:AF)(ps:O5):Prop where
 f:xZ K n q st a.x a.d
 m:FE K C n a.x
 b:f8 K a.d ps []
section
variable{K:OZ}{h:Heap}{mg:O2}{n q:Str}{st:Stmt}{x C:Addr}{fd:FuncData}
def HZ{c:O5}(X:K.In h)(G:h.Ns mainGlobals mg)(a:PySem.W.nsIn K mainGlobals n=some (some (.ref x)))(F:xZ K n n st x fd)(b:xZ K n n st x fd->f8 K fd c []):Df K mg n st (x,fd,) c:={F,PySem.W.mg_of X G a,b F}
def LE{c:O5}(a:PySem.W.findIn K (.ref C) n=some (some (.ref x)))(i:PySem.W.isFn K (.ref x)=true)(F:xZ K n q st x fd)(b:xZ K n q st x fd->f8 K fd c []):Mf K C n q st (x,fd,) c:={F,(a,i,F.kp,),b F}
def LZ(X:K.In h)(G:h.Ns mainGlobals mg)(a:PySem.W.nsIn K mainGlobals n=some (some (.ref x))):mg n=some (.ref x):=PySem.W.mg_of X G a
def KM(X:K.In h)(G:h.Ns mainGlobals mg)(a:PySem.W.nsIn K mainGlobals n=some none):mg n=none:=PySem.W.mg_none_of X G a
def LP{i:Int}{t:Tok}(X:K.In h)(G:h.Ns mainGlobals mg)(a:PySem.W.nsIn K mainGlobals n=some (some (.int i t))):∃u,mg n=some u/\aX (.int i) u:={_,PySem.W.mg_of X G a,_,()}
def Lh{i:Str}{t:Tok}(X:K.In h)(G:h.Ns mainGlobals mg)(a:PySem.W.nsIn K mainGlobals n=some (some (.str i t))):∃u,mg n=some u/\aX (.str i) u:={_,PySem.W.mg_of X G a,_,()}
def L1(a:PySem.W.excIn K x [.type "ValueError",.type "Exception",.type "BaseException",.type "object"] "ValueError.__new__"=true):w6 K x:=a
def Bf(a:PySem.W.findIn K (.ref C) n=some none):bX K C n:=a
def LN{dd:Option Addr}{a:O7}{d:Nat}{sl:Array (Option Value)}{c:List V}(w:K.lookup x=some {.type "tuple",dd,.seq a d,sl})(y:aY c a.toList)(l:Nat.ble c.length 65536=true):L2.Mx K x c:={_,a,d,w,(),(),by rw[<-l_,<-y.length];show df (Nat.le_of_ble_eq_true l),y}
abbrev KH(st:Stmt)(n q:Str)(kV a pm:Value)(d:Option Addr)(c ct:Value)(e:O3):=bindArgs (PySem.W.fnOf n q (pP st) (gQ st) (ai st) .none kV a pm d c ct) {e,[]}
variable{c d e f g j:Str}
def vH{n:Nat}{i:O3}(h:i.length=n+1):∃u a,i=u::a/\a.length=n:=by cases i with|nil=>cases h|cons u a=>show{u,a,(),Nat.succ.inj h}
def b1(F:xZ K n q st x fd)(h:∀kV a pm l i ct u,KH st n q kV a pm l i ct [u]=pure [(c,u)]:=by intros;rfl):f8 K fd [c] []:=F.binds λkV a pm l i ct b k=>by obtain⟨u,b,rfl,h1⟩:=vH k;cases List.length_eq_zero_iff.mp h1;show h kV a pm l i ct u
def b2(F:xZ K n q st x fd)(h:∀kV a pm l i ct u v,KH st n q kV a pm l i ct [u,v]=pure [(c,u),(d,v)]:=by intros;rfl):f8 K fd [c,d] []:=F.binds λkV a pm l i ct b k=>by obtain⟨u,b,rfl,h1⟩:=vH k;obtain⟨v,b,rfl,h2⟩:=vH h1;cases List.length_eq_zero_iff.mp h2;show h kV a pm l i ct u v
def b3(F:xZ K n q st x fd)(h:∀kV a pm l i ct u v w,KH st n q kV a pm l i ct [u,v,w]=pure [(c,u),(d,v),(e,w)]:=by intros;rfl):f8 K fd [c,d,e] []:=F.binds λkV a pm l i ct b k=>by obtain⟨u,b,rfl,h1⟩:=vH k;obtain⟨v,b,rfl,h2⟩:=vH h1;obtain⟨w,b,rfl,h3⟩:=vH h2;cases List.length_eq_zero_iff.mp h3;show h kV a pm l i ct u v w
def b4(F:xZ K n q st x fd)(h:∀kV a pm l i ct u v w y,KH st n q kV a pm l i ct [u,v,w,y]=pure [(c,u),(d,v),(e,w),(f,y)]:=by intros;rfl):f8 K fd [c,d,e,f] []:=F.binds λkV a pm l i ct b k=>by obtain⟨u,b,rfl,h1⟩:=vH k;obtain⟨v,b,rfl,h2⟩:=vH h1;obtain⟨w,b,rfl,h3⟩:=vH h2;obtain⟨y,b,rfl,h4⟩:=vH h3;cases List.length_eq_zero_iff.mp h4;show h kV a pm l i ct u v w y
def b5(F:xZ K n q st x fd)(h:∀kV a pm l i ct u v w y z,KH st n q kV a pm l i ct [u,v,w,y,z]=pure [(c,u),(d,v),(e,w),(f,y),(g,z)]:=by intros;rfl):f8 K fd [c,d,e,f,g] []:=F.binds λkV a pm l i ct b k=>by obtain⟨u,b,rfl,h1⟩:=vH k;obtain⟨v,b,rfl,h2⟩:=vH h1;obtain⟨w,b,rfl,h3⟩:=vH h2;obtain⟨y,b,rfl,h4⟩:=vH h3;obtain⟨z,b,rfl,h5⟩:=vH h4;cases List.length_eq_zero_iff.mp h5;show h kV a pm l i ct u v w y z
def b6(F:xZ K n q st x fd)(h:∀kV a pm l i ct u v w y z r,KH st n q kV a pm l i ct [u,v,w,y,z,r]=pure [(c,u),(d,v),(e,w),(f,y),(g,z),(j,r)]:=by intros;rfl):f8 K fd [c,d,e,f,g,j] []:=F.binds λkV a pm l i ct b k=>by obtain⟨u,b,rfl,h1⟩:=vH k;obtain⟨v,b,rfl,h2⟩:=vH h1;obtain⟨w,b,rfl,h3⟩:=vH h2;obtain⟨y,b,rfl,h4⟩:=vH h3;obtain⟨z,b,rfl,h5⟩:=vH h4;obtain⟨r,b,rfl,m⟩:=vH h5;cases List.length_eq_zero_iff.mp m;show h kV a pm l i ct u v w y z r
end
def cd{i j:Int}(h:decide (0<j/\j<1073741824)=true):fZ i j:=(n_ h:0<j/\j<1073741824)
def ls{n:Nat}(h:Nat.ble n 65536=true):n<=sizeLine:=df (Nat.le_of_ble_eq_true h)
section
variable{X:Cx}{n:Str}{st:Stmt}{a:AF}{l:O5}{sp:Sp}{j k:Nat}{e:Expr}{h:O6}{t:TA}{p c:Pos}
def pc(D:Df X.K X.mg n st a l)(F:aP X.prog X.w X.K X.mg X.base cV j a.x a.d l sp)(o:eX k X.A)(q:PA X (e::h) t)(r:j<=k:=by decide)(hg:Gl X n:=by rfl)(g:(n==("__debug__":Str))=false:=by decide)(s:starEach (e::h) X.env=(false,eval e X.env)::starEach h X.env:=by rfl)(i:(backTo c (starEach h X.env)).any (·.1)=false:=by rfl):PE X (.Call (.Name n p) (e::h) [] c) (HJ sp [] E0 t):=bQ (F.mono r) o hg D.m D.f.kp D.b .nil aV q g s i
def bj(i:Nat){x:Str}{te:TE}{d:Pos}(g:X.N.Nodup)(m:PE X e te)(hi:X.N[i]?=some x:=by rfl)(f:X.env.scope.names.lookup x=some .local:=by rfl)(o:swapsWith e (some (.Name x d)) c.line X.env=pure false:=by rfl):PS X (.Assign [.Name x d] e c) (yd te (kP i)):=qf g hi (.inl f) m o (.inr f)
def oA(i:Nat){x:Str}(f:X.N.Nodup)(hi:X.N[i]?=some x:=by rfl)(d:X.env.scope.names.lookup x=some .local:=by rfl):PG X (.Name x c) (kP i):=A5 f hi (.inl d) (.inr d)
def mL(N0 d:O5)(i:Nat){x:Str}(f:(N0++d).Nodup:=by decide+kernel)(g:X.N=N0++d:=by rfl)(hi:(N0++d)[i]?=some x:=by rfl)(m:Kq X.env.scope x:=by first|show Or.inl ()|show Or.inr ())(o:X.fn x=true\/X.env.scope.names.lookup x=some .local:=by first|show .inl ()|show .inr ()):PG X (.Name x c) (kP i):=by rw[<-g]at f hi;show A5 f hi m o
def sC(N0 d:O5)(ds o:O8)(f:Scope){i q iter:Expr}{m:O6}{scope:Scope}{u:TI}{g:TG}{tc:TT}{te:TE}(hg:GK g o)(hi:PI X q iter u)(v:∀cl C s₀ H₀ ex,PG (X.comp scope (N0++d) cl C s₀ H₀ ex) q g/\HC (X.comp scope (N0++d) cl C s₀ H₀ ex) m tc/\PE (X.comp scope (N0++d) cl C s₀ H₀ ex) i te)(hc:X.calm=true:=by rfl)(r:X.N=N0:=by rfl)(s:X.env.scope=f:=by rfl)(ok:qJ N0 ds f scope=true:=by decide+kernel)(w:(o.all λj=>ds.contains j||decide (N0.length<=j))=true:=by decide+kernel)(y:∀x,foldedSetIterable iter X.env x=pure x:=by intro _;rfl):PE X (.ListComp i [{q,iter,m,0}] scope c) (sX u g ds d.length tc te):=Hl N0 d ds o f hc r s ok w hg hi v y
def Ke(i:Nat)(N0 d:O5)(ds u:O8)(f:Scope){x:Str}{m o:Pos}{q s iter:Expr}{r:O6}{scope:Scope}{B:TI}{g:TG}{tc:TT}{te:TE}(hg:GK g u)(hi:PI X s iter B)(D:∀cl C s₀ H₀ ex,PG (X.comp scope (N0++d) cl C s₀ H₀ ex) s g/\HC (X.comp scope (N0++d) cl C s₀ H₀ ex) r tc/\PE (X.comp scope (N0++d) cl C s₀ H₀ ex) q te)(v:N0.Nodup)(hc:X.calm=true:=by rfl)(w:X.N=N0:=by rfl)(y:X.env.scope=f:=by rfl)(ok:qJ N0 ds f scope=true:=by decide+kernel)(E:(u.all λj=>ds.contains j||decide (N0.length<=j))=true:=by decide+kernel)(z:N0[i]?=some x:=by rfl)(F:f.names.lookup x=some .local:=by rfl)(A:swapsWith (.ListComp q [{s,iter,r,0}] scope c) (some (.Name x m)) o.line X.env=pure true:=by rfl)(G:∀x,foldedSetIterable iter X.env x=pure x:=by intro _;rfl):PS X (.Assign [.Name x m] (.ListComp q [{s,iter,r,0}] scope c) o) (yd (sX B g ds d.length tc te) (kP i)):=Fh N0 d ds u f hc w y ok E hg hi D v z F A G
def hV(K:OZ){a b:Expr}{d f:TE}(g:PE X a d)(i:PE X b f)(m:X.K=K:=by rfl)(o:xU b:=by intro _ _;rfl):PE X (.Subscript a b c) (Kw (Je K) d f):=yF (EI K m) g i o
def dh(K:OZ){a b:Expr}{d f:TE}(g:PE X a d)(i:PE X b f)(m:X.K=K:=by rfl)(o:xU b:=by intro _ _;rfl):PE X (.Subscript a b c) (Kw (Jd K) d f):=yF (G4 K m) g i o
end
section
variable{P:O4}{w:World}{K:OZ}{mg:O2}{base:Heap}{n q:Str}{st:Stmt}{a:AF}{C:Addr}{N c:O5}{k:Nat}{sp:Sp}
theorem Df.ok(D:Df K mg n st a c)(S:az N c (ai st))(e:∀(g:Value)(A:Around)(outer:List Env)(s:Shared)(H:Hp)(i:List V)(Q:VK)(E:XK),eX k (A.deeper (envOfC n (ai st) s.heap.objs.size a.x g))->sp i H Q E->∃t,vR (qH cV P w K mg base N n (ai st) a.x g A outer s H E).nox (gQ st) t/\t {nx:=λ_ j=>Q .non j,rt:=Q} (i9 N i) H)(len:∀i H Q E,sp i H Q E->i.length=c.length:=by intro _ _ _ _ h;cases h;subst_vars;rfl):aP P w K mg base cV (k+1) a.x a.d c sp:=D.f.ok S len e
theorem Mf.ok(D:Mf K C n q st a c)(S:az N c (ai st))(e:∀(g:Value)(A:Around)(outer:List Env)(s:Shared)(H:Hp)(i:List V)(Q:VK)(E:XK),eX k (A.deeper (envOfC q (ai st) s.heap.objs.size a.x g))->sp i H Q E->∃t,vR (qH cV P w K mg base N q (ai st) a.x g A outer s H E).nox (gQ st) t/\t {nx:=λ_ j=>Q .non j,rt:=Q} (i9 N i) H)(len:∀i H Q E,sp i H Q E->i.length=c.length:=by intro _ _ _ _ h;cases h;subst_vars;rfl):aP P w K mg base cV (k+1) a.x a.d c sp:=D.f.ok S len e
theorem Df.okE(D:Df K mg n st a c)(S:az N c (ai st))(e:∀(g:Value)(A:Around)(outer:List Env)(s:Shared)(H:Hp)(i:List V)(Q:VK)(E:XK),eX k (A.deeper (envOfC n (ai st) s.heap.objs.size a.x g))->sp i H Q E->∃t,vR (qH (vV P w) P w K mg base N n (ai st) a.x g A outer s H E) (gQ st) t/\t {nx:=λ_ j=>Q .non j,rt:=Q} (i9 N i) H)(len:∀i H Q E,sp i H Q E->i.length=c.length:=by intro _ _ _ _ h;cases h;subst_vars;rfl):aP P w K mg base (vV P w) (k+1) a.x a.d c sp:=D.f.okE S len e
theorem Mf.okE(D:Mf K C n q st a c)(S:az N c (ai st))(e:∀(g:Value)(A:Around)(outer:List Env)(s:Shared)(H:Hp)(i:List V)(Q:VK)(E:XK),eX k (A.deeper (envOfC q (ai st) s.heap.objs.size a.x g))->sp i H Q E->∃t,vR (qH (vV P w) P w K mg base N q (ai st) a.x g A outer s H E) (gQ st) t/\t {nx:=λ_ j=>Q .non j,rt:=Q} (i9 N i) H)(len:∀i H Q E,sp i H Q E->i.length=c.length:=by intro _ _ _ _ h;cases h;subst_vars;rfl):aP P w K mg base (vV P w) (k+1) a.x a.d c sp:=D.f.okE S len e
end
end L2
namespace L2
open PySem PySem.W PyProof.Rows
section
variable{M:Model}{A:Around}{E:O0}
def Cl{C D N W:Addr}{nm q u X:Str}{bs v p c:O3}{hd Z sub ab w x y i z j}{dd B:Option Addr}{k0 k1 k2 k3 k5 F G H I J:Option Value}{id L:String}{s:Shared}{e tup:Addr}{P:Obj}{Q:Bool->Shared->Prop}(r:s.heap.get? C=some (excClassObj nm q C N bs p hd Z sub ab w dd k0 k1 k2 k3 k5 id))(l:s.heap.get? D=some (excClassObj u X D W v c x y i z j B F G H I J L))(T:s.heap.get? e=some P)(a:P.cls=.ref C\/P.cls=.ref D)(ht:IsTup s.heap tup #[.ref C,.ref D])(hb:p.contains (.type "BaseException")=true)(R:c.contains (.type "BaseException")=true)(S:Q true s):wpAny M A (excMatches (.ref e) (.ref tup)) Q E s:=by
 obtain⟨o,U,hc,n,K⟩:=ht;obtain⟨h,g,d,t,os⟩:=s;have b:(Value.ref C::p).contains (.type "BaseException")=true:=by rw[NO,hb,Bool.or_true]
 have k:(Value.ref D::c).contains (.type "BaseException")=true:=by rw[NO,R,Bool.or_true]
 unfold excMatches;show a_ (Nt (o,U,hc,) isSubtype_tuple_tuple ?_);dsimp only;rw[hY ()];show a_ (t6 U K ?_);dsimp only[Option.getD_some,Option.getD];have O:(Value.ref C::p).contains (.ref C)=true:=by rw[NO,qq,Bool.true_or]
 have m:(Value.ref D::c).contains (.ref D)=true:=by rw[NO,qq,Bool.true_or]
 have f:=tc_notTuple;rcases a with a|a
 ·repeat(first|(with_reducible show E2 T ?_;rw[a])|with_reducible show E2 r ?_|with_reducible show E2 l ?_|(with_reducible show L_ r ?_;first|rw[b]|rw[O])|(with_reducible show L_ l ?_;rw[k])|wp_step)
  show S
 ·repeat(first|(with_reducible show E2 T ?_;rw[a])|with_reducible show E2 r ?_|with_reducible show E2 l ?_|(with_reducible show L_ r ?_;rw[b])|(with_reducible show L_ l ?_;first|rw[k]|rw[m]|skip)|wp_step)
  cases V:(Value.ref D::c).contains (Value.ref C)with
 |true=>
   rw[hY ()]
   repeat wp_step
   show S|false=>
   rw[h_ ji]
   repeat(first|(with_reducible show L_ l ?_;rw[m])|wp_step)
   show S
end
def KP(c:XK->TS)(d e:Addr)(f:TS):TS:=λD a H=>c (λb _ g=>(b=.ref d\/b=.ref e)/\f D a g) D a H
def Gv{X:Cx}{st W:Stmt}{a:List Stmt}{Z:XK->TS}{th:TS}{y A:Addr}{d f:Str}{g i j B:Pos}{k l}(C:X.stack=X.env::X.outer)(hf:X.env.frame=some X.env.locals)(G:w6 X.K y)(J:Gl X d)(M:X.mg d=some (.ref y))(P:w6 X.K A)(Q:Gl X f)(R:X.mg f=some (.ref A))(hb:∀(E:XK)(c:O1)(m:St)(v:O0),mC (vV X.prog X.w) (X.wish v) E c m->Km (X.wish v) c m st (Z E))(hh:∀x,vR (X.inExc x) (W::a) th)(n:(d==("__debug__":Str))=false:=by decide)(o:(f==("__debug__":Str))=false:=by decide):PS X (.Try [st] [.ExceptHandler (some (.Tuple [.Name d g,.Name f i] k l)) none (W::a) j] [] [] B) (KP Z y A th):=by intro c s m H D I h;show C7 C hf (λE p m v hx=>Jq (hb E p m v hx)) I h λx C' H' s5 hr L=>?_;obtain⟨O,S⟩:=hr;obtain⟨bm,N,nm,q,bs,hd,sn,sub,ab,an,dd,k0,k1,k2,k3,k5,mN,U,hN,ap,T⟩:=G.at I.mod.kin;obtain⟨as,N',ax,q',a2,a3,a5,Y,a6,aa,a7,a8,ba,bb,bc,bi,bl,r,bt,ad,T'⟩:=P.at I.mod.kin;show wpAny_handleBy_cons (codeAny_handlers_test ?_) (by intro z;cases z);show wpAny_Tuple_spliced ?_;change wpAny _ _ (spliced ((false,eval (.Name d g) X.env)::(false,eval (.Name f i) X.env)::[])) _ _ _;show pw (mP (L.inv.inExc x) J M ?_ n);show pw (mP (L.inv.inExc x) Q R ?_ o);show u6 {by change 2<=sizeLine;rw[ig];decide,?_};obtain⟨ob,V,t⟩:=L.obj;show Cl (c_ _ (L.inv.bk _ _ U)) (c_ _ (L.inv.bk _ _ r)) (c_ _ V) (by rw[t];show O) {_,g_ _ (),(),_,()} (T.hasType PySem.F.excBase_ValueError.hasBase) (T'.hasType PySem.F.excBase_ValueError.hasBase) (codeAny_handlers_suite ?_);show(L.keep λb u e=>c_ _ e).run hh S λ_ _ z=>z
end L2
set_option genSizeOf false
namespace My
open PySem L2
seal L2.vR L2.PS L2.PE L2.PT L2.PA L2.PI L2.PG L2.PW L2.Kn L2.PO
def gC(i:Nat):Stmt:=PySem.Challenge.pw_layersplit_k27_told_lists_are_own.main.body.getD i (.Pass ⟨0,0,0,0⟩)
abbrev mM(c i:Nat):Stmt:=(Hm (gC c)).getD i (.Pass {0,0,0,0})
abbrev tU:Stmt:=gC 20
abbrev k9:Stmt:=gC 21
abbrev wk:Stmt:=gC 22
abbrev tW:Stmt:=gC 23
abbrev nW:Stmt:=gC 28
abbrev tR:Stmt:=gC 29
abbrev qZ:Stmt:=gC 35
abbrev wp:Stmt:=gC 36
abbrev jE:Stmt:=gC 37
abbrev tZ:Stmt:=gC 38
abbrev oZ:Stmt:=gC 39
abbrev nV:Stmt:=gC 40
abbrev wo:Stmt:=gC 41
abbrev sK:Stmt:=gC 42
abbrev tX:Stmt:=gC 48
abbrev wm:Stmt:=gC 49
abbrev tV:Stmt:=gC 50
abbrev qY:Stmt:=gC 51
abbrev lc:Stmt:=gC 52
abbrev jX:Stmt:=gC 53
abbrev nX:Stmt:=gC 54
abbrev ny:Stmt:=gC 55
abbrev oT:Stmt:=gC 56
abbrev nz:Stmt:=gC 57
abbrev nq:Stmt:=gC 58
abbrev oU:Stmt:=gC 59
abbrev q8:Stmt:=gC 60
abbrev km:Stmt:=gC 61
abbrev nu:Stmt:=gC 62
abbrev jW:Stmt:=gC 64
abbrev oY:Stmt:=gC 65
abbrev nj:Stmt:=gC 66
abbrev nE:Stmt:=gC 67
abbrev lW:Stmt:=gC 68
abbrev lI:Stmt:=gC 69
abbrev oW:Stmt:=gC 70
abbrev ni:Stmt:=gC 71
abbrev oV:Stmt:=gC 72
abbrev oX:Stmt:=gC 73
abbrev tT:Stmt:=gC 75
abbrev AT:Stmt:=gC 76
abbrev tS:Stmt:=gC 78
abbrev lY:Stmt:=mM 80 0
abbrev kn:Stmt:=mM 80 1
abbrev jF:Stmt:=mM 80 2
abbrev lg:Stmt:=mM 80 3
abbrev ld:Stmt:=mM 80 4
abbrev jG:Stmt:=mM 80 5
abbrev o7:Stmt:=mM 80 6
abbrev lZ:Stmt:=mM 83 0
abbrev lX:Stmt:=mM 84 0
abbrev me:Stmt:=mM 85 0
abbrev ua:Stmt:=mM 85 1
abbrev pf:Stmt:=mM 85 2
abbrev kz:Stmt:=mM 85 3
abbrev kx:Stmt:=mM 85 4
abbrev fw:Stmt:=mM 85 5
abbrev lK:Stmt:=mM 85 6
abbrev ky:Stmt:=mM 85 7
abbrev kC:Stmt:=mM 85 8
abbrev md:Stmt:=mM 85 9
abbrev kr:Stmt:=mM 85 10
abbrev lJ:Stmt:=mM 85 11
abbrev fL:Stmt:=mM 85 12
abbrev gZ:Stmt:=mM 85 13
abbrev ko:Stmt:=mM 85 14
abbrev jH:Stmt:=mM 85 17
abbrev ma:Stmt:=mM 85 18
abbrev jc:Stmt:=mM 85 19
abbrev iE:Stmt:=mM 85 20
abbrev pd:Stmt:=mM 85 21
abbrev nG:Stmt:=mM 85 22
abbrev l7:Stmt:=mM 85 23
abbrev jd:Stmt:=mM 85 24
abbrev l9:Stmt:=mM 85 25
abbrev ph:Stmt:=mM 85 27
abbrev tY:Stmt:=gC 87
abbrev t9:Stmt:=gC 89
abbrev yz:Stmt:=gC 90
abbrev AU:Stmt:=gC 91
abbrev yA:Stmt:=gC 92
abbrev AW:Stmt:=gC 93
abbrev t7:Stmt:=gC 94
abbrev AX:Stmt:=gC 95
abbrev pb:Stmt:=gC 96
abbrev lj:Stmt:=gC 97
abbrev o9:Stmt:=gC 98
abbrev AY:Stmt:=gC 99
abbrev AV:Stmt:=gC 100
abbrev DP:Stmt:=gC 101
abbrev yy:Stmt:=gC 102
abbrev t5:Stmt:=gC 103
abbrev DO:Stmt:=gC 104
set_option genInjectivity false in
set_option genSizeOf false in
structure gz where(gO gf d0 kM kL kD fD mS i6 cu bU j9 mR dW fU mQ kK i4 io gx kR gu gi cS ff ib ic bN dB gq ii gt gw fE eQ ie gp fe fg kI wQ kE ee cZ bd d8 d7 cM gj eg d6 dD ft gm db c9 bD dJ cj de eI c8 cC bw c7 cg bS eE et fq gk fk dU eF cf cz kO jr dS pV mG eW oz w4 ix iw qT w5 jQ AL qS qU law:AF)(bO fj fX bA uZ BD FA Fy Ic Bz FB Fz BB zD BC va oy fH u9:Addr)pm:Params
structure Txt(K:OZ)(mg:O2)(a:gz):Prop where
 GV:mg "Table"=some (.ref a.bO)GX:mg "Layer"=some (.ref a.fj)GU:mg "Trial"=some (.ref a.fX)Bj:mg "House"=some (.ref a.bA)GW:mg "SplitError"=some (.ref a.uZ)KA:mg "NoHouse"=some (.ref a.BD)LK:mg "NoDeed"=some (.ref a.FA)LI:mg "NoWord"=some (.ref a.Fy)Mr:mg "Taken"=some (.ref a.Ic)Kx:mg "Unknown"=some (.ref a.Bz)LL:mg "NoArms"=some (.ref a.FB)LJ:mg "NoRule"=some (.ref a.Fz)Ky:mg "NoShuts"=some (.ref a.BB)JK:mg "NoNumber"=some (.ref a.zD)Kz:mg "NoMarks"=some (.ref a.BC)y8:mg "Closed"=some (.ref a.va)y7:mg "NoRoom"=some (.ref a.oy)Cn:mg "LENGTHS"=some (.ref a.fH)Ey:mg "HELD"=some (.ref a.u9)gO:Df K mg "is_whole" tU a.gO ["thing"]gf:Df K mg "is_text_of" k9 a.gf ["thing","signs","longest"]d0:Df K mg "is_word" wk a.d0 ["thing"]kM:Df K mg "is_guest" tW a.kM ["thing"]kL:Df K mg "is_prime" nW a.kL ["thing"]kD:Df K mg "point_of" tR a.kD ["p","salt","guest"]fD:Df K mg "is_number" qZ a.fD ["thing"]mS:Df K mg "is_mark" wp a.mS ["thing"]i6:Df K mg "are_marks" jE a.i6 ["thing"]cu:Df K mg "has_form" tZ a.cu ["thing","depth"]bU:Df K mg "all_within" oZ a.bU ["rule"]j9:Df K mg "words_of" nV a.j9 ["rule"]mR:Df K mg "is_rule" wo a.mR ["thing"]dW:Df K mg "holds" sK a.dW ["rule","marks"]fU:Df K mg "is_count" tX a.fU ["thing"]mQ:Df K mg "is_salt" wm a.mQ ["thing"]kK:Df K mg "is_total" tV a.kK ["thing"]i4:Df K mg "is_weight" qY a.i4 ["thing"]io:Df K mg "are_counts" lc a.io ["thing","many"]gx:Df K mg "are_weights" jX a.gx ["thing","many"]kR:Df K mg "are_arms" nX a.kR ["thing"]gu:Df K mg "check_house" ny a.gu ["prime","salt"]gi:Df K mg "check_word" oT a.gi ["thing"]cS:Df K mg "check_guest" nz a.cS ["thing"]ff:Df K mg "check_marks" nq a.ff ["thing"]ib:Df K mg "check_rule" oU a.ib ["thing"]ic:Df K mg "check_new" q8 a.ic ["thing","names"]bN:Df K mg "check_standing" km a.bN ["thing","names"]dB:Df K mg "check_known" nu a.dB ["thing","names"]gq:Df K mg "check_slope" jW a.gq ["thing","prime","layers"]ii:Df K mg "check_arms" oY a.ii ["thing"]gt:Df K mg "check_shuts" nj a.gt ["thing","trials"]gw:Df K mg "check_count" nE a.gw ["thing"]fE:Df K mg "check_shares" lW a.fE ["thing","many"]eQ:Df K mg "check_dealing" lI a.eQ ["total","weights","many"]ie:Df K mg "check_form" oW a.ie ["deed"]gp:Df K mg "check_trial" ni a.gp ["deed","layers","trials"]fe:Df K mg "check_open" oV a.fe ["deed","trials"]fg:Df K mg "check_deed" oX a.fg ["deed","prime","layers","trials"]kI:Df K mg "most_due" tT a.kI ["weights","given"]wQ:Df K mg "dealt" AT a.wQ ["total","weights"]kE:Df K mg "place_of" tS a.kE ["p","slope","point"]ee:Mf K a.bO "__init__" "Table.__init__" lY a.ee ["self","many"]cZ:Mf K a.bO "owner_of" "Table.owner_of" kn a.cZ ["self","place"]bd:Mf K a.bO "places_of" "Table.places_of" jF a.bd ["self","owner"]d8:Mf K a.bO "free" "Table.free" lg a.d8 ["self"]d7:Mf K a.bO "told" "Table.told" ld a.d7 ["self","wanted"]cM:Mf K a.bO "give_back" "Table.give_back" jG a.cM ["self","owner","number"]gj:Mf K a.bO "take" "Table.take" o7 a.gj ["self","owner","number"]eg:Mf K a.fj "__init__" "Layer.__init__" lZ a.eg ["self","slope","many"]d6:Mf K a.fX "__init__" "Trial.__init__" lX a.d6 ["self","home","arms","rule","shuts"]dD:Mf K a.bA "__init__" "House.__init__" me a.dD ["self","prime","salt"]ft:Mf K a.bA "do" "House.do" ua a.ft ["self","deed"]gm:Mf K a.bA "done" "House.done" pf a.gm ["self","deed"]db:Mf K a.bA "do_layer" "House.do_layer" kz a.db ["self","name","slope"]c9:Mf K a.bA "do_trial" "House.do_trial" kx a.c9 ["self","name","trial"]bD:Mf K a.bA "do_share" "House.do_share" fw a.bD ["self","name","numbers"]dJ:Mf K a.bA "do_hold" "House.do_hold" lK a.dJ ["self","name","number"]cj:Mf K a.bA "do_pause" "House.do_pause" ky a.cj ["self","name","paused"]de:Mf K a.bA "do_close" "House.do_close" kC a.de ["self","name"]eI:Mf K a.bA "do_bar" "House.do_bar" md a.eI ["self","guest","name"]c8:Mf K a.bA "do_visit" "House.do_visit" kr a.c8 ["self","guest","marks"]cC:Mf K a.bA "put_out" "House.put_out" lJ a.cC ["self","layer","guests"]bw:Mf K a.bA "after_visit" "House.after_visit" fL a.bw ["self","guest","marks"]c7:Mf K a.bA "seat_for" "House.seat_for" gZ a.c7 ["self","layer","guest","marks","been"]cg:Mf K a.bA "place_in" "House.place_in" ko a.cg ["self","layer","guest"]bS:Mf K a.bA "places_in" "House.places_in" jH a.bS ["self","trial","arm"]eE:Mf K a.bA "places" "House.places" ma a.eE ["self","trial","arm"]et:Mf K a.bA "shares" "House.shares" jc a.et ["self","trial"]fq:Mf K a.bA "stand" "House.stand" iE a.fq ["self","guest"]gk:Mf K a.bA "ever" "House.ever" pd a.gk ["self","guest"]fk:Mf K a.bA "would" "House.would" nG a.fk ["self","guest","marks"]dU:Mf K a.bA "who" "House.who" l7 a.dU ["self","trial"]eF:Mf K a.bA "layers" "House.layers" jd a.eF ["self"]cf:Mf K a.bA "trials" "House.trials" l9 a.cf ["self"]cz:Mf K a.bA "book" "House.book" ph a.cz ["self"]kO:Df K mg "house_of" tY a.kO ["prime","salt","deeds"]jr:Df K mg "_law_cell_at" t9 a.jr ["_law_script","_law_k"]dS:Df K mg "_law_mixed" yz a.dS ["_law_script","_law_k","_law_salt"]pV:Df K mg "_law_word" AU a.pV ["_law_k","_law_number"]mG:Df K mg "_law_guest" yA a.mG ["_law_k","_law_number"]eW:Df K mg "_law_rule" AW a.eW ["_law_number","_law_high"]oz:Df K mg "_law_marks" t7 a.oz ["_law_number"]w4:Df K mg "_law_plan" AX a.w4 ["_law_script"]ix:Df K mg "_law_new_layer" pb a.ix ["_law_script","_law_plan_here"]iw:Df K mg "_law_new_trial" lj a.iw ["_law_script","_law_plan_here","_law_number"]qT:Df K mg "_law_share" o9 a.qT ["_law_script","_law_plan_here","_law_k","_law_number"]w5:Df K mg "_law_deed" AY a.w5 ["_law_script","_law_plan_here","_law_k"]jQ:Df K mg "_law_told" AV a.jQ ["_law_found","_law_copies","_law_one"]AL:Df K mg "_law_ask" DP a.AL ["_law_house","_law_plan_here","_law_script","_law_guest_here","_law_number"]qS:Df K mg "_law_spoil" yy a.qS ["_law_found","_law_number"]qU:Df K mg "_law_right" t5 a.qU ["_law_house","_law_plan_here","_law_script","_law_k"]law:Df K mg "law" DO a.law ["_law_script"]CO:∃u,mg "LETTERS"=some u/\aX (.str "abcdefghijklmnopqrstuvwxyz") u
 nQ:∃u,mg "GUEST_SIGNS"=some u/\aX (.str "abcdefghijklmnopqrstuvwxyz0123456789") u
 uQ:∃u,mg "LONGEST_WORD"=some u/\aX (.int 12) u
 sE:∃u,mg "LONGEST_GUEST"=some u/\aX (.int 24) u
 vL:∃u,mg "LEAST_PRIME"=some u/\aX (.int 2) u
 qM:∃u,mg "GREATEST_PRIME"=some u/\aX (.int 997) u
 Hr:∃u,mg "MIXER"=some u/\aX (.int 1009) u
 xR:∃u,mg "MOST_MARKS"=some u/\aX (.int 8) u
 uR:∃u,mg "DEEPEST_RULE"=some u/\aX (.int 6) u
 xQ:∃u,mg "MOST_RULES"=some u/\aX (.int 30) u
 xN:∃u,mg "MOST_WORDS"=some u/\aX (.int 3) u
 zx:∃u,mg "MOST_ARMS"=some u/\aX (.int 4) u
 xP:∃u,mg "MOST_SHUTS"=some u/\aX (.int 8) u
 xO:∃u,mg "MOST_TOTAL"=some u/\aX (.int 1000) u
 bo:x4 K a.bO
 Ek:L2.Mk K a.bO a.ee.x
 nM:bX K a.bO "many"eK:bX K a.bO "owners"gM:bX K a.bO "taken"bH:x4 K a.fj
 El:L2.Mk K a.fj a.eg.x
 gN:bX K a.fj "slope"fc:bX K a.fj "table"bE:bX K a.fj "inside"a9:x4 K a.fX
 Ej:L2.Mk K a.fX a.d6.x
 fQ:bX K a.fX "home"eO:bX K a.fX "arms"nL:bX K a.fX "rule"mm:bX K a.fX "shuts"iS:bX K a.fX "paused"eJ:bX K a.fX "closed"iU:bX K a.fX "barred"au:x4 K a.bA
 y0:L2.Mk K a.bA a.dD.x
 cX:bX K a.bA "own_prime"jN:bX K a.bA "own_salt"aQ:bX K a.bA "layer_named"aL:bX K a.bA "trial_named"cY:bX K a.bA "came_into"jj:bX K a.bA "deeds"FG:w6 K a.uZ
 J7:w6 K a.BD
 KF:w6 K a.FA
 KC:w6 K a.Fy
 L3:w6 K a.Ic
 J4:w6 K a.Bz
 KG:w6 K a.FB
 KD:w6 K a.Fz
 J5:w6 K a.BB
 HV:w6 K a.zD
 J6:w6 K a.BC
 wN:w6 K a.va
 wM:w6 K a.oy
 Aq:L2.HE K a.pm a.fH
 qw:∃tk,PySem.W.nsIn K a.fH "layer"=some (some (.int 3 tk))qt:∃tk,PySem.W.nsIn K a.fH "trial"=some (some (.int 6 tk))qu:∃tk,PySem.W.nsIn K a.fH "share"=some (some (.int 3 tk))sy:∃tk,PySem.W.nsIn K a.fH "deal"=some (some (.int 4 tk))sx:∃tk,PySem.W.nsIn K a.fH "hold"=some (some (.int 3 tk))qv:∃tk,PySem.W.nsIn K a.fH "pause"=some (some (.int 2 tk))vF:∃tk,PySem.W.nsIn K a.fH "go"=some (some (.int 2 tk))qy:∃tk,PySem.W.nsIn K a.fH "close"=some (some (.int 2 tk))uA:∃tk,PySem.W.nsIn K a.fH "bar"=some (some (.int 3 tk))qp:∃tk,PySem.W.nsIn K a.fH "visit"=some (some (.int 3 tk))Bl:L2.Mx K a.u9 [.str "",.str ""]uy:mg "all"=none
 Eg:mg "any"=none
 Jz:mg "bool"=none
 Ef:mg "divmod"=none
 yY:mg "enumerate"=none
 LC:mg "int"=none
 bf:mg "isinstance"=none
 bq:mg "len"=none
 jZ:mg "list"=none
 LB:mg "max"=none
 Ee:mg "min"=none
 f9:mg "range"=none
 Ai:mg "reversed"=none
 Ed:mg "set"=none
 ux:mg "sorted"=none
 HP:mg "str"=none
 LA:mg "sum"=none
 dL:mg "tuple"=none
 Lz:mg "zip"=none
def ScB(N P:O5)(a:Scope):Bool:=decide (a.kind=.function)&&!a.isCoroutine&&!a.isGenerator&&decide N.Nodup&&decide (N.take P.length=P)&&P.all (λx=>decide (a.names.lookup x=some .local\/a.names.lookup x=some .cell))&&a.names.all λy=>decide (y.2≠.free)
def dg{N P:O5}{a:Scope}(h:ScB N P a=true:=by rfl):az N P a:=by simp only[ScB,mu,decide_eq_true_eq,Bool.not_eq_true',C1]at h;show(h.1.1.1.1.1.1,h.1.1.1.1.1.2,h.1.1.1.1.2,h.1.1.1.2,h.1.1.2,h.1.2,h.2,)
def yp:az ["thing"] ["thing"] (ai tU):=dg
abbrev lE:List Str:=["thing","signs","longest"]
def ve:az lE ["thing","signs","longest"] (ai k9):=dg
def zN:az ["thing"] ["thing"] (ai wk):=dg
def yt:az ["thing"] ["thing"] (ai tW):=dg
def yr:az ["thing"] ["thing"] (ai nW):=dg
def jA:az ["p","salt","guest","mixed","sign"] ["p","salt","guest"] (ai tR):=dg
def xk:az ["thing"] ["thing"] (ai qZ):=dg
def zQ:az ["thing"] ["thing"] (ai wp):=dg
def xm:az ["thing"] ["thing"] (ai jE):=dg
def lT:az ["thing","depth","kind"] ["thing","depth"] (ai tZ):=dg
def iC:az ["rule","found","inner"] ["rule"] (ai oZ):=dg
def yo:az ["rule"] ["rule"] (ai nV):=dg
def zP:az ["thing"] ["thing"] (ai wo):=dg
abbrev pU:List Str:=["rule","marks","kind"]
def tG:az pU ["rule","marks"] (ai sK):=dg
def yu:az ["thing"] ["thing"] (ai tX):=dg
def zO:az ["thing"] ["thing"] (ai wm):=dg
def yq:az ["thing"] ["thing"] (ai tV):=dg
def xj:az ["thing"] ["thing"] (ai qY):=dg
abbrev i0:List Str:=["thing","many"]
def vj:az i0 ["thing","many"] (ai lc):=dg
abbrev nR:List Str:=["thing","many"]
def tO:az nR ["thing","many"] (ai jX):=dg
def yw:az ["thing"] ["thing"] (ai nX):=dg
def tL:az ["prime","salt"] ["prime","salt"] (ai ny):=dg
def vf:az ["thing"] ["thing"] (ai oT):=dg
def tM:az ["thing"] ["thing"] (ai nz):=dg
def tJ:az ["thing"] ["thing"] (ai nq):=dg
def vg:az ["thing"] ["thing"] (ai oU):=dg
def xl:az ["thing","names"] ["thing","names"] (ai q8):=dg
def oM:az ["thing","names"] ["thing","names"] (ai km):=dg
def tK:az ["thing","names"] ["thing","names"] (ai nu):=dg
abbrev j6:List Str:=["thing","prime","layers"]
def tI:az j6 ["thing","prime","layers"] (ai jW):=dg
def vi:az ["thing"] ["thing"] (ai oY):=dg
def jb:az ["thing","trials","k","name"] ["thing","trials"] (ai nj):=dg
def tN:az ["thing"] ["thing"] (ai nE):=dg
def rO:az ["thing","many"] ["thing","many"] (ai lW):=dg
def qa:az ["total","weights","many"] ["total","weights","many"] (ai lI):=dg
def vh:az ["deed"] ["deed"] (ai oW):=dg
def tH:az ["deed","layers","trials"] ["deed","layers","trials"] (ai ni):=dg
def jU:az ["deed","trials","trial","many"] ["deed","trials"] (ai oV):=dg
def m9:az ["deed","prime","layers","trials","kind"] ["deed","prime","layers","trials"] (ai oX):=dg
def jB:az ["weights","given","best","k"] ["weights","given"] (ai tT):=dg
def oK:az ["total","weights","given","turn","k"] ["total","weights"] (ai AT):=dg
def lR:az ["p","slope","point","x","y"] ["p","slope","point"] (ai tS):=dg
def rQ:az ["self","many"] ["self","many"] (ai lY):=dg
def oN:az ["self","place"] ["self","place"] (ai kn):=dg
def nS:az ["self","owner"] ["self","owner"] (ai jF):=dg
def vk:az ["self"] ["self"] (ai lg):=dg
abbrev i3:List Str:=["self","wanted","more","back","owner","number"]
def dG:az i3 ["self","wanted"] (ai ld):=dg
def dY:az ["self","owner","number","places","back","place"] ["self","owner","number"] (ai jG):=dg
def iD:az ["self","owner","number","places","more","place"] ["self","owner","number"] (ai o7):=dg
def rR:az ["self","slope","many"] ["self","slope","many"] (ai lZ):=dg
def rP:az ["self","home","arms","rule","shuts"] ["self","home","arms","rule","shuts"] (ai lX):=dg
def rZ:az ["self","prime","salt"] ["self","prime","salt"] (ai me):=dg
def qX:az ["self","deed","answer"] ["self","deed"] (ai ua):=dg
def ng:az ["self","deed","kind"] ["self","deed"] (ai pf):=dg
def oS:az ["self","name","slope"] ["self","name","slope"] (ai kz):=dg
def oR:az ["self","name","trial"] ["self","name","trial"] (ai kx):=dg
abbrev cU:List Str:=["self","name","numbers","trial","layer","back","guests"]
def dw:az cU ["self","name","numbers"] (ai fw):=dg
def qb:az ["self","name","number"] ["self","name","number"] (ai lK):=dg
def jC:az ["self","name","paused","trial"] ["self","name","paused"] (ai ky):=dg
def jD:az ["self","name","trial"] ["self","name"] (ai kC):=dg
def iP:az ["self","guest","name","trial","layer"] ["self","guest","name"] (ai md):=dg
def cJ:az ["self","guest","marks","answer","name","trial","arm","layer"] ["self","guest","marks"] (ai kr):=dg
def fu:az ["self","layer","guests","out","guest","seat"] ["self","layer","guests"] (ai lJ):=dg
abbrev fO:List Str:=["self","guest","marks","been","answer","name","layer","seat"]
def bC:az fO ["self","guest","marks"] (ai fL):=dg
abbrev ip:List Str:=["self","layer","guest","marks","been","owner","trial"]
def gD:az ip ["self","layer","guest","marks","been"] (ai gZ):=dg
def oQ:az ["self","layer","guest"] ["self","layer","guest"] (ai ko):=dg
def nU:az ["self","trial","arm"] ["self","trial","arm"] (ai jH):=dg
def rW:az ["self","trial","arm"] ["self","trial","arm"] (ai ma):=dg
abbrev jp:List Str:=["self","trial"]
def rT:az jp ["self","trial"] (ai jc):=dg
abbrev dI:List Str:=["self","guest","standing"]
def lV:az dI ["self","guest"] (ai iE):=dg
def vm:az ["self","guest"] ["self","guest"] (ai pd):=dg
def tQ:az ["self","guest","marks"] ["self","guest","marks"] (ai nG):=dg
abbrev jP:List Str:=["self","trial","inside"]
def oP:az jP ["self","trial"] (ai l7):=dg
def rY:az ["self"] ["self"] (ai jd):=dg
def rS:az ["self"] ["self"] (ai l9):=dg
def vn:az ["self"] ["self"] (ai ph):=dg
def lS:az ["prime","salt","deeds","house","deed"] ["prime","salt","deeds"] (ai tY):=dg
def yx:az ["_law_script","_law_k"] ["_law_script","_law_k"] (ai t9):=dg
def kg:az ["_law_script","_law_k","_law_salt","_law_cell","_law_lap","_law_near"] ["_law_script","_law_k","_law_salt"] (ai yz):=dg
def oO:az ["_law_k","_law_number","_law_some","_law_stem","_law_at"] ["_law_k","_law_number"] (ai AU):=dg
def ki:az ["_law_k","_law_number","_law_some","_law_stem","_law_at","_law_own"] ["_law_k","_law_number"] (ai yA):=dg
def lU:az ["_law_number","_law_high","_law_way","_law_some","_law_word_here"] ["_law_number","_law_high"] (ai AW):=dg
abbrev u7:List Str:=["_law_number","_law_marks_here","_law_k","_law_word_here"]
def kh:az u7 ["_law_number"] (ai t7):=dg
def tP:az ["_law_script","_law_number","_law_prime"] ["_law_script"] (ai AX):=dg
def jV:az ["_law_script","_law_plan_here","_law_k","_law_name"] ["_law_script","_law_plan_here"] (ai pb):=dg
abbrev lF:List Str:=["_law_script","_law_plan_here","_law_number","_law_k","_law_name","_law_layer","_law_arms","_law_shuts","_law_more","_law_j"]
def cR:az lF ["_law_script","_law_plan_here","_law_number"] (ai lj):=dg
abbrev mF:List Str:=["_law_script","_law_plan_here","_law_k","_law_number","_law_trial","_law_most","_law_weights"]
def mJ:az mF ["_law_script","_law_plan_here","_law_k","_law_number"] (ai o9):=dg
def kj:az ["_law_script","_law_plan_here","_law_k","_law_number","_law_some","_law_guest_here","_law_early","_law_trial"] ["_law_script","_law_plan_here","_law_k"] (ai AY):=dg
def DN:az ["_law_found","_law_copies","_law_one"] ["_law_found","_law_copies","_law_one"] (ai AV):=dg
def k7:az ["_law_house","_law_plan_here","_law_script","_law_guest_here","_law_number","_law_found","_law_copies","_law_one","_law_trial","_law_j","_law_arm"] ["_law_house","_law_plan_here","_law_script","_law_guest_here","_law_number"] (ai DP):=dg
def wj:az ["_law_found","_law_number","_law_one"] ["_law_found","_law_number"] (ai yy):=dg
abbrev u5:List Str:=["_law_house","_law_plan_here","_law_script","_law_k","_law_number","_law_guest_here","_law_found","_law_copies","_law_again","_law_more"]
def gY:az u5 ["_law_house","_law_plan_here","_law_script","_law_k"] (ai t5):=dg
abbrev FC:List Str:=["_law_script","_law_plan_here","_law_house","_law_k","_law_deed_here","_law_answer","_law_book","_law_other"]
def jT:az FC ["_law_script"] (ai DO):=dg
variable{P:O4}{w:World}{K:OZ}{mg:O2}{base:Heap}{a:gz}{H H':Hp}
inductive Mi{A0 A1:Type}(p:A0->A1->Prop):Prop|mk(x0:A0)(x1:A1)(h:p x0 x1)
inductive Ex3{A0 A1 A2:Type}(p:A0->A1->A2->Prop):Prop|mk(x0:A0)(x1:A1)(x2:A2)(h:p x0 x1 x2)
structure An6(p0 p1 p2 p3 p4 p5:Prop):Prop where
 h0:p0
 h1:p1
 h2:p2
 h3:p3
 h4:p4
 h5:p5
def dk{p:Prop}[Decidable p](h:decide p=true):p:=n_ h
@[irreducible]def wS(ns:O_)(k:Int):Int:=if ns.length=0 then 0 else ns.getD (k%(ns.length:Int)).toNat 0
def LM(ns:O_)(k:Int):Int:=k/(if(ns.length:Int)>1 then(ns.length:Int)else 1)
def Ec(ns:O_)(k m:Int):Int:=(Builtin.bitAnd (wS ns k) 2147483647+1009*k*k+7919*m*m+12)*48271%2147483647
@[irreducible]def cn(ns:O_)(k m:Int):Int:=(wS ns k/2^(31*(m+128*LM ns k)).toNat+Ec ns k m*Ec ns k m%2147483629)%2147483648
def GN(ns:O_)(k m:Int):0<=cn ns k m/\cn ns k m<2147483648:=by unfold cn;show bI _ (by decide)
inductive IR(K:OZ)(vs:List V)(H:Hp)(Q:VK)(_E:XK):Prop|mk(a:Addr)(ns:O_)(k:Int)(_:vs=[.ref a,.int k])(_:aR K H a (ns.map V.int))(_:ns.length<=63)(_:Q (.int (wS ns k)) H)
inductive F9(K:OZ)(vs:List V)(H:Hp)(Q:VK)(_E:XK):Prop|mk(a:Addr)(ns:O_)(k m:Int)(_:vs=[.ref a,.int k,.int m])(_:aR K H a (ns.map V.int))(_:ns.length<=63)(_:(0<=k/\k<=1000000))(_:(0<=m/\m<=1000000))(_:Q (.int (cn ns k m)) H)
inductive Dq(K:OZ)(vs:List V)(H:Hp)(Q:VK)(_E:XK):Prop|mk(a:Addr)(ns:O_)(_:vs=[.ref a])(_:aR K H a (ns.map V.int))(_:ns.length<=63)(_:∀H',Q (.bl true) H')
section
variable{P:O4}{w:World}{K:OZ}{mg:O2}{base:Heap}{a:gz}
def rb(T:Txt K mg a):aP P w K mg base cV 1 a.jr.x a.jr.d ["_law_script","_law_k"] (IR K):=by
 show T.jr.ok yx λe A outer s H f Q E g h=>?_
 ·obtain⟨p,ns,k,rfl,b,i,q⟩:=h;show{_,(ag (aM (aC aW (ay (aI K ()) (by rfl) T.bq L2.aK (ac (Y 0) O)) af (aE _)) (ah (aB af)) aD) (ah (aB (hV K (Y 0) (aA aS (Y 1) (ay (aI K ()) (by rfl) T.bq L2.aK (ac (Y 0) O))))))),?_}
  show U () {_,ns.length,(),.inl {_,b,by simp},(),U () ?_};unfold wS at q;show kJ (λh0=>?_) (λh0=>?_)
  ·rw[hY (by lia)]at q;show q
  have c:(0:Int)<(ns.length:Int):=by lia
  have hm:=bI k c;rw[h_ (by lia)]at q;show U () (U () (U () {_,ns.length,(),.inl {_,b,by simp},_,U () {(),c,rX b (mU hm.1 hm.2) q}}))
def cy(T:Txt K mg a):aP P w K mg base cV 2 a.dS.x a.dS.d ["_law_script","_law_k","_law_salt"] (F9 K):=by
 show T.dS.ok kg λi A outer s H u Q E j h=>?_
 ·obtain⟨p,ns,k,m,rfl,e,l,⟨o,v⟩,⟨y,z⟩,q⟩:=h;show{_,(ag (bj 3 kg.nd (pc T.jr (rb T) j (ac (Y 0) (ac (Y 1) O)))) (ag (bj 4 kg.nd (aA bu (Y 1) (ay (CI ()) (by rfl) T.LB L2.Fo (ac af (ac (ay (aI K ()) (by rfl) T.bq L2.aK (ac (Y 0) O)) O))))) (ag (bj 5 kg.nd (aA bT (aA bT (aA bT (aA D6 (Y 3) af) (aA g9 (aA g9 af (Y 1)) (Y 1))) (aA g9 (aA g9 af (Y 2)) (Y 2))) af)) (ag (bj 5 kg.nd (aA aS (aA g9 (Y 5) af) af)) (ah (aB (aA D6 (aA bT (aA Jr (Y 3) (aA g9 af (aA bT (Y 2) (aA g9 af (Y 4))))) (aA aS (aA g9 (Y 5) (Y 5)) af)) af))))))),?_}
  unfold cn Ec LM at q;show U () (U () {p,ns,k,(),e,l,?_});generalize wS ns k=c at q⊢;have hn:∃n:Int,n=(if(ns.length:Int)>1 then(ns.length:Int)else 1)/\0<n/\n<1073741824:=(U () {by split<;>lia,by split<;>lia});obtain⟨n,f,n0,n1⟩:=hn;rw[<-f]at q;show U () (U () {_,ns.length,(),.inl {_,e,by simp},_,U () {_,n,(),by rw[f],(n0,n1,),?_}});have r:0<=k/n:=Int.ediv_nonneg o (by lia)
  try dsimp only
  generalize k/n=t at r q⊢;show U () (r2 (U () (r2 {.inl {by decide,by decide},U () (r2 {.inr {by lia,by lia},_,U () {(),U () (r2 {.inl {by decide,by decide},U () (r2 {.inr {by lia,by lia},_,U () {(),r2 ?_}})})}})})));show U () (r2 {.inr {by decide,by decide},_,U () {(),(by change(0:Int)<_;first|decide|lia),?_}});have b:=bI ((Builtin.bitAnd c 2147483647+1009*k*k+7919*m*m+12)*48271) (show(0:Int)<2147483647 by decide)
  try dsimp only
  generalize(Builtin.bitAnd c 2147483647+1009*k*k+7919*m*m+12)*48271%2147483647=g at b q⊢;show U () (U () (U () (r2 {.inl {by decide,by decide},_,U () {(),r2 {.inl {by decide,by decide},_,U () {(),(by change(0:Int)<=_;lia),U () (U () (r2 {.inl {by lia,by lia},_,U () {(),(by change(0:Int)<_;first|decide|lia),_,U () {(),r2 ?_}}}))}}}})))
  try dsimp only
  rw[JF];show q
def Cr(T:Txt K mg a)(s:Shared)(u:Value):BindsTo s a.law.d {[u],[]} [("_law_script",u)]:=by obtain⟨oc,i,kV,b,pm,j,c,ct,g,e,lk,h⟩:=T.law.f.ex;rw[e];show .of_eq ()
def Cq{p:Addr}{ns:O_}(c:ns.length<=63)(d:aR K H p (ns.map V.int)):Dq K [.ref p] H (λv _=>v=.bl true) λ_ _ _=>False:={p,ns,(),d,c,λ_=>()}
end
section
variable{j g:Type}{F G:j->g->Prop}{a c:List j}{b d:List g}
def Paired.mapM(h:Paired F a b)(f:∀x∈a,∀y,F x y->G x y):Paired G a b:=by induction h with|nil=>show .nil|cons h _ e=>show .cons (f _ k4 _ h) (e λx m=>f x (j_ _ m))
def Paired.ex(h:Paired F a b):∀x∈a,∃y,F x y:=by induction h with|nil=>showλx e=>(nomatch e)|cons h _ f=>
  intro x e;rcases s_.mp e with rfl|m
  ·show{_,h}
  ·show f x m
def Paired.at_(h:Paired F a b):∀(i:Nat)(x:j),a[i]?=some x->∃y,b[i]?=some y/\F x y:=by induction h with|nil=>showλi x e=>(nomatch e)|cons h _ f=>intro i x e;cases i with|zero=>obtain rfl:=iA e;show{_,(),h}|succ i=>show f i x e
def uc(h:Paired F a b):∀(i:Nat)(y:g),b[i]?=some y->∃x,a[i]?=some x/\F x y:=by induction h with|nil=>showλi x e=>(nomatch e)|cons h _ f=>intro i x e;cases i with|zero=>obtain rfl:=iA e;show{_,(),h}|succ i=>show f i x e
def xo(h:Paired F a b)(k:Paired F c d):Paired F (a++c) (b++d):=by induction h with|nil=>show k|cons h _ e=>show .cons h e
end
inductive Ru where|any|has(w:Str)|least(w:Str)(n:Int)|not(q:Ru)|both(q r:Ru)|either(q r:Ru)
def Ru.hgt:Ru->Nat|.any=>1|.has _=>1|.least _ _=>1|.not q=>q.hgt+1|.both q r=>max q.hgt r.hgt+1|.either q r=>max q.hgt r.hgt+1
def Ru.hgt_pos:∀r:Ru,0<r.hgt|.any=>Nat.one_pos|.has _=>Nat.one_pos|.least _ _=>Nat.one_pos|.not _=>Od _|.both _ _=>Od _|.either _ _=>Od _
def LY(w:Str)(m:Str×Int):Bool:=decide (V.str m.1=V.str w)
def hU(w:Str)(n:Int)(m:Str×Int):Bool:=if decide (V.str m.1=V.str w)=true then decide (n<=m.2)else false
def Ru.sat(c:List (Str×Int)):Ru->Bool|.any=>true|.has w=>(c.map (LY w)).any id|.least w n=>(c.map (hU w n)).any id|.not q=>!q.sat c|.both q r=>if q.sat c=true then r.sat c else false|.either q r=>if q.sat c=true then true else r.sat c
inductive fG(K:OZ)(H:Hp):Ru->V->Prop|any{a:Addr}:a0 K H a [.str "any"]->fG K H .any (.ref a)|has{a:Addr}{w:Str}:a0 K H a [.str "has",.str w]->fG K H (.has w) (.ref a)|least{a:Addr}{w:Str}{n:Int}:a0 K H a [.str "least",.str w,.int n]->fG K H (.least w n) (.ref a)|not{a:Addr}{q:Ru}{v:V}:a0 K H a [.str "not",v]->fG K H q v->fG K H (.not q) (.ref a)|both{a:Addr}{q r:Ru}{v u:V}:a0 K H a [.str "both",v,u]->fG K H q v->fG K H r u->fG K H (.both q r) (.ref a)|either{a:Addr}{q r:Ru}{v u:V}:a0 K H a [.str "either",v,u]->fG K H q v->fG K H r u->fG K H (.either q r) (.ref a)
def Ki(H H':Hp):Prop:=∀u b,H u=some (.tup b)->H' u=some (.tup b)
def Ki.sq{a:Addr}{d:List V}(e:Ki H H')(f:∀u o,(∃c,H u=some (.frz c o))->∃c,H' u=some (.frz c o))(h:a0 K H a d):a0 K H' a d:=by
 rcases h with h|h
 ·rcases h with h|h
  ·show .inl (.inl (e _ _ h))
  ·show .inl (.inr (f _ _ h))
 ·show .inr h
structure Kp(H H':Hp):Prop where
 tp:Ki H H'
 fz:∀u o,(∃o',H u=some (.frz o' o))->∃o',H' u=some (.frz o' o)
def Kp.trans(a:Kp H d)(b:Kp d e):Kp H e:={λu c h=>b.tp u c (a.tp u c h),λu o h=>b.fz u o (a.fz u o h)}
def Kp.of(h:am H H'):Kp H H':={λu c e=>h u _ e,λu o⟨b,e⟩=>{b,h u _ e}}
theorem Kp.lst{a:Addr}{o:HO}{d:List V}(c:H a=some (.lst d)):Kp H (aG H a o):={λu f h=>by rw[ak (λe=>by rw[e,c]at h;cases h)];show h,λu o⟨b,h⟩=>{b,by rw[ak (λe=>by rw[e,c]at h;cases h)];show h}}
def Kp.new{a:Addr}{o:HO}(hn:H a=none):Kp H (aG H a o):=.of (aj (am.refl H) hn)
def Kp.tq{a:Addr}{c:List V}(e:Kp H H')(h:a0 K H a c):a0 K H' a c:=e.tp.sq e.fz h
def fG.kp(e:Kp H H')(h:fG K H r v):fG K H' r v:=by induction h with|any h=>show .any (e.tq h)|has h=>show .has (e.tq h)|least h=>show .least (e.tq h)|not h _ q=>show .not (e.tq h) q|both h _ _ q r=>show .both (e.tq h) q r|either h _ _ q r=>show .either (e.tq h) q r
def qQ(K:OZ)(H:Hp)(d:List (Str×Int))(v:V):Prop:=∃a c,v=.ref a/\a0 K H a c/\c.length=d.length/\∀(i:Nat)(m:Str×Int),d[i]?=some m->∃b,c[i]?=some (.ref b)/\a0 K H b [.str m.1,.int m.2]
def qQ.kp(e:Kp H H')(h:qQ K H c v):qQ K H' c v:=by obtain⟨a,d,h1,h2,h3,h4⟩:=h;show{a,d,h1,e.tq h2,h3,λi m hm=>let⟨b,f,g⟩:=h4 i m hm;{b,f,e.tq g}}
def sW{c d:Type}{f:c->d}{l:List c}{i:Nat}{m:c}(h:l[i]?=some m):(l.take (i+1)).map f=(l.take i).map f++[f m]:=by rw[v_,h,hF];rfl
inductive j5(ws:O5):Ru->Prop|any:j5 ws .any|has{w:Str}:w∈ws->j5 ws (.has w)|least{w:Str}{n:Int}:w∈ws->-cQ<=n->n<=cQ->j5 ws (.least w n)|not{q:Ru}:j5 ws q->j5 ws (.not q)|both{q r:Ru}:j5 ws q->j5 ws r->j5 ws (.both q r)|either{q r:Ru}:j5 ws q->j5 ws r->j5 ws (.either q r)
def p7:(100:Int)<=cQ:=by have:=wa;lia
def Ru.subs:Ru->List Ru|.any=>[.any]|.has w=>[.has w]|.least w n=>[.least w n]|.not q=>.not q::q.subs|.both q r=>.both q r::(q.subs++r.subs)|.either q r=>.either q r::(q.subs++r.subs)
def Ru.cnt(r:Ru):Nat:=r.subs.length
def Ru.words:Ru->List Str|.any=>[]|.has w=>[w]|.least w _=>[w]|.not q=>q.words|.both q r=>q.words++r.words|.either q r=>q.words++r.words
def Ru.word1:Ru->Option Str|.has w=>some w|.least w _=>some w|_=>none
theorem Ru.words_subs:∀r:Ru,r.subs.filterMap Ru.word1=r.words|.any=>()|.has _=>()|.least _ _=>()|.not q=>by change(Ru.not q::q.subs).filterMap Ru.word1=q.words;rw[NY (),q.words_subs]|.both q r=>by change(Ru.both q r::(q.subs++r.subs)).filterMap Ru.word1=q.words++r.words;rw[NY (),so,q.words_subs,r.words_subs]|.either q r=>by change(Ru.either q r::(q.subs++r.subs)).filterMap Ru.word1=q.words++r.words;rw[NY (),so,q.words_subs,r.words_subs]
def A4{a b:Nat}:2^a+2^b<=2^(max a b+1):=by have h1:2^a<=2^max a b:=F_ (by decide) (On _ _);have h2:2^b<=2^max a b:=F_ (by decide) (N4 _ _);rw[Oe];lia
theorem Ru.cnt_lt:∀r:Ru,r.cnt+1<=2^r.hgt|.any=>e_ _|.has _=>e_ _|.least _ _=>e_ _|.not q=>by have h:=q.cnt_lt;change(q.subs.length+1)+1<=2^(q.hgt+1);unfold Ru.cnt at h;rw[Oe];have:=q.hgt_pos;have:2^1<=2^q.hgt:=F_ (by decide) this;lia|.both q r=>by have h1:=q.cnt_lt;have h2:=r.cnt_lt;change((q.subs++r.subs).length+1)+1<=2^(max q.hgt r.hgt+1);unfold Ru.cnt at h1 h2;rw[hQ];have:=A4 (a:=q.hgt) (b:=r.hgt);lia|.either q r=>by have h1:=q.cnt_lt;have h2:=r.cnt_lt;change((q.subs++r.subs).length+1)+1<=2^(max q.hgt r.hgt+1);unfold Ru.cnt at h1 h2;rw[hQ];have:=A4 (a:=q.hgt) (b:=r.hgt);lia
def Ru.words_le(r:Ru):r.words.length<=r.cnt:=by rw[<-r.words_subs];show Nh _ _
structure xW(s:Str)(m:Nat)(x:Str):Prop where
 lo:1<=x.length
 hi:x.length<=m
 cs:∀c∈x.cps.toList,c∈s.cps.toList
abbrev pJ:Str:="abcdefghijklmnopqrstuvwxyz"
abbrev j3:Str:="abcdefghijklmnopqrstuvwxyz0123456789"
abbrev Wd:Str->Prop:=xW pJ 12
abbrev xY:Str->Prop:=xW j3 24
def ED(x:Str):x.cps.toList.length=x.length:=by change x.cps.toList.length=x.cps.size;simp
def DJ:List Str:=["ab","ba","b","a","aab","abab","bab","aa","abb","baa","bb","soap"]
def AN:Nat->Str|0=>""|1=>"soap"|2=>"upperlayer"|_=>"z"
def jz(N:Int):Str:=AN (N%4).toNat
def CQ(N:Int):Int:=N/4%(((jz N).length:Int)+1)
def pK(k:Nat):Str:={#[97+k]}
def wg(i:Nat):Str:=(DJ[i]?).getD "a"
def En(z:Str)(i:Int)(c:Nat):Str:=Txt.slice z none (some i)++pK c++Txt.slice z (some i) none
def cI(k N:Int):Str:=if N/40%2=1 then wg ((k+N/80)%12).toNat else En (jz N) (CQ N) ((k+N/80)%26).toNat
def Ih(x:Str):Bool:=decide (x≠"nothingso")&&decide (1<=x.length)&&decide (x.length<=12)&&x.cps.toList.all λc=>decide (c∈pJ.cps.toList)
def CY(h:Ih x=true):Wd x:=by unfold Ih at h;rw[mu,mu,mu]at h;show{n_ h.1.1.2,n_ h.1.2,λc hc=>n_ (C1.mp h.2 c hc)}
def Gp:∀i∈List.range 12,Ih (wg i)=true:=dk ()
def DF:∀i∈List.range 12,∀j∈List.range 12,wg i=wg j->i=j:=dk ()
def JB:∀r∈List.range 4,∀i∈List.range 11,∀c∈List.range 26,Ih (En (AN r) (i:Int) c)=true:=dk ()
def BN(r:Nat):(AN r).length<=10:=by
 unfold AN
 split<;>decide+kernel
def we(N:Int):(jz N).length<=10:=BN _
def Ft(N:Int):0<=CQ N/\CQ N<((jz N).length:Int)+1:={Nk _ (by lia),Nm _ (by lia)}
def FM(k N:Int):Ih (cI k N)=true:=by
 unfold cI;have b1:=bI (k+N/80) (show(0:Int)<12 by decide);have b2:=bI (k+N/80) (show(0:Int)<26 by decide);have b3:=bI N (show(0:Int)<4 by decide);have b4:=Ft N;have b5:=we N
 split
 ·show Gp _ (by rw[t8];lia)
 ·have:=JB (N%4).toNat (by rw[t8];lia) (CQ N).toNat (by rw[t8];lia) ((k+N/80)%26).toNat (by rw[t8];lia);rw[show(((CQ N).toNat:Nat):Int)=CQ N by lia]at this;show this
def sR(k N:Int):Wd (cI k N):=CY (FM k N)
def GO(h:En z i c=En z i d):c=d:=by have h:((Txt.slice z none (some i)).cps++#[97+c]++(Txt.slice z (some i) none).cps)=((Txt.slice z none (some i)).cps++#[97+d]++(Txt.slice z (some i) none).cps):=p_ Str.cps h;have h2:=p_ Array.toList h;simp at h2;show h2
def Bg{i j a m:Int}(hi:0<=i/\i<m)(c:0<=j/\j<m)(h:((i+a)%m).toNat=((j+a)%m).toNat):i=j:=by
 have p:=λx=>Nk x (Int.ne_of_gt (Int.lt_of_le_of_lt hi.1 hi.2));have e:(i+a)%m=(j+a)%m:=by rw[<-Ow (p (i+a)),h,Ow (p (j+a))]
 rw[Int.emod_add_cancel_right,OJ hi.1 hi.2,OJ c.1 c.2]at e;show e
def pY(hi:0<=i/\i<12)(c:0<=j/\j<12)(h:cI i N=cI j N):i=j:=by
 unfold cI at h
 split at h
 ·show Bg hi c (DF _ (by rw[t8];omega) _ (by rw[t8];omega) h)
 ·show Bg (m:=26) {hi.1,Int.lt_trans hi.2 (by decide)} {c.1,Int.lt_trans c.2 (by decide)} (GO h)
def EC:∀c∈List.range 26,qO ("abcdefghijklmnopqrstuvwxyz":Str).cps.toList (c:Int)=some (97+c):=dk ()
def Dh:qO [V.str "",V.str "soap",V.str "upperlayer",V.str "z"] (N%4)=some (V.str (jz N)):=by have h1:0<=N%4:=Nk _ (by decide);have h2:N%4<4:=Nm _ (by decide);unfold jz;rcases(by lia:N%4=0\/N%4=1\/N%4=2\/N%4=3)with e|e|e|e<;>rw[e]<;>rfl
def DG:∀i∈List.range 12,qO (DJ.map V.str) (i:Int)=some (V.str (wg i)):=dk ()
inductive FV(vs:List V)(H:Hp)(Q:VK)(_E:XK):Prop|mk(k N:Int)(_:vs=[.int k,.int N])(_:∀H',am H H'->Q (.str (cI k N)) H')
local macro_rules|`(tactic|walk_at "a")=>`(tactic|(repeat(first|refine U rfl ?_|refine r2 ?_|refine⟨(rfl:gb _ _=true),?_⟩|refine⟨(show fZ _ _ from cd rfl),?_⟩|refine⟨(show(0:Int)<_ by first|decide|lia),?_⟩|refine⟨(rfl:V.int 10=V.int 10),rfl,?_⟩)))
section
def pC(T:Txt K mg a):aP P w K mg base cV 1 a.pV.x a.pV.d ["_law_k","_law_number"] FV:=by
 show T.pV.ok oO λp A outer s H z Q E B h=>?_
 ·obtain⟨k,N,rfl,q⟩:=h;show{_,(ag (aM (aC aW (aA aS (aA bu (Y 1) af) af) af (aE _)) (ag (bj 2 oO.nd (be (ac aF (ac aF (ac aF (ac aF (ac aF (ac aF (ac aF (ac aF (ac aF (ac aF (ac aF (ac aF O)))))))))))))) (ah (aB (hV K (Y 2) (aA aS (aA bT (Y 0) (aA bu (Y 1) af)) af))))) aD) (ag (bj 3 oO.nd (hV K (be (ac aF (ac aF (ac aF (ac aF O))))) (aA aS (Y 1) af))) (ag (bj 4 oO.nd (aA aS (aA bu (Y 1) af) (aA bT (ay (aI K ()) (by rfl) T.bq L2.aK (ac (Y 3) O)) af))) (ah (aB (aA jg (aA jg (gG xg (Y 3) iY (iX (Y 4))) (yF Ar aF (aA aS (aA bT (Y 0) (aA bu (Y 1) af)) af) (λ_ _=>()))) (gG xg (Y 3) (iX (Y 4)) iY))))))),?_}
  have b1:=bI (k+N/80) (show(0:Int)<12 by decide);have b2:=bI (k+N/80) (show(0:Int)<26 by decide);have r:=we N
  walk_at "a"
  show kJ (λf=>?_) (λf=>?_)
  ·have g:cI k N=wg ((k+N/80)%12).toNat:=hY f;show{ls (),λl i=>?_}
   walk_at "a"
   have c:=DG ((k+N/80)%12).toNat (by rw[t8];lia);rw[show((((k+N/80)%12).toNat:Nat):Int)=(k+N/80)%12 by lia]at c;show{l,_,_,U () {(),aR.of ae,c,?_}};rw[<-g];show q _ (aj (am.refl H) i)
  ·have g:cI k N=En (jz N) (CQ N) ((k+N/80)%26).toNat:=h_ f;show{ls (),λl i=>?_};have n:=aj (o:=.lst [V.str "",V.str "soap",V.str "upperlayer",V.str "z"]) (am.refl H) i;have e:aG H l (.lst [V.str "",V.str "soap",V.str "upperlayer",V.str "z"]) l=some (.lst [V.str "",V.str "soap",V.str "upperlayer",V.str "z"]):=ae;generalize aG H l (.lst [V.str "",V.str "soap",V.str "upperlayer",V.str "z"])=C at n e⊢
   walk_at "a"
   show{l,_,_,U () {(),aR.of e,Dh,aq ?_}};have t:=Ft N;have u:=Txt.slice_le (jz N) none (some (CQ N));have v:=Txt.slice_le (jz N) (some (CQ N)) none
   walk_at "a"
   show{_,(jz N).length,(),{df (by lia),()},_,U () {(),r2 {(by change(0:Int)<_;lia),aq ?_}}};have j:∀a b:Str,(a++b).length=a.length+b.length:=λa b=>by change(a.cps++b.cps).size=a.cps.size+b.cps.size;show Array.size_append
   have y:(pK ((k+N/80)%26).toNat).length=1:=();have c:=EC ((k+N/80)%26).toNat (by rw[t8];lia);rw[show((((k+N/80)%26).toNat:Nat):Int)=(k+N/80)%26 by lia]at c;show U () (U () {CQ N,(),jz N,(),df (by lia),?_})
   walk_at "a"
   show{"abcdefghijklmnopqrstuvwxyz",_,97+((k+N/80)%26).toNat,(),(),df (dk ()),c,_,pK ((k+N/80)%26).toNat,(),(),df (by lia),U () (U () {CQ N,(),jz N,(),df (by lia),_,U () {(),df (by rw[j];lia),?_}})};have m:Txt.slice (jz N) none (some (CQ N))++pK ((k+N/80)%26).toNat++Txt.slice (jz N) (some (CQ N)) none=cI k N:=by rw[g];rfl
   rw[m];show q _ n
end
inductive FW(K:OZ)(vs:List V)(H:Hp)(Q:VK)(_E:XK):Prop|mk(z:_)(_:vs=[.int z])(_:Q (.bl true) H)
def yI(s:Str)(m:Nat)(x:Str):Bool:=decide (1<=x.length)&&(decide (x.length<=m)&&x.cps.toList.all λc=>decide (c∈s.cps.toList))
def xW.b{s:Str}{m:Nat}{x:Str}(h:xW s m x):yI s m x=true:=by unfold yI;rw[k_ h.lo,k_ h.hi];show C1.mpr λc hc=>k_ (h.cs c hc)
def Id(K:OZ)(H:Hp)(v:V):Prop:=∃T,lD K H v (.type T)/\PySem.W.kitOne K (.type T) (.type "str")=some false
def Na(K:OZ)(H:Hp)(v:V):Prop:=Id K H v\/∃x:Str,v=.str x/\x.length<=60/\yI pJ 12 x=false
inductive Dl(K:OZ)(vs:List V)(H:Hp)(Q:VK)(_E:XK):Prop|mk(v:V)(s:Str)(m:Nat)(_:vs=[v,.str s,.int m])(_:((∃x:Str,v=.str x/\x.length<=60/\∀H',am H H'->Q (.bl (yI s m x)) H')\/(Id K H v/\Q (.bl false) H)))
inductive ML(K:OZ)(vs:List V)(H:Hp)(Q:VK)(_E:XK):Prop|mk(v:V)(_:vs=[v])(_:((∃x,v=.str x/\Wd x/\∀H',am H H'->Q (.bl true) H')\/(Na K H v/\∀H',am H H'->Q (.bl false) H')))
inductive Lb(vs:List V)(H:Hp)(Q:VK)(_E:XK):Prop|mk(x:_)(_:vs=[.str x])(_:xY x)(_:∀H',am H H'->Q (.bl true) H')
inductive La(vs:List V)(H:Hp)(Q:VK)(_E:XK):Prop|mk(z:_)(_:vs=[.int z])(_:(-cQ<=z/\z<=cQ))(_:Q (.bl true) H)
inductive Gf(vs:List V)(H:Hp)(Q:VK)(_E:XK):Prop|mk(z:_)(_:vs=[.int z])(_:0<=z)(_:Q (.bl true) H)
inductive FY(vs:List V)(H:Hp)(Q:VK)(_E:XK):Prop|mk(z:_)(_:vs=[.int z])(_:(0<=z/\z<=1000))(_:Q (.bl true) H)
inductive Dj(vs:List V)(H:Hp)(Q:VK)(_E:XK):Prop|mk(z:_)(_:vs=[.int z])(_:(1<=z/\z<=cQ))(_:Q (.bl true) H)
def kX{Q:VK}{p:Prop}[Decidable p]{H:Hp}(h:p)(q:Q (.bl true) H):Q (.bl (decide p)) H:=by rw[k_ h];show q
section
def jJ(T:Txt K mg a):aP P w K mg base cV 1 a.gO.x a.gO.d ["thing"] (FW K):=by
 show T.gO.ok yp λb A outer s H c Q E e h=>?_
 ·obtain⟨z,rfl,k⟩:=h;show{_,(ah (aB (cE (ay (kQ K ()) (by rfl) T.bf L2.aT (ac (Y 0) (ac (iJ () T.LC L2.Fp) O))) (dH (D0 (ay (kQ K ()) (by rfl) T.bf L2.aT (ac (Y 0) (ac (iJ () T.Jz L2.CP) O)))))))),?_};show U () {_,"int",_,true,(),.int z,dQ (dk ()),true,(),bG ?_};show U () {_,"bool",_,false,(),.int z,dQ (dk ()),false,(),k}
def nH(T:Txt K mg a):aP P w K mg base cV 1 a.gf.x a.gf.d ["thing","signs","longest"] (Dl K):=by
 show T.gf.ok ve λf A outer s H l Q E n h=>?_
 ·obtain⟨v,g,m,rfl,h⟩:=h;show{_,(ag (aM (ca (aO K () (ay (kQ K ()) (by rfl) T.bf L2.aT (ac (Y 0) (ac (iJ () T.HP L2.zy) O))) (λ_=>()))) (ah (aB gH)) aD) (ah (aB (cE (ug jI jI af (ay (aI K ()) (by rfl) T.bq L2.aK (ac (Y 0) O)) (Y 2)) (dH (ay (ij K () ()) (by rfl) T.uy L2.jm (ac (sC lE ["sign"] [] [3] (ai k9) (cq 3) (DZ (Y 0)) (λcl C s₀ H₀ ex=>{(mL lE ["sign"] 3),cp,(bL Ce (Y 3) (Y 1) (by with_unfolding_all rfl))})) O))))))),?_}
  rcases h with⟨x,rfl,o,q⟩|⟨⟨p,ty,j⟩,q⟩
  ·show U () {_,"str",_,true,(),.str x,dQ (dk ()),true,(),bW ?_};show U () {_,x.length,(),{by rw[ig];lia,()},_,U () {(),U () ?_}};unfold yI at q;show jk (λh1=>?_) (λh1=>?_)
   ·rw[k_ (show 1<=x.length by omega),Bool.true_and]at q;show U () (r2 (U () ?_));show jk (λh2=>?_) (λh2=>?_)
    ·rw[k_ (show x.length<=m by omega),Bool.true_and]at q;show U () {x,(),λD k=>?_};have r:=ED x;show Fg (K:=K) (z:=x) (λi b e=>b=((x.cps.toList.take i).map λc=>decide (c∈g.cps.toList)).map V.bl/\e=aG H D (.lst b)) {(),()} ?_ ?_
     ·rintro i c b e hc⟨rfl,rfl⟩;have hi:i<x.cps.toList.length:=(d_.mp hc).1;show aq (jv (bG ?_));show U () (U () {_,U () {(),ae,?_,lf hi {?_,?_}}})
      ·rw[b_,b_,mo,ig];lia
      ·rw[StrLaws.found_one,v_,hc,hF,hF];rfl
      ·rw[iy]
     ·rintro b e⟨rfl,rfl⟩;show{D,_,(),aR.of ae,?_};rw[iq (e_ _),List.all_map];show q _ (aj (am.refl _) k)
    ·rw[lm (show¬x.length<=m by omega),Bool.false_and]at q;show q H (am.refl H)
   ·rw[lm (show¬1<=x.length by omega),Bool.false_and]at q;show U () (bW (q H (am.refl H)))
  ·show U () {_,"str",_,false,(),ty,j,false,(),bG q}
def hE(T:Txt K mg a):aP P w K mg base cV 2 a.d0.x a.d0.d ["thing"] (ML K):=by
 show T.d0.ok zN λe A outer s H g Q E f h=>?_
 ·obtain⟨v,rfl,h⟩:=h;show{_,(ah (aB (pc T.gf (nH T) f (ac (Y 0) (ac (cD T.CO ()) (ac (cD T.uQ ()) O)))))),?_};show U () {v,_,12,(),?_};rcases h with⟨x,rfl,c,q⟩|⟨h|⟨x,rfl,h1,h2⟩,q⟩
  ·show .inl {x,(),by have:=c.hi;omega,by rw[c.b];show q}
  ·show .inr {h,q H (am.refl H)}
  ·show .inl {x,(),h1,by rw[h2];show q}
def yP(T:Txt K mg a):aP P w K mg base cV 2 a.kM.x a.kM.d ["thing"] Lb:=by
 show T.kM.ok yt λe A outer s H g Q E f h=>?_
 ·obtain⟨x,rfl,c,q⟩:=h;show{_,(ah (aB (pc T.gf (nH T) f (ac (Y 0) (ac (cD T.nQ ()) (ac (cD T.sE ()) O)))))),?_};show U () {.str x,_,24,(),.inl {x,(),by have:=c.hi;omega,by rw[c.b];show q}}
def px(T:Txt K mg a):aP P w K mg base cV 2 a.fD.x a.fD.d ["thing"] La:=by
 show T.fD.ok xk λb A outer s H e Q E c h=>?_
 ·obtain⟨z,rfl,⟨h1,h2⟩,q⟩:=h;show{_,(ah (aB (cE (pc T.gO (jJ T) c (ac (Y 0) O)) (dH (ug jI jI (Ls Il (aA ui af af)) (Y 0) (aA ui af af)))))),?_};show U () {z,(),U () (bG ?_)}
  walk_at "a"
  show jk (λ_=>?_) (λh=>absurd h1 h)
  walk_at "a"
  show kX h2 q
def iK(T:Txt K mg a):aP P w K mg base cV 2 a.fU.x a.fU.d ["thing"] Gf:=by
 show T.fU.ok yu λb A outer s H e Q E c h=>?_
 ·obtain⟨z,rfl,h1,q⟩:=h;show{_,(ah (aB (cE (pc T.gO (jJ T) c (ac (Y 0) O)) (dH (bL HN (Y 0) af (aE _)))))),?_};show U () {z,(),U () (bG ?_)}
  walk_at "a"
  show kX h1 q
def yN(T:Txt K mg a):aP P w K mg base cV 3 a.kK.x a.kK.d ["thing"] FY:=by
 show T.kK.ok yq λb A outer s H e Q E c h=>?_
 ·obtain⟨z,rfl,⟨h1,h2⟩,q⟩:=h;show{_,(ah (aB (cE (pc T.fU (iK T) c (ac (Y 0) O)) (dH (bL jI (Y 0) (cD T.xO ()) (aE _)))))),?_};show U () {z,(),h1,U () (bG ?_)}
  walk_at "a"
  show kX h2 q
def xr(T:Txt K mg a):aP P w K mg base cV 2 a.i4.x a.i4.d ["thing"] Dj:=by
 show T.i4.ok xj λb A outer s H e Q E c h=>?_
 ·obtain⟨z,rfl,⟨h1,h2⟩,q⟩:=h;show{_,(ah (aB (cE (pc T.gO (jJ T) c (ac (Y 0) O)) (dH (ug jI jI af (Y 0) (aA ui af af)))))),?_};show U () {z,(),U () (bG ?_)}
  walk_at "a"
  show jk (λ_=>?_) (λh=>absurd h1 h)
  walk_at "a"
  show kX h2 q
end
inductive IK(K:OZ)(vs:List V)(H:Hp)(Q:VK)(_E:XK):Prop|mk(b:Addr)(m:Str×Int)(_:vs=[.ref b])(_:a0 K H b [.str m.1,.int m.2])(_:Wd m.1)(_:(-cQ<=m.2/\m.2<=cQ))(_:∀H',am H H'->Q (.bl true) H')
inductive Ga(K:OZ)(vs:List V)(H:Hp)(Q:VK)(_E:XK):Prop|mk(v:V)(l:List (Str×Int))(_:vs=[v])(_:qQ K H l v)(_:(∀m∈l,Wd m.1/\-cQ<=m.2/\m.2<=cQ))(_:(l.map Prod.fst).Nodup)(_:l.length<=8)(_:∀H',am H H'->Q (.bl true) H')
inductive Dv(K:OZ)(vs:List V)(H:Hp)(Q:VK)(_E:XK):Prop|mk(p:Addr)(l:O_)(_:vs=[.ref p,.int (l.length:Nat)])(_:a0 K H p (l.map V.int))(_:(∀i∈l,0<=i))(_:l.length<=100)(_:∀H',am H H'->Q (.bl true) H')
inductive BQ(K:OZ)(vs:List V)(H:Hp)(Q:VK)(_E:XK):Prop|mk(p:Addr)(l:O_)(_:vs=[.ref p,.int (l.length:Nat)])(_:a0 K H p (l.map V.int))(_:(∀i∈l,1<=i/\i<=cQ))(_:l.length<=100)(_:∀H',am H H'->Q (.bl true) H')
inductive IU(K:OZ)(vs:List V)(H:Hp)(Q:VK)(_E:XK):Prop|mk(p:Addr)(l:O5)(_:vs=[.ref p])(_:a0 K H p (l.map V.str))(_:(∀w∈l,Wd w))(_:l.Nodup)(_:1<=l.length)(_:l.length<=4)(_:∀H',am H H'->Q (.bl true) H')
def i7(i:Nat):(List.replicate i true).map V.bl++[V.bl true]=(List.replicate (i+1) true).map V.bl:=by rw[List.replicate_succ',hF];rfl
def kd(n:Nat):(List.replicate n true).all id=true:=by simp
def kc(i:Nat)(h:i<=1000):((List.replicate i true).map V.bl).length<sizeLine:=by rw[b_,Es,ig];lia
def xD{c d:Type}{f:c->d}{l:List c}{i:Nat}{v:d}(h:(l.map f)[i]?=some v):∃x,l[i]?=some x/\v=f x/\x∈l:=by rw[g8]at h;cases e:l[i]?with|none=>rw[e]at h;cases h|some x=>rw[e]at h;cases h;show{x,(),(),gV e}
def wF(l:O5):(l.map (Sum.inr:Str->bV)).map kV=l.map V.str:=by rw[tA];rfl
def ze{l:O5}(h:l.Nodup):(dd (l.map (Sum.inr:Str->bV))).length=l.length:=by have:=(Kb (l.map (Sum.inr:Str->bV))).mpr (h.map _ (λa b h e=>h (q4 e)));rw[this,b_]
section
def Ae(T:Txt K mg a):aP P w K mg base cV 3 a.mS.x a.mS.d ["thing"] (IK K):=by
 show T.mS.ok zQ λg A outer s H j Q E e h=>?_
 ·obtain⟨b,m,rfl,c,h1,h2,q⟩:=h;show{_,(ah (aB (cE (ay (fi K ()) (by rfl) T.bf L2.aT (ac (Y 0) (ac (iJ () T.dL L2.bK) O))) (cE (bL aW (ay (aI K ()) (by rfl) T.bq L2.aK (ac (Y 0) O)) af (aE _)) (cE (pc T.d0 (hE T) e (ac (dh K (Y 0) af) O)) (dH (pc T.fD (px T) e (ac (dh K (Y 0) af) O)))))))),?_};show U () {_,"tuple",_,true,(),.inr {b,U () {c,()}},dQ (dk ()),true,(),bG ?_};show U () {_,2,(),.inr {_,c,()},(),U () (bG ?_)};show U () (rX c () {V.str m.1,(),.inl {m.1,(),h1,λi f=>(U () (bG ?_))}});show U () (rX (am.tseq f c) () {m.2,(),h2,q i f})
def xt(T:Txt K mg a):aP P w K mg base cV 4 a.i6.x a.i6.d ["thing"] (Ga K):=by
 show T.i6.ok xm λW A outer s H g Q E X h=>?_
 ·obtain⟨v,l,rfl,Z,h1,h2,h3,q⟩:=h;obtain⟨p,g,rfl,j,B,y⟩:=Z;show{_,(ag (aM (PW.pt (fI (ca (aO K () (ay (fi K ()) (by rfl) T.bf L2.aT (ac (Y 0) (ac (iJ () T.dL L2.bK) O))) (λ_=>()))) (dO (aC mh (ay (aI K ()) (by rfl) T.bq L2.aK (ac (Y 0) O)) (cD T.xR ()) (aE _))))) (ah (aB gH)) aD) (ag (aM (ca (aO K () (ay (ij K () ()) (by rfl) T.uy L2.jm (ac (sC ["thing"] ["mark"] [] [1] (ai jE) (cq 1) (iG K () (Y 0)) (λcl C s₀ H₀ ex=>{(mL ["thing"] ["mark"] 1),cp,(pc T.mS (Ae T) X (ac (Y 1) O))})) O)) (λ_=>()))) (ah (aB gH)) aD) (ah (aB (bL aW (ay (uN (P:=P) (w:=w)) (by rfl) T.bq L2.aK (ac (cx (uM (P:=P) (w:=w) K () ()) (by rfl) T.Ed L2.uS (ac (sC ["thing"] ["mark"] [] [1] (ai jE) (cq 1) (iG K () (Y 0)) (λcl C s₀ H₀ ex=>{(mL ["thing"] ["mark"] 1),cp,(dh K (Y 1) af)})) O)) O)) (ay (aI K ()) (by rfl) T.bq L2.aK (ac (Y 0) O)) (aE _)))))),?_}
  show U () {_,"tuple",_,true,(),.inr {p,U () {j,()}},dQ (dk ()),true,(),bW ?_};show U () {_,g.length,(),.inr {_,j,()},_,U () {(),U () (jk (λh=>absurd h (by lia)) (λ_=>?_))}};show U () {p,(),{_,j},λD L=>?_};show gR (K:=K) (a:=p) (xs:=g) (λi c H'=>c=(List.replicate i true).map V.bl/\am H H'/\H' D=some (.lst c)) {(),aj (am.refl _) L,ae} (λi c H' _ h=>am.tseq h.2.1 j) ?_ ?_
  ·rintro i v c M k⟨rfl,n,r⟩;have hi:i<g.length:=(d_.mp k).1;have e:l[i]?=some (l[i]'(by lia)):=g6 (by lia);generalize l[i]'(by lia)=m at e;obtain⟨b,F,G⟩:=y i m e;rw[F]at k;cases k;have hm:=h1 m (gV e);show aq (jv (bG (U () {b,m,(),am.tseq n G,hm.1,hm.2,λI t=>{t _ _ r,kc i (by lia),lf hi {i7 i,bM (n.trans t) L,ae}}})))
  ·rintro c M⟨rfl,n,r⟩;show{D,_,(),aR.of r,_,(),?_};rw[kd];show bW (U () {p,(),{_,am.tseq n j},λN z=>?_});show gR (K:=K) (a:=p) (xs:=g) (λi c H'=>c=((l.take i).map Prod.fst).map V.str/\am M H'/\H' N=some (.lst c)) {by rw[y1];rfl,aj (am.refl _) z,ae} (λi c H' _ h=>am.tseq (n.trans h.2.1) j) ?_ ?_
   ·rintro i v c I k⟨rfl,t,f⟩;have hi:i<g.length:=(d_.mp k).1;have e:l[i]?=some (l[i]'(by lia)):=g6 (by lia);generalize l[i]'(by lia)=m at e;obtain⟨b,F,G⟩:=y i m e;rw[F]at k;cases k;show aq (jv (bG (U () (rX (am.tseq (n.trans t) G) () {f,?_,lf hi {?_,bM t z,ae}}))))
    ·rw[b_,b_,mo,ig];lia
    ·rw[sW e,hF];rfl
   ·rintro c I⟨rfl,t,f⟩;rw[iq (by lia),<-wF]at f;have u:=ze h2;rw[b_]at u;show{N,(l.map Prod.fst).map Sum.inr,(),aR.of f,by rw[b_,b_];lia,λR J=>?_};show{R,U () {ae,by rw[u];omega,?_}};have S:∀o,am H (aG I R o):=λo=>aj (n.trans t) J;show U () {_,g.length,(),.inr {_,am.tseq (S _) j,()},(),?_};rw[u,<-B,k_ ()];show q _ (S _)
def vz(T:Txt K mg a):aP P w K mg base cV 3 a.io.x a.io.d ["thing","many"] (Dv K):=by
 show T.io.ok vj λk A outer s H t Q E m h=>?_
 ·obtain⟨p,l,rfl,e,h1,h2,q⟩:=h;show{_,(ah (aB (cE (ay (fi K ()) (by rfl) T.bf L2.aT (ac (Y 0) (ac (iJ () T.dL L2.bK) O))) (cE (bL aW (ay (aI K ()) (by rfl) T.bq L2.aK (ac (Y 0) O)) (Y 1) (aE _)) (dH (ay (ij K () ()) (by rfl) T.uy L2.jm (ac (sC i0 ["number"] [] [2] (ai lc) (cq 2) (iG K () (Y 0)) (λcl C s₀ H₀ ex=>{(mL i0 ["number"] 2),cp,(pc T.fU (iK T) m (ac (Y 2) O))})) O))))))),?_}
  show U () {_,"tuple",_,true,(),.inr {p,U () {e,()}},dQ (dk ()),true,(),bG ?_};show U () {_,l.length,(),.inr {_,e,by simp},U () {(),U () ?_}};rw[k_ ()];show bG (U () {p,(),{_,e},λD g=>?_});show gR (K:=K) (a:=p) (xs:=l.map V.int) (λi b H'=>b=(List.replicate i true).map V.bl/\am H H'/\H' D=some (.lst b)) {(),aj (am.refl _) g,ae} (λi b H' _ h=>am.tseq h.2.1 e) ?_ ?_
  ·rintro i v b n j⟨rfl,f,c⟩;have hi:=(d_.mp j).1;obtain⟨z,_,rfl,o⟩:=xD j;have r:i<l.length:=by simpa using hi
   show aq (jv (bG (U () {z,(),h1 z o,c,kc i (by lia),lf hi {i7 i,bM f g,ae}})))
  ·rintro b n⟨rfl,f,c⟩;show{D,_,(),aR.of c,?_};rw[kd];show q _ f
def ur(T:Txt K mg a):aP P w K mg base cV 3 a.gx.x a.gx.d ["thing","many"] (BQ K):=by
 show T.gx.ok tO λk A outer s H t Q E m h=>?_
 ·obtain⟨p,l,rfl,e,h1,h2,q⟩:=h;show{_,(ah (aB (cE (ay (fi K ()) (by rfl) T.bf L2.aT (ac (Y 0) (ac (iJ () T.dL L2.bK) O))) (cE (bL aW (ay (aI K ()) (by rfl) T.bq L2.aK (ac (Y 0) O)) (Y 1) (aE _)) (dH (ay (ij K () ()) (by rfl) T.uy L2.jm (ac (sC nR ["number"] [] [2] (ai jX) (cq 2) (iG K () (Y 0)) (λcl C s₀ H₀ ex=>{(mL i0 ["number"] 2),cp,(pc T.i4 (xr T) m (ac (Y 2) O))})) O))))))),?_}
  show U () {_,"tuple",_,true,(),.inr {p,U () {e,()}},dQ (dk ()),true,(),bG ?_};show U () {_,l.length,(),.inr {_,e,by simp},U () {(),U () ?_}};rw[k_ ()];show bG (U () {p,(),{_,e},λD g=>?_});show gR (K:=K) (a:=p) (xs:=l.map V.int) (λi b H'=>b=(List.replicate i true).map V.bl/\am H H'/\H' D=some (.lst b)) {(),aj (am.refl _) g,ae} (λi b H' _ h=>am.tseq h.2.1 e) ?_ ?_
  ·rintro i v b n j⟨rfl,f,c⟩;have hi:=(d_.mp j).1;obtain⟨z,_,rfl,o⟩:=xD j;have r:i<l.length:=by simpa using hi
   show aq (jv (bG (U () {z,(),h1 z o,c,kc i (by lia),lf hi {i7 i,bM f g,ae}})))
  ·rintro b n⟨rfl,f,c⟩;show{D,_,(),aR.of c,?_};rw[kd];show q _ f
def yS(T:Txt K mg a):aP P w K mg base cV 3 a.kR.x a.kR.d ["thing"] (IU K):=by
 show T.kR.ok yw λB A outer s H J Q E F h=>?_
 ·obtain⟨p,l,rfl,e,h1,h2,h3,h4,q⟩:=h;show{_,(ag (aM (PW.pt (fI (ca (aO K () (ay (fi K ()) (by rfl) T.bf L2.aT (ac (Y 0) (ac (iJ () T.dL L2.bK) O))) (λ_=>()))) (dO (ca (yD jI jI af (ay (aI K ()) (by rfl) T.bq L2.aK (ac (Y 0) O)) (cD T.zx ())))))) (ah (aB gH)) aD) (ah (aB (cE (ay (ij K () ()) (by rfl) T.uy L2.jm (ac (sC ["thing"] ["arm"] [] [1] (ai nX) (cq 1) (iG K () (Y 0)) (λcl C s₀ H₀ ex=>{(mL ["thing"] ["arm"] 1),cp,(pc T.d0 (hE T) F (ac (Y 1) O))})) O)) (dH (bL aW (ay (uN (P:=P) (w:=w)) (by rfl) T.bq L2.aK (ac (cx (AE (P:=P) (w:=w) K () ()) (by rfl) T.Ed L2.uS (ac (Y 0) O)) O)) (ay (aI K ()) (by rfl) T.bq L2.aK (ac (Y 0) O)) (aE _))))))),?_}
  show U () {_,"tuple",_,true,(),.inr {p,U () {e,()}},dQ (dk ()),true,(),bW ?_};have f:l.length=(l.map V.str).length:=by simp
  show U () {_,l.length,(),.inr {_,e,f},_,U () {(),U () (jk (λ_=>?_) (λh=>absurd (by lia) h))}};show r2 (U () ?_);change if(!decide ((l.length:Int)<=4))=true then _ else _
  rw[k_ (show(l.length:Int)<=4 by lia)];show bW ?_;show U () {p,(),{_,e},λD m=>?_};show gR (K:=K) (a:=p) (xs:=l.map V.str) (λi b H'=>b=(List.replicate i true).map V.bl/\am H H'/\H' D=some (.lst b)) {(),aj (am.refl _) m,ae} (λi b H' _ h=>am.tseq h.2.1 e) ?_ ?_
  ·rintro i v b n r⟨rfl,j,c⟩;have hi:=(d_.mp r).1;obtain⟨z,_,rfl,G⟩:=xD r;have I:i<l.length:=by simpa using hi
   show aq (jv (bG (U () {V.str z,(),.inl {z,(),h1 z G,λM t=>{t _ _ c,kc i (by lia),lf hi {i7 i,bM (j.trans t) m,ae}}}})))
  ·rintro b n⟨rfl,j,c⟩;show{D,_,(),aR.of c,_,(),?_};rw[kd];have g:=ze h2;show bG (U () {p,l.map Sum.inr,(),by rw[wF];show am.tseq j e,by rw[b_];lia,λu k=>?_});show{u,U () {ae,by rw[g];omega,?_}};have y:∀o,am H (aG n u o):=λo=>aj j k;show U () {_,l.length,(),.inr {_,am.tseq (y _) e,f},(),?_};rw[g,k_ ()];show q _ (y _)
end
def sH{A B:Prop}{x y:Str}(h:x≠y)(b:B):if decide (V.str x=V.str y)=true then A else B:=EK (λe=>absurd e h) (λ_=>b)
def bZ{A B:Prop}{x:Str}(a:A):if decide (V.str x=V.str x)=true then A else B:=EK (λ_=>a) (λh=>absurd () h)
def wn{A B:Prop}{x y:Str}(b:B)(h:(x==y)=false:=by first|rfl|(dsimp only[Ru.kind];rfl)):if decide (V.str x=V.str y)=true then A else B:=sH (ne_of_beq_false h) b
abbrev jo(K:OZ)(H:Hp):List Ru->List V->Prop:=Paired (fG K H)
theorem jo.kp(e:Kp H H')(h:jo K H c d):jo K H' c d:=Paired.mapP h λ_ _ q=>q.kp e
def jo.app(h:jo K H c d)(k:jo K H e f):jo K H (c++e) (d++f):=xo h k
def jo.get(h:jo K H c d)(i:Nat)(v:V)(e:d[i]?=some v):∃r,c[i]?=some r/\fG K H r v:=uc h i v e
def Ru.kids:Ru->List Ru|.not q=>[q]|.both q r=>[q,r]|.either q r=>[q,r]|_=>[]
def Ru.kind:Ru->Str|.any=>"any"|.has _=>"has"|.least _ _=>"least"|.not _=>"not"|.both _ _=>"both"|.either _ _=>"either"
def Ru.deep:Ru->Bool|.not _=>true|.both _ _=>true|.either _ _=>true|_=>false
def Ru.subs_kids(r:Ru):r.subs=r::(r.kids.map Ru.subs).flatten:=by cases r<;>simp[Ru.subs,Ru.kids]
def fG.tup(h:fG K H r v):∃t c,v=.ref t/\a0 K H t (.str r.kind::c)/\(r.deep=true->jo K H r.kids c/\c≠[])/\(∀w,r.word1=some w->∃d,c=.str w::d):=by cases h with|any h=>show{_,_,(),h,λe=>(nomatch e),λw e=>(nomatch e)}|has h=>show{_,_,(),h,λe=>(nomatch e),λw e=>by cases e;show{_,()}}|least h=>show{_,_,(),h,λe=>(nomatch e),λw e=>by cases e;show{_,()}}|not h q=>show{_,U () {h,λ_=>{.cons q .nil,nofun},λw e=>(nomatch e)}}|both h q r=>show{_,U () {h,λ_=>{.cons q (.cons r .nil),nofun},λw e=>(nomatch e)}}|either h q r=>show{_,U () {h,λ_=>{.cons q (.cons r .nil),nofun},λw e=>(nomatch e)}}
def G9(r:Ru):nO (.str r.kind) [.str "not",.str "both",.str "either"]=r.deep:=by cases r with|any=>show(show nO (.str "any") [.str "not",.str "both",.str "either"]=false by decide+kernel)|has _=>show(show nO (.str "has") [.str "not",.str "both",.str "either"]=false by decide+kernel)|least _ _=>show(show nO (.str "least") [.str "not",.str "both",.str "either"]=false by decide+kernel)|not _=>show(show nO (.str "not") [.str "not",.str "both",.str "either"]=true by decide+kernel)|both _ _=>show(show nO (.str "both") [.str "not",.str "both",.str "either"]=true by decide+kernel)|either _ _=>show(show nO (.str "either") [.str "not",.str "both",.str "either"]=true by decide+kernel)
def G8(r:Ru):nO (.str r.kind) [.str "has",.str "least"]=r.word1.isSome:=by cases r with|any=>show(show nO (.str "any") [.str "has",.str "least"]=false by decide+kernel)|has _=>show(show nO (.str "has") [.str "has",.str "least"]=true by decide+kernel)|least _ _=>show(show nO (.str "least") [.str "has",.str "least"]=true by decide+kernel)|not _=>show(show nO (.str "not") [.str "has",.str "least"]=false by decide+kernel)|both _ _=>show(show nO (.str "both") [.str "has",.str "least"]=false by decide+kernel)|either _ _=>show(show nO (.str "either") [.str "has",.str "least"]=false by decide+kernel)
def G1{r k:Ru}{n:Nat}(h:k∈r.kids)(hh:r.hgt<=n+1):k.hgt<=n:=by
 cases r with|any=>cases h|has _=>cases h|least _ _=>cases h|not q=>
  have:k=q:=by simpa[Ru.kids]using h
  have hh:q.hgt+1<=n+1:=hh;rw[this];lia|both q r=>
  have:k=q\/k=r:=by simpa[Ru.kids]using h
  have hh:max q.hgt r.hgt+1<=n+1:=hh;have h1:=On q.hgt r.hgt;have h2:=N4 q.hgt r.hgt;rcases this with rfl|rfl<;>lia|either q r=>
  have:k=q\/k=r:=by simpa[Ru.kids]using h
  have hh:max q.hgt r.hgt+1<=n+1:=hh;have h1:=On q.hgt r.hgt;have h2:=N4 q.hgt r.hgt;rcases this with rfl|rfl<;>lia
def Fd(x:V)(c:List V):HT.iF (x::c).length 0 (some 1)=1:=by change(if(1:Int)<0 then((1:Int)+((x::c).length:Int)).toNat else min (1:Int).toNat (c.length+1))=1;rw[h_ (by decide)];change min 1 (c.length+1)=1;lia
def Hj(x:V)(c:List V):¬HT.iF (x::c).length 0 (some 1)=0:=by rw[Fd];decide
def Fc(x:V)(c:List V):vI (x::c) (some 1) none=c:=by unfold vI;rw[Fd,HT.DQ];change c.take ((c.length+1)-1)=c;rw[Nat.add_sub_cancel,iq (e_ _)]
inductive Di(K:OZ)(h:Nat)(vs:List V)(H:Hp)(Q:VK)(_E:XK):Prop|mk(r:Ru)(rv:V)(_:vs=[rv])(_:fG K H r rv)(_:r.hgt<=h)(_:h<=6)(_:∀(l:Addr)(us:List V)(H':Hp),am H H'->H l=none->H' l=some (.lst us)->jo K H' r.subs us->Q (.ref l) H')
section
theorem jY(T:Txt K mg a):∀h:Nat,aP P w K mg base cV (h+1) a.bU.x a.bU.d ["rule"] (Di K h)
 |0=>by
  show T.bU.f.ok iC (λe H Q E h=>?_) (λZ A outer s H e Q E hr h=>?_)
  ·obtain⟨r,rv,rfl,_⟩:=h;rfl
  ·obtain⟨r,rv,rfl,_,hh,_⟩:=h;have:=r.hgt_pos;lia|n+1=>by
  have ih:=jY T n;show T.bU.f.ok iC (λe H Q E h=>?_) (λZ A outer s H e Q E hr h=>?_)
  ·obtain⟨r,rv,rfl,_⟩:=h;rfl
  ·obtain⟨r,rv,rfl,hR,hh,h6,q⟩:=h;obtain⟨t,e,rfl,hT,v,_⟩:=hR.tup;show{_,(ag (bj 1 iC.nd (be (ac (Y 0) O))) (ag (aM (aC (qi K ()) (dh K (Y 0) af) (bx (ac aF (ac aF (ac aF O)))) (by with_unfolding_all rfl)) (ah (dP np () (iG K () (gG (AR K ()) (Y 0) (iX af) iY)) (oA 2 iC.nd) (ah (aJ (eZ K () PySem.F.plainAttrs_list PySem.F.slot_list_extend PySem.F.type_list_extend wB (Y 1) (ac (bQ ih hr () T.bU.m T.bU.f.kp T.bU.b .nil aV (ac (Y 2) O)) O)))))) aD) (ah (aB (Y 1))))),?_}
   show U () {ls (),λl R=>?_};have s0:=aj (o:=.lst [.ref t]) (am.refl H) R;have y:aG H l (.lst [.ref t]) l=some (.lst [.ref t]):=ae
   try dsimp only
   generalize aG H l (.lst [.ref t])=H0 at s0 y⊢;show U () (rX (am.tseq s0 hT) (ao (k:=0) ()) {ls (),λt3 G=>?_});have I:=aj (o:=.tup [.str "not",.str "both",.str "either"]) s0 G;have j:aG H0 t3 (.tup [.str "not",.str "both",.str "either"]) l=some (.lst [.ref t]):=by rw[ak (av y G)];show y
   show{t3,U () {.inr (a0.of ae),(),(),U () ?_}};change if nO (.str r.kind) [.str "not",.str "both",.str "either"]=true then _ else _
   rw[G9]
   try dsimp only
   generalize aG H0 t3 (.tup [.str "not",.str "both",.str "either"])=S at I j⊢;cases hd:r.deep with
 |false=>
    show bW (U () ?_);have hs:r.subs=[r]:=by cases r<;>first|rfl|cases hd
    show q l [.ref t] S I R j (by rw[hs];show .cons (hR.kp (.of I)) .nil)|true=>
    obtain⟨hK,as⟩:=v hd;show bG ?_;show{_,(),_,(),?_};have hc:=r.cnt_lt;have ax:2^r.hgt<=2^6:=F_ (by decide) (by lia);have aa:e.length=r.kids.length:=(Paired.length hK).symm;have J:∀(i:Nat)(k:Ru),r.kids[i]?=some k->k.hgt<=n:=λi k V=>G1 (gV V) hh;show{t,U () {am.tseq I hT,λz=>absurd z.1 (Hj _ _),λp hp=>?_}};rw[Fc];have s2:=aj (o:=.tup e) I hp;have L:aG S p (.tup e) l=some (.lst [.ref t]):=by rw[ak (av j hp)];show j
    have B:aG S p (.tup e) p=some (.tup e):=ae
    try dsimp only
    generalize aG S p (.tup e)=H2 at s2 L B⊢;show{p,(),{_,a0.of B},Hf (xs:=e) (D:={nx:=KR (Ir 1) {nx:=λ_ H'=>Q .non H',rt:=Q},rt:=Q}) (λi W H'=>am H H'/\H' p=some (.tup e)/\(∃C,H' l=some (.lst C)/\jo K H' (r::((r.kids.take i).map Ru.subs).flatten) C)/\∃v2,W=[some (.ref t),some (.ref l),v2]) {s2,B,{[.ref t],L,.cons (hR.kp (.of s2)) .nil},_,()} (λi W H' _ h=>a0.of h.2.1) ?_ ?_}
    ·rintro i x W H3 hx⟨X,u,⟨C,c,g⟩,v2,rfl⟩;obtain⟨k,V,ad⟩:=jo.get hK i x hx;show aq (U () {.inl {(),_,aR.of c},U () {k,x,(),ad.kp (.of X),J i k V,by lia,λl' an H4 M a2 ap N=>?_}});have e1:((r.kids.take (i+1)).map Ru.subs).flatten=((r.kids.take i).map Ru.subs).flatten++k.subs:=by rw[v_,V,hF,List.flatten_append];simp
     have n1:=Paired.length g;have n2:=Paired.length N;have n3:(((r.kids.take i).map Ru.subs).flatten).length+k.subs.length<=64:=by
      have e2:r.subs.length=1+((r.kids.map Ru.subs).flatten).length:=by rw[r.subs_kids,m_];lia
      have e3:((r.kids.map Ru.subs).flatten).length=(((r.kids.take (i+1)).map Ru.subs).flatten).length+(((r.kids.drop (i+1)).map Ru.subs).flatten).length:=by rw[<-hQ,<-List.flatten_append,<-hF,si]
      rw[e1,hQ]at e3;unfold Ru.cnt at hc;lia
     rw[m_]at n1;show{l,l',_,U () {(),M _ _ c,ap,by rw[ig];lia,?_}};have kq:Kp H4 (aG H4 l (.lst (C++an))):=.lst (M _ _ c);show{bM (X.trans M) R,?_,{_,ae,?_},_,()}
     ·rw[ak (λz=>by rw[z,c]at u;cases u)];show M _ _ u
     ·rw[e1,<-List.cons_append];show jo.app ((g.kp (.of M)).kp kq) (N.kp kq)
    ·rintro W H3⟨X,u,⟨C,c,g⟩,v2,rfl⟩;show U () (q l C H3 X R c ?_);rw[r.subs_kids];rw[aa,iq (e_ _)]at g;show g
end
def Ka[DecidableEq g][BEq g][LawfulBEq g][DecidableEq h][BEq h][LawfulBEq h](f:g->h)(i:∀a b,f a=f b->a=b)(d:List g):dd (d.map f)=(dd d).map f:=by
 have gen:∀(d c:List g),(d.map f).foldl PyProof.Rows.step_dedup (c.map f)=(d.foldl PyProof.Rows.step_dedup c).map f:=by
  intro d
  induction d with|nil=>intro c;rfl|cons k r j=>
   intro c;rw[m3,w_,w_,<-j]
   congr 1
   unfold PyProof.Rows.step_dedup;have e:(c.map f).any (λy=>y==f k)=c.any (λy=>y==k):=by
    rw[List.any_map]
    congr 1
    funext y
    change(f y==f k)=(y==k)
    by_cases q:y=k
    ·rw[q,qq,qq]
    ·rw[beq_false_of_ne q,beq_false_of_ne (λz=>q (i _ _ z))]
   by_cases q:c.any (λy=>y==k)=true
   ·rw[hY (e.trans q),hY q]
   ·rw[h_ (λz=>q (e.symm.trans z)),h_ q,hF];rfl
 show gen d []
def Ru.wset(r:Ru):List Str:=dd r.words
def Ru.wset_keys(r:Ru):dd (r.words.map (Sum.inr:Str->bV))=r.wset.map Sum.inr:=Ka Sum.inr (λ_ _ h=>q4 h) r.words
def Ru.wset_le(r:Ru):r.wset.length<=r.cnt:=by have h1:=qG r.words [];have h2:=r.words_le;unfold Ru.wset dd;simp at h1;lia
inductive FU(K:OZ)(vs:List V)(H:Hp)(Q:VK)(_E:XK):Prop|mk(r:Ru)(rv:V)(_:vs=[rv])(_:fG K H r rv)(_:r.hgt<=6)(_:∀(l:Addr)(ss:O5)(H':Hp),am H H'->H l=none->H' l=some (.lst (ss.map V.str))->ss.Perm r.wset->ss.Pairwise mV->Q (.ref l) H')
section
def yJ(T:Txt K mg a):aP P w K mg base cV 8 a.j9.x a.j9.d ["rule"] (FU K):=by
 show T.j9.ok yo λaa A outer s H vs Q E hr h=>?_
 ·obtain⟨r,rv,rfl,hR,hh,q⟩:=h;show{_,(ah (aB (ay (xL (P:=P) (w:=w) ()) (by rfl) T.ux L2.mB (ac (cx (uM (P:=P) (w:=w) K () ()) (by rfl) T.Ed L2.uS (ac (sC ["rule"] ["inner"] [] [1] (ai nV) (cq 1) (cO K () (bQ ((jY T 6).mono (by decide)) hr () T.bU.m T.bU.f.kp T.bU.b .nil aV (ac (Y 0) O))) (λcl C s₀ H₀ ex=>{(mL ["rule"] ["inner"] 1),(mK (aC (qi K ()) (dh K (Y 1) af) (bx (ac aF (ac aF O))) (by with_unfolding_all rfl))),(dh K (Y 1) af)})) O)) O)))),?_}
  show U () {r,rv,(),hR,hh,e_ _,λl F H1 M hl u y=>?_};have hc:=r.cnt_lt;have ad:2^r.hgt<=2^6:=F_ (by decide) (by lia);have G:F.length=r.subs.length:=(Paired.length y).symm;have an:r.subs.length<64:=by unfold Ru.cnt at hc;lia
  show{l,(),{_,aR.of u},λD N=>?_};show i5 (K:=K) (a:=l) (xs:=F) (λi e H'=>e=((r.subs.take i).filterMap Ru.word1).map V.str/\am H1 H'/\H' D=some (.lst e)) {by rw[y1];rfl,aj (am.refl _) N,ae} (λi e H' _ h=>aR.of (h.2.1 _ _ u)) ?_ ?_
  ·rintro i v e B R⟨rfl,p,c⟩;have hi:i<F.length:=(d_.mp R).1;obtain⟨k,hk,I⟩:=jo.get y i v R;obtain⟨t,vs,rfl,S,_,hw⟩:=(I.kp (.of p)).tup;show aq (U () (rX S (ao (k:=0) ()) {ls (),λW J=>?_}));have g:=aj (o:=.tup [.str "has",.str "least"]) (am.refl B) J;show{W,U () {.inr (a0.of ae),(),(),U () ?_}};change if nO (.str k.kind) [.str "has",.str "least"]=true then _ else _
   rw[G8]
   try dsimp only
   generalize aG B W (.tup [.str "has",.str "least"])=H3 at g⊢;have X:(r.subs.take (i+1)).filterMap Ru.word1=(r.subs.take i).filterMap Ru.word1++k.word1.toList:=by
    rw[v_,hk,so]
    congr 1
   have fl:((r.subs.take i).filterMap Ru.word1).length<=i:=kl (Nh _ _) (A_ _ _);cases j:k.word1 with|none=>show bW (lf hi {?_,p.trans g,g _ _ c});rw[X,j];simp|some wd=>
    obtain⟨ap,rfl⟩:=hw wd j;show bG (U () (rX (am.tseq g S) (ao (k:=1) ()) {g _ _ c,?_,lf hi {?_,bM (p.trans g) N,ae}}))
    ·rw[b_,ig];lia
    ·rw[X,j,hF];rfl
  ·rintro e B⟨rfl,p,c⟩;rw[G,iq (e_ _),r.words_subs]at c;have wl:=r.words_le;have as:=r.wset_le;have c:B D=some (.lst ((r.words.map (Sum.inr:Str->bV)).map kV)):=by rw[tA];show c
   show{D,r.words.map Sum.inr,(),aR.of c,by rw[b_];lia,λZ L=>?_};rw[r.wset_keys];have g:=aj (o:=xh P w Z (r.wset.map Sum.inr)) (am.refl B) L;show{Z,r.wset,(),ae,by lia,λq2 ss n hp hs=>?_};have s4:=aj (o:=.lst (ss.map V.str)) g n;show q q2 ss _ ((M.trans p).trans s4) (by cases z:H q2 with|none=>rfl|some o=>rw[((M.trans p).trans g) _ _ z]at n;cases n) ae hp hs
end
theorem Be[BEq c][LawfulBEq c]:∀{l m:List c},l.Nodup->(∀x∈l,x∈m)->l.length<=m.length
 |[],m,_,_=>lh _|a::l,m,h,g=>by
  obtain⟨h1,h2⟩:=OV.mp h;have p:=List.perm_cons_erase (g a k4);have:=Be (m:=m.erase a) h2 λx b=>by
   rcases s_.mp (p.mem_iff.mp (g x (j_ _ b)))with rfl|q
   ·show absurd b h1
   ·show q
  have e:=p.length_eq;rw[m_]at e⊢;lia
theorem Fb[DecidableEq d][BEq d][LawfulBEq d]:∀(f c:List d)(x:d),x∈f.foldl PyProof.Rows.step_dedup c↔x∈c\/x∈f
 |[],c,x=>by simp|k::r,c,x=>by
  rw[w_,Fb r];unfold PyProof.Rows.step_dedup
  by_cases e:c.any (λy=>y==k)=true
  ·rw[hY e];obtain⟨y,b,q⟩:=Oa.mp e;have g:k∈c:=by rw[<-eq_of_beq q];show b
   constructor
   ·rintro(h|h)
    ·show .inl h
    ·show .inr (j_ _ h)
   ·rintro(h|h)
    ·show .inl h
    ·rcases s_.mp h with rfl|h
     ·show .inl g
     ·show .inr h
  ·rw[h_ e];simp only[List.mem_append,List.mem_singleton,s_,or_assoc,pa,false_or]
def J9{c:Type}[DecidableEq c][BEq c][LawfulBEq c]{d:List c}{x:c}(h:x∈dd d):x∈d:=by
 rcases(Fb d [] x).mp h with h|h
 ·cases h
 ·show h
theorem Ia[DecidableEq d][BEq d][LawfulBEq d]:∀(f c:List d),c.Nodup->(f.foldl PyProof.Rows.step_dedup c).Nodup
 |[],c,h=>h|k::r,c,h=>by
  rw[w_];show Ia r _ ?_;unfold PyProof.Rows.step_dedup
  by_cases e:c.any (λy=>y==k)=true
  ·rw[hY e];show h
  ·rw[h_ e,oa];show{h,by simp,λa g b i=>?_};rw[List.mem_singleton.mp i];rintro rfl;show e (Oa.mpr {a,g,qq a})
inductive Gc(K:OZ)(n:Nat)(vs:List V)(H:Hp)(Q:VK)(_E:XK):Prop|mk(r:Ru)(rv:V)(ws:O5)(_:vs=[rv,.int (n:Nat)])(_:fG K H r rv)(_:r.hgt<=n)(_:j5 ws r)(_:(∀w∈ws,Wd w))(_:∀H',am H H'->Q (.bl true) H')
def EA{a b n:Nat}(h:max a b+1<=n+1):a<=n/\b<=n:=by have h1:=On a b;have h2:=N4 a b;lia
section
theorem q9(T:Txt K mg a):∀n:Nat,aP P w K mg base cV (n+3) a.cu.x a.cu.d ["thing","depth"] (Gc K n)
 |0=>by
  show T.cu.f.ok lT (λz H Q E h=>?_) (λC A outer s H z Q E j h=>?_)
  ·obtain⟨r,D,e,rfl,_⟩:=h;rfl
  ·obtain⟨r,D,e,rfl,_,hh,_⟩:=h;have:=r.hgt_pos;lia|n+1=>by
  have F:=q9 T n;show T.cu.f.ok lT (λz H Q E h=>?_) (λC A outer s H z Q E j h=>?_)
  ·obtain⟨r,D,e,rfl,_⟩:=h;rfl
  ·obtain⟨r,D,e,rfl,R,hh,o,l,q⟩:=h;show{_,(ag (aM (PW.pt (fI (aC aW (Y 1) af (aE _)) (fI (ca (aO K () (ay (fi K ()) (by rfl) T.bf L2.aT (ac (Y 0) (ac (iJ () T.dL L2.bK) O))) (λ_=>()))) (dO (aC aW (ay (aI K ()) (by rfl) T.bq L2.aK (ac (Y 0) O)) af (aE _)))))) (ah (aB gH)) aD) (ag (bj 2 lT.nd (dh K (Y 0) af)) (ag (aM (aC aW (Y 2) aF (aE _)) (ah (aB (bL aW (ay (aI K ()) (by rfl) T.bq L2.aK (ac (Y 0) O)) af (aE _)))) aD) (ag (aM (aC aW (Y 2) aF (aE _)) (ah (aB (cE (bL aW (ay (aI K ()) (by rfl) T.bq L2.aK (ac (Y 0) O)) af (aE _)) (dH (bQ ((hE T).mono (by first|decide|omega)) j () T.d0.m T.d0.f.kp T.d0.b .nil aV (ac (dh K (Y 0) af) O)))))) aD) (ag (aM (aC aW (Y 2) aF (aE _)) (ah (aB (cE (bL aW (ay (aI K ()) (by rfl) T.bq L2.aK (ac (Y 0) O)) af (aE _)) (cE (bQ ((hE T).mono (by first|decide|omega)) j () T.d0.m T.d0.f.kp T.d0.b .nil aV (ac (dh K (Y 0) af) O)) (dH (bQ ((px T).mono (by first|decide|omega)) j () T.fD.m T.fD.f.kp T.fD.b .nil aV (ac (dh K (Y 0) af) O))))))) aD) (ag (aM (aC aW (Y 2) aF (aE _)) (ah (aB (cE (bL aW (ay (aI K ()) (by rfl) T.bq L2.aK (ac (Y 0) O)) af (aE _)) (dH (bQ F j () T.cu.m T.cu.f.kp T.cu.b .nil aV (ac (dh K (Y 0) af) (ac (aA gc (Y 1) af) O))))))) aD) (ag (aM (PW.pt (fI (aC aW (Y 2) aF (aE _)) (dO (aC aW (Y 2) aF (aE _))))) (ah (aB (cE (bL aW (ay (aI K ()) (by rfl) T.bq L2.aK (ac (Y 0) O)) af (aE _)) (cE (bQ F j () T.cu.m T.cu.f.kp T.cu.b .nil aV (ac (dh K (Y 0) af) (ac (aA gc (Y 1) af) O))) (dH (bQ F j () T.cu.m T.cu.f.kp T.cu.b .nil aV (ac (dh K (Y 0) af) (ac (aA gc (Y 1) af) O)))))))) aD) (ah (aB gH))))))))),?_}
   have hd:((n+1:Nat):Int)-1=(n:Int):=by lia
   obtain⟨t,z,rfl,B,-⟩:=R.tup;show U () {(),U () (kJ (λh=>absurd h (by lia)) (λG=>?_))};show U () {_,"tuple",_,true,(),.inr {t,U () {B,()}},dQ (dk ()),true,(),bW ?_};show U () {_,U () {.inr {_,B,()},(),U () (kJ (λh=>absurd h (by rw[m_];lia)) (λI=>?_))}};show U () (rX B (ao (k:=0) ()) ?_);show aq ?_;clear B G I;cases R with
 |any h=>show U () {(),U () (bZ ?_)};show U () {_,U () {.inr {_,h,()},(),?_}};show kX (p:=V.int 1=V.int 1) () (q H (am.refl _))|has h=>cases o with|has hm=>show U () {(),U () (wn ?_)};show U () {(),U () (bZ ?_)};show U () {_,U () {.inr {_,h,()},(),U () (bG ?_)}};show U () (rX h () {V.str _,(),.inl (U () {l _ hm,q})})
   |least h=>cases o with|least hm h1 h2=>(iterate 2 show U () {(),U () (wn ?_)});show U () {(),U () (bZ ?_)};show U () {_,U () {.inr {_,h,()},(),U () (bG ?_)}};show U () (rX h () {V.str _,(),.inl (U () {l _ hm,λJ c=>(U () (bG ?_))})});show{_,(),t,_,2,_,(),(),am.tseq c h,(),_,(),(h1,h2,),q J c}
   |not h h1=>cases o with|not u=>rename_i g i;have hh:g.hgt+1<=n+1:=hh;(iterate 3 show U () {(),U () (wn ?_)});show U () {(),U () (bZ ?_)};show U () {_,U () {.inr {_,h,()},(),U () (bG ?_)}};show U () (rX h () (U () (r2 ?_)));show{g,i,e,by change[i,V.int (((n+1:Nat):Int)-1)]=_;rw[hd],h1,by lia,u,l,q}
   |both h h1 h2=>cases o with|both u L=>rename_i g v i y;have hh:=EA (show max g.hgt v.hgt+1<=n+1 from hh);(iterate 4 show U () {(),U () (wn ?_)});show U () {(),U () (bZ ?_)};show U () {_,U () {.inr {_,h,()},(),U () (bG ?_)}};show U () (rX h () (U () (r2 ?_)));show{g,i,e,by change[i,V.int (((n+1:Nat):Int)-1)]=_;rw[hd],h1,hh.1,u,l,λJ c=>(U () (bG ?_))};show U () (rX (am.tseq c h) () (U () (r2 ?_)));show{v,y,e,by change[y,V.int (((n+1:Nat):Int)-1)]=_;rw[hd],h2.kp (.of c),hh.2,L,l,λM N=>q M (c.trans N)}
   |either h h1 h2=>cases o with|either u L=>rename_i g v i y;have hh:=EA (show max g.hgt v.hgt+1<=n+1 from hh);(iterate 5 show U () {(),U () (wn ?_)});show U () {(),U () (bZ ?_)};show U () {_,U () {.inr {_,h,()},(),U () (bG ?_)}};show U () (rX h () (U () (r2 ?_)));show{g,i,e,by change[i,V.int (((n+1:Nat):Int)-1)]=_;rw[hd],h1,hh.1,u,l,λJ c=>(U () (bG ?_))};show U () (rX (am.tseq c h) () (U () (r2 ?_)));show{v,y,e,by change[y,V.int (((n+1:Nat):Int)-1)]=_;rw[hd],h2.kp (.of c),hh.2,L,l,λM N=>q M (c.trans N)}
end
def j5.mem(h:j5 c r):∀w∈r.words,w∈c:=by induction h with|any=>showλw h=>(nomatch h)|has h=>intro w b;rw[List.mem_singleton.mp b];show h|least h=>intro w b;rw[List.mem_singleton.mp b];show h|not _ h=>show h|both _ _ h g=>showλw b=>(List.mem_append.mp b).elim (h w) (g w)|either _ _ h g=>showλw b=>(List.mem_append.mp b).elim (h w) (g w)
def j5.few{c:O5}{r:Ru}(h:j5 c r):r.wset.length<=c.length:=Be (Ia r.words [] NL) λx b=>h.mem x (J9 b)
inductive Ds(K:OZ)(vs:List V)(H:Hp)(Q:VK)(_E:XK):Prop|mk(r:Ru)(rv:V)(ws:O5)(_:vs=[rv])(_:fG K H r rv)(_:r.hgt<=6)(_:r.cnt<=30)(_:j5 ws r)(_:(∀w∈ws,Wd w))(_:ws.length<=3)(_:∀H',am H H'->Q (.bl true) H')
section
def Ad(T:Txt K mg a):aP P w K mg base cV 10 a.mR.x a.mR.d ["thing"] (Ds K):=by
 show T.mR.ok zP λv A outer s H L Q E c h=>?_
 ·obtain⟨r,e,y,rfl,g,hh,hc,o,z,M,q⟩:=h;show{_,(ag (aM (ca (aO K () (bQ ((q9 T 6).mono (by decide)) c () T.cu.m T.cu.f.kp T.cu.b .nil aV (ac (Y 0) (ac (cD T.uR ()) O))) (λ_=>()))) (ah (aB gH)) aD) (ah (aB (cE (bL jI (ay (aI K ()) (by rfl) T.bq L2.aK (ac (bQ ((jY T 6).mono (by decide)) c () T.bU.m T.bU.f.kp T.bU.b .nil aV (ac (Y 0) O)) O)) (cD T.xQ ()) (aE _)) (dH (bL jI (ay (aI K ()) (by rfl) T.bq L2.aK (ac (pc T.j9 (yJ T) c (ac (Y 0) O)) O)) (cD T.xN ()) (aE _))))))),?_}
  show U () {r,e,y,(),g,hh,o,z,λN i=>(U () (bW ?_))};show U () {r,e,(),g.kp (.of i),hh,e_ _,λl p R t B j k=>?_};have C:p.length=r.subs.length:=(Paired.length k).symm;unfold Ru.cnt at hc;show{_,p.length,(),.inl {_,aR.of j,()},_,U () {(),U () (jk (λ_=>?_) (λh=>absurd (by lia) h))}};show U () {r,e,(),g.kp (.of (i.trans t)),hh,λS u D F G n I _=>?_};have V:=o.few;have J:=I.length_eq;show{_,u.length,(),.inl {_,aR.of n,by simp},_,U () {(),?_}};show kX (show((u.length:Nat):Int)<=3 by lia) (q D ((i.trans t).trans F))
end
inductive Gb(K:OZ)(h:Nat)(vs:List V)(H:Hp)(Q:VK)(_E:XK):Prop|mk(r:Ru)(rv:V)(ms:List (Str×Int))(mv:V)(_:vs=[rv,mv])(_:fG K H r rv)(_:r.hgt<=h)(_:qQ K H ms mv)(_:ms.length<=100)(_:∀H',am H H'->Q (.bl (r.sat ms)) H')
section
theorem yR(T:Txt K mg a):∀h:Nat,aP P w K mg base cV (h+1) a.dW.x a.dW.d ["rule","marks"] (Gb K h)
 |0=>by
  show T.dW.f.ok tG (λvs H Q E h=>?_) (λaa A outer s H vs Q E N h=>?_)
  ·obtain⟨r,rv,k,mv,rfl,_⟩:=h;rfl
  ·obtain⟨r,rv,k,mv,rfl,_,hh,_⟩:=h;have:=r.hgt_pos;lia|n+1=>by
  have S:=yR T n;show T.dW.f.ok tG (λvs H Q E h=>?_) (λaa A outer s H vs Q E N h=>?_)
  ·obtain⟨r,rv,k,mv,rfl,_⟩:=h;rfl
  ·obtain⟨r,rv,k,mv,rfl,hR,hh,R,o,q⟩:=h;obtain⟨mt,l,rfl,G,W,X⟩:=id R;show{_,(ag (bj 2 tG.nd (dh K (Y 0) af)) (ag (aM (aC aW (Y 2) aF (aE _)) (ah (aB gH)) aD) (ag (aM (aC aW (Y 2) aF (aE _)) (ah (aB (ay (qL K () ()) (by rfl) T.Eg L2.uV (ac (sC pU ["mark"] [] [3] (ai sK) (cq 3) (iG K () (Y 1)) (λcl C s₀ H₀ ex=>{(mL pU ["mark"] 3),cp,(bL aW (dh K (Y 3) af) (dh K (Y 0) af) (aE _))})) O)))) aD) (ag (aM (aC aW (Y 2) aF (aE _)) (ah (aB (ay (qL K () ()) (by rfl) T.Eg L2.uV (ac (sC pU ["mark"] [] [3] (ai sK) (cq 3) (iG K () (Y 1)) (λcl C s₀ H₀ ex=>{(mL pU ["mark"] 3),cp,(cE (bL aW (dh K (Y 3) af) (dh K (Y 0) af) (aE _)) (dH (bL HN (dh K (Y 3) af) (dh K (Y 0) af) (aE _))))})) O)))) aD) (ag (aM (aC aW (Y 2) aF (aE _)) (ah (aB (D0 (bQ S N () T.dW.m T.dW.f.kp T.dW.b .nil aV (ac (dh K (Y 0) af) (ac (Y 1) O)))))) aD) (ag (aM (aC aW (Y 2) aF (aE _)) (ah (aB (cE (bQ S N () T.dW.m T.dW.f.kp T.dW.b .nil aV (ac (dh K (Y 0) af) (ac (Y 1) O))) (dH (bQ S N () T.dW.m T.dW.f.kp T.dW.b .nil aV (ac (dh K (Y 0) af) (ac (Y 1) O))))))) aD) (ah (aB (Lu (bQ S N () T.dW.m T.dW.f.kp T.dW.b .nil aV (ac (dh K (Y 0) af) (ac (Y 1) O))) (dH (bQ S N () T.dW.m T.dW.f.kp T.dW.b .nil aV (ac (dh K (Y 0) af) (ac (Y 1) O))))))))))))),?_}
   have c:∀{A B:Prop}{x y:Str},x≠y->B->if decide (V.str x=V.str y)=true then A else B:=λh b=>EK (λe=>absurd e h) (λ_=>b)
   have j:∀{A B:Prop}{x:Str},A->if decide (V.str x=V.str x)=true then A else B:=λa=>EK (λ_=>a) (λh=>absurd () h)
   cases hR with|any h=>show U () (rX h () ?_);show U () {(),U () (j (q _ (am.refl _)))}|has h=>
    show U () (rX h () ?_);show U () {(),U () (c (dk ()) ?_)};show U () {(),U () (j ?_)};rename_i Z wd;show U () {mt,(),{_,G},λD hD=>?_};have p:∀g,am H (aG H D (.lst g)):=λg=>aj (am.refl _) hD;show gR (K:=K) (a:=mt) (xs:=l) (λi g H'=>g=((k.take i).map (LY wd)).map V.bl/\H'=aG H D (.lst g)) {by rw[y1];rfl,()} (λi g H' _ h=>h.2▸am.tseq (p _) G) ?_ ?_
    ·rintro i v g _ J⟨rfl,rfl⟩;have hi:i<l.length:=(d_.mp J).1;obtain⟨b,hb,hB⟩:=X i (k[i]'(by lia)) (g6 (by lia));rw[hb]at J;cases J;show aq (jv (bG ?_));show U () (rX (am.tseq (p _) hB) () (U () (rX (am.tseq (p _) h) () {(),ae,?_,lf hi {?_,?_}})))
     ·rw[b_,b_,mo,ig];lia
     ·rw[sW (g6 (by lia)),hF];rfl
     ·rw[iy]
    ·rintro g _⟨rfl,rfl⟩;show{D,_,(),aR.of ae,?_};rw[W,iq (e_ _)];show q _ (p _)|least h=>
    show U () (rX h () ?_);(iterate 2 show U () {(),U () (c (dk ()) ?_)});show U () {(),U () (j ?_)};rename_i Z wd t;show U () {mt,(),{_,G},λD hD=>?_};have p:∀g,am H (aG H D (.lst g)):=λg=>aj (am.refl _) hD;show gR (K:=K) (a:=mt) (xs:=l) (λi g H'=>g=((k.take i).map (hU wd t)).map V.bl/\H'=aG H D (.lst g)) {by rw[y1];rfl,()} (λi g H' _ h=>h.2▸am.tseq (p _) G) ?_ ?_
    ·rintro i v g _ J⟨rfl,rfl⟩;have hi:i<l.length:=(d_.mp J).1;obtain⟨b,hb,hB⟩:=X i (k[i]'(by lia)) (g6 (by lia));rw[hb]at J;cases J;have fin:∀b,b=hU wd t (k[i]'(by lia))->aG H D (.lst (((k.take i).map (hU wd t)).map V.bl)) D=some (.lst (((k.take i).map (hU wd t)).map V.bl))/\(((k.take i).map (hU wd t)).map V.bl).length<sizeLine/\∃m',m'<l.length-i/\m'=l.length-(i+1)/\i+1<=l.length/\((((k.take i).map (hU wd t)).map V.bl++[V.bl b]=((k.take (i+1)).map (hU wd t)).map V.bl)/\aG (aG H D (.lst (((k.take i).map (hU wd t)).map V.bl))) D (.lst (((k.take i).map (hU wd t)).map V.bl++[V.bl b]))=aG H D (.lst (((k.take i).map (hU wd t)).map V.bl++[V.bl b]))):=λb eb=>by
      show{ae,?_,lf hi {?_,?_}}
      ·rw[b_,b_,mo,ig];lia
      ·rw[sW (g6 (by lia)),hF,eb];rfl
      ·rw[iy]
     show aq (jv (bG ?_));show U () (rX (am.tseq (p _) hB) () (U () (rX (am.tseq (p _) h) () {(),U () (EK (λe=>?_) (λe=>?_))})))
     ·show U () (rX (am.tseq (p _) hB) () (U () (rX (am.tseq (p _) h) () (r2 (fin _ ?_)))));unfold hU;rw[hY (by rw[e];show k_ ())]
     ·show fin _ ?_;unfold hU;rw[h_ (by rw[lm (λz=>e (V.str.inj z))];show ji)]
    ·rintro g _⟨rfl,rfl⟩;show{D,_,(),aR.of ae,?_};rw[W,iq (e_ _)];show q _ (p _)|not h h1=>rename_i Z F v;have hq:F.hgt+1<=n+1:=hh;show U () (rX h () ?_);(iterate 3 show U () {(),U () (c (dk ()) ?_)});show U () {(),U () (j ?_)};show U () (rX h () (U () {F,v,k,_,(),h1,by lia,R,o,λH' sm=>(U () (q H' sm))}))|both h h1 h2=>
    rename_i Z F L v u;have hq:max F.hgt L.hgt+1<=n+1:=hh;show U () (rX h () ?_);(iterate 4 show U () {(),U () (c (dk ()) ?_)});show U () {(),U () (j ?_)};show U () (rX h () (U () {F,v,k,_,(),h1,by lia,R,o,λH' sm=>(U () ?_)}));have I:∀H',am H H'->Q (.bl (if F.sat k=true then L.sat k else false)) H':=q;show vG (λe=>?_) (λe=>?_)
    ·rw[hY e]at I;show U () (rX (am.tseq sm h) () (U () {L,u,k,_,(),h2.kp (.of sm),by lia,R.kp (.of sm),o,λH2 M=>I H2 (sm.trans M)}))
    ·rw[h_ (by rw[e];show ji)]at I;show I H' sm|either h h1 h2=>
    rename_i Z F L v u;have hq:max F.hgt L.hgt+1<=n+1:=hh;show U () (rX h () ?_);(iterate 5 show U () {(),U () (c (dk ()) ?_)});show U () (rX h () (U () {F,v,k,_,(),h1,by lia,R,o,λH' sm=>(U () ?_)}));have I:∀H',am H H'->Q (.bl (if F.sat k=true then true else L.sat k)) H':=q;show vG (λe=>?_) (λe=>?_)
    ·rw[hY e]at I;show I H' sm
    ·rw[h_ (by rw[e];show ji)]at I;show U () (rX (am.tseq sm h) () (U () {L,u,k,_,(),h2.kp (.of sm),by lia,R.kp (.of sm),o,λH2 M=>I H2 (sm.trans M)}))
end
inductive Gh(vs:List V)(H:Hp)(Q:VK)(_E:XK):Prop|mk(x:_)(_:vs=[.str x])(_:Wd x)(_:∀H',am H H'->Q .non H')
inductive Gn(K:OZ)(vs:List V)(H:Hp)(Q:VK)(_E:XK):Prop|mk(p:Addr)(l:O5)(_:vs=[.ref p])(_:a0 K H p (l.map V.str))(_:(∀w∈l,Wd w))(_:l.Nodup)(_:1<=l.length)(_:l.length<=4)(_:∀H',am H H'->Q .non H')
inductive Gi(K:OZ)(vs:List V)(H:Hp)(Q:VK)(_E:XK):Prop|mk(r:Ru)(rv:V)(ws:O5)(_:vs=[rv])(_:fG K H r rv)(_:r.hgt<=6)(_:r.cnt<=30)(_:j5 ws r)(_:(∀w∈ws,Wd w))(_:ws.length<=3)(_:∀H',am H H'->Q .non H')
inductive DC(vs:List V)(H:Hp)(Q:VK)(_E:XK):Prop|mk(x:_)(_:vs=[.str x])(_:xY x)(_:∀H',am H H'->Q .non H')
inductive DA(K:OZ)(vs:List V)(H:Hp)(Q:VK)(_E:XK):Prop|mk(v:V)(l:List (Str×Int))(_:vs=[v])(_:qQ K H l v)(_:(∀m∈l,Wd m.1/\-cQ<=m.2/\m.2<=cQ))(_:(l.map Prod.fst).Nodup)(_:l.length<=8)(_:∀H',am H H'->Q .non H')
inductive DD(vs:List V)(H:Hp)(Q:VK)(_E:XK):Prop|mk(z:_)(_:vs=[.int z])(_:0<=z)(_:Q .non H)
inductive BY(K:OZ)(vs:List V)(H:Hp)(Q:VK)(_E:XK):Prop|mk(p:Addr)(l:O_)(_:vs=[.ref p,.int (l.length:Nat)])(_:a0 K H p (l.map V.int))(_:(∀i∈l,0<=i))(_:l.length<=100)(_:∀H',am H H'->Q .non H')
inductive Gm(K:OZ)(vs:List V)(H:Hp)(Q:VK)(_E:XK):Prop|mk(z:Int)(p:Addr)(l:O_)(_:vs=[.int z,.ref p,.int (l.length:Nat)])(_:(0<=z/\z<=1000))(_:a0 K H p (l.map V.int))(_:(∀i∈l,1<=i/\i<=cQ))(_:l.length<=100)(_:∀H',am H H'->Q .non H')
section
def nI(T:Txt K mg a):aP P w K mg base cV 3 a.gi.x a.gi.d ["thing"] Gh:=by
 show T.gi.ok vf λb A outer s H i Q E c h=>?_
 ·obtain⟨x,rfl,e,q⟩:=h;show{_,(ah (aM (ca (aO K () (pc T.d0 (hE T) c (ac (Y 0) O)) (λ_=>()))) (ah cr) aD)),?_};show U () {V.str x,(),.inl {x,(),e,λf g=>(U () (bW (q f g)))}}
def vy(T:Txt K mg a):aP P w K mg base cV 4 a.ii.x a.ii.d ["thing"] (Gn K):=by
 show T.ii.ok vi λb A outer s H g Q E c h=>?_
 ·obtain⟨p,l,rfl,h1,h2,h3,h4,h5,q⟩:=h;show{_,(ah (aM (ca (aO K () (pc T.kR (yS T) c (ac (Y 0) O)) (λ_=>()))) (ah cr) aD)),?_};show U () {p,l,(),h1,h2,h3,h4,h5,λe f=>(U () (bW (q e f)))}
def vp(T:Txt K mg a):aP P w K mg base cV 11 a.ib.x a.ib.d ["thing"] (Gi K):=by
 show T.ib.ok vg λb A outer s H k Q E c h=>?_
 ·obtain⟨r,e,f,rfl,h1,h2,h3,h4,h5,g,q⟩:=h;show{_,(ah (aM (ca (aO K () (pc T.mR (Ad T) c (ac (Y 0) O)) (λ_=>()))) (ah cr) aD)),?_};show U () {r,e,f,(),h1,h2,h3,h4,h5,g,λi j=>(U () (bW (q i j)))}
def fb(T:Txt K mg a):aP P w K mg base cV 3 a.cS.x a.cS.d ["thing"] DC:=by
 show T.cS.ok tM λb A outer s H i Q E c h=>?_
 ·obtain⟨x,rfl,e,q⟩:=h;show{_,(ah (aM (ca (aO K () (pc T.kM (yP T) c (ac (Y 0) O)) (λ_=>()))) (ah cr) aD)),?_};show U () {x,(),e,λf g=>(U () (bW (q f g)))}
def mi(T:Txt K mg a):aP P w K mg base cV 5 a.ff.x a.ff.d ["thing"] (DA K):=by
 show T.ff.ok tJ λb A outer s H g Q E c h=>?_
 ·obtain⟨v,l,rfl,h1,h2,h3,h4,q⟩:=h;show{_,(ah (aM (ca (aO K () (pc T.i6 (xt T) c (ac (Y 0) O)) (λ_=>()))) (ah cr) aD)),?_};show U () {v,l,(),h1,h2,h3,h4,λe f=>(U () (bW (q e f)))}
def uq(T:Txt K mg a):aP P w K mg base cV 3 a.gw.x a.gw.d ["thing"] DD:=by
 show T.gw.ok tN λb A outer s H e Q E c h=>?_
 ·obtain⟨z,rfl,h0,q⟩:=h;show{_,(ah (aM (ca (aO K () (pc T.fU (iK T) c (ac (Y 0) O)) (λ_=>()))) (ah cr) aD)),?_};show U () {z,(),h0,U () (bW q)}
def r9(T:Txt K mg a):aP P w K mg base cV 4 a.fE.x a.fE.d ["thing","many"] (BY K):=by
 show T.fE.ok rO λb A outer s H g Q E c h=>?_
 ·obtain⟨p,l,rfl,h1,h2,h3,q⟩:=h;show{_,(ah (aM (ca (aO K () (pc T.io (vz T) c (ac (Y 0) (ac (Y 1) O))) (λ_=>()))) (ah cr) aD)),?_};show U () (U () {p,l,(),h1,h2,h3,λe f=>(U () (bW (q e f)))})
def qj(T:Txt K mg a):aP P w K mg base cV 4 a.eQ.x a.eQ.d ["total","weights","many"] (Gm K):=by
 show T.eQ.ok qa λc A outer s H i Q E b h=>?_
 ·obtain⟨z,p,l,rfl,e,h1,h2,h3,q⟩:=h;show{_,(ah (aM (PW.pt (fI (ca (aO K () (pc T.kK (yN T) b (ac (Y 0) O)) (λ_=>()))) (dO (ca (aO K () (pc T.gx (ur T) b (ac (Y 1) (ac (Y 2) O))) (λ_=>())))))) (ah cr) aD)),?_};show U () {z,(),e,U () (bW ?_)};show U () (U () {p,l,(),h1,h2,h3,λf g=>(U () (bW (q f g)))})
end
inductive BU(vs:List V)(H:Hp)(Q:VK)(_E:XK):Prop|mk(z:Int)(_:vs=[.int z])(_:(2<=z/\z<=997))(_:(∀i:Nat,2+(i:Int)<z->z%(2+(i:Int))≠0))(_:∀H',am H H'->Q (.bl true) H')
inductive Dr(vs:List V)(H:Hp)(Q:VK)(_E:XK):Prop|mk(z:_)(_:vs=[.int z])(_:(0<=z/\z<=cQ))(_:Q (.bl true) H)
inductive DB(vs:List V)(H:Hp)(Q:VK)(_E:XK):Prop|mk(z s:Int)(_:vs=[.int z,.int s])(_:(2<=z/\z<=997))(_:(∀i:Nat,2+(i:Int)<z->z%(2+(i:Int))≠0))(_:(0<=s/\s<=cQ))(_:∀H',am H H'->Q .non H')
inductive IS(vs:List V)(H:Hp)(Q:VK)(_E:XK):Prop|mk(x:Str)(d:Addr)(kvs:List (bV×V))(_:vs=[.str x,.ref d])(_:Wd x)(_:H d=some (.dK kvs))(_:bg kvs (.inr x)=none)(_:∀H',am H H'->Q .non H')
inductive Dx(vs:List V)(H:Hp)(Q:VK)(_E:XK):Prop|mk(x:Str)(d:Addr)(kvs:List (bV×V))(_:vs=[.str x,.ref d])(_:Wd x)(_:H d=some (.dK kvs))(_:(bg kvs (.inr x)).isSome=true)(_:∀H',am H H'->Q .non H')
theorem mH:∀c:List Str,(c.map V.str).all nP=true|[]=>()|w::r=>by rw[m3,Ny,mH r];rfl
def zh{w:Str}{c:O5}(h:w∈c):nO (.str w) (c.map V.str)=true:=by unfold nO;rw[Oa];show{.str w,kw.mpr {w,h,()},by change(w==w)=true;show qq w}
section
def yO(T:Txt K mg a):aP P w K mg base cV 2 a.kL.x a.kL.d ["thing"] BU:=by
 show T.kL.ok yr λe A outer s H j Q E f h=>?_
 ·obtain⟨z,rfl,⟨h1,h2⟩,hd,q⟩:=h;show{_,(ag (aM (PW.pt (fI (ca (aO K () (pc T.gO (jJ T) f (ac (Y 0) O)) (λ_=>()))) (dO (ca (yD jI jI (cD T.vL ()) (Y 0) (cD T.qM ())))))) (ah (aB gH)) aD) (ah (aB (ay (ij K () ()) (by rfl) T.uy L2.jm (ac (sC ["thing"] ["divisor"] [] [1] (ai nW) (cq 1) (wu () T.f9 (ac af (ac (Y 0) O))) (λcl C s₀ H₀ ex=>{(mL ["thing"] ["divisor"] 1),cp,(bL HM (aA aS (Y 0) (Y 1)) af (aE _))})) O))))),?_}
  show U () {z,(),U () (bW ?_)};show U () (r2 (U () ?_));show jk (λ_=>?_) (λh=>absurd h1 h);show r2 (U () ?_);rw[k_ h2];show bW ?_;show U () {_,U () {{by decide,by decide,by omega,by omega},λD g=>?_}};show ia (K:=K) (lo:=2) (n:=(z-2).toNat) (λi b c=>b=(List.replicate i true).map V.bl/\c=aG H D (.lst b)) {(),()} ?_ ?_
  ·rintro i b c hi⟨rfl,rfl⟩;show aq (jv (bG (U () (U () (r2 {(by change(0:Int)<_;first|decide|omega),(),?_})))));show{ae,kc i (by omega),lf hi {?_,by rw[iy]}};have hn:=hd i (by omega);rw[<-i7]
   congr 2
   simp[hn]
  ·rintro b c⟨rfl,rfl⟩;show{D,_,(),aR.of ae,?_};rw[kd];show q _ (aj (am.refl _) g)
def Ac(T:Txt K mg a):aP P w K mg base cV 3 a.mQ.x a.mQ.d ["thing"] Dr:=by
 show T.mQ.ok zO λb A outer s H e Q E c h=>?_
 ·obtain⟨z,rfl,⟨h1,h2⟩,q⟩:=h;show{_,(ah (aB (cE (pc T.fU (iK T) c (ac (Y 0) O)) (dH (bL jI (Y 0) (aA ui af af) (aE _)))))),?_};show U () {z,(),h1,U () (bG ?_)}
  walk_at "a"
  show kX h2 q
def uo(T:Txt K mg a):aP P w K mg base cV 4 a.gu.x a.gu.d ["prime","salt"] DB:=by
 show T.gu.ok tL λc A outer s H g Q E b h=>?_
 ·obtain⟨z,sa,rfl,h1,h2,h3,q⟩:=h;show{_,(ah (aM (PW.pt (fI (ca (aO K () (pc T.kL (yO T) b (ac (Y 0) O)) (λ_=>()))) (dO (ca (aO K () (pc T.mQ (Ac T) b (ac (Y 1) O)) (λ_=>())))))) (ah cr) aD)),?_};show U () {z,(),h1,h2,λe f=>(U () (bW ?_))};show U () {sa,(),h3,U () (bW (q e f))}
def py(T:Txt K mg a):aP P w K mg base cV 4 a.ic.x a.ic.d ["thing","names"] IS:=by
 show T.ic.ok xl λe A outer s H i Q E b h=>?_
 ·obtain⟨x,d,f,rfl,h1,h2,h3,q⟩:=h;show{_,(ag (aJ (pc T.gi (nI T) b (ac (Y 0) O))) (ah (aM (n6 (zZ (ce b) (Y 0) (Y 1)) ()) (ah cr) aD))),?_}
  show U () {x,(),h1,λg c=>?_};show U () (U () (rG none (by rw[<-h3];show dF.k (k:=.inr x) (c _ _ h2)) (U () (bW (q g c)))))
def dz(T:Txt K mg a):aP P w K mg base cV 4 a.bN.x a.bN.d ["thing","names"] Dx:=by
 show T.bN.ok oM λf A outer s H i Q E c h=>?_
 ·obtain⟨x,d,b,rfl,h1,h2,h3,q⟩:=h;show{_,(ag (aJ (pc T.gi (nI T) c (ac (Y 0) O))) (ah (aM (n6 (qg (ce c) (Y 0) (Y 1)) ()) (ah cr) aD))),?_}
  show U () {x,(),h1,λg e=>?_};show U () (U () (rG (bg b (.inr x)) (dF.k (k:=.inr x) (e _ _ h2)) (U () ?_)));rw[h3];show bW (q g e)
end
abbrev Pl:=bY×V×List Int
def fF(H:Hp)(tk:List gB)(m:List Pl):Prop:=Paired (λ(x:gB)(y:Pl)=>x.1=y.1/\x.2.1=y.2.1/\∃l,x.2.2=.ref l/\H l=some (.lst (y.2.2.map V.int))) tk m
structure eU(P:O4)(w:World)(K:OZ)(C:Addr)(H:Hp)(t od td:Addr)(n:Nat)(ow:List (bV×V))(tk:List gB)(m:List Pl):Prop where
 ins:∃dx,H t=some (.ins C dx [("many",.int n),("owners",.ref od),("taken",.ref td)])own:H od=some (.dK ow)tak:H td=some (dM P w td tk)keys:eS K H tk
 lsts:fF H tk m
def fF.same(e:am H H')(h:fF H tk m):fF H' tk m:=Paired.mapP h λ_ _ h=>{h.1,h.2.1,h.2.2.imp λ_ q=>{q.1,e _ _ q.2}}
def fT(e:Kp H H')(h:dn K H k v):dn K H' k v:=by match k,h with|.inl _,h=>show h|.inr [],h=>show h|.inr (_::_),h=>obtain⟨b,h1,h2⟩:=h;show{b,h1,e.tq h2}
def oj(e:am H H')(h:dn K H k v):dn K H' k v:=by show fT (.of e) h
theorem eU.same(e:am H H')(h:eU P w K C H t c d n ow tk m):eU P w K C H' t c d n ow tk m:={let⟨dx,i⟩:=h.ins;{dx,e _ _ i},e _ _ h.own,e _ _ h.tak,λx b=>oj e (h.keys x b),h.lsts.same e}
def fF.val(h:fF H tk m)(k:bY):(∃l c,fS tk k=some (.ref l)/\fS m k=some c/\H l=some (.lst (c.map V.int)))\/(fS tk k=none/\fS m k=none):=by induction h with|nil=>show .inr {(),()}|@cons x y _ _ h _ b=>
  unfold fS at b⊢;rw[rV,rV,<-h.1]
  by_cases e:x.1=k
  ·rw[k_ e];show .inl (h.2.2.imp λ_ q=>{y.2.2,p_ some q.1,(),q.2})
  ·rw[lm e];show b
def bp(m:List Pl)(k:bY):List Int:=(fS m k).getD []
def gP(n:Nat)(ow:List (bV×V)):List Int:=((List.range n).filter λ(i:Nat)=>(bg ow (.inl (i:Int))).isNone).map λ(i:Nat)=>(i:Int)
inductive IL(P:O4)(w:World)(K:OZ)(C:Addr)(vs:List V)(H:Hp)(Q:VK)(_E:XK):Prop|mk(t dx:Addr)(n:Nat)(_:vs=[.ref t,.int n])(_:H t=some (.ins C dx []))(_:H dx=some (.own t))(_:∀(od td:Addr)H',H od=none->H td=none->(∀b o,H b=some o->b≠t->H' b=some o)->eU P w K C H' t od td n [] [] []->Q .non H')
inductive BS(P:O4)(w:World)(K:OZ)(C:Addr)(vs:List V)(H:Hp)(Q:VK)(_E:XK):Prop|mk(t od td:Addr)(n:Nat)(ow:List (bV×V))(tk:List gB)(m:List Pl)(p:Int)(_:vs=[.ref t,.int p])(_:eU P w K C H t od td n ow tk m)(_:Q ((bg ow (.inl p)).getD .non) H)
inductive zL(P:O4)(w:World)(K:OZ)(C:Addr)(vs:List V)(H:Hp)(Q:VK)(_E:XK):Prop|mk(t od td:Addr)(n:Nat)(ow:List (bV×V))(tk:List gB)(m:List Pl)(k:bY)(kv:V)(_:vs=[.ref t,kv])(_:eU P w K C H t od td n ow tk m)(_:dn K H k kv)(_:∀(l:Addr)H',am H H'->H l=none->H' l=some (.lst ((bp m k).map V.int))->Q (.ref l) H')
inductive IO(P:O4)(w:World)(K:OZ)(C:Addr)(vs:List V)(H:Hp)(Q:VK)(_E:XK):Prop|mk(t od td:Addr)(n:Nat)(ow:List (bV×V))(tk:List gB)(m:List Pl)(_:vs=[.ref t])(_:eU P w K C H t od td n ow tk m)(_:n<=1000)(_:∀(l:Addr)H',am H H'->H l=none->H' l=some (.lst ((gP n ow).map V.int))->Q (.ref l) H')
section
def se(T:Txt K mg a):aP P w K mg base cV 1 a.ee.x a.ee.d ["self","many"] (IL P w K a.bO):=by
 show T.ee.ok rQ λF A outer s H J Q E L h=>?_
 ·obtain⟨t,dx,n,rfl,G,M,q⟩:=h;show{_,(ag (cA K () (Y 0) (Y 1)) (ag (cA K () (Y 0) kF) (ah (cA K () (Y 0) (D3 (P:=P) (w:=w)))))),?_}
  show U () (U () {t,_,dx,U () {G,T.bo,T.nM,by decide,?_}});have v:gF "many" (V.int n) []=([("many",V.int n)]:List (Str×V)):=();rw[v];have i:aG H t (.ins a.bO dx [("many",V.int n)]) t=some (.ins a.bO dx [("many",V.int n)]):=ae;have f1:∀b o,H b=some o->b≠t->aG H t (.ins a.bO dx [("many",V.int n)]) b=some o:=λb o e j=>by rw[ak j];show e
  generalize aG H t (.ins a.bO dx [("many",V.int n)])=u at i f1⊢;showλc g=>(U () {t,_,dx,U () {by rw[ak (av i g)];show i,T.bo,T.eK,by simp,?_}});have y:gF "owners" (V.ref c) [("many",V.int n)]=([("many",V.int n),("owners",V.ref c)]:List (Str×V)):=();rw[y];have B:c≠t:=λz=>by rw[z,i]at g;cases g
  have k:aG (aG u c (.dK [])) t (.ins a.bO dx [("many",V.int n),("owners",V.ref c)]) t=some (.ins a.bO dx [("many",V.int n),("owners",V.ref c)]):=ae;have m:aG (aG u c (.dK [])) t (.ins a.bO dx [("many",V.int n),("owners",V.ref c)]) c=some (.dK []):=by rw[ak B];show ae
  have f2:∀b o,H b=some o->b≠t->aG (aG u c (.dK [])) t (.ins a.bO dx [("many",V.int n),("owners",V.ref c)]) b=some o:=λb o e j=>by rw[ak j,ak (λz=>by rw[<-z,f1 b o e j]at g;cases g)];show f1 b o e j
  generalize aG (aG u c (.dK [])) t (.ins a.bO dx [("many",V.int n),("owners",V.ref c)])=N at k m f2⊢;showλl f=>(U () {t,_,dx,U () {by rw[ak (av k f)];show k,T.bo,T.gM,by simp,?_}});have C:gF "taken" (V.ref l) [("many",V.int n),("owners",V.ref c)]=([("many",V.int n),("owners",V.ref c),("taken",V.ref l)]:List (Str×V)):=();rw[C];have D:l≠t:=λz=>by rw[z,k]at f;cases f
  have dt:c≠l:=λz=>by rw[<-z,m]at f;cases f
  have p:H c=none:=by cases z:H c with|none=>rfl|some o=>rw[f1 c o z B]at g;cases g
  have r:H l=none:=by cases z:H l with|none=>rfl|some o=>rw[f2 l o z D]at f;cases f
  show q c l _ p r (λb o e j=>?_) {(dx,ae,),by rw[ak B,ak dt];show m,by rw[ak D];show ae,λx I=>(by cases I),.nil};rw[ak j,ak (λz=>by rw[<-z,f2 b o e j]at f;cases f)];show f2 b o e j
def dZ(T:Txt K mg a):aP P w K mg base cV 1 a.bd.x a.bd.d ["self","owner"] (zL P w K a.bO):=by
 show T.bd.ok nS λv A outer s H F Q E y h=>?_
 ·obtain⟨t,G,z,n,ow,tk,m,k,I,rfl,i,B,q⟩:=h;show{_,(ah (aB (cx (lC K ()) (by rfl) T.jZ L2.eR (ac (D1 (P:=P) (w:=w) K () (ce y) (aH K () (Y 0)) (Y 1) (be O) {(),(),(),()}) O)))),?_};obtain⟨dx,C⟩:=i.ins;show U () {t,_,dx,_,U () {C,T.bo,T.gM,(),z,tk,(),i.tak,U () {ls (),λg j=>?_}}};have e:=aj (o:=.lst []) (am.refl H) j;have c:aG H g (.lst []) g=some (.lst []):=ae;generalize aG H g (.lst [])=J at e c⊢;have f:=i.same e;show{tk,k,f.tak,f.keys,oj e B,?_};rcases f.lsts.val k with⟨l,L,p,r,D⟩|⟨p,r⟩
  ·rw[p];show{l,U () {.inl (aR.of D),λu b=>q u _ (aj e b) (e.free b) ?_}};unfold bp;rw[r];show ae
  ·rw[p];show{g,U () {.inl (aR.of c),λu b=>q u _ (aj e b) (e.free b) ?_}};unfold bp;rw[r];show ae
def nK(T:Txt K mg a):aP P w K mg base cV 1 a.d8.x a.d8.d ["self"] (IO P w K a.bO):=by
 show T.d8.ok vk λp A outer s H y Q E r h=>?_
 ·obtain⟨t,z,B,n,ow,tk,m,rfl,j,hn,q⟩:=h;show{_,(ah (aB (sC ["self"] ["place"] [] [1] (ai lg) (cq 1) (eM () T.f9 (ac (aH K () (Y 0)) O)) (λcl C s₀ H₀ ex=>{(mL ["self"] ["place"] 1),(mK (n6 (qg (ce r) (Y 1) (aH K () (Y 0))) ())),(Y 1)})))),?_}
  obtain⟨dx,l⟩:=j.ins;show U () {t,_,dx,_,U () {l,T.bo,T.nM,(),(n:Int),(),by lia,by lia,λD o=>?_}};have g:∀b,am H (aG H D (.lst b)):=λb=>aj (am.refl _) o;show ia (K:=K) (lo:=0) (n:=(n:Int).toNat) (λi b H'=>b=(gP i ow).map V.int/\H'=aG H D (.lst b)) {(),()} ?_ ?_
  ·rintro i b _ hi⟨rfl,rfl⟩;have u:((gP i ow).map V.int).length<=i:=by unfold gP;rw[b_,b_];show kl (rk _ _) (by rw[op];show e_ _)
   have c:gP (i+1) ow=gP i ow++if(bg ow (.inl (i:Int))).isNone=true then[(i:Int)]else[]:=by
    unfold gP;rw[NF,NN,hF]
    congr 1
    by_cases e:(bg ow (.inl (i:Int))).isNone=true
    ·simp[e]
    ·simp[e]
   rw[show(0:Int)+(i:Int)=((i:Nat):Int)by lia];show aq (U () (U () {t,_,dx,_,U () {g _ _ _ l,T.bo,T.eK,(),rG _ (dF.k (k:=.inl (i:Int)) (g _ _ _ j.own)) (U () ?_)}}));have f:i<(n:Int).toNat:=hi;cases e:bg ow (.inl (i:Int))with|none=>show bG (U () {ae,by rw[ig];lia,lf f {?_,by rw[iy]}});rw[c,e,hF];rfl|some v=>show bW (lf f {?_,()});rw[c,e,hF];show(n7 _).symm
  ·rintro b _⟨rfl,rfl⟩;have e:(n:Int).toNat=n:=by lia
   rw[e];show q D _ (g _) o ae
end
def Fe(c:List V)(h:0<=i):vI c (some i) none=c.drop i.toNat:=by
 change(c.drop (if i<0 then(i+(c.length:Int)).toNat else min i.toNat c.length)).take (c.length-(if i<0 then(i+(c.length:Int)).toNat else min i.toNat c.length))=c.drop i.toNat;rw[h_ (by lia)];rcases Nat.le_total i.toNat c.length with b|b
 ·rw[Nat.min_eq_left b,iq (by rw[Nw];lia)]
 ·rw[Nat.min_eq_right b,List.drop_eq_nil_of_le (e_ _),List.drop_eq_nil_of_le b,List.take_nil]
def AD(c:List V)(h:0<=i):vI c none (some i)=c.take i.toNat:=by
 change(c.drop 0).take ((if i<0 then(i+(c.length:Int)).toNat else min i.toNat c.length)-0)=c.take i.toNat;rw[h_ (by lia),List.drop_zero,Nat.sub_zero];rcases Nat.le_total i.toNat c.length with b|b
 ·rw[Nat.min_eq_left b]
 ·rw[Nat.min_eq_right b,iq (e_ _),iq b]
def BH(c:List (bV×V))(k j:bV):bg (dX c k) j=if j=k then none else bg c j:=by induction c with|nil=>split<;>rfl|cons p r f=>
  by_cases e:p.1=k
  ·rw[wO e,f]
   by_cases b:j=k
   ·rw[hY b,hY b]
   ·rw[h_ b,h_ b,bv (λz=>b (z.symm.trans e))]
  ·rw[wP e]
   by_cases d:p.1=j
   ·rw[b7 d,h_ (λz=>e (d.trans z)),b7 d]
   ·rw[bv d,f,bv d]
def sB(ow:List (bV×V))(c:O_):List (bV×V):=c.foldl (λo p=>dX o (.inl p)) ow
def pZ(c:O_):∀(ow:List (bV×V))(j:Int),bg (sB ow c) (.inl j)=if j∈c then none else bg ow (.inl j):=by induction c with|nil=>intro ow j;rw[h_ (by simp)];rfl|cons p r b=>
  intro ow j;change bg (sB (dX ow (.inl p)) r) (.inl j)=_;rw[b,BH]
  by_cases h1:j∈r
  ·rw[hY h1,hY (j_ _ h1)]
  ·rw[h_ h1]
   by_cases h2:j=p
   ·rw[hY (by rw[h2]),hY (by rw[h2];show k4)]
   ·rw[h_ (λz=>h2 (Sum.inl.inj z)),h_ (λz=>(s_.mp z).elim h2 h1)]
def mE(c d:Addr)(H H':Hp):Prop:=∀b o,H b=some o->b≠c->b≠d->H' b=some o
def mE.of(h:am H H'):mE c d H H':=λb o e _ _=>h b o e
def mE.trans(a:mE d e H f)(b:mE d e f g):mE d e H g:=λc o h h1 h2=>b c o (a c o h h1 h2) h1 h2
def mE.tp(h:mE c d H H')(h1:H c=some (.dK f))(h2:H d=some (.ext φ))(e:H b=some (.tup g)):H' b=some (.tup g):=h b _ e (λz=>by rw[z,h1]at e;cases e) (λz=>by rw[z,h2]at e;cases e)
def eP(h:mE c d H H')(h1:H c=some (.dK f))(h2:H d=some (.ext φ))(g:dn K H k v):dn K H' k v:=by show fT {λu i e=>h.tp h1 h2 e,λu o⟨b,e⟩=>{b,h u _ e (λz=>by rw[z,h1]at e;cases e) (λz=>by rw[z,h2]at e;cases e)}} g
def fF.off(h:mE c d H H')(h1:H c=some (.dK f))(h2:H d=some (.ext φ))(t:fF H tk m):fF H' tk m:=Paired.mapP t λ_ _ q=>{q.1,q.2.1,q.2.2.imp λ_ e=>{e.1,h _ _ e.2 (λz=>by rw[z,h1]at e;cases e.2) (λz=>by rw[z,h2]at e;cases e.2)}}
def fF.put(d:H l=some (.lst (f.map V.int))):∀{tk:List gB}{m:List Pl},fF H tk m->fF H (gA tk k j (.ref l)) (gA m k j f):=by
 intro tk m h;have b:(fS tk k).isSome=(fS m k).isSome:=by rcases h.val k with⟨l,f,g,i,_⟩|⟨g,i⟩<;>rw[g,i]<;>rfl
 unfold gA;rw[b]
 split
 ·rename_i hc;clear b hc
  induction h with|nil=>show .nil|@cons x y n o r t c=>
   show .cons ?_ c;dsimp only;rw[<-r.1]
   by_cases e:x.1=k
   ·rw[hY e,hY e];show{(),r.2.1,l,(),d}
   ·rw[h_ e,h_ e];show r
 ·rename_i hc;clear b hc
  induction h with|nil=>show .cons {(),(),l,(),d} .nil|cons r t c=>show .cons r c
def fK(H:Hp)(tk c:List gB):Prop:=∀x∈c,(∃y∈tk,y.2.2=x.2.2)\/∃l,x.2.2=.ref l/\H l=none
def fK.put(c:H l=none):fK H tk (gA tk k e (.ref l)):=by
 intro x b;unfold gA at b
 split at b
 ·obtain⟨y,d,rfl⟩:=kw.mp b
  split
  ·show .inr {l,(),c}
  ·show .inl {y,d,()}
 ·rcases List.mem_append.mp b with b|b
  ·show .inl {x,b,()}
  ·rw[List.mem_singleton.mp b];show .inr {l,(),c}
def pI(h:mE c d H H')(h1:H' c≠none)(h2:H' d≠none)(e:H' b=none):H b=none:=by cases z:H b with|none=>rfl|some o=>have:=h b o z (λq=>h1 (by rw[<-q];show e)) (λq=>h2 (by rw[<-q];show e));rw[e]at this;cases this
inductive IN(P:O4)(w:World)(K:OZ)(C:Addr)(vs:List V)(H:Hp)(Q:VK)(_E:XK):Prop|mk(t od td:Addr)(n:Nat)(ow:List (bV×V))(tk:List gB)(m:List Pl)(k:bY)(kv:V)(num:Int)(_:vs=[.ref t,kv,.int num])(_:eU P w K C H t od td n ow tk m)(_:dn K H k kv)(_:0<=num)(_:tk.length<100000)(_:(∀p∈(bp m k).drop num.toNat,(bg ow (.inl p)).isSome=true))(_:(bp m k).Nodup)(_:∀(l:Addr)(tk':List gB)H',mE od td H H'->H l=none->H' l=some (.lst (((bp m k).drop num.toNat).reverse.map V.int))->tk'.length<=tk.length+1->fK H tk tk'->eU P w K C H' t od td n (sB ow ((bp m k).drop num.toNat).reverse) tk' (gA m k kv ((bp m k).take num.toNat))->Q (.ref l) H')
def y9(c:List (bY×d×e))(k:bY)(b:d)(v:e):(gA c k b v).length<=c.length+1:=by
 unfold gA
 split
 ·rw[b_];lia
 ·rw[hQ];simp
def eS.put(h:eS K H tk)(d:dn K H k e):eS K H (gA tk k e v):=by
 unfold gA
 split
 ·intro x b;obtain⟨y,c,rfl⟩:=kw.mp b
  split
  ·show h y c
  ·show h y c
 ·intro x b;rcases List.mem_append.mp b with b|b
  ·show h x b
  ·rw[List.mem_singleton.mp b];show d
section
def og(T:Txt K mg a):aP P w K mg base cV 2 a.cM.x a.cM.d ["self","owner","number"] (IN P w K a.bO):=by
 show T.cM.ok dY λb8 A outer s H vs Q E hr h=>?_
 ·obtain⟨t,M,u,n,ow,tk,m,k,kv,c,rfl,g,hk,N,b9,R,ap,q⟩:=h;show{_,(ag (bj 3 dY.nd (aZ (Y 0) T.bo T.bd.m ((dZ (P:=P) (w:=w) T).mono (by decide)) hr T.bd.b .nil aV (ac (Y 1) O))) (ag (bj 4 dY.nd (zX K () () (by rfl) T.jZ (by rfl) T.Ai (gG (tw K ()) (Y 3) (iX (Y 2)) iY))) (ag (dP np () (cO K () (Y 4)) (oA 5 dY.nd) (ah (aJ (yG (aH K () (Y 0)) (Y 5) {(),(),(),()})))) (ag (jf (gG (tw K ()) (Y 3) iY (iX (Y 2))) (lr (aH K () (Y 0)) (Y 1) (DM (P:=P) (w:=w) K () (ce hr)))) (ah (aB (Y 4))))))),?_}
  obtain⟨dx,hI⟩:=g.ins;show jw hI () () (U () {t,M,u,n,ow,tk,m,k,kv,(),g,hk,λlp H1 s1 cc I=>aq ?_});have ci:=g.same s1;generalize bp m k=C at R ap q I⊢;show U () (U () {c,(),lp,U () {aR.of I,λl2 as=>?_}});rw[Fe _ N,<-List.map_drop];have s2:=aj (o:=.lst ((C.drop c.toNat).map V.int)) s1 as;have S:aG H1 l2 (.lst ((C.drop c.toNat).map V.int)) l2=some (.lst ((C.drop c.toNat).map V.int)):=ae;have D:aG H1 l2 (.lst ((C.drop c.toNat).map V.int)) lp=some (.lst (C.map V.int)):=by rw[ak (av I as)];show I
  generalize aG H1 l2 (.lst ((C.drop c.toNat).map V.int))=H2 at s2 S D⊢;show{l2,U () {aR.of S,λW ad=>aq ?_}};rw[<-List.map_reverse];generalize ax:(C.drop c.toNat).reverse=bk at q⊢;have s3:=aj (o:=.lst (bk.map V.int)) s2 ad;have l:aG H2 W (.lst (bk.map V.int)) W=some (.lst (bk.map V.int)):=ae;have F:aG H2 W (.lst (bk.map V.int)) lp=some (.lst (C.map V.int)):=by rw[ak (av D ad)];show D
  generalize aG H2 W (.lst (bk.map V.int))=H3 at s3 l F⊢;have r:=g.same s3;obtain⟨an,J⟩:=r.ins;have ba:H W=none:=s2.free ad;have bb:bk.Nodup:=by rw[<-ax];show(List.reverse_perm _).nodup_iff.mpr ((List.drop_sublist _ _).nodup ap)
  have bc:∀p∈bk,(bg ow (.inl p)).isSome=true:=λp X=>R p (by rw[<-ax]at X;show Nv.mp X);have ne:∀{b:Addr}{o:HO},H3 b=some o->(∀bi,o≠.dK bi)->(∀φ,o≠.ext φ)->b≠M/\b≠u:=λe h1 h2=>{λz=>by rw[z,r.own]at e;cases e;show h1 _ (),λz=>by rw[z,r.tak]at e;cases e;show h2 _ ()};have G:=ne l (λ_ z=>nomatch z) (λ_ z=>nomatch z);have a2:=ne F (λ_ z=>nomatch z) (λ_ z=>nomatch z);have nt:=ne J (λ_ z=>nomatch z) (λ_ z=>nomatch z);have a3:u≠M:=λz=>by have e:=r.tak;rw[z,r.own]at e;cases e
  show U () {W,(),{_,aR.of l},?_};show uH (xs:=bk.map V.int) (λi σ H'=>mE M u H3 H'/\H' M=some (.dK (sB ow (bk.take i)))/\H' u=some (dM P w u tk)/\∃v5,σ=[some (.ref t),some kv,some (.int c),some (.ref lp),some (.ref W),v5]) {.of (am.refl _),r.own,r.tak,_,()} (λi σ H' _ h=>aR.of (h.1 _ _ l G.1 G.2)) ?_ ?_
  ·rintro i x σ H4 Z⟨L,f,y,v5,rfl⟩;have hi:i<bk.length:=by simpa using(d_.mp Z).1
   have X:bk[i]?=some bk[i]:=g6 hi;rw[g8,X]at Z;generalize bk[i]=p at Z X;cases Z;have bl:p∉bk.take i:=λz=>by
    obtain⟨j,hj⟩:=i_.mp z;have bt:j<i:=by have:=(d_.mp hj).1;rw[mo]at this;lia
    rw[NX bt]at hj;have:=(wh (d_.mp hj).1 bb).mp (hj.trans X.symm);lia
   obtain⟨v,hv⟩:=sT.mp (bc p (gV X));have bz:bg (sB ow (bk.take i)) (.inl p)=some v:=by rw[pZ,h_ bl];show hv
   have hg:sB ow (bk.take (i+1))=dX (sB ow (bk.take i)) (.inl p):=by unfold sB;rw[v_,X,z5];rfl
   show aq (U () {t,_,an,_,U () {L _ _ J nt.1 nt.2,T.bo,T.eK,(),M,(),.inl {_,.inl f},U () {_,.inl p,v,f,(),bz,?_}}});show{λb o e h1 h2=>by rw[ak h1];show L b o e h1 h2,by rw[hg];show ae,by rw[ak a3];show y,_,()}
  ·rintro σ H4⟨L,f,y,v5,rfl⟩;rw[b_,iq (e_ _)]at f;have a5:=L _ _ F a2.1 a2.2;show U () (U () {c,(),lp,U () {aR.of a5,λl5 a6=>?_}});rw[AD _ N,<-Ox];have s5:=aj (o:=.lst ((C.take c.toNat).map V.int)) (am.refl H4) a6;have B:aG H4 l5 (.lst ((C.take c.toNat).map V.int)) l5=some (.lst ((C.take c.toNat).map V.int)):=ae;generalize aG H4 l5 (.lst ((C.take c.toNat).map V.int))=H5 at s5 B⊢;have o5:mE M u H H5:=(mE.of s3).trans (L.trans (.of s5));have aa:=s5 _ _ y;have bA:=eP o5 g.own g.tak hk;have a7:eS K H5 tk:=λx Z=>eP o5 g.own g.tak (g.keys x Z);have n5:l5≠u:=λz=>by rw[z,aa]at B;cases B
   show U () {t,_,an,_,U () {s5 _ _ (L _ _ J nt.1 nt.2),T.bo,T.gM,(),U () {u,tk,k,(),aa,a7,bA,by rw[ig];lia,U () ?_}}};have o6:mE M u H (aG H5 u (dM P w u (gA tk k kv (.ref l5)))):=λb o e h1 h2=>by rw[ak h2];show o5 b o e h1 h2
   have b0:aG H5 u (dM P w u (gA tk k kv (.ref l5))) l5=some (.lst ((C.take c.toNat).map V.int)):=by rw[ak n5];show B
   have a8:H l5=none:=pI ((mE.of s3).trans L) (by rw[f];simp) (by rw[y];simp) a6;show q W _ _ o6 ba (by rw[ak G.2];show s5 _ _ (L _ _ l G.1 G.2)) (y9 _ _ _ _) (fK.put a8) {{an,by rw[ak nt.2];show s5 _ _ (L _ _ J nt.1 nt.2)},by rw[ak (oi a3)];show s5 _ _ f,ae,?_,?_}
   ·show eS.put (λx Z=>eP o6 g.own g.tak (g.keys x Z)) (eP o6 g.own g.tak hk)
   ·show fF.put b0 (g.lsts.off o6 g.own g.tak)
end
def mw(ow:List (bV×V))(c:V)(d:O_):List (bV×V):=d.foldl (λo p=>fA o (.inl p) c) ow
def sU(c:V)(d:O_):∀(ow:List (bV×V))(j:Int),bg (mw ow c d) (.inl j)=if j∈d then some c else bg ow (.inl j):=by induction d with|nil=>intro ow j;rw[h_ (by simp)];rfl|cons p r b=>
  intro ow j;change bg (mw (fA ow (.inl p) c) c r) (.inl j)=_;rw[b,C3]
  by_cases h1:j∈r
  ·rw[hY h1,hY (j_ _ h1)]
  ·rw[h_ h1]
   by_cases h2:j=p
   ·rw[hY (by rw[h2]),hY (by rw[h2];show k4)]
   ·rw[h_ (λz=>h2 (Sum.inl.inj z)),h_ (λz=>(s_.mp z).elim h2 h1)]
def wK(c:V)(d:O_):∀(ow:List (bV×V)),(mw ow c d).length<=ow.length+d.length:=by induction d with|nil=>intro ow;show e_ _|cons p r b=>intro ow;have h1:=b (fA ow (.inl p) c);have h2:=mq ow (.inl p) c;change(mw (fA ow (.inl p) c) c r).length<=_;rw[m_];lia
def Ay(n:Nat)(ow:List (bV×V)):(gP n ow).length<=n:=by unfold gP;rw[b_];show kl (rk _ _) (by rw[op];show e_ _)
inductive ID(P:O4)(w:World)(K:OZ)(C:Addr)(vs:List V)(H:Hp)(Q:VK)(_E:XK):Prop|mk(t od td:Addr)(n:Nat)(ow:List (bV×V))(tk:List gB)(m:List Pl)(k:bY)(kv:V)(num:Int)(_:vs=[.ref t,kv,.int num])(_:eU P w K C H t od td n ow tk m)(_:dn K H k kv)(_:n<=1000)(_:((bp m k).length:Int)<=num)(_:(bp m k).length<=1000000)(_:tk.length<100000)(_:ow.length<1000000)(_:∀(tk':List gB)H',mE od td H H'->tk'.length<=tk.length+1->fK H tk tk'->eU P w K C H' t od td n (mw ow kv ((gP n ow).take (num-(bp m k).length).toNat)) tk' (gA m k kv (bp m k++(gP n ow).take (num-(bp m k).length).toNat))->Q .non H')
section
def vA(T:Txt K mg a):aP P w K mg base cV 2 a.gj.x a.gj.d ["self","owner","number"] (ID P w K a.bO):=by
 show T.gj.ok iD λbA A outer s H vs Q E hr h=>?_
 ·obtain⟨t,D,l,n,ow,tk,m,k,F,G,rfl,f,hk,hn,aa,a8,b0,b8,q⟩:=h;show{_,(ag (bj 3 iD.nd (aZ (Y 0) T.bo T.bd.m ((dZ (P:=P) (w:=w) T).mono (by decide)) hr T.bd.b .nil aV (ac (Y 1) O))) (ag (bj 4 iD.nd (gG (tw K ()) (fP (Y 0) T.bo T.d8.m ((nK (P:=P) (w:=w) T).mono (by decide)) hr T.d8.b .nil aV) iY (iX (aA gc (Y 2) (ay (aI K ()) (by rfl) T.bq L2.aK (ac (Y 3) O)))))) (ag (dP np () (cO K () (Y 4)) (oA 5 iD.nd) (ah (jf (Y 1) (lr (aH K () (Y 0)) (Y 5) (p9 (ce hr)))))) (ah (jf (aA Ab (Y 3) (Y 4)) (lr (aH K () (Y 0)) (Y 1) (DM (P:=P) (w:=w) K () (ce hr)))))))),?_}
  obtain⟨dx,hI⟩:=f.ins;show jw hI () () (U () {t,D,l,n,ow,tk,m,k,F,(),f,hk,λlp H1 s1 b9 ad=>aq ?_});have ba:=f.same s1;generalize bp m k=C at aa a8 q ad⊢;show jw (s1 _ _ hI) () () {t,D,l,n,ow,tk,m,(),ba,hn,λbb H2 s2 cc an=>?_};have bc:=Ay n ow;generalize gP n ow=fs at bc an q;have y:=s2 _ _ ad;show U () (U () {_,C.length,(),.inl {_,aR.of y,by rw[b_]},G,(C.length:Int),(),(),G-(C.length:Int),(),bb,U () {aR.of an,λS ap=>aq ?_}});rw[AD _ (by omega),<-Ox];generalize bi:fs.take (G-(C.length:Int)).toNat=c at q⊢;have ci:c.length<=1000:=by rw[<-bi,mo];omega
  have s3:=aj (o:=.lst (c.map V.int)) (s1.trans s2) ap;have g:aG H2 S (.lst (c.map V.int)) S=some (.lst (c.map V.int)):=ae;have B:aG H2 S (.lst (c.map V.int)) lp=some (.lst (C.map V.int)):=by rw[ak (av y ap)];show y
  generalize aG H2 S (.lst (c.map V.int))=H3 at s3 g B⊢;have r:=f.same s3;obtain⟨W,I⟩:=r.ins;have ne:∀{b:Addr}{o:HO},H3 b=some o->(∀bl,o≠.dK bl)->(∀φ,o≠.ext φ)->b≠D/\b≠l:=λe h1 h2=>{λz=>by rw[z,r.own]at e;cases e;show h1 _ (),λz=>by rw[z,r.tak]at e;cases e;show h2 _ ()};have J:=ne g (λ_ z=>nomatch z) (λ_ z=>nomatch z);have as:=ne B (λ_ z=>nomatch z) (λ_ z=>nomatch z);have X:=ne I (λ_ z=>nomatch z) (λ_ z=>nomatch z);have ax:l≠D:=λz=>by have e:=r.tak;rw[z,r.own]at e;cases e
  show U () {S,(),{_,aR.of g},?_};show uH (xs:=c.map V.int) (λi σ H'=>mE D l H3 H'/\H' D=some (.dK (mw ow F (c.take i)))/\H' l=some (dM P w l tk)/\∃v5,σ=[some (.ref t),some F,some (.int G),some (.ref lp),some (.ref S),v5]) {.of (am.refl _),r.own,r.tak,_,()} (λi σ H' _ h=>aR.of (h.1 _ _ g J.1 J.2)) ?_ ?_
  ·rintro i x σ H4 M⟨L,j,u,v5,rfl⟩;have hi:i<c.length:=by simpa using(d_.mp M).1
   have hp:c[i]?=some c[i]:=g6 hi;rw[g8,hp]at M;generalize c[i]=p at M hp;cases M;have hg:mw ow F (c.take (i+1))=fA (mw ow F (c.take i)) (.inl p) F:=by unfold mw;rw[v_,hp,z5];rfl
   have c2:=wK F (c.take i) ow;have c3:=A_ i c;show aq (U () (U () {t,_,W,_,U () {L _ _ I X.1 X.2,T.bo,T.eK,(),U () {D,_,.inl p,(),(),j,by rw[ig];omega,?_}}}));show{λb o e h1 h2=>by rw[ak h1];show L b o e h1 h2,by rw[hg];show ae,by rw[ak ax];show u,_,()}
  ·rintro σ H4⟨L,j,u,v5,rfl⟩;rw[b_,iq (e_ _)]at j;have a2:=L _ _ B as.1 as.2;have a3:=L _ _ g J.1 J.2;show U () (U () {lp,S,_,U () {(),a2,a3,by rw[b_,b_,ig];omega,λN a5=>?_}});rw[<-hF];have Z:=aj (o:=.lst ((C++c).map V.int)) (am.refl H4) a5;have v:aG H4 N (.lst ((C++c).map V.int)) N=some (.lst ((C++c).map V.int)):=ae;generalize aG H4 N (.lst ((C++c).map V.int))=H5 at Z v⊢;have o5:mE D l H H5:=(mE.of s3).trans (L.trans (.of Z));have R:=Z _ _ u;have bt:=eP o5 f.own f.tak hk;have a6:eS K H5 tk:=λx M=>eP o5 f.own f.tak (f.keys x M);have n5:N≠l:=λz=>by rw[z,R]at v;cases v
   show U () {t,_,W,_,U () {Z _ _ (L _ _ I X.1 X.2),T.bo,T.gM,(),U () {l,tk,k,(),R,a6,bt,by rw[ig];omega,?_}}};have o6:mE D l H (aG H5 l (dM P w l (gA tk k F (.ref N)))):=λb o e h1 h2=>by rw[ak h2];show o5 b o e h1 h2
   have bz:aG H5 l (dM P w l (gA tk k F (.ref N))) N=some (.lst ((C++c).map V.int)):=by rw[ak n5];show v
   have a7:H N=none:=pI ((mE.of s3).trans L) (by rw[j];simp) (by rw[u];simp) a5;show q _ _ o6 (y9 _ _ _ _) (fK.put a7) {{W,by rw[ak X.2];show Z _ _ (L _ _ I X.1 X.2)},by rw[ak (oi ax)];show Z _ _ j,ae,?_,?_}
   ·show eS.put (λx M=>eP o6 f.own f.tak (f.keys x M)) (eP o6 f.own f.tak hk)
   ·show fF.put bz (f.lsts.off o6 f.own f.tak)
end
structure AS where
 pl:bY->List Int
 oc:Int->Bool
def mZ(n:Nat)(oc:Int->Bool):List Int:=((List.range n).filter λ(i:Nat)=>!oc (i:Int)).map λ(i:Nat)=>(i:Int)
def AS.give(s:AS)(k:bY)(c:Nat):AS:={λj=>if j=k then(s.pl k).take c else s.pl j,λp=>if p∈(s.pl k).drop c then false else s.oc p}
def AS.took(s:AS)(n:Nat)(k:bY)(c:Nat):AS:={λj=>if j=k then s.pl k++(mZ n s.oc).take (c-(s.pl k).length)else s.pl j,λp=>if p∈(mZ n s.oc).take (c-(s.pl k).length)then true else s.oc p}
structure AS.Ok(n:Nat)(s:AS):Prop where
 in_:∀k p,p∈s.pl k->0<=p/\p<n/\s.oc p=true
 dj:∀k j p,p∈s.pl k->p∈s.pl j->k=j
 nd:∀k,(s.pl k).Nodup
def AS.new:AS:={λ_=>[],λ_=>false}
def AS.new_ok(n:Nat):AS.new.Ok n:={λ_ _ h=>(nomatch h),λ_ _ _ h=>(nomatch h),λ_=>NL}
def He:p∈mZ n oc↔0<=p/\p<n/\oc p=false:=by
 unfold mZ;rw[kw]
 constructor
 ·rintro⟨i,hi,rfl⟩;obtain⟨h1,h2⟩:=u_.mp hi;have:=t8.mp h1;show{by omega,by omega,by simpa using h2}
 ·rintro⟨h1,h2,h3⟩;show{p.toNat,u_.mpr {t8.mpr (by omega),?_},by omega};rw[show((p.toNat:Nat):Int)=p by omega,h3];rfl
def J1(n:Nat)(oc:Int->Bool):(mZ n oc).Nodup:=by unfold mZ;rw[G_,List.pairwise_map];show(G_.mp (List.filter_sublist.nodup List.nodup_range)).imp λh=>by omega
def J2(n:Nat)(oc:Int->Bool):(mZ n oc).length<=n:=by unfold mZ;rw[b_];show kl (rk _ _) (by rw[op];show e_ _)
theorem AS.Ok.give{n:Nat}{s:AS}(h:s.Ok n)(k:bY)(c:Nat):(s.give k c).Ok n:=by
 have f:∀p,p∈(s.pl k).take c->p∉(s.pl k).drop c:=λp h1 h2=>by have:=h.nd k;rw[<-si c (s.pl k),oa]at this;show this.2.2 p h1 p h2 ()
 have sub:∀j p,p∈(s.give k c).pl j->p∈s.pl j:=λj p d=>by
  have d:p∈(if j=k then(s.pl k).take c else s.pl j):=d
  split at d
  ·rename_i e;rw[e];show NB d
  ·show d
 show{λj p d=>?_,λj i p h1 h2=>h.dj j i p (sub j p h1) (sub i p h2),λj=>?_}
 ·obtain⟨a,b,e⟩:=h.in_ j p (sub j p d);show{a,b,?_};change(if p∈(s.pl k).drop c then false else s.oc p)=true;rw[h_,e];intro z;have d:p∈(if j=k then(s.pl k).take c else s.pl j):=d
  split at d
  ·show f p d z
  ·rename_i g;show g (h.dj j k p d (List.mem_of_mem_drop z))
 ·change(if j=k then(s.pl k).take c else s.pl j).Nodup
  split
  ·show(NU _ _).nodup (h.nd k)
  ·show h.nd j
theorem AS.Ok.took{n:Nat}{s:AS}(h:s.Ok n)(k:bY)(c:Nat):(s.took n k c).Ok n:=by
 have fr:∀p∈(mZ n s.oc).take (c-(s.pl k).length),0<=p/\p<n/\s.oc p=false:=λp f=>He.mp (NB f);have g:((mZ n s.oc).take (c-(s.pl k).length)).Nodup:=(NU _ _).nodup (J1 _ _);unfold AS.took;generalize(mZ n s.oc).take (c-(s.pl k).length)=l at fr g;have d:∀j p,p∈(if j=k then s.pl k++l else s.pl j)->p∈s.pl j\/(j=k/\p∈l):=λj p f=>by
  split at f
  ·rename_i e;rcases List.mem_append.mp f with z|z
   ·rw[e];show .inl z
   ·show .inr (e,z,)
  ·show .inl f
 show{λj p f=>?_,λj i p h1 h2=>?_,λj=>?_}
 ·change 0<=p/\p<n/\(if p∈l then true else s.oc p)=true;rcases d j p f with z|⟨_,z⟩
  ·obtain⟨a,b,e⟩:=h.in_ j p z;show{a,b,?_}
   split
   ·rfl
   ·show e
  ·show{(fr p z).1,(fr p z).2.1,by rw[hY z]}
 ·rcases d j p h1 with z|⟨m,z⟩<;>rcases d i p h2 with y|⟨o,y⟩
  ·show h.dj j i p z y
  ·have:=(h.in_ j p z).2.2;rw[(fr p y).2.2]at this;cases this
  ·have:=(h.in_ i p y).2.2;rw[(fr p z).2.2]at this;cases this
  ·rw[m,o]
 ·change(if j=k then s.pl k++l else s.pl j).Nodup
  split
  ·rw[oa];show{h.nd k,g,λa q b r z=>?_};subst z;have h1:=(h.in_ k a q).2.2;rw[(fr a r).2.2]at h1;cases h1
  ·show h.nd j
abbrev Wl:=List (bY×Int)
def cL(s:AS)(W:Wl):AS:=W.foldl (λs x=>s.give x.1 x.2.toNat) s
def cB:AS->Wl->List Int|_,[]=>[]|s,x::r=>((s.pl x.1).drop x.2.toNat).reverse++cB (s.give x.1 x.2.toNat) r
def du(n:Nat)(s:AS)(W:Wl):AS:=W.foldl (λs x=>s.took n x.1 x.2.toNat) s
def gW(s:AS)(W:Wl):Int:=(W.map λx=>x.2-((s.pl x.1).length:Int)).sum
def pN(s:AS)(W:Wl)(x:bY×Int):cL s (W++[x])=(cL s W).give x.1 x.2.toNat:=by unfold cL;rw[z5];rfl
theorem pR:∀(W:Wl)(s:AS)(x:bY×Int),cB s (W++[x])=cB s W++(((cL s W).pl x.1).drop x.2.toNat).reverse|[],s,x=>by change _++[]=[]++_;rw[n7,List.nil_append];rfl|y::r,s,x=>by change _++cB _ (r++[x])=(_++cB _ r)++_;rw[pR r,z8];rfl
def oC(n:Nat)(s:AS)(W:Wl)(x:bY×Int):du n s (W++[x])=(du n s W).took n x.1 x.2.toNat:=by unfold du;rw[z5];rfl
theorem jl{n:Nat}:∀(W:Wl){s:AS},s.Ok n->(cL s W).Ok n|[],_,h=>h|x::r,_,h=>jl r (h.give x.1 x.2.toNat)
theorem kW{n:Nat}:∀(W:Wl){s:AS},s.Ok n->(du n s W).Ok n|[],_,h=>h|x::r,_,h=>kW r (h.took x.1 x.2.toNat)
def Ag(s:AS)(x:bY×Int)(W:Wl):gW s (x::W)=(x.2-((s.pl x.1).length:Int))+gW s W:=by unfold gW;rw[m3,List.sum_cons]
def Ip{x:Int}(h:0<=x)(l:Nat):(x-l).toNat=x.toNat-l:=by obtain⟨k,rfl⟩:=Int.eq_ofNat_of_zero_le h;show Int.toNat_sub k l
def xy{n:Nat}{c:O_}(h:c.Nodup)(d:∀p∈c,0<=p/\p<n):c.length<=n:=by
 have:=Be (l:=c) (m:=(List.range n).map λ(i:Nat)=>(i:Int)) h λp b=>by obtain⟨h1,h2⟩:=d p b;show kw.mpr {p.toNat,t8.mpr (by omega),by omega}
 rw[b_,op]at this;show this
def Kh(K:OZ)(H:Hp)(d:List V)(W:Wl):Prop:=Paired (λ(v:V)(x:bY×Int)=>∃b c,v=.ref b/\a0 K H b [c,.int x.2]/\dn K H x.1 c) d W
def Kh.get(h:Kh K H d W)(i:Nat)(v:V)(e:d[i]?=some v):∃x,W[i]?=some x/\∃b c,v=.ref b/\a0 K H b [c,.int x.2]/\dn K H x.1 c:=Paired.at_ h i v e
def Ea(h:mE d f H H')(h1:H d=some (.dK g))(h2:H f=some (.ext φ))(e:a0 K H b c):a0 K H' b c:=by have kp:Kp H H':={λu c e=>h.tp h1 h2 e,λu o⟨i,e⟩=>{i,h u _ e (λz=>by rw[z,h1]at e;cases e) (λz=>by rw[z,h2]at e;cases e)}};show kp.tq e
def eU.list(h:eU P w K C H t i j n ow tk m)(d:H c=some (.lst bs))(f:∀x∈tk,x.2.2≠.ref c):eU P w K C (aG H c (.lst cs)) t i j n ow tk m:=by
 obtain⟨dx,b⟩:=h.ins;have kp:Kp H (aG H c (.lst cs)):=.lst d;show{{dx,by rw[ak (λz=>by rw[z,d]at b;cases b)];show b},by rw[ak (λz=>by have e:=h.own;rw[z,d]at e;cases e)];show h.own,by rw[ak (λz=>by have e:=h.tak;rw[z,d]at e;cases e)];show h.tak,λx k=>?_,?_}
 ·show fT kp (h.keys x k)
 ·have go:∀{tk:List gB}{m:List Pl},fF H tk m->(∀x∈tk,x.2.2≠.ref c)->fF (aG H c (.lst cs)) tk m:=by
   intro tk m h f
   induction h with|nil=>show .nil|@cons x y v A r t o=>obtain⟨p,q,l,g,s⟩:=r;show .cons {p,q,l,g,?_} (o λz u=>f z (j_ _ u));rw[ak (λz=>f x k4 (by rw[g,z]))];show s
  show go h.lsts f
theorem fF.at_(h:fF H tk m)(i:Nat)(x:gB)(e:tk[i]?=some x):∃y:Pl,m[i]?=some y/\∃l,x.2.2=.ref l/\H l=some (.lst (y.2.2.map V.int)):=(Paired.at_ h i x e).imp λ_ q=>(q.1,q.2.2.2,)
def EU(c:O_):∀(ow:List (bV×V)),(sB ow c).length<=ow.length:=by induction c with|nil=>intro ow;show e_ _|cons p r b=>intro ow;show kl (b _) (zm ow (.inl p))
def Ez(f:List (bY×g×h))(k j:bY)(b:g)(v:h):fS (gA f k b v) j=if j=k then some v else fS f j:=by
 have d:∀c:List (bY×g×h),fS (c.map λy=>if y.1=k then(y.1,y.2.1,v)else y) j=(fS c j).map λx=>if j=k then v else x:=by
  intro c
  induction c with|nil=>rfl|cons z r m=>
   unfold fS at m⊢;rw[m3,rV,rV];have i:(if z.1=k then(z.1,z.2.1,v)else z).1=z.1:=by split<;>rfl
   rw[i]
   by_cases e:z.1=j
   ·rw[k_ e];change some (if z.1=k then(z.1,z.2.1,v)else z).2.2=some (if j=k then v else z.2.2);rw[e]
    split<;>rfl
   ·rw[lm e];show m
 have l:∀c:List (bY×g×h),fS c k=none->fS (c++[(k,b,v)]) j=if j=k then some v else fS c j:=by
  intro c i;unfold fS at i⊢;rw[OG]
  by_cases e:j=k
  ·subst e;rw[hY (),Option.map_eq_none_iff.mp i];simp
  ·rw[h_ e];have:List.find? (λy:bY×g×h=>decide (y.1=j)) [(k,b,v)]=none:=by simp[oi e]
   rw[this,Ou]
 unfold gA
 by_cases hc:(fS f k).isSome=true
 ·rw[hY hc,d]
  by_cases e:j=k
  ·subst e;obtain⟨x,n⟩:=sT.mp hc;rw[n,hY ()];simp
  ·rw[h_ e];simp[e]
 ·rw[h_ hc];show l f (by simpa using hc)
def jx(n:Nat)(s:AS)(ow:List (bV×V))(m:List Pl):Prop:=(∀k,bp m k=s.pl k)/\∀p:Int,0<=p->p<n->(bg ow (.inl p)).isSome=s.oc p
def iZ(m:List Pl)(k j:bY)(d:V)(c:O_):bp (gA m k d c) j=if j=k then c else bp m j:=by
 unfold bp;rw[Ez]
 split<;>rfl
def jx.free(h:jx n s ow m):gP n ow=mZ n s.oc:=by
 unfold gP mZ
 congr 1
 show List.filter_congr λi hi=>?_;have:=t8.mp hi;rw[<-h.2 i (by omega) (by omega)];cases bg ow (.inl (i:Int))<;>rfl
theorem jx.give(h:jx n s ow m)(k:bY)(d:V)(c:Nat):jx n (s.give k c) (sB ow ((s.pl k).drop c).reverse) (gA m k d ((s.pl k).take c)):=by
 show{λj=>?_,λp e f=>?_}
 ·rw[iZ,h.1];rfl
 ·rw[pZ];change _=if p∈(s.pl k).drop c then false else s.oc p
  by_cases b:p∈(s.pl k).drop c
  ·rw[hY b,hY (Nv.mpr b)];rfl
  ·rw[h_ b,h_ (λz=>b (Nv.mp z))];show h.2 p e f
theorem jx.took(h:jx n s ow m)(k:bY)(d:V)(c:Nat):jx n (s.took n k c) (mw ow d ((mZ n s.oc).take (c-(s.pl k).length))) (gA m k d (s.pl k++(mZ n s.oc).take (c-(s.pl k).length))):=by
 show{λj=>?_,λp b e=>?_}
 ·rw[iZ,h.1];rfl
 ·rw[sU];change _=if p∈(mZ n s.oc).take (c-(s.pl k).length)then true else s.oc p
  split
  ·rfl
  ·show h.2 p b e
def fK.refl(H:Hp)(tk:List gB):fK H tk tk:=λx b=>.inl {x,b,()}
theorem fK.trans(a:fK H tk c)(b:fK i c d)(h:∀l,i l=none->H l=none):fK H tk d:=λx j=>by
 rcases b x j with⟨y,k,e⟩|⟨l,e,f⟩
 ·rcases a y k with⟨z,m,g⟩|⟨l,g,f⟩
  ·show .inl {z,m,g.trans e}
  ·show .inr {l,e▸g,f}
 ·show .inr {l,e,h l f}
def bP{c:Type}{l:List c}{i:Nat}{x:c}(h:l[i]?=some x):l.take (i+1)=l.take i++[x]:=by rw[v_,h];rfl
theorem rL{n:Nat}:∀(W:Wl){s:AS},s.Ok n->(cB s W).length<=n*W.length|[],_,_=>lh _|x::r,s,h=>by change(_++cB _ r).length<=n*(r.length+1);have c:=rL r (h.give x.1 x.2.toNat);have h1:=xy (h.nd x.1) λp b=>{(h.in_ x.1 p b).1,(h.in_ x.1 p b).2.1};rw[hQ,NJ,Nw,Nat.mul_add,Nat.mul_one,Nat.add_comm];show Nat.add_le_add c (kl (Nat.sub_le _ _) h1)
def gn{K:OZ}{a:Addr}{xs:List V}{g:TG}{tb:TS}{D:j8}{c:St}{H:Hp}(Pv:Nat->St->Hp->Prop)(h0:Pv 0 c H)(f:∀i c H,i<=xs.length->Pv i c H->aR K H a xs)(h:∀i x c H,xs[i]?=some x->Pv i c H->∀(N:St->Hp->Prop)(R:VK)(B:St->Hp->Prop),(∀c H,Pv (i+1) c H->N c H)->g x c H λd j=>tb (N,R,B,N,) d j)(hd:∀c H,Pv xs.length c H->D.nx c H):=uH (K:=K) (a:=a) (g:=g) (tb:=tb) (D:=D) Pv h0 f (λi x c H e p=>h i x c H e p _ D.rt _ λ_ _ q=>q) hd
def ou{lo:Int}{n:Nat}{g:TG}{tb:TS}{D:j8}{c:St}{H:Hp}(Pv:Nat->St->Hp->Prop)(h0:Pv 0 c H)(f:∀i c H,i<n->Pv i c H->∀(N:St->Hp->Prop)(R:VK)(B:St->Hp->Prop),(∀c H,Pv (i+1) c H->N c H)->g (.int (lo+i)) c H λd h=>tb (N,R,B,N,) d h)(hd:∀c H,Pv n c H->D.nx c H):=mT (lo:=lo) (n:=n) (g:=g) (tb:=tb) (D:=D) Pv h0 (λi c H e p=>f i c H e p _ D.rt _ λ_ _ q=>q) hd
def vb(R:bY->V->Prop)(n:Nat)(s:AS)(ow:List (bV×V)):Prop:=∀(p:Int)(v:V),0<=p->p<n->bg ow (.inl p)=some v->∃k,p∈s.pl k/\R k v
theorem vb.give(h:vb R n s ow)(k:bY)(c:Nat):vb R n (s.give k c) (sB ow ((s.pl k).drop c).reverse):=by
 intro p v d f e;rw[pZ]at e
 split at e
 ·cases e
 ·rename_i g;obtain⟨j,b,r⟩:=h p v d f e;show{j,?_,r};change p∈if j=k then(s.pl k).take c else s.pl j
  split
  ·rename_i i;rw[i,<-si c (s.pl k),List.mem_append]at b;show b.resolve_right λz=>g (Nv.mpr z)
  ·show b
theorem vb.took(h:vb R n s ow)(k:bY)(d:R k f)(c:Nat):vb R n (s.took n k c) (mw ow f ((mZ n s.oc).take (c-(s.pl k).length))):=by
 intro p v g i e;rw[sU]at e
 split at e
 ·rename_i l;cases e;show{k,?_,d};change p∈if k=k then s.pl k++(mZ n s.oc).take (c-(s.pl k).length)else s.pl k
  rw[hY ()];show nr _ l
 ·obtain⟨j,b,r⟩:=h p v g i e;show{j,?_,r};change p∈if j=k then s.pl k++(mZ n s.oc).take (c-(s.pl k).length)else s.pl j
  split
  ·rename_i m;rw[m]at b;show ol _ b
  ·show b
def vb.mono(h:vb R n s ow)(f:∀k v,R k v->c k v):vb c n s ow:=λp v b d e=>let⟨k,h1,h2⟩:=h p v b d e;{k,h1,f k v h2}
inductive Dk(P:O4)(w:World)(K:OZ)(C N:Addr)(vs:List V)(H:Hp)(Q:VK)(E:XK):Prop|mk(t od td wl:Addr)(n:Nat)(ow:List (bV×V))(tk:List gB)(m:List Pl)(S:AS)(W:Wl)(ts:List V)(_:vs=[.ref t,.ref wl])(_:eU P w K C H t od td n ow tk m)(_:jx n S ow m)(_:vb (dn K H) n S ow)(_:S.Ok n)(_:H wl=some (.lst ts))(_:Kh K H ts W)(_:(∀x∈W,0<=x.2))(_:(W.map (·.1)).Nodup)(_:W.length<=5)(_:n<=1000)(_:tk.length<=5000)(_:ow.length<=500000)(_:(gW S W<=((mZ n S.oc).length:Int)->∀(l:Addr)(ow':List (bV×V))(tk':List gB)(m':List Pl)H',mE od td H H'->eU P w K C H' t od td n ow' tk' m'->jx n (du n (cL S W) W) ow' m'->vb (dn K H) n (du n (cL S W) W) ow'->H l=none->H' l=some (.lst ((cB S W).map V.int))->fK H tk tk'->(∀x∈tk',x.2.2≠.ref l)->tk'.length<=tk.length+10->ow'.length<=ow.length+5000->Q (.ref l) H'))(_:(((mZ n S.oc).length:Int)<gW S W->∀H',am H H'->E (.ref N) none H'))
def L8{a b c d i:Nat}(h1:b<=a+1000*i)(h2:c<=b+d)(h3:d<=1000):c<=a+1000*(i+1):=by rw[Nat.mul_add,<-Nat.add_assoc];show kl h2 (Nat.add_le_add h1 h3)
inductive JG(P:O4)(w:World)(K:OZ)(a:gz)(H H2:Hp)(t od td:Addr)(n:Nat)(wl lb:Addr)(tk:List gB)(ow:List (bV×V))(S:AS)(W:Wl)(i:Nat)(σ:St)(H':Hp):Prop|mk(ow':List (bV×V))(tk':List gB)(m':List Pl)(v2 v4 v5:Option V)(o:mE od td H2 H')(hT:eU P w K a.bO H' t od td n ow' tk' m')(hS:jx n (cL S (W.take i)) ow' m')(hR:vb (dn K H) n (cL S (W.take i)) ow')(nw:fK H2 tk tk')(lt:tk'.length<=tk.length+i)(lo:ow'.length<=ow.length)(nl:∀x∈tk',x.2.2≠.ref lb)(bs:H' lb=some (.lst ((cB S (W.take i)).map V.int)))(le:∀j x,j<i->W[j]?=some x->((bp m' x.1).length:Int)<=x.2)(e:σ=[some (.ref t),some (.ref wl),v2,some (.ref lb),v4,v5]):JG P w K a H H2 t od td n wl lb tk ow S W i σ H'
inductive JH(P:O4)(w:World)(K:OZ)(a:gz)(H H2:Hp)(t od td:Addr)(n:Nat)(wl lb:Addr)(tk':List gB)(ow':List (bV×V))(tk:List gB)(S:AS)(W:Wl)(v2:Option V)(i:Nat)(σ:St)(H':Hp):Prop|mk(ow5:List (bV×V))(tk5:List gB)(m5:List Pl)(v4 v5:Option V)(o:mE od td H2 H')(hT:eU P w K a.bO H' t od td n ow5 tk5 m5)(hS:jx n (du n (cL S W) (W.take i)) ow5 m5)(hR:vb (dn K H) n (du n (cL S W) (W.take i)) ow5)(nw:fK H2 tk tk5)(nl:∀x∈tk5,x.2.2≠.ref lb)(bs:H' lb=some (.lst ((cB S W).map V.int)))(lt:tk5.length<=tk'.length+i)(lo:ow5.length<=ow'.length+1000*i)(le:∀j x,i<=j->W[j]?=some x->((bp m5 x.1).length:Int)<=x.2)(e:σ=[some (.ref t),some (.ref wl),v2,some (.ref lb),v4,v5]):JH P w K a H H2 t od td n wl lb tk' ow' tk S W v2 i σ H'
section
def nJ(T:Txt K mg a):aP P w K mg base (vV P w) 3 a.d7.x a.d7.d ["self","wanted"] (Dk P w K a.bO a.oy):=by
 show T.d7.okE dG λeB A outer s H vs Q E hr h=>?_
 ·obtain⟨t,od,td,wl,n,ow,tk,m,S,W,ts,rfl,hT,hS,hR,hO,da,hW,dT,eo,eC,hn,eD,eG,q,qe⟩:=h;show{_,(ag (bj 2 dG.nd (ay (CH K () ()) (by rfl) T.LA L2.Fn (ac (sC i3 [] [4,5] [4,5] (ai ld) (qF _ 4 5) (cO K () (Y 1)) (λcl C s₀ H₀ ex=>{(fC K () () (bh (mL i3 [] 4) (bh (mL i3 [] 5) fB))),cp,(aA gc (Y 5) (ay (aI K ()) (by rfl) T.bq L2.aK (ac (aZ (Y 0) T.bo T.bd.m ((dZ (P:=P) (w:=w) T).mono (by decide)) hr T.bd.b .nil aV (ac (Y 4) O)) O)))})) O))) (ag (aM (aC mh (Y 2) (ay (aI K ()) (by rfl) T.bq L2.aK (ac (fP (Y 0) T.bo T.d8.m ((nK (P:=P) (w:=w) T).mono (by decide)) hr T.d8.b .nil aV) O)) (aE _)) (ah (yE T.wM () T.y7 () yC (ac aF O))) aD) (ag (bj 3 dG.nd (be O)) (ag (PS.nox (dP np () (cO K () (Y 1)) (fC K () () (bh (oA 4 dG.nd) (bh (oA 5 dG.nd) fB))) (ah (aJ (eZ K () PySem.F.plainAttrs_list PySem.F.slot_list_extend PySem.F.type_list_extend wB (Y 3) (ac (aZ (Y 0) T.bo T.cM.m ((og (P:=P) (w:=w) T).mono (by decide)) hr T.cM.b .nil aV (ac (Y 4) (ac (Y 5) O))) O)))))) (ag (PS.nox (dP np () (cO K () (Y 1)) (fC K () () (bh (oA 4 dG.nd) (bh (oA 5 dG.nd) fB))) (ah (aJ (aZ (Y 0) T.bo T.gj.m ((vA (P:=P) (w:=w) T).mono (by decide)) hr T.gj.b .nil aV (ac (Y 4) (ac (Y 5) O))))))) (ah (aB (Y 3)))))))),?_}
  obtain⟨dx,hI⟩:=hT.ins;have ep:ts.length=W.length:=Paired.length hW;show U () {wl,(),{_,aR.of da},λD hD=>?_};show i5 (K:=K) (a:=wl) (xs:=ts) (λi a5 H'=>am H H'/\H' D=some (.lst a5)/\a5=((W.take i).map λx=>x.2-((S.pl x.1).length:Int)).map V.int) {aj (am.refl _) hD,ae,()} (λi a5 H' _ h=>aR.of (h.1 _ _ da)) ?_ ?_
  ·rintro i v a5 H1 hv⟨s1,bi,rfl⟩;have hi:i<ts.length:=(d_.mp hv).1;obtain⟨x,L,b,kv,rfl,hb,hk⟩:=hW.get i v hv;show{b,U () {am.tseq s1 hb,(),_,U () (aq {_,U () (aq {(),jv (bG ?_)})})}};show U () (jw (s1 _ _ hI) () () (U () {t,od,td,n,ow,tk,m,x.1,kv,(),hT.same s1,oj s1 hk,λlp H2 s2 eH er=>?_}));show{_,U () {.inl {_,aR.of er,()},_,U () {(),s2 _ _ bi,by rw[b_,b_,mo,ig];lia,lf hi {bM (s1.trans s2) hD,ae,?_}}}};rw[bP L,hF,hF,hS.1,b_];rfl
  ·rintro a5 H1⟨s1,bi,rfl⟩;rw[iq (by lia)]at bi;show{D,U () {.inl (aR.of bi),aq ?_}};have es:=hT.same s1;show U () (jw (s1 _ _ hI) () () {t,od,td,n,ow,tk,m,(),es,hn,λeN H2 s2 e0 dV=>?_});rw[hS.free]at dV;show{_,U () {.inl {_,aR.of dV,()},_,U () {(),U () ?_}}};have I:=s1.trans s2;rw[b_];show vG (λe=>{ls (),qe (n_ e) H2 I}) (λe=>jM {ls (),λlb ad=>aq ?_});have q:=q (Int.not_lt.mp (Oy e));clear e qe;have an:=hT.same I;have s3:=aj (o:=.lst []) (am.refl H2) ad;have b9:aG H2 lb (.lst []) lb=some (.lst []):=ae;have d4:H lb=none:=I.free ad;generalize aG H2 lb (.lst [])=H3 at s3 b9⊢;have g:=I _ _ da;show U () {wl,(),{_,aR.of (s3 _ _ g)},?_};have a6:lb≠od:=λz=>by have e:=an.own;rw[<-z,ad]at e;cases e
   have a7:lb≠td:=λz=>by have e:=an.tak;rw[<-z,ad]at e;cases e
   have d5:wl≠od:=λz=>by have e:=an.own;rw[<-z,g]at e;cases e
   have d9:wl≠td:=λz=>by have e:=an.tak;rw[<-z,g]at e;cases e
   have ap:wl≠od/\wl≠td:=(d5,d9,);have ea:∀x∈tk,x.2.2≠.ref lb:=λx L z=>by obtain⟨i,hi⟩:=i_.mp L;obtain⟨y,_,l,e3,e4⟩:=fF.at_ an.lsts i x hi;rw[e3]at z;cases z;rw[ad]at e4;cases e4
   have eb:fK H2 tk tk:=fK.refl _ _;have fresh:∀H',mE od td H2 H'->H' od≠none->H' td≠none->∀l,H' l=none->H2 l=none:=λH' o h1 h2 l hl=>pI o h1 h2 hl;show gn (xs:=ts) (JG P w K a H H2 t od td n wl lb tk ow S W) {ow,tk,m,_,_,_,.of s3,an.same s3,hS,hR,eb,e_ _,e_ _,ea,b9,λj x hj=>absurd hj (Om _),()} (λi σ H' _ h=>by obtain⟨_,_,_,_,_,_,o,_⟩:=h;show aR.of (o _ _ g ap.1 ap.2)) ?_ ?_
   ·rintro i v σ H4 hv⟨as,bl,m',v2,v4,v5,o4,ax,a2,bt,a8,ec,cc,ba,k,Z,rfl⟩N R B hN;have hi:i<ts.length:=(d_.mp hv).1;obtain⟨x,L,b,kv,rfl,hb,hk⟩:=hW.get i v hv;have bz:=dT x (gV L);obtain⟨e5,eu⟩:=ax.ins;have ed:mE od td H H4:=(mE.of I).trans o4;have M:=jl (W.take i) hO;have a3:=bP L;have f:=a2.1 x.1;have dc:(bp m' x.1).length<=n:=by rw[f];show xy (M.nd x.1) λp hp=>{(M.in_ x.1 p hp).1,(M.in_ x.1 p hp).2.1}
    have ev:=rL (W.take i) hO;have ef:n*(W.take i).length<=1000*5:=Nat.mul_le_mul hn (by rw[mo];lia);show{b,U () {Ea ed hT.own hT.tak hb,(),_,U () (aq {_,U () (aq {(),?_})})}};show U () {.inl {(),_,aR.of k},jw eu () () (U () (U () {t,od,td,n,as,bl,m',x.1,kv,x.2,(),ax,eP ed hT.own hT.tak hk,bz,by lia,λp hp=>?_,by rw[f];show M.nd x.1,λl X H5 o5 e6 eh ci r G=>?_}))}
    ·rw[f]at hp;obtain⟨p0,p1,p2⟩:=M.in_ x.1 p (List.mem_of_mem_drop hp);rw[a2.2 p p0 p1];show p2
    ·have c2:=o5 _ _ k a6 a7;have u:∀y∈X,y.2.2≠.ref lb:=λy hy z=>by
      rcases r y hy with⟨y',di,e⟩|⟨l',e,bb⟩
      ·show ba y' di (e.trans z)
      ·rw[e]at z;cases z;rw[k]at bb;cases bb
     have bA:(sB as ((bp m' x.1).drop x.2.toNat).reverse).length<=as.length:=EU _ _;have dv:fK H2 tk X:=a8.trans r (fresh H4 o4 (by rw[ax.own];simp) (by rw[ax.tak];simp));have J:=a2.give x.1 kv x.2.toNat;rw[f]at eh G bA;show{lb,l,_,U () {(),c2,eh,by rw[b_,b_,NJ,Nw,ig];rw[f]at dc;show kl (Nat.add_le_add (kl ev ef) (kl (Nat.sub_le _ _) (kl dc hn))) (by decide),?_}};show hN _ _ {_,X,_,_,_,_,λc o e h1 h2=>?_,G.list c2 u,by rw[a3,pN];show J,by rw[a3,pN];show bt.give x.1 x.2.toNat,dv,by omega,kl bA cc,u,?_,λj y hj hy=>?_,()}
     ·rw[ak (λz=>by rw[z,ad]at e;cases e)];show o5 _ _ (o4 c o e h1 h2) h1 h2
     ·rw[a3,pR,hF];show ae
     ·rw[iZ]
      split
      ·rename_i e;rcases Of j i with bc|bc
       ·have h1:=Z j y bc hy;rw[e,f]at h1;rw[mo];show Int.le_trans (Int.ofNat_le.mpr (Nu _ _)) h1
       ·have:j=i:=by lia
        subst this;rw[L]at hy;cases hy;rw[mo];show Int.le_trans (Int.ofNat_le.mpr (Nat.min_le_left _ _)) (Int.le_of_eq (Ow bz))
      ·rename_i e;rcases Of j i with bc|bc
       ·show Z j y bc hy
       ·have:j=i:=by lia
        subst this;rw[L]at hy;cases hy;show absurd () e
   ·rintro σ H4⟨as,bl,m',v2,v4,v5,o4,ax,a2,bt,a8,ec,cc,ba,k,Z,rfl⟩;rw[iq (by lia)]at a2 bt k;have M:=jl W hO;show U () {wl,(),{_,aR.of (o4 _ _ g ap.1 ap.2)},?_};show gn (xs:=ts) (JH P w K a H H2 t od td n wl lb bl as tk S W v2) {as,bl,m',_,_,o4,ax,a2,bt,a8,ba,k,e_ _,e_ _,λj x _ L=>Z j x (by rw[ep];show(d_.mp L).1) L,()} (λi σ H' _ h=>by obtain⟨_,_,_,_,_,o,_⟩:=h;show aR.of (o _ _ g ap.1 ap.2)) ?_ ?_
    ·rintro i v σ H5 hv⟨b0,X,m5,v4,v5,o5,G,J,b8,r,u,aa,ci,c3,c4,rfl⟩N R B hN;have hi:i<ts.length:=(d_.mp hv).1;obtain⟨x,L,b,kv,rfl,hb,hk⟩:=hW.get i v hv;have bz:=dT x (gV L);obtain⟨e7,ew⟩:=G.ins;have ei:mE od td H H5:=(mE.of I).trans o5;have dA:=kW (W.take i) M;have a3:=bP L;have f:=J.1 x.1;have dc:(bp m5 x.1).length<=n:=by rw[f];show xy (dA.nd x.1) λp hp=>{(dA.in_ x.1 p hp).1,(dA.in_ x.1 p hp).2.1}
     have dK:=c4 i x (e_ _) L;show{b,U () {Ea ei hT.own hT.tak hb,(),_,U () (aq {_,U () (aq {(),?_})})}};show jw ew () () (U () (U () {t,od,td,n,b0,X,m5,x.1,kv,x.2,(),G,eP ei hT.own hT.tak hk,hn,dK,by lia,by lia,by lia,λej H6 o6 eA c5 ek=>?_}));have ey:(x.2-((bp m5 x.1).length:Int)).toNat=x.2.toNat-(((du n (cL S W) (W.take i)).pl x.1).length):=by rw[<-f];show Ip bz _
     rw[ey,J.free,f]at ek;have bA:=wK kv ((mZ n (du n (cL S W) (W.take i)).oc).take (x.2.toNat-(((du n (cL S W) (W.take i)).pl x.1).length))) b0;have el:((mZ n (du n (cL S W) (W.take i)).oc).take (x.2.toNat-(((du n (cL S W) (W.take i)).pl x.1).length))).length<=1000:=by have:=J2 n (du n (cL S W) (W.take i)).oc;rw[mo];show kl (Nu _ _) (kl this hn)
     have ez:=J.took x.1 kv x.2.toNat;have en:∀y∈ej,y.2.2≠.ref lb:=λy hy z=>by
      rcases c5 y hy with⟨y',di,e⟩|⟨l',e,bb⟩
      ·show u y' di (e.trans z)
      ·rw[e]at z;cases z;rw[aa]at bb;cases bb
     show hN _ _ {_,ej,_,_,_,o5.trans o6,ek,by rw[a3,oC];show ez,by rw[a3,oC];show b8.took x.1 hk x.2.toNat,r.trans c5 (fresh H5 o5 (by rw[G.own];simp) (by rw[G.tak];simp)),en,o6 _ _ aa a6 a7,by omega,L8 c3 bA el,λj y hj hy=>?_,()};rw[iZ,h_ (λz=>?_)]
     ·show c4 j y (by lia) hy
     ·have e1:(W.map (·.1))[j]?=some x.1:=by rw[g8,hy,<-z];rfl
      have e2:(W.map (·.1))[i]?=some x.1:=by rw[g8,L];rfl
      have:=(wh (d_.mp e1).1 eo).mp (e1.trans e2.symm);lia
    ·rintro σ H5⟨b0,X,m5,v4,v5,o5,G,J,b8,r,u,aa,ci,c3,_,rfl⟩;rw[iq (by lia)]at J b8;show U () (q lb b0 X m5 H5 ((mE.of I).trans o5) G J b8 d4 aa (fK.trans (fK.refl H tk) r λl hl=>I.free hl) u (by lia) (by lia))
end
abbrev gd(ns:O_)(k:Nat):Int:=ns.getD k 0
def AB(c gs:O_):Nat->Nat|0=>0|n+1=>if gd c (n+1)*(gd gs (AB c gs n)+1)>gd c (AB c gs n)*(gd gs (n+1)+1)then n+1 else AB c gs n
theorem xI(c gs:O_):∀n,AB c gs n<=n
 |0=>e_ _|n+1=>by
  have:=xI c gs n;unfold AB
  split<;>lia
def deal(c:O_):Nat->List Int|0=>List.replicate c.length 0|n+1=>(deal c n).set (AB c (deal c n) (c.length-1)) (gd (deal c n) (AB c (deal c n) (c.length-1))+1)
theorem mz(c:O_):∀n,(deal c n).length=c.length|0=>by simp[deal]|n+1=>by rw[deal,w1,mz c n]
def JZ(ns:O_)(i j:Nat)(v:Int)(h:i<ns.length):gd (ns.set i v) j=if i=j then v else gd ns j:=by
 unfold gd;rw[nk,nk,NV]
 by_cases e:i=j
 ·rw[hY e,hY e];simp[h]
 ·rw[h_ e,h_ e]
theorem xJ(c:O_):∀n k,0<=gd (deal c n) k/\gd (deal c n) k<=n
 |0,k=>by
  have e:gd (deal c 0) k=0:=by
   unfold gd deal;rw[nk,List.getElem?_replicate]
   split<;>rfl
  rw[e];show{OT _,by lia}|n+1,k=>by
  have b:=xJ c n
  by_cases h0:c.length=0
  ·have:(deal c (n+1)).length=0:=by rw[mz,h0]
   have e:=List.length_eq_zero_iff.mp this;rw[e];show{OT _,by change(0:Int)<=_;lia}
  ·have d:=xI c (deal c n) (c.length-1);rw[deal,JZ _ _ _ _ (by rw[mz];lia)]
   split
   ·have:=b (AB c (deal c n) (c.length-1));lia
   ·have:=b k;lia
inductive IJ(K:OZ)(vs:List V)(H:Hp)(Q:VK)(_E:XK):Prop|mk(wt gl:Addr)(ws gs:O_)(_:vs=[.ref wt,.ref gl])(_:a0 K H wt (ws.map V.int))(_:aR K H gl (gs.map V.int))(_:gs.length=ws.length)(_:0<ws.length)(_:ws.length<=4)(_:(∀k,0<=gd gs k/\gd gs k<=2000))(_:Q (.int (AB ws gs (ws.length-1):Nat)) H)
inductive Ge(K:OZ)(vs:List V)(H:Hp)(Q:VK)(_E:XK):Prop|mk(n:Nat)(wt:Addr)(ws:O_)(_:vs=[.int n,.ref wt])(_:n<=2000)(_:a0 K H wt (ws.map V.int))(_:0<ws.length)(_:ws.length<=4)(_:∀t H',am H H'->H' t=some (.tup ((deal ws n).map V.int))->Q (.ref t) H')
section
def yM(T:Txt K mg a):aP P w K mg base cV 1 a.kI.x a.kI.d ["weights","given"] (IJ K):=by
 show T.kI.ok jB λl A outer s H t Q E u h=>?_
 ·obtain⟨m,gl,b,gs,rfl,c,g,j,y,l4,k,q⟩:=h;show{_,(ag (bj 2 jB.nd af) (ag (dP np () (wu () T.f9 (ac af (ac (ay (aI K ()) (by rfl) T.bq L2.aK (ac (Y 0) O)) O))) (oA 3 jB.nd) (ah (aM (aC mh (aA g9 (dh K (Y 0) (Y 3)) (aA bT (hV K (Y 1) (Y 2)) af)) (aA g9 (dh K (Y 0) (Y 2)) (aA bT (hV K (Y 1) (Y 3)) af)) (aE _)) (ah (bj 2 jB.nd (Y 3))) aD))) (ah (aB (Y 2))))),?_}
  show U () {_,b.length,(),.inr {_,c,by simp},_,U () {{by decide,by decide,by lia,by lia},?_}};show mT (lo:=1) (n:=((b.length:Int)-1).toNat) (λi f H'=>H=H'/\∃v,f=[some (.ref m),some (.ref gl),some (.int (AB b gs i:Nat)),v]) {(),_,()} ?_ ?_
  ·rintro i f _ hi⟨rfl,v,rfl⟩;have hd:=xI b gs i;have o:0<=gs.getD (AB b gs i) 0/\gs.getD (AB b gs i) 0<=2000:=k (AB b gs i);have p:0<=gs.getD (i+1) 0/\gs.getD (i+1) 0<=2000:=k (i+1);have r:((1:Int)+(i:Int))=((i+1:Nat):Int):=by lia
   show U () (U () (rX c (mU (by lia) (by lia)) (U () (U () (rX g (mU (by lia) (by lia)) (r2 (r2 ?_)))))));show{.inr {?_,?_},?_}
   ·simp only[oD];lia
   ·simp only[oD];lia
   show U () (U () (rX c (mU (by lia) (by lia)) (U () (U () (rX g (mU (by lia) (by lia)) (r2 (r2 ?_)))))));rw[r];show{.inr {?_,?_},?_}
   ·simp only[oD];lia
   ·simp only[oD];lia
   show r2 (U () ?_);simp only[oD];show jk (λh=>?_) (λh=>?_)
   ·show U () {(),some (.int ((i+1:Nat):Int)),?_};rw[AB,hY h];rfl
   ·show{(),some (.int ((i+1:Nat):Int)),?_};rw[AB,h_ h];rfl
  ·rintro f _⟨rfl,v,rfl⟩;have e:((b.length:Int)-1).toNat=b.length-1:=by lia
   rw[e];show U () q
def D7(T:Txt K mg a):aP P w K mg base cV 2 a.wQ.x a.wQ.d ["total","weights"] (Ge K):=by
 show T.wQ.ok oK λC A outer s H N Q E D h=>?_
 ·obtain⟨n,f,b,rfl,hn,y,F,l4,q⟩:=h;show{_,(ag (bj 2 oK.nd (aA D4 (be (ac af O)) (ay (aI K ()) (by rfl) T.bq L2.aK (ac (Y 1) O)))) (ag (dP np () (eM () T.f9 (ac (Y 0) O)) (oA 3 oK.nd) (ag (bj 4 oK.nd (pc T.kI (yM T) D (ac (Y 1) (ac (Y 2) O)))) (ah (jf (aA bT (hV K (Y 2) (Y 4)) af) (lr (Y 2) (Y 4) DL))))) (ah (aB (cx (fh K ()) (by rfl) T.dL L2.bK (ac (Y 2) O)))))),?_}
  show{ls (),λl z=>?_};have j:a0 K (aG H l (.lst [.int 0])) f (b.map V.int):=am.tseq (aj (am.refl H) z) y;show U () {_,b.length,(),.inr {_,j,by simp},l,_,U () {(),ae,by lia,by lia,df (by simp;lia),λg hg=>?_}};have G:am H (aG (aG H l (.lst [.int 0])) g (.lst (List.replicate (b.length:Int).toNat [V.int 0]).flatten)):=aj (aj (am.refl H) z) hg;have I:(List.replicate (b.length:Int).toNat [V.int 0]).flatten=(deal b 0).map V.int:=by
   rw[oD,deal,List.map_replicate];generalize b.length=m
   induction m with|zero=>rfl|succ m J=>rw[r_,E_,J,r_];rfl
  have o:H g=none:=(Jy hg).2;show U () {(n:Int),(),by lia,by lia,?_};show mT (lo:=0) (n:=(n:Int).toNat) (λi p H'=>am H H'/\H' g=some (.lst ((deal b i).map V.int))/\(Mi λr u=>p=[some (.int n),some (.ref f),some (.ref g),r,u])) {G,by rw[ae,I],_,_,()} ?_ ?_
  ·rintro i p L hi⟨e,c,r,u,rfl⟩;have B:=xJ b i;have hd:=xI b (deal b i) (b.length-1);have v:=mz b i;show U () (U () {f,g,b,deal b i,(),am.tseq e y,aR.of c,v,F,l4,λk=>{(B k).1,by have:=(B k).2;lia},?_});show U () (U () (rX (aR.of c) (mU (by lia) (by lia)) (r2 ?_)));show U () (U () {g,_,_,U () {(),c,G6 (by lia) (by simp;lia),?_}});show{bM e o,?_,_,_,()};rw[ae];simp only[oD];rw[y6];rfl
  ·rintro p L⟨e,c,r,u,rfl⟩;show U () {g,U () (.inl {aR.of c,λt M=>?_})};show q t _ (aj e M) ae
end
inductive ye(C:Addr)(vs:List V)(H:Hp)(Q:VK)(_E:XK):Prop|mk(t dx ar ru sh:Addr)(hm:Str)(_:vs=[.ref t,.str hm,.ref ar,.ref ru,.ref sh])(_:H t=some (.ins C dx []))(_:∀(ba:Addr)H',H ba=none->(∀b o,H b=some o->b≠t->H' b=some o)->H' t=some (.ins C dx [("home",.str hm),("arms",.ref ar),("rule",.ref ru),("shuts",.ref sh),("paused",.bl false),("closed",.bl false),("barred",.ref ba)])->H' ba=some (.dK [])->Q .non H')
section
def sd(T:Txt K mg a):aP P w K mg base cV 1 a.d6.x a.d6.d ["self","home","arms","rule","shuts"] (ye a.fX):=by
 show T.d6.ok rP λk A outer s H m Q E n h=>?_
 ·obtain⟨t,dx,ar,ru,sh,hm,rfl,l,q⟩:=h;show{_,(ag (cA K () (Y 0) (Y 1)) (ag (cA K () (Y 0) (Y 2)) (ag (cA K () (Y 0) (Y 3)) (ag (cA K () (Y 0) (Y 4)) (ag (cA K () (Y 0) gH) (ag (cA K () (Y 0) gH) (ah (cA K () (Y 0) kF)))))))),?_}
  show U () (U () {t,_,dx,U () {l,T.a9,T.fQ,by simp,?_}});rw[show gF "home" (V.str hm) []=([("home",V.str hm)]:List (Str×V))from ()];show U () (U () {t,_,dx,U () {ae,T.a9,T.eO,by simp,?_}});rw[iy,show gF "arms" (V.ref ar) [("home",V.str hm)]=([("home",V.str hm),("arms",V.ref ar)]:List (Str×V))from ()];show U () (U () {t,_,dx,U () {ae,T.a9,T.nL,by simp,?_}});rw[iy,show gF "rule" (V.ref ru) [("home",V.str hm),("arms",V.ref ar)]=([("home",V.str hm),("arms",V.ref ar),("rule",V.ref ru)]:List (Str×V))from ()];show U () (U () {t,_,dx,U () {ae,T.a9,T.mm,by simp,?_}});rw[iy,show gF "shuts" (V.ref sh) [("home",V.str hm),("arms",V.ref ar),("rule",V.ref ru)]=([("home",V.str hm),("arms",V.ref ar),("rule",V.ref ru),("shuts",V.ref sh)]:List (Str×V))from ()];show U () {t,_,dx,U () {ae,T.a9,T.iS,by simp,?_}};rw[iy,show gF "paused" (V.bl false) [("home",V.str hm),("arms",V.ref ar),("rule",V.ref ru),("shuts",V.ref sh)]=([("home",V.str hm),("arms",V.ref ar),("rule",V.ref ru),("shuts",V.ref sh),("paused",V.bl false)]:List (Str×V))from ()];show U () {t,_,dx,U () {ae,T.a9,T.eJ,by simp,?_}};rw[iy,show gF "closed" (V.bl false) [("home",V.str hm),("arms",V.ref ar),("rule",V.ref ru),("shuts",V.ref sh),("paused",V.bl false)]=([("home",V.str hm),("arms",V.ref ar),("rule",V.ref ru),("shuts",V.ref sh),("paused",V.bl false),("closed",V.bl false)]:List (Str×V))from ()];showλf c=>?_;have i:t≠f:=λz=>by rw[<-z,ae]at c;cases c
  show U () {t,_,dx,U () {by rw[ak i];show ae,T.a9,T.iU,by simp,?_}};rw[show gF "barred" (V.ref f) [("home",V.str hm),("arms",V.ref ar),("rule",V.ref ru),("shuts",V.ref sh),("paused",V.bl false),("closed",V.bl false)]=([("home",V.str hm),("arms",V.ref ar),("rule",V.ref ru),("shuts",V.ref sh),("paused",V.bl false),("closed",V.bl false),("barred",V.ref f)]:List (Str×V))from ()];have g:H f=none:=by rw[ak (oi i)]at c;show c
  show q f _ g (λb o e j=>?_) ae (by rw[ak (oi i)];show ae);rw[ak j,ak (av e g),ak j];show e
end
inductive yf(P:O4)(w:World)(K:OZ)(C D:Addr)(vs:List V)(H:Hp)(Q:VK)(_E:XK):Prop|mk(t dx:Addr)(z:Int)(n:Nat)(_:vs=[.ref t,.int z,.int n])(_:H t=some (.ins C dx []))(_:∀(tb od td iu:Addr)H',H tb=none->H od=none->H td=none->H iu=none->od≠iu->(∀b o,H b=some o->b≠t->H' b=some o)->H' t=some (.ins C dx [("slope",.int z),("table",.ref tb),("inside",.ref iu)])->eU P w K D H' tb od td n [] [] []->H' iu=some (.dK [])->Q .non H')
section
def sf(T:Txt K mg a):aP P w K mg base cV 3 a.eg.x a.eg.d ["self","slope","many"] (yf P w K a.fj a.bO):=by
 show T.eg.ok rR λZ A outer s H vs Q E hr h=>?_
 ·obtain⟨t,dx,z,n,rfl,hT,q⟩:=h;show{_,(ag (cA K () (Y 0) (Y 1)) (ag (cA K () (Y 0) (pq T.Ek ((se (P:=P) (w:=w) T).mono (by decide)) hr () T.GV T.ee.b .nil aV (ac (Y 2) O))) (ah (cA K () (Y 0) kF)))),?_}
  show U () (U () {t,_,dx,U () {hT,T.bH,T.gN,by simp,?_}});rw[show gF "slope" (V.int z) []=([("slope",V.int z)]:List (Str×V))from ()];have f1:∀b o,H b=some o->b≠t->aG H t (.ins a.fj dx [("slope",V.int z)]) b=some o:=λb o e m=>by rw[ak m];show e
  have g:aG H t (.ins a.fj dx [("slope",V.int z)]) t=some (.ins a.fj dx [("slope",V.int z)]):=ae;have y:∀b,aG H t (.ins a.fj dx [("slope",V.int z)]) b=none->H b=none:=λb e=>by
   by_cases h:b=t
   ·rw[h,ae]at e;cases e
   ·rw[ak h]at e;show e
  generalize aG H t (.ins a.fj dx [("slope",V.int z)])=k at f1 g y⊢;show U () (λc ty i G I=>?_);have f2:∀b o,k b=some o->aG (aG k ty (.own c)) c (.ins a.bO ty []) b=some o:=λb o e=>by rw[ak (av e i),ak (av e G)];show e
  have B:aG (aG k ty (.own c)) c (.ins a.bO ty []) c=some (.ins a.bO ty []):=ae;have C:aG (aG k ty (.own c)) c (.ins a.bO ty []) ty=some (.own c):=by rw[ak I];show ae
  generalize aG (aG k ty (.own c)) c (.ins a.bO ty [])=H2 at f2 B C⊢;show{c,ty,n,(),B,C,λW X D p r f3 f=>{(),?_}};have n1:∀b,H2 b=none->k b=none:=λb e=>by cases z:k b with|none=>rfl|some o=>rw[f2 b o z]at e;cases e
  have u:∀b o,k b=some o->D b=some o:=λb o e=>f3 b o (f2 b o e) (av e i);have J:=u _ _ g;show U () {t,_,dx,U () {J,T.bH,T.fc,by simp,?_}};rw[show gF "table" (V.ref c) [("slope",V.int z)]=([("slope",V.int z),("table",V.ref c)]:List (Str×V))from ()];showλv l=>?_;have L:t≠v:=λz=>by rw[<-z,ae]at l;cases l
  have j:D v=none:=by rw[ak (oi L)]at l;show l
  show U () {t,_,dx,U () {by rw[ak L];show ae,T.bH,T.bE,by simp,?_}};rw[show gF "inside" (V.ref v) [("slope",V.int z),("table",V.ref c)]=([("slope",V.int z),("table",V.ref c),("inside",V.ref v)]:List (Str×V))from ()];have n3:∀b,D b=none->k b=none:=λb e=>by cases z:k b with|none=>rfl|some o=>rw[u b o z]at e;cases e
  have F:∀b o,D b=some o->b≠t->aG (aG (aG D t (.ins a.fj dx [("slope",V.int z),("table",V.ref c)])) v (.dK [])) t (.ins a.fj dx [("slope",V.int z),("table",V.ref c),("inside",V.ref v)]) b=some o:=λb o e m=>by rw[ak m,ak (av e j),ak m];show e
  have M:c≠t:=λz=>by rw[z,g]at i;cases i
  have N:W≠t:=λz=>by rw[z,f2 _ _ g]at p;cases p
  have R:X≠t:=λz=>by rw[z,f2 _ _ g]at r;cases r
  show q c W X v _ (y _ i) (y _ (n1 _ p)) (y _ (n1 _ r)) (y _ (n3 _ j)) (av f.own j) (λb o e m=>F b o (u b o (f1 b o e m)) m) ae ?_ (by rw[ak (oi L)];show ae);obtain⟨S,hI⟩:=f.ins;show{{S,F _ _ hI M},F _ _ f.own N,F _ _ f.tak R,λx hx=>(by cases hx),.nil}
end
inductive yg(C:Addr)(vs:List V)(H:Hp)(Q:VK)(_E:XK):Prop|mk(t dx:Addr)(z sa:Int)(_:vs=[.ref t,.int z,.int sa])(_:H t=some (.ins C dx []))(_:(2<=z/\z<=997))(_:(∀i:Nat,2+(i:Int)<z->z%(2+(i:Int))≠0))(_:(0<=sa/\sa<=cQ))(_:∀(ln tn ci dl:Addr)H',H ln=none->H tn=none->H ci=none->H dl=none->ln≠tn->ln≠ci->tn≠ci->(∀b o,H b=some o->b≠t->H' b=some o)->H' t=some (.ins C dx [("own_prime",.int z),("own_salt",.int sa),("layer_named",.ref ln),("trial_named",.ref tn),("came_into",.ref ci),("deeds",.ref dl)])->H' ln=some (.dK [])->H' tn=some (.dK [])->H' ci=some (.dK [])->H' dl=some (.lst [])->Q .non H')
def u4(t:Addr)(H H':Hp):Prop:=∀b o,H b=some o->b≠t->H' b=some o
def u4.no{t a:Addr}(h:u4 t H H')(e:H' a=none)(n:a≠t):H a=none:=by cases z:H a with|none=>rfl|some o=>rw[h a o z n]at e;cases e
@[elab_as_elim]theorem gT{H:Hp}{a:Addr}{o:HO}{motive:Hp->Prop}(c:H a=none)(h:∀H',am H H'->H' a=some o->motive H'):motive (aG H a o):=h _ (aj (am.refl H) c) ae
@[elab_as_elim]theorem B3{H:Hp}{t:Addr}{o:HO}{motive:Hp->Prop}(h:∀H',u4 t H H'->H' t=some o->motive H'):motive (aG H t o):=h _ (λ_ _ e n=>by rw[ak n];show e) ae
section
def lL(T:Txt K mg a):aP P w K mg base cV 5 a.dD.x a.dD.d ["self","prime","salt"] (yg a.bA):=by
 show T.dD.ok rZ λaa A outer s H vs Q E hr h=>?_
 ·obtain⟨t,dx,z,sa,rfl,k,h1,h2,h3,q⟩:=h;show{_,(ag (aJ (pc T.gu (uo T) hr (ac (Y 1) (ac (Y 2) O)))) (ag (cA K () (Y 0) (Y 1)) (ag (cA K () (Y 0) (Y 2)) (ag (cA K () (Y 0) kF) (ag (cA K () (Y 0) kF) (ag (cA K () (Y 0) kF) (ah (cA K () (Y 0) (be O))))))))),?_}
  show U () (U () {z,sa,(),h1,h2,h3,λH0 v=>?_});show U () (U () {t,_,dx,U () {v _ _ k,T.au,T.cX,by simp,?_}});show B3 λH1 o1 t1=>?_;show U () (U () {t,_,dx,U () {t1,T.au,T.jN,(show 1<1000 by decide),?_}});show B3 λH2 o2 B=>?_;showλln g=>gT g λH3 C e3=>?_;show U () {t,_,dx,U () {C _ _ B,T.au,T.aQ,(show 2<1000 by decide),?_}};show B3 λl m D=>?_;showλtn f=>gT f λH5 F e5=>?_;show U () {t,_,dx,U () {F _ _ D,T.au,T.aL,(show 3<1000 by decide),?_}};show B3 λp G I=>?_;showλJ c=>gT c λH7 L e7=>?_;show U () {t,_,dx,U () {L _ _ I,T.au,T.cY,(show 4<1000 by decide),?_}};show B3 λr M N=>?_;show{ls (),λdl i=>gT i λH9 R e9=>?_};show U () {t,_,dx,U () {R _ _ N,T.au,T.jj,(show 5<1000 by decide),?_}};show B3 λS V ta=>?_;have n1:ln≠t:=λy=>by rw[y,B]at g;cases g
  have n2:tn≠t:=λy=>by rw[y,D]at f;cases f
  have n3:J≠t:=λy=>by rw[y,I]at c;cases c
  have n4:dl≠t:=λy=>by rw[y,N]at i;cases i
  have W:u4 t H H2:=λb o e n=>o2 b o (o1 b o (v b o e) n) n;have p4:u4 t H3 l:=m;have X:u4 t H l:=λb o e n=>m b o (C b o (W b o e n)) n;have Z:u4 t l p:=λb o e n=>G b o (F b o e) n;have u:u4 t p r:=λb o e n=>M b o (L b o e) n;have j:u4 t r S:=λb o e n=>V b o (R b o e) n;have k6:u4 t H p:=λb o e n=>Z b o (X b o e n) n;have k8:u4 t H r:=λb o e n=>u b o (k6 b o e n) n;have l4:=m _ _ e3 n1;have l6:=Z _ _ l4 n1;have l8:=u _ _ l6 n1;have m6:=G _ _ e5 n2;have m8:=u _ _ m6 n2;show q ln tn J dl S (W.no g n1) (X.no f n2) (k6.no c n3) (k8.no i n4) (av l4 f) (av l6 c) (av m6 c) (λb o e n=>j b o (k8 b o e n) n) ta (j _ _ l8 n1) (j _ _ m8 n2) (j _ _ (M _ _ e7 n3) n3) (V _ _ e9 n4)
end
def Bd(c:Nat):Int:=Txt.find j3 {#[c]}
def xC(m:Int)(cs:O8):Int:=cs.foldl (λm c=>1009*m+Bd c+1) m
def Em{m:Int}{cs:O8}{i c:Nat}(h:cs[i]?=some c):xC m (cs.take (i+1))=1009*xC m (cs.take i)+Bd c+1:=by unfold xC;rw[v_,h,z5];rfl
def Jw{c:Nat}(h:c∈j3.cps.toList):∃i r,Builtin.Str.occurrences j3 {#[c]} 0 j3.length 1=i::r/\Bd c=(i:Nat):=by have e:=StrLaws.found_one j3 c;rw[k_ h]at e;cases q:Builtin.Str.occurrences j3 {#[c]} 0 j3.length 1 with|nil=>rw[q]at e;cases e|cons i r=>show{i,r,(),?_};unfold Bd Txt.find;rw[q]
def r6(p m sl:Int)(x:Str):Int:=if sl=p then xC m x.cps.toList%(p*p)%p else(xC m x.cps.toList%(p*p)/p+sl*(xC m x.cps.toList%(p*p)%p))%p
inductive F5(vs:List V)(H:Hp)(Q:VK)(_E:XK):Prop|mk(p:_)(m:_)(x:_)(_:vs=[.int p,.int m,.str x])(_:xY x)(_:(2<=p/\p<=997))(_:∀t,H t=none->Q (.ref t) (aG H t (.tup [.int (xC m x.cps.toList%(p*p)/p),.int (xC m x.cps.toList%(p*p)%p)])))
inductive F7(K:OZ)(vs:List V)(H:Hp)(Q:VK)(_E:XK):Prop|mk(t:Addr)(p s x y:Int)(_:vs=[.int p,.int s,.ref t])(_:a0 K H t [.int x,.int y])(_:0<p)(_:(0<=s/\s<=1000))(_:Q (.int (if s=p then y else(x+s*y)%p)) H)
inductive BR(a:gz)(vs:List V)(H:Hp)(Q:VK)(_E:XK):Prop|mk(h lo dx dl:Addr)(fs gs:List (Str×V))(p m sl:Int)(x:Str)(_:vs=[.ref h,.ref lo,.str x])(_:H h=some (.ins a.bA dx fs))(_:fs.lookup ("own_prime":Str)=some (V.int p))(_:fs.lookup ("own_salt":Str)=some (V.int m))(_:H lo=some (.ins a.fj dl gs))(_:gs.lookup ("slope":Str)=some (V.int sl))(_:xY x)(_:(2<=p/\p<=997))(_:(0<=sl/\sl<=1000))(_:∀H',am H H'->Q (.int (r6 p m sl x)) H')
section
def yK(T:Txt K mg a):aP P w K mg base cV 1 a.kD.x a.kD.d ["p","salt","guest"] F5:=by
 show T.kD.ok jA λf A outer s H k Q E l h=>?_
 ·obtain⟨p,m,x,rfl,hg,⟨n,o⟩,q⟩:=h;show{_,(ag (bj 3 jA.nd (Y 1)) (ag (dP np () (DZ (Y 2)) (oA 4 jA.nd) (ah (bj 3 jA.nd (aA bT (aA bT (aA g9 (cD T.Hr ()) (Y 3)) (eZ K () PySem.F.plainAttrs_str PySem.F.slot_str_index PySem.F.type_str_index Ei (cD T.nQ ()) (ac (Y 4) O))) af)))) (ah (aB (ay zw (by rfl) T.Ef L2.zz (ac (aA aS (Y 3) (aA g9 (Y 0) (Y 0))) (ac (Y 0) O))))))),?_}
  show U () (U () {x,(),?_});show Hg (λi b H'=>H=H'/\∃v,b=[some (.int p),some (.int m),some (.str x),some (.int (xC m (x.cps.toList.take i))),v]) {(),_,()} ?_ ?_
  ·rintro i c b _ hc⟨rfl,v,rfl⟩;obtain⟨j,r,g,hn⟩:=Jw (hg.cs c (gV hc));show U () (r2 {.inl {by decide,by decide},(),U () {j3,_,j,r,(),(),g,_,U () {(),r2 {(),some (.str {#[c]}),?_}}}});rw[Em hc,hn];rfl
  ·rintro b _⟨rfl,v,rfl⟩;rw[iq (e_ _)];have e:(0:Int)<p*p:=Int.mul_pos (by lia) (by lia);show U () (U () (U () (r2 {.inl {by lia,by lia},_,U () {(),e,U () {_,U () {{by lia,by lia},q}}}})))
def yL(T:Txt K mg a):aP P w K mg base cV 1 a.kE.x a.kE.d ["p","slope","point"] (F7 K):=by
 show T.kE.ok lR λc A outer s H f Q E g h=>?_
 ·obtain⟨t,p,s,x,y,rfl,b,e,⟨i,j⟩,q⟩:=h;show{_,(ag (bj 3 lR.nd (dh K (Y 2) af)) (ag (bj 4 lR.nd (dh K (Y 2) af)) (ag (aM (aC aW (Y 1) (Y 0) (aE _)) (ah (aB (Y 4))) aD) (ah (aB (aA aS (aA bT (Y 3) (aA g9 (Y 1) (Y 4))) (Y 0))))))),?_}
  (iterate 2 show U () (rX b () ?_));show U () (U () {(),U () (kJ (λh=>?_) (λh=>?_))})
  ·rw[hY h]at q;show U () q
  ·rw[h_ h]at q;show U () (U () (U () (r2 {.inl {by lia,by lia},_,U () {(),U () (r2 (e,q,))}})))
def jK(T:Txt K mg a):aP P w K mg base cV 2 a.cg.x a.cg.d ["self","layer","guest"] (BR a):=by
 show T.cg.ok oQ λf A outer s H r Q E c h=>?_
 ·obtain⟨h,lo,dx,dl,fs,gs,p,m,sl,x,rfl,b,e,g,i,j,k,l,n,q⟩:=h;show{_,(ah (aB (pc T.kE (yL T) c (ac (aH K () (Y 0)) (ac (aH K () (Y 1)) (ac (pc T.kD (yK T) c (ac (aH K () (Y 0)) (ac (aH K () (Y 0)) (ac (Y 2) O)))) O)))))),?_};show U () {h,_,dx,_,U () {b,T.au,T.cX,e,U () {lo,_,dl,_,U () {i,T.bH,T.gN,j,U () {h,_,dx,_,U () {b,T.au,T.cX,e,U () {h,_,dx,_,U () {b,T.au,T.jN,g,U () {p,m,x,(),k,l,λt o=>?_}}}}}}}}};show{t,p,sl,_,_,(),a0.of ae,by lia,n,q _ (aj (am.refl H) o)}
end
abbrev cH(x y:Str):bY:=.inr [.inr x,.inr y]
structure bF where
 nm:Str
 sl:Int
 S:AS
 ins:List (Str×Str×Str)
structure cT where
 nm:Str
 home:Str
 arms:List Str
 rule:Ru
 shuts:List Str
 pau:Bool
 clo:Bool
 bar:List Str
structure bn where
 p:Nat
 salt:Int
 las:List bF
 trs:List cT
 came:List (Str×List (Str×Str))
structure ZS where
 G:Ro->Addr
 dx:Ro->Addr
 cv:List (bV×V)ds:List V
 iv:Nat->List (bV×V)ow:Nat->List (bV×V)tk:Nat->List gB
 ar:Nat->Addr
 ru:Nat->V
 sh:Nat->Addr
def iR:List Str->(Nat->V)->List (bV×V)|[],_=>[]|n::r,f=>(.inr n,f 0)::iR r λi=>f (i+1)
def cont(P:O4)(w:World)(a:gz)(M:bn)(Z:ZS):Ro->Option HO|.hh=>some (.ins a.bA (Z.dx .hh) [("own_prime",.int M.p),("own_salt",.int M.salt),("layer_named",.ref (Z.G .ln)),("trial_named",.ref (Z.G .tn)),("came_into",.ref (Z.G .ci)),("deeds",.ref (Z.G .dl))])|.ln=>some (.dK (iR (M.las.map bF.nm) λi=>.ref (Z.G (.lo i))))|.tn=>some (.dK (iR (M.trs.map cT.nm) λi=>.ref (Z.G (.tr i))))|.ci=>some (.dK Z.cv)|.dl=>some (.lst Z.ds)|.lo i=>M.las[i]?.map λl=>.ins a.fj (Z.dx (.lo i)) [("slope",.int l.sl),("table",.ref (Z.G (.tb i))),("inside",.ref (Z.G (.iu i)))]|.iu i=>M.las[i]?.map λ_=>.dK (Z.iv i)|.tb i=>M.las[i]?.map λ_=>.ins a.bO (Z.dx (.tb i)) [("many",.int M.p),("owners",.ref (Z.G (.od i))),("taken",.ref (Z.G (.td i)))]|.od i=>M.las[i]?.map λ_=>.dK (Z.ow i)|.td i=>M.las[i]?.map λ_=>dM P w (Z.G (.td i)) (Z.tk i)|.tr i=>M.trs[i]?.map λt=>.ins a.fX (Z.dx (.tr i)) [("home",.str t.home),("arms",.ref (Z.ar i)),("rule",Z.ru i),("shuts",.ref (Z.sh i)),("paused",.bl t.pau),("closed",.bl t.clo),("barred",.ref (Z.G (.ba i)))]|.ba i=>M.trs[i]?.map λt=>.dK (t.bar.map λg=>(.inr g,.bl true))
def bR(K:OZ)(H:Hp)(iv:List (bV×V))(ins:List (Str×Str×Str)):Prop:=Paired (λ(x:bV×V)(y:Str×Str×Str)=>x.1=.inr y.1/\∃s,x.2=.ref s/\a0 K H s [.str y.2.1,.str y.2.2]) iv ins
def fM(K:OZ)(H:Hp)(c:List V)(d:List (Str×Str)):Prop:=Paired (λ(u:V)(y:Str×Str)=>∃s,u=.ref s/\a0 K H s [.str y.1,.str y.2]) c d
def eT(K:OZ)(H:Hp)(dl:Addr)(cv:List (bV×V))(cm:List (Str×List (Str×Str))):Prop:=Paired (λ(x:bV×V)(y:Str×List (Str×Str))=>x.1=.inr y.1/\∃l b,x.2=.ref l/\l≠dl/\H l=some (.lst b)/\fM K H b y.2) cv cm
structure Im(dl:Addr)(H H':Hp):Prop where
 kp:Kp H H'
 ls:∀b xs,H b=some (.lst xs)->b≠dl->H' b=some (.lst xs)
section
variable{K:OZ}{H a:Hp}{dl:Addr}
theorem Im.of(h:am H a):Im dl H a:={.of h,λb c e _=>h b _ e}
def bR.kp(e:Kp H a)(h:bR K H iv ins):bR K a iv ins:=Paired.mapP h λ_ _ q=>{q.1,q.2.imp λ_ q=>{q.1,e.tq q.2}}
def fM.kp(e:Kp H a)(h:fM K H c d):fM K a c d:=Paired.mapP h λ_ _ q=>q.imp λ_ q=>{q.1,e.tq q.2}
def eT.im(e:Im dl H a)(h:eT K H dl cv cm):eT K a dl cv cm:=Paired.mapP h λ_ _ q=>{q.1,q.2.imp λ_ q=>q.imp λ_ q=>{q.1,q.2.1,e.ls _ _ q.2.2.1 q.2.1,q.2.2.2.kp e.kp}}
def fF.im(e:Im dl H a)(n:∀x∈tk,x.2.2≠.ref dl)(h:fF H tk m):fF a tk m:=Paired.mapM h λx b _ q=>{q.1,q.2.1,q.2.2.imp λ_ q=>{q.1,e.ls _ _ q.2 λz=>n x b (by rw[q.1,z])}}
end
structure bB(P:O4)(w:World)(K:OZ)(a:gz)(H:Hp)(M:bn)(Z:ZS):Prop where
 inj:∀r r' o o',cont P w a M Z r=some o->cont P w a M Z r'=some o'->Z.G r=Z.G r'->r=r'
 at_:∀r o,cont P w a M Z r=some o->H (Z.G r)=some o
 seats:∀i l,M.las[i]?=some l->bR K H (Z.iv i) l.ins
 trs:∀i t,M.trs[i]?=some t->a0 K H (Z.ar i) (t.arms.map V.str)/\fG K H t.rule (Z.ru i)/\a0 K H (Z.sh i) (t.shuts.map V.str)tabs:∀i l,M.las[i]?=some l->eS K H (Z.tk i)/\(∃m,fF H (Z.tk i) m/\jx M.p l.S (Z.ow i) m)/\vb (dn K H) M.p l.S (Z.ow i)/\∀x∈Z.tk i,x.2.2≠.ref (Z.G .dl)came:eT K H (Z.G .dl) Z.cv M.came
section
variable{P:O4}{w:World}{K:OZ}{a:gz}{H H':Hp}{M s:bn}{Z c:ZS}
def bB.imm(h:bB P w K a H M Z)(e:cont P w a M Z r=some o)(f:∀b o,H b=some o->b≠Z.G r->H' b=some o):Im (Z.G .dl) H H':=by
 have g:=h.at_ r o e;have i:(∀d,o≠.tup d)/\(∀x y,o≠.frz x y)/\∀d,o=.lst d->r=.dl:=by
  cases r<;>simp only[cont,Option.map_eq_some_iff,NS]at e
  case hh=>subst e;show{λ_ z=>(nomatch z),λ_ _ z=>(nomatch z),λ_ z=>(nomatch z)}
  case ln=>subst e;show{λ_ z=>(nomatch z),λ_ _ z=>(nomatch z),λ_ z=>(nomatch z)}
  case tn=>subst e;show{λ_ z=>(nomatch z),λ_ _ z=>(nomatch z),λ_ z=>(nomatch z)}
  case ci=>subst e;show{λ_ z=>(nomatch z),λ_ _ z=>(nomatch z),λ_ z=>(nomatch z)}
  case dl=>subst e;show{λ_ z=>(nomatch z),λ_ _ z=>(nomatch z),λ_ _=>()}
  all_goals obtain⟨_,_,e⟩:=e;subst e;show{λ_ z=>(nomatch z),λ_ _ z=>(nomatch z),λ_ z=>(nomatch z)}
 obtain⟨j,k,l⟩:=i;show{{λu d q=>f _ _ q λz=>?_,λu x⟨m,q⟩=>{m,f _ _ q λz=>?_}},λb d q n=>f _ _ q λz=>?_}
 ·rw[z,g]at q;show j _ (iA q)
 ·rw[z,g]at q;show k _ _ (iA q)
 ·rw[z,g]at q;show n (by rw[z,l _ (iA q)])
def bB.set(h:bB P w K a H M Z)(f:cont P w a M Z d=some B)(u:∀b o,H b=some o->b≠Z.G d->H' b=some o)(j:c.G=Z.G)(c1:∀r o,cont P w a s c r=some o->(r=d/\H' (Z.G d)=some o)\/(r≠d/\cont P w a M Z r=some o))(seats:∀i l,s.las[i]?=some l->bR K H' (c.iv i) l.ins)(trs:∀i t,s.trs[i]?=some t->a0 K H' (c.ar i) (t.arms.map V.str)/\fG K H' t.rule (c.ru i)/\a0 K H' (c.sh i) (t.shuts.map V.str))(tabs:∀i l,s.las[i]?=some l->eS K H' (c.tk i)/\(∃m,fF H' (c.tk i) m/\jx s.p l.S (c.ow i) m)/\vb (dn K H') s.p l.S (c.ow i)/\∀x∈c.tk i,x.2.2≠.ref (c.G .dl))(came:eT K H' (c.G .dl) c.cv s.came):bB P w K a H' s c:=by
 show{λr v o y e A g=>?_,λr o e=>?_,seats,trs,tabs,came}
 ·rw[j]at g;rcases c1 r o e with⟨rfl,_⟩|⟨_,q⟩<;>rcases c1 v y A with⟨rfl,_⟩|⟨_,k⟩
  ·rfl
  ·show h.inj _ _ _ _ f k g
  ·show h.inj _ _ _ _ q f g
  ·show h.inj _ _ _ _ q k g
 ·rw[j];rcases c1 r o e with⟨rfl,q⟩|⟨n,q⟩
  ·show q
  ·show u _ _ (h.at_ _ _ q) λz=>n (h.inj _ _ _ _ q f z)
def bB.trsI(h:bB P w K a H M Z)(e:Kp H H'):∀i t,M.trs[i]?=some t->a0 K H' (Z.ar i) (t.arms.map V.str)/\fG K H' t.rule (Z.ru i)/\a0 K H' (Z.sh i) (t.shuts.map V.str):=λi t b=>let⟨h1,h2,h3⟩:=h.trs i t b;{e.tq h1,h2.kp e,e.tq h3}
def bB.tabsI(h:bB P w K a H M Z)(e:Im (Z.G .dl) H H'):∀i l,M.las[i]?=some l->eS K H' (Z.tk i)/\(∃m,fF H' (Z.tk i) m/\jx M.p l.S (Z.ow i) m)/\vb (dn K H') M.p l.S (Z.ow i)/\∀x∈Z.tk i,x.2.2≠.ref (Z.G .dl):=λi l b=>let⟨h1,⟨m,h2,h3⟩,h4,h5⟩:=h.tabs i l b;{λx d=>fT e.kp (h1 x d),{m,h2.im e h5,h3},h4.mono λ_ _ q=>fT e.kp q,h5}
def bB.same(h:bB P w K a H M Z)(e:am H H'):bB P w K a H' M Z:={h.inj,λr o q=>e _ _ (h.at_ r o q),λi l b=>(h.seats i l b).kp (.of e),h.trsI (.of e),h.tabsI (.of e),h.came.im (.of e)}
def iB{d l:Type}{g:List d}{i:Nat}{x y:d}(h:g[i]?=some x)(f:d->l)(e:f y=f x)(j:Nat):(g.set i y)[j]?.map f=g[j]?.map f:=by
 rw[NV]
 by_cases q:i=j
 ·subst q;rw[hY (),hY (d_.mp h).1,h];show p_ some e
 ·rw[h_ q]
def eL{d l:Type}{g:List d}{i:Nat}{x y:d}(h:g[i]?=some x)(f:d->l)(e:f y=f x):(g.set i y).map f=g.map f:=z7 λj=>by rw[g8,g8];show iB h f e j
def oG{d:Type}{f:List d}{i j:Nat}{y z:d}(e:(f.set i y)[j]?=some z):(j=i/\z=y)\/(j≠i/\f[j]?=some z):=by
 rw[NV]at e
 by_cases q:i=j
 ·rw[hY q]at e
  split at e
  ·show .inl {q.symm,(iA e).symm}
  ·cases e
 ·rw[h_ q]at e;show .inr {λz=>q z.symm,e}
def zp{i:Nat}{l l':bF}(d:M.las[i]?=some l)(h1:l'.nm=l.nm)(h2:l'.sl=l.sl)(r:Ro):cont P w a {M with las:=M.las.set i l'} Z r=cont P w a M Z r:=by cases r with|ln=>show p_ (λns=>some (HO.dK (iR ns λi=>.ref (Z.G (.lo i))))) (eL d bF.nm h1)|lo j=>show iB d _ (by rw[h2]) j|iu j=>show iB (y:=l') d _ () j|tb j=>show iB (y:=l') d _ () j|od j=>show iB (y:=l') d _ () j|td j=>show iB (y:=l') d _ () j|_=>rfl
def Ff{i:Nat}{t d:cT}(e:M.trs[i]?=some t)(h1:d.nm=t.nm)(r:Ro)(h2:r=.tr i->d.home=t.home/\d.pau=t.pau/\d.clo=t.clo)(h3:r=.ba i->d.bar=t.bar):cont P w a {M with trs:=M.trs.set i d} Z r=cont P w a M Z r:=by
 cases r with|tn=>show p_ (λns=>some (HO.dK (iR ns λi=>.ref (Z.G (.tr i))))) (eL e cT.nm h1)|tr j=>
  by_cases q:j=i
  ·subst q;obtain⟨a1,b,f⟩:=h2 ();show iB e _ (by rw[a1,b,f]) j
  ·change((M.trs.set i d)[j]?).map _=_;rw[q_ (λz=>q z.symm)];rfl|ba j=>
  by_cases q:j=i
  ·subst q;show iB e _ (by rw[h3 ()]) j
  ·change((M.trs.set i d)[j]?).map _=_;rw[q_ (λz=>q z.symm)];rfl|_=>rfl
def cN:∀b o,H b=some o->b≠x->aG H x o' b=some o:=λb o e n=>by rw[ak n];show e
def bB.setIns(h:bB P w K a H M Z){i:Nat}{l:bF}{ins':List (Str×Str×Str)}{iv':List (bV×V)}(d:M.las[i]?=some l)(m:bR K H iv' ins'):bB P w K a (aG H (Z.G (.iu i)) (.dK iv')) {M with las:=M.las.set i {l with ins:=ins'}} {Z with iv:=λj=>if j=i then iv' else Z.iv j}:=by
 have g:cont P w a M Z (.iu i)=some (.dK (Z.iv i)):=by simp[cont,d]
 have im:=h.imm g (cN (o':=.dK iv'));show h.set g cN () (λr o e=>?_) (λj b e=>?_) (h.trsI im.kp) (λj b e=>?_) (h.came.im im)
 ·rw[zp (l':={l with ins:=ins'}) d () ()]at e
  by_cases f:r=.iu i
  ·subst f;show .inl {(),?_};rw[ae,<-e];simp[cont,d]
  ·show .inr {f,?_};rw[<-e];cases r with|iu j=>change _=M.las[j]?.map λ_=>HO.dK (if j=i then iv' else Z.iv j);rw[h_ λz=>f (by rw[z])];rfl|_=>rfl
 ·rcases oG e with⟨rfl,rfl⟩|⟨n,q⟩
  ·change bR K _ (if j=j then iv' else Z.iv j) ins';rw[hY ()];show m.kp im.kp
  ·change bR K _ (if j=i then iv' else Z.iv j) b.ins;rw[h_ n];show(h.seats j b q).kp im.kp
 ·rcases oG e with⟨rfl,rfl⟩|⟨n,q⟩
  ·show h.tabsI im _ l d
  ·show h.tabsI im j b q
def bB.setTr(h:bB P w K a H M Z){i:Nat}{t t':cT}{r0:Ro}{o':HO}(d:M.trs[i]?=some t)(h1:t'.nm=t.nm)(h2:t'.arms=t.arms)(h3:t'.rule=t.rule)(h4:t'.shuts=t.shuts)(f:(r0=.tr i/\t'.bar=t.bar)\/(r0=.ba i/\t'.home=t.home/\t'.pau=t.pau/\t'.clo=t.clo))(l:cont P w a {M with trs:=M.trs.set i t'} Z r0=some o'):bB P w K a (aG H (Z.G r0) o') {M with trs:=M.trs.set i t'} Z:=by
 obtain⟨g,k⟩:∃g,cont P w a M Z r0=some g:=by rcases f with⟨rfl,_⟩|⟨rfl,_⟩<;>show{_,by simp only[cont,d];rfl}
 have im:=h.imm k (cN (o':=o'));show h.set k cN () (λr o e=>?_) (λj m e=>(h.seats j m e).kp im.kp) (λj p e=>?_) (h.tabsI im) (h.came.im im)
 ·by_cases b:r=r0
  ·subst b;rw[l]at e;show .inl {(),by rw[ae];show e}
  ·show .inr {b,?_};rw[<-e];show(Ff d h1 r (λz=>?_) λz=>?_).symm
   ·rcases f with⟨q,_⟩|⟨_,q⟩
    ·show absurd (z.trans q.symm) b
    ·show q
   ·rcases f with⟨_,q⟩|⟨q,_⟩
    ·show q
    ·show absurd (z.trans q.symm) b
 ·rcases oG e with⟨rfl,rfl⟩|⟨n,q⟩
  ·rw[h2,h3,h4];show h.trsI im.kp _ t d
  ·show h.trsI im.kp j p q
def bB.deed(h:bB P w K a H M Z)(d:V):bB P w K a (aG H (Z.G .dl) (.lst (Z.ds++[d]))) M {Z with ds:=Z.ds++[d]}:=by
 have f:cont P w a M Z .dl=some (.lst Z.ds):=();have im:=h.imm f (cN (o':=.lst (Z.ds++[d])));show h.set f cN () (λr o e=>?_) (λj g e=>(h.seats j g e).kp im.kp) (h.trsI im.kp) (h.tabsI im) (h.came.im im)
 by_cases b:r=.dl
 ·subst b;show .inl {(),by rw[ae];show e}
 ·show .inr {b,?_};rw[<-e];cases r with|dl=>show absurd () b|_=>rfl
def bB.setCame(h:bB P w K a H M Z)(hc:eT K H (Z.G .dl) d f):bB P w K a (aG H (Z.G .ci) (.dK d)) {M with came:=f} {Z with cv:=d}:=by
 have g:cont P w a M Z .ci=some (.dK Z.cv):=();have im:=h.imm g (cN (o':=.dK d));show h.set g cN () (λr o e=>?_) (λj i e=>(h.seats j i e).kp im.kp) (h.trsI im.kp) (h.tabsI im) (hc.im im)
 by_cases b:r=.ci
 ·subst b;show .inl {(),by rw[ae];show e}
 ·show .inr {b,?_};rw[<-e];cases r with|ci=>show absurd () b|_=>rfl
end
theorem xx:∀(ns:O5)(x:Str)(f:Nat->V),iR (ns++[x]) f=iR ns f++[(.inr x,f ns.length)]|[],_,_=>()|n::r,x,f=>by change(Sum.inr n,f 0)::iR (r++[x]) _=(Sum.inr n,f 0)::(iR r _++_);rw[xx r x];rfl
theorem qm:∀{ns:O5}{f g:Nat->V},(∀i,i<ns.length->f i=g i)->iR ns f=iR ns g|[],_,_,_=>()|n::r,f,g,h=>by change(Sum.inr n,f 0)::iR r _=(Sum.inr n,g 0)::iR r _;rw[h 0 (by simp),qm (ns:=r) (f:=λi=>f (i+1)) (g:=λi=>g (i+1)) λi hi=>h (i+1) (by simpa using hi)]
theorem gL:∀(ns:O5)(f:Nat->V),(iR ns f).length=ns.length|[],_=>()|n::r,f=>by rw[iR,m_,m_,gL r]
theorem sL:∀{ns:O5}{f:Nat->V}{i:Nat}{x:Str},ns.Nodup->ns[i]?=some x->bg (iR ns f) (.inr x)=some (f i)
 |[],_,i,_,_,h=>by simp at h|n::r,f,0,x,_,h=>by
  have e:n=x:=by simpa using h
  show b7 (by rw[e])|n::r,f,i+1,x,hn,h=>by
  have h:r[i]?=some x:=by simpa using h
  rw[OV]at hn;have ne:n≠x:=λz=>hn.1 (by rw[z];show gV h);change bg ((Sum.inr n,f 0)::iR r _) _=_;rw[bv λz=>ne (q4 z)];show sL hn.2 h
theorem ml:∀{ns:O5}{f:Nat->V}{x:Str},x∉ns->bg (iR ns f) (.inr x)=none|[],_,_,_=>()|n::r,f,x,h=>by change bg ((Sum.inr n,f 0)::iR r _) _=_;rw[bv λz=>h (by rw[q4 z];show k4)];show ml λz=>h (j_ _ z)
theorem uw:∀{ns:O5}{f:Nat->V}{i:Nat},(iR ns f)[i]?=ns[i]?.map λx=>(.inr x,f i)|[],_,i=>by simp[iR]|n::r,f,0=>()|n::r,f,i+1=>by change(iR r λi=>f (i+1))[i]?=_;rw[uw];simp
section
variable{P:O4}{w:World}{K:OZ}{a:gz}{H c:Hp}{M:bn}{Z:ZS}
def bB.tab(h:bB P w K a H M Z)(d:M.las[i]?=some l):∃m,eU P w K a.bO H (Z.G (.tb i)) (Z.G (.od i)) (Z.G (.td i)) M.p (Z.ow i) (Z.tk i) m/\jx M.p l.S (Z.ow i) m:=by obtain⟨h1,⟨m,h2,h3⟩,_⟩:=h.tabs i l d;show{m,{{_,h.at_ (.tb i) _ (by simp only[cont,d];rfl)},h.at_ (.od i) _ (by simp only[cont,d];rfl),h.at_ (.td i) _ (by simp only[cont,d];rfl),h1,h2},h3}
def bB.told(h:bB P w K a H M Z)(s:M.las[i]?=some l)(o:mE (Z.G (.od i)) (Z.G (.td i)) H c)(C:eU P w K a.bO c (Z.G (.tb i)) (Z.G (.od i)) (Z.G (.td i)) M.p f d I)(L:jx M.p t f I)(N:vb (dn K H) M.p t f)(Q:fK H (Z.tk i) d):bB P w K a c {M with las:=M.las.set i {l with S:=t}} {Z with ow:=λj=>if j=i then f else Z.ow j,tk:=λj=>if j=i then d else Z.tk j}:=by
 obtain⟨m,J,_⟩:=h.tab s;have im:Im (Z.G .dl) H c:=by
  have g:∀b ob,H b=some ob->(∀D,ob≠.dK D)->(∀φ,ob≠.ext φ)->c b=some ob:=λb ob e h1 h2=>o b ob e (λz=>by rw[z,J.own]at e;cases e;show h1 _ ()) (λz=>by rw[z,J.tak]at e;cases e;show h2 _ ())
  show{{λu O e=>g _ _ e (λ_ z=>(nomatch z)) (λ_ z=>(nomatch z)),λu x⟨E,e⟩=>{E,g _ _ e (λ_ z=>(nomatch z)) (λ_ z=>(nomatch z))}},λb O e _=>g _ _ e (λ_ z=>(nomatch z)) (λ_ z=>(nomatch z))}
 have v:∀r ob,cont P w a {M with las:=M.las.set i {l with S:=t}} {Z with ow:=λj=>if j=i then f else Z.ow j,tk:=λj=>if j=i then d else Z.tk j} r=some ob->(r=.od i/\ob=.dK f)\/(r=.td i/\ob=dM P w (Z.G (.td i)) d)\/(r≠.od i/\r≠.td i/\cont P w a M Z r=some ob):=λr ob e=>by
  rw[zp (l':={l with S:=t}) s () ()]at e;cases r with|od j=>
   by_cases q:j=i
   ·subst q;have e:(M.las[j]?.map λ_=>HO.dK (if j=j then f else Z.ow j))=some ob:=e;rw[s,hY ()]at e;show .inl {(),(iA e).symm}
   ·have e:(M.las[j]?.map λ_=>HO.dK (if j=i then f else Z.ow j))=some ob:=e;rw[h_ q]at e;show .inr (.inr {λz=>q (by injection z),λz=>(nomatch z),e})|td j=>
   by_cases q:j=i
   ·subst q;have e:(M.las[j]?.map λ_=>dM P w (Z.G (.td j)) (if j=j then d else Z.tk j))=some ob:=e;rw[s,hY ()]at e;show .inr (.inl {(),(iA e).symm})
   ·have e:(M.las[j]?.map λ_=>dM P w (Z.G (.td j)) (if j=i then d else Z.tk j))=some ob:=e;rw[h_ q]at e;show .inr (.inr {λz=>(nomatch z),λz=>q (by injection z),e})|_=>show .inr (.inr {λz=>(nomatch z),λz=>(nomatch z),e})
 have A:cont P w a M Z (.od i)=some (.dK (Z.ow i)):=by simp only[cont,s];rfl
 have B:cont P w a M Z (.td i)=some (dM P w (Z.G (.td i)) (Z.tk i)):=by simp only[cont,s];rfl
 have live:∀r ob,cont P w a {M with las:=M.las.set i {l with S:=t}} {Z with ow:=λj=>if j=i then f else Z.ow j,tk:=λj=>if j=i then d else Z.tk j} r=some ob->∃E,cont P w a M Z r=some E:=λr ob e=>by
  rcases v r ob e with⟨rfl,_⟩|⟨rfl,_⟩|⟨_,_,q⟩
  ·show{_,A}
  ·show{_,B}
  ·show{_,q}
 show{λr R ob F e T g=>?_,λr ob e=>?_,λj k e=>?_,h.trsI im.kp,λj k e=>?_,h.came.im im}
 ·obtain⟨_,q⟩:=live r ob e;obtain⟨_,U⟩:=live R F T;show h.inj _ _ _ _ q U g
 ·rcases v r ob e with⟨rfl,rfl⟩|⟨rfl,rfl⟩|⟨n1,n2,q⟩
  ·show C.own
  ·show C.tak
  ·show o _ _ (h.at_ _ _ q) (λz=>n1 (h.inj _ _ _ _ q A z)) (λz=>n2 (h.inj _ _ _ _ q B z))
 ·rcases oG e with⟨rfl,rfl⟩|⟨n,q⟩
  ·show(h.seats _ l s).kp im.kp
  ·show(h.seats j k q).kp im.kp
 ·rcases oG e with⟨rfl,rfl⟩|⟨n,q⟩
  ·change eS K c (if j=j then d else Z.tk j)/\(∃m,fF c (if j=j then d else Z.tk j) m/\jx M.p t (if j=j then f else Z.ow j) m)/\vb (dn K c) M.p t (if j=j then f else Z.ow j)/\∀x∈(if j=j then d else Z.tk j),x.2.2≠.ref (Z.G .dl);rw[hY (),hY ()];show{C.keys,(I,C.lsts,L,),N.mono λ_ _ q=>fT im.kp q,λx V z=>?_};rcases Q x V with⟨y,W,e⟩|⟨X,e,hn⟩
   ·show(h.tabs _ l s).2.2.2 y W (e.trans z)
   ·rw[e]at z;cases z;rw[h.at_ .dl _ ()]at hn;cases hn
  ·change eS K c (if j=i then d else Z.tk j)/\(∃m,fF c (if j=i then d else Z.tk j) m/\jx M.p k.S (if j=i then f else Z.ow j) m)/\vb (dn K c) M.p k.S (if j=i then f else Z.ow j)/\∀x∈(if j=i then d else Z.tk j),x.2.2≠.ref (Z.G .dl);rw[h_ n,h_ n];show h.tabsI im j k q
end
def vS(c d:Nat):Ro->Prop|.lo i=>i<c|.iu i=>i<c|.tb i=>i<c|.od i=>i<c|.td i=>i<c|.tr i=>i<d|.ba i=>i<d|_=>True
def qI(e:cont P w a M Z r=some o):vS M.las.length M.trs.length r:=by cases r<;>first|show trivial|(obtain⟨y,h1,_⟩:=Option.map_eq_some_iff.mp e;show(d_.mp h1).1)
def mO(P:O4)(w:World)(a:gz)(Z:ZS)(h:vS M.las.length M.trs.length r):∃o,cont P w a M Z r=some o:=by cases r<;>first|show{_,()}|(have h:_<M.las.length:=h;show{_,by simp only[cont,g6 h];rfl})|(have h:_<M.trs.length:=h;show{_,by simp only[cont,g6 h];rfl})
def ZS.newL(Z:ZS)(n:Nat)(lo e t f g c d:Addr):ZS:={Z with
 G:=λr=>if r=.lo n then lo else if r=.iu n then e else if r=.tb n then t else if r=.od n then f else if r=.td n then g else Z.G r
 dx:=λr=>if r=.lo n then c else if r=.tb n then d else Z.dx r
 iv:=λj=>if j=n then[]else Z.iv j
 ow:=λj=>if j=n then[]else Z.ow j
 tk:=λj=>if j=n then[]else Z.tk j}
def ZS.newT(Z:ZS)(n:Nat)(t c dx ar:Addr)(ru:V)(sh:Addr):ZS:={Z with
 G:=λr=>if r=.tr n then t else if r=.ba n then c else Z.G r
 dx:=λr=>if r=.tr n then dx else Z.dx r
 ar:=λj=>if j=n then ar else Z.ar j
 ru:=λj=>if j=n then ru else Z.ru j
 sh:=λj=>if j=n then sh else Z.sh j}
def oE(e:(c++[x])[j]?=some y):(j=c.length/\y=x)\/(j≠c.length/\c[j]?=some y):=by
 rcases Nat.lt_trichotomy j c.length with q|q|q
 ·rw[rc q]at e;show .inr {ku q,e}
 ·subst q;rw[List.getElem?_concat_length]at e;show .inl {(),(iA e).symm}
 ·rw[ov (by simp;lia)]at e;cases e
def ja(e:(c++[x])[j]?.map f=some o):(j=c.length/\o=f x)\/(j≠c.length/\c[j]?.map f=some o):=by
 obtain⟨y,h1,h2⟩:=Option.map_eq_some_iff.mp e;rcases oE h1 with⟨q,rfl⟩|⟨q,z⟩
 ·show .inl (q,h2.symm,)
 ·show .inr {q,by rw[z];show p_ some h2}
section
variable{P:O4}{w:World}{K:OZ}{a:gz}{H H':Hp}{M:bn}{Z:ZS}
theorem bB.newL(h:bB P w K a H M Z)(h1:H lo=none)(h2:H iu=none)(h3:H t=none)(h4:H od=none)(h5:H td=none)(D:od≠iu)(l:∀b o,H b=some o->b≠Z.G .ln->H' b=some o)(Q:H' (Z.G .ln)=some (.dK (iR (M.las.map bF.nm) (λi=>.ref (Z.G (.lo i)))++[(.inr nm,.ref lo)])))(R:H' lo=some (.ins a.fj c [("slope",.int sl),("table",.ref t),("inside",.ref iu)]))(T:eU P w K a.bO H' t od td M.p [] [] [])(E:lo≠t)(W:H' iu=some (.dK [])):∃s,s.G .hh=Z.G .hh/\s.G .dl=Z.G .dl/\s.ds=Z.ds/\(∀j,s.tk j=(if j=M.las.length then[]else Z.tk j)/\s.ow j=(if j=M.las.length then[]else Z.ow j))/\s.cv=Z.cv/\bB P w K a H' {M with las:=M.las++[{nm,sl,AS.new,[]}]} s/\∀r,vS (M.las.length+1) M.trs.length r->H (s.G r)=none\/(s.G r=Z.G r/\vS M.las.length M.trs.length r):=by
 obtain⟨d,O⟩:=T.ins;have im:=h.imm (r:=.ln) () l;have F:(M.las.map bF.nm).length=M.las.length:=b_ ..;have u:∀r o,cont P w a {M with las:=M.las++[{nm,sl,AS.new,[]}]} (Z.newL M.las.length lo iu t od td c d) r=some o->(H' ((Z.newL M.las.length lo iu t od td c d).G r)=some o/\(r=.lo M.las.length\/r=.iu M.las.length\/r=.tb M.las.length\/r=.od M.las.length\/r=.td M.las.length))\/((Z.newL M.las.length lo iu t od td c d).G r=Z.G r/\H' (Z.G r)=some o/\∃U,cont P w a M Z r=some U):=λr o e=>by
  cases r with|hh=>show .inr {(),l _ _ (h.at_ .hh _ e) λz=>(nomatch h.inj .hh .ln _ _ () () z),_,e}|tn=>show .inr {(),l _ _ (h.at_ .tn _ e) λz=>(nomatch h.inj .tn .ln _ _ () () z),_,e}|ci=>show .inr {(),l _ _ (h.at_ .ci _ e) λz=>(nomatch h.inj .ci .ln _ _ () () z),_,e}|dl=>show .inr {(),l _ _ (h.at_ .dl _ e) λz=>(nomatch h.inj .dl .ln _ _ () () z),_,e}|tr j=>show .inr {(),l _ _ (h.at_ (.tr j) _ e) λz=>(nomatch h.inj (.tr j) .ln _ _ e () z),_,e}|ba j=>show .inr {(),l _ _ (h.at_ (.ba j) _ e) λz=>(nomatch h.inj (.ba j) .ln _ _ e () z),_,e}|ln=>show .inr {(),?_,_,()};rw[Q,<-e];change _=some (HO.dK (iR ((M.las++[({nm,sl,AS.new,[]}:bF)]).map bF.nm) λi=>V.ref ((Z.newL M.las.length lo iu t od td c d).G (.lo i))));rw[hF,Oz,xx,F];have e1:(Z.newL M.las.length lo iu t od td c d).G (.lo M.las.length)=lo:=hY ();rw[e1,qm (f:=λi=>V.ref ((Z.newL M.las.length lo iu t od td c d).G (.lo i))) (g:=λi=>V.ref (Z.G (.lo i)))];intro i hi;rw[F]at hi;have n:∀x:Nat->Ro,(∀i j,x i=x j->i=j)->x i≠x M.las.length:=λx I z=>ku hi (I _ _ z);change V.ref (if Ro.lo i=.lo M.las.length then lo else _)=_;rw[h_ (n Ro.lo λ_ _ z=>by injection z)];rfl|lo j=>
   rcases ja e with⟨rfl,rfl⟩|⟨q,e⟩
   ·show .inl {?_,.inl ()};have B:(Z.newL M.las.length lo iu t od td c d).G (.lo M.las.length)=lo:=hY ();have X:(Z.newL M.las.length lo iu t od td c d).G (.tb M.las.length)=t:=by simp[ZS.newL]
    have y:(Z.newL M.las.length lo iu t od td c d).G (.iu M.las.length)=iu:=by simp[ZS.newL]
    have A:(Z.newL M.las.length lo iu t od td c d).dx (.lo M.las.length)=c:=hY ();rw[B,X,y,A];show R
   ·have e:cont P w a M Z (.lo j)=some o:=by rw[<-e];simp[cont,ZS.newL,q]
    show .inr {by simp[ZS.newL,q],l _ _ (h.at_ (.lo j) _ e) λz=>(nomatch h.inj (.lo j) .ln _ _ e () z),_,e}|iu j=>
   rcases ja e with⟨rfl,rfl⟩|⟨q,e⟩
   ·show .inl {?_,.inr (.inl ())};have y:(Z.newL M.las.length lo iu t od td c d).G (.iu M.las.length)=iu:=by simp[ZS.newL]
    have A:(Z.newL M.las.length lo iu t od td c d).iv M.las.length=[]:=hY ();rw[y,A];show W
   ·have e:cont P w a M Z (.iu j)=some o:=by rw[<-e];simp[cont,ZS.newL,q]
    show .inr {by simp[ZS.newL,q],l _ _ (h.at_ (.iu j) _ e) λz=>(nomatch h.inj (.iu j) .ln _ _ e () z),_,e}|tb j=>
   rcases ja e with⟨rfl,rfl⟩|⟨q,e⟩
   ·show .inl {?_,.inr (.inr (.inl ()))};have X:(Z.newL M.las.length lo iu t od td c d).G (.tb M.las.length)=t:=by simp[ZS.newL]
    have y:(Z.newL M.las.length lo iu t od td c d).G (.od M.las.length)=od:=by simp[ZS.newL]
    have g5:(Z.newL M.las.length lo iu t od td c d).G (.td M.las.length)=td:=by simp[ZS.newL]
    have A:(Z.newL M.las.length lo iu t od td c d).dx (.tb M.las.length)=d:=by simp[ZS.newL]
    rw[X,y,A,g5];show O
   ·have e:cont P w a M Z (.tb j)=some o:=by rw[<-e];simp[cont,ZS.newL,q]
    show .inr {by simp[ZS.newL,q],l _ _ (h.at_ (.tb j) _ e) λz=>(nomatch h.inj (.tb j) .ln _ _ e () z),_,e}|od j=>
   rcases ja e with⟨rfl,rfl⟩|⟨q,e⟩
   ·show .inl {?_,.inr (.inr (.inr (.inl ())))};have y:(Z.newL M.las.length lo iu t od td c d).G (.od M.las.length)=od:=by simp[ZS.newL]
    have A:(Z.newL M.las.length lo iu t od td c d).ow M.las.length=[]:=hY ();rw[y,A];show T.own
   ·have e:cont P w a M Z (.od j)=some o:=by rw[<-e];simp[cont,ZS.newL,q]
    show .inr {by simp[ZS.newL,q],l _ _ (h.at_ (.od j) _ e) λz=>(nomatch h.inj (.od j) .ln _ _ e () z),_,e}|td j=>
   rcases ja e with⟨rfl,rfl⟩|⟨q,e⟩
   ·show .inl {?_,.inr (.inr (.inr (.inr ())))};have y:(Z.newL M.las.length lo iu t od td c d).G (.td M.las.length)=td:=by simp[ZS.newL]
    have A:(Z.newL M.las.length lo iu t od td c d).tk M.las.length=[]:=hY ();rw[y,A];show T.tak
   ·have e:cont P w a M Z (.td j)=some o:=by rw[<-e];simp[cont,ZS.newL,q]
    show .inr {by simp[ZS.newL,q],l _ _ (h.at_ (.td j) _ e) λz=>(nomatch h.inj (.td j) .ln _ _ e () z),_,e}
 have gs:∀r,(r=.lo M.las.length\/r=.iu M.las.length\/r=.tb M.las.length\/r=.od M.las.length\/r=.td M.las.length)->H ((Z.newL M.las.length lo iu t od td c d).G r)=none:=λr Y=>by rcases Y with rfl|rfl|rfl|rfl|rfl<;>simp only[ZS.newL]<;>simp[h1,h2,h3,h4,h5]
 show{Z.newL M.las.length lo iu t od td c d,(),(),(),λj=>{(),()},(),{λr r' o U e e' g=>?_,λr o e=>?_,λj C e=>?_,h.trsI im.kp,λj C e=>?_,h.came.im im},λr Y=>?_}
 ·rcases u r o e with⟨q,n⟩|⟨B,q,x,J⟩<;>rcases u r' U e' with⟨q',n'⟩|⟨L,q',x',N⟩
  ·rw[g,q']at q;have q:=iA q;rcases n with rfl|rfl|rfl|rfl|rfl<;>rcases n' with rfl|rfl|rfl|rfl|rfl<;>first|rfl|(exfalso;simp[ZS.newL]at g;first|show E g|show E g.symm|show D g|show D g.symm|(simp[cont]at e e';rw[<-e,<-e']at q;cases q))
  ·rw[L]at g;have:=h.at_ _ _ N;rw[<-g,gs r n]at this;cases this
  ·rw[B]at g;have:=h.at_ _ _ J;rw[g,gs r' n']at this;cases this
  ·rw[B,L]at g;show h.inj _ _ _ _ J N g
 ·rcases u r o e with⟨q,n⟩|⟨B,q,x,J⟩
  ·show q
  ·rw[B];show q
 ·rcases oE e with⟨rfl,rfl⟩|⟨n,q⟩
  ·change bR K H' (if M.las.length=M.las.length then[]else _) [];rw[hY ()];show .nil
  ·change bR K H' (if j=M.las.length then[]else Z.iv j) C.ins;rw[h_ n];show(h.seats j C q).kp im.kp
 ·rcases oE e with⟨rfl,rfl⟩|⟨n,q⟩
  ·change eS K H' (if M.las.length=M.las.length then[]else _)/\(∃m,fF H' (if M.las.length=M.las.length then[]else _) m/\jx M.p AS.new (if M.las.length=M.las.length then[]else _) m)/\vb (dn K H') M.p AS.new (if M.las.length=M.las.length then[]else _)/\∀x∈(if M.las.length=M.las.length then[]else Z.tk _),x.2.2≠.ref (Z.G .dl);rw[hY (),hY ()];show{λx I=>(nomatch I),{[],.nil,λk=>(),λp _ _=>()},λp v _ _ z=>(nomatch z),λx I=>(nomatch I)}
  ·change eS K H' (if j=M.las.length then[]else Z.tk j)/\(∃m,fF H' (if j=M.las.length then[]else Z.tk j) m/\jx M.p C.S (if j=M.las.length then[]else Z.ow j) m)/\vb (dn K H') M.p C.S (if j=M.las.length then[]else Z.ow j)/\∀x∈(if j=M.las.length then[]else Z.tk j),x.2.2≠.ref (Z.G .dl);rw[h_ n,h_ n];show h.tabsI im j C q
 ·obtain⟨o,e⟩:=mO P w a (M:={M with las:=M.las++[{nm,sl,AS.new,[]}]}) (Z.newL M.las.length lo iu t od td c d) (r:=r) (by simpa using Y);rcases u r o e with⟨_,n⟩|⟨B,_,x,J⟩
  ·show .inl (gs r n)
  ·show .inr {B,qI J}
theorem bB.newT(h:bB P w K a H M Z){nm home:Str}{arms shuts:O5}{rule:Ru}{t ba dx ar sh:Addr}{ru:V}(h1:H t=none)(h2:H ba=none)(c:∀b o,H b=some o->b≠Z.G .tn->H' b=some o)(v:H' (Z.G .tn)=some (.dK (iR (M.trs.map cT.nm) (λi=>.ref (Z.G (.tr i)))++[(.inr nm,.ref t)])))(I:H' t=some (.ins a.fX dx [("home",.str home),("arms",.ref ar),("rule",ru),("shuts",.ref sh),("paused",.bl false),("closed",.bl false),("barred",.ref ba)]))(J:H' ba=some (.dK []))(L:a0 K H ar (arms.map V.str))(N:fG K H rule ru)(Q:a0 K H sh (shuts.map V.str)):∃d,d.G .hh=Z.G .hh/\d.G .dl=Z.G .dl/\d.ds=Z.ds/\d.tk=Z.tk/\d.ow=Z.ow/\d.cv=Z.cv/\bB P w K a H' {M with trs:=M.trs++[{nm,home,arms,rule,shuts,false,false,[]}]} d/\∀r,vS M.las.length (M.trs.length+1) r->H (d.G r)=none\/(d.G r=Z.G r/\vS M.las.length M.trs.length r):=by
 have im:=h.imm (r:=.tn) () c;have m:(M.trs.map cT.nm).length=M.trs.length:=b_ ..;have k:∀r o,cont P w a {M with trs:=M.trs++[{nm,home,arms,rule,shuts,false,false,[]}]} (Z.newT M.trs.length t ba dx ar ru sh) r=some o->(H' ((Z.newT M.trs.length t ba dx ar ru sh).G r)=some o/\(r=.tr M.trs.length\/r=.ba M.trs.length))\/((Z.newT M.trs.length t ba dx ar ru sh).G r=Z.G r/\H' (Z.G r)=some o/\∃y,cont P w a M Z r=some y):=λr o e=>by
  cases r with|tn=>show .inr {(),?_,_,()};rw[v,<-e];change _=some (HO.dK (iR ((M.trs++[({nm,home,arms,rule,shuts,false,false,[]}:cT)]).map cT.nm) λi=>V.ref ((Z.newT M.trs.length t ba dx ar ru sh).G (.tr i))));rw[hF,Oz,xx,m];have O:(Z.newT M.trs.length t ba dx ar ru sh).G (.tr M.trs.length)=t:=hY ();rw[O,qm (f:=λi=>V.ref ((Z.newT M.trs.length t ba dx ar ru sh).G (.tr i))) (g:=λi=>V.ref (Z.G (.tr i)))];intro i hi;rw[m]at hi;change V.ref (if Ro.tr i=.tr M.trs.length then t else _)=_;rw[h_ λz=>ku hi (by injection z)];rfl|tr j=>
   rcases ja e with⟨rfl,rfl⟩|⟨q,e⟩
   ·show .inl {?_,.inl ()};have l:(Z.newT M.trs.length t ba dx ar ru sh).G (.tr M.trs.length)=t:=hY ();have A:(Z.newT M.trs.length t ba dx ar ru sh).G (.ba M.trs.length)=ba:=by simp[ZS.newT]
    have R:(Z.newT M.trs.length t ba dx ar ru sh).dx (.tr M.trs.length)=dx:=hY ();have S:(Z.newT M.trs.length t ba dx ar ru sh).ar M.trs.length=ar:=hY ();have T:(Z.newT M.trs.length t ba dx ar ru sh).ru M.trs.length=ru:=hY ();have U:(Z.newT M.trs.length t ba dx ar ru sh).sh M.trs.length=sh:=hY ();rw[l,A,R,S,T,U];show I
   ·have e:cont P w a M Z (.tr j)=some o:=by rw[<-e];simp[cont,ZS.newT,q]
    show .inr {by simp[ZS.newT,q],c _ _ (h.at_ (.tr j) _ e) λz=>(nomatch h.inj (.tr j) .tn _ _ e () z),_,e}|ba j=>
   rcases ja e with⟨rfl,rfl⟩|⟨q,e⟩
   ·show .inl {?_,.inr ()};have A:(Z.newT M.trs.length t ba dx ar ru sh).G (.ba M.trs.length)=ba:=by simp[ZS.newT]
    rw[A];show J
   ·have e:cont P w a M Z (.ba j)=some o:=by rw[<-e];rfl
    show .inr {by simp[ZS.newT,q],c _ _ (h.at_ (.ba j) _ e) λz=>(nomatch h.inj (.ba j) .tn _ _ e () z),_,e}|hh=>show .inr {(),c _ _ (h.at_ .hh _ e) λz=>(nomatch h.inj .hh .tn _ _ () () z),_,e}|ln=>show .inr {(),c _ _ (h.at_ .ln _ e) λz=>(nomatch h.inj .ln .tn _ _ () () z),_,e}|ci=>show .inr {(),c _ _ (h.at_ .ci _ e) λz=>(nomatch h.inj .ci .tn _ _ () () z),_,e}|dl=>show .inr {(),c _ _ (h.at_ .dl _ e) λz=>(nomatch h.inj .dl .tn _ _ () () z),_,e}|lo j=>show .inr {(),c _ _ (h.at_ (.lo j) _ e) λz=>(nomatch h.inj (.lo j) .tn _ _ e () z),_,e}|iu j=>show .inr {(),c _ _ (h.at_ (.iu j) _ e) λz=>(nomatch h.inj (.iu j) .tn _ _ e () z),_,e}|tb j=>show .inr {(),c _ _ (h.at_ (.tb j) _ e) λz=>(nomatch h.inj (.tb j) .tn _ _ e () z),_,e}|od j=>show .inr {(),c _ _ (h.at_ (.od j) _ e) λz=>(nomatch h.inj (.od j) .tn _ _ e () z),_,e}|td j=>show .inr {(),c _ _ (h.at_ (.td j) _ e) λz=>(nomatch h.inj (.td j) .tn _ _ e () z),_,e}
 have gs:∀r,(r=.tr M.trs.length\/r=.ba M.trs.length)->H ((Z.newT M.trs.length t ba dx ar ru sh).G r)=none:=λr B=>by rcases B with rfl|rfl<;>simp only[ZS.newT]<;>simp[h1,h2]
 show{Z.newT M.trs.length t ba dx ar ru sh,(),(),(),(),(),(),{λr D o y e C g=>?_,λr o e=>?_,λj W e=>(h.seats j W e).kp im.kp,λj X e=>?_,h.tabsI im,h.came.im im},λr B=>?_}
 ·rcases k r o e with⟨q,n⟩|⟨l,q,x,p⟩<;>rcases k D y C with⟨E,F⟩|⟨s,E,Y,u⟩
  ·rw[g,E]at q;have q:=iA q;rcases n with rfl|rfl<;>rcases F with rfl|rfl<;>first|rfl|(exfalso;simp[cont]at e C;rw[<-e,<-C]at q;cases q)
  ·rw[s]at g;have:=h.at_ _ _ u;rw[<-g,gs r n]at this;cases this
  ·rw[l]at g;have:=h.at_ _ _ p;rw[g,gs D F]at this;cases this
  ·rw[l,s]at g;show h.inj _ _ _ _ p u g
 ·rcases k r o e with⟨q,n⟩|⟨l,q,x,p⟩
  ·show q
  ·rw[l];show q
 ·rcases oE e with⟨rfl,rfl⟩|⟨n,q⟩
  ·change a0 K H' (if M.trs.length=M.trs.length then ar else _) (arms.map V.str)/\fG K H' rule (if M.trs.length=M.trs.length then ru else _)/\a0 K H' (if M.trs.length=M.trs.length then sh else _) (shuts.map V.str);rw[hY (),hY (),hY ()];show{im.kp.tq L,N.kp im.kp,im.kp.tq Q}
  ·change a0 K H' (if j=M.trs.length then ar else Z.ar j) _/\fG K H' _ (if j=M.trs.length then ru else Z.ru j)/\a0 K H' (if j=M.trs.length then sh else Z.sh j) _;rw[h_ n,h_ n,h_ n];show h.trsI im.kp j X q
 ·obtain⟨o,e⟩:=mO P w a (M:={M with trs:=M.trs++[{nm,home,arms,rule,shuts,false,false,[]}]}) (Z.newT M.trs.length t ba dx ar ru sh) (r:=r) (by simpa using B);rcases k r o e with⟨_,n⟩|⟨l,_,x,p⟩
  ·show .inl (gs r n)
  ·show .inr {l,qI p}
end
def eY(M:bn)(Z:ZS)(b:Addr):Prop:=(∃r,vS M.las.length M.trs.length r/\b=Z.G r)\/(∃i,i<M.las.length/\∃x∈Z.tk i,x.2.2=.ref b)\/∃x∈Z.cv,x.2=.ref b
def fF.outs(n:∀x∈tk,∀l c,x.2.2=.ref l->H l=some (.lst c)->H' l=some (.lst c))(h:fF H tk m):fF H' tk m:=Paired.mapM h λx b _ q=>{q.1,q.2.1,q.2.2.imp λ_ q=>{q.1,n x b _ _ q.1 q.2}}
def eT.outs(e:Kp H H')(n:∀x∈cv,∀l c,x.2=.ref l->H l=some (.lst c)->H' l=some (.lst c))(h:eT K H dl cv cm):eT K H' dl cv cm:=Paired.mapM h λx b _ q=>{q.1,q.2.imp λ_ q=>q.imp λ_ q=>{q.1,q.2.1,n x b _ _ q.1 q.2.2.1,q.2.2.2.kp e}}
def bB.out(h:bB P w K a H M Z)(n:¬eY M Z o)(kp:Kp H H')(f:∀b ob,H b=some ob->b≠o->H' b=some ob):bB P w K a H' M Z:={h.inj,λr ob e=>f _ _ (h.at_ r ob e) λz=>n (.inl {r,qI e,z.symm}),λi l d=>(h.seats i l d).kp kp,h.trsI kp,λi l d=>let⟨h1,⟨m,h2,h3⟩,h4,h5⟩:=h.tabs i l d;{λx c=>fT kp (h1 x c),{m,h2.outs λx c l k g j=>f _ _ j λz=>n (.inr (.inl {i,(d_.mp d).1,x,c,by rw[g,z]})),h3},h4.mono λ_ _ q=>fT kp q,h5},h.came.outs kp λx c l k g j=>f _ _ j λz=>n (.inr (.inr {x,c,by rw[g,z]}))}
def mj{a b:Addr}{o:HO}(h:aG H a o b=none):H b=none:=by
 by_cases e:b=a
 ·rw[e,ae]at h;cases h
 ·rw[ak e]at h;show h
structure gS(H:Hp)(M:bn)(Z:ZS)(H':Hp)(M':bn)(Z':ZS):Prop where
 hh:Z'.G .hh=Z.G .hh
 fr:∀b o,H b=some o->¬eY M Z b->H' b=some o
 fp:∀b,eY M' Z' b->eY M Z b\/H b=none
 dm:∀b,H' b=none->H b=none
 dd:Z'.G .dl=Z.G .dl
section
variable{H d j f:Hp}{M M1 M2 c:bn}{Z g m a:ZS}
def gS.of(s:am H f):gS H M Z f M Z:={(),λb o h _=>s b o h,λ_ h=>.inl h,λ_ h=>s.free h,()}
theorem gS.trans(s:gS H M Z d M1 g)(t:gS d M1 g j M2 m):gS H M Z j M2 m:={t.hh.trans s.hh,λb o h n=>t.fr b o (s.fr b o h n) λq=>(s.fp b q).elim n λz=>(by rw[h]at z;cases z),λb q=>(t.fp b q).elim (s.fp b) λz=>.inr (s.dm b z),λb z=>s.dm b (t.dm b z),t.dd.trans s.dd}
def gS.put(s:vS M.las.length M.trs.length r)(p:a.G=Z.G)(h1:c.las.length=M.las.length)(h2:c.trs.length=M.trs.length)(h3:a.tk=Z.tk)(h4:∀x∈a.cv,x∈Z.cv\/∃l,x.2=.ref l/\(eY M Z l\/H l=none)):gS H M Z (aG H (Z.G r) o) c a:={by rw[p],λb o h n=>(by rw[ak λz=>n (.inl (r,s,z,))];show h),λb q=>by
  rcases q with⟨t,h,e⟩|⟨i,hi,x,k,e⟩|⟨x,k,e⟩
  ·show .inl (.inl {t,by rw[<-h1,<-h2];show h,by rw[e,p]})
  ·show .inl (.inr (.inl {i,by rw[<-h1];show hi,x,by rw[<-h3];show k,e}))
  ·rcases h4 x k with q|⟨l,u,q⟩
   ·show .inl (.inr (.inr (x,q,e,)))
   ·rw[u]at e;cases e;show q,λb z=>mj z,by rw[p]}
end
def gS.out{o:Addr}{x:HO}{H c:Hp}{M M1:bn}{Z d:ZS}(s:gS H M Z c M1 d)(n:H o=none):gS H M Z (aG c o x) M1 d:={s.hh,λb e h q=>(by rw[ak (av h n)];show s.fr b e h q),s.fp,λb z=>s.dm b (mj z),s.dd}
theorem fF.ex(h:fF H tk m)(x:gB)(c:x∈tk):∃l d,x.2.2=.ref l/\H l=some (.lst d):=(Paired.ex h x c).elim λ_ q=>q.2.2.imp λ_ q=>{_,q}
theorem eT.ex(h:eT K H dl cv cm)(x:bV×V)(c:x∈cv):∃l d,x.2=.ref l/\H l=some (.lst d):=(Paired.ex h x c).elim λ_ q=>q.2.imp λ_ q=>q.imp λ_ q=>(q.1,q.2.2.1,)
def bB.foot(h:bB P w K a H M Z)(c:H b=none):¬eY M Z b:=λz=>by
 rcases z with⟨r,j,e⟩|⟨i,hi,x,d,e⟩|⟨x,d,e⟩
 ·obtain⟨o,q⟩:=mO P w a Z j;rw[e,h.at_ r o q]at c;cases c
 ·obtain⟨_,⟨m,q,_⟩,_⟩:=h.tabs i _ (g6 hi);obtain⟨l,k,f,g⟩:=q.ex x d;rw[f]at e;cases e;rw[g]at c;cases c
 ·obtain⟨l,k,f,g⟩:=h.came.ex x d;rw[f]at e;cases e;rw[g]at c;cases c
structure FF(M:bn)(c:Nat)(l:bF):Prop where
 wd:Wd l.nm
 sl:0<=l.sl/\l.sl<=M.p
 ok:l.S.Ok M.p
 len:l.ins.length<=c
 gs:∀x∈l.ins,xY x.1
 nd:(l.ins.map (·.1)).Nodup
 own:∀k q,q∈l.S.pl k->k=cH "" ""\/∃t∈M.trs,t.home=l.nm/\∃y∈t.arms,k=cH t.nm y
structure Hy(M:bn)(t:cT):Prop where
 wd:Wd t.nm
 hm:t.home∈M.las.map bF.nm
 a1:1<=t.arms.length
 a4:t.arms.length<=4
 nd:t.arms.Nodup
 aw:∀x∈t.arms,Wd x
 hg:t.rule.hgt<=6
 s8:t.shuts.length<=8
structure jy(M:bn)(c:Nat):Prop where
 p:2<=M.p/\M.p<=997
 ln:(M.las.map bF.nm).Nodup
 tn:(M.trs.map cT.nm).Nodup
 la:∀l∈M.las,FF M c l
 tr:∀t∈M.trs,Hy M t
 cm:∀x∈M.came,x.2.length<=10*c
 l4:M.las.length<=4
 tc:M.trs.length<=10
 cl:M.came.length<=10*c
 br:∀t∈M.trs,t.bar.length<=c
structure ck(P:O4)(w:World)(K:OZ)(a:gz)(H:Hp)(M:bn)(Z:ZS)(c:Nat):Prop where
 g:bB P w K a H M Z
 ok:jy M c
 tk:∀i,(Z.tk i).length<=10*c
 ow:∀i,(Z.ow i).length<=5000*c
 ds:Z.ds.length<=c
def FF.mono(h:FF M c l)(hc:c<=d):FF M d l:={h with len:=kl h.len hc}
theorem jy.mono(h:jy M c)(hc:c<=d):jy M d:={h with la:=λl b=>(h.la l b).mono hc,cm:=λx e=>kl (h.cm x e) (NI _ hc),cl:=kl h.cl (NI _ hc),br:=λt f=>kl (h.br t f) hc}
theorem ck.mono(h:ck P w K a H M Z c)(hc:c<=d):ck P w K a H M Z d:={h.g,h.ok.mono hc,λi=>kl (h.tk i) (NI _ hc),λi=>kl (h.ow i) (NI _ hc),kl h.ds hc}
theorem ck.same(h:ck P w K a H M Z c)(e:am H H'):ck P w K a H' M Z c:={h with g:=h.g.same e}
section
variable{P:O4}{w:World}{K:OZ}{a:gz}{H:Hp}{M:bn}{Z:ZS}{c:Nat}
def bB.house(h:bB P w K a H M Z):H (Z.G .hh)=some (.ins a.bA (Z.dx .hh) [("own_prime",.int M.p),("own_salt",.int M.salt),("layer_named",.ref (Z.G .ln)),("trial_named",.ref (Z.G .tn)),("came_into",.ref (Z.G .ci)),("deeds",.ref (Z.G .dl))]):=h.at_ .hh _ ()
def bB.lays(h:bB P w K a H M Z):H (Z.G .ln)=some (.dK (iR (M.las.map bF.nm) λi=>.ref (Z.G (.lo i)))):=h.at_ .ln _ ()
def bB.tris(h:bB P w K a H M Z):H (Z.G .tn)=some (.dK (iR (M.trs.map cT.nm) λi=>.ref (Z.G (.tr i)))):=h.at_ .tn _ ()
def bB.cams(h:bB P w K a H M Z):H (Z.G .ci)=some (.dK Z.cv):=h.at_ .ci _ ()
def bB.dees(h:bB P w K a H M Z):H (Z.G .dl)=some (.lst Z.ds):=h.at_ .dl _ ()
def bB.layer(h:bB P w K a H M Z)(e:M.las[i]?=some l):H (Z.G (.lo i))=some (.ins a.fj (Z.dx (.lo i)) [("slope",.int l.sl),("table",.ref (Z.G (.tb i))),("inside",.ref (Z.G (.iu i)))]):=h.at_ (.lo i) _ (by simp only[cont,e];rfl)
def bB.inside(h:bB P w K a H M Z)(e:M.las[i]?=some l):H (Z.G (.iu i))=some (.dK (Z.iv i)):=h.at_ (.iu i) _ (by simp only[cont,e];rfl)
def bB.trial(h:bB P w K a H M Z)(e:M.trs[i]?=some t):H (Z.G (.tr i))=some (.ins a.fX (Z.dx (.tr i)) [("home",.str t.home),("arms",.ref (Z.ar i)),("rule",Z.ru i),("shuts",.ref (Z.sh i)),("paused",.bl t.pau),("closed",.bl t.clo),("barred",.ref (Z.G (.ba i)))]):=h.at_ (.tr i) _ (by simp only[cont,e];rfl)
def bB.barred(h:bB P w K a H M Z)(e:M.trs[i]?=some t):H (Z.G (.ba i))=some (.dK (t.bar.map λg=>(.inr g,.bl true))):=h.at_ (.ba i) _ (by simp only[cont,e];rfl)
def jy.lget(h:jy M c)(e:M.las[i]?=some l):bg (iR (M.las.map bF.nm) λi=>.ref (Z.G (.lo i))) (.inr l.nm)=some (.ref (Z.G (.lo i))):=sL h.ln (by rw[g8,e];rfl)
def jy.tget(h:jy M c)(e:M.trs[i]?=some t):bg (iR (M.trs.map cT.nm) λi=>.ref (Z.G (.tr i))) (.inr t.nm)=some (.ref (Z.G (.tr i))):=sL h.tn (by rw[g8,e];rfl)
theorem jy.home(h:jy M c)(f:t∈M.trs):∃(i:Nat)(l:bF),M.las[i]?=some l/\l.nm=t.home:=by obtain⟨l,b,e⟩:=kw.mp (h.tr t f).hm;obtain⟨i,hi⟩:=i_.mp b;show(i,l,hi,e,)
end
section
open PySem.Spec PyProof.Rows PySem.W
def JR{d:Type}(c:Nat->Nat->Bool):KasT d->d|.ret a=>a|.ask i j k=>JR c (k (c i j))
theorem Ap{n:Nat}{d:Type}{R:d->Prop}{c:Nat->Nat->Bool}:∀{t:KasT d},rN n R t->R (JR c t)|.ret a,h=>h|.ask i j k,h=>Ap (t:=k (c i j)) (h.2.2 _)
theorem EG{n:Nat}{e:Type}{R:e->Prop}{c:Nat->Nat->Bool}{d:Nat->Nat->(Bool->Shared->Prop)->Shared->Prop}{Q:e->Shared->Prop}{s:Shared}(hc:∀i j C,i<n->j<n->C (c i j) s->d i j C s):∀{t:KasT e},rN n R t->Q (JR c t) s->t.kasWp d Q s|.ret a,_,q=>q|.ask i j k,h,q=>hc i j _ h.1 h.2.1 (EG hc (h.2.2 _) q)
def Cd(c:Nat->Nat->Bool)(n:Nat):List Nat:=if n<2 then List.range n else(JR c (kas_sort n)).toList
def qh(c:Nat->Nat->Bool)(n:Nat):(Cd c n).Perm (List.range n):=by
 unfold Cd
 split
 ·show .refl _
 ·show Ap (uB (n:=n) (by omega))
def nY{e:Type}(c:List e)(d:e):(List.range c.length).map (λi=>c.getD i d)=c:=by
 show z7 λi=>?_;rw[g8]
 by_cases hi:i<c.length
 ·rw[List.getElem?_range hi];simp[hi]
 ·rw[ov (by rw[op];lia),ov (by lia)];rfl
def KB:List Str->List Str->Bool|a::r,b::q=>if a=b then KB r q else decide (a.cps.toList<b.cps.toList)|_,_=>false
def vo(ds:List (List Str)):List Nat:=Cd (λi j=>KB (ds.getD i []) (ds.getD j [])) ds.length
def ke(ds:List (List Str)):List (List Str):=(vo ds).map λi=>ds.getD i []
variable{prog:O4}{w:World}{A:Around}{E:O0}{s:Shared}{κ:SortKind}
def BZ{a:Addr}{d:O3}{n:Nat}{c:Nat->Nat->Bool}{P:Fin->Shared->Prop}(y:s.heap.get? a=some (seqObj "list" d.toArray n))(L:d.length<64)(M:2<=d.length->∀l:Shared,(∀b o,b≠a->s.heap.get? b=some o->l.heap.get? b=some o)->(∀Q:SortKind->Shared->Prop,Q κ l->wpAny (model prog w) A (keyKind' d.toArray) Q (λ_ _=>False) l)/\∀i j C,i<d.length->j<d.length->C (c i j) l->wpAny (model prog w) A (keyLt' κ (d.getD i Value.none) (d.getD j Value.none)) C (λ_ _=>False) l)(h:P (.done (.ret .none)) {s with heap:=sortedHeap s.heap a d ((Cd c d.length).map λi=>d.getD i Value.none).toArray}):wpAny (model prog w) A (Builtin.«list.sort» {[.ref a],[]}) P E s:=by
 rw[list_sort_plain];have k:d.toArray.size=d.length:=by simp
 show a_ (listItems_at y () ?_);show a_ (listUpdate_at y () ?_ (by rw[k,ig];lia) (lh _));obtain⟨B,m⟩:∃B,(s.heap.update a (Obj.mapSeq λ_=>#[])).get? a=some (seqObj "list" #[] B):={_,get?_update_seq y (λ_=>#[])};show a_ (seqEpoch_at m () ?_);show a_ (wpAny_newTuple ?_ (by change d.length<=_;rw[ig];lia));show a_ (wpAny_newList ?_ (lh _));show o8 ?_;have kept:∀b o,b≠a->s.heap.get? b=some o->(((s.heap.update a (Obj.mapSeq λ_=>#[])).push (seqObj "tuple" d.toArray 0)).push (seqObj "list" #[] 0)).get? b=some o:=λb o N q=>c_ _ (c_ _ ((Heap.get?_update_ne _ _ _ _ N).trans q))
 have f:(((s.heap.update a (Obj.mapSeq λ_=>#[])).push (seqObj "tuple" d.toArray 0)).push (seqObj "list" #[] 0)).get? a=some (seqObj "list" #[] B):=c_ _ (c_ _ m);change wpAny (model prog w) A _ P E {s with heap:=((s.heap.update a (Obj.mapSeq λ_=>#[])).push (seqObj "tuple" d.toArray 0)).push (seqObj "list" #[] 0)};dsimp only;have D:(d.toArray.zip d.toArray).size=d.length:=by simp
 by_cases h2:d.toArray.size<2
 ·rw[hY h2,hY h2];show a_ (f_ ?_);rw[StateT.run_pure];show a_ (f_ ?_);dsimp only;show a_ (seqEpoch_at f () ?_);show a_ (listUpdate_at f () ?_ (lh _) (by show kl (Og ((Array.size_map ..).trans D)) ?_;rw[ig];lia));simp only[bne_self_eq_false,No,N3];have e:(d.toArray.zip d.toArray).map (·.2)=d.toArray:=by
   apply Array.toList_inj.mp;have e:(d.toArray.zip d.toArray).toList=d.zip d:=by simp
   rw[Array.toList_map,e];show List.map_snd_zip (e_ _)
  have:=h;rw[Cd,hY (show d.length<2 by rw[<-k];show h2),nY]at this;rw[<-e]at this;show f_ this
 ·rw[h_ h2,h_ h2];have r:2<=d.length:=by lia
  obtain⟨O,R⟩:=M r {s with heap:=((s.heap.update a (Obj.mapSeq λ_=>#[])).push (seqObj "tuple" d.toArray 0)).push (seqObj "list" #[] 0)} kept;show a_ (wpAny_mono (O (λt J=>t=κ/\J={s with heap:=((s.heap.update a (Obj.mapSeq λ_=>#[])).push (seqObj "tuple" d.toArray 0)).push (seqObj "list" #[] 0)}) {(),()}) (λt J z=>?_) λ_ _ x=>x.elim);obtain⟨rfl,rfl⟩:=z;show a_ (wpAny_mono (kat_run (ks:=d) (vs:=d) (Q:=λg u=>∃p:Array Nat,arrOf g=p.map (kas_item (d.toArray.zip d.toArray))/\failedOf g=none/\p=JR c (kas_sort d.length)/\u=_) (G:=λp u=>p=JR c (kas_sort d.length)/\u=_) () r L (λp g u a1 T U a4=>(p,T,U,a4,)) (EG (c:=c) (λi j C hi V W=>?_) (uB (n:=d.length) (by omega)) {(),()})) ?_ λ_ _ e=>e)
  ·unfold kas_ask;show R i j C hi V W
  ·rintro⟨⟨⟩,g⟩u⟨p,F,X,rfl,rfl⟩;dsimp only;have v:=kat_snds (ks:=d) (vs:=d) () F;have I:(JR c (kas_sort d.length)).toList.length=d.length:=by rw[(Ap (c:=c) (uB (n:=d.length) (by omega))).length_eq,op]
   rw[v];show a_ (seqEpoch_at f () ?_);show a_ (listUpdate_at f () ?_ (lh _) (by rw[il,b_,I,ig];lia));rw[X];simp only[bne_self_eq_false,No,N3];rw[Cd,h_ (show¬d.length<2 by omega)]at h;show f_ h
def HB(h:Heap)(v:Value)(d:O5):Prop:=∃a o n b,v=.ref a/\h.get? a=some o/\o.cls=.type "tuple"/\o.data=.seq (List.toArray b) n/\aY (d.map V.str) b
def HB.kept{h h':Heap}{v:Value}{d:O5}(p:HB h v d)(k:∀b o,h.get? b=some o->h'.get? b=some o):HB h' v d:=by obtain⟨a,o,n,t,e,c,r⟩:=p;show{a,o,n,t,e,k _ _ c,r}
def EB{C:Bool->Shared->Prop}:∀{d e:O5}{c f:O3}{i:Nat},aY (d.map V.str) c->aY (e.map V.str) f->d.length=e.length->C (KB d e) s->KatLex prog w A true false C (c.zip f) i s:=by
 intro d
 induction d with|nil=>intro e c f i h1 h2 g b;cases h1;show kat_nil b|cons x d j=>intro e c f i h1 h2 g b;cases e with|nil=>cases g|cons y e=>cases h1 with|cons k l=>cases h2 with|cons m n=>
  obtain⟨o,rfl⟩:=k;obtain⟨p,rfl⟩:=m;unfold KB at b;show kat_cons (wpAny_eqBool_str (kat_go (λh=>?_) (λh=>?_)))
  ·rw[hY (n_ h)]at b;show kat_yes (j l n (Nat.succ.inj g) b)
  ·rw[h_ (Oy h)]at b;cases i with|zero=>show kat_no (oneLt_str b)|succ i=>show kat_no (kat_one _ _ (lt_str b))
def Ji{v u:Value}{d e:O5}{C:Bool->Shared->Prop}(j:HB s.heap v d)(l:HB s.heap u e)(m:d.length=e.length)(p:C (KB d e) s):wpAny (model prog w) A (keyLt' (tuples' true) v u) C (λ_ _=>False) s:=by obtain⟨a,o,n,f,rfl,k,hc,hd,i⟩:=j;obtain⟨x,y,z,b,rfl,g,q,h,c⟩:=l;have r:=i.length;have t:=c.length;rw[b_]at r t;show kat_lt k hd g h ?_;rw[show decide (f.toArray.size<b.toArray.size)=false from lm (by rw[il,il];omega)];show EB i c m p
def zV{h:Heap}{c:O3}{ds:List (List Str)}(f:Paired (HB h) c ds)(hm:∀d∈ds,0<d.length):∃fs:List Value,KatTups h c fs/\fs.length=c.length/\∀v∈fs,∃x t,v=Value.str x t:=by induction f with|nil=>show{[],.nil,(),λv b=>nomatch b}|@cons _ d _ _ h _ g=>obtain⟨a,o,n,i,rfl,j,hc,hd,k⟩:=h;obtain⟨fs,h1,h2,h3⟩:=g λd hd=>hm d (.tail _ hd);have e:=hm d (.head _);cases d with|nil=>cases e|cons x r=>cases k with|cons l p=>
  obtain⟨m,rfl⟩:=l;show{.str _ m::fs,.cons j hc hd () h1,by simp[h2],λv b=>?_};rcases s_.mp b with rfl|b
  ·show{_,_,()}
  ·show h3 v b
def yh{l:Addr}{vs:O3}{Q:O0}(z:s.heap.IsList l vs.toArray)(B:vs.length<64){ds:List (List Str)}{m:Nat}(h0:0<m)(hm:∀d∈ds,d.length=m)(n:Paired (HB s.heap) vs ds)(h:Q (.ref (s.heap.objs.size+1)) {s with heap:=sortedAll s.heap vs ((vo ds).map λi=>vs.getD i Value.none).toArray}):wpAny (model prog w) A (call (.builtin "sorted") [.ref l]) Q E s:=by
 show Calls.call_function_entry kind_sorted plain_sorted entry_sorted (args_sorted1 _) ?_;unfold Builtin.«sorted»;show a_ (m:=checkCount "sorted" 1 1 _) (f_ ?_);show a_ (collect_list z ?_ (by rw[ig];lia));show a_ (wpAny_newList ?_ (by rw[ig];lia));have f:((s.heap.push (seqObj "list" #[] 0)).update s.heap.objs.size (Obj.mapSeq (·++vs.toArray))).objs.size=s.heap.objs.size+1:=by rw[Heap.size_update,size_push']
 have k:(((s.heap.push (seqObj "list" #[] 0)).update s.heap.objs.size (Obj.mapSeq (·++vs.toArray))).push (seqObj "list" vs.toArray 0)).get? (s.heap.objs.size+1)=some (seqObj "list" vs.toArray 0):=by rw[<-f];show g_ _ ()
 have keep:∀b o,s.heap.get? b=some o->b≠s.heap.objs.size+1/\(((s.heap.push (seqObj "list" #[] 0)).update s.heap.objs.size (Obj.mapSeq (·++vs.toArray))).push (seqObj "list" vs.toArray 0)).get? b=some o:=λb o q=>by have e:b<s.heap.objs.size:=ir q;show{ku (z4 e),?_};rw[Heap.get?_push_ne _ _ _ (by rw[f];show ku (z4 e)),Heap.get?_update_ne _ _ _ _ (ku e),Heap.get?_push_ne _ _ _ (ku e)];show q
 change wpAny _ _ _ _ _ {s with heap:=((s.heap.push (seqObj "list" #[] 0)).update s.heap.objs.size (Obj.mapSeq (·++vs.toArray))).push (seqObj "list" vs.toArray 0)};rw[f];show a_ (o8 (o_ slot_list_sort (s:={s with heap:=((s.heap.push (seqObj "list" #[] 0)).update s.heap.objs.size (Obj.mapSeq (·++vs.toArray))).push (seqObj "list" vs.toArray 0)}) {_,k,()} entry_list_sort (BZ (κ:=tuples' true) (c:=λi j=>KB (ds.getD i []) (ds.getD j [])) k B (λh2 D F=>?_) {_,(),?_}) (args_list_sort _)))
 ·have g:Paired (HB D.heap) vs ds:=Paired.mapP n λv d q=>q.kept λb o q=>F b o (keep b o q).1 (keep b o q).2;show{λN G=>?_,λi j C hi p r=>?_}
  ·obtain⟨fs,h1,I,h3⟩:=zV g λd hd=>by rw[hm d hd];show h0
   show kat_kind (T:=Value.type "str") h1 (by lia) (λv J=>?_) (by decide+kernel) ?_
   ·obtain⟨x,t,rfl⟩:=h3 v J;show Looks.of_pure ()
   ·rw[show(Value.type "str"!=Value.type "tuple")=true by decide+kernel];show G
  ·obtain⟨d,u,L⟩:=Paired.at_ g i _ (g6 hi);obtain⟨O,y,M⟩:=Paired.at_ g j _ (g6 p);rw[nk,g6 hi,nk,g6 p];rw[nk,u,nk,y]at r;show Ji L M ((hm _ (gV u)).trans (hm _ (gV y)).symm) r
 ·rw[Paired.length n];show f_ (U () h)
end
theorem A3{ι c d:Type}{F:c->d->Prop}{f:ι->c}{g:ι->d}:∀{l:List ι},(∀i∈l,F (f i) (g i))->Paired F (l.map f) (l.map g)|[],_=>.nil|i::l,h=>.cons (h i k4) (A3 λj m=>h j (j_ _ m))
section
open PySem.Spec PyProof.Rows PySem.W
def uL{X:Cx}(K:OZ)(G:X.K=K):cP X (.builtin "sorted") (λC H Q=>∃(p:Addr)(c:O9)(ds:List (List Str))(m:Nat),C=[.ref p]/\aR K H p (c.map V.ref)/\c.length<64/\0<m/\(∀d∈ds,d.length=m)/\Paired (λ(u:Addr)(d:O5)=>a0 K H u (d.map V.str)) c ds/\∀(q:Addr)(l:O9),H q=none->Paired (λ(u:Addr)(d:O5)=>a0 K H u (d.map V.str)) l (ke ds)->Q (.ref q) (aG H q (.lst (l.map V.ref)))):=by
 subst G;intro D s O H C R Q I r h;obtain⟨p,c,ds,m,rfl,E,hn,h0,hm,t,q⟩:=h;obtain⟨u,rfl,J⟩:=ka r;obtain rfl:u=Value.ref p:=J;obtain⟨g,k,⟨o,n,v,x,y,F⟩,-⟩:=I.list E;obtain rfl:=AZ k;have L:Paired (HB s.heap) (c.map Value.ref) ds:=by
  clear hn q F y k E r hm
  induction t with|nil=>show .nil|@cons u d _ _ h _ M=>show .cons ?_ M;obtain⟨g,k,⟨o,v,x,n,y⟩,_⟩:=I.tuple h;show{u,o,n,g,(),v,x,y,k}
 have b:c.length=ds.length:=Paired.length t;have j:∀i∈vo ds,i<c.length:=λi hi=>by rw[b];show t8.mp ((qh _ _).mem_iff.mp hi)
 have z:(vo ds).length=c.length:=by rw[b];show(qh _ _).length_eq.trans op
 have A:(vo ds).map (λi=>(c.map Value.ref).getD i Value.none)=((vo ds).map λi=>c.getD i 0).map Value.ref:=by rw[tA];show M_ λi hi=>?_;have hi:=j i hi;change _=Value.ref (c.getD i 0);rw[nk,g8,nk,g6 hi];rfl
 show yh (vs:=c.map Value.ref) (o,v,x,n,F,) (by rw[b_];omega) h0 hm L ?_;rw[A];obtain⟨N,B⟩:=PyProof.Rows.sortedAll_at s.heap (c.map Value.ref) (((vo ds).map λi=>c.getD i 0).map Value.ref).toArray;show{.ref (s.heap.objs.size+1),_,I.laid (h':=sortedAll s.heap (c.map Value.ref) (((vo ds).map λi=>c.getD i 0).map Value.ref).toArray) (t':=s.toks) (o:=.lst (((vo ds).map λi=>c.getD i 0).map V.ref)) (λ_ _=>sortedAll_old) (ry _) {?_,_,N,xv,B},(),q _ _ (I.hok.fresh (ry _)) (A3 λi hi=>?_)}
 ·rw[b_,b_,z,ig];omega
 ·have hi:=j i hi;obtain⟨d,e,f⟩:=Paired.at_ t i _ (g6 hi);rw[nk,g6 hi,nk,e];show f
end
def fN(K:OZ)(H:Hp)(c:List V)(e:List (List Str)):Prop:=Paired (λ(u:V)(d:O5)=>∃b,u=.ref b/\a0 K H b (d.map V.str)) c e
def fN.kp(e:Kp H H'){c:List V}{d:List (List Str)}(h:fN K H c d):fN K H' c d:=Paired.mapP h λ_ _ q=>q.imp λ_ q=>{q.1,e.tq q.2}
def fN.of{c:O9}{e:List (List Str)}(h:Paired (λ(u:Addr)(d:O5)=>a0 K H u (d.map V.str)) c e):fN K H (c.map V.ref) e:=by induction h with|nil=>show .nil|cons h _ b=>show .cons {_,(),h} b
def ub(ins:List (Str×Str×Str))(g:Str):List Str:=(ins.find? λx=>decide (x.1=g)).elim [g,"",""] λy=>[g,y.2.1,y.2.2]
def uh(ins:List (Str×Str×Str))(gs:O5):List (List Str):=ke (gs.map (ub ins))
def Jb(ins:List (Str×Str×Str))(gs:O5):∀d∈gs.map (ub ins),d.length=3:=λd hd=>by obtain⟨g,_,rfl⟩:=kw.mp hd;unfold ub;cases ins.find? λx=>decide (x.1=g)<;>rfl
theorem Ah:∀{l:List d},(l.map f).Nodup->∀x∈l,∀y∈l,f x=f y->x=y
 |[],_,x,b=>(nomatch b)|z::l,h,x,b=>λy c e=>by
  rw[m3,OV]at h;rcases s_.mp b with rfl|p<;>rcases s_.mp c with rfl|q
  ·rfl
  ·show absurd (kw.mpr (y,q,e.symm,)) h.1
  ·show absurd (kw.mpr (x,p,e,)) h.1
  ·show Ah h.2 x p y q e
def Ja{ins:List (Str×Str×Str)}(nd:(ins.map (·.1)).Nodup){y:Str×Str×Str}(c:y∈ins):ub ins y.1=[y.1,y.2.1,y.2.2]:=by obtain⟨x,b⟩:=sT.mp (OF.mpr {y,c,k_ ()}:(ins.find? λx=>decide (x.1=y.1)).isSome=true);have e:=Ah nd x (J_ b) y c (by simpa using OX b);unfold ub;rw[b,e];rfl
section
variable{K:OZ}{H:Hp}
def bR.find(h:bR K H iv ins)(hn:(ins.map (·.1)).Nodup):∀x∈ins,∃s,bg iv (.inr x.1)=some (.ref s)/\a0 K H s [.str x.2.1,.str x.2.2]:=by induction h with|nil=>showλx b=>(nomatch b)|@cons _ y _ _ h _ c=>
  intro x b;obtain⟨h1,s,h2,h3⟩:=h;rw[m3,OV]at hn;rcases s_.mp b with rfl|b
  ·show{s,by rw[b7 h1,h2],h3}
  ·obtain⟨d,f,g⟩:=c hn.2 x b;show{d,?_,g};rw[bv,f];intro e;rw[h1]at e;show hn.1 (by rw[show y.1=x.1 from q4 e];show kw.mpr {x,b,()})
theorem bR.none(h:bR K H iv ins)(hn:g∉ins.map (·.1)):bg iv (.inr g)=Option.none:=by induction h with|nil=>rfl|@cons _ y _ _ h _ b=>
  rw[m3]at hn;rw[bv]
  ·show b λz=>hn (j_ _ z)
  ·intro e;rw[h.1]at e;show hn (by rw[show y.1=g from q4 e];show k4)
def bR.drop(g:Str)(h:bR K H iv ins):bR K H (dX iv (.inr g)) (ins.filter λx=>decide (x.1≠g)):=by induction h with|nil=>show .nil|@cons x y _ _ h _ b=>
  by_cases e:y.1=g
  ·rw[wO (by rw[h.1,e]),N8 (by simp[e])];show b
  ·rw[wP (λz=>e (by rw[h.1]at z;show q4 z)),N7 (by simp[e])];show .cons h b
end
def dq(ins:List (Str×Str×Str))(gs:O5):List (Str×Str×Str):=ins.filter λx=>decide (x.1∉gs)
def lA(ins:List (Str×Str×Str)):dq ins []=ins:=List.filter_eq_self.mpr λ_ _=>by simp
def rp(ins:List (Str×Str×Str))(gs:O5)(g:Str):dq ins (gs++[g])=(dq ins gs).filter λx=>decide (x.1≠g):=by
 unfold dq;rw[List.filter_filter];show List.filter_congr λx _=>?_
 by_cases h1:x.1∈gs<;>by_cases h2:x.1=g<;>simp[h1,h2]
def Av(h:g∈ins.map (·.1))(hn:g∉gs):∃x∈dq ins gs,x.1=g:=by obtain⟨x,b,rfl⟩:=kw.mp h;show{x,u_.mpr {b,by simpa using hn},()}
def wI(h:(ins.map (·.1)).Nodup):((dq ins gs).map (·.1)).Nodup:=(List.Sublist.map _ List.filter_sublist).nodup h
abbrev bn.setL(M:bn)(i:Nat)(l:bF):bn:={M with las:=M.las.set i l}
def mI{M:bn}{i:Nat}{l:bF}(c:M.las[i]?=some l):M.setL i l=M:=by
 have e:M.las.set i l=M.las:=z7 λj=>by
  rw[NV]
  split
  ·rename_i q;subst q;rw[hY (d_.mp c).1,c]
  ·rfl
 unfold bn.setL;rw[e]
def tE{M:bn}{i:Nat}{l c:bF}:(M.setL i l).setL i c=M.setL i c:=by unfold bn.setL;rw[List.set_set]
def ym{M:bn}{i:Nat}{l l':bF}(c:M.las[i]?=some l):(M.setL i l').las[i]?=some l':=by change(M.las.set i l')[i]?=_;rw[x_ (d_.mp c).1]
theorem jy.setL{M:bn}{c d:Nat}(h:jy M c){i:Nat}{l e:bF}(g:M.las[i]?=some l)(h1:e.nm=l.nm)(hc:c<=d)(ok:FF M d e):jy (M.setL i e) d:=by
 have b:(M.las.set i e).map bF.nm=M.las.map bF.nm:=eL g bF.nm h1;have h:=h.mono hc;show{h with ln:=by rw[b];show h.ln,la:=λx j=>?_,tr:=λt f=>{h.tr t f with hm:=by change t.home∈(M.las.set i e).map bF.nm;rw[b];show(h.tr t f).hm},l4:=by change(M.las.set i e).length<=4;rw[w1];show h.l4};rcases NQ j with q|rfl
 ·show{h.la x q with}
 ·show{ok with}
inductive K9(P:O4)(w:World)(K:OZ)(a:gz)(vs:List V)(H:Hp)(Q:VK)(_E:XK):Prop|mk(M:bn)(Z:ZS)(c i:Nat)(l:bF)(g:Addr)(gs:O5)(_:vs=[.ref (Z.G .hh),.ref (Z.G (.lo i)),.ref g])(_:ck P w K a H M Z c)(_:M.las[i]?=some l)(_:H g=some (.lst (gs.map V.str)))(_:(∀x∈gs,x∈l.ins.map (·.1)))(_:gs.Nodup)(_:gs.length<=63)(_:∀(r:Addr)(us:List V)(Z':ZS)(H':Hp),gS H M Z H' (M.setL i {l with ins:=dq l.ins gs}) Z'->ck P w K a H' (M.setL i {l with ins:=dq l.ins gs}) Z' c->H r=none->H' r=some (.lst us)->Z'.ds=Z.ds->fN K H' us (uh l.ins gs)->¬eY (M.setL i {l with ins:=dq l.ins gs}) Z' r->Q (.ref r) H')
inductive JO(P:O4)(w:World)(K:OZ)(a:gz)(H:Hp)(M:bn)(Z:ZS)(i:Nat)(l:bF)(g:Addr)(gs:O5)(o:Addr)(k:Nat)(σ:St)(H':Hp):Prop|mk(Z':ZS)(us:O9)(v4 v5:Option V)(hG:bB P w K a H' (M.setL i {l with ins:=dq l.ins (gs.take k)}) Z')(eG:Z'.G=Z.G)(etk:Z'.tk=Z.tk)(eow:Z'.ow=Z.ow)(eds:Z'.ds=Z.ds)(ecv:Z'.cv=Z.cv)(nf:¬eY (M.setL i {l with ins:=dq l.ins (gs.take k)}) Z' o)(st:gS H M Z H' (M.setL i {l with ins:=dq l.ins (gs.take k)}) Z')(hg:H' g=some (.lst (gs.map V.str)))(ho:H' o=some (.lst (us.map V.ref)))(hul:us.length=k)(hus:Paired (λ(u:Addr)(d:O5)=>a0 K H' u (d.map V.str)) us ((gs.take k).map (ub l.ins)))(e:σ=[some (.ref (Z.G .hh)),some (.ref (Z.G (.lo i))),some (.ref g),some (.ref o),v4,v5]):JO P w K a H M Z i l g gs o k σ H'
section
def kG(T:Txt K mg a):aP P w K mg base cV 1 a.cC.x a.cC.d ["self","layer","guests"] (K9 P w K a):=by
 show T.cC.ok fu λbA A outer s H vs Q E hr h=>?_
 ·obtain⟨M,Z,c,i,l,g,gs,rfl,hZ,hl,hg,a7,a8,bz,q⟩:=h;show{_,(ag (bj 3 fu.nd (be O)) (ag (dP np () (cO K () (Y 2)) (oA 4 fu.nd) (ag (bj 5 fu.nd (yG (aH K () (Y 1)) (Y 4) {(),(),(),()})) (ah (aJ (eZ K () PySem.F.plainAttrs_list PySem.F.slot_list_append PySem.F.type_list_append cK (Y 3) (ac (aA (uj K ()) (bx (ac (Y 4) O)) (Y 5)) O)))))) (ah (aB (ay (uL K ()) (by rfl) T.ux L2.mB (ac (Y 3) O)))))),?_}
  show{ls (),λo ho=>aq ?_};show gT ho λH1 s1 ba=>?_;have hL:=hZ.ok.la l (gV hl);have bb:¬eY M Z o:=hZ.g.foot ho;have bc:(gs.map V.str).length=gs.length:=b_ ..;show U () {g,(),{_,aR.of (s1 _ _ hg)},?_};show gn (xs:=gs.map V.str) (JO P w K a H M Z i l g gs o) {Z,[],_,_,by rw[y1,lA];show(mI hl).symm▸hZ.g.same s1,(),(),(),(),(),by rw[y1,lA];show(mI hl).symm▸bb,by rw[y1,lA];show(mI hl).symm▸gS.of s1,s1 _ _ hg,ba,(),.nil,()} (λk σ H' _ h=>by obtain⟨_,_,_,_,_,_,_,_,_,_,_,_,h,_⟩:=h;show aR.of h) ?_ ?_
  ·rintro k v σ H2 hv⟨f,us,v4,v5,m,eG,aa,ad,D,as,W,t,an,u,I,p,rfl⟩N R B hN;rw[g8]at hv;obtain⟨x,X,rfl⟩:=Option.map_eq_some_iff.mp hv;have hk:k<gs.length:=(d_.mp X).1;have C:=bP X;have bi:x∉gs.take k:=λz=>by have:=a8;rw[<-si k gs,oa]at this;show this.2.2 x z x (gV (by rw[OA,Nat.add_zero];show X)) ()
   have bl:¬eY (M.setL i {l with ins:=dq l.ins (gs.take k)}) f o:=λz=>(W z);obtain⟨y,hy,ey⟩:=Av (a7 x (gV X)) bi;have n:=ym (l':={l with ins:=dq l.ins (gs.take k)}) hl;have ax:=m.seats i _ n;obtain⟨s,a2,J⟩:=ax.find (wI hL.nd) y hy;rw[ey]at a2;show aq (gE (by rw[<-eG];show m.layer n) T.bH T.bE () () {f.G (.iu i),(),.inl {_,.inl (m.inside n)},U () {_,.inr x,_,m.inside n,(),a2,aq ?_}});have L:=m.setIns n (ax.drop x);have im:=m.imm (r:=.iu i) (by simp only[cont,n];rfl) (cN (o':=.dK (dX (f.iv i) (.inr x))));have S:gS H2 _ f (aG H2 (f.G (.iu i)) (.dK (dX (f.iv i) (.inr x)))) ((M.setL i {l with ins:=dq l.ins (gs.take k)}).setL i {l with ins:=(dq l.ins (gs.take k)).filter λz=>decide (z.1≠x)}) {f with iv:=λj=>if j=i then dX (f.iv i) (.inr x)else f.iv j}:=gS.put (show i<_ from(d_.mp n).1) () (w1 ..) () () λx X=>.inl X;have a3:=cN (x:=f.G (.iu i)) (o':=.dK (dX (f.iv i) (.inr x))) _ _ an λz=>by have e:=m.inside n;rw[<-z,an]at e;cases e
   have ap:=cN (x:=f.G (.iu i)) (o':=.dK (dX (f.iv i) (.inr x))) _ _ u λz=>by have e:=m.inside n;rw[<-z,u]at e;cases e
   rw[tE,<-rp,<-C]at S;have L:bB P w K a (aG H2 (f.G (.iu i)) (.dK (dX (f.iv i) (.inr x)))) (M.setL i {l with ins:=dq l.ins (gs.take (k+1))}) {f with iv:=λj=>if j=i then dX (f.iv i) (.inr x)else f.iv j}:=by rw[C,rp,<-tE (l:={l with ins:=dq l.ins (gs.take k)})];show L
   have J:=im.kp.tq J;have p:=Paired.mapP p λ_ _ q=>im.kp.tq q;generalize aG H2 (f.G (.iu i)) (.dK (dX (f.iv i) (.inr x)))=H3 at L S a3 ap J p⊢;show U () {.inl {(),_,aR.of ap},U () {ls (),λT1 a5=>(U () {T1,s,[.str x],U () {(),a0.of ae,am.tseq (aj (am.refl _) a5) J,by simp,by rw[ig];simp,λz=>(nomatch z),λ_ T2 bt=>?_}})}};have s5:=aj (o:=.tup ([.str x]++[.str y.2.1,.str y.2.2])) (aj (o:=.tup [.str x]) (am.refl H3) a5) bt;have e5:aG (aG H3 T1 (.tup [.str x])) T2 (.tup ([.str x]++[.str y.2.1,.str y.2.2])) T2=some (.tup [.str x,.str y.2.1,.str y.2.2]):=ae;generalize aG (aG H3 T1 (.tup [.str x])) T2 (.tup ([.str x]++[.str y.2.1,.str y.2.2]))=H5 at s5 e5⊢;have a6:=s5 _ _ ap;show rA a6 (by rw[b_,I,ig];lia) ?_;have kp:Kp H5 (aG H5 o (.lst (us.map V.ref++[.ref T2]))):=.lst a6;have nF:¬eY (M.setL i {l with ins:=dq l.ins (gs.take (k+1))}) {f with iv:=λj=>if j=i then dX (f.iv i) (.inr x)else f.iv j} o:=λz=>by
    rcases S.fp o z with q|q
    ·show bl q
    ·rw[u]at q;cases q
   have kq:∀b ob,H5 b=some ob->b≠o->aG H5 o (.lst (us.map V.ref++[.ref T2])) b=some ob:=cN;show hN _ _ {{f with iv:=λj=>if j=i then dX (f.iv i) (.inr x)else f.iv j},us++[T2],_,_,(L.same s5).out nF kp kq,eG,aa,ad,D,as,nF,((t.trans S).trans (gS.of s5)).out ho,?_,?_,by rw[hQ,I];rfl,?_,()}
   ·show kq _ _ (s5 _ _ a3) λz=>by rw[z,ho]at hg;cases hg
   ·rw[ae,hF];rfl
   ·rw[C,hF];show Paired.snoc (Paired.mapP p λ_ _ q=>kp.tq (am.tseq s5 q)) ?_;rw[<-ey,Ja hL.nd (u_.mp hy).1,ey];show kp.tq (a0.of e5)
  ·rintro σ H2⟨f,us,v4,v5,m,eG,aa,ad,D,as,W,t,an,u,I,p,rfl⟩;rw[bc]at I m t p;rw[iq (e_ _)]at m t p;show U () {o,us,gs.map (ub l.ins),3,(),aR.of u,by omega,by decide,Jb _ _,p,λr vs hr hp=>?_};have s6:=aj (o:=.lst (vs.map V.ref)) (am.refl H2) hr;show q r (vs.map V.ref) f _ (t.trans (gS.of s6)) {m.same s6,?_,λj=>by rw[aa];show hZ.tk j,λj=>by rw[ad];show hZ.ow j,by rw[D];show hZ.ds} (t.dm _ hr) ae D (fN.of (Paired.mapP hp λ_ _ q=>am.tseq s6 q)) (m.foot hr);show hZ.ok.setL hl () (e_ _) {hL with len:=kl (rk _ _) hL.len,gs:=λx X=>hL.gs x (u_.mp X).1,nd:=wI hL.nd}
end
def Kh.kp(e:Kp H H')(h:Kh K H c W):Kh K H' c W:=Paired.mapP h λ_ _ q=>q.imp λ_ q=>q.imp λ_ q=>{q.1,e.tq q.2.1,fT e q.2.2}
def mY(x:Str)(arms:O5)(l:O_):Wl:=(arms.zip l).map λp=>(cH x p.1,p.2)
def FL(h:l.length=arms.length):(mY x arms l).length=arms.length:=by unfold mY;rw[b_,List.length_zip,h,Nat.min_self]
def Ik{x:Str}{arms:O5}{l:O_}{i:Nat}{y:Str}{z:Int}(h1:arms[i]?=some y)(h2:l[i]?=some z):(mY x arms l)[i]?=some (cH x y,z):=by unfold mY;rw[g8,List.getElem?_zip_eq_some (z:=(y,z))|>.mpr (h1,h2,)];rfl
theorem sQ:∀{arms:O5}{l:O_},l.length=arms.length->(mY x arms l).map (·.1)=arms.map (cH x)|[],_,_=>()|y::r,[],h=>nomatch h|y::r,z::l,h=>by change cH x y::(mY x r l).map (·.1)=cH x y::r.map (cH x);rw[sQ (by simpa using h)]
def uY(h:cH x y=cH z u):x=z/\y=u:=by have h:=q4 h;rw[List.cons.injEq,List.cons.injEq]at h;show{q4 h.1,q4 h.2.1}
def Ij(h:l.length=arms.length)(hn:arms.Nodup):((mY x arms l).map (·.1)).Nodup:=by rw[sQ h,G_,List.pairwise_map];show(G_.mp hn).imp λh e=>h (uY e).2
def Ii(h:∀i∈l,0<=i):∀y∈mY x arms l,0<=y.2:=λy b=>by obtain⟨p,c,rfl⟩:=kw.mp b;show h _ (NG c).2
def EV{S:AS}{j k:bY}{n:Nat}{q:Int}(h:q∈(S.give j n).pl k):q∈S.pl k:=by
 have h:q∈(if k=j then(S.pl j).take n else S.pl k):=h
 split at h
 ·rename_i e;rw[e];show NB h
 ·show h
theorem mx:∀{W:Wl}{S:AS}{k:bY}{q:Int},q∈(cL S W).pl k->q∈S.pl k|[],_,_,_,h=>h|x::r,_,_,_,h=>EV (mx (W:=r) h)
theorem lQ:∀{W:Wl}{S:AS}{k:bY}{q:Int},q∈(du n S W).pl k->q∈S.pl k\/k∈W.map (·.1)
 |[],_,_,_,h=>.inl h|x::r,S,k,q,h=>by
  rcases lQ (W:=r) h with h|h
  ·have h:q∈(if k=x.1 then S.pl x.1++_ else S.pl k):=h
   split at h
   ·rename_i e;show .inr (by rw[m3,e];show k4)
   ·show .inl h
  ·show .inr (j_ _ h)
section
variable{P:O4}{w:World}{K:OZ}{a:gz}{H d:Hp}{M:bn}{Z:ZS}{c:Nat}
theorem ck.told(h:ck P w K a H M Z c)(A:M.las[i]?=some l)(o:mE (Z.G (.od i)) (Z.G (.td i)) H d)(C:eU P w K a.bO d (Z.G (.tb i)) (Z.G (.od i)) (Z.G (.td i)) M.p f s L)(N:jx M.p v f L)(Q:vb (dn K H) M.p v f)(I:fK H (Z.tk i) s)(b1:s.length<=(Z.tk i).length+10)(b2:f.length<=(Z.ow i).length+5000)(hok:v.Ok M.p)(own:∀k q,q∈v.pl k->(∃D,D∈l.S.pl k)\/k=cH "" ""\/∃t∈M.trs,t.home=l.nm/\∃y∈t.arms,k=cH t.nm y):∃B,ck P w K a d (M.setL i {l with S:=v}) B (c+1)/\gS H M Z d (M.setL i {l with S:=v}) B/\B.ds=Z.ds/\B.G=Z.G:=by
 have J:=h.ok.la l (gV A);obtain⟨m,U,_⟩:=h.g.tab A;have len:(M.setL i {l with S:=v}).las.length=M.las.length:=w1 ..;show{_,{h.g.told A o C N Q I,h.ok.setL A () (ry c) {J.mono (ry c)with ok:=hok,own:=λk q O=>?_},λj=>?_,λj=>?_,rr h.ds},{(),λb ob e n=>?_,λb q=>?_,λb z=>pI o (by rw[C.own];simp) (by rw[C.tak];simp) z,()},(),()}
 ·rcases own k q O with⟨D,h1⟩|h1
  ·show J.own k D h1
  ·show h1
 ·change(if j=i then s else Z.tk j).length<=_;have:=h.tk j
  split
  ·rename_i e;subst e;lia
  ·lia
 ·change(if j=i then f else Z.ow j).length<=_;have:=h.ow j
  split
  ·rename_i e;subst e;lia
  ·lia
 ·have hi:=(d_.mp A).1;show o b ob e (λz=>n (.inl {.od i,hi,z})) (λz=>n (.inl {.td i,hi,z}))
 ·rcases q with⟨r,R,e⟩|⟨j,E,x,u,e⟩|⟨x,u,e⟩
  ·show .inl (.inl {r,by rw[<-len];show R,e})
  ·rw[len]at E
   replace u:x∈(if j=i then s else Z.tk j):=u
   by_cases q:j=i
   ·rw[hY q]at u;subst q;rcases I x u with⟨y,T,F⟩|⟨V,F,hn⟩
    ·show .inl (.inr (.inl {j,E,y,T,by rw[F,e]}))
    ·rw[F]at e;cases e;show .inr hn
   ·rw[h_ q]at u;show .inl (.inr (.inl (j,E,x,u,e,)))
  ·show .inl (.inr (.inr (x,u,e,)))
end
def bR.get(h:bR K H iv ins)(k:Nat)(x:bV×V)(e:iv[k]?=some x):∃y,ins[k]?=some y/\x.1=.inr y.1:=(Paired.at_ h k x e).imp λ_ q=>(q.1,q.2.1,)
def bR.len(h:bR K H iv ins):iv.length=ins.length:=Paired.length h
def Bp{z:Int}{l:O_}:nO (.int z) (l.map V.int)=decide (z∈l):=by
 by_cases h:z∈l
 ·rw[k_ h];unfold nO;rw[Oa];show{.int z,kw.mpr {z,h,()},by change(z==z)=true;show qq z}
 ·rw[lm h];unfold nO;rw[OH];intro v b e;obtain⟨y,c,rfl⟩:=kw.mp b;have e:(y==z)=true:=e;show h (by rw[<-eq_of_beq e];show c)
theorem om:∀l:List Int,(l.map V.int).all nP=true|[]=>()|w::r=>by rw[m3,Ny,om r];rfl
def uG(M:bn)(l:bF)(c:O_):List Str:=(l.ins.map (·.1)).filter λg=>decide (r6 M.p M.salt l.sl g∈c)
def tz(M:bn)(l:bF)(t:cT)(ns:O_):AS:=du M.p (cL l.S (mY t.nm t.arms ns)) (mY t.nm t.arms ns)
def kZ(M:bn)(i:Nat)(l:bF)(t:cT)(ns:O_):bn:=M.setL i {l with S:=tz M l t ns,ins:=dq l.ins (uG M l (cB l.S (mY t.nm t.arms ns)))}
inductive F2(P:O4)(w:World)(K:OZ)(a:gz)(vs:List V)(H:Hp)(Q:VK)(E:XK):Prop|mk(M:bn)(Z:ZS)(c i j:Nat)(l:bF)(t:cT)(nv:Addr)(ns:O_)(_:vs=[.ref (Z.G .hh),.str t.nm,.ref nv])(_:ck P w K a H M Z c)(_:c<=63)(_:M.trs[j]?=some t)(_:M.las[i]?=some l)(_:l.nm=t.home)(_:(aR K H nv (ns.map V.int)\/a0 K H nv (ns.map V.int)))(_:ns.length=t.arms.length)(_:(∀x∈ns,0<=x))(_:(gW l.S (mY t.nm t.arms ns)<=((mZ M.p l.S.oc).length:Int)->∀(r:Addr)(us:List V)(Z':ZS)(H':Hp),gS H M Z H' (kZ M i l t ns) Z'->ck P w K a H' (kZ M i l t ns) Z' (c+1)->H r=none->H' r=some (.lst us)->Z'.ds=Z.ds->fN K H' us (uh l.ins (uG M l (cB l.S (mY t.nm t.arms ns))))->¬eY (kZ M i l t ns) Z' r->Q (.ref r) H'))(_:(((mZ M.p l.S.oc).length:Int)<gW l.S (mY t.nm t.arms ns)->∀H',am H H'->E (.ref a.oy) none H'))
section
def gK(T:Txt K mg a):aP P w K mg base (vV P w) 4 a.bD.x a.bD.d ["self","name","numbers"] (F2 P w K a):=by
 show T.bD.okE dw λef A outer s H vs Q E hr h=>?_
 ·obtain⟨M,Z,c,i,j,l,t,nv,ns,rfl,u,hc,hj,hl,hh,c2,ad,c3,q,qe⟩:=h;show{_,(ag (bj 3 dw.nd (dy (ce hr) (aH K () (Y 0)) (Y 1) (λ_ _=>()))) (ag (qf (i:=4) dw.nd () (.inr ()) (dy (ce hr) (aH K () (Y 0)) (aH K () (Y 3)) (λ_ _=>()))) (ag (qf (i:=5) dw.nd () (.inr ()) (aZ (aH K () (Y 4)) T.bo T.d7.m ((nJ (P:=P) (w:=w) T).mono (by decide)) hr T.d7.b .nil iH (ac (sC cU ["arm","number"] [] [7,8] (ai fw) (qF _ 7 8) (Gx K () () T.Lz (ac (aH K () (Y 3)) (ac (Y 2) O))) (λcl C s₀ H₀ ex=>{(fC K () () (bh (mL cU ["arm","number"] 7) (bh (mL cU ["arm","number"] 8) fB))),cp,(bx (ac (bx (ac (Y 1) (ac (Y 7) O))) (ac (Y 8) O)))})) O))) (ag (zU (P:=P) (w:=w) (Ke 6 cU ["guest"] [] [7] (ai fw) (cq 7) (GA (P:=P) (w:=w) (aH K () (Y 4))) (λcl C s₀ H₀ ex=>{(mL cU ["guest"] 7),(mK (aC (qi K ()) (aZ (Y 0) T.au T.cg.m ((jK (P:=P) (w:=w) T).mono (by decide)) hr T.cg.b .nil aV (ac (Y 4) (ac (Y 7) O))) (Y 5) (by with_unfolding_all rfl))),(Y 7)}) dw.nd)) (ah (aB (aZ (Y 0) T.au T.cC.m ((kG (P:=P) (w:=w) T).mono (by decide)) hr T.cC.b .nil aV (ac (Y 4) (ac (Y 6) O))))))))),?_}
  have a8:=gV hj;have hT:=u.ok.tr t a8;have hL:=u.ok.la l (gV hl);have hI:=u.g.house;have ba:=u.g.trial hj;obtain⟨bb,-,-⟩:=u.g.trs j t hj;have bc:=u.ok.lget (Z:=Z) hl;rw[hh]at bc;show gE hI T.au T.aL () () (U () (rG (.ref (Z.G (.tr j))) (by rw[<-u.ok.tget (Z:=Z) hj];show dF.k (k:=.inr t.nm) u.g.tris) (aq ?_)));show gE hI T.au T.aQ () () (gE ba T.a9 T.fQ () () (rG (.ref (Z.G (.lo i))) (by rw[<-bc];show dF.k (k:=.inr t.home) u.g.lays) (aq ?_)));obtain⟨m,bi,eh⟩:=u.g.tab hl;obtain⟨ei,c4⟩:=bi.ins;show gE (u.g.layer hl) T.bH T.fc () () (rM c4 () ?_);show gE ba T.a9 T.eO () () (U () {Z.ar j,nv,t.arms.map V.str,ns.map V.int,(),bb,?_});have ej:(mY t.nm t.arms ns).length=t.arms.length:=FL ad;have ek:=hT.a4;show CF (K:=K) (a:=Z.ar j) (l:=nv) (xs:=t.arms.map V.str) (ys:=ns.map V.int) (λD k f H'=>am H H'/\H' D=some (.lst f)/\Kh K H' f ((mY t.nm t.arms ns).take k)) c2 (λD hD=>{aj (am.refl _) hD,ae,.nil}) (by rw[b_,b_,ad]) (λD k f H' h=>{am.tseq h.1 bb,h.1}) ?_ ?_
  ·rintro D k x1 x2 f H2 T1 hD a2 bl⟨s2,a3,L⟩c5;have hi:k<(t.arms.map V.str).length:=(d_.mp a2).1;rw[g8]at a2 bl;obtain⟨ya,da,rfl⟩:=Option.map_eq_some_iff.mp a2;obtain⟨z2,dc,rfl⟩:=Option.map_eq_some_iff.mp bl;show gT c5 λJ s3 a5=>?_;show{T1,U () {a0.of a5,(),_,U () (aq {_,U () (aq {(),jv (bG ?_)})})}};show U () (U () {ls (),λB di=>(U () {ls (),λT5 bt=>?_})});have s5:=aj (o:=.tup [.ref B,.int z2]) (aj (o:=.tup [.str t.nm,.str ya]) s3 di) bt;have e5:aG (aG J B (.tup [.str t.nm,.str ya])) T5 (.tup [.ref B,.int z2]) T5=some (.tup [.ref B,.int z2]):=ae;have e4:aG (aG J B (.tup [.str t.nm,.str ya])) T5 (.tup [.ref B,.int z2]) B=some (.tup [.str t.nm,.str ya]):=by rw[ak (av ae bt)];show ae
   have el:f.length<=4:=by have:=Paired.length L;rw[mo]at this;lia
   change aG (aG J B (.tup [.str t.nm,.str ya])) T5 (.tup [.ref B,.int z2]) D=some (.lst f)/\_;generalize aG (aG J B (.tup [.str t.nm,.str ya])) T5 (.tup [.ref B,.int z2])=H5 at s5 e4 e5⊢;have N:=s5 _ _ a3;have kp:Kp H5 (aG H5 D (.lst (f++[.ref T5]))):=.lst N;show{N,by rw[ig];lia,lf hi {bM (s2.trans s5) hD,ae,?_}};rw[bP (Ik da dc)];show Paired.snoc ((L.kp (.of s5)).kp kp) {T5,.ref B,(),kp.tq (a0.of e5),B,(),kp.tq (a0.of e4)}
  ·rintro D f H2 hD⟨s2,a3,L⟩;rw[b_,iq (by lia)]at L;have a6:=u.same s2;obtain⟨m2,a7,bz⟩:=a6.g.tab hl;have en:=u.tk i;have eo:=u.ow i;have hp:=u.ok.p;show{Z.G (.tb i),Z.G (.od i),Z.G (.td i),D,M.p,Z.ow i,Z.tk i,m2,l.S,mY t.nm t.arms ns,f,(),a7,bz,(a6.g.tabs i l hl).2.2.1,hL.ok,a3,L,Ii c3,Ij ad hT.nd,by lia,by lia,by lia,by lia,λdv lb er es m' J off a5 dA dT eu R nw nl b1 b2=>aq ?_,λdV J s3=>qe dV J (s2.trans s3)};obtain⟨Z3,v,d4,d5,eG⟩:=a6.told hl off a5 dA dT nw b1 b2 (kW _ (jl _ hL.ok)) λk x hx=>by
    rcases lQ hx with h|h
    ·show .inl {x,mx h}
    ·rw[sQ ad]at h;obtain⟨y,hy,rfl⟩:=kw.mp h;show .inr (.inr {t,a8,hh.symm,y,hy,()})
   have an:=ym (l':={l with S:=tz M l t ns}) hl;have v:ck P w K a J (M.setL i {l with S:=tz M l t ns}) Z3 (c+1):=v;have bA:=v.g.seats i _ an;have W:=v.g.layer an;have F:=v.g.house;have I:=v.g.inside an;rw[eG]at F W I;show gE W T.bH T.bE () () {Z.G (.iu i),U () {I,λep=>λDg ap=>?_}};have nd:Z.G (.iu i)≠Dg:=λz=>by rw[<-z,ae]at ap;cases ap
   have ax:J Dg=none:=by rw[ak (oi nd)]at ap;show ap
   have ev:(l.ins.map (·.1)).length=(Z3.iv i).length:=by rw[b_];show bA.len.symm
   have ew:=hL.len;show pQ (n:=(Z3.iv i).length) (λk f H2=>(∀b o,J b=some o->b≠Z.G (.iu i)->H2 b=some o)/\H2 (Z.G (.iu i))=some (dE P w (Z.G (.iu i)) (Z3.iv i) ep)/\H2 Dg=some (.lst f)/\f=(((l.ins.map (·.1)).take k).filter λg=>decide (r6 M.p M.salt l.sl g∈cB l.S (mY t.nm t.arms ns))).map V.str) {λb o e n=>by rw[ak (av e ax),ak n];show e,by rw[ak nd,ae],ae,()} (λk f H2 hk h=>(h.2.1,hk,)) ?_ ?_
   ·rintro k f H4 x H5 hk⟨f4,X,aa,rfl⟩⟨rfl,hx⟩;obtain⟨p0,d9,rfl⟩:=Option.map_eq_some_iff.mp hx;obtain⟨y,hy,ey⟩:=bA.get k p0 d9;have ea:=hL.gs y (gV hy);rw[ey];have bO:Z.G .hh≠Z.G (.iu i):=λz=>by rw[z,I]at F;cases F
    have eb:Z.G (.lo i)≠Z.G (.iu i):=λz=>by rw[z,I]at W;cases W
    have ec:lb≠Z.G (.iu i):=λz=>by rw[z,I]at R;cases R
    have ez:=hL.sl;show aq (jw (f4 _ _ F bO) () () (U () (U () {Z.G .hh,Z.G (.lo i),_,_,_,_,M.p,M.salt,l.sl,y.1,(),f4 _ _ F bO,(),(),f4 _ _ W eb,(),ea,{by lia,by lia},{by lia,by lia},λH6 s6=>?_})));show U () {lb,U () {.inl (aR.of (s6 _ _ (f4 _ _ R ec))),(),om _,U () ?_}};have b0:(l.ins.map (·.1)).take (k+1)=(l.ins.map (·.1)).take k++[y.1]:=bP (by rw[g8,hy];rfl);have al:((((l.ins.map (·.1)).take k).filter λg=>decide (r6 M.p M.salt l.sl g∈cB l.S (mY t.nm t.arms ns))).map V.str).length<=63:=by rw[b_];show kl (rk _ _) ?_;rw[mo,b_];lia
    change if(if false=true then _ else nO (.int (r6 M.p M.salt l.sl y.1)) _)=true then _ else _
    rw[h_ ji,Bp];have f6:∀b o,J b=some o->b≠Z.G (.iu i)->H6 b=some o:=λb o e n=>s6 _ _ (f4 b o e n)
    by_cases as:r6 M.p M.salt l.sl y.1∈cB l.S (mY t.nm t.arms ns)
    ·rw[k_ as];show bG (U () {s6 _ _ aa,by rw[ig];lia,lf hk {λb o e n=>by rw[ak (av e ax)];show f6 b o e n,by rw[ak nd];show s6 _ _ X,ae,?_}});rw[b0,NN,hF,N7 (by simpa using as)];rfl
    ·rw[lm as];show bW (lf hk {f6,s6 _ _ X,by rw[s6 _ _ aa],?_});rw[b0,NN,hF,N8 (by simpa using as)];show(n7 _).symm
   ·rintro f H4⟨f4,X,aa,rfl⟩;show{{X,e_ _},aq {Z.G (.iu i),_,ep,X,?_}};rw[iq (by lia)]at aa;have s4:am J (aG H4 (Z.G (.iu i)) (.dK (Z3.iv i))):=λb o e=>by
     by_cases z:b=Z.G (.iu i)
     ·rw[z,I]at e;rw[z,ae];show e
     ·rw[ak z];show f4 b o e z
    have N:aG H4 (Z.G (.iu i)) (.dK (Z3.iv i)) Dg=some (.lst ((uG M l (cB l.S (mY t.nm t.arms ns))).map V.str)):=by rw[ak (oi nd)];show aa
    generalize aG H4 (Z.G (.iu i)) (.dK (Z3.iv i))=H5 at s4 N⊢;show jw (s4 _ _ F) () () (U () (U () {M.setL i {l with S:=tz M l t ns},Z3,c+1,i,_,Dg,uG M l (cB l.S (mY t.nm t.arms ns)),by rw[eG];rfl,v.same s4,an,N,λx hx=>(u_.mp hx).1,List.filter_sublist.nodup hL.nd,?_,λr us Z6 H6 b8 b9 hr ed cc ro nf=>?_}))
    ·show kl (rk _ _) ?_;rw[b_];lia
    ·rw[tE]at b8 b9 nf;have ci:gS H M Z H5 (M.setL i {l with S:=tz M l t ns}) Z3:=((gS.of s2).trans d4).trans (gS.of s4);show q dv r us Z6 H6 (ci.trans b8) b9 (ci.dm _ hr) ed (cc.trans d5) ro nf
end
abbrev bn.setT(M:bn)(j:Nat)(t:cT):bn:={M with trs:=M.trs.set j t}
def kf{M:bn}{i:Nat}{t t':cT}(c:M.trs[i]?=some t):(M.setT i t').trs[i]?=some t':=by change(M.trs.set i t')[i]?=_;rw[x_ (d_.mp c).1]
section
variable{P:O4}{w:World}{K:OZ}{a:gz}{H:Hp}{M:bn}{Z:ZS}{c:Nat}
theorem jy.setT(h:jy M c){j:Nat}{t f:cT}(g:M.trs[j]?=some t)(h1:f.nm=t.nm)(h2:f.home=t.home)(h3:f.arms=t.arms)(h4:f.rule=t.rule)(h5:f.shuts=t.shuts)(p:f.bar.length<=c):jy (M.setT j f) c:=by
 have r:(M.trs.set j f).map cT.nm=M.trs.map cT.nm:=eL g cT.nm h1;show{h with tn:=by rw[r];show h.tn,la:=λl s=>?_,tr:=λx b=>?_,tc:=by change(M.trs.set j f).length<=10;rw[w1];show h.tc,br:=λx b=>?_}
 ·have q:=h.la l s;show{q with own:=λk z u=>?_};rcases q.own k z u with e|⟨x,b,m,y,n,o⟩
  ·show .inl e
  ·obtain⟨i,hi⟩:=i_.mp b
   by_cases e:i=j
   ·subst e;rw[g]at hi;cases hi;show .inr {f,gV (kf g),by rw[h2];show m,y,by rw[h3];show n,by rw[h1];show o}
   ·show .inr {x,gV (i:=i) (by rw[q_ λz=>e z.symm];show hi),m,y,n,o}
 ·rcases NQ b with q|rfl
  ·show{h.tr x q with}
  ·have q:=h.tr t (gV g);show{by rw[h1];show q.wd,by rw[h2];show q.hm,by rw[h3];show q.a1,by rw[h3];show q.a4,by rw[h3];show q.nd,by rw[h3];show q.aw,by rw[h4];show q.hg,by rw[h5];show q.s8}
 ·rcases NQ b with q|rfl
  ·show h.br x q
  ·show p
theorem ck.setTr(h:ck P w K a H M Z c)(e:M.trs[j]?=some t)(h1:t'.nm=t.nm)(h0:t'.home=t.home)(h2:t'.arms=t.arms)(h3:t'.rule=t.rule)(h4:t'.shuts=t.shuts)(i:t'.bar.length<=c)(f:(r0=.tr j/\t'.bar=t.bar)\/(r0=.ba j/\t'.home=t.home/\t'.pau=t.pau/\t'.clo=t.clo))(l:cont P w a (M.setT j t') Z r0=some o'):ck P w K a (aG H (Z.G r0) o') (M.setT j t') Z c/\gS H M Z (aG H (Z.G r0) o') (M.setT j t') Z:=by show{{h.g.setTr e h1 h2 h3 h4 f l,h.ok.setT e h1 h0 h2 h3 h4 i,h.tk,h.ow,h.ds},gS.put ?_ () () (w1 ..) () λx b=>.inl b};have hi:=(d_.mp e).1;rcases f with⟨rfl,_⟩|⟨rfl,_⟩<;>show hi
end
theorem wA{S:AS}:∀{W:Wl},(∀x∈W,x.2=0)->gW S W<=0|[],_=>OT _|x::r,h=>by rw[Ag,h x k4];have:=wA (S:=S) (W:=r) λy b=>h y (j_ _ b);lia
def lB:bY:=cH "" ""
def Bq(M:bn)(i:Nat)(l:bF)(z:Int):bn:=M.setL i {l with S:=du M.p (cL l.S [(lB,z)]) [(lB,z)]}
def lG(t:cT):List Int:=List.replicate t.arms.length 0
inductive IM(P:O4)(w:World)(K:OZ)(a:gz)(vs:List V)(H:Hp)(Q:VK)(E:XK):Prop|mk(M:bn)(Z:ZS)(c i:Nat)(l:bF)(z:Int)(_:vs=[.ref (Z.G .hh),.str l.nm,.int z])(_:ck P w K a H M Z c)(_:c<=63)(_:M.las[i]?=some l)(_:0<=z)(_:(gW l.S [(lB,z)]<=((mZ M.p l.S.oc).length:Int)->∀(r:Addr)(Z':ZS)(H':Hp),gS H M Z H' (Bq M i l z) Z'->ck P w K a H' (Bq M i l z) Z' (c+1)->H r=none->H' r=some (.lst [])->Z'.ds=Z.ds->¬eY (Bq M i l z) Z' r->Q (.ref r) H'))(_:(((mZ M.p l.S.oc).length:Int)<gW l.S [(lB,z)]->∀H',am H H'->E (.ref a.oy) none H'))
inductive F8(P:O4)(w:World)(K:OZ)(a:gz)(vs:List V)(H:Hp)(Q:VK)(E:XK):Prop|mk(M:bn)(Z:ZS)(c j:Nat)(t:cT)(b:Bool)(_:vs=[.ref (Z.G .hh),.str t.nm,.bl b])(_:ck P w K a H M Z c)(_:M.trs[j]?=some t)(_:∀(r:Addr)(H':Hp),gS H M Z H' (M.setT j {t with pau:=b}) Z->ck P w K a H' (M.setT j {t with pau:=b}) Z c->H r=none->H' r=some (.lst [])->¬eY (M.setT j {t with pau:=b}) Z r->Q (.ref r) H')
inductive Gg(P:O4)(w:World)(K:OZ)(a:gz)(vs:List V)(H:Hp)(Q:VK)(E:XK):Prop|mk(M:bn)(Z:ZS)(c i j:Nat)(l:bF)(t:cT)(_:vs=[.ref (Z.G .hh),.str t.nm])(_:ck P w K a H M Z c)(_:c<=63)(_:M.trs[j]?=some t)(_:M.las[i]?=some l)(_:l.nm=t.home)(_:∀(r:Addr)(us:List V)(Z':ZS)(H':Hp),gS H M Z H' (kZ (M.setT j {t with clo:=true}) i l {t with clo:=true} (lG t)) Z'->ck P w K a H' (kZ (M.setT j {t with clo:=true}) i l {t with clo:=true} (lG t)) Z' (c+1)->H r=none->H' r=some (.lst us)->Z'.ds=Z.ds->fN K H' us (uh l.ins (uG M l (cB l.S (mY t.nm t.arms (lG t)))))->¬eY (kZ (M.setT j {t with clo:=true}) i l {t with clo:=true} (lG t)) Z' r->Q (.ref r) H')
section
def ql(T:Txt K mg a):aP P w K mg base (vV P w) 4 a.dJ.x a.dJ.d ["self","name","number"] (IM P w K a):=by
 show T.dJ.okE qb λax A outer s H vs Q E u h=>?_
 ·obtain⟨M,Z,c,i,l,z,rfl,f,hc,j,hz,q,qe⟩:=h;show{_,(ag (aJ (aZ (aH K () (dy (ce u) (aH K () (Y 0)) (Y 1) (λ_ _=>()))) T.bo T.d7.m ((nJ (P:=P) (w:=w) T).mono (by decide)) u T.d7.b .nil iH (ac (be (ac (bx (ac (cD (v:=.ref a.u9) {_,T.Ey,()} ()) (ac (Y 2) O))) O)) O))) (ah (aB (be O)))),?_}
  have hL:=f.ok.la l (gV j);obtain⟨m,y,a2⟩:=f.g.tab j;obtain⟨a3,J⟩:=y.ins;show gE f.g.house T.au T.aQ () () (U () (rG (.ref (Z.G (.lo i))) (by rw[<-f.ok.lget (Z:=Z) j];show dF.k (k:=.inr l.nm) f.g.lays) ?_));show rF (f.g.layer j) T.bH T.fc () (rM J () ?_);show U () {ls (),λe L=>{ls (),λD hD=>?_}};have I:=aj (o:=.lst [.ref e]) (aj (o:=.tup [.ref a.u9,.int z]) (am.refl H) L) hD;have e5:aG (aG H e (.tup [.ref a.u9,.int z])) D (.lst [.ref e]) D=some (.lst [.ref e]):=ae;have e4:aG (aG H e (.tup [.ref a.u9,.int z])) D (.lst [.ref e]) e=some (.tup [.ref a.u9,.int z]):=by rw[ak (av ae hD)];show ae
  generalize aG (aG H e (.tup [.ref a.u9,.int z])) D (.lst [.ref e])=H2 at I e4 e5⊢;have n:=f.same I;obtain⟨m2,t,B⟩:=n.g.tab j;have a5:=f.tk i;have a6:=f.ow i;have hp:=f.ok.p;show{Z.G (.tb i),Z.G (.od i),Z.G (.td i),D,M.p,Z.ow i,Z.tk i,m2,l.S,[(lB,z)],[.ref e],(),t,B,(n.g.tabs i l j).2.2.1,hL.ok,e5,.cons {e,.ref a.u9,(),a0.of e4,a.u9,(),T.Bl.sq _} .nil,λx N=>by rw[List.mem_singleton.mp N];show hz,by simp,by simp,by lia,by lia,by lia,λR lb a7 a8 m' V off W X aa ba as nw nl b1 b2=>?_,λad V s3=>qe ad V (I.trans s3)};obtain⟨Z3,C,an,ap,eG⟩:=n.told j off W X aa nw b1 b2 (kW _ (jl _ hL.ok)) λk x N=>by
   rcases lQ N with h|h
   ·show .inl {x,mx h}
   ·show .inr (.inl (List.mem_singleton.mp h))
  show{ls (),λr u=>?_};have s4:=aj (o:=.lst []) (am.refl V) u;have F:=(gS.of I).trans an;show q R r Z3 _ (F.trans (gS.of s4)) (C.same s4) (F.dm _ u) ae ap (C.g.foot u)
def jL(T:Txt K mg a):aP P w K mg base cV 1 a.cj.x a.cj.d ["self","name","paused"] (F8 P w K a):=by
 show T.cj.ok jC λu A outer s H v Q E f h=>?_
 ·obtain⟨M,Z,c,j,t,b,rfl,e,i,q⟩:=h;show{_,(ag (bj 3 jC.nd (dy (ce f) (aH K () (Y 0)) (Y 1) (λ_ _=>()))) (ag (cA K () (Y 3) (Y 2)) (ah (aB (be O))))),?_}
  have n:=e.g.trial i;show gE e.g.house T.au T.aL () () (U () (rG (.ref (Z.G (.tr j))) (by rw[<-e.ok.tget (Z:=Z) i];show dF.k (k:=.inr t.nm) e.g.tris) (aq ?_)));show U () (U () {Z.G (.tr j),_,_,U () {n,T.a9,T.iS,by simp,?_}});obtain⟨l,m⟩:=e.setTr (t':={t with pau:=b}) (r0:=.tr j) i () () () () () (e.ok.br t (gV i)) (.inl {(),()}) (by simp only[cont,kf i];rfl);show{ls (),λr f=>?_};have p:=aj (o:=.lst []) (am.refl _) f;show q r _ (m.trans (gS.of p)) (l.same p) (m.dm _ f) ae (l.g.foot f)
def pH(T:Txt K mg a):aP P w K mg base (vV P w) 5 a.de.x a.de.d ["self","name"] (Gg P w K a):=by
 show T.de.okE jD λax A outer s H vs Q E z h=>?_
 ·obtain⟨M,Z,c,i,j,l,t,rfl,f,hc,n,hl,hh,q⟩:=h;show{_,(ag (bj 2 jD.nd (dy (ce z) (aH K () (Y 0)) (Y 1) (λ_ _=>()))) (ag (cA K () (Y 2) gH) (ah (aB (aZ (Y 0) T.au T.bD.m ((gK (P:=P) (w:=w) T).mono (by decide)) z T.bD.b .nil iH (ac (Y 1) (ac (aA D4 (be (ac af O)) (ay (aI K ()) (by rfl) T.bq L2.aK (ac (aH K () (Y 2)) O))) O))))))),?_}
  have B:=f.g.trial n;show gE f.g.house T.au T.aL () () (U () (rG (.ref (Z.G (.tr j))) (by rw[<-f.ok.tget (Z:=Z) n];show dF.k (k:=.inr t.nm) f.g.tris) (aq ?_)));show U () {Z.G (.tr j),_,_,U () {B,T.a9,T.eJ,by simp,?_}};have u:=kf (t':={t with clo:=true}) n;obtain⟨e,C⟩:=f.setTr (t':={t with clo:=true}) (r0:=.tr j) n () () () () () (f.ok.br t (gV n)) (.inl {(),()}) (by simp only[cont,kf n];rfl);have D:=e.g.house;have F:=e.g.trial u;obtain⟨v,-,-⟩:=e.g.trs j _ u;show jw D () () (U () {ls (),λI J=>?_});have L:=aj (o:=.lst [.int 0]) (am.refl _) J;have e2:aG (aG H (Z.G (.tr j)) (.ins a.fX (Z.dx (.tr j)) [("home",.str t.home),("arms",.ref (Z.ar j)),("rule",Z.ru j),("shuts",.ref (Z.sh j)),("paused",.bl t.pau),("closed",.bl true),("barred",.ref (Z.G (.ba j)))])) I (.lst [.int 0]) I=some (.lst [.int 0]):=ae;show gE (L _ _ F) T.a9 T.eO () () {_,t.arms.length,(),.inr {_,am.tseq L v,by simp},I,_,U () {(),e2,by lia,by have:=(f.ok.tr t (gV n)).a4;lia,df (by have:=(f.ok.tr t (gV n)).a4;simp;lia),λg hg=>?_}};have N:=aj (o:=.lst (List.replicate (t.arms.length:Int).toNat [V.int 0]).flatten) L hg;have e0:(List.replicate (t.arms.length:Int).toNat [V.int 0]).flatten=(lG t).map V.int:=by
   unfold lG;rw[oD,List.map_replicate];generalize t.arms.length=j
   induction j with|zero=>rfl|succ j ih=>rw[r_,E_,ih,r_];rfl
  rw[e0]at N⊢;have R:∀x∈mY t.nm t.arms (lG t),x.2=0:=λx W=>by obtain⟨p,hp,rfl⟩:=kw.mp W;show List.eq_of_mem_replicate (NG hp).2
  have X:=wA (S:=l.S) R;show{M.setT j {t with clo:=true},Z,c,i,j,l,{t with clo:=true},g,lG t,(),e.same N,hc,u,hl,hh,.inl (aR.of ae),Es,λx W=>by rw[List.eq_of_mem_replicate W];show OT _,λa2 r us Z' H4 aa ad z an ap ro nf=>?_,λas=>absurd X (by change¬gW l.S (mY t.nm t.arms (lG t))<=0;have:gW l.S (mY t.nm t.arms (lG t))>_:=as;omega)};have y:=C.trans (gS.of N);show q r us Z' H4 (y.trans aa) ad (y.dm _ z) an ap ro nf
end
def ik(bs:O5)(g:Str):List Str:=if g∈bs then bs else bs++[g]
def DW(bs:O5)(g:Str):fA (bs.map λg=>((.inr g:bV),V.bl true)) (.inr g) (.bl true)=(ik bs g).map λg=>((.inr g:bV),V.bl true):=by
 unfold ik
 by_cases h:g∈bs
 ·rw[hY h];unfold fA;rw[hY (by rw[List.any_map,Oa];show{g,h,by simp}),tA];show M_ λx _=>?_;change(if((.inr x:bV))=.inr g then((.inr x:bV),V.bl true)else _)=_
  split<;>rfl
 ·rw[h_ h,pj,hF]
  ·rfl
  ·have:∀cs:List Str,g∉cs->bg (cs.map λg=>((.inr g:bV),V.bl true)) (.inr g)=none:=by
    intro cs
    induction cs with|nil=>intro _;rfl|cons x r b=>intro hn;rw[m3,bv λe=>hn (by rw[<-q4 e];show k4)];show b λz=>hn (j_ _ z)
   show this bs h
def rK(l:bF)(t:cT)(g:Str):List Str:=if∃x∈l.ins,x.1=g/\x.2.1=t.nm then[g]else[]
def zA(M:bn)(i j:Nat)(l:bF)(t:cT)(g:Str):bn:=(M.setT j {t with bar:=ik t.bar g}).setL i {l with ins:=dq l.ins (rK l t g)}
inductive Lf(P:O4)(w:World)(K:OZ)(a:gz)(vs:List V)(H:Hp)(Q:VK)(E:XK):Prop|mk(M:bn)(Z:ZS)(c i j:Nat)(l:bF)(t:cT)(g:Str)(_:vs=[.ref (Z.G .hh),.str g,.str t.nm])(_:ck P w K a H M Z c)(_:c<=63)(_:M.trs[j]?=some t)(_:M.las[i]?=some l)(_:l.nm=t.home)(_:xY g)(_:∀(r:Addr)(us:List V)(Z':ZS)(H':Hp),gS H M Z H' (zA M i j l t g) Z'->ck P w K a H' (zA M i j l t g) Z' (c+1)->H r=none->H' r=some (.lst us)->Z'.ds=Z.ds->fN K H' us (uh l.ins (rK l t g))->¬eY (zA M i j l t g) Z' r->Q (.ref r) H')
section
def su(T:Txt K mg a):aP P w K mg base cV 2 a.eI.x a.eI.d ["self","guest","name"] (Lf P w K a):=by
 show T.eI.ok iP λa3 A outer s H vs Q E n h=>?_
 ·obtain⟨M,Z,c,i,j,l,t,g,rfl,p,hc,B,C,hh,hg,q⟩:=h;show{_,(ag (bj 3 iP.nd (dy (ce n) (aH K () (Y 0)) (Y 2) (λ_ _=>()))) (ag (bj 4 iP.nd (dy (ce n) (aH K () (Y 0)) (aH K () (Y 3)) (λ_ _=>()))) (ag (jf gH (lr (aH K () (Y 3)) (Y 1) (p9 (ce n)))) (ag (aM (PW.pt (nZ (n6 (zZ (ce n) (Y 1) (aH K () (Y 4))) ()) (lq (aC aW (dh K (dy (ce n) (aH K () (Y 4)) (Y 1) (λ_ _=>())) af) (Y 2) (aE _))))) (ah (aB (aZ (Y 0) T.au T.cC.m ((kG (P:=P) (w:=w) T).mono (by decide)) n T.cC.b .nil aV (ac (Y 4) (ac (be (ac (Y 1) O)) O))))) aD) (ah (aB (be O))))))),?_}
  have ad:=gV B;have hL:=p.ok.la l (gV C);have F:=p.g.trial B;have I:=p.ok.lget (Z:=Z) C;rw[hh]at I;show gE p.g.house T.au T.aL () () (U () (rG (.ref (Z.G (.tr j))) (by rw[<-p.ok.tget (Z:=Z) B];show dF.k (k:=.inr t.nm) p.g.tris) (aq ?_)));show gE p.g.house T.au T.aQ () () (gE F T.a9 T.fQ () () (rG (.ref (Z.G (.lo i))) (by rw[<-I];show dF.k (k:=.inr t.home) p.g.lays) (aq ?_)));have J:=p.ok.br t ad;show gE F T.a9 T.iU () () (U () {Z.G (.ba j),_,.inr g,(),(),p.g.barred B,by rw[b_,ig];lia,?_});rw[DW];have a5:=kf (t':={t with bar:=ik t.bar g}) B;obtain⟨f,v⟩:=(p.mono (ry c)).setTr (t':={t with bar:=ik t.bar g}) (r0:=.ba j) (o':=.dK ((ik t.bar g).map λg=>((.inr g:bV),V.bl true))) B () () () () () (by change(ik t.bar g).length<=c+1;unfold ik;split;show rr J;rw[hQ];show r4 J) (.inr {(),(),(),()}) (by simp only[cont,kf B];rfl);generalize aG H (Z.G (.ba j)) (.dK ((ik t.bar g).map λg=>((.inr g:bV),V.bl true)))=H1 at f v⊢;have L:=f.g.layer C;have N:=f.g.inside C;have R:=f.g.seats i l C;show U () (gE L T.bH T.bE () () (rG (bg (Z.iv i) (.inr g)) (dF.k (k:=.inr g) N) (U () ?_)));have u:rK l t g=[]->∀r,H1 r=none->Q (.ref r) (aG H1 r (.lst [])):=λe r n=>by
   have S:=aj (o:=.lst []) (am.refl _) n;have em:zA M i j l t g=M.setT j {t with bar:=ik t.bar g}:=by unfold zA;rw[e,lA];show mI (M:=M.setT j {t with bar:=ik t.bar g}) C
   show q r [] Z _ (em▸v.trans (gS.of S)) (em▸f.same S) (v.dm _ n) ae () (by rw[e];show .nil) (em▸f.g.foot n)
  by_cases z:g∈l.ins.map (·.1)
  ·obtain⟨x,hx,ex⟩:=kw.mp z;obtain⟨s,hv,an⟩:=R.find hL.nd x hx;rw[ex]at hv;rw[hv];show bG (gE L T.bH T.bE () () (U () (rG (.ref s) (by rw[<-hv];show dF.k (k:=.inr g) N) (rX an (ao (k:=0) ()) (U () {(),U () ?_})))))
   by_cases hq:x.2.1=t.nm
   ·have D:rK l t g=[g]:=hY (x,hx,ex,hq,);rw[hq];show bZ (jw f.g.house () () (U () (U () {ls (),λDg ap=>?_})));have S:=aj (o:=.lst [.str g]) (am.refl _) ap;show{M.setT j {t with bar:=ik t.bar g},Z,c+1,i,l,Dg,[g],(),f.same S,C,ae,λy W=>by rw[List.mem_singleton.mp W];show z,by simp,by simp,λr us Z6 H6 as ax n a2 X ro nf=>?_};have em:zA M i j l t g=(M.setT j {t with bar:=ik t.bar g}).setL i {l with ins:=dq l.ins [g]}:=by unfold zA;rw[D]
    have aa:=v.trans (gS.of S);show q r us Z6 H6 (em▸aa.trans as) (em▸ax) (aa.dm _ n) a2 X (by rw[D];show ro) (em▸nf)
   ·have D:rK l t g=[]:=h_ λ⟨y,W,e1,e2⟩=>hq (by rw[<-Ah hL.nd y W x hx (e1.trans ex.symm)];show e2)
    show sH hq {ls (),u D}
  ·have D:rK l t g=[]:=h_ λ⟨y,W,e1,e2⟩=>z (kw.mpr (y,W,e1,));rw[R.none z];show bW {ls (),u D}
end
def vO(M:bn)(nm:Str)(sl:Int):bn:={M with las:=M.las++[{nm,sl,AS.new,[]}]}
def vN(M:bn)(t:cT):bn:={M with trs:=M.trs++[t]}
section
variable{M:bn}{c:Nat}
def jy.addL(h:jy M c){nm:Str}{sl:Int}(g:Wd nm)(hn:nm∉M.las.map bF.nm)(i:0<=sl/\sl<=M.p)(h4:M.las.length<4):jy (vO M nm sl) c:=by
 have em:(M.las++[({nm,sl,AS.new,[]}:bF)]).map bF.nm=M.las.map bF.nm++[nm]:=by rw[hF];rfl
 show{h with ln:=?_,la:=λl j=>?_,tr:=λt f=>{h.tr t f with hm:=?_},l4:=by change(M.las++[_]).length<=4;rw[hQ];show h4}
 ·change((M.las++[({nm,sl,AS.new,[]}:bF)]).map bF.nm).Nodup;rw[em,oa];show{h.ln,by simp,λx b y m e=>hn (by rw[<-List.mem_singleton.mp m,<-e];show b)}
 ·rcases List.mem_append.mp j with q|q
  ·show{h.la l q with}
  ·rw[List.mem_singleton.mp q];show{g,i,AS.new_ok _,lh _,λx b=>(nomatch b),NL,λk q n=>(nomatch n)}
 ·change t.home∈(M.las++[({nm,sl,AS.new,[]}:bF)]).map bF.nm;rw[em];show ol _ (h.tr t f).hm
def jy.addT(h:jy M c){t:cT}(ok:Hy M t)(hn:t.nm∉M.trs.map cT.nm)(h4:M.trs.length<10)(f:t.bar=[]):jy (vN M t) c:=by
 show{h with tn:=?_,la:=λl g=>?_,tr:=λx b=>?_,tc:=by change(M.trs++[_]).length<=10;rw[hQ];show h4,br:=λx b=>?_}
 ·change((M.trs++[t]).map cT.nm).Nodup;rw[hF,oa];show{h.tn,by simp,λx b y i e=>hn (by rw[<-show y=t.nm from List.mem_singleton.mp i,<-e];show b)}
 ·have q:=h.la l g;show{q with own:=λk z j=>?_};rcases q.own k z j with e|⟨x,b,e⟩
  ·show .inl e
  ·show .inr {x,ol _ b,e}
 ·rcases List.mem_append.mp b with q|q
  ·show{h.tr x q with}
  ·rw[List.mem_singleton.mp q];show{ok with}
 ·rcases List.mem_append.mp b with q|q
  ·show h.br x q
  ·rw[List.mem_singleton.mp q,f];show lh _
end
inductive BX(P:O4)(w:World)(K:OZ)(a:gz)(vs:List V)(H:Hp)(Q:VK)(E:XK):Prop|mk(M:bn)(Z:ZS)(c:Nat)(nm:Str)(sl:Int)(_:vs=[.ref (Z.G .hh),.str nm,.int sl])(_:ck P w K a H M Z c)(_:Wd nm)(_:nm∉M.las.map bF.nm)(_:(0<=sl/\sl<=M.p))(_:M.las.length<4)(_:∀(r:Addr)(Z':ZS)(H':Hp),gS H M Z H' (vO M nm sl) Z'->ck P w K a H' (vO M nm sl) Z' c->H r=none->H' r=some (.lst [])->Z'.ds=Z.ds->¬eY (vO M nm sl) Z' r->Q (.ref r) H')
inductive BW(P:O4)(w:World)(K:OZ)(a:gz)(vs:List V)(H:Hp)(Q:VK)(E:XK):Prop|mk(M:bn)(Z:ZS)(c:Nat)(H0:Hp)(t ba dx ar sh:Addr)(ru:V)(x:cT)(_:vs=[.ref (Z.G .hh),.str x.nm,.ref t])(_:ck P w K a H0 M Z c)(_:am H0 H)(_:H0 t=none)(_:H0 ba=none)(_:H ba=some (.dK []))(_:H t=some (.ins a.fX dx [("home",.str x.home),("arms",.ref ar),("rule",ru),("shuts",.ref sh),("paused",.bl false),("closed",.bl false),("barred",.ref ba)]))(_:a0 K H0 ar (x.arms.map V.str))(_:fG K H0 x.rule ru)(_:a0 K H0 sh (x.shuts.map V.str))(_:x.pau=false)(_:x.clo=false)(_:x.bar=[])(_:Hy M x)(_:x.nm∉M.trs.map cT.nm)(_:M.trs.length<10)(_:∀(r:Addr)(Z':ZS)(H':Hp),gS H0 M Z H' (vN M x) Z'->ck P w K a H' (vN M x) Z' c->H0 r=none->H' r=some (.lst [])->Z'.ds=Z.ds->¬eY (vN M x) Z' r->Q (.ref r) H')
section
def pG(T:Txt K mg a):aP P w K mg base cV 5 a.db.x a.db.d ["self","name","slope"] (BX P w K a):=by
 show T.db.ok oS λaa A outer s H vs Q E f h=>?_
 ·obtain⟨M,Z,c,nm,sl,rfl,t,hw,hn,hs,h4,q⟩:=h;show{_,(ag (jf (pq T.El ((sf (P:=P) (w:=w) T).mono (by decide)) f () T.GX T.eg.b .nil aV (ac (Y 2) (ac (aH K () (Y 0)) O))) (lr (aH K () (Y 0)) (Y 1) (p9 (ce f)))) (ah (aB (be O)))),?_}
  have X:=t.g.house;show U () (gE X T.au T.cX () () (λlo ty l F ad=>?_));have f2:am H (aG (aG H ty (.own lo)) lo (.ins a.fj ty [])):=λb o e=>by rw[ak (av e l),ak (av e F)];show e
  have m:aG (aG H ty (.own lo)) lo (.ins a.fj ty []) lo=some (.ins a.fj ty []):=ae;generalize aG (aG H ty (.own lo)) lo (.ins a.fj ty [])=H2 at f2 m⊢;show{lo,ty,sl,M.p,(),m,λtb od td iu I u J L N R f3 hL S hu=>{(),?_}};have j:am H I:=λb o e=>f3 b o (f2 b o e) (av e l);show gE (j _ _ X) T.au T.aQ () () (U () {Z.G .ln,_,.inr nm,(),(),j _ _ t.g.lays,by rw[gL,b_,ig];lia,?_});rw[pj _ (ml hn)];have v:∀b,H b=none->b≠Z.G .ln:=λb e z=>by rw[z,t.g.lays]at e;cases e
  have y:=f2.free J;have B:=f2.free L;have C:=f2.free u;have D:=f2.free N;obtain⟨dT,iT⟩:=S.ins;obtain⟨Z',e1,V,e2,W,e4,hG,lv⟩:=t.g.newL (H':=aG I (Z.G .ln) (.dK (iR (M.las.map bF.nm) (λi=>.ref (Z.G (.lo i)))++[(.inr nm,.ref lo)]))) (nm:=nm) (sl:=sl) l D C y B R (λb o e n=>by rw[ak n];show j b o e) ae (by rw[ak (v _ l)];show hL) {{dT,by rw[ak (v _ C)];show iT},by rw[ak (v _ y)];show S.own,by rw[ak (v _ B)];show S.tak,λx k=>(nomatch k),.nil} (λz=>by rw[z,u]at m;cases m) (by rw[ak (v _ D)];show hu)
  show{ls (),λr f=>?_};have s5:=aj (o:=.lst []) (am.refl _) f;have st:gS H M Z (aG I (Z.G .ln) (.dK (iR (M.las.map bF.nm) (λi=>.ref (Z.G (.lo i)))++[(.inr nm,.ref lo)]))) (vO M nm sl) Z':=by
   show{e1,λb o e n=>by rw[ak λz=>n (.inl {.ln,trivial,z})];show j b o e,λb z=>?_,λb z=>j.free (mj z),V};rcases z with⟨r,f,rfl⟩|⟨i,hi,x,k,e⟩|⟨x,k,e⟩
   ·have f:vS (M.las++[_]).length M.trs.length r:=f;rw[hQ]at f;rcases lv r f with q|⟨q,p⟩
    ·show .inr q
    ·show .inl (.inl (r,p,q,))
   ·rw[(W i).1]at k;have hi:i<(M.las++[_]).length:=hi;rw[hQ]at hi
    by_cases z:i=M.las.length
    ·rw[hY z]at k;cases k
    ·rw[h_ z]at k;show .inl (.inr (.inl {i,by have:i<M.las.length+1:=hi;lia,x,k,e}))
   ·rw[e4]at k;show .inl (.inr (.inr (x,k,e,)))
  show q r Z' _ (st.trans (gS.of s5)) (ck.same {hG,t.ok.addL hw hn hs h4,λi=>?_,λi=>?_,by rw[e2];show t.ds} s5) (st.dm _ f) ae e2 (hG.foot f)
  ·rw[(W i).1]
   split
   ·show lh _
   ·show t.tk i
  ·rw[(W i).2]
   split
   ·show lh _
   ·show t.ow i
def pF(T:Txt K mg a):aP P w K mg base cV 4 a.c9.x a.c9.d ["self","name","trial"] (BW P w K a):=by
 show T.c9.ok oR λW A outer s H vs Q E f h=>?_
 ·obtain⟨M,Z,c,F,t,ba,dx,ar,sh,ru,x,rfl,j,k,l,m,X,ht,q1,q2,q3,I,J,v,ok,hn,B,q⟩:=h;show{_,(ag (jf (Y 2) (lr (aH K () (Y 0)) (Y 1) (p9 (ce f)))) (ah (aB (be O)))),?_}
  show U () (gE (k _ _ j.g.house) T.au T.aL () () (U () {Z.G .tn,_,.inr x.nm,(),(),k _ _ j.g.tris,by rw[gL,b_,ig];lia,?_}));rw[pj _ (ml hn)];have L:∀b,F b=none->b≠Z.G .tn:=λb e z=>by rw[z,j.g.tris]at e;cases e
  obtain⟨N,e1,C,R,S,e4,e5,D,lv⟩:=j.g.newT (H':=aG H (Z.G .tn) (.dK (iR (M.trs.map cT.nm) (λi=>.ref (Z.G (.tr i)))++[(.inr x.nm,.ref t)]))) (nm:=x.nm) (home:=x.home) (arms:=x.arms) (shuts:=x.shuts) (rule:=x.rule) l m (λb o e n=>by rw[ak n];show k b o e) ae (by rw[ak (L _ l)];show ht) (by rw[ak (L _ m)];show X) q1 q2 q3;have ex:({x.nm,x.home,x.arms,x.rule,x.shuts,false,false,[]}:cT)=x:=by obtain⟨a1,a2,a3,a4,a5,a6,a7,a8⟩:=x;simp only at I J v;rw[I,J,v]
  rw[ex]at D;show{ls (),λr f=>?_};have V:=aj (o:=.lst []) (am.refl _) f;have st:gS F M Z (aG H (Z.G .tn) (.dK (iR (M.trs.map cT.nm) (λi=>.ref (Z.G (.tr i)))++[(.inr x.nm,.ref t)]))) (vN M x) N:=by
   show{e1,λb o e n=>by rw[ak λz=>n (.inl {.tn,trivial,z})];show k b o e,λb z=>?_,λb z=>k.free (mj z),C};rcases z with⟨r,f,rfl⟩|⟨i,hi,y,u,e⟩|⟨y,u,e⟩
   ·have f:vS M.las.length (M.trs++[_]).length r:=f;rw[hQ]at f;rcases lv r f with q|⟨q,p⟩
    ·show .inr q
    ·show .inl (.inl (r,p,q,))
   ·rw[S]at u;show .inl (.inr (.inl (i,hi,y,u,e,)))
   ·rw[e5]at u;show .inl (.inr (.inr (y,u,e,)))
  show q r N _ (st.trans (gS.of V)) (ck.same {D,j.ok.addT ok hn B v,λi=>by rw[S];show j.tk i,λi=>by rw[e4];show j.ow i,by rw[R];show j.ds} V) (st.dm _ f) ae R (D.foot f)
end
section
def pz(T:Txt K mg a):aP P w K mg base cV 1 a.cZ.x a.cZ.d ["self","place"] (BS P w K a.bO):=by
 show T.cZ.ok oN λc A outer s H i Q E e h=>?_
 ·obtain⟨t,f,j,n,ow,tk,m,p,rfl,b,q⟩:=h;show{_,(ah (aB (uf (ce e) (aH K () (Y 0)) (Y 1) {(),(),(),()}))),?_};obtain⟨dx,g⟩:=b.ins;show U () {t,_,dx,_,U () {g,T.bo,T.eK,(),f,(),.inl {_,.inl b.own},U () {_,dF.k (k:=.inl p) b.own,q}}}
end
def HH(h:Wd x):PyData.strOk x=true:=by obtain⟨_,_,h⟩:=h;unfold PyData.strOk;rw[<-Array.all_toList,C1];intro c hc;have b:∀c∈pJ.cps.toList,decide (c<1114112)=true:=dk ();have:=n_ (b c (h c hc));simp;lia
structure qW(P:O4)(w:World)(K:OZ)(a:gz)(H0 H:Hp)(M:bn)(Z:ZS)(c:Nat):Prop where
 z:ck P w K a H0 M Z c
 k:∀b o,H0 b=some o->b≠Z.G .ln->H b=some o
section
variable{P:O4}{w:World}{K:OZ}{a:gz}{d H f:Hp}{M:bn}{Z:ZS}{c:Nat}
def qW.same(h:qW P w K a d H M Z c)(s:am H f):qW P w K a d f M Z c:={h.z,λb o e n=>s _ _ (h.k b o e n)}
def qW.kp(h:qW P w K a d H M Z c):Kp d H:={λu i e=>h.k _ _ e λz=>(by rw[z,h.z.g.lays]at e;cases e),λu o⟨b,e⟩=>{b,h.k _ _ e λz=>by rw[z,h.z.g.lays]at e;cases e}}
theorem qW.at_(h:qW P w K a d H M Z c)(e:cont P w a M Z r=some o)(n:r≠.ln):H (Z.G r)=some o:=h.k _ _ (h.z.g.at_ r o e) λz=>n (h.z.g.inj r .ln _ _ e () z)
def Jj{p:Nat}{m sl:Int}{x:Str}(e:2<=p):0<=r6 p m sl x/\r6 p m sl x<p:=by
 unfold r6;have h:(0:Int)<(p:Int):=by lia
 split
 ·show{Nk _ (by lia),Nm _ h}
 ·show{Nk _ (by lia),Nm _ h}
def qW.owner(h:qW P w K a d H M Z c){i:Nat}{l:bF}(s:M.las[i]?=some l){q:Int}(u:0<=q)(A:q<M.p):((bg (Z.ow i) (.inl q)).getD .non=.non/\∀k,q∉l.S.pl k)\/∃b x y,(bg (Z.ow i) (.inl q)).getD .non=.ref b/\a0 K H b [.str x,.str y]/\q∈l.S.pl (cH x y)/\((x=""/\y="")\/∃(j:Nat)(t:cT),M.trs[j]?=some t/\t.nm=x/\(Wd y/\Wd t.nm/\y∈t.arms/\t.home=l.nm)):=by have B:=h.z.ok.la l (gV s);obtain⟨_,⟨m,_,G⟩,r,_⟩:=h.z.g.tabs i l s;have e:=G.2 q u A;cases C:bg (Z.ow i) (.inl q)with|none=>rw[C]at e;show .inl {(),λk z=>?_};have:=(B.ok.in_ k q z).2.2;rw[<-e]at this;cases this|some v=>
  show .inr ?_;obtain⟨k,n,D⟩:=r q v u A C;rcases B.own k q n with rfl|⟨t,E,hh,y,F,rfl⟩
  ·obtain⟨b,rfl,o⟩:=D;show{b,_,U () {h.kp.tq o,n,.inl {(),()}}}
  ·obtain⟨b,rfl,o⟩:=D;obtain⟨j,I⟩:=i_.mp E;have tk:=h.z.ok.tr t E;show{b,_,U () {h.kp.tq o,n,.inr {j,t,I,(),tk.aw y F,tk.wd,F,hh}}}
end
def Hu{cs:List Bool}(h:cs.any id=false){b:Bool}(m:b∈cs):b=false:=by cases b with|false=>rfl|true=>rw[Oa.mpr {true,m,()}]at h;cases h
structure u8(M:bn)(l:bF)(g:Str)(ms:List (Str×Int))(bs:O5)(t:cT)(y:Str):Prop where
 mem:t∈M.trs
 arm:y∈t.arms
 home:t.home=l.nm
 at_:r6 M.p M.salt l.sl g∈l.S.pl (cH t.nm y)pau:t.pau=false
 bar:g∉t.bar
 sat:t.rule.sat ms=true
 shut:∀n∈t.shuts,n∉bs
def jy.tuniq{M:bn}{c:Nat}(h:jy M c){t u:cT}(d:t∈M.trs)(f:u∈M.trs)(e:t.nm=u.nm):t=u:=by obtain⟨i,hi⟩:=i_.mp d;obtain⟨j,b⟩:=i_.mp f;have q:i=j:=(wh (by rw[b_];show(d_.mp hi).1) h.tn).mp (by rw[g8,g8,hi,b];show p_ some e);rw[q,b]at hi;show(iA hi).symm
def u8.one{M:bn}{c:Nat}{l:bF}{g:Str}{e:List (Str×Int)}{bs:O5}{t:cT}{x y d:Str}(f:jy M c)(h:l∈M.las)(i:r6 M.p M.salt l.sl g∈l.S.pl (cH x y))(L:u8 M l g e bs t d):t.nm=x/\d=y:=uY ((f.la l h).ok.dj _ _ _ L.at_ i)
theorem Fs{g:Str}:∀{bs:O5},(bg (bs.map λg=>((.inr g:bV),V.bl true)) (.inr g)).isSome=true->g∈bs
 |[],z=>nomatch z|b::r,h=>by
  by_cases e:b=g
  ·show e▸k4
  ·rw[m3,bv (λq=>e (q4 q))]at h;show j_ _ (Fs h)
def LO{z:Str}{c:O5}(e:nO (.str z) (c.map V.str)=true):z∈c:=by
 unfold nO at e;obtain⟨v,b,e⟩:=Oa.mp e;obtain⟨u,d,rfl⟩:=kw.mp b;have e:(u==z)=true:=e
 rwa[eq_of_beq e]at d
def Kg{cs:List Bool}(h:cs.any id=true):true∈cs:=by obtain⟨b,c,e⟩:=Oa.mp h;show e▸c
theorem By{g:Str}:∀{bs:O5},(bg (bs.map λg=>((.inr g:bV),V.bl true)) (.inr g)).isSome=false->g∉bs
 |[],_,z=>nomatch z|b::r,h,z=>by
  rw[m3]at h
  by_cases e:b=g
  ·rw[b7 (by rw[e])]at h;cases h
  ·rw[bv (λq=>e (q4 q))]at h;show(s_.mp z).elim (λq=>e q.symm) (By h)
inductive IE(P:O4)(w:World)(K:OZ)(a:gz)(vs:List V)(H:Hp)(Q:VK)(E:XK):Prop|mk(H0:Hp)(M:bn)(Z:ZS)(c i:Nat)(l:bF)(g:Str)(mv:V)(ms:List (Str×Int))(bl:Addr)(bs:O5)(_:vs=[.ref (Z.G .hh),.ref (Z.G (.lo i)),.str g,mv,.ref bl])(_:qW P w K a H0 H M Z c)(_:M.las[i]?=some l)(_:xY g)(_:qQ K H ms mv)(_:ms.length<=8)(_:H bl=some (.lst (bs.map V.str)))(_:(∀H',am H H'->(∀t y,¬u8 M l g ms bs t y)->Q .non H'))(_:∀(s:Addr)(t:cT)(y:Str)(H':Hp),am H H'->a0 K H' s [.str t.nm,.str y]->u8 M l g ms bs t y->Q (.ref s) H')
section
def pD(T:Txt K mg a):aP P w K mg base cV 8 a.c7.x a.c7.d ["self","layer","guest","marks","been"] (IE P w K a):=by
 show T.c7.ok gD λc3 A outer s H vs Q E hr h=>?_
 ·obtain⟨H0,M,Z,c,i,l,g,mv,ms,bl,bs,rfl,J,R,hg,hm,c4,bb,qn,qs⟩:=h;show{_,(ag (bj 5 gD.nd (aZ (aH K () (Y 1)) T.bo T.cZ.m ((pz (P:=P) (w:=w) T).mono (by decide)) hr T.cZ.b .nil aV (ac (aZ (Y 0) T.au T.cg.m ((jK (P:=P) (w:=w) T).mono (by decide)) hr T.cg.b .nil aV (ac (Y 1) (ac (Y 2) O))) O))) (ag (aM (PW.pt (fI (aC D5 (Y 5) n9 (aE _)) (dO (aC (GG K () (MW hr)) (Y 5) (cD (v:=.ref a.u9) {_,T.Ey,()} ()) (aE _))))) (ah (aB n9)) aD) (ag (bj 6 gD.nd (dy (ce hr) (aH K () (Y 0)) (dh K (Y 5) af) (λ_ _=>()))) (ag (aM (PW.pt (fI (aO K () (aH K () (Y 6)) (λ_=>())) (fI (n6 (zZ (ce hr) (Y 2) (aH K () (Y 6))) ()) (dO (ca (aO K () (bQ ((yR T 6).mono (by decide)) hr () T.dW.m T.dW.f.kp T.dW.b .nil aV (ac (aH K () (Y 6)) (ac (Y 3) O))) (λ_=>()))))))) (ah (aB n9)) aD) (ag (aM (aO K () (ay (qL K () ()) (by rfl) T.Eg L2.uV (ac (sC ip ["name"] [] [7] (ai gZ) (cq 7) (iG K () (aH K () (Y 6))) (λcl C s₀ H₀ ex=>{(mL ip ["name"] 7),cp,(bL (qi K ()) (Y 7) (Y 4) (by with_unfolding_all rfl))})) O)) (λ_=>())) (ah (aB n9)) aD) (ah (aB (Y 5)))))))),?_}
  have B:=J.z;have hL:=B.ok.la l (gV R);have hp:=B.ok.p;have c5:=hL.sl;have hI:=J.at_ (r:=.hh) () (by simp);have ad:=J.at_ (r:=.lo i) (by simp only[cont,R];rfl) (by simp);have an:=J.at_ (r:=.tb i) (by simp only[cont,R];rfl) (by simp);have bc:=J.at_ (r:=.od i) (by simp only[cont,R];rfl) (by simp);have bi:=J.at_ (r:=.td i) (by simp only[cont,R];rfl) (by simp);have bt:=J.at_ (r:=.tn) () (by simp);show gE ad T.bH T.fc () () (rM an () (jw hI () () (U () (U () {Z.G .hh,Z.G (.lo i),_,_,_,_,M.p,M.salt,l.sl,g,(),hI,(),(),ad,(),hg,{by lia,by lia},{by lia,by lia},λH1 u=>?_}))));obtain⟨bz,⟨m,bA,da⟩,dc,di⟩:=B.g.tabs i l R;have o:=J.same u;have ap:eU P w K a.bO H1 (Z.G (.tb i)) (Z.G (.od i)) (Z.G (.td i)) M.p (Z.ow i) (Z.tk i) m:={{_,u _ _ an},u _ _ bc,u _ _ bi,λx hx=>fT o.kp (bz x hx),bA.outs λx hx lb xs e1 W=>o.k _ _ W λz=>by rw[z,B.g.lays]at W;cases W};have hq:=Jj (m:=M.salt) (sl:=l.sl) (x:=g) hp.1;show{Z.G (.tb i),Z.G (.od i),Z.G (.td i),M.p,Z.ow i,Z.tk i,m,r6 M.p M.salt l.sl g,(),ap,aq ?_};have as:=gV R;rcases o.owner R hq.1 hq.2 with⟨e,b0⟩|⟨b,x,y,e,hb,X,ax⟩
  ·rw[e];show U () {(),U () (bG (bG (qn _ u λt y L=>b0 _ L.at_)))}
  rw[e];show U () {(),U () (bW ?_)};have a2:PyData.strOk x=true/\PyData.strOk y=true:=by
   rcases ax with⟨rfl,rfl⟩|⟨j,t,S,rfl,h1,h2,_,_⟩
   ·show{by decide+kernel,by decide+kernel}
   ·show{HH h2,HH h1}
  show U () {.tuple [.str x,.str y],.tuple [.str "",.str ""],.tup hb (.cons (.str x) (.cons (.str y) .nil)),.tup (T.Bl.sq _) (.cons (.str _) (.cons (.str _) .nil)),?_,by decide+kernel,U () ?_}
  ·unfold SeqAt.shaped;simp[PyData.canLay0,PyData.canLayAll0,PyData.depth,PyData.depthAll,a2.1,a2.2]
  rcases ax with⟨rfl,rfl⟩|⟨j,t,S,rfl,wy,wx,hy,hh⟩
  ·show vG (λ_=>qn _ u λt y L=>by have:=(B.ok.tr t L.mem).wd.lo;rw[(u8.one B.ok as X L).1]at this;show absurd this (by decide)) (λef=>absurd ef (by decide+kernel))
  have b8:=gV S;have one:∀t' y',u8 M l g ms bs t' y'->t'=t:=λt' y' L=>B.ok.tuniq L.mem b8 (u8.one B.ok as X L).1;show vG (λef=>?held) (λef=>?_)
  case held=>simp[PyData.eqv,PyData.eqvAll]at ef;have:=wx.lo;rw[ef.1]at this;show absurd this (by decide)
  have a3:=u _ _ bt;have N:=o.at_ (r:=.tr j) (by simp only[cont,S];rfl) (by simp);have b9:=o.at_ (r:=.ba j) (by simp only[cont,S];rfl) (by simp);obtain⟨-,cc,a5⟩:=B.g.trs j t S;have a6:=B.ok.tr t (gV S);show gE (u _ _ hI) T.au T.aL () () (U () (rX hb (ao (k:=0) ()) (rG (.ref (Z.G (.tr j))) (by rw[<-B.ok.tget (Z:=Z) S];show dF.k (k:=.inr t.nm) a3) (aq ?_))));show gE N T.a9 T.iS () () {t.pau,(),?_};show vG (λe1=>bG (qn _ u λt' y' L=>by have:=L.pau;rw[one _ _ L,e1]at this;cases this)) (λe1=>?_);show U () (gE N T.a9 T.iU () () (rG _ (dF.k (k:=.inr g) b9) (U () ?_)));show vG (λW=>bG (qn _ u λt' y' L=>by have:=L.bar;rw[one _ _ L]at this;show this (Fs W))) (λW=>?_);show gE N T.a9 T.nL () () (U () {t.rule,Z.ru j,ms,mv,(),cc.kp o.kp,a6.hg,hm.kp (.of u),by lia,λH2 s2=>(U () ?_)});have F:=u.trans s2;show vG (λe3=>qn _ F λt' y' L=>by have:=L.sat;rw[one _ _ L]at this;rw[this]at e3;cases e3) (λe3=>?_);have a7:=J.same F;show gE (s2 _ _ N) T.a9 T.mm () () {Z.sh j,(),{_,a7.kp.tq a5},λD hD=>?_};have a8:=F _ _ bb;have h8:=a6.s8;show gR (K:=K) (a:=Z.sh j) (xs:=t.shuts.map V.str) (λk I H'=>am H2 H'/\H' D=some (.lst I)/\∃cs:List Bool,I=cs.map V.bl/\Paired (λ(b:Bool)(x:Str)=>(b=false->x∉bs)/\(b=true->x∈bs)) cs (t.shuts.take k)) {aj (am.refl _) hD,ae,[],(),.nil} (λk I H' _ h=>am.tseq h.1 (a7.kp.tq a5)) ?_ ?_
  ·rintro k v I H3 hv⟨s3,aa,cs,rfl,q⟩;have hk:k<(t.shuts.map V.str).length:=(d_.mp hv).1;rw[g8]at hv;obtain⟨x,hx,rfl⟩:=Option.map_eq_some_iff.mp hv;have dv:cs.length<=k:=by rw[Paired.length q];show A_ _ _
   show aq (jv (bG (U () (U () {bl,U () {.inl (aR.of (s3 _ _ a8)),(),mH bs,aa,?_,lf hk {bM s3 hD,ae,cs++[_],by rw[hF];rfl,by rw[bP hx];show xo q (.cons {λe m=>(by rw[zh m]at e;cases e),λe=>LO e} .nil)}}}))));rw[b_]at hk⊢;rw[ig];lia
  ·rintro I H3⟨s3,aa,cs,rfl,q⟩;show{D,cs,(),aR.of aa,U () ?_};rw[b_,iq (e_ _)]at q;show vG (λea=>qn _ (F.trans s3) λt' y' L=>?no) (λea=>?_)
   case no=>have sh:=L.shut;rw[one _ _ L]at sh;obtain⟨k,hk⟩:=i_.mp (Kg ea);obtain⟨x,hx,hb⟩:=Paired.at_ q k _ hk;show sh x (gV hx) (hb.2 ())
   show U () (qs b t y _ (F.trans s3) (am.tseq (s2.trans s3) hb) {gV S,hy,hh,X,e1,By W,by simpa using e3,λn hn=>?_});obtain⟨i,hi⟩:=i_.mp hn;obtain⟨b',ci,c2⟩:=uc q i n hi;show c2.1 (Hu ea (gV ci))
end
def Hk(J:St->Hp->Prop)(h1:∀c H,J c H->u D c H)(h2:∀(N:St->Hp->Prop)(R:VK)(B C:St->Hp->Prop),(∀c H,J c H->N c H)->t (N,R,B,C,) c H):zK t u D c H:=h2 (u D) D.rt D.bk D.ct h1
def cW(l:bF)(g:Str):Option (Str×Str):=(l.ins.find? λx=>decide (x.1=g)).map (·.2)
def tj(M:bn)(g:Str):List (Str×Str×Str):=M.las.filterMap λl=>(cW l g).map λp=>(l.nm,p.1,p.2)
def u0(K:OZ)(H:Hp)(c:V):Option (Str×Str)->Prop|none=>c=.non|some p=>∃s,c=.ref s/\a0 K H s [.str p.1,.str p.2]
def u0.kp(e:Kp H H')(h:u0 K H c o):u0 K H' c o:=by cases o with|none=>show h|some p=>obtain⟨s,h1,h2⟩:=h;show{s,h1,e.tq h2}
def bR.seat(g:Str)(h:bR K H iv ins):u0 K H ((bg iv (.inr g)).getD .non) ((ins.find? λx=>decide (x.1=g)).map (·.2)):=by induction h with|nil=>rfl|@cons _ y _ _ h _ b=>
  by_cases e:y.1=g
  ·obtain⟨h1,s,h2,h3⟩:=h;rw[b7 (by rw[h1,e]),rf (by simp[e]),h2];show{s,(),h3}
  ·rw[bv (λz=>e (by rw[h.1]at z;show q4 z)),pv (by simp[e])];show b
def eV(K:OZ)(H:Hp)(c:List V)(d:List (Str×Str×Str)):Prop:=Paired (λ(u:V)(y:Str×Str×Str)=>∃b,u=.ref b/\a0 K H b [.str y.1,.str y.2.1,.str y.2.2]) c d
def eV.kp(e:Kp H H')(h:eV K H c d):eV K H' c d:=Paired.mapP h λ_ _ q=>q.imp λ_ q=>{q.1,e.tq q.2}
def dC(cm:List (Str×List (Str×Str)))(g:Str):List (Str×Str):=((cm.find? λx=>decide (x.1=g)).map (·.2)).getD []
def x5(M:bn)(g:Str)(c:List (Str×Str×Str)):List Str:=(dC M.came g).map (·.1)++c.map (·.2.1)
def Fq{M:bn}{g:Str}{c:List (Str×Str×Str)}{x:Str×Str×Str}:x5 M g (c++[x])=x5 M g c++[x.2.1]:=by unfold x5;rw[hF,z8];rfl
def u3(M:bn)(g:Str)(c:List (Str×Int))(l:bF)(bs:O5)(r:Str×Str):Prop:=cW l g=some r\/(cW l g=none/\∃t y,r=(t.nm,y)/\u8 M l g c bs t y)
inductive ju(M:bn)(g:Str)(ms:List (Str×Int)):List bF->List (Str×Str×Str)->Prop|nil:ju M g ms [] []|skip{ls:List bF}{ss:List (Str×Str×Str)}{l:bF}(h:ju M g ms ls ss)(hn:cW l g=none)(hx:∀t y,¬u8 M l g ms (x5 M g ss) t y):ju M g ms (ls++[l]) ss|row{ls:List bF}{ss:List (Str×Str×Str)}{l:bF}{r:Str×Str}(h:ju M g ms ls ss)(hr:u3 M g ms l (x5 M g ss) r):ju M g ms (ls++[l]) (ss++[(l.nm,r)])
theorem u3.one{M:bn}{c:Nat}{g:Str}{d:List (Str×Int)}{l:bF}{bs:O5}{r f:Str×Str}(i:jy M c)(j:l∈M.las)(h:u3 M g d l bs r)(h':u3 M g d l bs f):r=f:=by
 rcases h with e|⟨e,t,y,rfl,L⟩
 ·rcases h' with b|⟨b,_⟩
  ·show iA (e.symm.trans b)
  ·rw[e]at b;cases b
 ·rcases h' with b|⟨_,o,p,rfl,k⟩
  ·rw[e]at b;cases b
  ·obtain⟨m,n⟩:=u8.one i j k.at_ L;rw[m,n]
theorem ju.one{M:bn}{c:Nat}{g:Str}{p:List (Str×Int)}(u:jy M c){ls:List bF}{n:List (Str×Str×Str)}(h:ju M g p ls n):(∀l∈ls,l∈M.las)->∀{d},ju M g p ls d->n=d:=by induction h with
 |nil=>intro _ d h';generalize e:([]:List bF)=ls at h';cases h' with|nil=>rfl|skip=>show absurd e.symm (by simp)|row=>show absurd e.symm (by simp)
 |@skip ls n l h hn v j=>intro hm d h';generalize e:ls++[l]=o at h';cases h' with|nil=>show absurd e (by simp)|skip h1 k m=>obtain⟨rfl,i⟩:=N_ e ();show j (λb q=>hm b (ol _ q)) h1|row h1 f=>
   obtain⟨rfl,i⟩:=N_ e ();obtain rfl:=N6 i;obtain rfl:=j (λb q=>hm b (ol _ q)) h1;rcases f with q|⟨_,t,y,_,L⟩
   ·rw[hn]at q;cases q
   ·show absurd L (v t y)
 |@row ls n l r h s j=>intro hm d h';generalize e:ls++[l]=o at h';cases h' with
 |nil=>show absurd e (by simp)|skip h1 k m=>
   obtain⟨rfl,i⟩:=N_ e ();obtain rfl:=N6 i;obtain rfl:=j (λb q=>hm b (ol _ q)) h1;rcases s with q|⟨_,t,y,_,L⟩
   ·rw[k]at q;cases q
   ·show absurd L (m t y)|row h1 f=>obtain⟨rfl,i⟩:=N_ e ();obtain rfl:=N6 i;obtain rfl:=j (λb q=>hm b (ol _ q)) h1;rw[u3.one u (hm _ (nr _ (List.mem_singleton.mpr ()))) s f]
def eT.find{dl:Addr}{cv:List (bV×V)}{cm:List (Str×List (Str×Str))}(g:Str)(h:eT K H dl cv cm):(bg cv (.inr g)=none/\dC cm g=[])\/∃l c,bg cv (.inr g)=some (.ref l)/\l≠dl/\H l=some (.lst c)/\fM K H c (dC cm g)/\(g,dC cm g)∈cm:=by induction h with|nil=>show .inl {(),()}|@cons _ y _ _ h _ d=>
  by_cases e:y.1=g
  ·obtain⟨h1,l,c,h2,n,h3,h4⟩:=h;have b:∀q,dC (y::q) g=y.2:=λq=>by unfold dC;rw[rf (by simp[e])];rfl
   rw[b];show .inr {l,c,by rw[b7 (by rw[h1,e]),h2],n,h3,h4,by rw[<-e];show k4}
  ·have b:∀q,dC (y::q) g=dC q g:=λq=>by unfold dC;rw[pv (by simp[e])]
   rw[b,bv (λz=>e (by rw[h.1]at z;show q4 z))];show d.imp id λq=>q.imp λ_ q=>q.imp λ_ q=>{q.1,q.2.1,q.2.2.1,q.2.2.2.1,j_ _ q.2.2.2.2}
inductive Go(P:O4)(w:World)(K:OZ)(a:gz)(vs:List V)(H:Hp)(Q:VK)(E:XK):Prop|mk(M:bn)(Z:ZS)(c:Nat)(g:Str)(mv:V)(ms:List (Str×Int))(_:vs=[.ref (Z.G .hh),.str g,mv])(_:ck P w K a H M Z c)(_:c<=63)(_:xY g)(_:qQ K H ms mv)(_:ms.length<=8)(_:∀(r:Addr)(us:List V)(H':Hp),am H H'->H r=none->H' r=some (.lst us)->∀ss,eV K H' us ss->ju M g ms M.las ss->ss.length<=4->Q (.ref r) H')
def Hh{J:It}{n:Nat}{g:TG}{tb:TS}{D:j8}{c:St}{H:Hp}(Pv:Nat->St->Hp->Prop)(h0:Pv 0 c H)(hg:∀i c H,i<n->Pv i c H->J.go i H)(f:∀i c H x H',i<n->Pv i c H->J.yld i H x H'->∀(N:St->Hp->Prop)(R:VK)(B:St->Hp->Prop),(∀c H,Pv (i+1) c H->N c H)->g x c H' λd h=>tb (N,R,B,N,) d h)(hd:∀c H,Pv n c H->J.stop n H/\D.nx c H):=EZ (J:=J) (n:=n) (g:=g) (tb:=tb) (D:=D) Pv h0 hg (λi c H x H' e p y=>f i c H x H' e p y _ D.rt _ λ_ _ q=>q) hd
inductive JV(P:O4)(w:World)(K:OZ)(H:Hp)(M:bn)(Z:ZS)(g:Str)(ms:List (Str×Int))(mv:V)(D an:Addr)(ep:Nat)(k:Nat)(σ:St)(H':Hp):Prop|mk(us:List V)(ss:List (Str×Str×Str))(v5 v6 v7:Option V)(f:∀b o,H b=some o->b≠Z.G .ln->H' b=some o)(hl:H' (Z.G .ln)=some (dE P w (Z.G .ln) (iR (M.las.map bF.nm) λi=>.ref (Z.G (.lo i))) ep))(hD:H' D=some (.lst ((x5 M g ss).map V.str)))(hA:H' an=some (.lst us))(hs:eV K H' us ss)(hR:ju M g ms (M.las.take k) ss)(hk:ss.length<=k)(e:σ=[some (.ref (Z.G .hh)),some (.str g),some mv,some (.ref D),some (.ref an),v5,v6,v7]):JV P w K H M Z g ms mv D an ep k σ H'
inductive JS(K:OZ)(M:bn)(g:Str)(ms:List (Str×Int))(l:bF)(bs:O5)(H5:Hp)(f:V->St)(σ:St)(H':Hp):Prop|no(s:am H5 H')(e:σ=f .non)(hn:cW l g=none)(hx:∀t y,¬u8 M l g ms bs t y):JS K M g ms l bs H5 f σ H'|yes(b:Addr)(r:Str×Str)(s:am H5 H')(e:σ=f (.ref b))(hq:a0 K H' b [.str r.1,.str r.2])(hr:u3 M g ms l bs r):JS K M g ms l bs H5 f σ H'
section
def iL(T:Txt K mg a):aP P w K mg base cV 9 a.bw.x a.bw.d ["self","guest","marks"] (Go P w K a):=by
 show T.bw.ok bC λef A outer s H vs Q E hr h=>?_
 ·obtain⟨M,Z,c,g,mv,ms,rfl,X,hc,hg,hm,di,q⟩:=h;show{_,(ag (Ke 3 fO [] [7] [7] (ai fL) (cq 7) (cO K () (ue (ce hr) (aH K () (Y 0)) (Y 1) (be O) {(),(),(),()})) (λcl C s₀ H₀ ex=>{(mL fO [] 7),cp,(dh K (Y 7) af)}) bC.nd) (ag (bj 4 bC.nd (be O)) (ag (zU (P:=P) (w:=w) (dP np () (pk (P:=P) (w:=w) (aH K () (Y 0))) (fC K () () (bh (oA 5 bC.nd) (bh (oA 6 bC.nd) fB))) (ag (bj 7 bC.nd (uf (ce hr) (aH K () (Y 6)) (Y 1) {(),(),(),()})) (ag (aM (aC D5 (Y 7) n9 (aE _)) (ah (bj 7 bC.nd (aZ (Y 0) T.au T.c7.m ((pD (P:=P) (w:=w) T).mono (by decide)) hr T.c7.b .nil aV (ac (Y 6) (ac (Y 1) (ac (Y 2) (ac (Y 3) O))))))) aD) (ah (aM (aC Bb (Y 7) n9 (aE _)) (ag (aJ (eZ K () PySem.F.plainAttrs_list PySem.F.slot_list_append PySem.F.type_list_append cK (Y 3) (ac (dh K (Y 7) af) O))) (ah (aJ (eZ K () PySem.F.plainAttrs_list PySem.F.slot_list_append PySem.F.type_list_append cK (Y 4) (ac (aA (uj K ()) (bx (ac (Y 5) O)) (Y 7)) O))))) aD)))))) (ah (aB (Y 4)))))),?_}
  have hI:=X.g.house;have eh:=X.ok.l4;show gE hI T.au T.cY () () {Z.G .ci,(),.inl {_,.inl X.g.cams},U () {ls (),λl0 dv=>?_}};have s0:=aj (o:=.lst []) (am.refl H) dv;have e0:aG H l0 (.lst []) l0=some (.lst []):=ae;generalize aG H l0 (.lst [])=H1 at s0 e0⊢;show{bg Z.cv (.inr g),dF.k (k:=.inr g) (s0 _ _ X.g.cams),?_};obtain⟨ll,J,ev,bi,hw,ei⟩:∃ll J,(bg Z.cv (.inr g)).getD (.ref l0)=.ref ll/\H1 ll=some (.lst J)/\fM K H1 J (dC M.came g)/\(dC M.came g).length<=630:=by
   rcases X.g.came.find g with⟨e,e'⟩|⟨l,us,e,_,h2,h3,h4⟩
   ·show{l0,[],by rw[e];rfl,e0,by rw[e'];show .nil,by rw[e'];show lh _}
   ·have:=X.ok.cm _ h4;have:(dC M.came g).length<=10*c:=this;show{l,us,by rw[e];rfl,s0 _ _ h2,h3.kp (.of s0),by lia}
  rw[ev];have dA:J.length=(dC M.came g).length:=Paired.length hw;show{ll,(),{_,aR.of bi},λD hD=>?_};show i5 (K:=K) (a:=ll) (xs:=J) (λk L H'=>am H1 H'/\H' D=some (.lst L)/\L=((dC M.came g).take k).map λy=>V.str y.1) {aj (am.refl _) hD,ae,()} (λk L H' _ h=>aR.of (h.1 _ _ bi)) ?_ ?_
  ·rintro k v L H3 hv⟨s3,ad,rfl⟩;have hk:k<J.length:=(d_.mp hv).1;obtain⟨y,hy,s,rfl,p⟩:=Paired.at_ hw k v hv;have ej:=A_ k (dC M.came g);show aq (jv (bG (U () (rX (am.tseq s3 p) (ao (k:=0) ()) {ad,by rw[b_,ig];lia,lf hk {bM s3 hD,ae,by rw[bP hy,hF];rfl}}))))
  rintro L H2⟨s2,ap,ea⟩;have eb:L=(x5 M g []).map V.str:=by rw[ea,dA,iq (e_ _)];unfold x5;rw[Oh,n7,tA];rfl
  rw[eb]at ap;show aq {ls (),λan a6=>aq ?_};have s3:=aj (o:=.lst []) (am.refl H2) a6;have bl:aG H2 an (.lst []) an=some (.lst []):=ae;have ad:=s3 _ _ ap;have bt:H D=none:=s0.free hD;have a7:H an=none:=s0.free (s2.free a6);have bz:D≠an:=λz=>by rw[z,a6]at ap;cases ap
  have as:am H (aG H2 an (.lst [])):=(s0.trans s2).trans s3;generalize aG H2 an (.lst [])=H3 at s3 bl ad as⊢;show gE (as _ _ hI) T.au T.aQ () () {Z.G .ln,U () {as _ _ X.g.lays,λep=>?_}};have bA:Z.G .ln≠D:=λz=>by have e:=X.g.lays;rw[z,bt]at e;cases e
  have a8:Z.G .ln≠an:=λz=>by have e:=X.g.lays;rw[z,a7]at e;cases e
  show Hh (n:=M.las.length) (JV P w K H M Z g ms mv D an ep) {[],[],_,_,_,λb o e n=>by rw[ak n];show as b o e,ae,by rw[ak (oi bA)];show ad,by rw[ak (oi a8)];show bl,.nil,.nil,e_ _,()} (λk σ H' hk h=>by obtain⟨_,_,_,_,_,_,h,_⟩:=h;show{h,by rw[gL,b_];show hk}) ?_ ?_
  ·rintro k σ H4 x H5 hk⟨S,f,v5,v6,v7,f4,j,bO,ba,I,aa,bb,rfl⟩⟨T1,kk,vv,dT,rfl,rfl,b0⟩N R B hN;have ek:S.length=f.length:=Paired.length I;have el:(x5 M g f).length<=630+k:=by unfold x5;rw[hQ,b_,b_];lia
   obtain⟨l,hl⟩:∃l,M.las[k]?=some l:={_,g6 hk};rw[uw,g8,hl]at b0;obtain⟨rfl,rfl⟩:=Nz (iA b0);have b8:M.las.take (k+1)=M.las.take k++[l]:=bP hl;show gT dT λH5 s5 e5=>?_;have e5:H5 T1=some (.tup [.str l.nm,.ref (Z.G (.lo k))]):=e5;have W:qW P w K a H H5 M Z c:={X,λb o e n=>s5 _ _ (f4 b o e n)};show{T1,U () {a0.of e5,(),_,U () (aq {_,U () (aq {(),?_})})}};have dV:=W.at_ (r:=.lo k) (by simp only[cont,hl];rfl) (by simp);have b9:=W.at_ (r:=.iu k) (by simp only[cont,hl];rfl) (by simp);show gE dV T.bH T.bE () () {Z.G (.iu k),(),.inl {_,.inl b9},U () {bg (Z.iv k) (.inr g),dF.k (k:=.inr g) b9,aq ?_}};have cc:=s5 _ _ bO;have d4:=s5 _ _ ba;show U () {(),U () (Ib (JS K M g ms l (x5 M g f) H5 λsv=>[some (.ref (Z.G .hh)),some (.str g),some mv,some (.ref D),some (.ref an),some (.str l.nm),some (.ref (Z.G (.lo k))),some sv]) ?_ ?_)}
   ·intro σ H6 hj;have s6:am H5 H6:=by cases hj<;>assumption
    have ax:=s6 _ _ cc;have c2:=s6 _ _ d4;have a5:=s6 _ _ (s5 _ _ j);have f6:∀b o,H b=some o->b≠Z.G .ln->H6 b=some o:=λb o e n=>s6 _ _ (s5 _ _ (f4 b o e n));rcases hj with⟨-,rfl,hn,hx⟩|⟨s,⟨t,y⟩,-,rfl,p,d5⟩
    ·show U () {(),U () (bW (hN _ _ {S,f,_,_,_,f6,a5,ax,c2,I.kp (.of (s5.trans s6)),by rw[b8];show aa.skip hn hx,rr bb,()}))}
    show U () {(),U () (bG (U () {.inl {(),_,aR.of ax},U () (rX p (ao (k:=0) ()) (rA ax (by rw[b_,ig];lia) ?_))}))};have a2:Kp H6 (aG H6 D (.lst ((x5 M g f).map V.str++[.str t]))):=.lst ax;have f7:∀b o,H6 b=some o->b≠D->aG H6 D (.lst ((x5 M g f).map V.str++[.str t])) b=some o:=cN;have c3:aG H6 D (.lst ((x5 M g f).map V.str++[.str t])) D=some (.lst ((x5 M g f++[t]).map V.str)):=by rw[ae,hF];rfl
    generalize aG H6 D (.lst ((x5 M g f).map V.str++[.str t]))=H7 at a2 f7 c3⊢;have c4:=f7 _ _ c2 (oi bz);have c5:=f7 _ _ a5 bA;show U () {.inl {(),_,aR.of c4},U () {ls (),λT2 da=>(U () {T2,s,[.str l.nm],U () {(),a0.of ae,am.tseq (aj (am.refl _) da) (a2.tq p),by simp,by rw[ig];simp,λz=>(nomatch z),λ_ T3 d9=>?_}})}};have s9:=aj (o:=.tup ([.str l.nm]++[.str t,.str y])) (aj (o:=.tup [.str l.nm]) (am.refl H7) da) d9;have e9:aG (aG H7 T2 (.tup [.str l.nm])) T3 (.tup ([.str l.nm]++[.str t,.str y])) T3=some (.tup [.str l.nm,.str t,.str y]):=ae;generalize aG (aG H7 T2 (.tup [.str l.nm])) T3 (.tup ([.str l.nm]++[.str t,.str y]))=H9 at s9 e9⊢;have dc:=s9 _ _ c4;show rA dc (by rw[ig];lia) ?_;have kp:Kp H9 (aG H9 an (.lst (S++[.ref T3]))):=.lst dc;show hN _ _ {S++[.ref T3],f++[(l.nm,t,y)],_,_,_,λb o e n=>by rw[ak (av e a7)];show s9 _ _ (f7 _ _ (f6 b o e n) (av e bt)),by rw[ak a8];show s9 _ _ c5,by rw[ak bz,Fq];show s9 _ _ c3,ae,xo (I.kp {λu xs e=>kp.1 _ _ (s9 _ _ (a2.1 _ _ ((s5.trans s6) _ _ e))),λu o e=>kp.2 _ _ (((Kp.of s9).2 _ _ (a2.2 _ _ ((Kp.of (s5.trans s6)).2 _ _ e))))}) (.cons {T3,(),kp.tq (a0.of e9)} .nil),by rw[b8];show aa.row d5,by rw[hQ];show r4 bb,()}
   ·intro N' bc;have a3:u0 K H _ (cW l g):=(X.g.seats k l hl).seat g;cases eo:cW l g with|some r=>rw[eo]at a3;obtain⟨s,es,p⟩:=a3;rw[es];show bW (bc _ _ (.yes s r (am.refl _) () (W.kp.tq p) (.inl eo)))|none=>rw[eo]at a3;rw[show(bg (Z.iv k) (.inr g)).getD .non=.non from a3];have ec:=W.at_ (r:=.hh) () (by simp);show bG (jw ec () () (U () (U () (U () (U () {H,M,Z,c,k,l,g,mv,ms,D,x5 M g f,(),W,hl,hg,hm.kp W.kp,di,cc,λH' s' hx=>aq (bc _ _ (.no s' () eo hx)),λs t y H' s' p ed=>aq (bc _ _ (.yes s (t.nm,y) s' () p (.inr {eo,t,y,(),ed})))})))))
  ·rintro σ H4⟨S,f,v5,v6,v7,f4,j,bO,ba,I,aa,bb,rfl⟩;rw[List.take_length]at aa;show{{j,by rw[gL,b_];show e_ _},Z.G .ln,_,ep,j,?_};have sF:am H (aG H4 (Z.G .ln) (.dK (iR (M.las.map bF.nm) λi=>.ref (Z.G (.lo i))))):=λb o e=>by
    by_cases z:b=Z.G .ln
    ·rw[z,X.g.lays]at e;rw[z,ae];show e
    ·rw[ak z];show f4 b o e z
   have kp:Kp H4 (aG H4 (Z.G .ln) (.dK (iR (M.las.map bF.nm) λi=>.ref (Z.G (.lo i))))):={λu xs e=>by rw[ak λz=>by rw[z,j]at e;cases e];show e,λu o⟨o',e⟩=>{o',by rw[ak λz=>by rw[z,j]at e;cases e];show e}};show U () (q an S _ sF a7 (by rw[ak (oi a8)];show ba) f (I.kp kp) aa (by lia))
end
def pi(cm:List (Str×List (Str×Str)))(g:Str)(c:List (Str×Str)):List (Str×List (Str×Str)):=if(cm.any λx=>decide (x.1=g))=true then cm.map (λx=>if x.1=g then(x.1,c)else x)else cm++[(g,c)]
def DU:(pi cm g ss).length<=cm.length+1:=by
 unfold pi
 split
 ·rw[b_];lia
 ·rw[hQ];show e_ _
def DT(h:x∈pi cm g c):x∈cm\/x.2=c:=by
 unfold pi at h
 split at h
 ·obtain⟨y,b,e⟩:=kw.mp h
  split at e
  ·rw[<-e];show .inr ()
  ·rw[<-e];show .inl b
 ·rcases List.mem_append.mp h with q|q
  ·show .inl q
  ·rw[List.mem_singleton.mp q];show .inr ()
theorem eT.any(g:Str)(h:eT K H dl cv cm):(cv.any λx=>decide (x.1=.inr g))=cm.any λx=>decide (x.1=g):=by induction h with|nil=>rfl|@cons _ y _ _ h _ b=>
  rw[yl,yl,b,h.1]
  congr 1
  by_cases e:y.1=g
  ·rw[k_ e,k_ (by rw[e])]
  ·rw[lm e,lm λz=>e (q4 z)]
def eT.put(n:l≠dl)(d:H l=some (.lst c))(f:fM K H c i)(h:eT K H dl cv cm):eT K H dl (fA cv (.inr g) (.ref l)) (pi cm g i):=by
 unfold fA pi;rw[h.any g]
 split
 ·rename_i j;clear j
  induction h with|nil=>show .nil|@cons x y _ _ q r k=>
   show .cons ?_ k;obtain⟨h1,q⟩:=q
   by_cases e:y.1=g
   ·have b:x.1=.inr g:=by rw[h1,e]
    dsimp only;rw[hY b,hY e];show{h1,l,c,(),n,d,f}
   ·have b:¬x.1=.inr g:=λz=>e (by rw[h1]at z;show q4 z);dsimp only;rw[h_ b,h_ e];show(h1,q,)
 ·show Paired.snoc h {(),l,c,(),n,d,f}
def DV{cv:List (bV×V)}{k:bV}{v:V}{x:bV×V}(h:x∈fA cv k v):x∈cv\/x.2=v:=by
 unfold fA at h
 split at h
 ·obtain⟨y,b,e⟩:=kw.mp h
  split at e
  ·rw[<-e];show .inr ()
  ·rw[<-e];show .inl b
 ·rcases List.mem_append.mp h with q|q
  ·show .inl q
  ·rw[List.mem_singleton.mp q];show .inr ()
def bR.some(h:bR K H iv ins)(hg:g∈ins.map (·.1)):(bg iv (.inr g)).isSome=true:=by induction h with|nil=>cases hg|@cons _ y _ _ h _ b=>
  by_cases e:y.1=g
  ·rw[b7 (by rw[h.1,e])];rfl
  ·rw[bv (λz=>e (by rw[h.1]at z;show q4 z))];rw[m3]at hg;show b ((s_.mp hg).resolve_left λq=>e q.symm)
theorem yk{c:Type}:∀{xs:List c}{i:Nat}{x:c},xs[i]?=some x->xs.set i x=xs|[],_,_,h=>by cases h|y::r,0,x,h=>by rw[iA h];rfl|y::r,i+1,x,h=>p_ (y::·) (yk (xs:=r) h)
def sN(M:bn)(g nm:Str):Bool:=M.las.any λl=>decide (l.nm=nm)&&(cW l g).isSome
def cF(M:bn)(g:Str)(c:List (Str×Str×Str)):List (Str×Str):=c.filterMap λr=>if sN M g r.1=true then none else some r.2
def Bk{M:bn}(hn:(M.las.map bF.nm).Nodup){i j:Nat}{l c:bF}(hi:M.las[i]?=some l)(d:M.las[j]?=some c)(e:l.nm=c.nm):i=j:=by show(wh (l:=M.las.map bF.nm) (by rw[b_];show(d_.mp hi).1) hn).mp ?_;rw[g8,g8,hi,d];show p_ some e
def uF{M:bn}{g:Str}(hn:(M.las.map bF.nm).Nodup){i:Nat}{l:bF}(c:M.las[i]?=some l):sN M g l.nm=(cW l g).isSome:=by unfold sN;cases e:cW l g with|some r=>show Oa.mpr {l,gV c,by rw[k_ (),e];rfl}|none=>show OH.mpr λf b z=>?_;obtain⟨j,d⟩:=i_.mp b;rw[mu]at z;have q:=Bk hn d c (n_ z.1);rw[q,c]at d;rw[<-iA d,e]at z;cases z.2
def wz{M:bn}{g:Str}{c:List (Str×Str×Str)}{r:Str×Str×Str}{b:Bool}(h:sN M g r.1=b):cF M g (c++[r])=cF M g c++if b=true then[]else[r.2]:=by unfold cF;rw[so,sg,h];cases b<;>rfl
def xi{l:bF}{g:Str}:(cW l g).isSome=true↔g∈l.ins.map (·.1):=by
 unfold cW;rw[NT]
 constructor
 ·intro h;obtain⟨x,b⟩:=sT.mp h;have c:=OX b;show kw.mpr {x,J_ b,n_ c}
 ·intro h;obtain⟨x,b,e⟩:=kw.mp h;show OF.mpr {x,b,k_ e}
def zu{cm:List (Str×List (Str×Str))}{g c:Str}{j:List (Str×Str)}:dC (pi cm g j) c=if c=g then j else dC cm c:=by
 unfold pi
 split
 ·next h=>induction cm with|nil=>cases h|cons y r i=>
   by_cases e:y.1=g
   ·rw[m3,hY e]
    by_cases b:c=g
    ·rw[hY b];unfold dC;rw[rf (by simp[e,b])];rfl
    ·rw[h_ b];have ne:¬y.1=c:=λz=>b (by rw[<-z,e]);have q:∀q:List (Str×List (Str×Str)),dC (q.map λx=>if x.1=g then(x.1,j)else x) c=dC q c:=λq=>by induction q with|nil=>rfl|cons z q k=>
       unfold dC at k⊢;rw[m3]
       by_cases d:z.1=c
       ·rw[h_ λw=>b (by rw[<-d,w]),rf (by simp[d]),rf (by simp[d])]
       ·rw[pv (by split<;>simp[d]),pv (by simp[d])];show k
     have l:=q r;unfold dC at l⊢;rw[pv (by simp[ne]),pv (by simp[ne])];show l
   ·rw[yl,lm e,Bool.false_or]at h;have i:=i h;rw[m3,h_ e]
    by_cases f:y.1=c
    ·rw[h_ λz=>e (by rw[f,z])];unfold dC;rw[rf (by simp[f]),rf (by simp[f])]
    ·unfold dC at i⊢;rw[pv (by simp[f]),pv (by simp[f])];show i
 ·next h=>
  unfold dC;rw[OG]
  by_cases e:c=g
  ·subst e;rw[hY (),OB.mpr λx m z=>h (Oa.mpr (x,m,z,))];rw[rf (by simp)];rfl
  ·rw[h_ e,pv (by simp[oi e]),List.find?_nil,Ou]
def yn(c:List (Str×Str×Str))(nm:Str):Option (Str×Str):=(c.find? λr=>decide (r.1=nm)).map (·.2)
def xT(g:Str)(c:List (Str×Str×Str))(l:bF):List (Str×Str×Str):=if(cW l g).isSome=true then[]else(yn c l.nm).toList.map λr=>(g,r)
def xG(g:Str)(c:List (Str×Str×Str))(l:bF):bF:={l with ins:=l.ins++xT g c l}
def oJ{c:List (Str×Str×Str)}{r:Str×Str×Str}{nm:Str}:yn (c++[r]) nm=(yn c nm).or (if r.1=nm then some r.2 else none):=by unfold yn;rw[OG];cases c.find? λr=>decide (r.1=nm)with|some x=>rfl|none=>
  by_cases e:r.1=nm
  ·rw[hY e,rf (by simp[e])];rfl
  ·rw[h_ e,pv (by simp[e])];rfl
def tF{c:List (Str×Str×Str)}{nm:Str}(h:nm∉c.map (·.1)):yn c nm=none:=by unfold yn;rw[OB.mpr λx b z=>h (kw.mpr {x,b,n_ z})];rfl
def uD{g:Str}{c:List (Str×Str×Str)}{l:bF}(h:xT g c l=[]):xG g c l=l:=by unfold xG;rw[h,n7]
def Hx{g:Str}{c:List (Str×Str×Str)}{r:Str×Str×Str}{l:bF}(h:r.1≠l.nm):xG g (c++[r]) l=xG g c l:=by unfold xG xT;rw[oJ,h_ h,Ou]
def Hw{g:Str}{ss:List (Str×Str×Str)}(l:bF):xT g ss l=[]\/∃r,xT g ss l=[(g,r)]/\g∉l.ins.map (·.1):=by unfold xT;cases e:(cW l g).isSome with|true=>show .inl ()|false=>cases yn ss l.nm with|none=>show .inl ()|some r=>show .inr {r,(),λz=>by rw[xi.mpr z]at e;cases e}
structure iW(g:Str)(ss:List (Str×Str×Str))(M M':bn):Prop where
 p:M'.p=M.p
 salt:M'.salt=M.salt
 trs:M'.trs=M.trs
 las:M'.las=M.las.map (xG g ss)came:dC M'.came g=dC M.came g++cF M g ss
 cm:M'.came=(cF M g ss).foldl (λc r=>pi c g (dC c g++[r])) M.came
 oth:∀g',g'≠g->dC M'.came g'=dC M.came g'
def iW.refl(g:Str)(M:bn):iW g [] M M:={(),(),(),by have:xG g []=id:=funext λl=>uD (by unfold xT;split<;>rfl);rw[this,List.map_id],by rw[show cF M g []=[]from (),n7],(),λ_ _=>()}
def iW.names{g:Str}{d:List (Str×Str×Str)}{M c:bn}(h:iW g d M c):c.las.map bF.nm=M.las.map bF.nm:=by rw[h.las,tA];rfl
def jy.vis{g:Str}{i:List (Str×Str×Str)}{M d:bn}{c:Nat}(h:jy M c)(v:iW g i M d)(hg:xY g)(h1:∀x∈d.came,x.2.length<=10*c+4)(h2:d.came.length<=10*c+4):jy d (c+1):=by
 have j:=v.names;show{by rw[v.p];show h.p,by rw[j];show h.ln,by rw[v.trs];show h.tn,λl m=>?_,λt b=>?_,λx f=>by have:=h1 x f;lia,by rw[v.las,b_];show h.l4,by rw[v.trs];show h.tc,by lia,λt b=>by rw[v.trs]at b;show rr (h.br t b)}
 ·rw[v.las]at m;obtain⟨l,hm,rfl⟩:=kw.mp m;have k:=h.la l hm;have own:∀k z,z∈l.S.pl k->k=cH "" ""\/∃t∈d.trs,t.home=l.nm/\∃y∈t.arms,k=cH t.nm y:=by rw[v.trs];show k.own
  rcases Hw (g:=g) (ss:=i) l with e|⟨r,e,hn⟩
  ·rw[uD e];show{k.wd,by rw[v.p];show k.sl,by rw[v.p];show k.ok,rr k.len,k.gs,k.nd,own}
  ·unfold xG;rw[e];show{k.wd,by rw[v.p];show k.sl,by rw[v.p];show k.ok,by change(_++[_]).length<=c+1;rw[hQ];show r4 k.len,λx f=>?_,?_,own}
   ·rcases List.mem_append.mp f with q|q
    ·show k.gs x q
    ·rw[List.mem_singleton.mp q];show hg
   ·change((_++[(g,r)]).map (·.1)).Nodup;rw[hF,oa];show{k.nd,by simp,λx f z n e=>hn (by rw[<-show z=g from List.mem_singleton.mp n,<-e];show f)}
 ·rw[v.trs]at b;have k:=h.tr t b;show{k with hm:=by rw[j];show k.hm}
def iW.row{g:Str}{m:List (Str×Str×Str)}{M d:bn}(v:iW g m M d)(hn:(M.las.map bF.nm).Nodup){i:Nat}{l:bF}{r:Str×Str}{cm:List (Str×List (Str×Str))}(h:M.las[i]?=some l)(s:yn m l.nm=none){b:Bool}(o:(cW l g).isSome=b)(hc:dC cm g=dC d.came g++if b=true then[]else[r])(t:∀f,f≠g->dC cm f=dC d.came f)(u:cm=(if b=true then[]else[r]).foldl (λc r=>pi c g (dC c g++[r])) d.came):iW g (m++[(l.nm,r)]) M {d.setL i {l with ins:=l.ins++if b=true then[]else[(g,r)]}with came:=cm}:=by
 show{v.p,v.salt,v.trs,?_,?_,?_,λf n=>(t f n).trans (v.oth f n)}
 ·show z7 λj=>?_;rw[g8];change(d.las.set i _)[j]?=_
  by_cases q:i=j
  ·subst q;rw[x_ (by rw[v.las,b_];show(d_.mp h).1),h];show p_ some ?_;unfold xG xT;rw[oJ,s,hY (),o];cases b<;>rfl
  ·rw[q_ q,v.las,g8];cases e:M.las[j]?with|none=>rfl|some k=>show p_ some (Hx λz=>q (Bk hn h e z)).symm
 ·change dC cm g=_;rw[hc,v.came,wz (r:=(l.nm,r)) ((uF hn h).trans o),z8]
 ·change cm=_;rw[wz (r:=(l.nm,r)) ((uF hn h).trans o),z5,<-v.cm,u]
def iW.one{g:Str}{c:List (Str×Str×Str)}{M M1 M2:bn}(h1:iW g c M M1)(h2:iW g c M M2):M1=M2:=by cases M1;cases M2;obtain⟨rfl,rfl,rfl,rfl,_,rfl,_⟩:=h1;obtain⟨rfl,rfl,rfl,rfl,_,rfl,_⟩:=h2;rfl
structure Mj(M:bn)(g:Str)(ms:List (Str×Int))(ls:List bF)(ss:List (Str×Str×Str)):Prop where
 nd:(ss.map (·.1)).Nodup
 nm:∀r∈ss,r.1∈ls.map bF.nm
 at_:∀(j:Nat)(r:Str×Str×Str),ss[j]?=some r->∃l∈ls,r.1=l.nm/\u3 M g ms l (x5 M g (ss.take j)) r.2
 seat:∀l∈ls,cW l g≠none->yn ss l.nm=cW l g
 all:ls.filterMap (λl=>(yn ss l.nm).map λr=>(l.nm,r))=ss
def ju.ok{M:bn}{g:Str}{t:List (Str×Int)}{ls:List bF}{c:List (Str×Str×Str)}(h:ju M g t ls c):(ls.map bF.nm).Nodup->Mj M g t ls c:=by
 induction h with|nil=>showλ_=>{.nil,λr i=>(nomatch i),λj r e=>(nomatch e),λl A=>(nomatch A),()}|@skip ls c l h hn _ p=>
  intro hd;rw[hF,oa]at hd;have k:=p hd.1;have no:yn c l.nm=none:=tF λz=>by obtain⟨r,i,e⟩:=kw.mp z;show hd.2.2 _ (k.nm r i) l.nm (List.mem_singleton.mpr ()) e
  show{k.nd,λr i=>by rw[hF];show ol _ (k.nm r i),λj r e=>let⟨b,h1,h2⟩:=k.at_ j r e;{b,ol _ h1,h2},λb d m=>?_,?_}
  ·rcases List.mem_append.mp d with q|q
   ·show k.seat b q m
   ·rw[List.mem_singleton.mp q]at m;show absurd hn m
  ·rw[so,k.all,sg,no];show n7 _|@row ls c l r h i p=>
  intro hd;rw[hF,oa]at hd;have k:=p hd.1;have ne:∀u∈ls.map bF.nm,u≠l.nm:=λu h' e=>hd.2.2 _ h' l.nm (List.mem_singleton.mpr ()) e;have no:yn c l.nm=none:=tF λz=>by obtain⟨r,i,e⟩:=kw.mp z;show ne _ (k.nm r i) e
  have oth:∀b∈ls,yn (c++[(l.nm,r)]) b.nm=yn c b.nm:=λb d=>by rw[oJ,h_ λe=>ne _ (kw.mpr {b,d,()}) e.symm,Ou]
  have own:yn (c++[(l.nm,r)]) l.nm=some r:=by rw[oJ,no,hY ()];rfl
  show{?_,λx s=>?_,λj x e=>?_,λb d m=>?_,?_}
  ·rw[hF,oa];show{k.nd,by simp,λx s z B e=>?_};obtain⟨y,C,rfl⟩:=kw.mp s;show ne _ (k.nm y C) (e.trans (List.mem_singleton.mp B))
  ·rw[hF];rcases List.mem_append.mp s with q|q
   ·show ol _ (k.nm x q)
   ·rw[List.mem_singleton.mp q];show nr _ (List.mem_singleton.mpr ())
  ·by_cases o:j<c.length
   ·rw[rc o]at e;rw[OS (tx o)];obtain⟨b,h1,h2⟩:=k.at_ j x e;show{b,ol _ h1,h2}
   ·have o:c.length<=j:=OO o;rw[y2 o]at e;have h0:j-c.length=0:=by cases q:j-c.length with|zero=>rfl|succ n=>rw[q]at e;cases e
    rw[h0]at e;obtain rfl:=iA e;have D:j=c.length:=by lia
    rw[D,OS (e_ _),iq (e_ _)];show{l,nr _ (List.mem_singleton.mpr ()),(),i}
  ·rcases List.mem_append.mp d with q|q
   ·rw[oth b q];show k.seat b q m
   ·rw[List.mem_singleton.mp q]at m⊢;rw[own];rcases i with e|⟨e,_⟩
    ·show e.symm
    ·show absurd e m
  ·rw[so,sg,own,show ls.filterMap (λb=>(yn (c++[(l.nm,r)]) b.nm).map λr=>(b.nm,r))=c from ?_]
   ·rfl
   ·show Eq.trans ?_ k.all;have v:∀f:bF->Option (Str×Str×Str),ls.filterMap f=(ls.map f).filterMap id:=λf=>by rw[List.filterMap_map];rfl
    rw[v,v,M_ λb d=>by rw[oth b d]]
inductive FX(P:O4)(w:World)(K:OZ)(a:gz)(vs:List V)(H:Hp)(Q:VK)(E:XK):Prop|mk(M:bn)(Z:ZS)(c:Nat)(g:Str)(mv:V)(ms:List (Str×Int))(_:vs=[.ref (Z.G .hh),.str g,mv])(_:ck P w K a H M Z c)(_:c<=63)(_:xY g)(_:qQ K H ms mv)(_:ms.length<=8)(_:∀(r:Addr)(us:List V)(ss:List (Str×Str×Str))(M':bn)(Z':ZS)(H':Hp),ju M g ms M.las ss->iW g ss M M'->gS H M Z H' M' Z'->ck P w K a H' M' Z' (c+1)->H r=none->H' r=some (.lst us)->Z'.ds=Z.ds->eV K H' us ss->¬eY M' Z' r->Q (.ref r) H')
inductive JD(P:O4)(w:World)(K:OZ)(a:gz)(H:Hp)(M:bn)(Z:ZS)(c:Nat)(g:Str)(mv:V)(r:Addr)(us:List V)(ss:List (Str×Str×Str))(k:Nat)(σ:St)(H':Hp):Prop|mk(M':bn)(Z':ZS)(v4 v5 v6 v7:Option V)(v:iW g (ss.take k) M M')(hG:bB P w K a H' M' Z')(etk:Z'.tk=Z.tk)(eow:Z'.ow=Z.ow)(eds:Z'.ds=Z.ds)(hcm:∀x∈M'.came,x.2.length<=10*c+k)(hcl:M'.came.length<=10*c+k)(st:gS H M Z H' M' Z')(nF:¬eY M' Z' r)(hr:H' r=some (.lst us))(hs:eV K H' us ss)(e:σ=[some (.ref (Z.G .hh)),some (.str g),some mv,some (.ref r),v4,v5,v6,v7]):JD P w K a H M Z c g mv r us ss k σ H'
section
def pE(T:Txt K mg a):aP P w K mg base cV 10 a.c8.x a.c8.d ["self","guest","marks"] (FX P w K a):=by
 show T.c8.ok cJ λe4 A outer s H vs Q E hr h=>?_
 ·obtain⟨M,Z,c,g,mv,ms,rfl,W,hc,hg,hm,el,q⟩:=h;show{_,(ag (bj 3 cJ.nd (aZ (Y 0) T.au T.bw.m ((iL (P:=P) (w:=w) T).mono (by decide)) hr T.bw.b .nil aV (ac (Y 1) (ac (Y 2) O)))) (ag (dP np () (cO K () (Y 3)) (fC K () () (bh (oA 4 cJ.nd) (bh (oA 5 cJ.nd) (bh (oA 6 cJ.nd) fB)))) (ag (bj 7 cJ.nd (dy (ce hr) (aH K () (Y 0)) (Y 4) (λ_ _=>()))) (ah (aM (n6 (qg (ce hr) (Y 1) (aH K () (Y 7))) ()) (ag (jf (bx (ac (Y 5) (ac (Y 6) O))) (lr (aH K () (Y 7)) (Y 1) (p9 (ce hr)))) (ah (jf (aA Ab (ue (ce hr) (aH K () (Y 0)) (Y 1) (be O) {(),(),(),()}) (be (ac (bx (ac (Y 5) (ac (Y 6) O))) O))) (lr (aH K () (Y 0)) (Y 1) (p9 (ce hr)))))) aD)))) (ah (aB (Y 3))))),?_}
  show jw W.g.house () () (U () (U () {M,Z,c,g,mv,ms,(),W,hc,hg,hm,el,λr us H1 s1 hr c4 ss aa hA c5=>aq ?_}));have da:=hA.ok W.ok.ln;have c5:us.length<=4:=by rw[Paired.length aa];show c5
  have eo:¬eY M Z r:=W.g.foot hr;show U () {r,(),{_,aR.of c4},?_};show gn (xs:=us) (JD P w K a H M Z c g mv r us ss) {M,Z,_,_,_,_,iW.refl g M,W.g.same s1,(),(),(),W.ok.cm,W.ok.cl,gS.of s1,eo,c4,aa,()} (λk σ H' _ h=>by obtain⟨_,_,_,_,_,_,_,_,_,_,_,_,_,_,_,h,_⟩:=h;show aR.of h) ?_ ?_
  ·rintro k v σ H2 hv⟨M2,f,v4,v5,v6,v7,v2,F,a7,a8,ad,an,dc,ap,X,as,L,rfl⟩N R B hN;have hk:k<us.length:=(d_.mp hv).1;obtain⟨⟨nm,t,y⟩,di,b,rfl,hb⟩:=Paired.at_ L k v hv;obtain⟨l,ep,en,e9⟩:=da.at_ k _ di;obtain rfl:nm=l.nm:=en;obtain⟨i,hl⟩:=i_.mp ep;have bt:ss.take (k+1)=ss.take k++[(l.nm,t,y)]:=bP di;have bz:yn (ss.take k) l.nm=none:=tF λz=>by have nd:=da.nd;rw[<-si (k+1) ss,bt,hF,hF]at nd;show(oa.mp (oa.mp nd).1).2.2 _ z l.nm (List.mem_singleton.mpr ()) ()
   show{b,U () {hb,(),_,U () (aq {_,U () (aq {_,U () (aq {(),?_})})})}};have I:M2.las[i]?=some l:=by rw[v2.las,g8,hl];show p_ some (uD (by unfold xT;rw[bz];split<;>rfl))
   have dv:f.G .hh=Z.G .hh:=ap.hh;have dA:=F.house;have dT:=F.lays;have dV:bg (iR (M2.las.map bF.nm) λi=>V.ref (f.G (.lo i))) (.inr l.nm)=some (.ref (f.G (.lo i))):=sL (by rw[v2.names];show W.ok.ln) (by rw[g8,I];rfl);rw[dv]at dA;show gE dA T.au T.aQ () () (U () (rG (.ref (f.G (.lo i))) (by rw[<-dV];show dF.k (k:=.inr l.nm) dT) (aq ?_)));have d4:=F.layer I;have d5:=F.inside I;show U () (gE d4 T.bH T.bE () () (rG (bg (f.iv i) (.inr g)) (dF.k (k:=.inr g) d5) (U () ?_)));have bA:=F.seats i _ I
   by_cases ba:g∈l.ins.map (·.1)
   ·rw[bA.some ba];have er:(cW l g).isSome=true:=xi.mpr ba;show bW (hN _ _ {M2,f,_,_,_,_,?_,F,a7,a8,ad,λx hx=>by have:=an x hx;lia,by lia,ap,X,as,L,()});have v3:=v2.row (r:=(t,y)) (cm:=M2.came) W.ok.ln hl bz er (by rw[hY (),n7]) (λ_ _=>()) ();rw[hY (),n7]at v3;rw[bt];have e3:({M2.setL i {l with ins:=l.ins}with came:=M2.came}:bn)=M2:=by change{M2 with las:=M2.las.set i l}=M2;rw[yk I]
    show e3▸v3
   ·have ax:=bA.none ba;rw[ax];show bG (U () (U () {ls (),λT1 es=>?_}));show gT es λH3 s3 e3=>?_;have bO:=F.same s3;have fa:(f.iv i).length<=100:=by rw[bA.len];have:=(W.ok.la l (gV hl)).len;lia
    show gE (s3 _ _ d4) T.bH T.bE () () (U () {f.G (.iu i),_,.inr g,(),(),s3 _ _ d5,by rw[ig];lia,?_});rw[pj _ ax];have J:bB P w K a (aG H3 (f.G (.iu i)) (.dK (f.iv i++[(.inr g,.ref T1)]))) (M2.setL i {l with ins:=l.ins++[(g,t,y)]}) {f with iv:=λj=>if j=i then f.iv i++[(.inr g,.ref T1)]else f.iv j}:=bO.setIns (iv':=f.iv i++[(.inr g,.ref T1)]) (ins':=l.ins++[(g,t,y)]) I (Paired.snoc (bO.seats i _ I) {(),T1,(),a0.of e3});have d9:=(d_.mp I).1;have a2:gS H3 M2 f (aG H3 (f.G (.iu i)) (.dK (f.iv i++[(.inr g,.ref T1)]))) (M2.setL i {l with ins:=l.ins++[(g,t,y)]}) {f with iv:=λj=>if j=i then f.iv i++[(.inr g,.ref T1)]else f.iv j}:=gS.put (show i<_ from d9) () (w1 ..) () () λx hx=>.inl hx;have b0:=bO.imm (r:=.iu i) (by simp only[cont,I];rfl) (cN (o':=.dK (f.iv i++[(.inr g,.ref T1)])));have b8:=cN (x:=f.G (.iu i)) (o':=.dK (f.iv i++[(.inr g,.ref T1)])) _ _ (s3 _ _ as) λz=>X (.inl {.iu i,d9,z});have b9:¬eY (M2.setL i {l with ins:=l.ins++[(g,t,y)]}) {f with iv:=λj=>if j=i then f.iv i++[(.inr g,.ref T1)]else f.iv j} r:=λz=>(a2.fp r z).elim X λz=>by rw[s3 _ _ as]at z;cases z
    have eu:=b0.kp.tq (K:=K) (a0.of e3);have bl:=(L.kp (.of s3)).kp b0.kp;generalize bb:M2.setL i {l with ins:=l.ins++[(g,t,y)]}=M4 at J a2 b9;generalize a3:({f with iv:=λj=>if j=i then f.iv i++[(.inr g,.ref T1)]else f.iv j}:ZS)=C at J a2 b9;have a5:C.G=f.G:=by rw[<-a3]
    have e0:C.cv=f.cv:=by rw[<-a3]
    have ea:C.tk=f.tk:=by rw[<-a3]
    have eb:C.ow=f.ow:=by rw[<-a3]
    have ec:C.ds=f.ds:=by rw[<-a3]
    have D:M4.came=M2.came:=by rw[<-bb]
    generalize aG H3 (f.G (.iu i)) (.dK (f.iv i++[(.inr g,.ref T1)]))=H4 at J a2 b0 b8 eu bl⊢;have cc:=J.house;rw[a5,dv]at cc;have bc:=J.cams;rw[a5]at bc;show gE cc T.au T.cY () () {f.G .ci,(),.inl {_,.inl bc},U () {ls (),λl0 ew=>?_}};show gT ew λH5 s5 e5=>?_;show{bg C.cv (.inr g),dF.k (k:=.inr g) (s5 _ _ bc),_,(),U () {ls (),λS ey=>{ls (),λl1 ed=>?_}}};have s7:=aj (o:=.lst [.ref S]) (aj (o:=.tup [.str t,.str y]) (am.refl H5) ey) ed;have e7:aG (aG H5 S (.tup [.str t,.str y])) l1 (.lst [.ref S]) l1=some (.lst [.ref S]):=ae;have e6:aG (aG H5 S (.tup [.str t,.str y])) l1 (.lst [.ref S]) S=some (.tup [.str t,.str y]):=by rw[ak (av ae ed)];show ae
    generalize aG (aG H5 S (.tup [.str t,.str y])) l1 (.lst [.ref S])=H7 at s7 e6 e7⊢;have bi:=s5.trans s7;obtain⟨ll,p,u,ef,ev,ez,eh,fl⟩:∃ll p u,u=dC M4.came g/\(bg C.cv (.inr g)).getD (.ref l0)=.ref ll/\H7 ll=some (.lst p)/\fM K H7 p u/\u.length<=10*c+k:=by
     rcases J.came.find g with⟨e,e'⟩|⟨eA,eB,e,_,h2,h3,h4⟩
     ·show{l0,[],[],e'.symm,by rw[e];rfl,s7 _ _ e5,.nil,by simp}
     ·have h5:=h4;rw[D]at h5;have:=an _ h5;show{eA,eB,U () {by rw[e];rfl,bi _ _ h2,h3.kp (.of bi),by rw[D];show this}}
    have e1:p.length=u.length:=Paired.length eh;rw[ev];show{ll,l1,p,[.ref S],(),(),ez,e7,by rw[ig];simp;lia,λlp c2=>?_};have s8:=aj (o:=.lst (p++[.ref S])) bi c2;have e8:aG H7 lp (.lst (p++[.ref S])) lp=some (.lst (p++[.ref S])):=ae;have ei:fM K (aG H7 lp (.lst (p++[.ref S]))) (p++[.ref S]) (u++[(t,y)]):=fM.kp (Kp.new c2) (Paired.snoc eh {S,(),a0.of e6});have a6:H4 lp=none:=bi.free c2;generalize aG H7 lp (.lst (p++[.ref S]))=H8 at s8 e8 ei⊢;have c3:=J.same s8;have e2:C.cv.length<=10*c+k:=by have:=Paired.length J.came;rw[this,D];show dc
    show gE (s8 _ _ cc) T.au T.cY () () (U () {f.G .ci,_,.inr g,(),(),s8 _ _ bc,by rw[ig];lia,?_});have eC:lp≠C.G .dl:=λz=>by rw[z,J.dees]at a6;cases a6
    have eD:bB P w K a (aG H8 (f.G .ci) (.dK (fA C.cv (.inr g) (.ref lp)))) {M4 with came:=pi M4.came g (u++[(t,y)])} {C with cv:=fA C.cv (.inr g) (.ref lp)}:=by rw[show f.G .ci=C.G .ci by rw[a5]];show c3.setCame (c3.came.put (g:=g) eC e8 ei)
    have ej:=c3.imm (r:=.ci) () (cN (o':=.dK (fA C.cv (.inr g) (.ref lp))));rw[a5]at ej;have ek:gS H4 M4 C (aG H8 (f.G .ci) (.dK (fA C.cv (.inr g) (.ref lp)))) {M4 with came:=pi M4.came g (u++[(t,y)])} {C with cv:=fA C.cv (.inr g) (.ref lp)}:=by
     show{(),λb o e n=>by rw[ak λz=>n (.inl {.ci,trivial,by rw[a5];show z})];show s8 b o e,λb z=>?_,λb z=>s8.free (mj z),()};rcases z with z|z|⟨x,hx,e⟩
     ·show .inl (.inl z)
     ·show .inl (.inr (.inl z))
     ·rcases DV hx with q|q
      ·show .inl (.inr (.inr (x,q,e,)))
      ·rw[q]at e;cases e;show .inr a6
    have v9:iW g (ss.take (k+1)) M {M4 with came:=pi M4.came g (u++[(t,y)])}:=by
     rw[bt,<-bb];show v2.row (r:=(t,y)) W.ok.ln hl bz (b:=false) ?_ ?_ (λg' n=>?_) ?_
     ·cases e:(cW l g).isSome with|false=>rfl|true=>show absurd (xi.mp e) ba
     ·rw[zu,hY (),ef,<-bb];rfl
     ·rw[zu,h_ n]
     ·rw[ef,<-bb];rfl
    have eG:=(ap.trans (gS.of s3)).trans (a2.trans ek);have eH:aG H8 (f.G .ci) (.dK (fA C.cv (.inr g) (.ref lp))) r=some (.lst us):=by rw[ak λz=>X (.inl {.ci,trivial,z})];show s8 _ _ b8
    show hN _ _ {_,{C with cv:=fA C.cv (.inr g) (.ref lp)},_,_,_,_,v9,eD,ea.trans a7,eb.trans a8,ec.trans ad,λx hx=>?_,?_,eG,λz=>(ek.fp r z).elim b9 (λz=>by rw[b8]at z;cases z),eH,(bl.kp (.of s8)).kp ej.kp,()}
    ·rcases DT hx with q|q
     ·rw[D]at q;have:=an x q;lia
     ·rw[q,hQ];simp;lia
    ·have:=DU (cm:=M4.came) (g:=g) (ss:=u++[(t,y)]);rw[D]at this;change(pi M4.came g (u++[(t,y)])).length<=_;rw[D];lia
  ·rintro σ H2⟨M2,f,v4,v5,v6,v7,v2,F,a7,a8,ad,an,dc,ap,X,as,L,rfl⟩;rw[Paired.length aa,iq (e_ _)]at v2;show U () (q r us ss M2 f H2 hA v2 ap {F,W.ok.vis v2 hg (λx hx=>by have:=an x hx;omega) (by omega),λj=>by rw[a7];have:=W.tk j;omega,λj=>by rw[a8];have:=W.ow j;omega,by rw[ad];have:=W.ds;omega} hr as ad L X)
end
inductive Gj(K:OZ)(g:Addr)(vs:List V)(H:Hp)(Q:VK)(_E:XK):Prop|mk(d:Addr)(k:Str)(xs:List V)(_:vs=[.ref d])(_:a0 K H d (.str k::xs))(_:(∃tk,PySem.W.nsIn K g k=some (some (.int ((xs.length:Int)+1) tk))))(_:Q .non H)
inductive Dz(K:OZ)(vs:List V)(H:Hp)(Q:VK)(_E:XK):Prop|mk(t d:Addr)(l:O5)(kvs:List (bV×V))(_:vs=[.ref t,.ref d])(_:a0 K H t (l.map V.str))(_:H d=some (.dK kvs))(_:(∀x∈l,Wd x/\(bg kvs (.inr x)).isSome=true))(_:l.Nodup)(_:l.length<=8)(_:∀H',am H H'->Q .non H')
inductive Dy(P:O4)(w:World)(K:OZ)(a:gz)(vs:List V)(H:Hp)(Q:VK)(_E:XK):Prop|mk(z:Int)(M:bn)(Z:ZS)(_:vs=[.int z,.int M.p,.ref (Z.G .ln)])(_:bB P w K a H M Z)(_:M.las.length<=4)(_:0<=z)(_:z<=M.p)(_:z∉M.las.map bF.sl)(_:∀H',am H H'->Q .non H')
inductive Dw(K:OZ)(vs:List V)(H:Hp)(Q:VK)(_E:XK):Prop|mk(d ly tr ar sh:Addr)(ru:V)(x y:Str)(r:Ru)(ws l ss:O5)(lk tk:List (bV×V))(_:vs=[.ref d,.ref ly,.ref tr])(_:a0 K H d [.str "trial",.str x,.str y,.ref ar,ru,.ref sh])(_:Wd x)(_:Wd y)(_:H ly=some (.dK lk))(_:H tr=some (.dK tk))(_:bg tk (.inr x)=none)(_:(bg lk (.inr y)).isSome=true)(_:a0 K H ar (l.map V.str))(_:(∀w∈l,Wd w))(_:l.Nodup)(_:1<=l.length)(_:l.length<=4)(_:fG K H r ru)(_:r.hgt<=6)(_:r.cnt<=30)(_:j5 ws r)(_:(∀w∈ws,Wd w))(_:ws.length<=3)(_:a0 K H sh (ss.map V.str))(_:(∀x∈ss,Wd x/\(bg tk (.inr x)).isSome=true))(_:ss.Nodup)(_:ss.length<=8)(_:∀H',am H H'->Q .non H')
section
def vw(T:Txt K mg a)(f:w.params=a.pm):aP P w K mg base cV 1 a.ie.x a.ie.d ["deed"] (Gj K a.fH):=by
 show T.ie.ok vh λg A outer s H j Q E l h=>?_
 ·obtain⟨d,k,c,rfl,b,⟨tk,i⟩,q⟩:=h;show{_,(ag (aM (PW.pt (fI (ca (aO K () (ay (fi K ()) (by rfl) T.bf L2.aT (ac (Y 0) (ac (iJ () T.dL L2.bK) O))) (λ_=>()))) (dO (aC aW (ay (aI K ()) (by rfl) T.bq L2.aK (ac (Y 0) O)) af (aE _))))) (ah cr) aD) (ah (aM (PW.pt (fI (ca (aO K () (ay (kQ K ()) (by rfl) T.bf L2.aT (ac (dh K (Y 0) af) (ac (iJ () T.HP L2.zy) O))) (λ_=>()))) (dO (aC HM (GC K () (MS f T.Aq) () T.Cn (dh K (Y 0) af) {(),(),(),()}) (ay (aI K ()) (by rfl) T.bq L2.aK (ac (Y 0) O)) (aE _))))) (ah cr) aD))),?_}
  show U () {_,"tuple",_,true,(),.inr {d,U () {b,()}},dQ (dk ()),true,(),bW ?_};show U () {_,U () {.inr {_,b,()},(),U () (kJ (λh=>absurd h (by rw[m_];lia)) (λ_=>?_))}};show U () (rX b (ao (k:=0) ()) ?_);show{_,"str",_,true,(),.str k,dQ (dk ()),true,(),bW ?_};show U () (rX b (ao (k:=0) ()) {k,U () {i,.inr {_,.int ((c.length:Int)+1),(),{tk,()},?_}}});show U () {_,U () {.inr {_,b,()},(),U () ?_}};have e:decide (V.int ((c.length:Int)+1)=V.int (((V.str k::c).length:Nat):Int))=true:=k_ (by simp);rw[e];show q
def um(T:Txt K mg a):aP P w K mg base cV 5 a.gt.x a.gt.d ["thing","trials"] (Dz K):=by
 show T.gt.ok jb λW A outer s H vs Q E X h=>?_
 ·obtain⟨t,d,l,B,rfl,b,hd,Z,C,h8,q⟩:=h;show{_,(ag (aM (PW.pt (fI (ca (aO K () (ay (fi K ()) (by rfl) T.bf L2.aT (ac (Y 0) (ac (iJ () T.dL L2.bK) O))) (λ_=>()))) (dO (aC mh (ay (aI K ()) (by rfl) T.bq L2.aK (ac (Y 0) O)) (cD T.xP ()) (aE _))))) (ah cr) aD) (ah (dP np () (GB K () () T.yY (ac (Y 0) O)) (fC K () () (bh (oA 2 jb.nd) (bh (oA 3 jb.nd) fB))) (ag (aJ (pc T.bN (dz T) X (ac (Y 3) (ac (Y 1) O)))) (ah (aM (aC (qi K ()) (Y 3) (gG (AR K ()) (Y 0) iY (iX (Y 2))) (by with_unfolding_all rfl)) (ah cr) aD)))))),?_}
  show U () {_,"tuple",_,true,(),.inr {t,U () {b,()}},dQ (dk ()),true,(),bW ?_};show U () {_,l.length,(),.inr {_,b,by simp},_,U () {(),U () (jk (λh=>absurd h (by lia)) (λ_=>?_))}};show U () {t,U () {b,?_}};show EZ (n:=l.length) (λk j H'=>am H H'/\(Mi λD F=>j=[some (.ref t),some (.ref d),D,F])) {am.refl H,_,_,()} (λk j H' L h=>{_,.str l[k],am.tseq h.1 b,by rw[g8,g6 L];rfl}) ?_ ?_
  ·rintro k j m v H2 L⟨c,D,F,rfl⟩⟨r,x,G,rfl,rfl,y⟩;have y:=y _ (am.tseq c b);rw[g8]at y;obtain⟨z,M,rfl⟩:=Option.map_eq_some_iff.mp y;have I:=aj (o:=.tup [.int k,.str z]) c G;have N:aG m r (.tup [.int k,.str z]) r=some (.tup [.int k,.str z]):=ae;generalize aG m r (.tup [.int k,.str z])=H2 at I N⊢;show{r,U () {a0.of N,(),_,U () (aq {_,U () (aq {(),?_})})}};have f:=Z z (gV M);show U () (U () {z,d,B,(),f.1,I _ _ hd,f.2,λH3 s3=>?_});have g:=I.trans s3;show U () (U () (U () (U () {t,U () {am.tseq g b,?_,λp hp=>?_}})))
   ·rintro⟨_,e⟩;rw[b_]at e;have e:(if(k:Int)<0 then((k:Int)+(l.length:Int)).toNat else min (k:Int).toNat l.length)=l.length:=e;rw[h_ (by lia)]at e;lia
   ·rw[AD _ (by lia)];show{p,U () {.inr (a0.of ae),(),?_,U () ?_}}
    ·rw[<-Ox];show mH _
    ·rw[<-Ox];have J:z∉l.take (k:Int).toNat:=λh=>by have:=C;rw[<-si k l,oa]at this;show this.2.2 z (by simpa using h) z (gV (i:=0) (by rw[OA,Nat.add_zero];show M)) ()
     have e:nO (.str z) ((l.take (k:Int).toNat).map V.str)=false:=by cases R:nO (.str z) ((l.take (k:Int).toNat).map V.str)with|false=>rfl|true=>unfold nO at R;obtain⟨v,hv,e⟩:=Oa.mp R;obtain⟨u,S,rfl⟩:=kw.mp hv;have e:(u==z)=true:=e;rw[eq_of_beq e]at S;show absurd S J
     change if(if false=true then _ else nO (.str z) ((l.take (k:Int).toNat).map V.str))=true then _ else _
     rw[h_ ji,e];show bW {(g.trans (aj (am.refl _) hp)),_,_,()}
  ·rintro j m⟨c,D,F,rfl⟩;show{{_,am.tseq c b,by rw[b_]},q m c}
def ul(T:Txt K mg a):aP P w K mg base cV 3 a.gq.x a.gq.d ["thing","prime","layers"] (Dy P w K a):=by
 show T.gq.ok tI λN A outer s H W Q E R h=>?_
 ·obtain⟨z,M,Z,rfl,J,h4,h0,h1,hn,q⟩:=h;show{_,(ag (aM (PW.pt (fI (ca (aO K () (pc T.fU (iK T) R (ac (Y 0) O)) (λ_=>()))) (dO (aC mh (Y 0) (Y 1) (aE _))))) (ah cr) aD) (ah (aM (aC (qi K ()) (Y 0) (zY (P:=P) (w:=w) (sC j6 ["layer"] [] [3] (ai jW) (cq 3) (Gy (P:=P) (w:=w) (Y 2)) (λcl C s₀ H₀ ex=>{(mL j6 ["layer"] 3),cp,(aH K () (Y 3))}))) (by with_unfolding_all rfl)) (ah cr) aD))),?_}
  show U () {z,(),h0,U () (bW ?_)};show U () (U () {z,M.p,(),(),U () (jk (λh=>absurd h (by lia)) (λ_=>?_))});have g:=J.lays;show U () (U () {Z.G .ln,U () {g,λL=>?_}});showλD t=>?_;have nd:Z.G .ln≠D:=λz=>by rw[<-z,ae]at t;cases t
  have r:H D=none:=by rw[ak (oi nd)]at t;show t
  show pQ (n:=M.las.length) (λk c u=>(∀b o,H b=some o->b≠Z.G .ln->u b=some o)/\u (Z.G .ln)=some (dE P w (Z.G .ln) (iR (M.las.map bF.nm) λi=>.ref (Z.G (.lo i))) L)/\u D=some (.lst c)/\c=((M.las.map bF.sl).take k).map V.int) {λb o e n=>by rw[ak (av e r),ak n];show e,by rw[ak nd,ae],ae,()} (λk c u v h=>{h.2.1,by rw[gL,b_];show v}) ?_ ?_
  ·rintro k c S x X v⟨y,f,j,rfl⟩⟨rfl,B⟩;have I:=g6 v;rw[uw,g8,I]at B;have B:V.ref (Z.G (.lo k))=x:=iA B;subst B;have m:=J.layer I;show aq (jv (bG (gE (y _ _ m (λz=>by rw[z,g]at m;cases m)) T.bH T.gN () () {j,by rw[b_,mo,ig];lia,lf v {λb o e n=>by rw[ak (av e r)];show y b o e n,by rw[ak nd];show f,ae,?_}})));rw[bP (l:=M.las.map bF.sl) (x:=(M.las[k]).sl) (by rw[g8,I];rfl),hF];rfl
  ·rintro c S⟨y,f,j,rfl⟩;show{{f,by rw[gL,b_];show e_ _},Z.G .ln,_,L,f,D,_,(),.inl (aR.of (by rw[ak (oi nd)];show j)),(),om _,_,(),?_};rw[iq (by rw[b_];show e_ _)];change if(if false=true then _ else nO (.int z) ((M.las.map bF.sl).map V.int))=true then _ else _
   rw[h_ ji,Bp,lm hn];show bW (q _ λb o e=>?_)
   by_cases F:b=Z.G .ln
   ·rw[F,g]at e;rw[F,ae];show e
   ·rw[ak F];show y b o e F
def uk(T:Txt K mg a):aP P w K mg base cV 12 a.gp.x a.gp.d ["deed","layers","trials"] (Dw K):=by
 show T.gp.ok tH λI A outer s H vs Q E f h=>?_
 ·obtain⟨d,J,tr,ar,sh,ru,x,y,r,L,l,M,lk,tk,rfl,g,N,R,k,i,j,m,n,h1,h2,h3,h4,o,p,t,u,v,z,B,C,D,F,q⟩:=h;show{_,(ag (aJ (pc T.ic (py T) f (ac (dh K (Y 0) af) (ac (Y 2) O)))) (ag (aJ (pc T.bN (dz T) f (ac (dh K (Y 0) af) (ac (Y 1) O)))) (ag (aJ (pc T.ii (vy T) f (ac (dh K (Y 0) af) O))) (ag (aJ (pc T.ib (vp T) f (ac (dh K (Y 0) af) O))) (ah (aJ (pc T.gt (um T) f (ac (dh K (Y 0) af) (ac (Y 2) O))))))))),?_}
  show U () (rX g () (U () {x,tr,tk,(),N,i,j,λH1 G=>?_}));show U () (rX (am.tseq G g) () (U () {y,J,lk,(),R,G _ _ k,m,λH2 S=>?_}));have c:=G.trans S;show U () (rX (am.tseq c g) () {ar,l,(),am.tseq c n,h1,h2,h3,h4,λH3 V=>?_});have e:=c.trans V;show U () (rX (am.tseq e g) () {r,ru,L,(),o.kp (.of e),p,t,u,v,z,λH4 W=>?_});have b:=e.trans W;show U () (rX (am.tseq b g) () (U () {sh,tr,M,tk,(),am.tseq b B,b _ _ i,C,D,F,λX Z=>q X (b.trans Z)}))
end
inductive Dd|layer(nm:Str)(sl:Int)|trial(x:cT)|share(t:cT)(ns:O_)|deal(t:cT)(z:Int)(ws:O_)|hold(l:bF)(z:Int)|pause(t:cT)(b:Bool)|close(t:cT)|bar(g:Str)(t:cT)|visit(g:Str)(ms:List (Str×Int))
def Dd.clo:Dd->Bool|.share t _=>t.clo|.deal t _ _=>t.clo|.pause t _=>t.clo|.close t=>t.clo|_=>false
inductive kT(K:OZ)(H:Hp)(M:bn):Dd->List V->Prop|layer{nm:Str}{sl:Int}(h1:Wd nm)(h2:nm∉M.las.map bF.nm)(h3:0<=sl/\sl<=M.p)(h4:sl∉M.las.map bF.sl)(h5:M.las.length<4):kT K H M (.layer nm sl) [.str "layer",.str nm,.int sl]|trial{x:cT}{ar sh ra:Addr}{ws:O5}(h1:Hy M x)(h2:x.nm∉M.trs.map cT.nm)(h3:a0 K H ar (x.arms.map V.str))(h4:fG K H x.rule (.ref ra))(h5:x.rule.cnt<=30)(h6:j5 ws x.rule)(h7:∀w∈ws,Wd w)(h8:ws.length<=3)(h9:a0 K H sh (x.shuts.map V.str))(ha:∀s∈x.shuts,s∈M.trs.map cT.nm)(hb:x.shuts.Nodup)(hc:x.pau=false)(hd:x.clo=false)(he:x.bar=[])(hf:M.trs.length<10):kT K H M (.trial x) [.str "trial",.str x.nm,.str x.home,.ref ar,.ref ra,.ref sh]|share{t:cT}{ns:O_}{nv:Addr}(h1:t∈M.trs)(h2:a0 K H nv (ns.map V.int))(h3:ns.length=t.arms.length)(h4:∀x∈ns,0<=x):kT K H M (.share t ns) [.str "share",.str t.nm,.ref nv]|deal{t:cT}{z:Int}{ws:O_}{wv:Addr}(h1:t∈M.trs)(hz:0<=z/\z<=1000)(h2:a0 K H wv (ws.map V.int))(h3:ws.length=t.arms.length)(h4:∀x∈ws,1<=x/\x<=cQ):kT K H M (.deal t z ws) [.str "deal",.str t.nm,.int z,.ref wv]|hold{l:bF}{z:Int}(h1:l∈M.las)(h2:0<=z):kT K H M (.hold l z) [.str "hold",.str l.nm,.int z]|pause{t:cT}(h1:t∈M.trs):kT K H M (.pause t true) [.str "pause",.str t.nm]|go{t:cT}(h1:t∈M.trs):kT K H M (.pause t false) [.str "go",.str t.nm]|close{t:cT}(h1:t∈M.trs):kT K H M (.close t) [.str "close",.str t.nm]|bar{g:Str}{t:cT}(h1:xY g)(h2:t∈M.trs):kT K H M (.bar g t) [.str "bar",.str g,.str t.nm]|visit{g:Str}{mv:V}{ms:List (Str×Int)}(h1:xY g)(h2:qQ K H ms mv)(h3:∀m∈ms,Wd m.1/\-cQ<=m.2/\m.2<=cQ)(h4:(ms.map Prod.fst).Nodup)(h5:ms.length<=8):kT K H M (.visit g ms) [.str "visit",.str g,mv]
theorem kT.kp(e:Kp H H')(h:kT K H M d c):kT K H' M d c:=by cases h with|layer h1 h2 h3 h4 h5=>show .layer h1 h2 h3 h4 h5|trial h1 h2 h3 h4 h5 b f g i j k hc hd l m=>show .trial h1 h2 (e.tq h3) (h4.kp e) h5 b f g (e.tq i) j k hc hd l m|share h1 h2 h3 h4=>show .share h1 (e.tq h2) h3 h4|deal h1 n h2 h3 h4=>show .deal h1 n (e.tq h2) h3 h4|hold h1 h2=>show .hold h1 h2|pause h1=>show .pause h1|go h1=>show .go h1|close h1=>show .close h1|bar h1 h2=>show .bar h1 h2|visit h1 h2 h3 h4 h5=>show .visit h1 (h2.kp e) h3 h4 h5
inductive xV(K:OZ)(H:Hp)(many:Nat):Str->List V->Prop|share{p:Addr}{l:O_}(h1:a0 K H p (l.map V.int))(h2:∀i∈l,0<=i)(h3:l.length=many):xV K H many "share" [.ref p]|deal{z:Int}{p:Addr}{l:O_}(hz:0<=z/\z<=1000)(h1:a0 K H p (l.map V.int))(h2:∀i∈l,1<=i/\i<=cQ)(h3:l.length=many):xV K H many "deal" [.int z,.ref p]|other{k:Str}(h1:k≠"share")(h2:k≠"deal"):xV K H many k []
inductive IG(P:O4)(w:World)(K:OZ)(a:gz)(vs:List V)(H:Hp)(Q:VK)(E:XK):Prop|mk(d:Addr)(M:bn)(Z:ZS)(c:Nat)(k:Str)(t:cT)(xs:List V)(_:vs=[.ref d,.ref (Z.G .tn)])(_:a0 K H d (.str k::.str t.nm::xs))(_:bB P w K a H M Z)(_:jy M c)(_:t∈M.trs)(_:xV K H t.arms.length k xs)(_:(t.clo=false->∀H',am H H'->Q .non H'))(_:(t.clo=true->∀H',am H H'->E (.ref a.va) none H'))
section
def vq(T:Txt K mg a):aP P w K mg base (vV P w) 5 a.fe.x a.fe.d ["deed","trials"] (IG P w K a):=by
 show T.fe.okE jU λF A outer s H N Q E n h=>?_
 ·obtain⟨d,M,Z,c,k,t,R,rfl,o,y,z,B,I,q,r⟩:=h;show{_,(ag (aJ (pc T.bN (dz T) n (ac (dh K (Y 0) af) (ac (Y 1) O)))) (ag (bj 2 jU.nd (dy (ce n) (Y 1) (dh K (Y 0) af) (λ_ _=>()))) (ag (bj 3 jU.nd (ay (aI K ()) (by rfl) T.bq L2.aK (ac (aH K () (Y 2)) O))) (ag (aM (aC aW (dh K (Y 0) af) aF (aE _)) (ah (aJ (pc T.fE (r9 T) n (ac (dh K (Y 0) af) (ac (Y 3) O))))) (ah (aM (aC aW (dh K (Y 0) af) aF (aE _)) (ah (aJ (pc T.eQ (qj T) n (ac (dh K (Y 0) af) (ac (dh K (Y 0) af) (ac (Y 3) O)))))) aD))) (ah (aM (aO K () (aH K () (Y 2)) (λ_=>())) (ah (yE T.wN () T.y8 () yC (ac aF O))) aD)))))),?_}
  obtain⟨j,u⟩:=i_.mp B;have l:=z.tr t B;have C:=z.tget (Z:=Z) u;have J:=l.a4;show U () (rX o (ao (k:=1) ()) (U () {t.nm,Z.G .tn,_,(),l.wd,y.tris,by rw[C];rfl,λD e=>?_}));have g:=y.same e;have p:=g.trial u;obtain⟨v,-,-⟩:=g.trs j t u;show U () (U () (rX (am.tseq e o) (ao (k:=1) ()) (rG (.ref (Z.G (.tr j))) (by rw[<-C];show dF.k (k:=.inr t.nm) g.tris) (aq ?_))));show gE p T.a9 T.eO () () {_,t.arms.length,(),.inr {_,v,by simp},aq ?_};show U () (rX (am.tseq e o) (ao (k:=0) ()) {(),U () ?_});have f:=am.tseq e o;cases I with
 |share h1 h2 h3=>
   show bZ ?_;show U () (rX f (ao (k:=2) ()) (U () {_,_,by rw[h3];rfl,am.tseq e h1,h2,by lia,λm i=>?_}));show gE (i _ _ p) T.a9 T.eJ () () {t.clo,(),?_};cases b:t.clo
   ·show bW (q b m (e.trans i))
   ·show bG {ls (),r b m (e.trans i)}|deal L h1 h2 h3=>
   show wn ?_;show U () (rX f (ao (k:=0) ()) {(),U () (bZ ?_)});show U () (rX f (ao (k:=2) ()) (U () (rX f (ao (k:=3) ()) (U () {_,_,_,by rw[h3];rfl,L,am.tseq e h1,h2,by lia,λm i=>?_}))));show gE (i _ _ p) T.a9 T.eJ () () {t.clo,(),?_};cases b:t.clo
   ·show bW (q b m (e.trans i))
   ·show bG {ls (),r b m (e.trans i)}|other h1 h2=>
   show sH h1 ?_;show U () (rX f (ao (k:=0) ()) {(),U () (sH h2 ?_)});show gE p T.a9 T.eJ () () {t.clo,(),?_};cases b:t.clo
   ·show bW (q b D e)
   ·show bG {ls (),r b D e}
end
inductive Gk(P:O4)(w:World)(K:OZ)(a:gz)(vs:List V)(H:Hp)(Q:VK)(E:XK):Prop|mk(dv:Addr)(M:bn)(Z:ZS)(c:Nat)(d:Dd)(xs:List V)(_:vs=[.ref dv,.int M.p,.ref (Z.G .ln),.ref (Z.G .tn)])(_:a0 K H dv xs)(_:bB P w K a H M Z)(_:jy M c)(_:kT K H M d xs)(_:(d.clo=false->∀H',am H H'->Q .non H'))(_:(d.clo=true->∀H',am H H'->E (.ref a.va) none H'))
section
def vx(T:Txt K mg a)(hw:w.params=a.pm):aP P w K mg base (vV P w) 13 a.fg.x a.fg.d ["deed","prime","layers","trials"] (Gk P w K a):=by
 show T.fg.okE m9 λaa A outer s H vs Q E p h=>?_
 ·obtain⟨n,M,Z,c,d,xs,rfl,e,r,u,hD,q,C⟩:=h;show{_,(ag (aJ (pc T.ie (vw T hw) p (ac (Y 0) O))) (ag (bj 4 m9.nd (dh K (Y 0) af)) (ah (aM (aC aW (Y 4) aF (aE _)) (ag (aJ (pc T.ic (py T) p (ac (dh K (Y 0) af) (ac (Y 2) O)))) (ah (aJ (pc T.gq (ul T) p (ac (dh K (Y 0) af) (ac (Y 1) (ac (Y 2) O))))))) (ah (aM (aC aW (Y 4) aF (aE _)) (ah (aJ (pc T.gp (uk T) p (ac (Y 0) (ac (Y 2) (ac (Y 3) O)))))) (ah (aM (aC aW (Y 4) aF (aE _)) (ag (aJ (pc T.bN (dz T) p (ac (dh K (Y 0) af) (ac (Y 2) O)))) (ah (aJ (pc T.gw (uq T) p (ac (dh K (Y 0) af) O))))) (ah (aM (aC aW (Y 4) aF (aE _)) (ag (aJ (pc T.cS (fb T) p (ac (dh K (Y 0) af) O))) (ah (aJ (pc T.bN (dz T) p (ac (dh K (Y 0) af) (ac (Y 3) O)))))) (ah (aM (aC aW (Y 4) aF (aE _)) (ag (aJ (pc T.cS (fb T) p (ac (dh K (Y 0) af) O))) (ah (aJ (pc T.ff (mi T) p (ac (dh K (Y 0) af) O))))) (ah (aJ (bQ ((vq T).mono (by decide)) p () T.fe.m T.fe.f.kp T.fe.b .nil iH (ac (Y 0) (ac (Y 3) O))))))))))))))))),?_}
  have v:∀t∈M.trs,(bg (iR (M.trs.map cT.nm) λi=>V.ref (Z.G (.tr i))) (.inr t.nm)).isSome=true:=λt ht=>by obtain⟨j,R⟩:=i_.mp ht;rw[u.tget (Z:=Z) R];rfl
  have B:∀l∈M.las,(bg (iR (M.las.map bF.nm) λi=>V.ref (Z.G (.lo i))) (.inr l.nm)).isSome=true:=λl hl=>by obtain⟨j,R⟩:=i_.mp hl;rw[u.lget (Z:=Z) R];rfl
  cases hD with|@layer nm sl h1 h2 h3 h4 h5=>show U () {n,_,_,(),e,T.qw,?_};show U () (rX e (ao (k:=0) ()) (aq ?_));show U () {(),U () (bZ ?_)};show U () (rX e (ao (k:=1) ()) (U () {_,Z.G .ln,_,(),h1,r.lays,ml h2,λL o=>?_}));show U () (rX (am.tseq o e) (ao (k:=2) ()) (U () (U () {sl,M,Z,(),r.same o,by lia,h3.1,h3.2,h4,λD F=>q () D (o.trans F)})))|@trial x ar sh ra S h1 h2 h3 h4 h5 h6 h7 h8 h9 ha hb hc hd he hf=>show U () {n,_,_,(),e,T.qt,?_};show U () (rX e (ao (k:=0) ()) (aq ?_));show U () {(),U () (wn ?_)};show U () {(),U () (bZ ?_)};obtain⟨W,I,J⟩:=kw.mp h1.hm;show U () (U () (U () {n,Z.G .ln,Z.G .tn,ar,sh,.ref ra,x.nm,x.home,x.rule,S,x.arms,x.shuts,_,_,(),e,h1.wd,by rw[<-J];show(u.la W I).wd,r.lays,r.tris,ml h2,by rw[<-J];show B W I,h3,h1.aw,h1.nd,h1.a1,h1.a4,h4,h1.hg,h5,h6,h7,h8,h9,λy hy=>?_,hb,h1.s8,q ()}));obtain⟨z,N,X⟩:=kw.mp (ha y hy);show{by rw[<-X];show(u.tr z N).wd,by rw[<-X];show v z N}|@hold l z h1 h2=>show U () {n,_,_,(),e,T.sx,?_};show U () (rX e (ao (k:=0) ()) (aq ?_));(iterate 2 show U () {(),U () (wn ?_)});show U () {(),U () (bZ ?_)};show U () (rX e (ao (k:=1) ()) (U () {_,Z.G .ln,_,(),(u.la l h1).wd,r.lays,B l h1,λL o=>?_}));show U () {n,_,2,_,(),(),am.tseq o e,ao (k:=2) (),_,(),h2,q () L o}|@bar g t h1 h2=>show U () {n,_,_,(),e,T.uA,?_};show U () (rX e (ao (k:=0) ()) (aq ?_));(iterate 3 show U () {(),U () (wn ?_)});show U () {(),U () (bZ ?_)};show U () (rX e (ao (k:=1) ()) {g,(),h1,λL o=>?_});show U () (rX (am.tseq o e) (ao (k:=2) ()) (U () {t.nm,Z.G .tn,_,(),(u.tr t h2).wd,o _ _ r.tris,v t h2,λD F=>q () D (o.trans F)}))|@visit g mv ms h1 h2 h3 h4 h5=>show U () {n,_,_,(),e,T.qp,?_};show U () (rX e (ao (k:=0) ()) (aq ?_));(iterate 4 show U () {(),U () (wn ?_)});show U () {(),U () (bZ ?_)};show U () (rX e (ao (k:=1) ()) {g,(),h1,λL o=>?_});show U () (rX (am.tseq o e) (ao (k:=2) ()) {mv,ms,(),h2.kp (.of o),h3,h4,h5,λD F=>q () D (o.trans F)})|@share t ns nv h1 h2 h3 h4=>show U () {n,_,_,(),e,T.qu,?_};show U () (rX e (ao (k:=0) ()) (aq ?_));(iterate 5 show U () {(),U () (wn ?_)});show U () (U () {n,M,Z,c,_,t,_,(),e,r,u,h1,.share h2 h4 h3,q,C})|@deal t z S wv h1 N h2 h3 h4=>show U () {n,_,_,(),e,T.sy,?_};show U () (rX e (ao (k:=0) ()) (aq ?_));(iterate 5 show U () {(),U () (wn ?_)});show U () (U () {n,M,Z,c,_,t,_,(),e,r,u,h1,.deal N h2 h4 h3,q,C})|@pause t h1=>show U () {n,_,_,(),e,T.qv,?_};show U () (rX e (ao (k:=0) ()) (aq ?_));(iterate 5 show U () {(),U () (wn ?_)});show U () (U () {n,M,Z,c,_,t,_,(),e,r,u,h1,.other (by decide+kernel) (by decide+kernel),q,C})|@go t h1=>show U () {n,_,_,(),e,T.vF,?_};show U () (rX e (ao (k:=0) ()) (aq ?_));(iterate 5 show U () {(),U () (wn ?_)});show U () (U () {n,M,Z,c,_,t,_,(),e,r,u,h1,.other (by decide+kernel) (by decide+kernel),q,C})|@close t h1=>show U () {n,_,_,(),e,T.qy,?_};show U () (rX e (ao (k:=0) ()) (aq ?_));(iterate 5 show U () {(),U () (wn ?_)});show U () (U () {n,M,Z,c,_,t,_,(),e,r,u,h1,.other (by decide+kernel) (by decide+kernel),q,C})
end
def Fa(c:O_)(n:Nat):∀i∈deal c n,0<=i:=λi hi=>by obtain⟨k,b⟩:=i_.mp hi;have:=(xJ c n k).1;unfold gd at this;rw[nk,b]at this;show this
inductive fJ(M:bn):Dd->bn->Prop|layer{nm:Str}{sl:Int}:fJ M (.layer nm sl) (vO M nm sl)|trial{x:cT}:fJ M (.trial x) (vN M x)|share{t:cT}{ns:O_}{i:Nat}{l:bF}(hl:M.las[i]?=some l)(hh:l.nm=t.home)(hn:gW l.S (mY t.nm t.arms ns)<=((mZ M.p l.S.oc).length:Int)):fJ M (.share t ns) (kZ M i l t ns)|deal{t:cT}{z:Int}{ws:O_}{i:Nat}{l:bF}(hl:M.las[i]?=some l)(hh:l.nm=t.home)(hn:gW l.S (mY t.nm t.arms (deal ws z.toNat))<=((mZ M.p l.S.oc).length:Int)):fJ M (.deal t z ws) (kZ M i l t (deal ws z.toNat))|hold{l:bF}{z:Int}{i:Nat}(hl:M.las[i]?=some l)(hn:gW l.S [(lB,z)]<=((mZ M.p l.S.oc).length:Int)):fJ M (.hold l z) (Bq M i l z)|pause{t:cT}{b:Bool}{j:Nat}(hj:M.trs[j]?=some t):fJ M (.pause t b) (M.setT j {t with pau:=b})|close{t:cT}{i j:Nat}{l:bF}(hj:M.trs[j]?=some t)(hl:M.las[i]?=some l)(hh:l.nm=t.home):fJ M (.close t) (kZ (M.setT j {t with clo:=true}) i l {t with clo:=true} (lG t))|bar{g:Str}{t:cT}{i j:Nat}{l:bF}(hj:M.trs[j]?=some t)(hl:M.las[i]?=some l)(hh:l.nm=t.home):fJ M (.bar g t) (zA M i j l t g)|visit{g:Str}{ms:List (Str×Int)}{ss:List (Str×Str×Str)}{M':bn}(ha:ju M g ms M.las ss)(h:iW g ss M M'):fJ M (.visit g ms) M'
inductive Kk(M:bn):Dd->Prop|share{t:cT}{ns:O_}{i:Nat}{l:bF}(hl:M.las[i]?=some l)(hh:l.nm=t.home)(hn:((mZ M.p l.S.oc).length:Int)<gW l.S (mY t.nm t.arms ns)):Kk M (.share t ns)|deal{t:cT}{z:Int}{ws:O_}{i:Nat}{l:bF}(hl:M.las[i]?=some l)(hh:l.nm=t.home)(hn:((mZ M.p l.S.oc).length:Int)<gW l.S (mY t.nm t.arms (deal ws z.toNat))):Kk M (.deal t z ws)|hold{l:bF}{z:Int}{i:Nat}(hl:M.las[i]?=some l)(hn:((mZ M.p l.S.oc).length:Int)<gW l.S [(lB,z)]):Kk M (.hold l z)
def jy.luniq{M:bn}{c:Nat}(h:jy M c){i j:Nat}{l u:bF}(hi:M.las[i]?=some l)(d:M.las[j]?=some u)(e:l.nm=u.nm):i=j/\l=u:=by have q:i=j:=(wh (by rw[b_];show(d_.mp hi).1) h.ln).mp (by rw[g8,g8,hi,d];show p_ some e);show{q,?_};rw[q,d]at hi;show(iA hi).symm
def jy.tidx{M:bn}{c:Nat}(h:jy M c){i j:Nat}{t:cT}(hi:M.trs[i]?=some t)(d:M.trs[j]?=some t):i=j:=(wh (by rw[b_];show(d_.mp hi).1) h.tn).mp (by rw[g8,g8,hi,d])
def fJ.not{M i:bn}{c:Nat}{d:Dd}(h:jy M c)(n:fJ M d i):¬Kk M d:=by intro r;cases n with
 |share g hh hn=>cases r with|share b e f=>obtain⟨_,rfl⟩:=h.luniq g b (hh.trans e.symm);omega
 |deal g hh hn=>cases r with|deal b e f=>obtain⟨_,rfl⟩:=h.luniq g b (hh.trans e.symm);omega
 |hold g hn=>cases r with|hold b f=>omega
 |layer=>cases r|trial=>cases r|pause=>cases r|close=>cases r|bar=>cases r|visit=>cases r
theorem fJ.one{M M1 M2:bn}{c:Nat}{d:Dd}(h:jy M c)(n1:fJ M d M1)(n2:fJ M d M2):M1=M2:=by cases n1 with
 |layer=>cases n2 with|layer=>rfl
 |trial=>cases n2 with|trial=>rfl
 |share g hh hn=>cases n2 with|share b e i=>obtain⟨rfl,rfl⟩:=h.luniq g b (hh.trans e.symm);rfl
 |deal g hh hn=>cases n2 with|deal b e i=>obtain⟨rfl,rfl⟩:=h.luniq g b (hh.trans e.symm);rfl
 |hold g hn=>cases n2 with|hold b i=>obtain⟨rfl,_⟩:=h.luniq g b ();rfl
 |pause j=>cases n2 with|pause f=>rw[h.tidx j f]
 |close j g hh=>cases n2 with|close f b e=>obtain⟨rfl,rfl⟩:=h.luniq g b (hh.trans e.symm);rw[h.tidx j f]
 |bar j g hh=>cases n2 with|bar f b e=>obtain⟨rfl,rfl⟩:=h.luniq g b (hh.trans e.symm);rw[h.tidx j f]
 |visit n o=>cases n2 with|visit k m=>obtain rfl:=n.one h (λl q=>q) k;show o.one m
def r3(y:Str×Str×Str):List Str:=[y.1,y.2.1,y.2.2]
inductive pX(M:bn):Dd->List (List Str)->Prop|layer{nm:Str}{sl:Int}:pX M (.layer nm sl) []|trial{x:cT}:pX M (.trial x) []|share{t:cT}{ns:O_}{i:Nat}{l:bF}(hl:M.las[i]?=some l)(hh:l.nm=t.home):pX M (.share t ns) (uh l.ins (uG M l (cB l.S (mY t.nm t.arms ns))))|deal{t:cT}{z:Int}{ws:O_}{i:Nat}{l:bF}(hl:M.las[i]?=some l)(hh:l.nm=t.home):pX M (.deal t z ws) (uh l.ins (uG M l (cB l.S (mY t.nm t.arms (deal ws z.toNat)))))|hold{l:bF}{z:Int}:pX M (.hold l z) []|pause{t:cT}{b:Bool}:pX M (.pause t b) []|close{t:cT}{i:Nat}{l:bF}(hl:M.las[i]?=some l)(hh:l.nm=t.home):pX M (.close t) (uh l.ins (uG M l (cB l.S (mY t.nm t.arms (lG t)))))|bar{g:Str}{t:cT}{i:Nat}{l:bF}(hl:M.las[i]?=some l)(hh:l.nm=t.home):pX M (.bar g t) (uh l.ins (rK l t g))|visit{g:Str}{ms:List (Str×Int)}{ss:List (Str×Str×Str)}(ha:ju M g ms M.las ss):pX M (.visit g ms) (ss.map r3)
def eV.rows{c:List V}{d:List (Str×Str×Str)}(h:eV K H c d):fN K H c (d.map r3):=by induction h with|nil=>show .nil|cons h _ b=>show .cons h b
structure Kt(K:OZ)(H':Hp)(M M':bn)(Z':ZS)(d:Dd)(r:Addr)(us:List V)(rs:List (List Str)):Prop where
 a:pX M d rs
 w:fN K H' us rs
 n:¬eY M' Z' r
def Dd.adds:Dd->Bool|.layer _ _=>true|.trial _=>true|_=>false
def Dd.clo_adds{d:Dd}(h:d.clo=true):d.adds=false:=by cases d<;>first|rfl|cases h
inductive IQ(P:O4)(w:World)(K:OZ)(a:gz)(vs:List V)(H:Hp)(Q:VK)(E:XK):Prop|mk(M:bn)(Z:ZS)(c:Nat)(dv:Addr)(d:Dd)(xs:List V)(_:vs=[.ref (Z.G .hh),.ref dv])(_:ck P w K a H M Z c)(_:c<=63)(_:a0 K H dv xs)(_:kT K H M d xs)(_:(∀(r:Addr)(us:List V)(rs:List (List Str))(M':bn)(Z':ZS)(H':Hp),fJ M d M'->Kt K H' M M' Z' d r us rs->gS H M Z H' M' Z'->ck P w K a H' M' Z' (c+1)->H r=none->H' r=some (.lst us)->Z'.ds=Z.ds->Q (.ref r) H'))(_:(d.adds=false->Kk M d->∀H',am H H'->E (.ref a.oy) none H'))
section
def vE(T:Txt K mg a):aP P w K mg base (vV P w) 11 a.gm.x a.gm.d ["self","deed"] (IQ P w K a):=by
 show T.gm.okE ng λa2 A outer s H vs Q E p h=>?_
 ·obtain⟨M,Z,c,dv,d,xs,rfl,B,hc,u,hD,q,X⟩:=h;show{_,(ag (bj 2 ng.nd (dh K (Y 1) af)) (ag (aM (aC aW (Y 2) aF (aE _)) (ah (aB (aZ (Y 0) T.au T.db.m ((pG (P:=P) (w:=w) T).mono (by decide)) p T.db.b .nil aV (ac (dh K (Y 1) af) (ac (dh K (Y 1) af) O))))) aD) (ag (aM (aC aW (Y 2) aF (aE _)) (ah (aB (aZ (Y 0) T.au T.c9.m ((pF (P:=P) (w:=w) T).mono (by decide)) p T.c9.b .nil aV (ac (dh K (Y 1) af) (ac (pq T.Ej ((sd (P:=P) (w:=w) T).mono (by decide)) p () T.GU T.d6.b .nil aV (ac (dh K (Y 1) af) (ac (dh K (Y 1) af) (ac (dh K (Y 1) af) (ac (dh K (Y 1) af) O))))) O))))) aD) (ag (aM (aC aW (Y 2) aF (aE _)) (ah (aB (aZ (Y 0) T.au T.bD.m ((gK (P:=P) (w:=w) T).mono (by decide)) p T.bD.b .nil iH (ac (dh K (Y 1) af) (ac (dh K (Y 1) af) O))))) aD) (ag (aM (aC aW (Y 2) aF (aE _)) (ah (aB (aZ (Y 0) T.au T.bD.m ((gK (P:=P) (w:=w) T).mono (by decide)) p T.bD.b .nil iH (ac (dh K (Y 1) af) (ac (pc T.wQ (D7 T) p (ac (dh K (Y 1) af) (ac (dh K (Y 1) af) O))) O))))) aD) (ag (aM (aC aW (Y 2) aF (aE _)) (ah (aB (aZ (Y 0) T.au T.dJ.m ((ql (P:=P) (w:=w) T).mono (by decide)) p T.dJ.b .nil iH (ac (dh K (Y 1) af) (ac (dh K (Y 1) af) O))))) aD) (ag (aM (aC aW (Y 2) aF (aE _)) (ah (aB (aZ (Y 0) T.au T.cj.m ((jL (P:=P) (w:=w) T).mono (by decide)) p T.cj.b .nil aV (ac (dh K (Y 1) af) (ac gH O))))) aD) (ag (aM (aC aW (Y 2) aF (aE _)) (ah (aB (aZ (Y 0) T.au T.cj.m ((jL (P:=P) (w:=w) T).mono (by decide)) p T.cj.b .nil aV (ac (dh K (Y 1) af) (ac gH O))))) aD) (ag (aM (aC aW (Y 2) aF (aE _)) (ah (aB (aZ (Y 0) T.au T.de.m ((pH (P:=P) (w:=w) T).mono (by decide)) p T.de.b .nil iH (ac (dh K (Y 1) af) O)))) aD) (ag (aM (aC aW (Y 2) aF (aE _)) (ah (aB (aZ (Y 0) T.au T.eI.m ((su (P:=P) (w:=w) T).mono (by decide)) p T.eI.b .nil aV (ac (dh K (Y 1) af) (ac (dh K (Y 1) af) O))))) aD) (ah (aB (aZ (Y 0) T.au T.c8.m ((pE (P:=P) (w:=w) T).mono (by decide)) p T.c8.b .nil aV (ac (dh K (Y 1) af) (ac (dh K (Y 1) af) O))))))))))))))),?_}
  have I:=B.g.house;cases hD with|@layer nm sl h1 h2 h3 h4 h5=>show U () (rX u (ao (k:=0) ()) (aq ?_));show U () {(),U () (bZ ?_)};show jw I () () (U () (rX u (ao (k:=1) ()) (U () (rX u (ao (k:=2) ()) {M,Z,c,nm,sl,(),B,h1,h2,h3,h5,λr C H' st f p n v nf=>q r [] [] _ C H' .layer {.layer,.nil,nf} st (f.mono (ry c)) p n v}))))|@trial x ar sh ra N h1 h2 h3 h4 h5 h6 h7 h8 h9 ha hb aa hd he hf=>
   show U () (rX u (ao (k:=0) ()) (aq ?_));show U () {(),U () (wn ?_)};show U () {(),U () (bZ ?_)};show jw I () () (U () (rX u (ao (k:=1) ()) ?_));show U () (rX u (ao (k:=2) ()) (U () (rX u (ao (k:=3) ()) (U () (rX u (ao (k:=4) ()) (U () (rX u (ao (k:=5) ()) (λt ty R ad a3=>?_))))))));have s2:am H (aG (aG H ty (.own t)) t (.ins a.fX ty [])):=λb o e=>by rw[ak (av e R),ak (av e ad)];show e
   have S:aG (aG H ty (.own t)) t (.ins a.fX ty []) t=some (.ins a.fX ty []):=ae;generalize aG (aG H ty (.own t)) t (.ins a.fX ty [])=H2 at s2 S⊢;show{t,ty,ar,ra,sh,x.home,(),S,λba H3 an f3 ap as=>{(),?_}};have s3:am H H3:=λb o e=>f3 b o (s2 b o e) (av e R);show{M,Z,c,H,t,ba,ty,ar,sh,.ref ra,x,(),B,s3,R,s2.free an,as,ap,h3,h4,h9,aa,hd,he,h1,h2,hf,λr C H' st f p n v nf=>q r [] [] _ C H' .trial {.trial,.nil,nf} st (f.mono (ry c)) p n v}|@share t ns nv h1 h2 h3 h4=>obtain⟨j,D⟩:=i_.mp h1;obtain⟨i,l,y,hh⟩:=B.ok.home h1;show U () (rX u (ao (k:=0) ()) (aq ?_));(iterate 2 show U () {(),U () (wn ?_)});show U () {(),U () (bZ ?_)};show jw I () () (U () (rX u (ao (k:=1) ()) (U () (rX u (ao (k:=2) ()) {M,Z,c,i,j,l,t,nv,ns,(),B,hc,D,y,hh,.inr h2,h3,h4,λF r J C H' st f p n v L nf=>q r J _ _ C H' (.share y hh F) {.share y hh,L,nf} st f p n v,λG=>X () (.share y hh G)}))))|@deal t z N wv h1 hz h2 h3 h4=>
   obtain⟨j,D⟩:=i_.mp h1;obtain⟨i,l,y,hh⟩:=B.ok.home h1;have V:=B.ok.tr t h1;have a1:=V.a1;have a4:=V.a4;show U () (rX u (ao (k:=0) ()) (aq ?_));(iterate 3 show U () {(),U () (wn ?_)});show U () {(),U () (bZ ?_)};show jw I () () (U () (rX u (ao (k:=1) ()) (U () (rX u (ao (k:=2) ()) (U () (rX u (ao (k:=3) ()) {z.toNat,wv,N,by rw[show((z.toNat:Nat):Int)=z by lia];rfl,by lia,h2,by lia,by lia,λtv H1 W R=>?_}))))));have ax:(deal N z.toNat).length=t.arms.length:=by rw[mz];show h3
   show{M,Z,c,i,j,l,t,tv,deal N z.toNat,(),B.same W,hc,D,y,hh,.inr (a0.of R),ax,Fa N z.toNat,λF r J C H' st f p n v L nf=>q r J _ _ C H' (.deal y hh F) {.deal y hh,L,nf} ((gS.of W).trans st) f (W.free p) n v,λG H' s'=>X () (.deal y hh G) H' (W.trans s')}|@hold l z h1 h2=>obtain⟨i,y⟩:=i_.mp h1;show U () (rX u (ao (k:=0) ()) (aq ?_));(iterate 4 show U () {(),U () (wn ?_)});show U () {(),U () (bZ ?_)};show jw I () () (U () (rX u (ao (k:=1) ()) (U () (rX u (ao (k:=2) ()) {M,Z,c,i,l,z,(),B,hc,y,h2,λF r C H' st f p n v nf=>q r [] [] _ C H' (.hold y F) {.hold,.nil,nf} st f p n v,λG=>X () (.hold y G)}))))|@pause t h1=>obtain⟨j,D⟩:=i_.mp h1;show U () (rX u (ao (k:=0) ()) (aq ?_));(iterate 5 show U () {(),U () (wn ?_)});show U () {(),U () (bZ ?_)};show jw I () () (U () (rX u (ao (k:=1) ()) {M,Z,c,j,t,true,(),B,D,λr H' st f p n nf=>q r [] [] _ Z H' (.pause D) {.pause,.nil,nf} st (f.mono (ry c)) p n ()}))|@go t h1=>obtain⟨j,D⟩:=i_.mp h1;show U () (rX u (ao (k:=0) ()) (aq ?_));(iterate 6 show U () {(),U () (wn ?_)});show U () {(),U () (bZ ?_)};show jw I () () (U () (rX u (ao (k:=1) ()) {M,Z,c,j,t,false,(),B,D,λr H' st f p n nf=>q r [] [] _ Z H' (.pause D) {.pause,.nil,nf} st (f.mono (ry c)) p n ()}))|@close t h1=>obtain⟨j,D⟩:=i_.mp h1;obtain⟨i,l,y,hh⟩:=B.ok.home h1;show U () (rX u (ao (k:=0) ()) (aq ?_));(iterate 7 show U () {(),U () (wn ?_)});show U () {(),U () (bZ ?_)};show jw I () () (U () (rX u (ao (k:=1) ()) {M,Z,c,i,j,l,t,(),B,hc,D,y,hh,λr J C H' st f p n v L nf=>q r J _ _ C H' (.close D y hh) {.close y hh,L,nf} st f p n v}))|@bar g t h1 h2=>obtain⟨j,D⟩:=i_.mp h2;obtain⟨i,l,y,hh⟩:=B.ok.home h2;show U () (rX u (ao (k:=0) ()) (aq ?_));(iterate 8 show U () {(),U () (wn ?_)});show U () {(),U () (bZ ?_)};show jw I () () (U () (rX u (ao (k:=1) ()) (U () (rX u (ao (k:=2) ()) {M,Z,c,i,j,l,t,g,(),B,hc,D,y,hh,h1,λr J C H' st f p n v L nf=>q r J _ _ C H' (.bar D y hh) {.bar y hh,L,nf} st f p n v}))))|@visit g mv ms h1 h2 h3 h4 h5=>show U () (rX u (ao (k:=0) ()) (aq ?_));(iterate 9 show U () {(),U () (wn ?_)});show jw I () () (U () (rX u (ao (k:=1) ()) (U () (rX u (ao (k:=2) ()) {M,Z,c,g,mv,ms,(),B,hc,h1,h2,h5,λr J ss M' C H' ha vt st f p n v hs nf=>q r J _ M' C H' (.visit ha vt) {.visit ha,hs.rows,nf} st f p n v}))))
end
inductive Lc(P:O4)(w:World)(K:OZ)(a:gz)(vs:List V)(H:Hp)(Q:VK)(E:XK):Prop|mk(M:bn)(Z:ZS)(c:Nat)(dv:Addr)(d:Dd)(xs:List V)(_:vs=[.ref (Z.G .hh),.ref dv])(_:ck P w K a H M Z c)(_:c<=63)(_:a0 K H dv xs)(_:kT K H M d xs)(_:(d.clo=false->∀(r:Addr)(us:List V)(rs:List (List Str))(M':bn)(Z':ZS)(H':Hp),fJ M d M'->Kt K H' M M' Z' d r us rs->gS H M Z H' M' Z'->ck P w K a H' M' Z' (c+1)->H r=none->H' r=some (.lst us)->Z'.ds=Z.ds++[.ref dv]->Q (.ref r) H'))(_:(d.adds=false->Kk M d->∀H',am H H'->E (.ref a.oy) none H'))(_:(d.clo=true->∀H',am H H'->E (.ref a.va) none H'))
section
def re(T:Txt K mg a)(W:w.params=a.pm):aP P w K mg base (vV P w) 14 a.ft.x a.ft.d ["self","deed"] (Lc P w K a):=by
 show T.ft.okE qX λX A outer s H vs Q E o h=>?_
 ·obtain⟨M,Z,c,p,d,N,rfl,t,hc,R,S,q,qr,qc⟩:=h;show{_,(ag (aJ (bQ ((vx T W).mono (by decide)) o () T.fg.m T.fg.f.kp T.fg.b .nil iH (ac (Y 1) (ac (aH K () (Y 0)) (ac (aH K () (Y 0)) (ac (aH K () (Y 0)) O)))))) (ag (bj 2 qX.nd (aZ (Y 0) T.au T.gm.m ((vE (P:=P) (w:=w) T).mono (by decide)) o T.gm.b .nil iH (ac (Y 1) O))) (ag (aJ (eZ K () PySem.F.plainAttrs_list PySem.F.slot_list_append PySem.F.type_list_append cK (aH K () (Y 0)) (ac (Y 1) O))) (ah (aB (Y 2)))))),?_}
  have v:=t.g.house;show U () (gE v T.au T.cX () () (gE v T.au T.aQ () () (gE v T.au T.aL () () ?_)));show{p,M,Z,c,d,N,(),R,t.g,t.ok,S,λy H1 j=>?_,qc};show jw (j _ _ v) () () (U () {M,Z,c,p,d,N,(),t.same j,hc,am.tseq j R,S.kp (.of j),λr us rs B i V nx aw st e o C k=>?_,λha D H' s'=>qr ha D H' (j.trans s')});have u:=e.g.house;rw[st.hh]at u;have l:=e.g.dees;have I:=t.ds;show aq (gE u T.au T.jj () () {.inl {(),_,aR.of l},U () (rA l (by rw[k,ig];lia) ?_)});have J:=e.g.deed (.ref p);have L:gS V B i (aG V (i.G .dl) (.lst (i.ds++[.ref p]))) B {i with ds:=i.ds++[.ref p]}:=gS.put (r:=.dl) trivial () () () () λx D=>.inl D;show U () (q y r us rs B {i with ds:=i.ds++[.ref p]} _ nx {aw.a,aw.w.kp (.lst l),aw.n} (((gS.of j).trans st).trans L) {J,e.ok,e.tk,e.ow,by change(i.ds++[_]).length<=c+1;rw[hQ,k];show r4 I} (j.free o) ?_ (by change i.ds++[_]=_;rw[k]));rw[ak λz=>?_]
  ·show C
  ·rw[z,st.dd,j _ _ t.g.dees]at o;cases o
end
def DI:List Str:=["ann","ann7","7ann","an","nan","ana","anan","b","bob12","bob1","21bob","annbob"]
def AO:List Str:=["","ann7","0","guestofthishouse99"]
def yi(k:Nat):Nat:=if k<26 then 97+k else 22+k
def JE(z:Str)(i:Int)(c:Nat):Str:=Txt.slice z none (some i)++({#[c]}:Str)++Txt.slice z (some i) none
def Mt(x:Str):Bool:=decide (1<=x.length)&&decide (x.length<=24)&&x.cps.toList.all λc=>decide (c∈j3.cps.toList)
def HS(h:Mt x=true):xY x:=by unfold Mt at h;rw[mu,mu]at h;show{n_ h.1.1,n_ h.1.2,λc hc=>n_ (C1.mp h.2 c hc)}
def DH:∀z∈DI,Mt z=true:=dk ()
def GP:∀z∈AO,∀i∈List.range 19,∀c∈List.range 36,Mt (JE z (i:Int) (yi c))=true:=dk ()
def BO:∀z∈AO,z.length<=18:=dk ()
def IW:∀c∈List.range 36,qO ("abcdefghijklmnopqrstuvwxyz0123456789":Str).cps.toList (c:Int)=some (yi c):=dk ()
def jn{zs:O5}{i:Int}(h0:0<=i)(h1:i<(zs.length:Int)):∃z∈zs,qO (zs.map V.str) i=some (V.str z):=by obtain⟨v,b,hm⟩:=zC (xs:=zs.map V.str) h0 (by rw[b_];show h1);obtain⟨z,c,rfl⟩:=kw.mp hm;show(z,c,b,)
inductive CU(k N:Int)(g:Str):Prop|a(h:N/80%2=1)(ha:qO (DI.map V.str) ((k+N/160)%12)=some (V.str g)):CU k N g|b(z:Str)(h:N/80%2≠1)(ha:qO (AO.map V.str) (N%4)=some (V.str z))(e:g=JE z (N/4%((z.length:Int)+1)) (yi ((k+N/160)%36).toNat)):CU k N g
def CU.one{k N:Int}{g d:Str}(h:CU k N g)(h':CU k N d):g=d:=by
 rcases h with⟨h,c⟩|⟨z,h,c,e⟩<;>rcases h' with⟨h',b⟩|⟨i,h',b,f⟩
 ·show V.str.inj (iA (c.symm.trans b))
 ·show absurd h h'
 ·show absurd h' h
 ·rw[V.str.inj (iA (c.symm.trans b))]at e;rw[e,f]
inductive Du(vs:List V)(H:Hp)(Q:VK)(_E:XK):Prop|mk(k N:Int)(_:vs=[.int k,.int N])(_:∀(g:Str)H',am H H'->xY g->CU k N g->Q (.str g) H')
def jM(h:N c H):(j8.mk N R B C).nx c H:=h
def qC{c:TT}{t u:TS}{D:j8}{d:St}(h1:u D d H)(h2:∀N:St->Hp->Prop,N d H->FP c t yc {D with nx:=N} d H):zK (FP c t yc) u D d H:=h2 (u D) h1
def Mp:List Str:=["age","size","old"]
inductive F3(K:OZ)(h:Nat)(vs:List V)(H:Hp)(Q:VK)(_E:XK):Prop|mk(n i:Int)(_:vs=[.int n,.int i])(_:1<=i)(_:i<=(h:Int))(_:∀(r:Ru)(rv:V)H',am H H'->fG K H' r rv->j5 Mp r->r.hgt<=h->r.cnt<2^h->Q rv H')
section
def qk(T:Txt K mg a):aP P w K mg base cV 1 a.mG.x a.mG.d ["_law_k","_law_number"] Du:=by
 show T.mG.ok ki λv A outer s H I Q E J h=>?_
 ·obtain⟨k,N,rfl,q⟩:=h;show{_,(ag (aM (aC aW (aA aS (aA bu (Y 1) af) af) af (aE _)) (ag (bj 2 ki.nd (be (ac aF (ac aF (ac aF (ac aF (ac aF (ac aF (ac aF (ac aF (ac aF (ac aF (ac aF (ac aF O)))))))))))))) (ah (aB (hV K (Y 2) (aA aS (aA bT (Y 0) (aA bu (Y 1) af)) af))))) aD) (ag (bj 3 ki.nd (hV K (be (ac aF (ac aF (ac aF (ac aF O))))) (aA aS (Y 1) af))) (ag (bj 4 ki.nd (aA aS (aA bu (Y 1) af) (aA bT (ay (aI K ()) (by rfl) T.bq L2.aK (ac (Y 3) O)) af))) (ag (bj 5 ki.nd (aA aS (aA bT (Y 0) (aA bu (Y 1) af)) af)) (ah (aB (aA jg (aA jg (gG xg (Y 3) iY (iX (Y 4))) (yF Ar aF (Y 5) (λ_ _=>()))) (gG xg (Y 3) (iX (Y 4)) iY)))))))),?_}
  have b1:=bI (k+N/160) (show(0:Int)<12 by decide);have b2:=bI (k+N/160) (show(0:Int)<36 by decide);have b3:=bI N (show(0:Int)<4 by decide)
  walk_at "a"
  show kJ (λm=>?_) (λm=>?_)
  ·show{ls (),λl n=>?_}
   walk_at "a"
   obtain⟨z,j,c⟩:=jn (zs:=DI) b1.1 b1.2;show{l,_,_,U () {(),aR.of ae,c,q z _ (aj (am.refl H) n) (HS (DH z j)) (.a m c)}}
  ·show{ls (),λl n=>?_};obtain⟨z,j,c⟩:=jn (zs:=AO) b3.1 b3.2;have B:=BO z j;have u:=aj (o:=.lst [V.str "",V.str "ann7",V.str "0",V.str "guestofthishouse99"]) (am.refl H) n;have f:aG H l (.lst [V.str "",V.str "ann7",V.str "0",V.str "guestofthishouse99"]) l=some (.lst [V.str "",V.str "ann7",V.str "0",V.str "guestofthishouse99"]):=ae;generalize aG H l (.lst [V.str "",V.str "ann7",V.str "0",V.str "guestofthishouse99"])=L at u f⊢
   walk_at "a"
   show{l,_,_,U () {(),aR.of f,c,aq ?_}}
   walk_at "a"
   show{_,z.length,(),{df (by lia),()},_,U () {(),r2 {(by change(0:Int)<_;lia),aq ?_}}};have C:=bI (N/4) (show(0:Int)<(z.length:Int)+1 by lia);have D:=Txt.slice_le z none (some (N/4%((z.length:Int)+1)));have F:=Txt.slice_le z (some (N/4%((z.length:Int)+1))) none;have hok:=GP z j (N/4%((z.length:Int)+1)).toNat (by rw[t8];lia) ((k+N/160)%36).toNat (by rw[t8];lia);have i:=IW ((k+N/160)%36).toNat (by rw[t8];lia);rw[show(((N/4%((z.length:Int)+1)).toNat:Nat):Int)=N/4%((z.length:Int)+1)by lia]at hok;rw[show((((k+N/160)%36).toNat:Nat):Int)=(k+N/160)%36 by lia]at i;have p:∀g,g=JE z (N/4%((z.length:Int)+1)) (yi ((k+N/160)%36).toNat)->CU k N g:=λg e=>.b z m c e;generalize yi ((k+N/160)%36).toNat=r at*;have t:∀a b:Str,(a++b).length=a.length+b.length:=λa b=>by change(a.cps++b.cps).size=a.cps.size+b.cps.size;show Array.size_append
   have G:({#[r]}:Str).length=1:=()
   walk_at "a"
   show{df (by lia),?_}
   walk_at "a"
   show{"abcdefghijklmnopqrstuvwxyz0123456789",_,r,(),(),df (by decide+kernel),i,_,({#[r]}:Str),(),(),df (by omega),U () (U () {N/4%((z.length:Int)+1),(),z,(),df (by omega),_,U () {(),df (by rw[t];omega),q _ _ u (HS hok) (p _ ())}})}
theorem yT(T:Txt K mg a):∀h:Nat,aP P w K mg base cV (h+1) a.eW.x a.eW.d ["_law_number","_law_high"] (F3 K h)
 |0=>by
  show T.eW.f.ok lU (λS H Q E h=>?_) (λW A outer s H S Q E e h=>?_)
  ·obtain⟨n,i,rfl,_⟩:=h;rfl
  ·obtain⟨n,i,rfl,h1,h2,_⟩:=h;lia|hh+1=>by
  have G:=yT T hh;show T.eW.f.ok lU (λS H Q E h=>?_) (λW A outer s H S Q E e h=>?_)
  ·obtain⟨n,i,rfl,_⟩:=h;rfl
  ·obtain⟨n,i,rfl,h1,h2,q⟩:=h;show{_,(ag (bj 2 lU.nd (aA aS (Y 0) af)) (ag (bj 3 lU.nd (aA bu (Y 0) af)) (ag (bj 4 lU.nd (hV K (be (ac aF (ac aF (ac aF O)))) (aA aS (Y 3) af))) (ag (aM (aC aW (Y 2) af (aE _)) (ah (aB (bx (ac aF (ac (Y 4) O))))) aD) (ag (aM (PW.pt (fI (aC aW (Y 2) af (aE _)) (dO (aC aW (Y 2) af (aE _))))) (ah (aB (bx (ac aF (ac (Y 4) (ac (aA gc (aA aS (aA bu (Y 3) af) af) af) O)))))) aD) (ag (aM (PW.pt (nZ (aC mh (Y 1) af (aE _)) (lq (aC aW (Y 2) af (aE _))))) (ah (aB (bx (ac aF (ac (bQ G e () T.eW.m T.eW.f.kp T.eW.b .nil aV (ac (Y 3) (ac (aA gc (Y 1) af) O))) O))))) aD) (ag (aM (PW.pt (nZ (aC mh (Y 1) af (aE _)) (lq (aC aW (Y 2) af (aE _))))) (ah (aB (bx (ac aF (ac (bQ G e () T.eW.m T.eW.f.kp T.eW.b .nil aV (ac (Y 3) (ac (aA gc (Y 1) af) O))) (ac (bQ G e () T.eW.m T.eW.f.kp T.eW.b .nil aV (ac (aA bu (Y 3) af) (ac (aA gc (Y 1) af) O))) O)))))) aD) (ag (aM (PW.pt (nZ (aC mh (Y 1) af (aE _)) (lq (aC aW (Y 2) af (aE _))))) (ah (aB (bx (ac aF (ac (bQ G e () T.eW.m T.eW.f.kp T.eW.b .nil aV (ac (Y 3) (ac (aA gc (Y 1) af) O))) (ac (bQ G e () T.eW.m T.eW.f.kp T.eW.b .nil aV (ac (aA bu (Y 3) af) (ac (aA gc (Y 1) af) O))) O)))))) aD) (ah (aB (bx (ac aF O)))))))))))),?_}
   have X:2<=2^(hh+1):=by rw[Oe];have:=Nat.two_pow_pos hh;lia
   walk_at "a"
   show{ls (),λl hl=>?_};have b3:=bI (n/10) (show(0:Int)<3 by decide);obtain⟨z,hz,ha⟩:=jn (zs:=Mp) b3.1 b3.2;have v:=aj (o:=.lst [V.str "age",V.str "size",V.str "old"]) (am.refl H) hl;have y:aG H l (.lst [V.str "age",V.str "size",V.str "old"]) l=some (.lst [V.str "age",V.str "size",V.str "old"]):=ae;generalize aG H l (.lst [V.str "age",V.str "size",V.str "old"])=H0 at v y⊢
   walk_at "a"
   show{l,_,_,U () {(),aR.of y,ha,aq ?_}};clear y ha b3;show jM (qC ?_ (λN j=>?_))
   rotate_left
   ·walk_at "a"
    show kJ (λe1=>?_) (λe1=>j);show U () {ls (),λt c=>q (.has z) _ _ (aj v c) (.has (a0.of ae)) (.has hz) (by change 1<=hh+1;lia) X}
   show qC ?_ (λN j=>?_)
   rotate_left
   ·have b9:=bI (n/10/3) (show(0:Int)<9 by decide);have ad:=p7;show U () {(),U () (kJ (λ_=>bG ?_) (λ_=>(U () {(),U () (kJ (λ_=>?_) (λ_=>j))})))}
    all_goals
     walk_at "a"
     show{ls (),λt c=>q (.least z _) _ _ (aj v c) (.least (a0.of ae)) (.least hz (by lia) (by lia)) (by change 1<=hh+1;lia) X}
   have Z:∀m:Nat,m<2^hh->m+1<2^(hh+1):=λm hm=>by rw[Oe];lia
   have u:∀m k:Nat,m<2^hh->k<2^hh->m+k+1<2^(hh+1):=λm k hm hk=>by rw[Oe];lia
   show qC ?_ (λN j=>?_)
   rotate_left
   ·show U () (r2 (U () (jk (λg=>?_) (λ_=>bW j))));show U () {(),U () (kJ (λ_=>?_) (λ_=>j))};show U () (U () (r2 {n/10,i-1,(),by lia,by lia,λr R H1 I e J h3 h4=>{ls (),λt c=>?_}}));show q (.not r) _ _ (aj (v.trans I) c) (.not (a0.of ae) (e.kp (.of (aj (am.refl _) c)))) (.not J) (by change r.hgt+1<=hh+1;lia) (Z _ h4)
   show qC ?_ (λN j=>?_)
   rotate_left
   ·show U () (r2 (U () (jk (λg=>?_) (λ_=>bW j))));show U () {(),U () (kJ (λ_=>?_) (λ_=>j))};show U () (U () (r2 {n/10,i-1,(),by lia,by lia,λr R H1 I e J h3 h4=>?_}));show U () (r2 {{by decide,by decide},U () (r2 {n/10/40,i-1,(),by lia,by lia,λp B H2 L C D aa F=>{ls (),λt c=>?_}})});have M:=aj (o:=.tup [.str "both",R,B]) (am.refl H2) c;show q (.both r p) _ _ (aj ((v.trans I).trans L) c) (.both (a0.of ae) ((e.kp (.of L)).kp (.of M)) (C.kp (.of M))) (.both J D) (by change max r.hgt p.hgt+1<=hh+1;lia) (by rw[show(Ru.both r p).cnt=r.cnt+p.cnt+1 from p_ (·+1) hQ];show u _ _ h4 F)
   show qC ?_ (λN j=>?_)
   rotate_left
   ·show U () (r2 (U () (jk (λg=>?_) (λ_=>bW j))));show U () {(),U () (kJ (λ_=>?_) (λ_=>j))};show U () (U () (r2 {n/10,i-1,(),by lia,by lia,λr R H1 I e J h3 h4=>?_}));show U () (r2 {{by decide,by decide},U () (r2 {n/10/40,i-1,(),by lia,by lia,λp B H2 L C D aa F=>{ls (),λt c=>?_}})});have M:=aj (o:=.tup [.str "either",R,B]) (am.refl H2) c;show q (.either r p) _ _ (aj ((v.trans I).trans L) c) (.either (a0.of ae) ((e.kp (.of L)).kp (.of M)) (C.kp (.of M))) (.either J D) (by change max r.hgt p.hgt+1<=hh+1;lia) (by rw[show(Ru.either r p).cnt=r.cnt+p.cnt+1 from p_ (·+1) hQ];show u _ _ h4 F)
   show{ls (),λt c=>q .any _ _ (aj v c) (.any (a0.of ae)) .any (by change 1<=hh+1;lia) X}
end
def zF(m:Int)(j:Nat):Str:=Mp.getD (((j:Int)+m)%3).toNat "age"
def J3:List Str:=["marka","markb","markc","markd","marke"]
def GL(m:Int):zF m=zF (m%3):=by
 funext j
 unfold zF;rw[Int.add_emod,Int.add_emod (j:Int) (m%3),Int.emod_emod]
def Er(m:Int):(J3++(List.range 3).map (zF m)).Nodup/\∀z∈J3++(List.range 3).map (zF m),Ih z=true:=by rw[GL];have b:=bI m (show(0:Int)<3 by decide);rcases(by lia:m%3=0\/m%3=1\/m%3=2)with e|e|e<;>rw[e]<;>decide+kernel
def Jx{m:Int}{j:Nat}:qO [V.str "age",V.str "size",V.str "old"] ((0+(j:Int)+m)%3)=some (V.str (zF m j)):=by rw[Int.zero_add];have b:=bI ((j:Int)+m) (show(0:Int)<3 by decide);unfold zF;rcases(by lia:((j:Int)+m)%3=0\/((j:Int)+m)%3=1\/((j:Int)+m)%3=2)with e|e|e<;>rw[e]<;>rfl
def KK(K:OZ)(H:Hp)(v:V)(m:Str×Int):Prop:=∃b,v=.ref b/\a0 K H b [.str m.1,.int m.2]
def rg(e:Kp H H')(h:Paired (KK K H) c d):Paired (KK K H') c d:=Paired.mapP h λv m⟨b,h1,h2⟩=>{b,h1,e.tq h2}
def LD{a:Addr}{c:List V}{d:List (Str×Int)}(h:Paired (KK K H) c d)(e:a0 K H a c):qQ K H d (.ref a):={a,c,(),e,Paired.length h,λi m hm=>by obtain⟨v,h1,b,rfl,h2⟩:=uc h i m hm;show(b,h1,h2,)}
def pS{ns:O_}{i:Int}(h0:0<=i)(h1:i<(ns.length:Int)):∃z∈ns,qO (ns.map V.int) i=some (V.int z):=by obtain⟨v,b,hm⟩:=zC (xs:=ns.map V.int) h0 (by rw[b_];show h1);obtain⟨z,c,rfl⟩:=kw.mp hm;show(z,c,b,)
def zk:List (Str×Int):=[("marka",-2),("markb",-1),("markc",0),("markd",1),("marke",2)]
def E4:∀j∈List.range 5,qO ("abcde":Str).cps.toList (0+(j:Int))=some (97+j)/\zk[j]?=some (("mark":Str)++({#[97+j]}:Str),0+(j:Int)-2):=dk ()
inductive FD(n:Int):Nat->List (Str×Int)->Prop|z:FD n 0 []|y{i:Nat}{ms:List (Str×Int)}{d e:Int}(h:FD n i ms)(hd:qO ([1,2,4].map V.int) (0+(i:Int))=some (V.int d))(hy:n/d%2=1)(he:qO ([24,240,2400].map V.int) (0+(i:Int))=some (V.int e)):FD n (i+1) (ms++[(zF (n/8) i,n/e%10-5)])|n{i:Nat}{ms:List (Str×Int)}{d:Int}(h:FD n i ms)(hd:qO ([1,2,4].map V.int) (0+(i:Int))=some (V.int d))(hn:n/d%2≠1):FD n (i+1) ms
def FD.one{n:Int}{i:Nat}{a:List (Str×Int)}(h:FD n i a):∀{b:List (Str×Int)},FD n i b->a=b:=by induction h with
 |z=>intro b h';cases h';rfl|y _ hd j k g=>intro b h';cases h' with|y h2 c d e=>rw[g h2,V.int.inj (iA (k.symm.trans e))]|n h2 c f=>show absurd j (by rw[V.int.inj (iA (hd.symm.trans c))];show f)
 |n _ hd hn g=>intro b h';cases h' with|y h2 c d e=>show absurd d (by rw[<-V.int.inj (iA (hd.symm.trans c))];show hn)|n h2 c f=>show g h2
inductive CS(n:Int):List (Str×Int)->Prop|a{ms:List (Str×Int)}(h5:n/30000%8=5)(h:FD n 3 ms):CS n (zk++ms)|b{ms:List (Str×Int)}(h5:n/30000%8≠5)(h:FD n 3 ms):CS n ms
theorem CS.one{n:Int}{a b:List (Str×Int)}(h:CS n a)(h':CS n b):a=b:=by cases h with
 |a h5 h=>cases h' with|a _ h'=>rw[h.one h']|b c _=>show absurd h5 c
 |b h5 h=>cases h' with|a c _=>show absurd c h5|b _ h'=>show h.one h'
inductive Dp(K:OZ)(vs:List V)(H:Hp)(Q:VK)(_E:XK):Prop|mk(n:Int)(_:vs=[.int n])(_:∀(t:Addr)(ms:List (Str×Int))H',am H H'->qQ K H' ms (.ref t)->(∀m∈ms,Wd m.1/\-cQ<=m.2/\m.2<=cQ)->(ms.map Prod.fst).Nodup->ms.length<=8->CS n ms->Q (.ref t) H')
section
def ww(T:Txt K mg a):aP P w K mg base cV 2 a.oz.x a.oz.d ["_law_number"] (Dp K):=by
 show T.oz.ok kh λbl A outer s H u Q E hr h=>?_
 ·obtain⟨n,rfl,q⟩:=h;show{_,(ag (bj 1 kh.nd (be O)) (ag (dP np () (eM () T.f9 (ac af O)) (oA 2 kh.nd) (ah (aM (aC aW (aA aS (aA bu (Y 0) (hV K (be (ac af (ac af (ac af O)))) (Y 2))) af) af (aE _)) (ag (bj 3 kh.nd (hV K (be (ac aF (ac aF (ac aF O)))) (aA aS (aA bT (Y 2) (aA bu (Y 0) af)) af))) (ah (aJ (eZ K () PySem.F.plainAttrs_list PySem.F.slot_list_append PySem.F.type_list_append cK (Y 1) (ac (bx (ac (Y 3) (ac (aA gc (aA aS (aA bu (Y 0) (hV K (be (ac af (ac af (ac af O)))) (Y 2))) af) af) O))) O))))) aD))) (ag (aM (aC aW (aA aS (aA bu (Y 0) af) af) af (aE _)) (ah (bj 1 kh.nd (aA Ab (sC u7 [] [2] [2] (ai t7) (cq 2) (eM () T.f9 (ac af O)) (λcl C s₀ H₀ ex=>{(mL u7 [] 2),cp,(bx (ac (aA jg aF (yF Ar aF (Y 2) (λ_ _=>()))) (ac (aA gc (Y 2) af) O)))})) (Y 1)))) aD) (ah (aB (cx (fh K ()) (by rfl) T.dL L2.bK (ac (Y 1) O))))))),?_}
  show{ls (),λl hl=>?_};have s0:=aj (o:=.lst []) (am.refl H) hl;show aq {3,(),by lia,by lia,?_};show mT (lo:=0) (n:=3) (λi X H'=>am H H'/\(Mi λ(e:List (Str×Int))(u:List V)=>An6 (H' l=some (.lst u)) (Paired (KK K H') u e) ((e.map (·.1)).Sublist ((List.range i).map (zF (n/8)))) (FD n i e) ((∀m∈e,-100<=m.2/\m.2<=100)) (Mi λZ v3=>X=[some (.int n),some (.ref l),Z,v3]))) {s0,[],[],ae,.nil,List.nil_sublist _,.z,(λm hm=>nomatch hm),_,_,()} ?_ ?_
  ·rintro i X H1 hi⟨s1,e,u,hL,J,c,p,hb,Z,v3,rfl⟩;show aq ?_
   walk_at "a"
   show{ls (),λl1 a3=>?_};have k:=aj (o:=.lst [V.int 1,V.int 2,V.int 4]) (am.refl H1) a3;have v:aG H1 l1 (.lst [V.int 1,V.int 2,V.int 4]) l1=some (.lst [V.int 1,V.int 2,V.int 4]):=ae;generalize aG H1 l1 (.lst [V.int 1,V.int 2,V.int 4])=L at k v⊢;obtain⟨d,hd,ha⟩:=pS (ns:=[1,2,4]) (i:=0+(i:Int)) (by lia) (by change _<(3:Int);lia);have bt:d=1\/d=2\/d=4:=by simpa using hd
   show U () {l1,_,_,U () {(),aR.of v,ha,_,U () {(),{by lia,by lia},_,U () {(),(show(0:Int)<2 by decide),(),U () ?_}}}};show kJ (λey=>?_) (λen=>?_)
   ·show{ls (),λl2 a5=>?_};have M:=aj (o:=.lst [V.str "age",V.str "size",V.str "old"]) (am.refl L) a5;have G:aG L l2 (.lst [V.str "age",V.str "size",V.str "old"]) l2=some (.lst [V.str "age",V.str "size",V.str "old"]):=ae;generalize aG L l2 (.lst [V.str "age",V.str "size",V.str "old"])=H3 at M G⊢
    walk_at "a"
    show{l2,_,_,U () {(),aR.of G,Jx,aq ?_}};have a6:=M _ _ (k _ _ hL);show U () {.inl {(),_,aR.of a6},U () (U () {ls (),λl3 a7=>?_})};have s4:=aj (o:=.lst [V.int 24,V.int 240,V.int 2400]) (am.refl H3) a7;have I:aG H3 l3 (.lst [V.int 24,V.int 240,V.int 2400]) l3=some (.lst [V.int 24,V.int 240,V.int 2400]):=ae;generalize aG H3 l3 (.lst [V.int 24,V.int 240,V.int 2400])=H4 at s4 I⊢;obtain⟨d2,a8,aa⟩:=pS (ns:=[24,240,2400]) (i:=0+(i:Int)) (by lia) (by change _<(3:Int);lia);have bi:d2=24\/d2=240\/d2=2400:=by simpa using a8
    have bz:=bI (n/d2) (show(0:Int)<10 by decide);show U () {l3,_,_,U () {(),aR.of I,aa,_,U () {(),{by lia,by lia},_,U () {(),(show(0:Int)<10 by decide),_,U () {(),ls (),λt ht=>?_}}}}};have s5:=aj (o:=.tup [.str (zF (n/8) i),.int (n/d2%10-5)]) (am.refl H4) ht;have ad:aG H4 t (.tup [.str (zF (n/8) i),.int (n/d2%10-5)]) t=some (.tup [.str (zF (n/8) i),.int (n/d2%10-5)]):=ae;have s6:am H1 (aG H4 t (.tup [.str (zF (n/8) i),.int (n/d2%10-5)])):=((k.trans M).trans s4).trans s5;generalize aG H4 t (.tup [.str (zF (n/8) i),.int (n/d2%10-5)])=H5 at s6 ad⊢;have an:=s6 _ _ hL;have ba:=Paired.length J;have R:=c.length_le;rw[b_,b_,op]at R;show rA an (by rw[ig];omega) {bM (s1.trans s6) hl,e++[(zF (n/8) i,n/d2%10-5)],_,ae,?_,?_,.y p ha ey aa,λm hm=>?_,_,_,()}
    ·show rg (.lst an) (Paired.snoc (rg (.of s6) J) {t,(),a0.of ad})
    ·rw[hF,NF,hF];show c.append (OI _)
    ·rcases List.mem_append.mp hm with z|z
     ·show hb m z
     ·rw[List.mem_singleton.mp z];change-100<=n/d2%10-5/\n/d2%10-5<=100;lia
   ·show{s1.trans k,e,u,k _ _ hL,rg (.of k) J,?_,.n p ha en,hb,_,_,()};rw[NF,hF];show c.trans (List.sublist_append_left _ _)
  ·rintro X H1⟨s1,e,u,hL,J,c,p,hb,Z,v3,rfl⟩
   walk_at "a"
   show Ib (λX H'=>am H H'/\(Ex3 λ(l':Addr)(e:List (Str×Int))(u:List V)=>An6 (H' l'=some (.lst u)) (Paired (KK K H') u e) ((e.map (·.1)).Sublist (J3++(List.range 3).map (zF (n/8)))) (CS n e) ((∀m∈e,-100<=m.2/\m.2<=100)) (Mi λZ v3=>X=[some (.int n),some (.ref l'),Z,v3]))) ?A (λN hJ=>?B)
   case B=>
    show kJ (λe5=>?_) (λe5=>hJ _ _ {s1,l,e,u,hL,J,c.trans (List.sublist_append_right _ _),.b e5 p,hb,_,_,()});show{5,(),by lia,by lia,λD hD=>?_};show ia (K:=K) (lo:=0) (n:=5) (λj r H'=>am H1 H'/\H' D=some (.lst r)/\Paired (KK K H') r (zk.take j)) {aj (am.refl _) hD,ae,.nil} ?_ ?_
    ·rintro j r L hj⟨k,S,f⟩;obtain⟨e1,e2⟩:=E4 j (t8.mpr hj);have W:=Paired.length f;rw[mo]at W;show aq (jv (bG ?_));show U () {"abcde",_,97+j,(),(),df (dk ()),e1,"mark",({#[97+j]}:Str),(),(),df (show 4+1<=65536 by decide),U () (r2 {ls (),λt ht=>?_})};have M:=aj (o:=.tup [.str (("mark":Str)++({#[97+j]}:Str)),.int (0+(j:Int)-2)]) (am.refl L) ht;have ap:=M _ _ S;show{ap,by rw[ig];lia,lf hj {bM (k.trans M) hD,ae,?_}};rw[bP e2];show rg (.lst ap) (Paired.snoc (rg (.of M) f) {t,(),a0.of ae})
    ·rintro r L⟨k,S,f⟩;have W:=Paired.length f;have ba:=Paired.length J;have R:=c.length_le;rw[b_,b_,op]at R;show U () {D,l,_,U () {(),S,k _ _ hL,by rw[ig];have:r.length=5:=W;omega,λl' as=>aq (hJ _ _ {aj (s1.trans k) as,l',zk++e,_,ae,rg (.new as) (xo f (rg (.of k) J)),?_,.a e5 p,λm hm=>?_,_,_,()})}}
     ·rw[hF];show(OI _).append c
     ·rcases List.mem_append.mp hm with z|z
      ·show(by decide:∀m∈zk,-100<=m.2/\m.2<=100) m z
      ·show hb m z
   case A=>rintro X L⟨k,l',bb,bA,bc,f,g,ax,a2,Z,v3,rfl⟩;show U () {l',U () (.inl {aR.of bc,λt ht=>?_})};obtain⟨m1,m2⟩:=Er (n/8);have bO:=p7;show q t bb _ (aj k ht) (LD (rg (.new ht) f) (a0.of ae)) (λm hm=>{CY (m2 _ (g.subset (kw.mpr {m,hm,()}))),by have:=a2 m hm;omega,by have:=a2 m hm;omega}) (g.nodup m1) (by have:=g.length_le;rw[b_]at this;show this) ax
end
def vQ(p:Nat):Prop:=p∈[2,3,5,7,11,13]
def vQ.le{p:Nat}(h:vQ p):2<=p/\p<=13:=(by decide:∀p∈[2,3,5,7,11,13],2<=p/\p<=13) p h
structure x6 where
 pl:Addr
 L:Addr
 T:Addr
def BA(K:OZ)(H:Hp)(v:V)(t:Str×Nat):Prop:=∃b,v=.ref b/\a0 K H b [.str t.1,.int t.2]
def BA.kp(e:Kp H H')(h:Paired (BA K H) c d):Paired (BA K H') c d:=Paired.mapP h λv m⟨b,h1,h2⟩=>{b,h1,e.tq h2}
structure m4(K:OZ)(H:Hp)(p:Nat)(sa:Int)(ns:O5)(ts:List (Str×Nat))(A:x6):Prop where
 pl:H A.pl=some (.lst [.int p,.int sa,.ref A.L,.ref A.T])L:H A.L=some (.lst (ns.map V.str))T:∃us,H A.T=some (.lst us)/\Paired (BA K H) us ts
 n1:A.pl≠A.L
 n2:A.pl≠A.T
 n3:A.L≠A.T
def m4.same(h:m4 K H p sa ns c A)(e:am H H'):m4 K H' p sa ns c A:=let⟨b,h1,h2⟩:=h.T
 {e _ _ h.pl,e _ _ h.L,{b,e _ _ h1,BA.kp (.of e) h2},h.n1,h.n2,h.n3}
inductive F6(K:OZ)(vs:List V)(H:Hp)(Q:VK)(_E:XK):Prop|mk(sc:Addr)(ns:O_)(_:vs=[.ref sc])(_:aR K H sc (ns.map V.int))(_:ns.length<=63)(_:∀(A:x6)(p:Nat)(sa:Int)H',am H H'->H A.pl=none->H A.L=none->H A.T=none->m4 K H' p sa [] [] A->vQ p->(0<=sa/\sa<=cQ)->Q (.ref A.pl) H')
section
def D8(T:Txt K mg a):aP P w K mg base cV 3 a.w4.x a.w4.d ["_law_script"] (F6 K):=by
 show T.w4.ok tP λF A outer s H J Q E u h=>?_
 ·obtain⟨v,ns,rfl,y,B,q⟩:=h;have G:=wa;show{_,(ag (bj 1 tP.nd (pc T.dS (cy T) u (ac (Y 0) (ac af (ac af O))))) (ag (bj 2 tP.nd (hV K (be (ac af (ac af (ac af (ac af (ac af (ac af (ac af (ac af O))))))))) (aA aS (Y 1) af))) (ah (aB (be (ac (Y 2) (ac (aA aS (pc T.jr (rb T) u (ac (Y 0) (ac af O))) (aA bT (aA ui af af) af)) (ac (be O) (ac (be O) O))))))))),?_}
  show U () {v,ns,0,1,(),y,B,{by decide,by decide},{by decide,by decide},aq ?_};generalize cn ns 0 1=x;have l:=bI x (show(0:Int)<8 by decide);show{ls (),λi m=>?_};have f:=aj (o:=.lst [V.int 2,V.int 3,V.int 5,V.int 7,V.int 11,V.int 13,V.int 7,V.int 5]) (am.refl H) m;have e:aG H i (.lst [V.int 2,V.int 3,V.int 5,V.int 7,V.int 11,V.int 13,V.int 7,V.int 5]) i=some (.lst [V.int 2,V.int 3,V.int 5,V.int 7,V.int 11,V.int 13,V.int 7,V.int 5]):=ae;generalize aG H i (.lst [V.int 2,V.int 3,V.int 5,V.int 7,V.int 11,V.int 13,V.int 7,V.int 5])=j at f e⊢;obtain⟨p,C,g⟩:=pS (ns:=[2,3,5,7,11,13,7,5]) l.1 l.2
  walk_at "a"
  show{i,_,_,U () {(),aR.of e,g,aq ?_}};have r:vQ p.toNat/\0<=p:=(by unfold vQ;decide:∀p∈[(2:Int),3,5,7,11,13,7,5],vQ p.toNat/\0<=p) p C;obtain⟨pn,rfl⟩:∃n:Nat,p=n:={p.toNat,by lia};clear C g e l;show U () (U () {v,ns,1,(),f.seq y,B,?_});generalize wS ns 1=c;have I:=bI c (show(0:Int)<cQ+1 by lia)
  walk_at "a"
  show{ls (),λL t=>{ls (),λT k=>{ls (),λpl b=>?_}}};have n3:L≠T:=λz=>by rw[<-z,ae]at k;cases k
  have n2:pl≠T:=λz=>by rw[z,ae]at b;cases b
  have n1:pl≠L:=λz=>by rw[z,ak n3,ae]at b;cases b
  have D:am j (aG (aG j L (.lst [])) T (.lst [])):=aj (aj (am.refl j) t) k;show q (pl,L,T,) pn _ _ (f.trans (aj D b)) ((f.trans D).free b) (f.free t) ((f.trans (aj (am.refl j) t)).free k) {ae,by change aG _ _ _ L=_;rw[ak (oi n1),ak n3,ae];rfl,{[],by change aG _ _ _ T=_;rw[ak (oi n2),ae],.nil},n1,n2,n3} r.1 {I.1,by omega}
end
def gh{t u:TS}{D:j8}{c:St}(h:∀v:TS,v=u->zK t v D c H):zK t u D c H:=h u ()
def gU(M:bn):List Str:=M.las.map bF.nm
def gX(M:bn):List (Str×Nat):=M.trs.map λt=>(t.nm,t.arms.length)
def za(M:bn):Dd->List Str|.layer nm _=>gU M++[nm]|_=>gU M
def vZ(M:bn):Dd->List (Str×Nat)|.trial x=>gX M++[(x.nm,x.arms.length)]|_=>gX M
def fW(ns:O_)(m:Nat):List Str:=(List.range m).map λ(j:Nat)=>cI j (cn ns 3 4)
def Fu(ns:O_)(h:m<=4):(fW ns m).length=m/\(fW ns m).Nodup/\∀x∈fW ns m,Wd x:=by
 show{by unfold fW;rw[b_,op],?_,λx c=>?_}
 ·show List.pairwise_iff_getElem.mpr λi j hi b d e=>?_;unfold fW at e hi b;rw[b_,op]at hi b;rw[OR,OR,List.getElem_range,List.getElem_range]at e;have:=pY {by lia,by lia} {by lia,by lia} e;lia
 ·obtain⟨j,_,rfl⟩:=kw.mp c;show sR _ _
structure lN(ns:O_)(M:bn):Prop where
 ln:∀(i:Nat)(l:bF),M.las[i]?=some l->l.nm=cI i (cn ns 1 2)/\l.sl=(cn ns 2 2+i)%((M.p:Int)+1)tn:∀(j:Nat)(t:cT),M.trs[j]?=some t->t.nm=cI j (cn ns 2 3)/\t.arms=fW ns t.arms.length
 lp:M.las.length<=M.p+1
 pr:vQ M.p
def Kl(ns:O_)(M:bn):Dd->Prop|.layer nm sl=>nm=cI M.las.length (cn ns 1 2)/\sl=(cn ns 2 2+M.las.length)%((M.p:Int)+1)/\M.las.length<M.p+1|.trial x=>x.nm=cI M.trs.length (cn ns 2 3)/\x.arms=fW ns x.arms.length|_=>True
def MB(A:x6)(H H':Hp):Prop:=∃o,(o=A.L\/o=A.T)/\Kp H H'/\∀b ob,H b=some ob->b≠o->H' b=some ob
theorem MB.of(s:am H H'):MB A H H':={A.L,.inl (),.of s,λb o h _=>s b o h}
def jt(K:OZ)(ns:O_)(M:bn)(A:x6)(H:Hp)(Q:VK):Prop:=∀(b:Addr)(d:Dd)(c:List V)(H':Hp),MB A H H'->a0 K H' b c->kT K H' M d c->m4 K H' M.p M.salt (za M d) (vZ M d) A->Kl ns M d->(M.trs.length=0->d.adds=true)->Q (.ref b) H'
def jt.same(h:jt K ns M A H Q)(s:am H c):jt K ns M A c Q:=λe d f H'⟨o,h1,h2,h3⟩=>h e d f H' {o,h1,Kp.trans (.of s) h2,λb ob g=>h3 b ob (s b ob g)}
structure vU(K:OZ)(H:Hp)(sc:Addr)(ns:O_)(M:bn)(A:x6)(c:Nat):Prop where
 sq:aR K H sc (ns.map V.int)len:ns.length<=63
 pl:m4 K H M.p M.salt (gU M) (gX M) A
 ok:jy M c
 pn:lN ns M
 n4:∀H',(∀b ob,H b=some ob->b≠A.L->H' b=some ob)->aR K H' sc (ns.map V.int)
theorem vU.same(h:vU K H d ns M A c)(s:am H H'):vU K H' d ns M A c:={s.seq h.sq,h.len,h.pl.same s,h.ok,h.pn,λf g=>h.n4 f λb ob e n=>g b ob (s b ob e) n}
def m4.addL(h:m4 K H p sa ns c A)(x:Str):m4 K (aG H A.L (.lst (ns.map V.str++[.str x]))) p sa (ns++[x]) c A:=let⟨b,h1,h2⟩:=h.T
 {by rw[ak h.n1];show h.pl,by rw[ae,hF];rfl,{b,by rw[ak (oi h.n3)];show h1,BA.kp (.lst h.L) h2},h.n1,h.n2,h.n3}
def m4.addT(h:m4 K H p sa ns c A)(h1:H A.T=some (.lst d))(h2:Paired (BA K H) d c)(e:a0 K H b [.str x.1,.int x.2]):m4 K (aG H A.T (.lst (d++[.ref b]))) p sa ns (c++[x]) A:={by rw[ak h.n2];show h.pl,by rw[ak h.n3];show h.L,{_,ae,BA.kp (.lst h1) (Paired.snoc h2 {b,(),e})},h.n1,h.n2,h.n3}
inductive II(K:OZ)(vs:List V)(H:Hp)(Q:VK)(_E:XK):Prop|mk(sc:Addr)(ns:O_)(M:bn)(A:x6)(c:Nat)(_:vs=[.ref sc,.ref A.pl])(_:vU K H sc ns M A c)(_:M.las.length<4)(_:M.las.length<M.p+1)(_:jt K ns M A H Q)
def B0(h:lN ns M)(c:M.las.length<M.p+1):(cn ns 2 2+M.las.length)%((M.p:Int)+1)∉M.las.map bF.sl:=λz=>by obtain⟨l,hm,e⟩:=kw.mp z;obtain⟨i,hi⟩:=i_.mp hm;have b:=(d_.mp hi).1;rw[(h.ln i l hi).2]at e;have h1:((cn ns 2 2+M.las.length)-(cn ns 2 2+i))%((M.p:Int)+1)=0:=Int.emod_eq_emod_iff_emod_sub_eq_zero.mp e.symm;rw[show(cn ns 2 2+(M.las.length:Int))-(cn ns 2 2+i)=((M.las.length-i:Nat):Int)by lia,OJ (by lia) (by lia)]at h1;lia
def Cp(h:lN ns M)(c:M.las.length<4):cI M.las.length (cn ns 1 2)∉M.las.map bF.nm:=λz=>by obtain⟨l,hm,e⟩:=kw.mp z;obtain⟨i,hi⟩:=i_.mp hm;have b:=(d_.mp hi).1;rw[(h.ln i l hi).1]at e;have:=pY {by lia,by lia} {by lia,by lia} e;lia
def BM(h:lN ns M)(c:M.trs.length<10):cI M.trs.length (cn ns 2 3)∉M.trs.map cT.nm:=λz=>by obtain⟨t,hm,e⟩:=kw.mp z;obtain⟨i,hi⟩:=i_.mp hm;have b:=(d_.mp hi).1;rw[(h.tn i t hi).1]at e;have:=pY {by lia,by lia} {by lia,by lia} e;lia
section
def vC(T:Txt K mg a):aP P w K mg base cV 3 a.ix.x a.ix.d ["_law_script","_law_plan_here"] (II K):=by
 show T.ix.ok jV λC A outer s H I Q E r h=>?_
 ·obtain⟨z,ns,M,A,c,rfl,g,h4,B,q⟩:=h;show{_,(ag (bj 2 jV.nd (ay (aI K ()) (by rfl) T.bq L2.aK (ac (hV K (Y 1) af) O))) (ag (bj 3 jV.nd (pc T.pV (pC T) r (ac (Y 2) (ac (pc T.dS (cy T) r (ac (Y 0) (ac af (ac af O)))) O)))) (ag (aJ (eZ K () PySem.F.plainAttrs_list PySem.F.slot_list_append PySem.F.type_list_append cK (hV K (Y 1) af) (ac (Y 3) O))) (ah (aB (bx (ac aF (ac (Y 3) (ac (aA aS (aA bT (pc T.dS (cy T) r (ac (Y 0) (ac af (ac af O)))) (Y 2)) (aA bT (hV K (Y 1) af) af)) O))))))))),?_}
  have t:=g.pl;have j:(gU M).length=M.las.length:=b_ _;show U () (rX (aR.of t.pl) (ao (k:=2) ()) {_,M.las.length,(),.inl {_,aR.of t.L,by rw[b_,j]},aq ?_});show U () (U () {z,ns,1,2,(),g.sq,g.len,{by decide,by decide},{by decide,by decide},(M.las.length:Int),cn ns 1 2,(),λl m=>aq ?_});have f:=t.same m;show U () (rX (aR.of f.pl) (ao (k:=2) ()) {.inl {(),_,aR.of f.L},U () (rA f.L (by rw[b_,j,ig];lia) ?_)});have i:=f.addL (cI M.las.length (cn ns 1 2));have kp:Kp l (aG l A.L (.lst ((gU M).map V.str++[.str (cI M.las.length (cn ns 1 2))]))):=.lst f.L;have u:∀b ob,l b=some ob->b≠A.L->aG l A.L (.lst ((gU M).map V.str++[.str (cI M.las.length (cn ns 1 2))])) b=some ob:=λb ob e n=>by rw[ak n];show e
  generalize aG l A.L (.lst ((gU M).map V.str++[.str (cI M.las.length (cn ns 1 2))]))=D at i kp u⊢;have bs:=bI (cn ns 2 2+M.las.length) (show(0:Int)<(M.p:Int)+1 by lia);show U () (U () {z,ns,2,2,(),(g.same m).n4 _ u,g.len,{by decide,by decide},{by decide,by decide},U () (r2 (U () (rX (aR.of i.pl) (ao (k:=0) ()) (r2 (r2 {by change(0:Int)<(M.p:Int)+1;lia,ls (),λG v=>?_})))))});have y:=aj (o:=.tup [.str "layer",.str (cI M.las.length (cn ns 1 2)),.int ((cn ns 2 2+M.las.length)%((M.p:Int)+1))]) (am.refl D) v;show q G (.layer _ _) _ _ {A.L,.inl (),Kp.trans (.of m) (Kp.trans kp (.of y)),λb ob e n=>y _ _ (u b ob (m _ _ e) n)} (a0.of ae) (.layer (sR _ _) (Cp g.pn h4) {bs.1,by lia} (B0 g.pn B) h4) (i.same y) {(),(),B} λ_=>()
end
inductive IH(K:OZ)(vs:List V)(H:Hp)(Q:VK)(_E:XK):Prop|mk(sc:Addr)(ns:O_)(M:bn)(A:x6)(c:Nat)(n:Int)(_:vs=[.ref sc,.ref A.pl,.int n])(_:vU K H sc ns M A c)(_:M.trs.length<10)(_:0<M.las.length)(_:jt K ns M A H Q)
section
def vB(T:Txt K mg a):aP P w K mg base cV 5 a.iw.x a.iw.d ["_law_script","_law_plan_here","_law_number"] (IH K):=by
 show T.iw.ok cR λd4 A outer s H vs Q E X h=>?_
 ·obtain⟨sc,ns,M,A,c,n,rfl,Z,ba,d5,q⟩:=h;show{_,(ag (bj 3 cR.nd (ay (aI K ()) (by rfl) T.bq L2.aK (ac (hV K (Y 1) af) O))) (ag (bj 4 cR.nd (pc T.pV (pC T) X (ac (Y 3) (ac (pc T.dS (cy T) X (ac (Y 0) (ac af (ac af O)))) O)))) (ag (bj 5 cR.nd (hV K (hV K (Y 1) af) (aA aS (Y 2) (ay (aI K ()) (by rfl) T.bq L2.aK (ac (hV K (Y 1) af) O))))) (ag (bj 6 cR.nd (cx (fh K ()) (by rfl) T.dL L2.bK (ac (sC lF [] [9] [9] (ai lj) (cq 9) (eM () T.f9 (ac (aA bT af (aA aS (aA bu (Y 2) af) af)) O)) (λcl C s₀ H₀ ex=>{(mL lF [] 9),cp,(pc T.pV (pC T) X (ac (Y 9) (ac (pc T.dS (cy T) X (ac (Y 0) (ac af (ac af O)))) O)))})) O))) (ag (bj 7 cR.nd (be O)) (ag (bj 8 cR.nd (pc T.dS (cy T) X (ac (Y 0) (ac (aA bT af (Y 3)) (ac af O))))) (ag (dP np () (eM () T.f9 (ac (ay (qK ()) (by rfl) T.Ee L2.uT (ac af (ac (Y 3) O))) O)) (oA 9 cR.nd) (ah (aM (aC aW (aA aS (aA bu (Y 8) (hV K (be (ac af (ac af (ac af (ac af (ac af (ac af (ac af (ac af O))))))))) (Y 9))) af) af (aE _)) (ah (aJ (eZ K () PySem.F.plainAttrs_list PySem.F.slot_list_append PySem.F.type_list_append cK (Y 7) (ac (dh K (hV K (hV K (Y 1) af) (aA gc (aA gc (Y 3) af) (Y 9))) af) O)))) aD))) (ag (aJ (eZ K () PySem.F.plainAttrs_list PySem.F.slot_list_append PySem.F.type_list_append cK (hV K (Y 1) af) (ac (bx (ac (Y 4) (ac (ay (aI K ()) (by rfl) T.bq L2.aK (ac (Y 6) O)) O))) O))) (ah (aB (bx (ac aF (ac (Y 4) (ac (Y 5) (ac (Y 6) (ac (bQ ((yT T 3).mono (by decide)) X () T.eW.m T.eW.f.kp T.eW.b .nil aV (ac (aA bu (Y 2) af) (ac af O))) (ac (cx (fh K ()) (by rfl) T.dL L2.bK (ac (Y 7) O)) O))))))))))))))))),?_}
  have hP:=Z.pl;have d9:(gU M).length=M.las.length:=b_ _;have ci:(gX M).length=M.trs.length:=b_ _;have l4:=Z.ok.l4;obtain⟨us,a2,a3⟩:=hP.T;have a5:=Paired.length a3;rw[ci]at a5;show gh λu1 g=>?_;show U () (rX (aR.of hP.pl) (ao (k:=3) ()) {_,M.trs.length,(),.inl {_,aR.of a2,by rw[a5]},aq (jM ?_)});subst g;show gh λu1 g=>?_;show U () (U () {sc,ns,2,3,(),Z.sq,Z.len,{by decide,by decide},{by decide,by decide},(M.trs.length:Int),cn ns 2 3,(),λH1 s1=>aq (jM ?_)});subst g;show gh λu1 g=>?_;have u:=Z.same s1;have bl:=bI n (show(0:Int)<((gU M).length:Int)by lia);obtain⟨hm,c2,c3⟩:=jn bl.1 bl.2;show U () (rX (aR.of u.pl.pl) (ao (k:=2) ()) (U () (U () (rX (aR.of u.pl.pl) (ao (k:=2) ()) {_,(gU M).length,(),.inl {_,aR.of u.pl.L,by rw[b_]},_,U () {(),by change(0:Int)<((gU M).length:Int);lia,A.L,_,_,U () {(),aR.of u.pl.L,c3,aq (jM ?_)}}}))));subst g;show gh λu1 g=>?_;have b4:=bI (n/4) (show(0:Int)<4 by decide)
  walk_at "a"
  show{by lia,by lia,λD hD=>?_};obtain⟨m,c4,bb,em⟩:∃m:Nat,1<=m/\m<=4/\1+n/4%4=(m:Int):={(1+n/4%4).toNat,by lia,by lia,by lia};rw[em];obtain⟨al,bc,aw⟩:=Fu ns bb;show ia (K:=K) (lo:=0) (n:=m) (λj aa H'=>am H1 H'/\H' D=some (.lst aa)/\aa=((fW ns m).take j).map V.str) {aj (am.refl _) hD,ae,()} ?_ ?_
  ·rintro j aa H2 hj⟨s2,J,rfl⟩;rw[show(0:Int)+(j:Int)=((j:Nat):Int)by lia];show aq (jv (bG ?_));show U () (U () {sc,ns,3,4,(),s2.seq u.sq,Z.len,{by decide,by decide},{by decide,by decide},(j:Int),cn ns 3 4,(),λH3 s3=>?_});show{s3 _ _ J,by rw[b_,mo,ig];show D_ (Nu _ _) (by rw[al];omega),lf hj {bM (s2.trans s3) hD,ae,?_}};have e:(fW ns m)[j]?=some (cI (j:Int) (cn ns 3 4)):=by unfold fW;rw[g8,List.getElem?_range hj];rfl
   rw[bP e,hF];rfl
  ·rintro aa H2⟨s2,J,rfl⟩;rw[iq (Og al)]at J;show{D,U () (.inl {aR.of J,λar bi=>aq (jM ?_)})};subst g;show gh λu1 g=>?_;have s3:am H1 (aG H2 ar (.tup ((fW ns m).map V.str))):=aj s2 bi;have ad:aG H2 ar (.tup ((fW ns m).map V.str)) ar=some (.tup ((fW ns m).map V.str)):=ae;generalize aG H2 ar (.tup ((fW ns m).map V.str))=H3 at s3 ad⊢;clear J s2 bi hD;show{ls (),λsl a6=>aq (jM ?_)};subst g;show gh λu1 g=>?_;have s4:=aj (o:=.lst []) s3 a6;have an:=aj (o:=.lst []) (am.refl H3) a6 _ _ ad;have bt:=u.same s4;have ap:H1 sl=none:=s3.free a6;have as:aG H3 sl (.lst []) sl=some (.lst []):=ae;generalize aG H3 sl (.lst [])=H4 at s4 an bt as⊢;show U () (U () (r2 {sc,ns,5+(M.trs.length:Int),7,(),bt.sq,Z.len,{by lia,by lia},{by decide,by decide},aq (jM ?_)}));subst g;show gh λu1 g=>?_;generalize cn ns (5+(M.trs.length:Int)) 7=mr;obtain⟨kk,k8,kt,a7⟩:∃k:Nat,k<=8/\k<=M.trs.length/\(if(M.trs.length:Int)<8 then(M.trs.length:Int)else 8)=(k:Int):={min 8 M.trs.length,Nat.min_le_left _ _,Nu _ _,by split<;>omega};show U () {_,U () (U () {by rw[a7];lia,by rw[a7];lia,?_})};rw[a7];have nd:((M.trs.map cT.nm).reverse).Nodup:=List.pairwise_reverse.mpr (List.Pairwise.imp (λh=>oi h) Z.ok.tn);have ea:((M.trs.map cT.nm).reverse).length=M.trs.length:=by rw[NJ,b_]
   show ou (lo:=0) (n:=kk) (λi σ H'=>am H1 H'/\H' ar=some (.tup ((fW ns m).map V.str))/\∃(I:O5),H' sl=some (.lst (I.map V.str))/\I.Sublist ((M.trs.map cT.nm).reverse.take i)/\∃v9,σ=[some (.ref sc),some (.ref A.pl),some (.int n),some (.int M.trs.length),some (.str (cI M.trs.length (cn ns 2 3))),some (.str hm),some (.ref ar),some (.ref sl),some (.int mr),v9]) {s4,an,[],as,List.nil_sublist _,_,()} ?_ ?_
   ·rintro i σ H5 hi⟨S,l,I,hz,p,v9,rfl⟩N R B hN;have i8:i<8:=nn hi k8;have it:i<M.trs.length:=nn hi kt;show aq ?_;show U () {ls (),λl5 c5=>?_};show gT c5 λH6 y da=>?_;obtain⟨d,hd,ha⟩:=pS (ns:=[1,4,16,64,256,1024,4096,16384]) (i:=0+(i:Int)) (by lia) (by change _<(8:Int);lia);have dc:=(by decide:∀d∈[(1:Int),4,16,64,256,1024,4096,16384],0<d/\d<1073741824) d hd;show U () {l5,_,_,U () {(),aR.of da,ha,_,U () {(),dc,_,U () {(),(show(0:Int)<4 by decide),(),U () ?_}}}};have a8:(M.trs.map cT.nm).reverse[i]?=(M.trs.map cT.nm)[M.trs.length-1-i]?:=by rw[List.getElem?_reverse (by rw[b_];show it),b_]
    obtain⟨t,ht⟩:∃t,M.trs[M.trs.length-1-i]?=some t:={_,g6 (D_ (Nat.sub_le _ _) (Nat.sub_lt (Nat.zero_lt_of_lt it) Nat.one_pos))};rw[g8,ht]at a8;show kJ (λ_=>?_) (λ_=>hN _ _ {S.trans y,y _ _ l,I,y _ _ hz,by rw[bP a8];show p.trans (List.sublist_append_left _ _),_,()});have di:=u.pl.same (S.trans y);obtain⟨v,hv,b,rfl,hb⟩:=uc a3 (M.trs.length-1-i) (t.nm,t.arms.length) (by unfold gX;rw[g8,ht];rfl);have G:=(s1.trans (S.trans y)) _ _ a2;have bz:=y _ _ hz;have bA:=kl p.length_le (A_ _ _);show U () {.inl {(),_,aR.of bz},U () (rX (aR.of di.pl) (ao (k:=3) ()) (U () (r2 (U () (r2 ?_)))))};show rX (aR.of G) (by rw[show(M.trs.length:Int)-1-(0+(i:Int))=((M.trs.length-1-i:Nat):Int)by lia];show ao hv) (rX (am.tseq (s1.trans (S.trans y)) hb) (ao (k:=0) ()) ?_);show rA bz (by rw[b_,ig];lia) (hN _ _ {bM (S.trans y) ap,by rw[ak λz=>by rw[z,hz]at l;cases l];show y _ _ l,I++[t.nm],by rw[ae,hF];rfl,?_,_,()});rw[bP a8];show p.append (OI _)
   ·rintro σ H5⟨S,l,I,hz,p,v9,rfl⟩;show jM ?_;subst g;show gh λu1 g=>?_;have bO:=u.same S;have dA:=(p.trans (NU _ _)).nodup nd;have bA:=kl (kl p.length_le (A_ _ _)) k8;have W:=(s1.trans S) _ _ a2;have b0:=BA.kp (.of (s1.trans S)) a3;show U () (rX (aR.of bO.pl.pl) (ao (k:=3) ()) {.inl {(),_,aR.of W},U () (U () {_,m,(),.inr {_,a0.of l,by rw[b_,al]},ls (),λb hb=>?_})});show gT hb λH6 y dK=>?_;have G:=y _ _ W;show rA G (by rw[a5,ig];lia) (jM ?_);subst g;have b8:=(bO.pl.same y).addT G (BA.kp (.of y) b0) (x:=(cI M.trs.length (cn ns 2 3),m)) (a0.of dK);have kp:Kp H6 (aG H6 A.T (.lst (us++[.ref b]))):=.lst G;have hk:∀d ob,H6 d=some ob->d≠A.T->aG H6 A.T (.lst (us++[.ref b])) d=some ob:=λd ob e n=>by rw[ak n];show e
    generalize aG H6 A.T (.lst (us++[.ref b]))=H7 at b8 kp hk⊢;have nT:∀{d:Addr},H1 d=none->d≠A.T:=λh z=>by rw[z,u.pl.T.choose_spec.1]at h;cases h
    have b9:=hk _ _ (y _ _ l) (λz=>by rw[z,W]at l;cases l);have dT:=hk _ _ (y _ _ hz) (nT ap);show U () (U () (U () (U () (r2 {{by decide,by decide},n/16,3,(),by decide,by decide,λr rv H8 s8 X ho hh hc=>?_}))));show U () {sl,U () (.inl {aR.of (s8 _ _ dT),λsh dV=>{ls (),λdv cc=>?_}})};obtain⟨ra,rfl⟩:∃ra,rv=.ref ra:=by cases X<;>show{_,()}
    have s9:=aj (o:=.tup (I.map V.str)) (am.refl H8) dV;have ax:aG H8 sh (.tup (I.map V.str)) sh=some (.tup (I.map V.str)):=ae;generalize aG H8 sh (.tup (I.map V.str))=H9 at s9 ax cc⊢;have sa:=aj (o:=.tup [.str "trial",.str (cI M.trs.length (cn ns 2 3)),.str hm,.ref ar,.ref ra,.ref sh]) (am.refl H9) cc;show q dv (.trial {cI M.trs.length (cn ns 2 3),hm,fW ns m,r,I,false,false,[]}) _ _ {A.T,.inr (),Kp.trans (.of ((s1.trans S).trans y)) (Kp.trans kp (.of ((s8.trans s9).trans sa))),λd ob e n=>((s8.trans s9).trans sa) _ _ (hk d ob (((s1.trans S).trans y) _ _ e) n)} (a0.of ae) ?_ ?_ {(),by change fW ns m=fW ns (fW ns m).length;rw[al]} λ_=>()
    ·show .trial {sR _ _,c2,by rw[al];show c4,by rw[al];show bb,bc,aw,by change r.hgt<=6;omega,bA} (BM Z.pn ba) (a0.of (((s8.trans s9).trans sa) _ _ b9)) ((X.kp (.of s9)).kp (.of sa)) (by change r.cnt<=30;omega) ho (λw hw=>CY ((dk ():∀w∈Mp,Ih w=true) w hw)) (by decide) (a0.of (sa _ _ ax)) (λz hz=>Nv.mp (NB (p.subset hz))) dA () () () ba
    ·have:=b8.same ((s8.trans s9).trans sa);rw[show vZ M (.trial {cI M.trs.length (cn ns 2 3),hm,fW ns m,r,I,false,false,[]})=gX M++[(cI M.trs.length (cn ns 2 3),m)]by change gX M++[(_,(fW ns m).length)]=_;rw[al]];show this
end
inductive Dn(K:OZ)(vs:List V)(H:Hp)(Q:VK)(_E:XK):Prop|mk(sc:Addr)(ns:O_)(M:bn)(A:x6)(c:Nat)(k n:Int)(_:vs=[.ref sc,.ref A.pl,.int k,.int n])(_:vU K H sc ns M A c)(_:(0<=k/\k<=1000))(_:0<M.trs.length)(_:jt K ns M A H Q)
def vU.tri(h:vU K H l ns M A c)(h1:H A.T=some (.lst d))(h2:Paired (BA K H) d (gX M))(n:Int)(h0:0<M.trs.length):∃(t:cT)(b:Addr),t∈M.trs/\qO d (n%(d.length:Int))=some (.ref b)/\a0 K H b [.str t.nm,.int t.arms.length]:=by
 have e:=Paired.length h2;rw[show(gX M).length=M.trs.length from b_ _]at e;have b:=bI n (show(0:Int)<(d.length:Int)by lia);have f:(n%(d.length:Int)).toNat<M.trs.length:=by lia
 obtain⟨v,g,i,rfl,j⟩:=uc h2 (n%(d.length:Int)).toNat _ (by unfold gX;rw[g8,g6 f];rfl);show{_,i,OQ f,?_,j};have:=ao g;rw[show(((n%(d.length:Int)).toNat:Nat):Int)=n%(d.length:Int)by lia]at this;show this
section
def Ch(T:Txt K mg a):aP P w K mg base cV 3 a.qT.x a.qT.d ["_law_script","_law_plan_here","_law_k","_law_number"] (Dn K):=by
 show T.qT.ok mJ λan A outer s H vs Q E hr h=>?_
 ·obtain⟨sc,ns,M,A,c,k,n,rfl,m,⟨k0,k1⟩,h0,q⟩:=h;show{_,(ag (bj 4 mJ.nd (hV K (hV K (Y 1) af) (aA aS (Y 3) (ay (aI K ()) (by rfl) T.bq L2.aK (ac (hV K (Y 1) af) O))))) (ag (qf (i:=5) mJ.nd () (.inr ()) (aA bT (aA bu (hV K (Y 1) af) af) af)) (ag (aM (aC aW (aA aS (aA bu (Y 3) af) af) af (aE _)) (ag (bj 6 mJ.nd (cx (fh K ()) (by rfl) T.dL L2.bK (ac (sC mF ["_law_j"] [] [7] (ai o9) (cq 7) (eM () T.f9 (ac (dh K (Y 4) af) O)) (λcl C s₀ H₀ ex=>{(mL mF ["_law_j"] 7),cp,(aA bT af (aA aS (pc T.dS (cy T) hr (ac (Y 0) (ac (Y 2) (ac (aA bT af (Y 7)) O)))) af))})) O))) (ah (aB (bx (ac aF (ac (dh K (Y 4) af) (ac (aA aS (pc T.dS (cy T) hr (ac (Y 0) (ac (Y 2) (ac af O)))) (aA bT (hV K (Y 1) af) af)) (ac (Y 6) O)))))))) aD) (ah (aB (bx (ac aF (ac (dh K (Y 4) af) (ac (cx (fh K ()) (by rfl) T.dL L2.bK (ac (sC mF ["_law_j"] [] [7] (ai o9) (cq 7) (eM () T.f9 (ac (dh K (Y 4) af) O)) (λcl C s₀ H₀ ex=>{(mL mF ["_law_j"] 7),cp,(aA aS (pc T.dS (cy T) hr (ac (Y 0) (ac (Y 2) (ac (aA bT af (Y 7)) O)))) (Y 5))})) O)) O))))))))),?_}
  have J:=m.pl;have hp:=m.pn.pr.le;have ap:=p7;obtain⟨us,L,Z⟩:=J.T;have aa:=Paired.length Z;rw[show(gX M).length=M.trs.length from b_ _]at aa;obtain⟨t,b,B,ad,hb⟩:=m.tri L Z n h0;have a1:=(m.ok.tr t B).a1;have a4:=(m.ok.tr t B).a4;show gh λu1 R=>?_;show U () (rX (aR.of J.pl) (ao (k:=3) ()) (U () (U () (rX (aR.of J.pl) (ao (k:=3) ()) {_,us.length,(),.inl {_,aR.of L,()},_,U () {(),by change(0:Int)<(us.length:Int);lia,A.T,_,_,U () {(),aR.of L,ad,aq (jM ?_)}}}))));subst R;show gh λu1 R=>?_;show U () (rX (aR.of J.pl) (ao (k:=0) ()) (r2 {{by decide,by decide},_,U () {(),aq (jM ?_)}}));subst R;show qC ?_ (λN hN=>?_)
  rotate_left
  ·walk_at "a"
   show kJ (λ_=>?_) (λ_=>hN);show U () (rX hb (ao (k:=1) ()) (U () {by lia,by lia,λD hD=>?_}));show ia (K:=K) (lo:=0) (n:=(t.arms.length:Int).toNat) (λj f H'=>am H H'/\H' D=some (.lst f)/\∃(e:O_),f=e.map V.int/\e.length=j/\∀x∈e,1<=x/\x<=9) {aj (am.refl _) hD,ae,[],(),(),λx v=>nomatch v} ?_ ?_
   ·rintro j f S hj⟨F,l,e,rfl,r,g⟩;show aq (jv (bG ?_));have b9:=bI (cn ns k (11+(0+(j:Int)))) (show(0:Int)<9 by decide);show U () (U () (U () (r2 {sc,ns,k,11+(0+(j:Int)),(),F.seq m.sq,m.len,{by lia,by lia},{by lia,by lia},_,U () {(),(show(0:Int)<9 by decide),_,U () {(),?_}}})));show{l,by rw[b_,ig];lia,lf hj {bM F hD,ae,e++[1+cn ns k (11+(0+(j:Int)))%9],by rw[hF];rfl,by rw[hQ,r];rfl,λx v=>?_}};rcases List.mem_append.mp v with z|z
    ·show g x z
    ·rw[List.mem_singleton.mp z];lia
   ·rintro f S⟨F,l,e,rfl,r,g⟩;show{D,U () (.inl {aR.of l,λG W=>aq ?_})};have y:=aj (o:=.tup (e.map V.int)) F W;have u:aG S G (.tup (e.map V.int)) G=some (.tup (e.map V.int)):=ae;generalize aG S G (.tup (e.map V.int))=H3 at y u⊢;have bz:=bI (cn ns k 10) (show(0:Int)<(M.p:Int)+1 by lia);show U () (rX (am.tseq y hb) (ao (k:=0) ()) (U () (U () {sc,ns,k,10,(),y.seq m.sq,m.len,{by lia,by lia},{by decide,by decide},U () (rX (aR.of (y _ _ J.pl)) (ao (k:=0) ()) (r2 (r2 {by change(0:Int)<(M.p:Int)+1;lia,U () {ls (),λdv I=>?_}})))})));have X:=aj (o:=.tup [.str "deal",.str t.nm,.int (cn ns k 10%((M.p:Int)+1)),.ref G]) (am.refl H3) I;show q dv (.deal t _ e) _ _ (.of (y.trans X)) (a0.of ae) (.deal B {bz.1,by lia} (a0.of (X _ _ u)) (by lia) λx v=>{(g x v).1,by have:=(g x v).2;lia}) (J.same (y.trans X)) trivial λz=>absurd z (ot h0)
  ·show U () (rX hb (ao (k:=0) ()) (U () (rX hb (ao (k:=1) ()) (U () {by lia,by lia,λD hD=>?_}))));show ia (K:=K) (lo:=0) (n:=(t.arms.length:Int).toNat) (λj f H'=>am H H'/\H' D=some (.lst f)/\∃(e:O_),f=e.map V.int/\e.length=j/\∀x∈e,0<=x) {aj (am.refl _) hD,ae,[],(),(),λx v=>nomatch v} ?_ ?_
   ·rintro j f S hj⟨F,l,e,rfl,r,g⟩;show aq (jv (bG ?_));have b9:=bI (cn ns k (11+(0+(j:Int)))) (show(0:Int)<(M.p:Int)/2+2 by lia);show U () (U () (U () (r2 {sc,ns,k,11+(0+(j:Int)),(),F.seq m.sq,m.len,{by lia,by lia},{by lia,by lia},U () (r2 {(by change(0:Int)<(M.p:Int)/2+2;lia),?_})})));show{l,by rw[b_,ig];lia,lf hj {bM F hD,ae,e++[cn ns k (11+(0+(j:Int)))%((M.p:Int)/2+2)],by rw[hF];rfl,by rw[hQ,r];rfl,λx v=>?_}};rcases List.mem_append.mp v with z|z
    ·show g x z
    ·rw[List.mem_singleton.mp z];show b9.1
   ·rintro f S⟨F,l,e,rfl,r,g⟩;show{D,U () (.inl {aR.of l,λG W=>{ls (),λdv I=>?_}})};have y:=aj (o:=.tup (e.map V.int)) F W;have u:aG S G (.tup (e.map V.int)) G=some (.tup (e.map V.int)):=ae;generalize aG S G (.tup (e.map V.int))=H3 at y u I⊢;have X:=aj (o:=.tup [.str "share",.str t.nm,.ref G]) (am.refl H3) I;show q dv (.share t e) _ _ (.of (y.trans X)) (a0.of ae) (.share B (a0.of (X _ _ u)) (by lia) g) (J.same (y.trans X)) trivial λz=>absurd z (ot h0)
end
def uE(F G:Prop)(hc:∀Q:Bool->Hp->Prop,(F->Q true H)->(G->Q false H)->c d H Q)(h1:F->∀N:St->Hp->Prop,t {D with nx:=N} d H)(h2:G->u D d H):zK (FP c t yc) u D d H:=hc _ (λf=>bG (h1 f _)) λg=>bW (h2 g)
def AC{c:Prop}[Decidable c]{Q:Bool->Hp->Prop}{H:Hp}(h1:c->Q true H)(h2:¬c->Q false H):Q (decide c) H:=by
 by_cases e:c
 ·rw[k_ e];show h1 e
 ·rw[lm e];show h2 e
def MZ{te:TE}{g:TG}{u:TS}{D:j8}{c:St}(h1:∀Q:VK,(∀b,Q (.bl b) H)->te c H Q)(h2:∀b,g (.bl b) c H (u D)):zK (yd te g) u D c H:=h1 _ h2
inductive Gd(K:OZ)(vs:List V)(H:Hp)(Q:VK)(_E:XK):Prop|mk(sc:Addr)(ns:O_)(M:bn)(A:x6)(c:Nat)(k:Int)(_:vs=[.ref sc,.ref A.pl,.int k])(_:vU K H sc ns M A c)(_:(0<=k/\k<=1000))(_:jt K ns M A H Q)
section
def D9(T:Txt K mg a):aP P w K mg base cV 6 a.w5.x a.w5.d ["_law_script","_law_plan_here","_law_k"] (Gd K):=by
 show T.w5.ok kj λap A outer s H vs Q E G h=>?_
 ·obtain⟨S,ns,M,A,c,k,rfl,y,⟨k0,k1⟩,q0⟩:=h;show{_,(ag (bj 3 kj.nd (pc T.dS (cy T) G (ac (Y 0) (ac (Y 2) (ac af O))))) (ag (bj 4 kj.nd (aA bu (Y 3) af)) (ag (bj 5 kj.nd (pc T.mG (qk T) G (ac (aA aS (Y 4) af) (ac (pc T.dS (cy T) G (ac (Y 0) (ac af (ac af O)))) O)))) (ag (aM (PW.pt (fI (aC aW (ay (aI K ()) (by rfl) T.bq L2.aK (ac (hV K (Y 1) af) O)) af (aE _)) (dO (PW.pt (nZ (aC aW (aA aS (Y 3) af) af (aE _)) (lq (aC yH (ay (aI K ()) (by rfl) T.bq L2.aK (ac (hV K (Y 1) af) O)) (ay (qK ()) (by rfl) T.Ee L2.uT (ac (aA bT (hV K (Y 1) af) af) (ac af O))) (aE _)))))))) (ah (aB (pc T.ix (vC T) G (ac (Y 0) (ac (Y 1) O))))) aD) (ag (bj 6 kj.nd (cE (bL yH (Y 2) af (aE _)) (dH (bL yH (aA aS (Y 3) af) af (aE _))))) (ag (aM (PW.pt (fI (aC aW (ay (aI K ()) (by rfl) T.bq L2.aK (ac (hV K (Y 1) af) O)) af (aE _)) (dO (PW.pt (nZ (aC yH (ay (aI K ()) (by rfl) T.bq L2.aK (ac (hV K (Y 1) af) O)) af (aE _)) (lq (PW.pt (fI (aO K () (Y 6) (λ_=>())) (dO (aC aW (aA aS (Y 3) af) af (aE _))))))))))) (ah (aB (pc T.iw (vB T) G (ac (Y 0) (ac (Y 1) (ac (Y 4) O)))))) aD) (ag (aM (aC yH (aA aS (Y 3) af) af (aE _)) (ah (aB (pc T.qT (Ch T) G (ac (Y 0) (ac (Y 1) (ac (Y 2) (ac (Y 4) O))))))) aD) (ag (bj 7 kj.nd (dh K (hV K (hV K (Y 1) af) (aA aS (aA bu (Y 4) af) (ay (aI K ()) (by rfl) T.bq L2.aK (ac (hV K (Y 1) af) O)))) af)) (ag (aM (aC aW (aA aS (Y 3) af) af (aE _)) (ah (aB (bx (ac aF (ac (hV K (hV K (Y 1) af) (aA aS (Y 4) (ay (aI K ()) (by rfl) T.bq L2.aK (ac (hV K (Y 1) af) O)))) (ac (aA aS (aA bu (Y 4) af) (aA bT (aA bu (hV K (Y 1) af) af) af)) O)))))) aD) (ag (aM (aC aW (aA aS (Y 3) af) af (aE _)) (ah (aB (bx (ac (hV K (be (ac aF (ac aF (ac aF O)))) (aA aS (Y 4) af)) (ac (Y 7) O))))) aD) (ag (aM (aC aW (aA aS (Y 3) af) af (aE _)) (ah (aB (bx (ac (hV K (be (ac aF (ac aF (ac aF (ac aF O))))) (aA aS (Y 4) af)) (ac (Y 7) O))))) aD) (ag (aM (aC aW (aA aS (Y 3) af) af (aE _)) (ah (aB (bx (ac aF (ac (Y 5) (ac (Y 7) O)))))) aD) (ah (aB (bx (ac aF (ac (Y 5) (ac (pc T.oz (ww T) G (ac (aA bu (Y 4) af) O)) O)))))))))))))))))),?_}
  show gh λu1 n=>?_;show U () (U () {S,ns,k,5,(),y.sq,y.len,{by lia,by lia},{by decide,by decide},aq (jM ?_)});subst n;show gh λu1 n=>?_;have x0:=(GN ns k 5).1;generalize cn ns k 5=x at x0⊢;show U () (r2 {{by decide,by decide},aq (jM ?_)});subst n;show gh λu1 n=>?_;show U () (r2 {(show(0:Int)<7 by decide),U () {S,ns,4,6,(),y.sq,y.len,{by decide,by decide},{by decide,by decide},x/16%7,cn ns 4 6,(),λg H1 s1 hg _=>aq (jM ?_)}});subst n;have R:=y.same s1;have q:=q0.same s1;clear y q0 s1;have i:=R.pl;have hp:=R.pn.pr.le;obtain⟨us,D,W⟩:=i.T;have aa:=Paired.length W;rw[show(gX M).length=M.trs.length from b_ _]at aa;have X:((gU M).map V.str).length=M.las.length:=by rw[b_];show b_ _
  show uE (M.las.length<4/\M.las.length<M.p+1) (0<M.las.length) (λQ r u=>?_) (λf N=>?_) (λh0=>?_)
  ·show U () (rX (aR.of i.pl) (ao (k:=2) ()) {_,M.las.length,(),.inl {_,aR.of i.L,X.symm},(),U () (kJ (λe=>r {by lia,by lia}) (λe=>?_))});show U () (r2 {(show(0:Int)<16 by decide),(),U () (kJ (λ_=>?_) (λ_=>u (by lia)))});show U () (rX (aR.of i.pl) (ao (k:=2) ()) {_,M.las.length,(),.inl {_,aR.of i.L,X.symm},U () (rX (aR.of i.pl) (ao (k:=0) ()) (r2 {(M.p:Int)+1,4,(),r2 (U () (AC (λf=>r ?_) (λ_=>u (by lia))))}))})
   split at f<;>lia
  ·show U () (U () {S,ns,M,A,c,(),R,f.1,f.2,q})
  show MZ (λQ h=>?_) (λeb=>aq ?_)
  ·show U () (r2 (U () (jk (λ_=>?_) (λ_=>h _))));show U () (r2 {(show(0:Int)<16 by decide),_,U () {(),h _}})
  show uE (M.trs.length<10) (0<M.trs.length) (λQ r u=>?_) (λf N=>?_) (λF=>?_)
  ·show U () (rX (aR.of i.pl) (ao (k:=3) ()) {_,us.length,(),.inl {_,aR.of D,()},(),U () (kJ (λe=>r (by lia)) (λe=>?_))});have g0:0<M.trs.length:=by lia
   show U () (rX (aR.of i.pl) (ao (k:=3) ()) {_,us.length,(),.inl {_,aR.of D,()},_,U () {(),U () (jk (λe=>?_) (λ_=>u g0))}});have f:=r (by lia);show U () {eb,(),vG (λ_=>f) (λ_=>?_)};show U () (r2 {(show(0:Int)<16 by decide),(),U () (AC (λ_=>f) (λ_=>u g0))})
  ·show U () (U () (U () {S,ns,M,A,c,x/16,(),R,f,h0,q}))
  show uE True True (λQ r u=>?_) (λ_ N=>?_) (λ_=>?_)
  ·show U () (r2 {(show(0:Int)<16 by decide),_,U () {(),U () (AC (λ_=>r trivial) (λ_=>u trivial))}})
  ·show U () (U () (U () (U () {S,ns,M,A,c,k,x/16,(),R,(k0,k1,),F,q})))
  obtain⟨t,b,B,ad,hb⟩:=R.tri D W (x/16/7) F;show gh λu1 n=>?_;show U () (rX (aR.of i.pl) (ao (k:=3) ()) (U () (r2 {{by decide,by decide},U () (rX (aR.of i.pl) (ao (k:=3) ()) {_,us.length,(),.inl {_,aR.of D,()},_,U () {(),by change(0:Int)<(us.length:Int);lia,A.T,_,_,U () {(),aR.of D,ad,rX hb (ao (k:=0) ()) (aq (jM ?_))}}})})));subst n;show uE True True (λQ r u=>?_) (λ_ N=>?_) (λ_=>?_)
  ·show U () (r2 {(show(0:Int)<16 by decide),(),U () (AC (λ_=>r trivial) (λ_=>u trivial))})
  ·have as:(gU M).length=M.las.length:=b_ _;have bl:=bI (x/16) (show(0:Int)<((gU M).length:Int)by lia);have bz:=bI (x/16/4) (show(0:Int)<(M.p:Int)/3+2 by lia);obtain⟨nm,an,Z⟩:=jn bl.1 bl.2;obtain⟨l,hl,rfl⟩:=kw.mp an;show U () (rX (aR.of i.pl) (ao (k:=2) ()) (U () (U () (rX (aR.of i.pl) (ao (k:=2) ()) {_,(gU M).length,(),.inl {_,aR.of i.L,by rw[b_]},_,U () {(),by change(0:Int)<((gU M).length:Int);lia,A.L,_,_,U () {(),aR.of i.L,Z,?_}}}))));show U () (r2 {{by decide,by decide},U () (rX (aR.of i.pl) (ao (k:=0) ()) (r2 {{by decide,by decide},_,U () {(),r2 {by change(0:Int)<(M.p:Int)/3+2;lia,ls (),λC m=>?_}}}))});have j:=aj (o:=.tup [.str "hold",.str l.nm,.int (x/16/4%((M.p:Int)/3+2))]) (am.refl H1) m;show q C (.hold l _) _ _ (.of j) (a0.of ae) (.hold hl bz.1) (i.same j) trivial λz=>absurd z (ot F)
  show uE True True (λQ r u=>?_) (λ_ N=>?_) (λ_=>?_)
  ·show U () (r2 {(show(0:Int)<16 by decide),(),U () (AC (λ_=>r trivial) (λ_=>u trivial))})
  ·show{ls (),λl1 I=>?_};show gT I λH2 v J=>?_;have bm:=bI (x/16) (show(0:Int)<3 by decide);obtain⟨z,hz,Z⟩:=jn (zs:=["pause","go","go"]) bm.1 bm.2;show U () (r2 {(show(0:Int)<3 by decide),l1,_,_,U () {(),aR.of J,Z,U () {ls (),λC m=>?_}}});have j:=aj (o:=.tup [.str z,.str t.nm]) (am.refl H2) m;simp only[s_,pa,Ng]at hz;rcases hz with rfl|rfl|rfl
   ·show q C (.pause t true) _ _ (.of (v.trans j)) (a0.of ae) (.pause B) (i.same (v.trans j)) trivial λz=>absurd z (ot F)
   all_goals show q C (.pause t false) _ _ (.of (v.trans j)) (a0.of ae) (.go B) (i.same (v.trans j)) trivial λz=>absurd z (ot F)
  show uE True True (λQ r u=>?_) (λ_ N=>?_) (λ_=>?_)
  ·show U () (r2 {(show(0:Int)<16 by decide),(),U () (AC (λ_=>r trivial) (λ_=>u trivial))})
  ·show{ls (),λl1 I=>?_};show gT I λH2 v J=>?_;have bm:=bI (x/16) (show(0:Int)<4 by decide);obtain⟨z,hz,Z⟩:=jn (zs:=["close","pause","go","go"]) bm.1 bm.2;show U () (r2 {(show(0:Int)<4 by decide),l1,_,_,U () {(),aR.of J,Z,U () {ls (),λC m=>?_}}});have j:=aj (o:=.tup [.str z,.str t.nm]) (am.refl H2) m;simp only[s_,pa,Ng]at hz;rcases hz with rfl|rfl|rfl|rfl
   ·show q C (.close t) _ _ (.of (v.trans j)) (a0.of ae) (.close B) (i.same (v.trans j)) trivial λz=>absurd z (ot F)
   ·show q C (.pause t true) _ _ (.of (v.trans j)) (a0.of ae) (.pause B) (i.same (v.trans j)) trivial λz=>absurd z (ot F)
   all_goals show q C (.pause t false) _ _ (.of (v.trans j)) (a0.of ae) (.go B) (i.same (v.trans j)) trivial λz=>absurd z (ot F)
  show uE True True (λQ r u=>?_) (λ_ N=>?_) (λ_=>?_)
  ·show U () (r2 {(show(0:Int)<16 by decide),(),U () (AC (λ_=>r trivial) (λ_=>u trivial))})
  ·show U () (U () {ls (),λC m=>?_});have j:=aj (o:=.tup [.str "bar",.str g,.str t.nm]) (am.refl H1) m;show q C (.bar g t) _ _ (.of j) (a0.of ae) (.bar hg B) (i.same j) trivial λz=>absurd z (ot F)
  show U () (U () (r2 {{by decide,by decide},x/16/7,(),λmt ms H2 v hm h3 h4 h5 _=>{ls (),λC m=>?_}}));have j:=aj (o:=.tup [.str "visit",.str g,.ref mt]) (am.refl H2) m;show q C (.visit g _) _ _ (.of (v.trans j)) (a0.of ae) (.visit hg (hm.kp (.of j)) h3 h4 h5) (i.same (v.trans j)) trivial λz=>absurd z (ot F)
end
def G0:∀{c:List (bV×V)}{d:List (bV×Value)}{acc:O3},KV c d->acc.length=d.length->(∀(j:Nat)(v:Value),acc[j]?=some v->∃(k:bV)(x:Value),d[j]?=some (k,x)/\(aU P w).is k v=true)->aY (c.map λp=>kV p.1) acc:=by
 intro c d acc h
 induction h generalizing acc with|nil=>intro b _;rw[OW,List.length_eq_zero_iff]at b;rw[b];show .nil|@cons p q _ _ h _ f=>intro b hi;cases acc with|nil=>cases b|cons v r=>
   show .cons ?_ (f (by simpa using b) λj u e=>by simpa using hi (j+1) u (by simpa using e));obtain⟨k,x,e,g⟩:=hi 0 v ();have e:q=(k,x):=by simpa using e
   change aX (kV p.1) v;rw[show p.1=k by rw[h.1,e]];show xB g
def AG{X:Cx}(hc:X.calm=true):cP X (.type "list") (λg H Q=>∃(d:Addr)(c:List (bV×V)),g=[.ref d]/\H d=some (.dK c)/\∀l,H l=none->Q (.ref l) (aG H l (.lst (c.map λp=>kV p.1)))):=by intro i s B H g C Q I r h;obtain⟨d,c,rfl,hd,q⟩:=h;obtain⟨u,rfl,n⟩:=ka r;obtain rfl:u=Value.ref d:=n;obtain⟨t,x,D,k,f⟩:=I.hok d _ hd;obtain⟨E,y⟩:=f.dictAt;have F:=Paired.length k;show PySem.W.kdl_call (PySem.W.kdl_dict x) (I.ok.hd hc) y (by lia) λh' tk b z kp e m=>?_;have A:=G0 (acc:=b.toList) k (by rw[l_];show m.1) λj v e=>m.2 j v (by rw[<-rl];show e);show{.ref s.heap.objs.size,_,I.laid (h':=h') (t':=tk) (a:=s.heap.objs.size) (o:=.lst (c.map λp=>kV p.1)) kp (e_ _) ?_,(),q _ (I.hok.fresh (e_ _))};show{by rw[b_];show t,b.toList,z,A,by simpa using e}
theorem yW:∀(ns:O5)(f:Nat->V),(iR ns f).map (λp=>kV p.1)=ns.map V.str|[],_=>()|n::r,f=>by change V.str n::(iR r _).map _=V.str n::r.map V.str;rw[yW r]
def dN(l:bF)(t:cT):List Int:=t.arms.map λz=>((l.S.pl (cH t.nm z)).length:Int)
def Nc(K:OZ)(H:Hp)(d:Addr)(x:Str):Prop:=(∃b:List (bV×V),H d=some (.dK b)/\(bg b (.inr x)).isSome=true)\/∃l:List Str,a0 K H d (l.map V.str)/\nO (.str x) (l.map V.str)=true
inductive Le(K:OZ)(vs:List V)(H:Hp)(Q:VK)(_E:XK):Prop|mk(x:Str)(d:Addr)(_:vs=[.str x,.ref d])(_:Wd x)(_:Nc K H d x)(_:∀H',am H H'->Q .non H')
inductive IC(P:O4)(w:World)(K:OZ)(a:gz)(vs:List V)(H:Hp)(Q:VK)(_E:XK):Prop|mk(M:bn)(Z:ZS)(c:Nat)(_:vs=[.ref (Z.G .hh)])(_:ck P w K a H M Z c)(_:∀(r:Addr)H',am H H'->H r=none->H' r=some (.lst ((M.trs.map cT.nm).map V.str))->Q (.ref r) H')
inductive IF(P:O4)(w:World)(K:OZ)(a:gz)(vs:List V)(H:Hp)(Q:VK)(_E:XK):Prop|mk(M:bn)(Z:ZS)(c i j:Nat)(l:bF)(t:cT)(z:Str)(_:vs=[.ref (Z.G .hh),.str t.nm,.str z])(_:ck P w K a H M Z c)(_:M.trs[j]?=some t)(_:M.las[i]?=some l)(_:l.nm=t.home)(_:∀(r:Addr)H',am H H'->H r=none->H' r=some (.lst ((l.S.pl (cH t.nm z)).map V.int))->Q (.ref r) H')
inductive Dm(P:O4)(w:World)(K:OZ)(a:gz)(vs:List V)(H:Hp)(Q:VK)(_E:XK):Prop|mk(M:bn)(Z:ZS)(c i j:Nat)(l:bF)(t:cT)(_:vs=[.ref (Z.G .hh),.str t.nm])(_:ck P w K a H M Z c)(_:M.trs[j]?=some t)(_:M.las[i]?=some l)(_:l.nm=t.home)(_:∀(r:Addr)H',am H H'->H r=none->H' r=some (.tup ((dN l t).map V.int))->Q (.ref r) H')
def xX(K:OZ)(H:Hp)(v:V)(l:bF):Prop:=∃b,v=.ref b/\a0 K H b [.str l.nm,.int l.sl]
def xX.kp(e:Kp H H'){c:List V}{ls:List bF}(h:Paired (xX K H) c ls):Paired (xX K H') c ls:=Paired.mapP h λ_ _ q=>q.imp λ_ q=>{q.1,e.tq q.2}
inductive BT(P:O4)(w:World)(K:OZ)(a:gz)(vs:List V)(H:Hp)(Q:VK)(_E:XK):Prop|mk(M:bn)(Z:ZS)(c:Nat)(_:vs=[.ref (Z.G .hh)])(_:ck P w K a H M Z c)(_:∀(r:Addr)(us:List V)H',am H H'->H r=none->H' r=some (.lst us)->Paired (xX K H') us M.las->Q (.ref r) H')
inductive IT(P:O4)(w:World)(K:OZ)(a:gz)(vs:List V)(H:Hp)(Q:VK)(_E:XK):Prop|mk(M:bn)(Z:ZS)(c:Nat)(_:vs=[.ref (Z.G .hh)])(_:ck P w K a H M Z c)(_:∀(r:Addr)H',am H H'->H r=none->H' r=some (.lst Z.ds)->Q (.ref r) H')
inductive FT(P:O4)(w:World)(K:OZ)(a:gz)(vs:List V)(H:Hp)(Q:VK)(E:XK):Prop|mk(M:bn)(Z:ZS)(c:Nat)(g:Str)(mv:V)(ms:List (Str×Int))(_:vs=[.ref (Z.G .hh),.str g,mv])(_:ck P w K a H M Z c)(_:c<=63)(_:xY g)(_:qQ K H ms mv)(_:(∀m∈ms,Wd m.1/\-cQ<=m.2/\m.2<=cQ))(_:(ms.map Prod.fst).Nodup)(_:ms.length<=8)(_:∀(r:Addr)(us:List V)(H':Hp),am H H'->H r=none->H' r=some (.lst us)->∀ss,eV K H' us ss->ju M g ms M.las ss->ss.length<=4->Q (.ref r) H')
inductive Do(P:O4)(w:World)(K:OZ)(a:gz)(vs:List V)(H:Hp)(Q:VK)(_E:XK):Prop|mk(M:bn)(Z:ZS)(c i j:Nat)(l:bF)(t:cT)(z:Str)(_:vs=[.ref (Z.G .hh),.str t.nm,.str z])(_:ck P w K a H M Z c)(_:M.trs[j]?=some t)(_:M.las[i]?=some l)(_:l.nm=t.home)(_:z∈t.arms)(_:∀(r:Addr)H',am H H'->H r=none->H' r=some (.lst ((l.S.pl (cH t.nm z)).map V.int))->Q (.ref r) H')
section
def gI(T:Txt K mg a):aP P w K mg base cV 3 a.dB.x a.dB.d ["thing","names"] (Le K):=by
 show T.dB.ok tK λg A outer s H i Q E e h=>?_
 ·obtain⟨x,d,rfl,h1,h2,q⟩:=h;show{_,(ah (aM (PW.pt (fI (ca (aO K () (pc T.d0 (hE T) e (ac (Y 0) O)) (λ_=>()))) (dO (n6 (Cc K () (ce e) (Y 0) (Y 1)) ())))) (ah cr) aD)),?_};show{_,(),V.str x,(),.inl {x,(),h1,λf b=>{_,(),bW ?_}}};show{_,(),_,(),?_};rcases h2 with⟨c,h2,h3⟩|⟨l,h2,h3⟩
  ·show .inl (rG (bg c (.inr x)) (dF.k (k:=.inr x) (b _ _ h2)) (U () ?_));rw[h3];show bW (q f b)
  ·show .inr {d,U () {.inr (am.tseq b h2),(),mH l,U () ?_}};rw[h3];show bW (q f b)
def iQ(T:Txt K mg a):aP P w K mg base cV 1 a.cf.x a.cf.d ["self"] (IC P w K a):=by
 show T.cf.ok rS λf A outer s H i Q E j h=>?_
 ·obtain⟨M,Z,c,rfl,b,q⟩:=h;show{_,(ah (aB (cx (AG ()) (by rfl) T.jZ L2.eR (ac (aH K () (Y 0)) O)))),?_};show gE b.g.house T.au T.aL () () {Z.G .tn,U () {b.g.tris,λl e=>q l _ (aj (am.refl H) e) e (by rw[ae,yW])}}
def jh(T:Txt K mg a):aP P w K mg base cV 2 a.bS.x a.bS.d ["self","trial","arm"] (IF P w K a):=by
 show T.bS.ok nU λS A outer s H vs Q E n h=>?_
 ·obtain⟨M,Z,c,i,j,l,t,z,rfl,e,L,B,hh,q⟩:=h;show{_,(ah (aB (aZ (aH K () (dy (ce n) (aH K () (Y 0)) (aH K () (dy (ce n) (aH K () (Y 0)) (Y 1) (λ_ _=>()))) (λ_ _=>()))) T.bo T.bd.m ((dZ (P:=P) (w:=w) T).mono (by decide)) n T.bd.b .nil aV (ac (bx (ac (Y 1) (ac (Y 2) O))) O)))),?_};have N:=e.g.house;have C:=e.g.trial L;obtain⟨m,f,D⟩:=e.g.tab B;obtain⟨V,F⟩:=f.ins;have u:=e.ok.lget (Z:=Z) B;rw[hh]at u;show gE N T.au T.aQ () () ?_;show gE N T.au T.aL () () (U () (rG (.ref (Z.G (.tr j))) (by rw[<-e.ok.tget (Z:=Z) L];show dF.k (k:=.inr t.nm) e.g.tris) ?_));show rF C T.a9 T.fQ () (rG (.ref (Z.G (.lo i))) (by rw[<-u];show dF.k (k:=.inr t.home) e.g.lays) ?_);show rF (e.g.layer B) T.bH T.fc () (rM F () ?_);show U () (U () {ls (),λv I=>?_});have y:=aj (o:=.tup [.str t.nm,.str z]) (am.refl H) I;have R:aG H v (.tup [.str t.nm,.str z]) v=some (.tup [.str t.nm,.str z]):=ae;generalize aG H v (.tup [.str t.nm,.str z])=H4 at y R⊢;show{Z.G (.tb i),Z.G (.od i),Z.G (.td i),M.p,Z.ow i,Z.tk i,m,cH t.nm z,.ref v,(),f.same y,{v,(),a0.of R},λr W X n J=>q r W (y.trans X) (y.free n) ?_};rw[<-D.1];show J
def sk(T:Txt K mg a):aP P w K mg base cV 4 a.eE.x a.eE.d ["self","trial","arm"] (Do P w K a):=by
 show T.eE.ok rW λF A outer s H R Q E n h=>?_
 ·obtain⟨M,Z,c,i,j,l,t,z,rfl,f,o,I,hh,C,q⟩:=h;show{_,(ag (aJ (pc T.dB (gI T) n (ac (Y 1) (ac (aH K () (Y 0)) O)))) (ag (aJ (pc T.dB (gI T) n (ac (Y 2) (ac (aH K () (dy (ce n) (aH K () (Y 0)) (Y 1) (λ_ _=>()))) O)))) (ah (aB (aZ (Y 0) T.au T.bS.m ((jh (P:=P) (w:=w) T).mono (by decide)) n T.bS.b .nil aV (ac (Y 1) (ac (Y 2) O))))))),?_}
  have v:=f.g.house;have p:=f.ok.tr t (gV o);have D:=f.ok.tget (Z:=Z) o;obtain⟨y,-,-⟩:=f.g.trs j t o;show U () (gE v T.au T.aL () () {t.nm,Z.G .tn,(),p.wd,.inl {_,f.g.tris,by rw[D];rfl},λS u=>?_});show U () (gE (u _ _ v) T.au T.aL () () (U () (rG (.ref (Z.G (.tr j))) (by rw[<-D];show dF.k (k:=.inr t.nm) (u _ _ f.g.tris)) ?_)));show rF (u _ _ (f.g.trial o)) T.a9 T.eO () {z,Z.ar j,(),p.aw z C,.inr {_,am.tseq u y,zh C},λV J=>?_};have e:=u.trans J;show jw (e _ _ v) () () (U () (U () {M,Z,c,i,j,l,t,z,(),f.same e,o,I,hh,λr L N n B=>q r L (e.trans N) (e.free n) B}))
def sj(T:Txt K mg a):aP P w K mg base cV 4 a.et.x a.et.d ["self","trial"] (Dm P w K a):=by
 show T.et.ok rT λaa A outer s H vs Q E p h=>?_
 ·obtain⟨M,Z,c,i,j,l,t,rfl,o,y,hl,hh,q⟩:=h;show{_,(ag (aJ (pc T.dB (gI T) p (ac (Y 1) (ac (aH K () (Y 0)) O)))) (ah (aB (cx (fh K ()) (by rfl) T.dL L2.bK (ac (sC jp ["arm"] [] [2] (ai jc) (cq 2) (iG K () (aH K () (dy (ce p) (aH K () (Y 0)) (Y 1) (λ_ _=>())))) (λcl C s₀ H₀ ex=>{(mL jp ["arm"] 2),cp,(ay (aI K ()) (by rfl) T.bq L2.aK (ac (aZ (Y 0) T.au T.bS.m ((jh (P:=P) (w:=w) T).mono (by decide)) p T.bS.b .nil aV (ac (Y 1) (ac (Y 2) O))) O))})) O))))),?_}
  have I:=o.g.house;have J:=o.g.trial y;have B:=o.ok.tr t (gV y);obtain⟨F,-,-⟩:=o.g.trs j t y;have W:=o.ok.tget (Z:=Z) y;have a4:=B.a4;show U () (gE I T.au T.aL () () {t.nm,Z.G .tn,(),B.wd,.inl {_,o.g.tris,by rw[W];rfl},λH1 u=>?_});show gE (u _ _ I) T.au T.aL () () (U () (rG (.ref (Z.G (.tr j))) (by rw[<-W];show dF.k (k:=.inr t.nm) (u _ _ o.g.tris)) ?_));show rF (u _ _ J) T.a9 T.eO () {Z.ar j,(),{_,am.tseq u F},λD X=>?_};have L:H D=none:=u.free X;show gR (K:=K) (a:=Z.ar j) (xs:=t.arms.map V.str) (λk f H'=>am H H'/\H' D=some (.lst f)/\f=((dN l t).take k).map V.int) {aj u X,ae,()} (λk f H' _ h=>am.tseq h.1 F) ?_ ?_
  ·rintro k x f H2 N⟨v,n,rfl⟩;have hi:k<(t.arms.map V.str).length:=(d_.mp N).1;rw[g8]at N;obtain⟨z,hz,rfl⟩:=Option.map_eq_some_iff.mp N;show aq (jv (bG ?_));show jw (v _ _ I) () () (U () (U () {M,Z,c,i,j,l,t,z,(),o.same v,y,hl,hh,λr H3 s3 p R=>?_}));show{_,U () {.inl {_,aR.of R,()},s3 _ _ n,by rw[b_,mo,ig];rw[b_]at hi;lia,lf hi {bM (v.trans s3) L,ae,?_}}};have e:(dN l t)[k]?=some ((l.S.pl (cH t.nm z)).length:Int):=by unfold dN;rw[g8,hz];rfl
   rw[bP e,hF,b_];rfl
  ·rintro f H2⟨v,n,rfl⟩;rw[b_,iq (by unfold dN;rw[b_];show e_ _)]at n;show{D,U () (.inl {aR.of n,λr p=>q r _ (aj v p) (v.free p) ae})}
def iI(T:Txt K mg a):aP P w K mg base cV 1 a.cz.x a.cz.d ["self"] (IT P w K a):=by
 show T.cz.ok vn λf A outer s H i Q E j h=>?_
 ·obtain⟨M,Z,c,rfl,b,q⟩:=h;show{_,(ah (aB (cx (lC K ()) (by rfl) T.jZ L2.eR (ac (aH K () (Y 0)) O)))),?_};show gE b.g.house T.au T.jj () () {Z.G .dl,U () {.inl (aR.of b.g.dees),λl e=>q l _ (aj (am.refl H) e) e ae}}
def sr(T:Txt K mg a):aP P w K mg base cV 1 a.eF.x a.eF.d ["self"] (BT P w K a):=by
 show T.eF.ok rY λas A outer s H vs Q E hr h=>?_
 ·obtain⟨M,Z,c,rfl,R,q⟩:=h;show{_,(ah (aB (zY (P:=P) (w:=w) (sC ["self"] ["name","layer"] [] [1,2] (ai jd) (qF _ 1 2) (pk (P:=P) (w:=w) (aH K () (Y 0))) (λcl C s₀ H₀ ex=>{(fC K () () (bh (mL ["self"] ["name","layer"] 1) (bh (mL ["self"] ["name","layer"] 2) fB))),cp,(bx (ac (Y 1) (ac (aH K () (Y 2)) O)))}))))),?_}
  have ax:=R.ok.l4;have F:=R.g.lays;show gE R.g.house T.au T.aQ () () {Z.G .ln,U () {F,λep=>λD S=>?_}};have nd:Z.G .ln≠D:=λz=>by rw[<-z,ae]at S;cases S
  have m:H D=none:=by rw[ak (oi nd)]at S;show S
  show pQ (n:=M.las.length) (λk f I=>(∀b o,H b=some o->b≠Z.G .ln->I b=some o)/\I (Z.G .ln)=some (dE P w (Z.G .ln) (iR (M.las.map bF.nm) λi=>.ref (Z.G (.lo i))) ep)/\I D=some (.lst f)/\Paired (xX K I) f (M.las.take k)) {λb o e n=>by rw[ak (av e m),ak n];show e,by rw[ak nd,ae],ae,.nil} (λk f I V h=>{h.2.1,by rw[gL,b_];show V}) ?_ ?_
  ·rintro k f p x v V⟨W,j,t,l⟩⟨X,kk,vv,aa,rfl,rfl,J⟩;have hl:=g6 V;rw[uw,g8,hl]at J;obtain⟨rfl,rfl⟩:=Nz (iA J);have y:=aj (o:=.tup [kV (.inr (M.las[k]).nm),.ref (Z.G (.lo k))]) (am.refl p) aa;have e5:aG p X (.tup [kV (.inr (M.las[k]).nm),.ref (Z.G (.lo k))]) X=some (.tup [.str (M.las[k]).nm,.ref (Z.G (.lo k))]):=ae;generalize aG p X (.tup [kV (.inr (M.las[k]).nm),.ref (Z.G (.lo k))])=v at y e5⊢;have ad:qW P w K a H v M Z c:={R,λb o e n=>y _ _ (W b o e n)};show{X,U () {a0.of e5,(),_,U () (aq {_,U () (aq {(),jv (bG ?_)})})}};have an:=ad.at_ (r:=.lo k) (by simp only[cont,hl];rfl) (by simp);show U () (gE an T.bH T.gN () () {ls (),λB ap=>?_});have L:=aj (o:=.tup [.str (M.las[k]).nm,.int (M.las[k]).sl]) (am.refl v) ap;have e6:aG v B (.tup [.str (M.las[k]).nm,.int (M.las[k]).sl]) B=some (.tup [.str (M.las[k]).nm,.int (M.las[k]).sl]):=ae;change aG v B (.tup [.str (M.las[k]).nm,.int (M.las[k]).sl]) D=some (.lst f)/\_;generalize aG v B (.tup [.str (M.las[k]).nm,.int (M.las[k]).sl])=H6 at L e6⊢;have N:=L _ _ (y _ _ t);have kp:Kp H6 (aG H6 D (.lst (f++[.ref B]))):=.lst N;have a2:f.length=k:=by have:=Paired.length l;rw[mo]at this;lia
   show{N,by rw[ig];lia,lf V {λb o e n=>by rw[ak (av e m)];show L _ _ (y _ _ (W b o e n)),by rw[ak nd];show L _ _ (y _ _ j),ae,?_}};rw[bP hl];show Paired.snoc (xX.kp ((Kp.trans (.of y) (.of L)).trans kp) l) {B,(),kp.tq (a0.of e6)}
  ·rintro f p⟨W,j,t,l⟩;rw[iq (e_ _)]at l;show{{j,by rw[gL,b_];show e_ _},Z.G .ln,_,ep,j,?_};have sF:am H (aG p (Z.G .ln) (.dK (iR (M.las.map bF.nm) λi=>.ref (Z.G (.lo i))))):=λb o e=>by
    by_cases z:b=Z.G .ln
    ·rw[z,F]at e;rw[z,ae];show e
    ·rw[ak z];show W b o e z
   have kp:Kp p (aG p (Z.G .ln) (.dK (iR (M.las.map bF.nm) λi=>.ref (Z.G (.lo i))))):={λu xs e=>by rw[ak λz=>by rw[z,j]at e;cases e];show e,λu o⟨o',e⟩=>{o',by rw[ak λz=>by rw[z,j]at e;cases e];show e}};show q D f _ sF m (by rw[ak (oi nd)];show t) (xX.kp kp l)
def uu(T:Txt K mg a):aP P w K mg base cV 10 a.fk.x a.fk.d ["self","guest","marks"] (FT P w K a):=by
 show T.fk.ok tQ λo A outer s H D Q E f h=>?_
 ·obtain⟨M,Z,c,g,k,l,rfl,p,hc,hg,hm,h3,h4,h5,q⟩:=h;show{_,(ag (aJ (pc T.cS (fb T) f (ac (Y 1) O))) (ag (aJ (pc T.ff (mi T) f (ac (Y 2) O))) (ah (aB (aZ (Y 0) T.au T.bw.m ((iL (P:=P) (w:=w) T).mono (by decide)) f T.bw.b .nil aV (ac (Y 1) (ac (Y 2) O))))))),?_}
  show U () {g,(),hg,λF n=>?_};show U () {k,l,(),hm.kp (.of n),h3,h4,h5,λG t=>?_};have e:=n.trans t;have i:=p.same e;show jw i.g.house () () (U () (U () {M,Z,c,g,k,l,(),i,hc,hg,hm.kp (.of e),h5,λr u v y f j z B C h4=>q r u v (e.trans y) (e.free f) j z B C h4}))
end
def wZ(K:OZ)(H:Hp)(g:Str)(d:List V)(ls:List bF):Prop:=Paired (λ(u:V)(l:bF)=>∃b c,u=.ref b/\a0 K H b [.str l.nm,c]/\u0 K H c (cW l g)) d ls
theorem wZ.kp{g:Str}(e:Kp H H'){c:List V}{ls:List bF}(h:wZ K H g c ls):wZ K H' g c ls:=Paired.mapP h λ_ _ q=>q.imp λ_ q=>q.imp λ_ q=>{q.1,e.tq q.2.1,q.2.2.kp e}
def wZ.get{g:Str}{c:List V}{ls:List bF}(h:wZ K H g c ls)(k:Nat)(u:V)(e:c[k]?=some u):∃l,ls[k]?=some l/\∃b d,u=.ref b/\a0 K H b [.str l.nm,d]/\u0 K H d (cW l g):=Paired.at_ h k u e
inductive F0(P:O4)(w:World)(K:OZ)(a:gz)(vs:List V)(H:Hp)(Q:VK)(_E:XK):Prop|mk(M:bn)(Z:ZS)(c:Nat)(g:Str)(_:vs=[.ref (Z.G .hh),.str g])(_:ck P w K a H M Z c)(_:xY g)(_:∀(r:Addr)(us:List V)H',am H H'->H r=none->H' r=some (.lst us)->eV K H' us (tj M g)->Q (.ref r) H')
inductive IP(P:O4)(w:World)(K:OZ)(a:gz)(vs:List V)(H:Hp)(Q:VK)(_E:XK):Prop|mk(M:bn)(Z:ZS)(c:Nat)(g:Str)(_:vs=[.ref (Z.G .hh),.str g])(_:ck P w K a H M Z c)(_:c<=200)(_:xY g)(_:∀(r:Addr)(us:List V)H',am H H'->H r=none->H' r=some (.lst us)->fM K H' us (dC M.came g)->Q (.ref r) H')
inductive JC(P:O4)(w:World)(K:OZ)(H1:Hp)(M:bn)(Z:ZS)(g:Str)(D:Addr)(ep:Nat)(k:Nat)(acc:List V)(H2:Hp):Prop|mk(f:∀b o,H1 b=some o->b≠Z.G .ln->H2 b=some o)(hu:H2 (Z.G .ln)=some (dE P w (Z.G .ln) (iR (M.las.map bF.nm) λi=>.ref (Z.G (.lo i))) ep))(hD:H2 D=some (.lst acc))(hR:wZ K H2 g acc (M.las.take k)):JC P w K H1 M Z g D ep k acc H2
section
def uv(T:Txt K mg a):aP P w K mg base cV 4 a.fq.x a.fq.d ["self","guest"] (F0 P w K a):=by
 show T.fq.ok lV λbl A outer s H vs Q E hr h=>?_
 ·obtain⟨M,Z,c,g,rfl,hZ,hg,q⟩:=h;show{_,(ag (aJ (pc T.cS (fb T) hr (ac (Y 1) O))) (ag (zU (P:=P) (w:=w) (Ke 2 dI ["name","layer"] [] [3,4] (ai iE) (qF _ 3 4) (pk (P:=P) (w:=w) (aH K () (Y 0))) (λcl C s₀ H₀ ex=>{(fC K () () (bh (mL dI ["name","layer"] 3) (bh (mL dI ["name","layer"] 4) fB))),cp,(bx (ac (Y 3) (ac (uf (ce hr) (aH K () (Y 4)) (Y 1) {(),(),(),()}) O)))}) lV.nd)) (ah (aB (sC dI ["name","seat"] [] [3,4] (ai iE) (qF _ 3 4) (cO K () (Y 2)) (λcl C s₀ H₀ ex=>{(fC K () () (bh (mL dI ["name","seat"] 3) (bh (mL dI ["name","seat"] 4) fB))),(mK (aC Bb (Y 4) n9 (aE _))),(aA (uj K ()) (bx (ac (Y 3) O)) (Y 4))})))))),?_}
  have ad:=hZ.ok.l4;show U () {g,(),hg,λH1 s1=>?_};have J:=hZ.same s1;have an:=J.g.lays;show gE J.g.house T.au T.aQ () () {Z.G .ln,U () {an,λep=>λD hD=>?_}};have nd:Z.G .ln≠D:=λz=>by rw[<-z,ae]at hD;cases hD
  have ap:H1 D=none:=by rw[ak (oi nd)]at hD;show hD
  show pQ (n:=M.las.length) (JC P w K H1 M Z g D ep) {λb o e n=>by rw[ak (av e ap),ak n];show e,by rw[ak nd,ae],ae,.nil} (λk f H2 R h=>by obtain⟨_,h,_⟩:=h;show{h,by rw[gL,b_];show R}) ?_ ?_
  ·rintro k f H4 x H5 R⟨f4,t,S,I⟩⟨T1,kk,vv,a7,rfl,rfl,as⟩;obtain⟨l,N⟩:∃l,M.las[k]?=some l:={_,g6 R};rw[uw,g8,N]at as;obtain⟨rfl,rfl⟩:=Nz (iA as);show gT a7 λH5 s5 e5=>?_;have e5:H5 T1=some (.tup [.str l.nm,.ref (Z.G (.lo k))]):=e5;have V:qW P w K a H1 H5 M Z c:={J,λb o e n=>s5 _ _ (f4 b o e n)};show{T1,U () {a0.of e5,(),_,U () (aq {_,U () (aq {(),jv (bG ?_)})})}};have a8:=V.at_ (r:=.lo k) (by simp only[cont,N];rfl) (by simp);have ax:=V.at_ (r:=.iu k) (by simp only[cont,N];rfl) (by simp);show U () (gE a8 T.bH T.bE () () {Z.G (.iu k),(),.inl {_,.inl ax},U () {bg (Z.iv k) (.inr g),dF.k (k:=.inr g) ax,ls (),λT6 ba=>?_}});show gT ba λH6 F e6=>?_;have m:=F _ _ (s5 _ _ S);have kp:Kp H6 (aG H6 D (.lst (f++[.ref T6]))):=.lst m;have a2:f.length<=4:=by rw[Paired.length I];show kl (List.length_take_le' _ _) ad
   show{m,by rw[ig];lia,lf R {λb o e n=>by rw[ak (av e ap)];show F _ _ (s5 _ _ (f4 b o e n)),by rw[ak nd];show F _ _ (s5 _ _ t),ae,?_}};rw[bP N];have bb:=(J.g.seats k _ N).seat g;show Paired.snoc (((I.kp (.of s5)).kp (.of F)).kp kp) {T6,U () {kp.tq (a0.of e6),((bb.kp V.kp).kp (.of F)).kp kp}}
  ·rintro f H4⟨f4,t,S,I⟩;rw[iq (e_ _)]at I;show{{t,by rw[gL,b_];show e_ _},aq {Z.G .ln,_,ep,t,?_}};have sF:am H1 (aG H4 (Z.G .ln) (.dK (iR (M.las.map bF.nm) λi=>.ref (Z.G (.lo i))))):=λb o e=>by
    by_cases z:b=Z.G .ln
    ·rw[z,an]at e;rw[z,ae];show e
    ·rw[ak z];show f4 b o e z
   have kp:Kp H4 (aG H4 (Z.G .ln) (.dK (iR (M.las.map bF.nm) λi=>.ref (Z.G (.lo i))))):={λu xs e=>by rw[ak λz=>by rw[z,t]at e;cases e];show e,λu o⟨o',e⟩=>{o',by rw[ak λz=>by rw[z,t]at e;cases e];show e}};have W:aG H4 (Z.G .ln) (.dK (iR (M.las.map bF.nm) λi=>.ref (Z.G (.lo i)))) D=some (.lst f):=by rw[ak (oi nd)];show S
   have X:=I.kp kp;generalize aG H4 (Z.G .ln) (.dK (iR (M.las.map bF.nm) λi=>.ref (Z.G (.lo i))))=H5 at sF W X⊢;have a2:f.length=M.las.length:=Paired.length X;show U () {D,(),{_,aR.of W},λD2 aa=>?_};show i5 (K:=K) (a:=D) (xs:=f) (λk j H'=>am H5 H'/\H' D2=some (.lst j)/\eV K H' j ((M.las.take k).filterMap λl=>(cW l g).map λp=>(l.nm,p.1,p.2))) {aj (am.refl _) aa,ae,.nil} (λk j H' _ h=>aR.of (h.1 _ _ W)) ?_ ?_
   ·rintro k v j H6 hv⟨F,m,y⟩;have R:k<f.length:=(d_.mp hv).1;obtain⟨l,N,b,sv,rfl,hb,B⟩:=X.get k v hv;have bi:j.length<=4:=by rw[Paired.length y];show kl (Nh _ _) (kl (List.length_take_le' _ _) ad)
    show{b,U () {am.tseq F hb,(),_,U () (aq {_,U () (aq {(),?_})})}};cases L:cW l g with|none=>rw[L]at B;have B:sv=.non:=B;subst B;show U () {(),U () (bW (lf R {F,m,?_}))};rw[bP N,so,sg,L];show(n7 _).symm▸y|some p=>rw[L]at B;obtain⟨s,rfl,hs⟩:=B;show U () {(),U () (bG (U () {ls (),λT7 a3=>(U () {T7,s,[.str l.nm],U () {(),a0.of ae,am.tseq (aj F a3) hs,by simp,by rw[ig];simp,λz=>(nomatch z),λ_ T8 bc=>?_}})}))};show gT bc λH9 s8 e9=>?_;have s9:=(aj (o:=.tup [.str l.nm]) (am.refl H6) a3).trans s8;have e9:H9 T8=some (.tup [.str l.nm,.str p.1,.str p.2]):=e9;have a5:=s9 _ _ m;have a6:Kp H9 (aG H9 D2 (.lst (j++[.ref T8]))):=.lst a5;show{a5,by rw[ig];lia,lf R {bM (F.trans s9) aa,ae,?_}};rw[bP N,so,sg,L];show Paired.snoc ((y.kp (.of s9)).kp a6) {T8,(),a6.tq (a0.of e9)}
   ·rintro j H6⟨F,m,y⟩;rw[a2,iq (e_ _)]at y;show q D2 j H6 ((s1.trans sF).trans F) (s1.free (sF.free aa)) m y
def vD(T:Txt K mg a):aP P w K mg base cV 4 a.gk.x a.gk.d ["self","guest"] (IP P w K a):=by
 show T.gk.ok vm λC A outer s H N Q E i h=>?_
 ·obtain⟨M,Z,c,g,rfl,D,hc,hg,q⟩:=h;show{_,(ag (aJ (pc T.cS (fb T) i (ac (Y 1) O))) (ah (aB (cx (lC K ()) (by rfl) T.jZ L2.eR (ac (ue (ce i) (aH K () (Y 0)) (Y 1) (be O) {(),(),(),()}) O))))),?_}
  show U () {g,(),hg,λp v=>?_};have f:=D.same v;show gE f.g.house T.au T.cY () () {Z.G .ci,(),.inl {_,.inl f.g.cams},U () {ls (),λj t=>?_}};have m:=aj (o:=.lst []) (am.refl p) t;have y:aG p j (.lst []) j=some (.lst []):=ae;generalize aG p j (.lst [])=z at m y⊢;show{bg Z.cv (.inr g),dF.k (k:=.inr g) (m _ _ f.g.cams),?_};obtain⟨n,b,F,u,I⟩:∃n b,(bg Z.cv (.inr g)).getD (.ref j)=.ref n/\z n=some (.lst b)/\fM K z b (dC M.came g):=by
   rcases f.g.came.find g with⟨e,J⟩|⟨l,L,e,_,h2,h3,h4⟩
   ·show{j,[],by rw[e];rfl,y,by rw[J];show .nil}
   ·show{l,L,by rw[e];rfl,m _ _ h2,h3.kp (.of m)}
  rw[F];have B:=v.trans m;show{n,b,(),.inl (aR.of u),λr i=>q r b _ (aj B i) (B.free i) ae (I.kp (.of (aj (am.refl _) i)))}
end
def mW(ins:List (Str×Str×Str))(t:Str):List (List Str):=(ins.filter λx=>decide (x.2.1=t)).map λx=>[x.1,x.2.2]
inductive K8(P:O4)(w:World)(K:OZ)(a:gz)(vs:List V)(H:Hp)(Q:VK)(_E:XK):Prop|mk(M:bn)(Z:ZS)(c i j:Nat)(l:bF)(t:cT)(_:vs=[.ref (Z.G .hh),.str t.nm])(_:ck P w K a H M Z c)(_:c<=63)(_:M.trs[j]?=some t)(_:M.las[i]?=some l)(_:l.nm=t.home)(_:∀(r:Addr)(us:List V)H',am H H'->H r=none->H' r=some (.lst us)->fN K H' us (ke (mW l.ins t.nm))->Q (.ref r) H')
def vW{ins:List (Str×Str×Str)}{t:Str}{y:Str×Str×Str}:mW (ins++[y]) t=mW ins t++if y.2.1=t then[[y.1,y.2.2]]else[]:=by
 unfold mW;rw[NN,hF]
 by_cases e:y.2.1=t
 ·rw[hY e,N7 (by simp[e])];rfl
 ·rw[h_ e,N8 (by simp[e])];rfl
def KN{ins:List (Str×Str×Str)}{t:Str}:∀d∈mW ins t,d.length=2:=λd hd=>by obtain⟨_,_,rfl⟩:=kw.mp hd;rfl
inductive JW(P:O4)(w:World)(K:OZ)(H1:Hp)(u:Addr)(iv:List (bV×V))(ins:List (Str×Str×Str))(t:Str)(D:Addr)(ep k:Nat)(acc:List V)(H2:Hp):Prop|mk(us:O9)(f:∀b o,H1 b=some o->b≠u->H2 b=some o)(hu:H2 u=some (dE P w u iv ep))(hD:H2 D=some (.lst acc))(e:acc=us.map V.ref)(hk:us.length<=k)(hR:Paired (λ(u:Addr)(d:O5)=>a0 K H2 u (d.map V.str)) us (mW (ins.take k) t)):JW P w K H1 u iv ins t D ep k acc H2
section
def lu(T:Txt K mg a):aP P w K mg base cV 4 a.dU.x a.dU.d ["self","trial"] (K8 P w K a):=by
 show T.dU.ok oP λbi A outer s H vs Q E I h=>?_
 ·obtain⟨M,Z,c,i,j,l,t,rfl,F,hc,hj,W,hh,q⟩:=h;show{_,(ag (aJ (pc T.dB (gI T) I (ac (Y 1) (ac (aH K () (Y 0)) O)))) (ag (bj 2 oP.nd (aH K () (dy (ce I) (aH K () (Y 0)) (aH K () (dy (ce I) (aH K () (Y 0)) (Y 1) (λ_ _=>()))) (λ_ _=>())))) (ah (aB (ay (uL K ()) (by rfl) T.ux L2.mB (ac (zY (P:=P) (w:=w) (sC jP ["guest","seat"] [] [3,4] (ai l7) (qF _ 3 4) (pk (P:=P) (w:=w) (Y 2)) (λcl C s₀ H₀ ex=>{(fC K () () (bh (mL jP ["guest","seat"] 3) (bh (mL jP ["guest","seat"] 4) fB))),(mK (aC aW (dh K (Y 4) af) (Y 1) (aE _))),(bx (ac (Y 3) (ac (dh K (Y 4) af) O)))}))) O)))))),?_}
  have hI:=F.g.house;have bl:=F.g.trial hj;have a5:=F.ok.tr t (gV hj);have hv:=F.ok.tget (Z:=Z) hj;have X:=F.ok.lget (Z:=Z) W;rw[hh]at X;have bc:=(F.ok.la l (gV W)).len;show U () (gE hI T.au T.aL () () {t.nm,Z.G .tn,(),a5.wd,.inl {_,F.g.tris,by rw[hv];rfl},λN s1=>?_});have f:=F.same s1;show gE f.g.house T.au T.aQ () () ?_;show gE f.g.house T.au T.aL () () (U () (rG (.ref (Z.G (.tr j))) (by rw[<-hv];show dF.k (k:=.inr t.nm) f.g.tris) ?_));show rF (f.g.trial hj) T.a9 T.fQ () (rG (.ref (Z.G (.lo i))) (by rw[<-X];show dF.k (k:=.inr t.home) f.g.lays) ?_);show rF (f.g.layer W) T.bH T.bE () (aq ?_);have v:N (Z.G (.iu i))=some (.dK (Z.iv i)):=f.g.at_ (.iu i) _ (by simp only[cont,W];rfl);have aa:=f.g.seats i l W;have ad:(Z.iv i).length=l.ins.length:=Paired.length aa;show U () {Z.G (.iu i),U () {v,λep=>λD hD=>?_}};have nd:Z.G (.iu i)≠D:=λz=>by rw[<-z,ae]at hD;cases hD
  have an:N D=none:=by rw[ak (oi nd)]at hD;show hD
  show pQ (n:=(Z.iv i).length) (JW P w K N (Z.G (.iu i)) (Z.iv i) l.ins t.nm D ep) {[],λb o e n=>by rw[ak (av e an),ak n];show e,by rw[ak nd,ae],ae,(),e_ _,.nil} (λk ap H2 hk h=>by obtain⟨_,_,h,_⟩:=h;show(h,hk,)) ?_ ?_
  ·rintro k ap R x H5 hk⟨S,f4,m,B,rfl,J,p⟩⟨T1,kk,vv,a6,rfl,rfl,a7⟩;obtain⟨y,hy,rfl,s,rfl,a8⟩:=Paired.at_ aa k _ a7;show gT a6 λH5 L e5=>?_;have e5:H5 T1=some (.tup [.str y.1,.ref s]):=e5;have f5:∀b o,N b=some o->b≠Z.G (.iu i)->H5 b=some o:=λb o e n=>L _ _ (f4 b o e n);have ba:Kp N H5:={λu xs e=>f5 _ _ e λz=>(by rw[z,v]at e;cases e),λu o⟨o',e⟩=>{o',f5 _ _ e λz=>by rw[z,v]at e;cases e}};have as:=ba.tq a8;show{T1,U () {a0.of e5,(),_,U () (aq {_,U () (aq {(),?_})})}};show U () (rX as (ao (k:=0) ()) (U () {(),U () ?_}));change if decide (V.str y.2.1=V.str t.nm)=true then _ else _
   show jk (λe=>?_) (λe=>?_)
   ·have e:y.2.1=t.nm:=V.str.inj e;show U () (U () (rX as (ao (k:=1) ()) {ls (),λT6 bb=>?_}));show gT bb λH6 s6 e6=>?_;have ax:=s6 _ _ (L _ _ B);have kp:Kp H6 (aG H6 D (.lst (S.map V.ref++[.ref T6]))):=.lst ax;show{ax,by rw[b_,ig];omega,lf hk {S++[T6],λb o e n=>by rw[ak (av e an)];show s6 _ _ (f5 b o e n),by rw[ak nd];show s6 _ _ (L _ _ m),ae,by rw[hF];rfl,by rw[hQ];show r4 J,?_}};rw[bP hy,vW,hY e];show Paired.snoc (Paired.mapP p λ_ _ q=>kp.tq ((Kp.of s6).tq ((Kp.of L).tq q))) (kp.tq (a0.of e6))
   ·show lf hk {S,f5,L _ _ m,L _ _ B,(),rr J,by rw[bP hy,vW,h_ (λz=>e (by rw[z])),n7];show Paired.mapP p λ_ _ q=>(Kp.of L).tq q}
  ·rintro ap R⟨S,f4,m,B,rfl,J,p⟩;rw[ad,iq (e_ _)]at p;show{{m,e_ _},Z.G (.iu i),_,ep,m,?_};have sF:am N (aG R (Z.G (.iu i)) (.dK (Z.iv i))):=λb o e=>by
    by_cases z:b=Z.G (.iu i)
    ·rw[z,v]at e;rw[z,ae];show e
    ·rw[ak z];show f4 b o e z
   have kp:Kp R (aG R (Z.G (.iu i)) (.dK (Z.iv i))):={λu xs e=>by rw[ak λz=>by rw[z,m]at e;cases e];show e,λu o⟨o',e⟩=>{o',by rw[ak λz=>by rw[z,m]at e;cases e];show e}};have a2:aG R (Z.G (.iu i)) (.dK (Z.iv i)) D=some (.lst (S.map V.ref)):=by rw[ak (oi nd)];show B
   have a3:=Paired.mapP p λ_ _ q=>kp.tq q;generalize aG R (Z.G (.iu i)) (.dK (Z.iv i))=H5 at sF a2 a3⊢;show{D,S,_,2,(),aR.of a2,by omega,by decide,KN,a3,λr vs I hp=>?_};show q r (vs.map V.ref) _ (s1.trans (aj sF I)) (s1.free (sF.free I)) ae (fN.of (Paired.mapP hp λ_ _ q=>am.tseq (aj (am.refl _) I) q))
end
inductive Dt|n|i(z:Int)|s(x:Str)|r(a:Addr)|l(ds:List Dt)|t(ds:List Dt)
mutual
inductive iO(K:OZ)(H:Hp):Nat->Dt->V->Prop|n{k:Nat}:iO K H k .n .non|i{k:Nat}{z:Int}:iO K H k (.i z) (.int z)|s{k:Nat}{x:Str}:iO K H k (.s x) (.str x)|r{k:Nat}{a:Addr}:iO K H k (.r a) (.ref a)|l{k:Nat}{ds:List Dt}{p:Addr}{xs:List V}(h:aR K H p xs)(hs:DtsAt K H k ds xs):iO K H (k+1) (.l ds) (.ref p)|t{k:Nat}{ds:List Dt}{p:Addr}{xs:List V}(h:a0 K H p xs)(hs:DtsAt K H k ds xs):iO K H (k+1) (.t ds) (.ref p)
inductive DtsAt(K:OZ)(H:Hp):Nat->List Dt->List V->Prop|nil{k:Nat}:DtsAt K H k [] []|cons{k:Nat}{d:Dt}{ds:List Dt}{x:V}{xs:List V}(h:iO K H k d x)(hs:DtsAt K H k ds xs):DtsAt K H k (d::ds) (x::xs)
end
section
open PySem.Spec PyProof.Rows PySem.W
variable{X:Cx}{a:O1}{c:L2.St}{H:Hp}{s:Shared}
def DtsAt.sm{A:Around}{k:Nat}(f:∀{d:Dt}{x y:V}{u v:Value},iO X.K H k d x->iO X.K H k d y->aX x u->aX y v->SeqAt.EqAt A s u v true):∀{ds:List Dt}{m n:List V}{i l:O3},DtsAt X.K H k ds m->DtsAt X.K H k ds n->aY m i->aY n l->i.length=l.length/\∀j(h1:j<i.length)(h2:j<l.length),SeqAt.EqAt A s i[j] l[j] true:=by
 intro ds
 induction ds with|nil=>intro m n i l h1 h2 b r2;cases h1;cases h2;cases b;cases r2;show{(),λj h=>absurd h (Om _)}|cons d ds o=>intro m n i l h1 h2 b r2;cases h1 with|cons a1 b1=>cases h2 with|cons p b2=>cases b with|cons q r=>cases r2 with|cons t w=>obtain⟨e,g⟩:=o b1 b2 r w;show{p_ Nat.succ e,λj h1 h2=>?_};cases j with|zero=>show f a1 p q t|succ j=>show g j (Nat.lt_of_succ_lt_succ h1) (Nat.lt_of_succ_lt_succ h2)
def Br{A:Around}{p q:Addr}(h:p≠q->SeqAt.RcAt A s (.ref p) (.ref q) true):SeqAt.EqAt A s (.ref p) (.ref q) true:=by
 by_cases z:p=q
 ·rw[z];show PySem.SeqAt.EqAt.same _
 ·show PySem.SeqAt.EqAt.of_refs z (h z)
theorem iO.eq(I:aN X a c H s)(k:Nat):∀{A:Around}{d:Dt}{x y:V}{u v:Value},A.units+k<cLine->iO X.K H k d x->iO X.K H k d y->aX x u->aX y v->SeqAt.EqAt A s u v true:=by induction k with
 |zero=>intro A d x y u v L h1 h2 b r2;cases h1 with|n=>cases h2;cases b;cases r2;show PySem.SeqAt.EqAt.same _|@i _ z=>cases h2;obtain⟨g,rfl⟩:=b;obtain⟨h,rfl⟩:=r2;have:=PySem.SeqAt.EqAt.int_int (A:=A) (s:=s) z g z h;rwa[qq]at this|@s _ z=>cases h2;obtain⟨g,rfl⟩:=b;obtain⟨h,rfl⟩:=r2;have:=PySem.SeqAt.EqAt.str_str (A:=A) (s:=s) z g z h;rwa[qq]at this|r=>cases h2;cases b;cases r2;show PySem.SeqAt.EqAt.same _
 |succ k J=>
  intro A d x y u v L h1 h2 b r2;have hi:A.in1.units+k<cLine:=by change A.units+1+k<cLine;omega
  cases h1 with
 |n=>cases h2;cases b;cases r2;show PySem.SeqAt.EqAt.same _|@i _ z=>cases h2;obtain⟨g,rfl⟩:=b;obtain⟨h,rfl⟩:=r2;have:=PySem.SeqAt.EqAt.int_int (A:=A) (s:=s) z g z h;rwa[qq]at this|@s _ z=>cases h2;obtain⟨g,rfl⟩:=b;obtain⟨h,rfl⟩:=r2;have:=PySem.SeqAt.EqAt.str_str (A:=A) (s:=s) z g z h;rwa[qq]at this|r=>cases h2;cases b;cases r2;show PySem.SeqAt.EqAt.same _|l q w=>cases h2 with|l B C=>
    cases b;cases r2;obtain⟨p,D,pl,_⟩:=I.list q;obtain⟨f,m,o,_⟩:=I.list B;obtain⟨E,eq⟩:=DtsAt.sm (A:=A.in1) (λh1 h2 b r2=>J hi h1 h2 b r2) w C D m;show Br λ_=>?_;have:=PySem.SeqAt.RcAt.lists (e:=λ_=>true) (A:=A) pl.isList o.isList (by simpa using E) (by omega) (λj F G=>by simpa using eq j (by simpa using F) (by simpa using G))
    rwa[C1.mpr λ_ _=>()]at this
  |t q w=>cases h2 with|t B C=>
    cases b;cases r2;obtain⟨p,D,pl,_⟩:=I.tuple q;obtain⟨f,m,o,_⟩:=I.tuple B;obtain⟨E,eq⟩:=DtsAt.sm (A:=A.in1) (λh1 h2 b r2=>J hi h1 h2 b r2) w C D m;show Br λ_=>?_;have:=PySem.SeqAt.RcAt.tuples (e:=λ_=>true) (A:=A) pl o (by omega) (λj F G=>by simpa using eq j (by simpa using F) (by simpa using G))
    rwa[C1.mpr λ_ _=>(),show(p.toArray.size==f.toArray.size)=true by simpa using E]at this
end
def MO(K:OZ):R2:=λx y H Q=>∃(ds:List Dt)(k:Nat),k<=16/\iO K H (k+1) (.l ds) x/\iO K H (k+1) (.l ds) y/\Q (.bl false) H
def z9{X:Cx}(K:OZ)(f:X.K=K)(D:X.A.units+65<cLine):kU X (compareOp .NotEq) (MO K):=by subst f;intro c s E H x y v u Q I g i h;obtain⟨ds,k,F,h1,h2,q⟩:=h;cases h1 with|l m n=>cases h2 with|l o p=>cases g;cases i;obtain⟨r,t,pl,_⟩:=I.list m;obtain⟨d,a,b,_⟩:=I.list o;obtain⟨w,eq⟩:=DtsAt.sm (A:=X.A.in1) (λh1 h2 z r2=>iO.eq I k (by change X.A.units+1+k<cLine;omega) h1 h2 z r2) n p t a;show PySem.SeqAt.RcNeAt.lists (e:=λ_=>true) pl.isList b.isList (by simpa using w) (by omega) (λj B C=>by simpa using eq j (by simpa using B) (by simpa using C)) _ _ _ _ {.bl false,H,I,?_,q};change Value.bool _=Value.bool _;rw[C1.mpr λ_ _=>()];rfl
def MQ(K:OZ):R2:=λx y H Q=>∃(ds:List Dt)(k:Nat),k<=16/\iO K H (k+1) (.l ds) x/\iO K H (k+1) (.l ds) y/\Q (.bl true) H
def Aa{X:Cx}(K:OZ)(f:X.K=K)(D:X.A.units+65<cLine):kU X (compareOp .Eq) (MQ K):=by subst f;intro c s E H x y v u Q I g i h;obtain⟨ds,k,F,h1,h2,q⟩:=h;cases h1 with|l m n=>cases h2 with|l o p=>cases g;cases i;obtain⟨r,t,pl,_⟩:=I.list m;obtain⟨d,a,b,_⟩:=I.list o;obtain⟨w,eq⟩:=DtsAt.sm (A:=X.A.in1) (λh1 h2 z r2=>iO.eq I k (by change X.A.units+1+k<cLine;omega) h1 h2 z r2) n p t a;show PySem.SeqAt.eq_listAt (e:=λ_=>true) pl.isList b.isList (by simpa using w) (by omega) (λj B C=>by simpa using eq j (by simpa using B) (by simpa using C)) {.bl true,H,I,?_,q};change Value.bool _=Value.bool _;rw[C1.mpr λ_ _=>()]
mutual
theorem iO.same(s:am H c):∀{k:Nat}{d:Dt}{x:V},iO K H k d x->iO K c k d x|_,_,_,.n=>.n|_,_,_,.i=>.i|_,_,_,.s=>.s|_,_,_,.r=>.r|_,_,_,.l h a=>.l (am.seq s h) (DtsAt.same s a)|_,_,_,.t h a=>.t (am.tseq s h) (DtsAt.same s a)
theorem DtsAt.same(s:am H c):∀{k:Nat}{ds:List Dt}{a:List V},DtsAt K H k ds a->DtsAt K c k ds a|_,_,_,.nil=>.nil|_,_,_,.cons h b=>.cons (iO.same s h) (DtsAt.same s b)
end
def cb(h:H b=some o)(n:H b=none):False:=by rw[h]at n;cases n
section
variable{P:O4}{w:World}{K:OZ}{a:gz}{H g:Hp}{M p:bn}{Z j:ZS}{f:List V}
def bB.ntup(h:bB P w K a H M Z)(L:eY M Z b):(∀f,H b≠some (.tup f))/\∀x y,H b≠some (.frz x y):=by
 have lst:∀l f,H l=some (.lst f)->(∀N,H l≠some (.tup N))/\∀x y,H l≠some (.frz x y):=λl f e=>by rw[e];show{λ_ z=>(nomatch z),λ_ _ z=>(nomatch z)}
 rcases L with⟨r,O,rfl⟩|⟨i,hi,x,k,e⟩|⟨x,k,e⟩
 ·obtain⟨o,q⟩:=mO P w a Z O;have im:=(h.imm (H':=λb=>if b=Z.G r then none else H b) q λb o e n=>by change(if b=Z.G r then none else H b)=_;rw[h_ n];show e).kp;show{λf e=>?_,λx y e=>?_}
  ·have:=im.tp _ _ e;rw[hY ()]at this;cases this
  ·obtain⟨_,this⟩:=im.fz _ _ {_,e};rw[hY ()]at this;cases this
 ·obtain⟨_,⟨m,q,_⟩,_⟩:=h.tabs i _ (g6 hi);obtain⟨l,f,u,J⟩:=q.ex x k;rw[u]at e;cases e;show lst _ _ J
 ·obtain⟨l,f,u,J⟩:=h.came.ex x k;rw[u]at e;cases e;show lst _ _ J
def bB.stp(h:bB P w K a H M Z)(st:gS H M Z g p j):Kp H g:={λu f e=>st.fr _ _ e λz=>(h.ntup z).1 _ e,λu o⟨b,e⟩=>{b,st.fr _ _ e λz=>(h.ntup z).2 _ _ e}}
def gS.nf(st:gS H M Z g p j)(e:H b=some o)(n:¬eY M Z b):¬eY p j b:=λz=>(st.fp b z).elim n (cb e)
end
def xc{c:Type}{a:List c}{x y:c}{i:Nat}(h:(a++[x])[i]?=some y):a[i]?=some y\/(i=a.length/\y=x):=by
 rcases Of i a.length with z|z
 ·show .inl (by rw[<-h];show(rc z).symm)
 ·rw[y2 z]at h;obtain⟨b,d⟩:=d_.mp h;have b:i-a.length<1:=b;obtain rfl:i=a.length:=by lia
  simp only[Nat.sub_self,List.getElem_cons_zero]at d;show .inr {(),d.symm}
section
variable{ns:O_}{M a:bn}{d:Dd}
def Dd.na(h:d.adds=false):za M d=gU M/\vZ M d=gX M:=by cases d<;>first|show{(),()}|cases h
def lN.keep(h:lN ns M)(c:a.p=M.p)(g:a.salt=M.salt)(e:a.las.map (λl=>(l.nm,l.sl))=M.las.map λl=>(l.nm,l.sl))(f:a.trs.map (λt=>(t.nm,t.arms))=M.trs.map λt=>(t.nm,t.arms)):lN ns a/\a.p=M.p/\a.salt=M.salt/\gU a=gU M/\gX a=gX M:=by
 have a1:∀N:bn,gU N=(N.las.map λl=>(l.nm,l.sl)).map Prod.fst:=λN=>by rw[tA];rfl
 have b:∀N:bn,gX N=(N.trs.map λt=>(t.nm,t.arms)).map λx=>(x.1,x.2.length):=λN=>by rw[tA];rfl
 have k:a.las.length=M.las.length:=by have:=p_ List.length e;rw[b_,b_]at this;show this
 show{{λi l m=>?_,λj t n=>?_,by rw[k,c];show h.lp,by rw[c];show h.pr},c,g,by rw[a1,a1,e],by rw[b,b,f]}
 ·have q:(M.las.map λl=>(l.nm,l.sl))[i]?=some (l.nm,l.sl):=by rw[<-e,g8,m];rfl
  rw[g8]at q;obtain⟨o,h0,q⟩:=Option.map_eq_some_iff.mp q;rw[<-(Nz q).1,<-(Nz q).2,c];show h.ln i o h0
 ·have q:(M.trs.map λt=>(t.nm,t.arms))[j]?=some (t.nm,t.arms):=by rw[<-f,g8,n];rfl
  rw[g8]at q;obtain⟨r,h0,q⟩:=Option.map_eq_some_iff.mp q;rw[<-(Nz q).1,<-(Nz q).2];show h.tn j r h0
def fJ.nx(h:lN ns M)(n:fJ M d a)(f:Kl ns M d):lN ns a/\a.p=M.p/\a.salt=M.salt/\gU a=za M d/\gX a=vZ M d:=by cases n with
 |@layer nm sl=>
  obtain⟨g,k,m⟩:=f;show{{λi l b=>?_,h.tn,?_,h.pr},(),(),hF,()}
  ·rcases xc b with b|⟨rfl,rfl⟩
   ·show h.ln i l b
   ·show(g,k,)
  ·change(M.las++[_]).length<=M.p+1;rw[hQ];show m|@trial x=>
  show{{h.ln,λj t e=>?_,h.lp,h.pr},(),(),(),hF};rcases xc e with e|⟨rfl,rfl⟩
  ·show h.tn j t e
  ·show f|share b hh hn=>show h.keep () () (eL b _ ()) ()|deal b hh hn=>show h.keep () () (eL b _ ()) ()|hold b=>show h.keep () () (eL b _ ()) ()|pause c=>show h.keep () () () (eL c _ ())|close c b hh=>show h.keep () () (eL b _ ()) (eL c _ ())|bar c b hh=>show h.keep () () (eL b _ ()) (eL c _ ())|visit o v=>show h.keep v.p v.salt (by rw[v.las,tA];rfl) (by rw[v.trs])
end
structure sP(P:O4)(w:World)(K:OZ)(a:gz)(H0 H:Hp)(ns:O_)(M:bn)(Z:ZS)(A:x6)(c:Nat)(ls:O5)(ts:List (Str×Nat)):Prop where
 z:ck P w K a H M Z c
 pl:m4 K H M.p M.salt ls ts A
 pn:lN ns M
 f1:¬eY M Z A.pl
 f2:¬eY M Z A.L
 f3:¬eY M Z A.T
 bs:∀b o,H0 b=some o->H b=some o/\¬eY M Z b/\b≠A.L/\b≠A.T
section
variable{P:O4}{w:World}{K:OZ}{a:gz}{f H i q:Hp}{M j:bn}{Z t:ZS}{ns:O_}{A:x6}{v:Addr}{c:Nat}{ls r:O5}{u m:List (Str×Nat)}{d:Dd}
theorem sP.same(h:sP P w K a f H ns M Z A c ls u)(s:am H i):sP P w K a f i ns M Z A c ls u:={h with z:=h.z.same s,pl:=h.pl.same s,bs:=λb o e=>{s _ _ (h.bs b o e).1,(h.bs b o e).2}}
def sP.dr(h:sP P w K a f H ns M Z A c (gU M) (gX M))(sq:aR K f v (ns.map V.int))(l:ns.length<=63):vU K H v ns M A c:={am.seq (λb o e=>(h.bs b o e).1) sq,l,h.pl,h.z.ok,h.pn,λi g=>am.seq (λb o e=>g _ _ (h.bs b o e).1 (h.bs b o e).2.2.1) sq}
def sP.chg(h:sP P w K a f H ns M Z A c ls u)(n:MB A H i)(l:m4 K i M.p M.salt r m A):sP P w K a f i ns M Z A c r m:=by
 obtain⟨o,s,kp,k⟩:=n;rcases s with rfl|rfl
 ·show{h with z:={h.z with g:=h.z.g.out h.f2 kp k},pl:=l,bs:=λb o e=>{k _ _ (h.bs b o e).1 (h.bs b o e).2.2.1,(h.bs b o e).2}}
 ·show{h with z:={h.z with g:=h.z.g.out h.f3 kp k},pl:=l,bs:=λb o e=>{k _ _ (h.bs b o e).1 (h.bs b o e).2.2.2,(h.bs b o e).2}}
def sP.fin(h:sP P w K a f H ns M Z A c (za M d) (vZ M d))(n:fJ M d j)(st:gS H M Z q j t)(p:ck P w K a q j t (c+1))(s:Kl ns M d):sP P w K a f q ns j t A (c+1) (gU j) (gX j):=by
 have kp:=h.z.g.stp st;obtain⟨x,y,B,C,D⟩:=n.nx h.pn s;obtain⟨E,k,l⟩:=h.pl.T;show{p,?_,x,st.nf h.pl.pl h.f1,st.nf h.pl.L h.f2,st.nf k h.f3,λb o e=>?_}
 ·rw[y,B,C,D];show{st.fr _ _ h.pl.pl h.f1,st.fr _ _ h.pl.L h.f2,{E,st.fr _ _ k h.f3,BA.kp kp l},h.pl.n1,h.pl.n2,h.pl.n3}
 ·obtain⟨b1,b2,b3⟩:=h.bs b o e;show{st.fr _ _ b1 b2,st.nf b1 b2,b3}
def sP.not(h:sP P w K a f H ns M Z A c (za M d) (vZ M d))(hd:d.adds=false)(s:am H q):sP P w K a f q ns M Z A (c+1) (gU M) (gX M):=by obtain⟨b,e⟩:=Dd.na (M:=M) hd;rw[b,e]at h;show{h.same s with z:=(h.same s).z.mono (ry c)}
end
def qE(p:Nat)(sa:Int):bn:={p,sa,[],[],[]}
def EN(h ln tn a dl dx:Addr):ZS:={λr=>match r with|.hh=>h|.ln=>ln|.tn=>tn|.ci=>a|_=>dl,λ_=>dx,[],[],λ_=>[],λ_=>[],λ_=>[],λ_=>dx,λ_=>.non,λ_=>dx}
section
variable{P:O4}{w:World}{K:OZ}{a:gz}{H:Hp}{p:Nat}{sa:Int}{h ln tn c dl dx:Addr}
def Hc(e:2<=p/\p<=997):jy (qE p sa) 0:={e,.nil,.nil,λl g=>(nomatch g),λt b=>(nomatch b),λx i=>(nomatch i),lh _,lh _,lh _,λt b=>(nomatch b)}
def EO(hh:H h=some (.ins a.bA dx [("own_prime",.int p),("own_salt",.int sa),("layer_named",.ref ln),("trial_named",.ref tn),("came_into",.ref c),("deeds",.ref dl)]))(m:H ln=some (.dK []))(n:H tn=some (.dK []))(s:H c=some (.dK []))(u:H dl=some (.lst []))(n1:ln≠tn)(n2:ln≠c)(n3:tn≠c):bB P w K a H (qE p sa) (EN h ln tn c dl dx):=by
 have at_:∀r o,cont P w a (qE p sa) (EN h ln tn c dl dx) r=some o->H ((EN h ln tn c dl dx).G r)=some o:=λr o e=>by cases r<;>first|(obtain rfl:=iA e;assumption)|cases e
 show{λr j o k e b q=>?_,at_,λi l g=>(nomatch g),λi t v=>(nomatch v),λi l g=>(nomatch g),.nil};have x:=at_ r o e
 have y:=at_ j k b
 rw[q,y]at x;cases r<;>cases j<;>first|rfl|(cases e;done)|(cases b;done)|show absurd q n1|show absurd q n2|show absurd q n3|show absurd q.symm n1|show absurd q.symm n2|show absurd q.symm n3|(cases e;cases b;cases x;done)
def E3(g:eY (qE p sa) (EN h ln tn c dl dx) b):b=h\/b=ln\/b=tn\/b=c\/b=dl:=by
 rcases g with⟨r,j,e⟩|⟨i,hi,_⟩|⟨x,k,_⟩
 ·cases r
  ·show .inl e
  ·show .inr (.inl e)
  ·show .inr (.inr (.inl e))
  ·show .inr (.inr (.inr (.inl e)))
  ·show .inr (.inr (.inr (.inr e)))
  all_goals cases j
 ·cases hi
 ·cases k
end
abbrev Mv:=List (List Str)
structure sG(K:OZ)(H:Hp)(M:bn)(vs:List V)(Ms:Nat->bn)(Rs:List (List (List Str))):Prop where
 z:Ms 0=M
 l:Rs.length=vs.length
 s:∀k v,vs[k]?=some v->∃dv xs d rs,v=.ref dv/\a0 K H dv xs/\kT K H (Ms k) d xs/\d.clo=false/\fJ (Ms k) d (Ms (k+1))/\Rs[k]?=some rs/\pX (Ms k) d rs
section
variable{K:OZ}{H i:Hp}{M g:bn}{a:List V}{c:Nat->bn}{f:List (List (List Str))}
theorem sG.kp(e:Kp H i)(h:sG K H M a c f):sG K i M a c f:={h.z,h.l,λk v b=>by obtain⟨j,m,d,n,h1,h2,h3,h4⟩:=h.s k v b;show{j,m,d,n,h1,e.tq h2,h3.kp e,h4}}
def sG.refs(h:sG K H M a c f)(v:V)(d:v∈a):∃b,v=.ref b:=by obtain⟨k,j⟩:=i_.mp d;obtain⟨l,_,_,_,e,_⟩:=h.s k v j;show(l,e,)
def sG.snoc{e:Addr}{j:List V}{d:Dd}{n:List (List Str)}(h:sG K H M a c f)(p:a0 K H e j)(q:kT K H (c a.length) d j)(hc:d.clo=false)(nx:fJ (c a.length) d g)(r:pX (c a.length) d n):sG K H M (a++[.ref e]) (λk=>if k<=a.length then c k else g) (f++[n]):=by
 show{h.z,by rw[hQ,hQ,h.l];rfl,λk v m=>?_};rcases xc m with m|⟨rfl,rfl⟩
 ·obtain⟨e,j,d,o,h1,h2,h3,h4,h5,t,u⟩:=h.s k v m;have b:=(d_.mp m).1;show{e,j,d,o,h1,h2,by rw[hY (tx b)];show h3,h4,by rw[hY (tx b),hY (show k+1<=a.length from b)];show h5,by rw[rc (by rw[h.l];show b)];show t,by rw[hY (tx b)];show u}
 ·show{e,j,d,n,(),p,by rw[hY (e_ _)];show q,hc,by rw[hY (e_ _),h_ (NA _)];show nx,by rw[<-h.l];show List.getElem?_concat_length,by rw[hY (e_ _)];show r}
end
def Hq{mg:O2}{base:Heap}{k:Nat}{f:Addr}{fd:FuncData}{d:O5}{sp c:Sp}(F:aP P w K mg base (vV P w) k f fd d sp)(h:∀a H Q E,c a H Q E->sp a H Q λ_ _ _=>False):aP P w K mg base cV k f fd d c:={λa H Q E q=>F.len a H Q _ (h _ _ _ _ q),λA outer s H b g a Q E i j l m n=>z1 (F.run A outer s H b g a Q _ i j l m (h _ _ _ _ n)) λr p z=>by cases r with|ok o=>cases o<;>show z|error e=>obtain⟨_,_,_,_,_,_,_,_,_,_,_,_,_,z⟩:=z;show z.elim}
def vQ.pr(h:vQ p)(i:Nat)(hi:2+(i:Int)<(p:Int)):(p:Int)%(2+(i:Int))≠0:=λz=>by have h1:=(by decide+kernel:∀p∈[2,3,5,7,11,13],∀i,i<13->2+i<p->p%(2+i)≠0) p h i (by have:=h.le;omega) (by omega);have e:(((p%(2+i):Nat)):Int)=(p:Int)%((2+i:Nat):Int):=Int.natCast_emod _ _;rw[show(((2+i:Nat)):Int)=2+(i:Int)by lia,z]at e;lia
inductive Nd(P:O4)(w:World)(K:OZ)(a:gz)(p:Nat)(sa:Int)(H H':Hp)(Z:ZS):Prop|mk(z:ck P w K a H' (qE p sa) Z 0)(d:Z.ds=[])(s:am H H')(f:∀b,eY (qE p sa) Z b->H b=none)
def LX{p:Nat}{sa:Int}{n d c:Hp}{h ln tn f dl dx:Addr}(A:2<=p/\p<=13)(hh:n h=none)(f2:am n d)(q:d ln=none)(r:d tn=none)(s:d f=none)(t:d dl=none)(u:ln≠tn)(v:ln≠f)(x:tn≠f)(f3:∀b o,d b=some o->b≠h->c b=some o)(y:c h=some (.ins a.bA dx [("own_prime",.int p),("own_salt",.int sa),("layer_named",.ref ln),("trial_named",.ref tn),("came_into",.ref f),("deeds",.ref dl)]))(g:c ln=some (.dK []))(j:c tn=some (.dK []))(l:c f=some (.dK []))(m:c dl=some (.lst [])):∃Z:ZS,Z.G .hh=h/\Nd P w K a p sa n c Z:=by
 show{EN h ln tn f dl dx,(),{EO y g j l m u v x,Hc {A.1,by omega},λi=>lh _,λi=>lh _,lh _},(),λb o e=>f3 b o (f2 b o e) (av e hh),λb z=>?_};rcases E3 z with rfl|rfl|rfl|rfl|rfl
 ·show hh
 ·show f2.free q
 ·show f2.free r
 ·show f2.free s
 ·show f2.free t
inductive Ld(P:O4)(w:World)(K:OZ)(a:gz)(vs:List V)(H:Hp)(Q:VK)(_E:XK):Prop|mk(M:bn)(Z:ZS)(c:Nat)(dv:Addr)(d:Dd)(xs:List V)(_:vs=[.ref (Z.G .hh),.ref dv])(_:ck P w K a H M Z c)(_:c<=63)(_:a0 K H dv xs)(_:kT K H M d xs)(_:d.clo=false)(_:¬Kk M d)(_:∀(r:Addr)(us:List V)(rs:List (List Str))(M':bn)(Z':ZS)(H':Hp),fJ M d M'->Kt K H' M M' Z' d r us rs->gS H M Z H' M' Z'->ck P w K a H' M' Z' (c+1)->H r=none->H' r=some (.lst us)->Z'.ds=Z.ds++[.ref dv]->Q (.ref r) H')
inductive BV(P:O4)(w:World)(K:OZ)(a:gz)(vs:List V)(H:Hp)(Q:VK)(_E:XK):Prop|mk(p:Nat)(sa:Int)(dl:Addr)(us:List V)(Ms:Nat->bn)(Rs:List Mv)(_:vs=[.int p,.int sa,.ref dl])(_:vQ p)(_:(0<=sa/\sa<=cQ))(_:us.length<=63)(_:aR K H dl us)(_:sG K H (qE p sa) us Ms Rs)(_:∀(Z:ZS)(H':Hp),am H H'->ck P w K a H' (Ms us.length) Z us.length->Z.ds=us->(∀b,eY (Ms us.length) Z b->H b=none)->Q (.ref (Z.G .hh)) H')
inductive JHo(P:O4)(w:World)(K:OZ)(a:gz)(H:Hp)(us:List V)(Ms:Nat->bn)(h:Addr)(v0 v1 v2:V)(i:Nat)(σ:St)(H':Hp):Prop|mk(Z:ZS)(v:Option V)(z:ck P w K a H' (Ms i) Z i)(d:Z.ds=us.take i)(s:am H H')(f:∀b,eY (Ms i) Z b->H b=none)(e:Z.G .hh=h)(l:σ=[some v0,some v1,some v2,some (.ref h),v]):JHo P w K a H us Ms h v0 v1 v2 i σ H'
section
def xu(T:Txt K mg a)(e:w.params=a.pm):aP P w K mg base cV 14 a.ft.x a.ft.d ["self","deed"] (Ld P w K a):=Hq (re T e) λn H Q E h=>by obtain⟨M,Z,c,f,d,g,rfl,i,hc,j,k,b,l,q⟩:=h;show{M,Z,c,f,d,g,(),i,hc,j,k,λ_=>q,λ_ m=>absurd m l,λz=>by rw[b]at z;cases z}
def yQ(T:Txt K mg a)(hw:w.params=a.pm):aP P w K mg base cV 15 a.kO.x a.kO.d ["prime","salt","deeds"] (BV P w K a):=by
 show T.kO.ok lS λad A outer s H vs Q E hr h=>?_
 ·obtain⟨p,sa,dl,M,Ms,Rs,rfl,pr,S,hl,hS,hH,q⟩:=h;show{_,(ag (bj 3 lS.nd (pq T.y0 ((lL (P:=P) (w:=w) T).mono (by decide)) hr () T.Bj T.dD.b .nil aV (ac (Y 0) (ac (Y 1) O)))) (ag (dP np () (cO K () (Y 2)) (oA 4 lS.nd) (ah (aJ (aZ (Y 3) T.au T.ft.m ((xu (P:=P) (w:=w) T hw).mono (by decide)) hr T.ft.b .nil aV (ac (Y 4) O))))) (ah (aB (Y 3))))),?_}
  have hp:=pr.le;show U () (U () (λh dx hh V an=>?_));have f2:am H (aG (aG H dx (.own h)) h (.ins a.bA dx [])):=λb o e=>by rw[ak (av e hh),ak (av e V)];show e
  have n:aG (aG H dx (.own h)) h (.ins a.bA dx []) h=some (.ins a.bA dx []):=ae;generalize aG (aG H dx (.own h)) h (.ins a.bA dx [])=H2 at f2 n⊢;show{h,dx,(p:Int),sa,(),n,{by omega,by omega},pr.pr,S,λln tn ci ap H3 y C D F G I J f3 L f j k l=>{(),aq ?_}};obtain⟨Z,e,c,hd,s3,t⟩:=LX (P:=P) (w:=w) (K:=K) hp hh f2 y C D F G I J f3 L f j k l;rw[<-hH.z]at c t;clear y C D F G I J f3 L f j k l f2 n;show U () {dl,(),{_,am.seq s3 hS},?_};show gn (K:=K) (a:=dl) (xs:=M) (JHo P w K a H M Ms h (.int p) (.int sa) (.ref dl)) {Z,_,c,hd,s3,t,e,()} (λi σ H' _ h=>by obtain⟨_,_,_,_,s,_⟩:=h;show am.seq s hS) ?_ ?_
  ·rintro i v σ H4 W⟨Z,v4,c,hd,u,t,e,rfl⟩N R B hN;obtain⟨dv,xs,d,_,rfl,hT,hD,hc,nx,_⟩:=hH.s i v W;have hi:=(d_.mp W).1;show aq ?_;show{_,(),h,_,_,(),by rw[<-e];show c.g.house,(),_,(),Ms i,Z,i,dv,d,xs,by rw[e];rfl,c,by omega,am.tseq u hT,hD.kp (.of u),hc,nx.not c.ok,λr M rs M' Z' H5 n5 _ st X _ _ aa=>by obtain rfl:=nx.one c.ok n5;show hN _ _ {Z',_,X,by rw[aa,hd,bP W],λb o eb=>st.fr _ _ (u _ _ eb) λz=>cb eb (t b z),λb z=>(st.fp b z).elim (t b) λz=>u.free z,st.hh.trans e,()}}
  ·rintro σ H4⟨Z,v4,c,hd,u,t,e,rfl⟩;show U () ?_;rw[<-e];show q Z H4 u c (by rw[hd,iq (e_ _)]) t
end
def del(D:Addr)(H:Hp):Hp:=λb=>if b=D then none else H b
section
variable{K:OZ}{H B:Hp}{b:Addr}{k:Nat}{o:HO}{xs m:List V}{ds:List Dt}{p:Int}{v:V}{n c:Nat}{M:bn}{g:Str}{A:List (Str×Int)}{w:List (Str×Str×Str)}
open Classical in
noncomputable def dl(p:Addr->Prop)(H:Hp):Hp:=λb=>if p b then none else H b
def Tf(H:Hp)(b:Addr):Prop:=(∀xs,H b≠some (.tup xs))/\∀x y,H b≠some (.frz x y)
def Olt(H:Hp)(b:Addr):Prop:=H b≠none/\Tf H b
def my{p:Addr->Prop}(n:¬p b):dl p H b=H b:=h_ n
def rE{p:Addr->Prop}{o:HO}(e:dl p H b=some o):¬p b/\H b=some o:=by
 by_cases z:p b
 ·cases(hY z).symm.trans e
 ·show{z,(my z).symm.trans e}
def Hi{p:Addr->Prop}(s:am H B):am (dl p H) (dl p B):=λb o e=>(my (rE e).1).trans (s _ _ (rE e).2)
def Bs{p:Addr->Prop}:am (dl p H) H:=λb o e=>(rE e).2
def HQ{p:Addr->Prop}(h:∀b,p b->Tf H b):Kp H (dl p H):={λu xs e=>(my λz=>(h u z).1 _ e).trans e,λu o⟨a,e⟩=>{a,(my λz=>(h u z).2 _ _ e).trans e}}
theorem Tf.lst(h:H b=some (.lst xs)):Tf H b:={λ_ e=>(nomatch h.symm.trans e),λ_ _ e=>(nomatch h.symm.trans e)}
def Lp(s:am H B)(h:Olt H b):Tf B b:=by obtain⟨h1,h2⟩:=h;obtain⟨o,e⟩:=NK.mp h1;show{λxs z=>h2.1 xs (e.trans ((s _ _ e).symm.trans z)),λx y z=>h2.2 x y (e.trans ((s _ _ e).symm.trans z))}
def DtsAt.app{a:List Dt}{e:List V}(h2:DtsAt K H k a e):∀{ds:List Dt}{xs:List V},DtsAt K H k ds xs->DtsAt K H k (ds++a) (xs++e):=by
 intro ds
 induction ds with|nil=>intro xs h;cases h;show h2|cons d ds f=>intro xs h;cases h with|cons h1 h=>show .cons h1 (f h)
def DtsAt.of{a:Type}{f:a->Dt}{R:V->a->Prop}{d:List a}(h:Paired R m d)(e:∀u y,R u y->iO K H k (f y) u):DtsAt K H k (d.map f) m:=by induction h with|nil=>show .nil|cons h _ i=>show .cons (e _ _ h) i
open Classical in
noncomputable def CW(M:bn)(g:Str)(A:List (Str×Int)):List (Str×Str×Str):=if h:∃w,ju M g A M.las w then h.choose else[]
def ju.dt(h:ju M g A M.las w)(a:jy M c):CW M g A=w:=by have e:∃w,ju M g A M.las w:=(w,h,);unfold CW;rw[dif_pos e];show ju.one a e.choose_spec (λl q=>q) h
def d2(y:Str×Str):Dt:=.t [.s y.1,.s y.2]
def dR(y:O5):Dt:=.t (y.map Dt.s)
def d3(y:Str×Str×Str):Dt:=.t [.s y.1,.s y.2.1,.s y.2.2]
def eV.dt(h:eV K H m w):DtsAt K H (k+1) (w.map d3) m:=DtsAt.of h λu y q=>by obtain⟨b,rfl,q⟩:=q;show .t q (.cons .s (.cons .s (.cons .s .nil)))
def sI:∀{a:O5},DtsAt K H k (a.map Dt.s) (a.map V.str):=by
 intro a
 induction a with|nil=>show .nil|cons z a d=>show .cons .s d
def fN.dt{a:List (List Str)}(h:fN K H m a):DtsAt K H (k+1) (a.map dR) m:=DtsAt.of h λu y q=>by obtain⟨b,rfl,q⟩:=q;show .t q sI
def fM.dt{a:List (Str×Str)}(h:fM K H m a):DtsAt K H (k+1) (a.map d2) m:=DtsAt.of h λu y q=>by obtain⟨b,rfl,q⟩:=q;show .t q (.cons .s (.cons .s .nil))
def Bo:∀{a:O_},DtsAt K H k (a.map Dt.i) (a.map V.int):=by
 intro a
 induction a with|nil=>show .nil|cons z a d=>show .cons .i d
def B6:V->Dt|.ref a=>.r a|_=>.n
def xn:∀{a:List V},(∀v∈a,∃b,v=.ref b)->DtsAt K H k (a.map B6) a:=by
 intro a
 induction a with|nil=>intro _;show .nil|cons z f d=>intro h;obtain⟨b,rfl⟩:=h z (.head _);show .cons .r (d λv e=>h v (.tail _ e))
def EE(l:bF):Dt:=.t [.s l.nm,.i l.sl]
def GZ{ls:List bF}(h:Paired (xX K H) m ls):DtsAt K H (k+1) (ls.map EE) m:=DtsAt.of h λu y q=>by obtain⟨b,rfl,q⟩:=q;show .t q (.cons .s (.cons .i .nil))
def jy.home_find(f:jy M c){i:Nat}{l:bF}{x:Str}(d:M.las[i]?=some l)(e:l.nm=x):(M.las.find? λl=>decide (l.nm=x))=some l:=by
 obtain⟨y,a⟩:=sT.mp (OF.mpr {l,gV d,k_ e}:(M.las.find? λl=>decide (l.nm=x)).isSome=true);obtain⟨j,h⟩:=i_.mp (J_ a);have q:y.nm=x:=by simpa using OX a
 rw[a,(f.luniq d h (e.trans q.symm)).2]
end
def jR(f c:Addr)(H a:Hp):Prop:=∀b o,H b=some o->b≠f->b≠c->a b=some o
def pA(a:Hp)(f c b:Addr):Prop:=b=f\/b=c\/Olt a b
def pB(a:Hp)(f c:Addr)(d:List V)(H:Hp)(b:Addr):Prop:=pA a f c b\/(V.ref b∈d/\∃e,H b=some (.lst e))
structure xa(K:OZ)(H0:Hp)(f c:Addr)(ds:List Dt)(xs ys:List V)(m:Nat)(H:Hp):Prop where
 s:am H0 H
 f1:H f=some (.lst xs)c1:H c=some (.lst ys)ne:f≠c
 f0:H0 f=none
 c0:H0 c=none
 al:∀b,V.ref b∈xs->H b≠none/\H0 b=none/\b≠f/\b≠c
 d1:DtsAt K (dl (pA H0 f c) H) 2 ds xs
 d2:DtsAt K (dl (pB H0 f c xs H) H) 2 ds ys
 n1:xs.length<=m
 n2:ys.length<=m
 ty:∀v∈xs,∃b us,v=.ref b/\us.length<=1000/\(H b=some (.lst us)\/H b=some (.tup us))
section
variable{K:OZ}{g i a p:Hp}{f c r:Addr}{ds:List Dt}{l t j:List V}{m:Nat}
def xa.new{i a:Hp}(n:g f=none)(d:am g i)(e:i f=some (.lst []))(hc:i c=none)(h:am i a)(o:a c=some (.lst [])):xa K g f c [] [] [] 0 a:={d.trans h,h _ _ e,o,av e hc,n,d.free hc,λb k=>(nomatch k),.nil,.nil,e_ _,e_ _,λv q=>(nomatch q)}
def GF(s:am i a):am (dl (pB g f c l i) i) (dl (pB g f c l a) a):=λb o e=>by
 obtain⟨h,d⟩:=rE e;show(my λz=>?_).trans (s _ _ d);rcases z with z|⟨z,j,k⟩
 ·show h (.inl z)
 ·show h (.inr {z,j,by rw[d,<-iA ((s _ _ d).symm.trans k)]})
theorem xa.same(h:xa K g f c ds l t m i)(s:am i a):xa K g f c ds l t m a:={h with s:=h.s.trans s,f1:=s _ _ h.f1,c1:=s _ _ h.c1,al:=λb k=>let⟨d,e⟩:=h.al b k;{λz=>d (s.free z),e},d1:=h.d1.same (Hi s),d2:=h.d2.same (GF s),ty:=λv n=>let⟨b,j,d,e,o⟩:=h.ty v n;{b,j,d,e,o.imp (s _ _) (s _ _)}}
def xa.mono(h:xa K g f c ds l t m i){n:Nat}(hn:m<=n):xa K g f c ds l t n i:={h with n1:=kl h.n1 hn,n2:=kl h.n2 hn}
def xa.grow(h:xa K g f c ds l t m i)(H:am i a)(A:i r=none)(E:a r≠none)(x:j.length<=1000/\(a r=some (.lst j)\/a r=some (.tup j))){v:V}(I:p f=some (.lst (l++[.ref r])))(J:p c=some (.lst (t++[v])))(B:jR f c a p)(d:Dt)(L:iO K (dl (pA g f c) p) 2 d (.ref r))(M:iO K (dl (pB g f c (l++[.ref r]) p) p) 2 d v):xa K g f c (ds++[d]) (l++[.ref r]) (t++[v]) (m+1) p:=by
 have C:r≠f:=(av h.f1 A).symm;have D:r≠c:=(av h.c1 A).symm;have kp:∀b o,i b=some o->b≠f->b≠c->p b=some o:=λb o e n1 n2=>B b o (H _ _ e) n1 n2;show{λb o e=>kp b o (h.s _ _ e) (av e h.f0) (av e h.c0),I,J,h.ne,h.f0,h.c0,λb y=>?_,DtsAt.app (.cons L .nil) (h.d1.same λb o e=>?_),DtsAt.app (.cons M .nil) (h.d2.same λb o e=>?_),by rw[hQ];show r4 h.n1,by rw[hQ];show r4 h.n2,λv w=>?_}
 ·rcases List.mem_append.mp y with y|y
  ·obtain⟨k,n,q,G⟩:=h.al b y;obtain⟨o,F⟩:=NK.mp k;show{λz=>cb (kp b o F q G) z,n,q,G}
  ·obtain rfl:=V.ref.inj (List.mem_singleton.mp y);obtain⟨o,F⟩:=NK.mp E;show{λz=>cb (B b o F C D) z,h.s.free A,C,D}
 ·obtain⟨k,n⟩:=rE e;show(my k).trans (kp b o n (λz=>k (.inl z)) λz=>k (.inr (.inl z)))
 ·obtain⟨k,n⟩:=rE e;have q:=kp b o n (λz=>k (.inl (.inl z))) λz=>k (.inl (.inr (.inl z)));show(my λz=>?_).trans q;rcases z with z|⟨z,j,N⟩
  ·show k (.inl z)
  ·rcases List.mem_append.mp z with z|z
   ·show k (.inr {z,j,by rw[n,<-iA (q.symm.trans N)]})
   ·show cb n (V.ref.inj (List.mem_singleton.mp z)▸A)
 ·rcases List.mem_append.mp w with w|w
  ·obtain⟨b,j,rfl,n,q⟩:=h.ty v w;obtain⟨_,_,n1,n2⟩:=h.al b w;show{b,j,(),n,q.imp (λe=>kp _ _ e n1 n2) λe=>kp _ _ e n1 n2}
  ·show{r,j,List.mem_singleton.mp w,x.1,x.2.imp (λe=>B _ _ e C D) λe=>B _ _ e C D}
def Lw(s:am g a)(h:a f=some (.lst l))(n:a c=some (.lst t)):Kp a (dl (pA g f c) a)/\∀d,Kp a (dl (pB g f c d a) a):=by
 have q:∀b,pA g f c b->Tf a b:=λb z=>by
  rcases z with rfl|rfl|z
  ·show .lst h
  ·show .lst n
  ·show Lp s z
 show{HQ q,λd=>HQ λb z=>z.elim (q b) λ⟨_,_,e⟩=>.lst e}
end
inductive FZ(K:OZ)(vs:List V)(H:Hp)(Q:VK)(_E:XK):Prop|mk(H0 H1:Hp)(f c r:Addr)(ds es:List Dt)(xs ys us:List V)(m:Nat)(_:vs=[.ref f,.ref c,.ref r])(_:xa K H0 f c ds xs ys m H1)(_:am H1 H)(_:H1 r=none)(_:m<=60)(_:us.length<=1000)(_:((H r=some (.lst us)/\(∀H',Kp H H'->DtsAt K H' 1 es us)/\∀xs' ys' H',xa K H0 f c (ds++[.l es]) xs' ys' (m+1) H'->jR f c H H'->Q .non H')\/(H r=some (.tup us)/\(∀H',DtsAt K H' 1 es us)/\∀xs' ys' H',xa K H0 f c (ds++[.t es]) xs' ys' (m+1) H'->jR f c H H'->Q .non H')))
section
def gJ(T:Txt K mg a):aP P w K mg base cV 1 a.jQ.x a.jQ.d ["_law_found","_law_copies","_law_one"] (FZ K):=by
 show T.jQ.ok DN λaa A outer s H vs Q E D h=>?_
 ·obtain⟨H0,H1,f,c,r,ds,es,J,j,us,m,rfl,g,y,D,hm,L,h⟩:=h;show{_,(ag (aJ (eZ K () PySem.F.plainAttrs_list PySem.F.slot_list_append PySem.F.type_list_append cK (Y 0) (ac (Y 2) O))) (ah (aM (aO K () (ay (uO K ()) (by rfl) T.bf L2.aT (ac (Y 2) (ac (iJ () T.jZ L2.eR) O))) (λ_=>())) (ah (aJ (eZ K () PySem.F.plainAttrs_list PySem.F.slot_list_append PySem.F.type_list_append cK (Y 1) (ac (cx (lC K ()) (by rfl) T.jZ L2.eR (ac (Y 2) O)) O)))) (ah (aJ (eZ K () PySem.F.plainAttrs_list PySem.F.slot_list_append PySem.F.type_list_append cK (Y 1) (ac (Y 2) O))))))),?_}
  have hf:=y _ _ g.f1;have hc:=y _ _ g.c1;have l1:=g.n1;have l2:=g.n2;have B:r≠f:=(av g.f1 D).symm;have M:r≠c:=(av g.c1 D).symm;have r0:=g.s.free D;show U () {.inl {(),_,aR.of hf},U () (rA hf (by rw[ig];omega) (jM ?_))};have X:aG H f (.lst (J++[.ref r])) f=some (.lst (J++[.ref r])):=ae;have C:∀b o,H b=some o->b≠f->aG H f (.lst (J++[.ref r])) b=some o:=λb o e n=>by rw[ak n];show e
  have N:Kp H (aG H f (.lst (J++[.ref r]))):=.lst hf;generalize aG H f (.lst (J++[.ref r]))=Z at X C N⊢;have i:=C _ _ hc g.ne.symm;rcases h with⟨h1,h2,q⟩|⟨h1,h2,q⟩
  ·have p:=C _ _ h1 B;show U () {_,"list",_,true,(),.inl (.lst p),dQ (by decide+kernel),true,(),bG ?_};show U () {.inl {(),_,aR.of i},U () {r,us,(),.inl (aR.of p),λk u=>?_}};show gT u λG s4 e4=>?_;have R:=s4 _ _ i;have I:∀b o,G b=some o->b≠c->aG G c (.lst (j++[.ref k])) b=some o:=λb o e n=>by rw[ak n];show e
   have a5:=I _ _ (s4 _ _ X) g.ne;have v:jR f c H (aG G c (.lst (j++[.ref k]))):=λb o e q1 q2=>I b o (s4 _ _ (C b o e q1)) q2;have c5:aG G c (.lst (j++[.ref k])) c=some (.lst (j++[.ref k])):=ae;have S:Kp H (aG G c (.lst (j++[.ref k]))):=N.trans ((Kp.of s4).trans (.lst R));have tc:k≠c:=(av i u).symm;have tf:k≠f:=(av X u).symm;have e5:=I _ _ e4 tc;have tn:H k=none:=by cases z:H k with|none=>rfl|some o=>show(cb (C _ _ z tf) u).elim
   have W:=v _ _ h1 B M;have s5:am H0 (aG G c (.lst (j++[.ref k]))):=λb o e=>v b o (y _ _ (g.s _ _ e)) (av e g.f0) (av e g.c0);obtain⟨kA,kB⟩:=Lw s5 a5 c5;show rA R (by rw[ig];omega) (q _ _ _ (g.grow y D (λz=>cb h1 z) {L,.inl h1} a5 c5 v _ (.l (aR.of ((my ?_).trans W)) (h2 _ (S.trans kA))) (.l (aR.of ((my ?_).trans e5)) (h2 _ (S.trans (kB _))))) v)
   ·rintro(z|z|z)
    ·show B z
    ·show M z
    ·show z.1 r0
   ·rintro((z|z|z)|⟨z,_⟩)
    ·show tf z
    ·show tc z
    ·show z.1 (g.s.free (y.free tn))
    ·rcases List.mem_append.mp z with z|z
     ·show(g.al _ z).1 (y.free tn)
     ·show cb h1 (V.ref.inj (List.mem_singleton.mp z)▸tn)
  ·have p:=C _ _ h1 B;show U () {_,"list",_,false,(),.inr {r,us,(),a0.of p,()},dQ (by decide+kernel),false,(),bW ?_};have I:∀b o,Z b=some o->b≠c->aG Z c (.lst (j++[.ref r])) b=some o:=λb o e n=>by rw[ak n];show e
   have a5:=I _ _ X g.ne;have v:jR f c H (aG Z c (.lst (j++[.ref r]))):=λb o e q1 q2=>I b o (C b o e q1) q2;have c5:aG Z c (.lst (j++[.ref r])) c=some (.lst (j++[.ref r])):=ae;have W:=v _ _ h1 B M;show U () {.inl {(),_,aR.of i},U () (rA i (by rw[ig];omega) (q _ _ _ (g.grow y D (λz=>cb h1 z) {L,.inr h1} a5 c5 v _ (.t (a0.of ((my ?_).trans W)) (h2 _)) (.t (a0.of ((my ?_).trans W)) (h2 _))) v))}
   ·rintro(z|z|z)
    ·show B z
    ·show M z
    ·show z.1 r0
   ·rintro((z|z|z)|⟨_,_,z⟩)
    ·show B z
    ·show M z
    ·show z.1 r0
    ·rw[W]at z;cases z
end
open Classical in
noncomputable def ET(k N:Int):Str:=if h:∃g,CU k N g then h.choose else""
def CU.eq{k N:Int}{g:Str}(h:CU k N g):ET k N=g:=by have e:∃g,CU k N g:=(g,h,);unfold ET;rw[dif_pos e];show CU.one e.choose_spec h
open Classical in
noncomputable def xz(n:Int):List (Str×Int):=if h:∃a,CS n a then h.choose else[]
def CS.eq{n:Int}{a:List (Str×Int)}(h:CS n a):xz n=a:=by have e:∃a,CS n a:=(a,h,);unfold xz;rw[dif_pos e];show CS.one e.choose_spec h
noncomputable def qD(M:bn)(a:List (Str×Int))(g:Str):List Dt:=[.l ((tj M g).map d3),.l ((dC M.came g).map d2),.l ((CW M g a).map d3)]
def Lq(ns:O_)(l:bF)(t:cT)(j:Nat):Dt:=.l ((l.S.pl (cH t.nm (cI j (cn ns 3 4)))).map Dt.i)
def Db(M:bn)(ns:O_)(t:cT):List Dt:=(M.las.find? λl=>decide (l.nm=t.home)).elim [] λl=>[.l ((ke (mW l.ins t.nm)).map dR),.t ((dN l t).map Dt.i)]++(List.range t.arms.length).map (Lq ns l t)
def K5(M:bn)(z:Int):List cT:=(M.trs[(z%(M.trs.length:Int)).toNat]?).toList
def Kv(M:bn)(ns:O_)(N:Int):List Dt:=(K5 M N++K5 M (N/30)).flatMap (Db M ns)
noncomputable def L7(M:bn)(ds:List V)(ns:O_)(g:Str)(N:Int):List Dt:=[.l (M.las.map EE),.l ((M.trs.map cT.nm).map Dt.s),.l (ds.map B6)]++[g,ET (N/21%7) (cn ns 4 6)].flatMap (qD M (xz N))++Kv M ns N
inductive Lg(P:O4)(w:World)(K:OZ)(a:gz)(vs:List V)(H:Hp)(Q:VK)(_E:XK):Prop|mk(M:bn)(Z:ZS)(c:Nat)(A:x6)(sc:Addr)(ns:O_)(g:Str)(N:Int)(_:vs=[.ref (Z.G .hh),.ref A.pl,.ref sc,.str g,.int N])(_:ck P w K a H M Z c)(_:c<=63)(_:m4 K H M.p M.salt (gU M) (gX M) A)(_:lN ns M)(_:aR K H sc (ns.map V.int))(_:ns.length<=63)(_:xY g)(_:(∀v∈Z.ds,∃b,v=.ref b))(_:∀(t f c:Addr)(xs ys:List V)(H':Hp),xa K H f c (L7 M Z.ds ns g N) xs ys 60 H'->H t=none->H' t=some (.tup [.ref f,.ref c])->Q (.ref t) H')
inductive JA(K:OZ)(H Hs:Hp)(f c:Addr)(v0 v1 v2 v3 v4:V)(ds:List Dt)(m:Nat)(σ:St)(H':Hp):Prop|mk(xs ys:List V)(v7 v8 v9 v10:Option V)(A:xa K H f c ds xs ys m H')(k:jR f c Hs H')(e:σ=[some v0,some v1,some v2,some v3,some v4,some (.ref f),some (.ref c),v7,v8,v9,v10]):JA K H Hs f c v0 v1 v2 v3 v4 ds m σ H'
inductive JA8(K:OZ)(H Hs:Hp)(f c:Addr)(v0 v1 v2 v3 v4 v8:V)(ds:List Dt)(m:Nat)(σ:St)(H':Hp):Prop|mk(xs ys:List V)(v7 v9 v10:Option V)(A:xa K H f c ds xs ys m H')(k:jR f c Hs H')(e:σ=[some v0,some v1,some v2,some v3,some v4,some (.ref f),some (.ref c),v7,some v8,v9,v10]):JA8 K H Hs f c v0 v1 v2 v3 v4 v8 ds m σ H'
def BP(M:bn)(g:Str):(tj M g).length<=M.las.length:=Nh _ _
def Ho{M:bn}{c:Nat}{g:Str}(h:jy M c):(dC M.came g).length<=10*c:=by unfold dC;cases e:M.came.find? λx=>decide (x.1=g)with|none=>show lh _|some x=>show h.cm x (J_ e)
def wf(ds:List (List Str)):(ke ds).length=ds.length:=by unfold ke vo;rw[b_,(qh _ _).length_eq,op]
def FJ{ins:List (Str×Str×Str)}{t:Str}:(mW ins t).length<=ins.length:=by unfold mW;rw[b_];show rk _ _
def Jk{n:Nat}{s:AS}(h:s.Ok n){k:bY}:(s.pl k).length<=n:=by
 have h1:(s.pl k).length<=((List.range n).map λi:Nat=>(i:Int)).length:=Be (h.nd k) λx c=>by obtain⟨a,b,_⟩:=h.in_ k x c;show kw.mpr {x.toNat,t8.mpr (by omega),by omega}
 rw[b_,op]at h1;show h1
def Lr{M:bn}{a:List V}(h:Paired (BA K H) a (gX M))(l:0<M.trs.length)(z:Int):∃(t:cT)(j:Nat)(b:Addr),qO a (z%(a.length:Int))=some (.ref b)/\K5 M z=[t]/\M.trs[j]?=some t/\a0 K H b [.str t.nm,.int t.arms.length]:=by
 have g:a.length=M.trs.length:=by rw[Paired.length h];show b_ ..
 have b1:=bI z (show(0:Int)<(a.length:Int)by omega);obtain⟨q,eq⟩:∃q:Nat,z%(a.length:Int)=q:={(z%(a.length:Int)).toNat,by omega};have d:q<a.length:=by omega
 obtain⟨x,c,b,e,i⟩:=Paired.at_ h q _ (g6 d);unfold gX at c;rw[g8]at c;obtain⟨t,f,rfl⟩:=Option.map_eq_some_iff.mp c;show{t,q,b,?_,?_,f,i}
 ·rw[eq];show(ao (g6 d)).trans (p_ some e)
 ·unfold K5;rw[<-g,eq,oD,f];rfl
def M0{d x:List Dt}{a b c:Dt}:d++(x++[a,b,c])=d++x++[a]++[b]++[c]:=by simp
def jR.after{f c:Addr}{H a d:Hp}(k:jR f c a d)(s:am H a):jR f c H d:=λb o e n1 n2=>k b o (s _ _ e) n1 n2
def jR.trans{f c:Addr}{H a d:Hp}(k:jR f c H a)(g:jR f c a d):jR f c H d:=λb o e n1 n2=>g b o (k b o e n1 n2) n1 n2
section
def Bc(T:Txt K mg a):aP P w K mg base cV 12 a.AL.x a.AL.d ["_law_house","_law_plan_here","_law_script","_law_guest_here","_law_number"] (Lg P w K a):=by
 show T.AL.ok k7 λe8 A outer s H vs Q E v h=>?_
 ·obtain⟨M,Z,c,A,sc,ns,g,N,rfl,I,hc,hP,ea,hS,hl,hg,eb,q⟩:=h;show{_,(ag (bj 5 k7.nd (be O)) (ag (bj 6 k7.nd (be O)) (ag (aJ (pc T.jQ (gJ T) v (ac (Y 5) (ac (Y 6) (ac (fP (Y 0) T.au T.eF.m ((sr (P:=P) (w:=w) T).mono (by decide)) v T.eF.b .nil aV) O))))) (ag (aJ (pc T.jQ (gJ T) v (ac (Y 5) (ac (Y 6) (ac (fP (Y 0) T.au T.cf.m ((iQ (P:=P) (w:=w) T).mono (by decide)) v T.cf.b .nil aV) O))))) (ag (aJ (pc T.jQ (gJ T) v (ac (Y 5) (ac (Y 6) (ac (fP (Y 0) T.au T.cz.m ((iI (P:=P) (w:=w) T).mono (by decide)) v T.cz.b .nil aV) O))))) (ag (dP np () (cO K () (be (ac (Y 3) (ac (pc T.mG (qk T) v (ac (aA aS (aA bu (Y 4) af) af) (ac (pc T.dS (cy T) v (ac (Y 2) (ac af (ac af O)))) O))) O)))) (oA 7 k7.nd) (ag (aJ (pc T.jQ (gJ T) v (ac (Y 5) (ac (Y 6) (ac (aZ (Y 0) T.au T.fq.m ((uv (P:=P) (w:=w) T).mono (by decide)) v T.fq.b .nil aV (ac (Y 7) O)) O))))) (ag (aJ (pc T.jQ (gJ T) v (ac (Y 5) (ac (Y 6) (ac (aZ (Y 0) T.au T.gk.m ((vD (P:=P) (w:=w) T).mono (by decide)) v T.gk.b .nil aV (ac (Y 7) O)) O))))) (ah (aJ (pc T.jQ (gJ T) v (ac (Y 5) (ac (Y 6) (ac (aZ (Y 0) T.au T.fk.m ((uu (P:=P) (w:=w) T).mono (by decide)) v T.fk.b .nil aV (ac (Y 7) (ac (pc T.oz (ww T) v (ac (Y 4) O)) O))) O))))))))) (ag (aM (aC mh (ay (aI K ()) (by rfl) T.bq L2.aK (ac (hV K (Y 1) af) O)) af (aE _)) (ah (dP np () (cO K () (be (ac (hV K (hV K (Y 1) af) (aA aS (Y 4) (ay (aI K ()) (by rfl) T.bq L2.aK (ac (hV K (Y 1) af) O)))) (ac (hV K (hV K (Y 1) af) (aA aS (aA bu (Y 4) af) (ay (aI K ()) (by rfl) T.bq L2.aK (ac (hV K (Y 1) af) O)))) O)))) (oA 8 k7.nd) (ag (aJ (pc T.jQ (gJ T) v (ac (Y 5) (ac (Y 6) (ac (aZ (Y 0) T.au T.dU.m ((lu (P:=P) (w:=w) T).mono (by decide)) v T.dU.b .nil aV (ac (dh K (Y 8) af) O)) O))))) (ag (aJ (pc T.jQ (gJ T) v (ac (Y 5) (ac (Y 6) (ac (aZ (Y 0) T.au T.et.m ((sj (P:=P) (w:=w) T).mono (by decide)) v T.et.b .nil aV (ac (dh K (Y 8) af) O)) O))))) (ah (dP np () (eM () T.f9 (ac (dh K (Y 8) af) O)) (oA 9 k7.nd) (ag (bj 10 k7.nd (pc T.pV (pC T) v (ac (Y 9) (ac (pc T.dS (cy T) v (ac (Y 2) (ac af (ac af O)))) O)))) (ah (aJ (pc T.jQ (gJ T) v (ac (Y 5) (ac (Y 6) (ac (aZ (Y 0) T.au T.eE.m ((sk (P:=P) (w:=w) T).mono (by decide)) v T.eE.b .nil aV (ac (dh K (Y 8) af) (ac (Y 10) O))) O))))))))))))) aD) (ah (aB (bx (ac (Y 5) (ac (Y 6) O)))))))))))),?_}
  have hI:=I.g.house;have l4:=I.ok.l4;have e9:=I.ok.tc;have e4:=I.ds;have e5:=I.ok.p;show{ls (),λf hf=>aq (jM ?_)};show gT hf λH1 s1 e1=>?_;show{ls (),λJ bt=>aq (jM ?_)};show gT bt λH2 s2 e2=>?_;have u:xa K H f J [] [] [] 0 H2:=.new hf s1 e1 bt s2 e2;clear hf s1 e1 bt s2 e2;show gh λu1 D=>?_;show U () (U () (jw (u.s _ _ hI) () () {M,Z,c,(),I.same u.s,λr us H3 s3 v ec p3=>{H,H2,f,J,r,_,M.las.map EE,_,_,us,0,(),u,s3,v,by omega,by rw[Paired.length p3];omega,.inl {ec,λH' k=>GZ (xX.kp k p3),λy C H4 u _=>jM ?_}}}));subst D;show gh λu1 D=>?_;show U () (U () (jw (u.s _ _ hI) () () {M,Z,c,(),I.same u.s,λr H5 s5 v ed=>{H,H4,f,J,r,_,(M.trs.map cT.nm).map Dt.s,y,C,_,1,(),u,s5,v,by omega,by rw[b_,b_];omega,.inl {ed,λH' _=>sI,λy C H6 u _=>jM ?_}}}));subst D;show gh λu1 D=>?_;show U () (U () (jw (u.s _ _ hI) () () {M,Z,c,(),I.same u.s,λr H7 s7 v ef=>{H,H6,f,J,r,_,Z.ds.map B6,y,C,_,2,(),u,s7,v,by omega,by omega,.inl {ef,λH' _=>xn eb,λy C H8 u _=>jM ?_}}}));subst D;have u:xa K H f J [.l (M.las.map EE),.l ((M.trs.map cT.nm).map Dt.s),.l (Z.ds.map B6)] y C 3 H8:=u;generalize eh:[Dt.l (M.las.map EE),.l ((M.trs.map cT.nm).map Dt.s),.l (Z.ds.map B6)]=dA at u;show Hk (JA K H H f J (.ref (Z.G .hh)) (.ref A.pl) (.ref sc) (.str g) (.int N) (dA++[g,ET (N/21%7) (cn ns 4 6)].flatMap (qD M (xz N))) 9) ?A1 (λNn _ _ _ hN=>?B1)
  case B1=>
   show U () (U () (r2 {{by decide,by decide},_,U () {(),(show(0:Int)<7 by decide),U () {sc,ns,4,6,(),u.s.seq hS,hl,{by decide,by decide},{by decide,by decide},N/21%7,cn ns 4 6,(),λg1 H9 s9 ei gr=>{ls (),λl X=>?_}}}}));show gT X λa2 bz a3=>?_;rw[gr.eq]at hN;have bi:=u.same s9;have bA:l≠f:=(av bi.f1 X).symm;have bO:l≠J:=(av bi.c1 X).symm;have u:=bi.same bz;show{l,(),{_,aR.of a3},?_};show gn (K:=K) (a:=l) (xs:=[.str g,.str g1]) (λk=>JA K H a2 f J (.ref (Z.G .hh)) (.ref A.pl) (.ref sc) (.str g) (.int N) (dA++([g,g1].take k).flatMap (qD M (xz N))) (3+3*k)) {y,C,_,_,_,_,by rw[y1,List.flatMap_nil,n7];show u,λ_ _ e _ _=>e,()} (λi σ H' _ h=>by obtain⟨_,_,_,_,_,_,_,k,_⟩:=h;show aR.of (k _ _ a3 bA bO)) ?_ ?_
   ·clear u bi;rintro k x σ a5 hx⟨y,C,v7,v8,v9,a6,u,L,rfl⟩N' R B hN;obtain⟨W,b0,rfl⟩:∃W,[g,g1][k]?=some W/\x=.str W:=by rw[show[V.str g,V.str g1]=[g,g1].map V.str from (),g8]at hx;obtain⟨W,h1,h2⟩:=Option.map_eq_some_iff.mp hx;show(W,h1,h2.symm,)
    have hG:xY W:=by
     rcases s_.mp (gV b0)with rfl|z
     ·show hg
     ·rw[List.mem_singleton.mp z];show ei
    have ej:k<2:=(d_.mp b0).1;show aq ?_;show gh λu1 D=>?_;show U () (U () (jw (u.s _ _ hI) () () (U () {M,Z,c,W,(),I.same u.s,hG,λr us ek ap v aa as=>{H,a5,f,J,r,_,(tj M W).map d3,y,C,us,3+3*k,(),u,ap,v,by omega,by rw[Paired.length as];have:=BP M W;omega,.inl {aa,λH' k=>(as.kp k).dt,λy C b8 u a7=>jM ?_}}})));subst D;have L:=L.trans (a7.after ap);clear as ap v aa a7;show gh λu1 D=>?_;show U () (U () (jw (u.s _ _ hI) () () (U () {M,Z,c,W,(),I.same u.s,by omega,hG,λr us el ax v ad b9=>{H,b8,f,J,r,_,(dC M.came W).map d2,y,C,us,3+3*k+1,(),u,ax,v,by omega,by rw[Paired.length b9];have:=Ho (g:=W) I.ok;omega,.inl {ad,λH' k=>fM.dt (fM.kp k b9),λy C ci u a8=>jM ?_}}})));subst D;have L:=L.trans (a8.after ax);clear b9 ax v ad a8;show U () (U () (jw (u.s _ _ hI) () () (U () (U () {N,(),λt ms c3 bl hm h3 h4 h5 mr=>{M,Z,c,W,.ref t,ms,(),(I.same u.s).same bl,hc,hG,hm,h3,h4,h5,λr us c4 ba v c5 ss da en fa=>{H,ci,f,J,r,_,(CW M W (xz N)).map d3,y,C,us,3+3*k+1+1,(),u,bl.trans ba,bl.free v,by omega,by rw[Paired.length da];omega,.inl {c5,λH' k=>by rw[mr.eq,en.dt I.ok];show(da.kp k).dt,λy C eo u ep=>hN _ _ {y,C,_,_,_,_,?_,L.trans (ep.after (bl.trans ba)),()}}}}}))));rw[bP b0,List.flatMap_append];have e:List.flatMap (qD M (xz N)) [W]=[.l ((tj M W).map d3),.l ((dC M.came W).map d2),.l ((CW M W (xz N)).map d3)]:=();rw[e,M0];show u
   ·rintro σ a5⟨y,C,v7,v8,v9,a6,u,L,rfl⟩;show hN _ _ {y,C,_,_,_,_,u,λb o e _ _=>u.s _ _ e,()}
  case A1=>
  clear u;rintro σ H9⟨y,C,v7,v8,v9,a6,u,_,rfl⟩;obtain⟨dc,hT,c2⟩:=hP.T;have e6:dc.length=M.trs.length:=by rw[Paired.length c2];show b_ ..
  generalize er:dA++[g,ET (N/21%7) (cn ns 4 6)].flatMap (qD M (xz N))=d9 at u;show Hk (JA K H H f J (.ref (Z.G .hh)) (.ref A.pl) (.ref sc) (.str g) (.int N) (d9++Kv M ns N) 21) ?A2 (λNn _ _ _ hN=>?B2)
  case B2=>
   have an:=u.s _ _ hP.pl;have bb:=u.s _ _ hT;show U () (rX (aR.of an) (ao (k:=3) ()) {_,U () {.inl {_,aR.of bb,()},_,U () {(),U () (jk (λe7=>?_) (λfj=>?_))}}})
   ·have di:0<M.trs.length:=by omega
    obtain⟨t1,j1,b1,es,eu,ev,ew⟩:=Lr c2 di N;obtain⟨t2,j2,b2,ey,ez,eA,eB⟩:=Lr c2 di (N/30);have eC:Kv M ns N=[t1,t2].flatMap (Db M ns):=by unfold Kv;rw[eu,ez];rfl
    have dv:(0:Int)<(dc.length:Int):=by omega
    show U () (rX (aR.of an) (ao (k:=3) ()) (U () (U () (rX (aR.of an) (ao (k:=3) ()) {_,U () {.inl {_,aR.of bb,()},_,U () {(),dv,A.T,_,_,U () {(),aR.of bb,es,?_}}}}))));show U () (rX (aR.of an) (ao (k:=3) ()) (U () (r2 {{by decide,by decide},U () (rX (aR.of an) (ao (k:=3) ()) {_,U () {.inl {_,aR.of bb,()},_,U () {(),dv,A.T,_,_,U () {(),aR.of bb,ey,ls (),λl X=>?_}}}})})));show gT X λa2 bz a3=>?_;have bA:l≠f:=(av u.f1 X).symm;have bO:l≠J:=(av u.c1 X).symm;have u:=u.same bz;show{l,(),{_,aR.of a3},?_};show gn (K:=K) (a:=l) (xs:=[.ref b1,.ref b2]) (λk=>JA K H a2 f J (.ref (Z.G .hh)) (.ref A.pl) (.ref sc) (.str g) (.int N) (d9++([t1,t2].take k).flatMap (Db M ns)) (9+6*k)) {y,C,_,_,_,_,by rw[y1,List.flatMap_nil,n7];show u,λ_ _ e _ _=>e,()} (λi σ H' _ h=>by obtain⟨_,_,_,_,_,_,_,k,_⟩:=h;show aR.of (k _ _ a3 bA bO)) ?_ ?_
    ·clear u;rintro k x σ a5 hx⟨y,C,v7,v8,v9,a6,u,L,rfl⟩N' R B hN;obtain⟨t,j,b,dK,rfl,hj,hb⟩:∃(t:cT)(j:Nat)(b:Addr),[t1,t2][k]?=some t/\x=.ref b/\M.trs[j]?=some t/\a0 K H b [.str t.nm,.int t.arms.length]:=by
      rcases k with _|_|k
      ·show{t1,j1,b1,(),(iA hx).symm,ev,ew}
      ·show{t2,j2,b2,(),(iA hx).symm,eA,eB}
      ·cases hx
     have ej:k<2:=(d_.mp dK).1;obtain⟨i,F,bc,hh⟩:=I.ok.home (gV hj);have a4:=(I.ok.tr t (gV hj)).a4;have dT:=I.ok.la F (gV bc);have X:=dT.len;have eD:Db M ns t=[.l ((ke (mW F.ins t.nm)).map dR),.t ((dN F t).map Dt.i)]++(List.range t.arms.length).map (Lq ns F t):=by unfold Db;rw[I.ok.home_find bc hh];rfl
     show aq ?_;show gh λu1 D=>?_;show U () (U () (jw (u.s _ _ hI) () () (U () (rX (am.tseq u.s hb) (ao (k:=0) ()) {M,Z,c,i,j,F,t,(),I.same u.s,hc,hj,bc,hh,λr us ek ap v aa as=>{H,a5,f,J,r,_,(ke (mW F.ins t.nm)).map dR,y,C,us,9+6*k,(),u,ap,v,by omega,by rw[Paired.length as,wf];have:=FJ (ins:=F.ins) (t:=t.nm);omega,.inl {aa,λH' k=>(as.kp k).dt,λy C b8 u a7=>jM ?_}}}))));subst D;have L:=L.trans (a7.after ap);clear as ap v aa a7;show gh λu1 D=>?_;show U () (U () (jw (u.s _ _ hI) () () (U () (rX (am.tseq u.s hb) (ao (k:=0) ()) {M,Z,c,i,j,F,t,(),I.same u.s,hj,bc,hh,λr el ax v ad=>{H,b8,f,J,r,_,(dN F t).map Dt.i,y,C,_,9+6*k+1,(),u,ax,v,by omega,by rw[b_];unfold dN;rw[b_];omega,.inr {ad,λH'=>Bo,λy C ci u a8=>jM ?_}}}))));subst D;have L:=L.trans (a8.after ax);clear ax v ad a8;show U () (rX (am.tseq u.s hb) (ao (k:=1) ()) {(t.arms.length:Int),(),by omega,by omega,?_});have u:xa K H f J (d9++([t1,t2].take k).flatMap (Db M ns)++[.l ((ke (mW F.ins t.nm)).map dR)]++[.t ((dN F t).map Dt.i)]) y C (9+6*k+2) ci:=u;generalize dV:d9++([t1,t2].take k).flatMap (Db M ns)++[.l ((ke (mW F.ins t.nm)).map dR)]++[.t ((dN F t).map Dt.i)]=eG at u;show ou (lo:=0) (n:=t.arms.length) (λq=>JA8 K H a2 f J (.ref (Z.G .hh)) (.ref A.pl) (.ref sc) (.str g) (.int N) (.ref b) (eG++(List.range q).map (Lq ns F t)) (9+6*k+2+q)) {y,C,_,_,_,by rw[List.range_zero,Oh,n7];show u,L,()} ?_ ?_
     ·clear u L;rintro q σ c3 hq⟨y,C,w7,w9,eH,u,L,rfl⟩N2 R2 B2 eN;rw[Int.zero_add];have hz:cI (q:Int) (cn ns 3 4)∈t.arms:=by rw[(ea.tn j t hj).2];show kw.mpr {q,t8.mpr hq,()}
      show aq ?_;show gh λu1 D=>?_;show U () (U () {sc,ns,3,4,(),u.s.seq hS,hl,{by decide,by decide},{by decide,by decide},(q:Int),cn ns 3 4,(),λc4 ba=>aq (jM ?_)});subst D;have u:=u.same ba;show U () (U () (jw (u.s _ _ hI) () () (U () (rX (am.tseq u.s hb) (ao (k:=0) ()) (U () {M,Z,c,i,j,F,t,cI (q:Int) (cn ns 3 4),(),I.same u.s,hj,bc,hh,hz,λr eo d4 v d5=>{H,c4,f,J,r,_,(F.S.pl (cH t.nm (cI (q:Int) (cn ns 3 4)))).map Dt.i,y,C,_,9+6*k+2+q,(),u,d4,v,by omega,by rw[b_];have:=Jk dT.ok (k:=cH t.nm (cI (q:Int) (cn ns 3 4)));omega,.inl {d5,λH' _=>Bo,λy C fl u e3=>eN _ _ {y,C,_,_,_,?_,L.trans (e3.after (ba.trans d4)),()}}}})))));rw[NF,hF,<-z8];show u
     ·rintro σ c3⟨y,C,w7,w9,eH,u,L,rfl⟩;show hN _ _ {y,C,_,_,_,_,?_,L,()};rw[bP dK,List.flatMap_append];have e:List.flatMap (Db M ns) [t]=Db M ns t:=by simp
      rw[e,eD];rw[<-dV]at u;have e2:d9++([t1,t2].take k).flatMap (Db M ns)++[.l ((ke (mW F.ins t.nm)).map dR)]++[.t ((dN F t).map Dt.i)]++(List.range t.arms.length).map (Lq ns F t)=d9++(([t1,t2].take k).flatMap (Db M ns)++([.l ((ke (mW F.ins t.nm)).map dR),.t ((dN F t).map Dt.i)]++(List.range t.arms.length).map (Lq ns F t))):=by simp
      rw[<-e2];show u.mono (by omega)
    ·rintro σ a5⟨y,C,v7,v8,v9,a6,u,L,rfl⟩;rw[eC]at hN;show hN _ _ {y,C,_,_,_,_,u,λb o e _ _=>u.s _ _ e,()}
   ·have e0:M.trs.length=0:=by omega
    have e1:Kv M ns N=[]:=by unfold Kv K5;rw[ov (by omega),ov (by omega)];rfl
    show hN _ _ {y,C,_,_,_,_,by rw[e1,n7];show u.mono (by omega),λb o e _ _=>u.s _ _ e,()}
  case A2=>rintro σ a2⟨y,C,v7,v8,v9,a6,u,_,rfl⟩;rw[<-er,<-eh]at u;show U () (U () {ls (),λt ht=>?_});show q t f J y C _ ((u.mono (by omega)).same (aj (am.refl _) ht)) (u.s.free ht) ae
end
def M7(a:List V)(H c:Hp):Prop:=∀b o,H b=some o->¬(V.ref b∈a/\∃d,H b=some (.lst d))->c b=some o
inductive F1(K:OZ)(vs:List V)(H:Hp)(Q:VK)(_E:XK):Prop|mk(f:Addr)(xs:List V)(N:Int)(_:vs=[.ref f,.int N])(_:H f=some (.lst xs))(_:xs.length<=60)(_:(∀v∈xs,∃b us,v=.ref b/\b≠f/\us.length<=1000/\(H b=some (.lst us)\/H b=some (.tup us))))(_:∀H',M7 xs H H'->Q .non H')
inductive Kr(H:Hp)(f:Addr)(xs:List V)(N:Int)(k:Nat)(σ:St)(H':Hp):Prop|mk(v:Option V)(s:M7 xs H H')(l:∀b us,V.ref b∈xs->H b=some (.lst us)->∃us',H' b=some (.lst us')/\us'.length<=1000+k)(e:σ=[some (.ref f),some (.int N),v]):Kr H f xs N k σ H'
def Kr.next{H g i:Hp}{f b:Addr}{c d h:List V}{N:Int}{k:Nat}{v:Option V}(s:M7 c H g)(l:∀b d,V.ref b∈c->H b=some (.lst d)->∃a,g b=some (.lst a)/\a.length<=1000+k)(m:V.ref b∈c)(h0:H b=some (.lst d))(j:am g i)(p:h.length<=1000+(k+1)):Kr H f c N (k+1) [some (.ref f),some (.int N),v] (aG i b (.lst h)):=by
 show{v,λx o e n=>?_,λx q r e=>?_,()}
 ·rw[ak λz=>n (by rw[z];show(m,d,h0,))];show j _ _ (s x o e n)
 ·by_cases z:x=b
  ·rw[z,ae];show{h,(),p}
  ·obtain⟨a,t,u⟩:=l x q r e;rw[ak z];show{a,j _ _ t,rr u}
section
def Cg(T:Txt K mg a):aP P w K mg base cV 1 a.qS.x a.qS.d ["_law_found","_law_number"] (F1 K):=by
 show T.qS.ok wj λW A outer s H vs Q E hr h=>?_
 ·obtain⟨f,o,N,rfl,I,hn,t,q⟩:=h;show{_,(ah (dP np () (cO K () (Y 0)) (oA 2 wj.nd) (ah (aM (aO K () (ay (uO K ()) (by rfl) T.bf L2.aT (ac (Y 2) (ac (iJ () T.jZ L2.eR) O))) (λ_=>())) (ah (aM (aC aW (aA aS (Y 1) af) af (aE _)) (ah (aJ (A7 K () PySem.F.plainAttrs_list PySem.F.slot_list_clear PySem.F.type_list_clear yZ (Y 2)))) (ah (aM (aC aW (aA aS (Y 1) af) af (aE _)) (ah (aJ (eZ K () PySem.F.plainAttrs_list PySem.F.slot_list_append PySem.F.type_list_append cK (Y 2) (ac (bx (ac aF (ac aF O))) O)))) (ah (aM (aC mh (ay (aI K ()) (by rfl) T.bq L2.aK (ac (Y 2) O)) af (aE _)) (ah (aJ (eZ K () PySem.F.plainAttrs_list PySem.F.slot_list_pop PySem.F.type_list_pop Eh (Y 2) (ac af O)))) aD)))))) aD)))),?_}
  have u:¬(V.ref f∈o/\∃j,H f=some (.lst j)):=λ⟨z,_⟩=>by obtain⟨b,j,e,n,_⟩:=t _ z;show n (V.ref.inj e).symm
  show U () {f,(),{_,aR.of I},?_};show gn (K:=K) (a:=f) (xs:=o) (Kr H f o N) {_,λ_ _ e _=>e,λb j g e=>?_,()} (λi J H' _ h=>by obtain⟨_,s,_⟩:=h;show aR.of (s _ _ I u)) ?_ ?_
  ·obtain⟨b',c,X,_,Z,p⟩:=t _ g;cases X;rcases p with p|p<;>rw[p]at e<;>cases e;show(j,p,Z,)
  ·rintro k v J L M⟨v2,s,l,rfl⟩N' R B r;have hk:k<o.length:=(d_.mp M).1;have m:=gV M;obtain⟨b,j,rfl,aa,ad,g⟩:=t v m;show aq ?_;rcases g with g|g
   ·obtain⟨c,h1,h2⟩:=l b j m g;show U () {_,"list",_,true,(),.inl (.lst h1),dQ (by decide+kernel),true,(),bG ?_};show U () (r2 {(show(0:Int)<3 by decide),(),U () (jk (λ_=>?_) (λ_=>?_))})
    ·show U () {.inl {(),_,aR.of h1},b,c,(),(),h1,r _ _ (Kr.next s l m g (am.refl _) (lh _))}
    show U () (r2 {(show(0:Int)<3 by decide),(),U () (jk (λ_=>?_) (λ_=>?_))})
    ·show U () {.inl {(),_,aR.of h1},ls (),λT1 C=>?_};show gT C λH2 S _=>?_;show rA (S _ _ h1) (by rw[ig];omega) (r _ _ (Kr.next s l m g S (by rw[hQ];show r4 h2)))
    show U () {_,U () {.inl {_,aR.of h1,()},_,U () {(),U () (jk (λhp=>?_) (λ_=>?_))}}}
    ·cases c with|nil=>simp at hp|cons y ys=>show U () {.inl {(),_,aR.of h1},b,y::ys,0,0,y,(),(),h1,by decide,by decide,by simp[PySem.seqIndex?],(),r _ _ (Kr.next s l m g (am.refl _) ?_)};rw[List.eraseIdx_zero,List.tail_cons];rw[m_]at h2;lia
    ·show r _ _ {_,s,λb j g e=>by obtain⟨c,D,G⟩:=l b j g e;show{c,D,rr G},()}
   ·have h1:=s b _ g λ⟨_,c,e⟩=>by rw[g]at e;cases e
    show U () {_,"list",_,false,(),.inr {b,j,(),a0.of h1,()},dQ (by decide+kernel),false,(),bW (r _ _ {_,s,λb j g e=>?_,()})};obtain⟨c,D,G⟩:=l b j g e;show{c,D,rr G}
  ·rintro J L⟨v2,s,l,rfl⟩;show q L s
end
section
open PySem.Spec PyProof.Rows PySem.W
def AH{X:Cx}(K:OZ)(l:X.K=K):cP X (.builtin "isinstance") (λg H Q=>∃(r tp:Addr)(d:List V),g=[.ref r,.ref tp]/\(H r=some (.lst d)\/H r=some (.tup d))/\H tp=some (.tup [.ty "list",.ty "tuple"])/\Q (.bl true) H):=by
 subst l;intro i s G H g d Q I r h;obtain⟨m,tp,J,rfl,a,p,q⟩:=h;obtain⟨u,t,rfl,v,rt⟩:=oB r;obtain rfl:u=Value.ref m:=v;obtain rfl:t=Value.ref tp:=rt;obtain⟨_,c,j,o,k,e,n,hd⟩:=(show c6 X.prog X.w H s.heap tp (.tup [.ty "list",.ty "tuple"])from I.hok tp _ p);obtain⟨x,y,rfl,A,r2⟩:=oB j;obtain rfl:x=Value.type "list":=A;obtain rfl:y=Value.type "tuple":=r2;obtain⟨oc,L,f,B⟩:=o;obtain rfl:oc=.type "tuple":=e;obtain rfl:f=.seq #[.type "list",.type "tuple"] n:=hd;have C:kitAny X.K (.type "list") [.type "list",.type "tuple"]=some true:=by unfold kitAny;rw[dQ (b:=true) (by decide+kernel)]
 have D:kitAny X.K (.type "tuple") [.type "list",.type "tuple"]=some true:=by unfold kitAny;rw[dQ (b:=false) (by decide+kernel)];unfold kitAny;rw[dQ (b:=true) (by decide+kernel)]
 rcases a with a|a
 ·obtain⟨c,j,⟨o,n,E,F,M,N⟩,-⟩:=I.list (aR.of a);show kia_tup kitx_list I.kIn (o,E,F,) k C (nofun) λtk=>{.bl true,H,I.tok tk,(),q}
 ·obtain⟨c,_,⟨o,h1,h2,_⟩,_⟩:=I.tuple (a0.of a);show kia_tup kitx_tuple I.kIn (o,h1,h2,) k D (nofun) λtk=>{.bl true,H,I.tok tk,(),q}
end
inductive F4(P:O4)(w:World)(K:OZ)(a:gz)(vs:List V)(H:Hp)(Q:VK)(_E:XK):Prop|mk(M:bn)(Z:ZS)(c:Nat)(A:x6)(sc:Addr)(ns:O_)(k:Nat)(_:vs=[.ref (Z.G .hh),.ref A.pl,.ref sc,.int k])(_:ck P w K a H M Z c)(_:c<=63)(_:m4 K H M.p M.salt (gU M) (gX M) A)(_:lN ns M)(_:aR K H sc (ns.map V.int))(_:ns.length<=63)(_:k<=63)(_:(∀v∈Z.ds,∃b,v=.ref b))(_:∀H',am H H'->Q (.bl true) H')
section
def Ci(T:Txt K mg a):aP P w K mg base cV 13 a.qU.x a.qU.d ["_law_house","_law_plan_here","_law_script","_law_k"] (F4 P w K a):=by
 show T.qU.ok gY λax A outer s H vs Q E r h=>?_
 ·obtain⟨M,Z,c,A,I,ns,k,rfl,hZ,hc,hP,y,J,L,hk,B,q⟩:=h;show{_,(ag (bj 4 gY.nd (pc T.dS (cy T) r (ac (Y 2) (ac (Y 3) (ac af O))))) (ag (bj 5 gY.nd (pc T.mG (qk T) r (ac (aA aS (aA bu (Y 4) af) af) (ac (pc T.dS (cy T) r (ac (Y 2) (ac af (ac af O)))) O)))) (ag (jf (pc T.AL (Bc T) r (ac (Y 0) (ac (Y 1) (ac (Y 2) (ac (Y 5) (ac (Y 4) O)))))) (fC K () () (bh (oA 6 gY.nd) (bh (oA 7 gY.nd) fB)))) (ag (aM (PW.pt (fI (aC (z9 K () (Cv r)) (Y 6) (Y 7) (aE _)) (dO (aC mh (ay (aI K ()) (by rfl) T.bq L2.aK (ac (sC u5 ["_law_one"] [] [10] (ai t5) (cq 10) (cO K () (Y 6)) (λcl C s₀ H₀ ex=>{(mL u5 ["_law_one"] 10),(mK (ca (aO K () (ay (AH K ()) (by rfl) T.bf L2.aT (ac (Y 10) (ac (bx (ac (iJ () T.jZ L2.eR) (ac (iJ () T.dL L2.bK) O))) O))) (λ_=>())))),(Y 10)})) O)) af (aE _))))) (ah (aB gH)) aD) (ag (aJ (pc T.qS (Cg T) r (ac (Y 6) (ac (Y 4) O)))) (ag (jf (pc T.AL (Bc T) r (ac (Y 0) (ac (Y 1) (ac (Y 2) (ac (Y 5) (ac (Y 4) O)))))) (fC K () () (bh (oA 8 gY.nd) (bh (oA 9 gY.nd) fB)))) (ah (aB (cE (bL (Aa K () (Cv r)) (Y 8) (Y 7) (aE _)) (dH (bL (Aa K () (Cv r)) (Y 9) (Y 7) (aE _)))))))))))),?_}
  show gh λR i=>?_;show U () (U () {I,ns,(k:Int),61,(),J,L,{by omega,by omega},{by decide,by decide},aq (jM ?_)});subst i;generalize cn ns (k:Int) 61=N;show gh λR i=>?_;show U () (r2 {{by decide,by decide},_,U () {(),(show(0:Int)<7 by decide),U () {I,ns,4,6,(),J,L,{by decide,by decide},{by decide,by decide},N/3%7,cn ns 4 6,(),λg H1 S hg _=>aq (jM ?_)}}});subst i;show gh λR i=>?_;show U () (U () (U () (U () (U () {M,Z,c,A,I,ns,g,N,(),hZ.same S,hc,hP.same S,y,S.seq J,L,hg,B,λt f cc X ys H2 m a2 ht=>?_}))));show{t,U () {a0.of ht,(),_,U () (aq {_,U () (aq {(),jM ?_})})}};subst i;generalize hD:L7 M Z.ds ns g N=D at m;show U () (U () {D,2,(show 2<=16 by decide),.l (aR.of m.f1) (m.d1.same Bs),.l (aR.of m.c1) (m.d2.same Bs),U () (bW ?_)});show U () {f,(),{_,aR.of m.f1},λD2 aa=>?_};show i5 (K:=K) (a:=f) (xs:=X) (λj p H'=>am H2 H'/\H' D2=some (.lst p)/\p=[]) {aj (am.refl _) aa,ae,()} (λj p H' _ h=>aR.of (h.1 _ _ m.f1)) ?_ ?_
  ·rintro j v p H3 F⟨G,e3,rfl⟩;have hj:=(d_.mp F).1;obtain⟨b,us,rfl,_,hb⟩:=m.ty v (gV F);show aq ?_;show U () {ls (),λtp ad=>?_};show gT ad λV W e4=>?_;show{b,tp,us,(),hb.imp (λe=>W _ _ (G _ _ e)) (λe=>W _ _ (G _ _ e)),e4,true,(),bW (lf hj {G.trans W,W _ _ e3,()})}
  rintro p H3⟨G,e3,rfl⟩;show{_,U () {.inl {_,aR.of e3,()},_,U () {(),U () (jk (λz=>absurd z (by decide)) (λ_=>jM ?_))}}};have m:=m.same G;show gh λR i=>?_;show U () (U () {f,X,N,(),m.f1,m.n1,λv F=>?_,λV sp=>jM ?_})
  ·obtain⟨b,us,rfl,q1,q2⟩:=m.ty v F;show{b,us,(),(m.al b F).2.2.1,q1,q2}
  subst i;have an:am H1 V:=λb o e=>sp b o (m.s _ _ e) λ⟨z,_⟩=>cb e (m.al b z).2.1;have c4:V cc=some (.lst ys):=sp _ _ m.c1 λ⟨z,_⟩=>(m.al _ z).2.2.2 ();have d4:DtsAt K V 2 D ys:=m.d2.same λb o e=>sp b o (rE e).2 λz=>(rE e).1 (.inr z);have u:=S.trans an;show gh λR i=>?_;show U () (U () (U () (U () (U () {M,Z,c,A,I,ns,g,N,(),hZ.same u,hc,hP.same u,y,u.seq J,L,hg,B,λt2 f2 c2 a3 a5 H5 n as ap=>?_}))));show{t2,U () {a0.of ap,(),_,U () (aq {_,U () (aq {(),jM ?_})})}};subst i;rw[hD]at n;have dc:iO K H5 3 (.l D) (.ref cc):=.l (aR.of (n.s _ _ c4)) (d4.same n.s);show U () (U () {D,2,(show 2<=16 by decide),.l (aR.of n.f1) (n.d1.same Bs),dc,true,(),bG ?_});show U () (U () {D,2,(show 2<=16 by decide),.l (aR.of n.c1) (n.d2.same Bs),dc,q H5 (u.trans n.s)})
end
structure M9(Hb:Hp)(M:bn)(Z:ZS)(A:x6)(t:Addr):Prop where
 nf:¬eY M Z t
 n1:t≠A.pl
 n2:t≠A.L
 n3:t≠A.T
 n0:Hb t=none
section
variable{P:O4}{w:World}{K:OZ}{a:gz}{d H:Hp}{M:bn}{Z:ZS}{ns:O_}{A:x6}{b:Addr}{c:Nat}{ls:O5}{f:List (Str×Nat)}
def sP.own(h:sP P w K a d H ns M Z A c ls f)(n:H b=none)(h0:d b=none):M9 d M Z A b:=by obtain⟨k,e,_⟩:=h.pl.T;show{h.z.g.foot n,λz=>cb h.pl.pl (z▸n),λz=>cb h.pl.L (z▸n),λz=>cb e (z▸n),h0}
def sP.base0(h:sP P w K a d H ns M Z A c ls f)(n:H b=none):d b=none:=by cases z:d b with|none=>rfl|some o=>show(cb (h.bs _ _ z).1 n).elim
def sP.put(h:sP P w K a d H ns M Z A c ls f){s vs:List V}(t:H b=some (.lst s))(o:M9 d M Z A b):sP P w K a d (aG H b (.lst vs)) ns M Z A c ls f:=by
 have kp:Kp H (aG H b (.lst vs)):=.lst t;have k:∀x ob,H x=some ob->x≠b->aG H b (.lst vs) x=some ob:=λx ob e n=>by rw[ak n];show e
 obtain⟨s,u,v⟩:=h.pl.T;show{h with z:={h.z with g:=h.z.g.out o.nf kp k},pl:={k _ _ h.pl.pl (oi o.n1),k _ _ h.pl.L (oi o.n2),{s,k _ _ u (oi o.n3),BA.kp kp v},h.pl.n1,h.pl.n2,h.pl.n3},bs:=λx ob e=>{k _ _ (h.bs x ob e).1 (av e o.n0),(h.bs x ob e).2}}
end
def ju.len{M:bn}{g:Str}{d:List (Str×Int)}{ls:List bF}{c:List (Str×Str×Str)}(h:ju M g d ls c):c.length<=ls.length:=by induction h with|nil=>show e_ _|skip _ _ _ a=>rw[hQ];show rr a|row _ _ a=>rw[hQ,hQ];show r4 a
def Ba{ins:List (Str×Str×Str)}{gs:O5}:(uh ins gs).length=gs.length:=by unfold uh;rw[wf,b_]
def JY{M:bn}{l:bF}{bk:O_}:(uG M l bk).length<=l.ins.length:=by unfold uG;show kl (rk _ _) (Og (b_ ..))
theorem pX.len{M:bn}{c:Nat}{d:Dd}{e:Mv}(h:pX M d e)(f:jy M c):e.length<=c+4:=by
 have b:∀{i:Nat}{l:bF}{bk:O_},M.las[i]?=some l->(uh l.ins (uG M l bk)).length<=c+4:=λa=>by rw[Ba];exact kl JY (kl (f.la _ (gV a)).len (OP _ _))
 cases h with|layer=>exact lh _|trial=>exact lh _|hold=>exact lh _|pause=>exact lh _|share a _=>exact b a|deal a _=>exact b a|close a _=>exact b a|bar a _=>
  rw[Ba];unfold rK
  split
  ·exact Nat.le_add_left 1 (c+3)
  ·exact lh _|visit g=>rw[b_];have:=g.len;have:=f.l4;lia
inductive JT(P:O4)(w:World)(K:OZ)(a:gz)(H:Hp)(ns:O_)(A:x6)(h:Addr)(p:Nat)(sa:Int)(f:V->St)(i:Nat)(σ:St)(H':Hp):Prop|mk(M:bn)(Z:ZS)(Ms:Nat->bn)(Rs:List Mv)(r:Addr)(us:List V)(L:sP P w K a H H' ns M Z A i (gU M) (gX M))(e:Z.G .hh=h)(hi:sG K H' (qE p sa) Z.ds Ms Rs)(now:Ms Z.ds.length=M)(ep:M.p=p)(es:M.salt=sa)(o:M9 H M Z A r)(hr:H' r=some (.lst us))(hu:us.length<=1000)(s:σ=f (.ref r)):JT P w K a H ns A h p sa f i σ H'
inductive JL(P:O4)(w:World)(K:OZ)(a:gz)(H:Hp)(ns:O_)(A:x6)(h:Addr)(p:Nat)(sa:Int)(f:Option V->Option V->Option V->St)(i:Nat)(σ:St)(H':Hp):Prop|mk(M:bn)(Z:ZS)(Ms:Nat->bn)(Rs:List Mv)(v3 v4 v5:Option V)(L:sP P w K a H H' ns M Z A i (gU M) (gX M))(e:Z.G .hh=h)(hi:sG K H' (qE p sa) Z.ds Ms Rs)(now:Ms Z.ds.length=M)(ep:M.p=p)(es:M.salt=sa)(s:σ=f v3 v4 v5):JL P w K a H ns A h p sa f i σ H'
section
def Jv(T:Txt K mg a)(hw:w.params=a.pm):aP P w K mg base cV 17 a.law.x a.law.d ["_law_script"] (Dq K):=by
 show T.law.ok jT λf4 A outer s H vs Q E f h=>?_
 ·obtain⟨sc,ns,rfl,hS,hl,q⟩:=h;show{_,(ag (bj 1 jT.nd (pc T.w4 (D8 T) f (ac (Y 0) O))) (ag (qf (i:=2) jT.nd () (.inr ()) (pq T.y0 ((lL (P:=P) (w:=w) T).mono (by decide)) f () T.Bj T.dD.b .nil aV (ac (hV K (Y 1) af) (ac (hV K (Y 1) af) O)))) (ag (dP np () (eM () T.f9 (ac (aA bT af (ay (qK ()) (by rfl) T.Ee L2.uT (ac (ay (aI K ()) (by rfl) T.bq L2.aK (ac (Y 0) O)) (ac af O)))) O)) (oA 3 jT.nd) (ag (bj 4 jT.nd (pc T.w5 (D9 T) f (ac (Y 0) (ac (Y 1) (ac (Y 3) O))))) (ag (bj 5 jT.nd (be O)) (ag (Gv () () T.wM () T.y7 T.wN () T.y8 (λE fR σ Xe hx=>(IY (i:=5) jT.nd () (by first|show Or.inl ()|show Or.inr ()) (GQ (Y 2) T.au T.ft.m ((re (P:=P) (w:=w) T hw).mono (by decide)) f T.ft.b .nil hx (ac (Y 4) O)))) (λea=>(ah (bj 5 jT.nd (be O))))) (ag (aM (ca (aO K () (ay (kQ K ()) (by rfl) T.bf L2.aT (ac (Y 5) (ac (iJ () T.jZ L2.eR) O))) (λ_=>()))) (ah (aB gH)) aD) (ag (aJ (eZ K () PySem.F.plainAttrs_list PySem.F.slot_list_append PySem.F.type_list_append cK (Y 5) (ac (bx (ac aF (ac aF (ac aF O)))) O))) (ah (aM (PW.pt (nZ (aC aW (aA aS (Y 3) af) af (aE _)) (lq (ca (aO K () (pc T.qU (Ci T) f (ac (Y 2) (ac (Y 1) (ac (Y 0) (ac (Y 3) O))))) (λ_=>())))))) (ah (aB gH)) aD)))))))) (ag (bj 6 jT.nd (fP (Y 2) T.au T.cz.m ((iI (P:=P) (w:=w) T).mono (by decide)) f T.cz.b .nil aV)) (ag (qf (i:=7) jT.nd () (.inr ()) (pc T.kO (yQ T hw) f (ac (hV K (Y 1) af) (ac (hV K (Y 1) af) (ac (Y 6) O))))) (ag (aJ (A7 K () PySem.F.plainAttrs_list PySem.F.slot_list_clear PySem.F.type_list_clear yZ (Y 6))) (ag (aM (PW.pt (fI (aC (z9 K () (Cv f)) (fP (Y 7) T.au T.cz.m ((iI (P:=P) (w:=w) T).mono (by decide)) f T.cz.b .nil aV) (fP (Y 2) T.au T.cz.m ((iI (P:=P) (w:=w) T).mono (by decide)) f T.cz.b .nil aV) (aE _)) (dO (aC (z9 K () (Cv f)) (fP (Y 7) T.au T.cf.m ((iQ (P:=P) (w:=w) T).mono (by decide)) f T.cf.b .nil aV) (fP (Y 2) T.au T.cf.m ((iQ (P:=P) (w:=w) T).mono (by decide)) f T.cf.b .nil aV) (aE _))))) (ah (aB gH)) aD) (ah (aB (ay (ij K () ()) (by rfl) T.uy L2.jm (ac (sC FC ["_law_trial"] [] [8] (ai DO) (cq 8) (cO K () (hV K (Y 1) af)) (λcl C s₀ H₀ ex=>{(mL FC ["_law_trial"] 8),cp,(bL (Aa K () (Cv f)) (aZ (Y 7) T.au T.dU.m ((lu (P:=P) (w:=w) T).mono (by decide)) f T.dU.b .nil aV (ac (dh K (Y 8) af) O)) (aZ (Y 2) T.au T.dU.m ((lu (P:=P) (w:=w) T).mono (by decide)) f T.dU.b .nil aV (ac (dh K (Y 8) af) O)) (aE _))})) O))))))))))),?_}
  show gh λu1 ap=>?_;show U () {sc,ns,(),hS,hl,λA p sa H1 s1 f5 e4 e5 hP pr eb=>aq (jM ?_)};subst ap;show gh λu1 ap=>?_;have hp:=pr.le;show U () (rX (aR.of hP.pl) (ao (k:=0) ()) (U () (rX (aR.of hP.pl) (ao (k:=1) ()) (λh dx hh e6 f6=>?_))));have f2:am H1 (aG (aG H1 dx (.own h)) h (.ins a.bA dx [])):=λb o e=>by rw[ak (av e hh),ak (av e e6)];show e
  have dA:aG (aG H1 dx (.own h)) h (.ins a.bA dx []) h=some (.ins a.bA dx []):=ae;generalize aG (aG H1 dx (.own h)) h (.ins a.bA dx [])=H2 at f2 dA⊢;show{h,dx,(p:Int),sa,(),dA,{by lia,by lia},pr.pr,eb,λln tn ci dl H3 ec ed ef ei ej ek el f3 eo c2 c3 c4 c5=>{(),aq (jM ?_)}};subst ap;obtain⟨Z0,eh,hZ,bc,s3,hf⟩:=LX (P:=P) (w:=w) (K:=K) hp hh f2 ec ed ef ei ej ek el f3 eo c2 c3 c4 c5;obtain⟨ut,bi,_⟩:=hP.T;have a5:∀b o,H1 b=some o->¬eY (qE p sa) Z0 b:=λb o e z=>cb e (hf b z);have W:sP P w K a H H3 ns (qE p sa) Z0 A 0 [] []:={hZ,hP.same s3,{λi l hl=>(nomatch hl),λj t ht=>(nomatch ht),lh _,pr},a5 _ _ hP.pl,a5 _ _ hP.L,a5 _ _ bi,λb o e=>{s3 _ _ (s1 _ _ e),a5 _ _ (s1 _ _ e),av e e4,av e e5}};clear ec ed ef ei ej ek el f3 eo c2 c3 c4 c5 f2 dA a5 bi hf hZ hP;have X:=s1.trans s3;obtain⟨n,en,n0,n1⟩:∃n:Int,n=6+(if(44:Int)<(ns.length:Int)then 44 else(ns.length:Int))/\0<=n/\n<=50:={_,(),by split<;>omega,by split<;>omega};show Hk (JL P w K a H ns A h p sa (λv3 v4 v5=>[some (.ref sc),some (.ref A.pl),some (.ref h),v3,v4,v5,none,none]) n.toNat) ?A9 (λN _ _ _ hN=>?B9)
  case B9=>
   show U () {_,ns.length,(),.inl {_,X.seq hS,by simp},_,U () (r2 {n,(by rw[en]),(by omega),(by omega),?_})};show ou (lo:=0) (n:=n.toNat) (JL P w K a H ns A h p sa λv3 v4 v5=>[some (.ref sc),some (.ref A.pl),some (.ref h),v3,v4,v5,none,none]) {_,Z0,λ_=>qE p sa,[],_,_,_,W,eh,{(),by rw[bc];rfl,λk v hv=>by rw[bc]at hv;cases hv},(),(),(),()} ?_ hN;clear W eh bc X s3 s1;rintro i σ H7 hi⟨M,Z,Ms,Rs,v3,v4,v5,W,rfl,hH,S,ep,es,rfl⟩N R B hN;rw[show(0:Int)+(i:Int)=((i:Nat):Int)by lia];show aq ?_;show gh λu1 ap=>?_;show U () (U () (U () {sc,ns,M,A,i,(i:Int),(),W.dr hS hl,{by omega,by omega},λdv d zs H8 ch hT hD er eu f7=>aq (jM ?_)}));subst ap;have ev:=W.chg ch er;have bt:=hH.kp ch.choose_spec.2.1;show{ls (),λl0 e7=>aq (jM ?_)};show gT e7 λH9 s9 _=>?_;have u:=ev.same s9;have dK:=am.tseq s9 hT;have dT:=hD.kp (.of s9);show Hk (JT P w K a H ns A (Z.G .hh) p sa (λv=>[some (.ref sc),some (.ref A.pl),some (.ref (Z.G .hh)),some (.int (i:Nat)),some (.ref dv),some v,none,none]) (i+1)) ?A8 (λNn _ _ _ hJ=>?B8)
   case B8=>
    show jw u.z.g.house () () (U () {M,Z,i,dv,d,zs,(),u.z,by omega,dK,dT,λhc r us rs M' Z' bz nx aw st fa f ew ey=>aq (hJ _ _ ?_),λha _ bz aa=>{.inl (),?_},λha bz aa=>{.inr (),?_}})
    ·obtain⟨_,fj,fl,_⟩:=nx.nx u.pn eu;have kp:=u.z.g.stp st;obtain⟨ut,bi,_⟩:=u.pl.T;show{M',Z',λk=>if k<=Z.ds.length then Ms k else M',Rs++[rs],r,us,u.fin nx st fa eu,st.hh,?_,?_,fj.trans ep,fl.trans es,{aw.n,λz=>cb u.pl.pl (z▸f),λz=>cb u.pl.L (z▸f),λz=>cb bi (z▸f),?_},ew,?_,()}
     ·rw[ey];show((bt.kp (.of s9)).kp kp).snoc (kp.tq dK) (by rw[S];show dT.kp kp) hc (by rw[S];show nx) (by rw[S];show aw.a)
     ·rw[ey,hQ];show h_ (NA _)
     ·show u.base0 f
     ·rw[Paired.length aw.w];have:=aw.a.len u.z.ok;lia
    all_goals show{ls (),λl1 a6=>aq (hJ _ _ ?_)};show gT a6 λbO c ez=>?_
    ·have y:=u.not ha aa;show{M,Z,Ms,Rs,l1,[],y.same c,(),((bt.kp (.of s9)).kp (.of aa)).kp (.of c),S,ep,es,y.own a6 (y.base0 a6),ez,lh _,()}
    ·have y:=u.not (Dd.clo_adds ha) aa;show{M,Z,Ms,Rs,l1,[],y.same c,(),((bt.kp (.of s9)).kp (.of aa)).kp (.of c),S,ep,es,y.own a6 (y.base0 a6),ez,lh _,()}
   case A8=>
   clear W ev u bt hH dK dT er ch;generalize eh:Z.G .hh=h0;rintro σ bz⟨M,Z,Ms,Rs,r,us,W,rfl,hH,S,ep,es,ow,f,hu,rfl⟩;show U () {_,"list",_,true,(),.lst f,dQ (by decide+kernel),true,(),bW (jM ?_)};show gh λu1 ap=>?_;show U () {.inl {(),_,aR.of f},ls (),λT1 eG=>?_};show gT eG λbO c _=>?_;have ax:=c _ _ f;show rA ax (by rw[ig];omega) (jM ?_);subst ap;have I:=(W.same c).put (vs:=us++[.ref T1]) ax ow;have a2:sG K (aG bO r (.lst (us++[.ref T1]))) (qE p sa) Z.ds Ms Rs:=(hH.kp (.of c)).kp (.lst ax);generalize aG bO r (.lst (us++[.ref T1]))=fm at I a2⊢;clear W hH ow f ax c eG hu;show U () (r2 {(show(0:Int)<3 by decide),(),U () (jk (λ_=>?_) (λ_=>?_))})
   ·show U () (U () (U () (U () {M,Z,i+1,A,sc,ns,i,(),I.z,by omega,I.pl,I.pn,am.seq (λb o e=>(I.bs b o e).1) hS,hl,by omega,a2.refs,λfo X=>{true,(),bW ?_}})));show hN _ _ {M,Z,Ms,Rs,_,_,_,I.same X,eh.symm,a2.kp (.of X),S,ep,es,by rw[eh]}
   ·show hN _ _ {M,Z,Ms,Rs,_,_,_,I,eh.symm,a2,S,ep,es,by rw[eh]}
  case A9=>
  clear W eh bc X s3 s1;rintro σ H7⟨M,Z,Ms,Rs,v3,v4,v5,W,rfl,hH,S,ep,es,rfl⟩;have hc:n.toNat<=63:=by omega
  have da:Z.ds.length<=63:=kl W.z.ds hc;show jw W.z.g.house () () {M,Z,n.toNat,(),W.z,λr8 H8 s8 n8 e8=>aq (jM ?_)};have a3:=s8 _ _ W.pl.pl;rw[ep,es]at a3;show U () (rX (aR.of a3) (ao (k:=0) ()) (U () (rX (aR.of a3) (ao (k:=1) ()) (U () {p,sa,r8,Z.ds,Ms,Rs,(),pr,eb,da,aR.of e8,hH.kp (.of s8),λZ2 H9 s9 J fv dV=>aq (jM ?_)}))));rw[S]at J dV;have e9:=s9 _ _ e8;show U () {.inl {(),_,aR.of e9},r8,U () {(),e9,jM ?_}};have kp:Kp H9 (aG H9 r8 (.lst [])):=.lst e9;have hk:∀b ob,H9 b=some ob->b≠r8->aG H9 r8 (.lst []) b=some ob:=λb ob e n=>by rw[ak n];show e
  have aa:am H7 (aG H9 r8 (.lst [])):=λb o e=>hk b o (s9 _ _ (s8 _ _ e)) (av e n8);have hZ:=W.z.same aa;have J:ck P w K a (aG H9 r8 (.lst [])) M Z2 Z.ds.length:={J with g:=J.g.out (λz=>cb e8 (dV _ z)) kp hk};generalize aG H9 r8 (.lst [])=bz at aa hZ J⊢;clear hk kp e9 s9 a3 e8 n8 s8 dV;show jw J.g.house () () {M,Z2,Z.ds.length,(),J,λrA bO c nA eA=>?_};show jw (c _ _ hZ.g.house) () () {M,Z,n.toNat,(),hZ.same c,λrB fm d4 nB eB=>?_};rw[fv]at eA;show{Z.ds.map B6,1,(show 1<=16 by decide),.l (aR.of (d4 _ _ eA)) (xn hH.refs),.l (aR.of eB) (xn hH.refs),U () (bW ?_)};have ad:=c.trans d4;show jw (ad _ _ J.g.house) () () {M,Z2,Z.ds.length,(),J.same ad,λrC fo X nC eC=>?_};have an:=ad.trans X;show jw (an _ _ hZ.g.house) () () {M,Z,n.toNat,(),hZ.same an,λrD fx d5 nD eD=>?_};show{(M.trs.map cT.nm).map Dt.s,1,(show 1<=16 by decide),.l (aR.of (d5 _ _ eC)) sI,.l (aR.of eD) sI,U () (bW (jM ?_))};have a7:=an.trans d5;have a8:=aa.trans a7;obtain⟨b0,hT,eH⟩:=W.pl.T;have dc:=a8 _ _ hT;have ga:=W.z.ok.tc;have fX:b0.length=M.trs.length:=by rw[Paired.length eH];show b_ ..
  clear c d4 X d5 ad an eA eB eC eD nA nB nC nD;show U () (rX (aR.of (a8 _ _ W.pl.pl)) (ao (k:=3) ()) {A.T,(),{_,aR.of dc},λD hD=>?_});show i5 (K:=K) (a:=A.T) (xs:=b0) (λj ba H'=>am fx H'/\H' D=some (.lst ba)/\ba=(List.replicate j true).map V.bl) {aj (am.refl _) hD,ae,()} (λj ba H' _ h=>aR.of (h.1 _ _ dc)) ?_ ?_
  ·rintro j v ba eN hv⟨b8,d9,rfl⟩;have hj:=(d_.mp hv).1;obtain⟨x,hx,b,rfl,hb⟩:=Paired.at_ eH j v hv;unfold gX at hx;rw[g8]at hx;obtain⟨t,ht,rfl⟩:=Option.map_eq_some_iff.mp hx;obtain⟨i,l,e0,e1⟩:=hZ.ok.home (gV ht);have di:=a8.trans b8;have as:=a7.trans b8;show aq (jv (bG ?_));show jw (as _ _ J.g.house) () () (U () (rX (am.tseq di hb) (ao (k:=0) ()) {M,Z2,Z.ds.length,i,j,l,t,(),J.same as,da,ht,e0,e1,λr us ge b9 f e2 fy=>?_}));have bb:=as.trans b9;show jw (bb _ _ hZ.g.house) () () (U () (rX (am.tseq (di.trans b9) hb) (ao (k:=0) ()) {M,Z,n.toNat,i,j,l,t,(),hZ.same bb,hc,ht,e0,e1,λr' gg gr cc ew e3 fH=>?_}));show{(ke (mW l.ins t.nm)).map dR,1,(show 1<=16 by decide),.l (aR.of (cc _ _ e2)) (fy.kp (.of cc)).dt,.l (aR.of e3) fH.dt,?_};show{cc _ _ (b9 _ _ d9),by rw[b_,Es,ig];omega,lf hj {bM (b8.trans (b9.trans cc)) hD,ae,by rw[List.replicate_succ',hF];rfl}}
  rintro ba eN⟨b8,d9,rfl⟩;show{D,List.replicate b0.length true,(),aR.of d9,?_};rw[show(List.replicate b0.length true).all id=true from by simp];show q eN
end
end My
end
structure PySem.W.Fast:Prop where(tw14693412270004756442 tw14879490388693977126 tw5249742395687012896 tw3484664546816102652 tw15299988463634927541 tw17475965311098461077 tw2391118410679701653 tw9713831159082638507 tw9862401876301560169 tw6685085317227662149 tw6876006154066090497 tw16046116367992928473 tw991552158020226104 tw4370751569061027731 tw14348633874902783839 tw12451143506131582973 tw15893504355348331258 tw10274274499264797018 tw16060529029684622521 tw10662913977479543986 tw7700602500281195964 tw14304762741881645079 tw16614971558992020966 tw7836339609405114794 tw4059389908290448046 tw7603804797891607704 tw1419501957115981703 tw1078286505619850892 tw3440708185565471775 tw2917020210211919458 tw56518610336171749 tw16242321873133451317 tw17063013239296342568 tw5628400100259614074 tw14267353061594501826 tw324244616316462688 tw7180033453099409434 tw4827789217937136823 tw10921114856246826651 tw15733913298175059803 tw2511337337745888507 tw7150778599192351675 tw7667741791274818117 tw1028092288915500754 tw5717294372531104714 tw11846828486952117494 tw3252937037781836717 tw4002351864454142657 tw2586050061998936502 tw15337074810897138432 tw12684214973466121915 tw4668933229159799976 tw15637267706981240126 tw11629971017023343606 tw15800856314113929300 tw11605094128271804348 tw1499177682460794267 tw6247900407773418680 tw5108298263301414525 tw12766869524544267118 tw14225237757214887375 tw3236132711744520568 tw3042471678325769527 tw12835377041136897993 tw8711657493570118390 tw11021711572754336714 tw4568533053361037817 tw16135205506821439748 tw10212424242891400595 tw14344574739401994769 tw11644893553327637075 tw13229606413145051455 tw15308170273366533423 tw3245278235855050712 tw10435505431276634168 tw2297890925512090741 tw317037777152713030 tw1966780938873384994 tw18333999035005607402 tw10073165558600751698 tw12114709787585492587 tw18432977271237038769 tw17630735993280044318 tw16857641128064726939 tw11435478636983579062 tw12081658912160969150 tw11970528277060675259 tw13533616799143698436 tw7398706767896038947 tw6220602730907237772 tw2600859829055404555 tw4806961748273086740 tw1838105540842052781 tw1892101666986324070 tw8647908949262970850 tw13885513241845567458 tw520867042609793644 tw11774349747672000957 tw15793918642979975822 tw6387343089539618022 tw3887978935511425298 tw4077380690999298576 tw9922609750445931540 tw8466922686217677668 tw10604253274663802951 tw1008497674538782912 tw2524414646155139634 tw15113660055143744744 tw2780954438415450682 tw1053179463999761921 tw11098291927420069589 tw17339538633560340413 tw15688778260522074998 tw8379569424250564795 tw12759571676613322699 tw5420751169300555411 tw17716177842590905265 tw2411966513560783639 tw9109621577614298438 tw6877411523134074103 tw12945875896044646168 tw4396122538515512794 tw9374157017150876058 tw15660511492106937678 tw13204977366642358823 tw8747669247286397126 tw1080514138827597290 tw10563570936782856444 tw2450799169852319918 tw3232096275540293543 tw12357091709264074072 tw13245548975906963952 tw6738890438214437741 tw17124903009043218645 tw13550440124307254589 tw16833612705818844682 tw14279210041855441456 tw4636752757013248542 tw17026921214949691973 tw2550644808374814727 tw5437403833159734823 tw3780179175606374229 tw7821680410676228049 tw8973250442321577223 tw12667531756410420425 tw16194017950636365021 tw17947830914834975599 tw3120301791165336717 tw1720068164786191219 tw15000131075501595106 tw15549393998319311336 tw3140185280058121240 tw18150652148231559420 tw16020817797729726829 tw12002808244221525241 tw13109203913709929625 tw8409127221160849458 tw15771041625794755695 tw16675469472026170791 tw10104506402491754882 tw15263903301060143128 tw17171419984031933178 tw1782584338766308402 tw14270900797131477074 tw9630283005026115574 tw7907350892847270659 tw11342969306610517861 tw7049467840190298026 tw9438260298172543693 tw17483881643113606464 tw7011361840538097966 tw2183390221407412091 tw12244796358541360227 tw14641794306362516946 tw13837184106557961149 tw15645611445860707815 tw12468705555975290431 tw8129428347418288071 tw4036463033702371581 tw5574866627608749740 tw16072961262947633638 tw14476676677207936090 tw16729124068424754161 tw7942752416853256530 tw6775522823373500719 tw10572886959520389580 tw13163954994699082242 tw5517313116351466576 tw573231100592978492 tw865172068731242562 tw10213543770160845714 tw7444442147815162674 tw13719339363964803299 tw7380133666361982029 tw14496290538736617875 tw6755483646393755856 tw10024783025576476356 tw1056287821854125973 tw15620595719042991365 tw3104890636759990020 tw12121985392643472563 tw12053961408159677211 tw9319967077658106555 tw5789024840722687509 tw10260889858525156657 tw16182183335457381030 tw9922156381435768059 tw4652668971036063874 tw7967085000795559349 tw2012440646090406293 tw17957045627838068827 tw9794081087457191146 tw3098071461923146314 tw1053526281375507896 tw3255479790625972873 tw5482985211682818848 tw4603658260863475225 tw2957091999006469734 tw17806287092302086821 tw17955503349835396178 tw17825291763008662187 tw13035443307072746465 tw3799021745317235206 tw17358091049872236194 tw16073633451992056981 tw11188257713894195961 tw14687855550954517133 tw7830864306810352435 tw11754409213300001168 tw4352171439946191500 tw4084164375594168610 tw2958831350135718941 tw4174416162022169509 tw14386166743604281365 tw13835561147962050134 tw12547136141843474129 tw17120038431668864665 tw3076593251306217259 tw15376131178213208397 tw4852029396462568818 tw13831719169816288470 tw17407418890675590018 tw4612178993514080850 tw17076564772523837498 tw4296416654754670956 tw4904129943005520955 tw10335558999161225762 tw6465888632849155116 tw2400993127323664356 tw9630929676583674237 tw5924191366270461479 tw8310897838776471476 tw11923117740126378471 tw10843908700998003131 tw4611670284812342731 tw8931933503296699046 tw1609551914602867399 tw13036923135148593804 tw17765367437477773745 tw7231369687293311373 tw4559988074427279349 tw1615911305855046000 tw12267190278727719988 tw3559479413493266695 tw13995111618456935960 tw3203404698297820907 tw1132754281928304527 tw13286527847761150242 tw8313438207239583196 tw13957599552177081380 tw10145364421578428734 tw6213897846737867959 tw11209696339783607592 tw9291102070842528457 tw5204642341777929018 tw9379870762379464102 tw3801747838817488952 tw5368957648720194160 tw13451337043383326947 tw174071126846325405 tw7593391208372600772 tw7465850657711994929 tw5039975597419657222 tw10828113948565261022 tw824032556963380730 tw16040322868034943976 tw8867003530174040205 tw14086604280996216559 tw12284888528713582807 tw16667356534335037243 tw900260040607671198 tw14860539244881762907 tw3313859098929374599 tw14107375461372536471 tw3438571101667318395 tw9027778034410074628 tw6237715524186168218 tw4696105508030411718 tw2346173359320114138 tw2467757082069001851 tw3611924212681592523 tw3366512275783398323 tw4697768683809972084 tw11951401693610672633 tw2404683994076750617 tw18374089229619678058 tw7351101047907057570 tw3407064207163803736 tw14662921260977587636 tw13860285120645262956 tw4276629210667830375 tw14195860628217025061 tw4301767571523910411 tw12273880194821389126 tw2235499957067521981 tw15331736967401741437 tw7659329595335277723 tw16947706491201406016 tw11391040732324298438 tw16942756169332791407 tw3740792160649262007 tw8459890803923877085 tw5200891386446046106 tw12673981330557989610 tw1253768953877083382 tw14213455689238304107 tw2255142327563532891 tw10818320787656030379 tw3388474152471013287 tw2685916833753281851 tw16420639073768602690 tw16127070455054385547 tw8177827563223584219 tw16671177274064643601 tw2532702553343916091 tw2577770842513950796 tw17596565480540006339 tw5546608829414422773 tw15494491851494070997 tw5648338193882442756 tw10816810083097402195 tw17236848536919913383 tw3323921080948902307 tw18217652584598300615 tw8966437765579434389 tw8349462388362739285 tw4957054955732581853 tw15260900558505551486 tw8514139128081737890 tw3559562876176638720 tw15127045078544079807 tw16687951907396510725 tw15108156386023748115 tw1952496775901682360 tw17552069826487415837 tw10563333415382426746 tw15270803699717490944 tw16120154333774028409 tw8916712026997463998 tw17106595083641422869 tw14237363449154964197 tw10622837826590387572 tw3177653376915382502 tw10265111551042990587 tw482935357804468884 tw4171318058970638193 tw131327314057587146 tw4719847783464549995 tw10133251283271493938 tw16651973286473360728 tw5027199598271208824 tw17755017680706279585 tw18434641383385198821 tw16732224288996643393 tw8570903025639723552 tw8814421724954977234 tw6476914554458712242 tw9003264929315948852 tw1790638464681034427 tw10712406012646931677 tw11316148957375263499 tw12763022226883360852 tw18332508356544832309 tw3561943807849685248 tw6823834709046692241 tw7358233219178709177 tw15947709020611524131 tw4311759764422390239 tw11685256722072669460 tw17379031629219185718 tw9869785854739276275 tw8796337546326615357 tw11632700870934413578 tw2159412182339138078 tw2502773817667040497 tw9557302632619696903 tw17724289382876415134 tw17449329978065230289 tw7557190097233843237 tw823325739511945040 tw14340559789286373950 tw11465269751738757406 tw11417124969992727158 tw8668588640720282665 tw12257657757945211309 tw1169982067293178033 tw15886980631968459895 tw1562674134958887609 tw3801055211155362821 tw18122937911292679082 tw5105722012902791758 tw13485537258184011099 tw12074802792707682149 tw6638804404558119046 tw5646137601102109061 tw14248513101162558256 tw17481152559665933968 tw12510900143757143816 tw10337930555904122960 tw6351374632924787881 tw16822440237467023528 tw1363909145833291728 tw17016876141037820988 tw13031226299826615983 tw8569060569637778340 tw2643083238687612888 tw7642658764098107929 tw756157347218027857 tw16516640357792557449 tw15549444963562338392 tw8388684049274801836 tw4547065836247323915 tw2222764511127905001 tw14227650723344435721 tw18351036958139911676 tw8492031245675618460 tw6588320884607072206 tw14328138461985326399 tw4734145104012931764 tw17807379559521280408 tw9499990082669046438 tw1437086726884861571 tw9710512063935380737 tw11956541580473743453 tw11772486313359189406 tw6790711210453356820 tw9128086872517435134 tw13973442910912354237 tw4391710969718547089 tw15429223323977522141 tw14084742985106736931 tw9290129601028937184 tw17074203324803542971 tw13589181584271964912 tw9320859636002734897 tw13203778957281313820 tw13850180632878050113 tw8085314611082658262 tw5641289836006919935 tw13151876542157452788 tw4959702295870724569 tw4787479462752066532 tw1517598784592345606 tw16737452687585328952 tw15523467948054655575 tw2670335917012477174 tw12503678506148209589 tw91329162291544371 tw1404958529750629347 tw7197550894051011020 tw9799001490537250056 tw14625075584197789397 tw6693025411630044677 tw12172545636601706245 tw13695811306800322702 tw3111519965808192406 tw18433813161652249615 tw2654671502759381020 tw5286948648977667454 tw18056411742148992715 tw8454343246467790317 tw13863603883022610124 tw6251519428940393007 tw15747056764477999231 tw10984969227799142744 tw9141484829928607989 tw4085364682928207053 tw14290501997777114543 tw3062521835270333764 tw15006087040554531586 tw16137073562690720916 tw7623215496179505804 tw12909270494773327112 tw15245697038300615394 tw14227910182587767626 tw13272596214805052362 tw11971760750875092744 tw1988242980265405004 tw17681587397700872004 tw1902684678490656935 tw17046118888779013977 tw5221706811769594536 tw14030070688692751400 tw4683248647851701006 tw4830931902029720357 tw5234213914936465714 tw12950605001678396852 tw3963996597005513594 tw4035541020861280198 tw5513957920508845395 tw13306614546861778651 tw11281489593737463430 tw1655951712879799655 tw12961742902214356651 tw5015410754903003687 tw479587617128029060 tw5788286965833093035 tw11768520319477490210 tw4877956018917513667 tw14040126195898082982 tw6849190551556288143 tw10985653465789835353 tw10377350281801944145 tw10539917082032030092 tw16743822970174827037 tw2718455211633103961 tw1824908777900742668 tw11443360320537954910 tw4694205729243136052 tw7009247207333029069 tw14507606651200943079 tw9097853042268582035 tw3744862182024727097 tw12477953364476766390 tw4578435203280493716 tw14261174501643579660 tw11762097191606878137 tw17623701574416679602 tw15975686195709116748 tw10737808758880960041 tw5465431048131151203 tw10473869585679685362 tw2806748798117834594 tw12154860157785078878 tw15396313325782921149 tw6091233853839336178 tw2395111451289798313 tw10549904944961983845 tw18118661518123692004 tw14633965193436279205 tw5855958005608062150 tw12670021501194597254 tw12791750972828085694 tw5579627318791829701 tw15626948021623010419 tw4322278771837416280 tw3078023389016922452 tw16131293511917762136 tw3024976169586962084 tw13215327107664973460 tw1899083909547379697 tw15559193276100597224 tw2086190962820384429 tw7658030367545866411 tw3831323370433676451 tw6343831664507826156 tw14290884247448885172 tw15907162501836733255 tw18426617067054141505 tw1242541097652705028 tw16755703613168858073 tw4194371059672027674 tw7149570965368704797 tw5803656612990945396 tw12670463891181252645 tw10248386231165970688 tw10629365546046496711 tw17726168344184369273 tw12978608762766637653 tw6136864796781665005 tw12377386003432763990 tw4921316754760049744 tw6375958516094891662 tw1279327595021086071 tw6361100896369732749 tw10165318586758373163 tw12073746046932416315 tw8887741134897010703 tw17623367701884921974 tw8489897919765191085 tw11859143602058953861 tw865193322751273602 tw14666409118928672688 tw1257441003276270490 tw17157161897852724763 tw15863424676732752387 tw10064829839974071310 tw7108884800477691101 tw6519800630891973707 tw9264874735640245708 tw3545234818996125783 tw15840078373094399844 tw10823525422723196839 tw6128037406374419249 tw13586729645741748736 tw12385880351315509647 tw10566493595263463719 tw10186836205693774535 tw7520983180570912494 tw4218840964999978573 tw7175644804469245626 tw12442221288761634640 tw5026081325211484557 tw14688452940247048890 tw17719627494334722026 tw13418729907556300147 tw11236473982419912342 tw15073311106659536676 tw12979642314891777576 tw8775252800537997082 tw1283789995388474948 tw14222171522035598733 tw6559652002469736350 tw12949388584831961478 tw2188474801961662973 tw12707072792853608620 tw5400968071522327188 tw14717626286216747519 tw7439575220370659628 tw2696936289635029532 tw6067615763030100885 tw8408121848243688957 tw14517735959384387935 tw14243191881121254293 tw15880784992781357474 tw5868580835563523327 tw3846799542254067014 tw7264668224843016320 tw12661645407808317990 tw15613182285386857308 tw14196713145779479611 tw17011285560104711978 tw10846075437214558117 tw14931347498197593186 tw11783687854017462475 tw1181518669935778220 tw10575517436292435299 tw17987422253805269862 tw3262649712056380673 tw6149139748446280251 tw12991314767561498535 tw14862586190919445026 tw16540847807546833000 tw8278694396208682812 tw3145596868589082650 tw15590351060493165574 tw17732043331498976149 tw17880408292753036239 tw5950747856642509977 tw9132564951299295909 tw14885559209413682756 tw3975334138606752594 tw14476692809820420671 tw16751367136206588147 tw12679112210249340420 tw17704433061527927581 tw10669272541700251164 tw6211428764576250134 tw3866052099657236097 tw11524913569736632833 tw1388657195611185933 tw8752228123312276379 tw17022670537975631821 tw2282362673568594931 tw2289351193258420650 tw7661975154783144915 tw12740880213912516842 tw9534549951993011862 tw37748302875185476 tw8159118856796041964 tw17181242119234823480 tw15652485201193664416 tw17275840672921270649 tw2770149022727005879 tw17658744738386670984 tw9980604936326587713 tw11844175177331977722 tw3547702613884719774 tw13617237673611223891 tw301399780834335943 tw3385198082309052141 tw9366038267409509135 tw12372774202385925777 tw2331312692218598038 tw9978519756649205891 tw13990743492717562744 tw5414702970082181782 tw7283153936131137563 tw16316579538655107824 tw10444701254448122790 tw10716849230204276863 tw6756485027250178446 tw18406274725002645255 tw7473017766480782147 tw16631681495217271955 tw6699517305446949426 tw838277698991160774 tw18363937557126302626 tw3422271301782986765 tw9018662071739938995 tw1013013825409987396 tw3301551067565044123 tw4682627184549564769 tw2630616955262371432 tw12378515277397997968 tw16275499361798287709 tw1718181594035267005 tw5948498410449107006 tw13458071950016405785 tw18106754855214612403 tw11785075456295344995 tw12854169007284405846 tw4572895038214437353 tw14890608251085289696 tw11314346660153303212 tw10707881683864400323 tw7938174344724110926 tw17852520693390843842 tw5665600261759314081 tw931450269037930132 tw1166484988013908933 tw6174762796952624889 tw10655732277568148173 tw13559583749318760892 tw5377857224150303836 tw497437526455416253 tw2650310596242237699 tw4621971183135857251 tw13558184769491903439 tw1351638954439524482 tw11001902424971075419 tw10227084174980561483 tw6377089130716064049 tw10734761175971643640 tw8078777704097669051 tw2262518288323617807 tw5104715860645073124 tw2409924456726983710 tw1507329279086138687 tw7634163819482487688 tw8213649033126009838 tw11420255577694562969 tw14661131765034472551 tw13827643672240301523 tw3720401447984540511 tw10828814709633366430 tw12871366130783354601 tw17351752013276871047 tw4674946228632057449 tw561817992915500140 tw12009365488045754195 tw15295033497623157070 tw3878931041223343075 tw13673196070768903432 tw13360986673919210217 tw10353507533272333860 tw10876012197427903679 tw6929188312834259925 tw4909644006299097147 tw115717303268057884 tw3830828030162457755 tw1157684363867666788 tw6252367887844328526 tw13750327522223950000 tw8558950442089923468 tw3715965311056387050 tw7210233061286633478 tw7736043010445351873 tw4290997925689138427 tw2876889139675700857 tw2820850994833021883 tw2918622086882497600 tw5471098984016111204 tw16825863974372993574 tw6106651318846339612 tw9585294599455968077 tw13435187513834412857 tw12711334571777245138 tw6284546226368806064 tw15857483390258112406 tw12744619592741614616 tw17270790128676044490 tw14620625152640598339 tw16069861010947468348 tw13534019794708891839 tw7412650743795549823 tw61679853939180930 tw3064812413739006544 tw5373655882197561320 tw17042937738441521298 tw1201495464941870437 tw6897427665950714181 tw15076711884370618225 tw17455473562293288649 tw3498068268198775733 tw10870319191075085136 tw15908982325059705510 tw17423143819489016736 tw18446084426670350927 tw6480089420798628023 tw15836860826657715923 tw17861531517391502590 tw17015326514703653286 tw9137209243665716155 tw10605307346675467889 tw18263821971617841606 tw7113187476450925149 tw6303457753795046457 tw2773680853482558689 tw3215826449584355053 tw13189986443711042102 tw7338800587250496180 tw5739379649956420426 tw6761649722149277784 tw9292851349750886152 tw11720439307638318064 tw146135697709757747 tw13416397942568193679 tw1208477331108232200 tw2768764238498924594 tw9881950613490079635 tw10392076771508651192 tw5436652183813905291 tw13438809742632458192 tw13355203551644444235 tw4747491654115180040 tw3659756455325505828 tw14607681113516224143 tw8091425707865726002 tw522392429249476135 tw15989198008606137378 tw17979371143120494137 tw811671701749290193 tw417867182846039590 tw1490972427408114574 tw17147761855776676538 tw2583727934496401446 tw7447652295783161292 tw7438089873105750824 tw15744539514646594890 tw6399927352028303714 tw7522895519974400120 tw6100059659486533514 tw2423171622775791388 tw8717887244087628114 tw8421255944415149486 tw6443098404915186787 tw6688420264894655481 tw6911618516695295676 tw2343334841457520886 tw7751268289195879344 tw13878878502643583432 tw17311512952112868680 tw5684897733228457202 tw17487335893528741323 tw5871450453830599867 tw2604276982848121545 tw3172820359272703967 tw14004559024713053101 tw7725864246601742065 tw18366348170542674351 tw779360825295522712 tw4434224941506766006 tw5585933841227809140 tw9771429824105120818 tw2367063605408409078 tw5301788045155385453 tw6031282913680732489 tw3898523189411739056 tw14615087545487568581 tw7140570975725212164 tw2668563542689982344 tw18030537249732920370 tw10336411047957618046 tw653630568503158913 tw14606616569435655087 tw15817330327149177465 tw8081124408015521690 tw7494161428052715041 tw13157723422011829047 tw10850005360248119446 tw14684666986257494785 tw3596649817368973658 tw4909206719363681413 tw7199075642923541919 tw16789844730710684233 tw11507974776418850705 tw938258936726447841 tw11982900210452055593 tw13704887386227831194 tw14528423348390733818 tw1454583076437051418 tw5323919559874629370 tw9885082608429587171 tw1285594328330923645 tw10387855417870123085 tw10596490733678355067 tw520371460713025516 tw8165275720989395599 tw13193505961698502735 tw16020951165126262413 tw5307815249931903195 tw11005507334563299606 tw3258789074989039735 tw14600089715919726882 tw2827368912898150847 tw14001317092870516989 tw7775183849586749891 tw8150916396716968280 tw1526714645785875288 tw1817223230314833589 tw7202761980739563197 tw14331844157977071846 tw106124322810541557 tw10586704815671508466 tw7993735866703200876 tw12499239703943990248 tw6838578669171569658 tw14810001167891354125 tw12557003065593494177 tw18303247804799240688 tw12411348116436536219 tw937684855086419385 tw11298817025507560957 tw12013224046828006449 tw3942274156319023087 tw3401970717580574726 tw14452356537069157567 tw3107017956607443344 tw17003313320962436797 tw13779752841567825173 tw5466379246258427218 tw8506782130517053754 tw3577895722106062372 tw8341965571936417422 tw7937568820808787677 tw2821742434466615266 tw4881238685720652636 tw3692205888013822090 tw9711868204681738214 tw14230242803384004633 tw17833584819781682473 tw15957351116394520787 tw1432231529102893586 tw12199610386753621701 tw148078950115004362 tw8431176242894582426 tw4196073279789508983 tw5413504892867589139 tw2942767931813490672 tw17008747275469561582 tw15522565085711522104 tw4804690105454518674 tw8456812817232970130 tw8553824543530705892 tw11784334630136716948 tw11127116002262185393 tw5634285269864213831 tw4448909512185978833 tw4833394092281673296 tw16642958385433682339 tw4626028680545146945 tw8273392977909779399 tw12460075360194022351 tw14165830976581860901 tw13163771920993981470 tw9891010995993722452 tw14799975788423962513 tw8870952227429927791 tw10365711869512501180 tw16873424346468940285 tw7061692292290254958 tw5063812804892316748 tw1096621129123657876 tw11058199497251189456:True)
open PySem PySem.W PyProof.Rows
set_option maxRecDepth 100000 in
set_option maxHeartbeats 0 in
theorem PySem.Challenge.cw_layersplit_k27_told_lists_are_own_holds : PySem.Challenge.rw_layersplit_k27_told_lists_are_own.Holds := by
 w_on;o_law;k_head;(case hw=>w_witness2)
 k_fill
 refine L2.C0 (l:=PySem.Challenge.rw_layersplit_k27_told_lists_are_own) (n:=63) (k:=17) (x:="_law_script") (CX:=L2.cV) (sp:=My.Dq) rfl (by decide) rfl ⟨rfl,by decide,by decide⟩ (λw h Y=>PySem.W.kIn_of Y) ?F ?S ?C
 case F=>
  intro w mg fa h KX G hmg;have T:∃a:My.gz,My.Txt (L2.KOf KX) mg a/\w.params=a.pm:=by
   dsimp only[L2.KOf]
   refine'⟨My.gz.mk ..,?T,rfl⟩
   case T=>
   constructor
   all_goals try dsimp only
   iterate 19(exact L2.LZ KX G (by k_is))
   iterate 42(exact L2.HZ KX G (by k_is) (L2.Ax (by k_is) (by k_is) (by k_is)) (by first|exact L2.b1|exact L2.b2|exact L2.b3|exact L2.b4|exact L2.b5))
   iterate 34(exact L2.LE (by k_is) (by k_is) (L2.Ax (by k_is) (by k_is) (by k_is)) (by first|exact L2.b1|exact L2.b2|exact L2.b3|exact L2.b4|exact L2.b5))
   iterate 17(exact L2.HZ KX G (by k_is) (L2.Ax (by k_is) (by k_is) (by k_is)) (by first|exact L2.b1|exact L2.b2|exact L2.b3|exact L2.b4|exact L2.b5))
   iterate 2(exact L2.Lh KX G (by k_is))
   iterate 12(exact L2.LP KX G (by k_is))
   iterate 2(exact⟨by k_is,by k_is,by k_is,by k_is⟩)
   iterate 3(exact L2.Bf (by k_is))
   iterate 2(exact⟨by k_is,by k_is,by k_is,by k_is⟩)
   iterate 3(exact L2.Bf (by k_is))
   iterate 2(exact⟨by k_is,by k_is,by k_is,by k_is⟩)
   iterate 7(exact L2.Bf (by k_is))
   iterate 2(exact⟨by k_is,by k_is,by k_is,by k_is⟩)
   iterate 6(exact L2.Bf (by k_is))
   iterate 13(exact L2.L1 (by k_exc))
   exact⟨by decide,_,_,by k_is,by k_keys⟩
   iterate 10(exact⟨_,by k_is⟩)
   exact L2.LN (by k_is) (by(repeat(first|exact .nil|refine .cons ⟨_,rfl⟩ ?_))) rfl
   iterate 19(exact L2.KM KX G (by k_is))
  obtain⟨a,T,hw⟩:=T;have e0:=hmg.symm.trans T.law.m;cases e0;exact⟨a.law.d,My.Cr T,λbase kb nb=>My.Jv T hw⟩
 case S=>exactλK H a ns hl hO hS=>My.Cq hl hS
 case C=>exactλ_ _ _ _ z=>z
#print axioms PySem.Challenge.cw_layersplit_k27_told_lists_are_own_holds
