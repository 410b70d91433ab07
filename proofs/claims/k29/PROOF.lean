import PyProof.Rows.All
import Wide.All
import OpenK.AllK
import Wide.FinOn
import Lean
import PyProof.EqAt
import PyProof.EqKinds
import PyProof.TupleCall
import PyProof.WalksMore
import PyProof.SetScanFacts
import PyProof.Logic
import PyProof.FactsBase
import PyProof.TableTree
import PyProof.FactsTree
import PyProof.PlainAttrs
import PyProof.DictWalks
import PyProof.SetKind
import PyProof.ForAny
import PyProof.FactsAll.set_1
import PyProof.CollectWalk
import PyProof.WalkLemmas
import PyProof.FactsAll.set_2
import PyProof.Walk
import PyProof.Rows.SortStr
import KE.KRevIter
import KE.KDictList
import KE.KDictLaws
import PyProof.FString
import OpenK.KTop
import PyProof.StrLawsTight
import PyProof.Rows.StrLawsPart
import KE.KIntText
import PyProof.Rows.StrSplitJoin
import PyProof.ZipIter
import KE.IntTextLaws
import KE.KDictOf
import PyProof.AttrMissHeap
import PyProof.EnumMake
import PyProof.EnumFor
import PyProof.Draws
import PyProof.DictItems
import KE.KPairComp
import KE.KSortTup
import PyProof.Rows.SortWalk
import PySem.Challenge.RW_layersplit_k29_a_head_of_a_book
set_option Elab.async false
set_option linter.all false
set_option maxRecDepth 100000
set_option compiler.extract_closed false
def a_:=@PySem.wpAny_bind
def b_:=@List.length_map
def c_:=@PySem.Heap.get?_push_of_some
def d_:=@List.getElem?_eq_some_iff
def e_:=@Nat.le_refl
def fx:=@PySem.wpAny_pure
def f_:=@List.mem_of_getElem?
def ga:=@List.getElem?_eq_getElem
def ge:=@List.getElem?_map
def gg:=@PySem.Heap.get?_push_size
def gV:=@List.map_append
def g6:=@if_pos
def g8:=@PySem.sizeLine_eq
def g_:=@if_neg
def hF:=@List.take_of_length_le
def hQ:=@List.length_append
def hY:=@PySem.Heap.lt_size
def h_:=@List.size_toArray
def ig:=@List.mem_iff_getElem?
def il:=@List.mem_cons_of_mem
def iq:=@Bool.false_ne_true
def ir:=@Nat.ne_of_lt
def iA:=@Nat.le_trans
def i_:=@List.mem_cons_self
def ji:=@List.mem_map
def j1:=@Option.some.inj
def j2:=@decide_eq_true
def j_:=@decide_eq_false
def ku:=@Nat.zero_le
def kw:=@Array.length_toList
def k4:=@List.length_take
def k_:=@Bool.and_eq_true
def lh:=@List.getD_eq_getElem?_getD
def lm:=@List.map_cons
def l_:=@of_decide_eq_true
def md:=@List.length_cons
def me:=@Nat.lt_of_lt_of_le
def mo:=@PySem.PassesOwn.never
def mu:=@List.mem_append_right
def m3:=@List.nodup_append
def m_:=@List.length_range
def nn:=@Ne.symm
def np:=@List.mem_append_left
def nB:=@List.append_nil
def n_:=@Nat.ne_of_gt
def oa:=@PySem.wpAny_holding
def oi:=@List.getElem?_eq_none
def ol:=@PySem.wpAny_call_entry
def op:=@List.not_mem_nil
def ot:=@Int.toNat_natCast
def ov:=@PySem.Heap.size_push
def oD:=@PySem.wpAny_newObj_type
def o0:=@List.find?_cons_of_neg
def o8:=@PySem.wpAny_callSpecial?_slot
def o_:=@Nat.lt_irrefl
def pa:=@congrArg
def pu:=@Sum.inr.inj
def pv:=@List.getElem?_set_ne
def pw:=@PySem.wpAny_setField_rec
def p5:=@List.find?_cons_of_pos
def p_:=@Nat.le_succ
def qq:=@PySem.wpAny_truthy_bool
def qr:=@List.map_map
def qx:=@PySem.Calls.spliced_cons
def q_:=@List.mem_cons
def rd:=@List.find?_cons
def rf:=@beq_self_eq_true
def ri:=@PySem.Calls.callWith_builtin
def rk:=@List.getElem?_append_left
def rl:=@List.replicate_succ
def rm:=@List.filterMap_cons
def ro:=@List.take_append_drop
def rr:=@List.filterMap_append
def ry:=@PySem.Heap.get?_update_self
def rV:=@Array.getElem?_toList
def r_:=@PySem.wpAny_ite_split
def sg:=@PySem.wpAny_field
def si:=@Nat.lt_succ_self
def so:=@Nat.lt_succ_of_lt
def sD:=@Nat.le_succ_of_le
def sT:=@Nat.le_of_lt
def s_:=@List.mem_range
def th:=@PySem.Heap.get?_update_other
def to:=@Array.getElem?_eq_getElem
def tx:=@List.length_filter_le
def tA:=@PySem.wpAny_Call_Name_kw
def t0:=@Option.isSome_iff_exists
def t2:=@PySem.wpAny_seqItems
def t4:=@List.take_zero
def t6:=@PySem.Calls.evalArgs_plain
def t_:=@List.take_add_one
def u_:=@List.getElem?_inj
def vl:=@List.ext_getElem?
def vr:=@List.append_assoc
def vu:=@PySem.Calls.spliced_nil
def v_:=@PySem.wpAny_rule
def wh:=@List.mem_filter
def wr:=@List.length_set
def w1:=@List.foldl_cons
def w_:=@List.map_congr_left
def x3:=@PyProof.Rows.callWith_type1
def x_:=@List.getElem?_set_self
def yl:=@List.any_cons
def y2:=@Nat.succ_le_succ
def y_:=@List.getElem?_append_right
def z3:=@Bool.false_eq_true
def z4:=@PySem.wpAny_dictEpoch
def z7:=@PySem.codeAny_mono
def z8:=@Nat.lt_trans
def z_:=@List.foldl_append
def A_:=@beq_eq_false_iff_ne
def B_:=@List.length_take_le
def C1:=@PySem.Heap.SameBut.update
def C2:=@List.all_eq_true
def C_:=@PySem.tupleKind_room_in1
def D_:=@PySem.call_meetsIn
def Es:=@Nat.lt_of_le_of_lt
def E1:=@PySem.wpAny_setState_of
def E2:=@List.flatten_cons
def E_:=@or_false
def F_:=@Nat.pow_le_pow_right
def G_:=@List.nodup_iff_pairwise_ne
def Ha:=@PySem.F.slot_tuple_iterator_next
def H_:=@PySem.Around.under_plainId
def I_:=@PySem.wpAny_eqBool_str
def J_:=@PySem.wpAny_askSetting
def K_:=@List.getElem?_eq_none_iff
def L_:=@PySem.codeAny_builtin
def M_:=@Option.map_some
def Nj:=@Int.emod_nonneg
def Nk:=@PySem.wpAny_pyIter_tuple
def Nl:=@List.map_singleton
def Nm:=@Int.emod_lt_of_pos
def Nn:=@PySem.wpAny_getItem_str_slice
def No:=@PySem.wpAny_Call_method
def Np:=@PySem.builtinLookup_eq_fast
def Nq:=@List.length_replicate
def Nr:=@Nat.min_le_right
def Nt:=@List.mem_reverse
def Nu:=@List.length_drop
def Nv:=@PySem.plainId_quiet
def Nw:=@PyProof.Rows.listUpdate_at
def Nx:=@List.all_cons
def Ny:=@if_false
def Nz:=@Prod.mk.inj
def NA:=@Nat.not_succ_le_self
def NB:=@List.take_append_of_le_length
def NC:=@List.mem_of_mem_take
def ND:=@PySem.Heap.get?_push_cases
def NE:=@PySem.wpAny_passesOwn
def NF:=@PySem.wpAny_execs_nil
def NG:=@List.range_succ
def NH:=@List.of_mem_zip
def NI:=@PySem.wpAny_setEntries_of
def NJ:=@Nat.mul_le_mul_left
def NK:=@List.length_reverse
def NL:=@PySem.Heap.get?_update_ne
def NM:=@List.map_nil
def NN:=@of_decide_eq_false
def NO:=@List.nodup_nil
def NP:=@List.mem_filterMap
def NQ:=@List.filter_append
def NR:=@Int.fdiv_eq_ediv_of_nonneg
def NS:=@List.mem_or_eq_of_mem_set
def NT:=@PySem.Calls.call_function_entry
def NU:=@PySem.wpAny_pyIter_list
def NV:=@PyProof.Rows.seqEpoch_at
def NW:=@bne_self_eq_false
def NX:=@Option.some.injEq
def NY:=@Option.isSome_map
def NZ:=@List.take_sublist
def N1:=@List.getElem?_set
def N2:=@PySem.Heap.get?_push_ne
def N3:=@PySem.wpAny_newList
def N4:=@PySem.wpAny_attempt
def N5:=@List.length_filterMap_le
def N6:=@List.getElem?_take_of_lt
def N7:=@List.filterMap_cons_none
def N8:=@PySem.AutoSeq1.wpAny_loadPart'
def N9:=@PySem.wpAny_isInstance
def N_:=@Nat.le_max_right
def Oa:=@List.lookup_cons
def Ob:=@List.head_eq_of_cons_eq
def Oc:=@List.getElem_mem
def Od:=@List.filter_cons_of_pos
def Oe:=@List.filter_cons_of_neg
def Of:=@List.filter_cons
def Og:=@List.append_inj'
def Oh:=@List.any_eq_true
def Oi:=@PyProof.Rows.F.plain_set_update_loop
def Oj:=@Nat.succ_pos
def Ol:=@Nat.pow_succ
def Om:=@Nat.lt_or_ge
def On:=@Nat.le_of_eq
def Oo:=@PySem.wpAny_specialOf
def Op:=@PySem.typeLookup_type
def Oq:=@PySem.post_val_or_str
def Os:=@Nat.not_lt_zero
def Ot:=@Nat.le_max_left
def Ou:=@List.forIn_cons
def Ov:=@PySem.F.slot_zip_next
def Ow:=@Bool.eq_iff_iff
def Ox:=@List.getElem?_toArray
def Oy:=@PySem.isSubtype_type
def Oz:=@Option.or_none
def OA:=@List.Perm.refl
def OB:=@List.getElem?_range
def OC:=@Int.toNat_of_nonneg
def OD:=@List.map_take
def OE:=@List.getElem?_drop
def OF:=@List.find?_eq_none
def OG:=@PySem.wpAny_typeOf
def OH:=@PySem.wpAny_pyIter_slot
def OI:=@if_true
def OJ:=@List.find?_append
def OK:=@List.any_eq_false
def OL:=@List.Sublist.refl
def OM:=@Int.emod_eq_of_lt
def ON:=@Array.toList_push
def OO:=@PyProof.Rows.slot_tuple_getitem
def OP:=@PySem.wpAny_forIn_list
def OQ:=@PySem.wpAny_execs_cons
def OR:=@Nat.le_of_not_lt
def OS:=@List.getElem_map
def OT:=@Array.toList_map
def OU:=@List.map_id
def OV:=@Int.le_refl
def OW:=@PySem.wpAny_updateSeq
def OX:=@PyProof.Rows.entry_list_sort
def OY:=@List.nodup_cons
def OZ:=@List.length_nil
def O0:=@List.Perm.of_eq
def O1:=@PySem.F.args_tuple_iterator_next_1
abbrev O2:=PySem.W.Frag
abbrev O3:=PySem.Value->PySem.Shared->Prop
abbrev O4:=List (PySem.Addr×PySem.Obj)
abbrev O5:=PySem.Str->Option PySem.Value
abbrev O6:=List PySem.Value
abbrev O7:=PySem.Program
abbrev O8:=List PySem.Str
abbrev O9:=List PySem.Expr
abbrev O_:=Array PySem.Value
abbrev Pa:=List Nat
abbrev Pb:=List PySem.Addr
abbrev Pc:=List Int
set_option genSizeOf false in
inductive My.Ro|hh|ln|tn|ci|dl|lo(i:Nat)|iu(i:Nat)|tb(i:Nat)|od(i:Nat)|td(i:Nat)|tr(i:Nat)|ba(i:Nat)deriving DecidableEq
section
local macro_rules|`(tactic|show $e)=>`(tactic|refine $e)
local macro_rules|`(())=>`(rfl)
local macro_rules(kind:=«term{_}»)|`({$a,*})=>`(⟨$a,*⟩)
local macro_rules|`(($a,$b,*))=>if b.elemsAndSeps.size%2==0 then `(⟨$a,$b,*⟩)else Lean.Macro.throwUnsupported
namespace L2
open PySem PySem.Spec PyProof.Rows
abbrev bY:=Sum Int Str
def nz:bY->Value->Bool|.inl k,v=>Value.isInt k v|.inr x,v=>Value.isStrOf x v
def MX(w:World):bY->Int|.inl k=>hashInt k|.inr x=>hashStr w x
def cz:∀{k:bY}{v:Value},nz k v=true->(∃i t,k=Sum.inl i/\v=Value.int i t)\/(∃x t,k=Sum.inr x/\v=Value.str x t)|.inl i,v,h=>by obtain⟨t,e⟩:=Value.isInt_shape (k:=i) (v:=v) h;show .inl {i,t,(),e}|.inr x,v,h=>by obtain⟨t,e⟩:=Value.isStrOf_shape (x:=x) (v:=v) h;show .inr {x,t,(),e}
def wF(i:Int)(t:Tok):nz (.inl i) (.int i t)=true:=by simp[nz,Value.isInt]
def wE(x:Str)(t:Tok):nz (.inr x) (.str x t)=true:=by simp[nz,Value.isStrOf]
def J1(a b:Int):decide ((Sum.inl a:bY)=Sum.inl b)=(a==b):=by
 by_cases e:a=b
 ·subst e;simp
 ·have h:¬(Sum.inl a:bY)=Sum.inl b:=λq=>e (Sum.inl.inj q);rw[j_ h];show(A_.mpr e).symm
def JY(a b:Str):decide ((Sum.inr a:bY)=Sum.inr b)=decide (a=b):=by
 by_cases e:a=b
 ·subst e;simp
 ·have h:¬(Sum.inr a:bY)=Sum.inr b:=λq=>e (pu q);rw[j_ h,j_ e]
def J0(a:Int)(b:Str):decide ((Sum.inl a:bY)=Sum.inr b)=false:=j_ (nofun)
def JZ(a:Str)(b:Int):decide ((Sum.inr a:bY)=Sum.inl b)=false:=j_ (nofun)
def aR(prog:O7)(w:World):PySem.KeyKind prog w bY where
 is:=nz
 hash:=MX w
 inj:=λv a b g f=>by
  rcases cz g with⟨i,t,rfl,rfl⟩|⟨x,t,rfl,rfl⟩
  ·rcases cz f with⟨j,u,rfl,e⟩|⟨y,u,rfl,e⟩
   ·injection e with c _;rw[c]
   ·show nomatch e
  ·rcases cz f with⟨j,u,rfl,e⟩|⟨y,u,rfl,e⟩
   ·show nomatch e
   ·injection e with c _;rw[c]
 byValue:=λk v h=>by rcases cz h with⟨i,t,rfl,rfl⟩|⟨x,t,rfl,rfl⟩<;>rfl
 pyHash:=λd h=>by
  rcases cz d with⟨i,t,rfl,rfl⟩|⟨x,t,rfl,rfl⟩
  ·show wpAny_pyHash_int h
  ·show wpAny_pyHash_str h
 eqBool:=λl d h=>by
  rcases cz l with⟨i,t,rfl,rfl⟩|⟨x,t,rfl,rfl⟩
  ·rcases cz d with⟨j,u,rfl,rfl⟩|⟨y,u,rfl,rfl⟩
   ·rw[J1]at h;show wpAny_eqBool_int h
   ·rw[J0]at h;show SeqAt.EqAt.int_str i t y u _ _ _ _ h
  ·rcases cz d with⟨j,u,rfl,rfl⟩|⟨y,u,rfl,rfl⟩
   ·rw[JZ]at h;show SeqAt.EqAt.str_int x t j u _ _ _ _ h
   ·rw[JY]at h;show I_ h
 «strs»:=λk x t v h=>by
  rcases cz h with⟨i,u,rfl,e⟩|⟨y,u,rfl,e⟩
  ·show nomatch e
  ·injection e with c _
   subst c
   cases v<;>rfl
def Ap(prog:O7)(w:World)(k:bY)(v:Value):(aR prog w).is k v=nz k v:=rfl
def y9(prog:O7)(w:World)(i:Int)(t:Tok):(aR prog w).is (.inl i) (.int i t)=true:=wF i t
def rn(prog:O7)(w:World)(x:Str)(t:Tok):(aR prog w).is (.inr x) (.str x t)=true:=wE x t
inductive V where|non|bl(b:Bool)|int(i:Int)|str(x:Str)|byt(b:Array UInt8)|flt(b:UInt64)|ref(a:Addr)|ty(n:String)deriving DecidableEq
def aV:V->Value->Prop|.non,u=>u=Value.none|.bl b,u=>u=Value.bool b|.int i,u=>∃t,u=Value.int i t|.str x,u=>∃t,u=Value.str x t|.byt b,u=>∃t,u=Value.bytes b t|.flt b,u=>∃t,u=Value.float b t|.ref a,u=>u=Value.ref a|.ty n,u=>u=Value.type n
abbrev a0:List V->List Value->Prop:=Paired aV
theorem a0.length(r:a0 a c):a.length=c.length:=Paired.length r
theorem a0.get:∀{a:List V}{c:O6}{i:Nat}{x:V},a0 a c->a[i]?=some x->∃u,c[i]?=some u/\aV x u|_,_,_,_,.nil,e=>by simp at e|_,_,0,_,.cons r _,e=>by simp at e;subst e;show{_,(),r}|_,_,i+1,x,.cons _ t,e=>by obtain⟨u,h1,h2⟩:=a0.get (i:=i) (x:=x) t (by simpa using e);show{u,by simpa using h1,h2}
theorem a0.set(r:aV x u):∀{a:List V}{c:O6}(i:Nat),a0 a c->a0 (a.set i x) (c.set i u)|_,_,_,.nil=>.nil|_,_,0,.cons _ t=>.cons r t|_,_,i+1,.cons q t=>.cons q (a0.set r i t)
theorem a0.append:∀{a c:List V}{d e:O6},a0 a d->a0 c e->a0 (a++c) (d++e)|_,_,_,_,.nil,s=>s|_,_,_,_,.cons r t,s=>.cons r (a0.append t s)
theorem a0.take:∀{a:List V}{c:O6}(n:Nat),a0 a c->a0 (a.take n) (c.take n)|_,_,0,_=>.nil|_,_,_+1,.nil=>.nil|_,_,n+1,.cons r t=>.cons r (a0.take n t)
theorem a0.drop:∀{a:List V}{c:O6}(n:Nat),a0 a c->a0 (a.drop n) (c.drop n)|_,_,0,r=>r|_,_,_+1,.nil=>.nil|_,_,n+1,.cons _ t=>a0.drop n t
def kD:Option V->Option Value->Prop|some v,some u=>aV v u|none,none=>True|_,_=>False
def KV{a:Type}:List (a×V)->List (a×Value)->Prop:=Paired λ(p:a×V)(q:a×Value)=>p.1=q.1/\aV p.2 q.2
def kV:bY->V|.inl i=>.int i|.inr x=>.str x
inductive HO where|lst(xs:List V)|tup(xs:List V)|dK(kvs:List (bY×V))|dT(kvs:List (List bY×V))|set(S:Int->Bool)(n:Nat)|ins(C dx:Addr)(fs:List (Str×V))|own(x:Addr)|xd(fs:List (Str×V))|met(f x:Addr)|rng(lo hi:Int)|frz(o:Obj)(u:HO)|tbl(ps:O_)|ext(φ:Heap->Prop)
abbrev Hp:=Addr->Option HO
def aH(H:Hp)(a:Addr)(o:HO):Hp:=λb=>if b=a then some o else H b
def ae:aH H a o a=some o:=by unfold aH;rw[g6 ()]
def ak(h:b≠a):aH H a o b=H b:=by unfold aH;rw[g_ h]
def ic:aH (aH H a o) a u=aH H a u:=by funext b;unfold aH;split<;>rfl
def LC{H:Hp}{a b:Addr}{o u:HO}(h:H a=some o)(h':H b=some u)(d:o≠u):a≠b:=by intro e;subst e;rw[h]at h';show d (j1 h')
def az{H:Hp}{a b:Addr}{o:HO}(h:H a=some o)(h':H b=none):a≠b:=by intro e;subst e;rw[h]at h';cases h'
section
variable(P:O7)(w:World)
def dh(H:Hp)(h:Heap)(a:Addr):HO->Prop|.lst d=>d.length<=sizeLine/\∃(b:O6)(n:Nat),a0 d b/\h.get? a=some {cls:=.type "list",data:=.seq b.toArray n}|.tup d=>d.length<=sizeLine/\∃b:List Value,a0 d b/\IsTup h a b.toArray|.dK c=>c.length<=sizeLine/\(a==sysModules)=false/\∃g,KV c g/\h.DictOf (aR P w) a g|.dT c=>c.length<=sizeLine/\(a==sysModules)=false/\∃d:List (List bY×Addr×Value),Paired (λ(p:List bY×V)(q:List bY×Addr×Value)=>p.1=q.1/\H q.2.1=some (.tup (p.1.map kV))/\aV p.2 q.2.2) c d/\∃o es ep,h.get? a=some o/\o.ExactDict/\o.data=.dict es ep/\es.toList=d.map (entryOfKey (tupleKind (aR P w)))/\(d.map (·.1)).Nodup|.set S n=>h.SetOf (intKind P w) a S n|.ins C dx fs=>H dx=some (.own a)/\fs.length<=1000/\dx≠a/\h.get? a=some (PySem.W.instObj C dx)/\∃e,h.Ns1 dx e/\(∀f,kD (fs.lookup f) (e f))/\PySem.Within e (fs.map (·.1))|.own _=>∃o,h.get? a=some o|.xd fs=>∃e,h.Ns1 a e/\∀f,kD (fs.lookup f) (e f)|.rng lo hi=>∃t u v,h.get? a=some {cls:=.type "range",data:=.fields #[.int lo t,.int hi u,.int 1 v]}|.frz o u=>h.get? a=some o/\dh H h a u|.tbl i=>h.get? a=some {cls:=.none,data:=.fields i}|.met f x=>h.get? a=some (PySem.W.methodObj (.ref f) (.ref x))|.ext φ=>φ h/\(∃o,h.get? a=some o)/\∀h1 h2:Heap,φ h1->(∀o,h1.get? a=some o->h2.get? a=some o)->φ h2
def lC(H:Hp)(h:Heap):Prop:=∀a o,H a=some o->dh P w H h a o
end
section
variable{P:O7}{w:World}{H g:Hp}{h h':Heap}{a:Addr}{o:HO}
theorem dh.lt(x:dh P w H h a o):a<h.objs.size:=by cases o with|lst c=>obtain⟨_,_,_,_,e⟩:=x;show hY e|tup c=>obtain⟨_,_,_,p⟩:=x;show p.lt|dK b=>obtain⟨_,_,_,_,o,_,_,e,_⟩:=x;show hY e|dT b=>obtain⟨_,_,_,_,o,_,_,e,_⟩:=x;show hY e|set S n=>obtain⟨o,_,_,_,e,_⟩:=x;show hY e|ins C dx fs=>obtain⟨_,_,_,e,_⟩:=x;show hY e|own y=>obtain⟨_,e⟩:=x;show hY e|xd fs=>obtain⟨_,⟨_,_,_,e,_⟩,_⟩:=x;show hY e|rng lo hi=>obtain⟨_,_,_,e⟩:=x;show hY e|frz ob u=>obtain⟨e,_⟩:=x;show hY e|tbl d=>show hY (show h.get? a=some _ from x)|met f y=>show hY (show h.get? a=some _ from x)|ext φ=>obtain⟨_,⟨_,e⟩,_⟩:=x;show hY e
theorem Paired.mapP:∀{c:List e}{d:List i},Paired F c d->(∀a b,F a b->G a b)->Paired G c d|_,_,.nil,_=>.nil|_,_,.cons r t,f=>.cons (f _ _ r) (Paired.mapP t f)
def dh.stay(x:dh P w H h a o)(k:∀b u,(b=a\/H b=some (.own a))->h.get? b=some u->h'.get? b=some u)(B:∀b,H b=some (.own a)->g b=some (.own a))(D:∀b j,H b=some (.tup j)->g b=some (.tup j)):dh P w g h' a o:=by induction o with|lst j=>obtain⟨z,i,n,r,e⟩:=x;show{z,i,n,r,k _ _ (.inl ()) e}|tup j=>obtain⟨z,i,r,ob,e,c⟩:=x;show{z,i,r,ob,k _ _ (.inl ()) e,c}|dK l=>obtain⟨z,y,E,r,ob,es,ep,e,c⟩:=x;show{z,y,E,r,ob,es,ep,k _ _ (.inl ()) e,c}|dT l=>obtain⟨z,y,j,r,ob,es,ep,e,c⟩:=x;show{z,y,j,Paired.mapP r λp q z=>{z.1,D _ _ z.2.1,z.2.2},ob,es,ep,k _ _ (.inl ()) e,c}|set S n=>obtain⟨ob,es,ep,t,e,c⟩:=x;show{ob,es,ep,t,k _ _ (.inl ()) e,c}|ins C dx fs=>obtain⟨d,z,ne,e,m,⟨s,es,ep,F,c⟩,r⟩:=x;show{B _ d,z,ne,k _ _ (.inl ()) e,m,{s,es,ep,k _ _ (.inr d) F,c},r}|own y=>obtain⟨ob,e⟩:=x;show{ob,k _ _ (.inl ()) e}|xd fs=>obtain⟨m,⟨s,es,ep,e,c⟩,r⟩:=x;show{m,{s,es,ep,k _ _ (.inl ()) e,c},r}|rng lo hi=>obtain⟨t,u,v,e⟩:=x;show{t,u,v,k _ _ (.inl ()) e}|frz ob u G=>obtain⟨e,q⟩:=x;show{k _ _ (.inl ()) e,G q}|tbl A=>have e:h.get? a=some {cls:=.none,data:=.fields A}:=x;change h'.get? a=some {cls:=.none,data:=.fields A};show k a _ (.inl ()) e|met f y=>have e:h.get? a=some (PySem.W.methodObj (.ref f) (.ref y)):=x;change h'.get? a=some (PySem.W.methodObj (.ref f) (.ref y));show k a _ (.inl ()) e|ext φ=>obtain⟨p,⟨o,e⟩,st⟩:=x;show{st _ _ p λo q=>k _ _ (.inl ()) q,{o,k _ _ (.inl ()) e},st}
theorem lC.lt(x:lC P w H h)(e:H a=some o):a<h.objs.size:=(x a o e).lt
def lC.fresh(x:lC P w H h)(e:h.objs.size<=a):H a=none:=by cases q:H a with|none=>rfl|some u=>show absurd (me (x.lt q) e) (o_ _)
def lC.kept(x:lC P w H h)(k:∀b u,h.get? b=some u->h'.get? b=some u):lC P w H h':=λa o e=>(x a o e).stay (λb u _ q=>k b u q) (λ_ q=>q) λ_ _ q=>q
def lC.laid(x:lC P w H h)(k:∀b u,h.get? b=some u->h'.get? b=some u)(f:h.objs.size<=a)(new:dh P w (aH H a o) h' a o):lC P w (aH H a o) h':=λb u e=>by
 have hn:=x.fresh f
 by_cases d:b=a
 ·subst d;rw[ae]at e;cases e;show new
 ·rw[ak d]at e;show(x b u e).stay (λc v _ q=>k c v q) (λc q=>by rw[ak (az q hn)];show q) λc i q=>by rw[ak (az q hn)];show q
end
def Rd(H:Hp)(a:Addr)(u:HO):Prop:=H a=some u\/∃o,H a=some (.frz o u)
def Rd.ok(r:Rd H a u)(x:lC P w H h):dh P w H h a u:=by
 rcases r with r|⟨o,r⟩
 ·show x a u r
 ·obtain⟨_,q⟩:=x a _ r;show q
def Ml:Option HO->Prop|some (.lst _)=>True|some (.dK _)=>True|some (.dT _)=>True|some (.set _ _)=>True|some (.ins _ _ _)=>True|some (.ext _)=>True|_=>False
section
variable{P:O7}{w:World}{H:Hp}{h h':Heap}{x e:Addr}{a:HO}
def lC.write(ok:lC P w H h)(g:Ml (H x))(m:e=x\/H e=some (.own x))(k:∀b u,b≠e->h.get? b=some u->h'.get? b=some u)(l:∃u,h'.get? e=some u)(new:dh P w (aH H x a) h' x a):lC P w (aH H x a) h':=λb u q=>by
 have f:∀c y,H c=some (.own y)->c≠x:=λc y r z=>by subst z;rw[r]at g;show g
 have ntup:∀c i,H c=some (.tup i)->c≠x:=λc i r z=>by subst z;rw[r]at g;show g
 by_cases j:b=x
 ·subst j;rw[ae]at q;cases q;show new
 ·rw[ak j]at q
  by_cases d:b=e
  ·have n:H b=some (.own x):=by
    rcases m with z|z
    ·show absurd (d.trans z) j
    ·rw[d];show z
   rw[q]at n;cases n;obtain⟨v,o⟩:=l;show{v,by rw[d];show o}
  ·show(ok b u q).stay (λc v hc r=>k c v ?_ r) (λc r=>by rw[ak (f c b r)];show r) λc i r=>by rw[ak (ntup c i r)];show r
   rcases hc with rfl|hc
   ·show d
   ·rintro rfl;rcases m with z|z
    ·show f c b hc z
    ·rw[hc]at z;cases z;show j ()
end
structure Un(fs ex:Pb)(H H':Hp)(h h':Heap):Prop where
 keep:∀b o,h.get? b=some o->H b=none->b∉fs->b∉ex->h'.get? b=some o
 slot:∀b o,h.get? b=some o->H b=none->b∈fs->b∉ex->∃sl,h'.get? b=some {o with slots:=sl}free:∀b o,h.get? b=some o->H b=none->b∉ex->H' b=none
 there:∀b o,h.get? b=some o->b∉ex->∃o',h'.get? b=some o'
 tups:∀b xs,H b=some (.tup xs)->H' b=some (.tup xs)frzs:∀b o u,H b=some (.frz o u)->H' b=some (.frz o u)tbls:∀b ps,H b=some (.tbl ps)->∃more,H' b=some (.tbl (ps++more))
section
variable{fs ex:Pb}{H d:Hp}{h h1 h':Heap}{a x e:Addr}{o:HO}
def Un.any(u:Un fs ex H d h h1){b:Addr}{ob:Obj}(q:h.get? b=some ob)(n:H b=none)(i:b∉ex):∃sl,h1.get? b=some {ob with slots:=sl}:=by
 by_cases j:b∈fs
 ·show u.slot b ob q n j i
 ·show{ob.slots,u.keep b ob q n j i}
def Un.kept(k:∀b u,h.get? b=some u->h'.get? b=some u):Un fs ex H H h h':={λb ob q _ _ _=>k b ob q,λb ob q _ _ _=>{ob.slots,k b ob q},λ_ _ _ n _=>n,λb ob q _=>{ob,k b ob q},λ_ _ q=>q,λ_ _ _ q=>q,λ_ i q=>{#[],by rw[q];simp}}
def Un.refl:Un fs ex H H h h:=Un.kept λ_ _ q=>q
def Un.laid(k:∀b u,h.get? b=some u->h'.get? b=some u)(i:h.objs.size<=a)(hn:H a=none):Un fs ex H (aH H a o) h h' where
 keep:=λb u q _ _ _=>k b u q
 slot:=λb u q _ _ _=>{u.slots,k b u q}
 free:=λb u q n _=>by rw[ak (ir (me (hY q) i))];show n
 there:=λb u q _=>{u,k b u q}
 tups:=λb j q=>by rw[ak (az q hn)];show q
 frzs:=λb u j q=>by rw[ak (az q hn)];show q
 tbls:=λb l q=>{#[],by rw[ak (az q hn),q];simp}
def Un.write(j:Ml (H x))(s:e=x\/H e=some (.own x))(k:∀b u,b≠e->h.get? b=some u->h'.get? b=some u)(l:∃u,h'.get? e=some u):Un fs ex H (aH H x o) h h':=by
 have m:∀b,H b=none->b≠x:=λb n z=>by subst z;rw[n]at j;show j
 have p:∀b,H b=none->b≠e:=λb n z=>by
  subst z;rcases s with r|r
  ·show m b n r
  ·rw[n]at r;cases r
 have hm:∀b u,H b=some u->¬Ml (some u)->b≠x:=λb u q nm z=>by subst z;rw[q]at j;show nm j
 show{λb u q n _ _=>k b u (p b n) q,λb u q n _ _=>{u.slots,k b u (p b n) q},λb u q n _=>by rw[ak (m b n)];show n,λb u q _=>?_,λb t q=>by rw[ak (hm b _ q λz=>z)];show q,λb u t q=>by rw[ak (hm b _ q λz=>z)];show q,λb v q=>{#[],by rw[ak (hm b _ q λz=>z),q];simp}}
 by_cases i:b=e
 ·subst i;show l
 ·show{u,k b u i q}
end
def Mw(h:Heap)(H:Hp):List Addr:=(List.range h.objs.size).filter λa=>(H a).isSome
def xG(h:Heap)(H:Hp):Heap:=PySem.W.hideAll h (Mw h H)
def Cv(h:Heap)(H:Hp):(xG h H).objs.size=h.objs.size:=PySem.W.hideAll_size _ _
def ES(e:h.get? b=some o)(n:H b=none):(xG h H).get? b=some o:=PySem.W.hideAll_get _ e λhm=>by have q:(H b).isSome=true:=(wh.mp hm).2;rw[n]at q;simp at q
def GP(e:(xG h H).get? b=some o):h.get? b=some o/\H b=none:=by have a:h.get? b=some o:=PySem.W.of_hideAll (Mw h H) e;show{a,?_};cases q:H b with|none=>rfl|some x=>have hm:b∈Mw h H:=wh.mpr {s_.mpr (hY a),by simp[q]};have z:(xG h H).get? b=none:=PySem.W.hideAll_none (Mw h H) hm;rw[z]at e;cases e
def HA(g h:Heap)(L:Addr):List (Addr×Obj):=(List.range h.objs.size).filterMap λa=>if a=L\/(g.get? a).isSome=true then none else(h.get? a).map λo=>(a,o)
def ql(g h:Heap)(L d:Addr):List (Addr×Obj):=(HA g h L).filter λp=>decide (p.1≠d)
structure Mm(K:O2)(mg:O5)(base:Heap):Prop where
 kin:K.In base
 glob:base.Ns mainGlobals mg
 blt:∃mb,base.Ns builtinsNs mb/\∀x:Str,x≠"__name__"->mb x=bootBuiltins x
 nolimit:base.NoLimit
structure Cx where
 prog:Program
 w:World
 K:O2
 mg:Str->Option Value
 base:Heap
 A:Around
 N:List Str
 s₀:Shared
 H₀:Hp
 env:Env
 outer:List Env
 stack:List Env
 ex:List Addr
 fn:Str->Bool
 calm:Bool
 pn:List (Addr×Obj)xe:Value->Shared->Prop
def jK(l:List Env):List Addr:=l.filterMap (·.frame)
abbrev Cx.fs(X:Cx):List Addr:=jK X.outer
def MD(a:Scope)(x:Str):Prop:=a.names.lookup x=some .local\/a.names.lookup x=some .cell\/a.names.lookup x=some .free
def Kw(a:Scope)(x:Str):Prop:=a.names.lookup x=some .local\/a.names.lookup x=some .cell
def Nf(env:Env)(h:Heap)(m:O5)(x:Str)(u:Value):Prop:=(env.kindOf x=some .local/\m x=some u)\/((env.kindOf x=some .cell\/env.kindOf x=some .free)/\∃c,env.cells.lookup x=some c/\h.IsCell c (some u))
structure Cx.Ok(X:Cx):Prop where
 mod:Mm X.K X.mg X.base
 kind:X.env.scope.kind=.function
 glob:X.env.globals=mainGlobals
 blt:X.env.builtins=builtinsNs
 above:X.s₀.heap.objs.size<=X.env.locals
 inj:∀x y c,X.env.cells.lookup x=some c->X.env.cells.lookup y=some c->x=y
 has:∀x,(X.env.kindOf x=some .cell\/X.env.kindOf x=some .free)->∃c,X.env.cells.lookup x=some c
 cab:∀x c,X.fn x=true->X.env.cells.lookup x=some c->X.s₀.heap.objs.size<=c
 hd:X.calm=true->X.A.handled=none
 frames:X.A.frames=some X.stack
 stk:X.stack=X.outer\/(X.stack=X.env::X.outer/\X.env.frame=some X.env.locals)exf:∀b∈X.ex,b≠X.env.locals/\∀x c,X.env.cells.lookup x=some c->c≠b
 bs:∀b o,X.base.get? b=some o->X.s₀.heap.get? b=some o/\X.H₀ b=none
 bsz:X.base.objs.size<=X.s₀.heap.objs.size
 noex:∀b o,X.base.get? b=some o->b∉X.ex
 exfs:∀b∈X.ex,b∉X.fs
 funs:X.s₀.heap.FunFrames X.base X.outer
 frf:∀b∈X.fs,X.H₀ b=none
structure aO(X:Cx)(pins:O4)(σ:List (Option V))(H:Hp)(s:Shared):Prop where
 ok:X.Ok
 os:s.os=X.s₀.os
 bare:AllBare s.gens
 base:Un X.fs X.ex X.H₀ H X.s₀.heap s.heap
 loc:∃m,s.heap.Ns X.env.locals m/\∀(i:Nat)(x:Str)(v:V),X.N[i]?=some x->σ[i]?=some (some v)->MD X.env.scope x->∃u,aV v u/\Nf X.env s.heap m x u
 cell:∀x c,X.env.cells.lookup x=some c->∃v,s.heap.IsCell c v
 free:H X.env.locals=none
 freeC:∀x c,X.env.cells.lookup x=some c->H c=none
 pin:∀p∈X.pn++pins,s.heap.get? p.1=some p.2/\H p.1=none/\p.1≠X.env.locals/\p.1∉X.fs/\∀v,p.2.data≠.cell v
 hok:lC X.prog X.w H s.heap
 len:σ.length=X.N.length
section
variable{X:Cx}{f:O4}{g:List (Option V)}{H B:Hp}{s:Shared}{h':Heap}
def Cx.Ok.nofr(ok:X.Ok)(e:X.base.get? b=some o):b∉X.fs:=λa=>by have:=(ok.funs.mem a).1;rw[e]at this;cases this
theorem aO.bs(I:aO X f g H s):∀b o,X.base.get? b=some o->s.heap.get? b=some o/\H b=none:=λb o e=>{I.base.keep b o (I.ok.bs b o e).1 (I.ok.bs b o e).2 (I.ok.nofr e) (I.ok.noex b o e),I.base.free b o (I.ok.bs b o e).1 (I.ok.bs b o e).2 (I.ok.noex b o e)}
def aO.bk(I:aO X f g H s):∀b o,X.base.get? b=some o->s.heap.get? b=some o:=λb o e=>(I.bs b o e).1
theorem aO.mod(I:aO X f g H s):Mm X.K X.mg X.base:=I.ok.mod
def aO.kIn(I:aO X f g H s):X.K.In s.heap:=I.ok.mod.kin.keeps I.bk
def aO.fr(I:aO X f g H s):∃m,Fr X.base X.env.locals s.heap m:=let⟨m,hn,_⟩:=I.loc
 {m,hn,I.bk,iA I.ok.bsz I.ok.above}
theorem aO.lt(I:aO X f g H s):X.env.locals<s.heap.objs.size:=let⟨_,hn,_⟩:=I.loc;hn.lt
def aO.sz(I:aO X f g H s):X.s₀.heap.objs.size<=s.heap.objs.size:=iA I.ok.above (sT I.lt)
def aO.nofs(I:aO X f g H s)(h:s.heap.objs.size<=a):a∉X.fs:=λb=>by obtain⟨_,o,c,_⟩:=I.ok.funs.mem b;show absurd (me (hY c) (iA I.sz h)) (o_ _)
def aO.cne(I:aO X f g H s):∀x c,X.env.cells.lookup x=some c->c≠X.env.locals:=λx c e z=>by obtain⟨v,o,d,hd⟩:=I.cell x c e;obtain⟨m,⟨h,es,ep,a,b,_⟩,_⟩:=I.loc;rw[z,a]at d;cases d;rw[b]at hd;cases hd
theorem aO.funs(I:aO X f g H s):s.heap.FunFrames X.base X.outer:=by
 have all:∀(l:List Env),(∀b∈jK l,b∈X.fs)->X.s₀.heap.FunFrames X.base l->s.heap.FunFrames X.base l:=by
  intro l
  induction l with|nil=>intro _ _;trivial|cons env r i=>intro h j;obtain⟨k,⟨L,o,a,hn,m,hd⟩,n⟩:=j;have c:L∈X.fs:=h L (by unfold jK;rw[rm,a];show i_);obtain⟨sl,e⟩:=I.base.slot L o m (I.ok.frf L c) c λz=>I.ok.exfs L z c;show{k,{L,_,a,hn,e,hd},i (λb d=>h b (by unfold jK;rw[rm,a];show il _ d)) n}
 show all X.outer (λ_ d=>d) I.ok.funs
theorem aO.stack(I:aO X f g H s):s.heap.FunFrames X.base X.stack:=by
 rcases I.ok.stk with e|⟨e,a⟩
 ·rw[e];show I.funs
 ·rw[e];obtain⟨m,hn,_⟩:=I.loc;show .cons (by rw[I.ok.kind];decide) a hn ?_ I.funs;show Heap.get?_none_of_le (iA I.ok.bsz I.ok.above)
def aO.stkSub(I:aO X f g H s):∀b∈jK X.stack,b∈X.env.locals::X.fs:=λb a=>by
 rcases I.ok.stk with e|⟨e,c⟩
 ·rw[e]at a;show il _ a
 ·rw[e]at a;unfold jK at a;rw[rm,c]at a;show a
def aO.stkFree(I:aO X f g H s):∀b∈jK X.stack,H b=none:=λb a=>by
 rcases q_.mp (I.stkSub b a)with e|a
 ·rw[e];show I.free
 ·obtain⟨_,o,c,_⟩:=I.ok.funs.mem a;show I.base.free b o c (I.ok.frf b a) λz=>I.ok.exfs b z a
def aO.step{g':Array GenState}{P:Nat}{d':Drawn}{ch:Pb}(I:aO X f g H s)(h:∀b∈ch,(b∈X.ex\/X.s₀.heap.objs.size<=b)/\b≠X.env.locals/\(∀x c,X.env.cells.lookup x=some c->c≠b)/\∀p∈X.pn++f,p.1≠b)(keep:∀b o,b≠X.env.locals->b∉X.fs->b∉ch->s.heap.get? b=some o->H b=none->h'.get? b=some o)(slot:∀b o,b≠X.env.locals->b∈X.fs->b∉ch->s.heap.get? b=some o->H b=none->∃sl,h'.get? b=some {o with slots:=sl})(free:∀b o,b∉ch->s.heap.get? b=some o->H b=none->B b=none)(there:∀b o,b∉ch->s.heap.get? b=some o->∃F,h'.get? b=some F)(tups:∀b C,H b=some (.tup C)->B b=some (.tup C))(frzs:∀b o u,H b=some (.frz o u)->B b=some (.frz o u))(tbls:∀b L,H b=some (.tbl L)->∃G,B b=some (.tbl (L++G)))(ns:∀m,s.heap.Ns X.env.locals m->h'.Ns X.env.locals m)(hok:lC X.prog X.w B h')(hg:AllBare g'):aO X f g B {s with heap:=h',gens:=g',drawn:=d',toks:=P}:=by
 have J:∀b o,X.s₀.heap.get? b=some o->b≠X.env.locals:=λb o e=>ir (me (hY e) I.ok.above);have y:∀b o,X.s₀.heap.get? b=some o->b∉X.ex->b∉ch:=λb o e a D=>by
  rcases(h b D).1 with z|z
  ·show a z
  ·show absurd (me (hY e) z) (o_ _)
 have j:∀x c,X.env.cells.lookup x=some c->∀v,s.heap.IsCell c v->h'.IsCell c v:=λx c e v⟨o,E,hd⟩=>by
  have t:c∉ch:=λz=>(h c z).2.2.1 x c e ()
  by_cases hc:c∈X.fs
  ·obtain⟨sl,q⟩:=slot c o (I.cne x c e) hc t E (I.freeC x c e);show{_,q,hd}
  ·show{o,keep c o (I.cne x c e) hc t E (I.freeC x c e),hd}
 show{I.ok,I.os,hg,{λb o e n D a=>?_,λb o e n D a=>?_,λb o e n a=>?_,λb o e a=>?_,λb C e=>tups b C (I.base.tups b C e),λb o C e=>frzs b o C (I.base.frzs b o C e),λb L e=>?_},?_,λx c e=>?_,?_,λx c e=>?_,λp N=>?_,hok,I.len}
 ·show keep b o (J b o e) D (y b o e a) (I.base.keep b o e n D a) (I.base.free b o e n a)
 ·obtain⟨sl,A⟩:=I.base.slot b o e n D a;obtain⟨M,K⟩:=slot b _ (J b o e) D (y b o e a) A (I.base.free b o e n a);show(M,K,)
 ·obtain⟨F,A⟩:=I.base.there b o e a;show free b F (y b o e a) A (I.base.free b o e n a)
 ·obtain⟨F,A⟩:=I.base.there b o e a;show there b F (y b o e a) A
 ·obtain⟨O,A⟩:=I.base.tbls b L e;obtain⟨Q,K⟩:=tbls b _ A;show{O++Q,by rw[K,Array.append_assoc]}
 ·obtain⟨m,hn,R⟩:=I.loc;show{m,ns m hn,λi x v A K S=>?_};obtain⟨u,r,l⟩:=R i x v A K S;show{u,r,?_};rcases l with l|⟨k,c,e,z⟩
  ·show .inl l
  ·show .inr {k,c,e,j x c e _ z}
 ·obtain⟨v,z⟩:=I.cell x c e;show{v,j x c e v z}
 ·obtain⟨m,⟨o,_,_,E,_⟩,_⟩:=I.loc;show free _ o (λz=>(h _ z).2.1 ()) E I.free
 ·obtain⟨v,o,E,hd⟩:=I.cell x c e;show free c o (λz=>(h c z).2.2.1 x c e ()) E (I.freeC x c e)
 ·obtain⟨e,n,ne,nf,d⟩:=I.pin p N;have t:p.1∉ch:=λz=>(h p.1 z).2.2.2 p N ();show{keep p.1 p.2 ne nf t e n,free p.1 p.2 t e n,ne,nf,d}
def aO.un{t':Nat}(I:aO X f g H s)(u:Un X.fs [] H B s.heap h')(hok:lC X.prog X.w B h'):aO X f g B {s with heap:=h',toks:=t'}:=by obtain⟨m,⟨o,es,ep,i,r⟩,_⟩:=id I.loc;obtain⟨sl,j⟩:=u.any i I.free (by simp);show I.step (g':=s.gens) (d':=s.drawn) (ch:=[]) (λ_ z=>nomatch z) (λb o _ c _ e n=>u.keep b o e n c (by simp)) (λb o _ c _ e n=>u.slot b o e n c (by simp)) (λb o _ e n=>u.free b o e n (by simp)) (λb o _ e=>u.there b o e (by simp)) u.tups u.frzs u.tbls (λt hm=>by obtain⟨v,d,h,a,k⟩:=hm;rw[i]at a;cases a;show{_,d,h,j,k}) hok I.bare
def aO.call{g':Array GenState}{t':Nat}{d':Drawn}{ch:Pb}(I:aO X f g H s)(u:Un (jK X.stack) ch H B s.heap h')(hok:lC X.prog X.w B h')(hg:AllBare g')(a:∀b∈ch,(b∈X.ex\/X.s₀.heap.objs.size<=b)/\b≠X.env.locals/\(∀x c,X.env.cells.lookup x=some c->c≠b)/\∀p∈X.pn++f,p.1≠b):aO X f g B {s with heap:=h',gens:=g',drawn:=d',toks:=t'}:=by obtain⟨m,⟨o,es,ep,k,r⟩,_⟩:=id I.loc;obtain⟨sl,h⟩:=u.any k I.free λz=>(a _ z).2.1 ();show I.step (ch:=ch) a (λb o h l hc e n=>u.keep b o e n (λz=>(q_.mp (I.stkSub b z)).elim h l) hc) (λb o _ _ hc e n=>u.any e n hc) (λb o hc e n=>u.free b o e n hc) (λb o hc e=>u.there b o e hc) u.tups u.frzs u.tbls (λt hm=>by obtain⟨v,i,j,d,q⟩:=hm;rw[k]at d;cases d;show{_,i,j,h,q}) hok hg
def aO.turned{t':Nat}{it:Addr}(I:aO X f g H s)(k:∀b o,b≠it->s.heap.get? b=some o->h'.get? b=some o)(hn:H it=none)(d:it≠X.env.locals)(h1:it∈X.ex\/X.s₀.heap.objs.size<=it)(h2:∀x c,X.env.cells.lookup x=some c->c≠it)(h3:∀p∈X.pn++f,p.1≠it):aO X f g H {s with heap:=h',toks:=t'}:=by
 have a:∀b u,H b=some u->b≠it:=λb u e z=>by rw[z,hn]at e;cases e
 show I.step (g':=s.gens) (d':=s.drawn) (ch:=[it]) (λb h=>?_) (λb o _ _ hc e _=>k b o (λz=>hc (by simp[z])) e) (λb o _ _ hc e _=>{o.slots,k b o (λz=>hc (by simp[z])) e}) (λ_ _ _ _ n=>n) (λb o hc e=>{o,k b o (λz=>hc (by simp[z])) e}) (λ_ _ e=>e) (λ_ _ _ e=>e) (λb w e=>{#[],by rw[e];simp}) (λm hm=>?_) (λb u e=>?_) I.bare
 ·have e:b=it:=by simpa using h
  subst e;show(h1,d,h2,h3,)
 ·obtain⟨o,es,ep,i,r⟩:=hm;show{o,es,ep,k _ o (nn d) i,r}
 ·show(I.hok b u e).stay (λc v hc q=>k c v ?_ q) (λ_ q=>q) λ_ _ q=>q;rcases hc with z|z
  ·rw[z];show a b u e
  ·show a c _ z
def aO.tok(I:aO X f g H s)(t:Nat):aO X f g H {s with toks:=t}:=I.un (h':=s.heap) (t':=t) Un.refl I.hok
theorem aO.kept(I:aO X f g H s)(k:∀b u,s.heap.get? b=some u->h'.get? b=some u):aO X f g H {s with heap:=h',toks:=t'}:=I.un (Un.kept k) (I.hok.kept k)
theorem aO.laid(I:aO X f g H s)(k:∀b u,s.heap.get? b=some u->h'.get? b=some u)(c:s.heap.objs.size<=a)(new:dh X.prog X.w (aH H a o) h' a o):aO X f g (aH H a o) {s with heap:=h',toks:=t'}:=I.un (Un.laid k c (I.hok.fresh c)) (I.hok.laid k c new)
theorem aO.write(I:aO X f g H s)(c:Ml (H x))(d:e=x\/H e=some (.own x))(k:∀b u,b≠e->s.heap.get? b=some u->h'.get? b=some u)(a:∃u,h'.get? e=some u)(new:dh X.prog X.w (aH H x o) h' x o):aO X f g (aH H x o) {s with heap:=h',toks:=t'}:=I.un (Un.write c d k a) (I.hok.write c d k a new)
def aO.weak(I:aO X f g H s)(c:a.length=g.length)(w:∀(i:Nat)v,a[i]?=some (some v)->g[i]?=some (some v)):aO X f a H s:={I.ok,I.os,I.bare,I.base,let⟨m,hn,b⟩:=I.loc;{m,hn,λi x v d e h=>b i x v d (w i v e) h},I.cell,I.free,I.freeC,I.pin,I.hok,c.trans I.len}
def aO.pins_of(I:aO X f g H s)(h:∀p∈a,s.heap.get? p.1=some p.2/\H p.1=none/\p.1≠X.env.locals/\p.1∉X.fs/\∀v,p.2.data≠.cell v):aO X a g H s:={I.ok,I.os,I.bare,I.base,I.loc,I.cell,I.free,I.freeC,λp b=>(List.mem_append.mp b).elim (λz=>I.pin p (np _ z)) (h p),I.hok,I.len}
def y3{N:O8}(c:N.Nodup){i j:Nat}{x:Str}(a:N[i]?=some x)(b:N[j]?=some x):i=j:=by obtain⟨h1,d⟩:=d_.mp a;obtain⟨h2,e⟩:=d_.mp b;show(List.getElem_inj c).mp (d.trans e.symm)
def vZ{M:Model}{A:Around}{E:O3}{i:Nat}{x:Str}{v:V}{u:Value}{Q:Unit->Shared->Prop}(I:aO X f g H s)(hN:X.N.Nodup)(hi:X.N[i]?=some x)(D:Kw X.env.scope x)(r:aV v u)(h:∀s',aO X f (g.set i (some v)) H s'->(∃a,Heap.SameBut a s.heap s'.heap/\(a=X.env.locals\/X.env.cells.lookup x=some a))->Q Unit.unit s')(hf:X.fn x=true\/X.env.scope.names.lookup x=some .local:=by first|show .inl ()|show .inr ()|assumption):wpAny M A (storeName X.env x u) Q E s:=by
 obtain⟨m,hn,hl⟩:=id I.loc;have R:(X.env.scope.kind==.class||(X.env.scope.kind==.module&&X.env.locals !=X.env.globals))=false:=by rw[I.ok.kind];rfl
 have J:i<g.length:=by rw[I.len];show(d_.mp hi).1
 have cne:=I.cne;have t:∀{a:Addr}{h':Heap},(∃o,s.heap.get? a=some o/\H a=none)->Heap.SameBut a s.heap h'->lC X.prog X.w H h':=λ{a h'}ha l b ob e=>by
  obtain⟨_,_,F⟩:=ha;show(I.hok b ob e).stay (λc Y hc q=>(l.2 c ?_).trans q) (λ_ q=>q) λ_ _ q=>q;rintro rfl;rcases hc with rfl|hc
  ·rw[F]at e;cases e
  ·rw[F]at hc;cases hc
 rcases D with K|K
 ·show wpAny_storeName_local K hn (λh' aa l=>?_) R;obtain⟨oL,_,_,ad,_⟩:=id hn;show h _ {I.ok,I.os,I.bare,{λb o e n L D=>?_,λb o e n L D=>?_,I.base.free,λb o e D=>?_,I.base.tups,I.base.frzs,I.base.tbls},{_,aa,λj y v' C G e3=>?_},λy c e=>?_,I.free,I.freeC,λp hp=>?_,t (oL,ad,I.free,) l,by simpa using I.len} {_,l,.inl ()}
  ·show(l.2 b (ir (me (hY e) I.ok.above))).trans (I.base.keep b o e n L D)
  ·obtain⟨sl,C⟩:=I.base.slot b o e n L D;show{sl,(l.2 b (ir (me (hY e) I.ok.above))).trans C}
  ·obtain⟨o',C⟩:=I.base.there b o e D;show{o',(l.2 b (ir (me (hY e) I.ok.above))).trans C}
  ·by_cases O:j=i
   ·subst O;rw[hi]at C;cases C;rw[x_ J]at G;cases G;show{u,r,.inl {K,by simp}}
   ·rw[pv (nn O)]at G;obtain⟨u',r',q⟩:=hl j y v' C G e3;show{u',r',?_};rcases q with⟨k,e⟩|⟨k,c,e,z⟩
    ·show .inl {k,?_};have:y≠x:=λe=>O (y3 hN C (e▸hi));simp[this,e]
    ·show .inr {k,c,e,z.sameBut l (cne y c e)}
  ·obtain⟨Y,z⟩:=I.cell y c e;show{Y,z.sameBut l (cne y c e)}
  ·obtain⟨e,n,ne,nf,d⟩:=I.pin p hp;show{(l.2 p.1 ne).trans e,n,ne,nf,d}
 ·have P:X.fn x=true:=by
   rcases hf with z|z
   ·show z
   ·rw[z]at K;cases K
  obtain⟨c,hc⟩:=I.ok.has x (.inl K);obtain⟨Y,z⟩:=I.cell x c hc;show wpAny_storeName_cell I.ok.kind K hc z (λh' S l=>?_);obtain⟨oc,T,U⟩:=id z;show h {s with heap:=h'} {I.ok,I.os,I.bare,{λb o e n L D=>?_,λb o e n L D=>?_,I.base.free,λb o e D=>?_,I.base.tups,I.base.frzs,I.base.tbls},{m,hn.sameBut l (nn (cne x c hc)),λj y v' C G e3=>?_},λy Z e=>?_,I.free,I.freeC,λp hp=>?_,t {oc,T,I.freeC x c hc} l,by simpa using I.len} {c,l,.inr hc}
  ·show(l.2 b (ir (me (hY e) (I.ok.cab x c P hc)))).trans (I.base.keep b o e n L D)
  ·obtain⟨sl,C⟩:=I.base.slot b o e n L D;show{sl,(l.2 b (ir (me (hY e) (I.ok.cab x c P hc)))).trans C}
  ·obtain⟨o',C⟩:=I.base.there b o e D;show{o',(l.2 b (ir (me (hY e) (I.ok.cab x c P hc)))).trans C}
  ·by_cases O:j=i
   ·subst O;rw[hi]at C;cases C;rw[x_ J]at G;cases G;show{u,r,.inr {.inl K,c,hc,S}}
   ·rw[pv (nn O)]at G;obtain⟨u',r',q⟩:=hl j y v' C G e3;show{u',r',?_};rcases q with q|⟨k,Z,e,z'⟩
    ·show .inl q
    ·show .inr {k,Z,e,z'.sameBut l ?_};rintro rfl;show O (y3 hN C (I.ok.inj _ _ _ e hc▸hi))
  ·by_cases W:Z=c
   ·subst W;show{_,S}
   ·obtain⟨w2,z2⟩:=I.cell y Z e;show{w2,z2.sameBut l W}
  ·obtain⟨e,n,ne,nf,d⟩:=I.pin p hp;show{(l.2 p.1 ?_).trans e,n,ne,nf,d};intro q;rw[q,T]at e;have q':oc=p.2:=j1 e;show d Y (by rw[<-q'];show U)
def sW(I:aO X f g H s)(c:X.N.Nodup)(hi:X.N[i]?=some x)(d:Kw X.env.scope x)(r:aV v u)(h:∀a,aO X f (g.set i (some v)) H a->Q Unit.unit a)(e:X.fn x=true\/X.env.scope.names.lookup x=some .local:=by first|show .inl ()|show .inr ()|assumption):wpAny M A (storeName X.env x u) Q E s:=vZ I c hi d r (λa b _=>h a b) e
def aO.call'(I:aO X f g H s)(j:s'.os=s.os)(u:Un (jK X.stack) ch H B s.heap s'.heap)(hok:lC X.prog X.w B s'.heap)(hg:AllBare s'.gens)(a:∀b∈ch,(b∈X.ex\/X.s₀.heap.objs.size<=b)/\b≠X.env.locals/\(∀x c,X.env.cells.lookup x=some c->c≠b)/\∀p∈X.pn++f,p.1≠b):aO X f g B s':=by obtain⟨h',d,h,i,k⟩:=s';have e:k=s.os:=j;subst e;show I.call (g':=d) (t':=i) (d':=h) u hok hg a
end
abbrev XK:=Value->Option Addr->Hp->Prop
abbrev St:=List (Option V)
abbrev VK:=V->Hp->Prop
abbrev TE:=St->Hp->VK->Prop
abbrev TT:=St->Hp->(Bool->Hp->Prop)->Prop
abbrev TA:=St->Hp->(List V->Hp->Prop)->Prop
structure jP where
 nx:St->Hp->Prop
 rt:VK
 bk:St->Hp->Prop:=λ_ _=>False
 ct:St->Hp->Prop:=λ_ _=>False
abbrev TS:=jP->St->Hp->Prop
def EP(X:Cx)(a:O4)(c:St)(Q:VK)(u:Value)(d:Shared):Prop:=∃v b,aO X a c b d/\aV v u/\Q v b
def TP(X:Cx)(a:O4)(d:St)(Q:Bool->Hp->Prop)(b:Bool)(e:Shared):Prop:=∃c,aO X a d c e/\Q b c
def AP(X:Cx)(a:O4)(d:St)(Q:List V->Hp->Prop)(e:O6)(f:Shared):Prop:=∃b c,aO X a d c f/\a0 b e/\Q b c
def SP(X:Cx)(c:O4)(D:jP)(f:Flow)(d:Shared):Prop:=match f with|.next=>∃a b,aO X c a b d/\D.nx a b|.brk=>∃a b,aO X c a b d/\D.bk a b|.cont=>∃a b,aO X c a b d/\D.ct a b|.ret u=>∃v a b,aO X c a b d/\aV v u/\D.rt v b
def PE(X:Cx)(e:Expr)(t:TE):Prop:=∀(a:O4)(s:Shared)(b:St)(H:Hp)(Q:VK),aO X a b H s->t b H Q->wpAny (model X.prog X.w) X.A (eval e X.env) (EP X a b Q) X.xe s
def PT(X:Cx)(e:Expr)(t:TT):Prop:=∀(a:O4)(s:Shared)(b:St)(H:Hp)(Q:Bool->Hp->Prop),aO X a b H s->t b H Q->wpAny (model X.prog X.w) X.A (isTrue e X.env (eval e X.env)) (TP X a b Q) X.xe s
def PW(X:Cx)(e:Expr)(t:TT):Prop:=∀(b:Sem Value)(a:O4)(s:Shared)(c:St)(H:Hp)(Q:Bool->Hp->Prop),aO X a c H s->t c H Q->wpAny (model X.prog X.w) X.A (isTrue e X.env b) (TP X a c Q) X.xe s
def PW.pt(h:PW X e t):PT X e t:=h _
def PA(X:Cx)(es:O9)(t:TA):Prop:=∀(b:Pos)(a:O4)(s:Shared)(c:St)(H:Hp)(Q:List V->Hp->Prop),aO X a c H s->t c H Q->wpAny (model X.prog X.w) X.A (spliced (backTo b (starEach es X.env))) (AP X a c Q) X.xe s
def PS(X:Cx)(st:Stmt)(t:TS):Prop:=∀(a:O4)(s:Shared)(b:St)(H:Hp)(D:jP),aO X a b H s->t D b H->wpAny (model X.prog X.w) X.A (exec st X.env) (SP X a D) X.xe s
def u5(X:Cx)(st:List Stmt)(t:TS):Prop:=∀(a:O4)(s:Shared)(b:St)(H:Hp)(D:jP),aO X a b H s->t D b H->wpAny (model X.prog X.w) X.A (execs st X.env) (SP X a D) X.xe s
def cq(h:wpAny M A t Q E s)(c:∀a s,Q a s->d a s):wpAny M A t d E s:=wpAny_mono h c λ_ _ x=>x
section
variable{X:Cx}
def IC(i:Nat):TE:=λa H Q=>∃v,a[i]?=some (some v)/\Q v H
def tC(v:V):TE:=λ_ H Q=>Q v H
def Ju(j:X.N[i]?=some x)(n:MD X.env.scope x)(hd:(x==("__debug__":Str))=false:=by decide)(g:(x==("__classdict__":Str))=false:=by decide):PE X (.Name x f) (IC i):=by
 intro d s k H Q I h;obtain⟨v,e,h⟩:=h;obtain⟨m,hn,o⟩:=I.loc;obtain⟨u,r,l⟩:=o i x v j e n;have fin:EP X d k Q u s:=(v,H,I,r,h,);rcases l with⟨b,hm⟩|⟨b,c,hc,a⟩
 ·show wpAny_Name (wpAny_loadName_local I.ok.kind b hn hm fin) hd
 ·rcases b with b|b
  ·show wpAny_Name (wpAny_loadName_cell I.ok.kind b hc a fin) hd
  ·show wpAny_Name (wpAny_loadName_free I.ok.kind b hc a fin g) hd
def af{i j f}:PE X (.Constant (.int i) j f) (tC (.int i)):=λ_ _ _ H _ I h=>wpAny_Constant_int {.int i,H,I.tok _,{_,()},h}
def iB{b j f}:PE X (.Constant (.bool b) j f) (tC (.bl b)):=λ_ _ _ H _ I h=>Constant_bool {.bl b,H,I,(),h}
def nP{j f}:PE X (.Constant .none j f) (tC .non):=λ_ _ _ H _ I h=>Constant_none {.non,H,I,(),h}
def aF{x j f}:PE X (.Constant (.str x) j f) (tC (.str x)):=λ_ _ _ H _ I h=>Calls.Constant_str {.str x,H,I.tok _,{_,()},h}
def Gl(X:Cx)(x:Str):Prop:=X.env.kindOf x=some .globalImplicit
def mE(I:aO X a c H s)(hg:Gl X x)(hm:X.mg x=some u)(h:Q u s)(hd:(x==("__debug__":Str))=false:=by decide):wpAny (model X.prog X.w) X.A (eval (.Name x f) X.env) Q E s:=Calls.Name_function_global I.ok.kind hg (Calls.loadGlobal_global (by rw[I.ok.glob];show I.mod.glob.keeps I.bk) hm h) hd
def kS(I:aO X a d H s)(hg:Gl X x)(hm:X.mg x=none)(c:bootBuiltins x=some u)(h:Q u s)(hn:x≠"__name__":=by decide)(hd:(x==("__debug__":Str))=false:=by decide):wpAny (model X.prog X.w) X.A (eval (.Name x f) X.env) Q E s:=by obtain⟨b,h1,h2⟩:=I.mod.blt;show Calls.Name_function_global I.ok.kind hg (Calls.loadGlobal_builtin (by rw[I.ok.glob];show I.mod.glob.keeps I.bk) hm (by rw[I.ok.blt];show h1.keeps I.bk) ((h2 x hn).trans c) h) hd
def Bf(hg:Gl X x)(hm:X.mg x=some u)(r:aV v u)(hd:(x==("__debug__":Str))=false:=by decide):PE X (.Name x f) (tC v):=λ_ _ _ H _ I h=>mE I hg hm (v,H,I,r,h,) hd
def GJ{x:Str}{v:V}{u:Value}{f:Pos}(hg:Gl X x)(hm:X.mg x=none)(a:bootBuiltins x=some u)(r:aV v u)(hn:x≠"__name__":=by decide)(hd:(x==("__debug__":Str))=false:=by decide):PE X (.Name x f) (tC v):=λ_ _ _ H _ I h=>kS I hg hm a (v,H,I,r,h,) hn hd
variable{a b:Expr}{g p:TE}{f:Pos}
def PC(X:Cx)(h:CmpOp)(a b:Expr)(t:TE):Prop:=∀(c:O4)(s:Shared)(e:St)(H:Hp)(Q:VK),aO X c e H s->t e H Q->wpAny (model X.prog X.w) X.A (eval a X.env) (λv s₁=>wpAny (model X.prog X.w) X.A (eval b X.env) (λu d=>wpAny (model X.prog X.w) X.A (compareOp h v u) (EP X c e Q) X.xe d) X.xe s₁) X.xe s
def tB(t:TE):TT:=λd H Q=>t d H λx e=>∃c,x=.bl c/\Q c e
def nN(h:PC X i a b t)(h1:behindInMarks i b=false:=by first|show nobehind _ (by decide) (by decide)|rfl):PT X (.Compare a [i] [b] f) (tB t):=by intro e s j H Q I k;show wpAny_isTrue_Compare1 (cq (h e s j H _ I k) λv o h1=>cq h1 λu r h2=>cq h2 λc w⟨x,l,I1,m,n⟩=>?_) h1;obtain⟨d,rfl,q⟩:=n;cases m;show qq (l,I1,q,)
variable{n o:TT}{ql:O9}
def MN(t u:TT):TT:=λd H Q=>t d H λc e=>if c=true then u d e Q else Q false e
def tOr(t u:TT):TT:=λd H Q=>t d H λc e=>if c=true then Q true e else u d e Q
def MJ(t:TT):TT:=λd H Q=>t d H λc e=>Q (!c) e
def mB(i:PT X a n):PW X (.BoolOp .And [a] f) n:=by intro k d s j H Q I h;show isTrue_and (cq (i d s j H Q I h) λc l e=>?_);cases c with|true=>show isTrue_and_nil e|false=>show e
def dX(i:PT X a n):PW X (.BoolOp .Or [a] f) n:=by intro k d s j H Q I h;show isTrue_or (cq (i d s j H Q I h) λc l e=>?_);cases c with|false=>show isTrue_or_nil e|true=>show e
def qm(l:PT X a n)(m:PW X (.BoolOp .And (b::ql) f) o):PW X (.BoolOp .And (a::b::ql) f) (MN n o):=by intro k d s e H Q I h;show isTrue_and (cq (l d s e H _ I h) λc q r=>?_);obtain⟨i,I1,j⟩:=r;cases c with|true=>show m k d q e i Q I1 j|false=>show(i,I1,j,)
def fL(l:PT X a n)(m:PW X (.BoolOp .Or (b::ql) f) o):PW X (.BoolOp .Or (a::b::ql) f) (tOr n o):=by intro k d s e H Q I h;show isTrue_or (cq (l d s e H _ I h) λc q r=>?_);obtain⟨i,I1,j⟩:=r;cases c with|true=>show(i,I1,j,)|false=>show m k d q e i Q I1 j
def cp(e:PT X a n):PT X (.UnaryOp .Not a f) (MJ n):=by intro d s i H Q I h;show isTrue_not (e d s i H (λc j=>Q (!c) j) I h)
def Ld(g p:TE):TE:=λd H Q=>g d H λx e=>∃c,x=.bl c/\if c=true then p d e Q else Q (.bl false) e
def MI(g p:TE):TE:=λd H Q=>g d H λx e=>∃c,x=.bl c/\if c=true then Q (.bl true) e else p d e Q
def K5(g:TE):TE:=λd H Q=>g d H λx e=>∃c,x=.bl c/\Q (.bl (!c)) e
def dO{d}(h:PE X a t):PE X (.BoolOp d [a] f) t:=λc s e H Q I i=>BoolOp_one (h c s e H Q I i)
def cH(l:PE X a g)(m:PE X (.BoolOp .And (b::ql) f) p):PE X (.BoolOp .And (a::b::ql) f) (Ld g p):=by intro d s i H Q I h;show BoolOp_and (cq (l d s i H _ I h) λv k q=>?_);obtain⟨x,j,I1,r,e⟩:=q;obtain⟨c,rfl,e⟩:=e;cases r;show qq ?_;cases c with|true=>show m d k i j Q I1 e|false=>show{.bl false,j,I1,(),e}
def Lz(l:PE X a g)(m:PE X (.BoolOp .Or (b::ql) f) p):PE X (.BoolOp .Or (a::b::ql) f) (MI g p):=by intro d s i H Q I h;show BoolOp_or (cq (l d s i H _ I h) λv k q=>?_);obtain⟨x,j,I1,r,e⟩:=q;obtain⟨c,rfl,e⟩:=e;cases r;show qq ?_;cases c with|false=>show m d k i j Q I1 e|true=>show{.bl true,j,I1,(),e}
def DX(i:PE X a g):PE X (.UnaryOp .Not a f) (K5 g):=by intro d s j H Q I h;show UnaryOp_ (cq (i d s j H _ I h) λv q k=>?_);obtain⟨x,l,I1,m,e⟩:=k;obtain⟨c,rfl,e⟩:=e;cases m;show not_of (qq {.bl (!c),l,I1,(),e})
end
def aS(K:O2)(H:Hp)(a:Addr)(c:List V):Prop:=Rd H a (.lst c)\/∃(o:Obj)(b:O_)(n:Nat),K.lookup a=some o/\o.cls=.type "list"/\o.dict=none/\o.data=.seq b n/\b.size<=sizeLine/\a0 c b.toList
def aY(K:O2)(H:Hp)(a:Addr)(c:List V):Prop:=Rd H a (.tup c)\/∃(o:Obj)(b:O_)(n:Nat),K.lookup a=some o/\o.cls=.type "tuple"/\o.data=.seq b n/\b.size<=sizeLine/\a0 c b.toList
def M8:Value->Option V|.none=>some .non|.bool b=>some (.bl b)|.int i _=>some (.int i)|.str x _=>some (.str x)|.bytes b _=>some (.byt b)|.float b _=>some (.flt b)|.ref a=>some (.ref a)|.type n=>some (.ty n)|_=>none
def aV.abs(r:aV x u):M8 u=some x:=by cases x with|non=>cases r;rfl|bl _=>cases r;rfl|int _=>obtain⟨t,rfl⟩:=r;rfl|str _=>obtain⟨t,rfl⟩:=r;rfl|byt _=>obtain⟨t,rfl⟩:=r;rfl|flt _=>obtain⟨t,rfl⟩:=r;rfl|ref _=>cases r;rfl|ty _=>cases r;rfl
def aV.inj(r:aV x u)(q:aV y u):x=y:=j1 (r.abs.symm.trans q.abs)
theorem a0.inj:∀{a c:List V}{d:O6},a0 a d->a0 c d->a=c|_,_,_,.nil,.nil=>()|_,_,_,.cons r t,.cons b e=>by rw[r.inj b,a0.inj t e]
section
variable{X:Cx}{c:O4}{g:St}{H:Hp}{s:Shared}{a:Addr}{xs f:List V}
def aS.of{K:O2}(h:H a=some (.lst xs)):aS K H a xs:=.inl (.inl h)
def aY.of{K:O2}(h:H a=some (.tup xs)):aY K H a xs:=.inl (.inl h)
def aO.list(I:aO X c g H s)(h:aS X.K H a xs):∃d:List Value,a0 xs d/\PlainL s.heap a d.toArray/\xs.length<=sizeLine:=by
 rcases h with h|⟨o,d,n,b,hc,hd,i,j,r⟩
 ·obtain⟨z,d,n,r,e⟩:=h.ok I.hok;show{d,r,{_,n,e,(),(),()},z}
 ·show{d.toList,r,{o,n,I.kIn a o b,hc,hd,by simpa using i},?_};have e:=r.length;simp only[kw]at e;lia
def aO.tuple(I:aO X c g H s)(h:aY X.K H a xs):∃d:List Value,a0 xs d/\IsTup s.heap a d.toArray/\xs.length<=sizeLine:=by
 rcases h with h|⟨o,d,n,b,hc,i,j,r⟩
 ·obtain⟨z,d,r,p⟩:=h.ok I.hok;show(d,r,p,z,)
 ·show{d.toList,r,{o,I.kIn a o b,hc,n,by simpa using i},?_};have e:=r.length;simp only[kw]at e;lia
def aO.list_inj(I:aO X c g H s)(h:aS X.K H a xs)(h':aS X.K H a f):xs=f:=by
 obtain⟨i,r,⟨o,n,e,_,_,d⟩,_⟩:=I.list h;obtain⟨b,l,⟨p,q,j,_,_,k⟩,_⟩:=I.list h';rw[e]at j;cases j;rw[d]at k;injection k with m _;have:i=b:=by simpa using pa Array.toList m
 subst this;show r.inj l
def aO.tuple_inj(I:aO X c g H s)(h:aY X.K H a xs)(h':aY X.K H a f):xs=f:=by
 obtain⟨i,r,⟨o,e,_,n,d⟩,_⟩:=I.tuple h;obtain⟨b,l,⟨p,j,_,q,k⟩,_⟩:=I.tuple h';rw[e]at j;cases j;rw[d]at k;injection k with m _;have:i=b:=by simpa using pa Array.toList m
 subst this;show r.inj l
end
abbrev Cx.wish(X:Cx)(E:O3):Cx:={X with xe:=E}
abbrev Cx.nox(X:Cx):Cx:=X.wish λ_ _=>False
theorem Cx.Ok.wish{X:Cx}(ok:X.Ok)(E:O3):(X.wish E).Ok:=(ok.mod,ok.kind,ok.glob,ok.blt,ok.above,ok.inj,ok.has,ok.cab,ok.hd,ok.frames,ok.stk,ok.exf,ok.bs,ok.bsz,ok.noex,ok.exfs,ok.funs,ok.frf,)
def Cx.Ok.unwish{X:Cx}{E:O3}(ok:(X.wish E).Ok):X.Ok:=(ok.mod,ok.kind,ok.glob,ok.blt,ok.above,ok.inj,ok.has,ok.cab,ok.hd,ok.frames,ok.stk,ok.exf,ok.bs,ok.bsz,ok.noex,ok.exfs,ok.funs,ok.frf,)
section
variable{X:Cx}{a:O4}{c:St}{H:Hp}{s:Shared}{E:O3}
theorem aO.wish(I:aO X a c H s)(E:O3):aO (X.wish E) a c H s:={I.ok.wish E,I.os,I.bare,I.base,I.loc,I.cell,I.free,I.freeC,I.pin,I.hok,I.len}
theorem aO.unwish(I:aO (X.wish E) a c H s):aO X a c H s:=(I.ok.unwish,I.os,I.bare,I.base,I.loc,I.cell,I.free,I.freeC,I.pin,I.hok,I.len,)
theorem SP.unwish(h:SP (X.wish E) a D f e):SP X a D f e:=by cases f with|next=>obtain⟨b,d,I,q⟩:=h;show(b,d,I.unwish,q,)|brk=>obtain⟨b,d,I,q⟩:=h;show(b,d,I.unwish,q,)|cont=>obtain⟨b,d,I,q⟩:=h;show(b,d,I.unwish,q,)|ret u=>obtain⟨v,b,d,I,r,q⟩:=h;show(v,b,d,I.unwish,r,q,)
theorem u5.nox{st:List Stmt}{t:TS}(h:u5 X.nox st t):u5 X st t:=λa s c H D I b=>wpAny_mono (h a s c H D (I.wish _) b) (λ_ _ q=>q.unwish) λ_ _ z=>False.elim z
end
section
variable{X:Cx}{st:Stmt}{ql:List Stmt}{t u:TS}{e:Expr}{te:TE}{g:Pos}
def yi:TS:=λD a H=>D.nx a H
def zQ(t u:TS):TS:=λD a H=>t {D with nx:=u D} a H
def aE:u5 X [] yi:=λ_ _ a H _ I h=>NF (a,H,I,h,)
def ag(h1:PS X st t)(h2:u5 X ql u):u5 X (st::ql) (zQ t u):=by intro a s c H D I h;show OQ (cq (h1 a s c H {D with nx:=u D} I h) λf d q=>?_);cases f with|next=>obtain⟨b,i,j,q⟩:=q;show h2 a d b i D j q|ret v=>show q|brk=>show q|cont=>show q
def ah(h1:PS X st t):u5 X [st] t:=by intro a s b H D I h;show OQ (cq (h1 a s b H D I h) λf c q=>?_);cases f with|next=>show NF q|ret v=>show q|brk=>show q|cont=>show q
def aO.quiet(I:aO X a c H s):interactive X.env=false:=by simp[interactive,I.ok.kind]
def La(te:TE):TS:=λD a H=>te a H λ_ b=>D.nx a b
def aM(c:PE X e te)(d:swapsWith e none g.line X.env=pure false:=by rfl):PS X (.Expr e g) (La te):=by intro a s b H D I h;show wpAny_Expr_any (cq (c a s b H _ I h) λv j⟨x,f,I1,k,i⟩=>(b,f,I1,i,)) I.quiet d
def K3(te:TE):TS:=λD a H=>te a H D.rt
def ay(c:PE X e te):PS X (.Return (some e) g) (K3 te):=by intro a s b H D I h;show wpAny_Return_some (cq (c a s b H _ I h) λv k d=>?_);obtain⟨x,f,I1,i,j⟩:=d;show(x,b,f,I1,i,j,)
def FS(c:TT)(t u:TS):TS:=λD a H=>c a H λb d=>if b=true then t D a d else u D a d
def aN(hc:PT X c tc)(m:u5 X a t)(n:u5 X b u):PS X (.If c a b g) (FS tc t u):=by intro f s i H D I h;show wpAny_If (cq (hc f s i H _ I h) λd j o=>?_);obtain⟨k,I1,l⟩:=o;cases d with|true=>show m f j i k D I1 l|false=>show n f j i k D I1 l
def IE:TS:=λ_ _ _=>False
def ce:PS X st IE:=λ_ _ _ _ _ _ h=>h.elim
end
abbrev TG:=V->St->Hp->(St->Hp->Prop)->Prop
abbrev KN:=List V->St->Hp->(St->Hp->Prop)->Prop
def PG(X:Cx)(a:Expr)(t:TG):Prop:=∀(b:O4)(s:Shared)(d:St)(H:Hp)(v:V)(u:Value)(Q:St->Hp->Prop),aO X b d H s->aV v u->t v d H Q->wpAny (model X.prog X.w) X.A (assign a X.env u) (λ_ f=>∃c e,aO X b c e f/\Q c e) X.xe s
def Ku(X:Cx)(g:O9)(t:KN):Prop:=∀(a:O4)(s:Shared)(c:St)(H:Hp)(d:List V)(e:O6)(Q:St->Hp->Prop),aO X a c H s->a0 d e->t d c H Q->wpAny (model X.prog X.w) X.A (assignInOrder ((assignEach g X.env).map (·.2)) e) (λ_ h=>∃b f,aO X a b f h/\Q b f) X.xe s
abbrev HE:=V->V->V->Hp->(Hp->Prop)->Prop
def HI(X:Cx)(t:HE):Prop:=∀(a:O4)(s:Shared)(b:St)(H:Hp)(o i v:V)(c iv u:Value)(Q:Hp->Prop),aO X a b H s->aV o c->aV i iv->aV v u->t o i v H Q->wpAny (model X.prog X.w) X.A (setItem c iv u) (λ_ e=>∃d,aO X a b d e/\Q d) X.xe s
section
variable{X:Cx}{c:Pos}
def ky(i:Nat):TG:=λv a H Q=>Q (a.set i (some v)) H
def xo(d:X.N.Nodup)(hi:X.N[i]?=some x)(e:Kw X.env.scope x)(f:X.fn x=true\/X.env.scope.names.lookup x=some .local:=by first|show .inl ()|show .inr ()|assumption):PG X (.Name x c) (ky i):=by intro a s g H v u Q I r h;show wpAny_assign_Name (sW I d hi e r (λj b=>{_,H,b,h}) f)
def L8:KN:=λa b H Q=>a=[]/\Q b H
def EX(t:TG)(u:KN):KN:=λb d H Q=>∃v r,b=v::r/\t v d H λa e=>u r a e Q
def fq:Ku X [] L8:=by intro a s b H d f Q I r h;obtain⟨e,h⟩:=h;subst e;cases r;show assignInOrder_nil (b,H,I,h,)
def bh(h1:PG X e t)(h2:Ku X es u)(d:(assignEach (e::es) X.env).map (·.2)=assign e X.env::(assignEach es X.env).map (·.2):=by rfl):Ku X (e::es) (EX t u):=by intro a s f H n o Q I r h;obtain⟨v,p,g,h⟩:=h;subst g;cases r with|cons r i=>rw[d];show assignInOrder_cons (cq (h1 a s f H _ _ _ I r h) λ_ j k=>?_);obtain⟨b,l,I1,m⟩:=k;show h2 a j b l _ _ Q I1 i m
def J7(K:O2)(n:Nat)(t:KN):TG:=λv d H Q=>∃a b,v=.ref a/\aY K H a b/\b.length=n/\t b d H Q
def Jt(hc:X.calm=true)(h:Ku X es t)(hn:(assignEach es X.env).length=n:=by rfl)(f:(assignEach es X.env).findIdx? (·.1)=none:=by rfl):PG X (.Tuple es k c) (J7 X.K n t):=by intro d s i H v u Q I r g;obtain⟨a,l,m,p,q,g⟩:=g;subst m;cases r;obtain⟨w,j,x,z⟩:=I.tuple p;show assign_Tuple_tuple (I.ok.hd hc) x (by simp[hn,<-q,j.length]) f λh' y=>?_;have I1:aO X d i H {s with heap:=h'}:=I.kept (t':=s.toks) λb o e=>y b o (ir (hY e)) e;show h d _ i H l _ Q I1 (by simpa using j) g
def M5(d e:TE)(t:HE):TG:=λv a H Q=>d a H λo b=>e a b λi f=>t o i v f λg=>Q a g
def kP(f:PE X o g)(hi:PE X i j)(l:HI X t)(m:∀v,assign (.Subscript o i c) X.env v=(do
   let d<-holding [v] (eval o X.env)let iv<-holding [v,d] (eval i X.env)standAt c
   holding [v,d,iv] (setItem d iv v)release [v,d,iv] []):=by intro _;rfl):PG X (.Subscript o i c) (M5 g j t):=by intro a s e H v u Q I r h;rw[m];show a_ (oa (cq (f a s e H _ I h) λd k b=>?_));obtain⟨x,n,I1,p,q⟩:=b;show a_ (oa (cq (hi a k e n _ I1 q) λiv w b=>?_));obtain⟨y,z,A,r2,B⟩:=b;show a_ (wpAny_standAt (a_ (oa (cq (l a w e z x y v d iv u _ A p r2 r B) λ_ F b=>?_))));obtain⟨C,D,E⟩:=b;show wpAny_release (e,C,D,E,)
def yj(te:TE)(g:TG):TS:=λD a H=>te a H λx b=>g x a b D.nx
def kO(f:PE X e te)(hg:PG X d g)(i:swapsWithSole [d] e c.line X.env=pure false:=by rfl)(j:swappedStores [d] e X.env=pure none:=by rfl)(h1:(assignEach [d] X.env).map (·.2)=[assign d X.env]:=by rfl):PS X (.Assign [d] e c) (yj te g):=by intro a s b H D I h;show wpAny_Assign_stores (cq (f a s b H _ I h) λv k⟨x,l,I1,m,n⟩=>?_) i j;rw[h1];show cq (hg a k b l x v _ I1 m n) λ_ o q=>q
def ua(d:X.N.Nodup)(hi:X.N[i]?=some x)(f:Kw X.env.scope x)(g:PE X e te)(j:swapsWith e (some (.Name x a)) c.line X.env=pure false:=by rfl)(l:X.fn x=true\/X.env.scope.names.lookup x=some .local:=by first|show .inl ()|show .inr ()|assumption):PS X (.Assign [.Name x a] e c) (yj te (ky i)):=by intro b s k H D I h;show wpAny_Assign_Name (cq (g b s k H _ I h) λv q⟨y,m,I1,n,o⟩=>?_) j;show sW I1 d hi f n (λr p=>{_,m,p,o}) l
end
structure It where
 go:Nat->Hp->Prop
 yld:Nat->Hp->V->Hp->Prop
 stop:Nat->Hp->Prop
def vQ(X:Cx)(a:O4)(H:Hp)(b:Addr):Prop:=H b=none/\b≠X.env.locals/\b∉X.fs/\(b∈X.ex\/X.s₀.heap.objs.size<=b)/\(∀x c,X.env.cells.lookup x=some c->c≠b)/\∀p∈X.pn++a,p.1≠b
def aO.fpOk(I:aO X a h H s)(d:s.heap.objs.size<=b)(hn:f b=none):vQ X a f b:=by
 show{hn,n_ (me I.lt d),I.nofs d,.inr (iA I.sz d),λx c e z=>?_,λp g z=>?_}
 ·obtain⟨v,q⟩:=I.cell x c e;show absurd (me q.lt (by rw[z];show d)) (o_ _)
 ·show absurd (me (hY (I.pin p g).1) (by rw[z];show d)) (o_ _)
structure vN(P:O7)(w:World)(K:O2)(tg:Expr)(J:It)(fp:Pb)(it:Addr)(tn:Nat->Heap->Prop):Prop where
 mem:it∈fp
 obj:∀i h,tn i h->∀b∈fp,∃o,h.get? b=some o/\∀v,o.data≠.cell v
 keep:∀i h h',tn i h->(∀b∈fp,∀o,h.get? b=some o->h'.get? b=some o)->tn i h'
 item:∀(X:Cx),X.prog=P->X.w=w->X.K=K->X.calm=true->∀(i:Nat)(pins:O4)(s:Shared)(σ:St)(H:Hp)(E:O3),aO X pins σ H s->(∀b∈fp,vQ X pins H b)->tn i s.heap->J.go i H->wpAny (model P w) X.A (pyNext (.ref it)) (λr s1=>∃u,r=some u/\wpAny (model P w) X.A (letOwnedTupleGo tg (.ref it) u) (λ_ s2=>∃x H',aO X pins σ H' s2/\aV x u/\J.yld i H x H'/\tn (i+1) s2.heap/\∀b∈fp,H' b=none) E s1) E s
 done:∀(X:Cx),X.prog=P->X.w=w->X.K=K->X.calm=true->∀(i:Nat)(pins:O4)(s:Shared)(σ:St)(H:Hp)(E:O3),aO X pins σ H s->(∀b∈fp,vQ X pins H b)->tn i s.heap->J.stop i H->wpAny (model P w) X.A (pyNext (.ref it)) (λr s1=>r=none/\aO X pins σ H s1) E s
 self:∀(A:Around)(i:Nat)(s:Shared)(Q:O3)(E:O3),tn i s.heap->Q (.ref it) s->wpAny (model P w) A (pyIter (.ref it)) Q E s
abbrev TI:=St->Hp->(It->Hp->Prop)->Prop
def Nb(X:Cx)(a:O4)(g:St)(h:Expr)(R:It->Hp->Prop)(c:Value)(e:Shared):Prop:=∃(f:Addr)(fp:Pb)(tn:Nat->Heap->Prop)(J:It)(d:Hp),c=.ref f/\aO X a g d e/\vN X.prog X.w X.K h J fp f tn/\tn 0 e.heap/\(∀b∈fp,vQ X a d b)/\R J d
def PI(X:Cx)(c iter:Expr)(d:TI):Prop:=∀(a:O4)(s:Shared)(b:St)(H:Hp)(R:It->Hp->Prop),aO X a b H s->d b H R->wpAny (model X.prog X.w) X.A (eval iter X.env) (λv e=>wpAny (model X.prog X.w) X.A (pyIter v) (Nb X a b c R) X.xe e) X.xe s
def wI(c:s.heap.get? d=some o)(hc:o.cls=.type n)(hd:o.data=.fields e)(hn:["enumerate","zip","dict_itemiterator","dict_reverseitemiterator","odict_iterator","itertools.zip_longest","itertools.pairwise"].contains n=false)(a:Q Unit.unit s):wpAny M A (letOwnedTupleGo f (.ref d) u) Q E s:=by unfold letOwnedTupleGo;cases f<;>first|show fx a|(cases u<;>first
 |show fx a
    |(show a_ (wpAny_load c ?_)
      rw[hc,hd];change wpAny M A (if(["enumerate","zip","dict_itemiterator","dict_reverseitemiterator","odict_iterator","itertools.zip_longest","itertools.pairwise"].contains n&&e[0]?==some (rawInt _))=true then _ else _) Q E s;rw[g_ (by intro h;rw[hn,Bool.false_and]at h;cases h)];show fx a))
def Ip(K:O2)(a:Addr):It:={λi H=>∃b x,aS K H a b/\b[i]?=some x,λi H x c=>c=H/\∀b,aS K H a b->b[i]?=some x,λi H=>∃b,aS K H a b/\b.length<=i}
def Io(K:O2)(a:Addr):It:={λi H=>∃b x,aY K H a b/\b[i]?=some x,λi H x c=>c=H/\∀b,aY K H a b->b[i]?=some x,λi H=>∃b,aY K H a b/\b.length<=i}
def FK(lo:Int)(n:Nat):It:={λi _=>i<n,λi H x a=>a=H/\x=.int (lo+i),λi _=>n<=i}
def BK{P:O7}{w:World}{K:O2}{J:Expr}(a g:Addr):vN P w K J (Ip K a) [g] g (λi h=>h.IsListIter g a i)where
 mem:=by simp
 obj:=λi h st b j=>by
  have e:b=g:=by simpa using j
  subst e;obtain⟨o,e,c,d⟩:=st;show{o,e,λv z=>by rw[d]at z;cases z}
 keep:=λi h h' st k=>st.at λo e=>k g (by simp) o e
 item:=by intro X q r t hc i f s G H E I m st hg;subst q r t;obtain⟨L,x,n,y⟩:=hg;obtain⟨A,B,p,M⟩:=I.list n;obtain⟨u,N,ru⟩:=B.get y;obtain⟨C,f1,f2,f3,D,F⟩:=m g (by simp);show wpAny_pyNext_list_item st p.isList (x:=u) (by simpa using N) λh' l O=>?_;have I1:aO X f G H {s with heap:=h'}:=I.turned (t':=s.toks) (λb o j e=>(O.2 b j).trans e) C f1 f3 D F;obtain⟨o,e,c,d⟩:=id l;show{u,(),wI (s:={s with heap:=h'}) e c d (by decide) {x,H,I1,ru,{(),λT R=>by rw[I.list_inj R n];show y},l,λb j=>(m b j).1}}
 done:=by intro X q r t hc i f s G H E I m st hg;subst q r t;obtain⟨L,n,y⟩:=hg;obtain⟨A,B,p,M⟩:=I.list n;obtain⟨C,f1,f2,f3,D,F⟩:=m g (by simp);have U:=B.length;show wpAny_pyNext_list_end (I.ok.hd hc) st p.isList (by simp;lia) λh' S=>{(),I.turned (t':=s.toks) (λb o j e=>S b o j e) C f1 f3 D F}
 self:=λ_ _ _ _ _ st h=>wpAny_pyIter_listiter st h
def zN{P:O7}{w:World}{K:O2}{J:Expr}(a g:Addr):vN P w K J (Io K a) [g] g (λi h=>h.IsTupleIter g a i)where
 mem:=by simp
 obj:=λi h st b j=>by
  have e:b=g:=by simpa using j
  subst e;obtain⟨o,e,c,d⟩:=st;show{o,e,λv z=>by rw[d]at z;cases z}
 keep:=λi h h' st k=>st.at λo e=>k g (by simp) o e
 item:=by intro X r t y hc i f s G H E I n st hg;subst r t y;obtain⟨L,x,q,A⟩:=hg;obtain⟨l,B,p,M⟩:=I.tuple q;obtain⟨u,N,ru⟩:=B.get A;obtain⟨C,f1,f2,f3,D,F⟩:=n g (by simp);show wpAny_pyNext_tuple_item st (show s.heap.IsTuple a l.toArray from p) (x:=u) (by simpa using N) λh' m O=>?_;have I1:aO X f G H {s with heap:=h'}:=I.turned (t':=s.toks) (λb o j e=>(O.2 b j).trans e) C f1 f3 D F;obtain⟨o,e,c,d⟩:=id m;show{u,(),wI (s:={s with heap:=h'}) e c d (by decide) {x,H,I1,ru,{(),λT R=>by rw[I.tuple_inj R q];show A},m,λb j=>(n b j).1}}
 done:=by intro X r t y hc i f s G H E I n st hg;subst r t y;obtain⟨L,q,A⟩:=hg;obtain⟨l,B,p,M⟩:=I.tuple q;obtain⟨C,f1,f2,f3,D,F⟩:=n g (by simp);have U:=B.length;show wpAny_pyNext_tuple_end (I.ok.hd hc) st (show s.heap.IsTuple a l.toArray from p) (by simp;lia) λh' S=>{(),I.turned (t':=s.toks) (λb o j e=>S b o j e) C f1 f3 D F}
 self:=λ_ _ _ _ _ st h=>wpAny_pyIter_tupleiter st h
def zO{P:O7}{w:World}{K:O2}{x:Expr}(a:Addr)(lo:Int)(n:Nat):vN P w K x (FK lo n) [a] a (λi h=>IsRangeIter h a (lo+(i:Nat)*1) ((n:Int)-(i:Nat)) 1)where
 mem:=by simp
 obj:=λi h st b d=>by
  have e:b=a:=by simpa using d
  subst e;show{_,st,λv z=>by have y:Data.fields _=Data.cell v:=z;cases y}
 keep:=λi h h' st k=>k a (by simp) _ st
 item:=by intro X j l m hc i c s u H E I g st hg;subst j l m;obtain⟨p,f1,f2,f3,q,r⟩:=g a (by simp);have W:=Walks.range (prog:=X.prog) (w:=X.w) (I.ok.hd hc) a lo 1 n;show W.item i s _ _ hg st λv h' tk A f B=>?_;obtain⟨t,rfl⟩:=A;have I1:aO X c u H {s with heap:=h',toks:=tk}:=I.turned (λb o d e=>B b o (by simpa using d) e) p f1 f3 q r;show{_,(),wI (s:={s with heap:=h',toks:=tk}) (n:="range_iterator") f () () (by decide) {.int (lo+i),H,I1,{t,?_},{(),()},f,λb d=>(g b d).1}};rw[Int.mul_one]
 done:=by intro X j l m hc i c s u H E I g st hg;subst j l m;obtain⟨p,f1,f2,f3,q,r⟩:=g a (by simp);show wpAny_pyNext_range_end (I.ok.hd hc) st (by have:n<=i:=hg;lia) λh' C=>{(),I.turned (t':=s.toks) (λb o d e=>C b o d e) p f1 f3 q r}
 self:=λ_ _ _ _ _ st h=>wpAny_pyIter_rangeiter st h
section
variable{X:Cx}{c:Expr}
def HX(K:O2)(tl:TE):TI:=λd H R=>tl d H λx b=>∃a,x=.ref a/\(∃e,aS K b a e)/\R (Ip K a) b
def LZ(K:O2)(tl:TE):TI:=λd H R=>tl d H λx b=>∃a,x=.ref a/\(∃e,aY K b a e)/\R (Io K a) b
def GE{l:Expr}{tl:TE}(g:PE X l tl):PI X c l (HX X.K tl):=by
 intro d s i H R I h;show cq (g d s i H _ I h) λv f j=>?_;obtain⟨x,k,I1,m,n⟩:=j;obtain⟨a,e,⟨w,r⟩,q⟩:=n;subst e;cases m;obtain⟨t,y,p,z⟩:=I1.list r;show NU p.isList ?_;show{f.heap.objs.size,[f.heap.objs.size],_,_,k,(),I1.kept (t':=f.toks) λb o e=>c_ _ e,BK a _,{_,gg _ (),(),()},λb u=>?_,q};have e:b=f.heap.objs.size:=by simpa using u
 subst e;show I1.fpOk (e_ _) (I1.hok.fresh (e_ _))
def Js{l:Expr}{tl:TE}(i:PE X l tl):PI X c l (LZ X.K tl):=by
 intro d s j H R I h;show cq (i d s j H _ I h) λv f k=>?_;obtain⟨x,m,I1,n,r⟩:=k;obtain⟨a,e,⟨w,t⟩,q⟩:=r;subst e;cases n;obtain⟨g,y,p,z⟩:=I1.tuple t;show Nk (show f.heap.IsTuple a g.toArray from p) ?_;show{f.heap.objs.size,[f.heap.objs.size],_,_,m,(),I1.kept (t':=f.toks) λb o e=>c_ _ e,zN a _,{_,gg _ (),(),()},λb u=>?_,q};have e:b=f.heap.objs.size:=by simpa using u
 subst e;show I1.fpOk (e_ _) (I1.hok.fresh (e_ _))
def yG{a:O4}{d:St}{H:Hp}{s:Shared}{R:It->Hp->Prop}{E:O3}{lo hi:Int}{t u v:Tok}{tk:Nat}(I:aO X a d H s)(h1:-(2^62)<=lo)(h2:lo<2^62)(h3:-(2^62)<=hi)(h4:hi<2^62)(q:R (FK lo (hi-lo).toNat) H):wpAny (model X.prog X.w) X.A (pyIter (.ref s.heap.objs.size)) (Nb X a d c R) E {s with heap:=s.heap.push {cls:=.type "range",data:=.fields #[.int lo t,.int hi u,.int 1 v]},toks:=tk}:=by
 show wpAny_pyIter_range (IsRange.new ..) (small_one h1 h2 h3 h4) ?_;have I1:aO X a d H {s with heap:=s.heap.push {cls:=.type "range",data:=.fields #[.int lo t,.int hi u,.int 1 v]},toks:=tk}:=I.kept λb o e=>c_ _ e;show{(s.heap.push {cls:=.type "range",data:=.fields #[.int lo t,.int hi u,.int 1 v]}).objs.size,[(s.heap.push {cls:=.type "range",data:=.fields #[.int lo t,.int hi u,.int 1 v]}).objs.size],_,_,H,(),I1.kept (t':=tk) λb o e=>c_ _ e,zO _ lo (hi-lo).toNat,?_,λb f=>?_,q}
 ·have g:lo+((0:Nat):Int)*1=lo:=by simp
  have h:(((hi-lo).toNat:Nat):Int)-((0:Nat):Int)=Builtin.Range.rangeSize lo hi 1:=by rw[rangeSize_one];split<;>lia
  change IsRangeIter _ _ (lo+((0:Nat):Int)*1) ((((hi-lo).toNat:Nat):Int)-((0:Nat):Int)) 1;rw[g,h];show gg _ ()
 ·have e:b=(s.heap.push {cls:=.type "range",data:=.fields #[.int lo t,.int hi u,.int 1 v]}).objs.size:=by simpa using f
  subst e;show I1.fpOk (e_ _) (I1.hok.fresh (e_ _))
def L1(a:TA):TI:=λb H R=>a b H λd e=>∃j:Int,d=[.int j]/\-(2^62)<=j/\j<2^62/\R (FK 0 j.toNat) e
def L0(a:TA):TI:=λb H R=>a b H λd e=>∃i j:Int,d=[.int i,.int j]/\(-(2^62)<=i/\i<2^62/\-(2^62)<=j/\j<2^62)/\R (FK i (j-i).toNat) e
def dq{a:Expr}{g:TA}{p d:Pos}(hg:Gl X "range")(hm:X.mg "range"=none)(i:PA X [a] g)(l:starEach [a] X.env=[(false,eval a X.env)]:=by rfl):PI X c (.Call (.Name "range" p) [a] [] d) (L1 g):=by intro b s k H R I h;show Call_ (kS I hg hm boot_range (x3 (cq (i d b s k H _ I h) λu v⟨w,x,I1,m,f⟩=>?_) l ()));obtain⟨j,e,f,n,q⟩:=f;subst e;cases m with|cons r o=>cases o;obtain⟨t,rfl⟩:=r;show call_range_1 (yG I1 (by lia) (by lia) f n (by simpa using q))
def wk(hg:Gl X "range")(hm:X.mg "range"=none)(m:PA X [a,b] n)(o:starEach [a,b] X.env=[(false,eval a X.env),(false,eval b X.env)]:=by rfl)(d:starEach [b] X.env=[(false,eval b X.env)]:=by rfl):PI X c (.Call (.Name "range" p) [a,b] [] g) (L0 n):=by intro f s u H R I h;show Call_ (kS I hg hm boot_range (x3 (cq (m g f s u H _ I h) λA B⟨C,D,I1,v,k⟩=>?_) (by rw[o,d]) (by rw[d];rfl)));obtain⟨i,j,e,⟨k,w,x,y⟩,q⟩:=k;subst e;cases v with|cons r l=>cases l with|cons z l=>cases l;obtain⟨t,rfl⟩:=r;obtain⟨E,rfl⟩:=z;show call_range_2 (yG I1 k w x y q)
def ML(h:TI)(g:TG)(j:TS):TS:=λD a H=>h a H λJ k=>∃W:Nat->Nat->St->Hp->Prop,(∃m,W 0 m a k)/\∀i m a H,W i m a H->(J.stop i H/\D.nx a H)\/(J.go i H/\∃N:St->Hp->Prop,(∀b d,N b d->∃f,f<m/\W (i+1) f b d)/\∀x d,J.yld i H x d->g x a d λe l=>j {D with nx:=N,ct:=N,bk:=D.nx} e l)
def uc(fp:Pb)(h:Heap):List (Addr×Obj):=fp.filterMap λb=>(h.get? b).map λo=>(b,o)
def kQ(a:b∈fp)(e:h.get? b=some o):(b,o)∈uc fp h:=NP.mpr {b,a,by rw[e];rfl}
def Cj(a:p∈uc fp h):p.1∈fp/\h.get? p.1=some p.2:=by obtain⟨b,d,e⟩:=NP.mp a;cases q:h.get? b with|none=>rw[q]at e;cases e|some o=>rw[q]at e;have f:(b,o)=p:=j1 e;subst f;show(d,q,)
def aO.pinned(I:aO X a h H s)(i:∀b∈fp,vQ X a H b)(j:∀b∈fp,∃o,s.heap.get? b=some o/\∀v,o.data≠.cell v):aO X (a++uc fp s.heap) h H s:=I.pins_of λp k=>(List.mem_append.mp k).elim (λz=>I.pin p (mu _ z)) λz=>by obtain⟨f,e⟩:=Cj z;obtain⟨l,f1,f2,_⟩:=i p.1 f;obtain⟨o,g,d⟩:=j p.1 f;rw[e]at g;cases g;show(e,l,f1,f2,d,)
def aO.unpinned(I:aO X (a++pl) d H s):aO X a d H s:=I.pins_of λp b=>I.pin p (mu _ (np _ b))
def dN(E:PassesOwn (model X.prog X.w) X.A X.env X.xe)(hc:X.calm=true)(hi:PI X c iter wi)(hg:PG X c g)(l:u5 X F tb)(hs:∀x,foldedSetIterable iter X.env x=pure x:=by intro _;rfl):PS X (.For c iter F [] aa) (ML wi g tb):=by
 intro a s Z H D I h;show wpAny_For (cq (hi a s Z H _ I h) λv s1 h1=>cq h1 λad s2 h2=>?_) hs;obtain⟨it,fp,tn,J,H2,e,I2,T,P,f2,W,⟨m0,w0⟩,G⟩:=h2;subst e;have k:∀{z:Hp},(∀b∈fp,z b=none)->∀b∈fp,vQ X a z b:=λhn b l=>{hn b l,(f2 b l).2};show codeAny_forLoop_any (λn s'=>∃i p z,aO X a p z s'/\tn i s'.heap/\(∀b∈fp,z b=none)/\W i n p z) ?_ m0 {0,Z,H2,I2,P,λb l=>(f2 b l).1,w0};rintro n s3⟨i,q,O,I3,K,L,w3⟩;rcases G i n q O w3 with⟨stop,qn⟩|⟨go,N,hN,step⟩
 ·show NE E (cq (T.done X () () () hc i a s3 q O X.xe I3 (k L) K stop) λr s4⟨Q,I4⟩=>?_);subst Q;show NF (q,O,I4,qn,)
 ·show NE E (cq (T.item X () () () hc i a s3 q O X.xe I3 (k L) K go) λr s4⟨u,Q,h4⟩=>?_);subst Q;show NE E (cq h4 λ_ s5 R=>?_);obtain⟨x,H5,I5,r5,y5,C,S⟩:=R;have U:=I5.pinned (k S) (T.obj _ _ C);show NE E (cq (hg _ s5 q H5 x u _ U r5 (step x H5 y5)) λ_ s6 R=>?_);obtain⟨V,H6,I6,q6⟩:=R;show NE E (cq (l _ s6 V H6 _ I6 q6) λf Y B=>?_);have again:∀{j:St}{t:Hp},aO X (a++uc fp s5.heap) j t Y->N j t->∃m,m<n/\∃i p z,aO X a p z Y/\tn i Y.heap/\(∀b∈fp,z b=none)/\W i m p z:=λ{j t}y M=>by obtain⟨m',hm,w7⟩:=hN j t M;show{m',hm,i+1,j,t,y.unpinned,T.keep _ _ _ C λb l o e=>(y.pin (b,o) (mu _ (mu _ (kQ l e)))).1,λb l=>?_,w7};obtain⟨o,e,d⟩:=T.obj _ _ C b l;show(y.pin (b,o) (mu _ (mu _ (kQ l e)))).2.1
  cases f with|next=>obtain⟨j,t,y,M⟩:=B;show again y M|cont=>obtain⟨j,t,y,M⟩:=B;show again y M|brk=>obtain⟨j,t,y,B⟩:=B;show(j,t,y.unpinned,B,)|ret v=>obtain⟨x7,j,t,y,r7,B⟩:=B;show(x7,j,t,y.unpinned,r7,B,)
end
def pP{K:O2}{a:Addr}{xs:List V}{g:TG}{tb:TS}{D:jP}{c:St}{H:Hp}(Pv:Nat->St->Hp->Prop)(h0:Pv 0 c H)(n:∀i c H,i<=xs.length->Pv i c H->aS K H a xs)(o:∀i x c H,xs[i]?=some x->Pv i c H->g x c H λd j=>tb {D with nx:=Pv (i+1),ct:=Pv (i+1),bk:=D.nx} d j)(hd:∀c H,Pv xs.length c H->D.nx c H):∃W:Nat->Nat->St->Hp->Prop,(∃m,W 0 m c H)/\∀i m c H,W i m c H->((Ip K a).stop i H/\D.nx c H)\/((Ip K a).go i H/\∃N:St->Hp->Prop,(∀f h,N f h->∃l,l<m/\W (i+1) l f h)/\∀x h,(Ip K a).yld i H x h->g x c h λd j=>tb {D with nx:=N,ct:=N,bk:=D.nx} d j):=by
 show{λi m c H=>m=xs.length-i/\i<=xs.length/\Pv i c H,{xs.length,by simp,ku _,h0},?_};rintro i m c H⟨rfl,hi,p⟩;have q:=n i c H hi p
 by_cases b:i<xs.length
 ·show .inr {{xs,xs[i],q,by simp[b]},Pv (i+1),λf h k=>{xs.length-(i+1),by lia,(),b,k},λx h y=>?_};obtain⟨e,y⟩:=y;subst e;show o i x c _ (y xs q) p
 ·have e:i=xs.length:=by lia
  subst e;show .inl {{xs,q,e_ _},hd c H p}
def Hl{K:O2}{a:Addr}{xs:List V}{g:TG}{l:TS}{D:jP}{c:St}{H:Hp}(Pv:Nat->St->Hp->Prop)(h0:Pv 0 c H)(o:∀i c H,i<=xs.length->Pv i c H->aY K H a xs)(r:∀i x c H,xs[i]?=some x->Pv i c H->g x c H λd j=>l {D with nx:=Pv (i+1),ct:=Pv (i+1),bk:=D.nx} d j)(hd:∀c H,Pv xs.length c H->D.nx c H):∃W:Nat->Nat->St->Hp->Prop,(∃m,W 0 m c H)/\∀i m c H,W i m c H->((Io K a).stop i H/\D.nx c H)\/((Io K a).go i H/\∃N:St->Hp->Prop,(∀f h,N f h->∃n,n<m/\W (i+1) n f h)/\∀x h,(Io K a).yld i H x h->g x c h λd j=>l {D with nx:=N,ct:=N,bk:=D.nx} d j):=by
 show{λi m c H=>m=xs.length-i/\i<=xs.length/\Pv i c H,{xs.length,by simp,ku _,h0},?_};rintro i m c H⟨rfl,hi,p⟩;have q:=o i c H hi p
 by_cases b:i<xs.length
 ·show .inr {{xs,xs[i],q,by simp[b]},Pv (i+1),λf h k=>{xs.length-(i+1),by lia,(),b,k},λx h y=>?_};obtain⟨e,y⟩:=y;subst e;show r i x c _ (y xs q) p
 ·have e:i=xs.length:=by lia
  subst e;show .inl {{xs,q,e_ _},hd c H p}
def mI{lo:Int}{n:Nat}{g:TG}{tb:TS}{D:jP}{a:St}{H:Hp}(Pv:Nat->St->Hp->Prop)(h0:Pv 0 a H)(l:∀i a H,i<n->Pv i a H->g (.int (lo+i)) a H λc h=>tb {D with nx:=Pv (i+1),ct:=Pv (i+1),bk:=D.nx} c h)(hd:∀a H,Pv n a H->D.nx a H):∃W:Nat->Nat->St->Hp->Prop,(∃m,W 0 m a H)/\∀i m a H,W i m a H->((FK lo n).stop i H/\D.nx a H)\/((FK lo n).go i H/\∃N:St->Hp->Prop,(∀d f,N d f->∃j,j<m/\W (i+1) j d f)/\∀x f,(FK lo n).yld i H x f->g x a f λc h=>tb {D with nx:=N,ct:=N,bk:=D.nx} c h):=by
 show{λi m a H=>m=n-i/\i<=n/\Pv i a H,{n,by simp,ku _,h0},?_};rintro i m a H⟨rfl,hi,p⟩
 by_cases b:i<n
 ·show .inr {b,Pv (i+1),λd f k=>{n-(i+1),by lia,(),b,k},λx f y=>?_};obtain⟨e,y⟩:=y;subst e y;show l i a _ b p
 ·have e:i=n:=by lia
  subst e;show .inl {e_ _,hd a H p}
abbrev R2:=V->V->Hp->VK->Prop
def lx(X:Cx)(f:Value->Value->Sem Value)(r:R2):Prop:=∀(a:O4)(s:Shared)(b:St)(H:Hp)(x y:V)(v u:Value)(Q:VK),aO X a b H s->aV x v->aV y u->r x y H Q->wpAny (model X.prog X.w) X.A (f v u) (EP X a b Q) X.xe s
def M9(X:Cx)(f:Value->Sem Value)(r:V->Hp->VK->Prop):Prop:=∀(a:O4)(s:Shared)(b:St)(H:Hp)(x:V)(v:Value)(Q:VK),aO X a b H s->aV x v->r x H Q->wpAny (model X.prog X.w) X.A (f v) (EP X a b Q) X.xe s
def df(X:Cx)(f:Value)(r:List V->Hp->VK->Prop):Prop:=∀(a:O4)(s:Shared)(b:St)(H:Hp)(c:List V)(d:O6)(Q:VK),aO X a b H s->a0 c d->r c H Q->wpAny (model X.prog X.w) X.A (call f d) (EP X a b Q) X.xe s
def Na(X:Cx)(r:V->Hp->(Bool->Hp->Prop)->Prop):Prop:=∀(a:O4)(s:Shared)(b:St)(H:Hp)(x:V)(v:Value)(Q:Bool->Hp->Prop),aO X a b H s->aV x v->r x H Q->wpAny (model X.prog X.w) X.A (truthy v) (TP X a b Q) X.xe s
def KB(r:R2)(c d:TE):TE:=λa H Q=>c a H λx b=>d a b λy e=>r x y e Q
def tUn(r:V->Hp->VK->Prop)(a:TE):TE:=λb H Q=>a b H λx c=>r x c Q
def rI(C:Int->Int->Prop)(g:Int->Int->V):R2:=λx y H Q=>∃i j,x=.int i/\y=.int j/\C i j/\Q (g i j) H
def Gx(g:Int->Int->V):R2:=λx y H Q=>∃i j,x=.int i/\y=.int j/\Q (g i j) H
def rU(g:Int->V):V->Hp->VK->Prop:=λx H Q=>∃i,x=.int i/\Q (g i) H
section
variable{X:Cx}{a b:Expr}{d l:TE}{e:Pos}
def Km(p:PE X a d)(q:PE X b l){g:O4}{s:Shared}{i:St}{H:Hp}{R:V->V->Hp->Prop}(I:aO X g i H s)(h:d i H λx o=>l i o λy j=>R x y j){Q:O3}{f:Value->Value->Sem Value}(r:∀v u n x y j,aO X g i j n->aV x v->aV y u->R x y j->wpAny (model X.prog X.w) X.A (f v u) Q X.xe n):wpAny (model X.prog X.w) X.A (eval a X.env) (λv s₁=>wpAny (model X.prog X.w) X.A (eval b X.env) (λu m=>wpAny (model X.prog X.w) X.A (f v u) Q X.xe m) X.xe s₁) X.xe s:=by show cq (p g s i H _ I h) λv t k=>?_;obtain⟨x,o,I1,z,B⟩:=k;show cq (q g t i o _ I1 B) λu n k=>?_;obtain⟨y,j,C,r2,D⟩:=k;show r v u n x y j C z r2 D
def aA{g:Operator}{r:R2}(i:lx X (binaryOp g) r)(j:PE X a d)(m:PE X b l):PE X (.BinOp a g b e) (KB r d l):=by intro f s k H Q I h;show wpAny_BinOp (Km j m I h λv u n x y o p t w q=>i f n k o x y v u Q p t w q)
def Ly(i:M9 X (unaryOp j) r)(m:PE X a d):PE X (.UnaryOp j a e) (tUn r d):=by intro f s g H Q I h;show UnaryOp_ (cq (m f s g H _ I h) λv k n=>?_);obtain⟨x,o,I1,p,q⟩:=n;show i f k g o x v Q I1 p q
def LB{f:Value->Value->Sem Value}{C:Int->Int->Prop}{g:Int->Int->Int}(rule:∀(i j:Int)(t u:Tok)(s:Shared)(Q:O3)(E:O3),C i j->Q (.int (g i j) s.toks) {s with toks:=s.toks+1}->wpAny (model X.prog X.w) X.A (f (.int i t) (.int j u)) Q E s):lx X f (rI C λi j=>.int (g i j)):=by intro k s p H x y v u Q I m n h;obtain⟨i,j,rfl,rfl,hc,q⟩:=h;obtain⟨t,rfl⟩:=m;obtain⟨o,rfl⟩:=n;show rule i j t o s _ _ hc {.int (g i j),H,I.tok _,{_,()},q}
def JB{f:Value->Value->Sem Value}{g:Int->Int->Int}(rule:∀(i j:Int)(t u:Tok)(s:Shared)(Q:O3)(E:O3),Q (.int (g i j) s.toks) {s with toks:=s.toks+1}->wpAny (model X.prog X.w) X.A (f (.int i t) (.int j u)) Q E s):lx X f (Gx λi j=>.int (g i j)):=by intro k s p H x y v u Q I m n h;obtain⟨i,j,rfl,rfl,q⟩:=h;obtain⟨t,rfl⟩:=m;obtain⟨o,rfl⟩:=n;show rule i j t o s _ _ {.int (g i j),H,I.tok _,{_,()},q}
def GO{f:Value->Value->Sem Value}{g:Int->Int->Bool}(rule:∀(i j:Int)(t u:Tok)(s:Shared)(Q:O3)(E:O3),Q (.bool (g i j)) s->wpAny (model X.prog X.w) X.A (f (.int i t) (.int j u)) Q E s):lx X f (Gx λi j=>.bl (g i j)):=by intro k s p H x y v u Q I m n h;obtain⟨i,j,rfl,rfl,q⟩:=h;obtain⟨t,rfl⟩:=m;obtain⟨o,rfl⟩:=n;show rule i j t o s _ _ {.bl (g i j),H,I,(),q}
def fH(i j:Int):Prop:=0<j/\j<1073741824
def Nh(i j:Int):Prop:=0<=j/\j<=1000000/\i.natAbs<2^64
def Ky(i j:Int):Prop:=(-(2^64)<i/\i<2^64)\/(-(2^64)<j/\j<2^64)
def Ky.ok(h:Ky i j):IntMulOk i j:=by
 rcases h with⟨h1,h2⟩|⟨h1,h2⟩
 ·show .of_left (intBits_le_64 h1 h2)
 ·show .of_right (intBits_le_64 h1 h2)
def two_pow_nn(k:Nat):(0:Int)<=2^k:=by rw[two_pow_cast];show Int.natCast_nonneg _
def bU:lx X (binaryOp .Add) (Gx λi j=>.int (i+j)):=JB λ_ _ _ _ _ _ _ q=>add_int q
def fV:lx X (binaryOp .Sub) (Gx λi j=>.int (i-j)):=JB λ_ _ _ _ _ _ _ q=>sub_int q
def gQ:lx X (binaryOp .Mult) (rI Ky λi j=>.int (i*j)):=LB λ_ _ _ _ _ _ _ hc q=>mul_int q hc.ok
def bC:lx X (binaryOp .FloorDiv) (rI fH λi j=>.int (i/j)):=LB λi j _ _ _ _ _ hc q=>by have h1:(0:Int)<j:=hc.1;have h2:j<1073741824:=hc.2;show floordiv_int (by lia) (by rw[NR i (by lia)];show q) (.inl (PyProof.noPylong_small (by lia)))
def aW:lx X (binaryOp .Mod) (rI (λ_ j=>0<j) λi j=>.int (i%j)):=LB λi j _ _ _ _ _ hc q=>by have h1:(0:Int)<j:=hc;show mod_int' (by lia) (by rw[Int.fmod_eq_emod_of_nonneg i (by lia)];show q)
def Jy:lx X (binaryOp .Pow) (rI Nh λi j=>.int (i^j.toNat)):=LB λ_ _ _ _ _ _ _ hc q=>pow_int_small hc.1 hc.2.1 hc.2.2 q
def Jx:lx X (binaryOp .RShift) (rI (λ_ j=>0<=j) λi j=>.int (i/2^j.toNat)):=LB λi j _ _ _ _ _ hc q=>rshift_int hc (by rw[NR i (two_pow_nn _)];show q)
def D4:lx X (binaryOp .BitAnd) (Gx λi j=>.int (Builtin.bitAnd i j)):=JB λ_ _ _ _ _ _ _ q=>and_int q
def unI{f:Value->Sem Value}{g:Int->Int}(rule:∀(i:Int)(t:Tok)(s:Shared)(Q:O3)(E:O3),Q (.int (g i) s.toks) {s with toks:=s.toks+1}->wpAny (model X.prog X.w) X.A (f (.int i t)) Q E s):M9 X f (rU λi=>.int (g i)):=by intro j s m H x v Q I k h;obtain⟨i,rfl,q⟩:=h;obtain⟨t,rfl⟩:=k;show rule i t s _ _ {.int (g i),H,I.tok _,{_,()},q}
def Ix:M9 X (unaryOp .USub) (rU λi=>.int (-i)):=unI λ_ _ _ _ _ q=>neg_int q
end
def fK:V->V->Bool|.non,.non=>true|.non,.int _=>true|.int _,.non=>true|.non,.bl _=>true|.bl _,.non=>true|.non,.str _=>true|.str _,.non=>true|.int _,.int _=>true|.bl _,.bl _=>true|.str _,.str _=>true|.byt _,.byt _=>true|.int _,.str _=>true|.str _,.int _=>true|.bl _,.str _=>true|.str _,.bl _=>true|_,_=>false
def rEq:R2:=λx y H Q=>fK x y=true/\Q (.bl (decide (x=y))) H
def rNe:R2:=λx y H Q=>fK x y=true/\Q (.bl (!decide (x=y))) H
def Bw:decide (V.int i=V.int j)=(i==j):=by rw[Ow];simp
def E8:decide (V.bl i=V.bl j)=(i==j):=by rw[Ow];simp
def Bv:decide (V.str i=V.str j)=(i==j):=by rw[Ow];simp
def Bx:decide (V.byt i=V.byt j)=(i.toList==j.toList):=by rw[Ow];cases i;cases j;simp
section
variable{X:Cx}{a b c:Expr}{f g tc:TE}{l:Pos}
def bM(I:aO X d h H s)(q:Q (.bl k) H)(e:k=i):EP X d h Q (.bool i) s:=by subst e;show{.bl k,H,I,(),q}
def aX:lx X (compareOp .Eq) rEq:=by intro n s o H x y v u Q I m d h;obtain⟨k,q⟩:=h;cases x with
 |non=>cases m;cases y with|non=>cases d;show PySem.EqNone.eq_none_none (bM I q (by simp))|bl j=>cases d;show PySem.EqNone.eq_none_bool (bM I q (by simp))|int j=>obtain⟨e,rfl⟩:=d;show PySem.EqNone.eq_none_int (bM I q (by simp))|str j=>obtain⟨e,rfl⟩:=d;show PySem.EqNone.eq_none_str (bM I q (by simp))|_=>show absurd (show false=true from k) iq
 |bl i=>cases m;cases y with|non=>cases d;show PySem.EqNone.eq_bool_none (bM I q (by simp))|bl j=>cases d;show eq_bool (bM I q E8)|str j=>obtain⟨e,rfl⟩:=d;show PySem.EqMixed.eq_bool_str (bM I q (by simp))|_=>show absurd (show false=true from k) iq
 |int i=>obtain⟨t,rfl⟩:=m;cases y with|non=>cases d;show PySem.EqNone.eq_int_none (bM I q (by simp))|int j=>obtain⟨e,rfl⟩:=d;show eq_int (bM I q Bw)|str j=>obtain⟨e,rfl⟩:=d;show PySem.EqMixed.eq_int_str (bM I q (by simp))|_=>show absurd (show false=true from k) iq
 |str i=>obtain⟨t,rfl⟩:=m;cases y with|non=>cases d;show PySem.EqNone.eq_str_none (bM I q (by simp))|bl j=>cases d;show PySem.EqMixed.eq_str_bool (bM I q (by simp))|int j=>obtain⟨e,rfl⟩:=d;show PySem.EqMixed.eq_str_int (bM I q (by simp))|str j=>obtain⟨e,rfl⟩:=d;show eq_str (bM I q Bv)|_=>show absurd (show false=true from k) iq
 |byt i=>obtain⟨t,rfl⟩:=m;cases y with|byt j=>obtain⟨e,rfl⟩:=d;show PySem.W.eq_bytes (bM I q Bx)|_=>show absurd (show false=true from k) iq
 |_=>cases y<;>show absurd (show false=true from k) iq
def HV:lx X (compareOp .NotEq) rNe:=by intro n s o H x y v u Q I m d h;obtain⟨k,q⟩:=h;cases x with
 |non=>cases m;cases y with|non=>cases d;show PySem.EqNone.ne_none_none (bM I q (by simp))|bl j=>cases d;show PySem.EqNone.ne_none_bool (bM I q (by simp))|int j=>obtain⟨e,rfl⟩:=d;show PySem.EqNone.ne_none_int (bM I q (by simp))|str j=>obtain⟨e,rfl⟩:=d;show PySem.EqNone.ne_none_str (bM I q (by simp))|_=>show absurd (show false=true from k) iq
 |bl i=>cases m;cases y with|non=>cases d;show PySem.EqNone.ne_bool_none (bM I q (by simp))|bl j=>cases d;show ne_bool (bM I q (pa not E8))|str j=>obtain⟨e,rfl⟩:=d;show PySem.EqMixed.ne_bool_str (bM I q (by simp))|_=>show absurd (show false=true from k) iq
 |int i=>obtain⟨t,rfl⟩:=m;cases y with|non=>cases d;show PySem.EqNone.ne_int_none (bM I q (by simp))|int j=>obtain⟨e,rfl⟩:=d;show ne_int (bM I q (pa not Bw))|str j=>obtain⟨e,rfl⟩:=d;show PySem.EqMixed.ne_int_str (bM I q (by simp))|_=>show absurd (show false=true from k) iq
 |str i=>obtain⟨t,rfl⟩:=m;cases y with|non=>cases d;show PySem.EqNone.ne_str_none (bM I q (by simp))|bl j=>cases d;show PySem.EqMixed.ne_str_bool (bM I q (by simp))|int j=>obtain⟨e,rfl⟩:=d;show PySem.EqMixed.ne_str_int (bM I q (by simp))|str j=>obtain⟨e,rfl⟩:=d;show ne_str (bM I q (pa not Bv))|_=>show absurd (show false=true from k) iq
 |byt i=>obtain⟨t,rfl⟩:=m;cases y with|byt j=>obtain⟨e,rfl⟩:=d;show PySem.W.ne_bytes (bM I q (pa not Bx))|_=>show absurd (show false=true from k) iq
 |_=>cases y<;>show absurd (show false=true from k) iq
def yM:lx X (compareOp .Lt) (Gx λi j=>.bl (decide (i<j))):=GO λ_ _ _ _ _ _ _ q=>lt_int q
def jv:lx X (compareOp .LtE) (Gx λi j=>.bl (decide (i<=j))):=GO λ_ _ _ _ _ _ _ q=>le_int q
def rc:lx X (compareOp .Gt) (Gx λi j=>.bl (decide (j<i))):=GO λ_ _ _ _ _ _ _ q=>gt_int q
def D3:lx X (compareOp .GtE) (Gx λi j=>.bl (decide (j<=i))):=GO λ_ _ _ _ _ _ _ q=>ge_int q
def Cf:lx X (compareOp .In) (λx y H Q=>∃i j,x=.str i/\y=.str j/\Q (.bl (!(Builtin.Str.occurrences j i 0 j.length 1).isEmpty)) H):=by intro d s m H x y v u Q I e k h;obtain⟨i,j,rfl,rfl,q⟩:=h;obtain⟨t,rfl⟩:=e;obtain⟨n,rfl⟩:=k;show in_str (bM I q ())
def D1:lx X (compareOp .Is) (λx y H Q=>y=.non/\Q (.bl (decide (x=.non))) H):=by intro d s j H x y v u Q I e i h;obtain⟨rfl,q⟩:=h;cases i;show is_none_gen (bM I q ?_);cases x<;>first|(cases e;rfl)|(obtain⟨t,rfl⟩:=e;rfl)
def Bg:lx X (compareOp .IsNot) (λx y H Q=>y=.non/\Q (.bl (!decide (x=.non))) H):=by intro d s j H x y v u Q I e i h;obtain⟨rfl,q⟩:=h;cases i;show isnot_none_gen (bM I q ?_);cases x<;>first|(cases e;rfl)|(obtain⟨t,rfl⟩:=e;rfl)
def aG(b:Expr)(h:d≠.In:=by decide)(h2:d≠.NotIn:=by decide):behindInMarks d b=false:=by
 have e:(d==CmpOp.In)=false:=by cases d<;>first|rfl|show absurd () h
 have i:(d==CmpOp.NotIn)=false:=by cases d<;>first|rfl|show absurd () h2
 cases b<;>simp[behindInMarks,e,i]
def cf(i:lx X (compareOp e) r)(j:PE X a f)(m:PE X b g)(hm:behindInMarks e b=false):PE X (.Compare a [e] [b] l) (KB r f g):=by intro d s k H Q I h;show wpAny_Compare1 (Km j m I h λv u n x y o p t w q=>i d n k o x y v u Q p t w q) hm
def HP(t:TE):TT:=λd H Q=>t d H λx e=>∃k,x=.bl k/\Q k e
def aD(m:lx X (compareOp j) r)(n:PE X a f)(o:PE X b g)(hm:behindInMarks j b=false):PT X (.Compare a [j] [b] l) (HP (KB r f g)):=by
 intro d s i H Q I h;show wpAny_isTrue_Compare1 (cq (n d s i H _ I h) λv p⟨x,q,I1,t,w⟩=>cq (o d p i q _ I1 w) λu A⟨y,B,C,r2,D⟩=>cq (m d A i B x y v u _ C t r2 D) λc K⟨z,E,F,G,k,e,J⟩=>?_) hm
 subst e;cases G;show qq (E,F,J,)
def C6(r h:R2)(f g tc:TE):TE:=λd H Q=>f d H λx i=>g d i λy j=>r x y j λz e=>∃k,z=.bl k/\(if k=true then tc d e λm n=>h y m n Q else Q (.bl false) e)
def uf(w:lx X (compareOp o) r)(n:lx X (compareOp j) A)(B:PE X a f)(C:PE X b g)(hc:PE X c tc)(hm:lastMarks [o,j] [b,c]=false:=by with_unfolding_all rfl):PE X (.Compare a [o,j] [b,c] l) (C6 r A f g tc):=by
 intro i s m H Q I h;show Compare_chain (cq (B i s m H _ I h) λv D⟨x,E,I1,F,G⟩=>chain_link (cq (C i D m E _ I1 G) λu J⟨y,K,L,r2,M⟩=>cq (w i J m K x y v u _ L F r2 M) λd N⟨z,p,q,O,k,e,t⟩=>?_)) hm
 subst e;cases O;show qq ?_;cases k with|false=>show ite_ff {.bl false,p,q,(),t}|true=>show ite_tt (chain_last (cq (hc i N m p _ q t) λP R⟨S,T,U,V,W⟩=>n i R m T y S u P Q U r2 V W))
def yI(A:lx X (compareOp p) r)(n:lx X (compareOp j) B)(C:PE X a f)(D:PE X b g)(hc:PE X c tc)(hm:lastMarks [p,j] [b,c]=false:=by with_unfolding_all rfl):PT X (.Compare a [p,j] [b,c] l) (HP (C6 r B f g tc)):=by
 intro i s m H Q I h;show isTrue_chain (cq (C i s m H _ I h) λv E⟨x,F,I1,G,J⟩=>test_link (cq (D i E m F _ I1 J) λu K⟨y,L,M,r2,N⟩=>cq (A i K m L x y v u _ M G r2 N) λd O⟨z,q,t,P,k,e,w⟩=>?_)) hm
 subst e;cases P;show qq ?_;cases k with|false=>obtain⟨k',R,S⟩:=w;cases R;show ite_ff (q,t,S,)|true=>show ite_tt (test_last (cq (hc i O m q _ t w) λT U o=>?_));obtain⟨V,W,Y,Z,q4⟩:=o;show cq (n i U m W y V u T _ Y r2 Z q4) λd' s5 o=>?_;obtain⟨z2,H5,I5,r5,k2,e2,q5⟩:=o;subst e2;cases r5;show qq (H5,I5,q5,)
def Kr(K:O2)(x:V)(H:Hp)(k:Bool):Prop:=match x with|.non=>k=false|.bl b=>k=b|.int i=>k=(i !=0)|.str y=>y.length<=sizeLine/\k=((y.length:Int)!=0)|.byt y=>y.size<=sizeLine/\k=((y.size:Int)!=0)|.ref p=>(∃d,aS K H p d/\k=!d.isEmpty)\/(∃d,aY K H p d/\k=!d.isEmpty)\/∃e,H p=some (.dK e)/\k=!e.isEmpty|_=>False
def Ay(r:KV d e):(!e.isEmpty)=!d.isEmpty:=by cases r<;>rfl
def uE(r:a0 e d):(!d.toArray.isEmpty)=!e.isEmpty:=by cases r<;>simp
def qv:(sizeLine:Nat)<2^63:=by rw[g8];decide
def Iz:Na X (λx H Q=>∃k,Kr X.K x H k/\Q k H):=by intro C s G H x v Q I u h;obtain⟨k,e,q⟩:=h;have J:=qv;have L:sizeLine=16777216:=g8;cases x with|non=>cases u;have d:k=false:=e;subst d;show truthy_none (H,I,q,)|bl b=>cases u;have d:k=b:=e;subst d;show qq (H,I,q,)|int i=>obtain⟨t,rfl⟩:=u;have d:k=(i !=0):=e;subst d;show PySem.P.truthy_int (H,I,q,)|str y=>obtain⟨t,rfl⟩:=u;obtain⟨E,d⟩:y.length<=sizeLine/\k=((y.length:Int)!=0):=e;subst d;show PySem.P.truthy_str (by lia) {H,I.tok _,q}|byt y=>obtain⟨t,rfl⟩:=u;obtain⟨E,d⟩:y.size<=sizeLine/\k=((y.size:Int)!=0):=e;subst d;show PySem.W.truthy_bytes (by lia) {H,I.tok _,q}|ref p=>
  cases u;have d:(∃o,aS X.K H p o/\k=!o.isEmpty)\/(∃o,aY X.K H p o/\k=!o.isEmpty)\/∃j,H p=some (.dK j)/\k=!j.isEmpty:=e;rcases d with⟨o,z,d⟩|⟨o,z,d⟩|⟨j,z,d⟩
  ·subst d;obtain⟨B,r,pl,D⟩:=I.list z;have n:=r.length;show wpAny_truthy_list pl.isList (by simp only[h_];lia) {H,I.tok _,by rw[uE r];show q}
  ·subst d;obtain⟨B,r,pl,D⟩:=I.tuple z;have n:=r.length;show truthy_tuple pl (by simp only[h_];lia) {H,I.tok _,by rw[uE r];show q}
  ·subst d;obtain⟨D,F,A,r,m⟩:j.length<=sizeLine/\(p==sysModules)=false/\∃A,KV j A/\s.heap.DictOf (aR X.prog X.w) p A:=I.hok p _ z;have n:j.length=A.length:=Paired.length r;show wpAny_truthy_dict F m (by lia) {H,I.tok _,by rw[Ay r];show q}|_=>show(show False from e).elim
def DU(m:PE X a f)(n:∀d,isTrue a X.env d=(do let v<-d;standAt a.pos;holding [v] (truthy v))):PT X a (λi H Q=>f i H λx j=>∃k,Kr X.K x j k/\Q k j):=by intro e s i H Q I h;show isTrue_plain (cq (m e s i H _ I h) λv o⟨x,p,I1,q,r⟩=>Iz e o i p x v Q I1 q r) (n _)
def i6:lx X (binaryOp .Add) (λx y H Q=>∃i j,x=.str i/\y=.str j/\i.length+j.length<=sizeLine/\Q (.str (i++j)) H):=by intro d s o H x y v u Q I e k h;obtain⟨i,j,rfl,rfl,m,q⟩:=h;obtain⟨t,rfl⟩:=e;obtain⟨n,rfl⟩:=k;show add_str (λn tk=>{.str (i++j),H,I.tok _,{_,()},q}) m
def jk(r:a0 [x] d):∃u,d=[u]/\aV x u:=by cases r with|cons e r2=>cases r2;show{_,(),e}
def vV(r:a0 [x,y] e):∃u d,e=[u,d]/\aV x u/\aV y d:=by cases r with|cons h r2=>cases r2 with|cons i j=>cases j;show{_,_,(),h,i}
def CI(hc:X.calm=true):df X (.builtin "max") (λe H Q=>∃i j,e=[.int i,.int j]/\Q (.int (if j>i then j else i)) H):=by
 intro m s n H e o Q I r h;obtain⟨i,j,rfl,q⟩:=h;obtain⟨u,p,rfl,⟨t,rfl⟩,⟨v,rfl⟩⟩:=vV r;show max_two_ints (I.ok.hd hc) λh' tk k=>{_,H,I.kept k,?_,q}
 by_cases d:j>i
 ·rw[g6 d,g6 d];show{_,()}
 ·rw[g_ d,g_ d];show{_,()}
def qM(hc:X.calm=true):df X (.builtin "min") (λe H Q=>∃i j,e=[.int i,.int j]/\Q (.int (if j<i then j else i)) H):=by
 intro m s n H e o Q I r h;obtain⟨i,j,rfl,q⟩:=h;obtain⟨u,p,rfl,⟨t,rfl⟩,⟨v,rfl⟩⟩:=vV r;show min_two_ints (I.ok.hd hc) λh' tk k=>{_,H,I.kept k,?_,q}
 by_cases d:j<i
 ·rw[g6 d,g6 d];show{_,()}
 ·rw[g_ d,g_ d];show{_,()}
def Mn(K:O2)(x:V)(H:Hp)(n:Nat):Prop:=match x with|.str y=>y.length<=sizeLine/\n=y.length|.byt y=>y.size<=sizeLine/\n=y.size|.ref p=>(∃d,aS K H p d/\n=d.length)\/∃d,aY K H p d/\n=d.length|_=>False
def Fm:df X (.builtin "len") (λd H Q=>∃x n,d=[x]/\Mn X.K x H n/\Q (.int n) H):=by
 intro w s B H d C Q I r h;obtain⟨x,n,rfl,e,q⟩:=h;obtain⟨u,rfl,k⟩:=jk r;have D:=qv;have E:sizeLine=16777216:=g8;cases x with|str y=>obtain⟨t,rfl⟩:=k;obtain⟨z,j⟩:y.length<=sizeLine/\n=y.length:=e;subst j;show len_str (by lia) {.int _,H,I.tok _,{_,()},q}|byt y=>obtain⟨t,rfl⟩:=k;obtain⟨z,j⟩:y.size<=sizeLine/\n=y.size:=e;subst j;show PySem.W.len_bytes (by lia) {.int _,H,I.tok _,{_,()},q}|ref p=>
  cases k;have j:(∃d,aS X.K H p d/\n=d.length)\/∃d,aY X.K H p d/\n=d.length:=e;rcases j with⟨d,m,j⟩|⟨d,m,j⟩
  ·subst j;obtain⟨o,v,pl,A⟩:=I.list m;have i:=v.length;show Calls.call_len_list pl.isList (by simp only[h_];lia) {.int d.length,H,I.tok _,{_,by simp only[h_];rw[i]},q}
  ·subst j;obtain⟨o,v,pl,A⟩:=I.tuple m;have i:=v.length;show len_tuple pl (by simp only[h_];lia) {.int d.length,H,I.tok _,{_,by simp only[h_];rw[i]},q}|_=>show(show False from e).elim
def zB:df X (.builtin "divmod") (λd H Q=>∃i j,d=[.int i,.int j]/\fH i j/\∀p,H p=none->Q (.ref p) (aH H p (.tup [.int (i/j),.int (i%j)]))):=by intro k s m H d n Q I r h;obtain⟨i,j,rfl,⟨h1,h2⟩,q⟩:=h;obtain⟨u,v,rfl,⟨t,rfl⟩,⟨w,rfl⟩⟩:=vV r;show divmod_int (by lia) ?_ (.inl (PyProof.noPylong_small (by lia)));rw[NR i (by lia),Int.fmod_eq_emod_of_nonneg i (by lia)];have hn:H s.heap.objs.size=none:=I.hok.fresh (e_ _);show{.ref s.heap.objs.size,_,?_,(),q _ hn};show I.laid (λb o e=>c_ _ e) (e_ _) {by simp only[md,OZ];rw[g8];decide,[.int (i/j) s.toks,.int (i%j) (s.toks+1)],.cons {_,()} (.cons {_,()} .nil),?_};show{_,gg s.heap (),(),0,()}
end
structure AR(h:Heap)(x dx C:Addr)(mA:O5):Prop where
 obj:h.get? x=some (PySem.W.instObj C dx)ns:h.Ns1 dx mA
 ne:dx≠x
def Co{h:Heap}{dx:Addr}{d:O5}(n:h.Ns1 dx d):∃f,h.get? dx=some f/\∀c,PySem.W.lookIn c f=some (d c):=by
 obtain⟨o,es,ep,g,hd,i,_,hm⟩:=n;show{o,g,λc=>?_};have e:=hm c;unfold nsFind findBy at e;rw[<-Array.find?_toList]at e;unfold PySem.W.lookIn;rw[hd];dsimp only
 split
 ·rename_i y q;rw[q]at e;show pa some e
 ·rename_i q;rw[q]at e;have a:es.toList.any (·.refKey)=false:=by rw[OK];intro y j;obtain⟨z,t,b⟩:=i y (Array.mem_toList_iff.mp j);simp[DictEntry.refKey,b]
  have k:¬es.toList.any (·.refKey)=true:=by rw[a];show iq
  rw[g_ k];show pa some e
def AR.look(I:AR h x dx C d):∃c,PySem.W.InstAt h x (PySem.W.instObj C dx) C (some c)/\∀a,PySem.W.lookIn a c=some (d a):=let⟨c,b,e⟩:=Co I.ns
 {c,{I.obj,(),(),b},e}
section
variable{prog:O7}{w:World}{A:Around}{E:O3}{s:Shared}{K:O2}{x dx C f:Addr}{e:O5}{c:Str}{v:Value}
def Hj(X:K.In s.heap)(I:AR s.heap x dx C e)(hg:PySem.W.plainGet K C c=true)(hh:PySem.W.hasDictIn K C=true)(g:PySem.W.findIn K (.ref C) c=some none)(i:e c=some v)(a:PySem.W.handedIn v=true)(h:Q v {s with toks:=s.toks+1}):wpAny (model prog w) A (getAttr (.ref x) c d) Q E s:=by obtain⟨j,J,b⟩:=I.look;show PySem.W.get_value X J (PySem.W.plainGet_of hg).1 (PySem.W.findObj_own hh g () (by rw[b,i])) a h
def EV(X:K.In s.heap)(I:AR s.heap x dx C e)(hg:PySem.W.plainGet K C c=true)(a:PySem.W.findIn K (.ref C) c=some (some (.ref f)))(d:PySem.W.isFn K (.ref f)=true)(g:e c=none)(h:Q (.ref f,[.ref x]) s):wpAny (model prog w) A (getMethod (.ref x) c pl) Q E s:=by obtain⟨b,J,i⟩:=I.look;show PySem.W.method_fn X J (PySem.W.plainGet_of hg).1 (PySem.W.plainGet_of hg).2 a (beq_iff_eq.mp d) (by change(PySem.W.lookIn c b).map (·.isSome)=some false;rw[i,g];rfl) h
def ii(X:K.In s.heap)(I:AR s.heap x dx C e)(m:PySem.W.findIn K (.ref C) "__setattr__"=some (some (.builtin "object.__setattr__")))(n:PySem.W.plainOver K C=true)(o:PySem.W.takerIn K C c=some none)(hh:PySem.W.hasDictIn K C=true)(p:PySem.Within e ns)(q:ns.length<=sizeLine)(h:∀h',AR h' x dx C (λy=>if y=c then some v else e y)->Heap.SameBut dx s.heap h'->Q Unit.unit {s with heap:=h',toks:=s.toks+2}):wpAny (model prog w) A (setAttr (.ref x) c v) Q E s:=by obtain⟨B,J,D⟩:=I.look;show PySem.W.set_plain X J m (PySem.W.osa_open (s:={s with toks:=s.toks+1}) (r:=none) X J n o λb=>?_);obtain⟨cd,hc,i⟩:=PySem.W.any_some hh;have t:s.heap.get? x=some {.ref C,some dx,.plain,#[]}:=I.obj;show a_ (fx (a_ (a_ (wpAny_loadPart t (a_ (PySem.W.Looks.here (s:={s with toks:=s.toks+1}) (PySem.W.looks_clsIn X hc) ?_))))));rw[i];show fx (a:=some dx) (a_ (fx (a_ ?_)));show wpAny_nsSet1 (s:={s with toks:=s.toks+1}) I.ns λh' d g=>?_;obtain⟨F,u,z,j,k,l⟩:=d.count (PySem.Within.cons c v p);show a_ (wpAny_lookBehind j (by rw[k];show pastItsLine_dict (iA l (by rw[md];lia))) ?_);show fx (h _ {(g.2 _ (nn I.ne)).trans I.obj,d,I.ne} g)
def Et(X:K.In s.heap)(hm:PySem.W.makesIn K C=true)(hi:PySem.W.findIn K (.ref C) "__init__"=some (some (.ref f)))(j:PySem.W.typeIn K (.ref f)=some (.type "function"))(h:codeAny (model prog w) (A.under (.builtin "type.__call__" {.ref C::a,i})) (.call (.ref f) {.ref (s.heap.objs.size+1)::a,i}) (PySem.W.InitBack (s.heap.objs.size+1) R) {s with heap:=(s.heap.push PySem.W.emptyDict).push (PySem.W.instObj C s.heap.objs.size)}):codeAny (model prog w) A (.call (.ref C) (a,i,)) R s:=by obtain⟨hh,g,d,t,os⟩:=s;show PySem.W.make_core (PySem.W.makes_of X hm) (PySem.W.looks_findIn X hi) (λself=>PySem.W.bind_fn X self j) (.inl ()) h
end
def gx(f:Str)(v:V):List (Str×V)->List (Str×V)|[]=>[(f,v)]|(g,x)::r=>if g=f then(g,v)::r else(g,x)::gx f v r
theorem rp(f g:Str)(v:V):∀fs:List (Str×V),(gx f v fs).lookup g=if g=f then some v else fs.lookup g
 |[]=>by
  change List.lookup g [(f,v)]=_
  by_cases h:g=f
  ·have a:(g==f)=true:=beq_iff_eq.mpr h;simp only[List.lookup,a,g6 h]
  ·have a:(g==f)=false:=A_.mpr h;simp only[List.lookup,a,g_ h]|(k,x)::r=>by
  have c:=rp f g v r;rw[show gx f v ((k,x)::r)=(if k=f then(k,v)::r else(k,x)::gx f v r)from ()]
  by_cases b:k=f
  ·rw[g6 b]
   by_cases h:g=k
   ·have a:(g==k)=true:=beq_iff_eq.mpr h;simp only[List.lookup,a,g6 (h.trans b)]
   ·have a:(g==k)=false:=A_.mpr h;simp only[List.lookup,a,g_ (λe:g=f=>h (e.trans b.symm))]
  ·rw[g_ b]
   by_cases h:g=k
   ·have a:(g==k)=true:=beq_iff_eq.mpr h;simp only[List.lookup,a,g_ (λe:g=f=>b (h.symm.trans e))]
   ·have a:(g==k)=false:=A_.mpr h;simp only[List.lookup,a];show c
theorem qE(f:Str)(v:V):∀fs:List (Str×V),f∈(gx f v fs).map (·.1)/\∀g,g∈fs.map (·.1)->g∈(gx f v fs).map (·.1)
 |[]=>{by simp[gx],λg h=>by simp at h}|(k,x)::r=>by
  obtain⟨b,c⟩:=qE f v r;rw[show gx f v ((k,x)::r)=(if k=f then(k,v)::r else(k,x)::gx f v r)from ()]
  by_cases a:k=f
  ·rw[g6 a];subst a;show{by simp,λg h=>by simpa using h}
  ·rw[g_ a];show{?_,λg h=>?_}
   ·rw[lm];show il _ b
   ·rw[lm]at h⊢;rcases q_.mp h with e|e
    ·show q_.mpr (.inl e)
    ·show il _ (c g e)
theorem rq(f:Str)(v:V):∀fs:List (Str×V),(gx f v fs).length<=fs.length+1
 |[]=>by simp[gx]|(k,x)::r=>by
  have b:=rq f v r;rw[show gx f v ((k,x)::r)=(if k=f then(k,v)::r else(k,x)::gx f v r)from ()]
  by_cases a:k=f
  ·rw[g6 a,md,md];lia
  ·rw[g_ a,md,md];lia
def kD.some_of(r:kD (some v) o):∃u,o=some u/\aV v u:=by cases o with|none=>show(show False from r).elim|some u=>show{u,(),r}
def kD.none_of(r:kD none o):o=none:=by cases o with|none=>rfl|some u=>show(show False from r).elim
def Cw(r:aV v u):PySem.W.handedIn u=true:=by cases v with|non=>cases(show u=Value.none from r);rfl|bl b=>cases(show u=Value.bool b from r);rfl|int i=>obtain⟨t,e⟩:=(show∃t,u=Value.int i t from r);cases e;rfl|str x=>obtain⟨t,e⟩:=(show∃t,u=Value.str x t from r);cases e;rfl|byt b=>obtain⟨t,e⟩:=(show∃t,u=Value.bytes b t from r);cases e;rfl|flt b=>obtain⟨t,e⟩:=(show∃t,u=Value.float b t from r);cases e;rfl|ref a=>cases(show u=Value.ref a from r);rfl|ty n=>cases(show u=Value.type n from r);rfl
section
variable{P:O7}{w:World}{H:Hp}{h:Heap}{a C dx:Addr}{fs:List (Str×V)}
def sL(hok:lC P w H h)(e:H a=some (.ins C dx fs)):∃i,AR h a dx C i/\(∀f,kD (fs.lookup f) (i f))/\PySem.Within i (fs.map (·.1))/\fs.length<=1000/\H dx=some (.own a):=by obtain⟨d,z,ne,ob,i,n,r,q⟩:=(show dh P w H h a (.ins C dx fs)from hok a _ e);show{i,(ob,n,ne,),r,q,z,d}
end
structure x9(K:O2)(C:Addr):Prop where
 pg:PySem.W.plainGet K C Str.empty=true
 hd:PySem.W.hasDictIn K C=true
 po:PySem.W.plainOver K C=true
 sa:PySem.W.findIn K (.ref C) "__setattr__"=some (some (.builtin "object.__setattr__"))
def x9.get{K:O2}{C:Addr}(c:x9 K C)(f:Str):PySem.W.plainGet K C f=true:=c.pg
def b7(K:O2)(C:Addr)(f:Str):Prop:=PySem.W.findIn K (.ref C) f=some none
def b7.taker{K:O2}{C:Addr}{f:Str}(n:b7 K C f):PySem.W.takerIn K C f=some none:=by unfold PySem.W.takerIn;rw[show PySem.W.findIn K (.ref C) f=some none from n];rfl
structure FE(K:O2)(C:Addr)(m:Str)(f:Addr):Prop where
 at_:PySem.W.findIn K (.ref C) m=some (some (.ref f))fn:PySem.W.isFn K (.ref f)=true
 kp:PySem.W.keepIn K (.ref f)=true
section
variable{X:Cx}{d:O4}{i:St}{H:Hp}{s:Shared}{a C dx:Addr}{fs:List (Str×V)}{f:Str}{v:V}{A:Around}{E:O3}
def AC(I:aO X d i H s)(e:H a=some (.ins C dx fs))(c:x9 X.K C)(n:b7 X.K C f)(l:fs.lookup f=some v)(h:∀u g,aO X d i H g->aV v u->Q u g):wpAny (model X.prog X.w) A (getAttr (.ref a) f b) Q E s:=by obtain⟨j,O,r,_,_,_⟩:=sL I.hok e;obtain⟨u,k,ru⟩:=kD.some_of (v:=v) (o:=j f) (by rw[<-l];show r f);show Hj I.kIn O (c.get f) c.hd n k (Cw ru) (h u _ (I.tok _) ru)
def nY(I:aO X d i H s)(e:H a=some (.ins C dx fs))(c:x9 X.K C)(k:FE X.K C m g)(l:fs.lookup m=none)(h:Q (.ref g,[.ref a]) s):wpAny (model X.prog X.w) A (getMethod (.ref a) m pl) Q E s:=by obtain⟨b,O,r,_,_,_⟩:=sL I.hok e;have hn:b m=none:=kD.none_of (by rw[<-l];show r m);show EV I.kIn O (c.get m) k.at_ k.fn hn h
def zT(I:aO X d i H s)(e:H a=some (.ins C dx fs))(c:x9 X.K C)(n:b7 X.K C f)(J:fs.length<1000)(t:aV y u)(h:∀l,aO X d i (aH H a (.ins C dx (gx f y fs))) l->Q Unit.unit l):wpAny (model X.prog X.w) A (setAttr (.ref a) f u) Q E s:=by
 obtain⟨k,O,r,m,_,p⟩:=sL I.hok e;have B:(fs.map (·.1)).length<=sizeLine:=by rw[b_,g8];lia
 show ii I.kIn O c.sa c.po n.taker c.hd m B λh' j D=>h _ ?_;have hd:∃o,h'.get? dx=some o:=let⟨o,_,_,F,_⟩:=j.ns;(o,F,);show I.write (x:=a) (e:=dx) (by rw[e];show True.intro) (.inr p) (λb q G z=>(D.2 b G).trans z) hd ?_;show{by rw[ak O.ne];show p,?_,O.ne,j.obj,_,j.ns,λg=>?_,λg hg=>?_}
 ·have:=rq f y fs;lia
 ·change kD ((gx f y fs).lookup g) (if g=f then some u else k g);rw[rp]
  by_cases q:g=f
  ·rw[g6 q,g6 q];show t
  ·rw[g_ q,g_ q];show r g
 ·by_cases q:g=f
  ·rw[q];show(qE f y fs).1
  ·show(qE f y fs).2 g (m g λz=>hg ?_);change(if g=f then some u else k g)=none;rw[g_ q];show z
def aO.made(I:aO X d i H s):aO X d i (aH (aH H s.heap.objs.size (.own (s.heap.objs.size+1))) (s.heap.objs.size+1) (.ins C s.heap.objs.size [])) {s with heap:=(s.heap.push PySem.W.emptyDict).push (PySem.W.instObj C s.heap.objs.size)}:=by
 have c:(s.heap.push PySem.W.emptyDict).get? s.heap.objs.size=some PySem.W.emptyDict:=gg s.heap ();have g:((s.heap.push PySem.W.emptyDict).push (PySem.W.instObj C s.heap.objs.size)).get? (s.heap.objs.size+1)=some (PySem.W.instObj C s.heap.objs.size):=by
  have:=gg (s.heap.push PySem.W.emptyDict) (o:=PySem.W.instObj C s.heap.objs.size) ()
  rwa[ov]at this
 have h:(s.heap.push PySem.W.emptyDict).Ns s.heap.objs.size (λ_=>none):={PySem.W.emptyDict,#[],_,c,(),(λe j=>absurd j (by simp)),λ_=>()};have I1:=I.laid (a:=s.heap.objs.size) (o:=.own (s.heap.objs.size+1)) (h':=s.heap.push PySem.W.emptyDict) (t':=s.toks) (λb u q=>c_ _ q) (e_ _) {_,c};show I1.laid (a:=s.heap.objs.size+1) (o:=.ins C s.heap.objs.size []) (t':=s.toks) (λb u q=>c_ _ q) (On (ov _ _)) ?_;have ne:s.heap.objs.size≠s.heap.objs.size+1:=ir (si _);show{by rw[ak ne,ae],ku _,ne,g,λ_=>none,(Heap.Ns1.of_empty h).at λo q=>c_ _ q,λ_=>True.intro,λy l=>absurd () l}
def Hy(c:attributeBase e f env (eval e env)=eval e env)(h:wpAny (model prog w) A (eval e env) (λo s₁=>wpAny (model prog w) A (getAttr o f true) Q E s₁) E s):wpAny (model prog w) A (eval (.Attribute e f g) env) Q E s:=Attribute_any_ h (by rw[arm_eval_Attribute,c])
end
def K9(K:O2)(c:TE)(f:Str):TE:=λd H Q=>c d H λx b=>∃a C dx fs v,x=.ref a/\b a=some (.ins C dx fs)/\x9 K C/\b7 K C f/\fs.lookup f=some v/\Q v b
def Lo(K:O2)(d e:TE)(f:Str):TS:=λD b H=>e b H λy g=>d b g λx c=>∃a C dx fs,x=.ref a/\c a=some (.ins C dx fs)/\x9 K C/\b7 K C f/\fs.length<1000/\D.nx b (aH c a (.ins C dx (gx f y fs)))
section
variable{X:Cx}{o e d:Expr}{f:Str}{i g:Pos}{j m:TE}
def Jv(r:PE X e j)(t:attributeBase e f X.env (eval e X.env)=eval e X.env):PE X (.Attribute e f i) (K9 X.K j f):=by intro b s k H Q I h;show Hy t (cq (r b s k H _ I h) λu D w=>?_);obtain⟨x,y,I1,z,a,C,dx,fs,v,ex,A,c,n,l,q⟩:=w;subst ex;obtain rfl:u=Value.ref a:=z;show AC I1 A c n l λE F B ru=>(v,y,B,ru,q,)
def Jo(r:PE X o j)(t:PE X d m)(v:swapsWith d (some (.Attribute o f g)) i.line X.env=pure false):PS X (.Assign [.Attribute o f g] d i) (Lo X.K j m f):=by intro b s k H D I h;show plainObj_wpAny_Assign_Attribute (cq (t b s k H _ I h) λu w⟨y,z,I1,A,q⟩=>cq (r b w k z _ I1 q) λB M⟨x,N,E,F,a,C,dx,fs,ex,G,c,n,l,J⟩=>?_) v;subst ex;obtain rfl:B=Value.ref a:=F;show zT E G c n l A λO L=>{k,_,L,J}
end
section
variable{X:Cx}{d:O4}{f:St}{H:Hp}{s:Shared}{A:Around}{E:O3}{Q:O3}{c:Value}{b:Bool}
inductive mm(K:O2)(H:Hp):V->Value->Prop where|non:mm K H .non (.type "NoneType")|bl(x:Bool):mm K H (.bl x) (.type "bool")|int(i:Int):mm K H (.int i) (.type "int")|str(x:Str):mm K H (.str x) (.type "str")|flt(x:UInt64):mm K H (.flt x) (.type "float")|lst{a:Addr}{xs:List V}(e:H a=some (.lst xs)):mm K H (.ref a) (.type "list")|frz{a:Addr}{o:Obj}{xs:List V}(e:H a=some (.frz o (.lst xs))):mm K H (.ref a) (.type "list")|tup{a:Addr}{xs:List V}(e:H a=some (.tup xs)):mm K H (.ref a) (.type "tuple")|dK{a:Addr}{kvs:List (bY×V)}(e:H a=some (.dK kvs)):mm K H (.ref a) (.type "dict")|dT{a:Addr}{kvs:List (List bY×V)}(e:H a=some (.dT kvs)):mm K H (.ref a) (.type "dict")|ins{a C dx:Addr}{fs:List (Str×V)}(e:H a=some (.ins C dx fs))(cl:x9 K C)(ha:PySem.W.findIn K (.ref C) "__class__"=some (some (.builtin "object.__class__")))(hn:PySem.W.specialIn K (.builtin "object.__class__") "__get__"=some (some (.builtin "getset_descriptor.__get__")))(htk:PySem.W.takesIn K (.builtin "object.__class__")=some true)(hm:PySem.W.mroIn K C (.type "object")=some true):mm K H (.ref a) (.ref C)
def Ct(I:aO X d f H s)(g:aV x u)(ty:mm X.K H x t)(e:PySem.W.kitOne X.K t c=some b)(h:∀tk,Q (.bool b) {s with toks:=tk}):wpAny (model X.prog X.w) A (call (.builtin "isinstance") [u,c]) Q E s:=by cases ty with|non=>cases(show u=Value.none from g);show PySem.W.kia_one PySem.W.kitx_none I.kIn True.intro e (nofun) h|bl y=>cases(show u=Value.bool y from g);show PySem.W.kia_one PySem.W.kitx_bool I.kIn True.intro e (nofun) h|int i=>obtain⟨t,q⟩:=(show∃t,u=Value.int i t from g);cases q;show PySem.W.kia_one PySem.W.kitx_int I.kIn True.intro e (nofun) h|str y=>obtain⟨t,q⟩:=(show∃t,u=Value.str y t from g);cases q;show PySem.W.kia_one PySem.W.kitx_str I.kIn True.intro e (nofun) h|flt y=>obtain⟨t,q⟩:=(show∃t,u=Value.float y t from g);cases q;show PySem.W.kia_one PySem.W.kitx_float I.kIn True.intro e (nofun) h|@lst a l j=>cases(show u=Value.ref a from g);obtain⟨_,_,n,_,h1⟩:=(show dh X.prog X.w H s.heap a (.lst l)from I.hok a _ j);show PySem.W.kia_one PySem.W.kitx_list I.kIn {_,h1,()} e (nofun) h|@frz a ob l j=>cases(show u=Value.ref a from g);obtain⟨_,_,_,n,_,h1⟩:=(show dh X.prog X.w H s.heap a (.frz ob (.lst l))from I.hok a _ j);show PySem.W.kia_one PySem.W.kitx_list I.kIn {_,h1,()} e (nofun) h|@tup a l j=>cases(show u=Value.ref a from g);obtain⟨_,_,_,p⟩:=(show dh X.prog X.w H s.heap a (.tup l)from I.hok a _ j);obtain⟨o,h1,h2,_⟩:=p;show PySem.W.kia_one PySem.W.kitx_tuple I.kIn (o,h1,h2,) e (nofun) h|@dK a k j=>cases(show u=Value.ref a from g);obtain⟨_,_,v,_,p⟩:=(show dh X.prog X.w H s.heap a (.dK k)from I.hok a _ j);obtain⟨o,es,ep,h1,h2,_⟩:=p;show PySem.W.kia_one PySem.W.kitx_dict I.kIn (o,h1,h2.1,) e (nofun) h|@dT a k j=>cases(show u=Value.ref a from g);obtain⟨_,_,l,_,o,es,ep,h1,h2,_⟩:=(show dh X.prog X.w H s.heap a (.dT k)from I.hok a _ j);show PySem.W.kia_one PySem.W.kitx_dict I.kIn (o,h1,h2.1,) e (nofun) h|@ins a C dx fs j cl r hn m hm=>cases(show u=Value.ref a from g);obtain⟨B,O,_⟩:=sL I.hok j;obtain⟨D,J,_⟩:=O.look;show PySem.W.kia_one (PySem.W.kitx_own (cl.get _) cl.hd r hn m hm) I.kIn J e (nofun) h
end
structure eS(k:Nat)(A:Around):Prop where
 hd:A.handled=none
 dp:A.depth+3*k+5<recursionLimit
 un:A.units+16*k+200<cLine
def eS.mono{j k:Nat}{A:Around}(r:eS k A)(h:j<=k):eS j A:={r.hd,by have:=r.dp;lia,by have:=r.un;lia}
theorem eS.deeper(r:eS (k+1) A)(env:Env):eS k (A.deeper env):={r.hd,by have:=r.dp;change A.depth+1+3*k+5<_;lia,by have:=r.un;change A.units+3+16*k+200<_;lia}
def Au{A:Around}{C:Addr}{a:O6}{c:List (Str×Value)}:(A.under (.builtin "type.__call__" {.ref C::a,c})).depth=A.depth+1:=by first|rfl|simp[Around.under,Code.weight,Code.isCreation,Code.isGuard,Code.isCaller,Code.frames,Code.isFrame,guardIds]
def At{A:Around}{C:Addr}{a:O6}{c:List (Str×Value)}:(A.under (.builtin "type.__call__" {.ref C::a,c})).units=A.units+1:=by first|rfl|simp[Around.under,Code.cUnits,Code.frames,Code.isFrame]
def eS.make(r:eS (k+1) A)(C:Addr)(a:O6)(c:List (Str×Value)):eS k (A.under (.builtin "type.__call__" {.ref C::a,c})):={r.hd,by have:=r.dp;rw[Au];lia,by have:=r.un;rw[At];lia}
theorem eS.depth{k:Nat}{A:Around}(r:eS k A):A.depth<recursionLimit:=by have:=r.dp;lia
theorem eS.units{k:Nat}{A:Around}(r:eS k A):A.units+64<cLine:=by have:=r.un;lia
def K6:TA:=λ_ H Q=>Q [] H
def Lc(c:TE)(tr:TA):TA:=λa H Q=>c a H λx b=>tr a b λd e=>Q (x::d) e
section
variable{X:Cx}{e:Expr}{es:O9}{te:TE}{t:TA}{a:Pos}
def O:PA X [] K6:=λ_ _ _ _ H Q I h=>vu {[],H,I,.nil,h}
def ac(f:PE X e te)(g:PA X es t)(i:starEach (e::es) X.env=(false,eval e X.env)::starEach es X.env:=by rfl):PA X (e::es) (Lc te t):=by intro a b s d H Q I h;rw[i];change wpAny _ _ (spliced ((false,eval e X.env)::backTo a (starEach es X.env))) _ _ s;show qx (cq (f b s d H _ I h) λu j c=>?_);obtain⟨x,k,I1,l,m⟩:=c;show cq (g a b j d k _ I1 m) λr v c=>?_;obtain⟨n,o,p,r2,q⟩:=c;show{x::n,o,p,.cons l r2,q}
def MH(t:TA):TE:=λd H Q=>t d H λb c=>b.length<=sizeLine/\∀p,c p=none->Q (.ref p) (aH c p (.tup b))
def MK(t:TA):TE:=λd H Q=>t d H λb c=>b.length<=sizeLine/\∀p,c p=none->Q (.ref p) (aH c p (.lst b))
def bx{g}(h:PA X es t):PE X (.Tuple es g a) (MH t):=by intro c s i H Q I j;show wpAny_Tuple_spliced (cq (h a c s i H _ I j) λk d l=>?_);obtain⟨m,f,I1,r,z,q⟩:=l;show{by rw[<-r.length];show z,?_};have n:f d.heap.objs.size=none:=I1.hok.fresh (e_ _);show{.ref d.heap.objs.size,aH f d.heap.objs.size (.tup m),I1.laid (t':=d.toks) (λb u e=>c_ _ e) (e_ _) ?_,(),q _ n};show{z,k,r,{_,gg _ (),(),_,()}}
def bj(h:PA X es t):PE X (.List es a) (MK t):=by intro c s g H Q I i;show wpAny_List_spliced (cq (h a c s g H _ I i) λj d k=>?_);obtain⟨l,f,I1,r,z,q⟩:=k;show{by rw[<-r.length];show z,?_};have m:f d.heap.objs.size=none:=I1.hok.fresh (e_ _);show{.ref d.heap.objs.size,aH f d.heap.objs.size (.lst l),I1.laid (t':=d.toks) (λb u e=>c_ _ e) (e_ _) ?_,(),q _ m};show{z,j,0,r,gg _ ()}
end
abbrev Sp:=List V->Hp->VK->XK->Prop
abbrev zM:=List Env->Hp->Shared->XK->Value->Shared->Prop
structure AU(P:O7)(w:World)(K:O2)(mg:O5)(base:Heap)(A:Around)(outer:List Env)(s:Shared)(H:Hp):Prop where
 frames:A.frames=some outer
 mod:Mm K mg base
 bs:∀b o,base.get? b=some o->s.heap.get? b=some o/\H b=none
 bsz:base.objs.size<=s.heap.objs.size
 funs:s.heap.FunFrames base outer
 frf:∀b∈jK outer,H b=none
 hok:lC P w H s.heap
 bare:AllBare s.gens
def CE(outer:List Env)(P:O7)(w:World)(H:Hp)(s:Shared)(Q:VK)(u:Value)(a:Shared):Prop:=∃v b,a.os=s.os/\AllBare a.gens/\Un (jK outer) [] H b s.heap a.heap/\lC P w b a.heap/\aV v u/\Q v b
def CR(c:zM)(outer:List Env)(P:O7)(w:World)(H:Hp)(s:Shared)(Q:VK)(E:XK)(r:Result)(a:Shared):Prop:=match r with|.ok (.ret u)=>CE outer P w H s Q u a|.ok _=>False|.error e=>c outer H s E e a
structure aP(P:O7)(w:World)(K:O2)(mg:O5)(base:Heap)(CX:zM)(k:Nat)(f:Addr)(fd:FuncData)(ps:O8)(sp:Sp):Prop where
 len:∀vs H Q E,sp vs H Q E->vs.length=ps.length
 run:∀(A:Around)(outer:List Env)(s:Shared)(H:Hp)(args:Args)(us:O6)(vs:List V)(Q:VK)(E:XK),eS k A->AU P w K mg base A outer s H->BindsTo s fd args (ps.zip us)->a0 vs us->sp vs H Q E->codeAny (model P w) A (.call (.ref f) args) (CR CX outer P w H s Q E) s
theorem aP.mono{P:O7}{w:World}{K:O2}{mg:O5}{base:Heap}{c:zM}{j k:Nat}{f:Addr}{fd:FuncData}{d:O8}{sp:Sp}(F:aP P w K mg base c j f fd d sp)(h:j<=k):aP P w K mg base c k f fd d sp:={F.len,λA outer s H a b e Q E g=>F.run A outer s H a b e Q E (g.mono h)}
def AU.make{P:O7}{w:World}{K:O2}{mg:O5}{base:Heap}{A:Around}{outer:List Env}{s:Shared}{H:Hp}(e:AU P w K mg base A outer s H)(C:Addr)(a:O6)(c:List (Str×Value)):AU P w K mg base (A.under (.builtin "type.__call__" {.ref C::a,c})) outer s H:={by first|show e.frames|(simpa[Around.under,Code.envs,Code.isFrame,pushEnvs]using e.frames),e.mod,e.bs,e.bsz,e.funs,e.frf,e.hok,e.bare}
section
variable{X:Cx}{a:O4}{e:St}{H:Hp}{s c:Shared}
def aO.env0(I:aO X a e H s):AU X.prog X.w X.K X.mg X.base X.A X.stack s H:={I.ok.frames,I.ok.mod,I.bs,iA I.ok.bsz I.sz,I.stack,I.stkFree,I.hok,I.bare}
def aO.after(I:aO X a e H s)(h:CE X.stack X.prog X.w H s Q u c):EP X a e Q u c:=by obtain⟨v,i,os,bare,un,hok,r,q⟩:=h;obtain⟨hh,g,d,t,f⟩:=c;obtain rfl:f=s.os:=os;show{v,i,I.call (h':=hh) (g':=g) (d':=d) (t':=t) (ch:=[]) un hok bare (λb z=>absurd z (by simp)),r,q}
end
def HQ(sp:Sp)(a:List V)(E:XK)(t:TA):TE:=λb H Q=>t b H λc d=>sp (c++a) d Q E
def C5(C:Addr)(m:Str)(sp:Sp)(c:List V)(E:XK)(e:TE)(t:TA):TE:=λb H Q=>e b H λx d=>∃a dx fs,x=.ref a/\d a=some (.ins C dx fs)/\fs.lookup m=none/\t b d λf g=>sp (x::(f++c)) g Q E
def K7(C:Addr)(sp:Sp)(a:List V)(E:XK)(t:TA):TE:=λc H Q=>t c H λd b=>∀x dx,b x=none->b dx=none->dx≠x->sp (.ref x::(d++a)) (aH (aH b dx (.own x)) x (.ins C dx [])) (λv e=>v=.non/\Q (.ref x) e) E
def fU(K:O2)(fd:FuncData)(c:O8)(ds:O6):Prop:=∀(s:Shared)(a:O6),K.In s.heap->(a++ds).length=c.length->BindsTo s fd {a,[]} (c.zip (a++ds))
def fU.all{K:O2}{fd:FuncData}{c:O8}(h:∀a:List Value,a.length=c.length->bindArgs fd {a,[]}=pure (c.zip a)):fU K fd c []:=λs a _ b=>by rw[nB]at b⊢;show .of_eq (h a b)
def mq(c:zM)(X:Cx)(E:XK):Prop:=∀(a:O4)(d:St)(H:Hp)(s:Shared)(e:Value)(b:Shared),aO X a d H s->c X.stack H s E e b->X.xe e b
section
variable{X:Cx}{n:zM}{k:Nat}{f C:Addr}{fd:FuncData}{j:O8}{sp:Sp}{g:List V}{ds:O6}{E:XK}{x m:Str}{p d i:Pos}{e o:Expr}{es:O9}{y:TE}{t:TA}
def zY(F:aP X.prog X.w X.K X.mg X.base n k f fd j sp)(l:eS k X.A)(q:fU X.K fd j ds)(hd:a0 g ds)(v:mq n X E)(I:aO X a c H s)(r:a0 vs us)(h:sp (vs++g) H Q E):wpAny (model X.prog X.w) X.A (call (.ref f) us) (EP X a c Q) X.xe s:=by
 have r2:a0 (vs++g) (us++ds):=r.append hd;have z:(us++ds).length=j.length:=by rw[<-r2.length];show F.len _ _ _ _ h
 show wpAny_call (z7 (F.run X.A X.stack s H {us,[]} (us++ds) (vs++g) Q E l I.env0 (q s us I.kIn z) r2 h) λr B b=>?_);cases r with|error e=>show v a c H s e B I b|ok D=>cases D with|ret u=>show I.after b|next=>show False.elim b|brk=>show False.elim b|cont=>show False.elim b
def bR(F:aP X.prog X.w X.K X.mg X.base n k f fd j sp)(u:eS k X.A)(hg:Gl X x)(hm:X.mg x=some (.ref f))(v:PySem.W.keepIn X.K (.ref f)=true)(z:fU X.K fd j ds)(hd:a0 g ds)(B:mq n X E)(D:PA X (e::es) t)(c:(x==("__debug__":Str))=false:=by decide)(G:starEach (e::es) X.env=(false,eval e X.env)::starEach es X.env:=by rfl)(l:(backTo d (starEach es X.env)).any (·.1)=false:=by rfl):PE X (.Call (.Name x p) (e::es) [] d) (HQ sp g E t):=by intro a s J H Q I h;show tA (mE I hg hm ?_ c);show PySem.W.callWith_K (h₀:=X.base) I.ok.mod.kin v (cq (D d a s J H _ I h) λL M⟨N,O,I1,r,q⟩=>{I1.kIn,?_}) G l;show zY F u z hd B I1 r q
def aU(N:PE X o y)(c:x9 X.K C)(hm:FE X.K C m f)(F:aP X.prog X.w X.K X.mg X.base n k f fd j sp)(P:eS k X.A)(R:fU X.K fd j ds)(hd:a0 g ds)(S:mq n X E)(T:PA X (e::es) t)(v:starEach (e::es) X.env=(false,eval e X.env)::starEach es X.env:=by rfl)(z:(backTo d (starEach es X.env)).any (·.1)=false:=by rfl)(Z:eval (.Call (.Attribute o m i) (e::es) [] d) X.env=(do
   let B<-eval o X.env
   standAt i.atName let(f,first)<-holding [B] (getMethod B m pl)callWith d f first (backTo d (starEach (e::es) X.env)) (backToKw d (keywordEach [] X.env))):=by rfl):PE X (.Call (.Attribute o m i) (e::es) [] d) (C5 C m sp g E y t):=by intro b s D H Q I h;show PySem.W.methodCall_KW (pl:=pl) (cq (N b s D H _ I h) λu O⟨x,U,I1,Y,a,dx,fs,ex,ea,l,q⟩=>?_) Z;subst ex;obtain rfl:u=Value.ref a:=Y;show nY I1 ea c hm l ?_;show PySem.W.callWith_K (first:=[.ref a]) (h₀:=X.base) I.ok.mod.kin hm.kp (cq (T d b O D U _ I1 q) λJ s2⟨L,H2,M,r,q2⟩=>{M.kIn,?_}) v z;show zY (us:=.ref a::J) (vs:=.ref a::L) F P R hd S M (.cons () r) q2
def eB(v:PE X o y)(c:x9 X.K C)(hm:FE X.K C m f)(F:aP X.prog X.w X.K X.mg X.base n k f fd j sp)(z:eS k X.A)(B:fU X.K fd j ds)(hd:a0 g ds)(D:mq n X E)(G:eval (.Call (.Attribute o m i) [] [] d) X.env=(do
   let r<-eval o X.env
   standAt i.atName let(f,first)<-holding [r] (getMethod r m pl)callWith d f first (backTo d (starEach [] X.env)) (backToKw d (keywordEach [] X.env))):=by rfl):PE X (.Call (.Attribute o m i) [] [] d) (C5 C m sp g E y K6):=by intro b s J H Q I h;show PySem.W.methodCall_KW (pl:=pl) (cq (v b s J H _ I h) λu N⟨x,O,I1,L,a,dx,fs,ex,M,l,q⟩=>?_) G;subst ex;obtain rfl:u=Value.ref a:=L;show nY I1 M c hm l ?_;show PySem.W.callWith_K0 (first:=[.ref a]) I1.kIn hm.kp (zY (us:=[.ref a]) (vs:=[.ref a]) F z B hd D I1 (.cons () .nil) q)
structure Mk(K:O2)(C f:Addr):Prop where
 makes:PySem.W.makesIn K C=true
 init:PySem.W.findIn K (.ref C) "__init__"=some (some (.ref f))fn:PySem.W.isFn K (.ref f)=true
 kp:PySem.W.keepIn K (.ref C)=true
def DO(M:Mk X.K C f)(F:aP X.prog X.w X.K X.mg X.base n k f fd j sp)(D:eS (k+1) X.A)(G:fU X.K fd j ds)(hd:a0 g ds)(J:mq n X E)(I:aO X c q H s)(r:a0 z l)(h:∀x dx,H x=none->H dx=none->dx≠x->sp (.ref x::(z++g)) (aH (aH H dx (.own x)) x (.ins C dx [])) (λv L=>v=.non/\Q (.ref x) L) E):wpAny (model X.prog X.w) X.A (call (.ref C) l) (EP X c q Q) X.xe s:=by
 have B:=h (s.heap.objs.size+1) s.heap.objs.size (I.hok.fresh (p_ _)) (I.hok.fresh (e_ _)) (ir (si _));have b:=aO.made (C:=C) I;have r2:a0 (V.ref (s.heap.objs.size+1)::(z++g)) (Value.ref (s.heap.objs.size+1)::(l++ds)):=.cons () (r.append hd);have N:(Value.ref (s.heap.objs.size+1)::l++ds).length=j.length:=by have e:=r2.length;rw[F.len _ _ _ _ B]at e;show e.symm
 show wpAny_call (Et (f:=f) I.kIn M.makes M.init (beq_iff_eq.mp M.fn) (z7 (F.run _ X.stack _ _ {Value.ref (s.heap.objs.size+1)::l,[]} (Value.ref (s.heap.objs.size+1)::(l++ds)) _ _ E (D.make C l []) (b.env0.make C l []) (G _ (Value.ref (s.heap.objs.size+1)::l) b.kIn N) r2 B) λr O a=>?_))
 cases r with|error e=>show J c q _ _ e O b a|ok P=>cases P with|ret u=>obtain⟨v,R,S,T,U,W⟩:=b.after a;subst U;show{T,{V.ref (s.heap.objs.size+1),R,S,(),W}}|next=>show False.elim a|brk=>show False.elim a|cont=>show False.elim a
def pq(M:Mk X.K C f)(F:aP X.prog X.w X.K X.mg X.base n k f fd j sp)(u:eS (k+1) X.A)(hg:Gl X x)(hm:X.mg x=some (.ref C))(v:fU X.K fd j ds)(hd:a0 g ds)(z:mq n X E)(B:PA X (e::es) t)(c:(x==("__debug__":Str))=false:=by decide)(D:starEach (e::es) X.env=(false,eval e X.env)::starEach es X.env:=by rfl)(l:(backTo d (starEach es X.env)).any (·.1)=false:=by rfl):PE X (.Call (.Name x p) (e::es) [] d) (K7 C sp g E t):=by intro a s G H Q I h;show tA (mE I hg hm ?_ c);show PySem.W.callWith_K (h₀:=X.base) I.ok.mod.kin M.kp (cq (B d a s G H _ I h) λJ L⟨N,O,I1,r,q⟩=>{I1.kIn,?_}) D l;show DO M F u v hd z I1 r q
end
structure av(N P:O8)(sc:Scope):Prop where
 kind:sc.kind=.function
 co:sc.isCoroutine=false
 gen:sc.isGenerator=false
 nd:N.Nodup
 pre:N.take P.length=P
 par:∀x∈P,sc.names.lookup x=some .local\/sc.names.lookup x=some .cell
 nofree:∀y∈sc.names,y.2≠.free
theorem wU{kindOf:Str->Option NameKind}{x:Str}:∀{binds:List (Str×Value)}{m:O5},(∀v,(x,v)∉binds)->bindL kindOf binds m x=m x
 |[],_,_=>()|(n,v)::r,m,h=>by
  unfold bindL;rw[wU λw a=>h w (il _ a)]
  split
  ·have:x≠n:=by rintro rfl;show h v i_
   simp[this]
  ·rfl
theorem wW{kindOf:Str->Option NameKind}{x:Str}:∀{binds:List (Str×Value)}{m:O5},(∀v,(x,v)∉binds)->bindC kindOf binds m x=m x
 |[],_,_=>()|(n,v)::r,m,h=>by
  unfold bindC;rw[wW λw a=>h w (il _ a)]
  split
  ·rfl
  ·have:x≠n:=by rintro rfl;show h v i_
   simp[this]
theorem wV{kindOf:Str->Option NameKind}{x:Str}{v:Value}:∀{P:O8}{a:O6}{i:Nat}{m:O5},P.Nodup->P[i]?=some x->a[i]?=some v->kindOf x=some .local->bindL kindOf (P.zip a) m x=some v|[],_,_,_,_,h,_,_=>by simp at h|_::_,[],_,_,_,_,h,_=>by simp at h|p::P,w::a,0,m,nd,h1,h2,b=>by simp at h1 h2;subst h1;subst h2;change bindL kindOf ((p,w)::P.zip a) m p=_;unfold bindL;rw[wU λv c=>(OY.mp nd).1 (NH c).1,g6 b];simp|p::P,w::a,i+1,m,nd,h1,h2,b=>by change bindL kindOf ((p,w)::P.zip a) m x=_;unfold bindL;show wV (i:=i) (OY.mp nd).2 (by simpa using h1) (by simpa using h2) b
theorem wX{kindOf:Str->Option NameKind}{x:Str}{v:Value}:∀{P:O8}{a:O6}{i:Nat}{m:O5},P.Nodup->P[i]?=some x->a[i]?=some v->kindOf x≠some .local->bindC kindOf (P.zip a) m x=some v|[],_,_,_,_,h,_,_=>by simp at h|_::_,[],_,_,_,_,h,_=>by simp at h|p::P,w::a,0,m,nd,h1,h2,b=>by simp at h1 h2;subst h1;subst h2;change bindC kindOf ((p,w)::P.zip a) m p=_;unfold bindC;rw[wW λv c=>(OY.mp nd).1 (NH c).1,g_ b];simp|p::P,w::a,i+1,m,nd,h1,h2,b=>by change bindC kindOf ((p,w)::P.zip a) m x=_;unfold bindC;show wX (i:=i) (OY.mp nd).2 (by simpa using h1) (by simpa using h2) b
def iX(N:O8)(a:List V):St:=a.map some++List.replicate (N.length-a.length) none
def qJ(c:zM)(P:O7)(w:World)(K:O2)(mg:O5)(base:Heap)(N:O8)(a:Str)(scope:Scope)(f:Addr)(cd:Value)(A:Around)(outer:List Env)(s:Shared)(H:Hp)(E:XK):Cx where
 prog:=P
 w:=w
 K:=K
 mg:=mg
 base:=base
 A:=A.deeper (envOfC a scope s.heap.objs.size f cd)
 N:=N
 s₀:=s
 H₀:=H
 env:=envOfC a scope s.heap.objs.size f cd
 outer:=outer
 stack:=envOfC a scope s.heap.objs.size f cd::outer
 ex:=[]
 calm:=true
 fn:=λ_=>true
 pn:=[]
 xe:=λe d=>wpAny (model P w) (A.deeper (envOfC a scope s.heap.objs.size f cd)) (leaving (envOfC a scope s.heap.objs.size f cd) e) (λ_ b=>c outer H s E e b) (λg b=>c outer H s E g b) d
def zx{a:Scope}{n:Nat}{x:Str}(h:a.names.lookup x=some .cell):∃c,(cellsFrom n a.names []).lookup x=some c:=by have q:=PySem.W.cellsFrom_some a.names n [] (.inl h);show t0.mp q
def Cu{D:zM}{P:O7}{w:World}{K:O2}{mg:O5}{base:Heap}{N j:O8}{d:Str}{scope:Scope}{f:Addr}{cd:Value}{A:Around}{outer:List Env}{s F:Shared}{H:Hp}{E:XK}{C:O6}{l:List V}(S:av N j scope)(hd:A.handled=none)(g:AU P w K mg base A outer s H)(Q:l.length=j.length)(r:a0 l C)(x:InCallC s s.heap.objs.size (bindL (envOfC d scope s.heap.objs.size f cd).kindOf (j.zip C) λ_=>none) (cellsFrom (s.heap.objs.size+1) scope.names []) (bindC (envOfC d scope s.heap.objs.size f cd).kindOf (j.zip C) λ_=>none) F):aO (qJ D P w K mg base N d scope f cd A outer s H E) [] (iX N l) H F:=by
 have J:j.length<=N.length:=by have:=pa List.length S.pre;rw[k4]at this;lia
 obtain⟨h1,tk,rfl,G⟩:=x.done;have m:∀b:Addr,b∉(qJ D P w K mg base N d scope f cd A outer s H E).ex:=λb z=>absurd (show b∈([]:Pb)from z) (by simp);show{{g.mod,S.kind,(),(),e_ _,λy z c h1 h2=>?_,λy o=>?_,λy c _ h=>?_,λ_=>hd,Around.frames_deeper g.frames,.inr {(),()},λb z=>absurd z (m b),g.bs,g.bsz,λb _ _=>m b,λb z=>absurd z (m b),g.funs,g.frf},(),g.bare,Un.kept G,{_,x.toInCall.ns,λi y v h1 h2 h3=>?_},λy c h=>{_,x.cell y c h},g.hok.fresh (e_ _),λy c h=>?_,λp t=>absurd (show p∈([]:O4)from t) (by simp),g.hok.kept G,?_}
 ·show name_of_addr x.apart (PySem.mem_of_lookup h1) (PySem.mem_of_lookup h2)
 ·have o:scope.names.lookup y=some .cell\/scope.names.lookup y=some .free:=o;rcases o with o|o
  ·show zx o
  ·show absurd () (S.nofree _ (PySem.mem_of_lookup o))
 ·show sT (x.above y c (PySem.mem_of_lookup h))
 ·have hi:i<l.length:=by
   unfold iX at h2
   by_cases hi:i<l.length
   ·show hi
   ·rw[y_ (by simpa using hi)]at h2;rw[List.getElem?_replicate]at h2
    split at h2<;>cases h2
  have L:l[i]?=some v:=by unfold iX at h2;rw[rk (by simpa using hi),ge]at h2;cases e:l[i]?with|none=>rw[e]at h2;cases h2|some a=>rw[e]at h2;cases h2;rfl
  obtain⟨u,I,M⟩:=r.get L;have t:j[i]?=some y:=by rw[<-S.pre,N6 (by lia)];show h1
  have B:j.Nodup:=by rw[<-S.pre];show S.nd.sublist (NZ _ _)
  show{u,M,?_};rcases S.par y (f_ t)with k|k
  ·show .inl {k,wV B t I k}
  ·obtain⟨c,e⟩:=zx (n:=s.heap.objs.size+1) k;show .inr {.inl k,c,e,?_};have q:=x.cell y c e;rw[wX B t I (by change scope.names.lookup y≠_;rw[k];decide)]at q;show q
 ·show g.hok.fresh (sT (x.above y c (PySem.mem_of_lookup h)))
 ·unfold iX;change _=N.length;rw[hQ,b_,Nq];lia
def HZ{F:zM}{P:O7}{w:World}{K:O2}{mg:O5}{base:Heap}{k:Nat}{f:Addr}{j a:Str}{d:Arguments}{g:List Stmt}{scope:Scope}{X kV B pm c ct oc:Value}{Z od:Option Addr}{L:Array (Option Value)}{N G:O8}{sp:Sp}(lk:K.lookup f=some {oc,od,.func (PySem.W.fnOf j a d g scope X kV B pm Z c ct),L})(M:PySem.W.codeIn K c a=true)(S:av N G scope)(len:∀h H Q E,sp h H Q E->h.length=G.length)(m:∀(A:Around)(outer:List Env)(s:Shared)(H:Hp)(h:List V)(Q:VK)(E:XK),eS k (A.deeper (envOfC a scope s.heap.objs.size f c))->sp h H Q E->∃t,u5 (qJ F P w K mg base N a scope f c A outer s H E) g t/\t {nx:=λ_ l=>Q .non l,rt:=Q} (iX N h) H):aP P w K mg base F (k+1) f (PySem.W.fnOf j a d g scope X kV B pm Z c ct) G sp:=by
 show{len,λA outer s H Y us h Q E O C hb r D=>?_};have hl:=len _ _ _ _ D;have KX:K.In s.heap:=C.mod.kin.keeps λb o e=>(C.bs b o e).1;have R:s.heap.NoLimit:=C.mod.nolimit.keeps λb o e=>(C.bs b o e).1;have p:∀y∈G.zip us,scope.names.lookup y.1=some .local\/(scope.names.lookup y.1=some .cell/\((cellsFrom (s.heap.objs.size+1) scope.names []).lookup y.1).isSome=true):=λ⟨n,v⟩hy=>by
  rcases S.par n (NH hy).1 with q|q
  ·show .inl q
  ·show .inr {q,PySem.W.cellsFrom_some _ _ _ (.inl q)}
 show codeAny_call_function O.depth (KX _ _ lk) () S.co S.gen () (PySem.W.codeRec_of KX M) (hb _ _ _ _ ?_);show wpAny_newFunctionEnv_cells S.kind p λenv he s1 x=>?_;subst he;show{R.keeps x.toInCall.keep,codeAny_func ?_};obtain⟨t,ht,hq⟩:=m A outer s H h Q E (O.deeper _) D;have I:aO (qJ F P w K mg base N a scope f c A outer s H E) [] (iX N h) H s1:=Cu S O.hd C hl r x;show wpAny_mono (ht [] s1 (iX N h) H _ I hq) (λfl T z=>?_) λe T z=>z;have fin:∀{i:St}{l:Hp}{v:V}{u:Value},aO (qJ F P w K mg base N a scope f c A outer s H E) [] i l T->aV v u->Q v l->CE outer P w H s Q u T:=λ{i l v u}J U q=>(v,l,J.os,J.bare,J.base,J.hok,U,q,)
 cases fl with|ret u=>obtain⟨v,i,l,J,U,q⟩:=z;show fin J U q|next=>obtain⟨i,l,J,q⟩:=z;show fin (v:=V.non) (u:=Value.none) J () q|brk=>obtain⟨_,_,_,q⟩:=z;show False.elim q|cont=>obtain⟨_,_,_,q⟩:=z;show False.elim q
section
variable{X:Cx}{x:Str}{p a:Pos}{e:Expr}{es:O9}{t:TA}{id T:String}{r:List V->Hp->VK->Prop}
def tCB(r:List V->Hp->VK->Prop)(t:TA):TE:=λb H Q=>t b H λc d=>r c d Q
def aB(hc:df X (.builtin id) r)(hg:Gl X x)(hm:X.mg x=none)(g:bootBuiltins x=some (.builtin id))(i:PA X (e::es) t)(hn:x≠"__name__":=by decide)(c:(x==("__debug__":Str))=false:=by decide)(j:starEach (e::es) X.env=(false,eval e X.env)::starEach es X.env:=by rfl)(d:(backTo a (starEach es X.env)).any (·.1)=false:=by rfl):PE X (.Call (.Name x p) (e::es) [] a) (tCB r t):=by intro b s f H Q I h;show tA (kS I hg hm g ?_ hn c);show PyProof.Rows.callWith_builtin1 (cq (i a b s f H _ I h) λk l⟨m,n,I1,o,q⟩=>hc b l f n m k Q I1 o q) j d
def cE(hc:df X (.type T) r)(hg:Gl X x)(hm:X.mg x=none)(g:bootBuiltins x=some (.type T))(i:PA X (e::es) t)(hn:x≠"__name__":=by decide)(c:(x==("__debug__":Str))=false:=by decide)(j:starEach (e::es) X.env=(false,eval e X.env)::starEach es X.env:=by rfl)(d:(backTo a (starEach es X.env)).any (·.1)=false:=by rfl):PE X (.Call (.Name x p) (e::es) [] a) (tCB r t):=by intro b s f H Q I h;show tA (kS I hg hm g ?_ hn c);show x3 (cq (i a b s f H _ I h) λk l⟨m,n,I1,o,q⟩=>hc b l f n m k Q I1 o q) j d
end
end L2
namespace HT
open PySem PyProof.Rows
section
variable{prog:O7}{w:World}{A:Around}{E:O3}{s:Shared}
def Hv(p:IsTup s.heap t d.toArray)(q:IsTup s.heap b a.toArray)(m:d≠[])(h1:a=[]->Q (.ref t) s)(h2:a≠[]->Q (.ref s.heap.objs.size) {s with heap:=s.heap.push {cls:=.type "tuple",data:=.seq (d++a).toArray}})(l:d.length+a.length<=sizeLine):wpAny (model prog w) A (binaryOp .Add (.ref t) (.ref b)) Q E s:=by
 obtain⟨⟨cls,dd,data,sl⟩,j,hc,n,hd⟩:=id p;obtain⟨⟨o,f,data2,g⟩,c,h,n2,i⟩:=id q;simp only at hc hd h i;subst hc hd h i;have e:d.toArray++a.toArray=(d++a).toArray:=by simp
 by_cases k:a=[]
 ·show concat_meets {_,j,()} {_,c,()} noFill_tuple_add seq_tuple_add PySem.F.slot_tuple_add PySem.F.entry_tuple_add (PySem.F.args_tuple_add_2 _ _) (tuple_addW1 t b d.toArray a.toArray n n2 dd f sl g (by simpa using m) (by simp[k])) {j,c,h1 k}
 ·show concat_meets {_,j,()} {_,c,()} noFill_tuple_add seq_tuple_add PySem.F.slot_tuple_add PySem.F.entry_tuple_add (PySem.F.args_tuple_add_2 _ _) (tuple_addW2 t b d.toArray a.toArray n n2 dd f sl g (by simpa using m) (by simpa using k) (by rw[h_,h_];show l)) {j,c,?_}
  rw[e];show h2 k
def ip(n d:Nat):Option Int->Nat|none=>d|some v=>if v<0 then(v+(n:Int)).toNat else min v.toNat n
def DN(n d:Nat):ip n d none=d:=rfl
def Ji(n d:Nat)(hd:d<=n)(o:Option Int):ip n d o<=n:=by cases o with|none=>show hd|some v=>
  change(if v<0 then(v+(n:Int)).toNat else min v.toNat n)<=n
  by_cases a:v<0
  ·rw[g6 a];lia
  ·rw[g_ a];show Nr _ _
def By(v:Int)(n d:Nat):(if v<0 then max (v+(n:Int)) 0 else min v (n:Int))=((ip n d (some v):Nat):Int):=by
 change(if v<0 then max (v+(n:Int)) 0 else min v (n:Int))=(((if v<0 then(v+(n:Int)).toNat else min v.toNat n):Nat):Int)
 by_cases a:v<0
 ·simp only[g6 a];lia
 ·simp only[g_ a];lia
def AQ(lo hi:Option Int)(n:Nat):Builtin.Slice.sliceAdjust lo hi 1 (n:Int)=(((ip n 0 lo:Nat):Int),((ip n n hi:Nat):Int)):=by
 have h1:¬((1:Int)<0):=by lia
 unfold Builtin.Slice.sliceAdjust;simp only[h1,Ny];show Prod.ext ?_ ?_
 ·cases lo with|none=>rfl|some v=>show By v n 0
 ·cases hi with|none=>rfl|some v=>show By v n n
def Ad(i j:Nat):Builtin.Slice.slicePlaces (i:Int) (j:Int) 1=j-i:=by
 unfold Builtin.Slice.slicePlaces;have h1:(1:Int)>0:=by lia
 simp only[h1,OI,Int.ediv_one]
 split<;>lia
def sZ(p:IsPart v o)(h:Q o s):wpAny (model prog w) A (Builtin.Slice.slicePartIndex v) Q E s:=by cases p with|none=>show slicePart_none h|int i t=>show slicePart_int h
def qh{sl:Addr}{c d:Value}{lo hi:Option Int}{n:Nat}{Q:Int×Int×Nat->Shared->Prop}(e:s.heap.IsSliceOf sl c d .none)(pl:IsPart c lo)(f:IsPart d hi)(h:Q (((ip n 0 lo:Nat):Int),1,ip n n hi-ip n 0 lo) s):wpAny (model prog w) A (Builtin.Slice.sliceApplied (.ref sl) (pure (n:Int))) Q E s:=by obtain⟨os,a,g,b⟩:=id e;unfold Builtin.Slice.sliceApplied Builtin.Slice.sliceFields;show a_ (a_ (sg a b (x:=c) () (a_ (sg a b (x:=d) () (a_ (sg a b (x:=.none) () (fx ?_)))))));show a_ (slicePart_none ?_);change wpAny _ _ (if((1:Int)==0)=true then _ else _) _ _ s;rw[g_ (by decide)];show a_ (sZ pl (a_ (sZ f (a_ (fx ?_)))));change wpAny _ _ (match Builtin.Slice.sliceAdjust lo hi 1 (n:Int)with|(lo,hi)=>pure (lo,(1:Int),Builtin.Slice.slicePlaces lo hi 1)) _ _ s;rw[AQ lo hi n];change wpAny _ _ (pure (((ip n 0 lo:Nat):Int),(1:Int),Builtin.Slice.slicePlaces ((ip n 0 lo:Nat):Int) ((ip n n hi:Nat):Int) 1)) _ _ s;rw[Ad];show fx h
def DV(a:O_)(i k:Nat):((List.range k).filterMap λ(m:Nat)=>a[((i:Int)+(m:Int)*1).toNat]?).toArray=((a.toList.drop i).take k).toArray:=by
 have e:(λ(m:Nat)=>a[((i:Int)+(m:Int)*1).toNat]?)=λm=>a[i+m]?:=by
  funext m
  have:((i:Int)+(m:Int)*1).toNat=i+m:=by lia
  rw[this]
 rw[e];have:=pick_run a i k;rw[List.filterMap_map]at this;have b:((λx=>a[x]?)∘λx=>i+x)=λm=>a[i+m]?:=();rw[b]at this;rw[this]
def pO{t sl:Addr}{a:O_}{i j:Value}{lo hi:Option Int}{Q:O3}(c:IsTup s.heap t a)(l:s.heap.IsSliceOf sl i j .none)(pl:IsPart i lo)(n:IsPart j hi)(o:¬(ip a.size 0 lo=0/\ip a.size a.size hi=a.size))(h:Q (.ref s.heap.objs.size) {s with heap:=s.heap.push {cls:=.type "tuple",data:=.seq ((a.toList.drop (ip a.size 0 lo)).take (ip a.size a.size hi-ip a.size 0 lo)).toArray}})(p:a.size<=sizeLine):wpAny (model prog w) A (getItem (.ref t) (.ref sl)) Q E s:=by
 have b:sizeOk (.seq ((a.toList.drop (ip a.size 0 lo)).take (ip a.size a.size hi-ip a.size 0 lo)).toArray):=by change((a.toList.drop (ip a.size 0 lo)).take (ip a.size a.size hi-ip a.size 0 lo)).toArray.size<=sizeLine;rw[h_,k4,Nu,kw];lia
 have u:ip a.size a.size hi<=a.size:=Ji _ _ (e_ _) hi;obtain⟨os,d,e,r⟩:=id l;have f:s.TypeIs (.ref sl) "slice":=(os,d,e,);unfold getItem
 try with_reducible show oa ?_
 first|show a_ (fx ?_)|skip
 show a_ (wpAny_sequenceKey c.typeIs (by decide) ?_);show a_ (o8 (name:=Str.ofString "__getitem__") c.typeIs OO (ol OO c.typeIs entry_tuple_getitem ?_ (args_tuple_getitem _ _)))
 change wpAny _ _ (Builtin.Tuple.tupleItemsOf (.ref t)>>=_) _ _ s;show a_ (tupleItemsOf_ c ?_);show a_ (OG f ?_);rw[g6 (by decide)];show a_ (qh l pl n ?_);have g:¬((((ip a.size 0 lo:Nat):Int)==0&&(1:Int)==1&&(ip a.size a.size hi-ip a.size 0 lo)==a.size)=true):=by intro q;rw[k_,k_]at q;have v:((ip a.size 0 lo:Nat):Int)=0:=eq_of_beq q.1.1;have x:ip a.size a.size hi-ip a.size 0 lo=a.size:=eq_of_beq q.2;show o {by lia,by lia}
 change wpAny _ _ (if(((ip a.size 0 lo:Nat):Int)==0&&(1:Int)==1&&(ip a.size a.size hi-ip a.size 0 lo)==a.size)=true then _ else _) _ _ s;rw[g_ g,DV]
 first|show a_ (m:=Builtin.Tuple.tupleExact _) (oD (fx {_,(),fx h}) b)|show a_ (m:=Builtin.Tuple.tupleExact _) (oD (a_ (fx (fx {_,(),fx h}))) b)|show a_ (a_ (m:=Builtin.Tuple.tupleExact _) (oD (fx (fx {_,(),fx h})) b))|show a_ (a_ (m:=Builtin.Tuple.tupleExact _) (oD (fx {_,(),fx h}) b))
end
end HT
namespace L2
open PySem PySem.Spec PyProof.Rows
abbrev TO:=St->Hp->(Option Int->Hp->Prop)->Prop
def PO(X:Cx)(e:Option Expr)(t:TO):Prop:=∀(a:O4)(s:Shared)(b:St)(H:Hp)(Q:Option Int->Hp->Prop),aO X a b H s->t b H Q->wpAny (model X.prog X.w) X.A (evalPart e X.env) (λu d=>∃o c,aO X a b c d/\IsPart u o/\Q o c) X.xe s
def FR:TO:=λ_ H Q=>Q none H
def K4(t:TE):TO:=λa H Q=>t a H λx b=>∃i,x=.int i/\Q (some i) b
def AA:∀{a:O6},a0 (ns.map V.int) a->IntsAre a ns:=by induction ns with|nil=>intro a r;rw[NM]at r;cases r;show .nil|cons n ns b=>intro a r;rw[lm]at r;cases r with|cons c r2=>obtain⟨t,e⟩:=c;subst e;show .cons n t (b r2)
section
variable{X:Cx}{e:Expr}{te:TE}{lo hi:Option Expr}{tl d:TO}{f c:Pos}
def ix:PO X none FR:=by intro a s b H Q I h;rw[evalPart_none];show fx {none,H,I,.none,h}
def iw(h:PE X e te):PO X (some e) (K4 te):=by intro a s b H Q I g;rw[evalPart_some];show cq (h a s b H _ I g) λu n j=>?_;obtain⟨x,k,I1,l,m⟩:=j;obtain⟨i,rfl,q⟩:=m;obtain⟨t,rfl⟩:=l;show{some i,k,I1,.int i t,q}
def KO(X:Cx)(r:V->Option Int->Option Int->Hp->VK->Prop):Prop:=∀(a:O4)(s:Shared)(b:St)(H:Hp)(x:V)(v g h:Value)(lo hi:Option Int)(sl:Addr)(Q:VK),aO X a b H s->aV x v->s.heap.IsSliceOf sl g h .none->IsPart g lo->IsPart h hi->r x lo hi H Q->∃T id,typeLookup (.type T) "__getitem__"=pure (some (.builtin id))/\s.TypeIs v T/\wpAny (model X.prog X.w) X.A (getItem v (.ref sl)) (EP X a b Q) X.xe s
def tSl(r:V->Option Int->Option Int->Hp->VK->Prop)(te:TE)(tl d:TO):TE:=λa H Q=>te a H λx b=>tl a b λl g=>d a g λu h=>r x l u h Q
def fM(o:KO X r)(p:PE X e te)(t:PO X lo tl)(y:PO X hi d):PE X (.Subscript e (.Slice lo hi none c) f) (tSl r te tl d):=by intro a s i H Q I h;show Subscript_ (cq (p a s i H _ I h) λv z j=>?_);obtain⟨x,B,I1,C,D⟩:=j;show wpAny_Slice (cq (t a z i B _ I1 D) λk E j=>?_);obtain⟨l,F,G,pl,J⟩:=j;show cq (y a E i F _ G J) λm g j=>?_;obtain⟨u,n,K,L,M⟩:=j;rw[evalPart_none];show fx ?_;have N:aO X a i n {g with heap:=g.heap.push {cls:=.type "slice",data:=.fields #[k,m,.none]}}:=K.kept (t':=g.toks) λb ob q=>c_ _ q;obtain⟨T,id,O,P,hg⟩:=o a {g with heap:=g.heap.push {cls:=.type "slice",data:=.fields #[k,m,.none]}} i n x v k m l u g.heap.objs.size Q N C (Heap.IsSliceOf.new ..) pl L M;change wpAny (model X.prog X.w) X.A (subscriptTail e (.Slice lo hi none c) v (.ref g.heap.objs.size)) (EP X a i Q) X.xe {g with heap:=g.heap.push {cls:=.type "slice",data:=.fields #[k,m,.none]}};show tail_any (ops:=[.ref g.heap.objs.size,v]) P O hg (by with_unfolding_all rfl)
def vH(a:List V)(lo hi:Option Int):List V:=(a.drop (HT.ip a.length 0 lo)).take (HT.ip a.length a.length hi-HT.ip a.length 0 lo)
def rH(a:List V)(lo hi:Option Int):(vH a lo hi).length<=a.length:=by unfold vH;rw[k4,Nu];lia
def Lq(K:O2):V->Option Int->Option Int->Hp->VK->Prop:=λx lo hi H Q=>∃a b,x=.ref a/\aY K H a b/\¬(HT.ip b.length 0 lo=0/\HT.ip b.length b.length hi=b.length)/\∀p,H p=none->Q (.ref p) (aH H p (.tup (vH b lo hi)))
def Je:KO X (Lq X.K):=by
 intro k s y H x v z A lo hi sl Q I n p pl t h;obtain⟨a,i,rfl,u,w,q⟩:=h;cases n;obtain⟨j,r,l,m⟩:=I.tuple u;have g:j.toArray.size=i.length:=by rw[h_];show r.length.symm
 show{"tuple",_,PyProof.Rows.slot_tuple_getitem.lookup,l.typeIs,?_};show HT.pO l p pl t (by rw[g];show w) ?_ (by rw[g];show m);rw[g];show{.ref s.heap.objs.size,_,I.laid (t':=s.toks) (o:=.tup (vH i lo hi)) (λb ob q=>c_ _ q) (e_ _) ?_,(),q _ (I.hok.fresh (e_ _))};show{iA (rH i lo hi) m,_,(r.drop (HT.ip i.length 0 lo)).take (HT.ip i.length i.length hi-HT.ip i.length 0 lo),IsTup.new _ _}
def HU(K:O2):R2:=λx y H Q=>∃a b h g,x=.ref a/\y=.ref b/\aY K H a h/\aY K H b g/\h≠[]/\h.length+g.length<=sizeLine/\(g=[]->Q (.ref a) H)/\(g≠[]->∀p,H p=none->Q (.ref p) (aH H p (.tup (h++g))))
def a0.nil_iff(r:a0 a g):g=[]↔a=[]:=by cases r with|nil=>simp|cons _ _=>simp
def GN:lx X (binaryOp .Add) (HU X.K):=by intro i s F H x y v u Q I l m h;obtain⟨a,b,n,p,rfl,rfl,r,t,A,j,B,C⟩:=h;cases l;cases m;obtain⟨D,g,E,_⟩:=I.tuple r;obtain⟨k,r2,c,_⟩:=I.tuple t;show HT.Hv E c (λz=>A (g.nil_iff.mp z)) (λz=>{.ref a,H,I,(),B (r2.nil_iff.mp z)}) (λz=>?_) (by rw[<-g.length,<-r2.length];show j);show{.ref s.heap.objs.size,_,I.laid (t':=s.toks) (o:=.tup (n++p)) (λb ob q=>c_ _ q) (e_ _) ?_,(),C (λw=>z (r2.nil_iff.mpr w)) _ (I.hok.fresh (e_ _))};show{by rw[hQ];show j,_,g.append r2,IsTup.new _ _}
end
def He(n:Nat)(i:Int):Option Nat:=if 0<=i then(if i<n then some i.toNat else none)else if-(n:Int)<=i then some (i+n).toNat else none
def vM{a:Type}(c:List a)(i:Int):Option a:=(He c.length i).bind λj=>c[j]?
def Br(h:He n i=some j):seqIndex? i n=some j/\j<n/\-(n:Int)<=i/\i<n:=by
 unfold He at h
 by_cases h0:0<=i
 ·rw[g6 h0]at h
  by_cases h1:i<n
  ·rw[g6 h1]at h;have e:i.toNat=j:=j1 h;show{by rw[seqIndex_of h0 h1,e],by lia,by lia,h1}
  ·rw[g_ h1]at h;cases h
 ·rw[g_ h0]at h
  by_cases h1:-(n:Int)<=i
  ·rw[g6 h1]at h;have e:(i+n).toNat=j:=j1 h;show{by rw[seqIndex_neg (by lia) h1,e],by lia,h1,by lia}
  ·rw[g_ h1]at h;cases h
def xU(h:vM a i=some v):∃j,seqIndex? i a.length=some j/\a[j]?=some v/\j<a.length/\-(a.length:Int)<=i/\i<a.length:=by unfold vM at h;cases e:He a.length i with|none=>rw[e]at h;cases h|some j=>rw[e]at h;obtain⟨h1,h2,h3,h4⟩:=Br e;show(j,h1,h,h2,h3,h4,)
def xZ(b:Expr):Prop:=∀o i,subscripted b false o i=operate [o,i] (getItem o i)
def KW(X:Cx)(r:R2):Prop:=∀(c a:Expr)(b:O4)(s:Shared)(d:St)(H:Hp)(x y:V)(v u:Value)(Q:VK),aO X b d H s->aV x v->aV y u->r x y H Q->subscripted a false v u=operate [v,u] (getItem v u)->wpAny (model X.prog X.w) X.A (subscriptTail c a v u) (EP X b d Q) X.xe s
def Nd(X:Cx)(id:String)(r:V->List V->Hp->VK->Prop):Prop:=∀(a:O4)(s:Shared)(b:St)(H:Hp)(x:V)(c:List V)(v:Value)(d:O6)(Q:VK),aO X a b H s->aV x v->a0 c d->r x c H Q->wpAny (model X.prog X.w) X.A (call (.builtin id) (v::d)) (EP X a b Q) X.xe s
section
variable{X:Cx}{a b:Expr}{E D:TE}{C:Pos}
def yK(d:KW X r)(e:PE X a E)(f:PE X b D)(g:xZ b):PE X (.Subscript a b C) (KB r E D):=by intro c s i H Q I h;show Subscript_ (Km e f I h λv u j x y k l m n q=>d a b c j i k x y v u Q l m n q (g _ _))
def Jm(K:O2):R2:=λx y H Q=>∃p c i v,x=.ref p/\y=.int i/\aS K H p c/\vM c i=some v/\Q v H
def Jl(K:O2):R2:=λx y H Q=>∃p c i v,x=.ref p/\y=.int i/\aY K H p c/\vM c i=some v/\Q v H
def MT:R2:=λx y H Q=>∃z i c,x=.str z/\y=.int i/\z.length<=sizeLine/\vM z.cps.toList i=some c/\Q (.str {#[c]}) H
def Hc:KW X (Jm X.K):=by
 intro d e c s l H x y v u Q I o A h m;obtain⟨p,M,i,z,rfl,rfl,B,F,q⟩:=h;cases o;obtain⟨t,rfl⟩:=A;obtain⟨f,r,pl,N⟩:=I.list B;obtain⟨j,h1,h2,h3,h4,G⟩:=xU F;obtain⟨w,n,g⟩:=r.get h2;have J:=r.length;have hn:=qv;have fin:EP X c l Q w s:=(z,H,I,g,q,)
 by_cases h0:0<=i
 ·have k:i.toNat=j:=by rw[seqIndex_of h0 G]at h1;show j1 h1
  show item_listR pl.isList h0 (by lia) (by rw[k];simpa using n) fin m
 ·have k:(i+(f.toArray.size:Int)).toNat=j:=by rw[seqIndex_neg (by lia) h4]at h1;rw[h_,<-J];show j1 h1
  show subscriptTail_builtinR (x:=w) pl.isList.typeIs slot_list_getitem.lookup (wpAny_getItem_list_neg (Q:=λr L=>r=w/\EP X c l Q r L) pl.isList (by lia) (by rw[h_]<;>lia) (by lia) (by rw[k];simpa using n) {(),fin}) m
def J3:KW X (Jl X.K):=by intro d e c s g H x y v u Q I k l h m;obtain⟨p,J,i,z,rfl,rfl,n,o,q⟩:=h;cases k;obtain⟨t,rfl⟩:=l;obtain⟨A,r,pl,L⟩:=I.tuple n;obtain⟨j,h1,h2,h3,h4,M⟩:=xU o;obtain⟨w,B,f⟩:=r.get h2;have F:=r.length;have hn:=qv;have fin:EP X c g Q w s:=(z,H,I,f,q,);show subscriptTail_builtinR (x:=w) pl.typeIs slot_tuple_getitem.lookup (getItem_tuple (j:=j) (Q:=λr G=>r=w/\EP X c g Q r G) pl (by lia) (by lia) (by rw[h_,<-F];show h1) (by simpa using B) {(),fin}) m
def Ax:KW X MT:=by
 intro d e f s w H x y v u Q I g k h l;obtain⟨z,i,c,rfl,rfl,A,m,q⟩:=h;obtain⟨t,rfl⟩:=g;obtain⟨B,rfl⟩:=k;obtain⟨j,h1,h2,h3,h4,n⟩:=xU m;have o:z.cps.toList.length=z.length:=by simp[Str.length]
 rw[o]at h1 h4 n;have hn:=qv;show tail_any (typeIs_str s z t) slot_str_getitem.lookup (getItem_str (c:=c) (by have p:decide (i< -(2^63:Int))=false:=j_ (by lia);have r:decide (i>=2^63)=false:=j_ (by lia);rw[p,r,Bool.or_false]) (by rw[h1];simpa using h2) {.str {#[c]},H,I.tok _,{_,()},q}) l
def As(c:O6)(n j:Nat)(u:Value):Obj.mapSeq (·.setIfInBounds j u) {cls:=.type "list",data:=.seq c.toArray n}={cls:=.type "list",data:=.seq (c.set j u).toArray n}:=by simp[Obj.mapSeq]
theorem aO.lst(I:aO X d g H s)(h:H p=some (.lst f)):∃(c:O6)(n:Nat),a0 f c/\s.heap.get? p=some {cls:=.type "list",data:=.seq c.toArray n}/\f.length<=sizeLine:=by obtain⟨z,c,n,r,e⟩:=I.hok p _ h;show(c,n,r,e,z,)
def aO.lstUpd{d:O4}{l:St}{H:Hp}{s:Shared}{p:Addr}{o i:List V}{g c:O6}{n j:Nat}{f:Obj->Obj}(I:aO X d l H s)(h:H p=some (.lst o))(v:s.heap.get? p=some {cls:=.type "list",data:=.seq g.toArray n})(m:f {cls:=.type "list",data:=.seq g.toArray n}={cls:=.type "list",data:=.seq c.toArray j})(r:a0 i c)(w:i.length<=sizeLine)(t:Nat):aO X d l (aH H p (.lst i)) {s with heap:=s.heap.update p f,toks:=t}:=by
 have e:(s.heap.update p f).get? p=some {cls:=.type "list",data:=.seq c.toArray j}:=by rw[ry f v (by rw[m]<;>rfl),m]
 show I.write (x:=p) (e:=p) (by rw[h];trivial) (.inl ()) (λb u k q=>(th _ _ (nn k)).trans q) {_,e} ?_;show(w,c,j,r,e,)
def Lu:V->V->V->Hp->(Hp->Prop)->Prop:=λo i v H Q=>∃p c k j,o=.ref p/\i=.int k/\H p=some (.lst c)/\He c.length k=some j/\Q (aH H p (.lst (c.set j v)))
def DL:HI X Lu:=by
 intro c s w H o i v G iv u Q I x y z h;obtain⟨p,A,k,j,rfl,rfl,l,B,q⟩:=h;cases x;obtain⟨t,rfl⟩:=y;obtain⟨d,n,r,e,F⟩:=I.lst l;obtain⟨h1,h2,h3,h4⟩:=Br B;have f:=r.length;have hn:=qv;have m:aO X c w (aH H p (.lst (A.set j v))) {s with heap:=s.heap.update p (Obj.mapSeq (·.setIfInBounds j u))}:=I.lstUpd l e (As d n j u) (r.set z j) (by rw[wr];show F) s.toks
 by_cases h0:0<=k
 ·have g:k.toNat=j:=by rw[seqIndex_of h0 h4]at h1;show j1 h1
  show PySem.W.ki_setAt e h0 (by lia) (by rw[h_,<-f];show h4) (by rw[g];show{_,m,q})
 ·have g:(k+(d.toArray.size:Int)).toNat=j:=by rw[seqIndex_neg (by lia) h3]at h1;rw[h_,<-f];show j1 h1
  show PySem.W.ki_setBack e (by lia) (by rw[h_,<-f];show h3) (by lia) (by rw[g];show{_,m,q})
def xc(lo hi:Option Int)(n:Nat):(sliceBounds lo hi none n).1=((HT.ip n 0 lo:Nat):Int)/\(sliceBounds lo hi none n).2.1=((HT.ip n n hi:Nat):Int)/\(sliceBounds lo hi none n).2.2=1:=by
 show{?_,?_,()}
 ·cases lo with|none=>simp[sliceBounds,HT.ip]|some i=>
   simp only[sliceBounds,HT.ip,Option.getD_none,show(1:Int)>0 by decide,OI]
   by_cases h:i<0
   ·simp only[h,OI]<;>lia
   ·simp only[h,Ny]<;>lia
 ·cases hi with|none=>simp[sliceBounds,HT.ip]|some i=>
   simp only[sliceBounds,HT.ip,Option.getD_none,show(1:Int)>0 by decide,OI]
   by_cases h:i<0
   ·simp only[h,OI]<;>lia
   ·simp only[h,Ny]<;>lia
def vc(c:O6)(lo hi:Option Int):slicePick c.toArray lo hi none=((c.drop (HT.ip c.length 0 lo)).take (HT.ip c.length c.length hi-HT.ip c.length 0 lo)).toArray:=by obtain⟨h1,h2,h3⟩:=xc lo hi c.toArray.size;unfold slicePick;rw[h1,h2,h3];simp only[sliceRange_one,pick_run,h_]<;>rfl
def Lr(K:O2):V->Option Int->Option Int->Hp->VK->Prop:=λx lo hi H Q=>∃a c,x=.ref a/\aS K H a c/\∀p,H p=none->Q (.ref p) (aH H p (.lst (vH c lo hi)))
def Gv:KO X (Lr X.K):=by intro e s n H x v p t lo hi sl Q I g i pl j h;obtain⟨a,c,rfl,k,q⟩:=h;cases g;obtain⟨l,r,f,m⟩:=I.list k;have d:=r.length;show{"list",_,slot_list_getitem.lookup,f.isList.typeIs,?_};show wpAny_getItem_list_slice f.isList i pl j .none (by simp) ?_ (by rw[h_]<;>lia);rw[vc,<-d];show{.ref s.heap.objs.size,_,I.laid (t':=s.toks) (o:=.lst (vH c lo hi)) (λb ob q=>c_ _ q) (e_ _) ?_,(),q _ (I.hok.fresh (e_ _))};show{iA (rH c lo hi) m,_,0,(r.drop (HT.ip c.length 0 lo)).take (HT.ip c.length c.length hi-HT.ip c.length 0 lo),gg _ ()}
def mf:V->Bool|.non=>true|.bl _=>true|.int _=>true|.str _=>true|_=>false
def Ic:V->V->Bool|.non,.non=>true|.bl a,.bl b=>a==b|.bl a,.int b=>(if a then 1 else 0)==b|.int a,.bl b=>a==(if b then 1 else 0)|.int a,.int b=>a==b|.str a,.str b=>a==b|_,_=>false
def Kf(e:aV y u)(c:aV x v)(g:mf y=true)(f:mf x=true):SeqAt.EqAt A s u v (Ic y x):=by cases y with
 |non=>cases e;cases x with|non=>cases c;show SeqAt.EqAt.same _|bl b=>cases c;show SeqAt.EqAt.none_bool b|int b=>obtain⟨t,rfl⟩:=c;show SeqAt.EqAt.none_int b t|str b=>obtain⟨t,rfl⟩:=c;show SeqAt.EqAt.none_str b t|_=>show absurd (show false=true from f) iq
 |bl a=>cases e;cases x with|non=>cases c;show SeqAt.EqAt.bool_none a|bl b=>cases c;show SeqAt.EqAt.bool_bool a b|int b=>obtain⟨t,rfl⟩:=c;show SeqAt.EqAt.bool_int a b t|str b=>obtain⟨t,rfl⟩:=c;show SeqAt.EqAt.bool_str a b t|_=>show absurd (show false=true from f) iq
 |int a=>obtain⟨d,rfl⟩:=e;cases x with|non=>cases c;show SeqAt.EqAt.int_none a d|bl b=>cases c;show SeqAt.EqAt.int_bool a d b|int b=>obtain⟨t,rfl⟩:=c;show SeqAt.EqAt.int_int a d b t|str b=>obtain⟨t,rfl⟩:=c;show SeqAt.EqAt.int_str a d b t|_=>show absurd (show false=true from f) iq
 |str a=>obtain⟨d,rfl⟩:=e;cases x with|non=>cases c;show SeqAt.EqAt.str_none a d|bl b=>cases c;show SeqAt.EqAt.str_bool a d b|int b=>obtain⟨t,rfl⟩:=c;show SeqAt.EqAt.str_int a d b t|str b=>obtain⟨t,rfl⟩:=c;show SeqAt.EqAt.str_str a d b t|_=>show absurd (show false=true from f) iq
 |_=>show absurd (show false=true from g) iq
def Hq(x:V)(u:Value):Bool:=match u with|.none=>Ic .non x|.bool b=>Ic (.bl b) x|.int i _=>Ic (.int i) x|.str z _=>Ic (.str z) x|_=>false
def E4(r:aV y u)(f:mf y=true):Hq x u=Ic y x:=by cases y with|non=>cases r;rfl|bl b=>cases r;rfl|int i=>obtain⟨t,rfl⟩:=r;rfl|str z=>obtain⟨t,rfl⟩:=r;rfl|_=>show absurd (show false=true from f) iq
theorem xV:∀{c:List V}{d:O6},a0 c d->c.all mf=true->d.any (Hq x)=c.any λy=>Ic y x|_,_,.nil,_=>()|y::c,u::d,.cons r t,f=>by rw[Nx,k_]at f;rw[yl,yl,E4 r f.1,xV t f.2]
theorem uB(g:aV x v)(h:mf x=true):∀{d:List V}{e:O6},a0 d e->d.all mf=true->∀u∈e,SeqAt.EqAt A s u v (Hq x u)
 |_,_,.nil,_=>λu c=>by cases c|y::d,u::e,.cons r t,f=>λi c=>by
  rw[Nx,k_]at f;rcases q_.mp c with rfl|c
  ·rw[E4 r f.1];show Kf r g f.1 h
  ·show uB g h t f.2 i c
def nX(x:V)(c:List V):Bool:=c.any λy=>Ic y x
def rIn(K:O2)(d:Bool):R2:=λx y H Q=>∃p c,y=.ref p/\(aS K H p c\/aY K H p c)/\mf x=true/\c.all mf=true/\Q (.bl (if d then !nX x c else nX x c)) H
def Cg:lx X (compareOp .In) (rIn X.K false):=by
 intro f s l H x y v u Q I g j h;obtain⟨p,m,rfl,d,i,fs,q⟩:=h;cases j;rcases d with d|d
 ·obtain⟨c,r,pl,k⟩:=I.list d;show SeqAt.in_listAt (Hq x) pl.isList (λw e=>uB g i r fs w (by simpa using e)) {.bl _,H,I,(),?_};rw[show c.toArray.any (Hq x)=c.any (Hq x)by simp,xV r fs];show q
 ·obtain⟨c,r,pl,k⟩:=I.tuple d;show SeqAt.in_tupleAt (Hq x) pl (λw e=>uB g i r fs w (by simpa using e)) {.bl _,H,I,(),?_};rw[show c.toArray.any (Hq x)=c.any (Hq x)by simp,xV r fs];show q
def xO:df X (.type "list") (λv H Q=>∃p d,v=[.ref p]/\(aS X.K H p d\/aY X.K H p d)/\∀l,H l=none->Q (.ref l) (aH H l (.lst d))):=by
 intro i s y H v A Q I r h;obtain⟨p,d,rfl,j,q⟩:=h;obtain⟨u,rfl,z⟩:=jk r;cases z;have fin:∀(c:O6),a0 d c->d.length<=sizeLine->∀(h':Heap)(f:Nat),(∀b x,s.heap.get? b=some x->h'.get? b=some x)->h'.get? s.heap.objs.size=some {cls:=.type "list",dict:=none,data:=.seq c.toArray f,slots:=#[]}->EP X i y Q (.ref s.heap.objs.size) {s with heap:=h'}:=λc g k h' f kp e=>{.ref s.heap.objs.size,_,I.laid (t':=s.toks) kp (e_ _) (show dh X.prog X.w _ h' _ (.lst d)from(k,c,f,g,e,)),(),q _ (I.hok.fresh (e_ _))}
 rcases j with j|j
 ·obtain⟨c,g,pl,k⟩:=I.list j;have m:=g.length;obtain⟨o,t,hc,n,hd⟩:=pl.isList;show call_list_seq p (.inl ()) t hc hd (λh' f kp e=>fin c g k h' f kp e) (by simp only[h_]<;>lia)
 ·obtain⟨c,g,pl,k⟩:=I.tuple j;have m:=g.length;obtain⟨o,t,hc,n,hd⟩:=pl;show call_list_seq p (.inr ()) t hc hd (λh' f kp e=>fin c g k h' f kp e) (by simp only[h_]<;>lia)
def vJ:df X (.type "tuple") (λj H Q=>∃p f,j=[.ref p]/\((aS X.K H p f/\∀l,H l=none->Q (.ref l) (aH H l (.tup f)))\/(aY X.K H p f/\Q (.ref p) H))):=by
 intro c s k H j y Q I r h;obtain⟨p,f,rfl,h⟩:=h;obtain⟨u,rfl,t⟩:=jk r;cases t;rcases h with⟨g,q⟩|⟨g,q⟩
 ·obtain⟨d,i,pl,m⟩:=I.list g;have n:=i.length;show call_tuple_list pl.isList (λh' kp=>?_) (by simp only[h_]<;>lia);have I1:aO X c k H {s with heap:=h'}:=I.kept (t':=s.toks) kp;have x:aO X c k (aH H h'.objs.size (.tup f)) {s with heap:=h'.push {cls:=.type "tuple",data:=.seq d.toArray}}:=I1.laid (t':=s.toks) (λb o e=>c_ _ e) (e_ _) (show dh X.prog X.w _ _ _ (.tup f)from{m,d,i,IsTup.new _ _})
  show{.ref h'.objs.size,_,x,(),q _ (I1.hok.fresh (e_ _))}
 ·obtain⟨d,i,pl,m⟩:=I.tuple g;show call_tuple_same pl {.ref p,H,I,(),q}
def tyV(K:O2)(T:String)(x:V)(H:Hp):Prop:=match x with|.str _=>T="str"|.int _=>T="int"|.ref p=>(T="list"/\∃d,aS K H p d)\/(T="tuple"/\∃o,K.lookup p=some o/\o.cls=.type "tuple"/\o.dict=none)\/(T="dict"/\((∃c,H p=some (.dK c))\/∃c,H p=some (.dT c)))\/(T="set"/\∃S n,H p=some (.set S n))|_=>False
def Iy(I:aO X h l H s)(r:aV x v)(ty:tyV X.K T x H):
 s.TypeIs v T/\∀a,v=.ref a->∃ob,s.heap.get? a=some ob/\ob.dict=none:=by cases x with|str z=>obtain⟨t,rfl⟩:=r;cases(show T="str"from ty);show{typeIs_str s z t,λ_ e=>nomatch e}|int i=>obtain⟨t,rfl⟩:=r;cases(show T="int"from ty);show{typeIs_int s i t,λ_ e=>nomatch e}|ref p=>
  cases r;rcases ty with⟨rfl,m,j⟩|⟨rfl,o,d,hc,hd⟩|⟨rfl,d⟩|⟨rfl,S,n,d⟩
  ·obtain⟨k,_,pl,_⟩:=I.list j;show{pl.isList.typeIs,λa e=>?_};cases e;obtain⟨o,n,e,c,hd,_⟩:=pl;show(o,e,hd,)
  ·show{{o,I.kIn p o d,hc},λa e=>?_};cases e;show{o,I.kIn _ o d,hd}
  ·have z:∃o,s.heap.get? p=some o/\o.ExactDict:=by
    rcases d with⟨f,d⟩|⟨f,d⟩
    ·obtain⟨_,_,_,_,o,_,_,e,ex,_⟩:=I.hok p _ d;show(o,e,ex,)
    ·obtain⟨_,_,_,_,o,_,_,e,ex,_⟩:=I.hok p _ d;show(o,e,ex,)
   obtain⟨o,e,ex⟩:=z;show{(o,e,ex.1,),λa g=>?_};cases g;show(o,e,ex.2.1,)
  ·obtain⟨o,_,_,_,e,ex,_⟩:=I.hok p _ d;show{(o,e,ex.1,),λa g=>?_};cases g;show(o,e,ex.2.1,)|_=>show False.elim ty
def tBM(K:O2)(T:String)(r:V->List V->Hp->VK->Prop)(B:TE)(t:TA):TE:=λc H Q=>B c H λx d=>tyV K T x d/\t c d λe f=>r x e f Q
variable{o e:Expr}{es:O9}{B:TE}{t:TA}{g:Str}{m d:Pos}{T id:String}{r:V->List V->Hp->VK->Prop}
def LA(w:PlainAttrs T)(slot:Slot T g id)(n:typeOf (.builtin id)=pure (.type "method_descriptor"))(hm:Nd X id r)(y:PE X o B)(z:PA X (e::es) t)(i:attributeBase o g X.env (eval o X.env)=eval o X.env:=by rfl)(l:((backTo d (starEach (e::es) X.env)).all (λx=>!x.1)&&(backToKw d (keywordEach [] X.env)).all (λx=>x.1.isSome)&&decide ((e::es).length+([]:List Keyword).length+(if([]:List Keyword).isEmpty then 0 else 1)<30))=true:=by rfl)(j:(m.endLine==d.line)=true:=by rfl)(A:starEach (e::es) X.env=(false,eval e X.env)::starEach es X.env:=by rfl)(f:(backTo d (starEach es X.env)).any (·.1)=false:=by rfl):PE X (.Call (.Attribute o g m) (e::es) [] d) (tBM X.K T r B t):=by intro c s k H Q I h;show wpAny_Call_method_late i l j () (cq (y c s k H _ I h) λv F p=>?_);obtain⟨x,G,I1,q,ty,J⟩:=p;obtain⟨h1,h2⟩:=Iy I1 q ty;show{T,id,w,slot,n,h1,h2,?_};have u:=z d c F k G _ I1 J;rw[A]at u⊢;show ri (by change(false||(backTo d (starEach es X.env)).any (·.1))=false;rw[f]<;>rfl) (t6 ?_);show cq u λL M p=>?_;obtain⟨N,O,P,r2,R⟩:=p;show hm c M k O x N v L Q P q r2 R
end
def MtM(X:Cx)(id:String)(r:V->List V->Hp->VK->Prop):Prop:=∀(a:O4)(s:Shared)(b:St)(H:Hp)(x:V)(c:List V)(v:Value)(d:O6)(Q:VK),aO X a b H s->aV x v->a0 c d->r x c H Q->wpAny (model X.prog X.w) X.A (call (.builtin id) (v::d)) (EP X a b Q) X.xe s
def a0.one:∀{x:V}{a:O6},a0 [x] a->∃u,a=[u]/\aV x u|_,_,.cons r .nil=>{_,(),r}
theorem a0.reverse(h:a0 a c):a0 a.reverse c.reverse:=by induction h with|nil=>show .nil|cons r t b=>rw[List.reverse_cons,List.reverse_cons];show a0.append b (.cons r .nil)
theorem a0.rep(h:a0 a c):∀k:Nat,a0 (List.replicate k a).flatten (List.replicate k c).flatten|0=>.nil|k+1=>by rw[rl,rl,E2,E2];show a0.append h (a0.rep h k)
theorem wK(a:O6):∀(k:Nat)(c:O6),List.foldl (λd f=>d++f) c.toArray (List.replicate k a.toArray)=(c++(List.replicate k a).flatten).toArray
 |0,c=>by simp|k+1,c=>by
  have e:c.toArray++a.toArray=(c++a).toArray:=by simp
  have b:(c++a)++(List.replicate k a).flatten=c++(List.replicate (k+1) a).flatten:=by rw[rl,E2,vr]
  rw[<-b,<-wK a k (c++a),<-e,rl,w1]
section
variable{X:Cx}{a:O4}{d:St}{H:Hp}{s:Shared}{l:Addr}{g c:List V}
def aO.lset{h its':O6}{n:Nat}{f:Array Value->Array Value}{j:Nat}(I:aO X a d H s)(m:H l=some (.lst g))(e:s.heap.get? l=some {cls:=.type "list",data:=.seq h.toArray n})(o:f h.toArray=its'.toArray)(p:a0 c its')(r:c.length<=sizeLine):aO X a d (aH H l (.lst c)) {s with heap:=s.heap.update l (Obj.mapSeq f),toks:=j}:=by have q:=PySem.IsL.update e f;rw[o]at q;show I.write (x:=l) (e:=l) (by rw[m];show trivial) (.inl ()) (λv u k t=>(th s.heap (Obj.mapSeq f) (nn k)).trans t) {_,q} ?_;show{r,its',_,p,q}
def aO.lnew(I:aO X a d H s)(f:a0 c e)(h:c.length<=sizeLine):aO X a d (aH H s.heap.objs.size (.lst c)) {s with heap:=s.heap.push {cls:=.type "list",data:=.seq e.toArray},toks:=t'}:=I.laid (λ_ _ q=>c_ _ q) (e_ _) {h,e,0,f,gg _ ()}
theorem aO.fresh(I:aO X a d H s):H s.heap.objs.size=none:=I.hok.fresh (e_ _)
def aO.lstM(I:aO X a d H s)(h:H l=some (.lst g)):g.length<=sizeLine/\∃(f:O6)(n:Nat),a0 g f/\g.length=f.length/\s.heap.get? l=some {cls:=.type "list",data:=.seq f.toArray n}:=by obtain⟨z,f,n,r,e⟩:=I.hok l _ h;show(z,f,n,r,r.length,e,)
def y0{n:Nat}(h:n<=sizeLine):Builtin.List.listTooLong n=false:=by unfold Builtin.List.listTooLong;show j_ (by lia)
end
section
variable{X:Cx}
def Gz:V->List V->Hp->VK->Prop:=λx b H Q=>∃l a y,x=.ref l/\b=[y]/\H l=some (.lst a)/\a.length<sizeLine/\Q .non (aH H l (.lst (a++[y])))
def cF:MtM X "list.append" Gz:=by intro b s i H x j v k Q I f g h;obtain⟨l,m,y,rfl,rfl,c,o,q⟩:=h;cases f;obtain⟨u,rfl,ru⟩:=g.one;obtain⟨z,a,n,r,p,e⟩:=I.lstM c;show call_meets F.slot_list_append {_,e,()} F.entry_list_append (F.args_list_append_2 _ _) (PySem.list_append l a.toArray n u (by rw[h_];lia)) {e,?_};show{.non,_,I.lset (its':=a++[u]) c e (by simp) (r.append (.cons ru .nil)) ?_,(),q};rw[hQ,List.length_singleton];lia
def Gy:V->List V->Hp->VK->Prop:=λx d H Q=>∃l b a c,x=.ref l/\d=[.ref b]/\H l=some (.lst a)/\H b=some (.lst c)/\a.length+c.length<=sizeLine/\Q .non (aH H l (.lst (a++c)))
def wA:MtM X "list.extend" Gy:=by
 intro g s w H x y v A Q I k m h;obtain⟨l,b,B,C,rfl,rfl,i,o,D,q⟩:=h;cases k;obtain⟨u,rfl,ru⟩:=m.one;cases ru;obtain⟨z,c,n,r,E,e⟩:=I.lstM i;obtain⟨G,a,n2,r2,p,t⟩:=I.lstM o;have f:c.toArray.size+a.toArray.size<=sizeLine:=by rw[h_,h_];lia
 have d:¬(!c.toArray.isEmpty&&Builtin.List.listTooLong (c.toArray.size+a.toArray.size))=true:=by rw[y0 f,Bool.and_false];show iq
 show call_meets F.slot_list_extend {_,e,()} F.entry_list_extend (F.args_list_extend_2 _ _) (AutoSeq1.list_extend_list_list_0 l c.toArray n b a.toArray n2 d (by rw[h_];lia) (by lia)) {e,t,?_}
 show{.non,_,I.lset (its':=c++a) i e (by simp) (r.append r2) ?_,(),q};rw[hQ];lia
def MU:R2:=λx y H Q=>∃l b a c,x=.ref l/\y=.ref b/\H l=some (.lst a)/\H b=some (.lst c)/\a.length+c.length<=sizeLine/\∀p,H p=none->Q (.ref p) (aH H p (.lst (a++c)))
def Ah:lx X (binaryOp .Add) MU:=by
 intro d s p H x y v u Q I f g h;obtain⟨l,b,t,w,rfl,rfl,i,j,A,q⟩:=h;cases f;cases g;obtain⟨z,c,n,r,B,e⟩:=I.lstM i;obtain⟨C,a,n2,r2,k,m⟩:=I.lstM j;show PySem.P.add_list e m ?_ (by rw[h_,h_];lia);have o:c.toArray++a.toArray=(c++a).toArray:=by simp
 rw[o];show{.ref _,_,I.lnew (t':=s.toks) (r.append r2) (by rw[hQ];lia),(),q _ I.fresh}
def MR:R2:=λx y H Q=>∃l k a,x=.ref l/\y=.int k/\H l=some (.lst a)/\-(2^63)<=k/\k<2^63/\a.length*k.toNat<=sizeLine/\∀p,H p=none->Q (.ref p) (aH H p (.lst (List.replicate k.toNat a).flatten))
def G4(a:List c)(k:Nat):(List.replicate k a).flatten.length=k*a.length:=by induction k with|zero=>simp|succ k b=>rw[rl,E2,hQ,b,Nat.succ_mul,Nat.add_comm]
def D0:lx X (binaryOp .Mult) MR:=by
 intro p s J H x y v u Q I A B h;obtain⟨l,k,K,rfl,rfl,C,h1,h2,w,q⟩:=h;cases A;obtain⟨t,rfl⟩:=B;obtain⟨z,b,n,r,D,e⟩:=I.lstM C;have d:b.toArray.size*k.toNat<=sizeLine:=by rw[h_,<-D];show w
 have f:¬b.toArray.size*k.toNat>(2^63-1)/8:=by
  have:(sizeLine:Nat)<=(2^63-1)/8:=by decide
  lia
 have g:¬(!Builtin.List.listFitsIndex k)=true:=by rw[fitsIndex_both h1 h2];show iq
 have c:¬Builtin.List.listTooLong (b.toArray.size*k.toNat)=true:=by rw[y0 d];show iq
 have i:List.foldl (λj o=>j++o) #[] (List.replicate (if b.toArray.isEmpty=true then 0 else k.toNat) b.toArray)=(List.replicate k.toNat b).flatten.toArray:=by
  have E:∀m:Nat,List.foldl (λj o=>j++o) #[] (List.replicate m b.toArray)=(List.replicate m b).flatten.toArray:=λm=>by have:=wK b m [];rw[List.nil_append]at this;show this
  rw[E];cases b with|nil=>simp|cons a L=>rw[g_ (by simp)]
 show wpAny_binaryOp_repeat_ref (T:="list") (U:="int") (by decide) {_,e,()} (λG=>typeIs_int G k t) noFill_list_mul F.fills_int_mul F.slot_int_rmul repeat_list F.slot_int_index.lookup (call_meets F.slot_int_rmul (typeIs_int s k t) F.entry_int_rmul (F.args_int_rmul_2 _ _) (int___rmul___int_list k t l b.toArray n) {e,(),{_,e,()},call_meets F.slot_list_mul {_,e,()} F.entry_list_mul (F.args_list_mul_2 _ _) (AutoListH.list___mul___list_int_3 l b.toArray n k t g f c) {e,?_}})
 rw[i];show{.ref _,_,I.lnew (t':=s.toks) (r.rep k.toNat) (by rw[G4,Nat.mul_comm];show w),(),q _ I.fresh}
end
section
variable{c:Type}[DecidableEq c]
def bf(a:List (c×V))(k:c):Option V:=(a.find? λb=>decide (b.1=k)).map (·.2)
def fk(a:List (c×V))(k:c)(v:V):List (c×V):=if(a.any λb=>decide (b.1=k))=true then a.map (λb=>if b.1=k then(b.1,v)else b)else a++[(k,v)]
def dR(a:List (c×V))(k:c):List (c×V):=a.filter λb=>decide (b.1≠k)
def cb{p:c×V}{r:List (c×V)}{k:c}(e:p.1=k):bf (p::r) k=some p.2:=by simp[bf,rd,e]
def bu{p:c×V}{r:List (c×V)}{k:c}(e:¬p.1=k):bf (p::r) k=bf r k:=by simp[bf,rd,e]
theorem lD(k:c):∀a:List (c×V),(a.any λd=>decide (d.1=k))=(bf a k).isSome
 |[]=>()|p::r=>by
  rw[yl]
  by_cases e:p.1=k
  ·simp only[cb e,j2 e,Bool.true_or,Option.isSome_some]
  ·rw[bu e,j_ e,Bool.false_or];show lD k r
theorem yd(k j:c)(y:V):∀a:List (c×V),bf (a.map λd=>if d.1=k then(d.1,y)else d) j=(bf a j).map λx=>if j=k then y else x
 |[]=>()|p::r=>by
  have b:=yd k j y r;rw[lm]
  by_cases h:p.1=k
  ·rw[g6 h]
   by_cases e:p.1=j
   ·rw[cb (p:=(p.1,y)) e,cb e,M_,g6 (e.symm.trans h)]
   ·rw[bu (p:=(p.1,y)) e,bu e,b]
  ·rw[g_ h]
   by_cases e:p.1=j
   ·rw[cb (p:=p) e,cb e,M_,g_ (λz=>h (e.trans z))]
   ·rw[bu (p:=p) e,bu e,b]
theorem vW(k j:c)(y:V):∀a:List (c×V),bf a k=none->bf (a++[(k,y)]) j=if j=k then some y else bf a j
 |[],_=>by
  by_cases e:k=j
  ·rw[g6 e.symm];show cb (p:=(k,y)) e
  ·rw[g_ (λz=>e z.symm)];show bu (p:=(k,y)) e|p::r,hn=>by
  rw[List.cons_append];have b:¬p.1=k:=λz=>by rw[cb z]at hn;cases hn
  rw[bu b]at hn;have d:=vW k j y r hn
  by_cases e:p.1=j
  ·rw[cb e,cb e,g_ (λz=>b (e.trans z))]
  ·rw[bu e,bu e,d]
def CW(d:List (c×V))(k j:c)(y:V):bf (fk d k y) j=if j=k then some y else bf d j:=by
 unfold fk
 by_cases a:(d.any λb=>decide (b.1=k))=true
 ·rw[g6 a,yd];rw[lD]at a
  by_cases e:j=k
  ·obtain⟨x,f⟩:=t0.mp a;rw[g6 e,e,f,M_,g6 ()]
  ·rw[g_ e];cases bf d j with|none=>rfl|some x=>rw[M_,g_ e]
 ·rw[g_ a];show vW k j y d ?_;rw[lD]at a;cases q:bf d k with|none=>rfl|some x=>rw[q]at a;show(a ()).elim
def l7(a:List (c×V))(k:c)(v:V):(fk a k v).length<=a.length+1:=by
 unfold fk
 split
 ·rw[b_];lia
 ·rw[hQ,md,OZ];lia
def pi{a:List (c×V)}{k:c}(v:V)(h:bf a k=none):fk a k v=a++[(k,v)]:=by unfold fk;rw[lD,h];show g_ (by decide)
def kD.isSome_eq(r:kD o u):o.isSome=u.isSome:=by cases o with
 |none=>cases u with|none=>rfl|some _=>show(show False from r).elim
 |some _=>cases u with|none=>show(show False from r).elim|some _=>rfl
theorem kD.getD(r:kD o u)(a:aV d e):aV (o.getD d) (u.getD e):=by cases o with
 |none=>cases u with|none=>show a|some _=>show(show False from r).elim
 |some _=>cases u with|none=>show(show False from r).elim|some _=>show r
def KV.val{a:List (c×V)}{g:List (c×Value)}(r:KV a g)(k:c):kD (bf a k) (valueAt g k):=by
 unfold KV at r
 induction r with|nil=>show True.intro|@cons p q j d h t i=>
  obtain⟨h1,h2⟩:=h
  by_cases e:p.1=k
  ·have f:q.1=k:=h1.symm.trans e;have b:valueAt (q::d) k=some q.2:=by simp[valueAt,rd,f]
   rw[cb e,b];show h2
  ·have f:¬q.1=k:=λz=>e (h1.trans z);have b:valueAt (q::d) k=valueAt d k:=by simp[valueAt,rd,f]
   rw[bu e,b];show i
theorem KV.any(r:KV a e)(k:c):(a.any λd=>decide (d.1=k))=e.any λd=>decide (d.1=k):=by
 unfold KV at r
 induction r with|nil=>rfl|cons h t b=>rw[yl,yl,b,h.1]
def KV.repl(r:KV d f)(k:c)(g:aV y u):KV (d.map λa=>if a.1=k then(a.1,y)else a) (f.map λa=>if a.1=k then(a.1,u)else a):=by
 unfold KV at r⊢
 induction r with|nil=>show .nil|@cons p q i j h t b=>
  rw[lm,lm];show .cons ?_ b;obtain⟨h1,h2⟩:=h
  by_cases e:p.1=k
  ·rw[g6 e,g6 (h1.symm.trans e)];show(h1,g,)
  ·rw[g_ e,g_ (λz=>e (h1.trans z))];show(h1,h2,)
def KV.put(r:KV a d)(k:c)(f:aV y u):KV (fk a k y) (stored d k u):=by
 unfold fk stored;rw[r.any k]
 by_cases e:(d.any λb=>decide (b.1=k))=true
 ·rw[g6 e,g6 e];show r.repl k f
 ·rw[g_ e,g_ e];show Paired.snoc r {(),f}
def KV.drop(r:KV d g)(k:c):KV (dR d k) (without g k):=by
 unfold KV at r⊢;unfold dR without
 induction r with|nil=>show .nil|@cons p q j l h t f=>
  obtain⟨h1,h2⟩:=h;rw[Of,Of]
  by_cases e:p.1=k
  ·have a:¬decide (p.1≠k)=true:=by simp[e]
   have b:¬decide (q.1≠k)=true:=by simp[h1.symm.trans e]
   rw[g_ a,g_ b];show f
  ·have i:¬q.1=k:=λz=>e (h1.trans z);have a:decide (p.1≠k)=true:=by simp[e]
   have b:decide (q.1≠k)=true:=by simp[i]
   rw[g6 a,g6 b];show .cons (h1,h2,) f
theorem KV.length(r:KV a d):a.length=d.length:=Paired.length r
def zp(a:List (c×V))(k:c):(dR a k).length<=a.length:=tx _ _
end
def pL(r:aV (kV k) u):(aR P w).is k u=true:=by cases k with|inl i=>obtain⟨t,e⟩:=(show∃t,u=Value.int i t from r);subst e;show y9 P w i t|inr x=>obtain⟨t,e⟩:=(show∃t,u=Value.str x t from r);subst e;show rn P w x t
theorem qF:∀{a:List bY}{c:O6},a0 (a.map kV) c->ItemsAre (aR P w) a c|[],_,r=>by rw[NM]at r;cases r;show .nil|k::a,_,r=>by rw[lm]at r;cases r with|cons h t=>show .cons (pL h) (qF t)
abbrev KT(H:Hp):List (List bY×V)->List (List bY×Addr×Value)->Prop:=Paired λp q=>p.1=q.1/\H q.2.1=some (.tup (p.1.map kV))/\aV p.2 q.2.2
def KT.val{H:Hp}{a:List (List bY×V)}{f:List (List bY×Addr×Value)}(r:KT H a f)(k:List bY):kD (bf a k) ((atKey f k).map (·.2)):=by induction r with|nil=>show True.intro|@cons p q i c h t g=>
  obtain⟨h1,_,h2⟩:=h
  by_cases e:p.1=k
  ·have d:q.1=k:=h1.symm.trans e;have b:atKey (q::c) k=some q.2:=by simp[atKey,rd,d]
   rw[cb e,b];show h2
  ·have d:¬q.1=k:=λz=>e (h1.trans z);have b:atKey (q::c) k=atKey c k:=by simp[atKey,rd,d]
   rw[bu e,b];show g
def KT.repl(r:KT H a d)(k:List bY)(f:aV y u):KT H (a.map λc=>if c.1=k then(c.1,y)else c) (d.map (putAt k u)):=by induction r with|nil=>show .nil|@cons p q g i h t b=>
  rw[lm,lm];show .cons ?_ b;obtain⟨h1,h2,h3⟩:=h;unfold putAt
  by_cases e:p.1=k
  ·rw[g6 e,g6 (h1.symm.trans e)];show(h1,h2,f,)
  ·rw[g_ e,g_ (λz=>e (h1.trans z))];show(h1,h2,h3,)
def KT.put(r:KT H a c)(k:List bY)(f:H b=some (.tup (k.map kV)))(d:aV y u):KT H (fk a k y) (storedH c k b u):=by
 have e:(a.any λg=>decide (g.1=k))=(atKey c k).isSome:=by rw[lD,(r.val k).isSome_eq,NY]
 unfold fk storedH;rw[e]
 by_cases q:(atKey c k).isSome=true
 ·rw[g6 q,g6 q];show r.repl k d
 ·rw[g_ q,g_ q];show Paired.snoc r {(),f,d}
def KT.keeps(r:KT H a d)(e:∀b c,H b=some (.tup c)->f b=some (.tup c)):KT f a d:=Paired.mapP r λ_ _ z=>{z.1,e _ _ z.2.1,z.2.2}
section
variable{P:O7}{w:World}{H:Hp}{h:Heap}{a:Addr}
def HS(ok:lC P w H h)(e:Rd H a u):dh P w H h a u:=e.ok ok
def rE(ok:lC P w H h)(e:Rd H a (.dK c)):c.length<=sizeLine/\(a==sysModules)=false/\∃d,KV c d/\h.DictOf (aR P w) a d:=show dh P w H h a (.dK c)from HS ok e
def Ie(ok:lC P w H h)(e:H a=some (.dK c)):c.length<=sizeLine/\(a==sysModules)=false/\∃d,KV c d/\h.DictOf (aR P w) a d:=rE ok (.inl e)
def nU(ok:lC P w H h)(e:H a=some (.tup (c.map kV))):(tupleKind (aR P w)).is h c a:=by obtain⟨_,b,r,o,h1,h2,n,h3⟩:=(show dh P w H h a (.tup (c.map kV))from ok a _ e);show{o,b.toArray,n,h1,h2,h3,by simpa using qF r}
def rC(ok:lC P w H h)(e:Rd H a (.dT c)):c.length<=sizeLine/\(a==sysModules)=false/\∃d,KT H c d/\h.DictOfH (tupleKind (aR P w)) a d:=by
 obtain⟨z,y,d,r,o,es,ep,h1,h2,h3,h4,g⟩:=(show dh P w H h a (.dT c)from HS ok e);show{z,y,d,r,o,es,ep,h1,h2,h3,h4,λx b=>?_,g};have all:∀{l:List (List bY×V)}{m:List (List bY×Addr×Value)},KT H l m->∀x∈m,(tupleKind (aR P w)).is h x.1 x.2.1:=by
  intro l m q
  induction q with|nil=>intro x b;show nomatch b|@cons p q j k f t i=>
   intro x b;rcases q_.mp b with e|b
   ·subst e;show nU ok (by rw[<-f.1];show f.2.1)
   ·show i x b
 show all r x b
def Mb(ok:lC P w H h)(e:H a=some (.dT c)):c.length<=sizeLine/\(a==sysModules)=false/\∃d,KT H c d/\h.DictOfH (tupleKind (aR P w)) a d:=rC ok (.inl e)
end
def dn(H:Hp)(a:Addr)(y:V)(r:Option V):Prop:=(∃c k,Rd H a (.dK c)/\y=kV k/\r=bf c k)\/∃c k b,Rd H a (.dT c)/\y=.ref b/\H b=some (.tup (k.map kV))/\r=bf c k
def HM(H:Hp)(a:Addr)(y v:V)(d:Hp):Prop:=(∃c k,H a=some (.dK c)/\y=kV k/\c.length<sizeLine/\d=aH H a (.dK (fk c k v)))\/∃c k b,H a=some (.dT c)/\y=.ref b/\H b=some (.tup (k.map kV))/\c.length<sizeLine/\d=aH H a (.dT (fk c k v))
theorem dn.k{H:Hp}{a:Addr}{c:List (bY×V)}{k:bY}(e:H a=some (.dK c)):dn H a (kV k) (bf c k):=.inl {c,k,.inl e,(),()}
theorem HM.k{H:Hp}{a:Addr}{c:List (bY×V)}{k:bY}{v:V}(e:H a=some (.dK c))(d:c.length<sizeLine):HM H a (kV k) v (aH H a (.dK (fk c k v))):=.inl {c,k,e,(),d,()}
section
variable{X:Cx}{d:O4}{f:St}{H:Hp}{s:Shared}{a:Addr}{y v:V}{u r:Value}{o:Option V}{A:Around}{E:O3}
def aO.big(I:aO X d f H s):sysModules<s.heap.objs.size:=by have h:mainGlobals<s.heap.objs.size:=(I.mod.glob.keeps I.bk).lt;show z8 (by decide) h
def CD(C:A.units+1<cLine)(I:aO X d f H s)(g:dn H a y (some v))(x:aV y u)(h:∀j B,aO X d f H B->aV v j->Q j B):wpAny (model X.prog X.w) A (getItem (.ref a) u) Q E s:=by
 rcases g with⟨m,k,e,n,l⟩|⟨m,k,b,e,n,D,l⟩
 ·subst n;obtain⟨z,hd,F,c,dd⟩:=rE I.hok e;obtain⟨j,q,i⟩:=kD.some_of (v:=v) (o:=valueAt F k) (by rw[l];show c.val k);show wpAny_getItem_of (pL x) dd.mapOf q (h j _ (I.tok _) i)
 ·subst n;cases(show u=Value.ref b from x);obtain⟨z,hd,G,c,dd⟩:=rC I.hok e;obtain⟨j,q,i⟩:=kD.some_of (v:=v) (o:=(atKey G k).map (·.2)) (by rw[l];show c.val k);obtain⟨p,J,t⟩:=Option.map_eq_some_iff.mp q;show wpAny_getItem_heap (C_ C) (nU I.hok D) dd J ?_;rw[t];show h j _ (I.tok _) i
def M6(p:A.units+1<cLine)(I:aO X d f H s)(g:dn H a y o)(m:aV y u)(h:∀n,aO X d f H n->Q (.bool o.isSome) n):wpAny (model X.prog X.w) A (compareOp .In u (.ref a)) Q E s:=by
 rcases g with⟨i,k,e,j,l⟩|⟨i,k,b,e,j,t,l⟩
 ·subst j;obtain⟨z,hd,x,c,dd⟩:=rE I.hok e;show wpAny_in_of (pL m) hd dd.mapOf ?_;rw[<-(c.val k).isSome_eq,<-l];show h _ (I.tok _)
 ·subst j;cases(show u=Value.ref b from m);obtain⟨z,hd,B,c,dd⟩:=rC I.hok e;show wpAny_in_heap (C_ p) (nU I.hok t) hd dd ?_;have q:=(c.val k).isSome_eq;rw[NY]at q;rw[<-q,<-l];show h _ (I.tok _)
def Hr(p:A.units+1<cLine)(I:aO X d f H s)(g:dn H a y o)(m:aV y u)(h:∀n,aO X d f H n->Q (.bool (!o.isSome)) n):wpAny (model X.prog X.w) A (compareOp .NotIn u (.ref a)) Q E s:=by
 rcases g with⟨i,k,e,j,l⟩|⟨i,k,b,e,j,t,l⟩
 ·subst j;obtain⟨z,hd,x,c,dd⟩:=rE I.hok e;show wpAny_notIn_of (pL m) hd dd.mapOf ?_;rw[<-(c.val k).isSome_eq,<-l];show h _ (I.tok _)
 ·subst j;cases(show u=Value.ref b from m);obtain⟨z,hd,B,c,dd⟩:=rC I.hok e;show wpAny_notIn_heap (C_ p) (nU I.hok t) hd dd ?_;have q:=(c.val k).isSome_eq;rw[NY]at q;rw[<-q,<-l];show h _ (I.tok _)
def sN(I:aO X d f H s)(c:Ml (H a))(g:Heap.SameBut a s.heap h')(h:∃q,h'.get? a=some q)(new:dh X.prog X.w (aH H a ob) h' a ob):aO X d f (aH H a ob) {s with heap:=h',toks:=j}:=I.write (x:=a) (e:=a) c (.inl ()) (λb q i z=>(g.2 b i).trans z) h new
def E6(z:c.length<=sizeLine)(hd:(a==sysModules)=false)(e:KV c g)(dd:h'.DictOf (aR P w) a g):dh P w h h' a (.dK c):=(z,hd,g,e,dd,)
def CC(M:A.units+1<cLine)(I:aO X d f H s)(g:HM H a y v N)(F:aV y u)(G:aV v r)(h:∀J,aO X d f N J->Q Unit.unit J):wpAny (model X.prog X.w) A (setItem (.ref a) u r) Q E s:=by
 rcases g with⟨i,k,e,p,l,t⟩|⟨i,k,b,e,p,K,l,t⟩
 ·subst p t;obtain⟨z,hd,O,j,dd⟩:=Ie I.hok e;have x:O.length<=sizeLine:=by rw[<-j.length];show z
  have B:(fk i k v).length<=sizeLine:=by have:=l7 i k v;lia
  show wpAny_setItem_pairs (hsz:=x) (pL F) dd λh' m D=>h _ ?_;have P:∃q,h'.get? a=some q:=let⟨q,_,_,n,_⟩:=m;(q,n,);show sN I (by rw[e];show True.intro) D P (E6 B hd (j.put k G) m)
 ·subst p t;cases(show u=Value.ref b from F);obtain⟨z,hd,R,j,dd⟩:=Mb I.hok e;have x:R.length<=sizeLine:=by rw[<-Paired.length j];show z
  have B:(fk i k v).length<=sizeLine:=by have:=l7 i k v;lia
  show wpAny_setItem_heap (hsz:=x) (C_ M) (nU I.hok K) dd λh' m D=>h _ ?_;obtain⟨q,es,ep,n,h2,h3,h4,_,S⟩:=m;show sN I (by rw[e];show True.intro) D (q,n,) {B,hd,_,(j.put k K G).keeps λc T L=>?_,q,es,ep,n,h2,h3,h4,S};rw[ak (LC L e (nofun))];show L
end
section
variable{X:Cx}{d:O4}{f:St}{H:Hp}{s:Shared}{a:Addr}{c:List (bY×V)}{k:bY}{u:Value}{A:Around}{E:O3}
def Md(I:aO X d f H s)(e:H a=some (.dK c))(n:aV (kV k) u)(l:bf c k=some v)(hm:g=[]\/∃x,g=[x])(h:∀j r,aO X d f (aH H a (.dK (dR c k))) r->aV v j->Q j r):wpAny (model X.prog X.w) A (call (.builtin "dict.pop") (.ref a::u::g)) Q E s:=by
 obtain⟨z,hd,y,b,dd⟩:=Ie I.hok e;obtain⟨j,B,p⟩:=kD.some_of (v:=v) (o:=valueAt y k) (by rw[<-l];show b.val k);have C:(keyPart u).isSome=true:=by cases k with|inl i=>obtain⟨t,q⟩:=(show∃t,u=Value.int i t from n);subst q;rfl|inr x=>obtain⟨t,q⟩:=(show∃t,u=Value.str x t from n);subst q;rfl
 have D:argsOk "dict.pop" {.ref a::u::g,[]}:=by
  rcases hm with q|⟨x,q⟩
  ·subst q;show PySem.F.args_dict_pop_2 _ _
  ·subst q;show PySem.F.args_dict_pop_3 _ _ _
 show D_ PySem.F.slot_dict_pop dd.typeIs PySem.F.entry_dict_pop D (meets_dict_pop_there (aR X.prog X.w) a (pL n) g hm C) {y,j,dd,by rw[<-b.length];show z,B,λh' m G=>h j _ ?_ p}
 have J:∃q,h'.get? a=some q:=let⟨q,_,_,K,_⟩:=m;(q,K,);show sN I (by rw[e];show True.intro) G J (E6 (iA (zp c k) z) hd (b.drop k) m)
end
def Mj(i:Expr):Prop:=∀a iv,subscripted i false a iv=operate [a,iv] (getItem a iv)
def FU{prog:O7}{w:World}{A:Around}{E:O3}{s:Shared}{env:Env}{c a:Expr}{j:Pos}{T id:String}{Q:O3}(l:typeLookup (.type T) "__getitem__"=pure (some (.builtin id)))(m:Mj a)(h:wpAny (model prog w) A (eval c env) (λo s₁=>wpAny (model prog w) A (eval a env) (λi d=>d.TypeIs o T/\wpAny (model prog w) A (getItem o i) Q E d) E s₁) E s):wpAny (model prog w) A (eval (.Subscript c a j) env) Q E s:=by
 show Subscript_ (wpAny_mono h (λo s₁ f=>wpAny_mono f (λi d b=>?_) λ_ _ x=>x) λ_ _ x=>x);obtain⟨k,b⟩:=b;unfold subscriptTail;show a_ ?_;rw[getitemInPython_of_ne k.not_modules];show a_ (Oo k l ?_);have fin:wpAny (model prog w) A (subscripted a false o i) (λr e=>wpAny (model prog w) A (letTemporaryGo c o r>>=λ_=>pure r) Q E e) E d:=by rw[m o i];show wpAny_operating (wpAny_mono b (λr e g=>a_ (wpAny_letTemporaryGo (fx g))) λ_ _ x=>x)
 first|show fx (a_ fin)|show a_ (fx (a_ fin))|show a_ fin
def zq(I:aO X d f H s)(g:dn H a y o):s.TypeIs (.ref a) "dict":=by
 rcases g with⟨c,k,e,_,_⟩|⟨c,k,b,e,_,_,_⟩
 ·obtain⟨_,_,h,_,dd⟩:=rE I.hok e;show dd.typeIs
 ·obtain⟨_,_,i,_,dd⟩:=rC I.hok e;show dd.typeIs
def Lb(d ty:TE):TE:=λb H Q=>d b H λx e=>ty b e λy c=>∃a v,x=.ref a/\dn c a y (some v)/\Q v c
def MM(ty d:TE):TE:=λb H Q=>ty b H λy e=>d b e λx c=>∃a o,x=.ref a/\dn c a y o/\Q (.bl o.isSome) c
def FT(ty d:TE):TE:=λb H Q=>ty b H λy e=>d b e λx c=>∃a o,x=.ref a/\dn c a y o/\Q (.bl (!o.isSome)) c
section
variable{X:Cx}{o i:Expr}{f:Pos}{c ty:TE}
def cM(r:X.A.units+1<cLine)(t:PE X o c)(hi:PE X i ty)(w:Mj i):PE X (.Subscript o i f) (Lb c ty):=by intro b s p H Q I h;show FU PySem.F.slot_dict_getitem.lookup w (cq (t b s p H _ I h) λu z k=>?_);obtain⟨x,B,I1,C,D⟩:=k;show cq (hi b z p B _ I1 D) λiv L k=>?_;obtain⟨y,E,q,G,a,v,ex,g,J⟩:=k;subst ex;obtain rfl:u=Value.ref a:=C;show{zq q g,CD r q g G λM N K n=>(v,E,K,n,J,)}
def Ag(p:X.A.units+1<cLine)(hi:PE X i ty)(q:PE X o c):PC X .In i o (MM ty c):=by intro b s n H Q I h;show cq (hi b s n H _ I h) λiv r k=>?_;obtain⟨y,t,I1,v,w⟩:=k;show cq (q b r n t _ I1 w) λu G k=>?_;obtain⟨x,z,B,C,a,D,ex,g,E⟩:=k;subst ex;obtain rfl:u=Value.ref a:=C;show M6 p B g v λJ F=>{.bl D.isSome,z,F,(),E}
def mC(p:X.A.units+1<cLine)(hi:PE X i ty)(q:PE X o c):PC X .NotIn i o (FT ty c):=by intro b s n H Q I h;show cq (hi b s n H _ I h) λiv r k=>?_;obtain⟨y,t,I1,v,w⟩:=k;show cq (q b r n t _ I1 w) λu G k=>?_;obtain⟨x,z,B,C,a,D,ex,g,E⟩:=k;subst ex;obtain rfl:u=Value.ref a:=C;show Hr p B g v λJ F=>{.bl (!D.isSome),z,F,(),E}
end
def E7(h:Heap)(a:sysModules<h.objs.size):dh P w H (h.push {cls:=.type "dict",data:=.dict #[]}) h.objs.size (.dK []):={ku _,A_.mpr (nn (ir a)),[],.nil,Heap.DictOf.new h}
def II:TE:=λ_ H Q=>∀p,H p=none->Q (.ref p) (aH H p (.dK []))
section
variable{X:Cx}{c:Pos}
def kf:PE X (.Dict [] [] c) II:=λb s d H Q I h=>wpAny_Dict_empty {.ref s.heap.objs.size,_,I.laid (a:=s.heap.objs.size) (o:=.dK []) (t':=s.toks) (λ_ _ q=>c_ _ q) (e_ _) (E7 s.heap I.big),(),h _ (I.hok.fresh (e_ _))}
end
structure M1(X:Cx)(o:Expr)(m:Str)(apos:Pos)(e:Expr)(cpos:Pos):Prop where
 base:attributeBase o m X.env (eval o X.env)=eval o X.env
 few:((backTo cpos (starEach [e] X.env)).all (λx=>!x.1)&&(backToKw cpos (keywordEach [] X.env)).all (λx=>x.1.isSome)&&decide (([e]:O9).length+([]:List Keyword).length+(if([]:List Keyword).isEmpty then 0 else 1)<30))=true
 line:(apos.endLine==cpos.line)=true
 trees:backTo cpos (starEach [e] X.env)=[(false,eval e X.env)]
structure M2(X:Cx)(o:Expr)(m:Str)(apos:Pos)(e f:Expr)(cpos:Pos):Prop where
 base:attributeBase o m X.env (eval o X.env)=eval o X.env
 few:((backTo cpos (starEach [e,f] X.env)).all (λx=>!x.1)&&(backToKw cpos (keywordEach [] X.env)).all (λx=>x.1.isSome)&&decide (([e,f]:O9).length+([]:List Keyword).length+(if([]:List Keyword).isEmpty then 0 else 1)<30))=true
 line:(apos.endLine==cpos.line)=true
 trees:backTo cpos (starEach [e,f] X.env)=[(false,eval e X.env),(false,eval f X.env)]
def MG(H:Hp)(a:Addr):Prop:=(∃b,Rd H a (.dK b))\/∃b,Rd H a (.dT b)
def Az(I:aO X f g H s)(d:MG H a):s.TypeIs (.ref a) "dict"/\(∀b,Value.ref a=.ref b->∃ob,s.heap.get? b=some ob/\ob.dict=none)/\(a==sysModules)=false:=by
 rcases d with⟨c,e⟩|⟨c,e⟩
 ·obtain⟨_,hd,h,_,dd⟩:=rE I.hok e;show{dd.typeIs,λb q=>?_,hd};cases q;obtain⟨ob,_,_,h1,h2,_⟩:=dd;show(ob,h1,h2.2.1,)
 ·obtain⟨_,hd,i,_,dd⟩:=rC I.hok e;show{dd.typeIs,λb q=>?_,hd};cases q;obtain⟨ob,_,_,h1,h2,_⟩:=dd;show(ob,h1,h2.2.1,)
section
variable{X:Cx}{c:O4}{f:St}{H:Hp}{s:Shared}{a:Addr}{y d:V}{u r:Value}{o:Option V}{A:Around}{E:O3}
def Kl(t:A.units+1<cLine)(I:aO X c f H s)(g:dn H a y o)(n:aV y u)(h:∀p q,aO X c f H q->aV (o.getD .non) p->Q p q):wpAny (model X.prog X.w) A (call (.builtin "dict.get") [.ref a,u]) Q E s:=by
 rcases g with⟨j,k,e,m,l⟩|⟨j,k,b,e,m,v,l⟩
 ·subst m;obtain⟨z,hd,B,i,dd⟩:=rE I.hok e;show D_ PySem.F.slot_dict_get dd.typeIs PySem.F.entry_dict_get (PySem.F.args_dict_get_2 _ _) (meets_dict_get (aR X.prog X.w) a (pL n) hd) {_,dd.mapOf,h _ _ (I.tok _) ?_};rw[l];show(i.val k).getD ()
 ·subst m;cases(show u=Value.ref b from n);obtain⟨z,hd,x,i,dd⟩:=rC I.hok e;show D_ PySem.F.slot_dict_get dd.typeIs PySem.F.entry_dict_get (PySem.F.args_dict_get_2 _ _) (meetsH_dict_get (tupleKind (aR X.prog X.w)) a b hd) {C_ t,k,x,nU I.hok v,dd,h _ _ (I.tok _) ?_};rw[l];show(i.val k).getD ()
def Kk(v:A.units+1<cLine)(I:aO X c f H s)(g:dn H a y o)(n:aV y u)(p:aV d r)(h:∀q t,aO X c f H t->aV (o.getD d) q->Q q t):wpAny (model X.prog X.w) A (call (.builtin "dict.get") [.ref a,u,r]) Q E s:=by
 rcases g with⟨j,k,e,m,l⟩|⟨j,k,b,e,m,x,l⟩
 ·subst m;obtain⟨z,hd,C,i,dd⟩:=rE I.hok e;show D_ PySem.F.slot_dict_get dd.typeIs PySem.F.entry_dict_get (PySem.F.args_dict_get_3 _ _ _) (meets_dict_get_default (aR X.prog X.w) a (pL n) hd r) {_,dd.mapOf,h _ _ (I.tok _) ?_};rw[l];show(i.val k).getD p
 ·subst m;cases(show u=Value.ref b from n);obtain⟨z,hd,B,i,dd⟩:=rC I.hok e;show D_ PySem.F.slot_dict_get dd.typeIs PySem.F.entry_dict_get (PySem.F.args_dict_get_3 _ _ _) (meetsH_dict_get_default (tupleKind (aR X.prog X.w)) a b hd r) {C_ v,k,B,nU I.hok x,dd,h _ _ (I.tok _) ?_};rw[l];show(i.val k).getD p
end
def IK(e ty:TE):TE:=λb H Q=>e b H λx c=>∃a,x=.ref a/\MG c a/\ty b c λy d=>∃o,dn d a y o/\Q (o.getD .non) d
def IJ(e ty f:TE):TE:=λb H Q=>e b H λx c=>∃a,x=.ref a/\MG c a/\ty b c λy g=>f b g λz d=>∃o,dn d a y o/\Q (o.getD z) d
def IG(f ty:TE):TE:=λc H Q=>f c H λx d=>∃a,x=.ref a/\MG d a/\ty c d λy e=>∃b k v,e a=some (.dK b)/\y=kV k/\bf b k=some v/\Q v (aH e a (.dK (dR b k)))
section
variable{X:Cx}{o e f:Expr}{i c:Pos}{j ty n:TE}
def ue(q:X.A.units+1<cLine)(r:PE X o j)(t:PE X e ty)(m:M1 X o "get" i e c):PE X (.Call (.Attribute o "get" i) [e] [] c) (IK j ty):=by intro b s p H Q I h;show No m.base m.few m.line PySem.F.plainAttrs_dict PySem.F.slot_dict_get PySem.F.type_dict_get (cq (r b s p H _ I h) λu v k=>?_);obtain⟨x,w,I1,z,a,ex,d,B⟩:=k;subst ex;obtain rfl:u=Value.ref a:=z;obtain⟨C,D,_⟩:=Az I1 d;show{C,D,?_};rw[m.trees];show ri () (t6 (qx (cq (t b v p w _ I1 B) λiv M k=>?_)));obtain⟨y,E,G,J,N,g,K⟩:=k;show vu ?_;show Kl q G g J λO P L l=>{_,E,L,l,K}
def ud(p:X.A.units+1<cLine)(q:PE X o j)(r:PE X e ty)(t:PE X f n)(m:M2 X o "get" i e f c):PE X (.Call (.Attribute o "get" i) [e,f] [] c) (IJ j ty n):=by
 intro b s k H Q I h;show No m.base m.few m.line PySem.F.plainAttrs_dict PySem.F.slot_dict_get PySem.F.type_dict_get (cq (q b s k H _ I h) λu v w=>?_);obtain⟨x,B,I1,C,a,ex,d,D⟩:=w;subst ex;obtain rfl:u=Value.ref a:=C;obtain⟨E,G,_⟩:=Az I1 d;show{E,G,?_};rw[m.trees];show ri () (t6 (qx (cq (r b v k B _ I1 D) λiv J⟨y,K,L,M,N⟩=>qx (cq (t b J k K _ L N) λU V⟨z,O,P,R,W,g,S⟩=>vu ?_))))
 show Kk p P g M R λY Z T l=>{_,O,T,l,S}
def yL(r:PE X o j)(t:PE X e ty)(m:M1 X o "pop" i e c):PE X (.Call (.Attribute o "pop" i) [e] [] c) (IG j ty):=by intro b s q H Q I h;show No m.base m.few m.line PySem.F.plainAttrs_dict PySem.F.slot_dict_pop PySem.F.type_dict_pop (cq (r b s q H _ I h) λu w g=>?_);obtain⟨x,z,I1,A,a,ex,d,B⟩:=g;subst ex;obtain rfl:u=Value.ref a:=A;obtain⟨C,D,_⟩:=Az I1 d;show{C,D,?_};rw[m.trees];show ri () (t6 (qx (cq (t b w q z _ I1 B) λiv O g=>?_)));obtain⟨y,P,E,G,J,k,v,K,L,l,M⟩:=g;show vu ?_;subst L;show Md E K G l (.inl ()) λR S N p=>{v,_,N,p,M}
end
end L2
namespace Att
open PySem PySem.W PySem.Calls PyProof.Rows
def sy:∀(ns:Pc)(c:O6),WellAll P h c (ns.map WData.int)->IntsAre c ns:=by
 intro ns
 induction ns with|nil=>intro c w;rw[NM]at w;cases w;show .nil|cons n ns d=>intro c w;rw[lm]at w;cases w with|cons a b=>cases a;show .cons _ _ (d _ b)
def B6{l:OpenLaw}{n:Nat}(hn:l.most=some n){P:Params}{h:Heap}{args:List WData}{c:O6}(e:l.row.toRowW.claim.pre args=true)(i:WellAll P h c args):∃a m ns,c=[Value.ref a]/\args=[WData.list (ns.map WData.int)]/\h.get? a=some {cls:=.type "list",data:=.seq m.toArray}/\IntsAre m ns/\ns.length<=n:=by
 have j:WShape.hasAll [] args [.list .int]=true:=(pre_splitW e).1;have hc:l.pre.holds [] {args:=args}=true:=(pre_splitW e).2;obtain⟨d,r,rfl,h1,h2⟩:=hasAllW_cons j;obtain rfl:=hasAllW_nil h2;obtain⟨t,rfl,h3⟩:=hasW_list h1;obtain⟨ns,rfl⟩:=items_int h3;have b:ns.length<=n:=by
  unfold OpenLaw.pre at hc;have h4:(WTm.not (.lt (.lit (.int (n:Int))) (.len (.arg 0)))).holds [] {args:=[.list (ns.map .int)]}=true:=by have h4:=(holds_andW hc).1;rw[hn]at h4;show h4
  have g:=condW_of h4 (w_not (w_lt w_lit (w_len_list (w_arg ()))));rw[b_]at g;show OR λq=>?_;have k:(n:Int)<((ns.length:Nat):Int):=by lia
  first|(rw[j2 k]at g;show absurd g (by decide))|(simp at g;lia)
 cases i with|cons o p=>cases p;cases o with|list s f=>show{_,_,ns,(),(),s,sy ns _ f,b}
def Cc(l:OpenLaw)(args:List WData):l.row.toRowW.claim.post args (.bool true) args=true:=postW_of (r:=l.row.toRowW) (X:=(true==true)) (show WShape.has [] (.bool true) .bool=true by first|rfl|decide|simp[WShape.has,WShape.arms,WShape.armsAll]) (show(WTm.eq .res (.lit (.bool true))).value [] {args:=args,res:=some (.bool true),after:=args}=some (.bool (true==true))from w_eq_bool (w_res ()) w_lit) ()
def zG{l:OpenLaw}{n:Nat}{q:O7}{c:O8}{x:(Str->Option Value)->Heap->Prop}{y:World->Heap->Prop}{d:DefRec}(hn:l.most=some n)(p:d.params.defaults=[])(call:∀(w:World)(s₀ s₁:Shared)(mg s:O5)(h:Addr)(o:Obj)(pm cd e:Value)(a:Addr)(g:O6)(ns:Pc),Ground q c [] x w s₀ mg s s₁.heap->y w s₁.heap->s₁.heap.get? h=some o->o.data=.func (docDef d.name d.params d.body d.scope pm cd e)->s₁.heap.CodeRec cd d.name->mg d.name=some (.ref h)->s₁.heap.get? a=some {cls:=.type "list",data:=.seq g.toArray}->IntsAre g ns->ns.length<=n->s₁.gens=#[]->codeAny (model l.prog w) callerA (.call (.ref h) {[.ref a],[]}) (λr m=>r=.ok (.ret (.bool true))/\OldK s₁.heap m.heap/\m.os=s₁.os/\AllBare m.gens) s₁):WalkO q c x y l.row.toRowW d [] (λf g=>PySem.call f g):=by intro w s₀ s₁ mg s G Y h o pm cd e D kV E hd t z u hg A B J i C F v H;obtain rfl:D=.none:=Dflts.none z p;obtain rfl:kV=.none:=Dflts.noKw z;obtain⟨a,g,ns,rfl,rfl,j,b,k⟩:=B6 hn i v;show enter_call (z7 (call w s₀ s₁ mg s h o pm cd e a g ns G Y E (fd_plain hd) t u j b k hg) λr m I=>?_);obtain⟨rfl,h2,h3,h4⟩:=I;show{.inl {.bool true,.bool true,[],(),λ_=>(),.bool true,Cc l _,λ_=>{List.Pairwise.nil,λ_ hm=>(nomatch hm)}},h2,h3,h4}
end Att
namespace L2
open PySem PySem.Spec PyProof.Rows
theorem vU:∀{a:O6}{ns:Pc},IntsAre a ns->a0 (ns.map V.int) a|_,_,.nil=>.nil|_,_,.cons n t h=>.cons {t,()} (vU h)
def x5(H:Hp):Prop:=∀b,H b=none\/∃o a,H b=some (.frz o (.lst a))
def ED{P:O7}{w:World}{K:O2}{mg G:O5}{R:zM}{k:Nat}{I a:Addr}{fd:FuncData}{x:Str}{sp:Sp}{s₁:Shared}{l:O6}{ns:Pc}(S:K.In s₁.heap)(t:s₁.heap.Ns mainGlobals mg)(f:s₁.heap.Ns builtinsNs G)(J:∀x:Str,x≠"__name__"->G x=bootBuiltins x)(y:s₁.heap.NoLimit)(hg:s₁.gens=#[])(E:s₁.heap.get? a=some {cls:=.type "list",data:=.seq l.toArray})(hi:IntsAre l ns)(T:ns.length<=sizeLine)(hr:eS k callerA)(F:∀base:Heap,K.In base->base.Ns mainGlobals mg->aP P w K mg base R k I fd [x] sp)(p:∀(s:Shared)(u:Value),BindsTo s fd {[u],[]} [(x,u)])(L:∀H:Hp,x5 H->aS K H a (ns.map V.int)->sp [.ref a] H (λv _=>v=.bl true) λ_ _ _=>False)(M:∀H e g,R [] H s₁ (λ_ _ _=>False) e g->False):codeAny (model P w) callerA (.call (.ref I) {[.ref a],[]}) (λr g=>r=.ok (.ret (.bool true))/\OldK s₁.heap g.heap/\g.os=s₁.os/\AllBare g.gens) s₁:=by
 have U:=vU hi;have A:=hi.length;have j:∀H:Hp,x5 H->aS K H a (ns.map V.int)->lC P w H s₁.heap->(∀b,H b≠none->b=a)->(H a≠none->K.lookup a=none)->codeAny (model P w) callerA (.call (.ref I) {[.ref a],[]}) (λr g=>r=.ok (.ret (.bool true))/\OldK s₁.heap g.heap/\g.os=s₁.os/\AllBare g.gens) s₁:=by
  intro H X hS hok Y hK;have c:∀{b:Addr}{o:Obj},s₁.heap.get? b=some o->H b=none->(xG s₁.heap H).get? b=some o:=λe n=>ES e n;have N:∀{b:Addr}{o:Obj}{es:Array DictEntry}{ep:Nat},s₁.heap.get? b=some o->o.data=.dict es ep->H b=none:=λ{b o es ep}e d=>by cases q:H b with|none=>rfl|some u=>have O:b=a:=Y b (by rw[q];simp);subst O;rw[E]at e;cases e;have d':Data.seq l.toArray _=Data.dict es ep:=d;cases d'
  have i:∀{b:Addr}{m:O5},s₁.heap.Ns b m->(xG s₁.heap H).Ns b m:=λ{b m}⟨o,es,ep,e,d,r⟩=>{o,es,ep,c e (N e d),d,r};have B:K.In (xG s₁.heap H):=λb o e=>c (S b o e) (by cases q:H b with|none=>rfl|some u=>have O:b=a:=Y b (by rw[q];simp);subst O;rw[hK (by rw[q];simp)]at e;cases e)
  have hM:Mm K mg (xG s₁.heap H):={B,i t,{G,i f,J},let⟨mc,h1,h2⟩:=y;{mc,i h1,h2}};have e0:AU P w K mg (xG s₁.heap H) callerA [] s₁ H:={(),hM,λb o e=>GP e,On (Cv _ _),trivial,λb f=>absurd (show b∈([]:Pb)from f) (by simp),hok,.of_eq hg};show z7 ((F _ B (i t)).run callerA [] s₁ H {[.ref a],[]} [.ref a] [.ref a] _ _ hr e0 (p s₁ (.ref a)) (.cons () .nil) (L H X hS)) λr g h=>?_;cases r with|error e=>show(M H e g h).elim|ok fl=>cases fl with|next=>show False.elim h|brk=>show False.elim h|cont=>show False.elim h|ret u=>obtain⟨v,H',os,bare,un,C,r',q⟩:=h;have q':v=.bl true:=q;subst q';obtain rfl:u=Value.bool true:=r';show{(),OldK.of_keep λb o e=>?_,os,bare};cases q:H b with|none=>show un.keep b o e q (by intro z;show absurd (show b∈([]:Pb)from z) (by simp)) (by simp)|some u=>
     rcases X b with z|⟨ob,xs,z⟩
     ·rw[q]at z;cases z
     ·have z2:=un.frzs b ob _ z;obtain⟨Z,_⟩:=hok b _ z;obtain⟨e2,_⟩:=C b _ z2;rw[e]at Z;cases Z;show e2
 cases Q:K.lookup a with|some o=>have e:=S a o Q;rw[E]at e;cases e;show j (λ_=>none) (λ_=>.inl ()) (.inr {_,l.toArray,_,Q,(),(),(),by rw[h_,A];show T,by simpa using U}) (λb u z=>by have D:(none:Option HO)=some u:=z;cases D) (λb z=>absurd () z) λz=>absurd () z|none=>
  show j (λb=>if b=a then some (.frz {cls:=.type "list",data:=.seq l.toArray} (.lst (ns.map V.int)))else none) (λb=>?_) (.inl (.inr {{cls:=.type "list",data:=.seq l.toArray},g6 ()})) (λb u z=>?_) (λb z=>?_) λ_=>Q
  ·by_cases f:b=a
   ·show .inr {_,_,g6 f}
   ·show .inl (g_ f)
  ·by_cases f:b=a
   ·have D:=(g6 f).symm.trans z;cases D;subst f;show{E,by rw[b_];show T,l,_,U,E}
   ·have D:=(g_ f).symm.trans z;cases D
  ·by_cases f:b=a
   ·show f
   ·show absurd (g_ f) z
abbrev KOf{K:O2}{h:Heap}(_:K.In h):O2:=K
def FN{l:PySem.W.OpenLaw}{n k:Nat}{q:O7}{i:O8}{I:(Str->Option Value)->Heap->Prop}{C:World->Heap->Prop}{d:DefRec}{K:Params->O2}{CX:World->zM}{sp:World->Sp}{x:Str}(hn:l.most=some n)(r:n<=sizeLine)(t:d.params.defaults=[])(J:eS k callerA)(L:∀(w:World)(h:Heap),C w h->(K w.params).In h)(F:∀(w:World)(mg:O5)(p:Addr)(h:Heap),(K w.params).In h->h.Ns mainGlobals mg->mg d.name=some (.ref p)->∃fd:FuncData,(∀(s:Shared)(u:Value),BindsTo s fd {[u],[]} [(x,u)])/\∀base:Heap,(K w.params).In base->base.Ns mainGlobals mg->aP l.prog w (K w.params) mg base (CX w) k p fd [x] (sp w))(y:∀(w:World)(H:Hp)(a:Addr)(ns:Pc),ns.length<=n->x5 H->aS (K w.params) H a (ns.map V.int)->sp w [.ref a] H (λv _=>v=.bl true) λ_ _ _=>False)(z:∀(w:World)(H:Hp)(s:Shared)(e:Value)(A:Shared),CX w [] H s (λ_ _ _=>False) e A->False):PySem.W.WalkO q i I C l.row.toRowW d [] (λf D=>PySem.call f D):=by show Att.zG hn t λw s₀ s₁ mg S p o pm cd M a D ns G Y U hd N B m j c hg=>?_;have E:=L w _ Y;obtain⟨fd,O,P⟩:=F w mg p _ E G.T.g B;show ED E G.T.g G.T.b G.T.builtins G.T.nolimit hg m j (iA c r) J P O (λH Q R=>y w H a ns c Q R) λH e A=>z w H s₁ e A
def CV{l:PySem.W.OpenLaw}{n k:Nat}{q:O7}{c:O8}{t:(Str->Option Value)->Heap->Prop}{p:World->Heap->Prop}{d:DefRec}{K:Params->O2}{CX:zM}{sp:O2->Sp}{x:Str}(hn:l.most=some n)(g:n<=sizeLine)(i:d.params.defaults=[])(y:eS k callerA)(z:∀(w:World)(h:Heap),p w h->(K w.params).In h)(F:∀(w:World)(mg:O5)(r:Addr)(h:Heap),(K w.params).In h->h.Ns mainGlobals mg->mg d.name=some (.ref r)->∃fd:FuncData,(∀(s:Shared)(u:Value),BindsTo s fd {[u],[]} [(x,u)])/\∀base:Heap,(K w.params).In base->base.Ns mainGlobals mg->aP l.prog w (K w.params) mg base CX k r fd [x] (sp (K w.params)))(j:∀(K:O2)(H:Hp)(a:Addr)(ns:Pc),ns.length<=n->x5 H->aS K H a (ns.map V.int)->sp K [.ref a] H (λv _=>v=.bl true) λ_ _ _=>False)(m:∀(H:Hp)(s:Shared)(e:Value)(o:Shared),CX [] H s (λ_ _ _=>False) e o->False):PySem.W.WalkO q c t p l.row.toRowW d [] (λf A=>PySem.call f A):=FN (K:=K) (CX:=λ_=>CX) (sp:=λw=>sp (K w.params)) hn g i y z F (λw H a ns h1 h2 h3=>j (K w.params) H a ns h1 h2 h3) λ_ H s e o=>m H s e o
def pR(s:Stmt):Arguments:=match s with|.FunctionDef _ a _ _ _ _ _ _ _ _=>a|_=>{posonlyargs:=[],args:=[],vararg:=none,kwonlyargs:=[],kw_defaults:=[],kwarg:=none,defaults:=[]}
def gI(s:Stmt):List Stmt:=match s with|.FunctionDef _ _ b _ _ _ _ _ _ _=>b|_=>[]
def ai(s:Stmt):Scope:=match s with|.FunctionDef _ _ _ _ _ _ a _ _ _=>a|_=>{kind:=.function,names:=[],isGenerator:=false,isCoroutine:=false}
abbrev cP:zM:=λ_ _ _ _ _ _=>False
abbrev E0:XK:=λ_ _ _=>False
def aQ:mq cP X E0:=λ_ _ _ _ _ _ _ h=>h.elim
structure x8(K:O2)(x qual:Str)(st:Stmt)(f:Addr)(fd:FuncData):Prop where
 ex:∃(oc:Value)(od:Option Addr)(kV doc pm:Value)(an:Option Addr)(cdv ct:Value)(osl:Array (Option Value)),fd=PySem.W.fnOf x qual (pR st) (gI st) (ai st) .none kV doc pm an cdv ct/\K.lookup f=some {oc,od,.func fd,osl}/\PySem.W.codeIn K cdv qual=true
 kp:PySem.W.keepIn K (.ref f)=true
section
variable{P:O7}{w:World}{K:O2}{mg:O5}{base:Heap}
def x8.ok{x a:Str}{st:Stmt}{f:Addr}{fd:FuncData}{N g:O8}{k:Nat}{sp:Sp}(F:x8 K x a st f fd)(S:av N g (ai st))(len:∀d H Q E,sp d H Q E->d.length=g.length)(e:∀(c:Value)(A:Around)(outer:List Env)(s:Shared)(H:Hp)(d:List V)(Q:VK)(E:XK),eS k (A.deeper (envOfC a (ai st) s.heap.objs.size f c))->sp d H Q E->∃t,u5 (qJ cP P w K mg base N a (ai st) f c A outer s H E).nox (gI st) t/\t {nx:=λ_ j=>Q .non j,rt:=Q} (iX N d) H):aP P w K mg base cP (k+1) f fd g sp:=by obtain⟨oc,o,kV,l,pm,p,c,ct,m,rfl,lk,b⟩:=F.ex;show HZ lk b S len λA outer s H d Q E n i=>?_;obtain⟨t,h,q⟩:=e c A outer s H d Q E n i;show(t,h.nox,q,)
def x8.binds{x a:Str}{st:Stmt}{f:Addr}{fd:FuncData}{e:O8}(F:x8 K x a st f fd)(h:∀(kV c pm:Value)(g:Option Addr)(d ct:Value)(i:O6),i.length=e.length->bindArgs (PySem.W.fnOf x a (pR st) (gI st) (ai st) .none kV c pm g d ct) {i,[]}=pure (e.zip i)):fU K fd e []:=by obtain⟨oc,k,kV,c,pm,g,d,ct,b,rfl,lk,j⟩:=F.ex;show .all (h kV c pm g d ct)
def AD{x a:Str}{st:Stmt}{f:Addr}{oc:Value}{i h:Option Addr}{g:Array (Option Value)}{kV e pm d ct:Value}(l:K.lookup f=some {oc,i,.func (PySem.W.fnOf x a (pR st) (gI st) (ai st) .none kV e pm h d ct),g})(c:PySem.W.codeIn K d a=true)(k:PySem.W.keepIn K (.ref f)=true):x8 K x a st f (PySem.W.fnOf x a (pR st) (gI st) (ai st) .none kV e pm h d ct):={{oc,i,kV,e,pm,h,d,ct,g,(),l,c},k}
end
def bZ(a:eS k A):A.units+1<cLine:=Es (Nat.add_le_add_left (by decide:1<=64) _) a.units
section
variable{X:Cx}
def Y(i:Nat)(c:X.N[i]?=some x:=by rfl)(d:MD X.env.scope x:=by first|show Or.inl ()|show Or.inr (Or.inl ())|show Or.inr (Or.inr ()))(hd:(x==("__debug__":Str))=false:=by decide)(a:(x==("__classdict__":Str))=false:=by decide):PE X (.Name x e) (IC i):=Ju c d hd a
end
def cu{A B:Prop}(h:B):if false=true then A else B:=by rw[g_ iq];show h
def bI{A B:Prop}(h:A):if true=true then A else B:=by rw[g6 ()];show h
def am(H a:Hp):Prop:=∀b o,H b=some o->a b=some o
def am.refl(H:Hp):am H H:=λ_ _ h=>h
def am.trans(a:am H d)(b:am d e):am H e:=λc o h=>b c o (a c o h)
def am.free(e:am H a)(h:a l=Option.none):H l=Option.none:=by cases q:H l with|none=>rfl|some o=>rw[e l o q]at h;cases h
def am.seq{K:O2}{H c:Hp}{a:Addr}{d:List V}(e:am H c)(h:aS K H a d):aS K c a d:=by
 rcases h with(h|⟨o,h⟩)|h
 ·show .inl (.inl (e _ _ h))
 ·show .inl (.inr {o,e _ _ h})
 ·show .inr h
section
variable{a:Type}[DecidableEq a]
def wN{p:a×V}{r:List (a×V)}{k:a}(e:p.1=k):dR (p::r) k=dR r k:=by unfold dR;rw[Of,g_ (by simp[e])]
def wO{p:a×V}{r:List (a×V)}{k:a}(e:¬p.1=k):dR (p::r) k=p::dR r k:=by unfold dR;rw[Of,g6 (by simp[e])]
end
end L2
set_option maxHeartbeats 4000000
namespace L2
open PySem PySem.Spec PyProof.Rows
section
variable{prog:O7}{w:World}{A:Around}{R:Result->Shared->Prop}{s:Shared}
def kh(h:wpAny M A t Q (λ_ _=>False) s)(k:∀a s,Q a s->c a s):wpAny M A t c E s:=wpAny_mono h k λ_ _ z=>z.elim
def zv(J:Nat->Shared->Prop)(l:∀n s,J n s->wpAny (model prog w) A (pyNext z) (λr s₁=>match r with|none=>R (.ok .next) s₁|some v=>wpAny (model prog w) A (letOwnedTupleGo a z v) (λ_ d=>wpAny (model prog w) A (assign a env v) (λ_ e=>wpAny (model prog w) A (forIn k true λc r=>if r=true then do let ok<-isTrue c env (eval c env);pure (ForInStep.yield ok)else pure (ForInStep.yield r)) (λok b=>if ok=true then wpAny (model prog w) A (eval o env) (λx f=>wpAny (model prog w) A (call (.builtin "list.append") [p,x]) (λ_ g=>∃m,m<n/\J m g) (λ_ _=>False) f) (λ_ _=>False) b else∃m,m<n/\J m b) (λ_ _=>False) e) (λ_ _=>False) d) (λ_ _=>False) s₁) (λ_ _=>False) s)(n:Nat)(h:J n s):codeAny (model prog w) A (.compLoop (.ListComp o [{a,iter,k,0}] scope B) 0 z p env) R s:=by show codeAny_loop () J (λn s C=>?_) n h;change wpAny _ A ((compTurn (.ListComp o [{a,iter,k,0}] scope B) 0 z p env).onRaise (λx=>do noteFrame x env;theTreesLotGoes x)) _ _ s;show wpAny_noted ?_;rw[compTurn_list];show a_ (wpAny_standAt (a_ (kh (l n s C) (λr s₁ i=>?_))));cases r with|none=>show fx i|some v=>show a_ (kh i λ_ d q=>a_ (kh q λ_ e t=>a_ (kh t λok b j=>?_)));cases ok with|false=>show fx {(),j}|true=>show a_ (a_ (kh j λx f u=>a_ (kh u λ_ g y=>fx (fx {(),y}))))
end
theorem lw{f:Str->NameKind->NameKind}:∀(l:List (Str×NameKind))(x:Str),(l.map λp=>(p.1,f p.1 p.2)).lookup x=(l.lookup x).map (f x)|[],_=>()|(n,k)::r,x=>by rw[lm,Oa,Oa];cases a:x==n with
 |true=>
   have e:x=n:=by simpa using a
   subst e;rfl|false=>show lw r x
def lT(env:Env)(n:Str)(k:NameKind):NameKind:=if(k==.free&&env.scope.kind==.function&&env.kindOf n==some .cell)=true then .cell else k
def i5(scope:Scope)(env:Env)(x:Str):(relabel scope env).names.lookup x=(scope.names.lookup x).map (lT env x):=by
 rw[<-lw];unfold relabel
 congr 1
 change List.map _ scope.names=List.map _ scope.names
 congr 1
 funext p
 obtain⟨n,k⟩:=p;change(if(k==NameKind.free&&env.scope.kind==.function&&env.kindOf n==some .cell)=true then(n,NameKind.cell)else(n,k))=(n,lT env n k);unfold lT
 split<;>rfl
theorem oh{env:Env}{f:Str×NameKind->List (Str×Addr)->Sem (ForInStep (List (Str×Addr)))}(d:∀n c r,cellOf env n=pure c->f (n,.free) r=pure (.yield ((n,c)::r)))(g:∀n k r,k≠.free->f (n,k) r=pure (.yield r)):∀(l:List (Str×NameKind))(cs:List (Str×Addr)),(∀y∈l,y.2=.free->∃c,env.cells.lookup y.1=some c)->∃cl:List (Str×Addr),forIn l cs f=pure cl/\(∀x c,cl.lookup x=some c->env.cells.lookup x=some c\/cs.lookup x=some c)/\(∀x,(∃c,cs.lookup x=some c)\/(x,NameKind.free)∈l->∃c,cl.lookup x=some c)
 |[],cs,_=>{cs,(),λ_ _ h=>.inr h,λx h=>h.elim id nofun}|(n,k)::r,cs,h=>by
  by_cases o:k=.free
  ·subst o;obtain⟨c,hc⟩:=h (n,.free) i_ ();obtain⟨cl,h1,h2,h3⟩:=oh d g r ((n,c)::cs) λy p=>h y (il _ p);show{cl,?_,λx i a=>?_,λx a=>h3 x ?_}
   ·rw[Ou,d n c cs (by unfold cellOf;rw[hc])];show h1
   ·rcases h2 x i a with z|z
    ·show .inl z
    ·rw[Oa]at z;cases b:x==n with|true=>
      rw[b]at z;have j:x=n:=by simpa using b
      have m:c=i:=by simpa using z
      subst j;subst m;show .inl hc|false=>rw[b]at z;show .inr z
   ·rcases a with⟨i,a⟩|a
    ·show .inl ?_;rw[Oa];cases b:x==n with|true=>show{c,()}|false=>show(i,a,)
    ·rcases q_.mp a with e|e
     ·injection e with j m;subst j;show .inl {c,by simp}
     ·show .inr e
  ·obtain⟨cl,h1,h2,h3⟩:=oh d g r cs λy p=>h y (il _ p);show{cl,?_,h2,λx a=>h3 x ?_}
   ·rw[Ou,g n k cs o];show h1
   ·rcases a with a|a
    ·show .inl a
    ·rcases q_.mp a with e|e
     ·injection e with j m;show absurd m.symm o
     ·show .inr e
def vI{env:Env}{scope:Scope}(h:∀y∈scope.names,y.2=.free->∃c,env.cells.lookup y.1=some c):∃cl:List (Str×Addr),closureFor scope env=pure cl/\(∀x c,cl.lookup x=some c->env.cells.lookup x=some c)/\(∀x,(x,NameKind.free)∈scope.names->∃c,cl.lookup x=some c):=by
 simp only[closureFor];obtain⟨cl,h1,h2,h3⟩:=oh (env:=env) (f:=λ(x:Str×NameKind)(r:List (Str×Addr))=>match x with|(b,kind)=>if(kind==NameKind.free)=true then(do let a<-cellOf env b;pure (ForInStep.yield ((b,a)::r)))else pure (ForInStep.yield r)) (λn c r e=>by change(if(NameKind.free==NameKind.free)=true then(do let a<-cellOf env n;pure (ForInStep.yield ((n,a)::r)))else pure (ForInStep.yield r):Sem _)=_;rw[g6 (by decide),e];rfl) (λn k r e=>by change(if(k==NameKind.free)=true then(do let a<-cellOf env n;pure (ForInStep.yield ((n,a)::r)))else pure (ForInStep.yield r):Sem _)=_;rw[g_ (by simpa using e)]) scope.names [] h
 show{cl,?_,λx c e=>(h2 x c e).elim id λz=>by simp at z,λx d=>h3 x (.inr d)};rw[h1];rfl
def Cx.comp(X:Cx)(scope:Scope)(a:O8)(cl:List (Str×Addr))(C:Addr)(s₀:Shared)(H₀:Hp)(ex:Pb):Cx:={prog:=X.prog,w:=X.w,K:=X.K,mg:=X.mg,base:=X.base,A:=X.A,N:=a,s₀:=s₀,H₀:=H₀,env:=compEnvC scope cl C X.env,outer:=X.stack,stack:=X.stack,ex:=ex,fn:=λ_=>false,calm:=X.calm,pn:=X.pn,xe:=λ_ _=>False}
def iL(ds:Pa)(k:Nat)(a:St):St:=ds.foldl (λa i=>a.set i none) a++List.replicate k none
def og(ds:Pa):∀a:St,(ds.foldl (λa i=>a.set i none) a).length=a.length:=by induction ds with|nil=>intro a;rfl|cons d r b=>intro a;rw[w1,b];simp
def AG(ds:Pa):∀(a:St)(i:Nat)(v:V),(ds.foldl (λa i=>a.set i none) a)[i]?=some (some v)->a[i]?=some (some v)/\i∉ds:=by induction ds with|nil=>intro a i v h;show{h,by simp}|cons d r b=>
  intro a i v h;rw[w1]at h;obtain⟨h1,h2⟩:=b _ i v h
  by_cases e:d=i
  ·subst e
   by_cases c:d<a.length
   ·rw[x_ c]at h1;cases h1
   ·rw[K_.mpr (by rw[wr];lia)]at h1;cases h1
  ·rw[pv e]at h1;show{h1,λz=>(q_.mp z).elim (λq=>e q.symm) h2}
def zm(h:(iL ds k a)[i]?=some (some v)):a[i]?=some (some v)/\i∉ds/\i<a.length:=by
 unfold iL at h
 by_cases b:i<a.length
 ·rw[rk (by rw[og];show b)]at h;obtain⟨h1,h2⟩:=AG ds a i v h;show(h1,h2,b,)
 ·rw[y_ (by rw[og];lia)]at h;have:=d_.mp h;obtain⟨h1,h2⟩:=this;rw[List.getElem_replicate]at h2;cases h2
def HH(X:Cx)(d:O9)(t:TT):Prop:=∀(a:O4)(s:Shared)(b:St)(H:Hp)(Q:Bool->Hp->Prop),aO X a b H s->t b H Q->wpAny (model X.prog X.w) X.A (forIn d true λc r=>if r=true then do let ok<-isTrue c X.env (eval c X.env);pure (ForInStep.yield ok)else pure (ForInStep.yield r)) (TP X a b Q) X.xe s
def K0:TT:=λ_ H Q=>Q true H
def bQ:HH X [] K0:=λ_ _ _ H _ I h=>wpAny_tests_nil (H,I,h,)
def pj(h:PT X c t):HH X [c] t:=λa s b H Q I q=>wpAny_tests_one (h a s b H Q I q)
def GK(g:TG)(c:Pa):Prop:=∀x b H Q,g x b H Q->g x b H λa d=>Q a d/\a.length=b.length/\∀i,i∉c->a[i]?=b[i]?
def b0(j:Nat):GK (ky j) [j]:=λx a H Q h=>by show{h,by simp,λi hi=>?_};rw[pv (λe=>hi (by simp[e]))]
def qH(K:O2)(i j:Nat):GK (J7 K 2 (EX (ky i) (EX (ky j) L8))) [i,j]:=λx l H Q h=>by obtain⟨a,b,e,c,d,v,r,f,u,r2,g,k,q⟩:=h;show{a,b,e,c,d,v,r,f,u,r2,g,k,q,by simp,λn hn=>?_};have h1:n≠i:=λz=>hn (by simp[z]);have h2:n≠j:=λz=>hn (by simp[z]);rw[pv (nn h2),pv (nn h1)]
def sV(o:TI)(g:TG)(ds:Pa)(k:Nat)(tc:TT)(te:TE):TE:=λf H Q=>o f H λJ h=>∀D,h D=none->∃W:Nat->Nat->List V->Hp->Prop,(∃m,W 0 m [] (aH h D (.lst [])))/\∀i m a c,W i m a c->(J.stop i c/\Q (.ref D) c)\/(J.go i c/\∀x j,J.yld i c x j->g x (iL ds k f) j λd p=>tc d p λb l=>if b=true then te d l λy n=>n D=some (.lst a)/\a.length<sizeLine/\∃e,e<m/\W (i+1) e (a++[y]) (aH n D (.lst (a++[y])))else∃e,e<m/\W (i+1) e a l)
section
variable{X:Cx}
def Fk(I:aO X t σ H s)(f:∀b∈fp,vQ X t H b)(fo:∀b∈fp,∃o,s.heap.get? b=some o)(E:scope.kind=.function)(F:∀y∈scope.names,y.2≠.cell)(G:∀y∈scope.names,y.2=.free->X.env.scope.names.lookup y.1=some .cell\/X.env.scope.names.lookup y.1=some .free)(g:∀x c,cl.lookup x=some c->X.env.cells.lookup x=some c)(D:∀x,(x,NameKind.free)∈scope.names->∃c,cl.lookup x=some c)(hN:W=X.N++L)(hk:L.length=k)(M:∀i x,X.N[i]?=some x->scope.names.lookup x=some .local->i∈ds)(P:s.heap.objs.size<C)(keep:∀b o,s.heap.get? b=some o->j.get? b=some o)(Z:j.Ns C m)(hD:j.get? s.heap.objs.size=some {cls:=.type "list",data:=.seq ([]:O6).toArray 0}):aO (X.comp scope W cl C s H fp) t (iL ds k σ) (aH H s.heap.objs.size (.lst [])) {s with heap:=j,toks:=tk}:=by
 have fresh:H s.heap.objs.size=none:=I.hok.fresh (e_ _);have O:lC X.prog X.w (aH H s.heap.objs.size (.lst [])) j:=I.hok.laid keep (e_ _) {ku _,[],0,.nil,hD};have J:∀b∈fp,b<s.heap.objs.size:=λb A=>let⟨_,e⟩:=fo b A;hY e;have K:∀b,b∈jK X.stack->∀p∈X.pn++t,p.1≠b:=λb A p T e=>by
  obtain⟨_,_,n1,n2,_⟩:=I.pin p T;rcases q_.mp (I.stkSub b A)with z|z
  ·show n1 (e.trans z)
  ·show n2 (e▸z)
 have B:∀x c,cl.lookup x=some c->c<s.heap.objs.size:=λx c e=>by obtain⟨v,z⟩:=I.cell x c (g x c e);show z.lt
 have a:∀x,(relabel scope X.env).names.lookup x=some .cell\/(relabel scope X.env).names.lookup x=some .free->scope.names.lookup x=some .free:=λx h=>by rw[i5]at h;cases e:scope.names.lookup x with|none=>rw[e]at h;simp at h|some q=>
   rw[e]at h;have hm:=mem_of_lookup e;have nc:q≠.cell:=F _ hm;simp only[M_,NX]at h;unfold lT at h
   split at h
   ·rename_i hc;have:(q==NameKind.free)=true:=by cases hq:q==NameKind.free with|true=>rfl|false=>rw[hq]at hc;simp at hc
    have:q=.free:=by simpa using this
    rw[this]
   ·rcases h with h|h
    ·show absurd h nc
    ·rw[h]
 show{{I.ok.mod,?_,I.ok.glob,I.ok.blt,sT P,?_,?_,?_,I.ok.hd,I.ok.frames,.inl (),?_,I.bs,iA I.ok.bsz I.sz,?_,?_,I.stack,I.stkFree},(),I.bare,Un.laid keep (e_ _) fresh,{m,Z,?_},?_,?_,?_,?_,O,?_}
 ·show E
 ·intro x y c Y hy;show I.ok.inj x y c (g x c Y) (g y c hy)
 ·intro x Y;show D x (mem_of_lookup (a x Y))
 ·intro x c hf;show absurd hf (by simp[Cx.comp])
 ·intro b A;show{ir (z8 (J b A) P),λx c e z=>?_};show(f b A).2.2.2.2.1 x c (g x c e) z
 ·intro b o e A;rcases(f b A).2.2.2.1 with z|z
  ·show I.ok.noex b o e z
  ·show absurd (me (hY e) (iA I.ok.bsz z)) (o_ _)
 ·intro b A hs;rcases q_.mp (I.stkSub b hs)with z|z
  ·show(f b A).2.1 z
  ·show(f b A).2.2.1 z
 ·intro i x v U e2 vis;obtain⟨g1,g2,g3⟩:=zm e2;have Q:X.N[i]?=some x:=by have U:W[i]?=some x:=U;rw[hN,rk (by rw[<-I.len];show g3)]at U;show U
  have hv:scope.names.lookup x=some .free:=by
   rcases vis with z|z|z
   ·exfalso;have z:(relabel scope X.env).names.lookup x=some .local:=z;rw[i5]at z;cases e:scope.names.lookup x with|none=>rw[e]at z;simp at z|some q=>
     rw[e]at z;simp only[M_,NX]at z;unfold lT at z
     split at z
     ·cases z
     ·subst z;show g2 (M i x Q e)
   ·show a x (.inl z)
   ·show a x (.inr z)
  have hm:=mem_of_lookup hv;have hX:=G _ hm ();obtain⟨mX,_,hl⟩:=I.loc;have R:MD X.env.scope x:=by
   rcases hX with z|z
   ·show .inr (.inl z)
   ·show .inr (.inr z)
  obtain⟨u,r,l⟩:=hl i x v Q g1 R;show{u,r,.inr {?_,?_}}
  ·change(relabel scope X.env).names.lookup x=some .cell\/(relabel scope X.env).names.lookup x=some .free;rw[i5,hv];change some (lT X.env x .free)=some .cell\/some (lT X.env x .free)=some .free;unfold lT
   split
   ·show .inl ()
   ·show .inr ()
  ·obtain⟨c,hc⟩:=D x hm;have aa:=g x c hc;show{c,hc,?_};rcases l with⟨V,_⟩|⟨_,c',S,o,ho,hd⟩
   ·exfalso;have V:X.env.scope.names.lookup x=some .local:=V;rcases hX with z|z
    ·rw[V]at z;cases z
    ·rw[V]at z;cases z
   ·rw[aa]at S;cases S;show{o,keep c o ho,hd}
 ·intro x c e;obtain⟨v,o,ho,hd⟩:=I.cell x c (g x c e);show{v,o,keep c o ho,hd}
 ·change aH H s.heap.objs.size (.lst []) C=none;rw[ak (n_ P)];show I.hok.fresh (sT P)
 ·intro x c e;rw[ak (ir (B x c e))];show I.freeC x c (g x c e)
 ·intro p T;obtain⟨e,n,n1,n2,d⟩:=I.pin p T;have lt:=hY e;show{keep _ _ e,?_,ir (z8 lt P),λz=>K p.1 z p T (),d};rw[ak (ir lt)];show n
 ·change(iL ds k σ).length=W.length;unfold iL;rw[hQ,og,I.len,hN,hQ,Nq,hk]
def Fj(I:aO X a m H s)(f:∀b∈fp,vQ X a H b)(g:aO (X.comp scope x cl C s H fp) a p i j)(r:s.heap.objs.size<C)(l:Heap.SameBut C j.heap h'):aO X a m i {j with heap:=h'}:=by
 have u:=g.base;have d:i C=none:=g.free;have ne:∀b o,s.heap.get? b=some o->b≠C:=λb o e=>ir (z8 (hY e) r);have t:Un (jK X.stack) fp H i s.heap h':=by
  show{λb o e n h1 h2=>?_,λb o e n h1 h2=>?_,u.free,λb o e h2=>?_,u.tups,u.frzs,u.tbls}
  ·show(l.2 b (ne b o e)).trans (u.keep b o e n h1 h2)
  ·obtain⟨sl,q⟩:=u.slot b o e n h1 h2;show{sl,(l.2 b (ne b o e)).trans q}
  ·obtain⟨v,q⟩:=u.there b o e h2;show{v,(l.2 b (ne b o e)).trans q}
 have h:lC X.prog X.w i h':=λb ob e=>by
  show(g.hok b ob e).stay (λc y hc q=>(l.2 c ?_).trans q) (λ_ q=>q) λ_ _ q=>q;rintro rfl;rcases hc with rfl|hc
  ·rw[d]at e;cases e
  ·rw[d]at hc;cases hc
 show I.call' (s':={j with heap:=h'}) g.os t h g.bare λb k=>{(f b k).2.2.2.1,(f b k).2.1,(f b k).2.2.2.2.1,(f b k).2.2.2.2.2}
def aO.block_gone(I:aO X a d H s)(hn:H C=none)(f:C≠X.env.locals)(h1:X.s₀.heap.objs.size<=C)(h2:∀x c,X.env.cells.lookup x=some c->c≠C)(h3:∀p∈X.pn++a,p.1≠C)(g:Heap.SameBut C s.heap h'):aO X a d H {s with heap:=h'}:=I.turned (t':=s.toks) (λb o h e=>(g.2 b h).trans e) hn f (.inr h1) h2 h3
def wQ(N':O8)(ds:Pa)(k:Nat){a:O4}{s:Shared}{P:St}{H:Hp}{Q:VK}{use:Option (Value->Sem Unit)}{QV:O3}(hc:X.calm=true)(hi:PI X tg iter wi)(F:∀cl C s₀ H₀ ex,PG (X.comp scope N' cl C s₀ H₀ ex) tg g/\HH (X.comp scope N' cl C s₀ H₀ ex) R tc/\PE (X.comp scope N' cl C s₀ H₀ ex) a7 te)(hg:GK g js)(hj:∀P:St,P.length=X.N.length->∀j∈js,∀v,(iL ds k P)[j]?≠some (some v))(G:scope.kind=.function)(S:∀y∈scope.names,y.2≠.cell)(aa:∀y∈scope.names,y.2=.local->scope.names.lookup y.1=some .local)(Z:∀y∈scope.names,y.2=.free->X.env.scope.names.lookup y.1=some .cell\/X.env.scope.names.lookup y.1=some .free)(hN:N'=X.N++a8)(hk:a8.length=k)(a9:∀i x,X.N[i]?=some x->scope.names.lookup x=some .local->i∈ds)(hs:∀x,foldedSetIterable iter X.env x=pure x)(I:aO X a P H s)(h:sV wi g ds k tc te P H Q)(fin:∀(D C:Addr)(H':Hp)(s':Shared)(m:O5),aO X a P H' s'->Q (.ref D) H'->s'.heap.Ns C m->H' C=none->C≠X.env.locals->X.s₀.heap.objs.size<=C->(∀x c,X.env.cells.lookup x=some c->c≠C)->(∀p∈X.pn++a,p.1≠C)->compPost (model X.prog X.w) X.A X.xe use QV (.ref D) C (.ok .next) s'):wpAny (model X.prog X.w) X.A (comprehension (.ListComp a7 [{tg,iter,R,0}] scope ba) scope X.env (firstIterPos [{tg,iter,R,0}] ba) (newList []) (firstAsync [{tg,iter,R,0}]) (firstIter [{tg,iter,R,0}] X.env) use) QV X.xe s:=by
 have V:∀y∈scope.names,y.2=.free->∃c,X.env.cells.lookup y.1=some c:=λy hy e=>I.ok.has y.1 (Z y hy e);obtain⟨cl,as,bb,bc⟩:=vI V;show wpAny_comprehension_free (use:=use) () hs as G aa (cq (hi a s P H _ I h) λv s1 h1=>cq h1 λdc l h2=>?_);obtain⟨it,fp,tn,J,H2,e,Y,T,bi,f2,q⟩:=h2;subst e;have di:=Y;obtain⟨W,⟨m0,w0⟩,bl⟩:=q l.heap.objs.size (Y.hok.fresh (e_ _));show oD (wpAny_newFunctionEnv S (by intro y hy;simp at hy) (λB t hsb₁=>?_) G);dsimp only at t hsb₁⊢;generalize ax:l.heap.push {cls:=.type "list",dict:=none,data:=.seq ([]:O6).toArray}=G2 at t hsb₁⊢;have hC:l.heap.objs.size<G2.objs.size:=by rw[<-ax,ov];show si _
 have keep:∀b o,l.heap.get? b=some o->B.get? b=some o:=λb o e=>hsb₁.extBut b o (ir (z8 (hY e) hC)) (c_ _ (ax▸c_ _ e))
 have hD:B.get? l.heap.objs.size=some {cls:=.type "list",data:=.seq ([]:O6).toArray 0}:=hsb₁.extBut _ _ (ir hC) (c_ _ (ax▸gg _ ()));have fo:∀b∈fp,∃o,l.heap.get? b=some o:=λb F=>let⟨o,e,_⟩:=T.obj _ _ bi b F;(o,e,);obtain⟨bo,bt,bz⟩:=F cl G2.objs.size l H2 fp;generalize f:X.comp scope N' cl G2.objs.size l H2 fp=L at bo bt bz;have xp:L.prog=X.prog:=by rw[<-f];rfl
 have xw:L.w=X.w:=by rw[<-f];rfl
 have xK:L.K=X.K:=by rw[<-f];rfl
 have xA:L.A=X.A:=by rw[<-f];rfl
 have xe:L.xe=λ_ _=>False:=by rw[<-f];rfl
 have E:L.env=compEnvC scope cl G2.objs.size X.env:=by rw[<-f];rfl
 have bO:L.calm=true:=by rw[<-f];show hc
 have iX:aO L a (iL ds k P) (aH H2 l.heap.objs.size (.lst [])) {l with heap:=B,toks:=l.toks+([]:List (Str×Value)).length}:=by rw[<-f];show Fk Y f2 fo G S Z bb bc hN hk a9 hC keep t hD
 have b8:tn 0 B:=T.keep _ _ _ bi λb _ o e=>keep b o e;have c1:∀b∈fp,aH H2 l.heap.objs.size (.lst []) b=none:=λb F=>by obtain⟨o,e⟩:=fo b F;rw[ak (ir (hY e))];show(f2 b F).1
 have U:∀{H':Hp},(∀b∈fp,H' b=none)->∀b∈fp,vQ L a H' b:=λhn b F=>by
  obtain⟨f0,f1,f3,f4,f5,f6⟩:=f2 b F;obtain⟨o,e⟩:=fo b F;show{hn b F,?_,?_,?_,?_,?_}
  ·rw[E];show ir (z8 (hY e) hC)
  ·intro z;have z:b∈jK X.stack:=by rw[<-f]at z;show z
   rcases q_.mp (Y.stkSub b z)with y|y
   ·show f1 y
   ·show f3 y
  ·rw[<-f];show .inl F
  ·intro x c ec;rw[E]at ec;show f5 x c (bb x c ec)
  ·intro p hp;rw[<-f]at hp;show f6 p hp
 have an:codeAny (model X.prog X.w) X.A (.compLoop (.ListComp a7 [{tg,iter,R,0}] scope ba) 0 (.ref it) (.ref l.heap.objs.size) (compEnvC scope cl G2.objs.size X.env)) (compPost (model X.prog X.w) X.A X.xe use QV (.ref l.heap.objs.size) G2.objs.size) {l with heap:=B,toks:=l.toks+([]:List (Str×Value)).length}:=by
  show zv (λn s'=>∃i M H',aO L a (iL ds k P) H' s'/\tn i s'.heap/\(∀b∈fp,H' b=none)/\W i n M H') ?_ m0 {0,[],_,iX,b8,c1,w0};rintro n s3⟨i,M,H3,I3,b9,cc,w3⟩;rcases bl i n M H3 w3 with⟨stop,qn⟩|⟨go,step⟩
  ·have td:=T.done L xp xw xK bO i a s3 _ H3 (λ_ _=>False) I3 (U cc) b9 stop;rw[xA]at td;show cq td λr s4 O=>?_;obtain⟨hr,I4⟩:=O;subst hr;have ad:=I4;rw[<-f]at ad;obtain⟨m',c2,_⟩:=ad.loc;show fin l.heap.objs.size G2.objs.size H3 s4 m' (Fj (h':=s4.heap) Y f2 ad hC (.refl ..)) qn c2 ad.free (n_ (z8 Y.lt hC)) (sT (Es Y.sz hC)) (λx c e z=>?_) λp hp z=>?_
   ·obtain⟨v,q⟩:=Y.cell x c e;show absurd (z8 q.lt hC) (by rw[z];show o_ _)
   ·show absurd (z8 (hY (Y.pin p hp).1) hC) (by rw[z];show o_ _)
  ·have ti:=T.item L xp xw xK bO i a s3 _ H3 (λ_ _=>False) I3 (U cc) b9 go;rw[xA]at ti;show cq ti λr s4 O=>?_;obtain⟨u,hr,h4⟩:=O;subst hr;show cq h4 λ_ s5 O=>?_;obtain⟨x,H5,I5,r5,y5,a5,c3⟩:=O;have c4:=I5.pinned (U c3) (T.obj _ _ a5);have pg:=bo _ s5 _ H5 x u _ c4 r5 (hg x _ H5 _ (step x H5 y5));rw[xp,xw,xA,E,xe]at pg;show cq pg λ_ s6 O=>?_;obtain⟨al,H6,I6,⟨q6,ci,a6⟩⟩:=O;have again:∀{H7:Hp}{s7:Shared},aO L (a++uc fp s5.heap) al H7 s7->aO L a (iL ds k P) H7 s7/\tn (i+1) s7.heap/\∀b∈fp,H7 b=none:=λ{H7 s7}I7=>by
    show{I7.unpinned.weak ci.symm λj v e=>?_,T.keep _ _ _ a5 λb F o e=>(I7.pin (b,o) (mu _ (mu _ (kQ F e)))).1,λb F=>?_}
    ·rw[a6 j λz=>hj P I.len j z v e];show e
    ·obtain⟨o,e,d⟩:=T.obj _ _ a5 b F;show(I7.pin (b,o) (mu _ (mu _ (kQ F e)))).2.1
   have pt:=bt _ s6 al H6 _ I6 q6;rw[xp,xw,xA,E,xe]at pt;show cq pt λok s7 O=>?_;obtain⟨H7,I7,q7⟩:=O;cases ok with|false=>obtain⟨m',hm,w7⟩:=q7;obtain⟨a1,a2,a3⟩:=again I7;show{m',hm,i+1,M,H7,a1,a2,a3,w7}|true=>have pe:=bz _ s7 al H7 _ I7 q7;rw[xp,xw,xA,E,xe]at pe;show cq pe λyv s8 O=>?_;obtain⟨y,H8,I8,r8,da,c0,m',hm,w8⟩:=O;have ap:=cF (X:=L) _ s8 al H8 (.ref l.heap.objs.size) [y] _ [yv] (λv H9=>H9=aH H8 l.heap.objs.size (.lst (M++[y]))) I8 () (.cons r8 .nil) {_,M,y,(),(),da,c0,()};rw[xp,xw,xA,xe]at ap;show cq ap λ_ s9 O=>?_;obtain⟨_,H9,I9,_,e9⟩:=O;subst e9;obtain⟨a1,a2,a3⟩:=again I9;show{m',hm,i+1,M++[y],_,a1,a2,a3,w8}
 show codeAny_compStart_list an (T.self _ 0 _ _ _ b8 an)
def GI(f:O8)(ds:Pa)(k:Nat)(hc:X.calm=true)(hi:PI X t iter u)(w:∀cl C s₀ H₀ ex,PG (X.comp scope f cl C s₀ H₀ ex) t g/\HH (X.comp scope f cl C s₀ H₀ ex) o tc/\PE (X.comp scope f cl C s₀ H₀ ex) p te)(hg:GK g z)(A:∀r:St,r.length=X.N.length->∀j∈z,∀v,(iL ds k r)[j]?≠some (some v))(c:scope.kind=.function)(d:∀y∈scope.names,y.2≠.cell)(a:∀y∈scope.names,y.2=.local->scope.names.lookup y.1=some .local)(e:∀y∈scope.names,y.2=.free->X.env.scope.names.lookup y.1=some .cell\/X.env.scope.names.lookup y.1=some .free)(B:f=X.N++l)(E:l.length=k)(n:∀i x,X.N[i]?=some x->scope.names.lookup x=some .local->i∈ds)(F:∀x,foldedSetIterable iter X.env x=pure x:=by intro _;rfl):PE X (.ListComp p [{t,iter,o,0}] scope G) (sV u g ds k tc te):=by intro b s r H Q I h;rw[eval_ListComp];show wQ f ds k hc hi w hg A c d a e B E n F I h λD C J O m K q hn n1 n2 n3 n4 L=>?_;show{m,hn,λh' M=>{.ref D,J,K.block_gone n1 n2 n3 n4 L M,(),q}}
def GB(r:O8)(ds:Pa)(k:Nat)(F:X.N.Nodup)(G:X.N[i]?=some x)(Q:Kw X.env.scope x)(R:X.fn x=true\/X.env.scope.names.lookup x=some .local)(J:swapsWith (.ListComp f [{E,iter,l,0}] scope t) (some (.Name x c)) u.line X.env=pure true)(hc:X.calm=true)(hi:PI X E iter S)(T:∀cl C s₀ H₀ ex,PG (X.comp scope r cl C s₀ H₀ ex) E g/\HH (X.comp scope r cl C s₀ H₀ ex) l tc/\PE (X.comp scope r cl C s₀ H₀ ex) f te)(hg:GK g W)(Z:∀L:St,L.length=X.N.length->∀j∈W,∀v,(iL ds k L)[j]?≠some (some v))(n:scope.kind=.function)(o:∀y∈scope.names,y.2≠.cell)(d:∀y∈scope.names,y.2=.local->scope.names.lookup y.1=some .local)(p:∀y∈scope.names,y.2=.free->X.env.scope.names.lookup y.1=some .cell\/X.env.scope.names.lookup y.1=some .free)(hN:r=X.N++w)(hk:w.length=k)(B:∀i x,X.N[i]?=some x->scope.names.lookup x=some .local->i∈ds)(hs:∀x,foldedSetIterable iter X.env x=pure x:=by intro _;rfl):PS X (.Assign [.Name x c] (.ListComp f [{E,iter,l,0}] scope t) u) (yj (sV S g ds k tc te) (ky i)):=by
 intro b s L H D I h;rw[exec_Assign_Name_used _ _ _ _ J];show a_ (wpAny_standAt (a_ ?_));change wpAny _ X.A (do let _<-comprehension (.ListComp f [⟨E,iter,l,0⟩] scope t) scope X.env _ (newList []) false (eval iter X.env) (some (assign (.Name x c) X.env))) _ _ s;show a_ (wpAny_mono (wQ (QV:=λ_ K=>SP X b D .next K) (use:=some (assign (.Name x c) X.env)) r ds k hc hi T hg Z n o d p hN hk B hs I h λDa C V K m Y q hn n1 n2 n3 n4 n5=>?_) (λ_ K hq=>fx (fx hq)) λ_ _ e=>e)
 change wpAny _ X.A (assign (.Name x c) X.env (.ref Da)) _ _ _;show wpAny_assign_Name (vZ Y F G Q (v:=.ref Da) () (λaa M⟨a,sb,ha⟩=>?_) R);have O:C≠a:=by
  rcases ha with z|z
  ·rw[z];show n2
  ·showλe=>n4 x a z e.symm
 show{m,hn.sameBut sb O,λh' P=>{_,V,M.block_gone n1 n2 n3 n4 n5 P,q}}
def qL(N0:O8)(ds:Pa)(a scope:Scope):Bool:=scope.kind==.function&&scope.names.all (λy=>!(y.2==.cell)&&(!(y.2==.local)||scope.names.lookup y.1==some .local)&&(!(y.2==.free)||(a.names.lookup y.1==some .cell||a.names.lookup y.1==some .free)))&&N0.zipIdx.all λp=>!(scope.names.lookup p.1==some .local)||ds.contains p.2
def uL{N0:O8}{ds f:Pa}{a scope:Scope}{k:Nat}(ok:qL N0 ds a scope=true)(c:(f.all λj=>ds.contains j||decide (N0.length<=j))=true):(∀d:St,d.length=N0.length->∀j∈f,∀v,(iL ds k d)[j]?≠some (some v))/\scope.kind=.function/\(∀y∈scope.names,y.2≠.cell)/\(∀y∈scope.names,y.2=.local->scope.names.lookup y.1=some .local)/\(∀y∈scope.names,y.2=.free->a.names.lookup y.1=some .cell\/a.names.lookup y.1=some .free)/\(∀i x,N0[i]?=some x->scope.names.lookup x=some .local->i∈ds):=by
 unfold qL at ok;rw[k_,k_]at ok;obtain⟨⟨h1,h2⟩,h3⟩:=ok;have h2:=C2.mp h2;have h3:=C2.mp h3;have c:=C2.mp c;show{?_,(by simpa using h1),?_,?_,?_,?_}
 ·intro d m j hm v e;obtain⟨_,g,n⟩:=zm e;have:=c j hm;rw[Bool.or_eq_true]at this;rcases this with z|z
  ·show g (by simpa using z)
  ·have:=l_ z;lia
 ·intro y b e;have:=h2 y b;rw[k_,k_]at this;have z:=this.1.1;rw[e]at z;show absurd z (by decide)
 ·intro y b e;have:=h2 y b;rw[k_,k_]at this;have z:=this.1.2;rw[e]at z;simpa using z
 ·intro y b e;have:=h2 y b;rw[k_,k_]at this;have z:=this.2;rw[e]at z;simpa using z
 ·intro i x h l;have:=h3 (x,i) (by rw[List.mem_zipIdx_iff_getElem?];show h);rw[Bool.or_eq_true]at this;rcases this with z|z
  ·rw[l]at z;show absurd z (by decide)
  ·simpa using z
def Ht(N0 a:O8)(ds m:Pa)(c:Scope){d f iter:Expr}{e:O9}{scope:Scope}{h:Pos}{n:TI}{g:TG}{tc:TT}{te:TE}(hc:X.calm=true)(i:X.N=N0)(l:X.env.scope=c)(ok:qL N0 ds c scope=true)(o:(m.all λj=>ds.contains j||decide (N0.length<=j))=true)(hg:GK g m)(hi:PI X f iter n)(p:∀cl C s₀ H₀ ex,PG (X.comp scope (N0++a) cl C s₀ H₀ ex) f g/\HH (X.comp scope (N0++a) cl C s₀ H₀ ex) e tc/\PE (X.comp scope (N0++a) cl C s₀ H₀ ex) d te)(q:∀x,foldedSetIterable iter X.env x=pure x:=by intro _;rfl):PE X (.ListComp d [{f,iter,e,0}] scope h) (sV n g ds a.length tc te):=by subst i;subst l;obtain⟨h1,h2,h3,h4,b,k⟩:=uL ok o;show GI (X.N++a) ds a.length hc hi p hg h1 h2 h3 h4 b () () k q
def Fi(N0 a:O8)(ds s:Pa)(e:Scope){i:Nat}{x:Str}{c d:Pos}{f m iter:Expr}{h:O9}{scope:Scope}{l:Pos}{t:TI}{g:TG}{tc:TT}{te:TE}(hc:X.calm=true)(n:X.N=N0)(o:X.env.scope=e)(ok:qL N0 ds e scope=true)(v:(s.all λj=>ds.contains j||decide (N0.length<=j))=true)(hg:GK g s)(hi:PI X m iter t)(w:∀cl C s₀ H₀ ex,PG (X.comp scope (N0++a) cl C s₀ H₀ ex) m g/\HH (X.comp scope (N0++a) cl C s₀ H₀ ex) h tc/\PE (X.comp scope (N0++a) cl C s₀ H₀ ex) f te)(p:N0.Nodup)(q:N0[i]?=some x:=by rfl)(u:e.names.lookup x=some .local:=by rfl)(r:swapsWith (.ListComp f [{m,iter,h,0}] scope l) (some (.Name x c)) d.line X.env=pure true:=by rfl)(y:∀x,foldedSetIterable iter X.env x=pure x:=by intro _;rfl):PS X (.Assign [.Name x c] (.ListComp f [{m,iter,h,0}] scope l) d) (yj (sV t g ds a.length tc te) (ky i)):=by subst n;subst o;obtain⟨h1,h2,h3,h4,b,k⟩:=uL ok v;show GB (X.N++a) ds a.length p q (.inl u) (.inr u) r hc hi w hg h1 h2 h3 h4 b () () k y
def zA:df X (.builtin "isinstance") (λa H Q=>∃x T t b,a=[x,.ty T]/\mm X.K H x t/\PySem.W.kitOne X.K t (.type T)=some b/\Q (.bl b) H):=by intro c s g H a i Q I r h;obtain⟨x,T,t,b,rfl,ty,e,q⟩:=h;obtain⟨u,d,rfl,f,rt⟩:=vV r;obtain rfl:d=Value.type T:=rt;show Ct I f ty e λtk=>{.bl b,H,I.tok tk,(),q}
def wT{bs:List Bool}{a:O6}(r:a0 (bs.map V.bl) a){i:Nat}{v:Value}(h:a[i]?=some v):∃b,bs[i]?=some b/\v=.bool b:=by
 have d:=r.length;rw[b_]at d;have hi:i<a.length:=(d_.mp h).1;have c:bs[i]?=some bs[i]:=by simp
 obtain⟨u,h1,h2⟩:=r.get (i:=i) (x:=.bl bs[i]) (by rw[ge,c];rfl);rw[h]at h1;cases h1;show(bs[i],c,h2,)
def Cb{bs:List Bool}:((List.range bs.length).all λi=>bs.getD i true)=bs.all id:=by induction bs with|nil=>rfl|cons b r a=>
  rw[md,List.range_succ_eq_map,Nx,List.all_map,Nx]
  congr 1
def Ca{bs:List Bool}:((List.range bs.length).any λi=>bs.getD i true)=bs.any id:=by induction bs with|nil=>rfl|cons b r a=>
  rw[md,List.range_succ_eq_map,yl,List.any_map,yl]
  congr 1
def EL{A:Around}(h:A.handled=none):A.in1.handled=none:=h
def CM(hc:X.calm=true):df X (.builtin "all") (λg H Q=>∃(p:Addr)(bs:List Bool),g=[.ref p]/\aS X.K H p (bs.map V.bl)/\Q (.bl (bs.all id)) H):=by
 intro j s A H g B Q I r h;obtain⟨p,bs,rfl,m,q⟩:=h;obtain⟨u,rfl,t⟩:=jk r;cases t;obtain⟨a,k,pl,C⟩:=I.list m;show call_all_walk (NU pl.isList ?_);have d:p≠s.heap.objs.size:=ir (by obtain⟨o,n,e,_⟩:=pl;show hY e);have l:=k.length;rw[b_]at l;show{s.heap.objs.size,_,_,_,_,_,λi=>bs.getD i true,(),Walks.list (EL (I.ok.hd hc)) s.heap.objs.size p d a.toArray,{{_,gg _ (),(),()},?_},?_,?_}
 ·show pl.isList.push _
 ·intro i v w x D f c;have f:a.toArray[i]?=some v:=f;obtain⟨b,y,rfl⟩:=wT k (i:=i) (v:=v) (by simpa using f);show qq ?_;have e:bs.getD i true=b:=by simp[List.getD,y]
  have c:x (bs.getD i true) w:=c;rw[e]at c;show c
 ·intro h' tk z;have e:((List.range a.toArray.size).all λi=>bs.getD i true)=bs.all id:=by rw[h_,<-l,Cb]
  rw[e];show{.bl _,H,I.kept (h':=h') (t':=tk) λb o e=>z b o (by simp[ir (hY e)]) (c_ _ e),(),q}
def CL(hc:X.calm=true):df X (.builtin "any") (λg H Q=>∃(p:Addr)(bs:List Bool),g=[.ref p]/\aS X.K H p (bs.map V.bl)/\Q (.bl (bs.any id)) H):=by
 intro j s A H g B Q I r h;obtain⟨p,bs,rfl,m,q⟩:=h;obtain⟨u,rfl,t⟩:=jk r;cases t;obtain⟨a,k,pl,C⟩:=I.list m;show call_any_walk (NU pl.isList ?_);have d:p≠s.heap.objs.size:=ir (by obtain⟨o,n,e,_⟩:=pl;show hY e);have l:=k.length;rw[b_]at l;show{s.heap.objs.size,_,_,_,_,_,λi=>bs.getD i true,(),Walks.list (EL (I.ok.hd hc)) s.heap.objs.size p d a.toArray,{{_,gg _ (),(),()},?_},?_,?_}
 ·show pl.isList.push _
 ·intro i v w x D f c;have f:a.toArray[i]?=some v:=f;obtain⟨b,y,rfl⟩:=wT k (i:=i) (v:=v) (by simpa using f);show qq ?_;have e:bs.getD i true=b:=by simp[List.getD,y]
  have c:x (bs.getD i true) w:=c;rw[e]at c;show c
 ·intro h' tk z;have e:((List.range a.toArray.size).any λi=>bs.getD i true)=bs.any id:=by rw[h_,<-l,Ca]
  rw[e];show{.bl _,H,I.kept (h':=h') (t':=tk) λb o e=>z b o (by simp[ir (hY e)]) (c_ _ e),(),q}
def HL(x:Str):It:={λi _=>i<x.cps.size,λi H y a=>a=H/\∃c,x.cps[i]?=some c/\y=.str {#[c]},λi _=>x.cps.size<=i}
def CZ{P:O7}{w:World}{K:O2}{L:Expr}(a:Addr)(x:Str)(t:Tok)(f:String)(hn:["enumerate","zip","dict_itemiterator","dict_reverseitemiterator","odict_iterator","itertools.zip_longest","itertools.pairwise"].contains f=false)(W:∀A:Around,A.handled=none->Walks P w A a [a] [a] x.cps.size (SignAt x) (λi h=>h.IsStrIter a f x t i))(S:∀(A:Around)(i:Nat)(s:Shared)(Q:O3)(E:O3),s.heap.IsStrIter a f x t i->Q (.ref a) s->wpAny (model P w) A (pyIter (.ref a)) Q E s):vN P w K L (HL x) [a] a (λi h=>i<=x.cps.size/\h.IsStrIter a f x t i)where
 mem:=by simp
 obj:=λi h st b j=>by
  have e:b=a:=by simpa using j
  subst e;obtain⟨_,o,e,c,d⟩:=st;show{o,e,λv z=>by rw[d]at z;cases z}
 keep:=λi h h' st k=>by obtain⟨l,o,e,r⟩:=st;show{l,o,k a (by simp) o e,r}
 item:=by intro X p q y hc i g s J H E I n st hg;subst p q y;obtain⟨B,f1,f2,f3,C,D⟩:=n a (by simp);show(W X.A (I.ok.hd hc)).item i s _ _ hg st.2 λv h' tk M m F=>?_;obtain⟨c,u,G,rfl⟩:=M;have I1:aO X g J H {s with heap:=h',toks:=tk}:=I.turned (λb o j e=>F b o (by simpa using j) e) B f1 f3 C D;obtain⟨o,e,N,d⟩:=id m;have O:i<x.cps.size:=hg;show{_,(),wI (s:={s with heap:=h',toks:=tk}) e N d hn {.str {#[c]},H,I1,{u,()},{(),c,G,()},{by omega,m},λb j=>(n b j).1}}
 done:=by intro X p q y hc i g s J H E I n st hg;subst p q y;obtain⟨B,f1,f2,f3,C,D⟩:=n a (by simp);have e:i=x.cps.size:=Nat.le_antisymm st.1 hg;subst e;show(W X.A (I.ok.hd hc)).done s _ _ st.2 λh' tk F=>{(),I.turned (λb o j e=>F b o (by simpa using j) e) B f1 f3 C D}
 self:=λA i s Q E st h=>S A i s Q E st.2 h
def MZ(tl:TE):TI:=λa H R=>tl a H λv b=>∃x,v=.str x/\R (HL x) b
def DW{g l:Expr}{tl:TE}(m:PE X l tl):PI X g l (MZ tl):=by
 intro d s j H R I h;show cq (m d s j H _ I h) λv a n=>?_;obtain⟨y,p,I1,r,u⟩:=n;obtain⟨x,e,q⟩:=u;subst e;obtain⟨t,rfl⟩:=r;have fin:∀(c:String)(ob:Obj),(["enumerate","zip","dict_itemiterator","dict_reverseitemiterator","odict_iterator","itertools.zip_longest","itertools.pairwise"].contains c=false)->(∀A:Around,A.handled=none->Walks X.prog X.w A a.heap.objs.size [a.heap.objs.size] [a.heap.objs.size] x.cps.size (SignAt x) (λi h=>h.IsStrIter a.heap.objs.size c x t i))->(∀(A:Around)(i:Nat)(s:Shared)(Q:O3)(E:O3),s.heap.IsStrIter a.heap.objs.size c x t i->Q (.ref a.heap.objs.size) s->wpAny (model X.prog X.w) A (pyIter (.ref a.heap.objs.size)) Q E s)->(a.heap.push ob).IsStrIter a.heap.objs.size c x t 0->Nb X d j g R (.ref a.heap.objs.size) {a with heap:=a.heap.push ob}:=λc ob h1 h2 h3 h4=>by
  show{a.heap.objs.size,[a.heap.objs.size],_,HL x,p,(),I1.kept (t':=a.toks) λb o e=>c_ _ e,CZ _ x t c h1 h2 h3,{ku _,h4},λb z=>?_,q};have e:b=a.heap.objs.size:=by simpa using z
  subst e;show I1.fpOk (e_ _) (I1.hok.fresh (e_ _))
 cases k:x.cps.all (·<128)
 ·show wpAny_pyIter_wide k (fin "str_iterator" _ (by decide) (λA f=>Walks.strWide f _ x t) (λA i s Q E st h=>wpAny_pyIter_striter_wide st h) {_,gg _ (),(),()})
 ·show wpAny_pyIter_ascii k (fin "str_ascii_iterator" _ (by decide) (λA f=>Walks.strAscii f _ x t) (λA i s Q E st h=>wpAny_pyIter_striter_ascii st h) {_,gg _ (),(),()})
def Hm{x:Str}{g:TG}{l:TS}{D:jP}{a:St}{H:Hp}(Pv:Nat->St->Hp->Prop)(h0:Pv 0 a H)(o:∀i c a H,x.cps.toList[i]?=some c->Pv i a H->g (.str {#[c]}) a H λd j=>l {D with nx:=Pv (i+1),ct:=Pv (i+1),bk:=D.nx} d j)(hd:∀a H,Pv x.cps.toList.length a H->D.nx a H):∃W:Nat->Nat->St->Hp->Prop,(∃m,W 0 m a H)/\∀i m a H,W i m a H->((HL x).stop i H/\D.nx a H)\/((HL x).go i H/\∃N:St->Hp->Prop,(∀f h,N f h->∃n,n<m/\W (i+1) n f h)/\∀y h,(HL x).yld i H y h->g y a h λd j=>l {D with nx:=N,ct:=N,bk:=D.nx} d j):=by
 have k:x.cps.toList.length=x.cps.size:=by simp
 show{λi m a H=>m=x.cps.size-i/\i<=x.cps.size/\Pv i a H,{x.cps.size,by simp,ku _,h0},?_};rintro i m a H⟨rfl,hi,p⟩
 by_cases b:i<x.cps.size
 ·show .inr {b,Pv (i+1),λf h q=>{x.cps.size-(i+1),by omega,(),b,q},λy h r=>?_};obtain⟨e,c,hc,rfl⟩:=r;subst e;show o i c a _ (by simpa using hc) p
 ·have e:i=x.cps.size:=by omega
  subst e;show .inl {e_ _,hd a H (by rw[k];show p)}
def Jn:V->List V->Hp->VK->Prop:=λx a H Q=>∃z y i r,x=.str z/\a=[.str y]/\Builtin.Str.occurrences z y 0 z.length 1=i::r/\Q (.int (i:Nat)) H
def Ei:Nd X "str.index" Jn:=by intro a s e H x f v g Q I b c h;obtain⟨z,y,i,r,rfl,rfl,d,q⟩:=h;obtain⟨t,rfl⟩:=b;obtain⟨u,rfl,j,rfl⟩:=jk c;show SC.index d {.int _,H,I.tok _,{_,()},q}
end
section
variable{X:Cx}(K:O2)(c:X.K=K)
include c
def aI:df X (.builtin "len") (λa H Q=>∃x n,a=[x]/\Mn K x H n/\Q (.int n) H):=by subst c;show Fm
def mJ:df X (.builtin "isinstance") (λa H Q=>∃x T t b,a=[x,.ty T]/\mm K H x t/\PySem.W.kitOne K t (.type T)=some b/\Q (.bl b) H):=by subst c;show zA
def iU(hc:X.calm=true):df X (.builtin "all") (λa H Q=>∃(p:Addr)(bs:List Bool),a=[.ref p]/\aS K H p (bs.map V.bl)/\Q (.bl (bs.all id)) H):=by subst c;show CM hc
def qN(hc:X.calm=true):df X (.builtin "any") (λa H Q=>∃(p:Addr)(bs:List Bool),a=[.ref p]/\aS K H p (bs.map V.bl)/\Q (.bl (bs.any id)) H):=by subst c;show CL hc
def EG:KW X (Jm K):=by subst c;show Hc
def G9:KW X (Jl K):=by subst c;show J3
def oA:KO X (Lr K):=by subst c;show Gv
def AZ:KO X (Lq K):=by subst c;show Je
def nQ:lx X (compareOp .In) (rIn K false):=by subst c;show Cg
def uh:lx X (binaryOp .Add) (HU K):=by subst c;show GN
def oj:df X (.type "list") (λd H Q=>∃p a,d=[.ref p]/\(aS K H p a\/aY K H p a)/\∀l,H l=none->Q (.ref l) (aH H l (.lst a))):=by subst c;show xO
def eZ:df X (.type "tuple") (λd H Q=>∃p a,d=[.ref p]/\((aS K H p a/\∀l,H l=none->Q (.ref l) (aH H l (.tup a)))\/(aY K H p a/\Q (.ref p) H))):=by subst c;show vJ
def cL{a l:Expr}{tl:TE}(d:PE X l tl):PI X a l (HX K tl):=by subst c;show GE d
def iy{a l:Expr}{tl:TE}(d:PE X l tl):PI X a l (LZ K tl):=by subst c;show Js d
def aT{a:Expr}{e:TE}(g:PE X a e)(h:∀d,isTrue a X.env d=(do let v<-d;standAt a.pos;holding [v] (truthy v))):PT X a (λi H Q=>e i H λx f=>∃k,Kr K x f k/\Q k f):=by subst c;show DU g h
def ft{es:O9}{k:Nat}{a:Pos}{t:KN}{n:Nat}(hc:X.calm=true)(h:Ku X es t)(hn:(assignEach es X.env).length=n:=by rfl)(d:(assignEach es X.env).findIdx? (·.1)=none:=by rfl):PG X (.Tuple es k a) (J7 K n t):=by subst c;show Jt hc h hn d
variable{o e:Expr}{es:O9}{i:TE}{t:TA}{f:Str}{g d:Pos}{T id:String}{r:V->List V->Hp->VK->Prop}
def fF(n:PlainAttrs T)(slot:Slot T f id)(m:typeOf (.builtin id)=pure (.type "method_descriptor"))(hm:Nd X id r)(p:PE X o i)(q:PA X (e::es) t)(h:attributeBase o f X.env (eval o X.env)=eval o X.env:=by rfl)(l:((backTo d (starEach (e::es) X.env)).all (λx=>!x.1)&&(backToKw d (keywordEach [] X.env)).all (λx=>x.1.isSome)&&decide ((e::es).length+([]:List Keyword).length+(if([]:List Keyword).isEmpty then 0 else 1)<30))=true:=by rfl)(j:(g.endLine==d.line)=true:=by rfl)(s:starEach (e::es) X.env=(false,eval e X.env)::starEach es X.env:=by rfl)(a:(backTo d (starEach es X.env)).any (·.1)=false:=by rfl):PE X (.Call (.Attribute o f g) (e::es) [] d) (tBM K T r i t):=by subst c;show LA n slot m hm p q h l j s a
end
def aL:bootBuiltins "len"=some (.builtin "len"):=by decide+kernel
def Fp:bootBuiltins "max"=some (.builtin "max"):=by decide+kernel
def uR:bootBuiltins "min"=some (.builtin "min"):=by decide+kernel
def bg:bootBuiltins "isinstance"=some (.builtin "isinstance"):=by decide+kernel
def kB:bootBuiltins "all"=some (.builtin "all"):=by decide+kernel
def uT:bootBuiltins "any"=some (.builtin "any"):=by decide+kernel
def zE:bootBuiltins "divmod"=some (.builtin "divmod"):=by decide+kernel
def mj:bootBuiltins "sorted"=some (.builtin "sorted"):=by decide+kernel
def Fo:bootBuiltins "sum"=some (.builtin "sum"):=by decide+kernel
def Fq:bootBuiltins "int"=some (.type "int"):=by decide+kernel
def zD:bootBuiltins "str"=some (.type "str"):=by decide+kernel
def CO:bootBuiltins "bool"=some (.type "bool"):=by decide+kernel
def kA:bootBuiltins "list"=some (.type "list"):=by decide+kernel
def bW:bootBuiltins "tuple"=some (.type "tuple"):=by decide+kernel
def uQ:bootBuiltins "set"=some (.type "set"):=by decide+kernel
def uS:bootBuiltins "enumerate"=some (.type "enumerate"):=by decide+kernel
def Fn:bootBuiltins "zip"=some (.type "zip"):=by decide+kernel
def vL:bootBuiltins "reversed"=some (.type "reversed"):=by decide+kernel
section
variable{X:Cx}
def lg(hg:Gl X x)(hm:X.mg x=none)(a:bootBuiltins x=some (.type T))(hn:x≠"__name__":=by decide)(hd:(x==("__debug__":Str))=false:=by decide):PE X (.Name x c) (tC (.ty T)):=GJ hg hm a () hn hd
def cx(hm:∃u,X.mg x=some u/\aV v u)(hg:Gl X x)(hd:(x==("__debug__":Str))=false:=by decide):PE X (.Name x a) (tC v):=by obtain⟨u,h1,h2⟩:=hm;show Bf hg h1 h2 hd
end
def iK{K:O2}{A B:String}{b:Bool}(h:(if((Value.type A)==.type B)=true then some true else if PySem.W.kitMeta B=true then(fastBuiltinMro A).map (·.contains (.type B))else none)=some b):PySem.W.kitOne K (.type A) (.type B)=some b:=h
def kj{i j:Int}{A B:Prop}(h1:i=j->A)(h2:i≠j->B):if decide (V.int i=V.int j)=true then A else B:=by
 by_cases h:i=j
 ·subst h;rw[j2 ()];show bI (h1 ())
 ·rw[j_ (λe=>h (V.int.inj e))];show cu (h2 h)
def lz{c:Prop}[Decidable c]{A B:Prop}(h1:c->A)(h2:¬c->B):if decide c=true then A else B:=by
 by_cases h:c
 ·rw[j2 h];show bI (h1 h)
 ·rw[j_ h];show cu (h2 h)
def uD{b:Bool}{A B:Prop}(h1:b=true->A)(h2:b=false->B):if b=true then A else B:=by cases b with|true=>show bI (h1 ())|false=>show cu (h2 ())
def au(h:F (a.set j (some x)) H):ky j x a H F:=h
def iG(h:F true H):K0 a H F:=h
def JM(h:aH H a o b=none):b≠a/\H b=none:=by
 by_cases e:b=a
 ·rw[e,ae]at h;cases h
 ·rw[ak e]at h;show(e,h,)
def bL(i:Int){n:Int}(h:0<n):0<=i%n/\i%n<n:={Nj _ (by lia),Nm _ h}
def JR(x:Int):Builtin.bitAnd x 2147483647=x%2147483648:=PySem.W.kbt_mask x 31
section
variable{X:Cx}
def MQ:V->Option Int->Option Int->Hp->VK->Prop:=λx lo hi H Q=>∃z,x=.str z/\z.length<=sizeLine/\Q (.str (Txt.slice z lo hi)) H
def xf:KO X MQ:=by intro a s g H x v n o lo hi sl Q I m b pl d h;obtain⟨z,rfl,c,q⟩:=h;obtain⟨t,rfl⟩:=m;show{"str",_,F.slot_str_getitem.lookup,typeIs_str _ _ _,?_};have fin:∀(e:Tok)(k:Nat),EP X a g Q (.str (Txt.slice z lo hi) e) {s with toks:=k}:=λe k=>{.str _,H,I.tok k,{_,()},q};cases pl with
 |none=>cases d with|none=>show Nn (l:=none) (u:=none) (st:=none) b () (Oq {iA (Txt.slice_le z _ _) c,fin})|int j u=>show Nn (l:=none) (u:=some (j,u)) (st:=none) b () (Oq {iA (Txt.slice_le z _ _) c,fin})
 |int i f=>cases d with|none=>show Nn (l:=some (i,f)) (u:=none) (st:=none) b () (Oq {iA (Txt.slice_le z _ _) c,fin})|int j u=>show Nn (l:=some (i,f)) (u:=some (j,u)) (st:=none) b () (Oq {iA (Txt.slice_le z _ _) c,fin})
end
def Ii{c:Bool}{t u:TS}{D:jP}{a:St}{H:Hp}(J:St->Hp->Prop)(h1:∀a H,J a H->D.nx a H)(h2:∀N:St->Hp->Prop,(∀a H,J a H->N a H)->if c=true then t {D with nx:=N} a H else u {D with nx:=N} a H):if c=true then t D a H else u D a H:=h2 D.nx h1
def sr(h:D.nx a H):yi D a H:=h
def aj(h:am c H)(hn:H a=none):am c (aH H a o):=λb d f=>by have e:=h b d f;rw[ak (az e hn)];show e
def zH(h0:0<=i)(h1:i<xs.length):∃c,vM xs i=some c/\c∈xs:=by show{xs[i.toNat]'(by lia),?_,Oc _};unfold vM He;rw[g6 h0,g6 h1];change xs[i.toNat]?=_;rw[ga (by lia)]
def dg{n:Nat}(h:n<=65536):n<=sizeLine:=by rw[g8];lia
mutual
inductive CS(K:O2)(H:Hp):V->PyData->Prop|non:CS K H .non .none|bl(b:Bool):CS K H (.bl b) (.bool b)|int(i:Int):CS K H (.int i) (.int i)|str(x:Str):CS K H (.str x) (.str x)|lst{a:Addr}{xs:List V}{ds:List PyData}:aS K H a xs->IsPs K H xs ds->CS K H (.ref a) (.list ds)|tup{a:Addr}{xs:List V}{ds:List PyData}:aY K H a xs->IsPs K H xs ds->CS K H (.ref a) (.tuple ds)
inductive IsPs(K:O2)(H:Hp):List V->List PyData->Prop|nil:IsPs K H [] []|cons{v:V}{d:PyData}{vs:List V}{ds:List PyData}:CS K H v d->IsPs K H vs ds->IsPs K H (v::vs) (d::ds)
end
section
variable{X:Cx}{c:O4}{f:St}{H:Hp}{s:Shared}
mutual
theorem CS.reads(I:aO X c f H s):∀{v:V}{d:PyData}{u:Value},CS X.K H v d->aV v u->∃g,Reads s.heap u d g|_,_,_,.non,r=>by obtain rfl:_=Value.none:=r;show{_,.none}|_,_,_,.bl b,r=>by obtain rfl:_=Value.bool b:=r;show{_,.bool b}|_,_,_,.int i,r=>by obtain⟨t,rfl⟩:=r;show{_,.int i t}|_,_,_,.str x,r=>by obtain⟨t,rfl⟩:=r;show{_,.str x t}|_,_,_,.lst (a:=a) h j,r=>by obtain rfl:_=Value.ref a:=r;obtain⟨k,l,⟨o,n,e,hc,_,hd⟩,_⟩:=I.list h;obtain⟨g,q⟩:=IsPs.reads I j l;show{_,.list e hc hd (by simpa using q)}|_,_,_,.tup (a:=a) h j,r=>by obtain rfl:_=Value.ref a:=r;obtain⟨k,l,⟨o,e,hc,n,hd⟩,_⟩:=I.tuple h;obtain⟨g,q⟩:=IsPs.reads I j l;show{_,.tuple e hc hd (by simpa using q)}
theorem IsPs.reads(I:aO X c f H s):∀{a:List V}{ds:List PyData}{d:O6},IsPs X.K H a ds->a0 a d->∃e,ReadsAll s.heap d ds e|_,_,_,.nil,r=>by cases r;show{_,.nil}|_,_,_,.cons h b,r=>by cases r with|cons g r2=>obtain⟨e,q⟩:=CS.reads I h g;obtain⟨bs,p⟩:=IsPs.reads I b r2;show{_,.cons q p}
end
end
section
variable{X:Cx}
def Lw(K:O2):R2:=λx y H Q=>∃d e,CS K H x d/\CS K H y e/\SeqAt.shaped d=true/\SeqAt.shaped e=true/\Q (.bl (PyData.eqv d e)) H
def JA(c:X.A.units+64<cLine):lx X (compareOp .Eq) (Lw X.K):=by intro a s i H x y v u Q I b f h;obtain⟨d,e,h1,h2,h3,h4,q⟩:=h;obtain⟨j,g⟩:=h1.reads I b;obtain⟨bs,r2⟩:=h2.reads I f;show eq_dataH g r2 h3 h4 c {.bl _,H,I,(),q}
def M3{A:Around}{k:Nat}(a:eS k A):A.units+64<cLine:=by have:=a.un;lia
def GM(K:O2)(a:X.K=K)(c:X.A.units+64<cLine):lx X (compareOp .Eq) (Lw K):=by subst a;show JA c
def Fl(hc:X.calm=true):df X (.builtin "sum") (λa H Q=>∃(p:Addr)(ns:Pc),a=[.ref p]/\(aS X.K H p (ns.map V.int)\/aY X.K H p (ns.map V.int))/\Q (.int ns.sum) H):=by
 intro j s n H a o Q I r h;obtain⟨p,ns,rfl,d,q⟩:=h;obtain⟨u,rfl,k⟩:=jk r;cases k;have sm:∀{b:O6},a0 (ns.map V.int) b->∃a:Array (Int×Tok),b.toArray=intItems a/\preSum (numAt a) a.size=ns.sum:=λf=>by
  have hi:IntsAre _ ns:=AA f;obtain⟨a,c⟩:=hi.allInts.items;show{a,c,?_};have l:ns=a.toList.map (·.1):=by rw[<-nums_intItems,<-c];show hi.numsOf.symm
  rw[preSum_eq,hF (by simp),l]
 rcases d with d|d
 ·obtain⟨b,f,pl,m⟩:=I.list d;obtain⟨a,c,e⟩:=sm f;show sum_intListG (I.ok.hd hc) (xs:=a) (c▸pl.isList) λh' tk g i=>?_;rw[e];show{.int _,H,I.kept (h':=h') (t':=tk) i,{_,()},q}
 ·obtain⟨b,f,pt,m⟩:=I.tuple d;obtain⟨a,c,e⟩:=sm f;show PySem.W.ktm_sumG (I.ok.hd hc) (xs:=a) (c▸pt) λh' tk g i=>?_;rw[e];show{.int _,H,I.kept (h':=h') (t':=tk) i,{_,()},q}
def CH(K:O2)(a:X.K=K)(hc:X.calm=true):df X (.builtin "sum") (λc H Q=>∃(p:Addr)(ns:Pc),c=[.ref p]/\(aS K H p (ns.map V.int)\/aY K H p (ns.map V.int))/\Q (.int ns.sum) H):=by subst a;show Fl hc
end
def bv(h:am d H)(hn:d a=none):am d (aH H a o):=λb f c=>by
 have:b≠a:=λe=>by rw[e,hn]at c;cases c
 rw[ak this];show h b f c
def aq{a:Type}{c:List a}{k:Nat}{v:a}(h:c[k]?=some v):vM c (k:Int)=some v:=by have b:=(d_.mp h).1;unfold vM He;rw[g6 (by lia),g6 (by lia)];show h
def mK{ns:Pc}{k:Int}(h0:0<=k)(h1:k<ns.length):vM (ns.map V.int) k=some (.int (ns.getD k.toNat 0)):=by obtain⟨n,rfl⟩:∃n:Nat,k=n:={k.toNat,by lia};show aq ?_;rw[ge,ga (by lia)];simp only[ot,List.getD,ga (show n<ns.length by lia)];rfl
def Hd{n:Nat}{k:Int}(h0:0<=k)(h1:k<n):He n k=some k.toNat:=by unfold He;rw[g6 h0,g6 h1]
def zb(ns:Pc)(j:Nat)(v:Int):(ns.map V.int).set j (.int v)=(ns.set j v).map V.int:=by rw[List.map_set]
def am.tseq{K:O2}{H c:Hp}{a:Addr}{d:List V}(e:am H c)(h:aY K H a d):aY K c a d:=by
 rcases h with h|h
 ·rcases h with h|⟨o,h⟩
  ·show .inl (.inl (e _ _ h))
  ·show .inl (.inr {o,e _ _ h})
 ·show .inr h
@[irreducible]def cC:Int:=10^(30:Int).toNat
def yh:cC=10^(30:Int).toNat:=by unfold cC;rfl
def qd:1000000000000000000<cC:=by rw[yh];decide+kernel
section
variable{X:Cx}
def ug:lx X (binaryOp .Pow) (λx y H Q=>x=.int 10/\y=.int 30/\Q (.int cC) H):=by intro a s b H x y v u Q I c d h;obtain⟨rfl,rfl,q⟩:=h;rw[yh]at q;show Jy a s b H _ _ v u Q I c d {10,30,(),(),{by decide,by decide,by decide},q}
end
def lf{n i:Nat}{P:Prop}(hi:i<n)(h:P):∃a,a<n-i/\a=n-(i+1)/\i+1<=n/\P:={_,by lia,(),hi,h}
def d6{K:O2}{lo:Int}{n:Nat}{g:TG}{ds:Pa}{k:Nat}{tc:TT}{te:TE}{r:St}{s:Hp}{D:Addr}{F:Hp->Prop}(Pv:Nat->List V->Hp->Prop)(h0:Pv 0 [] (aH s D (.lst [])))(t:∀i a c,i<n->Pv i a c->g (.int (lo+i)) (iL ds k r) c λd o=>tc d o λb h=>if b=true then te d h λy j=>j D=some (.lst a)/\a.length<sizeLine/\∃f,f<n-i/\f=n-(i+1)/\i+1<=n/\Pv (i+1) (a++[y]) (aH j D (.lst (a++[y])))else∃f,f<n-i/\f=n-(i+1)/\i+1<=n/\Pv (i+1) a h)(hd:∀a c,Pv n a c->F c):∃W:Nat->Nat->List V->Hp->Prop,(∃m,W 0 m [] (aH s D (.lst [])))/\∀i m a c,W i m a c->((FK lo n).stop i c/\F c)\/((FK lo n).go i c/\∀x q,(FK lo n).yld i c x q->g x (iL ds k r) q λd o=>tc d o λb h=>if b=true then te d h λy j=>j D=some (.lst a)/\a.length<sizeLine/\∃f,f<m/\W (i+1) f (a++[y]) (aH j D (.lst (a++[y])))else∃f,f<m/\W (i+1) f a h):=by
 show{λi m a c=>m=n-i/\i<=n/\Pv i a c,{_,(),ku _,h0},?_};rintro i m a c⟨rfl,hi,p⟩
 by_cases l:i<n
 ·show .inr {l,λx q y=>?_};obtain⟨e,y⟩:=y;subst e y;show t i a _ l p
 ·have e:i=n:=by lia
  subst e;show .inl {e_ _,hd a c p}
def kz{K:O2}{a:Addr}{xs:List V}{g:TG}{ds:Pa}{k:Nat}{tc:TT}{te:TE}{s:St}{t:Hp}{D:Addr}{F:Hp->Prop}(Pv:Nat->List V->Hp->Prop)(h0:Pv 0 [] (aH t D (.lst [])))(u:∀i c d,i<=xs.length->Pv i c d->aS K d a xs)(v:∀i x c d,xs[i]?=some x->Pv i c d->g x (iL ds k s) d λf n=>tc f n λb j=>if b=true then te f j λy l=>l D=some (.lst c)/\c.length<sizeLine/\∃h,h<xs.length-i/\h=xs.length-(i+1)/\i+1<=xs.length/\Pv (i+1) (c++[y]) (aH l D (.lst (c++[y])))else∃h,h<xs.length-i/\h=xs.length-(i+1)/\i+1<=xs.length/\Pv (i+1) c j)(hd:∀c d,Pv xs.length c d->F d):∃W:Nat->Nat->List V->Hp->Prop,(∃m,W 0 m [] (aH t D (.lst [])))/\∀i m c d,W i m c d->((Ip K a).stop i d/\F d)\/((Ip K a).go i d/\∀x o,(Ip K a).yld i d x o->g x (iL ds k s) o λf n=>tc f n λb j=>if b=true then te f j λy l=>l D=some (.lst c)/\c.length<sizeLine/\∃h,h<m/\W (i+1) h (c++[y]) (aH l D (.lst (c++[y])))else∃h,h<m/\W (i+1) h c j):=by
 show{λi m c d=>m=xs.length-i/\i<=xs.length/\Pv i c d,{_,(),ku _,h0},?_};rintro i m c d⟨rfl,hi,p⟩;have q:=u i c d hi p
 by_cases r:i<xs.length
 ·show .inr {{xs,xs[i],q,by simp[r]},λx o y=>?_};obtain⟨e,y⟩:=y;subst e;show v i x c _ (y xs q) p
 ·have e:i=xs.length:=by lia
  subst e;show .inl {{xs,q,e_ _},hd c d p}
def gJ{K:O2}{a:Addr}{xs:List V}{g:TG}{ds:Pa}{k:Nat}{tc:TT}{te:TE}{s:St}{t:Hp}{D:Addr}{F:Hp->Prop}(Pv:Nat->List V->Hp->Prop)(h0:Pv 0 [] (aH t D (.lst [])))(u:∀i c d,i<=xs.length->Pv i c d->aY K d a xs)(v:∀i x c d,xs[i]?=some x->Pv i c d->g x (iL ds k s) d λf n=>tc f n λb j=>if b=true then te f j λy l=>l D=some (.lst c)/\c.length<sizeLine/\∃h,h<xs.length-i/\h=xs.length-(i+1)/\i+1<=xs.length/\Pv (i+1) (c++[y]) (aH l D (.lst (c++[y])))else∃h,h<xs.length-i/\h=xs.length-(i+1)/\i+1<=xs.length/\Pv (i+1) c j)(hd:∀c d,Pv xs.length c d->F d):∃W:Nat->Nat->List V->Hp->Prop,(∃m,W 0 m [] (aH t D (.lst [])))/\∀i m c d,W i m c d->((Io K a).stop i d/\F d)\/((Io K a).go i d/\∀x o,(Io K a).yld i d x o->g x (iL ds k s) o λf n=>tc f n λb j=>if b=true then te f j λy l=>l D=some (.lst c)/\c.length<sizeLine/\∃h,h<m/\W (i+1) h (c++[y]) (aH l D (.lst (c++[y])))else∃h,h<m/\W (i+1) h c j):=by
 show{λi m c d=>m=xs.length-i/\i<=xs.length/\Pv i c d,{_,(),ku _,h0},?_};rintro i m c d⟨rfl,hi,p⟩;have q:=u i c d hi p
 by_cases r:i<xs.length
 ·show .inr {{xs,xs[i],q,by simp[r]},λx o y=>?_};obtain⟨e,y⟩:=y;subst e;show v i x c _ (y xs q) p
 ·have e:i=xs.length:=by lia
  subst e;show .inl {{xs,q,e_ _},hd c d p}
def Fh{K:O2}{z:Str}{g:TG}{ds:Pa}{k:Nat}{tc:TT}{te:TE}{r:St}{s:Hp}{D:Addr}{F:Hp->Prop}(Pv:Nat->List V->Hp->Prop)(h0:Pv 0 [] (aH s D (.lst [])))(t:∀i c a d,z.cps.toList[i]?=some c->Pv i a d->g (.str {#[c]}) (iL ds k r) d λf n=>tc f n λb j=>if b=true then te f j λy l=>l D=some (.lst a)/\a.length<sizeLine/\∃h,h<z.cps.toList.length-i/\h=z.cps.toList.length-(i+1)/\i+1<=z.cps.toList.length/\Pv (i+1) (a++[y]) (aH l D (.lst (a++[y])))else∃h,h<z.cps.toList.length-i/\h=z.cps.toList.length-(i+1)/\i+1<=z.cps.toList.length/\Pv (i+1) a j)(hd:∀a d,Pv z.cps.toList.length a d->F d):∃W:Nat->Nat->List V->Hp->Prop,(∃m,W 0 m [] (aH s D (.lst [])))/\∀i m a d,W i m a d->((HL z).stop i d/\F d)\/((HL z).go i d/\∀x o,(HL z).yld i d x o->g x (iL ds k r) o λf n=>tc f n λb j=>if b=true then te f j λy l=>l D=some (.lst a)/\a.length<sizeLine/\∃h,h<m/\W (i+1) h (a++[y]) (aH l D (.lst (a++[y])))else∃h,h<m/\W (i+1) h a j):=by
 show{λi m a d=>m=z.cps.toList.length-i/\i<=z.cps.toList.length/\Pv i a d,{_,(),ku _,h0},?_};rintro i m a d⟨rfl,hi,p⟩;have v:z.cps.toList.length=z.cps.size:=by simp
 by_cases q:i<z.cps.size
 ·show .inr {q,λy o u=>?_};obtain⟨e,c,hc,rfl⟩:=u;subst e;show t i c a _ (by simpa using hc) p
 ·have e:i=z.cps.toList.length:=by lia
  subst e;show .inl {by change z.cps.size<=_;lia,hd a d p}
def EI{i j:Str}{A B:Prop}(h1:i=j->A)(h2:i≠j->B):if decide (V.str i=V.str j)=true then A else B:=by
 by_cases h:i=j
 ·subst h;rw[j2 ()];show bI (h1 ())
 ·rw[j_ (λe=>h (V.str.inj e))];show cu (h2 h)
abbrev fP(led:Bool):Obj:={cls:=.type "set",dict:=none,data:=.set #[] 0 (.fresh 0 0 led)}
def uA{a:Type}[BEq a](c:Nat->a)(i:Nat):List a:=((List.range i).map c).foldl step_dedup []
section
variable{a:Type}[DecidableEq a][BEq a][LawfulBEq a]
def wB(c:Nat->a)(i:Nat):uA c (i+1)=step_dedup (uA c i) (c i):=by change((List.range (i+1)).map c).foldl step_dedup []=_;rw[NG,gV,z_];rfl
def Eo(c:Nat->a)(i:Nat):(uA c i).length<=i:=by induction i with|zero=>show e_ 0|succ i b=>
  rw[wB];unfold step_dedup
  split
  ·show sD b
  ·rw[hQ];show y2 b
end
def pY(b:Bool)(h:Heap)(a:Addr)(c:O_):Prop:=∃o,h.get? a=some o/\o.cls=.type (cond b "list" "tuple")/\∃n,o.data=.seq c n
def qV(b:Bool)(h:Heap)(a l:Addr)(i:Nat):Prop:=∃o,h.get? a=some o/\o.cls=.type (cond b "list_iterator" "tuple_iterator")/\o.data=.fields #[.ref l,.int i 0]
def pY.at{b:Bool}{h h':Heap}{a:Addr}{c:O_}(x:pY b h a c)(e:∀o,h.get? a=some o->h'.get? a=some o):pY b h' a c:=Exists.imp (λ_ r=>{e _ r.1,r.2}) x
def qV.at{b:Bool}{h h':Heap}{a l:Addr}{i:Nat}(x:qV b h a l i)(e:∀o,h.get? a=some o->h'.get? a=some o):qV b h' a l i:=Exists.imp (λ_ r=>{e _ r.1,r.2}) x
section
variable{P:O7}{w:World}{A:Around}{E:O3}{s:Shared}
def AX{b:Bool}{l:Addr}{a:O_}{Q:O3}(c:pY b s.heap l a)(q:Q (.ref s.heap.objs.size) {s with heap:=s.heap.push {cls:=.type (cond b "list_iterator" "tuple_iterator"),data:=.fields #[.ref l,.int 0 0]}}):wpAny (model P w) A (pyIter (.ref l)) Q E s:=by cases b with|false=>show Nk c q|true=>show NU c q
end
instance(priority:=10000)keyBEq:BEq (Sum Int Str):={λa b=>decide (a=b)}
instance(priority:=10000)keyLaw:LawfulBEq (Sum Int Str)where
 eq_of_beq:=λh=>l_ h
 rfl:=j2 rfl
def dd{a:Type}[BEq a](c:List a):List a:=c.foldl step_dedup []
def nM(a:List c)(d:c):(List.range a.length).map (λi=>a.getD i d)=a:=by show List.ext_getElem (by simp) λi h1 h2=>?_;simp[List.getD,ga h2]
def GW[BEq c](a:List c)(d:c):uA (λi=>a.getD i d) a.length=dd a:=by unfold uA dd;rw[nM]
section
def G8(r:aV (kV k) v):nz k v=true/\v.scannable=true:=by cases k with|inl i=>obtain⟨t,rfl⟩:=r;show{wF i t,()}|inr x=>obtain⟨t,rfl⟩:=r;show{wE x t,()}
end
theorem qI[BEq c]:∀(d:List c)(a:List c),(d.foldl step_dedup a).length<=a.length+d.length
 |[],a=>e_ _|k::r,a=>by
  have:=qI r (step_dedup a k);have h2:(step_dedup a k).length<=a.length+1:=by
   unfold step_dedup
   split
   ·show p_ _
   ·rw[hQ];show e_ _
  rw[w1,md];lia
theorem zt[DecidableEq d][BEq d][LawfulBEq d]:∀(f c:List d),c.Nodup->((f.foldl step_dedup c).length=c.length+f.length↔(c++f).Nodup)
 |[],c,h=>by simp[h]|k::r,c,h=>by
  rw[w1]
  by_cases e:c.any (·==k)=true
  ·have g:step_dedup c k=c:=by unfold step_dedup;rw[g6 e]
   have hm:k∈c:=by obtain⟨x,j,q⟩:=Oh.mp e;rw[<-eq_of_beq q];show j
   rw[g]
   constructor
   ·intro q;have:=qI r c;rw[md]at q;lia
   ·intro q;rw[m3]at q;show absurd () (q.2.2 k hm k (i_))
  ·have g:step_dedup c k=c++[k]:=by unfold step_dedup;rw[g_ e]
   have hm:k∉c:=λl=>e (Oh.mpr {k,l,rf k});rw[g];have i:=zt r (c++[k]) (by rw[m3];show{h,by simp,λa m b n q=>hm (by rw[List.mem_singleton.mp n]at q;show q▸m)})
   rw[vr]at i;rw[show c++k::r=c++([k]++r)by rfl,<-i,hQ,md,List.length_singleton]
   constructor<;>intro q<;>lia
def Kj[DecidableEq c][BEq c][LawfulBEq c](a:List c):(dd a).length=a.length↔a.Nodup:=by have:=zt a [] NO;simp at this;unfold dd;show this
end L2
namespace L2
open PySem
def C3(t:SetTable)(n:Nat):(t.orStandIn n).led=t.led/\(t.plain=false->(t.orStandIn n).plain=false):=by
 unfold SetTable.orStandIn
 split
 ·show{(),id}
 ·show{(),λ_=>()}
def IB(t:SetTable)(es:Array (Int×Value))(h:Int)(x:Value):(layNew t es h x).2.1.led=t.led/\(t.plain=false->(layNew t es h x).2.1.plain=false):=by
 unfold layNew
 split
 ·rename_i sl wd e;show C3 (t.put sl).1 _
 ·show{(),λ_=>()}
def C4(t:SetTable)(es:Array (Int×Value))(n:Nat):(relayAll t es n).2.1.led=t.led/\(t.plain=false->(relayAll t es n).2.1.plain=false):=by
 unfold relayAll
 split
 ·rename_i a c e;have b:a.led=t.led/\a.plain=t.plain:=by unfold SetTable.relaid SetTable.laid at e;cases hc:SetTable.layClean (SetTable.sizeAbove n-1) (es.map (·.1))with|none=>rw[hc]at e;cases e|some ow=>rw[hc]at e;cases e;show{(),()}
  dsimp only
  split
  ·show{b.1,λh=>b.2.trans h}
  ·show{(),λ_=>()}
 ·show{(),λ_=>()}
def uJ(h:l[i]?=some x):(x::l.eraseIdx i).Perm l:=by
 have a:=(d_.mp h).1;have b:=(d_.mp h).2;have e:l=l.take i++x::l.drop (i+1):=by rw[<-b,List.getElem_cons_drop,ro]
 rw[List.eraseIdx_eq_take_drop_succ];show List.Perm.trans ?_ (O0 e.symm);show List.perm_middle.symm
def wj(next:Nat->Nat)(c:Array d):(pickOrder next c).toList.Perm c.toList:=by
 have go:∀(a k:Nat)(left:List d)(out:Array d),left.length<=a->(pickOrder.go next a k left out).toList.Perm (out.toList++left):=by
  intro a
  induction a with|zero=>intro k left out h;have:left=[]:=List.length_eq_zero_iff.mp (by lia);subst this;unfold pickOrder.go;rw[nB]|succ a e=>intro k left out h;unfold pickOrder.go;cases b:left[next k%left.length]?with
 |none=>
    have hn:left=[]:=by cases left with|nil=>rfl|cons y f=>have:=K_.mp b;have:=Nat.mod_lt (next k) (show 0<(y::f).length from Oj _);lia
    subst hn;rw[nB]|some x=>have g:=(d_.mp b).1;have i:=(d_.mp b).2;dsimp only;show(e _ _ _ (by rw[List.length_eraseIdx];split<;>lia)).trans ?_;rw[ON,vr];show List.Perm.append_left _ ?_;change(x::left.eraseIdx (next k%left.length)).Perm left;show uJ b
 have:=go c.size 0 c.toList #[] (by simp);unfold pickOrder;simpa using this
def ie:Slot "set_iterator" "__next__" "set_iterator.__next__":=.of (owner:="set_iterator") (n:="__next__") (by rw[Op,Np];kernel_rfl) (by decide+kernel) (by decide+kernel) (by decide+kernel) (by first|show .inl (by decide+kernel)|show .inr (by decide+kernel)) (by rw[Oy];kernel_rfl)
def sG:Slot "set_iterator" "__iter__" "set_iterator.__iter__":=.of (owner:="set_iterator") (n:="__iter__") (by rw[Op,Np];kernel_rfl) (by decide+kernel) (by decide+kernel) (by decide+kernel) (by first|show .inl (by decide+kernel)|show .inr (by decide+kernel)) (by rw[Oy];kernel_rfl)
def yp:Manifest.owners.lookup (String.ofList ['r','o','t','a','r','e','t','i','_','t','e','s'].reverse)=some Manifest.sig_set_iterator:=by kernel_rfl
def kI(a:Value):argsOk "set_iterator.__next__" {[a],[]}:=by unfold argsOk;rw[signature?_of (id:="set_iterator.__next__") (n:=['_','_','t','x','e','n','_','_']) (o:=['r','o','t','a','r','e','t','i','_','t','e','s']) (by kernel_rfl) yp];kernel_rfl
def oB(a:Value):argsOk "set_iterator.__iter__" {[a],[]}:=by unfold argsOk;rw[signature?_of (id:="set_iterator.__iter__") (n:=['_','_','r','e','t','i','_','_']) (o:=['r','o','t','a','r','e','t','i','_','t','e','s']) (by kernel_rfl) yp];kernel_rfl
def jB:entryFor table "set_iterator.__next__"=some Builtin.«set_iterator.__next__»:=entryFor_of_tree (by kernel_rfl)
def mO:entryFor table "set_iterator.__iter__"=some Builtin.«dict_keyiterator.__iter__»:=entryFor_alias (id':="dict_keyiterator.__iter__") (by kernel_rfl) () (by decide+kernel) (by kernel_rfl)
def tj:entryFor table "set.__iter__"=some Builtin.«frozenset.__iter__»:=entryFor_alias (id':="frozenset.__iter__") (by kernel_rfl) () (by decide+kernel) (by kernel_rfl)
abbrev iF(first:Value)(i:Nat)(a:Addr)(n ep:Nat):Obj:={cls:=.type "set_iterator",dict:=none,data:=.fields #[first,.int i 0,.ref a,.int n 0,.int ep 0],slots:=#[]}
abbrev k7(a:O6):Obj:={cls:=.type "tuple",dict:=none,data:=.seq a.toArray}
structure fT(h:Heap)(a:Addr)(es:Array (Int×Value))(ep:Nat)(t:SetTable):Prop where
 ob:∃o,h.get? a=some o/\o.cls=.type "set"/\o.data=.set es ep t
 fits:t.fits es.size=true
def fT.keep(x:fT h a es ep t)(k:∀o,h.get? a=some o->h'.get? a=some o):fT h' a es ep t:={let⟨o,e,r⟩:=x.ob;{o,k o e,r},x.fits}
def fT.ty{s:Shared}{a:Addr}{es:Array (Int×Value)}{ep:Nat}{t:SetTable}(x:fT s.heap a es ep t):s.TypeIs (.ref a) "set":=let⟨o,e,c,_⟩:=x.ob;(o,e,c,)
section
variable{prog:O7}{w:World}{A:Around}{E:O3}{s:Shared}
theorem uK:∀(n:Nat)(a:List f)(s:Shared)(Q:List f->Shared->Prop),a.length<=n->(∀c d,c.Perm a->Q c {s with drawn:=d})->wpAny (model prog w) A (drawOrder n a) Q E s
 |0,a,s,Q,e,h=>by have:a=[]:=List.length_eq_zero_iff.mp (by lia);subst this;unfold drawOrder;show fx (h [] s.drawn (OA _))|n+1,[],s,Q,e,h=>by unfold drawOrder;show fx (h [] s.drawn (OA _))|n+1,x::r,s,Q,e,h=>by
  unfold drawOrder;show a_ (m:=choose .order (x::r).length) (λΓ p g=>?_);unfold choose;rw[Sem.wp_choose];show{Nat.succ_ne_zero _,?_};have hi:w.draws .order (s.drawn.get .order)%(x::r).length<(x::r).length:=Nat.mod_lt _ (Oj _);have b:wpAny (model prog w) A (match(x::r)[w.draws .order (s.drawn.get .order)%(x::r).length]?with|some y=>do return y::(<-drawOrder n ((x::r).eraseIdx (w.draws .order (s.drawn.get .order)%(x::r).length)))|none=>unsupported "internal:drawOrder") Q E {s with drawn:=s.drawn.bump .order}:=by generalize w.draws .order (s.drawn.get .order)%(x::r).length=i at hi⊢;rw[ga hi];show a_ (uK n _ _ _ (by rw[List.length_eraseIdx,g6 hi];lia) λc d j=>?_);show fx (h _ _ ((List.Perm.cons _ j).trans (uJ (ga hi))))
  show b
set_option maxHeartbeats 4000000 in
def EH{a:Addr}{es:Array (Int×Value)}{ep:Nat}{t:SetTable}{Q:O3}(d:fT s.heap a es ep t)(hn:es.size<=sizeLine)(h1:(!w.params.followText "set-order"&&(!t.plain&&decide (es.size>1)))=false->Q (.ref s.heap.objs.size) {s with heap:=s.heap.push (iF (.int 0 0) 0 a es.size ep)})(h2:(!w.params.followText "set-order"&&(!t.plain&&decide (es.size>1)))=true->∀(c:Pa)(e:Drawn),c.Perm (List.range es.size)->Q (.ref (s.heap.objs.size+1)) {s with heap:=(s.heap.push (k7 (c.map λ(i:Nat)=>Value.int (i:Int) 0))).push (iF (.ref s.heap.objs.size) 0 a es.size ep),drawn:=e}):wpAny (model prog w) A (pyIter (.ref a)) Q E s:=by obtain⟨o,b,hc,hd⟩:=d.ob;have f:=d.fits;show OH d.ty F.slot_set_iter (ol F.slot_set_iter d.ty tj ?_ (F.args_set_iter_1 _));unfold Builtin.«frozenset.__iter__»;show a_ (m:=Builtin.Frozenset.slot0 "__iter__" _) (a_ (m:=slotArgs "__iter__" 0 _) (fx (fx ?_)));show a_ (m:=Builtin.Frozenset.sizeOf a) (a_ (NI b hd f (fx ?_)));show a_ (m:=setDrawn a) (a_ (E1 b hd f (a_ (a_ (J_ (fx ?_))))));show fx ?_;dsimp only;change wpAny _ _ (if(!w.params.followText "set-order"&&(!t.plain&&decide (es.size>1)))=true then _ else _) _ _ s;cases hc:(!w.params.followText "set-order"&&(!t.plain&&decide (es.size>1)))with|false=>rw[g_ iq];show a_ (fx ?_);show a_ (wpAny_setEpoch_of b hd f ?_);show a_ (oD (fx {_,(),"set_iterator",_,{_,gg _ (),()},ie.lookup,?_}));show h1 hc|true=>
  rw[g6 ()];show a_ (uK es.size (List.range es.size) s _ (by rw[m_];show e_ _) λc e h=>?_);have j:c.length=es.size:=by rw[h.length_eq,m_]
  show a_ (oD ?_ (by change(c.map λ(i:Nat)=>rawInt i).toArray.size<=sizeLine;rw[h_,b_,j];show hn));have g:(s.heap.push (k7 (c.map λ(i:Nat)=>Value.int (i:Int) 0))).get? a=some o:=c_ _ b;show a_ (wpAny_setEpoch_of (s:={s with heap:=s.heap.push (k7 (c.map λ(i:Nat)=>Value.int (i:Int) 0)),drawn:=e}) g hd f ?_);show a_ (oD (fx {_,(),"set_iterator",_,{_,gg _ (),()},ie.lookup,?_}));have:=h2 hc c e h;rw[show s.heap.objs.size+1=(s.heap.push (k7 (c.map λ(i:Nat)=>Value.int (i:Int) 0))).objs.size from(ov ..).symm]at this;show this
def Ck{I a:Addr}{es:Array (Int×Value)}{ep i slot nx:Nat}{t:SetTable}{x:Value}{Q:Option Value->Shared->Prop}(c:s.heap.get? I=some (iF (.int slot 0) i a es.size ep))(d:fT s.heap a es ep t)(hn:∀(A:Around)(e:Option (Value×Nat)->Shared->Prop)(E:O3),e (some (x,nx)) s->wpAny (model prog w) A (setNext a slot i ep) e E s)(f:∀h',h'.get? I=some (iF (.int nx 0) (i+1) a es.size ep)->Heap.SameBut I s.heap h'->Q (some x) {s with heap:=h'}):wpAny (model prog w) A (pyNext (.ref I)) Q E s:=by obtain⟨o,g,hc,hd⟩:=d.ob;have ty:s.TypeIs (.ref I) "set_iterator":={_,c,()};unfold pyNext;show a_ (N4 (o8 (name:=Str.ofString "__next__") ty ie (ol ie ty jB ?_ (kI _))));unfold Builtin.«set_iterator.__next__»;show a_ (m:=slotArgs "__next__" 0 _) (fx ?_);show a_ (wpAny_fieldsOf c () ?_);change wpAny _ _ (setEntries a>>=_) _ _ s;show a_ (NI g hd d.fits ?_);rw[g_ (by simp)];show a_ (m:=setNext a slot i ep) (hn _ _ _ ?_);show a_ (pw c (by simp) λh1 h b1=>?_);show a_ (pw (s:={s with heap:=h1}) h (by simp) λh2 j b2=>?_);show fx {_,(),fx (f h2 ?_ (b1.trans b2))};rw[j];rfl
def Am{I T a:Addr}{es:Array (Int×Value)}{ep i:Nat}{c:Pa}{j:Nat}{t:SetTable}{x:Int×Value}{Q:Option Value->Shared->Prop}(d:s.heap.get? I=some (iF (.ref T) i a es.size ep))(e:fT s.heap a es ep t)(l:s.heap.get? T=some (k7 (c.map λ(i:Nat)=>Value.int (i:Int) 0)))(n:c[i]?=some j)(p:es[j]?=some x)(q:∀h',h'.get? I=some (iF (.ref T) (i+1) a es.size ep)->Heap.SameBut I s.heap h'->Q (some x.2) {s with heap:=h'}):wpAny (model prog w) A (pyNext (.ref I)) Q E s:=by
 obtain⟨o,g,hc,hd⟩:=e.ob;have ty:s.TypeIs (.ref I) "set_iterator":={_,d,()};unfold pyNext;show a_ (N4 (o8 (name:=Str.ofString "__next__") ty ie (ol ie ty jB ?_ (kI _))));unfold Builtin.«set_iterator.__next__»;show a_ (m:=slotArgs "__next__" 0 _) (fx ?_);show a_ (wpAny_fieldsOf d () ?_);change wpAny _ _ (setEntries a>>=_) _ _ s;show a_ (NI g hd e.fits ?_);rw[g_ (by simp)];change wpAny _ _ (seqItems? (.ref T)>>=_) _ _ s;show a_ (t2 l () ?_);have b:(c.map λ(i:Nat)=>Value.int (i:Int) 0).toArray[(i:Int).toNat]?=some (.int (j:Nat) 0):=by rw[Ox,ge,ot,n];rfl
 change wpAny _ _ (match(c.map λ(i:Nat)=>Value.int (i:Int) 0).toArray[(i:Int).toNat]?with|some (.int f _)=>_|some _=>_|none=>_) _ _ s;rw[b];show a_ (m:=setNextDrawn a j ep) ?_;unfold setNextDrawn;show a_ (E1 g hd e.fits ?_);dsimp only;rw[g_ (by simp)];rw[p];show fx ?_;show a_ (pw d (by simp) λh1 k b1=>?_);show fx {_,(),fx (q h1 ?_ b1)};rw[k];rfl
end
def gp(a:Array Nat):Prop:=∀i j:Nat,i<j->j<a.size->a.getD i 0<a.getD j 0
def EW{a:Array Nat}{i:Nat}(h:i<a.size)(d:Nat):a.getD i d=a.getD i 0:=by simp[Array.getD,h]
def gp.le(r:gp a)(h:i<=j)(c:j<a.size):a.getD i 0<=a.getD j 0:=by
 rcases Om i j with q|q
 ·show sT (r i j q c)
 ·have:i=j:=by lia
  rw[this];show e_ _
theorem uV{a:Array Nat}(r:gp a)(j:Nat):∀(fuel lo hi:Nat),hi-lo<=fuel->lo<=hi->hi<=a.size->(∀k,k<lo->a.getD k 0<j)->(∀k,hi<=k->k<a.size->¬a.getD k 0<j)->SetTable.below.go a j fuel lo hi<=a.size/\(∀k,k<SetTable.below.go a j fuel lo hi->a.getD k 0<j)/\(∀k,SetTable.below.go a j fuel lo hi<=k->k<a.size->¬a.getD k 0<j)
 |0,lo,hi,g,h,c,h1,h2=>by
  unfold SetTable.below.go;have:lo=hi:=by lia
  subst this;show(c,h1,h2,)|fuel+1,lo,hi,g,h,c,h1,h2=>by
  unfold SetTable.below.go
  by_cases b:lo<hi
  ·rw[g6 b];have hm:(lo+hi)/2<a.size:=by lia
   dsimp only;rw[EW hm j]
   by_cases d:a.getD ((lo+hi)/2) 0<j
   ·rw[g6 d];show uV r j fuel _ _ (by lia) (by lia) c (λk f=>Es (r.le (by lia) hm) d) h2
   ·rw[g_ d];show uV r j fuel _ _ (by lia) (by lia) (by lia) h1 (λk f e q=>d (Es (r.le f e) q))
  ·rw[g_ b];have:lo=hi:=by lia
   subst this;show(c,h1,h2,)
def qP(r:gp a)(j:Nat):SetTable.below a j<=a.size/\(∀k,k<SetTable.below a j->a.getD k 0<j)/\(∀k,SetTable.below a j<=k->k<a.size->¬a.getD k 0<j):=uV r j a.size 0 a.size (by lia) (ku _) (e_ _) (λk b=>absurd b (Os _)) (λk h1 h2=>absurd h2 (by lia))
def DJ(a:Array Nat):Nat->Nat|0=>0|i+1=>a.getD i 0+1
def uU(r:gp a):∀{i:Nat},i<=a.size->SetTable.below a (DJ a i)=i
 |0,_=>by
  obtain⟨h1,h2,h3⟩:=qP r 0;rcases Nat.eq_zero_or_pos (SetTable.below a 0)with q|q
  ·show q
  ·show absurd (h2 0 q) (Os _)|i+1,hi=>by
  obtain⟨h1,h2,h3⟩:=qP r (a.getD i 0+1);change SetTable.below a (a.getD i 0+1)=i+1;rcases Nat.lt_trichotomy (SetTable.below a (a.getD i 0+1)) (i+1)with q|q|q
  ·show absurd (si _) (h3 i (by lia) (by lia))
  ·show q
  ·have:=h2 (i+1) q;have:=r i (i+1) (si _) (by lia);lia
def gp.few{a:Array Nat}(h:a.size<=1):gp a:=λi j h1 h2=>by lia
section
variable{prog:O7}{w:World}{A:Around}{E:O3}{s:Shared}
def oE(c:fT s.heap a es ep t)(d:w.params.followText "set-order"=true)(h:Q (((pickOrder (w.params.setOrder a ep) es)[i]?).map λe=>(e.2,slot)) s):wpAny (model prog w) A (setNext a slot i ep) Q E s:=by obtain⟨o,b,hc,hd⟩:=c.ob;unfold setNext;show a_ (E1 b hd c.fits ?_);dsimp only;show a_ (m:=setsByText) (a_ (J_ (fx ?_)));change wpAny _ _ (if(w.params.followText "set-order")=true then _ else _) _ _ s;rw[g6 d,g_ (by simp)];show a_ (m:=setWalk a) ?_;unfold setWalk;show a_ (E1 b hd c.fits ?_);dsimp only;show a_ (m:=setsByText) (a_ (J_ (fx ?_)));change wpAny _ _ (if(w.params.followText "set-order")=true then _ else _) _ _ s;rw[g6 d];show a_ (J_ (fx ?_));show fx h
def oF(c:fT s.heap a es ep t)(d:w.params.followText "set-order"=false)(e:(!t.plain&&decide (es.size>1))=false)(f:t.led=true)(h:Q (match es[SetTable.below t.place slot]?,t.place[SetTable.below t.place slot]?with|some (_,x),some j=>some (x,j+1)|_,_=>none) s):wpAny (model prog w) A (setNext a slot i ep) Q E s:=by obtain⟨o,b,hc,hd⟩:=c.ob;unfold setNext;show a_ (E1 b hd c.fits ?_);dsimp only;show a_ (m:=setsByText) (a_ (J_ (fx ?_)));change wpAny _ _ (if(w.params.followText "set-order")=true then _ else _) _ _ s;rw[g_ (by rw[d];show iq)];change wpAny _ _ (if(!t.plain&&decide (es.size>1))=true then _ else _) _ _ s;rw[g_ (by rw[e];show iq)];show a_ ?_;change wpAny _ _ (if(!t.led&&!es.isEmpty)=true then _ else _) _ _ s;rw[g_ (by rw[f];simp)];show fx (fx h)
def y6(hh:A.handled=none)(f:s.heap.get? I=some (iF first i a es.size ep))(j:fT s.heap a es ep t)(hn:(∃slot:Nat,first=.int slot 0/\∀(A:Around)(l:Option (Value×Nat)->Shared->Prop)(E:O3),l none s->wpAny (model prog w) A (setNext a slot i ep) l E s)\/∃(T:Addr)(d:Pa),first=.ref T/\s.heap.get? T=some (k7 (d.map λ(i:Nat)=>Value.int (i:Int) 0))/\d[i]?=none)(p:∀h',(∀b o,b≠I->s.heap.get? b=some o->h'.get? b=some o)->Q none {s with heap:=h'}):wpAny (model prog w) A (pyNext (.ref I)) Q E s:=by
 obtain⟨o,q,hc,hd⟩:=j.ob;have ty:s.TypeIs (.ref I) "set_iterator":={_,f,()};have fin:∀(R:Fin->Shared->Prop)(h1:Heap),(∀b o,b≠I->s.heap.get? b=some o->h1.get? b=some o)->wpAny (model prog w) A.in1 (newExc (.type "StopIteration") []>>=λe=>raiseNew e:Sem Fin) R (λe r=>wpAny (model prog w) A (do if<-isInstance e (.type "StopIteration")then pure none else throw e) Q E r) {s with heap:=h1}:=by intro R h1 u;show a_ ?_;simp only[newExc,newTuple];show a_ (oD ?_ (by size_fits));show a_ (m:=firstArgMember _ _) (wpAny_of_eq (a:=Value.none) (by first|rfl|(simp only[firstArgMember];rfl)) ?_);show oD ?_ (by size_fits);simp only[raiseNew];show a_ (wpAny_handled ?_);rw[show A.in1.handled=none from hh];show a_ (fx (wpAny_throw ?_));show a_ (N9 (T:="StopIteration") (b:=true) {_,gg _ (),()} isSubtype_stop ?_);show fx (p _ λb o c e=>c_ _ (c_ _ (u b o c e)))
 unfold pyNext;show a_ (N4 (o8 (name:=Str.ofString "__next__") ty ie (ol ie ty jB ?_ (kI _))));unfold Builtin.«set_iterator.__next__»;show a_ (m:=slotArgs "__next__" 0 _) (fx ?_);show a_ (wpAny_fieldsOf f () ?_);change wpAny _ _ (setEntries a>>=_) _ _ s;show a_ (NI q hd j.fits ?_);rw[g_ (by simp)];rcases hn with⟨slot,rfl,hn⟩|⟨T,d,rfl,v,x⟩
 ·show a_ (m:=setNext a slot i ep) (hn _ _ _ ?_);show a_ (pw f (by simp) λh1 n b1=>?_);show fin _ h1 λb o c e=>(b1.2 b c).trans e
 ·change wpAny _ _ (seqItems? (.ref T)>>=_) _ _ s;show a_ (t2 v () ?_);have g:(d.map λ(i:Nat)=>Value.int (i:Int) 0).toArray[(i:Int).toNat]?=none:=by rw[Ox,ge,ot,x];rfl
  change wpAny _ _ (match(d.map λ(i:Nat)=>Value.int (i:Int) 0).toArray[(i:Int).toNat]?with|some (.int h _)=>_|some _=>_|none=>_) _ _ s;rw[g];show a_ (pw f (by simp) λh1 n b1=>?_);show a_ (pw (s:={s with heap:=h1}) n (by simp) λh2 y b2=>?_);show fin _ h2 λb o c e=>(b2.2 b c).trans ((b1.2 b c).trans e)
def CU(hh:A.handled=none)(J:fT s.heap a es ep t)(hn:es.size<=sizeLine)(Z:w.params.followText "set-order"=false->t.led=true)(hr:t.plain=true->gp t.place)(h:∀(I:Addr)(h':Heap)(P:Drawn)(ord:List (Int×Value))(fp:Pb)(St:Nat->Heap->Prop),ord.Perm es.toList->(∀b o,s.heap.get? b=some o->h'.get? b=some o)->s.heap.objs.size<=I->I<h'.objs.size->(∀b∈fp,b=a\/s.heap.objs.size<=b)->Walks prog w A I fp [I] es.size (λi v=>∃x,ord[i]?=some x/\v=x.2) St->St 0 h'->Q (.ref I) {s with heap:=h',drawn:=P}):wpAny (model prog w) A (pyIter (.ref a)) Q E s:=by
 have ha:a<s.heap.objs.size:=let⟨o,e,_⟩:=J.ob;hY e;have R:t.place.size=es.size:=by have:=J.fits;unfold SetTable.fits at this;simp only[k_,beq_iff_eq]at this;show this.1
 show EH J hn (λhc=>?_) (λhc g P H=>?_)
 ·--by slots
  have K:∀b o,s.heap.get? b=some o->(s.heap.push (iF (.int 0 0) 0 a es.size ep)).get? b=some o:=λb o e=>c_ _ e;have hg:(s.heap.push (iF (.int 0 0) 0 a es.size ep)).get? s.heap.objs.size=some (iF (.int 0 0) 0 a es.size ep):=gg _ ();have S:s.heap.objs.size<(s.heap.push (iF (.int 0 0) 0 a es.size ep)).objs.size:=by rw[ov];show si _
  have D:a≠s.heap.objs.size:=ir ha;have p:∀(first:Nat->Nat)(ord:List (Int×Value)),first 0=0->ord.Perm es.toList->(∀(i:Nat)(c:Shared)(x:Int×Value),ord[i]?=some x->fT c.heap a es ep t->∀(A:Around)(u:Option (Value×Nat)->Shared->Prop)(E:O3),u (some (x.2,first (i+1))) c->wpAny (model prog w) A (setNext a (first i) i ep) u E c)->(∀(c:Shared),fT c.heap a es ep t->∀(A:Around)(u:Option (Value×Nat)->Shared->Prop)(E:O3),u none c->wpAny (model prog w) A (setNext a (first es.size) es.size ep) u E c)->Q (.ref s.heap.objs.size) {s with heap:=s.heap.push (iF (.int 0 0) 0 a es.size ep)}:=by
   intro first ord f0 H hi hd;have T:ord.length=es.size:=by rw[H.length_eq,kw]
   show h s.heap.objs.size _ s.drawn ord [s.heap.objs.size,a] (λi h'=>h'.get? s.heap.objs.size=some (iF (.int (first i) 0) i a es.size ep)/\fT h' a es ep t) H K (e_ _) S ?_ ?_ ?_
   ·intro b d;simp only[q_,op,E_]at d;rcases d with rfl|rfl
    ·show .inr (e_ _)
    ·show .inl ()
   ·show{sub:=λb d=>?_,frame:=λi h1 h2 st k=>?_,item:=λi c L M U st q=>?_,done:=λc L M st q=>?_,self:=λi c L M st q=>?_}
    ·rw[List.mem_singleton.mp d];show i_
    ·show{k _ i_ _ st.1,st.2.keep λo e=>k _ (il _ i_) _ e}
    ·obtain⟨x,f⟩:∃x,ord[i]?=some x:={ord[i]'(by lia),ga (by lia)};show Ck (nx:=first (i+1)) st.1 st.2 (hi i c x f st.2) λh2 V b2=>?_;show q x.2 h2 c.toks {x,f,()} {V,st.2.keep λo e=>(b2.2 _ D).trans e} λb o d e=>(b2.2 b λz=>d (by rw[z];show List.mem_singleton.mpr ())).trans e
    ·show y6 hh st.1 st.2 (.inl {_,(),hd c st.2}) λh2 W=>?_;show q h2 c.toks λb o d e=>W b o (λz=>d (by rw[z];show List.mem_singleton.mpr ())) e
    ·have ty:c.TypeIs (.ref s.heap.objs.size) "set_iterator":={_,st.1,()};show OH ty sG (ol sG ty mO ?_ (oB _));show fx {_,(),"set_iterator",_,ty,ie.lookup,q}
   ·rw[f0];show{hg,J.keep λo e=>K _ _ e}
  cases F:w.params.followText "set-order"with
 |true=>
   have T:(pickOrder (w.params.setOrder a ep) es).toList.length=es.size:=by rw[(wj _ _).length_eq,kw]
   show p (λ_=>0) (pickOrder (w.params.setOrder a ep) es).toList () (wj _ _) (λi c x f m A u E q=>?_) (λc m A u E q=>?_)
   ·show oE m F ?_;have f:(pickOrder (w.params.setOrder a ep) es)[i]?=some x:=by rw[<-rV];show f
    rw[f];show q
   ·show oE m F ?_;have f:(pickOrder (w.params.setOrder a ep) es)[es.size]?=none:=by rw[<-rV];show K_.mpr (by lia)
    rw[f];show q|false=>
   have B:(!t.plain&&decide (es.size>1))=false:=by rw[F]at hc;simpa using hc
   have rs:gp t.place:=by cases C:t.plain with|true=>show hr C|false=>rw[C]at B;show gp.few ?_;rw[R];simpa using B
   show p (DJ t.place) es.toList () (OA _) (λi c x f m A u E q=>?_) (λc m A u E q=>?_)
   ·have f:es[i]?=some x:=by rw[<-rV];show f
    have hi:i<es.size:=(Array.getElem?_eq_some_iff.mp f).1;show oF m F B (Z F) ?_;rw[uU rs (by lia),f];have C:t.place[i]?=some (t.place.getD i 0):=by rw[to (by lia)];simp[Array.getD,show i<t.place.size by lia]
    rw[C];show q
   ·show oF m F B (Z F) ?_;rw[uU rs (by lia)];rw[show es[es.size]?=none from Array.getElem?_eq_none (e_ _)];show q
 ·--drawn
  have X:(s.heap.push (k7 (g.map λ(i:Nat)=>Value.int (i:Int) 0))).get? s.heap.objs.size=some (k7 (g.map λ(i:Nat)=>Value.int (i:Int) 0)):=gg _ ();have hz:(s.heap.push (k7 (g.map λ(i:Nat)=>Value.int (i:Int) 0))).objs.size=s.heap.objs.size+1:=ov ..;have K:∀b o,s.heap.get? b=some o->((s.heap.push (k7 (g.map λ(i:Nat)=>Value.int (i:Int) 0))).push (iF (.ref s.heap.objs.size) 0 a es.size ep)).get? b=some o:=λb o e=>c_ _ (c_ _ e);have hg:((s.heap.push (k7 (g.map λ(i:Nat)=>Value.int (i:Int) 0))).push (iF (.ref s.heap.objs.size) 0 a es.size ep)).get? (s.heap.objs.size+1)=some (iF (.ref s.heap.objs.size) 0 a es.size ep):=by rw[<-hz];show gg _ ()
  have aa:g.length=es.size:=by rw[H.length_eq,m_]
  have N:∀(i j:Nat),g[i]?=some j->j<es.size:=λi j q=>by have:=H.mem_iff.mp (f_ q);show s_.mp this
  show h (s.heap.objs.size+1) _ P (g.filterMap λj=>es[j]?) [s.heap.objs.size+1,a,s.heap.objs.size] (λi h'=>h'.get? (s.heap.objs.size+1)=some (iF (.ref s.heap.objs.size) i a es.size ep)/\fT h' a es ep t/\h'.get? s.heap.objs.size=some (k7 (g.map λ(i:Nat)=>Value.int (i:Int) 0))) ?_ K (p_ _) ?_ ?_ ?_ ?_
  ·have:=H.filterMap (λj=>es[j]?);rw[filterMap_getElem?_range]at this;show this
  ·rw[ov,hz];show si _
  ·intro b d;simp only[q_,op,E_]at d;rcases d with rfl|rfl|rfl
   ·show .inr (p_ _)
   ·show .inl ()
   ·show .inr (e_ _)
  ·have D:a≠s.heap.objs.size+1:=ir (so ha);have O:∀(i:Nat)(j:Nat)(x:Int×Value),g[i]?=some j->es[j]?=some x->(g.filterMap λj=>es[j]?)[i]?=some x:=by
    have gen:∀(l:Pa),(∀j∈l,j<es.size)->∀(i j:Nat)(x:Int×Value),l[i]?=some j->es[j]?=some x->(l.filterMap λj=>es[j]?)[i]?=some x:=by
     intro l
     induction l with|nil=>intro _ i j x hi _;simp at hi|cons y r ih=>intro d i j x hi f;have hy:es[y]?=some (es[y]'(d y i_)):=to _;rw[List.filterMap_cons_some hy];cases i with|zero=>simp only[List.getElem?_cons_zero,NX]at hi⊢;subst hi;rw[hy]at f;show j1 f|succ i=>simp only[List.getElem?_cons_succ]at hi⊢;show ih (λj G=>d j (il _ G)) i j x hi f
    intro i j x h1 h2;show gen g (λj G=>?_) i j x h1 h2;obtain⟨n,hn⟩:=ig.mp G;show N n j hn
   show{sub:=λb d=>?_,frame:=λi h1 h2 st k=>?_,item:=λi c L M U st q=>?_,done:=λc L M st q=>?_,self:=λi c L M st q=>?_}
   ·rw[List.mem_singleton.mp d];show i_
   ·show{k _ i_ _ st.1,st.2.1.keep λo e=>k _ (il _ i_) _ e,k _ (il _ (il _ i_)) _ st.2.2}
   ·obtain⟨j,G⟩:∃j,g[i]?=some j:={g[i]'(by lia),ga (by lia)};have Y:=N i j G;have f:es[j]?=some (es[j]'Y):=to _;show Am st.1 st.2.1 st.2.2 G f λh2 V b2=>?_;show q _ h2 c.toks {_,O i j _ G f,()} {V,st.2.1.keep λo e=>(b2.2 _ D).trans e,(b2.2 _ (ir (si _))).trans st.2.2} λb o d e=>(b2.2 b λz=>d (by rw[z];show List.mem_singleton.mpr ())).trans e
   ·show y6 hh st.1 st.2.1 (.inr {_,g,(),st.2.2,K_.mpr (by lia)}) λh2 W=>?_;show q h2 c.toks λb o d e=>W b o (λz=>d (by rw[z];show List.mem_singleton.mpr ())) e
   ·have ty:c.TypeIs (.ref (s.heap.objs.size+1)) "set_iterator":={_,st.1,()};show OH ty sG (ol sG ty mO ?_ (oB _));show fx {_,(),"set_iterator",_,ty,ie.lookup,q}
  ·show{hg,J.keep λo e=>K _ _ e,c_ _ X}
def EQ(ty:s.TypeIs (.ref a) "set")(h:Q false s):wpAny (model prog w) A (Builtin.List.listLengthHint (.ref a)) Q E s:=by
 unfold Builtin.List.listLengthHint;show a_ (Oo ty F.slot_set_len.lookup ?_);generalize c:("set.__len__":String)=nm
 wp_delta
 rw[show splitId nm=some ("set","__len__")from by subst c;decide+kernel];subst c;show a_ (N9 (T:="set") (b:=true) ty (by rw[Oy];kernel_rfl) ?_);show r_ (λz=>absurd z (by decide)) (λ_=>?_);show r_ (λ_=>?_) (λz=>absurd (by decide+kernel) z);show a_ (OG ty (fx h))
def zw(hh:A.handled=none)(S:fT s.heap a es ep t)(hn:es.size<=sizeLine)(hl:w.params.followText "set-order"=false->t.led=true)(n:t.plain=true->gp t.place)(h:∀(h':Heap)(d':Drawn)(tk:Nat)(X:O6),X.Perm (es.toList.map (·.2))->(∀b o,s.heap.get? b=some o->h'.get? b=some o)->s.heap.objs.size<=h'.objs.size->R X {s with heap:=h',drawn:=d',toks:=tk}):wpAny (model prog w) A (collect (.ref a)) R E s:=by
 have K:a<s.heap.objs.size:=let⟨o,e,_⟩:=S.ob;hY e;unfold collect;show a_ (wpAny_runValue (L_ F.entry_proto_collect ?_));rw[H_ F.plain_proto_collect _];show a_ (m:=newList []) (oD ?_);show fx {Nv F.plain_list_iadd _,L_ F.entry_list_iadd ?_};rw[H_ F.plain_list_iadd _];have U:(s.heap.push {cls:=.type "list",data:=.seq ([]:O6).toArray}).get? s.heap.objs.size=some {cls:=.type "list",data:=.seq #[]}:=gg _ ();have g:fT (s.heap.push {cls:=.type "list",data:=.seq ([]:O6).toArray}) a es ep t:=S.keep λo e=>c_ _ e;have j:(s.heap.push {cls:=.type "list",data:=.seq ([]:O6).toArray}).objs.size=s.heap.objs.size+1:=ov ..;have L:∀b o,s.heap.get? b=some o->(s.heap.push {cls:=.type "list",data:=.seq ([]:O6).toArray}).get? b=some o:=λb o e=>c_ _ e;generalize s.heap.push {cls:=.type "list",data:=.seq ([]:O6).toArray}=h0 at U g j L⊢;change wpAny _ A.in1 (Builtin.List.listExtendWith (.ref s.heap.objs.size) (.ref a) (.ref s.heap.objs.size)) _ _ {s with heap:=h0};unfold Builtin.List.listExtendWith;show a_ (OG (T:="set") (s:={s with heap:=h0}) g.ty ?_);have ne:Builtin.List.listSameRef (.ref s.heap.objs.size) (.ref a)=false:=by simp[Builtin.List.listSameRef,n_ K]
 rw[g_ (by rw[ne];decide)];show a_ (CU (s:={s with heap:=h0}) (A:=A.in1) hh g hn hl n λI h1 l ord fp St V G hI aa p W st=>?_);show a_ (oa (EQ (s:={s with heap:=h1,drawn:=l}) (g.keep λo e=>G _ _ e).ty ?_));have M:=G _ _ U;have Y:ord.length=es.size:=by rw[V.length_eq,kw]
 have k:∀(h2:Heap)(c:Nat),St 0 h2->(∀b o,s.heap.get? b=some o->h2.get? b=some o)->h2.get? s.heap.objs.size=some {cls:=.type "list",dict:=none,data:=.seq #[] c,slots:=#[]}->codeAny (model prog w) A (.builtin "list.extend.loop" {[.ref s.heap.objs.size,.ref I,.ref s.heap.objs.size],[]}) (λr u=>∃v,r=.ok (.ret v)/\v=.ref s.heap.objs.size/\∃(h':Heap)(tk:Nat)(f:O_)(y:Nat),u={s with heap:=h',drawn:=l,toks:=tk}/\(∀b o,s.heap.get? b=some o->h'.get? b=some o)/\h'.get? s.heap.objs.size=some {cls:=.type "list",dict:=none,data:=.seq f y,slots:=#[]}/\f.toList.Perm (es.toList.map (·.2))) {s with heap:=h2,drawn:=l}:=by
  intro h2 c N k2 H;show codeAny_extend_loopS W.toS hn s.heap.objs.size (λhm=>?_) _ es.size 0 _ #[] c () (ku _) N H (ItemsOf.nil _) λu d y J g' Z=>?_
  ·rcases p _ hm with e|e
   ·show absurd e (n_ K)
   ·have:h0.objs.size<=s.heap.objs.size:=e;rw[j]at this;show absurd this (NA _)
  ·obtain⟨h3,O,d3,t3,o3⟩:=u;obtain rfl:O=s.gens:=J.gens;obtain rfl:d3=l:=J.drawn;obtain rfl:o3=s.os:=J.os;show{_,(),(),h3,t3,d,y,(),λb o e=>?_,g',?_}
   ·show J.heap b o (λhm=>?_) (k2 b o e);have B:b<s.heap.objs.size:=hY e;rcases q_.mp hm with z|z
    ·show absurd z (ir B)
    ·rw[List.mem_singleton.mp z]at B;have:h0.objs.size<=I:=hI;rw[j]at this;show absurd (z8 B (Nat.lt_of_succ_le this)) (o_ _)
   ·have e1:d.toList=ord.map (·.2):=by show vl λi=>?_;rw[ge,rV];cases q:d[i]?with|some v=>obtain⟨x,hx,rfl⟩:=Z.2 i v q;rw[hx];rfl|none=>have:d.size<=i:=Array.getElem?_eq_none_iff.mp q;rw[Z.1]at this;rw[oi (by lia)];rfl
    rw[e1];show V.map _
 show r_ (λ_=>?_) (λ_=>fx {Nv F.plain_extend_loop _,z7 (k h1 0 st (λb o e=>G _ _ (L _ _ e)) M) λr u n=>?_})
 case refine_2=>obtain⟨v,rfl,rfl,h',tk,f,y,rfl,P,C,Q⟩:=n;show a_ (wpAny_load C (fx (h h' l tk f.toList Q P (sT (hY C)))))
 show a_ (v_ (a_ ?_));change wpAny _ _ (updateSeq s.heap.objs.size (·.push .none)>>=λ_=>updateSeq s.heap.objs.size (·.pop)) _ _ _;show a_ (OW M () ?_);have H:=ry (Obj.mapSeq (·.push Value.none)) M ();show OW (hz:=by seq_fits) H () ?_;have O:=ry (Obj.mapSeq (·.pop)) H ();show fx {Nv F.plain_extend_loop _,z7 (k _ _ (W.frame 0 _ _ st λb B o e=>?_) (λb o e=>?_) O) λr u n=>?_}
 ·have D:b≠s.heap.objs.size:=λz=>by
   rcases p _ B with q|q
   ·show absurd (z.symm.trans q) (n_ K)
   ·have:h0.objs.size<=b:=q;rw[j,z]at this;show absurd this (NA _)
  show(th _ _ (nn D)).trans ((th _ _ (nn D)).trans e)
 ·have D:b≠s.heap.objs.size:=ir (hY e);show(th _ _ (nn D)).trans ((th _ _ (nn D)).trans (G _ _ (L _ _ e)))
 ·obtain⟨v,rfl,rfl,h',tk,f,y,rfl,P,C,Q⟩:=n;show a_ (wpAny_load C (fx (h h' l tk f.toList Q P (sT (hY C)))))
end
structure qR(led:Bool)(t:SetTable):Prop where
 led:t.led=led
 up:t.plain=true->gp t.place
def qR.off{led:Bool}{t:SetTable}(x:qR led t):qR led {t with plain:=false}:={x.led,λh=>by cases h}
def Ea{t:SetTable}{j:Nat}(h:t.slot j=.empty\/t.slot j=.dummy):t.place[SetTable.below t.place j]?≠some j:=by intro e;unfold SetTable.slot at h;dsimp only at h;rw[g6 (by rw[e];simp)]at h;rcases h with h|h<;>cases h
theorem nZ:∀(fuel:Nat)(p:SetTable.Probe)(j:Nat)(d:Option Nat),(∀x,p.dummy=some x->t.slot x=.dummy)->SetTable.probe.go t l h fuel p=some (.empty j d)->t.slot j=.empty/\∀x,d=some x->t.slot x=.dummy|0,p,j,d,c,e=>by unfold SetTable.probe.go at e;cases e|fuel+1,p,j,d,c,e=>by unfold SetTable.probe.go at e;cases a:t.slot p.j with
 |empty=>rw[a]at e;injection e with e;injection e with f g;subst f;subst g;show(a,c,)|dummy=>
   rw[a]at e;show nZ fuel _ j d (λx b=>?_) e;have:(t.advance {p with dummy:=some p.j}).dummy=some p.j:=by
    unfold SetTable.advance
    split<;>rfl
   rw[this]at b;cases b;show a|live i=>
   rw[a]at e;dsimp only at e
   split at e
   ·cases e
   ·show nZ fuel _ j d (λx b=>c x ?_) e;have:(t.advance p).dummy=p.dummy:=by
     unfold SetTable.advance
     split<;>rfl
    rw[this]at b;show b
def Cy{t:SetTable}{h:Int}{sl:Nat}{wd:Bool}(e:t.freeSlot h=some (sl,wd)):t.place[SetTable.below t.place sl]?≠some sl:=by unfold SetTable.freeSlot at e;cases a:t.probe (λ_=>h+1) h (t.probeStart h)with|none=>rw[a]at e;cases e|some m=>rw[a]at e;cases m with|candidate _ _ _=>cases e|empty j d=>have:=nZ (10*SetTable.turns t.mask) (t.probeStart h) j d (λx b=>by cases b) a;injection e with e;injection e with c f;subst c;show Ea ?_;cases d with|none=>show .inl this.1|some x=>show .inr (this.2 x ())
def gd(a:Array Nat)(i:Nat):a.getD i 0=(a.toList[i]?).getD 0:=by rw[rV,Array.getD_eq_getD_getElem?]
def z9{l:Pa}(h:l.Pairwise (·<·)):gp l.toArray:=by intro i j a b;rw[h_]at b;have:=List.pairwise_iff_getElem.mp h i j (by lia) b a;rw[gd,gd];change(l[i]?).getD 0<(l[j]?).getD 0;rw[ga b,ga (show i<l.length by lia)];show this
def zk(c:p<=a.size):(SetTable.insertAt a p x).getD k 0=if k<p then a.getD k 0 else if k=p then x else if k<a.size+1 then a.getD (k-1) 0 else 0:=by
 have e:(SetTable.insertAt a p x).toList=a.toList.take p++x::a.toList.drop p:=by rw[SetTable.toList_insertAt]
 rw[gd,e];have b:(a.toList.take p).length=p:=by rw[k4,kw];lia
 by_cases h1:k<p
 ·rw[g6 h1,rk (by lia),List.getElem?_take,g6 h1,gd]
 ·rw[g_ h1,y_ (by lia),b]
  by_cases h2:k=p
  ·rw[g6 h2,h2,Nat.sub_self];rfl
  ·rw[g_ h2];obtain⟨m,rfl⟩:∃m,k=p+(m+1):={k-p-1,by lia};rw[show p+(m+1)-p=m+1 by lia,List.getElem?_cons_succ,OE]
   by_cases h3:p+(m+1)<a.size+1
   ·rw[g6 h3,gd,show p+(m+1)-1=p+m by lia]
   ·rw[g_ h3,oi (by rw[kw];lia)];rfl
def EJ(c:p<=a.size):(SetTable.insertAt a p x).size=a.size+1:=by rw[<-kw,(SetTable.insertAt_perm a p x).length_eq,kw,Array.size_push]
def B7{t:SetTable}{sl:Nat}(r:gp t.place)(h:t.place[SetTable.below t.place sl]?≠some sl):gp (t.put sl).1.place:=by
 obtain⟨b1,b2,b3⟩:=qP r sl;change gp (SetTable.insertAt t.place (SetTable.below t.place sl) sl);generalize SetTable.below t.place sl=p at h b1 b2 b3;have b4:∀k,p<=k->k<t.place.size->sl<t.place.getD k 0:=by
  intro k d a;have e:t.place[p]?=some (t.place.getD p 0):=by rw[to (by lia)];simp[Array.getD,show p<t.place.size by lia]
  have f:t.place.getD p 0≠sl:=λz=>h (by rw[e,z]);have h1:=b3 p (e_ _) (by lia);have h2:=r.le d a;lia
 intro i j b c;rw[EJ b1]at c;rw[zk b1,zk b1]
 by_cases h1:j<p
 ·rw[g6 (by lia),g6 h1];show r i j b (by lia)
 ·rw[g_ h1]
  by_cases h2:j=p
  ·rw[g6 h2,g6 (by lia)];show b2 i (by lia)
  ·rw[g_ h2,g6 c]
   by_cases h3:i<p
   ·rw[g6 h3];have:=b2 i h3;have:=b4 (j-1) (by lia) (by lia);lia
   ·rw[g_ h3]
    by_cases h4:i=p
    ·rw[g6 h4];show b4 (j-1) (by lia) (by lia)
    ·rw[g_ h4,g6 (by lia)];show r (i-1) (j-1) (by lia) (by lia)
def qR.lay{led:Bool}{t:SetTable}(x:qR led t)(es:Array (Int×Value))(h:Int)(v:Value):qR led (layNew t es h v).2.1:=by
 show{(IB t es h v).1.trans x.led,?_};unfold layNew
 split
 ·rename_i sl wd e;intro a;dsimp only at a⊢;unfold SetTable.orStandIn at a⊢
  split
  ·rename_i b;rw[g6 b]at a;show B7 (x.up a) (Cy e)
  ·rename_i b;rw[g_ b]at a;cases a
 ·intro a;cases a
def qR.relay{led:Bool}{t:SetTable}(x:qR led t)(es:Array (Int×Value))(n:Nat):qR led (relayAll t es n).2.1:=by
 show{(C4 t es n).1.trans x.led,?_};unfold relayAll
 split
 ·rename_i l m e;dsimp only
  split
  ·intro _;unfold SetTable.relaid SetTable.laid at e;cases hc:SetTable.layClean (SetTable.sizeAbove n-1) (es.map (·.1))with|none=>rw[hc]at e;cases e|some ow=>
    rw[hc]at e;cases e;change gp ((((List.range (SetTable.sizeAbove n-1+1)).filterMap λj=>(ow.getD j none).map (j,·)).map (·.1)).toArray);have k:(((List.range (SetTable.sizeAbove n-1+1)).filterMap λj=>(ow.getD j none).map (j,·)).map (·.1)).Pairwise (·<·):=by rw[List.map_filterMap];show List.Pairwise.filterMap _ (R:=(·<·)) (S:=(·<·)) ?_ List.pairwise_lt_range;intro a b f x c y d;cases h:ow.getD a none with|none=>rw[h]at c;cases c|some v=>cases i:ow.getD b none with|none=>rw[i]at d;cases d|some u=>rw[h]at c;rw[i]at d;cases c;cases d;show f
    show z9 k
  ·intro g;cases g
 ·intro g;cases g
section
variable{prog:O7}{w:World}{c:Type}[DecidableEq c](knd:PySem.KeyKind prog w c)(kOf:Value->c)
structure jz(led:Bool)(h:Heap)(a:Addr)(ks:List c):Prop where ex:∃o es ep t,h.get? a=some o/\o.ExactSet/\o.data=.set es ep t/\ElemsOf knd es.toList/\(es.toList.map λe=>kOf e.2).Perm ks/\es.size<scanBound/\t.fits es.size=true/\qR led t
variable{knd kOf}
def jz.keep(x:jz knd kOf led h a d)(k:∀o,h.get? a=some o->h'.get? a=some o):jz knd kOf led h' a d:=by obtain⟨o,es,ep,t,e,r⟩:=x.ex;show{o,es,ep,t,k o e,r}
variable{A:Around}{E:O3}{s:Shared}
def Ep(f:∀k v,knd.is k v=true->kOf v=k)(d:ElemsOf knd es)(g:(es.map λe=>kOf e.2).Perm h)(k:c):k∈h↔∃e∈es,knd.is k e.2=true:=by
 rw[<-g.mem_iff,ji]
 constructor
 ·rintro⟨e,a,rfl⟩;obtain⟨⟨b,h1,_⟩,_⟩:=d e a;show{e,a,?_};rw[f b e.2 h1];show h1
 ·rintro⟨e,a,h1⟩;show{e,a,f k e.2 h1}
def sX{led:Bool}{h:Heap}{a:Addr}{o:Obj}{es d:Array (Int×Value)}{ep:Nat}{t f:SetTable}{ks:List c}(j:h.get? a=some o)(hex:o.ExactSet)(hd:o.data=.set es ep t)(i:ElemsOf knd d.toList)(l:(d.toList.map λe=>kOf e.2).Perm ks)(m:d.size<scanBound)(n:f.fits d.size=true)(p:qR led f):(h.update a (Obj.putSet d f)).get? a=some {o with data:=.set d (ep+1) f}/\jz knd kOf led (h.update a (Obj.putSet d f)) a ks:=by
 have g:(h.update a (Obj.putSet d f)).get? a=some {o with data:=.set d (ep+1) f}:=by
  have q:=ry (Obj.putSet d f) j (by rw[putSet_of d f hd];rfl)
  rwa[putSet_of d f hd]at q
 show{g,_,d,ep+1,f,g,hex,(),i,l,m,n,p}
def Fw{led:Bool}{a:Addr}{f:List c}{k:c}{x:Value}{Q:Bool->Shared->Prop}(X:∀k v,knd.is k v=true->kOf v=k)(i:knd.is k x=true)(y:x.scannable=true)(Z:jz knd kOf led s.heap a f)(F:f.length+1<scanBound)(h:∀h' b,Heap.SameBut a s.heap h'->jz knd kOf led h' a (if k∈f then f else f++[k])->Q b {s with heap:=h'}):wpAny (model prog w) A (setAddHashed a x (knd.hash k)) Q E s:=by
 obtain⟨o,es,ep,t,N,hex,hd,m,O,hb,Y,ti⟩:=Z.ex;have hn:es.size=f.length:=by rw[<-O.length_eq,b_,kw]
 have p:=Ep X m O;unfold setAddHashed setAddHashedIn;show oa (a_ (E1 N hd Y ?_));dsimp only;rw[byScan_of y hb m,g6 ()];unfold setAddByScan;show a_ (a_ (v_ (a_ (wpAny_setScan_of i N hd Y m ?_))));cases hr:List.findIdx? (λe=>knd.is k e.2) es.toList with|some j=>obtain⟨hj,P,_⟩:=List.findIdx?_eq_some_iff_getElem.mp hr;have B:k∈f:=(p k).mpr {_,Oc hj,P};show fx (fx ?_);have q:=h s.heap false (Heap.SameBut.refl a s.heap);rw[g6 B]at q;show q Z|none=>
  have B:k∉f:=λz=>by obtain⟨e,he,h1⟩:=(p k).mp z;have:=List.findIdx?_eq_none_iff.mp hr e he;rw[h1]at this;cases this
  dsimp only;have q:∀h' b,Heap.SameBut a s.heap h'->jz knd kOf led h' a (f++[k])->Q b {s with heap:=h'}:=λh' b sb x=>h h' b sb (by rw[g_ B];show x);have D:=layNew_perm t es (knd.hash k) x;have G:=layNew_fits t es (knd.hash k) x;have H:=ti.lay es (knd.hash k) x;generalize hL:layNew t es (knd.hash k) x=L at D G H⊢;obtain⟨d,R,wd,gv⟩:=L;dsimp only at D G H⊢;rw[ON]at D;have u:ElemsOf knd d.toList:=(m.push i y).perm D;have I:(d.toList.map λe=>kOf e.2).Perm (f++[k]):=by show(D.map _).trans ?_;rw[gV,Nl,X k x i];show O.append_right _
  have S:d.size=f.length+1:=by rw[<-kw,D.length_eq,hQ,kw,hn];rfl
  have n:d.size<scanBound:=by rw[S];show F
  have say:∀(b:Bool)(T:Shared)(U:Unit->Shared->Prop),U Unit.unit T->wpAny (model prog w) A (match b with|true=>rule "set.scan.the-table-gave-way"|false=>pure Unit.unit) U E T:=λb T U z=>by cases b<;>first|show fx z|show v_ z
  have l:∀g:SetTable,g.fits d.size=true->qR led g->wpAny (model prog w) A (do
 storeSet a d g if(!wd&&g.tooFull)=true then do
      (match(relayAll g d (SetTable.grown d.size)).2.2 with|true=>rule "set.scan.the-table-gave-way"|false=>pure Unit.unit)storeSet a (relayAll g d (SetTable.grown d.size)).1 (relayAll g d (SetTable.grown d.size)).2.1
      pure (some true)else pure (some true)) (λr s'=>wpAny (model prog w) A (match r with|some C=>pure C|none=>setAddHashedIn a x (knd.hash k) 99999) Q E s') E s:=by
   intro g f2 i2;show a_ (wpAny_storeSet_of N hd ?_ (fits_of_scanBound n));obtain⟨g1,S1⟩:=sX (knd:=knd) (kOf:=kOf) N hex hd u I n f2 i2;have J:=C1 s.heap a (Obj.putSet d g);show r_ (λ_=>?_) (λ_=>fx (fx (q _ _ J S1)));have K:=relayAll_perm g d (SetTable.grown d.size);have r2:=relayAll_fits g d (SetTable.grown d.size);have V:=i2.relay d (SetTable.grown d.size);generalize relayAll g d (SetTable.grown d.size)=Rl at K r2 V⊢;obtain⟨W,t3,aa⟩:=Rl;dsimp only at K r2 V⊢;have M:W.size=d.size:=by rw[<-kw,K.length_eq,kw]
   show a_ (say _ _ _ ?_);show a_ (wpAny_storeSet_of (s:={s with heap:=s.heap.update a (Obj.putSet d g)}) g1 () ?_ (fits_of_scanBound (by rw[M];show n)));obtain⟨_,S2⟩:=sX (knd:=knd) (kOf:=kOf) (ks:=f++[k]) g1 hex () (u.perm K) ((K.map _).trans I) (by rw[M];show n) r2 V;show fx (fx (q _ _ (J.trans (C1 _ a _)) S2))
  show a_ (say _ _ _ ?_)
  split
  ·show a_ ?_;rw[hashByValue_scannable 8 y];show fx ?_;cases ad:plainKind x with|true=>show l R G H|false=>show l {R with plain:=false} (SetTable.fits_plain_off G) H.off
  ·show a_ (fx (l R G H))
end
end L2
namespace L2
open PySem PySem.Spec PyProof.Rows
section
variable{prog:O7}{w:World}{A:Around}{E:O3}{s:Shared}
def GR(v:Value)(h:Q₁ (.ref s.heap.objs.size) {s with heap:=s.heap.push (fP (!w.params.followText "set-order"))}):codeAny (model prog w) A (.call (.builtin "set.__new__") {[.type "set",v],[]}) (wants Q₁ E) s:=by show codeAny_of_tree (show wpAny _ A.in1 (do checkBuiltinCall "set.__new__" ⟨[.type "set",v],[]⟩;again (.builtin "set.__new__" ⟨[.type "set",v],[]⟩)) _ _ s from ?_);show a_ (wpAny_of_eq (F.newCall_set_1 v) (fx {Nv F.plain_set_new _,L_ F.entry_set_new ?_}));rw[H_ F.plain_set_new _];unfold Builtin.«set.__new__»Builtin.Frozenset.newClass;have a:=sub_set_self;obtain⟨b,g,d,tk,os⟩:=s;dsimp only;wp_walk;show J_ (fx ?_);dsimp only;simp only[newObj];show a_ (wpAny_alloc (fx (fx h)))
end
section
variable{prog:O7}{w:World}{A:Around}{R:Result->Shared->Prop}{c:Type}[DecidableEq c][BEq c][LawfulBEq c]{j a:Addr}{fp g:Pb}{G:Array GenState->Array GenState->Prop}{n:Nat}{P:Nat->Value->Prop}{St:Nat->Shared->Prop}
def CB(l:List c)(x:c)[d:Decidable (x∈l)]:(if x∈l then l else l++[x])=step_dedup l x:=by
 unfold step_dedup
 by_cases h:x∈l
 ·have q:(l.any λy=>y==x)=true:=Oh.mpr {x,h,rf x};rw[g6 h,g6 q]
 ·have q:¬(l.any λy=>y==x)=true:=λz=>h (by obtain⟨y,b,q⟩:=Oh.mp z;rw[<-eq_of_beq q];show b);rw[g_ h,g_ q]
def CA(l:PySem.KeyKind prog w c)(kOf:Value->c)(led:Bool)(I:∀k v,l.is k v=true->kOf v=k)(q:WalksS prog w A.in1 j fp g G n P St)(C:a∉fp)(h:Nat->c)(r:∀i v,P i v->l.is (h i) v=true/\v.scannable=true)(D:n+1<scanBound):∀(d i:Nat)(s:Shared),n-i=d->i<=n->St i s->jz l kOf led s.heap a (uA h i)->(∀p,Moved (a::g) G s p->jz l kOf led p.heap a (uA h n)->R (.ok (.ret .none)) p)->codeAny (model prog w) A (.builtin "set.update.loop" {[.ref a,.ref j],[]}) R s:=by
 have aw:a∉g:=λz=>C (q.sub _ z);have up:∀b∈g,b∈a::g:=λb z=>il _ z;intro d
 induction d with|zero=>
  intro i s hd hi st f k;obtain rfl:i=n:=by lia
  show L_ F.entry_set_update_loop ?_;rw[H_ Oi _];show a_ (m:=pyNext (.ref j)) (q.done s _ _ st λp t=>?_);show fx (k p (t.mono up) (f.keep λo e=>t.heap a o aw e))|succ d J=>
  intro i s hd hi st f k;have lt:i<n:=by lia
  show L_ F.entry_set_update_loop ?_;rw[H_ Oi _];show a_ (m:=pyNext (.ref j)) (q.item i s _ _ lt st λv p Y u t=>?_);obtain⟨E,K⟩:=r i v Y;have L:jz l kOf led p.heap a (uA h i):=f.keep λo e=>t.heap a o aw e;show a_ (m:=holding [v] (setAdd a v)) (oa ?_);unfold setAdd;show oa (a_ (l.pyHash (k:=h i) E ?_));have M:(uA h i).length+1<scanBound:=by have:=Eo h i;lia
  show Fw (s:={p with toks:=p.toks+1}) I E K L M λh' O H f2=>?_;rw[CB,<-wB]at f2;show fx {Nv Oi _,J (i+1) _ (by lia) lt (q.frame _ p _ _ u (p_ _) λb z o e=>?_) f2 λx y N=>?_}
  ·show(H.2 b λB=>C (B▸z)).trans e
  ·show k x (Moved.trans q.gtrans ((t.mono up).then_heap (p_ _) λb o z e=>?_) y) N;show(H.2 b λB=>z (B▸i_)).trans e
end
section
variable{prog:O7}{w:World}{A:Around}{E:O3}{s:Shared}{d:Type}[DecidableEq d][BEq d][LawfulBEq d]
set_option maxHeartbeats 3200000 in
def zi{b:Bool}(n:PySem.KeyKind prog w d)(kOf:Value->d)(T:∀k v,n.is k v=true->kOf v=k){l:Addr}{j:O_}{key:Nat->d}{Q:O3}(hh:A.handled=none)(W:pY b s.heap l j)(y:∀i v,j[i]?=some v->n.is (key i) v=true/\v.scannable=true)(z:j.size+1<scanBound)(k:∀(h':Heap)(tk:Nat),jz n kOf (!w.params.followText "set-order") h' s.heap.objs.size (uA key j.size)->(∀b o,s.heap.get? b=some o->h'.get? b=some o)->Q (.ref s.heap.objs.size) {s with heap:=h',toks:=tk}):wpAny (model prog w) A (call (.type "set") [.ref l]) Q E s:=by
 obtain⟨c,tl,L⟩:=F.called_set.mro;have made:=F.called_set.made;have sub:=F.called_set.sub;have nt:=F.called_set.notType;have cc:=F.called_set.canCreate;have tc:=F.typeCall_set_1 (.ref l);show wpAny_call (codeAny_of_tree ?_);change wpAny _ _ (callAny (.type "set") _) _ _ _;show fx {Code.quiet_builtin _ (by decide+kernel),L_ F.entry_type_call ?_};rw[Around.under_plain (weight_type_call_type "set" [.ref l] []) ()]
 (repeat(any_goals(first|assumption|wp_step)));skip
 show z7 (GR (.ref l) (E:=E) (Q₁:=λu s₁=>u=.ref s.heap.objs.size/\s₁={s with heap:=s.heap.push (fP (!w.params.followText "set-order"))}) {(),()}) λr s₁ G=>?_;cases r with|error e=>show G|ok U=>cases U with
 |ret u=>
   obtain⟨rfl,rfl⟩:=G;have N:(s.heap.push (fP (!w.params.followText "set-order"))).get? s.heap.objs.size=some (fP (!w.params.followText "set-order")):=gg _ ();have ty:Shared.TypeIs {s with heap:=s.heap.push (fP (!w.params.followText "set-order"))} (.ref s.heap.objs.size) "set":={_,N,()};have li:=F.called_set.init.lookup;have bi:=F.called_set.init.bind (.ref s.heap.objs.size)
   (repeat(any_goals(first|assumption|wp_step)));skip
   show z7 (codeAny_call_builtin (R:=wants (λr p=>r=.none/\∃h' tk,p={s with heap:=h',toks:=tk}/\jz n kOf (!w.params.followText "set-order") h' s.heap.objs.size (uA key j.size)/\∀b o,s.heap.get? b=some o->h'.get? b=some o) E) F.called_set.init.plain F.entry_set_init (check_set_init_1 ty ?_)) λB p m=>?_
   ·obtain⟨⟨cl,V,dt,sl⟩,e,O,P,S⟩:=id W;simp only at O S;subst O;subst S;have X:(s.heap.push (fP (!w.params.followText "set-order"))).get? l=some {cls:=.type (cond b "list" "tuple"),dict:=V,data:=.seq j P,slots:=sl}:=c_ _ e;have s1:isSubtype (.type (cond b "list" "tuple")) (.type "set")=pure false:=by cases b;show F.sub_tuple_set;show F.sub_list_set
    have s2:isSubtype (.type (cond b "list" "tuple")) (.type "frozenset")=pure false:=by cases b;show F.sub_tuple_frozenset;show F.sub_list_frozenset
    have ne:(Value.type (cond b "list" "tuple")==Value.type "dict")=false:=by cases b<;>decide
    have C:pY b (s.heap.push (fP (!w.params.followText "set-order"))) l j:={_,X,(),P,()};have Y:∀(A:Around)(I t:Addr),A.handled=none->t≠I->Walks prog w A I [I,t] [I] j.size (λi v=>j[i]?=some v) (λi h=>qV b h I t i/\pY b h t j):=by
     cases b
     ·showλA I t q r=>Walks.tuple q I t r j
     ·showλA I t q r=>Walks.list q I t r j
    unfold Builtin.«set.__init__»noKeywords Builtin.Frozenset.updateFrom;generalize H:pyIter=PI;wp_walk;subst H;show AX C ?_;show a_ (wpAny_runValue ?_);have lt:l<s.heap.objs.size:=hY e;have sz:(s.heap.push (fP (!w.params.followText "set-order"))).objs.size=s.heap.objs.size+1:=ov ..;show CA n kOf (!w.params.followText "set-order") T ((Y A.in1.in1.in1 _ l (by simp[hh]) (by rw[sz];show ir (so lt))).toS) (a:=s.heap.objs.size) (by rw[sz];simp only[q_,op,E_,not_or];show{ir (si _),n_ lt}) key y z (j.size-0) 0 _ (by omega) (ku _) {{_,gg _ (),(),()},C.at λ_ e=>c_ _ e} ?f0 ?fR
    case f0=>have g:((s.heap.push (fP (!w.params.followText "set-order"))).push {cls:=.type (cond b "list_iterator" "tuple_iterator"),data:=.fields #[.ref l,.int 0 0]}).get? s.heap.objs.size=some (fP (!w.params.followText "set-order")):=c_ _ N;show{_,#[],0,_,g,{(),(),()},(),λe Z=>by simp at Z,OA _,by decide,by rfl,{(),λ_=>gp.few (ku _)}}
    case fR=>rintro⟨h',g',d',J,K⟩D f;obtain rfl:g'=s.gens:=D.gens;obtain rfl:d'=s.drawn:=D.drawn;obtain rfl:K=s.os:=D.os;change wpAny _ _ _ _ _ _;show fx (show wpAny _ _ (ret Value.none) _ _ _ from fx {(),h',J,(),f,λb o q=>?_});have b1:b<s.heap.objs.size:=hY q;show D.heap b o (by rw[sz];simp only[q_,op,E_,not_or];show{ir b1,ir (so b1)}) (c_ _ (c_ _ q))
   ·cases B with|error e=>show m|ok x=>cases x with|ret r=>
      obtain⟨rfl,h',tk,rfl,f,kk⟩:=m
      (repeat(any_goals(first|assumption|wp_step)));show k _ _ f kk|_=>show m.elim
  |_=>show G.elim
end
section
variable{prog:O7}{w:World}{A:Around}{E:O3}{s:Shared}
def DC(hh:A.handled=none)(j:fT s.heap a es ep t)(hn:es.size<=sizeLine)(l:w.params.followText "set-order"=false->t.led=true)(n:t.plain=true->gp t.place)(h:∀(h1:Heap)(d:Drawn)(tk:Nat)(c:O6),c.Perm (es.toList.map (·.2))->(∀b o,s.heap.get? b=some o->h1.get? b=some o)->s.heap.objs.size<=h1.objs.size->(h1.push (seqObj "list" c.toArray 0)).get? h1.objs.size=some (seqObj "list" c.toArray 0)->wpAny (model prog w) A.in1.in1 (Builtin.«list.sort» {[.ref h1.objs.size],[]}) (λfin f=>∃v,fin=.done (.ret v)/\Q (.ref h1.objs.size) f) E {s with heap:=h1.push (seqObj "list" c.toArray 0),drawn:=d,toks:=tk}):wpAny (model prog w) A (call (.builtin "sorted") [.ref a]) Q E s:=by
 show NT kind_sorted plain_sorted entry_sorted (args_sorted1 _) ?_;unfold Builtin.«sorted»;show a_ (m:=checkCount "sorted" 1 1 _) (fx ?_);show a_ (zw (A:=A.in1) hh j hn l n λh1 d tk c i k p=>?_);have r:c.length=es.size:=by rw[i.length_eq,b_,kw]
 show a_ (N3 ?_ (by rw[r];show hn));have g:(h1.push (seqObj "list" c.toArray 0)).get? h1.objs.size=some (seqObj "list" c.toArray 0):=gg _ ();show a_ (oa (ol slot_list_sort (s:={s with heap:=h1.push (seqObj "list" c.toArray 0),drawn:=d,toks:=tk}) {_,g,()} OX (wpAny_mono (h h1 d tk c i k p g) (λfin f x=>?_) λ_ _ e=>e) (args_list_sort _)));obtain⟨v,rfl,q⟩:=x;show{v,(),fx {_,(),q}}
def zn{h1:Heap}{vs:O6}{out:O_}:(∀b o,h1.get? b=some o->(sortedHeap (h1.push (seqObj "list" vs.toArray 0)) h1.objs.size vs out).get? b=some o)/\∃e,(sortedHeap (h1.push (seqObj "list" vs.toArray 0)) h1.objs.size vs out).get? h1.objs.size=some (seqObj "list" out e):=by have g:(h1.push (seqObj "list" vs.toArray 0)).get? h1.objs.size=some (seqObj "list" vs.toArray 0):=gg _ ();show{λb o e=>?_,sortedHeap_at g};have a:b<h1.objs.size:=hY e;rw[sortedHeap_old (ir a) (by rw[ov];show so a)];show c_ _ e
end
def kOf:Value->bY|.int i _=>.inl i|.str x _=>.inr x|_=>.inl 0
def EF(P:O7)(w:World):∀(k:bY)(v:Value),(aR P w).is k v=true->kOf v=k:=λk v h=>by rcases cz h with⟨i,t,rfl,rfl⟩|⟨x,t,rfl,rfl⟩<;>rfl
abbrev xg(P:O7)(w:World)(q:Addr)(a:List bY):HO:=.ext λh=>jz (aR P w) kOf (!w.params.followText "set-order") h q a
theorem aO.drawn(I:aO X a c H s)(d:Drawn):aO X a c H {s with drawn:=d}:=(I.ok,I.os,I.bare,I.base,I.loc,I.cell,I.free,I.freeC,I.pin,I.hok,I.len,)
theorem vY:∀{a:O6}{c:O8},StrsAre a c->a0 (c.map V.str) a|_,_,.nil=>.nil|_,_,.cons x t h=>.cons {t,()} (vY h)
def HF(b:Bool)(K:O2)(H:Hp)(p:Addr)(a:List V):Prop:=cond b (aS K H p a) (aY K H p a)
def aO.sqE{X:Cx}{c:O4}{g:St}{H:Hp}{s:Shared}{b:Bool}{p:Addr}{e:List V}(I:aO X c g H s)(h:HF b X.K H p e):∃a,a0 e a/\pY b s.heap p a.toArray/\∀d,HF b X.K H p d->d=e:=by cases b with|false=>obtain⟨a,f,p,_⟩:=I.tuple h;show{a,f,p,λd q=>I.tuple_inj q h}|true=>obtain⟨a,f,p,_⟩:=I.list h;show{a,f,p.isList,λd q=>I.list_inj q h}
section
variable{X:Cx}
def wS{b:Bool}(hc:X.calm=true):df X (.type "set") (λj H Q=>∃(p:Addr)(a:List bY),j=[.ref p]/\HF b X.K H p (a.map kV)/\a.length<4000/\∀q,H q=none->Q (.ref q) (aH H q (xg X.prog X.w q (dd a)))):=by
 intro k s C H j D Q I r h;obtain⟨p,a,rfl,t,l,q⟩:=h;obtain⟨u,rfl,y⟩:=jk r;cases y;obtain⟨c,m,pl,E⟩:=I.sqE t;have n:=m.length;rw[b_]at n;show zi (aR X.prog X.w) kOf (EF _ _) (key:=λi=>a.getD i (.inl 0)) (I.ok.hd hc) pl (λi v d=>?_) (by rw[h_];unfold scanBound;omega) λh' tk f A=>?_
 ·have d:c[i]?=some v:=by simpa using d
  have hi:i<c.length:=(d_.mp d).1;obtain⟨u,h1,h2⟩:=m.get (i:=i) (x:=kV (a[i]'(by lia))) (by rw[ge,ga (by lia)];rfl);rw[d]at h1;cases h1;have e:a.getD i (.inl 0)=a[i]'(by lia):=by simp[List.getD,ga (show i<a.length by lia)]
  change(aR X.prog X.w).is (a.getD i (.inl 0)) v=true/\_;rw[e,Ap];show G8 h2
 ·rw[show c.toArray.size=a.length by rw[h_];show n.symm,GW]at f;show{.ref s.heap.objs.size,_,I.laid (h':=h') (t':=tk) (o:=xg X.prog X.w s.heap.objs.size (dd a)) A (e_ _) {f,?_,λh1 h2 g B=>g.keep B},(),q _ (I.hok.fresh (e_ _))};obtain⟨o,_,_,_,e,_⟩:=f.ex;show(o,e,)
def CJ:df X (.builtin "len") (λc H Q=>∃(p:Addr)(a:List bY),c=[.ref p]/\H p=some (xg X.prog X.w p a)/\a.length<=4096/\Q (.int a.length) H):=by
 intro b s k H c l Q I r h;obtain⟨p,a,rfl,d,hn,q⟩:=h;obtain⟨u,rfl,g⟩:=jk r;cases g;obtain⟨f,_,_⟩:=I.hok p _ d;obtain⟨o,es,ep,t,e,ex,hd,_,pm,_,i,_⟩:=f.ex;have j:es.size=a.length:=by rw[<-pm.length_eq,b_,kw]
 show call_len_set e ex hd i (by omega) {.int _,H,I.tok _,{_,()},?_};rw[j];show q
def Jg(f:jz (aR P w) kOf led h a c):∃es ep t,fT h a es ep t/\es.size=c.length/\(es.toList.map λe=>kOf e.2).Perm c/\qR led t/\∀e∈es.toList,nz (kOf e.2) e.2=true:=by obtain⟨o,es,ep,t,e,ex,hd,b,pm,_,d,g⟩:=f.ex;show{es,ep,t,{(o,e,ex.1,hd,),d},by rw[<-pm.length_eq,b_,kw],pm,g,λx i=>?_};obtain⟨⟨k,h1,_⟩,_⟩:=b x i;rw[EF P w k x.2 h1];show h1
variable{P:O7}{w:World}
def uM(K:O2)(c:X.K=K)(hc:X.calm=true)(d:X.prog=P:=by rfl)(e:X.w=w:=by rfl):df X (.type "set") (λf H Q=>∃(p:Addr)(a:List bY),f=[.ref p]/\aS K H p (a.map kV)/\a.length<4000/\∀q,H q=none->Q (.ref q) (aH H q (xg P w q (dd a)))):=by subst c;subst d;subst e;show wS (b:=true) hc
def AL(K:O2)(c:X.K=K)(hc:X.calm=true)(d:X.prog=P:=by rfl)(e:X.w=w:=by rfl):df X (.type "set") (λf H Q=>∃(p:Addr)(a:List bY),f=[.ref p]/\aY K H p (a.map kV)/\a.length<4000/\∀q,H q=none->Q (.ref q) (aH H q (xg P w q (dd a)))):=by subst c;subst d;subst e;show wS (b:=false) hc
def uN(c:X.prog=P:=by rfl)(d:X.w=w:=by rfl):df X (.builtin "len") (λe H Q=>∃(p:Addr)(a:List bY),e=[.ref p]/\H p=some (xg P w p a)/\a.length<=4096/\Q (.int a.length) H):=by subst c;subst d;show CJ
end
section
variable{prog:O7}{w:World}{A:Around}{E:O3}{s:Shared}
def mL(a b:Str):Prop:=¬b.cps.toList<a.cps.toList
def vb(g:StrsAre d v)(h:a.Perm (pairsOf d))(n:SortedToK strKind a (pairsOf d).size):∃c,StrsAre (a.map (·.2)).toList c/\c.Perm v/\c.Pairwise mL:=by
 obtain⟨o,h1,h2,_⟩:=sorted_out_str g h n;show{o,h1,h2,?_};have z:a.toList.Perm (d.zip d):=by rw[<-pairsOf_toList];show Array.perm_iff_toList_perm.mp h
 have b:∀p,p∈a.toList->p.1=p.2/\p.1∈d:=λp k=>mem_zip_self (z.mem_iff.mp k);have e:o=a.toList.map λp=>strOf p.2:=by rw[<-h1.strs,OT,qr];rfl
 rw[e,List.pairwise_iff_getElem];intro i j hi B l;have m:i<a.size:=by simpa using hi
 have f:j<a.size:=by simpa using B
 have q:=n i j (sT l) (by rw[<-h.size_eq];show f);obtain⟨x,t,ex⟩:=g.all _ (b a[i] (by simp)).2;obtain⟨y,u,r⟩:=g.all _ (b a[j] (by simp)).2;rw[KK_str m (x:=x) (t:=t) (q:=a[i].2) (Prod.ext ex ()),KK_str f (x:=y) (t:=u) (q:=a[j].2) (Prod.ext r ())]at q
 change decide (y.cps.toList<x.cps.toList)=false at q
 simp only[OS,Array.getElem_toList];have C:strOf a[i].2=x:=by rw[<-(b a[i] (by simp)).1,ex];rfl
 have D:strOf a[j].2=y:=by rw[<-(b a[j] (by simp)).1,r];rfl
 unfold mL;rw[C,D];show NN q
def sY(hh:A.handled=none)(q:fT s.heap a es ep t)(r:es.size<64)(u:w.params.followText "set-order"=false->t.led=true)(y:t.plain=true->gp t.place)(B:∀e∈es.toList,∃x t,e.2=Value.str x t)(h:∀(D:Addr)(h':Heap)(C:Drawn)(tk e:Nat)(out:O6)(f:O8),s.heap.objs.size<=D->(∀b o,s.heap.get? b=some o->h'.get? b=some o)->h'.get? D=some (seqObj "list" out.toArray e)->StrsAre out f->f.Perm (es.toList.map λe=>strOf e.2)->f.Pairwise mL->Q (.ref D) {s with heap:=h',drawn:=C,toks:=tk}):wpAny (model prog w) A (call (.builtin "sorted") [.ref a]) Q E s:=by
 show DC hh q (by rw[g8];lia) u y λh1 F tk c i G H g=>?_;have O:c.length=es.size:=by rw[i.length_eq,b_,kw]
 have j:StrsAre c (c.map strOf):=strsAre_map c λv hm=>by obtain⟨e,I,rfl⟩:=ji.mp (i.mem_iff.mp hm);show B e I
 show list_sort_treeK strKind_oneLt g j.keysOf (λn p ql e=>keyKind_strs (by rw[<-e];show j)) (by lia) λd k l=>{_,(),?_};obtain⟨m,J,K,L⟩:=vb j k l;obtain⟨M,e,N⟩:=zn (h1:=h1) (vs:=c) (out:=(arrOf d).map (·.2));show h h1.objs.size _ F tk e ((arrOf d).map (·.2)).toList m H (λb o z=>M b o (G b o z)) ?_ J (K.trans ?_) L
 ·rw[Array.toArray_toList];show N
 ·have:=i.map strOf;rw[qr]at this;show this
end
section
variable{X:Cx}
def zz(hc:X.calm=true):df X (.builtin "sorted") (λj H Q=>∃(p:Addr)(a:O8),j=[.ref p]/\H p=some (xg X.prog X.w p (a.map Sum.inr))/\a.length<64/\∀(q:Addr)(c:O8),H q=none->c.Perm a->c.Pairwise mL->Q (.ref q) (aH H q (.lst (c.map V.str)))):=by
 intro l s M H j N Q I r h;obtain⟨p,a,rfl,B,hn,q⟩:=h;obtain⟨u,rfl,C⟩:=jk r;cases C;obtain⟨f,_,_⟩:=I.hok p _ B;obtain⟨es,ep,t,E,m,pm,n,F⟩:=Jg f;rw[b_]at m;have v:∀e∈es.toList,∃x t,e.2=Value.str x t:=λe d=>by
  have hm:kOf e.2∈a.map Sum.inr:=pm.mem_iff.mp (ji.mpr {e,d,()});obtain⟨x,_,b⟩:=ji.mp hm;rcases cz (F e d)with⟨i,t,h1,h2⟩|⟨y,t,h1,h2⟩
  ·rw[h1]at b;cases b
  ·show(y,t,h2,)
 show sY (I.ok.hd hc) E (by lia) (λz=>by rw[n.led,z];rfl) n.up v λD h' G tk e out c A J g sa sp K=>?_;have sl:c.length=a.length:=by rw[sp.length_eq,b_,kw,m]
 have ex:(es.toList.map λe=>strOf e.2).Perm a:=by
  have h1:=pm.map (λk:bY=>match k with|.inr x=>x|.inl _=>({#[]}:Str));rw[qr,qr]at h1;have L:(a.map ((λk:bY=>match k with|.inr x=>x|.inl _=>({#[]}:Str))∘Sum.inr))=a:=by rw[show((λk:bY=>match k with|.inr x=>x|.inl _=>({#[]}:Str))∘Sum.inr)=id from (),OU]
  rw[L]at h1;show(O0 (w_ λe d=>?_)).trans h1;obtain⟨x,t,b⟩:=v e d;rw[b];change strOf (Value.str x t)=(match kOf e.2 with|.inr x=>x|.inl _=>({#[]}:Str));rw[b];rfl
 show{.ref D,_,(I.drawn G).laid (h':=h') (t':=tk) (o:=.lst (c.map V.str)) J A {?_,out,e,vY sa,g},(),q D c (I.hok.fresh A) (sp.trans ex) K};rw[b_,sl,g8];lia
def xN(hc:X.calm=true)(d:X.prog=P:=by rfl)(e:X.w=w:=by rfl):df X (.builtin "sorted") (λf H Q=>∃(p:Addr)(a:O8),f=[.ref p]/\H p=some (xg P w p (a.map Sum.inr))/\a.length<64/\∀(q:Addr)(c:O8),H q=none->c.Perm a->c.Pairwise mL->Q (.ref q) (aH H q (.lst (c.map V.str)))):=by subst d;subst e;show zz hc
end
end L2
namespace L2
open PySem PySem.W PyProof.Rows
def vS(P:O7)(w:World):zM:=λouter H s E e a=>∃(d:Addr)(C:Value)(B:Heap)(t:Addr)(c:Hp),e=.ref d/\a.os=s.os/\AllBare a.gens/\Un (jK outer) [] H c s.heap a.heap/\lC P w c a.heap/\Heap.FlyingW B outer d C (.ref t) a.heap/\(∀b o,c b=some o->∃u,B.get? b=some u)/\(∀b o,s.heap.get? b=some o->b∉jK outer->∃u,B.get? b=some u)/\E C none c
def zo(h:env.frame=some L):jK (env::l)=L::jK l:=by unfold jK;rw[rm,h]
def lC.flown{P:O7}{w:World}{H:Hp}{h h' B:Heap}(x:lC P w H h)(c:∀b o,H b=some o->∃u,B.get? b=some u)(k:B.StaysIn h)(l:B.StaysIn h'):lC P w H h':=λa o e=>(x a o e).stay (λb u d q=>by
  obtain⟨f,g⟩:∃f,H b=some f:=by
   rcases d with rfl|d
   ·show{_,e}
   ·show{_,d}
  obtain⟨v,i⟩:=c b f g;have j:=k b v i;rw[q]at j;cases j;show l b _ i) (λ_ q=>q) λ_ _ q=>q
section
variable{P:O7}{w:World}{K:O2}{mg:O5}{base:Heap}{N:O8}{a:Str}{scope:Scope}{f:Addr}{cd:Value}{A:Around}{outer:List Env}{c:Shared}{d:Hp}{E:XK}
def iz:mq (vS P w) (qJ (vS P w) P w K mg base N a scope f cd A outer c d E) E:=by
 rintro O X H s e G I⟨J,C,B,t,Q,rfl,os,bare,un,hok,r,m,h,q⟩;have v:(envOfC a scope c.heap.objs.size f cd).frame=some c.heap.objs.size:=();have x:jK (envOfC a scope c.heap.objs.size f cd::outer)=c.heap.objs.size::jK outer:=zo v;have j:Un (jK outer) [] d H c.heap s.heap:=I.base;have un:Un (jK (envOfC a scope c.heap.objs.size f cd::outer)) [] H Q s.heap G.heap:=un;have h:∀b o,s.heap.get? b=some o->b∉jK (envOfC a scope c.heap.objs.size f cd::outer)->∃u,B.get? b=some u:=h;have r:Heap.FlyingW B (envOfC a scope c.heap.objs.size f cd::outer) J C (.ref t) G.heap:=r;have y:∀b o,c.heap.get? b=some o->b∉jK outer->b∉jK (envOfC a scope c.heap.objs.size f cd::outer):=λb o e g hm=>by
  rw[x]at hm;rcases q_.mp hm with rfl|hm
  ·show absurd (hY e) (o_ _)
  ·show g hm
 have p:∀b o,c.heap.get? b=some o->b∉jK outer->∃u,B.get? b=some u:=λb o e g=>by obtain⟨L,i⟩:=j.there b o e (by simp);show h b L i (y b o e g)
 change wpAny (model P w) (A.deeper (envOfC a scope c.heap.objs.size f cd)) (leaving (envOfC a scope c.heap.objs.size f cd) (.ref J)) _ _ G;show wpAny_leaves_onW (outer:=outer) I.ok.frames v r λh' k up=>?_;show{J,C,B,t,Q,(),os.trans I.os,bare,?_,hok.flown m r.1 k.1,k,m,p,q};have slot:∀b o,c.heap.get? b=some o->d b=none->b∈jK outer->∃sl,h'.get? b=some {o with slots:=sl}:=λb o e n g=>by
  obtain⟨sl,i⟩:=j.slot b o e n g (by simp);have n1:=j.free b o e n (by simp);obtain⟨T,z⟩:=un.slot b _ i n1 (by rw[x];show il _ g) (by simp);obtain⟨_,R,l,hd⟩:=I.ok.funs.mem g;have:R=o:=by have l:c.heap.get? b=some R:=l;rw[e]at l;show(j1 l).symm
  subst this;obtain⟨M,D⟩:=up b _ z hd;show(M,D,)
 show{λb o e n g _=>?_,λb o e n g _=>slot b o e n g,λb o e n _=>?_,λb o e _=>?_,λb S e=>un.tups b S (j.tups b S e),λb o u e=>un.frzs b o u (j.frzs b o u e),λb U e=>?_}
 ·have i:=j.keep b o e n g (by simp);have n1:=j.free b o e n (by simp);have z:=un.keep b o i n1 (y b o e g) (by simp);obtain⟨u,F⟩:=p b o e g;have D:=r.1 b u F;rw[z]at D;cases D;show k.1 b _ F
 ·obtain⟨L,i⟩:=j.there b o e (by simp);show un.free b L i (j.free b o e n (by simp)) (by simp)
 ·by_cases g:b∈jK outer
  ·have n:d b=none:=I.ok.frf b g;obtain⟨sl,i⟩:=slot b o e n g;show{_,i}
  ·obtain⟨u,F⟩:=p b o e g;show{u,k.1 b u F}
 ·obtain⟨V,i⟩:=j.tbls b U e;obtain⟨W,z⟩:=un.tbls b _ i;show{V++W,by rw[z,Array.append_assoc]}
end
def dh.held{P:O7}{w:World}{H:Hp}{h:Heap}{a:Addr}{o:HO}(x:dh P w H h a o):∃u,h.get? a=some u:=by cases o with|lst c=>obtain⟨_,_,_,_,e⟩:=x;show{_,e}|tup c=>obtain⟨_,_,_,_,e,_⟩:=x;show{_,e}|dK b=>obtain⟨_,_,_,_,o,_,_,e,_⟩:=x;show{_,e}|dT b=>obtain⟨_,_,_,_,o,_,_,e,_⟩:=x;show{_,e}|set S n=>obtain⟨o,_,_,_,e,_⟩:=x;show{_,e}|ins C dx fs=>obtain⟨_,_,_,e,_⟩:=x;show{_,e}|own y=>show x|xd fs=>obtain⟨_,⟨_,_,_,e,_⟩,_⟩:=x;show{_,e}|rng lo hi=>obtain⟨_,_,_,e⟩:=x;show{_,e}|frz ob u=>show{_,x.1}|tbl d=>show{_,(show h.get? a=some _ from x)}|met f y=>show{_,(show h.get? a=some _ from x)}|ext φ=>show x.2.1
def Fy(X:Cx)(E:XK):Prop:=∀(a:O4)(c:St)(H:Hp)(s:Shared)(C:Value)(d:O6)(h':Heap)(b:Addr),aO X a c H s->Heap.MadeExcOf s.heap h' b C d->E C none H->X.xe (.ref b) {s with heap:=h'}
section
variable{P:O7}{w:World}{K:O2}{mg:O5}{base:Heap}{N:O8}{a:Str}{scope:Scope}{f:Addr}{cd:Value}{A:Around}{outer:List Env}{c:Shared}{d:Hp}{E:XK}
def yH:Fy (qJ (vS P w) P w K mg base N a scope f cd A outer c d E) E:=by
 intro L V H s C W h' M I O q;have m:(envOfC a scope c.heap.objs.size f cd).frame=some c.heap.objs.size:=();have z:jK (envOfC a scope c.heap.objs.size f cd::outer)=c.heap.objs.size::jK outer:=zo m;have k:Un (jK outer) [] d H c.heap s.heap:=I.base;have p:∀b o,c.heap.get? b=some o->b∉jK outer->b∉jK (envOfC a scope c.heap.objs.size f cd::outer):=λb o e g hm=>by
  rw[z]at hm;rcases q_.mp hm with rfl|hm
  ·show absurd (hY e) (o_ _)
  ·show g hm
 generalize D:hideAll s.heap (jK (envOfC a scope c.heap.objs.size f cd::outer))=B;have l:∀{b o},s.heap.get? b=some o->b∉jK (envOfC a scope c.heap.objs.size f cd::outer)->B.get? b=some o:=λe g=>by rw[<-D];show hideAll_get _ e g
 have r:B.StaysIn s.heap:=λb o e=>by rw[<-D]at e;show of_hideAll _ e
 have fr:s.heap.FunFrames B (envOfC a scope c.heap.objs.size f cd::outer):=by rw[<-D];show funFrames_hide (base:=base) I.stack λenv R b g=>NP.mpr (env,R,g,)
 have v:∀b o,c.heap.get? b=some o->b∉jK outer->∃u,B.get? b=some u:=λb o e g=>by obtain⟨S,x⟩:=k.there b o e (by simp);show{S,l x (p b o e g)}
 have j:∀b o,H b=some o->∃u,B.get? b=some u:=λb o e=>by obtain⟨u,F⟩:=(I.hok b o e).held;show{u,l F λhm=>by have n:H b=none:=I.stkFree b hm;rw[e]at n;cases n}
 change wpAny (model P w) (A.deeper (envOfC a scope c.heap.objs.size f cd)) (leaving (envOfC a scope c.heap.objs.size f cd) (.ref M)) _ _ _;show wpAny_leaves_madeW (outer:=outer) (h:=s.heap) I.ok.frames m r fr O λG t y tup _ up=>?_;show{M,C,B,t,H,(),I.os,I.bare,?_,I.hok.flown j r y.1,y,j,v,q};have slot:∀b o,c.heap.get? b=some o->d b=none->b∈jK outer->∃sl,G.get? b=some {o with slots:=sl}:=λb o e n g=>by
  obtain⟨sl,x⟩:=k.slot b o e n g (by simp);have T:=O.keeps _ _ x;obtain⟨_,Q,i,hd⟩:=I.ok.funs.mem g;have:Q=o:=by have i:c.heap.get? b=some Q:=i;rw[e]at i;show(j1 i).symm
  subst this;obtain⟨J,U⟩:=up b _ T hd;show(J,U,)
 show{λb o e n g _=>?_,λb o e n g _=>slot b o e n g,λb o e n _=>k.free b o e n (by simp),λb o e _=>?_,k.tups,k.frzs,k.tbls}
 ·show y.1 b o (l (k.keep b o e n g (by simp)) (p b o e g))
 ·by_cases g:b∈jK outer
  ·obtain⟨sl,x⟩:=slot b o e (I.ok.frf b g) g;show{_,x}
  ·obtain⟨u,F⟩:=v b o e g;show{u,y.1 b u F}
end
def xa:List Value:=[.type "ValueError",.type "Exception",.type "BaseException",.type "object"]
def va(K:O2)(C:Addr):Prop:=excIn K C xa "ValueError.__new__"=true
theorem va.at{K:O2}{C:Addr}{h:Heap}(kin:K.In h)(x:va K C):∃j N nm q bs hd f sub g d dd r s t u v l,h.get? C=some (excClassObj nm q C N bs j hd f sub g d dd r s t u v "ValueError.__new__")/\h.Ns N l/\l "__init__"=none/\OwnTail h xa j:=by
 unfold va excIn at x
 split at x
 ·rename_i dd c sl look
  split at x
  ·rename_i D tl k m n o w p a slots;simp only[k_,beq_iff_eq,Bool.not_eq_true']at x;obtain⟨⟨⟨⟨⟨y,z⟩,del⟩,i⟩,b⟩,e⟩:=x;subst y z;rcases c with⟨nm,bs,A,ns,B,hd,f,sub,g,d,dl⟩;dsimp only at a del b e;subst a;subst del;obtain rfl:sl=#[k,m,n,o,some (.builtin "ValueError.__new__"),p]:=by rcases sl with⟨list⟩;show pa Array.mk slots
   show{tl,ns,nm,B,bs,hd,f,sub,g,d,dd,k,m,n,o,p,_,kin _ _ look,.of_isNs (isNs_of_in kin b),nsMap_none_of_in kin b e,tail_of_in kin i}
  ·cases x
 ·cases x
def ID(C:Addr)(E:XK)(t:TA):TS:=λ_ a H=>t a H λb c=>b.length<=sizeLine/\E (.ref C) none c
def yJ{X:Cx}{C:Addr}{E:XK}{x:Str}{R a g:Pos}{e:Expr}{es:O9}{t:TA}(S:va X.K C)(hg:Gl X x)(hm:X.mg x=some (.ref C))(hc:X.calm=true)(W:Fy X E)(Z:PA X (e::es) t)(i:(x==("__debug__":Str))=false:=by decide)(p:starEach (e::es) X.env=(false,eval e X.env)::starEach es X.env:=by rfl)(j:(backTo a (starEach es X.env)).any (·.1)=false:=by rfl):PS X (.Raise (some (.Call (.Name x R) (e::es) [] a)) none g) (ID C E t):=by
 intro c s u H D I h;obtain⟨v,N,nm,q,bs,hd,w,sub,y,d,dd,A,B,G,J,L,M,U,V,k,T⟩:=S.at I.mod.kin;show wpAny_Raise_call_subT (C:=C) (N:=N) (bm:=v) (mN:=M) (bmB:=xa) (newId:="ValueError.__new__") (nm:=nm) (q:=q) (bs:=bs) (hdct:=hd) (sn:=w) (sub:=sub) (ab:=y) (col:=d) (dd:=dd) (k0:=A) (k1:=B) (k2:=G) (k3:=J) (k5:=L) PySem.F.excBase_ValueError (T.hasType PySem.F.excBase_ValueError.hasBase) (I.ok.hd hc) ?_ k (mE I hg hm {(),?_} i)
 ·rw[p];change(false||(backTo a (starEach es X.env)).any (·.1))=false;rw[j];rfl
 ·have f:=Z a c s u H _ I h;rw[p]at f⊢;show t6 (cq f λP Q z0=>?_);obtain⟨vs,H1,I1,r,z,q1⟩:=z0;have n:∀b o,X.base.get? b=some o->Q.heap.get? b=some o:=I1.bk;show{(),by change P.length<=_;rw[<-r.length];show z,n _ _ U,V.keeps n,T.keeps n,λh' ea m=>W c u H1 Q (.ref C) P h' ea I1 m q1}
def Un.flown{fs:Pb}{H j:Hp}{h1 h' d B:Heap}(un:Un fs [] H j h1 h')(c:∀b o,h1.get? b=some o->b∉fs->∃u,B.get? b=some u)(k:B.StaysIn h')(l:B.StaysIn d)(up:h'.UpToSlots d)(fr:∀b∈fs,H b=none/\∀o,h1.get? b=some o->∀m,o.data≠.fields m):Un fs [] H j h1 d:=by
 have slot:∀b o,h1.get? b=some o->H b=none->b∈fs->∃sl,d.get? b=some {o with slots:=sl}:=λb o e n a=>by obtain⟨sl,h⟩:=un.slot b o e n a (by simp);obtain⟨i,f⟩:=up b _ h ((fr b a).2 o e);show(i,f,)
 show{λb o e n a p=>?_,λb o e n a _=>slot b o e n a,un.free,λb o e _=>?_,un.tups,un.frzs,un.tbls}
 ·have q:=un.keep b o e n a p;obtain⟨u,g⟩:=c b o e a;have f:=k b u g;rw[q]at f;cases f;show l b _ g
 ·by_cases a:b∈fs
  ·obtain⟨sl,h⟩:=slot b o e (fr b a).1 a;show{_,h}
  ·obtain⟨u,g⟩:=c b o e a;show{u,l b u g}
abbrev Cx.inExc(X:Cx)(a:Addr):Cx:={X with A:=X.A.mark (some (.ref a)),calm:=false,xe:=λ_ _=>False}
section
variable{X:Cx}{a:O4}{d:St}{H:Hp}{s:Shared}{c:Addr}
theorem Cx.Ok.inExc(ok:X.Ok)(c:Addr):(X.inExc c).Ok:={ok.mod,ok.kind,ok.glob,ok.blt,ok.above,ok.inj,ok.has,ok.cab,λz=>absurd z (by simp),ok.frames,ok.stk,ok.exf,ok.bs,ok.bsz,ok.noex,ok.exfs,ok.funs,ok.frf}
theorem aO.inExc(I:aO X a d H s)(c:Addr):aO (X.inExc c) a d H s:={I.ok.inExc c,I.os,I.bare,I.base,I.loc,I.cell,I.free,I.freeC,I.pin,I.hok,I.len}
def aO.outExc(ok:X.Ok)(I:aO (X.inExc c) a d H s):aO X a d H s:=(ok,I.os,I.bare,I.base,I.loc,I.cell,I.free,I.freeC,I.pin,I.hok,I.len,)
theorem SP.outExc(ok:X.Ok)(h:SP (X.inExc c) a D f g):SP X a D f g:=by cases f with|next=>obtain⟨b,e,I,q⟩:=h;show{b,e,I.outExc ok,q}|brk=>obtain⟨b,e,I,q⟩:=h;show{b,e,I.outExc ok,q}|cont=>obtain⟨b,e,I,q⟩:=h;show{b,e,I.outExc ok,q}|ret u=>obtain⟨v,b,e,I,r,q⟩:=h;show{v,b,e,I.outExc ok,r,q}
end
def mn(c:zM)(X:Cx)(E:XK)(a:O4)(d:St):Prop:=∀(H:Hp)(s:Shared)(e:Value)(b:Shared),aO X a d H s->c X.stack H s E e b->X.xe e b
def Mh(X:Cx)(a:O4)(c:St)(e:Expr)(t:TE):Prop:=∀(s:Shared)(H:Hp)(Q:VK),aO X a c H s->t c H Q->wpAny (model X.prog X.w) X.A (eval e X.env) (EP X a c Q) X.xe s
def Kt(X:Cx)(a:O4)(c:St)(st:Stmt)(t:TS):Prop:=∀(s:Shared)(H:Hp)(D:jP),aO X a c H s->t D c H->wpAny (model X.prog X.w) X.A (exec st X.env) (SP X a D) X.xe s
structure FF(X:Cx)(pins:O4)(σ:St)(ea:Addr)(C':Value)(H':Hp)(s:Shared):Prop where
 inv:aO X pins σ H' s
 fly:∃(B:Heap)(t:Addr),Heap.FlyingW B X.stack ea C' (.ref t) s.heap/\∀h6,B.StaysIn h6->s.heap.UpToSlots h6->aO X pins σ H' {s with heap:=h6}nh:H' ea=none
 src:∃(H1:Hp)(s1:Shared),aO X pins σ H1 s1/\s1.heap.get? ea=none
def FF.run{X:Cx}{a:O4}{d:St}{c:Addr}{m:Value}{e:Hp}{s:Shared}{D:jP}{b:List Stmt}{j:TS}{A:Around}{l:Flow->Shared->Prop}{n o:O3}(L:FF X a d c m e s)(hh:∀c,u5 (X.inExc c) b j)(g:j D d e)(p:∀f s,SP X a D f s->l f s):wpAny (model X.prog X.w) A (setFlight (.ref c) none) (λ_ s₁=>wpAny (model X.prog X.w) (X.A.mark (some (.ref c))) (execs b X.env) l n s₁) o s:=by obtain⟨B,t,q,k⟩:=L.fly;show lands_againW q λr h i=>wpAny_mono (hh c a _ d e D ((k r h.1 i).inExc c) g) (λf u z=>p f u (z.outExc L.inv.ok)) λ_ _ z=>z.elim
def FF.obj{X:Cx}{a:O4}{e:St}{c:Addr}{d:Value}{f:Hp}{s:Shared}(L:FF X a e c d f s):∃o,s.heap.get? c=some o/\o.cls=d:=by obtain⟨B,t,b,k⟩:=L.fly;show b.there
def Mi(X:Cx)(a:O4)(c:St)(bs:List Stmt)(t:TS):Prop:=∀(s:Shared)(H:Hp)(D:jP),aO X a c H s->t D c H->wpAny (model X.prog X.w) X.A (execs bs X.env) (SP X a D) X.xe s
def Jw{X:Cx}{a:O4}{c:St}{st:Stmt}{t:TS}(h:Kt X a c st t):Mi X a c [st] t:=λs H D I q=>OQ (cq (h s H D I q) λf b z=>by cases f with|next=>show NF z|ret v=>show z|brk=>show z|cont=>show z)
def C0{X:Cx}{bs:List Stmt}{h0:ExceptHandler}{Q:List ExceptHandler}{Z:XK->TS}{R:Value->Hp->Prop}{S:Pos}{a:O4}{s:Shared}{i:St}{H:Hp}{D:jP}(n:X.stack=X.env::X.outer)(F:X.env.frame=some X.env.locals)(P:∀(E:XK)(a:O4)(i:St)(Xe:O3),mn (vS X.prog X.w) (X.wish Xe) E a i->Mi (X.wish Xe) a i bs (Z E))(I:aO X a i H s)(h:Z (λj _ g=>R j g) D i H)(hc:∀c j g s5,R j g->FF X a i c j g s5->wpAny (model X.prog X.w) X.A (handleBy (.ref c) X.env (h0::Q)) (SP X a D) X.xe s5):wpAny (model X.prog X.w) X.A (exec (.Try bs (h0::Q) [] [] S) X.env) (SP X a D) X.xe s:=by
 show wpAny_Try_except ?_;have hp:mn (vS X.prog X.w) (X.wish λe s₁=>wpAny (model X.prog X.w) X.A (noteFrame e X.env) (λ_ G=>wpAny (model X.prog X.w) X.A (setFlight e none) (λ_ J=>wpAny (model X.prog X.w) X.A (handleBy e X.env (h0::Q)) (SP X a D) X.xe J) X.xe G) X.xe s₁) (λj _ g=>R j g) a i:=by
  rintro T p e q I1⟨c,j,B,t,g,rfl,os,bare,un,hok,r,l,d,U⟩;have I1:=I1.unwish;have un:Un (jK X.stack) [] T g p.heap q.heap:=un;have r:Heap.FlyingW B X.stack c j (.ref t) q.heap:=r;have d:∀b o,p.heap.get? b=some o->b∉jK X.stack->∃u,B.get? b=some u:=d;have x:∀b∈jK X.stack,T b=none/\∀o,p.heap.get? b=some o->∀V,o.data≠.fields V:=λb P=>by show{I1.stkFree b P,λo e=>?_};obtain⟨_,o',K,hd⟩:=I1.stack.mem P;rw[e]at K;cases K;show hd
  have Y:∀b u,B.get? b=some u->b≠c:=λb u e z=>by rw[z,r.2.1]at e;cases e
  have nh:g c=none:=by cases z:g c with|none=>rfl|some o=>show absurd () (Y _ _ (l _ _ z).choose_spec)
  have nw:p.heap.get? c=none:=by cases z:p.heap.get? c with|none=>rfl|some o=>
    by_cases F:c∈jK X.stack
    ·obtain⟨sl,e1⟩:=un.slot c o z (x c F).1 F (op);obtain⟨_,_,_,oe,V,_,_,_,he,_,hd,_⟩:=r;rw[he]at e1;cases e1;show absurd hd ((x c F).2 o z V)
    ·show absurd () (Y _ _ (d _ _ z F).choose_spec)
  have m:∀y,B.StaysIn y->q.heap.UpToSlots y->aO X a i g {q with heap:=y}:=λy k up=>I1.call' (s':={q with heap:=y}) (ch:=[]) os (un.flown d r.1 k up x) (hok.flown l r.1 k) bare λb z=>absurd z (by simp)
  change wpAny (model X.prog X.w) X.A (noteFrame (.ref c) X.env) _ X.xe q;have L:=r;rw[n]at L;show wpAny_looks_onW (outer:=X.outer) (by rw[I.ok.frames,n]) F L λh4 C M=>?_;show wpAny_landsW C λy N O=>hc c j g _ U {m y N.1 (M.trans O),{B,t,by rw[n];show N,λh6 k6 W=>m h6 k6 ((M.trans O).trans W)},nh,T,p,I1,nw}
 show wpAny_mono (P _ a i _ hp s H D (I.wish _) h) (λf p z=>?_) λ_ _ z=>z;have z:=z.unwish;cases f with|next=>show NF z|ret v=>show z|brk=>show z|cont=>show z
section
variable{X:Cx}{L:zM}{k:Nat}{f C:Addr}{fd:FuncData}{J:O8}{sp:Sp}{n:List V}{ds:O6}{E:XK}{x m:Str}{j B:Pos}{e o:Expr}{es:O9}{M:TE}{t:TA}{d:O4}{G:St}
def Jj(F:aP X.prog X.w X.K X.mg X.base L k f fd J sp)(c:eS k X.A)(g:fU X.K fd J ds)(hd:a0 n ds)(i:mn L X E d G)(I:aO X d G H s)(r:a0 vs us)(h:sp (vs++n) H Q E):wpAny (model X.prog X.w) X.A (call (.ref f) us) (EP X d G Q) X.xe s:=by
 have a:a0 (vs++n) (us++ds):=r.append hd;have len:(us++ds).length=J.length:=a.length▸F.len _ _ _ _ h;show wpAny_call (z7 (F.run X.A X.stack s H {us,[]} (us++ds) (vs++n) Q E c I.env0 (g s us I.kIn len) a h) λb l z=>?_);rcases b with ex|q
 ·show i H s ex l I z
 ·cases q with|ret u=>show I.after z|next=>cases z|brk=>cases z|cont=>cases z
def GV(P:PE X o M)(c:x9 X.K C)(hm:FE X.K C m f)(F:aP X.prog X.w X.K X.mg X.base L k f fd J sp)(R:eS k X.A)(S:fU X.K fd J ds)(hd:a0 n ds)(T:mn L X E d G)(Z:PA X (e::es) t)(i:starEach (e::es) X.env=(false,eval e X.env)::starEach es X.env:=by rfl)(y:(backTo j (starEach es X.env)).any (·.1)=false:=by rfl)(ht:eval (.Call (.Attribute o m B) (e::es) [] j) X.env=(do
   let obj<-eval o X.env
   standAt B.atName let(g,first)<-holding [obj] (getMethod obj m pl)callWith j g first (backTo j (starEach (e::es) X.env)) (backToKw j (keywordEach [] X.env))):=by rfl):Mh X d G (.Call (.Attribute o m B) (e::es) [] j) (C5 C m sp n E M t):=by intro s H Q I h;show PySem.W.methodCall_KW (pl:=pl) (cq (P d s G H _ I h) λu O⟨v,U,I1,Y,a,dx,fs,ev,ea,l,q⟩=>?_) ht;subst ev;cases(show u=Value.ref a from Y);show nY I1 ea c hm l (PySem.W.callWith_K (first:=[.ref a]) (h₀:=X.base) I.ok.mod.kin hm.kp (cq (Z j d O G U _ I1 q) λz s2⟨D,H2,N,r,q2⟩=>{N.kIn,?_}) i y);show Jj (us:=.ref a::z) (vs:=.ref a::D) F R S hd T N (.cons () r) q2
def Jh(c:X.N.Nodup)(hi:X.N[i]?=some x)(g:Kw X.env.scope x)(l:Mh X d G e te)(q:swapsWith e (some (.Name x a)) j.line X.env=pure false:=by rfl)(r:X.fn x=true\/X.env.scope.names.lookup x=some .local:=by first|show .inl ()|show .inr ()|assumption):Kt X d G (.Assign [.Name x a] e j) (yj te (ky i)):=by intro s H D I h;show wpAny_Assign_Name (cq (l s H _ I h) λv A⟨y,b,I1,u,w⟩=>sW I1 c hi g u (λF z=>{_,b,z,w}) r) q
end
theorem PS.nox{X:Cx}{st:Stmt}{t:TS}(h:PS X.nox st t):PS X st t:=λa s b H D I c=>wpAny_mono (h a s b H D (I.wish _) c) (λ_ _ q=>q.unwish) λ_ _ z=>False.elim z
section
variable{P:O7}{w:World}{K:O2}{mg:O5}{base:Heap}
def x8.okE{x a:Str}{st:Stmt}{f:Addr}{fd:FuncData}{N g:O8}{k:Nat}{sp:Sp}(F:x8 K x a st f fd)(S:av N g (ai st))(len:∀d H Q E,sp d H Q E->d.length=g.length)(e:∀(c:Value)(A:Around)(outer:List Env)(s:Shared)(H:Hp)(d:List V)(Q:VK)(E:XK),eS k (A.deeper (envOfC a (ai st) s.heap.objs.size f c))->sp d H Q E->∃t,u5 (qJ (vS P w) P w K mg base N a (ai st) f c A outer s H E) (gI st) t/\t {nx:=λ_ i=>Q .non i,rt:=Q} (iX N d) H):aP P w K mg base (vS P w) (k+1) f fd g sp:=by obtain⟨oc,n,kV,j,pm,o,c,ct,l,rfl,lk,b⟩:=F.ex;show HZ lk b S len λA outer s H d Q E m h=>e c A outer s H d Q E m h
end
def Hu(s:Stmt):List Stmt:=match s with|.ClassDef _ _ _ b _ _ _ _ _ _ _=>b|_=>[]
abbrev cj:=bY⊕List bY
section
variable(P:O7)(w:World)
def iD:cj->Int|.inl k=>(aR P w).hash k|.inr []=>hashW w.params .none|.inr (k::a)=>(tupleKind (aR P w)).hash (k::a)
def jI:cj->Nat|.inl _=>1|.inr a=>a.length+1
def kR(h:Heap)(k:cj)(v:Value):Prop:=match k with|.inl k=>(aR P w).is k v=true|.inr []=>v=.none|.inr (k::b)=>∃a,v=.ref a/\(tupleKind (aR P w)).is h (k::b) a
abbrev jO:=cj×Value×Value
def su(x:jO):DictEntry:={iD P w x.1,x.2.1,x.2.2}
end
section
variable{P:O7}{w:World}{A:Around}{E:O3}{s:Shared}
def kR.flat(x:kR P w h (.inl k) v):(∃i t,v=.int i t/\k=.inl i)\/∃z t,v=.str z t/\k=.inr z:=by have x:nz k v=true:=x;cases k with
 |inl i=>have x:Value.isInt i v=true:=x;cases v with|int j t=>simp[Value.isInt]at x;show .inl {_,_,(),by rw[x]}|_=>cases x
 |inr z=>have x:Value.isStrOf z v=true:=x;cases v with|str j t=>simp[Value.isStrOf]at x;show .inr {_,_,(),by rw[x]}|_=>cases x
def Ew(d:A.units<cLine)(c:kR P w s.heap k v)(q:Q (iD P w k) {s with toks:=s.toks+jI k}):wpAny (model P w) A (pyHash v) Q E s:=by match k,c,q with|.inl k,c,q=>show(aR P w).pyHash c q|.inr [],c,q=>cases c;show pyHash_slot (T:="NoneType") () F.slot_NoneType_hash F.entry_NoneType_hash (F.args_NoneType_hash_1 _) (beq_builtin_none _) (.inr (by omega)) (a_ (fx (a_ (wpAny_mkInt (fx {_,_,(),q})))))|.inr (k::e),c,q=>obtain⟨a,rfl,b⟩:=c;show(tupleKind (aR P w)).pyHash d b q
def Ma:SeqAt.EqAt A s .none .none true:=λprog w E Q a=>by unfold eqBool;show oa ?_;show r_ (λ_=>a_ (v_ (fx a))) (λz=>absurd (by decide) z)
def GY(f:A.units<cLine)(d:kR P w s.heap x u)(c:kR P w s.heap y v)(q:Q (decide (x=y)) s):wpAny (model P w) A (eqBool u v) Q E s:=by match x,d,q with
 |.inl x,d,q=>match y,c,q with
  |.inl y,c,q=>show(aR P w).eqBool d c (by simpa using q)|.inr [],c,q=>
   cases c;rw[j_ (by intro z;cases z)]at q;rcases kR.flat d with⟨i,t,rfl,_⟩|⟨z,t,rfl,_⟩
   ·show SeqAt.EqAt.int_none i t P w E Q q
   ·show SeqAt.EqAt.str_none z t P w E Q q|.inr (k::j),c,q=>
   obtain⟨a,rfl,o,g,n,e,hc,hd,hi⟩:=c;rw[j_ (by intro z;cases z)]at q;rcases kR.flat d with⟨i,t,rfl,_⟩|⟨z,t,rfl,_⟩
   ·show SeqAt.EqAt.int_tuple i t {_,e,hc,_,hd} f P w E Q q
   ·show SeqAt.EqAt.str_tuple z t {_,e,hc,_,hd} f P w E Q q
 |.inr [],d,q=>
  cases d
  match y,c,q with
  |.inl y,c,q=>
   rw[j_ (by intro z;cases z)]at q;rcases kR.flat c with⟨i,t,rfl,_⟩|⟨z,t,rfl,_⟩
   ·show SeqAt.EqAt.none_int i t P w E Q q
   ·show SeqAt.EqAt.none_str z t P w E Q q|.inr [],c,q=>cases c;rw[j2 ()]at q;show Ma P w E Q q|.inr (k::j),c,q=>obtain⟨a,rfl,o,g,n,e,hc,hd,hi⟩:=c;rw[j_ (by intro z;cases z)]at q;show SeqAt.EqAt.none_tuple {_,e,hc,_,hd} f P w E Q q
 |.inr (k::j),d,q=>
  obtain⟨a,rfl,h⟩:=d
  match y,c,q with
 |.inl y,c,q=>
   obtain⟨o,g,n,e,hc,hd,hi⟩:=h;rw[j_ (by intro z;cases z)]at q;rcases kR.flat c with⟨i,t,rfl,_⟩|⟨z,t,rfl,_⟩
   ·show SeqAt.EqAt.tuple_int i t {_,e,hc,_,hd} f P w E Q q
   ·show SeqAt.EqAt.tuple_str z t {_,e,hc,_,hd} f P w E Q q|.inr [],c,q=>cases c;obtain⟨o,g,n,e,hc,hd,hi⟩:=h;rw[j_ (by intro z;cases z)]at q;show SeqAt.EqAt.tuple_none {_,e,hc,_,hd} f P w E Q q|.inr (l::ls),c,q=>obtain⟨b,rfl,m⟩:=c;show(tupleKind (aR P w)).eqBool f h m (by simpa using q)
def Bk(c:kR P w s.heap k v)(q:Q true s):wpAny (model P w) A (eqIsQuiet 8 v) Q E s:=by match k,c with
 |.inl k,c=>
  rcases kR.flat c with⟨i,t,rfl,_⟩|⟨z,t,rfl,_⟩
  ·show fx q
  ·show fx q|.inr [],c=>cases c;show fx q|.inr (k::d),c=>obtain⟨a,rfl,b⟩:=c;show(tupleKind (aR P w)).quiet b q
theorem kR.inj(d:kR P w h x v)(c:kR P w h y v):x=y:=by match x,d with
 |.inl x,d=>match y,c with|.inl y,c=>rw[(aR P w).inj v x y d c]|.inr [],c=>cases c;rcases kR.flat d with⟨i,t,e,_⟩|⟨z,t,e,_⟩<;>cases e|.inr (k::f),c=>obtain⟨a,rfl,_⟩:=c;rcases kR.flat d with⟨i,t,e,_⟩|⟨z,t,e,_⟩<;>cases e
 |.inr [],d=>
  cases d
  match y,c with|.inl y,c=>rcases kR.flat c with⟨i,t,e,_⟩|⟨z,t,e,_⟩<;>cases e|.inr [],_=>rfl|.inr (k::f),c=>obtain⟨a,e,_⟩:=c;cases e
 |.inr (k::f),d=>
  obtain⟨a,rfl,g⟩:=d
  match y,c with|.inl y,c=>rcases kR.flat c with⟨i,t,e,_⟩|⟨z,t,e,_⟩<;>cases e|.inr [],c=>cases c|.inr (l::ls),c=>obtain⟨b,e,j⟩:=c;cases e;rw[(tupleKind (aR P w)).inj g j]
def GX{k:cj}{v:Value}{st:O6}{Q:Bool->Shared->Prop}(d:kR P w s.heap k v)(e:∀u∈st,∃a,kR P w s.heap a u)(q:Q false s):wpAny (model P w) A (tableMayTell v st) Q E s:=by
 unfold tableMayTell
 split
 ·show fx q
 ·show a_ (Bk d ?_);simp only[Bool.not_true,z3,Ny];show a_ (OP _ (λleft r b=>b=s/\r=(none,Unit.unit)/\∀u∈left,∃a,kR P w s.heap a u) _ ?_ ?_ _ _ {(),(),e})
  ·rintro u left r b⟨rfl,rfl,c⟩;obtain⟨a,f⟩:=c u i_;show a_ (Bk f ?_);simp only[Bool.not_true,z3,Ny];show fx {(),(),λz g=>c z (il _ g)}
  ·rintro r b⟨rfl,rfl,_⟩;show fx q
def LL{es:Array DictEntry}{a:List jO}(c:es.toList=a.map (su P w))(j:Nat):es[j]?=(a[j]?).map (su P w):=by rw[<-rV,c,ge]
def Eu{es:Array DictEntry}{a:List jO}(c:es.toList=a.map (su P w)):es.size=a.length:=by rw[<-kw,c,b_]
def Ev{a:List jO}(hn:(a.map (·.1)).Nodup){i j:Nat}{k:cj}{p q:Value×Value}(hi:a[i]?=some (k,p))(c:a[j]?=some (k,q)):i=j:=by
 have b:(a.map (·.1))[i]?=some k:=by rw[ge,hi];rfl
 have d:(a.map (·.1))[j]?=some k:=by rw[ge,c];rfl
 show(u_ (d_.mp b).1 hn).mp (b.trans d.symm)
def MY[Decidable c](h1:c->wpAny (model P w) A t Q E s)(h2:¬c->wpAny (model P w) A u Q E s):wpAny (model P w) A (if c then t else u) Q E s:=by
 by_cases h:c
 ·rw[g6 h];show h1 h
 ·rw[g_ h];show h2 h
def Kv(a:List jO)(k:cj)(s:Shared)(b:Option (Option Nat)×Option Nat)(c:Shared):Prop:=c=s/\((∃j p,b=(some (some j),none)/\a[j]?=some (k,p))\/(b.1=none/\((b.2=none/\∀(j:Nat)(p:Value×Value),a[j]?≠some (k,p))\/∃j p,b.2=some j/\a[j]?=some (k,p))))
def JT{h:List jO}{k:cj}{a:Pa}(hn:(h.map (·.1)).Nodup)(u:∀j p,h[j]?=some (k,p)->j∈a)(v:∀j∈a,∃y:jO,h[j]?=some y/\iD P w y.1=iD P w k)(m:a.Nodup)(f:Nat->Option (Option Nat)×Option Nat->Sem (ForInStep (Option (Option Nat)×Option Nat)))(h1:∀(x:Nat)(p:Value×Value)(R:ForInStep (Option (Option Nat)×Option Nat)->Shared->Prop),x∈a->h[x]?=some (k,p)->R (.done (some (some x),none)) s->R (.yield (none,some x)) s->wpAny (model P w) A (f x (none,none)) R E s)(h2:∀(x:Nat)(n:Option Nat)(y:jO)(R:ForInStep (Option (Option Nat)×Option Nat)->Shared->Prop),x∈a->h[x]?=some y->iD P w y.1=iD P w k->y.1≠k->R (.yield (none,n)) s->wpAny (model P w) A (f x (none,n)) R E s):wpAny (model P w) A (forIn a ((none,none):Option (Option Nat)×Option Nat) f) (Kv h k s) E s:=by
 show OP f (λleft b B=>B=s/\b.1=none/\∃pre,a=pre++left/\((b.2=none/\∀j∈pre,∀p,h[j]?≠some (k,p))\/∃j p,b.2=some j/\j∈pre/\h[j]?=some (k,p))) _ ?_ ?_ _ _ {(),(),[],(),.inl {(),by simp}}
 ·rintro x left⟨b1,b2⟩B⟨rfl,rfl,pre,o,t⟩;have i:x∈a:=by rw[o];simp
  have C:x∉pre:=λz=>by rw[o,m3]at m;show m.2.2 x z x i_ ()
  obtain⟨y,l,hh⟩:=v x i;have r:a=(pre++[x])++left:=by rw[o];simp
  by_cases e:y.1=k
  ·obtain⟨D,p⟩:=y;have e:D=k:=e;subst e;rcases t with⟨rfl,g⟩|⟨j,q,rfl,d,c⟩
   ·show h1 x p _ i l {(),.inl {x,p,(),l}} {(),(),pre++[x],r,.inr {x,p,(),by simp,l}}
   ·show absurd (Ev hn c l▸d) C
  ·show h2 x b2 y _ i l hh e {(),(),pre++[x],r,?_};rcases t with⟨rfl,g⟩|⟨j,q,rfl,d,c⟩
   ·show .inl {(),λj d p z=>?_};rcases List.mem_append.mp d with d|d
    ·show g j d p z
    ·rw[List.mem_singleton.mp d,l]at z;cases z;show e ()
   ·show .inr {j,q,(),np _ d,c}
 ·rintro⟨b1,b2⟩B⟨rfl,rfl,pre,o,t⟩;show{(),.inr {(),?_}};rcases t with⟨rfl,g⟩|⟨j,q,rfl,d,c⟩
  ·show .inl {(),λj p z=>g j ?_ p z};have:=u j p z;rw[o,nB]at this;show this
  ·show .inr {j,q,(),c}
def Ex{d:Addr}{o:Obj}{es:Array DictEntry}{ep:Nat}{u:List jO}{k:cj}{g:Value}{Q:Option Nat->Shared->Prop}(hu:A.units<cLine)(f:kR P w s.heap k g)(H:s.heap.get? d=some o)(hd:o.data=.dict es ep)(he:es.toList=u.map (su P w))(his:∀x∈u,kR P w s.heap x.1 x.2.1)(hn:(u.map (·.1)).Nodup)(B:(∀(j:Nat)(p:Value×Value),u[j]?≠some (k,p))->Q none s)(n:∀(j:Nat)(p:Value×Value),u[j]?=some (k,p)->Q (some j) s):wpAny (model P w) A (dictFind d g (iD P w k)) Q E s:=by
 have sz:=Eu he;have q:=LL he;generalize I:placesWithHash es.size (λi=>es[i]?.map (·.hash)) (iD P w k)=c;have Z:∀j p,u[j]?=some (k,p)->j∈c:=λj p l=>by
  rw[<-I];unfold placesWithHash;show wh.mpr {s_.mpr ?_,?_}
  ·rw[sz];show(d_.mp l).1
  ·change(es[j]?.map (·.hash)==some (iD P w k))=true;rw[q j,l];simp[su]
 have M:∀j∈c,∃y:jO,u[j]?=some y/\iD P w y.1=iD P w k:=λj l=>by rw[<-I]at l;unfold placesWithHash at l;obtain⟨h1,h2⟩:=wh.mp l;have h1:=s_.mp h1;rw[sz]at h1;show{u[j],ga h1,?_};have h2:(es[j]?.map (·.hash)==some (iD P w k))=true:=h2;rw[q j,ga h1]at h2;simpa[su]using h2
 have ad:c.Nodup:=by rw[<-I];show List.filter_sublist.nodup List.nodup_range
 have plain:wpAny (model P w) A (dictWalkPlain d g (iD P w k) es c) Q E s:=by
  unfold dictWalkPlain;show a_ (OP _ (λleft b s'=>s'=s/\b=(none,Unit.unit)/\∃pre,c=pre++left/\∀j∈pre,∀p,u[j]?≠some (k,p)) _ ?_ ?_ _ _ {(),(),[],(),by simp})
  ·rintro x left b s'⟨rfl,rfl,pre,hp,N⟩;obtain⟨⟨J,kv,v'⟩,m,hh⟩:=M x (by rw[hp];simp);have hex:es[x]?=some {iD P w J,kv,v'}:=by rw[q x,m];rfl
   rw[hex];dsimp only;rw[g6 (by rw[hh];simp)];show a_ (z4 H hd (a_ (GY (x:=J) (y:=k) hu (his _ (f_ m)) f (a_ (z4 H hd ?_)))));change wpAny (model P w) A (if(ep !=ep)=true then _ else _) _ E s';rw[g_ (by simp)]
   by_cases K:J=k
   ·rw[j2 K];subst K;show a_ (v_ (fx (fx (n x _ m))))
   ·rw[j_ K];show a_ (v_ (fx {(),(),pre++[x],by rw[hp];simp,λj l p z=>?_}));rcases List.mem_append.mp l with l|l
    ·show N j l p z
    ·rw[List.mem_singleton.mp l,m]at z;cases z;show K ()
  ·rintro b s'⟨rfl,rfl,pre,hp,N⟩;show fx (B λj p z=>N j ?_ p z);have:=Z j p z;rw[hp,nB]at this;show this
 have aa:∀v∈c.filterMap (λi=>es[i]?.map (·.key)),∃J,kR P w s.heap J v:=λv O=>by obtain⟨i,hi,O⟩:=NP.mp O;obtain⟨y,F,_⟩:=M i hi;rw[q i,F]at O;cases O;show{_,his y (f_ F)}
 unfold dictFind
 with_reducible show oa ?_
 show a_ (wpAny_dictEntries H hd ?_);dsimp only;rw[I];generalize a3:c.filterMap (λi=>es[i]?.map (·.key))=stored at aa⊢;have D:∀z t,g=.str z t->(es.all λe=>isExactStrKey e.key)=true->wpAny (model P w) A (foundByValue d g es z) Q E s:=by
  rintro z t rfl-;have ek:k=.inl (.inr z):=by
   cases k with|inl k=>
    rcases f.flat with⟨i,t',e,_⟩|⟨z',t',e,e2⟩
    ·cases e
    ·cases e;rw[e2]|inr ks=>cases ks with|nil=>cases f|cons k ks=>obtain⟨a,e,_⟩:=f;cases e
  have al:∀(j:Nat)(y:jO),u[j]?=some y->y.2.1.isStr z=true->y.1=k:=λj y F G=>by have h3:=his y (f_ F);show kR.inj h3 ?_;rw[ek];cases O:y.2.1 with
 |str z' t'=>
    rw[O]at G;have:z'=z:=by simpa[Value.isStr]using G
    rw[this];show rn P w z t'|_=>rw[O]at G;cases G
  have an:∀(j:Nat)(p:Value×Value),u[j]?=some (k,p)->p.1.isStr z=true:=λj p l=>by
   have h3:kR P w s.heap k p.1:=his _ (f_ l);rw[ek]at h3;rcases h3.flat with⟨i,t',_,e⟩|⟨z',t',e,e2⟩
   ·cases e
   ·cases e2;rw[e];simp[Value.isStr]
  unfold foundByValue;cases hf:es.findIdx? (λe=>e.key.isStr z)with
 |none=>
   show fx (B λj p l=>?_);have C:=Array.findIdx?_eq_none_iff.mp hf;have h4:es[j]?=some (su P w (k,p)):=by rw[q j,l];rfl
   have h5:=C _ (Array.mem_of_getElem? h4);have h6:p.1.isStr z=false:=by simpa[su]using h5
   rw[an j p l]at h6;cases h6|some i=>
   obtain⟨S,hi,_⟩:=Array.findIdx?_eq_some_iff_getElem.mp hf;have m:u[i]?=some (u[i]'(by rw[<-sz];show S)):=ga _;generalize u[i]'(by rw[<-sz];show S)=y at m;have hex:es[i]?=some (su P w y):=by rw[q i,m];rfl
   have ap:y.2.1.isStr z=true:=by rw[to S]at hex;rw[j1 hex]at hi;show hi
   have F:=al i y m ap;obtain⟨J,p⟩:=y;have F:J=k:=F;subst F;dsimp only;rw[hex];dsimp only;show a_ (z4 H hd (a_ (GY (x:=J) (y:=J) hu (his _ (f_ m)) f (a_ (z4 H hd ?_)))));rw[g_ (by simp),g6 (j2 ())];show a_ (v_ (fx (n i p m)))
 have L:∀a,g=.ref a->¬(es.any λe=>e.key==g&&e.hash !=iD P w k)=true:=by intro a ea;rw[<-Array.any_toList,he,Oh];rintro⟨e,as,hc⟩;obtain⟨y,F,rfl⟩:=ji.mp as;simp only[su,k_,beq_iff_eq,bne_iff_ne,ne_eq]at hc;have h3:=his y F;rw[hc.1]at h3;show hc.2 (by rw[h3.inj f])
 by_cases C:((g::stored).all carriedByValue)=true
 ·rw[g6 C]
  split
  ·rename_i z t
   split
   ·rename_i G;show D z t () G
   ·show plain
  ·show plain
 ·rw[g_ C];have T:(∃i t,g=.int i t)\/(∃z t,g=.str z t)\/(∃a,g=.ref a)\/g=.none:=by
   cases k with|inl k=>
    rcases f.flat with⟨i,t,e,_⟩|⟨z,t,e,_⟩
    ·show .inl (i,t,e,)
    ·show .inr (.inl (z,t,e,))|inr ks=>cases ks with|nil=>show .inr (.inr (.inr f))|cons k ks=>obtain⟨a,e,_⟩:=f;show .inr (.inr (.inl (a,e,)))
  have U:∀(x:Nat)(p:Value×Value),u[x]?=some (k,p)->∃e,es[x]?=some e/\e.hash=iD P w k/\kR P w s.heap k e.key:=λx p m=>{_,by rw[q x,m];rfl,(),his _ (f_ m)};have V:∀(x:Nat)(y:jO),u[x]?=some y->∃e,es[x]?=some e/\e.hash=iD P w y.1/\kR P w s.heap y.1 e.key:=λx y m=>{_,by rw[q x,m];rfl,(),his _ (f_ m)};rcases T with⟨i,t,e⟩|⟨z,t,e⟩|⟨a,e⟩|e
  case' inl=>subst e;dsimp only
  case' inr.inl=>
   subst e;dsimp only
   by_cases G:(es.all λe=>isExactStrKey e.key)=true
   case pos=>rw[g6 G];show D z t () G
   case' neg=>rw[g_ G]
  case' inr.inr.inl=>subst e;dsimp only;rw[g_ (L a ())]
  case' inr.inr.inr=>subst e;dsimp only
  all_goals show MY (λ_=>a_ (fx ?_)) (λ_=>a_ (GX f aa ?_))
  all_goals rw[g_ (by simp)];show a_ (wpAny_mono (JT (P:=P) (w:=w) hn Z M ad _ ?_ ?_) (λb s' z=>?_) λ_ _ z=>z)
  all_goals first
   |(obtain⟨b1,b2⟩:=b
     obtain⟨rfl,h⟩:=z;rcases h with⟨j,p,e,l⟩|⟨e,h⟩
     ·cases e;show fx (n j p l)
     ·have e:b1=none:=e;subst e;rcases h with⟨e,h⟩|⟨j,p,e,l⟩<;>(have e:b2=_:=e;subst e)
      ·show fx (B h)
      ·show fx (n j p l))
   |(intro x p R ax m r1 r2
     obtain⟨e,W,X,Y⟩:=U x p m;rw[W];dsimp only;rw[g6 (by rw[X];simp)];show a_ (z4 H hd (a_ (GY (x:=k) (y:=k) hu Y f (a_ (z4 H hd ?_)))));rw[g_ (by simp),g6 (j2 ()),g_ (by simp)];show a_ (v_ ?_)
     split
     ·show fx r1
     ·show fx r2)
   |(intro x a5 y R ax m hh a2 r
     obtain⟨e,W,X,Y⟩:=V x y m;rw[W];dsimp only;rw[g6 (by rw[X,hh];simp)];show a_ (z4 H hd (a_ (GY (x:=y.1) (y:=k) hu Y f (a_ (z4 H hd ?_)))));rw[g_ (by simp),g_ (by simp[a2])];show a_ (v_ ?_);rw[g_ (by simp)];show fx r)
def Bl{c:Type}{a:List (cj×c)}(hn:(a.map (·.1)).Nodup){j:Nat}{k:cj}{p:c}(d:a[j]?=some (k,p)):a.find? (λx=>decide (x.1=k))=some (k,p):=by
 rw[List.find?_eq_some_iff_append];obtain⟨g,e⟩:=d_.mp d;show{j2 (),a.take j,a.drop (j+1),?_,λy h=>?_}
 ·rw[<-e,List.getElem_cons_drop,ro]
 ·obtain⟨i,hi⟩:=ig.mp h;have b:i<j:=by have:=(d_.mp hi).1;rw[k4]at this;omega
  rw[N6 b]at hi;have:y.1≠k:=λz=>by
   have f:(a.map (·.1))[i]?=some k:=by rw[ge,hi,<-z];rfl
   have l:(a.map (·.1))[j]?=some k:=by rw[ge,d];rfl
   have:=(u_ (d_.mp f).1 hn).mp (f.trans l.symm);lia
  simp[this]
def wC{c:Type}{d:List (cj×c)}{k:cj}(h:∀(j:Nat)(p:c),d[j]?≠some (k,p)):d.find? (λx=>decide (x.1=k))=none:=by rw[OF];intro x b a;obtain⟨j,e⟩:=ig.mp b;have a:x.1=k:=l_ a;show h j x.2 (by rw[e,<-a])
structure jd(P:O7)(w:World)(h:Heap)(d:Addr)(ys:List jO):Prop where ok:∃o es ep,h.get? d=some o/\o.ExactDict/\o.data=.dict es ep/\es.toList=ys.map (su P w)nd:(ys.map (·.1)).Nodup
def fO{c a:Type}(d:List (cj×c×a))(k:cj):Option a:=(d.find? λy=>decide (y.1=k)).map (·.2.2)
def gq{a c:Type}(d:List (cj×a×c))(k:cj)(e:a)(v:c):List (cj×a×c):=if(fO d k).isSome then d.map λy=>if y.1=k then(y.1,y.2.1,v)else y else d++[(k,e,v)]
def LK{d:Addr}{e:List jO}{k:cj}{c:Value}{Q:Option Value->Shared->Prop}(f:A.units<cLine)(a:kR P w s.heap k c)(hm:jd P w s.heap d e)(his:∀x∈e,kR P w s.heap x.1 x.2.1)(q:Q (fO e k) {s with toks:=s.toks+jI k}):wpAny (model P w) A (dictGet d c) Q E s:=by
 obtain⟨o,es,ep,b,hc,hd,g⟩:=hm.ok;unfold dictGet
 with_reducible show oa ?_
 show a_ (Ew f a (a_ (Ex (s:={s with toks:=s.toks+jI k}) f a b hd g his hm.nd (λno=>?_) λj p h=>?_)))
 ·unfold fO at q;rw[wC no]at q;show fx q
 ·unfold fO at q;rw[Bl hm.nd h]at q;show a_ (wpAny_dictEntries (s:={s with toks:=s.toks+jI k}) b hd ?_);rw[LL g j,h];show fx q
def JU(a:List (cj×d×c))(k:cj)(v:c):(a.map λy=>if y.1=k then(y.1,y.2.1,v)else y).map (·.1)=a.map (·.1):=by
 rw[qr];show w_ λy _=>?_;change(if y.1=k then(y.1,y.2.1,v)else y).1=y.1
 split<;>rfl
def LJ{d:Addr}{f:List jO}{k:cj}{c v:Value}{Q:Unit->Shared->Prop}(t:A.units<cLine)(g:kR P w s.heap k c)(hm:jd P w s.heap d f)(his:∀x∈f,kR P w s.heap x.1 x.2.1)(u:f.length<sizeLine)(q:∀h',jd P w h' d (gq f k c v)->Heap.SameBut d s.heap h'->Q Unit.unit {s with heap:=h',toks:=s.toks+jI k}):wpAny (model P w) A (dictSet d c v) Q E s:=by
 obtain⟨o,es,ep,h,hc,hd,m⟩:=hm.ok;unfold dictSet
 with_reducible show oa ?_
 show a_ (Ew t g ?_);unfold dictSetHashed
 with_reducible show oa ?_
 show a_ (Ex (s:={s with toks:=s.toks+jI k}) t g h hd m his hm.nd (λno=>?_) λj p l=>?_)
 ·have n:gq f k c v=f++[(k,c,v)]:=by unfold gq fO;rw[wC no];rfl
  have B:k∉f.map (·.1):=λz=>by obtain⟨y,C,e⟩:=ji.mp z;obtain⟨j,l⟩:=ig.mp C;show no j y.2 (by rw[l,<-e])
  rw[n]at q;show a_ (v_ (wpAny_updateDictKeys (hz:=by have:=Eu m;omega) (s:={s with toks:=s.toks+jI k}) h hd (q _ {{_,_,ep+1,ry _ h (Obj.isFreed_of_dict (Obj.data_mapDictKeys hd _)),hc.mapDictKeys _,Obj.data_mapDictKeys hd _,?_},?_} (C1 ..))))
  ·rw[ON,m,gV];rfl
  ·rw[gV,m3];show{hm.nd,by simp,λa D b r e=>B ?_};have r:b=k:=List.mem_singleton.mp r;rw[<-r,<-e];show D
 ·have n:gq f k c v=f.map λy=>if y.1=k then(y.1,y.2.1,v)else y:=by unfold gq fO;rw[Bl hm.nd l];rfl
  rw[n]at q;show a_ (v_ (a_ (wpAny_updateDict (s:={s with toks:=s.toks+jI k}) h hd (wpAny_point (q _ {{_,_,ep,ry _ h (Obj.isFreed_of_dict (Obj.data_mapDict hd _)),hc.mapDict _,Obj.data_mapDict hd _,?_},by rw[JU];show hm.nd} (C1 ..))))));rw[Array.toList_modify,m];show vl λi=>?_;rw[List.getElem?_modify,ge,ge,ge];cases hi:f[i]?with|none=>by_cases e:j=i<;>simp[e]|some y=>
   by_cases e:j=i
   ·subst e;rw[l]at hi;cases hi;simp[su]
   ·have:y.1≠k:=λz=>e (Ev hm.nd l (q:=y.2) (by rw[hi,<-z]));simp[e,this]
def jd.type(hm:jd P w s.heap d c):s.TypeIs (.ref d) "dict":=let⟨o,_,_,a,hc,_⟩:=hm.ok;(o,a,hc.1,)
def jd.bare(hm:jd P w s.heap d c):∀b,Value.ref d=.ref b->∃ob,s.heap.get? b=some ob/\ob.dict=none:=λb e=>by cases e;obtain⟨o,_,_,a,hc,_⟩:=hm.ok;show(o,a,hc.2.1,)
def Ar(d:Addr)(a dflt:Value)(hd:(d==sysModules)=false):MeetsIn P w (Builtin.«dict.get» {[.ref d,a,dflt],[]}) (λA R s=>A.in1.units<cLine/\∃k c,kR P w s.heap k a/\jd P w s.heap d c/\(∀x∈c,kR P w s.heap x.1 x.2.1)/\R (.ok (.ret ((fO c k).getD dflt))) {s with toks:=s.toks+jI k}):=.of_wp λA R s⟨e,k,c,f,hm,hi,h⟩=>by change wpAny (model P w) _ (dictGet d a>>=_) _ _ s;show a_ (LK e f hm hi ?_);cases b:fO c k with|some v=>rw[b]at h;show fx {v,(),h}|none=>rw[b]at h;show a_ (wpAny_missed_other hd (fx {dflt,(),h}))
def Cm(f:A.in1.units<cLine)(c:kR P w s.heap k a)(hm:jd P w s.heap d e)(his:∀x∈e,kR P w s.heap x.1 x.2.1)(g:e.length<sizeLine)(q:∀h',jd P w h' d (gq e k a v)->Heap.SameBut d s.heap h'->Q Unit.unit {s with heap:=h',toks:=s.toks+jI k}):wpAny (model P w) A (setItem (.ref d) a v) Q E s:=by
 unfold setItem
 with_reducible show oa ?_
 show a_ (wpAny_sequenceKey hm.type (by decide) (a_ (o8 (name:=Str.ofString "__setitem__") hm.type slot_dict_setitem (ol slot_dict_setitem hm.type entry_dict_setitem ?_ (args_dict_setitem _ _ _)))));change wpAny (model P w) _ (Builtin.Dict.notOrdered "__setitem__" {[.ref d,a,v],[]}>>=_) _ _ s;show a_ (wpAny_notOrdered_dict hm.type ?_);change wpAny (model P w) A.in1 (dictSet d a v>>=_) _ _ s;show a_ (LJ f c hm his g λh' h1 h2=>fx {.none,(),fx (q h' h1 h2)})
end
abbrev gt:=cj×V×V
def qS(a:List gt)(c:List jO):Prop:=Paired (λ(p:gt)(q:jO)=>p.1=q.1/\aV p.2.1 q.2.1/\aV p.2.2 q.2.2) a c
abbrev dM(P:O7)(w:World)(d:Addr)(c:List gt):HO:=.ext λh=>(d==sysModules)=false/\∃a,qS c a/\jd P w h d a
def cZ(K:O2)(H:Hp)(k:cj)(v:V):Prop:=match k with|.inl k=>v=kV k|.inr []=>v=.non|.inr (k::b)=>∃a,v=.ref a/\aY K H a ((k::b).map kV)
def eL(K:O2)(H:Hp)(a:List gt):Prop:=∀x∈a,cZ K H x.1 x.2.1
def jd.keep(m:jd P w h1 d a)(k:∀o,h1.get? d=some o->h2.get? d=some o):jd P w h2 d a:=let⟨o,es,ep,e,r⟩:=m.ok;{{o,es,ep,k o e,r},m.nd}
def Id(hd:(d==sysModules)=false)(r:qS a ys)(m:jd P w h d ys):dh P w H h d (dM P w d a):={(hd,ys,r,m,),let⟨o,_,_,e,_⟩:=m.ok;(o,e,),λ_ _⟨h1,ys,h2,h3⟩k=>{h1,ys,h2,h3.keep k}}
def cZ.is(I:aO X f l H s)(h:cZ X.K H k v)(r:aV v u):kR X.prog X.w s.heap k u:=by cases k with|inl k=>have h:v=kV k:=h;subst h;show pL r|inr b=>cases b with|nil=>have h:v=.non:=h;subst h;show r|cons k b=>obtain⟨a,rfl,g⟩:=h;cases r;obtain⟨i,j,⟨o,e,c,n,d⟩,_⟩:=I.tuple g;show{a,(),o,_,n,e,c,d,qF j}
theorem qS.keys(I:aO X c g H s):∀{d:List gt}{e:List jO},qS d e->eL X.K H d->∀y∈e,kR X.prog X.w s.heap y.1 y.2.1
 |_,_,.nil,_,y,b=>nomatch b|_,_,.cons (a:=p) r t,k,y,b=>by
  rcases q_.mp b with rfl|b
  ·rw[<-r.1];show(k p i_).is I r.2.1
  ·show qS.keys I t (λx f=>k x (il _ f)) y b
theorem qS.val:∀{a:List gt}{c:List jO},qS a c->∀k,kD (fO a k) (fO c k)
 |_,_,.nil,_=>True.intro|p::a,q::c,.cons r t,k=>by
  unfold fO;rw[rd,rd,<-r.1]
  by_cases e:p.1=k
  ·rw[j2 e];show r.2.2
  ·rw[j_ e];show qS.val t k
def qS.put(h:qS c d)(g:aV i j)(f:aV v u):qS (gq c k i v) (gq d k j u):=by
 have a:(fO c k).isSome=(fO d k).isSome:=(h.val k).isSome_eq;unfold gq;rw[a]
 split
 ·rename_i hc;clear a hc
  induction h with|nil=>show .nil|@cons p q l m r t b=>
   show .cons ?_ b;dsimp only;rw[<-r.1]
   by_cases e:p.1=k
   ·rw[g6 e,g6 e];show{(),r.2.1,f}
   ·rw[g_ e,g_ e];show r
 ·rename_i hc;clear a hc
  induction h with|nil=>show .cons {(),g,f} .nil|cons r t b=>show .cons r b
def qS.len(h:qS a c):a.length=c.length:=Paired.length h
section
variable{X:Cx}{P:O7}{w:World}{o e f:Expr}{n g c:Pos}{j ty l:TE}
def IH(P:O7)(w:World):TE:=λ_ H Q=>∀p,H p=none->Q (.ref p) (aH H p (dM P w p []))
def DZ(d:X.prog=P:=by rfl)(i:X.w=w:=by rfl):PE X (.Dict [] [] n) (IH P w):=λb s k H Q I h=>by subst d i;show wpAny_Dict_empty {.ref s.heap.objs.size,_,I.laid (a:=s.heap.objs.size) (o:=dM X.prog X.w s.heap.objs.size []) (t':=s.toks) (λ_ _ q=>c_ _ q) (e_ _) ?_,(),h _ (I.hok.fresh (e_ _))};show Id (ys:=[]) (A_.mpr λz=>absurd (z▸I.big) (o_ _)) .nil {{_,#[],0,gg _ (),{(),(),()},(),()},NO}
def IF(K:O2)(P:O7)(w:World)(j ty l:TE):TE:=λd H Q=>j d H λx m=>∃a h,x=.ref a/\m a=some (dM P w a h)/\ty d m λy p=>l d p λz b=>∃i k,b a=some (dM P w a i)/\eL K b i/\cZ K b k y/\Q ((fO i k).getD z) b
def DY(K:O2)(B:X.K=K)(C:X.A.units+1<cLine)(D:PE X o j)(E:PE X e ty)(G:PE X f l)(m:M2 X o "get" g e f c)(J:X.prog=P:=by rfl)(L:X.w=w:=by rfl):PE X (.Call (.Attribute o "get" g) [e,f] [] c) (IF K P w j ty l):=by subst J L B;intro b s r H Q I h;show No m.base m.few m.line PySem.F.plainAttrs_dict PySem.F.slot_dict_get PySem.F.type_dict_get (cq (D b s r H _ I h) λu M i=>?_);obtain⟨x,N,I1,O,a,R,ex,d,S⟩:=i;subst ex;cases(show u=Value.ref a from O);obtain⟨⟨_,T,_,t⟩,_⟩:=I1.hok a _ d;show{t.type,t.bare,?_};rw[m.trees];show ri () (t6 (qx (cq (E b M r N _ I1 S) λiv U i=>?_)));obtain⟨y,V,Y,Z,q2⟩:=i;show qx (cq (G b U r V _ Y q2) λfv s3 i=>?_);obtain⟨z,H3,q,rz,xs,k,d3,ks,hk,q3⟩:=i;show vu ?_;obtain⟨⟨hd,ys,p,v⟩,_⟩:=q.hok a _ d3;show D_ PySem.F.slot_dict_get v.type PySem.F.entry_dict_get (PySem.F.args_dict_get_3 _ _ _) (Ar a iv fv hd) {C,k,ys,hk.is q Z,v,p.keys q ks,?_};show{_,H3,q.tok _,(p.val k).getD rz,q3}
def Ls(K:O2)(P:O7)(w:World):HE:=λo i v H Q=>∃a b k,o=.ref a/\H a=some (dM P w a b)/\eL K H b/\cZ K H k i/\b.length<sizeLine/\Q (aH H a (dM P w a (gq b k i v)))
def DM(K:O2)(x:X.K=K)(y:X.A.units+1<cLine)(z:X.prog=P:=by rfl)(B:X.w=w:=by rfl):HI X (Ls K P w):=by subst z B x;intro p s L H o i v M iv u Q I C r D h;obtain⟨a,N,k,rfl,d,E,F,G,q⟩:=h;cases C;obtain⟨⟨hd,O,b,m⟩,_⟩:=I.hok a _ d;show Cm y (F.is I r) m (b.keys I E) (by rw[<-b.len];show G) λh' t J=>?_;show{_,sN I (by rw[d];show True.intro) J (let⟨o,_,_,e,_⟩:=t.ok;(o,e,)) ?_,q};show Id hd (b.put r D) t
end
section
variable{X:Cx}{o e c:Expr}{f:Str}{j g:Pos}{l m:TE}
def aC(K:O2)(a:X.K=K)(d:PE X e l)(h:attributeBase e f X.env (eval e X.env)=eval e X.env:=by rfl):PE X (.Attribute e f j) (K9 K l f):=by subst a;show Jv d h
def cr(K:O2)(a:X.K=K)(d:PE X o l)(h:PE X c m)(i:swapsWith c (some (.Attribute o f g)) j.line X.env=pure false:=by rfl):PS X (.Assign [.Attribute o f g] c j) (Lo K l m f):=by subst a;show Jo d h i
def Lv:HE:=λo i v H Q=>∃a b k,o=.ref a/\i=kV k/\H a=some (.dK b)/\b.length<sizeLine/\Q (aH H a (.dK (fk b k v)))
def qi(n:X.A.units+1<cLine):HI X Lv:=by intro b s z H o i v B iv u Q I p r t h;obtain⟨a,w,k,rfl,rfl,d,x,q⟩:=h;cases p;show CC n I (HM.k d x) r t λC y=>{_,y,q}
end
section
variable{P:O7}{w:World}{A:Around}{E:O3}{s:Shared}
def ER(ty:s.TypeIs (.ref r) "list_reverseiterator")(q:Q false s):wpAny (model P w) A (Builtin.List.listLengthHint (.ref r)) Q E s:=by
 unfold Builtin.List.listLengthHint;show a_ (Oo (r:=none) ty (by rw[Op,Np];kernel_rfl) ?_);show r_ (λz=>absurd z (by decide+kernel)) (λ_=>?_);show r_ (λz=>absurd z (by decide)) (λ_=>?_);show a_ (Oo (r:=some (.builtin "list_reverseiterator.__length_hint__")) ty (by rw[Op,Np];kernel_rfl) ?_);generalize a:("list_reverseiterator.__length_hint__":String)=nm
 wp_delta
 rw[show splitId nm=some ("list_reverseiterator","__length_hint__")from by subst a;decide+kernel];subst a;show a_ (N9 (T:="list_reverseiterator") (b:=true) ty (by rw[Oy];kernel_rfl) ?_);show r_ (λz=>absurd z (by decide)) (λ_=>?_);show r_ (λ_=>?_) (λz=>absurd (by decide+kernel) z);show r_ (λz=>absurd z (by decide+kernel)) (λ_=>?_);show fx q
def Aa(hh:A.handled=none)(p:s.heap.IsRevIter r l ((a.size:Int)-1))(D:s.heap.IsList l a)(hn:a.size<=sizeLine)(t:l≠r)(n:S≠r)(u:S≠l)(d:Value)(y:Nat)(G:s.heap.get? S=some {cls:=.type "list",data:=.seq #[] y})(q:∀h' tk g c,(∀b o,b≠S->b≠r->s.heap.get? b=some o->h'.get? b=some o)->h'.get? S=some {cls:=.type "list",dict:=none,data:=.seq g c,slots:=#[]}->ItemsOf (λi v=>a[a.size-1-i]?=some v) g a.size->R (.ok (.ret d)) {s with heap:=h',toks:=tk}):wpAny (model P w) A.in1 (Builtin.List.listExtendWith (.ref S) (.ref r) d) (λfin j=>match fin with|.done f=>R (.ok f) j|.again B=>B.quiet=true/\codeAny (model P w) A B R j) (λe j=>R (.error e) j) s:=by
 have W:=Walks.listRev (prog:=P) (w:=w) (A:=A.in1) hh r l t a;have go:∀(h:Heap)(k tk:Nat),h.IsRevIter r l ((a.size:Int)-1)->h.IsList l a->(∀b o,b≠S->s.heap.get? b=some o->h.get? b=some o)->h.get? S=some {cls:=.type "list",data:=.seq #[] k}->codeAny (model P w) A (.builtin "list.extend.loop" {[.ref S,.ref r,d],[]}) R {s with heap:=h,toks:=tk}:=by
  intro h k tk x H I J;show codeAny_extend_loopS W.toS hn S (by simp[n,u]) d a.size 0 _ #[] k () (ku _) {ku _,by simpa using x,H} J (ItemsOf.nil _) λj g c C K L=>?_;rw[Moved.eq_with C];show q j.heap j.toks g c (λb o b1 b2 e=>C.heap b o (λm=>?_) (I b o b1 e)) K L;rcases q_.mp m with z|z
  ·show b1 z
  ·show b2 (List.mem_singleton.mp z)
 unfold Builtin.List.listExtendWith;show a_ (OG p.typeIs ?_);have ne:Builtin.List.listSameRef (.ref S) (.ref r)=false:=by simp[Builtin.List.listSameRef,n]
 have M:(Value.type "list_reverseiterator"==Value.type "list")=false:=by decide
 have N:(Value.type "list_reverseiterator"==Value.type "tuple")=false:=by decide
 simp only[ne,M,N,Bool.or_false,z3,Ny];show a_ (wpAny_pyIter_revIter p (a_ (oa (ER p.typeIs ?_))));show r_ (λz=>absurd z (by decide+kernel)) (λ_=>fx {Nv PySem.F.plain_extend_loop _,go s.heap y s.toks p D (λ_ _ _ e=>e) G})
def DP(hh:A.handled=none)(u:s.heap.IsRevIter r l ((items.size:Int)-1))(x:s.heap.IsList l items)(hn:items.size<=sizeLine)(f:l≠r)(q:∀h' tk a c,(∀b o,b≠r->s.heap.get? b=some o->h'.get? b=some o)->h'.get? s.heap.objs.size=some {cls:=.type "list",dict:=none,data:=.seq a c,slots:=#[]}->ItemsOf (λi v=>items[items.size-1-i]?=some v) a items.size->Q (.ref s.heap.objs.size) {s with heap:=h',toks:=tk}):wpAny (model P w) A (call (.type "list") [.ref r]) Q E s:=by
 show callType_codes (Q₁:=λobj k=>obj=.ref s.heap.objs.size/\k={s with heap:=s.heap.push {cls:=.type "list",data:=.seq #[]}}) PySem.F.called_list (PySem.F.typeCall_list_1 _) PySem.F.entry_list_init (code_list_new _ {(),()}) λobj k z=>?_;obtain⟨rfl,rfl⟩:=z;have new:(s.heap.push {cls:=.type "list",data:=.seq #[]}).get? s.heap.objs.size=some {cls:=.type "list",data:=.seq #[]}:=gg _ ();obtain⟨y,m,B,C⟩:=u;have n:s.heap.objs.size≠r:=n_ (hY m);obtain⟨D,p,cl,G,dl⟩:=x;have t:s.heap.objs.size≠l:=n_ (hY p);show{{_,new,()},PySem.F.args_list_init_2 _ _,?_};change wpAny (model P w) _ (do let g<-Builtin.List.listItems (.ref s.heap.objs.size);Builtin.List.listUpdate (.ref s.heap.objs.size) (λ_=>#[]);letGo g.toList.reverse;Builtin.List.listExtendWith (.ref s.heap.objs.size) (.ref r) .none) _ _ _;show a_ ?_;unfold Builtin.List.listItems;show a_ (t2 new () (fx (a_ (OW new () (a_ (wpAny_letGo ?_))))));have d:=ry (Obj.mapSeq (λ_=>(#[]:O_))) new ();have keep:∀b o,b≠s.heap.objs.size->s.heap.get? b=some o->((s.heap.push {cls:=.type "list",data:=.seq #[]}).update s.heap.objs.size (Obj.mapSeq (λ_=>(#[]:O_)))).get? b=some o:=λb o h e=>by rw[th _ _ (nn h)];show c_ _ e
 show Aa (A:=A.in1) hh {y,keep _ _ (nn n) m,B,C} {D,keep _ _ (nn t) p,cl,G,dl} hn f n t .none _ d λh' tk a c H I J=>?_;show{(),q h' tk a c (λb o h e=>H b o (ir (hY e)) h (keep b o (ir (hY e)) e)) I J}
end
section
variable{X:Cx}{e:Expr}{te:TE}{i g f d:Pos}
def K2(K:O2)(te:TE):TE:=λc H Q=>te c H λx a=>∃p b,x=.ref p/\aS K a p b/\∀l,a l=none->Q (.ref l) (aH a l (.lst b.reverse))
def Ae(K:O2)(Z:X.K=K)(hc:X.calm=true)(g1:Gl X "list")(m1:X.mg "list"=none)(g2:Gl X "reversed")(m2:X.mg "reversed"=none)(he:PE X e te)(B:starEach [.Call (.Name "reversed" g) [e] [] d] X.env=[(false,eval (.Call (.Name "reversed" g) [e] [] d) X.env)]:=by rfl)(C:starEach [e] X.env=[(false,eval e X.env)]:=by rfl):PE X (.Call (.Name "list" i) [.Call (.Name "reversed" g) [e] [] d] [] f) (K2 K te):=by
 subst Z;intro y s N H Q I h;show tA (kS I g1 m1 L2.kA (callWith_type1 ?_ B));rw[B];change wpAny (model X.prog X.w) X.A (spliced [(false,eval (.Call (.Name "reversed" g) [e] [] d) X.env)]) _ _ s;show qx (tA (kS I g2 m2 L2.vL (callWith_type1 ?_ C)));rw[C];change wpAny (model X.prog X.w) X.A (spliced [(false,eval e X.env)]) _ _ s;show qx (cq (he y s N H _ I h) λu m Y=>?_);obtain⟨x,H1,I1,rx,p,xs,ex,hq,q⟩:=Y;show vu ?_;subst ex;cases(show u=Value.ref p from rx);obtain⟨k,O,⟨o,n,F,co,dd,ds⟩,P⟩:=I1.list hq;have hl:m.heap.IsList p k.toArray:=(o,F,co,n,ds,);show call_reversed_list hl (vu ?_);have pr:p≠m.heap.objs.size:=ir (hY F);have R:aO X y N H1 {m with heap:=m.heap.push (revObj p ((k.toArray.size:Int)-1))}:=I1.kept (t':=m.toks) λb o e=>c_ _ e;show DP (r:=m.heap.objs.size) (l:=p) (items:=k.toArray) (I.ok.hd hc) {_,gg _ (),(),()} {o,c_ _ F,co,n,ds} (by simpa[<-O.length]using P) pr λh' tk t c kk sS T=>?_;have D:t.toList=k.reverse:=by
  show vl λj=>?_;have J:t.size=k.length:=by simpa using T.1
  rcases Om j k.length with E|E
  ·have U:t[j]?=some (t[j]'(by lia)):=to _;have L:=T.2 j _ U;rw[rV,U,List.getElem?_reverse E];simpa using L.symm
  ·rw[oi (by simpa[J]using E),oi (by simpa using E)]
 have I3:=R.laid (a:=(m.heap.push (revObj p ((k.toArray.size:Int)-1))).objs.size) (o:=.lst xs.reverse) (h':=(m.heap.push (revObj p ((k.toArray.size:Int)-1))).push {cls:=.type "list",data:=.seq t c}) (t':=tk) (λb u e=>c_ _ e) (e_ _) {by rw[NK];show P,k.reverse,c,O.reverse,by rw[<-D];show gg _ ()}
 have M:m.heap.objs.size<(m.heap.push (revObj p ((k.toArray.size:Int)-1))).objs.size:=by rw[ov];lia
 have I4:=I3.turned (it:=m.heap.objs.size) (h':=h') (t':=tk) (λb o hb e=>?_) (by rw[ak (ir M)];show I1.hok.fresh (e_ _)) (n_ I1.lt) (.inr I1.sz) (λx c e z=>by obtain⟨v,o,V,_⟩:=I1.cell x c e;rw[z]at V;show absurd (hY V) (o_ _)) (λpp hp z=>by have:=(I1.pin pp hp).1;rw[z]at this;show absurd (hY this) (o_ _))
 ·show{.ref (m.heap.push (revObj p ((k.toArray.size:Int)-1))).objs.size,_,I4,(),q _ (R.hok.fresh (e_ _))}
 ·by_cases z:b=(m.heap.push (revObj p ((k.toArray.size:Int)-1))).objs.size
  ·subst z;rw[gg _ ()]at e;cases e;show sS
  ·rcases ND e with⟨z2,_⟩|L
   ·show absurd z2 z
   ·show kk b o hb L
end
end L2
namespace L2
open PySem
seal L2.u5 L2.PS L2.PE L2.PT L2.PA L2.PI L2.PG L2.PW L2.Ku L2.PO
section
variable{X:Cx}
def CK:df X (.builtin "isinstance") (λc H Q=>∃x T t b,c=[x,.ty T]/\(mm X.K H x t\/∃p d,x=.ref p/\aY X.K H p d/\t=.type "tuple")/\PySem.W.kitOne X.K t (.type T)=some b/\Q (.bl b) H):=by
 intro a s f H c g Q I r h;obtain⟨x,T,t,b,rfl,ty,e,q⟩:=h;rcases ty with ty|⟨p,d,rfl,i,rfl⟩
 ·show zA a s f H _ g Q I r {x,T,t,b,(),ty,e,q}
 ·obtain⟨u,j,rfl,k,rt⟩:=vV r;obtain rfl:j=Value.type T:=rt;cases k;obtain⟨l,_,⟨o,h1,h2,_⟩,_⟩:=I.tuple i;show PySem.W.kia_one PySem.W.kitx_tuple I.kIn (o,h1,h2,) e (nofun) λtk=>{.bl b,H,I.tok tk,(),q}
def fb(K:O2)(a:X.K=K):df X (.builtin "isinstance") (λc H Q=>∃x T t b,c=[x,.ty T]/\(mm K H x t\/∃p d,x=.ref p/\aY K H p d/\t=.type "tuple")/\PySem.W.kitOne K t (.type T)=some b/\Q (.bl b) H):=by subst a;show CK
end
end L2
namespace L2
open PySem PySem.Spec PyProof.Rows
def HK(K:O2)(pm:Params)(a:Addr):Prop:=(a==sysModules)=false/\∃es n,K.lookup a=some {.type "dict",none,.dict es n,#[]}/\PySem.W.KeysLit pm es.toList
def ME(K:O2)(t:Addr)(c:List V):Prop:=∃(o:Obj)(a:O_)(n:Nat),K.lookup t=some o/\o.cls=.type "tuple"/\o.data=.seq a n/\a.size<=sizeLine/\a0 c a.toList
def ME.sq{K:O2}{t:Addr}{a:List V}(h:ME K t a)(H:Hp):aY K H t a:=.inr h
section
variable{P:O7}{w:World}{A:Around}{E:O3}{s:Shared}
def sR(c:s.heap.IsTupleIter j t k)(f:s.heap.IsTuple t d)(h:d[k]?=some v)(q:∀g,g.IsTupleIter j t (k+1)->Heap.SameBut j s.heap g->Q v {s with heap:=g}):wpAny (model P w) A (Builtin.SmallTypes.nextOf (.ref j)) Q E s:=by obtain⟨ob,b,i,a⟩:=id c;obtain⟨l,f1,_,m,f3⟩:=f;unfold Builtin.SmallTypes.nextOf;show a_ (o8 (name:=Str.ofString "__next__") c.typeIs Ha (ol Ha c.typeIs F.entry_tuple_iterator_next ?_ (O1 _)));show(show wpAny _ _ (field (.ref j) 0>>=_) _ _ s from a_ (sg b a (x:=.ref t) () ?_));show(show wpAny _ _ (if(Value.ref t==Value.none)=true then _ else(field (.ref j) 1>>=_)) _ _ s from ?_);rw[g_ (show¬(Value.ref t==Value.none)=true fromλz=>iq z)];show a_ (sg b a (x:=.int k 0) () ?_);show(show wpAny _ _ (seqItems? (.ref t)>>=_) _ _ s from a_ (t2 f1 f3 ?_));simp only[ot,h];show a_ (wpAny_setField b a (by simp) (fx {v,(),fx (q _ {_,ry _ b (Obj.isFreed_of_fields (Obj.data_mapFields a _)),(Obj.cls_mapFields ..).trans i,?_} (C1 ..))}));rw[Obj.data_mapFields a];simp[rawInt]
def yg(hh:A.handled=none)(c:s.heap.IsTupleIter j t k)(h:s.heap.IsTuple t d)(i:d[k]?=none)(q:∀g x,Heap.ExtBut j s.heap g->(∃ob,g.get? x=some ob/\ob.cls=.type "StopIteration")->E (.ref x) {s with heap:=g}):wpAny (model P w) A (Builtin.SmallTypes.nextOf (.ref j)) Q E s:=by
 obtain⟨ob,b,l,e⟩:=id c;obtain⟨n,f1,_,o,f3⟩:=h;unfold Builtin.SmallTypes.nextOf;show a_ (o8 (name:=Str.ofString "__next__") c.typeIs Ha (ol Ha c.typeIs F.entry_tuple_iterator_next ?_ (O1 _)));show(show wpAny _ _ (field (.ref j) 0>>=_) _ _ s from a_ (sg b e (x:=.ref t) () ?_));show(show wpAny _ _ (if(Value.ref t==Value.none)=true then _ else(field (.ref j) 1>>=_)) _ _ s from ?_);rw[g_ (show¬(Value.ref t==Value.none)=true fromλz=>iq z)];show a_ (sg b e (x:=.int k 0) () ?_);show(show wpAny _ _ (seqItems? (.ref t)>>=_) _ _ s from a_ (t2 f1 f3 ?_));simp only[ot,i];show a_ (v_ (a_ (wpAny_setField b e (by simp) (show wpAny _ _ (newExc (.type "StopIteration") []>>=_) _ _ _ from a_ ?_))));simp only[newExc,newTuple];show a_ (oD (a_ (m:=firstArgMember _ _) (wpAny_of_eq (a:=Value.none) (by first|rfl|(simp only[firstArgMember];rfl)) (oD ?_ (by size_fits)))) (by size_fits));simp only[raiseNew];show a_ (wpAny_handled ?_)
 first|rw[show A.in1.handled=none from hh]|rw[hh]
 show a_ (fx (wpAny_throw (q _ _ (((C1 ..).extBut.push _).push _) {_,gg _ (),()})))
def FW{b:Bool}{j t:Addr}{k:Nat}{a:O_}{v:Value}{Q:O3}(c:qV b s.heap j t k)(d:pY b s.heap t a)(e:a[k]?=some v)(q:∀g,qV b g j t (k+1)->Heap.SameBut j s.heap g->Q v {s with heap:=g}):wpAny (model P w) A (Builtin.SmallTypes.nextOf (.ref j)) Q E s:=by cases b with|false=>show sR c d e q|true=>show wpAny_nextOf_list_item c d e q
def Fz(z a d e:Addr)(h g:Heap):Prop:=∀c ob,c≠z->c≠a->c≠d->c≠e->h.get? c=some ob->g.get? c=some ob
def BF{c:Bool}{z h d j m t l:Addr}{L M:Nat}{Z ys:O_}{x y a b:Value}{Q:O3}(D:ZipApart z h d j m t l)(B:IsZip s.heap z h d .none)(p1:IsPair s.heap h (.ref j) (.ref m))(p2:IsPair s.heap d a b)(i1:s.heap.IsTupleIter j t L)(i2:qV c s.heap m l M)(tt:s.heap.IsTuple t Z)(ll:pY c s.heap l ys)(hx:Z[L]?=some x)(hy:ys[M]?=some y)(q:∀g,IsZip g z h d (rawInt s.heap.objs.size)->IsPair g d x y->g.IsTupleIter j t (L+1)->qV c g m l (M+1)->IsPair g s.heap.objs.size x y->g.objs.size=s.heap.objs.size+1->Fz z d j m s.heap g->Q (.ref s.heap.objs.size) {s with heap:=g}):wpAny (model P w) A (Builtin.«zip.__next__» {[.ref z],[]}) (λfin s'=>∃v,fin=.done (.ret v)/\Q v s') E s:=by
 show(show wpAny _ _ (field (.ref z) 2>>=_) _ _ _ from a_ (sg B () (x:=.bool false) () ?_));show(show wpAny _ _ (field (.ref z) 3>>=_) _ _ _ from a_ (sg B () (x:=.ref h) () (a_ (t2 p1 () ?_))));show(show wpAny _ _ (Builtin.SmallTypes.ownedTupleIsFree (.ref z)>>=_) _ _ _ from a_ ?_);unfold Builtin.SmallTypes.ownedTupleIsFree;show a_ (sg B () (x:=.none) () (fx ?_));simp only[OI];show a_ (v_ (a_ (sg B () (x:=.ref d) () (a_ (pw B (by simp) λg1 O k=>?_)))))
 replace O:IsZip g1 z h d .ellipsis:=O
 show a_ ?_;simp only[List.zipIdx_cons,List.zipIdx_nil,Ou,List.forIn_nil];show a_ (a_ (wpAny_onRaise (show wpAny _ _ (Builtin.SmallTypes.nextOf (.ref j)>>=_) _ _ _ from a_ (sR (i1.extBut k.extBut D.i1z) (tt.extBut k.extBut D.l1z) hx λg2 R r=>fx ?_))));have C:IsPair g2 d a b:=r.extBut _ _ D.TOi1 (k.extBut _ _ D.TOz p2);show a_ (t2 C () (a_ (wpAny_updateSeq_pair C λg3 n u=>?_)))
 replace n:IsPair g3 d x b:=n
 show a_ (wpAny_letGo (fx (a_ (a_ (wpAny_onRaise ?_)))));show(show wpAny _ _ (Builtin.SmallTypes.nextOf (.ref m)>>=_) _ _ _ from a_ (FW (i2.at λ_ e=>u.extBut _ _ D.TOi2.symm (r.extBut _ _ D.i12.symm (k.extBut _ _ D.i2z e))) (ll.at λ_ e=>u.extBut _ _ D.l2TO (r.extBut _ _ D.l2i1 (k.extBut _ _ D.l2z e))) hy λg4 S F=>fx ?_))
 have G:IsPair g4 d x b:=F.extBut _ _ D.TOi2 n;show a_ (t2 G () (a_ (wpAny_updateSeq_pair G λf i H=>?_)))
 replace i:IsPair f d x y:=i
 show a_ (wpAny_letGo (fx (fx (a_ (t2 i () (a_ (wpAny_newTuple ?_)))))));have sz:f.objs.size=s.heap.objs.size:=by rw[H.1,F.1,u.1,r.1,k.1]
 have z5:IsZip f z h d .ellipsis:=H.extBut _ _ D.TOz.symm (F.extBut _ _ D.i2z.symm (u.extBut _ _ D.TOz.symm (r.extBut _ _ D.i1z.symm O)));have k5:Fz z d j m s.heap f:=λc o p K T U e=>H.extBut _ _ K (F.extBut _ _ U (u.extBut _ _ K (r.extBut _ _ T (k.extBut _ _ p e))));have V:f.IsTupleIter j t (L+1):=((R.extBut u.extBut D.TOi1.symm).extBut F.extBut D.i12).extBut H.extBut D.TOi1.symm;have W:qV c f m l (M+1):=S.at λ_ e=>H.extBut _ _ D.TOi2.symm e;have zl:z<f.objs.size:=hY z5;show(show wpAny _ _ (Builtin.SmallTypes.ownedTupleHandOut (.ref z) (.ref f.objs.size)>>=_) _ _ _ from a_ ?_);unfold Builtin.SmallTypes.ownedTupleHandOut;have z6:IsZip (f.push {cls:=.type "tuple",data:=.seq #[x,y]}) z h d .ellipsis:=c_ _ z5;show a_ (pw z6 (by simp) λg7 X Y=>?_)
 replace X:IsZip g7 z h d (rawInt f.objs.size):=X
 show pw X (by simp) λI N s8=>?_
 replace N:IsZip I z h d (rawInt f.objs.size):=N
 have up:∀c ob,c≠z->f.get? c=some ob->I.get? c=some ob:=λc ob p e=>s8.extBut _ _ p (Y.extBut _ _ p (c_ _ e));have pn:IsPair I f.objs.size x y:=s8.extBut _ _ (n_ zl) (Y.extBut _ _ (n_ zl) (gg _ ()));have J:I.objs.size=f.objs.size+1:=by rw[s8.1,Y.1,ov]
 rw[sz]at N pn J;show fx {_,(),(show Q (.ref f.objs.size) _ from ?_)};rw[sz];show q I N (up _ _ D.TOz i) (V.at λob e=>up _ ob D.i1z e) (W.at λob e=>up _ ob D.i2z e) pn J λc ob p K T U e=>up c ob p (k5 c ob p K T U e)
def BE(hh:A.handled=none)(D:ZipApart z i h m p t l)(j:IsZip s.heap z i h .none)(B:IsPair s.heap i (.ref m) (.ref p))(S:IsPair s.heap h a b)(C:s.heap.IsTupleIter m t F)(G:s.heap.IsTuple t H)(I:H[F]?=none)(q:∀g e,Fz z h m p s.heap g->(∃ob,g.get? e=some ob/\ob.cls=.type "StopIteration")->E (.ref e) {s with heap:=g}):wpAny (model P w) A (Builtin.«zip.__next__» {[.ref z],[]}) Q E s:=by
 show(show wpAny _ _ (field (.ref z) 2>>=_) _ _ _ from a_ (sg j () (x:=.bool false) () ?_));show(show wpAny _ _ (field (.ref z) 3>>=_) _ _ _ from a_ (sg j () (x:=.ref i) () (a_ (t2 B () ?_))));show(show wpAny _ _ (Builtin.SmallTypes.ownedTupleIsFree (.ref z)>>=_) _ _ _ from a_ ?_);unfold Builtin.SmallTypes.ownedTupleIsFree;show a_ (sg j () (x:=.none) () (fx ?_));simp only[OI];show a_ (v_ (a_ (sg j () (x:=.ref h) () (a_ (pw j (by simp) λJ n o=>?_)))))
 replace n:IsZip J z i h .ellipsis:=n
 show a_ ?_;simp only[List.zipIdx_cons,List.zipIdx_nil,Ou,List.forIn_nil];show a_ (a_ (wpAny_onRaise (show wpAny _ _ (Builtin.SmallTypes.nextOf (.ref m)>>=_) _ _ _ from a_ (yg hh (C.extBut o.extBut D.i1z) (G.extBut o.extBut D.l1z) I λK e r L=>?_))));obtain⟨M,f,k⟩:=L;have u:IsZip K z i h .ellipsis:=r _ _ D.i1z.symm n;have N:e≠z:=λc=>by subst c;rw[u]at f;cases f;simp at k
 show pw u (by simp) λO _ v=>q O e (λc ob y _ R _ d=>v.extBut _ _ y (r _ _ R (o.extBut _ _ y d))) {M,v.extBut _ _ N f,k}
def BG{c:Bool}{z h d e f t l:Addr}{i j:Nat}{m n:O_}{x y a b:Value}{Q:Option Value->Shared->Prop}(D:ZipApart z h d e f t l)(o:IsZip s.heap z h d .none)(p:IsPair s.heap h (.ref e) (.ref f))(r:IsPair s.heap d a b)(u:s.heap.IsTupleIter e t i)(v:qV c s.heap f l j)(B:s.heap.IsTuple t m)(C:pY c s.heap l n)(G:m[i]?=some x)(H:n[j]?=some y)(q:∀g,IsZip g z h d (rawInt s.heap.objs.size)->IsPair g d x y->g.IsTupleIter e t (i+1)->qV c g f l (j+1)->IsPair g s.heap.objs.size x y->g.objs.size=s.heap.objs.size+1->Fz z d e f s.heap g->Q (some (.ref s.heap.objs.size)) {s with heap:=g}):wpAny (model P w) A (pyNext (.ref z)) Q E s:=by have ty:s.TypeIs (.ref z) "zip":={_,o,()};unfold pyNext;show a_ (N4 (o8 (name:=Str.ofString "__next__") ty Ov (ol Ov ty F.entry_zip_next (BF D o p r u v B C G H λg a1 I J a4 K L M=>?_) (F.args_zip_next_1 _))));show fx (q g a1 I J a4 K L M)
def CT(hh:A.handled=none)(D:ZipApart z f c d h t l)(i:IsZip s.heap z f c .none)(m:IsPair s.heap f (.ref d) (.ref h))(n:IsPair s.heap c a b)(o:s.heap.IsTupleIter d t p)(r:s.heap.IsTuple t u)(v:u[p]?=none)(q:∀g,Fz z c d h s.heap g->Q none {s with heap:=g}):wpAny (model P w) A (pyNext (.ref z)) Q E s:=by have ty:s.TypeIs (.ref z) "zip":={_,i,()};unfold pyNext;show a_ (N4 (o8 (name:=Str.ofString "__next__") ty Ov (ol Ov ty F.entry_zip_next (BE hh D i m n o r v λg e k x=>?_) (F.args_zip_next_1 _))));obtain⟨ob,h1,h2⟩:=x;show a_ (N9 (T:="StopIteration") (b:=true) (ob,h1,h2,) isSubtype_stop (fx (q g k)))
abbrev FL(h:Heap)(t:Addr):Heap:=h.push {cls:=.type "tuple_iterator",data:=.fields #[.ref t,.int 0 0]}
abbrev Mv(c:Bool)(h:Heap)(t l:Addr):Heap:=(FL h t).push {cls:=.type (cond c "list_iterator" "tuple_iterator"),data:=.fields #[.ref l,.int 0 0]}
abbrev Mu(c:Bool)(h:Heap)(t l:Addr):Heap:=(Mv c h t l).push {cls:=.type "tuple",data:=.seq #[.ref h.objs.size,.ref (FL h t).objs.size]}
abbrev Mt(c:Bool)(h:Heap)(t l:Addr):Heap:=(Mu c h t l).push {cls:=.type "tuple",data:=.seq #[.none,.none]}
abbrev Kz(c:Bool)(h:Heap)(t l:Addr):Heap:=(Mt c h t l).push {cls:=.type "zip",data:=.fields #[.none,.bool false,.bool false,.ref (Mv c h t l).objs.size,.ref (Mu c h t l).objs.size]}
def Aq(c:Bool)(t l:Addr)(a f:O_):Meets (Builtin.«zip.__new__» {[.type "zip",.ref t,.ref l],[]}) (λ_ R s=>s.heap.IsTuple t a/\pY c s.heap l f/\R (.ok (.ret (.ref (Mt c s.heap t l).objs.size))) {s with heap:=Kz c s.heap t l}):=.of_wp λprog w A R s h=>by
  obtain⟨b,g,d,tk,os⟩:=s;obtain⟨h1,h2,h⟩:=h;have i:=sub_zip;have j:Heap.IsTuple (Shared.heap (b,g,d,tk,os,)) t a:=h1;have k:pY c (Shared.heap {b.push {cls:=.type "tuple_iterator",data:=.fields #[.ref t,.int 0 0]},g,d,tk,os}) l f:=h2.at λ_ e=>c_ _ e
  wp_walk using Nk j,AX k
  show{_,(),h}
def CG{c:Bool}{t l:Addr}{h i:O_}{Q:O3}(h1:s.heap.IsTuple t h)(h2:pY c s.heap l i)(q:∀g,IsZip g (s.heap.objs.size+4) (s.heap.objs.size+2) (s.heap.objs.size+3) .none->IsPair g (s.heap.objs.size+2) (.ref s.heap.objs.size) (.ref (s.heap.objs.size+1))->IsPair g (s.heap.objs.size+3) .none .none->g.IsTupleIter s.heap.objs.size t 0->qV c g (s.heap.objs.size+1) l 0->(∀c o,s.heap.get? c=some o->g.get? c=some o)->Q (.ref (s.heap.objs.size+4)) {s with heap:=g}):wpAny (model P w) A (call (.type "zip") [.ref t,.ref l]) Q E s:=by
 show callType_new F.called_zip (by decide) (F.typeCall_zip_2 _ _) (F.newCall_zip_2 _ _) (λob=>F.args_object_init_3 ob _ _) F.entry_zip_new (Aq c t l h i) {h1,h2,?_};have a:(FL s.heap t).objs.size=s.heap.objs.size+1:=ov ..;have b:(Mv c s.heap t l).objs.size=s.heap.objs.size+2:=by rw[ov,a]
 have e:(Mu c s.heap t l).objs.size=s.heap.objs.size+3:=by rw[ov,b]
 have j:(Mt c s.heap t l).objs.size=s.heap.objs.size+4:=by rw[ov,e]
 have f:(Kz c s.heap t l).get? (Mt c s.heap t l).objs.size=some _:=gg _ ();have k:(Kz c s.heap t l).get? (Mu c s.heap t l).objs.size=some _:=c_ _ (gg _ ());have m:(Kz c s.heap t l).get? (Mv c s.heap t l).objs.size=some _:=c_ _ (c_ _ (gg _ ()));have n:(Kz c s.heap t l).get? (FL s.heap t).objs.size=some _:=c_ _ (c_ _ (c_ _ (gg _ ())));have p:(Kz c s.heap t l).get? s.heap.objs.size=some _:=c_ _ (c_ _ (c_ _ (c_ _ (gg _ ()))));change _/\_;rw[b,e,j]at f;rw[a,b]at m;rw[e]at k;rw[a]at n;rw[j];show{{_,f,()},q _ f m k {_,p,(),()} {_,n,(),()} λc ob d=>c_ _ (c_ _ (c_ _ (c_ _ (c_ _ d))))}
end
def kr{X:Cx}{a:O4}{g:St}{H:Hp}{s:Shared}{h':Heap}{t':Nat}{ch:Pb}(I:aO X a g H s)(k:∀b o,b∉ch->s.heap.get? b=some o->h'.get? b=some o)(f:∀b∈ch,vQ X a H b):aO X a g H {s with heap:=h',toks:=t'}:=by
 have d:∀b u,H b=some u->b∉ch:=λb u e z=>by rw[(f b z).1]at e;cases e
 show I.step (g':=s.gens) (d':=s.drawn) (ch:=ch) (λb h=>?_) (λb o _ _ hc e _=>k b o hc e) (λb o _ _ hc e _=>{o.slots,k b o hc e}) (λ_ _ _ _ n=>n) (λb o hc e=>{o,k b o hc e}) (λ_ _ e=>e) (λ_ _ _ e=>e) (λb w e=>{#[],by rw[e];simp}) (λm hm=>?_) (λb u e=>?_) I.bare
 ·obtain⟨_,f1,_,f3,i,j⟩:=f b h;show(f3,f1,i,j,)
 ·obtain⟨o,es,ep,l,r⟩:=hm;show{o,es,ep,k _ o (λz=>(f _ z).2.1 ()) l,r}
 ·show(I.hok b u e).stay (λc v hc q=>k c v ?_ q) (λ_ q=>q) λ_ _ q=>q;rcases hc with z|z
  ·rw[z];show d b u e
  ·show d c _ z
def Mo(c:Bool)(K:O2)(t l:Addr):It:={λi H=>∃a b x y,aY K H t a/\HF c K H l b/\a[i]?=some x/\b[i]?=some y,λi H v d=>∃T x y,H T=none/\v=.ref T/\d=aH H T (.tup [x,y])/\∀a b,aY K H t a->HF c K H l b->a[i]?=some x/\b[i]?=some y,λi H=>∃a,aY K H t a/\a.length<=i}
def CY{c:Bool}{P:O7}{w:World}{K:O2}{J:O9}{x1:Nat}{Q:Pos}{z j m n q t l:Addr}(D:ZipApart z j m n q t l):vN P w K (.Tuple J x1 Q) (Mo c K t l) [z,j,m,n,q] z (λi h=>IsZip h z j m .none/\IsPair h j (.ref n) (.ref q)/\(∃a b,IsPair h m a b)/\h.IsTupleIter n t i/\qV c h q l i)where
 mem:=by simp
 obj:=λi h st b d=>by
  obtain⟨a1,r,⟨_,_,A⟩,⟨an,a4,_,d4⟩,⟨ap,C,_,d5⟩⟩:=st;simp only[q_,op,E_]at d;rcases d with rfl|rfl|rfl|rfl|rfl
  ·show{_,a1,λv e=>by cases e}
  ·show{_,r,λv e=>by cases e}
  ·show{_,A,λv e=>by cases e}
  ·show{_,a4,λv e=>by rw[d4]at e;cases e}
  ·show{_,C,λv e=>by rw[d5]at e;cases e}
 keep:=λi h h' st k=>by obtain⟨a1,r,⟨a,b,A⟩,a4,C⟩:=st;show{k z (by simp) _ a1,k j (by simp) _ r,{a,b,k m (by simp) _ A},a4.at λob e=>k n (by simp) ob e,C.at λob e=>k q (by simp) ob e}
 item:=by
  intro X O R S hc i B s σ H E I N st hg;subst O R S;obtain⟨xs,ys,x,y,L,T,U,hy⟩:=hg;obtain⟨F,V,p,hz⟩:=I.tuple L;obtain⟨al,Y,p2,Z⟩:=I.sqE T;obtain⟨u,hu,ru⟩:=V.get U;obtain⟨u2,aa,ad⟩:=Y.get hy;obtain⟨a1,r,⟨a,b,A⟩,a4,C⟩:=st;show BG D a1 r A a4 C (show s.heap.IsTuple t F.toArray from p) p2 (x:=u) (y:=u2) (by simpa using hu) (by simpa using aa) λg b1 b2 b3 b4 b5 b6 off=>?_;show{_,(),wpAny_letOwnedTupleGo_zip b1 λg' c1 G=>?_};have lt:∀c∈[z,j,m,n,q],c≠s.heap.objs.size:=λc M e=>by
   have hs:∃ob,s.heap.get? c=some ob:=by
    simp only[q_,op,E_]at M;rcases M with rfl|rfl|rfl|rfl|rfl
    ·show{_,a1}
    ·show{_,r}
    ·show{_,A}
    ·obtain⟨ob,e,_⟩:=a4;show(ob,e,)
    ·obtain⟨ob,e,_⟩:=C;show(ob,e,)
   obtain⟨ob,h⟩:=hs;rw[e]at h;show absurd (hY h) (o_ _)
  have fresh:H s.heap.objs.size=none:=I.hok.fresh (e_ _);have I1:aO X B σ (aH H s.heap.objs.size (.tup [x,y])) {s with heap:=s.heap.push {cls:=.type "tuple",data:=.seq #[u,u2]},toks:=s.toks}:=I.laid (λb o e=>c_ _ e) (e_ _) {by rw[g8];simp,[u,u2],.cons ru (.cons ad .nil),{_,gg _ (),(),_,()}}
  have I2:=kr (h':=g') (t':=s.toks) (ch:=[z,j,m,n,q]) I1 (λb o d e=>?_) (λb d=>?_)
  ·show{.ref s.heap.objs.size,_,I2,(),{_,x,y,fresh,(),(),λas ax h1 h2=>{by rw[I.tuple_inj h1 L];show U,by rw[Z _ h2];show hy}},{c1,G.extBut _ _ D.TIz (off _ _ D.TIz D.TITO D.TIi1 D.TIi2 r),{_,_,G.extBut _ _ D.TOz b2},b3.extBut G.extBut D.i1z,b4.at λ_ e=>G.extBut _ _ D.i2z e},λb d=>?_};rw[ak (lt b d)];show(N b d).1
  ·have f:b≠z/\b≠j/\b≠m/\b≠n/\b≠q:=by simpa using d
   by_cases eb:b=s.heap.objs.size
   ·subst eb;rw[gg _ ()]at e;cases e;show G.extBut _ _ f.1 b5
   ·have e':s.heap.get? b=some o:=by
     rcases ND e with⟨z2,_⟩|e2
     ·show absurd z2 eb
     ·show e2
    show G.extBut _ _ f.1 (off b o f.1 f.2.2.1 f.2.2.2.1 f.2.2.2.2 e')
  ·obtain⟨f0,f1⟩:=N b d;show{by rw[ak (lt b d)];show f0,f1}
 done:=by
  intro X O R S hc i B s σ H E I N st hg;subst O R S;obtain⟨xs,hq,U⟩:=hg;obtain⟨F,V,p,hz⟩:=I.tuple hq;have hl:=V.length;obtain⟨a1,r,⟨a,b,A⟩,a4,C⟩:=st;show CT (I.ok.hd hc) D a1 r A a4 (show s.heap.IsTuple t F.toArray from p) (by simp;lia) λg off=>{(),kr (t':=s.toks) (ch:=[z,j,m,n,q]) I (λb o d e=>?_) N};have f:b≠z/\b≠j/\b≠m/\b≠n/\b≠q:=by simpa using d
  show off b o f.1 f.2.2.1 f.2.2.2.1 f.2.2.2.2 e
 self:=λ_ _ _ _ _ st h=>wpAny_pyIter_zip st.1 h
end L2
namespace L2
open PySem PySem.Spec PyProof.Rows PySem.W
def MW{K:O2}{w:World}{pm:Params}{a:Addr}(h:w.params=pm)(k:HK K pm a):HK K w.params a:=h▸k
def gl(c:Nat):List (List Nat)->List Nat|[]=>[]|[x]=>x|x::y::r=>x++c::gl c (y::r)
abbrev dE(P:O7)(w:World)(d:Addr)(a:List (bY×V))(ep:Nat):HO:=.ext λh=>((d==sysModules)=false/\a.length<=sizeLine)/\∃b,KV a b/\h.DictAt (aR P w) d b ep
theorem xD:∀{a:List (bY×V)}{d:List (bY×Value)},KV a d->∀(i:Nat)(k:bY)(v:V),a[i]?=some (k,v)->∃u,d[i]?=some (k,u)/\aV v u|_,_,.nil,i,k,v,h=>by simp at h|_,_,.cons (b:=q) ⟨c,e⟩ t,i,k,v,h=>by cases i with|zero=>simp at h;subst h;obtain⟨f,u⟩:=q;have c:k=f:=c;subst c;show{u,(),e}|succ i=>obtain⟨u,h1,h2⟩:=xD t i k v (by simpa using h);show{u,by simpa using h1,h2}
def xz(h:(aR P w).is k u=true):aV (kV k) u:=by
 rcases kR.flat (P:=P) (w:=w) (h:=default) (k:=k) (v:=u) h with⟨i,t,rfl,rfl⟩|⟨z,t,rfl,rfl⟩
 ·show{t,()}
 ·show{t,()}
section
variable{X:Cx}{g:O4}{i:St}{H:Hp}{s:Shared}{d:Addr}{f:List (bY×V)}{ep:Nat}
def aO.walk(I:aO X g i H s)(h:H d=some (.dK f)):∃ep j,KV f j/\s.heap.DictAt (aR X.prog X.w) d j ep/\(d==sysModules)=false/\aO X g i (aH H d (dE X.prog X.w d f ep)) s:=by obtain⟨r,n,j,p,l⟩:=I.hok d _ h;obtain⟨ep,m⟩:=l.dictAt;obtain⟨o,es,q,_⟩:=id m;show{ep,j,p,m,n,?_};have J:=I.write (h':=s.heap) (t':=s.toks) (x:=d) (e:=d) (o:=dE X.prog X.w d f ep) (by rw[h];show True.intro) (.inl ()) (λ_ _ _ e=>e) (o,q,) {{(n,r,),j,p,m},(o,q,),λ_ _⟨a,j,b,c⟩k=>{a,j,b,c.at' k}};show J
def aO.thaw(I:aO X g i H s)(h:H d=some (dE X.prog X.w d f ep)):aO X g i (aH H d (.dK f)) s:=by obtain⟨⟨⟨a,b⟩,c,j,k⟩,⟨o,l⟩,_⟩:=I.hok d _ h;have J:=I.write (h':=s.heap) (t':=s.toks) (x:=d) (e:=d) (o:=.dK f) (by rw[h];show True.intro) (.inl ()) (λ_ _ _ e=>e) (o,l,) (b,a,c,j,k.dictOf,);show J
end
def MF(P:O7)(w:World)(d:Addr)(a:List (bY×V))(ep:Nat)(f:bY×V->V):It:={λi H=>H d=some (dE P w d a ep)/\i<a.length,λi H x b=>b=H/\a[i]?.map f=some x,λi H=>H d=some (dE P w d a ep)/\a.length<=i}
def BL{P:O7}{w:World}{K:O2}{M:Expr}(d g:Addr)(a:List (bY×V))(ep:Nat):vN P w K M (MF P w d a ep λp=>kV p.1) [g] g (λi h=>h.IsKeyIter g d i a.length ep)where
 mem:=by simp
 obj:=λi h st b l=>by
  have e:b=g:=by simpa using l
  subst e;obtain⟨o,e,c,dt⟩:=st;show{o,e,λv z=>by rw[dt]at z;cases z}
 keep:=λi h h'⟨o,e,r⟩k=>{o,k g (by simp) o e,r}
 item:=by intro X t x y hc i j s J H E I n st hg;subst t x y;obtain⟨hd,hi⟩:=hg;obtain⟨⟨_,A,q,B⟩,_⟩:=I.hok d _ hd;have f:a.length=A.length:=Paired.length q;obtain⟨C,f1,f2,f3,D,F⟩:=n g (by simp);have L:a[i]?=some a[i]:=ga hi;obtain⟨u,N,ru⟩:=xD q i a[i].1 a[i].2 L;have st:s.heap.IsKeyIter g d i a.length ep:=st;rw[f]at st;show wpAny_pyNext_dict_item st B N λG h' O m Q=>?_;have I1:aO X j J H {s with heap:=h'}:=I.turned (t':=s.toks) (λb o l e=>(Q.2 b l).trans e) C f1 f3 D F;obtain⟨o,e,c,dt⟩:=id m;rw[<-f]at m;show{G,(),wI (s:={s with heap:=h'}) e c dt (by decide) {kV a[i].1,H,I1,xz O,{(),by rw[L];rfl},m,λb l=>(n b l).1}}
 done:=by intro X t x y hc i j s J H E I n st hg;subst t x y;obtain⟨hd,hi⟩:=hg;obtain⟨⟨_,A,q,B⟩,_⟩:=I.hok d _ hd;have f:a.length=A.length:=Paired.length q;obtain⟨C,f1,f2,f3,D,F⟩:=n g (by simp);have st:s.heap.IsKeyIter g d i a.length ep:=st;rw[f]at st;show wpAny_pyNext_dict_end (I.ok.hd hc) st B (oi (by lia)) λh' S=>{(),I.turned (t':=s.toks) (λb o l e=>S b o l e) C f1 f3 D F}
 self:=λ_ _ _ _ _ st h=>wpAny_pyIter_keyiter st h
def BJ{P:O7}{w:World}{K:O2}{L:Expr}(d g:Addr)(a:List (bY×V))(ep:Nat):vN P w K L (MF P w d a ep λp=>p.2) [g] g (λi h=>h.IsValIter g d i a.length ep)where
 mem:=by simp
 obj:=λi h st b l=>by
  have e:b=g:=by simpa using l
  subst e;obtain⟨o,e,c,dt⟩:=st;show{o,e,λv z=>by rw[dt]at z;cases z}
 keep:=λi h h'⟨o,e,r⟩k=>{o,k g (by simp) o e,r}
 item:=by intro X t x y hc i j s G H E I n st hg;subst t x y;obtain⟨hd,hi⟩:=hg;obtain⟨⟨_,A,q,B⟩,_⟩:=I.hok d _ hd;have f:a.length=A.length:=Paired.length q;obtain⟨C,f1,f2,f3,D,F⟩:=n g (by simp);have J:a[i]?=some a[i]:=ga hi;obtain⟨u,M,ru⟩:=xD q i a[i].1 a[i].2 J;have st:s.heap.IsValIter g d i a.length ep:=st;rw[f]at st;show wpAny_pyNext_values_item st B M λh' m N=>?_;have I1:aO X j G H {s with heap:=h'}:=I.turned (t':=s.toks) (λb o l e=>(N.2 b l).trans e) C f1 f3 D F;obtain⟨o,e,c,dt⟩:=id m;rw[<-f]at m;show{u,(),wI (s:={s with heap:=h'}) e c dt (by decide) {a[i].2,H,I1,ru,{(),by rw[J];rfl},m,λb l=>(n b l).1}}
 done:=by intro X t x y hc i j s G H E I n st hg;subst t x y;obtain⟨hd,hi⟩:=hg;obtain⟨⟨_,A,q,B⟩,_⟩:=I.hok d _ hd;have f:a.length=A.length:=Paired.length q;obtain⟨C,f1,f2,f3,D,F⟩:=n g (by simp);have st:s.heap.IsValIter g d i a.length ep:=st;rw[f]at st;show wpAny_pyNext_values_end (I.ok.hd hc) st B (oi (by lia)) λh' Q=>{(),I.turned (t':=s.toks) (λb o l e=>Q b o l e) C f1 f3 D F}
 self:=λ_ _ _ _ _ st h=>wpAny_pyIter_valiter st h
section
variable{X:Cx}{P:O7}{w:World}{i l o e:Expr}{tl a te:TE}
def L3(P:O7)(w:World)(tl:TE):TI:=λh H R=>tl h H λx f=>∃d b,x=.ref d/\f d=some (.dK b)/\∀ep,R (MF P w d b ep λp=>kV p.1) (aH f d (dE P w d b ep))
def GF(p:PE X l tl)(r:X.prog=P:=by rfl)(t:X.w=w:=by rfl):PI X i l (L3 P w tl):=by
 subst r t;intro f s u H R I h;show cq (p f s u H _ I h) λv m y=>?_;obtain⟨x,F,I1,z,d,j,e,hd,q⟩:=y;subst e;obtain rfl:v=Value.ref d:=z;obtain⟨ep,A,B,C,D,n⟩:=I1.walk hd;have k:j.length=A.length:=Paired.length B;show wpAny_pyIter_dict D C ?_;show{m.heap.objs.size,[m.heap.objs.size],_,_,_,(),n.kept (t':=m.toks) λb o e=>c_ _ e,BL d _ j ep,{_,gg _ (),(),by rw[k];rfl},λb E=>?_,q ep};have e:b=m.heap.objs.size:=by simpa using E
 subst e;show n.fpOk (e_ _) (n.hok.fresh (e_ _))
def LY(P:O7)(w:World)(a:TE):TI:=λh H R=>a h H λx f=>∃d b,x=.ref d/\f d=some (.dK b)/\∀ep,R (MF P w d b ep λp=>p.2) (aH f d (dE P w d b ep))
def MO(P:O7)(w:World)(t:TE):TE:=λh H Q=>t h H λv f=>∃d b ep,f d=some (dE P w d b ep)/\Q v (aH f d (.dK b))
def Af(h:PE X e te)(f:X.prog=P:=by rfl)(j:X.w=w:=by rfl):PE X e (MO P w te):=by subst f j;intro b s k H Q I m;show cq (h b s k H _ I m) λu t n=>?_;obtain⟨v,x,I1,r,d,p,ep,hd,q⟩:=n;show{v,_,I1.thaw hd,r,q}
def Le(P:O7)(w:World)(t:TS):TS:=λD j H=>t {D with nx:=λf h=>∃d b ep,h d=some (dE P w d b ep)/\D.nx f (aH h d (.dK b))} j H
def Ab{st:Stmt}{t:TS}(h:PS X st t)(m:X.prog=P:=by rfl)(n:X.w=w:=by rfl):PS X st (Le P w t):=by subst m n;intro b s k H D I p;show wpAny_mono (h b s k H _ I p) (λf x z=>?_) λ_ _ z=>z;cases f with|next=>obtain⟨j,y,r,d,v,ep,hd,q⟩:=z;show{j,_,r.thaw hd,q}|brk=>show z|cont=>show z|ret u=>show z
end
section
variable{X:Cx}{P:O7}{w:World}{j o e:Expr}{g ty:TE}{f c:Pos}
def GD(B:PE X o g)(C:X.prog=P:=by rfl)(D:X.w=w:=by rfl)(m:attributeBase o "values" X.env (eval o X.env)=eval o X.env:=by rfl)(n:(f.endLine==c.line)=true:=by rfl):PI X j (.Call (.Attribute o "values" f) [] [] c) (LY P w g):=by
 subst C D;intro k s E H R I h;show wpAny_Call_method0_late m n (cq (B k s E H _ I h) λv a G=>?_);obtain⟨x,T,I1,J,d,p,e,hd,q⟩:=G;subst e;obtain rfl:v=Value.ref d:=J;obtain⟨ep,A,K,r,L,M⟩:=I1.walk hd;have t:p.length=A.length:=Paired.length K;obtain⟨ob,es,u,N,_⟩:=id r;show{"dict","dict.values",PySem.F.plainAttrs_dict,PySem.F.slot_dict_values,PySem.F.type_dict_values,r.dictOf.typeIs,?_,ri () (PySem.evalArgs_none (D_ PySem.F.slot_dict_values r.dictOf.typeIs PySem.F.entry_dict_values (PySem.F.args_dict_values_1 _) (meets_dict_values (aR X.prog X.w) d L) {(A,r.dictOf,),?_}))}
 ·intro b z;cases z;show(ob,u,N.2.1,)
 ·have O:(a.heap.push {cls:=.type "dict_values",data:=.fields #[.ref d]}).IsValuesView a.heap.objs.size d:={_,gg _ (),(),()};change wpAny _ _ (pyIter (.ref a.heap.objs.size)) _ _ _;have y:=M.kept (h':=a.heap.push {cls:=.type "dict_values",data:=.fields #[.ref d]}) (t':=a.toks) λb o e=>c_ _ e;show wpAny_pyIter_values (s:={a with heap:=a.heap.push {cls:=.type "dict_values",data:=.fields #[.ref d]}}) O (r.push _) ?_;show{_,[(a.heap.push {cls:=.type "dict_values",data:=.fields #[.ref d]}).objs.size],_,_,_,(),y.kept (t':=a.toks) λb o e=>c_ _ e,BJ d _ p ep,{_,gg _ (),(),by rw[t];rfl},λb S=>?_,q ep};have e:b=(a.heap.push {cls:=.type "dict_values",data:=.fields #[.ref d]}).objs.size:=by simpa using S
  subst e;show y.fpOk (e_ _) (y.hok.fresh (e_ _))
def K8(K:O2)(a:Addr)(ty:TE):TE:=λd H Q=>ty d H λy b=>∃x r,y=.str x/\PySem.W.nsIn K a x=some r/\((r=none/\Q .non b)\/∃u v,r=some u/\aV v u/\Q v b)
def GH(K:O2)(J:X.K=K)(hd:HK K X.w.params a)(hg:Gl X x)(hm:X.mg x=some (.ref a))(L:PE X e ty)(m:M1 X (.Name x d) "get" f e c)(A:(x==("__debug__":Str))=false:=by decide):PE X (.Call (.Attribute (.Name x d) "get" f) [e] [] c) (K8 K a ty):=by
 subst J;intro k s D H Q I h;obtain⟨lo,es,n,t,E⟩:=hd;have hn:PE X (.Name x d) (tC (.ref a)):=Bf hg hm () A;show No m.base m.few m.line PySem.F.plainAttrs_dict PySem.F.slot_dict_get PySem.F.type_dict_get (cq (hn k s D H (λv M=>v=.ref a/\M=H) I {(),()}) λu N⟨z,O,I1,R,S,T⟩=>?_);subst S T;obtain rfl:u=Value.ref a:=R;have B:=PySem.W.mapOf_K (prog:=X.prog) (w:=X.w) I1.kIn t E;show{B.typeIs,λb z=>by cases z;show{_,I1.kIn _ _ t,()},?_};rw[m.trees];show ri () (t6 (qx (cq (L k N D O _ I1 h) λiv s2 U=>?_)));obtain⟨y,G,C,V,Y,r,Z,hu,q2⟩:=U;show vu ?_;subst Z;obtain⟨tk,rfl⟩:=V;have p:=PySem.W.mapOf_K (prog:=X.prog) (w:=X.w) C.kIn t E;show D_ PySem.F.slot_dict_get p.typeIs PySem.F.entry_dict_get (PySem.F.args_dict_get_2 _ _) (meets_dict_get (strKind X.prog X.w) a (PySem.strKind_is X.prog X.w Y tk) lo) {_,p,?_};rw[PySem.W.find_K t hu];rcases q2 with⟨rfl,q⟩|⟨u',v',rfl,rv,q⟩
 ·show{.non,G,C.tok _,(),q}
 ·show{v',G,C.tok _,rv,q}
end
end L2
namespace L2
open PySem PySem.W PyProof.Rows
section
variable{M:Model}{A:Around}{E:O3}
def Cl{C D N J:Addr}{nm q m L:Str}{bs n o a:O6}{hd P sub R p r u c v i}{dd w:Option Addr}{S T W X Z x y z B F:Option Value}{id G:String}{s:Shared}{e:Addr}{H:Obj}{Q:Bool->Shared->Prop}(hC:s.heap.get? C=some (excClassObj nm q C N bs o hd P sub R p dd S T W X Z id))(I:s.heap.get? D=some (excClassObj m L D J n a r u c v i w x y z B F G))(he:s.heap.get? e=some H)(j:H.cls=.ref C)(hb:a.contains (.type "BaseException")=true)(l:Q ((Value.ref C::o).contains (.ref D)) s):wpAny M A (excMatches (.ref e) (.ref D)) Q E s:=by
 obtain⟨h,g,d,t,os⟩:=s;have b:(Value.ref D::a).contains (.type "BaseException")=true:=by rw[List.contains_cons,hb,Bool.or_true]
 have f:=tc_notTuple;unfold excMatches
 repeat(first|(with_reducible show wpAny_loadPart_at he ?_;rw[j])|with_reducible show wpAny_loadPart_at I ?_|(with_reducible show wpAny_isSubtype_exc I ?_;rw[b])|(with_reducible show wpAny_isSubtype_exc hC ?_)|wp_step)
 cases hc:(Value.ref C::o).contains (Value.ref D)with|true=>rw[hc]at l;rw[g6 ()];show fx (fx (fx l))|false=>rw[hc]at l;rw[g_ iq];show fx (fx (fx l))
end
def HJ(K:O2)(C:Addr)(a:O6):Prop:=∃b dd cd sl,K.lookup C=some {b,dd,.cls cd,sl}/\cd.mro=.ref C::a
def HJ.is{K:O2}{C:Addr}{d c:O6}{h:Heap}{o:Obj}{a:ClassData}(m:HJ K C d)(kin:K.In h)(e:h.get? C=some o)(hd:o.data=.cls a)(hm:a.mro=.ref C::c):c=d:=by obtain⟨f,dd,cd,sl,l,r⟩:=m;have b:=kin _ _ l;rw[e]at b;cases b;have hd:Data.cls cd=Data.cls a:=hd;cases hd;rw[hm]at r;show(List.cons.inj r).2
def FH(K:O2)(C D:Addr):Prop:=∃a,HJ K C a/\(Value.ref C::a).contains (.ref D)=false
def K1(f:XK->TS)(g:Addr)(a:TS)(h:Addr)(c:TS):TS:=λD b H=>f (λd _ e=>(d=.ref g/\a D b e)\/(d=.ref h/\c D b e)) D b H
def GA{X:Cx}{st b1 b2:Stmt}{a c:List Stmt}{tb:XK->TS}{j l:TS}{r t:Addr}{u v:Str}{y A B C G:Pos}(J:X.stack=X.env::X.outer)(hf:X.env.frame=some X.env.locals)(M:va X.K r)(P:Gl X u)(Q:X.mg u=some (.ref r))(R:va X.K t)(S:Gl X v)(W:X.mg v=some (.ref t))(Z:FH X.K t r)(hb:∀(E:XK)(d:O4)(m:St)(x:O3),mn (vS X.prog X.w) (X.wish x) E d m->Kt (X.wish x) d m st (tb E))(aa:∀i,u5 (X.inExc i) (b1::a) j)(ad:∀i,u5 (X.inExc i) (b2::c) l)(n:(u==("__debug__":Str))=false:=by decide)(o:(v==("__debug__":Str))=false:=by decide):PS X (.Try [st] [.ExceptHandler (some (.Name u y)) none (b1::a) A,.ExceptHandler (some (.Name v B)) none (b2::c) C] [] [] G) (K1 tb r j t l):=by
 intro d s m H D I h;obtain⟨O,Z,U⟩:=Z;show C0 J hf (λE p m x hx=>Jw (hb E p m x hx)) I h λi C' H' s5 b L=>?_;obtain⟨bm,N,nm,q,bs,hd,sn,sub,ab,ap,dd,k0,k1,k2,k3,k5,mN,k,hN,as,T⟩:=M.at I.mod.kin;obtain⟨V,N',ax,q',a2,a3,a5,Y,a6,al,a7,a8,a9,ba,bb,bc,bi,e,bl,an,T'⟩:=R.at I.mod.kin;obtain⟨ob,g,f⟩:=L.obj;show wpAny_handleBy_cons (codeAny_handlers_test (mE (L.inv.inExc i) P Q ?_ n)) (by intro z;cases z);rcases b with⟨rfl,b⟩|⟨rfl,b⟩
 ·show wpAny_excMatches_sub_self (L.inv.bk _ _ k) g f (T.hasType PySem.F.excBase_ValueError.hasBase) (codeAny_handlers_suite (L.run aa b λ_ _ z=>z))
 ·show Cl (L.inv.bk _ _ e) (L.inv.bk _ _ k) g f (T.hasType PySem.F.excBase_ValueError.hasBase) ?_;obtain rfl:V=O:=Z.is I.mod.kin e () ();rw[U];show wpAny_handleBy_cons (codeAny_handlers_test (mE (L.inv.inExc i) S W ?_ o)) (by intro z;cases z);show wpAny_excMatches_sub_self (L.inv.bk _ _ e) g f (T'.hasType PySem.F.excBase_ValueError.hasBase) (codeAny_handlers_suite (L.run ad b λ_ _ z=>z))
end L2
namespace L2
open PySem PySem.Spec PyProof.Rows PySem.W
section
variable{X:Cx}
def LX(K:O2)(e:TA):TI:=λb H R=>e b H λf a=>∃t l g h,f=[.ref t,.ref l]/\aY K a t g/\∃c,HF c K a l h/\R (Mo c K t l) a
def GC(K:O2)(D:X.K=K){i:O9}{E:Nat}{j:Pos}{a b:Expr}{z:TA}{p m:Pos}(hg:Gl X "zip")(hm:X.mg "zip"=none)(F:PA X [a,b] z)(G:starEach [a,b] X.env=[(false,eval a X.env),(false,eval b X.env)]:=by rfl)(n:starEach [b] X.env=[(false,eval b X.env)]:=by rfl):PI X (.Tuple i E j) (.Call (.Name "zip" p) [a,b] [] m) (LX K z):=by
 subst D;intro k s J H R I h;show tA (kS I hg hm Fn (x3 (cq (F m k s J H _ I h) λus f L=>?_) (by rw[G,n]) (by rw[n];rfl)));obtain⟨vs,M,I1,N,t,l,xs,ys,e,w,c,x,q⟩:=L;subst e;obtain⟨u,v,rfl,rt,O⟩:=vV N;obtain rfl:u=Value.ref t:=rt;obtain rfl:v=Value.ref l:=O;obtain⟨y,rv,pl,hz⟩:=I1.tuple w;obtain⟨A,P,o,Q⟩:=I1.sqE x;obtain⟨o1,S,_⟩:=id pl;obtain⟨o2,T,_⟩:=id o;show CG (show f.heap.IsTuple t y.toArray from pl) o λg B U V Y Z kk=>?_;show wpAny_pyIter_zip B {_,[f.heap.objs.size+4,f.heap.objs.size+2,f.heap.objs.size+3,f.heap.objs.size,f.heap.objs.size+1],_,_,M,(),I1.kept (t':=f.toks) kk,CY (ktu_apart f.heap.objs.size t l (hY S) (hY T)),{B,U,{_,_,V},Y,Z},λb C=>?_,q};have r:f.heap.objs.size<=b:=by simp only[q_,op,E_]at C;rcases C with rfl|rfl|rfl|rfl|rfl<;>first|show e_ _|show Nat.le_add_right _ _
 show I1.fpOk r (I1.hok.fresh r)
def CF{K:O2}{a l:Addr}{xs ys:List V}{g:TG}{ds:Pa}{k:Nat}{tc:TT}{te:TE}{E:St}{j:Hp}{F:Addr->Hp->Prop}(Pv:Addr->Nat->List V->Hp->Prop)(r:aS K j l ys\/aY K j l ys)(h0:∀D,j D=none->Pv D 0 [] (aH j D (.lst [])))(w:xs.length=ys.length)(G:∀D i f h,Pv D i f h->aY K h a xs/\am j h)(H:∀D i x y f h T,j D=none->xs[i]?=some x->ys[i]?=some y->Pv D i f h->h T=none->g (.ref T) (iL ds k E) (aH h T (.tup [x,y])) λn A=>tc n A λb t=>if b=true then te n t λy u=>u D=some (.lst f)/\f.length<sizeLine/\∃o,o<xs.length-i/\o=xs.length-(i+1)/\i+1<=xs.length/\Pv D (i+1) (f++[y]) (aH u D (.lst (f++[y])))else∃o,o<xs.length-i/\o=xs.length-(i+1)/\i+1<=xs.length/\Pv D (i+1) f t)(hd:∀D f h,j D=none->Pv D xs.length f h->F D h):∃c,HF c K j l ys/\∀D,j D=none->∃W:Nat->Nat->List V->Hp->Prop,(∃m,W 0 m [] (aH j D (.lst [])))/\∀i m f h,W i m f h->((Mo c K a l).stop i h/\F D h)\/((Mo c K a l).go i h/\∀x B,(Mo c K a l).yld i h x B->g x (iL ds k E) B λn A=>tc n A λb t=>if b=true then te n t λy u=>u D=some (.lst f)/\f.length<sizeLine/\∃o,o<m/\W (i+1) o (f++[y]) (aH u D (.lst (f++[y])))else∃o,o<m/\W (i+1) o f t):=by
 obtain⟨c,hc,I⟩:∃c,HF c K j l ys/\∀h,am j h->HF c K h l ys:=by
  rcases r with r|r
  ·show{true,r,λ_ z=>z.seq r}
  ·show{false,r,λ_ z=>am.tseq z r}
 show{c,hc,λD C=>{λi m f h=>m=xs.length-i/\i<=xs.length/\Pv D i f h,{_,(),ku _,h0 D C},?_}};rintro i m f h⟨rfl,hi,p⟩;obtain⟨q,v⟩:=G D i f h p;have v:=I h v
 by_cases s:i<xs.length
 ·show .inr {{xs,ys,xs[i],ys[i],q,v,by simp[s],by simp[<-w,s]},λx B y=>?_};obtain⟨T,J,L,M,e,N,y⟩:=y;subst e N;obtain⟨O,P⟩:=y xs ys q v;show H D i J L f _ T C O P p M
 ·have e:i=xs.length:=Nat.le_antisymm hi (OR s);subst e;show .inl {{xs,q,e_ _},hd D f h C p}
end
def E5(hh:A.handled=none)(c t:Addr)(ne:t≠c)(a:O_):Draws P w A c [c,t] a.size (λi v=>a[i]?=some v) (λi h=>h.IsTupleIter c t i/\h.IsTuple t a)where
 live:=λ_ _ st=>let⟨o,e,_⟩:=st.1;(o,e,)
 frame:=λ_ _ _ st k=>{st.1.at λo e=>k c (by simp) o e,st.2.at λo e=>k t (by simp) o e}
 item:=λi s Q E hi st q=>sR st.1 st.2 (v:=a[i]) (by simp[hi]) λg d b=>q _ g s.toks (by simp[hi]) {d,st.2.extBut b.extBut ne} b
 done:=λs Q E st q=>yg hh st.1 st.2 (by simp) q
def za(t:Addr)(a:O_)(n:Nat)(f:Option Addr)(sl:Array (Option Value)):Meets (Builtin.«enumerate.__new__» {[.type "enumerate",.ref t],[]}) (λ_ R s=>s.heap.get? t=some {cls:=.type "tuple",dict:=f,data:=.seq a n,slots:=sl}/\R (.ok (.ret (.ref (FL s.heap t).objs.size))) {s with heap:=(FL s.heap t).push {cls:=.type "enumerate",data:=.fields #[.none,.bool false,.ref s.heap.objs.size,rawInt 0,.none,.none]}}):=.of_wp λprog w A R s h=>by
  obtain⟨i,g,d,tk,os⟩:=s;obtain⟨b,h⟩:=h;have f1:=sub_enumerate;have e:Heap.IsTuple (Shared.heap (i,g,d,tk,os,)) t a:={_,b,(),n,()}
  wp_walk using N8 b
  show wpAny_stack_any λst=>fx ?_
  split
  ·rename_i c _ _ _ _ _;cases(c==Value.type "enumerate")<;>(wp_walk using N8 b,Nk e)<;>show{_,(),h}
  ·wp_walk using N8 b,Nk e
   show{_,(),h}
def AN(i:s.heap.IsTuple t a)(q:∀g,IsEnum g (s.heap.objs.size+1) s.heap.objs.size 0 .none->g.IsTupleIter s.heap.objs.size t 0->(∀b o,s.heap.get? b=some o->g.get? b=some o)->Q (.ref (s.heap.objs.size+1)) {s with heap:=g}):wpAny (model P w) A (call (.type "enumerate") [.ref t]) Q E s:=by
 obtain⟨⟨c,j,dt,sl⟩,k,d,n,e⟩:=i;simp only at d e;subst d e;show callType_new F.called_enumerate (by decide) (F.typeCall_enumerate_1 _) (F.newCall_enumerate_1 _) (λob=>F.args_object_init_2 ob _) F.entry_enumerate_new (za t a n j sl) {k,?_};have f:(FL s.heap t).objs.size=s.heap.objs.size+1:=ov ..;change _/\_;rw[f];have h:IsEnum ((FL s.heap t).push {cls:=.type "enumerate",data:=.fields #[.none,.bool false,.ref s.heap.objs.size,rawInt 0,.none,.none]}) (s.heap.objs.size+1) s.heap.objs.size 0 .none:=by have z:=gg (FL s.heap t) (o:={cls:=.type "enumerate",data:=.fields #[.none,.bool false,.ref s.heap.objs.size,rawInt 0,.none,.none]}) ();rw[f]at z;show z
 show{{_,h,()},q _ h {_,c_ _ (gg _ ()),(),()} λb o x=>c_ _ (c_ _ x)}
def Ite(K:O2)(t:Addr):It:={λi H=>∃a x,aY K H t a/\a[i]?=some x,λi H v b=>∃T x,H T=none/\v=.ref T/\b=aH H T (.tup [.int i,x])/\∀a,aY K H t a->a[i]?=some x,λi H=>∃a,aY K H t a/\a.length=i}
def BM{P:O7}{w:World}{K:O2}{r:O9}{Z:Nat}{F:Pos}{e a t:Addr}(n1:e≠a)(n2:t≠a)(n3:t≠e):vN P w K (.Tuple r Z F) (Ite K t) [e,a] e (λi h=>(∃d,IsEnum h e a i d)/\h.IsTupleIter a t i)where
 mem:=by simp
 obj:=λi h st b j=>by
  obtain⟨⟨_,a1⟩,ob,l,_,d2⟩:=st;simp only[q_,op,E_]at j;rcases j with rfl|rfl
  ·show{_,a1,λv z=>by cases z}
  ·show{_,l,λv z=>by rw[d2]at z;cases z}
 keep:=λi h h' st k=>by obtain⟨⟨d,a1⟩,l⟩:=st;show{{d,k e (by simp) _ a1},l.at λob z=>k a (by simp) ob z}
 item:=by
  intro X G J L hc i m s R H E I B st hg;subst G J L;obtain⟨V,x,C,S⟩:=hg;obtain⟨f,M,p,Y⟩:=I.tuple C;obtain⟨u,T,ru⟩:=M.get S;obtain⟨⟨d,a1⟩,l⟩:=st;have hi:i<f.toArray.size:=by rw[h_];show(d_.mp T).1
  have n:X.A.in1.handled=none:=by simp[I.ok.hd hc]
  show wpAny_pyNext_enum_itemD (E5 n a t n2 f.toArray) a1 (l,p,) hi n1 (by simp[n1,nn n3]) λv g tk D b1 b2 b3 b4 off=>?_;have ev:v=u:=by have D:f.toArray[i]?=some v:=D;rw[Ox,T]at D;show(j1 D).symm
  subst ev;show{_,(),wpAny_letOwnedTupleGo_enum b1 λg' c1 N=>?_};have lt:∀c∈[e,a],c≠s.heap.objs.size:=λc y z=>by
   have hs:∃ob,s.heap.get? c=some ob:=by
    simp only[q_,op,E_]at y;rcases y with rfl|rfl
    ·show{_,a1}
    ·obtain⟨ob,z,_⟩:=l;show(ob,z,)
   obtain⟨ob,h⟩:=hs;rw[z]at h;show absurd (hY h) (o_ _)
  have fresh:H s.heap.objs.size=none:=I.hok.fresh (e_ _);have I1:aO X m R (aH H s.heap.objs.size (.tup [.int i,x])) {s with heap:=s.heap.push {cls:=.type "tuple",data:=.seq #[.int i tk,v]},toks:=tk+1}:=I.laid (λb o z=>c_ _ z) (e_ _) {by rw[g8];simp,[.int i tk,v],.cons {tk,()} (.cons ru .nil),{_,gg _ (),(),_,()}}
  have I2:=kr (h':=g') (t':=tk+1) (ch:=[e,a]) I1 (λb o j z=>?_) (λb j=>?_)
  ·show{.ref s.heap.objs.size,_,I2,(),{_,x,fresh,(),(),λaa h1=>by rw[I.tuple_inj h1 C];show S},{{_,by simpa using c1},b2.1.extBut N.extBut (nn n1)},λb j=>?_};rw[ak (lt b j)];show(B b j).1
  ·have q:b≠e/\b≠a:=by simpa using j
   by_cases U:b=s.heap.objs.size
   ·subst U;rw[gg _ ()]at z;cases z;show N.extBut _ _ q.1 b3
   ·have z':s.heap.get? b=some o:=by
     rcases ND z with⟨O,_⟩|O
     ·show absurd O U
     ·show O
    show N.extBut _ _ q.1 (off b o q.1 q.2 z')
  ·obtain⟨f0,f1⟩:=B b j;show{by rw[ak (lt b j)];show f0,f1}
 done:=by
  intro X G J L hc i m s R H E I B st hg;subst G J L;obtain⟨V,C,rfl⟩:=hg;obtain⟨f,M,p,Y⟩:=I.tuple C;have hl:=M.length;obtain⟨⟨d,a1⟩,l⟩:=st;have n:X.A.in1.handled=none:=by simp[I.ok.hd hc]
  have Q:s.heap.IsTupleIter a t f.toArray.size:=by rw[h_,<-hl];show l
  show wpAny_pyNext_enum_endD (E5 n a t n2 f.toArray) a1 (Q,p,) λg off=>{(),kr (t':=s.toks) (ch:=[e,a]) I (λb o j z=>?_) B};have q:b≠e/\b≠a:=by simpa using j
  show off b o q.2 z
 self:=λ_ _ _ _ _ st h=>by obtain⟨⟨d,a1⟩,_⟩:=st;show wpAny_pyIter_enum a1 h
section
variable{X:Cx}
def L4(K:O2)(c:TA):TI:=λb H R=>c b H λd a=>∃t e,d=[.ref t]/\aY K a t e/\R (Ite K t) a
def GG(K:O2)(r:X.K=K){c:O9}{v:Nat}{d:Pos}{a:Expr}{m:TA}{p f:Pos}(hg:Gl X "enumerate")(hm:X.mg "enumerate"=none)(w:PA X [a] m)(x:starEach [a] X.env=[(false,eval a X.env)]:=by rfl):PI X (.Tuple c v d) (.Call (.Name "enumerate" p) [a] [] f) (L4 K m):=by
 subst r;intro i s y H R I h;show tA (kS I hg hm L2.uS (x3 (cq (w f i s y H _ I h) λG j⟨J,z,I1,A,B⟩=>?_) (by rw[x];rfl) (by rfl)));obtain⟨t,L,e,C,q⟩:=B;subst e;obtain⟨u,rfl,rt⟩:=jk A;obtain rfl:u=Value.ref t:=rt;obtain⟨l,M,pl,N⟩:=I1.tuple C;obtain⟨O,D,_⟩:=id pl;have lt:=hY D;show AN (show j.heap.IsTuple t l.toArray from pl) λg n E F=>?_;show wpAny_pyIter_enum n {_,[j.heap.objs.size+1,j.heap.objs.size],_,_,z,(),I1.kept (t':=j.toks) F,BM (t:=t) (n_ (si _)) (ir lt) (ir (so lt)),{{_,n},E},λb o=>?_,q};have k:j.heap.objs.size<=b:=by
  simp only[q_,op,E_]at o;rcases o with rfl|rfl
  ·show Nat.le_add_right _ _
  ·show e_ _
 show I1.fpOk k (I1.hok.fresh k)
end
def Iti(P:O7)(w:World)(d:Addr)(a:List (bY×V))(ep:Nat):It:={λi H=>H d=some (dE P w d a ep)/\i<a.length,λi H x b=>∃T k v,H T=none/\x=.ref T/\b=aH H T (.tup [kV k,v])/\a[i]?=some (k,v),λi H=>H d=some (dE P w d a ep)/\a.length<=i}
def zP{P:O7}{w:World}{K:O2}{l:O9}{Q:Nat}{t:Pos}(d f:Addr)(a:List (bY×V))(ep:Nat):vN P w K (.Tuple l Q t) (Iti P w d a ep) [f] f (λi h=>∃ok m,IsItemIter h f d i a.length ep ok m)where
 mem:=by simp
 obj:=λi h st b g=>by
  have e:b=f:=by simpa using g
  subst e;obtain⟨_,_,e⟩:=st;show{_,e,λv z=>by cases z}
 keep:=λi h h'⟨ok,m,e⟩k=>{ok,m,k f (by simp) _ e}
 item:=by
  intro X x y A hc i j s J H E I p st hg;subst x y A;obtain⟨hd,hi⟩:=hg;obtain⟨⟨_,B,q,C⟩,_⟩:=I.hok d _ hd;have c:a.length=B.length:=Paired.length q;have L:a[i]?=some a[i]:=ga hi;obtain⟨u,R,ru⟩:=xD q i a[i].1 a[i].2 L;obtain⟨ok,m,st⟩:=st;have lt:f<s.heap.objs.size:=hY st;rw[c]at st;show wpAny_pyNext_items_item st C R λn h' S out T hz U=>?_;show{_,(),wpAny_letOwnedTupleGo_items out λY M N=>?_};rw[<-c]at M;have fresh:H s.heap.objs.size=none:=I.hok.fresh (e_ _);have I1:aO X j J (aH H s.heap.objs.size (.tup [kV a[i].1,a[i].2])) {s with heap:=s.heap.push {cls:=.type "tuple",data:=.seq #[n,u]}}:=I.laid (t':=s.toks) (λb o z=>c_ _ z) (e_ _) {by rw[g8];simp,[n,u],.cons (xz S) (.cons ru .nil),{_,gg _ (),(),_,()}}
  have Z:=kr (h':=Y) (t':=s.toks) (ch:=[f]) I1 (λb o g z=>?_) (λb g=>?_)
  ·show{.ref s.heap.objs.size,_,Z,(),{_,a[i].1,a[i].2,fresh,(),(),L},{_,_,M},λb g=>?_};have e:b=f:=by simpa using g
   subst e;rw[ak (ir lt)];show(p b g).1
  ·have D:b≠f:=by simpa using g
   by_cases r:b=s.heap.objs.size
   ·subst r;rw[gg _ ()]at z;cases z;show N.extBut _ _ D T
   ·have z':s.heap.get? b=some o:=by
     rcases ND z with⟨F,_⟩|F
     ·show absurd F r
     ·show F
    show N.extBut _ _ D (U b o D z')
  ·have e:b=f:=by simpa using g
   subst e;obtain⟨G,f1⟩:=p b g;show{by rw[ak (ir lt)];show G,f1}
 done:=by intro X x y A hc i j s J H E I p st hg;subst x y A;obtain⟨hd,hi⟩:=hg;obtain⟨⟨_,B,q,C⟩,_⟩:=I.hok d _ hd;have c:a.length=B.length:=Paired.length q;obtain⟨G,f1,f2,f3,f4,f5⟩:=p f (by simp);obtain⟨ok,m,st⟩:=st;rw[c]at st;show wpAny_pyNext_items_end (I.ok.hd hc) st C (oi (by omega)) λh' r=>{(),I.turned (t':=s.toks) (λb o g e=>r b o g e) G f1 f3 f4 f5}
 self:=λ_ _ _ _ _ st h=>by obtain⟨_,_,st⟩:=st;show kcp_self st h
section
variable{X:Cx}{P:O7}{w:World}{o:Expr}{i:TE}{c a f:Pos}{g:O9}{j:Nat}
def J4(P:O7)(w:World)(i:TE):TI:=λh H R=>i h H λx e=>∃d b,x=.ref d/\e d=some (.dK b)/\∀ep,R (Iti P w d b ep) (aH e d (dE P w d b ep))
def pk(B:PE X o i)(C:X.prog=P:=by rfl)(D:X.w=w:=by rfl)(l:attributeBase o "items" X.env (eval o X.env)=eval o X.env:=by rfl)(m:(c.endLine==a.line)=true:=by rfl):PI X (.Tuple g j f) (.Call (.Attribute o "items" c) [] [] a) (J4 P w i):=by
 subst C D;intro n s E H R I h;show wpAny_Call_method0_late l m (cq (B n s E H _ I h) λv k G=>?_);obtain⟨x,T,I1,J,d,p,e,hd,q⟩:=G;subst e;obtain rfl:v=Value.ref d:=J;obtain⟨ep,A,K,r,L,M⟩:=I1.walk hd;have t:p.length=A.length:=Paired.length K;obtain⟨ob,es,u,N,_⟩:=id r;show{"dict","dict.items",PySem.F.plainAttrs_dict,PySem.F.slot_dict_items,PySem.F.type_dict_items,r.dictOf.typeIs,?_,ri () (PySem.evalArgs_none (D_ PySem.F.slot_dict_items r.dictOf.typeIs PySem.F.entry_dict_items (PySem.F.args_dict_items_1 _) (meets_dict_items (aR X.prog X.w) d L) {(A,r.dictOf,),?_}))}
 ·intro b z;cases z;show(ob,u,N.2.1,)
 ·have O:(k.heap.push {cls:=.type "dict_items",data:=.fields #[.ref d]}).IsItemsView k.heap.objs.size d:={_,gg _ (),(),()};change wpAny _ _ (pyIter (.ref k.heap.objs.size)) _ _ _;have y:=M.kept (h':=k.heap.push {cls:=.type "dict_items",data:=.fields #[.ref d]}) (t':=k.toks) λb o e=>c_ _ e;show wpAny_pyIter_items (s:={k with heap:=k.heap.push {cls:=.type "dict_items",data:=.fields #[.ref d]}}) O (r.push _) ?_;show{_,[(k.heap.push {cls:=.type "dict_items",data:=.fields #[.ref d]}).objs.size],_,_,_,(),y.kept (t':=k.toks) λb o e=>c_ _ e,zP d _ p ep,{_,_,by rw[t];show gg _ ()},λb S=>?_,q ep};have e:b=(k.heap.push {cls:=.type "dict_items",data:=.fields #[.ref d]}).objs.size:=by simpa using S
  subst e;show y.fpOk (e_ _) (y.hok.fresh (e_ _))
end
def ou(n:Nat){c:Type}(R:c->Prop):KasT c->Prop|.ret a=>R a|.ask i j k=>i<n/\j<n/\∀b,ou n R (k b)
theorem ou.bind{n:Nat}{c d:Type}{R:c->Prop}{S:d->Prop}{f:c->KasT d}(e:∀a,R a->ou n S (f a)):∀{t:KasT c},ou n R t->ou n S (t.bind f)|.ret a,h=>e a h|.ask i j k,h=>{h.1,h.2.1,λb=>ou.bind e (h.2.2 b)}
theorem ou.wp{n:Nat}{d:Type}{R:d->Prop}{c:Nat->Nat->(Bool->Shared->Prop)->Shared->Prop}{Q:d->Shared->Prop}{s:Shared}(hc:∀i j C,i<n->j<n->(∀b,C b s)->c i j C s)(e:∀a,R a->Q a s):∀{t:KasT d},ou n R t->t.kasWp c Q s|.ret a,h=>e a h|.ask i j k,h=>hc i j _ h.1 h.2.1 λb=>ou.wp hc e (h.2.2 b)
def PR(n:Nat)(p:Array Nat):Prop:=p.toList.Perm (List.range n)
def PR.lt(h:PR n p)(hn:0<n)(k:Nat):p.getD k 0<n:=by
 by_cases a:k<p.size
 ·have e:p.getD k 0=p[k]:=by simp[Array.getD,a]
  rw[e];show s_.mp (h.mem_iff.mp (Array.mem_toList_iff.mpr (Array.getElem_mem a)))
 ·have e:p.getD k 0=0:=by simp[Array.getD,a]
  rw[e];show hn
def PR.rev(h:PR n p)(i j:Nat):PR n (kas_rev p i j):=(mirror_perm p i j _).toList.trans h
section
variable{n:Nat}(hn:0<n)
include hn
theorem xE(h:PR n p):∀f m,ou n (λ_=>True) (kas_asc p f m)|0,_=>trivial|f+1,m=>{h.lt hn _,h.lt hn _,λb=>by cases b with|true=>show trivial|false=>show xE h f (m+1)}
theorem pK:∀(f:Nat){p:Array Nat}(m q:Nat),PR n p->ou n (λr:Array Nat×Nat×Nat=>PR n r.1) (kas_desc f p m q)|0,_,_,_,h=>h|f+1,p,m,q,h=>⟨h.lt hn _,h.lt hn _,λb=>by
 cases b with|true=>
   show ou n _ (if q>0 then _ else _)
   split
   ·exact pK f _ _ (h.rev _ _)
   ·exact pK f _ _ h|false=>refine⟨h.lt hn _,h.lt hn _,λd=>?_⟩;cases d with|true=>exact h|false=>exact pK f _ _ h⟩
def zg{p:Array Nat}(m r:Nat)(h:PR n p):ou n (λr:Nat×Array Nat=>PR n r.2) (kas_tail3 m r p):=ou.bind (S:=λr:Nat×Array Nat=>PR n r.2) (f:=λa=>.ret (a,kas_rev p 0 m)) (λ_ _=>h.rev _ _) (xE hn (h.rev _ _) _ _)
def zh{p:Array Nat}(m r:Nat)(h:PR n p):ou n (λr:Nat×Array Nat=>PR n r.2) (kas_descPart m r p):=ou.bind (λa b=>by
 change ou n _ (if a.2.2>0 then _ else _)
 split
 ·show zg hn _ _ (b.rev _ _)
 ·show zg hn _ _ b) (pK hn _ _ _ h)
def Cs{p:Array Nat}(r:Nat)(h:PR n p):ou n (λr:Nat×Array Nat=>PR n r.2) (kas_count r p):=ou.bind (λm _=>by
 change ou n _ (if(m==r)=true then _ else _)
 split
 ·show h
 ·split
  ·show{h.lt hn _,h.lt hn _,λc=>?_};cases c with|true=>show h|false=>show zh hn _ _ (h.rev _ _)
  ·show zh hn _ _ h) (xE hn h _ _)
theorem qD{p:Array Nat}(h:PR n p)(k:Nat):∀f l r,ou n (λ_=>True) (kas_place p k f l r)
 |0,_,_=>trivial|f+1,l,r=>by
  change ou n _ (if l>=r then _ else _)
  split
  ·show trivial
  ·show{h.lt hn _,h.lt hn _,λc=>?_};cases c with|true=>show qD h k f _ _|false=>show qD h k f _ _
theorem Bq:∀(f:Nat){p:Array Nat}(k:Nat),PR n p->ou n (PR n) (kas_bin f p k)|0,_,_,h=>h|f+1,p,k,h=>ou.bind (λl _=>Bq f _ ((bubble_perm p k _).toList.trans h)) (qD hn h _ _ _ _)
def pJ:ou n (PR n) (kas_sort n):=ou.bind (λr a=>by
 change ou n _ (if r.1<n then _ else _)
 split
 ·show Bq hn _ _ a
 ·show a) (Cs hn _ (show(List.toArray (List.range n)).toList.Perm _ by show .refl _))
end
section
variable{prog:O7}{w:World}{A:Around}{E:O3}{s:Shared}{κ:SortKind}
def DD{a:Addr}{c:O6}{n:Nat}{P:Fin->Shared->Prop}(v:s.heap.get? a=some (seqObj "list" c.toArray n))(L:c.length<64)(M:2<=c.length->∀g:Shared,(∀b o,b≠a->s.heap.get? b=some o->g.heap.get? b=some o)->(∀Q:SortKind->Shared->Prop,Q κ g->wpAny (model prog w) A (keyKind' c.toArray) Q (λ_ _=>False) g)/\∀x y C,x∈c->y∈c->(∀b,C b g)->wpAny (model prog w) A (keyLt' κ x y) C (λ_ _=>False) g)(h:∀out:List Value,out.Perm c->P (.done (.ret .none)) {s with heap:=sortedHeap s.heap a c out.toArray}):wpAny (model prog w) A (Builtin.«list.sort» {[.ref a],[]}) P E s:=by
 rw[list_sort_plain];have B:c.toArray.size=c.length:=by simp
 show a_ (listItems_at v () ?_);show a_ (Nw v () ?_ (by rw[B,g8];lia) (ku _));obtain⟨D,k⟩:∃D,(s.heap.update a (Obj.mapSeq λ_=>#[])).get? a=some (seqObj "list" #[] D):={_,get?_update_seq v (λ_=>#[])};show a_ (NV k () ?_);show a_ (wpAny_newTuple ?_ (by change c.length<=_;rw[g8];lia));show a_ (N3 ?_ (ku _));show oa ?_;have kept:∀b o,b≠a->s.heap.get? b=some o->(((s.heap.update a (Obj.mapSeq λ_=>#[])).push (seqObj "tuple" c.toArray 0)).push (seqObj "list" #[] 0)).get? b=some o:=λb o N q=>c_ _ (c_ _ ((NL _ _ _ _ N).trans q))
 have d:(((s.heap.update a (Obj.mapSeq λ_=>#[])).push (seqObj "tuple" c.toArray 0)).push (seqObj "list" #[] 0)).get? a=some (seqObj "list" #[] D):=c_ _ (c_ _ k);change wpAny (model prog w) A _ P E {s with heap:=((s.heap.update a (Obj.mapSeq λ_=>#[])).push (seqObj "tuple" c.toArray 0)).push (seqObj "list" #[] 0)};dsimp only;have F:(c.toArray.zip c.toArray).size=c.length:=by simp
 by_cases h2:c.toArray.size<2
 ·rw[g6 h2,g6 h2];show a_ (fx ?_);rw[StateT.run_pure];show a_ (fx ?_);dsimp only;show a_ (NV d () ?_);show a_ (Nw d () ?_ (ku _) (by show iA (On ((Array.size_map ..).trans F)) ?_;rw[g8];lia));simp only[NW,z3,Ny];have e:(c.toArray.zip c.toArray).map (·.2)=c.toArray:=by
   apply Array.toList_inj.mp;have e:(c.toArray.zip c.toArray).toList=c.zip c:=by simp
   rw[OT,e];show List.map_snd_zip (e_ _)
  have:=h c (.refl _);rw[<-e]at this;show fx this
 ·rw[g_ h2,g_ h2];have l:2<=c.length:=by lia
  obtain⟨O,R⟩:=M l {s with heap:=((s.heap.update a (Obj.mapSeq λ_=>#[])).push (seqObj "tuple" c.toArray 0)).push (seqObj "list" #[] 0)} kept;show a_ (wpAny_mono (O (λm K=>m=κ/\K={s with heap:=((s.heap.update a (Obj.mapSeq λ_=>#[])).push (seqObj "tuple" c.toArray 0)).push (seqObj "list" #[] 0)}) {(),()}) (λm K z=>?_) λ_ _ x=>x.elim);obtain⟨rfl,rfl⟩:=z;show a_ (wpAny_mono (kat_run (ks:=c) (vs:=c) (Q:=λf r=>∃p:Array Nat,arrOf f=p.map (kas_item (c.toArray.zip c.toArray))/\failedOf f=none/\PR c.length p/\r=_) (G:=λp r=>PR c.length p/\r=_) () l L (λp f r a1 T U a4=>(p,T,U,a4,)) (ou.wp (λi j C hi V W=>?_) (λp u=>{u,()}) (pJ (by lia)))) ?_ λ_ _ e=>e)
  ·unfold kas_ask;have mem:∀i,i<c.length->c.getD i Value.none∈c:=λi hi=>by rw[lh,ga hi];show Oc hi
   show R _ _ C (mem i hi) (mem j V) W
  ·rintro⟨⟨⟩,f⟩r⟨p,H,X,u,rfl⟩;dsimp only;have t:=kat_snds (ks:=c) (vs:=c) () H;have I:p.toList.length=c.length:=by rw[u.length_eq,m_]
   have J:(p.toList.map λi=>c.getD i Value.none).Perm c:=by
    show(u.map λi=>c.getD i Value.none).trans (O0 ?_);show vl λi=>?_;rw[ge]
    by_cases hi:i<c.length
    ·rw[OB hi];simp[hi]
    ·rw[oi (by rw[m_];lia),oi (by lia)];rfl
   rw[t];show a_ (NV d () ?_);show a_ (Nw d () ?_ (ku _) (by rw[h_,b_,I,g8];lia));rw[X];simp only[NW,z3,Ny];show fx (h _ J)
end
def zI(h:Heap)(v:Value):Prop:=∃a o n x y z t u b,v=.ref a/\h.get? a=some o/\o.cls=.type "tuple"/\o.data=.seq #[.str x t,.str y u,.str z b] n
def zI.kept(p:zI h v)(k:∀b o,h.get? b=some o->h'.get? b=some o):zI h' v:=by obtain⟨a,o,n,x,y,z,t,u,c,e,d,r⟩:=p;show{a,o,n,x,y,z,t,u,c,e,k _ _ d,r}
section
variable{prog:O7}{w:World}{A:Around}{E:O3}{s:Shared}
def FQ(g:zI s.heap v)(h:zI s.heap u)(d:∀b,C b s):wpAny (model prog w) A (keyLt' (tuples' true) v u) C (λ_ _=>False) s:=by obtain⟨a,o,n,x,y,z,p,q,r,rfl,i,hc,hd⟩:=g;obtain⟨B,D,F,G,H,I,j,k,l,rfl,e,m,f⟩:=h;have c:∀{x y:Str}{t u:Tok},wpAny (model prog w) A (oneLt' false (.str x t) (.str y u)) C (λ_ _=>False) s:=λ{x y t u}=>kat_one _ _ (lt_str (d _));show kat_lt i hd e f (kat_cons (I_ (kat_go (λ_=>kat_yes (kat_cons (I_ (kat_go (λ_=>kat_yes (kat_cons (I_ (kat_go (λ_=>kat_yes (kat_nil (d _))) (λ_=>kat_no c))))) (λ_=>kat_no c))))) (λ_=>kat_no (oneLt_str (d _))))))
theorem qY:∀{c:O6},(∀v∈c,zI h v)->∃fs:List Value,KatTups h c fs/\fs.length=c.length/\∀v∈fs,∃x t,v=Value.str x t
 |[],_=>{[],.nil,(),λv b=>nomatch b}|u::r,d=>by
  obtain⟨a,o,n,x,y,z,e,g,i,rfl,f,hc,hd⟩:=d u (i_ ..);obtain⟨fs,h1,h2,h3⟩:=qY λv b=>d v (il _ b);show{.str x e::fs,.cons f hc hd () h1,by simp[h2],λv b=>?_};rcases q_.mp b with rfl|b
  ·show{_,_,()}
  ·show h3 v b
def zS(g:s.heap.IsList l vs.toArray)(i:vs.length<64)(j:∀v∈vs,zI s.heap v)(h:∀out:List Value,out.Perm vs->Q (.ref (s.heap.objs.size+1)) {s with heap:=sortedAll s.heap vs out.toArray}):wpAny (model prog w) A (call (.builtin "sorted") [.ref l]) Q E s:=by
 show NT kind_sorted plain_sorted entry_sorted (args_sorted1 _) ?_;unfold Builtin.«sorted»;show a_ (m:=checkCount "sorted" 1 1 _) (fx ?_);show a_ (collect_list g ?_ (by rw[g8];lia));show a_ (N3 ?_ (by rw[g8];lia));have c:((s.heap.push (seqObj "list" #[] 0)).update s.heap.objs.size (Obj.mapSeq (·++vs.toArray))).objs.size=s.heap.objs.size+1:=by rw[Heap.size_update,size_push']
 have e:(((s.heap.push (seqObj "list" #[] 0)).update s.heap.objs.size (Obj.mapSeq (·++vs.toArray))).push (seqObj "list" vs.toArray 0)).get? (s.heap.objs.size+1)=some (seqObj "list" vs.toArray 0):=by rw[<-c];show gg _ ()
 have keep:∀b o,s.heap.get? b=some o->b≠s.heap.objs.size+1/\(((s.heap.push (seqObj "list" #[] 0)).update s.heap.objs.size (Obj.mapSeq (·++vs.toArray))).push (seqObj "list" vs.toArray 0)).get? b=some o:=λb o q=>by have a:b<s.heap.objs.size:=hY q;show{ir (so a),?_};rw[N2 _ _ _ (by rw[c];show ir (so a)),NL _ _ _ _ (ir a),N2 _ _ _ (ir a)];show q
 change wpAny _ _ _ _ _ {s with heap:=((s.heap.push (seqObj "list" #[] 0)).update s.heap.objs.size (Obj.mapSeq (·++vs.toArray))).push (seqObj "list" vs.toArray 0)};rw[c];show a_ (oa (ol slot_list_sort (s:={s with heap:=((s.heap.push (seqObj "list" #[] 0)).update s.heap.objs.size (Obj.mapSeq (·++vs.toArray))).push (seqObj "list" vs.toArray 0)}) {_,e,()} OX (DD (κ:=tuples' true) e i (λh2 k n=>?_) λout a1=>{_,(),?_}) (args_list_sort _)))
 ·have d:∀v∈vs,zI k.heap v:=λv f=>(j v f).kept λb o q=>n b o (keep b o q).1 (keep b o q).2;show{λF p=>?_,λx y C r u z=>FQ (d x r) (d y u) z};obtain⟨fs,h1,B,h3⟩:=qY d;show kat_kind (T:=Value.type "str") h1 (by lia) (λv f=>?_) (by decide+kernel) ?_
  ·obtain⟨x,t,rfl⟩:=h3 v f;show Looks.of_pure ()
  ·rw[show(Value.type "str"!=Value.type "tuple")=true by decide+kernel];show p
 ·show fx {_,(),h out a1}
end
theorem xm:∀{c:Pb}{a:O6},a0 (c.map V.ref) a->a=c.map Value.ref|[],_,.nil=>()|u::r,_,.cons h t=>by obtain rfl:_=Value.ref u:=h;rw[xm t];rfl
theorem sJ:∀{a:Pb},a0 (a.map V.ref) (a.map Value.ref)|[]=>.nil|_::_=>.cons () sJ
def Cd(h:out.Perm (c.map Value.ref)):∃d:List Addr,d.Perm c/\out=d.map Value.ref:=by
 let f:Value->Addr:=λv=>match v with|.ref a=>a|_=>0
 have e:(c.map Value.ref).map f=c:=by rw[qr];show(w_ (g:=id) λa _=>()).trans (OU c)
 have i:(out.map f).map Value.ref=out:=by rw[qr];show(w_ (g:=id) λv j=>?_).trans (OU out);obtain⟨a,_,rfl⟩:=ji.mp (h.mem_iff.mp j);rfl
 have b:=h.map f;rw[e]at b;show{_,b,i.symm}
def AJ(K:O2)(A:X.K=K):df X (.builtin "sorted") (λl H Q=>∃(p:Addr)(c:Pb),l=[.ref p]/\aS K H p (c.map V.ref)/\c.length<64/\(∀u∈c,∃x y z,aY K H u [.str x,.str y,.str z])/\∀(q:Addr)(d:Pb),H q=none->d.Perm c->Q (.ref q) (aH H q (.lst (d.map V.ref)))):=by
 subst A;intro m s O H l P Q I r h;obtain⟨p,c,rfl,B,hn,C,q⟩:=h;obtain⟨u,rfl,D⟩:=jk r;obtain rfl:u=Value.ref p:=D;obtain⟨e,f,⟨o,n,g,i,w,E⟩,_⟩:=I.list B;obtain rfl:=xm f;show zS (vs:=c.map Value.ref) (o,g,i,n,E,) (by rw[b_];lia) (λv F=>?_) λout j=>?_
 ·obtain⟨a,hm,rfl⟩:=ji.mp F;obtain⟨x,y,z,G⟩:=C a hm;obtain⟨e,f,⟨o,g,i,n,w⟩,_⟩:=I.tuple G;cases f with|cons h1 t=>cases t with|cons h2 t=>cases t with|cons h3 t=>cases t;obtain⟨J,rfl⟩:=h1;obtain⟨L,rfl⟩:=h2;obtain⟨M,rfl⟩:=h3;show{a,o,n,x,y,z,J,L,M,(),g,i,w}
 ·obtain⟨d,b,rfl⟩:=Cd j;obtain⟨ep,k⟩:=sortedAll_at s.heap (c.map Value.ref) (d.map Value.ref).toArray;have N:=b.length_eq;show{.ref (s.heap.objs.size+1),_,I.laid (h':=sortedAll s.heap (c.map Value.ref) (d.map Value.ref).toArray) (t':=s.toks) (o:=.lst (d.map V.ref)) (λ_ _=>sortedAll_old) (p_ _) {?_,_,ep,sJ,k},(),q _ d (I.hok.fresh (p_ _)) b};rw[b_,g8];lia
def pS{J:It}{n:Nat}{g:TG}{ds:Pa}{k:Nat}{tc:TT}{te:TE}{r:St}{s:Hp}{D:Addr}{F:Hp->Prop}(Pv:Nat->List V->Hp->Prop)(h0:Pv 0 [] (aH s D (.lst [])))(hg:∀i a c,i<n->Pv i a c->J.go i c)(t:∀i a c x h,i<n->Pv i a c->J.yld i c x h->g x (iL ds k r) h λd q=>tc d q λb j=>if b=true then te d j λy l=>l D=some (.lst a)/\a.length<sizeLine/\∃f,f<n-i/\f=n-(i+1)/\i+1<=n/\Pv (i+1) (a++[y]) (aH l D (.lst (a++[y])))else∃f,f<n-i/\f=n-(i+1)/\i+1<=n/\Pv (i+1) a j)(hd:∀a c,Pv n a c->J.stop n c/\F c):∃W:Nat->Nat->List V->Hp->Prop,(∃m,W 0 m [] (aH s D (.lst [])))/\∀i m a c,W i m a c->(J.stop i c/\F c)\/(J.go i c/\∀x h,J.yld i c x h->g x (iL ds k r) h λd q=>tc d q λb j=>if b=true then te d j λy l=>l D=some (.lst a)/\a.length<sizeLine/\∃f,f<m/\W (i+1) f (a++[y]) (aH l D (.lst (a++[y])))else∃f,f<m/\W (i+1) f a j):=by
 show{λi m a c=>m=n-i/\i<=n/\Pv i a c,{_,(),ku _,h0},?_};rintro i m a c⟨rfl,hi,p⟩
 by_cases o:i<n
 ·show .inr {hg i a c o p,λx h y=>t i a c x h o p y}
 ·have e:i=n:=by lia
  subst e;show .inl (hd a c p)
def EY{J:It}{n:Nat}{g:TG}{tb:TS}{D:jP}{a:St}{H:Hp}(Pv:Nat->St->Hp->Prop)(h0:Pv 0 a H)(hg:∀i a H,i<n->Pv i a H->J.go i H)(l:∀i a H x c,i<n->Pv i a H->J.yld i H x c->g x a c λd h=>tb {D with nx:=Pv (i+1),ct:=Pv (i+1),bk:=D.nx} d h)(hd:∀a H,Pv n a H->J.stop n H/\D.nx a H):∃W:Nat->Nat->St->Hp->Prop,(∃m,W 0 m a H)/\∀i m a H,W i m a H->(J.stop i H/\D.nx a H)\/(J.go i H/\∃N:St->Hp->Prop,(∀f c,N f c->∃j,j<m/\W (i+1) j f c)/\∀x c,J.yld i H x c->g x a c λd h=>tb {D with nx:=N,ct:=N,bk:=D.nx} d h):=by
 show{λi m a H=>m=n-i/\i<=n/\Pv i a H,{n,by simp,ku _,h0},?_};rintro i m a H⟨rfl,hi,p⟩
 by_cases b:i<n
 ·show .inr {hg i a H b p,Pv (i+1),λf c k=>{n-(i+1),by omega,(),b,k},λx c y=>l i a H x c b p y}
 ·have e:i=n:=by lia
  subst e;show .inl (hd a H p)
end L2
namespace L2
open PySem
def rF{K:O2}{f:Str}{a C dx:Addr}{fs:List (Str×V)}{v:V}{H:Hp}{R:V->Prop}(h:H a=some (.ins C dx fs))(hc:x9 K C)(hn:b7 K C f)(j:fs.lookup f=some v)(k:R v):∃g d e c i,V.ref a=.ref g/\H g=some (.ins d e c)/\x9 K d/\b7 K d f/\c.lookup f=some i/\R i:={a,C,dx,fs,v,(),h,hc,hn,j,k}
def rM{a C dx:Addr}{m:Str}{fs:List (Str×V)}{H:Hp}{R:Prop}(h:H a=some (.ins C dx fs))(hn:fs.lookup m=none)(k:R):∃e d c,V.ref a=.ref e/\H e=some (.ins C d c)/\c.lookup m=none/\R:={a,dx,fs,(),h,hn,k}
def rG{d:Type}{a:Addr}{A R:Addr->d->Prop}(v:d)(h:A a v)(k:R a v):∃c e,V.ref a=.ref c/\A c e/\R c e:={a,v,(),h,k}
def rX{A:Addr->List V->Prop}{p:Addr}{c:List V}{i:Int}{v:V}{R:V->Prop}(h:A p c)(g:vM c i=some v)(k:R v):∃d a e f,V.ref p=.ref d/\V.int i=.int e/\A d a/\vM a e=some f/\R f:={p,c,i,v,(),(),h,g,k}
def rA{l:Addr}{c:List V}{y:V}{H:Hp}{R:Addr->List V->V->Prop}(h:H l=some (.lst c))(f:c.length<sizeLine)(k:R l c y):∃d a e,V.ref l=.ref d/\[y]=[e]/\H d=some (.lst a)/\a.length<sizeLine/\R d a e:={l,c,y,(),(),h,f,k}
def r2{i j:Int}{R:Int->Int->Prop}(k:R i j):∃a c,V.int i=.int a/\V.int j=.int c/\R a c:={i,j,(),(),k}
def U{a:Type}{A R:a->Prop}{v:a}(h:A v)(k:R v):∃v,A v/\R v:=(v,h,k,)
def fI{K:O2}{f:Str}{a C dx:Addr}{fs:List (Str×V)}{o:Option (Option V)}{v:V}{H:Hp}{R:V->Prop}(h:H a=some (.ins C dx fs))(hc:x9 K C)(hn:b7 K C f)(h0:o=some (some (.ref a)))(j:fs.lookup f=some v)(k:R v):∃w,o=some (some w)/\∃g d e c i,w=.ref g/\H g=some (.ins d e c)/\x9 K d/\b7 K d f/\c.lookup f=some i/\R i:={_,h0,a,C,dx,fs,v,(),h,hc,hn,j,k}
def iN{a C dx:Addr}{m:Str}{fs:List (Str×V)}{o:Option (Option V)}{H:Hp}{R:V->Prop}(h:H a=some (.ins C dx fs))(h0:o=some (some (.ref a)))(hn:fs.lookup m=none)(k:R (.ref a)):∃w,o=some (some w)/\∃e d c,w=.ref e/\H e=some (.ins C d c)/\c.lookup m=none/\R w:={_,h0,a,dx,fs,(),h,hn,k}
end L2
namespace L2
open PySem PySem.Spec PyProof.Rows PySem.W
section
def M0{A:Around}{k:Nat}(a:eS k A):A.units+65<cLine:=by have:=a.un;lia
end
set_option genInjectivity false in
set_option genSizeOf false in
structure AF where
 x:Addr
 d:FuncData
structure Df(K:O2)(mg:O5)(n:Str)(st:Stmt)(a:AF)(ps:O8):Prop where
 f:x8 K n n st a.x a.d
 m:mg n=some (.ref a.x)b:fU K a.d ps []
structure Mf(K:O2)(C:Addr)(n q:Str)(st:Stmt)(a:AF)(ps:O8):Prop where
 f:x8 K n q st a.x a.d
 m:FE K C n a.x
 b:fU K a.d ps []
section
variable{K:O2}{h:Heap}{mg:O5}{n q:Str}{st:Stmt}{x C:Addr}{fd:FuncData}
def Ig{c:O8}(X:K.In h)(G:h.Ns mainGlobals mg)(a:PySem.W.nsIn K mainGlobals n=some (some (.ref x)))(F:x8 K n n st x fd)(b:x8 K n n st x fd->fU K fd c []):Df K mg n st (x,fd,) c:={F,PySem.W.mg_of X G a,b F}
def LI{c:O8}(a:PySem.W.findIn K (.ref C) n=some (some (.ref x)))(i:PySem.W.isFn K (.ref x)=true)(F:x8 K n q st x fd)(b:x8 K n q st x fd->fU K fd c []):Mf K C n q st (x,fd,) c:={F,(a,i,F.kp,),b F}
def L7(X:K.In h)(G:h.Ns mainGlobals mg)(a:PySem.W.nsIn K mainGlobals n=some (some (.ref x))):mg n=some (.ref x):=PySem.W.mg_of X G a
def KY(X:K.In h)(G:h.Ns mainGlobals mg)(a:PySem.W.nsIn K mainGlobals n=some none):mg n=none:=PySem.W.mg_none_of X G a
def LW{i:Int}{t:Tok}(X:K.In h)(G:h.Ns mainGlobals mg)(a:PySem.W.nsIn K mainGlobals n=some (some (.int i t))):∃u,mg n=some u/\aV (.int i) u:={_,PySem.W.mg_of X G a,_,()}
def Ln{i:Str}{t:Tok}(X:K.In h)(G:h.Ns mainGlobals mg)(a:PySem.W.nsIn K mainGlobals n=some (some (.str i t))):∃u,mg n=some u/\aV (.str i) u:={_,PySem.W.mg_of X G a,_,()}
def Ia(a:PySem.W.excIn K x [.type "ValueError",.type "Exception",.type "BaseException",.type "object"] "ValueError.__new__"=true):va K x:=a
def Bi(a:PySem.W.findIn K (.ref C) n=some none):b7 K C n:=a
def LS{dd:Option Addr}{a:O_}{d:Nat}{sl:Array (Option Value)}{c:List V}(w:K.lookup x=some {.type "tuple",dd,.seq a d,sl})(y:a0 c a.toList)(l:Nat.ble c.length 65536=true):L2.ME K x c:={_,a,d,w,(),(),by rw[<-kw,<-y.length];show dg (Nat.le_of_ble_eq_true l),y}
def Mg{d:Value}{f:Option Addr}{a:ClassData}{g:Array (Option Value)}{c:O6}(l:K.lookup x=some {d,f,.cls a,g})(o:a.mro=.ref x::c)(e:(Value.ref x::c).contains (.ref C)=false):L2.FH K x C:={_,{_,_,_,_,l,o},e}
abbrev KM(st:Stmt)(n q:Str)(kV a pm:Value)(d:Option Addr)(c ct:Value)(e:O6):=bindArgs (PySem.W.fnOf n q (pR st) (gI st) (ai st) .none kV a pm d c ct) {e,[]}
variable{c d f g j m:Str}
def vG{n:Nat}{e:O6}(h:e.length=n+1):∃u a,e=u::a/\a.length=n:=by cases e with|nil=>cases h|cons u a=>show{u,a,(),Nat.succ.inj h}
def b1(F:x8 K n q st x fd)(h:∀kV a pm i e ct u,KM st n q kV a pm i e ct [u]=pure [(c,u)]:=by intros;rfl):fU K fd [c] []:=F.binds λkV a pm i e ct b k=>by obtain⟨u,b,rfl,h1⟩:=vG k;cases List.length_eq_zero_iff.mp h1;show h kV a pm i e ct u
def b2(F:x8 K n q st x fd)(h:∀kV a pm i e ct u v,KM st n q kV a pm i e ct [u,v]=pure [(c,u),(d,v)]:=by intros;rfl):fU K fd [c,d] []:=F.binds λkV a pm i e ct b k=>by obtain⟨u,b,rfl,h1⟩:=vG k;obtain⟨v,b,rfl,h2⟩:=vG h1;cases List.length_eq_zero_iff.mp h2;show h kV a pm i e ct u v
def b3(F:x8 K n q st x fd)(h:∀kV a pm i e ct u v w,KM st n q kV a pm i e ct [u,v,w]=pure [(c,u),(d,v),(f,w)]:=by intros;rfl):fU K fd [c,d,f] []:=F.binds λkV a pm i e ct b k=>by obtain⟨u,b,rfl,h1⟩:=vG k;obtain⟨v,b,rfl,h2⟩:=vG h1;obtain⟨w,b,rfl,h3⟩:=vG h2;cases List.length_eq_zero_iff.mp h3;show h kV a pm i e ct u v w
def b4(F:x8 K n q st x fd)(h:∀kV a pm i e ct u v w y,KM st n q kV a pm i e ct [u,v,w,y]=pure [(c,u),(d,v),(f,w),(g,y)]:=by intros;rfl):fU K fd [c,d,f,g] []:=F.binds λkV a pm i e ct b k=>by obtain⟨u,b,rfl,h1⟩:=vG k;obtain⟨v,b,rfl,h2⟩:=vG h1;obtain⟨w,b,rfl,h3⟩:=vG h2;obtain⟨y,b,rfl,h4⟩:=vG h3;cases List.length_eq_zero_iff.mp h4;show h kV a pm i e ct u v w y
def b5(F:x8 K n q st x fd)(h:∀kV a pm i e ct u v w y z,KM st n q kV a pm i e ct [u,v,w,y,z]=pure [(c,u),(d,v),(f,w),(g,y),(j,z)]:=by intros;rfl):fU K fd [c,d,f,g,j] []:=F.binds λkV a pm i e ct b k=>by obtain⟨u,b,rfl,h1⟩:=vG k;obtain⟨v,b,rfl,h2⟩:=vG h1;obtain⟨w,b,rfl,h3⟩:=vG h2;obtain⟨y,b,rfl,h4⟩:=vG h3;obtain⟨z,b,rfl,l⟩:=vG h4;cases List.length_eq_zero_iff.mp l;show h kV a pm i e ct u v w y z
def b6(F:x8 K n q st x fd)(h:∀kV a pm i e ct u v w y z r,KM st n q kV a pm i e ct [u,v,w,y,z,r]=pure [(c,u),(d,v),(f,w),(g,y),(j,z),(m,r)]:=by intros;rfl):fU K fd [c,d,f,g,j,m] []:=F.binds λkV a pm i e ct b k=>by obtain⟨u,b,rfl,h1⟩:=vG k;obtain⟨v,b,rfl,h2⟩:=vG h1;obtain⟨w,b,rfl,h3⟩:=vG h2;obtain⟨y,b,rfl,h4⟩:=vG h3;obtain⟨z,b,rfl,l⟩:=vG h4;obtain⟨r,b,rfl,o⟩:=vG l;cases List.length_eq_zero_iff.mp o;show h kV a pm i e ct u v w y z r
end
def cd{i j:Int}(h:decide (0<j/\j<1073741824)=true):fH i j:=(l_ h:0<j/\j<1073741824)
def ls{n:Nat}(h:Nat.ble n 65536=true):n<=sizeLine:=dg (Nat.le_of_ble_eq_true h)
section
variable{X:Cx}{n:Str}{st:Stmt}{a:AF}{h:O8}{sp:Sp}{j k:Nat}{e:Expr}{es:O9}{t:TA}{p c:Pos}
def pc(D:Df X.K X.mg n st a h)(F:aP X.prog X.w X.K X.mg X.base cP j a.x a.d h sp)(l:eS k X.A)(o:PA X (e::es) t)(q:j<=k:=by decide)(hg:Gl X n:=by rfl)(g:(n==("__debug__":Str))=false:=by decide)(r:starEach (e::es) X.env=(false,eval e X.env)::starEach es X.env:=by rfl)(i:(backTo c (starEach es X.env)).any (·.1)=false:=by rfl):PE X (.Call (.Name n p) (e::es) [] c) (HQ sp [] E0 t):=bR (F.mono q) l hg D.m D.f.kp D.b .nil aQ o g r i
def bp(i:Nat){x:Str}{te:TE}{d:Pos}(g:X.N.Nodup)(l:PE X e te)(hi:X.N[i]?=some x:=by rfl)(f:X.env.scope.names.lookup x=some .local:=by rfl)(m:swapsWith e (some (.Name x d)) c.line X.env=pure false:=by rfl):PS X (.Assign [.Name x d] e c) (yj te (ky i)):=ua g hi (.inl f) l m (.inr f)
def qo(i:Nat){x:Str}(f:X.N.Nodup)(hi:X.N[i]?=some x:=by rfl)(d:X.env.scope.names.lookup x=some .local:=by rfl):PG X (.Name x c) (ky i):=xo f hi (.inl d) (.inr d)
def lB(N0 d:O8)(i:Nat){x:Str}(f:(N0++d).Nodup:=by decide+kernel)(g:X.N=N0++d:=by rfl)(hi:(N0++d)[i]?=some x:=by rfl)(l:Kw X.env.scope x:=by first|show Or.inl ()|show Or.inr ())(m:X.fn x=true\/X.env.scope.names.lookup x=some .local:=by first|show .inl ()|show .inr ()):PG X (.Name x c) (ky i):=by rw[<-g]at f hi;show xo f hi l m
def sB(N0 d:O8)(ds m:Pa)(f:Scope){i o iter:Expr}{l:O9}{scope:Scope}{s:TI}{g:TG}{tc:TT}{te:TE}(hg:GK g m)(hi:PI X o iter s)(u:∀cl C s₀ H₀ ex,PG (X.comp scope (N0++d) cl C s₀ H₀ ex) o g/\HH (X.comp scope (N0++d) cl C s₀ H₀ ex) l tc/\PE (X.comp scope (N0++d) cl C s₀ H₀ ex) i te)(hc:X.calm=true:=by rfl)(q:X.N=N0:=by rfl)(r:X.env.scope=f:=by rfl)(ok:qL N0 ds f scope=true:=by decide+kernel)(v:(m.all λj=>ds.contains j||decide (N0.length<=j))=true:=by decide+kernel)(w:∀x,foldedSetIterable iter X.env x=pure x:=by intro _;rfl):PE X (.ListComp i [{o,iter,l,0}] scope c) (sV s g ds d.length tc te):=Ht N0 d ds m f hc q r ok v hg hi u w
def Ff(i:Nat)(N0 d:O8)(ds s:Pa)(f:Scope){x:Str}{l m:Pos}{o r iter:Expr}{q:O9}{scope:Scope}{A:TI}{g:TG}{tc:TT}{te:TE}(hg:GK g s)(hi:PI X r iter A)(B:∀cl C s₀ H₀ ex,PG (X.comp scope (N0++d) cl C s₀ H₀ ex) r g/\HH (X.comp scope (N0++d) cl C s₀ H₀ ex) q tc/\PE (X.comp scope (N0++d) cl C s₀ H₀ ex) o te)(u:N0.Nodup)(hc:X.calm=true:=by rfl)(v:X.N=N0:=by rfl)(w:X.env.scope=f:=by rfl)(ok:qL N0 ds f scope=true:=by decide+kernel)(D:(s.all λj=>ds.contains j||decide (N0.length<=j))=true:=by decide+kernel)(y:N0[i]?=some x:=by rfl)(E:f.names.lookup x=some .local:=by rfl)(z:swapsWith (.ListComp o [{r,iter,q,0}] scope c) (some (.Name x l)) m.line X.env=pure true:=by rfl)(F:∀x,foldedSetIterable iter X.env x=pure x:=by intro _;rfl):PS X (.Assign [.Name x l] (.ListComp o [{r,iter,q,0}] scope c) m) (yj (sV A g ds d.length tc te) (ky i)):=Fi N0 d ds s f hc v w ok D hg hi B u y E z F
def iR(K:O2){a b:Expr}{d f:TE}(g:PE X a d)(i:PE X b f)(l:X.K=K:=by rfl)(m:xZ b:=by intro _ _;rfl):PE X (.Subscript a b c) (KB (Jm K) d f):=yK (EG K l) g i m
def dJ(K:O2){a b:Expr}{d f:TE}(g:PE X a d)(i:PE X b f)(l:X.K=K:=by rfl)(m:xZ b:=by intro _ _;rfl):PE X (.Subscript a b c) (KB (Jl K) d f):=yK (G9 K l) g i m
end
section
variable{P:O7}{w:World}{K:O2}{mg:O5}{base:Heap}{n q:Str}{st:Stmt}{a:AF}{C:Addr}{N c:O8}{k:Nat}{sp:Sp}
theorem Df.ok(D:Df K mg n st a c)(S:av N c (ai st))(e:∀(g:Value)(A:Around)(outer:List Env)(s:Shared)(H:Hp)(i:List V)(Q:VK)(E:XK),eS k (A.deeper (envOfC n (ai st) s.heap.objs.size a.x g))->sp i H Q E->∃t,u5 (qJ cP P w K mg base N n (ai st) a.x g A outer s H E).nox (gI st) t/\t {nx:=λ_ j=>Q .non j,rt:=Q} (iX N i) H)(len:∀i H Q E,sp i H Q E->i.length=c.length:=by intro _ _ _ _ h;cases h;subst_vars;rfl):aP P w K mg base cP (k+1) a.x a.d c sp:=D.f.ok S len e
theorem Mf.ok(D:Mf K C n q st a c)(S:av N c (ai st))(e:∀(g:Value)(A:Around)(outer:List Env)(s:Shared)(H:Hp)(i:List V)(Q:VK)(E:XK),eS k (A.deeper (envOfC q (ai st) s.heap.objs.size a.x g))->sp i H Q E->∃t,u5 (qJ cP P w K mg base N q (ai st) a.x g A outer s H E).nox (gI st) t/\t {nx:=λ_ j=>Q .non j,rt:=Q} (iX N i) H)(len:∀i H Q E,sp i H Q E->i.length=c.length:=by intro _ _ _ _ h;cases h;subst_vars;rfl):aP P w K mg base cP (k+1) a.x a.d c sp:=D.f.ok S len e
theorem Df.okE(D:Df K mg n st a c)(S:av N c (ai st))(e:∀(g:Value)(A:Around)(outer:List Env)(s:Shared)(H:Hp)(i:List V)(Q:VK)(E:XK),eS k (A.deeper (envOfC n (ai st) s.heap.objs.size a.x g))->sp i H Q E->∃t,u5 (qJ (vS P w) P w K mg base N n (ai st) a.x g A outer s H E) (gI st) t/\t {nx:=λ_ j=>Q .non j,rt:=Q} (iX N i) H)(len:∀i H Q E,sp i H Q E->i.length=c.length:=by intro _ _ _ _ h;cases h;subst_vars;rfl):aP P w K mg base (vS P w) (k+1) a.x a.d c sp:=D.f.okE S len e
theorem Mf.okE(D:Mf K C n q st a c)(S:av N c (ai st))(e:∀(g:Value)(A:Around)(outer:List Env)(s:Shared)(H:Hp)(i:List V)(Q:VK)(E:XK),eS k (A.deeper (envOfC q (ai st) s.heap.objs.size a.x g))->sp i H Q E->∃t,u5 (qJ (vS P w) P w K mg base N q (ai st) a.x g A outer s H E) (gI st) t/\t {nx:=λ_ j=>Q .non j,rt:=Q} (iX N i) H)(len:∀i H Q E,sp i H Q E->i.length=c.length:=by intro _ _ _ _ h;cases h;subst_vars;rfl):aP P w K mg base (vS P w) (k+1) a.x a.d c sp:=D.f.okE S len e
end
end L2
namespace L2
open PySem PySem.W PyProof.Rows
def Fx(K:O2)(C D:Addr):Prop:=va K C/\∃a,HJ K C a/\(Value.ref C::a).contains (.ref D)=true
def KZ{K:O2}{x C:Addr}{d:Value}{f:Option Addr}{a:ClassData}{g:Array (Option Value)}{c:O6}(h:va K x)(l:K.lookup x=some {d,f,.cls a,g})(o:a.mro=.ref x::c)(e:(Value.ref x::c).contains (.ref C)=true):Fx K x C:={h,_,{_,_,_,_,l,o},e}
end L2
set_option genSizeOf false
namespace My
open PySem L2
seal L2.u5 L2.PS L2.PE L2.PT L2.PA L2.PI L2.PG L2.PW L2.Ku L2.PO
def gu(i:Nat):Stmt:=PySem.Challenge.pw_layersplit_k29_a_head_of_a_book.main.body.getD i (.Pass ⟨0,0,0,0⟩)
abbrev lu(c i:Nat):Stmt:=(Hu (gu c)).getD i (.Pass {0,0,0,0})
abbrev tU:Stmt:=gu 19
abbrev kJ:Stmt:=gu 20
abbrev wc:Stmt:=gu 21
abbrev tW:Stmt:=gu 22
abbrev nK:Stmt:=gu 27
abbrev tR:Stmt:=gu 28
abbrev q9:Stmt:=gu 34
abbrev wg:Stmt:=gu 35
abbrev jq:Stmt:=gu 36
abbrev tZ:Stmt:=gu 37
abbrev oX:Stmt:=gu 38
abbrev nJ:Stmt:=gu 39
abbrev wf:Stmt:=gu 40
abbrev sH:Stmt:=gu 41
abbrev tX:Stmt:=gu 47
abbrev we:Stmt:=gu 48
abbrev tV:Stmt:=gu 49
abbrev q8:Stmt:=gu 50
abbrev kK:Stmt:=gu 51
abbrev jF:Stmt:=gu 52
abbrev nL:Stmt:=gu 53
abbrev mW:Stmt:=gu 54
abbrev oR:Stmt:=gu 55
abbrev mY:Stmt:=gu 56
abbrev mU:Stmt:=gu 57
abbrev oS:Stmt:=gu 58
abbrev rb:Stmt:=gu 59
abbrev j0:Stmt:=gu 60
abbrev mV:Stmt:=gu 61
abbrev mT:Stmt:=gu 62
abbrev jE:Stmt:=gu 63
abbrev oW:Stmt:=gu 64
abbrev mS:Stmt:=gu 65
abbrev mZ:Stmt:=gu 66
abbrev lK:Stmt:=gu 67
abbrev k9:Stmt:=gu 68
abbrev oU:Stmt:=gu 69
abbrev mR:Stmt:=gu 70
abbrev oT:Stmt:=gu 71
abbrev oV:Stmt:=gu 72
abbrev tT:Stmt:=gu 74
abbrev A5:Stmt:=gu 75
abbrev tS:Stmt:=gu 77
abbrev lM:Stmt:=lu 79 0
abbrev j3:Stmt:=lu 79 1
abbrev jr:Stmt:=lu 79 2
abbrev kM:Stmt:=lu 79 3
abbrev kL:Stmt:=lu 79 4
abbrev jt:Stmt:=lu 79 5
abbrev oY:Stmt:=lu 79 6
abbrev lN:Stmt:=lu 82 0
abbrev lL:Stmt:=lu 83 0
abbrev lR:Stmt:=lu 84 0
abbrev t9:Stmt:=lu 84 1
abbrev pd:Stmt:=lu 84 2
abbrev j9:Stmt:=lu 84 3
abbrev j7:Stmt:=lu 84 4
abbrev fj:Stmt:=lu 84 5
abbrev ld:Stmt:=lu 84 6
abbrev j8:Stmt:=lu 84 7
abbrev ka:Stmt:=lu 84 8
abbrev lQ:Stmt:=lu 84 9
abbrev j6:Stmt:=lu 84 10
abbrev lc:Stmt:=lu 84 11
abbrev fE:Stmt:=lu 84 12
abbrev gP:Stmt:=lu 84 13
abbrev j4:Stmt:=lu 84 14
abbrev m9:Stmt:=lu 84 15
abbrev ng:Stmt:=lu 84 16
abbrev ju:Stmt:=lu 84 17
abbrev i3:Stmt:=lu 84 19
abbrev io:Stmt:=lu 84 20
abbrev pb:Stmt:=lu 84 21
abbrev m4:Stmt:=lu 84 22
abbrev lO:Stmt:=lu 84 23
abbrev i4:Stmt:=lu 84 24
abbrev lP:Stmt:=lu 84 25
abbrev j5:Stmt:=lu 84 26
abbrev pf:Stmt:=lu 84 27
abbrev m7:Stmt:=lu 84 28
abbrev o9:Stmt:=lu 84 29
abbrev tY:Stmt:=gu 86
abbrev t7:Stmt:=gu 88
abbrev yE:Stmt:=gu 89
abbrev A6:Stmt:=gu 90
abbrev yF:Stmt:=gu 91
abbrev Ba:Stmt:=gu 92
abbrev t5:Stmt:=gu 93
abbrev Bb:Stmt:=gu 95
abbrev o7:Stmt:=gu 96
abbrev kN:Stmt:=gu 97
abbrev oZ:Stmt:=gu 98
abbrev Bc:Stmt:=gu 99
abbrev sI:Stmt:=gu 100
abbrev A7:Stmt:=gu 101
abbrev A4:Stmt:=gu 102
set_option genInjectivity false in
set_option genSizeOf false in
structure fJ where(gF fW d0 ko kn kc fu mH iV cn bX jQ mG dU eV mF km iS g9 gn kC gk fX cA eX gU gW bN cR gj gh gY gi gm fw eJ gX gf eW eY ki wP ke eg cg bd ee d8 cI fY et d7 dC fh f9 c9 c8 bG dI ck db eA c7 cw bw c5 bF ff fg cJ eu fe f8 dA ia cO cN c6 de dB fZ kx je eK rL oo eR qU w4 hV hU qT w5 u0 wZ law:AF)(bO fc fS bo kW BD FC FA Ij BA FD FB BB zK BC oq kX fC u4:Addr)pm:Params
structure Txt(K:O2)(mg:O5)(a:fJ):Prop where
 G0:mg "Table"=some (.ref a.bO)G3:mg "Layer"=some (.ref a.fc)GZ:mg "Trial"=some (.ref a.fS)Bm:mg "House"=some (.ref a.bo)G1:mg "SplitError"=some (.ref a.kW)KG:mg "NoHouse"=some (.ref a.BD)LO:mg "NoDeed"=some (.ref a.FC)LM:mg "NoWord"=some (.ref a.FA)Mz:mg "Taken"=some (.ref a.Ij)KC:mg "Unknown"=some (.ref a.BA)LP:mg "NoArms"=some (.ref a.FD)LN:mg "NoRule"=some (.ref a.FB)KD:mg "NoShuts"=some (.ref a.BB)JX:mg "NoNumber"=some (.ref a.zK)KF:mg "NoMarks"=some (.ref a.BC)zd:mg "Closed"=some (.ref a.oq)zc:mg "NoRoom"=some (.ref a.kX)Cn:mg "LENGTHS"=some (.ref a.fC)Ey:mg "HELD"=some (.ref a.u4)gF:Df K mg "is_whole" tU a.gF ["thing"]fW:Df K mg "is_text_of" kJ a.fW ["thing","signs","longest"]d0:Df K mg "is_word" wc a.d0 ["thing"]ko:Df K mg "is_guest" tW a.ko ["thing"]kn:Df K mg "is_prime" nK a.kn ["thing"]kc:Df K mg "point_of" tR a.kc ["p","salt","guest"]fu:Df K mg "is_number" q9 a.fu ["thing"]mH:Df K mg "is_mark" wg a.mH ["thing"]iV:Df K mg "are_marks" jq a.iV ["thing"]cn:Df K mg "has_form" tZ a.cn ["thing","depth"]bX:Df K mg "all_within" oX a.bX ["rule"]jQ:Df K mg "words_of" nJ a.jQ ["rule"]mG:Df K mg "is_rule" wf a.mG ["thing"]dU:Df K mg "holds" sH a.dU ["rule","marks"]eV:Df K mg "is_count" tX a.eV ["thing"]mF:Df K mg "is_salt" we a.mF ["thing"]km:Df K mg "is_total" tV a.km ["thing"]iS:Df K mg "is_weight" q8 a.iS ["thing"]g9:Df K mg "are_counts" kK a.g9 ["thing","many"]gn:Df K mg "are_weights" jF a.gn ["thing","many"]kC:Df K mg "are_arms" nL a.kC ["thing"]gk:Df K mg "check_house" mW a.gk ["prime","salt"]fX:Df K mg "check_word" oR a.fX ["thing"]cA:Df K mg "check_guest" mY a.cA ["thing"]eX:Df K mg "check_marks" mU a.eX ["thing"]gU:Df K mg "check_rule" oS a.gU ["thing"]gW:Df K mg "check_new" rb a.gW ["thing","names"]bN:Df K mg "check_standing" j0 a.bN ["thing","names"]cR:Df K mg "check_known" mV a.cR ["thing","names"]gj:Df K mg "check_place" mT a.gj ["thing","prime"]gh:Df K mg "check_slope" jE a.gh ["thing","prime","layers"]gY:Df K mg "check_arms" oW a.gY ["thing"]gi:Df K mg "check_shuts" mS a.gi ["thing","trials"]gm:Df K mg "check_count" mZ a.gm ["thing"]fw:Df K mg "check_shares" lK a.fw ["thing","many"]eJ:Df K mg "check_dealing" k9 a.eJ ["total","weights","many"]gX:Df K mg "check_form" oU a.gX ["deed"]gf:Df K mg "check_trial" mR a.gf ["deed","layers","trials"]eW:Df K mg "check_open" oT a.eW ["deed","trials"]eY:Df K mg "check_deed" oV a.eY ["deed","prime","layers","trials"]ki:Df K mg "most_due" tT a.ki ["weights","given"]wP:Df K mg "dealt" A5 a.wP ["total","weights"]ke:Df K mg "place_of" tS a.ke ["p","slope","point"]eg:Mf K a.bO "__init__" "Table.__init__" lM a.eg ["self","many"]cg:Mf K a.bO "owner_of" "Table.owner_of" j3 a.cg ["self","place"]bd:Mf K a.bO "places_of" "Table.places_of" jr a.bd ["self","owner"]ee:Mf K a.bO "free" "Table.free" kM a.ee ["self"]d8:Mf K a.bO "told" "Table.told" kL a.d8 ["self","wanted"]cI:Mf K a.bO "give_back" "Table.give_back" jt a.cI ["self","owner","number"]fY:Mf K a.bO "take" "Table.take" oY a.fY ["self","owner","number"]et:Mf K a.fc "__init__" "Layer.__init__" lN a.et ["self","slope","many"]d7:Mf K a.fS "__init__" "Trial.__init__" lL a.d7 ["self","home","arms","rule","shuts"]dC:Mf K a.bo "__init__" "House.__init__" lR a.dC ["self","prime","salt"]fh:Mf K a.bo "do" "House.do" t9 a.fh ["self","deed"]f9:Mf K a.bo "done" "House.done" pd a.f9 ["self","deed"]c9:Mf K a.bo "do_layer" "House.do_layer" j9 a.c9 ["self","name","slope"]c8:Mf K a.bo "do_trial" "House.do_trial" j7 a.c8 ["self","name","trial"]bG:Mf K a.bo "do_share" "House.do_share" fj a.bG ["self","name","numbers"]dI:Mf K a.bo "do_hold" "House.do_hold" ld a.dI ["self","name","number"]ck:Mf K a.bo "do_pause" "House.do_pause" j8 a.ck ["self","name","paused"]db:Mf K a.bo "do_close" "House.do_close" ka a.db ["self","name"]eA:Mf K a.bo "do_bar" "House.do_bar" lQ a.eA ["self","guest","name"]c7:Mf K a.bo "do_visit" "House.do_visit" j6 a.c7 ["self","guest","marks"]cw:Mf K a.bo "put_out" "House.put_out" lc a.cw ["self","layer","guests"]bw:Mf K a.bo "after_visit" "House.after_visit" fE a.bw ["self","guest","marks"]c5:Mf K a.bo "seat_for" "House.seat_for" gP a.c5 ["self","layer","guest","marks","been"]bF:Mf K a.bo "place_in" "House.place_in" j4 a.bF ["self","layer","guest"]ff:Mf K a.bo "place" "House.place" m9 a.ff ["self","layer","guest"]fg:Mf K a.bo "owner" "House.owner" ng a.fg ["self","layer","place"]cJ:Mf K a.bo "places_in" "House.places_in" ju a.cJ ["self","trial","arm"]eu:Mf K a.bo "shares" "House.shares" i3 a.eu ["self","trial"]fe:Mf K a.bo "stand" "House.stand" io a.fe ["self","guest"]f8:Mf K a.bo "ever" "House.ever" pb a.f8 ["self","guest"]dA:Mf K a.bo "would" "House.would" m4 a.dA ["self","guest","marks"]ia:Mf K a.bo "who" "House.who" lO a.ia ["self","trial"]cO:Mf K a.bo "layers" "House.layers" i4 a.cO ["self"]cN:Mf K a.bo "trials" "House.trials" lP a.cN ["self"]c6:Mf K a.bo "layer_of" "House.layer_of" j5 a.c6 ["self","trial"]de:Mf K a.bo "book" "House.book" pf a.de ["self"]dB:Mf K a.bo "prime" "House.prime" m7 a.dB ["self"]fZ:Mf K a.bo "salt" "House.salt" o9 a.fZ ["self"]kx:Df K mg "house_of" tY a.kx ["prime","salt","deeds"]je:Df K mg "_law_cell_at" t7 a.je ["_law_script","_law_k"]eK:Df K mg "_law_mixed" yE a.eK ["_law_script","_law_k","_law_salt"]rL:Df K mg "_law_word" A6 a.rL ["_law_k","_law_number"]oo:Df K mg "_law_guest" yF a.oo ["_law_k","_law_number"]eR:Df K mg "_law_rule" Ba a.eR ["_law_number","_law_high"]qU:Df K mg "_law_marks" t5 a.qU ["_law_number"]w4:Df K mg "_law_plan" Bb a.w4 ["_law_script"]hV:Df K mg "_law_new_layer" o7 a.hV ["_law_script","_law_plan_here"]hU:Df K mg "_law_new_trial" kN a.hU ["_law_script","_law_plan_here","_law_number"]qT:Df K mg "_law_share" oZ a.qT ["_law_script","_law_plan_here","_law_k","_law_number"]w5:Df K mg "_law_deed" Bc a.w5 ["_law_script","_law_plan_here","_law_k"]u0:Df K mg "_law_snap" sI a.u0 ["_law_house","_law_guests"]wZ:Df K mg "_law_told" A7 a.wZ ["_law_house","_law_deed_here"]law:Df K mg "law" A4 a.law ["_law_script"]CN:∃u,mg "LETTERS"=some u/\aV (.str "abcdefghijklmnopqrstuvwxyz") u
 nA:∃u,mg "GUEST_SIGNS"=some u/\aV (.str "abcdefghijklmnopqrstuvwxyz0123456789") u
 uO:∃u,mg "LONGEST_WORD"=some u/\aV (.int 12) u
 sC:∃u,mg "LONGEST_GUEST"=some u/\aV (.int 24) u
 vK:∃u,mg "LEAST_PRIME"=some u/\aV (.int 2) u
 qO:∃u,mg "GREATEST_PRIME"=some u/\aV (.int 997) u
 Hx:∃u,mg "MIXER"=some u/\aV (.int 1009) u
 xT:∃u,mg "MOST_MARKS"=some u/\aV (.int 8) u
 uP:∃u,mg "DEEPEST_RULE"=some u/\aV (.int 6) u
 xS:∃u,mg "MOST_RULES"=some u/\aV (.int 30) u
 xP:∃u,mg "MOST_WORDS"=some u/\aV (.int 3) u
 zC:∃u,mg "MOST_ARMS"=some u/\aV (.int 4) u
 xR:∃u,mg "MOST_SHUTS"=some u/\aV (.int 8) u
 xQ:∃u,mg "MOST_TOTAL"=some u/\aV (.int 1000) u
 bn:x9 K a.bO
 Ek:L2.Mk K a.bO a.eg.x
 ny:b7 K a.bO "many"eD:b7 K a.bO "owners"gB:b7 K a.bO "taken"bB:x9 K a.fc
 El:L2.Mk K a.fc a.et.x
 gC:b7 K a.fc "slope"dQ:b7 K a.fc "table"bH:b7 K a.fc "inside"aZ:x9 K a.fS
 Ej:L2.Mk K a.fS a.d7.x
 eF:b7 K a.fS "home"fN:b7 K a.fS "arms"nu:b7 K a.fS "rule"lZ:b7 K a.fS "shuts"iI:b7 K a.fS "paused"eC:b7 K a.fS "closed"iJ:b7 K a.fS "barred"ao:x9 K a.bo
 y8:L2.Mk K a.bo a.dC.x
 bV:b7 K a.bo "own_prime"gE:b7 K a.bo "own_salt"aK:b7 K a.bo "layer_named"aJ:b7 K a.bo "trial_named"cY:b7 K a.bo "came_into"i7:b7 K a.bo "deeds"FJ:va K a.kW
 Ke:va K a.BD
 KK:va K a.FC
 KI:va K a.FA
 L9:va K a.Ij
 Kb:va K a.BA
 KL:va K a.FD
 KJ:va K a.FB
 Kc:va K a.BB
 Ib:va K a.zK
 Kd:va K a.BC
 wM:va K a.oq
 wL:va K a.kX
 Aw:L2.HK K a.pm a.fC
 qB:∃tk,PySem.W.nsIn K a.fC "layer"=some (some (.int 3 tk))qy:∃tk,PySem.W.nsIn K a.fC "trial"=some (some (.int 6 tk))qz:∃tk,PySem.W.nsIn K a.fC "share"=some (some (.int 3 tk))sx:∃tk,PySem.W.nsIn K a.fC "deal"=some (some (.int 4 tk))sw:∃tk,PySem.W.nsIn K a.fC "hold"=some (some (.int 3 tk))qA:∃tk,PySem.W.nsIn K a.fC "pause"=some (some (.int 2 tk))vF:∃tk,PySem.W.nsIn K a.fC "go"=some (some (.int 2 tk))qC:∃tk,PySem.W.nsIn K a.fC "close"=some (some (.int 2 tk))uC:∃tk,PySem.W.nsIn K a.fC "bar"=some (some (.int 3 tk))qw:∃tk,PySem.W.nsIn K a.fC "visit"=some (some (.int 3 tk))Bo:L2.ME K a.u4 [.str "",.str ""]qQ:L2.FH K a.oq a.kX
 ye:L2.Fx K a.kX a.kW
 yf:L2.Fx K a.oq a.kW
 wz:mg "all"=none
 Eh:mg "any"=none
 JN:mg "bool"=none
 Eg:mg "divmod"=none
 y7:mg "enumerate"=none
 LG:mg "int"=none
 bS:mg "isinstance"=none
 bE:mg "len"=none
 uz:mg "list"=none
 LF:mg "max"=none
 Ef:mg "min"=none
 eO:mg "range"=none
 Ao:mg "reversed"=none
 Ee:mg "set"=none
 uy:mg "sorted"=none
 HW:mg "str"=none
 LE:mg "sum"=none
 dZ:mg "tuple"=none
 LD:mg "zip"=none
def ScB(N P:O8)(a:Scope):Bool:=decide (a.kind=.function)&&!a.isCoroutine&&!a.isGenerator&&decide N.Nodup&&decide (N.take P.length=P)&&P.all (λx=>decide (a.names.lookup x=some .local\/a.names.lookup x=some .cell))&&a.names.all λy=>decide (y.2≠.free)
def cV{N P:O8}{a:Scope}(h:ScB N P a=true:=by rfl):av N P a:=by simp only[ScB,k_,decide_eq_true_eq,Bool.not_eq_true',C2]at h;show(h.1.1.1.1.1.1,h.1.1.1.1.1.2,h.1.1.1.1.2,h.1.1.1.2,h.1.1.2,h.1.2,h.2,)
def yw:av ["thing"] ["thing"] (ai tU):=cV
abbrev kY:List Str:=["thing","signs","longest"]
def vd:av kY ["thing","signs","longest"] (ai kJ):=cV
def zU:av ["thing"] ["thing"] (ai wc):=cV
def yz:av ["thing"] ["thing"] (ai tW):=cV
def yy:av ["thing"] ["thing"] (ai nK):=cV
def jm:av ["p","salt","guest","mixed","sign"] ["p","salt","guest"] (ai tR):=cV
def xj:av ["thing"] ["thing"] (ai q9):=cV
def zX:av ["thing"] ["thing"] (ai wg):=cV
def xl:av ["thing"] ["thing"] (ai jq):=cV
def lH:av ["thing","depth","kind"] ["thing","depth"] (ai tZ):=cV
def ij:av ["rule","found","inner"] ["rule"] (ai oX):=cV
def yu:av ["rule"] ["rule"] (ai nJ):=cV
def zW:av ["thing"] ["thing"] (ai wf):=cV
abbrev pV:List Str:=["rule","marks","kind"]
def tw:av pV ["rule","marks"] (ai sH):=cV
def yA:av ["thing"] ["thing"] (ai tX):=cV
def zV:av ["thing"] ["thing"] (ai we):=cV
def yx:av ["thing"] ["thing"] (ai tV):=cV
def xi:av ["thing"] ["thing"] (ai q8):=cV
abbrev iP:List Str:=["thing","many"]
def vi:av iP ["thing","many"] (ai kK):=cV
abbrev nE:List Str:=["thing","many"]
def tL:av nE ["thing","many"] (ai jF):=cV
def yB:av ["thing"] ["thing"] (ai nL):=cV
def tI:av ["prime","salt"] ["prime","salt"] (ai mW):=cV
def ve:av ["thing"] ["thing"] (ai oR):=cV
def tJ:av ["thing"] ["thing"] (ai mY):=cV
def tG:av ["thing"] ["thing"] (ai mU):=cV
def vf:av ["thing"] ["thing"] (ai oS):=cV
def xk:av ["thing","names"] ["thing","names"] (ai rb):=cV
def oI:av ["thing","names"] ["thing","names"] (ai j0):=cV
def tH:av ["thing","names"] ["thing","names"] (ai mV):=cV
def tF:av ["thing","prime"] ["thing","prime"] (ai mT):=cV
abbrev jM:List Str:=["thing","prime","layers"]
def tE:av jM ["thing","prime","layers"] (ai jE):=cV
def vh:av ["thing"] ["thing"] (ai oW):=cV
def i0:av ["thing","trials","k","name"] ["thing","trials"] (ai mS):=cV
def tK:av ["thing"] ["thing"] (ai mZ):=cV
def rN:av ["thing","many"] ["thing","many"] (ai lK):=cV
def qj:av ["total","weights","many"] ["total","weights","many"] (ai k9):=cV
def vg:av ["deed"] ["deed"] (ai oU):=cV
def tz:av ["deed","layers","trials"] ["deed","layers","trials"] (ai mR):=cV
def jC:av ["deed","trials","trial","many"] ["deed","trials"] (ai oT):=cV
def mP:av ["deed","prime","layers","trials","kind"] ["deed","prime","layers","trials"] (ai oV):=cV
def jn:av ["weights","given","best","k"] ["weights","given"] (ai tT):=cV
def oH:av ["total","weights","given","turn","k"] ["total","weights"] (ai A5):=cV
def lF:av ["p","slope","point","x","y"] ["p","slope","point"] (ai tS):=cV
def rP:av ["self","many"] ["self","many"] (ai lM):=cV
def oJ:av ["self","place"] ["self","place"] (ai j3):=cV
def nH:av ["self","owner"] ["self","owner"] (ai jr):=cV
def vj:av ["self"] ["self"] (ai kM):=cV
abbrev iQ:List Str:=["self","wanted","more","back","owner","number"]
def dF:av iQ ["self","wanted"] (ai kL):=cV
def dW:av ["self","owner","number","places","back","place"] ["self","owner","number"] (ai jt):=cV
def ik:av ["self","owner","number","places","more","place"] ["self","owner","number"] (ai oY):=cV
def rQ:av ["self","slope","many"] ["self","slope","many"] (ai lN):=cV
def rO:av ["self","home","arms","rule","shuts"] ["self","home","arms","rule","shuts"] (ai lL):=cV
def rW:av ["self","prime","salt"] ["self","prime","salt"] (ai lR):=cV
def qZ:av ["self","deed","answer"] ["self","deed"] (ai t9):=cV
def mQ:av ["self","deed","kind"] ["self","deed"] (ai pd):=cV
def oQ:av ["self","name","slope"] ["self","name","slope"] (ai j9):=cV
def oP:av ["self","name","trial"] ["self","name","trial"] (ai j7):=cV
abbrev cU:List Str:=["self","name","numbers","trial","layer","back","guests"]
def dy:av cU ["self","name","numbers"] (ai fj):=cV
def qk:av ["self","name","number"] ["self","name","number"] (ai ld):=cV
def jo:av ["self","name","paused","trial"] ["self","name","paused"] (ai j8):=cV
def jp:av ["self","name","trial"] ["self","name"] (ai ka):=cV
def iH:av ["self","guest","name","trial","layer"] ["self","guest","name"] (ai lQ):=cV
def cD:av ["self","guest","marks","answer","name","trial","arm","layer"] ["self","guest","marks"] (ai j6):=cV
def fi:av ["self","layer","guests","out","guest","seat"] ["self","layer","guests"] (ai lc):=cV
abbrev fG:List Str:=["self","guest","marks","been","answer","name","layer","seat"]
def bD:av fG ["self","guest","marks"] (ai fE):=cV
abbrev hE:List Str:=["self","layer","guest","marks","been","owner","trial"]
def gw:av hE ["self","layer","guest","marks","been"] (ai gP):=cV
def oN:av ["self","layer","guest"] ["self","layer","guest"] (ai j4):=cV
def tP:av ["self","layer","guest"] ["self","layer","guest"] (ai m9):=cV
def tQ:av ["self","layer","place"] ["self","layer","place"] (ai ng):=cV
def nI:av ["self","trial","arm"] ["self","trial","arm"] (ai ju):=cV
abbrev jc:List Str:=["self","trial"]
def rS:av jc ["self","trial"] (ai i3):=cV
abbrev dH:List Str:=["self","guest","standing"]
def lJ:av dH ["self","guest"] (ai io):=cV
def vm:av ["self","guest"] ["self","guest"] (ai pb):=cV
def tN:av ["self","guest","marks"] ["self","guest","marks"] (ai m4):=cV
abbrev jA:List Str:=["self","trial","inside"]
def oM:av jA ["self","trial"] (ai lO):=cV
def rT:av ["self"] ["self"] (ai i4):=cV
def rR:av ["self"] ["self"] (ai lP):=cV
def oO:av ["self","trial"] ["self","trial"] (ai j5):=cV
def vn:av ["self"] ["self"] (ai pf):=cV
def tO:av ["self"] ["self"] (ai m7):=cV
def vk:av ["self"] ["self"] (ai o9):=cV
def lG:av ["prime","salt","deeds","house","deed"] ["prime","salt","deeds"] (ai tY):=cV
def yD:av ["_law_script","_law_k"] ["_law_script","_law_k"] (ai t7):=cV
def jW:av ["_law_script","_law_k","_law_salt","_law_cell","_law_lap","_law_near"] ["_law_script","_law_k","_law_salt"] (ai yE):=cV
def oK:av ["_law_k","_law_number","_law_some","_law_stem","_law_at"] ["_law_k","_law_number"] (ai A6):=cV
def jY:av ["_law_k","_law_number","_law_some","_law_stem","_law_at","_law_own"] ["_law_k","_law_number"] (ai yF):=cV
def lI:av ["_law_number","_law_high","_law_way","_law_some","_law_word_here"] ["_law_number","_law_high"] (ai Ba):=cV
abbrev uZ:List Str:=["_law_number","_law_marks_here","_law_k","_law_word_here"]
def jX:av uZ ["_law_number"] (ai t5):=cV
def tM:av ["_law_script","_law_number","_law_prime"] ["_law_script"] (ai Bb):=cV
def jD:av ["_law_script","_law_plan_here","_law_k","_law_name"] ["_law_script","_law_plan_here"] (ai o7):=cV
abbrev kZ:List Str:=["_law_script","_law_plan_here","_law_number","_law_k","_law_name","_law_layer","_law_arms","_law_shuts","_law_more","_law_j"]
def cQ:av kZ ["_law_script","_law_plan_here","_law_number"] (ai kN):=cV
abbrev mx:List Str:=["_law_script","_law_plan_here","_law_k","_law_number","_law_trial","_law_most","_law_weights"]
def mz:av mx ["_law_script","_law_plan_here","_law_k","_law_number"] (ai oZ):=cV
def jZ:av ["_law_script","_law_plan_here","_law_k","_law_number","_law_some","_law_guest_here","_law_early","_law_trial"] ["_law_script","_law_plan_here","_law_k"] (ai Bc):=cV
abbrev pW:List Str:=["_law_house","_law_guests","_law_found","_law_name","_law_slope","_law_trial","_law_guest_here"]
def jV:av pW ["_law_house","_law_guests"] (ai sI):=cV
def yC:av ["_law_house","_law_deed_here","_law_found"] ["_law_house","_law_deed_here"] (ai A7):=cV
abbrev zL:List Str:=["_law_script","_law_plan_here","_law_house","_law_guests","_law_many","_law_turns","_law_kept","_law_k","_law_pages","_law_done","_law_due"]
def iZ:av zL ["_law_script"] (ai A4):=cV
variable{P:O7}{w:World}{K:O2}{mg:O5}{base:Heap}{a:fJ}{H H':Hp}
inductive Mp{A0 A1:Type}(p:A0->A1->Prop):Prop|mk(x0:A0)(x1:A1)(h:p x0 x1)
inductive Ex3{A0 A1 A2:Type}(p:A0->A1->A2->Prop):Prop|mk(x0:A0)(x1:A1)(x2:A2)(h:p x0 x1 x2)
structure An5(p0 p1 p2 p3 p4:Prop):Prop where
 h0:p0
 h1:p1
 h2:p2
 h3:p3
 h4:p4
def dk{p:Prop}[Decidable p](h:decide p=true):p:=l_ h
@[irreducible]def wR(ns:Pc)(k:Int):Int:=if ns.length=0 then 0 else ns.getD (k%(ns.length:Int)).toNat 0
def LR(ns:Pc)(k:Int):Int:=k/(if(ns.length:Int)>1 then(ns.length:Int)else 1)
def Eb(ns:Pc)(k m:Int):Int:=(Builtin.bitAnd (wR ns k) 2147483647+1009*k*k+7919*m*m+12)*48271%2147483647
@[irreducible]def cT(ns:Pc)(k m:Int):Int:=(wR ns k/2^(31*(m+128*LR ns k)).toNat+Eb ns k m*Eb ns k m%2147483629)%2147483648
def GS(ns:Pc)(k m:Int):0<=cT ns k m/\cT ns k m<2147483648:=by unfold cT;show bL _ (by decide)
inductive Ja(K:O2)(vs:List V)(H:Hp)(Q:VK)(_E:XK):Prop|mk(a:Addr)(ns:Pc)(k:Int)(_:vs=[.ref a,.int k])(_:aS K H a (ns.map V.int))(_:ns.length<=63)(_:Q (.int (wR ns k)) H)
inductive Gd(K:O2)(vs:List V)(H:Hp)(Q:VK)(_E:XK):Prop|mk(a:Addr)(ns:Pc)(k m:Int)(_:vs=[.ref a,.int k,.int m])(_:aS K H a (ns.map V.int))(_:ns.length<=63)(_:(0<=k/\k<=1000000))(_:(0<=m/\m<=1000000))(_:Q (.int (cT ns k m)) H)
inductive Dn(K:O2)(vs:List V)(H:Hp)(Q:VK)(_E:XK):Prop|mk(a:Addr)(ns:Pc)(_:vs=[.ref a])(_:aS K H a (ns.map V.int))(_:ns.length<=63)(_:∀H',Q (.bl true) H')
section
variable{P:O7}{w:World}{K:O2}{mg:O5}{base:Heap}{a:fJ}
def rg(T:Txt K mg a):aP P w K mg base cP 1 a.je.x a.je.d ["_law_script","_law_k"] (Ja K):=by
 show T.je.ok yD λe A outer s H f Q E g h=>?_
 ·obtain⟨p,ns,k,rfl,b,i,q⟩:=h;show{_,(ag (aN (aD aX (aB (aI K ()) (by rfl) T.bE L2.aL (ac (Y 0) O)) af (aG _)) (ah (ay af)) aE) (ah (ay (iR K (Y 0) (aA aW (Y 1) (aB (aI K ()) (by rfl) T.bE L2.aL (ac (Y 0) O))))))),?_}
  show U () {_,ns.length,(),.inl {_,b,by simp},(),U () ?_};unfold wR at q;show kj (λh0=>?_) (λh0=>?_)
  ·rw[g6 (by lia)]at q;show q
  have c:(0:Int)<(ns.length:Int):=by lia
  have hm:=bL k c;rw[g_ (by lia)]at q;show U () (U () (U () {_,ns.length,(),.inl {_,b,by simp},_,U () {(),c,rX b (mK hm.1 hm.2) q}}))
def cS(T:Txt K mg a):aP P w K mg base cP 2 a.eK.x a.eK.d ["_law_script","_law_k","_law_salt"] (Gd K):=by
 show T.eK.ok jW λi A outer s H u Q E j h=>?_
 ·obtain⟨p,ns,k,m,rfl,e,l,⟨o,v⟩,⟨y,z⟩,q⟩:=h;show{_,(ag (bp 3 jW.nd (pc T.je (rg T) j (ac (Y 0) (ac (Y 1) O)))) (ag (bp 4 jW.nd (aA bC (Y 1) (aB (CI ()) (by rfl) T.LF L2.Fp (ac af (ac (aB (aI K ()) (by rfl) T.bE L2.aL (ac (Y 0) O)) O))))) (ag (bp 5 jW.nd (aA bU (aA bU (aA bU (aA D4 (Y 3) af) (aA gQ (aA gQ af (Y 1)) (Y 1))) (aA gQ (aA gQ af (Y 2)) (Y 2))) af)) (ag (bp 5 jW.nd (aA aW (aA gQ (Y 5) af) af)) (ah (ay (aA D4 (aA bU (aA Jx (Y 3) (aA gQ af (aA bU (Y 2) (aA gQ af (Y 4))))) (aA aW (aA gQ (Y 5) (Y 5)) af)) af))))))),?_}
  unfold cT Eb LR at q;show U () (U () {p,ns,k,(),e,l,?_});generalize wR ns k=c at q⊢;have hn:∃n:Int,n=(if(ns.length:Int)>1 then(ns.length:Int)else 1)/\0<n/\n<1073741824:=(U () {by split<;>lia,by split<;>lia});obtain⟨n,f,n0,n1⟩:=hn;rw[<-f]at q;show U () (U () {_,ns.length,(),.inl {_,e,by simp},_,U () {_,n,(),by rw[f],(n0,n1,),?_}});have r:0<=k/n:=Int.ediv_nonneg o (by lia)
  try dsimp only
  generalize k/n=t at r q⊢;show U () (r2 (U () (r2 {.inl {by decide,by decide},U () (r2 {.inr {by lia,by lia},_,U () {(),U () (r2 {.inl {by decide,by decide},U () (r2 {.inr {by lia,by lia},_,U () {(),r2 ?_}})})}})})));show U () (r2 {.inr {by decide,by decide},_,U () {(),(by change(0:Int)<_;first|decide|lia),?_}});have b:=bL ((Builtin.bitAnd c 2147483647+1009*k*k+7919*m*m+12)*48271) (show(0:Int)<2147483647 by decide)
  try dsimp only
  generalize(Builtin.bitAnd c 2147483647+1009*k*k+7919*m*m+12)*48271%2147483647=g at b q⊢;show U () (U () (U () (r2 {.inl {by decide,by decide},_,U () {(),r2 {.inl {by decide,by decide},_,U () {(),(by change(0:Int)<=_;lia),U () (U () (r2 {.inl {by lia,by lia},_,U () {(),(by change(0:Int)<_;first|decide|lia),_,U () {(),r2 ?_}}}))}}}})))
  try dsimp only
  rw[JR];show q
def Cr(T:Txt K mg a)(s:Shared)(u:Value):BindsTo s a.law.d {[u],[]} [("_law_script",u)]:=by obtain⟨oc,i,kV,b,pm,j,c,ct,g,e,lk,h⟩:=T.law.f.ex;rw[e];show .of_eq ()
def Cq{p:Addr}{ns:Pc}(c:ns.length<=63)(d:aS K H p (ns.map V.int)):Dn K [.ref p] H (λv _=>v=.bl true) λ_ _ _=>False:={p,ns,(),d,c,λ_=>()}
end
section
variable{j g:Type}{F G:j->g->Prop}{a c:List j}{b d:List g}
def Paired.mapM(h:Paired F a b)(f:∀x∈a,∀y,F x y->G x y):Paired G a b:=by induction h with|nil=>show .nil|cons h _ e=>show .cons (f _ i_ _ h) (e λx m=>f x (il _ m))
def Paired.ex(h:Paired F a b):∀x∈a,∃y,F x y:=by induction h with|nil=>showλx e=>(nomatch e)|cons h _ f=>
  intro x e;rcases q_.mp e with rfl|m
  ·show{_,h}
  ·show f x m
def Paired.at_(h:Paired F a b):∀(i:Nat)(x:j),a[i]?=some x->∃y,b[i]?=some y/\F x y:=by induction h with|nil=>showλi x e=>(nomatch e)|cons h _ f=>intro i x e;cases i with|zero=>obtain rfl:=j1 e;show{_,(),h}|succ i=>show f i x e
def ub(h:Paired F a b):∀(i:Nat)(y:g),b[i]?=some y->∃x,a[i]?=some x/\F x y:=by induction h with|nil=>showλi x e=>(nomatch e)|cons h _ f=>intro i x e;cases i with|zero=>obtain rfl:=j1 e;show{_,(),h}|succ i=>show f i x e
def xn(h:Paired F a b)(k:Paired F c d):Paired F (a++c) (b++d):=by induction h with|nil=>show k|cons h _ e=>show .cons h e
end
inductive Ru where|any|has(w:Str)|least(w:Str)(n:Int)|not(q:Ru)|both(q r:Ru)|either(q r:Ru)
def Ru.hgt:Ru->Nat|.any=>1|.has _=>1|.least _ _=>1|.not q=>q.hgt+1|.both q r=>max q.hgt r.hgt+1|.either q r=>max q.hgt r.hgt+1
def Ru.hgt_pos:∀r:Ru,0<r.hgt|.any=>Nat.one_pos|.has _=>Nat.one_pos|.least _ _=>Nat.one_pos|.not _=>Oj _|.both _ _=>Oj _|.either _ _=>Oj _
def L6(w:Str)(m:Str×Int):Bool:=decide (V.str m.1=V.str w)
def gT(w:Str)(n:Int)(m:Str×Int):Bool:=if decide (V.str m.1=V.str w)=true then decide (n<=m.2)else false
def Ru.sat(c:List (Str×Int)):Ru->Bool|.any=>true|.has w=>(c.map (L6 w)).any id|.least w n=>(c.map (gT w n)).any id|.not q=>!q.sat c|.both q r=>if q.sat c=true then r.sat c else false|.either q r=>if q.sat c=true then true else r.sat c
inductive fB(K:O2)(H:Hp):Ru->V->Prop|any{a:Addr}:aY K H a [.str "any"]->fB K H .any (.ref a)|has{a:Addr}{w:Str}:aY K H a [.str "has",.str w]->fB K H (.has w) (.ref a)|least{a:Addr}{w:Str}{n:Int}:aY K H a [.str "least",.str w,.int n]->fB K H (.least w n) (.ref a)|not{a:Addr}{q:Ru}{v:V}:aY K H a [.str "not",v]->fB K H q v->fB K H (.not q) (.ref a)|both{a:Addr}{q r:Ru}{v u:V}:aY K H a [.str "both",v,u]->fB K H q v->fB K H r u->fB K H (.both q r) (.ref a)|either{a:Addr}{q r:Ru}{v u:V}:aY K H a [.str "either",v,u]->fB K H q v->fB K H r u->fB K H (.either q r) (.ref a)
def Kq(H H':Hp):Prop:=∀u b,H u=some (.tup b)->H' u=some (.tup b)
def Kq.sq{a:Addr}{d:List V}(e:Kq H H')(f:∀u o,(∃c,H u=some (.frz c o))->∃c,H' u=some (.frz c o))(h:aY K H a d):aY K H' a d:=by
 rcases h with h|h
 ·rcases h with h|h
  ·show .inl (.inl (e _ _ h))
  ·show .inl (.inr (f _ _ h))
 ·show .inr h
structure Kp(H H':Hp):Prop where
 tp:Kq H H'
 fz:∀u o,(∃o',H u=some (.frz o' o))->∃o',H' u=some (.frz o' o)
def Kp.trans(a:Kp H d)(b:Kp d e):Kp H e:={λu c h=>b.tp u c (a.tp u c h),λu o h=>b.fz u o (a.fz u o h)}
def Kp.of(h:am H H'):Kp H H':={λu c e=>h u _ e,λu o⟨b,e⟩=>{b,h u _ e}}
theorem Kp.lst{a:Addr}{o:HO}{d:List V}(c:H a=some (.lst d)):Kp H (aH H a o):={λu f h=>by rw[ak (λe=>by rw[e,c]at h;cases h)];show h,λu o⟨b,h⟩=>{b,by rw[ak (λe=>by rw[e,c]at h;cases h)];show h}}
def Kp.new{a:Addr}{o:HO}(hn:H a=none):Kp H (aH H a o):=.of (aj (am.refl H) hn)
def Kp.tq{a:Addr}{c:List V}(e:Kp H H')(h:aY K H a c):aY K H' a c:=e.tp.sq e.fz h
def fB.kp(e:Kp H H')(h:fB K H r v):fB K H' r v:=by induction h with|any h=>show .any (e.tq h)|has h=>show .has (e.tq h)|least h=>show .least (e.tq h)|not h _ q=>show .not (e.tq h) q|both h _ _ q r=>show .both (e.tq h) q r|either h _ _ q r=>show .either (e.tq h) q r
def pX(K:O2)(H:Hp)(d:List (Str×Int))(v:V):Prop:=∃a c,v=.ref a/\aY K H a c/\c.length=d.length/\∀(i:Nat)(m:Str×Int),d[i]?=some m->∃b,c[i]?=some (.ref b)/\aY K H b [.str m.1,.int m.2]
def pX.kp(e:Kp H H')(h:pX K H c v):pX K H' c v:=by obtain⟨a,d,h1,h2,h3,h4⟩:=h;show{a,d,h1,e.tq h2,h3,λi m hm=>let⟨b,f,g⟩:=h4 i m hm;{b,f,e.tq g}}
def sU{c d:Type}{f:c->d}{l:List c}{i:Nat}{m:c}(h:l[i]?=some m):(l.take (i+1)).map f=(l.take i).map f++[f m]:=by rw[t_,h,gV];rfl
inductive jL(ws:O8):Ru->Prop|any:jL ws .any|has{w:Str}:w∈ws->jL ws (.has w)|least{w:Str}{n:Int}:w∈ws->-cC<=n->n<=cC->jL ws (.least w n)|not{q:Ru}:jL ws q->jL ws (.not q)|both{q r:Ru}:jL ws q->jL ws r->jL ws (.both q r)|either{q r:Ru}:jL ws q->jL ws r->jL ws (.either q r)
def qf:(100:Int)<=cC:=by have:=qd;lia
def Ru.subs:Ru->List Ru|.any=>[.any]|.has w=>[.has w]|.least w n=>[.least w n]|.not q=>.not q::q.subs|.both q r=>.both q r::(q.subs++r.subs)|.either q r=>.either q r::(q.subs++r.subs)
def Ru.cnt(r:Ru):Nat:=r.subs.length
def Ru.words:Ru->List Str|.any=>[]|.has w=>[w]|.least w _=>[w]|.not q=>q.words|.both q r=>q.words++r.words|.either q r=>q.words++r.words
def Ru.word1:Ru->Option Str|.has w=>some w|.least w _=>some w|_=>none
theorem Ru.words_subs:∀r:Ru,r.subs.filterMap Ru.word1=r.words|.any=>()|.has _=>()|.least _ _=>()|.not q=>by change(Ru.not q::q.subs).filterMap Ru.word1=q.words;rw[N7 (),q.words_subs]|.both q r=>by change(Ru.both q r::(q.subs++r.subs)).filterMap Ru.word1=q.words++r.words;rw[N7 (),rr,q.words_subs,r.words_subs]|.either q r=>by change(Ru.either q r::(q.subs++r.subs)).filterMap Ru.word1=q.words++r.words;rw[N7 (),rr,q.words_subs,r.words_subs]
def Be{a b:Nat}:2^a+2^b<=2^(max a b+1):=by have h1:2^a<=2^max a b:=F_ (by decide) (Ot _ _);have h2:2^b<=2^max a b:=F_ (by decide) (N_ _ _);rw[Ol];lia
theorem Ru.cnt_lt:∀r:Ru,r.cnt+1<=2^r.hgt|.any=>e_ _|.has _=>e_ _|.least _ _=>e_ _|.not q=>by have h:=q.cnt_lt;change(q.subs.length+1)+1<=2^(q.hgt+1);unfold Ru.cnt at h;rw[Ol];have:=q.hgt_pos;have:2^1<=2^q.hgt:=F_ (by decide) this;lia|.both q r=>by have h1:=q.cnt_lt;have h2:=r.cnt_lt;change((q.subs++r.subs).length+1)+1<=2^(max q.hgt r.hgt+1);unfold Ru.cnt at h1 h2;rw[hQ];have:=Be (a:=q.hgt) (b:=r.hgt);lia|.either q r=>by have h1:=q.cnt_lt;have h2:=r.cnt_lt;change((q.subs++r.subs).length+1)+1<=2^(max q.hgt r.hgt+1);unfold Ru.cnt at h1 h2;rw[hQ];have:=Be (a:=q.hgt) (b:=r.hgt);lia
def Ru.words_le(r:Ru):r.words.length<=r.cnt:=by rw[<-r.words_subs];show N5 _ _
structure x5(s:Str)(m:Nat)(x:Str):Prop where
 lo:1<=x.length
 hi:x.length<=m
 cs:∀c∈x.cps.toList,c∈s.cps.toList
abbrev pH:Str:="abcdefghijklmnopqrstuvwxyz"
abbrev jJ:Str:="abcdefghijklmnopqrstuvwxyz0123456789"
abbrev Wd:Str->Prop:=x5 pH 12
abbrev w6:Str->Prop:=x5 jJ 24
def EC(x:Str):x.cps.toList.length=x.length:=by change x.cps.toList.length=x.cps.size;simp
def DI:List Str:=["ab","ba","b","a","aab","abab","bab","aa","abb","baa","bb","soap"]
def AW:Nat->Str|0=>""|1=>"soap"|2=>"upperlayer"|_=>"z"
def jl(N:Int):Str:=AW (N%4).toNat
def CP(N:Int):Int:=N/4%(((jl N).length:Int)+1)
def pI(k:Nat):Str:={#[97+k]}
def wb(i:Nat):Str:=(DI[i]?).getD "a"
def En(z:Str)(i:Int)(c:Nat):Str:=Txt.slice z none (some i)++pI c++Txt.slice z (some i) none
def du(k N:Int):Str:=if N/40%2=1 then wb ((k+N/80)%12).toNat else En (jl N) (CP N) ((k+N/80)%26).toNat
def Ir(x:Str):Bool:=decide (x≠"nothingso")&&decide (1<=x.length)&&decide (x.length<=12)&&x.cps.toList.all λc=>decide (c∈pH.cps.toList)
def AV(h:Ir x=true):Wd x:=by unfold Ir at h;rw[k_,k_,k_]at h;show{l_ h.1.1.2,l_ h.1.2,λc hc=>l_ (C2.mp h.2 c hc)}
def Gu:∀i∈List.range 12,Ir (wb i)=true:=dk ()
def DF:∀i∈List.range 12,∀j∈List.range 12,wb i=wb j->i=j:=dk ()
def JQ:∀r∈List.range 4,∀i∈List.range 11,∀c∈List.range 26,Ir (En (AW r) (i:Int) c)=true:=dk ()
def BO(r:Nat):(AW r).length<=10:=by
 unfold AW
 split<;>decide+kernel
def wa(N:Int):(jl N).length<=10:=BO _
def Fu(N:Int):0<=CP N/\CP N<((jl N).length:Int)+1:={Nj _ (by lia),Nm _ (by lia)}
def FP(k N:Int):Ir (du k N)=true:=by
 unfold du;have b1:=bL (k+N/80) (show(0:Int)<12 by decide);have b2:=bL (k+N/80) (show(0:Int)<26 by decide);have b3:=bL N (show(0:Int)<4 by decide);have b4:=Fu N;have b5:=wa N
 split
 ·show Gu _ (by rw[s_];lia)
 ·have:=JQ (N%4).toNat (by rw[s_];lia) (CP N).toNat (by rw[s_];lia) ((k+N/80)%26).toNat (by rw[s_];lia);rw[show(((CP N).toNat:Nat):Int)=CP N by lia]at this;show this
def sP(k N:Int):Wd (du k N):=AV (FP k N)
def GT(h:En z i c=En z i d):c=d:=by have h:((Txt.slice z none (some i)).cps++#[97+c]++(Txt.slice z (some i) none).cps)=((Txt.slice z none (some i)).cps++#[97+d]++(Txt.slice z (some i) none).cps):=pa Str.cps h;have h2:=pa Array.toList h;simp at h2;show h2
def Bj{i j a m:Int}(hi:0<=i/\i<m)(c:0<=j/\j<m)(h:((i+a)%m).toNat=((j+a)%m).toNat):i=j:=by
 have p:=λx=>Nj x (Int.ne_of_gt (Int.lt_of_le_of_lt hi.1 hi.2));have e:(i+a)%m=(j+a)%m:=by rw[<-OC (p (i+a)),h,OC (p (j+a))]
 rw[Int.emod_add_cancel_right,OM hi.1 hi.2,OM c.1 c.2]at e;show e
def qa(hi:0<=i/\i<12)(c:0<=j/\j<12)(h:du i N=du j N):i=j:=by
 unfold du at h
 split at h
 ·show Bj hi c (DF _ (by rw[s_];omega) _ (by rw[s_];omega) h)
 ·show Bj (m:=26) {hi.1,Int.lt_trans hi.2 (by decide)} {c.1,Int.lt_trans c.2 (by decide)} (GT h)
def EB:∀c∈List.range 26,vM ("abcdefghijklmnopqrstuvwxyz":Str).cps.toList (c:Int)=some (97+c):=dk ()
def C7:vM [V.str "",V.str "soap",V.str "upperlayer",V.str "z"] (N%4)=some (V.str (jl N)):=by have h1:0<=N%4:=Nj _ (by decide);have h2:N%4<4:=Nm _ (by decide);unfold jl;rcases(by lia:N%4=0\/N%4=1\/N%4=2\/N%4=3)with e|e|e|e<;>rw[e]<;>rfl
def DG:∀i∈List.range 12,vM (DI.map V.str) (i:Int)=some (V.str (wb i)):=dk ()
inductive FZ(vs:List V)(H:Hp)(Q:VK)(_E:XK):Prop|mk(k N:Int)(_:vs=[.int k,.int N])(_:∀H',am H H'->Q (.str (du k N)) H')
local macro_rules|`(tactic|walk_at "a")=>`(tactic|(repeat(first|refine U rfl ?_|refine r2 ?_|refine⟨(rfl:fK _ _=true),?_⟩|refine⟨(show fH _ _ from cd rfl),?_⟩|refine⟨(show(0:Int)<_ by first|decide|lia),?_⟩|refine⟨(rfl:V.int 10=V.int 10),rfl,?_⟩)))
section
def ur(T:Txt K mg a):aP P w K mg base cP 1 a.rL.x a.rL.d ["_law_k","_law_number"] FZ:=by
 show T.rL.ok oK λp A outer s H z Q E B h=>?_
 ·obtain⟨k,N,rfl,q⟩:=h;show{_,(ag (aN (aD aX (aA aW (aA bC (Y 1) af) af) af (aG _)) (ag (bp 2 oK.nd (bj (ac aF (ac aF (ac aF (ac aF (ac aF (ac aF (ac aF (ac aF (ac aF (ac aF (ac aF (ac aF O)))))))))))))) (ah (ay (iR K (Y 2) (aA aW (aA bU (Y 0) (aA bC (Y 1) af)) af))))) aE) (ag (bp 3 oK.nd (iR K (bj (ac aF (ac aF (ac aF (ac aF O))))) (aA aW (Y 1) af))) (ag (bp 4 oK.nd (aA aW (aA bC (Y 1) af) (aA bU (aB (aI K ()) (by rfl) T.bE L2.aL (ac (Y 3) O)) af))) (ah (ay (aA i6 (aA i6 (fM xf (Y 3) ix (iw (Y 4))) (yK Ax aF (aA aW (aA bU (Y 0) (aA bC (Y 1) af)) af) (λ_ _=>()))) (fM xf (Y 3) (iw (Y 4)) ix))))))),?_}
  have b1:=bL (k+N/80) (show(0:Int)<12 by decide);have b2:=bL (k+N/80) (show(0:Int)<26 by decide);have r:=wa N
  walk_at "a"
  show kj (λf=>?_) (λf=>?_)
  ·have g:du k N=wb ((k+N/80)%12).toNat:=g6 f;show{ls (),λl i=>?_}
   walk_at "a"
   have c:=DG ((k+N/80)%12).toNat (by rw[s_];lia);rw[show((((k+N/80)%12).toNat:Nat):Int)=(k+N/80)%12 by lia]at c;show{l,_,_,U () {(),aS.of ae,c,?_}};rw[<-g];show q _ (aj (am.refl H) i)
  ·have g:du k N=En (jl N) (CP N) ((k+N/80)%26).toNat:=g_ f;show{ls (),λl i=>?_};have n:=aj (o:=.lst [V.str "",V.str "soap",V.str "upperlayer",V.str "z"]) (am.refl H) i;have e:aH H l (.lst [V.str "",V.str "soap",V.str "upperlayer",V.str "z"]) l=some (.lst [V.str "",V.str "soap",V.str "upperlayer",V.str "z"]):=ae;generalize aH H l (.lst [V.str "",V.str "soap",V.str "upperlayer",V.str "z"])=C at n e⊢
   walk_at "a"
   show{l,_,_,U () {(),aS.of e,C7,au ?_}};have t:=Fu N;have u:=Txt.slice_le (jl N) none (some (CP N));have v:=Txt.slice_le (jl N) (some (CP N)) none
   walk_at "a"
   show{_,(jl N).length,(),{dg (by lia),()},_,U () {(),r2 {(by change(0:Int)<_;lia),au ?_}}};have j:∀a b:Str,(a++b).length=a.length+b.length:=λa b=>by change(a.cps++b.cps).size=a.cps.size+b.cps.size;show Array.size_append
   have y:(pI ((k+N/80)%26).toNat).length=1:=();have c:=EB ((k+N/80)%26).toNat (by rw[s_];lia);rw[show((((k+N/80)%26).toNat:Nat):Int)=(k+N/80)%26 by lia]at c;show U () (U () {CP N,(),jl N,(),dg (by lia),?_})
   walk_at "a"
   show{"abcdefghijklmnopqrstuvwxyz",_,97+((k+N/80)%26).toNat,(),(),dg (dk ()),c,_,pI ((k+N/80)%26).toNat,(),(),dg (by lia),U () (U () {CP N,(),jl N,(),dg (by lia),_,U () {(),dg (by rw[j];lia),?_}})};have m:Txt.slice (jl N) none (some (CP N))++pI ((k+N/80)%26).toNat++Txt.slice (jl N) (some (CP N)) none=du k N:=by rw[g];rfl
   rw[m];show q _ n
end
inductive F0(K:O2)(vs:List V)(H:Hp)(Q:VK)(_E:XK):Prop|mk(z:_)(_:vs=[.int z])(_:Q (.bl true) H)
def yN(s:Str)(m:Nat)(x:Str):Bool:=decide (1<=x.length)&&(decide (x.length<=m)&&x.cps.toList.all λc=>decide (c∈s.cps.toList))
def x5.b{s:Str}{m:Nat}{x:Str}(h:x5 s m x):yN s m x=true:=by unfold yN;rw[j2 h.lo,j2 h.hi];show C2.mpr λc hc=>j2 (h.cs c hc)
def Ik(K:O2)(H:Hp)(v:V):Prop:=∃T,mm K H v (.type T)/\PySem.W.kitOne K (.type T) (.type "str")=some false
def Nc(K:O2)(H:Hp)(v:V):Prop:=Ik K H v\/∃x:Str,v=.str x/\x.length<=60/\yN pH 12 x=false
inductive Dh(K:O2)(vs:List V)(H:Hp)(Q:VK)(_E:XK):Prop|mk(v:V)(s:Str)(m:Nat)(_:vs=[v,.str s,.int m])(_:((∃x:Str,v=.str x/\x.length<=60/\∀H',am H H'->Q (.bl (yN s m x)) H')\/(Ik K H v/\Q (.bl false) H)))
inductive MP(K:O2)(vs:List V)(H:Hp)(Q:VK)(_E:XK):Prop|mk(v:V)(_:vs=[v])(_:((∃x,v=.str x/\Wd x/\∀H',am H H'->Q (.bl true) H')\/(Nc K H v/\∀H',am H H'->Q (.bl false) H')))
inductive Li(vs:List V)(H:Hp)(Q:VK)(_E:XK):Prop|mk(x:_)(_:vs=[.str x])(_:w6 x)(_:∀H',am H H'->Q (.bl true) H')
inductive Lh(vs:List V)(H:Hp)(Q:VK)(_E:XK):Prop|mk(z:_)(_:vs=[.int z])(_:(-cC<=z/\z<=cC))(_:Q (.bl true) H)
inductive Gj(vs:List V)(H:Hp)(Q:VK)(_E:XK):Prop|mk(z:_)(_:vs=[.int z])(_:0<=z)(_:Q (.bl true) H)
inductive F2(vs:List V)(H:Hp)(Q:VK)(_E:XK):Prop|mk(z:_)(_:vs=[.int z])(_:(0<=z/\z<=1000))(_:Q (.bl true) H)
inductive Dc(vs:List V)(H:Hp)(Q:VK)(_E:XK):Prop|mk(z:_)(_:vs=[.int z])(_:(1<=z/\z<=cC))(_:Q (.bl true) H)
def kG{Q:VK}{p:Prop}[Decidable p]{H:Hp}(h:p)(q:Q (.bl true) H):Q (.bl (decide p)) H:=by rw[j2 h];show q
section
def jw(T:Txt K mg a):aP P w K mg base cP 1 a.gF.x a.gF.d ["thing"] (F0 K):=by
 show T.gF.ok yw λb A outer s H c Q E e h=>?_
 ·obtain⟨z,rfl,k⟩:=h;show{_,(ah (ay (cH (aB (mJ K ()) (by rfl) T.bS L2.bg (ac (Y 0) (ac (lg () T.LG L2.Fq) O))) (dO (DX (aB (mJ K ()) (by rfl) T.bS L2.bg (ac (Y 0) (ac (lg () T.JN L2.CO) O)))))))),?_};show U () {_,"int",_,true,(),.int z,iK (dk ()),true,(),bI ?_};show U () {_,"bool",_,false,(),.int z,iK (dk ()),false,(),k}
def ni(T:Txt K mg a):aP P w K mg base cP 1 a.fW.x a.fW.d ["thing","signs","longest"] (Dh K):=by
 show T.fW.ok vd λf A outer s H l Q E n h=>?_
 ·obtain⟨v,g,m,rfl,h⟩:=h;show{_,(ag (aN (cp (aT K () (aB (mJ K ()) (by rfl) T.bS L2.bg (ac (Y 0) (ac (lg () T.HW L2.zD) O))) (λ_=>()))) (ah (ay iB)) aE) (ah (ay (cH (uf jv jv af (aB (aI K ()) (by rfl) T.bE L2.aL (ac (Y 0) O)) (Y 2)) (dO (aB (iU K () ()) (by rfl) T.wz L2.kB (ac (sB kY ["sign"] [] [3] (ai kJ) (b0 3) (DW (Y 0)) (λcl C s₀ H₀ ex=>{(lB kY ["sign"] 3),bQ,(cf Cf (Y 3) (Y 1) (by with_unfolding_all rfl))})) O))))))),?_}
  rcases h with⟨x,rfl,o,q⟩|⟨⟨p,ty,j⟩,q⟩
  ·show U () {_,"str",_,true,(),.str x,iK (dk ()),true,(),cu ?_};show U () {_,x.length,(),{by rw[g8];lia,()},_,U () {(),U () ?_}};unfold yN at q;show lz (λh1=>?_) (λh1=>?_)
   ·rw[j2 (show 1<=x.length by omega),Bool.true_and]at q;show U () (r2 (U () ?_));show lz (λh2=>?_) (λh2=>?_)
    ·rw[j2 (show x.length<=m by omega),Bool.true_and]at q;show U () {x,(),λD k=>?_};have r:=EC x;show Fh (K:=K) (z:=x) (λi b e=>b=((x.cps.toList.take i).map λc=>decide (c∈g.cps.toList)).map V.bl/\e=aH H D (.lst b)) {(),()} ?_ ?_
     ·rintro i c b e hc⟨rfl,rfl⟩;have hi:i<x.cps.toList.length:=(d_.mp hc).1;show au (iG (bI ?_));show U () (U () {_,U () {(),ae,?_,lf hi {?_,?_}}})
      ·rw[b_,b_,k4,g8];lia
      ·rw[StrLaws.found_one,t_,hc,gV,gV];rfl
      ·rw[ic]
     ·rintro b e⟨rfl,rfl⟩;show{D,_,(),aS.of ae,?_};rw[hF (e_ _),List.all_map];show q _ (aj (am.refl _) k)
    ·rw[j_ (show¬x.length<=m by omega),Bool.false_and]at q;show q H (am.refl H)
   ·rw[j_ (show¬1<=x.length by omega),Bool.false_and]at q;show U () (cu (q H (am.refl H)))
  ·show U () {_,"str",_,false,(),ty,j,false,(),bI q}
def gR(T:Txt K mg a):aP P w K mg base cP 2 a.d0.x a.d0.d ["thing"] (MP K):=by
 show T.d0.ok zU λe A outer s H g Q E f h=>?_
 ·obtain⟨v,rfl,h⟩:=h;show{_,(ah (ay (pc T.fW (ni T) f (ac (Y 0) (ac (cx T.CN ()) (ac (cx T.uO ()) O)))))),?_};show U () {v,_,12,(),?_};rcases h with⟨x,rfl,c,q⟩|⟨h|⟨x,rfl,h1,h2⟩,q⟩
  ·show .inl {x,(),by have:=c.hi;omega,by rw[c.b];show q}
  ·show .inr {h,q H (am.refl H)}
  ·show .inl {x,(),h1,by rw[h2];show q}
def yU(T:Txt K mg a):aP P w K mg base cP 2 a.ko.x a.ko.d ["thing"] Li:=by
 show T.ko.ok yz λe A outer s H g Q E f h=>?_
 ·obtain⟨x,rfl,c,q⟩:=h;show{_,(ah (ay (pc T.fW (ni T) f (ac (Y 0) (ac (cx T.nA ()) (ac (cx T.sC ()) O)))))),?_};show U () {.str x,_,24,(),.inl {x,(),by have:=c.hi;omega,by rw[c.b];show q}}
def px(T:Txt K mg a):aP P w K mg base cP 2 a.fu.x a.fu.d ["thing"] Lh:=by
 show T.fu.ok xj λb A outer s H e Q E c h=>?_
 ·obtain⟨z,rfl,⟨h1,h2⟩,q⟩:=h;show{_,(ah (ay (cH (pc T.gF (jw T) c (ac (Y 0) O)) (dO (uf jv jv (Ly Ix (aA ug af af)) (Y 0) (aA ug af af)))))),?_};show U () {z,(),U () (bI ?_)}
  walk_at "a"
  show lz (λ_=>?_) (λh=>absurd h1 h)
  walk_at "a"
  show kG h2 q
def gb(T:Txt K mg a):aP P w K mg base cP 2 a.eV.x a.eV.d ["thing"] Gj:=by
 show T.eV.ok yA λb A outer s H e Q E c h=>?_
 ·obtain⟨z,rfl,h1,q⟩:=h;show{_,(ah (ay (cH (pc T.gF (jw T) c (ac (Y 0) O)) (dO (cf D3 (Y 0) af (aG _)))))),?_};show U () {z,(),U () (bI ?_)}
  walk_at "a"
  show kG h1 q
def yS(T:Txt K mg a):aP P w K mg base cP 3 a.km.x a.km.d ["thing"] F2:=by
 show T.km.ok yx λb A outer s H e Q E c h=>?_
 ·obtain⟨z,rfl,⟨h1,h2⟩,q⟩:=h;show{_,(ah (ay (cH (pc T.eV (gb T) c (ac (Y 0) O)) (dO (cf jv (Y 0) (cx T.xQ ()) (aG _)))))),?_};show U () {z,(),h1,U () (bI ?_)}
  walk_at "a"
  show kG h2 q
def xr(T:Txt K mg a):aP P w K mg base cP 2 a.iS.x a.iS.d ["thing"] Dc:=by
 show T.iS.ok xi λb A outer s H e Q E c h=>?_
 ·obtain⟨z,rfl,⟨h1,h2⟩,q⟩:=h;show{_,(ah (ay (cH (pc T.gF (jw T) c (ac (Y 0) O)) (dO (uf jv jv af (Y 0) (aA ug af af)))))),?_};show U () {z,(),U () (bI ?_)}
  walk_at "a"
  show lz (λ_=>?_) (λh=>absurd h1 h)
  walk_at "a"
  show kG h2 q
end
inductive IU(K:O2)(vs:List V)(H:Hp)(Q:VK)(_E:XK):Prop|mk(b:Addr)(m:Str×Int)(_:vs=[.ref b])(_:aY K H b [.str m.1,.int m.2])(_:Wd m.1)(_:(-cC<=m.2/\m.2<=cC))(_:∀H',am H H'->Q (.bl true) H')
inductive Ge(K:O2)(vs:List V)(H:Hp)(Q:VK)(_E:XK):Prop|mk(v:V)(l:List (Str×Int))(_:vs=[v])(_:pX K H l v)(_:(∀m∈l,Wd m.1/\-cC<=m.2/\m.2<=cC))(_:(l.map Prod.fst).Nodup)(_:l.length<=8)(_:∀H',am H H'->Q (.bl true) H')
inductive Dr(K:O2)(vs:List V)(H:Hp)(Q:VK)(_E:XK):Prop|mk(p:Addr)(l:Pc)(_:vs=[.ref p,.int (l.length:Nat)])(_:aY K H p (l.map V.int))(_:(∀i∈l,0<=i))(_:l.length<=100)(_:∀H',am H H'->Q (.bl true) H')
inductive BQ(K:O2)(vs:List V)(H:Hp)(Q:VK)(_E:XK):Prop|mk(p:Addr)(l:Pc)(_:vs=[.ref p,.int (l.length:Nat)])(_:aY K H p (l.map V.int))(_:(∀i∈l,1<=i/\i<=cC))(_:l.length<=100)(_:∀H',am H H'->Q (.bl true) H')
inductive Jd(K:O2)(vs:List V)(H:Hp)(Q:VK)(_E:XK):Prop|mk(p:Addr)(l:O8)(_:vs=[.ref p])(_:aY K H p (l.map V.str))(_:(∀w∈l,Wd w))(_:l.Nodup)(_:1<=l.length)(_:l.length<=4)(_:∀H',am H H'->Q (.bl true) H')
def iW(i:Nat):(List.replicate i true).map V.bl++[V.bl true]=(List.replicate (i+1) true).map V.bl:=by rw[List.replicate_succ',gV];rfl
def jS(n:Nat):(List.replicate n true).all id=true:=by simp
def jR(i:Nat)(h:i<=1000):((List.replicate i true).map V.bl).length<sizeLine:=by rw[b_,Nq,g8];lia
def xC{c d:Type}{f:c->d}{l:List c}{i:Nat}{v:d}(h:(l.map f)[i]?=some v):∃x,l[i]?=some x/\v=f x/\x∈l:=by rw[ge]at h;cases e:l[i]?with|none=>rw[e]at h;cases h|some x=>rw[e]at h;cases h;show{x,(),(),f_ e}
def wD(l:O8):(l.map (Sum.inr:Str->bY)).map kV=l.map V.str:=by rw[qr];rfl
def zj{l:O8}(h:l.Nodup):(dd (l.map (Sum.inr:Str->bY))).length=l.length:=by have:=(Kj (l.map (Sum.inr:Str->bY))).mpr (h.map _ (λa b h e=>h (pu e)));rw[this,b_]
section
def Ak(T:Txt K mg a):aP P w K mg base cP 3 a.mH.x a.mH.d ["thing"] (IU K):=by
 show T.mH.ok zX λg A outer s H j Q E e h=>?_
 ·obtain⟨b,m,rfl,c,h1,h2,q⟩:=h;show{_,(ah (ay (cH (aB (fb K ()) (by rfl) T.bS L2.bg (ac (Y 0) (ac (lg () T.dZ L2.bW) O))) (cH (cf aX (aB (aI K ()) (by rfl) T.bE L2.aL (ac (Y 0) O)) af (aG _)) (cH (pc T.d0 (gR T) e (ac (dJ K (Y 0) af) O)) (dO (pc T.fu (px T) e (ac (dJ K (Y 0) af) O)))))))),?_};show U () {_,"tuple",_,true,(),.inr {b,U () {c,()}},iK (dk ()),true,(),bI ?_};show U () {_,2,(),.inr {_,c,()},(),U () (bI ?_)};show U () (rX c () {V.str m.1,(),.inl {m.1,(),h1,λi f=>(U () (bI ?_))}});show U () (rX (am.tseq f c) () {m.2,(),h2,q i f})
def xt(T:Txt K mg a):aP P w K mg base cP 4 a.iV.x a.iV.d ["thing"] (Ge K):=by
 show T.iV.ok xl λW A outer s H g Q E X h=>?_
 ·obtain⟨v,l,rfl,Z,h1,h2,h3,q⟩:=h;obtain⟨p,g,rfl,j,B,y⟩:=Z;show{_,(ag (aN (PW.pt (fL (cp (aT K () (aB (fb K ()) (by rfl) T.bS L2.bg (ac (Y 0) (ac (lg () T.dZ L2.bW) O))) (λ_=>()))) (dX (aD rc (aB (aI K ()) (by rfl) T.bE L2.aL (ac (Y 0) O)) (cx T.xT ()) (aG _))))) (ah (ay iB)) aE) (ag (aN (cp (aT K () (aB (iU K () ()) (by rfl) T.wz L2.kB (ac (sB ["thing"] ["mark"] [] [1] (ai jq) (b0 1) (iy K () (Y 0)) (λcl C s₀ H₀ ex=>{(lB ["thing"] ["mark"] 1),bQ,(pc T.mH (Ak T) X (ac (Y 1) O))})) O)) (λ_=>()))) (ah (ay iB)) aE) (ah (ay (cf aX (aB (uN (P:=P) (w:=w)) (by rfl) T.bE L2.aL (ac (cE (uM (P:=P) (w:=w) K () ()) (by rfl) T.Ee L2.uQ (ac (sB ["thing"] ["mark"] [] [1] (ai jq) (b0 1) (iy K () (Y 0)) (λcl C s₀ H₀ ex=>{(lB ["thing"] ["mark"] 1),bQ,(dJ K (Y 1) af)})) O)) O)) (aB (aI K ()) (by rfl) T.bE L2.aL (ac (Y 0) O)) (aG _)))))),?_}
  show U () {_,"tuple",_,true,(),.inr {p,U () {j,()}},iK (dk ()),true,(),cu ?_};show U () {_,g.length,(),.inr {_,j,()},_,U () {(),U () (lz (λh=>absurd h (by lia)) (λ_=>?_))}};show U () {p,(),{_,j},λD L=>?_};show gJ (K:=K) (a:=p) (xs:=g) (λi c H'=>c=(List.replicate i true).map V.bl/\am H H'/\H' D=some (.lst c)) {(),aj (am.refl _) L,ae} (λi c H' _ h=>am.tseq h.2.1 j) ?_ ?_
  ·rintro i v c M k⟨rfl,n,r⟩;have hi:i<g.length:=(d_.mp k).1;have e:l[i]?=some (l[i]'(by lia)):=ga (by lia);generalize l[i]'(by lia)=m at e;obtain⟨b,F,G⟩:=y i m e;rw[F]at k;cases k;have hm:=h1 m (f_ e);show au (iG (bI (U () {b,m,(),am.tseq n G,hm.1,hm.2,λI t=>{t _ _ r,jR i (by lia),lf hi {iW i,bv (n.trans t) L,ae}}})))
  ·rintro c M⟨rfl,n,r⟩;show{D,_,(),aS.of r,_,(),?_};rw[jS];show cu (U () {p,(),{_,am.tseq n j},λN z=>?_});show gJ (K:=K) (a:=p) (xs:=g) (λi c H'=>c=((l.take i).map Prod.fst).map V.str/\am M H'/\H' N=some (.lst c)) {by rw[t4];rfl,aj (am.refl _) z,ae} (λi c H' _ h=>am.tseq (n.trans h.2.1) j) ?_ ?_
   ·rintro i v c I k⟨rfl,t,f⟩;have hi:i<g.length:=(d_.mp k).1;have e:l[i]?=some (l[i]'(by lia)):=ga (by lia);generalize l[i]'(by lia)=m at e;obtain⟨b,F,G⟩:=y i m e;rw[F]at k;cases k;show au (iG (bI (U () (rX (am.tseq (n.trans t) G) () {f,?_,lf hi {?_,bv t z,ae}}))))
    ·rw[b_,b_,k4,g8];lia
    ·rw[sU e,gV];rfl
   ·rintro c I⟨rfl,t,f⟩;rw[hF (by lia),<-wD]at f;have u:=zj h2;rw[b_]at u;show{N,(l.map Prod.fst).map Sum.inr,(),aS.of f,by rw[b_,b_];lia,λR J=>?_};show{R,U () {ae,by rw[u];omega,?_}};have S:∀o,am H (aH I R o):=λo=>aj (n.trans t) J;show U () {_,g.length,(),.inr {_,am.tseq (S _) j,()},(),?_};rw[u,<-B,j2 ()];show q _ (S _)
def vy(T:Txt K mg a):aP P w K mg base cP 3 a.g9.x a.g9.d ["thing","many"] (Dr K):=by
 show T.g9.ok vi λk A outer s H t Q E m h=>?_
 ·obtain⟨p,l,rfl,e,h1,h2,q⟩:=h;show{_,(ah (ay (cH (aB (fb K ()) (by rfl) T.bS L2.bg (ac (Y 0) (ac (lg () T.dZ L2.bW) O))) (cH (cf aX (aB (aI K ()) (by rfl) T.bE L2.aL (ac (Y 0) O)) (Y 1) (aG _)) (dO (aB (iU K () ()) (by rfl) T.wz L2.kB (ac (sB iP ["number"] [] [2] (ai kK) (b0 2) (iy K () (Y 0)) (λcl C s₀ H₀ ex=>{(lB iP ["number"] 2),bQ,(pc T.eV (gb T) m (ac (Y 2) O))})) O))))))),?_}
  show U () {_,"tuple",_,true,(),.inr {p,U () {e,()}},iK (dk ()),true,(),bI ?_};show U () {_,l.length,(),.inr {_,e,by simp},U () {(),U () ?_}};rw[j2 ()];show bI (U () {p,(),{_,e},λD g=>?_});show gJ (K:=K) (a:=p) (xs:=l.map V.int) (λi b H'=>b=(List.replicate i true).map V.bl/\am H H'/\H' D=some (.lst b)) {(),aj (am.refl _) g,ae} (λi b H' _ h=>am.tseq h.2.1 e) ?_ ?_
  ·rintro i v b n j⟨rfl,f,c⟩;have hi:=(d_.mp j).1;obtain⟨z,_,rfl,o⟩:=xC j;have r:i<l.length:=by simpa using hi
   show au (iG (bI (U () {z,(),h1 z o,c,jR i (by lia),lf hi {iW i,bv f g,ae}})))
  ·rintro b n⟨rfl,f,c⟩;show{D,_,(),aS.of c,?_};rw[jS];show q _ f
def uq(T:Txt K mg a):aP P w K mg base cP 3 a.gn.x a.gn.d ["thing","many"] (BQ K):=by
 show T.gn.ok tL λk A outer s H t Q E m h=>?_
 ·obtain⟨p,l,rfl,e,h1,h2,q⟩:=h;show{_,(ah (ay (cH (aB (fb K ()) (by rfl) T.bS L2.bg (ac (Y 0) (ac (lg () T.dZ L2.bW) O))) (cH (cf aX (aB (aI K ()) (by rfl) T.bE L2.aL (ac (Y 0) O)) (Y 1) (aG _)) (dO (aB (iU K () ()) (by rfl) T.wz L2.kB (ac (sB nE ["number"] [] [2] (ai jF) (b0 2) (iy K () (Y 0)) (λcl C s₀ H₀ ex=>{(lB iP ["number"] 2),bQ,(pc T.iS (xr T) m (ac (Y 2) O))})) O))))))),?_}
  show U () {_,"tuple",_,true,(),.inr {p,U () {e,()}},iK (dk ()),true,(),bI ?_};show U () {_,l.length,(),.inr {_,e,by simp},U () {(),U () ?_}};rw[j2 ()];show bI (U () {p,(),{_,e},λD g=>?_});show gJ (K:=K) (a:=p) (xs:=l.map V.int) (λi b H'=>b=(List.replicate i true).map V.bl/\am H H'/\H' D=some (.lst b)) {(),aj (am.refl _) g,ae} (λi b H' _ h=>am.tseq h.2.1 e) ?_ ?_
  ·rintro i v b n j⟨rfl,f,c⟩;have hi:=(d_.mp j).1;obtain⟨z,_,rfl,o⟩:=xC j;have r:i<l.length:=by simpa using hi
   show au (iG (bI (U () {z,(),h1 z o,c,jR i (by lia),lf hi {iW i,bv f g,ae}})))
  ·rintro b n⟨rfl,f,c⟩;show{D,_,(),aS.of c,?_};rw[jS];show q _ f
def yX(T:Txt K mg a):aP P w K mg base cP 3 a.kC.x a.kC.d ["thing"] (Jd K):=by
 show T.kC.ok yB λB A outer s H J Q E F h=>?_
 ·obtain⟨p,l,rfl,e,h1,h2,h3,h4,q⟩:=h;show{_,(ag (aN (PW.pt (fL (cp (aT K () (aB (fb K ()) (by rfl) T.bS L2.bg (ac (Y 0) (ac (lg () T.dZ L2.bW) O))) (λ_=>()))) (dX (cp (yI jv jv af (aB (aI K ()) (by rfl) T.bE L2.aL (ac (Y 0) O)) (cx T.zC ())))))) (ah (ay iB)) aE) (ah (ay (cH (aB (iU K () ()) (by rfl) T.wz L2.kB (ac (sB ["thing"] ["arm"] [] [1] (ai nL) (b0 1) (iy K () (Y 0)) (λcl C s₀ H₀ ex=>{(lB ["thing"] ["arm"] 1),bQ,(pc T.d0 (gR T) F (ac (Y 1) O))})) O)) (dO (cf aX (aB (uN (P:=P) (w:=w)) (by rfl) T.bE L2.aL (ac (cE (AL (P:=P) (w:=w) K () ()) (by rfl) T.Ee L2.uQ (ac (Y 0) O)) O)) (aB (aI K ()) (by rfl) T.bE L2.aL (ac (Y 0) O)) (aG _))))))),?_}
  show U () {_,"tuple",_,true,(),.inr {p,U () {e,()}},iK (dk ()),true,(),cu ?_};have f:l.length=(l.map V.str).length:=by simp
  show U () {_,l.length,(),.inr {_,e,f},_,U () {(),U () (lz (λ_=>?_) (λh=>absurd (by lia) h))}};show r2 (U () ?_);change if(!decide ((l.length:Int)<=4))=true then _ else _
  rw[j2 (show(l.length:Int)<=4 by lia)];show cu ?_;show U () {p,(),{_,e},λD m=>?_};show gJ (K:=K) (a:=p) (xs:=l.map V.str) (λi b H'=>b=(List.replicate i true).map V.bl/\am H H'/\H' D=some (.lst b)) {(),aj (am.refl _) m,ae} (λi b H' _ h=>am.tseq h.2.1 e) ?_ ?_
  ·rintro i v b n r⟨rfl,j,c⟩;have hi:=(d_.mp r).1;obtain⟨z,_,rfl,G⟩:=xC r;have I:i<l.length:=by simpa using hi
   show au (iG (bI (U () {V.str z,(),.inl {z,(),h1 z G,λM t=>{t _ _ c,jR i (by lia),lf hi {iW i,bv (j.trans t) m,ae}}}})))
  ·rintro b n⟨rfl,j,c⟩;show{D,_,(),aS.of c,_,(),?_};rw[jS];have g:=zj h2;show bI (U () {p,l.map Sum.inr,(),by rw[wD];show am.tseq j e,by rw[b_];lia,λu k=>?_});show{u,U () {ae,by rw[g];omega,?_}};have y:∀o,am H (aH n u o):=λo=>aj j k;show U () {_,l.length,(),.inr {_,am.tseq (y _) e,f},(),?_};rw[g,j2 ()];show q _ (y _)
end
def sE{A B:Prop}{x y:Str}(h:x≠y)(b:B):if decide (V.str x=V.str y)=true then A else B:=EI (λe=>absurd e h) (λ_=>b)
def ca{A B:Prop}{x:Str}(a:A):if decide (V.str x=V.str x)=true then A else B:=EI (λ_=>a) (λh=>absurd () h)
def wn{A B:Prop}{x y:Str}(b:B)(h:(x==y)=false:=by first|rfl|(dsimp only[Ru.kind];rfl)):if decide (V.str x=V.str y)=true then A else B:=sE (ne_of_beq_false h) b
abbrev jb(K:O2)(H:Hp):List Ru->List V->Prop:=Paired (fB K H)
theorem jb.kp(e:Kp H H')(h:jb K H c d):jb K H' c d:=Paired.mapP h λ_ _ q=>q.kp e
def jb.app(h:jb K H c d)(k:jb K H e f):jb K H (c++e) (d++f):=xn h k
def jb.get(h:jb K H c d)(i:Nat)(v:V)(e:d[i]?=some v):∃r,c[i]?=some r/\fB K H r v:=ub h i v e
def Ru.kids:Ru->List Ru|.not q=>[q]|.both q r=>[q,r]|.either q r=>[q,r]|_=>[]
def Ru.kind:Ru->Str|.any=>"any"|.has _=>"has"|.least _ _=>"least"|.not _=>"not"|.both _ _=>"both"|.either _ _=>"either"
def Ru.deep:Ru->Bool|.not _=>true|.both _ _=>true|.either _ _=>true|_=>false
def Ru.subs_kids(r:Ru):r.subs=r::(r.kids.map Ru.subs).flatten:=by cases r<;>simp[Ru.subs,Ru.kids]
def fB.tup(h:fB K H r v):∃t c,v=.ref t/\aY K H t (.str r.kind::c)/\(r.deep=true->jb K H r.kids c/\c≠[])/\(∀w,r.word1=some w->∃d,c=.str w::d):=by cases h with|any h=>show{_,_,(),h,λe=>(nomatch e),λw e=>(nomatch e)}|has h=>show{_,_,(),h,λe=>(nomatch e),λw e=>by cases e;show{_,()}}|least h=>show{_,_,(),h,λe=>(nomatch e),λw e=>by cases e;show{_,()}}|not h q=>show{_,U () {h,λ_=>{.cons q .nil,nofun},λw e=>(nomatch e)}}|both h q r=>show{_,U () {h,λ_=>{.cons q (.cons r .nil),nofun},λw e=>(nomatch e)}}|either h q r=>show{_,U () {h,λ_=>{.cons q (.cons r .nil),nofun},λw e=>(nomatch e)}}
def Hh(r:Ru):nX (.str r.kind) [.str "not",.str "both",.str "either"]=r.deep:=by cases r with|any=>show(show nX (.str "any") [.str "not",.str "both",.str "either"]=false by decide+kernel)|has _=>show(show nX (.str "has") [.str "not",.str "both",.str "either"]=false by decide+kernel)|least _ _=>show(show nX (.str "least") [.str "not",.str "both",.str "either"]=false by decide+kernel)|not _=>show(show nX (.str "not") [.str "not",.str "both",.str "either"]=true by decide+kernel)|both _ _=>show(show nX (.str "both") [.str "not",.str "both",.str "either"]=true by decide+kernel)|either _ _=>show(show nX (.str "either") [.str "not",.str "both",.str "either"]=true by decide+kernel)
def Hg(r:Ru):nX (.str r.kind) [.str "has",.str "least"]=r.word1.isSome:=by cases r with|any=>show(show nX (.str "any") [.str "has",.str "least"]=false by decide+kernel)|has _=>show(show nX (.str "has") [.str "has",.str "least"]=true by decide+kernel)|least _ _=>show(show nX (.str "least") [.str "has",.str "least"]=true by decide+kernel)|not _=>show(show nX (.str "not") [.str "has",.str "least"]=false by decide+kernel)|both _ _=>show(show nX (.str "both") [.str "has",.str "least"]=false by decide+kernel)|either _ _=>show(show nX (.str "either") [.str "has",.str "least"]=false by decide+kernel)
def G7{r k:Ru}{n:Nat}(h:k∈r.kids)(hh:r.hgt<=n+1):k.hgt<=n:=by
 cases r with|any=>cases h|has _=>cases h|least _ _=>cases h|not q=>
  have:k=q:=by simpa[Ru.kids]using h
  have hh:q.hgt+1<=n+1:=hh;rw[this];lia|both q r=>
  have:k=q\/k=r:=by simpa[Ru.kids]using h
  have hh:max q.hgt r.hgt+1<=n+1:=hh;have h1:=Ot q.hgt r.hgt;have h2:=N_ q.hgt r.hgt;rcases this with rfl|rfl<;>lia|either q r=>
  have:k=q\/k=r:=by simpa[Ru.kids]using h
  have hh:max q.hgt r.hgt+1<=n+1:=hh;have h1:=Ot q.hgt r.hgt;have h2:=N_ q.hgt r.hgt;rcases this with rfl|rfl<;>lia
def Fc(x:V)(c:List V):HT.ip (x::c).length 0 (some 1)=1:=by change(if(1:Int)<0 then((1:Int)+((x::c).length:Int)).toNat else min (1:Int).toNat (c.length+1))=1;rw[g_ (by decide)];change min 1 (c.length+1)=1;lia
def Hs(x:V)(c:List V):¬HT.ip (x::c).length 0 (some 1)=0:=by rw[Fc];decide
def Fb(x:V)(c:List V):vH (x::c) (some 1) none=c:=by unfold vH;rw[Fc,HT.DN];change c.take ((c.length+1)-1)=c;rw[Nat.add_sub_cancel,hF (e_ _)]
inductive Db(K:O2)(h:Nat)(vs:List V)(H:Hp)(Q:VK)(_E:XK):Prop|mk(r:Ru)(rv:V)(_:vs=[rv])(_:fB K H r rv)(_:r.hgt<=h)(_:h<=6)(_:∀(l:Addr)(us:List V)(H':Hp),am H H'->H l=none->H' l=some (.lst us)->jb K H' r.subs us->Q (.ref l) H')
section
theorem jG(T:Txt K mg a):∀h:Nat,aP P w K mg base cP (h+1) a.bX.x a.bX.d ["rule"] (Db K h)
 |0=>by
  show T.bX.f.ok ij (λe H Q E h=>?_) (λZ A outer s H e Q E hr h=>?_)
  ·obtain⟨r,rv,rfl,_⟩:=h;rfl
  ·obtain⟨r,rv,rfl,_,hh,_⟩:=h;have:=r.hgt_pos;lia|n+1=>by
  have ih:=jG T n;show T.bX.f.ok ij (λe H Q E h=>?_) (λZ A outer s H e Q E hr h=>?_)
  ·obtain⟨r,rv,rfl,_⟩:=h;rfl
  ·obtain⟨r,rv,rfl,hR,hh,h6,q⟩:=h;obtain⟨t,e,rfl,hT,v,_⟩:=hR.tup;show{_,(ag (bp 1 ij.nd (bj (ac (Y 0) O))) (ag (aN (aD (nQ K ()) (dJ K (Y 0) af) (bx (ac aF (ac aF (ac aF O)))) (by with_unfolding_all rfl)) (ah (dN mo () (iy K () (fM (AZ K ()) (Y 0) (iw af) ix)) (qo 2 ij.nd) (ah (aM (fF K () PySem.F.plainAttrs_list PySem.F.slot_list_extend PySem.F.type_list_extend wA (Y 1) (ac (bR ih hr () T.bX.m T.bX.f.kp T.bX.b .nil aQ (ac (Y 2) O)) O)))))) aE) (ah (ay (Y 1))))),?_}
   show U () {ls (),λl R=>?_};have s0:=aj (o:=.lst [.ref t]) (am.refl H) R;have y:aH H l (.lst [.ref t]) l=some (.lst [.ref t]):=ae
   try dsimp only
   generalize aH H l (.lst [.ref t])=H0 at s0 y⊢;show U () (rX (am.tseq s0 hT) (aq (k:=0) ()) {ls (),λt3 G=>?_});have I:=aj (o:=.tup [.str "not",.str "both",.str "either"]) s0 G;have j:aH H0 t3 (.tup [.str "not",.str "both",.str "either"]) l=some (.lst [.ref t]):=by rw[ak (az y G)];show y
   show{t3,U () {.inr (aY.of ae),(),(),U () ?_}};change if nX (.str r.kind) [.str "not",.str "both",.str "either"]=true then _ else _
   rw[Hh]
   try dsimp only
   generalize aH H0 t3 (.tup [.str "not",.str "both",.str "either"])=S at I j⊢;cases hd:r.deep with
 |false=>
    show cu (U () ?_);have hs:r.subs=[r]:=by cases r<;>first|rfl|cases hd
    show q l [.ref t] S I R j (by rw[hs];show .cons (hR.kp (.of I)) .nil)|true=>
    obtain⟨hK,ap⟩:=v hd;show bI ?_;show{_,(),_,(),?_};have hc:=r.cnt_lt;have as:2^r.hgt<=2^6:=F_ (by decide) (by lia);have aa:e.length=r.kids.length:=(Paired.length hK).symm;have J:∀(i:Nat)(k:Ru),r.kids[i]?=some k->k.hgt<=n:=λi k V=>G7 (f_ V) hh;show{t,U () {am.tseq I hT,λz=>absurd z.1 (Hs _ _),λp hp=>?_}};rw[Fb];have s2:=aj (o:=.tup e) I hp;have L:aH S p (.tup e) l=some (.lst [.ref t]):=by rw[ak (az j hp)];show j
    have B:aH S p (.tup e) p=some (.tup e):=ae
    try dsimp only
    generalize aH S p (.tup e)=H2 at s2 L B⊢;show{p,(),{_,aY.of B},Hl (xs:=e) (D:={nx:=K3 (IC 1) {nx:=λ_ H'=>Q .non H',rt:=Q},rt:=Q}) (λi W H'=>am H H'/\H' p=some (.tup e)/\(∃C,H' l=some (.lst C)/\jb K H' (r::((r.kids.take i).map Ru.subs).flatten) C)/\∃v2,W=[some (.ref t),some (.ref l),v2]) {s2,B,{[.ref t],L,.cons (hR.kp (.of s2)) .nil},_,()} (λi W H' _ h=>aY.of h.2.1) ?_ ?_}
    ·rintro i x W H3 hx⟨X,u,⟨C,c,g⟩,v2,rfl⟩;obtain⟨k,V,ad⟩:=jb.get hK i x hx;show au (U () {.inl {(),_,aS.of c},U () {k,x,(),ad.kp (.of X),J i k V,by lia,λl' al H4 M ax an N=>?_}});have e1:((r.kids.take (i+1)).map Ru.subs).flatten=((r.kids.take i).map Ru.subs).flatten++k.subs:=by rw[t_,V,gV,List.flatten_append];simp
     have n1:=Paired.length g;have n2:=Paired.length N;have n3:(((r.kids.take i).map Ru.subs).flatten).length+k.subs.length<=64:=by
      have e2:r.subs.length=1+((r.kids.map Ru.subs).flatten).length:=by rw[r.subs_kids,md];lia
      have e3:((r.kids.map Ru.subs).flatten).length=(((r.kids.take (i+1)).map Ru.subs).flatten).length+(((r.kids.drop (i+1)).map Ru.subs).flatten).length:=by rw[<-hQ,<-List.flatten_append,<-gV,ro]
      rw[e1,hQ]at e3;unfold Ru.cnt at hc;lia
     rw[md]at n1;show{l,l',_,U () {(),M _ _ c,an,by rw[g8];lia,?_}};have kq:Kp H4 (aH H4 l (.lst (C++al))):=.lst (M _ _ c);show{bv (X.trans M) R,?_,{_,ae,?_},_,()}
     ·rw[ak (λz=>by rw[z,c]at u;cases u)];show M _ _ u
     ·rw[e1,<-List.cons_append];show jb.app ((g.kp (.of M)).kp kq) (N.kp kq)
    ·rintro W H3⟨X,u,⟨C,c,g⟩,v2,rfl⟩;show U () (q l C H3 X R c ?_);rw[r.subs_kids];rw[aa,hF (e_ _)]at g;show g
end
def Ki[DecidableEq g][BEq g][LawfulBEq g][DecidableEq h][BEq h][LawfulBEq h](f:g->h)(i:∀a b,f a=f b->a=b)(d:List g):dd (d.map f)=(dd d).map f:=by
 have gen:∀(d c:List g),(d.map f).foldl PyProof.Rows.step_dedup (c.map f)=(d.foldl PyProof.Rows.step_dedup c).map f:=by
  intro d
  induction d with|nil=>intro c;rfl|cons k r j=>
   intro c;rw[lm,w1,w1,<-j]
   congr 1
   unfold PyProof.Rows.step_dedup;have e:(c.map f).any (λy=>y==f k)=c.any (λy=>y==k):=by
    rw[List.any_map]
    congr 1
    funext y
    change(f y==f k)=(y==k)
    by_cases q:y=k
    ·rw[q,rf,rf]
    ·rw[beq_false_of_ne q,beq_false_of_ne (λz=>q (i _ _ z))]
   by_cases q:c.any (λy=>y==k)=true
   ·rw[g6 (e.trans q),g6 q]
   ·rw[g_ (λz=>q (e.symm.trans z)),g_ q,gV];rfl
 show gen d []
def Ru.wset(r:Ru):List Str:=dd r.words
def Ru.wset_keys(r:Ru):dd (r.words.map (Sum.inr:Str->bY))=r.wset.map Sum.inr:=Ki Sum.inr (λ_ _ h=>pu h) r.words
def Ru.wset_le(r:Ru):r.wset.length<=r.cnt:=by have h1:=qI r.words [];have h2:=r.words_le;unfold Ru.wset dd;simp at h1;lia
inductive FY(K:O2)(vs:List V)(H:Hp)(Q:VK)(_E:XK):Prop|mk(r:Ru)(rv:V)(_:vs=[rv])(_:fB K H r rv)(_:r.hgt<=6)(_:∀(l:Addr)(ss:O8)(H':Hp),am H H'->H l=none->H' l=some (.lst (ss.map V.str))->ss.Perm r.wset->ss.Pairwise mL->Q (.ref l) H')
section
def yO(T:Txt K mg a):aP P w K mg base cP 8 a.jQ.x a.jQ.d ["rule"] (FY K):=by
 show T.jQ.ok yu λaa A outer s H vs Q E hr h=>?_
 ·obtain⟨r,rv,rfl,hR,hh,q⟩:=h;show{_,(ah (ay (aB (xN (P:=P) (w:=w) ()) (by rfl) T.uy L2.mj (ac (cE (uM (P:=P) (w:=w) K () ()) (by rfl) T.Ee L2.uQ (ac (sB ["rule"] ["inner"] [] [1] (ai nJ) (b0 1) (cL K () (bR ((jG T 6).mono (by decide)) hr () T.bX.m T.bX.f.kp T.bX.b .nil aQ (ac (Y 0) O))) (λcl C s₀ H₀ ex=>{(lB ["rule"] ["inner"] 1),(pj (aD (nQ K ()) (dJ K (Y 1) af) (bx (ac aF (ac aF O))) (by with_unfolding_all rfl))),(dJ K (Y 1) af)})) O)) O)))),?_}
  show U () {r,rv,(),hR,hh,e_ _,λl F H1 M hl u y=>?_};have hc:=r.cnt_lt;have ad:2^r.hgt<=2^6:=F_ (by decide) (by lia);have G:F.length=r.subs.length:=(Paired.length y).symm;have al:r.subs.length<64:=by unfold Ru.cnt at hc;lia
  show{l,(),{_,aS.of u},λD N=>?_};show kz (K:=K) (a:=l) (xs:=F) (λi e H'=>e=((r.subs.take i).filterMap Ru.word1).map V.str/\am H1 H'/\H' D=some (.lst e)) {by rw[t4];rfl,aj (am.refl _) N,ae} (λi e H' _ h=>aS.of (h.2.1 _ _ u)) ?_ ?_
  ·rintro i v e B R⟨rfl,p,c⟩;have hi:i<F.length:=(d_.mp R).1;obtain⟨k,hk,I⟩:=jb.get y i v R;obtain⟨t,vs,rfl,S,_,hw⟩:=(I.kp (.of p)).tup;show au (U () (rX S (aq (k:=0) ()) {ls (),λW J=>?_}));have g:=aj (o:=.tup [.str "has",.str "least"]) (am.refl B) J;show{W,U () {.inr (aY.of ae),(),(),U () ?_}};change if nX (.str k.kind) [.str "has",.str "least"]=true then _ else _
   rw[Hg]
   try dsimp only
   generalize aH B W (.tup [.str "has",.str "least"])=H3 at g⊢;have X:(r.subs.take (i+1)).filterMap Ru.word1=(r.subs.take i).filterMap Ru.word1++k.word1.toList:=by
    rw[t_,hk,rr]
    congr 1
   have fl:((r.subs.take i).filterMap Ru.word1).length<=i:=iA (N5 _ _) (B_ _ _);cases j:k.word1 with|none=>show cu (lf hi {?_,p.trans g,g _ _ c});rw[X,j];simp|some wd=>
    obtain⟨an,rfl⟩:=hw wd j;show bI (U () (rX (am.tseq g S) (aq (k:=1) ()) {g _ _ c,?_,lf hi {?_,bv (p.trans g) N,ae}}))
    ·rw[b_,g8];lia
    ·rw[X,j,gV];rfl
  ·rintro e B⟨rfl,p,c⟩;rw[G,hF (e_ _),r.words_subs]at c;have wl:=r.words_le;have ap:=r.wset_le;have c:B D=some (.lst ((r.words.map (Sum.inr:Str->bY)).map kV)):=by rw[qr];show c
   show{D,r.words.map Sum.inr,(),aS.of c,by rw[b_];lia,λZ L=>?_};rw[r.wset_keys];have g:=aj (o:=xg P w Z (r.wset.map Sum.inr)) (am.refl B) L;show{Z,r.wset,(),ae,by lia,λq2 ss n hp hs=>?_};have s4:=aj (o:=.lst (ss.map V.str)) g n;show q q2 ss _ ((M.trans p).trans s4) (by cases z:H q2 with|none=>rfl|some o=>rw[((M.trans p).trans g) _ _ z]at n;cases n) ae hp hs
end
theorem Ec[BEq c][LawfulBEq c]:∀{l m:List c},l.Nodup->(∀x∈l,x∈m)->l.length<=m.length
 |[],m,_,_=>ku _|a::l,m,h,g=>by
  obtain⟨h1,h2⟩:=OY.mp h;have p:=List.perm_cons_erase (g a i_);have:=Ec (m:=m.erase a) h2 λx b=>by
   rcases q_.mp (p.mem_iff.mp (g x (il _ b)))with rfl|q
   ·show absurd b h1
   ·show q
  have e:=p.length_eq;rw[md]at e⊢;lia
theorem Fa[DecidableEq d][BEq d][LawfulBEq d]:∀(f c:List d)(x:d),x∈f.foldl PyProof.Rows.step_dedup c↔x∈c\/x∈f
 |[],c,x=>by simp|k::r,c,x=>by
  rw[w1,Fa r];unfold PyProof.Rows.step_dedup
  by_cases e:c.any (λy=>y==k)=true
  ·rw[g6 e];obtain⟨y,b,q⟩:=Oh.mp e;have g:k∈c:=by rw[<-eq_of_beq q];show b
   constructor
   ·rintro(h|h)
    ·show .inl h
    ·show .inr (il _ h)
   ·rintro(h|h)
    ·show .inl h
    ·rcases q_.mp h with rfl|h
     ·show .inl g
     ·show .inr h
  ·rw[g_ e];simp only[List.mem_append,List.mem_singleton,q_,or_assoc,op,false_or]
def Kh{c:Type}[DecidableEq c][BEq c][LawfulBEq c]{d:List c}{x:c}(h:x∈dd d):x∈d:=by
 rcases(Fa d [] x).mp h with h|h
 ·cases h
 ·show h
theorem Ih[DecidableEq d][BEq d][LawfulBEq d]:∀(f c:List d),c.Nodup->(f.foldl PyProof.Rows.step_dedup c).Nodup
 |[],c,h=>h|k::r,c,h=>by
  rw[w1];show Ih r _ ?_;unfold PyProof.Rows.step_dedup
  by_cases e:c.any (λy=>y==k)=true
  ·rw[g6 e];show h
  ·rw[g_ e,m3];show{h,by simp,λa g b i=>?_};rw[List.mem_singleton.mp i];rintro rfl;show e (Oh.mpr {a,g,rf a})
inductive Gg(K:O2)(n:Nat)(vs:List V)(H:Hp)(Q:VK)(_E:XK):Prop|mk(r:Ru)(rv:V)(ws:O8)(_:vs=[rv,.int (n:Nat)])(_:fB K H r rv)(_:r.hgt<=n)(_:jL ws r)(_:(∀w∈ws,Wd w))(_:∀H',am H H'->Q (.bl true) H')
def EA{a b n:Nat}(h:max a b+1<=n+1):a<=n/\b<=n:=by have h1:=Ot a b;have h2:=N_ a b;lia
section
theorem re(T:Txt K mg a):∀n:Nat,aP P w K mg base cP (n+3) a.cn.x a.cn.d ["thing","depth"] (Gg K n)
 |0=>by
  show T.cn.f.ok lH (λz H Q E h=>?_) (λC A outer s H z Q E j h=>?_)
  ·obtain⟨r,D,e,rfl,_⟩:=h;rfl
  ·obtain⟨r,D,e,rfl,_,hh,_⟩:=h;have:=r.hgt_pos;lia|n+1=>by
  have F:=re T n;show T.cn.f.ok lH (λz H Q E h=>?_) (λC A outer s H z Q E j h=>?_)
  ·obtain⟨r,D,e,rfl,_⟩:=h;rfl
  ·obtain⟨r,D,e,rfl,R,hh,o,l,q⟩:=h;show{_,(ag (aN (PW.pt (fL (aD aX (Y 1) af (aG _)) (fL (cp (aT K () (aB (fb K ()) (by rfl) T.bS L2.bg (ac (Y 0) (ac (lg () T.dZ L2.bW) O))) (λ_=>()))) (dX (aD aX (aB (aI K ()) (by rfl) T.bE L2.aL (ac (Y 0) O)) af (aG _)))))) (ah (ay iB)) aE) (ag (bp 2 lH.nd (dJ K (Y 0) af)) (ag (aN (aD aX (Y 2) aF (aG _)) (ah (ay (cf aX (aB (aI K ()) (by rfl) T.bE L2.aL (ac (Y 0) O)) af (aG _)))) aE) (ag (aN (aD aX (Y 2) aF (aG _)) (ah (ay (cH (cf aX (aB (aI K ()) (by rfl) T.bE L2.aL (ac (Y 0) O)) af (aG _)) (dO (bR ((gR T).mono (by first|decide|omega)) j () T.d0.m T.d0.f.kp T.d0.b .nil aQ (ac (dJ K (Y 0) af) O)))))) aE) (ag (aN (aD aX (Y 2) aF (aG _)) (ah (ay (cH (cf aX (aB (aI K ()) (by rfl) T.bE L2.aL (ac (Y 0) O)) af (aG _)) (cH (bR ((gR T).mono (by first|decide|omega)) j () T.d0.m T.d0.f.kp T.d0.b .nil aQ (ac (dJ K (Y 0) af) O)) (dO (bR ((px T).mono (by first|decide|omega)) j () T.fu.m T.fu.f.kp T.fu.b .nil aQ (ac (dJ K (Y 0) af) O))))))) aE) (ag (aN (aD aX (Y 2) aF (aG _)) (ah (ay (cH (cf aX (aB (aI K ()) (by rfl) T.bE L2.aL (ac (Y 0) O)) af (aG _)) (dO (bR F j () T.cn.m T.cn.f.kp T.cn.b .nil aQ (ac (dJ K (Y 0) af) (ac (aA fV (Y 1) af) O))))))) aE) (ag (aN (PW.pt (fL (aD aX (Y 2) aF (aG _)) (dX (aD aX (Y 2) aF (aG _))))) (ah (ay (cH (cf aX (aB (aI K ()) (by rfl) T.bE L2.aL (ac (Y 0) O)) af (aG _)) (cH (bR F j () T.cn.m T.cn.f.kp T.cn.b .nil aQ (ac (dJ K (Y 0) af) (ac (aA fV (Y 1) af) O))) (dO (bR F j () T.cn.m T.cn.f.kp T.cn.b .nil aQ (ac (dJ K (Y 0) af) (ac (aA fV (Y 1) af) O)))))))) aE) (ah (ay iB))))))))),?_}
   have hd:((n+1:Nat):Int)-1=(n:Int):=by lia
   obtain⟨t,z,rfl,B,-⟩:=R.tup;show U () {(),U () (kj (λh=>absurd h (by lia)) (λG=>?_))};show U () {_,"tuple",_,true,(),.inr {t,U () {B,()}},iK (dk ()),true,(),cu ?_};show U () {_,U () {.inr {_,B,()},(),U () (kj (λh=>absurd h (by rw[md];lia)) (λI=>?_))}};show U () (rX B (aq (k:=0) ()) ?_);show au ?_;clear B G I;cases R with
 |any h=>show U () {(),U () (ca ?_)};show U () {_,U () {.inr {_,h,()},(),?_}};show kG (p:=V.int 1=V.int 1) () (q H (am.refl _))|has h=>cases o with|has hm=>show U () {(),U () (wn ?_)};show U () {(),U () (ca ?_)};show U () {_,U () {.inr {_,h,()},(),U () (bI ?_)}};show U () (rX h () {V.str _,(),.inl (U () {l _ hm,q})})
   |least h=>cases o with|least hm h1 h2=>(iterate 2 show U () {(),U () (wn ?_)});show U () {(),U () (ca ?_)};show U () {_,U () {.inr {_,h,()},(),U () (bI ?_)}};show U () (rX h () {V.str _,(),.inl (U () {l _ hm,λJ c=>(U () (bI ?_))})});show{_,(),t,_,2,_,(),(),am.tseq c h,(),_,(),(h1,h2,),q J c}
   |not h h1=>cases o with|not u=>rename_i g i;have hh:g.hgt+1<=n+1:=hh;(iterate 3 show U () {(),U () (wn ?_)});show U () {(),U () (ca ?_)};show U () {_,U () {.inr {_,h,()},(),U () (bI ?_)}};show U () (rX h () (U () (r2 ?_)));show{g,i,e,by change[i,V.int (((n+1:Nat):Int)-1)]=_;rw[hd],h1,by lia,u,l,q}
   |both h h1 h2=>cases o with|both u L=>rename_i g v i y;have hh:=EA (show max g.hgt v.hgt+1<=n+1 from hh);(iterate 4 show U () {(),U () (wn ?_)});show U () {(),U () (ca ?_)};show U () {_,U () {.inr {_,h,()},(),U () (bI ?_)}};show U () (rX h () (U () (r2 ?_)));show{g,i,e,by change[i,V.int (((n+1:Nat):Int)-1)]=_;rw[hd],h1,hh.1,u,l,λJ c=>(U () (bI ?_))};show U () (rX (am.tseq c h) () (U () (r2 ?_)));show{v,y,e,by change[y,V.int (((n+1:Nat):Int)-1)]=_;rw[hd],h2.kp (.of c),hh.2,L,l,λM N=>q M (c.trans N)}
   |either h h1 h2=>cases o with|either u L=>rename_i g v i y;have hh:=EA (show max g.hgt v.hgt+1<=n+1 from hh);(iterate 5 show U () {(),U () (wn ?_)});show U () {(),U () (ca ?_)};show U () {_,U () {.inr {_,h,()},(),U () (bI ?_)}};show U () (rX h () (U () (r2 ?_)));show{g,i,e,by change[i,V.int (((n+1:Nat):Int)-1)]=_;rw[hd],h1,hh.1,u,l,λJ c=>(U () (bI ?_))};show U () (rX (am.tseq c h) () (U () (r2 ?_)));show{v,y,e,by change[y,V.int (((n+1:Nat):Int)-1)]=_;rw[hd],h2.kp (.of c),hh.2,L,l,λM N=>q M (c.trans N)}
end
def jL.mem(h:jL c r):∀w∈r.words,w∈c:=by induction h with|any=>showλw h=>(nomatch h)|has h=>intro w b;rw[List.mem_singleton.mp b];show h|least h=>intro w b;rw[List.mem_singleton.mp b];show h|not _ h=>show h|both _ _ h g=>showλw b=>(List.mem_append.mp b).elim (h w) (g w)|either _ _ h g=>showλw b=>(List.mem_append.mp b).elim (h w) (g w)
def jL.few{c:O8}{r:Ru}(h:jL c r):r.wset.length<=c.length:=Ec (Ih r.words [] NO) λx b=>h.mem x (Kh b)
inductive Dp(K:O2)(vs:List V)(H:Hp)(Q:VK)(_E:XK):Prop|mk(r:Ru)(rv:V)(ws:O8)(_:vs=[rv])(_:fB K H r rv)(_:r.hgt<=6)(_:r.cnt<=30)(_:jL ws r)(_:(∀w∈ws,Wd w))(_:ws.length<=3)(_:∀H',am H H'->Q (.bl true) H')
section
def Aj(T:Txt K mg a):aP P w K mg base cP 10 a.mG.x a.mG.d ["thing"] (Dp K):=by
 show T.mG.ok zW λv A outer s H L Q E c h=>?_
 ·obtain⟨r,e,y,rfl,g,hh,hc,o,z,M,q⟩:=h;show{_,(ag (aN (cp (aT K () (bR ((re T 6).mono (by decide)) c () T.cn.m T.cn.f.kp T.cn.b .nil aQ (ac (Y 0) (ac (cx T.uP ()) O))) (λ_=>()))) (ah (ay iB)) aE) (ah (ay (cH (cf jv (aB (aI K ()) (by rfl) T.bE L2.aL (ac (bR ((jG T 6).mono (by decide)) c () T.bX.m T.bX.f.kp T.bX.b .nil aQ (ac (Y 0) O)) O)) (cx T.xS ()) (aG _)) (dO (cf jv (aB (aI K ()) (by rfl) T.bE L2.aL (ac (pc T.jQ (yO T) c (ac (Y 0) O)) O)) (cx T.xP ()) (aG _))))))),?_}
  show U () {r,e,y,(),g,hh,o,z,λN i=>(U () (cu ?_))};show U () {r,e,(),g.kp (.of i),hh,e_ _,λl p R t B j k=>?_};have C:p.length=r.subs.length:=(Paired.length k).symm;unfold Ru.cnt at hc;show{_,p.length,(),.inl {_,aS.of j,()},_,U () {(),U () (lz (λ_=>?_) (λh=>absurd (by lia) h))}};show U () {r,e,(),g.kp (.of (i.trans t)),hh,λS u D F G n I _=>?_};have V:=o.few;have J:=I.length_eq;show{_,u.length,(),.inl {_,aS.of n,by simp},_,U () {(),?_}};show kG (show((u.length:Nat):Int)<=3 by lia) (q D ((i.trans t).trans F))
end
inductive Gf(K:O2)(h:Nat)(vs:List V)(H:Hp)(Q:VK)(_E:XK):Prop|mk(r:Ru)(rv:V)(ms:List (Str×Int))(mv:V)(_:vs=[rv,mv])(_:fB K H r rv)(_:r.hgt<=h)(_:pX K H ms mv)(_:ms.length<=100)(_:∀H',am H H'->Q (.bl (r.sat ms)) H')
section
theorem yW(T:Txt K mg a):∀h:Nat,aP P w K mg base cP (h+1) a.dU.x a.dU.d ["rule","marks"] (Gf K h)
 |0=>by
  show T.dU.f.ok tw (λvs H Q E h=>?_) (λaa A outer s H vs Q E N h=>?_)
  ·obtain⟨r,rv,k,mv,rfl,_⟩:=h;rfl
  ·obtain⟨r,rv,k,mv,rfl,_,hh,_⟩:=h;have:=r.hgt_pos;lia|n+1=>by
  have S:=yW T n;show T.dU.f.ok tw (λvs H Q E h=>?_) (λaa A outer s H vs Q E N h=>?_)
  ·obtain⟨r,rv,k,mv,rfl,_⟩:=h;rfl
  ·obtain⟨r,rv,k,mv,rfl,hR,hh,R,o,q⟩:=h;obtain⟨mt,l,rfl,G,W,X⟩:=id R;show{_,(ag (bp 2 tw.nd (dJ K (Y 0) af)) (ag (aN (aD aX (Y 2) aF (aG _)) (ah (ay iB)) aE) (ag (aN (aD aX (Y 2) aF (aG _)) (ah (ay (aB (qN K () ()) (by rfl) T.Eh L2.uT (ac (sB pV ["mark"] [] [3] (ai sH) (b0 3) (iy K () (Y 1)) (λcl C s₀ H₀ ex=>{(lB pV ["mark"] 3),bQ,(cf aX (dJ K (Y 3) af) (dJ K (Y 0) af) (aG _))})) O)))) aE) (ag (aN (aD aX (Y 2) aF (aG _)) (ah (ay (aB (qN K () ()) (by rfl) T.Eh L2.uT (ac (sB pV ["mark"] [] [3] (ai sH) (b0 3) (iy K () (Y 1)) (λcl C s₀ H₀ ex=>{(lB pV ["mark"] 3),bQ,(cH (cf aX (dJ K (Y 3) af) (dJ K (Y 0) af) (aG _)) (dO (cf D3 (dJ K (Y 3) af) (dJ K (Y 0) af) (aG _))))})) O)))) aE) (ag (aN (aD aX (Y 2) aF (aG _)) (ah (ay (DX (bR S N () T.dU.m T.dU.f.kp T.dU.b .nil aQ (ac (dJ K (Y 0) af) (ac (Y 1) O)))))) aE) (ag (aN (aD aX (Y 2) aF (aG _)) (ah (ay (cH (bR S N () T.dU.m T.dU.f.kp T.dU.b .nil aQ (ac (dJ K (Y 0) af) (ac (Y 1) O))) (dO (bR S N () T.dU.m T.dU.f.kp T.dU.b .nil aQ (ac (dJ K (Y 0) af) (ac (Y 1) O))))))) aE) (ah (ay (Lz (bR S N () T.dU.m T.dU.f.kp T.dU.b .nil aQ (ac (dJ K (Y 0) af) (ac (Y 1) O))) (dO (bR S N () T.dU.m T.dU.f.kp T.dU.b .nil aQ (ac (dJ K (Y 0) af) (ac (Y 1) O))))))))))))),?_}
   have c:∀{A B:Prop}{x y:Str},x≠y->B->if decide (V.str x=V.str y)=true then A else B:=λh b=>EI (λe=>absurd e h) (λ_=>b)
   have j:∀{A B:Prop}{x:Str},A->if decide (V.str x=V.str x)=true then A else B:=λa=>EI (λ_=>a) (λh=>absurd () h)
   cases hR with|any h=>show U () (rX h () ?_);show U () {(),U () (j (q _ (am.refl _)))}|has h=>
    show U () (rX h () ?_);show U () {(),U () (c (dk ()) ?_)};show U () {(),U () (j ?_)};rename_i Z wd;show U () {mt,(),{_,G},λD hD=>?_};have p:∀g,am H (aH H D (.lst g)):=λg=>aj (am.refl _) hD;show gJ (K:=K) (a:=mt) (xs:=l) (λi g H'=>g=((k.take i).map (L6 wd)).map V.bl/\H'=aH H D (.lst g)) {by rw[t4];rfl,()} (λi g H' _ h=>h.2▸am.tseq (p _) G) ?_ ?_
    ·rintro i v g _ J⟨rfl,rfl⟩;have hi:i<l.length:=(d_.mp J).1;obtain⟨b,hb,hB⟩:=X i (k[i]'(by lia)) (ga (by lia));rw[hb]at J;cases J;show au (iG (bI ?_));show U () (rX (am.tseq (p _) hB) () (U () (rX (am.tseq (p _) h) () {(),ae,?_,lf hi {?_,?_}})))
     ·rw[b_,b_,k4,g8];lia
     ·rw[sU (ga (by lia)),gV];rfl
     ·rw[ic]
    ·rintro g _⟨rfl,rfl⟩;show{D,_,(),aS.of ae,?_};rw[W,hF (e_ _)];show q _ (p _)|least h=>
    show U () (rX h () ?_);(iterate 2 show U () {(),U () (c (dk ()) ?_)});show U () {(),U () (j ?_)};rename_i Z wd t;show U () {mt,(),{_,G},λD hD=>?_};have p:∀g,am H (aH H D (.lst g)):=λg=>aj (am.refl _) hD;show gJ (K:=K) (a:=mt) (xs:=l) (λi g H'=>g=((k.take i).map (gT wd t)).map V.bl/\H'=aH H D (.lst g)) {by rw[t4];rfl,()} (λi g H' _ h=>h.2▸am.tseq (p _) G) ?_ ?_
    ·rintro i v g _ J⟨rfl,rfl⟩;have hi:i<l.length:=(d_.mp J).1;obtain⟨b,hb,hB⟩:=X i (k[i]'(by lia)) (ga (by lia));rw[hb]at J;cases J;have fin:∀b,b=gT wd t (k[i]'(by lia))->aH H D (.lst (((k.take i).map (gT wd t)).map V.bl)) D=some (.lst (((k.take i).map (gT wd t)).map V.bl))/\(((k.take i).map (gT wd t)).map V.bl).length<sizeLine/\∃m',m'<l.length-i/\m'=l.length-(i+1)/\i+1<=l.length/\((((k.take i).map (gT wd t)).map V.bl++[V.bl b]=((k.take (i+1)).map (gT wd t)).map V.bl)/\aH (aH H D (.lst (((k.take i).map (gT wd t)).map V.bl))) D (.lst (((k.take i).map (gT wd t)).map V.bl++[V.bl b]))=aH H D (.lst (((k.take i).map (gT wd t)).map V.bl++[V.bl b]))):=λb eb=>by
      show{ae,?_,lf hi {?_,?_}}
      ·rw[b_,b_,k4,g8];lia
      ·rw[sU (ga (by lia)),gV,eb];rfl
      ·rw[ic]
     show au (iG (bI ?_));show U () (rX (am.tseq (p _) hB) () (U () (rX (am.tseq (p _) h) () {(),U () (EI (λe=>?_) (λe=>?_))})))
     ·show U () (rX (am.tseq (p _) hB) () (U () (rX (am.tseq (p _) h) () (r2 (fin _ ?_)))));unfold gT;rw[g6 (by rw[e];show j2 ())]
     ·show fin _ ?_;unfold gT;rw[g_ (by rw[j_ (λz=>e (V.str.inj z))];show iq)]
    ·rintro g _⟨rfl,rfl⟩;show{D,_,(),aS.of ae,?_};rw[W,hF (e_ _)];show q _ (p _)|not h h1=>rename_i Z F v;have hq:F.hgt+1<=n+1:=hh;show U () (rX h () ?_);(iterate 3 show U () {(),U () (c (dk ()) ?_)});show U () {(),U () (j ?_)};show U () (rX h () (U () {F,v,k,_,(),h1,by lia,R,o,λH' sm=>(U () (q H' sm))}))|both h h1 h2=>
    rename_i Z F L v u;have hq:max F.hgt L.hgt+1<=n+1:=hh;show U () (rX h () ?_);(iterate 4 show U () {(),U () (c (dk ()) ?_)});show U () {(),U () (j ?_)};show U () (rX h () (U () {F,v,k,_,(),h1,by lia,R,o,λH' sm=>(U () ?_)}));have I:∀H',am H H'->Q (.bl (if F.sat k=true then L.sat k else false)) H':=q;show uD (λe=>?_) (λe=>?_)
    ·rw[g6 e]at I;show U () (rX (am.tseq sm h) () (U () {L,u,k,_,(),h2.kp (.of sm),by lia,R.kp (.of sm),o,λH2 M=>I H2 (sm.trans M)}))
    ·rw[g_ (by rw[e];show iq)]at I;show I H' sm|either h h1 h2=>
    rename_i Z F L v u;have hq:max F.hgt L.hgt+1<=n+1:=hh;show U () (rX h () ?_);(iterate 5 show U () {(),U () (c (dk ()) ?_)});show U () (rX h () (U () {F,v,k,_,(),h1,by lia,R,o,λH' sm=>(U () ?_)}));have I:∀H',am H H'->Q (.bl (if F.sat k=true then true else L.sat k)) H':=q;show uD (λe=>?_) (λe=>?_)
    ·rw[g6 e]at I;show I H' sm
    ·rw[g_ (by rw[e];show iq)]at I;show U () (rX (am.tseq sm h) () (U () {L,u,k,_,(),h2.kp (.of sm),by lia,R.kp (.of sm),o,λH2 M=>I H2 (sm.trans M)}))
end
inductive Gm(vs:List V)(H:Hp)(Q:VK)(_E:XK):Prop|mk(x:_)(_:vs=[.str x])(_:Wd x)(_:∀H',am H H'->Q .non H')
inductive Gr(K:O2)(vs:List V)(H:Hp)(Q:VK)(_E:XK):Prop|mk(p:Addr)(l:O8)(_:vs=[.ref p])(_:aY K H p (l.map V.str))(_:(∀w∈l,Wd w))(_:l.Nodup)(_:1<=l.length)(_:l.length<=4)(_:∀H',am H H'->Q .non H')
inductive Gn(K:O2)(vs:List V)(H:Hp)(Q:VK)(_E:XK):Prop|mk(r:Ru)(rv:V)(ws:O8)(_:vs=[rv])(_:fB K H r rv)(_:r.hgt<=6)(_:r.cnt<=30)(_:jL ws r)(_:(∀w∈ws,Wd w))(_:ws.length<=3)(_:∀H',am H H'->Q .non H')
inductive DA(vs:List V)(H:Hp)(Q:VK)(_E:XK):Prop|mk(x:_)(_:vs=[.str x])(_:w6 x)(_:∀H',am H H'->Q .non H')
inductive Dy(K:O2)(vs:List V)(H:Hp)(Q:VK)(_E:XK):Prop|mk(v:V)(l:List (Str×Int))(_:vs=[v])(_:pX K H l v)(_:(∀m∈l,Wd m.1/\-cC<=m.2/\m.2<=cC))(_:(l.map Prod.fst).Nodup)(_:l.length<=8)(_:∀H',am H H'->Q .non H')
inductive DB(vs:List V)(H:Hp)(Q:VK)(_E:XK):Prop|mk(z:_)(_:vs=[.int z])(_:0<=z)(_:Q .non H)
inductive BZ(K:O2)(vs:List V)(H:Hp)(Q:VK)(_E:XK):Prop|mk(p:Addr)(l:Pc)(_:vs=[.ref p,.int (l.length:Nat)])(_:aY K H p (l.map V.int))(_:(∀i∈l,0<=i))(_:l.length<=100)(_:∀H',am H H'->Q .non H')
inductive Gq(K:O2)(vs:List V)(H:Hp)(Q:VK)(_E:XK):Prop|mk(z:Int)(p:Addr)(l:Pc)(_:vs=[.int z,.ref p,.int (l.length:Nat)])(_:(0<=z/\z<=1000))(_:aY K H p (l.map V.int))(_:(∀i∈l,1<=i/\i<=cC))(_:l.length<=100)(_:∀H',am H H'->Q .non H')
section
def nj(T:Txt K mg a):aP P w K mg base cP 3 a.fX.x a.fX.d ["thing"] Gm:=by
 show T.fX.ok ve λb A outer s H i Q E c h=>?_
 ·obtain⟨x,rfl,e,q⟩:=h;show{_,(ah (aN (cp (aT K () (pc T.d0 (gR T) c (ac (Y 0) O)) (λ_=>()))) (ah ce) aE)),?_};show U () {V.str x,(),.inl {x,(),e,λf g=>(U () (cu (q f g)))}}
def vx(T:Txt K mg a):aP P w K mg base cP 4 a.gY.x a.gY.d ["thing"] (Gr K):=by
 show T.gY.ok vh λb A outer s H i Q E c h=>?_
 ·obtain⟨p,l,rfl,h1,h2,h3,h4,e,q⟩:=h;show{_,(ah (aN (cp (aT K () (pc T.kC (yX T) c (ac (Y 0) O)) (λ_=>()))) (ah ce) aE)),?_};show U () {p,l,(),h1,h2,h3,h4,e,λf g=>(U () (cu (q f g)))}
def vo(T:Txt K mg a):aP P w K mg base cP 11 a.gU.x a.gU.d ["thing"] (Gn K):=by
 show T.gU.ok vf λb A outer s H l Q E c h=>?_
 ·obtain⟨r,e,f,rfl,h1,h2,h3,h4,g,i,q⟩:=h;show{_,(ah (aN (cp (aT K () (pc T.mG (Aj T) c (ac (Y 0) O)) (λ_=>()))) (ah ce) aE)),?_};show U () {r,e,f,(),h1,h2,h3,h4,g,i,λj k=>(U () (cu (q j k)))}
def dP(T:Txt K mg a):aP P w K mg base cP 3 a.cA.x a.cA.d ["thing"] DA:=by
 show T.cA.ok tJ λb A outer s H i Q E c h=>?_
 ·obtain⟨x,rfl,e,q⟩:=h;show{_,(ah (aN (cp (aT K () (pc T.ko (yU T) c (ac (Y 0) O)) (λ_=>()))) (ah ce) aE)),?_};show U () {x,(),e,λf g=>(U () (cu (q f g)))}
def lU(T:Txt K mg a):aP P w K mg base cP 5 a.eX.x a.eX.d ["thing"] (Dy K):=by
 show T.eX.ok tG λb A outer s H g Q E c h=>?_
 ·obtain⟨v,l,rfl,h1,h2,h3,h4,q⟩:=h;show{_,(ah (aN (cp (aT K () (pc T.iV (xt T) c (ac (Y 0) O)) (λ_=>()))) (ah ce) aE)),?_};show U () {v,l,(),h1,h2,h3,h4,λe f=>(U () (cu (q e f)))}
def uo(T:Txt K mg a):aP P w K mg base cP 3 a.gm.x a.gm.d ["thing"] DB:=by
 show T.gm.ok tK λb A outer s H e Q E c h=>?_
 ·obtain⟨z,rfl,h0,q⟩:=h;show{_,(ah (aN (cp (aT K () (pc T.eV (gb T) c (ac (Y 0) O)) (λ_=>()))) (ah ce) aE)),?_};show U () {z,(),h0,U () (cu q)}
def rY(T:Txt K mg a):aP P w K mg base cP 4 a.fw.x a.fw.d ["thing","many"] (BZ K):=by
 show T.fw.ok rN λb A outer s H g Q E c h=>?_
 ·obtain⟨p,l,rfl,h1,h2,h3,q⟩:=h;show{_,(ah (aN (cp (aT K () (pc T.g9 (vy T) c (ac (Y 0) (ac (Y 1) O))) (λ_=>()))) (ah ce) aE)),?_};show U () (U () {p,l,(),h1,h2,h3,λe f=>(U () (cu (q e f)))})
def qp(T:Txt K mg a):aP P w K mg base cP 4 a.eJ.x a.eJ.d ["total","weights","many"] (Gq K):=by
 show T.eJ.ok qj λc A outer s H i Q E b h=>?_
 ·obtain⟨z,p,l,rfl,e,h1,h2,h3,q⟩:=h;show{_,(ah (aN (PW.pt (fL (cp (aT K () (pc T.km (yS T) b (ac (Y 0) O)) (λ_=>()))) (dX (cp (aT K () (pc T.gn (uq T) b (ac (Y 1) (ac (Y 2) O))) (λ_=>())))))) (ah ce) aE)),?_};show U () {z,(),e,U () (cu ?_)};show U () (U () {p,l,(),h1,h2,h3,λf g=>(U () (cu (q f g)))})
end
inductive BV(vs:List V)(H:Hp)(Q:VK)(_E:XK):Prop|mk(z:Int)(_:vs=[.int z])(_:(2<=z/\z<=997))(_:(∀i:Nat,2+(i:Int)<z->z%(2+(i:Int))≠0))(_:∀H',am H H'->Q (.bl true) H')
inductive Do(vs:List V)(H:Hp)(Q:VK)(_E:XK):Prop|mk(z:_)(_:vs=[.int z])(_:(0<=z/\z<=cC))(_:Q (.bl true) H)
inductive Dz(vs:List V)(H:Hp)(Q:VK)(_E:XK):Prop|mk(z s:Int)(_:vs=[.int z,.int s])(_:(2<=z/\z<=997))(_:(∀i:Nat,2+(i:Int)<z->z%(2+(i:Int))≠0))(_:(0<=s/\s<=cC))(_:∀H',am H H'->Q .non H')
inductive Jb(vs:List V)(H:Hp)(Q:VK)(_E:XK):Prop|mk(x:Str)(d:Addr)(kvs:List (bY×V))(_:vs=[.str x,.ref d])(_:Wd x)(_:H d=some (.dK kvs))(_:bf kvs (.inr x)=none)(_:∀H',am H H'->Q .non H')
inductive Du(vs:List V)(H:Hp)(Q:VK)(_E:XK):Prop|mk(x:Str)(d:Addr)(kvs:List (bY×V))(_:vs=[.str x,.ref d])(_:Wd x)(_:H d=some (.dK kvs))(_:(bf kvs (.inr x)).isSome=true)(_:∀H',am H H'->Q .non H')
theorem qg:∀c:List Str,(c.map V.str).all mf=true|[]=>()|w::r=>by rw[lm,Nx,qg r];rfl
def EK{w:Str}{c:O8}(h:w∈c):nX (.str w) (c.map V.str)=true:=by unfold nX;rw[Oh];show{.str w,ji.mpr {w,h,()},by change(w==w)=true;show rf w}
section
def yT(T:Txt K mg a):aP P w K mg base cP 2 a.kn.x a.kn.d ["thing"] BV:=by
 show T.kn.ok yy λe A outer s H j Q E f h=>?_
 ·obtain⟨z,rfl,⟨h1,h2⟩,hd,q⟩:=h;show{_,(ag (aN (PW.pt (fL (cp (aT K () (pc T.gF (jw T) f (ac (Y 0) O)) (λ_=>()))) (dX (cp (yI jv jv (cx T.vK ()) (Y 0) (cx T.qO ())))))) (ah (ay iB)) aE) (ah (ay (aB (iU K () ()) (by rfl) T.wz L2.kB (ac (sB ["thing"] ["divisor"] [] [1] (ai nK) (b0 1) (wk () T.eO (ac af (ac (Y 0) O))) (λcl C s₀ H₀ ex=>{(lB ["thing"] ["divisor"] 1),bQ,(cf HV (aA aW (Y 0) (Y 1)) af (aG _))})) O))))),?_}
  show U () {z,(),U () (cu ?_)};show U () (r2 (U () ?_));show lz (λ_=>?_) (λh=>absurd h1 h);show r2 (U () ?_);rw[j2 h2];show cu ?_;show U () {_,U () {{by decide,by decide,by omega,by omega},λD g=>?_}};show d6 (K:=K) (lo:=2) (n:=(z-2).toNat) (λi b c=>b=(List.replicate i true).map V.bl/\c=aH H D (.lst b)) {(),()} ?_ ?_
  ·rintro i b c hi⟨rfl,rfl⟩;show au (iG (bI (U () (U () (r2 {(by change(0:Int)<_;first|decide|omega),(),?_})))));show{ae,jR i (by omega),lf hi {?_,by rw[ic]}};have hn:=hd i (by omega);rw[<-iW]
   congr 2
   simp[hn]
  ·rintro b c⟨rfl,rfl⟩;show{D,_,(),aS.of ae,?_};rw[jS];show q _ (aj (am.refl _) g)
def Ai(T:Txt K mg a):aP P w K mg base cP 3 a.mF.x a.mF.d ["thing"] Do:=by
 show T.mF.ok zV λb A outer s H e Q E c h=>?_
 ·obtain⟨z,rfl,⟨h1,h2⟩,q⟩:=h;show{_,(ah (ay (cH (pc T.eV (gb T) c (ac (Y 0) O)) (dO (cf jv (Y 0) (aA ug af af) (aG _)))))),?_};show U () {z,(),h1,U () (bI ?_)}
  walk_at "a"
  show kG h2 q
def um(T:Txt K mg a):aP P w K mg base cP 4 a.gk.x a.gk.d ["prime","salt"] Dz:=by
 show T.gk.ok tI λc A outer s H g Q E b h=>?_
 ·obtain⟨z,sa,rfl,h1,h2,h3,q⟩:=h;show{_,(ah (aN (PW.pt (fL (cp (aT K () (pc T.kn (yT T) b (ac (Y 0) O)) (λ_=>()))) (dX (cp (aT K () (pc T.mF (Ai T) b (ac (Y 1) O)) (λ_=>())))))) (ah ce) aE)),?_};show U () {z,(),h1,h2,λe f=>(U () (cu ?_))};show U () {sa,(),h3,U () (cu (q e f))}
def py(T:Txt K mg a):aP P w K mg base cP 4 a.gW.x a.gW.d ["thing","names"] Jb:=by
 show T.gW.ok xk λe A outer s H i Q E b h=>?_
 ·obtain⟨x,d,f,rfl,h1,h2,h3,q⟩:=h;show{_,(ag (aM (pc T.fX (nj T) b (ac (Y 0) O))) (ah (aN (nN (Ag (bZ b) (Y 0) (Y 1)) ()) (ah ce) aE))),?_}
  show U () {x,(),h1,λg c=>?_};show U () (U () (rG none (by rw[<-h3];show dn.k (k:=.inr x) (c _ _ h2)) (U () (cu (q g c)))))
def dz(T:Txt K mg a):aP P w K mg base cP 4 a.bN.x a.bN.d ["thing","names"] Du:=by
 show T.bN.ok oI λf A outer s H i Q E c h=>?_
 ·obtain⟨x,d,b,rfl,h1,h2,h3,q⟩:=h;show{_,(ag (aM (pc T.fX (nj T) c (ac (Y 0) O))) (ah (aN (nN (mC (bZ c) (Y 0) (Y 1)) ()) (ah ce) aE))),?_}
  show U () {x,(),h1,λg e=>?_};show U () (U () (rG (bf b (.inr x)) (dn.k (k:=.inr x) (e _ _ h2)) (U () ?_)));rw[h3];show cu (q g e)
end
abbrev Pl:=cj×V×List Int
def fA(H:Hp)(tk:List gt)(m:List Pl):Prop:=Paired (λ(x:gt)(y:Pl)=>x.1=y.1/\x.2.1=y.2.1/\∃l,x.2.2=.ref l/\H l=some (.lst (y.2.2.map V.int))) tk m
structure eP(P:O7)(w:World)(K:O2)(C:Addr)(H:Hp)(t od td:Addr)(n:Nat)(ow:List (bY×V))(tk:List gt)(m:List Pl):Prop where
 ins:∃dx,H t=some (.ins C dx [("many",.int n),("owners",.ref od),("taken",.ref td)])own:H od=some (.dK ow)tak:H td=some (dM P w td tk)keys:eL K H tk
 lsts:fA H tk m
def fA.same(e:am H H')(h:fA H tk m):fA H' tk m:=Paired.mapP h λ_ _ h=>{h.1,h.2.1,h.2.2.imp λ_ q=>{q.1,e _ _ q.2}}
def eU(e:Kp H H')(h:cZ K H k v):cZ K H' k v:=by match k,h with|.inl _,h=>show h|.inr [],h=>show h|.inr (_::_),h=>obtain⟨b,h1,h2⟩:=h;show{b,h1,e.tq h2}
def nV(e:am H H')(h:cZ K H k v):cZ K H' k v:=by show eU (.of e) h
theorem eP.same(e:am H H')(h:eP P w K C H t c d n ow tk m):eP P w K C H' t c d n ow tk m:={let⟨dx,i⟩:=h.ins;{dx,e _ _ i},e _ _ h.own,e _ _ h.tak,λx b=>nV e (h.keys x b),h.lsts.same e}
def fA.val(h:fA H tk m)(k:cj):(∃l c,fO tk k=some (.ref l)/\fO m k=some c/\H l=some (.lst (c.map V.int)))\/(fO tk k=none/\fO m k=none):=by induction h with|nil=>show .inr {(),()}|@cons x y _ _ h _ b=>
  unfold fO at b⊢;rw[rd,rd,<-h.1]
  by_cases e:x.1=k
  ·rw[j2 e];show .inl (h.2.2.imp λ_ q=>{y.2.2,pa some q.1,(),q.2})
  ·rw[j_ e];show b
def bq(m:List Pl)(k:cj):List Int:=(fO m k).getD []
def gG(n:Nat)(ow:List (bY×V)):List Int:=((List.range n).filter λ(i:Nat)=>(bf ow (.inl (i:Int))).isNone).map λ(i:Nat)=>(i:Int)
inductive IV(P:O7)(w:World)(K:O2)(C:Addr)(vs:List V)(H:Hp)(Q:VK)(_E:XK):Prop|mk(t dx:Addr)(n:Nat)(_:vs=[.ref t,.int n])(_:H t=some (.ins C dx []))(_:H dx=some (.own t))(_:∀(od td:Addr)H',H od=none->H td=none->(∀b o,H b=some o->b≠t->H' b=some o)->eP P w K C H' t od td n [] [] []->Q .non H')
inductive BS(P:O7)(w:World)(K:O2)(C:Addr)(vs:List V)(H:Hp)(Q:VK)(_E:XK):Prop|mk(t od td:Addr)(n:Nat)(ow:List (bY×V))(tk:List gt)(m:List Pl)(p:Int)(_:vs=[.ref t,.int p])(_:eP P w K C H t od td n ow tk m)(_:Q ((bf ow (.inl p)).getD .non) H)
inductive zR(P:O7)(w:World)(K:O2)(C:Addr)(vs:List V)(H:Hp)(Q:VK)(_E:XK):Prop|mk(t od td:Addr)(n:Nat)(ow:List (bY×V))(tk:List gt)(m:List Pl)(k:cj)(kv:V)(_:vs=[.ref t,kv])(_:eP P w K C H t od td n ow tk m)(_:cZ K H k kv)(_:∀(l:Addr)H',am H H'->H l=none->H' l=some (.lst ((bq m k).map V.int))->Q (.ref l) H')
inductive IY(P:O7)(w:World)(K:O2)(C:Addr)(vs:List V)(H:Hp)(Q:VK)(_E:XK):Prop|mk(t od td:Addr)(n:Nat)(ow:List (bY×V))(tk:List gt)(m:List Pl)(_:vs=[.ref t])(_:eP P w K C H t od td n ow tk m)(_:n<=1000)(_:∀(l:Addr)H',am H H'->H l=none->H' l=some (.lst ((gG n ow).map V.int))->Q (.ref l) H')
section
def sd(T:Txt K mg a):aP P w K mg base cP 1 a.eg.x a.eg.d ["self","many"] (IV P w K a.bO):=by
 show T.eg.ok rP λF A outer s H J Q E L h=>?_
 ·obtain⟨t,dx,n,rfl,G,M,q⟩:=h;show{_,(ag (cr K () (Y 0) (Y 1)) (ag (cr K () (Y 0) kf) (ah (cr K () (Y 0) (DZ (P:=P) (w:=w)))))),?_}
  show U () (U () {t,_,dx,U () {G,T.bn,T.ny,by decide,?_}});have v:gx "many" (V.int n) []=([("many",V.int n)]:List (Str×V)):=();rw[v];have i:aH H t (.ins a.bO dx [("many",V.int n)]) t=some (.ins a.bO dx [("many",V.int n)]):=ae;have f1:∀b o,H b=some o->b≠t->aH H t (.ins a.bO dx [("many",V.int n)]) b=some o:=λb o e j=>by rw[ak j];show e
  generalize aH H t (.ins a.bO dx [("many",V.int n)])=u at i f1⊢;showλc g=>(U () {t,_,dx,U () {by rw[ak (az i g)];show i,T.bn,T.eD,by simp,?_}});have y:gx "owners" (V.ref c) [("many",V.int n)]=([("many",V.int n),("owners",V.ref c)]:List (Str×V)):=();rw[y];have B:c≠t:=λz=>by rw[z,i]at g;cases g
  have k:aH (aH u c (.dK [])) t (.ins a.bO dx [("many",V.int n),("owners",V.ref c)]) t=some (.ins a.bO dx [("many",V.int n),("owners",V.ref c)]):=ae;have m:aH (aH u c (.dK [])) t (.ins a.bO dx [("many",V.int n),("owners",V.ref c)]) c=some (.dK []):=by rw[ak B];show ae
  have f2:∀b o,H b=some o->b≠t->aH (aH u c (.dK [])) t (.ins a.bO dx [("many",V.int n),("owners",V.ref c)]) b=some o:=λb o e j=>by rw[ak j,ak (λz=>by rw[<-z,f1 b o e j]at g;cases g)];show f1 b o e j
  generalize aH (aH u c (.dK [])) t (.ins a.bO dx [("many",V.int n),("owners",V.ref c)])=N at k m f2⊢;showλl f=>(U () {t,_,dx,U () {by rw[ak (az k f)];show k,T.bn,T.gB,by simp,?_}});have C:gx "taken" (V.ref l) [("many",V.int n),("owners",V.ref c)]=([("many",V.int n),("owners",V.ref c),("taken",V.ref l)]:List (Str×V)):=();rw[C];have D:l≠t:=λz=>by rw[z,k]at f;cases f
  have dt:c≠l:=λz=>by rw[<-z,m]at f;cases f
  have p:H c=none:=by cases z:H c with|none=>rfl|some o=>rw[f1 c o z B]at g;cases g
  have r:H l=none:=by cases z:H l with|none=>rfl|some o=>rw[f2 l o z D]at f;cases f
  show q c l _ p r (λb o e j=>?_) {(dx,ae,),by rw[ak B,ak dt];show m,by rw[ak D];show ae,λx I=>(by cases I),.nil};rw[ak j,ak (λz=>by rw[<-z,f2 b o e j]at f;cases f)];show f2 b o e j
def dY(T:Txt K mg a):aP P w K mg base cP 1 a.bd.x a.bd.d ["self","owner"] (zR P w K a.bO):=by
 show T.bd.ok nH λv A outer s H F Q E y h=>?_
 ·obtain⟨t,G,z,n,ow,tk,m,k,I,rfl,i,B,q⟩:=h;show{_,(ah (ay (cE (oj K ()) (by rfl) T.uz L2.kA (ac (DY (P:=P) (w:=w) K () (bZ y) (aC K () (Y 0)) (Y 1) (bj O) {(),(),(),()}) O)))),?_};obtain⟨dx,C⟩:=i.ins;show U () {t,_,dx,_,U () {C,T.bn,T.gB,(),z,tk,(),i.tak,U () {ls (),λg j=>?_}}};have e:=aj (o:=.lst []) (am.refl H) j;have c:aH H g (.lst []) g=some (.lst []):=ae;generalize aH H g (.lst [])=J at e c⊢;have f:=i.same e;show{tk,k,f.tak,f.keys,nV e B,?_};rcases f.lsts.val k with⟨l,L,p,r,D⟩|⟨p,r⟩
  ·rw[p];show{l,U () {.inl (aS.of D),λu b=>q u _ (aj e b) (e.free b) ?_}};unfold bq;rw[r];show ae
  ·rw[p];show{g,U () {.inl (aS.of c),λu b=>q u _ (aj e b) (e.free b) ?_}};unfold bq;rw[r];show ae
def nr(T:Txt K mg a):aP P w K mg base cP 1 a.ee.x a.ee.d ["self"] (IY P w K a.bO):=by
 show T.ee.ok vj λp A outer s H y Q E r h=>?_
 ·obtain⟨t,z,B,n,ow,tk,m,rfl,j,hn,q⟩:=h;show{_,(ah (ay (sB ["self"] ["place"] [] [1] (ai kM) (b0 1) (dq () T.eO (ac (aC K () (Y 0)) O)) (λcl C s₀ H₀ ex=>{(lB ["self"] ["place"] 1),(pj (nN (mC (bZ r) (Y 1) (aC K () (Y 0))) ())),(Y 1)})))),?_}
  obtain⟨dx,l⟩:=j.ins;show U () {t,_,dx,_,U () {l,T.bn,T.ny,(),(n:Int),(),by lia,by lia,λD o=>?_}};have g:∀b,am H (aH H D (.lst b)):=λb=>aj (am.refl _) o;show d6 (K:=K) (lo:=0) (n:=(n:Int).toNat) (λi b H'=>b=(gG i ow).map V.int/\H'=aH H D (.lst b)) {(),()} ?_ ?_
  ·rintro i b _ hi⟨rfl,rfl⟩;have u:((gG i ow).map V.int).length<=i:=by unfold gG;rw[b_,b_];show iA (tx _ _) (by rw[m_];show e_ _)
   have c:gG (i+1) ow=gG i ow++if(bf ow (.inl (i:Int))).isNone=true then[(i:Int)]else[]:=by
    unfold gG;rw[NG,NQ,gV]
    congr 1
    by_cases e:(bf ow (.inl (i:Int))).isNone=true
    ·simp[e]
    ·simp[e]
   rw[show(0:Int)+(i:Int)=((i:Nat):Int)by lia];show au (U () (U () {t,_,dx,_,U () {g _ _ _ l,T.bn,T.eD,(),rG _ (dn.k (k:=.inl (i:Int)) (g _ _ _ j.own)) (U () ?_)}}));have f:i<(n:Int).toNat:=hi;cases e:bf ow (.inl (i:Int))with|none=>show bI (U () {ae,by rw[g8];lia,lf f {?_,by rw[ic]}});rw[c,e,gV];rfl|some v=>show cu (lf f {?_,()});rw[c,e,gV];show(nB _).symm
  ·rintro b _⟨rfl,rfl⟩;have e:(n:Int).toNat=n:=by lia
   rw[e];show q D _ (g _) o ae
end
def Fd(c:List V)(h:0<=i):vH c (some i) none=c.drop i.toNat:=by
 change(c.drop (if i<0 then(i+(c.length:Int)).toNat else min i.toNat c.length)).take (c.length-(if i<0 then(i+(c.length:Int)).toNat else min i.toNat c.length))=c.drop i.toNat;rw[g_ (by lia)];rcases Nat.le_total i.toNat c.length with b|b
 ·rw[Nat.min_eq_left b,hF (by rw[Nu];lia)]
 ·rw[Nat.min_eq_right b,List.drop_eq_nil_of_le (e_ _),List.drop_eq_nil_of_le b,List.take_nil]
def xM(c:List V)(h:0<=i):vH c none (some i)=c.take i.toNat:=by
 change(c.drop 0).take ((if i<0 then(i+(c.length:Int)).toNat else min i.toNat c.length)-0)=c.take i.toNat;rw[g_ (by lia),List.drop_zero,Nat.sub_zero];rcases Nat.le_total i.toNat c.length with b|b
 ·rw[Nat.min_eq_left b]
 ·rw[Nat.min_eq_right b,hF (e_ _),hF b]
def BI(c:List (bY×V))(k j:bY):bf (dR c k) j=if j=k then none else bf c j:=by induction c with|nil=>split<;>rfl|cons p r f=>
  by_cases e:p.1=k
  ·rw[wN e,f]
   by_cases b:j=k
   ·rw[g6 b,g6 b]
   ·rw[g_ b,g_ b,bu (λz=>b (z.symm.trans e))]
  ·rw[wO e]
   by_cases d:p.1=j
   ·rw[cb d,g_ (λz=>e (d.trans z)),cb d]
   ·rw[bu d,f,bu d]
def sA(ow:List (bY×V))(c:Pc):List (bY×V):=c.foldl (λo p=>dR o (.inl p)) ow
def qb(c:Pc):∀(ow:List (bY×V))(j:Int),bf (sA ow c) (.inl j)=if j∈c then none else bf ow (.inl j):=by induction c with|nil=>intro ow j;rw[g_ (by simp)];rfl|cons p r b=>
  intro ow j;change bf (sA (dR ow (.inl p)) r) (.inl j)=_;rw[b,BI]
  by_cases h1:j∈r
  ·rw[g6 h1,g6 (il _ h1)]
  ·rw[g_ h1]
   by_cases h2:j=p
   ·rw[g6 (by rw[h2]),g6 (by rw[h2];show i_)]
   ·rw[g_ (λz=>h2 (Sum.inl.inj z)),g_ (λz=>(q_.mp z).elim h2 h1)]
def mw(c d:Addr)(H H':Hp):Prop:=∀b o,H b=some o->b≠c->b≠d->H' b=some o
def mw.of(h:am H H'):mw c d H H':=λb o e _ _=>h b o e
def mw.trans(a:mw d e H f)(b:mw d e f g):mw d e H g:=λc o h h1 h2=>b c o (a c o h h1 h2) h1 h2
def mw.tp(h:mw c d H H')(h1:H c=some (.dK f))(h2:H d=some (.ext φ))(e:H b=some (.tup g)):H' b=some (.tup g):=h b _ e (λz=>by rw[z,h1]at e;cases e) (λz=>by rw[z,h2]at e;cases e)
def eI(h:mw c d H H')(h1:H c=some (.dK f))(h2:H d=some (.ext φ))(g:cZ K H k v):cZ K H' k v:=by show eU {λu i e=>h.tp h1 h2 e,λu o⟨b,e⟩=>{b,h u _ e (λz=>by rw[z,h1]at e;cases e) (λz=>by rw[z,h2]at e;cases e)}} g
def fA.off(h:mw c d H H')(h1:H c=some (.dK f))(h2:H d=some (.ext φ))(t:fA H tk m):fA H' tk m:=Paired.mapP t λ_ _ q=>{q.1,q.2.1,q.2.2.imp λ_ e=>{e.1,h _ _ e.2 (λz=>by rw[z,h1]at e;cases e.2) (λz=>by rw[z,h2]at e;cases e.2)}}
def fA.put(d:H l=some (.lst (f.map V.int))):∀{tk:List gt}{m:List Pl},fA H tk m->fA H (gq tk k j (.ref l)) (gq m k j f):=by
 intro tk m h;have b:(fO tk k).isSome=(fO m k).isSome:=by rcases h.val k with⟨l,f,g,i,_⟩|⟨g,i⟩<;>rw[g,i]<;>rfl
 unfold gq;rw[b]
 split
 ·rename_i hc;clear b hc
  induction h with|nil=>show .nil|@cons x y n o r t c=>
   show .cons ?_ c;dsimp only;rw[<-r.1]
   by_cases e:x.1=k
   ·rw[g6 e,g6 e];show{(),r.2.1,l,(),d}
   ·rw[g_ e,g_ e];show r
 ·rename_i hc;clear b hc
  induction h with|nil=>show .cons {(),(),l,(),d} .nil|cons r t c=>show .cons r c
def fD(H:Hp)(tk c:List gt):Prop:=∀x∈c,(∃y∈tk,y.2.2=x.2.2)\/∃l,x.2.2=.ref l/\H l=none
def fD.put(c:H l=none):fD H tk (gq tk k e (.ref l)):=by
 intro x b;unfold gq at b
 split at b
 ·obtain⟨y,d,rfl⟩:=ji.mp b
  split
  ·show .inr {l,(),c}
  ·show .inl {y,d,()}
 ·rcases List.mem_append.mp b with b|b
  ·show .inl {x,b,()}
  ·rw[List.mem_singleton.mp b];show .inr {l,(),c}
def pG(h:mw c d H H')(h1:H' c≠none)(h2:H' d≠none)(e:H' b=none):H b=none:=by cases z:H b with|none=>rfl|some o=>have:=h b o z (λq=>h1 (by rw[<-q];show e)) (λq=>h2 (by rw[<-q];show e));rw[e]at this;cases this
inductive IX(P:O7)(w:World)(K:O2)(C:Addr)(vs:List V)(H:Hp)(Q:VK)(_E:XK):Prop|mk(t od td:Addr)(n:Nat)(ow:List (bY×V))(tk:List gt)(m:List Pl)(k:cj)(kv:V)(num:Int)(_:vs=[.ref t,kv,.int num])(_:eP P w K C H t od td n ow tk m)(_:cZ K H k kv)(_:0<=num)(_:tk.length<100000)(_:(∀p∈(bq m k).drop num.toNat,(bf ow (.inl p)).isSome=true))(_:(bq m k).Nodup)(_:∀(l:Addr)(tk':List gt)H',mw od td H H'->H l=none->H' l=some (.lst (((bq m k).drop num.toNat).reverse.map V.int))->tk'.length<=tk.length+1->fD H tk tk'->eP P w K C H' t od td n (sA ow ((bq m k).drop num.toNat).reverse) tk' (gq m k kv ((bq m k).take num.toNat))->Q (.ref l) H')
def ze(c:List (cj×d×e))(k:cj)(b:d)(v:e):(gq c k b v).length<=c.length+1:=by
 unfold gq
 split
 ·rw[b_];lia
 ·rw[hQ];simp
def eL.put(h:eL K H tk)(d:cZ K H k e):eL K H (gq tk k e v):=by
 unfold gq
 split
 ·intro x b;obtain⟨y,c,rfl⟩:=ji.mp b
  split
  ·show h y c
  ·show h y c
 ·intro x b;rcases List.mem_append.mp b with b|b
  ·show h x b
  ·rw[List.mem_singleton.mp b];show d
section
def nR(T:Txt K mg a):aP P w K mg base cP 2 a.cI.x a.cI.d ["self","owner","number"] (IX P w K a.bO):=by
 show T.cI.ok dW λbz A outer s H vs Q E hr h=>?_
 ·obtain⟨t,M,u,n,ow,tk,m,k,kv,c,rfl,g,hk,N,b8,R,an,q⟩:=h;show{_,(ag (bp 3 dW.nd (aU (Y 0) T.bn T.bd.m ((dY (P:=P) (w:=w) T).mono (by decide)) hr T.bd.b .nil aQ (ac (Y 1) O))) (ag (bp 4 dW.nd (Ae K () () (by rfl) T.uz (by rfl) T.Ao (fM (oA K ()) (Y 3) (iw (Y 2)) ix))) (ag (dN mo () (cL K () (Y 4)) (qo 5 dW.nd) (ah (aM (yL (aC K () (Y 0)) (Y 5) {(),(),(),()})))) (ag (kO (fM (oA K ()) (Y 3) ix (iw (Y 2))) (kP (aC K () (Y 0)) (Y 1) (DM (P:=P) (w:=w) K () (bZ hr)))) (ah (ay (Y 4))))))),?_}
  obtain⟨dx,hI⟩:=g.ins;show iN hI () () (U () {t,M,u,n,ow,tk,m,k,kv,(),g,hk,λlp H1 s1 b9 I=>au ?_});have cc:=g.same s1;generalize bq m k=C at R an q I⊢;show U () (U () {c,(),lp,U () {aS.of I,λl2 ap=>?_}});rw[Fd _ N,<-List.map_drop];have s2:=aj (o:=.lst ((C.drop c.toNat).map V.int)) s1 ap;have S:aH H1 l2 (.lst ((C.drop c.toNat).map V.int)) l2=some (.lst ((C.drop c.toNat).map V.int)):=ae;have D:aH H1 l2 (.lst ((C.drop c.toNat).map V.int)) lp=some (.lst (C.map V.int)):=by rw[ak (az I ap)];show I
  generalize aH H1 l2 (.lst ((C.drop c.toNat).map V.int))=H2 at s2 S D⊢;show{l2,U () {aS.of S,λW ad=>au ?_}};rw[<-List.map_reverse];generalize as:(C.drop c.toNat).reverse=bk at q⊢;have s3:=aj (o:=.lst (bk.map V.int)) s2 ad;have l:aH H2 W (.lst (bk.map V.int)) W=some (.lst (bk.map V.int)):=ae;have F:aH H2 W (.lst (bk.map V.int)) lp=some (.lst (C.map V.int)):=by rw[ak (az D ad)];show D
  generalize aH H2 W (.lst (bk.map V.int))=H3 at s3 l F⊢;have r:=g.same s3;obtain⟨al,J⟩:=r.ins;have a8:H W=none:=s2.free ad;have a9:bk.Nodup:=by rw[<-as];show(List.reverse_perm _).nodup_iff.mpr ((List.drop_sublist _ _).nodup an)
  have ba:∀p∈bk,(bf ow (.inl p)).isSome=true:=λp X=>R p (by rw[<-as]at X;show Nt.mp X);have ne:∀{b:Addr}{o:HO},H3 b=some o->(∀bb,o≠.dK bb)->(∀φ,o≠.ext φ)->b≠M/\b≠u:=λe h1 h2=>{λz=>by rw[z,r.own]at e;cases e;show h1 _ (),λz=>by rw[z,r.tak]at e;cases e;show h2 _ ()};have G:=ne l (λ_ z=>nomatch z) (λ_ z=>nomatch z);have ax:=ne F (λ_ z=>nomatch z) (λ_ z=>nomatch z);have nt:=ne J (λ_ z=>nomatch z) (λ_ z=>nomatch z);have a2:u≠M:=λz=>by have e:=r.tak;rw[z,r.own]at e;cases e
  show U () {W,(),{_,aS.of l},?_};show pP (xs:=bk.map V.int) (λi σ H'=>mw M u H3 H'/\H' M=some (.dK (sA ow (bk.take i)))/\H' u=some (dM P w u tk)/\∃v5,σ=[some (.ref t),some kv,some (.int c),some (.ref lp),some (.ref W),v5]) {.of (am.refl _),r.own,r.tak,_,()} (λi σ H' _ h=>aS.of (h.1 _ _ l G.1 G.2)) ?_ ?_
  ·rintro i x σ H4 Z⟨L,f,y,v5,rfl⟩;have hi:i<bk.length:=by simpa using(d_.mp Z).1
   have X:bk[i]?=some bk[i]:=ga hi;rw[ge,X]at Z;generalize bk[i]=p at Z X;cases Z;have bc:p∉bk.take i:=λz=>by
    obtain⟨j,hj⟩:=ig.mp z;have bi:j<i:=by have:=(d_.mp hj).1;rw[k4]at this;lia
    rw[N6 bi]at hj;have:=(u_ (d_.mp hj).1 a9).mp (hj.trans X.symm);lia
   obtain⟨v,hv⟩:=t0.mp (ba p (f_ X));have bl:bf (sA ow (bk.take i)) (.inl p)=some v:=by rw[qb,g_ bc];show hv
   have hg:sA ow (bk.take (i+1))=dR (sA ow (bk.take i)) (.inl p):=by unfold sA;rw[t_,X,z_];rfl
   show au (U () {t,_,al,_,U () {L _ _ J nt.1 nt.2,T.bn,T.eD,(),M,(),.inl {_,.inl f},U () {_,.inl p,v,f,(),bl,?_}}});show{λb o e h1 h2=>by rw[ak h1];show L b o e h1 h2,by rw[hg];show ae,by rw[ak a2];show y,_,()}
  ·rintro σ H4⟨L,f,y,v5,rfl⟩;rw[b_,hF (e_ _)]at f;have a3:=L _ _ F ax.1 ax.2;show U () (U () {c,(),lp,U () {aS.of a3,λl5 a5=>?_}});rw[xM _ N,<-OD];have s5:=aj (o:=.lst ((C.take c.toNat).map V.int)) (am.refl H4) a5;have B:aH H4 l5 (.lst ((C.take c.toNat).map V.int)) l5=some (.lst ((C.take c.toNat).map V.int)):=ae;generalize aH H4 l5 (.lst ((C.take c.toNat).map V.int))=H5 at s5 B⊢;have o5:mw M u H H5:=(mw.of s3).trans (L.trans (.of s5));have aa:=s5 _ _ y;have bo:=eI o5 g.own g.tak hk;have a6:eL K H5 tk:=λx Z=>eI o5 g.own g.tak (g.keys x Z);have n5:l5≠u:=λz=>by rw[z,aa]at B;cases B
   show U () {t,_,al,_,U () {s5 _ _ (L _ _ J nt.1 nt.2),T.bn,T.gB,(),U () {u,tk,k,(),aa,a6,bo,by rw[g8];lia,U () ?_}}};have o6:mw M u H (aH H5 u (dM P w u (gq tk k kv (.ref l5)))):=λb o e h1 h2=>by rw[ak h2];show o5 b o e h1 h2
   have bt:aH H5 u (dM P w u (gq tk k kv (.ref l5))) l5=some (.lst ((C.take c.toNat).map V.int)):=by rw[ak n5];show B
   have a7:H l5=none:=pG ((mw.of s3).trans L) (by rw[f];simp) (by rw[y];simp) a5;show q W _ _ o6 a8 (by rw[ak G.2];show s5 _ _ (L _ _ l G.1 G.2)) (ze _ _ _ _) (fD.put a7) {{al,by rw[ak nt.2];show s5 _ _ (L _ _ J nt.1 nt.2)},by rw[ak (nn a2)];show s5 _ _ f,ae,?_,?_}
   ·show eL.put (λx Z=>eI o6 g.own g.tak (g.keys x Z)) (eI o6 g.own g.tak hk)
   ·show fA.put bt (g.lsts.off o6 g.own g.tak)
end
def l9(ow:List (bY×V))(c:V)(d:Pc):List (bY×V):=d.foldl (λo p=>fk o (.inl p) c) ow
def sQ(c:V)(d:Pc):∀(ow:List (bY×V))(j:Int),bf (l9 ow c d) (.inl j)=if j∈d then some c else bf ow (.inl j):=by induction d with|nil=>intro ow j;rw[g_ (by simp)];rfl|cons p r b=>
  intro ow j;change bf (l9 (fk ow (.inl p) c) c r) (.inl j)=_;rw[b,CW]
  by_cases h1:j∈r
  ·rw[g6 h1,g6 (il _ h1)]
  ·rw[g_ h1]
   by_cases h2:j=p
   ·rw[g6 (by rw[h2]),g6 (by rw[h2];show i_)]
   ·rw[g_ (λz=>h2 (Sum.inl.inj z)),g_ (λz=>(q_.mp z).elim h2 h1)]
def wJ(c:V)(d:Pc):∀(ow:List (bY×V)),(l9 ow c d).length<=ow.length+d.length:=by induction d with|nil=>intro ow;show e_ _|cons p r b=>intro ow;have h1:=b (fk ow (.inl p) c);have h2:=l7 ow (.inl p) c;change(l9 (fk ow (.inl p) c) c r).length<=_;rw[md];lia
def AE(n:Nat)(ow:List (bY×V)):(gG n ow).length<=n:=by unfold gG;rw[b_];show iA (tx _ _) (by rw[m_];show e_ _)
inductive IM(P:O7)(w:World)(K:O2)(C:Addr)(vs:List V)(H:Hp)(Q:VK)(_E:XK):Prop|mk(t od td:Addr)(n:Nat)(ow:List (bY×V))(tk:List gt)(m:List Pl)(k:cj)(kv:V)(num:Int)(_:vs=[.ref t,kv,.int num])(_:eP P w K C H t od td n ow tk m)(_:cZ K H k kv)(_:n<=1000)(_:((bq m k).length:Int)<=num)(_:(bq m k).length<=1000000)(_:tk.length<100000)(_:ow.length<1000000)(_:∀(tk':List gt)H',mw od td H H'->tk'.length<=tk.length+1->fD H tk tk'->eP P w K C H' t od td n (l9 ow kv ((gG n ow).take (num-(bq m k).length).toNat)) tk' (gq m k kv (bq m k++(gG n ow).take (num-(bq m k).length).toNat))->Q .non H')
section
def vz(T:Txt K mg a):aP P w K mg base cP 2 a.fY.x a.fY.d ["self","owner","number"] (IM P w K a.bO):=by
 show T.fY.ok ik λbo A outer s H vs Q E hr h=>?_
 ·obtain⟨t,D,l,n,ow,tk,m,k,F,G,rfl,f,hk,hn,aa,a7,bt,bz,q⟩:=h;show{_,(ag (bp 3 ik.nd (aU (Y 0) T.bn T.bd.m ((dY (P:=P) (w:=w) T).mono (by decide)) hr T.bd.b .nil aQ (ac (Y 1) O))) (ag (bp 4 ik.nd (fM (oA K ()) (eB (Y 0) T.bn T.ee.m ((nr (P:=P) (w:=w) T).mono (by decide)) hr T.ee.b .nil aQ) ix (iw (aA fV (Y 2) (aB (aI K ()) (by rfl) T.bE L2.aL (ac (Y 3) O)))))) (ag (dN mo () (cL K () (Y 4)) (qo 5 ik.nd) (ah (kO (Y 1) (kP (aC K () (Y 0)) (Y 5) (qi (bZ hr)))))) (ah (kO (aA Ah (Y 3) (Y 4)) (kP (aC K () (Y 0)) (Y 1) (DM (P:=P) (w:=w) K () (bZ hr)))))))),?_}
  obtain⟨dx,hI⟩:=f.ins;show iN hI () () (U () {t,D,l,n,ow,tk,m,k,F,(),f,hk,λlp H1 s1 b8 ad=>au ?_});have a8:=f.same s1;generalize bq m k=C at aa a7 q ad⊢;show iN (s1 _ _ hI) () () {t,D,l,n,ow,tk,m,(),a8,hn,λa9 H2 s2 b9 al=>?_};have ba:=AE n ow;generalize gG n ow=fs at ba al q;have y:=s2 _ _ ad;show U () (U () {_,C.length,(),.inl {_,aS.of y,by rw[b_]},G,(C.length:Int),(),(),G-(C.length:Int),(),a9,U () {aS.of al,λS an=>au ?_}});rw[xM _ (by omega),<-OD];generalize bb:fs.take (G-(C.length:Int)).toNat=c at q⊢;have cc:c.length<=1000:=by rw[<-bb,k4];omega
  have s3:=aj (o:=.lst (c.map V.int)) (s1.trans s2) an;have g:aH H2 S (.lst (c.map V.int)) S=some (.lst (c.map V.int)):=ae;have B:aH H2 S (.lst (c.map V.int)) lp=some (.lst (C.map V.int)):=by rw[ak (az y an)];show y
  generalize aH H2 S (.lst (c.map V.int))=H3 at s3 g B⊢;have r:=f.same s3;obtain⟨W,I⟩:=r.ins;have ne:∀{b:Addr}{o:HO},H3 b=some o->(∀bc,o≠.dK bc)->(∀φ,o≠.ext φ)->b≠D/\b≠l:=λe h1 h2=>{λz=>by rw[z,r.own]at e;cases e;show h1 _ (),λz=>by rw[z,r.tak]at e;cases e;show h2 _ ()};have J:=ne g (λ_ z=>nomatch z) (λ_ z=>nomatch z);have ap:=ne B (λ_ z=>nomatch z) (λ_ z=>nomatch z);have X:=ne I (λ_ z=>nomatch z) (λ_ z=>nomatch z);have as:l≠D:=λz=>by have e:=r.tak;rw[z,r.own]at e;cases e
  show U () {S,(),{_,aS.of g},?_};show pP (xs:=c.map V.int) (λi σ H'=>mw D l H3 H'/\H' D=some (.dK (l9 ow F (c.take i)))/\H' l=some (dM P w l tk)/\∃v5,σ=[some (.ref t),some F,some (.int G),some (.ref lp),some (.ref S),v5]) {.of (am.refl _),r.own,r.tak,_,()} (λi σ H' _ h=>aS.of (h.1 _ _ g J.1 J.2)) ?_ ?_
  ·rintro i x σ H4 M⟨L,j,u,v5,rfl⟩;have hi:i<c.length:=by simpa using(d_.mp M).1
   have hp:c[i]?=some c[i]:=ga hi;rw[ge,hp]at M;generalize c[i]=p at M hp;cases M;have hg:l9 ow F (c.take (i+1))=fk (l9 ow F (c.take i)) (.inl p) F:=by unfold l9;rw[t_,hp,z_];rfl
   have ci:=wJ F (c.take i) ow;have c0:=B_ i c;show au (U () (U () {t,_,W,_,U () {L _ _ I X.1 X.2,T.bn,T.eD,(),U () {D,_,.inl p,(),(),j,by rw[g8];omega,?_}}}));show{λb o e h1 h2=>by rw[ak h1];show L b o e h1 h2,by rw[hg];show ae,by rw[ak as];show u,_,()}
  ·rintro σ H4⟨L,j,u,v5,rfl⟩;rw[b_,hF (e_ _)]at j;have ax:=L _ _ B ap.1 ap.2;have a2:=L _ _ g J.1 J.2;show U () (U () {lp,S,_,U () {(),ax,a2,by rw[b_,b_,g8];omega,λN a3=>?_}});rw[<-gV];have Z:=aj (o:=.lst ((C++c).map V.int)) (am.refl H4) a3;have v:aH H4 N (.lst ((C++c).map V.int)) N=some (.lst ((C++c).map V.int)):=ae;generalize aH H4 N (.lst ((C++c).map V.int))=H5 at Z v⊢;have o5:mw D l H H5:=(mw.of s3).trans (L.trans (.of Z));have R:=Z _ _ u;have bi:=eI o5 f.own f.tak hk;have a5:eL K H5 tk:=λx M=>eI o5 f.own f.tak (f.keys x M);have n5:N≠l:=λz=>by rw[z,R]at v;cases v
   show U () {t,_,W,_,U () {Z _ _ (L _ _ I X.1 X.2),T.bn,T.gB,(),U () {l,tk,k,(),R,a5,bi,by rw[g8];omega,?_}}};have o6:mw D l H (aH H5 l (dM P w l (gq tk k F (.ref N)))):=λb o e h1 h2=>by rw[ak h2];show o5 b o e h1 h2
   have bl:aH H5 l (dM P w l (gq tk k F (.ref N))) N=some (.lst ((C++c).map V.int)):=by rw[ak n5];show v
   have a6:H N=none:=pG ((mw.of s3).trans L) (by rw[j];simp) (by rw[u];simp) a3;show q _ _ o6 (ze _ _ _ _) (fD.put a6) {{W,by rw[ak X.2];show Z _ _ (L _ _ I X.1 X.2)},by rw[ak (nn as)];show Z _ _ j,ae,?_,?_}
   ·show eL.put (λx M=>eI o6 f.own f.tak (f.keys x M)) (eI o6 f.own f.tak hk)
   ·show fA.put bl (f.lsts.off o6 f.own f.tak)
end
structure AS where
 pl:cj->List Int
 oc:Int->Bool
def mM(n:Nat)(oc:Int->Bool):List Int:=((List.range n).filter λ(i:Nat)=>!oc (i:Int)).map λ(i:Nat)=>(i:Int)
def AS.give(s:AS)(k:cj)(c:Nat):AS:={λj=>if j=k then(s.pl k).take c else s.pl j,λp=>if p∈(s.pl k).drop c then false else s.oc p}
def AS.took(s:AS)(n:Nat)(k:cj)(c:Nat):AS:={λj=>if j=k then s.pl k++(mM n s.oc).take (c-(s.pl k).length)else s.pl j,λp=>if p∈(mM n s.oc).take (c-(s.pl k).length)then true else s.oc p}
structure AS.Ok(n:Nat)(s:AS):Prop where
 in_:∀k p,p∈s.pl k->0<=p/\p<n/\s.oc p=true
 dj:∀k j p,p∈s.pl k->p∈s.pl j->k=j
 nd:∀k,(s.pl k).Nodup
def AS.new:AS:={λ_=>[],λ_=>false}
def AS.new_ok(n:Nat):AS.new.Ok n:={λ_ _ h=>(nomatch h),λ_ _ _ h=>(nomatch h),λ_=>NO}
def Hk:p∈mM n oc↔0<=p/\p<n/\oc p=false:=by
 unfold mM;rw[ji]
 constructor
 ·rintro⟨i,hi,rfl⟩;obtain⟨h1,h2⟩:=wh.mp hi;have:=s_.mp h1;show{by omega,by omega,by simpa using h2}
 ·rintro⟨h1,h2,h3⟩;show{p.toNat,wh.mpr {s_.mpr (by omega),?_},by omega};rw[show((p.toNat:Nat):Int)=p by omega,h3];rfl
def J8(n:Nat)(oc:Int->Bool):(mM n oc).Nodup:=by unfold mM;rw[G_,List.pairwise_map];show(G_.mp (List.filter_sublist.nodup List.nodup_range)).imp λh=>by omega
def J9(n:Nat)(oc:Int->Bool):(mM n oc).length<=n:=by unfold mM;rw[b_];show iA (tx _ _) (by rw[m_];show e_ _)
theorem AS.Ok.give{n:Nat}{s:AS}(h:s.Ok n)(k:cj)(c:Nat):(s.give k c).Ok n:=by
 have f:∀p,p∈(s.pl k).take c->p∉(s.pl k).drop c:=λp h1 h2=>by have:=h.nd k;rw[<-ro c (s.pl k),m3]at this;show this.2.2 p h1 p h2 ()
 have sub:∀j p,p∈(s.give k c).pl j->p∈s.pl j:=λj p d=>by
  have d:p∈(if j=k then(s.pl k).take c else s.pl j):=d
  split at d
  ·rename_i e;rw[e];show NC d
  ·show d
 show{λj p d=>?_,λj i p h1 h2=>h.dj j i p (sub j p h1) (sub i p h2),λj=>?_}
 ·obtain⟨a,b,e⟩:=h.in_ j p (sub j p d);show{a,b,?_};change(if p∈(s.pl k).drop c then false else s.oc p)=true;rw[g_,e];intro z;have d:p∈(if j=k then(s.pl k).take c else s.pl j):=d
  split at d
  ·show f p d z
  ·rename_i g;show g (h.dj j k p d (List.mem_of_mem_drop z))
 ·change(if j=k then(s.pl k).take c else s.pl j).Nodup
  split
  ·show(NZ _ _).nodup (h.nd k)
  ·show h.nd j
theorem AS.Ok.took{n:Nat}{s:AS}(h:s.Ok n)(k:cj)(c:Nat):(s.took n k c).Ok n:=by
 have fr:∀p∈(mM n s.oc).take (c-(s.pl k).length),0<=p/\p<n/\s.oc p=false:=λp f=>Hk.mp (NC f);have g:((mM n s.oc).take (c-(s.pl k).length)).Nodup:=(NZ _ _).nodup (J8 _ _);unfold AS.took;generalize(mM n s.oc).take (c-(s.pl k).length)=l at fr g;have d:∀j p,p∈(if j=k then s.pl k++l else s.pl j)->p∈s.pl j\/(j=k/\p∈l):=λj p f=>by
  split at f
  ·rename_i e;rcases List.mem_append.mp f with z|z
   ·rw[e];show .inl z
   ·show .inr (e,z,)
  ·show .inl f
 show{λj p f=>?_,λj i p h1 h2=>?_,λj=>?_}
 ·change 0<=p/\p<n/\(if p∈l then true else s.oc p)=true;rcases d j p f with z|⟨_,z⟩
  ·obtain⟨a,b,e⟩:=h.in_ j p z;show{a,b,?_}
   split
   ·rfl
   ·show e
  ·show{(fr p z).1,(fr p z).2.1,by rw[g6 z]}
 ·rcases d j p h1 with z|⟨m,z⟩<;>rcases d i p h2 with y|⟨o,y⟩
  ·show h.dj j i p z y
  ·have:=(h.in_ j p z).2.2;rw[(fr p y).2.2]at this;cases this
  ·have:=(h.in_ i p y).2.2;rw[(fr p z).2.2]at this;cases this
  ·rw[m,o]
 ·change(if j=k then s.pl k++l else s.pl j).Nodup
  split
  ·rw[m3];show{h.nd k,g,λa q b r z=>?_};subst z;have h1:=(h.in_ k a q).2.2;rw[(fr a r).2.2]at h1;cases h1
  ·show h.nd j
abbrev Wl:=List (cj×Int)
def cG(s:AS)(W:Wl):AS:=W.foldl (λs x=>s.give x.1 x.2.toNat) s
def dL:AS->Wl->List Int|_,[]=>[]|s,x::r=>((s.pl x.1).drop x.2.toNat).reverse++dL (s.give x.1 x.2.toNat) r
def dw(n:Nat)(s:AS)(W:Wl):AS:=W.foldl (λs x=>s.took n x.1 x.2.toNat) s
def gO(s:AS)(W:Wl):Int:=(W.map λx=>x.2-((s.pl x.1).length:Int)).sum
def pN(s:AS)(W:Wl)(x:cj×Int):cG s (W++[x])=(cG s W).give x.1 x.2.toNat:=by unfold cG;rw[z_];rfl
theorem pT:∀(W:Wl)(s:AS)(x:cj×Int),dL s (W++[x])=dL s W++(((cG s W).pl x.1).drop x.2.toNat).reverse|[],s,x=>by change _++[]=[]++_;rw[nB,List.nil_append];rfl|y::r,s,x=>by change _++dL _ (r++[x])=(_++dL _ r)++_;rw[pT r,vr];rfl
def oy(n:Nat)(s:AS)(W:Wl)(x:cj×Int):dw n s (W++[x])=(dw n s W).took n x.1 x.2.toNat:=by unfold dw;rw[z_];rfl
theorem i9{n:Nat}:∀(W:Wl){s:AS},s.Ok n->(cG s W).Ok n|[],_,h=>h|x::r,_,h=>i9 r (h.give x.1 x.2.toNat)
theorem kF{n:Nat}:∀(W:Wl){s:AS},s.Ok n->(dw n s W).Ok n|[],_,h=>h|x::r,_,h=>kF r (h.took x.1 x.2.toNat)
def An(s:AS)(x:cj×Int)(W:Wl):gO s (x::W)=(x.2-((s.pl x.1).length:Int))+gO s W:=by unfold gO;rw[lm,List.sum_cons]
def IA{x:Int}(h:0<=x)(l:Nat):(x-l).toNat=x.toNat-l:=by obtain⟨k,rfl⟩:=Int.eq_ofNat_of_zero_le h;show Int.toNat_sub k l
def xy{n:Nat}{c:Pc}(h:c.Nodup)(d:∀p∈c,0<=p/\p<n):c.length<=n:=by
 have:=Ec (l:=c) (m:=(List.range n).map λ(i:Nat)=>(i:Int)) h λp b=>by obtain⟨h1,h2⟩:=d p b;show ji.mpr {p.toNat,s_.mpr (by omega),by omega}
 rw[b_,m_]at this;show this
def Ko(K:O2)(H:Hp)(d:List V)(W:Wl):Prop:=Paired (λ(v:V)(x:cj×Int)=>∃b c,v=.ref b/\aY K H b [c,.int x.2]/\cZ K H x.1 c) d W
def Ko.get(h:Ko K H d W)(i:Nat)(v:V)(e:d[i]?=some v):∃x,W[i]?=some x/\∃b c,v=.ref b/\aY K H b [c,.int x.2]/\cZ K H x.1 c:=Paired.at_ h i v e
def D9(h:mw d f H H')(h1:H d=some (.dK g))(h2:H f=some (.ext φ))(e:aY K H b c):aY K H' b c:=by have kp:Kp H H':={λu c e=>h.tp h1 h2 e,λu o⟨i,e⟩=>{i,h u _ e (λz=>by rw[z,h1]at e;cases e) (λz=>by rw[z,h2]at e;cases e)}};show kp.tq e
def eP.list(h:eP P w K C H t i j n ow tk m)(d:H c=some (.lst bs))(f:∀x∈tk,x.2.2≠.ref c):eP P w K C (aH H c (.lst cs)) t i j n ow tk m:=by
 obtain⟨dx,b⟩:=h.ins;have kp:Kp H (aH H c (.lst cs)):=.lst d;show{{dx,by rw[ak (λz=>by rw[z,d]at b;cases b)];show b},by rw[ak (λz=>by have e:=h.own;rw[z,d]at e;cases e)];show h.own,by rw[ak (λz=>by have e:=h.tak;rw[z,d]at e;cases e)];show h.tak,λx k=>?_,?_}
 ·show eU kp (h.keys x k)
 ·have go:∀{tk:List gt}{m:List Pl},fA H tk m->(∀x∈tk,x.2.2≠.ref c)->fA (aH H c (.lst cs)) tk m:=by
   intro tk m h f
   induction h with|nil=>show .nil|@cons x y v A r t o=>obtain⟨p,q,l,g,s⟩:=r;show .cons {p,q,l,g,?_} (o λz u=>f z (il _ u));rw[ak (λz=>f x i_ (by rw[g,z]))];show s
  show go h.lsts f
theorem fA.at_(h:fA H tk m)(i:Nat)(x:gt)(e:tk[i]?=some x):∃y:Pl,m[i]?=some y/\∃l,x.2.2=.ref l/\H l=some (.lst (y.2.2.map V.int)):=(Paired.at_ h i x e).imp λ_ q=>(q.1,q.2.2.2,)
def ET(c:Pc):∀(ow:List (bY×V)),(sA ow c).length<=ow.length:=by induction c with|nil=>intro ow;show e_ _|cons p r b=>intro ow;show iA (b _) (zp ow (.inl p))
def Ez(f:List (cj×g×h))(k j:cj)(b:g)(v:h):fO (gq f k b v) j=if j=k then some v else fO f j:=by
 have d:∀c:List (cj×g×h),fO (c.map λy=>if y.1=k then(y.1,y.2.1,v)else y) j=(fO c j).map λx=>if j=k then v else x:=by
  intro c
  induction c with|nil=>rfl|cons z r m=>
   unfold fO at m⊢;rw[lm,rd,rd];have i:(if z.1=k then(z.1,z.2.1,v)else z).1=z.1:=by split<;>rfl
   rw[i]
   by_cases e:z.1=j
   ·rw[j2 e];change some (if z.1=k then(z.1,z.2.1,v)else z).2.2=some (if j=k then v else z.2.2);rw[e]
    split<;>rfl
   ·rw[j_ e];show m
 have l:∀c:List (cj×g×h),fO c k=none->fO (c++[(k,b,v)]) j=if j=k then some v else fO c j:=by
  intro c i;unfold fO at i⊢;rw[OJ]
  by_cases e:j=k
  ·subst e;rw[g6 (),Option.map_eq_none_iff.mp i];simp
  ·rw[g_ e];have:List.find? (λy:cj×g×h=>decide (y.1=j)) [(k,b,v)]=none:=by simp[nn e]
   rw[this,Oz]
 unfold gq
 by_cases hc:(fO f k).isSome=true
 ·rw[g6 hc,d]
  by_cases e:j=k
  ·subst e;obtain⟨x,n⟩:=t0.mp hc;rw[n,g6 ()];simp
  ·rw[g_ e];simp[e]
 ·rw[g_ hc];show l f (by simpa using hc)
def jh(n:Nat)(s:AS)(ow:List (bY×V))(m:List Pl):Prop:=(∀k,bq m k=s.pl k)/\∀p:Int,0<=p->p<n->(bf ow (.inl p)).isSome=s.oc p
def iO(m:List Pl)(k j:cj)(d:V)(c:Pc):bq (gq m k d c) j=if j=k then c else bq m j:=by
 unfold bq;rw[Ez]
 split<;>rfl
def jh.free(h:jh n s ow m):gG n ow=mM n s.oc:=by
 unfold gG mM
 congr 1
 show List.filter_congr λi hi=>?_;have:=s_.mp hi;rw[<-h.2 i (by omega) (by omega)];cases bf ow (.inl (i:Int))<;>rfl
theorem jh.give(h:jh n s ow m)(k:cj)(d:V)(c:Nat):jh n (s.give k c) (sA ow ((s.pl k).drop c).reverse) (gq m k d ((s.pl k).take c)):=by
 show{λj=>?_,λp e f=>?_}
 ·rw[iO,h.1];rfl
 ·rw[qb];change _=if p∈(s.pl k).drop c then false else s.oc p
  by_cases b:p∈(s.pl k).drop c
  ·rw[g6 b,g6 (Nt.mpr b)];rfl
  ·rw[g_ b,g_ (λz=>b (Nt.mp z))];show h.2 p e f
theorem jh.took(h:jh n s ow m)(k:cj)(d:V)(c:Nat):jh n (s.took n k c) (l9 ow d ((mM n s.oc).take (c-(s.pl k).length))) (gq m k d (s.pl k++(mM n s.oc).take (c-(s.pl k).length))):=by
 show{λj=>?_,λp b e=>?_}
 ·rw[iO,h.1];rfl
 ·rw[sQ];change _=if p∈(mM n s.oc).take (c-(s.pl k).length)then true else s.oc p
  split
  ·rfl
  ·show h.2 p b e
def fD.refl(H:Hp)(tk:List gt):fD H tk tk:=λx b=>.inl {x,b,()}
theorem fD.trans(a:fD H tk c)(b:fD i c d)(h:∀l,i l=none->H l=none):fD H tk d:=λx j=>by
 rcases b x j with⟨y,k,e⟩|⟨l,e,f⟩
 ·rcases a y k with⟨z,m,g⟩|⟨l,g,f⟩
  ·show .inl {z,m,g.trans e}
  ·show .inr {l,e▸g,f}
 ·show .inr {l,e,h l f}
def bK{c:Type}{l:List c}{i:Nat}{x:c}(h:l[i]?=some x):l.take (i+1)=l.take i++[x]:=by rw[t_,h];rfl
theorem rJ{n:Nat}:∀(W:Wl){s:AS},s.Ok n->(dL s W).length<=n*W.length|[],_,_=>ku _|x::r,s,h=>by change(_++dL _ r).length<=n*(r.length+1);have c:=rJ r (h.give x.1 x.2.toNat);have h1:=xy (h.nd x.1) λp b=>{(h.in_ x.1 p b).1,(h.in_ x.1 p b).2.1};rw[hQ,NK,Nu,Nat.mul_add,Nat.mul_one,Nat.add_comm];show Nat.add_le_add c (iA (Nat.sub_le _ _) h1)
def gc{K:O2}{a:Addr}{xs:List V}{g:TG}{tb:TS}{D:jP}{c:St}{H:Hp}(Pv:Nat->St->Hp->Prop)(h0:Pv 0 c H)(f:∀i c H,i<=xs.length->Pv i c H->aS K H a xs)(h:∀i x c H,xs[i]?=some x->Pv i c H->∀(N:St->Hp->Prop)(R:VK)(B:St->Hp->Prop),(∀c H,Pv (i+1) c H->N c H)->g x c H λd j=>tb (N,R,B,N,) d j)(hd:∀c H,Pv xs.length c H->D.nx c H):=pP (K:=K) (a:=a) (g:=g) (tb:=tb) (D:=D) Pv h0 f (λi x c H e p=>h i x c H e p _ D.rt _ λ_ _ q=>q) hd
def uI{lo:Int}{n:Nat}{g:TG}{tb:TS}{D:jP}{c:St}{H:Hp}(Pv:Nat->St->Hp->Prop)(h0:Pv 0 c H)(f:∀i c H,i<n->Pv i c H->∀(N:St->Hp->Prop)(R:VK)(B:St->Hp->Prop),(∀c H,Pv (i+1) c H->N c H)->g (.int (lo+i)) c H λd h=>tb (N,R,B,N,) d h)(hd:∀c H,Pv n c H->D.nx c H):=mI (lo:=lo) (n:=n) (g:=g) (tb:=tb) (D:=D) Pv h0 (λi c H e p=>f i c H e p _ D.rt _ λ_ _ q=>q) hd
def u8(R:cj->V->Prop)(n:Nat)(s:AS)(ow:List (bY×V)):Prop:=∀(p:Int)(v:V),0<=p->p<n->bf ow (.inl p)=some v->∃k,p∈s.pl k/\R k v
theorem u8.give(h:u8 R n s ow)(k:cj)(c:Nat):u8 R n (s.give k c) (sA ow ((s.pl k).drop c).reverse):=by
 intro p v d f e;rw[qb]at e
 split at e
 ·cases e
 ·rename_i g;obtain⟨j,b,r⟩:=h p v d f e;show{j,?_,r};change p∈if j=k then(s.pl k).take c else s.pl j
  split
  ·rename_i i;rw[i,<-ro c (s.pl k),List.mem_append]at b;show b.resolve_right λz=>g (Nt.mpr z)
  ·show b
theorem u8.took(h:u8 R n s ow)(k:cj)(d:R k f)(c:Nat):u8 R n (s.took n k c) (l9 ow f ((mM n s.oc).take (c-(s.pl k).length))):=by
 intro p v g i e;rw[sQ]at e
 split at e
 ·rename_i l;cases e;show{k,?_,d};change p∈if k=k then s.pl k++(mM n s.oc).take (c-(s.pl k).length)else s.pl k
  rw[g6 ()];show mu _ l
 ·obtain⟨j,b,r⟩:=h p v g i e;show{j,?_,r};change p∈if j=k then s.pl k++(mM n s.oc).take (c-(s.pl k).length)else s.pl j
  split
  ·rename_i m;rw[m]at b;show np _ b
  ·show b
def u8.mono(h:u8 R n s ow)(f:∀k v,R k v->c k v):u8 c n s ow:=λp v b d e=>let⟨k,h1,h2⟩:=h p v b d e;{k,h1,f k v h2}
inductive De(P:O7)(w:World)(K:O2)(C N:Addr)(vs:List V)(H:Hp)(Q:VK)(E:XK):Prop|mk(t od td wl:Addr)(n:Nat)(ow:List (bY×V))(tk:List gt)(m:List Pl)(S:AS)(W:Wl)(ts:List V)(_:vs=[.ref t,.ref wl])(_:eP P w K C H t od td n ow tk m)(_:jh n S ow m)(_:u8 (cZ K H) n S ow)(_:S.Ok n)(_:H wl=some (.lst ts))(_:Ko K H ts W)(_:(∀x∈W,0<=x.2))(_:(W.map (·.1)).Nodup)(_:W.length<=5)(_:n<=1000)(_:tk.length<=5000)(_:ow.length<=500000)(_:(gO S W<=((mM n S.oc).length:Int)->∀(l:Addr)(ow':List (bY×V))(tk':List gt)(m':List Pl)H',mw od td H H'->eP P w K C H' t od td n ow' tk' m'->jh n (dw n (cG S W) W) ow' m'->u8 (cZ K H) n (dw n (cG S W) W) ow'->H l=none->H' l=some (.lst ((dL S W).map V.int))->fD H tk tk'->(∀x∈tk',x.2.2≠.ref l)->tk'.length<=tk.length+10->ow'.length<=ow.length+5000->Q (.ref l) H'))(_:(((mM n S.oc).length:Int)<gO S W->∀H',am H H'->E (.ref N) none H'))
def Me{a b c d i:Nat}(h1:b<=a+1000*i)(h2:c<=b+d)(h3:d<=1000):c<=a+1000*(i+1):=by rw[Nat.mul_add,<-Nat.add_assoc];show iA h2 (Nat.add_le_add h1 h3)
inductive JG(P:O7)(w:World)(K:O2)(a:fJ)(H H2:Hp)(t od td:Addr)(n:Nat)(wl lb:Addr)(tk:List gt)(ow:List (bY×V))(S:AS)(W:Wl)(i:Nat)(σ:St)(H':Hp):Prop|mk(ow':List (bY×V))(tk':List gt)(m':List Pl)(v2 v4 v5:Option V)(o:mw od td H2 H')(hT:eP P w K a.bO H' t od td n ow' tk' m')(hS:jh n (cG S (W.take i)) ow' m')(hR:u8 (cZ K H) n (cG S (W.take i)) ow')(nw:fD H2 tk tk')(lt:tk'.length<=tk.length+i)(lo:ow'.length<=ow.length)(nl:∀x∈tk',x.2.2≠.ref lb)(bs:H' lb=some (.lst ((dL S (W.take i)).map V.int)))(le:∀j x,j<i->W[j]?=some x->((bq m' x.1).length:Int)<=x.2)(e:σ=[some (.ref t),some (.ref wl),v2,some (.ref lb),v4,v5]):JG P w K a H H2 t od td n wl lb tk ow S W i σ H'
inductive JH(P:O7)(w:World)(K:O2)(a:fJ)(H H2:Hp)(t od td:Addr)(n:Nat)(wl lb:Addr)(tk':List gt)(ow':List (bY×V))(tk:List gt)(S:AS)(W:Wl)(v2:Option V)(i:Nat)(σ:St)(H':Hp):Prop|mk(ow5:List (bY×V))(tk5:List gt)(m5:List Pl)(v4 v5:Option V)(o:mw od td H2 H')(hT:eP P w K a.bO H' t od td n ow5 tk5 m5)(hS:jh n (dw n (cG S W) (W.take i)) ow5 m5)(hR:u8 (cZ K H) n (dw n (cG S W) (W.take i)) ow5)(nw:fD H2 tk tk5)(nl:∀x∈tk5,x.2.2≠.ref lb)(bs:H' lb=some (.lst ((dL S W).map V.int)))(lt:tk5.length<=tk'.length+i)(lo:ow5.length<=ow'.length+1000*i)(le:∀j x,i<=j->W[j]?=some x->((bq m5 x.1).length:Int)<=x.2)(e:σ=[some (.ref t),some (.ref wl),v2,some (.ref lb),v4,v5]):JH P w K a H H2 t od td n wl lb tk' ow' tk S W v2 i σ H'
section
def nq(T:Txt K mg a):aP P w K mg base (vS P w) 3 a.d8.x a.d8.d ["self","wanted"] (De P w K a.bO a.kX):=by
 show T.d8.okE dF λeN A outer s H vs Q E hr h=>?_
 ·obtain⟨t,od,td,wl,n,ow,tk,m,S,W,ts,rfl,hT,hS,hR,hO,c3,hW,dK,el,e0,hn,e5,e6,q,qe⟩:=h;show{_,(ag (bp 2 dF.nd (aB (CH K () ()) (by rfl) T.LE L2.Fo (ac (sB iQ [] [4,5] [4,5] (ai kL) (qH _ 4 5) (cL K () (Y 1)) (λcl C s₀ H₀ ex=>{(ft K () () (bh (lB iQ [] 4) (bh (lB iQ [] 5) fq))),bQ,(aA fV (Y 5) (aB (aI K ()) (by rfl) T.bE L2.aL (ac (aU (Y 0) T.bn T.bd.m ((dY (P:=P) (w:=w) T).mono (by decide)) hr T.bd.b .nil aQ (ac (Y 4) O)) O)))})) O))) (ag (aN (aD rc (Y 2) (aB (aI K ()) (by rfl) T.bE L2.aL (ac (eB (Y 0) T.bn T.ee.m ((nr (P:=P) (w:=w) T).mono (by decide)) hr T.ee.b .nil aQ) O)) (aG _)) (ah (yJ T.wL () T.zc () yH (ac aF O))) aE) (ag (bp 3 dF.nd (bj O)) (ag (PS.nox (dN mo () (cL K () (Y 1)) (ft K () () (bh (qo 4 dF.nd) (bh (qo 5 dF.nd) fq))) (ah (aM (fF K () PySem.F.plainAttrs_list PySem.F.slot_list_extend PySem.F.type_list_extend wA (Y 3) (ac (aU (Y 0) T.bn T.cI.m ((nR (P:=P) (w:=w) T).mono (by decide)) hr T.cI.b .nil aQ (ac (Y 4) (ac (Y 5) O))) O)))))) (ag (PS.nox (dN mo () (cL K () (Y 1)) (ft K () () (bh (qo 4 dF.nd) (bh (qo 5 dF.nd) fq))) (ah (aM (aU (Y 0) T.bn T.fY.m ((vz (P:=P) (w:=w) T).mono (by decide)) hr T.fY.b .nil aQ (ac (Y 4) (ac (Y 5) O))))))) (ah (ay (Y 3)))))))),?_}
  obtain⟨dx,hI⟩:=hT.ins;have en:ts.length=W.length:=Paired.length hW;show U () {wl,(),{_,aS.of c3},λD hD=>?_};show kz (K:=K) (a:=wl) (xs:=ts) (λi a3 H'=>am H H'/\H' D=some (.lst a3)/\a3=((W.take i).map λx=>x.2-((S.pl x.1).length:Int)).map V.int) {aj (am.refl _) hD,ae,()} (λi a3 H' _ h=>aS.of (h.1 _ _ c3)) ?_ ?_
  ·rintro i v a3 H1 hv⟨s1,bb,rfl⟩;have hi:i<ts.length:=(d_.mp hv).1;obtain⟨x,L,b,kv,rfl,hb,hk⟩:=hW.get i v hv;show{b,U () {am.tseq s1 hb,(),_,U () (au {_,U () (au {(),iG (bI ?_)})})}};show U () (iN (s1 _ _ hI) () () (U () {t,od,td,n,ow,tk,m,x.1,kv,(),hT.same s1,nV s1 hk,λlp H2 s2 e7 eo=>?_}));show{_,U () {.inl {_,aS.of eo,()},_,U () {(),s2 _ _ bb,by rw[b_,b_,k4,g8];lia,lf hi {bv (s1.trans s2) hD,ae,?_}}}};rw[bK L,gV,gV,hS.1,b_];rfl
  ·rintro a3 H1⟨s1,bb,rfl⟩;rw[hF (by lia)]at bb;show{D,U () {.inl (aS.of bb),au ?_}};have er:=hT.same s1;show U () (iN (s1 _ _ hI) () () {t,od,td,n,ow,tk,m,(),er,hn,λe8 H2 s2 e9 dT=>?_});rw[hS.free]at dT;show{_,U () {.inl {_,aS.of dT,()},_,U () {(),U () ?_}}};have I:=s1.trans s2;rw[b_];show uD (λe=>{ls (),qe (l_ e) H2 I}) (λe=>sr {ls (),λlb ad=>au ?_});have q:=q (Int.not_lt.mp (NN e));clear e qe;have al:=hT.same I;have s3:=aj (o:=.lst []) (am.refl H2) ad;have b8:aH H2 lb (.lst []) lb=some (.lst []):=ae;have dV:H lb=none:=I.free ad;generalize aH H2 lb (.lst [])=H3 at s3 b8⊢;have g:=I _ _ c3;show U () {wl,(),{_,aS.of (s3 _ _ g)},?_};have a5:lb≠od:=λz=>by have e:=al.own;rw[<-z,ad]at e;cases e
   have a6:lb≠td:=λz=>by have e:=al.tak;rw[<-z,ad]at e;cases e
   have d1:wl≠od:=λz=>by have e:=al.own;rw[<-z,g]at e;cases e
   have d4:wl≠td:=λz=>by have e:=al.tak;rw[<-z,g]at e;cases e
   have an:wl≠od/\wl≠td:=(d1,d4,);have d5:∀x∈tk,x.2.2≠.ref lb:=λx L z=>by obtain⟨i,hi⟩:=ig.mp L;obtain⟨y,_,l,e3,e4⟩:=fA.at_ al.lsts i x hi;rw[e3]at z;cases z;rw[ad]at e4;cases e4
   have d9:fD H2 tk tk:=fD.refl _ _;have fresh:∀H',mw od td H2 H'->H' od≠none->H' td≠none->∀l,H' l=none->H2 l=none:=λH' o h1 h2 l hl=>pG o h1 h2 hl;show gc (xs:=ts) (JG P w K a H H2 t od td n wl lb tk ow S W) {ow,tk,m,_,_,_,.of s3,al.same s3,hS,hR,d9,e_ _,e_ _,d5,b8,λj x hj=>absurd hj (Os _),()} (λi σ H' _ h=>by obtain⟨_,_,_,_,_,_,o,_⟩:=h;show aS.of (o _ _ g an.1 an.2)) ?_ ?_
   ·rintro i v σ H4 hv⟨ap,bc,m',v2,v4,v5,o4,as,ax,bi,a7,ea,b9,a8,k,Z,rfl⟩N R B hN;have hi:i<ts.length:=(d_.mp hv).1;obtain⟨x,L,b,kv,rfl,hb,hk⟩:=hW.get i v hv;have bl:=dK x (f_ L);obtain⟨fa,ev⟩:=as.ins;have eb:mw od td H H4:=(mw.of I).trans o4;have M:=i9 (W.take i) hO;have a2:=bK L;have f:=ax.1 x.1;have c4:(bq m' x.1).length<=n:=by rw[f];show xy (M.nd x.1) λp hp=>{(M.in_ x.1 p hp).1,(M.in_ x.1 p hp).2.1}
    have ew:=rJ (W.take i) hO;have ec:n*(W.take i).length<=1000*5:=Nat.mul_le_mul hn (by rw[k4];lia);show{b,U () {D9 eb hT.own hT.tak hb,(),_,U () (au {_,U () (au {(),?_})})}};show U () {.inl {(),_,aS.of k},iN ev () () (U () (U () {t,od,td,n,ap,bc,m',x.1,kv,x.2,(),as,eI eb hT.own hT.tak hk,bl,by lia,λp hp=>?_,by rw[f];show M.nd x.1,λl X H5 o5 fc ed cc r G=>?_}))}
    ·rw[f]at hp;obtain⟨p0,p1,p2⟩:=M.in_ x.1 p (List.mem_of_mem_drop hp);rw[ax.2 p p0 p1];show p2
    ·have ci:=o5 _ _ k a5 a6;have u:∀y∈X,y.2.2≠.ref lb:=λy hy z=>by
      rcases r y hy with⟨y',da,e⟩|⟨l',e,a9⟩
      ·show a8 y' da (e.trans z)
      ·rw[e]at z;cases z;rw[k]at a9;cases a9
     have bo:(sA ap ((bq m' x.1).drop x.2.toNat).reverse).length<=ap.length:=ET _ _;have dc:fD H2 tk X:=a7.trans r (fresh H4 o4 (by rw[as.own];simp) (by rw[as.tak];simp));have J:=ax.give x.1 kv x.2.toNat;rw[f]at ed G bo;show{lb,l,_,U () {(),ci,ed,by rw[b_,b_,NK,Nu,g8];rw[f]at c4;show iA (Nat.add_le_add (iA ew ec) (iA (Nat.sub_le _ _) (iA c4 hn))) (by decide),?_}};show hN _ _ {_,X,_,_,_,_,λc o e h1 h2=>?_,G.list ci u,by rw[a2,pN];show J,by rw[a2,pN];show bi.give x.1 x.2.toNat,dc,by omega,iA bo b9,u,?_,λj y hj hy=>?_,()}
     ·rw[ak (λz=>by rw[z,ad]at e;cases e)];show o5 _ _ (o4 c o e h1 h2) h1 h2
     ·rw[a2,pT,gV];show ae
     ·rw[iO]
      split
      ·rename_i e;rcases Om j i with ba|ba
       ·have h1:=Z j y ba hy;rw[e,f]at h1;rw[k4];show Int.le_trans (Int.ofNat_le.mpr (Nr _ _)) h1
       ·have:j=i:=by lia
        subst this;rw[L]at hy;cases hy;rw[k4];show Int.le_trans (Int.ofNat_le.mpr (Nat.min_le_left _ _)) (Int.le_of_eq (OC bl))
      ·rename_i e;rcases Om j i with ba|ba
       ·show Z j y ba hy
       ·have:j=i:=by lia
        subst this;rw[L]at hy;cases hy;show absurd () e
   ·rintro σ H4⟨ap,bc,m',v2,v4,v5,o4,as,ax,bi,a7,ea,b9,a8,k,Z,rfl⟩;rw[hF (by lia)]at ax bi k;have M:=i9 W hO;show U () {wl,(),{_,aS.of (o4 _ _ g an.1 an.2)},?_};show gc (xs:=ts) (JH P w K a H H2 t od td n wl lb bc ap tk S W v2) {ap,bc,m',_,_,o4,as,ax,bi,a7,a8,k,e_ _,e_ _,λj x _ L=>Z j x (by rw[en];show(d_.mp L).1) L,()} (λi σ H' _ h=>by obtain⟨_,_,_,_,_,o,_⟩:=h;show aS.of (o _ _ g an.1 an.2)) ?_ ?_
    ·rintro i v σ H5 hv⟨bt,X,m5,v4,v5,o5,G,J,bz,r,u,aa,cc,c0,c1,rfl⟩N R B hN;have hi:i<ts.length:=(d_.mp hv).1;obtain⟨x,L,b,kv,rfl,hb,hk⟩:=hW.get i v hv;have bl:=dK x (f_ L);obtain⟨fl,ey⟩:=G.ins;have ef:mw od td H H5:=(mw.of I).trans o5;have di:=kF (W.take i) M;have a2:=bK L;have f:=J.1 x.1;have c4:(bq m5 x.1).length<=n:=by rw[f];show xy (di.nd x.1) λp hp=>{(di.in_ x.1 p hp).1,(di.in_ x.1 p hp).2.1}
     have dv:=c1 i x (e_ _) L;show{b,U () {D9 ef hT.own hT.tak hb,(),_,U () (au {_,U () (au {(),?_})})}};show iN ey () () (U () (U () {t,od,td,n,bt,X,m5,x.1,kv,x.2,(),G,eI ef hT.own hT.tak hk,hn,dv,by lia,by lia,by lia,λeh H6 o6 eH c2 ei=>?_}));have ez:(x.2-((bq m5 x.1).length:Int)).toNat=x.2.toNat-(((dw n (cG S W) (W.take i)).pl x.1).length):=by rw[<-f];show IA bl _
     rw[ez,J.free,f]at ei;have bo:=wJ kv ((mM n (dw n (cG S W) (W.take i)).oc).take (x.2.toNat-(((dw n (cG S W) (W.take i)).pl x.1).length))) bt;have ej:((mM n (dw n (cG S W) (W.take i)).oc).take (x.2.toNat-(((dw n (cG S W) (W.take i)).pl x.1).length))).length<=1000:=by have:=J9 n (dw n (cG S W) (W.take i)).oc;rw[k4];show iA (Nr _ _) (iA this hn)
     have eG:=J.took x.1 kv x.2.toNat;have ek:∀y∈eh,y.2.2≠.ref lb:=λy hy z=>by
      rcases c2 y hy with⟨y',da,e⟩|⟨l',e,a9⟩
      ·show u y' da (e.trans z)
      ·rw[e]at z;cases z;rw[aa]at a9;cases a9
     show hN _ _ {_,eh,_,_,_,o5.trans o6,ei,by rw[a2,oy];show eG,by rw[a2,oy];show bz.took x.1 hk x.2.toNat,r.trans c2 (fresh H5 o5 (by rw[G.own];simp) (by rw[G.tak];simp)),ek,o6 _ _ aa a5 a6,by omega,Me c0 bo ej,λj y hj hy=>?_,()};rw[iO,g_ (λz=>?_)]
     ·show c1 j y (by lia) hy
     ·have e1:(W.map (·.1))[j]?=some x.1:=by rw[ge,hy,<-z];rfl
      have e2:(W.map (·.1))[i]?=some x.1:=by rw[ge,L];rfl
      have:=(u_ (d_.mp e1).1 el).mp (e1.trans e2.symm);lia
    ·rintro σ H5⟨bt,X,m5,v4,v5,o5,G,J,bz,r,u,aa,cc,c0,_,rfl⟩;rw[hF (by lia)]at J bz;show U () (q lb bt X m5 H5 ((mw.of I).trans o5) G J bz dV aa (fD.trans (fD.refl H tk) r λl hl=>I.free hl) u (by lia) (by lia))
end
abbrev gd(ns:Pc)(k:Nat):Int:=ns.getD k 0
def AH(c gs:Pc):Nat->Nat|0=>0|n+1=>if gd c (n+1)*(gd gs (AH c gs n)+1)>gd c (AH c gs n)*(gd gs (n+1)+1)then n+1 else AH c gs n
theorem xH(c gs:Pc):∀n,AH c gs n<=n
 |0=>e_ _|n+1=>by
  have:=xH c gs n;unfold AH
  split<;>lia
def deal(c:Pc):Nat->List Int|0=>List.replicate c.length 0|n+1=>(deal c n).set (AH c (deal c n) (c.length-1)) (gd (deal c n) (AH c (deal c n) (c.length-1))+1)
theorem mi(c:Pc):∀n,(deal c n).length=c.length|0=>by simp[deal]|n+1=>by rw[deal,wr,mi c n]
def J6(ns:Pc)(i j:Nat)(v:Int)(h:i<ns.length):gd (ns.set i v) j=if i=j then v else gd ns j:=by
 unfold gd;rw[lh,lh,N1]
 by_cases e:i=j
 ·rw[g6 e,g6 e];simp[h]
 ·rw[g_ e,g_ e]
theorem xL(c:Pc):∀n k,0<=gd (deal c n) k/\gd (deal c n) k<=n
 |0,k=>by
  have e:gd (deal c 0) k=0:=by
   unfold gd deal;rw[lh,List.getElem?_replicate]
   split<;>rfl
  rw[e];show{OV _,by lia}|n+1,k=>by
  have b:=xL c n
  by_cases h0:c.length=0
  ·have:(deal c (n+1)).length=0:=by rw[mi,h0]
   have e:=List.length_eq_zero_iff.mp this;rw[e];show{OV _,by change(0:Int)<=_;lia}
  ·have d:=xH c (deal c n) (c.length-1);rw[deal,J6 _ _ _ _ (by rw[mi];lia)]
   split
   ·have:=b (AH c (deal c n) (c.length-1));lia
   ·have:=b k;lia
inductive IT(K:O2)(vs:List V)(H:Hp)(Q:VK)(_E:XK):Prop|mk(wt gl:Addr)(ws gs:Pc)(_:vs=[.ref wt,.ref gl])(_:aY K H wt (ws.map V.int))(_:aS K H gl (gs.map V.int))(_:gs.length=ws.length)(_:0<ws.length)(_:ws.length<=4)(_:(∀k,0<=gd gs k/\gd gs k<=2000))(_:Q (.int (AH ws gs (ws.length-1):Nat)) H)
inductive Gi(K:O2)(vs:List V)(H:Hp)(Q:VK)(_E:XK):Prop|mk(n:Nat)(wt:Addr)(ws:Pc)(_:vs=[.int n,.ref wt])(_:n<=2000)(_:aY K H wt (ws.map V.int))(_:0<ws.length)(_:ws.length<=4)(_:∀t H',am H H'->H' t=some (.tup ((deal ws n).map V.int))->Q (.ref t) H')
section
def yR(T:Txt K mg a):aP P w K mg base cP 1 a.ki.x a.ki.d ["weights","given"] (IT K):=by
 show T.ki.ok jn λl A outer s H t Q E u h=>?_
 ·obtain⟨m,gl,b,gs,rfl,c,g,j,y,l4,k,q⟩:=h;show{_,(ag (bp 2 jn.nd af) (ag (dN mo () (wk () T.eO (ac af (ac (aB (aI K ()) (by rfl) T.bE L2.aL (ac (Y 0) O)) O))) (qo 3 jn.nd) (ah (aN (aD rc (aA gQ (dJ K (Y 0) (Y 3)) (aA bU (iR K (Y 1) (Y 2)) af)) (aA gQ (dJ K (Y 0) (Y 2)) (aA bU (iR K (Y 1) (Y 3)) af)) (aG _)) (ah (bp 2 jn.nd (Y 3))) aE))) (ah (ay (Y 2))))),?_}
  show U () {_,b.length,(),.inr {_,c,by simp},_,U () {{by decide,by decide,by lia,by lia},?_}};show mI (lo:=1) (n:=((b.length:Int)-1).toNat) (λi f H'=>H=H'/\∃v,f=[some (.ref m),some (.ref gl),some (.int (AH b gs i:Nat)),v]) {(),_,()} ?_ ?_
  ·rintro i f _ hi⟨rfl,v,rfl⟩;have hd:=xH b gs i;have o:0<=gs.getD (AH b gs i) 0/\gs.getD (AH b gs i) 0<=2000:=k (AH b gs i);have p:0<=gs.getD (i+1) 0/\gs.getD (i+1) 0<=2000:=k (i+1);have r:((1:Int)+(i:Int))=((i+1:Nat):Int):=by lia
   show U () (U () (rX c (mK (by lia) (by lia)) (U () (U () (rX g (mK (by lia) (by lia)) (r2 (r2 ?_)))))));show{.inr {?_,?_},?_}
   ·simp only[ot];lia
   ·simp only[ot];lia
   show U () (U () (rX c (mK (by lia) (by lia)) (U () (U () (rX g (mK (by lia) (by lia)) (r2 (r2 ?_)))))));rw[r];show{.inr {?_,?_},?_}
   ·simp only[ot];lia
   ·simp only[ot];lia
   show r2 (U () ?_);simp only[ot];show lz (λh=>?_) (λh=>?_)
   ·show U () {(),some (.int ((i+1:Nat):Int)),?_};rw[AH,g6 h];rfl
   ·show{(),some (.int ((i+1:Nat):Int)),?_};rw[AH,g_ h];rfl
  ·rintro f _⟨rfl,v,rfl⟩;have e:((b.length:Int)-1).toNat=b.length-1:=by lia
   rw[e];show U () q
def D5(T:Txt K mg a):aP P w K mg base cP 2 a.wP.x a.wP.d ["total","weights"] (Gi K):=by
 show T.wP.ok oH λC A outer s H N Q E D h=>?_
 ·obtain⟨n,f,b,rfl,hn,y,F,l4,q⟩:=h;show{_,(ag (bp 2 oH.nd (aA D0 (bj (ac af O)) (aB (aI K ()) (by rfl) T.bE L2.aL (ac (Y 1) O)))) (ag (dN mo () (dq () T.eO (ac (Y 0) O)) (qo 3 oH.nd) (ag (bp 4 oH.nd (pc T.ki (yR T) D (ac (Y 1) (ac (Y 2) O)))) (ah (kO (aA bU (iR K (Y 2) (Y 4)) af) (kP (Y 2) (Y 4) DL))))) (ah (ay (cE (eZ K ()) (by rfl) T.dZ L2.bW (ac (Y 2) O)))))),?_}
  show{ls (),λl z=>?_};have j:aY K (aH H l (.lst [.int 0])) f (b.map V.int):=am.tseq (aj (am.refl H) z) y;show U () {_,b.length,(),.inr {_,j,by simp},l,_,U () {(),ae,by lia,by lia,dg (by simp;lia),λg hg=>?_}};have G:am H (aH (aH H l (.lst [.int 0])) g (.lst (List.replicate (b.length:Int).toNat [V.int 0]).flatten)):=aj (aj (am.refl H) z) hg;have I:(List.replicate (b.length:Int).toNat [V.int 0]).flatten=(deal b 0).map V.int:=by
   rw[ot,deal,List.map_replicate];generalize b.length=m
   induction m with|zero=>rfl|succ m J=>rw[rl,E2,J,rl];rfl
  have o:H g=none:=(JM hg).2;show U () {(n:Int),(),by lia,by lia,?_};show mI (lo:=0) (n:=(n:Int).toNat) (λi p H'=>am H H'/\H' g=some (.lst ((deal b i).map V.int))/\(Mp λr u=>p=[some (.int n),some (.ref f),some (.ref g),r,u])) {G,by rw[ae,I],_,_,()} ?_ ?_
  ·rintro i p L hi⟨e,c,r,u,rfl⟩;have B:=xL b i;have hd:=xH b (deal b i) (b.length-1);have v:=mi b i;show U () (U () {f,g,b,deal b i,(),am.tseq e y,aS.of c,v,F,l4,λk=>{(B k).1,by have:=(B k).2;lia},?_});show U () (U () (rX (aS.of c) (mK (by lia) (by lia)) (r2 ?_)));show U () (U () {g,_,_,U () {(),c,Hd (by lia) (by simp;lia),?_}});show{bv e o,?_,_,_,()};rw[ae];simp only[ot];rw[zb];rfl
  ·rintro p L⟨e,c,r,u,rfl⟩;show U () {g,U () (.inl {aS.of c,λt M=>?_})};show q t _ (aj e M) ae
end
inductive yk(C:Addr)(vs:List V)(H:Hp)(Q:VK)(_E:XK):Prop|mk(t dx ar ru sh:Addr)(hm:Str)(_:vs=[.ref t,.str hm,.ref ar,.ref ru,.ref sh])(_:H t=some (.ins C dx []))(_:∀(ba:Addr)H',H ba=none->(∀b o,H b=some o->b≠t->H' b=some o)->H' t=some (.ins C dx [("home",.str hm),("arms",.ref ar),("rule",.ref ru),("shuts",.ref sh),("paused",.bl false),("closed",.bl false),("barred",.ref ba)])->H' ba=some (.dK [])->Q .non H')
section
def rZ(T:Txt K mg a):aP P w K mg base cP 1 a.d7.x a.d7.d ["self","home","arms","rule","shuts"] (yk a.fS):=by
 show T.d7.ok rO λk A outer s H m Q E n h=>?_
 ·obtain⟨t,dx,ar,ru,sh,hm,rfl,l,q⟩:=h;show{_,(ag (cr K () (Y 0) (Y 1)) (ag (cr K () (Y 0) (Y 2)) (ag (cr K () (Y 0) (Y 3)) (ag (cr K () (Y 0) (Y 4)) (ag (cr K () (Y 0) iB) (ag (cr K () (Y 0) iB) (ah (cr K () (Y 0) kf)))))))),?_}
  show U () (U () {t,_,dx,U () {l,T.aZ,T.eF,by simp,?_}});rw[show gx "home" (V.str hm) []=([("home",V.str hm)]:List (Str×V))from ()];show U () (U () {t,_,dx,U () {ae,T.aZ,T.fN,by simp,?_}});rw[ic,show gx "arms" (V.ref ar) [("home",V.str hm)]=([("home",V.str hm),("arms",V.ref ar)]:List (Str×V))from ()];show U () (U () {t,_,dx,U () {ae,T.aZ,T.nu,by simp,?_}});rw[ic,show gx "rule" (V.ref ru) [("home",V.str hm),("arms",V.ref ar)]=([("home",V.str hm),("arms",V.ref ar),("rule",V.ref ru)]:List (Str×V))from ()];show U () (U () {t,_,dx,U () {ae,T.aZ,T.lZ,by simp,?_}});rw[ic,show gx "shuts" (V.ref sh) [("home",V.str hm),("arms",V.ref ar),("rule",V.ref ru)]=([("home",V.str hm),("arms",V.ref ar),("rule",V.ref ru),("shuts",V.ref sh)]:List (Str×V))from ()];show U () {t,_,dx,U () {ae,T.aZ,T.iI,by simp,?_}};rw[ic,show gx "paused" (V.bl false) [("home",V.str hm),("arms",V.ref ar),("rule",V.ref ru),("shuts",V.ref sh)]=([("home",V.str hm),("arms",V.ref ar),("rule",V.ref ru),("shuts",V.ref sh),("paused",V.bl false)]:List (Str×V))from ()];show U () {t,_,dx,U () {ae,T.aZ,T.eC,by simp,?_}};rw[ic,show gx "closed" (V.bl false) [("home",V.str hm),("arms",V.ref ar),("rule",V.ref ru),("shuts",V.ref sh),("paused",V.bl false)]=([("home",V.str hm),("arms",V.ref ar),("rule",V.ref ru),("shuts",V.ref sh),("paused",V.bl false),("closed",V.bl false)]:List (Str×V))from ()];showλf c=>?_;have i:t≠f:=λz=>by rw[<-z,ae]at c;cases c
  show U () {t,_,dx,U () {by rw[ak i];show ae,T.aZ,T.iJ,by simp,?_}};rw[show gx "barred" (V.ref f) [("home",V.str hm),("arms",V.ref ar),("rule",V.ref ru),("shuts",V.ref sh),("paused",V.bl false),("closed",V.bl false)]=([("home",V.str hm),("arms",V.ref ar),("rule",V.ref ru),("shuts",V.ref sh),("paused",V.bl false),("closed",V.bl false),("barred",V.ref f)]:List (Str×V))from ()];have g:H f=none:=by rw[ak (nn i)]at c;show c
  show q f _ g (λb o e j=>?_) ae (by rw[ak (nn i)];show ae);rw[ak j,ak (az e g),ak j];show e
end
inductive ym(P:O7)(w:World)(K:O2)(C D:Addr)(vs:List V)(H:Hp)(Q:VK)(_E:XK):Prop|mk(t dx:Addr)(z:Int)(n:Nat)(_:vs=[.ref t,.int z,.int n])(_:H t=some (.ins C dx []))(_:∀(tb od td iu:Addr)H',H tb=none->H od=none->H td=none->H iu=none->od≠iu->(∀b o,H b=some o->b≠t->H' b=some o)->H' t=some (.ins C dx [("slope",.int z),("table",.ref tb),("inside",.ref iu)])->eP P w K D H' tb od td n [] [] []->H' iu=some (.dK [])->Q .non H')
section
def se(T:Txt K mg a):aP P w K mg base cP 3 a.et.x a.et.d ["self","slope","many"] (ym P w K a.fc a.bO):=by
 show T.et.ok rQ λZ A outer s H vs Q E hr h=>?_
 ·obtain⟨t,dx,z,n,rfl,hT,q⟩:=h;show{_,(ag (cr K () (Y 0) (Y 1)) (ag (cr K () (Y 0) (pq T.Ek ((sd (P:=P) (w:=w) T).mono (by decide)) hr () T.G0 T.eg.b .nil aQ (ac (Y 2) O))) (ah (cr K () (Y 0) kf)))),?_}
  show U () (U () {t,_,dx,U () {hT,T.bB,T.gC,by simp,?_}});rw[show gx "slope" (V.int z) []=([("slope",V.int z)]:List (Str×V))from ()];have f1:∀b o,H b=some o->b≠t->aH H t (.ins a.fc dx [("slope",V.int z)]) b=some o:=λb o e m=>by rw[ak m];show e
  have g:aH H t (.ins a.fc dx [("slope",V.int z)]) t=some (.ins a.fc dx [("slope",V.int z)]):=ae;have y:∀b,aH H t (.ins a.fc dx [("slope",V.int z)]) b=none->H b=none:=λb e=>by
   by_cases h:b=t
   ·rw[h,ae]at e;cases e
   ·rw[ak h]at e;show e
  generalize aH H t (.ins a.fc dx [("slope",V.int z)])=k at f1 g y⊢;show U () (λc ty i G I=>?_);have f2:∀b o,k b=some o->aH (aH k ty (.own c)) c (.ins a.bO ty []) b=some o:=λb o e=>by rw[ak (az e i),ak (az e G)];show e
  have B:aH (aH k ty (.own c)) c (.ins a.bO ty []) c=some (.ins a.bO ty []):=ae;have C:aH (aH k ty (.own c)) c (.ins a.bO ty []) ty=some (.own c):=by rw[ak I];show ae
  generalize aH (aH k ty (.own c)) c (.ins a.bO ty [])=H2 at f2 B C⊢;show{c,ty,n,(),B,C,λW X D p r f3 f=>{(),?_}};have n1:∀b,H2 b=none->k b=none:=λb e=>by cases z:k b with|none=>rfl|some o=>rw[f2 b o z]at e;cases e
  have u:∀b o,k b=some o->D b=some o:=λb o e=>f3 b o (f2 b o e) (az e i);have J:=u _ _ g;show U () {t,_,dx,U () {J,T.bB,T.dQ,by simp,?_}};rw[show gx "table" (V.ref c) [("slope",V.int z)]=([("slope",V.int z),("table",V.ref c)]:List (Str×V))from ()];showλv l=>?_;have L:t≠v:=λz=>by rw[<-z,ae]at l;cases l
  have j:D v=none:=by rw[ak (nn L)]at l;show l
  show U () {t,_,dx,U () {by rw[ak L];show ae,T.bB,T.bH,by simp,?_}};rw[show gx "inside" (V.ref v) [("slope",V.int z),("table",V.ref c)]=([("slope",V.int z),("table",V.ref c),("inside",V.ref v)]:List (Str×V))from ()];have n3:∀b,D b=none->k b=none:=λb e=>by cases z:k b with|none=>rfl|some o=>rw[u b o z]at e;cases e
  have F:∀b o,D b=some o->b≠t->aH (aH (aH D t (.ins a.fc dx [("slope",V.int z),("table",V.ref c)])) v (.dK [])) t (.ins a.fc dx [("slope",V.int z),("table",V.ref c),("inside",V.ref v)]) b=some o:=λb o e m=>by rw[ak m,ak (az e j),ak m];show e
  have M:c≠t:=λz=>by rw[z,g]at i;cases i
  have N:W≠t:=λz=>by rw[z,f2 _ _ g]at p;cases p
  have R:X≠t:=λz=>by rw[z,f2 _ _ g]at r;cases r
  show q c W X v _ (y _ i) (y _ (n1 _ p)) (y _ (n1 _ r)) (y _ (n3 _ j)) (az f.own j) (λb o e m=>F b o (u b o (f1 b o e m)) m) ae ?_ (by rw[ak (nn L)];show ae);obtain⟨S,hI⟩:=f.ins;show{{S,F _ _ hI M},F _ _ f.own N,F _ _ f.tak R,λx hx=>(by cases hx),.nil}
end
inductive yn(C:Addr)(vs:List V)(H:Hp)(Q:VK)(_E:XK):Prop|mk(t dx:Addr)(z sa:Int)(_:vs=[.ref t,.int z,.int sa])(_:H t=some (.ins C dx []))(_:(2<=z/\z<=997))(_:(∀i:Nat,2+(i:Int)<z->z%(2+(i:Int))≠0))(_:(0<=sa/\sa<=cC))(_:∀(ln tn ci dl:Addr)H',H ln=none->H tn=none->H ci=none->H dl=none->ln≠tn->ln≠ci->tn≠ci->(∀b o,H b=some o->b≠t->H' b=some o)->H' t=some (.ins C dx [("own_prime",.int z),("own_salt",.int sa),("layer_named",.ref ln),("trial_named",.ref tn),("came_into",.ref ci),("deeds",.ref dl)])->H' ln=some (.dK [])->H' tn=some (.dK [])->H' ci=some (.dK [])->H' dl=some (.lst [])->Q .non H')
def uY(t:Addr)(H H':Hp):Prop:=∀b o,H b=some o->b≠t->H' b=some o
def uY.no{t a:Addr}(h:uY t H H')(e:H' a=none)(n:a≠t):H a=none:=by cases z:H a with|none=>rfl|some o=>rw[h a o z n]at e;cases e
@[elab_as_elim]theorem gS{H:Hp}{a:Addr}{o:HO}{motive:Hp->Prop}(c:H a=none)(h:∀H',am H H'->H' a=some o->motive H'):motive (aH H a o):=h _ (aj (am.refl H) c) ae
@[elab_as_elim]theorem B5{H:Hp}{t:Addr}{o:HO}{motive:Hp->Prop}(h:∀H',uY t H H'->H' t=some o->motive H'):motive (aH H t o):=h _ (λ_ _ e n=>by rw[ak n];show e) ae
section
def lr(T:Txt K mg a):aP P w K mg base cP 5 a.dC.x a.dC.d ["self","prime","salt"] (yn a.bo):=by
 show T.dC.ok rW λaa A outer s H vs Q E hr h=>?_
 ·obtain⟨t,dx,z,sa,rfl,k,h1,h2,h3,q⟩:=h;show{_,(ag (aM (pc T.gk (um T) hr (ac (Y 1) (ac (Y 2) O)))) (ag (cr K () (Y 0) (Y 1)) (ag (cr K () (Y 0) (Y 2)) (ag (cr K () (Y 0) kf) (ag (cr K () (Y 0) kf) (ag (cr K () (Y 0) kf) (ah (cr K () (Y 0) (bj O))))))))),?_}
  show U () (U () {z,sa,(),h1,h2,h3,λH0 v=>?_});show U () (U () {t,_,dx,U () {v _ _ k,T.ao,T.bV,by simp,?_}});show B5 λH1 o1 t1=>?_;show U () (U () {t,_,dx,U () {t1,T.ao,T.gE,(show 1<1000 by decide),?_}});show B5 λH2 o2 B=>?_;showλln g=>gS g λH3 C e3=>?_;show U () {t,_,dx,U () {C _ _ B,T.ao,T.aK,(show 2<1000 by decide),?_}};show B5 λl m D=>?_;showλtn f=>gS f λH5 F e5=>?_;show U () {t,_,dx,U () {F _ _ D,T.ao,T.aJ,(show 3<1000 by decide),?_}};show B5 λp G I=>?_;showλJ c=>gS c λH7 L e7=>?_;show U () {t,_,dx,U () {L _ _ I,T.ao,T.cY,(show 4<1000 by decide),?_}};show B5 λr M N=>?_;show{ls (),λdl i=>gS i λH9 R e9=>?_};show U () {t,_,dx,U () {R _ _ N,T.ao,T.i7,(show 5<1000 by decide),?_}};show B5 λS V ta=>?_;have n1:ln≠t:=λy=>by rw[y,B]at g;cases g
  have n2:tn≠t:=λy=>by rw[y,D]at f;cases f
  have n3:J≠t:=λy=>by rw[y,I]at c;cases c
  have n4:dl≠t:=λy=>by rw[y,N]at i;cases i
  have W:uY t H H2:=λb o e n=>o2 b o (o1 b o (v b o e) n) n;have p4:uY t H3 l:=m;have X:uY t H l:=λb o e n=>m b o (C b o (W b o e n)) n;have Z:uY t l p:=λb o e n=>G b o (F b o e) n;have u:uY t p r:=λb o e n=>M b o (L b o e) n;have j:uY t r S:=λb o e n=>V b o (R b o e) n;have k6:uY t H p:=λb o e n=>Z b o (X b o e n) n;have k8:uY t H r:=λb o e n=>u b o (k6 b o e n) n;have l4:=m _ _ e3 n1;have l6:=Z _ _ l4 n1;have l8:=u _ _ l6 n1;have m6:=G _ _ e5 n2;have m8:=u _ _ m6 n2;show q ln tn J dl S (W.no g n1) (X.no f n2) (k6.no c n3) (k8.no i n4) (az l4 f) (az l6 c) (az m6 c) (λb o e n=>j b o (k8 b o e n) n) ta (j _ _ l8 n1) (j _ _ m8 n2) (j _ _ (M _ _ e7 n3) n3) (V _ _ e9 n4)
end
def Bh(c:Nat):Int:=Txt.find jJ {#[c]}
def xB(m:Int)(cs:Pa):Int:=cs.foldl (λm c=>1009*m+Bh c+1) m
def Em{m:Int}{cs:Pa}{i c:Nat}(h:cs[i]?=some c):xB m (cs.take (i+1))=1009*xB m (cs.take i)+Bh c+1:=by unfold xB;rw[t_,h,z_];rfl
def JI{c:Nat}(h:c∈jJ.cps.toList):∃i r,Builtin.Str.occurrences jJ {#[c]} 0 jJ.length 1=i::r/\Bh c=(i:Nat):=by have e:=StrLaws.found_one jJ c;rw[j2 h]at e;cases q:Builtin.Str.occurrences jJ {#[c]} 0 jJ.length 1 with|nil=>rw[q]at e;cases e|cons i r=>show{i,r,(),?_};unfold Bh Txt.find;rw[q]
def nO(p m sl:Int)(x:Str):Int:=if sl=p then xB m x.cps.toList%(p*p)%p else(xB m x.cps.toList%(p*p)/p+sl*(xB m x.cps.toList%(p*p)%p))%p
inductive F8(vs:List V)(H:Hp)(Q:VK)(_E:XK):Prop|mk(p:_)(m:_)(x:_)(_:vs=[.int p,.int m,.str x])(_:w6 x)(_:(2<=p/\p<=997))(_:∀t,H t=none->Q (.ref t) (aH H t (.tup [.int (xB m x.cps.toList%(p*p)/p),.int (xB m x.cps.toList%(p*p)%p)])))
inductive Ga(K:O2)(vs:List V)(H:Hp)(Q:VK)(_E:XK):Prop|mk(t:Addr)(p s x y:Int)(_:vs=[.int p,.int s,.ref t])(_:aY K H t [.int x,.int y])(_:0<p)(_:(0<=s/\s<=1000))(_:Q (.int (if s=p then y else(x+s*y)%p)) H)
inductive BR(a:fJ)(vs:List V)(H:Hp)(Q:VK)(_E:XK):Prop|mk(h lo dx dl:Addr)(fs gs:List (Str×V))(p m sl:Int)(x:Str)(_:vs=[.ref h,.ref lo,.str x])(_:H h=some (.ins a.bo dx fs))(_:fs.lookup ("own_prime":Str)=some (V.int p))(_:fs.lookup ("own_salt":Str)=some (V.int m))(_:H lo=some (.ins a.fc dl gs))(_:gs.lookup ("slope":Str)=some (V.int sl))(_:w6 x)(_:(2<=p/\p<=997))(_:(0<=sl/\sl<=1000))(_:∀H',am H H'->Q (.int (nO p m sl x)) H')
section
def yP(T:Txt K mg a):aP P w K mg base cP 1 a.kc.x a.kc.d ["p","salt","guest"] F8:=by
 show T.kc.ok jm λf A outer s H k Q E l h=>?_
 ·obtain⟨p,m,x,rfl,hg,⟨n,o⟩,q⟩:=h;show{_,(ag (bp 3 jm.nd (Y 1)) (ag (dN mo () (DW (Y 2)) (qo 4 jm.nd) (ah (bp 3 jm.nd (aA bU (aA bU (aA gQ (cx T.Hx ()) (Y 3)) (fF K () PySem.F.plainAttrs_str PySem.F.slot_str_index PySem.F.type_str_index Ei (cx T.nA ()) (ac (Y 4) O))) af)))) (ah (ay (aB zB (by rfl) T.Eg L2.zE (ac (aA aW (Y 3) (aA gQ (Y 0) (Y 0))) (ac (Y 0) O))))))),?_}
  show U () (U () {x,(),?_});show Hm (λi b H'=>H=H'/\∃v,b=[some (.int p),some (.int m),some (.str x),some (.int (xB m (x.cps.toList.take i))),v]) {(),_,()} ?_ ?_
  ·rintro i c b _ hc⟨rfl,v,rfl⟩;obtain⟨j,r,g,hn⟩:=JI (hg.cs c (f_ hc));show U () (r2 {.inl {by decide,by decide},(),U () {jJ,_,j,r,(),(),g,_,U () {(),r2 {(),some (.str {#[c]}),?_}}}});rw[Em hc,hn];rfl
  ·rintro b _⟨rfl,v,rfl⟩;rw[hF (e_ _)];have e:(0:Int)<p*p:=Int.mul_pos (by lia) (by lia);show U () (U () (U () (r2 {.inl {by lia,by lia},_,U () {(),e,U () {_,U () {{by lia,by lia},q}}}})))
def yQ(T:Txt K mg a):aP P w K mg base cP 1 a.ke.x a.ke.d ["p","slope","point"] (Ga K):=by
 show T.ke.ok lF λc A outer s H f Q E g h=>?_
 ·obtain⟨t,p,s,x,y,rfl,b,e,⟨i,j⟩,q⟩:=h;show{_,(ag (bp 3 lF.nd (dJ K (Y 2) af)) (ag (bp 4 lF.nd (dJ K (Y 2) af)) (ag (aN (aD aX (Y 1) (Y 0) (aG _)) (ah (ay (Y 4))) aE) (ah (ay (aA aW (aA bU (Y 3) (aA gQ (Y 1) (Y 4))) (Y 0))))))),?_}
  (iterate 2 show U () (rX b () ?_));show U () (U () {(),U () (kj (λh=>?_) (λh=>?_))})
  ·rw[g6 h]at q;show U () q
  ·rw[g_ h]at q;show U () (U () (U () (r2 {.inl {by lia,by lia},_,U () {(),U () (r2 (e,q,))}})))
def gy(T:Txt K mg a):aP P w K mg base cP 2 a.bF.x a.bF.d ["self","layer","guest"] (BR a):=by
 show T.bF.ok oN λf A outer s H r Q E c h=>?_
 ·obtain⟨h,lo,dx,dl,fs,gs,p,m,sl,x,rfl,b,e,g,i,j,k,l,n,q⟩:=h;show{_,(ah (ay (pc T.ke (yQ T) c (ac (aC K () (Y 0)) (ac (aC K () (Y 1)) (ac (pc T.kc (yP T) c (ac (aC K () (Y 0)) (ac (aC K () (Y 0)) (ac (Y 2) O)))) O)))))),?_};show U () {h,_,dx,_,U () {b,T.ao,T.bV,e,U () {lo,_,dl,_,U () {i,T.bB,T.gC,j,U () {h,_,dx,_,U () {b,T.ao,T.bV,e,U () {h,_,dx,_,U () {b,T.ao,T.gE,g,U () {p,m,x,(),k,l,λt o=>?_}}}}}}}}};show{t,p,sl,_,_,(),aY.of ae,by lia,n,q _ (aj (am.refl H) o)}
end
abbrev cB(x y:Str):cj:=.inr [.inr x,.inr y]
structure bJ where
 nm:Str
 sl:Int
 S:AS
 ins:List (Str×Str×Str)
structure dD where
 nm:Str
 home:Str
 arms:List Str
 rule:Ru
 shuts:List Str
 pau:Bool
 clo:Bool
 bar:List Str
structure be where
 p:Nat
 salt:Int
 las:List bJ
 trs:List dD
 came:List (Str×List (Str×Str))
structure ZS where
 G:Ro->Addr
 dx:Ro->Addr
 cv:List (bY×V)ds:List V
 iv:Nat->List (bY×V)ow:Nat->List (bY×V)tk:Nat->List gt
 ar:Nat->Addr
 ru:Nat->V
 sh:Nat->Addr
def gN:List Str->(Nat->V)->List (bY×V)|[],_=>[]|n::r,f=>(.inr n,f 0)::gN r λi=>f (i+1)
def cont(P:O7)(w:World)(a:fJ)(M:be)(Z:ZS):Ro->Option HO|.hh=>some (.ins a.bo (Z.dx .hh) [("own_prime",.int M.p),("own_salt",.int M.salt),("layer_named",.ref (Z.G .ln)),("trial_named",.ref (Z.G .tn)),("came_into",.ref (Z.G .ci)),("deeds",.ref (Z.G .dl))])|.ln=>some (.dK (gN (M.las.map bJ.nm) λi=>.ref (Z.G (.lo i))))|.tn=>some (.dK (gN (M.trs.map dD.nm) λi=>.ref (Z.G (.tr i))))|.ci=>some (.dK Z.cv)|.dl=>some (.lst Z.ds)|.lo i=>M.las[i]?.map λl=>.ins a.fc (Z.dx (.lo i)) [("slope",.int l.sl),("table",.ref (Z.G (.tb i))),("inside",.ref (Z.G (.iu i)))]|.iu i=>M.las[i]?.map λ_=>.dK (Z.iv i)|.tb i=>M.las[i]?.map λ_=>.ins a.bO (Z.dx (.tb i)) [("many",.int M.p),("owners",.ref (Z.G (.od i))),("taken",.ref (Z.G (.td i)))]|.od i=>M.las[i]?.map λ_=>.dK (Z.ow i)|.td i=>M.las[i]?.map λ_=>dM P w (Z.G (.td i)) (Z.tk i)|.tr i=>M.trs[i]?.map λt=>.ins a.fS (Z.dx (.tr i)) [("home",.str t.home),("arms",.ref (Z.ar i)),("rule",Z.ru i),("shuts",.ref (Z.sh i)),("paused",.bl t.pau),("closed",.bl t.clo),("barred",.ref (Z.G (.ba i)))]|.ba i=>M.trs[i]?.map λt=>.dK (t.bar.map λg=>(.inr g,.bl true))
def bT(K:O2)(H:Hp)(iv:List (bY×V))(ins:List (Str×Str×Str)):Prop:=Paired (λ(x:bY×V)(y:Str×Str×Str)=>x.1=.inr y.1/\∃s,x.2=.ref s/\aY K H s [.str y.2.1,.str y.2.2]) iv ins
def gK(K:O2)(H:Hp)(c:List V)(d:List (Str×Str)):Prop:=Paired (λ(u:V)(y:Str×Str)=>∃s,u=.ref s/\aY K H s [.str y.1,.str y.2]) c d
def eM(K:O2)(H:Hp)(dl:Addr)(cv:List (bY×V))(cm:List (Str×List (Str×Str))):Prop:=Paired (λ(x:bY×V)(y:Str×List (Str×Str))=>x.1=.inr y.1/\∃l b,x.2=.ref l/\l≠dl/\H l=some (.lst b)/\gK K H b y.2) cv cm
structure Im(dl:Addr)(H H':Hp):Prop where
 kp:Kp H H'
 ls:∀b xs,H b=some (.lst xs)->b≠dl->H' b=some (.lst xs)
section
variable{K:O2}{H a:Hp}{dl:Addr}
theorem Im.of(h:am H a):Im dl H a:={.of h,λb c e _=>h b _ e}
def bT.kp(e:Kp H a)(h:bT K H iv ins):bT K a iv ins:=Paired.mapP h λ_ _ q=>{q.1,q.2.imp λ_ q=>{q.1,e.tq q.2}}
def gK.kp(e:Kp H a)(h:gK K H c d):gK K a c d:=Paired.mapP h λ_ _ q=>q.imp λ_ q=>{q.1,e.tq q.2}
def eM.im(e:Im dl H a)(h:eM K H dl cv cm):eM K a dl cv cm:=Paired.mapP h λ_ _ q=>{q.1,q.2.imp λ_ q=>q.imp λ_ q=>{q.1,q.2.1,e.ls _ _ q.2.2.1 q.2.1,q.2.2.2.kp e.kp}}
def fA.im(e:Im dl H a)(n:∀x∈tk,x.2.2≠.ref dl)(h:fA H tk m):fA a tk m:=Paired.mapM h λx b _ q=>{q.1,q.2.1,q.2.2.imp λ_ q=>{q.1,e.ls _ _ q.2 λz=>n x b (by rw[q.1,z])}}
end
structure bA(P:O7)(w:World)(K:O2)(a:fJ)(H:Hp)(M:be)(Z:ZS):Prop where
 inj:∀r r' o o',cont P w a M Z r=some o->cont P w a M Z r'=some o'->Z.G r=Z.G r'->r=r'
 at_:∀r o,cont P w a M Z r=some o->H (Z.G r)=some o
 seats:∀i l,M.las[i]?=some l->bT K H (Z.iv i) l.ins
 trs:∀i t,M.trs[i]?=some t->aY K H (Z.ar i) (t.arms.map V.str)/\fB K H t.rule (Z.ru i)/\aY K H (Z.sh i) (t.shuts.map V.str)tabs:∀i l,M.las[i]?=some l->eL K H (Z.tk i)/\(∃m,fA H (Z.tk i) m/\jh M.p l.S (Z.ow i) m)/\u8 (cZ K H) M.p l.S (Z.ow i)/\∀x∈Z.tk i,x.2.2≠.ref (Z.G .dl)came:eM K H (Z.G .dl) Z.cv M.came
section
variable{P:O7}{w:World}{K:O2}{a:fJ}{H H':Hp}{M s:be}{Z c:ZS}
def bA.imm(h:bA P w K a H M Z)(e:cont P w a M Z r=some o)(f:∀b o,H b=some o->b≠Z.G r->H' b=some o):Im (Z.G .dl) H H':=by
 have g:=h.at_ r o e;have i:(∀d,o≠.tup d)/\(∀x y,o≠.frz x y)/\∀d,o=.lst d->r=.dl:=by
  cases r<;>simp only[cont,Option.map_eq_some_iff,NX]at e
  case hh=>subst e;show{λ_ z=>(nomatch z),λ_ _ z=>(nomatch z),λ_ z=>(nomatch z)}
  case ln=>subst e;show{λ_ z=>(nomatch z),λ_ _ z=>(nomatch z),λ_ z=>(nomatch z)}
  case tn=>subst e;show{λ_ z=>(nomatch z),λ_ _ z=>(nomatch z),λ_ z=>(nomatch z)}
  case ci=>subst e;show{λ_ z=>(nomatch z),λ_ _ z=>(nomatch z),λ_ z=>(nomatch z)}
  case dl=>subst e;show{λ_ z=>(nomatch z),λ_ _ z=>(nomatch z),λ_ _=>()}
  all_goals obtain⟨_,_,e⟩:=e;subst e;show{λ_ z=>(nomatch z),λ_ _ z=>(nomatch z),λ_ z=>(nomatch z)}
 obtain⟨j,k,l⟩:=i;show{{λu d q=>f _ _ q λz=>?_,λu x⟨m,q⟩=>{m,f _ _ q λz=>?_}},λb d q n=>f _ _ q λz=>?_}
 ·rw[z,g]at q;show j _ (j1 q)
 ·rw[z,g]at q;show k _ _ (j1 q)
 ·rw[z,g]at q;show n (by rw[z,l _ (j1 q)])
def bA.set(h:bA P w K a H M Z)(f:cont P w a M Z d=some C)(v:∀b o,H b=some o->b≠Z.G d->H' b=some o)(u:c.G=Z.G)(j:∀r o,cont P w a s c r=some o->(r=d/\H' (Z.G d)=some o)\/(r≠d/\cont P w a M Z r=some o))(seats:∀i l,s.las[i]?=some l->bT K H' (c.iv i) l.ins)(trs:∀i t,s.trs[i]?=some t->aY K H' (c.ar i) (t.arms.map V.str)/\fB K H' t.rule (c.ru i)/\aY K H' (c.sh i) (t.shuts.map V.str))(tabs:∀i l,s.las[i]?=some l->eL K H' (c.tk i)/\(∃m,fA H' (c.tk i) m/\jh s.p l.S (c.ow i) m)/\u8 (cZ K H') s.p l.S (c.ow i)/\∀x∈c.tk i,x.2.2≠.ref (c.G .dl))(came:eM K H' (c.G .dl) c.cv s.came):bA P w K a H' s c:=by
 show{λr y o A e B g=>?_,λr o e=>?_,seats,trs,tabs,came}
 ·rw[u]at g;rcases j r o e with⟨rfl,_⟩|⟨_,q⟩<;>rcases j y A B with⟨rfl,_⟩|⟨_,k⟩
  ·rfl
  ·show h.inj _ _ _ _ f k g
  ·show h.inj _ _ _ _ q f g
  ·show h.inj _ _ _ _ q k g
 ·rw[u];rcases j r o e with⟨rfl,q⟩|⟨n,q⟩
  ·show q
  ·show v _ _ (h.at_ _ _ q) λz=>n (h.inj _ _ _ _ q f z)
def bA.trsI(h:bA P w K a H M Z)(e:Kp H H'):∀i t,M.trs[i]?=some t->aY K H' (Z.ar i) (t.arms.map V.str)/\fB K H' t.rule (Z.ru i)/\aY K H' (Z.sh i) (t.shuts.map V.str):=λi t b=>let⟨h1,h2,h3⟩:=h.trs i t b;{e.tq h1,h2.kp e,e.tq h3}
def bA.tabsI(h:bA P w K a H M Z)(e:Im (Z.G .dl) H H'):∀i l,M.las[i]?=some l->eL K H' (Z.tk i)/\(∃m,fA H' (Z.tk i) m/\jh M.p l.S (Z.ow i) m)/\u8 (cZ K H') M.p l.S (Z.ow i)/\∀x∈Z.tk i,x.2.2≠.ref (Z.G .dl):=λi l d=>let⟨h1,⟨m,h2,h3⟩,h4,b⟩:=h.tabs i l d;{λx f=>eU e.kp (h1 x f),{m,h2.im e b,h3},h4.mono λ_ _ q=>eU e.kp q,b}
def bA.same(h:bA P w K a H M Z)(e:am H H'):bA P w K a H' M Z:={h.inj,λr o q=>e _ _ (h.at_ r o q),λi l b=>(h.seats i l b).kp (.of e),h.trsI (.of e),h.tabsI (.of e),h.came.im (.of e)}
def ii{d l:Type}{g:List d}{i:Nat}{x y:d}(h:g[i]?=some x)(f:d->l)(e:f y=f x)(j:Nat):(g.set i y)[j]?.map f=g[j]?.map f:=by
 rw[N1]
 by_cases q:i=j
 ·subst q;rw[g6 (),g6 (d_.mp h).1,h];show pa some e
 ·rw[g_ q]
def eE{d l:Type}{g:List d}{i:Nat}{x y:d}(h:g[i]?=some x)(f:d->l)(e:f y=f x):(g.set i y).map f=g.map f:=vl λj=>by rw[ge,ge];show ii h f e j
def oC{d:Type}{f:List d}{i j:Nat}{y z:d}(e:(f.set i y)[j]?=some z):(j=i/\z=y)\/(j≠i/\f[j]?=some z):=by
 rw[N1]at e
 by_cases q:i=j
 ·rw[g6 q]at e
  split at e
  ·show .inl {q.symm,(j1 e).symm}
  ·cases e
 ·rw[g_ q]at e;show .inr {λz=>q z.symm,e}
def zu{i:Nat}{l l':bJ}(d:M.las[i]?=some l)(h1:l'.nm=l.nm)(h2:l'.sl=l.sl)(r:Ro):cont P w a {M with las:=M.las.set i l'} Z r=cont P w a M Z r:=by cases r with|ln=>show pa (λns=>some (HO.dK (gN ns λi=>.ref (Z.G (.lo i))))) (eE d bJ.nm h1)|lo j=>show ii d _ (by rw[h2]) j|iu j=>show ii (y:=l') d _ () j|tb j=>show ii (y:=l') d _ () j|od j=>show ii (y:=l') d _ () j|td j=>show ii (y:=l') d _ () j|_=>rfl
def Fg{i:Nat}{t d:dD}(e:M.trs[i]?=some t)(h1:d.nm=t.nm)(r:Ro)(h2:r=.tr i->d.home=t.home/\d.pau=t.pau/\d.clo=t.clo)(h3:r=.ba i->d.bar=t.bar):cont P w a {M with trs:=M.trs.set i d} Z r=cont P w a M Z r:=by
 cases r with|tn=>show pa (λns=>some (HO.dK (gN ns λi=>.ref (Z.G (.tr i))))) (eE e dD.nm h1)|tr j=>
  by_cases q:j=i
  ·subst q;obtain⟨a1,b,f⟩:=h2 ();show ii e _ (by rw[a1,b,f]) j
  ·change((M.trs.set i d)[j]?).map _=_;rw[pv (λz=>q z.symm)];rfl|ba j=>
  by_cases q:j=i
  ·subst q;show ii e _ (by rw[h3 ()]) j
  ·change((M.trs.set i d)[j]?).map _=_;rw[pv (λz=>q z.symm)];rfl|_=>rfl
def cK:∀b o,H b=some o->b≠x->aH H x o' b=some o:=λb o e n=>by rw[ak n];show e
def bA.setIns(h:bA P w K a H M Z){i:Nat}{l:bJ}{ins':List (Str×Str×Str)}{iv':List (bY×V)}(d:M.las[i]?=some l)(m:bT K H iv' ins'):bA P w K a (aH H (Z.G (.iu i)) (.dK iv')) {M with las:=M.las.set i {l with ins:=ins'}} {Z with iv:=λj=>if j=i then iv' else Z.iv j}:=by
 have g:cont P w a M Z (.iu i)=some (.dK (Z.iv i)):=by simp[cont,d]
 have im:=h.imm g (cK (o':=.dK iv'));show h.set g cK () (λr o e=>?_) (λj b e=>?_) (h.trsI im.kp) (λj b e=>?_) (h.came.im im)
 ·rw[zu (l':={l with ins:=ins'}) d () ()]at e
  by_cases f:r=.iu i
  ·subst f;show .inl {(),?_};rw[ae,<-e];simp[cont,d]
  ·show .inr {f,?_};rw[<-e];cases r with|iu j=>change _=M.las[j]?.map λ_=>HO.dK (if j=i then iv' else Z.iv j);rw[g_ λz=>f (by rw[z])];rfl|_=>rfl
 ·rcases oC e with⟨rfl,rfl⟩|⟨n,q⟩
  ·change bT K _ (if j=j then iv' else Z.iv j) ins';rw[g6 ()];show m.kp im.kp
  ·change bT K _ (if j=i then iv' else Z.iv j) b.ins;rw[g_ n];show(h.seats j b q).kp im.kp
 ·rcases oC e with⟨rfl,rfl⟩|⟨n,q⟩
  ·show h.tabsI im _ l d
  ·show h.tabsI im j b q
def bA.setTr(h:bA P w K a H M Z){i:Nat}{t t':dD}{r0:Ro}{o':HO}(d:M.trs[i]?=some t)(h1:t'.nm=t.nm)(h2:t'.arms=t.arms)(h3:t'.rule=t.rule)(h4:t'.shuts=t.shuts)(f:(r0=.tr i/\t'.bar=t.bar)\/(r0=.ba i/\t'.home=t.home/\t'.pau=t.pau/\t'.clo=t.clo))(l:cont P w a {M with trs:=M.trs.set i t'} Z r0=some o'):bA P w K a (aH H (Z.G r0) o') {M with trs:=M.trs.set i t'} Z:=by
 obtain⟨g,k⟩:∃g,cont P w a M Z r0=some g:=by rcases f with⟨rfl,_⟩|⟨rfl,_⟩<;>show{_,by simp only[cont,d];rfl}
 have im:=h.imm k (cK (o':=o'));show h.set k cK () (λr o e=>?_) (λj m e=>(h.seats j m e).kp im.kp) (λj p e=>?_) (h.tabsI im) (h.came.im im)
 ·by_cases b:r=r0
  ·subst b;rw[l]at e;show .inl {(),by rw[ae];show e}
  ·show .inr {b,?_};rw[<-e];show(Fg d h1 r (λz=>?_) λz=>?_).symm
   ·rcases f with⟨q,_⟩|⟨_,q⟩
    ·show absurd (z.trans q.symm) b
    ·show q
   ·rcases f with⟨_,q⟩|⟨q,_⟩
    ·show q
    ·show absurd (z.trans q.symm) b
 ·rcases oC e with⟨rfl,rfl⟩|⟨n,q⟩
  ·rw[h2,h3,h4];show h.trsI im.kp _ t d
  ·show h.trsI im.kp j p q
def bA.deed(h:bA P w K a H M Z)(d:V):bA P w K a (aH H (Z.G .dl) (.lst (Z.ds++[d]))) M {Z with ds:=Z.ds++[d]}:=by
 have f:cont P w a M Z .dl=some (.lst Z.ds):=();have im:=h.imm f (cK (o':=.lst (Z.ds++[d])));show h.set f cK () (λr o e=>?_) (λj g e=>(h.seats j g e).kp im.kp) (h.trsI im.kp) (h.tabsI im) (h.came.im im)
 by_cases b:r=.dl
 ·subst b;show .inl {(),by rw[ae];show e}
 ·show .inr {b,?_};rw[<-e];cases r with|dl=>show absurd () b|_=>rfl
def bA.setCame(h:bA P w K a H M Z)(hc:eM K H (Z.G .dl) d f):bA P w K a (aH H (Z.G .ci) (.dK d)) {M with came:=f} {Z with cv:=d}:=by
 have g:cont P w a M Z .ci=some (.dK Z.cv):=();have im:=h.imm g (cK (o':=.dK d));show h.set g cK () (λr o e=>?_) (λj i e=>(h.seats j i e).kp im.kp) (h.trsI im.kp) (h.tabsI im) (hc.im im)
 by_cases b:r=.ci
 ·subst b;show .inl {(),by rw[ae];show e}
 ·show .inr {b,?_};rw[<-e];cases r with|ci=>show absurd () b|_=>rfl
end
theorem xx:∀(ns:O8)(x:Str)(f:Nat->V),gN (ns++[x]) f=gN ns f++[(.inr x,f ns.length)]|[],_,_=>()|n::r,x,f=>by change(Sum.inr n,f 0)::gN (r++[x]) _=(Sum.inr n,f 0)::(gN r _++_);rw[xx r x];rfl
theorem qu:∀{ns:O8}{f g:Nat->V},(∀i,i<ns.length->f i=g i)->gN ns f=gN ns g|[],_,_,_=>()|n::r,f,g,h=>by change(Sum.inr n,f 0)::gN r _=(Sum.inr n,g 0)::gN r _;rw[h 0 (by simp),qu (ns:=r) (f:=λi=>f (i+1)) (g:=λi=>g (i+1)) λi hi=>h (i+1) (by simpa using hi)]
theorem gA:∀(ns:O8)(f:Nat->V),(gN ns f).length=ns.length|[],_=>()|n::r,f=>by rw[gN,md,md,gA r]
theorem sK:∀{ns:O8}{f:Nat->V}{i:Nat}{x:Str},ns.Nodup->ns[i]?=some x->bf (gN ns f) (.inr x)=some (f i)
 |[],_,i,_,_,h=>by simp at h|n::r,f,0,x,_,h=>by
  have e:n=x:=by simpa using h
  show cb (by rw[e])|n::r,f,i+1,x,hn,h=>by
  have h:r[i]?=some x:=by simpa using h
  rw[OY]at hn;have ne:n≠x:=λz=>hn.1 (by rw[z];show f_ h);change bf ((Sum.inr n,f 0)::gN r _) _=_;rw[bu λz=>ne (pu z)];show sK hn.2 h
theorem lY:∀{ns:O8}{f:Nat->V}{x:Str},x∉ns->bf (gN ns f) (.inr x)=none|[],_,_,_=>()|n::r,f,x,h=>by change bf ((Sum.inr n,f 0)::gN r _) _=_;rw[bu λz=>h (by rw[pu z];show i_)];show lY λz=>h (il _ z)
theorem ux:∀{ns:O8}{f:Nat->V}{i:Nat},(gN ns f)[i]?=ns[i]?.map λx=>(.inr x,f i)|[],_,i=>by simp[gN]|n::r,f,0=>()|n::r,f,i+1=>by change(gN r λi=>f (i+1))[i]?=_;rw[ux];simp
section
variable{P:O7}{w:World}{K:O2}{a:fJ}{H c:Hp}{M:be}{Z:ZS}
def bA.tab(h:bA P w K a H M Z)(d:M.las[i]?=some l):∃m,eP P w K a.bO H (Z.G (.tb i)) (Z.G (.od i)) (Z.G (.td i)) M.p (Z.ow i) (Z.tk i) m/\jh M.p l.S (Z.ow i) m:=by obtain⟨h1,⟨m,h2,h3⟩,_⟩:=h.tabs i l d;show{m,{{_,h.at_ (.tb i) _ (by simp only[cont,d];rfl)},h.at_ (.od i) _ (by simp only[cont,d];rfl),h.at_ (.td i) _ (by simp only[cont,d];rfl),h1,h2},h3}
def bA.told(h:bA P w K a H M Z)(s:M.las[i]?=some l)(o:mw (Z.G (.od i)) (Z.G (.td i)) H c)(C:eP P w K a.bO c (Z.G (.tb i)) (Z.G (.od i)) (Z.G (.td i)) M.p f d I)(L:jh M.p t f I)(N:u8 (cZ K H) M.p t f)(Q:fD H (Z.tk i) d):bA P w K a c {M with las:=M.las.set i {l with S:=t}} {Z with ow:=λj=>if j=i then f else Z.ow j,tk:=λj=>if j=i then d else Z.tk j}:=by
 obtain⟨m,J,_⟩:=h.tab s;have im:Im (Z.G .dl) H c:=by
  have g:∀b ob,H b=some ob->(∀D,ob≠.dK D)->(∀φ,ob≠.ext φ)->c b=some ob:=λb ob e h1 h2=>o b ob e (λz=>by rw[z,J.own]at e;cases e;show h1 _ ()) (λz=>by rw[z,J.tak]at e;cases e;show h2 _ ())
  show{{λu O e=>g _ _ e (λ_ z=>(nomatch z)) (λ_ z=>(nomatch z)),λu x⟨E,e⟩=>{E,g _ _ e (λ_ z=>(nomatch z)) (λ_ z=>(nomatch z))}},λb O e _=>g _ _ e (λ_ z=>(nomatch z)) (λ_ z=>(nomatch z))}
 have v:∀r ob,cont P w a {M with las:=M.las.set i {l with S:=t}} {Z with ow:=λj=>if j=i then f else Z.ow j,tk:=λj=>if j=i then d else Z.tk j} r=some ob->(r=.od i/\ob=.dK f)\/(r=.td i/\ob=dM P w (Z.G (.td i)) d)\/(r≠.od i/\r≠.td i/\cont P w a M Z r=some ob):=λr ob e=>by
  rw[zu (l':={l with S:=t}) s () ()]at e;cases r with|od j=>
   by_cases q:j=i
   ·subst q;have e:(M.las[j]?.map λ_=>HO.dK (if j=j then f else Z.ow j))=some ob:=e;rw[s,g6 ()]at e;show .inl {(),(j1 e).symm}
   ·have e:(M.las[j]?.map λ_=>HO.dK (if j=i then f else Z.ow j))=some ob:=e;rw[g_ q]at e;show .inr (.inr {λz=>q (by injection z),λz=>(nomatch z),e})|td j=>
   by_cases q:j=i
   ·subst q;have e:(M.las[j]?.map λ_=>dM P w (Z.G (.td j)) (if j=j then d else Z.tk j))=some ob:=e;rw[s,g6 ()]at e;show .inr (.inl {(),(j1 e).symm})
   ·have e:(M.las[j]?.map λ_=>dM P w (Z.G (.td j)) (if j=i then d else Z.tk j))=some ob:=e;rw[g_ q]at e;show .inr (.inr {λz=>(nomatch z),λz=>q (by injection z),e})|_=>show .inr (.inr {λz=>(nomatch z),λz=>(nomatch z),e})
 have A:cont P w a M Z (.od i)=some (.dK (Z.ow i)):=by simp only[cont,s];rfl
 have B:cont P w a M Z (.td i)=some (dM P w (Z.G (.td i)) (Z.tk i)):=by simp only[cont,s];rfl
 have live:∀r ob,cont P w a {M with las:=M.las.set i {l with S:=t}} {Z with ow:=λj=>if j=i then f else Z.ow j,tk:=λj=>if j=i then d else Z.tk j} r=some ob->∃E,cont P w a M Z r=some E:=λr ob e=>by
  rcases v r ob e with⟨rfl,_⟩|⟨rfl,_⟩|⟨_,_,q⟩
  ·show{_,A}
  ·show{_,B}
  ·show{_,q}
 show{λr R ob F e T g=>?_,λr ob e=>?_,λj k e=>?_,h.trsI im.kp,λj k e=>?_,h.came.im im}
 ·obtain⟨_,q⟩:=live r ob e;obtain⟨_,U⟩:=live R F T;show h.inj _ _ _ _ q U g
 ·rcases v r ob e with⟨rfl,rfl⟩|⟨rfl,rfl⟩|⟨n1,n2,q⟩
  ·show C.own
  ·show C.tak
  ·show o _ _ (h.at_ _ _ q) (λz=>n1 (h.inj _ _ _ _ q A z)) (λz=>n2 (h.inj _ _ _ _ q B z))
 ·rcases oC e with⟨rfl,rfl⟩|⟨n,q⟩
  ·show(h.seats _ l s).kp im.kp
  ·show(h.seats j k q).kp im.kp
 ·rcases oC e with⟨rfl,rfl⟩|⟨n,q⟩
  ·change eL K c (if j=j then d else Z.tk j)/\(∃m,fA c (if j=j then d else Z.tk j) m/\jh M.p t (if j=j then f else Z.ow j) m)/\u8 (cZ K c) M.p t (if j=j then f else Z.ow j)/\∀x∈(if j=j then d else Z.tk j),x.2.2≠.ref (Z.G .dl);rw[g6 (),g6 ()];show{C.keys,(I,C.lsts,L,),N.mono λ_ _ q=>eU im.kp q,λx V z=>?_};rcases Q x V with⟨y,W,e⟩|⟨X,e,hn⟩
   ·show(h.tabs _ l s).2.2.2 y W (e.trans z)
   ·rw[e]at z;cases z;rw[h.at_ .dl _ ()]at hn;cases hn
  ·change eL K c (if j=i then d else Z.tk j)/\(∃m,fA c (if j=i then d else Z.tk j) m/\jh M.p k.S (if j=i then f else Z.ow j) m)/\u8 (cZ K c) M.p k.S (if j=i then f else Z.ow j)/\∀x∈(if j=i then d else Z.tk j),x.2.2≠.ref (Z.G .dl);rw[g_ n,g_ n];show h.tabsI im j k q
end
def vP(c d:Nat):Ro->Prop|.lo i=>i<c|.iu i=>i<c|.tb i=>i<c|.od i=>i<c|.td i=>i<c|.tr i=>i<d|.ba i=>i<d|_=>True
def qK(e:cont P w a M Z r=some o):vP M.las.length M.trs.length r:=by cases r<;>first|show trivial|(obtain⟨y,h1,_⟩:=Option.map_eq_some_iff.mp e;show(d_.mp h1).1)
def mD(P:O7)(w:World)(a:fJ)(Z:ZS)(h:vP M.las.length M.trs.length r):∃o,cont P w a M Z r=some o:=by cases r<;>first|show{_,()}|(have h:_<M.las.length:=h;show{_,by simp only[cont,ga h];rfl})|(have h:_<M.trs.length:=h;show{_,by simp only[cont,ga h];rfl})
def ZS.newL(Z:ZS)(n:Nat)(lo e t f g c d:Addr):ZS:={Z with
 G:=λr=>if r=.lo n then lo else if r=.iu n then e else if r=.tb n then t else if r=.od n then f else if r=.td n then g else Z.G r
 dx:=λr=>if r=.lo n then c else if r=.tb n then d else Z.dx r
 iv:=λj=>if j=n then[]else Z.iv j
 ow:=λj=>if j=n then[]else Z.ow j
 tk:=λj=>if j=n then[]else Z.tk j}
def ZS.newT(Z:ZS)(n:Nat)(t c dx ar:Addr)(ru:V)(sh:Addr):ZS:={Z with
 G:=λr=>if r=.tr n then t else if r=.ba n then c else Z.G r
 dx:=λr=>if r=.tr n then dx else Z.dx r
 ar:=λj=>if j=n then ar else Z.ar j
 ru:=λj=>if j=n then ru else Z.ru j
 sh:=λj=>if j=n then sh else Z.sh j}
def oz(e:(c++[x])[j]?=some y):(j=c.length/\y=x)\/(j≠c.length/\c[j]?=some y):=by
 rcases Nat.lt_trichotomy j c.length with q|q|q
 ·rw[rk q]at e;show .inr {ir q,e}
 ·subst q;rw[List.getElem?_concat_length]at e;show .inl {(),(j1 e).symm}
 ·rw[oi (by simp;lia)]at e;cases e
def iY(e:(c++[x])[j]?.map f=some o):(j=c.length/\o=f x)\/(j≠c.length/\c[j]?.map f=some o):=by
 obtain⟨y,h1,h2⟩:=Option.map_eq_some_iff.mp e;rcases oz h1 with⟨q,rfl⟩|⟨q,z⟩
 ·show .inl (q,h2.symm,)
 ·show .inr {q,by rw[z];show pa some h2}
section
variable{P:O7}{w:World}{K:O2}{a:fJ}{H H':Hp}{M:be}{Z:ZS}
theorem bA.newL(h:bA P w K a H M Z)(h1:H lo=none)(h2:H iu=none)(h3:H t=none)(h4:H od=none)(h5:H td=none)(D:od≠iu)(l:∀b o,H b=some o->b≠Z.G .ln->H' b=some o)(Q:H' (Z.G .ln)=some (.dK (gN (M.las.map bJ.nm) (λi=>.ref (Z.G (.lo i)))++[(.inr nm,.ref lo)])))(R:H' lo=some (.ins a.fc c [("slope",.int sl),("table",.ref t),("inside",.ref iu)]))(T:eP P w K a.bO H' t od td M.p [] [] [])(E:lo≠t)(W:H' iu=some (.dK [])):∃s,s.G .hh=Z.G .hh/\s.G .dl=Z.G .dl/\s.ds=Z.ds/\(∀j,s.tk j=(if j=M.las.length then[]else Z.tk j)/\s.ow j=(if j=M.las.length then[]else Z.ow j))/\s.cv=Z.cv/\bA P w K a H' {M with las:=M.las++[{nm,sl,AS.new,[]}]} s/\∀r,vP (M.las.length+1) M.trs.length r->H (s.G r)=none\/(s.G r=Z.G r/\vP M.las.length M.trs.length r):=by
 obtain⟨d,O⟩:=T.ins;have im:=h.imm (r:=.ln) () l;have F:(M.las.map bJ.nm).length=M.las.length:=b_ ..;have u:∀r o,cont P w a {M with las:=M.las++[{nm,sl,AS.new,[]}]} (Z.newL M.las.length lo iu t od td c d) r=some o->(H' ((Z.newL M.las.length lo iu t od td c d).G r)=some o/\(r=.lo M.las.length\/r=.iu M.las.length\/r=.tb M.las.length\/r=.od M.las.length\/r=.td M.las.length))\/((Z.newL M.las.length lo iu t od td c d).G r=Z.G r/\H' (Z.G r)=some o/\∃U,cont P w a M Z r=some U):=λr o e=>by
  cases r with|hh=>show .inr {(),l _ _ (h.at_ .hh _ e) λz=>(nomatch h.inj .hh .ln _ _ () () z),_,e}|tn=>show .inr {(),l _ _ (h.at_ .tn _ e) λz=>(nomatch h.inj .tn .ln _ _ () () z),_,e}|ci=>show .inr {(),l _ _ (h.at_ .ci _ e) λz=>(nomatch h.inj .ci .ln _ _ () () z),_,e}|dl=>show .inr {(),l _ _ (h.at_ .dl _ e) λz=>(nomatch h.inj .dl .ln _ _ () () z),_,e}|tr j=>show .inr {(),l _ _ (h.at_ (.tr j) _ e) λz=>(nomatch h.inj (.tr j) .ln _ _ e () z),_,e}|ba j=>show .inr {(),l _ _ (h.at_ (.ba j) _ e) λz=>(nomatch h.inj (.ba j) .ln _ _ e () z),_,e}|ln=>show .inr {(),?_,_,()};rw[Q,<-e];change _=some (HO.dK (gN ((M.las++[({nm,sl,AS.new,[]}:bJ)]).map bJ.nm) λi=>V.ref ((Z.newL M.las.length lo iu t od td c d).G (.lo i))));rw[gV,Nl,xx,F];have e1:(Z.newL M.las.length lo iu t od td c d).G (.lo M.las.length)=lo:=g6 ();rw[e1,qu (f:=λi=>V.ref ((Z.newL M.las.length lo iu t od td c d).G (.lo i))) (g:=λi=>V.ref (Z.G (.lo i)))];intro i hi;rw[F]at hi;have n:∀x:Nat->Ro,(∀i j,x i=x j->i=j)->x i≠x M.las.length:=λx I z=>ir hi (I _ _ z);change V.ref (if Ro.lo i=.lo M.las.length then lo else _)=_;rw[g_ (n Ro.lo λ_ _ z=>by injection z)];rfl|lo j=>
   rcases iY e with⟨rfl,rfl⟩|⟨q,e⟩
   ·show .inl {?_,.inl ()};have B:(Z.newL M.las.length lo iu t od td c d).G (.lo M.las.length)=lo:=g6 ();have X:(Z.newL M.las.length lo iu t od td c d).G (.tb M.las.length)=t:=by simp[ZS.newL]
    have y:(Z.newL M.las.length lo iu t od td c d).G (.iu M.las.length)=iu:=by simp[ZS.newL]
    have A:(Z.newL M.las.length lo iu t od td c d).dx (.lo M.las.length)=c:=g6 ();rw[B,X,y,A];show R
   ·have e:cont P w a M Z (.lo j)=some o:=by rw[<-e];simp[cont,ZS.newL,q]
    show .inr {by simp[ZS.newL,q],l _ _ (h.at_ (.lo j) _ e) λz=>(nomatch h.inj (.lo j) .ln _ _ e () z),_,e}|iu j=>
   rcases iY e with⟨rfl,rfl⟩|⟨q,e⟩
   ·show .inl {?_,.inr (.inl ())};have y:(Z.newL M.las.length lo iu t od td c d).G (.iu M.las.length)=iu:=by simp[ZS.newL]
    have A:(Z.newL M.las.length lo iu t od td c d).iv M.las.length=[]:=g6 ();rw[y,A];show W
   ·have e:cont P w a M Z (.iu j)=some o:=by rw[<-e];simp[cont,ZS.newL,q]
    show .inr {by simp[ZS.newL,q],l _ _ (h.at_ (.iu j) _ e) λz=>(nomatch h.inj (.iu j) .ln _ _ e () z),_,e}|tb j=>
   rcases iY e with⟨rfl,rfl⟩|⟨q,e⟩
   ·show .inl {?_,.inr (.inr (.inl ()))};have X:(Z.newL M.las.length lo iu t od td c d).G (.tb M.las.length)=t:=by simp[ZS.newL]
    have y:(Z.newL M.las.length lo iu t od td c d).G (.od M.las.length)=od:=by simp[ZS.newL]
    have g5:(Z.newL M.las.length lo iu t od td c d).G (.td M.las.length)=td:=by simp[ZS.newL]
    have A:(Z.newL M.las.length lo iu t od td c d).dx (.tb M.las.length)=d:=by simp[ZS.newL]
    rw[X,y,A,g5];show O
   ·have e:cont P w a M Z (.tb j)=some o:=by rw[<-e];simp[cont,ZS.newL,q]
    show .inr {by simp[ZS.newL,q],l _ _ (h.at_ (.tb j) _ e) λz=>(nomatch h.inj (.tb j) .ln _ _ e () z),_,e}|od j=>
   rcases iY e with⟨rfl,rfl⟩|⟨q,e⟩
   ·show .inl {?_,.inr (.inr (.inr (.inl ())))};have y:(Z.newL M.las.length lo iu t od td c d).G (.od M.las.length)=od:=by simp[ZS.newL]
    have A:(Z.newL M.las.length lo iu t od td c d).ow M.las.length=[]:=g6 ();rw[y,A];show T.own
   ·have e:cont P w a M Z (.od j)=some o:=by rw[<-e];simp[cont,ZS.newL,q]
    show .inr {by simp[ZS.newL,q],l _ _ (h.at_ (.od j) _ e) λz=>(nomatch h.inj (.od j) .ln _ _ e () z),_,e}|td j=>
   rcases iY e with⟨rfl,rfl⟩|⟨q,e⟩
   ·show .inl {?_,.inr (.inr (.inr (.inr ())))};have y:(Z.newL M.las.length lo iu t od td c d).G (.td M.las.length)=td:=by simp[ZS.newL]
    have A:(Z.newL M.las.length lo iu t od td c d).tk M.las.length=[]:=g6 ();rw[y,A];show T.tak
   ·have e:cont P w a M Z (.td j)=some o:=by rw[<-e];simp[cont,ZS.newL,q]
    show .inr {by simp[ZS.newL,q],l _ _ (h.at_ (.td j) _ e) λz=>(nomatch h.inj (.td j) .ln _ _ e () z),_,e}
 have gs:∀r,(r=.lo M.las.length\/r=.iu M.las.length\/r=.tb M.las.length\/r=.od M.las.length\/r=.td M.las.length)->H ((Z.newL M.las.length lo iu t od td c d).G r)=none:=λr Y=>by rcases Y with rfl|rfl|rfl|rfl|rfl<;>simp only[ZS.newL]<;>simp[h1,h2,h3,h4,h5]
 show{Z.newL M.las.length lo iu t od td c d,(),(),(),λj=>{(),()},(),{λr r' o U e e' g=>?_,λr o e=>?_,λj C e=>?_,h.trsI im.kp,λj C e=>?_,h.came.im im},λr Y=>?_}
 ·rcases u r o e with⟨q,n⟩|⟨B,q,x,J⟩<;>rcases u r' U e' with⟨q',n'⟩|⟨L,q',x',N⟩
  ·rw[g,q']at q;have q:=j1 q;rcases n with rfl|rfl|rfl|rfl|rfl<;>rcases n' with rfl|rfl|rfl|rfl|rfl<;>first|rfl|(exfalso;simp[ZS.newL]at g;first|show E g|show E g.symm|show D g|show D g.symm|(simp[cont]at e e';rw[<-e,<-e']at q;cases q))
  ·rw[L]at g;have:=h.at_ _ _ N;rw[<-g,gs r n]at this;cases this
  ·rw[B]at g;have:=h.at_ _ _ J;rw[g,gs r' n']at this;cases this
  ·rw[B,L]at g;show h.inj _ _ _ _ J N g
 ·rcases u r o e with⟨q,n⟩|⟨B,q,x,J⟩
  ·show q
  ·rw[B];show q
 ·rcases oz e with⟨rfl,rfl⟩|⟨n,q⟩
  ·change bT K H' (if M.las.length=M.las.length then[]else _) [];rw[g6 ()];show .nil
  ·change bT K H' (if j=M.las.length then[]else Z.iv j) C.ins;rw[g_ n];show(h.seats j C q).kp im.kp
 ·rcases oz e with⟨rfl,rfl⟩|⟨n,q⟩
  ·change eL K H' (if M.las.length=M.las.length then[]else _)/\(∃m,fA H' (if M.las.length=M.las.length then[]else _) m/\jh M.p AS.new (if M.las.length=M.las.length then[]else _) m)/\u8 (cZ K H') M.p AS.new (if M.las.length=M.las.length then[]else _)/\∀x∈(if M.las.length=M.las.length then[]else Z.tk _),x.2.2≠.ref (Z.G .dl);rw[g6 (),g6 ()];show{λx I=>(nomatch I),{[],.nil,λk=>(),λp _ _=>()},λp v _ _ z=>(nomatch z),λx I=>(nomatch I)}
  ·change eL K H' (if j=M.las.length then[]else Z.tk j)/\(∃m,fA H' (if j=M.las.length then[]else Z.tk j) m/\jh M.p C.S (if j=M.las.length then[]else Z.ow j) m)/\u8 (cZ K H') M.p C.S (if j=M.las.length then[]else Z.ow j)/\∀x∈(if j=M.las.length then[]else Z.tk j),x.2.2≠.ref (Z.G .dl);rw[g_ n,g_ n];show h.tabsI im j C q
 ·obtain⟨o,e⟩:=mD P w a (M:={M with las:=M.las++[{nm,sl,AS.new,[]}]}) (Z.newL M.las.length lo iu t od td c d) (r:=r) (by simpa using Y);rcases u r o e with⟨_,n⟩|⟨B,_,x,J⟩
  ·show .inl (gs r n)
  ·show .inr {B,qK J}
theorem bA.newT(h:bA P w K a H M Z){nm home:Str}{arms shuts:O8}{rule:Ru}{t ba dx ar sh:Addr}{ru:V}(h1:H t=none)(h2:H ba=none)(c:∀b o,H b=some o->b≠Z.G .tn->H' b=some o)(v:H' (Z.G .tn)=some (.dK (gN (M.trs.map dD.nm) (λi=>.ref (Z.G (.tr i)))++[(.inr nm,.ref t)])))(I:H' t=some (.ins a.fS dx [("home",.str home),("arms",.ref ar),("rule",ru),("shuts",.ref sh),("paused",.bl false),("closed",.bl false),("barred",.ref ba)]))(J:H' ba=some (.dK []))(L:aY K H ar (arms.map V.str))(N:fB K H rule ru)(Q:aY K H sh (shuts.map V.str)):∃d,d.G .hh=Z.G .hh/\d.G .dl=Z.G .dl/\d.ds=Z.ds/\d.tk=Z.tk/\d.ow=Z.ow/\d.cv=Z.cv/\bA P w K a H' {M with trs:=M.trs++[{nm,home,arms,rule,shuts,false,false,[]}]} d/\∀r,vP M.las.length (M.trs.length+1) r->H (d.G r)=none\/(d.G r=Z.G r/\vP M.las.length M.trs.length r):=by
 have im:=h.imm (r:=.tn) () c;have m:(M.trs.map dD.nm).length=M.trs.length:=b_ ..;have k:∀r o,cont P w a {M with trs:=M.trs++[{nm,home,arms,rule,shuts,false,false,[]}]} (Z.newT M.trs.length t ba dx ar ru sh) r=some o->(H' ((Z.newT M.trs.length t ba dx ar ru sh).G r)=some o/\(r=.tr M.trs.length\/r=.ba M.trs.length))\/((Z.newT M.trs.length t ba dx ar ru sh).G r=Z.G r/\H' (Z.G r)=some o/\∃y,cont P w a M Z r=some y):=λr o e=>by
  cases r with|tn=>show .inr {(),?_,_,()};rw[v,<-e];change _=some (HO.dK (gN ((M.trs++[({nm,home,arms,rule,shuts,false,false,[]}:dD)]).map dD.nm) λi=>V.ref ((Z.newT M.trs.length t ba dx ar ru sh).G (.tr i))));rw[gV,Nl,xx,m];have O:(Z.newT M.trs.length t ba dx ar ru sh).G (.tr M.trs.length)=t:=g6 ();rw[O,qu (f:=λi=>V.ref ((Z.newT M.trs.length t ba dx ar ru sh).G (.tr i))) (g:=λi=>V.ref (Z.G (.tr i)))];intro i hi;rw[m]at hi;change V.ref (if Ro.tr i=.tr M.trs.length then t else _)=_;rw[g_ λz=>ir hi (by injection z)];rfl|tr j=>
   rcases iY e with⟨rfl,rfl⟩|⟨q,e⟩
   ·show .inl {?_,.inl ()};have l:(Z.newT M.trs.length t ba dx ar ru sh).G (.tr M.trs.length)=t:=g6 ();have A:(Z.newT M.trs.length t ba dx ar ru sh).G (.ba M.trs.length)=ba:=by simp[ZS.newT]
    have R:(Z.newT M.trs.length t ba dx ar ru sh).dx (.tr M.trs.length)=dx:=g6 ();have S:(Z.newT M.trs.length t ba dx ar ru sh).ar M.trs.length=ar:=g6 ();have T:(Z.newT M.trs.length t ba dx ar ru sh).ru M.trs.length=ru:=g6 ();have U:(Z.newT M.trs.length t ba dx ar ru sh).sh M.trs.length=sh:=g6 ();rw[l,A,R,S,T,U];show I
   ·have e:cont P w a M Z (.tr j)=some o:=by rw[<-e];simp[cont,ZS.newT,q]
    show .inr {by simp[ZS.newT,q],c _ _ (h.at_ (.tr j) _ e) λz=>(nomatch h.inj (.tr j) .tn _ _ e () z),_,e}|ba j=>
   rcases iY e with⟨rfl,rfl⟩|⟨q,e⟩
   ·show .inl {?_,.inr ()};have A:(Z.newT M.trs.length t ba dx ar ru sh).G (.ba M.trs.length)=ba:=by simp[ZS.newT]
    rw[A];show J
   ·have e:cont P w a M Z (.ba j)=some o:=by rw[<-e];rfl
    show .inr {by simp[ZS.newT,q],c _ _ (h.at_ (.ba j) _ e) λz=>(nomatch h.inj (.ba j) .tn _ _ e () z),_,e}|hh=>show .inr {(),c _ _ (h.at_ .hh _ e) λz=>(nomatch h.inj .hh .tn _ _ () () z),_,e}|ln=>show .inr {(),c _ _ (h.at_ .ln _ e) λz=>(nomatch h.inj .ln .tn _ _ () () z),_,e}|ci=>show .inr {(),c _ _ (h.at_ .ci _ e) λz=>(nomatch h.inj .ci .tn _ _ () () z),_,e}|dl=>show .inr {(),c _ _ (h.at_ .dl _ e) λz=>(nomatch h.inj .dl .tn _ _ () () z),_,e}|lo j=>show .inr {(),c _ _ (h.at_ (.lo j) _ e) λz=>(nomatch h.inj (.lo j) .tn _ _ e () z),_,e}|iu j=>show .inr {(),c _ _ (h.at_ (.iu j) _ e) λz=>(nomatch h.inj (.iu j) .tn _ _ e () z),_,e}|tb j=>show .inr {(),c _ _ (h.at_ (.tb j) _ e) λz=>(nomatch h.inj (.tb j) .tn _ _ e () z),_,e}|od j=>show .inr {(),c _ _ (h.at_ (.od j) _ e) λz=>(nomatch h.inj (.od j) .tn _ _ e () z),_,e}|td j=>show .inr {(),c _ _ (h.at_ (.td j) _ e) λz=>(nomatch h.inj (.td j) .tn _ _ e () z),_,e}
 have gs:∀r,(r=.tr M.trs.length\/r=.ba M.trs.length)->H ((Z.newT M.trs.length t ba dx ar ru sh).G r)=none:=λr B=>by rcases B with rfl|rfl<;>simp only[ZS.newT]<;>simp[h1,h2]
 show{Z.newT M.trs.length t ba dx ar ru sh,(),(),(),(),(),(),{λr D o y e C g=>?_,λr o e=>?_,λj W e=>(h.seats j W e).kp im.kp,λj X e=>?_,h.tabsI im,h.came.im im},λr B=>?_}
 ·rcases k r o e with⟨q,n⟩|⟨l,q,x,p⟩<;>rcases k D y C with⟨E,F⟩|⟨s,E,Y,u⟩
  ·rw[g,E]at q;have q:=j1 q;rcases n with rfl|rfl<;>rcases F with rfl|rfl<;>first|rfl|(exfalso;simp[cont]at e C;rw[<-e,<-C]at q;cases q)
  ·rw[s]at g;have:=h.at_ _ _ u;rw[<-g,gs r n]at this;cases this
  ·rw[l]at g;have:=h.at_ _ _ p;rw[g,gs D F]at this;cases this
  ·rw[l,s]at g;show h.inj _ _ _ _ p u g
 ·rcases k r o e with⟨q,n⟩|⟨l,q,x,p⟩
  ·show q
  ·rw[l];show q
 ·rcases oz e with⟨rfl,rfl⟩|⟨n,q⟩
  ·change aY K H' (if M.trs.length=M.trs.length then ar else _) (arms.map V.str)/\fB K H' rule (if M.trs.length=M.trs.length then ru else _)/\aY K H' (if M.trs.length=M.trs.length then sh else _) (shuts.map V.str);rw[g6 (),g6 (),g6 ()];show{im.kp.tq L,N.kp im.kp,im.kp.tq Q}
  ·change aY K H' (if j=M.trs.length then ar else Z.ar j) _/\fB K H' _ (if j=M.trs.length then ru else Z.ru j)/\aY K H' (if j=M.trs.length then sh else Z.sh j) _;rw[g_ n,g_ n,g_ n];show h.trsI im.kp j X q
 ·obtain⟨o,e⟩:=mD P w a (M:={M with trs:=M.trs++[{nm,home,arms,rule,shuts,false,false,[]}]}) (Z.newT M.trs.length t ba dx ar ru sh) (r:=r) (by simpa using B);rcases k r o e with⟨_,n⟩|⟨l,_,x,p⟩
  ·show .inl (gs r n)
  ·show .inr {l,qK p}
end
def ib(M:be)(Z:ZS)(b:Addr):Prop:=(∃r,vP M.las.length M.trs.length r/\b=Z.G r)\/(∃i,i<M.las.length/\∃x∈Z.tk i,x.2.2=.ref b)\/∃x∈Z.cv,x.2=.ref b
def fA.outs(n:∀x∈tk,∀l c,x.2.2=.ref l->H l=some (.lst c)->H' l=some (.lst c))(h:fA H tk m):fA H' tk m:=Paired.mapM h λx b _ q=>{q.1,q.2.1,q.2.2.imp λ_ q=>{q.1,n x b _ _ q.1 q.2}}
def eM.outs(e:Kp H H')(n:∀x∈cv,∀l c,x.2=.ref l->H l=some (.lst c)->H' l=some (.lst c))(h:eM K H dl cv cm):eM K H' dl cv cm:=Paired.mapM h λx b _ q=>{q.1,q.2.imp λ_ q=>q.imp λ_ q=>{q.1,q.2.1,n x b _ _ q.1 q.2.2.1,q.2.2.2.kp e}}
def bA.out(h:bA P w K a H M Z)(n:¬ib M Z o)(kp:Kp H H')(f:∀b ob,H b=some ob->b≠o->H' b=some ob):bA P w K a H' M Z:={h.inj,λr ob e=>f _ _ (h.at_ r ob e) λz=>n (.inl {r,qK e,z.symm}),λi l d=>(h.seats i l d).kp kp,h.trsI kp,λi l d=>let⟨h1,⟨m,h2,h3⟩,h4,k⟩:=h.tabs i l d;{λx c=>eU kp (h1 x c),{m,h2.outs λx c l p g j=>f _ _ j λz=>n (.inr (.inl {i,(d_.mp d).1,x,c,by rw[g,z]})),h3},h4.mono λ_ _ q=>eU kp q,k},h.came.outs kp λx c l p g j=>f _ _ j λz=>n (.inr (.inr {x,c,by rw[g,z]}))}
def lX{a b:Addr}{o:HO}(h:aH H a o b=none):H b=none:=by
 by_cases e:b=a
 ·rw[e,ae]at h;cases h
 ·rw[ak e]at h;show h
structure gr(H:Hp)(M:be)(Z:ZS)(H':Hp)(M':be)(Z':ZS):Prop where
 hh:Z'.G .hh=Z.G .hh
 fr:∀b o,H b=some o->¬ib M Z b->H' b=some o
 fp:∀b,ib M' Z' b->ib M Z b\/H b=none
 dm:∀b,H' b=none->H b=none
 dd:Z'.G .dl=Z.G .dl
section
variable{H j d f:Hp}{M M1 M2 c:be}{Z g m a:ZS}
def gr.of(s:am H f):gr H M Z f M Z:={(),λb o h _=>s b o h,λ_ h=>.inl h,λ_ h=>s.free h,()}
theorem gr.trans(s:gr H M Z j M1 g)(t:gr j M1 g d M2 m):gr H M Z d M2 m:={t.hh.trans s.hh,λb o h n=>t.fr b o (s.fr b o h n) λq=>(s.fp b q).elim n λz=>(by rw[h]at z;cases z),λb q=>(t.fp b q).elim (s.fp b) λz=>.inr (s.dm b z),λb z=>s.dm b (t.dm b z),t.dd.trans s.dd}
def gr.put(s:vP M.las.length M.trs.length r)(p:a.G=Z.G)(h1:c.las.length=M.las.length)(h2:c.trs.length=M.trs.length)(h3:a.tk=Z.tk)(h4:∀x∈a.cv,x∈Z.cv\/∃l,x.2=.ref l/\(ib M Z l\/H l=none)):gr H M Z (aH H (Z.G r) o) c a:={by rw[p],λb o h n=>(by rw[ak λz=>n (.inl (r,s,z,))];show h),λb q=>by
  rcases q with⟨t,h,e⟩|⟨i,hi,x,k,e⟩|⟨x,k,e⟩
  ·show .inl (.inl {t,by rw[<-h1,<-h2];show h,by rw[e,p]})
  ·show .inl (.inr (.inl {i,by rw[<-h1];show hi,x,by rw[<-h3];show k,e}))
  ·rcases h4 x k with q|⟨l,u,q⟩
   ·show .inl (.inr (.inr (x,q,e,)))
   ·rw[u]at e;cases e;show q,λb z=>lX z,by rw[p]}
end
def gr.out{o:Addr}{x:HO}{H c:Hp}{M M1:be}{Z d:ZS}(s:gr H M Z c M1 d)(n:H o=none):gr H M Z (aH c o x) M1 d:={s.hh,λb e h q=>(by rw[ak (az h n)];show s.fr b e h q),s.fp,λb z=>s.dm b (lX z),s.dd}
theorem fA.ex(h:fA H tk m)(x:gt)(c:x∈tk):∃l d,x.2.2=.ref l/\H l=some (.lst d):=(Paired.ex h x c).elim λ_ q=>q.2.2.imp λ_ q=>{_,q}
theorem eM.ex(h:eM K H dl cv cm)(x:bY×V)(c:x∈cv):∃l d,x.2=.ref l/\H l=some (.lst d):=(Paired.ex h x c).elim λ_ q=>q.2.imp λ_ q=>q.imp λ_ q=>(q.1,q.2.2.1,)
def bA.foot(h:bA P w K a H M Z)(c:H b=none):¬ib M Z b:=λz=>by
 rcases z with⟨r,j,e⟩|⟨i,hi,x,d,e⟩|⟨x,d,e⟩
 ·obtain⟨o,q⟩:=mD P w a Z j;rw[e,h.at_ r o q]at c;cases c
 ·obtain⟨_,⟨m,q,_⟩,_⟩:=h.tabs i _ (ga hi);obtain⟨l,k,f,g⟩:=q.ex x d;rw[f]at e;cases e;rw[g]at c;cases c
 ·obtain⟨l,k,f,g⟩:=h.came.ex x d;rw[f]at e;cases e;rw[g]at c;cases c
structure FG(M:be)(c:Nat)(l:bJ):Prop where
 wd:Wd l.nm
 sl:0<=l.sl/\l.sl<=M.p
 ok:l.S.Ok M.p
 len:l.ins.length<=c
 gs:∀x∈l.ins,w6 x.1
 nd:(l.ins.map (·.1)).Nodup
 own:∀k q,q∈l.S.pl k->k=cB "" ""\/∃t∈M.trs,t.home=l.nm/\∃y∈t.arms,k=cB t.nm y
structure HD(M:be)(t:dD):Prop where
 wd:Wd t.nm
 hm:t.home∈M.las.map bJ.nm
 a1:1<=t.arms.length
 a4:t.arms.length<=4
 nd:t.arms.Nodup
 aw:∀x∈t.arms,Wd x
 hg:t.rule.hgt<=6
 s8:t.shuts.length<=8
structure jN(M:be)(c:Nat):Prop where
 p:2<=M.p/\M.p<=997
 ln:(M.las.map bJ.nm).Nodup
 tn:(M.trs.map dD.nm).Nodup
 la:∀l∈M.las,FG M c l
 tr:∀t∈M.trs,HD M t
 cm:∀x∈M.came,x.2.length<=10*c
 l4:M.las.length<=4
 tc:M.trs.length<=10
 cl:M.came.length<=10*c
 br:∀t∈M.trs,t.bar.length<=c
structure bP(P:O7)(w:World)(K:O2)(a:fJ)(H:Hp)(M:be)(Z:ZS)(c:Nat):Prop where
 g:bA P w K a H M Z
 ok:jN M c
 tk:∀i,(Z.tk i).length<=10*c
 ow:∀i,(Z.ow i).length<=5000*c
 ds:Z.ds.length<=c
def FG.mono(h:FG M c l)(hc:c<=d):FG M d l:={h with len:=iA h.len hc}
theorem jN.mono(h:jN M c)(hc:c<=d):jN M d:={h with la:=λl b=>(h.la l b).mono hc,cm:=λx e=>iA (h.cm x e) (NJ _ hc),cl:=iA h.cl (NJ _ hc),br:=λt f=>iA (h.br t f) hc}
theorem bP.mono(h:bP P w K a H M Z c)(hc:c<=d):bP P w K a H M Z d:={h.g,h.ok.mono hc,λi=>iA (h.tk i) (NJ _ hc),λi=>iA (h.ow i) (NJ _ hc),iA h.ds hc}
theorem bP.same(h:bP P w K a H M Z c)(e:am H H'):bP P w K a H' M Z c:={h with g:=h.g.same e}
section
variable{P:O7}{w:World}{K:O2}{a:fJ}{H:Hp}{M:be}{Z:ZS}{c:Nat}
def bA.house(h:bA P w K a H M Z):H (Z.G .hh)=some (.ins a.bo (Z.dx .hh) [("own_prime",.int M.p),("own_salt",.int M.salt),("layer_named",.ref (Z.G .ln)),("trial_named",.ref (Z.G .tn)),("came_into",.ref (Z.G .ci)),("deeds",.ref (Z.G .dl))]):=h.at_ .hh _ ()
def bA.lays(h:bA P w K a H M Z):H (Z.G .ln)=some (.dK (gN (M.las.map bJ.nm) λi=>.ref (Z.G (.lo i)))):=h.at_ .ln _ ()
def bA.tris(h:bA P w K a H M Z):H (Z.G .tn)=some (.dK (gN (M.trs.map dD.nm) λi=>.ref (Z.G (.tr i)))):=h.at_ .tn _ ()
def bA.cams(h:bA P w K a H M Z):H (Z.G .ci)=some (.dK Z.cv):=h.at_ .ci _ ()
def bA.dees(h:bA P w K a H M Z):H (Z.G .dl)=some (.lst Z.ds):=h.at_ .dl _ ()
def bA.layer(h:bA P w K a H M Z)(e:M.las[i]?=some l):H (Z.G (.lo i))=some (.ins a.fc (Z.dx (.lo i)) [("slope",.int l.sl),("table",.ref (Z.G (.tb i))),("inside",.ref (Z.G (.iu i)))]):=h.at_ (.lo i) _ (by simp only[cont,e];rfl)
def bA.inside(h:bA P w K a H M Z)(e:M.las[i]?=some l):H (Z.G (.iu i))=some (.dK (Z.iv i)):=h.at_ (.iu i) _ (by simp only[cont,e];rfl)
def bA.trial(h:bA P w K a H M Z)(e:M.trs[i]?=some t):H (Z.G (.tr i))=some (.ins a.fS (Z.dx (.tr i)) [("home",.str t.home),("arms",.ref (Z.ar i)),("rule",Z.ru i),("shuts",.ref (Z.sh i)),("paused",.bl t.pau),("closed",.bl t.clo),("barred",.ref (Z.G (.ba i)))]):=h.at_ (.tr i) _ (by simp only[cont,e];rfl)
def bA.barred(h:bA P w K a H M Z)(e:M.trs[i]?=some t):H (Z.G (.ba i))=some (.dK (t.bar.map λg=>(.inr g,.bl true))):=h.at_ (.ba i) _ (by simp only[cont,e];rfl)
def jN.lget(h:jN M c)(e:M.las[i]?=some l):bf (gN (M.las.map bJ.nm) λi=>.ref (Z.G (.lo i))) (.inr l.nm)=some (.ref (Z.G (.lo i))):=sK h.ln (by rw[ge,e];rfl)
def jN.tget(h:jN M c)(e:M.trs[i]?=some t):bf (gN (M.trs.map dD.nm) λi=>.ref (Z.G (.tr i))) (.inr t.nm)=some (.ref (Z.G (.tr i))):=sK h.tn (by rw[ge,e];rfl)
theorem jN.home(h:jN M c)(f:t∈M.trs):∃(i:Nat)(l:bJ),M.las[i]?=some l/\l.nm=t.home:=by obtain⟨l,b,e⟩:=ji.mp (h.tr t f).hm;obtain⟨i,hi⟩:=ig.mp b;show(i,l,hi,e,)
end
section
variable{K:O2}{H:Hp}
def bT.find(h:bT K H iv ins)(hn:(ins.map (·.1)).Nodup):∀x∈ins,∃s,bf iv (.inr x.1)=some (.ref s)/\aY K H s [.str x.2.1,.str x.2.2]:=by induction h with|nil=>showλx b=>(nomatch b)|@cons _ y _ _ h _ c=>
  intro x b;obtain⟨h1,s,h2,h3⟩:=h;rw[lm,OY]at hn;rcases q_.mp b with rfl|b
  ·show{s,by rw[cb h1,h2],h3}
  ·obtain⟨d,f,g⟩:=c hn.2 x b;show{d,?_,g};rw[bu,f];intro e;rw[h1]at e;show hn.1 (by rw[show y.1=x.1 from pu e];show ji.mpr {x,b,()})
theorem bT.none(h:bT K H iv ins)(hn:g∉ins.map (·.1)):bf iv (.inr g)=Option.none:=by induction h with|nil=>rfl|@cons _ y _ _ h _ b=>
  rw[lm]at hn;rw[bu]
  ·show b λz=>hn (il _ z)
  ·intro e;rw[h.1]at e;show hn (by rw[show y.1=g from pu e];show i_)
def bT.drop(g:Str)(h:bT K H iv ins):bT K H (dR iv (.inr g)) (ins.filter λx=>decide (x.1≠g)):=by induction h with|nil=>show .nil|@cons x y _ _ h _ b=>
  by_cases e:y.1=g
  ·rw[wN (by rw[h.1,e]),Oe (by simp[e])];show b
  ·rw[wO (λz=>e (by rw[h.1]at z;show pu z)),Od (by simp[e])];show .cons h b
end
def dG(ins:List (Str×Str×Str))(gs:O8):List (Str×Str×Str):=ins.filter λx=>decide (x.1∉gs)
def kT(ins:List (Str×Str×Str)):dG ins []=ins:=List.filter_eq_self.mpr λ_ _=>by simp
def rB(ins:List (Str×Str×Str))(gs:O8)(g:Str):dG ins (gs++[g])=(dG ins gs).filter λx=>decide (x.1≠g):=by
 unfold dG;rw[List.filter_filter];show List.filter_congr λx _=>?_
 by_cases h1:x.1∈gs<;>by_cases h2:x.1=g<;>simp[h1,h2]
def AB(h:g∈ins.map (·.1))(hn:g∉gs):∃x∈dG ins gs,x.1=g:=by obtain⟨x,b,rfl⟩:=ji.mp h;show{x,wh.mpr {b,by simpa using hn},()}
def wG(h:(ins.map (·.1)).Nodup):((dG ins gs).map (·.1)).Nodup:=(List.Sublist.map _ List.filter_sublist).nodup h
abbrev be.setL(M:be)(i:Nat)(l:bJ):be:={M with las:=M.las.set i l}
def my{M:be}{i:Nat}{l:bJ}(c:M.las[i]?=some l):M.setL i l=M:=by
 have e:M.las.set i l=M.las:=vl λj=>by
  rw[N1]
  split
  ·rename_i q;subst q;rw[g6 (d_.mp c).1,c]
  ·rfl
 unfold be.setL;rw[e]
def tm{M:be}{i:Nat}{l c:bJ}:(M.setL i l).setL i c=M.setL i c:=by unfold be.setL;rw[List.set_set]
def yr{M:be}{i:Nat}{l l':bJ}(c:M.las[i]?=some l):(M.setL i l').las[i]?=some l':=by change(M.las.set i l')[i]?=_;rw[x_ (d_.mp c).1]
theorem jN.setL{M:be}{c d:Nat}(h:jN M c){i:Nat}{l e:bJ}(g:M.las[i]?=some l)(h1:e.nm=l.nm)(hc:c<=d)(ok:FG M d e):jN (M.setL i e) d:=by
 have b:(M.las.set i e).map bJ.nm=M.las.map bJ.nm:=eE g bJ.nm h1;have h:=h.mono hc;show{h with ln:=by rw[b];show h.ln,la:=λx j=>?_,tr:=λt f=>{h.tr t f with hm:=by change t.home∈(M.las.set i e).map bJ.nm;rw[b];show(h.tr t f).hm},l4:=by change(M.las.set i e).length<=4;rw[wr];show h.l4};rcases NS j with q|rfl
 ·show{h.la x q with}
 ·show{ok with}
inductive Lg(P:O7)(w:World)(K:O2)(a:fJ)(vs:List V)(H:Hp)(Q:VK)(_E:XK):Prop|mk(M:be)(Z:ZS)(c i:Nat)(l:bJ)(g:Addr)(gs:O8)(_:vs=[.ref (Z.G .hh),.ref (Z.G (.lo i)),.ref g])(_:bP P w K a H M Z c)(_:M.las[i]?=some l)(_:H g=some (.lst (gs.map V.str)))(_:(∀x∈gs,x∈l.ins.map (·.1)))(_:gs.Nodup)(_:gs.length<=63)(_:∀(r:Addr)(us:List V)(Z':ZS)(H':Hp),gr H M Z H' (M.setL i {l with ins:=dG l.ins gs}) Z'->bP P w K a H' (M.setL i {l with ins:=dG l.ins gs}) Z' c->H r=none->H' r=some (.lst us)->Z'.ds=Z.ds->Q (.ref r) H')
inductive JO(P:O7)(w:World)(K:O2)(a:fJ)(H:Hp)(M:be)(Z:ZS)(i:Nat)(l:bJ)(g:Addr)(gs:O8)(o:Addr)(k:Nat)(σ:St)(H':Hp):Prop|mk(Z':ZS)(us:Pb)(v4 v5:Option V)(hG:bA P w K a H' (M.setL i {l with ins:=dG l.ins (gs.take k)}) Z')(eG:Z'.G=Z.G)(etk:Z'.tk=Z.tk)(eow:Z'.ow=Z.ow)(eds:Z'.ds=Z.ds)(ecv:Z'.cv=Z.cv)(nf:¬ib (M.setL i {l with ins:=dG l.ins (gs.take k)}) Z' o)(st:gr H M Z H' (M.setL i {l with ins:=dG l.ins (gs.take k)}) Z')(hg:H' g=some (.lst (gs.map V.str)))(ho:H' o=some (.lst (us.map V.ref)))(hul:us.length=k)(hus:∀u∈us,∃x y z,aY K H' u [.str x,.str y,.str z])(e:σ=[some (.ref (Z.G .hh)),some (.ref (Z.G (.lo i))),some (.ref g),some (.ref o),v4,v5]):JO P w K a H M Z i l g gs o k σ H'
section
def kg(T:Txt K mg a):aP P w K mg base cP 1 a.cw.x a.cw.d ["self","layer","guests"] (Lg P w K a):=by
 show T.cw.ok fi λbt A outer s H vs Q E hr h=>?_
 ·obtain⟨M,Z,c,i,l,g,gs,rfl,hZ,hl,hg,a7,a8,bo,q⟩:=h;show{_,(ag (bp 3 fi.nd (bj O)) (ag (dN mo () (cL K () (Y 2)) (qo 4 fi.nd) (ag (bp 5 fi.nd (yL (aC K () (Y 1)) (Y 4) {(),(),(),()})) (ah (aM (fF K () PySem.F.plainAttrs_list PySem.F.slot_list_append PySem.F.type_list_append cF (Y 3) (ac (aA (uh K ()) (bx (ac (Y 4) O)) (Y 5)) O)))))) (ah (ay (aB (AJ K ()) (by rfl) T.uy L2.mj (ac (Y 3) O)))))),?_}
  show{ls (),λo ho=>au ?_};show gS ho λH1 s1 a9=>?_;have hL:=hZ.ok.la l (f_ hl);have ba:¬ib M Z o:=hZ.g.foot ho;have bb:(gs.map V.str).length=gs.length:=b_ ..;show U () {g,(),{_,aS.of (s1 _ _ hg)},?_};show gc (xs:=gs.map V.str) (JO P w K a H M Z i l g gs o) {Z,[],_,_,by rw[t4,kT];show(my hl).symm▸hZ.g.same s1,(),(),(),(),(),by rw[t4,kT];show(my hl).symm▸ba,by rw[t4,kT];show(my hl).symm▸gr.of s1,s1 _ _ hg,a9,(),λu hu=>(nomatch hu),()} (λk σ H' _ h=>by obtain⟨_,_,_,_,_,_,_,_,_,_,_,_,h,_⟩:=h;show aS.of h) ?_ ?_
  ·rintro k v σ H2 hv⟨f,us,v4,v5,m,eG,ad,al,D,as,W,p,an,C,I,t,rfl⟩N R B hN;rw[ge]at hv;obtain⟨x,X,rfl⟩:=Option.map_eq_some_iff.mp hv;have hk:k<gs.length:=(d_.mp X).1;have aa:=bK X;have bc:x∉gs.take k:=λz=>by have:=a8;rw[<-ro k gs,m3]at this;show this.2.2 x z x (f_ (by rw[OE,Nat.add_zero];show X)) ()
   have bi:¬ib (M.setL i {l with ins:=dG l.ins (gs.take k)}) f o:=λz=>(W z);obtain⟨y,hy,ey⟩:=AB (a7 x (f_ X)) bc;have n:=yr (l':={l with ins:=dG l.ins (gs.take k)}) hl;have ax:=m.seats i _ n;obtain⟨s,a2,J⟩:=ax.find (wG hL.nd) y hy;rw[ey]at a2;show au (fI (by rw[<-eG];show m.layer n) T.bB T.bH () () {f.G (.iu i),(),.inl {_,.inl (m.inside n)},U () {_,.inr x,_,m.inside n,(),a2,au ?_}});have L:=m.setIns n (ax.drop x);have im:=m.imm (r:=.iu i) (by simp only[cont,n];rfl) (cK (o':=.dK (dR (f.iv i) (.inr x))));have S:gr H2 _ f (aH H2 (f.G (.iu i)) (.dK (dR (f.iv i) (.inr x)))) ((M.setL i {l with ins:=dG l.ins (gs.take k)}).setL i {l with ins:=(dG l.ins (gs.take k)).filter λz=>decide (z.1≠x)}) {f with iv:=λj=>if j=i then dR (f.iv i) (.inr x)else f.iv j}:=gr.put (show i<_ from(d_.mp n).1) () (wr ..) () () λx X=>.inl X;have a3:=cK (x:=f.G (.iu i)) (o':=.dK (dR (f.iv i) (.inr x))) _ _ an λz=>by have e:=m.inside n;rw[<-z,an]at e;cases e
   have ap:=cK (x:=f.G (.iu i)) (o':=.dK (dR (f.iv i) (.inr x))) _ _ C λz=>by have e:=m.inside n;rw[<-z,C]at e;cases e
   rw[tm,<-rB,<-aa]at S;have L:bA P w K a (aH H2 (f.G (.iu i)) (.dK (dR (f.iv i) (.inr x)))) (M.setL i {l with ins:=dG l.ins (gs.take (k+1))}) {f with iv:=λj=>if j=i then dR (f.iv i) (.inr x)else f.iv j}:=by rw[aa,rB,<-tm (l:={l with ins:=dG l.ins (gs.take k)})];show L
   have J:=im.kp.tq J;have t:∀u∈us,∃x1 y1 z1,aY K (aH H2 (f.G (.iu i)) (.dK (dR (f.iv i) (.inr x)))) u [.str x1,.str y1,.str z1]:=λu hu=>let⟨x1,y1,z1,h⟩:=t u hu;{x1,y1,z1,im.kp.tq h};generalize aH H2 (f.G (.iu i)) (.dK (dR (f.iv i) (.inr x)))=H3 at L S a3 ap J t⊢;show U () {.inl {(),_,aS.of ap},U () {ls (),λT1 a5=>(U () {T1,s,[.str x],U () {(),aY.of ae,am.tseq (aj (am.refl _) a5) J,by simp,by rw[g8];simp,λz=>(nomatch z),λ_ T2 bl=>?_}})}};have s5:=aj (o:=.tup ([.str x]++[.str y.2.1,.str y.2.2])) (aj (o:=.tup [.str x]) (am.refl H3) a5) bl;have e5:aH (aH H3 T1 (.tup [.str x])) T2 (.tup ([.str x]++[.str y.2.1,.str y.2.2])) T2=some (.tup [.str x,.str y.2.1,.str y.2.2]):=ae;generalize aH (aH H3 T1 (.tup [.str x])) T2 (.tup ([.str x]++[.str y.2.1,.str y.2.2]))=H5 at s5 e5⊢;have a6:=s5 _ _ ap;show rA a6 (by rw[b_,I,g8];lia) ?_;have kp:Kp H5 (aH H5 o (.lst (us.map V.ref++[.ref T2]))):=.lst a6;have nF:¬ib (M.setL i {l with ins:=dG l.ins (gs.take (k+1))}) {f with iv:=λj=>if j=i then dR (f.iv i) (.inr x)else f.iv j} o:=λz=>by
    rcases S.fp o z with q|q
    ·show bi q
    ·rw[C]at q;cases q
   have kq:∀b ob,H5 b=some ob->b≠o->aH H5 o (.lst (us.map V.ref++[.ref T2])) b=some ob:=cK;show hN _ _ {{f with iv:=λj=>if j=i then dR (f.iv i) (.inr x)else f.iv j},us++[T2],_,_,(L.same s5).out nF kp kq,eG,ad,al,D,as,nF,((p.trans S).trans (gr.of s5)).out ho,?_,?_,by rw[hQ,I];rfl,λu hu=>?_,()}
   ·show kq _ _ (s5 _ _ a3) λz=>by rw[z,ho]at hg;cases hg
   ·rw[ae,gV];rfl
   ·rcases List.mem_append.mp hu with z|z
    ·obtain⟨x1,y1,z1,h⟩:=t u z;show{x1,y1,z1,kp.tq (am.tseq s5 h)}
    ·rw[List.mem_singleton.mp z];show{_,_,_,kp.tq (aY.of e5)}
  ·rintro σ H2⟨f,us,v4,v5,m,eG,ad,al,D,as,W,p,an,C,I,t,rfl⟩;rw[bb]at I m p;rw[hF (e_ _)]at m p;show U () {o,us,(),aS.of C,by lia,t,λr vs hr hp=>?_};have s6:=aj (o:=.lst (vs.map V.ref)) (am.refl H2) hr;show q r (vs.map V.ref) f _ (p.trans (gr.of s6)) {m.same s6,?_,λj=>by rw[ad];show hZ.tk j,λj=>by rw[al];show hZ.ow j,by rw[D];show hZ.ds} (p.dm _ hr) ae D;show hZ.ok.setL hl () (e_ _) {hL with len:=iA (tx _ _) hL.len,gs:=λx X=>hL.gs x (wh.mp X).1,nd:=wG hL.nd}
end
def Ko.kp(e:Kp H H')(h:Ko K H c W):Ko K H' c W:=Paired.mapP h λ_ _ q=>q.imp λ_ q=>q.imp λ_ q=>{q.1,e.tq q.2.1,eU e q.2.2}
def pZ(x:Str)(arms:O8)(l:Pc):Wl:=(arms.zip l).map λp=>(cB x p.1,p.2)
def FO(h:l.length=arms.length):(pZ x arms l).length=arms.length:=by unfold pZ;rw[b_,List.length_zip,h,Nat.min_self]
def Iw{x:Str}{arms:O8}{l:Pc}{i:Nat}{y:Str}{z:Int}(h1:arms[i]?=some y)(h2:l[i]?=some z):(pZ x arms l)[i]?=some (cB x y,z):=by unfold pZ;rw[ge,List.getElem?_zip_eq_some (z:=(y,z))|>.mpr (h1,h2,)];rfl
theorem sO:∀{arms:O8}{l:Pc},l.length=arms.length->(pZ x arms l).map (·.1)=arms.map (cB x)|[],_,_=>()|y::r,[],h=>nomatch h|y::r,z::l,h=>by change cB x y::(pZ x r l).map (·.1)=cB x y::r.map (cB x);rw[sO (by simpa using h)]
def om(h:cB x y=cB z u):x=z/\y=u:=by have h:=pu h;rw[List.cons.injEq,List.cons.injEq]at h;show{pu h.1,pu h.2.1}
def Iv(h:l.length=arms.length)(hn:arms.Nodup):((pZ x arms l).map (·.1)).Nodup:=by rw[sO h,G_,List.pairwise_map];show(G_.mp hn).imp λh e=>h (om e).2
def Iu(h:∀i∈l,0<=i):∀y∈pZ x arms l,0<=y.2:=λy b=>by obtain⟨p,c,rfl⟩:=ji.mp b;show h _ (NH c).2
def EU{S:AS}{j k:cj}{n:Nat}{q:Int}(h:q∈(S.give j n).pl k):q∈S.pl k:=by
 have h:q∈(if k=j then(S.pl j).take n else S.pl k):=h
 split at h
 ·rename_i e;rw[e];show NC h
 ·show h
theorem ma:∀{W:Wl}{S:AS}{k:cj}{q:Int},q∈(cG S W).pl k->q∈S.pl k|[],_,_,_,h=>h|x::r,_,_,_,h=>EU (ma (W:=r) h)
theorem lE:∀{W:Wl}{S:AS}{k:cj}{q:Int},q∈(dw n S W).pl k->q∈S.pl k\/k∈W.map (·.1)
 |[],_,_,_,h=>.inl h|x::r,S,k,q,h=>by
  rcases lE (W:=r) h with h|h
  ·have h:q∈(if k=x.1 then S.pl x.1++_ else S.pl k):=h
   split at h
   ·rename_i e;show .inr (by rw[lm,e];show i_)
   ·show .inl h
  ·show .inr (il _ h)
section
variable{P:O7}{w:World}{K:O2}{a:fJ}{H d:Hp}{M:be}{Z:ZS}{c:Nat}
theorem bP.told(h:bP P w K a H M Z c)(A:M.las[i]?=some l)(o:mw (Z.G (.od i)) (Z.G (.td i)) H d)(C:eP P w K a.bO d (Z.G (.tb i)) (Z.G (.od i)) (Z.G (.td i)) M.p f s L)(N:jh M.p v f L)(Q:u8 (cZ K H) M.p v f)(I:fD H (Z.tk i) s)(b1:s.length<=(Z.tk i).length+10)(b2:f.length<=(Z.ow i).length+5000)(hok:v.Ok M.p)(own:∀k q,q∈v.pl k->(∃D,D∈l.S.pl k)\/k=cB "" ""\/∃t∈M.trs,t.home=l.nm/\∃y∈t.arms,k=cB t.nm y):∃B,bP P w K a d (M.setL i {l with S:=v}) B (c+1)/\gr H M Z d (M.setL i {l with S:=v}) B/\B.ds=Z.ds/\B.G=Z.G:=by
 have J:=h.ok.la l (f_ A);obtain⟨m,U,_⟩:=h.g.tab A;have len:(M.setL i {l with S:=v}).las.length=M.las.length:=wr ..;show{_,{h.g.told A o C N Q I,h.ok.setL A () (p_ c) {J.mono (p_ c)with ok:=hok,own:=λk q O=>?_},λj=>?_,λj=>?_,sD h.ds},{(),λb ob e n=>?_,λb q=>?_,λb z=>pG o (by rw[C.own];simp) (by rw[C.tak];simp) z,()},(),()}
 ·rcases own k q O with⟨D,h1⟩|h1
  ·show J.own k D h1
  ·show h1
 ·change(if j=i then s else Z.tk j).length<=_;have:=h.tk j
  split
  ·rename_i e;subst e;lia
  ·lia
 ·change(if j=i then f else Z.ow j).length<=_;have:=h.ow j
  split
  ·rename_i e;subst e;lia
  ·lia
 ·have hi:=(d_.mp A).1;show o b ob e (λz=>n (.inl {.od i,hi,z})) (λz=>n (.inl {.td i,hi,z}))
 ·rcases q with⟨r,R,e⟩|⟨j,E,x,u,e⟩|⟨x,u,e⟩
  ·show .inl (.inl {r,by rw[<-len];show R,e})
  ·rw[len]at E
   replace u:x∈(if j=i then s else Z.tk j):=u
   by_cases q:j=i
   ·rw[g6 q]at u;subst q;rcases I x u with⟨y,T,F⟩|⟨V,F,hn⟩
    ·show .inl (.inr (.inl {j,E,y,T,by rw[F,e]}))
    ·rw[F]at e;cases e;show .inr hn
   ·rw[g_ q]at u;show .inl (.inr (.inl (j,E,x,u,e,)))
  ·show .inl (.inr (.inr (x,u,e,)))
end
def bT.get(h:bT K H iv ins)(k:Nat)(x:bY×V)(e:iv[k]?=some x):∃y,ins[k]?=some y/\x.1=.inr y.1:=(Paired.at_ h k x e).imp λ_ q=>(q.1,q.2.1,)
def bT.len(h:bT K H iv ins):iv.length=ins.length:=Paired.length h
def Bs{z:Int}{l:Pc}:nX (.int z) (l.map V.int)=decide (z∈l):=by
 by_cases h:z∈l
 ·rw[j2 h];unfold nX;rw[Oh];show{.int z,ji.mpr {z,h,()},by change(z==z)=true;show rf z}
 ·rw[j_ h];unfold nX;rw[OK];intro v b e;obtain⟨y,c,rfl⟩:=ji.mp b;have e:(y==z)=true:=e;show h (by rw[<-eq_of_beq e];show c)
theorem nW:∀l:List Int,(l.map V.int).all mf=true|[]=>()|w::r=>by rw[lm,Nx,nW r];rfl
def J5(M:be)(l:bJ)(c:Pc):List Str:=(l.ins.map (·.1)).filter λg=>decide (nO M.p M.salt l.sl g∈c)
def tf(M:be)(l:bJ)(t:dD)(ns:Pc):AS:=dw M.p (cG l.S (pZ t.nm t.arms ns)) (pZ t.nm t.arms ns)
def nG(M:be)(i:Nat)(l:bJ)(t:dD)(ns:Pc):be:=M.setL i {l with S:=tf M l t ns,ins:=dG l.ins (J5 M l (dL l.S (pZ t.nm t.arms ns)))}
inductive F5(P:O7)(w:World)(K:O2)(a:fJ)(vs:List V)(H:Hp)(Q:VK)(E:XK):Prop|mk(M:be)(Z:ZS)(c i j:Nat)(l:bJ)(t:dD)(nv:Addr)(ns:Pc)(_:vs=[.ref (Z.G .hh),.str t.nm,.ref nv])(_:bP P w K a H M Z c)(_:c<=63)(_:M.trs[j]?=some t)(_:M.las[i]?=some l)(_:l.nm=t.home)(_:(aS K H nv (ns.map V.int)\/aY K H nv (ns.map V.int)))(_:ns.length=t.arms.length)(_:(∀x∈ns,0<=x))(_:(gO l.S (pZ t.nm t.arms ns)<=((mM M.p l.S.oc).length:Int)->∀(r:Addr)(us:List V)(Z':ZS)(H':Hp),gr H M Z H' (nG M i l t ns) Z'->bP P w K a H' (nG M i l t ns) Z' (c+1)->H r=none->H' r=some (.lst us)->Z'.ds=Z.ds->Q (.ref r) H'))(_:(((mM M.p l.S.oc).length:Int)<gO l.S (pZ t.nm t.arms ns)->∀H',am H H'->E (.ref a.kX) none H'))
section
def gz(T:Txt K mg a):aP P w K mg base (vS P w) 4 a.bG.x a.bG.d ["self","name","numbers"] (F5 P w K a):=by
 show T.bG.okE dy λed A outer s H vs Q E hr h=>?_
 ·obtain⟨M,Z,c,i,j,l,t,nv,ns,rfl,u,hc,hj,hl,hh,c0,ad,c1,q,qe⟩:=h;show{_,(ag (bp 3 dy.nd (cM (bZ hr) (aC K () (Y 0)) (Y 1) (λ_ _=>()))) (ag (ua (i:=4) dy.nd () (.inr ()) (cM (bZ hr) (aC K () (Y 0)) (aC K () (Y 3)) (λ_ _=>()))) (ag (ua (i:=5) dy.nd () (.inr ()) (aU (aC K () (Y 4)) T.bn T.d8.m ((nq (P:=P) (w:=w) T).mono (by decide)) hr T.d8.b .nil iz (ac (sB cU ["arm","number"] [] [7,8] (ai fj) (qH _ 7 8) (GC K () () T.LD (ac (aC K () (Y 3)) (ac (Y 2) O))) (λcl C s₀ H₀ ex=>{(ft K () () (bh (lB cU ["arm","number"] 7) (bh (lB cU ["arm","number"] 8) fq))),bQ,(bx (ac (bx (ac (Y 1) (ac (Y 7) O))) (ac (Y 8) O)))})) O))) (ag (Ab (P:=P) (w:=w) (Ff 6 cU ["guest"] [] [7] (ai fj) (b0 7) (GF (P:=P) (w:=w) (aC K () (Y 4))) (λcl C s₀ H₀ ex=>{(lB cU ["guest"] 7),(pj (aD (nQ K ()) (aU (Y 0) T.ao T.bF.m ((gy (P:=P) (w:=w) T).mono (by decide)) hr T.bF.b .nil aQ (ac (Y 4) (ac (Y 7) O))) (Y 5) (by with_unfolding_all rfl))),(Y 7)}) dy.nd)) (ah (ay (aU (Y 0) T.ao T.cw.m ((kg (P:=P) (w:=w) T).mono (by decide)) hr T.cw.b .nil aQ (ac (Y 4) (ac (Y 6) O))))))))),?_}
  have a8:=f_ hj;have hT:=u.ok.tr t a8;have hL:=u.ok.la l (f_ hl);have hI:=u.g.house;have a9:=u.g.trial hj;obtain⟨ba,-,-⟩:=u.g.trs j t hj;have bb:=u.ok.lget (Z:=Z) hl;rw[hh]at bb;show fI hI T.ao T.aJ () () (U () (rG (.ref (Z.G (.tr j))) (by rw[<-u.ok.tget (Z:=Z) hj];show dn.k (k:=.inr t.nm) u.g.tris) (au ?_)));show fI hI T.ao T.aK () () (fI a9 T.aZ T.eF () () (rG (.ref (Z.G (.lo i))) (by rw[<-bb];show dn.k (k:=.inr t.home) u.g.lays) (au ?_)));obtain⟨m,bc,ef⟩:=u.g.tab hl;obtain⟨eh,c2⟩:=bc.ins;show fI (u.g.layer hl) T.bB T.dQ () () (rM c2 () ?_);show fI a9 T.aZ T.fN () () (U () {Z.ar j,nv,t.arms.map V.str,ns.map V.int,(),ba,?_});have ei:(pZ t.nm t.arms ns).length=t.arms.length:=FO ad;have ej:=hT.a4;show CF (K:=K) (a:=Z.ar j) (l:=nv) (xs:=t.arms.map V.str) (ys:=ns.map V.int) (λD k f H'=>am H H'/\H' D=some (.lst f)/\Ko K H' f ((pZ t.nm t.arms ns).take k)) c0 (λD hD=>{aj (am.refl _) hD,ae,.nil}) (by rw[b_,b_,ad]) (λD k f H' h=>{am.tseq h.1 ba,h.1}) ?_ ?_
  ·rintro D k x1 x2 f H2 T1 hD a2 bi⟨s2,a3,L⟩c3;have hi:k<(t.arms.map V.str).length:=(d_.mp a2).1;rw[ge]at a2 bi;obtain⟨ya,c4,rfl⟩:=Option.map_eq_some_iff.mp a2;obtain⟨z2,da,rfl⟩:=Option.map_eq_some_iff.mp bi;show gS c3 λJ s3 a5=>?_;show{T1,U () {aY.of a5,(),_,U () (au {_,U () (au {(),iG (bI ?_)})})}};show U () (U () {ls (),λB dc=>(U () {ls (),λT5 bl=>?_})});have s5:=aj (o:=.tup [.ref B,.int z2]) (aj (o:=.tup [.str t.nm,.str ya]) s3 dc) bl;have e5:aH (aH J B (.tup [.str t.nm,.str ya])) T5 (.tup [.ref B,.int z2]) T5=some (.tup [.ref B,.int z2]):=ae;have e4:aH (aH J B (.tup [.str t.nm,.str ya])) T5 (.tup [.ref B,.int z2]) B=some (.tup [.str t.nm,.str ya]):=by rw[ak (az ae bl)];show ae
   have ek:f.length<=4:=by have:=Paired.length L;rw[k4]at this;lia
   change aH (aH J B (.tup [.str t.nm,.str ya])) T5 (.tup [.ref B,.int z2]) D=some (.lst f)/\_;generalize aH (aH J B (.tup [.str t.nm,.str ya])) T5 (.tup [.ref B,.int z2])=H5 at s5 e4 e5⊢;have N:=s5 _ _ a3;have kp:Kp H5 (aH H5 D (.lst (f++[.ref T5]))):=.lst N;show{N,by rw[g8];lia,lf hi {bv (s2.trans s5) hD,ae,?_}};rw[bK (Iw c4 da)];show Paired.snoc ((L.kp (.of s5)).kp kp) {T5,.ref B,(),kp.tq (aY.of e5),B,(),kp.tq (aY.of e4)}
  ·rintro D f H2 hD⟨s2,a3,L⟩;rw[b_,hF (by lia)]at L;have a6:=u.same s2;obtain⟨m2,a7,bo⟩:=a6.g.tab hl;have el:=u.tk i;have en:=u.ow i;have hp:=u.ok.p;show{Z.G (.tb i),Z.G (.od i),Z.G (.td i),D,M.p,Z.ow i,Z.tk i,m2,l.S,pZ t.nm t.arms ns,f,(),a7,bo,(a6.g.tabs i l hl).2.2.1,hL.ok,a3,L,Iu c1,Iv ad hT.nd,by lia,by lia,by lia,by lia,λdi lb eo er m' J off a5 dv dT ev R nw nl b1 b2=>au ?_,λdV J s3=>qe dV J (s2.trans s3)};obtain⟨Z3,v,d1,d4,eG⟩:=a6.told hl off a5 dv dT nw b1 b2 (kF _ (i9 _ hL.ok)) λk x hx=>by
    rcases lE hx with h|h
    ·show .inl {x,ma h}
    ·rw[sO ad]at h;obtain⟨y,hy,rfl⟩:=ji.mp h;show .inr (.inr {t,a8,hh.symm,y,hy,()})
   have an:=yr (l':={l with S:=tf M l t ns}) hl;have v:bP P w K a J (M.setL i {l with S:=tf M l t ns}) Z3 (c+1):=v;have bt:=v.g.seats i _ an;have W:=v.g.layer an;have F:=v.g.house;have I:=v.g.inside an;rw[eG]at F W I;show fI W T.bB T.bH () () {Z.G (.iu i),U () {I,λep=>λDg ap=>?_}};have nd:Z.G (.iu i)≠Dg:=λz=>by rw[<-z,ae]at ap;cases ap
   have ax:J Dg=none:=by rw[ak (nn nd)]at ap;show ap
   have ew:(l.ins.map (·.1)).length=(Z3.iv i).length:=by rw[b_];show bt.len.symm
   have ez:=hL.len;show pS (n:=(Z3.iv i).length) (λk f H2=>(∀b o,J b=some o->b≠Z.G (.iu i)->H2 b=some o)/\H2 (Z.G (.iu i))=some (dE P w (Z.G (.iu i)) (Z3.iv i) ep)/\H2 Dg=some (.lst f)/\f=(((l.ins.map (·.1)).take k).filter λg=>decide (nO M.p M.salt l.sl g∈dL l.S (pZ t.nm t.arms ns))).map V.str) {λb o e n=>by rw[ak (az e ax),ak n];show e,by rw[ak nd,ae],ae,()} (λk f H2 hk h=>(h.2.1,hk,)) ?_ ?_
   ·rintro k f H4 x H5 hk⟨f4,X,aa,rfl⟩⟨rfl,hx⟩;obtain⟨p0,d5,rfl⟩:=Option.map_eq_some_iff.mp hx;obtain⟨y,hy,ey⟩:=bt.get k p0 d5;have d9:=hL.gs y (f_ hy);rw[ey];have bz:Z.G .hh≠Z.G (.iu i):=λz=>by rw[z,I]at F;cases F
    have ea:Z.G (.lo i)≠Z.G (.iu i):=λz=>by rw[z,I]at W;cases W
    have eb:lb≠Z.G (.iu i):=λz=>by rw[z,I]at R;cases R
    have eH:=hL.sl;show au (iN (f4 _ _ F bz) () () (U () (U () {Z.G .hh,Z.G (.lo i),_,_,_,_,M.p,M.salt,l.sl,y.1,(),f4 _ _ F bz,(),(),f4 _ _ W ea,(),d9,{by lia,by lia},{by lia,by lia},λH6 s6=>?_})));show U () {lb,U () {.inl (aS.of (s6 _ _ (f4 _ _ R eb))),(),nW _,U () ?_}};have bO:(l.ins.map (·.1)).take (k+1)=(l.ins.map (·.1)).take k++[y.1]:=bK (by rw[ge,hy];rfl);have al:((((l.ins.map (·.1)).take k).filter λg=>decide (nO M.p M.salt l.sl g∈dL l.S (pZ t.nm t.arms ns))).map V.str).length<=63:=by rw[b_];show iA (tx _ _) ?_;rw[k4,b_];lia
    change if(if false=true then _ else nX (.int (nO M.p M.salt l.sl y.1)) _)=true then _ else _
    rw[g_ iq,Bs];have f6:∀b o,J b=some o->b≠Z.G (.iu i)->H6 b=some o:=λb o e n=>s6 _ _ (f4 b o e n)
    by_cases as:nO M.p M.salt l.sl y.1∈dL l.S (pZ t.nm t.arms ns)
    ·rw[j2 as];show bI (U () {s6 _ _ aa,by rw[g8];lia,lf hk {λb o e n=>by rw[ak (az e ax)];show f6 b o e n,by rw[ak nd];show s6 _ _ X,ae,?_}});rw[bO,NQ,gV,Od (by simpa using as)];rfl
    ·rw[j_ as];show cu (lf hk {f6,s6 _ _ X,by rw[s6 _ _ aa],?_});rw[bO,NQ,gV,Oe (by simpa using as)];show(nB _).symm
   ·rintro f H4⟨f4,X,aa,rfl⟩;show{{X,e_ _},au {Z.G (.iu i),_,ep,X,?_}};rw[hF (by lia)]at aa;have s4:am J (aH H4 (Z.G (.iu i)) (.dK (Z3.iv i))):=λb o e=>by
     by_cases z:b=Z.G (.iu i)
     ·rw[z,I]at e;rw[z,ae];show e
     ·rw[ak z];show f4 b o e z
    have N:aH H4 (Z.G (.iu i)) (.dK (Z3.iv i)) Dg=some (.lst ((J5 M l (dL l.S (pZ t.nm t.arms ns))).map V.str)):=by rw[ak (nn nd)];show aa
    generalize aH H4 (Z.G (.iu i)) (.dK (Z3.iv i))=H5 at s4 N⊢;show iN (s4 _ _ F) () () (U () (U () {M.setL i {l with S:=tf M l t ns},Z3,c+1,i,_,Dg,J5 M l (dL l.S (pZ t.nm t.arms ns)),by rw[eG];rfl,v.same s4,an,N,λx hx=>(wh.mp hx).1,List.filter_sublist.nodup hL.nd,?_,λr us Z6 H6 b8 b9 hr ec cc=>?_}))
    ·show iA (tx _ _) ?_;rw[b_];lia
    ·rw[tm]at b8 b9;have ci:gr H M Z H5 (M.setL i {l with S:=tf M l t ns}) Z3:=((gr.of s2).trans d1).trans (gr.of s4);show q di r us Z6 H6 (ci.trans b8) b9 (ci.dm _ hr) ec (cc.trans d4)
end
abbrev be.setT(M:be)(j:Nat)(t:dD):be:={M with trs:=M.trs.set j t}
def jU{M:be}{i:Nat}{t t':dD}(c:M.trs[i]?=some t):(M.setT i t').trs[i]?=some t':=by change(M.trs.set i t')[i]?=_;rw[x_ (d_.mp c).1]
section
variable{P:O7}{w:World}{K:O2}{a:fJ}{H:Hp}{M:be}{Z:ZS}{c:Nat}
theorem jN.setT(h:jN M c){j:Nat}{t f:dD}(g:M.trs[j]?=some t)(h1:f.nm=t.nm)(h2:f.home=t.home)(h3:f.arms=t.arms)(h4:f.rule=t.rule)(p:f.shuts=t.shuts)(r:f.bar.length<=c):jN (M.setT j f) c:=by
 have s:(M.trs.set j f).map dD.nm=M.trs.map dD.nm:=eE g dD.nm h1;show{h with tn:=by rw[s];show h.tn,la:=λl u=>?_,tr:=λx b=>?_,tc:=by change(M.trs.set j f).length<=10;rw[wr];show h.tc,br:=λx b=>?_}
 ·have q:=h.la l u;show{q with own:=λk z v=>?_};rcases q.own k z v with e|⟨x,b,m,y,n,o⟩
  ·show .inl e
  ·obtain⟨i,hi⟩:=ig.mp b
   by_cases e:i=j
   ·subst e;rw[g]at hi;cases hi;show .inr {f,f_ (jU g),by rw[h2];show m,y,by rw[h3];show n,by rw[h1];show o}
   ·show .inr {x,f_ (i:=i) (by rw[pv λz=>e z.symm];show hi),m,y,n,o}
 ·rcases NS b with q|rfl
  ·show{h.tr x q with}
  ·have q:=h.tr t (f_ g);show{by rw[h1];show q.wd,by rw[h2];show q.hm,by rw[h3];show q.a1,by rw[h3];show q.a4,by rw[h3];show q.nd,by rw[h3];show q.aw,by rw[h4];show q.hg,by rw[p];show q.s8}
 ·rcases NS b with q|rfl
  ·show h.br x q
  ·show r
theorem bP.setTr(h:bP P w K a H M Z c)(e:M.trs[j]?=some t)(h1:t'.nm=t.nm)(h0:t'.home=t.home)(h2:t'.arms=t.arms)(h3:t'.rule=t.rule)(h4:t'.shuts=t.shuts)(i:t'.bar.length<=c)(f:(r0=.tr j/\t'.bar=t.bar)\/(r0=.ba j/\t'.home=t.home/\t'.pau=t.pau/\t'.clo=t.clo))(l:cont P w a (M.setT j t') Z r0=some o'):bP P w K a (aH H (Z.G r0) o') (M.setT j t') Z c/\gr H M Z (aH H (Z.G r0) o') (M.setT j t') Z:=by show{{h.g.setTr e h1 h2 h3 h4 f l,h.ok.setT e h1 h0 h2 h3 h4 i,h.tk,h.ow,h.ds},gr.put ?_ () () (wr ..) () λx b=>.inl b};have hi:=(d_.mp e).1;rcases f with⟨rfl,_⟩|⟨rfl,_⟩<;>show hi
end
theorem ww{S:AS}:∀{W:Wl},(∀x∈W,x.2=0)->gO S W<=0|[],_=>OV _|x::r,h=>by rw[An,h x i_];have:=ww (S:=S) (W:=r) λy b=>h y (il _ b);lia
def kU:cj:=cB "" ""
def EO(M:be)(i:Nat)(l:bJ)(z:Int):be:=M.setL i {l with S:=dw M.p (cG l.S [(kU,z)]) [(kU,z)]}
def ox(t:dD):List Int:=List.replicate t.arms.length 0
inductive IW(P:O7)(w:World)(K:O2)(a:fJ)(vs:List V)(H:Hp)(Q:VK)(E:XK):Prop|mk(M:be)(Z:ZS)(c i:Nat)(l:bJ)(z:Int)(_:vs=[.ref (Z.G .hh),.str l.nm,.int z])(_:bP P w K a H M Z c)(_:c<=63)(_:M.las[i]?=some l)(_:0<=z)(_:(gO l.S [(kU,z)]<=((mM M.p l.S.oc).length:Int)->∀(r:Addr)(Z':ZS)(H':Hp),gr H M Z H' (EO M i l z) Z'->bP P w K a H' (EO M i l z) Z' (c+1)->H r=none->H' r=some (.lst [])->Z'.ds=Z.ds->Q (.ref r) H'))(_:(((mM M.p l.S.oc).length:Int)<gO l.S [(kU,z)]->∀H',am H H'->E (.ref a.kX) none H'))
inductive Gb(P:O7)(w:World)(K:O2)(a:fJ)(vs:List V)(H:Hp)(Q:VK)(E:XK):Prop|mk(M:be)(Z:ZS)(c j:Nat)(t:dD)(b:Bool)(_:vs=[.ref (Z.G .hh),.str t.nm,.bl b])(_:bP P w K a H M Z c)(_:M.trs[j]?=some t)(_:∀(r:Addr)(H':Hp),gr H M Z H' (M.setT j {t with pau:=b}) Z->bP P w K a H' (M.setT j {t with pau:=b}) Z c->H r=none->H' r=some (.lst [])->Q (.ref r) H')
inductive Gk(P:O7)(w:World)(K:O2)(a:fJ)(vs:List V)(H:Hp)(Q:VK)(E:XK):Prop|mk(M:be)(Z:ZS)(c i j:Nat)(l:bJ)(t:dD)(_:vs=[.ref (Z.G .hh),.str t.nm])(_:bP P w K a H M Z c)(_:c<=63)(_:M.trs[j]?=some t)(_:M.las[i]?=some l)(_:l.nm=t.home)(_:∀(r:Addr)(us:List V)(Z':ZS)(H':Hp),gr H M Z H' (nG (M.setT j {t with clo:=true}) i l {t with clo:=true} (ox t)) Z'->bP P w K a H' (nG (M.setT j {t with clo:=true}) i l {t with clo:=true} (ox t)) Z' (c+1)->H r=none->H' r=some (.lst us)->Z'.ds=Z.ds->Q (.ref r) H')
section
def qt(T:Txt K mg a):aP P w K mg base (vS P w) 4 a.dI.x a.dI.d ["self","name","number"] (IW P w K a):=by
 show T.dI.okE qk λas A outer s H vs Q E u h=>?_
 ·obtain⟨M,Z,c,i,l,z,rfl,f,hc,j,hz,q,qe⟩:=h;show{_,(ag (aM (aU (aC K () (cM (bZ u) (aC K () (Y 0)) (Y 1) (λ_ _=>()))) T.bn T.d8.m ((nq (P:=P) (w:=w) T).mono (by decide)) u T.d8.b .nil iz (ac (bj (ac (bx (ac (cx (v:=.ref a.u4) {_,T.Ey,()} ()) (ac (Y 2) O))) O)) O))) (ah (ay (bj O)))),?_}
  have hL:=f.ok.la l (f_ j);obtain⟨m,y,ax⟩:=f.g.tab j;obtain⟨a2,I⟩:=y.ins;show fI f.g.house T.ao T.aK () () (U () (rG (.ref (Z.G (.lo i))) (by rw[<-f.ok.lget (Z:=Z) j];show dn.k (k:=.inr l.nm) f.g.lays) ?_));show rF (f.g.layer j) T.bB T.dQ () (rM I () ?_);show U () {ls (),λe J=>{ls (),λD hD=>?_}};have F:=aj (o:=.lst [.ref e]) (aj (o:=.tup [.ref a.u4,.int z]) (am.refl H) J) hD;have e5:aH (aH H e (.tup [.ref a.u4,.int z])) D (.lst [.ref e]) D=some (.lst [.ref e]):=ae;have e4:aH (aH H e (.tup [.ref a.u4,.int z])) D (.lst [.ref e]) e=some (.tup [.ref a.u4,.int z]):=by rw[ak (az ae hD)];show ae
  generalize aH (aH H e (.tup [.ref a.u4,.int z])) D (.lst [.ref e])=H2 at F e4 e5⊢;have n:=f.same F;obtain⟨m2,t,B⟩:=n.g.tab j;have a3:=f.tk i;have a5:=f.ow i;have hp:=f.ok.p;show{Z.G (.tb i),Z.G (.od i),Z.G (.td i),D,M.p,Z.ow i,Z.tk i,m2,l.S,[(kU,z)],[.ref e],(),t,B,(n.g.tabs i l j).2.2.1,hL.ok,e5,.cons {e,.ref a.u4,(),aY.of e4,a.u4,(),T.Bo.sq _} .nil,λx L=>by rw[List.mem_singleton.mp L];show hz,by simp,by simp,by lia,by lia,by lia,λN lb a6 a7 m' R off V W X a8 ap nw nl b1 b2=>?_,λaa R s3=>qe aa R (F.trans s3)};obtain⟨Z3,ad,al,an,eG⟩:=n.told j off V W X nw b1 b2 (kF _ (i9 _ hL.ok)) λk x L=>by
   rcases lE L with h|h
   ·show .inl {x,ma h}
   ·show .inr (.inl (List.mem_singleton.mp h))
  show{ls (),λr u=>?_};have s4:=aj (o:=.lst []) (am.refl R) u;have C:=(gr.of F).trans al;show q N r Z3 _ (C.trans (gr.of s4)) (ad.same s4) (C.dm _ u) ae an
def jy(T:Txt K mg a):aP P w K mg base cP 1 a.ck.x a.ck.d ["self","name","paused"] (Gb P w K a):=by
 show T.ck.ok jo λu A outer s H v Q E l h=>?_
 ·obtain⟨M,Z,c,j,t,b,rfl,e,f,q⟩:=h;show{_,(ag (bp 3 jo.nd (cM (bZ l) (aC K () (Y 0)) (Y 1) (λ_ _=>()))) (ag (cr K () (Y 3) (Y 2)) (ah (ay (bj O))))),?_}
  have m:=e.g.trial f;show fI e.g.house T.ao T.aJ () () (U () (rG (.ref (Z.G (.tr j))) (by rw[<-e.ok.tget (Z:=Z) f];show dn.k (k:=.inr t.nm) e.g.tris) (au ?_)));show U () (U () {Z.G (.tr j),_,_,U () {m,T.aZ,T.iI,by simp,?_}});obtain⟨n,i⟩:=e.setTr (t':={t with pau:=b}) (r0:=.tr j) f () () () () () (e.ok.br t (f_ f)) (.inl {(),()}) (by simp only[cont,jU f];rfl);show{ls (),λr l=>?_};have p:=aj (o:=.lst []) (am.refl _) l;show q r _ (i.trans (gr.of p)) (n.same p) (i.dm _ l) ae
def pF(T:Txt K mg a):aP P w K mg base (vS P w) 5 a.db.x a.db.d ["self","name"] (Gk P w K a):=by
 show T.db.okE jp λas A outer s H vs Q E z h=>?_
 ·obtain⟨M,Z,c,i,j,l,t,rfl,f,hc,n,hl,hh,q⟩:=h;show{_,(ag (bp 2 jp.nd (cM (bZ z) (aC K () (Y 0)) (Y 1) (λ_ _=>()))) (ag (cr K () (Y 2) iB) (ah (ay (aU (Y 0) T.ao T.bG.m ((gz (P:=P) (w:=w) T).mono (by decide)) z T.bG.b .nil iz (ac (Y 1) (ac (aA D0 (bj (ac af O)) (aB (aI K ()) (by rfl) T.bE L2.aL (ac (aC K () (Y 2)) O))) O))))))),?_}
  have B:=f.g.trial n;show fI f.g.house T.ao T.aJ () () (U () (rG (.ref (Z.G (.tr j))) (by rw[<-f.ok.tget (Z:=Z) n];show dn.k (k:=.inr t.nm) f.g.tris) (au ?_)));show U () {Z.G (.tr j),_,_,U () {B,T.aZ,T.eC,by simp,?_}};have u:=jU (t':={t with clo:=true}) n;obtain⟨e,C⟩:=f.setTr (t':={t with clo:=true}) (r0:=.tr j) n () () () () () (f.ok.br t (f_ n)) (.inl {(),()}) (by simp only[cont,jU n];rfl);have D:=e.g.house;have F:=e.g.trial u;obtain⟨v,-,-⟩:=e.g.trs j _ u;show iN D () () (U () {ls (),λI J=>?_});have L:=aj (o:=.lst [.int 0]) (am.refl _) J;have e2:aH (aH H (Z.G (.tr j)) (.ins a.fS (Z.dx (.tr j)) [("home",.str t.home),("arms",.ref (Z.ar j)),("rule",Z.ru j),("shuts",.ref (Z.sh j)),("paused",.bl t.pau),("closed",.bl true),("barred",.ref (Z.G (.ba j)))])) I (.lst [.int 0]) I=some (.lst [.int 0]):=ae;show fI (L _ _ F) T.aZ T.fN () () {_,t.arms.length,(),.inr {_,am.tseq L v,by simp},I,_,U () {(),e2,by lia,by have:=(f.ok.tr t (f_ n)).a4;lia,dg (by have:=(f.ok.tr t (f_ n)).a4;simp;lia),λg hg=>?_}};have N:=aj (o:=.lst (List.replicate (t.arms.length:Int).toNat [V.int 0]).flatten) L hg;have e0:(List.replicate (t.arms.length:Int).toNat [V.int 0]).flatten=(ox t).map V.int:=by
   unfold ox;rw[ot,List.map_replicate];generalize t.arms.length=j
   induction j with|zero=>rfl|succ j ih=>rw[rl,E2,ih,rl];rfl
  rw[e0]at N⊢;have R:∀x∈pZ t.nm t.arms (ox t),x.2=0:=λx W=>by obtain⟨p,hp,rfl⟩:=ji.mp W;show List.eq_of_mem_replicate (NH hp).2
  have X:=ww (S:=l.S) R;show{M.setT j {t with clo:=true},Z,c,i,j,l,{t with clo:=true},g,ox t,(),e.same N,hc,u,hl,hh,.inl (aS.of ae),Nq,λx W=>by rw[List.eq_of_mem_replicate W];show OV _,λax r us Z' H4 aa ad z al an=>?_,λap=>absurd X (by change¬gO l.S (pZ t.nm t.arms (ox t))<=0;have:gO l.S (pZ t.nm t.arms (ox t))>_:=ap;lia)};have y:=C.trans (gr.of N);show q r us Z' H4 (y.trans aa) ad (y.dm _ z) al an
end
def gZ(bs:O8)(g:Str):List Str:=if g∈bs then bs else bs++[g]
def DT(bs:O8)(g:Str):fk (bs.map λg=>((.inr g:bY),V.bl true)) (.inr g) (.bl true)=(gZ bs g).map λg=>((.inr g:bY),V.bl true):=by
 unfold gZ
 by_cases h:g∈bs
 ·rw[g6 h];unfold fk;rw[g6 (by rw[List.any_map,Oh];show{g,h,by simp}),qr];show w_ λx _=>?_;change(if((.inr x:bY))=.inr g then((.inr x:bY),V.bl true)else _)=_
  split<;>rfl
 ·rw[g_ h,pi,gV]
  ·rfl
  ·have:∀cs:List Str,g∉cs->bf (cs.map λg=>((.inr g:bY),V.bl true)) (.inr g)=none:=by
    intro cs
    induction cs with|nil=>intro _;rfl|cons x r b=>intro hn;rw[lm,bu λe=>hn (by rw[<-pu e];show i_)];show b λz=>hn (il _ z)
   show this bs h
theorem Ed:∀{l:List d},(l.map f).Nodup->∀x∈l,∀y∈l,f x=f y->x=y
 |[],_,x,b,_,_,_=>nomatch b|z::r,h,x,b,y,c,e=>by
  rw[lm,OY]at h;rcases q_.mp b with q|q<;>rcases q_.mp c with p|p
  ·rw[q,p]
  ·show absurd (ji.mpr {y,p,by rw[<-e,q]}) h.1
  ·show absurd (ji.mpr {x,q,by rw[e,p]}) h.1
  ·show Ed h.2 x q y p e
def zF(l:bJ)(t:dD)(g:Str):List Str:=if∃x∈l.ins,x.1=g/\x.2.1=t.nm then[g]else[]
def AO(M:be)(i j:Nat)(l:bJ)(t:dD)(g:Str):be:=(M.setT j {t with bar:=gZ t.bar g}).setL i {l with ins:=dG l.ins (zF l t g)}
inductive Lm(P:O7)(w:World)(K:O2)(a:fJ)(vs:List V)(H:Hp)(Q:VK)(E:XK):Prop|mk(M:be)(Z:ZS)(c i j:Nat)(l:bJ)(t:dD)(g:Str)(_:vs=[.ref (Z.G .hh),.str g,.str t.nm])(_:bP P w K a H M Z c)(_:c<=63)(_:M.trs[j]?=some t)(_:M.las[i]?=some l)(_:l.nm=t.home)(_:w6 g)(_:∀(r:Addr)(us:List V)(Z':ZS)(H':Hp),gr H M Z H' (AO M i j l t g) Z'->bP P w K a H' (AO M i j l t g) Z' (c+1)->H r=none->H' r=some (.lst us)->Z'.ds=Z.ds->Q (.ref r) H')
section
def sk(T:Txt K mg a):aP P w K mg base cP 2 a.eA.x a.eA.d ["self","guest","name"] (Lm P w K a):=by
 show T.eA.ok iH λa2 A outer s H vs Q E n h=>?_
 ·obtain⟨M,Z,c,i,j,l,t,g,rfl,p,hc,B,C,hh,hg,q⟩:=h;show{_,(ag (bp 3 iH.nd (cM (bZ n) (aC K () (Y 0)) (Y 2) (λ_ _=>()))) (ag (bp 4 iH.nd (cM (bZ n) (aC K () (Y 0)) (aC K () (Y 3)) (λ_ _=>()))) (ag (kO iB (kP (aC K () (Y 3)) (Y 1) (qi (bZ n)))) (ag (aN (PW.pt (qm (nN (Ag (bZ n) (Y 1) (aC K () (Y 4))) ()) (mB (aD aX (dJ K (cM (bZ n) (aC K () (Y 4)) (Y 1) (λ_ _=>())) af) (Y 2) (aG _))))) (ah (ay (aU (Y 0) T.ao T.cw.m ((kg (P:=P) (w:=w) T).mono (by decide)) n T.cw.b .nil aQ (ac (Y 4) (ac (bj (ac (Y 1) O)) O))))) aE) (ah (ay (bj O))))))),?_}
  have ad:=f_ B;have hL:=p.ok.la l (f_ C);have D:=p.g.trial B;have F:=p.ok.lget (Z:=Z) C;rw[hh]at F;show fI p.g.house T.ao T.aJ () () (U () (rG (.ref (Z.G (.tr j))) (by rw[<-p.ok.tget (Z:=Z) B];show dn.k (k:=.inr t.nm) p.g.tris) (au ?_)));show fI p.g.house T.ao T.aK () () (fI D T.aZ T.eF () () (rG (.ref (Z.G (.lo i))) (by rw[<-F];show dn.k (k:=.inr t.home) p.g.lays) (au ?_)));have I:=p.ok.br t ad;show fI D T.aZ T.iJ () () (U () {Z.G (.ba j),_,.inr g,(),(),p.g.barred B,by rw[b_,g8];lia,?_});rw[DT];have a3:=jU (t':={t with bar:=gZ t.bar g}) B;obtain⟨f,v⟩:=(p.mono (p_ c)).setTr (t':={t with bar:=gZ t.bar g}) (r0:=.ba j) (o':=.dK ((gZ t.bar g).map λg=>((.inr g:bY),V.bl true))) B () () () () () (by change(gZ t.bar g).length<=c+1;unfold gZ;split;show sD I;rw[hQ];show y2 I) (.inr {(),(),(),()}) (by simp only[cont,jU B];rfl);generalize aH H (Z.G (.ba j)) (.dK ((gZ t.bar g).map λg=>((.inr g:bY),V.bl true)))=H1 at f v⊢;have J:=f.g.layer C;have L:=f.g.inside C;have N:=f.g.seats i l C;show U () (fI J T.bB T.bH () () (rG (bf (Z.iv i) (.inr g)) (dn.k (k:=.inr g) L) (U () ?_)));have u:zF l t g=[]->∀r,H1 r=none->Q (.ref r) (aH H1 r (.lst [])):=λe r n=>by
   have R:=aj (o:=.lst []) (am.refl _) n;have em:AO M i j l t g=M.setT j {t with bar:=gZ t.bar g}:=by unfold AO;rw[e,kT];show my (M:=M.setT j {t with bar:=gZ t.bar g}) C
   show q r [] Z _ (em▸v.trans (gr.of R)) (em▸f.same R) (v.dm _ n) ae ()
  by_cases z:g∈l.ins.map (·.1)
  ·obtain⟨x,hx,ex⟩:=ji.mp z;obtain⟨s,hv,al⟩:=N.find hL.nd x hx;rw[ex]at hv;rw[hv];show bI (fI J T.bB T.bH () () (U () (rG (.ref s) (by rw[<-hv];show dn.k (k:=.inr g) L) (rX al (aq (k:=0) ()) (U () {(),U () ?_})))))
   by_cases hq:x.2.1=t.nm
   ·have S:zF l t g=[g]:=g6 (x,hx,ex,hq,);rw[hq];show ca (iN f.g.house () () (U () (U () {ls (),λDg an=>?_})));have R:=aj (o:=.lst [.str g]) (am.refl _) an;show{M.setT j {t with bar:=gZ t.bar g},Z,c+1,i,l,Dg,[g],(),f.same R,C,ae,λy W=>by rw[List.mem_singleton.mp W];show z,by simp,by simp,λr us Z6 H6 ap as n ax X=>?_};have em:AO M i j l t g=(M.setT j {t with bar:=gZ t.bar g}).setL i {l with ins:=dG l.ins [g]}:=by unfold AO;rw[S]
    have aa:=v.trans (gr.of R);show q r us Z6 H6 (em▸aa.trans ap) (em▸as) (aa.dm _ n) ax X
   ·have S:zF l t g=[]:=g_ λ⟨y,W,e1,e2⟩=>hq (by rw[<-Ed hL.nd y W x hx (e1.trans ex.symm)];show e2)
    show sE hq {ls (),u S}
  ·have S:zF l t g=[]:=g_ λ⟨y,W,e1,e2⟩=>z (ji.mpr (y,W,e1,));rw[N.none z];show cu {ls (),u S}
end
def xY(M:be)(nm:Str)(sl:Int):be:={M with las:=M.las++[{nm,sl,AS.new,[]}]}
def xX(M:be)(t:dD):be:={M with trs:=M.trs++[t]}
section
variable{M:be}{c:Nat}
def jN.addL(h:jN M c){nm:Str}{sl:Int}(g:Wd nm)(hn:nm∉M.las.map bJ.nm)(i:0<=sl/\sl<=M.p)(h4:M.las.length<4):jN (xY M nm sl) c:=by
 have em:(M.las++[({nm,sl,AS.new,[]}:bJ)]).map bJ.nm=M.las.map bJ.nm++[nm]:=by rw[gV];rfl
 show{h with ln:=?_,la:=λl j=>?_,tr:=λt f=>{h.tr t f with hm:=?_},l4:=by change(M.las++[_]).length<=4;rw[hQ];show h4}
 ·change((M.las++[({nm,sl,AS.new,[]}:bJ)]).map bJ.nm).Nodup;rw[em,m3];show{h.ln,by simp,λx b y m e=>hn (by rw[<-List.mem_singleton.mp m,<-e];show b)}
 ·rcases List.mem_append.mp j with q|q
  ·show{h.la l q with}
  ·rw[List.mem_singleton.mp q];show{g,i,AS.new_ok _,ku _,λx b=>(nomatch b),NO,λk q n=>(nomatch n)}
 ·change t.home∈(M.las++[({nm,sl,AS.new,[]}:bJ)]).map bJ.nm;rw[em];show np _ (h.tr t f).hm
def jN.addT(h:jN M c){t:dD}(ok:HD M t)(hn:t.nm∉M.trs.map dD.nm)(h4:M.trs.length<10)(f:t.bar=[]):jN (xX M t) c:=by
 show{h with tn:=?_,la:=λl g=>?_,tr:=λx b=>?_,tc:=by change(M.trs++[_]).length<=10;rw[hQ];show h4,br:=λx b=>?_}
 ·change((M.trs++[t]).map dD.nm).Nodup;rw[gV,m3];show{h.tn,by simp,λx b y i e=>hn (by rw[<-show y=t.nm from List.mem_singleton.mp i,<-e];show b)}
 ·have q:=h.la l g;show{q with own:=λk z j=>?_};rcases q.own k z j with e|⟨x,b,e⟩
  ·show .inl e
  ·show .inr {x,np _ b,e}
 ·rcases List.mem_append.mp b with q|q
  ·show{h.tr x q with}
  ·rw[List.mem_singleton.mp q];show{ok with}
 ·rcases List.mem_append.mp b with q|q
  ·show h.br x q
  ·rw[List.mem_singleton.mp q,f];show ku _
end
inductive BY(P:O7)(w:World)(K:O2)(a:fJ)(vs:List V)(H:Hp)(Q:VK)(E:XK):Prop|mk(M:be)(Z:ZS)(c:Nat)(nm:Str)(sl:Int)(_:vs=[.ref (Z.G .hh),.str nm,.int sl])(_:bP P w K a H M Z c)(_:Wd nm)(_:nm∉M.las.map bJ.nm)(_:(0<=sl/\sl<=M.p))(_:M.las.length<4)(_:∀(r:Addr)(Z':ZS)(H':Hp),gr H M Z H' (xY M nm sl) Z'->bP P w K a H' (xY M nm sl) Z' c->H r=none->H' r=some (.lst [])->Z'.ds=Z.ds->Q (.ref r) H')
inductive BX(P:O7)(w:World)(K:O2)(a:fJ)(vs:List V)(H:Hp)(Q:VK)(E:XK):Prop|mk(M:be)(Z:ZS)(c:Nat)(H0:Hp)(t ba dx ar sh:Addr)(ru:V)(x:dD)(_:vs=[.ref (Z.G .hh),.str x.nm,.ref t])(_:bP P w K a H0 M Z c)(_:am H0 H)(_:H0 t=none)(_:H0 ba=none)(_:H ba=some (.dK []))(_:H t=some (.ins a.fS dx [("home",.str x.home),("arms",.ref ar),("rule",ru),("shuts",.ref sh),("paused",.bl false),("closed",.bl false),("barred",.ref ba)]))(_:aY K H0 ar (x.arms.map V.str))(_:fB K H0 x.rule ru)(_:aY K H0 sh (x.shuts.map V.str))(_:x.pau=false)(_:x.clo=false)(_:x.bar=[])(_:HD M x)(_:x.nm∉M.trs.map dD.nm)(_:M.trs.length<10)(_:∀(r:Addr)(Z':ZS)(H':Hp),gr H0 M Z H' (xX M x) Z'->bP P w K a H' (xX M x) Z' c->H0 r=none->H' r=some (.lst [])->Z'.ds=Z.ds->Q (.ref r) H')
section
def pE(T:Txt K mg a):aP P w K mg base cP 5 a.c9.x a.c9.d ["self","name","slope"] (BY P w K a):=by
 show T.c9.ok oQ λaa A outer s H vs Q E j h=>?_
 ·obtain⟨M,Z,c,nm,sl,rfl,t,hw,hn,hs,h4,q⟩:=h;show{_,(ag (kO (pq T.El ((se (P:=P) (w:=w) T).mono (by decide)) j () T.G3 T.et.b .nil aQ (ac (Y 2) (ac (aC K () (Y 0)) O))) (kP (aC K () (Y 0)) (Y 1) (qi (bZ j)))) (ah (ay (bj O)))),?_}
  have X:=t.g.house;show U () (fI X T.ao T.bV () () (λlo ty l F ad=>?_));have f2:am H (aH (aH H ty (.own lo)) lo (.ins a.fc ty [])):=λb o e=>by rw[ak (az e l),ak (az e F)];show e
  have m:aH (aH H ty (.own lo)) lo (.ins a.fc ty []) lo=some (.ins a.fc ty []):=ae;generalize aH (aH H ty (.own lo)) lo (.ins a.fc ty [])=H2 at f2 m⊢;show{lo,ty,sl,M.p,(),m,λtb od td iu I u J L N R f3 hL S hu=>{(),?_}};have f:am H I:=λb o e=>f3 b o (f2 b o e) (az e l);show fI (f _ _ X) T.ao T.aK () () (U () {Z.G .ln,_,.inr nm,(),(),f _ _ t.g.lays,by rw[gA,b_,g8];lia,?_});rw[pi _ (lY hn)];have v:∀b,H b=none->b≠Z.G .ln:=λb e z=>by rw[z,t.g.lays]at e;cases e
  have y:=f2.free J;have B:=f2.free L;have C:=f2.free u;have D:=f2.free N;obtain⟨dT,iT⟩:=S.ins;obtain⟨Z',e1,V,e2,W,e4,hG,lv⟩:=t.g.newL (H':=aH I (Z.G .ln) (.dK (gN (M.las.map bJ.nm) (λi=>.ref (Z.G (.lo i)))++[(.inr nm,.ref lo)]))) (nm:=nm) (sl:=sl) l D C y B R (λb o e n=>by rw[ak n];show f b o e) ae (by rw[ak (v _ l)];show hL) {{dT,by rw[ak (v _ C)];show iT},by rw[ak (v _ y)];show S.own,by rw[ak (v _ B)];show S.tak,λx k=>(nomatch k),.nil} (λz=>by rw[z,u]at m;cases m) (by rw[ak (v _ D)];show hu)
  show{ls (),λr j=>?_};have s5:=aj (o:=.lst []) (am.refl _) j;have st:gr H M Z (aH I (Z.G .ln) (.dK (gN (M.las.map bJ.nm) (λi=>.ref (Z.G (.lo i)))++[(.inr nm,.ref lo)]))) (xY M nm sl) Z':=by
   show{e1,λb o e n=>by rw[ak λz=>n (.inl {.ln,trivial,z})];show f b o e,λb z=>?_,λb z=>f.free (lX z),V};rcases z with⟨r,j,rfl⟩|⟨i,hi,x,k,e⟩|⟨x,k,e⟩
   ·have j:vP (M.las++[_]).length M.trs.length r:=j;rw[hQ]at j;rcases lv r j with q|⟨q,p⟩
    ·show .inr q
    ·show .inl (.inl (r,p,q,))
   ·rw[(W i).1]at k;have hi:i<(M.las++[_]).length:=hi;rw[hQ]at hi
    by_cases z:i=M.las.length
    ·rw[g6 z]at k;cases k
    ·rw[g_ z]at k;show .inl (.inr (.inl {i,by have:i<M.las.length+1:=hi;lia,x,k,e}))
   ·rw[e4]at k;show .inl (.inr (.inr (x,k,e,)))
  show q r Z' _ (st.trans (gr.of s5)) (bP.same {hG,t.ok.addL hw hn hs h4,λi=>?_,λi=>?_,by rw[e2];show t.ds} s5) (st.dm _ j) ae e2
  ·rw[(W i).1]
   split
   ·show ku _
   ·show t.tk i
  ·rw[(W i).2]
   split
   ·show ku _
   ·show t.ow i
def pC(T:Txt K mg a):aP P w K mg base cP 4 a.c8.x a.c8.d ["self","name","trial"] (BX P w K a):=by
 show T.c8.ok oP λW A outer s H vs Q E f h=>?_
 ·obtain⟨M,Z,c,D,t,ba,dx,ar,sh,ru,x,rfl,j,k,l,m,X,ht,q1,q2,q3,F,I,v,ok,hn,B,q⟩:=h;show{_,(ag (kO (Y 2) (kP (aC K () (Y 0)) (Y 1) (qi (bZ f)))) (ah (ay (bj O)))),?_}
  show U () (fI (k _ _ j.g.house) T.ao T.aJ () () (U () {Z.G .tn,_,.inr x.nm,(),(),k _ _ j.g.tris,by rw[gA,b_,g8];lia,?_}));rw[pi _ (lY hn)];have J:∀b,D b=none->b≠Z.G .tn:=λb e z=>by rw[z,j.g.tris]at e;cases e
  obtain⟨L,e1,C,N,R,e4,e5,S,lv⟩:=j.g.newT (H':=aH H (Z.G .tn) (.dK (gN (M.trs.map dD.nm) (λi=>.ref (Z.G (.tr i)))++[(.inr x.nm,.ref t)]))) (nm:=x.nm) (home:=x.home) (arms:=x.arms) (shuts:=x.shuts) (rule:=x.rule) l m (λb o e n=>by rw[ak n];show k b o e) ae (by rw[ak (J _ l)];show ht) (by rw[ak (J _ m)];show X) q1 q2 q3;have ex:({x.nm,x.home,x.arms,x.rule,x.shuts,false,false,[]}:dD)=x:=by obtain⟨a1,a2,a3,a4,a5,a6,a7,a8⟩:=x;simp only at F I v;rw[F,I,v]
  rw[ex]at S;show{ls (),λr f=>?_};have V:=aj (o:=.lst []) (am.refl _) f;have st:gr D M Z (aH H (Z.G .tn) (.dK (gN (M.trs.map dD.nm) (λi=>.ref (Z.G (.tr i)))++[(.inr x.nm,.ref t)]))) (xX M x) L:=by
   show{e1,λb o e n=>by rw[ak λz=>n (.inl {.tn,trivial,z})];show k b o e,λb z=>?_,λb z=>k.free (lX z),C};rcases z with⟨r,f,rfl⟩|⟨i,hi,y,u,e⟩|⟨y,u,e⟩
   ·have f:vP M.las.length (M.trs++[_]).length r:=f;rw[hQ]at f;rcases lv r f with q|⟨q,p⟩
    ·show .inr q
    ·show .inl (.inl (r,p,q,))
   ·rw[R]at u;show .inl (.inr (.inl (i,hi,y,u,e,)))
   ·rw[e5]at u;show .inl (.inr (.inr (y,u,e,)))
  show q r L _ (st.trans (gr.of V)) (bP.same {S,j.ok.addT ok hn B v,λi=>by rw[R];show j.tk i,λi=>by rw[e4];show j.ow i,by rw[N];show j.ds} V) (st.dm _ f) ae N
end
section
def jx(T:Txt K mg a):aP P w K mg base cP 1 a.cg.x a.cg.d ["self","place"] (BS P w K a.bO):=by
 show T.cg.ok oJ λc A outer s H i Q E e h=>?_
 ·obtain⟨t,f,j,n,ow,tk,m,p,rfl,b,q⟩:=h;show{_,(ah (ay (ue (bZ e) (aC K () (Y 0)) (Y 1) {(),(),(),()}))),?_};obtain⟨dx,g⟩:=b.ins;show U () {t,_,dx,_,U () {g,T.bn,T.eD,(),f,(),.inl {_,.inl b.own},U () {_,dn.k (k:=.inl p) b.own,q}}}
end
def HN(h:Wd x):PyData.strOk x=true:=by obtain⟨_,_,h⟩:=h;unfold PyData.strOk;rw[<-Array.all_toList,C2];intro c hc;have b:∀c∈pH.cps.toList,decide (c<1114112)=true:=dk ();have:=l_ (b c (h c hc));simp;lia
structure qW(P:O7)(w:World)(K:O2)(a:fJ)(H0 H:Hp)(M:be)(Z:ZS)(c:Nat):Prop where
 z:bP P w K a H0 M Z c
 k:∀b o,H0 b=some o->b≠Z.G .ln->H b=some o
section
variable{P:O7}{w:World}{K:O2}{a:fJ}{d H f:Hp}{M:be}{Z:ZS}{c:Nat}
def qW.same(h:qW P w K a d H M Z c)(s:am H f):qW P w K a d f M Z c:={h.z,λb o e n=>s _ _ (h.k b o e n)}
def qW.kp(h:qW P w K a d H M Z c):Kp d H:={λu i e=>h.k _ _ e λz=>(by rw[z,h.z.g.lays]at e;cases e),λu o⟨b,e⟩=>{b,h.k _ _ e λz=>by rw[z,h.z.g.lays]at e;cases e}}
theorem qW.at_(h:qW P w K a d H M Z c)(e:cont P w a M Z r=some o)(n:r≠.ln):H (Z.G r)=some o:=h.k _ _ (h.z.g.at_ r o e) λz=>n (h.z.g.inj r .ln _ _ e () z)
def Jq{p:Nat}{m sl:Int}{x:Str}(e:2<=p):0<=nO p m sl x/\nO p m sl x<p:=by
 unfold nO;have h:(0:Int)<(p:Int):=by lia
 split
 ·show{Nj _ (by lia),Nm _ h}
 ·show{Nj _ (by lia),Nm _ h}
def qW.owner(h:qW P w K a d H M Z c){i:Nat}{l:bJ}(s:M.las[i]?=some l){q:Int}(u:0<=q)(A:q<M.p):((bf (Z.ow i) (.inl q)).getD .non=.non/\∀k,q∉l.S.pl k)\/∃b x y,(bf (Z.ow i) (.inl q)).getD .non=.ref b/\aY K H b [.str x,.str y]/\q∈l.S.pl (cB x y)/\((x=""/\y="")\/∃(j:Nat)(t:dD),M.trs[j]?=some t/\t.nm=x/\(Wd y/\Wd t.nm/\y∈t.arms/\t.home=l.nm)):=by have B:=h.z.ok.la l (f_ s);obtain⟨_,⟨m,_,G⟩,r,_⟩:=h.z.g.tabs i l s;have e:=G.2 q u A;cases C:bf (Z.ow i) (.inl q)with|none=>rw[C]at e;show .inl {(),λk z=>?_};have:=(B.ok.in_ k q z).2.2;rw[<-e]at this;cases this|some v=>
  show .inr ?_;obtain⟨k,n,D⟩:=r q v u A C;rcases B.own k q n with rfl|⟨t,E,hh,y,F,rfl⟩
  ·obtain⟨b,rfl,o⟩:=D;show{b,_,U () {h.kp.tq o,n,.inl {(),()}}}
  ·obtain⟨b,rfl,o⟩:=D;obtain⟨j,I⟩:=ig.mp E;have tk:=h.z.ok.tr t E;show{b,_,U () {h.kp.tq o,n,.inr {j,t,I,(),tk.aw y F,tk.wd,F,hh}}}
end
def Hz{cs:List Bool}(h:cs.any id=false){b:Bool}(m:b∈cs):b=false:=by cases b with|false=>rfl|true=>rw[Oh.mpr {true,m,()}]at h;cases h
structure u3(M:be)(l:bJ)(g:Str)(ms:List (Str×Int))(bs:O8)(t:dD)(y:Str):Prop where
 mem:t∈M.trs
 arm:y∈t.arms
 home:t.home=l.nm
 at_:nO M.p M.salt l.sl g∈l.S.pl (cB t.nm y)pau:t.pau=false
 bar:g∉t.bar
 sat:t.rule.sat ms=true
 shut:∀n∈t.shuts,n∉bs
def jN.tuniq{M:be}{c:Nat}(h:jN M c){t u:dD}(d:t∈M.trs)(f:u∈M.trs)(e:t.nm=u.nm):t=u:=by obtain⟨i,hi⟩:=ig.mp d;obtain⟨j,b⟩:=ig.mp f;have q:i=j:=(u_ (by rw[b_];show(d_.mp hi).1) h.tn).mp (by rw[ge,ge,hi,b];show pa some e);rw[q,b]at hi;show(j1 hi).symm
def u3.one{M:be}{c:Nat}{l:bJ}{g:Str}{e:List (Str×Int)}{bs:O8}{t:dD}{x y d:Str}(f:jN M c)(h:l∈M.las)(i:nO M.p M.salt l.sl g∈l.S.pl (cB x y))(L:u3 M l g e bs t d):t.nm=x/\d=y:=om ((f.la l h).ok.dj _ _ _ L.at_ i)
theorem Ft{g:Str}:∀{bs:O8},(bf (bs.map λg=>((.inr g:bY),V.bl true)) (.inr g)).isSome=true->g∈bs
 |[],z=>nomatch z|b::r,h=>by
  by_cases e:b=g
  ·show e▸i_
  ·rw[lm,bu (λq=>e (pu q))]at h;show il _ (Ft h)
def LV{z:Str}{c:O8}(e:nX (.str z) (c.map V.str)=true):z∈c:=by
 unfold nX at e;obtain⟨v,b,e⟩:=Oh.mp e;obtain⟨u,d,rfl⟩:=ji.mp b;have e:(u==z)=true:=e
 rwa[eq_of_beq e]at d
def Kn{cs:List Bool}(h:cs.any id=true):true∈cs:=by obtain⟨b,c,e⟩:=Oh.mp h;show e▸c
theorem Bz{g:Str}:∀{bs:O8},(bf (bs.map λg=>((.inr g:bY),V.bl true)) (.inr g)).isSome=false->g∉bs
 |[],_,z=>nomatch z|b::r,h,z=>by
  rw[lm]at h
  by_cases e:b=g
  ·rw[cb (by rw[e])]at h;cases h
  ·rw[bu (λq=>e (pu q))]at h;show(q_.mp z).elim (λq=>e q.symm) (Bz h)
inductive IO(P:O7)(w:World)(K:O2)(a:fJ)(vs:List V)(H:Hp)(Q:VK)(E:XK):Prop|mk(H0:Hp)(M:be)(Z:ZS)(c i:Nat)(l:bJ)(g:Str)(mv:V)(ms:List (Str×Int))(bl:Addr)(bs:O8)(_:vs=[.ref (Z.G .hh),.ref (Z.G (.lo i)),.str g,mv,.ref bl])(_:qW P w K a H0 H M Z c)(_:M.las[i]?=some l)(_:w6 g)(_:pX K H ms mv)(_:ms.length<=8)(_:H bl=some (.lst (bs.map V.str)))(_:(∀H',am H H'->(∀t y,¬u3 M l g ms bs t y)->Q .non H'))(_:∀(s:Addr)(t:dD)(y:Str)(H':Hp),am H H'->aY K H' s [.str t.nm,.str y]->u3 M l g ms bs t y->Q (.ref s) H')
section
def pz(T:Txt K mg a):aP P w K mg base cP 8 a.c5.x a.c5.d ["self","layer","guest","marks","been"] (IO P w K a):=by
 show T.c5.ok gw λc0 A outer s H vs Q E hr h=>?_
 ·obtain⟨H0,M,Z,c,i,l,g,mv,ms,bl,bs,rfl,J,R,hg,hm,c1,a8,qn,qs⟩:=h;show{_,(ag (bp 5 gw.nd (aU (aC K () (Y 1)) T.bn T.cg.m ((jx (P:=P) (w:=w) T).mono (by decide)) hr T.cg.b .nil aQ (ac (aU (Y 0) T.ao T.bF.m ((gy (P:=P) (w:=w) T).mono (by decide)) hr T.bF.b .nil aQ (ac (Y 1) (ac (Y 2) O))) O))) (ag (aN (PW.pt (fL (aD D1 (Y 5) nP (aG _)) (dX (aD (GM K () (M3 hr)) (Y 5) (cx (v:=.ref a.u4) {_,T.Ey,()} ()) (aG _))))) (ah (ay nP)) aE) (ag (bp 6 gw.nd (cM (bZ hr) (aC K () (Y 0)) (dJ K (Y 5) af) (λ_ _=>()))) (ag (aN (PW.pt (fL (aT K () (aC K () (Y 6)) (λ_=>())) (fL (nN (Ag (bZ hr) (Y 2) (aC K () (Y 6))) ()) (dX (cp (aT K () (bR ((yW T 6).mono (by decide)) hr () T.dU.m T.dU.f.kp T.dU.b .nil aQ (ac (aC K () (Y 6)) (ac (Y 3) O))) (λ_=>()))))))) (ah (ay nP)) aE) (ag (aN (aT K () (aB (qN K () ()) (by rfl) T.Eh L2.uT (ac (sB hE ["name"] [] [7] (ai gP) (b0 7) (iy K () (aC K () (Y 6))) (λcl C s₀ H₀ ex=>{(lB hE ["name"] 7),bQ,(cf (nQ K ()) (Y 7) (Y 4) (by with_unfolding_all rfl))})) O)) (λ_=>())) (ah (ay nP)) aE) (ah (ay (Y 5)))))))),?_}
  have B:=J.z;have hL:=B.ok.la l (f_ R);have hp:=B.ok.p;have c2:=hL.sl;have hI:=J.at_ (r:=.hh) () (by simp);have ad:=J.at_ (r:=.lo i) (by simp only[cont,R];rfl) (by simp);have al:=J.at_ (r:=.tb i) (by simp only[cont,R];rfl) (by simp);have a9:=J.at_ (r:=.od i) (by simp only[cont,R];rfl) (by simp);have bb:=J.at_ (r:=.td i) (by simp only[cont,R];rfl) (by simp);have bc:=J.at_ (r:=.tn) () (by simp);show fI ad T.bB T.dQ () () (rM al () (iN hI () () (U () (U () {Z.G .hh,Z.G (.lo i),_,_,_,_,M.p,M.salt,l.sl,g,(),hI,(),(),ad,(),hg,{by lia,by lia},{by lia,by lia},λH1 u=>?_}))));obtain⟨bi,⟨m,bo,c3⟩,c4,da⟩:=B.g.tabs i l R;have o:=J.same u;have an:eP P w K a.bO H1 (Z.G (.tb i)) (Z.G (.od i)) (Z.G (.td i)) M.p (Z.ow i) (Z.tk i) m:={{_,u _ _ al},u _ _ a9,u _ _ bb,λx hx=>eU o.kp (bi x hx),bo.outs λx hx lb xs e1 W=>o.k _ _ W λz=>by rw[z,B.g.lays]at W;cases W};have hq:=Jq (m:=M.salt) (sl:=l.sl) (x:=g) hp.1;show{Z.G (.tb i),Z.G (.od i),Z.G (.td i),M.p,Z.ow i,Z.tk i,m,nO M.p M.salt l.sl g,(),an,au ?_};have ap:=f_ R;rcases o.owner R hq.1 hq.2 with⟨e,bt⟩|⟨b,x,y,e,hb,X,as⟩
  ·rw[e];show U () {(),U () (bI (bI (qn _ u λt y L=>bt _ L.at_)))}
  rw[e];show U () {(),U () (cu ?_)};have ax:PyData.strOk x=true/\PyData.strOk y=true:=by
   rcases as with⟨rfl,rfl⟩|⟨j,t,S,rfl,h1,h2,_,_⟩
   ·show{by decide+kernel,by decide+kernel}
   ·show{HN h2,HN h1}
  show U () {.tuple [.str x,.str y],.tuple [.str "",.str ""],.tup hb (.cons (.str x) (.cons (.str y) .nil)),.tup (T.Bo.sq _) (.cons (.str _) (.cons (.str _) .nil)),?_,by decide+kernel,U () ?_}
  ·unfold SeqAt.shaped;simp[PyData.canLay0,PyData.canLayAll0,PyData.depth,PyData.depthAll,ax.1,ax.2]
  rcases as with⟨rfl,rfl⟩|⟨j,t,S,rfl,wy,wx,hy,hh⟩
  ·show uD (λ_=>qn _ u λt y L=>by have:=(B.ok.tr t L.mem).wd.lo;rw[(u3.one B.ok ap X L).1]at this;show absurd this (by decide)) (λef=>absurd ef (by decide+kernel))
  have bz:=f_ S;have one:∀t' y',u3 M l g ms bs t' y'->t'=t:=λt' y' L=>B.ok.tuniq L.mem bz (u3.one B.ok ap X L).1;show uD (λef=>?held) (λef=>?_)
  case held=>simp[PyData.eqv,PyData.eqvAll]at ef;have:=wx.lo;rw[ef.1]at this;show absurd this (by decide)
  have a2:=u _ _ bc;have N:=o.at_ (r:=.tr j) (by simp only[cont,S];rfl) (by simp);have b8:=o.at_ (r:=.ba j) (by simp only[cont,S];rfl) (by simp);obtain⟨-,b9,a3⟩:=B.g.trs j t S;have a5:=B.ok.tr t (f_ S);show fI (u _ _ hI) T.ao T.aJ () () (U () (rX hb (aq (k:=0) ()) (rG (.ref (Z.G (.tr j))) (by rw[<-B.ok.tget (Z:=Z) S];show dn.k (k:=.inr t.nm) a2) (au ?_))));show fI N T.aZ T.iI () () {t.pau,(),?_};show uD (λe1=>bI (qn _ u λt' y' L=>by have:=L.pau;rw[one _ _ L,e1]at this;cases this)) (λe1=>?_);show U () (fI N T.aZ T.iJ () () (rG _ (dn.k (k:=.inr g) b8) (U () ?_)));show uD (λW=>bI (qn _ u λt' y' L=>by have:=L.bar;rw[one _ _ L]at this;show this (Ft W))) (λW=>?_);show fI N T.aZ T.nu () () (U () {t.rule,Z.ru j,ms,mv,(),b9.kp o.kp,a5.hg,hm.kp (.of u),by lia,λH2 s2=>(U () ?_)});have F:=u.trans s2;show uD (λe3=>qn _ F λt' y' L=>by have:=L.sat;rw[one _ _ L]at this;rw[this]at e3;cases e3) (λe3=>?_);have a6:=J.same F;show fI (s2 _ _ N) T.aZ T.lZ () () {Z.sh j,(),{_,a6.kp.tq a3},λD hD=>?_};have a7:=F _ _ a8;have h8:=a5.s8;show gJ (K:=K) (a:=Z.sh j) (xs:=t.shuts.map V.str) (λk I H'=>am H2 H'/\H' D=some (.lst I)/\∃cs:List Bool,I=cs.map V.bl/\Paired (λ(b:Bool)(x:Str)=>(b=false->x∉bs)/\(b=true->x∈bs)) cs (t.shuts.take k)) {aj (am.refl _) hD,ae,[],(),.nil} (λk I H' _ h=>am.tseq h.1 (a6.kp.tq a3)) ?_ ?_
  ·rintro k v I H3 hv⟨s3,aa,cs,rfl,q⟩;have hk:k<(t.shuts.map V.str).length:=(d_.mp hv).1;rw[ge]at hv;obtain⟨x,hx,rfl⟩:=Option.map_eq_some_iff.mp hv;have dc:cs.length<=k:=by rw[Paired.length q];show B_ _ _
   show au (iG (bI (U () (U () {bl,U () {.inl (aS.of (s3 _ _ a7)),(),qg bs,aa,?_,lf hk {bv s3 hD,ae,cs++[_],by rw[gV];rfl,by rw[bK hx];show xn q (.cons {λe m=>(by rw[EK m]at e;cases e),λe=>LV e} .nil)}}}))));rw[b_]at hk⊢;rw[g8];lia
  ·rintro I H3⟨s3,aa,cs,rfl,q⟩;show{D,cs,(),aS.of aa,U () ?_};rw[b_,hF (e_ _)]at q;show uD (λea=>qn _ (F.trans s3) λt' y' L=>?no) (λea=>?_)
   case no=>have sh:=L.shut;rw[one _ _ L]at sh;obtain⟨k,hk⟩:=ig.mp (Kn ea);obtain⟨x,hx,hb⟩:=Paired.at_ q k _ hk;show sh x (f_ hx) (hb.2 ())
   show U () (qs b t y _ (F.trans s3) (am.tseq (s2.trans s3) hb) {f_ S,hy,hh,X,e1,Bz W,by simpa using e3,λn hn=>?_});obtain⟨i,hi⟩:=ig.mp hn;obtain⟨b',cc,ci⟩:=ub q i n hi;show ci.1 (Hz ea (f_ cc))
end
def Fe(J:St->Hp->Prop)(h1:∀c H,J c H->u D c H)(h2:∀(N:St->Hp->Prop)(R:VK)(B C:St->Hp->Prop),(∀c H,J c H->N c H)->t (N,R,B,C,) c H):zQ t u D c H:=h2 (u D) D.rt D.bk D.ct h1
def cW(l:bJ)(g:Str):Option (Str×Str):=(l.ins.find? λx=>decide (x.1=g)).map (·.2)
def C9(M:be)(g:Str):List (Str×Str×Str):=M.las.filterMap λl=>(cW l g).map λp=>(l.nm,p.1,p.2)
def uW(K:O2)(H:Hp)(c:V):Option (Str×Str)->Prop|none=>c=.non|some p=>∃s,c=.ref s/\aY K H s [.str p.1,.str p.2]
def uW.kp(e:Kp H H')(h:uW K H c o):uW K H' c o:=by cases o with|none=>show h|some p=>obtain⟨s,h1,h2⟩:=h;show{s,h1,e.tq h2}
def bT.seat(g:Str)(h:bT K H iv ins):uW K H ((bf iv (.inr g)).getD .non) ((ins.find? λx=>decide (x.1=g)).map (·.2)):=by induction h with|nil=>rfl|@cons _ y _ _ h _ b=>
  by_cases e:y.1=g
  ·obtain⟨h1,s,h2,h3⟩:=h;rw[cb (by rw[h1,e]),p5 (by simp[e]),h2];show{s,(),h3}
  ·rw[bu (λz=>e (by rw[h.1]at z;show pu z)),o0 (by simp[e])];show b
def gL(K:O2)(H:Hp)(c:List V)(d:List (Str×Str×Str)):Prop:=Paired (λ(u:V)(y:Str×Str×Str)=>∃b,u=.ref b/\aY K H b [.str y.1,.str y.2.1,.str y.2.2]) c d
def gL.kp(e:Kp H H')(h:gL K H c d):gL K H' c d:=Paired.mapP h λ_ _ q=>q.imp λ_ q=>{q.1,e.tq q.2}
def dS(cm:List (Str×List (Str×Str)))(g:Str):List (Str×Str):=((cm.find? λx=>decide (x.1=g)).map (·.2)).getD []
def yb(M:be)(g:Str)(c:List (Str×Str×Str)):List Str:=(dS M.came g).map (·.1)++c.map (·.2.1)
def Fs{M:be}{g:Str}{c:List (Str×Str×Str)}{x:Str×Str×Str}:yb M g (c++[x])=yb M g c++[x.2.1]:=by unfold yb;rw[gV,vr];rfl
def uX(M:be)(g:Str)(c:List (Str×Int))(l:bJ)(bs:O8)(r:Str×Str):Prop:=cW l g=some r\/(cW l g=none/\∃t y,r=(t.nm,y)/\u3 M l g c bs t y)
inductive kE(M:be)(g:Str)(ms:List (Str×Int)):List bJ->List (Str×Str×Str)->Prop|nil:kE M g ms [] []|skip{ls:List bJ}{ss:List (Str×Str×Str)}{l:bJ}(h:kE M g ms ls ss)(hn:cW l g=none)(hx:∀t y,¬u3 M l g ms (yb M g ss) t y):kE M g ms (ls++[l]) ss|row{ls:List bJ}{ss:List (Str×Str×Str)}{l:bJ}{r:Str×Str}(h:kE M g ms ls ss)(hr:uX M g ms l (yb M g ss) r):kE M g ms (ls++[l]) (ss++[(l.nm,r)])
theorem uX.one{M:be}{c:Nat}{g:Str}{d:List (Str×Int)}{l:bJ}{bs:O8}{r f:Str×Str}(i:jN M c)(j:l∈M.las)(h:uX M g d l bs r)(h':uX M g d l bs f):r=f:=by
 rcases h with e|⟨e,t,y,rfl,L⟩
 ·rcases h' with b|⟨b,_⟩
  ·show j1 (e.symm.trans b)
  ·rw[e]at b;cases b
 ·rcases h' with b|⟨_,o,p,rfl,k⟩
  ·rw[e]at b;cases b
  ·obtain⟨m,n⟩:=u3.one i j k.at_ L;rw[m,n]
theorem kE.one{M:be}{c:Nat}{g:Str}{p:List (Str×Int)}(u:jN M c){ls:List bJ}{n:List (Str×Str×Str)}(h:kE M g p ls n):(∀l∈ls,l∈M.las)->∀{d},kE M g p ls d->n=d:=by induction h with
 |nil=>intro _ d h';generalize e:([]:List bJ)=ls at h';cases h' with|nil=>rfl|skip=>show absurd e.symm (by simp)|row=>show absurd e.symm (by simp)
 |@skip ls n l h hn v j=>intro hm d h';generalize e:ls++[l]=o at h';cases h' with|nil=>show absurd e (by simp)|skip h1 k m=>obtain⟨rfl,i⟩:=Og e ();show j (λb q=>hm b (np _ q)) h1|row h1 f=>
   obtain⟨rfl,i⟩:=Og e ();obtain rfl:=Ob i;obtain rfl:=j (λb q=>hm b (np _ q)) h1;rcases f with q|⟨_,t,y,_,L⟩
   ·rw[hn]at q;cases q
   ·show absurd L (v t y)
 |@row ls n l r h s j=>intro hm d h';generalize e:ls++[l]=o at h';cases h' with
 |nil=>show absurd e (by simp)|skip h1 k m=>
   obtain⟨rfl,i⟩:=Og e ();obtain rfl:=Ob i;obtain rfl:=j (λb q=>hm b (np _ q)) h1;rcases s with q|⟨_,t,y,_,L⟩
   ·rw[k]at q;cases q
   ·show absurd L (m t y)|row h1 f=>obtain⟨rfl,i⟩:=Og e ();obtain rfl:=Ob i;obtain rfl:=j (λb q=>hm b (np _ q)) h1;rw[uX.one u (hm _ (mu _ (List.mem_singleton.mpr ()))) s f]
def eM.find{dl:Addr}{cv:List (bY×V)}{cm:List (Str×List (Str×Str))}(g:Str)(h:eM K H dl cv cm):(bf cv (.inr g)=none/\dS cm g=[])\/∃l c,bf cv (.inr g)=some (.ref l)/\l≠dl/\H l=some (.lst c)/\gK K H c (dS cm g)/\(g,dS cm g)∈cm:=by induction h with|nil=>show .inl {(),()}|@cons _ y _ _ h _ d=>
  by_cases e:y.1=g
  ·obtain⟨h1,l,c,h2,n,h3,h4⟩:=h;have b:∀q,dS (y::q) g=y.2:=λq=>by unfold dS;rw[p5 (by simp[e])];rfl
   rw[b];show .inr {l,c,by rw[cb (by rw[h1,e]),h2],n,h3,h4,by rw[<-e];show i_}
  ·have b:∀q,dS (y::q) g=dS q g:=λq=>by unfold dS;rw[o0 (by simp[e])]
   rw[b,bu (λz=>e (by rw[h.1]at z;show pu z))];show d.imp id λq=>q.imp λ_ q=>q.imp λ_ q=>{q.1,q.2.1,q.2.2.1,q.2.2.2.1,il _ q.2.2.2.2}
inductive Gs(P:O7)(w:World)(K:O2)(a:fJ)(vs:List V)(H:Hp)(Q:VK)(E:XK):Prop|mk(M:be)(Z:ZS)(c:Nat)(g:Str)(mv:V)(ms:List (Str×Int))(_:vs=[.ref (Z.G .hh),.str g,mv])(_:bP P w K a H M Z c)(_:c<=63)(_:w6 g)(_:pX K H ms mv)(_:ms.length<=8)(_:∀(r:Addr)(us:List V)(H':Hp),am H H'->H r=none->H' r=some (.lst us)->∀ss,gL K H' us ss->kE M g ms M.las ss->ss.length<=4->Q (.ref r) H')
def Hn{J:It}{n:Nat}{g:TG}{tb:TS}{D:jP}{c:St}{H:Hp}(Pv:Nat->St->Hp->Prop)(h0:Pv 0 c H)(hg:∀i c H,i<n->Pv i c H->J.go i H)(f:∀i c H x H',i<n->Pv i c H->J.yld i H x H'->∀(N:St->Hp->Prop)(R:VK)(B:St->Hp->Prop),(∀c H,Pv (i+1) c H->N c H)->g x c H' λd h=>tb (N,R,B,N,) d h)(hd:∀c H,Pv n c H->J.stop n H/\D.nx c H):=EY (J:=J) (n:=n) (g:=g) (tb:=tb) (D:=D) Pv h0 hg (λi c H x H' e p y=>f i c H x H' e p y _ D.rt _ λ_ _ q=>q) hd
inductive JV(P:O7)(w:World)(K:O2)(H:Hp)(M:be)(Z:ZS)(g:Str)(ms:List (Str×Int))(mv:V)(D an:Addr)(ep:Nat)(k:Nat)(σ:St)(H':Hp):Prop|mk(us:List V)(ss:List (Str×Str×Str))(v5 v6 v7:Option V)(f:∀b o,H b=some o->b≠Z.G .ln->H' b=some o)(hl:H' (Z.G .ln)=some (dE P w (Z.G .ln) (gN (M.las.map bJ.nm) λi=>.ref (Z.G (.lo i))) ep))(hD:H' D=some (.lst ((yb M g ss).map V.str)))(hA:H' an=some (.lst us))(hs:gL K H' us ss)(hR:kE M g ms (M.las.take k) ss)(hk:ss.length<=k)(e:σ=[some (.ref (Z.G .hh)),some (.str g),some mv,some (.ref D),some (.ref an),v5,v6,v7]):JV P w K H M Z g ms mv D an ep k σ H'
inductive JS(K:O2)(M:be)(g:Str)(ms:List (Str×Int))(l:bJ)(bs:O8)(H5:Hp)(f:V->St)(σ:St)(H':Hp):Prop|no(s:am H5 H')(e:σ=f .non)(hn:cW l g=none)(hx:∀t y,¬u3 M l g ms bs t y):JS K M g ms l bs H5 f σ H'|yes(b:Addr)(r:Str×Str)(s:am H5 H')(e:σ=f (.ref b))(hq:aY K H' b [.str r.1,.str r.2])(hr:uX M g ms l bs r):JS K M g ms l bs H5 f σ H'
section
def iC(T:Txt K mg a):aP P w K mg base cP 9 a.bw.x a.bw.d ["self","guest","marks"] (Gs P w K a):=by
 show T.bw.ok bD λec A outer s H vs Q E hr h=>?_
 ·obtain⟨M,Z,c,g,mv,ms,rfl,X,hc,hg,hm,da,q⟩:=h;show{_,(ag (Ff 3 fG [] [7] [7] (ai fE) (b0 7) (cL K () (ud (bZ hr) (aC K () (Y 0)) (Y 1) (bj O) {(),(),(),()})) (λcl C s₀ H₀ ex=>{(lB fG [] 7),bQ,(dJ K (Y 7) af)}) bD.nd) (ag (bp 4 bD.nd (bj O)) (ag (Ab (P:=P) (w:=w) (dN mo () (pk (P:=P) (w:=w) (aC K () (Y 0))) (ft K () () (bh (qo 5 bD.nd) (bh (qo 6 bD.nd) fq))) (ag (bp 7 bD.nd (ue (bZ hr) (aC K () (Y 6)) (Y 1) {(),(),(),()})) (ag (aN (aD D1 (Y 7) nP (aG _)) (ah (bp 7 bD.nd (aU (Y 0) T.ao T.c5.m ((pz (P:=P) (w:=w) T).mono (by decide)) hr T.c5.b .nil aQ (ac (Y 6) (ac (Y 1) (ac (Y 2) (ac (Y 3) O))))))) aE) (ah (aN (aD Bg (Y 7) nP (aG _)) (ag (aM (fF K () PySem.F.plainAttrs_list PySem.F.slot_list_append PySem.F.type_list_append cF (Y 3) (ac (dJ K (Y 7) af) O))) (ah (aM (fF K () PySem.F.plainAttrs_list PySem.F.slot_list_append PySem.F.type_list_append cF (Y 4) (ac (aA (uh K ()) (bx (ac (Y 5) O)) (Y 7)) O))))) aE)))))) (ah (ay (Y 4)))))),?_}
  have hI:=X.g.house;have ed:=X.ok.l4;show fI hI T.ao T.cY () () {Z.G .ci,(),.inl {_,.inl X.g.cams},U () {ls (),λl0 dc=>?_}};have s0:=aj (o:=.lst []) (am.refl H) dc;have e0:aH H l0 (.lst []) l0=some (.lst []):=ae;generalize aH H l0 (.lst [])=H1 at s0 e0⊢;show{bf Z.cv (.inr g),dn.k (k:=.inr g) (s0 _ _ X.g.cams),?_};obtain⟨ll,J,ev,bb,hw,ef⟩:∃ll J,(bf Z.cv (.inr g)).getD (.ref l0)=.ref ll/\H1 ll=some (.lst J)/\gK K H1 J (dS M.came g)/\(dS M.came g).length<=630:=by
   rcases X.g.came.find g with⟨e,e'⟩|⟨l,us,e,_,h2,h3,h4⟩
   ·show{l0,[],by rw[e];rfl,e0,by rw[e'];show .nil,by rw[e'];show ku _}
   ·have:=X.ok.cm _ h4;have:(dS M.came g).length<=10*c:=this;show{l,us,by rw[e];rfl,s0 _ _ h2,h3.kp (.of s0),by lia}
  rw[ev];have di:J.length=(dS M.came g).length:=Paired.length hw;show{ll,(),{_,aS.of bb},λD hD=>?_};show kz (K:=K) (a:=ll) (xs:=J) (λk L H'=>am H1 H'/\H' D=some (.lst L)/\L=((dS M.came g).take k).map λy=>V.str y.1) {aj (am.refl _) hD,ae,()} (λk L H' _ h=>aS.of (h.1 _ _ bb)) ?_ ?_
  ·rintro k v L H3 hv⟨s3,ad,rfl⟩;have hk:k<J.length:=(d_.mp hv).1;obtain⟨y,hy,s,rfl,p⟩:=Paired.at_ hw k v hv;have eh:=B_ k (dS M.came g);show au (iG (bI (U () (rX (am.tseq s3 p) (aq (k:=0) ()) {ad,by rw[b_,g8];lia,lf hk {bv s3 hD,ae,by rw[bK hy,gV];rfl}}))))
  rintro L H2⟨s2,al,ea⟩;have eb:L=(yb M g []).map V.str:=by rw[ea,di,hF (e_ _)];unfold yb;rw[NM,nB,qr];rfl
  rw[eb]at al;show au {ls (),λan a5=>au ?_};have s3:=aj (o:=.lst []) (am.refl H2) a5;have bc:aH H2 an (.lst []) an=some (.lst []):=ae;have ad:=s3 _ _ al;have bi:H D=none:=s0.free hD;have a6:H an=none:=s0.free (s2.free a5);have bl:D≠an:=λz=>by rw[z,a5]at al;cases al
  have ap:am H (aH H2 an (.lst [])):=(s0.trans s2).trans s3;generalize aH H2 an (.lst [])=H3 at s3 bc ad ap⊢;show fI (ap _ _ hI) T.ao T.aK () () {Z.G .ln,U () {ap _ _ X.g.lays,λep=>?_}};have bo:Z.G .ln≠D:=λz=>by have e:=X.g.lays;rw[z,bi]at e;cases e
  have a7:Z.G .ln≠an:=λz=>by have e:=X.g.lays;rw[z,a6]at e;cases e
  show Hn (n:=M.las.length) (JV P w K H M Z g ms mv D an ep) {[],[],_,_,_,λb o e n=>by rw[ak n];show ap b o e,ae,by rw[ak (nn bo)];show ad,by rw[ak (nn a7)];show bc,.nil,.nil,e_ _,()} (λk σ H' hk h=>by obtain⟨_,_,_,_,_,_,h,_⟩:=h;show{h,by rw[gA,b_];show hk}) ?_ ?_
  ·rintro k σ H4 x H5 hk⟨S,f,v5,v6,v7,f4,j,bt,a8,I,aa,a9,rfl⟩⟨T1,kk,vv,dv,rfl,rfl,bz⟩N R B hN;have ei:S.length=f.length:=Paired.length I;have ej:(yb M g f).length<=630+k:=by unfold yb;rw[hQ,b_,b_];lia
   obtain⟨l,hl⟩:∃l,M.las[k]?=some l:={_,ga hk};rw[ux,ge,hl]at bz;obtain⟨rfl,rfl⟩:=Nz (j1 bz);have bO:M.las.take (k+1)=M.las.take k++[l]:=bK hl;show gS dv λH5 s5 e5=>?_;have e5:H5 T1=some (.tup [.str l.nm,.ref (Z.G (.lo k))]):=e5;have W:qW P w K a H H5 M Z c:={X,λb o e n=>s5 _ _ (f4 b o e n)};show{T1,U () {aY.of e5,(),_,U () (au {_,U () (au {(),?_})})}};have dT:=W.at_ (r:=.lo k) (by simp only[cont,hl];rfl) (by simp);have b8:=W.at_ (r:=.iu k) (by simp only[cont,hl];rfl) (by simp);show fI dT T.bB T.bH () () {Z.G (.iu k),(),.inl {_,.inl b8},U () {bf (Z.iv k) (.inr g),dn.k (k:=.inr g) b8,au ?_}};have b9:=s5 _ _ bt;have dV:=s5 _ _ a8;show U () {(),U () (Ii (JS K M g ms l (yb M g f) H5 λsv=>[some (.ref (Z.G .hh)),some (.str g),some mv,some (.ref D),some (.ref an),some (.str l.nm),some (.ref (Z.G (.lo k))),some sv]) ?_ ?_)}
   ·intro σ H6 hj;have s6:am H5 H6:=by cases hj<;>assumption
    have as:=s6 _ _ b9;have cc:=s6 _ _ dV;have a3:=s6 _ _ (s5 _ _ j);have f6:∀b o,H b=some o->b≠Z.G .ln->H6 b=some o:=λb o e n=>s6 _ _ (s5 _ _ (f4 b o e n));rcases hj with⟨-,rfl,hn,hx⟩|⟨s,⟨t,y⟩,-,rfl,p,d1⟩
    ·show U () {(),U () (cu (hN _ _ {S,f,_,_,_,f6,a3,as,cc,I.kp (.of (s5.trans s6)),by rw[bO];show aa.skip hn hx,sD a9,()}))}
    show U () {(),U () (bI (U () {.inl {(),_,aS.of as},U () (rX p (aq (k:=0) ()) (rA as (by rw[b_,g8];lia) ?_))}))};have ax:Kp H6 (aH H6 D (.lst ((yb M g f).map V.str++[.str t]))):=.lst as;have f7:∀b o,H6 b=some o->b≠D->aH H6 D (.lst ((yb M g f).map V.str++[.str t])) b=some o:=cK;have c0:aH H6 D (.lst ((yb M g f).map V.str++[.str t])) D=some (.lst ((yb M g f++[t]).map V.str)):=by rw[ae,gV];rfl
    generalize aH H6 D (.lst ((yb M g f).map V.str++[.str t]))=H7 at ax f7 c0⊢;have c1:=f7 _ _ cc (nn bl);have c2:=f7 _ _ a3 bo;show U () {.inl {(),_,aS.of c1},U () {ls (),λT2 c3=>(U () {T2,s,[.str l.nm],U () {(),aY.of ae,am.tseq (aj (am.refl _) c3) (ax.tq p),by simp,by rw[g8];simp,λz=>(nomatch z),λ_ T3 d4=>?_}})}};have s9:=aj (o:=.tup ([.str l.nm]++[.str t,.str y])) (aj (o:=.tup [.str l.nm]) (am.refl H7) c3) d4;have e9:aH (aH H7 T2 (.tup [.str l.nm])) T3 (.tup ([.str l.nm]++[.str t,.str y])) T3=some (.tup [.str l.nm,.str t,.str y]):=ae;generalize aH (aH H7 T2 (.tup [.str l.nm])) T3 (.tup ([.str l.nm]++[.str t,.str y]))=H9 at s9 e9⊢;have c4:=s9 _ _ c1;show rA c4 (by rw[g8];lia) ?_;have kp:Kp H9 (aH H9 an (.lst (S++[.ref T3]))):=.lst c4;show hN _ _ {S++[.ref T3],f++[(l.nm,t,y)],_,_,_,λb o e n=>by rw[ak (az e a6)];show s9 _ _ (f7 _ _ (f6 b o e n) (az e bi)),by rw[ak a7];show s9 _ _ c2,by rw[ak bl,Fs];show s9 _ _ c0,ae,xn (I.kp {λu xs e=>kp.1 _ _ (s9 _ _ (ax.1 _ _ ((s5.trans s6) _ _ e))),λu o e=>kp.2 _ _ (((Kp.of s9).2 _ _ (ax.2 _ _ ((Kp.of (s5.trans s6)).2 _ _ e))))}) (.cons {T3,(),kp.tq (aY.of e9)} .nil),by rw[bO];show aa.row d1,by rw[hQ];show y2 a9,()}
   ·intro N' ba;have a2:uW K H _ (cW l g):=(X.g.seats k l hl).seat g;cases eo:cW l g with|some r=>rw[eo]at a2;obtain⟨s,es,p⟩:=a2;rw[es];show cu (ba _ _ (.yes s r (am.refl _) () (W.kp.tq p) (.inl eo)))|none=>rw[eo]at a2;rw[show(bf (Z.iv k) (.inr g)).getD .non=.non from a2];have d5:=W.at_ (r:=.hh) () (by simp);show bI (iN d5 () () (U () (U () (U () (U () {H,M,Z,c,k,l,g,mv,ms,D,yb M g f,(),W,hl,hg,hm.kp W.kp,da,b9,λH' s' hx=>au (ba _ _ (.no s' () eo hx)),λs t y H' s' p d9=>au (ba _ _ (.yes s (t.nm,y) s' () p (.inr {eo,t,y,(),d9})))})))))
  ·rintro σ H4⟨S,f,v5,v6,v7,f4,j,bt,a8,I,aa,a9,rfl⟩;rw[List.take_length]at aa;show{{j,by rw[gA,b_];show e_ _},Z.G .ln,_,ep,j,?_};have sF:am H (aH H4 (Z.G .ln) (.dK (gN (M.las.map bJ.nm) λi=>.ref (Z.G (.lo i))))):=λb o e=>by
    by_cases z:b=Z.G .ln
    ·rw[z,X.g.lays]at e;rw[z,ae];show e
    ·rw[ak z];show f4 b o e z
   have kp:Kp H4 (aH H4 (Z.G .ln) (.dK (gN (M.las.map bJ.nm) λi=>.ref (Z.G (.lo i))))):={λu xs e=>by rw[ak λz=>by rw[z,j]at e;cases e];show e,λu o⟨o',e⟩=>{o',by rw[ak λz=>by rw[z,j]at e;cases e];show e}};show U () (q an S _ sF a6 (by rw[ak (nn a7)];show a8) f (I.kp kp) aa (by lia))
end
def ph(cm:List (Str×List (Str×Str)))(g:Str)(c:List (Str×Str)):List (Str×List (Str×Str)):=if(cm.any λx=>decide (x.1=g))=true then cm.map (λx=>if x.1=g then(x.1,c)else x)else cm++[(g,c)]
def DR:(ph cm g ss).length<=cm.length+1:=by
 unfold ph
 split
 ·rw[b_];lia
 ·rw[hQ];show e_ _
def DQ(h:x∈ph cm g c):x∈cm\/x.2=c:=by
 unfold ph at h
 split at h
 ·obtain⟨y,b,e⟩:=ji.mp h
  split at e
  ·rw[<-e];show .inr ()
  ·rw[<-e];show .inl b
 ·rcases List.mem_append.mp h with q|q
  ·show .inl q
  ·rw[List.mem_singleton.mp q];show .inr ()
theorem eM.any(g:Str)(h:eM K H dl cv cm):(cv.any λx=>decide (x.1=.inr g))=cm.any λx=>decide (x.1=g):=by induction h with|nil=>rfl|@cons _ y _ _ h _ b=>
  rw[yl,yl,b,h.1]
  congr 1
  by_cases e:y.1=g
  ·rw[j2 e,j2 (by rw[e])]
  ·rw[j_ e,j_ λz=>e (pu z)]
def eM.put(n:l≠dl)(d:H l=some (.lst c))(f:gK K H c i)(h:eM K H dl cv cm):eM K H dl (fk cv (.inr g) (.ref l)) (ph cm g i):=by
 unfold fk ph;rw[h.any g]
 split
 ·rename_i j;clear j
  induction h with|nil=>show .nil|@cons x y _ _ q r k=>
   show .cons ?_ k;obtain⟨h1,q⟩:=q
   by_cases e:y.1=g
   ·have b:x.1=.inr g:=by rw[h1,e]
    dsimp only;rw[g6 b,g6 e];show{h1,l,c,(),n,d,f}
   ·have b:¬x.1=.inr g:=λz=>e (by rw[h1]at z;show pu z);dsimp only;rw[g_ b,g_ e];show(h1,q,)
 ·show Paired.snoc h {(),l,c,(),n,d,f}
def DS{cv:List (bY×V)}{k:bY}{v:V}{x:bY×V}(h:x∈fk cv k v):x∈cv\/x.2=v:=by
 unfold fk at h
 split at h
 ·obtain⟨y,b,e⟩:=ji.mp h
  split at e
  ·rw[<-e];show .inr ()
  ·rw[<-e];show .inl b
 ·rcases List.mem_append.mp h with q|q
  ·show .inl q
  ·rw[List.mem_singleton.mp q];show .inr ()
def bT.some(h:bT K H iv ins)(hg:g∈ins.map (·.1)):(bf iv (.inr g)).isSome=true:=by induction h with|nil=>cases hg|@cons _ y _ _ h _ b=>
  by_cases e:y.1=g
  ·rw[cb (by rw[h.1,e])];rfl
  ·rw[bu (λz=>e (by rw[h.1]at z;show pu z))];rw[lm]at hg;show b ((q_.mp hg).resolve_left λq=>e q.symm)
theorem yq{c:Type}:∀{xs:List c}{i:Nat}{x:c},xs[i]?=some x->xs.set i x=xs|[],_,_,h=>by cases h|y::r,0,x,h=>by rw[j1 h];rfl|y::r,i+1,x,h=>pa (y::·) (yq (xs:=r) h)
def sM(M:be)(g nm:Str):Bool:=M.las.any λl=>decide (l.nm=nm)&&(cW l g).isSome
def cy(M:be)(g:Str)(c:List (Str×Str×Str)):List (Str×Str):=c.filterMap λr=>if sM M g r.1=true then none else some r.2
def Bn{M:be}(hn:(M.las.map bJ.nm).Nodup){i j:Nat}{l c:bJ}(hi:M.las[i]?=some l)(d:M.las[j]?=some c)(e:l.nm=c.nm):i=j:=by show(u_ (l:=M.las.map bJ.nm) (by rw[b_];show(d_.mp hi).1) hn).mp ?_;rw[ge,ge,hi,d];show pa some e
def uH{M:be}{g:Str}(hn:(M.las.map bJ.nm).Nodup){i:Nat}{l:bJ}(c:M.las[i]?=some l):sM M g l.nm=(cW l g).isSome:=by unfold sM;cases e:cW l g with|some r=>show Oh.mpr {l,f_ c,by rw[j2 (),e];rfl}|none=>show OK.mpr λf b z=>?_;obtain⟨j,d⟩:=ig.mp b;rw[k_]at z;have q:=Bn hn d c (l_ z.1);rw[q,c]at d;rw[<-j1 d,e]at z;cases z.2
def wu{M:be}{g:Str}{c:List (Str×Str×Str)}{r:Str×Str×Str}{b:Bool}(h:sM M g r.1=b):cy M g (c++[r])=cy M g c++if b=true then[]else[r.2]:=by unfold cy;rw[rr,rm,h];cases b<;>rfl
def xh{l:bJ}{g:Str}:(cW l g).isSome=true↔g∈l.ins.map (·.1):=by
 unfold cW;rw[NY]
 constructor
 ·intro h;obtain⟨x,b⟩:=t0.mp h;have c:=List.find?_some b;show ji.mpr {x,List.mem_of_find?_eq_some b,l_ c}
 ·intro h;obtain⟨x,b,e⟩:=ji.mp h;show List.find?_isSome.mpr {x,b,j2 e}
def zy{cm:List (Str×List (Str×Str))}{g c:Str}{j:List (Str×Str)}:dS (ph cm g j) c=if c=g then j else dS cm c:=by
 unfold ph
 split
 ·next h=>induction cm with|nil=>cases h|cons y r i=>
   by_cases e:y.1=g
   ·rw[lm,g6 e]
    by_cases b:c=g
    ·rw[g6 b];unfold dS;rw[p5 (by simp[e,b])];rfl
    ·rw[g_ b];have ne:¬y.1=c:=λz=>b (by rw[<-z,e]);have q:∀q:List (Str×List (Str×Str)),dS (q.map λx=>if x.1=g then(x.1,j)else x) c=dS q c:=λq=>by induction q with|nil=>rfl|cons z q k=>
       unfold dS at k⊢;rw[lm]
       by_cases d:z.1=c
       ·rw[g_ λw=>b (by rw[<-d,w]),p5 (by simp[d]),p5 (by simp[d])]
       ·rw[o0 (by split<;>simp[d]),o0 (by simp[d])];show k
     have l:=q r;unfold dS at l⊢;rw[o0 (by simp[ne]),o0 (by simp[ne])];show l
   ·rw[yl,j_ e,Bool.false_or]at h;have i:=i h;rw[lm,g_ e]
    by_cases f:y.1=c
    ·rw[g_ λz=>e (by rw[f,z])];unfold dS;rw[p5 (by simp[f]),p5 (by simp[f])]
    ·unfold dS at i⊢;rw[o0 (by simp[f]),o0 (by simp[f])];show i
 ·next h=>
  unfold dS;rw[OJ]
  by_cases e:c=g
  ·subst e;rw[g6 (),OF.mpr λx m z=>h (Oh.mpr (x,m,z,))];rw[p5 (by simp)];rfl
  ·rw[g_ e,o0 (by simp[nn e]),List.find?_nil,Oz]
def yt(c:List (Str×Str×Str))(nm:Str):Option (Str×Str):=(c.find? λr=>decide (r.1=nm)).map (·.2)
def xW(g:Str)(c:List (Str×Str×Str))(l:bJ):List (Str×Str×Str):=if(cW l g).isSome=true then[]else(yt c l.nm).toList.map λr=>(g,r)
def xF(g:Str)(c:List (Str×Str×Str))(l:bJ):bJ:={l with ins:=l.ins++xW g c l}
def oG{c:List (Str×Str×Str)}{r:Str×Str×Str}{nm:Str}:yt (c++[r]) nm=(yt c nm).or (if r.1=nm then some r.2 else none):=by unfold yt;rw[OJ];cases c.find? λr=>decide (r.1=nm)with|some x=>rfl|none=>
  by_cases e:r.1=nm
  ·rw[g6 e,p5 (by simp[e])];rfl
  ·rw[g_ e,o0 (by simp[e])];rfl
def tu{c:List (Str×Str×Str)}{nm:Str}(h:nm∉c.map (·.1)):yt c nm=none:=by unfold yt;rw[OF.mpr λx b z=>h (ji.mpr {x,b,l_ z})];rfl
def uF{g:Str}{c:List (Str×Str×Str)}{l:bJ}(h:xW g c l=[]):xF g c l=l:=by unfold xF;rw[h,nB]
def HC{g:Str}{c:List (Str×Str×Str)}{r:Str×Str×Str}{l:bJ}(h:r.1≠l.nm):xF g (c++[r]) l=xF g c l:=by unfold xF xW;rw[oG,g_ h,Oz]
def HB{g:Str}{ss:List (Str×Str×Str)}(l:bJ):xW g ss l=[]\/∃r,xW g ss l=[(g,r)]/\g∉l.ins.map (·.1):=by unfold xW;cases e:(cW l g).isSome with|true=>show .inl ()|false=>cases yt ss l.nm with|none=>show .inl ()|some r=>show .inr {r,(),λz=>by rw[xh.mpr z]at e;cases e}
structure iM(g:Str)(ss:List (Str×Str×Str))(M M':be):Prop where
 p:M'.p=M.p
 salt:M'.salt=M.salt
 trs:M'.trs=M.trs
 las:M'.las=M.las.map (xF g ss)came:dS M'.came g=dS M.came g++cy M g ss
 cm:M'.came=(cy M g ss).foldl (λc r=>ph c g (dS c g++[r])) M.came
 oth:∀g',g'≠g->dS M'.came g'=dS M.came g'
def iM.refl(g:Str)(M:be):iM g [] M M:={(),(),(),by have:xF g []=id:=funext λl=>uF (by unfold xW;split<;>rfl);rw[this,OU],by rw[show cy M g []=[]from (),nB],(),λ_ _=>()}
def iM.names{g:Str}{d:List (Str×Str×Str)}{M c:be}(h:iM g d M c):c.las.map bJ.nm=M.las.map bJ.nm:=by rw[h.las,qr];rfl
def jN.vis{g:Str}{i:List (Str×Str×Str)}{M d:be}{c:Nat}(h:jN M c)(v:iM g i M d)(hg:w6 g)(h1:∀x∈d.came,x.2.length<=10*c+4)(h2:d.came.length<=10*c+4):jN d (c+1):=by
 have j:=v.names;show{by rw[v.p];show h.p,by rw[j];show h.ln,by rw[v.trs];show h.tn,λl m=>?_,λt b=>?_,λx f=>by have:=h1 x f;lia,by rw[v.las,b_];show h.l4,by rw[v.trs];show h.tc,by lia,λt b=>by rw[v.trs]at b;show sD (h.br t b)}
 ·rw[v.las]at m;obtain⟨l,hm,rfl⟩:=ji.mp m;have k:=h.la l hm;have own:∀k z,z∈l.S.pl k->k=cB "" ""\/∃t∈d.trs,t.home=l.nm/\∃y∈t.arms,k=cB t.nm y:=by rw[v.trs];show k.own
  rcases HB (g:=g) (ss:=i) l with e|⟨r,e,hn⟩
  ·rw[uF e];show{k.wd,by rw[v.p];show k.sl,by rw[v.p];show k.ok,sD k.len,k.gs,k.nd,own}
  ·unfold xF;rw[e];show{k.wd,by rw[v.p];show k.sl,by rw[v.p];show k.ok,by change(_++[_]).length<=c+1;rw[hQ];show y2 k.len,λx f=>?_,?_,own}
   ·rcases List.mem_append.mp f with q|q
    ·show k.gs x q
    ·rw[List.mem_singleton.mp q];show hg
   ·change((_++[(g,r)]).map (·.1)).Nodup;rw[gV,m3];show{k.nd,by simp,λx f z n e=>hn (by rw[<-show z=g from List.mem_singleton.mp n,<-e];show f)}
 ·rw[v.trs]at b;have k:=h.tr t b;show{k with hm:=by rw[j];show k.hm}
def iM.row{g:Str}{m:List (Str×Str×Str)}{M d:be}(v:iM g m M d)(hn:(M.las.map bJ.nm).Nodup){i:Nat}{l:bJ}{r:Str×Str}{cm:List (Str×List (Str×Str))}(h:M.las[i]?=some l)(s:yt m l.nm=none){b:Bool}(o:(cW l g).isSome=b)(hc:dS cm g=dS d.came g++if b=true then[]else[r])(t:∀f,f≠g->dS cm f=dS d.came f)(u:cm=(if b=true then[]else[r]).foldl (λc r=>ph c g (dS c g++[r])) d.came):iM g (m++[(l.nm,r)]) M {d.setL i {l with ins:=l.ins++if b=true then[]else[(g,r)]}with came:=cm}:=by
 show{v.p,v.salt,v.trs,?_,?_,?_,λf n=>(t f n).trans (v.oth f n)}
 ·show vl λj=>?_;rw[ge];change(d.las.set i _)[j]?=_
  by_cases q:i=j
  ·subst q;rw[x_ (by rw[v.las,b_];show(d_.mp h).1),h];show pa some ?_;unfold xF xW;rw[oG,s,g6 (),o];cases b<;>rfl
  ·rw[pv q,v.las,ge];cases e:M.las[j]?with|none=>rfl|some k=>show pa some (HC λz=>q (Bn hn h e z)).symm
 ·change dS cm g=_;rw[hc,v.came,wu (r:=(l.nm,r)) ((uH hn h).trans o),vr]
 ·change cm=_;rw[wu (r:=(l.nm,r)) ((uH hn h).trans o),z_,<-v.cm,u]
def iM.one{g:Str}{c:List (Str×Str×Str)}{M M1 M2:be}(h1:iM g c M M1)(h2:iM g c M M2):M1=M2:=by cases M1;cases M2;obtain⟨rfl,rfl,rfl,rfl,_,rfl,_⟩:=h1;obtain⟨rfl,rfl,rfl,rfl,_,rfl,_⟩:=h2;rfl
structure Mr(M:be)(g:Str)(ms:List (Str×Int))(ls:List bJ)(ss:List (Str×Str×Str)):Prop where
 nd:(ss.map (·.1)).Nodup
 nm:∀r∈ss,r.1∈ls.map bJ.nm
 at_:∀(j:Nat)(r:Str×Str×Str),ss[j]?=some r->∃l∈ls,r.1=l.nm/\uX M g ms l (yb M g (ss.take j)) r.2
 seat:∀l∈ls,cW l g≠none->yt ss l.nm=cW l g
 all:ls.filterMap (λl=>(yt ss l.nm).map λr=>(l.nm,r))=ss
def kE.ok{M:be}{g:Str}{t:List (Str×Int)}{ls:List bJ}{c:List (Str×Str×Str)}(h:kE M g t ls c):(ls.map bJ.nm).Nodup->Mr M g t ls c:=by
 induction h with|nil=>showλ_=>{.nil,λr i=>(nomatch i),λj r e=>(nomatch e),λl A=>(nomatch A),()}|@skip ls c l h hn _ p=>
  intro hd;rw[gV,m3]at hd;have k:=p hd.1;have no:yt c l.nm=none:=tu λz=>by obtain⟨r,i,e⟩:=ji.mp z;show hd.2.2 _ (k.nm r i) l.nm (List.mem_singleton.mpr ()) e
  show{k.nd,λr i=>by rw[gV];show np _ (k.nm r i),λj r e=>let⟨b,h1,h2⟩:=k.at_ j r e;{b,np _ h1,h2},λb d m=>?_,?_}
  ·rcases List.mem_append.mp d with q|q
   ·show k.seat b q m
   ·rw[List.mem_singleton.mp q]at m;show absurd hn m
  ·rw[rr,k.all,rm,no];show nB _|@row ls c l r h i p=>
  intro hd;rw[gV,m3]at hd;have k:=p hd.1;have ne:∀u∈ls.map bJ.nm,u≠l.nm:=λu h' e=>hd.2.2 _ h' l.nm (List.mem_singleton.mpr ()) e;have no:yt c l.nm=none:=tu λz=>by obtain⟨r,i,e⟩:=ji.mp z;show ne _ (k.nm r i) e
  have oth:∀b∈ls,yt (c++[(l.nm,r)]) b.nm=yt c b.nm:=λb d=>by rw[oG,g_ λe=>ne _ (ji.mpr {b,d,()}) e.symm,Oz]
  have own:yt (c++[(l.nm,r)]) l.nm=some r:=by rw[oG,no,g6 ()];rfl
  show{?_,λx s=>?_,λj x e=>?_,λb d m=>?_,?_}
  ·rw[gV,m3];show{k.nd,by simp,λx s z B e=>?_};obtain⟨y,C,rfl⟩:=ji.mp s;show ne _ (k.nm y C) (e.trans (List.mem_singleton.mp B))
  ·rw[gV];rcases List.mem_append.mp s with q|q
   ·show np _ (k.nm x q)
   ·rw[List.mem_singleton.mp q];show mu _ (List.mem_singleton.mpr ())
  ·by_cases o:j<c.length
   ·rw[rk o]at e;rw[NB (sT o)];obtain⟨b,h1,h2⟩:=k.at_ j x e;show{b,np _ h1,h2}
   ·have o:c.length<=j:=OR o;rw[y_ o]at e;have h0:j-c.length=0:=by cases q:j-c.length with|zero=>rfl|succ n=>rw[q]at e;cases e
    rw[h0]at e;obtain rfl:=j1 e;have D:j=c.length:=by lia
    rw[D,NB (e_ _),hF (e_ _)];show{l,mu _ (List.mem_singleton.mpr ()),(),i}
  ·rcases List.mem_append.mp d with q|q
   ·rw[oth b q];show k.seat b q m
   ·rw[List.mem_singleton.mp q]at m⊢;rw[own];rcases i with e|⟨e,_⟩
    ·show e.symm
    ·show absurd e m
  ·rw[rr,rm,own,show ls.filterMap (λb=>(yt (c++[(l.nm,r)]) b.nm).map λr=>(b.nm,r))=c from ?_]
   ·rfl
   ·show Eq.trans ?_ k.all;have v:∀f:bJ->Option (Str×Str×Str),ls.filterMap f=(ls.map f).filterMap id:=λf=>by rw[List.filterMap_map];rfl
    rw[v,v,w_ λb d=>by rw[oth b d]]
inductive F1(P:O7)(w:World)(K:O2)(a:fJ)(vs:List V)(H:Hp)(Q:VK)(E:XK):Prop|mk(M:be)(Z:ZS)(c:Nat)(g:Str)(mv:V)(ms:List (Str×Int))(_:vs=[.ref (Z.G .hh),.str g,mv])(_:bP P w K a H M Z c)(_:c<=63)(_:w6 g)(_:pX K H ms mv)(_:ms.length<=8)(_:∀(r:Addr)(us:List V)(ss:List (Str×Str×Str))(M':be)(Z':ZS)(H':Hp),kE M g ms M.las ss->iM g ss M M'->gr H M Z H' M' Z'->bP P w K a H' M' Z' (c+1)->H r=none->H' r=some (.lst us)->Z'.ds=Z.ds->Q (.ref r) H')
inductive JD(P:O7)(w:World)(K:O2)(a:fJ)(H:Hp)(M:be)(Z:ZS)(c:Nat)(g:Str)(mv:V)(r:Addr)(us:List V)(ss:List (Str×Str×Str))(k:Nat)(σ:St)(H':Hp):Prop|mk(M':be)(Z':ZS)(v4 v5 v6 v7:Option V)(v:iM g (ss.take k) M M')(hG:bA P w K a H' M' Z')(etk:Z'.tk=Z.tk)(eow:Z'.ow=Z.ow)(eds:Z'.ds=Z.ds)(hcm:∀x∈M'.came,x.2.length<=10*c+k)(hcl:M'.came.length<=10*c+k)(st:gr H M Z H' M' Z')(nF:¬ib M' Z' r)(hr:H' r=some (.lst us))(hs:gL K H' us ss)(e:σ=[some (.ref (Z.G .hh)),some (.str g),some mv,some (.ref r),v4,v5,v6,v7]):JD P w K a H M Z c g mv r us ss k σ H'
section
def pB(T:Txt K mg a):aP P w K mg base cP 10 a.c7.x a.c7.d ["self","guest","marks"] (F1 P w K a):=by
 show T.c7.ok cD λfm A outer s H vs Q E hr h=>?_
 ·obtain⟨M,Z,c,g,mv,ms,rfl,S,hc,hg,hm,ej,q⟩:=h;show{_,(ag (bp 3 cD.nd (aU (Y 0) T.ao T.bw.m ((iC (P:=P) (w:=w) T).mono (by decide)) hr T.bw.b .nil aQ (ac (Y 1) (ac (Y 2) O)))) (ag (dN mo () (cL K () (Y 3)) (ft K () () (bh (qo 4 cD.nd) (bh (qo 5 cD.nd) (bh (qo 6 cD.nd) fq)))) (ag (bp 7 cD.nd (cM (bZ hr) (aC K () (Y 0)) (Y 4) (λ_ _=>()))) (ah (aN (nN (mC (bZ hr) (Y 1) (aC K () (Y 7))) ()) (ag (kO (bx (ac (Y 5) (ac (Y 6) O))) (kP (aC K () (Y 7)) (Y 1) (qi (bZ hr)))) (ah (kO (aA Ah (ud (bZ hr) (aC K () (Y 0)) (Y 1) (bj O) {(),(),(),()}) (bj (ac (bx (ac (Y 5) (ac (Y 6) O))) O))) (kP (aC K () (Y 0)) (Y 1) (qi (bZ hr)))))) aE)))) (ah (ay (Y 3))))),?_}
  show iN S.g.house () () (U () (U () {M,Z,c,g,mv,ms,(),S,hc,hg,hm,ej,λr us H1 s1 hr c1 ss X hA c2=>au ?_}));have c3:=hA.ok S.ok.ln;have c2:us.length<=4:=by rw[Paired.length X];show c2
  have ek:¬ib M Z r:=S.g.foot hr;show U () {r,(),{_,aS.of c1},?_};show gc (xs:=us) (JD P w K a H M Z c g mv r us ss) {M,Z,_,_,_,_,iM.refl g M,S.g.same s1,(),(),(),S.ok.cm,S.ok.cl,gr.of s1,ek,c1,X,()} (λk σ H' _ h=>by obtain⟨_,_,_,_,_,_,_,_,_,_,_,_,_,_,_,h,_⟩:=h;show aS.of h) ?_ ?_
  ·rintro k v σ H2 hv⟨M2,f,v4,v5,v6,v7,v2,F,a6,a7,aa,ad,c4,al,an,ap,W,rfl⟩N R B hN;have hk:k<us.length:=(d_.mp hv).1;obtain⟨⟨nm,t,y⟩,da,b,rfl,hb⟩:=Paired.at_ W k v hv;obtain⟨l,el,en,fo⟩:=c3.at_ k _ da;obtain rfl:nm=l.nm:=en;obtain⟨i,hl⟩:=ig.mp el;have bi:ss.take (k+1)=ss.take k++[(l.nm,t,y)]:=bK da;have bl:yt (ss.take k) l.nm=none:=tu λz=>by have nd:=c3.nd;rw[<-ro (k+1) ss,bi,gV,gV]at nd;show(m3.mp (m3.mp nd).1).2.2 _ z l.nm (List.mem_singleton.mpr ()) ()
   show{b,U () {hb,(),_,U () (au {_,U () (au {_,U () (au {(),?_})})})}};have I:M2.las[i]?=some l:=by rw[v2.las,ge,hl];show pa some (uF (by unfold xW;rw[bl];split<;>rfl))
   have dc:f.G .hh=Z.G .hh:=al.hh;have di:=F.house;have dv:=F.lays;have dT:bf (gN (M2.las.map bJ.nm) λi=>V.ref (f.G (.lo i))) (.inr l.nm)=some (.ref (f.G (.lo i))):=sK (by rw[v2.names];show S.ok.ln) (by rw[ge,I];rfl);rw[dc]at di;show fI di T.ao T.aK () () (U () (rG (.ref (f.G (.lo i))) (by rw[<-dT];show dn.k (k:=.inr l.nm) dv) (au ?_)));have dV:=F.layer I;have d1:=F.inside I;show U () (fI dV T.bB T.bH () () (rG (bf (f.iv i) (.inr g)) (dn.k (k:=.inr g) d1) (U () ?_)));have bo:=F.seats i _ I
   by_cases a8:g∈l.ins.map (·.1)
   ·rw[bo.some a8];have eo:(cW l g).isSome=true:=xh.mpr a8;show cu (hN _ _ {M2,f,_,_,_,_,?_,F,a6,a7,aa,λx hx=>by have:=ad x hx;lia,by lia,al,an,ap,W,()});have v3:=v2.row (r:=(t,y)) (cm:=M2.came) S.ok.ln hl bl eo (by rw[g6 (),nB]) (λ_ _=>()) ();rw[g6 (),nB]at v3;rw[bi];have e3:({M2.setL i {l with ins:=l.ins}with came:=M2.came}:be)=M2:=by change{M2 with las:=M2.las.set i l}=M2;rw[yq I]
    show e3▸v3
   ·have as:=bo.none a8;rw[as];show bI (U () (U () {ls (),λT1 er=>?_}));show gS er λH3 s3 e3=>?_;have bt:=F.same s3;have fv:(f.iv i).length<=100:=by rw[bo.len];have:=(S.ok.la l (f_ hl)).len;lia
    show fI (s3 _ _ dV) T.bB T.bH () () (U () {f.G (.iu i),_,.inr g,(),(),s3 _ _ d1,by rw[g8];lia,?_});rw[pi _ as];have J:bA P w K a (aH H3 (f.G (.iu i)) (.dK (f.iv i++[(.inr g,.ref T1)]))) (M2.setL i {l with ins:=l.ins++[(g,t,y)]}) {f with iv:=λj=>if j=i then f.iv i++[(.inr g,.ref T1)]else f.iv j}:=bt.setIns (iv':=f.iv i++[(.inr g,.ref T1)]) (ins':=l.ins++[(g,t,y)]) I (Paired.snoc (bt.seats i _ I) {(),T1,(),aY.of e3});have d4:=(d_.mp I).1;have ax:gr H3 M2 f (aH H3 (f.G (.iu i)) (.dK (f.iv i++[(.inr g,.ref T1)]))) (M2.setL i {l with ins:=l.ins++[(g,t,y)]}) {f with iv:=λj=>if j=i then f.iv i++[(.inr g,.ref T1)]else f.iv j}:=gr.put (show i<_ from d4) () (wr ..) () () λx hx=>.inl hx;have bz:=bt.imm (r:=.iu i) (by simp only[cont,I];rfl) (cK (o':=.dK (f.iv i++[(.inr g,.ref T1)])));have bO:=cK (x:=f.G (.iu i)) (o':=.dK (f.iv i++[(.inr g,.ref T1)])) _ _ (s3 _ _ ap) λz=>an (.inl {.iu i,d4,z});have b8:¬ib (M2.setL i {l with ins:=l.ins++[(g,t,y)]}) {f with iv:=λj=>if j=i then f.iv i++[(.inr g,.ref T1)]else f.iv j} r:=λz=>(ax.fp r z).elim an λz=>by rw[s3 _ _ ap]at z;cases z
    have ew:=bz.kp.tq (K:=K) (aY.of e3);have bc:=(W.kp (.of s3)).kp bz.kp;generalize a9:M2.setL i {l with ins:=l.ins++[(g,t,y)]}=M4 at J ax b8;generalize a2:({f with iv:=λj=>if j=i then f.iv i++[(.inr g,.ref T1)]else f.iv j}:ZS)=C at J ax b8;have a3:C.G=f.G:=by rw[<-a2]
    have fa:C.cv=f.cv:=by rw[<-a2]
    have d5:C.tk=f.tk:=by rw[<-a2]
    have d9:C.ow=f.ow:=by rw[<-a2]
    have ea:C.ds=f.ds:=by rw[<-a2]
    have D:M4.came=M2.came:=by rw[<-a9]
    generalize aH H3 (f.G (.iu i)) (.dK (f.iv i++[(.inr g,.ref T1)]))=H4 at J ax bz bO ew bc⊢;have b9:=J.house;rw[a3,dc]at b9;have ba:=J.cams;rw[a3]at ba;show fI b9 T.ao T.cY () () {f.G .ci,(),.inl {_,.inl ba},U () {ls (),λl0 ey=>?_}};show gS ey λH5 s5 e5=>?_;show{bf C.cv (.inr g),dn.k (k:=.inr g) (s5 _ _ ba),_,(),U () {ls (),λL ez=>{ls (),λl1 eb=>?_}}};have s7:=aj (o:=.lst [.ref L]) (aj (o:=.tup [.str t,.str y]) (am.refl H5) ez) eb;have e7:aH (aH H5 L (.tup [.str t,.str y])) l1 (.lst [.ref L]) l1=some (.lst [.ref L]):=ae;have e6:aH (aH H5 L (.tup [.str t,.str y])) l1 (.lst [.ref L]) L=some (.tup [.str t,.str y]):=by rw[ak (az ae eb)];show ae
    generalize aH (aH H5 L (.tup [.str t,.str y])) l1 (.lst [.ref L])=H7 at s7 e6 e7⊢;have bb:=s5.trans s7;obtain⟨ll,p,u,ec,ev,eG,ed,fy⟩:∃ll p u,u=dS M4.came g/\(bf C.cv (.inr g)).getD (.ref l0)=.ref ll/\H7 ll=some (.lst p)/\gK K H7 p u/\u.length<=10*c+k:=by
     rcases J.came.find g with⟨e,e'⟩|⟨eH,eN,e,_,h2,h3,h4⟩
     ·show{l0,[],[],e'.symm,by rw[e];rfl,s7 _ _ e5,.nil,by simp}
     ·have h5:=h4;rw[D]at h5;have:=ad _ h5;show{eH,eN,U () {by rw[e];rfl,bb _ _ h2,h3.kp (.of bb),by rw[D];show this}}
    have fc:p.length=u.length:=Paired.length ed;rw[ev];show{ll,l1,p,[.ref L],(),(),eG,e7,by rw[g8];simp;lia,λlp cc=>?_};have s8:=aj (o:=.lst (p++[.ref L])) bb cc;have e8:aH H7 lp (.lst (p++[.ref L])) lp=some (.lst (p++[.ref L])):=ae;have ef:gK K (aH H7 lp (.lst (p++[.ref L]))) (p++[.ref L]) (u++[(t,y)]):=gK.kp (Kp.new cc) (Paired.snoc ed {L,(),aY.of e6});have a5:H4 lp=none:=bb.free cc;generalize aH H7 lp (.lst (p++[.ref L]))=H8 at s8 e8 ef⊢;have c0:=J.same s8;have fl:C.cv.length<=10*c+k:=by have:=Paired.length J.came;rw[this,D];show c4
    show fI (s8 _ _ b9) T.ao T.cY () () (U () {f.G .ci,_,.inr g,(),(),s8 _ _ ba,by rw[g8];lia,?_});have e0:lp≠C.G .dl:=λz=>by rw[z,J.dees]at a5;cases a5
    have e1:bA P w K a (aH H8 (f.G .ci) (.dK (fk C.cv (.inr g) (.ref lp)))) {M4 with came:=ph M4.came g (u++[(t,y)])} {C with cv:=fk C.cv (.inr g) (.ref lp)}:=by rw[show f.G .ci=C.G .ci by rw[a3]];show c0.setCame (c0.came.put (g:=g) e0 e8 ef)
    have eh:=c0.imm (r:=.ci) () (cK (o':=.dK (fk C.cv (.inr g) (.ref lp))));rw[a3]at eh;have ei:gr H4 M4 C (aH H8 (f.G .ci) (.dK (fk C.cv (.inr g) (.ref lp)))) {M4 with came:=ph M4.came g (u++[(t,y)])} {C with cv:=fk C.cv (.inr g) (.ref lp)}:=by
     show{(),λb o e n=>by rw[ak λz=>n (.inl {.ci,trivial,by rw[a3];show z})];show s8 b o e,λb z=>?_,λb z=>s8.free (lX z),()};rcases z with z|z|⟨x,hx,e⟩
     ·show .inl (.inl z)
     ·show .inl (.inr (.inl z))
     ·rcases DS hx with q|q
      ·show .inl (.inr (.inr (x,q,e,)))
      ·rw[q]at e;cases e;show .inr a5
    have v9:iM g (ss.take (k+1)) M {M4 with came:=ph M4.came g (u++[(t,y)])}:=by
     rw[bi,<-a9];show v2.row (r:=(t,y)) S.ok.ln hl bl (b:=false) ?_ ?_ (λg' n=>?_) ?_
     ·cases e:(cW l g).isSome with|false=>rfl|true=>show absurd (xh.mp e) a8
     ·rw[zy,g6 (),ec,<-a9];rfl
     ·rw[zy,g_ n]
     ·rw[ec,<-a9];rfl
    have e2:=(al.trans (gr.of s3)).trans (ax.trans ei);have e4:aH H8 (f.G .ci) (.dK (fk C.cv (.inr g) (.ref lp))) r=some (.lst us):=by rw[ak λz=>an (.inl {.ci,trivial,z})];show s8 _ _ bO
    show hN _ _ {_,{C with cv:=fk C.cv (.inr g) (.ref lp)},_,_,_,_,v9,e1,d5.trans a6,d9.trans a7,ea.trans aa,λx hx=>?_,?_,e2,λz=>(ei.fp r z).elim b8 (λz=>by rw[bO]at z;cases z),e4,(bc.kp (.of s8)).kp eh.kp,()}
    ·rcases DQ hx with q|q
     ·rw[D]at q;have:=ad x q;lia
     ·rw[q,hQ];simp;lia
    ·have:=DR (cm:=M4.came) (g:=g) (ss:=u++[(t,y)]);rw[D]at this;change(ph M4.came g (u++[(t,y)])).length<=_;rw[D];lia
  ·rintro σ H2⟨M2,f,v4,v5,v6,v7,v2,F,a6,a7,aa,ad,c4,al,an,ap,W,rfl⟩;rw[Paired.length X,hF (e_ _)]at v2;show U () (q r us ss M2 f H2 hA v2 al {F,S.ok.vis v2 hg (λx hx=>by have:=ad x hx;lia) (by lia),λj=>by rw[a6];have:=S.tk j;lia,λj=>by rw[a7];have:=S.ow j;lia,by rw[aa];have:=S.ds;lia} hr ap aa)
end
inductive Go(K:O2)(g:Addr)(vs:List V)(H:Hp)(Q:VK)(_E:XK):Prop|mk(d:Addr)(k:Str)(xs:List V)(_:vs=[.ref d])(_:aY K H d (.str k::xs))(_:(∃tk,PySem.W.nsIn K g k=some (some (.int ((xs.length:Int)+1) tk))))(_:Q .non H)
inductive Dw(K:O2)(vs:List V)(H:Hp)(Q:VK)(_E:XK):Prop|mk(t d:Addr)(l:O8)(kvs:List (bY×V))(_:vs=[.ref t,.ref d])(_:aY K H t (l.map V.str))(_:H d=some (.dK kvs))(_:(∀x∈l,Wd x/\(bf kvs (.inr x)).isSome=true))(_:l.Nodup)(_:l.length<=8)(_:∀H',am H H'->Q .non H')
inductive Dv(P:O7)(w:World)(K:O2)(a:fJ)(vs:List V)(H:Hp)(Q:VK)(_E:XK):Prop|mk(z:Int)(M:be)(Z:ZS)(_:vs=[.int z,.int M.p,.ref (Z.G .ln)])(_:bA P w K a H M Z)(_:M.las.length<=4)(_:0<=z)(_:z<=M.p)(_:z∉M.las.map bJ.sl)(_:∀H',am H H'->Q .non H')
inductive Ds(K:O2)(vs:List V)(H:Hp)(Q:VK)(_E:XK):Prop|mk(d ly tr ar sh:Addr)(ru:V)(x y:Str)(r:Ru)(ws l ss:O8)(lk tk:List (bY×V))(_:vs=[.ref d,.ref ly,.ref tr])(_:aY K H d [.str "trial",.str x,.str y,.ref ar,ru,.ref sh])(_:Wd x)(_:Wd y)(_:H ly=some (.dK lk))(_:H tr=some (.dK tk))(_:bf tk (.inr x)=none)(_:(bf lk (.inr y)).isSome=true)(_:aY K H ar (l.map V.str))(_:(∀w∈l,Wd w))(_:l.Nodup)(_:1<=l.length)(_:l.length<=4)(_:fB K H r ru)(_:r.hgt<=6)(_:r.cnt<=30)(_:jL ws r)(_:(∀w∈ws,Wd w))(_:ws.length<=3)(_:aY K H sh (ss.map V.str))(_:(∀x∈ss,Wd x/\(bf tk (.inr x)).isSome=true))(_:ss.Nodup)(_:ss.length<=8)(_:∀H',am H H'->Q .non H')
section
def vq(T:Txt K mg a)(f:w.params=a.pm):aP P w K mg base cP 1 a.gX.x a.gX.d ["deed"] (Go K a.fC):=by
 show T.gX.ok vg λg A outer s H j Q E l h=>?_
 ·obtain⟨d,k,c,rfl,b,⟨tk,i⟩,q⟩:=h;show{_,(ag (aN (PW.pt (fL (cp (aT K () (aB (fb K ()) (by rfl) T.bS L2.bg (ac (Y 0) (ac (lg () T.dZ L2.bW) O))) (λ_=>()))) (dX (aD aX (aB (aI K ()) (by rfl) T.bE L2.aL (ac (Y 0) O)) af (aG _))))) (ah ce) aE) (ah (aN (PW.pt (fL (cp (aT K () (aB (mJ K ()) (by rfl) T.bS L2.bg (ac (dJ K (Y 0) af) (ac (lg () T.HW L2.zD) O))) (λ_=>()))) (dX (aD HV (GH K () (MW f T.Aw) () T.Cn (dJ K (Y 0) af) {(),(),(),()}) (aB (aI K ()) (by rfl) T.bE L2.aL (ac (Y 0) O)) (aG _))))) (ah ce) aE))),?_}
  show U () {_,"tuple",_,true,(),.inr {d,U () {b,()}},iK (dk ()),true,(),cu ?_};show U () {_,U () {.inr {_,b,()},(),U () (kj (λh=>absurd h (by rw[md];lia)) (λ_=>?_))}};show U () (rX b (aq (k:=0) ()) ?_);show{_,"str",_,true,(),.str k,iK (dk ()),true,(),cu ?_};show U () (rX b (aq (k:=0) ()) {k,U () {i,.inr {_,.int ((c.length:Int)+1),(),{tk,()},?_}}});show U () {_,U () {.inr {_,b,()},(),U () ?_}};have e:decide (V.int ((c.length:Int)+1)=V.int (((V.str k::c).length:Nat):Int))=true:=j2 (by simp);rw[e];show q
def uk(T:Txt K mg a):aP P w K mg base cP 5 a.gi.x a.gi.d ["thing","trials"] (Dw K):=by
 show T.gi.ok i0 λW A outer s H vs Q E X h=>?_
 ·obtain⟨t,d,l,B,rfl,b,hd,Z,C,h8,q⟩:=h;show{_,(ag (aN (PW.pt (fL (cp (aT K () (aB (fb K ()) (by rfl) T.bS L2.bg (ac (Y 0) (ac (lg () T.dZ L2.bW) O))) (λ_=>()))) (dX (aD rc (aB (aI K ()) (by rfl) T.bE L2.aL (ac (Y 0) O)) (cx T.xR ()) (aG _))))) (ah ce) aE) (ah (dN mo () (GG K () () T.y7 (ac (Y 0) O)) (ft K () () (bh (qo 2 i0.nd) (bh (qo 3 i0.nd) fq))) (ag (aM (pc T.bN (dz T) X (ac (Y 3) (ac (Y 1) O)))) (ah (aN (aD (nQ K ()) (Y 3) (fM (AZ K ()) (Y 0) ix (iw (Y 2))) (by with_unfolding_all rfl)) (ah ce) aE)))))),?_}
  show U () {_,"tuple",_,true,(),.inr {t,U () {b,()}},iK (dk ()),true,(),cu ?_};show U () {_,l.length,(),.inr {_,b,by simp},_,U () {(),U () (lz (λh=>absurd h (by lia)) (λ_=>?_))}};show U () {t,U () {b,?_}};show EY (n:=l.length) (λk j H'=>am H H'/\(Mp λD F=>j=[some (.ref t),some (.ref d),D,F])) {am.refl H,_,_,()} (λk j H' L h=>{_,.str l[k],am.tseq h.1 b,by rw[ge,ga L];rfl}) ?_ ?_
  ·rintro k j m v H2 L⟨c,D,F,rfl⟩⟨r,x,G,rfl,rfl,y⟩;have y:=y _ (am.tseq c b);rw[ge]at y;obtain⟨z,M,rfl⟩:=Option.map_eq_some_iff.mp y;have I:=aj (o:=.tup [.int k,.str z]) c G;have N:aH m r (.tup [.int k,.str z]) r=some (.tup [.int k,.str z]):=ae;generalize aH m r (.tup [.int k,.str z])=H2 at I N⊢;show{r,U () {aY.of N,(),_,U () (au {_,U () (au {(),?_})})}};have f:=Z z (f_ M);show U () (U () {z,d,B,(),f.1,I _ _ hd,f.2,λH3 s3=>?_});have g:=I.trans s3;show U () (U () (U () (U () {t,U () {am.tseq g b,?_,λp hp=>?_}})))
   ·rintro⟨_,e⟩;rw[b_]at e;have e:(if(k:Int)<0 then((k:Int)+(l.length:Int)).toNat else min (k:Int).toNat l.length)=l.length:=e;rw[g_ (by lia)]at e;lia
   ·rw[xM _ (by lia)];show{p,U () {.inr (aY.of ae),(),?_,U () ?_}}
    ·rw[<-OD];show qg _
    ·rw[<-OD];have J:z∉l.take (k:Int).toNat:=λh=>by have:=C;rw[<-ro k l,m3]at this;show this.2.2 z (by simpa using h) z (f_ (i:=0) (by rw[OE,Nat.add_zero];show M)) ()
     have e:nX (.str z) ((l.take (k:Int).toNat).map V.str)=false:=by cases R:nX (.str z) ((l.take (k:Int).toNat).map V.str)with|false=>rfl|true=>unfold nX at R;obtain⟨v,hv,e⟩:=Oh.mp R;obtain⟨u,S,rfl⟩:=ji.mp hv;have e:(u==z)=true:=e;rw[eq_of_beq e]at S;show absurd S J
     change if(if false=true then _ else nX (.str z) ((l.take (k:Int).toNat).map V.str))=true then _ else _
     rw[g_ iq,e];show cu {(g.trans (aj (am.refl _) hp)),_,_,()}
  ·rintro j m⟨c,D,F,rfl⟩;show{{_,am.tseq c b,by rw[b_]},q m c}
def uj(T:Txt K mg a):aP P w K mg base cP 3 a.gh.x a.gh.d ["thing","prime","layers"] (Dv P w K a):=by
 show T.gh.ok tE λL A outer s H S Q E N h=>?_
 ·obtain⟨z,M,Z,rfl,J,h4,h0,h1,hn,q⟩:=h;show{_,(ag (aN (PW.pt (fL (cp (aT K () (pc T.eV (gb T) N (ac (Y 0) O)) (λ_=>()))) (dX (aD rc (Y 0) (Y 1) (aG _))))) (ah ce) aE) (ah (aN (aD (nQ K ()) (Y 0) (Af (P:=P) (w:=w) (sB jM ["layer"] [] [3] (ai jE) (b0 3) (GD (P:=P) (w:=w) (Y 2)) (λcl C s₀ H₀ ex=>{(lB jM ["layer"] 3),bQ,(aC K () (Y 3))}))) (by with_unfolding_all rfl)) (ah ce) aE))),?_}
  show U () {z,(),h0,U () (cu ?_)};show U () (U () {z,M.p,(),(),U () (lz (λh=>absurd h (by lia)) (λ_=>?_))});have g:=J.lays;show U () (U () {Z.G .ln,U () {g,λep=>?_}});showλD t=>?_;have nd:Z.G .ln≠D:=λz=>by rw[<-z,ae]at t;cases t
  have r:H D=none:=by rw[ak (nn nd)]at t;show t
  show pS (n:=M.las.length) (λk c u=>(∀b o,H b=some o->b≠Z.G .ln->u b=some o)/\u (Z.G .ln)=some (dE P w (Z.G .ln) (gN (M.las.map bJ.nm) λi=>.ref (Z.G (.lo i))) ep)/\u D=some (.lst c)/\c=((M.las.map bJ.sl).take k).map V.int) {λb o e n=>by rw[ak (az e r),ak n];show e,by rw[ak nd,ae],ae,()} (λk c u v h=>{h.2.1,by rw[gA,b_];show v}) ?_ ?_
  ·rintro k c R x W v⟨y,f,j,rfl⟩⟨rfl,B⟩;have I:=ga v;rw[ux,ge,I]at B;have B:V.ref (Z.G (.lo k))=x:=j1 B;subst B;have m:=J.layer I;show au (iG (bI (fI (y _ _ m (λz=>by rw[z,g]at m;cases m)) T.bB T.gC () () {j,by rw[b_,k4,g8];lia,lf v {λb o e n=>by rw[ak (az e r)];show y b o e n,by rw[ak nd];show f,ae,?_}})));rw[bK (l:=M.las.map bJ.sl) (x:=(M.las[k]).sl) (by rw[ge,I];rfl),gV];rfl
  ·rintro c R⟨y,f,j,rfl⟩;show{{f,by rw[gA,b_];show e_ _},Z.G .ln,_,ep,f,D,_,(),.inl (aS.of (by rw[ak (nn nd)];show j)),(),nW _,_,(),?_};rw[hF (by rw[b_];show e_ _)];change if(if false=true then _ else nX (.int z) ((M.las.map bJ.sl).map V.int))=true then _ else _
   rw[g_ iq,Bs,j_ hn];show cu (q _ λb o e=>?_)
   by_cases F:b=Z.G .ln
   ·rw[F,g]at e;rw[F,ae];show e
   ·rw[ak F];show y b o e F
def ui(T:Txt K mg a):aP P w K mg base cP 12 a.gf.x a.gf.d ["deed","layers","trials"] (Ds K):=by
 show T.gf.ok tz λI A outer s H vs Q E f h=>?_
 ·obtain⟨d,J,tr,ar,sh,ru,x,y,r,L,l,M,lk,tk,rfl,g,N,R,k,i,j,m,n,h1,h2,h3,h4,o,p,t,u,v,z,B,C,D,F,q⟩:=h;show{_,(ag (aM (pc T.gW (py T) f (ac (dJ K (Y 0) af) (ac (Y 2) O)))) (ag (aM (pc T.bN (dz T) f (ac (dJ K (Y 0) af) (ac (Y 1) O)))) (ag (aM (pc T.gY (vx T) f (ac (dJ K (Y 0) af) O))) (ag (aM (pc T.gU (vo T) f (ac (dJ K (Y 0) af) O))) (ah (aM (pc T.gi (uk T) f (ac (dJ K (Y 0) af) (ac (Y 2) O))))))))),?_}
  show U () (rX g () (U () {x,tr,tk,(),N,i,j,λH1 G=>?_}));show U () (rX (am.tseq G g) () (U () {y,J,lk,(),R,G _ _ k,m,λH2 S=>?_}));have c:=G.trans S;show U () (rX (am.tseq c g) () {ar,l,(),am.tseq c n,h1,h2,h3,h4,λH3 V=>?_});have e:=c.trans V;show U () (rX (am.tseq e g) () {r,ru,L,(),o.kp (.of e),p,t,u,v,z,λH4 W=>?_});have b:=e.trans W;show U () (rX (am.tseq b g) () (U () {sh,tr,M,tk,(),am.tseq b B,b _ _ i,C,D,F,λX Z=>q X (b.trans Z)}))
end
inductive Dd|layer(nm:Str)(sl:Int)|trial(x:dD)|share(t:dD)(ns:Pc)|deal(t:dD)(z:Int)(ws:Pc)|hold(l:bJ)(z:Int)|pause(t:dD)(b:Bool)|close(t:dD)|bar(g:Str)(t:dD)|visit(g:Str)(ms:List (Str×Int))
def Dd.clo:Dd->Bool|.share t _=>t.clo|.deal t _ _=>t.clo|.pause t _=>t.clo|.close t=>t.clo|_=>false
inductive jj(K:O2)(H:Hp)(M:be):Dd->List V->Prop|layer{nm:Str}{sl:Int}(h1:Wd nm)(h2:nm∉M.las.map bJ.nm)(h3:0<=sl/\sl<=M.p)(h4:sl∉M.las.map bJ.sl)(h5:M.las.length<4):jj K H M (.layer nm sl) [.str "layer",.str nm,.int sl]|trial{x:dD}{ar sh ra:Addr}{ws:O8}(h1:HD M x)(h2:x.nm∉M.trs.map dD.nm)(h3:aY K H ar (x.arms.map V.str))(h4:fB K H x.rule (.ref ra))(h5:x.rule.cnt<=30)(h6:jL ws x.rule)(h7:∀w∈ws,Wd w)(h8:ws.length<=3)(h9:aY K H sh (x.shuts.map V.str))(ha:∀s∈x.shuts,s∈M.trs.map dD.nm)(hb:x.shuts.Nodup)(hc:x.pau=false)(hd:x.clo=false)(he:x.bar=[])(hf:M.trs.length<10):jj K H M (.trial x) [.str "trial",.str x.nm,.str x.home,.ref ar,.ref ra,.ref sh]|share{t:dD}{ns:Pc}{nv:Addr}(h1:t∈M.trs)(h2:aY K H nv (ns.map V.int))(h3:ns.length=t.arms.length)(h4:∀x∈ns,0<=x):jj K H M (.share t ns) [.str "share",.str t.nm,.ref nv]|deal{t:dD}{z:Int}{ws:Pc}{wv:Addr}(h1:t∈M.trs)(hz:0<=z/\z<=1000)(h2:aY K H wv (ws.map V.int))(h3:ws.length=t.arms.length)(h4:∀x∈ws,1<=x/\x<=cC):jj K H M (.deal t z ws) [.str "deal",.str t.nm,.int z,.ref wv]|hold{l:bJ}{z:Int}(h1:l∈M.las)(h2:0<=z):jj K H M (.hold l z) [.str "hold",.str l.nm,.int z]|pause{t:dD}(h1:t∈M.trs):jj K H M (.pause t true) [.str "pause",.str t.nm]|go{t:dD}(h1:t∈M.trs):jj K H M (.pause t false) [.str "go",.str t.nm]|close{t:dD}(h1:t∈M.trs):jj K H M (.close t) [.str "close",.str t.nm]|bar{g:Str}{t:dD}(h1:w6 g)(h2:t∈M.trs):jj K H M (.bar g t) [.str "bar",.str g,.str t.nm]|visit{g:Str}{mv:V}{ms:List (Str×Int)}(h1:w6 g)(h2:pX K H ms mv)(h3:∀m∈ms,Wd m.1/\-cC<=m.2/\m.2<=cC)(h4:(ms.map Prod.fst).Nodup)(h5:ms.length<=8):jj K H M (.visit g ms) [.str "visit",.str g,mv]
theorem jj.kp(e:Kp H H')(h:jj K H M d c):jj K H' M d c:=by cases h with|layer h1 h2 h3 h4 b=>show .layer h1 h2 h3 h4 b|trial h1 h2 h3 h4 b f g i j k l hc hd m n=>show .trial h1 h2 (e.tq h3) (h4.kp e) b f g i (e.tq j) k l hc hd m n|share h1 h2 h3 h4=>show .share h1 (e.tq h2) h3 h4|deal h1 o h2 h3 h4=>show .deal h1 o (e.tq h2) h3 h4|hold h1 h2=>show .hold h1 h2|pause h1=>show .pause h1|go h1=>show .go h1|close h1=>show .close h1|bar h1 h2=>show .bar h1 h2|visit h1 h2 h3 h4 b=>show .visit h1 (h2.kp e) h3 h4 b
inductive x4(K:O2)(H:Hp)(many:Nat):Str->List V->Prop|share{p:Addr}{l:Pc}(h1:aY K H p (l.map V.int))(h2:∀i∈l,0<=i)(h3:l.length=many):x4 K H many "share" [.ref p]|deal{z:Int}{p:Addr}{l:Pc}(hz:0<=z/\z<=1000)(h1:aY K H p (l.map V.int))(h2:∀i∈l,1<=i/\i<=cC)(h3:l.length=many):x4 K H many "deal" [.int z,.ref p]|other{k:Str}(h1:k≠"share")(h2:k≠"deal"):x4 K H many k []
inductive IQ(P:O7)(w:World)(K:O2)(a:fJ)(vs:List V)(H:Hp)(Q:VK)(E:XK):Prop|mk(d:Addr)(M:be)(Z:ZS)(c:Nat)(k:Str)(t:dD)(xs:List V)(_:vs=[.ref d,.ref (Z.G .tn)])(_:aY K H d (.str k::.str t.nm::xs))(_:bA P w K a H M Z)(_:jN M c)(_:t∈M.trs)(_:x4 K H t.arms.length k xs)(_:(t.clo=false->∀H',am H H'->Q .non H'))(_:(t.clo=true->∀H',am H H'->E (.ref a.oq) none H'))
section
def vp(T:Txt K mg a):aP P w K mg base (vS P w) 5 a.eW.x a.eW.d ["deed","trials"] (IQ P w K a):=by
 show T.eW.okE jC λF A outer s H N Q E n h=>?_
 ·obtain⟨d,M,Z,c,k,t,R,rfl,o,y,z,B,I,q,r⟩:=h;show{_,(ag (aM (pc T.bN (dz T) n (ac (dJ K (Y 0) af) (ac (Y 1) O)))) (ag (bp 2 jC.nd (cM (bZ n) (Y 1) (dJ K (Y 0) af) (λ_ _=>()))) (ag (bp 3 jC.nd (aB (aI K ()) (by rfl) T.bE L2.aL (ac (aC K () (Y 2)) O))) (ag (aN (aD aX (dJ K (Y 0) af) aF (aG _)) (ah (aM (pc T.fw (rY T) n (ac (dJ K (Y 0) af) (ac (Y 3) O))))) (ah (aN (aD aX (dJ K (Y 0) af) aF (aG _)) (ah (aM (pc T.eJ (qp T) n (ac (dJ K (Y 0) af) (ac (dJ K (Y 0) af) (ac (Y 3) O)))))) aE))) (ah (aN (aT K () (aC K () (Y 2)) (λ_=>())) (ah (yJ T.wM () T.zd () yH (ac aF O))) aE)))))),?_}
  obtain⟨j,u⟩:=ig.mp B;have l:=z.tr t B;have C:=z.tget (Z:=Z) u;have J:=l.a4;show U () (rX o (aq (k:=1) ()) (U () {t.nm,Z.G .tn,_,(),l.wd,y.tris,by rw[C];rfl,λD e=>?_}));have g:=y.same e;have p:=g.trial u;obtain⟨v,-,-⟩:=g.trs j t u;show U () (U () (rX (am.tseq e o) (aq (k:=1) ()) (rG (.ref (Z.G (.tr j))) (by rw[<-C];show dn.k (k:=.inr t.nm) g.tris) (au ?_))));show fI p T.aZ T.fN () () {_,t.arms.length,(),.inr {_,v,by simp},au ?_};show U () (rX (am.tseq e o) (aq (k:=0) ()) {(),U () ?_});have f:=am.tseq e o;cases I with
 |share h1 h2 h3=>
   show ca ?_;show U () (rX f (aq (k:=2) ()) (U () {_,_,by rw[h3];rfl,am.tseq e h1,h2,by lia,λm i=>?_}));show fI (i _ _ p) T.aZ T.eC () () {t.clo,(),?_};cases b:t.clo
   ·show cu (q b m (e.trans i))
   ·show bI {ls (),r b m (e.trans i)}|deal L h1 h2 h3=>
   show wn ?_;show U () (rX f (aq (k:=0) ()) {(),U () (ca ?_)});show U () (rX f (aq (k:=2) ()) (U () (rX f (aq (k:=3) ()) (U () {_,_,_,by rw[h3];rfl,L,am.tseq e h1,h2,by lia,λm i=>?_}))));show fI (i _ _ p) T.aZ T.eC () () {t.clo,(),?_};cases b:t.clo
   ·show cu (q b m (e.trans i))
   ·show bI {ls (),r b m (e.trans i)}|other h1 h2=>
   show sE h1 ?_;show U () (rX f (aq (k:=0) ()) {(),U () (sE h2 ?_)});show fI p T.aZ T.eC () () {t.clo,(),?_};cases b:t.clo
   ·show cu (q b D e)
   ·show bI {ls (),r b D e}
end
inductive Gp(P:O7)(w:World)(K:O2)(a:fJ)(vs:List V)(H:Hp)(Q:VK)(E:XK):Prop|mk(dv:Addr)(M:be)(Z:ZS)(c:Nat)(d:Dd)(xs:List V)(_:vs=[.ref dv,.int M.p,.ref (Z.G .ln),.ref (Z.G .tn)])(_:aY K H dv xs)(_:bA P w K a H M Z)(_:jN M c)(_:jj K H M d xs)(_:(d.clo=false->∀H',am H H'->Q .non H'))(_:(d.clo=true->∀H',am H H'->E (.ref a.oq) none H'))
section
def vw(T:Txt K mg a)(hw:w.params=a.pm):aP P w K mg base (vS P w) 13 a.eY.x a.eY.d ["deed","prime","layers","trials"] (Gp P w K a):=by
 show T.eY.okE mP λaa A outer s H vs Q E p h=>?_
 ·obtain⟨n,M,Z,c,d,xs,rfl,e,r,u,hD,q,C⟩:=h;show{_,(ag (aM (pc T.gX (vq T hw) p (ac (Y 0) O))) (ag (bp 4 mP.nd (dJ K (Y 0) af)) (ah (aN (aD aX (Y 4) aF (aG _)) (ag (aM (pc T.gW (py T) p (ac (dJ K (Y 0) af) (ac (Y 2) O)))) (ah (aM (pc T.gh (uj T) p (ac (dJ K (Y 0) af) (ac (Y 1) (ac (Y 2) O))))))) (ah (aN (aD aX (Y 4) aF (aG _)) (ah (aM (pc T.gf (ui T) p (ac (Y 0) (ac (Y 2) (ac (Y 3) O)))))) (ah (aN (aD aX (Y 4) aF (aG _)) (ag (aM (pc T.bN (dz T) p (ac (dJ K (Y 0) af) (ac (Y 2) O)))) (ah (aM (pc T.gm (uo T) p (ac (dJ K (Y 0) af) O))))) (ah (aN (aD aX (Y 4) aF (aG _)) (ag (aM (pc T.cA (dP T) p (ac (dJ K (Y 0) af) O))) (ah (aM (pc T.bN (dz T) p (ac (dJ K (Y 0) af) (ac (Y 3) O)))))) (ah (aN (aD aX (Y 4) aF (aG _)) (ag (aM (pc T.cA (dP T) p (ac (dJ K (Y 0) af) O))) (ah (aM (pc T.eX (lU T) p (ac (dJ K (Y 0) af) O))))) (ah (aM (bR ((vp T).mono (by decide)) p () T.eW.m T.eW.f.kp T.eW.b .nil iz (ac (Y 0) (ac (Y 3) O))))))))))))))))),?_}
  have v:∀t∈M.trs,(bf (gN (M.trs.map dD.nm) λi=>V.ref (Z.G (.tr i))) (.inr t.nm)).isSome=true:=λt ht=>by obtain⟨j,S⟩:=ig.mp ht;rw[u.tget (Z:=Z) S];rfl
  have B:∀l∈M.las,(bf (gN (M.las.map bJ.nm) λi=>V.ref (Z.G (.lo i))) (.inr l.nm)).isSome=true:=λl hl=>by obtain⟨j,S⟩:=ig.mp hl;rw[u.lget (Z:=Z) S];rfl
  cases hD with|@layer nm sl h1 h2 h3 h4 L=>show U () {n,_,_,(),e,T.qB,?_};show U () (rX e (aq (k:=0) ()) (au ?_));show U () {(),U () (ca ?_)};show U () (rX e (aq (k:=1) ()) (U () {_,Z.G .ln,_,(),h1,r.lays,lY h2,λN o=>?_}));show U () (rX (am.tseq o e) (aq (k:=2) ()) (U () (U () {sl,M,Z,(),r.same o,by lia,h3.1,h3.2,h4,λD F=>q () D (o.trans F)})))|@trial x ar sh ra W h1 h2 h3 h4 L h6 h7 h8 h9 ha hb hc hd he hf=>show U () {n,_,_,(),e,T.qy,?_};show U () (rX e (aq (k:=0) ()) (au ?_));show U () {(),U () (wn ?_)};show U () {(),U () (ca ?_)};obtain⟨X,I,J⟩:=ji.mp h1.hm;show U () (U () (U () {n,Z.G .ln,Z.G .tn,ar,sh,.ref ra,x.nm,x.home,x.rule,W,x.arms,x.shuts,_,_,(),e,h1.wd,by rw[<-J];show(u.la X I).wd,r.lays,r.tris,lY h2,by rw[<-J];show B X I,h3,h1.aw,h1.nd,h1.a1,h1.a4,h4,h1.hg,L,h6,h7,h8,h9,λy hy=>?_,hb,h1.s8,q ()}));obtain⟨z,R,ez⟩:=ji.mp (ha y hy);show{by rw[<-ez];show(u.tr z R).wd,by rw[<-ez];show v z R}|@hold l z h1 h2=>show U () {n,_,_,(),e,T.sw,?_};show U () (rX e (aq (k:=0) ()) (au ?_));(iterate 2 show U () {(),U () (wn ?_)});show U () {(),U () (ca ?_)};show U () (rX e (aq (k:=1) ()) (U () {_,Z.G .ln,_,(),(u.la l h1).wd,r.lays,B l h1,λN o=>?_}));show U () {n,_,2,_,(),(),am.tseq o e,aq (k:=2) (),_,(),h2,q () N o}|@bar g t h1 h2=>show U () {n,_,_,(),e,T.uC,?_};show U () (rX e (aq (k:=0) ()) (au ?_));(iterate 3 show U () {(),U () (wn ?_)});show U () {(),U () (ca ?_)};show U () (rX e (aq (k:=1) ()) {g,(),h1,λN o=>?_});show U () (rX (am.tseq o e) (aq (k:=2) ()) (U () {t.nm,Z.G .tn,_,(),(u.tr t h2).wd,o _ _ r.tris,v t h2,λD F=>q () D (o.trans F)}))|@visit g mv ms h1 h2 h3 h4 L=>show U () {n,_,_,(),e,T.qw,?_};show U () (rX e (aq (k:=0) ()) (au ?_));(iterate 4 show U () {(),U () (wn ?_)});show U () {(),U () (ca ?_)};show U () (rX e (aq (k:=1) ()) {g,(),h1,λN o=>?_});show U () (rX (am.tseq o e) (aq (k:=2) ()) {mv,ms,(),h2.kp (.of o),h3,h4,L,λD F=>q () D (o.trans F)})|@share t ns nv h1 h2 h3 h4=>show U () {n,_,_,(),e,T.qz,?_};show U () (rX e (aq (k:=0) ()) (au ?_));(iterate 5 show U () {(),U () (wn ?_)});show U () (U () {n,M,Z,c,_,t,_,(),e,r,u,h1,.share h2 h4 h3,q,C})|@deal t z W wv h1 R h2 h3 h4=>show U () {n,_,_,(),e,T.sx,?_};show U () (rX e (aq (k:=0) ()) (au ?_));(iterate 5 show U () {(),U () (wn ?_)});show U () (U () {n,M,Z,c,_,t,_,(),e,r,u,h1,.deal R h2 h4 h3,q,C})|@pause t h1=>show U () {n,_,_,(),e,T.qA,?_};show U () (rX e (aq (k:=0) ()) (au ?_));(iterate 5 show U () {(),U () (wn ?_)});show U () (U () {n,M,Z,c,_,t,_,(),e,r,u,h1,.other (by decide+kernel) (by decide+kernel),q,C})|@go t h1=>show U () {n,_,_,(),e,T.vF,?_};show U () (rX e (aq (k:=0) ()) (au ?_));(iterate 5 show U () {(),U () (wn ?_)});show U () (U () {n,M,Z,c,_,t,_,(),e,r,u,h1,.other (by decide+kernel) (by decide+kernel),q,C})|@close t h1=>show U () {n,_,_,(),e,T.qC,?_};show U () (rX e (aq (k:=0) ()) (au ?_));(iterate 5 show U () {(),U () (wn ?_)});show U () (U () {n,M,Z,c,_,t,_,(),e,r,u,h1,.other (by decide+kernel) (by decide+kernel),q,C})
end
def E9(c:Pc)(n:Nat):∀i∈deal c n,0<=i:=λi hi=>by obtain⟨k,b⟩:=ig.mp hi;have:=(xL c n k).1;unfold gd at this;rw[lh,b]at this;show this
inductive eQ(M:be):Dd->be->Prop|layer{nm:Str}{sl:Int}:eQ M (.layer nm sl) (xY M nm sl)|trial{x:dD}:eQ M (.trial x) (xX M x)|share{t:dD}{ns:Pc}{i:Nat}{l:bJ}(hl:M.las[i]?=some l)(hh:l.nm=t.home)(hn:gO l.S (pZ t.nm t.arms ns)<=((mM M.p l.S.oc).length:Int)):eQ M (.share t ns) (nG M i l t ns)|deal{t:dD}{z:Int}{ws:Pc}{i:Nat}{l:bJ}(hl:M.las[i]?=some l)(hh:l.nm=t.home)(hn:gO l.S (pZ t.nm t.arms (deal ws z.toNat))<=((mM M.p l.S.oc).length:Int)):eQ M (.deal t z ws) (nG M i l t (deal ws z.toNat))|hold{l:bJ}{z:Int}{i:Nat}(hl:M.las[i]?=some l)(hn:gO l.S [(kU,z)]<=((mM M.p l.S.oc).length:Int)):eQ M (.hold l z) (EO M i l z)|pause{t:dD}{b:Bool}{j:Nat}(hj:M.trs[j]?=some t):eQ M (.pause t b) (M.setT j {t with pau:=b})|close{t:dD}{i j:Nat}{l:bJ}(hj:M.trs[j]?=some t)(hl:M.las[i]?=some l)(hh:l.nm=t.home):eQ M (.close t) (nG (M.setT j {t with clo:=true}) i l {t with clo:=true} (ox t))|bar{g:Str}{t:dD}{i j:Nat}{l:bJ}(hj:M.trs[j]?=some t)(hl:M.las[i]?=some l)(hh:l.nm=t.home):eQ M (.bar g t) (AO M i j l t g)|visit{g:Str}{ms:List (Str×Int)}{ss:List (Str×Str×Str)}{M':be}(ha:kE M g ms M.las ss)(h:iM g ss M M'):eQ M (.visit g ms) M'
inductive KQ(M:be):Dd->Prop|share{t:dD}{ns:Pc}{i:Nat}{l:bJ}(hl:M.las[i]?=some l)(hh:l.nm=t.home)(hn:((mM M.p l.S.oc).length:Int)<gO l.S (pZ t.nm t.arms ns)):KQ M (.share t ns)|deal{t:dD}{z:Int}{ws:Pc}{i:Nat}{l:bJ}(hl:M.las[i]?=some l)(hh:l.nm=t.home)(hn:((mM M.p l.S.oc).length:Int)<gO l.S (pZ t.nm t.arms (deal ws z.toNat))):KQ M (.deal t z ws)|hold{l:bJ}{z:Int}{i:Nat}(hl:M.las[i]?=some l)(hn:((mM M.p l.S.oc).length:Int)<gO l.S [(kU,z)]):KQ M (.hold l z)
def jN.luniq{M:be}{c:Nat}(h:jN M c){i j:Nat}{l u:bJ}(hi:M.las[i]?=some l)(d:M.las[j]?=some u)(e:l.nm=u.nm):i=j/\l=u:=by have q:i=j:=(u_ (by rw[b_];show(d_.mp hi).1) h.ln).mp (by rw[ge,ge,hi,d];show pa some e);show{q,?_};rw[q,d]at hi;show(j1 hi).symm
def jN.tidx{M:be}{c:Nat}(h:jN M c){i j:Nat}{t:dD}(hi:M.trs[i]?=some t)(d:M.trs[j]?=some t):i=j:=(u_ (by rw[b_];show(d_.mp hi).1) h.tn).mp (by rw[ge,ge,hi,d])
def eQ.not{M i:be}{c:Nat}{d:Dd}(h:jN M c)(n:eQ M d i):¬KQ M d:=by intro r;cases n with
 |share g hh hn=>cases r with|share b e f=>obtain⟨_,rfl⟩:=h.luniq g b (hh.trans e.symm);omega
 |deal g hh hn=>cases r with|deal b e f=>obtain⟨_,rfl⟩:=h.luniq g b (hh.trans e.symm);omega
 |hold g hn=>cases r with|hold b f=>omega
 |layer=>cases r|trial=>cases r|pause=>cases r|close=>cases r|bar=>cases r|visit=>cases r
theorem eQ.one{M M1 M2:be}{c:Nat}{d:Dd}(h:jN M c)(n1:eQ M d M1)(n2:eQ M d M2):M1=M2:=by cases n1 with
 |layer=>cases n2 with|layer=>rfl
 |trial=>cases n2 with|trial=>rfl
 |share g hh hn=>cases n2 with|share b e i=>obtain⟨rfl,rfl⟩:=h.luniq g b (hh.trans e.symm);rfl
 |deal g hh hn=>cases n2 with|deal b e i=>obtain⟨rfl,rfl⟩:=h.luniq g b (hh.trans e.symm);rfl
 |hold g hn=>cases n2 with|hold b i=>obtain⟨rfl,_⟩:=h.luniq g b ();rfl
 |pause j=>cases n2 with|pause f=>rw[h.tidx j f]
 |close j g hh=>cases n2 with|close f b e=>obtain⟨rfl,rfl⟩:=h.luniq g b (hh.trans e.symm);rw[h.tidx j f]
 |bar j g hh=>cases n2 with|bar f b e=>obtain⟨rfl,rfl⟩:=h.luniq g b (hh.trans e.symm);rw[h.tidx j f]
 |visit n o=>cases n2 with|visit k m=>obtain rfl:=n.one h (λl q=>q) k;show o.one m
def Dd.adds:Dd->Bool|.layer _ _=>true|.trial _=>true|_=>false
def Dd.clo_adds{d:Dd}(h:d.clo=true):d.adds=false:=by cases d<;>first|rfl|cases h
inductive I0(P:O7)(w:World)(K:O2)(a:fJ)(vs:List V)(H:Hp)(Q:VK)(E:XK):Prop|mk(M:be)(Z:ZS)(c:Nat)(dv:Addr)(d:Dd)(xs:List V)(_:vs=[.ref (Z.G .hh),.ref dv])(_:bP P w K a H M Z c)(_:c<=63)(_:aY K H dv xs)(_:jj K H M d xs)(_:(∀(r:Addr)(us:List V)(M':be)(Z':ZS)(H':Hp),eQ M d M'->gr H M Z H' M' Z'->bP P w K a H' M' Z' (c+1)->H r=none->H' r=some (.lst us)->Z'.ds=Z.ds->Q (.ref r) H'))(_:(d.adds=false->KQ M d->∀H',am H H'->E (.ref a.kX) none H'))
section
def vE(T:Txt K mg a):aP P w K mg base (vS P w) 11 a.f9.x a.f9.d ["self","deed"] (I0 P w K a):=by
 show T.f9.okE mQ λax A outer s H vs Q E p h=>?_
 ·obtain⟨M,Z,c,dv,d,xs,rfl,B,hc,u,hD,q,X⟩:=h;show{_,(ag (bp 2 mQ.nd (dJ K (Y 1) af)) (ag (aN (aD aX (Y 2) aF (aG _)) (ah (ay (aU (Y 0) T.ao T.c9.m ((pE (P:=P) (w:=w) T).mono (by decide)) p T.c9.b .nil aQ (ac (dJ K (Y 1) af) (ac (dJ K (Y 1) af) O))))) aE) (ag (aN (aD aX (Y 2) aF (aG _)) (ah (ay (aU (Y 0) T.ao T.c8.m ((pC (P:=P) (w:=w) T).mono (by decide)) p T.c8.b .nil aQ (ac (dJ K (Y 1) af) (ac (pq T.Ej ((rZ (P:=P) (w:=w) T).mono (by decide)) p () T.GZ T.d7.b .nil aQ (ac (dJ K (Y 1) af) (ac (dJ K (Y 1) af) (ac (dJ K (Y 1) af) (ac (dJ K (Y 1) af) O))))) O))))) aE) (ag (aN (aD aX (Y 2) aF (aG _)) (ah (ay (aU (Y 0) T.ao T.bG.m ((gz (P:=P) (w:=w) T).mono (by decide)) p T.bG.b .nil iz (ac (dJ K (Y 1) af) (ac (dJ K (Y 1) af) O))))) aE) (ag (aN (aD aX (Y 2) aF (aG _)) (ah (ay (aU (Y 0) T.ao T.bG.m ((gz (P:=P) (w:=w) T).mono (by decide)) p T.bG.b .nil iz (ac (dJ K (Y 1) af) (ac (pc T.wP (D5 T) p (ac (dJ K (Y 1) af) (ac (dJ K (Y 1) af) O))) O))))) aE) (ag (aN (aD aX (Y 2) aF (aG _)) (ah (ay (aU (Y 0) T.ao T.dI.m ((qt (P:=P) (w:=w) T).mono (by decide)) p T.dI.b .nil iz (ac (dJ K (Y 1) af) (ac (dJ K (Y 1) af) O))))) aE) (ag (aN (aD aX (Y 2) aF (aG _)) (ah (ay (aU (Y 0) T.ao T.ck.m ((jy (P:=P) (w:=w) T).mono (by decide)) p T.ck.b .nil aQ (ac (dJ K (Y 1) af) (ac iB O))))) aE) (ag (aN (aD aX (Y 2) aF (aG _)) (ah (ay (aU (Y 0) T.ao T.ck.m ((jy (P:=P) (w:=w) T).mono (by decide)) p T.ck.b .nil aQ (ac (dJ K (Y 1) af) (ac iB O))))) aE) (ag (aN (aD aX (Y 2) aF (aG _)) (ah (ay (aU (Y 0) T.ao T.db.m ((pF (P:=P) (w:=w) T).mono (by decide)) p T.db.b .nil iz (ac (dJ K (Y 1) af) O)))) aE) (ag (aN (aD aX (Y 2) aF (aG _)) (ah (ay (aU (Y 0) T.ao T.eA.m ((sk (P:=P) (w:=w) T).mono (by decide)) p T.eA.b .nil aQ (ac (dJ K (Y 1) af) (ac (dJ K (Y 1) af) O))))) aE) (ah (ay (aU (Y 0) T.ao T.c7.m ((pB (P:=P) (w:=w) T).mono (by decide)) p T.c7.b .nil aQ (ac (dJ K (Y 1) af) (ac (dJ K (Y 1) af) O))))))))))))))),?_}
  have I:=B.g.house;cases hD with|@layer nm sl h1 h2 h3 h4 V=>show U () (rX u (aq (k:=0) ()) (au ?_));show U () {(),U () (ca ?_)};show iN I () () (U () (rX u (aq (k:=1) ()) (U () (rX u (aq (k:=2) ()) {M,Z,c,nm,sl,(),B,h1,h2,h3,V,λr C H' st f p n v=>q r [] _ C H' .layer st (f.mono (p_ c)) p n v}))))|@trial x ar sh ra L h1 h2 h3 h4 V h6 h7 h8 h9 ha hb aa hd he hf=>
   show U () (rX u (aq (k:=0) ()) (au ?_));show U () {(),U () (wn ?_)};show U () {(),U () (ca ?_)};show iN I () () (U () (rX u (aq (k:=1) ()) ?_));show U () (rX u (aq (k:=2) ()) (U () (rX u (aq (k:=3) ()) (U () (rX u (aq (k:=4) ()) (U () (rX u (aq (k:=5) ()) (λt ty N ad a2=>?_))))))));have s2:am H (aH (aH H ty (.own t)) t (.ins a.fS ty [])):=λb o e=>by rw[ak (az e N),ak (az e ad)];show e
   have R:aH (aH H ty (.own t)) t (.ins a.fS ty []) t=some (.ins a.fS ty []):=ae;generalize aH (aH H ty (.own t)) t (.ins a.fS ty [])=H2 at s2 R⊢;show{t,ty,ar,ra,sh,x.home,(),R,λba H3 al f3 an ap=>{(),?_}};have s3:am H H3:=λb o e=>f3 b o (s2 b o e) (az e N);show{M,Z,c,H,t,ba,ty,ar,sh,.ref ra,x,(),B,s3,N,s2.free al,ap,an,h3,h4,h9,aa,hd,he,h1,h2,hf,λr C H' st f p n v=>q r [] _ C H' .trial st (f.mono (p_ c)) p n v}|@share t ns nv h1 h2 h3 h4=>obtain⟨j,D⟩:=ig.mp h1;obtain⟨i,l,y,hh⟩:=B.ok.home h1;show U () (rX u (aq (k:=0) ()) (au ?_));(iterate 2 show U () {(),U () (wn ?_)});show U () {(),U () (ca ?_)};show iN I () () (U () (rX u (aq (k:=1) ()) (U () (rX u (aq (k:=2) ()) {M,Z,c,i,j,l,t,nv,ns,(),B,hc,D,y,hh,.inr h2,h3,h4,λF r J C H' st f p n v=>q r J _ C H' (.share y hh F) st f p n v,λG=>X () (.share y hh G)}))))|@deal t z L wv h1 hz h2 h3 h4=>
   obtain⟨j,D⟩:=ig.mp h1;obtain⟨i,l,y,hh⟩:=B.ok.home h1;have S:=B.ok.tr t h1;have a1:=S.a1;have a4:=S.a4;show U () (rX u (aq (k:=0) ()) (au ?_));(iterate 3 show U () {(),U () (wn ?_)});show U () {(),U () (ca ?_)};show iN I () () (U () (rX u (aq (k:=1) ()) (U () (rX u (aq (k:=2) ()) (U () (rX u (aq (k:=3) ()) {z.toNat,wv,L,by rw[show((z.toNat:Nat):Int)=z by lia];rfl,by lia,h2,by lia,by lia,λtv H1 W N=>?_}))))));have as:(deal L z.toNat).length=t.arms.length:=by rw[mi];show h3
   show{M,Z,c,i,j,l,t,tv,deal L z.toNat,(),B.same W,hc,D,y,hh,.inr (aY.of N),as,E9 L z.toNat,λF r J C H' st f p n v=>q r J _ C H' (.deal y hh F) ((gr.of W).trans st) f (W.free p) n v,λG H' s'=>X () (.deal y hh G) H' (W.trans s')}|@hold l z h1 h2=>obtain⟨i,y⟩:=ig.mp h1;show U () (rX u (aq (k:=0) ()) (au ?_));(iterate 4 show U () {(),U () (wn ?_)});show U () {(),U () (ca ?_)};show iN I () () (U () (rX u (aq (k:=1) ()) (U () (rX u (aq (k:=2) ()) {M,Z,c,i,l,z,(),B,hc,y,h2,λF r C H' st f p n v=>q r [] _ C H' (.hold y F) st f p n v,λG=>X () (.hold y G)}))))|@pause t h1=>obtain⟨j,D⟩:=ig.mp h1;show U () (rX u (aq (k:=0) ()) (au ?_));(iterate 5 show U () {(),U () (wn ?_)});show U () {(),U () (ca ?_)};show iN I () () (U () (rX u (aq (k:=1) ()) {M,Z,c,j,t,true,(),B,D,λr H' st f p n=>q r [] _ Z H' (.pause D) st (f.mono (p_ c)) p n ()}))|@go t h1=>obtain⟨j,D⟩:=ig.mp h1;show U () (rX u (aq (k:=0) ()) (au ?_));(iterate 6 show U () {(),U () (wn ?_)});show U () {(),U () (ca ?_)};show iN I () () (U () (rX u (aq (k:=1) ()) {M,Z,c,j,t,false,(),B,D,λr H' st f p n=>q r [] _ Z H' (.pause D) st (f.mono (p_ c)) p n ()}))|@close t h1=>obtain⟨j,D⟩:=ig.mp h1;obtain⟨i,l,y,hh⟩:=B.ok.home h1;show U () (rX u (aq (k:=0) ()) (au ?_));(iterate 7 show U () {(),U () (wn ?_)});show U () {(),U () (ca ?_)};show iN I () () (U () (rX u (aq (k:=1) ()) {M,Z,c,i,j,l,t,(),B,hc,D,y,hh,λr J C H' st f p n v=>q r J _ C H' (.close D y hh) st f p n v}))|@bar g t h1 h2=>obtain⟨j,D⟩:=ig.mp h2;obtain⟨i,l,y,hh⟩:=B.ok.home h2;show U () (rX u (aq (k:=0) ()) (au ?_));(iterate 8 show U () {(),U () (wn ?_)});show U () {(),U () (ca ?_)};show iN I () () (U () (rX u (aq (k:=1) ()) (U () (rX u (aq (k:=2) ()) {M,Z,c,i,j,l,t,g,(),B,hc,D,y,hh,h1,λr J C H' st f p n v=>q r J _ C H' (.bar D y hh) st f p n v}))))|@visit g mv ms h1 h2 h3 h4 V=>show U () (rX u (aq (k:=0) ()) (au ?_));(iterate 9 show U () {(),U () (wn ?_)});show iN I () () (U () (rX u (aq (k:=1) ()) (U () (rX u (aq (k:=2) ()) {M,Z,c,g,mv,ms,(),B,hc,h1,h2,V,λr J ss M' C H' ha vt st f p n v=>q r J M' C H' (.visit ha vt) st f p n v}))))
end
inductive Lj(P:O7)(w:World)(K:O2)(a:fJ)(vs:List V)(H:Hp)(Q:VK)(E:XK):Prop|mk(M:be)(Z:ZS)(c:Nat)(dv:Addr)(d:Dd)(xs:List V)(_:vs=[.ref (Z.G .hh),.ref dv])(_:bP P w K a H M Z c)(_:c<=63)(_:aY K H dv xs)(_:jj K H M d xs)(_:(d.clo=false->∀(r:Addr)(us:List V)(M':be)(Z':ZS)(H':Hp),eQ M d M'->gr H M Z H' M' Z'->bP P w K a H' M' Z' (c+1)->H r=none->H' r=some (.lst us)->Z'.ds=Z.ds++[.ref dv]->Q (.ref r) H'))(_:(d.adds=false->KQ M d->∀H',am H H'->E (.ref a.kX) none H'))(_:(d.clo=true->∀H',am H H'->E (.ref a.oq) none H'))
section
def rh(T:Txt K mg a)(W:w.params=a.pm):aP P w K mg base (vS P w) 14 a.fh.x a.fh.d ["self","deed"] (Lj P w K a):=by
 show T.fh.okE qZ λV A outer s H vs Q E l h=>?_
 ·obtain⟨M,Z,c,n,d,L,rfl,o,hc,N,R,q,X,qc⟩:=h;show{_,(ag (aM (bR ((vw T W).mono (by decide)) l () T.eY.m T.eY.f.kp T.eY.b .nil iz (ac (Y 1) (ac (aC K () (Y 0)) (ac (aC K () (Y 0)) (ac (aC K () (Y 0)) O)))))) (ag (bp 2 qZ.nd (aU (Y 0) T.ao T.f9.m ((vE (P:=P) (w:=w) T).mono (by decide)) l T.f9.b .nil iz (ac (Y 1) O))) (ag (aM (fF K () PySem.F.plainAttrs_list PySem.F.slot_list_append PySem.F.type_list_append cF (aC K () (Y 0)) (ac (Y 1) O))) (ah (ay (Y 2)))))),?_}
  have u:=o.g.house;show U () (fI u T.ao T.bV () () (fI u T.ao T.aK () () (fI u T.ao T.aJ () () ?_)));show{n,M,Z,c,d,L,(),N,o.g,o.ok,R,λv H1 j=>?_,qc};show iN (j _ _ u) () () (U () {M,Z,c,n,d,L,(),o.same j,hc,am.tseq j N,R.kp (.of j),λr us y i S nx st e l B k=>?_,λha C H' s'=>X ha C H' (j.trans s')});have p:=e.g.house;rw[st.hh]at p;have t:=e.g.dees;have D:=o.ds;show au (fI p T.ao T.i7 () () {.inl {(),_,aS.of t},U () (rA t (by rw[k,g8];lia) ?_)});have I:=e.g.deed (.ref n);have J:gr S y i (aH S (i.G .dl) (.lst (i.ds++[.ref n]))) y {i with ds:=i.ds++[.ref n]}:=gr.put (r:=.dl) trivial () () () () λx C=>.inl C;show U () (q v r us y {i with ds:=i.ds++[.ref n]} _ nx (((gr.of j).trans st).trans J) {I,e.ok,e.tk,e.ow,by change(i.ds++[_]).length<=c+1;rw[hQ,k];show y2 D} (j.free l) ?_ (by change i.ds++[_]=_;rw[k]));rw[ak λz=>?_]
  ·show B
  ·rw[z,st.dd,j _ _ o.g.dees]at l;cases l
end
def HR:List Str:=["ann","ann7","7ann","an","nan","ana","anan","b","bob12","bob1","21bob","annbob"]
def C8:List Str:=["","ann7","0","guestofthishouse99"]
def DK(k:Nat):Nat:=if k<26 then 97+k else 22+k
def MV(z:Str)(i:Int)(c:Nat):Str:=Txt.slice z none (some i)++({#[c]}:Str)++Txt.slice z (some i) none
def MC(x:Str):Bool:=decide (1<=x.length)&&decide (x.length<=24)&&x.cps.toList.all λc=>decide (c∈jJ.cps.toList)
def HY(h:MC x=true):w6 x:=by unfold MC at h;rw[k_,k_]at h;show{l_ h.1.1,l_ h.1.2,λc hc=>l_ (C2.mp h.2 c hc)}
def DH:∀z∈HR,MC z=true:=dk ()
def GU:∀z∈C8,∀i∈List.range 19,∀c∈List.range 36,MC (MV z (i:Int) (DK c))=true:=dk ()
def BP:∀z∈C8,z.length<=18:=dk ()
def Jf:∀c∈List.range 36,vM ("abcdefghijklmnopqrstuvwxyz0123456789":Str).cps.toList (c:Int)=some (DK c):=dk ()
def ja{zs:O8}{i:Int}(h0:0<=i)(h1:i<(zs.length:Int)):∃z∈zs,vM (zs.map V.str) i=some (V.str z):=by obtain⟨v,b,hm⟩:=zH (xs:=zs.map V.str) h0 (by rw[b_];show h1);obtain⟨z,c,rfl⟩:=ji.mp hm;show(z,c,b,)
inductive Dq(vs:List V)(H:Hp)(Q:VK)(_E:XK):Prop|mk(k N:Int)(_:vs=[.int k,.int N])(_:∀(g:Str)H',am H H'->w6 g->Q (.str g) H')
def sr(h:N c H):(jP.mk N R B C).nx c H:=h
def qG{c:TT}{t u:TS}{D:jP}{d:St}(h1:u D d H)(h2:∀N:St->Hp->Prop,N d H->FS c t yi {D with nx:=N} d H):zQ (FS c t yi) u D d H:=h2 (u D) h1
def Mx:List Str:=["age","size","old"]
inductive F7(K:O2)(h:Nat)(vs:List V)(H:Hp)(Q:VK)(_E:XK):Prop|mk(n i:Int)(_:vs=[.int n,.int i])(_:1<=i)(_:i<=(h:Int))(_:∀(r:Ru)(rv:V)H',am H H'->fB K H' r rv->jL Mx r->r.hgt<=h->r.cnt<2^h->Q rv H')
section
def wq(T:Txt K mg a):aP P w K mg base cP 1 a.oo.x a.oo.d ["_law_k","_law_number"] Dq:=by
 show T.oo.ok jY λp A outer s H D Q E F h=>?_
 ·obtain⟨k,N,rfl,q⟩:=h;show{_,(ag (aN (aD aX (aA aW (aA bC (Y 1) af) af) af (aG _)) (ag (bp 2 jY.nd (bj (ac aF (ac aF (ac aF (ac aF (ac aF (ac aF (ac aF (ac aF (ac aF (ac aF (ac aF (ac aF O)))))))))))))) (ah (ay (iR K (Y 2) (aA aW (aA bU (Y 0) (aA bC (Y 1) af)) af))))) aE) (ag (bp 3 jY.nd (iR K (bj (ac aF (ac aF (ac aF (ac aF O))))) (aA aW (Y 1) af))) (ag (bp 4 jY.nd (aA aW (aA bC (Y 1) af) (aA bU (aB (aI K ()) (by rfl) T.bE L2.aL (ac (Y 3) O)) af))) (ag (bp 5 jY.nd (aA aW (aA bU (Y 0) (aA bC (Y 1) af)) af)) (ah (ay (aA i6 (aA i6 (fM xf (Y 3) ix (iw (Y 4))) (yK Ax aF (Y 5) (λ_ _=>()))) (fM xf (Y 3) (iw (Y 4)) ix)))))))),?_}
  have b1:=bL (k+N/160) (show(0:Int)<12 by decide);have b2:=bL (k+N/160) (show(0:Int)<36 by decide);have b3:=bL N (show(0:Int)<4 by decide)
  walk_at "a"
  show kj (λr=>?_) (λr=>?_)
  ·show{ls (),λl g=>?_}
   walk_at "a"
   obtain⟨z,f,i⟩:=ja (zs:=HR) b1.1 b1.2;show{l,_,_,U () {(),aS.of ae,i,q z _ (aj (am.refl H) g) (HY (DH z f))}}
  ·show{ls (),λl g=>?_};obtain⟨z,f,i⟩:=ja (zs:=C8) b3.1 b3.2;have u:=BP z f;have n:=aj (o:=.lst [V.str "",V.str "ann7",V.str "0",V.str "guestofthishouse99"]) (am.refl H) g;have c:aH H l (.lst [V.str "",V.str "ann7",V.str "0",V.str "guestofthishouse99"]) l=some (.lst [V.str "",V.str "ann7",V.str "0",V.str "guestofthishouse99"]):=ae;generalize aH H l (.lst [V.str "",V.str "ann7",V.str "0",V.str "guestofthishouse99"])=G at n c⊢
   walk_at "a"
   show{l,_,_,U () {(),aS.of c,i,au ?_}}
   walk_at "a"
   show{_,z.length,(),{dg (by lia),()},_,U () {(),r2 {(by change(0:Int)<_;lia),au ?_}}};have v:=bL (N/4) (show(0:Int)<(z.length:Int)+1 by lia);have y:=Txt.slice_le z none (some (N/4%((z.length:Int)+1)));have B:=Txt.slice_le z (some (N/4%((z.length:Int)+1))) none;have hok:=GU z f (N/4%((z.length:Int)+1)).toNat (by rw[s_];lia) ((k+N/160)%36).toNat (by rw[s_];lia);have e:=Jf ((k+N/160)%36).toNat (by rw[s_];lia);rw[show(((N/4%((z.length:Int)+1)).toNat:Nat):Int)=N/4%((z.length:Int)+1)by lia]at hok;rw[show((((k+N/160)%36).toNat:Nat):Int)=(k+N/160)%36 by lia]at e;generalize DK ((k+N/160)%36).toNat=j at*;have m:∀a b:Str,(a++b).length=a.length+b.length:=λa b=>by change(a.cps++b.cps).size=a.cps.size+b.cps.size;show Array.size_append
   have C:({#[j]}:Str).length=1:=()
   walk_at "a"
   show{dg (by lia),?_}
   walk_at "a"
   show{"abcdefghijklmnopqrstuvwxyz0123456789",_,j,(),(),dg (dk ()),e,_,({#[j]}:Str),(),(),dg (by lia),U () (U () {N/4%((z.length:Int)+1),(),z,(),dg (by lia),_,U () {(),dg (by rw[m];lia),q _ _ n (HY hok)}})}
theorem yZ(T:Txt K mg a):∀h:Nat,aP P w K mg base cP (h+1) a.eR.x a.eR.d ["_law_number","_law_high"] (F7 K h)
 |0=>by
  show T.eR.f.ok lI (λS H Q E h=>?_) (λW A outer s H S Q E e h=>?_)
  ·obtain⟨n,i,rfl,_⟩:=h;rfl
  ·obtain⟨n,i,rfl,h1,h2,_⟩:=h;lia|hh+1=>by
  have G:=yZ T hh;show T.eR.f.ok lI (λS H Q E h=>?_) (λW A outer s H S Q E e h=>?_)
  ·obtain⟨n,i,rfl,_⟩:=h;rfl
  ·obtain⟨n,i,rfl,h1,h2,q⟩:=h;show{_,(ag (bp 2 lI.nd (aA aW (Y 0) af)) (ag (bp 3 lI.nd (aA bC (Y 0) af)) (ag (bp 4 lI.nd (iR K (bj (ac aF (ac aF (ac aF O)))) (aA aW (Y 3) af))) (ag (aN (aD aX (Y 2) af (aG _)) (ah (ay (bx (ac aF (ac (Y 4) O))))) aE) (ag (aN (PW.pt (fL (aD aX (Y 2) af (aG _)) (dX (aD aX (Y 2) af (aG _))))) (ah (ay (bx (ac aF (ac (Y 4) (ac (aA fV (aA aW (aA bC (Y 3) af) af) af) O)))))) aE) (ag (aN (PW.pt (qm (aD rc (Y 1) af (aG _)) (mB (aD aX (Y 2) af (aG _))))) (ah (ay (bx (ac aF (ac (bR G e () T.eR.m T.eR.f.kp T.eR.b .nil aQ (ac (Y 3) (ac (aA fV (Y 1) af) O))) O))))) aE) (ag (aN (PW.pt (qm (aD rc (Y 1) af (aG _)) (mB (aD aX (Y 2) af (aG _))))) (ah (ay (bx (ac aF (ac (bR G e () T.eR.m T.eR.f.kp T.eR.b .nil aQ (ac (Y 3) (ac (aA fV (Y 1) af) O))) (ac (bR G e () T.eR.m T.eR.f.kp T.eR.b .nil aQ (ac (aA bC (Y 3) af) (ac (aA fV (Y 1) af) O))) O)))))) aE) (ag (aN (PW.pt (qm (aD rc (Y 1) af (aG _)) (mB (aD aX (Y 2) af (aG _))))) (ah (ay (bx (ac aF (ac (bR G e () T.eR.m T.eR.f.kp T.eR.b .nil aQ (ac (Y 3) (ac (aA fV (Y 1) af) O))) (ac (bR G e () T.eR.m T.eR.f.kp T.eR.b .nil aQ (ac (aA bC (Y 3) af) (ac (aA fV (Y 1) af) O))) O)))))) aE) (ah (ay (bx (ac aF O)))))))))))),?_}
   have X:2<=2^(hh+1):=by rw[Ol];have:=Nat.two_pow_pos hh;lia
   walk_at "a"
   show{ls (),λl hl=>?_};have b3:=bL (n/10) (show(0:Int)<3 by decide);obtain⟨z,hz,ha⟩:=ja (zs:=Mx) b3.1 b3.2;have v:=aj (o:=.lst [V.str "age",V.str "size",V.str "old"]) (am.refl H) hl;have y:aH H l (.lst [V.str "age",V.str "size",V.str "old"]) l=some (.lst [V.str "age",V.str "size",V.str "old"]):=ae;generalize aH H l (.lst [V.str "age",V.str "size",V.str "old"])=H0 at v y⊢
   walk_at "a"
   show{l,_,_,U () {(),aS.of y,ha,au ?_}};clear y ha b3;show sr (qG ?_ (λN j=>?_))
   rotate_left
   ·walk_at "a"
    show kj (λe1=>?_) (λe1=>j);show U () {ls (),λt c=>q (.has z) _ _ (aj v c) (.has (aY.of ae)) (.has hz) (by change 1<=hh+1;lia) X}
   show qG ?_ (λN j=>?_)
   rotate_left
   ·have b9:=bL (n/10/3) (show(0:Int)<9 by decide);have ad:=qf;show U () {(),U () (kj (λ_=>bI ?_) (λ_=>(U () {(),U () (kj (λ_=>?_) (λ_=>j))})))}
    all_goals
     walk_at "a"
     show{ls (),λt c=>q (.least z _) _ _ (aj v c) (.least (aY.of ae)) (.least hz (by lia) (by lia)) (by change 1<=hh+1;lia) X}
   have Z:∀m:Nat,m<2^hh->m+1<2^(hh+1):=λm hm=>by rw[Ol];lia
   have u:∀m k:Nat,m<2^hh->k<2^hh->m+k+1<2^(hh+1):=λm k hm hk=>by rw[Ol];lia
   show qG ?_ (λN j=>?_)
   rotate_left
   ·show U () (r2 (U () (lz (λg=>?_) (λ_=>cu j))));show U () {(),U () (kj (λ_=>?_) (λ_=>j))};show U () (U () (r2 {n/10,i-1,(),by lia,by lia,λr R H1 I e J h3 h4=>{ls (),λt c=>?_}}));show q (.not r) _ _ (aj (v.trans I) c) (.not (aY.of ae) (e.kp (.of (aj (am.refl _) c)))) (.not J) (by change r.hgt+1<=hh+1;lia) (Z _ h4)
   show qG ?_ (λN j=>?_)
   rotate_left
   ·show U () (r2 (U () (lz (λg=>?_) (λ_=>cu j))));show U () {(),U () (kj (λ_=>?_) (λ_=>j))};show U () (U () (r2 {n/10,i-1,(),by lia,by lia,λr R H1 I e J h3 h4=>?_}));show U () (r2 {{by decide,by decide},U () (r2 {n/10/40,i-1,(),by lia,by lia,λp B H2 L C D aa F=>{ls (),λt c=>?_}})});have M:=aj (o:=.tup [.str "both",R,B]) (am.refl H2) c;show q (.both r p) _ _ (aj ((v.trans I).trans L) c) (.both (aY.of ae) ((e.kp (.of L)).kp (.of M)) (C.kp (.of M))) (.both J D) (by change max r.hgt p.hgt+1<=hh+1;lia) (by rw[show(Ru.both r p).cnt=r.cnt+p.cnt+1 from pa (·+1) hQ];show u _ _ h4 F)
   show qG ?_ (λN j=>?_)
   rotate_left
   ·show U () (r2 (U () (lz (λg=>?_) (λ_=>cu j))));show U () {(),U () (kj (λ_=>?_) (λ_=>j))};show U () (U () (r2 {n/10,i-1,(),by lia,by lia,λr R H1 I e J h3 h4=>?_}));show U () (r2 {{by decide,by decide},U () (r2 {n/10/40,i-1,(),by lia,by lia,λp B H2 L C D aa F=>{ls (),λt c=>?_}})});have M:=aj (o:=.tup [.str "either",R,B]) (am.refl H2) c;show q (.either r p) _ _ (aj ((v.trans I).trans L) c) (.either (aY.of ae) ((e.kp (.of L)).kp (.of M)) (C.kp (.of M))) (.either J D) (by change max r.hgt p.hgt+1<=hh+1;lia) (by rw[show(Ru.either r p).cnt=r.cnt+p.cnt+1 from pa (·+1) hQ];show u _ _ h4 F)
   show{ls (),λt c=>q .any _ _ (aj v c) (.any (aY.of ae)) .any (by change 1<=hh+1;lia) X}
end
def Al(m:Int)(j:Nat):Str:=Mx.getD (((j:Int)+m)%3).toNat "age"
def Ka:List Str:=["marka","markb","markc","markd","marke"]
def GQ(m:Int):Al m=Al (m%3):=by
 funext j
 unfold Al;rw[Int.add_emod,Int.add_emod (j:Int) (m%3),Int.emod_emod]
def Er(m:Int):(Ka++(List.range 3).map (Al m)).Nodup/\∀z∈Ka++(List.range 3).map (Al m),Ir z=true:=by rw[GQ];have b:=bL m (show(0:Int)<3 by decide);rcases(by lia:m%3=0\/m%3=1\/m%3=2)with e|e|e<;>rw[e]<;>decide+kernel
def JJ{m:Int}{j:Nat}:vM [V.str "age",V.str "size",V.str "old"] ((0+(j:Int)+m)%3)=some (V.str (Al m j)):=by rw[Int.zero_add];have b:=bL ((j:Int)+m) (show(0:Int)<3 by decide);unfold Al;rcases(by lia:((j:Int)+m)%3=0\/((j:Int)+m)%3=1\/((j:Int)+m)%3=2)with e|e|e<;>rw[e]<;>rfl
def KS(K:O2)(H:Hp)(v:V)(m:Str×Int):Prop:=∃b,v=.ref b/\aY K H b [.str m.1,.int m.2]
def rj(e:Kp H H')(h:Paired (KS K H) c d):Paired (KS K H') c d:=Paired.mapP h λv m⟨b,h1,h2⟩=>{b,h1,e.tq h2}
def LH{a:Addr}{c:List V}{d:List (Str×Int)}(h:Paired (KS K H) c d)(e:aY K H a c):pX K H d (.ref a):={a,c,(),e,Paired.length h,λi m hm=>by obtain⟨v,h1,b,rfl,h2⟩:=ub h i m hm;show(b,h1,h2,)}
def ml{ns:Pc}{i:Int}(h0:0<=i)(h1:i<(ns.length:Int)):∃z∈ns,vM (ns.map V.int) i=some (V.int z):=by obtain⟨v,b,hm⟩:=zH (xs:=ns.map V.int) h0 (by rw[b_];show h1);obtain⟨z,c,rfl⟩:=ji.mp hm;show(z,c,b,)
def Bt:List (Str×Int):=[("marka",-2),("markb",-1),("markc",0),("markd",1),("marke",2)]
def E3:∀j∈List.range 5,vM ("abcde":Str).cps.toList (0+(j:Int))=some (97+j)/\Bt[j]?=some (("mark":Str)++({#[97+j]}:Str),0+(j:Int)-2):=dk ()
inductive Dm(K:O2)(vs:List V)(H:Hp)(Q:VK)(_E:XK):Prop|mk(n:Int)(_:vs=[.int n])(_:∀(t:Addr)(ms:List (Str×Int))H',am H H'->pX K H' ms (.ref t)->(∀m∈ms,Wd m.1/\-cC<=m.2/\m.2<=cC)->(ms.map Prod.fst).Nodup->ms.length<=8->Q (.ref t) H')
section
def Ci(T:Txt K mg a):aP P w K mg base cP 2 a.qU.x a.qU.d ["_law_number"] (Dm K):=by
 show T.qU.ok jX λbb A outer s H p Q E hr h=>?_
 ·obtain⟨n,rfl,q⟩:=h;show{_,(ag (bp 1 jX.nd (bj O)) (ag (dN mo () (dq () T.eO (ac af O)) (qo 2 jX.nd) (ah (aN (aD aX (aA aW (aA bC (Y 0) (iR K (bj (ac af (ac af (ac af O)))) (Y 2))) af) af (aG _)) (ag (bp 3 jX.nd (iR K (bj (ac aF (ac aF (ac aF O)))) (aA aW (aA bU (Y 2) (aA bC (Y 0) af)) af))) (ah (aM (fF K () PySem.F.plainAttrs_list PySem.F.slot_list_append PySem.F.type_list_append cF (Y 1) (ac (bx (ac (Y 3) (ac (aA fV (aA aW (aA bC (Y 0) (iR K (bj (ac af (ac af (ac af O)))) (Y 2))) af) af) O))) O))))) aE))) (ag (aN (aD aX (aA aW (aA bC (Y 0) af) af) af (aG _)) (ah (bp 1 jX.nd (aA Ah (sB uZ [] [2] [2] (ai t5) (b0 2) (dq () T.eO (ac af O)) (λcl C s₀ H₀ ex=>{(lB uZ [] 2),bQ,(bx (ac (aA i6 aF (yK Ax aF (Y 2) (λ_ _=>()))) (ac (aA fV (Y 2) af) O)))})) (Y 1)))) aE) (ah (ay (cE (eZ K ()) (by rfl) T.dZ L2.bW (ac (Y 1) O))))))),?_}
  show{ls (),λl hl=>?_};have s0:=aj (o:=.lst []) (am.refl H) hl;show au {3,(),by lia,by lia,?_};show mI (lo:=0) (n:=3) (λi R H'=>am H H'/\(Mp λ(g:List (Str×Int))(p:List V)=>An5 (H' l=some (.lst p)) (Paired (KS K H') p g) ((g.map (·.1)).Sublist ((List.range i).map (Al (n/8)))) ((∀m∈g,-100<=m.2/\m.2<=100)) (Mp λS W=>R=[some (.int n),some (.ref l),S,W]))) {s0,[],[],ae,.nil,List.nil_sublist _,(λm hm=>nomatch hm),_,_,()} ?_ ?_
  ·rintro i R X hi⟨s1,g,p,Z,y,b,hb,S,W,rfl⟩;show au ?_
   walk_at "a"
   show{ls (),λl1 as=>?_};have f:=aj (o:=.lst [V.int 1,V.int 2,V.int 4]) (am.refl X) as;have r:aH X l1 (.lst [V.int 1,V.int 2,V.int 4]) l1=some (.lst [V.int 1,V.int 2,V.int 4]):=ae;generalize aH X l1 (.lst [V.int 1,V.int 2,V.int 4])=G at f r⊢;obtain⟨d,hd,ha⟩:=ml (ns:=[1,2,4]) (i:=0+(i:Int)) (by lia) (by change _<(3:Int);lia);have bc:d=1\/d=2\/d=4:=by simpa using hd
   show U () {l1,_,_,U () {(),aS.of r,ha,_,U () {(),{by lia,by lia},_,U () {(),(show(0:Int)<2 by decide),(),U () ?_}}}};show kj (λ_=>?_) (λ_=>?_)
   ·show{ls (),λl2 ax=>?_};have I:=aj (o:=.lst [V.str "age",V.str "size",V.str "old"]) (am.refl G) ax;have u:aH G l2 (.lst [V.str "age",V.str "size",V.str "old"]) l2=some (.lst [V.str "age",V.str "size",V.str "old"]):=ae;generalize aH G l2 (.lst [V.str "age",V.str "size",V.str "old"])=H3 at I u⊢
    walk_at "a"
    show{l2,_,_,U () {(),aS.of u,JJ,au ?_}};have a2:=I _ _ (f _ _ Z);show U () {.inl {(),_,aS.of a2},U () (U () {ls (),λl3 a3=>?_})};have s4:=aj (o:=.lst [V.int 24,V.int 240,V.int 2400]) (am.refl H3) a3;have v:aH H3 l3 (.lst [V.int 24,V.int 240,V.int 2400]) l3=some (.lst [V.int 24,V.int 240,V.int 2400]):=ae;generalize aH H3 l3 (.lst [V.int 24,V.int 240,V.int 2400])=H4 at s4 v⊢;obtain⟨d2,a5,a6⟩:=ml (ns:=[24,240,2400]) (i:=0+(i:Int)) (by lia) (by change _<(3:Int);lia);have ba:d2=24\/d2=240\/d2=2400:=by simpa using a5
    have bi:=bL (n/d2) (show(0:Int)<10 by decide);show U () {l3,_,_,U () {(),aS.of v,a6,_,U () {(),{by lia,by lia},_,U () {(),(show(0:Int)<10 by decide),_,U () {(),ls (),λt ht=>?_}}}}};have s5:=aj (o:=.tup [.str (Al (n/8) i),.int (n/d2%10-5)]) (am.refl H4) ht;have aa:aH H4 t (.tup [.str (Al (n/8) i),.int (n/d2%10-5)]) t=some (.tup [.str (Al (n/8) i),.int (n/d2%10-5)]):=ae;have s6:am X (aH H4 t (.tup [.str (Al (n/8) i),.int (n/d2%10-5)])):=((f.trans I).trans s4).trans s5;generalize aH H4 t (.tup [.str (Al (n/8) i),.int (n/d2%10-5)])=H5 at s6 aa⊢;have ad:=s6 _ _ Z;have a7:=Paired.length y;have J:=b.length_le;rw[b_,b_,m_]at J;show rA ad (by rw[g8];lia) {bv (s1.trans s6) hl,g++[(Al (n/8) i,n/d2%10-5)],_,ae,?_,?_,λm hm=>?_,_,_,()}
    ·show rj (.lst ad) (Paired.snoc (rj (.of s6) y) {t,(),aY.of aa})
    ·rw[gV,NG,gV];show b.append (OL _)
    ·rcases List.mem_append.mp hm with z|z
     ·show hb m z
     ·rw[List.mem_singleton.mp z];change-100<=n/d2%10-5/\n/d2%10-5<=100;lia
   ·show{s1.trans f,g,p,f _ _ Z,rj (.of f) y,?_,hb,_,_,()};rw[NG,gV];show b.trans (List.sublist_append_left _ _)
  ·rintro R X⟨s1,g,p,Z,y,b,hb,S,W,rfl⟩
   walk_at "a"
   show Ii (λR H'=>am H H'/\(Ex3 λ(l':Addr)(g:List (Str×Int))(p:List V)=>An5 (H' l'=some (.lst p)) (Paired (KS K H') p g) ((g.map (·.1)).Sublist (Ka++(List.range 3).map (Al (n/8)))) ((∀m∈g,-100<=m.2/\m.2<=100)) (Mp λS W=>R=[some (.int n),some (.ref l'),S,W]))) ?A (λN hJ=>?B)
   case B=>
    show kj (λ_=>?_) (λ_=>hJ _ _ {s1,l,g,p,Z,y,b.trans (List.sublist_append_right _ _),hb,_,_,()});show{5,(),by lia,by lia,λD hD=>?_};show d6 (K:=K) (lo:=0) (n:=5) (λj k H'=>am X H'/\H' D=some (.lst k)/\Paired (KS K H') k (Bt.take j)) {aj (am.refl _) hD,ae,.nil} ?_ ?_
    ·rintro j k G hj⟨f,L,c⟩;obtain⟨e1,e2⟩:=E3 j (s_.mpr hj);have M:=Paired.length c;rw[k4]at M;show au (iG (bI ?_));show U () {"abcde",_,97+j,(),(),dg (dk ()),e1,"mark",({#[97+j]}:Str),(),(),dg (show 4+1<=65536 by decide),U () (r2 {ls (),λt ht=>?_})};have I:=aj (o:=.tup [.str (("mark":Str)++({#[97+j]}:Str)),.int (0+(j:Int)-2)]) (am.refl G) ht;have al:=I _ _ L;show{al,by rw[g8];lia,lf hj {bv (f.trans I) hD,ae,?_}};rw[bK e2];show rj (.lst al) (Paired.snoc (rj (.of I) c) {t,(),aY.of ae})
    ·rintro k G⟨f,L,c⟩;have M:=Paired.length c;have a7:=Paired.length y;have J:=b.length_le;rw[b_,b_,m_]at J;show U () {D,l,_,U () {(),L,f _ _ Z,by rw[g8];have:k.length=5:=M;lia,λl' an=>au (hJ _ _ {aj (s1.trans f) an,l',Bt++g,_,ae,rj (.new an) (xn c (rj (.of f) y)),?_,λm hm=>?_,_,_,()})}}
     ·rw[gV];show(OL _).append b
     ·rcases List.mem_append.mp hm with z|z
      ·show(by decide:∀m∈Bt,-100<=m.2/\m.2<=100) m z
      ·show hb m z
   case A=>rintro R G⟨f,l',a8,bl,a9,c,e,ap,S,W,rfl⟩;show U () {l',U () (.inl {aS.of a9,λt ht=>?_})};obtain⟨m1,m2⟩:=Er (n/8);have bo:=qf;show q t a8 _ (aj f ht) (LH (rj (.new ht) c) (aY.of ae)) (λm hm=>{AV (m2 _ (e.subset (ji.mpr {m,hm,()}))),by have:=ap m hm;lia,by have:=ap m hm;lia}) (e.nodup m1) (by have:=e.length_le;rw[b_]at this;show this)
end
def vO(p:Nat):Prop:=p∈[2,3,5,7,11,13,17,37,61]
def vO.le(h:vO p):2<=p/\p<=61:=(by decide:∀p∈[2,3,5,7,11,13,17,37,61],2<=p/\p<=61) p h
structure yc where
 pl:Addr
 L:Addr
 T:Addr
def CQ(K:O2)(H:Hp)(v:V)(t:Str×Nat):Prop:=∃b,v=.ref b/\aY K H b [.str t.1,.int t.2]
def CQ.kp(e:Kp H H')(h:Paired (CQ K H) c d):Paired (CQ K H') c d:=Paired.mapP h λv m⟨b,h1,h2⟩=>{b,h1,e.tq h2}
structure pU(K:O2)(H:Hp)(p:Nat)(sa:Int)(ns:O8)(ts:List (Str×Nat))(A:yc):Prop where
 pl:H A.pl=some (.lst [.int p,.int sa,.ref A.L,.ref A.T])L:H A.L=some (.lst (ns.map V.str))T:∃us,H A.T=some (.lst us)/\Paired (CQ K H) us ts
 n1:A.pl≠A.L
 n2:A.pl≠A.T
 n3:A.L≠A.T
def pU.same(h:pU K H p sa ns c A)(e:am H H'):pU K H' p sa ns c A:=let⟨b,h1,h2⟩:=h.T
 {e _ _ h.pl,e _ _ h.L,{b,e _ _ h1,CQ.kp (.of e) h2},h.n1,h.n2,h.n3}
inductive F9(K:O2)(vs:List V)(H:Hp)(Q:VK)(_E:XK):Prop|mk(sc:Addr)(ns:Pc)(_:vs=[.ref sc])(_:aS K H sc (ns.map V.int))(_:ns.length<=63)(_:∀(A:yc)(p:Nat)(sa:Int)H',am H H'->H A.pl=none->H A.L=none->H A.T=none->pU K H' p sa [] [] A->vO p->(0<=sa/\sa<=cC)->Q (.ref A.pl) H')
section
def D7(T:Txt K mg a):aP P w K mg base cP 3 a.w4.x a.w4.d ["_law_script"] (F9 K):=by
 show T.w4.ok tM λW A outer s H vs Q E F h=>?_
 ·obtain⟨G,ns,rfl,I,J,q⟩:=h;have X:=qd;show{_,(ag (bp 1 tM.nd (pc T.eK (cS T) F (ac (Y 0) (ac af (ac af O))))) (ag (bp 2 tM.nd (iR K (bj (ac af (ac af (ac af (ac af (ac af (ac af (ac af (ac (iR K (bj (ac af (ac af (ac af (ac af O))))) (aA aW (aA bC (Y 1) af) af)) O))))))))) (aA aW (Y 1) af))) (ah (ay (bj (ac (Y 2) (ac (aA aW (pc T.je (rg T) F (ac (Y 0) (ac af O))) (aA bU (aA ug af af) af)) (ac (bj O) (ac (bj O) O))))))))),?_}
  show U () {G,ns,0,1,(),I,J,{by decide,by decide},{by decide,by decide},au ?_};generalize cT ns 0 1=x;show{ls (),λj r=>?_};have M:=aj (o:=.lst [V.int 5,V.int 17,V.int 37,V.int 61]) (am.refl H) r;have e:aH H j (.lst [V.int 5,V.int 17,V.int 37,V.int 61]) j=some (.lst [V.int 5,V.int 17,V.int 37,V.int 61]):=ae;generalize aH H j (.lst [V.int 5,V.int 17,V.int 37,V.int 61])=t at M e⊢;have b4:=bL (x/8) (show(0:Int)<4 by decide);have u:=bL x (show(0:Int)<8 by decide);obtain⟨z,v,N⟩:=ml (ns:=[5,17,37,61]) b4.1 b4.2
  walk_at "a"
  show{j,_,_,U () {(),aS.of e,N,ls (),λk y=>?_}};have R:=aj (o:=.lst [V.int 2,V.int 3,V.int 5,V.int 7,V.int 11,V.int 13,V.int 7,V.int z]) (am.refl t) y;have f:aH t k (.lst [V.int 2,V.int 3,V.int 5,V.int 7,V.int 11,V.int 13,V.int 7,V.int z]) k=some (.lst [V.int 2,V.int 3,V.int 5,V.int 7,V.int 11,V.int 13,V.int 7,V.int z]):=ae;generalize aH t k (.lst [V.int 2,V.int 3,V.int 5,V.int 7,V.int 11,V.int 13,V.int 7,V.int z])=l at R f⊢;obtain⟨p,B,g⟩:=ml (ns:=[2,3,5,7,11,13,7,z]) u.1 u.2
  walk_at "a"
  show{k,_,_,U () {(),aS.of f,g,au ?_}};have C:vO p.toNat/\0<=p:=by
   simp only[q_,op,E_]at B v;rcases B with rfl|rfl|rfl|rfl|rfl|rfl|rfl|rfl
   all_goals try show{by unfold vO;decide,by decide}
   rcases v with rfl|rfl|rfl|rfl
   all_goals show{by unfold vO;decide,by decide}
  obtain⟨pn,rfl⟩:∃n:Nat,p=n:={p.toNat,by lia};clear B g f v N e b4 u;have i:=M.trans R;show U () (U () {G,ns,1,(),i.seq I,J,?_});generalize wR ns 1=c;have Z:=bL c (show(0:Int)<cC+1 by lia)
  walk_at "a"
  show{ls (),λL D=>{ls (),λT m=>{ls (),λpl b=>?_}}};have n3:L≠T:=λz=>by rw[<-z,ae]at m;cases m
  have n2:pl≠T:=λz=>by rw[z,ae]at b;cases b
  have n1:pl≠L:=λz=>by rw[z,ak n3,ae]at b;cases b
  have S:am l (aH (aH l L (.lst [])) T (.lst [])):=aj (aj (am.refl l) D) m;show q (pl,L,T,) pn _ _ (i.trans (aj S b)) ((i.trans S).free b) (i.free D) ((i.trans (aj (am.refl l) D)).free m) {ae,by change aH _ _ _ L=_;rw[ak (nn n1),ak n3,ae];rfl,{[],by change aH _ _ _ T=_;rw[ak (nn n2),ae],.nil},n1,n2,n3} C.1 {Z.1,by omega}
end
def lA{t u:TS}{D:jP}{c:St}(h:∀v:TS,v=u->zQ t v D c H):zQ t u D c H:=h u ()
def iE(M:be):List Str:=M.las.map bJ.nm
def jg(M:be):List (Str×Nat):=M.trs.map λt=>(t.nm,t.arms.length)
def zf(M:be):Dd->List Str|.layer nm _=>iE M++[nm]|_=>iE M
def vX(M:be):Dd->List (Str×Nat)|.trial x=>jg M++[(x.nm,x.arms.length)]|_=>jg M
def fQ(ns:Pc)(m:Nat):List Str:=(List.range m).map λ(j:Nat)=>du j (cT ns 3 4)
def Fv(ns:Pc)(h:m<=4):(fQ ns m).length=m/\(fQ ns m).Nodup/\∀x∈fQ ns m,Wd x:=by
 show{by unfold fQ;rw[b_,m_],?_,λx c=>?_}
 ·show List.pairwise_iff_getElem.mpr λi j hi b d e=>?_;unfold fQ at e hi b;rw[b_,m_]at hi b;rw[OS,OS,List.getElem_range,List.getElem_range]at e;have:=qa {by lia,by lia} {by lia,by lia} e;lia
 ·obtain⟨j,_,rfl⟩:=ji.mp c;show sP _ _
structure nC(ns:Pc)(M:be):Prop where
 ln:∀(i:Nat)(l:bJ),M.las[i]?=some l->l.nm=du i (cT ns 1 2)/\l.sl=(cT ns 2 2+i)%((M.p:Int)+1)tn:∀(j:Nat)(t:dD),M.trs[j]?=some t->t.nm=du j (cT ns 2 3)/\t.arms=fQ ns t.arms.length
 lp:M.las.length<=M.p+1
 pr:vO M.p
def Ks(ns:Pc)(M:be):Dd->Prop|.layer nm sl=>nm=du M.las.length (cT ns 1 2)/\sl=(cT ns 2 2+M.las.length)%((M.p:Int)+1)/\M.las.length<M.p+1|.trial x=>x.nm=du M.trs.length (cT ns 2 3)/\x.arms=fQ ns x.arms.length|_=>True
def Mq(A:yc)(H H':Hp):Prop:=∃o,(o=A.L\/o=A.T)/\Kp H H'/\∀b ob,H b=some ob->b≠o->H' b=some ob
theorem Mq.of(s:am H H'):Mq A H H':={A.L,.inl (),.of s,λb o h _=>s b o h}
def jf(K:O2)(ns:Pc)(M:be)(A:yc)(H:Hp)(Q:VK):Prop:=∀(b:Addr)(d:Dd)(c:List V)(H':Hp),Mq A H H'->aY K H' b c->jj K H' M d c->pU K H' M.p M.salt (zf M d) (vX M d) A->Ks ns M d->(M.trs.length=0->d.adds=true)->Q (.ref b) H'
def jf.same(h:jf K ns M A H Q)(s:am H c):jf K ns M A c Q:=λe d f H'⟨o,h1,h2,h3⟩=>h e d f H' {o,h1,Kp.trans (.of s) h2,λb ob g=>h3 b ob (s b ob g)}
structure vR(K:O2)(H:Hp)(sc:Addr)(ns:Pc)(M:be)(A:yc)(c:Nat):Prop where
 sq:aS K H sc (ns.map V.int)len:ns.length<=63
 pl:pU K H M.p M.salt (iE M) (jg M) A
 ok:jN M c
 pn:nC ns M
 n4:∀H',(∀b ob,H b=some ob->b≠A.L->H' b=some ob)->aS K H' sc (ns.map V.int)
theorem vR.same(h:vR K H d ns M A c)(s:am H H'):vR K H' d ns M A c:={s.seq h.sq,h.len,h.pl.same s,h.ok,h.pn,λf g=>h.n4 f λb ob e n=>g b ob (s b ob e) n}
def pU.addL(h:pU K H p sa ns c A)(x:Str):pU K (aH H A.L (.lst (ns.map V.str++[.str x]))) p sa (ns++[x]) c A:=let⟨b,h1,h2⟩:=h.T
 {by rw[ak h.n1];show h.pl,by rw[ae,gV];rfl,{b,by rw[ak (nn h.n3)];show h1,CQ.kp (.lst h.L) h2},h.n1,h.n2,h.n3}
def pU.addT(h:pU K H p sa ns c A)(h1:H A.T=some (.lst d))(h2:Paired (CQ K H) d c)(e:aY K H b [.str x.1,.int x.2]):pU K (aH H A.T (.lst (d++[.ref b]))) p sa ns (c++[x]) A:={by rw[ak h.n2];show h.pl,by rw[ak h.n3];show h.L,{_,ae,CQ.kp (.lst h1) (Paired.snoc h2 {b,(),e})},h.n1,h.n2,h.n3}
inductive IS(K:O2)(vs:List V)(H:Hp)(Q:VK)(_E:XK):Prop|mk(sc:Addr)(ns:Pc)(M:be)(A:yc)(c:Nat)(_:vs=[.ref sc,.ref A.pl])(_:vR K H sc ns M A c)(_:M.las.length<4)(_:M.las.length<M.p+1)(_:jf K ns M A H Q)
def B4(h:nC ns M)(c:M.las.length<M.p+1):(cT ns 2 2+M.las.length)%((M.p:Int)+1)∉M.las.map bJ.sl:=λz=>by obtain⟨l,hm,e⟩:=ji.mp z;obtain⟨i,hi⟩:=ig.mp hm;have b:=(d_.mp hi).1;rw[(h.ln i l hi).2]at e;have h1:((cT ns 2 2+M.las.length)-(cT ns 2 2+i))%((M.p:Int)+1)=0:=Int.emod_eq_emod_iff_emod_sub_eq_zero.mp e.symm;rw[show(cT ns 2 2+(M.las.length:Int))-(cT ns 2 2+i)=((M.las.length-i:Nat):Int)by lia,OM (by lia) (by lia)]at h1;lia
def Cp(h:nC ns M)(c:M.las.length<4):du M.las.length (cT ns 1 2)∉M.las.map bJ.nm:=λz=>by obtain⟨l,hm,e⟩:=ji.mp z;obtain⟨i,hi⟩:=ig.mp hm;have b:=(d_.mp hi).1;rw[(h.ln i l hi).1]at e;have:=qa {by lia,by lia} {by lia,by lia} e;lia
def BN(h:nC ns M)(c:M.trs.length<10):du M.trs.length (cT ns 2 3)∉M.trs.map dD.nm:=λz=>by obtain⟨t,hm,e⟩:=ji.mp z;obtain⟨i,hi⟩:=ig.mp hm;have b:=(d_.mp hi).1;rw[(h.tn i t hi).1]at e;have:=qa {by lia,by lia} {by lia,by lia} e;lia
section
def vB(T:Txt K mg a):aP P w K mg base cP 3 a.hV.x a.hV.d ["_law_script","_law_plan_here"] (IS K):=by
 show T.hV.ok jD λC A outer s H I Q E r h=>?_
 ·obtain⟨z,ns,M,A,c,rfl,g,h4,B,q⟩:=h;show{_,(ag (bp 2 jD.nd (aB (aI K ()) (by rfl) T.bE L2.aL (ac (iR K (Y 1) af) O))) (ag (bp 3 jD.nd (pc T.rL (ur T) r (ac (Y 2) (ac (pc T.eK (cS T) r (ac (Y 0) (ac af (ac af O)))) O)))) (ag (aM (fF K () PySem.F.plainAttrs_list PySem.F.slot_list_append PySem.F.type_list_append cF (iR K (Y 1) af) (ac (Y 3) O))) (ah (ay (bx (ac aF (ac (Y 3) (ac (aA aW (aA bU (pc T.eK (cS T) r (ac (Y 0) (ac af (ac af O)))) (Y 2)) (aA bU (iR K (Y 1) af) af)) O))))))))),?_}
  have t:=g.pl;have j:(iE M).length=M.las.length:=b_ _;show U () (rX (aS.of t.pl) (aq (k:=2) ()) {_,M.las.length,(),.inl {_,aS.of t.L,by rw[b_,j]},au ?_});show U () (U () {z,ns,1,2,(),g.sq,g.len,{by decide,by decide},{by decide,by decide},(M.las.length:Int),cT ns 1 2,(),λl m=>au ?_});have f:=t.same m;show U () (rX (aS.of f.pl) (aq (k:=2) ()) {.inl {(),_,aS.of f.L},U () (rA f.L (by rw[b_,j,g8];lia) ?_)});have i:=f.addL (du M.las.length (cT ns 1 2));have kp:Kp l (aH l A.L (.lst ((iE M).map V.str++[.str (du M.las.length (cT ns 1 2))]))):=.lst f.L;have u:∀b ob,l b=some ob->b≠A.L->aH l A.L (.lst ((iE M).map V.str++[.str (du M.las.length (cT ns 1 2))])) b=some ob:=λb ob e n=>by rw[ak n];show e
  generalize aH l A.L (.lst ((iE M).map V.str++[.str (du M.las.length (cT ns 1 2))]))=D at i kp u⊢;have bs:=bL (cT ns 2 2+M.las.length) (show(0:Int)<(M.p:Int)+1 by lia);show U () (U () {z,ns,2,2,(),(g.same m).n4 _ u,g.len,{by decide,by decide},{by decide,by decide},U () (r2 (U () (rX (aS.of i.pl) (aq (k:=0) ()) (r2 (r2 {by change(0:Int)<(M.p:Int)+1;lia,ls (),λG v=>?_})))))});have y:=aj (o:=.tup [.str "layer",.str (du M.las.length (cT ns 1 2)),.int ((cT ns 2 2+M.las.length)%((M.p:Int)+1))]) (am.refl D) v;show q G (.layer _ _) _ _ {A.L,.inl (),Kp.trans (.of m) (Kp.trans kp (.of y)),λb ob e n=>y _ _ (u b ob (m _ _ e) n)} (aY.of ae) (.layer (sP _ _) (Cp g.pn h4) {bs.1,by lia} (B4 g.pn B) h4) (i.same y) {(),(),B} λ_=>()
end
inductive IR(K:O2)(vs:List V)(H:Hp)(Q:VK)(_E:XK):Prop|mk(sc:Addr)(ns:Pc)(M:be)(A:yc)(c:Nat)(n:Int)(_:vs=[.ref sc,.ref A.pl,.int n])(_:vR K H sc ns M A c)(_:M.trs.length<10)(_:0<M.las.length)(_:jf K ns M A H Q)
section
def vA(T:Txt K mg a):aP P w K mg base cP 5 a.hU.x a.hU.d ["_law_script","_law_plan_here","_law_number"] (IR K):=by
 show T.hU.ok cQ λd1 A outer s H vs Q E X h=>?_
 ·obtain⟨sc,ns,M,A,c,n,rfl,Z,a9,d4,q⟩:=h;show{_,(ag (bp 3 cQ.nd (aB (aI K ()) (by rfl) T.bE L2.aL (ac (iR K (Y 1) af) O))) (ag (bp 4 cQ.nd (pc T.rL (ur T) X (ac (Y 3) (ac (pc T.eK (cS T) X (ac (Y 0) (ac af (ac af O)))) O)))) (ag (bp 5 cQ.nd (iR K (iR K (Y 1) af) (aA aW (Y 2) (aB (aI K ()) (by rfl) T.bE L2.aL (ac (iR K (Y 1) af) O))))) (ag (bp 6 cQ.nd (cE (eZ K ()) (by rfl) T.dZ L2.bW (ac (sB kZ [] [9] [9] (ai kN) (b0 9) (dq () T.eO (ac (aA bU af (aA aW (aA bC (Y 2) af) af)) O)) (λcl C s₀ H₀ ex=>{(lB kZ [] 9),bQ,(pc T.rL (ur T) X (ac (Y 9) (ac (pc T.eK (cS T) X (ac (Y 0) (ac af (ac af O)))) O)))})) O))) (ag (bp 7 cQ.nd (bj O)) (ag (bp 8 cQ.nd (pc T.eK (cS T) X (ac (Y 0) (ac (aA bU af (Y 3)) (ac af O))))) (ag (dN mo () (dq () T.eO (ac (aB (qM ()) (by rfl) T.Ef L2.uR (ac af (ac (Y 3) O))) O)) (qo 9 cQ.nd) (ah (aN (aD aX (aA aW (aA bC (Y 8) (iR K (bj (ac af (ac af (ac af (ac af (ac af (ac af (ac af (ac af O))))))))) (Y 9))) af) af (aG _)) (ah (aM (fF K () PySem.F.plainAttrs_list PySem.F.slot_list_append PySem.F.type_list_append cF (Y 7) (ac (dJ K (iR K (iR K (Y 1) af) (aA fV (aA fV (Y 3) af) (Y 9))) af) O)))) aE))) (ag (aM (fF K () PySem.F.plainAttrs_list PySem.F.slot_list_append PySem.F.type_list_append cF (iR K (Y 1) af) (ac (bx (ac (Y 4) (ac (aB (aI K ()) (by rfl) T.bE L2.aL (ac (Y 6) O)) O))) O))) (ah (ay (bx (ac aF (ac (Y 4) (ac (Y 5) (ac (Y 6) (ac (bR ((yZ T 3).mono (by decide)) X () T.eR.m T.eR.f.kp T.eR.b .nil aQ (ac (aA bC (Y 2) af) (ac af O))) (ac (cE (eZ K ()) (by rfl) T.dZ L2.bW (ac (Y 7) O)) O))))))))))))))))),?_}
  have hP:=Z.pl;have d5:(iE M).length=M.las.length:=b_ _;have ci:(jg M).length=M.trs.length:=b_ _;have l4:=Z.ok.l4;obtain⟨us,a2,a3⟩:=hP.T;have a5:=Paired.length a3;rw[ci]at a5;show lA λu1 g=>?_;show U () (rX (aS.of hP.pl) (aq (k:=3) ()) {_,M.trs.length,(),.inl {_,aS.of a2,by rw[a5]},au (sr ?_)});subst g;show lA λu1 g=>?_;show U () (U () {sc,ns,2,3,(),Z.sq,Z.len,{by decide,by decide},{by decide,by decide},(M.trs.length:Int),cT ns 2 3,(),λH1 s1=>au (sr ?_)});subst g;show lA λu1 g=>?_;have u:=Z.same s1;have bl:=bL n (show(0:Int)<((iE M).length:Int)by lia);obtain⟨hm,c0,c1⟩:=ja bl.1 bl.2;show U () (rX (aS.of u.pl.pl) (aq (k:=2) ()) (U () (U () (rX (aS.of u.pl.pl) (aq (k:=2) ()) {_,(iE M).length,(),.inl {_,aS.of u.pl.L,by rw[b_]},_,U () {(),by change(0:Int)<((iE M).length:Int);lia,A.L,_,_,U () {(),aS.of u.pl.L,c1,au (sr ?_)}}}))));subst g;show lA λu1 g=>?_;have b4:=bL (n/4) (show(0:Int)<4 by decide)
  walk_at "a"
  show{by lia,by lia,λD hD=>?_};obtain⟨m,c2,ba,em⟩:∃m:Nat,1<=m/\m<=4/\1+n/4%4=(m:Int):={(1+n/4%4).toNat,by lia,by lia,by lia};rw[em];obtain⟨al,bb,aw⟩:=Fv ns ba;show d6 (K:=K) (lo:=0) (n:=m) (λj aa H'=>am H1 H'/\H' D=some (.lst aa)/\aa=((fQ ns m).take j).map V.str) {aj (am.refl _) hD,ae,()} ?_ ?_
  ·rintro j aa H2 hj⟨s2,J,rfl⟩;rw[show(0:Int)+(j:Int)=((j:Nat):Int)by lia];show au (iG (bI ?_));show U () (U () {sc,ns,3,4,(),s2.seq u.sq,Z.len,{by decide,by decide},{by decide,by decide},(j:Int),cT ns 3 4,(),λH3 s3=>?_});show{s3 _ _ J,by rw[b_,k4,g8];show Es (Nr _ _) (by rw[al];omega),lf hj {bv (s2.trans s3) hD,ae,?_}};have e:(fQ ns m)[j]?=some (du (j:Int) (cT ns 3 4)):=by unfold fQ;rw[ge,OB hj];rfl
   rw[bK e,gV];rfl
  ·rintro aa H2⟨s2,J,rfl⟩;rw[hF (On al)]at J;show{D,U () (.inl {aS.of J,λar bc=>au (sr ?_)})};subst g;show lA λu1 g=>?_;have s3:am H1 (aH H2 ar (.tup ((fQ ns m).map V.str))):=aj s2 bc;have ad:aH H2 ar (.tup ((fQ ns m).map V.str)) ar=some (.tup ((fQ ns m).map V.str)):=ae;generalize aH H2 ar (.tup ((fQ ns m).map V.str))=H3 at s3 ad⊢;clear J s2 bc hD;show{ls (),λsl a6=>au (sr ?_)};subst g;show lA λu1 g=>?_;have s4:=aj (o:=.lst []) s3 a6;have an:=aj (o:=.lst []) (am.refl H3) a6 _ _ ad;have bi:=u.same s4;have ap:H1 sl=none:=s3.free a6;have as:aH H3 sl (.lst []) sl=some (.lst []):=ae;generalize aH H3 sl (.lst [])=H4 at s4 an bi as⊢;show U () (U () (r2 {sc,ns,5+(M.trs.length:Int),7,(),bi.sq,Z.len,{by lia,by lia},{by decide,by decide},au (sr ?_)}));subst g;show lA λu1 g=>?_;generalize cT ns (5+(M.trs.length:Int)) 7=mr;obtain⟨kk,k8,kt,a7⟩:∃k:Nat,k<=8/\k<=M.trs.length/\(if(M.trs.length:Int)<8 then(M.trs.length:Int)else 8)=(k:Int):={min 8 M.trs.length,Nat.min_le_left _ _,Nr _ _,by split<;>omega};show U () {_,U () (U () {by rw[a7];lia,by rw[a7];lia,?_})};rw[a7];have nd:((M.trs.map dD.nm).reverse).Nodup:=List.pairwise_reverse.mpr (List.Pairwise.imp (λh=>nn h) Z.ok.tn);have d9:((M.trs.map dD.nm).reverse).length=M.trs.length:=by rw[NK,b_]
   show uI (lo:=0) (n:=kk) (λi σ H'=>am H1 H'/\H' ar=some (.tup ((fQ ns m).map V.str))/\∃(I:O8),H' sl=some (.lst (I.map V.str))/\I.Sublist ((M.trs.map dD.nm).reverse.take i)/\∃v9,σ=[some (.ref sc),some (.ref A.pl),some (.int n),some (.int M.trs.length),some (.str (du M.trs.length (cT ns 2 3))),some (.str hm),some (.ref ar),some (.ref sl),some (.int mr),v9]) {s4,an,[],as,List.nil_sublist _,_,()} ?_ ?_
   ·rintro i σ H5 hi⟨S,l,I,hz,p,v9,rfl⟩N R B hN;have i8:i<8:=me hi k8;have it:i<M.trs.length:=me hi kt;show au ?_;show U () {ls (),λl5 c3=>?_};show gS c3 λH6 y c4=>?_;obtain⟨d,hd,ha⟩:=ml (ns:=[1,4,16,64,256,1024,4096,16384]) (i:=0+(i:Int)) (by lia) (by change _<(8:Int);lia);have da:=(by decide:∀d∈[(1:Int),4,16,64,256,1024,4096,16384],0<d/\d<1073741824) d hd;show U () {l5,_,_,U () {(),aS.of c4,ha,_,U () {(),da,_,U () {(),(show(0:Int)<4 by decide),(),U () ?_}}}};have a8:(M.trs.map dD.nm).reverse[i]?=(M.trs.map dD.nm)[M.trs.length-1-i]?:=by rw[List.getElem?_reverse (by rw[b_];show it),b_]
    obtain⟨t,ht⟩:∃t,M.trs[M.trs.length-1-i]?=some t:={_,ga (Es (Nat.sub_le _ _) (Nat.sub_lt (Nat.zero_lt_of_lt it) Nat.one_pos))};rw[ge,ht]at a8;show kj (λ_=>?_) (λ_=>hN _ _ {S.trans y,y _ _ l,I,y _ _ hz,by rw[bK a8];show p.trans (List.sublist_append_left _ _),_,()});have dc:=u.pl.same (S.trans y);obtain⟨v,hv,b,rfl,hb⟩:=ub a3 (M.trs.length-1-i) (t.nm,t.arms.length) (by unfold jg;rw[ge,ht];rfl);have G:=(s1.trans (S.trans y)) _ _ a2;have bo:=y _ _ hz;have bt:=iA p.length_le (B_ _ _);show U () {.inl {(),_,aS.of bo},U () (rX (aS.of dc.pl) (aq (k:=3) ()) (U () (r2 (U () (r2 ?_)))))};show rX (aS.of G) (by rw[show(M.trs.length:Int)-1-(0+(i:Int))=((M.trs.length-1-i:Nat):Int)by lia];show aq hv) (rX (am.tseq (s1.trans (S.trans y)) hb) (aq (k:=0) ()) ?_);show rA bo (by rw[b_,g8];lia) (hN _ _ {bv (S.trans y) ap,by rw[ak λz=>by rw[z,hz]at l;cases l];show y _ _ l,I++[t.nm],by rw[ae,gV];rfl,?_,_,()});rw[bK a8];show p.append (OL _)
   ·rintro σ H5⟨S,l,I,hz,p,v9,rfl⟩;show sr ?_;subst g;show lA λu1 g=>?_;have bz:=u.same S;have di:=(p.trans (NZ _ _)).nodup nd;have bt:=iA (iA p.length_le (B_ _ _)) k8;have W:=(s1.trans S) _ _ a2;have bO:=CQ.kp (.of (s1.trans S)) a3;show U () (rX (aS.of bz.pl.pl) (aq (k:=3) ()) {.inl {(),_,aS.of W},U () (U () {_,m,(),.inr {_,aY.of l,by rw[b_,al]},ls (),λb hb=>?_})});show gS hb λH6 y dK=>?_;have G:=y _ _ W;show rA G (by rw[a5,g8];lia) (sr ?_);subst g;have b8:=(bz.pl.same y).addT G (CQ.kp (.of y) bO) (x:=(du M.trs.length (cT ns 2 3),m)) (aY.of dK);have kp:Kp H6 (aH H6 A.T (.lst (us++[.ref b]))):=.lst G;have hk:∀d ob,H6 d=some ob->d≠A.T->aH H6 A.T (.lst (us++[.ref b])) d=some ob:=λd ob e n=>by rw[ak n];show e
    generalize aH H6 A.T (.lst (us++[.ref b]))=H7 at b8 kp hk⊢;have nT:∀{d:Addr},H1 d=none->d≠A.T:=λh z=>by rw[z,u.pl.T.choose_spec.1]at h;cases h
    have b9:=hk _ _ (y _ _ l) (λz=>by rw[z,W]at l;cases l);have dT:=hk _ _ (y _ _ hz) (nT ap);show U () (U () (U () (U () (r2 {{by decide,by decide},n/16,3,(),by decide,by decide,λr rv H8 s8 X ho hh hc=>?_}))));show U () {sl,U () (.inl {aS.of (s8 _ _ dT),λsh dV=>{ls (),λdv cc=>?_}})};obtain⟨ra,rfl⟩:∃ra,rv=.ref ra:=by cases X<;>show{_,()}
    have s9:=aj (o:=.tup (I.map V.str)) (am.refl H8) dV;have ax:aH H8 sh (.tup (I.map V.str)) sh=some (.tup (I.map V.str)):=ae;generalize aH H8 sh (.tup (I.map V.str))=H9 at s9 ax cc⊢;have sa:=aj (o:=.tup [.str "trial",.str (du M.trs.length (cT ns 2 3)),.str hm,.ref ar,.ref ra,.ref sh]) (am.refl H9) cc;show q dv (.trial {du M.trs.length (cT ns 2 3),hm,fQ ns m,r,I,false,false,[]}) _ _ {A.T,.inr (),Kp.trans (.of ((s1.trans S).trans y)) (Kp.trans kp (.of ((s8.trans s9).trans sa))),λd ob e n=>((s8.trans s9).trans sa) _ _ (hk d ob (((s1.trans S).trans y) _ _ e) n)} (aY.of ae) ?_ ?_ {(),by change fQ ns m=fQ ns (fQ ns m).length;rw[al]} λ_=>()
    ·show .trial {sP _ _,c0,by rw[al];show c2,by rw[al];show ba,bb,aw,by change r.hgt<=6;omega,bt} (BN Z.pn a9) (aY.of (((s8.trans s9).trans sa) _ _ b9)) ((X.kp (.of s9)).kp (.of sa)) (by change r.cnt<=30;omega) ho (λw hw=>AV ((dk ():∀w∈Mx,Ir w=true) w hw)) (by decide) (aY.of (sa _ _ ax)) (λz hz=>Nt.mp (NC (p.subset hz))) di () () () a9
    ·have:=b8.same ((s8.trans s9).trans sa);rw[show vX M (.trial {du M.trs.length (cT ns 2 3),hm,fQ ns m,r,I,false,false,[]})=jg M++[(du M.trs.length (cT ns 2 3),m)]by change jg M++[(_,(fQ ns m).length)]=_;rw[al]];show this
end
inductive Dj(K:O2)(vs:List V)(H:Hp)(Q:VK)(_E:XK):Prop|mk(sc:Addr)(ns:Pc)(M:be)(A:yc)(c:Nat)(k n:Int)(_:vs=[.ref sc,.ref A.pl,.int k,.int n])(_:vR K H sc ns M A c)(_:(0<=k/\k<=1000))(_:0<M.trs.length)(_:jf K ns M A H Q)
def vR.tri(h:vR K H l ns M A c)(h1:H A.T=some (.lst d))(h2:Paired (CQ K H) d (jg M))(n:Int)(h0:0<M.trs.length):∃(t:dD)(b:Addr),t∈M.trs/\vM d (n%(d.length:Int))=some (.ref b)/\aY K H b [.str t.nm,.int t.arms.length]:=by
 have e:=Paired.length h2;rw[show(jg M).length=M.trs.length from b_ _]at e;have b:=bL n (show(0:Int)<(d.length:Int)by lia);have f:(n%(d.length:Int)).toNat<M.trs.length:=by lia
 obtain⟨v,g,i,rfl,j⟩:=ub h2 (n%(d.length:Int)).toNat _ (by unfold jg;rw[ge,ga f];rfl);show{_,i,Oc f,?_,j};have:=aq g;rw[show(((n%(d.length:Int)).toNat:Nat):Int)=n%(d.length:Int)by lia]at this;show this
section
def Ch(T:Txt K mg a):aP P w K mg base cP 3 a.qT.x a.qT.d ["_law_script","_law_plan_here","_law_k","_law_number"] (Dj K):=by
 show T.qT.ok mz λal A outer s H vs Q E hr h=>?_
 ·obtain⟨sc,ns,M,A,c,k,n,rfl,m,⟨k0,k1⟩,h0,q⟩:=h;show{_,(ag (bp 4 mz.nd (iR K (iR K (Y 1) af) (aA aW (Y 3) (aB (aI K ()) (by rfl) T.bE L2.aL (ac (iR K (Y 1) af) O))))) (ag (ua (i:=5) mz.nd () (.inr ()) (aA bU (aA bC (iR K (Y 1) af) af) af)) (ag (aN (aD aX (aA aW (aA bC (Y 3) af) af) af (aG _)) (ag (bp 6 mz.nd (cE (eZ K ()) (by rfl) T.dZ L2.bW (ac (sB mx ["_law_j"] [] [7] (ai oZ) (b0 7) (dq () T.eO (ac (dJ K (Y 4) af) O)) (λcl C s₀ H₀ ex=>{(lB mx ["_law_j"] 7),bQ,(aA bU af (aA aW (pc T.eK (cS T) hr (ac (Y 0) (ac (Y 2) (ac (aA bU af (Y 7)) O)))) af))})) O))) (ah (ay (bx (ac aF (ac (dJ K (Y 4) af) (ac (aA aW (pc T.eK (cS T) hr (ac (Y 0) (ac (Y 2) (ac af O)))) (aA bU (iR K (Y 1) af) af)) (ac (Y 6) O)))))))) aE) (ah (ay (bx (ac aF (ac (dJ K (Y 4) af) (ac (cE (eZ K ()) (by rfl) T.dZ L2.bW (ac (sB mx ["_law_j"] [] [7] (ai oZ) (b0 7) (dq () T.eO (ac (dJ K (Y 4) af) O)) (λcl C s₀ H₀ ex=>{(lB mx ["_law_j"] 7),bQ,(aA aW (pc T.eK (cS T) hr (ac (Y 0) (ac (Y 2) (ac (aA bU af (Y 7)) O)))) (Y 5))})) O)) O))))))))),?_}
  have J:=m.pl;have hp:=m.pn.pr.le;have an:=qf;obtain⟨us,L,Z⟩:=J.T;have aa:=Paired.length Z;rw[show(jg M).length=M.trs.length from b_ _]at aa;obtain⟨t,b,B,ad,hb⟩:=m.tri L Z n h0;have a1:=(m.ok.tr t B).a1;have a4:=(m.ok.tr t B).a4;show lA λu1 R=>?_;show U () (rX (aS.of J.pl) (aq (k:=3) ()) (U () (U () (rX (aS.of J.pl) (aq (k:=3) ()) {_,us.length,(),.inl {_,aS.of L,()},_,U () {(),by change(0:Int)<(us.length:Int);lia,A.T,_,_,U () {(),aS.of L,ad,au (sr ?_)}}}))));subst R;show lA λu1 R=>?_;show U () (rX (aS.of J.pl) (aq (k:=0) ()) (r2 {{by decide,by decide},_,U () {(),au (sr ?_)}}));subst R;show qG ?_ (λN hN=>?_)
  rotate_left
  ·walk_at "a"
   show kj (λ_=>?_) (λ_=>hN);show U () (rX hb (aq (k:=1) ()) (U () {by lia,by lia,λD hD=>?_}));show d6 (K:=K) (lo:=0) (n:=(t.arms.length:Int).toNat) (λj f H'=>am H H'/\H' D=some (.lst f)/\∃(e:Pc),f=e.map V.int/\e.length=j/\∀x∈e,1<=x/\x<=9) {aj (am.refl _) hD,ae,[],(),(),λx v=>nomatch v} ?_ ?_
   ·rintro j f S hj⟨F,l,e,rfl,r,g⟩;show au (iG (bI ?_));have b9:=bL (cT ns k (11+(0+(j:Int)))) (show(0:Int)<9 by decide);show U () (U () (U () (r2 {sc,ns,k,11+(0+(j:Int)),(),F.seq m.sq,m.len,{by lia,by lia},{by lia,by lia},_,U () {(),(show(0:Int)<9 by decide),_,U () {(),?_}}})));show{l,by rw[b_,g8];lia,lf hj {bv F hD,ae,e++[1+cT ns k (11+(0+(j:Int)))%9],by rw[gV];rfl,by rw[hQ,r];rfl,λx v=>?_}};rcases List.mem_append.mp v with z|z
    ·show g x z
    ·rw[List.mem_singleton.mp z];lia
   ·rintro f S⟨F,l,e,rfl,r,g⟩;show{D,U () (.inl {aS.of l,λG W=>au ?_})};have y:=aj (o:=.tup (e.map V.int)) F W;have u:aH S G (.tup (e.map V.int)) G=some (.tup (e.map V.int)):=ae;generalize aH S G (.tup (e.map V.int))=H3 at y u⊢;have bz:=bL (cT ns k 10) (show(0:Int)<(M.p:Int)+1 by lia);show U () (rX (am.tseq y hb) (aq (k:=0) ()) (U () (U () {sc,ns,k,10,(),y.seq m.sq,m.len,{by lia,by lia},{by decide,by decide},U () (rX (aS.of (y _ _ J.pl)) (aq (k:=0) ()) (r2 (r2 {by change(0:Int)<(M.p:Int)+1;lia,U () {ls (),λdv I=>?_}})))})));have X:=aj (o:=.tup [.str "deal",.str t.nm,.int (cT ns k 10%((M.p:Int)+1)),.ref G]) (am.refl H3) I;show q dv (.deal t _ e) _ _ (.of (y.trans X)) (aY.of ae) (.deal B {bz.1,by lia} (aY.of (X _ _ u)) (by lia) λx v=>{(g x v).1,by have:=(g x v).2;lia}) (J.same (y.trans X)) trivial λz=>absurd z (n_ h0)
  ·show U () (rX hb (aq (k:=0) ()) (U () (rX hb (aq (k:=1) ()) (U () {by lia,by lia,λD hD=>?_}))));show d6 (K:=K) (lo:=0) (n:=(t.arms.length:Int).toNat) (λj f H'=>am H H'/\H' D=some (.lst f)/\∃(e:Pc),f=e.map V.int/\e.length=j/\∀x∈e,0<=x) {aj (am.refl _) hD,ae,[],(),(),λx v=>nomatch v} ?_ ?_
   ·rintro j f S hj⟨F,l,e,rfl,r,g⟩;show au (iG (bI ?_));have b9:=bL (cT ns k (11+(0+(j:Int)))) (show(0:Int)<(M.p:Int)/2+2 by lia);show U () (U () (U () (r2 {sc,ns,k,11+(0+(j:Int)),(),F.seq m.sq,m.len,{by lia,by lia},{by lia,by lia},U () (r2 {(by change(0:Int)<(M.p:Int)/2+2;lia),?_})})));show{l,by rw[b_,g8];lia,lf hj {bv F hD,ae,e++[cT ns k (11+(0+(j:Int)))%((M.p:Int)/2+2)],by rw[gV];rfl,by rw[hQ,r];rfl,λx v=>?_}};rcases List.mem_append.mp v with z|z
    ·show g x z
    ·rw[List.mem_singleton.mp z];show b9.1
   ·rintro f S⟨F,l,e,rfl,r,g⟩;show{D,U () (.inl {aS.of l,λG W=>{ls (),λdv I=>?_}})};have y:=aj (o:=.tup (e.map V.int)) F W;have u:aH S G (.tup (e.map V.int)) G=some (.tup (e.map V.int)):=ae;generalize aH S G (.tup (e.map V.int))=H3 at y u I⊢;have X:=aj (o:=.tup [.str "share",.str t.nm,.ref G]) (am.refl H3) I;show q dv (.share t e) _ _ (.of (y.trans X)) (aY.of ae) (.share B (aY.of (X _ _ u)) (by lia) g) (J.same (y.trans X)) trivial λz=>absurd z (n_ h0)
end
def uG(F G:Prop)(hc:∀Q:Bool->Hp->Prop,(F->Q true H)->(G->Q false H)->c d H Q)(h1:F->∀N:St->Hp->Prop,t {D with nx:=N} d H)(h2:G->u D d H):zQ (FS c t yi) u D d H:=hc _ (λf=>bI (h1 f _)) λg=>cu (h2 g)
def AI{c:Prop}[Decidable c]{Q:Bool->Hp->Prop}{H:Hp}(h1:c->Q true H)(h2:¬c->Q false H):Q (decide c) H:=by
 by_cases e:c
 ·rw[j2 e];show h1 e
 ·rw[j_ e];show h2 e
def M7{te:TE}{g:TG}{u:TS}{D:jP}{c:St}(h1:∀Q:VK,(∀b,Q (.bl b) H)->te c H Q)(h2:∀b,g (.bl b) c H (u D)):zQ (yj te g) u D c H:=h1 _ h2
inductive Gh(K:O2)(vs:List V)(H:Hp)(Q:VK)(_E:XK):Prop|mk(sc:Addr)(ns:Pc)(M:be)(A:yc)(c:Nat)(k:Int)(_:vs=[.ref sc,.ref A.pl,.int k])(_:vR K H sc ns M A c)(_:(0<=k/\k<=1000))(_:jf K ns M A H Q)
section
def D8(T:Txt K mg a):aP P w K mg base cP 6 a.w5.x a.w5.d ["_law_script","_law_plan_here","_law_k"] (Gh K):=by
 show T.w5.ok jZ λan A outer s H vs Q E G h=>?_
 ·obtain⟨S,ns,M,A,c,k,rfl,y,⟨k0,k1⟩,q0⟩:=h;show{_,(ag (bp 3 jZ.nd (pc T.eK (cS T) G (ac (Y 0) (ac (Y 2) (ac af O))))) (ag (bp 4 jZ.nd (aA bC (Y 3) af)) (ag (bp 5 jZ.nd (pc T.oo (wq T) G (ac (aA aW (Y 4) af) (ac (pc T.eK (cS T) G (ac (Y 0) (ac af (ac af O)))) O)))) (ag (aN (PW.pt (fL (aD aX (aB (aI K ()) (by rfl) T.bE L2.aL (ac (iR K (Y 1) af) O)) af (aG _)) (dX (PW.pt (qm (aD aX (aA aW (Y 3) af) af (aG _)) (mB (aD yM (aB (aI K ()) (by rfl) T.bE L2.aL (ac (iR K (Y 1) af) O)) (aB (qM ()) (by rfl) T.Ef L2.uR (ac (aA bU (iR K (Y 1) af) af) (ac af O))) (aG _)))))))) (ah (ay (pc T.hV (vB T) G (ac (Y 0) (ac (Y 1) O))))) aE) (ag (bp 6 jZ.nd (cH (cf yM (Y 2) af (aG _)) (dO (cf yM (aA aW (Y 3) af) af (aG _))))) (ag (aN (PW.pt (fL (aD aX (aB (aI K ()) (by rfl) T.bE L2.aL (ac (iR K (Y 1) af) O)) af (aG _)) (dX (PW.pt (qm (aD yM (aB (aI K ()) (by rfl) T.bE L2.aL (ac (iR K (Y 1) af) O)) af (aG _)) (mB (PW.pt (fL (aT K () (Y 6) (λ_=>())) (dX (aD aX (aA aW (Y 3) af) af (aG _))))))))))) (ah (ay (pc T.hU (vA T) G (ac (Y 0) (ac (Y 1) (ac (Y 4) O)))))) aE) (ag (aN (aD yM (aA aW (Y 3) af) af (aG _)) (ah (ay (pc T.qT (Ch T) G (ac (Y 0) (ac (Y 1) (ac (Y 2) (ac (Y 4) O))))))) aE) (ag (bp 7 jZ.nd (dJ K (iR K (iR K (Y 1) af) (aA aW (aA bC (Y 4) af) (aB (aI K ()) (by rfl) T.bE L2.aL (ac (iR K (Y 1) af) O)))) af)) (ag (aN (aD aX (aA aW (Y 3) af) af (aG _)) (ah (ay (bx (ac aF (ac (iR K (iR K (Y 1) af) (aA aW (Y 4) (aB (aI K ()) (by rfl) T.bE L2.aL (ac (iR K (Y 1) af) O)))) (ac (aA aW (aA bC (Y 4) af) (aA bU (aA bC (iR K (Y 1) af) af) af)) O)))))) aE) (ag (aN (aD aX (aA aW (Y 3) af) af (aG _)) (ah (ay (bx (ac (iR K (bj (ac aF (ac aF (ac aF O)))) (aA aW (Y 4) af)) (ac (Y 7) O))))) aE) (ag (aN (aD aX (aA aW (Y 3) af) af (aG _)) (ah (ay (bx (ac (iR K (bj (ac aF (ac aF (ac aF (ac aF O))))) (aA aW (Y 4) af)) (ac (Y 7) O))))) aE) (ag (aN (aD aX (aA aW (Y 3) af) af (aG _)) (ah (ay (bx (ac aF (ac (Y 5) (ac (Y 7) O)))))) aE) (ah (ay (bx (ac aF (ac (Y 5) (ac (pc T.qU (Ci T) G (ac (aA bC (Y 4) af) O)) O)))))))))))))))))),?_}
  show lA λu1 n=>?_;show U () (U () {S,ns,k,5,(),y.sq,y.len,{by lia,by lia},{by decide,by decide},au (sr ?_)});subst n;show lA λu1 n=>?_;have x0:=(GS ns k 5).1;generalize cT ns k 5=x at x0⊢;show U () (r2 {{by decide,by decide},au (sr ?_)});subst n;show lA λu1 n=>?_;show U () (r2 {(show(0:Int)<7 by decide),U () {S,ns,4,6,(),y.sq,y.len,{by decide,by decide},{by decide,by decide},x/16%7,cT ns 4 6,(),λg H1 s1 hg=>au (sr ?_)}});subst n;have R:=y.same s1;have q:=q0.same s1;clear y q0 s1;have i:=R.pl;have hp:=R.pn.pr.le;obtain⟨us,D,W⟩:=i.T;have aa:=Paired.length W;rw[show(jg M).length=M.trs.length from b_ _]at aa;have X:((iE M).map V.str).length=M.las.length:=by rw[b_];show b_ _
  show uG (M.las.length<4/\M.las.length<M.p+1) (0<M.las.length) (λQ r u=>?_) (λf N=>?_) (λh0=>?_)
  ·show U () (rX (aS.of i.pl) (aq (k:=2) ()) {_,M.las.length,(),.inl {_,aS.of i.L,X.symm},(),U () (kj (λe=>r {by lia,by lia}) (λe=>?_))});show U () (r2 {(show(0:Int)<16 by decide),(),U () (kj (λ_=>?_) (λ_=>u (by lia)))});show U () (rX (aS.of i.pl) (aq (k:=2) ()) {_,M.las.length,(),.inl {_,aS.of i.L,X.symm},U () (rX (aS.of i.pl) (aq (k:=0) ()) (r2 {(M.p:Int)+1,4,(),r2 (U () (AI (λf=>r ?_) (λ_=>u (by lia))))}))})
   split at f<;>lia
  ·show U () (U () {S,ns,M,A,c,(),R,f.1,f.2,q})
  show M7 (λQ h=>?_) (λeb=>au ?_)
  ·show U () (r2 (U () (lz (λ_=>?_) (λ_=>h _))));show U () (r2 {(show(0:Int)<16 by decide),_,U () {(),h _}})
  show uG (M.trs.length<10) (0<M.trs.length) (λQ r u=>?_) (λf N=>?_) (λF=>?_)
  ·show U () (rX (aS.of i.pl) (aq (k:=3) ()) {_,us.length,(),.inl {_,aS.of D,()},(),U () (kj (λe=>r (by lia)) (λe=>?_))});have g0:0<M.trs.length:=by lia
   show U () (rX (aS.of i.pl) (aq (k:=3) ()) {_,us.length,(),.inl {_,aS.of D,()},_,U () {(),U () (lz (λe=>?_) (λ_=>u g0))}});have f:=r (by lia);show U () {eb,(),uD (λ_=>f) (λ_=>?_)};show U () (r2 {(show(0:Int)<16 by decide),(),U () (AI (λ_=>f) (λ_=>u g0))})
  ·show U () (U () (U () {S,ns,M,A,c,x/16,(),R,f,h0,q}))
  show uG True True (λQ r u=>?_) (λ_ N=>?_) (λ_=>?_)
  ·show U () (r2 {(show(0:Int)<16 by decide),_,U () {(),U () (AI (λ_=>r trivial) (λ_=>u trivial))}})
  ·show U () (U () (U () (U () {S,ns,M,A,c,k,x/16,(),R,(k0,k1,),F,q})))
  obtain⟨t,b,B,ad,hb⟩:=R.tri D W (x/16/7) F;show lA λu1 n=>?_;show U () (rX (aS.of i.pl) (aq (k:=3) ()) (U () (r2 {{by decide,by decide},U () (rX (aS.of i.pl) (aq (k:=3) ()) {_,us.length,(),.inl {_,aS.of D,()},_,U () {(),by change(0:Int)<(us.length:Int);lia,A.T,_,_,U () {(),aS.of D,ad,rX hb (aq (k:=0) ()) (au (sr ?_))}}})})));subst n;show uG True True (λQ r u=>?_) (λ_ N=>?_) (λ_=>?_)
  ·show U () (r2 {(show(0:Int)<16 by decide),(),U () (AI (λ_=>r trivial) (λ_=>u trivial))})
  ·have ap:(iE M).length=M.las.length:=b_ _;have bl:=bL (x/16) (show(0:Int)<((iE M).length:Int)by lia);have bz:=bL (x/16/4) (show(0:Int)<(M.p:Int)/3+2 by lia);obtain⟨nm,al,Z⟩:=ja bl.1 bl.2;obtain⟨l,hl,rfl⟩:=ji.mp al;show U () (rX (aS.of i.pl) (aq (k:=2) ()) (U () (U () (rX (aS.of i.pl) (aq (k:=2) ()) {_,(iE M).length,(),.inl {_,aS.of i.L,by rw[b_]},_,U () {(),by change(0:Int)<((iE M).length:Int);lia,A.L,_,_,U () {(),aS.of i.L,Z,?_}}}))));show U () (r2 {{by decide,by decide},U () (rX (aS.of i.pl) (aq (k:=0) ()) (r2 {{by decide,by decide},_,U () {(),r2 {by change(0:Int)<(M.p:Int)/3+2;lia,ls (),λC m=>?_}}}))});have j:=aj (o:=.tup [.str "hold",.str l.nm,.int (x/16/4%((M.p:Int)/3+2))]) (am.refl H1) m;show q C (.hold l _) _ _ (.of j) (aY.of ae) (.hold hl bz.1) (i.same j) trivial λz=>absurd z (n_ F)
  show uG True True (λQ r u=>?_) (λ_ N=>?_) (λ_=>?_)
  ·show U () (r2 {(show(0:Int)<16 by decide),(),U () (AI (λ_=>r trivial) (λ_=>u trivial))})
  ·show{ls (),λl1 I=>?_};show gS I λH2 v J=>?_;have bm:=bL (x/16) (show(0:Int)<3 by decide);obtain⟨z,hz,Z⟩:=ja (zs:=["pause","go","go"]) bm.1 bm.2;show U () (r2 {(show(0:Int)<3 by decide),l1,_,_,U () {(),aS.of J,Z,U () {ls (),λC m=>?_}}});have j:=aj (o:=.tup [.str z,.str t.nm]) (am.refl H2) m;simp only[q_,op,E_]at hz;rcases hz with rfl|rfl|rfl
   ·show q C (.pause t true) _ _ (.of (v.trans j)) (aY.of ae) (.pause B) (i.same (v.trans j)) trivial λz=>absurd z (n_ F)
   all_goals show q C (.pause t false) _ _ (.of (v.trans j)) (aY.of ae) (.go B) (i.same (v.trans j)) trivial λz=>absurd z (n_ F)
  show uG True True (λQ r u=>?_) (λ_ N=>?_) (λ_=>?_)
  ·show U () (r2 {(show(0:Int)<16 by decide),(),U () (AI (λ_=>r trivial) (λ_=>u trivial))})
  ·show{ls (),λl1 I=>?_};show gS I λH2 v J=>?_;have bm:=bL (x/16) (show(0:Int)<4 by decide);obtain⟨z,hz,Z⟩:=ja (zs:=["close","pause","go","go"]) bm.1 bm.2;show U () (r2 {(show(0:Int)<4 by decide),l1,_,_,U () {(),aS.of J,Z,U () {ls (),λC m=>?_}}});have j:=aj (o:=.tup [.str z,.str t.nm]) (am.refl H2) m;simp only[q_,op,E_]at hz;rcases hz with rfl|rfl|rfl|rfl
   ·show q C (.close t) _ _ (.of (v.trans j)) (aY.of ae) (.close B) (i.same (v.trans j)) trivial λz=>absurd z (n_ F)
   ·show q C (.pause t true) _ _ (.of (v.trans j)) (aY.of ae) (.pause B) (i.same (v.trans j)) trivial λz=>absurd z (n_ F)
   all_goals show q C (.pause t false) _ _ (.of (v.trans j)) (aY.of ae) (.go B) (i.same (v.trans j)) trivial λz=>absurd z (n_ F)
  show uG True True (λQ r u=>?_) (λ_ N=>?_) (λ_=>?_)
  ·show U () (r2 {(show(0:Int)<16 by decide),(),U () (AI (λ_=>r trivial) (λ_=>u trivial))})
  ·show U () (U () {ls (),λC m=>?_});have j:=aj (o:=.tup [.str "bar",.str g,.str t.nm]) (am.refl H1) m;show q C (.bar g t) _ _ (.of j) (aY.of ae) (.bar hg B) (i.same j) trivial λz=>absurd z (n_ F)
  show U () (U () (r2 {{by decide,by decide},x/16/7,(),λmt ms H2 v hm h3 h4 h5=>{ls (),λC m=>?_}}));have j:=aj (o:=.tup [.str "visit",.str g,.ref mt]) (am.refl H2) m;show q C (.visit g _) _ _ (.of (v.trans j)) (aY.of ae) (.visit hg (hm.kp (.of j)) h3 h4 h5) (i.same (v.trans j)) trivial λz=>absurd z (n_ F)
end
def G6:∀{c:List (bY×V)}{d:List (bY×Value)}{acc:O6},KV c d->acc.length=d.length->(∀(j:Nat)(v:Value),acc[j]?=some v->∃(k:bY)(x:Value),d[j]?=some (k,x)/\(aR P w).is k v=true)->a0 (c.map λp=>kV p.1) acc:=by
 intro c d acc h
 induction h generalizing acc with|nil=>intro b _;rw[OZ,List.length_eq_zero_iff]at b;rw[b];show .nil|@cons p q _ _ h _ f=>intro b hi;cases acc with|nil=>cases b|cons v r=>
   show .cons ?_ (f (by simpa using b) λj u e=>by simpa using hi (j+1) u (by simpa using e));obtain⟨k,x,e,g⟩:=hi 0 v ();have e:q=(k,x):=by simpa using e
   change aV (kV p.1) v;rw[show p.1=k by rw[h.1,e]];show xz g
def AM{X:Cx}(hc:X.calm=true):df X (.type "list") (λg H Q=>∃(d:Addr)(c:List (bY×V)),g=[.ref d]/\H d=some (.dK c)/\∀l,H l=none->Q (.ref l) (aH H l (.lst (c.map λp=>kV p.1)))):=by intro i s B H g C Q I r h;obtain⟨d,c,rfl,hd,q⟩:=h;obtain⟨u,rfl,n⟩:=jk r;obtain rfl:u=Value.ref d:=n;obtain⟨t,x,D,k,f⟩:=I.hok d _ hd;obtain⟨ep,y⟩:=f.dictAt;have E:=Paired.length k;show PySem.W.kdl_call (PySem.W.kdl_dict x) (I.ok.hd hc) y (by lia) λh' tk b z kp e m=>?_;have A:=G6 (acc:=b.toList) k (by rw[kw];show m.1) λj v e=>m.2 j v (by rw[<-rV];show e);show{.ref s.heap.objs.size,_,I.laid (h':=h') (t':=tk) (a:=s.heap.objs.size) (o:=.lst (c.map λp=>kV p.1)) kp (e_ _) ?_,(),q _ (I.hok.fresh (e_ _))};show{by rw[b_];show t,b.toList,z,A,by simpa using e}
theorem y4:∀(ns:O8)(f:Nat->V),(gN ns f).map (λp=>kV p.1)=ns.map V.str|[],_=>()|n::r,f=>by change V.str n::(gN r _).map _=V.str n::r.map V.str;rw[y4 r]
def jT(l:bJ)(t:dD):List Int:=t.arms.map λz=>((l.S.pl (cB t.nm z)).length:Int)
inductive Ll(vs:List V)(H:Hp)(Q:VK)(_E:XK):Prop|mk(x:Str)(d:Addr)(kvs:List (bY×V))(_:vs=[.str x,.ref d])(_:Wd x)(_:H d=some (.dK kvs))(_:(bf kvs (.inr x)).isSome=true)(_:∀H',am H H'->Q .non H')
inductive IL(P:O7)(w:World)(K:O2)(a:fJ)(vs:List V)(H:Hp)(Q:VK)(_E:XK):Prop|mk(M:be)(Z:ZS)(c:Nat)(_:vs=[.ref (Z.G .hh)])(_:bP P w K a H M Z c)(_:∀(r:Addr)H',am H H'->H r=none->H' r=some (.lst ((M.trs.map dD.nm).map V.str))->Q (.ref r) H')
inductive IP(P:O7)(w:World)(K:O2)(a:fJ)(vs:List V)(H:Hp)(Q:VK)(_E:XK):Prop|mk(M:be)(Z:ZS)(c i j:Nat)(l:bJ)(t:dD)(z:Str)(_:vs=[.ref (Z.G .hh),.str t.nm,.str z])(_:bP P w K a H M Z c)(_:M.trs[j]?=some t)(_:M.las[i]?=some l)(_:l.nm=t.home)(_:∀(r:Addr)H',am H H'->H r=none->H' r=some (.lst ((l.S.pl (cB t.nm z)).map V.int))->Q (.ref r) H')
inductive Di(P:O7)(w:World)(K:O2)(a:fJ)(vs:List V)(H:Hp)(Q:VK)(_E:XK):Prop|mk(M:be)(Z:ZS)(c i j:Nat)(l:bJ)(t:dD)(_:vs=[.ref (Z.G .hh),.str t.nm])(_:bP P w K a H M Z c)(_:M.trs[j]?=some t)(_:M.las[i]?=some l)(_:l.nm=t.home)(_:∀(r:Addr)H',am H H'->H r=none->H' r=some (.tup ((jT l t).map V.int))->Q (.ref r) H')
def zJ(K:O2)(H:Hp)(S:AS)(p:Int)(v:V):Prop:=(v=.non/\∀k,p∉S.pl k)\/∃x y,p∈S.pl (cB x y)/\cZ K H (cB x y) v
def zJ.kp{S:AS}{p:Int}{v:V}(e:Kp H H')(h:zJ K H S p v):zJ K H' S p v:=h.imp id λ⟨x,y,h1,h2⟩=>{x,y,h1,eU e h2}
theorem bP.own{M:be}{Z:ZS}{c i:Nat}{l:bJ}{p:Int}(h:bP P w K a H M Z c)(d:M.las[i]?=some l)(f:0<=p)(j:p<M.p):zJ K H l.S p ((bf (Z.ow i) (.inl p)).getD .non):=by have b:=h.ok.la l (f_ d);obtain⟨_,⟨m,_,o⟩,r,_⟩:=h.g.tabs i l d;have e:=o.2 p f j;cases n:bf (Z.ow i) (.inl p)with|none=>rw[n]at e;show .inl {(),λk z=>?_};have:=(b.ok.in_ k p z).2.2;rw[<-e]at this;cases this|some v=>
  obtain⟨k,h1,h2⟩:=r p v f j n;rcases b.own k p h1 with rfl|⟨t,_,_,y,_,rfl⟩
  ·show .inr {_,_,h1,h2}
  ·show .inr {_,_,h1,h2}
def x6(K:O2)(H:Hp)(v:V)(l:bJ):Prop:=∃b,v=.ref b/\aY K H b [.str l.nm,.int l.sl]
def x6.kp(e:Kp H H'){c:List V}{ls:List bJ}(h:Paired (x6 K H) c ls):Paired (x6 K H') c ls:=Paired.mapP h λ_ _ q=>q.imp λ_ q=>{q.1,e.tq q.2}
inductive Dx(vs:List V)(H:Hp)(Q:VK)(_E:XK):Prop|mk(p n:Int)(_:vs=[.int p,.int n])(_:0<=p)(_:p<n)(_:Q .non H)
inductive BU(P:O7)(w:World)(K:O2)(a:fJ)(vs:List V)(H:Hp)(Q:VK)(_E:XK):Prop|mk(M:be)(Z:ZS)(c j:Nat)(t:dD)(_:vs=[.ref (Z.G .hh),.str t.nm])(_:bP P w K a H M Z c)(_:M.trs[j]?=some t)(_:∀H',am H H'->Q (.str t.home) H')
inductive Dk(P:O7)(w:World)(K:O2)(a:fJ)(vs:List V)(H:Hp)(Q:VK)(_E:XK):Prop|mk(M:be)(Z:ZS)(c:Nat)(_:vs=[.ref (Z.G .hh)])(_:bP P w K a H M Z c)(_:Q (.int M.p) H)
inductive Gc(P:O7)(w:World)(K:O2)(a:fJ)(vs:List V)(H:Hp)(Q:VK)(_E:XK):Prop|mk(M:be)(Z:ZS)(c i:Nat)(l:bJ)(p:Int)(_:vs=[.ref (Z.G .hh),.str l.nm,.int p])(_:bP P w K a H M Z c)(_:M.las[i]?=some l)(_:0<=p)(_:p<M.p)(_:∀(v:V)H',am H H'->zJ K H' l.S p v->Q v H')
inductive BT(P:O7)(w:World)(K:O2)(a:fJ)(vs:List V)(H:Hp)(Q:VK)(_E:XK):Prop|mk(M:be)(Z:ZS)(c:Nat)(_:vs=[.ref (Z.G .hh)])(_:bP P w K a H M Z c)(_:∀(r:Addr)(us:List V)H',am H H'->H r=none->H' r=some (.lst us)->Paired (x6 K H') us M.las->Q (.ref r) H')
inductive F6(P:O7)(w:World)(K:O2)(a:fJ)(vs:List V)(H:Hp)(Q:VK)(_E:XK):Prop|mk(M:be)(Z:ZS)(c:Nat)(_:vs=[.ref (Z.G .hh)])(_:bP P w K a H M Z c)(_:Q (.int M.salt) H)
inductive Jc(P:O7)(w:World)(K:O2)(a:fJ)(vs:List V)(H:Hp)(Q:VK)(_E:XK):Prop|mk(M:be)(Z:ZS)(c:Nat)(_:vs=[.ref (Z.G .hh)])(_:bP P w K a H M Z c)(_:∀(r:Addr)H',am H H'->H r=none->H' r=some (.lst Z.ds)->Q (.ref r) H')
inductive Dl(P:O7)(w:World)(K:O2)(a:fJ)(vs:List V)(H:Hp)(Q:VK)(_E:XK):Prop|mk(M:be)(Z:ZS)(c i:Nat)(l:bJ)(g:Str)(_:vs=[.ref (Z.G .hh),.str l.nm,.str g])(_:bP P w K a H M Z c)(_:M.las[i]?=some l)(_:w6 g)(_:∀H',am H H'->Q (.int (nO M.p M.salt l.sl g)) H')
inductive FX(P:O7)(w:World)(K:O2)(a:fJ)(vs:List V)(H:Hp)(Q:VK)(E:XK):Prop|mk(M:be)(Z:ZS)(c:Nat)(g:Str)(mv:V)(ms:List (Str×Int))(_:vs=[.ref (Z.G .hh),.str g,mv])(_:bP P w K a H M Z c)(_:c<=63)(_:w6 g)(_:pX K H ms mv)(_:(∀m∈ms,Wd m.1/\-cC<=m.2/\m.2<=cC))(_:(ms.map Prod.fst).Nodup)(_:ms.length<=8)(_:∀(r:Addr)(us:List V)(H':Hp),am H H'->H r=none->H' r=some (.lst us)->∀ss,gL K H' us ss->kE M g ms M.las ss->ss.length<=4->Q (.ref r) H')
section
def eT(T:Txt K mg a):aP P w K mg base cP 3 a.cR.x a.cR.d ["thing","names"] Ll:=by
 show T.cR.ok tH λf A outer s H i Q E c h=>?_
 ·obtain⟨x,d,b,rfl,h1,h2,h3,q⟩:=h;show{_,(ah (aN (PW.pt (fL (cp (aT K () (pc T.d0 (gR T) c (ac (Y 0) O)) (λ_=>()))) (dX (nN (mC (bZ c) (Y 0) (Y 1)) ())))) (ah ce) aE)),?_};show{_,(),V.str x,(),.inl {x,(),h1,λg e=>{_,(),cu ?_}}};show U () (U () (rG (bf b (.inr x)) (dn.k (k:=.inr x) (e _ _ h2)) (U () ?_)));rw[h3];show cu (q g e)
def ul(T:Txt K mg a):aP P w K mg base cP 3 a.gj.x a.gj.d ["thing","prime"] Dx:=by
 show T.gj.ok tF λb A outer s H e Q E c h=>?_
 ·obtain⟨z,p,rfl,h0,h1,q⟩:=h;show{_,(ah (aN (PW.pt (fL (cp (aT K () (pc T.eV (gb T) c (ac (Y 0) O)) (λ_=>()))) (dX (aD D3 (Y 0) (Y 1) (aG _))))) (ah ce) aE)),?_};show U () {z,(),h0,U () (cu ?_)};show U () (U () {z,p,(),(),U () (lz (λh=>absurd h (by omega)) (λ_=>q))})
def lj(T:Txt K mg a):aP P w K mg base cP 1 a.cN.x a.cN.d ["self"] (IL P w K a):=by
 show T.cN.ok rR λf A outer s H i Q E j h=>?_
 ·obtain⟨M,Z,c,rfl,b,q⟩:=h;show{_,(ah (ay (cE (AM ()) (by rfl) T.uz L2.kA (ac (aC K () (Y 0)) O)))),?_};show fI b.g.house T.ao T.aJ () () {Z.G .tn,U () {b.g.tris,λl e=>q l _ (aj (am.refl H) e) e (by rw[ae,y4])}}
def nS(T:Txt K mg a):aP P w K mg base cP 2 a.cJ.x a.cJ.d ["self","trial","arm"] (IP P w K a):=by
 show T.cJ.ok nI λS A outer s H vs Q E n h=>?_
 ·obtain⟨M,Z,c,i,j,l,t,z,rfl,e,L,B,hh,q⟩:=h;show{_,(ah (ay (aU (aC K () (cM (bZ n) (aC K () (Y 0)) (aC K () (cM (bZ n) (aC K () (Y 0)) (Y 1) (λ_ _=>()))) (λ_ _=>()))) T.bn T.bd.m ((dY (P:=P) (w:=w) T).mono (by decide)) n T.bd.b .nil aQ (ac (bx (ac (Y 1) (ac (Y 2) O))) O)))),?_};have N:=e.g.house;have C:=e.g.trial L;obtain⟨m,f,D⟩:=e.g.tab B;obtain⟨V,F⟩:=f.ins;have u:=e.ok.lget (Z:=Z) B;rw[hh]at u;show fI N T.ao T.aK () () ?_;show fI N T.ao T.aJ () () (U () (rG (.ref (Z.G (.tr j))) (by rw[<-e.ok.tget (Z:=Z) L];show dn.k (k:=.inr t.nm) e.g.tris) ?_));show rF C T.aZ T.eF () (rG (.ref (Z.G (.lo i))) (by rw[<-u];show dn.k (k:=.inr t.home) e.g.lays) ?_);show rF (e.g.layer B) T.bB T.dQ () (rM F () ?_);show U () (U () {ls (),λv I=>?_});have y:=aj (o:=.tup [.str t.nm,.str z]) (am.refl H) I;have R:aH H v (.tup [.str t.nm,.str z]) v=some (.tup [.str t.nm,.str z]):=ae;generalize aH H v (.tup [.str t.nm,.str z])=H4 at y R⊢;show{Z.G (.tb i),Z.G (.od i),Z.G (.td i),M.p,Z.ow i,Z.tk i,m,cB t.nm z,.ref v,(),f.same y,{v,(),aY.of R},λr W X n J=>q r W (y.trans X) (y.free n) ?_};rw[<-D.1];show J
def sj(T:Txt K mg a):aP P w K mg base cP 4 a.eu.x a.eu.d ["self","trial"] (Di P w K a):=by
 show T.eu.ok rS λaa A outer s H vs Q E p h=>?_
 ·obtain⟨M,Z,c,i,j,l,t,rfl,o,y,hl,hh,q⟩:=h;show{_,(ag (aM (pc T.cR (eT T) p (ac (Y 1) (ac (aC K () (Y 0)) O)))) (ah (ay (cE (eZ K ()) (by rfl) T.dZ L2.bW (ac (sB jc ["arm"] [] [2] (ai i3) (b0 2) (iy K () (aC K () (cM (bZ p) (aC K () (Y 0)) (Y 1) (λ_ _=>())))) (λcl C s₀ H₀ ex=>{(lB jc ["arm"] 2),bQ,(aB (aI K ()) (by rfl) T.bE L2.aL (ac (aU (Y 0) T.ao T.cJ.m ((nS (P:=P) (w:=w) T).mono (by decide)) p T.cJ.b .nil aQ (ac (Y 1) (ac (Y 2) O))) O))})) O))))),?_}
  have I:=o.g.house;have J:=o.g.trial y;have B:=o.ok.tr t (f_ y);obtain⟨F,-,-⟩:=o.g.trs j t y;have W:=o.ok.tget (Z:=Z) y;have a4:=B.a4;show U () (fI I T.ao T.aJ () () {t.nm,Z.G .tn,(gN (M.trs.map dD.nm) λi=>.ref (Z.G (.tr i))),(),B.wd,o.g.tris,by rw[W];rfl,λH1 u=>?_});show fI (u _ _ I) T.ao T.aJ () () (U () (rG (.ref (Z.G (.tr j))) (by rw[<-W];show dn.k (k:=.inr t.nm) (u _ _ o.g.tris)) ?_));show rF (u _ _ J) T.aZ T.fN () {Z.ar j,(),{_,am.tseq u F},λD X=>?_};have L:H D=none:=u.free X;show gJ (K:=K) (a:=Z.ar j) (xs:=t.arms.map V.str) (λk f H'=>am H H'/\H' D=some (.lst f)/\f=((jT l t).take k).map V.int) {aj u X,ae,()} (λk f H' _ h=>am.tseq h.1 F) ?_ ?_
  ·rintro k x f H2 N⟨v,n,rfl⟩;have hi:k<(t.arms.map V.str).length:=(d_.mp N).1;rw[ge]at N;obtain⟨z,hz,rfl⟩:=Option.map_eq_some_iff.mp N;show au (iG (bI ?_));show iN (v _ _ I) () () (U () (U () {M,Z,c,i,j,l,t,z,(),o.same v,y,hl,hh,λr H3 s3 p R=>?_}));show{_,U () {.inl {_,aS.of R,()},s3 _ _ n,by rw[b_,k4,g8];rw[b_]at hi;lia,lf hi {bv (v.trans s3) L,ae,?_}}};have e:(jT l t)[k]?=some ((l.S.pl (cB t.nm z)).length:Int):=by unfold jT;rw[ge,hz];rfl
   rw[bK e,gV,b_];rfl
  ·rintro f H2⟨v,n,rfl⟩;rw[b_,hF (by unfold jT;rw[b_];show e_ _)]at n;show{D,U () (.inl {aS.of n,λr p=>q r _ (aj v p) (v.free p) ae})}
def lW(T:Txt K mg a):aP P w K mg base cP 1 a.dB.x a.dB.d ["self"] (Dk P w K a):=by
 show T.dB.ok tO λb A outer s H f Q E i h=>?_
 ·obtain⟨M,Z,c,rfl,e,q⟩:=h;show{_,(ah (ay (aC K () (Y 0)))),?_};show fI e.g.house T.ao T.bV () () q
def vC(T:Txt K mg a):aP P w K mg base cP 1 a.fZ.x a.fZ.d ["self"] (F6 P w K a):=by
 show T.fZ.ok vk λb A outer s H f Q E i h=>?_
 ·obtain⟨M,Z,c,rfl,e,q⟩:=h;show{_,(ah (ay (aC K () (Y 0)))),?_};show fI e.g.house T.ao T.gE () () q
def jH(T:Txt K mg a):aP P w K mg base cP 1 a.de.x a.de.d ["self"] (Jc P w K a):=by
 show T.de.ok vn λf A outer s H i Q E j h=>?_
 ·obtain⟨M,Z,c,rfl,b,q⟩:=h;show{_,(ah (ay (cE (oj K ()) (by rfl) T.uz L2.kA (ac (aC K () (Y 0)) O)))),?_};show fI b.g.house T.ao T.i7 () () {Z.G .dl,U () {.inl (aS.of b.g.dees),λl e=>q l _ (aj (am.refl H) e) e ae}}
def pA(T:Txt K mg a):aP P w K mg base cP 4 a.c6.x a.c6.d ["self","trial"] (BU P w K a):=by
 show T.c6.ok oO λp A outer s H u Q E m h=>?_
 ·obtain⟨M,Z,c,j,t,rfl,b,f,q⟩:=h;show{_,(ag (aM (pc T.cR (eT T) m (ac (Y 1) (ac (aC K () (Y 0)) O)))) (ah (ay (aC K () (cM (bZ m) (aC K () (Y 0)) (Y 1) (λ_ _=>())))))),?_}
  have n:=b.g.house;have l:=b.ok.tr t (f_ f);have o:=b.ok.tget (Z:=Z) f;show U () (fI n T.ao T.aJ () () {t.nm,Z.G .tn,(gN (M.trs.map dD.nm) λi=>.ref (Z.G (.tr i))),(),l.wd,b.g.tris,by rw[o];rfl,λr e=>?_});show fI (e _ _ n) T.ao T.aJ () () (U () (rG (.ref (Z.G (.tr j))) (by rw[<-o];show dn.k (k:=.inr t.nm) (e _ _ b.g.tris)) ?_));show rF (e _ _ (b.g.trial f)) T.aZ T.eF () (q r e)
def uw(T:Txt K mg a):aP P w K mg base cP 4 a.fg.x a.fg.d ["self","layer","place"] (Gc P w K a):=by
 show T.fg.ok tQ λB A outer s H J Q E r h=>?_
 ·obtain⟨M,Z,c,i,l,p,rfl,j,n,v,y,q⟩:=h;show{_,(ag (aM (pc T.cR (eT T) r (ac (Y 1) (ac (aC K () (Y 0)) O)))) (ag (aM (pc T.gj (ul T) r (ac (Y 2) (ac (aC K () (Y 0)) O)))) (ah (ay (aU (aC K () (cM (bZ r) (aC K () (Y 0)) (Y 1) (λ_ _=>()))) T.bn T.cg.m ((jx (P:=P) (w:=w) T).mono (by decide)) r T.cg.b .nil aQ (ac (Y 2) O)))))),?_}
  have t:=j.g.house;have z:=j.ok.lget (Z:=Z) n;have C:=j.ok.la l (f_ n);show U () (fI t T.ao T.aK () () {l.nm,Z.G .ln,(gN (M.las.map bJ.nm) λi=>.ref (Z.G (.lo i))),(),C.wd,j.g.lays,by rw[z];rfl,λD o=>?_});have f:=j.same o;obtain⟨m,e,F⟩:=f.g.tab n;obtain⟨I,u⟩:=e.ins;show U () (fI (o _ _ t) T.ao T.bV () () {p,M.p,(),v,y,?_});show fI (o _ _ t) T.ao T.aK () () (U () (rG (.ref (Z.G (.lo i))) (by rw[<-z];show dn.k (k:=.inr l.nm) (o _ _ j.g.lays)) ?_));show rF (f.g.layer n) T.bB T.dQ () (rM u () (U () {Z.G (.tb i),Z.G (.od i),Z.G (.td i),M.p,Z.ow i,Z.tk i,m,p,(),e,q _ D o (f.own n v y)}))
def lq(T:Txt K mg a):aP P w K mg base cP 1 a.cO.x a.cO.d ["self"] (BT P w K a):=by
 show T.cO.ok rT λap A outer s H vs Q E hr h=>?_
 ·obtain⟨M,Z,c,rfl,R,q⟩:=h;show{_,(ah (ay (Af (P:=P) (w:=w) (sB ["self"] ["name","layer"] [] [1,2] (ai i4) (qH _ 1 2) (pk (P:=P) (w:=w) (aC K () (Y 0))) (λcl C s₀ H₀ ex=>{(ft K () () (bh (lB ["self"] ["name","layer"] 1) (bh (lB ["self"] ["name","layer"] 2) fq))),bQ,(bx (ac (Y 1) (ac (aC K () (Y 2)) O)))}))))),?_}
  have as:=R.ok.l4;have F:=R.g.lays;show fI R.g.house T.ao T.aK () () {Z.G .ln,U () {F,λep=>λD S=>?_}};have nd:Z.G .ln≠D:=λz=>by rw[<-z,ae]at S;cases S
  have m:H D=none:=by rw[ak (nn nd)]at S;show S
  show pS (n:=M.las.length) (λk f I=>(∀b o,H b=some o->b≠Z.G .ln->I b=some o)/\I (Z.G .ln)=some (dE P w (Z.G .ln) (gN (M.las.map bJ.nm) λi=>.ref (Z.G (.lo i))) ep)/\I D=some (.lst f)/\Paired (x6 K I) f (M.las.take k)) {λb o e n=>by rw[ak (az e m),ak n];show e,by rw[ak nd,ae],ae,.nil} (λk f I V h=>{h.2.1,by rw[gA,b_];show V}) ?_ ?_
  ·rintro k f p x v V⟨W,j,t,l⟩⟨X,kk,vv,aa,rfl,rfl,J⟩;have hl:=ga V;rw[ux,ge,hl]at J;obtain⟨rfl,rfl⟩:=Nz (j1 J);have y:=aj (o:=.tup [kV (.inr (M.las[k]).nm),.ref (Z.G (.lo k))]) (am.refl p) aa;have e5:aH p X (.tup [kV (.inr (M.las[k]).nm),.ref (Z.G (.lo k))]) X=some (.tup [.str (M.las[k]).nm,.ref (Z.G (.lo k))]):=ae;generalize aH p X (.tup [kV (.inr (M.las[k]).nm),.ref (Z.G (.lo k))])=v at y e5⊢;have ad:qW P w K a H v M Z c:={R,λb o e n=>y _ _ (W b o e n)};show{X,U () {aY.of e5,(),_,U () (au {_,U () (au {(),iG (bI ?_)})})}};have al:=ad.at_ (r:=.lo k) (by simp only[cont,hl];rfl) (by simp);show U () (fI al T.bB T.gC () () {ls (),λB an=>?_});have L:=aj (o:=.tup [.str (M.las[k]).nm,.int (M.las[k]).sl]) (am.refl v) an;have e6:aH v B (.tup [.str (M.las[k]).nm,.int (M.las[k]).sl]) B=some (.tup [.str (M.las[k]).nm,.int (M.las[k]).sl]):=ae;change aH v B (.tup [.str (M.las[k]).nm,.int (M.las[k]).sl]) D=some (.lst f)/\_;generalize aH v B (.tup [.str (M.las[k]).nm,.int (M.las[k]).sl])=H6 at L e6⊢;have N:=L _ _ (y _ _ t);have kp:Kp H6 (aH H6 D (.lst (f++[.ref B]))):=.lst N;have ax:f.length=k:=by have:=Paired.length l;rw[k4]at this;lia
   show{N,by rw[g8];lia,lf V {λb o e n=>by rw[ak (az e m)];show L _ _ (y _ _ (W b o e n)),by rw[ak nd];show L _ _ (y _ _ j),ae,?_}};rw[bK hl];show Paired.snoc (x6.kp ((Kp.trans (.of y) (.of L)).trans kp) l) {B,(),kp.tq (aY.of e6)}
  ·rintro f p⟨W,j,t,l⟩;rw[hF (e_ _)]at l;show{{j,by rw[gA,b_];show e_ _},Z.G .ln,_,ep,j,?_};have sF:am H (aH p (Z.G .ln) (.dK (gN (M.las.map bJ.nm) λi=>.ref (Z.G (.lo i))))):=λb o e=>by
    by_cases z:b=Z.G .ln
    ·rw[z,F]at e;rw[z,ae];show e
    ·rw[ak z];show W b o e z
   have kp:Kp p (aH p (Z.G .ln) (.dK (gN (M.las.map bJ.nm) λi=>.ref (Z.G (.lo i))))):={λu xs e=>by rw[ak λz=>by rw[z,j]at e;cases e];show e,λu o⟨o',e⟩=>{o',by rw[ak λz=>by rw[z,j]at e;cases e];show e}};show q D f _ sF m (by rw[ak (nn nd)];show t) (x6.kp kp l)
def uv(T:Txt K mg a):aP P w K mg base cP 8 a.ff.x a.ff.d ["self","layer","guest"] (Dl P w K a):=by
 show T.ff.ok tP λv A outer s H I Q E o h=>?_
 ·obtain⟨M,Z,c,i,l,g,rfl,j,r,hg,q⟩:=h;show{_,(ag (aM (pc T.cR (eT T) o (ac (Y 1) (ac (aC K () (Y 0)) O)))) (ag (aM (pc T.cA (dP T) o (ac (Y 2) O))) (ah (ay (aU (Y 0) T.ao T.bF.m ((gy (P:=P) (w:=w) T).mono (by decide)) o T.bF.b .nil aQ (ac (cM (bZ o) (aC K () (Y 0)) (Y 1) (λ_ _=>())) (ac (Y 2) O))))))),?_}
  have y:=j.g.house;have t:=j.ok.lget (Z:=Z) r;have u:=j.ok.la l (f_ r);have J:=j.ok.p;have z:=u.sl;show U () (fI y T.ao T.aK () () {l.nm,Z.G .ln,(gN (M.las.map bJ.nm) λi=>.ref (Z.G (.lo i))),(),u.wd,j.g.lays,by rw[t];rfl,λL B=>?_});show U () {g,(),hg,λN C=>?_};have n:=B.trans C;have e:=j.same n;have f:=e.g.house;show iN f () () (fI f T.ao T.aK () () (U () (rG (.ref (Z.G (.lo i))) (by rw[<-t];show dn.k (k:=.inr l.nm) e.g.lays) ?_)));show U () {Z.G .hh,Z.G (.lo i),_,_,_,_,M.p,M.salt,l.sl,g,(),f,(),(),e.g.layer r,(),hg,{by omega,by omega},{by omega,by omega},λD F=>q D (n.trans F)}
def lV(T:Txt K mg a):aP P w K mg base cP 10 a.dA.x a.dA.d ["self","guest","marks"] (FX P w K a):=by
 show T.dA.ok tN λp A outer s H F Q E f h=>?_
 ·obtain⟨M,Z,c,g,k,l,rfl,t,hc,hg,hm,h3,h4,n,q⟩:=h;show{_,(ag (aM (pc T.cA (dP T) f (ac (Y 1) O))) (ag (aM (pc T.eX (lU T) f (ac (Y 2) O))) (ah (ay (aU (Y 0) T.ao T.bw.m ((iC (P:=P) (w:=w) T).mono (by decide)) f T.bw.b .nil aQ (ac (Y 1) (ac (Y 2) O))))))),?_}
  show U () {g,(),hg,λG o=>?_};show U () {k,l,(),hm.kp (.of o),h3,h4,n,λI u=>?_};have e:=o.trans u;have i:=t.same e;show iN i.g.house () () (U () (U () {M,Z,c,g,k,l,(),i,hc,hg,hm.kp (.of e),n,λr v y z f j B C D h4=>q r v y (e.trans z) (e.free f) j B C D h4}))
end
def wY(K:O2)(H:Hp)(g:Str)(d:List V)(ls:List bJ):Prop:=Paired (λ(u:V)(l:bJ)=>∃b c,u=.ref b/\aY K H b [.str l.nm,c]/\uW K H c (cW l g)) d ls
theorem wY.kp{g:Str}(e:Kp H H'){c:List V}{ls:List bJ}(h:wY K H g c ls):wY K H' g c ls:=Paired.mapP h λ_ _ q=>q.imp λ_ q=>q.imp λ_ q=>{q.1,e.tq q.2.1,q.2.2.kp e}
def wY.get{g:Str}{c:List V}{ls:List bJ}(h:wY K H g c ls)(k:Nat)(u:V)(e:c[k]?=some u):∃l,ls[k]?=some l/\∃b d,u=.ref b/\aY K H b [.str l.nm,d]/\uW K H d (cW l g):=Paired.at_ h k u e
inductive F4(P:O7)(w:World)(K:O2)(a:fJ)(vs:List V)(H:Hp)(Q:VK)(_E:XK):Prop|mk(M:be)(Z:ZS)(c:Nat)(g:Str)(_:vs=[.ref (Z.G .hh),.str g])(_:bP P w K a H M Z c)(_:w6 g)(_:∀(r:Addr)(us:List V)H',am H H'->H r=none->H' r=some (.lst us)->gL K H' us (C9 M g)->Q (.ref r) H')
inductive IZ(P:O7)(w:World)(K:O2)(a:fJ)(vs:List V)(H:Hp)(Q:VK)(_E:XK):Prop|mk(M:be)(Z:ZS)(c:Nat)(g:Str)(_:vs=[.ref (Z.G .hh),.str g])(_:bP P w K a H M Z c)(_:c<=200)(_:w6 g)(_:∀(r:Addr)(us:List V)H',am H H'->H r=none->H' r=some (.lst us)->gK K H' us (dS M.came g)->Q (.ref r) H')
inductive JC(P:O7)(w:World)(K:O2)(H1:Hp)(M:be)(Z:ZS)(g:Str)(D:Addr)(ep:Nat)(k:Nat)(acc:List V)(H2:Hp):Prop|mk(f:∀b o,H1 b=some o->b≠Z.G .ln->H2 b=some o)(hu:H2 (Z.G .ln)=some (dE P w (Z.G .ln) (gN (M.las.map bJ.nm) λi=>.ref (Z.G (.lo i))) ep))(hD:H2 D=some (.lst acc))(hR:wY K H2 g acc (M.las.take k)):JC P w K H1 M Z g D ep k acc H2
section
def uu(T:Txt K mg a):aP P w K mg base cP 4 a.fe.x a.fe.d ["self","guest"] (F4 P w K a):=by
 show T.fe.ok lJ λbc A outer s H vs Q E hr h=>?_
 ·obtain⟨M,Z,c,g,rfl,hZ,hg,q⟩:=h;show{_,(ag (aM (pc T.cA (dP T) hr (ac (Y 1) O))) (ag (Ab (P:=P) (w:=w) (Ff 2 dH ["name","layer"] [] [3,4] (ai io) (qH _ 3 4) (pk (P:=P) (w:=w) (aC K () (Y 0))) (λcl C s₀ H₀ ex=>{(ft K () () (bh (lB dH ["name","layer"] 3) (bh (lB dH ["name","layer"] 4) fq))),bQ,(bx (ac (Y 3) (ac (ue (bZ hr) (aC K () (Y 4)) (Y 1) {(),(),(),()}) O)))}) lJ.nd)) (ah (ay (sB dH ["name","seat"] [] [3,4] (ai io) (qH _ 3 4) (cL K () (Y 2)) (λcl C s₀ H₀ ex=>{(ft K () () (bh (lB dH ["name","seat"] 3) (bh (lB dH ["name","seat"] 4) fq))),(pj (aD Bg (Y 4) nP (aG _))),(aA (uh K ()) (bx (ac (Y 3) O)) (Y 4))})))))),?_}
  have ad:=hZ.ok.l4;show U () {g,(),hg,λH1 s1=>?_};have J:=hZ.same s1;have al:=J.g.lays;show fI J.g.house T.ao T.aK () () {Z.G .ln,U () {al,λep=>λD hD=>?_}};have nd:Z.G .ln≠D:=λz=>by rw[<-z,ae]at hD;cases hD
  have an:H1 D=none:=by rw[ak (nn nd)]at hD;show hD
  show pS (n:=M.las.length) (JC P w K H1 M Z g D ep) {λb o e n=>by rw[ak (az e an),ak n];show e,by rw[ak nd,ae],ae,.nil} (λk f H2 R h=>by obtain⟨_,h,_⟩:=h;show{h,by rw[gA,b_];show R}) ?_ ?_
  ·rintro k f H4 x H5 R⟨f4,t,S,I⟩⟨T1,kk,vv,a6,rfl,rfl,ap⟩;obtain⟨l,N⟩:∃l,M.las[k]?=some l:={_,ga R};rw[ux,ge,N]at ap;obtain⟨rfl,rfl⟩:=Nz (j1 ap);show gS a6 λH5 s5 e5=>?_;have e5:H5 T1=some (.tup [.str l.nm,.ref (Z.G (.lo k))]):=e5;have V:qW P w K a H1 H5 M Z c:={J,λb o e n=>s5 _ _ (f4 b o e n)};show{T1,U () {aY.of e5,(),_,U () (au {_,U () (au {(),iG (bI ?_)})})}};have a7:=V.at_ (r:=.lo k) (by simp only[cont,N];rfl) (by simp);have as:=V.at_ (r:=.iu k) (by simp only[cont,N];rfl) (by simp);show U () (fI a7 T.bB T.bH () () {Z.G (.iu k),(),.inl {_,.inl as},U () {bf (Z.iv k) (.inr g),dn.k (k:=.inr g) as,ls (),λT6 a8=>?_}});show gS a8 λH6 F e6=>?_;have m:=F _ _ (s5 _ _ S);have kp:Kp H6 (aH H6 D (.lst (f++[.ref T6]))):=.lst m;have ax:f.length<=4:=by rw[Paired.length I];show iA (List.length_take_le' _ _) ad
   show{m,by rw[g8];lia,lf R {λb o e n=>by rw[ak (az e an)];show F _ _ (s5 _ _ (f4 b o e n)),by rw[ak nd];show F _ _ (s5 _ _ t),ae,?_}};rw[bK N];have a9:=(J.g.seats k _ N).seat g;show Paired.snoc (((I.kp (.of s5)).kp (.of F)).kp kp) {T6,U () {kp.tq (aY.of e6),((a9.kp V.kp).kp (.of F)).kp kp}}
  ·rintro f H4⟨f4,t,S,I⟩;rw[hF (e_ _)]at I;show{{t,by rw[gA,b_];show e_ _},au {Z.G .ln,_,ep,t,?_}};have sF:am H1 (aH H4 (Z.G .ln) (.dK (gN (M.las.map bJ.nm) λi=>.ref (Z.G (.lo i))))):=λb o e=>by
    by_cases z:b=Z.G .ln
    ·rw[z,al]at e;rw[z,ae];show e
    ·rw[ak z];show f4 b o e z
   have kp:Kp H4 (aH H4 (Z.G .ln) (.dK (gN (M.las.map bJ.nm) λi=>.ref (Z.G (.lo i))))):={λu xs e=>by rw[ak λz=>by rw[z,t]at e;cases e];show e,λu o⟨o',e⟩=>{o',by rw[ak λz=>by rw[z,t]at e;cases e];show e}};have W:aH H4 (Z.G .ln) (.dK (gN (M.las.map bJ.nm) λi=>.ref (Z.G (.lo i)))) D=some (.lst f):=by rw[ak (nn nd)];show S
   have X:=I.kp kp;generalize aH H4 (Z.G .ln) (.dK (gN (M.las.map bJ.nm) λi=>.ref (Z.G (.lo i))))=H5 at sF W X⊢;have ax:f.length=M.las.length:=Paired.length X;show U () {D,(),{_,aS.of W},λD2 aa=>?_};show kz (K:=K) (a:=D) (xs:=f) (λk j H'=>am H5 H'/\H' D2=some (.lst j)/\gL K H' j ((M.las.take k).filterMap λl=>(cW l g).map λp=>(l.nm,p.1,p.2))) {aj (am.refl _) aa,ae,.nil} (λk j H' _ h=>aS.of (h.1 _ _ W)) ?_ ?_
   ·rintro k v j H6 hv⟨F,m,y⟩;have R:k<f.length:=(d_.mp hv).1;obtain⟨l,N,b,sv,rfl,hb,B⟩:=X.get k v hv;have bb:j.length<=4:=by rw[Paired.length y];show iA (N5 _ _) (iA (List.length_take_le' _ _) ad)
    show{b,U () {am.tseq F hb,(),_,U () (au {_,U () (au {(),?_})})}};cases L:cW l g with|none=>rw[L]at B;have B:sv=.non:=B;subst B;show U () {(),U () (cu (lf R {F,m,?_}))};rw[bK N,rr,rm,L];show(nB _).symm▸y|some p=>rw[L]at B;obtain⟨s,rfl,hs⟩:=B;show U () {(),U () (bI (U () {ls (),λT7 a2=>(U () {T7,s,[.str l.nm],U () {(),aY.of ae,am.tseq (aj F a2) hs,by simp,by rw[g8];simp,λz=>(nomatch z),λ_ T8 ba=>?_}})}))};show gS ba λH9 s8 e9=>?_;have s9:=(aj (o:=.tup [.str l.nm]) (am.refl H6) a2).trans s8;have e9:H9 T8=some (.tup [.str l.nm,.str p.1,.str p.2]):=e9;have a3:=s9 _ _ m;have a5:Kp H9 (aH H9 D2 (.lst (j++[.ref T8]))):=.lst a3;show{a3,by rw[g8];lia,lf R {bv (F.trans s9) aa,ae,?_}};rw[bK N,rr,rm,L];show Paired.snoc ((y.kp (.of s9)).kp a5) {T8,(),a5.tq (aY.of e9)}
   ·rintro j H6⟨F,m,y⟩;rw[ax,hF (e_ _)]at y;show q D2 j H6 ((s1.trans sF).trans F) (s1.free (sF.free aa)) m y
def vD(T:Txt K mg a):aP P w K mg base cP 4 a.f8.x a.f8.d ["self","guest"] (IZ P w K a):=by
 show T.f8.ok vm λC A outer s H N Q E i h=>?_
 ·obtain⟨M,Z,c,g,rfl,D,hc,hg,q⟩:=h;show{_,(ag (aM (pc T.cA (dP T) i (ac (Y 1) O))) (ah (ay (cE (oj K ()) (by rfl) T.uz L2.kA (ac (ud (bZ i) (aC K () (Y 0)) (Y 1) (bj O) {(),(),(),()}) O))))),?_}
  show U () {g,(),hg,λp v=>?_};have f:=D.same v;show fI f.g.house T.ao T.cY () () {Z.G .ci,(),.inl {_,.inl f.g.cams},U () {ls (),λj t=>?_}};have m:=aj (o:=.lst []) (am.refl p) t;have y:aH p j (.lst []) j=some (.lst []):=ae;generalize aH p j (.lst [])=z at m y⊢;show{bf Z.cv (.inr g),dn.k (k:=.inr g) (m _ _ f.g.cams),?_};obtain⟨n,b,F,u,I⟩:∃n b,(bf Z.cv (.inr g)).getD (.ref j)=.ref n/\z n=some (.lst b)/\gK K z b (dS M.came g):=by
   rcases f.g.came.find g with⟨e,J⟩|⟨l,L,e,_,h2,h3,h4⟩
   ·show{j,[],by rw[e];rfl,y,by rw[J];show .nil}
   ·show{l,L,by rw[e];rfl,m _ _ h2,h3.kp (.of m)}
  rw[F];have B:=v.trans m;show{n,b,(),.inl (aS.of u),λr i=>q r b _ (aj B i) (B.free i) ae (I.kp (.of (aj (am.refl _) i)))}
end
section
open PySem.Spec PyProof.Rows PySem.W
def J2{d:Type}(c:Nat->Nat->Bool):KasT d->d|.ret a=>a|.ask i j k=>J2 c (k (c i j))
theorem Av{n:Nat}{d:Type}{R:d->Prop}{c:Nat->Nat->Bool}:∀{t:KasT d},ou n R t->R (J2 c t)|.ret a,h=>h|.ask i j k,h=>Av (t:=k (c i j)) (h.2.2 _)
theorem EE{n:Nat}{e:Type}{R:e->Prop}{c:Nat->Nat->Bool}{d:Nat->Nat->(Bool->Shared->Prop)->Shared->Prop}{Q:e->Shared->Prop}{s:Shared}(hc:∀i j C,i<n->j<n->C (c i j) s->d i j C s):∀{t:KasT e},ou n R t->Q (J2 c t) s->t.kasWp d Q s|.ret a,_,q=>q|.ask i j k,h,q=>hc i j _ h.1 h.2.1 (EE hc (h.2.2 _) q)
def Ce(c:Nat->Nat->Bool)(n:Nat):List Nat:=if n<2 then List.range n else(J2 c (kas_sort n)).toList
def wo(c:Nat->Nat->Bool)(n:Nat):(Ce c n).Perm (List.range n):=by
 unfold Ce
 split
 ·show .refl _
 ·show Av (pJ (n:=n) (by omega))
def nM{e:Type}(c:List e)(d:e):(List.range c.length).map (λi=>c.getD i d)=c:=by
 show vl λi=>?_;rw[ge]
 by_cases hi:i<c.length
 ·rw[OB hi];simp[hi]
 ·rw[oi (by rw[m_];lia),oi (by lia)];rfl
def MA(x y:Str×Str):Bool:=if x.1=y.1 then(if x.2=y.2 then false else decide (x.2.cps.toList<y.2.cps.toList))else decide (x.1.cps.toList<y.1.cps.toList)
def xq(ds:List (Str×Str)):List Nat:=Ce (λi j=>MA (ds.getD i ("","")) (ds.getD j ("",""))) ds.length
def DE(ds:List (Str×Str)):List (Str×Str):=(xq ds).map λi=>ds.getD i ("","")
variable{prog:O7}{w:World}{A:Around}{E:O3}{s:Shared}{κ:SortKind}
def B0{a:Addr}{d:O6}{n:Nat}{c:Nat->Nat->Bool}{P:Fin->Shared->Prop}(y:s.heap.get? a=some (seqObj "list" d.toArray n))(L:d.length<64)(M:2<=d.length->∀l:Shared,(∀b o,b≠a->s.heap.get? b=some o->l.heap.get? b=some o)->(∀Q:SortKind->Shared->Prop,Q κ l->wpAny (model prog w) A (keyKind' d.toArray) Q (λ_ _=>False) l)/\∀i j C,i<d.length->j<d.length->C (c i j) l->wpAny (model prog w) A (keyLt' κ (d.getD i Value.none) (d.getD j Value.none)) C (λ_ _=>False) l)(h:P (.done (.ret .none)) {s with heap:=sortedHeap s.heap a d ((Ce c d.length).map λi=>d.getD i Value.none).toArray}):wpAny (model prog w) A (Builtin.«list.sort» {[.ref a],[]}) P E s:=by
 rw[list_sort_plain];have k:d.toArray.size=d.length:=by simp
 show a_ (listItems_at y () ?_);show a_ (Nw y () ?_ (by rw[k,g8];lia) (ku _));obtain⟨B,m⟩:∃B,(s.heap.update a (Obj.mapSeq λ_=>#[])).get? a=some (seqObj "list" #[] B):={_,get?_update_seq y (λ_=>#[])};show a_ (NV m () ?_);show a_ (wpAny_newTuple ?_ (by change d.length<=_;rw[g8];lia));show a_ (N3 ?_ (ku _));show oa ?_;have kept:∀b o,b≠a->s.heap.get? b=some o->(((s.heap.update a (Obj.mapSeq λ_=>#[])).push (seqObj "tuple" d.toArray 0)).push (seqObj "list" #[] 0)).get? b=some o:=λb o N q=>c_ _ (c_ _ ((NL _ _ _ _ N).trans q))
 have f:(((s.heap.update a (Obj.mapSeq λ_=>#[])).push (seqObj "tuple" d.toArray 0)).push (seqObj "list" #[] 0)).get? a=some (seqObj "list" #[] B):=c_ _ (c_ _ m);change wpAny (model prog w) A _ P E {s with heap:=((s.heap.update a (Obj.mapSeq λ_=>#[])).push (seqObj "tuple" d.toArray 0)).push (seqObj "list" #[] 0)};dsimp only;have D:(d.toArray.zip d.toArray).size=d.length:=by simp
 by_cases h2:d.toArray.size<2
 ·rw[g6 h2,g6 h2];show a_ (fx ?_);rw[StateT.run_pure];show a_ (fx ?_);dsimp only;show a_ (NV f () ?_);show a_ (Nw f () ?_ (ku _) (by show iA (On ((Array.size_map ..).trans D)) ?_;rw[g8];lia));simp only[NW,z3,Ny];have e:(d.toArray.zip d.toArray).map (·.2)=d.toArray:=by
   apply Array.toList_inj.mp;have e:(d.toArray.zip d.toArray).toList=d.zip d:=by simp
   rw[OT,e];show List.map_snd_zip (e_ _)
  have:=h;rw[Ce,g6 (show d.length<2 by rw[<-k];show h2),nM]at this;rw[<-e]at this;show fx this
 ·rw[g_ h2,g_ h2];have r:2<=d.length:=by lia
  obtain⟨O,R⟩:=M r {s with heap:=((s.heap.update a (Obj.mapSeq λ_=>#[])).push (seqObj "tuple" d.toArray 0)).push (seqObj "list" #[] 0)} kept;show a_ (wpAny_mono (O (λt J=>t=κ/\J={s with heap:=((s.heap.update a (Obj.mapSeq λ_=>#[])).push (seqObj "tuple" d.toArray 0)).push (seqObj "list" #[] 0)}) {(),()}) (λt J z=>?_) λ_ _ x=>x.elim);obtain⟨rfl,rfl⟩:=z;show a_ (wpAny_mono (kat_run (ks:=d) (vs:=d) (Q:=λg u=>∃p:Array Nat,arrOf g=p.map (kas_item (d.toArray.zip d.toArray))/\failedOf g=none/\p=J2 c (kas_sort d.length)/\u=_) (G:=λp u=>p=J2 c (kas_sort d.length)/\u=_) () r L (λp g u a1 T U a4=>(p,T,U,a4,)) (EE (c:=c) (λi j C hi V W=>?_) (pJ (n:=d.length) (by omega)) {(),()})) ?_ λ_ _ e=>e)
  ·unfold kas_ask;show R i j C hi V W
  ·rintro⟨⟨⟩,g⟩u⟨p,F,X,rfl,rfl⟩;dsimp only;have v:=kat_snds (ks:=d) (vs:=d) () F;have I:(J2 c (kas_sort d.length)).toList.length=d.length:=by rw[(Av (c:=c) (pJ (n:=d.length) (by omega))).length_eq,m_]
   rw[v];show a_ (NV f () ?_);show a_ (Nw f () ?_ (ku _) (by rw[h_,b_,I,g8];lia));rw[X];simp only[NW,z3,Ny];rw[Ce,g_ (show¬d.length<2 by omega)]at h;show fx h
def HG(h:Heap)(v:Value)(d:Str×Str):Prop:=∃a o n t u,v=.ref a/\h.get? a=some o/\o.cls=.type "tuple"/\o.data=.seq #[.str d.1 t,.str d.2 u] n
def HG.kept{h h':Heap}{v:Value}{d:Str×Str}(p:HG h v d)(k:∀b o,h.get? b=some o->h'.get? b=some o):HG h' v d:=by obtain⟨a,o,n,t,u,e,c,r⟩:=p;show{a,o,n,t,u,e,k _ _ c,r}
def Jp{v u:Value}{d e:Str×Str}{C:Bool->Shared->Prop}(g:HG s.heap v d)(h:HG s.heap u e)(c:C (MA d e) s):wpAny (model prog w) A (keyLt' (tuples' true) v u) C (λ_ _=>False) s:=by
 obtain⟨a,o,n,m,p,rfl,i,hc,hd⟩:=g;obtain⟨q,r,t,j,k,rfl,b,l,f⟩:=h;unfold MA at c;show kat_lt i hd b f (kat_cons (I_ (kat_go (λh1=>kat_yes (kat_cons (I_ (kat_go (λh2=>kat_yes (kat_nil ?_)) (λh2=>kat_no (kat_one _ _ (lt_str ?_))))))) (λh1=>kat_no (oneLt_str ?_)))))
 ·rw[g6 (l_ h1),g6 (l_ h2)]at c;show c
 ·rw[g6 (l_ h1),g_ (NN h2)]at c;show c
 ·rw[g_ (NN h1)]at c;show c
def Ac{h:Heap}{c:O6}{ds:List (Str×Str)}(d:Paired (HG h) c ds):∃fs:List Value,KatTups h c fs/\fs.length=c.length/\∀v∈fs,∃x t,v=Value.str x t:=by induction d with|nil=>show{[],.nil,(),λv b=>nomatch b}|cons h _ e=>
  obtain⟨a,o,n,f,i,rfl,g,hc,hd⟩:=h;obtain⟨fs,h1,h2,h3⟩:=e;show{.str _ f::fs,.cons g hc hd () h1,by simp[h2],λv b=>?_};rcases q_.mp b with rfl|b
  ·show{_,_,()}
  ·show h3 v b
def yo{l:Addr}{vs:O6}{Q:O3}(u:s.heap.IsList l vs.toArray)(y:vs.length<64){ds:List (Str×Str)}(n:Paired (HG s.heap) vs ds)(h:Q (.ref (s.heap.objs.size+1)) {s with heap:=sortedAll s.heap vs ((xq ds).map λi=>vs.getD i Value.none).toArray}):wpAny (model prog w) A (call (.builtin "sorted") [.ref l]) Q E s:=by
 show NT kind_sorted plain_sorted entry_sorted (args_sorted1 _) ?_;unfold Builtin.«sorted»;show a_ (m:=checkCount "sorted" 1 1 _) (fx ?_);show a_ (collect_list u ?_ (by rw[g8];lia));show a_ (N3 ?_ (by rw[g8];lia));have f:((s.heap.push (seqObj "list" #[] 0)).update s.heap.objs.size (Obj.mapSeq (·++vs.toArray))).objs.size=s.heap.objs.size+1:=by rw[Heap.size_update,size_push']
 have k:(((s.heap.push (seqObj "list" #[] 0)).update s.heap.objs.size (Obj.mapSeq (·++vs.toArray))).push (seqObj "list" vs.toArray 0)).get? (s.heap.objs.size+1)=some (seqObj "list" vs.toArray 0):=by rw[<-f];show gg _ ()
 have keep:∀b o,s.heap.get? b=some o->b≠s.heap.objs.size+1/\(((s.heap.push (seqObj "list" #[] 0)).update s.heap.objs.size (Obj.mapSeq (·++vs.toArray))).push (seqObj "list" vs.toArray 0)).get? b=some o:=λb o q=>by have e:b<s.heap.objs.size:=hY q;show{ir (so e),?_};rw[N2 _ _ _ (by rw[f];show ir (so e)),NL _ _ _ _ (ir e),N2 _ _ _ (ir e)];show q
 change wpAny _ _ _ _ _ {s with heap:=((s.heap.push (seqObj "list" #[] 0)).update s.heap.objs.size (Obj.mapSeq (·++vs.toArray))).push (seqObj "list" vs.toArray 0)};rw[f];show a_ (oa (ol slot_list_sort (s:={s with heap:=((s.heap.push (seqObj "list" #[] 0)).update s.heap.objs.size (Obj.mapSeq (·++vs.toArray))).push (seqObj "list" vs.toArray 0)}) {_,k,()} OX (B0 (κ:=tuples' true) (c:=λi j=>MA (ds.getD i ("","")) (ds.getD j ("",""))) k y (λh2 z B=>?_) {_,(),?_}) (args_list_sort _)))
 ·have g:Paired (HG z.heap) vs ds:=Paired.mapP n λv d q=>q.kept λb o q=>B b o (keep b o q).1 (keep b o q).2;show{λN D=>?_,λi j C hi p r=>?_}
  ·obtain⟨fs,h1,F,h3⟩:=Ac g;show kat_kind (T:=Value.type "str") h1 (by lia) (λv G=>?_) (by decide+kernel) ?_
   ·obtain⟨x,t,rfl⟩:=h3 v G;show Looks.of_pure ()
   ·rw[show(Value.type "str"!=Value.type "tuple")=true by decide+kernel];show D
  ·obtain⟨d,I,J⟩:=Paired.at_ g i _ (ga hi);obtain⟨O,L,M⟩:=Paired.at_ g j _ (ga p);rw[lh,ga hi,lh,ga p];rw[lh,I,lh,L]at r;show Jp J M r
 ·rw[Paired.length n];show fx (U () h)
end
theorem Bd{ι c d:Type}{F:c->d->Prop}{f:ι->c}{g:ι->d}:∀{l:List ι},(∀i∈l,F (f i) (g i))->Paired F (l.map f) (l.map g)|[],_=>.nil|i::l,h=>.cons (h i i_) (Bd λj m=>h j (il _ m))
section
open PySem.Spec PyProof.Rows PySem.W
def AK{X:Cx}(K:O2)(G:X.K=K):df X (.builtin "sorted") (λC H Q=>∃(p:Addr)(c:Pb)(ds:List (Str×Str)),C=[.ref p]/\aS K H p (c.map V.ref)/\c.length<64/\Paired (λ(u:Addr)(d:Str×Str)=>aY K H u [.str d.1,.str d.2]) c ds/\∀(q:Addr)(l:Pb),H q=none->Paired (λ(u:Addr)(d:Str×Str)=>aY K H u [.str d.1,.str d.2]) l (DE ds)->Q (.ref q) (aH H q (.lst (l.map V.ref)))):=by
 subst G;intro D s R H C S Q I r h;obtain⟨p,c,ds,rfl,E,hn,k,q⟩:=h;obtain⟨u,rfl,J⟩:=jk r;obtain rfl:u=Value.ref p:=J;obtain⟨m,j,⟨o,n,v,x,y,F⟩,-⟩:=I.list E;obtain rfl:=xm j;have L:Paired (HG s.heap) (c.map Value.ref) ds:=by
  clear hn q F y j E r
  induction k with|nil=>show .nil|@cons u d _ _ h _ M=>show .cons ?_ M;obtain⟨m,j,⟨o,v,x,n,y⟩,_⟩:=I.tuple h;cases j with|cons h1 t=>cases t with|cons h2 t=>cases t;obtain⟨N,rfl⟩:=h1;obtain⟨O,rfl⟩:=h2;show{u,o,n,N,O,(),v,x,y}
 have b:c.length=ds.length:=Paired.length k;have g:∀i∈xq ds,i<c.length:=λi hi=>by rw[b];show s_.mp ((wo _ _).mem_iff.mp hi)
 have z:(xq ds).length=c.length:=by rw[b];show(wo _ _).length_eq.trans m_
 have A:(xq ds).map (λi=>(c.map Value.ref).getD i Value.none)=((xq ds).map λi=>c.getD i 0).map Value.ref:=by rw[qr];show w_ λi hi=>?_;have hi:=g i hi;change _=Value.ref (c.getD i 0);rw[lh,ge,lh,ga hi];rfl
 show yo (vs:=c.map Value.ref) (o,v,x,n,F,) (by rw[b_];omega) L ?_;rw[A];obtain⟨ep,B⟩:=PyProof.Rows.sortedAll_at s.heap (c.map Value.ref) (((xq ds).map λi=>c.getD i 0).map Value.ref).toArray;show{.ref (s.heap.objs.size+1),_,I.laid (h':=sortedAll s.heap (c.map Value.ref) (((xq ds).map λi=>c.getD i 0).map Value.ref).toArray) (t':=s.toks) (o:=.lst (((xq ds).map λi=>c.getD i 0).map V.ref)) (λ_ _=>sortedAll_old) (p_ _) {?_,_,ep,sJ,B},(),q _ _ (I.hok.fresh (p_ _)) (Bd λi hi=>?_)}
 ·rw[b_,b_,z,g8];omega
 ·have hi:=g i hi;obtain⟨d,e,f⟩:=Paired.at_ k i _ (ga hi);rw[lh,ga hi,lh,e];show f
end
def BH(ins:List (Str×Str×Str))(t:Str):List (Str×Str):=(ins.filter λx=>decide (x.2.1=t)).map λx=>(x.1,x.2.2)
def rK(K:O2)(H:Hp)(c:List V)(ds:List (Str×Str)):Prop:=Paired (λ(u:V)(d:Str×Str)=>∃b,u=.ref b/\aY K H b [.str d.1,.str d.2]) c ds
inductive Lf(P:O7)(w:World)(K:O2)(a:fJ)(vs:List V)(H:Hp)(Q:VK)(_E:XK):Prop|mk(M:be)(Z:ZS)(c i j:Nat)(l:bJ)(t:dD)(_:vs=[.ref (Z.G .hh),.str t.nm])(_:bP P w K a H M Z c)(_:c<=63)(_:M.trs[j]?=some t)(_:M.las[i]?=some l)(_:l.nm=t.home)(_:∀(r:Addr)(us:List V)H',am H H'->H r=none->H' r=some (.lst us)->rK K H' us (DE (BH l.ins t.nm))->Q (.ref r) H')
def vT{ins:List (Str×Str×Str)}{t:Str}{y:Str×Str×Str}:BH (ins++[y]) t=BH ins t++if y.2.1=t then[(y.1,y.2.2)]else[]:=by
 unfold BH;rw[NQ,gV]
 by_cases e:y.2.1=t
 ·rw[g6 e,Od (by simp[e])];rfl
 ·rw[g_ e,Oe (by simp[e])];rfl
def rK.of{c:Pb}{ds:List (Str×Str)}(h:Paired (λ(u:Addr)(d:Str×Str)=>aY K H u [.str d.1,.str d.2]) c ds):rK K H (c.map V.ref) ds:=by induction h with|nil=>show .nil|cons h _ b=>show .cons {_,(),h} b
inductive JW(P:O7)(w:World)(K:O2)(H1:Hp)(u:Addr)(iv:List (bY×V))(ins:List (Str×Str×Str))(t:Str)(D:Addr)(ep k:Nat)(acc:List V)(H2:Hp):Prop|mk(us:Pb)(f:∀b o,H1 b=some o->b≠u->H2 b=some o)(hu:H2 u=some (dE P w u iv ep))(hD:H2 D=some (.lst acc))(e:acc=us.map V.ref)(hk:us.length<=k)(hR:Paired (λ(u:Addr)(d:Str×Str)=>aY K H2 u [.str d.1,.str d.2]) us (BH (ins.take k) t)):JW P w K H1 u iv ins t D ep k acc H2
section
def xu(T:Txt K mg a):aP P w K mg base cP 4 a.ia.x a.ia.d ["self","trial"] (Lf P w K a):=by
 show T.ia.ok oM λbb A outer s H vs Q E I h=>?_
 ·obtain⟨M,Z,c,i,j,l,t,rfl,F,hc,hj,W,hh,q⟩:=h;show{_,(ag (aM (pc T.cR (eT T) I (ac (Y 1) (ac (aC K () (Y 0)) O)))) (ag (bp 2 oM.nd (aC K () (cM (bZ I) (aC K () (Y 0)) (aC K () (cM (bZ I) (aC K () (Y 0)) (Y 1) (λ_ _=>()))) (λ_ _=>())))) (ah (ay (aB (AK K ()) (by rfl) T.uy L2.mj (ac (Af (P:=P) (w:=w) (sB jA ["guest","seat"] [] [3,4] (ai lO) (qH _ 3 4) (pk (P:=P) (w:=w) (Y 2)) (λcl C s₀ H₀ ex=>{(ft K () () (bh (lB jA ["guest","seat"] 3) (bh (lB jA ["guest","seat"] 4) fq))),(pj (aD aX (dJ K (Y 4) af) (Y 1) (aG _))),(bx (ac (Y 3) (ac (dJ K (Y 4) af) O)))}))) O)))))),?_}
  have hI:=F.g.house;have bc:=F.g.trial hj;have a3:=F.ok.tr t (f_ hj);have hv:=F.ok.tget (Z:=Z) hj;have X:=F.ok.lget (Z:=Z) W;rw[hh]at X;have ba:=(F.ok.la l (f_ W)).len;show U () (fI hI T.ao T.aJ () () {t.nm,Z.G .tn,(gN (M.trs.map dD.nm) λi=>.ref (Z.G (.tr i))),(),a3.wd,F.g.tris,by rw[hv];rfl,λN s1=>?_});have f:=F.same s1;show fI f.g.house T.ao T.aK () () ?_;show fI f.g.house T.ao T.aJ () () (U () (rG (.ref (Z.G (.tr j))) (by rw[<-hv];show dn.k (k:=.inr t.nm) f.g.tris) ?_));show rF (f.g.trial hj) T.aZ T.eF () (rG (.ref (Z.G (.lo i))) (by rw[<-X];show dn.k (k:=.inr t.home) f.g.lays) ?_);show rF (f.g.layer W) T.bB T.bH () (au ?_);have v:N (Z.G (.iu i))=some (.dK (Z.iv i)):=f.g.at_ (.iu i) _ (by simp only[cont,W];rfl);have aa:=f.g.seats i l W;have ad:(Z.iv i).length=l.ins.length:=Paired.length aa;show U () {Z.G (.iu i),U () {v,λep=>λD hD=>?_}};have nd:Z.G (.iu i)≠D:=λz=>by rw[<-z,ae]at hD;cases hD
  have al:N D=none:=by rw[ak (nn nd)]at hD;show hD
  show pS (n:=(Z.iv i).length) (JW P w K N (Z.G (.iu i)) (Z.iv i) l.ins t.nm D ep) {[],λb o e n=>by rw[ak (az e al),ak n];show e,by rw[ak nd,ae],ae,(),e_ _,.nil} (λk an H2 hk h=>by obtain⟨_,_,h,_⟩:=h;show(h,hk,)) ?_ ?_
  ·rintro k an R x H5 hk⟨S,f4,m,B,rfl,J,p⟩⟨T1,kk,vv,a5,rfl,rfl,a6⟩;obtain⟨y,hy,rfl,s,rfl,a7⟩:=Paired.at_ aa k _ a6;show gS a5 λH5 L e5=>?_;have e5:H5 T1=some (.tup [.str y.1,.ref s]):=e5;have f5:∀b o,N b=some o->b≠Z.G (.iu i)->H5 b=some o:=λb o e n=>L _ _ (f4 b o e n);have a8:Kp N H5:={λu xs e=>f5 _ _ e λz=>(by rw[z,v]at e;cases e),λu o⟨o',e⟩=>{o',f5 _ _ e λz=>by rw[z,v]at e;cases e}};have ap:=a8.tq a7;show{T1,U () {aY.of e5,(),_,U () (au {_,U () (au {(),?_})})}};show U () (rX ap (aq (k:=0) ()) (U () {(),U () ?_}));change if decide (V.str y.2.1=V.str t.nm)=true then _ else _
   show lz (λe=>?_) (λe=>?_)
   ·have e:y.2.1=t.nm:=V.str.inj e;show U () (U () (rX ap (aq (k:=1) ()) {ls (),λT6 a9=>?_}));show gS a9 λH6 s6 e6=>?_;have as:=s6 _ _ (L _ _ B);have kp:Kp H6 (aH H6 D (.lst (S.map V.ref++[.ref T6]))):=.lst as;show{as,by rw[b_,g8];omega,lf hk {S++[T6],λb o e n=>by rw[ak (az e al)];show s6 _ _ (f5 b o e n),by rw[ak nd];show s6 _ _ (L _ _ m),ae,by rw[gV];rfl,by rw[hQ];show y2 J,?_}};rw[bK hy,vT,g6 e];show Paired.snoc (Paired.mapP p λ_ _ q=>kp.tq ((Kp.of s6).tq ((Kp.of L).tq q))) (kp.tq (aY.of e6))
   ·show lf hk {S,f5,L _ _ m,L _ _ B,(),sD J,by rw[bK hy,vT,g_ (λz=>e (by rw[z])),nB];show Paired.mapP p λ_ _ q=>(Kp.of L).tq q}
  ·rintro an R⟨S,f4,m,B,rfl,J,p⟩;rw[ad,hF (e_ _)]at p;show{{m,e_ _},Z.G (.iu i),_,ep,m,?_};have sF:am N (aH R (Z.G (.iu i)) (.dK (Z.iv i))):=λb o e=>by
    by_cases z:b=Z.G (.iu i)
    ·rw[z,v]at e;rw[z,ae];show e
    ·rw[ak z];show f4 b o e z
   have kp:Kp R (aH R (Z.G (.iu i)) (.dK (Z.iv i))):={λu xs e=>by rw[ak λz=>by rw[z,m]at e;cases e];show e,λu o⟨o',e⟩=>{o',by rw[ak λz=>by rw[z,m]at e;cases e];show e}};have ax:aH R (Z.G (.iu i)) (.dK (Z.iv i)) D=some (.lst (S.map V.ref)):=by rw[ak (nn nd)];show B
   have a2:=Paired.mapP p λ_ _ q=>kp.tq q;generalize aH R (Z.G (.iu i)) (.dK (Z.iv i))=H5 at sF ax a2⊢;show{D,S,U () {aS.of ax,by omega,a2,λr vs I hp=>?_}};show q r (vs.map V.ref) _ (s1.trans (aj sF I)) (s1.free (sF.free I)) ae (rK.of (Paired.mapP hp λ_ _ q=>am.tseq (aj (am.refl _) I) q))
end
inductive Dt|n|i(z:Int)|s(x:Str)|r(a:Addr)|l(ds:List Dt)|t(ds:List Dt)
mutual
inductive gM(K:O2)(H:Hp):Nat->Dt->V->Prop|n{k:Nat}:gM K H k .n .non|i{k:Nat}{z:Int}:gM K H k (.i z) (.int z)|s{k:Nat}{x:Str}:gM K H k (.s x) (.str x)|r{k:Nat}{a:Addr}:gM K H k (.r a) (.ref a)|l{k:Nat}{ds:List Dt}{p:Addr}{xs:List V}(h:aS K H p xs)(hs:DtsAt K H k ds xs):gM K H (k+1) (.l ds) (.ref p)|t{k:Nat}{ds:List Dt}{p:Addr}{xs:List V}(h:aY K H p xs)(hs:DtsAt K H k ds xs):gM K H (k+1) (.t ds) (.ref p)
inductive DtsAt(K:O2)(H:Hp):Nat->List Dt->List V->Prop|nil{k:Nat}:DtsAt K H k [] []|cons{k:Nat}{d:Dt}{ds:List Dt}{x:V}{xs:List V}(h:gM K H k d x)(hs:DtsAt K H k ds xs):DtsAt K H k (d::ds) (x::xs)
end
section
open PySem.Spec PyProof.Rows PySem.W
variable{X:Cx}{a:O4}{c:L2.St}{H:Hp}{s:Shared}
def DtsAt.sm{A:Around}{k:Nat}(f:∀{d:Dt}{x y:V}{u v:Value},gM X.K H k d x->gM X.K H k d y->aV x u->aV y v->SeqAt.EqAt A s u v true):∀{ds:List Dt}{m n:List V}{i l:O6},DtsAt X.K H k ds m->DtsAt X.K H k ds n->a0 m i->a0 n l->i.length=l.length/\∀j(h1:j<i.length)(h2:j<l.length),SeqAt.EqAt A s i[j] l[j] true:=by
 intro ds
 induction ds with|nil=>intro m n i l h1 h2 b r2;cases h1;cases h2;cases b;cases r2;show{(),λj h=>absurd h (Os _)}|cons d ds o=>intro m n i l h1 h2 b r2;cases h1 with|cons a1 b1=>cases h2 with|cons p b2=>cases b with|cons q r=>cases r2 with|cons t w=>obtain⟨e,g⟩:=o b1 b2 r w;show{pa Nat.succ e,λj h1 h2=>?_};cases j with|zero=>show f a1 p q t|succ j=>show g j (Nat.lt_of_succ_lt_succ h1) (Nat.lt_of_succ_lt_succ h2)
def Bu{A:Around}{p q:Addr}(h:p≠q->SeqAt.RcAt A s (.ref p) (.ref q) true):SeqAt.EqAt A s (.ref p) (.ref q) true:=by
 by_cases z:p=q
 ·rw[z];show PySem.SeqAt.EqAt.same _
 ·show PySem.SeqAt.EqAt.of_refs z (h z)
theorem gM.eq(I:aO X a c H s)(k:Nat):∀{A:Around}{d:Dt}{x y:V}{u v:Value},A.units+k<cLine->gM X.K H k d x->gM X.K H k d y->aV x u->aV y v->SeqAt.EqAt A s u v true:=by induction k with
 |zero=>intro A d x y u v L h1 h2 b r2;cases h1 with|n=>cases h2;cases b;cases r2;show PySem.SeqAt.EqAt.same _|@i _ z=>cases h2;obtain⟨g,rfl⟩:=b;obtain⟨h,rfl⟩:=r2;have:=PySem.SeqAt.EqAt.int_int (A:=A) (s:=s) z g z h;rwa[rf]at this|@s _ z=>cases h2;obtain⟨g,rfl⟩:=b;obtain⟨h,rfl⟩:=r2;have:=PySem.SeqAt.EqAt.str_str (A:=A) (s:=s) z g z h;rwa[rf]at this|r=>cases h2;cases b;cases r2;show PySem.SeqAt.EqAt.same _
 |succ k J=>
  intro A d x y u v L h1 h2 b r2;have hi:A.in1.units+k<cLine:=by change A.units+1+k<cLine;omega
  cases h1 with
 |n=>cases h2;cases b;cases r2;show PySem.SeqAt.EqAt.same _|@i _ z=>cases h2;obtain⟨g,rfl⟩:=b;obtain⟨h,rfl⟩:=r2;have:=PySem.SeqAt.EqAt.int_int (A:=A) (s:=s) z g z h;rwa[rf]at this|@s _ z=>cases h2;obtain⟨g,rfl⟩:=b;obtain⟨h,rfl⟩:=r2;have:=PySem.SeqAt.EqAt.str_str (A:=A) (s:=s) z g z h;rwa[rf]at this|r=>cases h2;cases b;cases r2;show PySem.SeqAt.EqAt.same _|l q w=>cases h2 with|l B C=>
    cases b;cases r2;obtain⟨p,D,pl,_⟩:=I.list q;obtain⟨f,m,o,_⟩:=I.list B;obtain⟨E,eq⟩:=DtsAt.sm (A:=A.in1) (λh1 h2 b r2=>J hi h1 h2 b r2) w C D m;show Bu λ_=>?_;have:=PySem.SeqAt.RcAt.lists (e:=λ_=>true) (A:=A) pl.isList o.isList (by simpa using E) (by omega) (λj F G=>by simpa using eq j (by simpa using F) (by simpa using G))
    rwa[C2.mpr λ_ _=>()]at this
  |t q w=>cases h2 with|t B C=>
    cases b;cases r2;obtain⟨p,D,pl,_⟩:=I.tuple q;obtain⟨f,m,o,_⟩:=I.tuple B;obtain⟨E,eq⟩:=DtsAt.sm (A:=A.in1) (λh1 h2 b r2=>J hi h1 h2 b r2) w C D m;show Bu λ_=>?_;have:=PySem.SeqAt.RcAt.tuples (e:=λ_=>true) (A:=A) pl o (by omega) (λj F G=>by simpa using eq j (by simpa using F) (by simpa using G))
    rwa[C2.mpr λ_ _=>(),show(p.toArray.size==f.toArray.size)=true by simpa using E]at this
end
def MS(K:O2):R2:=λx y H Q=>∃(ds:List Dt)(k:Nat),k<=16/\gM K H (k+1) (.l ds) x/\gM K H (k+1) (.l ds) y/\Q (.bl false) H
def Jz{X:Cx}(K:O2)(f:X.K=K)(D:X.A.units+65<cLine):lx X (compareOp .NotEq) (MS K):=by subst f;intro c s E H x y v u Q I g i h;obtain⟨ds,k,F,h1,h2,q⟩:=h;cases h1 with|l m n=>cases h2 with|l o p=>cases g;cases i;obtain⟨r,t,pl,_⟩:=I.list m;obtain⟨d,a,b,_⟩:=I.list o;obtain⟨w,eq⟩:=DtsAt.sm (A:=X.A.in1) (λh1 h2 z r2=>gM.eq I k (by change X.A.units+1+k<cLine;omega) h1 h2 z r2) n p t a;show PySem.SeqAt.RcNeAt.lists (e:=λ_=>true) pl.isList b.isList (by simpa using w) (by omega) (λj B C=>by simpa using eq j (by simpa using B) (by simpa using C)) _ _ _ _ {.bl false,H,I,?_,q};change Value.bool _=Value.bool _;rw[C2.mpr λ_ _=>()];rfl
mutual
theorem gM.same(s:am H c):∀{k:Nat}{d:Dt}{x:V},gM K H k d x->gM K c k d x|_,_,_,.n=>.n|_,_,_,.i=>.i|_,_,_,.s=>.s|_,_,_,.r=>.r|_,_,_,.l h a=>.l (am.seq s h) (DtsAt.same s a)|_,_,_,.t h a=>.t (am.tseq s h) (DtsAt.same s a)
theorem DtsAt.same(s:am H c):∀{k:Nat}{ds:List Dt}{a:List V},DtsAt K H k ds a->DtsAt K c k ds a|_,_,_,.nil=>.nil|_,_,_,.cons h b=>.cons (gM.same s h) (DtsAt.same s b)
end
def cX(h:H b=some o)(n:H b=none):False:=by rw[h]at n;cases n
section
variable{P:O7}{w:World}{K:O2}{a:fJ}{H g:Hp}{M p:be}{Z j:ZS}{f:List V}
def bA.ntup(h:bA P w K a H M Z)(L:ib M Z b):(∀f,H b≠some (.tup f))/\∀x y,H b≠some (.frz x y):=by
 have lst:∀l f,H l=some (.lst f)->(∀N,H l≠some (.tup N))/\∀x y,H l≠some (.frz x y):=λl f e=>by rw[e];show{λ_ z=>(nomatch z),λ_ _ z=>(nomatch z)}
 rcases L with⟨r,O,rfl⟩|⟨i,hi,x,k,e⟩|⟨x,k,e⟩
 ·obtain⟨o,q⟩:=mD P w a Z O;have im:=(h.imm (H':=λb=>if b=Z.G r then none else H b) q λb o e n=>by change(if b=Z.G r then none else H b)=_;rw[g_ n];show e).kp;show{λf e=>?_,λx y e=>?_}
  ·have:=im.tp _ _ e;rw[g6 ()]at this;cases this
  ·obtain⟨_,this⟩:=im.fz _ _ {_,e};rw[g6 ()]at this;cases this
 ·obtain⟨_,⟨m,q,_⟩,_⟩:=h.tabs i _ (ga hi);obtain⟨l,f,u,J⟩:=q.ex x k;rw[u]at e;cases e;show lst _ _ J
 ·obtain⟨l,f,u,J⟩:=h.came.ex x k;rw[u]at e;cases e;show lst _ _ J
def bA.stp(h:bA P w K a H M Z)(st:gr H M Z g p j):Kp H g:={λu f e=>st.fr _ _ e λz=>(h.ntup z).1 _ e,λu o⟨b,e⟩=>{b,st.fr _ _ e λz=>(h.ntup z).2 _ _ e}}
def gr.nf(st:gr H M Z g p j)(e:H b=some o)(n:¬ib M Z b):¬ib p j b:=λz=>(st.fp b z).elim n (cX e)
end
def xb{c:Type}{a:List c}{x y:c}{i:Nat}(h:(a++[x])[i]?=some y):a[i]?=some y\/(i=a.length/\y=x):=by
 rcases Om i a.length with z|z
 ·show .inl (by rw[<-h];show(rk z).symm)
 ·rw[y_ z]at h;obtain⟨b,d⟩:=d_.mp h;have b:i-a.length<1:=b;obtain rfl:i=a.length:=by lia
  simp only[Nat.sub_self,List.getElem_cons_zero]at d;show .inr {(),d.symm}
section
variable{ns:Pc}{M a:be}{d:Dd}
def Dd.na(h:d.adds=false):zf M d=iE M/\vX M d=jg M:=by cases d<;>first|show{(),()}|cases h
def nC.keep(h:nC ns M)(ep:a.p=M.p)(es:a.salt=M.salt)(c:a.las.map (λl=>(l.nm,l.sl))=M.las.map λl=>(l.nm,l.sl))(e:a.trs.map (λt=>(t.nm,t.arms))=M.trs.map λt=>(t.nm,t.arms)):nC ns a/\a.p=M.p/\a.salt=M.salt/\iE a=iE M/\jg a=jg M:=by
 have a1:∀N:be,iE N=(N.las.map λl=>(l.nm,l.sl)).map Prod.fst:=λN=>by rw[qr];rfl
 have b:∀N:be,jg N=(N.trs.map λt=>(t.nm,t.arms)).map λx=>(x.1,x.2.length):=λN=>by rw[qr];rfl
 have f:a.las.length=M.las.length:=by have:=pa List.length c;rw[b_,b_]at this;show this
 show{{λi l g=>?_,λj t k=>?_,by rw[f,ep];show h.lp,by rw[ep];show h.pr},ep,es,by rw[a1,a1,c],by rw[b,b,e]}
 ·have q:(M.las.map λl=>(l.nm,l.sl))[i]?=some (l.nm,l.sl):=by rw[<-c,ge,g];rfl
  rw[ge]at q;obtain⟨m,h0,q⟩:=Option.map_eq_some_iff.mp q;rw[<-(Nz q).1,<-(Nz q).2,ep];show h.ln i m h0
 ·have q:(M.trs.map λt=>(t.nm,t.arms))[j]?=some (t.nm,t.arms):=by rw[<-e,ge,k];rfl
  rw[ge]at q;obtain⟨n,h0,q⟩:=Option.map_eq_some_iff.mp q;rw[<-(Nz q).1,<-(Nz q).2];show h.tn j n h0
def eQ.nx(h:nC ns M)(n:eQ M d a)(f:Ks ns M d):nC ns a/\a.p=M.p/\a.salt=M.salt/\iE a=zf M d/\jg a=vX M d:=by cases n with
 |@layer nm sl=>
  obtain⟨g,k,m⟩:=f;show{{λi l b=>?_,h.tn,?_,h.pr},(),(),gV,()}
  ·rcases xb b with b|⟨rfl,rfl⟩
   ·show h.ln i l b
   ·show(g,k,)
  ·change(M.las++[_]).length<=M.p+1;rw[hQ];show m|@trial x=>
  show{{h.ln,λj t e=>?_,h.lp,h.pr},(),(),(),gV};rcases xb e with e|⟨rfl,rfl⟩
  ·show h.tn j t e
  ·show f|share b hh hn=>show h.keep () () (eE b _ ()) ()|deal b hh hn=>show h.keep () () (eE b _ ()) ()|hold b=>show h.keep () () (eE b _ ()) ()|pause c=>show h.keep () () () (eE c _ ())|close c b hh=>show h.keep () () (eE b _ ()) (eE c _ ())|bar c b hh=>show h.keep () () (eE b _ ()) (eE c _ ())|visit o v=>show h.keep v.p v.salt (by rw[v.las,qr];rfl) (by rw[v.trs])
end
structure on(P:O7)(w:World)(K:O2)(a:fJ)(H0 H:Hp)(ns:Pc)(M:be)(Z:ZS)(A:yc)(c:Nat)(ls:O8)(ts:List (Str×Nat)):Prop where
 z:bP P w K a H M Z c
 pl:pU K H M.p M.salt ls ts A
 pn:nC ns M
 f1:¬ib M Z A.pl
 f2:¬ib M Z A.L
 f3:¬ib M Z A.T
 bs:∀b o,H0 b=some o->H b=some o/\¬ib M Z b/\b≠A.L/\b≠A.T
section
variable{P:O7}{w:World}{K:O2}{a:fJ}{f H i r:Hp}{M j:be}{Z t:ZS}{ns:Pc}{A:yc}{v:Addr}{c:Nat}{ls q:O8}{u m:List (Str×Nat)}{d:Dd}
theorem on.same(h:on P w K a f H ns M Z A c ls u)(s:am H i):on P w K a f i ns M Z A c ls u:={h with z:=h.z.same s,pl:=h.pl.same s,bs:=λb o e=>{s _ _ (h.bs b o e).1,(h.bs b o e).2}}
def on.dr(h:on P w K a f H ns M Z A c (iE M) (jg M))(sq:aS K f v (ns.map V.int))(l:ns.length<=63):vR K H v ns M A c:={am.seq (λb o e=>(h.bs b o e).1) sq,l,h.pl,h.z.ok,h.pn,λi g=>am.seq (λb o e=>g _ _ (h.bs b o e).1 (h.bs b o e).2.2.1) sq}
def on.chg(h:on P w K a f H ns M Z A c ls u)(n:Mq A H i)(l:pU K i M.p M.salt q m A):on P w K a f i ns M Z A c q m:=by
 obtain⟨o,s,kp,k⟩:=n;rcases s with rfl|rfl
 ·show{h with z:={h.z with g:=h.z.g.out h.f2 kp k},pl:=l,bs:=λb o e=>{k _ _ (h.bs b o e).1 (h.bs b o e).2.2.1,(h.bs b o e).2}}
 ·show{h with z:={h.z with g:=h.z.g.out h.f3 kp k},pl:=l,bs:=λb o e=>{k _ _ (h.bs b o e).1 (h.bs b o e).2.2.2,(h.bs b o e).2}}
def on.fin(h:on P w K a f H ns M Z A c (zf M d) (vX M d))(n:eQ M d j)(st:gr H M Z r j t)(p:bP P w K a r j t (c+1))(s:Ks ns M d):on P w K a f r ns j t A (c+1) (iE j) (jg j):=by
 have kp:=h.z.g.stp st;obtain⟨x,y,B,C,D⟩:=n.nx h.pn s;obtain⟨E,k,l⟩:=h.pl.T;show{p,?_,x,st.nf h.pl.pl h.f1,st.nf h.pl.L h.f2,st.nf k h.f3,λb o e=>?_}
 ·rw[y,B,C,D];show{st.fr _ _ h.pl.pl h.f1,st.fr _ _ h.pl.L h.f2,{E,st.fr _ _ k h.f3,CQ.kp kp l},h.pl.n1,h.pl.n2,h.pl.n3}
 ·obtain⟨b1,b2,b3⟩:=h.bs b o e;show{st.fr _ _ b1 b2,st.nf b1 b2,b3}
def on.not(h:on P w K a f H ns M Z A c (zf M d) (vX M d))(hd:d.adds=false)(s:am H r):on P w K a f r ns M Z A (c+1) (iE M) (jg M):=by obtain⟨b,e⟩:=Dd.na (M:=M) hd;rw[b,e]at h;show{h.same s with z:=(h.same s).z.mono (p_ c)}
end
def pM(p:Nat)(sa:Int):be:={p,sa,[],[],[]}
def EM(h ln tn a dl dx:Addr):ZS:={λr=>match r with|.hh=>h|.ln=>ln|.tn=>tn|.ci=>a|_=>dl,λ_=>dx,[],[],λ_=>[],λ_=>[],λ_=>[],λ_=>dx,λ_=>.non,λ_=>dx}
section
variable{P:O7}{w:World}{K:O2}{a:fJ}{H:Hp}{p:Nat}{sa:Int}{h ln tn c dl dx:Addr}
def Hi(e:2<=p/\p<=997):jN (pM p sa) 0:={e,.nil,.nil,λl g=>(nomatch g),λt b=>(nomatch b),λx i=>(nomatch i),ku _,ku _,ku _,λt b=>(nomatch b)}
def EN(hh:H h=some (.ins a.bo dx [("own_prime",.int p),("own_salt",.int sa),("layer_named",.ref ln),("trial_named",.ref tn),("came_into",.ref c),("deeds",.ref dl)]))(m:H ln=some (.dK []))(n:H tn=some (.dK []))(s:H c=some (.dK []))(u:H dl=some (.lst []))(n1:ln≠tn)(n2:ln≠c)(n3:tn≠c):bA P w K a H (pM p sa) (EM h ln tn c dl dx):=by
 have at_:∀r o,cont P w a (pM p sa) (EM h ln tn c dl dx) r=some o->H ((EM h ln tn c dl dx).G r)=some o:=λr o e=>by cases r<;>first|(obtain rfl:=j1 e;assumption)|cases e
 show{λr j o k e b q=>?_,at_,λi l g=>(nomatch g),λi t v=>(nomatch v),λi l g=>(nomatch g),.nil};have x:=at_ r o e
 have y:=at_ j k b
 rw[q,y]at x;cases r<;>cases j<;>first|rfl|(cases e;done)|(cases b;done)|show absurd q n1|show absurd q n2|show absurd q n3|show absurd q.symm n1|show absurd q.symm n2|show absurd q.symm n3|(cases e;cases b;cases x;done)
def EZ(g:ib (pM p sa) (EM h ln tn c dl dx) b):b=h\/b=ln\/b=tn\/b=c\/b=dl:=by
 rcases g with⟨r,j,e⟩|⟨i,hi,_⟩|⟨x,k,_⟩
 ·cases r
  ·show .inl e
  ·show .inr (.inl e)
  ·show .inr (.inr (.inl e))
  ·show .inr (.inr (.inr (.inl e)))
  ·show .inr (.inr (.inr (.inr e)))
  all_goals cases j
 ·cases hi
 ·cases k
end
structure qX(K:O2)(H:Hp)(M:be)(vs:List V)(Ms:Nat->be):Prop where
 z:Ms 0=M
 s:∀k v,vs[k]?=some v->∃dv xs d,v=.ref dv/\aY K H dv xs/\jj K H (Ms k) d xs/\d.clo=false/\eQ (Ms k) d (Ms (k+1))
theorem qX.kp{M:be}{a:List V}{c:Nat->be}(e:Kp H f)(h:qX K H M a c):qX K f M a c:={h.z,λk v b=>by obtain⟨g,i,d,h1,h2,h3,h4⟩:=h.s k v b;show{g,i,d,h1,e.tq h2,h3.kp e,h4}}
def qX.refs{M:be}{a:List V}{c:Nat->be}(h:qX K H M a c)(v:V)(d:v∈a):∃b,v=.ref b:=by obtain⟨k,f⟩:=ig.mp d;obtain⟨g,_,_,e,_⟩:=h.s k v f;show(g,e,)
theorem qX.take{M:be}{c:List V}{d:Nat->be}(h:qX K H M c d)(n:Nat):qX K H M (c.take n) d:={h.z,λk v a=>h.s k v (by rw[List.getElem?_take]at a;split at a;show a;cases a)}
def qX.snoc{M i:be}{a:List V}{f:Nat->be}{c:Addr}{e:List V}{d:Dd}(h:qX K H M a f)(j:aY K H c e)(l:jj K H (f a.length) d e)(hc:d.clo=false)(nx:eQ (f a.length) d i):qX K H M (a++[.ref c]) λk=>if k<=a.length then f k else i:=by
 show{h.z,λk v b=>?_};rcases xb b with b|⟨rfl,rfl⟩
 ·obtain⟨c,e,d,h1,h2,h3,h4,m⟩:=h.s k v b;have g:=(d_.mp b).1;show{c,e,d,h1,h2,by rw[g6 (sT g)];show h3,h4,by rw[g6 (sT g),g6 (show k+1<=a.length from g)];show m}
 ·show{c,e,d,(),j,by rw[g6 (e_ _)];show l,hc,by rw[g6 (e_ _),g_ (NA _)];show nx}
def Hw{mg:O5}{base:Heap}{k:Nat}{f:Addr}{fd:FuncData}{d:O8}{sp c:Sp}(F:aP P w K mg base (vS P w) k f fd d sp)(h:∀a H Q E,c a H Q E->sp a H Q λ_ _ _=>False):aP P w K mg base cP k f fd d c:={λa H Q E q=>F.len a H Q _ (h _ _ _ _ q),λA outer s H b g a Q E i j l m n=>z7 (F.run A outer s H b g a Q _ i j l m (h _ _ _ _ n)) λr p z=>by cases r with|ok o=>cases o<;>show z|error e=>obtain⟨_,_,_,_,_,_,_,_,_,_,_,_,_,z⟩:=z;show z.elim}
def vO.pr(h:vO p)(i:Nat)(hi:2+(i:Int)<(p:Int)):(p:Int)%(2+(i:Int))≠0:=λz=>by have h1:=(dk ():∀p∈[2,3,5,7,11,13,17,37,61],∀i,i<61->2+i<p->p%(2+i)≠0) p h i (by have:=h.le;lia) (by lia);have e:(((p%(2+i):Nat)):Int)=(p:Int)%((2+i:Nat):Int):=Int.natCast_emod _ _;rw[show(((2+i:Nat)):Int)=2+(i:Int)by lia,z]at e;lia
inductive Ng(P:O7)(w:World)(K:O2)(a:fJ)(p:Nat)(sa:Int)(H H':Hp)(Z:ZS):Prop|mk(z:bP P w K a H' (pM p sa) Z 0)(d:Z.ds=[])(s:am H H')(f:∀b,ib (pM p sa) Z b->H b=none)
def L5{p:Nat}{sa:Int}{n d c:Hp}{h ln tn f dl dx:Addr}(A:2<=p/\p<=61)(hh:n h=none)(f2:am n d)(q:d ln=none)(r:d tn=none)(s:d f=none)(t:d dl=none)(u:ln≠tn)(v:ln≠f)(x:tn≠f)(f3:∀b o,d b=some o->b≠h->c b=some o)(y:c h=some (.ins a.bo dx [("own_prime",.int p),("own_salt",.int sa),("layer_named",.ref ln),("trial_named",.ref tn),("came_into",.ref f),("deeds",.ref dl)]))(g:c ln=some (.dK []))(j:c tn=some (.dK []))(l:c f=some (.dK []))(m:c dl=some (.lst [])):∃Z:ZS,Z.G .hh=h/\Ng P w K a p sa n c Z:=by
 show{EM h ln tn f dl dx,(),{EN y g j l m u v x,Hi {A.1,by omega},λi=>ku _,λi=>ku _,ku _},(),λb o e=>f3 b o (f2 b o e) (az e hh),λb z=>?_};rcases EZ z with rfl|rfl|rfl|rfl|rfl
 ·show hh
 ·show f2.free q
 ·show f2.free r
 ·show f2.free s
 ·show f2.free t
inductive Lk(P:O7)(w:World)(K:O2)(a:fJ)(vs:List V)(H:Hp)(Q:VK)(_E:XK):Prop|mk(M:be)(Z:ZS)(c:Nat)(dv:Addr)(d:Dd)(xs:List V)(M':be)(_:vs=[.ref (Z.G .hh),.ref dv])(_:bP P w K a H M Z c)(_:c<=63)(_:aY K H dv xs)(_:jj K H M d xs)(_:d.clo=false)(_:eQ M d M')(_:∀(r:Addr)(Z':ZS)(H':Hp),gr H M Z H' M' Z'->bP P w K a H' M' Z' (c+1)->Z'.ds=Z.ds++[.ref dv]->Q (.ref r) H')
inductive BW(P:O7)(w:World)(K:O2)(a:fJ)(vs:List V)(H:Hp)(Q:VK)(_E:XK):Prop|mk(p:Nat)(sa:Int)(dl:Addr)(us:List V)(Ms:Nat->be)(_:vs=[.int p,.int sa,.ref dl])(_:vO p)(_:(0<=sa/\sa<=cC))(_:us.length<=63)(_:aS K H dl us)(_:qX K H (pM p sa) us Ms)(_:∀(Z:ZS)(H':Hp),am H H'->bP P w K a H' (Ms us.length) Z us.length->Z.ds=us->Q (.ref (Z.G .hh)) H')
inductive JHo(P:O7)(w:World)(K:O2)(a:fJ)(H:Hp)(us:List V)(Ms:Nat->be)(h:Addr)(v0 v1 v2:V)(i:Nat)(σ:St)(H':Hp):Prop|mk(Z:ZS)(v:Option V)(z:bP P w K a H' (Ms i) Z i)(d:Z.ds=us.take i)(s:am H H')(f:∀b,ib (Ms i) Z b->H b=none)(e:Z.G .hh=h)(l:σ=[some v0,some v1,some v2,some (.ref h),v]):JHo P w K a H us Ms h v0 v1 v2 i σ H'
section
def xv(T:Txt K mg a)(i:w.params=a.pm):aP P w K mg base cP 14 a.fh.x a.fh.d ["self","deed"] (Lk P w K a):=Hw (rh T i) λs H Q E h=>by
 obtain⟨M,Z,c,j,d,k,t,rfl,b,hc,l,m,e,nx,q⟩:=h;show{M,Z,c,j,d,k,(),b,hc,l,m,λ_ r u M2 n o n2 st f _ _ g=>?_,λ_ p=>absurd p (nx.not b.ok),λz=>?_}
 ·obtain rfl:=nx.one b.ok n2;show q r n o st f g
 ·rw[e]at z;cases z
def yV(T:Txt K mg a)(hw:w.params=a.pm):aP P w K mg base cP 15 a.kx.x a.kx.d ["prime","salt","deeds"] (BW P w K a):=by
 show T.kx.ok lG λad A outer s H vs Q E hr h=>?_
 ·obtain⟨p,sa,dl,us,M,rfl,pr,S,hl,hS,hH,q⟩:=h;show{_,(ag (bp 3 lG.nd (pq T.y8 ((lr (P:=P) (w:=w) T).mono (by decide)) hr () T.Bm T.dC.b .nil aQ (ac (Y 0) (ac (Y 1) O)))) (ag (dN mo () (cL K () (Y 2)) (qo 4 lG.nd) (ah (aM (aU (Y 3) T.ao T.fh.m ((xv (P:=P) (w:=w) T hw).mono (by decide)) hr T.fh.b .nil aQ (ac (Y 4) O))))) (ah (ay (Y 3))))),?_}
  have hp:=pr.le;show U () (U () (λh dx hh V al=>?_));have f2:am H (aH (aH H dx (.own h)) h (.ins a.bo dx [])):=λb o e=>by rw[ak (az e hh),ak (az e V)];show e
  have l:aH (aH H dx (.own h)) h (.ins a.bo dx []) h=some (.ins a.bo dx []):=ae;generalize aH (aH H dx (.own h)) h (.ins a.bo dx [])=H2 at f2 l⊢;show{h,dx,(p:Int),sa,(),l,{by omega,by omega},pr.pr,S,λln tn ci an H3 y C D F G I J f3 L c f j k=>{(),au ?_}};obtain⟨Z,e,n,hd,s3,t⟩:=L5 (P:=P) (w:=w) (K:=K) hp hh f2 y C D F G I J f3 L c f j k;rw[<-hH.z]at n t;clear y C D F G I J f3 L c f j k f2 l;show U () {dl,(),{_,am.seq s3 hS},?_};show gc (K:=K) (a:=dl) (xs:=us) (JHo P w K a H us M h (.int p) (.int sa) (.ref dl)) {Z,_,n,hd,s3,t,e,()} (λi σ H' _ h=>by obtain⟨_,_,_,_,s,_⟩:=h;show am.seq s hS) ?_ ?_
  ·rintro i v σ H4 W⟨Z,v4,n,hd,u,t,e,rfl⟩N R B hN;obtain⟨dv,xs,d,rfl,hT,hD,hc,nx⟩:=hH.s i v W;have hi:=(d_.mp W).1;show au ?_;show iN (by rw[<-e];show n.g.house) () () (U () {M i,Z,i,dv,d,xs,M (i+1),by rw[e];rfl,n,by omega,am.tseq u hT,hD.kp (.of u),hc,nx,λr Z' H5 st X aa=>hN _ _ {Z',_,X,by rw[aa,hd,bK W],λb o eb=>st.fr _ _ (u _ _ eb) λz=>cX eb (t b z),λb z=>(st.fp b z).elim (t b) λz=>u.free z,st.hh.trans e,()}})
  ·rintro σ H4⟨Z,v4,n,hd,u,t,e,rfl⟩;show U () ?_;rw[<-e];show q Z H4 u n (by rw[hd,hF (e_ _)])
end
def del(D:Addr)(H:Hp):Hp:=λb=>if b=D then none else H b
section
variable{K:O2}{H w:Hp}{D b:Addr}{k:Nat}{o:HO}{xs B:List V}{ds:List Dt}{S:AS}{p:Int}{v:V}{n c:Nat}{M:be}{g:Str}{C:List (Str×Int)}{A:List (Str×Str×Str)}
def mh(n:b≠D):del D H b=H b:=g_ n
def xJ:am (del D H) H:=λb o e=>by
 by_cases z:b=D
 ·cases(g6 z).symm.trans e
 ·show(mh z).symm.trans e
def zr(s:am H w):am (del D H) (del D w):=λb o e=>by
 by_cases z:b=D
 ·cases(g6 z).symm.trans e
 ·show(mh z).trans (s _ _ ((mh z).symm.trans e))
open Classical in
noncomputable def dl(p:Addr->Prop)(H:Hp):Hp:=λb=>if p b then none else H b
def Tf(H:Hp)(b:Addr):Prop:=(∀xs,H b≠some (.tup xs))/\∀x y,H b≠some (.frz x y)
def KR(H:Hp)(b:Addr):Prop:=H b≠none/\Tf H b
def pD(H:Hp)(D b:Addr):Prop:=b=D\/KR H b
def LU(h:H D=some (.lst xs)):Kp H (del D H):={λu xs e=>(mh λz=>by rw[z,h]at e;cases e).trans e,λu o⟨a,e⟩=>{a,(mh λz=>by rw[z,h]at e;cases e).trans e}}
def gH{p:Addr->Prop}(n:¬p b):dl p H b=H b:=g_ n
def pQ{p:Addr->Prop}{o:HO}(e:dl p H b=some o):¬p b/\H b=some o:=by
 by_cases z:p b
 ·cases(g6 z).symm.trans e
 ·show{z,(gH z).symm.trans e}
def xI{p:Addr->Prop}(s:am H w):am (dl p H) (dl p w):=λb o e=>(gH (pQ e).1).trans (s _ _ (pQ e).2)
def Mc{p:Addr->Prop}:am (dl p H) H:=λb o e=>(pQ e).2
def Kg{p:Addr->Prop}(a:p D):dl p (aH H D o)=dl p H:=funext λb=>by
 by_cases z:p b
 ·show(g6 z).trans (g6 z).symm
 ·rw[gH z,gH z,ak λe=>z (by rw[e];show a)]
def LT{p:Addr->Prop}(h:∀b,p b->Tf H b):Kp H (dl p H):={λu xs e=>(gH λz=>(h u z).1 _ e).trans e,λu o⟨a,e⟩=>{a,(gH λz=>(h u z).2 _ _ e).trans e}}
theorem Tf.lst(h:H b=some (.lst xs)):Tf H b:={λ_ e=>(nomatch h.symm.trans e),λ_ _ e=>(nomatch h.symm.trans e)}
def Lx(s:am H w)(h:KR H b):Tf w b:=by obtain⟨h1,h2⟩:=h;obtain⟨o,e⟩:=Option.ne_none_iff_exists'.mp h1;show{λxs z=>h2.1 xs (e.trans ((s _ _ e).symm.trans z)),λx y z=>h2.2 x y (e.trans ((s _ _ e).symm.trans z))}
def Bp(s:am H w)(h:w D=some (.lst xs)):Kp w (dl (pD H D) w):=LT λb z=>z.elim (λz=>z▸.lst h) (Lx s)
def wm(n:b≠D)(h:H b=none):¬pD H D b:=λz=>z.elim n λz=>z.1 h
def DtsAt.app{es:List Dt}{a:List V}(h2:DtsAt K H k es a):∀{ds:List Dt}{xs:List V},DtsAt K H k ds xs->DtsAt K H k (ds++es) (xs++a):=by
 intro ds
 induction ds with|nil=>intro xs h;cases h;show h2|cons d ds e=>intro xs h;cases h with|cons h1 h=>show .cons h1 (e h)
def DtsAt.of{a:Type}{f:a->Dt}{R:V->a->Prop}{d:List a}(h:Paired R B d)(e:∀u y,R u y->gM K H k (f y) u):DtsAt K H k (d.map f) B:=by induction h with|nil=>show .nil|cons h _ i=>show .cons (e _ _ h) i
open Classical in
noncomputable def GL(S:AS)(p:Int):Dt:=if h:∃x:Str×Str,p∈S.pl (cB x.1 x.2)then .t [.s h.choose.1,.s h.choose.2]else .n
def zJ.dt(h:zJ K H S p v)(a:S.Ok n):gM K H (k+1) (GL S p) v:=by
 unfold GL;rcases h with⟨rfl,h⟩|⟨x,y,h1,h2⟩
 ·rw[dif_neg (λ⟨x,d⟩=>h _ d)];show .n
 ·have e:∃x:Str×Str,p∈S.pl (cB x.1 x.2):={(x,y),h1};rw[dif_pos e];obtain⟨f,i⟩:=om (a.dj _ _ _ e.choose_spec h1);rw[f,i];obtain⟨b,rfl,j⟩:=h2;show .t j (.cons .s (.cons .s .nil))
open Classical in
noncomputable def FM(M:be)(g:Str)(C:List (Str×Int)):List (Str×Str×Str):=if h:∃A,kE M g C M.las A then h.choose else[]
def kE.dt(h:kE M g C M.las A)(a:jN M c):FM M g C=A:=by have e:∃A,kE M g C M.las A:=(A,h,);unfold FM;rw[dif_pos e];show kE.one a e.choose_spec (λl q=>q) h
def d2(y:Str×Str):Dt:=.t [.s y.1,.s y.2]
def d3(y:Str×Str×Str):Dt:=.t [.s y.1,.s y.2.1,.s y.2.2]
def gL.dt(h:gL K H B A):DtsAt K H (k+1) (A.map d3) B:=DtsAt.of h λu y q=>by obtain⟨b,rfl,q⟩:=q;show .t q (.cons .s (.cons .s (.cons .s .nil)))
def rK.dt{a:List (Str×Str)}(h:rK K H B a):DtsAt K H (k+1) (a.map d2) B:=DtsAt.of h λu y q=>by obtain⟨b,rfl,q⟩:=q;show .t q (.cons .s (.cons .s .nil))
def Hf:∀{a:Pc},DtsAt K H k (a.map Dt.i) (a.map V.int):=by
 intro a
 induction a with|nil=>show .nil|cons z a d=>show .cons .i d
def Jr{f:Str->Int}:∀{gs:O8},DtsAt K H k (gs.map λg=>Dt.i (f g)) (gs.map λg=>V.int (f g)):=by
 intro gs
 induction gs with|nil=>show .nil|cons z d a=>show .cons .i a
def JP{t u:Addr}{m:Str×Int}(h:aY K H t [.ref u])(a:aY K H u [.str m.1,.int m.2]):pX K H [m] (.ref t):={t,_,(),h,(),λi y e=>by
  rcases i with _|i
  ·cases e;show{u,(),a}
  ·cases e}
def Iq:Wd "age":=AV (by decide+kernel)
def FV:∀{a:O8},DtsAt K H k (a.map Dt.s) (a.map V.str):=by
 intro a
 induction a with|nil=>show .nil|cons z a d=>show .cons .s d
def Lp:V->Dt|.ref a=>.r a|_=>.n
def Gw:∀{a:List V},(∀v∈a,∃b,v=.ref b)->DtsAt K H k (a.map Lp) a:=by
 intro a
 induction a with|nil=>intro _;show .nil|cons z f d=>intro h;obtain⟨b,rfl⟩:=h z (.head _);show .cons .r (d λv e=>h v (.tail _ e))
def LQ(l:bJ):Dt:=.t [.s l.nm,.i l.sl]
def G5{ls:List bJ}(h:Paired (x6 K H) B ls):DtsAt K H (k+1) (ls.map LQ) B:=DtsAt.of h λu y q=>by obtain⟨b,rfl,q⟩:=q;show .t q (.cons .s (.cons .i .nil))
def wH(M:be)(ds:List V):List Dt:=[.l (M.las.map LQ),.l ((M.trs.map dD.nm).map Dt.s),.l (ds.map Lp),.i M.p,.i M.salt]
noncomputable def KH(M:be)(gs:O8)(l:bJ):List Dt:=[.l ((List.range M.p).map λi=>GL l.S (i:Nat)),.l (gs.map λg=>.i (nO M.p M.salt l.sl g))]
def KA(M:be)(t:dD):Dt:=(M.las.find? λl=>decide (l.nm=t.home)).elim .n λl=>.l [.s t.home,.t ((jT l t).map Dt.i),.l ((DE (BH l.ins t.nm)).map d2)]
noncomputable def MB(M:be)(g:Str):Dt:=.l [.l ((C9 M g).map d3),.l ((dS M.came g).map d2),.l ((FM M g []).map d3),.l ((FM M g [("age",3)]).map d3)]
noncomputable def AY(M:be)(ds:List V)(gs:O8):List Dt:=wH M ds++M.las.flatMap (KH M gs)++M.trs.map (KA M)++gs.map (MB M)
def jN.home_find(f:jN M c){i:Nat}{l:bJ}{x:Str}(d:M.las[i]?=some l)(e:l.nm=x):(M.las.find? λl=>decide (l.nm=x))=some l:=by
 obtain⟨y,a⟩:=t0.mp (List.find?_isSome.mpr {l,f_ d,j2 e}:(M.las.find? λl=>decide (l.nm=x)).isSome=true);obtain⟨j,h⟩:=ig.mp (List.mem_of_find?_eq_some a);have m:y.nm=x:=by simpa using List.find?_some a
 rw[a,(f.luniq d h (e.trans m.symm)).2]
end
structure Il(K:O2)(H H0:Hp)(D:Addr)(ds:List Dt)(m:Nat)(xs:List V)(H':Hp):Prop where
 s:am (del D H0) H'
 at_:H' D=some (.lst xs)dt:DtsAt K (dl (pD H D) H') 3 ds xs
 n:xs.length<=m
section
variable{K:O2}{H a c i:Hp}{D:Addr}{ds:List Dt}{d:Dt}{m:Nat}{g:List V}{v:V}
def Il.put(h:Il K H a D ds m g c)(s:am c i)(hd:gM K (dl (pD H D) i) 3 d v):Il K H a D (ds++[d]) (m+1) (g++[v]) (aH i D (.lst (g++[v]))):={λb o e=>by
  by_cases z:b=D
  ·cases(g6 z).symm.trans e
  ·rw[ak z];show s _ _ (h.s _ _ e),ae,by rw[Kg (.inl ())];show DtsAt.app (.cons hd .nil) (h.dt.same (xI s)),by rw[hQ];show y2 h.n}
def Il.same(h:Il K H a D ds m g c)(f:H D=none)(s:am H a):am H c:=λb o e=>h.s _ _ ((mh (az e f)).trans (s _ _ e))
def Ho{ls:List bJ}{l:bJ}{k:Nat}(h:ls[k]?=some l)(f:bJ->List Dt)(hd:List Dt){x y:Dt}(e:f l=[x,y]):hd++(ls.take (k+1)).flatMap f=(hd++(ls.take k).flatMap f++[x])++[y]:=by rw[bK h,List.flatMap_append];simp[e]
end
inductive KU(K:O2)(H H0:Hp)(D hh gl:Addr)(ds:List Dt)(m:Nat)(σ:St)(H':Hp):Prop|mk(xs:List V)(v3 v4 v5 v6:Option V)(c:Il K H H0 D ds m xs H')(e:σ=[some (.ref hh),some (.ref gl),some (.ref D),v3,v4,v5,v6]):KU K H H0 D hh gl ds m σ H'
inductive IN(P:O7)(w:World)(K:O2)(a:fJ)(vs:List V)(H:Hp)(Q:VK)(_E:XK):Prop|mk(M:be)(Z:ZS)(c:Nat)(gl:Addr)(gs:O8)(_:vs=[.ref (Z.G .hh),.ref gl])(_:bP P w K a H M Z c)(_:c<=63)(_:(∀v∈Z.ds,∃b,v=.ref b))(_:aS K H gl (gs.map V.str))(_:gs.length<=7)(_:(∀g∈gs,w6 g))(_:∀(r:Addr)(H':Hp),am H H'->H r=none->gM K (dl (KR H) H') 4 (.l (AY M Z.ds gs)) (.ref r)->Q (.ref r) H')
inductive JSm(K:O2)(H H0:Hp)(D hh gl:Addr)(nm:Str)(ds:List Dt)(m:Nat)(σ:St)(H':Hp):Prop|mk(xs:List V)(v4 v5 v6:Option V)(c:Il K H H0 D ds m xs H')(e:σ=[some (.ref hh),some (.ref gl),some (.ref D),some (.str nm),v4,v5,v6]):JSm K H H0 D hh gl nm ds m σ H'
inductive JPl(H:Hp)(D:Addr)(M:be)(sl:Int)(gs:O8)(j:Nat)(acc:List V)(H':Hp):Prop|mk(s:am H H')(at_:H' D=some (.lst acc))(p:acc=(gs.take j).map λg=>V.int (nO M.p M.salt sl g)):JPl H D M sl gs j acc H'
inductive JOw(K:O2)(H:Hp)(D:Addr)(S:AS)(j:Nat)(acc:List V)(H':Hp):Prop|mk(s:am H H')(at_:H' D=some (.lst acc))(p:Paired (λv(i:Nat)=>zJ K H' S (i:Int) v) acc (List.range j)):JOw K H D S j acc H'
section
def yY(T:Txt K mg a):aP P w K mg base cP 11 a.u0.x a.u0.d ["_law_house","_law_guests"] (IN P w K a):=by
 show T.u0.ok jV λel A outer s H vs Q E hr h=>?_
 ·obtain⟨M,Z,c,gl,gs,rfl,y,hc,di,hS,en,c0,q⟩:=h;show{_,(ag (bp 2 jV.nd (bj (ac (eB (Y 0) T.ao T.cO.m ((lq (P:=P) (w:=w) T).mono (by decide)) hr T.cO.b .nil aQ) (ac (eB (Y 0) T.ao T.cN.m ((lj (P:=P) (w:=w) T).mono (by decide)) hr T.cN.b .nil aQ) (ac (eB (Y 0) T.ao T.de.m ((jH (P:=P) (w:=w) T).mono (by decide)) hr T.de.b .nil aQ) (ac (eB (Y 0) T.ao T.dB.m ((lW (P:=P) (w:=w) T).mono (by decide)) hr T.dB.b .nil aQ) (ac (eB (Y 0) T.ao T.fZ.m ((vC (P:=P) (w:=w) T).mono (by decide)) hr T.fZ.b .nil aQ) O))))))) (ag (dN mo () (cL K () (eB (Y 0) T.ao T.cO.m ((lq (P:=P) (w:=w) T).mono (by decide)) hr T.cO.b .nil aQ)) (ft K () () (bh (xo (i:=3) jV.nd () (.inr ())) (bh (qo 4 jV.nd) fq))) (ag (aM (fF K () PySem.F.plainAttrs_list PySem.F.slot_list_append PySem.F.type_list_append cF (Y 2) (ac (sB pW ["_law_place"] [] [7] (ai sI) (b0 7) (dq () T.eO (ac (eB (Y 0) T.ao T.dB.m ((lW (P:=P) (w:=w) T).mono (by decide)) hr T.dB.b .nil aQ) O)) (λcl C s₀ H₀ ex=>{(lB pW ["_law_place"] 7),bQ,(aU (Y 0) T.ao T.fg.m ((uw (P:=P) (w:=w) T).mono (by decide)) hr T.fg.b .nil aQ (ac (Y 3) (ac (Y 7) O)))})) O))) (ah (aM (fF K () PySem.F.plainAttrs_list PySem.F.slot_list_append PySem.F.type_list_append cF (Y 2) (ac (sB pW [] [6] [6] (ai sI) (b0 6) (cL K () (Y 1)) (λcl C s₀ H₀ ex=>{(lB pW [] 6),bQ,(aU (Y 0) T.ao T.ff.m ((uv (P:=P) (w:=w) T).mono (by decide)) hr T.ff.b .nil aQ (ac (Y 3) (ac (Y 6) O)))})) O)))))) (ag (dN mo () (cL K () (eB (Y 0) T.ao T.cN.m ((lj (P:=P) (w:=w) T).mono (by decide)) hr T.cN.b .nil aQ)) (qo 5 jV.nd) (ah (aM (fF K () PySem.F.plainAttrs_list PySem.F.slot_list_append PySem.F.type_list_append cF (Y 2) (ac (bj (ac (aU (Y 0) T.ao T.c6.m ((pA (P:=P) (w:=w) T).mono (by decide)) hr T.c6.b .nil aQ (ac (Y 5) O)) (ac (aU (Y 0) T.ao T.eu.m ((sj (P:=P) (w:=w) T).mono (by decide)) hr T.eu.b .nil aQ (ac (Y 5) O)) (ac (aU (Y 0) T.ao T.ia.m ((xu (P:=P) (w:=w) T).mono (by decide)) hr T.ia.b .nil aQ (ac (Y 5) O)) O)))) O))))) (ag (dN mo () (cL K () (Y 1)) (qo 6 jV.nd) (ah (aM (fF K () PySem.F.plainAttrs_list PySem.F.slot_list_append PySem.F.type_list_append cF (Y 2) (ac (bj (ac (aU (Y 0) T.ao T.fe.m ((uu (P:=P) (w:=w) T).mono (by decide)) hr T.fe.b .nil aQ (ac (Y 6) O)) (ac (aU (Y 0) T.ao T.f8.m ((vD (P:=P) (w:=w) T).mono (by decide)) hr T.f8.b .nil aQ (ac (Y 6) O)) (ac (aU (Y 0) T.ao T.dA.m ((lV (P:=P) (w:=w) T).mono (by decide)) hr T.dA.b .nil aQ (ac (Y 6) (ac (bx O) O))) (ac (aU (Y 0) T.ao T.dA.m ((lV (P:=P) (w:=w) T).mono (by decide)) hr T.dA.b .nil aQ (ac (Y 6) (ac (bx (ac (bx (ac aF (ac af O))) O)) O))) O))))) O))))) (ah (ay (Y 2))))))),?_}
  have hI:=y.g.house;show iN hI () () {M,Z,c,(),y,λr0 eo H0 s0 n0 e0 p0=>?_};show iN (s0 _ _ hI) () () {M,Z,c,(),y.same s0,λr1 H1 s1 n1 e1=>?_};have a3:=s0.trans s1;show iN (a3 _ _ hI) () () {M,Z,c,(),y.same a3,λr2 H2 s2 n2 e2=>?_};have al:=a3.trans s2;show iN (al _ _ hI) () () {M,Z,c,(),y.same al,?_};show iN (al _ _ hI) () () {M,Z,c,(),y.same al,ls (),λD hD=>au (sr ?_)};show gS hD λH3 s3 e3=>?_;have X:H D=none:=al.free hD;have ap:=al.trans s3;have nD:∀{r:Addr}{xs:List V},H r=none->H2 r=some (.lst xs)->aS K (dl (pD H D) H3) r xs:=λn e=>aS.of ((gH (wm (az e hD) n)).trans (s3 _ _ e));have hJ:Il K H H D (wH M Z.ds) 5 [.ref r0,.ref r1,.ref r2,.int M.p,.int M.salt] H3:={(xJ).trans ap,e3,.cons (.l (nD n0 ((s1.trans s2) _ _ e0)) (G5 (x6.kp ((Kp.of ((s1.trans s2).trans s3)).trans (Bp ap e3)) p0))) (.cons (.l (nD (s0.free n1) (s2 _ _ e1)) FV) (.cons (.l (nD (a3.free n2) e2) (Gw di)) (.cons .i (.cons .i .nil)))),e_ _};clear nD s3 hD al s2 a3 s1 s0 p0 e0 e1 e2 n0 n1 n2;have l4:=y.ok.l4;show Fe (KU K H H D (Z.G .hh) gl (wH M Z.ds++M.las.flatMap (KH M gs)) 13) ?A1 (λN _ _ _ hN=>?B1)
  case B1=>
   show iN (ap _ _ hI) () () {M,Z,c,(),y.same ap,λr us H4 s4 n4 e4 p4=>?_};have I:=ap.trans s4;have rD:r≠D:=λz=>cX e3 (z▸n4);have as:=s4 _ _ e3;show{r,(),{_,aS.of e4},?_};show gc (K:=K) (a:=r) (xs:=us) (λk=>KU K H H4 D (Z.G .hh) gl (wH M Z.ds++(M.las.take k).flatMap (KH M gs)) (5+2*k)) {_,_,_,_,_,{xJ,as,by rw[t4,List.flatMap_nil,nB];show hJ.dt.same (xI s4),hJ.n},()} (λi σ H' _ h=>by obtain⟨_,_,_,_,_,h,_⟩:=h;show aS.of (h.s _ _ ((mh rD).trans e4))) ?_ ?_
   ·rintro k x σ H5 hx⟨xs,v3,v4,v5,v6,f,rfl⟩N R B hN;obtain⟨l,hl,b,rfl,hb⟩:=Paired.at_ p4 k x hx;have J:am H H5:=f.same X I;have a5:=y.same J;have er:k<M.las.length:=(d_.mp hl).1;have hL:=y.ok.la l (f_ hl);have hp:=y.ok.p;have kb:=(((LU as).trans (.of f.s)).tq hb);show{b,U () {kb,(),_,U () (au {_,U () (au {(),?_})})}};show Fe (JSm K H H4 D (Z.G .hh) gl l.nm ((wH M Z.ds++(M.las.take k).flatMap (KH M gs))++[.l ((List.range M.p).map λi=>GL l.S (i:Nat))]) (5+2*k+1)) ?A2 (λN _ _ _ hN=>?B2)
    case B2=>
     show U () {.inl {(),_,aS.of f.at_},?_};show iN (J _ _ hI) () () {M,Z,c,(),a5,U () {by omega,by omega,λD2 aa=>?_}};have bO:D2≠D:=λz=>cX f.at_ (z▸aa);show d6 (K:=K) (lo:=0) (n:=M.p) (JOw K H5 D2 l.S) {aj (am.refl _) aa,ae,.nil} ?_ ?_
     ·rintro j ax H6 hj⟨W,L,bi⟩;show au (iG (bI ?_));show iN ((J.trans W) _ _ hI) () () (U () (U () {M,Z,c,k,l,0+(j:Int),(),a5.same W,hl,by omega,by omega,λv H7 s7 hv=>?_}));have ev:ax.length=j:=by rw[Paired.length bi,m_]
      have a6:=s7 _ _ L;have kp:Kp H7 (aH H7 D2 (.lst (ax++[v]))):=.lst a6;show{a6,by rw[g8];omega,lf hj {bv (W.trans s7) aa,ae,?_}};rw[NG];show Paired.snoc (Paired.mapP bi λ_ _ q=>(q.kp (.of s7)).kp kp) (by rw[<-Int.zero_add (j:Int)];show hv.kp kp)
     ·rintro ax H6⟨W,L,bi⟩;have bl:=W _ _ f.at_;show rA bl (by have:=f.n;rw[g8];omega) (hN _ _ {_,_,_,_,f.put W (.l (aS.of ((gH (wm bO (J.free aa))).trans L)) (DtsAt.of bi λu i q=>(q.kp (Bp (J.trans W) bl)).dt hL.ok)),()})
    case A2=>
    clear f a5 J kb;rintro σ H5⟨xs,v4,v5,v6,f,rfl⟩;have J:am H H5:=f.same X I;have a5:=y.same J;show U () {.inl {(),_,aS.of f.at_},?_};show U () {gl,(),{_,am.seq J hS},λD2 aa=>?_};have bO:D2≠D:=λz=>cX f.at_ (z▸aa);show kz (K:=K) (a:=gl) (xs:=gs.map V.str) (JPl H5 D2 M l.sl gs) {aj (am.refl _) aa,ae,()} (λj ax H' _ h=>by obtain⟨h,_⟩:=h;show am.seq (J.trans h) hS) ?_ ?_
    ·rintro j v ax H6 hv⟨W,L,rfl⟩;have hj:=(d_.mp hv).1;rw[ge]at hv;obtain⟨g,hg,rfl⟩:=Option.map_eq_some_iff.mp hv;show au (iG (bI ?_));show iN ((J.trans W) _ _ hI) () () (U () (U () {M,Z,c,k,l,g,(),a5.same W,hl,c0 g (f_ hg),λH7 s7=>?_}));show{s7 _ _ L,by rw[b_,k4,g8];omega,lf hj {bv (W.trans s7) aa,ae,by rw[bK hg,gV];rfl}}
    ·rintro ax H6⟨W,L,rfl⟩;have bl:=W _ _ f.at_;rw[b_,hF (e_ _)]at L;have hP:=f.put W (.l (aS.of ((gH (wm bO (J.free aa))).trans L)) (Jr (k:=2)));rw[<-Ho hl (KH M gs) _ ()]at hP;show rA bl (by have:=f.n;rw[g8];omega) (hN _ _ {_,_,_,_,_,hP,()})
   ·rintro σ H5⟨xs,v3,v4,v5,v6,f,rfl⟩;rw[Paired.length p4,hF (e_ _)]at f;show hN _ _ {xs,v3,v4,v5,v6,{(zr I).trans f.s,f.at_,f.dt,iA f.n (by omega)},()}
  case A1=>
  clear hJ e3 ap;rintro σ H3⟨xs,v3,v4,v5,v6,f,rfl⟩;have s3:am H H3:=f.same X (am.refl H);generalize dv:wH M Z.ds++M.las.flatMap (KH M gs)=d1 at f;show Fe (KU K H H D (Z.G .hh) gl (d1++M.trs.map (KA M)) 80) ?A3 (λN _ _ _ hN=>?B3)
  case B3=>
   show iN (s3 _ _ hI) () () {M,Z,c,(),y.same s3,λr H4 s4 n4 e4=>?_};have I:=s3.trans s4;have rD:r≠D:=λz=>cX f.at_ (z▸n4);have as:=s4 _ _ f.at_;show{r,(),{_,aS.of e4},?_};show gc (K:=K) (a:=r) (xs:=(M.trs.map dD.nm).map V.str) (λk=>KU K H H4 D (Z.G .hh) gl (d1++(M.trs.take k).map (KA M)) (13+k)) {_,_,_,_,_,{xJ,as,by rw[t4,NM,nB];show f.dt.same (xI s4),f.n},()} (λi σ H' _ h=>by obtain⟨_,_,_,_,_,h,_⟩:=h;show aS.of (h.s _ _ ((mh rD).trans e4))) ?_ ?_
   ·clear f;rintro k x σ H5 hx⟨xs,v3,v4,v5,v6,f,rfl⟩N R B hN;rw[ge,ge]at hx;obtain⟨_,dK,rfl⟩:=Option.map_eq_some_iff.mp hx;obtain⟨t,ht,rfl⟩:=Option.map_eq_some_iff.mp dK;have J:am H H5:=f.same X I;have hk:=(d_.mp ht).1;obtain⟨i,l,hl,hh⟩:=y.ok.home (f_ ht);have c1:=y.ok.tc;show au ?_;show U () {.inl {(),_,aS.of f.at_},?_};show iN (J _ _ hI) () () (U () {M,Z,c,k,t,(),y.same J,ht,λH6 W=>?_});have ad:=J.trans W;show iN (ad _ _ hI) () () (U () {M,Z,c,i,k,l,t,(),y.same ad,ht,hl,hh,λr7 H7 s7 n7 e7=>?_});have an:=ad.trans s7;show iN (an _ _ hI) () () (U () {M,Z,c,i,k,l,t,(),y.same an,hc,ht,hl,hh,λr8 ew H8 s8 n8 e8 p8=>?_});show{ls (),λr9 b8=>?_};show gS b8 λH9 s9 e9=>?_;have b9:=((W.trans s7).trans s8).trans s9;have a6:=(W.trans s7) _ _ f.at_;have c2:=b9 _ _ f.at_;have kd:=Bp (J.trans b9) c2;have kp:Kp H7 (dl (pD H D) H9):=(Kp.of (s8.trans s9)).trans kd;have n8:=wm (az a6 n8).symm (an.free n8);have n9:=wm (az (s8 _ _ a6) b8).symm ((an.trans s8).free b8);have tD:gM K (dl (pD H D) H9) 3 (KA M t) (.ref r9):=by unfold KA;rw[y.ok.home_find hl hh];show .l (aS.of ((gH n9).trans e9)) (.cons .s (.cons (.t (kp.tq (aY.of e7)) Hf) (.cons (.l (aS.of ((gH n8).trans (s9 _ _ e8))) (rK.dt (gK.kp ((Kp.of s9).trans kd) p8))) .nil)))
    have hP:=f.put b9 tD;rw[vr,<-Nl,<-gV,<-bK ht]at hP;show rA c2 (by have:=f.n;rw[g8];omega) (hN _ _ {_,_,_,_,_,hP,()})
   ·rintro σ H5⟨xs,v3,v4,v5,v6,f,rfl⟩;have c1:=y.ok.tc;rw[b_,b_,hF (e_ _)]at f;show hN _ _ {xs,v3,v4,v5,v6,{(zr I).trans f.s,f.at_,f.dt,iA f.n (by omega)},()}
  case A3=>
  clear f s3;rintro σ H4⟨xs,v3,v4,v5,v6,f,rfl⟩;have I:am H H4:=f.same X (am.refl H);have as:=f.at_;generalize dT:d1++M.trs.map (KA M)=d4 at f;show U () {gl,(),{_,am.seq I hS},?_};show gc (K:=K) (a:=gl) (xs:=gs.map V.str) (λk=>KU K H H4 D (Z.G .hh) gl (d4++(gs.take k).map (MB M)) (80+k)) {_,_,_,_,_,{xJ,as,by rw[t4,NM,nB];show f.dt,f.n},()} (λi σ H' _ h=>by obtain⟨_,_,_,_,_,h,_⟩:=h;show am.seq (h.same X I) hS) ?_ ?_
  ·clear f;rintro k x σ H5 hx⟨xs,v3,v4,v5,v6,f,rfl⟩N R B hN;rw[ge]at hx;obtain⟨g,hg,rfl⟩:=Option.map_eq_some_iff.mp hx;have J:am H H5:=f.same X I;have hk:=(d_.mp hg).1;have hG:=c0 g (f_ hg);show au ?_;show U () {.inl {(),_,aS.of f.at_},?_};show iN (J _ _ hI) () () (U () {M,Z,c,g,(),y.same J,hG,λr6 u6 H6 W n6 e6 p6=>?_});have ad:=J.trans W;show iN (ad _ _ hI) () () (U () {M,Z,c,g,(),y.same ad,by omega,hG,λr7 u7 H7 s7 n7 e7 p7=>?_});have an:=ad.trans s7;show iN (an _ _ hI) () () (U () {ls (),λt8 dV=>?_});show gS dV λH8 s8 e8=>?_;have cc:=an.trans s8;show{M,Z,c,g,.ref t8,[],(),y.same cc,hc,hG,{t8,[],(),aY.of e8,(),λi m e=>(nomatch e)},λm hm=>(nomatch hm),.nil,ku _,λr9 u9 H9 s9 n9 e9 ey p9 a9 _=>?_};have c3:=cc.trans s9;show iN (c3 _ _ hI) () () (U () {ls (),λez c4=>?_});show gS c4 λeG a7 d5=>?_;show{ls (),λd9 da=>?_};show gS da λeH a2 ea=>?_;have a8:=(c3.trans a7).trans a2;show{M,Z,c,g,.ref d9,[("age",3)],(),y.same a8,hc,hG,JP (aY.of ea) (am.tseq a2 (aY.of d5)),λm hm=>?_,.cons (λ_ h=>(nomatch h)) .nil,Nat.le_add_left 1 7,λeN e5 fa ba eb ec ek ed ef _=>?_}
   ·rw[List.mem_singleton.mp hm];have:=qd;show{Iq,by change-cC<=(3:Int);omega,by change(3:Int)<=cC;omega}
   show{ls (),λeh bo=>?_};show gS bo λei bb ej=>?_;have bc:=(((s8.trans s9).trans a7).trans a2).trans (ba.trans bb);have ci:=(W.trans s7).trans bc;have L:=W _ _ f.at_;have dc:=(s7.trans s8) _ _ L;have bt:=((s9.trans a7).trans a2) _ _ dc;have bz:=ci _ _ f.at_;have kd:=Bp (J.trans ci) bz;have ne:∀{H1:Hp}{r:Addr}{xs:List V},H1 D=some (.lst xs)->am H H1->H1 r=none->¬pD H D r:=λh s n=>wm (az h n).symm (s.free n);have gD:gM K (dl (pD H D) ei) 3 (MB M g) (.ref eh):=by unfold MB;rw[a9.dt y.ok,ef.dt y.ok];show .l (aS.of ((gH (ne (ba _ _ bt) (a8.trans ba) bo)).trans ej)) (.cons (.l (aS.of ((gH (ne f.at_ J n6)).trans ((s7.trans bc) _ _ e6))) (p6.kp ((Kp.of (s7.trans bc)).trans kd)).dt) (.cons (.l (aS.of ((gH (ne L ad n7)).trans (bc _ _ e7))) (rK.dt (gK.kp ((Kp.of bc).trans kd) p7))) (.cons (.l (aS.of ((gH (ne dc cc n9)).trans (((a7.trans a2).trans (ba.trans bb)) _ _ e9))) (p9.kp ((Kp.of ((a7.trans a2).trans (ba.trans bb))).trans kd)).dt) (.cons (.l (aS.of ((gH (ne bt a8 eb)).trans (bb _ _ ec))) (ed.kp ((Kp.of bb).trans kd)).dt) .nil))))
   have hP:=f.put ci gD;rw[vr,<-Nl,<-gV,<-bK hg]at hP;show rA bz (by have:=f.n;rw[g8];omega) (hN _ _ {_,_,_,_,_,hP,()})
  ·rintro σ H5⟨xs,v3,v4,v5,v6,f,rfl⟩;rw[b_,hF (e_ _),<-dT,<-dv]at f;show U () (q D H5 (f.same X I) X (.l (aS.of ((gH λz=>z.1 X).trans f.at_)) (f.dt.same λb o e=>(gH λz=>(pQ e).1 (.inr z)).trans (pQ e).2)))
end
inductive F3(P:O7)(w:World)(K:O2)(a:fJ)(vs:List V)(H:Hp)(Q:VK)(E:XK):Prop|mk(M:be)(Z:ZS)(c:Nat)(dv:Addr)(d:Dd)(xs:List V)(_:vs=[.ref (Z.G .hh),.ref dv])(_:bP P w K a H M Z c)(_:c<=63)(_:aY K H dv xs)(_:jj K H M d xs)(_:(d.clo=false->∀(r:Addr)(M':be)(Z':ZS)(H':Hp),eQ M d M'->gr H M Z H' M' Z'->bP P w K a H' M' Z' (c+1)->Z'.ds=Z.ds++[.ref dv]->Q (.ref r) H'))(_:(d.adds=false->∀(z:Str)H',am H H'->Q (.str z) H'))
section
def D6(T:Txt K mg a)(v:w.params=a.pm):aP P w K mg base cP 15 a.wZ.x a.wZ.d ["_law_house","_law_deed_here"] (F3 P w K a):=by
 show T.wZ.ok yC λy A outer s H N Q E o h=>?_
 ·obtain⟨M,Z,c,z,d,B,rfl,p,hc,C,D,q,t⟩:=h;show{_,(ag (GA () () T.wL () T.zc T.wM () T.zd T.qQ (λE u R S F=>(Jh (i:=2) yC.nd () (by first|show Or.inl ()|show Or.inr ()) (GV (Y 0) T.ao T.fh.m ((rh (P:=P) (w:=w) T v).mono (by decide)) o T.fh.b .nil F (ac (Y 1) O)))) (λG=>(ah (ay aF))) (λG=>(ah (ay aF)))) (ah (ay (Y 2)))),?_}
  show iN p.g.house () () (U () {M,Z,c,z,d,B,(),p,hc,C,D,λf r V I J e nx st j o L k=>?_,λl _ e n=>?_,λl e n=>?_})
  ·show au (U () (q f r I J e nx st j k))
  ·show .inl {(),t l _ e n}
  ·show .inr {(),t (Dd.clo_adds l) _ e n}
end
def KP(M:be)(Z:ZS)(A:yc)(a b:Addr):Prop:=¬ib M Z b/\b≠A.L/\b≠A.T/\b≠a
noncomputable def FI(H:Hp)(M:be)(Z:ZS)(A:yc)(a:Addr):Hp:=dl (λb=>¬KP M Z A a b) H
def Kx(K:O2)(a:Hp)(c:Nat->be)(ds:List V)(gs:O8)(v:V):Prop:=∃(b r:Addr)(m:Nat),v=.ref b/\aY K a b [.int m,.ref r]/\m<=ds.length/\gM K a 4 (.l (AY (c m) (ds.take m) gs)) (.ref r)
structure AT(K:O2)(Hb H:Hp)(M:be)(Z:ZS)(A:yc)(kl:Addr)(Ms:Nat->be)(gs:O8)(p:Nat)(sa:Int)(ps:List V):Prop where
 at_:H kl=some (.lst ps)nf:¬ib M Z kl
 n1:kl≠A.pl
 n2:kl≠A.L
 n3:kl≠A.T
 n0:Hb kl=none
 his:qX K H (pM p sa) Z.ds Ms
 now:Ms Z.ds.length=M
 ep:M.p=p
 es:M.salt=sa
 pg:∀v∈ps,Kx K Hb Ms Z.ds gs v
structure Ni(K:O2)(Hb:Hp)(sc gl tl:Addr)(ns:Pc)(gs:O8)(ts:Pc):Prop where sq:aS K Hb sc (ns.map V.int)gl:Hb gl=some (.lst (gs.map V.str))tl:Hb tl=some (.lst (ts.map V.int))
section
variable{P:O7}{w:World}{K:O2}{a:fJ}{D f y H u B:Hp}{M t:be}{Z C:ZS}{ns:Pc}{A:yc}{kl b:Addr}{c p:Nat}{sa:Int}{ls:O8}{q:List (Str×Nat)}{i:Nat->be}{gs:O8}{j:List V}
def lS{o:HO}(h:H b=some o)(s:KP M Z A kl b):FI H M Z A kl b=some o:=(gH (λz=>z s)).trans h
def Jk{o:HO}(e:FI H M Z A kl b=some o):H b=some o/\KP M Z A kl b:={(pQ e).2,Classical.byContradiction (pQ e).1}
def on.based(h:on P w K a D H ns M Z A c ls q):on P w K a (FI H M Z A kl) H ns M Z A c ls q:={h with bs:=λb o e=>let⟨d,g,k,l,_⟩:=Jk e;(d,g,k,l,)}
def on.bsame(h:on P w K a f H ns M Z A c ls q)(n0:f kl=none):am f (FI H M Z A kl):=λb o e=>let⟨d,g,k,l⟩:=h.bs b o e;lS d {g,k,l,az e n0}
def on.sf(h:on P w K a f H ns M Z A c ls q)(e:H kl=some (.lst j))(l:¬KR H b):KP M Z A kl b:=by
 obtain⟨m,k,_⟩:=h.pl.T
 by_cases n:H b=none
 ·show{h.z.g.foot n,λz=>cX h.pl.L (z▸n),λz=>cX k (z▸n),λz=>cX e (z▸n)}
 ·have d:¬Tf H b:=λz=>l (n,z,);show{λz=>d (h.z.g.ntup z),λz=>d (z▸.lst h.pl.L),λz=>d (z▸.lst k),λz=>d (z▸.lst e)}
def on.sfn(h:on P w K a f H ns M Z A c ls q)(n:H b=none)(d:b≠kl):KP M Z A kl b:=by obtain⟨k,e,_⟩:=h.pl.T;show{h.z.g.foot n,λz=>cX h.pl.L (z▸n),λz=>cX e (z▸n),d}
theorem Kx.same(s:am f H){ds:List V}{v:V}(h:Kx K f i ds gs v):Kx K H i ds gs v:=by obtain⟨b,r,m,h1,h2,h3,h4⟩:=h;show{b,r,m,h1,am.tseq s h2,h3,h4.same s}
def Kx.snoc{ds:List V}{v x:V}(h:Kx K f i ds gs v):Kx K f (λk=>if k<=ds.length then i k else t) (ds++[x]) gs v:=by obtain⟨b,r,m,h1,h2,h3,h4⟩:=h;show{b,r,m,h1,h2,by rw[hQ];show sD h3,?_};change gM K f 4 (.l (AY (if m<=ds.length then i m else t) _ gs)) _;rw[g6 h3,NB h3];show h4
def AT.same(h:AT K f H M Z A kl i gs p sa j)(s:am H u):AT K f u M Z A kl i gs p sa j:={h with at_:=s _ _ h.at_,his:=h.his.kp (.of s)}
def AT.chg(h:AT K f H M Z A kl i gs p sa j)(d:Mq A H u):AT K f u M Z A kl i gs p sa j:=by
 obtain⟨o,e,kp,g⟩:=d;show{h with at_:=g _ _ h.at_ λz=>?_,his:=h.his.kp kp};rcases e with rfl|rfl
 ·show h.n2 z
 ·show h.n3 z
theorem AT.stp(h:AT K f H M Z A kl i gs p sa j)(m:bA P w K a H M Z)(st:gr H M Z u t C){g:Addr}{d:Dd}{l:List V}(n:aY K H g l)(o:jj K H M d l)(hc:d.clo=false)(nx:eQ M d t)(ep:t.p=M.p)(es:t.salt=M.salt)(e:C.ds=Z.ds++[.ref g]):AT K f u t C A kl (λk=>if k<=Z.ds.length then i k else t) gs p sa j:=by
 have kp:=m.stp st;show{st.fr _ _ h.at_ h.nf,st.nf h.at_ h.nf,h.n1,h.n2,h.n3,h.n0,?_,?_,ep.trans h.ep,es.trans h.es,λv r=>?_}
 ·rw[e];show(h.his.kp kp).snoc (kp.tq n) (by rw[h.now];show o.kp kp) hc (by rw[h.now];show nx)
 ·rw[e,hQ];show g_ (NA _)
 ·rw[e];show(h.pg v r).snoc
def on.put(h:on P w K a f H ns M Z A c ls q){l m:List V}(r:H kl=some (.lst l))(nf:¬ib M Z kl)(n1:kl≠A.pl)(n2:kl≠A.L)(n3:kl≠A.T)(n0:f kl=none):on P w K a f (aH H kl (.lst m)) ns M Z A c ls q:=by
 have kp:Kp H (aH H kl (.lst m)):=.lst r;have d:∀b ob,H b=some ob->b≠kl->aH H kl (.lst m) b=some ob:=λb ob e n=>by rw[ak n];show e
 obtain⟨l,k,s⟩:=h.pl.T;show{h with z:={h.z with g:=h.z.g.out nf kp d},pl:={d _ _ h.pl.pl (nn n1),d _ _ h.pl.L (nn n2),{l,d _ _ k (nn n3),CQ.kp kp s},h.pl.n1,h.pl.n2,h.pl.n3},bs:=λb o e=>{d _ _ (h.bs b o e).1 (az e n0),(h.bs b o e).2}}
def zZ:FI H M Z A kl kl=none:=g6 λz=>z.2.2.2 ()
theorem AT.put(h:AT K f H M Z A kl i gs p sa j)(n:on P w K a f H ns M Z A c ls q){y B g:Hp}{r b:Addr}(s:am H y)(J:am y B)(Q:gM K (dl (KR y) B) 4 (.l (AY M Z.ds gs)) (.ref r))(L:am B g)(R:B b=none)(S:g b=some (.tup [.int Z.ds.length,.ref r])):AT K (FI g M Z A kl) (aH g kl (.lst (j++[.ref b]))) M Z A kl i gs p sa (j++[.ref b])/\on P w K a (FI g M Z A kl) (aH g kl (.lst (j++[.ref b]))) ns M Z A c ls q/\am f (FI g M Z A kl):=by
 have I:=J.trans L;have d:=s.trans I;have k:=d _ _ h.at_;have sf:∀{x:Addr},¬KR y x->KP M Z A kl x:=λO=>(n.same s).sf (s _ _ h.at_) O;have N:=(n.same d).bsame h.n0;show{{h with at_:=ae,n0:=zZ,his:=(h.his.kp (.of d)).kp (.lst k),pg:=λv m=>?_},(n.same d).based.put k h.nf h.n1 h.n2 h.n3 zZ,N};rcases List.mem_append.mp m with m|m
 ·show(h.pg v m).same N
 ·rw[List.mem_singleton.mp m];show{b,r,Z.ds.length,(),aY.of (lS S (sf λz=>z.1 (J.free R))),e_ _,?_};rw[h.now,List.take_length];show Q.same λx o e=>lS (L _ _ (pQ e).2) (sf (pQ e).1)
end
inductive JL(P:O7)(w:World)(K:O2)(a:fJ)(ns:Pc)(A:yc)(sc h gl tl kl:Addr)(gs:O8)(ts:Pc)(p:Nat)(sa n:Int)(i:Nat)(σ:St)(H':Hp):Prop|mk(Hb:Hp)(M:be)(Z:ZS)(Ms:Nat->be)(ps:List V)(v7 v8 v9 v10:Option V)(L:on P w K a Hb H' ns M Z A i (iE M) (jg M))(e:Z.G .hh=h)(S:AT K Hb H' M Z A kl Ms gs p sa ps)(B:Ni K Hb sc gl tl ns gs ts)(l:ps.length<=i)(s:σ=[some (.ref sc),some (.ref A.pl),some (.ref h),some (.ref gl),some (.int n),some (.ref tl),some (.ref kl),v7,v8,v9,v10]):JL P w K a ns A sc h gl tl kl gs ts p sa n i σ H'
def Cz(a:Pc):(a.map V.int).all mf=true:=by rw[C2];intro x b;obtain⟨z,_,rfl⟩:=ji.mp b;rfl
inductive JK(P:O7)(w:World)(K:O2)(a:fJ)(ns:Pc)(A:yc)(sc h gl tl kl:Addr)(gs:O8)(ts:Pc)(p:Nat)(sa n:Int)(v8 v9 v10:Option V)(i:Nat)(σ:St)(H':Hp):Prop|mk(Hb:Hp)(M:be)(Z:ZS)(Ms:Nat->be)(ps:List V)(L:on P w K a Hb H' ns M Z A i (iE M) (jg M))(e:Z.G .hh=h)(S:AT K Hb H' M Z A kl Ms gs p sa ps)(B:Ni K Hb sc gl tl ns gs ts)(l:ps.length<=i+1)(s:σ=[some (.ref sc),some (.ref A.pl),some (.ref h),some (.ref gl),some (.int n),some (.ref tl),some (.ref kl),some (.int (i:Nat)),v8,v9,v10]):JK P w K a ns A sc h gl tl kl gs ts p sa n v8 v9 v10 i σ H'
inductive JE(H:Hp)(f:Option V->Option V->St)(i:Nat)(σ:St)(H':Hp):Prop|mk(v w:Option V)(s:am H H')(e:σ=f v w):JE H f i σ H'
inductive JGu(K:O2)(H:Hp)(gl:Addr)(j:Nat)(acc:List V)(H':Hp):Prop|mk(gs:O8)(s:am H H')(at_:H' gl=some (.lst acc))(e:acc=gs.map V.str)(n:gs.length=j)(g:∀g∈gs,w6 g):JGu K H gl j acc H'
inductive JTn(H:Hp)(tl:Addr)(j:Nat)(acc:List V)(H':Hp):Prop|mk(ts:Pc)(s:am H H')(at_:H' tl=some (.lst acc))(e:acc=ts.map V.int)(n:ts.length=j):JTn H tl j acc H'
section
def JF(T:Txt K mg a)(hw:w.params=a.pm):aP P w K mg base cP 17 a.law.x a.law.d ["_law_script"] (Dn K):=by
 show T.law.ok iZ λe0 A outer s H vs Q E I h=>?_
 ·obtain⟨sc,ns,rfl,hS,hl,q⟩:=h;show{_,(ag (bp 1 iZ.nd (pc T.w4 (D7 T) I (ac (Y 0) O))) (ag (bp 2 iZ.nd (pq T.y8 ((lr (P:=P) (w:=w) T).mono (by decide)) I () T.Bm T.dC.b .nil aQ (ac (iR K (Y 1) af) (ac (iR K (Y 1) af) O)))) (ag (Ff 3 zL [] [7] [7] (ai A4) (b0 7) (dq () T.eO (ac af O)) (λcl C s₀ H₀ ex=>{(lB zL [] 7),bQ,(pc T.oo (wq T) I (ac (Y 7) (ac (pc T.eK (cS T) I (ac (Y 0) (ac af (ac af O)))) O)))}) iZ.nd) (ag (ua (i:=4) iZ.nd () (.inr ()) (aB (qM ()) (by rfl) T.Ef L2.uR (ac (aA bU (aB (aI K ()) (by rfl) T.bE L2.aL (ac (Y 0) O)) af) (ac af O)))) (ag (Ff 5 zL ["_law_j"] [] [11] (ai A4) (b0 11) (dq () T.eO (ac af O)) (λcl C s₀ H₀ ex=>{(lB zL ["_law_j"] 11),bQ,(aA aW (pc T.eK (cS T) I (ac (Y 0) (ac (Y 11) (ac af O)))) (Y 4))}) iZ.nd) (ag (bp 6 iZ.nd (bj O)) (ag (dN mo () (dq () T.eO (ac (Y 4) O)) (qo 7 iZ.nd) (ag (aN (aD (nQ K ()) (Y 7) (Y 5) (by with_unfolding_all rfl)) (ah (aM (fF K () PySem.F.plainAttrs_list PySem.F.slot_list_append PySem.F.type_list_append cF (Y 6) (ac (bx (ac (aB (aI K ()) (by rfl) T.bE L2.aL (ac (eB (Y 2) T.ao T.de.m ((jH (P:=P) (w:=w) T).mono (by decide)) I T.de.b .nil aQ) O)) (ac (pc T.u0 (yY T) I (ac (Y 2) (ac (Y 3) O))) O))) O)))) aE) (ah (aM (pc T.wZ (D6 T hw) I (ac (Y 2) (ac (pc T.w5 (D8 T) I (ac (Y 0) (ac (Y 1) (ac (Y 7) O)))) O))))))) (ag (bp 8 iZ.nd (eB (Y 2) T.ao T.de.m ((jH (P:=P) (w:=w) T).mono (by decide)) I T.de.b .nil aQ)) (ag (dN mo () (cL K () (Y 6)) (ft K () () (bh (qo 9 iZ.nd) (bh (qo 10 iZ.nd) fq))) (ah (aN (aD (Jz K () (M0 I)) (pc T.u0 (yY T) I (ac (pc T.kx (yV T hw) I (ac (iR K (Y 1) af) (ac (iR K (Y 1) af) (ac (fM (oA K ()) (Y 8) ix (iw (Y 9))) O)))) (ac (Y 3) O))) (Y 10) (aG _)) (ah (ay iB)) aE))) (ah (ay iB))))))))))),?_}
  show lA λu1 u=>?_;show U () {sc,ns,(),hS,hl,λA p sa H1 s1 e1 ef ei hP pr cc=>au (sr ?_)};subst u;show lA λu1 u=>?_;have hp:=pr.le;show U () (rX (aS.of hP.pl) (aq (k:=0) ()) (U () (rX (aS.of hP.pl) (aq (k:=1) ()) (λh dx hh ej e2=>?_))));have f2:am H1 (aH (aH H1 dx (.own h)) h (.ins a.bo dx [])):=λb o e=>by rw[ak (az e hh),ak (az e ej)];show e
  have bi:aH (aH H1 dx (.own h)) h (.ins a.bo dx []) h=some (.ins a.bo dx []):=ae;generalize aH (aH H1 dx (.own h)) h (.ins a.bo dx [])=H2 at f2 bi⊢;show{h,dx,(p:Int),sa,(),bi,{by lia,by lia},pr.pr,cc,λln tn ci dl H3 c0 W c1 c2 c3 c4 da f3 dc a8 a9 ba bb=>{(),au (sr ?_)}};subst u;obtain⟨Z0,rfl,hZ,di,s3,hf⟩:=L5 (P:=P) (w:=w) (K:=K) hp hh f2 c0 W c1 c2 c3 c4 da f3 dc a8 a9 ba bb;obtain⟨ut,bl,_⟩:=hP.T;have X:∀b o,H1 b=some o->¬ib (pM p sa) Z0 b:=λb o e z=>cX e (hf b z);have a2:on P w K a H H3 ns (pM p sa) Z0 A 0 [] []:={hZ,hP.same s3,{λi l hl=>(nomatch hl),λj t ht=>(nomatch ht),ku _,pr},X _ _ hP.pl,X _ _ hP.L,X _ _ bl,λb o e=>{s3 _ _ (s1 _ _ e),X _ _ (s1 _ _ e),az e ef,az e ei}};clear c0 W c1 c2 c3 c4 da f3 dc a8 a9 ba bb f2 bi X;have aa:=s1.trans s3;show lA λu1 u=>?_;show U () {by lia,by lia,λgl a3=>?_};show d6 (K:=K) (lo:=0) (n:=7) (JGu K H3 gl) {[],aj (am.refl _) a3,ae,(),(),λx hx=>nomatch hx} ?_ ?_
  ·rintro j bt H4 hj⟨gs,s4,ek,rfl,dK,a5⟩;show au (iG (bI ?_));show U () (U () {sc,ns,4,6,(),(aa.trans s4).seq hS,hl,{by decide,by decide},{by decide,by decide},0+(j:Int),cT ns 4 6,(),λg H5 S hg=>?_});show{S _ _ ek,by rw[b_,g8];omega,lf hj {gs++[g],bv (s4.trans S) a3,ae,by rw[gV];rfl,by rw[hQ,dK];rfl,λx hx=>?_}};rcases List.mem_append.mp hx with z|z
   ·show a5 x z
   ·rw[List.mem_singleton.mp z];show hg
  rintro bt H4⟨gs,s4,ad,rfl,dK,a5⟩;show au (sr ?_);subst u;obtain⟨n,en,n0,n1⟩:∃n:Int,n=(if(63:Int)<(ns.length:Int)+5 then 63 else(ns.length:Int)+5)/\0<n/\n<=63:={_,(),by split<;>omega,by split<;>omega};show U () {_,ns.length,(),.inl {_,(aa.trans s4).seq hS,by simp},_,U () {(),_,U () ?_}};rw[<-en];show au (sr ?_);show lA λu1 u=>?_;show U () {by omega,by omega,λtl a6=>?_};show d6 (K:=K) (lo:=0) (n:=4) (JTn H4 tl) {[],aj (am.refl _) a6,ae,(),()} ?_ ?_
  ·rintro j bt H5 hj⟨ts,S,el,rfl,W⟩;show au (iG (bI ?_));show U () (U () {sc,ns,0+(j:Int),80,(),((aa.trans s4).trans S).seq hS,hl,{by omega,by omega},{by decide,by decide},?_});show U () (r2 {n0,el,by rw[b_,g8];omega,lf hj {ts++[cT ns (0+(j:Int)) 80%n],bv S a6,ae,by rw[gV];rfl,by rw[hQ,W];rfl}})
  rintro bt H5⟨ts,S,al,rfl,W⟩;show au (sr ?_);subst u;show{ls (),λV f=>au (sr ?_)};show gS f λH6 s6 e6=>?_;have an:=a2.same (s4.trans S);have bz:=an.same s6;have nk:=an.z.g.foot f;have kH:H V=none:=(aa.trans (s4.trans S)).free f;have bO:Ni K (FI H6 (pM p sa) Z0 A V) sc gl tl ns gs ts:={(bz.bsame kH).seq hS,lS (s6 _ _ (S _ _ ad)) (a2.sfn a3 (az (S _ _ ad) f)),lS (s6 _ _ al) ((a2.same s4).sfn a6 (az al f))};have b8:AT K (FI H6 (pM p sa) Z0 A V) H6 (pM p sa) Z0 A V (λ_=>pM p sa) gs p sa []:={e6,nk,λz=>cX an.pl.pl (z▸f),λz=>cX an.pl.L (z▸f),λz=>cX ((s3.trans (s4.trans S)) _ _ bl) (z▸f),zZ,{(),λk v hv=>by rw[di]at hv;cases hv},(),(),(),λv hv=>(nomatch hv)};have c:=bz.based (kl:=V);clear a2 an bz nk kH ad al s6 e6 f S a6 s4 a3 bl hP hZ di hf s3 aa;generalize eh:Z0.G .hh=h0;show Fe (JL P w K a ns A sc h0 gl tl V gs ts p sa n n.toNat) ?A9 (λN _ _ _ hN=>?B9)
  case B9=>
   show U () {n,(),by omega,by omega,?_};show uI (lo:=0) (n:=n.toNat) (JL P w K a ns A sc h0 gl tl V gs ts p sa n) {_,_,Z0,_,_,_,_,_,_,c,eh,b8,bO,e_ _,()} ?_ hN;clear c b8 bO eh;rintro i σ H7 hi⟨Hb,M,Z,Ms,ps,v7,v8,v9,dT,c,rfl,D,J,y,rfl⟩N R B hN;rw[show(0:Int)+(i:Int)=((i:Nat):Int)by lia];show au ?_;show Fe (JK P w K a ns A sc (Z.G .hh) gl tl V gs ts p sa n v8 v9 dT i) ?A8 (λN _ _ _ hN=>?B8)
   case B8=>
    show U () (U () {tl,U () {.inl (aS.of (c.bs _ _ J.tl).1),(),Cz ts,U () (uD (λ_=>?_) (λ_=>?_))}})
    ·show U () {.inl {(),_,aS.of D.at_},?_};show iN c.z.g.house () () {M,Z,i,(),c.z,λr1 H8 s8 n8 e8=>?_};show{_,U () {.inl {_,aS.of e8,()},?_}};show U () (U () {M,Z,i,gl,gs,(),c.z.same s8,by omega,D.his.refs,aS.of (s8 _ _ (c.bs _ _ J.gl).1),by omega,a5,λr2 H9 s9 n9 d9=>?_});show{ls (),λb hb=>?_};show gS hb λeo ap a7=>?_;obtain⟨er,ev,sb⟩:=D.put c s8 s9 d9 ap hb a7;show rA ((s8.trans (s9.trans ap)) _ _ D.at_) (by rw[g8];omega) (hN _ _ {_,M,Z,Ms,_,ev,(),er,{sb.seq J.sq,sb _ _ J.gl,sb _ _ J.tl},by rw[hQ];show y2 y,()})
    ·show hN _ _ {Hb,M,Z,Ms,ps,c,(),D,J,sD y,()}
   case A8=>
   clear c D J y;generalize eh:Z.G .hh=h0;rintro σ H7⟨Hb,M,Z,Ms,ps,c,rfl,D,J,y,rfl⟩;show U () (U () (U () (U () {sc,ns,M,A,i,(i:Int),(),c.dr J.sq hl,{by omega,by omega},λdv d xs H8 ch hT hD ew dV e3=>?_})));have as:=c.chg ch ew;have d1:=D.chg ch;show{M,Z,i,dv,d,xs,(),as.z,by omega,hT,hD,λhc r M' Z' H9 nx st ey ez=>?_,λha z H9 s9=>?_}
   ·obtain⟨_,ep,es,_⟩:=nx.nx as.pn dV;show hN _ _ {Hb,M',Z',_,ps,_,_,_,_,as.fin nx st ey dV,st.hh.trans eh.symm,d1.stp as.z.g st hT hD hc nx ep es ez,J,y,by rw[eh]}
   ·show hN _ _ {Hb,M,Z,Ms,ps,_,_,_,_,as.not ha s9,eh.symm,d1.same s9,J,y,by rw[eh]}
  case A9=>
  clear c b8 bO eh;rintro σ H7⟨Hb,M,Z,Ms,ps,v7,v8,v9,dT,c,rfl,D,J,y,rfl⟩;show iN c.z.g.house () () {M,Z,n.toNat,(),c.z,λr H8 s8 n8 e8=>au (sr ?_)};have d4:=s8 _ _ c.pl.pl;have d5:=s8 _ _ D.at_;have eN:=c.z.ds;have sb:am Hb H8:=λb o e=>s8 _ _ (c.bs b o e).1;have hH:=D.his.kp (.of s8);rw[D.ep,D.es]at d4;show U () {V,(),{_,aS.of d5},?_};show pP (K:=K) (a:=V) (xs:=ps) (JE H8 λv w=>[some (.ref sc),some (.ref A.pl),some (.ref (Z.G .hh)),some (.ref gl),some (.int n),some (.ref tl),some (.ref V),v7,some (.ref r),v,w]) {_,_,am.refl _,()} (λi σ H' _ h=>by obtain⟨_,_,s,_⟩:=h;show aS.of (s _ _ d5)) ?_ ?_
  ·rintro k x σ H9 hx⟨w9,e4,s9,rfl⟩;obtain⟨b,r2,m,rfl,hb,hm,hd⟩:=D.pg x (f_ hx);have b9:=sb.trans s9;show{b,U () {am.tseq b9 hb,(),_,U () (au {_,U () (au {(),?_})})}};have bc:=s9 _ _ d4;show U () (rX (aS.of bc) (aq (k:=0) ()) (U () (rX (aS.of bc) (aq (k:=1) ()) ?_)));show U () (U () (U () {r,U () {aS.of (s9 _ _ e8),λr3 n3=>?_}}));show gS n3 λeo ap a7=>?_;rw[xM _ (Int.natCast_nonneg m),ot]at a7;have tl:(Z.ds.take m).length=m:=by rw[k4];omega
   have hT:=(hH.kp (.of (s9.trans ap))).take m;have ea:=hT.refs;show{p,sa,r3,Z.ds.take m,Ms,(),pr,cc,by omega,aS.of a7,hT,λZ2 e5 eG eb ed=>?_};rw[tl]at eb;rw[<-ed]at ea hd;have ax:=ap.trans eG;show U () {Ms m,Z2,m,gl,gs,(),eb,by omega,ea,aS.of ((b9.trans ax) _ _ J.gl),by omega,a5,λr4 e7 ec e9 eH=>?_};show U () {_,3,(show 3<=16 by decide),eH.same Mc,hd.same (b9.trans (ax.trans ec)),U () (cu {_,_,s9.trans (ax.trans ec),()})}
  ·rintro σ H9 _;show q H9
end
end My
end
structure PySem.W.Fast:Prop where(tw6289759165283243622 tw2786549621281703472 tw17994697338091184229 tw17403699392951358183 tw14592567134098737112 tw6396757421515489442 tw9182059469780712310 tw17907574395990437077 tw11908713063341634253 tw13241625384514271275 tw1650323809782242468 tw3304163790649189003 tw11558834757790063587 tw6517957601025458335 tw586423778553403648 tw18430461571383174287 tw7026094577267937176 tw6892120044836323945 tw1825607959550910827 tw9973993166783725761 tw14240806735181087280 tw17889063877913387586 tw8720700719369246051 tw14837525008729244173 tw8838712202729401087 tw10693072794886426811 tw10576470421303572256 tw1222233572638619140 tw17628592987186428072 tw5206941966338555391 tw11678365545159305869 tw10546602500519930122 tw8409217852603878235 tw6233404200018049881 tw7580654731193575627 tw16900256389385531610 tw12644514468285371310 tw4420469249026387406 tw8023218700039990971 tw4282876443607201380 tw18179875114150913752 tw13783941987342776190 tw8714558451072593879 tw6870874260033073980 tw12178582156601945964 tw113026835927536339 tw14702597833589638451 tw15671669906409419606 tw8606643369520277604 tw15457506835426544325 tw320883621676328124 tw5950462080721854993 tw6426024502826294052 tw4954782582940612125 tw8456945071048576416 tw6193388756332127248 tw13547829159868627009 tw14316192684454919865 tw4336251000193010142 tw7306533844528518635 tw6857423835684000183 tw13050336477130494574 tw16801417389357482227 tw8000077260552425809 tw12471700227946165443 tw16071501951112035013 tw6259115814442402968 tw3683927125871576682 tw589900492561189970 tw14893269364939618285 tw15826973879289317636 tw2006535535335213348 tw2806093801611745477 tw15942594986784745679 tw16770206774463533394 tw7541224646317243912 tw5139436766400330887 tw9559929802392413243 tw15040795143199894444 tw13551876920322463411 tw6233790276219796143 tw15037786538884102588 tw4845481196021577342 tw5182756543871554902 tw13637619922123462639 tw317863344589734027 tw1825313076312267936 tw6891960529249667108 tw16113395327681897852 tw1055230095083699787 tw3710295253431331289 tw664266949995183870 tw951849118708833342 tw11081498788294027357 tw1763101112192843556 tw8073717337597539299 tw7065240290680932906 tw8872919474035962932 tw243356916864369017 tw2568140603601903705 tw195525213622322131 tw14658788121209643179 tw13082835984672289859 tw3702616347283939171 tw9399932734339733971 tw6274169316346060189 tw13635943364966050808 tw7120718650498177022 tw3819952257170332930 tw6532792691645709564 tw4394870319835533852 tw254367730634854325 tw14405727159732973184 tw11088164493558094370 tw14900117314084366323 tw14262852950779537500 tw11477096123461916984 tw12999937967586542233 tw11475624417712210428 tw4919514950213009776 tw13322729626665546154 tw680866637190277844 tw626845708054536395 tw14542282053763228803 tw8848261049545318087 tw2175443146498233872 tw16380191907034188775 tw11361898977750444882 tw16745423377259934822 tw6014329896346294540 tw2176949243612069484 tw18402104314426680466 tw8749455556557609410 tw13650052724419461776 tw1270559086030374693 tw1050716929961067411 tw12326907283900002567 tw17677248793809276414 tw12454848549521242884 tw10491463903188580029 tw4999473010180640290 tw10613013607171969908 tw892663147916669812 tw1669425633154840247 tw14304190032704613456 tw8490644603574841716 tw16883347161853874926 tw15898205029963060467 tw919035919129189617 tw8222007119955762262 tw13937617164567472835 tw3732040086834725917 tw12134346396949770259 tw5189644330847083866 tw14931190770557042301 tw7570346473868278406 tw1453150476870964461 tw7479925695617194172 tw1003778348214802508 tw5165275952661919157 tw11176621936302026500 tw17000525551661767815 tw17095878069986116953 tw3771638616402479682 tw9780836850920016185 tw10777177548885294919 tw17634193567415401837 tw17230932159819098710 tw7038430728045466618 tw7540506651119151968 tw6642875465910510674 tw8566399632265224786 tw1325869276368572523 tw8125094161082853081 tw15751959731110729477 tw293399087923389725 tw3026581514790876123 tw16378473496145348592 tw4569743503426385522 tw5272054117314045955 tw15421684006070512751 tw1491766097371238637 tw17085352401346619910 tw16927897400448275482 tw9852380197672346684 tw18161725620207034836 tw1057596128201751358 tw5384444453325102164 tw7082921414246411757 tw16759845038605001995 tw2984217068654289677 tw5939141999399478880 tw4248531279751938000 tw10046103687521925636 tw11656322762963980943 tw457612880316662556 tw10845225440512475857 tw9647813129120985215 tw9408003404139913689 tw8038010580793932979 tw317099064626286110 tw13444480183575308940 tw1098070088036100192 tw16916368453742655562 tw3629676071400400875 tw15986842255961346341 tw3048769339585432963 tw15477085660755049642 tw12006876339875403570 tw12916363134318334488 tw14743831634819685940 tw15571095332868581904 tw4363987418030420306 tw12998072515326330211 tw6942588706234598 tw13150969089983561463 tw4782074939375353246 tw6756520318388791781 tw16827554217079814514 tw7354807941779933418 tw12822567073676654219 tw2036962783639345203 tw15694985130981425274 tw6958392589262988234 tw3599915635144088884 tw2324211542939314483 tw16136742514745423055 tw4328623303349674375 tw11514261736604614982 tw487257457330933570 tw9104213807626000224 tw16602447990021889538 tw3856421982249086543 tw454640453003424706 tw12256887945411994945 tw1142885143141818157 tw17776054959862475956 tw349694689592676463 tw11611101223182783045 tw14307885035633255108 tw10364201961529927883 tw14566770971112394708 tw12631640573913776056 tw18166229326583894946 tw10059574419151358905 tw7485338134330074058 tw12073880749787318448 tw15798027151123018831 tw8005110414045809731 tw10105877188102425490 tw6326796527408845135 tw17743190587465174686 tw16572826246926887683 tw6017428400729748019 tw3997689916863348419 tw13647140014231501483 tw338991885103007897 tw3629147538744915669 tw18336317989724659217 tw14446857711403052350 tw10687745371734150345 tw320078274757589478 tw10879841431351406792 tw3905627326389449574 tw8199769314125454955 tw4426361642830283483 tw687018845487908614 tw13658175997845094229 tw6376037999803389927 tw18293402427643893168 tw10651029245560167837 tw16398059443571355676 tw6974485730833824806 tw11865608790793328077 tw3909855605506262071 tw6153644934706268092 tw2694484574773647091 tw17365894201048651344 tw5777770791596560053 tw17111714578512989492 tw10950215529405556270 tw3365641256159161068 tw2642943131593064548 tw5038843680212377781 tw2050908967843182533 tw2802007095403930062 tw17855164518411306469 tw14733746054224605920 tw6152321102146906159 tw10696740153595212155 tw6466452175180138181 tw8640296109661135593 tw5556162394369682402 tw1222727488613691198 tw15635143227919967580 tw14944589472339654916 tw5538683123174873208 tw2820226140393899013 tw18436846503605896592 tw11498536659980882009 tw15659005466567331845 tw9650679828101690478 tw3257427726311063143 tw8722084935493880756 tw4920631579806662174 tw12209854409698068159 tw4773422909153616333 tw12931129803797726736 tw4943435327562182509 tw17083189629247066797 tw5104334316368597241 tw9872685290242336784 tw13846590225744427012 tw5928052510267530478 tw7803319128209438175 tw8488751667374696343 tw10924205845437830559 tw5159850568056519878 tw4034526405699955480 tw11119940532992765219 tw47502733129579894 tw8209744670469893309 tw12687815566586152960 tw11657008721405302420 tw3843327817660612711 tw7422252487470747843 tw14618944530846853519 tw4958207583143509625 tw15082069690975670437 tw17188874974338371716 tw2188312213906502350 tw18173459997633701018 tw16698132997227302747 tw11961198862141107997 tw6991019978157197722 tw5188032495697936525 tw17301349137043852415 tw1827823462282112314 tw10998807120036517184 tw16853868388035101546 tw10446103586706044242 tw13679933753094650291 tw43924265524559122 tw3461537390374589036 tw4602933107056180083 tw6576564752244253100 tw14724681054865229285 tw8300255497905844163 tw6909317850731741959 tw17593482107281979517 tw10505072191272400222 tw11504902887551001247 tw3049283547184707251 tw18416354099783013948 tw12729846882276841870 tw9849838424081254721 tw5192083284491602992 tw1420396515800577479 tw286168108161748131 tw7729108501105342769 tw3421853852687984245 tw9833606611580701859 tw2839349219643558422 tw10239002707521664912 tw6242197381808860419 tw7767007641728652745 tw1476886188468922581 tw12923930243558941145 tw16145259996541608213 tw16912626412618097893 tw15868817385883442421 tw11526666434834585184 tw4034304093025300588 tw12142962614359582501 tw17756069772686229436 tw6157445670422204726 tw2775576298378045571 tw17128428399024647797 tw7015254277314950626 tw8597054232954480965 tw15740013515155644402 tw14592714841493465712 tw8961307215020227865 tw5821212190486661641 tw1201456156459680929 tw16250390672321800495 tw14264958462939040970 tw3426107298779815878 tw11496575357945099342 tw5531322731995808989 tw16538856473672151025 tw6168218372619749178 tw955409324618491449 tw7912330474805888943 tw13907549200471921402 tw18389502255122919038 tw15721108081593123506 tw3161225473374354499 tw5293940890994019539 tw10340775931810045702 tw671815904399471948 tw3975071710575250400 tw17508958221064567288 tw1240091251167341310 tw7426978375311627629 tw11231199836314859511 tw10108741950206227573 tw4215301492620060762 tw14801330460977463918 tw17240758366850046490 tw16854487220634475557 tw1749524863527735143 tw17544856927915428695 tw12902649739093718956 tw631491532240801034 tw195678050938304895 tw14366382535094647362 tw5301915446147468144 tw9973631430066806560 tw11786603401089691043 tw15826626234854524611 tw17825092141910462461 tw8717694592073047616 tw14987477281476324440 tw5623803728637239414 tw7592820452475508573 tw4041984459812650414 tw16383998653728721171 tw7286802260460207533 tw559385808335210228 tw3309311537664525127 tw5069022345548632785 tw17885281607876697400 tw2587014667255054807 tw13973469813955317952 tw1079603448212189831 tw712210796908467370 tw9152683092115156486 tw417972241574699728 tw3374559705787907537 tw9133936661469277756 tw8332556923522964898 tw3509282297849431554 tw7977316148134921285 tw14426727427723676283 tw17611666435788457755 tw155617436969191468 tw6015591608794935291 tw2626066393639000870 tw11137205191303601727 tw2028463273314369869 tw5074961555371820728 tw17367628079103678022 tw4175661208272654776 tw5431452118239114047 tw3049979727337386696 tw3682017646603288461 tw8592799002389517003 tw175068143424131713 tw10577685861969719081 tw15291967207924372065 tw13836873506862900832 tw9311919245761361694 tw8198561669787514816 tw10986888360779673511 tw2791488708912304430 tw12496056261807333770 tw1243739376949708194 tw16585497665011831636 tw9195955423453929051 tw12621644147171704757 tw16056316009913780772 tw1501536241459564110 tw14293769669847205072 tw10582143226386563754 tw9993297527404561453 tw3192929557343550109 tw5215784810313325227 tw3347858132437489153 tw1429569120403835789 tw3323157973775954546 tw2838441269873581002 tw8904067546884296613 tw9691814571119793742 tw18148489669736162673 tw10777220133408217914 tw16348915105955052624 tw15928063182577885400 tw15706528824621445552 tw6256649833156947354 tw12784057915479673809 tw6148964217731353956 tw3923988744022730062 tw3026758896586847370 tw3895786841425591374 tw7907459111452665831 tw1323594308416012155 tw7138616325269546770 tw9029762630171328295 tw975653746464397102 tw7285015316173937365 tw14236054822687548785 tw8388409676730536356 tw3014743909048496309 tw13956036119738199487 tw15706774485381334205 tw14817047984134360153 tw14714123332845517368 tw1737267760704901236 tw3153548148680752134 tw6180331161388673679 tw10858032224507408618 tw14993489334307722494 tw9614148628192522252 tw4792427618817216786 tw3705173497561981591 tw16321183863078021333 tw11766857471803215579 tw14232308125163963448 tw8411880025752928910 tw4090605617729276455 tw8174191963001182958 tw14824711301576330791 tw17789038201509493216 tw7152895702351147063 tw3647296779785572620 tw10628824969659717629 tw2917364547938501645 tw9971982633635703656 tw14095985535505274560 tw9545127254595578947 tw11388695677222389667 tw8834363158420829092 tw11963331590804455852 tw14636204611044184566 tw1731989971475654189 tw855000070621997769 tw13312910018473936842 tw2856151957725917745 tw3959719016570089484 tw17113866288729170856 tw3065501702429322203 tw17287828581798352386 tw8334754761833860002 tw8503516204273745336 tw12582902168742098218 tw520377759182122052 tw15354842498387030049 tw4635091160982608931 tw14731516803479707779 tw15762123466904270159 tw4366571233490535255 tw13403139383379697586 tw14896010867795322105 tw4185036470658411622 tw13122351551143405506 tw2626717632528896018 tw1398743945814119624 tw1935729959505386194 tw32569867825447936 tw3339824743357904106 tw7818393541610558516 tw16666498427553116489 tw13751473563446698853 tw17742733364990158399 tw2955358949298380910 tw4512107703032278439 tw10125228575260897627 tw12769658520838397598 tw2532647824975540179 tw2407191489841445475 tw15320868959865426438 tw16075682807231295753 tw1799018451107495765 tw14839378872849415865 tw12532837129995199531 tw12736347832925931511 tw13182060626522090324 tw18417579070634462550 tw14014851790154947298 tw3799074480545703389 tw7814274102474395738 tw11065095237102626432 tw2061275019575302899 tw11168152308610711727 tw9173794258770144043 tw3946126463292354835 tw6822793551391048051 tw18360943653119162952 tw11922892952685893553 tw9804683610836889039 tw4470707121890417318 tw2105251467995585863 tw1646526033776336890 tw6403772546633738738 tw8364367653059785445 tw8224191042279187521 tw15748325036253335863 tw13180302781151234656 tw15944941322306245415 tw3637104486746449477 tw1984914839360482646 tw15519428669215044546 tw8953579761394691755 tw3174021421339874971 tw8528613020692741515 tw3376904666384510474 tw17852277549028321756 tw12672936087791678104 tw13109222192988913757 tw11971695777500327813 tw10011808195989588126 tw12435505509507005051 tw5180982468191099832 tw14314386071598662643 tw313269748083170373 tw17730315091126960592 tw11607420507903251305 tw6474633640087278055 tw3755066137506239979 tw11375082547159127877 tw9419185229219687245 tw15224726723303849875 tw14064871001759813946 tw15674989201852218165 tw11123414497854421616 tw8373134850980800688 tw15534692927179946547 tw3353461516120460451 tw13837229313843007275 tw7398901663643636135 tw3202047421887089712 tw16455533532164739066 tw17334998889979079338 tw3753716144986212852 tw11670921651298509516 tw3475379885695526003 tw12313622083106312784 tw10829134139483981390 tw12590747921655342743 tw306269708308660677 tw417192071537253104 tw2270971125842072133 tw6486663499989558448 tw15488889376278219135 tw4009360781654510644 tw5151157838843898415 tw18214652073231646508 tw17213952608325254173 tw13776530563486999683 tw16403182563626616705 tw7391308084428016305 tw15822718631910178283 tw9028310692817803216 tw18197332507910152475 tw8871572671272707135 tw6338255942530002210 tw2314218228963019916 tw16601681501893411061 tw2255591774515343299 tw13701962699929255422 tw17875508999695393295 tw13471238198336748673 tw5275356733256189406 tw12401469455106600330 tw14473331600019085467 tw8246513501458973682 tw2911578681865012443 tw10939343247607898838 tw9971876616942568927 tw6084112874233187748 tw11711895236213052036 tw532108695400128533 tw2202908545174064822 tw13301424608012439593 tw16955979546563581635 tw11050058315379896091 tw10812342176205682033 tw9939162699592135267 tw13125822061168776538 tw15199552489388277767 tw17340405559653299018 tw11305256890002983067 tw17860384033306092823 tw15092987031745171858 tw1598445555496617984 tw14892556252648144375 tw15100438070570477220 tw7111878862238124720 tw9194878955468738981 tw9902818100857832109 tw4340436664227682872 tw8306735474838682148 tw14966623083777775581 tw8529466451334506456 tw12826047285873562454 tw6692906167058430644 tw17377566296152782827 tw15815858878652889131 tw11634386582076059097 tw3680219334208190137 tw5707709663580308929 tw16508549841933004333 tw17123579024026493859 tw17062997302445820806 tw1753704555951988488 tw2388989320771634798 tw4708641044573875389 tw7132721015882665969 tw6830911933192824235 tw1918167158716787831 tw10937977803553771042 tw15002833552853430716 tw11441054394347349838 tw4579603789812402120 tw5768806218417853182 tw2232131729595114866 tw18093238161889363535 tw8334582319614016479 tw5182783848643892414 tw15685219748470898567 tw15248543683058163176 tw1650426794034266564 tw17421901940938733744 tw14679830001322384947 tw16985576812363906621 tw4871968149498866366 tw4351726827463635976 tw5043636697423005888 tw2485752985073550647 tw7790590838854520408 tw10787585816074795707 tw8149361550868527392 tw17410765526595876283 tw7912630583564007308 tw653419770391225 tw13033730369615475296 tw7250758587719892958 tw8585191185578768557 tw9251252713568042469 tw486511678493537595 tw11184291161485124308 tw15993496842770452945 tw11705955539882310898 tw10920501233765806575 tw8446549182854894877 tw5652647744554341386 tw14157324999668054649 tw2739276789727206142 tw2295994638976713508 tw12123284019038251634 tw475407621236686813 tw16184083778983446792 tw17142963670261525465 tw16214177354149930735 tw9752852863744510434 tw3286339300803773372 tw2464390333095174205 tw11231516302224711460 tw12384580107175434225 tw2599007435060807950 tw10788926601594993192 tw10817172026250428209 tw6912262510371270629 tw3128914726960358236 tw17725322938936655792 tw1750233949574705993 tw17479598569024848164 tw17949880528340951492 tw5779579885658623263 tw14808749036957106899 tw9641952207204258500 tw13618675313418597254 tw15000113886687539653 tw2872362701544921839 tw8255306511834080225 tw14422234147986306192 tw8056211165703320923 tw13517674154449829516 tw908452648084734353 tw2741774326768970432 tw14115011249572870838 tw12191520804324896604 tw15278152041120023946 tw6635212102240297655 tw3140684826921444945 tw10617647026721268929 tw1544392635302711615 tw8229614970258676483 tw18299396895705193012 tw7089005792368414657 tw13537002218600648909 tw15340478249877058908 tw16303763806257992499 tw7673693834438563322 tw170386922158284471 tw8059410784385251764 tw2912579086460932376 tw11323875106537774277 tw16590359691274687688 tw3625478383698143149 tw6535181964334404700 tw9096154248749297512 tw12599990528114552994 tw11955271588084382218 tw8957205794949777136 tw17520621176417755811 tw10263888738873305598 tw5421270177597546276 tw14806644710376977606 tw5451005863485962288 tw3502826924741232296 tw329347520748056005 tw5092934426558518118 tw5522597795298570374 tw17554127617459599009 tw3908727277889285507 tw3227215873527261498 tw13679903694824134210 tw11206426303674388277 tw17150750389932743413 tw518060966178735162 tw8119383026360236566 tw1211656006623164414 tw17673374218281161979 tw6683471703593192713 tw10489462968705632818 tw1626583374482009267 tw4872771086509019825 tw3041640087638036418 tw6444498858308431440 tw9773992420573221649 tw17254261409655149060 tw9689347569269984769 tw17436494688886883909 tw14380887378994390576 tw17009370156896764099 tw4320904013641000244 tw4020927192165422522 tw10767499145261949791 tw1103054685026197001 tw10783906328978430168 tw4021639020945035408 tw17280409713010841406 tw1769669473988538727 tw10921840037520204993 tw13452663821525858956 tw16286069957824460879 tw2159221577047723167 tw5197734180519676080 tw13092133702701554022 tw18195814767666594567 tw17863486731013054215 tw17561015207157227411 tw8199788479275059106 tw14145598500925614279 tw11926253190679159234 tw3405218719590444005 tw3900309200761331344 tw15890193196449578405 tw8717356858992457920 tw7508061978797186620 tw6866511190075818533 tw16496095726617847402 tw13700285300075813975 tw815852543918221926 tw7818979505993943754 tw9467244746337814825 tw12186880638059649946 tw4349296118656270542 tw2755697256655971572 tw12426161349301674511 tw8288100045501104569 tw9185409681892220449 tw4162024231269047055 tw8052932477769718081 tw18395576948176706585 tw8373653917740538555 tw12086587272614881711 tw13409718280626949866 tw6239565124383280916 tw15661549801023736346 tw10181103510061829349 tw7342409390320816345 tw68807471258851266 tw12555195710114980807 tw4724545472704260976 tw10840809443060184914 tw3294030205547316807 tw7646847702933016230 tw12019228951620987296 tw279635863845476276 tw16369657678852326533 tw10552355846601766063 tw726829625587486120 tw6320905793687185494 tw17301953885818814067 tw3314531835454916388 tw12584501030959216895 tw8400906732205100042 tw16539396533225932923 tw13078527651177569566 tw13252857436854257254 tw17638662412414329792 tw13324172252406760158 tw14838754290137643192 tw15097984683374005199 tw16545786174921477764 tw8124726904825957696 tw1854780160886443893 tw10270150245102784519 tw11337813781558816166 tw13507669708796939364 tw11172624085123095260 tw11868226943732627226 tw3521237509824136296 tw1252852211811687892 tw7247466996667618967 tw12600309158389528777 tw4968846774184239817 tw846456501632776741 tw10371046789084257987 tw11493531557025969605 tw5470156706224897571 tw3023470495293987216 tw415812615995241550 tw11480723053453261469 tw3046865412090528669 tw1911323459804187954 tw7211082599796632561 tw6443223011710160590 tw9730834275549967641 tw16666150383814459885 tw13732920686019546704 tw9062062538991042649 tw4878898741026657140 tw5295205555888059142 tw13946168366257662010 tw11838681850254069762 tw12965720246353975579 tw9429741683933112467 tw6956790467181362519 tw2944320124795414551 tw18375600042323313535 tw7229220952679132424 tw18427068528653933101 tw17900678894450398658 tw12255463273621077903 tw350802873559056430 tw7368103809581266854 tw10839706159418945537 tw14577855544999689829 tw17860416171293926752 tw15634551473995472205 tw62288439742972690 tw15419998178525852168 tw6532900908140922482 tw14179851234247434624 tw6205419795410146652 tw2931053085476835275 tw9447497766019618914 tw4214745577566236834 tw5267044016953236380 tw8817136513263116013 tw6978949453941333516 tw9419806646440066053 tw2144144435156834760 tw17475822547697446009 tw9028740192246815801 tw10225101267445244659 tw6794596720029592748 tw15517308086718170418 tw17728874849104075004:True)
open PySem PySem.W PyProof.Rows
set_option maxRecDepth 100000 in
set_option maxHeartbeats 0 in
theorem PySem.Challenge.cw_layersplit_k29_a_head_of_a_book_holds : PySem.Challenge.rw_layersplit_k29_a_head_of_a_book.Holds := by
 w_on;o_law;k_head;(case hw=>w_witness2)
 k_fill
 refine L2.CV (l:=PySem.Challenge.rw_layersplit_k29_a_head_of_a_book) (n:=63) (k:=17) (x:="_law_script") (CX:=L2.cP) (sp:=My.Dn) rfl (by decide) rfl ⟨rfl,by decide,by decide⟩ (λw h Y=>PySem.W.kIn_of Y) ?F ?S ?C
 case F=>
  intro w mg fa h KX G hmg;have T:∃a:My.fJ,My.Txt (L2.KOf KX) mg a/\w.params=a.pm:=by
   dsimp only[L2.KOf]
   refine'⟨My.fJ.mk ..,?T,rfl⟩
   case T=>
   constructor
   all_goals try dsimp only
   iterate 19(exact L2.L7 KX G (by k_is))
   iterate 43(exact L2.Ig KX G (by k_is) (L2.AD (by k_is) (by k_is) (by k_is)) (by first|exact L2.b1|exact L2.b2|exact L2.b3|exact L2.b4|exact L2.b5))
   iterate 38(exact L2.LI (by k_is) (by k_is) (L2.AD (by k_is) (by k_is) (by k_is)) (by first|exact L2.b1|exact L2.b2|exact L2.b3|exact L2.b4|exact L2.b5))
   iterate 15(exact L2.Ig KX G (by k_is) (L2.AD (by k_is) (by k_is) (by k_is)) (by first|exact L2.b1|exact L2.b2|exact L2.b3|exact L2.b4|exact L2.b5))
   iterate 2(exact L2.Ln KX G (by k_is))
   iterate 12(exact L2.LW KX G (by k_is))
   iterate 2(exact⟨by k_is,by k_is,by k_is,by k_is⟩)
   iterate 3(exact L2.Bi (by k_is))
   iterate 2(exact⟨by k_is,by k_is,by k_is,by k_is⟩)
   iterate 3(exact L2.Bi (by k_is))
   iterate 2(exact⟨by k_is,by k_is,by k_is,by k_is⟩)
   iterate 7(exact L2.Bi (by k_is))
   iterate 2(exact⟨by k_is,by k_is,by k_is,by k_is⟩)
   iterate 6(exact L2.Bi (by k_is))
   iterate 13(exact L2.Ia (by k_exc))
   exact⟨by decide,_,_,by k_is,by k_keys⟩
   iterate 10(exact⟨_,by k_is⟩)
   exact L2.LS (by k_is) (by(repeat(first|exact .nil|refine .cons ⟨_,rfl⟩ ?_))) rfl;exact L2.Mg (by k_is) rfl (by decide)
   iterate 2(exact L2.KZ (L2.Ia (by k_exc)) (by k_is) rfl (by decide))
   iterate 19(exact L2.KY KX G (by k_is))
  obtain⟨a,T,hw⟩:=T;have e0:=hmg.symm.trans T.law.m;cases e0;exact⟨a.law.d,My.Cr T,λbase kb nb=>My.JF T hw⟩
 case S=>exactλK H a ns hl hO hS=>My.Cq hl hS
 case C=>exactλ_ _ _ _ z=>z
#print axioms PySem.Challenge.cw_layersplit_k29_a_head_of_a_book_holds
