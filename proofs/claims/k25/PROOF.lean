import PyProof.Rows.All
import Wide.All
import OpenK.AllK
import Wide.FinOn
import Lean
import PyProof.EqAt
import PyProof.EqKinds
import PyProof.TupleCall
import PyProof.WalksMore
import PyProof.SetScanFacts
import PyProof.Logic
import PyProof.FactsBase
import PyProof.TableTree
import PyProof.FactsTree
import PyProof.PlainAttrs
import PyProof.DictWalks
import PyProof.SetKind
import PyProof.ForAny
import PyProof.FactsAll.set_1
import PyProof.CollectWalk
import PyProof.WalkLemmas
import PyProof.FactsAll.set_2
import PyProof.Walk
import PyProof.Rows.SortStr
import KE.KRevIter
import KE.KDictList
import KE.KDictLaws
import PyProof.FString
import OpenK.KTop
import PyProof.StrLawsTight
import PyProof.Rows.StrLawsPart
import KE.KIntText
import PyProof.Rows.StrSplitJoin
import PyProof.ZipIter
import KE.IntTextLaws
import KE.KDictOf
import PyProof.AttrMissHeap
import PyProof.EnumMake
import PyProof.EnumFor
import PyProof.Draws
import PyProof.DictItems
import KE.KPairComp
import KE.KSortTup
import PyProof.Rows.SortWalk
import PyProof.RulesAs
import PyProof.RulesDel
import PyProof.ExcArgs
import PySem.Challenge.RW_layersplit_k25_questions_refused
set_option Elab.async false
set_option linter.all false
set_option maxRecDepth 100000
set_option compiler.extract_closed false
def a_:=@PySem.wpAny_bind
def b_:=@List.length_map
def c_:=@PySem.Heap.get?_push_of_some
def d_:=@List.getElem?_eq_some_iff
def e_:=@PySem.wpAny_pure
def fx:=@Nat.le_refl
def fy:=@List.getElem?_eq_getElem
def f_:=@List.mem_of_getElem?
def ge:=@PySem.Heap.get?_push_size
def gg:=@List.getElem?_map
def gV:=@List.length_append
def g6:=@List.map_append
def g8:=@if_neg
def g_:=@PySem.Heap.lt_size
def hA:=@if_pos
def hF:=@Bool.false_ne_true
def hH:=@PySem.sizeLine_eq
def hQ:=@List.size_toArray
def hY:=@List.mem_cons_of_mem
def h_:=@List.mem_iff_getElem?
def ig:=@Nat.ne_of_lt
def il:=@List.mem_cons_self
def ir:=@List.mem_map
def iA:=@List.take_of_length_le
def i_:=@decide_eq_false
def ji:=@decide_eq_true
def j1:=@Option.some.inj
def j2:=@Array.length_toList
def j_:=@Nat.zero_le
def kl:=@Nat.le_trans
def ku:=@List.length_take
def kw:=@Bool.and_eq_true
def k4:=@List.length_cons
def k_:=@List.getElem?_eq_none
def lh:=@Nat.lt_of_lt_of_le
def lm:=@List.map_cons
def l_:=@List.mem_append_right
def md:=@of_decide_eq_true
def me:=@Nat.ne_of_gt
def mu:=@PySem.wpAny_holding
def m3:=@Ne.symm
def m_:=@List.getElem?_set_ne
def nk:=@PySem.PassesOwn.never
def nB:=@PySem.Heap.size_push
def n7:=@PySem.wpAny_call_entry
def n_:=@List.not_mem_nil
def oa:=@PySem.wpAny_newObj_type
def oi:=@List.mem_range
def ol:=@List.length_range
def op:=@Int.toNat_natCast
def ot:=@Nat.lt_irrefl
def ov:=@PySem.Calls.spliced_cons
def oD:=@PySem.wpAny_callSpecial?_slot
def o0:=@List.length_eq_zero_iff
def o8:=@List.nodup_append
def o_:=@PySem.wpAny_setField_rec
def pa:=@List.mem_filter
def pu:=@PySem.wpAny_truthy_bool
def pv:=@Sum.inr.inj
def pw:=@List.find?_cons
def p_:=@Nat.succ_pos
def qc:=@PySem.Calls.callWith_builtin
def qq:=@List.replicate_succ
def qr:=@Nat.le_succ
def qx:=@PySem.Heap.get?_update_self
def q_:=@List.mem_cons
def rd:=@PySem.wpAny_ite_split
def ri:=@List.length_set
def rk:=@PySem.wpAny_Call_Name_kw
def rl:=@PySem.wpAny_field
def rm:=@Nat.lt_succ_self
def ro:=@PySem.wpAny_seqItems
def rr:=@List.getElem?_set_self
def ry:=@PySem.Heap.get?_update_other
def rV:=@PySem.Calls.spliced_nil
def r3:=@List.getElem?_append_left
def r4:=@Array.getElem?_eq_getElem
def r_:=@congrArg
def sg:=@List.take_append_drop
def si:=@List.length_filter_le
def sm:=@Array.getElem?_toList
def sD:=@List.map_map
def sT:=@PySem.Calls.evalArgs_plain
def s_:=@PySem.wpAny_loadPart_at
def to:=@List.take_add_one
def tx:=@List.ext_getElem?
def tA:=@PySem.wpAny_rule
def t0:=@List.foldl_cons
def t2:=@PySem.wpAny_isSubtype_exc
def t4:=@PyProof.Rows.callWith_type1
def t6:=@beq_self_eq_true
def t8:=@List.getD_eq_getElem?_getD
def t_:=@PySem.wpAny_dictEpoch
def u1:=@List.append_nil
def u6:=@Nat.lt_trans
def u_:=@Nat.lt_succ_of_lt
def vl:=@Nat.le_of_lt
def vr:=@List.mem_append_left
def vu:=@List.any_cons
def v1:=@beq_eq_false_iff_ne
def v3:=@PySem.Heap.SameBut.update
def v_:=@List.take_zero
def wh:=@PySem.tupleKind_room_in1
def wr:=@PySem.codeAny_mono
def w1:=@PySem.call_meetsIn
def w_:=@Int.emod_lt_of_pos
def x_:=@PySem.codeAny_builtin
def yl:=@Int.emod_nonneg
def y3:=@List.length_replicate
def y_:=@PySem.wpAny_setState_of
def z0:=@List.foldl_append
def z3:=@List.flatten_cons
def z4:=@Nat.pow_le_pow_right
def z5:=@List.nodup_iff_pairwise_ne
def z7:=@List.getElem?_append_right
def z8:=@PySem.F.slot_tuple_iterator_next
def z_:=@PySem.Around.under_plainId
def A_:=@PySem.wpAny_askSetting
def B_:=@List.getElem_mem
def C1:=@List.mem_or_eq_of_mem_set
def C2:=@List.getElem?_eq_none_iff
def C_:=@List.map_congr_left
def D1:=@PySem.wpAny_attempt
def D_:=@or_false
def Es:=@Option.isSome_iff_exists
def E1:=@Option.map_some
def E2:=@PySem.wpAny_pyIter_tuple
def E_:=@List.contains_cons
def F_:=@Bool.false_eq_true
def G_:=@PySem.wpAny_getItem_str_slice
def Ha:=@PySem.wpAny_Call_method
def H_:=@Nat.le_succ_of_le
def Ia:=@PySem.builtinLookup_eq_fast
def I_:=@PySem.wpAny_isInstance
def J_:=@List.mem_reverse
def K_:=@List.length_drop
def L_:=@PySem.plainId_quiet
def M0:=@List.all_cons
def M3:=@List.mem_of_mem_take
def M5:=@PySem.Heap.get?_push_cases
def M6:=@PySem.wpAny_passesOwn
def M7:=@PySem.wpAny_execs_nil
def M8:=@List.of_mem_zip
def M9:=@PySem.wpAny_setEntries_of
def M_:=@Nat.mul_le_mul_left
def Na:=@List.length_reverse
def Nb:=@List.filterMap_cons
def Nc:=@Nat.lt_of_le_of_lt
def Nd:=@List.nodup_nil
def Nf:=@List.mem_filterMap
def Ng:=@Int.fdiv_eq_ediv_of_nonneg
def Nh:=@PySem.wpAny_pyIter_list
def Ni:=@Prod.mk.inj
def Nj:=@Option.some.injEq
def Nk:=@List.take_sublist
def Nl:=@List.getElem?_set
def Nm:=@List.getElem?_inj
def No:=@List.append_assoc
def Np:=@List.getElem?_take_of_lt
def Nq:=@List.filterMap_cons_none
def Nr:=@PySem.AutoSeq1.wpAny_loadPart'
def Nt:=@PySem.wpAny_execs_cons
def Nu:=@PySem.wpAny_eqBool_str
def Nv:=@if_false
def Nw:=@Nat.succ_le_succ
def Nx:=@Nat.le_max_right
def Ny:=@List.lookup_cons
def Nz:=@List.filter_cons
def NA:=@PyProof.Rows.F.plain_set_update_loop
def NB:=@PySem.wpAny_call
def NC:=@Nat.pow_succ
def ND:=@Nat.lt_or_ge
def NE:=@PySem.wpAny_specialOf
def NF:=@PySem.typeLookup_type
def NG:=@PySem.post_val_or_str
def NH:=@Nat.le_max_left
def NI:=@List.range_succ
def NJ:=@List.forIn_cons
def NK:=@PySem.F.slot_zip_next
def NL:=@Bool.eq_iff_iff
def NM:=@List.getElem?_toArray
def NN:=@List.filterMap_append
def NO:=@PySem.isSubtype_type
def NP:=@PySem.codeAny_call_builtin
def NQ:=@List.forall_mem_cons
def NR:=@List.Perm.refl
def NS:=@PySem.wpAny_onRaise
def NT:=@List.map_take
def NU:=@List.map_singleton
def NV:=@List.getElem?_drop
def NW:=@List.filter_append
def NX:=@PySem.wpAny_typeOf
def NY:=@PySem.wpAny_pyIter_slot
def NZ:=@if_true
def N1:=@Option.isSome_map
def N2:=@List.pairwise_map
def N3:=@List.Sublist.refl
def N4:=@Array.toList_push
def N5:=@PyProof.Rows.slot_tuple_getitem
def N6:=@PySem.wpAny_forIn_list
def N7:=@List.getElem_map
def N8:=@List.any_eq_true
def N9:=@Int.le_refl
def N_:=@PySem.wpAny_updateSeq
def Oa:=@Nat.not_lt_zero
def Ob:=@List.nodup_cons
def Oc:=@List.length_nil
def Od:=@List.Perm.of_eq
def Oe:=@PySem.F.args_tuple_iterator_next_1
abbrev Of:=PySem.W.Frag
abbrev Og:=PySem.Value->PySem.Shared->Prop
abbrev Oh:=List (PySem.Addr×PySem.Obj)
abbrev Oi:=PySem.Str->Option PySem.Value
abbrev Oj:=List PySem.Value
abbrev Ol:=PySem.Program
abbrev Om:=List PySem.Str
abbrev On:=List PySem.Expr
abbrev Oo:=Array PySem.Value
abbrev Op:=List Nat
abbrev Oq:=List PySem.Addr
abbrev Os:=List Int
namespace L2
open PySem PySem.Spec PyProof.Rows
abbrev cp:=Sum Int Str
def n9:cp->Value->Bool|.inl k,v=>Value.isInt k v|.inr x,v=>Value.isStrOf x v
def MJ(w:World):cp->Int|.inl k=>hashInt k|.inr x=>hashStr w x
def cK:∀{k:cp}{v:Value},n9 k v=true->(∃i t,k=Sum.inl i/\v=Value.int i t)\/(∃x t,k=Sum.inr x/\v=Value.str x t)|.inl i,v,h=>by obtain⟨t,e⟩:=Value.isInt_shape (k:=i) (v:=v) h;exact .inl ⟨i,t,rfl,e⟩|.inr x,v,h=>by obtain⟨t,e⟩:=Value.isStrOf_shape (x:=x) (v:=v) h;exact .inr ⟨x,t,rfl,e⟩
def wX(i:Int)(t:Tok):n9 (.inl i) (.int i t)=true:=by simp[n9,Value.isInt]
def wW(x:Str)(t:Tok):n9 (.inr x) (.str x t)=true:=by simp[n9,Value.isStrOf]
def J4(a b:Int):decide ((Sum.inl a:cp)=Sum.inl b)=(a==b):=by
 by_cases e:a=b
 ·subst e;simp
 ·have h:¬(Sum.inl a:cp)=Sum.inl b:=λq=>e (Sum.inl.inj q);rw[i_ h];exact(v1.mpr e).symm
def J1(a b:Str):decide ((Sum.inr a:cp)=Sum.inr b)=decide (a=b):=by
 by_cases e:a=b
 ·subst e;simp
 ·have h:¬(Sum.inr a:cp)=Sum.inr b:=λq=>e (pv q);rw[i_ h,i_ e]
def J3(a:Int)(b:Str):decide ((Sum.inl a:cp)=Sum.inr b)=false:=i_ (nofun)
def J2(a:Str)(b:Int):decide ((Sum.inr a:cp)=Sum.inl b)=false:=i_ (nofun)
def bd(prog:Ol)(w:World):PySem.KeyKind prog w cp where
 is:=n9
 hash:=MJ w
 inj:=λv a b g f=>by
  rcases cK g with⟨i,t,rfl,rfl⟩|⟨x,t,rfl,rfl⟩
  ·rcases cK f with⟨j,u,rfl,e⟩|⟨y,u,rfl,e⟩
   ·injection e with c _;rw[c]
   ·exact nomatch e
  ·rcases cK f with⟨j,u,rfl,e⟩|⟨y,u,rfl,e⟩
   ·exact nomatch e
   ·injection e with c _;rw[c]
 byValue:=λk v h=>by rcases cK h with⟨i,t,rfl,rfl⟩|⟨x,t,rfl,rfl⟩<;>rfl
 pyHash:=λd h=>by
  rcases cK d with⟨i,t,rfl,rfl⟩|⟨x,t,rfl,rfl⟩
  ·exact wpAny_pyHash_int h
  ·exact wpAny_pyHash_str h
 eqBool:=λl d h=>by
  rcases cK l with⟨i,t,rfl,rfl⟩|⟨x,t,rfl,rfl⟩
  ·rcases cK d with⟨j,u,rfl,rfl⟩|⟨y,u,rfl,rfl⟩
   ·rw[J4]at h;exact wpAny_eqBool_int h
   ·rw[J3]at h;exact SeqAt.EqAt.int_str i t y u _ _ _ _ h
  ·rcases cK d with⟨j,u,rfl,rfl⟩|⟨y,u,rfl,rfl⟩
   ·rw[J2]at h;exact SeqAt.EqAt.str_int x t j u _ _ _ _ h
   ·rw[J1]at h;exact Nu h
 «strs»:=λk x t v h=>by
  rcases cK h with⟨i,u,rfl,e⟩|⟨y,u,rfl,e⟩
  ·exact nomatch e
  ·injection e with c _
   subst c
   cases v<;>rfl
def AG(prog:Ol)(w:World)(k:cp)(v:Value):(bd prog w).is k v=n9 k v:=rfl
def zn(prog:Ol)(w:World)(i:Int)(t:Tok):(bd prog w).is (.inl i) (.int i t)=true:=wX i t
def sA(prog:Ol)(w:World)(x:Str)(t:Tok):(bd prog w).is (.inr x) (.str x t)=true:=wW x t
end L2
namespace L2
open PySem PySem.Spec PyProof.Rows
inductive V where|non|bl(b:Bool)|int(i:Int)|str(x:Str)|byt(b:Array UInt8)|flt(b:UInt64)|ref(a:Addr)|ty(n:String)deriving DecidableEq
def bg:V->Value->Prop|.non,u=>u=Value.none|.bl b,u=>u=Value.bool b|.int i,u=>∃t,u=Value.int i t|.str x,u=>∃t,u=Value.str x t|.byt b,u=>∃t,u=Value.bytes b t|.flt b,u=>∃t,u=Value.float b t|.ref a,u=>u=Value.ref a|.ty n,u=>u=Value.type n
abbrev bq:List V->List Value->Prop:=Paired bg
theorem bq.length(r:bq a c):a.length=c.length:=Paired.length r
theorem bq.get:∀{a:List V}{c:Oj}{i:Nat}{x:V},bq a c->a[i]?=some x->∃u,c[i]?=some u/\bg x u|_,_,_,_,.nil,e=>by simp at e|_,_,0,_,.cons r _,e=>by simp at e;subst e;exact⟨_,rfl,r⟩|_,_,i+1,x,.cons _ t,e=>by obtain⟨u,h1,h2⟩:=bq.get (i:=i) (x:=x) t (by simpa using e);exact⟨u,by simpa using h1,h2⟩
theorem bq.set(r:bg x u):∀{a:List V}{c:Oj}(i:Nat),bq a c->bq (a.set i x) (c.set i u)|_,_,_,.nil=>.nil|_,_,0,.cons _ t=>.cons r t|_,_,i+1,.cons q t=>.cons q (bq.set r i t)
theorem bq.append:∀{a c:List V}{d e:Oj},bq a d->bq c e->bq (a++c) (d++e)|_,_,_,_,.nil,s=>s|_,_,_,_,.cons r t,s=>.cons r (bq.append t s)
theorem bq.take:∀{a:List V}{c:Oj}(n:Nat),bq a c->bq (a.take n) (c.take n)|_,_,0,_=>.nil|_,_,_+1,.nil=>.nil|_,_,n+1,.cons r t=>.cons r (bq.take n t)
theorem bq.drop:∀{a:List V}{c:Oj}(n:Nat),bq a c->bq (a.drop n) (c.drop n)|_,_,0,r=>r|_,_,_+1,.nil=>.nil|_,_,n+1,.cons _ t=>bq.drop n t
def kP:Option V->Option Value->Prop|some v,some u=>bg v u|none,none=>True|_,_=>False
def KV{a:Type}:List (a×V)->List (a×Value)->Prop:=Paired λ(p:a×V)(q:a×Value)=>p.1=q.1/\bg p.2 q.2
def kV:cp->V|.inl i=>.int i|.inr x=>.str x
inductive HO where|lst(xs:List V)|tup(xs:List V)|dK(kvs:List (cp×V))|dT(kvs:List (List cp×V))|set(S:Int->Bool)(n:Nat)|ins(C dx:Addr)(fs:List (Str×V))|own(x:Addr)|xd(fs:List (Str×V))|met(f x:Addr)|rng(lo hi:Int)|frz(o:Obj)(u:HO)|tbl(ps:Oo)|ext(φ:Heap->Prop)
abbrev Hp:=Addr->Option HO
def aD(H:Hp)(a:Addr)(o:HO):Hp:=λb=>if b=a then some o else H b
def af:aD H a o a=some o:=by unfold aD;rw[hA rfl]
def ao(h:b≠a):aD H a o b=H b:=by unfold aD;rw[g8 h]
def ie:aD (aD H a o) a u=aD H a u:=by funext b;unfold aD;split<;>rfl
def Lx{H:Hp}{a b:Addr}{o u:HO}(h:H a=some o)(h':H b=some u)(d:o≠u):a≠b:=by intro e;subst e;rw[h]at h';exact d (j1 h')
def aI{H:Hp}{a b:Addr}{o:HO}(h:H a=some o)(h':H b=none):a≠b:=by intro e;subst e;rw[h]at h';cases h'
section
variable(P:Ol)(w:World)
def c8(H:Hp)(h:Heap)(a:Addr):HO->Prop|.lst d=>d.length<=sizeLine/\∃(b:Oj)(n:Nat),bq d b/\h.get? a=some {cls:=.type "list",data:=.seq b.toArray n}|.tup d=>d.length<=sizeLine/\∃b:List Value,bq d b/\IsTup h a b.toArray|.dK c=>c.length<=sizeLine/\(a==sysModules)=false/\∃g,KV c g/\h.DictOf (bd P w) a g|.dT c=>c.length<=sizeLine/\(a==sysModules)=false/\∃d:List (List cp×Addr×Value),Paired (λ(p:List cp×V)(q:List cp×Addr×Value)=>p.1=q.1/\H q.2.1=some (.tup (p.1.map kV))/\bg p.2 q.2.2) c d/\∃o i j,h.get? a=some o/\o.ExactDict/\o.data=.dict i j/\i.toList=d.map (entryOfKey (tupleKind (bd P w)))/\(d.map (·.1)).Nodup|.set S n=>h.SetOf (intKind P w) a S n|.ins C dx fs=>H dx=some (.own a)/\fs.length<=1000/\dx≠a/\h.get? a=some (PySem.W.instObj C dx)/\∃e,h.Ns1 dx e/\(∀f,kP (fs.lookup f) (e f))/\PySem.Within e (fs.map (·.1))|.own _=>∃o,h.get? a=some o|.xd fs=>∃e,h.Ns1 a e/\∀f,kP (fs.lookup f) (e f)|.rng lo hi=>∃t u v,h.get? a=some {cls:=.type "range",data:=.fields #[.int lo t,.int hi u,.int 1 v]}|.frz o u=>h.get? a=some o/\c8 H h a u|.tbl k=>h.get? a=some {cls:=.none,data:=.fields k}|.met f x=>h.get? a=some (PySem.W.methodObj (.ref f) (.ref x))|.ext φ=>φ h/\(∃o,h.get? a=some o)/\∀h1 h2:Heap,φ h1->(∀o,h1.get? a=some o->h2.get? a=some o)->φ h2
def lO(H:Hp)(h:Heap):Prop:=∀a o,H a=some o->c8 P w H h a o
end
section
variable{P:Ol}{w:World}{H g:Hp}{h h':Heap}{a:Addr}{o:HO}
theorem c8.lt(x:c8 P w H h a o):a<h.objs.size:=by cases o with|lst c=>obtain⟨_,_,_,_,e⟩:=x;exact g_ e|tup c=>obtain⟨_,_,_,p⟩:=x;exact p.lt|dK b=>obtain⟨_,_,_,_,o,_,_,e,_⟩:=x;exact g_ e|dT b=>obtain⟨_,_,_,_,o,_,_,e,_⟩:=x;exact g_ e|set S n=>obtain⟨o,_,_,_,e,_⟩:=x;exact g_ e|ins C dx fs=>obtain⟨_,_,_,e,_⟩:=x;exact g_ e|own y=>obtain⟨_,e⟩:=x;exact g_ e|xd fs=>obtain⟨_,⟨_,_,_,e,_⟩,_⟩:=x;exact g_ e|rng lo hi=>obtain⟨_,_,_,e⟩:=x;exact g_ e|frz ob u=>obtain⟨e,_⟩:=x;exact g_ e|tbl d=>exact g_ (show h.get? a=some _ from x)|met f y=>exact g_ (show h.get? a=some _ from x)|ext φ=>obtain⟨_,⟨_,e⟩,_⟩:=x;exact g_ e
theorem Paired.mapP:∀{c:List e}{d:List i},Paired F c d->(∀a b,F a b->G a b)->Paired G c d|_,_,.nil,_=>.nil|_,_,.cons r t,f=>.cons (f _ _ r) (Paired.mapP t f)
def c8.stay(x:c8 P w H h a o)(k:∀b u,(b=a\/H b=some (.own a))->h.get? b=some u->h'.get? b=some u)(E:∀b,H b=some (.own a)->g b=some (.own a))(F:∀b m,H b=some (.tup m)->g b=some (.tup m)):c8 P w g h' a o:=by induction o with|lst m=>obtain⟨z,l,n,r,e⟩:=x;exact⟨z,l,n,r,k _ _ (.inl rfl) e⟩|tup m=>obtain⟨z,l,r,ob,e,c⟩:=x;exact⟨z,l,r,ob,k _ _ (.inl rfl) e,c⟩|dK s=>obtain⟨z,y,G,r,ob,i,j,e,c⟩:=x;exact⟨z,y,G,r,ob,i,j,k _ _ (.inl rfl) e,c⟩|dT s=>obtain⟨z,y,m,r,ob,i,j,e,c⟩:=x;exact⟨z,y,m,Paired.mapP r λp q z=>⟨z.1,F _ _ z.2.1,z.2.2⟩,ob,i,j,k _ _ (.inl rfl) e,c⟩|set S n=>obtain⟨ob,i,j,t,e,c⟩:=x;exact⟨ob,i,j,t,k _ _ (.inl rfl) e,c⟩|ins C dx fs=>obtain⟨d,z,ne,e,A,⟨B,i,j,I,c⟩,r⟩:=x;exact⟨E _ d,z,ne,k _ _ (.inl rfl) e,A,⟨B,i,j,k _ _ (.inr d) I,c⟩,r⟩|own y=>obtain⟨ob,e⟩:=x;exact⟨ob,k _ _ (.inl rfl) e⟩|xd fs=>obtain⟨A,⟨B,i,j,e,c⟩,r⟩:=x;exact⟨A,⟨B,i,j,k _ _ (.inl rfl) e,c⟩,r⟩|rng lo hi=>obtain⟨t,u,v,e⟩:=x;exact⟨t,u,v,k _ _ (.inl rfl) e⟩|frz ob u J=>obtain⟨e,q⟩:=x;exact⟨k _ _ (.inl rfl) e,J q⟩|tbl D=>have e:h.get? a=some {cls:=.none,data:=.fields D}:=x;show h'.get? a=some {cls:=.none,data:=.fields D};exact k a _ (.inl rfl) e|met f y=>have e:h.get? a=some (PySem.W.methodObj (.ref f) (.ref y)):=x;show h'.get? a=some (PySem.W.methodObj (.ref f) (.ref y));exact k a _ (.inl rfl) e|ext φ=>obtain⟨p,⟨o,e⟩,st⟩:=x;exact⟨st _ _ p λo q=>k _ _ (.inl rfl) q,⟨o,k _ _ (.inl rfl) e⟩,st⟩
theorem lO.lt(x:lO P w H h)(e:H a=some o):a<h.objs.size:=(x a o e).lt
def lO.fresh(x:lO P w H h)(e:h.objs.size<=a):H a=none:=by cases q:H a with|none=>rfl|some u=>exact absurd (lh (x.lt q) e) (ot _)
def lO.kept(x:lO P w H h)(k:∀b u,h.get? b=some u->h'.get? b=some u):lO P w H h':=λa o e=>(x a o e).stay (λb u _ q=>k b u q) (λ_ q=>q) λ_ _ q=>q
def lO.laid(x:lO P w H h)(k:∀b u,h.get? b=some u->h'.get? b=some u)(f:h.objs.size<=a)(new:c8 P w (aD H a o) h' a o):lO P w (aD H a o) h':=λb u e=>by
 have hn:=x.fresh f
 by_cases d:b=a
 ·subst d;rw[af]at e;cases e;exact new
 ·rw[ao d]at e;exact(x b u e).stay (λc v _ q=>k c v q) (λc q=>by rw[ao (aI q hn)];exact q) λc i q=>by rw[ao (aI q hn)];exact q
end
def Rd(H:Hp)(a:Addr)(u:HO):Prop:=H a=some u\/∃o,H a=some (.frz o u)
def Rd.ok(r:Rd H a u)(x:lO P w H h):c8 P w H h a u:=by
 rcases r with r|⟨o,r⟩
 ·exact x a u r
 ·obtain⟨_,q⟩:=x a _ r;exact q
def L4:Option HO->Prop|some (.lst _)=>True|some (.dK _)=>True|some (.dT _)=>True|some (.set _ _)=>True|some (.ins _ _ _)=>True|some (.ext _)=>True|_=>False
section
variable{P:Ol}{w:World}{H:Hp}{h h':Heap}{x e:Addr}{a:HO}
def lO.write(ok:lO P w H h)(g:L4 (H x))(m:e=x\/H e=some (.own x))(k:∀b u,b≠e->h.get? b=some u->h'.get? b=some u)(l:∃u,h'.get? e=some u)(new:c8 P w (aD H x a) h' x a):lO P w (aD H x a) h':=λb u q=>by
 have f:∀c y,H c=some (.own y)->c≠x:=λc y r z=>by subst z;rw[r]at g;exact g
 have ntup:∀c i,H c=some (.tup i)->c≠x:=λc i r z=>by subst z;rw[r]at g;exact g
 by_cases j:b=x
 ·subst j;rw[af]at q;cases q;exact new
 ·rw[ao j]at q
  by_cases d:b=e
  ·have n:H b=some (.own x):=by
    rcases m with z|z
    ·exact absurd (d.trans z) j
    ·rw[d];exact z
   rw[q]at n;cases n;obtain⟨v,o⟩:=l;exact⟨v,by rw[d];exact o⟩
  ·refine(ok b u q).stay (λc v hc r=>k c v ?_ r) (λc r=>by rw[ao (f c b r)];exact r) λc i r=>by rw[ao (ntup c i r)];exact r
   rcases hc with rfl|hc
   ·exact d
   ·rintro rfl;rcases m with z|z
    ·exact f c b hc z
    ·rw[hc]at z;cases z;exact j rfl
end
structure Un(fs ex:Oq)(H H':Hp)(h h':Heap):Prop where
 keep:∀b o,h.get? b=some o->H b=none->b∉fs->b∉ex->h'.get? b=some o
 slot:∀b o,h.get? b=some o->H b=none->b∈fs->b∉ex->∃sl,h'.get? b=some {o with slots:=sl}free:∀b o,h.get? b=some o->H b=none->b∉ex->H' b=none
 there:∀b o,h.get? b=some o->b∉ex->∃o',h'.get? b=some o'
 tups:∀b xs,H b=some (.tup xs)->H' b=some (.tup xs)frzs:∀b o u,H b=some (.frz o u)->H' b=some (.frz o u)tbls:∀b ps,H b=some (.tbl ps)->∃more,H' b=some (.tbl (ps++more))
section
variable{fs c ex f:Oq}{H d g:Hp}{h h1 h2 h':Heap}{a x e:Addr}{o:HO}
def Un.any(u:Un fs ex H d h h1){b:Addr}{ob:Obj}(q:h.get? b=some ob)(n:H b=none)(i:b∉ex):∃sl,h1.get? b=some {ob with slots:=sl}:=by
 by_cases j:b∈fs
 ·exact u.slot b ob q n j i
 ·exact⟨ob.slots,u.keep b ob q n j i⟩
def Un.kept(k:∀b u,h.get? b=some u->h'.get? b=some u):Un fs ex H H h h':=⟨λb ob q _ _ _=>k b ob q,λb ob q _ _ _=>⟨ob.slots,k b ob q⟩,λ_ _ _ n _=>n,λb ob q _=>⟨ob,k b ob q⟩,λ_ _ q=>q,λ_ _ _ q=>q,λ_ i q=>⟨#[],by rw[q];simp⟩⟩
def Un.refl:Un fs ex H H h h:=Un.kept λ_ _ q=>q
def Un.laid(k:∀b u,h.get? b=some u->h'.get? b=some u)(i:h.objs.size<=a)(hn:H a=none):Un fs ex H (aD H a o) h h' where
 keep:=λb u q _ _ _=>k b u q
 slot:=λb u q _ _ _=>⟨u.slots,k b u q⟩
 free:=λb u q n _=>by rw[ao (ig (lh (g_ q) i))];exact n
 there:=λb u q _=>⟨u,k b u q⟩
 tups:=λb j q=>by rw[ao (aI q hn)];exact q
 frzs:=λb u j q=>by rw[ao (aI q hn)];exact q
 tbls:=λb l q=>⟨#[],by rw[ao (aI q hn),q];simp⟩
def Un.write(j:L4 (H x))(s:e=x\/H e=some (.own x))(k:∀b u,b≠e->h.get? b=some u->h'.get? b=some u)(l:∃u,h'.get? e=some u):Un fs ex H (aD H x o) h h':=by
 have m:∀b,H b=none->b≠x:=λb n z=>by subst z;rw[n]at j;exact j
 have p:∀b,H b=none->b≠e:=λb n z=>by
  subst z;rcases s with r|r
  ·exact m b n r
  ·rw[n]at r;cases r
 have hm:∀b u,H b=some u->¬L4 (some u)->b≠x:=λb u q nm z=>by subst z;rw[q]at j;exact nm j
 refine⟨λb u q n _ _=>k b u (p b n) q,λb u q n _ _=>⟨u.slots,k b u (p b n) q⟩,λb u q n _=>by rw[ao (m b n)];exact n,λb u q _=>?_,λb t q=>by rw[ao (hm b _ q λz=>z)];exact q,λb u t q=>by rw[ao (hm b _ q λz=>z)];exact q,λb v q=>⟨#[],by rw[ao (hm b _ q λz=>z),q];simp⟩⟩
 by_cases i:b=e
 ·subst i;exact l
 ·exact⟨u,k b u i q⟩
end
def Md(h:Heap)(H:Hp):List Addr:=(List.range h.objs.size).filter λa=>(H a).isSome
def x5(h:Heap)(H:Hp):Heap:=PySem.W.hideAll h (Md h H)
def C0(h:Heap)(H:Hp):(x5 h H).objs.size=h.objs.size:=PySem.W.hideAll_size _ _
def Fv(e:h.get? b=some o)(n:H b=none):(x5 h H).get? b=some o:=PySem.W.hideAll_get _ e λhm=>by have q:(H b).isSome=true:=(pa.mp hm).2;rw[n]at q;simp at q
def Hg(e:(x5 h H).get? b=some o):h.get? b=some o/\H b=none:=by have a:h.get? b=some o:=PySem.W.of_hideAll (Md h H) e;refine⟨a,?_⟩;cases q:H b with|none=>rfl|some x=>have hm:b∈Md h H:=pa.mpr ⟨oi.mpr (g_ a),by simp[q]⟩;have z:(x5 h H).get? b=none:=PySem.W.hideAll_none (Md h H) hm;rw[z]at e;cases e
def HV(g h:Heap)(L:Addr):List (Addr×Obj):=(List.range h.objs.size).filterMap λa=>if a=L\/(g.get? a).isSome=true then none else(h.get? a).map λo=>(a,o)
def qW(g h:Heap)(L d:Addr):List (Addr×Obj):=(HV g h L).filter λp=>decide (p.1≠d)
end L2
namespace L2
open PySem PySem.Spec PyProof.Rows
structure L5(K:Of)(mg:Oi)(base:Heap):Prop where
 kin:K.In base
 glob:base.Ns mainGlobals mg
 blt:∃mb,base.Ns builtinsNs mb/\∀x:Str,x≠"__name__"->mb x=bootBuiltins x
 nolimit:base.NoLimit
structure Cx where
 prog:Program
 w:World
 K:Of
 mg:Str->Option Value
 base:Heap
 A:Around
 N:List Str
 s₀:Shared
 H₀:Hp
 env:Env
 outer:List Env
 stack:List Env
 ex:List Addr
 fn:Str->Bool
 calm:Bool
 pn:List (Addr×Obj)xe:Value->Shared->Prop
def j0(l:List Env):List Addr:=l.filterMap (·.frame)
abbrev Cx.fs(X:Cx):List Addr:=j0 X.outer
def Mj(a:Scope)(x:Str):Prop:=a.names.lookup x=some .local\/a.names.lookup x=some .cell\/a.names.lookup x=some .free
def KQ(a:Scope)(x:Str):Prop:=a.names.lookup x=some .local\/a.names.lookup x=some .cell
def MV(env:Env)(h:Heap)(m:Oi)(x:Str)(u:Value):Prop:=(env.kindOf x=some .local/\m x=some u)\/((env.kindOf x=some .cell\/env.kindOf x=some .free)/\∃c,env.cells.lookup x=some c/\h.IsCell c (some u))
structure Cx.Ok(X:Cx):Prop where
 mod:L5 X.K X.mg X.base
 kind:X.env.scope.kind=.function
 glob:X.env.globals=mainGlobals
 blt:X.env.builtins=builtinsNs
 above:X.s₀.heap.objs.size<=X.env.locals
 inj:∀x y c,X.env.cells.lookup x=some c->X.env.cells.lookup y=some c->x=y
 has:∀x,(X.env.kindOf x=some .cell\/X.env.kindOf x=some .free)->∃c,X.env.cells.lookup x=some c
 cab:∀x c,X.fn x=true->X.env.cells.lookup x=some c->X.s₀.heap.objs.size<=c
 hd:X.calm=true->X.A.handled=none
 frames:X.A.frames=some X.stack
 stk:X.stack=X.outer\/(X.stack=X.env::X.outer/\X.env.frame=some X.env.locals)exf:∀b∈X.ex,b≠X.env.locals/\∀x c,X.env.cells.lookup x=some c->c≠b
 bs:∀b o,X.base.get? b=some o->X.s₀.heap.get? b=some o/\X.H₀ b=none
 bsz:X.base.objs.size<=X.s₀.heap.objs.size
 noex:∀b o,X.base.get? b=some o->b∉X.ex
 exfs:∀b∈X.ex,b∉X.fs
 funs:X.s₀.heap.FunFrames X.base X.outer
 frf:∀b∈X.fs,X.H₀ b=none
structure aU(X:Cx)(pins:Oh)(σ:List (Option V))(H:Hp)(s:Shared):Prop where
 ok:X.Ok
 os:s.os=X.s₀.os
 bare:AllBare s.gens
 base:Un X.fs X.ex X.H₀ H X.s₀.heap s.heap
 loc:∃m,s.heap.Ns X.env.locals m/\∀(i:Nat)(x:Str)(v:V),X.N[i]?=some x->σ[i]?=some (some v)->Mj X.env.scope x->∃u,bg v u/\MV X.env s.heap m x u
 cell:∀x c,X.env.cells.lookup x=some c->∃v,s.heap.IsCell c v
 free:H X.env.locals=none
 freeC:∀x c,X.env.cells.lookup x=some c->H c=none
 pin:∀p∈X.pn++pins,s.heap.get? p.1=some p.2/\H p.1=none/\p.1≠X.env.locals/\p.1∉X.fs/\∀v,p.2.data≠.cell v
 hok:lO X.prog X.w H s.heap
 len:σ.length=X.N.length
section
variable{X:Cx}{f:Oh}{g:List (Option V)}{H B:Hp}{s:Shared}{h':Heap}
def Cx.Ok.nofr(ok:X.Ok)(e:X.base.get? b=some o):b∉X.fs:=λa=>by have:=(ok.funs.mem a).1;rw[e]at this;cases this
theorem aU.bs(I:aU X f g H s):∀b o,X.base.get? b=some o->s.heap.get? b=some o/\H b=none:=λb o e=>⟨I.base.keep b o (I.ok.bs b o e).1 (I.ok.bs b o e).2 (I.ok.nofr e) (I.ok.noex b o e),I.base.free b o (I.ok.bs b o e).1 (I.ok.bs b o e).2 (I.ok.noex b o e)⟩
def aU.bk(I:aU X f g H s):∀b o,X.base.get? b=some o->s.heap.get? b=some o:=λb o e=>(I.bs b o e).1
theorem aU.mod(I:aU X f g H s):L5 X.K X.mg X.base:=I.ok.mod
def aU.kIn(I:aU X f g H s):X.K.In s.heap:=I.ok.mod.kin.keeps I.bk
def aU.fr(I:aU X f g H s):∃m,Fr X.base X.env.locals s.heap m:=let⟨m,hn,_⟩:=I.loc
 ⟨m,hn,I.bk,kl I.ok.bsz I.ok.above⟩
theorem aU.lt(I:aU X f g H s):X.env.locals<s.heap.objs.size:=let⟨_,hn,_⟩:=I.loc;hn.lt
def aU.sz(I:aU X f g H s):X.s₀.heap.objs.size<=s.heap.objs.size:=kl I.ok.above (vl I.lt)
def aU.nofs(I:aU X f g H s)(h:s.heap.objs.size<=a):a∉X.fs:=λb=>by obtain⟨_,o,c,_⟩:=I.ok.funs.mem b;exact absurd (lh (g_ c) (kl I.sz h)) (ot _)
def aU.cne(I:aU X f g H s):∀x c,X.env.cells.lookup x=some c->c≠X.env.locals:=λx c e z=>by obtain⟨v,o,d,hd⟩:=I.cell x c e;obtain⟨m,⟨h,i,j,a,b,_⟩,_⟩:=I.loc;rw[z,a]at d;cases d;rw[b]at hd;cases hd
theorem aU.funs(I:aU X f g H s):s.heap.FunFrames X.base X.outer:=by
 have all:∀(l:List Env),(∀b∈j0 l,b∈X.fs)->X.s₀.heap.FunFrames X.base l->s.heap.FunFrames X.base l:=by
  intro l
  induction l with|nil=>intro _ _;trivial|cons env r i=>intro h j;obtain⟨k,⟨L,o,a,hn,m,hd⟩,n⟩:=j;have c:L∈X.fs:=h L (by unfold j0;rw[Nb,a];exact il);obtain⟨sl,e⟩:=I.base.slot L o m (I.ok.frf L c) c λz=>I.ok.exfs L z c;exact⟨k,⟨L,_,a,hn,e,hd⟩,i (λb d=>h b (by unfold j0;rw[Nb,a];exact hY _ d)) n⟩
 exact all X.outer (λ_ d=>d) I.ok.funs
theorem aU.stack(I:aU X f g H s):s.heap.FunFrames X.base X.stack:=by
 rcases I.ok.stk with e|⟨e,a⟩
 ·rw[e];exact I.funs
 ·rw[e];obtain⟨m,hn,_⟩:=I.loc;refine .cons (by rw[I.ok.kind];decide) a hn ?_ I.funs;exact Heap.get?_none_of_le (kl I.ok.bsz I.ok.above)
def aU.stkSub(I:aU X f g H s):∀b∈j0 X.stack,b∈X.env.locals::X.fs:=λb a=>by
 rcases I.ok.stk with e|⟨e,c⟩
 ·rw[e]at a;exact hY _ a
 ·rw[e]at a;unfold j0 at a;rw[Nb,c]at a;exact a
def aU.stkFree(I:aU X f g H s):∀b∈j0 X.stack,H b=none:=λb a=>by
 rcases q_.mp (I.stkSub b a)with e|a
 ·rw[e];exact I.free
 ·obtain⟨_,o,c,_⟩:=I.ok.funs.mem a;exact I.base.free b o c (I.ok.frf b a) λz=>I.ok.exfs b z a
def aU.step{g':Array GenState}{P:Nat}{d':Drawn}{ch:Oq}(I:aU X f g H s)(h:∀b∈ch,(b∈X.ex\/X.s₀.heap.objs.size<=b)/\b≠X.env.locals/\(∀x c,X.env.cells.lookup x=some c->c≠b)/\∀p∈X.pn++f,p.1≠b)(keep:∀b o,b≠X.env.locals->b∉X.fs->b∉ch->s.heap.get? b=some o->H b=none->h'.get? b=some o)(slot:∀b o,b≠X.env.locals->b∈X.fs->b∉ch->s.heap.get? b=some o->H b=none->∃sl,h'.get? b=some {o with slots:=sl})(free:∀b o,b∉ch->s.heap.get? b=some o->H b=none->B b=none)(there:∀b o,b∉ch->s.heap.get? b=some o->∃F,h'.get? b=some F)(tups:∀b C,H b=some (.tup C)->B b=some (.tup C))(frzs:∀b o u,H b=some (.frz o u)->B b=some (.frz o u))(tbls:∀b L,H b=some (.tbl L)->∃G,B b=some (.tbl (L++G)))(ns:∀m,s.heap.Ns X.env.locals m->h'.Ns X.env.locals m)(hok:lO X.prog X.w B h')(hg:AllBare g'):aU X f g B {s with heap:=h',gens:=g',drawn:=d',toks:=P}:=by
 have J:∀b o,X.s₀.heap.get? b=some o->b≠X.env.locals:=λb o e=>ig (lh (g_ e) I.ok.above);have y:∀b o,X.s₀.heap.get? b=some o->b∉X.ex->b∉ch:=λb o e a D=>by
  rcases(h b D).1 with z|z
  ·exact a z
  ·exact absurd (lh (g_ e) z) (ot _)
 have j:∀x c,X.env.cells.lookup x=some c->∀v,s.heap.IsCell c v->h'.IsCell c v:=λx c e v⟨o,E,hd⟩=>by
  have t:c∉ch:=λz=>(h c z).2.2.1 x c e rfl
  by_cases hc:c∈X.fs
  ·obtain⟨sl,q⟩:=slot c o (I.cne x c e) hc t E (I.freeC x c e);exact⟨_,q,hd⟩
  ·exact⟨o,keep c o (I.cne x c e) hc t E (I.freeC x c e),hd⟩
 refine⟨I.ok,I.os,hg,⟨λb o e n D a=>?_,λb o e n D a=>?_,λb o e n a=>?_,λb o e a=>?_,λb C e=>tups b C (I.base.tups b C e),λb o C e=>frzs b o C (I.base.frzs b o C e),λb L e=>?_⟩,?_,λx c e=>?_,?_,λx c e=>?_,λp N=>?_,hok,I.len⟩
 ·exact keep b o (J b o e) D (y b o e a) (I.base.keep b o e n D a) (I.base.free b o e n a)
 ·obtain⟨sl,A⟩:=I.base.slot b o e n D a;obtain⟨M,K⟩:=slot b _ (J b o e) D (y b o e a) A (I.base.free b o e n a);exact⟨M,K⟩
 ·obtain⟨F,A⟩:=I.base.there b o e a;exact free b F (y b o e a) A (I.base.free b o e n a)
 ·obtain⟨F,A⟩:=I.base.there b o e a;exact there b F (y b o e a) A
 ·obtain⟨O,A⟩:=I.base.tbls b L e;obtain⟨Q,K⟩:=tbls b _ A;exact⟨O++Q,by rw[K,Array.append_assoc]⟩
 ·obtain⟨m,hn,R⟩:=I.loc;refine⟨m,ns m hn,λi x v A K S=>?_⟩;obtain⟨u,r,l⟩:=R i x v A K S;refine⟨u,r,?_⟩;rcases l with l|⟨k,c,e,z⟩
  ·exact .inl l
  ·exact .inr ⟨k,c,e,j x c e _ z⟩
 ·obtain⟨v,z⟩:=I.cell x c e;exact⟨v,j x c e v z⟩
 ·obtain⟨m,⟨o,_,_,E,_⟩,_⟩:=I.loc;exact free _ o (λz=>(h _ z).2.1 rfl) E I.free
 ·obtain⟨v,o,E,hd⟩:=I.cell x c e;exact free c o (λz=>(h c z).2.2.1 x c e rfl) E (I.freeC x c e)
 ·obtain⟨e,n,ne,nf,d⟩:=I.pin p N;have t:p.1∉ch:=λz=>(h p.1 z).2.2.2 p N rfl;exact⟨keep p.1 p.2 ne nf t e n,free p.1 p.2 t e n,ne,nf,d⟩
def aU.un{t':Nat}(I:aU X f g H s)(u:Un X.fs [] H B s.heap h')(hok:lO X.prog X.w B h'):aU X f g B {s with heap:=h',toks:=t'}:=by obtain⟨m,⟨o,l,p,i,r⟩,_⟩:=id I.loc;obtain⟨sl,j⟩:=u.any i I.free (by simp);exact I.step (g':=s.gens) (d':=s.drawn) (ch:=[]) (λ_ z=>nomatch z) (λb o _ c _ e n=>u.keep b o e n c (by simp)) (λb o _ c _ e n=>u.slot b o e n c (by simp)) (λb o _ e n=>u.free b o e n (by simp)) (λb o _ e=>u.there b o e (by simp)) u.tups u.frzs u.tbls (λx hm=>by obtain⟨y,d,h,a,k⟩:=hm;rw[i]at a;cases a;exact⟨_,d,h,j,k⟩) hok I.bare
def aU.call{g':Array GenState}{t':Nat}{d':Drawn}{ch:Oq}(I:aU X f g H s)(u:Un (j0 X.stack) ch H B s.heap h')(hok:lO X.prog X.w B h')(hg:AllBare g')(a:∀b∈ch,(b∈X.ex\/X.s₀.heap.objs.size<=b)/\b≠X.env.locals/\(∀x c,X.env.cells.lookup x=some c->c≠b)/\∀p∈X.pn++f,p.1≠b):aU X f g B {s with heap:=h',gens:=g',drawn:=d',toks:=t'}:=by obtain⟨m,⟨o,t,v,k,r⟩,_⟩:=id I.loc;obtain⟨sl,h⟩:=u.any k I.free λz=>(a _ z).2.1 rfl;exact I.step (ch:=ch) a (λb o h l hc e n=>u.keep b o e n (λz=>(q_.mp (I.stkSub b z)).elim h l) hc) (λb o _ _ hc e n=>u.any e n hc) (λb o hc e n=>u.free b o e n hc) (λb o hc e=>u.there b o e hc) u.tups u.frzs u.tbls (λy hm=>by obtain⟨A,i,j,d,q⟩:=hm;rw[k]at d;cases d;exact⟨_,i,j,h,q⟩) hok hg
def aU.turned{t':Nat}{it:Addr}(I:aU X f g H s)(k:∀b o,b≠it->s.heap.get? b=some o->h'.get? b=some o)(hn:H it=none)(d:it≠X.env.locals)(h1:it∈X.ex\/X.s₀.heap.objs.size<=it)(h2:∀x c,X.env.cells.lookup x=some c->c≠it)(h3:∀p∈X.pn++f,p.1≠it):aU X f g H {s with heap:=h',toks:=t'}:=by
 have a:∀b u,H b=some u->b≠it:=λb u e z=>by rw[z,hn]at e;cases e
 refine I.step (g':=s.gens) (d':=s.drawn) (ch:=[it]) (λb h=>?_) (λb o _ _ hc e _=>k b o (λz=>hc (by simp[z])) e) (λb o _ _ hc e _=>⟨o.slots,k b o (λz=>hc (by simp[z])) e⟩) (λ_ _ _ _ n=>n) (λb o hc e=>⟨o,k b o (λz=>hc (by simp[z])) e⟩) (λ_ _ e=>e) (λ_ _ _ e=>e) (λb A e=>⟨#[],by rw[e];simp⟩) (λm hm=>?_) (λb u e=>?_) I.bare
 ·have e:b=it:=by simpa using h
  subst e;exact⟨h1,d,h2,h3⟩
 ·obtain⟨o,i,j,l,r⟩:=hm;exact⟨o,i,j,k _ o (m3 d) l,r⟩
 ·refine(I.hok b u e).stay (λc v hc q=>k c v ?_ q) (λ_ q=>q) λ_ _ q=>q;rcases hc with z|z
  ·rw[z];exact a b u e
  ·exact a c _ z
def aU.tok(I:aU X f g H s)(t:Nat):aU X f g H {s with toks:=t}:=I.un (h':=s.heap) (t':=t) Un.refl I.hok
theorem aU.kept(I:aU X f g H s)(k:∀b u,s.heap.get? b=some u->h'.get? b=some u):aU X f g H {s with heap:=h',toks:=t'}:=I.un (Un.kept k) (I.hok.kept k)
theorem aU.laid(I:aU X f g H s)(k:∀b u,s.heap.get? b=some u->h'.get? b=some u)(c:s.heap.objs.size<=a)(new:c8 X.prog X.w (aD H a o) h' a o):aU X f g (aD H a o) {s with heap:=h',toks:=t'}:=I.un (Un.laid k c (I.hok.fresh c)) (I.hok.laid k c new)
theorem aU.write(I:aU X f g H s)(c:L4 (H x))(d:e=x\/H e=some (.own x))(k:∀b u,b≠e->s.heap.get? b=some u->h'.get? b=some u)(a:∃u,h'.get? e=some u)(new:c8 X.prog X.w (aD H x o) h' x o):aU X f g (aD H x o) {s with heap:=h',toks:=t'}:=I.un (Un.write c d k a) (I.hok.write c d k a new)
def aU.weak(I:aU X f g H s)(c:a.length=g.length)(w:∀(i:Nat)v,a[i]?=some (some v)->g[i]?=some (some v)):aU X f a H s:=⟨I.ok,I.os,I.bare,I.base,let⟨m,hn,b⟩:=I.loc;⟨m,hn,λi x v d e h=>b i x v d (w i v e) h⟩,I.cell,I.free,I.freeC,I.pin,I.hok,c.trans I.len⟩
def aU.pins_of(I:aU X f g H s)(h:∀p∈a,s.heap.get? p.1=some p.2/\H p.1=none/\p.1≠X.env.locals/\p.1∉X.fs/\∀v,p.2.data≠.cell v):aU X a g H s:=⟨I.ok,I.os,I.bare,I.base,I.loc,I.cell,I.free,I.freeC,λp b=>(List.mem_append.mp b).elim (λz=>I.pin p (vr _ z)) (h p),I.hok,I.len⟩
def u5{N:Om}(c:N.Nodup){i j:Nat}{x:Str}(a:N[i]?=some x)(b:N[j]?=some x):i=j:=by obtain⟨h1,d⟩:=d_.mp a;obtain⟨h2,e⟩:=d_.mp b;exact(List.getElem_inj c).mp (d.trans e.symm)
def wH{M:Model}{A:Around}{E:Og}{i:Nat}{x:Str}{v:V}{u:Value}{Q:Unit->Shared->Prop}(I:aU X f g H s)(hN:X.N.Nodup)(hi:X.N[i]?=some x)(D:KQ X.env.scope x)(r:bg v u)(h:∀s',aU X f (g.set i (some v)) H s'->(∃a,Heap.SameBut a s.heap s'.heap/\(a=X.env.locals\/X.env.cells.lookup x=some a))->Q () s')(hf:X.fn x=true\/X.env.scope.names.lookup x=some .local:=by first|exact .inl rfl|exact .inr rfl|assumption):wpAny M A (storeName X.env x u) Q E s:=by
 obtain⟨m,hn,hl⟩:=id I.loc;have R:(X.env.scope.kind==.class||(X.env.scope.kind==.module&&X.env.locals !=X.env.globals))=false:=by rw[I.ok.kind];rfl
 have J:i<g.length:=by rw[I.len];exact(d_.mp hi).1
 have cne:=I.cne;have t:∀{a:Addr}{h':Heap},(∃o,s.heap.get? a=some o/\H a=none)->Heap.SameBut a s.heap h'->lO X.prog X.w H h':=λ{a h'}ha l b ob e=>by
  obtain⟨_,_,F⟩:=ha;refine(I.hok b ob e).stay (λc Y hc q=>(l.2 c ?_).trans q) (λ_ q=>q) λ_ _ q=>q;rintro rfl;rcases hc with rfl|hc
  ·rw[F]at e;cases e
  ·rw[F]at hc;cases hc
 rcases D with K|K
 ·refine wpAny_storeName_local K hn (λh' aa l=>?_) R;obtain⟨oL,_,_,ad,_⟩:=id hn;refine h _ ⟨I.ok,I.os,I.bare,⟨λb o e n L D=>?_,λb o e n L D=>?_,I.base.free,λb o e D=>?_,I.base.tups,I.base.frzs,I.base.tbls⟩,⟨_,aa,λj y v' C G e3=>?_⟩,λy c e=>?_,I.free,I.freeC,λp hp=>?_,t ⟨oL,ad,I.free⟩ l,by simpa using I.len⟩ ⟨_,l,.inl rfl⟩
  ·exact(l.2 b (ig (lh (g_ e) I.ok.above))).trans (I.base.keep b o e n L D)
  ·obtain⟨sl,C⟩:=I.base.slot b o e n L D;exact⟨sl,(l.2 b (ig (lh (g_ e) I.ok.above))).trans C⟩
  ·obtain⟨o',C⟩:=I.base.there b o e D;exact⟨o',(l.2 b (ig (lh (g_ e) I.ok.above))).trans C⟩
  ·by_cases O:j=i
   ·subst O;rw[hi]at C;cases C;rw[rr J]at G;cases G;exact⟨u,r,.inl ⟨K,by simp⟩⟩
   ·rw[m_ (m3 O)]at G;obtain⟨u',r',q⟩:=hl j y v' C G e3;refine⟨u',r',?_⟩;rcases q with⟨k,e⟩|⟨k,c,e,z⟩
    ·refine .inl ⟨k,?_⟩;have:y≠x:=λe=>O (u5 hN C (e▸hi));simp[this,e]
    ·exact .inr ⟨k,c,e,z.sameBut l (cne y c e)⟩
  ·obtain⟨Y,z⟩:=I.cell y c e;exact⟨Y,z.sameBut l (cne y c e)⟩
  ·obtain⟨e,n,ne,nf,d⟩:=I.pin p hp;exact⟨(l.2 p.1 ne).trans e,n,ne,nf,d⟩
 ·have P:X.fn x=true:=by
   rcases hf with z|z
   ·exact z
   ·rw[z]at K;cases K
  obtain⟨c,hc⟩:=I.ok.has x (.inl K);obtain⟨Y,z⟩:=I.cell x c hc;refine wpAny_storeName_cell I.ok.kind K hc z (λh' S l=>?_);obtain⟨oc,T,U⟩:=id z;refine h {s with heap:=h'} ⟨I.ok,I.os,I.bare,⟨λb o e n L D=>?_,λb o e n L D=>?_,I.base.free,λb o e D=>?_,I.base.tups,I.base.frzs,I.base.tbls⟩,⟨m,hn.sameBut l (m3 (cne x c hc)),λj y v' C G e3=>?_⟩,λy Z e=>?_,I.free,I.freeC,λp hp=>?_,t ⟨oc,T,I.freeC x c hc⟩ l,by simpa using I.len⟩ ⟨c,l,.inr hc⟩
  ·exact(l.2 b (ig (lh (g_ e) (I.ok.cab x c P hc)))).trans (I.base.keep b o e n L D)
  ·obtain⟨sl,C⟩:=I.base.slot b o e n L D;exact⟨sl,(l.2 b (ig (lh (g_ e) (I.ok.cab x c P hc)))).trans C⟩
  ·obtain⟨o',C⟩:=I.base.there b o e D;exact⟨o',(l.2 b (ig (lh (g_ e) (I.ok.cab x c P hc)))).trans C⟩
  ·by_cases O:j=i
   ·subst O;rw[hi]at C;cases C;rw[rr J]at G;cases G;exact⟨u,r,.inr ⟨.inl K,c,hc,S⟩⟩
   ·rw[m_ (m3 O)]at G;obtain⟨u',r',q⟩:=hl j y v' C G e3;refine⟨u',r',?_⟩;rcases q with q|⟨k,Z,e,z'⟩
    ·exact .inl q
    ·refine .inr ⟨k,Z,e,z'.sameBut l ?_⟩;rintro rfl;exact O (u5 hN C (I.ok.inj _ _ _ e hc▸hi))
  ·by_cases W:Z=c
   ·subst W;exact⟨_,S⟩
   ·obtain⟨w2,z2⟩:=I.cell y Z e;exact⟨w2,z2.sameBut l W⟩
  ·obtain⟨e,n,ne,nf,d⟩:=I.pin p hp;refine⟨(l.2 p.1 ?_).trans e,n,ne,nf,d⟩;intro q;rw[q,T]at e;have q':oc=p.2:=j1 e;exact d Y (by rw[<-q'];exact U)
def oW(I:aU X f g H s)(c:X.N.Nodup)(hi:X.N[i]?=some x)(d:KQ X.env.scope x)(r:bg v u)(h:∀a,aU X f (g.set i (some v)) H a->Q () a)(e:X.fn x=true\/X.env.scope.names.lookup x=some .local:=by first|exact .inl rfl|exact .inr rfl|assumption):wpAny M A (storeName X.env x u) Q E s:=wH I c hi d r (λa b _=>h a b) e
def aU.call'(I:aU X f g H s)(j:s'.os=s.os)(u:Un (j0 X.stack) ch H B s.heap s'.heap)(hok:lO X.prog X.w B s'.heap)(hg:AllBare s'.gens)(a:∀b∈ch,(b∈X.ex\/X.s₀.heap.objs.size<=b)/\b≠X.env.locals/\(∀x c,X.env.cells.lookup x=some c->c≠b)/\∀p∈X.pn++f,p.1≠b):aU X f g B s':=by obtain⟨h',d,h,i,k⟩:=s';have e:k=s.os:=j;subst e;exact I.call (g':=d) (t':=i) (d':=h) u hok hg a
end
abbrev XK:=Value->Option Addr->Hp->Prop
abbrev St:=List (Option V)
abbrev VK:=V->Hp->Prop
abbrev TE:=St->Hp->VK->Prop
abbrev TT:=St->Hp->(Bool->Hp->Prop)->Prop
abbrev TA:=St->Hp->(List V->Hp->Prop)->Prop
structure jq where
 nx:St->Hp->Prop
 rt:VK
 bk:St->Hp->Prop:=λ_ _=>False
 ct:St->Hp->Prop:=λ_ _=>False
abbrev TS:=jq->St->Hp->Prop
def EP(X:Cx)(a:Oh)(c:St)(Q:VK)(u:Value)(d:Shared):Prop:=∃v b,aU X a c b d/\bg v u/\Q v b
def TP(X:Cx)(a:Oh)(d:St)(Q:Bool->Hp->Prop)(b:Bool)(e:Shared):Prop:=∃c,aU X a d c e/\Q b c
def AP(X:Cx)(a:Oh)(d:St)(Q:List V->Hp->Prop)(e:Oj)(f:Shared):Prop:=∃b c,aU X a d c f/\bq b e/\Q b c
def SP(X:Cx)(c:Oh)(D:jq)(f:Flow)(d:Shared):Prop:=match f with|.next=>∃a b,aU X c a b d/\D.nx a b|.brk=>∃a b,aU X c a b d/\D.bk a b|.cont=>∃a b,aU X c a b d/\D.ct a b|.ret u=>∃v a b,aU X c a b d/\bg v u/\D.rt v b
def PE(X:Cx)(e:Expr)(t:TE):Prop:=∀(a:Oh)(s:Shared)(b:St)(H:Hp)(Q:VK),aU X a b H s->t b H Q->wpAny (model X.prog X.w) X.A (eval e X.env) (EP X a b Q) X.xe s
def PT(X:Cx)(e:Expr)(t:TT):Prop:=∀(a:Oh)(s:Shared)(b:St)(H:Hp)(Q:Bool->Hp->Prop),aU X a b H s->t b H Q->wpAny (model X.prog X.w) X.A (isTrue e X.env (eval e X.env)) (TP X a b Q) X.xe s
def PW(X:Cx)(e:Expr)(t:TT):Prop:=∀(b:Sem Value)(a:Oh)(s:Shared)(c:St)(H:Hp)(Q:Bool->Hp->Prop),aU X a c H s->t c H Q->wpAny (model X.prog X.w) X.A (isTrue e X.env b) (TP X a c Q) X.xe s
def PW.pt(h:PW X e t):PT X e t:=h _
def PA(X:Cx)(d:On)(t:TA):Prop:=∀(b:Pos)(a:Oh)(s:Shared)(c:St)(H:Hp)(Q:List V->Hp->Prop),aU X a c H s->t c H Q->wpAny (model X.prog X.w) X.A (spliced (backTo b (starEach d X.env))) (AP X a c Q) X.xe s
def PS(X:Cx)(st:Stmt)(t:TS):Prop:=∀(a:Oh)(s:Shared)(b:St)(H:Hp)(D:jq),aU X a b H s->t D b H->wpAny (model X.prog X.w) X.A (exec st X.env) (SP X a D) X.xe s
def tY(X:Cx)(st:List Stmt)(t:TS):Prop:=∀(a:Oh)(s:Shared)(b:St)(H:Hp)(D:jq),aU X a b H s->t D b H->wpAny (model X.prog X.w) X.A (execs st X.env) (SP X a D) X.xe s
def cB(h:wpAny M A t Q E s)(c:∀a s,Q a s->d a s):wpAny M A t d E s:=wpAny_mono h c λ_ _ x=>x
end L2
namespace L2
open PySem PySem.Spec PyProof.Rows
section
variable{X:Cx}
def DC(i:Nat):TE:=λa H Q=>∃v,a[i]?=some (some v)/\Q v H
def tC(v:V):TE:=λ_ H Q=>Q v H
def JI(j:X.N[i]?=some x)(n:Mj X.env.scope x)(hd:(x==("__debug__":Str))=false:=by decide)(g:(x==("__classdict__":Str))=false:=by decide):PE X (.Name x f) (DC i):=by
 intro d s k H Q I h;obtain⟨v,e,h⟩:=h;obtain⟨m,hn,o⟩:=I.loc;obtain⟨u,r,l⟩:=o i x v j e n;have fin:EP X d k Q u s:=⟨v,H,I,r,h⟩;rcases l with⟨b,hm⟩|⟨b,c,hc,a⟩
 ·exact wpAny_Name (wpAny_loadName_local I.ok.kind b hn hm fin) hd
 ·rcases b with b|b
  ·exact wpAny_Name (wpAny_loadName_cell I.ok.kind b hc a fin) hd
  ·exact wpAny_Name (wpAny_loadName_free I.ok.kind b hc a fin g) hd
def ae{i j f}:PE X (.Constant (.int i) j f) (tC (.int i)):=λ_ _ _ H _ I h=>wpAny_Constant_int ⟨.int i,H,I.tok _,⟨_,rfl⟩,h⟩
def dZ{b j f}:PE X (.Constant (.bool b) j f) (tC (.bl b)):=λ_ _ _ H _ I h=>Constant_bool ⟨.bl b,H,I,rfl,h⟩
def fW{j f}:PE X (.Constant .none j f) (tC .non):=λ_ _ _ H _ I h=>Constant_none ⟨.non,H,I,rfl,h⟩
def aB{x j f}:PE X (.Constant (.str x) j f) (tC (.str x)):=λ_ _ _ H _ I h=>Calls.Constant_str ⟨.str x,H,I.tok _,⟨_,rfl⟩,h⟩
def Gl(X:Cx)(x:Str):Prop:=X.env.kindOf x=some .globalImplicit
def jM(I:aU X a c H s)(hg:Gl X x)(hm:X.mg x=some u)(h:Q u s)(hd:(x==("__debug__":Str))=false:=by decide):wpAny (model X.prog X.w) X.A (eval (.Name x f) X.env) Q E s:=Calls.Name_function_global I.ok.kind hg (Calls.loadGlobal_global (by rw[I.ok.glob];exact I.mod.glob.keeps I.bk) hm h) hd
def lq(I:aU X a d H s)(hg:Gl X x)(hm:X.mg x=none)(c:bootBuiltins x=some u)(h:Q u s)(hn:x≠"__name__":=by decide)(hd:(x==("__debug__":Str))=false:=by decide):wpAny (model X.prog X.w) X.A (eval (.Name x f) X.env) Q E s:=by obtain⟨mb,h1,h2⟩:=I.mod.blt;exact Calls.Name_function_global I.ok.kind hg (Calls.loadGlobal_builtin (by rw[I.ok.glob];exact I.mod.glob.keeps I.bk) hm (by rw[I.ok.blt];exact h1.keeps I.bk) ((h2 x hn).trans c) h) hd
def BD(hg:Gl X x)(hm:X.mg x=some u)(r:bg v u)(hd:(x==("__debug__":Str))=false:=by decide):PE X (.Name x f) (tC v):=λ_ _ _ H _ I h=>jM I hg hm ⟨v,H,I,r,h⟩ hd
def Hb{x:Str}{v:V}{u:Value}{f:Pos}(hg:Gl X x)(hm:X.mg x=none)(a:bootBuiltins x=some u)(r:bg v u)(hn:x≠"__name__":=by decide)(hd:(x==("__debug__":Str))=false:=by decide):PE X (.Name x f) (tC v):=λ_ _ _ H _ I h=>lq I hg hm a ⟨v,H,I,r,h⟩ hn hd
variable{a b:Expr}{g p:TE}{f:Pos}
def PC(X:Cx)(h:CmpOp)(a b:Expr)(t:TE):Prop:=∀(c:Oh)(s:Shared)(e:St)(H:Hp)(Q:VK),aU X c e H s->t e H Q->wpAny (model X.prog X.w) X.A (eval a X.env) (λv s₁=>wpAny (model X.prog X.w) X.A (eval b X.env) (λu d=>wpAny (model X.prog X.w) X.A (compareOp h v u) (EP X c e Q) X.xe d) X.xe s₁) X.xe s
def tB(t:TE):TT:=λd H Q=>t d H λx e=>∃c,x=.bl c/\Q c e
def ox(h:PC X i a b t)(h1:behindInMarks i b=false:=by first|exact nobehind _ (by decide) (by decide)|rfl):PT X (.Compare a [i] [b] f) (tB t):=by intro e s j H Q I k;refine wpAny_isTrue_Compare1 (cB (h e s j H _ I k) λv o h1=>cB h1 λu r h2=>cB h2 λc w⟨x,l,I1,m,n⟩=>?_) h1;obtain⟨d,rfl,q⟩:=n;cases m;exact pu ⟨l,I1,q⟩
variable{n o:TT}{qW:On}
def Mx(t u:TT):TT:=λd H Q=>t d H λc e=>if c=true then u d e Q else Q false e
def tOr(t u:TT):TT:=λd H Q=>t d H λc e=>if c=true then Q true e else u d e Q
def Mt(t:TT):TT:=λd H Q=>t d H λc e=>Q (!c) e
def iP(i:PT X a n):PW X (.BoolOp .And [a] f) n:=by intro k d s j H Q I h;refine isTrue_and (cB (i d s j H Q I h) λc l e=>?_);cases c with|true=>exact isTrue_and_nil e|false=>exact e
def dy(i:PT X a n):PW X (.BoolOp .Or [a] f) n:=by intro k d s j H Q I h;refine isTrue_or (cB (i d s j H Q I h) λc l e=>?_);cases c with|false=>exact isTrue_or_nil e|true=>exact e
def kZ(l:PT X a n)(m:PW X (.BoolOp .And (b::qW) f) o):PW X (.BoolOp .And (a::b::qW) f) (Mx n o):=by intro k d s e H Q I h;refine isTrue_and (cB (l d s e H _ I h) λc q r=>?_);obtain⟨i,I1,j⟩:=r;cases c with|true=>exact m k d q e i Q I1 j|false=>exact⟨i,I1,j⟩
def eS(l:PT X a n)(m:PW X (.BoolOp .Or (b::qW) f) o):PW X (.BoolOp .Or (a::b::qW) f) (tOr n o):=by intro k d s e H Q I h;refine isTrue_or (cB (l d s e H _ I h) λc q r=>?_);obtain⟨i,I1,j⟩:=r;cases c with|true=>exact⟨i,I1,j⟩|false=>exact m k d q e i Q I1 j
def bO(e:PT X a n):PT X (.UnaryOp .Not a f) (Mt n):=by intro d s i H Q I h;exact isTrue_not (e d s i H (λc j=>Q (!c) j) I h)
def La(g p:TE):TE:=λd H Q=>g d H λx e=>∃c,x=.bl c/\if c=true then p d e Q else Q (.bl false) e
def Ms(g p:TE):TE:=λd H Q=>g d H λx e=>∃c,x=.bl c/\if c=true then Q (.bl true) e else p d e Q
def K3(g:TE):TE:=λd H Q=>g d H λx e=>∃c,x=.bl c/\Q (.bl (!c)) e
def cQ{d}(h:PE X a t):PE X (.BoolOp d [a] f) t:=λc s e H Q I i=>BoolOp_one (h c s e H Q I i)
def bP(l:PE X a g)(m:PE X (.BoolOp .And (b::qW) f) p):PE X (.BoolOp .And (a::b::qW) f) (La g p):=by intro d s i H Q I h;refine BoolOp_and (cB (l d s i H _ I h) λv k q=>?_);obtain⟨x,j,I1,r,e⟩:=q;obtain⟨c,rfl,e⟩:=e;cases r;refine pu ?_;cases c with|true=>exact m d k i j Q I1 e|false=>exact⟨.bl false,j,I1,rfl,e⟩
def Lu(l:PE X a g)(m:PE X (.BoolOp .Or (b::qW) f) p):PE X (.BoolOp .Or (a::b::qW) f) (Ms g p):=by intro d s i H Q I h;refine BoolOp_or (cB (l d s i H _ I h) λv k q=>?_);obtain⟨x,j,I1,r,e⟩:=q;obtain⟨c,rfl,e⟩:=e;cases r;refine pu ?_;cases c with|false=>exact m d k i j Q I1 e|true=>exact⟨.bl true,j,I1,rfl,e⟩
def Au(i:PE X a g):PE X (.UnaryOp .Not a f) (K3 g):=by intro d s j H Q I h;refine UnaryOp_ (cB (i d s j H _ I h) λv q k=>?_);obtain⟨x,l,I1,m,e⟩:=k;obtain⟨c,rfl,e⟩:=e;cases m;exact not_of (pu ⟨.bl (!c),l,I1,rfl,e⟩)
end
end L2
namespace L2
open PySem PySem.Spec PyProof.Rows
def be(K:Of)(H:Hp)(a:Addr)(c:List V):Prop:=Rd H a (.lst c)\/∃(o:Obj)(b:Oo)(n:Nat),K.lookup a=some o/\o.cls=.type "list"/\o.dict=none/\o.data=.seq b n/\b.size<=sizeLine/\bq c b.toList
def bj(K:Of)(H:Hp)(a:Addr)(c:List V):Prop:=Rd H a (.tup c)\/∃(o:Obj)(b:Oo)(n:Nat),K.lookup a=some o/\o.cls=.type "tuple"/\o.data=.seq b n/\b.size<=sizeLine/\bq c b.toList
def MQ:Value->Option V|.none=>some .non|.bool b=>some (.bl b)|.int i _=>some (.int i)|.str x _=>some (.str x)|.bytes b _=>some (.byt b)|.float b _=>some (.flt b)|.ref a=>some (.ref a)|.type n=>some (.ty n)|_=>none
def bg.abs(r:bg x u):MQ u=some x:=by cases x with|non=>cases r;rfl|bl _=>cases r;rfl|int _=>obtain⟨t,rfl⟩:=r;rfl|str _=>obtain⟨t,rfl⟩:=r;rfl|byt _=>obtain⟨t,rfl⟩:=r;rfl|flt _=>obtain⟨t,rfl⟩:=r;rfl|ref _=>cases r;rfl|ty _=>cases r;rfl
def bg.inj(r:bg x u)(q:bg y u):x=y:=j1 (r.abs.symm.trans q.abs)
theorem bq.inj:∀{a c:List V}{d:Oj},bq a d->bq c d->a=c|_,_,_,.nil,.nil=>rfl|_,_,_,.cons r t,.cons b e=>by rw[r.inj b,bq.inj t e]
section
variable{X:Cx}{c:Oh}{g:St}{H:Hp}{s:Shared}{a:Addr}{xs f:List V}
def be.of{K:Of}(h:H a=some (.lst xs)):be K H a xs:=.inl (.inl h)
def bj.of{K:Of}(h:H a=some (.tup xs)):bj K H a xs:=.inl (.inl h)
def aU.list(I:aU X c g H s)(h:be X.K H a xs):∃d:List Value,bq xs d/\PlainL s.heap a d.toArray/\xs.length<=sizeLine:=by
 rcases h with h|⟨o,d,n,b,hc,hd,i,j,r⟩
 ·obtain⟨z,d,n,r,e⟩:=h.ok I.hok;exact⟨d,r,⟨_,n,e,rfl,rfl,rfl⟩,z⟩
 ·refine⟨d.toList,r,⟨o,n,I.kIn a o b,hc,hd,by simpa using i⟩,?_⟩;have e:=r.length;simp only[j2]at e;lia
def aU.tuple(I:aU X c g H s)(h:bj X.K H a xs):∃d:List Value,bq xs d/\IsTup s.heap a d.toArray/\xs.length<=sizeLine:=by
 rcases h with h|⟨o,d,n,b,hc,i,j,r⟩
 ·obtain⟨z,d,r,p⟩:=h.ok I.hok;exact⟨d,r,p,z⟩
 ·refine⟨d.toList,r,⟨o,I.kIn a o b,hc,n,by simpa using i⟩,?_⟩;have e:=r.length;simp only[j2]at e;lia
def aU.list_inj(I:aU X c g H s)(h:be X.K H a xs)(h':be X.K H a f):xs=f:=by
 obtain⟨i,r,⟨o,n,e,_,_,d⟩,_⟩:=I.list h;obtain⟨b,l,⟨p,q,j,_,_,k⟩,_⟩:=I.list h';rw[e]at j;cases j;rw[d]at k;injection k with m _;have:i=b:=by simpa using r_ Array.toList m
 subst this;exact r.inj l
def aU.tuple_inj(I:aU X c g H s)(h:bj X.K H a xs)(h':bj X.K H a f):xs=f:=by
 obtain⟨i,r,⟨o,e,_,n,d⟩,_⟩:=I.tuple h;obtain⟨b,l,⟨p,j,_,q,k⟩,_⟩:=I.tuple h';rw[e]at j;cases j;rw[d]at k;injection k with m _;have:i=b:=by simpa using r_ Array.toList m
 subst this;exact r.inj l
end
abbrev Cx.wish(X:Cx)(E:Og):Cx:={X with xe:=E}
abbrev Cx.nox(X:Cx):Cx:=X.wish λ_ _=>False
theorem Cx.Ok.wish{X:Cx}(ok:X.Ok)(E:Og):(X.wish E).Ok:=⟨ok.mod,ok.kind,ok.glob,ok.blt,ok.above,ok.inj,ok.has,ok.cab,ok.hd,ok.frames,ok.stk,ok.exf,ok.bs,ok.bsz,ok.noex,ok.exfs,ok.funs,ok.frf⟩
def Cx.Ok.unwish{X:Cx}{E:Og}(ok:(X.wish E).Ok):X.Ok:=⟨ok.mod,ok.kind,ok.glob,ok.blt,ok.above,ok.inj,ok.has,ok.cab,ok.hd,ok.frames,ok.stk,ok.exf,ok.bs,ok.bsz,ok.noex,ok.exfs,ok.funs,ok.frf⟩
section
variable{X:Cx}{a:Oh}{c:St}{H:Hp}{s:Shared}{E:Og}
theorem aU.wish(I:aU X a c H s)(E:Og):aU (X.wish E) a c H s:=⟨I.ok.wish E,I.os,I.bare,I.base,I.loc,I.cell,I.free,I.freeC,I.pin,I.hok,I.len⟩
theorem aU.unwish(I:aU (X.wish E) a c H s):aU X a c H s:=⟨I.ok.unwish,I.os,I.bare,I.base,I.loc,I.cell,I.free,I.freeC,I.pin,I.hok,I.len⟩
theorem SP.unwish(h:SP (X.wish E) a D f e):SP X a D f e:=by cases f with|next=>obtain⟨b,d,I,q⟩:=h;exact⟨b,d,I.unwish,q⟩|brk=>obtain⟨b,d,I,q⟩:=h;exact⟨b,d,I.unwish,q⟩|cont=>obtain⟨b,d,I,q⟩:=h;exact⟨b,d,I.unwish,q⟩|ret u=>obtain⟨v,b,d,I,r,q⟩:=h;exact⟨v,b,d,I.unwish,r,q⟩
theorem tY.nox{st:List Stmt}{t:TS}(h:tY X.nox st t):tY X st t:=λa s c H D I b=>wpAny_mono (h a s c H D (I.wish _) b) (λ_ _ q=>q.unwish) λ_ _ z=>False.elim z
end
section
variable{X:Cx}{st:Stmt}{qW:List Stmt}{t u:TS}{e:Expr}{te:TE}{g:Pos}
def wF:TS:=λD a H=>D.nx a H
def Ag(t u:TS):TS:=λD a H=>t {D with nx:=u D} a H
def aE:tY X [] wF:=λ_ _ a H _ I h=>M7 ⟨a,H,I,h⟩
def ah(h1:PS X st t)(h2:tY X qW u):tY X (st::qW) (Ag t u):=by intro a s c H D I h;refine Nt (cB (h1 a s c H {D with nx:=u D} I h) λf d q=>?_);cases f with|next=>obtain⟨b,i,j,q⟩:=q;exact h2 a d b i D j q|ret v=>exact q|brk=>exact q|cont=>exact q
def ai(h1:PS X st t):tY X [st] t:=by intro a s b H D I h;refine Nt (cB (h1 a s b H D I h) λf c q=>?_);cases f with|next=>exact M7 q|ret v=>exact q|brk=>exact q|cont=>exact q
def aU.quiet(I:aU X a c H s):interactive X.env=false:=by simp[interactive,I.ok.kind]
def Io(te:TE):TS:=λD a H=>te a H λ_ b=>D.nx a b
def aO(c:PE X e te)(d:swapsWith e none g.line X.env=pure false:=by rfl):PS X (.Expr e g) (Io te):=by intro a s b H D I h;exact wpAny_Expr_any (cB (c a s b H _ I h) λv j⟨x,f,I1,k,i⟩=>⟨b,f,I1,i⟩) I.quiet d
def K1(te:TE):TS:=λD a H=>te a H D.rt
def aF(c:PE X e te):PS X (.Return (some e) g) (K1 te):=by intro a s b H D I h;refine wpAny_Return_some (cB (c a s b H _ I h) λv k d=>?_);obtain⟨x,f,I1,i,j⟩:=d;exact⟨x,b,f,I1,i,j⟩
def DF(c:TT)(t u:TS):TS:=λD a H=>c a H λb d=>if b=true then t D a d else u D a d
def aP(hc:PT X c tc)(m:tY X a t)(n:tY X b u):PS X (.If c a b g) (DF tc t u):=by intro f s i H D I h;refine wpAny_If (cB (hc f s i H _ I h) λd j o=>?_);obtain⟨k,I1,l⟩:=o;cases d with|true=>exact m f j i k D I1 l|false=>exact n f j i k D I1 l
def IU:TS:=λ_ _ _=>False
def cJ:PS X st IU:=λ_ _ _ _ _ _ h=>h.elim
end
abbrev TG:=V->St->Hp->(St->Hp->Prop)->Prop
abbrev KN:=List V->St->Hp->(St->Hp->Prop)->Prop
def PG(X:Cx)(a:Expr)(t:TG):Prop:=∀(b:Oh)(s:Shared)(d:St)(H:Hp)(v:V)(u:Value)(Q:St->Hp->Prop),aU X b d H s->bg v u->t v d H Q->wpAny (model X.prog X.w) X.A (assign a X.env u) (λ_ f=>∃c e,aU X b c e f/\Q c e) X.xe s
def Ku(X:Cx)(g:On)(t:KN):Prop:=∀(a:Oh)(s:Shared)(c:St)(H:Hp)(d:List V)(e:Oj)(Q:St->Hp->Prop),aU X a c H s->bq d e->t d c H Q->wpAny (model X.prog X.w) X.A (assignInOrder ((assignEach g X.env).map (·.2)) e) (λ_ h=>∃b f,aU X a b f h/\Q b f) X.xe s
abbrev HX:=V->V->V->Hp->(Hp->Prop)->Prop
def Ic(X:Cx)(t:HX):Prop:=∀(a:Oh)(s:Shared)(b:St)(H:Hp)(o i v:V)(c iv u:Value)(Q:Hp->Prop),aU X a b H s->bg o c->bg i iv->bg v u->t o i v H Q->wpAny (model X.prog X.w) X.A (setItem c iv u) (λ_ e=>∃d,aU X a b d e/\Q d) X.xe s
section
variable{X:Cx}{c:Pos}
def kK(i:Nat):TG:=λv a H Q=>Q (a.set i (some v)) H
def BC(d:X.N.Nodup)(hi:X.N[i]?=some x)(e:KQ X.env.scope x)(f:X.fn x=true\/X.env.scope.names.lookup x=some .local:=by first|exact .inl rfl|exact .inr rfl|assumption):PG X (.Name x c) (kK i):=by intro a s g H v u Q I r h;exact wpAny_assign_Name (oW I d hi e r (λj b=>⟨_,H,b,h⟩) f)
def LV:KN:=λa b H Q=>a=[]/\Q b H
def FB(t:TG)(u:KN):KN:=λb d H Q=>∃v r,b=v::r/\t v d H λa e=>u r a e Q
def iU:Ku X [] LV:=by intro a s b H d f Q I r h;obtain⟨e,h⟩:=h;subst e;cases r;exact assignInOrder_nil ⟨b,H,I,h⟩
def cg(h1:PG X e t)(h2:Ku X d u)(f:(assignEach (e::d) X.env).map (·.2)=assign e X.env::(assignEach d X.env).map (·.2):=by rfl):Ku X (e::d) (FB t u):=by intro a s g H o p Q I r h;obtain⟨v,q,i,h⟩:=h;subst i;cases r with|cons r j=>rw[f];refine assignInOrder_cons (cB (h1 a s g H _ _ _ I r h) λ_ k l=>?_);obtain⟨b,m,I1,n⟩:=l;exact h2 a k b m _ _ Q I1 j n
def Ka(K:Of)(n:Nat)(t:KN):TG:=λv d H Q=>∃a b,v=.ref a/\bj K H a b/\b.length=n/\t b d H Q
def JH(hc:X.calm=true)(h:Ku X f t)(hn:(assignEach f X.env).length=n:=by rfl)(g:(assignEach f X.env).findIdx? (·.1)=none:=by rfl):PG X (.Tuple f k c) (Ka X.K n t):=by intro d s j H v u Q I r i;obtain⟨a,m,p,q,w,i⟩:=i;subst p;cases r;obtain⟨x,l,y,A⟩:=I.tuple q;refine assign_Tuple_tuple (I.ok.hd hc) y (by simp[hn,<-w,l.length]) g λh' z=>?_;have I1:aU X d j H {s with heap:=h'}:=I.kept (t':=s.toks) λb o e=>z b o (ig (g_ e)) e;exact h d _ j H m _ Q I1 (by simpa using l) i
def MM(d e:TE)(t:HX):TG:=λv a H Q=>d a H λo b=>e a b λi f=>t o i v f λg=>Q a g
def lc(f:PE X o g)(hi:PE X i j)(l:Ic X t)(m:∀v,assign (.Subscript o i c) X.env v=(do
   let d<-holding [v] (eval o X.env)let iv<-holding [v,d] (eval i X.env)standAt c
   holding [v,d,iv] (setItem d iv v)release [v,d,iv] []):=by intro _;rfl):PG X (.Subscript o i c) (MM g j t):=by intro a s e H v u Q I r h;rw[m];refine a_ (mu (cB (f a s e H _ I h) λd k b=>?_));obtain⟨x,n,I1,p,q⟩:=b;refine a_ (mu (cB (hi a k e n _ I1 q) λiv w b=>?_));obtain⟨y,z,A,r2,B⟩:=b;refine a_ (wpAny_standAt (a_ (mu (cB (l a w e z x y v d iv u _ A p r2 r B) λ_ F b=>?_))));obtain⟨C,D,E⟩:=b;exact wpAny_release ⟨e,C,D,E⟩
def yE(te:TE)(g:TG):TS:=λD a H=>te a H λx b=>g x a b D.nx
def k9(f:PE X e te)(hg:PG X d g)(i:swapsWithSole [d] e c.line X.env=pure false:=by rfl)(j:swappedStores [d] e X.env=pure none:=by rfl)(h1:(assignEach [d] X.env).map (·.2)=[assign d X.env]:=by rfl):PS X (.Assign [d] e c) (yE te g):=by intro a s b H D I h;refine wpAny_Assign_stores (cB (f a s b H _ I h) λv k⟨x,l,I1,m,n⟩=>?_) i j;rw[h1];exact cB (hg a k b l x v _ I1 m n) λ_ o q=>q
def xE(d:X.N.Nodup)(hi:X.N[i]?=some x)(f:KQ X.env.scope x)(g:PE X e te)(j:swapsWith e (some (.Name x a)) c.line X.env=pure false:=by rfl)(l:X.fn x=true\/X.env.scope.names.lookup x=some .local:=by first|exact .inl rfl|exact .inr rfl|assumption):PS X (.Assign [.Name x a] e c) (yE te (kK i)):=by intro b s k H D I h;refine wpAny_Assign_Name (cB (g b s k H _ I h) λv q⟨y,m,I1,n,o⟩=>?_) j;exact oW I1 d hi f n (λr p=>⟨_,m,p,o⟩) l
end
section
variable{X:Cx}{a:Pos}
end
structure It where
 go:Nat->Hp->Prop
 yld:Nat->Hp->V->Hp->Prop
 stop:Nat->Hp->Prop
def wy(X:Cx)(a:Oh)(H:Hp)(b:Addr):Prop:=H b=none/\b≠X.env.locals/\b∉X.fs/\(b∈X.ex\/X.s₀.heap.objs.size<=b)/\(∀x c,X.env.cells.lookup x=some c->c≠b)/\∀p∈X.pn++a,p.1≠b
def aU.fpOk(I:aU X a h H s)(d:s.heap.objs.size<=b)(hn:f b=none):wy X a f b:=by
 refine⟨hn,me (lh I.lt d),I.nofs d,.inr (kl I.sz d),λx c e z=>?_,λp g z=>?_⟩
 ·obtain⟨v,q⟩:=I.cell x c e;exact absurd (lh q.lt (by rw[z];exact d)) (ot _)
 ·exact absurd (lh (g_ (I.pin p g).1) (by rw[z];exact d)) (ot _)
structure ww(P:Ol)(w:World)(K:Of)(tg:Expr)(J:It)(fp:Oq)(it:Addr)(tn:Nat->Heap->Prop):Prop where
 mem:it∈fp
 obj:∀i h,tn i h->∀b∈fp,∃o,h.get? b=some o/\∀v,o.data≠.cell v
 keep:∀i h h',tn i h->(∀b∈fp,∀o,h.get? b=some o->h'.get? b=some o)->tn i h'
 item:∀(X:Cx),X.prog=P->X.w=w->X.K=K->X.calm=true->∀(i:Nat)(pins:Oh)(s:Shared)(σ:St)(H:Hp)(E:Og),aU X pins σ H s->(∀b∈fp,wy X pins H b)->tn i s.heap->J.go i H->wpAny (model P w) X.A (pyNext (.ref it)) (λr s1=>∃u,r=some u/\wpAny (model P w) X.A (letOwnedTupleGo tg (.ref it) u) (λ_ s2=>∃x H',aU X pins σ H' s2/\bg x u/\J.yld i H x H'/\tn (i+1) s2.heap/\∀b∈fp,H' b=none) E s1) E s
 done:∀(X:Cx),X.prog=P->X.w=w->X.K=K->X.calm=true->∀(i:Nat)(pins:Oh)(s:Shared)(σ:St)(H:Hp)(E:Og),aU X pins σ H s->(∀b∈fp,wy X pins H b)->tn i s.heap->J.stop i H->wpAny (model P w) X.A (pyNext (.ref it)) (λr s1=>r=none/\aU X pins σ H s1) E s
 self:∀(A:Around)(i:Nat)(s:Shared)(Q:Og)(E:Og),tn i s.heap->Q (.ref it) s->wpAny (model P w) A (pyIter (.ref it)) Q E s
abbrev TI:=St->Hp->(It->Hp->Prop)->Prop
def MT(X:Cx)(a:Oh)(f:St)(g:Expr)(R:It->Hp->Prop)(c:Value)(e:Shared):Prop:=∃(it:Addr)(fp:Oq)(tn:Nat->Heap->Prop)(J:It)(d:Hp),c=.ref it/\aU X a f d e/\ww X.prog X.w X.K g J fp it tn/\tn 0 e.heap/\(∀b∈fp,wy X a d b)/\R J d
def PI(X:Cx)(c iter:Expr)(d:TI):Prop:=∀(a:Oh)(s:Shared)(b:St)(H:Hp)(R:It->Hp->Prop),aU X a b H s->d b H R->wpAny (model X.prog X.w) X.A (eval iter X.env) (λv e=>wpAny (model X.prog X.w) X.A (pyIter v) (MT X a b c R) X.xe e) X.xe s
def wZ(c:s.heap.get? it=some o)(hc:o.cls=.type n)(hd:o.data=.fields d)(hn:["enumerate","zip","dict_itemiterator","dict_reverseitemiterator","odict_iterator","itertools.zip_longest","itertools.pairwise"].contains n=false)(a:Q () s):wpAny M A (letOwnedTupleGo e (.ref it) u) Q E s:=by unfold letOwnedTupleGo;cases e<;>first|exact e_ a|(cases u<;>first
 |exact e_ a
    |(refine a_ (wpAny_load c ?_)
      rw[hc,hd];show wpAny M A (if(["enumerate","zip","dict_itemiterator","dict_reverseitemiterator","odict_iterator","itertools.zip_longest","itertools.pairwise"].contains n&&d[0]?==some (rawInt _))=true then _ else _) Q E s;rw[g8 (by intro h;rw[hn,Bool.false_and]at h;cases h)];exact e_ a))
def IK(K:Of)(a:Addr):It:=⟨λi H=>∃b x,be K H a b/\b[i]?=some x,λi H x c=>c=H/\∀b,be K H a b->b[i]?=some x,λi H=>∃b,be K H a b/\b.length<=i⟩
def IJ(K:Of)(a:Addr):It:=⟨λi H=>∃b x,bj K H a b/\b[i]?=some x,λi H x c=>c=H/\∀b,bj K H a b->b[i]?=some x,λi H=>∃b,bj K H a b/\b.length<=i⟩
def Gf(lo:Int)(n:Nat):It:=⟨λi _=>i<n,λi H x a=>a=H/\x=.int (lo+i),λi _=>n<=i⟩
def Cb{P:Ol}{w:World}{K:Of}{G:Expr}(a it:Addr):ww P w K G (IK K a) [it] it (λi h=>h.IsListIter it a i)where
 mem:=by simp
 obj:=λi h st b g=>by
  have e:b=it:=by simpa using g
  subst e;obtain⟨o,e,c,d⟩:=st;exact⟨o,e,λv z=>by rw[d]at z;cases z⟩
 keep:=λi h h' st k=>st.at λo e=>k it (by simp) o e
 item:=by intro X n q r hc i f s F H E I l st hg;subst n q r;obtain⟨J,x,m,t⟩:=hg;obtain⟨y,A,p,L⟩:=I.list m;obtain⟨u,M,ru⟩:=A.get t;obtain⟨B,f1,f2,f3,C,D⟩:=l it (by simp);refine wpAny_pyNext_list_item st p.isList (x:=u) (by simpa using M) λh' j N=>?_;have I1:aU X f F H {s with heap:=h'}:=I.turned (t':=s.toks) (λb o g e=>(N.2 b g).trans e) B f1 f3 C D;obtain⟨o,e,c,d⟩:=id j;exact⟨u,rfl,wZ (s:={s with heap:=h'}) e c d (by decide) ⟨x,H,I1,ru,⟨rfl,λS Q=>by rw[I.list_inj Q m];exact t⟩,j,λb g=>(l b g).1⟩⟩
 done:=by intro X n q r hc i f s F H E I l st hg;subst n q r;obtain⟨J,m,t⟩:=hg;obtain⟨y,A,p,L⟩:=I.list m;obtain⟨B,f1,f2,f3,C,D⟩:=l it (by simp);have T:=A.length;exact wpAny_pyNext_list_end (I.ok.hd hc) st p.isList (by simp;lia) λh' R=>⟨rfl,I.turned (t':=s.toks) (λb o g e=>R b o g e) B f1 f3 C D⟩
 self:=λ_ _ _ _ _ st h=>wpAny_pyIter_listiter st h
def Ad{P:Ol}{w:World}{K:Of}{G:Expr}(a it:Addr):ww P w K G (IJ K a) [it] it (λi h=>h.IsTupleIter it a i)where
 mem:=by simp
 obj:=λi h st b g=>by
  have e:b=it:=by simpa using g
  subst e;obtain⟨o,e,c,d⟩:=st;exact⟨o,e,λv z=>by rw[d]at z;cases z⟩
 keep:=λi h h' st k=>st.at λo e=>k it (by simp) o e
 item:=by intro X q r t hc i f s F H E I m st hg;subst q r t;obtain⟨J,x,n,y⟩:=hg;obtain⟨j,A,p,L⟩:=I.tuple n;obtain⟨u,M,ru⟩:=A.get y;obtain⟨B,f1,f2,f3,C,D⟩:=m it (by simp);refine wpAny_pyNext_tuple_item st (show s.heap.IsTuple a j.toArray from p) (x:=u) (by simpa using M) λh' l N=>?_;have I1:aU X f F H {s with heap:=h'}:=I.turned (t':=s.toks) (λb o g e=>(N.2 b g).trans e) B f1 f3 C D;obtain⟨o,e,c,d⟩:=id l;exact⟨u,rfl,wZ (s:={s with heap:=h'}) e c d (by decide) ⟨x,H,I1,ru,⟨rfl,λS Q=>by rw[I.tuple_inj Q n];exact y⟩,l,λb g=>(m b g).1⟩⟩
 done:=by intro X q r t hc i f s F H E I m st hg;subst q r t;obtain⟨J,n,y⟩:=hg;obtain⟨j,A,p,L⟩:=I.tuple n;obtain⟨B,f1,f2,f3,C,D⟩:=m it (by simp);have T:=A.length;exact wpAny_pyNext_tuple_end (I.ok.hd hc) st (show s.heap.IsTuple a j.toArray from p) (by simp;lia) λh' R=>⟨rfl,I.turned (t':=s.toks) (λb o g e=>R b o g e) B f1 f3 C D⟩
 self:=λ_ _ _ _ _ st h=>wpAny_pyIter_tupleiter st h
def Ae{P:Ol}{w:World}{K:Of}{u:Expr}(it:Addr)(lo:Int)(n:Nat):ww P w K u (Gf lo n) [it] it (λi h=>IsRangeIter h it (lo+(i:Nat)*1) ((n:Int)-(i:Nat)) 1)where
 mem:=by simp
 obj:=λi h st b c=>by
  have e:b=it:=by simpa using c
  subst e;exact⟨_,st,λv z=>by have x:Data.fields _=Data.cell v:=z;cases x⟩
 keep:=λi h h' st k=>k it (by simp) _ st
 item:=by intro X g j l hc i a s r H E I f st hg;subst g j l;obtain⟨m,f1,f2,f3,p,q⟩:=f it (by simp);have W:=Walks.range (prog:=X.prog) (w:=X.w) (I.ok.hd hc) it lo 1 n;refine W.item i s _ _ hg st λv h' tk y d A=>?_;obtain⟨t,rfl⟩:=y;have I1:aU X a r H {s with heap:=h',toks:=tk}:=I.turned (λb o c e=>A b o (by simpa using c) e) m f1 f3 p q;refine⟨_,rfl,wZ (s:={s with heap:=h',toks:=tk}) (n:="range_iterator") d rfl rfl (by decide) ⟨.int (lo+i),H,I1,⟨t,?_⟩,⟨rfl,rfl⟩,d,λb c=>(f b c).1⟩⟩;rw[Int.mul_one]
 done:=by intro X g j l hc i a s r H E I f st hg;subst g j l;obtain⟨m,f1,f2,f3,p,q⟩:=f it (by simp);exact wpAny_pyNext_range_end (I.ok.hd hc) st (by have:n<=i:=hg;lia) λh' B=>⟨rfl,I.turned (t':=s.toks) (λb o c e=>B b o c e) m f1 f3 p q⟩
 self:=λ_ _ _ _ _ st h=>wpAny_pyIter_rangeiter st h
end L2
namespace L2
open PySem PySem.Spec PyProof.Rows
section
variable{X:Cx}{c:Expr}
def Iz(K:Of)(d:TE):TI:=λe H R=>d e H λx b=>∃a,x=.ref a/\(∃f,be K b a f)/\R (IK K a) b
def LO(K:Of)(d:TE):TI:=λe H R=>d e H λx b=>∃a,x=.ref a/\(∃f,bj K b a f)/\R (IJ K a) b
def G5{l:Expr}{g:TE}(i:PE X l g):PI X c l (Iz X.K g):=by
 intro d s j H R I h;refine cB (i d s j H _ I h) λv f k=>?_;obtain⟨x,m,I1,n,r⟩:=k;obtain⟨a,e,⟨y,t⟩,q⟩:=r;subst e;cases n;obtain⟨u,z,p,A⟩:=I1.list t;refine Nh p.isList ?_;refine⟨f.heap.objs.size,[f.heap.objs.size],_,_,m,rfl,I1.kept (t':=f.toks) λb o e=>c_ _ e,Cb a _,⟨_,ge _ rfl,rfl,rfl⟩,λb w=>?_,q⟩;have e:b=f.heap.objs.size:=by simpa using w
 subst e;exact I1.fpOk (fx _) (I1.hok.fresh (fx _))
def JG{l:Expr}{i:TE}(j:PE X l i):PI X c l (LO X.K i):=by
 intro d s k H R I h;refine cB (j d s k H _ I h) λv f m=>?_;obtain⟨x,n,I1,r,t⟩:=m;obtain⟨a,e,⟨y,u⟩,q⟩:=t;subst e;cases r;obtain⟨g,z,p,A⟩:=I1.tuple u;refine E2 (show f.heap.IsTuple a g.toArray from p) ?_;refine⟨f.heap.objs.size,[f.heap.objs.size],_,_,n,rfl,I1.kept (t':=f.toks) λb o e=>c_ _ e,Ad a _,⟨_,ge _ rfl,rfl,rfl⟩,λb w=>?_,q⟩;have e:b=f.heap.objs.size:=by simpa using w
 subst e;exact I1.fpOk (fx _) (I1.hok.fresh (fx _))
def yT{a:Oh}{d:St}{H:Hp}{s:Shared}{R:It->Hp->Prop}{E:Og}{lo hi:Int}{t u v:Tok}{tk:Nat}(I:aU X a d H s)(h1:-(2^62)<=lo)(h2:lo<2^62)(h3:-(2^62)<=hi)(h4:hi<2^62)(q:R (Gf lo (hi-lo).toNat) H):wpAny (model X.prog X.w) X.A (pyIter (.ref s.heap.objs.size)) (MT X a d c R) E {s with heap:=s.heap.push {cls:=.type "range",data:=.fields #[.int lo t,.int hi u,.int 1 v]},toks:=tk}:=by
 refine wpAny_pyIter_range (IsRange.new ..) (small_one h1 h2 h3 h4) ?_;have I1:aU X a d H {s with heap:=s.heap.push {cls:=.type "range",data:=.fields #[.int lo t,.int hi u,.int 1 v]},toks:=tk}:=I.kept λb o e=>c_ _ e;refine⟨(s.heap.push {cls:=.type "range",data:=.fields #[.int lo t,.int hi u,.int 1 v]}).objs.size,[(s.heap.push {cls:=.type "range",data:=.fields #[.int lo t,.int hi u,.int 1 v]}).objs.size],_,_,H,rfl,I1.kept (t':=tk) λb o e=>c_ _ e,Ae _ lo (hi-lo).toNat,?_,λb f=>?_,q⟩
 ·have g:lo+((0:Nat):Int)*1=lo:=by simp
  have h:(((hi-lo).toNat:Nat):Int)-((0:Nat):Int)=Builtin.Range.rangeSize lo hi 1:=by rw[rangeSize_one];split<;>lia
  show IsRangeIter _ _ (lo+((0:Nat):Int)*1) ((((hi-lo).toNat:Nat):Int)-((0:Nat):Int)) 1;rw[g,h];exact ge _ rfl
 ·have e:b=(s.heap.push {cls:=.type "range",data:=.fields #[.int lo t,.int hi u,.int 1 v]}).objs.size:=by simpa using f
  subst e;exact I1.fpOk (fx _) (I1.hok.fresh (fx _))
def LQ(a:TA):TI:=λb H R=>a b H λd e=>∃j:Int,d=[.int j]/\-(2^62)<=j/\j<2^62/\R (Gf 0 j.toNat) e
def LP(a:TA):TI:=λb H R=>a b H λd e=>∃i j:Int,d=[.int i,.int j]/\(-(2^62)<=i/\i<2^62/\-(2^62)<=j/\j<2^62)/\R (Gf i (j-i).toNat) e
def eK{a:Expr}{g:TA}{p d:Pos}(hg:Gl X "range")(hm:X.mg "range"=none)(i:PA X [a] g)(l:starEach [a] X.env=[(false,eval a X.env)]:=by rfl):PI X c (.Call (.Name "range" p) [a] [] d) (LQ g):=by intro b s k H R I h;refine Call_ (lq I hg hm boot_range (t4 (cB (i d b s k H _ I h) λu v⟨w,x,I1,m,f⟩=>?_) l rfl));obtain⟨j,e,f,n,q⟩:=f;subst e;cases m with|cons r o=>cases o;obtain⟨t,rfl⟩:=r;exact call_range_1 (yT I1 (by lia) (by lia) f n (by simpa using q))
def wN(hg:Gl X "range")(hm:X.mg "range"=none)(m:PA X [a,b] n)(o:starEach [a,b] X.env=[(false,eval a X.env),(false,eval b X.env)]:=by rfl)(d:starEach [b] X.env=[(false,eval b X.env)]:=by rfl):PI X c (.Call (.Name "range" p) [a,b] [] g) (LP n):=by intro f s u H R I h;refine Call_ (lq I hg hm boot_range (t4 (cB (m g f s u H _ I h) λA B⟨C,D,I1,v,k⟩=>?_) (by rw[o,d]) (by rw[d];rfl)));obtain⟨i,j,e,⟨k,w,x,y⟩,q⟩:=k;subst e;cases v with|cons r l=>cases l with|cons z l=>cases l;obtain⟨t,rfl⟩:=r;obtain⟨E,rfl⟩:=z;exact call_range_2 (yT I1 k w x y q)
def Mv(h:TI)(g:TG)(j:TS):TS:=λD a H=>h a H λJ k=>∃W:Nat->Nat->St->Hp->Prop,(∃m,W 0 m a k)/\∀i m a H,W i m a H->(J.stop i H/\D.nx a H)\/(J.go i H/\∃N:St->Hp->Prop,(∀b d,N b d->∃f,f<m/\W (i+1) f b d)/\∀x d,J.yld i H x d->g x a d λe l=>j {D with nx:=N,ct:=N,bk:=D.nx} e l)
def uO(fp:Oq)(h:Heap):List (Addr×Obj):=fp.filterMap λb=>(h.get? b).map λo=>(b,o)
def lg(a:b∈fp)(e:h.get? b=some o):(b,o)∈uO fp h:=Nf.mpr ⟨b,a,by rw[e];rfl⟩
def CK(a:p∈uO fp h):p.1∈fp/\h.get? p.1=some p.2:=by obtain⟨b,d,e⟩:=Nf.mp a;cases q:h.get? b with|none=>rw[q]at e;cases e|some o=>rw[q]at e;have f:(b,o)=p:=j1 e;subst f;exact⟨d,q⟩
def aU.pinned(I:aU X a h H s)(i:∀b∈fp,wy X a H b)(j:∀b∈fp,∃o,s.heap.get? b=some o/\∀v,o.data≠.cell v):aU X (a++uO fp s.heap) h H s:=I.pins_of λp k=>(List.mem_append.mp k).elim (λz=>I.pin p (l_ _ z)) λz=>by obtain⟨f,e⟩:=CK z;obtain⟨l,f1,f2,_⟩:=i p.1 f;obtain⟨o,g,d⟩:=j p.1 f;rw[e]at g;cases g;exact⟨e,l,f1,f2,d⟩
def aU.unpinned(I:aU X (a++pl) d H s):aU X a d H s:=I.pins_of λp b=>I.pin p (l_ _ (vr _ b))
def fE(E:PassesOwn (model X.prog X.w) X.A X.env X.xe)(hc:X.calm=true)(hi:PI X c iter wi)(hg:PG X c g)(l:tY X F tb)(hs:∀x,foldedSetIterable iter X.env x=pure x:=by intro _;rfl):PS X (.For c iter F [] aa) (Mv wi g tb):=by
 intro a s Z H D I h;refine wpAny_For (cB (hi a s Z H _ I h) λv s1 h1=>cB h1 λad s2 h2=>?_) hs;obtain⟨it,fp,tn,J,H2,e,I2,T,P,f2,W,⟨m0,w0⟩,G⟩:=h2;subst e;have k:∀{z:Hp},(∀b∈fp,z b=none)->∀b∈fp,wy X a z b:=λhn b l=>⟨hn b l,(f2 b l).2⟩;refine codeAny_forLoop_any (λn s'=>∃i p z,aU X a p z s'/\tn i s'.heap/\(∀b∈fp,z b=none)/\W i n p z) ?_ m0 ⟨0,Z,H2,I2,P,λb l=>(f2 b l).1,w0⟩;rintro n s3⟨i,q,O,I3,K,L,w3⟩;rcases G i n q O w3 with⟨stop,qn⟩|⟨go,N,hN,step⟩
 ·refine M6 E (cB (T.done X rfl rfl rfl hc i a s3 q O X.xe I3 (k L) K stop) λr s4⟨Q,I4⟩=>?_);subst Q;exact M7 ⟨q,O,I4,qn⟩
 ·refine M6 E (cB (T.item X rfl rfl rfl hc i a s3 q O X.xe I3 (k L) K go) λr s4⟨u,Q,h4⟩=>?_);subst Q;refine M6 E (cB h4 λ_ s5 R=>?_);obtain⟨x,H5,I5,r5,y5,C,S⟩:=R;have U:=I5.pinned (k S) (T.obj _ _ C);refine M6 E (cB (hg _ s5 q H5 x u _ U r5 (step x H5 y5)) λ_ s6 R=>?_);obtain⟨V,H6,I6,q6⟩:=R;refine M6 E (cB (l _ s6 V H6 _ I6 q6) λf Y B=>?_);have again:∀{j:St}{t:Hp},aU X (a++uO fp s5.heap) j t Y->N j t->∃m,m<n/\∃i p z,aU X a p z Y/\tn i Y.heap/\(∀b∈fp,z b=none)/\W i m p z:=λ{j t}y M=>by obtain⟨m',hm,w7⟩:=hN j t M;refine⟨m',hm,i+1,j,t,y.unpinned,T.keep _ _ _ C λb l o e=>(y.pin (b,o) (l_ _ (l_ _ (lg l e)))).1,λb l=>?_,w7⟩;obtain⟨o,e,d⟩:=T.obj _ _ C b l;exact(y.pin (b,o) (l_ _ (l_ _ (lg l e)))).2.1
  cases f with|next=>obtain⟨j,t,y,M⟩:=B;exact again y M|cont=>obtain⟨j,t,y,M⟩:=B;exact again y M|brk=>obtain⟨j,t,y,B⟩:=B;exact⟨j,t,y.unpinned,B⟩|ret v=>obtain⟨x7,j,t,y,r7,B⟩:=B;exact⟨x7,j,t,y.unpinned,r7,B⟩
end
def qB{K:Of}{a:Addr}{xs:List V}{g:TG}{tb:TS}{D:jq}{c:St}{H:Hp}(Pv:Nat->St->Hp->Prop)(h0:Pv 0 c H)(n:∀i c H,i<=xs.length->Pv i c H->be K H a xs)(o:∀i x c H,xs[i]?=some x->Pv i c H->g x c H λd j=>tb {D with nx:=Pv (i+1),ct:=Pv (i+1),bk:=D.nx} d j)(hd:∀c H,Pv xs.length c H->D.nx c H):∃W:Nat->Nat->St->Hp->Prop,(∃m,W 0 m c H)/\∀i m c H,W i m c H->((IK K a).stop i H/\D.nx c H)\/((IK K a).go i H/\∃N:St->Hp->Prop,(∀f h,N f h->∃l,l<m/\W (i+1) l f h)/\∀x h,(IK K a).yld i H x h->g x c h λd j=>tb {D with nx:=N,ct:=N,bk:=D.nx} d j):=by
 refine⟨λi m c H=>m=xs.length-i/\i<=xs.length/\Pv i c H,⟨xs.length,by simp,j_ _,h0⟩,?_⟩;rintro i m c H⟨rfl,hi,p⟩;have q:=n i c H hi p
 by_cases b:i<xs.length
 ·refine .inr ⟨⟨xs,xs[i],q,by simp[b]⟩,Pv (i+1),λf h k=>⟨xs.length-(i+1),by lia,rfl,b,k⟩,λx h y=>?_⟩;obtain⟨e,y⟩:=y;subst e;exact o i x c _ (y xs q) p
 ·have e:i=xs.length:=by lia
  subst e;exact .inl ⟨⟨xs,q,fx _⟩,hd c H p⟩
def HI{K:Of}{a:Addr}{xs:List V}{g:TG}{l:TS}{D:jq}{c:St}{H:Hp}(Pv:Nat->St->Hp->Prop)(h0:Pv 0 c H)(o:∀i c H,i<=xs.length->Pv i c H->bj K H a xs)(r:∀i x c H,xs[i]?=some x->Pv i c H->g x c H λd j=>l {D with nx:=Pv (i+1),ct:=Pv (i+1),bk:=D.nx} d j)(hd:∀c H,Pv xs.length c H->D.nx c H):∃W:Nat->Nat->St->Hp->Prop,(∃m,W 0 m c H)/\∀i m c H,W i m c H->((IJ K a).stop i H/\D.nx c H)\/((IJ K a).go i H/\∃N:St->Hp->Prop,(∀f h,N f h->∃n,n<m/\W (i+1) n f h)/\∀x h,(IJ K a).yld i H x h->g x c h λd j=>l {D with nx:=N,ct:=N,bk:=D.nx} d j):=by
 refine⟨λi m c H=>m=xs.length-i/\i<=xs.length/\Pv i c H,⟨xs.length,by simp,j_ _,h0⟩,?_⟩;rintro i m c H⟨rfl,hi,p⟩;have q:=o i c H hi p
 by_cases b:i<xs.length
 ·refine .inr ⟨⟨xs,xs[i],q,by simp[b]⟩,Pv (i+1),λf h k=>⟨xs.length-(i+1),by lia,rfl,b,k⟩,λx h y=>?_⟩;obtain⟨e,y⟩:=y;subst e;exact r i x c _ (y xs q) p
 ·have e:i=xs.length:=by lia
  subst e;exact .inl ⟨⟨xs,q,fx _⟩,hd c H p⟩
def i6{lo:Int}{n:Nat}{g:TG}{j:TS}{D:jq}{a:St}{H:Hp}(Pv:Nat->St->Hp->Prop)(h0:Pv 0 a H)(o:∀i a H,i<n->Pv i a H->g (.int (lo+i)) a H λc h=>j {D with nx:=Pv (i+1),ct:=Pv (i+1),bk:=D.nx} c h)(hd:∀a H,Pv n a H->D.nx a H):∃W:Nat->Nat->St->Hp->Prop,(∃m,W 0 m a H)/\∀i m a H,W i m a H->((Gf lo n).stop i H/\D.nx a H)\/((Gf lo n).go i H/\∃N:St->Hp->Prop,(∀d f,N d f->∃l,l<m/\W (i+1) l d f)/\∀x f,(Gf lo n).yld i H x f->g x a f λc h=>j {D with nx:=N,ct:=N,bk:=D.nx} c h):=by
 refine⟨λi m a H=>m=n-i/\i<=n/\Pv i a H,⟨n,by simp,j_ _,h0⟩,?_⟩;rintro i m a H⟨rfl,hi,p⟩
 by_cases b:i<n
 ·refine .inr ⟨b,Pv (i+1),λd f k=>⟨n-(i+1),by lia,rfl,b,k⟩,λx f y=>?_⟩;obtain⟨e,y⟩:=y;subst e y;exact o i a _ b p
 ·have e:i=n:=by lia
  subst e;exact .inl ⟨fx _,hd a H p⟩
end L2
namespace L2
open PySem PySem.Spec PyProof.Rows
abbrev R2:=V->V->Hp->VK->Prop
def lx(X:Cx)(f:Value->Value->Sem Value)(r:R2):Prop:=∀(a:Oh)(s:Shared)(b:St)(H:Hp)(x y:V)(v u:Value)(Q:VK),aU X a b H s->bg x v->bg y u->r x y H Q->wpAny (model X.prog X.w) X.A (f v u) (EP X a b Q) X.xe s
def MR(X:Cx)(f:Value->Sem Value)(r:V->Hp->VK->Prop):Prop:=∀(a:Oh)(s:Shared)(b:St)(H:Hp)(x:V)(v:Value)(Q:VK),aU X a b H s->bg x v->r x H Q->wpAny (model X.prog X.w) X.A (f v) (EP X a b Q) X.xe s
def dk(X:Cx)(f:Value)(r:List V->Hp->VK->Prop):Prop:=∀(a:Oh)(s:Shared)(b:St)(H:Hp)(c:List V)(d:Oj)(Q:VK),aU X a b H s->bq c d->r c H Q->wpAny (model X.prog X.w) X.A (call f d) (EP X a b Q) X.xe s
def MS(X:Cx)(r:V->Hp->(Bool->Hp->Prop)->Prop):Prop:=∀(a:Oh)(s:Shared)(b:St)(H:Hp)(x:V)(v:Value)(Q:Bool->Hp->Prop),aU X a b H s->bg x v->r x H Q->wpAny (model X.prog X.w) X.A (truthy v) (TP X a b Q) X.xe s
def Il(r:R2)(c d:TE):TE:=λa H Q=>c a H λx b=>d a b λy e=>r x y e Q
def tUn(r:V->Hp->VK->Prop)(a:TE):TE:=λb H Q=>a b H λx c=>r x c Q
def rI(C:Int->Int->Prop)(g:Int->Int->V):R2:=λx y H Q=>∃i j,x=.int i/\y=.int j/\C i j/\Q (g i j) H
def GW(g:Int->Int->V):R2:=λx y H Q=>∃i j,x=.int i/\y=.int j/\Q (g i j) H
def rU(g:Int->V):V->Hp->VK->Prop:=λx H Q=>∃i,x=.int i/\Q (g i) H
section
variable{X:Cx}{a b c:Expr}{d l tc:TE}{e:Pos}
def Kq(p:PE X a d)(q:PE X b l){g:Oh}{s:Shared}{i:St}{H:Hp}{R:V->V->Hp->Prop}(I:aU X g i H s)(h:d i H λx o=>l i o λy j=>R x y j){Q:Og}{f:Value->Value->Sem Value}(r:∀v u n x y j,aU X g i j n->bg x v->bg y u->R x y j->wpAny (model X.prog X.w) X.A (f v u) Q X.xe n):wpAny (model X.prog X.w) X.A (eval a X.env) (λv s₁=>wpAny (model X.prog X.w) X.A (eval b X.env) (λu m=>wpAny (model X.prog X.w) X.A (f v u) Q X.xe m) X.xe s₁) X.xe s:=by refine cB (p g s i H _ I h) λv t k=>?_;obtain⟨x,o,I1,z,B⟩:=k;refine cB (q g t i o _ I1 B) λu n k=>?_;obtain⟨y,j,C,r2,D⟩:=k;exact r v u n x y j C z r2 D
def az{g:Operator}{r:R2}(i:lx X (binaryOp g) r)(j:PE X a d)(m:PE X b l):PE X (.BinOp a g b e) (Il r d l):=by intro f s k H Q I h;exact wpAny_BinOp (Kq j m I h λv u n x y o p t w q=>i f n k o x y v u Q p t w q)
def yW(i:MR X (unaryOp j) r)(m:PE X a d):PE X (.UnaryOp j a e) (tUn r d):=by intro f s g H Q I h;refine UnaryOp_ (cB (m f s g H _ I h) λv k n=>?_);obtain⟨x,o,I1,p,q⟩:=n;exact i f k g o x v Q I1 p q
def Lw{f:Value->Value->Sem Value}{C:Int->Int->Prop}{g:Int->Int->Int}(rule:∀(i j:Int)(t u:Tok)(s:Shared)(Q:Og)(E:Og),C i j->Q (.int (g i j) s.toks) {s with toks:=s.toks+1}->wpAny (model X.prog X.w) X.A (f (.int i t) (.int j u)) Q E s):lx X f (rI C λi j=>.int (g i j)):=by intro k s p H x y v u Q I m n h;obtain⟨i,j,rfl,rfl,hc,q⟩:=h;obtain⟨t,rfl⟩:=m;obtain⟨o,rfl⟩:=n;exact rule i j t o s _ _ hc ⟨.int (g i j),H,I.tok _,⟨_,rfl⟩,q⟩
def JR{f:Value->Value->Sem Value}{g:Int->Int->Int}(rule:∀(i j:Int)(t u:Tok)(s:Shared)(Q:Og)(E:Og),Q (.int (g i j) s.toks) {s with toks:=s.toks+1}->wpAny (model X.prog X.w) X.A (f (.int i t) (.int j u)) Q E s):lx X f (GW λi j=>.int (g i j)):=by intro k s p H x y v u Q I m n h;obtain⟨i,j,rfl,rfl,q⟩:=h;obtain⟨t,rfl⟩:=m;obtain⟨o,rfl⟩:=n;exact rule i j t o s _ _ ⟨.int (g i j),H,I.tok _,⟨_,rfl⟩,q⟩
def He{f:Value->Value->Sem Value}{g:Int->Int->Bool}(rule:∀(i j:Int)(t u:Tok)(s:Shared)(Q:Og)(E:Og),Q (.bool (g i j)) s->wpAny (model X.prog X.w) X.A (f (.int i t) (.int j u)) Q E s):lx X f (GW λi j=>.bl (g i j)):=by intro k s p H x y v u Q I m n h;obtain⟨i,j,rfl,rfl,q⟩:=h;obtain⟨t,rfl⟩:=m;obtain⟨o,rfl⟩:=n;exact rule i j t o s _ _ ⟨.bl (g i j),H,I,rfl,q⟩
def eV(i j:Int):Prop:=0<j/\j<1073741824
def MX(i j:Int):Prop:=0<=j/\j<=1000000/\i.natAbs<2^64
def KB(i j:Int):Prop:=(-(2^64)<i/\i<2^64)\/(-(2^64)<j/\j<2^64)
def KB.ok(h:KB i j):IntMulOk i j:=by
 rcases h with⟨h1,h2⟩|⟨h1,h2⟩
 ·exact .of_left (intBits_le_64 h1 h2)
 ·exact .of_right (intBits_le_64 h1 h2)
def two_pow_nn(k:Nat):(0:Int)<=2^k:=by rw[two_pow_cast];exact Int.natCast_nonneg _
def bQ:lx X (binaryOp .Add) (GW λi j=>.int (i+j)):=JR λ_ _ _ _ _ _ _ q=>add_int q
def fF:lx X (binaryOp .Sub) (GW λi j=>.int (i-j)):=JR λ_ _ _ _ _ _ _ q=>sub_int q
def gQ:lx X (binaryOp .Mult) (rI KB λi j=>.int (i*j)):=Lw λ_ _ _ _ _ _ _ hc q=>mul_int q hc.ok
def bw:lx X (binaryOp .FloorDiv) (rI eV λi j=>.int (i/j)):=Lw λi j _ _ _ _ _ hc q=>by have h1:(0:Int)<j:=hc.1;have h2:j<1073741824:=hc.2;exact floordiv_int (by lia) (by rw[Ng i (by lia)];exact q) (.inl (PyProof.noPylong_small (by lia)))
def aY:lx X (binaryOp .Mod) (rI (λ_ j=>0<j) λi j=>.int (i%j)):=Lw λi j _ _ _ _ _ hc q=>by have h1:(0:Int)<j:=hc;exact mod_int' (by lia) (by rw[Int.fmod_eq_emod_of_nonneg i (by lia)];exact q)
def JO:lx X (binaryOp .Pow) (rI MX λi j=>.int (i^j.toNat)):=Lw λ_ _ _ _ _ _ _ hc q=>pow_int_small hc.1 hc.2.1 hc.2.2 q
def JN:lx X (binaryOp .RShift) (rI (λ_ j=>0<=j) λi j=>.int (i/2^j.toNat)):=Lw λi j _ _ _ _ _ hc q=>rshift_int hc (by rw[Ng i (two_pow_nn _)];exact q)
def EH:lx X (binaryOp .BitAnd) (GW λi j=>.int (Builtin.bitAnd i j)):=JR λ_ _ _ _ _ _ _ q=>and_int q
def unI{f:Value->Sem Value}{g:Int->Int}(rule:∀(i:Int)(t:Tok)(s:Shared)(Q:Og)(E:Og),Q (.int (g i) s.toks) {s with toks:=s.toks+1}->wpAny (model X.prog X.w) X.A (f (.int i t)) Q E s):MR X f (rU λi=>.int (g i)):=by intro j s m H x v Q I k h;obtain⟨i,rfl,q⟩:=h;obtain⟨t,rfl⟩:=k;exact rule i t s _ _ ⟨.int (g i),H,I.tok _,⟨_,rfl⟩,q⟩
def ua:MR X (unaryOp .USub) (rU λi=>.int (-i)):=unI λ_ _ _ _ _ q=>neg_int q
end
def eW:V->V->Bool|.non,.non=>true|.non,.int _=>true|.int _,.non=>true|.non,.bl _=>true|.bl _,.non=>true|.non,.str _=>true|.str _,.non=>true|.int _,.int _=>true|.bl _,.bl _=>true|.str _,.str _=>true|.byt _,.byt _=>true|.int _,.str _=>true|.str _,.int _=>true|.bl _,.str _=>true|.str _,.bl _=>true|_,_=>false
def rEq:R2:=λx y H Q=>eW x y=true/\Q (.bl (decide (x=y))) H
def rNe:R2:=λx y H Q=>eW x y=true/\Q (.bl (!decide (x=y))) H
def lw:decide (V.int i=V.int j)=(i==j):=by rw[NL];simp
def FL:decide (V.bl i=V.bl j)=(i==j):=by rw[NL];simp
def BX:decide (V.str i=V.str j)=(i==j):=by rw[NL];simp
def BY:decide (V.byt i=V.byt j)=(i.toList==j.toList):=by rw[NL];cases i;cases j;simp
section
variable{X:Cx}{a b c:Expr}{f g tc:TE}{l:Pos}
def bR(I:aU X d h H s)(q:Q (.bl k) H)(e:k=i):EP X d h Q (.bool i) s:=by subst e;exact⟨.bl k,H,I,rfl,q⟩
def aV:lx X (compareOp .Eq) rEq:=by intro n s o H x y v u Q I m d h;obtain⟨k,q⟩:=h;cases x with
 |non=>cases m;cases y with|non=>cases d;exact PySem.EqNone.eq_none_none (bR I q (by simp))|bl j=>cases d;exact PySem.EqNone.eq_none_bool (bR I q (by simp))|int j=>obtain⟨e,rfl⟩:=d;exact PySem.EqNone.eq_none_int (bR I q (by simp))|str j=>obtain⟨e,rfl⟩:=d;exact PySem.EqNone.eq_none_str (bR I q (by simp))|_=>exact absurd (show false=true from k) hF
 |bl i=>cases m;cases y with|non=>cases d;exact PySem.EqNone.eq_bool_none (bR I q (by simp))|bl j=>cases d;exact eq_bool (bR I q FL)|str j=>obtain⟨e,rfl⟩:=d;exact PySem.EqMixed.eq_bool_str (bR I q (by simp))|_=>exact absurd (show false=true from k) hF
 |int i=>obtain⟨t,rfl⟩:=m;cases y with|non=>cases d;exact PySem.EqNone.eq_int_none (bR I q (by simp))|int j=>obtain⟨e,rfl⟩:=d;exact eq_int (bR I q lw)|str j=>obtain⟨e,rfl⟩:=d;exact PySem.EqMixed.eq_int_str (bR I q (by simp))|_=>exact absurd (show false=true from k) hF
 |str i=>obtain⟨t,rfl⟩:=m;cases y with|non=>cases d;exact PySem.EqNone.eq_str_none (bR I q (by simp))|bl j=>cases d;exact PySem.EqMixed.eq_str_bool (bR I q (by simp))|int j=>obtain⟨e,rfl⟩:=d;exact PySem.EqMixed.eq_str_int (bR I q (by simp))|str j=>obtain⟨e,rfl⟩:=d;exact eq_str (bR I q BX)|_=>exact absurd (show false=true from k) hF
 |byt i=>obtain⟨t,rfl⟩:=m;cases y with|byt j=>obtain⟨e,rfl⟩:=d;exact PySem.W.eq_bytes (bR I q BY)|_=>exact absurd (show false=true from k) hF
 |_=>cases y<;>exact absurd (show false=true from k) hF
def Iw:lx X (compareOp .NotEq) rNe:=by intro n s o H x y v u Q I m d h;obtain⟨k,q⟩:=h;cases x with
 |non=>cases m;cases y with|non=>cases d;exact PySem.EqNone.ne_none_none (bR I q (by simp))|bl j=>cases d;exact PySem.EqNone.ne_none_bool (bR I q (by simp))|int j=>obtain⟨e,rfl⟩:=d;exact PySem.EqNone.ne_none_int (bR I q (by simp))|str j=>obtain⟨e,rfl⟩:=d;exact PySem.EqNone.ne_none_str (bR I q (by simp))|_=>exact absurd (show false=true from k) hF
 |bl i=>cases m;cases y with|non=>cases d;exact PySem.EqNone.ne_bool_none (bR I q (by simp))|bl j=>cases d;exact ne_bool (bR I q (r_ not FL))|str j=>obtain⟨e,rfl⟩:=d;exact PySem.EqMixed.ne_bool_str (bR I q (by simp))|_=>exact absurd (show false=true from k) hF
 |int i=>obtain⟨t,rfl⟩:=m;cases y with|non=>cases d;exact PySem.EqNone.ne_int_none (bR I q (by simp))|int j=>obtain⟨e,rfl⟩:=d;exact ne_int (bR I q (r_ not lw))|str j=>obtain⟨e,rfl⟩:=d;exact PySem.EqMixed.ne_int_str (bR I q (by simp))|_=>exact absurd (show false=true from k) hF
 |str i=>obtain⟨t,rfl⟩:=m;cases y with|non=>cases d;exact PySem.EqNone.ne_str_none (bR I q (by simp))|bl j=>cases d;exact PySem.EqMixed.ne_str_bool (bR I q (by simp))|int j=>obtain⟨e,rfl⟩:=d;exact PySem.EqMixed.ne_str_int (bR I q (by simp))|str j=>obtain⟨e,rfl⟩:=d;exact ne_str (bR I q (r_ not BX))|_=>exact absurd (show false=true from k) hF
 |byt i=>obtain⟨t,rfl⟩:=m;cases y with|byt j=>obtain⟨e,rfl⟩:=d;exact PySem.W.ne_bytes (bR I q (r_ not BY))|_=>exact absurd (show false=true from k) hF
 |_=>cases y<;>exact absurd (show false=true from k) hF
def yZ:lx X (compareOp .Lt) (GW λi j=>.bl (decide (i<j))):=He λ_ _ _ _ _ _ _ q=>lt_int q
def iO:lx X (compareOp .LtE) (GW λi j=>.bl (decide (i<=j))):=He λ_ _ _ _ _ _ _ q=>le_int q
def lG:lx X (compareOp .Gt) (GW λi j=>.bl (decide (j<i))):=He λ_ _ _ _ _ _ _ q=>gt_int q
def BF:lx X (compareOp .GtE) (GW λi j=>.bl (decide (j<=i))):=He λ_ _ _ _ _ _ _ q=>ge_int q
def CD:lx X (compareOp .In) (λx y H Q=>∃i j,x=.str i/\y=.str j/\Q (.bl (!(Builtin.Str.occurrences j i 0 j.length 1).isEmpty)) H):=by intro d s m H x y v u Q I e k h;obtain⟨i,j,rfl,rfl,q⟩:=h;obtain⟨t,rfl⟩:=e;obtain⟨n,rfl⟩:=k;exact in_str (bR I q rfl)
def xH:lx X (compareOp .Is) (λx y H Q=>y=.non/\Q (.bl (decide (x=.non))) H):=by intro d s j H x y v u Q I e i h;obtain⟨rfl,q⟩:=h;cases i;refine is_none_gen (bR I q ?_);cases x<;>first|(cases e;rfl)|(obtain⟨t,rfl⟩:=e;rfl)
def BE:lx X (compareOp .IsNot) (λx y H Q=>y=.non/\Q (.bl (!decide (x=.non))) H):=by intro d s j H x y v u Q I e i h;obtain⟨rfl,q⟩:=h;cases i;refine isnot_none_gen (bR I q ?_);cases x<;>first|(cases e;rfl)|(obtain⟨t,rfl⟩:=e;rfl)
def aG(b:Expr)(h:d≠.In:=by decide)(h2:d≠.NotIn:=by decide):behindInMarks d b=false:=by
 have e:(d==CmpOp.In)=false:=by cases d<;>first|rfl|exact absurd rfl h
 have i:(d==CmpOp.NotIn)=false:=by cases d<;>first|rfl|exact absurd rfl h2
 cases b<;>simp[behindInMarks,e,i]
def bv(i:lx X (compareOp e) r)(j:PE X a f)(m:PE X b g)(hm:behindInMarks e b=false):PE X (.Compare a [e] [b] l) (Il r f g):=by intro d s k H Q I h;exact wpAny_Compare1 (Kq j m I h λv u n x y o p t w q=>i d n k o x y v u Q p t w q) hm
def DD(t:TE):TT:=λd H Q=>t d H λx e=>∃k,x=.bl k/\Q k e
def aH(m:lx X (compareOp j) r)(n:PE X a f)(o:PE X b g)(hm:behindInMarks j b=false):PT X (.Compare a [j] [b] l) (DD (Il r f g)):=by
 intro d s i H Q I h;refine wpAny_isTrue_Compare1 (cB (n d s i H _ I h) λv p⟨x,q,I1,t,w⟩=>cB (o d p i q _ I1 w) λu A⟨y,B,C,r2,D⟩=>cB (m d A i B x y v u _ C t r2 D) λc K⟨z,E,F,G,k,e,J⟩=>?_) hm
 subst e;cases G;exact pu ⟨E,F,J⟩
def DG(r h:R2)(f g tc:TE):TE:=λd H Q=>f d H λx i=>g d i λy j=>r x y j λz e=>∃k,z=.bl k/\(if k=true then tc d e λm n=>h y m n Q else Q (.bl false) e)
def pV(w:lx X (compareOp o) r)(n:lx X (compareOp j) A)(B:PE X a f)(C:PE X b g)(hc:PE X c tc)(hm:lastMarks [o,j] [b,c]=false:=by with_unfolding_all rfl):PE X (.Compare a [o,j] [b,c] l) (DG r A f g tc):=by
 intro i s m H Q I h;refine Compare_chain (cB (B i s m H _ I h) λv D⟨x,E,I1,F,G⟩=>chain_link (cB (C i D m E _ I1 G) λu J⟨y,K,L,r2,M⟩=>cB (w i J m K x y v u _ L F r2 M) λd N⟨z,p,q,O,k,e,t⟩=>?_)) hm
 subst e;cases O;refine pu ?_;cases k with|false=>exact ite_ff ⟨.bl false,p,q,rfl,t⟩|true=>exact ite_tt (chain_last (cB (hc i N m p _ q t) λP R⟨S,T,U,V,W⟩=>n i R m T y S u P Q U r2 V W))
def yU(A:lx X (compareOp p) r)(n:lx X (compareOp j) B)(C:PE X a f)(D:PE X b g)(hc:PE X c tc)(hm:lastMarks [p,j] [b,c]=false:=by with_unfolding_all rfl):PT X (.Compare a [p,j] [b,c] l) (DD (DG r B f g tc)):=by
 intro i s m H Q I h;refine isTrue_chain (cB (C i s m H _ I h) λv E⟨x,F,I1,G,J⟩=>test_link (cB (D i E m F _ I1 J) λu K⟨y,L,M,r2,N⟩=>cB (A i K m L x y v u _ M G r2 N) λd O⟨z,q,t,P,k,e,w⟩=>?_)) hm
 subst e;cases P;refine pu ?_;cases k with|false=>obtain⟨k',R,S⟩:=w;cases R;exact ite_ff ⟨q,t,S⟩|true=>refine ite_tt (test_last (cB (hc i O m q _ t w) λT U o=>?_));obtain⟨V,W,Y,Z,q4⟩:=o;refine cB (n i U m W y V u T _ Y r2 Z q4) λd' s5 o=>?_;obtain⟨z2,H5,I5,r5,k2,e2,q5⟩:=o;subst e2;cases r5;exact pu ⟨H5,I5,q5⟩
def Kt(K:Of)(x:V)(H:Hp)(k:Bool):Prop:=match x with|.non=>k=false|.bl b=>k=b|.int i=>k=(i !=0)|.str y=>y.length<=sizeLine/\k=((y.length:Int)!=0)|.byt y=>y.size<=sizeLine/\k=((y.size:Int)!=0)|.ref p=>(∃d,be K H p d/\k=!d.isEmpty)\/(∃d,bj K H p d/\k=!d.isEmpty)\/∃e,H p=some (.dK e)/\k=!e.isEmpty|_=>False
def AO(r:KV d e):(!e.isEmpty)=!d.isEmpty:=by cases r<;>rfl
def vd(r:bq e d):(!d.toArray.isEmpty)=!e.isEmpty:=by cases r<;>simp
def rb:(sizeLine:Nat)<2^63:=by rw[hH];decide
def IR:MS X (λx H Q=>∃k,Kt X.K x H k/\Q k H):=by intro C s G H x v Q I u h;obtain⟨k,e,q⟩:=h;have J:=rb;have L:sizeLine=16777216:=hH;cases x with|non=>cases u;have d:k=false:=e;subst d;exact truthy_none ⟨H,I,q⟩|bl b=>cases u;have d:k=b:=e;subst d;exact pu ⟨H,I,q⟩|int i=>obtain⟨t,rfl⟩:=u;have d:k=(i !=0):=e;subst d;exact PySem.P.truthy_int ⟨H,I,q⟩|str y=>obtain⟨t,rfl⟩:=u;obtain⟨E,d⟩:y.length<=sizeLine/\k=((y.length:Int)!=0):=e;subst d;exact PySem.P.truthy_str (by lia) ⟨H,I.tok _,q⟩|byt y=>obtain⟨t,rfl⟩:=u;obtain⟨E,d⟩:y.size<=sizeLine/\k=((y.size:Int)!=0):=e;subst d;exact PySem.W.truthy_bytes (by lia) ⟨H,I.tok _,q⟩|ref p=>
  cases u;have d:(∃o,be X.K H p o/\k=!o.isEmpty)\/(∃o,bj X.K H p o/\k=!o.isEmpty)\/∃j,H p=some (.dK j)/\k=!j.isEmpty:=e;rcases d with⟨o,z,d⟩|⟨o,z,d⟩|⟨j,z,d⟩
  ·subst d;obtain⟨B,r,pl,D⟩:=I.list z;have n:=r.length;exact wpAny_truthy_list pl.isList (by simp only[hQ];lia) ⟨H,I.tok _,by rw[vd r];exact q⟩
  ·subst d;obtain⟨B,r,pl,D⟩:=I.tuple z;have n:=r.length;exact truthy_tuple pl (by simp only[hQ];lia) ⟨H,I.tok _,by rw[vd r];exact q⟩
  ·subst d;obtain⟨D,F,A,r,m⟩:j.length<=sizeLine/\(p==sysModules)=false/\∃A,KV j A/\s.heap.DictOf (bd X.prog X.w) p A:=I.hok p _ z;have n:j.length=A.length:=Paired.length r;exact wpAny_truthy_dict F m (by lia) ⟨H,I.tok _,by rw[AO r];exact q⟩|_=>exact(show False from e).elim
def Ez(m:PE X a f)(n:∀d,isTrue a X.env d=(do let v<-d;standAt a.pos;holding [v] (truthy v))):PT X a (λi H Q=>f i H λx j=>∃k,Kt X.K x j k/\Q k j):=by intro e s i H Q I h;exact isTrue_plain (cB (m e s i H _ I h) λv o⟨x,p,I1,q,r⟩=>IR e o i p x v Q I1 q r) (n _)
def je:lx X (binaryOp .Add) (λx y H Q=>∃i j,x=.str i/\y=.str j/\i.length+j.length<=sizeLine/\Q (.str (i++j)) H):=by intro d s o H x y v u Q I e k h;obtain⟨i,j,rfl,rfl,m,q⟩:=h;obtain⟨t,rfl⟩:=e;obtain⟨n,rfl⟩:=k;exact add_str (λn tk=>⟨.str (i++j),H,I.tok _,⟨_,rfl⟩,q⟩) m
def lB(r:bq [x] d):∃u,d=[u]/\bg x u:=by cases r with|cons e r2=>cases r2;exact⟨_,rfl,e⟩
def oU(r:bq [x,y] e):∃u d,e=[u,d]/\bg x u/\bg y d:=by cases r with|cons h r2=>cases r2 with|cons i j=>cases j;exact⟨_,_,rfl,h,i⟩
def Dk(hc:X.calm=true):dk X (.builtin "max") (λe H Q=>∃i j,e=[.int i,.int j]/\Q (.int (if j>i then j else i)) H):=by
 intro m s n H e o Q I r h;obtain⟨i,j,rfl,q⟩:=h;obtain⟨u,p,rfl,⟨t,rfl⟩,⟨v,rfl⟩⟩:=oU r;refine max_two_ints (I.ok.hd hc) λh' tk k=>⟨_,H,I.kept k,?_,q⟩
 by_cases d:j>i
 ·rw[hA d,hA d];exact⟨_,rfl⟩
 ·rw[g8 d,g8 d];exact⟨_,rfl⟩
def m4(hc:X.calm=true):dk X (.builtin "min") (λe H Q=>∃i j,e=[.int i,.int j]/\Q (.int (if j<i then j else i)) H):=by
 intro m s n H e o Q I r h;obtain⟨i,j,rfl,q⟩:=h;obtain⟨u,p,rfl,⟨t,rfl⟩,⟨v,rfl⟩⟩:=oU r;refine min_two_ints (I.ok.hd hc) λh' tk k=>⟨_,H,I.kept k,?_,q⟩
 by_cases d:j<i
 ·rw[hA d,hA d];exact⟨_,rfl⟩
 ·rw[g8 d,g8 d];exact⟨_,rfl⟩
def L6(K:Of)(x:V)(H:Hp)(n:Nat):Prop:=match x with|.str y=>y.length<=sizeLine/\n=y.length|.byt y=>y.size<=sizeLine/\n=y.size|.ref p=>(∃d,be K H p d/\n=d.length)\/∃d,bj K H p d/\n=d.length|_=>False
def FY:dk X (.builtin "len") (λd H Q=>∃x n,d=[x]/\L6 X.K x H n/\Q (.int n) H):=by
 intro w s B H d C Q I r h;obtain⟨x,n,rfl,e,q⟩:=h;obtain⟨u,rfl,k⟩:=lB r;have D:=rb;have E:sizeLine=16777216:=hH;cases x with|str y=>obtain⟨t,rfl⟩:=k;obtain⟨z,j⟩:y.length<=sizeLine/\n=y.length:=e;subst j;exact len_str (by lia) ⟨.int _,H,I.tok _,⟨_,rfl⟩,q⟩|byt y=>obtain⟨t,rfl⟩:=k;obtain⟨z,j⟩:y.size<=sizeLine/\n=y.size:=e;subst j;exact PySem.W.len_bytes (by lia) ⟨.int _,H,I.tok _,⟨_,rfl⟩,q⟩|ref p=>
  cases k;have j:(∃d,be X.K H p d/\n=d.length)\/∃d,bj X.K H p d/\n=d.length:=e;rcases j with⟨d,m,j⟩|⟨d,m,j⟩
  ·subst j;obtain⟨o,v,pl,A⟩:=I.list m;have i:=v.length;exact Calls.call_len_list pl.isList (by simp only[hQ];lia) ⟨.int d.length,H,I.tok _,⟨_,by simp only[hQ];rw[i]⟩,q⟩
  ·subst j;obtain⟨o,v,pl,A⟩:=I.tuple m;have i:=v.length;exact len_tuple pl (by simp only[hQ];lia) ⟨.int d.length,H,I.tok _,⟨_,by simp only[hQ];rw[i]⟩,q⟩|_=>exact(show False from e).elim
def zQ:dk X (.builtin "divmod") (λd H Q=>∃i j,d=[.int i,.int j]/\eV i j/\∀p,H p=none->Q (.ref p) (aD H p (.tup [.int (i/j),.int (i%j)]))):=by intro k s m H d n Q I r h;obtain⟨i,j,rfl,⟨h1,h2⟩,q⟩:=h;obtain⟨u,v,rfl,⟨t,rfl⟩,⟨w,rfl⟩⟩:=oU r;refine divmod_int (by lia) ?_ (.inl (PyProof.noPylong_small (by lia)));rw[Ng i (by lia),Int.fmod_eq_emod_of_nonneg i (by lia)];have hn:H s.heap.objs.size=none:=I.hok.fresh (fx _);refine⟨.ref s.heap.objs.size,_,?_,rfl,q _ hn⟩;refine I.laid (λb o e=>c_ _ e) (fx _) ⟨by simp only[k4,Oc];rw[hH];decide,[.int (i/j) s.toks,.int (i%j) (s.toks+1)],.cons ⟨_,rfl⟩ (.cons ⟨_,rfl⟩ .nil),?_⟩;exact⟨_,ge s.heap rfl,rfl,0,rfl⟩
end
end L2
namespace L2
open PySem PySem.Spec PyProof.Rows
structure Bl(h:Heap)(x dx C:Addr)(mA:Oi):Prop where
 obj:h.get? x=some (PySem.W.instObj C dx)ns:h.Ns1 dx mA
 ne:dx≠x
def CS{h:Heap}{dx:Addr}{d:Oi}(n:h.Ns1 dx d):∃f,h.get? dx=some f/\∀c,PySem.W.lookIn c f=some (d c):=by
 obtain⟨o,g,m,i,hd,j,_,hm⟩:=n;refine⟨o,i,λc=>?_⟩;have e:=hm c;unfold nsFind findBy at e;rw[<-Array.find?_toList]at e;unfold PySem.W.lookIn;rw[hd];dsimp only
 split
 ·rename_i y q;rw[q]at e;exact r_ some e
 ·rename_i q;rw[q]at e;have a:g.toList.any (·.refKey)=false:=by rw[List.any_eq_false];intro y k;obtain⟨z,t,b⟩:=j y (Array.mem_toList_iff.mp k);simp[DictEntry.refKey,b]
  have l:¬g.toList.any (·.refKey)=true:=by rw[a];exact hF
  rw[g8 l];exact r_ some e
def Bl.look(I:Bl h x dx C d):∃c,PySem.W.InstAt h x (PySem.W.instObj C dx) C (some c)/\∀a,PySem.W.lookIn a c=some (d a):=let⟨c,b,e⟩:=CS I.ns
 ⟨c,⟨I.obj,rfl,rfl,b⟩,e⟩
section
variable{prog:Ol}{w:World}{A:Around}{E:Og}{s:Shared}{K:Of}{x dx C f:Addr}{e:Oi}{c:Str}{v:Value}
def HF(X:K.In s.heap)(I:Bl s.heap x dx C e)(hg:PySem.W.plainGet K C c=true)(hh:PySem.W.hasDictIn K C=true)(g:PySem.W.findIn K (.ref C) c=some none)(i:e c=some v)(a:PySem.W.handedIn v=true)(h:Q v {s with toks:=s.toks+1}):wpAny (model prog w) A (getAttr (.ref x) c d) Q E s:=by obtain⟨j,J,b⟩:=I.look;exact PySem.W.get_value X J (PySem.W.plainGet_of hg).1 (PySem.W.findObj_own hh g rfl (by rw[b,i])) a h
def Fz(X:K.In s.heap)(I:Bl s.heap x dx C e)(hg:PySem.W.plainGet K C c=true)(a:PySem.W.findIn K (.ref C) c=some (some (.ref f)))(d:PySem.W.isFn K (.ref f)=true)(g:e c=none)(h:Q (.ref f,[.ref x]) s):wpAny (model prog w) A (getMethod (.ref x) c pl) Q E s:=by obtain⟨b,J,i⟩:=I.look;exact PySem.W.method_fn X J (PySem.W.plainGet_of hg).1 (PySem.W.plainGet_of hg).2 a (beq_iff_eq.mp d) (by show(PySem.W.lookIn c b).map (·.isSome)=some false;rw[i,g];rfl) h
def ij(X:K.In s.heap)(I:Bl s.heap x dx C e)(m:PySem.W.findIn K (.ref C) "__setattr__"=some (some (.builtin "object.__setattr__")))(n:PySem.W.plainOver K C=true)(o:PySem.W.takerIn K C c=some none)(hh:PySem.W.hasDictIn K C=true)(p:PySem.Within e ns)(q:ns.length<=sizeLine)(h:∀h',Bl h' x dx C (λy=>if y=c then some v else e y)->Heap.SameBut dx s.heap h'->Q () {s with heap:=h',toks:=s.toks+2}):wpAny (model prog w) A (setAttr (.ref x) c v) Q E s:=by obtain⟨B,J,D⟩:=I.look;refine PySem.W.set_plain X J m (PySem.W.osa_open (s:={s with toks:=s.toks+1}) (r:=none) X J n o λb=>?_);obtain⟨cd,hc,i⟩:=PySem.W.any_some hh;have t:s.heap.get? x=some ⟨.ref C,some dx,.plain,#[]⟩:=I.obj;refine a_ (e_ (a_ (a_ (wpAny_loadPart t (a_ (PySem.W.Looks.here (s:={s with toks:=s.toks+1}) (PySem.W.looks_clsIn X hc) ?_))))));rw[i];refine e_ (a:=some dx) (a_ (e_ (a_ ?_)));refine wpAny_nsSet1 (s:={s with toks:=s.toks+1}) I.ns λh' d g=>?_;obtain⟨F,u,z,j,k,l⟩:=d.count (PySem.Within.cons c v p);refine a_ (wpAny_lookBehind j (by rw[k];exact pastItsLine_dict (kl l (by rw[k4];lia))) ?_);exact e_ (h _ ⟨(g.2 _ (m3 I.ne)).trans I.obj,d,I.ne⟩ g)
def E6(X:K.In s.heap)(hm:PySem.W.makesIn K C=true)(hi:PySem.W.findIn K (.ref C) "__init__"=some (some (.ref f)))(j:PySem.W.typeIn K (.ref f)=some (.type "function"))(h:codeAny (model prog w) (A.under (.builtin "type.__call__" ⟨.ref C::a,i⟩)) (.call (.ref f) ⟨.ref (s.heap.objs.size+1)::a,i⟩) (PySem.W.InitBack (s.heap.objs.size+1) R) {s with heap:=(s.heap.push PySem.W.emptyDict).push (PySem.W.instObj C s.heap.objs.size)}):codeAny (model prog w) A (.call (.ref C) ⟨a,i⟩) R s:=by obtain⟨hh,g,d,t,os⟩:=s;exact PySem.W.make_core (PySem.W.makes_of X hm) (PySem.W.looks_findIn X hi) (λself=>PySem.W.bind_fn X self j) (.inl rfl) h
end
def gz(f:Str)(v:V):List (Str×V)->List (Str×V)|[]=>[(f,v)]|(g,x)::r=>if g=f then(g,v)::r else(g,x)::gz f v r
theorem sB(f g:Str)(v:V):∀fs:List (Str×V),(gz f v fs).lookup g=if g=f then some v else fs.lookup g
 |[]=>by
  show List.lookup g [(f,v)]=_
  by_cases h:g=f
  ·have a:(g==f)=true:=beq_iff_eq.mpr h;simp only[List.lookup,a,hA h]
  ·have a:(g==f)=false:=v1.mpr h;simp only[List.lookup,a,g8 h]|(k,x)::r=>by
  have c:=sB f g v r;rw[show gz f v ((k,x)::r)=(if k=f then(k,v)::r else(k,x)::gz f v r)from rfl]
  by_cases b:k=f
  ·rw[hA b]
   by_cases h:g=k
   ·have a:(g==k)=true:=beq_iff_eq.mpr h;simp only[List.lookup,a,hA (h.trans b)]
   ·have a:(g==k)=false:=v1.mpr h;simp only[List.lookup,a,g8 (λe:g=f=>h (e.trans b.symm))]
  ·rw[g8 b]
   by_cases h:g=k
   ·have a:(g==k)=true:=beq_iff_eq.mpr h;simp only[List.lookup,a,g8 (λe:g=f=>b (h.symm.trans e))]
   ·have a:(g==k)=false:=v1.mpr h;simp only[List.lookup,a];exact c
theorem rB(f:Str)(v:V):∀fs:List (Str×V),f∈(gz f v fs).map (·.1)/\∀g,g∈fs.map (·.1)->g∈(gz f v fs).map (·.1)
 |[]=>⟨by simp[gz],λg h=>by simp at h⟩|(k,x)::r=>by
  obtain⟨b,c⟩:=rB f v r;rw[show gz f v ((k,x)::r)=(if k=f then(k,v)::r else(k,x)::gz f v r)from rfl]
  by_cases a:k=f
  ·rw[hA a];subst a;exact⟨by simp,λg h=>by simpa using h⟩
  ·rw[g8 a];refine⟨?_,λg h=>?_⟩
   ·rw[lm];exact hY _ b
   ·rw[lm]at h⊢;rcases q_.mp h with e|e
    ·exact q_.mpr (.inl e)
    ·exact hY _ (c g e)
theorem sC(f:Str)(v:V):∀fs:List (Str×V),(gz f v fs).length<=fs.length+1
 |[]=>by simp[gz]|(k,x)::r=>by
  have b:=sC f v r;rw[show gz f v ((k,x)::r)=(if k=f then(k,v)::r else(k,x)::gz f v r)from rfl]
  by_cases a:k=f
  ·rw[hA a,k4,k4];lia
  ·rw[g8 a,k4,k4];lia
def kP.some_of(r:kP (some v) o):∃u,o=some u/\bg v u:=by cases o with|none=>exact(show False from r).elim|some u=>exact⟨u,rfl,r⟩
def kP.none_of(r:kP none o):o=none:=by cases o with|none=>rfl|some u=>exact(show False from r).elim
def C3(r:bg v u):PySem.W.handedIn u=true:=by cases v with|non=>cases(show u=Value.none from r);rfl|bl b=>cases(show u=Value.bool b from r);rfl|int i=>obtain⟨t,e⟩:=(show∃t,u=Value.int i t from r);cases e;rfl|str x=>obtain⟨t,e⟩:=(show∃t,u=Value.str x t from r);cases e;rfl|byt b=>obtain⟨t,e⟩:=(show∃t,u=Value.bytes b t from r);cases e;rfl|flt b=>obtain⟨t,e⟩:=(show∃t,u=Value.float b t from r);cases e;rfl|ref a=>cases(show u=Value.ref a from r);rfl|ty n=>cases(show u=Value.type n from r);rfl
section
variable{P:Ol}{w:World}{H g:Hp}{h h':Heap}{a C dx:Addr}{fs c:List (Str×V)}
def tW(hok:lO P w H h)(e:H a=some (.ins C dx fs)):∃i,Bl h a dx C i/\(∀f,kP (fs.lookup f) (i f))/\PySem.Within i (fs.map (·.1))/\fs.length<=1000/\H dx=some (.own a):=by obtain⟨d,z,ne,ob,i,n,r,q⟩:=(show c8 P w H h a (.ins C dx fs)from hok a _ e);exact⟨i,⟨ob,n,ne⟩,r,q,z,d⟩
end
structure yw(K:Of)(C:Addr):Prop where
 pg:PySem.W.plainGet K C Str.empty=true
 hd:PySem.W.hasDictIn K C=true
 po:PySem.W.plainOver K C=true
 sa:PySem.W.findIn K (.ref C) "__setattr__"=some (some (.builtin "object.__setattr__"))
def yw.get{K:Of}{C:Addr}(c:yw K C)(f:Str):PySem.W.plainGet K C f=true:=c.pg
def cb(K:Of)(C:Addr)(f:Str):Prop:=PySem.W.findIn K (.ref C) f=some none
def cb.taker{K:Of}{C:Addr}{f:Str}(n:cb K C f):PySem.W.takerIn K C f=some none:=by unfold PySem.W.takerIn;rw[show PySem.W.findIn K (.ref C) f=some none from n];rfl
structure Gc(K:Of)(C:Addr)(m:Str)(f:Addr):Prop where
 at_:PySem.W.findIn K (.ref C) m=some (some (.ref f))fn:PySem.W.isFn K (.ref f)=true
 kp:PySem.W.keepIn K (.ref f)=true
section
variable{X:Cx}{d:Oh}{i:St}{H:Hp}{s:Shared}{a C dx:Addr}{fs:List (Str×V)}{f:Str}{v:V}{A:Around}{E:Og}
def AV(I:aU X d i H s)(e:H a=some (.ins C dx fs))(c:yw X.K C)(n:cb X.K C f)(l:fs.lookup f=some v)(h:∀u g,aU X d i H g->bg v u->Q u g):wpAny (model X.prog X.w) A (getAttr (.ref a) f b) Q E s:=by obtain⟨j,O,r,_,_,_⟩:=tW I.hok e;obtain⟨u,k,ru⟩:=kP.some_of (v:=v) (o:=j f) (by rw[<-l];exact r f);exact HF I.kIn O (c.get f) c.hd n k (C3 ru) (h u _ (I.tok _) ru)
def oK(I:aU X d i H s)(e:H a=some (.ins C dx fs))(c:yw X.K C)(k:Gc X.K C m g)(l:fs.lookup m=none)(h:Q (.ref g,[.ref a]) s):wpAny (model X.prog X.w) A (getMethod (.ref a) m pl) Q E s:=by obtain⟨b,O,r,_,_,_⟩:=tW I.hok e;have hn:b m=none:=kP.none_of (by rw[<-l];exact r m);exact Fz I.kIn O (c.get m) k.at_ k.fn hn h
def Aj(I:aU X d i H s)(e:H a=some (.ins C dx fs))(c:yw X.K C)(n:cb X.K C f)(J:fs.length<1000)(t:bg y u)(h:∀l,aU X d i (aD H a (.ins C dx (gz f y fs))) l->Q () l):wpAny (model X.prog X.w) A (setAttr (.ref a) f u) Q E s:=by
 obtain⟨k,O,r,m,_,p⟩:=tW I.hok e;have B:(fs.map (·.1)).length<=sizeLine:=by rw[b_,hH];lia
 refine ij I.kIn O c.sa c.po n.taker c.hd m B λh' j D=>h _ ?_;have hd:∃o,h'.get? dx=some o:=let⟨o,_,_,F,_⟩:=j.ns;⟨o,F⟩;refine I.write (x:=a) (e:=dx) (by rw[e];exact True.intro) (.inr p) (λb q G z=>(D.2 b G).trans z) hd ?_;refine⟨by rw[ao O.ne];exact p,?_,O.ne,j.obj,_,j.ns,λg=>?_,λg hg=>?_⟩
 ·have:=sC f y fs;lia
 ·show kP ((gz f y fs).lookup g) (if g=f then some u else k g);rw[sB]
  by_cases q:g=f
  ·rw[hA q,hA q];exact t
  ·rw[g8 q,g8 q];exact r g
 ·by_cases q:g=f
  ·rw[q];exact(rB f y fs).1
  ·refine(rB f y fs).2 g (m g λz=>hg ?_);show(if g=f then some u else k g)=none;rw[g8 q];exact z
def aU.made(I:aU X d i H s):aU X d i (aD (aD H s.heap.objs.size (.own (s.heap.objs.size+1))) (s.heap.objs.size+1) (.ins C s.heap.objs.size [])) {s with heap:=(s.heap.push PySem.W.emptyDict).push (PySem.W.instObj C s.heap.objs.size)}:=by
 have c:(s.heap.push PySem.W.emptyDict).get? s.heap.objs.size=some PySem.W.emptyDict:=ge s.heap rfl;have g:((s.heap.push PySem.W.emptyDict).push (PySem.W.instObj C s.heap.objs.size)).get? (s.heap.objs.size+1)=some (PySem.W.instObj C s.heap.objs.size):=by
  have:=ge (s.heap.push PySem.W.emptyDict) (o:=PySem.W.instObj C s.heap.objs.size) rfl
  rwa[nB]at this
 have h:(s.heap.push PySem.W.emptyDict).Ns s.heap.objs.size (λ_=>none):=⟨PySem.W.emptyDict,#[],_,c,rfl,(λe j=>absurd j (by simp)),λ_=>rfl⟩;have I1:=I.laid (a:=s.heap.objs.size) (o:=.own (s.heap.objs.size+1)) (h':=s.heap.push PySem.W.emptyDict) (t':=s.toks) (λb u q=>c_ _ q) (fx _) ⟨_,c⟩;refine I1.laid (a:=s.heap.objs.size+1) (o:=.ins C s.heap.objs.size []) (t':=s.toks) (λb u q=>c_ _ q) (Nat.le_of_eq (nB _ _)) ?_;have ne:s.heap.objs.size≠s.heap.objs.size+1:=ig (rm _);refine⟨by rw[ao ne,af],j_ _,ne,g,λ_=>none,(Heap.Ns1.of_empty h).at λo q=>c_ _ q,λ_=>True.intro,λy l=>absurd rfl l⟩
def HU(c:attributeBase e f env (eval e env)=eval e env)(h:wpAny (model prog w) A (eval e env) (λo s₁=>wpAny (model prog w) A (getAttr o f true) Q E s₁) E s):wpAny (model prog w) A (eval (.Attribute e f g) env) Q E s:=Attribute_any_ h (by rw[arm_eval_Attribute,c])
end
def K7(K:Of)(c:TE)(f:Str):TE:=λd H Q=>c d H λx b=>∃a C dx fs v,x=.ref a/\b a=some (.ins C dx fs)/\yw K C/\cb K C f/\fs.lookup f=some v/\Q v b
def Lm(K:Of)(d e:TE)(f:Str):TS:=λD b H=>e b H λy g=>d b g λx c=>∃a C dx fs,x=.ref a/\c a=some (.ins C dx fs)/\yw K C/\cb K C f/\fs.length<1000/\D.nx b (aD c a (.ins C dx (gz f y fs)))
section
variable{X:Cx}{o e d:Expr}{f:Str}{i g p:Pos}{j m:TE}
def JJ(r:PE X e j)(t:attributeBase e f X.env (eval e X.env)=eval e X.env):PE X (.Attribute e f i) (K7 X.K j f):=by intro b s k H Q I h;refine HU t (cB (r b s k H _ I h) λu D w=>?_);obtain⟨x,y,I1,z,a,C,dx,fs,v,ex,A,c,n,l,q⟩:=w;subst ex;obtain rfl:u=Value.ref a:=z;exact AV I1 A c n l λE F B ru=>⟨v,y,B,ru,q⟩
def JD(r:PE X o j)(t:PE X d m)(v:swapsWith d (some (.Attribute o f g)) i.line X.env=pure false):PS X (.Assign [.Attribute o f g] d i) (Lm X.K j m f):=by intro b s k H D I h;refine plainObj_wpAny_Assign_Attribute (cB (t b s k H _ I h) λu w⟨y,z,I1,A,q⟩=>cB (r b w k z _ I1 q) λB M⟨x,N,E,F,a,C,dx,fs,ex,G,c,n,l,J⟩=>?_) v;subst ex;obtain rfl:B=Value.ref a:=F;exact Aj E G c n l A λO L=>⟨k,_,L,J⟩
end
section
variable{X:Cx}{d:Oh}{f:St}{H:Hp}{s:Shared}{A:Around}{E:Og}{Q:Og}{c:Value}{b:Bool}
inductive kO(K:Of)(H:Hp):V->Value->Prop where|non:kO K H .non (.type "NoneType")|bl(x:Bool):kO K H (.bl x) (.type "bool")|int(i:Int):kO K H (.int i) (.type "int")|str(x:Str):kO K H (.str x) (.type "str")|flt(x:UInt64):kO K H (.flt x) (.type "float")|lst{a:Addr}{xs:List V}(e:H a=some (.lst xs)):kO K H (.ref a) (.type "list")|frz{a:Addr}{o:Obj}{xs:List V}(e:H a=some (.frz o (.lst xs))):kO K H (.ref a) (.type "list")|tup{a:Addr}{xs:List V}(e:H a=some (.tup xs)):kO K H (.ref a) (.type "tuple")|dK{a:Addr}{kvs:List (cp×V)}(e:H a=some (.dK kvs)):kO K H (.ref a) (.type "dict")|dT{a:Addr}{kvs:List (List cp×V)}(e:H a=some (.dT kvs)):kO K H (.ref a) (.type "dict")|ins{a C dx:Addr}{fs:List (Str×V)}(e:H a=some (.ins C dx fs))(cl:yw K C)(ha:PySem.W.findIn K (.ref C) "__class__"=some (some (.builtin "object.__class__")))(hn:PySem.W.specialIn K (.builtin "object.__class__") "__get__"=some (some (.builtin "getset_descriptor.__get__")))(htk:PySem.W.takesIn K (.builtin "object.__class__")=some true)(hm:PySem.W.mroIn K C (.type "object")=some true):kO K H (.ref a) (.ref C)
def CY(I:aU X d f H s)(g:bg x u)(ty:kO X.K H x t)(e:PySem.W.kitOne X.K t c=some b)(h:∀tk,Q (.bool b) {s with toks:=tk}):wpAny (model X.prog X.w) A (call (.builtin "isinstance") [u,c]) Q E s:=by cases ty with|non=>cases(show u=Value.none from g);exact PySem.W.kia_one PySem.W.kitx_none I.kIn True.intro e (nofun) h|bl y=>cases(show u=Value.bool y from g);exact PySem.W.kia_one PySem.W.kitx_bool I.kIn True.intro e (nofun) h|int i=>obtain⟨t,q⟩:=(show∃t,u=Value.int i t from g);cases q;exact PySem.W.kia_one PySem.W.kitx_int I.kIn True.intro e (nofun) h|str y=>obtain⟨t,q⟩:=(show∃t,u=Value.str y t from g);cases q;exact PySem.W.kia_one PySem.W.kitx_str I.kIn True.intro e (nofun) h|flt y=>obtain⟨t,q⟩:=(show∃t,u=Value.float y t from g);cases q;exact PySem.W.kia_one PySem.W.kitx_float I.kIn True.intro e (nofun) h|@lst a l j=>cases(show u=Value.ref a from g);obtain⟨_,_,n,_,h1⟩:=(show c8 X.prog X.w H s.heap a (.lst l)from I.hok a _ j);exact PySem.W.kia_one PySem.W.kitx_list I.kIn ⟨_,h1,rfl⟩ e (nofun) h|@frz a ob l j=>cases(show u=Value.ref a from g);obtain⟨_,_,_,n,_,h1⟩:=(show c8 X.prog X.w H s.heap a (.frz ob (.lst l))from I.hok a _ j);exact PySem.W.kia_one PySem.W.kitx_list I.kIn ⟨_,h1,rfl⟩ e (nofun) h|@tup a l j=>cases(show u=Value.ref a from g);obtain⟨_,_,_,p⟩:=(show c8 X.prog X.w H s.heap a (.tup l)from I.hok a _ j);obtain⟨o,h1,h2,_⟩:=p;exact PySem.W.kia_one PySem.W.kitx_tuple I.kIn ⟨o,h1,h2⟩ e (nofun) h|@dK a k j=>cases(show u=Value.ref a from g);obtain⟨_,_,D,_,p⟩:=(show c8 X.prog X.w H s.heap a (.dK k)from I.hok a _ j);obtain⟨o,r,v,h1,h2,_⟩:=p;exact PySem.W.kia_one PySem.W.kitx_dict I.kIn ⟨o,h1,h2.1⟩ e (nofun) h|@dT a k j=>cases(show u=Value.ref a from g);obtain⟨_,_,l,_,o,r,v,h1,h2,_⟩:=(show c8 X.prog X.w H s.heap a (.dT k)from I.hok a _ j);exact PySem.W.kia_one PySem.W.kitx_dict I.kIn ⟨o,h1,h2.1⟩ e (nofun) h|@ins a C dx fs j cl B hn m hm=>cases(show u=Value.ref a from g);obtain⟨F,O,_⟩:=tW I.hok j;obtain⟨G,J,_⟩:=O.look;exact PySem.W.kia_one (PySem.W.kitx_own (cl.get _) cl.hd B hn m hm) I.kIn J e (nofun) h
end
end L2
namespace L2
open PySem PySem.Spec PyProof.Rows
structure eQ(k:Nat)(A:Around):Prop where
 hd:A.handled=none
 dp:A.depth+3*k+5<recursionLimit
 un:A.units+16*k+200<cLine
def eQ.mono{j k:Nat}{A:Around}(r:eQ k A)(h:j<=k):eQ j A:=⟨r.hd,by have:=r.dp;lia,by have:=r.un;lia⟩
theorem eQ.deeper(r:eQ (k+1) A)(env:Env):eQ k (A.deeper env):=⟨r.hd,by have:=r.dp;show A.depth+1+3*k+5<_;lia,by have:=r.un;show A.units+3+16*k+200<_;lia⟩
def AL{A:Around}{C:Addr}{a:Oj}{c:List (Str×Value)}:(A.under (.builtin "type.__call__" ⟨.ref C::a,c⟩)).depth=A.depth+1:=by first|rfl|simp[Around.under,Code.weight,Code.isCreation,Code.isGuard,Code.isCaller,Code.frames,Code.isFrame,guardIds]
def AK{A:Around}{C:Addr}{a:Oj}{c:List (Str×Value)}:(A.under (.builtin "type.__call__" ⟨.ref C::a,c⟩)).units=A.units+1:=by first|rfl|simp[Around.under,Code.cUnits,Code.frames,Code.isFrame]
def eQ.make(r:eQ (k+1) A)(C:Addr)(a:Oj)(c:List (Str×Value)):eQ k (A.under (.builtin "type.__call__" ⟨.ref C::a,c⟩)):=⟨r.hd,by have:=r.dp;rw[AL];lia,by have:=r.un;rw[AK];lia⟩
theorem eQ.depth{k:Nat}{A:Around}(r:eQ k A):A.depth<recursionLimit:=by have:=r.dp;lia
theorem eQ.units{k:Nat}{A:Around}(r:eQ k A):A.units+64<cLine:=by have:=r.un;lia
def K4:TA:=λ_ H Q=>Q [] H
def K9(c:TE)(tr:TA):TA:=λa H Q=>c a H λx b=>tr a b λd e=>Q (x::d) e
section
variable{X:Cx}{e:Expr}{c:On}{te:TE}{t:TA}{a:Pos}
def O:PA X [] K4:=λ_ _ _ _ H Q I h=>rV ⟨[],H,I,.nil,h⟩
def ac(g:PE X e te)(i:PA X c t)(j:starEach (e::c) X.env=(false,eval e X.env)::starEach c X.env:=by rfl):PA X (e::c) (K9 te t):=by intro a b s f H Q I h;rw[j];show wpAny _ _ (spliced ((false,eval e X.env)::backTo a (starEach c X.env))) _ _ s;refine ov (cB (g b s f H _ I h) λu k d=>?_);obtain⟨x,l,I1,m,n⟩:=d;refine cB (i a b k f l _ I1 n) λv w d=>?_;obtain⟨o,p,q,r2,r⟩:=d;exact⟨x::o,p,q,.cons m r2,r⟩
def Mr(t:TA):TE:=λf H Q=>t f H λb d=>b.length<=sizeLine/\∀p,d p=none->Q (.ref p) (aD d p (.tup b))
def Mu(t:TA):TE:=λf H Q=>t f H λb d=>b.length<=sizeLine/\∀p,d p=none->Q (.ref p) (aD d p (.lst b))
def bn{i}(h:PA X c t):PE X (.Tuple c i a) (Mr t):=by intro d s j H Q I k;refine wpAny_Tuple_spliced (cB (h a d s j H _ I k) λl f m=>?_);obtain⟨n,g,I1,r,z,q⟩:=m;refine⟨by rw[<-r.length];exact z,?_⟩;have o:g f.heap.objs.size=none:=I1.hok.fresh (fx _);refine⟨.ref f.heap.objs.size,aD g f.heap.objs.size (.tup n),I1.laid (t':=f.toks) (λb u e=>c_ _ e) (fx _) ?_,rfl,q _ o⟩;exact⟨z,l,r,⟨_,ge _ rfl,rfl,_,rfl⟩⟩
def bf(h:PA X c t):PE X (.List c a) (Mu t):=by intro d s i H Q I j;refine wpAny_List_spliced (cB (h a d s i H _ I j) λk f l=>?_);obtain⟨m,g,I1,r,z,q⟩:=l;refine⟨by rw[<-r.length];exact z,?_⟩;have n:g f.heap.objs.size=none:=I1.hok.fresh (fx _);refine⟨.ref f.heap.objs.size,aD g f.heap.objs.size (.lst m),I1.laid (t':=f.toks) (λb u e=>c_ _ e) (fx _) ?_,rfl,q _ n⟩;exact⟨z,k,0,r,ge _ rfl⟩
end
abbrev Sp:=List V->Hp->VK->XK->Prop
abbrev Ac:=List Env->Hp->Shared->XK->Value->Shared->Prop
structure Bp(P:Ol)(w:World)(K:Of)(mg:Oi)(base:Heap)(A:Around)(outer:List Env)(s:Shared)(H:Hp):Prop where
 frames:A.frames=some outer
 mod:L5 K mg base
 bs:∀b o,base.get? b=some o->s.heap.get? b=some o/\H b=none
 bsz:base.objs.size<=s.heap.objs.size
 funs:s.heap.FunFrames base outer
 frf:∀b∈j0 outer,H b=none
 hok:lO P w H s.heap
 bare:AllBare s.gens
def CE(outer:List Env)(P:Ol)(w:World)(H:Hp)(s:Shared)(Q:VK)(u:Value)(a:Shared):Prop:=∃v b,a.os=s.os/\AllBare a.gens/\Un (j0 outer) [] H b s.heap a.heap/\lO P w b a.heap/\bg v u/\Q v b
def CR(c:Ac)(outer:List Env)(P:Ol)(w:World)(H:Hp)(s:Shared)(Q:VK)(E:XK)(r:Result)(a:Shared):Prop:=match r with|.ok (.ret u)=>CE outer P w H s Q u a|.ok _=>False|.error e=>c outer H s E e a
structure aT(P:Ol)(w:World)(K:Of)(mg:Oi)(base:Heap)(CX:Ac)(k:Nat)(f:Addr)(fd:FuncData)(ps:Om)(sp:Sp):Prop where
 len:∀vs H Q E,sp vs H Q E->vs.length=ps.length
 run:∀(A:Around)(outer:List Env)(s:Shared)(H:Hp)(args:Args)(us:Oj)(vs:List V)(Q:VK)(E:XK),eQ k A->Bp P w K mg base A outer s H->BindsTo s fd args (ps.zip us)->bq vs us->sp vs H Q E->codeAny (model P w) A (.call (.ref f) args) (CR CX outer P w H s Q E) s
theorem aT.mono{P:Ol}{w:World}{K:Of}{mg:Oi}{base:Heap}{c:Ac}{j k:Nat}{f:Addr}{fd:FuncData}{d:Om}{sp:Sp}(F:aT P w K mg base c j f fd d sp)(h:j<=k):aT P w K mg base c k f fd d sp:=⟨F.len,λA outer s H a b e Q E g=>F.run A outer s H a b e Q E (g.mono h)⟩
def Bp.make{P:Ol}{w:World}{K:Of}{mg:Oi}{base:Heap}{A:Around}{outer:List Env}{s:Shared}{H:Hp}(e:Bp P w K mg base A outer s H)(C:Addr)(a:Oj)(c:List (Str×Value)):Bp P w K mg base (A.under (.builtin "type.__call__" ⟨.ref C::a,c⟩)) outer s H:=⟨by first|exact e.frames|(simpa[Around.under,Code.envs,Code.isFrame,pushEnvs]using e.frames),e.mod,e.bs,e.bsz,e.funs,e.frf,e.hok,e.bare⟩
section
variable{X:Cx}{a:Oh}{e:St}{H:Hp}{s c:Shared}
def aU.env0(I:aU X a e H s):Bp X.prog X.w X.K X.mg X.base X.A X.stack s H:=⟨I.ok.frames,I.ok.mod,I.bs,kl I.ok.bsz I.sz,I.stack,I.stkFree,I.hok,I.bare⟩
def aU.after(I:aU X a e H s)(h:CE X.stack X.prog X.w H s Q u c):EP X a e Q u c:=by obtain⟨v,i,os,bare,un,hok,r,q⟩:=h;obtain⟨hh,g,d,t,f⟩:=c;obtain rfl:f=s.os:=os;exact⟨v,i,I.call (h':=hh) (g':=g) (d':=d) (t':=t) (ch:=[]) un hok bare (λb z=>absurd z (by simp)),r,q⟩
end
def DH(sp:Sp)(a:List V)(E:XK)(t:TA):TE:=λb H Q=>t b H λc d=>sp (c++a) d Q E
def DE(C:Addr)(m:Str)(sp:Sp)(c:List V)(E:XK)(e:TE)(t:TA):TE:=λb H Q=>e b H λx d=>∃a dx fs,x=.ref a/\d a=some (.ins C dx fs)/\fs.lookup m=none/\t b d λf g=>sp (x::(f++c)) g Q E
def K5(C:Addr)(sp:Sp)(a:List V)(E:XK)(t:TA):TE:=λc H Q=>t c H λd b=>∀x dx,b x=none->b dx=none->dx≠x->sp (.ref x::(d++a)) (aD (aD b dx (.own x)) x (.ins C dx [])) (λv e=>v=.non/\Q (.ref x) e) E
def fC(K:Of)(fd:FuncData)(c:Om)(ds:Oj):Prop:=∀(s:Shared)(a:Oj),K.In s.heap->(a++ds).length=c.length->BindsTo s fd ⟨a,[]⟩ (c.zip (a++ds))
def fC.all{K:Of}{fd:FuncData}{c:Om}(h:∀a:List Value,a.length=c.length->bindArgs fd ⟨a,[]⟩=pure (c.zip a)):fC K fd c []:=λs a _ b=>by rw[u1]at b⊢;exact .of_eq (h a b)
def mJ(c:Ac)(X:Cx)(E:XK):Prop:=∀(a:Oh)(d:St)(H:Hp)(s:Shared)(e:Value)(b:Shared),aU X a d H s->c X.stack H s E e b->X.xe e b
section
variable{X:Cx}{y:Ac}{k:Nat}{f C:Addr}{fd:FuncData}{n:Om}{sp:Sp}{g:List V}{ds:Oj}{E:XK}{x m:Str}{p d i:Pos}{e o:Expr}{j:On}{z:TE}{t:TA}
def An(F:aT X.prog X.w X.K X.mg X.base y k f fd n sp)(l:eQ k X.A)(q:fC X.K fd n ds)(hd:bq g ds)(v:mJ y X E)(I:aU X a c H s)(r:bq vs us)(h:sp (vs++g) H Q E):wpAny (model X.prog X.w) X.A (call (.ref f) us) (EP X a c Q) X.xe s:=by
 have r2:bq (vs++g) (us++ds):=r.append hd;have B:(us++ds).length=n.length:=by rw[<-r2.length];exact F.len _ _ _ _ h
 refine NB (wr (F.run X.A X.stack s H ⟨us,[]⟩ (us++ds) (vs++g) Q E l I.env0 (q s us I.kIn B) r2 h) λr D b=>?_);cases r with|error e=>exact v a c H s e D I b|ok G=>cases G with|ret u=>exact I.after b|next=>exact False.elim b|brk=>exact False.elim b|cont=>exact False.elim b
def bh(F:aT X.prog X.w X.K X.mg X.base y k f fd n sp)(u:eQ k X.A)(hg:Gl X x)(hm:X.mg x=some (.ref f))(v:PySem.W.keepIn X.K (.ref f)=true)(B:fC X.K fd n ds)(hd:bq g ds)(D:mJ y X E)(G:PA X (e::j) t)(c:(x==("__debug__":Str))=false:=by decide)(J:starEach (e::j) X.env=(false,eval e X.env)::starEach j X.env:=by rfl)(l:(backTo d (starEach j X.env)).any (·.1)=false:=by rfl):PE X (.Call (.Name x p) (e::j) [] d) (DH sp g E t):=by intro a s L H Q I h;refine rk (jM I hg hm ?_ c);refine PySem.W.callWith_K (h₀:=X.base) I.ok.mod.kin v (cB (G d a s L H _ I h) λM N⟨O,P,I1,r,q⟩=>⟨I1.kIn,?_⟩) J l;exact An F u B hd D I1 r q
def a9(P:PE X o z)(c:yw X.K C)(hm:Gc X.K C m f)(F:aT X.prog X.w X.K X.mg X.base y k f fd n sp)(R:eQ k X.A)(S:fC X.K fd n ds)(hd:bq g ds)(T:mJ y X E)(Z:PA X (e::j) t)(v:starEach (e::j) X.env=(false,eval e X.env)::starEach j X.env:=by rfl)(B:(backTo d (starEach j X.env)).any (·.1)=false:=by rfl)(ht:eval (.Call (.Attribute o m i) (e::j) [] d) X.env=(do
   let D<-eval o X.env
   standAt i.atName let(f,first)<-holding [D] (getMethod D m pl)callWith d f first (backTo d (starEach (e::j) X.env)) (backToKw d (keywordEach [] X.env))):=by rfl):PE X (.Call (.Attribute o m i) (e::j) [] d) (DE C m sp g E z t):=by intro b s G H Q I h;refine PySem.W.methodCall_KW (pl:=pl) (cB (P b s G H _ I h) λu O⟨x,U,I1,Y,a,dx,fs,ex,ea,l,q⟩=>?_) ht;subst ex;obtain rfl:u=Value.ref a:=Y;refine oK I1 ea c hm l ?_;refine PySem.W.callWith_K (first:=[.ref a]) (h₀:=X.base) I.ok.mod.kin hm.kp (cB (Z d b O G U _ I1 q) λL s2⟨M,H2,N,r,q2⟩=>⟨N.kIn,?_⟩) v B;exact An (us:=.ref a::L) (vs:=.ref a::M) F R S hd T N (.cons rfl r) q2
def pU(v:PE X o z)(c:yw X.K C)(hm:Gc X.K C m f)(F:aT X.prog X.w X.K X.mg X.base y k f fd n sp)(B:eQ k X.A)(D:fC X.K fd n ds)(hd:bq g ds)(G:mJ y X E)(J:eval (.Call (.Attribute o m i) [] [] d) X.env=(do
   let r<-eval o X.env
   standAt i.atName let(f,first)<-holding [r] (getMethod r m pl)callWith d f first (backTo d (starEach [] X.env)) (backToKw d (keywordEach [] X.env))):=by rfl):PE X (.Call (.Attribute o m i) [] [] d) (DE C m sp g E z K4):=by intro b s L H Q I h;refine PySem.W.methodCall_KW (pl:=pl) (cB (v b s L H _ I h) λu O⟨x,P,I1,M,a,dx,fs,ex,N,l,q⟩=>?_) J;subst ex;obtain rfl:u=Value.ref a:=M;refine oK I1 N c hm l ?_;exact PySem.W.callWith_K0 (first:=[.ref a]) I1.kIn hm.kp (An (us:=[.ref a]) (vs:=[.ref a]) F B D hd G I1 (.cons rfl .nil) q)
structure Mk(K:Of)(C f:Addr):Prop where
 makes:PySem.W.makesIn K C=true
 init:PySem.W.findIn K (.ref C) "__init__"=some (some (.ref f))fn:PySem.W.isFn K (.ref f)=true
 kp:PySem.W.keepIn K (.ref C)=true
def Ep(M:Mk X.K C f)(F:aT X.prog X.w X.K X.mg X.base y k f fd n sp)(G:eQ (k+1) X.A)(J:fC X.K fd n ds)(hd:bq g ds)(L:mJ y X E)(I:aU X c q H s)(r:bq B l)(h:∀x dx,H x=none->H dx=none->dx≠x->sp (.ref x::(B++g)) (aD (aD H dx (.own x)) x (.ins C dx [])) (λv N=>v=.non/\Q (.ref x) N) E):wpAny (model X.prog X.w) X.A (call (.ref C) l) (EP X c q Q) X.xe s:=by
 have D:=h (s.heap.objs.size+1) s.heap.objs.size (I.hok.fresh (qr _)) (I.hok.fresh (fx _)) (ig (rm _));have b:=aU.made (C:=C) I;have r2:bq (V.ref (s.heap.objs.size+1)::(B++g)) (Value.ref (s.heap.objs.size+1)::(l++ds)):=.cons rfl (r.append hd);have O:(Value.ref (s.heap.objs.size+1)::l++ds).length=n.length:=by have e:=r2.length;rw[F.len _ _ _ _ D]at e;exact e.symm
 refine NB (E6 (f:=f) I.kIn M.makes M.init (beq_iff_eq.mp M.fn) (wr (F.run _ X.stack _ _ ⟨Value.ref (s.heap.objs.size+1)::l,[]⟩ (Value.ref (s.heap.objs.size+1)::(l++ds)) _ _ E (G.make C l []) (b.env0.make C l []) (J _ (Value.ref (s.heap.objs.size+1)::l) b.kIn O) r2 D) λr P a=>?_))
 cases r with|error e=>exact L c q _ _ e P b a|ok R=>cases R with|ret u=>obtain⟨v,S,T,U,W,Y⟩:=b.after a;subst W;exact⟨U,⟨V.ref (s.heap.objs.size+1),S,T,rfl,Y⟩⟩|next=>exact False.elim a|brk=>exact False.elim a|cont=>exact False.elim a
def tT(M:Mk X.K C f)(F:aT X.prog X.w X.K X.mg X.base y k f fd n sp)(u:eQ (k+1) X.A)(hg:Gl X x)(hm:X.mg x=some (.ref C))(v:fC X.K fd n ds)(hd:bq g ds)(B:mJ y X E)(D:PA X (e::j) t)(c:(x==("__debug__":Str))=false:=by decide)(G:starEach (e::j) X.env=(false,eval e X.env)::starEach j X.env:=by rfl)(l:(backTo d (starEach j X.env)).any (·.1)=false:=by rfl):PE X (.Call (.Name x p) (e::j) [] d) (K5 C sp g E t):=by intro a s J H Q I h;refine rk (jM I hg hm ?_ c);refine PySem.W.callWith_K (h₀:=X.base) I.ok.mod.kin M.kp (cB (D d a s J H _ I h) λL N⟨O,P,I1,r,q⟩=>⟨I1.kIn,?_⟩) G l;exact Ep M F u v hd B I1 r q
end
section
variable{X:Cx}{n:Ac}{k:Nat}{f C:Addr}{fd:FuncData}{i r:Om}{sp:Sp}{E:XK}{x m:Str}{p d c a:Pos}{e o:Expr}{q:On}{h:List Keyword}{te l:TE}{t tk:TA}{nm:Option Str}
variable{g:List Value->List Value->List Value}{j:List V->List V->List V}
end
structure aA(N P:Om)(sc:Scope):Prop where
 kind:sc.kind=.function
 co:sc.isCoroutine=false
 gen:sc.isGenerator=false
 nd:N.Nodup
 pre:N.take P.length=P
 par:∀x∈P,sc.names.lookup x=some .local\/sc.names.lookup x=some .cell
 nofree:∀y∈sc.names,y.2≠.free
theorem xk{kindOf:Str->Option NameKind}{x:Str}:∀{binds:List (Str×Value)}{m:Oi},(∀v,(x,v)∉binds)->bindL kindOf binds m x=m x
 |[],_,_=>rfl|(n,v)::r,m,h=>by
  unfold bindL;rw[xk λw a=>h w (hY _ a)]
  split
  ·have:x≠n:=by rintro rfl;exact h v il
   simp[this]
  ·rfl
theorem xm{kindOf:Str->Option NameKind}{x:Str}:∀{binds:List (Str×Value)}{m:Oi},(∀v,(x,v)∉binds)->bindC kindOf binds m x=m x
 |[],_,_=>rfl|(n,v)::r,m,h=>by
  unfold bindC;rw[xm λw a=>h w (hY _ a)]
  split
  ·rfl
  ·have:x≠n:=by rintro rfl;exact h v il
   simp[this]
theorem xl{kindOf:Str->Option NameKind}{x:Str}{v:Value}:∀{P:Om}{a:Oj}{i:Nat}{m:Oi},P.Nodup->P[i]?=some x->a[i]?=some v->kindOf x=some .local->bindL kindOf (P.zip a) m x=some v|[],_,_,_,_,h,_,_=>by simp at h|_::_,[],_,_,_,_,h,_=>by simp at h|p::P,w::a,0,m,nd,h1,h2,b=>by simp at h1 h2;subst h1;subst h2;show bindL kindOf ((p,w)::P.zip a) m p=_;unfold bindL;rw[xk λv c=>(Ob.mp nd).1 (M8 c).1,hA b];simp|p::P,w::a,i+1,m,nd,h1,h2,b=>by show bindL kindOf ((p,w)::P.zip a) m x=_;unfold bindL;exact xl (i:=i) (Ob.mp nd).2 (by simpa using h1) (by simpa using h2) b
theorem xn{kindOf:Str->Option NameKind}{x:Str}{v:Value}:∀{P:Om}{a:Oj}{i:Nat}{m:Oi},P.Nodup->P[i]?=some x->a[i]?=some v->kindOf x≠some .local->bindC kindOf (P.zip a) m x=some v|[],_,_,_,_,h,_,_=>by simp at h|_::_,[],_,_,_,_,h,_=>by simp at h|p::P,w::a,0,m,nd,h1,h2,b=>by simp at h1 h2;subst h1;subst h2;show bindC kindOf ((p,w)::P.zip a) m p=_;unfold bindC;rw[xm λv c=>(Ob.mp nd).1 (M8 c).1,g8 b];simp|p::P,w::a,i+1,m,nd,h1,h2,b=>by show bindC kindOf ((p,w)::P.zip a) m x=_;unfold bindC;exact xn (i:=i) (Ob.mp nd).2 (by simpa using h1) (by simpa using h2) b
def i8(N:Om)(a:List V):St:=a.map some++List.replicate (N.length-a.length) none
def rH(c:Ac)(P:Ol)(w:World)(K:Of)(mg:Oi)(base:Heap)(N:Om)(a:Str)(scope:Scope)(f:Addr)(cd:Value)(A:Around)(outer:List Env)(s:Shared)(H:Hp)(E:XK):Cx where
 prog:=P
 w:=w
 K:=K
 mg:=mg
 base:=base
 A:=A.deeper (envOfC a scope s.heap.objs.size f cd)
 N:=N
 s₀:=s
 H₀:=H
 env:=envOfC a scope s.heap.objs.size f cd
 outer:=outer
 stack:=envOfC a scope s.heap.objs.size f cd::outer
 ex:=[]
 calm:=true
 fn:=λ_=>true
 pn:=[]
 xe:=λe d=>wpAny (model P w) (A.deeper (envOfC a scope s.heap.objs.size f cd)) (leaving (envOfC a scope s.heap.objs.size f cd) e) (λ_ b=>c outer H s E e b) (λg b=>c outer H s E g b) d
def zN{a:Scope}{n:Nat}{x:Str}(h:a.names.lookup x=some .cell):∃c,(cellsFrom n a.names []).lookup x=some c:=by have q:=PySem.W.cellsFrom_some a.names n [] (.inl h);exact Es.mp q
def CZ{D:Ac}{P:Ol}{w:World}{K:Of}{mg:Oi}{base:Heap}{N j:Om}{d:Str}{scope:Scope}{f:Addr}{cd:Value}{A:Around}{outer:List Env}{s F:Shared}{H:Hp}{E:XK}{C:Oj}{l:List V}(S:aA N j scope)(hd:A.handled=none)(g:Bp P w K mg base A outer s H)(Q:l.length=j.length)(r:bq l C)(x:InCallC s s.heap.objs.size (bindL (envOfC d scope s.heap.objs.size f cd).kindOf (j.zip C) λ_=>none) (cellsFrom (s.heap.objs.size+1) scope.names []) (bindC (envOfC d scope s.heap.objs.size f cd).kindOf (j.zip C) λ_=>none) F):aU (rH D P w K mg base N d scope f cd A outer s H E) [] (i8 N l) H F:=by
 have J:j.length<=N.length:=by have:=r_ List.length S.pre;rw[ku]at this;lia
 obtain⟨h1,tk,rfl,G⟩:=x.done;have m:∀b:Addr,b∉(rH D P w K mg base N d scope f cd A outer s H E).ex:=λb z=>absurd (show b∈([]:Oq)from z) (by simp);refine⟨⟨g.mod,S.kind,rfl,rfl,fx _,λy z c h1 h2=>?_,λy o=>?_,λy c _ h=>?_,λ_=>hd,Around.frames_deeper g.frames,.inr ⟨rfl,rfl⟩,λb z=>absurd z (m b),g.bs,g.bsz,λb _ _=>m b,λb z=>absurd z (m b),g.funs,g.frf⟩,rfl,g.bare,Un.kept G,⟨_,x.toInCall.ns,λi y v h1 h2 h3=>?_⟩,λy c h=>⟨_,x.cell y c h⟩,g.hok.fresh (fx _),λy c h=>?_,λp t=>absurd (show p∈([]:Oh)from t) (by simp),g.hok.kept G,?_⟩
 ·exact name_of_addr x.apart (PySem.mem_of_lookup h1) (PySem.mem_of_lookup h2)
 ·have o:scope.names.lookup y=some .cell\/scope.names.lookup y=some .free:=o;rcases o with o|o
  ·exact zN o
  ·exact absurd rfl (S.nofree _ (PySem.mem_of_lookup o))
 ·exact vl (x.above y c (PySem.mem_of_lookup h))
 ·have hi:i<l.length:=by
   unfold i8 at h2
   by_cases hi:i<l.length
   ·exact hi
   ·rw[z7 (by simpa using hi)]at h2;rw[List.getElem?_replicate]at h2
    split at h2<;>cases h2
  have L:l[i]?=some v:=by unfold i8 at h2;rw[r3 (by simpa using hi),gg]at h2;cases e:l[i]?with|none=>rw[e]at h2;cases h2|some a=>rw[e]at h2;cases h2;rfl
  obtain⟨u,I,M⟩:=r.get L;have t:j[i]?=some y:=by rw[<-S.pre,Np (by lia)];exact h1
  have B:j.Nodup:=by rw[<-S.pre];exact S.nd.sublist (Nk _ _)
  refine⟨u,M,?_⟩;rcases S.par y (f_ t)with k|k
  ·exact .inl ⟨k,xl B t I k⟩
  ·obtain⟨c,e⟩:=zN (n:=s.heap.objs.size+1) k;refine .inr ⟨.inl k,c,e,?_⟩;have q:=x.cell y c e;rw[xn B t I (by show scope.names.lookup y≠_;rw[k];decide)]at q;exact q
 ·exact g.hok.fresh (vl (x.above y c (PySem.mem_of_lookup h)))
 ·unfold i8;show _=N.length;rw[gV,b_,y3];lia
def IB{F:Ac}{P:Ol}{w:World}{K:Of}{mg:Oi}{base:Heap}{k:Nat}{f:Addr}{j a:Str}{d:Arguments}{g:List Stmt}{scope:Scope}{X kV B pm c ct oc:Value}{Z od:Option Addr}{L:Array (Option Value)}{N G:Om}{sp:Sp}(lk:K.lookup f=some ⟨oc,od,.func (PySem.W.fnOf j a d g scope X kV B pm Z c ct),L⟩)(M:PySem.W.codeIn K c a=true)(S:aA N G scope)(len:∀h H Q E,sp h H Q E->h.length=G.length)(m:∀(A:Around)(outer:List Env)(s:Shared)(H:Hp)(h:List V)(Q:VK)(E:XK),eQ k (A.deeper (envOfC a scope s.heap.objs.size f c))->sp h H Q E->∃t,tY (rH F P w K mg base N a scope f c A outer s H E) g t/\t {nx:=λ_ l=>Q .non l,rt:=Q} (i8 N h) H):aT P w K mg base F (k+1) f (PySem.W.fnOf j a d g scope X kV B pm Z c ct) G sp:=by
 refine⟨len,λA outer s H Y us h Q E O C hb r D=>?_⟩;have hl:=len _ _ _ _ D;have KX:K.In s.heap:=C.mod.kin.keeps λb o e=>(C.bs b o e).1;have R:s.heap.NoLimit:=C.mod.nolimit.keeps λb o e=>(C.bs b o e).1;have p:∀y∈G.zip us,scope.names.lookup y.1=some .local\/(scope.names.lookup y.1=some .cell/\((cellsFrom (s.heap.objs.size+1) scope.names []).lookup y.1).isSome=true):=λ⟨n,v⟩hy=>by
  rcases S.par n (M8 hy).1 with q|q
  ·exact .inl q
  ·exact .inr ⟨q,PySem.W.cellsFrom_some _ _ _ (.inl q)⟩
 refine codeAny_call_function O.depth (KX _ _ lk) rfl S.co S.gen rfl (PySem.W.codeRec_of KX M) (hb _ _ _ _ ?_);refine wpAny_newFunctionEnv_cells S.kind p λenv he s1 x=>?_;subst he;refine⟨R.keeps x.toInCall.keep,codeAny_func ?_⟩;obtain⟨t,ht,hq⟩:=m A outer s H h Q E (O.deeper _) D;have I:aU (rH F P w K mg base N a scope f c A outer s H E) [] (i8 N h) H s1:=CZ S O.hd C hl r x;refine wpAny_mono (ht [] s1 (i8 N h) H _ I hq) (λfl T z=>?_) λe T z=>z;have fin:∀{i:St}{l:Hp}{v:V}{u:Value},aU (rH F P w K mg base N a scope f c A outer s H E) [] i l T->bg v u->Q v l->CE outer P w H s Q u T:=λ{i l v u}J U q=>⟨v,l,J.os,J.bare,J.base,J.hok,U,q⟩
 cases fl with|ret u=>obtain⟨v,i,l,J,U,q⟩:=z;exact fin J U q|next=>obtain⟨i,l,J,q⟩:=z;exact fin (v:=V.non) (u:=Value.none) J rfl q|brk=>obtain⟨_,_,_,q⟩:=z;exact False.elim q|cont=>obtain⟨_,_,_,q⟩:=z;exact False.elim q
end L2
namespace L2
open PySem PySem.Spec PyProof.Rows
section
variable{X:Cx}{x:Str}{p a:Pos}{e:Expr}{c:On}{t:TA}{id T:String}{r:List V->Hp->VK->Prop}
def tCB(r:List V->Hp->VK->Prop)(t:TA):TE:=λb H Q=>t b H λd f=>r d f Q
def au(hc:dk X (.builtin id) r)(hg:Gl X x)(hm:X.mg x=none)(i:bootBuiltins x=some (.builtin id))(j:PA X (e::c) t)(hn:x≠"__name__":=by decide)(d:(x==("__debug__":Str))=false:=by decide)(l:starEach (e::c) X.env=(false,eval e X.env)::starEach c X.env:=by rfl)(f:(backTo a (starEach c X.env)).any (·.1)=false:=by rfl):PE X (.Call (.Name x p) (e::c) [] a) (tCB r t):=by intro b s g H Q I h;refine rk (lq I hg hm i ?_ hn d);exact PyProof.Rows.callWith_builtin1 (cB (j a b s g H _ I h) λk m⟨n,o,I1,q,u⟩=>hc b m g o n k Q I1 q u) l f
def cV(hc:dk X (.type T) r)(hg:Gl X x)(hm:X.mg x=none)(i:bootBuiltins x=some (.type T))(j:PA X (e::c) t)(hn:x≠"__name__":=by decide)(d:(x==("__debug__":Str))=false:=by decide)(l:starEach (e::c) X.env=(false,eval e X.env)::starEach c X.env:=by rfl)(f:(backTo a (starEach c X.env)).any (·.1)=false:=by rfl):PE X (.Call (.Name x p) (e::c) [] a) (tCB r t):=by intro b s g H Q I h;refine rk (lq I hg hm i ?_ hn d);exact t4 (cB (j a b s g H _ I h) λk m⟨n,o,I1,q,u⟩=>hc b m g o n k Q I1 q u) l f
end
end L2
namespace HT
open PySem PyProof.Rows
section
open PySem.SeqAt
open PySem.AutoSeq1(wpAny_loadPart')
open PySem.MeetsSeq PySem.MeetsSeq2 PySem.MeetsSeq3
end
section
variable{prog:Ol}{w:World}{A:Around}{E:Og}{s:Shared}
def HR(p:IsTup s.heap t d.toArray)(q:IsTup s.heap b a.toArray)(m:d≠[])(h1:a=[]->Q (.ref t) s)(h2:a≠[]->Q (.ref s.heap.objs.size) {s with heap:=s.heap.push {cls:=.type "tuple",data:=.seq (d++a).toArray}})(l:d.length+a.length<=sizeLine):wpAny (model prog w) A (binaryOp .Add (.ref t) (.ref b)) Q E s:=by
 obtain⟨⟨cls,dd,data,sl⟩,j,hc,n,hd⟩:=id p;obtain⟨⟨o,f,data2,g⟩,c,h,n2,i⟩:=id q;simp only at hc hd h i;subst hc hd h i;have e:d.toArray++a.toArray=(d++a).toArray:=by simp
 by_cases k:a=[]
 ·exact concat_meets ⟨_,j,rfl⟩ ⟨_,c,rfl⟩ noFill_tuple_add seq_tuple_add PySem.F.slot_tuple_add PySem.F.entry_tuple_add (PySem.F.args_tuple_add_2 _ _) (tuple_addW1 t b d.toArray a.toArray n n2 dd f sl g (by simpa using m) (by simp[k])) ⟨j,c,h1 k⟩
 ·refine concat_meets ⟨_,j,rfl⟩ ⟨_,c,rfl⟩ noFill_tuple_add seq_tuple_add PySem.F.slot_tuple_add PySem.F.entry_tuple_add (PySem.F.args_tuple_add_2 _ _) (tuple_addW2 t b d.toArray a.toArray n n2 dd f sl g (by simpa using m) (by simpa using k) (by rw[hQ,hQ];exact l)) ⟨j,c,?_⟩
  rw[e];exact h2 k
def iw(n d:Nat):Option Int->Nat|none=>d|some v=>if v<0 then(v+(n:Int)).toNat else min v.toNat n
def Eo(n d:Nat):iw n d none=d:=rfl
def Jz(n d:Nat)(hd:d<=n)(o:Option Int):iw n d o<=n:=by cases o with|none=>exact hd|some v=>
  show(if v<0 then(v+(n:Int)).toNat else min v.toNat n)<=n
  by_cases a:v<0
  ·rw[hA a];lia
  ·rw[g8 a];exact Nat.min_le_right _ _
def B0(v:Int)(n d:Nat):(if v<0 then max (v+(n:Int)) 0 else min v (n:Int))=((iw n d (some v):Nat):Int):=by
 show(if v<0 then max (v+(n:Int)) 0 else min v (n:Int))=(((if v<0 then(v+(n:Int)).toNat else min v.toNat n):Nat):Int)
 by_cases a:v<0
 ·simp only[hA a];lia
 ·simp only[g8 a];lia
def Bj(lo hi:Option Int)(n:Nat):Builtin.Slice.sliceAdjust lo hi 1 (n:Int)=(((iw n 0 lo:Nat):Int),((iw n n hi:Nat):Int)):=by
 have h1:¬((1:Int)<0):=by lia
 unfold Builtin.Slice.sliceAdjust;simp only[h1,Nv];refine Prod.ext ?_ ?_
 ·cases lo with|none=>rfl|some v=>exact B0 v n 0
 ·cases hi with|none=>rfl|some v=>exact B0 v n n
def As(i j:Nat):Builtin.Slice.slicePlaces (i:Int) (j:Int) 1=j-i:=by
 unfold Builtin.Slice.slicePlaces;have h1:(1:Int)>0:=by lia
 simp only[h1,NZ,Int.ediv_one]
 split<;>lia
def ug(p:IsPart v o)(h:Q o s):wpAny (model prog w) A (Builtin.Slice.slicePartIndex v) Q E s:=by cases p with|none=>exact slicePart_none h|int i t=>exact slicePart_int h
def qS{sl:Addr}{c d:Value}{lo hi:Option Int}{n:Nat}{Q:Int×Int×Nat->Shared->Prop}(e:s.heap.IsSliceOf sl c d .none)(pl:IsPart c lo)(f:IsPart d hi)(h:Q (((iw n 0 lo:Nat):Int),1,iw n n hi-iw n 0 lo) s):wpAny (model prog w) A (Builtin.Slice.sliceApplied (.ref sl) (pure (n:Int))) Q E s:=by obtain⟨os,a,g,b⟩:=id e;unfold Builtin.Slice.sliceApplied Builtin.Slice.sliceFields;refine a_ (a_ (rl a b (x:=c) rfl (a_ (rl a b (x:=d) rfl (a_ (rl a b (x:=.none) rfl (e_ ?_)))))));refine a_ (slicePart_none ?_);show wpAny _ _ (if((1:Int)==0)=true then _ else _) _ _ s;rw[g8 (by decide)];refine a_ (ug pl (a_ (ug f (a_ (e_ ?_)))));show wpAny _ _ (match Builtin.Slice.sliceAdjust lo hi 1 (n:Int)with|(lo,hi)=>pure (lo,(1:Int),Builtin.Slice.slicePlaces lo hi 1)) _ _ s;rw[Bj lo hi n];show wpAny _ _ (pure (((iw n 0 lo:Nat):Int),(1:Int),Builtin.Slice.slicePlaces ((iw n 0 lo:Nat):Int) ((iw n n hi:Nat):Int) 1)) _ _ s;rw[As];exact e_ h
def EB(a:Oo)(i k:Nat):((List.range k).filterMap λ(m:Nat)=>a[((i:Int)+(m:Int)*1).toNat]?).toArray=((a.toList.drop i).take k).toArray:=by
 have e:(λ(m:Nat)=>a[((i:Int)+(m:Int)*1).toNat]?)=λm=>a[i+m]?:=by
  funext m
  have:((i:Int)+(m:Int)*1).toNat=i+m:=by lia
  rw[this]
 rw[e];have:=pick_run a i k;rw[List.filterMap_map]at this;have b:((λx=>a[x]?)∘λx=>i+x)=λm=>a[i+m]?:=rfl;rw[b]at this;rw[this]
def qz{t sl:Addr}{a:Oo}{i j:Value}{lo hi:Option Int}{Q:Og}(c:IsTup s.heap t a)(l:s.heap.IsSliceOf sl i j .none)(pl:IsPart i lo)(n:IsPart j hi)(o:¬(iw a.size 0 lo=0/\iw a.size a.size hi=a.size))(h:Q (.ref s.heap.objs.size) {s with heap:=s.heap.push {cls:=.type "tuple",data:=.seq ((a.toList.drop (iw a.size 0 lo)).take (iw a.size a.size hi-iw a.size 0 lo)).toArray}})(p:a.size<=sizeLine):wpAny (model prog w) A (getItem (.ref t) (.ref sl)) Q E s:=by
 have b:sizeOk (.seq ((a.toList.drop (iw a.size 0 lo)).take (iw a.size a.size hi-iw a.size 0 lo)).toArray):=by show((a.toList.drop (iw a.size 0 lo)).take (iw a.size a.size hi-iw a.size 0 lo)).toArray.size<=sizeLine;rw[hQ,ku,K_,j2];lia
 have u:iw a.size a.size hi<=a.size:=Jz _ _ (fx _) hi;obtain⟨os,d,e,r⟩:=id l;have f:s.TypeIs (.ref sl) "slice":=⟨os,d,e⟩;unfold getItem
 try with_reducible refine mu ?_
 first|refine a_ (e_ ?_)|skip
 refine a_ (wpAny_sequenceKey c.typeIs (by decide) ?_);refine a_ (oD (name:=Str.ofString "__getitem__") c.typeIs N5 (n7 N5 c.typeIs entry_tuple_getitem ?_ (args_tuple_getitem _ _)))
 show wpAny _ _ (Builtin.Tuple.tupleItemsOf (.ref t)>>=_) _ _ s;refine a_ (tupleItemsOf_ c ?_);refine a_ (NX f ?_);rw[hA (by decide)];refine a_ (qS l pl n ?_);have g:¬((((iw a.size 0 lo:Nat):Int)==0&&(1:Int)==1&&(iw a.size a.size hi-iw a.size 0 lo)==a.size)=true):=by intro q;rw[kw,kw]at q;have v:((iw a.size 0 lo:Nat):Int)=0:=eq_of_beq q.1.1;have x:iw a.size a.size hi-iw a.size 0 lo=a.size:=eq_of_beq q.2;exact o ⟨by lia,by lia⟩
 show wpAny _ _ (if(((iw a.size 0 lo:Nat):Int)==0&&(1:Int)==1&&(iw a.size a.size hi-iw a.size 0 lo)==a.size)=true then _ else _) _ _ s;rw[g8 g,EB]
 first|exact a_ (m:=Builtin.Tuple.tupleExact _) (oa (e_ ⟨_,rfl,e_ h⟩) b)|exact a_ (m:=Builtin.Tuple.tupleExact _) (oa (a_ (e_ (e_ ⟨_,rfl,e_ h⟩))) b)|exact a_ (a_ (m:=Builtin.Tuple.tupleExact _) (oa (e_ (e_ ⟨_,rfl,e_ h⟩)) b))|exact a_ (a_ (m:=Builtin.Tuple.tupleExact _) (oa (e_ ⟨_,rfl,e_ h⟩) b))
end
end HT
namespace L2
open PySem PySem.Spec PyProof.Rows
abbrev TO:=St->Hp->(Option Int->Hp->Prop)->Prop
def PO(X:Cx)(e:Option Expr)(t:TO):Prop:=∀(a:Oh)(s:Shared)(b:St)(H:Hp)(Q:Option Int->Hp->Prop),aU X a b H s->t b H Q->wpAny (model X.prog X.w) X.A (evalPart e X.env) (λu d=>∃o c,aU X a b c d/\IsPart u o/\Q o c) X.xe s
def Gm:TO:=λ_ H Q=>Q none H
def K2(t:TE):TO:=λa H Q=>t a H λx b=>∃i,x=.int i/\Q (some i) b
def AR:∀{a:Oj},bq (ns.map V.int) a->IntsAre a ns:=by induction ns with|nil=>intro a r;rw[List.map_nil]at r;cases r;exact .nil|cons n ns b=>intro a r;rw[lm]at r;cases r with|cons c r2=>obtain⟨t,e⟩:=c;subst e;exact .cons n t (b r2)
section
variable{X:Cx}{e:Expr}{te:TE}{lo hi:Option Expr}{f d:TO}{g c:Pos}
def iR:PO X none Gm:=by intro a s b H Q I h;rw[evalPart_none];exact e_ ⟨none,H,I,.none,h⟩
def iQ(h:PE X e te):PO X (some e) (K2 te):=by intro a s b H Q I j;rw[evalPart_some];refine cB (h a s b H _ I j) λu o k=>?_;obtain⟨x,l,I1,m,n⟩:=k;obtain⟨i,rfl,q⟩:=n;obtain⟨t,rfl⟩:=m;exact⟨some i,l,I1,.int i t,q⟩
def KO(X:Cx)(r:V->Option Int->Option Int->Hp->VK->Prop):Prop:=∀(a:Oh)(s:Shared)(b:St)(H:Hp)(x:V)(v h i:Value)(lo hi:Option Int)(sl:Addr)(Q:VK),aU X a b H s->bg x v->s.heap.IsSliceOf sl h i .none->IsPart h lo->IsPart i hi->r x lo hi H Q->∃T id,typeLookup (.type T) "__getitem__"=pure (some (.builtin id))/\s.TypeIs v T/\wpAny (model X.prog X.w) X.A (getItem v (.ref sl)) (EP X a b Q) X.xe s
def tSl(r:V->Option Int->Option Int->Hp->VK->Prop)(te:TE)(f d:TO):TE:=λa H Q=>te a H λx b=>f a b λl h=>d a h λu i=>r x l u i Q
def gC(p:KO X r)(t:PE X e te)(y:PO X lo f)(z:PO X hi d):PE X (.Subscript e (.Slice lo hi none c) g) (tSl r te f d):=by intro a s j H Q I h;refine Subscript_ (cB (t a s j H _ I h) λv B k=>?_);obtain⟨x,C,I1,D,E⟩:=k;refine wpAny_Slice (cB (y a B j C _ I1 E) λm F k=>?_);obtain⟨l,G,J,pl,K⟩:=k;refine cB (z a F j G _ J K) λn i k=>?_;obtain⟨u,o,L,M,N⟩:=k;rw[evalPart_none];refine e_ ?_;have O:aU X a j o {i with heap:=i.heap.push {cls:=.type "slice",data:=.fields #[m,n,.none]}}:=L.kept (t':=i.toks) λb ob q=>c_ _ q;obtain⟨T,id,P,R,hg⟩:=p a {i with heap:=i.heap.push {cls:=.type "slice",data:=.fields #[m,n,.none]}} j o x v m n l u i.heap.objs.size Q O D (Heap.IsSliceOf.new ..) pl M N;show wpAny (model X.prog X.w) X.A (subscriptTail e (.Slice lo hi none c) v (.ref i.heap.objs.size)) (EP X a j Q) X.xe {i with heap:=i.heap.push {cls:=.type "slice",data:=.fields #[m,n,.none]}};exact tail_any (ops:=[.ref i.heap.objs.size,v]) R P hg (by with_unfolding_all rfl)
def wk(a:List V)(lo hi:Option Int):List V:=(a.drop (HT.iw a.length 0 lo)).take (HT.iw a.length a.length hi-HT.iw a.length 0 lo)
def sI(a:List V)(lo hi:Option Int):(wk a lo hi).length<=a.length:=by unfold wk;rw[ku,K_];lia
def Ln(K:Of):V->Option Int->Option Int->Hp->VK->Prop:=λx lo hi H Q=>∃a b,x=.ref a/\bj K H a b/\¬(HT.iw b.length 0 lo=0/\HT.iw b.length b.length hi=b.length)/\∀p,H p=none->Q (.ref p) (aD H p (.tup (wk b lo hi)))
def Jw:KO X (Ln X.K):=by
 intro l s z H x v A B lo hi sl Q I p t pl u h;obtain⟨a,j,rfl,w,y,q⟩:=h;cases p;obtain⟨k,r,m,n⟩:=I.tuple w;have i:k.toArray.size=j.length:=by rw[hQ];exact r.length.symm
 refine⟨"tuple",_,PyProof.Rows.slot_tuple_getitem.lookup,m.typeIs,?_⟩;refine HT.qz m t pl u (by rw[i];exact y) ?_ (by rw[i];exact n);rw[i];refine⟨.ref s.heap.objs.size,_,I.laid (t':=s.toks) (o:=.tup (wk j lo hi)) (λb ob q=>c_ _ q) (fx _) ?_,rfl,q _ (I.hok.fresh (fx _))⟩;exact⟨kl (sI j lo hi) n,_,(r.drop (HT.iw j.length 0 lo)).take (HT.iw j.length j.length hi-HT.iw j.length 0 lo),IsTup.new _ _⟩
def Iv(K:Of):R2:=λx y H Q=>∃a b i h,x=.ref a/\y=.ref b/\bj K H a i/\bj K H b h/\i≠[]/\i.length+h.length<=sizeLine/\(h=[]->Q (.ref a) H)/\(h≠[]->∀p,H p=none->Q (.ref p) (aD H p (.tup (i++h))))
def bq.nil_iff(r:bq a h):h=[]↔a=[]:=by cases r with|nil=>simp|cons _ _=>simp
def Hd:lx X (binaryOp .Add) (Iv X.K):=by intro j s G H x y v u Q I m n h;obtain⟨a,b,p,r,rfl,rfl,t,A,B,k,C,D⟩:=h;cases m;cases n;obtain⟨E,i,F,_⟩:=I.tuple t;obtain⟨l,r2,c,_⟩:=I.tuple A;refine HT.HR F c (λz=>B (i.nil_iff.mp z)) (λz=>⟨.ref a,H,I,rfl,C (r2.nil_iff.mp z)⟩) (λz=>?_) (by rw[<-i.length,<-r2.length];exact k);refine⟨.ref s.heap.objs.size,_,I.laid (t':=s.toks) (o:=.tup (p++r)) (λb ob q=>c_ _ q) (fx _) ?_,rfl,D (λw=>z (r2.nil_iff.mpr w)) _ (I.hok.fresh (fx _))⟩;exact⟨by rw[gV];exact k,_,i.append r2,IsTup.new _ _⟩
end
end L2
namespace L2
open PySem PySem.Spec PyProof.Rows
def HB(n:Nat)(i:Int):Option Nat:=if 0<=i then(if i<n then some i.toNat else none)else if-(n:Int)<=i then some (i+n).toNat else none
def tM{a:Type}(c:List a)(i:Int):Option a:=(HB c.length i).bind λj=>c[j]?
def BS(h:HB n i=some j):seqIndex? i n=some j/\j<n/\-(n:Int)<=i/\i<n:=by
 unfold HB at h
 by_cases h0:0<=i
 ·rw[hA h0]at h
  by_cases h1:i<n
  ·rw[hA h1]at h;have e:i.toNat=j:=j1 h;exact⟨by rw[seqIndex_of h0 h1,e],by lia,by lia,h1⟩
  ·rw[g8 h1]at h;cases h
 ·rw[g8 h0]at h
  by_cases h1:-(n:Int)<=i
  ·rw[hA h1]at h;have e:(i+n).toNat=j:=j1 h;exact⟨by rw[seqIndex_neg (by lia) h1,e],by lia,h1,by lia⟩
  ·rw[g8 h1]at h;cases h
def ym(h:tM a i=some v):∃j,seqIndex? i a.length=some j/\a[j]?=some v/\j<a.length/\-(a.length:Int)<=i/\i<a.length:=by unfold tM at h;cases e:HB a.length i with|none=>rw[e]at h;cases h|some j=>rw[e]at h;obtain⟨h1,h2,h3,h4⟩:=BS e;exact⟨j,h1,h,h2,h3,h4⟩
def yq(b:Expr):Prop:=∀o i,subscripted b false o i=operate [o,i] (getItem o i)
def KR(X:Cx)(r:R2):Prop:=∀(c a:Expr)(b:Oh)(s:Shared)(d:St)(H:Hp)(x y:V)(v u:Value)(Q:VK),aU X b d H s->bg x v->bg y u->r x y H Q->subscripted a false v u=operate [v,u] (getItem v u)->wpAny (model X.prog X.w) X.A (subscriptTail c a v u) (EP X b d Q) X.xe s
def MU(X:Cx)(id:String)(r:V->List V->Hp->VK->Prop):Prop:=∀(a:Oh)(s:Shared)(b:St)(H:Hp)(x:V)(c:List V)(v:Value)(d:Oj)(Q:VK),aU X a b H s->bg x v->bq c d->r x c H Q->wpAny (model X.prog X.w) X.A (call (.builtin id) (v::d)) (EP X a b Q) X.xe s
section
variable{X:Cx}{a b:Expr}{E F:TE}{D:Pos}
def yX(d:KR X r)(e:PE X a E)(f:PE X b F)(g:yq b):PE X (.Subscript a b D) (Il r E F):=by intro c s i H Q I h;exact Subscript_ (Kq e f I h λv u j x y k l m n q=>d a b c j i k x y v u Q l m n q (g _ _))
def JB(K:Of):R2:=λx y H Q=>∃p c i v,x=.ref p/\y=.int i/\be K H p c/\tM c i=some v/\Q v H
def JA(K:Of):R2:=λx y H Q=>∃p c i v,x=.ref p/\y=.int i/\bj K H p c/\tM c i=some v/\Q v H
def MD:R2:=λx y H Q=>∃z i c,x=.str z/\y=.int i/\z.length<=sizeLine/\tM z.cps.toList i=some c/\Q (.str ⟨#[c]⟩) H
def Hz:KR X (JB X.K):=by
 intro d e c s l H x y v u Q I o A h m;obtain⟨p,L,i,z,rfl,rfl,B,C,q⟩:=h;cases o;obtain⟨t,rfl⟩:=A;obtain⟨f,r,pl,M⟩:=I.list B;obtain⟨j,h1,h2,h3,h4,h5⟩:=ym C;obtain⟨w,n,g⟩:=r.get h2;have G:=r.length;have hn:=rb;have fin:EP X c l Q w s:=⟨z,H,I,g,q⟩
 by_cases h0:0<=i
 ·have k:i.toNat=j:=by rw[seqIndex_of h0 h5]at h1;exact j1 h1
  exact item_listR pl.isList h0 (by lia) (by rw[k];simpa using n) fin m
 ·have k:(i+(f.toArray.size:Int)).toNat=j:=by rw[seqIndex_neg (by lia) h4]at h1;rw[hQ,<-G];exact j1 h1
  exact subscriptTail_builtinR (x:=w) pl.isList.typeIs slot_list_getitem.lookup (wpAny_getItem_list_neg (Q:=λr J=>r=w/\EP X c l Q r J) pl.isList (by lia) (by rw[hQ]<;>lia) (by lia) (by rw[k];simpa using n) ⟨rfl,fin⟩) m
def J5:KR X (JA X.K):=by intro d e c s g H x y v u Q I k l h m;obtain⟨p,J,i,z,rfl,rfl,n,o,q⟩:=h;cases k;obtain⟨t,rfl⟩:=l;obtain⟨A,r,pl,L⟩:=I.tuple n;obtain⟨j,h1,h2,h3,h4,h5⟩:=ym o;obtain⟨w,B,f⟩:=r.get h2;have C:=r.length;have hn:=rb;have fin:EP X c g Q w s:=⟨z,H,I,f,q⟩;exact subscriptTail_builtinR (x:=w) pl.typeIs slot_tuple_getitem.lookup (getItem_tuple (j:=j) (Q:=λr G=>r=w/\EP X c g Q r G) pl (by lia) (by lia) (by rw[hQ,<-C];exact h1) (by simpa using B) ⟨rfl,fin⟩) m
def AN:KR X MD:=by
 intro d e f s r H x y v u Q I g k h l;obtain⟨z,i,c,rfl,rfl,w,m,q⟩:=h;obtain⟨t,rfl⟩:=g;obtain⟨A,rfl⟩:=k;obtain⟨j,h1,h2,h3,h4,h5⟩:=ym m;have n:z.cps.toList.length=z.length:=by simp[Str.length]
 rw[n]at h1 h4 h5;have hn:=rb;exact tail_any (typeIs_str s z t) slot_str_getitem.lookup (getItem_str (c:=c) (by have o:decide (i< -(2^63:Int))=false:=i_ (by lia);have p:decide (i>=2^63)=false:=i_ (by lia);rw[o,p,Bool.or_false]) (by rw[h1];simpa using h2) ⟨.str ⟨#[c]⟩,H,I.tok _,⟨_,rfl⟩,q⟩) l
def AJ(c:Oj)(n j:Nat)(u:Value):Obj.mapSeq (·.setIfInBounds j u) {cls:=.type "list",data:=.seq c.toArray n}={cls:=.type "list",data:=.seq (c.set j u).toArray n}:=by simp[Obj.mapSeq]
theorem aU.lst(I:aU X d g H s)(h:H p=some (.lst f)):∃(c:Oj)(n:Nat),bq f c/\s.heap.get? p=some {cls:=.type "list",data:=.seq c.toArray n}/\f.length<=sizeLine:=by obtain⟨z,c,n,r,e⟩:=I.hok p _ h;exact⟨c,n,r,e,z⟩
def aU.lstUpd{d:Oh}{l:St}{H:Hp}{s:Shared}{p:Addr}{o i:List V}{g c:Oj}{n j:Nat}{f:Obj->Obj}(I:aU X d l H s)(h:H p=some (.lst o))(v:s.heap.get? p=some {cls:=.type "list",data:=.seq g.toArray n})(m:f {cls:=.type "list",data:=.seq g.toArray n}={cls:=.type "list",data:=.seq c.toArray j})(r:bq i c)(w:i.length<=sizeLine)(t:Nat):aU X d l (aD H p (.lst i)) {s with heap:=s.heap.update p f,toks:=t}:=by
 have e:(s.heap.update p f).get? p=some {cls:=.type "list",data:=.seq c.toArray j}:=by rw[qx f v (by rw[m]<;>rfl),m]
 refine I.write (x:=p) (e:=p) (by rw[h];trivial) (.inl rfl) (λb u k q=>(ry _ _ (m3 k)).trans q) ⟨_,e⟩ ?_;exact⟨w,c,j,r,e⟩
def Lq:V->V->V->Hp->(Hp->Prop)->Prop:=λo i v H Q=>∃p c k j,o=.ref p/\i=.int k/\H p=some (.lst c)/\HB c.length k=some j/\Q (aD H p (.lst (c.set j v)))
def Ek:Ic X Lq:=by
 intro c s w H o i v G iv u Q I x y z h;obtain⟨p,A,k,j,rfl,rfl,l,B,q⟩:=h;cases x;obtain⟨t,rfl⟩:=y;obtain⟨d,n,r,e,C⟩:=I.lst l;obtain⟨h1,h2,h3,h4⟩:=BS B;have f:=r.length;have hn:=rb;have m:aU X c w (aD H p (.lst (A.set j v))) {s with heap:=s.heap.update p (Obj.mapSeq (·.setIfInBounds j u))}:=I.lstUpd l e (AJ d n j u) (r.set z j) (by rw[ri];exact C) s.toks
 by_cases h0:0<=k
 ·have g:k.toNat=j:=by rw[seqIndex_of h0 h4]at h1;exact j1 h1
  exact PySem.W.ki_setAt e h0 (by lia) (by rw[hQ,<-f];exact h4) (by rw[g];exact⟨_,m,q⟩)
 ·have g:(k+(d.toArray.size:Int)).toNat=j:=by rw[seqIndex_neg (by lia) h3]at h1;rw[hQ,<-f];exact j1 h1
  exact PySem.W.ki_setBack e (by lia) (by rw[hQ,<-f];exact h3) (by lia) (by rw[g];exact⟨_,m,q⟩)
def xv(lo hi:Option Int)(n:Nat):(sliceBounds lo hi none n).1=((HT.iw n 0 lo:Nat):Int)/\(sliceBounds lo hi none n).2.1=((HT.iw n n hi:Nat):Int)/\(sliceBounds lo hi none n).2.2=1:=by
 refine⟨?_,?_,rfl⟩
 ·cases lo with|none=>simp[sliceBounds,HT.iw]|some i=>
   simp only[sliceBounds,HT.iw,Option.getD_none,show(1:Int)>0 by decide,NZ]
   by_cases h:i<0
   ·simp only[h,NZ]<;>lia
   ·simp only[h,Nv]<;>lia
 ·cases hi with|none=>simp[sliceBounds,HT.iw]|some i=>
   simp only[sliceBounds,HT.iw,Option.getD_none,show(1:Int)>0 by decide,NZ]
   by_cases h:i<0
   ·simp only[h,NZ]<;>lia
   ·simp only[h,Nv]<;>lia
def vF(c:Oj)(lo hi:Option Int):slicePick c.toArray lo hi none=((c.drop (HT.iw c.length 0 lo)).take (HT.iw c.length c.length hi-HT.iw c.length 0 lo)).toArray:=by obtain⟨h1,h2,h3⟩:=xv lo hi c.toArray.size;unfold slicePick;rw[h1,h2,h3];simp only[sliceRange_one,pick_run,hQ]<;>rfl
def Lo(K:Of):V->Option Int->Option Int->Hp->VK->Prop:=λx lo hi H Q=>∃a c,x=.ref a/\be K H a c/\∀p,H p=none->Q (.ref p) (aD H p (.lst (wk c lo hi)))
def GV:KO X (Lo X.K):=by intro e s n H x v p t lo hi sl Q I g i pl j h;obtain⟨a,c,rfl,k,q⟩:=h;cases g;obtain⟨l,r,f,m⟩:=I.list k;have d:=r.length;refine⟨"list",_,slot_list_getitem.lookup,f.isList.typeIs,?_⟩;refine wpAny_getItem_list_slice f.isList i pl j .none (by simp) ?_ (by rw[hQ]<;>lia);rw[vF,<-d];refine⟨.ref s.heap.objs.size,_,I.laid (t':=s.toks) (o:=.lst (wk c lo hi)) (λb ob q=>c_ _ q) (fx _) ?_,rfl,q _ (I.hok.fresh (fx _))⟩;exact⟨kl (sI c lo hi) m,_,0,(r.drop (HT.iw c.length 0 lo)).take (HT.iw c.length c.length hi-HT.iw c.length 0 lo),ge _ rfl⟩
def og:V->Bool|.non=>true|.bl _=>true|.int _=>true|.str _=>true|_=>false
def IC:V->V->Bool|.non,.non=>true|.bl a,.bl b=>a==b|.bl a,.int b=>(if a then 1 else 0)==b|.int a,.bl b=>a==(if b then 1 else 0)|.int a,.int b=>a==b|.str a,.str b=>a==b|_,_=>false
def Kh(e:bg y u)(c:bg x v)(g:og y=true)(f:og x=true):SeqAt.EqAt A s u v (IC y x):=by cases y with
 |non=>cases e;cases x with|non=>cases c;exact SeqAt.EqAt.same _|bl b=>cases c;exact SeqAt.EqAt.none_bool b|int b=>obtain⟨t,rfl⟩:=c;exact SeqAt.EqAt.none_int b t|str b=>obtain⟨t,rfl⟩:=c;exact SeqAt.EqAt.none_str b t|_=>exact absurd (show false=true from f) hF
 |bl a=>cases e;cases x with|non=>cases c;exact SeqAt.EqAt.bool_none a|bl b=>cases c;exact SeqAt.EqAt.bool_bool a b|int b=>obtain⟨t,rfl⟩:=c;exact SeqAt.EqAt.bool_int a b t|str b=>obtain⟨t,rfl⟩:=c;exact SeqAt.EqAt.bool_str a b t|_=>exact absurd (show false=true from f) hF
 |int a=>obtain⟨d,rfl⟩:=e;cases x with|non=>cases c;exact SeqAt.EqAt.int_none a d|bl b=>cases c;exact SeqAt.EqAt.int_bool a d b|int b=>obtain⟨t,rfl⟩:=c;exact SeqAt.EqAt.int_int a d b t|str b=>obtain⟨t,rfl⟩:=c;exact SeqAt.EqAt.int_str a d b t|_=>exact absurd (show false=true from f) hF
 |str a=>obtain⟨d,rfl⟩:=e;cases x with|non=>cases c;exact SeqAt.EqAt.str_none a d|bl b=>cases c;exact SeqAt.EqAt.str_bool a d b|int b=>obtain⟨t,rfl⟩:=c;exact SeqAt.EqAt.str_int a d b t|str b=>obtain⟨t,rfl⟩:=c;exact SeqAt.EqAt.str_str a d b t|_=>exact absurd (show false=true from f) hF
 |_=>exact absurd (show false=true from g) hF
def A5(x:V)(u:Value):Bool:=match u with|.none=>IC .non x|.bool b=>IC (.bl b) x|.int i _=>IC (.int i) x|.str z _=>IC (.str z) x|_=>false
def FH(r:bg y u)(f:og y=true):A5 x u=IC y x:=by cases y with|non=>cases r;rfl|bl b=>cases r;rfl|int i=>obtain⟨t,rfl⟩:=r;rfl|str z=>obtain⟨t,rfl⟩:=r;rfl|_=>exact absurd (show false=true from f) hF
theorem qI:∀{c:List V}{d:Oj},bq c d->c.all og=true->d.any (A5 x)=c.any λy=>IC y x|_,_,.nil,_=>rfl|y::c,u::d,.cons r t,f=>by rw[M0,kw]at f;rw[vu,vu,FH r f.1,qI t f.2]
theorem mC(g:bg x v)(h:og x=true):∀{d:List V}{e:Oj},bq d e->d.all og=true->∀u∈e,SeqAt.EqAt A s u v (A5 x u)
 |_,_,.nil,_=>λu c=>by cases c|y::d,u::e,.cons r t,f=>λi c=>by
  rw[M0,kw]at f;rcases q_.mp c with rfl|c
  ·rw[FH r f.1];exact Kh r g f.1 h
  ·exact mC g h t f.2 i c
def oJ(x:V)(c:List V):Bool:=c.any λy=>IC y x
def Mg(K:Of)(d:Bool):R2:=λx y H Q=>∃p c,y=.ref p/\(be K H p c\/bj K H p c)/\og x=true/\c.all og=true/\Q (.bl (if d then !oJ x c else oJ x c)) H
def CF:lx X (compareOp .In) (Mg X.K false):=by
 intro f s l H x y v u Q I g j h;obtain⟨p,m,rfl,d,i,fs,q⟩:=h;cases j;rcases d with d|d
 ·obtain⟨c,r,pl,k⟩:=I.list d;refine SeqAt.in_listAt (A5 x) pl.isList (λw e=>mC g i r fs w (by simpa using e)) ⟨.bl _,H,I,rfl,?_⟩;rw[show c.toArray.any (A5 x)=c.any (A5 x)by simp,qI r fs];exact q
 ·obtain⟨c,r,pl,k⟩:=I.tuple d;refine SeqAt.in_tupleAt (A5 x) pl (λw e=>mC g i r fs w (by simpa using e)) ⟨.bl _,H,I,rfl,?_⟩;rw[show c.toArray.any (A5 x)=c.any (A5 x)by simp,qI r fs];exact q
def xG:lx X (compareOp .NotIn) (Mg X.K true):=by
 intro f s l H x y v u Q I g j h;obtain⟨p,m,rfl,d,i,fs,q⟩:=h;cases j;rcases d with d|d
 ·obtain⟨c,r,pl,k⟩:=I.list d;refine SeqAt.notIn_listAt (A5 x) pl.isList (λw e=>mC g i r fs w (by simpa using e)) ⟨.bl _,H,I,rfl,?_⟩;rw[show c.toArray.any (A5 x)=c.any (A5 x)by simp,qI r fs];exact q
 ·obtain⟨c,r,pl,k⟩:=I.tuple d;refine SeqAt.notIn_tupleAt (A5 x) pl (λw e=>mC g i r fs w (by simpa using e)) ⟨.bl _,H,I,rfl,?_⟩;rw[show c.toArray.any (A5 x)=c.any (A5 x)by simp,qI r fs];exact q
def yg:dk X (.type "list") (λv H Q=>∃p d,v=[.ref p]/\(be X.K H p d\/bj X.K H p d)/\∀l,H l=none->Q (.ref l) (aD H l (.lst d))):=by
 intro i s y H v A Q I r h;obtain⟨p,d,rfl,j,q⟩:=h;obtain⟨u,rfl,z⟩:=lB r;cases z;have fin:∀(c:Oj),bq d c->d.length<=sizeLine->∀(h':Heap)(f:Nat),(∀b x,s.heap.get? b=some x->h'.get? b=some x)->h'.get? s.heap.objs.size=some {cls:=.type "list",dict:=none,data:=.seq c.toArray f,slots:=#[]}->EP X i y Q (.ref s.heap.objs.size) {s with heap:=h'}:=λc g k h' f kp e=>⟨.ref s.heap.objs.size,_,I.laid (t':=s.toks) kp (fx _) (show c8 X.prog X.w _ h' _ (.lst d)from⟨k,c,f,g,e⟩),rfl,q _ (I.hok.fresh (fx _))⟩
 rcases j with j|j
 ·obtain⟨c,g,pl,k⟩:=I.list j;have m:=g.length;obtain⟨o,t,hc,n,hd⟩:=pl.isList;exact call_list_seq p (.inl rfl) t hc hd (λh' f kp e=>fin c g k h' f kp e) (by simp only[hQ]<;>lia)
 ·obtain⟨c,g,pl,k⟩:=I.tuple j;have m:=g.length;obtain⟨o,t,hc,n,hd⟩:=pl;exact call_list_seq p (.inr rfl) t hc hd (λh' f kp e=>fin c g k h' f kp e) (by simp only[hQ]<;>lia)
def wo:dk X (.type "tuple") (λj H Q=>∃p f,j=[.ref p]/\((be X.K H p f/\∀l,H l=none->Q (.ref l) (aD H l (.tup f)))\/(bj X.K H p f/\Q (.ref p) H))):=by
 intro c s k H j y Q I r h;obtain⟨p,f,rfl,h⟩:=h;obtain⟨u,rfl,t⟩:=lB r;cases t;rcases h with⟨g,q⟩|⟨g,q⟩
 ·obtain⟨d,i,pl,m⟩:=I.list g;have n:=i.length;refine call_tuple_list pl.isList (λh' kp=>?_) (by simp only[hQ]<;>lia);have I1:aU X c k H {s with heap:=h'}:=I.kept (t':=s.toks) kp;have x:aU X c k (aD H h'.objs.size (.tup f)) {s with heap:=h'.push {cls:=.type "tuple",data:=.seq d.toArray}}:=I1.laid (t':=s.toks) (λb o e=>c_ _ e) (fx _) (show c8 X.prog X.w _ _ _ (.tup f)from⟨m,d,i,IsTup.new _ _⟩)
  exact⟨.ref h'.objs.size,_,x,rfl,q _ (I1.hok.fresh (fx _))⟩
 ·obtain⟨d,i,pl,m⟩:=I.tuple g;exact call_tuple_same pl ⟨.ref p,H,I,rfl,q⟩
def tyV(K:Of)(T:String)(x:V)(H:Hp):Prop:=match x with|.str _=>T="str"|.int _=>T="int"|.ref p=>(T="list"/\∃d,be K H p d)\/(T="tuple"/\∃o,K.lookup p=some o/\o.cls=.type "tuple"/\o.dict=none)\/(T="dict"/\((∃c,H p=some (.dK c))\/∃c,H p=some (.dT c)))\/(T="set"/\∃S n,H p=some (.set S n))|_=>False
def IQ(I:aU X h l H s)(r:bg x v)(ty:tyV X.K T x H):
 s.TypeIs v T/\∀a,v=.ref a->∃ob,s.heap.get? a=some ob/\ob.dict=none:=by cases x with|str z=>obtain⟨t,rfl⟩:=r;cases(show T="str"from ty);exact⟨typeIs_str s z t,λ_ e=>nomatch e⟩|int i=>obtain⟨t,rfl⟩:=r;cases(show T="int"from ty);exact⟨typeIs_int s i t,λ_ e=>nomatch e⟩|ref p=>
  cases r;rcases ty with⟨rfl,m,j⟩|⟨rfl,o,d,hc,hd⟩|⟨rfl,d⟩|⟨rfl,S,n,d⟩
  ·obtain⟨k,_,pl,_⟩:=I.list j;refine⟨pl.isList.typeIs,λa e=>?_⟩;cases e;obtain⟨o,n,e,c,hd,_⟩:=pl;exact⟨o,e,hd⟩
  ·refine⟨⟨o,I.kIn p o d,hc⟩,λa e=>?_⟩;cases e;exact⟨o,I.kIn _ o d,hd⟩
  ·have z:∃o,s.heap.get? p=some o/\o.ExactDict:=by
    rcases d with⟨f,d⟩|⟨f,d⟩
    ·obtain⟨_,_,_,_,o,_,_,e,ex,_⟩:=I.hok p _ d;exact⟨o,e,ex⟩
    ·obtain⟨_,_,_,_,o,_,_,e,ex,_⟩:=I.hok p _ d;exact⟨o,e,ex⟩
   obtain⟨o,e,ex⟩:=z;refine⟨⟨o,e,ex.1⟩,λa g=>?_⟩;cases g;exact⟨o,e,ex.2.1⟩
  ·obtain⟨o,_,_,_,e,ex,_⟩:=I.hok p _ d;refine⟨⟨o,e,ex.1⟩,λa g=>?_⟩;cases g;exact⟨o,e,ex.2.1⟩|_=>exact False.elim ty
def tBM(K:Of)(T:String)(r:V->List V->Hp->VK->Prop)(C:TE)(t:TA):TE:=λc H Q=>C c H λx d=>tyV K T x d/\t c d λe f=>r x e f Q
variable{o e:Expr}{m:On}{C:TE}{t:TA}{g:Str}{B d:Pos}{T id:String}{r:V->List V->Hp->VK->Prop}
def Lv(w:PlainAttrs T)(slot:Slot T g id)(n:typeOf (.builtin id)=pure (.type "method_descriptor"))(hm:MU X id r)(y:PE X o C)(z:PA X (e::m) t)(i:attributeBase o g X.env (eval o X.env)=eval o X.env:=by rfl)(l:((backTo d (starEach (e::m) X.env)).all (λx=>!x.1)&&(backToKw d (keywordEach [] X.env)).all (λx=>x.1.isSome)&&decide ((e::m).length+([]:List Keyword).length+(if([]:List Keyword).isEmpty then 0 else 1)<30))=true:=by rfl)(j:(B.endLine==d.line)=true:=by rfl)(A:starEach (e::m) X.env=(false,eval e X.env)::starEach m X.env:=by rfl)(f:(backTo d (starEach m X.env)).any (·.1)=false:=by rfl):PE X (.Call (.Attribute o g B) (e::m) [] d) (tBM X.K T r C t):=by intro c s k H Q I h;refine wpAny_Call_method_late i l j rfl (cB (y c s k H _ I h) λv G p=>?_);obtain⟨x,J,I1,q,ty,L⟩:=p;obtain⟨h1,h2⟩:=IQ I1 q ty;refine⟨T,id,w,slot,n,h1,h2,?_⟩;have u:=z d c G k J _ I1 L;rw[A]at u⊢;refine qc (by show(false||(backTo d (starEach m X.env)).any (·.1))=false;rw[f]<;>rfl) (sT ?_);refine cB u λM N p=>?_;obtain⟨O,P,R,r2,S⟩:=p;exact hm c N k P x O v M Q R q r2 S
end
end L2
namespace L2
open PySem PySem.Spec PyProof.Rows
def MtM(X:Cx)(id:String)(r:V->List V->Hp->VK->Prop):Prop:=∀(a:Oh)(s:Shared)(b:St)(H:Hp)(x:V)(c:List V)(v:Value)(d:Oj)(Q:VK),aU X a b H s->bg x v->bq c d->r x c H Q->wpAny (model X.prog X.w) X.A (call (.builtin id) (v::d)) (EP X a b Q) X.xe s
def bq.one:∀{x:V}{a:Oj},bq [x] a->∃u,a=[u]/\bg x u|_,_,.cons r .nil=>⟨_,rfl,r⟩
theorem bq.reverse(h:bq a c):bq a.reverse c.reverse:=by induction h with|nil=>exact .nil|cons r t b=>rw[List.reverse_cons,List.reverse_cons];exact bq.append b (.cons r .nil)
theorem bq.rep(h:bq a c):∀k:Nat,bq (List.replicate k a).flatten (List.replicate k c).flatten|0=>.nil|k+1=>by rw[qq,qq,z3,z3];exact bq.append h (bq.rep h k)
theorem w5(a:Oj):∀(k:Nat)(c:Oj),List.foldl (λd f=>d++f) c.toArray (List.replicate k a.toArray)=(c++(List.replicate k a).flatten).toArray
 |0,c=>by simp|k+1,c=>by
  have e:c.toArray++a.toArray=(c++a).toArray:=by simp
  have b:(c++a)++(List.replicate k a).flatten=c++(List.replicate (k+1) a).flatten:=by rw[qq,z3,No]
  rw[<-b,<-w5 a k (c++a),<-e,qq,t0]
section
variable{X:Cx}{a:Oh}{d:St}{H:Hp}{s:Shared}{l b:Addr}{g c i:List V}
def aU.lset{h its':Oj}{n:Nat}{f:Array Value->Array Value}{j:Nat}(I:aU X a d H s)(m:H l=some (.lst g))(e:s.heap.get? l=some {cls:=.type "list",data:=.seq h.toArray n})(o:f h.toArray=its'.toArray)(p:bq c its')(r:c.length<=sizeLine):aU X a d (aD H l (.lst c)) {s with heap:=s.heap.update l (Obj.mapSeq f),toks:=j}:=by have q:=PySem.IsL.update e f;rw[o]at q;refine I.write (x:=l) (e:=l) (by rw[m];exact trivial) (.inl rfl) (λv u k t=>(ry s.heap (Obj.mapSeq f) (m3 k)).trans t) ⟨_,q⟩ ?_;exact⟨r,its',_,p,q⟩
def aU.lnew(I:aU X a d H s)(f:bq c e)(h:c.length<=sizeLine):aU X a d (aD H s.heap.objs.size (.lst c)) {s with heap:=s.heap.push {cls:=.type "list",data:=.seq e.toArray},toks:=t'}:=I.laid (λ_ _ q=>c_ _ q) (fx _) ⟨h,e,0,f,ge _ rfl⟩
theorem aU.fresh(I:aU X a d H s):H s.heap.objs.size=none:=I.hok.fresh (fx _)
def aU.lstM(I:aU X a d H s)(h:H l=some (.lst g)):g.length<=sizeLine/\∃(f:Oj)(n:Nat),bq g f/\g.length=f.length/\s.heap.get? l=some {cls:=.type "list",data:=.seq f.toArray n}:=by obtain⟨z,f,n,r,e⟩:=I.hok l _ h;exact⟨z,f,n,r,r.length,e⟩
def zi{n:Nat}(h:n<=sizeLine):Builtin.List.listTooLong n=false:=by unfold Builtin.List.listTooLong;exact i_ (by lia)
end
section
variable{X:Cx}
def GY:V->List V->Hp->VK->Prop:=λx b H Q=>∃l a y,x=.ref l/\b=[y]/\H l=some (.lst a)/\a.length<sizeLine/\Q .non (aD H l (.lst (a++[y])))
def fm:MtM X "list.append" GY:=by intro b s i H x j v k Q I f g h;obtain⟨l,m,y,rfl,rfl,c,o,q⟩:=h;cases f;obtain⟨u,rfl,ru⟩:=g.one;obtain⟨z,a,n,r,p,e⟩:=I.lstM c;refine call_meets F.slot_list_append ⟨_,e,rfl⟩ F.entry_list_append (F.args_list_append_2 _ _) (PySem.list_append l a.toArray n u (by rw[hQ];lia)) ⟨e,?_⟩;refine⟨.non,_,I.lset (its':=a++[u]) c e (by simp) (r.append (.cons ru .nil)) ?_,rfl,q⟩;rw[gV,List.length_singleton];lia
def GX:V->List V->Hp->VK->Prop:=λx d H Q=>∃l b a c,x=.ref l/\d=[.ref b]/\H l=some (.lst a)/\H b=some (.lst c)/\a.length+c.length<=sizeLine/\Q .non (aD H l (.lst (a++c)))
def wQ:MtM X "list.extend" GX:=by
 intro g s w H x y v A Q I k m h;obtain⟨l,b,B,C,rfl,rfl,i,o,D,q⟩:=h;cases k;obtain⟨u,rfl,ru⟩:=m.one;cases ru;obtain⟨z,c,n,r,E,e⟩:=I.lstM i;obtain⟨G,a,n2,r2,p,t⟩:=I.lstM o;have f:c.toArray.size+a.toArray.size<=sizeLine:=by rw[hQ,hQ];lia
 have d:¬(!c.toArray.isEmpty&&Builtin.List.listTooLong (c.toArray.size+a.toArray.size))=true:=by rw[zi f,Bool.and_false];exact hF
 refine call_meets F.slot_list_extend ⟨_,e,rfl⟩ F.entry_list_extend (F.args_list_extend_2 _ _) (AutoSeq1.list_extend_list_list_0 l c.toArray n b a.toArray n2 d (by rw[hQ];lia) (by lia)) ⟨e,t,?_⟩
 refine⟨.non,_,I.lset (its':=c++a) i e (by simp) (r.append r2) ?_,rfl,q⟩;rw[gV];lia
def MF:R2:=λx y H Q=>∃l b a c,x=.ref l/\y=.ref b/\H l=some (.lst a)/\H b=some (.lst c)/\a.length+c.length<=sizeLine/\∀p,H p=none->Q (.ref p) (aD H p (.lst (a++c)))
def Aw:lx X (binaryOp .Add) MF:=by
 intro d s p H x y v u Q I f g h;obtain⟨l,b,t,w,rfl,rfl,i,j,A,q⟩:=h;cases f;cases g;obtain⟨z,c,n,r,B,e⟩:=I.lstM i;obtain⟨C,a,n2,r2,k,m⟩:=I.lstM j;refine PySem.P.add_list e m ?_ (by rw[hQ,hQ];lia);have o:c.toArray++a.toArray=(c++a).toArray:=by simp
 rw[o];exact⟨.ref _,_,I.lnew (t':=s.toks) (r.append r2) (by rw[gV];lia),rfl,q _ I.fresh⟩
def MC:R2:=λx y H Q=>∃l k a,x=.ref l/\y=.int k/\H l=some (.lst a)/\-(2^63)<=k/\k<2^63/\a.length*k.toNat<=sizeLine/\∀p,H p=none->Q (.ref p) (aD H p (.lst (List.replicate k.toNat a).flatten))
def Hv(a:List c)(k:Nat):(List.replicate k a).flatten.length=k*a.length:=by induction k with|zero=>simp|succ k b=>rw[qq,z3,gV,b,Nat.succ_mul,Nat.add_comm]
def EG:lx X (binaryOp .Mult) MC:=by
 intro p s J H x y v u Q I A B h;obtain⟨l,k,K,rfl,rfl,C,h1,h2,w,q⟩:=h;cases A;obtain⟨t,rfl⟩:=B;obtain⟨z,b,n,r,D,e⟩:=I.lstM C;have d:b.toArray.size*k.toNat<=sizeLine:=by rw[hQ,<-D];exact w
 have f:¬b.toArray.size*k.toNat>(2^63-1)/8:=by
  have:(sizeLine:Nat)<=(2^63-1)/8:=by decide
  lia
 have g:¬(!Builtin.List.listFitsIndex k)=true:=by rw[fitsIndex_both h1 h2];exact hF
 have c:¬Builtin.List.listTooLong (b.toArray.size*k.toNat)=true:=by rw[zi d];exact hF
 have i:List.foldl (λj o=>j++o) #[] (List.replicate (if b.toArray.isEmpty=true then 0 else k.toNat) b.toArray)=(List.replicate k.toNat b).flatten.toArray:=by
  have E:∀m:Nat,List.foldl (λj o=>j++o) #[] (List.replicate m b.toArray)=(List.replicate m b).flatten.toArray:=λm=>by have:=w5 b m [];rw[List.nil_append]at this;exact this
  rw[E];cases b with|nil=>simp|cons a L=>rw[g8 (by simp)]
 refine wpAny_binaryOp_repeat_ref (T:="list") (U:="int") (by decide) ⟨_,e,rfl⟩ (λG=>typeIs_int G k t) noFill_list_mul F.fills_int_mul F.slot_int_rmul repeat_list F.slot_int_index.lookup (call_meets F.slot_int_rmul (typeIs_int s k t) F.entry_int_rmul (F.args_int_rmul_2 _ _) (int___rmul___int_list k t l b.toArray n) ⟨e,rfl,⟨_,e,rfl⟩,call_meets F.slot_list_mul ⟨_,e,rfl⟩ F.entry_list_mul (F.args_list_mul_2 _ _) (AutoListH.list___mul___list_int_3 l b.toArray n k t g f c) ⟨e,?_⟩⟩)
 rw[i];exact⟨.ref _,_,I.lnew (t':=s.toks) (r.rep k.toNat) (by rw[Hv,Nat.mul_comm];exact w),rfl,q _ I.fresh⟩
end
section
variable{prog:Ol}{w:World}{A:Around}{E:Og}{s:Shared}
end
section
variable{X:Cx}
end
end L2
namespace L2
open PySem PySem.Spec PyProof.Rows
section
variable{c:Type}[DecidableEq c]
def bB(a:List (c×V))(k:c):Option V:=(a.find? λkv=>decide (kv.1=k)).map (·.2)
def fk(a:List (c×V))(k:c)(v:V):List (c×V):=if(a.any λkv=>decide (kv.1=k))=true then a.map (λkv=>if kv.1=k then(kv.1,v)else kv)else a++[(k,v)]
def d0(a:List (c×V))(k:c):List (c×V):=a.filter λkv=>decide (kv.1≠k)
def cI{p:c×V}{r:List (c×V)}{k:c}(e:p.1=k):bB (p::r) k=some p.2:=by simp[bB,pw,e]
def bM{p:c×V}{r:List (c×V)}{k:c}(e:¬p.1=k):bB (p::r) k=bB r k:=by simp[bB,pw,e]
theorem lQ(k:c):∀a:List (c×V),(a.any λkv=>decide (kv.1=k))=(bB a k).isSome
 |[]=>rfl|p::r=>by
  rw[vu]
  by_cases e:p.1=k
  ·simp only[cI e,ji e,Bool.true_or,Option.isSome_some]
  ·rw[bM e,i_ e,Bool.false_or];exact lQ k r
theorem yA(k j:c)(y:V):∀a:List (c×V),bB (a.map λkv=>if kv.1=k then(kv.1,y)else kv) j=(bB a j).map λx=>if j=k then y else x
 |[]=>rfl|p::r=>by
  have b:=yA k j y r;rw[lm]
  by_cases h:p.1=k
  ·rw[hA h]
   by_cases e:p.1=j
   ·rw[cI (p:=(p.1,y)) e,cI e,E1,hA (e.symm.trans h)]
   ·rw[bM (p:=(p.1,y)) e,bM e,b]
  ·rw[g8 h]
   by_cases e:p.1=j
   ·rw[cI (p:=p) e,cI e,E1,g8 (λz=>h (e.trans z))]
   ·rw[bM (p:=p) e,bM e,b]
theorem wC(k j:c)(y:V):∀a:List (c×V),bB a k=none->bB (a++[(k,y)]) j=if j=k then some y else bB a j
 |[],_=>by
  by_cases e:k=j
  ·rw[hA e.symm];exact cI (p:=(k,y)) e
  ·rw[g8 (λz=>e z.symm)];exact bM (p:=(k,y)) e|p::r,hn=>by
  rw[List.cons_append];have b:¬p.1=k:=λz=>by rw[cI z]at hn;cases hn
  rw[bM b]at hn;have d:=wC k j y r hn
  by_cases e:p.1=j
  ·rw[cI e,cI e,g8 (λz=>b (e.trans z))]
  ·rw[bM e,bM e,d]
def Dx(d:List (c×V))(k j:c)(y:V):bB (fk d k y) j=if j=k then some y else bB d j:=by
 unfold fk
 by_cases a:(d.any λkv=>decide (kv.1=k))=true
 ·rw[hA a,yA];rw[lQ]at a
  by_cases e:j=k
  ·obtain⟨x,b⟩:=Es.mp a;rw[hA e,e,b,E1,hA rfl]
  ·rw[g8 e];cases bB d j with|none=>rfl|some x=>rw[E1,g8 e]
 ·rw[g8 a];refine wC k j y d ?_;rw[lQ]at a;cases q:bB d k with|none=>rfl|some x=>rw[q]at a;exact(a rfl).elim
def mD(a:List (c×V))(k:c)(v:V):(fk a k v).length<=a.length+1:=by
 unfold fk
 split
 ·rw[b_];lia
 ·rw[gV,k4,Oc];lia
def pS{a:List (c×V)}{k:c}(v:V)(h:bB a k=none):fk a k v=a++[(k,v)]:=by unfold fk;rw[lQ,h];exact g8 (by decide)
def kP.isSome_eq(r:kP o u):o.isSome=u.isSome:=by cases o with
 |none=>cases u with|none=>rfl|some _=>exact(show False from r).elim
 |some _=>cases u with|none=>exact(show False from r).elim|some _=>rfl
theorem kP.getD(r:kP o u)(a:bg d e):bg (o.getD d) (u.getD e):=by cases o with
 |none=>cases u with|none=>exact a|some _=>exact(show False from r).elim
 |some _=>cases u with|none=>exact(show False from r).elim|some _=>exact r
def KV.val{a:List (c×V)}{g:List (c×Value)}(r:KV a g)(k:c):kP (bB a k) (valueAt g k):=by
 unfold KV at r
 induction r with|nil=>exact True.intro|@cons p q j d h t i=>
  obtain⟨h1,h2⟩:=h
  by_cases e:p.1=k
  ·have f:q.1=k:=h1.symm.trans e;have b:valueAt (q::d) k=some q.2:=by simp[valueAt,pw,f]
   rw[cI e,b];exact h2
  ·have f:¬q.1=k:=λz=>e (h1.trans z);have b:valueAt (q::d) k=valueAt d k:=by simp[valueAt,pw,f]
   rw[bM e,b];exact i
theorem KV.any(r:KV a d)(k:c):(a.any λkv=>decide (kv.1=k))=d.any λkv=>decide (kv.1=k):=by
 unfold KV at r
 induction r with|nil=>rfl|cons h t b=>rw[vu,vu,b,h.1]
def KV.repl(r:KV a d)(k:c)(f:bg y u):KV (a.map λkv=>if kv.1=k then(kv.1,y)else kv) (d.map λkv=>if kv.1=k then(kv.1,u)else kv):=by
 unfold KV at r⊢
 induction r with|nil=>exact .nil|@cons p q g i h t b=>
  rw[lm,lm];refine .cons ?_ b;obtain⟨h1,h2⟩:=h
  by_cases e:p.1=k
  ·rw[hA e,hA (h1.symm.trans e)];exact⟨h1,f⟩
  ·rw[g8 e,g8 (λz=>e (h1.trans z))];exact⟨h1,h2⟩
def KV.put(r:KV a d)(k:c)(f:bg y u):KV (fk a k y) (stored d k u):=by
 unfold fk stored;rw[r.any k]
 by_cases e:(d.any λkv=>decide (kv.1=k))=true
 ·rw[hA e,hA e];exact r.repl k f
 ·rw[g8 e,g8 e];exact Paired.snoc r ⟨rfl,f⟩
def KV.drop(r:KV d g)(k:c):KV (d0 d k) (without g k):=by
 unfold KV at r⊢;unfold d0 without
 induction r with|nil=>exact .nil|@cons p q j l h t f=>
  obtain⟨h1,h2⟩:=h;rw[Nz,Nz]
  by_cases e:p.1=k
  ·have a:¬decide (p.1≠k)=true:=by simp[e]
   have b:¬decide (q.1≠k)=true:=by simp[h1.symm.trans e]
   rw[g8 a,g8 b];exact f
  ·have i:¬q.1=k:=λz=>e (h1.trans z);have a:decide (p.1≠k)=true:=by simp[e]
   have b:decide (q.1≠k)=true:=by simp[i]
   rw[hA a,hA b];exact .cons ⟨h1,h2⟩ f
theorem KV.length(r:KV a d):a.length=d.length:=Paired.length r
def zH(a:List (c×V))(k:c):(d0 a k).length<=a.length:=si _ _
end
def qv(r:bg (kV k) u):(bd P w).is k u=true:=by cases k with|inl i=>obtain⟨t,e⟩:=(show∃t,u=Value.int i t from r);subst e;exact zn P w i t|inr x=>obtain⟨t,e⟩:=(show∃t,u=Value.str x t from r);subst e;exact sA P w x t
theorem rC:∀{a:List cp}{c:Oj},bq (a.map kV) c->ItemsAre (bd P w) a c|[],_,r=>by rw[List.map_nil]at r;cases r;exact .nil|k::a,_,r=>by rw[lm]at r;cases r with|cons h t=>exact .cons (qv h) (rC t)
abbrev KT(H:Hp):List (List cp×V)->List (List cp×Addr×Value)->Prop:=Paired λp q=>p.1=q.1/\H q.2.1=some (.tup (p.1.map kV))/\bg p.2 q.2.2
def KT.val{H:Hp}{a:List (List cp×V)}{f:List (List cp×Addr×Value)}(r:KT H a f)(k:List cp):kP (bB a k) ((atKey f k).map (·.2)):=by induction r with|nil=>exact True.intro|@cons p q i c h t g=>
  obtain⟨h1,_,h2⟩:=h
  by_cases e:p.1=k
  ·have d:q.1=k:=h1.symm.trans e;have b:atKey (q::c) k=some q.2:=by simp[atKey,pw,d]
   rw[cI e,b];exact h2
  ·have d:¬q.1=k:=λz=>e (h1.trans z);have b:atKey (q::c) k=atKey c k:=by simp[atKey,pw,d]
   rw[bM e,b];exact g
def KT.repl(r:KT H a c)(k:List cp)(d:bg y u):KT H (a.map λkv=>if kv.1=k then(kv.1,y)else kv) (c.map (putAt k u)):=by induction r with|nil=>exact .nil|@cons p q f g h t b=>
  rw[lm,lm];refine .cons ?_ b;obtain⟨h1,h2,h3⟩:=h;unfold putAt
  by_cases e:p.1=k
  ·rw[hA e,hA (h1.symm.trans e)];exact⟨h1,h2,d⟩
  ·rw[g8 e,g8 (λz=>e (h1.trans z))];exact⟨h1,h2,h3⟩
def KT.put(r:KT H a c)(k:List cp)(f:H b=some (.tup (k.map kV)))(d:bg y u):KT H (fk a k y) (storedH c k b u):=by
 have e:(a.any λkv=>decide (kv.1=k))=(atKey c k).isSome:=by rw[lQ,(r.val k).isSome_eq,N1]
 unfold fk storedH;rw[e]
 by_cases q:(atKey c k).isSome=true
 ·rw[hA q,hA q];exact r.repl k d
 ·rw[g8 q,g8 q];exact Paired.snoc r ⟨rfl,f,d⟩
def KT.keeps(r:KT H a d)(e:∀b c,H b=some (.tup c)->f b=some (.tup c)):KT f a d:=Paired.mapP r λ_ _ z=>⟨z.1,e _ _ z.2.1,z.2.2⟩
section
variable{P:Ol}{w:World}{H:Hp}{h:Heap}{a:Addr}
def Iu(ok:lO P w H h)(e:Rd H a u):c8 P w H h a u:=e.ok ok
def sH(ok:lO P w H h)(e:Rd H a (.dK c)):c.length<=sizeLine/\(a==sysModules)=false/\∃d,KV c d/\h.DictOf (bd P w) a d:=show c8 P w H h a (.dK c)from Iu ok e
def IE(ok:lO P w H h)(e:H a=some (.dK c)):c.length<=sizeLine/\(a==sysModules)=false/\∃d,KV c d/\h.DictOf (bd P w) a d:=sH ok (.inl e)
def oG(ok:lO P w H h)(e:H a=some (.tup (c.map kV))):(tupleKind (bd P w)).is h c a:=by obtain⟨_,b,r,o,h1,h2,n,h3⟩:=(show c8 P w H h a (.tup (c.map kV))from ok a _ e);exact⟨o,b.toArray,n,h1,h2,h3,by simpa using rC r⟩
def sG(ok:lO P w H h)(e:Rd H a (.dT c)):c.length<=sizeLine/\(a==sysModules)=false/\∃d,KT H c d/\h.DictOfH (tupleKind (bd P w)) a d:=by
 obtain⟨z,y,d,r,o,g,i,h1,h2,h3,h4,h5⟩:=(show c8 P w H h a (.dT c)from Iu ok e);refine⟨z,y,d,r,o,g,i,h1,h2,h3,h4,λx b=>?_,h5⟩;have all:∀{l:List (List cp×V)}{m:List (List cp×Addr×Value)},KT H l m->∀x∈m,(tupleKind (bd P w)).is h x.1 x.2.1:=by
  intro l m q
  induction q with|nil=>intro x b;exact nomatch b|@cons p q k n f t j=>
   intro x b;rcases q_.mp b with e|b
   ·subst e;exact oG ok (by rw[<-f.1];exact f.2.1)
   ·exact j x b
 exact all r x b
def LY(ok:lO P w H h)(e:H a=some (.dT c)):c.length<=sizeLine/\(a==sysModules)=false/\∃d,KT H c d/\h.DictOfH (tupleKind (bd P w)) a d:=sG ok (.inl e)
end
def eE(H:Hp)(a:Addr)(y:V)(r:Option V):Prop:=(∃c k,Rd H a (.dK c)/\y=kV k/\r=bB c k)\/∃c k b,Rd H a (.dT c)/\y=.ref b/\H b=some (.tup (k.map kV))/\r=bB c k
def Ij(H:Hp)(a:Addr)(y v:V)(d:Hp):Prop:=(∃c k,H a=some (.dK c)/\y=kV k/\c.length<sizeLine/\d=aD H a (.dK (fk c k v)))\/∃c k b,H a=some (.dT c)/\y=.ref b/\H b=some (.tup (k.map kV))/\c.length<sizeLine/\d=aD H a (.dT (fk c k v))
theorem eE.k{H:Hp}{a:Addr}{c:List (cp×V)}{k:cp}(e:H a=some (.dK c)):eE H a (kV k) (bB c k):=.inl ⟨c,k,.inl e,rfl,rfl⟩
theorem Ij.k{H:Hp}{a:Addr}{c:List (cp×V)}{k:cp}{v:V}(e:H a=some (.dK c))(d:c.length<sizeLine):Ij H a (kV k) v (aD H a (.dK (fk c k v))):=.inl ⟨c,k,e,rfl,d,rfl⟩
section
variable{X:Cx}{d:Oh}{f:St}{H:Hp}{s:Shared}{a:Addr}{y v:V}{u r:Value}{o:Option V}{A:Around}{E:Og}
def aU.big(I:aU X d f H s):sysModules<s.heap.objs.size:=by have h:mainGlobals<s.heap.objs.size:=(I.mod.glob.keeps I.bk).lt;exact u6 (by decide) h
def De(C:A.units+1<cLine)(I:aU X d f H s)(g:eE H a y (some v))(x:bg y u)(h:∀j B,aU X d f H B->bg v j->Q j B):wpAny (model X.prog X.w) A (getItem (.ref a) u) Q E s:=by
 rcases g with⟨m,k,e,n,l⟩|⟨m,k,b,e,n,D,l⟩
 ·subst n;obtain⟨z,hd,F,c,dd⟩:=sH I.hok e;obtain⟨j,q,i⟩:=kP.some_of (v:=v) (o:=valueAt F k) (by rw[l];exact c.val k);exact wpAny_getItem_of (qv x) dd.mapOf q (h j _ (I.tok _) i)
 ·subst n;cases(show u=Value.ref b from x);obtain⟨z,hd,G,c,dd⟩:=sG I.hok e;obtain⟨j,q,i⟩:=kP.some_of (v:=v) (o:=(atKey G k).map (·.2)) (by rw[l];exact c.val k);obtain⟨p,J,t⟩:=Option.map_eq_some_iff.mp q;refine wpAny_getItem_heap (wh C) (oG I.hok D) dd J ?_;rw[t];exact h j _ (I.tok _) i
def MN(p:A.units+1<cLine)(I:aU X d f H s)(g:eE H a y o)(m:bg y u)(h:∀n,aU X d f H n->Q (.bool o.isSome) n):wpAny (model X.prog X.w) A (compareOp .In u (.ref a)) Q E s:=by
 rcases g with⟨i,k,e,j,l⟩|⟨i,k,b,e,j,t,l⟩
 ·subst j;obtain⟨z,hd,x,c,dd⟩:=sH I.hok e;refine wpAny_in_of (qv m) hd dd.mapOf ?_;rw[<-(c.val k).isSome_eq,<-l];exact h _ (I.tok _)
 ·subst j;cases(show u=Value.ref b from m);obtain⟨z,hd,B,c,dd⟩:=sG I.hok e;refine wpAny_in_heap (wh p) (oG I.hok t) hd dd ?_;have q:=(c.val k).isSome_eq;rw[N1]at q;rw[<-q,<-l];exact h _ (I.tok _)
def BZ(p:A.units+1<cLine)(I:aU X d f H s)(g:eE H a y o)(m:bg y u)(h:∀n,aU X d f H n->Q (.bool (!o.isSome)) n):wpAny (model X.prog X.w) A (compareOp .NotIn u (.ref a)) Q E s:=by
 rcases g with⟨i,k,e,j,l⟩|⟨i,k,b,e,j,t,l⟩
 ·subst j;obtain⟨z,hd,x,c,dd⟩:=sH I.hok e;refine wpAny_notIn_of (qv m) hd dd.mapOf ?_;rw[<-(c.val k).isSome_eq,<-l];exact h _ (I.tok _)
 ·subst j;cases(show u=Value.ref b from m);obtain⟨z,hd,B,c,dd⟩:=sG I.hok e;refine wpAny_notIn_heap (wh p) (oG I.hok t) hd dd ?_;have q:=(c.val k).isSome_eq;rw[N1]at q;rw[<-q,<-l];exact h _ (I.tok _)
def tX(I:aU X d f H s)(c:L4 (H a))(g:Heap.SameBut a s.heap h')(h:∃q,h'.get? a=some q)(new:c8 X.prog X.w (aD H a ob) h' a ob):aU X d f (aD H a ob) {s with heap:=h',toks:=j}:=I.write (x:=a) (e:=a) c (.inl rfl) (λb q i z=>(g.2 b i).trans z) h new
def FJ(z:c.length<=sizeLine)(hd:(a==sysModules)=false)(e:KV c g)(dd:h'.DictOf (bd P w) a g):c8 P w h h' a (.dK c):=⟨z,hd,g,e,dd⟩
def Dc(M:A.units+1<cLine)(I:aU X d f H s)(g:Ij H a y v N)(F:bg y u)(G:bg v r)(h:∀J,aU X d f N J->Q () J):wpAny (model X.prog X.w) A (setItem (.ref a) u r) Q E s:=by
 rcases g with⟨i,k,e,p,l,t⟩|⟨i,k,b,e,p,K,l,t⟩
 ·subst p t;obtain⟨z,hd,O,j,dd⟩:=IE I.hok e;have x:O.length<=sizeLine:=by rw[<-j.length];exact z
  have B:(fk i k v).length<=sizeLine:=by have:=mD i k v;lia
  refine wpAny_setItem_pairs (hsz:=x) (qv F) dd λh' m D=>h _ ?_;have P:∃q,h'.get? a=some q:=let⟨q,_,_,n,_⟩:=m;⟨q,n⟩;exact tX I (by rw[e];exact True.intro) D P (FJ B hd (j.put k G) m)
 ·subst p t;cases(show u=Value.ref b from F);obtain⟨z,hd,R,j,dd⟩:=LY I.hok e;have x:R.length<=sizeLine:=by rw[<-Paired.length j];exact z
  have B:(fk i k v).length<=sizeLine:=by have:=mD i k v;lia
  refine wpAny_setItem_heap (hsz:=x) (wh M) (oG I.hok K) dd λh' m D=>h _ ?_;obtain⟨q,S,T,n,h2,h3,h4,_,h5⟩:=m;refine tX I (by rw[e];exact True.intro) D ⟨q,n⟩ ⟨B,hd,_,(j.put k K G).keeps λc U L=>?_,q,S,T,n,h2,h3,h4,h5⟩;rw[ao (Lx L e (nofun))];exact L
end
section
variable{X:Cx}{d:Oh}{f:St}{H:Hp}{s:Shared}{a:Addr}{c:List (cp×V)}{k:cp}{u:Value}{A:Around}{E:Og}
def LZ(I:aU X d f H s)(e:H a=some (.dK c))(n:bg (kV k) u)(l:bB c k=some v)(hm:g=[]\/∃x,g=[x])(h:∀j r,aU X d f (aD H a (.dK (d0 c k))) r->bg v j->Q j r):wpAny (model X.prog X.w) A (call (.builtin "dict.pop") (.ref a::u::g)) Q E s:=by
 obtain⟨z,hd,y,b,dd⟩:=IE I.hok e;obtain⟨j,B,p⟩:=kP.some_of (v:=v) (o:=valueAt y k) (by rw[<-l];exact b.val k);have C:(keyPart u).isSome=true:=by cases k with|inl i=>obtain⟨t,q⟩:=(show∃t,u=Value.int i t from n);subst q;rfl|inr x=>obtain⟨t,q⟩:=(show∃t,u=Value.str x t from n);subst q;rfl
 have D:argsOk "dict.pop" ⟨.ref a::u::g,[]⟩:=by
  rcases hm with q|⟨x,q⟩
  ·subst q;exact PySem.F.args_dict_pop_2 _ _
  ·subst q;exact PySem.F.args_dict_pop_3 _ _ _
 refine w1 PySem.F.slot_dict_pop dd.typeIs PySem.F.entry_dict_pop D (meets_dict_pop_there (bd X.prog X.w) a (qv n) g hm C) ⟨y,j,dd,by rw[<-b.length];exact z,B,λh' m G=>h j _ ?_ p⟩
 have J:∃q,h'.get? a=some q:=let⟨q,_,_,K,_⟩:=m;⟨q,K⟩;exact tX I (by rw[e];exact True.intro) G J (FJ (kl (zH c k) z) hd (b.drop k) m)
end
def L3(i:Expr):Prop:=∀a iv,subscripted i false a iv=operate [a,iv] (getItem a iv)
def Go{prog:Ol}{w:World}{A:Around}{E:Og}{s:Shared}{env:Env}{c a:Expr}{j:Pos}{T id:String}{Q:Og}(l:typeLookup (.type T) "__getitem__"=pure (some (.builtin id)))(m:L3 a)(h:wpAny (model prog w) A (eval c env) (λo s₁=>wpAny (model prog w) A (eval a env) (λi d=>d.TypeIs o T/\wpAny (model prog w) A (getItem o i) Q E d) E s₁) E s):wpAny (model prog w) A (eval (.Subscript c a j) env) Q E s:=by
 refine Subscript_ (wpAny_mono h (λo s₁ f=>wpAny_mono f (λi d b=>?_) λ_ _ x=>x) λ_ _ x=>x);obtain⟨k,b⟩:=b;unfold subscriptTail;refine a_ ?_;rw[getitemInPython_of_ne k.not_modules];refine a_ (NE k l ?_);have fin:wpAny (model prog w) A (subscripted a false o i) (λr e=>wpAny (model prog w) A (letTemporaryGo c o r>>=λ_=>pure r) Q E e) E d:=by rw[m o i];exact wpAny_operating (wpAny_mono b (λr e g=>a_ (wpAny_letTemporaryGo (e_ g))) λ_ _ x=>x)
 first|exact e_ (a_ fin)|exact a_ (e_ (a_ fin))|exact a_ fin
def zI(I:aU X d f H s)(g:eE H a y o):s.TypeIs (.ref a) "dict":=by
 rcases g with⟨c,k,e,_,_⟩|⟨c,k,b,e,_,_,_⟩
 ·obtain⟨_,_,h,_,dd⟩:=sH I.hok e;exact dd.typeIs
 ·obtain⟨_,_,i,_,dd⟩:=sG I.hok e;exact dd.typeIs
def K8(d ty:TE):TE:=λb H Q=>d b H λx e=>ty b e λy c=>∃a v,x=.ref a/\eE c a y (some v)/\Q v c
def Mw(ty d:TE):TE:=λb H Q=>ty b H λy e=>d b e λx c=>∃a o,x=.ref a/\eE c a y o/\Q (.bl o.isSome) c
def Gn(ty d:TE):TE:=λb H Q=>ty b H λy e=>d b e λx c=>∃a o,x=.ref a/\eE c a y o/\Q (.bl (!o.isSome)) c
section
variable{X:Cx}{o i e f:Expr}{d j l:Pos}{c ty m:TE}
def fT(r:X.A.units+1<cLine)(t:PE X o c)(hi:PE X i ty)(w:L3 i):PE X (.Subscript o i d) (K8 c ty):=by intro b s p H Q I h;refine Go PySem.F.slot_dict_getitem.lookup w (cB (t b s p H _ I h) λu z k=>?_);obtain⟨x,B,I1,C,D⟩:=k;refine cB (hi b z p B _ I1 D) λiv L k=>?_;obtain⟨y,E,q,G,a,v,ex,g,J⟩:=k;subst ex;obtain rfl:u=Value.ref a:=C;exact⟨zI q g,De r q g G λM N K n=>⟨v,E,K,n,J⟩⟩
def Av(p:X.A.units+1<cLine)(hi:PE X i ty)(q:PE X o c):PC X .In i o (Mw ty c):=by intro b s n H Q I h;refine cB (hi b s n H _ I h) λiv r k=>?_;obtain⟨y,t,I1,v,w⟩:=k;refine cB (q b r n t _ I1 w) λu G k=>?_;obtain⟨x,z,B,C,a,D,ex,g,E⟩:=k;subst ex;obtain rfl:u=Value.ref a:=C;exact MN p B g v λJ F=>⟨.bl D.isSome,z,F,rfl,E⟩
def qX(p:X.A.units+1<cLine)(hi:PE X i ty)(q:PE X o c):PC X .NotIn i o (Gn ty c):=by intro b s n H Q I h;refine cB (hi b s n H _ I h) λiv r k=>?_;obtain⟨y,t,I1,v,w⟩:=k;refine cB (q b r n t _ I1 w) λu G k=>?_;obtain⟨x,z,B,C,a,D,ex,g,E⟩:=k;subst ex;obtain rfl:u=Value.ref a:=C;exact BZ p B g v λJ F=>⟨.bl (!D.isSome),z,F,rfl,E⟩
end
def FK(h:Heap)(a:sysModules<h.objs.size):c8 P w H (h.push {cls:=.type "dict",data:=.dict #[]}) h.objs.size (.dK []):=⟨j_ _,v1.mpr (m3 (ig a)),[],.nil,Heap.DictOf.new h⟩
def IY:TE:=λ_ H Q=>∀p,H p=none->Q (.ref p) (aD H p (.dK []))
section
variable{X:Cx}{c:Pos}
def kA:PE X (.Dict [] [] c) IY:=λb s d H Q I h=>wpAny_Dict_empty ⟨.ref s.heap.objs.size,_,I.laid (a:=s.heap.objs.size) (o:=.dK []) (t':=s.toks) (λ_ _ q=>c_ _ q) (fx _) (FK s.heap I.big),rfl,h _ (I.hok.fresh (fx _))⟩
end
structure M1(X:Cx)(o:Expr)(m:Str)(apos:Pos)(e:Expr)(cpos:Pos):Prop where
 base:attributeBase o m X.env (eval o X.env)=eval o X.env
 few:((backTo cpos (starEach [e] X.env)).all (λx=>!x.1)&&(backToKw cpos (keywordEach [] X.env)).all (λx=>x.1.isSome)&&decide (([e]:On).length+([]:List Keyword).length+(if([]:List Keyword).isEmpty then 0 else 1)<30))=true
 line:(apos.endLine==cpos.line)=true
 trees:backTo cpos (starEach [e] X.env)=[(false,eval e X.env)]
structure M2(X:Cx)(o:Expr)(m:Str)(apos:Pos)(e f:Expr)(cpos:Pos):Prop where
 base:attributeBase o m X.env (eval o X.env)=eval o X.env
 few:((backTo cpos (starEach [e,f] X.env)).all (λx=>!x.1)&&(backToKw cpos (keywordEach [] X.env)).all (λx=>x.1.isSome)&&decide (([e,f]:On).length+([]:List Keyword).length+(if([]:List Keyword).isEmpty then 0 else 1)<30))=true
 line:(apos.endLine==cpos.line)=true
 trees:backTo cpos (starEach [e,f] X.env)=[(false,eval e X.env),(false,eval f X.env)]
def Mn(H:Hp)(a:Addr):Prop:=(∃b,Rd H a (.dK b))\/∃b,Rd H a (.dT b)
def AQ(I:aU X f g H s)(d:Mn H a):s.TypeIs (.ref a) "dict"/\(∀b,Value.ref a=.ref b->∃ob,s.heap.get? b=some ob/\ob.dict=none)/\(a==sysModules)=false:=by
 rcases d with⟨c,e⟩|⟨c,e⟩
 ·obtain⟨_,hd,h,_,dd⟩:=sH I.hok e;refine⟨dd.typeIs,λb q=>?_,hd⟩;cases q;obtain⟨ob,_,_,h1,h2,_⟩:=dd;exact⟨ob,h1,h2.2.1⟩
 ·obtain⟨_,hd,i,_,dd⟩:=sG I.hok e;refine⟨dd.typeIs,λb q=>?_,hd⟩;cases q;obtain⟨ob,_,_,h1,h2,_⟩:=dd;exact⟨ob,h1,h2.2.1⟩
section
variable{X:Cx}{c:Oh}{f:St}{H:Hp}{s:Shared}{a:Addr}{y d:V}{u r:Value}{o:Option V}{A:Around}{E:Og}
def Km(t:A.units+1<cLine)(I:aU X c f H s)(g:eE H a y o)(n:bg y u)(h:∀p q,aU X c f H q->bg (o.getD .non) p->Q p q):wpAny (model X.prog X.w) A (call (.builtin "dict.get") [.ref a,u]) Q E s:=by
 rcases g with⟨j,k,e,m,l⟩|⟨j,k,b,e,m,v,l⟩
 ·subst m;obtain⟨z,hd,B,i,dd⟩:=sH I.hok e;refine w1 PySem.F.slot_dict_get dd.typeIs PySem.F.entry_dict_get (PySem.F.args_dict_get_2 _ _) (meets_dict_get (bd X.prog X.w) a (qv n) hd) ⟨_,dd.mapOf,h _ _ (I.tok _) ?_⟩;rw[l];exact(i.val k).getD rfl
 ·subst m;cases(show u=Value.ref b from n);obtain⟨z,hd,x,i,dd⟩:=sG I.hok e;refine w1 PySem.F.slot_dict_get dd.typeIs PySem.F.entry_dict_get (PySem.F.args_dict_get_2 _ _) (meetsH_dict_get (tupleKind (bd X.prog X.w)) a b hd) ⟨wh t,k,x,oG I.hok v,dd,h _ _ (I.tok _) ?_⟩;rw[l];exact(i.val k).getD rfl
def Kl(v:A.units+1<cLine)(I:aU X c f H s)(g:eE H a y o)(n:bg y u)(p:bg d r)(h:∀q t,aU X c f H t->bg (o.getD d) q->Q q t):wpAny (model X.prog X.w) A (call (.builtin "dict.get") [.ref a,u,r]) Q E s:=by
 rcases g with⟨j,k,e,m,l⟩|⟨j,k,b,e,m,x,l⟩
 ·subst m;obtain⟨z,hd,C,i,dd⟩:=sH I.hok e;refine w1 PySem.F.slot_dict_get dd.typeIs PySem.F.entry_dict_get (PySem.F.args_dict_get_3 _ _ _) (meets_dict_get_default (bd X.prog X.w) a (qv n) hd r) ⟨_,dd.mapOf,h _ _ (I.tok _) ?_⟩;rw[l];exact(i.val k).getD p
 ·subst m;cases(show u=Value.ref b from n);obtain⟨z,hd,B,i,dd⟩:=sG I.hok e;refine w1 PySem.F.slot_dict_get dd.typeIs PySem.F.entry_dict_get (PySem.F.args_dict_get_3 _ _ _) (meetsH_dict_get_default (tupleKind (bd X.prog X.w)) a b hd r) ⟨wh v,k,B,oG I.hok x,dd,h _ _ (I.tok _) ?_⟩;rw[l];exact(i.val k).getD p
end
def I0(e ty:TE):TE:=λb H Q=>e b H λx c=>∃a,x=.ref a/\Mn c a/\ty b c λy d=>∃o,eE d a y o/\Q (o.getD .non) d
def IZ(e ty f:TE):TE:=λb H Q=>e b H λx c=>∃a,x=.ref a/\Mn c a/\ty b c λy g=>f b g λz d=>∃o,eE d a y o/\Q (o.getD z) d
def IW(f ty:TE):TE:=λc H Q=>f c H λx d=>∃a,x=.ref a/\Mn d a/\ty c d λy e=>∃b k v,e a=some (.dK b)/\y=kV k/\bB b k=some v/\Q v (aD e a (.dK (d0 b k)))
section
variable{X:Cx}{o e f:Expr}{c i:Pos}{j ty n:TE}
def uQ(q:X.A.units+1<cLine)(r:PE X o j)(t:PE X e ty)(m:M1 X o "get" c e i):PE X (.Call (.Attribute o "get" c) [e] [] i) (I0 j ty):=by intro b s p H Q I h;refine Ha m.base m.few m.line PySem.F.plainAttrs_dict PySem.F.slot_dict_get PySem.F.type_dict_get (cB (r b s p H _ I h) λu v k=>?_);obtain⟨x,w,I1,z,a,ex,d,B⟩:=k;subst ex;obtain rfl:u=Value.ref a:=z;obtain⟨C,D,_⟩:=AQ I1 d;refine⟨C,D,?_⟩;rw[m.trees];refine qc rfl (sT (ov (cB (t b v p w _ I1 B) λiv M k=>?_)));obtain⟨y,E,G,J,N,g,K⟩:=k;refine rV ?_;exact Km q G g J λO P L l=>⟨_,E,L,l,K⟩
def uP(p:X.A.units+1<cLine)(q:PE X o j)(r:PE X e ty)(t:PE X f n)(m:M2 X o "get" c e f i):PE X (.Call (.Attribute o "get" c) [e,f] [] i) (IZ j ty n):=by
 intro b s k H Q I h;refine Ha m.base m.few m.line PySem.F.plainAttrs_dict PySem.F.slot_dict_get PySem.F.type_dict_get (cB (q b s k H _ I h) λu v w=>?_);obtain⟨x,B,I1,C,a,ex,d,D⟩:=w;subst ex;obtain rfl:u=Value.ref a:=C;obtain⟨E,G,_⟩:=AQ I1 d;refine⟨E,G,?_⟩;rw[m.trees];refine qc rfl (sT (ov (cB (r b v k B _ I1 D) λiv J⟨y,K,L,M,N⟩=>ov (cB (t b J k K _ L N) λU V⟨z,O,P,R,W,g,S⟩=>rV ?_))))
 exact Kl p P g M R λY Z T l=>⟨_,O,T,l,S⟩
def yY(r:PE X o j)(t:PE X e ty)(m:M1 X o "pop" c e i):PE X (.Call (.Attribute o "pop" c) [e] [] i) (IW j ty):=by intro b s q H Q I h;refine Ha m.base m.few m.line PySem.F.plainAttrs_dict PySem.F.slot_dict_pop PySem.F.type_dict_pop (cB (r b s q H _ I h) λu w g=>?_);obtain⟨x,z,I1,A,a,ex,d,B⟩:=g;subst ex;obtain rfl:u=Value.ref a:=A;obtain⟨C,D,_⟩:=AQ I1 d;refine⟨C,D,?_⟩;rw[m.trees];refine qc rfl (sT (ov (cB (t b w q z _ I1 B) λiv O g=>?_)));obtain⟨y,P,E,G,J,k,v,K,L,l,M⟩:=g;refine rV ?_;subst L;exact LZ E K G l (.inl rfl) λR S N p=>⟨v,_,N,p,M⟩
end
section
variable{X:Cx}{c:Oh}{e:St}{H:Hp}{s:Shared}{a:Addr}{d:List (cp×V)}{A:Around}{E:Og}
end
section
variable{X:Cx}{c:Oh}{d:St}{H:Hp}{s:Shared}{a:Addr}{y:V}{u:Value}{A:Around}{E:Og}
end
end L2
namespace Att
open PySem PySem.W PySem.Calls PyProof.Rows
def tJ:∀(ns:Os)(c:Oj),WellAll P h c (ns.map WData.int)->IntsAre c ns:=by
 intro ns
 induction ns with|nil=>intro c w;rw[List.map_nil]at w;cases w;exact .nil|cons n ns d=>intro c w;rw[lm]at w;cases w with|cons a b=>cases a;exact .cons _ _ (d _ b)
def Cv{l:OpenLaw}{n:Nat}(hn:l.most=some n){P:Params}{h:Heap}{args:List WData}{c:Oj}(e:l.row.toRowW.claim.pre args=true)(g:WellAll P h c args):∃a j ns,c=[Value.ref a]/\args=[WData.list (ns.map WData.int)]/\h.get? a=some {cls:=.type "list",data:=.seq j.toArray}/\IntsAre j ns/\ns.length<=n:=by
 have i:WShape.hasAll [] args [.list .int]=true:=(pre_splitW e).1;have hc:l.pre.holds [] {args:=args}=true:=(pre_splitW e).2;obtain⟨d,r,rfl,h1,h2⟩:=hasAllW_cons i;obtain rfl:=hasAllW_nil h2;obtain⟨s,rfl,h3⟩:=hasW_list h1;obtain⟨ns,rfl⟩:=items_int h3;have b:ns.length<=n:=by
  unfold OpenLaw.pre at hc;have h4:(WTm.not (.lt (.lit (.int (n:Int))) (.len (.arg 0)))).holds [] {args:=[.list (ns.map .int)]}=true:=by have h4:=(holds_andW hc).1;rw[hn]at h4;exact h4
  have h5:=condW_of h4 (w_not (w_lt w_lit (w_len_list (w_arg rfl))));rw[b_]at h5;refine Nat.le_of_not_lt λq=>?_;have k:(n:Int)<((ns.length:Nat):Int):=by lia
  first|(rw[ji k]at h5;exact absurd h5 (by decide))|(simp at h5;lia)
 cases g with|cons m o=>cases o;cases m with|list p f=>exact⟨_,_,ns,rfl,rfl,p,tJ ns _ f,b⟩
def CA(l:OpenLaw)(args:List WData):l.row.toRowW.claim.post args (.bool true) args=true:=postW_of (r:=l.row.toRowW) (X:=(true==true)) (show WShape.has [] (.bool true) .bool=true by first|rfl|decide|simp[WShape.has,WShape.arms,WShape.armsAll]) (show(WTm.eq .res (.lit (.bool true))).value [] {args:=args,res:=some (.bool true),after:=args}=some (.bool (true==true))from w_eq_bool (w_res rfl) w_lit) rfl
def zW{l:OpenLaw}{n:Nat}{q:Ol}{c:Om}{v:(Str->Option Value)->Heap->Prop}{x:World->Heap->Prop}{d:DefRec}(hn:l.most=some n)(p:d.params.defaults=[])(call:∀(w:World)(s₀ s₁:Shared)(mg mb:Oi)(h:Addr)(o:Obj)(pm cd e:Value)(a:Addr)(g:Oj)(ns:Os),Ground q c [] v w s₀ mg mb s₁.heap->x w s₁.heap->s₁.heap.get? h=some o->o.data=.func (docDef d.name d.params d.body d.scope pm cd e)->s₁.heap.CodeRec cd d.name->mg d.name=some (.ref h)->s₁.heap.get? a=some {cls:=.type "list",data:=.seq g.toArray}->IntsAre g ns->ns.length<=n->s₁.gens=#[]->codeAny (model l.prog w) callerA (.call (.ref h) ⟨[.ref a],[]⟩) (λr m=>r=.ok (.ret (.bool true))/\OldK s₁.heap m.heap/\m.os=s₁.os/\AllBare m.gens) s₁):WalkO q c v x l.row.toRowW d [] (λf g=>PySem.call f g):=by intro w s₀ s₁ mg mb G Y h o pm cd e C kV D hd s y t hg z A I i B E u F;obtain rfl:C=.none:=Dflts.none y p;obtain rfl:kV=.none:=Dflts.noKw y;obtain⟨a,g,ns,rfl,rfl,j,b,k⟩:=Cv hn i u;refine enter_call (wr (call w s₀ s₁ mg mb h o pm cd e a g ns G Y D (fd_plain hd) s t j b k hg) λr m H=>?_);obtain⟨rfl,h2,h3,h4⟩:=H;exact⟨.inl ⟨.bool true,.bool true,[],rfl,λ_=>rfl,.bool true,CA l _,λ_=>⟨List.Pairwise.nil,λ_ hm=>(nomatch hm)⟩⟩,h2,h3,h4⟩
section
variable{prog:Ol}{w:World}{A:Around}{E:Og}{s:Shared}{K:Frag}
end
end Att
namespace L2
open PySem PySem.Spec PyProof.Rows
theorem wB:∀{a:Oj}{ns:Os},IntsAre a ns->bq (ns.map V.int) a|_,_,.nil=>.nil|_,_,.cons n t h=>.cons ⟨t,rfl⟩ (wB h)
def yt(H:Hp):Prop:=∀b,H b=none\/∃o a,H b=some (.frz o (.lst a))
def Fg{P:Ol}{w:World}{K:Of}{mg mb:Oi}{S:Ac}{k:Nat}{J a:Addr}{fd:FuncData}{x:Str}{sp:Sp}{s₁:Shared}{l:Oj}{ns:Os}(T:K.In s₁.heap)(t:s₁.heap.Ns mainGlobals mg)(f:s₁.heap.Ns builtinsNs mb)(L:∀x:Str,x≠"__name__"->mb x=bootBuiltins x)(y:s₁.heap.NoLimit)(hg:s₁.gens=#[])(I:s₁.heap.get? a=some {cls:=.type "list",data:=.seq l.toArray})(hi:IntsAre l ns)(X:ns.length<=sizeLine)(hr:eQ k callerA)(F:∀base:Heap,K.In base->base.Ns mainGlobals mg->aT P w K mg base S k J fd [x] sp)(p:∀(s:Shared)(u:Value),BindsTo s fd ⟨[u],[]⟩ [(x,u)])(M:∀H:Hp,yt H->be K H a (ns.map V.int)->sp [.ref a] H (λv _=>v=.bl true) λ_ _ _=>False)(N:∀H e g,S [] H s₁ (λ_ _ _=>False) e g->False):codeAny (model P w) callerA (.call (.ref J) ⟨[.ref a],[]⟩) (λr g=>r=.ok (.ret (.bool true))/\OldK s₁.heap g.heap/\g.os=s₁.os/\AllBare g.gens) s₁:=by
 have U:=wB hi;have A:=hi.length;have j:∀H:Hp,yt H->be K H a (ns.map V.int)->lO P w H s₁.heap->(∀b,H b≠none->b=a)->(H a≠none->K.lookup a=none)->codeAny (model P w) callerA (.call (.ref J) ⟨[.ref a],[]⟩) (λr g=>r=.ok (.ret (.bool true))/\OldK s₁.heap g.heap/\g.os=s₁.os/\AllBare g.gens) s₁:=by
  intro H Y hS hok Z hK;have c:∀{b:Addr}{o:Obj},s₁.heap.get? b=some o->H b=none->(x5 s₁.heap H).get? b=some o:=λe n=>Fv e n;have O:∀{b:Addr}{o:Obj}{B:Array DictEntry}{C:Nat},s₁.heap.get? b=some o->o.data=.dict B C->H b=none:=λ{b o B C}e d=>by cases q:H b with|none=>rfl|some u=>have Q:b=a:=Z b (by rw[q];simp);subst Q;rw[I]at e;cases e;have d':Data.seq l.toArray _=Data.dict B C:=d;cases d'
  have i:∀{b:Addr}{m:Oi},s₁.heap.Ns b m->(x5 s₁.heap H).Ns b m:=λ{b m}⟨o,B,C,e,d,r⟩=>⟨o,B,C,c e (O e d),d,r⟩;have D:K.In (x5 s₁.heap H):=λb o e=>c (T b o e) (by cases q:H b with|none=>rfl|some u=>have Q:b=a:=Z b (by rw[q];simp);subst Q;rw[hK (by rw[q];simp)]at e;cases e)
  have hM:L5 K mg (x5 s₁.heap H):=⟨D,i t,⟨mb,i f,L⟩,let⟨mc,h1,h2⟩:=y;⟨mc,i h1,h2⟩⟩;have e0:Bp P w K mg (x5 s₁.heap H) callerA [] s₁ H:=⟨rfl,hM,λb o e=>Hg e,Nat.le_of_eq (C0 _ _),trivial,λb f=>absurd (show b∈([]:Oq)from f) (by simp),hok,.of_eq hg⟩;refine wr ((F _ D (i t)).run callerA [] s₁ H ⟨[.ref a],[]⟩ [.ref a] [.ref a] _ _ hr e0 (p s₁ (.ref a)) (.cons rfl .nil) (M H Y hS)) λr g h=>?_;cases r with|error e=>exact(N H e g h).elim|ok fl=>cases fl with|next=>exact False.elim h|brk=>exact False.elim h|cont=>exact False.elim h|ret u=>obtain⟨v,H',os,bare,un,E,r',q⟩:=h;have q':v=.bl true:=q;subst q';obtain rfl:u=Value.bool true:=r';refine⟨rfl,OldK.of_keep λb o e=>?_,os,bare⟩;cases q:H b with|none=>exact un.keep b o e q (by intro z;exact absurd (show b∈([]:Oq)from z) (by simp)) (by simp)|some u=>
     rcases Y b with z|⟨ob,xs,z⟩
     ·rw[q]at z;cases z
     ·have z2:=un.frzs b ob _ z;obtain⟨e1,_⟩:=hok b _ z;obtain⟨e2,_⟩:=E b _ z2;rw[e]at e1;cases e1;exact e2
 cases R:K.lookup a with|some o=>have e:=T a o R;rw[I]at e;cases e;refine j (λ_=>none) (λ_=>.inl rfl) (.inr ⟨_,l.toArray,_,R,rfl,rfl,rfl,by rw[hQ,A];exact X,by simpa using U⟩) (λb u z=>by have G:(none:Option HO)=some u:=z;cases G) (λb z=>absurd rfl z) λz=>absurd rfl z|none=>
  refine j (λb=>if b=a then some (.frz {cls:=.type "list",data:=.seq l.toArray} (.lst (ns.map V.int)))else none) (λb=>?_) (.inl (.inr ⟨{cls:=.type "list",data:=.seq l.toArray},hA rfl⟩)) (λb u z=>?_) (λb z=>?_) λ_=>R
  ·by_cases f:b=a
   ·exact .inr ⟨_,_,hA f⟩
   ·exact .inl (g8 f)
  ·by_cases f:b=a
   ·have G:=(hA f).symm.trans z;cases G;subst f;exact⟨I,by rw[b_];exact X,l,_,U,I⟩
   ·have G:=(g8 f).symm.trans z;cases G
  ·by_cases f:b=a
   ·exact f
   ·exact absurd (g8 f) z
end L2
namespace L2
open PySem PySem.Spec PyProof.Rows
abbrev KOf{K:Of}{h:Heap}(_:K.In h):Of:=K
def Gh{l:PySem.W.OpenLaw}{n k:Nat}{q:Ol}{i:Om}{I:(Str->Option Value)->Heap->Prop}{C:World->Heap->Prop}{d:DefRec}{K:Params->Of}{CX:World->Ac}{sp:World->Sp}{x:Str}(hn:l.most=some n)(r:n<=sizeLine)(t:d.params.defaults=[])(J:eQ k callerA)(L:∀(w:World)(h:Heap),C w h->(K w.params).In h)(F:∀(w:World)(mg:Oi)(p:Addr)(h:Heap),(K w.params).In h->h.Ns mainGlobals mg->mg d.name=some (.ref p)->∃fd:FuncData,(∀(s:Shared)(u:Value),BindsTo s fd ⟨[u],[]⟩ [(x,u)])/\∀base:Heap,(K w.params).In base->base.Ns mainGlobals mg->aT l.prog w (K w.params) mg base (CX w) k p fd [x] (sp w))(y:∀(w:World)(H:Hp)(a:Addr)(ns:Os),ns.length<=n->yt H->be (K w.params) H a (ns.map V.int)->sp w [.ref a] H (λv _=>v=.bl true) λ_ _ _=>False)(z:∀(w:World)(H:Hp)(s:Shared)(e:Value)(A:Shared),CX w [] H s (λ_ _ _=>False) e A->False):PySem.W.WalkO q i I C l.row.toRowW d [] (λf D=>PySem.call f D):=by refine Att.zW hn t λw s₀ s₁ mg mb p o pm cd M a D ns G Y S hd N B m j c hg=>?_;have E:=L w _ Y;obtain⟨fd,O,P⟩:=F w mg p _ E G.T.g B;exact Fg E G.T.g G.T.b G.T.builtins G.T.nolimit hg m j (kl c r) J P O (λH Q R=>y w H a ns c Q R) λH e A=>z w H s₁ e A
def Dw{l:PySem.W.OpenLaw}{n k:Nat}{q:Ol}{c:Om}{t:(Str->Option Value)->Heap->Prop}{p:World->Heap->Prop}{d:DefRec}{K:Params->Of}{CX:Ac}{sp:Of->Sp}{x:Str}(hn:l.most=some n)(g:n<=sizeLine)(i:d.params.defaults=[])(y:eQ k callerA)(z:∀(w:World)(h:Heap),p w h->(K w.params).In h)(F:∀(w:World)(mg:Oi)(r:Addr)(h:Heap),(K w.params).In h->h.Ns mainGlobals mg->mg d.name=some (.ref r)->∃fd:FuncData,(∀(s:Shared)(u:Value),BindsTo s fd ⟨[u],[]⟩ [(x,u)])/\∀base:Heap,(K w.params).In base->base.Ns mainGlobals mg->aT l.prog w (K w.params) mg base CX k r fd [x] (sp (K w.params)))(j:∀(K:Of)(H:Hp)(a:Addr)(ns:Os),ns.length<=n->yt H->be K H a (ns.map V.int)->sp K [.ref a] H (λv _=>v=.bl true) λ_ _ _=>False)(m:∀(H:Hp)(s:Shared)(e:Value)(o:Shared),CX [] H s (λ_ _ _=>False) e o->False):PySem.W.WalkO q c t p l.row.toRowW d [] (λf A=>PySem.call f A):=Gh (K:=K) (CX:=λ_=>CX) (sp:=λw=>sp (K w.params)) hn g i y z F (λw H a ns h1 h2 h3=>j (K w.params) H a ns h1 h2 h3) λ_ H s e o=>m H s e o
end L2
namespace L2
open PySem PySem.Spec PyProof.Rows
def qC(s:Stmt):Arguments:=match s with|.FunctionDef _ a _ _ _ _ _ _ _ _=>a|_=>{posonlyargs:=[],args:=[],vararg:=none,kwonlyargs:=[],kw_defaults:=[],kwarg:=none,defaults:=[]}
def gI(s:Stmt):List Stmt:=match s with|.FunctionDef _ _ b _ _ _ _ _ _ _=>b|_=>[]
def ak(s:Stmt):Scope:=match s with|.FunctionDef _ _ _ _ _ _ a _ _ _=>a|_=>{kind:=.function,names:=[],isGenerator:=false,isCoroutine:=false}
abbrev dq:Ac:=λ_ _ _ _ _ _=>False
abbrev E0:XK:=λ_ _ _=>False
def bE:mJ dq X E0:=λ_ _ _ _ _ _ _ h=>h.elim
structure yu(K:Of)(x qual:Str)(st:Stmt)(f:Addr)(fd:FuncData):Prop where
 ex:∃(oc:Value)(od:Option Addr)(kV doc pm:Value)(an:Option Addr)(cdv ct:Value)(osl:Array (Option Value)),fd=PySem.W.fnOf x qual (qC st) (gI st) (ak st) .none kV doc pm an cdv ct/\K.lookup f=some ⟨oc,od,.func fd,osl⟩/\PySem.W.codeIn K cdv qual=true
 kp:PySem.W.keepIn K (.ref f)=true
section
variable{P:Ol}{w:World}{K:Of}{mg:Oi}{base:Heap}
def yu.ok{x a:Str}{st:Stmt}{f:Addr}{fd:FuncData}{N g:Om}{k:Nat}{sp:Sp}(F:yu K x a st f fd)(S:aA N g (ak st))(len:∀d H Q E,sp d H Q E->d.length=g.length)(e:∀(c:Value)(A:Around)(outer:List Env)(s:Shared)(H:Hp)(d:List V)(Q:VK)(E:XK),eQ k (A.deeper (envOfC a (ak st) s.heap.objs.size f c))->sp d H Q E->∃t,tY (rH dq P w K mg base N a (ak st) f c A outer s H E).nox (gI st) t/\t {nx:=λ_ j=>Q .non j,rt:=Q} (i8 N d) H):aT P w K mg base dq (k+1) f fd g sp:=by obtain⟨oc,o,kV,l,pm,p,c,ct,m,rfl,lk,b⟩:=F.ex;refine IB lk b S len λA outer s H d Q E n i=>?_;obtain⟨t,h,q⟩:=e c A outer s H d Q E n i;exact⟨t,h.nox,q⟩
def yu.binds{x a:Str}{st:Stmt}{f:Addr}{fd:FuncData}{e:Om}(F:yu K x a st f fd)(h:∀(kV c pm:Value)(g:Option Addr)(d ct:Value)(i:Oj),i.length=e.length->bindArgs (PySem.W.fnOf x a (qC st) (gI st) (ak st) .none kV c pm g d ct) ⟨i,[]⟩=pure (e.zip i)):fC K fd e []:=by obtain⟨oc,k,kV,c,pm,g,d,ct,b,rfl,lk,j⟩:=F.ex;exact .all (h kV c pm g d ct)
def AW{x a:Str}{st:Stmt}{f:Addr}{oc:Value}{i h:Option Addr}{g:Array (Option Value)}{kV e pm d ct:Value}(l:K.lookup f=some ⟨oc,i,.func (PySem.W.fnOf x a (qC st) (gI st) (ak st) .none kV e pm h d ct),g⟩)(c:PySem.W.codeIn K d a=true)(k:PySem.W.keepIn K (.ref f)=true):yu K x a st f (PySem.W.fnOf x a (qC st) (gI st) (ak st) .none kV e pm h d ct):=⟨⟨oc,i,kV,e,pm,h,d,ct,g,rfl,l,c⟩,k⟩
end
def cN(a:eQ k A):A.units+1<cLine:=Nc (Nat.add_le_add_left (by decide:1<=64) _) a.units
section
variable{X:Cx}
def Y(i:Nat)(c:X.N[i]?=some x:=by rfl)(d:Mj X.env.scope x:=by first|exact Or.inl rfl|exact Or.inr (Or.inl rfl)|exact Or.inr (Or.inr rfl))(hd:(x==("__debug__":Str))=false:=by decide)(a:(x==("__classdict__":Str))=false:=by decide):PE X (.Name x e) (DC i):=JI c d hd a
end
def bN{A B:Prop}(h:B):if false=true then A else B:=by rw[g8 hF];exact h
def bp{A B:Prop}(h:A):if true=true then A else B:=by rw[hA rfl];exact h
def am(H a:Hp):Prop:=∀b o,H b=some o->a b=some o
def am.refl(H:Hp):am H H:=λ_ _ h=>h
def am.trans(a:am H d)(b:am d e):am H e:=λc o h=>b c o (a c o h)
def am.free(e:am H a)(h:a l=Option.none):H l=Option.none:=by cases q:H l with|none=>rfl|some o=>rw[e l o q]at h;cases h
def am.seq{K:Of}{H c:Hp}{a:Addr}{d:List V}(e:am H c)(h:be K H a d):be K c a d:=by
 rcases h with(h|⟨o,h⟩)|h
 ·exact .inl (.inl (e _ _ h))
 ·exact .inl (.inr ⟨o,e _ _ h⟩)
 ·exact .inr h
section
variable{a:Type}[DecidableEq a]
def xa{p:a×V}{r:List (a×V)}{k:a}(e:p.1=k):d0 (p::r) k=d0 r k:=by unfold d0;rw[Nz,g8 (by simp[e])]
def xb{p:a×V}{r:List (a×V)}{k:a}(e:¬p.1=k):d0 (p::r) k=p::d0 r k:=by unfold d0;rw[Nz,hA (by simp[e])]
end
end L2
set_option maxHeartbeats 4000000
namespace L2
open PySem PySem.Spec PyProof.Rows
section
variable{prog:Ol}{w:World}{A:Around}{R:Result->Shared->Prop}{s:Shared}
def kC(h:wpAny M A t Q (λ_ _=>False) s)(k:∀a s,Q a s->c a s):wpAny M A t c E s:=wpAny_mono h k λ_ _ z=>z.elim
def zL(J:Nat->Shared->Prop)(l:∀n s,J n s->wpAny (model prog w) A (pyNext it) (λr s₁=>match r with|none=>R (.ok .next) s₁|some v=>wpAny (model prog w) A (letOwnedTupleGo a it v) (λ_ d=>wpAny (model prog w) A (assign a env v) (λ_ e=>wpAny (model prog w) A (forIn k true λc r=>if r=true then do let ok<-isTrue c env (eval c env);pure (ForInStep.yield ok)else pure (ForInStep.yield r)) (λok b=>if ok=true then wpAny (model prog w) A (eval o env) (λx f=>wpAny (model prog w) A (call (.builtin "list.append") [p,x]) (λ_ g=>∃m,m<n/\J m g) (λ_ _=>False) f) (λ_ _=>False) b else∃m,m<n/\J m b) (λ_ _=>False) e) (λ_ _=>False) d) (λ_ _=>False) s₁) (λ_ _=>False) s)(n:Nat)(h:J n s):codeAny (model prog w) A (.compLoop (.ListComp o [⟨a,iter,k,0⟩] scope z) 0 it p env) R s:=by refine codeAny_loop rfl J (λn s B=>?_) n h;show wpAny _ A ((compTurn (.ListComp o [⟨a,iter,k,0⟩] scope z) 0 it p env).onRaise (λx=>do noteFrame x env;theTreesLotGoes x)) _ _ s;refine wpAny_noted ?_;rw[compTurn_list];refine a_ (wpAny_standAt (a_ (kC (l n s B) (λr s₁ i=>?_))));cases r with|none=>exact e_ i|some v=>refine a_ (kC i λ_ d q=>a_ (kC q λ_ e t=>a_ (kC t λok b j=>?_)));cases ok with|false=>exact e_ ⟨rfl,j⟩|true=>exact a_ (a_ (kC j λx f u=>a_ (kC u λ_ g y=>e_ (e_ ⟨rfl,y⟩))))
end
theorem lH{f:Str->NameKind->NameKind}:∀(l:List (Str×NameKind))(x:Str),(l.map λp=>(p.1,f p.1 p.2)).lookup x=(l.lookup x).map (f x)|[],_=>rfl|(n,k)::r,x=>by rw[lm,Ny,Ny];cases a:x==n with
 |true=>
   have e:x=n:=by simpa using a
   subst e;rfl|false=>exact lH r x
def mj(env:Env)(n:Str)(k:NameKind):NameKind:=if(k==.free&&env.scope.kind==.function&&env.kindOf n==some .cell)=true then .cell else k
def jc(scope:Scope)(env:Env)(x:Str):(relabel scope env).names.lookup x=(scope.names.lookup x).map (mj env x):=by
 rw[<-lH];unfold relabel
 congr 1
 show List.map _ scope.names=List.map _ scope.names
 congr 1
 funext p
 obtain⟨n,k⟩:=p;show(if(k==NameKind.free&&env.scope.kind==.function&&env.kindOf n==some .cell)=true then(n,NameKind.cell)else(n,k))=(n,mj env n k);unfold mj
 split<;>rfl
theorem oO{env:Env}{f:Str×NameKind->List (Str×Addr)->Sem (ForInStep (List (Str×Addr)))}(d:∀n c r,cellOf env n=pure c->f (n,.free) r=pure (.yield ((n,c)::r)))(g:∀n k r,k≠.free->f (n,k) r=pure (.yield r)):∀(l:List (Str×NameKind))(cs:List (Str×Addr)),(∀y∈l,y.2=.free->∃c,env.cells.lookup y.1=some c)->∃cl:List (Str×Addr),forIn l cs f=pure cl/\(∀x c,cl.lookup x=some c->env.cells.lookup x=some c\/cs.lookup x=some c)/\(∀x,(∃c,cs.lookup x=some c)\/(x,NameKind.free)∈l->∃c,cl.lookup x=some c)
 |[],cs,_=>⟨cs,rfl,λ_ _ h=>.inr h,λx h=>h.elim id nofun⟩|(n,k)::r,cs,h=>by
  by_cases o:k=.free
  ·subst o;obtain⟨c,hc⟩:=h (n,.free) il rfl;obtain⟨cl,h1,h2,h3⟩:=oO d g r ((n,c)::cs) λy p=>h y (hY _ p);refine⟨cl,?_,λx i a=>?_,λx a=>h3 x ?_⟩
   ·rw[NJ,d n c cs (by unfold cellOf;rw[hc])];exact h1
   ·rcases h2 x i a with z|z
    ·exact .inl z
    ·rw[Ny]at z;cases b:x==n with|true=>
      rw[b]at z;have j:x=n:=by simpa using b
      have m:c=i:=by simpa using z
      subst j;subst m;exact .inl hc|false=>rw[b]at z;exact .inr z
   ·rcases a with⟨i,a⟩|a
    ·refine .inl ?_;rw[Ny];cases b:x==n with|true=>exact⟨c,rfl⟩|false=>exact⟨i,a⟩
    ·rcases q_.mp a with e|e
     ·injection e with j m;subst j;exact .inl ⟨c,by simp⟩
     ·exact .inr e
  ·obtain⟨cl,h1,h2,h3⟩:=oO d g r cs λy p=>h y (hY _ p);refine⟨cl,?_,h2,λx a=>h3 x ?_⟩
   ·rw[NJ,g n k cs o];exact h1
   ·rcases a with a|a
    ·exact .inl a
    ·rcases q_.mp a with e|e
     ·injection e with j m;exact absurd m.symm o
     ·exact .inr e
def wm{env:Env}{scope:Scope}(h:∀y∈scope.names,y.2=.free->∃c,env.cells.lookup y.1=some c):∃cl:List (Str×Addr),closureFor scope env=pure cl/\(∀x c,cl.lookup x=some c->env.cells.lookup x=some c)/\(∀x,(x,NameKind.free)∈scope.names->∃c,cl.lookup x=some c):=by
 simp only[closureFor];obtain⟨cl,h1,h2,h3⟩:=oO (env:=env) (f:=λ(x:Str×NameKind)(r:List (Str×Addr))=>match x with|(b,kind)=>if(kind==NameKind.free)=true then(do let a<-cellOf env b;pure (ForInStep.yield ((b,a)::r)))else pure (ForInStep.yield r)) (λn c r e=>by show(if(NameKind.free==NameKind.free)=true then(do let a<-cellOf env n;pure (ForInStep.yield ((n,a)::r)))else pure (ForInStep.yield r):Sem _)=_;rw[hA (by decide),e];rfl) (λn k r e=>by show(if(k==NameKind.free)=true then(do let a<-cellOf env n;pure (ForInStep.yield ((n,a)::r)))else pure (ForInStep.yield r):Sem _)=_;rw[g8 (by simpa using e)]) scope.names [] h
 refine⟨cl,?_,λx c e=>(h2 x c e).elim id λz=>by simp at z,λx d=>h3 x (.inr d)⟩;rw[h1];rfl
def Cx.comp(X:Cx)(scope:Scope)(a:Om)(cl:List (Str×Addr))(C:Addr)(s₀:Shared)(H₀:Hp)(ex:Oq):Cx:={prog:=X.prog,w:=X.w,K:=X.K,mg:=X.mg,base:=X.base,A:=X.A,N:=a,s₀:=s₀,H₀:=H₀,env:=compEnvC scope cl C X.env,outer:=X.stack,stack:=X.stack,ex:=ex,fn:=λ_=>false,calm:=X.calm,pn:=X.pn,xe:=λ_ _=>False}
def iL(ds:Op)(k:Nat)(a:St):St:=ds.foldl (λa i=>a.set i none) a++List.replicate k none
def oN(ds:Op):∀a:St,(ds.foldl (λa i=>a.set i none) a).length=a.length:=by induction ds with|nil=>intro a;rfl|cons d r b=>intro a;rw[t0,b];simp
def AY(ds:Op):∀(a:St)(i:Nat)(v:V),(ds.foldl (λa i=>a.set i none) a)[i]?=some (some v)->a[i]?=some (some v)/\i∉ds:=by induction ds with|nil=>intro a i v h;exact⟨h,by simp⟩|cons d r b=>
  intro a i v h;rw[t0]at h;obtain⟨h1,h2⟩:=b _ i v h
  by_cases e:d=i
  ·subst e
   by_cases c:d<a.length
   ·rw[rr c]at h1;cases h1
   ·rw[C2.mpr (by rw[ri];lia)]at h1;cases h1
  ·rw[m_ e]at h1;exact⟨h1,λz=>(q_.mp z).elim (λq=>e q.symm) h2⟩
def zz(h:(iL ds k a)[i]?=some (some v)):a[i]?=some (some v)/\i∉ds/\i<a.length:=by
 unfold iL at h
 by_cases b:i<a.length
 ·rw[r3 (by rw[oN];exact b)]at h;obtain⟨h1,h2⟩:=AY ds a i v h;exact⟨h1,h2,b⟩
 ·rw[z7 (by rw[oN];lia)]at h;have:=d_.mp h;obtain⟨h1,h2⟩:=this;rw[List.getElem_replicate]at h2;cases h2
def Ib(X:Cx)(d:On)(t:TT):Prop:=∀(a:Oh)(s:Shared)(b:St)(H:Hp)(Q:Bool->Hp->Prop),aU X a b H s->t b H Q->wpAny (model X.prog X.w) X.A (forIn d true λc r=>if r=true then do let ok<-isTrue c X.env (eval c X.env);pure (ForInStep.yield ok)else pure (ForInStep.yield r)) (TP X a b Q) X.xe s
def KW:TT:=λ_ H Q=>Q true H
def cE:Ib X [] KW:=λ_ _ _ H _ I h=>wpAny_tests_nil ⟨H,I,h⟩
def tS(h:PT X c t):Ib X [c] t:=λa s b H Q I q=>wpAny_tests_one (h a s b H Q I q)
def GK(g:TG)(c:Op):Prop:=∀x b H Q,g x b H Q->g x b H λa d=>Q a d/\a.length=b.length/\∀i,i∉c->a[i]?=b[i]?
def cG(j:Nat):GK (kK j) [j]:=λx a H Q h=>by refine⟨h,by simp,λi hi=>?_⟩;rw[m_ (λe=>hi (by simp[e]))]
def x6(K:Of)(i j:Nat):GK (Ka K 2 (FB (kK i) (FB (kK j) LV))) [i,j]:=λx l H Q h=>by obtain⟨a,b,e,c,d,v,r,f,u,r2,g,k,q⟩:=h;refine⟨a,b,e,c,d,v,r,f,u,r2,g,k,q,by simp,λn hn=>?_⟩;have h1:n≠i:=λz=>hn (by simp[z]);have h2:n≠j:=λz=>hn (by simp[z]);rw[m_ (m3 h2),m_ (m3 h1)]
def uc(o:TI)(g:TG)(ds:Op)(k:Nat)(tc:TT)(te:TE):TE:=λf H Q=>o f H λJ h=>∀D,h D=none->∃W:Nat->Nat->List V->Hp->Prop,(∃m,W 0 m [] (aD h D (.lst [])))/\∀i m a c,W i m a c->(J.stop i c/\Q (.ref D) c)\/(J.go i c/\∀x j,J.yld i c x j->g x (iL ds k f) j λd p=>tc d p λb l=>if b=true then te d l λy n=>n D=some (.lst a)/\a.length<sizeLine/\∃e,e<m/\W (i+1) e (a++[y]) (aD n D (.lst (a++[y])))else∃e,e<m/\W (i+1) e a l)
section
variable{X:Cx}
def FW(I:aU X t σ H s)(f:∀b∈fp,wy X t H b)(fo:∀b∈fp,∃o,s.heap.get? b=some o)(E:scope.kind=.function)(F:∀y∈scope.names,y.2≠.cell)(G:∀y∈scope.names,y.2=.free->X.env.scope.names.lookup y.1=some .cell\/X.env.scope.names.lookup y.1=some .free)(g:∀x c,cl.lookup x=some c->X.env.cells.lookup x=some c)(D:∀x,(x,NameKind.free)∈scope.names->∃c,cl.lookup x=some c)(hN:W=X.N++L)(hk:L.length=k)(M:∀i x,X.N[i]?=some x->scope.names.lookup x=some .local->i∈ds)(P:s.heap.objs.size<C)(keep:∀b o,s.heap.get? b=some o->j.get? b=some o)(Z:j.Ns C m)(hD:j.get? s.heap.objs.size=some {cls:=.type "list",data:=.seq ([]:Oj).toArray 0}):aU (X.comp scope W cl C s H fp) t (iL ds k σ) (aD H s.heap.objs.size (.lst [])) {s with heap:=j,toks:=tk}:=by
 have fresh:H s.heap.objs.size=none:=I.hok.fresh (fx _);have O:lO X.prog X.w (aD H s.heap.objs.size (.lst [])) j:=I.hok.laid keep (fx _) ⟨j_ _,[],0,.nil,hD⟩;have J:∀b∈fp,b<s.heap.objs.size:=λb A=>let⟨_,e⟩:=fo b A;g_ e;have K:∀b,b∈j0 X.stack->∀p∈X.pn++t,p.1≠b:=λb A p T e=>by
  obtain⟨_,_,n1,n2,_⟩:=I.pin p T;rcases q_.mp (I.stkSub b A)with z|z
  ·exact n1 (e.trans z)
  ·exact n2 (e▸z)
 have B:∀x c,cl.lookup x=some c->c<s.heap.objs.size:=λx c e=>by obtain⟨v,z⟩:=I.cell x c (g x c e);exact z.lt
 have a:∀x,(relabel scope X.env).names.lookup x=some .cell\/(relabel scope X.env).names.lookup x=some .free->scope.names.lookup x=some .free:=λx h=>by rw[jc]at h;cases e:scope.names.lookup x with|none=>rw[e]at h;simp at h|some q=>
   rw[e]at h;have hm:=mem_of_lookup e;have nc:q≠.cell:=F _ hm;simp only[E1,Nj]at h;unfold mj at h
   split at h
   ·rename_i hc;have:(q==NameKind.free)=true:=by cases hq:q==NameKind.free with|true=>rfl|false=>rw[hq]at hc;simp at hc
    have:q=.free:=by simpa using this
    rw[this]
   ·rcases h with h|h
    ·exact absurd h nc
    ·rw[h]
 refine⟨⟨I.ok.mod,?_,I.ok.glob,I.ok.blt,vl P,?_,?_,?_,I.ok.hd,I.ok.frames,.inl rfl,?_,I.bs,kl I.ok.bsz I.sz,?_,?_,I.stack,I.stkFree⟩,rfl,I.bare,Un.laid keep (fx _) fresh,⟨m,Z,?_⟩,?_,?_,?_,?_,O,?_⟩
 ·exact E
 ·intro x y c Y hy;exact I.ok.inj x y c (g x c Y) (g y c hy)
 ·intro x Y;exact D x (mem_of_lookup (a x Y))
 ·intro x c hf;exact absurd hf (by simp[Cx.comp])
 ·intro b A;refine⟨ig (u6 (J b A) P),λx c e z=>?_⟩;exact(f b A).2.2.2.2.1 x c (g x c e) z
 ·intro b o e A;rcases(f b A).2.2.2.1 with z|z
  ·exact I.ok.noex b o e z
  ·exact absurd (lh (g_ e) (kl I.ok.bsz z)) (ot _)
 ·intro b A hs;rcases q_.mp (I.stkSub b hs)with z|z
  ·exact(f b A).2.1 z
  ·exact(f b A).2.2.1 z
 ·intro i x v U e2 vis;obtain⟨g1,g2,g3⟩:=zz e2;have Q:X.N[i]?=some x:=by have U:W[i]?=some x:=U;rw[hN,r3 (by rw[<-I.len];exact g3)]at U;exact U
  have hv:scope.names.lookup x=some .free:=by
   rcases vis with z|z|z
   ·exfalso;have z:(relabel scope X.env).names.lookup x=some .local:=z;rw[jc]at z;cases e:scope.names.lookup x with|none=>rw[e]at z;simp at z|some q=>
     rw[e]at z;simp only[E1,Nj]at z;unfold mj at z
     split at z
     ·cases z
     ·subst z;exact g2 (M i x Q e)
   ·exact a x (.inl z)
   ·exact a x (.inr z)
  have hm:=mem_of_lookup hv;have hX:=G _ hm rfl;obtain⟨mX,_,hl⟩:=I.loc;have R:Mj X.env.scope x:=by
   rcases hX with z|z
   ·exact .inr (.inl z)
   ·exact .inr (.inr z)
  obtain⟨u,r,l⟩:=hl i x v Q g1 R;refine⟨u,r,.inr ⟨?_,?_⟩⟩
  ·show(relabel scope X.env).names.lookup x=some .cell\/(relabel scope X.env).names.lookup x=some .free;rw[jc,hv];show some (mj X.env x .free)=some .cell\/some (mj X.env x .free)=some .free;unfold mj
   split
   ·exact .inl rfl
   ·exact .inr rfl
  ·obtain⟨c,hc⟩:=D x hm;have aa:=g x c hc;refine⟨c,hc,?_⟩;rcases l with⟨V,_⟩|⟨_,c',S,o,ho,hd⟩
   ·exfalso;have V:X.env.scope.names.lookup x=some .local:=V;rcases hX with z|z
    ·rw[V]at z;cases z
    ·rw[V]at z;cases z
   ·rw[aa]at S;cases S;exact⟨o,keep c o ho,hd⟩
 ·intro x c e;obtain⟨v,o,ho,hd⟩:=I.cell x c (g x c e);exact⟨v,o,keep c o ho,hd⟩
 ·show aD H s.heap.objs.size (.lst []) C=none;rw[ao (me P)];exact I.hok.fresh (vl P)
 ·intro x c e;rw[ao (ig (B x c e))];exact I.freeC x c (g x c e)
 ·intro p T;obtain⟨e,n,n1,n2,d⟩:=I.pin p T;have lt:=g_ e;refine⟨keep _ _ e,?_,ig (u6 lt P),λz=>K p.1 z p T rfl,d⟩;rw[ao (ig lt)];exact n
 ·show(iL ds k σ).length=W.length;unfold iL;rw[gV,oN,I.len,hN,gV,y3,hk]
def FV(I:aU X a m H s)(f:∀b∈fp,wy X a H b)(g:aU (X.comp scope x cl C s H fp) a p i j)(r:s.heap.objs.size<C)(l:Heap.SameBut C j.heap h'):aU X a m i {j with heap:=h'}:=by
 have u:=g.base;have d:i C=none:=g.free;have ne:∀b o,s.heap.get? b=some o->b≠C:=λb o e=>ig (u6 (g_ e) r);have t:Un (j0 X.stack) fp H i s.heap h':=by
  refine⟨λb o e n h1 h2=>?_,λb o e n h1 h2=>?_,u.free,λb o e h2=>?_,u.tups,u.frzs,u.tbls⟩
  ·exact(l.2 b (ne b o e)).trans (u.keep b o e n h1 h2)
  ·obtain⟨sl,q⟩:=u.slot b o e n h1 h2;exact⟨sl,(l.2 b (ne b o e)).trans q⟩
  ·obtain⟨v,q⟩:=u.there b o e h2;exact⟨v,(l.2 b (ne b o e)).trans q⟩
 have h:lO X.prog X.w i h':=λb ob e=>by
  refine(g.hok b ob e).stay (λc y hc q=>(l.2 c ?_).trans q) (λ_ q=>q) λ_ _ q=>q;rintro rfl;rcases hc with rfl|hc
  ·rw[d]at e;cases e
  ·rw[d]at hc;cases hc
 exact I.call' (s':={j with heap:=h'}) g.os t h g.bare λb k=>⟨(f b k).2.2.2.1,(f b k).2.1,(f b k).2.2.2.2.1,(f b k).2.2.2.2.2⟩
def aU.block_gone(I:aU X a d H s)(hn:H C=none)(f:C≠X.env.locals)(h1:X.s₀.heap.objs.size<=C)(h2:∀x c,X.env.cells.lookup x=some c->c≠C)(h3:∀p∈X.pn++a,p.1≠C)(g:Heap.SameBut C s.heap h'):aU X a d H {s with heap:=h'}:=I.turned (t':=s.toks) (λb o h e=>(g.2 b h).trans e) hn f (.inr h1) h2 h3
def xf(N':Om)(ds:Op)(k:Nat){a:Oh}{s:Shared}{P:St}{H:Hp}{Q:VK}{use:Option (Value->Sem Unit)}{QV:Og}(hc:X.calm=true)(hi:PI X tg iter wi)(F:∀cl C s₀ H₀ ex,PG (X.comp scope N' cl C s₀ H₀ ex) tg g/\Ib (X.comp scope N' cl C s₀ H₀ ex) R tc/\PE (X.comp scope N' cl C s₀ H₀ ex) a6 te)(hg:GK g js)(hj:∀P:St,P.length=X.N.length->∀j∈js,∀v,(iL ds k P)[j]?≠some (some v))(G:scope.kind=.function)(S:∀y∈scope.names,y.2≠.cell)(aa:∀y∈scope.names,y.2=.local->scope.names.lookup y.1=some .local)(Z:∀y∈scope.names,y.2=.free->X.env.scope.names.lookup y.1=some .cell\/X.env.scope.names.lookup y.1=some .free)(hN:N'=X.N++a7)(hk:a7.length=k)(a8:∀i x,X.N[i]?=some x->scope.names.lookup x=some .local->i∈ds)(hs:∀x,foldedSetIterable iter X.env x=pure x)(I:aU X a P H s)(h:uc wi g ds k tc te P H Q)(fin:∀(D C:Addr)(H':Hp)(s':Shared)(m:Oi),aU X a P H' s'->Q (.ref D) H'->s'.heap.Ns C m->H' C=none->C≠X.env.locals->X.s₀.heap.objs.size<=C->(∀x c,X.env.cells.lookup x=some c->c≠C)->(∀p∈X.pn++a,p.1≠C)->compPost (model X.prog X.w) X.A X.xe use QV (.ref D) C (.ok .next) s'):wpAny (model X.prog X.w) X.A (comprehension (.ListComp a6 [⟨tg,iter,R,0⟩] scope ba) scope X.env (firstIterPos [⟨tg,iter,R,0⟩] ba) (newList []) (firstAsync [⟨tg,iter,R,0⟩]) (firstIter [⟨tg,iter,R,0⟩] X.env) use) QV X.xe s:=by
 have V:∀y∈scope.names,y.2=.free->∃c,X.env.cells.lookup y.1=some c:=λy hy e=>I.ok.has y.1 (Z y hy e);obtain⟨cl,an,bb,bc⟩:=wm V;refine wpAny_comprehension_free (use:=use) rfl hs an G aa (cB (hi a s P H _ I h) λv s1 h1=>cB h1 λc2 l h2=>?_);obtain⟨it,fp,tn,J,H2,e,Y,T,bi,f2,q⟩:=h2;subst e;have c3:=Y;obtain⟨W,⟨m0,w0⟩,bl⟩:=q l.heap.objs.size (Y.hok.fresh (fx _));refine oa (wpAny_newFunctionEnv S (by intro y hy;simp at hy) (λB t hsb₁=>?_) G);dsimp only at t hsb₁⊢;generalize as:l.heap.push {cls:=.type "list",dict:=none,data:=.seq ([]:Oj).toArray}=G2 at t hsb₁⊢;have hC:l.heap.objs.size<G2.objs.size:=by rw[<-as,nB];exact rm _
 have keep:∀b o,l.heap.get? b=some o->B.get? b=some o:=λb o e=>hsb₁.extBut b o (ig (u6 (g_ e) hC)) (c_ _ (as▸c_ _ e))
 have hD:B.get? l.heap.objs.size=some {cls:=.type "list",data:=.seq ([]:Oj).toArray 0}:=hsb₁.extBut _ _ (ig hC) (c_ _ (as▸ge _ rfl));have fo:∀b∈fp,∃o,l.heap.get? b=some o:=λb F=>let⟨o,e,_⟩:=T.obj _ _ bi b F;⟨o,e⟩;obtain⟨bt,bz,bT⟩:=F cl G2.objs.size l H2 fp;generalize f:X.comp scope N' cl G2.objs.size l H2 fp=L at bt bz bT;have xp:L.prog=X.prog:=by rw[<-f];rfl
 have xw:L.w=X.w:=by rw[<-f];rfl
 have xK:L.K=X.K:=by rw[<-f];rfl
 have xA:L.A=X.A:=by rw[<-f];rfl
 have xe:L.xe=λ_ _=>False:=by rw[<-f];rfl
 have E:L.env=compEnvC scope cl G2.objs.size X.env:=by rw[<-f];rfl
 have bU:L.calm=true:=by rw[<-f];exact hc
 have i8:aU L a (iL ds k P) (aD H2 l.heap.objs.size (.lst [])) {l with heap:=B,toks:=l.toks+([]:List (Str×Value)).length}:=by rw[<-f];exact FW Y f2 fo G S Z bb bc hN hk a8 hC keep t hD
 have bX:tn 0 B:=T.keep _ _ _ bi λb _ o e=>keep b o e;have cc:∀b∈fp,aD H2 l.heap.objs.size (.lst []) b=none:=λb F=>by obtain⟨o,e⟩:=fo b F;rw[ao (ig (g_ e))];exact(f2 b F).1
 have U:∀{H':Hp},(∀b∈fp,H' b=none)->∀b∈fp,wy L a H' b:=λhn b F=>by
  obtain⟨f0,f1,f3,f4,f5,f6⟩:=f2 b F;obtain⟨o,e⟩:=fo b F;refine⟨hn b F,?_,?_,?_,?_,?_⟩
  ·rw[E];exact ig (u6 (g_ e) hC)
  ·intro z;have z:b∈j0 X.stack:=by rw[<-f]at z;exact z
   rcases q_.mp (Y.stkSub b z)with y|y
   ·exact f1 y
   ·exact f3 y
  ·rw[<-f];exact .inl F
  ·intro x c ec;rw[E]at ec;exact f5 x c (bb x c ec)
  ·intro p hp;rw[<-f]at hp;exact f6 p hp
 have al:codeAny (model X.prog X.w) X.A (.compLoop (.ListComp a6 [⟨tg,iter,R,0⟩] scope ba) 0 (.ref it) (.ref l.heap.objs.size) (compEnvC scope cl G2.objs.size X.env)) (compPost (model X.prog X.w) X.A X.xe use QV (.ref l.heap.objs.size) G2.objs.size) {l with heap:=B,toks:=l.toks+([]:List (Str×Value)).length}:=by
  refine zL (λn s'=>∃i M H',aU L a (iL ds k P) H' s'/\tn i s'.heap/\(∀b∈fp,H' b=none)/\W i n M H') ?_ m0 ⟨0,[],_,i8,bX,cc,w0⟩;rintro n s3⟨i,M,H3,I3,b0,b7,w3⟩;rcases bl i n M H3 w3 with⟨stop,qn⟩|⟨go,step⟩
  ·have td:=T.done L xp xw xK bU i a s3 _ H3 (λ_ _=>False) I3 (U b7) b0 stop;rw[xA]at td;refine cB td λr s4 O=>?_;obtain⟨hr,I4⟩:=O;subst hr;have ad:=I4;rw[<-f]at ad;obtain⟨m',ci,_⟩:=ad.loc;refine fin l.heap.objs.size G2.objs.size H3 s4 m' (FV (h':=s4.heap) Y f2 ad hC (.refl ..)) qn ci ad.free (me (u6 Y.lt hC)) (vl (Nc Y.sz hC)) (λx c e z=>?_) λp hp z=>?_
   ·obtain⟨v,q⟩:=Y.cell x c e;exact absurd (u6 q.lt hC) (by rw[z];exact ot _)
   ·exact absurd (u6 (g_ (Y.pin p hp).1) hC) (by rw[z];exact ot _)
  ·have ti:=T.item L xp xw xK bU i a s3 _ H3 (λ_ _=>False) I3 (U b7) b0 go;rw[xA]at ti;refine cB ti λr s4 O=>?_;obtain⟨u,hr,h4⟩:=O;subst hr;refine cB h4 λ_ s5 O=>?_;obtain⟨x,H5,I5,r5,y5,ax,cP⟩:=O;have c0:=I5.pinned (U cP) (T.obj _ _ ax);have pg:=bt _ s5 _ H5 x u _ c0 r5 (hg x _ H5 _ (step x H5 y5));rw[xp,xw,xA,E,xe]at pg;refine cB pg λ_ s6 O=>?_;obtain⟨ag,H6,I6,⟨q6,b8,a5⟩⟩:=O;have again:∀{H7:Hp}{s7:Shared},aU L (a++uO fp s5.heap) ag H7 s7->aU L a (iL ds k P) H7 s7/\tn (i+1) s7.heap/\∀b∈fp,H7 b=none:=λ{H7 s7}I7=>by
    refine⟨I7.unpinned.weak b8.symm λj v e=>?_,T.keep _ _ _ ax λb F o e=>(I7.pin (b,o) (l_ _ (l_ _ (lg F e)))).1,λb F=>?_⟩
    ·rw[a5 j λz=>hj P I.len j z v e];exact e
    ·obtain⟨o,e,d⟩:=T.obj _ _ ax b F;exact(I7.pin (b,o) (l_ _ (l_ _ (lg F e)))).2.1
   have pt:=bz _ s6 ag H6 _ I6 q6;rw[xp,xw,xA,E,xe]at pt;refine cB pt λok s7 O=>?_;obtain⟨H7,I7,q7⟩:=O;cases ok with|false=>obtain⟨m',hm,w7⟩:=q7;obtain⟨a1,a2,a3⟩:=again I7;exact⟨m',hm,i+1,M,H7,a1,a2,a3,w7⟩|true=>have pe:=bT _ s7 ag H7 _ I7 q7;rw[xp,xw,xA,E,xe]at pe;refine cB pe λyv s8 O=>?_;obtain⟨y,H8,I8,r8,c1,b9,m',hm,w8⟩:=O;have ap:=fm (X:=L) _ s8 ag H8 (.ref l.heap.objs.size) [y] _ [yv] (λv H9=>H9=aD H8 l.heap.objs.size (.lst (M++[y]))) I8 rfl (.cons r8 .nil) ⟨_,M,y,rfl,rfl,c1,b9,rfl⟩;rw[xp,xw,xA,xe]at ap;refine cB ap λ_ s9 O=>?_;obtain⟨_,H9,I9,_,e9⟩:=O;subst e9;obtain⟨a1,a2,a3⟩:=again I9;exact⟨m',hm,i+1,M++[y],_,a1,a2,a3,w8⟩
 exact codeAny_compStart_list al (T.self _ 0 _ _ _ bX al)
def G9(f:Om)(ds:Op)(k:Nat)(hc:X.calm=true)(hi:PI X t iter u)(w:∀cl C s₀ H₀ ex,PG (X.comp scope f cl C s₀ H₀ ex) t g/\Ib (X.comp scope f cl C s₀ H₀ ex) o tc/\PE (X.comp scope f cl C s₀ H₀ ex) p te)(hg:GK g z)(A:∀r:St,r.length=X.N.length->∀j∈z,∀v,(iL ds k r)[j]?≠some (some v))(c:scope.kind=.function)(d:∀y∈scope.names,y.2≠.cell)(a:∀y∈scope.names,y.2=.local->scope.names.lookup y.1=some .local)(e:∀y∈scope.names,y.2=.free->X.env.scope.names.lookup y.1=some .cell\/X.env.scope.names.lookup y.1=some .free)(B:f=X.N++l)(E:l.length=k)(n:∀i x,X.N[i]?=some x->scope.names.lookup x=some .local->i∈ds)(F:∀x,foldedSetIterable iter X.env x=pure x:=by intro _;rfl):PE X (.ListComp p [⟨t,iter,o,0⟩] scope G) (uc u g ds k tc te):=by intro b s r H Q I h;rw[eval_ListComp];refine xf f ds k hc hi w hg A c d a e B E n F I h λD C J O m K q hn n1 n2 n3 n4 L=>?_;exact⟨m,hn,λh' M=>⟨.ref D,J,K.block_gone n1 n2 n3 n4 L M,rfl,q⟩⟩
def G1(r:Om)(ds:Op)(k:Nat)(F:X.N.Nodup)(G:X.N[i]?=some x)(Q:KQ X.env.scope x)(R:X.fn x=true\/X.env.scope.names.lookup x=some .local)(J:swapsWith (.ListComp f [⟨E,iter,l,0⟩] scope t) (some (.Name x c)) u.line X.env=pure true)(hc:X.calm=true)(hi:PI X E iter S)(T:∀cl C s₀ H₀ ex,PG (X.comp scope r cl C s₀ H₀ ex) E g/\Ib (X.comp scope r cl C s₀ H₀ ex) l tc/\PE (X.comp scope r cl C s₀ H₀ ex) f te)(hg:GK g W)(Z:∀L:St,L.length=X.N.length->∀j∈W,∀v,(iL ds k L)[j]?≠some (some v))(n:scope.kind=.function)(o:∀y∈scope.names,y.2≠.cell)(d:∀y∈scope.names,y.2=.local->scope.names.lookup y.1=some .local)(p:∀y∈scope.names,y.2=.free->X.env.scope.names.lookup y.1=some .cell\/X.env.scope.names.lookup y.1=some .free)(hN:r=X.N++w)(hk:w.length=k)(B:∀i x,X.N[i]?=some x->scope.names.lookup x=some .local->i∈ds)(hs:∀x,foldedSetIterable iter X.env x=pure x:=by intro _;rfl):PS X (.Assign [.Name x c] (.ListComp f [⟨E,iter,l,0⟩] scope t) u) (yE (uc S g ds k tc te) (kK i)):=by
 intro b s L H D I h;rw[exec_Assign_Name_used _ _ _ _ J];refine a_ (wpAny_standAt (a_ ?_));show wpAny _ X.A (do let _<-comprehension (.ListComp f [⟨E,iter,l,0⟩] scope t) scope X.env _ (newList []) false (eval iter X.env) (some (assign (.Name x c) X.env))) _ _ s;refine a_ (wpAny_mono (xf (QV:=λ_ K=>SP X b D .next K) (use:=some (assign (.Name x c) X.env)) r ds k hc hi T hg Z n o d p hN hk B hs I h λDa C V K m Y q hn n1 n2 n3 n4 n5=>?_) (λ_ K hq=>e_ (e_ hq)) λ_ _ e=>e)
 show wpAny _ X.A (assign (.Name x c) X.env (.ref Da)) _ _ _;refine wpAny_assign_Name (wH Y F G Q (v:=.ref Da) rfl (λaa M⟨a,sb,ha⟩=>?_) R);have O:C≠a:=by
  rcases ha with z|z
  ·rw[z];exact n2
  ·exactλe=>n4 x a z e.symm
 exact⟨m,hn.sameBut sb O,λh' P=>⟨_,V,M.block_gone n1 n2 n3 n4 n5 P,q⟩⟩
def rK(N0:Om)(ds:Op)(a scope:Scope):Bool:=scope.kind==.function&&scope.names.all (λy=>!(y.2==.cell)&&(!(y.2==.local)||scope.names.lookup y.1==some .local)&&(!(y.2==.free)||(a.names.lookup y.1==some .cell||a.names.lookup y.1==some .free)))&&N0.zipIdx.all λp=>!(scope.names.lookup p.1==some .local)||ds.contains p.2
def vi{N0:Om}{ds f:Op}{a scope:Scope}{k:Nat}(ok:rK N0 ds a scope=true)(c:(f.all λj=>ds.contains j||decide (N0.length<=j))=true):(∀d:St,d.length=N0.length->∀j∈f,∀v,(iL ds k d)[j]?≠some (some v))/\scope.kind=.function/\(∀y∈scope.names,y.2≠.cell)/\(∀y∈scope.names,y.2=.local->scope.names.lookup y.1=some .local)/\(∀y∈scope.names,y.2=.free->a.names.lookup y.1=some .cell\/a.names.lookup y.1=some .free)/\(∀i x,N0[i]?=some x->scope.names.lookup x=some .local->i∈ds):=by
 unfold rK at ok;rw[kw,kw]at ok;obtain⟨⟨h1,h2⟩,h3⟩:=ok;have h2:=List.all_eq_true.mp h2;have h3:=List.all_eq_true.mp h3;have c:=List.all_eq_true.mp c;refine⟨?_,(by simpa using h1),?_,?_,?_,?_⟩
 ·intro d m j hm v e;obtain⟨_,g,n⟩:=zz e;have:=c j hm;rw[Bool.or_eq_true]at this;rcases this with z|z
  ·exact g (by simpa using z)
  ·have:=md z;lia
 ·intro y b e;have:=h2 y b;rw[kw,kw]at this;have z:=this.1.1;rw[e]at z;exact absurd z (by decide)
 ·intro y b e;have:=h2 y b;rw[kw,kw]at this;have z:=this.1.2;rw[e]at z;simpa using z
 ·intro y b e;have:=h2 y b;rw[kw,kw]at this;have z:=this.2;rw[e]at z;simpa using z
 ·intro i x h l;have:=h3 (x,i) (by rw[List.mem_zipIdx_iff_getElem?];exact h);rw[Bool.or_eq_true]at this;rcases this with z|z
  ·rw[l]at z;exact absurd z (by decide)
  ·simpa using z
def HP(N0 a:Om)(ds m:Op)(c:Scope){d f iter:Expr}{e:On}{scope:Scope}{h:Pos}{n:TI}{g:TG}{tc:TT}{te:TE}(hc:X.calm=true)(i:X.N=N0)(l:X.env.scope=c)(ok:rK N0 ds c scope=true)(o:(m.all λj=>ds.contains j||decide (N0.length<=j))=true)(hg:GK g m)(hi:PI X f iter n)(p:∀cl C s₀ H₀ ex,PG (X.comp scope (N0++a) cl C s₀ H₀ ex) f g/\Ib (X.comp scope (N0++a) cl C s₀ H₀ ex) e tc/\PE (X.comp scope (N0++a) cl C s₀ H₀ ex) d te)(q:∀x,foldedSetIterable iter X.env x=pure x:=by intro _;rfl):PE X (.ListComp d [⟨f,iter,e,0⟩] scope h) (uc n g ds a.length tc te):=by subst i;subst l;obtain⟨h1,h2,h3,h4,h5,h6⟩:=vi ok o;exact G9 (X.N++a) ds a.length hc hi p hg h1 h2 h3 h4 h5 rfl rfl h6 q
def FU(N0 a:Om)(ds s:Op)(e:Scope){i:Nat}{x:Str}{c d:Pos}{f m iter:Expr}{h:On}{scope:Scope}{l:Pos}{t:TI}{g:TG}{tc:TT}{te:TE}(hc:X.calm=true)(n:X.N=N0)(o:X.env.scope=e)(ok:rK N0 ds e scope=true)(v:(s.all λj=>ds.contains j||decide (N0.length<=j))=true)(hg:GK g s)(hi:PI X m iter t)(w:∀cl C s₀ H₀ ex,PG (X.comp scope (N0++a) cl C s₀ H₀ ex) m g/\Ib (X.comp scope (N0++a) cl C s₀ H₀ ex) h tc/\PE (X.comp scope (N0++a) cl C s₀ H₀ ex) f te)(p:N0.Nodup)(q:N0[i]?=some x:=by rfl)(u:e.names.lookup x=some .local:=by rfl)(r:swapsWith (.ListComp f [⟨m,iter,h,0⟩] scope l) (some (.Name x c)) d.line X.env=pure true:=by rfl)(y:∀x,foldedSetIterable iter X.env x=pure x:=by intro _;rfl):PS X (.Assign [.Name x c] (.ListComp f [⟨m,iter,h,0⟩] scope l) d) (yE (uc t g ds a.length tc te) (kK i)):=by subst n;subst o;obtain⟨h1,h2,h3,h4,h5,h6⟩:=vi ok v;exact G1 (X.N++a) ds a.length p q (.inl u) (.inr u) r hc hi w hg h1 h2 h3 h4 h5 rfl rfl h6 y
end
end L2
namespace L2
open PySem PySem.Spec PyProof.Rows
section
variable{X:Cx}
def zP:dk X (.builtin "isinstance") (λa H Q=>∃x T t b,a=[x,.ty T]/\kO X.K H x t/\PySem.W.kitOne X.K t (.type T)=some b/\Q (.bl b) H):=by intro c s g H a i Q I r h;obtain⟨x,T,t,b,rfl,ty,e,q⟩:=h;obtain⟨u,d,rfl,f,rt⟩:=oU r;obtain rfl:d=Value.type T:=rt;exact CY I f ty e λtk=>⟨.bl b,H,I.tok tk,rfl,q⟩
def xj{bs:List Bool}{a:Oj}(r:bq (bs.map V.bl) a){i:Nat}{v:Value}(h:a[i]?=some v):∃b,bs[i]?=some b/\v=.bool b:=by
 have d:=r.length;rw[b_]at d;have hi:i<a.length:=(d_.mp h).1;have c:bs[i]?=some bs[i]:=by simp
 obtain⟨u,h1,h2⟩:=r.get (i:=i) (x:=.bl bs[i]) (by rw[gg,c];rfl);rw[h]at h1;cases h1;exact⟨bs[i],c,h2⟩
def Cz{bs:List Bool}:((List.range bs.length).all λi=>bs.getD i true)=bs.all id:=by induction bs with|nil=>rfl|cons b r a=>
  rw[k4,List.range_succ_eq_map,M0,List.all_map,M0]
  congr 1
def Cy{bs:List Bool}:((List.range bs.length).any λi=>bs.getD i true)=bs.any id:=by induction bs with|nil=>rfl|cons b r a=>
  rw[k4,List.range_succ_eq_map,vu,List.any_map,vu]
  congr 1
def Fn{A:Around}(h:A.handled=none):A.in1.handled=none:=h
def Do(hc:X.calm=true):dk X (.builtin "all") (λg H Q=>∃(p:Addr)(bs:List Bool),g=[.ref p]/\be X.K H p (bs.map V.bl)/\Q (.bl (bs.all id)) H):=by
 intro j s A H g B Q I r h;obtain⟨p,bs,rfl,m,q⟩:=h;obtain⟨u,rfl,t⟩:=lB r;cases t;obtain⟨a,k,pl,C⟩:=I.list m;refine call_all_walk (Nh pl.isList ?_);have d:p≠s.heap.objs.size:=ig (by obtain⟨o,n,e,_⟩:=pl;exact g_ e);have l:=k.length;rw[b_]at l;refine⟨s.heap.objs.size,_,_,_,_,_,λi=>bs.getD i true,rfl,Walks.list (Fn (I.ok.hd hc)) s.heap.objs.size p d a.toArray,⟨⟨_,ge _ rfl,rfl,rfl⟩,?_⟩,?_,?_⟩
 ·exact pl.isList.push _
 ·intro i v w x D f c;have f:a.toArray[i]?=some v:=f;obtain⟨b,y,rfl⟩:=xj k (i:=i) (v:=v) (by simpa using f);refine pu ?_;have e:bs.getD i true=b:=by simp[List.getD,y]
  have c:x (bs.getD i true) w:=c;rw[e]at c;exact c
 ·intro h' tk z;have e:((List.range a.toArray.size).all λi=>bs.getD i true)=bs.all id:=by rw[hQ,<-l,Cz]
  rw[e];exact⟨.bl _,H,I.kept (h':=h') (t':=tk) λb o e=>z b o (by simp[ig (g_ e)]) (c_ _ e),rfl,q⟩
def Dn(hc:X.calm=true):dk X (.builtin "any") (λg H Q=>∃(p:Addr)(bs:List Bool),g=[.ref p]/\be X.K H p (bs.map V.bl)/\Q (.bl (bs.any id)) H):=by
 intro j s A H g B Q I r h;obtain⟨p,bs,rfl,m,q⟩:=h;obtain⟨u,rfl,t⟩:=lB r;cases t;obtain⟨a,k,pl,C⟩:=I.list m;refine call_any_walk (Nh pl.isList ?_);have d:p≠s.heap.objs.size:=ig (by obtain⟨o,n,e,_⟩:=pl;exact g_ e);have l:=k.length;rw[b_]at l;refine⟨s.heap.objs.size,_,_,_,_,_,λi=>bs.getD i true,rfl,Walks.list (Fn (I.ok.hd hc)) s.heap.objs.size p d a.toArray,⟨⟨_,ge _ rfl,rfl,rfl⟩,?_⟩,?_,?_⟩
 ·exact pl.isList.push _
 ·intro i v w x D f c;have f:a.toArray[i]?=some v:=f;obtain⟨b,y,rfl⟩:=xj k (i:=i) (v:=v) (by simpa using f);refine pu ?_;have e:bs.getD i true=b:=by simp[List.getD,y]
  have c:x (bs.getD i true) w:=c;rw[e]at c;exact c
 ·intro h' tk z;have e:((List.range a.toArray.size).any λi=>bs.getD i true)=bs.any id:=by rw[hQ,<-l,Cy]
  rw[e];exact⟨.bl _,H,I.kept (h':=h') (t':=tk) λb o e=>z b o (by simp[ig (g_ e)]) (c_ _ e),rfl,q⟩
def Ih(x:Str):It:=⟨λi _=>i<x.cps.size,λi H y a=>a=H/\∃c,x.cps[i]?=some c/\y=.str ⟨#[c]⟩,λi _=>x.cps.size<=i⟩
def Dz{P:Ol}{w:World}{K:Of}{J:Expr}(it:Addr)(x:Str)(t:Tok)(a:String)(hn:["enumerate","zip","dict_itemiterator","dict_reverseitemiterator","odict_iterator","itertools.zip_longest","itertools.pairwise"].contains a=false)(W:∀A:Around,A.handled=none->Walks P w A it [it] [it] x.cps.size (SignAt x) (λi h=>h.IsStrIter it a x t i))(S:∀(A:Around)(i:Nat)(s:Shared)(Q:Og)(E:Og),s.heap.IsStrIter it a x t i->Q (.ref it) s->wpAny (model P w) A (pyIter (.ref it)) Q E s):ww P w K J (Ih x) [it] it (λi h=>i<=x.cps.size/\h.IsStrIter it a x t i)where
 mem:=by simp
 obj:=λi h st b g=>by
  have e:b=it:=by simpa using g
  subst e;obtain⟨_,o,e,c,d⟩:=st;exact⟨o,e,λv z=>by rw[d]at z;cases z⟩
 keep:=λi h h' st k=>by obtain⟨l,o,e,r⟩:=st;exact⟨l,o,k it (by simp) o e,r⟩
 item:=by intro X n p q hc i f s G H E I m st hg;subst n p q;obtain⟨y,f1,f2,f3,B,C⟩:=m it (by simp);refine(W X.A (I.ok.hd hc)).item i s _ _ hg st.2 λv h' tk L j D=>?_;obtain⟨c,u,F,rfl⟩:=L;have I1:aU X f G H {s with heap:=h',toks:=tk}:=I.turned (λb o g e=>D b o (by simpa using g) e) y f1 f3 B C;obtain⟨o,e,M,d⟩:=id j;have N:i<x.cps.size:=hg;exact⟨_,rfl,wZ (s:={s with heap:=h',toks:=tk}) e M d hn ⟨.str ⟨#[c]⟩,H,I1,⟨u,rfl⟩,⟨rfl,c,F,rfl⟩,⟨by omega,j⟩,λb g=>(m b g).1⟩⟩
 done:=by intro X n p q hc i f s G H E I m st hg;subst n p q;obtain⟨y,f1,f2,f3,B,C⟩:=m it (by simp);have e:i=x.cps.size:=Nat.le_antisymm st.1 hg;subst e;exact(W X.A (I.ok.hd hc)).done s _ _ st.2 λh' tk D=>⟨rfl,I.turned (λb o g e=>D b o (by simpa using g) e) y f1 f3 B C⟩
 self:=λA i s Q E st h=>S A i s Q E st.2 h
def ML(a:TE):TI:=λb H R=>a b H λv c=>∃x,v=.str x/\R (Ih x) c
def EC{g l:Expr}{j:TE}(n:PE X l j):PI X g l (ML j):=by
 intro d s k H R I h;refine cB (n d s k H _ I h) λv a p=>?_;obtain⟨y,r,I1,u,z⟩:=p;obtain⟨x,e,q⟩:=z;subst e;obtain⟨t,rfl⟩:=u;have fin:∀(c:String)(ob:Obj),(["enumerate","zip","dict_itemiterator","dict_reverseitemiterator","odict_iterator","itertools.zip_longest","itertools.pairwise"].contains c=false)->(∀A:Around,A.handled=none->Walks X.prog X.w A a.heap.objs.size [a.heap.objs.size] [a.heap.objs.size] x.cps.size (SignAt x) (λi h=>h.IsStrIter a.heap.objs.size c x t i))->(∀(A:Around)(i:Nat)(s:Shared)(Q:Og)(E:Og),s.heap.IsStrIter a.heap.objs.size c x t i->Q (.ref a.heap.objs.size) s->wpAny (model X.prog X.w) A (pyIter (.ref a.heap.objs.size)) Q E s)->(a.heap.push ob).IsStrIter a.heap.objs.size c x t 0->MT X d k g R (.ref a.heap.objs.size) {a with heap:=a.heap.push ob}:=λc ob h1 h2 h3 h4=>by
  refine⟨a.heap.objs.size,[a.heap.objs.size],_,Ih x,r,rfl,I1.kept (t':=a.toks) λb o e=>c_ _ e,Dz _ x t c h1 h2 h3,⟨j_ _,h4⟩,λb B=>?_,q⟩;have e:b=a.heap.objs.size:=by simpa using B
  subst e;exact I1.fpOk (fx _) (I1.hok.fresh (fx _))
 cases m:x.cps.all (·<128)
 ·exact wpAny_pyIter_wide m (fin "str_iterator" _ (by decide) (λA f=>Walks.strWide f _ x t) (λA i s Q E st h=>wpAny_pyIter_striter_wide st h) ⟨_,ge _ rfl,rfl,rfl⟩)
 ·exact wpAny_pyIter_ascii m (fin "str_ascii_iterator" _ (by decide) (λA f=>Walks.strAscii f _ x t) (λA i s Q E st h=>wpAny_pyIter_striter_ascii st h) ⟨_,ge _ rfl,rfl,rfl⟩)
def HJ{x:Str}{g:TG}{l:TS}{D:jq}{a:St}{H:Hp}(Pv:Nat->St->Hp->Prop)(h0:Pv 0 a H)(o:∀i c a H,x.cps.toList[i]?=some c->Pv i a H->g (.str ⟨#[c]⟩) a H λd j=>l {D with nx:=Pv (i+1),ct:=Pv (i+1),bk:=D.nx} d j)(hd:∀a H,Pv x.cps.toList.length a H->D.nx a H):∃W:Nat->Nat->St->Hp->Prop,(∃m,W 0 m a H)/\∀i m a H,W i m a H->((Ih x).stop i H/\D.nx a H)\/((Ih x).go i H/\∃N:St->Hp->Prop,(∀f h,N f h->∃n,n<m/\W (i+1) n f h)/\∀y h,(Ih x).yld i H y h->g y a h λd j=>l {D with nx:=N,ct:=N,bk:=D.nx} d j):=by
 have k:x.cps.toList.length=x.cps.size:=by simp
 refine⟨λi m a H=>m=x.cps.size-i/\i<=x.cps.size/\Pv i a H,⟨x.cps.size,by simp,j_ _,h0⟩,?_⟩;rintro i m a H⟨rfl,hi,p⟩
 by_cases b:i<x.cps.size
 ·refine .inr ⟨b,Pv (i+1),λf h q=>⟨x.cps.size-(i+1),by omega,rfl,b,q⟩,λy h r=>?_⟩;obtain⟨e,c,hc,rfl⟩:=r;subst e;exact o i c a _ (by simpa using hc) p
 ·have e:i=x.cps.size:=by omega
  subst e;exact .inl ⟨fx _,hd a H (by rw[k];exact p)⟩
def JC:V->List V->Hp->VK->Prop:=λx a H Q=>∃z y i r,x=.str z/\a=[.str y]/\Builtin.Str.occurrences z y 0 z.length 1=i::r/\Q (.int (i:Nat)) H
def EU:MU X "str.index" JC:=by intro a s e H x f v g Q I b c h;obtain⟨z,y,i,r,rfl,rfl,d,q⟩:=h;obtain⟨t,rfl⟩:=b;obtain⟨u,rfl,j,rfl⟩:=lB c;exact SC.index d ⟨.int _,H,I.tok _,⟨_,rfl⟩,q⟩
end
end L2
namespace L2
open PySem PySem.Spec PyProof.Rows
section
variable{X:Cx}(K:Of)(c:X.K=K)
include c
def aJ:dk X (.builtin "len") (λa H Q=>∃x n,a=[x]/\L6 K x H n/\Q (.int n) H):=by subst c;exact FY
def i7:dk X (.builtin "isinstance") (λa H Q=>∃x T t b,a=[x,.ty T]/\kO K H x t/\PySem.W.kitOne K t (.type T)=some b/\Q (.bl b) H):=by subst c;exact zP
def gY(hc:X.calm=true):dk X (.builtin "all") (λa H Q=>∃(p:Addr)(bs:List Bool),a=[.ref p]/\be K H p (bs.map V.bl)/\Q (.bl (bs.all id)) H):=by subst c;exact Do hc
def rL(hc:X.calm=true):dk X (.builtin "any") (λa H Q=>∃(p:Addr)(bs:List Bool),a=[.ref p]/\be K H p (bs.map V.bl)/\Q (.bl (bs.any id)) H):=by subst c;exact Dn hc
def Fj:KR X (JB K):=by subst c;exact Hz
def Hy:KR X (JA K):=by subst c;exact J5
def uh:KO X (Lo K):=by subst c;exact GV
def Bt:KO X (Ln K):=by subst c;exact Jw
def qY:lx X (compareOp .In) (Mg K false):=by subst c;exact CF
def uR:lx X (binaryOp .Add) (Iv K):=by subst c;exact Hd
def oQ:dk X (.type "list") (λd H Q=>∃p a,d=[.ref p]/\(be K H p a\/bj K H p a)/\∀l,H l=none->Q (.ref l) (aD H l (.lst a))):=by subst c;exact yg
def gp:dk X (.type "tuple") (λd H Q=>∃p a,d=[.ref p]/\((be K H p a/\∀l,H l=none->Q (.ref l) (aD H l (.tup a)))\/(bj K H p a/\Q (.ref p) H))):=by subst c;exact wo
def fH{d l:Expr}{a:TE}(e:PE X l a):PI X d l (Iz K a):=by subst c;exact G5 e
def gB{d l:Expr}{a:TE}(e:PE X l a):PI X d l (LO K a):=by subst c;exact JG e
def aS{a:Expr}{e:TE}(g:PE X a e)(h:∀d,isTrue a X.env d=(do let v<-d;standAt a.pos;holding [v] (truthy v))):PT X a (λi H Q=>e i H λx f=>∃k,Kt K x f k/\Q k f):=by subst c;exact Ez g h
def iV{f:On}{k:Nat}{a:Pos}{t:KN}{n:Nat}(hc:X.calm=true)(h:Ku X f t)(hn:(assignEach f X.env).length=n:=by rfl)(d:(assignEach f X.env).findIdx? (·.1)=none:=by rfl):PG X (.Tuple f k a) (Ka K n t):=by subst c;exact JH hc h hn d
variable{o e:Expr}{f:On}{j:TE}{t:TA}{g:Str}{i d:Pos}{T id:String}{r:V->List V->Hp->VK->Prop}
def jd(p:PlainAttrs T)(slot:Slot T g id)(n:typeOf (.builtin id)=pure (.type "method_descriptor"))(hm:MU X id r)(q:PE X o j)(s:PA X (e::f) t)(h:attributeBase o g X.env (eval o X.env)=eval o X.env:=by rfl)(m:((backTo d (starEach (e::f) X.env)).all (λx=>!x.1)&&(backToKw d (keywordEach [] X.env)).all (λx=>x.1.isSome)&&decide ((e::f).length+([]:List Keyword).length+(if([]:List Keyword).isEmpty then 0 else 1)<30))=true:=by rfl)(l:(i.endLine==d.line)=true:=by rfl)(u:starEach (e::f) X.env=(false,eval e X.env)::starEach f X.env:=by rfl)(a:(backTo d (starEach f X.env)).any (·.1)=false:=by rfl):PE X (.Call (.Attribute o g i) (e::f) [] d) (tBM K T r j t):=by subst c;exact Lv p slot n hm q s h m l u a
end
end L2
namespace L2
open PySem PySem.Spec PyProof.Rows
def aL:bootBuiltins "len"=some (.builtin "len"):=by decide+kernel
def F1:bootBuiltins "max"=some (.builtin "max"):=by decide+kernel
def qF:bootBuiltins "min"=some (.builtin "min"):=by decide+kernel
def aQ:bootBuiltins "isinstance"=some (.builtin "isinstance"):=by decide+kernel
def jl:bootBuiltins "all"=some (.builtin "all"):=by decide+kernel
def vn:bootBuiltins "any"=some (.builtin "any"):=by decide+kernel
def zU:bootBuiltins "divmod"=some (.builtin "divmod"):=by decide+kernel
def sK:bootBuiltins "sorted"=some (.builtin "sorted"):=by decide+kernel
def F0:bootBuiltins "sum"=some (.builtin "sum"):=by decide+kernel
def zT:bootBuiltins "int"=some (.type "int"):=by decide+kernel
def zS:bootBuiltins "str"=some (.type "str"):=by decide+kernel
def xi:bootBuiltins "bool"=some (.type "bool"):=by decide+kernel
def m7:bootBuiltins "list"=some (.type "list"):=by decide+kernel
def bS:bootBuiltins "tuple"=some (.type "tuple"):=by decide+kernel
def qE:bootBuiltins "set"=some (.type "set"):=by decide+kernel
def vm:bootBuiltins "enumerate"=some (.type "enumerate"):=by decide+kernel
def FZ:bootBuiltins "zip"=some (.type "zip"):=by decide+kernel
def wu:bootBuiltins "reversed"=some (.type "reversed"):=by decide+kernel
section
variable{X:Cx}
def iy(hg:Gl X x)(hm:X.mg x=none)(a:bootBuiltins x=some (.type T))(hn:x≠"__name__":=by decide)(hd:(x==("__debug__":Str))=false:=by decide):PE X (.Name x c) (tC (.ty T)):=Hb hg hm a rfl hn hd
def bC(hm:∃u,X.mg x=some u/\bg v u)(hg:Gl X x)(hd:(x==("__debug__":Str))=false:=by decide):PE X (.Name x a) (tC v):=by obtain⟨u,h1,h2⟩:=hm;exact BD hg h1 h2 hd
end
def bI{K:Of}{A B:String}{b:Bool}(h:(if((Value.type A)==.type B)=true then some true else if PySem.W.kitMeta B=true then(fastBuiltinMro A).map (·.contains (.type B))else none)=some b):PySem.W.kitOne K (.type A) (.type B)=some b:=h
def jh{i j:Int}{A B:Prop}(h1:i=j->A)(h2:i≠j->B):if decide (V.int i=V.int j)=true then A else B:=by
 by_cases h:i=j
 ·subst h;rw[ji rfl];exact bp (h1 rfl)
 ·rw[i_ (λe=>h (V.int.inj e))];exact bN (h2 h)
def iC{c:Prop}[Decidable c]{A B:Prop}(h1:c->A)(h2:¬c->B):if decide c=true then A else B:=by
 by_cases h:c
 ·rw[ji h];exact bp (h1 h)
 ·rw[i_ h];exact bN (h2 h)
def x4{b:Bool}{A B:Prop}(h1:b=true->A)(h2:b=false->B):if b=true then A else B:=by cases b with|true=>exact bp (h1 rfl)|false=>exact bN (h2 rfl)
def av(h:F (a.set j (some x)) H):kK j x a H F:=h
def ju(h:F true H):KW a H F:=h
def JW(h:aD H a o b=none):b≠a/\H b=none:=by
 by_cases e:b=a
 ·rw[e,af]at h;cases h
 ·rw[ao e]at h;exact⟨e,h⟩
def bH(i:Int){n:Int}(h:0<n):0<=i%n/\i%n<n:=⟨yl _ (by lia),w_ _ h⟩
def JY(x:Int):Builtin.bitAnd x 2147483647=x%2147483648:=PySem.W.kbt_mask x 31
end L2
namespace L2
open PySem PySem.Spec PyProof.Rows
section
variable{X:Cx}
def MB:V->Option Int->Option Int->Hp->VK->Prop:=λx lo hi H Q=>∃z,x=.str z/\z.length<=sizeLine/\Q (.str (Txt.slice z lo hi)) H
def xx:KO X MB:=by intro a s g H x v n o lo hi sl Q I m b pl d h;obtain⟨z,rfl,c,q⟩:=h;obtain⟨t,rfl⟩:=m;refine⟨"str",_,F.slot_str_getitem.lookup,typeIs_str _ _ _,?_⟩;have fin:∀(e:Tok)(k:Nat),EP X a g Q (.str (Txt.slice z lo hi) e) {s with toks:=k}:=λe k=>⟨.str _,H,I.tok k,⟨_,rfl⟩,q⟩;cases pl with
 |none=>cases d with|none=>exact G_ (l:=none) (u:=none) (st:=none) b rfl (NG ⟨kl (Txt.slice_le z _ _) c,fin⟩)|int j u=>exact G_ (l:=none) (u:=some (j,u)) (st:=none) b rfl (NG ⟨kl (Txt.slice_le z _ _) c,fin⟩)
 |int i f=>cases d with|none=>exact G_ (l:=some (i,f)) (u:=none) (st:=none) b rfl (NG ⟨kl (Txt.slice_le z _ _) c,fin⟩)|int j u=>exact G_ (l:=some (i,f)) (u:=some (j,u)) (st:=none) b rfl (NG ⟨kl (Txt.slice_le z _ _) c,fin⟩)
end
end L2
namespace L2
open PySem PySem.Spec PyProof.Rows
def IH{c:Bool}{t u:TS}{D:jq}{a:St}{H:Hp}(J:St->Hp->Prop)(h1:∀a H,J a H->D.nx a H)(h2:∀N:St->Hp->Prop,(∀a H,J a H->N a H)->if c=true then t {D with nx:=N} a H else u {D with nx:=N} a H):if c=true then t D a H else u D a H:=h2 D.nx h1
def AA(h:D.nx a H):wF D a H:=h
def aj(h:am c H)(hn:H a=none):am c (aD H a o):=λb d f=>by have e:=h b d f;rw[ao (aI e hn)];exact e
def vq(h0:0<=i)(h1:i<xs.length):∃c,tM xs i=some c/\c∈xs:=by refine⟨xs[i.toNat]'(by lia),?_,B_ _⟩;unfold tM HB;rw[hA h0,hA h1];show xs[i.toNat]?=_;rw[fy (by lia)]
def dn{n:Nat}(h:n<=65536):n<=sizeLine:=by rw[hH];lia
mutual
inductive Dt(K:Of)(H:Hp):V->PyData->Prop|non:Dt K H .non .none|bl(b:Bool):Dt K H (.bl b) (.bool b)|int(i:Int):Dt K H (.int i) (.int i)|str(x:Str):Dt K H (.str x) (.str x)|lst{a:Addr}{xs:List V}{ds:List PyData}:be K H a xs->IsPs K H xs ds->Dt K H (.ref a) (.list ds)|tup{a:Addr}{xs:List V}{ds:List PyData}:bj K H a xs->IsPs K H xs ds->Dt K H (.ref a) (.tuple ds)
inductive IsPs(K:Of)(H:Hp):List V->List PyData->Prop|nil:IsPs K H [] []|cons{v:V}{d:PyData}{vs:List V}{ds:List PyData}:Dt K H v d->IsPs K H vs ds->IsPs K H (v::vs) (d::ds)
end
section
variable{X:Cx}{c:Oh}{f:St}{H:Hp}{s:Shared}
mutual
theorem Dt.reads(I:aU X c f H s):∀{v:V}{d:PyData}{u:Value},Dt X.K H v d->bg v u->∃g,Reads s.heap u d g|_,_,_,.non,r=>by obtain rfl:_=Value.none:=r;exact⟨_,.none⟩|_,_,_,.bl b,r=>by obtain rfl:_=Value.bool b:=r;exact⟨_,.bool b⟩|_,_,_,.int i,r=>by obtain⟨t,rfl⟩:=r;exact⟨_,.int i t⟩|_,_,_,.str x,r=>by obtain⟨t,rfl⟩:=r;exact⟨_,.str x t⟩|_,_,_,.lst (a:=a) h j,r=>by obtain rfl:_=Value.ref a:=r;obtain⟨k,l,⟨o,n,e,hc,_,hd⟩,_⟩:=I.list h;obtain⟨g,q⟩:=IsPs.reads I j l;exact⟨_,.list e hc hd (by simpa using q)⟩|_,_,_,.tup (a:=a) h j,r=>by obtain rfl:_=Value.ref a:=r;obtain⟨k,l,⟨o,e,hc,n,hd⟩,_⟩:=I.tuple h;obtain⟨g,q⟩:=IsPs.reads I j l;exact⟨_,.tuple e hc hd (by simpa using q)⟩
theorem IsPs.reads(I:aU X c f H s):∀{a:List V}{ds:List PyData}{d:Oj},IsPs X.K H a ds->bq a d->∃e,ReadsAll s.heap d ds e|_,_,_,.nil,r=>by cases r;exact⟨_,.nil⟩|_,_,_,.cons h b,r=>by cases r with|cons g r2=>obtain⟨e,q⟩:=Dt.reads I h g;obtain⟨bs,p⟩:=IsPs.reads I b r2;exact⟨_,.cons q p⟩
end
end
section
variable{X:Cx}
def Ls(K:Of):R2:=λx y H Q=>∃d e,Dt K H x d/\Dt K H y e/\SeqAt.shaped d=true/\SeqAt.shaped e=true/\Q (.bl (PyData.eqv d e)) H
def JP(c:X.A.units+64<cLine):lx X (compareOp .Eq) (Ls X.K):=by intro a s i H x y v u Q I b f h;obtain⟨d,e,h1,h2,h3,h4,q⟩:=h;obtain⟨j,g⟩:=h1.reads I b;obtain⟨bs,r2⟩:=h2.reads I f;exact eq_dataH g r2 h3 h4 c ⟨.bl _,H,I,rfl,q⟩
def Fp{A:Around}{k:Nat}(a:eQ k A):A.units+64<cLine:=by have:=a.un;lia
def tU(K:Of)(a:X.K=K)(c:X.A.units+64<cLine):lx X (compareOp .Eq) (Ls K):=by subst a;exact JP c
def FX(hc:X.calm=true):dk X (.builtin "sum") (λa H Q=>∃(p:Addr)(ns:Os),a=[.ref p]/\(be X.K H p (ns.map V.int)\/bj X.K H p (ns.map V.int))/\Q (.int ns.sum) H):=by
 intro j s o H a t Q I r h;obtain⟨p,ns,rfl,d,q⟩:=h;obtain⟨u,rfl,l⟩:=lB r;cases l;have k:∀{b:Oj},bq (ns.map V.int) b->∃a:Array (Int×Tok),b.toArray=intItems a/\preSum (numAt a) a.size=ns.sum:=λf=>by
  have hi:IntsAre _ ns:=AR f;obtain⟨a,c⟩:=hi.allInts.items;refine⟨a,c,?_⟩;have m:ns=a.toList.map (·.1):=by rw[<-nums_intItems,<-c];exact hi.numsOf.symm
  rw[preSum_eq,iA (by simp),m]
 rcases d with d|d
 ·obtain⟨b,f,pl,n⟩:=I.list d;obtain⟨a,c,e⟩:=k f;refine sum_intListG (I.ok.hd hc) (xs:=a) (c▸pl.isList) λh' tk g i=>?_;rw[e];exact⟨.int _,H,I.kept (h':=h') (t':=tk) i,⟨_,rfl⟩,q⟩
 ·obtain⟨b,f,pt,n⟩:=I.tuple d;obtain⟨a,c,e⟩:=k f;refine PySem.W.ktm_sumG (I.ok.hd hc) (xs:=a) (c▸pt) λh' tk g i=>?_;rw[e];exact⟨.int _,H,I.kept (h':=h') (t':=tk) i,⟨_,rfl⟩,q⟩
def Dj(K:Of)(a:X.K=K)(hc:X.calm=true):dk X (.builtin "sum") (λc H Q=>∃(p:Addr)(ns:Os),c=[.ref p]/\(be K H p (ns.map V.int)\/bj K H p (ns.map V.int))/\Q (.int ns.sum) H):=by subst a;exact FX hc
end
section
variable{X:Cx}
end
def bV(h:am d H)(hn:d a=none):am d (aD H a o):=λb f c=>by
 have:b≠a:=λe=>by rw[e,hn]at c;cases c
 rw[ao this];exact h b f c
def aq{a:Type}{c:List a}{k:Nat}{v:a}(h:c[k]?=some v):tM c (k:Int)=some v:=by have b:=(d_.mp h).1;unfold tM HB;rw[hA (by lia),hA (by lia)];exact h
def m9{ns:Os}{k:Int}(h0:0<=k)(h1:k<ns.length):tM (ns.map V.int) k=some (.int (ns.getD k.toNat 0)):=by obtain⟨n,rfl⟩:∃n:Nat,k=n:=⟨k.toNat,by lia⟩;refine aq ?_;rw[gg,fy (by lia)];simp only[op,List.getD,fy (show n<ns.length by lia)];rfl
def HA{n:Nat}{k:Int}(h0:0<=k)(h1:k<n):HB n k=some k.toNat:=by unfold HB;rw[hA h0,hA h1]
def zp(ns:Os)(j:Nat)(v:Int):(ns.map V.int).set j (.int v)=(ns.set j v).map V.int:=by rw[List.map_set]
def am.tseq{K:Of}{H c:Hp}{a:Addr}{d:List V}(e:am H c)(h:bj K H a d):bj K c a d:=by
 rcases h with h|h
 ·rcases h with h|⟨o,h⟩
  ·exact .inl (.inl (e _ _ h))
  ·exact .inl (.inr ⟨o,e _ _ h⟩)
 ·exact .inr h
@[irreducible]def ce:Int:=10^(30:Int).toNat
def yD:ce=10^(30:Int).toNat:=by unfold ce;rfl
def qP:1000000000000000000<ce:=by rw[yD];decide+kernel
section
variable{X:Cx}
def ml:lx X (binaryOp .Pow) (λx y H Q=>x=.int 10/\y=.int 30/\Q (.int ce) H):=by intro a s b H x y v u Q I c d h;obtain⟨rfl,rfl,q⟩:=h;rw[yD]at q;exact JO a s b H _ _ v u Q I c d ⟨10,30,rfl,rfl,⟨by decide,by decide,by decide⟩,q⟩
end
def lf{n i:Nat}{P:Prop}(hi:i<n)(h:P):∃a,a<n-i/\a=n-(i+1)/\i+1<=n/\P:=⟨_,by lia,rfl,hi,h⟩
def gS{K:Of}{lo:Int}{n:Nat}{g:TG}{ds:Op}{k:Nat}{tc:TT}{te:TE}{r:St}{s:Hp}{D:Addr}{F:Hp->Prop}(Pv:Nat->List V->Hp->Prop)(h0:Pv 0 [] (aD s D (.lst [])))(t:∀i a c,i<n->Pv i a c->g (.int (lo+i)) (iL ds k r) c λd o=>tc d o λb h=>if b=true then te d h λy j=>j D=some (.lst a)/\a.length<sizeLine/\∃f,f<n-i/\f=n-(i+1)/\i+1<=n/\Pv (i+1) (a++[y]) (aD j D (.lst (a++[y])))else∃f,f<n-i/\f=n-(i+1)/\i+1<=n/\Pv (i+1) a h)(hd:∀a c,Pv n a c->F c):∃W:Nat->Nat->List V->Hp->Prop,(∃m,W 0 m [] (aD s D (.lst [])))/\∀i m a c,W i m a c->((Gf lo n).stop i c/\F c)\/((Gf lo n).go i c/\∀x q,(Gf lo n).yld i c x q->g x (iL ds k r) q λd o=>tc d o λb h=>if b=true then te d h λy j=>j D=some (.lst a)/\a.length<sizeLine/\∃f,f<m/\W (i+1) f (a++[y]) (aD j D (.lst (a++[y])))else∃f,f<m/\W (i+1) f a h):=by
 refine⟨λi m a c=>m=n-i/\i<=n/\Pv i a c,⟨_,rfl,j_ _,h0⟩,?_⟩;rintro i m a c⟨rfl,hi,p⟩
 by_cases l:i<n
 ·refine .inr ⟨l,λx q y=>?_⟩;obtain⟨e,y⟩:=y;subst e y;exact t i a _ l p
 ·have e:i=n:=by lia
  subst e;exact .inl ⟨fx _,hd a c p⟩
def mZ{K:Of}{a:Addr}{xs:List V}{g:TG}{ds:Op}{k:Nat}{tc:TT}{te:TE}{s:St}{t:Hp}{D:Addr}{F:Hp->Prop}(Pv:Nat->List V->Hp->Prop)(h0:Pv 0 [] (aD t D (.lst [])))(u:∀i c d,i<=xs.length->Pv i c d->be K d a xs)(v:∀i x c d,xs[i]?=some x->Pv i c d->g x (iL ds k s) d λf n=>tc f n λb j=>if b=true then te f j λy l=>l D=some (.lst c)/\c.length<sizeLine/\∃h,h<xs.length-i/\h=xs.length-(i+1)/\i+1<=xs.length/\Pv (i+1) (c++[y]) (aD l D (.lst (c++[y])))else∃h,h<xs.length-i/\h=xs.length-(i+1)/\i+1<=xs.length/\Pv (i+1) c j)(hd:∀c d,Pv xs.length c d->F d):∃W:Nat->Nat->List V->Hp->Prop,(∃m,W 0 m [] (aD t D (.lst [])))/\∀i m c d,W i m c d->((IK K a).stop i d/\F d)\/((IK K a).go i d/\∀x o,(IK K a).yld i d x o->g x (iL ds k s) o λf n=>tc f n λb j=>if b=true then te f j λy l=>l D=some (.lst c)/\c.length<sizeLine/\∃h,h<m/\W (i+1) h (c++[y]) (aD l D (.lst (c++[y])))else∃h,h<m/\W (i+1) h c j):=by
 refine⟨λi m c d=>m=xs.length-i/\i<=xs.length/\Pv i c d,⟨_,rfl,j_ _,h0⟩,?_⟩;rintro i m c d⟨rfl,hi,p⟩;have q:=u i c d hi p
 by_cases r:i<xs.length
 ·refine .inr ⟨⟨xs,xs[i],q,by simp[r]⟩,λx o y=>?_⟩;obtain⟨e,y⟩:=y;subst e;exact v i x c _ (y xs q) p
 ·have e:i=xs.length:=by lia
  subst e;exact .inl ⟨⟨xs,q,fx _⟩,hd c d p⟩
def eY{K:Of}{a:Addr}{xs:List V}{g:TG}{ds:Op}{k:Nat}{tc:TT}{te:TE}{s:St}{t:Hp}{D:Addr}{F:Hp->Prop}(Pv:Nat->List V->Hp->Prop)(h0:Pv 0 [] (aD t D (.lst [])))(u:∀i c d,i<=xs.length->Pv i c d->bj K d a xs)(v:∀i x c d,xs[i]?=some x->Pv i c d->g x (iL ds k s) d λf n=>tc f n λb j=>if b=true then te f j λy l=>l D=some (.lst c)/\c.length<sizeLine/\∃h,h<xs.length-i/\h=xs.length-(i+1)/\i+1<=xs.length/\Pv (i+1) (c++[y]) (aD l D (.lst (c++[y])))else∃h,h<xs.length-i/\h=xs.length-(i+1)/\i+1<=xs.length/\Pv (i+1) c j)(hd:∀c d,Pv xs.length c d->F d):∃W:Nat->Nat->List V->Hp->Prop,(∃m,W 0 m [] (aD t D (.lst [])))/\∀i m c d,W i m c d->((IJ K a).stop i d/\F d)\/((IJ K a).go i d/\∀x o,(IJ K a).yld i d x o->g x (iL ds k s) o λf n=>tc f n λb j=>if b=true then te f j λy l=>l D=some (.lst c)/\c.length<sizeLine/\∃h,h<m/\W (i+1) h (c++[y]) (aD l D (.lst (c++[y])))else∃h,h<m/\W (i+1) h c j):=by
 refine⟨λi m c d=>m=xs.length-i/\i<=xs.length/\Pv i c d,⟨_,rfl,j_ _,h0⟩,?_⟩;rintro i m c d⟨rfl,hi,p⟩;have q:=u i c d hi p
 by_cases r:i<xs.length
 ·refine .inr ⟨⟨xs,xs[i],q,by simp[r]⟩,λx o y=>?_⟩;obtain⟨e,y⟩:=y;subst e;exact v i x c _ (y xs q) p
 ·have e:i=xs.length:=by lia
  subst e;exact .inl ⟨⟨xs,q,fx _⟩,hd c d p⟩
def FT{K:Of}{z:Str}{g:TG}{ds:Op}{k:Nat}{tc:TT}{te:TE}{r:St}{s:Hp}{D:Addr}{F:Hp->Prop}(Pv:Nat->List V->Hp->Prop)(h0:Pv 0 [] (aD s D (.lst [])))(t:∀i c a d,z.cps.toList[i]?=some c->Pv i a d->g (.str ⟨#[c]⟩) (iL ds k r) d λf n=>tc f n λb j=>if b=true then te f j λy l=>l D=some (.lst a)/\a.length<sizeLine/\∃h,h<z.cps.toList.length-i/\h=z.cps.toList.length-(i+1)/\i+1<=z.cps.toList.length/\Pv (i+1) (a++[y]) (aD l D (.lst (a++[y])))else∃h,h<z.cps.toList.length-i/\h=z.cps.toList.length-(i+1)/\i+1<=z.cps.toList.length/\Pv (i+1) a j)(hd:∀a d,Pv z.cps.toList.length a d->F d):∃W:Nat->Nat->List V->Hp->Prop,(∃m,W 0 m [] (aD s D (.lst [])))/\∀i m a d,W i m a d->((Ih z).stop i d/\F d)\/((Ih z).go i d/\∀x o,(Ih z).yld i d x o->g x (iL ds k r) o λf n=>tc f n λb j=>if b=true then te f j λy l=>l D=some (.lst a)/\a.length<sizeLine/\∃h,h<m/\W (i+1) h (a++[y]) (aD l D (.lst (a++[y])))else∃h,h<m/\W (i+1) h a j):=by
 refine⟨λi m a d=>m=z.cps.toList.length-i/\i<=z.cps.toList.length/\Pv i a d,⟨_,rfl,j_ _,h0⟩,?_⟩;rintro i m a d⟨rfl,hi,p⟩;have v:z.cps.toList.length=z.cps.size:=by simp
 by_cases q:i<z.cps.size
 ·refine .inr ⟨q,λy o u=>?_⟩;obtain⟨e,c,hc,rfl⟩:=u;subst e;exact t i c a _ (by simpa using hc) p
 ·have e:i=z.cps.toList.length:=by lia
  subst e;exact .inl ⟨by show z.cps.size<=_;lia,hd a d p⟩
section
variable{X:Cx}
end
def Fl{i j:Str}{A B:Prop}(h1:i=j->A)(h2:i≠j->B):if decide (V.str i=V.str j)=true then A else B:=by
 by_cases h:i=j
 ·subst h;rw[ji rfl];exact bp (h1 rfl)
 ·rw[i_ (λe=>h (V.str.inj e))];exact bN (h2 h)
end L2
namespace L2
open PySem PySem.Spec PyProof.Rows
abbrev fN(led:Bool):Obj:={cls:=.type "set",dict:=none,data:=.set #[] 0 (.fresh 0 0 led)}
def u8{a:Type}[BEq a](c:Nat->a)(i:Nat):List a:=((List.range i).map c).foldl step_dedup []
section
variable{a:Type}[DecidableEq a][BEq a][LawfulBEq a]
def wR(c:Nat->a)(i:Nat):u8 c (i+1)=step_dedup (u8 c i) (c i):=by show((List.range (i+1)).map c).foldl step_dedup []=_;rw[NI,g6,z0];rfl
def E3(c:Nat->a)(i:Nat):(u8 c i).length<=i:=by induction i with|zero=>exact fx 0|succ i b=>
  rw[wR];unfold step_dedup
  split
  ·exact H_ b
  ·rw[gV];exact Nw b
end
def qK(b:Bool)(h:Heap)(a:Addr)(c:Oo):Prop:=∃o,h.get? a=some o/\o.cls=.type (cond b "list" "tuple")/\∃n,o.data=.seq c n
def rZ(b:Bool)(h:Heap)(a l:Addr)(i:Nat):Prop:=∃o,h.get? a=some o/\o.cls=.type (cond b "list_iterator" "tuple_iterator")/\o.data=.fields #[.ref l,.int i 0]
def qK.at{b:Bool}{h h':Heap}{a:Addr}{c:Oo}(x:qK b h a c)(e:∀o,h.get? a=some o->h'.get? a=some o):qK b h' a c:=Exists.imp (λ_ r=>⟨e _ r.1,r.2⟩) x
def rZ.at{b:Bool}{h h':Heap}{a l:Addr}{i:Nat}(x:rZ b h a l i)(e:∀o,h.get? a=some o->h'.get? a=some o):rZ b h' a l i:=Exists.imp (λ_ r=>⟨e _ r.1,r.2⟩) x
section
variable{P:Ol}{w:World}{A:Around}{E:Og}{s:Shared}
def Bq{b:Bool}{l:Addr}{a:Oo}{Q:Og}(c:qK b s.heap l a)(q:Q (.ref s.heap.objs.size) {s with heap:=s.heap.push {cls:=.type (cond b "list_iterator" "tuple_iterator"),data:=.fields #[.ref l,.int 0 0]}}):wpAny (model P w) A (pyIter (.ref l)) Q E s:=by cases b with|false=>exact E2 c q|true=>exact Nh c q
end
end L2
namespace L2
open PySem PySem.Spec PyProof.Rows
instance(priority:=10000)keyBEq:BEq (Sum Int Str):=⟨λa b=>decide (a=b)⟩
instance(priority:=10000)keyLaw:LawfulBEq (Sum Int Str)where
 eq_of_beq:=λh=>md h
 rfl:=ji rfl
def dd{a:Type}[BEq a](c:List a):List a:=c.foldl step_dedup []
def Aq(a:List c)(d:c):(List.range a.length).map (λi=>a.getD i d)=a:=by refine List.ext_getElem (by simp) λi h1 h2=>?_;simp[List.getD,fy h2]
def Hn[BEq c](a:List c)(d:c):u8 (λi=>a.getD i d) a.length=dd a:=by unfold u8 dd;rw[Aq]
section
variable{X:Cx}
def Hx(r:bg (kV k) v):n9 k v=true/\v.scannable=true:=by cases k with|inl i=>obtain⟨t,rfl⟩:=r;exact⟨wX i t,rfl⟩|inr x=>obtain⟨t,rfl⟩:=r;exact⟨wW x t,rfl⟩
end
theorem mY[BEq c]:∀(d:List c)(a:List c),(d.foldl step_dedup a).length<=a.length+d.length
 |[],a=>fx _|k::r,a=>by
  have:=mY r (step_dedup a k);have h2:(step_dedup a k).length<=a.length+1:=by
   unfold step_dedup
   split
   ·exact qr _
   ·rw[gV];exact fx _
  rw[t0,k4];lia
theorem zJ[DecidableEq d][BEq d][LawfulBEq d]:∀(f c:List d),c.Nodup->((f.foldl step_dedup c).length=c.length+f.length↔(c++f).Nodup)
 |[],c,h=>by simp[h]|k::r,c,h=>by
  rw[t0]
  by_cases e:c.any (·==k)=true
  ·have g:step_dedup c k=c:=by unfold step_dedup;rw[hA e]
   have hm:k∈c:=by obtain⟨x,j,q⟩:=N8.mp e;rw[<-eq_of_beq q];exact j
   rw[g]
   constructor
   ·intro q;have:=mY r c;rw[k4]at q;lia
   ·intro q;rw[o8]at q;exact absurd rfl (q.2.2 k hm k (il))
  ·have g:step_dedup c k=c++[k]:=by unfold step_dedup;rw[g8 e]
   have hm:k∉c:=λl=>e (N8.mpr ⟨k,l,t6 k⟩);rw[g];have i:=zJ r (c++[k]) (by rw[o8];exact⟨h,by simp,λa m b n q=>hm (by rw[List.mem_singleton.mp n]at q;exact q▸m)⟩)
   rw[No]at i;rw[show c++k::r=c++([k]++r)by rfl,<-i,gV,k4,List.length_singleton]
   constructor<;>intro q<;>lia
def FN[DecidableEq c][BEq c][LawfulBEq c](a:List c):(dd a).length=a.length↔a.Nodup:=by have:=zJ a [] Nd;simp at this;unfold dd;exact this
end L2
namespace L2
open PySem
def DA(t:SetTable)(n:Nat):(t.orStandIn n).led=t.led/\(t.plain=false->(t.orStandIn n).plain=false):=by
 unfold SetTable.orStandIn
 split
 ·exact⟨rfl,id⟩
 ·exact⟨rfl,λ_=>rfl⟩
def IS(t:SetTable)(a:Array (Int×Value))(h:Int)(x:Value):(layNew t a h x).2.1.led=t.led/\(t.plain=false->(layNew t a h x).2.1.plain=false):=by
 unfold layNew
 split
 ·rename_i sl wd e;exact DA (t.put sl).1 _
 ·exact⟨rfl,λ_=>rfl⟩
def DB(t:SetTable)(a:Array (Int×Value))(n:Nat):(relayAll t a n).2.1.led=t.led/\(t.plain=false->(relayAll t a n).2.1.plain=false):=by
 unfold relayAll
 split
 ·rename_i b d e;have c:b.led=t.led/\b.plain=t.plain:=by unfold SetTable.relaid SetTable.laid at e;cases hc:SetTable.layClean (SetTable.sizeAbove n-1) (a.map (·.1))with|none=>rw[hc]at e;cases e|some ow=>rw[hc]at e;cases e;exact⟨rfl,rfl⟩
  dsimp only
  split
  ·exact⟨c.1,λh=>c.2.trans h⟩
  ·exact⟨rfl,λ_=>rfl⟩
 ·exact⟨rfl,λ_=>rfl⟩
def vf(h:l[i]?=some x):(x::l.eraseIdx i).Perm l:=by
 have a:=(d_.mp h).1;have b:=(d_.mp h).2;have e:l=l.take i++x::l.drop (i+1):=by rw[<-b,List.getElem_cons_drop,sg]
 rw[List.eraseIdx_eq_take_drop_succ];refine List.Perm.trans ?_ (Od e.symm);exact List.perm_middle.symm
def wM(next:Nat->Nat)(c:Array d):(pickOrder next c).toList.Perm c.toList:=by
 have go:∀(a k:Nat)(left:List d)(out:Array d),left.length<=a->(pickOrder.go next a k left out).toList.Perm (out.toList++left):=by
  intro a
  induction a with|zero=>intro k left out h;have:left=[]:=o0.mp (by lia);subst this;unfold pickOrder.go;rw[u1]|succ a e=>intro k left out h;unfold pickOrder.go;cases b:left[next k%left.length]?with
 |none=>
    have hn:left=[]:=by cases left with|nil=>rfl|cons y f=>have:=C2.mp b;have:=Nat.mod_lt (next k) (show 0<(y::f).length from p_ _);lia
    subst hn;rw[u1]|some x=>have g:=(d_.mp b).1;have i:=(d_.mp b).2;dsimp only;refine(e _ _ _ (by rw[List.length_eraseIdx];split<;>lia)).trans ?_;rw[N4,No];refine List.Perm.append_left _ ?_;show(x::left.eraseIdx (next k%left.length)).Perm left;exact vf b
 have:=go c.size 0 c.toList #[] (by simp);unfold pickOrder;simpa using this
end L2
namespace L2
open PySem
def ii:Slot "set_iterator" "__next__" "set_iterator.__next__":=.of (owner:="set_iterator") (n:="__next__") (by rw[NF,Ia];kernel_rfl) (by decide+kernel) (by decide+kernel) (by decide+kernel) (by first|exact .inl (by decide+kernel)|exact .inr (by decide+kernel)) (by rw[NO];kernel_rfl)
def tQ:Slot "set_iterator" "__iter__" "set_iterator.__iter__":=.of (owner:="set_iterator") (n:="__iter__") (by rw[NF,Ia];kernel_rfl) (by decide+kernel) (by decide+kernel) (by decide+kernel) (by first|exact .inl (by decide+kernel)|exact .inr (by decide+kernel)) (by rw[NO];kernel_rfl)
def yK:Manifest.owners.lookup (String.ofList ['r','o','t','a','r','e','t','i','_','t','e','s'].reverse)=some Manifest.sig_set_iterator:=by kernel_rfl
def kS(a:Value):argsOk "set_iterator.__next__" ⟨[a],[]⟩:=by unfold argsOk;rw[signature?_of (id:="set_iterator.__next__") (n:=['_','_','t','x','e','n','_','_']) (o:=['r','o','t','a','r','e','t','i','_','t','e','s']) (by kernel_rfl) yK];kernel_rfl
def oY(a:Value):argsOk "set_iterator.__iter__" ⟨[a],[]⟩:=by unfold argsOk;rw[signature?_of (id:="set_iterator.__iter__") (n:=['_','_','r','e','t','i','_','_']) (o:=['r','o','t','a','r','e','t','i','_','t','e','s']) (by kernel_rfl) yK];kernel_rfl
def jO:entryFor table "set_iterator.__next__"=some Builtin.«set_iterator.__next__»:=entryFor_of_tree (by kernel_rfl)
def nz:entryFor table "set_iterator.__iter__"=some Builtin.«dict_keyiterator.__iter__»:=entryFor_alias (id':="dict_keyiterator.__iter__") (by kernel_rfl) rfl (by decide+kernel) (by kernel_rfl)
def uj:entryFor table "set.__iter__"=some Builtin.«frozenset.__iter__»:=entryFor_alias (id':="frozenset.__iter__") (by kernel_rfl) rfl (by decide+kernel) (by kernel_rfl)
abbrev iD(first:Value)(i:Nat)(a:Addr)(n c:Nat):Obj:={cls:=.type "set_iterator",dict:=none,data:=.fields #[first,.int i 0,.ref a,.int n 0,.int c 0],slots:=#[]}
abbrev lC(a:Oj):Obj:={cls:=.type "tuple",dict:=none,data:=.seq a.toArray}
structure fQ(h:Heap)(a:Addr)(es:Array (Int×Value))(ep:Nat)(t:SetTable):Prop where
 ob:∃o,h.get? a=some o/\o.cls=.type "set"/\o.data=.set es ep t
 fits:t.fits es.size=true
def fQ.keep(x:fQ h a c d t)(k:∀o,h.get? a=some o->h'.get? a=some o):fQ h' a c d t:=⟨let⟨o,e,r⟩:=x.ob;⟨o,k o e,r⟩,x.fits⟩
def fQ.ty{s:Shared}{a:Addr}{d:Array (Int×Value)}{f:Nat}{t:SetTable}(x:fQ s.heap a d f t):s.TypeIs (.ref a) "set":=let⟨o,e,c,_⟩:=x.ob;⟨o,e,c⟩
section
variable{prog:Ol}{w:World}{A:Around}{E:Og}{s:Shared}
theorem vh:∀(n:Nat)(a:List f)(s:Shared)(Q:List f->Shared->Prop),a.length<=n->(∀c d,c.Perm a->Q c {s with drawn:=d})->wpAny (model prog w) A (drawOrder n a) Q E s
 |0,a,s,Q,e,h=>by have:a=[]:=o0.mp (by lia);subst this;unfold drawOrder;exact e_ (h [] s.drawn (NR _))|n+1,[],s,Q,e,h=>by unfold drawOrder;exact e_ (h [] s.drawn (NR _))|n+1,x::r,s,Q,e,h=>by
  unfold drawOrder;refine a_ (m:=choose .order (x::r).length) (λΓ p g=>?_);unfold choose;rw[Sem.wp_choose];refine⟨Nat.succ_ne_zero _,?_⟩;have hi:w.draws .order (s.drawn.get .order)%(x::r).length<(x::r).length:=Nat.mod_lt _ (p_ _);have b:wpAny (model prog w) A (match(x::r)[w.draws .order (s.drawn.get .order)%(x::r).length]?with|some y=>do return y::(<-drawOrder n ((x::r).eraseIdx (w.draws .order (s.drawn.get .order)%(x::r).length)))|none=>unsupported "internal:drawOrder") Q E {s with drawn:=s.drawn.bump .order}:=by generalize w.draws .order (s.drawn.get .order)%(x::r).length=i at hi⊢;rw[fy hi];refine a_ (vh n _ _ _ (by rw[List.length_eraseIdx,hA hi];lia) λc d j=>?_);exact e_ (h _ _ ((List.Perm.cons _ j).trans (vf (fy hi))))
  exact b
set_option maxHeartbeats 4000000 in
def Fk{a:Addr}{c:Array (Int×Value)}{h:Nat}{t:SetTable}{Q:Og}(e:fQ s.heap a c h t)(hn:c.size<=sizeLine)(h1:(!w.params.followText "set-order"&&(!t.plain&&decide (c.size>1)))=false->Q (.ref s.heap.objs.size) {s with heap:=s.heap.push (iD (.int 0 0) 0 a c.size h)})(h2:(!w.params.followText "set-order"&&(!t.plain&&decide (c.size>1)))=true->∀(d:Op)(f:Drawn),d.Perm (List.range c.size)->Q (.ref (s.heap.objs.size+1)) {s with heap:=(s.heap.push (lC (d.map λ(i:Nat)=>Value.int (i:Int) 0))).push (iD (.ref s.heap.objs.size) 0 a c.size h),drawn:=f}):wpAny (model prog w) A (pyIter (.ref a)) Q E s:=by obtain⟨o,b,hc,hd⟩:=e.ob;have g:=e.fits;refine NY e.ty F.slot_set_iter (n7 F.slot_set_iter e.ty uj ?_ (F.args_set_iter_1 _));unfold Builtin.«frozenset.__iter__»;refine a_ (m:=Builtin.Frozenset.slot0 "__iter__" _) (a_ (m:=slotArgs "__iter__" 0 _) (e_ (e_ ?_)));refine a_ (m:=Builtin.Frozenset.sizeOf a) (a_ (M9 b hd g (e_ ?_)));refine a_ (m:=setDrawn a) (a_ (y_ b hd g (a_ (a_ (A_ (e_ ?_))))));refine e_ ?_;dsimp only;show wpAny _ _ (if(!w.params.followText "set-order"&&(!t.plain&&decide (c.size>1)))=true then _ else _) _ _ s;cases hc:(!w.params.followText "set-order"&&(!t.plain&&decide (c.size>1)))with|false=>rw[g8 hF];refine a_ (e_ ?_);refine a_ (wpAny_setEpoch_of b hd g ?_);refine a_ (oa (e_ ⟨_,rfl,"set_iterator",_,⟨_,ge _ rfl,rfl⟩,ii.lookup,?_⟩));exact h1 hc|true=>
  rw[hA rfl];refine a_ (vh c.size (List.range c.size) s _ (by rw[ol];exact fx _) λd f k=>?_);have l:d.length=c.size:=by rw[k.length_eq,ol]
  refine a_ (oa ?_ (by show(d.map λ(i:Nat)=>rawInt i).toArray.size<=sizeLine;rw[hQ,b_,l];exact hn));have j:(s.heap.push (lC (d.map λ(i:Nat)=>Value.int (i:Int) 0))).get? a=some o:=c_ _ b;refine a_ (wpAny_setEpoch_of (s:={s with heap:=s.heap.push (lC (d.map λ(i:Nat)=>Value.int (i:Int) 0)),drawn:=f}) j hd g ?_);refine a_ (oa (e_ ⟨_,rfl,"set_iterator",_,⟨_,ge _ rfl,rfl⟩,ii.lookup,?_⟩));have:=h2 hc d f k;rw[show s.heap.objs.size+1=(s.heap.push (lC (d.map λ(i:Nat)=>Value.int (i:Int) 0))).objs.size from(nB ..).symm]at this;exact this
def CL{I a:Addr}{d:Array (Int×Value)}{c i slot nx:Nat}{t:SetTable}{x:Value}{Q:Option Value->Shared->Prop}(e:s.heap.get? I=some (iD (.int slot 0) i a d.size c))(f:fQ s.heap a d c t)(hn:∀(A:Around)(g:Option (Value×Nat)->Shared->Prop)(E:Og),g (some (x,nx)) s->wpAny (model prog w) A (setNext a slot i c) g E s)(h:∀h',h'.get? I=some (iD (.int nx 0) (i+1) a d.size c)->Heap.SameBut I s.heap h'->Q (some x) {s with heap:=h'}):wpAny (model prog w) A (pyNext (.ref I)) Q E s:=by obtain⟨o,j,hc,hd⟩:=f.ob;have ty:s.TypeIs (.ref I) "set_iterator":=⟨_,e,rfl⟩;unfold pyNext;refine a_ (D1 (oD (name:=Str.ofString "__next__") ty ii (n7 ii ty jO ?_ (kS _))));unfold Builtin.«set_iterator.__next__»;refine a_ (m:=slotArgs "__next__" 0 _) (e_ ?_);refine a_ (wpAny_fieldsOf e rfl ?_);show wpAny _ _ (setEntries a>>=_) _ _ s;refine a_ (M9 j hd f.fits ?_);rw[g8 (by simp)];refine a_ (m:=setNext a slot i c) (hn _ _ _ ?_);refine a_ (o_ e (by simp) λh1 k b1=>?_);refine a_ (o_ (s:={s with heap:=h1}) k (by simp) λh2 l b2=>?_);refine e_ ⟨_,rfl,e_ (h h2 ?_ (b1.trans b2))⟩;rw[l];rfl
def AC{I T a:Addr}{c:Array (Int×Value)}{d i:Nat}{e:Op}{j:Nat}{t:SetTable}{x:Int×Value}{Q:Option Value->Shared->Prop}(f:s.heap.get? I=some (iD (.ref T) i a c.size d))(g:fQ s.heap a c d t)(n:s.heap.get? T=some (lC (e.map λ(i:Nat)=>Value.int (i:Int) 0)))(p:e[i]?=some j)(q:c[j]?=some x)(r:∀h',h'.get? I=some (iD (.ref T) (i+1) a c.size d)->Heap.SameBut I s.heap h'->Q (some x.2) {s with heap:=h'}):wpAny (model prog w) A (pyNext (.ref I)) Q E s:=by
 obtain⟨o,k,hc,hd⟩:=g.ob;have ty:s.TypeIs (.ref I) "set_iterator":=⟨_,f,rfl⟩;unfold pyNext;refine a_ (D1 (oD (name:=Str.ofString "__next__") ty ii (n7 ii ty jO ?_ (kS _))));unfold Builtin.«set_iterator.__next__»;refine a_ (m:=slotArgs "__next__" 0 _) (e_ ?_);refine a_ (wpAny_fieldsOf f rfl ?_);show wpAny _ _ (setEntries a>>=_) _ _ s;refine a_ (M9 k hd g.fits ?_);rw[g8 (by simp)];show wpAny _ _ (seqItems? (.ref T)>>=_) _ _ s;refine a_ (ro n rfl ?_);have b:(e.map λ(i:Nat)=>Value.int (i:Int) 0).toArray[(i:Int).toNat]?=some (.int (j:Nat) 0):=by rw[NM,gg,op,p];rfl
 show wpAny _ _ (match(e.map λ(i:Nat)=>Value.int (i:Int) 0).toArray[(i:Int).toNat]?with|some (.int h _)=>_|some _=>_|none=>_) _ _ s;rw[b];refine a_ (m:=setNextDrawn a j d) ?_;unfold setNextDrawn;refine a_ (y_ k hd g.fits ?_);dsimp only;rw[g8 (by simp)];rw[q];refine e_ ?_;refine a_ (o_ f (by simp) λh1 u b1=>?_);refine e_ ⟨_,rfl,e_ (r h1 ?_ b1)⟩;rw[u];rfl
end
end L2
namespace L2
open PySem
def gr(a:Array Nat):Prop:=∀i j:Nat,i<j->j<a.size->a.getD i 0<a.getD j 0
def FA{a:Array Nat}{i:Nat}(h:i<a.size)(d:Nat):a.getD i d=a.getD i 0:=by simp[Array.getD,h]
def gr.le(r:gr a)(h:i<=j)(c:j<a.size):a.getD i 0<=a.getD j 0:=by
 rcases ND i j with q|q
 ·exact vl (r i j q c)
 ·have:i=j:=by lia
  rw[this];exact fx _
theorem vp{a:Array Nat}(r:gr a)(j:Nat):∀(fuel lo hi:Nat),hi-lo<=fuel->lo<=hi->hi<=a.size->(∀k,k<lo->a.getD k 0<j)->(∀k,hi<=k->k<a.size->¬a.getD k 0<j)->SetTable.below.go a j fuel lo hi<=a.size/\(∀k,k<SetTable.below.go a j fuel lo hi->a.getD k 0<j)/\(∀k,SetTable.below.go a j fuel lo hi<=k->k<a.size->¬a.getD k 0<j)
 |0,lo,hi,g,h,c,h1,h2=>by
  unfold SetTable.below.go;have:lo=hi:=by lia
  subst this;exact⟨c,h1,h2⟩|fuel+1,lo,hi,g,h,c,h1,h2=>by
  unfold SetTable.below.go
  by_cases b:lo<hi
  ·rw[hA b];have hm:(lo+hi)/2<a.size:=by lia
   dsimp only;rw[FA hm j]
   by_cases d:a.getD ((lo+hi)/2) 0<j
   ·rw[hA d];exact vp r j fuel _ _ (by lia) (by lia) c (λk f=>Nc (r.le (by lia) hm) d) h2
   ·rw[g8 d];exact vp r j fuel _ _ (by lia) (by lia) (by lia) h1 (λk f e q=>d (Nc (r.le f e) q))
  ·rw[g8 b];have:lo=hi:=by lia
   subst this;exact⟨c,h1,h2⟩
def rO(r:gr a)(j:Nat):SetTable.below a j<=a.size/\(∀k,k<SetTable.below a j->a.getD k 0<j)/\(∀k,SetTable.below a j<=k->k<a.size->¬a.getD k 0<j):=vp r j a.size 0 a.size (by lia) (j_ _) (fx _) (λk b=>absurd b (Oa _)) (λk h1 h2=>absurd h2 (by lia))
def Ei(a:Array Nat):Nat->Nat|0=>0|i+1=>a.getD i 0+1
def vo(r:gr a):∀{i:Nat},i<=a.size->SetTable.below a (Ei a i)=i
 |0,_=>by
  obtain⟨h1,h2,h3⟩:=rO r 0;rcases Nat.eq_zero_or_pos (SetTable.below a 0)with q|q
  ·exact q
  ·exact absurd (h2 0 q) (Oa _)|i+1,hi=>by
  obtain⟨h1,h2,h3⟩:=rO r (a.getD i 0+1);show SetTable.below a (a.getD i 0+1)=i+1;rcases Nat.lt_trichotomy (SetTable.below a (a.getD i 0+1)) (i+1)with q|q|q
  ·exact absurd (rm _) (h3 i (by lia) (by lia))
  ·exact q
  ·have:=h2 (i+1) q;have:=r i (i+1) (rm _) (by lia);lia
def gr.few{a:Array Nat}(h:a.size<=1):gr a:=λi j h1 h2=>by lia
section
variable{prog:Ol}{w:World}{A:Around}{E:Og}{s:Shared}
def o7(c:fQ s.heap a g d t)(f:w.params.followText "set-order"=true)(h:Q (((pickOrder (w.params.setOrder a d) g)[i]?).map λe=>(e.2,slot)) s):wpAny (model prog w) A (setNext a slot i d) Q E s:=by obtain⟨o,b,hc,hd⟩:=c.ob;unfold setNext;refine a_ (y_ b hd c.fits ?_);dsimp only;refine a_ (m:=setsByText) (a_ (A_ (e_ ?_)));show wpAny _ _ (if(w.params.followText "set-order")=true then _ else _) _ _ s;rw[hA f,g8 (by simp)];refine a_ (m:=setWalk a) ?_;unfold setWalk;refine a_ (y_ b hd c.fits ?_);dsimp only;refine a_ (m:=setsByText) (a_ (A_ (e_ ?_)));show wpAny _ _ (if(w.params.followText "set-order")=true then _ else _) _ _ s;rw[hA f];refine a_ (A_ (e_ ?_));exact e_ h
def o9(d:fQ s.heap a c e t)(f:w.params.followText "set-order"=false)(g:(!t.plain&&decide (c.size>1))=false)(l:t.led=true)(h:Q (match c[SetTable.below t.place slot]?,t.place[SetTable.below t.place slot]?with|some (_,x),some j=>some (x,j+1)|_,_=>none) s):wpAny (model prog w) A (setNext a slot i e) Q E s:=by obtain⟨o,b,hc,hd⟩:=d.ob;unfold setNext;refine a_ (y_ b hd d.fits ?_);dsimp only;refine a_ (m:=setsByText) (a_ (A_ (e_ ?_)));show wpAny _ _ (if(w.params.followText "set-order")=true then _ else _) _ _ s;rw[g8 (by rw[f];exact hF)];show wpAny _ _ (if(!t.plain&&decide (c.size>1))=true then _ else _) _ _ s;rw[g8 (by rw[g];exact hF)];refine a_ ?_;show wpAny _ _ (if(!t.led&&!c.isEmpty)=true then _ else _) _ _ s;rw[g8 (by rw[l];simp)];exact e_ (e_ h)
def zj(hh:A.handled=none)(f:s.heap.get? I=some (iD first i a q.size g))(l:fQ s.heap a q g t)(hn:(∃slot:Nat,first=.int slot 0/\∀(A:Around)(n:Option (Value×Nat)->Shared->Prop)(E:Og),n none s->wpAny (model prog w) A (setNext a slot i g) n E s)\/∃(T:Addr)(d:Op),first=.ref T/\s.heap.get? T=some (lC (d.map λ(i:Nat)=>Value.int (i:Int) 0))/\d[i]?=none)(r:∀h',(∀b o,b≠I->s.heap.get? b=some o->h'.get? b=some o)->Q none {s with heap:=h'}):wpAny (model prog w) A (pyNext (.ref I)) Q E s:=by
 obtain⟨o,u,hc,hd⟩:=l.ob;have ty:s.TypeIs (.ref I) "set_iterator":=⟨_,f,rfl⟩;have fin:∀(R:Fin->Shared->Prop)(h1:Heap),(∀b o,b≠I->s.heap.get? b=some o->h1.get? b=some o)->wpAny (model prog w) A.in1 (newExc (.type "StopIteration") []>>=λe=>raiseNew e:Sem Fin) R (λe v=>wpAny (model prog w) A (do if<-isInstance e (.type "StopIteration")then pure none else throw e) Q E v) {s with heap:=h1}:=by intro R h1 k1;refine a_ ?_;simp only[newExc,newTuple];refine a_ (oa ?_ (by size_fits));refine a_ (m:=firstArgMember _ _) (wpAny_of_eq (a:=Value.none) (by first|rfl|(simp only[firstArgMember];rfl)) ?_);refine oa ?_ (by size_fits);simp only[raiseNew];refine a_ (wpAny_handled ?_);rw[show A.in1.handled=none from hh];refine a_ (e_ (wpAny_throw ?_));refine a_ (I_ (T:="StopIteration") (b:=true) ⟨_,ge _ rfl,rfl⟩ isSubtype_stop ?_);exact e_ (r _ λb o c e=>c_ _ (c_ _ (k1 b o c e)))
 unfold pyNext;refine a_ (D1 (oD (name:=Str.ofString "__next__") ty ii (n7 ii ty jO ?_ (kS _))));unfold Builtin.«set_iterator.__next__»;refine a_ (m:=slotArgs "__next__" 0 _) (e_ ?_);refine a_ (wpAny_fieldsOf f rfl ?_);show wpAny _ _ (setEntries a>>=_) _ _ s;refine a_ (M9 u hd l.fits ?_);rw[g8 (by simp)];rcases hn with⟨slot,rfl,hn⟩|⟨T,d,rfl,x,y⟩
 ·refine a_ (m:=setNext a slot i g) (hn _ _ _ ?_);refine a_ (o_ f (by simp) λh1 p b1=>?_);exact fin _ h1 λb o c e=>(b1.2 b c).trans e
 ·show wpAny _ _ (seqItems? (.ref T)>>=_) _ _ s;refine a_ (ro x rfl ?_);have h:(d.map λ(i:Nat)=>Value.int (i:Int) 0).toArray[(i:Int).toNat]?=none:=by rw[NM,gg,op,y];rfl
  show wpAny _ _ (match(d.map λ(i:Nat)=>Value.int (i:Int) 0).toArray[(i:Int).toNat]?with|some (.int j _)=>_|some _=>_|none=>_) _ _ s;rw[h];refine a_ (o_ f (by simp) λh1 p b1=>?_);refine a_ (o_ (s:={s with heap:=h1}) p (by simp) λh2 z b2=>?_);exact fin _ h2 λb o c e=>(b2.2 b c).trans ((b1.2 b c).trans e)
def Dv(hh:A.handled=none)(L:fQ s.heap a c f t)(hn:c.size<=sizeLine)(hl:w.params.followText "set-order"=false->t.led=true)(hr:t.plain=true->gr t.place)(h:∀(I:Addr)(h':Heap)(S:Drawn)(ord:List (Int×Value))(fp:Oq)(St:Nat->Heap->Prop),ord.Perm c.toList->(∀b o,s.heap.get? b=some o->h'.get? b=some o)->s.heap.objs.size<=I->I<h'.objs.size->(∀b∈fp,b=a\/s.heap.objs.size<=b)->Walks prog w A I fp [I] c.size (λi v=>∃x,ord[i]?=some x/\v=x.2) St->St 0 h'->Q (.ref I) {s with heap:=h',drawn:=S}):wpAny (model prog w) A (pyIter (.ref a)) Q E s:=by
 have ha:a<s.heap.objs.size:=let⟨o,e,_⟩:=L.ob;g_ e;have T:t.place.size=c.size:=by have:=L.fits;unfold SetTable.fits at this;simp only[kw,beq_iff_eq]at this;exact this.1
 refine Fk L hn (λhc=>?_) (λhc p S K=>?_)
 ·--by slots
  have M:∀b o,s.heap.get? b=some o->(s.heap.push (iD (.int 0 0) 0 a c.size f)).get? b=some o:=λb o e=>c_ _ e;have hg:(s.heap.push (iD (.int 0 0) 0 a c.size f)).get? s.heap.objs.size=some (iD (.int 0 0) 0 a c.size f):=ge _ rfl;have U:s.heap.objs.size<(s.heap.push (iD (.int 0 0) 0 a c.size f)).objs.size:=by rw[nB];exact rm _
  have G:a≠s.heap.objs.size:=ig ha;have B:∀(first:Nat->Nat)(ord:List (Int×Value)),first 0=0->ord.Perm c.toList->(∀(i:Nat)(d:Shared)(x:Int×Value),ord[i]?=some x->fQ d.heap a c f t->∀(A:Around)(C:Option (Value×Nat)->Shared->Prop)(E:Og),C (some (x.2,first (i+1))) d->wpAny (model prog w) A (setNext a (first i) i f) C E d)->(∀(d:Shared),fQ d.heap a c f t->∀(A:Around)(C:Option (Value×Nat)->Shared->Prop)(E:Og),C none d->wpAny (model prog w) A (setNext a (first c.size) c.size f) C E d)->Q (.ref s.heap.objs.size) {s with heap:=s.heap.push (iD (.int 0 0) 0 a c.size f)}:=by
   intro first ord f0 K hi hd;have V:ord.length=c.size:=by rw[K.length_eq,j2]
   refine h s.heap.objs.size _ s.drawn ord [s.heap.objs.size,a] (λi h'=>h'.get? s.heap.objs.size=some (iD (.int (first i) 0) i a c.size f)/\fQ h' a c f t) K M (fx _) U ?_ ?_ ?_
   ·intro b g;simp only[q_,n_,D_]at g;rcases g with rfl|rfl
    ·exact .inr (fx _)
    ·exact .inl rfl
   ·refine{sub:=λb g=>?_,frame:=λi h1 h2 st k=>?_,item:=λi d N O W st q=>?_,done:=λd N O st q=>?_,self:=λi d N O st q=>?_}
    ·rw[List.mem_singleton.mp g];exact il
    ·exact⟨k _ il _ st.1,st.2.keep λo e=>k _ (hY _ il) _ e⟩
    ·obtain⟨x,m⟩:∃x,ord[i]?=some x:=⟨ord[i]'(by lia),fy (by lia)⟩;refine CL (nx:=first (i+1)) st.1 st.2 (hi i d x m st.2) λh2 X b2=>?_;exact q x.2 h2 d.toks ⟨x,m,rfl⟩ ⟨X,st.2.keep λo e=>(b2.2 _ G).trans e⟩ λb o g e=>(b2.2 b λz=>g (by rw[z];exact List.mem_singleton.mpr rfl)).trans e
    ·refine zj hh st.1 st.2 (.inl ⟨_,rfl,hd d st.2⟩) λh2 k2=>?_;exact q h2 d.toks λb o g e=>k2 b o (λz=>g (by rw[z];exact List.mem_singleton.mpr rfl)) e
    ·have ty:d.TypeIs (.ref s.heap.objs.size) "set_iterator":=⟨_,st.1,rfl⟩;refine NY ty tQ (n7 tQ ty nz ?_ (oY _));exact e_ ⟨_,rfl,"set_iterator",_,ty,ii.lookup,q⟩
   ·rw[f0];exact⟨hg,L.keep λo e=>M _ _ e⟩
  cases H:w.params.followText "set-order"with
 |true=>
   have V:(pickOrder (w.params.setOrder a f) c).toList.length=c.size:=by rw[(wM _ _).length_eq,j2]
   refine B (λ_=>0) (pickOrder (w.params.setOrder a f) c).toList rfl (wM _ _) (λi d x m u A C E q=>?_) (λd u A C E q=>?_)
   ·refine o7 u H ?_;have m:(pickOrder (w.params.setOrder a f) c)[i]?=some x:=by rw[<-sm];exact m
    rw[m];exact q
   ·refine o7 u H ?_;have m:(pickOrder (w.params.setOrder a f) c)[c.size]?=none:=by rw[<-sm];exact C2.mpr (by lia)
    rw[m];exact q|false=>
   have D:(!t.plain&&decide (c.size>1))=false:=by rw[H]at hc;simpa using hc
   have rs:gr t.place:=by cases F:t.plain with|true=>exact hr F|false=>rw[F]at D;refine gr.few ?_;rw[T];simpa using D
   refine B (Ei t.place) c.toList rfl (NR _) (λi d x m u A C E q=>?_) (λd u A C E q=>?_)
   ·have m:c[i]?=some x:=by rw[<-sm];exact m
    have hi:i<c.size:=(Array.getElem?_eq_some_iff.mp m).1;refine o9 u H D (hl H) ?_;rw[vo rs (by lia),m];have F:t.place[i]?=some (t.place.getD i 0):=by rw[r4 (by lia)];simp[Array.getD,show i<t.place.size by lia]
    rw[F];exact q
   ·refine o9 u H D (hl H) ?_;rw[vo rs (by lia)];rw[show c[c.size]?=none from Array.getElem?_eq_none (fx _)];exact q
 ·--drawn
  have Y:(s.heap.push (lC (p.map λ(i:Nat)=>Value.int (i:Int) 0))).get? s.heap.objs.size=some (lC (p.map λ(i:Nat)=>Value.int (i:Int) 0)):=ge _ rfl;have hz:(s.heap.push (lC (p.map λ(i:Nat)=>Value.int (i:Int) 0))).objs.size=s.heap.objs.size+1:=nB ..;have M:∀b o,s.heap.get? b=some o->((s.heap.push (lC (p.map λ(i:Nat)=>Value.int (i:Int) 0))).push (iD (.ref s.heap.objs.size) 0 a c.size f)).get? b=some o:=λb o e=>c_ _ (c_ _ e);have hg:((s.heap.push (lC (p.map λ(i:Nat)=>Value.int (i:Int) 0))).push (iD (.ref s.heap.objs.size) 0 a c.size f)).get? (s.heap.objs.size+1)=some (iD (.ref s.heap.objs.size) 0 a c.size f):=by rw[<-hz];exact ge _ rfl
  have aa:p.length=c.size:=by rw[K.length_eq,ol]
  have P:∀(i j:Nat),p[i]?=some j->j<c.size:=λi j q=>by have:=K.mem_iff.mp (f_ q);exact oi.mp this
  refine h (s.heap.objs.size+1) _ S (p.filterMap λj=>c[j]?) [s.heap.objs.size+1,a,s.heap.objs.size] (λi h'=>h'.get? (s.heap.objs.size+1)=some (iD (.ref s.heap.objs.size) i a c.size f)/\fQ h' a c f t/\h'.get? s.heap.objs.size=some (lC (p.map λ(i:Nat)=>Value.int (i:Int) 0))) ?_ M (qr _) ?_ ?_ ?_ ?_
  ·have:=K.filterMap (λj=>c[j]?);rw[filterMap_getElem?_range]at this;exact this
  ·rw[nB,hz];exact rm _
  ·intro b g;simp only[q_,n_,D_]at g;rcases g with rfl|rfl|rfl
   ·exact .inr (qr _)
   ·exact .inl rfl
   ·exact .inr (fx _)
  ·have G:a≠s.heap.objs.size+1:=ig (u_ ha);have R:∀(i:Nat)(j:Nat)(x:Int×Value),p[i]?=some j->c[j]?=some x->(p.filterMap λj=>c[j]?)[i]?=some x:=by
    have gen:∀(l:Op),(∀j∈l,j<c.size)->∀(i j:Nat)(x:Int×Value),l[i]?=some j->c[j]?=some x->(l.filterMap λj=>c[j]?)[i]?=some x:=by
     intro l
     induction l with|nil=>intro _ i j x hi _;simp at hi|cons y r ih=>intro g i j x hi m;have hy:c[y]?=some (c[y]'(g y il)):=r4 _;rw[List.filterMap_cons_some hy];cases i with|zero=>simp only[List.getElem?_cons_zero,Nj]at hi⊢;subst hi;rw[hy]at m;exact j1 m|succ i=>simp only[List.getElem?_cons_succ]at hi⊢;exact ih (λj J=>g j (hY _ J)) i j x hi m
    intro i j x h1 h2;refine gen p (λj J=>?_) i j x h1 h2;obtain⟨n,hn⟩:=h_.mp J;exact P n j hn
   refine{sub:=λb g=>?_,frame:=λi h1 h2 st k=>?_,item:=λi d N O W st q=>?_,done:=λd N O st q=>?_,self:=λi d N O st q=>?_}
   ·rw[List.mem_singleton.mp g];exact il
   ·exact⟨k _ il _ st.1,st.2.1.keep λo e=>k _ (hY _ il) _ e,k _ (hY _ (hY _ il)) _ st.2.2⟩
   ·obtain⟨j,J⟩:∃j,p[i]?=some j:=⟨p[i]'(by lia),fy (by lia)⟩;have Z:=P i j J;have m:c[j]?=some (c[j]'Z):=r4 _;refine AC st.1 st.2.1 st.2.2 J m λh2 X b2=>?_;exact q _ h2 d.toks ⟨_,R i j _ J m,rfl⟩ ⟨X,st.2.1.keep λo e=>(b2.2 _ G).trans e,(b2.2 _ (ig (rm _))).trans st.2.2⟩ λb o g e=>(b2.2 b λz=>g (by rw[z];exact List.mem_singleton.mpr rfl)).trans e
   ·refine zj hh st.1 st.2.1 (.inr ⟨_,p,rfl,st.2.2,C2.mpr (by lia)⟩) λh2 k2=>?_;exact q h2 d.toks λb o g e=>k2 b o (λz=>g (by rw[z];exact List.mem_singleton.mpr rfl)) e
   ·have ty:d.TypeIs (.ref (s.heap.objs.size+1)) "set_iterator":=⟨_,st.1,rfl⟩;refine NY ty tQ (n7 tQ ty nz ?_ (oY _));exact e_ ⟨_,rfl,"set_iterator",_,ty,ii.lookup,q⟩
  ·exact⟨hg,L.keep λo e=>M _ _ e,c_ _ Y⟩
end
end L2
namespace L2
open PySem
section
variable{prog:Ol}{w:World}{A:Around}{E:Og}{s:Shared}
def Ft(ty:s.TypeIs (.ref a) "set")(h:Q false s):wpAny (model prog w) A (Builtin.List.listLengthHint (.ref a)) Q E s:=by
 unfold Builtin.List.listLengthHint;refine a_ (NE ty F.slot_set_len.lookup ?_);generalize c:("set.__len__":String)=nm
 wp_delta
 rw[show splitId nm=some ("set","__len__")from by subst c;decide+kernel];subst c;refine a_ (I_ (T:="set") (b:=true) ty (by rw[NO];kernel_rfl) ?_);refine rd (λz=>absurd z (by decide)) (λ_=>?_);refine rd (λ_=>?_) (λz=>absurd (by decide+kernel) z);exact a_ (NX ty (e_ h))
def zM(hh:A.handled=none)(S:fQ s.heap a l Z t)(hn:l.size<=sizeLine)(hl:w.params.followText "set-order"=false->t.led=true)(p:t.plain=true->gr t.place)(h:∀(h':Heap)(d':Drawn)(tk:Nat)(X:Oj),X.Perm (l.toList.map (·.2))->(∀b o,s.heap.get? b=some o->h'.get? b=some o)->s.heap.objs.size<=h'.objs.size->R X {s with heap:=h',drawn:=d',toks:=tk}):wpAny (model prog w) A (collect (.ref a)) R E s:=by
 have K:a<s.heap.objs.size:=let⟨o,e,_⟩:=S.ob;g_ e;unfold collect;refine a_ (wpAny_runValue (x_ F.entry_proto_collect ?_));rw[z_ F.plain_proto_collect _];refine a_ (m:=newList []) (oa ?_);refine e_ ⟨L_ F.plain_list_iadd _,x_ F.entry_list_iadd ?_⟩;rw[z_ F.plain_list_iadd _];have U:(s.heap.push {cls:=.type "list",data:=.seq ([]:Oj).toArray}).get? s.heap.objs.size=some {cls:=.type "list",data:=.seq #[]}:=ge _ rfl;have g:fQ (s.heap.push {cls:=.type "list",data:=.seq ([]:Oj).toArray}) a l Z t:=S.keep λo e=>c_ _ e;have j:(s.heap.push {cls:=.type "list",data:=.seq ([]:Oj).toArray}).objs.size=s.heap.objs.size+1:=nB ..;have L:∀b o,s.heap.get? b=some o->(s.heap.push {cls:=.type "list",data:=.seq ([]:Oj).toArray}).get? b=some o:=λb o e=>c_ _ e;generalize s.heap.push {cls:=.type "list",data:=.seq ([]:Oj).toArray}=h0 at U g j L⊢;show wpAny _ A.in1 (Builtin.List.listExtendWith (.ref s.heap.objs.size) (.ref a) (.ref s.heap.objs.size)) _ _ {s with heap:=h0};unfold Builtin.List.listExtendWith;refine a_ (NX (T:="set") (s:={s with heap:=h0}) g.ty ?_);have ne:Builtin.List.listSameRef (.ref s.heap.objs.size) (.ref a)=false:=by simp[Builtin.List.listSameRef,me K]
 rw[g8 (by rw[ne];decide)];refine a_ (Dv (s:={s with heap:=h0}) (A:=A.in1) hh g hn hl p λI h1 n ord fp St V k1 hI aa u W st=>?_);refine a_ (mu (Ft (s:={s with heap:=h1,drawn:=n}) (g.keep λo e=>k1 _ _ e).ty ?_));have M:=k1 _ _ U;have Y:ord.length=l.size:=by rw[V.length_eq,j2]
 have k:∀(h2:Heap)(c:Nat),St 0 h2->(∀b o,s.heap.get? b=some o->h2.get? b=some o)->h2.get? s.heap.objs.size=some {cls:=.type "list",dict:=none,data:=.seq #[] c,slots:=#[]}->codeAny (model prog w) A (.builtin "list.extend.loop" ⟨[.ref s.heap.objs.size,.ref I,.ref s.heap.objs.size],[]⟩) (λr y=>∃v,r=.ok (.ret v)/\v=.ref s.heap.objs.size/\∃(h':Heap)(tk:Nat)(f:Oo)(B:Nat),y={s with heap:=h',drawn:=n,toks:=tk}/\(∀b o,s.heap.get? b=some o->h'.get? b=some o)/\h'.get? s.heap.objs.size=some {cls:=.type "list",dict:=none,data:=.seq f B,slots:=#[]}/\f.toList.Perm (l.toList.map (·.2))) {s with heap:=h2,drawn:=n}:=by
  intro h2 c N k2 H;refine codeAny_extend_loopS W.toS hn s.heap.objs.size (λhm=>?_) _ l.size 0 _ #[] c rfl (j_ _) N H (ItemsOf.nil _) λy d B J g' it=>?_
  ·rcases u _ hm with e|e
   ·exact absurd e (me K)
   ·have:h0.objs.size<=s.heap.objs.size:=e;rw[j]at this;exact absurd this (Nat.not_succ_le_self _)
  ·obtain⟨h3,O,d3,t3,o3⟩:=y;obtain rfl:O=s.gens:=J.gens;obtain rfl:d3=n:=J.drawn;obtain rfl:o3=s.os:=J.os;refine⟨_,rfl,rfl,h3,t3,d,B,rfl,λb o e=>?_,g',?_⟩
   ·refine J.heap b o (λhm=>?_) (k2 b o e);have C:b<s.heap.objs.size:=g_ e;rcases q_.mp hm with z|z
    ·exact absurd z (ig C)
    ·rw[List.mem_singleton.mp z]at C;have:h0.objs.size<=I:=hI;rw[j]at this;exact absurd (u6 C (Nat.lt_of_succ_le this)) (ot _)
   ·have e1:d.toList=ord.map (·.2):=by refine tx λi=>?_;rw[gg,sm];cases q:d[i]?with|some v=>obtain⟨x,hx,rfl⟩:=it.2 i v q;rw[hx];rfl|none=>have:d.size<=i:=Array.getElem?_eq_none_iff.mp q;rw[it.1]at this;rw[k_ (by lia)];rfl
    rw[e1];exact V.map _
 refine rd (λ_=>?_) (λ_=>e_ ⟨L_ F.plain_extend_loop _,wr (k h1 0 st (λb o e=>k1 _ _ (L _ _ e)) M) λr y p=>?_⟩)
 case refine_2=>obtain⟨v,rfl,rfl,h',tk,f,B,rfl,P,D,Q⟩:=p;exact a_ (wpAny_load D (e_ (h h' n tk f.toList Q P (vl (g_ D)))))
 refine a_ (tA (a_ ?_));show wpAny _ _ (updateSeq s.heap.objs.size (·.push .none)>>=λ_=>updateSeq s.heap.objs.size (·.pop)) _ _ _;refine a_ (N_ M rfl ?_);have H:=qx (Obj.mapSeq (·.push Value.none)) M rfl;refine N_ (hz:=by seq_fits) H rfl ?_;have O:=qx (Obj.mapSeq (·.pop)) H rfl;refine e_ ⟨L_ F.plain_extend_loop _,wr (k _ _ (W.frame 0 _ _ st λb C o e=>?_) (λb o e=>?_) O) λr y p=>?_⟩
 ·have G:b≠s.heap.objs.size:=λz=>by
   rcases u _ C with q|q
   ·exact absurd (z.symm.trans q) (me K)
   ·have:h0.objs.size<=b:=q;rw[j,z]at this;exact absurd this (Nat.not_succ_le_self _)
  exact(ry _ _ (m3 G)).trans ((ry _ _ (m3 G)).trans e)
 ·have G:b≠s.heap.objs.size:=ig (g_ e);exact(ry _ _ (m3 G)).trans ((ry _ _ (m3 G)).trans (k1 _ _ (L _ _ e)))
 ·obtain⟨v,rfl,rfl,h',tk,f,B,rfl,P,D,Q⟩:=p;exact a_ (wpAny_load D (e_ (h h' n tk f.toList Q P (vl (g_ D)))))
end
end L2
namespace L2
open PySem
structure rP(led:Bool)(t:SetTable):Prop where
 led:t.led=led
 up:t.plain=true->gr t.place
def rP.off{led:Bool}{t:SetTable}(x:rP led t):rP led {t with plain:=false}:=⟨x.led,λh=>by cases h⟩
def EM{t:SetTable}{j:Nat}(h:t.slot j=.empty\/t.slot j=.dummy):t.place[SetTable.below t.place j]?≠some j:=by intro e;unfold SetTable.slot at h;dsimp only at h;rw[hA (by rw[e];simp)]at h;rcases h with h|h<;>cases h
theorem oM:∀(fuel:Nat)(p:SetTable.Probe)(j:Nat)(d:Option Nat),(∀x,p.dummy=some x->t.slot x=.dummy)->SetTable.probe.go t l h fuel p=some (.empty j d)->t.slot j=.empty/\∀x,d=some x->t.slot x=.dummy|0,p,j,d,c,e=>by unfold SetTable.probe.go at e;cases e|fuel+1,p,j,d,c,e=>by unfold SetTable.probe.go at e;cases a:t.slot p.j with
 |empty=>rw[a]at e;injection e with e;injection e with f g;subst f;subst g;exact⟨a,c⟩|dummy=>
   rw[a]at e;refine oM fuel _ j d (λx b=>?_) e;have:(t.advance {p with dummy:=some p.j}).dummy=some p.j:=by
    unfold SetTable.advance
    split<;>rfl
   rw[this]at b;cases b;exact a|live i=>
   rw[a]at e;dsimp only at e
   split at e
   ·cases e
   ·refine oM fuel _ j d (λx b=>c x ?_) e;have:(t.advance p).dummy=p.dummy:=by
     unfold SetTable.advance
     split<;>rfl
    rw[this]at b;exact b
def C4{t:SetTable}{h:Int}{sl:Nat}{wd:Bool}(e:t.freeSlot h=some (sl,wd)):t.place[SetTable.below t.place sl]?≠some sl:=by unfold SetTable.freeSlot at e;cases a:t.probe (λ_=>h+1) h (t.probeStart h)with|none=>rw[a]at e;cases e|some m=>rw[a]at e;cases m with|candidate _ _ _=>cases e|empty j d=>have:=oM (10*SetTable.turns t.mask) (t.probeStart h) j d (λx b=>by cases b) a;injection e with e;injection e with c f;subst c;refine EM ?_;cases d with|none=>exact .inl this.1|some x=>exact .inr (this.2 x rfl)
def gd(a:Array Nat)(i:Nat):a.getD i 0=(a.toList[i]?).getD 0:=by rw[sm,Array.getD_eq_getD_getElem?]
def Ao{l:Op}(h:l.Pairwise (·<·)):gr l.toArray:=by intro i j a b;rw[hQ]at b;have:=List.pairwise_iff_getElem.mp h i j (by lia) b a;rw[gd,gd];show(l[i]?).getD 0<(l[j]?).getD 0;rw[fy b,fy (show i<l.length by lia)];exact this
def zy(c:p<=a.size):(SetTable.insertAt a p x).getD k 0=if k<p then a.getD k 0 else if k=p then x else if k<a.size+1 then a.getD (k-1) 0 else 0:=by
 have e:(SetTable.insertAt a p x).toList=a.toList.take p++x::a.toList.drop p:=by rw[SetTable.toList_insertAt]
 rw[gd,e];have b:(a.toList.take p).length=p:=by rw[ku,j2];lia
 by_cases h1:k<p
 ·rw[hA h1,r3 (by lia),List.getElem?_take,hA h1,gd]
 ·rw[g8 h1,z7 (by lia),b]
  by_cases h2:k=p
  ·rw[hA h2,h2,Nat.sub_self];rfl
  ·rw[g8 h2];obtain⟨m,rfl⟩:∃m,k=p+(m+1):=⟨k-p-1,by lia⟩;rw[show p+(m+1)-p=m+1 by lia,List.getElem?_cons_succ,NV]
   by_cases h3:p+(m+1)<a.size+1
   ·rw[hA h3,gd,show p+(m+1)-1=p+m by lia]
   ·rw[g8 h3,k_ (by rw[j2];lia)];rfl
def Fm(c:p<=a.size):(SetTable.insertAt a p x).size=a.size+1:=by rw[<-j2,(SetTable.insertAt_perm a p x).length_eq,j2,Array.size_push]
def Cw{t:SetTable}{sl:Nat}(r:gr t.place)(h:t.place[SetTable.below t.place sl]?≠some sl):gr (t.put sl).1.place:=by
 obtain⟨b1,b2,b3⟩:=rO r sl;show gr (SetTable.insertAt t.place (SetTable.below t.place sl) sl);generalize SetTable.below t.place sl=p at h b1 b2 b3;have b4:∀k,p<=k->k<t.place.size->sl<t.place.getD k 0:=by
  intro k d a;have e:t.place[p]?=some (t.place.getD p 0):=by rw[r4 (by lia)];simp[Array.getD,show p<t.place.size by lia]
  have f:t.place.getD p 0≠sl:=λz=>h (by rw[e,z]);have h1:=b3 p (fx _) (by lia);have h2:=r.le d a;lia
 intro i j b c;rw[Fm b1]at c;rw[zy b1,zy b1]
 by_cases h1:j<p
 ·rw[hA (by lia),hA h1];exact r i j b (by lia)
 ·rw[g8 h1]
  by_cases h2:j=p
  ·rw[hA h2,hA (by lia)];exact b2 i (by lia)
  ·rw[g8 h2,hA c]
   by_cases h3:i<p
   ·rw[hA h3];have:=b2 i h3;have:=b4 (j-1) (by lia) (by lia);lia
   ·rw[g8 h3]
    by_cases h4:i=p
    ·rw[hA h4];exact b4 (j-1) (by lia) (by lia)
    ·rw[g8 h4,hA (by lia)];exact r (i-1) (j-1) (by lia) (by lia)
def rP.lay{led:Bool}{t:SetTable}(x:rP led t)(c:Array (Int×Value))(h:Int)(v:Value):rP led (layNew t c h v).2.1:=by
 refine⟨(IS t c h v).1.trans x.led,?_⟩;unfold layNew
 split
 ·rename_i sl wd e;intro a;dsimp only at a⊢;unfold SetTable.orStandIn at a⊢
  split
  ·rename_i b;rw[hA b]at a;exact Cw (x.up a) (C4 e)
  ·rename_i b;rw[g8 b]at a;cases a
 ·intro a;cases a
def rP.relay{led:Bool}{t:SetTable}(x:rP led t)(f:Array (Int×Value))(n:Nat):rP led (relayAll t f n).2.1:=by
 refine⟨(DB t f n).1.trans x.led,?_⟩;unfold relayAll
 split
 ·rename_i m o e;dsimp only
  split
  ·intro _;unfold SetTable.relaid SetTable.laid at e;cases hc:SetTable.layClean (SetTable.sizeAbove n-1) (f.map (·.1))with|none=>rw[hc]at e;cases e|some ow=>
    rw[hc]at e;cases e;show gr ((((List.range (SetTable.sizeAbove n-1+1)).filterMap λj=>(ow.getD j none).map (j,·)).map (·.1)).toArray);have l:(((List.range (SetTable.sizeAbove n-1+1)).filterMap λj=>(ow.getD j none).map (j,·)).map (·.1)).Pairwise (·<·):=by rw[List.map_filterMap];refine List.Pairwise.filterMap _ (R:=(·<·)) (S:=(·<·)) ?_ List.pairwise_lt_range;intro a b g x c y d;cases i:ow.getD a none with|none=>rw[i]at c;cases c|some v=>cases k:ow.getD b none with|none=>rw[k]at d;cases d|some u=>rw[i]at c;rw[k]at d;cases c;cases d;exact g
    exact Ao l
  ·intro h;cases h
 ·intro h;cases h
end L2
namespace L2
open PySem
section
variable{prog:Ol}{w:World}{c:Type}[DecidableEq c](knd:PySem.KeyKind prog w c)(kOf:Value->c)
structure jN(led:Bool)(h:Heap)(a:Addr)(ks:List c):Prop where ex:∃o es ep t,h.get? a=some o/\o.ExactSet/\o.data=.set es ep t/\ElemsOf knd es.toList/\(es.toList.map λe=>kOf e.2).Perm ks/\es.size<scanBound/\t.fits es.size=true/\rP led t
variable{knd kOf}
def jN.keep(x:jN knd kOf led h a d)(k:∀o,h.get? a=some o->h'.get? a=some o):jN knd kOf led h' a d:=by obtain⟨o,b,f,t,e,r⟩:=x.ex;exact⟨o,b,f,t,k o e,r⟩
variable{A:Around}{E:Og}{s:Shared}
def E4(f:∀k v,knd.is k v=true->kOf v=k)(d:ElemsOf knd g)(h:(g.map λe=>kOf e.2).Perm i)(k:c):k∈i↔∃e∈g,knd.is k e.2=true:=by
 rw[<-h.mem_iff,ir]
 constructor
 ·rintro⟨e,a,rfl⟩;obtain⟨⟨b,h1,_⟩,_⟩:=d e a;refine⟨e,a,?_⟩;rw[f b e.2 h1];exact h1
 ·rintro⟨e,a,h1⟩;exact⟨e,a,f k e.2 h1⟩
def ud{led:Bool}{h:Heap}{a:Addr}{o:Obj}{l d:Array (Int×Value)}{i:Nat}{t f:SetTable}{ks:List c}(m:h.get? a=some o)(hex:o.ExactSet)(hd:o.data=.set l i t)(j:ElemsOf knd d.toList)(n:(d.toList.map λe=>kOf e.2).Perm ks)(p:d.size<scanBound)(r:f.fits d.size=true)(u:rP led f):(h.update a (Obj.putSet d f)).get? a=some {o with data:=.set d (i+1) f}/\jN knd kOf led (h.update a (Obj.putSet d f)) a ks:=by
 have g:(h.update a (Obj.putSet d f)).get? a=some {o with data:=.set d (i+1) f}:=by
  have q:=qx (Obj.putSet d f) m (by rw[putSet_of d f hd];rfl)
  rwa[putSet_of d f hd]at q
 exact⟨g,_,d,i+1,f,g,hex,rfl,j,n,p,r,u⟩
def F4{led:Bool}{a:Addr}{f:List c}{k:c}{x:Value}{Q:Bool->Shared->Prop}(Z:∀k v,knd.is k v=true->kOf v=k)(i:knd.is k x=true)(y:x.scannable=true)(hS:jN knd kOf led s.heap a f)(G:f.length+1<scanBound)(h:∀h' b,Heap.SameBut a s.heap h'->jN knd kOf led h' a (if k∈f then f else f++[k])->Q b {s with heap:=h'}):wpAny (model prog w) A (setAddHashed a x (knd.hash k)) Q E s:=by
 obtain⟨o,D,ep,t,O,hex,hd,m,P,hb,Y,ti⟩:=hS.ex;have hn:D.size=f.length:=by rw[<-P.length_eq,b_,j2]
 have p:=E4 Z m P;unfold setAddHashed setAddHashedIn;refine mu (a_ (y_ O hd Y ?_));dsimp only;rw[byScan_of y hb m,hA rfl];unfold setAddByScan;refine a_ (a_ (tA (a_ (wpAny_setScan_of i O hd Y m ?_))));cases hr:List.findIdx? (λe=>knd.is k e.2) D.toList with|some j=>obtain⟨hj,R,_⟩:=List.findIdx?_eq_some_iff_getElem.mp hr;have B:k∈f:=(p k).mpr ⟨_,B_ hj,R⟩;refine e_ (e_ ?_);have q:=h s.heap false (Heap.SameBut.refl a s.heap);rw[hA B]at q;exact q hS|none=>
  have B:k∉f:=λz=>by obtain⟨e,he,h1⟩:=(p k).mp z;have:=List.findIdx?_eq_none_iff.mp hr e he;rw[h1]at this;cases this
  dsimp only;have q:∀h' b,Heap.SameBut a s.heap h'->jN knd kOf led h' a (f++[k])->Q b {s with heap:=h'}:=λh' b sb x=>h h' b sb (by rw[g8 B];exact x);have F:=layNew_perm t D (knd.hash k) x;have H:=layNew_fits t D (knd.hash k) x;have I:=ti.lay D (knd.hash k) x;generalize hL:layNew t D (knd.hash k) x=L at F H I⊢;obtain⟨d,S,wd,gv⟩:=L;dsimp only at F H I⊢;rw[N4]at F;have u:ElemsOf knd d.toList:=(m.push i y).perm F;have J:(d.toList.map λe=>kOf e.2).Perm (f++[k]):=by refine(F.map _).trans ?_;rw[g6,NU,Z k x i];exact P.append_right _
  have T:d.size=f.length+1:=by rw[<-j2,F.length_eq,gV,j2,hn];rfl
  have n:d.size<scanBound:=by rw[T];exact G
  have say:∀(b:Bool)(U:Shared)(V:Unit->Shared->Prop),V () U->wpAny (model prog w) A (match b with|true=>rule "set.scan.the-table-gave-way"|false=>pure ()) V E U:=λb U V z=>by cases b<;>first|exact e_ z|exact tA z
  have l:∀g:SetTable,g.fits d.size=true->rP led g->wpAny (model prog w) A (do
 storeSet a d g if(!wd&&g.tooFull)=true then do
      (match(relayAll g d (SetTable.grown d.size)).2.2 with|true=>rule "set.scan.the-table-gave-way"|false=>pure ())storeSet a (relayAll g d (SetTable.grown d.size)).1 (relayAll g d (SetTable.grown d.size)).2.1
      pure (some true)else pure (some true)) (λr s'=>wpAny (model prog w) A (match r with|some C=>pure C|none=>setAddHashedIn a x (knd.hash k) 99999) Q E s') E s:=by
   intro g f2 i2;refine a_ (wpAny_storeSet_of O hd ?_ (fits_of_scanBound n));obtain⟨g1,S1⟩:=ud (knd:=knd) (kOf:=kOf) O hex hd u J n f2 i2;have K:=v3 s.heap a (Obj.putSet d g);refine rd (λ_=>?_) (λ_=>e_ (e_ (q _ _ K S1)));have M:=relayAll_perm g d (SetTable.grown d.size);have r2:=relayAll_fits g d (SetTable.grown d.size);have W:=i2.relay d (SetTable.grown d.size);generalize relayAll g d (SetTable.grown d.size)=Rl at M r2 W⊢;obtain⟨X,t3,aa⟩:=Rl;dsimp only at M r2 W⊢;have N:X.size=d.size:=by rw[<-j2,M.length_eq,j2]
   refine a_ (say _ _ _ ?_);refine a_ (wpAny_storeSet_of (s:={s with heap:=s.heap.update a (Obj.putSet d g)}) g1 rfl ?_ (fits_of_scanBound (by rw[N];exact n)));obtain⟨_,S2⟩:=ud (knd:=knd) (kOf:=kOf) (ks:=f++[k]) g1 hex rfl (u.perm M) ((M.map _).trans J) (by rw[N];exact n) r2 W;exact e_ (e_ (q _ _ (K.trans (v3 _ a _)) S2))
  refine a_ (say _ _ _ ?_)
  split
  ·refine a_ ?_;rw[hashByValue_scannable 8 y];refine e_ ?_;cases ad:plainKind x with|true=>exact l S H I|false=>exact l {S with plain:=false} (SetTable.fits_plain_off H) I.off
  ·exact a_ (e_ (l S H I))
end
end L2
namespace L2
open PySem PySem.Spec PyProof.Rows
section
variable{prog:Ol}{w:World}{A:Around}{E:Og}{s:Shared}
def Hi(v:Value)(h:Q₁ (.ref s.heap.objs.size) {s with heap:=s.heap.push (fN (!w.params.followText "set-order"))}):codeAny (model prog w) A (.call (.builtin "set.__new__") ⟨[.type "set",v],[]⟩) (wants Q₁ E) s:=by refine codeAny_of_tree (show wpAny _ A.in1 (do checkBuiltinCall "set.__new__" ⟨[.type "set",v],[]⟩;again (.builtin "set.__new__" ⟨[.type "set",v],[]⟩)) _ _ s from ?_);refine a_ (wpAny_of_eq (F.newCall_set_1 v) (e_ ⟨L_ F.plain_set_new _,x_ F.entry_set_new ?_⟩));rw[z_ F.plain_set_new _];unfold Builtin.«set.__new__»Builtin.Frozenset.newClass;have a:=sub_set_self;obtain⟨b,g,d,tk,os⟩:=s;dsimp only;wp_walk;refine A_ (e_ ?_);dsimp only;simp only[newObj];exact a_ (wpAny_alloc (e_ (e_ h)))
end
section
variable{prog:Ol}{w:World}{A:Around}{R:Result->Shared->Prop}{c:Type}[DecidableEq c][BEq c][LawfulBEq c]{it a:Addr}{fp g:Oq}{G:Array GenState->Array GenState->Prop}{n:Nat}{P:Nat->Value->Prop}{St:Nat->Shared->Prop}
def Db(l:List c)(x:c)[d:Decidable (x∈l)]:(if x∈l then l else l++[x])=step_dedup l x:=by
 unfold step_dedup
 by_cases h:x∈l
 ·have q:(l.any λy=>y==x)=true:=N8.mpr ⟨x,h,t6 x⟩;rw[hA h,hA q]
 ·have q:¬(l.any λy=>y==x)=true:=λz=>h (by obtain⟨y,b,q⟩:=N8.mp z;rw[<-eq_of_beq q];exact b);rw[g8 h,g8 q]
def C5(j:PySem.KeyKind prog w c)(kOf:Value->c)(led:Bool)(H:∀k v,j.is k v=true->kOf v=k)(p:WalksS prog w A.in1 it fp g G n P St)(B:a∉fp)(h:Nat->c)(q:∀i v,P i v->j.is (h i) v=true/\v.scannable=true)(C:n+1<scanBound):∀(d i:Nat)(s:Shared),n-i=d->i<=n->St i s->jN j kOf led s.heap a (u8 h i)->(∀l,Moved (a::g) G s l->jN j kOf led l.heap a (u8 h n)->R (.ok (.ret .none)) l)->codeAny (model prog w) A (.builtin "set.update.loop" ⟨[.ref a,.ref it],[]⟩) R s:=by
 have aw:a∉g:=λz=>B (p.sub _ z);have up:∀b∈g,b∈a::g:=λb z=>hY _ z;intro d
 induction d with|zero=>
  intro i s hd hi st f k;obtain rfl:i=n:=by lia
  refine x_ F.entry_set_update_loop ?_;rw[z_ NA _];refine a_ (m:=pyNext (.ref it)) (p.done s _ _ st λl r=>?_);exact e_ (k l (r.mono up) (f.keep λo e=>r.heap a o aw e))|succ d I=>
  intro i s hd hi st f k;have lt:i<n:=by lia
  refine x_ F.entry_set_update_loop ?_;rw[z_ NA _];refine a_ (m:=pyNext (.ref it)) (p.item i s _ _ lt st λv l Y t r=>?_);obtain⟨D,J⟩:=q i v Y;have K:jN j kOf led l.heap a (u8 h i):=f.keep λo e=>r.heap a o aw e;refine a_ (m:=holding [v] (setAdd a v)) (mu ?_);unfold setAdd;refine mu (a_ (j.pyHash (k:=h i) D ?_));have L:(u8 h i).length+1<scanBound:=by have:=E3 h i;lia
  refine F4 (s:={l with toks:=l.toks+1}) H D J K L λh' N E f2=>?_;rw[Db,<-wR]at f2;refine e_ ⟨L_ NA _,I (i+1) _ (by lia) lt (p.frame _ l _ _ t (qr _) λb z o e=>?_) f2 λu x M=>?_⟩
  ·exact(E.2 b λy=>B (y▸z)).trans e
  ·refine k u (Moved.trans p.gtrans ((r.mono up).then_heap (qr _) λb o z e=>?_) x) M;exact(E.2 b λy=>z (y▸il)).trans e
end
section
variable{prog:Ol}{w:World}{A:Around}{E:Og}{s:Shared}{d:Type}[DecidableEq d][BEq d][LawfulBEq d]
set_option maxHeartbeats 3200000 in
def zw{b:Bool}(n:PySem.KeyKind prog w d)(kOf:Value->d)(T:∀k v,n.is k v=true->kOf v=k){l:Addr}{j:Oo}{key:Nat->d}{Q:Og}(hh:A.handled=none)(W:qK b s.heap l j)(y:∀i v,j[i]?=some v->n.is (key i) v=true/\v.scannable=true)(z:j.size+1<scanBound)(k:∀(h':Heap)(tk:Nat),jN n kOf (!w.params.followText "set-order") h' s.heap.objs.size (u8 key j.size)->(∀b o,s.heap.get? b=some o->h'.get? b=some o)->Q (.ref s.heap.objs.size) {s with heap:=h',toks:=tk}):wpAny (model prog w) A (call (.type "set") [.ref l]) Q E s:=by
 obtain⟨c,tl,L⟩:=F.called_set.mro;have made:=F.called_set.made;have sub:=F.called_set.sub;have nt:=F.called_set.notType;have cc:=F.called_set.canCreate;have tc:=F.typeCall_set_1 (.ref l);refine NB (codeAny_of_tree ?_);show wpAny _ _ (callAny (.type "set") _) _ _ _;refine e_ ⟨Code.quiet_builtin _ (by decide+kernel),x_ F.entry_type_call ?_⟩;rw[Around.under_plain (weight_type_call_type "set" [.ref l] []) rfl]
 (repeat(any_goals(first|assumption|wp_step)));skip
 refine wr (Hi (.ref l) (E:=E) (Q₁:=λu s₁=>u=.ref s.heap.objs.size/\s₁={s with heap:=s.heap.push (fN (!w.params.followText "set-order"))}) ⟨rfl,rfl⟩) λr s₁ G=>?_;cases r with|error e=>exact G|ok U=>cases U with
 |ret u=>
   obtain⟨rfl,rfl⟩:=G;have N:(s.heap.push (fN (!w.params.followText "set-order"))).get? s.heap.objs.size=some (fN (!w.params.followText "set-order")):=ge _ rfl;have ty:Shared.TypeIs {s with heap:=s.heap.push (fN (!w.params.followText "set-order"))} (.ref s.heap.objs.size) "set":=⟨_,N,rfl⟩;have li:=F.called_set.init.lookup;have bi:=F.called_set.init.bind (.ref s.heap.objs.size)
   (repeat(any_goals(first|assumption|wp_step)));skip
   refine wr (NP (R:=wants (λr p=>r=.none/\∃h' tk,p={s with heap:=h',toks:=tk}/\jN n kOf (!w.params.followText "set-order") h' s.heap.objs.size (u8 key j.size)/\∀b o,s.heap.get? b=some o->h'.get? b=some o) E) F.called_set.init.plain F.entry_set_init (check_set_init_1 ty ?_)) λB p m=>?_
   ·obtain⟨⟨cl,V,dt,sl⟩,e,O,P,S⟩:=id W;simp only at O S;subst O;subst S;have X:(s.heap.push (fN (!w.params.followText "set-order"))).get? l=some {cls:=.type (cond b "list" "tuple"),dict:=V,data:=.seq j P,slots:=sl}:=c_ _ e;have s1:isSubtype (.type (cond b "list" "tuple")) (.type "set")=pure false:=by cases b;exact F.sub_tuple_set;exact F.sub_list_set
    have s2:isSubtype (.type (cond b "list" "tuple")) (.type "frozenset")=pure false:=by cases b;exact F.sub_tuple_frozenset;exact F.sub_list_frozenset
    have ne:(Value.type (cond b "list" "tuple")==Value.type "dict")=false:=by cases b<;>decide
    have C:qK b (s.heap.push (fN (!w.params.followText "set-order"))) l j:=⟨_,X,rfl,P,rfl⟩;have Y:∀(A:Around)(I t:Addr),A.handled=none->t≠I->Walks prog w A I [I,t] [I] j.size (λi v=>j[i]?=some v) (λi h=>rZ b h I t i/\qK b h t j):=by
     cases b
     ·exactλA I t q r=>Walks.tuple q I t r j
     ·exactλA I t q r=>Walks.list q I t r j
    unfold Builtin.«set.__init__»noKeywords Builtin.Frozenset.updateFrom;generalize H:pyIter=PI;wp_walk;subst H;refine Bq C ?_;refine a_ (wpAny_runValue ?_);have lt:l<s.heap.objs.size:=g_ e;have sz:(s.heap.push (fN (!w.params.followText "set-order"))).objs.size=s.heap.objs.size+1:=nB ..;refine C5 n kOf (!w.params.followText "set-order") T ((Y A.in1.in1.in1 _ l (by simp[hh]) (by rw[sz];exact ig (u_ lt))).toS) (a:=s.heap.objs.size) (by rw[sz];simp only[q_,n_,D_,not_or];exact⟨ig (rm _),me lt⟩) key y z (j.size-0) 0 _ (by omega) (j_ _) ⟨⟨_,ge _ rfl,rfl,rfl⟩,C.at λ_ e=>c_ _ e⟩ ?f0 ?fR
    case f0=>have g:((s.heap.push (fN (!w.params.followText "set-order"))).push {cls:=.type (cond b "list_iterator" "tuple_iterator"),data:=.fields #[.ref l,.int 0 0]}).get? s.heap.objs.size=some (fN (!w.params.followText "set-order")):=c_ _ N;exact⟨_,#[],0,_,g,⟨rfl,rfl,rfl⟩,rfl,λe Z=>by simp at Z,NR _,by decide,by rfl,⟨rfl,λ_=>gr.few (j_ _)⟩⟩
    case fR=>rintro⟨h',g',d',J,K⟩D f;obtain rfl:g'=s.gens:=D.gens;obtain rfl:d'=s.drawn:=D.drawn;obtain rfl:K=s.os:=D.os;show wpAny _ _ _ _ _ _;refine e_ (show wpAny _ _ (ret Value.none) _ _ _ from e_ ⟨rfl,h',J,rfl,f,λb o q=>?_⟩);have b1:b<s.heap.objs.size:=g_ q;exact D.heap b o (by rw[sz];simp only[q_,n_,D_,not_or];exact⟨ig b1,ig (u_ b1)⟩) (c_ _ (c_ _ q))
   ·cases B with|error e=>exact m|ok x=>cases x with|ret r=>
      obtain⟨rfl,h',tk,rfl,f,kk⟩:=m
      (repeat(any_goals(first|assumption|wp_step)));exact k _ _ f kk|_=>exact m.elim
  |_=>exact G.elim
end
end L2
namespace L2
open PySem PySem.Spec PyProof.Rows
section
variable{prog:Ol}{w:World}{A:Around}{E:Og}{s:Shared}
def Ed(hh:A.handled=none)(l:fQ s.heap a f u t)(hn:f.size<=sizeLine)(n:w.params.followText "set-order"=false->t.led=true)(p:t.plain=true->gr t.place)(h:∀(h1:Heap)(d:Drawn)(tk:Nat)(c:Oj),c.Perm (f.toList.map (·.2))->(∀b o,s.heap.get? b=some o->h1.get? b=some o)->s.heap.objs.size<=h1.objs.size->(h1.push (seqObj "list" c.toArray 0)).get? h1.objs.size=some (seqObj "list" c.toArray 0)->wpAny (model prog w) A.in1.in1 (Builtin.«list.sort» ⟨[.ref h1.objs.size],[]⟩) (λfin i=>∃v,fin=.done (.ret v)/\Q (.ref h1.objs.size) i) E {s with heap:=h1.push (seqObj "list" c.toArray 0),drawn:=d,toks:=tk}):wpAny (model prog w) A (call (.builtin "sorted") [.ref a]) Q E s:=by
 refine Calls.call_function_entry kind_sorted plain_sorted entry_sorted (args_sorted1 _) ?_;unfold Builtin.«sorted»;refine a_ (m:=checkCount "sorted" 1 1 _) (e_ ?_);refine a_ (zM (A:=A.in1) hh l hn n p λh1 d tk c j k1 k=>?_);have r:c.length=f.size:=by rw[j.length_eq,b_,j2]
 refine a_ (wpAny_newList ?_ (by rw[r];exact hn));have g:(h1.push (seqObj "list" c.toArray 0)).get? h1.objs.size=some (seqObj "list" c.toArray 0):=ge _ rfl;refine a_ (mu (n7 slot_list_sort (s:={s with heap:=h1.push (seqObj "list" c.toArray 0),drawn:=d,toks:=tk}) ⟨_,g,rfl⟩ entry_list_sort (wpAny_mono (h h1 d tk c j k1 k g) (λfin i x=>?_) λ_ _ e=>e) (args_list_sort _)));obtain⟨v,rfl,q⟩:=x;exact⟨v,rfl,e_ ⟨_,rfl,q⟩⟩
def zB{h1:Heap}{vs:Oj}{out:Oo}:(∀b o,h1.get? b=some o->(sortedHeap (h1.push (seqObj "list" vs.toArray 0)) h1.objs.size vs out).get? b=some o)/\∃e,(sortedHeap (h1.push (seqObj "list" vs.toArray 0)) h1.objs.size vs out).get? h1.objs.size=some (seqObj "list" out e):=by have g:(h1.push (seqObj "list" vs.toArray 0)).get? h1.objs.size=some (seqObj "list" vs.toArray 0):=ge _ rfl;refine⟨λb o e=>?_,sortedHeap_at g⟩;have a:b<h1.objs.size:=g_ e;rw[sortedHeap_old (ig a) (by rw[nB];exact u_ a)];exact c_ _ e
end
end L2
namespace L2
open PySem PySem.Spec PyProof.Rows
def kOf:Value->cp|.int i _=>.inl i|.str x _=>.inr x|_=>.inl 0
def Fi(P:Ol)(w:World):∀(k:cp)(v:Value),(bd P w).is k v=true->kOf v=k:=λk v h=>by rcases cK h with⟨i,t,rfl,rfl⟩|⟨x,t,rfl,rfl⟩<;>rfl
abbrev xy(P:Ol)(w:World)(q:Addr)(a:List cp):HO:=.ext λh=>jN (bd P w) kOf (!w.params.followText "set-order") h q a
theorem aU.drawn(I:aU X a c H s)(d:Drawn):aU X a c H {s with drawn:=d}:=⟨I.ok,I.os,I.bare,I.base,I.loc,I.cell,I.free,I.freeC,I.pin,I.hok,I.len⟩
theorem wG:∀{a:Oj}{c:Om},StrsAre a c->bq (c.map V.str) a|_,_,.nil=>.nil|_,_,.cons x t h=>.cons ⟨t,rfl⟩ (wG h)
def HY(b:Bool)(K:Of)(H:Hp)(p:Addr)(a:List V):Prop:=cond b (be K H p a) (bj K H p a)
def aU.sqE{X:Cx}{c:Oh}{g:St}{H:Hp}{s:Shared}{b:Bool}{p:Addr}{e:List V}(I:aU X c g H s)(h:HY b X.K H p e):∃a,bq e a/\qK b s.heap p a.toArray/\∀d,HY b X.K H p d->d=e:=by cases b with|false=>obtain⟨a,f,p,_⟩:=I.tuple h;exact⟨a,f,p,λd q=>I.tuple_inj q h⟩|true=>obtain⟨a,f,p,_⟩:=I.list h;exact⟨a,f,p.isList,λd q=>I.list_inj q h⟩
section
variable{X:Cx}
def xh{b:Bool}(hc:X.calm=true):dk X (.type "set") (λj H Q=>∃(p:Addr)(a:List cp),j=[.ref p]/\HY b X.K H p (a.map kV)/\a.length<4000/\∀q,H q=none->Q (.ref q) (aD H q (xy X.prog X.w q (dd a)))):=by
 intro k s B H j C Q I r h;obtain⟨p,a,rfl,t,l,q⟩:=h;obtain⟨u,rfl,y⟩:=lB r;cases y;obtain⟨c,m,pl,D⟩:=I.sqE t;have n:=m.length;rw[b_]at n;refine zw (bd X.prog X.w) kOf (Fi _ _) (key:=λi=>a.getD i (.inl 0)) (I.ok.hd hc) pl (λi v d=>?_) (by rw[hQ];unfold scanBound;omega) λh' tk f A=>?_
 ·have d:c[i]?=some v:=by simpa using d
  have hi:i<c.length:=(d_.mp d).1;obtain⟨u,h1,h2⟩:=m.get (i:=i) (x:=kV (a[i]'(by lia))) (by rw[gg,fy (by lia)];rfl);rw[d]at h1;cases h1;have e:a.getD i (.inl 0)=a[i]'(by lia):=by simp[List.getD,fy (show i<a.length by lia)]
  show(bd X.prog X.w).is (a.getD i (.inl 0)) v=true/\_;rw[e,AG];exact Hx h2
 ·rw[show c.toArray.size=a.length by rw[hQ];exact n.symm,Hn]at f;refine⟨.ref s.heap.objs.size,_,I.laid (h':=h') (t':=tk) (o:=xy X.prog X.w s.heap.objs.size (dd a)) A (fx _) ⟨f,?_,λh1 h2 g k2=>g.keep k2⟩,rfl,q _ (I.hok.fresh (fx _))⟩;obtain⟨o,_,_,_,e,_⟩:=f.ex;exact⟨o,e⟩
def Dl:dk X (.builtin "len") (λc H Q=>∃(p:Addr)(a:List cp),c=[.ref p]/\H p=some (xy X.prog X.w p a)/\a.length<=4096/\Q (.int a.length) H):=by
 intro b s l H c m Q I r h;obtain⟨p,a,rfl,d,hn,q⟩:=h;obtain⟨u,rfl,g⟩:=lB r;cases g;obtain⟨f,_,_⟩:=I.hok p _ d;obtain⟨o,i,n,t,e,ex,hd,_,pm,_,j,_⟩:=f.ex;have k:i.size=a.length:=by rw[<-pm.length_eq,b_,j2]
 refine call_len_set e ex hd j (by omega) ⟨.int _,H,I.tok _,⟨_,rfl⟩,?_⟩;rw[k];exact q
def Jy(f:jN (bd P w) kOf led h a g):∃c d t,fQ h a c d t/\c.size=g.length/\(c.toList.map λe=>kOf e.2).Perm g/\rP led t/\∀e∈c.toList,n9 (kOf e.2) e.2=true:=by obtain⟨o,c,d,t,e,ex,hd,b,pm,_,i,j⟩:=f.ex;refine⟨c,d,t,⟨⟨o,e,ex.1,hd⟩,i⟩,by rw[<-pm.length_eq,b_,j2],pm,j,λx l=>?_⟩;obtain⟨⟨k,h1,_⟩,_⟩:=b x l;rw[Fi P w k x.2 h1];exact h1
variable{P:Ol}{w:World}
def oP(K:Of)(c:X.K=K)(hc:X.calm=true)(d:X.prog=P:=by rfl)(e:X.w=w:=by rfl):dk X (.type "set") (λf H Q=>∃(p:Addr)(a:List cp),f=[.ref p]/\be K H p (a.map kV)/\a.length<4000/\∀q,H q=none->Q (.ref q) (aD H q (xy P w q (dd a)))):=by subst c;subst d;subst e;exact xh (b:=true) hc
def Bd(K:Of)(c:X.K=K)(hc:X.calm=true)(d:X.prog=P:=by rfl)(e:X.w=w:=by rfl):dk X (.type "set") (λf H Q=>∃(p:Addr)(a:List cp),f=[.ref p]/\bj K H p (a.map kV)/\a.length<4000/\∀q,H q=none->Q (.ref q) (aD H q (xy P w q (dd a)))):=by subst c;subst d;subst e;exact xh (b:=false) hc
def oR(c:X.prog=P:=by rfl)(d:X.w=w:=by rfl):dk X (.builtin "len") (λe H Q=>∃(p:Addr)(a:List cp),e=[.ref p]/\H p=some (xy P w p a)/\a.length<=4096/\Q (.int a.length) H):=by subst c;subst d;exact Dl
end
end L2
namespace L2
open PySem PySem.Spec PyProof.Rows
section
variable{prog:Ol}{w:World}{A:Around}{E:Og}{s:Shared}
def ng(a b:Str):Prop:=¬b.cps.toList<a.cps.toList
def vE(g:StrsAre d v)(h:a.Perm (pairsOf d))(n:SortedToK strKind a (pairsOf d).size):∃c,StrsAre (a.map (·.2)).toList c/\c.Perm v/\c.Pairwise ng:=by
 obtain⟨o,h1,h2,_⟩:=sorted_out_str g h n;refine⟨o,h1,h2,?_⟩;have z:a.toList.Perm (d.zip d):=by rw[<-pairsOf_toList];exact Array.perm_iff_toList_perm.mp h
 have b:∀p,p∈a.toList->p.1=p.2/\p.1∈d:=λp k=>mem_zip_self (z.mem_iff.mp k);have e:o=a.toList.map λp=>strOf p.2:=by rw[<-h1.strs,Array.toList_map,sD];rfl
 rw[e,List.pairwise_iff_getElem];intro i j hi B l;have m:i<a.size:=by simpa using hi
 have f:j<a.size:=by simpa using B
 have q:=n i j (vl l) (by rw[<-h.size_eq];exact f);obtain⟨x,t,ex⟩:=g.all _ (b a[i] (by simp)).2;obtain⟨y,u,r⟩:=g.all _ (b a[j] (by simp)).2;rw[KK_str m (x:=x) (t:=t) (q:=a[i].2) (Prod.ext ex rfl),KK_str f (x:=y) (t:=u) (q:=a[j].2) (Prod.ext r rfl)]at q
 change decide (y.cps.toList<x.cps.toList)=false at q
 simp only[N7,Array.getElem_toList];have C:strOf a[i].2=x:=by rw[<-(b a[i] (by simp)).1,ex];rfl
 have D:strOf a[j].2=y:=by rw[<-(b a[j] (by simp)).1,r];rfl
 unfold ng;rw[C,D];exact of_decide_eq_false q
def ue(hh:A.handled=none)(r:fQ s.heap a f P t)(u:f.size<64)(y:w.params.followText "set-order"=false->t.led=true)(B:t.plain=true->gr t.place)(C:∀e∈f.toList,∃x t,e.2=Value.str x t)(h:∀(D:Addr)(h':Heap)(F:Drawn)(tk e:Nat)(out:Oj)(i:Om),s.heap.objs.size<=D->(∀b o,s.heap.get? b=some o->h'.get? b=some o)->h'.get? D=some (seqObj "list" out.toArray e)->StrsAre out i->i.Perm (f.toList.map λe=>strOf e.2)->i.Pairwise ng->Q (.ref D) {s with heap:=h',drawn:=F,toks:=tk}):wpAny (model prog w) A (call (.builtin "sorted") [.ref a]) Q E s:=by
 refine Ed hh r (by rw[hH];lia) y B λh1 G tk c j k1 H g=>?_;have O:c.length=f.size:=by rw[j.length_eq,b_,j2]
 have k:StrsAre c (c.map strOf):=strsAre_map c λv hm=>by obtain⟨e,I,rfl⟩:=ir.mp (j.mem_iff.mp hm);exact C e I
 refine list_sort_treeK strKind_oneLt g k.keysOf (λp q qW e=>keyKind_strs (by rw[<-e];exact k)) (by lia) λd l m=>⟨_,rfl,?_⟩;obtain⟨n,J,K,L⟩:=vE k l m;obtain⟨M,e,N⟩:=zB (h1:=h1) (vs:=c) (out:=(arrOf d).map (·.2));refine h h1.objs.size _ G tk e ((arrOf d).map (·.2)).toList n H (λb o z=>M b o (k1 b o z)) ?_ J (K.trans ?_) L
 ·rw[Array.toArray_toList];exact N
 ·have:=j.map strOf;rw[sD]at this;exact this
end
section
variable{X:Cx}
def zO(hc:X.calm=true):dk X (.builtin "sorted") (λj H Q=>∃(p:Addr)(a:Om),j=[.ref p]/\H p=some (xy X.prog X.w p (a.map Sum.inr))/\a.length<64/\∀(q:Addr)(c:Om),H q=none->c.Perm a->c.Pairwise ng->Q (.ref q) (aD H q (.lst (c.map V.str)))):=by
 intro l s N H j O Q I r h;obtain⟨p,a,rfl,C,hn,q⟩:=h;obtain⟨u,rfl,E⟩:=lB r;cases E;obtain⟨f,_,_⟩:=I.hok p _ C;obtain⟨m,P,t,F,n,pm,v,G⟩:=Jy f;rw[b_]at n;have A:∀e∈m.toList,∃x t,e.2=Value.str x t:=λe d=>by
  have hm:kOf e.2∈a.map Sum.inr:=pm.mem_iff.mp (ir.mpr ⟨e,d,rfl⟩);obtain⟨x,_,b⟩:=ir.mp hm;rcases cK (G e d)with⟨i,t,h1,h2⟩|⟨y,t,h1,h2⟩
  ·rw[h1]at b;cases b
  ·exact⟨y,t,h2⟩
 refine ue (I.ok.hd hc) F (by lia) (λz=>by rw[v.led,z];rfl) v.up A λD h' J tk e out c B K g sa sp L=>?_;have sl:c.length=a.length:=by rw[sp.length_eq,b_,j2,n]
 have ex:(m.toList.map λe=>strOf e.2).Perm a:=by
  have h1:=pm.map (λk:cp=>match k with|.inr x=>x|.inl _=>(⟨#[]⟩:Str));rw[sD,sD]at h1;have M:(a.map ((λk:cp=>match k with|.inr x=>x|.inl _=>(⟨#[]⟩:Str))∘Sum.inr))=a:=by rw[show((λk:cp=>match k with|.inr x=>x|.inl _=>(⟨#[]⟩:Str))∘Sum.inr)=id from rfl,List.map_id]
  rw[M]at h1;refine(Od (C_ λe d=>?_)).trans h1;obtain⟨x,t,b⟩:=A e d;rw[b];show strOf (Value.str x t)=(match kOf e.2 with|.inr x=>x|.inl _=>(⟨#[]⟩:Str));rw[b];rfl
 refine⟨.ref D,_,(I.drawn J).laid (h':=h') (t':=tk) (o:=.lst (c.map V.str)) K B ⟨?_,out,e,wG sa,g⟩,rfl,q D c (I.hok.fresh B) (sp.trans ex) L⟩;rw[b_,sl,hH];lia
def yf(hc:X.calm=true)(d:X.prog=P:=by rfl)(e:X.w=w:=by rfl):dk X (.builtin "sorted") (λf H Q=>∃(p:Addr)(a:Om),f=[.ref p]/\H p=some (xy P w p (a.map Sum.inr))/\a.length<64/\∀(q:Addr)(c:Om),H q=none->c.Perm a->c.Pairwise ng->Q (.ref q) (aD H q (.lst (c.map V.str)))):=by subst d;subst e;exact zO hc
end
section
variable{X:Cx}
end
end L2
namespace L2
open PySem PySem.W PyProof.Rows
def lP(P:Ol)(w:World):Ac:=λouter H s E e a=>∃(d:Addr)(C:Value)(B:Heap)(t:Addr)(c:Hp),e=.ref d/\a.os=s.os/\AllBare a.gens/\Un (j0 outer) [] H c s.heap a.heap/\lO P w c a.heap/\Heap.FlyingW B outer d C (.ref t) a.heap/\(∀b o,c b=some o->∃u,B.get? b=some u)/\(∀b o,s.heap.get? b=some o->b∉j0 outer->∃u,B.get? b=some u)/\E C none c
def zC(h:env.frame=some L):j0 (env::l)=L::j0 l:=by unfold j0;rw[Nb,h]
def lO.flown{P:Ol}{w:World}{H:Hp}{h h' B:Heap}(x:lO P w H h)(c:∀b o,H b=some o->∃u,B.get? b=some u)(k:B.StaysIn h)(l:B.StaysIn h'):lO P w H h':=λa o e=>(x a o e).stay (λb u d q=>by
  obtain⟨f,g⟩:∃f,H b=some f:=by
   rcases d with rfl|d
   ·exact⟨_,e⟩
   ·exact⟨_,d⟩
  obtain⟨v,i⟩:=c b f g;have j:=k b v i;rw[q]at j;cases j;exact l b _ i) (λ_ q=>q) λ_ _ q=>q
section
variable{P:Ol}{w:World}{K:Of}{mg:Oi}{base:Heap}{N:Om}{a:Str}{scope:Scope}{f:Addr}{cd:Value}{A:Around}{outer:List Env}{c:Shared}{d:Hp}{E:XK}
def bo:mJ (lP P w) (rH (lP P w) P w K mg base N a scope f cd A outer c d E) E:=by
 rintro O X H s e G I⟨J,C,B,t,Q,rfl,os,bare,un,hok,r,m,h,q⟩;have v:(envOfC a scope c.heap.objs.size f cd).frame=some c.heap.objs.size:=rfl;have x:j0 (envOfC a scope c.heap.objs.size f cd::outer)=c.heap.objs.size::j0 outer:=zC v;have j:Un (j0 outer) [] d H c.heap s.heap:=I.base;have un:Un (j0 (envOfC a scope c.heap.objs.size f cd::outer)) [] H Q s.heap G.heap:=un;have h:∀b o,s.heap.get? b=some o->b∉j0 (envOfC a scope c.heap.objs.size f cd::outer)->∃u,B.get? b=some u:=h;have r:Heap.FlyingW B (envOfC a scope c.heap.objs.size f cd::outer) J C (.ref t) G.heap:=r;have y:∀b o,c.heap.get? b=some o->b∉j0 outer->b∉j0 (envOfC a scope c.heap.objs.size f cd::outer):=λb o e g hm=>by
  rw[x]at hm;rcases q_.mp hm with rfl|hm
  ·exact absurd (g_ e) (ot _)
  ·exact g hm
 have p:∀b o,c.heap.get? b=some o->b∉j0 outer->∃u,B.get? b=some u:=λb o e g=>by obtain⟨L,i⟩:=j.there b o e (by simp);exact h b L i (y b o e g)
 show wpAny (model P w) (A.deeper (envOfC a scope c.heap.objs.size f cd)) (leaving (envOfC a scope c.heap.objs.size f cd) (.ref J)) _ _ G;refine wpAny_leaves_onW (outer:=outer) I.ok.frames v r λh' k up=>?_;refine⟨J,C,B,t,Q,rfl,os.trans I.os,bare,?_,hok.flown m r.1 k.1,k,m,p,q⟩;have slot:∀b o,c.heap.get? b=some o->d b=none->b∈j0 outer->∃sl,h'.get? b=some {o with slots:=sl}:=λb o e n g=>by
  obtain⟨sl,i⟩:=j.slot b o e n g (by simp);have n1:=j.free b o e n (by simp);obtain⟨T,z⟩:=un.slot b _ i n1 (by rw[x];exact hY _ g) (by simp);obtain⟨_,R,l,hd⟩:=I.ok.funs.mem g;have:R=o:=by have l:c.heap.get? b=some R:=l;rw[e]at l;exact(j1 l).symm
  subst this;obtain⟨M,D⟩:=up b _ z hd;exact⟨M,D⟩
 refine⟨λb o e n g _=>?_,λb o e n g _=>slot b o e n g,λb o e n _=>?_,λb o e _=>?_,λb S e=>un.tups b S (j.tups b S e),λb o u e=>un.frzs b o u (j.frzs b o u e),λb U e=>?_⟩
 ·have i:=j.keep b o e n g (by simp);have n1:=j.free b o e n (by simp);have z:=un.keep b o i n1 (y b o e g) (by simp);obtain⟨u,F⟩:=p b o e g;have D:=r.1 b u F;rw[z]at D;cases D;exact k.1 b _ F
 ·obtain⟨L,i⟩:=j.there b o e (by simp);exact un.free b L i (j.free b o e n (by simp)) (by simp)
 ·by_cases g:b∈j0 outer
  ·have n:d b=none:=I.ok.frf b g;obtain⟨sl,i⟩:=slot b o e n g;exact⟨_,i⟩
  ·obtain⟨u,F⟩:=p b o e g;exact⟨u,k.1 b u F⟩
 ·obtain⟨V,i⟩:=j.tbls b U e;obtain⟨W,z⟩:=un.tbls b _ i;exact⟨V++W,by rw[z,Array.append_assoc]⟩
end
def c8.held{P:Ol}{w:World}{H:Hp}{h:Heap}{a:Addr}{o:HO}(x:c8 P w H h a o):∃u,h.get? a=some u:=by cases o with|lst c=>obtain⟨_,_,_,_,e⟩:=x;exact⟨_,e⟩|tup c=>obtain⟨_,_,_,_,e,_⟩:=x;exact⟨_,e⟩|dK b=>obtain⟨_,_,_,_,o,_,_,e,_⟩:=x;exact⟨_,e⟩|dT b=>obtain⟨_,_,_,_,o,_,_,e,_⟩:=x;exact⟨_,e⟩|set S n=>obtain⟨o,_,_,_,e,_⟩:=x;exact⟨_,e⟩|ins C dx fs=>obtain⟨_,_,_,e,_⟩:=x;exact⟨_,e⟩|own y=>exact x|xd fs=>obtain⟨_,⟨_,_,_,e,_⟩,_⟩:=x;exact⟨_,e⟩|rng lo hi=>obtain⟨_,_,_,e⟩:=x;exact⟨_,e⟩|frz ob u=>exact⟨_,x.1⟩|tbl d=>exact⟨_,(show h.get? a=some _ from x)⟩|met f y=>exact⟨_,(show h.get? a=some _ from x)⟩|ext φ=>exact x.2.1
def F5(X:Cx)(E:XK):Prop:=∀(a:Oh)(c:St)(H:Hp)(s:Shared)(C:Value)(d:Oj)(h':Heap)(b:Addr),aU X a c H s->Heap.MadeExcOf s.heap h' b C d->E C none H->X.xe (.ref b) {s with heap:=h'}
section
variable{P:Ol}{w:World}{K:Of}{mg:Oi}{base:Heap}{N:Om}{a:Str}{scope:Scope}{f:Addr}{cd:Value}{A:Around}{outer:List Env}{c:Shared}{d:Hp}{E:XK}
def kr:F5 (rH (lP P w) P w K mg base N a scope f cd A outer c d E) E:=by
 intro L V H s C W h' M I O q;have m:(envOfC a scope c.heap.objs.size f cd).frame=some c.heap.objs.size:=rfl;have z:j0 (envOfC a scope c.heap.objs.size f cd::outer)=c.heap.objs.size::j0 outer:=zC m;have k:Un (j0 outer) [] d H c.heap s.heap:=I.base;have p:∀b o,c.heap.get? b=some o->b∉j0 outer->b∉j0 (envOfC a scope c.heap.objs.size f cd::outer):=λb o e g hm=>by
  rw[z]at hm;rcases q_.mp hm with rfl|hm
  ·exact absurd (g_ e) (ot _)
  ·exact g hm
 generalize D:hideAll s.heap (j0 (envOfC a scope c.heap.objs.size f cd::outer))=B;have l:∀{b o},s.heap.get? b=some o->b∉j0 (envOfC a scope c.heap.objs.size f cd::outer)->B.get? b=some o:=λe g=>by rw[<-D];exact hideAll_get _ e g
 have r:B.StaysIn s.heap:=λb o e=>by rw[<-D]at e;exact of_hideAll _ e
 have fr:s.heap.FunFrames B (envOfC a scope c.heap.objs.size f cd::outer):=by rw[<-D];exact funFrames_hide (base:=base) I.stack λenv R b g=>Nf.mpr ⟨env,R,g⟩
 have v:∀b o,c.heap.get? b=some o->b∉j0 outer->∃u,B.get? b=some u:=λb o e g=>by obtain⟨S,x⟩:=k.there b o e (by simp);exact⟨S,l x (p b o e g)⟩
 have j:∀b o,H b=some o->∃u,B.get? b=some u:=λb o e=>by obtain⟨u,F⟩:=(I.hok b o e).held;exact⟨u,l F λhm=>by have n:H b=none:=I.stkFree b hm;rw[e]at n;cases n⟩
 show wpAny (model P w) (A.deeper (envOfC a scope c.heap.objs.size f cd)) (leaving (envOfC a scope c.heap.objs.size f cd) (.ref M)) _ _ _;refine wpAny_leaves_madeW (outer:=outer) (h:=s.heap) I.ok.frames m r fr O λG t y tup _ up=>?_;refine⟨M,C,B,t,H,rfl,I.os,I.bare,?_,I.hok.flown j r y.1,y,j,v,q⟩;have slot:∀b o,c.heap.get? b=some o->d b=none->b∈j0 outer->∃sl,G.get? b=some {o with slots:=sl}:=λb o e n g=>by
  obtain⟨sl,x⟩:=k.slot b o e n g (by simp);have T:=O.keeps _ _ x;obtain⟨_,Q,i,hd⟩:=I.ok.funs.mem g;have:Q=o:=by have i:c.heap.get? b=some Q:=i;rw[e]at i;exact(j1 i).symm
  subst this;obtain⟨J,U⟩:=up b _ T hd;exact⟨J,U⟩
 refine⟨λb o e n g _=>?_,λb o e n g _=>slot b o e n g,λb o e n _=>k.free b o e n (by simp),λb o e _=>?_,k.tups,k.frzs,k.tbls⟩
 ·exact y.1 b o (l (k.keep b o e n g (by simp)) (p b o e g))
 ·by_cases g:b∈j0 outer
  ·obtain⟨sl,x⟩:=slot b o e (I.ok.frf b g) g;exact⟨_,x⟩
  ·obtain⟨u,F⟩:=v b o e g;exact⟨u,y.1 b u F⟩
end
def xt:List Value:=[.type "ValueError",.type "Exception",.type "BaseException",.type "object"]
def tZ(K:Of)(C:Addr):Prop:=excIn K C xt "ValueError.__new__"=true
theorem tZ.at{K:Of}{C:Addr}{h:Heap}(kin:K.In h)(x:tZ K C):∃l N nm q bs hd g sub i d dd s k1 k2 k3 t m,h.get? C=some (excClassObj nm q C N bs l hd g sub i d dd s k1 k2 k3 t "ValueError.__new__")/\h.Ns N m/\m "__init__"=none/\OwnTail h xt l:=by
 unfold tZ excIn at x
 split at x
 ·rename_i dd c sl look
  split at x
  ·rename_i B u k n o p v r a slots;simp only[kw,beq_iff_eq,Bool.not_eq_true']at x;obtain⟨⟨⟨⟨⟨w,y⟩,e⟩,j⟩,b⟩,f⟩:=x;subst w y;rcases c with⟨nm,bs,z,ns,A,hd,g,sub,i,d,dl⟩;dsimp only at a e b f;subst a;subst e;obtain rfl:sl=#[k,n,o,p,some (.builtin "ValueError.__new__"),r]:=by rcases sl with⟨list⟩;exact r_ Array.mk slots
   exact⟨u,ns,nm,A,bs,hd,g,sub,i,d,dd,k,n,o,p,r,_,kin _ _ look,.of_isNs (isNs_of_in kin b),nsMap_none_of_in kin b f,tail_of_in kin j⟩
  ·cases x
 ·cases x
def IT(C:Addr)(E:XK)(t:TA):TS:=λ_ a H=>t a H λb c=>b.length<=sizeLine/\E (.ref C) none c
def kx{X:Cx}{C:Addr}{E:XK}{x:Str}{P a i:Pos}{e:Expr}{d:On}{t:TA}(Q:tZ X.K C)(hg:Gl X x)(hm:X.mg x=some (.ref C))(hc:X.calm=true)(R:F5 X E)(S:PA X (e::d) t)(j:(x==("__debug__":Str))=false:=by decide)(u:starEach (e::d) X.env=(false,eval e X.env)::starEach d X.env:=by rfl)(l:(backTo a (starEach d X.env)).any (·.1)=false:=by rfl):PS X (.Raise (some (.Call (.Name x P) (e::d) [] a)) none i) (IT C E t):=by
 intro c s v H D I h;obtain⟨w,N,nm,q,bs,hd,y,sub,A,f,dd,B,k1,k2,k3,G,J,U,V,k,T⟩:=Q.at I.mod.kin;refine wpAny_Raise_call_subT (C:=C) (N:=N) (bm:=w) (mN:=J) (bmB:=xt) (newId:="ValueError.__new__") (nm:=nm) (q:=q) (bs:=bs) (hdct:=hd) (sn:=y) (sub:=sub) (ab:=A) (col:=f) (dd:=dd) (k0:=B) (k1:=k1) (k2:=k2) (k3:=k3) (k5:=G) PySem.F.excBase_ValueError (T.hasType PySem.F.excBase_ValueError.hasBase) (I.ok.hd hc) ?_ k (jM I hg hm ⟨rfl,?_⟩ j)
 ·rw[u];show(false||(backTo a (starEach d X.env)).any (·.1))=false;rw[l];rfl
 ·have g:=S a c s v H _ I h;rw[u]at g⊢;refine sT (cB g λM O Y=>?_);obtain⟨vs,Z,I1,r,z,q1⟩:=Y;have p:∀b o,X.base.get? b=some o->O.heap.get? b=some o:=I1.bk;exact⟨rfl,by show M.length<=_;rw[<-r.length];exact z,p _ _ U,V.keeps p,T.keeps p,λh' ea m=>R c v Z O (.ref C) M h' ea I1 m q1⟩
end L2
namespace L2
open PySem PySem.W PyProof.Rows
def Un.flown{fs:Oq}{H i:Hp}{h1 h' h5 B:Heap}(un:Un fs [] H i h1 h')(c:∀b o,h1.get? b=some o->b∉fs->∃u,B.get? b=some u)(k:B.StaysIn h')(j:B.StaysIn h5)(up:h'.UpToSlots h5)(fr:∀b∈fs,H b=none/\∀o,h1.get? b=some o->∀l,o.data≠.fields l):Un fs [] H i h1 h5:=by
 have slot:∀b o,h1.get? b=some o->H b=none->b∈fs->∃sl,h5.get? b=some {o with slots:=sl}:=λb o e n a=>by obtain⟨sl,g⟩:=un.slot b o e n a (by simp);obtain⟨h,d⟩:=up b _ g ((fr b a).2 o e);exact⟨h,d⟩
 refine⟨λb o e n a m=>?_,λb o e n a _=>slot b o e n a,un.free,λb o e _=>?_,un.tups,un.frzs,un.tbls⟩
 ·have p:=un.keep b o e n a m;obtain⟨u,f⟩:=c b o e a;have d:=k b u f;rw[p]at d;cases d;exact j b _ f
 ·by_cases a:b∈fs
  ·obtain⟨sl,g⟩:=slot b o e (fr b a).1 a;exact⟨_,g⟩
  ·obtain⟨u,f⟩:=c b o e a;exact⟨u,j b u f⟩
abbrev Cx.inExc(X:Cx)(a:Addr):Cx:={X with A:=X.A.mark (some (.ref a)),calm:=false,xe:=λ_ _=>False}
section
variable{X:Cx}{a:Oh}{d:St}{H:Hp}{s:Shared}{c:Addr}
theorem Cx.Ok.inExc(ok:X.Ok)(c:Addr):(X.inExc c).Ok:=⟨ok.mod,ok.kind,ok.glob,ok.blt,ok.above,ok.inj,ok.has,ok.cab,λz=>absurd z (by simp),ok.frames,ok.stk,ok.exf,ok.bs,ok.bsz,ok.noex,ok.exfs,ok.funs,ok.frf⟩
theorem aU.inExc(I:aU X a d H s)(c:Addr):aU (X.inExc c) a d H s:=⟨I.ok.inExc c,I.os,I.bare,I.base,I.loc,I.cell,I.free,I.freeC,I.pin,I.hok,I.len⟩
def aU.outExc(ok:X.Ok)(I:aU (X.inExc c) a d H s):aU X a d H s:=⟨ok,I.os,I.bare,I.base,I.loc,I.cell,I.free,I.freeC,I.pin,I.hok,I.len⟩
theorem SP.outExc(ok:X.Ok)(h:SP (X.inExc c) a D f g):SP X a D f g:=by cases f with|next=>obtain⟨b,e,I,q⟩:=h;exact⟨b,e,I.outExc ok,q⟩|brk=>obtain⟨b,e,I,q⟩:=h;exact⟨b,e,I.outExc ok,q⟩|cont=>obtain⟨b,e,I,q⟩:=h;exact⟨b,e,I.outExc ok,q⟩|ret u=>obtain⟨v,b,e,I,r,q⟩:=h;exact⟨v,b,e,I.outExc ok,r,q⟩
end
def jn(c:Ac)(X:Cx)(E:XK)(a:Oh)(d:St):Prop:=∀(H:Hp)(s:Shared)(e:Value)(b:Shared),aU X a d H s->c X.stack H s E e b->X.xe e b
def Kv(X:Cx)(a:Oh)(c:St)(e:Expr)(t:TE):Prop:=∀(s:Shared)(H:Hp)(Q:VK),aU X a c H s->t c H Q->wpAny (model X.prog X.w) X.A (eval e X.env) (EP X a c Q) X.xe s
def F7(X:Cx)(a:Oh)(c:St)(st:Stmt)(t:TS):Prop:=∀(s:Shared)(H:Hp)(D:jq),aU X a c H s->t D c H->wpAny (model X.prog X.w) X.A (exec st X.env) (SP X a D) X.xe s
structure Aa(X:Cx)(pins:Oh)(σ:St)(ea:Addr)(C':Value)(H':Hp)(s:Shared):Prop where
 inv:aU X pins σ H' s
 fly:∃(B:Heap)(t:Addr),Heap.FlyingW B X.stack ea C' (.ref t) s.heap/\∀h6,B.StaysIn h6->s.heap.UpToSlots h6->aU X pins σ H' {s with heap:=h6}nh:H' ea=none
 src:∃(H1:Hp)(s1:Shared),aU X pins σ H1 s1/\s1.heap.get? ea=none
def Aa.run{X:Cx}{a:Oh}{d:St}{c:Addr}{m:Value}{e:Hp}{s:Shared}{D:jq}{b:List Stmt}{j:TS}{A:Around}{l:Flow->Shared->Prop}{n o:Og}(L:Aa X a d c m e s)(hh:∀c,tY (X.inExc c) b j)(g:j D d e)(p:∀f s,SP X a D f s->l f s):wpAny (model X.prog X.w) A (setFlight (.ref c) none) (λ_ s₁=>wpAny (model X.prog X.w) (X.A.mark (some (.ref c))) (execs b X.env) l n s₁) o s:=by obtain⟨B,t,q,k⟩:=L.fly;exact lands_againW q λh6 h i=>wpAny_mono (hh c a _ d e D ((k h6 h.1 i).inExc c) g) (λf r z=>p f r (z.outExc L.inv.ok)) λ_ _ z=>z.elim
def Aa.obj{X:Cx}{a:Oh}{e:St}{c:Addr}{d:Value}{f:Hp}{s:Shared}(L:Aa X a e c d f s):∃o,s.heap.get? c=some o/\o.cls=d:=by obtain⟨B,t,b,k⟩:=L.fly;exact b.there
def Aa.keep{X:Cx}{a:Oh}{c:St}{d:Addr}{e:Value}{g:Hp}{s:Shared}{h':Heap}(L:Aa X a c d e g s)(k:∀b o,s.heap.get? b=some o->h'.get? b=some o):Aa X a c d e g {s with heap:=h'}:=by obtain⟨B,t,h,l⟩:=L.fly;have up:s.heap.UpToSlots h':=λb o i _=>⟨o.slots,k _ _ i⟩;have f:=flying_keeps h k;exact⟨l h' f.1 up,⟨B,t,f,λh6 j m=>l h6 j (up.trans m)⟩,L.nh,L.src⟩
def Id(X:Cx)(a:Oh)(c:St)(bs:List Stmt)(t:TS):Prop:=∀(s:Shared)(H:Hp)(D:jq),aU X a c H s->t D c H->wpAny (model X.prog X.w) X.A (execs bs X.env) (SP X a D) X.xe s
def EF{X:Cx}{a:Oh}{c:St}{st:Stmt}{t:TS}(h:F7 X a c st t):Id X a c [st] t:=λs H D I q=>Nt (cB (h s H D I q) λf b z=>by cases f with|next=>exact M7 z|ret v=>exact z|brk=>exact z|cont=>exact z)
def yC{X:Cx}{bs:List Stmt}{h0:ExceptHandler}{Q:List ExceptHandler}{W:XK->TS}{R:Value->Hp->Prop}{S:Pos}{a:Oh}{s:Shared}{i:St}{H:Hp}{D:jq}(n:X.stack=X.env::X.outer)(C:X.env.frame=some X.env.locals)(P:∀(E:XK)(a:Oh)(i:St)(Z:Og),jn (lP X.prog X.w) (X.wish Z) E a i->Id (X.wish Z) a i bs (W E))(I:aU X a i H s)(h:W (λj _ g=>R j g) D i H)(hc:∀c j g s5,R j g->Aa X a i c j g s5->wpAny (model X.prog X.w) X.A (handleBy (.ref c) X.env (h0::Q)) (SP X a D) X.xe s5):wpAny (model X.prog X.w) X.A (exec (.Try bs (h0::Q) [] [] S) X.env) (SP X a D) X.xe s:=by
 refine wpAny_Try_except ?_;have hp:jn (lP X.prog X.w) (X.wish λe s₁=>wpAny (model X.prog X.w) X.A (noteFrame e X.env) (λ_ F=>wpAny (model X.prog X.w) X.A (setFlight e none) (λ_ G=>wpAny (model X.prog X.w) X.A (handleBy e X.env (h0::Q)) (SP X a D) X.xe G) X.xe F) X.xe s₁) (λj _ g=>R j g) a i:=by
  rintro O p e q I1⟨c,j,B,t,g,rfl,os,bare,un,hok,r,l,d,T⟩;have I1:=I1.unwish;have un:Un (j0 X.stack) [] O g p.heap q.heap:=un;have r:Heap.FlyingW B X.stack c j (.ref t) q.heap:=r;have d:∀b o,p.heap.get? b=some o->b∉j0 X.stack->∃u,B.get? b=some u:=d;have x:∀b∈j0 X.stack,O b=none/\∀o,p.heap.get? b=some o->∀U,o.data≠.fields U:=λb P=>by refine⟨I1.stkFree b P,λo e=>?_⟩;obtain⟨_,o',J,hd⟩:=I1.stack.mem P;rw[e]at J;cases J;exact hd
  have Y:∀b u,B.get? b=some u->b≠c:=λb u e z=>by rw[z,r.2.1]at e;cases e
  have nh:g c=none:=by cases z:g c with|none=>rfl|some o=>exact absurd rfl (Y _ _ (l _ _ z).choose_spec)
  have nw:p.heap.get? c=none:=by cases z:p.heap.get? c with|none=>rfl|some o=>
    by_cases C:c∈j0 X.stack
    ·obtain⟨sl,e1⟩:=un.slot c o z (x c C).1 C (n_);obtain⟨_,_,_,oe,U,_,_,_,he,_,hd,_⟩:=r;rw[he]at e1;cases e1;exact absurd hd ((x c C).2 o z U)
    ·exact absurd rfl (Y _ _ (d _ _ z C).choose_spec)
  have m:∀h5,B.StaysIn h5->q.heap.UpToSlots h5->aU X a i g {q with heap:=h5}:=λh5 k up=>I1.call' (s':={q with heap:=h5}) (ch:=[]) os (un.flown d r.1 k up x) (hok.flown l r.1 k) bare λb z=>absurd z (by simp)
  show wpAny (model X.prog X.w) X.A (noteFrame (.ref c) X.env) _ X.xe q;have K:=r;rw[n]at K;refine wpAny_looks_onW (outer:=X.outer) (by rw[I.ok.frames,n]) C K λh4 y L=>?_;refine wpAny_landsW y λh5 M N=>hc c j g _ T ⟨m h5 M.1 (L.trans N),⟨B,t,by rw[n];exact M,λh6 k6 V=>m h6 k6 ((L.trans N).trans V)⟩,nh,O,p,I1,nw⟩
 refine wpAny_mono (P _ a i _ hp s H D (I.wish _) h) (λf p z=>?_) λ_ _ z=>z;have z:=z.unwish;cases f with|next=>exact M7 z|ret v=>exact z|brk=>exact z|cont=>exact z
section
variable{X:Cx}{L:Ac}{k:Nat}{f C:Addr}{fd:FuncData}{J:Om}{sp:Sp}{j:List V}{ds:Oj}{E:XK}{x m:Str}{p i G:Pos}{e o:Expr}{B:On}{M:TE}{t:TA}{d:Oh}{n:St}
def Er(F:aT X.prog X.w X.K X.mg X.base L k f fd J sp)(c:eQ k X.A)(g:fC X.K fd J ds)(hd:bq j ds)(l:jn L X E d n)(I:aU X d n H s)(r:bq vs us)(h:sp (vs++j) H Q E):wpAny (model X.prog X.w) X.A (call (.ref f) us) (EP X d n Q) X.xe s:=by
 have a:bq (vs++j) (us++ds):=r.append hd;have len:(us++ds).length=J.length:=a.length▸F.len _ _ _ _ h;refine NB (wr (F.run X.A X.stack s H ⟨us,[]⟩ (us++ds) (vs++j) Q E c I.env0 (g s us I.kIn len) a h) λb q z=>?_);rcases b with ex|v
 ·exact l H s ex q I z
 ·cases v with|ret u=>exact I.after z|next=>cases z|brk=>cases z|cont=>cases z
def Hm(P:PE X o M)(c:yw X.K C)(hm:Gc X.K C m f)(F:aT X.prog X.w X.K X.mg X.base L k f fd J sp)(R:eQ k X.A)(S:fC X.K fd J ds)(hd:bq j ds)(T:jn L X E d n)(Z:PA X (e::B) t)(y:starEach (e::B) X.env=(false,eval e X.env)::starEach B X.env:=by rfl)(z:(backTo i (starEach B X.env)).any (·.1)=false:=by rfl)(ht:eval (.Call (.Attribute o m G) (e::B) [] i) X.env=(do
   let obj<-eval o X.env
   standAt G.atName let(g,first)<-holding [obj] (getMethod obj m pl)callWith i g first (backTo i (starEach (e::B) X.env)) (backToKw i (keywordEach [] X.env))):=by rfl):Kv X d n (.Call (.Attribute o m G) (e::B) [] i) (DE C m sp j E M t):=by intro s H Q I h;refine PySem.W.methodCall_KW (pl:=pl) (cB (P d s n H _ I h) λu U⟨v,Y,I1,rv,a,dx,fs,ev,ea,l,q⟩=>?_) ht;subst ev;cases(show u=Value.ref a from rv);refine oK I1 ea c hm l (PySem.W.callWith_K (first:=[.ref a]) (h₀:=X.base) I.ok.mod.kin hm.kp (cB (Z i d U n Y _ I1 q) λD s2⟨N,H2,O,r,q2⟩=>⟨O.kIn,?_⟩) y z);exact Er (us:=.ref a::D) (vs:=.ref a::N) F R S hd T O (.cons rfl r) q2
def B2(F:aT X.prog X.w X.K X.mg X.base L k f fd J sp)(g:eQ k X.A)(hg:Gl X x)(hm:X.mg x=some (.ref f))(l:PySem.W.keepIn X.K (.ref f)=true)(u:fC X.K fd J ds)(hd:bq j ds)(v:jn L X E d n)(y:PA X (e::B) t)(a:(x==("__debug__":Str))=false:=by decide)(z:starEach (e::B) X.env=(false,eval e X.env)::starEach B X.env:=by rfl)(c:(backTo i (starEach B X.env)).any (·.1)=false:=by rfl):Kv X d n (.Call (.Name x p) (e::B) [] i) (DH sp j E t):=by intro s H Q I h;refine rk (jM I hg hm (PySem.W.callWith_K (h₀:=X.base) I.ok.mod.kin l (cB (y i d s n H _ I h) λD N⟨O,P,I1,r,q⟩=>⟨I1.kIn,?_⟩) z c) a);exact Er F g u hd v I1 r q
def x9(a:Kv X d n e te)(c:swapsWith e none i.line X.env=pure false:=by rfl):F7 X d n (.Expr e i) (Io te):=by intro s H D I h;exact wpAny_Expr_any (cB (a s H _ I h) λv l⟨y,b,I1,q,g⟩=>⟨n,b,I1,g⟩) I.quiet c
end
theorem PS.nox{X:Cx}{st:Stmt}{t:TS}(h:PS X.nox st t):PS X st t:=λa s b H D I c=>wpAny_mono (h a s b H D (I.wish _) c) (λ_ _ q=>q.unwish) λ_ _ z=>False.elim z
section
variable{P:Ol}{w:World}{K:Of}{mg:Oi}{base:Heap}
def yu.okE{x a:Str}{st:Stmt}{f:Addr}{fd:FuncData}{N g:Om}{k:Nat}{sp:Sp}(F:yu K x a st f fd)(S:aA N g (ak st))(len:∀d H Q E,sp d H Q E->d.length=g.length)(e:∀(c:Value)(A:Around)(outer:List Env)(s:Shared)(H:Hp)(d:List V)(Q:VK)(E:XK),eQ k (A.deeper (envOfC a (ak st) s.heap.objs.size f c))->sp d H Q E->∃t,tY (rH (lP P w) P w K mg base N a (ak st) f c A outer s H E) (gI st) t/\t {nx:=λ_ i=>Q .non i,rt:=Q} (i8 N d) H):aT P w K mg base (lP P w) (k+1) f fd g sp:=by obtain⟨oc,n,kV,j,pm,o,c,ct,l,rfl,lk,b⟩:=F.ex;exact IB lk b S len λA outer s H d Q E m h=>e c A outer s H d Q E m h
end
def HQ(s:Stmt):List Stmt:=match s with|.ClassDef _ _ _ b _ _ _ _ _ _ _=>b|_=>[]
end L2
namespace L2
open PySem PySem.W PyProof.Rows
abbrev cn:=cp⊕List cp
section
variable(P:Ol)(w:World)
def iB:cn->Int|.inl k=>(bd P w).hash k|.inr []=>hashW w.params .none|.inr (k::a)=>(tupleKind (bd P w)).hash (k::a)
def jX:cn->Nat|.inl _=>1|.inr a=>a.length+1
def lj(h:Heap)(k:cn)(v:Value):Prop:=match k with|.inl k=>(bd P w).is k v=true|.inr []=>v=.none|.inr (k::b)=>∃a,v=.ref a/\(tupleKind (bd P w)).is h (k::b) a
abbrev j6:=cn×Value×Value
def tG(x:j6):DictEntry:=⟨iB P w x.1,x.2.1,x.2.2⟩
end
section
variable{P:Ol}{w:World}{A:Around}{E:Og}{s:Shared}
def lj.flat(x:lj P w h (.inl k) v):(∃i t,v=.int i t/\k=.inl i)\/∃z t,v=.str z t/\k=.inr z:=by have x:n9 k v=true:=x;cases k with
 |inl i=>have x:Value.isInt i v=true:=x;cases v with|int j t=>simp[Value.isInt]at x;exact .inl ⟨_,_,rfl,by rw[x]⟩|_=>cases x
 |inr z=>have x:Value.isStrOf z v=true:=x;cases v with|str j t=>simp[Value.isStrOf]at x;exact .inr ⟨_,_,rfl,by rw[x]⟩|_=>cases x
def E9(d:A.units<cLine)(c:lj P w s.heap k v)(q:Q (iB P w k) {s with toks:=s.toks+jX k}):wpAny (model P w) A (pyHash v) Q E s:=by match k,c,q with|.inl k,c,q=>exact(bd P w).pyHash c q|.inr [],c,q=>cases c;exact pyHash_slot (T:="NoneType") rfl F.slot_NoneType_hash F.entry_NoneType_hash (F.args_NoneType_hash_1 _) (beq_builtin_none _) (.inr (by omega)) (a_ (e_ (a_ (wpAny_mkInt (e_ ⟨_,_,rfl,q⟩)))))|.inr (k::e),c,q=>obtain⟨a,rfl,b⟩:=c;exact(tupleKind (bd P w)).pyHash d b q
def LX:SeqAt.EqAt A s .none .none true:=λprog w E Q a=>by unfold eqBool;refine mu ?_;exact rd (λ_=>a_ (tA (e_ a))) (λz=>absurd (by decide) z)
def Hq(f:A.units<cLine)(d:lj P w s.heap x u)(c:lj P w s.heap y v)(q:Q (decide (x=y)) s):wpAny (model P w) A (eqBool u v) Q E s:=by match x,d,q with
 |.inl x,d,q=>match y,c,q with
  |.inl y,c,q=>exact(bd P w).eqBool d c (by simpa using q)|.inr [],c,q=>
   cases c;rw[i_ (by intro z;cases z)]at q;rcases lj.flat d with⟨i,t,rfl,_⟩|⟨z,t,rfl,_⟩
   ·exact SeqAt.EqAt.int_none i t P w E Q q
   ·exact SeqAt.EqAt.str_none z t P w E Q q|.inr (k::j),c,q=>
   obtain⟨a,rfl,o,g,n,e,hc,hd,hi⟩:=c;rw[i_ (by intro z;cases z)]at q;rcases lj.flat d with⟨i,t,rfl,_⟩|⟨z,t,rfl,_⟩
   ·exact SeqAt.EqAt.int_tuple i t ⟨_,e,hc,_,hd⟩ f P w E Q q
   ·exact SeqAt.EqAt.str_tuple z t ⟨_,e,hc,_,hd⟩ f P w E Q q
 |.inr [],d,q=>
  cases d
  match y,c,q with
  |.inl y,c,q=>
   rw[i_ (by intro z;cases z)]at q;rcases lj.flat c with⟨i,t,rfl,_⟩|⟨z,t,rfl,_⟩
   ·exact SeqAt.EqAt.none_int i t P w E Q q
   ·exact SeqAt.EqAt.none_str z t P w E Q q|.inr [],c,q=>cases c;rw[ji rfl]at q;exact LX P w E Q q|.inr (k::j),c,q=>obtain⟨a,rfl,o,g,n,e,hc,hd,hi⟩:=c;rw[i_ (by intro z;cases z)]at q;exact SeqAt.EqAt.none_tuple ⟨_,e,hc,_,hd⟩ f P w E Q q
 |.inr (k::j),d,q=>
  obtain⟨a,rfl,h⟩:=d
  match y,c,q with
 |.inl y,c,q=>
   obtain⟨o,g,n,e,hc,hd,hi⟩:=h;rw[i_ (by intro z;cases z)]at q;rcases lj.flat c with⟨i,t,rfl,_⟩|⟨z,t,rfl,_⟩
   ·exact SeqAt.EqAt.tuple_int i t ⟨_,e,hc,_,hd⟩ f P w E Q q
   ·exact SeqAt.EqAt.tuple_str z t ⟨_,e,hc,_,hd⟩ f P w E Q q|.inr [],c,q=>cases c;obtain⟨o,g,n,e,hc,hd,hi⟩:=h;rw[i_ (by intro z;cases z)]at q;exact SeqAt.EqAt.tuple_none ⟨_,e,hc,_,hd⟩ f P w E Q q|.inr (l::ls),c,q=>obtain⟨b,rfl,m⟩:=c;exact(tupleKind (bd P w)).eqBool f h m (by simpa using q)
def BO(c:lj P w s.heap k v)(q:Q true s):wpAny (model P w) A (eqIsQuiet 8 v) Q E s:=by match k,c with
 |.inl k,c=>
  rcases lj.flat c with⟨i,t,rfl,_⟩|⟨z,t,rfl,_⟩
  ·exact e_ q
  ·exact e_ q|.inr [],c=>cases c;exact e_ q|.inr (k::d),c=>obtain⟨a,rfl,b⟩:=c;exact(tupleKind (bd P w)).quiet b q
theorem lj.inj(d:lj P w h x v)(c:lj P w h y v):x=y:=by match x,d with
 |.inl x,d=>match y,c with|.inl y,c=>rw[(bd P w).inj v x y d c]|.inr [],c=>cases c;rcases lj.flat d with⟨i,t,e,_⟩|⟨z,t,e,_⟩<;>cases e|.inr (k::f),c=>obtain⟨a,rfl,_⟩:=c;rcases lj.flat d with⟨i,t,e,_⟩|⟨z,t,e,_⟩<;>cases e
 |.inr [],d=>
  cases d
  match y,c with|.inl y,c=>rcases lj.flat c with⟨i,t,e,_⟩|⟨z,t,e,_⟩<;>cases e|.inr [],_=>rfl|.inr (k::f),c=>obtain⟨a,e,_⟩:=c;cases e
 |.inr (k::f),d=>
  obtain⟨a,rfl,g⟩:=d
  match y,c with|.inl y,c=>rcases lj.flat c with⟨i,t,e,_⟩|⟨z,t,e,_⟩<;>cases e|.inr [],c=>cases c|.inr (l::ls),c=>obtain⟨b,e,j⟩:=c;cases e;rw[(tupleKind (bd P w)).inj g j]
def Ho{k:cn}{v:Value}{st:Oj}{Q:Bool->Shared->Prop}(d:lj P w s.heap k v)(e:∀u∈st,∃a,lj P w s.heap a u)(q:Q false s):wpAny (model P w) A (tableMayTell v st) Q E s:=by
 unfold tableMayTell
 split
 ·exact e_ q
 ·refine a_ (BO d ?_);simp only[Bool.not_true,F_,Nv];refine a_ (N6 _ (λleft r b=>b=s/\r=(none,())/\∀u∈left,∃a,lj P w s.heap a u) _ ?_ ?_ _ _ ⟨rfl,rfl,e⟩)
  ·rintro u left r b⟨rfl,rfl,c⟩;obtain⟨a,f⟩:=c u il;refine a_ (BO f ?_);simp only[Bool.not_true,F_,Nv];exact e_ ⟨rfl,rfl,λz g=>c z (hY _ g)⟩
  ·rintro r b⟨rfl,rfl,_⟩;exact e_ q
def LF{a:Array DictEntry}{c:List j6}(d:a.toList=c.map (tG P w))(j:Nat):a[j]?=(c[j]?).map (tG P w):=by rw[<-sm,d,gg]
def E7{a:Array DictEntry}{c:List j6}(d:a.toList=c.map (tG P w)):a.size=c.length:=by rw[<-j2,d,b_]
def E8{a:List j6}(hn:(a.map (·.1)).Nodup){i j:Nat}{k:cn}{p q:Value×Value}(hi:a[i]?=some (k,p))(c:a[j]?=some (k,q)):i=j:=by
 have b:(a.map (·.1))[i]?=some k:=by rw[gg,hi];rfl
 have d:(a.map (·.1))[j]?=some k:=by rw[gg,c];rfl
 exact(Nm (d_.mp b).1 hn).mp (b.trans d.symm)
def MK[Decidable c](h1:c->wpAny (model P w) A t Q E s)(h2:¬c->wpAny (model P w) A u Q E s):wpAny (model P w) A (if c then t else u) Q E s:=by
 by_cases h:c
 ·rw[hA h];exact h1 h
 ·rw[g8 h];exact h2 h
def Kz(a:List j6)(k:cn)(s:Shared)(b:Option (Option Nat)×Option Nat)(c:Shared):Prop:=c=s/\((∃j p,b=(some (some j),none)/\a[j]?=some (k,p))\/(b.1=none/\((b.2=none/\∀(j:Nat)(p:Value×Value),a[j]?≠some (k,p))\/∃j p,b.2=some j/\a[j]?=some (k,p))))
def JZ{h:List j6}{k:cn}{a:Op}(hn:(h.map (·.1)).Nodup)(u:∀j p,h[j]?=some (k,p)->j∈a)(v:∀j∈a,∃y:j6,h[j]?=some y/\iB P w y.1=iB P w k)(m:a.Nodup)(f:Nat->Option (Option Nat)×Option Nat->Sem (ForInStep (Option (Option Nat)×Option Nat)))(h1:∀(x:Nat)(p:Value×Value)(R:ForInStep (Option (Option Nat)×Option Nat)->Shared->Prop),x∈a->h[x]?=some (k,p)->R (.done (some (some x),none)) s->R (.yield (none,some x)) s->wpAny (model P w) A (f x (none,none)) R E s)(h2:∀(x:Nat)(n:Option Nat)(y:j6)(R:ForInStep (Option (Option Nat)×Option Nat)->Shared->Prop),x∈a->h[x]?=some y->iB P w y.1=iB P w k->y.1≠k->R (.yield (none,n)) s->wpAny (model P w) A (f x (none,n)) R E s):wpAny (model P w) A (forIn a ((none,none):Option (Option Nat)×Option Nat) f) (Kz h k s) E s:=by
 refine N6 f (λleft b B=>B=s/\b.1=none/\∃pre,a=pre++left/\((b.2=none/\∀j∈pre,∀p,h[j]?≠some (k,p))\/∃j p,b.2=some j/\j∈pre/\h[j]?=some (k,p))) _ ?_ ?_ _ _ ⟨rfl,rfl,[],rfl,.inl ⟨rfl,by simp⟩⟩
 ·rintro x left⟨b1,b2⟩B⟨rfl,rfl,pre,o,t⟩;have i:x∈a:=by rw[o];simp
  have C:x∉pre:=λz=>by rw[o,o8]at m;exact m.2.2 x z x il rfl
  obtain⟨y,l,hh⟩:=v x i;have r:a=(pre++[x])++left:=by rw[o];simp
  by_cases e:y.1=k
  ·obtain⟨D,p⟩:=y;have e:D=k:=e;subst e;rcases t with⟨rfl,g⟩|⟨j,q,rfl,d,c⟩
   ·refine h1 x p _ i l ⟨rfl,.inl ⟨x,p,rfl,l⟩⟩ ⟨rfl,rfl,pre++[x],r,.inr ⟨x,p,rfl,by simp,l⟩⟩
   ·exact absurd (E8 hn c l▸d) C
  ·refine h2 x b2 y _ i l hh e ⟨rfl,rfl,pre++[x],r,?_⟩;rcases t with⟨rfl,g⟩|⟨j,q,rfl,d,c⟩
   ·refine .inl ⟨rfl,λj d p z=>?_⟩;rcases List.mem_append.mp d with d|d
    ·exact g j d p z
    ·rw[List.mem_singleton.mp d,l]at z;cases z;exact e rfl
   ·exact .inr ⟨j,q,rfl,vr _ d,c⟩
 ·rintro⟨b1,b2⟩B⟨rfl,rfl,pre,o,t⟩;refine⟨rfl,.inr ⟨rfl,?_⟩⟩;rcases t with⟨rfl,g⟩|⟨j,q,rfl,d,c⟩
  ·refine .inl ⟨rfl,λj p z=>g j ?_ p z⟩;have:=u j p z;rw[o,u1]at this;exact this
  ·exact .inr ⟨j,q,rfl,c⟩
def Fa{d:Addr}{o:Obj}{n:Array DictEntry}{ep:Nat}{C:List j6}{k:cn}{g:Value}{Q:Option Nat->Shared->Prop}(hu:A.units<cLine)(f:lj P w s.heap k g)(J:s.heap.get? d=some o)(hd:o.data=.dict n ep)(he:n.toList=C.map (tG P w))(u:∀x∈C,lj P w s.heap x.1 x.2.1)(hn:(C.map (·.1)).Nodup)(D:(∀(j:Nat)(p:Value×Value),C[j]?≠some (k,p))->Q none s)(q:∀(j:Nat)(p:Value×Value),C[j]?=some (k,p)->Q (some j) s):wpAny (model P w) A (dictFind d g (iB P w k)) Q E s:=by
 have sz:=E7 he;have B:=LF he;generalize K:placesWithHash n.size (λi=>n[i]?.map (·.hash)) (iB P w k)=c;have ad:∀j p,C[j]?=some (k,p)->j∈c:=λj p l=>by
  rw[<-K];unfold placesWithHash;refine pa.mpr ⟨oi.mpr ?_,?_⟩
  ·rw[sz];exact(d_.mp l).1
  ·show(n[j]?.map (·.hash)==some (iB P w k))=true;rw[B j,l];simp[tG]
 have O:∀j∈c,∃y:j6,C[j]?=some y/\iB P w y.1=iB P w k:=λj l=>by rw[<-K]at l;unfold placesWithHash at l;obtain⟨h1,h2⟩:=pa.mp l;have h1:=oi.mp h1;rw[sz]at h1;refine⟨C[j],fy h1,?_⟩;have h2:(n[j]?.map (·.hash)==some (iB P w k))=true:=h2;rw[B j,fy h1]at h2;simpa[tG]using h2
 have al:c.Nodup:=by rw[<-K];exact List.filter_sublist.nodup List.nodup_range
 have plain:wpAny (model P w) A (dictWalkPlain d g (iB P w k) n c) Q E s:=by
  unfold dictWalkPlain;refine a_ (N6 _ (λleft b s'=>s'=s/\b=(none,())/\∃pre,c=pre++left/\∀j∈pre,∀p,C[j]?≠some (k,p)) _ ?_ ?_ _ _ ⟨rfl,rfl,[],rfl,by simp⟩)
  ·rintro x left b s'⟨rfl,rfl,pre,hp,S⟩;obtain⟨⟨L,kv,v'⟩,m,hh⟩:=O x (by rw[hp];simp);have hex:n[x]?=some ⟨iB P w L,kv,v'⟩:=by rw[B x,m];rfl
   rw[hex];dsimp only;rw[hA (by rw[hh];simp)];refine a_ (t_ J hd (a_ (Hq (x:=L) (y:=k) hu (u _ (f_ m)) f (a_ (t_ J hd ?_)))));show wpAny (model P w) A (if(ep !=ep)=true then _ else _) _ E s';rw[g8 (by simp)]
   by_cases M:L=k
   ·rw[ji M];subst M;exact a_ (tA (e_ (e_ (q x _ m))))
   ·rw[i_ M];refine a_ (tA (e_ ⟨rfl,rfl,pre++[x],by rw[hp];simp,λj l p z=>?_⟩));rcases List.mem_append.mp l with l|l
    ·exact S j l p z
    ·rw[List.mem_singleton.mp l,m]at z;cases z;exact M rfl
  ·rintro b s'⟨rfl,rfl,pre,hp,S⟩;refine e_ (D λj p z=>S j ?_ p z);have:=ad j p z;rw[hp,u1]at this;exact this
 have ag:∀v∈c.filterMap (λi=>n[i]?.map (·.key)),∃L,lj P w s.heap L v:=λv T=>by obtain⟨i,hi,T⟩:=Nf.mp T;obtain⟨y,H,_⟩:=O i hi;rw[B i,H]at T;cases T;exact⟨_,u y (f_ H)⟩
 unfold dictFind
 with_reducible refine mu ?_
 refine a_ (wpAny_dictEntries J hd ?_);dsimp only;rw[K];generalize a5:c.filterMap (λi=>n[i]?.map (·.key))=stored at ag⊢;have G:∀z t,g=.str z t->(n.all λe=>isExactStrKey e.key)=true->wpAny (model P w) A (foundByValue d g n z) Q E s:=by
  rintro z t rfl-;have ek:k=.inl (.inr z):=by
   cases k with|inl k=>
    rcases f.flat with⟨i,t',e,_⟩|⟨z',t',e,e2⟩
    ·cases e
    ·cases e;rw[e2]|inr ks=>cases ks with|nil=>cases f|cons k ks=>obtain⟨a,e,_⟩:=f;cases e
  have an:∀(j:Nat)(y:j6),C[j]?=some y->y.2.1.isStr z=true->y.1=k:=λj y H I=>by have h3:=u y (f_ H);refine lj.inj h3 ?_;rw[ek];cases T:y.2.1 with
 |str z' t'=>
    rw[T]at I;have:z'=z:=by simpa[Value.isStr]using I
    rw[this];exact sA P w z t'|_=>rw[T]at I;cases I
  have ap:∀(j:Nat)(p:Value×Value),C[j]?=some (k,p)->p.1.isStr z=true:=λj p l=>by
   have h3:lj P w s.heap k p.1:=u _ (f_ l);rw[ek]at h3;rcases h3.flat with⟨i,t',_,e⟩|⟨z',t',e,e2⟩
   ·cases e
   ·cases e2;rw[e];simp[Value.isStr]
  unfold foundByValue;cases hf:n.findIdx? (λe=>e.key.isStr z)with
 |none=>
   refine e_ (D λj p l=>?_);have F:=Array.findIdx?_eq_none_iff.mp hf;have h4:n[j]?=some (tG P w (k,p)):=by rw[B j,l];rfl
   have h5:=F _ (Array.mem_of_getElem? h4);have h6:p.1.isStr z=false:=by simpa[tG]using h5
   rw[ap j p l]at h6;cases h6|some i=>
   obtain⟨U,hi,_⟩:=Array.findIdx?_eq_some_iff_getElem.mp hf;have m:C[i]?=some (C[i]'(by rw[<-sz];exact U)):=fy _;generalize C[i]'(by rw[<-sz];exact U)=y at m;have hex:n[i]?=some (tG P w y):=by rw[B i,m];rfl
   have as:y.2.1.isStr z=true:=by rw[r4 U]at hex;rw[j1 hex]at hi;exact hi
   have H:=an i y m as;obtain⟨L,p⟩:=y;have H:L=k:=H;subst H;dsimp only;rw[hex];dsimp only;refine a_ (t_ J hd (a_ (Hq (x:=L) (y:=L) hu (u _ (f_ m)) f (a_ (t_ J hd ?_)))));rw[g8 (by simp),hA (ji rfl)];exact a_ (tA (e_ (q i p m)))
 have N:∀a,g=.ref a->¬(n.any λe=>e.key==g&&e.hash !=iB P w k)=true:=by intro a ea;rw[<-Array.any_toList,he,N8];rintro⟨e,ax,hc⟩;obtain⟨y,H,rfl⟩:=ir.mp ax;simp only[tG,kw,beq_iff_eq,bne_iff_ne,ne_eq]at hc;have h3:=u y H;rw[hc.1]at h3;exact hc.2 (by rw[h3.inj f])
 by_cases F:((g::stored).all carriedByValue)=true
 ·rw[hA F]
  split
  ·rename_i z t
   split
   ·rename_i I;exact G z t rfl I
   ·exact plain
  ·exact plain
 ·rw[g8 F];have V:(∃i t,g=.int i t)\/(∃z t,g=.str z t)\/(∃a,g=.ref a)\/g=.none:=by
   cases k with|inl k=>
    rcases f.flat with⟨i,t,e,_⟩|⟨z,t,e,_⟩
    ·exact .inl ⟨i,t,e⟩
    ·exact .inr (.inl ⟨z,t,e⟩)|inr ks=>cases ks with|nil=>exact .inr (.inr (.inr f))|cons k ks=>obtain⟨a,e,_⟩:=f;exact .inr (.inr (.inl ⟨a,e⟩))
  have W:∀(x:Nat)(p:Value×Value),C[x]?=some (k,p)->∃e,n[x]?=some e/\e.hash=iB P w k/\lj P w s.heap k e.key:=λx p m=>⟨_,by rw[B x,m];rfl,rfl,u _ (f_ m)⟩;have X:∀(x:Nat)(y:j6),C[x]?=some y->∃e,n[x]?=some e/\e.hash=iB P w y.1/\lj P w s.heap y.1 e.key:=λx y m=>⟨_,by rw[B x,m];rfl,rfl,u _ (f_ m)⟩;rcases V with⟨i,t,e⟩|⟨z,t,e⟩|⟨a,e⟩|e
  case' inl=>subst e;dsimp only
  case' inr.inl=>
   subst e;dsimp only
   by_cases I:(n.all λe=>isExactStrKey e.key)=true
   case pos=>rw[hA I];exact G z t rfl I
   case' neg=>rw[g8 I]
  case' inr.inr.inl=>subst e;dsimp only;rw[g8 (N a rfl)]
  case' inr.inr.inr=>subst e;dsimp only
  all_goals refine MK (λ_=>a_ (e_ ?_)) (λ_=>a_ (Ho f ag ?_))
  all_goals rw[g8 (by simp)];refine a_ (wpAny_mono (JZ (P:=P) (w:=w) hn ad O al _ ?_ ?_) (λb s' z=>?_) λ_ _ z=>z)
  all_goals first
   |(obtain⟨b1,b2⟩:=b
     obtain⟨rfl,h⟩:=z;rcases h with⟨j,p,e,l⟩|⟨e,h⟩
     ·cases e;exact e_ (q j p l)
     ·have e:b1=none:=e;subst e;rcases h with⟨e,h⟩|⟨j,p,e,l⟩<;>(have e:b2=_:=e;subst e)
      ·exact e_ (D h)
      ·exact e_ (q j p l))
   |(intro x p R a2 m r1 r2
     obtain⟨e,Y,Z,aa⟩:=W x p m;rw[Y];dsimp only;rw[hA (by rw[Z];simp)];refine a_ (t_ J hd (a_ (Hq (x:=k) (y:=k) hu aa f (a_ (t_ J hd ?_)))));rw[g8 (by simp),hA (ji rfl),g8 (by simp)];refine a_ (tA ?_)
     split
     ·exact e_ r1
     ·exact e_ r2)
   |(intro x a6 y R a2 m hh a3 r
     obtain⟨e,Y,Z,aa⟩:=X x y m;rw[Y];dsimp only;rw[hA (by rw[Z,hh];simp)];refine a_ (t_ J hd (a_ (Hq (x:=y.1) (y:=k) hu aa f (a_ (t_ J hd ?_)))));rw[g8 (by simp),g8 (by simp[a3])];refine a_ (tA ?_);rw[g8 (by simp)];exact e_ r)
end
end L2
namespace L2
open PySem PySem.W PyProof.Rows
section
variable{P:Ol}{w:World}{A:Around}{E:Og}{s:Shared}
def BP{c:Type}{a:List (cn×c)}(hn:(a.map (·.1)).Nodup){j:Nat}{k:cn}{p:c}(d:a[j]?=some (k,p)):a.find? (λx=>decide (x.1=k))=some (k,p):=by
 rw[List.find?_eq_some_iff_append];obtain⟨g,e⟩:=d_.mp d;refine⟨ji rfl,a.take j,a.drop (j+1),?_,λy h=>?_⟩
 ·rw[<-e,List.getElem_cons_drop,sg]
 ·obtain⟨i,hi⟩:=h_.mp h;have b:i<j:=by have:=(d_.mp hi).1;rw[ku]at this;omega
  rw[Np b]at hi;have:y.1≠k:=λz=>by
   have f:(a.map (·.1))[i]?=some k:=by rw[gg,hi,<-z];rfl
   have l:(a.map (·.1))[j]?=some k:=by rw[gg,d];rfl
   have:=(Nm (d_.mp f).1 hn).mp (f.trans l.symm);lia
  simp[this]
def wS{c:Type}{d:List (cn×c)}{k:cn}(h:∀(j:Nat)(p:c),d[j]?≠some (k,p)):d.find? (λx=>decide (x.1=k))=none:=by rw[List.find?_eq_none];intro x b a;obtain⟨j,e⟩:=h_.mp b;have a:x.1=k:=md a;exact h j x.2 (by rw[e,<-a])
structure jo(P:Ol)(w:World)(h:Heap)(d:Addr)(ys:List j6):Prop where ok:∃o es ep,h.get? d=some o/\o.ExactDict/\o.data=.dict es ep/\es.toList=ys.map (tG P w)nd:(ys.map (·.1)).Nodup
def fK{c a:Type}(d:List (cn×c×a))(k:cn):Option a:=(d.find? λy=>decide (y.1=k)).map (·.2.2)
def gu{a c:Type}(d:List (cn×a×c))(k:cn)(e:a)(v:c):List (cn×a×c):=if(fK d k).isSome then d.map λy=>if y.1=k then(y.1,y.2.1,v)else y else d++[(k,e,v)]
def LE{d:Addr}{e:List j6}{k:cn}{c:Value}{Q:Option Value->Shared->Prop}(g:A.units<cLine)(a:lj P w s.heap k c)(hm:jo P w s.heap d e)(f:∀x∈e,lj P w s.heap x.1 x.2.1)(q:Q (fK e k) {s with toks:=s.toks+jX k}):wpAny (model P w) A (dictGet d c) Q E s:=by
 obtain⟨o,l,m,b,hc,hd,h⟩:=hm.ok;unfold dictGet
 with_reducible refine mu ?_
 refine a_ (E9 g a (a_ (Fa (s:={s with toks:=s.toks+jX k}) g a b hd h f hm.nd (λno=>?_) λj p i=>?_)))
 ·unfold fK at q;rw[wS no]at q;exact e_ q
 ·unfold fK at q;rw[BP hm.nd i]at q;refine a_ (wpAny_dictEntries (s:={s with toks:=s.toks+jX k}) b hd ?_);rw[LF h j,i];exact e_ q
def J0(a:List (cn×d×c))(k:cn)(v:c):(a.map λy=>if y.1=k then(y.1,y.2.1,v)else y).map (·.1)=a.map (·.1):=by
 rw[sD];refine C_ λy _=>?_;show(if y.1=k then(y.1,y.2.1,v)else y).1=y.1
 split<;>rfl
def LD{d:Addr}{f:List j6}{k:cn}{c v:Value}{Q:Unit->Shared->Prop}(u:A.units<cLine)(g:lj P w s.heap k c)(hm:jo P w s.heap d f)(n:∀x∈f,lj P w s.heap x.1 x.2.1)(C:f.length<sizeLine)(q:∀h',jo P w h' d (gu f k c v)->Heap.SameBut d s.heap h'->Q () {s with heap:=h',toks:=s.toks+jX k}):wpAny (model P w) A (dictSet d c v) Q E s:=by
 obtain⟨o,H,B,h,hc,hd,m⟩:=hm.ok;unfold dictSet
 with_reducible refine mu ?_
 refine a_ (E9 u g ?_);unfold dictSetHashed
 with_reducible refine mu ?_
 refine a_ (Fa (s:={s with toks:=s.toks+jX k}) u g h hd m n hm.nd (λno=>?_) λj p l=>?_)
 ·have r:gu f k c v=f++[(k,c,v)]:=by unfold gu fK;rw[wS no];rfl
  have D:k∉f.map (·.1):=λz=>by obtain⟨y,F,e⟩:=ir.mp z;obtain⟨j,l⟩:=h_.mp F;exact no j y.2 (by rw[l,<-e])
  rw[r]at q;refine a_ (tA (wpAny_updateDictKeys (hz:=by have:=E7 m;omega) (s:={s with toks:=s.toks+jX k}) h hd (q _ ⟨⟨_,_,B+1,qx _ h (Obj.isFreed_of_dict (Obj.data_mapDictKeys hd _)),hc.mapDictKeys _,Obj.data_mapDictKeys hd _,?_⟩,?_⟩ (v3 ..))))
  ·rw[N4,m,g6];rfl
  ·rw[g6,o8];refine⟨hm.nd,by simp,λa G b t e=>D ?_⟩;have t:b=k:=List.mem_singleton.mp t;rw[<-t,<-e];exact G
 ·have r:gu f k c v=f.map λy=>if y.1=k then(y.1,y.2.1,v)else y:=by unfold gu fK;rw[BP hm.nd l];rfl
  rw[r]at q;refine a_ (tA (a_ (wpAny_updateDict (s:={s with toks:=s.toks+jX k}) h hd (wpAny_point (q _ ⟨⟨_,_,B,qx _ h (Obj.isFreed_of_dict (Obj.data_mapDict hd _)),hc.mapDict _,Obj.data_mapDict hd _,?_⟩,by rw[J0];exact hm.nd⟩ (v3 ..))))));rw[Array.toList_modify,m];refine tx λi=>?_;rw[List.getElem?_modify,gg,gg,gg];cases hi:f[i]?with|none=>by_cases e:j=i<;>simp[e]|some y=>
   by_cases e:j=i
   ·subst e;rw[l]at hi;cases hi;simp[tG]
   ·have:y.1≠k:=λz=>e (E8 hm.nd l (q:=y.2) (by rw[hi,<-z]));simp[e,this]
def jo.type(hm:jo P w s.heap d c):s.TypeIs (.ref d) "dict":=let⟨o,_,_,a,hc,_⟩:=hm.ok;⟨o,a,hc.1⟩
def jo.bare(hm:jo P w s.heap d c):∀b,Value.ref d=.ref b->∃ob,s.heap.get? b=some ob/\ob.dict=none:=λb e=>by cases e;obtain⟨o,_,_,a,hc,_⟩:=hm.ok;exact⟨o,a,hc.2.1⟩
def AI(d:Addr)(a dflt:Value)(hd:(d==sysModules)=false):MeetsIn P w (Builtin.«dict.get» ⟨[.ref d,a,dflt],[]⟩) (λA R s=>A.in1.units<cLine/\∃k c,lj P w s.heap k a/\jo P w s.heap d c/\(∀x∈c,lj P w s.heap x.1 x.2.1)/\R (.ok (.ret ((fK c k).getD dflt))) {s with toks:=s.toks+jX k}):=.of_wp λA R s⟨e,k,c,f,hm,hi,h⟩=>by show wpAny (model P w) _ (dictGet d a>>=_) _ _ s;refine a_ (LE e f hm hi ?_);cases b:fK c k with|some v=>rw[b]at h;exact e_ ⟨v,rfl,h⟩|none=>rw[b]at h;exact a_ (wpAny_missed_other hd (e_ ⟨dflt,rfl,h⟩))
def CP(g:A.in1.units<cLine)(c:lj P w s.heap k a)(hm:jo P w s.heap d e)(f:∀x∈e,lj P w s.heap x.1 x.2.1)(h:e.length<sizeLine)(q:∀h',jo P w h' d (gu e k a v)->Heap.SameBut d s.heap h'->Q () {s with heap:=h',toks:=s.toks+jX k}):wpAny (model P w) A (setItem (.ref d) a v) Q E s:=by
 unfold setItem
 with_reducible refine mu ?_
 refine a_ (wpAny_sequenceKey hm.type (by decide) (a_ (oD (name:=Str.ofString "__setitem__") hm.type slot_dict_setitem (n7 slot_dict_setitem hm.type entry_dict_setitem ?_ (args_dict_setitem _ _ _)))));show wpAny (model P w) _ (Builtin.Dict.notOrdered "__setitem__" ⟨[.ref d,a,v],[]⟩>>=_) _ _ s;refine a_ (wpAny_notOrdered_dict hm.type ?_);show wpAny (model P w) A.in1 (dictSet d a v>>=_) _ _ s;exact a_ (LD g c hm f h λh' h1 h2=>e_ ⟨.none,rfl,e_ (q h' h1 h2)⟩)
end
abbrev iN:=cn×V×V
def rR(a:List iN)(c:List j6):Prop:=Paired (λ(p:iN)(q:j6)=>p.1=q.1/\bg p.2.1 q.2.1/\bg p.2.2 q.2.2) a c
abbrev dM(P:Ol)(w:World)(d:Addr)(c:List iN):HO:=.ext λh=>(d==sysModules)=false/\∃a,rR c a/\jo P w h d a
def dw(K:Of)(H:Hp)(k:cn)(v:V):Prop:=match k with|.inl k=>v=kV k|.inr []=>v=.non|.inr (k::b)=>∃a,v=.ref a/\bj K H a ((k::b).map kV)
def eR(K:Of)(H:Hp)(a:List iN):Prop:=∀x∈a,dw K H x.1 x.2.1
def jo.keep(m:jo P w h1 d a)(k:∀o,h1.get? d=some o->h2.get? d=some o):jo P w h2 d a:=let⟨o,b,c,e,r⟩:=m.ok;⟨⟨o,b,c,k o e,r⟩,m.nd⟩
def ID(hd:(d==sysModules)=false)(r:rR a ys)(m:jo P w h d ys):c8 P w H h d (dM P w d a):=⟨⟨hd,ys,r,m⟩,let⟨o,_,_,e,_⟩:=m.ok;⟨o,e⟩,λ_ _⟨h1,ys,h2,h3⟩k=>⟨h1,ys,h2,h3.keep k⟩⟩
def dw.is(I:aU X f l H s)(h:dw X.K H k v)(r:bg v u):lj X.prog X.w s.heap k u:=by cases k with|inl k=>have h:v=kV k:=h;subst h;exact qv r|inr b=>cases b with|nil=>have h:v=.non:=h;subst h;exact r|cons k b=>obtain⟨a,rfl,g⟩:=h;cases r;obtain⟨i,j,⟨o,e,c,n,d⟩,_⟩:=I.tuple g;exact⟨a,rfl,o,_,n,e,c,d,rC j⟩
theorem rR.keys(I:aU X c g H s):∀{d:List iN}{e:List j6},rR d e->eR X.K H d->∀y∈e,lj X.prog X.w s.heap y.1 y.2.1
 |_,_,.nil,_,y,b=>nomatch b|_,_,.cons (a:=p) r t,k,y,b=>by
  rcases q_.mp b with rfl|b
  ·rw[<-r.1];exact(k p il).is I r.2.1
  ·exact rR.keys I t (λx f=>k x (hY _ f)) y b
theorem rR.val:∀{a:List iN}{c:List j6},rR a c->∀k,kP (fK a k) (fK c k)
 |_,_,.nil,_=>True.intro|p::a,q::c,.cons r t,k=>by
  unfold fK;rw[pw,pw,<-r.1]
  by_cases e:p.1=k
  ·rw[ji e];exact r.2.2
  ·rw[i_ e];exact rR.val t k
def rR.put(h:rR c d)(g:bg kv i)(f:bg v u):rR (gu c k kv v) (gu d k i u):=by
 have a:(fK c k).isSome=(fK d k).isSome:=(h.val k).isSome_eq;unfold gu;rw[a]
 split
 ·rename_i hc;clear a hc
  induction h with|nil=>exact .nil|@cons p q j l r t b=>
   refine .cons ?_ b;dsimp only;rw[<-r.1]
   by_cases e:p.1=k
   ·rw[hA e,hA e];exact⟨rfl,r.2.1,f⟩
   ·rw[g8 e,g8 e];exact r
 ·rename_i hc;clear a hc
  induction h with|nil=>exact .cons ⟨rfl,g,f⟩ .nil|cons r t b=>exact .cons r b
def rR.len(h:rR a c):a.length=c.length:=Paired.length h
section
variable{X:Cx}{P:Ol}{w:World}{o e f:Expr}{n c g:Pos}{j ty l:TE}
def IX(P:Ol)(w:World):TE:=λ_ H Q=>∀p,H p=none->Q (.ref p) (aD H p (dM P w p []))
def EE(d:X.prog=P:=by rfl)(i:X.w=w:=by rfl):PE X (.Dict [] [] n) (IX P w):=λb s k H Q I h=>by subst d i;refine wpAny_Dict_empty ⟨.ref s.heap.objs.size,_,I.laid (a:=s.heap.objs.size) (o:=dM X.prog X.w s.heap.objs.size []) (t':=s.toks) (λ_ _ q=>c_ _ q) (fx _) ?_,rfl,h _ (I.hok.fresh (fx _))⟩;exact ID (ys:=[]) (v1.mpr λz=>absurd (z▸I.big) (ot _)) .nil ⟨⟨_,#[],0,ge _ rfl,⟨rfl,rfl,rfl⟩,rfl,rfl⟩,Nd⟩
def IV(K:Of)(P:Ol)(w:World)(j ty l:TE):TE:=λd H Q=>j d H λx m=>∃a h,x=.ref a/\m a=some (dM P w a h)/\ty d m λy p=>l d p λz b=>∃i k,b a=some (dM P w a i)/\eR K b i/\dw K b k y/\Q ((fK i k).getD z) b
def ED(K:Of)(B:X.K=K)(C:X.A.units+1<cLine)(D:PE X o j)(E:PE X e ty)(G:PE X f l)(m:M2 X o "get" c e f g)(J:X.prog=P:=by rfl)(L:X.w=w:=by rfl):PE X (.Call (.Attribute o "get" c) [e,f] [] g) (IV K P w j ty l):=by subst J L B;intro b s r H Q I h;refine Ha m.base m.few m.line PySem.F.plainAttrs_dict PySem.F.slot_dict_get PySem.F.type_dict_get (cB (D b s r H _ I h) λu M i=>?_);obtain⟨x,N,I1,O,a,R,ex,d,S⟩:=i;subst ex;cases(show u=Value.ref a from O);obtain⟨⟨_,T,_,t⟩,_⟩:=I1.hok a _ d;refine⟨t.type,t.bare,?_⟩;rw[m.trees];refine qc rfl (sT (ov (cB (E b M r N _ I1 S) λiv U i=>?_)));obtain⟨y,V,Y,Z,q2⟩:=i;refine ov (cB (G b U r V _ Y q2) λfv s3 i=>?_);obtain⟨z,H3,q,rz,xs,k,d3,ks,hk,q3⟩:=i;refine rV ?_;obtain⟨⟨hd,ys,p,v⟩,_⟩:=q.hok a _ d3;refine w1 PySem.F.slot_dict_get v.type PySem.F.entry_dict_get (PySem.F.args_dict_get_3 _ _ _) (AI a iv fv hd) ⟨C,k,ys,hk.is q Z,v,p.keys q ks,?_⟩;exact⟨_,H3,q.tok _,(p.val k).getD rz,q3⟩
def Lp(K:Of)(P:Ol)(w:World):HX:=λo i v H Q=>∃a b k,o=.ref a/\H a=some (dM P w a b)/\eR K H b/\dw K H k i/\b.length<sizeLine/\Q (aD H a (dM P w a (gu b k i v)))
def El(K:Of)(x:X.K=K)(y:X.A.units+1<cLine)(z:X.prog=P:=by rfl)(B:X.w=w:=by rfl):Ic X (Lp K P w):=by subst z B x;intro p s L H o i v M iv u Q I C r D h;obtain⟨a,N,k,rfl,d,E,F,G,q⟩:=h;cases C;obtain⟨⟨hd,O,b,m⟩,_⟩:=I.hok a _ d;refine CP y (F.is I r) m (b.keys I E) (by rw[<-b.len];exact G) λh' t J=>?_;refine⟨_,tX I (by rw[d];exact True.intro) J (let⟨o,_,_,e,_⟩:=t.ok;⟨o,e⟩) ?_,q⟩;exact ID hd (b.put r D) t
end
end L2
namespace L2
open PySem PySem.W PyProof.Rows
section
variable{X:Cx}{o e c:Expr}{f:Str}{j g:Pos}{l m:TE}
def aM(K:Of)(a:X.K=K)(d:PE X e l)(h:attributeBase e f X.env (eval e X.env)=eval e X.env:=by rfl):PE X (.Attribute e f j) (K7 K l f):=by subst a;exact JJ d h
def cF(K:Of)(a:X.K=K)(d:PE X o l)(h:PE X c m)(i:swapsWith c (some (.Attribute o f g)) j.line X.env=pure false:=by rfl):PS X (.Assign [.Attribute o f g] c j) (Lm K l m f):=by subst a;exact JD d h i
def Lr:HX:=λo i v H Q=>∃a b k,o=.ref a/\i=kV k/\H a=some (.dK b)/\b.length<sizeLine/\Q (aD H a (.dK (fk b k v)))
def qT(n:X.A.units+1<cLine):Ic X Lr:=by intro b s z H o i v B iv u Q I p r t h;obtain⟨a,w,k,rfl,rfl,d,x,q⟩:=h;cases p;exact Dc n I (Ij.k d x) r t λC y=>⟨_,y,q⟩
end
end L2
namespace L2
open PySem PySem.W PyProof.Rows
section
variable{P:Ol}{w:World}{A:Around}{E:Og}{s:Shared}
def Fu(ty:s.TypeIs (.ref r) "list_reverseiterator")(q:Q false s):wpAny (model P w) A (Builtin.List.listLengthHint (.ref r)) Q E s:=by
 unfold Builtin.List.listLengthHint;refine a_ (NE (r:=none) ty (by rw[NF,Ia];kernel_rfl) ?_);refine rd (λz=>absurd z (by decide+kernel)) (λ_=>?_);refine rd (λz=>absurd z (by decide)) (λ_=>?_);refine a_ (NE (r:=some (.builtin "list_reverseiterator.__length_hint__")) ty (by rw[NF,Ia];kernel_rfl) ?_);generalize a:("list_reverseiterator.__length_hint__":String)=nm
 wp_delta
 rw[show splitId nm=some ("list_reverseiterator","__length_hint__")from by subst a;decide+kernel];subst a;refine a_ (I_ (T:="list_reverseiterator") (b:=true) ty (by rw[NO];kernel_rfl) ?_);refine rd (λz=>absurd z (by decide)) (λ_=>?_);refine rd (λ_=>?_) (λz=>absurd (by decide+kernel) z);refine rd (λz=>absurd z (by decide+kernel)) (λ_=>?_);exact e_ q
def Ap(hh:A.handled=none)(it:s.heap.IsRevIter r l ((a.size:Int)-1))(C:s.heap.IsList l a)(hn:a.size<=sizeLine)(p:l≠r)(n:S≠r)(t:S≠l)(d:Value)(x:Nat)(D:s.heap.get? S=some {cls:=.type "list",data:=.seq #[] x})(q:∀h' tk g c,(∀b o,b≠S->b≠r->s.heap.get? b=some o->h'.get? b=some o)->h'.get? S=some {cls:=.type "list",dict:=none,data:=.seq g c,slots:=#[]}->ItemsOf (λi v=>a[a.size-1-i]?=some v) g a.size->R (.ok (.ret d)) {s with heap:=h',toks:=tk}):wpAny (model P w) A.in1 (Builtin.List.listExtendWith (.ref S) (.ref r) d) (λfin j=>match fin with|.done f=>R (.ok f) j|.again y=>y.quiet=true/\codeAny (model P w) A y R j) (λe j=>R (.error e) j) s:=by
 have W:=Walks.listRev (prog:=P) (w:=w) (A:=A.in1) hh r l p a;have go:∀(h:Heap)(k tk:Nat),h.IsRevIter r l ((a.size:Int)-1)->h.IsList l a->(∀b o,b≠S->s.heap.get? b=some o->h.get? b=some o)->h.get? S=some {cls:=.type "list",data:=.seq #[] k}->codeAny (model P w) A (.builtin "list.extend.loop" ⟨[.ref S,.ref r,d],[]⟩) R {s with heap:=h,toks:=tk}:=by
  intro h k tk u G k1 H;refine codeAny_extend_loopS W.toS hn S (by simp[n,t]) d a.size 0 _ #[] k rfl (j_ _) ⟨j_ _,by simpa using u,G⟩ H (ItemsOf.nil _) λj g c B I J=>?_;rw[Moved.eq_with B];refine q j.heap j.toks g c (λb o b1 b2 e=>B.heap b o (λm=>?_) (k1 b o b1 e)) I J;rcases q_.mp m with z|z
  ·exact b1 z
  ·exact b2 (List.mem_singleton.mp z)
 unfold Builtin.List.listExtendWith;refine a_ (NX it.typeIs ?_);have ne:Builtin.List.listSameRef (.ref S) (.ref r)=false:=by simp[Builtin.List.listSameRef,n]
 have K:(Value.type "list_reverseiterator"==Value.type "list")=false:=by decide
 have L:(Value.type "list_reverseiterator"==Value.type "tuple")=false:=by decide
 simp only[ne,K,L,Bool.or_false,F_,Nv];refine a_ (wpAny_pyIter_revIter it (a_ (mu (Fu it.typeIs ?_))));refine rd (λz=>absurd z (by decide+kernel)) (λ_=>e_ ⟨L_ PySem.F.plain_extend_loop _,go s.heap x s.toks it C (λ_ _ _ e=>e) D⟩)
def Et(hh:A.handled=none)(it:s.heap.IsRevIter r l ((items.size:Int)-1))(t:s.heap.IsList l items)(hn:items.size<=sizeLine)(f:l≠r)(q:∀h' tk a c,(∀b o,b≠r->s.heap.get? b=some o->h'.get? b=some o)->h'.get? s.heap.objs.size=some {cls:=.type "list",dict:=none,data:=.seq a c,slots:=#[]}->ItemsOf (λi v=>items[items.size-1-i]?=some v) a items.size->Q (.ref s.heap.objs.size) {s with heap:=h',toks:=tk}):wpAny (model P w) A (call (.type "list") [.ref r]) Q E s:=by
 refine callType_codes (Q₁:=λobj k=>obj=.ref s.heap.objs.size/\k={s with heap:=s.heap.push {cls:=.type "list",data:=.seq #[]}}) PySem.F.called_list (PySem.F.typeCall_list_1 _) PySem.F.entry_list_init (code_list_new _ ⟨rfl,rfl⟩) λobj k z=>?_;obtain⟨rfl,rfl⟩:=z;have new:(s.heap.push {cls:=.type "list",data:=.seq #[]}).get? s.heap.objs.size=some {cls:=.type "list",data:=.seq #[]}:=ge _ rfl;obtain⟨u,ei,x,y⟩:=it;have m:s.heap.objs.size≠r:=me (g_ ei);obtain⟨B,n,cl,C,dl⟩:=t;have p:s.heap.objs.size≠l:=me (g_ n);refine⟨⟨_,new,rfl⟩,PySem.F.args_list_init_2 _ _,?_⟩;show wpAny (model P w) _ (do let g<-Builtin.List.listItems (.ref s.heap.objs.size);Builtin.List.listUpdate (.ref s.heap.objs.size) (λ_=>#[]);letGo g.toList.reverse;Builtin.List.listExtendWith (.ref s.heap.objs.size) (.ref r) .none) _ _ _;refine a_ ?_;unfold Builtin.List.listItems;refine a_ (ro new rfl (e_ (a_ (N_ new rfl (a_ (wpAny_letGo ?_))))));have d:=qx (Obj.mapSeq (λ_=>(#[]:Oo))) new rfl;have keep:∀b o,b≠s.heap.objs.size->s.heap.get? b=some o->((s.heap.push {cls:=.type "list",data:=.seq #[]}).update s.heap.objs.size (Obj.mapSeq (λ_=>(#[]:Oo)))).get? b=some o:=λb o h e=>by rw[ry _ _ (m3 h)];exact c_ _ e
 refine Ap (A:=A.in1) hh ⟨u,keep _ _ (m3 m) ei,x,y⟩ ⟨B,keep _ _ (m3 p) n,cl,C,dl⟩ hn f m p .none _ d λh' tk a c k2 D G=>?_;exact⟨rfl,q h' tk a c (λb o h e=>k2 b o (ig (g_ e)) h (keep b o (ig (g_ e)) e)) D G⟩
end
section
variable{X:Cx}{e:Expr}{te:TE}{i g f d:Pos}
def K0(K:Of)(te:TE):TE:=λc H Q=>te c H λx a=>∃p b,x=.ref p/\be K a p b/\∀l,a l=none->Q (.ref l) (aD a l (.lst b.reverse))
def At(K:Of)(Z:X.K=K)(hc:X.calm=true)(g1:Gl X "list")(m1:X.mg "list"=none)(g2:Gl X "reversed")(m2:X.mg "reversed"=none)(he:PE X e te)(B:starEach [.Call (.Name "reversed" g) [e] [] d] X.env=[(false,eval (.Call (.Name "reversed" g) [e] [] d) X.env)]:=by rfl)(C:starEach [e] X.env=[(false,eval e X.env)]:=by rfl):PE X (.Call (.Name "list" i) [.Call (.Name "reversed" g) [e] [] d] [] f) (K0 K te):=by
 subst Z;intro y s N H Q I h;refine rk (lq I g1 m1 L2.m7 (callWith_type1 ?_ B));rw[B];show wpAny (model X.prog X.w) X.A (spliced [(false,eval (.Call (.Name "reversed" g) [e] [] d) X.env)]) _ _ s;refine ov (rk (lq I g2 m2 L2.wu (callWith_type1 ?_ C)));rw[C];show wpAny (model X.prog X.w) X.A (spliced [(false,eval e X.env)]) _ _ s;refine ov (cB (he y s N H _ I h) λu m Y=>?_);obtain⟨x,H1,I1,rx,p,xs,ex,hq,q⟩:=Y;refine rV ?_;subst ex;cases(show u=Value.ref p from rx);obtain⟨k,O,⟨o,n,F,co,dd,ds⟩,P⟩:=I1.list hq;have hl:m.heap.IsList p k.toArray:=⟨o,F,co,n,ds⟩;refine call_reversed_list hl (rV ?_);have pr:p≠m.heap.objs.size:=ig (g_ F);have R:aU X y N H1 {m with heap:=m.heap.push (revObj p ((k.toArray.size:Int)-1))}:=I1.kept (t':=m.toks) λb o e=>c_ _ e;refine Et (r:=m.heap.objs.size) (l:=p) (items:=k.toArray) (I.ok.hd hc) ⟨_,ge _ rfl,rfl,rfl⟩ ⟨o,c_ _ F,co,n,ds⟩ (by simpa[<-O.length]using P) pr λh' tk t c kk sS T=>?_;have D:t.toList=k.reverse:=by
  refine tx λj=>?_;have J:t.size=k.length:=by simpa using T.1
  rcases ND j k.length with E|E
  ·have U:t[j]?=some (t[j]'(by lia)):=r4 _;have L:=T.2 j _ U;rw[sm,U,List.getElem?_reverse E];simpa using L.symm
  ·rw[k_ (by simpa[J]using E),k_ (by simpa using E)]
 have I3:=R.laid (a:=(m.heap.push (revObj p ((k.toArray.size:Int)-1))).objs.size) (o:=.lst xs.reverse) (h':=(m.heap.push (revObj p ((k.toArray.size:Int)-1))).push {cls:=.type "list",data:=.seq t c}) (t':=tk) (λb u e=>c_ _ e) (fx _) ⟨by rw[Na];exact P,k.reverse,c,O.reverse,by rw[<-D];exact ge _ rfl⟩
 have M:m.heap.objs.size<(m.heap.push (revObj p ((k.toArray.size:Int)-1))).objs.size:=by rw[nB];lia
 have I4:=I3.turned (it:=m.heap.objs.size) (h':=h') (t':=tk) (λb o hb e=>?_) (by rw[ao (ig M)];exact I1.hok.fresh (fx _)) (me I1.lt) (.inr I1.sz) (λx c e z=>by obtain⟨v,o,V,_⟩:=I1.cell x c e;rw[z]at V;exact absurd (g_ V) (ot _)) (λpp hp z=>by have:=(I1.pin pp hp).1;rw[z]at this;exact absurd (g_ this) (ot _))
 ·exact⟨.ref (m.heap.push (revObj p ((k.toArray.size:Int)-1))).objs.size,_,I4,rfl,q _ (R.hok.fresh (fx _))⟩
 ·by_cases z:b=(m.heap.push (revObj p ((k.toArray.size:Int)-1))).objs.size
  ·subst z;rw[ge _ rfl]at e;cases e;exact sS
  ·rcases M5 e with⟨z2,_⟩|L
   ·exact absurd z2 z
   ·exact kk b o hb L
end
end L2
namespace L2
open PySem PySem.W PyProof.Rows
section
variable{P:Ol}{w:World}{A:Around}{E:Og}{s:Shared}
end
section
variable{X:Cx}{P:Ol}{w:World}{o e f i:Expr}{d a c:Pos}{g ty h:TE}
end
end L2
namespace L2
open PySem
seal L2.tY L2.PS L2.PE L2.PT L2.PA L2.PI L2.PG L2.PW L2.Ku L2.PO
section
variable{X:Cx}
end
section
variable{X:Cx}
def Dm:dk X (.builtin "isinstance") (λc H Q=>∃x T t b,c=[x,.ty T]/\(kO X.K H x t\/∃p d,x=.ref p/\bj X.K H p d/\t=.type "tuple")/\PySem.W.kitOne X.K t (.type T)=some b/\Q (.bl b) H):=by
 intro a s f H c g Q I r h;obtain⟨x,T,t,b,rfl,ty,e,q⟩:=h;rcases ty with ty|⟨p,d,rfl,i,rfl⟩
 ·exact zP a s f H _ g Q I r ⟨x,T,t,b,rfl,ty,e,q⟩
 ·obtain⟨u,j,rfl,k,rt⟩:=oU r;obtain rfl:j=Value.type T:=rt;cases k;obtain⟨l,_,⟨o,h1,h2,_⟩,_⟩:=I.tuple i;exact PySem.W.kia_one PySem.W.kitx_tuple I.kIn ⟨o,h1,h2⟩ e (nofun) λtk=>⟨.bl b,H,I.tok tk,rfl,q⟩
def dP(K:Of)(a:X.K=K):dk X (.builtin "isinstance") (λc H Q=>∃x T t b,c=[x,.ty T]/\(kO K H x t\/∃p d,x=.ref p/\bj K H p d/\t=.type "tuple")/\PySem.W.kitOne K t (.type T)=some b/\Q (.bl b) H):=by subst a;exact Dm
end
end L2
namespace L2
open PySem PySem.Spec PyProof.Rows
section
variable{X:Cx}{a:Expr}
end
section
variable{X:Cx}
end
end L2
namespace L2
open PySem PySem.Spec PyProof.Rows
def Ig(K:Of)(pm:Params)(a:Addr):Prop:=(a==sysModules)=false/\∃b n,K.lookup a=some ⟨.type "dict",none,.dict b n,#[]⟩/\PySem.W.KeysLit pm b.toList
def Ml(K:Of)(t:Addr)(c:List V):Prop:=∃(o:Obj)(a:Oo)(n:Nat),K.lookup t=some o/\o.cls=.type "tuple"/\o.data=.seq a n/\a.size<=sizeLine/\bq c a.toList
def Ml.sq{K:Of}{t:Addr}{a:List V}(h:Ml K t a)(H:Hp):bj K H t a:=.inr h
section
variable{X:Cx}{o i:Expr}{a:Pos}{c ty:TE}
end
end L2
namespace L2
open PySem PySem.Spec PyProof.Rows
section
variable{X:Cx}{o i:Expr}{a:Pos}{c ty:TE}
end
end L2
namespace L2
open PySem PySem.Spec PyProof.Rows
section
variable{P:Ol}{w:World}{A:Around}{E:Og}{s:Shared}
def ub(c:s.heap.IsTupleIter j t k)(f:s.heap.IsTuple t d)(h:d[k]?=some v)(q:∀g,g.IsTupleIter j t (k+1)->Heap.SameBut j s.heap g->Q v {s with heap:=g}):wpAny (model P w) A (Builtin.SmallTypes.nextOf (.ref j)) Q E s:=by obtain⟨ob,b,i,a⟩:=id c;obtain⟨l,f1,_,m,f3⟩:=f;unfold Builtin.SmallTypes.nextOf;refine a_ (oD (name:=Str.ofString "__next__") c.typeIs z8 (n7 z8 c.typeIs F.entry_tuple_iterator_next ?_ (Oe _)));refine(show wpAny _ _ (field (.ref j) 0>>=_) _ _ s from a_ (rl b a (x:=.ref t) rfl ?_));refine(show wpAny _ _ (if(Value.ref t==Value.none)=true then _ else(field (.ref j) 1>>=_)) _ _ s from ?_);rw[g8 (show¬(Value.ref t==Value.none)=true fromλz=>hF z)];refine a_ (rl b a (x:=.int k 0) rfl ?_);refine(show wpAny _ _ (seqItems? (.ref t)>>=_) _ _ s from a_ (ro f1 f3 ?_));simp only[op,h];refine a_ (wpAny_setField b a (by simp) (e_ ⟨v,rfl,e_ (q _ ⟨_,qx _ b (Obj.isFreed_of_fields (Obj.data_mapFields a _)),(Obj.cls_mapFields ..).trans i,?_⟩ (v3 ..))⟩));rw[Obj.data_mapFields a];simp[rawInt]
def yB(hh:A.handled=none)(c:s.heap.IsTupleIter j t k)(h:s.heap.IsTuple t d)(i:d[k]?=none)(q:∀g x,Heap.ExtBut j s.heap g->(∃ob,g.get? x=some ob/\ob.cls=.type "StopIteration")->E (.ref x) {s with heap:=g}):wpAny (model P w) A (Builtin.SmallTypes.nextOf (.ref j)) Q E s:=by
 obtain⟨ob,b,l,e⟩:=id c;obtain⟨n,f1,_,o,f3⟩:=h;unfold Builtin.SmallTypes.nextOf;refine a_ (oD (name:=Str.ofString "__next__") c.typeIs z8 (n7 z8 c.typeIs F.entry_tuple_iterator_next ?_ (Oe _)));refine(show wpAny _ _ (field (.ref j) 0>>=_) _ _ s from a_ (rl b e (x:=.ref t) rfl ?_));refine(show wpAny _ _ (if(Value.ref t==Value.none)=true then _ else(field (.ref j) 1>>=_)) _ _ s from ?_);rw[g8 (show¬(Value.ref t==Value.none)=true fromλz=>hF z)];refine a_ (rl b e (x:=.int k 0) rfl ?_);refine(show wpAny _ _ (seqItems? (.ref t)>>=_) _ _ s from a_ (ro f1 f3 ?_));simp only[op,i];refine a_ (tA (a_ (wpAny_setField b e (by simp) (show wpAny _ _ (newExc (.type "StopIteration") []>>=_) _ _ _ from a_ ?_))));simp only[newExc,newTuple];refine a_ (oa (a_ (m:=firstArgMember _ _) (wpAny_of_eq (a:=Value.none) (by first|rfl|(simp only[firstArgMember];rfl)) (oa ?_ (by size_fits)))) (by size_fits));simp only[raiseNew];refine a_ (wpAny_handled ?_)
 first|rw[show A.in1.handled=none from hh]|rw[hh]
 exact a_ (e_ (wpAny_throw (q _ _ (((v3 ..).extBut.push _).push _) ⟨_,ge _ rfl,rfl⟩)))
def Gp{b:Bool}{j t:Addr}{k:Nat}{a:Oo}{v:Value}{Q:Og}(c:rZ b s.heap j t k)(d:qK b s.heap t a)(e:a[k]?=some v)(q:∀g,rZ b g j t (k+1)->Heap.SameBut j s.heap g->Q v {s with heap:=g}):wpAny (model P w) A (Builtin.SmallTypes.nextOf (.ref j)) Q E s:=by cases b with|false=>exact ub c d e q|true=>exact wpAny_nextOf_list_item c d e q
def F8(z a d e:Addr)(h g:Heap):Prop:=∀c ob,c≠z->c≠a->c≠d->c≠e->h.get? c=some ob->g.get? c=some ob
def B7{c:Bool}{z h d j m t l:Addr}{k1 k2:Nat}{X Z:Oo}{x y a b:Value}{Q:Og}(D:ZipApart z h d j m t l)(B:IsZip s.heap z h d .none)(p1:IsPair s.heap h (.ref j) (.ref m))(p2:IsPair s.heap d a b)(i1:s.heap.IsTupleIter j t k1)(i2:rZ c s.heap m l k2)(tt:s.heap.IsTuple t X)(ll:qK c s.heap l Z)(hx:X[k1]?=some x)(hy:Z[k2]?=some y)(q:∀g,IsZip g z h d (rawInt s.heap.objs.size)->IsPair g d x y->g.IsTupleIter j t (k1+1)->rZ c g m l (k2+1)->IsPair g s.heap.objs.size x y->g.objs.size=s.heap.objs.size+1->F8 z d j m s.heap g->Q (.ref s.heap.objs.size) {s with heap:=g}):wpAny (model P w) A (Builtin.«zip.__next__» ⟨[.ref z],[]⟩) (λfin s'=>∃v,fin=.done (.ret v)/\Q v s') E s:=by
 refine(show wpAny _ _ (field (.ref z) 2>>=_) _ _ _ from a_ (rl B rfl (x:=.bool false) rfl ?_));refine(show wpAny _ _ (field (.ref z) 3>>=_) _ _ _ from a_ (rl B rfl (x:=.ref h) rfl (a_ (ro p1 rfl ?_))));refine(show wpAny _ _ (Builtin.SmallTypes.ownedTupleIsFree (.ref z)>>=_) _ _ _ from a_ ?_);unfold Builtin.SmallTypes.ownedTupleIsFree;refine a_ (rl B rfl (x:=.none) rfl (e_ ?_));simp only[NZ];refine a_ (tA (a_ (rl B rfl (x:=.ref d) rfl (a_ (o_ B (by simp) λg1 M k=>?_)))))
 replace M:IsZip g1 z h d .ellipsis:=M
 refine a_ ?_;simp only[List.zipIdx_cons,List.zipIdx_nil,NJ,List.forIn_nil];refine a_ (a_ (NS (show wpAny _ _ (Builtin.SmallTypes.nextOf (.ref j)>>=_) _ _ _ from a_ (ub (i1.extBut k.extBut D.i1z) (tt.extBut k.extBut D.l1z) hx λg2 N r=>e_ ?_))));have C:IsPair g2 d a b:=r.extBut _ _ D.TOi1 (k.extBut _ _ D.TOz p2);refine a_ (ro C rfl (a_ (wpAny_updateSeq_pair C λg3 n u=>?_)))
 replace n:IsPair g3 d x b:=n
 refine a_ (wpAny_letGo (e_ (a_ (a_ (NS ?_)))));refine(show wpAny _ _ (Builtin.SmallTypes.nextOf (.ref m)>>=_) _ _ _ from a_ (Gp (i2.at λ_ e=>u.extBut _ _ D.TOi2.symm (r.extBut _ _ D.i12.symm (k.extBut _ _ D.i2z e))) (ll.at λ_ e=>u.extBut _ _ D.l2TO (r.extBut _ _ D.l2i1 (k.extBut _ _ D.l2z e))) hy λg4 O F=>e_ ?_))
 have G:IsPair g4 d x b:=F.extBut _ _ D.TOi2 n;refine a_ (ro G rfl (a_ (wpAny_updateSeq_pair G λf i H=>?_)))
 replace i:IsPair f d x y:=i
 refine a_ (wpAny_letGo (e_ (e_ (a_ (ro i rfl (a_ (wpAny_newTuple ?_)))))));have sz:f.objs.size=s.heap.objs.size:=by rw[H.1,F.1,u.1,r.1,k.1]
 have Y:IsZip f z h d .ellipsis:=H.extBut _ _ D.TOz.symm (F.extBut _ _ D.i2z.symm (u.extBut _ _ D.TOz.symm (r.extBut _ _ D.i1z.symm M)));have k5:F8 z d j m s.heap f:=λc o p K R S e=>H.extBut _ _ K (F.extBut _ _ S (u.extBut _ _ K (r.extBut _ _ R (k.extBut _ _ p e))));have T:f.IsTupleIter j t (k1+1):=((N.extBut u.extBut D.TOi1.symm).extBut F.extBut D.i12).extBut H.extBut D.TOi1.symm;have U:rZ c f m l (k2+1):=O.at λ_ e=>H.extBut _ _ D.TOi2.symm e;have zl:z<f.objs.size:=g_ Y;refine(show wpAny _ _ (Builtin.SmallTypes.ownedTupleHandOut (.ref z) (.ref f.objs.size)>>=_) _ _ _ from a_ ?_);unfold Builtin.SmallTypes.ownedTupleHandOut;have z6:IsZip (f.push {cls:=.type "tuple",data:=.seq #[x,y]}) z h d .ellipsis:=c_ _ Y;refine a_ (o_ z6 (by simp) λg7 V W=>?_)
 replace V:IsZip g7 z h d (rawInt f.objs.size):=V
 refine o_ V (by simp) λI L s8=>?_
 replace L:IsZip I z h d (rawInt f.objs.size):=L
 have up:∀c ob,c≠z->f.get? c=some ob->I.get? c=some ob:=λc ob p e=>s8.extBut _ _ p (W.extBut _ _ p (c_ _ e));have pn:IsPair I f.objs.size x y:=s8.extBut _ _ (me zl) (W.extBut _ _ (me zl) (ge _ rfl));have J:I.objs.size=f.objs.size+1:=by rw[s8.1,W.1,nB]
 rw[sz]at L pn J;refine e_ ⟨_,rfl,(show Q (.ref f.objs.size) _ from ?_)⟩;rw[sz];exact q I L (up _ _ D.TOz i) (T.at λob e=>up _ ob D.i1z e) (U.at λob e=>up _ ob D.i2z e) pn J λc ob p K R S e=>up c ob p (k5 c ob p K R S e)
def B6(hh:A.handled=none)(D:ZipApart z i h m p t l)(j:IsZip s.heap z i h .none)(B:IsPair s.heap i (.ref m) (.ref p))(R:IsPair s.heap h a b)(C:s.heap.IsTupleIter m t k1)(F:s.heap.IsTuple t G)(H:G[k1]?=none)(q:∀g e,F8 z h m p s.heap g->(∃ob,g.get? e=some ob/\ob.cls=.type "StopIteration")->E (.ref e) {s with heap:=g}):wpAny (model P w) A (Builtin.«zip.__next__» ⟨[.ref z],[]⟩) Q E s:=by
 refine(show wpAny _ _ (field (.ref z) 2>>=_) _ _ _ from a_ (rl j rfl (x:=.bool false) rfl ?_));refine(show wpAny _ _ (field (.ref z) 3>>=_) _ _ _ from a_ (rl j rfl (x:=.ref i) rfl (a_ (ro B rfl ?_))));refine(show wpAny _ _ (Builtin.SmallTypes.ownedTupleIsFree (.ref z)>>=_) _ _ _ from a_ ?_);unfold Builtin.SmallTypes.ownedTupleIsFree;refine a_ (rl j rfl (x:=.none) rfl (e_ ?_));simp only[NZ];refine a_ (tA (a_ (rl j rfl (x:=.ref h) rfl (a_ (o_ j (by simp) λI n o=>?_)))))
 replace n:IsZip I z i h .ellipsis:=n
 refine a_ ?_;simp only[List.zipIdx_cons,List.zipIdx_nil,NJ,List.forIn_nil];refine a_ (a_ (NS (show wpAny _ _ (Builtin.SmallTypes.nextOf (.ref m)>>=_) _ _ _ from a_ (yB hh (C.extBut o.extBut D.i1z) (F.extBut o.extBut D.l1z) H λJ e r K=>?_))));obtain⟨L,f,k⟩:=K;have u:IsZip J z i h .ellipsis:=r _ _ D.i1z.symm n;have M:e≠z:=λc=>by subst c;rw[u]at f;cases f;simp at k
 exact o_ u (by simp) λN _ v=>q N e (λc ob y _ O _ d=>v.extBut _ _ y (r _ _ O (o.extBut _ _ y d))) ⟨L,v.extBut _ _ M f,k⟩
def B8{c:Bool}{z h d e f t l:Addr}{k1 k2:Nat}{i j:Oo}{x y a b:Value}{Q:Option Value->Shared->Prop}(D:ZipApart z h d e f t l)(m:IsZip s.heap z h d .none)(n:IsPair s.heap h (.ref e) (.ref f))(o:IsPair s.heap d a b)(p:s.heap.IsTupleIter e t k1)(r:rZ c s.heap f l k2)(u:s.heap.IsTuple t i)(v:qK c s.heap l j)(B:i[k1]?=some x)(C:j[k2]?=some y)(q:∀g,IsZip g z h d (rawInt s.heap.objs.size)->IsPair g d x y->g.IsTupleIter e t (k1+1)->rZ c g f l (k2+1)->IsPair g s.heap.objs.size x y->g.objs.size=s.heap.objs.size+1->F8 z d e f s.heap g->Q (some (.ref s.heap.objs.size)) {s with heap:=g}):wpAny (model P w) A (pyNext (.ref z)) Q E s:=by have ty:s.TypeIs (.ref z) "zip":=⟨_,m,rfl⟩;unfold pyNext;refine a_ (D1 (oD (name:=Str.ofString "__next__") ty NK (n7 NK ty F.entry_zip_next (B7 D m n o p r u v B C λg a1 G H a4 I J K=>?_) (F.args_zip_next_1 _))));exact e_ (q g a1 G H a4 I J K)
def Du(hh:A.handled=none)(D:ZipApart z f c d h t l)(i:IsZip s.heap z f c .none)(m:IsPair s.heap f (.ref d) (.ref h))(n:IsPair s.heap c a b)(o:s.heap.IsTupleIter d t k1)(p:s.heap.IsTuple t r)(u:r[k1]?=none)(q:∀g,F8 z c d h s.heap g->Q none {s with heap:=g}):wpAny (model P w) A (pyNext (.ref z)) Q E s:=by have ty:s.TypeIs (.ref z) "zip":=⟨_,i,rfl⟩;unfold pyNext;refine a_ (D1 (oD (name:=Str.ofString "__next__") ty NK (n7 NK ty F.entry_zip_next (B6 hh D i m n o p u λg e k v=>?_) (F.args_zip_next_1 _))));obtain⟨ob,h1,h2⟩:=v;exact a_ (I_ (T:="StopIteration") (b:=true) ⟨ob,h1,h2⟩ isSubtype_stop (e_ (q g k)))
abbrev Gg(h:Heap)(t:Addr):Heap:=h.push {cls:=.type "tuple_iterator",data:=.fields #[.ref t,.int 0 0]}
abbrev Mc(c:Bool)(h:Heap)(t l:Addr):Heap:=(Gg h t).push {cls:=.type (cond c "list_iterator" "tuple_iterator"),data:=.fields #[.ref l,.int 0 0]}
abbrev Mb(c:Bool)(h:Heap)(t l:Addr):Heap:=(Mc c h t l).push {cls:=.type "tuple",data:=.seq #[.ref h.objs.size,.ref (Gg h t).objs.size]}
abbrev Ma(c:Bool)(h:Heap)(t l:Addr):Heap:=(Mb c h t l).push {cls:=.type "tuple",data:=.seq #[.none,.none]}
abbrev KC(c:Bool)(h:Heap)(t l:Addr):Heap:=(Ma c h t l).push {cls:=.type "zip",data:=.fields #[.none,.bool false,.bool false,.ref (Mc c h t l).objs.size,.ref (Mb c h t l).objs.size]}
def AH(c:Bool)(t l:Addr)(a f:Oo):Meets (Builtin.«zip.__new__» ⟨[.type "zip",.ref t,.ref l],[]⟩) (λ_ R s=>s.heap.IsTuple t a/\qK c s.heap l f/\R (.ok (.ret (.ref (Ma c s.heap t l).objs.size))) {s with heap:=KC c s.heap t l}):=.of_wp λprog w A R s h=>by
  obtain⟨b,g,d,tk,os⟩:=s;obtain⟨h1,h2,h⟩:=h;have i:=sub_zip;have j:Heap.IsTuple (Shared.heap ⟨b,g,d,tk,os⟩) t a:=h1;have k:qK c (Shared.heap ⟨b.push {cls:=.type "tuple_iterator",data:=.fields #[.ref t,.int 0 0]},g,d,tk,os⟩) l f:=h2.at λ_ e=>c_ _ e
  wp_walk using E2 j,Bq k
  exact⟨_,rfl,h⟩
def Di{c:Bool}{t l:Addr}{h i:Oo}{Q:Og}(h1:s.heap.IsTuple t h)(h2:qK c s.heap l i)(q:∀g,IsZip g (s.heap.objs.size+4) (s.heap.objs.size+2) (s.heap.objs.size+3) .none->IsPair g (s.heap.objs.size+2) (.ref s.heap.objs.size) (.ref (s.heap.objs.size+1))->IsPair g (s.heap.objs.size+3) .none .none->g.IsTupleIter s.heap.objs.size t 0->rZ c g (s.heap.objs.size+1) l 0->(∀c o,s.heap.get? c=some o->g.get? c=some o)->Q (.ref (s.heap.objs.size+4)) {s with heap:=g}):wpAny (model P w) A (call (.type "zip") [.ref t,.ref l]) Q E s:=by
 refine callType_new F.called_zip (by decide) (F.typeCall_zip_2 _ _) (F.newCall_zip_2 _ _) (λob=>F.args_object_init_3 ob _ _) F.entry_zip_new (AH c t l h i) ⟨h1,h2,?_⟩;have a:(Gg s.heap t).objs.size=s.heap.objs.size+1:=nB ..;have b:(Mc c s.heap t l).objs.size=s.heap.objs.size+2:=by rw[nB,a]
 have e:(Mb c s.heap t l).objs.size=s.heap.objs.size+3:=by rw[nB,b]
 have j:(Ma c s.heap t l).objs.size=s.heap.objs.size+4:=by rw[nB,e]
 have f:(KC c s.heap t l).get? (Ma c s.heap t l).objs.size=some _:=ge _ rfl;have k:(KC c s.heap t l).get? (Mb c s.heap t l).objs.size=some _:=c_ _ (ge _ rfl);have m:(KC c s.heap t l).get? (Mc c s.heap t l).objs.size=some _:=c_ _ (c_ _ (ge _ rfl));have n:(KC c s.heap t l).get? (Gg s.heap t).objs.size=some _:=c_ _ (c_ _ (c_ _ (ge _ rfl)));have p:(KC c s.heap t l).get? s.heap.objs.size=some _:=c_ _ (c_ _ (c_ _ (c_ _ (ge _ rfl))));show _/\_;rw[b,e,j]at f;rw[a,b]at m;rw[e]at k;rw[a]at n;rw[j];exact⟨⟨_,f,rfl⟩,q _ f m k ⟨_,p,rfl,rfl⟩ ⟨_,n,rfl,rfl⟩ λc ob d=>c_ _ (c_ _ (c_ _ (c_ _ (c_ _ d))))⟩
end
def kJ{X:Cx}{a:Oh}{g:St}{H:Hp}{s:Shared}{h':Heap}{t':Nat}{ch:Oq}(I:aU X a g H s)(k:∀b o,b∉ch->s.heap.get? b=some o->h'.get? b=some o)(f:∀b∈ch,wy X a H b):aU X a g H {s with heap:=h',toks:=t'}:=by
 have d:∀b u,H b=some u->b∉ch:=λb u e z=>by rw[(f b z).1]at e;cases e
 refine I.step (g':=s.gens) (d':=s.drawn) (ch:=ch) (λb h=>?_) (λb o _ _ hc e _=>k b o hc e) (λb o _ _ hc e _=>⟨o.slots,k b o hc e⟩) (λ_ _ _ _ n=>n) (λb o hc e=>⟨o,k b o hc e⟩) (λ_ _ e=>e) (λ_ _ _ e=>e) (λb y e=>⟨#[],by rw[e];simp⟩) (λm hm=>?_) (λb u e=>?_) I.bare
 ·obtain⟨_,f1,_,f3,i,j⟩:=f b h;exact⟨f3,f1,i,j⟩
 ·obtain⟨o,l,p,t,r⟩:=hm;exact⟨o,l,p,k _ o (λz=>(f _ z).2.1 rfl) t,r⟩
 ·refine(I.hok b u e).stay (λc v hc q=>k c v ?_ q) (λ_ q=>q) λ_ _ q=>q;rcases hc with z|z
  ·rw[z];exact d b u e
  ·exact d c _ z
def L7(c:Bool)(K:Of)(t l:Addr):It:=⟨λi H=>∃a b x y,bj K H t a/\HY c K H l b/\a[i]?=some x/\b[i]?=some y,λi H v d=>∃T x y,H T=none/\v=.ref T/\d=aD H T (.tup [x,y])/\∀a b,bj K H t a->HY c K H l b->a[i]?=some x/\b[i]?=some y,λi H=>∃a,bj K H t a/\a.length<=i⟩
def Dy{c:Bool}{P:Ol}{w:World}{K:Of}{J:On}{x1:Nat}{Q:Pos}{z j m n q t l:Addr}(D:ZipApart z j m n q t l):ww P w K (.Tuple J x1 Q) (L7 c K t l) [z,j,m,n,q] z (λi h=>IsZip h z j m .none/\IsPair h j (.ref n) (.ref q)/\(∃a b,IsPair h m a b)/\h.IsTupleIter n t i/\rZ c h q l i)where
 mem:=by simp
 obj:=λi h st b d=>by
  obtain⟨a1,r,⟨_,_,A⟩,⟨al,a4,_,d4⟩,⟨an,C,_,d5⟩⟩:=st;simp only[q_,n_,D_]at d;rcases d with rfl|rfl|rfl|rfl|rfl
  ·exact⟨_,a1,λv e=>by cases e⟩
  ·exact⟨_,r,λv e=>by cases e⟩
  ·exact⟨_,A,λv e=>by cases e⟩
  ·exact⟨_,a4,λv e=>by rw[d4]at e;cases e⟩
  ·exact⟨_,C,λv e=>by rw[d5]at e;cases e⟩
 keep:=λi h h' st k=>by obtain⟨a1,r,⟨a,b,A⟩,a4,C⟩:=st;exact⟨k z (by simp) _ a1,k j (by simp) _ r,⟨a,b,k m (by simp) _ A⟩,a4.at λob e=>k n (by simp) ob e,C.at λob e=>k q (by simp) ob e⟩
 item:=by
  intro X O R S hc i B s σ H E I N st hg;subst O R S;obtain⟨xs,ys,x,y,L,T,U,hy⟩:=hg;obtain⟨F,V,p,hz⟩:=I.tuple L;obtain⟨ag,Y,p2,Z⟩:=I.sqE T;obtain⟨u,hu,ru⟩:=V.get U;obtain⟨u2,aa,ad⟩:=Y.get hy;obtain⟨a1,r,⟨a,b,A⟩,a4,C⟩:=st;refine B8 D a1 r A a4 C (show s.heap.IsTuple t F.toArray from p) p2 (x:=u) (y:=u2) (by simpa using hu) (by simpa using aa) λg b1 b2 b3 b4 b5 b6 off=>?_;refine⟨_,rfl,wpAny_letOwnedTupleGo_zip b1 λg' c1 G=>?_⟩;have lt:∀c∈[z,j,m,n,q],c≠s.heap.objs.size:=λc M e=>by
   have hs:∃ob,s.heap.get? c=some ob:=by
    simp only[q_,n_,D_]at M;rcases M with rfl|rfl|rfl|rfl|rfl
    ·exact⟨_,a1⟩
    ·exact⟨_,r⟩
    ·exact⟨_,A⟩
    ·obtain⟨ob,e,_⟩:=a4;exact⟨ob,e⟩
    ·obtain⟨ob,e,_⟩:=C;exact⟨ob,e⟩
   obtain⟨ob,h⟩:=hs;rw[e]at h;exact absurd (g_ h) (ot _)
  have fresh:H s.heap.objs.size=none:=I.hok.fresh (fx _);have I1:aU X B σ (aD H s.heap.objs.size (.tup [x,y])) {s with heap:=s.heap.push {cls:=.type "tuple",data:=.seq #[u,u2]},toks:=s.toks}:=I.laid (λb o e=>c_ _ e) (fx _) ⟨by rw[hH];simp,[u,u2],.cons ru (.cons ad .nil),⟨_,ge _ rfl,rfl,_,rfl⟩⟩
  have I2:=kJ (h':=g') (t':=s.toks) (ch:=[z,j,m,n,q]) I1 (λb o d e=>?_) (λb d=>?_)
  ·refine⟨.ref s.heap.objs.size,_,I2,rfl,⟨_,x,y,fresh,rfl,rfl,λap as h1 h2=>⟨by rw[I.tuple_inj h1 L];exact U,by rw[Z _ h2];exact hy⟩⟩,⟨c1,G.extBut _ _ D.TIz (off _ _ D.TIz D.TITO D.TIi1 D.TIi2 r),⟨_,_,G.extBut _ _ D.TOz b2⟩,b3.extBut G.extBut D.i1z,b4.at λ_ e=>G.extBut _ _ D.i2z e⟩,λb d=>?_⟩;rw[ao (lt b d)];exact(N b d).1
  ·have f:b≠z/\b≠j/\b≠m/\b≠n/\b≠q:=by simpa using d
   by_cases eb:b=s.heap.objs.size
   ·subst eb;rw[ge _ rfl]at e;cases e;exact G.extBut _ _ f.1 b5
   ·have e':s.heap.get? b=some o:=by
     rcases M5 e with⟨z2,_⟩|e2
     ·exact absurd z2 eb
     ·exact e2
    exact G.extBut _ _ f.1 (off b o f.1 f.2.2.1 f.2.2.2.1 f.2.2.2.2 e')
  ·obtain⟨f0,f1⟩:=N b d;exact⟨by rw[ao (lt b d)];exact f0,f1⟩
 done:=by
  intro X O R S hc i B s σ H E I N st hg;subst O R S;obtain⟨xs,hq,U⟩:=hg;obtain⟨F,V,p,hz⟩:=I.tuple hq;have hl:=V.length;obtain⟨a1,r,⟨a,b,A⟩,a4,C⟩:=st;refine Du (I.ok.hd hc) D a1 r A a4 (show s.heap.IsTuple t F.toArray from p) (by simp;lia) λg off=>⟨rfl,kJ (t':=s.toks) (ch:=[z,j,m,n,q]) I (λb o d e=>?_) N⟩;have f:b≠z/\b≠j/\b≠m/\b≠n/\b≠q:=by simpa using d
  exact off b o f.1 f.2.2.1 f.2.2.2.1 f.2.2.2.2 e
 self:=λ_ _ _ _ _ st h=>wpAny_pyIter_zip st.1 h
end L2
namespace L2
open PySem PySem.Spec PyProof.Rows PySem.W
section
variable{X:Cx}{a:Expr}
end
end L2
namespace L2
open PySem PySem.Spec PyProof.Rows PySem.W
def MI{K:Of}{w:World}{pm:Params}{a:Addr}(h:w.params=pm)(k:Ig K pm a):Ig K w.params a:=h▸k
def gl(c:Nat):List (List Nat)->List Nat|[]=>[]|[x]=>x|x::y::r=>x++c::gl c (y::r)
end L2
namespace L2
open PySem PySem.Spec PyProof.Rows
section
variable{prog:Ol}{w:World}{A:Around}{E:Og}{s:Shared}
end
section
variable{P:Ol}{w:World}{A:Around}{R:Result->Shared->Prop}{h0:Heap}{l it d:Addr}{a:Oo}{c:List j6}
end
section
variable{P:Ol}{w:World}{A:Around}{E:Og}{s:Shared}{l:Addr}{a:Oo}{c:List j6}{Q:Og}
end
section
variable{X:Cx}
end
end L2
namespace L2
open PySem PySem.Spec PyProof.Rows PySem.W
abbrev dE(P:Ol)(w:World)(d:Addr)(a:List (cp×V))(c:Nat):HO:=.ext λh=>((d==sysModules)=false/\a.length<=sizeLine)/\∃b,KV a b/\h.DictAt (bd P w) d b c
theorem xY:∀{a:List (cp×V)}{d:List (cp×Value)},KV a d->∀(i:Nat)(k:cp)(v:V),a[i]?=some (k,v)->∃u,d[i]?=some (k,u)/\bg v u|_,_,.nil,i,k,v,h=>by simp at h|_,_,.cons (b:=q) ⟨c,e⟩ t,i,k,v,h=>by cases i with|zero=>simp at h;subst h;obtain⟨f,u⟩:=q;have c:k=f:=c;subst c;exact⟨u,rfl,e⟩|succ i=>obtain⟨u,h1,h2⟩:=xY t i k v (by simpa using h);exact⟨u,by simpa using h1,h2⟩
def BM(h:(bd P w).is k u=true):bg (kV k) u:=by
 rcases lj.flat (P:=P) (w:=w) (h:=default) (k:=k) (v:=u) h with⟨i,t,rfl,rfl⟩|⟨z,t,rfl,rfl⟩
 ·exact⟨t,rfl⟩
 ·exact⟨t,rfl⟩
section
variable{X:Cx}{g:Oh}{j:St}{H:Hp}{s:Shared}{d:Addr}{f:List (cp×V)}{i:Nat}
def aU.walk(I:aU X g j H s)(h:H d=some (.dK f)):∃i l,KV f l/\s.heap.DictAt (bd X.prog X.w) d l i/\(d==sysModules)=false/\aU X g j (aD H d (dE X.prog X.w d f i)) s:=by obtain⟨r,p,l,kv,m⟩:=I.hok d _ h;obtain⟨i,n⟩:=m.dictAt;obtain⟨o,t,q,_⟩:=id n;refine⟨i,l,kv,n,p,?_⟩;have J:=I.write (h':=s.heap) (t':=s.toks) (x:=d) (e:=d) (o:=dE X.prog X.w d f i) (by rw[h];exact True.intro) (.inl rfl) (λ_ _ _ e=>e) ⟨o,q⟩ ⟨⟨⟨p,r⟩,l,kv,n⟩,⟨o,q⟩,λ_ _⟨a,l,b,c⟩k=>⟨a,l,b,c.at' k⟩⟩;exact J
def aU.thaw(I:aU X g j H s)(h:H d=some (dE X.prog X.w d f i)):aU X g j (aD H d (.dK f)) s:=by obtain⟨⟨⟨a,b⟩,c,kv,k⟩,⟨o,l⟩,_⟩:=I.hok d _ h;have J:=I.write (h':=s.heap) (t':=s.toks) (x:=d) (e:=d) (o:=.dK f) (by rw[h];exact True.intro) (.inl rfl) (λ_ _ _ e=>e) ⟨o,l⟩ ⟨b,a,c,kv,k.dictOf⟩;exact J
end
def Mm(P:Ol)(w:World)(d:Addr)(a:List (cp×V))(c:Nat)(f:cp×V->V):It:=⟨λi H=>H d=some (dE P w d a c)/\i<a.length,λi H x b=>b=H/\a[i]?.map f=some x,λi H=>H d=some (dE P w d a c)/\a.length<=i⟩
def Cc{P:Ol}{w:World}{K:Of}{M:Expr}(d it:Addr)(a:List (cp×V))(m:Nat):ww P w K M (Mm P w d a m λp=>kV p.1) [it] it (λi h=>h.IsKeyIter it d i a.length m)where
 mem:=by simp
 obj:=λi h st b j=>by
  have e:b=it:=by simpa using j
  subst e;obtain⟨o,e,c,q⟩:=st;exact⟨o,e,λv z=>by rw[q]at z;cases z⟩
 keep:=λi h h'⟨o,e,r⟩k=>⟨o,k it (by simp) o e,r⟩
 item:=by intro X t x y hc i g s J H E I n st hg;subst t x y;obtain⟨hd,hi⟩:=hg;obtain⟨⟨_,A,kv,B⟩,_⟩:=I.hok d _ hd;have f:a.length=A.length:=Paired.length kv;obtain⟨C,f1,f2,f3,D,F⟩:=n it (by simp);have L:a[i]?=some a[i]:=fy hi;obtain⟨u,N,ru⟩:=xY kv i a[i].1 a[i].2 L;have st:s.heap.IsKeyIter it d i a.length m:=st;rw[f]at st;refine wpAny_pyNext_dict_item st B N λG h' O l Q=>?_;have I1:aU X g J H {s with heap:=h'}:=I.turned (t':=s.toks) (λb o j e=>(Q.2 b j).trans e) C f1 f3 D F;obtain⟨o,e,c,q⟩:=id l;rw[<-f]at l;exact⟨G,rfl,wZ (s:={s with heap:=h'}) e c q (by decide) ⟨kV a[i].1,H,I1,BM O,⟨rfl,by rw[L];rfl⟩,l,λb j=>(n b j).1⟩⟩
 done:=by intro X t x y hc i g s J H E I n st hg;subst t x y;obtain⟨hd,hi⟩:=hg;obtain⟨⟨_,A,kv,B⟩,_⟩:=I.hok d _ hd;have f:a.length=A.length:=Paired.length kv;obtain⟨C,f1,f2,f3,D,F⟩:=n it (by simp);have st:s.heap.IsKeyIter it d i a.length m:=st;rw[f]at st;exact wpAny_pyNext_dict_end (I.ok.hd hc) st B (k_ (by lia)) λh' S=>⟨rfl,I.turned (t':=s.toks) (λb o j e=>S b o j e) C f1 f3 D F⟩
 self:=λ_ _ _ _ _ st h=>wpAny_pyIter_keyiter st h
def Ca{P:Ol}{w:World}{K:Of}{L:Expr}(d it:Addr)(a:List (cp×V))(m:Nat):ww P w K L (Mm P w d a m λp=>p.2) [it] it (λi h=>h.IsValIter it d i a.length m)where
 mem:=by simp
 obj:=λi h st b j=>by
  have e:b=it:=by simpa using j
  subst e;obtain⟨o,e,c,q⟩:=st;exact⟨o,e,λv z=>by rw[q]at z;cases z⟩
 keep:=λi h h'⟨o,e,r⟩k=>⟨o,k it (by simp) o e,r⟩
 item:=by intro X t x y hc i g s G H E I n st hg;subst t x y;obtain⟨hd,hi⟩:=hg;obtain⟨⟨_,A,kv,B⟩,_⟩:=I.hok d _ hd;have f:a.length=A.length:=Paired.length kv;obtain⟨C,f1,f2,f3,D,F⟩:=n it (by simp);have J:a[i]?=some a[i]:=fy hi;obtain⟨u,M,ru⟩:=xY kv i a[i].1 a[i].2 J;have st:s.heap.IsValIter it d i a.length m:=st;rw[f]at st;refine wpAny_pyNext_values_item st B M λh' l N=>?_;have I1:aU X g G H {s with heap:=h'}:=I.turned (t':=s.toks) (λb o j e=>(N.2 b j).trans e) C f1 f3 D F;obtain⟨o,e,c,q⟩:=id l;rw[<-f]at l;exact⟨u,rfl,wZ (s:={s with heap:=h'}) e c q (by decide) ⟨a[i].2,H,I1,ru,⟨rfl,by rw[J];rfl⟩,l,λb j=>(n b j).1⟩⟩
 done:=by intro X t x y hc i g s G H E I n st hg;subst t x y;obtain⟨hd,hi⟩:=hg;obtain⟨⟨_,A,kv,B⟩,_⟩:=I.hok d _ hd;have f:a.length=A.length:=Paired.length kv;obtain⟨C,f1,f2,f3,D,F⟩:=n it (by simp);have st:s.heap.IsValIter it d i a.length m:=st;rw[f]at st;exact wpAny_pyNext_values_end (I.ok.hd hc) st B (k_ (by lia)) λh' Q=>⟨rfl,I.turned (t':=s.toks) (λb o j e=>Q b o j e) C f1 f3 D F⟩
 self:=λ_ _ _ _ _ st h=>wpAny_pyIter_valiter st h
section
variable{X:Cx}{P:Ol}{w:World}{j l o e:Expr}{a c te:TE}{g i:Pos}
def LR(P:Ol)(w:World)(a:TE):TI:=λk H R=>a k H λx f=>∃d b,x=.ref d/\f d=some (.dK b)/\∀h,R (Mm P w d b h λp=>kV p.1) (aD f d (dE P w d b h))
def G6(t:PE X l a)(u:X.prog=P:=by rfl)(y:X.w=w:=by rfl):PI X j l (LR P w a):=by
 subst u y;intro f s z H R I h;refine cB (t f s z H _ I h) λv n A=>?_;obtain⟨x,G,I1,B,d,k,e,hd,q⟩:=A;subst e;obtain rfl:v=Value.ref d:=B;obtain⟨r,C,kv,D,E,p⟩:=I1.walk hd;have m:k.length=C.length:=Paired.length kv;refine wpAny_pyIter_dict E D ?_;refine⟨n.heap.objs.size,[n.heap.objs.size],_,_,_,rfl,p.kept (t':=n.toks) λb o e=>c_ _ e,Cc d _ k r,⟨_,ge _ rfl,rfl,by rw[m];rfl⟩,λb F=>?_,q r⟩;have e:b=n.heap.objs.size:=by simpa using F
 subst e;exact p.fpOk (fx _) (p.hok.fresh (fx _))
def LN(P:Ol)(w:World)(c:TE):TI:=λk H R=>c k H λx f=>∃d b,x=.ref d/\f d=some (.dK b)/\∀h,R (Mm P w d b h λp=>p.2) (aD f d (dE P w d b h))
def Mz(P:Ol)(w:World)(t:TE):TE:=λh H Q=>t h H λv f=>∃d b k,f d=some (dE P w d b k)/\Q v (aD f d (.dK b))
def JK(h:PE X e te)(f:X.prog=P:=by rfl)(m:X.w=w:=by rfl):PE X e (Mz P w te):=by subst f m;intro b s k H Q I n;refine cB (h b s k H _ I n) λu x p=>?_;obtain⟨v,y,I1,r,d,t,z,hd,q⟩:=p;exact⟨v,_,I1.thaw hd,r,q⟩
def Lb(P:Ol)(w:World)(t:TS):TS:=λD k H=>t {D with nx:=λf h=>∃d b m,h d=some (dE P w d b m)/\D.nx f (aD h d (.dK b))} k H
def Ar{st:Stmt}{t:TS}(h:PS X st t)(m:X.prog=P:=by rfl)(n:X.w=w:=by rfl):PS X st (Lb P w t):=by subst m n;intro b s p H D I r;refine wpAny_mono (h b s p H _ I r) (λf y z=>?_) λ_ _ z=>z;cases f with|next=>obtain⟨k,A,v,d,x,B,hd,q⟩:=z;exact⟨k,_,v.thaw hd,q⟩|brk=>exact z|cont=>exact z|ret u=>exact z
end
end L2
namespace L2
open PySem PySem.Spec PyProof.Rows PySem.W
section
variable{X:Cx}{P:Ol}{w:World}{p l o e:Expr}{B j te ty:TE}{c f t:Pos}
def G4(D:PE X o j)(E:X.prog=P:=by rfl)(G:X.w=w:=by rfl)(g:attributeBase o "values" X.env (eval o X.env)=eval o X.env:=by rfl)(i:(c.endLine==f.line)=true:=by rfl):PI X p (.Call (.Attribute o "values" c) [] [] f) (LN P w j):=by
 subst E G;intro k s J H R I h;refine wpAny_Call_method0_late g i (cB (D k s J H _ I h) λv a K=>?_);obtain⟨x,U,I1,L,d,m,e,hd,q⟩:=K;subst e;obtain rfl:v=Value.ref d:=L;obtain⟨A,C,kv,n,M,N⟩:=I1.walk hd;have r:m.length=C.length:=Paired.length kv;obtain⟨ob,V,u,O,_⟩:=id n;refine⟨"dict","dict.values",PySem.F.plainAttrs_dict,PySem.F.slot_dict_values,PySem.F.type_dict_values,n.dictOf.typeIs,?_,qc rfl (PySem.evalArgs_none (w1 PySem.F.slot_dict_values n.dictOf.typeIs PySem.F.entry_dict_values (PySem.F.args_dict_values_1 _) (meets_dict_values (bd X.prog X.w) d M) ⟨⟨C,n.dictOf⟩,?_⟩))⟩
 ·intro b z;cases z;exact⟨ob,u,O.2.1⟩
 ·have Q:(a.heap.push {cls:=.type "dict_values",data:=.fields #[.ref d]}).IsValuesView a.heap.objs.size d:=⟨_,ge _ rfl,rfl,rfl⟩;show wpAny _ _ (pyIter (.ref a.heap.objs.size)) _ _ _;have y:=N.kept (h':=a.heap.push {cls:=.type "dict_values",data:=.fields #[.ref d]}) (t':=a.toks) λb o e=>c_ _ e;refine wpAny_pyIter_values (s:={a with heap:=a.heap.push {cls:=.type "dict_values",data:=.fields #[.ref d]}}) Q (n.push _) ?_;refine⟨_,[(a.heap.push {cls:=.type "dict_values",data:=.fields #[.ref d]}).objs.size],_,_,_,rfl,y.kept (t':=a.toks) λb o e=>c_ _ e,Ca d _ m A,⟨_,ge _ rfl,rfl,by rw[r];rfl⟩,λb T=>?_,q A⟩;have e:b=(a.heap.push {cls:=.type "dict_values",data:=.fields #[.ref d]}).objs.size:=by simpa using T
  subst e;exact y.fpOk (fx _) (y.hok.fresh (fx _))
def Gk(K:Of)(ty j:TE):TE:=λd H Q=>ty d H λy g=>j d g λx b=>(∃a o,x=.ref a/\eE b a y o/\Q (.bl (!o.isSome)) b)\/Mg K true y x b Q
def CC(K:Of)(C:X.K=K)(D:X.A.units+1<cLine)(hi:PE X i ty)(E:PE X o j):PC X .NotIn i o (Gk K ty j):=by
 subst C;intro b s d H Q I h;refine cB (hi b s d H _ I h) λiv F k=>?_;obtain⟨y,G,I1,m,J⟩:=k;refine cB (E b F d G _ I1 J) λn L k=>?_;obtain⟨x,u,v,z,M⟩:=k;rcases M with⟨a,r,e,g,q⟩|q
 ·subst e;obtain rfl:n=Value.ref a:=z;exact BZ D v g m λO N=>⟨.bl (!r.isSome),u,N,rfl,q⟩
 ·exact xG b L d u y x iv n Q v m z q
def K6(K:Of)(a:Addr)(ty:TE):TE:=λd H Q=>ty d H λy b=>∃x r,y=.str x/\PySem.W.nsIn K a x=some r/\((r=none/\Q .non b)\/∃u v,r=some u/\bg v u/\Q v b)
def G8(K:Of)(L:X.K=K)(hd:Ig K X.w.params a)(hg:Gl X x)(hm:X.mg x=some (.ref a))(M:PE X e ty)(m:M1 X (.Name x d) "get" c e f)(A:(x==("__debug__":Str))=false:=by decide):PE X (.Call (.Attribute (.Name x d) "get" c) [e] [] f) (K6 K a ty):=by
 subst L;intro g s E H Q I h;obtain⟨lo,es,n,k,G⟩:=hd;have hn:PE X (.Name x d) (tC (.ref a)):=BD hg hm rfl A;refine Ha m.base m.few m.line PySem.F.plainAttrs_dict PySem.F.slot_dict_get PySem.F.type_dict_get (cB (hn g s E H (λv N=>v=.ref a/\N=H) I ⟨rfl,rfl⟩) λu O⟨z,R,I1,S,T,U⟩=>?_);subst T U;obtain rfl:u=Value.ref a:=S;have C:=PySem.W.mapOf_K (prog:=X.prog) (w:=X.w) I1.kIn k G;refine⟨C.typeIs,λb z=>by cases z;exact⟨_,I1.kIn _ _ k,rfl⟩,?_⟩;rw[m.trees];refine qc rfl (sT (ov (cB (M g O E R _ I1 h) λiv s2 V=>?_)));obtain⟨y,J,D,Y,Z,r,ey,hu,q2⟩:=V;refine rV ?_;subst ey;obtain⟨tk,rfl⟩:=Y;have i:=PySem.W.mapOf_K (prog:=X.prog) (w:=X.w) D.kIn k G;refine w1 PySem.F.slot_dict_get i.typeIs PySem.F.entry_dict_get (PySem.F.args_dict_get_2 _ _) (meets_dict_get (strKind X.prog X.w) a (PySem.strKind_is X.prog X.w Z tk) lo) ⟨_,i,?_⟩;rw[PySem.W.find_K k hu];rcases q2 with⟨rfl,q⟩|⟨u',v',rfl,rv,q⟩
 ·exact⟨.non,J,D.tok _,rfl,q⟩
 ·exact⟨v',J,D.tok _,rv,q⟩
end
end L2
namespace L2
open PySem PySem.W PyProof.Rows
section
variable{M:Model}{A:Around}{E:Og}
def CO{C D N J:Addr}{nm q m L:Str}{bs n o a:Oj}{hd P sub R p r u c v i}{dd w:Option Addr}{S k1 k2 k3 T x y z B F:Option Value}{id G:String}{s:Shared}{e:Addr}{H:Obj}{Q:Bool->Shared->Prop}(W:s.heap.get? C=some (excClassObj nm q C N bs o hd P sub R p dd S k1 k2 k3 T id))(I:s.heap.get? D=some (excClassObj m L D J n a r u c v i w x y z B F G))(X:s.heap.get? e=some H)(j:H.cls=.ref C)(Z:a.contains (.type "BaseException")=true)(l:Q ((Value.ref C::o).contains (.ref D)) s):wpAny M A (excMatches (.ref e) (.ref D)) Q E s:=by
 obtain⟨h,g,d,t,os⟩:=s;have b:(Value.ref D::a).contains (.type "BaseException")=true:=by rw[E_,Z,Bool.or_true]
 have f:=tc_notTuple;unfold excMatches
 repeat(first|(with_reducible refine s_ X ?_;rw[j])|with_reducible refine s_ I ?_|(with_reducible refine t2 I ?_;rw[b])|(with_reducible refine t2 W ?_)|wp_step)
 cases hc:(Value.ref C::o).contains (Value.ref D)with|true=>rw[hc]at l;rw[hA rfl];exact e_ (e_ (e_ l))|false=>rw[hc]at l;rw[g8 hF];exact e_ (e_ (e_ l))
end
def Ky(K:Of)(C:Addr)(a:Oj):Prop:=∃b dd cd sl,K.lookup C=some ⟨b,dd,.cls cd,sl⟩/\cd.mro=.ref C::a
def Ky.is{K:Of}{C:Addr}{d c:Oj}{h:Heap}{o:Obj}{a:ClassData}(m:Ky K C d)(kin:K.In h)(e:h.get? C=some o)(hd:o.data=.cls a)(hm:a.mro=.ref C::c):c=d:=by obtain⟨f,dd,cd,sl,l,r⟩:=m;have b:=kin _ _ l;rw[e]at b;cases b;have hd:Data.cls cd=Data.cls a:=hd;cases hd;rw[hm]at r;exact(List.cons.inj r).2
end L2
namespace L2
open PySem PySem.Spec PyProof.Rows PySem.W
section
variable{X:Cx}{d:Expr}
def LM(K:Of)(e:TA):TI:=λb H R=>e b H λf a=>∃t l g h,f=[.ref t,.ref l]/\bj K a t g/\∃c,HY c K a l h/\R (L7 c K t l) a
def G3(K:Of)(D:X.K=K){i:On}{E:Nat}{j:Pos}{a b:Expr}{z:TA}{p m:Pos}(hg:Gl X "zip")(hm:X.mg "zip"=none)(F:PA X [a,b] z)(G:starEach [a,b] X.env=[(false,eval a X.env),(false,eval b X.env)]:=by rfl)(n:starEach [b] X.env=[(false,eval b X.env)]:=by rfl):PI X (.Tuple i E j) (.Call (.Name "zip" p) [a,b] [] m) (LM K z):=by
 subst D;intro k s J H R I h;refine rk (lq I hg hm FZ (t4 (cB (F m k s J H _ I h) λus f L=>?_) (by rw[G,n]) (by rw[n];rfl)));obtain⟨vs,M,I1,N,t,l,xs,ys,e,w,c,x,q⟩:=L;subst e;obtain⟨u,v,rfl,rt,O⟩:=oU N;obtain rfl:u=Value.ref t:=rt;obtain rfl:v=Value.ref l:=O;obtain⟨y,rv,pl,hz⟩:=I1.tuple w;obtain⟨A,P,o,Q⟩:=I1.sqE x;obtain⟨o1,S,_⟩:=id pl;obtain⟨o2,T,_⟩:=id o;refine Di (show f.heap.IsTuple t y.toArray from pl) o λg B U V Y Z kk=>?_;refine wpAny_pyIter_zip B ⟨_,[f.heap.objs.size+4,f.heap.objs.size+2,f.heap.objs.size+3,f.heap.objs.size,f.heap.objs.size+1],_,_,M,rfl,I1.kept (t':=f.toks) kk,Dy (ktu_apart f.heap.objs.size t l (g_ S) (g_ T)),⟨B,U,⟨_,_,V⟩,Y,Z⟩,λb C=>?_,q⟩;have r:f.heap.objs.size<=b:=by simp only[q_,n_,D_]at C;rcases C with rfl|rfl|rfl|rfl|rfl<;>first|exact fx _|exact Nat.le_add_right _ _
 exact I1.fpOk r (I1.hok.fresh r)
def Dh{K:Of}{a l:Addr}{xs ys:List V}{g:TG}{ds:Op}{k:Nat}{tc:TT}{te:TE}{E:St}{j:Hp}{F:Addr->Hp->Prop}(Pv:Addr->Nat->List V->Hp->Prop)(r:be K j l ys\/bj K j l ys)(h0:∀D,j D=none->Pv D 0 [] (aD j D (.lst [])))(w:xs.length=ys.length)(G:∀D i f h,Pv D i f h->bj K h a xs/\am j h)(H:∀D i x y f h T,j D=none->xs[i]?=some x->ys[i]?=some y->Pv D i f h->h T=none->g (.ref T) (iL ds k E) (aD h T (.tup [x,y])) λn A=>tc n A λb t=>if b=true then te n t λy u=>u D=some (.lst f)/\f.length<sizeLine/\∃o,o<xs.length-i/\o=xs.length-(i+1)/\i+1<=xs.length/\Pv D (i+1) (f++[y]) (aD u D (.lst (f++[y])))else∃o,o<xs.length-i/\o=xs.length-(i+1)/\i+1<=xs.length/\Pv D (i+1) f t)(hd:∀D f h,j D=none->Pv D xs.length f h->F D h):∃c,HY c K j l ys/\∀D,j D=none->∃W:Nat->Nat->List V->Hp->Prop,(∃m,W 0 m [] (aD j D (.lst [])))/\∀i m f h,W i m f h->((L7 c K a l).stop i h/\F D h)\/((L7 c K a l).go i h/\∀x B,(L7 c K a l).yld i h x B->g x (iL ds k E) B λn A=>tc n A λb t=>if b=true then te n t λy u=>u D=some (.lst f)/\f.length<sizeLine/\∃o,o<m/\W (i+1) o (f++[y]) (aD u D (.lst (f++[y])))else∃o,o<m/\W (i+1) o f t):=by
 obtain⟨c,hc,I⟩:∃c,HY c K j l ys/\∀h,am j h->HY c K h l ys:=by
  rcases r with r|r
  ·exact⟨true,r,λ_ z=>z.seq r⟩
  ·exact⟨false,r,λ_ z=>am.tseq z r⟩
 refine⟨c,hc,λD C=>⟨λi m f h=>m=xs.length-i/\i<=xs.length/\Pv D i f h,⟨_,rfl,j_ _,h0 D C⟩,?_⟩⟩;rintro i m f h⟨rfl,hi,p⟩;obtain⟨q,v⟩:=G D i f h p;have v:=I h v
 by_cases s:i<xs.length
 ·refine .inr ⟨⟨xs,ys,xs[i],ys[i],q,v,by simp[s],by simp[<-w,s]⟩,λx B y=>?_⟩;obtain⟨T,J,L,M,e,N,y⟩:=y;subst e N;obtain⟨O,P⟩:=y xs ys q v;exact H D i J L f _ T C O P p M
 ·have e:i=xs.length:=Nat.le_antisymm hi (Nat.le_of_not_lt s);subst e;exact .inl ⟨⟨xs,q,fx _⟩,hd D f h C p⟩
end
end L2
namespace L2
open PySem PySem.Spec PyProof.Rows PySem.W
def FI(hh:A.handled=none)(it t:Addr)(ne:t≠it)(a:Oo):Draws P w A it [it,t] a.size (λi v=>a[i]?=some v) (λi h=>h.IsTupleIter it t i/\h.IsTuple t a)where
 live:=λ_ _ st=>let⟨o,e,_⟩:=st.1;⟨o,e⟩
 frame:=λ_ _ _ st k=>⟨st.1.at λo e=>k it (by simp) o e,st.2.at λo e=>k t (by simp) o e⟩
 item:=λi s Q E hi st q=>ub st.1 st.2 (v:=a[i]) (by simp[hi]) λg c b=>q _ g s.toks (by simp[hi]) ⟨c,st.2.extBut b.extBut ne⟩ b
 done:=λs Q E st q=>yB hh st.1 st.2 (by simp) q
def zo(t:Addr)(a:Oo)(n:Nat)(f:Option Addr)(sl:Array (Option Value)):Meets (Builtin.«enumerate.__new__» ⟨[.type "enumerate",.ref t],[]⟩) (λ_ R s=>s.heap.get? t=some {cls:=.type "tuple",dict:=f,data:=.seq a n,slots:=sl}/\R (.ok (.ret (.ref (Gg s.heap t).objs.size))) {s with heap:=(Gg s.heap t).push {cls:=.type "enumerate",data:=.fields #[.none,.bool false,.ref s.heap.objs.size,rawInt 0,.none,.none]}}):=.of_wp λprog w A R s h=>by
  obtain⟨i,g,d,tk,os⟩:=s;obtain⟨b,h⟩:=h;have f1:=sub_enumerate;have e:Heap.IsTuple (Shared.heap ⟨i,g,d,tk,os⟩) t a:=⟨_,b,rfl,n,rfl⟩
  wp_walk using Nr b
  refine wpAny_stack_any λst=>e_ ?_
  split
  ·rename_i c _ _ _ _ _;cases(c==Value.type "enumerate")<;>(wp_walk using Nr b,E2 e)<;>exact⟨_,rfl,h⟩
  ·wp_walk using Nr b,E2 e
   exact⟨_,rfl,h⟩
def Bf(i:s.heap.IsTuple t a)(q:∀g,IsEnum g (s.heap.objs.size+1) s.heap.objs.size 0 .none->g.IsTupleIter s.heap.objs.size t 0->(∀b o,s.heap.get? b=some o->g.get? b=some o)->Q (.ref (s.heap.objs.size+1)) {s with heap:=g}):wpAny (model P w) A (call (.type "enumerate") [.ref t]) Q E s:=by
 obtain⟨⟨c,j,l,sl⟩,k,d,n,e⟩:=i;simp only at d e;subst d e;refine callType_new F.called_enumerate (by decide) (F.typeCall_enumerate_1 _) (F.newCall_enumerate_1 _) (λob=>F.args_object_init_2 ob _) F.entry_enumerate_new (zo t a n j sl) ⟨k,?_⟩;have f:(Gg s.heap t).objs.size=s.heap.objs.size+1:=nB ..;show _/\_;rw[f];have h:IsEnum ((Gg s.heap t).push {cls:=.type "enumerate",data:=.fields #[.none,.bool false,.ref s.heap.objs.size,rawInt 0,.none,.none]}) (s.heap.objs.size+1) s.heap.objs.size 0 .none:=by have z:=ge (Gg s.heap t) (o:={cls:=.type "enumerate",data:=.fields #[.none,.bool false,.ref s.heap.objs.size,rawInt 0,.none,.none]}) rfl;rw[f]at z;exact z
 exact⟨⟨_,h,rfl⟩,q _ h ⟨_,c_ _ (ge _ rfl),rfl,rfl⟩ λb o x=>c_ _ (c_ _ x)⟩
def Ite(K:Of)(t:Addr):It:=⟨λi H=>∃a x,bj K H t a/\a[i]?=some x,λi H v b=>∃T x,H T=none/\v=.ref T/\b=aD H T (.tup [.int i,x])/\∀a,bj K H t a->a[i]?=some x,λi H=>∃a,bj K H t a/\a.length=i⟩
def Cd{P:Ol}{w:World}{K:Of}{q:On}{Z:Nat}{D:Pos}{e it t:Addr}(n1:e≠it)(n2:t≠it)(n3:t≠e):ww P w K (.Tuple q Z D) (Ite K t) [e,it] e (λi h=>(∃a,IsEnum h e it i a)/\h.IsTupleIter it t i)where
 mem:=by simp
 obj:=λi h st b f=>by
  obtain⟨⟨_,a1⟩,ob,j,_,U⟩:=st;simp only[q_,n_,D_]at f;rcases f with rfl|rfl
  ·exact⟨_,a1,λv z=>by cases z⟩
  ·exact⟨_,j,λv z=>by rw[U]at z;cases z⟩
 keep:=λi h h' st k=>by obtain⟨⟨a,a1⟩,j⟩:=st;exact⟨⟨a,k e (by simp) _ a1⟩,j.at λob z=>k it (by simp) ob z⟩
 item:=by
  intro X F G J hc i l s Q H E I y st hg;subst F G J;obtain⟨V,x,B,R⟩:=hg;obtain⟨d,L,p,Y⟩:=I.tuple B;obtain⟨u,S,ru⟩:=L.get R;obtain⟨⟨a,a1⟩,j⟩:=st;have hi:i<d.toArray.size:=by rw[hQ];exact(d_.mp S).1
  have m:X.A.in1.handled=none:=by simp[I.ok.hd hc]
  refine wpAny_pyNext_enum_itemD (FI m it t n2 d.toArray) a1 ⟨j,p⟩ hi n1 (by simp[n1,m3 n3]) λv g tk C b1 b2 b3 b4 off=>?_;have ev:v=u:=by have C:d.toArray[i]?=some v:=C;rw[NM,S]at C;exact(j1 C).symm
  subst ev;refine⟨_,rfl,wpAny_letOwnedTupleGo_enum b1 λg' c1 M=>?_⟩;have lt:∀c∈[e,it],c≠s.heap.objs.size:=λc r z=>by
   have hs:∃ob,s.heap.get? c=some ob:=by
    simp only[q_,n_,D_]at r;rcases r with rfl|rfl
    ·exact⟨_,a1⟩
    ·obtain⟨ob,z,_⟩:=j;exact⟨ob,z⟩
   obtain⟨ob,h⟩:=hs;rw[z]at h;exact absurd (g_ h) (ot _)
  have fresh:H s.heap.objs.size=none:=I.hok.fresh (fx _);have I1:aU X l Q (aD H s.heap.objs.size (.tup [.int i,x])) {s with heap:=s.heap.push {cls:=.type "tuple",data:=.seq #[.int i tk,v]},toks:=tk+1}:=I.laid (λb o z=>c_ _ z) (fx _) ⟨by rw[hH];simp,[.int i tk,v],.cons ⟨tk,rfl⟩ (.cons ru .nil),⟨_,ge _ rfl,rfl,_,rfl⟩⟩
  have I2:=kJ (h':=g') (t':=tk+1) (ch:=[e,it]) I1 (λb o f z=>?_) (λb f=>?_)
  ·refine⟨.ref s.heap.objs.size,_,I2,rfl,⟨_,x,fresh,rfl,rfl,λaa h1=>by rw[I.tuple_inj h1 B];exact R⟩,⟨⟨_,by simpa using c1⟩,b2.1.extBut M.extBut (m3 n1)⟩,λb f=>?_⟩;rw[ao (lt b f)];exact(y b f).1
  ·have n:b≠e/\b≠it:=by simpa using f
   by_cases T:b=s.heap.objs.size
   ·subst T;rw[ge _ rfl]at z;cases z;exact M.extBut _ _ n.1 b3
   ·have z':s.heap.get? b=some o:=by
     rcases M5 z with⟨N,_⟩|N
     ·exact absurd N T
     ·exact N
    exact M.extBut _ _ n.1 (off b o n.1 n.2 z')
  ·obtain⟨f0,f1⟩:=y b f;exact⟨by rw[ao (lt b f)];exact f0,f1⟩
 done:=by
  intro X F G J hc i l s Q H E I y st hg;subst F G J;obtain⟨V,B,rfl⟩:=hg;obtain⟨d,L,p,Y⟩:=I.tuple B;have hl:=L.length;obtain⟨⟨a,a1⟩,j⟩:=st;have m:X.A.in1.handled=none:=by simp[I.ok.hd hc]
  have O:s.heap.IsTupleIter it t d.toArray.size:=by rw[hQ,<-hl];exact j
  refine wpAny_pyNext_enum_endD (FI m it t n2 d.toArray) a1 ⟨O,p⟩ λg off=>⟨rfl,kJ (t':=s.toks) (ch:=[e,it]) I (λb o f z=>?_) y⟩;have n:b≠e/\b≠it:=by simpa using f
  exact off b o n.2 z
 self:=λ_ _ _ _ _ st h=>by obtain⟨⟨a,a1⟩,_⟩:=st;exact wpAny_pyIter_enum a1 h
section
variable{X:Cx}
def LS(K:Of)(c:TA):TI:=λb H R=>c b H λd a=>∃t e,d=[.ref t]/\bj K a t e/\R (Ite K t) a
def G7(K:Of)(r:X.K=K){c:On}{v:Nat}{d:Pos}{a:Expr}{m:TA}{p f:Pos}(hg:Gl X "enumerate")(hm:X.mg "enumerate"=none)(w:PA X [a] m)(x:starEach [a] X.env=[(false,eval a X.env)]:=by rfl):PI X (.Tuple c v d) (.Call (.Name "enumerate" p) [a] [] f) (LS K m):=by
 subst r;intro i s y H R I h;refine rk (lq I hg hm L2.vm (t4 (cB (w f i s y H _ I h) λG j⟨J,z,I1,A,B⟩=>?_) (by rw[x];rfl) (by rfl)));obtain⟨t,L,e,C,q⟩:=B;subst e;obtain⟨u,rfl,rt⟩:=lB A;obtain rfl:u=Value.ref t:=rt;obtain⟨l,M,pl,N⟩:=I1.tuple C;obtain⟨O,D,_⟩:=id pl;have lt:=g_ D;refine Bf (show j.heap.IsTuple t l.toArray from pl) λg n E F=>?_;refine wpAny_pyIter_enum n ⟨_,[j.heap.objs.size+1,j.heap.objs.size],_,_,z,rfl,I1.kept (t':=j.toks) F,Cd (t:=t) (me (rm _)) (ig lt) (ig (u_ lt)),⟨⟨_,n⟩,E⟩,λb o=>?_,q⟩;have k:j.heap.objs.size<=b:=by
  simp only[q_,n_,D_]at o;rcases o with rfl|rfl
  ·exact Nat.le_add_right _ _
  ·exact fx _
 exact I1.fpOk k (I1.hok.fresh k)
end
end L2
namespace L2
open PySem PySem.Spec PyProof.Rows PySem.W
section
variable{X:Cx}
end
end L2
namespace L2
open PySem PySem.Spec PyProof.Rows PySem.W
def Iti(P:Ol)(w:World)(d:Addr)(a:List (cp×V))(c:Nat):It:=⟨λi H=>H d=some (dE P w d a c)/\i<a.length,λi H x b=>∃T k v,H T=none/\x=.ref T/\b=aD H T (.tup [kV k,v])/\a[i]?=some (k,v),λi H=>H d=some (dE P w d a c)/\a.length<=i⟩
def Af{P:Ol}{w:World}{K:Of}{j:On}{Q:Nat}{q:Pos}(d it:Addr)(a:List (cp×V))(F:Nat):ww P w K (.Tuple j Q q) (Iti P w d a F) [it] it (λi h=>∃ok l,IsItemIter h it d i a.length F ok l)where
 mem:=by simp
 obj:=λi h st b f=>by
  have e:b=it:=by simpa using f
  subst e;obtain⟨_,_,e⟩:=st;exact⟨_,e,λv z=>by cases z⟩
 keep:=λi h h'⟨ok,l,e⟩k=>⟨ok,l,k it (by simp) _ e⟩
 item:=by
  intro X r t x hc i g s G H E I n st hg;subst r t x;obtain⟨hd,hi⟩:=hg;obtain⟨⟨_,y,kv,A⟩,_⟩:=I.hok d _ hd;have c:a.length=y.length:=Paired.length kv;have J:a[i]?=some a[i]:=fy hi;obtain⟨u,O,ru⟩:=xY kv i a[i].1 a[i].2 J;obtain⟨ok,l,st⟩:=st;have lt:it<s.heap.objs.size:=g_ st;rw[c]at st;refine wpAny_pyNext_items_item st A O λm h' R out S hz T=>?_;refine⟨_,rfl,wpAny_letOwnedTupleGo_items out λU L M=>?_⟩;rw[<-c]at L;have fresh:H s.heap.objs.size=none:=I.hok.fresh (fx _);have I1:aU X g G (aD H s.heap.objs.size (.tup [kV a[i].1,a[i].2])) {s with heap:=s.heap.push {cls:=.type "tuple",data:=.seq #[m,u]}}:=I.laid (t':=s.toks) (λb o z=>c_ _ z) (fx _) ⟨by rw[hH];simp,[m,u],.cons (BM R) (.cons ru .nil),⟨_,ge _ rfl,rfl,_,rfl⟩⟩
  have Y:=kJ (h':=U) (t':=s.toks) (ch:=[it]) I1 (λb o f z=>?_) (λb f=>?_)
  ·refine⟨.ref s.heap.objs.size,_,Y,rfl,⟨_,a[i].1,a[i].2,fresh,rfl,rfl,J⟩,⟨_,_,L⟩,λb f=>?_⟩;have e:b=it:=by simpa using f
   subst e;rw[ao (ig lt)];exact(n b f).1
  ·have B:b≠it:=by simpa using f
   by_cases p:b=s.heap.objs.size
   ·subst p;rw[ge _ rfl]at z;cases z;exact M.extBut _ _ B S
   ·have Z:s.heap.get? b=some o:=by
     rcases M5 z with⟨C,_⟩|C
     ·exact absurd C p
     ·exact C
    exact M.extBut _ _ B (T b o B Z)
  ·have e:b=it:=by simpa using f
   subst e;obtain⟨D,f1⟩:=n b f;exact⟨by rw[ao (ig lt)];exact D,f1⟩
 done:=by intro X r t x hc i g s G H E I n st hg;subst r t x;obtain⟨hd,hi⟩:=hg;obtain⟨⟨_,y,kv,A⟩,_⟩:=I.hok d _ hd;have c:a.length=y.length:=Paired.length kv;obtain⟨D,f1,f2,f3,f4,f5⟩:=n it (by simp);obtain⟨ok,l,st⟩:=st;rw[c]at st;exact wpAny_pyNext_items_end (I.ok.hd hc) st A (k_ (by omega)) λh' p=>⟨rfl,I.turned (t':=s.toks) (λb o f e=>p b o f e) D f1 f3 f4 f5⟩
 self:=λ_ _ _ _ _ st h=>by obtain⟨_,_,st⟩:=st;exact kcp_self st h
section
variable{X:Cx}{P:Ol}{w:World}{o:Expr}{i:TE}{a c f:Pos}{g:On}{j:Nat}
def J7(P:Ol)(w:World)(i:TE):TI:=λk H R=>i k H λx e=>∃d b,x=.ref d/\e d=some (.dK b)/\∀h,R (Iti P w d b h) (aD e d (dE P w d b h))
def yV(C:PE X o i)(D:X.prog=P:=by rfl)(E:X.w=w:=by rfl)(l:attributeBase o "items" X.env (eval o X.env)=eval o X.env:=by rfl)(m:(a.endLine==c.line)=true:=by rfl):PI X (.Tuple g j f) (.Call (.Attribute o "items" a) [] [] c) (J7 P w i):=by
 subst D E;intro n s G H R I h;refine wpAny_Call_method0_late l m (cB (C n s G H _ I h) λv k J=>?_);obtain⟨x,T,I1,K,d,p,e,hd,q⟩:=J;subst e;obtain rfl:v=Value.ref d:=K;obtain⟨A,B,kv,r,L,M⟩:=I1.walk hd;have t:p.length=B.length:=Paired.length kv;obtain⟨ob,U,u,N,_⟩:=id r;refine⟨"dict","dict.items",PySem.F.plainAttrs_dict,PySem.F.slot_dict_items,PySem.F.type_dict_items,r.dictOf.typeIs,?_,qc rfl (PySem.evalArgs_none (w1 PySem.F.slot_dict_items r.dictOf.typeIs PySem.F.entry_dict_items (PySem.F.args_dict_items_1 _) (meets_dict_items (bd X.prog X.w) d L) ⟨⟨B,r.dictOf⟩,?_⟩))⟩
 ·intro b z;cases z;exact⟨ob,u,N.2.1⟩
 ·have O:(k.heap.push {cls:=.type "dict_items",data:=.fields #[.ref d]}).IsItemsView k.heap.objs.size d:=⟨_,ge _ rfl,rfl,rfl⟩;show wpAny _ _ (pyIter (.ref k.heap.objs.size)) _ _ _;have y:=M.kept (h':=k.heap.push {cls:=.type "dict_items",data:=.fields #[.ref d]}) (t':=k.toks) λb o e=>c_ _ e;refine wpAny_pyIter_items (s:={k with heap:=k.heap.push {cls:=.type "dict_items",data:=.fields #[.ref d]}}) O (r.push _) ?_;refine⟨_,[(k.heap.push {cls:=.type "dict_items",data:=.fields #[.ref d]}).objs.size],_,_,_,rfl,y.kept (t':=k.toks) λb o e=>c_ _ e,Af d _ p A,⟨_,_,by rw[t];exact ge _ rfl⟩,λb S=>?_,q A⟩;have e:b=(k.heap.push {cls:=.type "dict_items",data:=.fields #[.ref d]}).objs.size:=by simpa using S
  subst e;exact y.fpOk (fx _) (y.hok.fresh (fx _))
end
end L2
namespace L2
open PySem PySem.Spec PyProof.Rows PySem.W
def qL(n:Nat){c:Type}(R:c->Prop):KasT c->Prop|.ret a=>R a|.ask i j k=>i<n/\j<n/\∀b,qL n R (k b)
theorem qL.bind{n:Nat}{c d:Type}{R:c->Prop}{S:d->Prop}{f:c->KasT d}(e:∀a,R a->qL n S (f a)):∀{t:KasT c},qL n R t->qL n S (t.bind f)|.ret a,h=>e a h|.ask i j k,h=>⟨h.1,h.2.1,λb=>qL.bind e (h.2.2 b)⟩
theorem qL.wp{n:Nat}{d:Type}{R:d->Prop}{c:Nat->Nat->(Bool->Shared->Prop)->Shared->Prop}{Q:d->Shared->Prop}{s:Shared}(hc:∀i j C,i<n->j<n->(∀b,C b s)->c i j C s)(e:∀a,R a->Q a s):∀{t:KasT d},qL n R t->t.kasWp c Q s|.ret a,h=>e a h|.ask i j k,h=>hc i j _ h.1 h.2.1 λb=>qL.wp hc e (h.2.2 b)
def PR(n:Nat)(p:Array Nat):Prop:=p.toList.Perm (List.range n)
def PR.lt(h:PR n p)(hn:0<n)(k:Nat):p.getD k 0<n:=by
 by_cases a:k<p.size
 ·have e:p.getD k 0=p[k]:=by simp[Array.getD,a]
  rw[e];exact oi.mp (h.mem_iff.mp (Array.mem_toList_iff.mpr (Array.getElem_mem a)))
 ·have e:p.getD k 0=0:=by simp[Array.getD,a]
  rw[e];exact hn
def PR.rev(h:PR n p)(i j:Nat):PR n (kas_rev p i j):=(mirror_perm p i j _).toList.trans h
section
variable{n:Nat}(hn:0<n)
include hn
theorem xZ(h:PR n p):∀f m,qL n (λ_=>True) (kas_asc p f m)|0,_=>trivial|f+1,m=>⟨h.lt hn _,h.lt hn _,λb=>by cases b with|true=>exact trivial|false=>exact xZ h f (m+1)⟩
theorem qm:∀(f:Nat){p:Array Nat}(m q:Nat),PR n p->qL n (λr:Array Nat×Nat×Nat=>PR n r.1) (kas_desc f p m q)|0,_,_,_,h=>h|f+1,p,m,q,h=>⟨h.lt hn _,h.lt hn _,λb=>by
 cases b with|true=>
   show qL n _ (if q>0 then _ else _)
   split
   ·exact qm f _ _ (h.rev _ _)
   ·exact qm f _ _ h|false=>refine⟨h.lt hn _,h.lt hn _,λd=>?_⟩;cases d with|true=>exact h|false=>exact qm f _ _ h⟩
def zu{p:Array Nat}(m r:Nat)(h:PR n p):qL n (λr:Nat×Array Nat=>PR n r.2) (kas_tail3 m r p):=qL.bind (S:=λr:Nat×Array Nat=>PR n r.2) (f:=λa=>.ret (a,kas_rev p 0 m)) (λ_ _=>h.rev _ _) (xZ hn (h.rev _ _) _ _)
def zv{p:Array Nat}(m r:Nat)(h:PR n p):qL n (λr:Nat×Array Nat=>PR n r.2) (kas_descPart m r p):=qL.bind (λa b=>by
 show qL n _ (if a.2.2>0 then _ else _)
 split
 ·exact zu hn _ _ (b.rev _ _)
 ·exact zu hn _ _ b) (qm hn _ _ _ h)
def CW{p:Array Nat}(r:Nat)(h:PR n p):qL n (λr:Nat×Array Nat=>PR n r.2) (kas_count r p):=qL.bind (λm _=>by
 show qL n _ (if(m==r)=true then _ else _)
 split
 ·exact h
 ·split
  ·refine⟨h.lt hn _,h.lt hn _,λc=>?_⟩;cases c with|true=>exact h|false=>exact zv hn _ _ (h.rev _ _)
  ·exact zv hn _ _ h) (xZ hn h _ _)
theorem rn{p:Array Nat}(h:PR n p)(k:Nat):∀f l r,qL n (λ_=>True) (kas_place p k f l r)
 |0,_,_=>trivial|f+1,l,r=>by
  show qL n _ (if l>=r then _ else _)
  split
  ·exact trivial
  ·refine⟨h.lt hn _,h.lt hn _,λc=>?_⟩;cases c with|true=>exact rn h k f _ _|false=>exact rn h k f _ _
theorem BR:∀(f:Nat){p:Array Nat}(k:Nat),PR n p->qL n (PR n) (kas_bin f p k)|0,_,_,h=>h|f+1,p,k,h=>qL.bind (λl _=>BR f _ ((bubble_perm p k _).toList.trans h)) (rn hn h _ _ _ _)
def Fh:qL n (PR n) (kas_sort n):=qL.bind (λr a=>by
 show qL n _ (if r.1<n then _ else _)
 split
 ·exact BR hn _ _ a
 ·exact a) (CW hn _ (show(List.toArray (List.range n)).toList.Perm _ by exact .refl _))
end
section
variable{prog:Ol}{w:World}{A:Around}{E:Og}{s:Shared}{κ:SortKind}
def Ee{a:Addr}{c:Oj}{n:Nat}{P:Fin->Shared->Prop}(v:s.heap.get? a=some (seqObj "list" c.toArray n))(L:c.length<64)(M:2<=c.length->∀g:Shared,(∀b o,b≠a->s.heap.get? b=some o->g.heap.get? b=some o)->(∀Q:SortKind->Shared->Prop,Q κ g->wpAny (model prog w) A (keyKind' c.toArray) Q (λ_ _=>False) g)/\∀x y C,x∈c->y∈c->(∀b,C b g)->wpAny (model prog w) A (keyLt' κ x y) C (λ_ _=>False) g)(h:∀out:List Value,out.Perm c->P (.done (.ret .none)) {s with heap:=sortedHeap s.heap a c out.toArray}):wpAny (model prog w) A (Builtin.«list.sort» ⟨[.ref a],[]⟩) P E s:=by
 rw[list_sort_plain];have B:c.toArray.size=c.length:=by simp
 refine a_ (listItems_at v rfl ?_);refine a_ (listUpdate_at v rfl ?_ (by rw[B,hH];lia) (j_ _));obtain⟨D,k⟩:∃D,(s.heap.update a (Obj.mapSeq λ_=>#[])).get? a=some (seqObj "list" #[] D):=⟨_,get?_update_seq v (λ_=>#[])⟩;refine a_ (seqEpoch_at k rfl ?_);refine a_ (wpAny_newTuple ?_ (by show c.length<=_;rw[hH];lia));refine a_ (wpAny_newList ?_ (j_ _));refine mu ?_;have kept:∀b o,b≠a->s.heap.get? b=some o->(((s.heap.update a (Obj.mapSeq λ_=>#[])).push (seqObj "tuple" c.toArray 0)).push (seqObj "list" #[] 0)).get? b=some o:=λb o N q=>c_ _ (c_ _ ((Heap.get?_update_ne _ _ _ _ N).trans q))
 have d:(((s.heap.update a (Obj.mapSeq λ_=>#[])).push (seqObj "tuple" c.toArray 0)).push (seqObj "list" #[] 0)).get? a=some (seqObj "list" #[] D):=c_ _ (c_ _ k);show wpAny (model prog w) A _ P E {s with heap:=((s.heap.update a (Obj.mapSeq λ_=>#[])).push (seqObj "tuple" c.toArray 0)).push (seqObj "list" #[] 0)};dsimp only;have F:(c.toArray.zip c.toArray).size=c.length:=by simp
 by_cases h2:c.toArray.size<2
 ·rw[hA h2,hA h2];refine a_ (e_ ?_);rw[StateT.run_pure];refine a_ (e_ ?_);dsimp only;refine a_ (seqEpoch_at d rfl ?_);refine a_ (listUpdate_at d rfl ?_ (j_ _) (by refine kl (Nat.le_of_eq ((Array.size_map ..).trans F)) ?_;rw[hH];lia));simp only[bne_self_eq_false,F_,Nv];have e:(c.toArray.zip c.toArray).map (·.2)=c.toArray:=by
   apply Array.toList_inj.mp;have e:(c.toArray.zip c.toArray).toList=c.zip c:=by simp
   rw[Array.toList_map,e];exact List.map_snd_zip (fx _)
  have:=h c (.refl _);rw[<-e]at this;exact e_ this
 ·rw[g8 h2,g8 h2];have l:2<=c.length:=by lia
  obtain⟨k1,k2⟩:=M l {s with heap:=((s.heap.update a (Obj.mapSeq λ_=>#[])).push (seqObj "tuple" c.toArray 0)).push (seqObj "list" #[] 0)} kept;refine a_ (wpAny_mono (k1 (λm K=>m=κ/\K={s with heap:=((s.heap.update a (Obj.mapSeq λ_=>#[])).push (seqObj "tuple" c.toArray 0)).push (seqObj "list" #[] 0)}) ⟨rfl,rfl⟩) (λm K z=>?_) λ_ _ x=>x.elim);obtain⟨rfl,rfl⟩:=z;refine a_ (wpAny_mono (kat_run (ks:=c) (vs:=c) (Q:=λf r=>∃p:Array Nat,arrOf f=p.map (kas_item (c.toArray.zip c.toArray))/\failedOf f=none/\PR c.length p/\r=_) (G:=λp r=>PR c.length p/\r=_) rfl l L (λp f r a1 R S a4=>⟨p,R,S,a4⟩) (qL.wp (λi j C hi T U=>?_) (λp u=>⟨u,rfl⟩) (Fh (by lia)))) ?_ λ_ _ e=>e)
  ·unfold kas_ask;have mem:∀i,i<c.length->c.getD i Value.none∈c:=λi hi=>by rw[t8,fy hi];exact B_ hi
   exact k2 _ _ C (mem i hi) (mem j T) U
  ·rintro⟨⟨⟩,f⟩r⟨p,H,V,u,rfl⟩;dsimp only;have t:=kat_snds (ks:=c) (vs:=c) rfl H;have I:p.toList.length=c.length:=by rw[u.length_eq,ol]
   have J:(p.toList.map λi=>c.getD i Value.none).Perm c:=by
    refine(u.map λi=>c.getD i Value.none).trans (Od ?_);refine tx λi=>?_;rw[gg]
    by_cases hi:i<c.length
    ·rw[List.getElem?_range hi];simp[hi]
    ·rw[k_ (by rw[ol];lia),k_ (by lia)];rfl
   rw[t];refine a_ (seqEpoch_at d rfl ?_);refine a_ (listUpdate_at d rfl ?_ (j_ _) (by rw[hQ,b_,I,hH];lia));rw[V];simp only[bne_self_eq_false,F_,Nv];exact e_ (h _ J)
end
def zX(h:Heap)(v:Value):Prop:=∃a o n x y z t u b,v=.ref a/\h.get? a=some o/\o.cls=.type "tuple"/\o.data=.seq #[.str x t,.str y u,.str z b] n
def zX.kept(p:zX h v)(k:∀b o,h.get? b=some o->h'.get? b=some o):zX h' v:=by obtain⟨a,o,n,x,y,z,t,u,c,e,d,r⟩:=p;exact⟨a,o,n,x,y,z,t,u,c,e,k _ _ d,r⟩
section
variable{prog:Ol}{w:World}{A:Around}{E:Og}{s:Shared}
def Gj(g:zX s.heap v)(h:zX s.heap u)(d:∀b,C b s):wpAny (model prog w) A (keyLt' (tuples' true) v u) C (λ_ _=>False) s:=by obtain⟨a,o,n,x,y,z,p,q,r,rfl,i,hc,hd⟩:=g;obtain⟨B,D,F,G,H,I,j,k,l,rfl,e,m,f⟩:=h;have c:∀{x y:Str}{t u:Tok},wpAny (model prog w) A (oneLt' false (.str x t) (.str y u)) C (λ_ _=>False) s:=λ{x y t u}=>kat_one _ _ (lt_str (d _));refine kat_lt i hd e f (kat_cons (Nu (kat_go (λ_=>kat_yes (kat_cons (Nu (kat_go (λ_=>kat_yes (kat_cons (Nu (kat_go (λ_=>kat_yes (kat_nil (d _))) (λ_=>kat_no c))))) (λ_=>kat_no c))))) (λ_=>kat_no (oneLt_str (d _))))))
theorem r9:∀{c:Oj},(∀v∈c,zX h v)->∃fs:List Value,KatTups h c fs/\fs.length=c.length/\∀v∈fs,∃x t,v=Value.str x t
 |[],_=>⟨[],.nil,rfl,λv b=>nomatch b⟩|u::r,d=>by
  obtain⟨a,o,n,x,y,z,e,g,i,rfl,f,hc,hd⟩:=d u (il ..);obtain⟨fs,h1,h2,h3⟩:=r9 λv b=>d v (hY _ b);refine⟨.str x e::fs,.cons f hc hd rfl h1,by simp[h2],λv b=>?_⟩;rcases q_.mp b with rfl|b
  ·exact⟨_,_,rfl⟩
  ·exact h3 v b
def Ai(g:s.heap.IsList l vs.toArray)(i:vs.length<64)(j:∀v∈vs,zX s.heap v)(h:∀out:List Value,out.Perm vs->Q (.ref (s.heap.objs.size+1)) {s with heap:=sortedAll s.heap vs out.toArray}):wpAny (model prog w) A (call (.builtin "sorted") [.ref l]) Q E s:=by
 refine Calls.call_function_entry kind_sorted plain_sorted entry_sorted (args_sorted1 _) ?_;unfold Builtin.«sorted»;refine a_ (m:=checkCount "sorted" 1 1 _) (e_ ?_);refine a_ (collect_list g ?_ (by rw[hH];lia));refine a_ (wpAny_newList ?_ (by rw[hH];lia));have c:((s.heap.push (seqObj "list" #[] 0)).update s.heap.objs.size (Obj.mapSeq (·++vs.toArray))).objs.size=s.heap.objs.size+1:=by rw[Heap.size_update,size_push']
 have e:(((s.heap.push (seqObj "list" #[] 0)).update s.heap.objs.size (Obj.mapSeq (·++vs.toArray))).push (seqObj "list" vs.toArray 0)).get? (s.heap.objs.size+1)=some (seqObj "list" vs.toArray 0):=by rw[<-c];exact ge _ rfl
 have keep:∀b o,s.heap.get? b=some o->b≠s.heap.objs.size+1/\(((s.heap.push (seqObj "list" #[] 0)).update s.heap.objs.size (Obj.mapSeq (·++vs.toArray))).push (seqObj "list" vs.toArray 0)).get? b=some o:=λb o q=>by have a:b<s.heap.objs.size:=g_ q;refine⟨ig (u_ a),?_⟩;rw[Heap.get?_push_ne _ _ _ (by rw[c];exact ig (u_ a)),Heap.get?_update_ne _ _ _ _ (ig a),Heap.get?_push_ne _ _ _ (ig a)];exact q
 show wpAny _ _ _ _ _ {s with heap:=((s.heap.push (seqObj "list" #[] 0)).update s.heap.objs.size (Obj.mapSeq (·++vs.toArray))).push (seqObj "list" vs.toArray 0)};rw[c];refine a_ (mu (n7 slot_list_sort (s:={s with heap:=((s.heap.push (seqObj "list" #[] 0)).update s.heap.objs.size (Obj.mapSeq (·++vs.toArray))).push (seqObj "list" vs.toArray 0)}) ⟨_,e,rfl⟩ entry_list_sort (Ee (κ:=tuples' true) e i (λh2 k k1=>?_) λout a1=>⟨_,rfl,?_⟩) (args_list_sort _)))
 ·have d:∀v∈vs,zX k.heap v:=λv f=>(j v f).kept λb o q=>k1 b o (keep b o q).1 (keep b o q).2;refine⟨λD n=>?_,λx y C p r u=>Gj (d x p) (d y r) u⟩;obtain⟨fs,h1,z,h3⟩:=r9 d;refine kat_kind (T:=Value.type "str") h1 (by lia) (λv f=>?_) (by decide+kernel) ?_
  ·obtain⟨x,t,rfl⟩:=h3 v f;exact Looks.of_pure rfl
  ·rw[show(Value.type "str"!=Value.type "tuple")=true by decide+kernel];exact n
 ·exact e_ ⟨_,rfl,h out a1⟩
end
theorem BA:∀{c:Oq}{a:Oj},bq (c.map V.ref) a->a=c.map Value.ref|[],_,.nil=>rfl|u::r,_,.cons h t=>by obtain rfl:_=Value.ref u:=h;rw[BA t];rfl
theorem BG:∀{a:Oq},bq (a.map V.ref) (a.map Value.ref)|[]=>.nil|_::_=>.cons rfl BG
def CB(h:out.Perm (c.map Value.ref)):∃d:List Addr,d.Perm c/\out=d.map Value.ref:=by
 let f:Value->Addr:=λv=>match v with|.ref a=>a|_=>0
 have e:(c.map Value.ref).map f=c:=by rw[sD];exact(C_ (g:=id) λa _=>rfl).trans (List.map_id c)
 have i:(out.map f).map Value.ref=out:=by rw[sD];refine(C_ (g:=id) λv j=>?_).trans (List.map_id out);obtain⟨a,_,rfl⟩:=ir.mp (h.mem_iff.mp j);rfl
 have b:=h.map f;rw[e]at b;exact⟨_,b,i.symm⟩
def Bc(K:Of)(A:X.K=K):dk X (.builtin "sorted") (λl H Q=>∃(p:Addr)(c:Oq),l=[.ref p]/\be K H p (c.map V.ref)/\c.length<64/\(∀u∈c,∃x y z,bj K H u [.str x,.str y,.str z])/\∀(q:Addr)(d:Oq),H q=none->d.Perm c->Q (.ref q) (aD H q (.lst (d.map V.ref)))):=by
 subst A;intro m s P H l R Q I r h;obtain⟨p,c,rfl,B,hn,C,q⟩:=h;obtain⟨u,rfl,D⟩:=lB r;obtain rfl:u=Value.ref p:=D;obtain⟨e,f,⟨o,n,g,i,w,E⟩,_⟩:=I.list B;obtain rfl:=BA f;refine Ai (vs:=c.map Value.ref) ⟨o,g,i,n,E⟩ (by rw[b_];lia) (λv F=>?_) λout j=>?_
 ·obtain⟨a,hm,rfl⟩:=ir.mp F;obtain⟨x,y,z,G⟩:=C a hm;obtain⟨e,f,⟨o,g,i,n,w⟩,_⟩:=I.tuple G;cases f with|cons h1 t=>cases t with|cons h2 t=>cases t with|cons h3 t=>cases t;obtain⟨J,rfl⟩:=h1;obtain⟨L,rfl⟩:=h2;obtain⟨M,rfl⟩:=h3;exact⟨a,o,n,x,y,z,J,L,M,rfl,g,i,w⟩
 ·obtain⟨d,b,rfl⟩:=CB j;obtain⟨N,k⟩:=sortedAll_at s.heap (c.map Value.ref) (d.map Value.ref).toArray;have O:=b.length_eq;refine⟨.ref (s.heap.objs.size+1),_,I.laid (h':=sortedAll s.heap (c.map Value.ref) (d.map Value.ref).toArray) (t':=s.toks) (o:=.lst (d.map V.ref)) (λ_ _=>sortedAll_old) (qr _) ⟨?_,_,N,BG,k⟩,rfl,q _ d (I.hok.fresh (qr _)) b⟩;rw[b_,hH];lia
end L2
namespace L2
open PySem PySem.Spec PyProof.Rows PySem.W
def ye{J:It}{n:Nat}{g:TG}{ds:Op}{k:Nat}{tc:TT}{te:TE}{r:St}{s:Hp}{D:Addr}{F:Hp->Prop}(Pv:Nat->List V->Hp->Prop)(h0:Pv 0 [] (aD s D (.lst [])))(hg:∀i a c,i<n->Pv i a c->J.go i c)(t:∀i a c x h,i<n->Pv i a c->J.yld i c x h->g x (iL ds k r) h λd q=>tc d q λb j=>if b=true then te d j λy l=>l D=some (.lst a)/\a.length<sizeLine/\∃f,f<n-i/\f=n-(i+1)/\i+1<=n/\Pv (i+1) (a++[y]) (aD l D (.lst (a++[y])))else∃f,f<n-i/\f=n-(i+1)/\i+1<=n/\Pv (i+1) a j)(hd:∀a c,Pv n a c->J.stop n c/\F c):∃W:Nat->Nat->List V->Hp->Prop,(∃m,W 0 m [] (aD s D (.lst [])))/\∀i m a c,W i m a c->(J.stop i c/\F c)\/(J.go i c/\∀x h,J.yld i c x h->g x (iL ds k r) h λd q=>tc d q λb j=>if b=true then te d j λy l=>l D=some (.lst a)/\a.length<sizeLine/\∃f,f<m/\W (i+1) f (a++[y]) (aD l D (.lst (a++[y])))else∃f,f<m/\W (i+1) f a j):=by
 refine⟨λi m a c=>m=n-i/\i<=n/\Pv i a c,⟨_,rfl,j_ _,h0⟩,?_⟩;rintro i m a c⟨rfl,hi,p⟩
 by_cases o:i<n
 ·exact .inr ⟨hg i a c o p,λx h y=>t i a c x h o p y⟩
 ·have e:i=n:=by lia
  subst e;exact .inl (hd a c p)
def FC{J:It}{n:Nat}{g:TG}{j:TS}{D:jq}{a:St}{H:Hp}(Pv:Nat->St->Hp->Prop)(h0:Pv 0 a H)(hg:∀i a H,i<n->Pv i a H->J.go i H)(o:∀i a H x c,i<n->Pv i a H->J.yld i H x c->g x a c λd h=>j {D with nx:=Pv (i+1),ct:=Pv (i+1),bk:=D.nx} d h)(hd:∀a H,Pv n a H->J.stop n H/\D.nx a H):∃W:Nat->Nat->St->Hp->Prop,(∃m,W 0 m a H)/\∀i m a H,W i m a H->(J.stop i H/\D.nx a H)\/(J.go i H/\∃N:St->Hp->Prop,(∀f c,N f c->∃l,l<m/\W (i+1) l f c)/\∀x c,J.yld i H x c->g x a c λd h=>j {D with nx:=N,ct:=N,bk:=D.nx} d h):=by
 refine⟨λi m a H=>m=n-i/\i<=n/\Pv i a H,⟨n,by simp,j_ _,h0⟩,?_⟩;rintro i m a H⟨rfl,hi,p⟩
 by_cases b:i<n
 ·exact .inr ⟨hg i a H b p,Pv (i+1),λf c k=>⟨n-(i+1),by omega,rfl,b,k⟩,λx c y=>o i a H x c b p y⟩
 ·have e:i=n:=by lia
  subst e;exact .inl (hd a H p)
end L2
namespace L2
open PySem
def rF{K:Of}{f:Str}{a C dx:Addr}{fs:List (Str×V)}{v:V}{H:Hp}{R:V->Prop}(h:H a=some (.ins C dx fs))(hc:yw K C)(hn:cb K C f)(j:fs.lookup f=some v)(k:R v):∃g d e c i,V.ref a=.ref g/\H g=some (.ins d e c)/\yw K d/\cb K d f/\c.lookup f=some i/\R i:=⟨a,C,dx,fs,v,rfl,h,hc,hn,j,k⟩
def rM{a C dx:Addr}{m:Str}{fs:List (Str×V)}{H:Hp}{R:Prop}(h:H a=some (.ins C dx fs))(hn:fs.lookup m=none)(k:R):∃e d c,V.ref a=.ref e/\H e=some (.ins C d c)/\c.lookup m=none/\R:=⟨a,dx,fs,rfl,h,hn,k⟩
def rG{d:Type}{a:Addr}{A R:Addr->d->Prop}(v:d)(h:A a v)(k:R a v):∃c e,V.ref a=.ref c/\A c e/\R c e:=⟨a,v,rfl,h,k⟩
def rX{A:Addr->List V->Prop}{p:Addr}{c:List V}{i:Int}{v:V}{R:V->Prop}(h:A p c)(g:tM c i=some v)(k:R v):∃d a e f,V.ref p=.ref d/\V.int i=.int e/\A d a/\tM a e=some f/\R f:=⟨p,c,i,v,rfl,rfl,h,g,k⟩
def rA{l:Addr}{c:List V}{y:V}{H:Hp}{R:Addr->List V->V->Prop}(h:H l=some (.lst c))(f:c.length<sizeLine)(k:R l c y):∃d a e,V.ref l=.ref d/\[y]=[e]/\H d=some (.lst a)/\a.length<sizeLine/\R d a e:=⟨l,c,y,rfl,rfl,h,f,k⟩
def r2{i j:Int}{R:Int->Int->Prop}(k:R i j):∃a c,V.int i=.int a/\V.int j=.int c/\R a c:=⟨i,j,rfl,rfl,k⟩
def U{a:Type}{A R:a->Prop}{v:a}(h:A v)(k:R v):∃v,A v/\R v:=⟨v,h,k⟩
def gL{K:Of}{f:Str}{a C dx:Addr}{fs:List (Str×V)}{o:Option (Option V)}{v:V}{H:Hp}{R:V->Prop}(h:H a=some (.ins C dx fs))(hc:yw K C)(hn:cb K C f)(h0:o=some (some (.ref a)))(j:fs.lookup f=some v)(k:R v):∃w,o=some (some w)/\∃g d e c i,w=.ref g/\H g=some (.ins d e c)/\yw K d/\cb K d f/\c.lookup f=some i/\R i:=⟨_,h0,a,C,dx,fs,v,rfl,h,hc,hn,j,k⟩
def jG{a C dx:Addr}{m:Str}{fs:List (Str×V)}{o:Option (Option V)}{H:Hp}{R:V->Prop}(h:H a=some (.ins C dx fs))(h0:o=some (some (.ref a)))(hn:fs.lookup m=none)(k:R (.ref a)):∃w,o=some (some w)/\∃e d c,w=.ref e/\H e=some (.ins C d c)/\c.lookup m=none/\R w:=⟨_,h0,a,dx,fs,rfl,h,hn,k⟩
end L2
namespace L2
open PySem PySem.Spec PyProof.Rows PySem.W
section
variable{X:Cx}
end
end L2
namespace L2
open PySem PySem.Spec PyProof.Rows PySem.W
set_option genInjectivity false in
set_option genSizeOf false in
structure AF where
 x:Addr
 d:FuncData
structure Df(K:Of)(mg:Oi)(n:Str)(st:Stmt)(a:AF)(ps:Om):Prop where
 f:yu K n n st a.x a.d
 m:mg n=some (.ref a.x)b:fC K a.d ps []
structure Mf(K:Of)(C:Addr)(n q:Str)(st:Stmt)(a:AF)(ps:Om):Prop where
 f:yu K n q st a.x a.d
 m:Gc K C n a.x
 b:fC K a.d ps []
section
variable{K:Of}{h:Heap}{mg:Oi}{n q:Str}{st:Stmt}{x C:Addr}{fd:FuncData}
def IF{c:Om}(X:K.In h)(G:h.Ns mainGlobals mg)(a:PySem.W.nsIn K mainGlobals n=some (some (.ref x)))(F:yu K n n st x fd)(b:yu K n n st x fd->fC K fd c []):Df K mg n st ⟨x,fd⟩ c:=⟨F,PySem.W.mg_of X G a,b F⟩
def LC{c:Om}(a:PySem.W.findIn K (.ref C) n=some (some (.ref x)))(i:PySem.W.isFn K (.ref x)=true)(F:yu K n q st x fd)(b:yu K n q st x fd->fC K fd c []):Mf K C n q st ⟨x,fd⟩ c:=⟨F,⟨a,i,F.kp⟩,b F⟩
def LU(X:K.In h)(G:h.Ns mainGlobals mg)(a:PySem.W.nsIn K mainGlobals n=some (some (.ref x))):mg n=some (.ref x):=PySem.W.mg_of X G a
def KS(X:K.In h)(G:h.Ns mainGlobals mg)(a:PySem.W.nsIn K mainGlobals n=some none):mg n=none:=PySem.W.mg_none_of X G a
def LL{i:Int}{t:Tok}(X:K.In h)(G:h.Ns mainGlobals mg)(a:PySem.W.nsIn K mainGlobals n=some (some (.int i t))):∃u,mg n=some u/\bg (.int i) u:=⟨_,PySem.W.mg_of X G a,_,rfl⟩
def Ll{i:Str}{t:Tok}(X:K.In h)(G:h.Ns mainGlobals mg)(a:PySem.W.nsIn K mainGlobals n=some (some (.str i t))):∃u,mg n=some u/\bg (.str i) u:=⟨_,PySem.W.mg_of X G a,_,rfl⟩
def FG(a:PySem.W.excIn K x [.type "ValueError",.type "Exception",.type "BaseException",.type "object"] "ValueError.__new__"=true):tZ K x:=a
def BJ(a:PySem.W.findIn K (.ref C) n=some none):cb K C n:=a
def LK{dd:Option Addr}{it:Oo}{c:Nat}{sl:Array (Option Value)}{a:List V}(w:K.lookup x=some ⟨.type "tuple",dd,.seq it c,sl⟩)(y:bq a it.toList)(l:Nat.ble a.length 65536=true):L2.Ml K x a:=⟨_,it,c,w,rfl,rfl,by rw[<-j2,<-y.length];exact dn (Nat.le_of_ble_eq_true l),y⟩
abbrev KM(st:Stmt)(n q:Str)(kV a pm:Value)(d:Option Addr)(c ct:Value)(e:Oj):=bindArgs (PySem.W.fnOf n q (qC st) (gI st) (ak st) .none kV a pm d c ct) ⟨e,[]⟩
variable{c d e f g j:Str}
def wj{n:Nat}{i:Oj}(h:i.length=n+1):∃u a,i=u::a/\a.length=n:=by cases i with|nil=>cases h|cons u a=>exact⟨u,a,rfl,Nat.succ.inj h⟩
def b1(F:yu K n q st x fd)(h:∀kV a pm l i ct u,KM st n q kV a pm l i ct [u]=pure [(c,u)]:=by intros;rfl):fC K fd [c] []:=F.binds λkV a pm l i ct b k=>by obtain⟨u,b,rfl,h1⟩:=wj k;cases o0.mp h1;exact h kV a pm l i ct u
def b2(F:yu K n q st x fd)(h:∀kV a pm l i ct u v,KM st n q kV a pm l i ct [u,v]=pure [(c,u),(d,v)]:=by intros;rfl):fC K fd [c,d] []:=F.binds λkV a pm l i ct b k=>by obtain⟨u,b,rfl,h1⟩:=wj k;obtain⟨v,b,rfl,h2⟩:=wj h1;cases o0.mp h2;exact h kV a pm l i ct u v
def b3(F:yu K n q st x fd)(h:∀kV a pm l i ct u v w,KM st n q kV a pm l i ct [u,v,w]=pure [(c,u),(d,v),(e,w)]:=by intros;rfl):fC K fd [c,d,e] []:=F.binds λkV a pm l i ct b k=>by obtain⟨u,b,rfl,h1⟩:=wj k;obtain⟨v,b,rfl,h2⟩:=wj h1;obtain⟨w,b,rfl,h3⟩:=wj h2;cases o0.mp h3;exact h kV a pm l i ct u v w
def b4(F:yu K n q st x fd)(h:∀kV a pm l i ct u v w y,KM st n q kV a pm l i ct [u,v,w,y]=pure [(c,u),(d,v),(e,w),(f,y)]:=by intros;rfl):fC K fd [c,d,e,f] []:=F.binds λkV a pm l i ct b k=>by obtain⟨u,b,rfl,h1⟩:=wj k;obtain⟨v,b,rfl,h2⟩:=wj h1;obtain⟨w,b,rfl,h3⟩:=wj h2;obtain⟨y,b,rfl,h4⟩:=wj h3;cases o0.mp h4;exact h kV a pm l i ct u v w y
def b5(F:yu K n q st x fd)(h:∀kV a pm l i ct u v w y z,KM st n q kV a pm l i ct [u,v,w,y,z]=pure [(c,u),(d,v),(e,w),(f,y),(g,z)]:=by intros;rfl):fC K fd [c,d,e,f,g] []:=F.binds λkV a pm l i ct b k=>by obtain⟨u,b,rfl,h1⟩:=wj k;obtain⟨v,b,rfl,h2⟩:=wj h1;obtain⟨w,b,rfl,h3⟩:=wj h2;obtain⟨y,b,rfl,h4⟩:=wj h3;obtain⟨z,b,rfl,h5⟩:=wj h4;cases o0.mp h5;exact h kV a pm l i ct u v w y z
def b6(F:yu K n q st x fd)(h:∀kV a pm l i ct u v w y z r,KM st n q kV a pm l i ct [u,v,w,y,z,r]=pure [(c,u),(d,v),(e,w),(f,y),(g,z),(j,r)]:=by intros;rfl):fC K fd [c,d,e,f,g,j] []:=F.binds λkV a pm l i ct b k=>by obtain⟨u,b,rfl,h1⟩:=wj k;obtain⟨v,b,rfl,h2⟩:=wj h1;obtain⟨w,b,rfl,h3⟩:=wj h2;obtain⟨y,b,rfl,h4⟩:=wj h3;obtain⟨z,b,rfl,h5⟩:=wj h4;obtain⟨r,b,rfl,h6⟩:=wj h5;cases o0.mp h6;exact h kV a pm l i ct u v w y z r
end
def cd{i j:Int}(h:decide (0<j/\j<1073741824)=true):eV i j:=(md h:0<j/\j<1073741824)
def ls{n:Nat}(h:Nat.ble n 65536=true):n<=sizeLine:=dn (Nat.le_of_ble_eq_true h)
section
variable{X:Cx}{n:Str}{st:Stmt}{a:AF}{l:Om}{sp:Sp}{j k:Nat}{e:Expr}{h:On}{t:TA}{p c:Pos}
def pc(D:Df X.K X.mg n st a l)(F:aT X.prog X.w X.K X.mg X.base dq j a.x a.d l sp)(o:eQ k X.A)(q:PA X (e::h) t)(r:j<=k:=by decide)(hg:Gl X n:=by rfl)(g:(n==("__debug__":Str))=false:=by decide)(s:starEach (e::h) X.env=(false,eval e X.env)::starEach h X.env:=by rfl)(i:(backTo c (starEach h X.env)).any (·.1)=false:=by rfl):PE X (.Call (.Name n p) (e::h) [] c) (DH sp [] E0 t):=bh (F.mono r) o hg D.m D.f.kp D.b .nil bE q g s i
def bu(i:Nat){x:Str}{te:TE}{d:Pos}(g:X.N.Nodup)(m:PE X e te)(hi:X.N[i]?=some x:=by rfl)(f:X.env.scope.names.lookup x=some .local:=by rfl)(o:swapsWith e (some (.Name x d)) c.line X.env=pure false:=by rfl):PS X (.Assign [.Name x d] e c) (yE te (kK i)):=xE g hi (.inl f) m o (.inr f)
def vB(i:Nat){x:Str}(f:X.N.Nodup)(hi:X.N[i]?=some x:=by rfl)(d:X.env.scope.names.lookup x=some .local:=by rfl):PG X (.Name x c) (kK i):=BC f hi (.inl d) (.inr d)
def pT(N0 d:Om)(i:Nat){x:Str}(f:(N0++d).Nodup:=by decide+kernel)(g:X.N=N0++d:=by rfl)(hi:(N0++d)[i]?=some x:=by rfl)(m:KQ X.env.scope x:=by first|exact Or.inl rfl|exact Or.inr rfl)(o:X.fn x=true\/X.env.scope.names.lookup x=some .local:=by first|exact .inl rfl|exact .inr rfl):PG X (.Name x c) (kK i):=by rw[<-g]at f hi;exact BC f hi m o
def vC(N0 d:Om)(ds o:Op)(f:Scope){i q iter:Expr}{m:On}{scope:Scope}{u:TI}{g:TG}{tc:TT}{te:TE}(hg:GK g o)(hi:PI X q iter u)(v:∀cl C s₀ H₀ ex,PG (X.comp scope (N0++d) cl C s₀ H₀ ex) q g/\Ib (X.comp scope (N0++d) cl C s₀ H₀ ex) m tc/\PE (X.comp scope (N0++d) cl C s₀ H₀ ex) i te)(hc:X.calm=true:=by rfl)(r:X.N=N0:=by rfl)(s:X.env.scope=f:=by rfl)(ok:rK N0 ds f scope=true:=by decide+kernel)(w:(o.all λj=>ds.contains j||decide (N0.length<=j))=true:=by decide+kernel)(y:∀x,foldedSetIterable iter X.env x=pure x:=by intro _;rfl):PE X (.ListComp i [⟨q,iter,m,0⟩] scope c) (uc u g ds d.length tc te):=HP N0 d ds o f hc r s ok w hg hi v y
def Kn(i:Nat)(N0 d:Om)(ds u:Op)(f:Scope){x:Str}{m o:Pos}{q s iter:Expr}{r:On}{scope:Scope}{B:TI}{g:TG}{tc:TT}{te:TE}(hg:GK g u)(hi:PI X s iter B)(D:∀cl C s₀ H₀ ex,PG (X.comp scope (N0++d) cl C s₀ H₀ ex) s g/\Ib (X.comp scope (N0++d) cl C s₀ H₀ ex) r tc/\PE (X.comp scope (N0++d) cl C s₀ H₀ ex) q te)(v:N0.Nodup)(hc:X.calm=true:=by rfl)(w:X.N=N0:=by rfl)(y:X.env.scope=f:=by rfl)(ok:rK N0 ds f scope=true:=by decide+kernel)(E:(u.all λj=>ds.contains j||decide (N0.length<=j))=true:=by decide+kernel)(z:N0[i]?=some x:=by rfl)(F:f.names.lookup x=some .local:=by rfl)(A:swapsWith (.ListComp q [⟨s,iter,r,0⟩] scope c) (some (.Name x m)) o.line X.env=pure true:=by rfl)(G:∀x,foldedSetIterable iter X.env x=pure x:=by intro _;rfl):PS X (.Assign [.Name x m] (.ListComp q [⟨s,iter,r,0⟩] scope c) o) (yE (uc B g ds d.length tc te) (kK i)):=FU N0 d ds u f hc w y ok E hg hi D v z F A G
def gw(K:Of){a b:Expr}{d f:TE}(g:PE X a d)(i:PE X b f)(m:X.K=K:=by rfl)(o:yq b:=by intro _ _;rfl):PE X (.Subscript a b c) (Il (JB K) d f):=yX (Fj K m) g i o
def dB(K:Of){a b:Expr}{d f:TE}(g:PE X a d)(i:PE X b f)(m:X.K=K:=by rfl)(o:yq b:=by intro _ _;rfl):PE X (.Subscript a b c) (Il (JA K) d f):=yX (Hy K m) g i o
end
section
variable{P:Ol}{w:World}{K:Of}{mg:Oi}{base:Heap}{n q:Str}{st:Stmt}{a:AF}{C:Addr}{N c:Om}{k:Nat}{sp:Sp}
theorem Df.ok(D:Df K mg n st a c)(S:aA N c (ak st))(e:∀(g:Value)(A:Around)(outer:List Env)(s:Shared)(H:Hp)(i:List V)(Q:VK)(E:XK),eQ k (A.deeper (envOfC n (ak st) s.heap.objs.size a.x g))->sp i H Q E->∃t,tY (rH dq P w K mg base N n (ak st) a.x g A outer s H E).nox (gI st) t/\t {nx:=λ_ j=>Q .non j,rt:=Q} (i8 N i) H)(len:∀i H Q E,sp i H Q E->i.length=c.length:=by intro _ _ _ _ h;cases h;subst_vars;rfl):aT P w K mg base dq (k+1) a.x a.d c sp:=D.f.ok S len e
theorem Mf.ok(D:Mf K C n q st a c)(S:aA N c (ak st))(e:∀(g:Value)(A:Around)(outer:List Env)(s:Shared)(H:Hp)(i:List V)(Q:VK)(E:XK),eQ k (A.deeper (envOfC q (ak st) s.heap.objs.size a.x g))->sp i H Q E->∃t,tY (rH dq P w K mg base N q (ak st) a.x g A outer s H E).nox (gI st) t/\t {nx:=λ_ j=>Q .non j,rt:=Q} (i8 N i) H)(len:∀i H Q E,sp i H Q E->i.length=c.length:=by intro _ _ _ _ h;cases h;subst_vars;rfl):aT P w K mg base dq (k+1) a.x a.d c sp:=D.f.ok S len e
theorem Df.okE(D:Df K mg n st a c)(S:aA N c (ak st))(e:∀(g:Value)(A:Around)(outer:List Env)(s:Shared)(H:Hp)(i:List V)(Q:VK)(E:XK),eQ k (A.deeper (envOfC n (ak st) s.heap.objs.size a.x g))->sp i H Q E->∃t,tY (rH (lP P w) P w K mg base N n (ak st) a.x g A outer s H E) (gI st) t/\t {nx:=λ_ j=>Q .non j,rt:=Q} (i8 N i) H)(len:∀i H Q E,sp i H Q E->i.length=c.length:=by intro _ _ _ _ h;cases h;subst_vars;rfl):aT P w K mg base (lP P w) (k+1) a.x a.d c sp:=D.f.okE S len e
theorem Mf.okE(D:Mf K C n q st a c)(S:aA N c (ak st))(e:∀(g:Value)(A:Around)(outer:List Env)(s:Shared)(H:Hp)(i:List V)(Q:VK)(E:XK),eQ k (A.deeper (envOfC q (ak st) s.heap.objs.size a.x g))->sp i H Q E->∃t,tY (rH (lP P w) P w K mg base N q (ak st) a.x g A outer s H E) (gI st) t/\t {nx:=λ_ j=>Q .non j,rt:=Q} (i8 N i) H)(len:∀i H Q E,sp i H Q E->i.length=c.length:=by intro _ _ _ _ h;cases h;subst_vars;rfl):aT P w K mg base (lP P w) (k+1) a.x a.d c sp:=D.f.okE S len e
end
end L2
namespace L2
open PySem PySem.Spec PyProof.Rows PySem.W
section
variable{X:Cx}
end
end L2
namespace L2
open PySem PySem.W PyProof.Rows
section
variable{M:Model}{A:Around}{E:Og}
def CN{C D N W:Addr}{nm q u X:Str}{bs v p c:Oj}{hd Z sub ab w x y i z j}{dd B:Option Addr}{k0 k1 k2 k3 k5 F G H I J:Option Value}{id L:String}{s:Shared}{e tup:Addr}{P:Obj}{Q:Bool->Shared->Prop}(r:s.heap.get? C=some (excClassObj nm q C N bs p hd Z sub ab w dd k0 k1 k2 k3 k5 id))(l:s.heap.get? D=some (excClassObj u X D W v c x y i z j B F G H I J L))(T:s.heap.get? e=some P)(a:P.cls=.ref C\/P.cls=.ref D)(ht:IsTup s.heap tup #[.ref C,.ref D])(hb:p.contains (.type "BaseException")=true)(R:c.contains (.type "BaseException")=true)(S:Q true s):wpAny M A (excMatches (.ref e) (.ref tup)) Q E s:=by
 obtain⟨o,U,hc,n,K⟩:=ht;obtain⟨h,g,d,t,os⟩:=s;have b:(Value.ref C::p).contains (.type "BaseException")=true:=by rw[E_,hb,Bool.or_true]
 have k:(Value.ref D::c).contains (.type "BaseException")=true:=by rw[E_,R,Bool.or_true]
 unfold excMatches;refine a_ (I_ ⟨o,U,hc⟩ isSubtype_tuple_tuple ?_);dsimp only;rw[hA rfl];refine a_ (ro U K ?_);dsimp only[Option.getD_some,Option.getD];have O:(Value.ref C::p).contains (.ref C)=true:=by rw[E_,t6,Bool.true_or]
 have m:(Value.ref D::c).contains (.ref D)=true:=by rw[E_,t6,Bool.true_or]
 have f:=tc_notTuple;rcases a with a|a
 ·repeat(first|(with_reducible refine s_ T ?_;rw[a])|with_reducible refine s_ r ?_|with_reducible refine s_ l ?_|(with_reducible refine t2 r ?_;first|rw[b]|rw[O])|(with_reducible refine t2 l ?_;rw[k])|wp_step)
  exact S
 ·repeat(first|(with_reducible refine s_ T ?_;rw[a])|with_reducible refine s_ r ?_|with_reducible refine s_ l ?_|(with_reducible refine t2 r ?_;rw[b])|(with_reducible refine t2 l ?_;first|rw[k]|rw[m]|skip)|wp_step)
  cases V:(Value.ref D::c).contains (Value.ref C)with
 |true=>
   rw[hA rfl]
   repeat wp_step
   exact S|false=>
   rw[g8 hF]
   repeat(first|(with_reducible refine t2 l ?_;rw[m])|wp_step)
   exact S
end
def KY(c:XK->TS)(d e:Addr)(f:TS):TS:=λD a H=>c (λb _ g=>(b=.ref d\/b=.ref e)/\f D a g) D a H
def GZ{X:Cx}{st W:Stmt}{a:List Stmt}{Z:XK->TS}{th:TS}{y A:Addr}{d f:Str}{g i j B:Pos}{k l}(C:X.stack=X.env::X.outer)(hf:X.env.frame=some X.env.locals)(G:tZ X.K y)(J:Gl X d)(M:X.mg d=some (.ref y))(P:tZ X.K A)(Q:Gl X f)(R:X.mg f=some (.ref A))(hb:∀(E:XK)(c:Oh)(m:St)(v:Og),jn (lP X.prog X.w) (X.wish v) E c m->F7 (X.wish v) c m st (Z E))(hh:∀x,tY (X.inExc x) (W::a) th)(n:(d==("__debug__":Str))=false:=by decide)(o:(f==("__debug__":Str))=false:=by decide):PS X (.Try [st] [.ExceptHandler (some (.Tuple [.Name d g,.Name f i] k l)) none (W::a) j] [] [] B) (KY Z y A th):=by intro c s m H D I h;refine yC C hf (λE p m v hx=>EF (hb E p m v hx)) I h λx C' H' s5 hr L=>?_;obtain⟨O,S⟩:=hr;obtain⟨bm,N,nm,q,bs,hd,sn,sub,ab,ag,dd,k0,k1,k2,k3,k5,mN,U,hN,al,T⟩:=G.at I.mod.kin;obtain⟨an,N',ap,q',as,ax,a2,Y,a3,aa,a5,a6,a7,a8,ba,bb,bc,r,bi,ad,T'⟩:=P.at I.mod.kin;refine wpAny_handleBy_cons (codeAny_handlers_test ?_) (by intro z;cases z);refine wpAny_Tuple_spliced ?_;show wpAny _ _ (spliced ((false,eval (.Name d g) X.env)::(false,eval (.Name f i) X.env)::[])) _ _ _;refine ov (jM (L.inv.inExc x) J M ?_ n);refine ov (jM (L.inv.inExc x) Q R ?_ o);refine rV ⟨by show 2<=sizeLine;rw[hH];decide,?_⟩;obtain⟨ob,V,t⟩:=L.obj;refine CN (c_ _ (L.inv.bk _ _ U)) (c_ _ (L.inv.bk _ _ r)) (c_ _ V) (by rw[t];exact O) ⟨_,ge _ rfl,rfl,_,rfl⟩ (T.hasType PySem.F.excBase_ValueError.hasBase) (T'.hasType PySem.F.excBase_ValueError.hasBase) (codeAny_handlers_suite ?_);exact(L.keep λb u e=>c_ _ e).run hh S λ_ _ z=>z
end L2
namespace L2
open PySem PySem.W PyProof.Rows
def sM(K:Of)(C D:Addr):Prop:=tZ K C/\∃a,Ky K C a/\(Value.ref C::a).contains (.ref D)=true
def KU{K:Of}{x C:Addr}{c:Value}{d:Option Addr}{a:ClassData}{f:Array (Option Value)}{mb:Oj}(h:tZ K x)(l:K.lookup x=some ⟨c,d,.cls a,f⟩)(o:a.mro=.ref x::mb)(e:(Value.ref x::mb).contains (.ref C)=true):sM K x C:=⟨h,_,⟨_,_,_,_,l,o⟩,e⟩
end L2
namespace L2
open PySem PySem.W PyProof.Rows
abbrev Kg(a:Addr)(C:Value):HO:=.ext λh=>∃o,h.get? a=some o/\o.cls=C
section
variable{X:Cx}{a:Oh}{f:St}{H t:Hp}{s l:Shared}
def aU.lay{d:Addr}{C:Value}(I1:aU X a f t l)(hn:l.heap.get? d=none)(I:aU X a f H s)(nh:H d=none)(y:∃o,s.heap.get? d=some o/\o.cls=C):aU X a f (aD H d (Kg d C)) s:=by
 have ne:∀b o,l.heap.get? b=some o->b≠d:=λb o e z=>by rw[z,hn]at e;cases e
 refine⟨I.ok,I.os,I.bare,⟨I.base.keep,I.base.slot,λb o e n A=>?_,I.base.there,λb i q=>?_,λb o u q=>?_,λb E q=>?_⟩,I.loc,I.cell,?_,λx c e=>?_,λp B=>?_,λb u e=>?_,I.len⟩
 ·obtain⟨J,F⟩:=I1.base.there b o e A;rw[ao (ne _ _ F)];exact I.base.free b o e n A
 ·rw[ao (aI (I.base.tups b i q) nh)];exact I.base.tups b i q
 ·rw[ao (aI (I.base.frzs b o u q) nh)];exact I.base.frzs b o u q
 ·obtain⟨h,z⟩:=I.base.tbls b E q;exact⟨h,by rw[ao (aI z nh)];exact z⟩
 ·obtain⟨m,j,_⟩:=I1.loc;obtain⟨K,_,_,w,_⟩:=j;rw[ao (ne _ _ w)];exact I.free
 ·obtain⟨v,o,G,_⟩:=I1.cell x c e;rw[ao (ne _ _ G)];exact I.freeC x c e
 ·obtain⟨e,n,r⟩:=I.pin p B;rw[ao (ne _ _ (I1.pin p B).1)];exact⟨e,n,r⟩
 ·by_cases D:b=d
  ·subst D;rw[af]at e;cases e;exact⟨y,y.imp λ_ q=>q.1,λh1 h2 g k=>g.imp λo q=>⟨k o q.1,q.2⟩⟩
  ·rw[ao D]at e;exact(I.hok b u e).stay (λc v _ q=>q) (λc q=>by rw[ao (aI q nh)];exact q) λc i q=>by rw[ao (aI q nh)];exact q
def mQ{M:Model}{A:Around}{E:Og}{i:Nat}{x:Str}{F:Pos}{Q:Unit->Shared->Prop}(I:aU X a f H s)(P:X.N.Nodup)(hi:X.N[i]?=some x)(g:X.env.scope.names.lookup x=some .local)(h:∀R,aU X a (f.set i none) H R->Q () R):wpAny M A (do bindName X.env x .none;unbindBehindTheSuite X.env x F) Q E s:=by
 refine a_ (wpAny_bindName (oW I P hi (.inl g) (show bg .non .none from rfl) (λl I1=>?_) (.inr g)));unfold unbindBehindTheSuite;refine NS ?_;obtain⟨m,hn,O⟩:=id I1.loc;have v:i<f.length:=by rw[I.len];exact(d_.mp hi).1
 obtain⟨u,_,G⟩:=O i x .non hi (rr v) (.inl g);obtain⟨U,G⟩:X.env.kindOf x=some .local/\m x=some u:=by
  rcases G with z|⟨k,_⟩
  ·exact z
  ·rcases k with k|k
   ·exact absurd (k.symm.trans g) (by simp)
   ·exact absurd (k.symm.trans g) (by simp)
 have C:(X.env.scope.kind==.class||(X.env.scope.kind==.module&&X.env.locals !=X.env.globals))=false:=by rw[I.ok.kind];rfl
 refine wpAny_unbindName_local U hn G C λh' S J w=>?_;have cne:=I1.cne;obtain⟨oL,_,_,V,_⟩:=id hn;have lt:∀b o,X.s₀.heap.get? b=some o->b≠X.env.locals:=λb o e=>ig (lh (g_ e) I1.ok.above);refine h _ ⟨I1.ok,I1.os,I1.bare,⟨λb o e n K g=>(w.2 b (lt b o e)).trans (I1.base.keep b o e n K g),λb o e n K g=>?_,I1.base.free,λb o e g=>?_,I1.base.tups,I1.base.frzs,I1.base.tbls⟩,⟨_,J,λj y W B D Y=>?_⟩,λy c e=>?_,I1.free,I1.freeC,λp Z=>?_,λb ob e=>?_,by rw[ri];exact I.len⟩
 ·obtain⟨sl,B⟩:=I1.base.slot b o e n K g;exact⟨sl,(w.2 b (lt b o e)).trans B⟩
 ·obtain⟨o',B⟩:=I1.base.there b o e g;exact⟨o',(w.2 b (lt b o e)).trans B⟩
 ·have L:j≠i:=λz=>by rw[z,rr v]at D;cases D
  rw[m_ (m3 L)]at D;obtain⟨S,r',q⟩:=O j y W B (by rw[m_ (m3 L)];exact D) Y;refine⟨S,r',?_⟩;rcases q with⟨k,e⟩|⟨k,c,e,z⟩
  ·refine .inl ⟨k,?_⟩;have:y≠x:=λe=>L (u5 P B (e▸hi));simp[this,e]
  ·exact .inr ⟨k,c,e,z.sameBut w (cne y c e)⟩
 ·obtain⟨T,z⟩:=I1.cell y c e;exact⟨T,z.sameBut w (cne y c e)⟩
 ·obtain⟨e,n,ne,nf,d⟩:=I1.pin p Z;exact⟨(w.2 p.1 ne).trans e,n,ne,nf,d⟩
 ·have r:=I1.free;refine(I1.hok b ob e).stay (λc T hc q=>(w.2 c ?_).trans q) (λ_ q=>q) λ_ _ q=>q;rintro rfl;rcases hc with rfl|hc
  ·rw[r]at e;cases e
  ·rw[r]at hc;cases hc
end
def jq.off(D:jq)(i:Nat):jq:={D with nx:=λa H=>D.nx (a.set i none) H,bk:=λa H=>D.bk (a.set i none) H,ct:=λa H=>D.ct (a.set i none) H}
def KZ(K:Of)(d:XK->TS)(S:Addr)(i:Nat)(e:TS):TS:=λD b H=>d (λf _ c=>∃C,f=.ref C/\sM K C S/\∀a,c a=none->e (D.off i) (b.set i (some (.ref a))) (aD c a (Kg a (.ref C)))) D b H
def G0{X:Cx}{bs:List Stmt}{b0:Stmt}{c:List Stmt}{tb:XK->TS}{th:TS}{S:Addr}{x n:Str}{np m G:Pos}(i:Nat)(K:Of)(hK:X.K=K)(J:X.stack=X.env::X.outer)(hf:X.env.frame=some X.env.locals)(hS:tZ X.K S)(hg:Gl X x)(hm:X.mg x=some (.ref S))(o:X.N.Nodup)(hb:∀(E:XK)(a:Oh)(M:St)(Xe:Og),jn (lP X.prog X.w) (X.wish Xe) E a M->Id (X.wish Xe) a M bs (tb E))(hh:∀d,tY (X.inExc d) (b0::c) th)(hi:X.N[i]?=some n:=by rfl)(l:X.env.scope.names.lookup n=some .local:=by rfl)(P:(x==("__debug__":Str))=false:=by decide):PS X (.Try bs [.ExceptHandler (some (.Name x np)) (some n) (b0::c) m] [] [] G) (KZ K tb S i th):=by subst hK;intro a s M H D I h;refine yC J hf hb I h λd C' H' s5 hr L=>?_;obtain⟨C,rfl,⟨hC,O,mr,Q⟩,R⟩:=hr;obtain⟨bm,N,nm,q,bs,hd,sn,sub,ab,an,dd,k0,k1,k2,k3,k5,mN,U,ap,as,T⟩:=hS.at I.mod.kin;obtain⟨V,N',ax,q',a2,a3,a5,aa,a6,ad,a7,a8,ba,bb,bc,bi,bl,p,ag,al,T'⟩:=hC.at I.mod.kin;obtain⟨ob,Y,y⟩:=L.obj;refine wpAny_handleBy_cons (codeAny_handlers_test (jM (L.inv.inExc d) hg hm ?_ P)) (by intro z;cases z);refine CO (L.inv.bk _ _ p) (L.inv.bk _ _ U) Y y (T.hasType PySem.F.excBase_ValueError.hasBase) ?_;obtain rfl:V=O:=mr.is I.mod.kin p rfl rfl;rw[Q];obtain⟨B,t,fl,k⟩:=L.fly;obtain⟨H1,s1,I1,hn⟩:=L.src;refine codeAny_handlers_suite_as (lands_againW fl λh6 A Z=>?_);refine oW (aU.lay I1 hn (k h6 A.1 Z) L.nh A.there) o hi (.inl l) (show bg (.ref d) (.ref d)from rfl) (λs8 I8=>?_) (.inr l);refine wpAny_mono (hh d a _ _ _ (D.off i) (I8.inExc d) (R d L.nh)) (λf s9 z=>?_) λ_ _ z=>z.elim;have z:=z.outExc I.ok;cases f with|next=>obtain⟨b,e,g,q⟩:=z;exact mQ g o hi l λs' j=>⟨_,e,j,q⟩|brk=>obtain⟨b,e,g,q⟩:=z;exact mQ g o hi l λs' j=>⟨_,e,j,q⟩|cont=>obtain⟨b,e,g,q⟩:=z;exact mQ g o hi l λs' j=>⟨_,e,j,q⟩|ret u=>obtain⟨v,b,e,g,r,q⟩:=z;exact mQ g o hi l λs' j=>⟨v,_,e,j,r,q⟩
def Mq(t u:TS):TS:=λD a H=>t {D with nx:=λb c=>b=a/\u D a c} a H
def JM{X:Cx}{a:Oh}{d:St}{st c:Stmt}{t u:TS}(h:F7 X a d st t)(h':F7 X a d c u):Id X a d [st,c] (Mq t u):=λs H D I q=>Nt (cB (h s H _ I q) λf b z=>by cases f with|next=>obtain⟨e,g,i,rfl,q⟩:=z;exact EF h' b g D i q|ret v=>exact z|brk=>exact z|cont=>exact z)
end L2
namespace L2
open PySem PySem.W PyProof.Rows Builtin Builtin.ObjectAttr Builtin.Getset_descriptor
structure B5(K:Of)(C:Addr):Prop where
 ga:findIn K (.ref C) "__getattribute__"=some (some (.builtin "BaseException.__getattribute__"))gt:findIn K (.ref C) "__getattr__"=some none
 cl:findIn K (.ref C) "__class__"=some (some (.builtin "object.__class__"))sp:specialIn K (.builtin "object.__class__") "__get__"=some (some (.builtin "getset_descriptor.__get__"))tk:takesIn K (.builtin "object.__class__")=some true
 mo:mroIn K C (.type "object")=some true
 mb:mroIn K C (.type "BaseException")=some true
 ic:tZ K C
section
variable{prog:Ol}{w:World}{A:Around}{E:Og}{s:Shared}{K:Of}{x C:Addr}
def Bo(x C:Addr)(h:Heap):Prop:=∃o,h.get? x=some o/\o.cls=.ref C
def Bo.ty{M:Model}{h:Heap}(p:Bo x C h):Looks M h (typeOf (.ref x)) (.ref C):=by obtain⟨o,h1,h2⟩:=p;exact h2▸(Looks.ld h1).andThen .now
def HK{R:Result->Shared->Prop}{tp:Value}(X:K.In s.heap)(p:Bo x C s.heap)(e:B5 K C)(q:R (.ok (.ret (.ref C))) s):codeAny (model prog w) A (.call (.builtin "getset_descriptor.__get__") ⟨[.builtin "object.__class__",.ref x,tp],[]⟩) R s:=by
 have a:=p.ty (M:=model prog w);have b:=looks_mroIn (M:=model prog w) X e.mo;obtain⟨c,gs,dr,t,os⟩:=s;refine NP KF.slot_gs.plain KF.entry_gs (KF.slot_gs.check _ _ _ _ _ _ _ _ KF.type_class (KF.args_gs _ _ _) ?_);unfold Builtin.«getset_descriptor.__get__»descrGet;rw[dga_obj];refine a_ (e_ ?_);unfold descrGetter descrCheckInstance descrNameAndClass isInstance;simp only[KF.owner_class];(repeat lk);refine⟨Code.quiet_builtin _ (by decide+kernel),x_ KF.entry_class ?_⟩;unfold Builtin.«object.__class__»shownTypeOf
 (repeat lk)
 exact q
def FF{M:Model}{h:Heap}(X:K.In h)(e:B5 K C):Looks M h (Builtin.ObjectAttr.find (.ref x) (.ref C) "__class__") (.bind (.builtin "getset_descriptor.__get__") (.builtin "object.__class__")):=by refine(looks_findIn X e.cl).andThen ?_;refine(show Looks M h (Builtin.ObjectAttr.getOf (some (.builtin "object.__class__"))) _ from looks_specialIn X e.sp).andThen ?_;exact(show Looks M h (Builtin.ObjectAttr.dataDescriptor? (some (.builtin "object.__class__")) (some (.builtin "getset_descriptor.__get__"))) (some (.builtin "getset_descriptor.__get__",.builtin "object.__class__"))from(looks_takesIn X e.tk).andThen .now).andThen (Looks.tag .now)
def C6{t:Tok}{Q:Fin->Shared->Prop}(X:K.In s.heap)(p:Bo x C s.heap)(e:B5 K C)(q:Q (.done (.ret (.ref C))) s):wpAny (model prog w) A (Builtin.«object.__getattribute__» ⟨[.ref x,.str "__class__" t],[]⟩) Q E s:=by
 have a:=p.ty (M:=model prog w);have b:=FF (x:=x) (M:=model prog w) X e;obtain⟨c,gs,dr,t,os⟩:=s;unfold Builtin.«object.__getattribute__»
 repeat(first|with_reducible refine NB (HK X p e ?_)|lk)
 exact q
def C7{n:Value}{Q:Unit->Shared->Prop}(X:K.In s.heap)(p:Bo x C s.heap)(e:B5 K C)(q:Q () s):wpAny (model prog w) A (checkBuiltinCall "BaseException.__getattribute__" ⟨[.ref x,n],[]⟩) Q E s:=by
 have a:=p.ty (M:=model prog w);have b:=looks_mroIn (M:=model prog w) X e.mb;have c:builtinKind "BaseException.__getattribute__"=some .slot:=by decide+kernel
 have d:splitId "BaseException.__getattribute__"=some ("BaseException","__getattribute__"):=by decide+kernel
 have f:=F.args_bexc_ga (.ref x) n;obtain⟨g,gs,dr,t,os⟩:=s;simp only[checkBuiltinCall,c,d];refine a_ ?_;unfold isInstance;refine a_ (a.at (b.at ?_))
 repeat(first|assumption|wp_step)
def HL{Q:Option Value->Shared->Prop}(X:K.In s.heap)(p:Bo x C s.heap)(e:B5 K C)(q:Q (some (.ref C)) {s with toks:=s.toks+1}):wpAny (model prog w) A (getAttr? (.ref x) "__class__") Q E s:=by
 have a:=p.ty (M:=model prog w);have b:=looks_findIn (M:=model prog w) X e.ga;have c:=looks_findIn (M:=model prog w) X e.gt;have g:=looks_mroIn (M:=model prog w) X e.mb;obtain⟨h,gs,dr,t,os⟩:=s;have f3:=F.excAttr_ValueError.ga.bind (.ref x);have d:(Value.builtin "BaseException.__getattribute__"==Value.builtin "object.__getattribute__")=false:=by decide+kernel
 have f:(onTheHeap (Value.ref C)&&Value.builtin "BaseException.__getattribute__"==Value.builtin "object.__getattribute__")=false:=by rw[d];rfl
 unfold getAttr? getAttrBy? getAttrBy;refine a_ (wpAny_mkText (a_ (D1 (mu (a_ (a.at (a_ (b.at ?_))))))));dsimp only;rw[f,g8 hF];unfold getAttrByItsOwn hookBefore;rw[hA (show onTheHeap (Value.ref C)=true from rfl)];refine a_ (c.at (a_ (D1 (mu ?_))));unfold callGetattribute boundAndCalled;rw[g8 (show¬(false&&onTheHeap (Value.builtin "BaseException.__getattribute__"))=true from hF),f3];refine a_ (e_ ?_);refine NB (NP F.excAttr_ValueError.ga.plain F.entry_bexc_ga (C7 X p e (C6 X p e ?_)))
 (repeat lk)
 exact q
def BU{h:Heap}(X:K.In h)(e:B5 K C):∃c d cd sl,h.get? C=some ⟨c,d,.cls cd,sl⟩:=by obtain⟨f,N,nm,q,bs,hd,g,sub,i,a,dd,j,k1,k2,k3,k,l,b,_⟩:=e.ic.at X;exact⟨_,_,_,_,b⟩
def zt(e:B5 K C):KitX K (.ref x) (.ref C) (Bo x C)where
 ty:=λ_ _ _ p=>p.ty
 it:=λ_ _ X _=>by obtain⟨c,d,cd,sl,a⟩:=BU X e;intro i j l m k q;unfold isType loadHead;exact a_ (wpAny_loadPart (k _ _ a) (e_ q))
 ne:=λh tp dd f n sl X b=>by obtain⟨c,d,cd,g,a⟩:=BU X e;refine Bool.eq_false_iff.mpr λq=>?_;have z:C=tp:=Value.ref.inj (beq_iff_eq.mp q);subst z;cases a.symm.trans b
 ca:=λX p k=>HL X p e k
end
section
variable{X:Cx}
def kL(K:Of)(g:X.K=K):dk X (.builtin "isinstance") (λd H Q=>∃(a C:Addr)(c:V)(cv:Value)(b:Bool),d=[.ref a,c]/\H a=some (Kg a (.ref C))/\B5 K C/\(c=.ty "ValueError"/\cv=.type "ValueError"\/∃D,c=.ref D/\cv=.ref D)/\kitOne K (.ref C) cv=some b/\Q (.bl b) H):=by
 subst g;intro f s l H d m Q I r h;obtain⟨a,C,c,cv,b,rfl,i,ei,hc,e,q⟩:=h;obtain⟨u,j,rfl,k,rt⟩:=oU r;obtain rfl:u=Value.ref a:=k;obtain⟨p,_⟩:=I.hok a _ i;obtain rfl:j=cv:=by
  rcases hc with⟨rfl,rfl⟩|⟨D,rfl,rfl⟩
  ·exact rt
  ·exact rt
 exact kia_one (zt ei) I.kIn p e (nofun) λtk=>⟨.bl b,H,I.tok tk,rfl,q⟩
def Be(K:Of)(l:X.K=K):dk X (.builtin "isinstance") (λi H Q=>∃(a C tp c d:Addr)(b:Bool),i=[.ref a,.ref tp]/\H a=some (Kg a (.ref C))/\B5 K C/\H tp=some (.tup [.ref c,.ref d])/\kitAny K (.ref C) [.ref c,.ref d]=some b/\Q (.bl b) H):=by subst l;intro j s G H i J Q I r h;obtain⟨a,C,tp,c,d,b,rfl,k,ei,m,e,q⟩:=h;obtain⟨u,t,rfl,v,rt⟩:=oU r;obtain rfl:u=Value.ref a:=v;obtain rfl:t=Value.ref tp:=rt;obtain⟨p,_⟩:=I.hok a _ k;obtain⟨_,x,y,o,A,f,n,hd⟩:=(show c8 X.prog X.w H s.heap tp (.tup [.ref c,.ref d])from I.hok tp _ m);obtain⟨B,D,rfl,E,r2⟩:=oU y;obtain rfl:B=Value.ref c:=E;obtain rfl:D=Value.ref d:=r2;obtain⟨oc,L,g,F⟩:=o;obtain rfl:oc=.type "tuple":=f;obtain rfl:g=.seq #[.ref c,.ref d] n:=hd;exact kia_tup (zt ei) I.kIn p A e (nofun) λtk=>⟨.bl b,H,I.tok tk,rfl,q⟩
end
def tL:bootBuiltins "ValueError"=some (.type "ValueError"):=by decide+kernel
end L2
set_option genSizeOf false
namespace My
open PySem L2
seal L2.tY L2.PS L2.PE L2.PT L2.PA L2.PI L2.PG L2.PW L2.Ku L2.PO
def fS(i:Nat):Stmt:=PySem.Challenge.pw_layersplit_k25_questions_refused.main.body.getD i (.Pass ⟨0,0,0,0⟩)
abbrev mB(c i:Nat):Stmt:=(HQ (fS c)).getD i (.Pass ⟨0,0,0,0⟩)
abbrev uG:Stmt:=fS 19
abbrev kT:Stmt:=fS 20
abbrev wI:Stmt:=fS 21
abbrev uI:Stmt:=fS 22
abbrev oq:Stmt:=fS 27
abbrev uD:Stmt:=fS 28
abbrev sr:Stmt:=fS 34
abbrev wL:Stmt:=fS 35
abbrev gh:Stmt:=fS 36
abbrev uK:Stmt:=fS 37
abbrev pF:Stmt:=fS 38
abbrev oo:Stmt:=fS 39
abbrev wK:Stmt:=fS 40
abbrev tR:Stmt:=fS 41
abbrev uJ:Stmt:=fS 47
abbrev wJ:Stmt:=fS 48
abbrev uH:Stmt:=fS 49
abbrev sk:Stmt:=fS 50
abbrev kU:Stmt:=fS 51
abbrev jT:Stmt:=fS 52
abbrev ou:Stmt:=fS 53
abbrev nN:Stmt:=fS 54
abbrev pz:Stmt:=fS 55
abbrev nO:Stmt:=fS 56
abbrev nL:Stmt:=fS 57
abbrev pA:Stmt:=fS 58
abbrev su:Stmt:=fS 59
abbrev ke:Stmt:=fS 60
abbrev nM:Stmt:=fS 61
abbrev nK:Stmt:=fS 62
abbrev jS:Stmt:=fS 63
abbrev pE:Stmt:=fS 64
abbrev nJ:Stmt:=fS 65
abbrev nP:Stmt:=fS 66
abbrev lY:Stmt:=fS 67
abbrev lD:Stmt:=fS 68
abbrev pC:Stmt:=fS 69
abbrev nI:Stmt:=fS 70
abbrev pB:Stmt:=fS 71
abbrev pD:Stmt:=fS 72
abbrev uF:Stmt:=fS 74
abbrev Bv:Stmt:=fS 75
abbrev uE:Stmt:=fS 77
abbrev l7:Stmt:=mB 79 0
abbrev kf:Stmt:=mB 79 1
abbrev jE:Stmt:=mB 79 2
abbrev kX:Stmt:=mB 79 3
abbrev kW:Stmt:=mB 79 4
abbrev jF:Stmt:=mB 79 5
abbrev pG:Stmt:=mB 79 6
abbrev l9:Stmt:=mB 82 0
abbrev lZ:Stmt:=mB 83 0
abbrev mi:Stmt:=mB 84 0
abbrev uN:Stmt:=mB 84 1
abbrev pQ:Stmt:=mB 84 2
abbrev kn:Stmt:=mB 84 3
abbrev kj:Stmt:=mB 84 4
abbrev fj:Stmt:=mB 84 5
abbrev lF:Stmt:=mB 84 6
abbrev km:Stmt:=mB 84 7
abbrev ko:Stmt:=mB 84 8
abbrev mh:Stmt:=mB 84 9
abbrev ki:Stmt:=mB 84 10
abbrev lE:Stmt:=mB 84 11
abbrev fD:Stmt:=mB 84 12
abbrev gP:Stmt:=mB 84 13
abbrev kg:Stmt:=mB 84 14
abbrev nR:Stmt:=mB 84 15
abbrev nS:Stmt:=mB 84 16
abbrev pO:Stmt:=mB 84 17
abbrev mf:Stmt:=mB 84 18
abbrev ma:Stmt:=mB 84 19
abbrev iq:Stmt:=mB 84 20
abbrev pP:Stmt:=mB 84 21
abbrev nQ:Stmt:=mB 84 22
abbrev sw:Stmt:=mB 84 23
abbrev kh:Stmt:=mB 84 26
abbrev pR:Stmt:=mB 84 27
abbrev uM:Stmt:=fS 86
abbrev yQ:Stmt:=fS 87
abbrev Bw:Stmt:=fS 88
abbrev yS:Stmt:=fS 89
abbrev Bx:Stmt:=fS 90
abbrev uL:Stmt:=fS 91
abbrev By:Stmt:=fS 92
abbrev pN:Stmt:=fS 93
abbrev kY:Stmt:=fS 94
abbrev pH:Stmt:=fS 95
abbrev Bz:Stmt:=fS 96
abbrev yR:Stmt:=fS 97
abbrev Em:Stmt:=fS 98
abbrev pM:Stmt:=fS 99
abbrev pK:Stmt:=fS 100
abbrev pL:Stmt:=fS 101
abbrev pJ:Stmt:=fS 102
abbrev pI:Stmt:=fS 103
abbrev En:Stmt:=fS 104
abbrev Ir:Stmt:=fS 105
set_option genInjectivity false in
set_option genSizeOf false in
structure gK where(dG eX dX fM kI ky cW ix eO cC bZ j7 mW d7 dH mV kH i5 g9 gq kM gm fZ a0 cy gT gU bW aX d8 gj gX gk gn ft eM gW gi eZ fb kF xc kz et c7 bF eh eg cR f9 eu ee eD jp gf dg df bL dU cu dh eB de cH cw c9 cr dJ dL lJ cq eA cz cS dI ib db eC iF fg sO rY eU rT xo ia hV rS xq rW z9 dR gb gc ff fe Dr law:AF)(bX fh fP bU fc B4 Ga dz II bT Gb F9 B3 b7 cP jt hE fA vA:Addr)pm:Params
structure Txt(K:Of)(mg:Oi)(a:gK):Prop where
 Hs:mg "Table"=some (.ref a.bX)Ht:mg "Layer"=some (.ref a.fh)Hr:mg "Trial"=some (.ref a.fP)Hu:mg "House"=some (.ref a.bU)xW:mg "SplitError"=some (.ref a.fc)KH:mg "NoHouse"=some (.ref a.B4)LH:mg "NoDeed"=some (.ref a.Ga)zq:mg "NoWord"=some (.ref a.dz)Mh:mg "Taken"=some (.ref a.II)wT:mg "Unknown"=some (.ref a.bT)LI:mg "NoArms"=some (.ref a.Gb)LG:mg "NoRule"=some (.ref a.F9)KG:mg "NoShuts"=some (.ref a.B3)va:mg "NoNumber"=some (.ref a.b7)wU:mg "NoMarks"=some (.ref a.cP)vb:mg "Closed"=some (.ref a.jt)u9:mg "NoRoom"=some (.ref a.hE)CQ:mg "LENGTHS"=some (.ref a.fA)Fb:mg "HELD"=some (.ref a.vA)dG:Df K mg "is_whole" uG a.dG ["thing"]eX:Df K mg "is_text_of" kT a.eX ["thing","signs","longest"]dX:Df K mg "is_word" wI a.dX ["thing"]fM:Df K mg "is_guest" uI a.fM ["thing"]kI:Df K mg "is_prime" oq a.kI ["thing"]ky:Df K mg "point_of" uD a.ky ["p","salt","guest"]cW:Df K mg "is_number" sr a.cW ["thing"]ix:Df K mg "is_mark" wL a.ix ["thing"]eO:Df K mg "are_marks" gh a.eO ["thing"]cC:Df K mg "has_form" uK a.cC ["thing","depth"]bZ:Df K mg "all_within" pF a.bZ ["rule"]j7:Df K mg "words_of" oo a.j7 ["rule"]mW:Df K mg "is_rule" wK a.mW ["thing"]d7:Df K mg "holds" tR a.d7 ["rule","marks"]dH:Df K mg "is_count" uJ a.dH ["thing"]mV:Df K mg "is_salt" wJ a.mV ["thing"]kH:Df K mg "is_total" uH a.kH ["thing"]i5:Df K mg "is_weight" sk a.i5 ["thing"]g9:Df K mg "are_counts" kU a.g9 ["thing","many"]gq:Df K mg "are_weights" jT a.gq ["thing","many"]kM:Df K mg "are_arms" ou a.kM ["thing"]gm:Df K mg "check_house" nN a.gm ["prime","salt"]fZ:Df K mg "check_word" pz a.fZ ["thing"]a0:Df K mg "check_guest" nO a.a0 ["thing"]cy:Df K mg "check_marks" nL a.cy ["thing"]gT:Df K mg "check_rule" pA a.gT ["thing"]gU:Df K mg "check_new" su a.gU ["thing","names"]bW:Df K mg "check_standing" ke a.bW ["thing","names"]aX:Df K mg "check_known" nM a.aX ["thing","names"]d8:Df K mg "check_place" nK a.d8 ["thing","prime"]gj:Df K mg "check_slope" jS a.gj ["thing","prime","layers"]gX:Df K mg "check_arms" pE a.gX ["thing"]gk:Df K mg "check_shuts" nJ a.gk ["thing","trials"]gn:Df K mg "check_count" nP a.gn ["thing"]ft:Df K mg "check_shares" lY a.ft ["thing","many"]eM:Df K mg "check_dealing" lD a.eM ["total","weights","many"]gW:Df K mg "check_form" pC a.gW ["deed"]gi:Df K mg "check_trial" nI a.gi ["deed","layers","trials"]eZ:Df K mg "check_open" pB a.eZ ["deed","trials"]fb:Df K mg "check_deed" pD a.fb ["deed","prime","layers","trials"]kF:Df K mg "most_due" uF a.kF ["weights","given"]xc:Df K mg "dealt" Bv a.xc ["total","weights"]kz:Df K mg "place_of" uE a.kz ["p","slope","point"]et:Mf K a.bX "__init__" "Table.__init__" l7 a.et ["self","many"]c7:Mf K a.bX "owner_of" "Table.owner_of" kf a.c7 ["self","place"]bF:Mf K a.bX "places_of" "Table.places_of" jE a.bF ["self","owner"]eh:Mf K a.bX "free" "Table.free" kX a.eh ["self"]eg:Mf K a.bX "told" "Table.told" kW a.eg ["self","wanted"]cR:Mf K a.bX "give_back" "Table.give_back" jF a.cR ["self","owner","number"]f9:Mf K a.bX "take" "Table.take" pG a.f9 ["self","owner","number"]eu:Mf K a.fh "__init__" "Layer.__init__" l9 a.eu ["self","slope","many"]ee:Mf K a.fP "__init__" "Trial.__init__" lZ a.ee ["self","home","arms","rule","shuts"]eD:Mf K a.bU "__init__" "House.__init__" mi a.eD ["self","prime","salt"]jp:Mf K a.bU "do" "House.do" uN a.jp ["self","deed"]gf:Mf K a.bU "done" "House.done" pQ a.gf ["self","deed"]dg:Mf K a.bU "do_layer" "House.do_layer" kn a.dg ["self","name","slope"]df:Mf K a.bU "do_trial" "House.do_trial" kj a.df ["self","name","trial"]bL:Mf K a.bU "do_share" "House.do_share" fj a.bL ["self","name","numbers"]dU:Mf K a.bU "do_hold" "House.do_hold" lF a.dU ["self","name","number"]cu:Mf K a.bU "do_pause" "House.do_pause" km a.cu ["self","name","paused"]dh:Mf K a.bU "do_close" "House.do_close" ko a.dh ["self","name"]eB:Mf K a.bU "do_bar" "House.do_bar" mh a.eB ["self","guest","name"]de:Mf K a.bU "do_visit" "House.do_visit" ki a.de ["self","guest","marks"]cH:Mf K a.bU "put_out" "House.put_out" lE a.cH ["self","layer","guests"]cw:Mf K a.bU "after_visit" "House.after_visit" fD a.cw ["self","guest","marks"]c9:Mf K a.bU "seat_for" "House.seat_for" gP a.c9 ["self","layer","guest","marks","been"]cr:Mf K a.bU "place_in" "House.place_in" kg a.cr ["self","layer","guest"]dJ:Mf K a.bU "place" "House.place" nR a.dJ ["self","layer","guest"]dL:Mf K a.bU "owner" "House.owner" nS a.dL ["self","layer","place"]lJ:Mf K a.bU "places_in" "House.places_in" pO a.lJ ["self","trial","arm"]cq:Mf K a.bU "places" "House.places" mf a.cq ["self","trial","arm"]eA:Mf K a.bU "shares" "House.shares" ma a.eA ["self","trial"]cz:Mf K a.bU "stand" "House.stand" iq a.cz ["self","guest"]cS:Mf K a.bU "ever" "House.ever" pP a.cS ["self","guest"]dI:Mf K a.bU "would" "House.would" nQ a.dI ["self","guest","marks"]ib:Mf K a.bU "who" "House.who" sw a.ib ["self","trial"]db:Mf K a.bU "layer_of" "House.layer_of" kh a.db ["self","trial"]eC:Mf K a.bU "book" "House.book" pR a.eC ["self"]iF:Df K mg "_law_cell_at" uM a.iF ["_law_script","_law_k"]fg:Df K mg "_law_mixed" yQ a.fg ["_law_script","_law_k","_law_salt"]sO:Df K mg "_law_word" Bw a.sO ["_law_k","_law_number"]rY:Df K mg "_law_guest" yS a.rY ["_law_k","_law_number"]eU:Df K mg "_law_rule" Bx a.eU ["_law_number","_law_high"]rT:Df K mg "_law_marks" uL a.rT ["_law_number"]xo:Df K mg "_law_plan" By a.xo ["_law_script"]ia:Df K mg "_law_new_layer" pN a.ia ["_law_script","_law_plan_here"]hV:Df K mg "_law_new_trial" kY a.hV ["_law_script","_law_plan_here","_law_number"]rS:Df K mg "_law_share" pH a.rS ["_law_script","_law_plan_here","_law_k","_law_number"]xq:Df K mg "_law_deed" Bz a.xq ["_law_script","_law_plan_here","_law_k"]rW:Df K mg "_law_house" yR a.rW ["_law_script","_law_many"]z9:Df K mg "_law_odd" Em a.z9 ["_law_number"]dR:Df K mg "_law_odd_guest" pM a.dR ["_law_number"]gb:Df K mg "_law_odd_place" pK a.gb ["_law_number","_law_p","_law_far"]gc:Df K mg "_law_odd_marks" pL a.gc ["_law_number"]ff:Df K mg "_law_of_layers" pJ a.ff ["_law_house_here","_law_plan_here","_law_way","_law_more","_law_far"]fe:Df K mg "_law_of_trials" pI a.fe ["_law_house_here","_law_plan_here","_law_way","_law_more"]Dr:Df K mg "_law_due" En a.Dr ["_law_bad","_law_way"]law:Df K mg "law" Ir a.law ["_law_script"]Dp:∃u,mg "LETTERS"=some u/\bg (.str "abcdefghijklmnopqrstuvwxyz") u
 j3:∃u,mg "GUEST_SIGNS"=some u/\bg (.str "abcdefghijklmnopqrstuvwxyz0123456789") u
 vj:∃u,mg "LONGEST_WORD"=some u/\bg (.int 12) u
 lI:∃u,mg "LONGEST_GUEST"=some u/\bg (.int 24) u
 wq:∃u,mg "LEAST_PRIME"=some u/\bg (.int 2) u
 rN:∃u,mg "GREATEST_PRIME"=some u/\bg (.int 997) u
 HS:∃u,mg "MIXER"=some u/\bg (.int 1009) u
 qD:∃u,mg "MOST_MARKS"=some u/\bg (.int 8) u
 vk:∃u,mg "DEEPEST_RULE"=some u/\bg (.int 6) u
 yk:∃u,mg "MOST_RULES"=some u/\bg (.int 30) u
 yh:∃u,mg "MOST_WORDS"=some u/\bg (.int 3) u
 zR:∃u,mg "MOST_ARMS"=some u/\bg (.int 4) u
 yj:∃u,mg "MOST_SHUTS"=some u/\bg (.int 8) u
 yi:∃u,mg "MOST_TOTAL"=some u/\bg (.int 1000) u
 bG:yw K a.bX
 EW:L2.Mk K a.bX a.et.x
 n8:cb K a.bX "many"eI:cb K a.bX "owners"gF:cb K a.bX "taken"cx:yw K a.fh
 EX:L2.Mk K a.fh a.eu.x
 jf:cb K a.fh "slope"gG:cb K a.fh "table"bY:cb K a.fh "inside"bA:yw K a.fP
 EV:L2.Mk K a.fP a.ee.x
 jW:cb K a.fP "home"fJ:cb K a.fP "arms"n6:cb K a.fP "rule"mz:cb K a.fP "shuts"iJ:cb K a.fP "paused"eF:cb K a.fP "closed"iK:cb K a.fP "barred"ay:yw K a.bU
 EY:L2.Mk K a.bU a.eD.x
 cD:cb K a.bU "own_prime"jL:cb K a.bU "own_salt"aW:cb K a.bU "layer_named"aR:cb K a.bU "trial_named"c5:cb K a.bU "came_into"jg:cb K a.bU "deeds"wg:tZ K a.fc
 Kf:tZ K a.B4
 KK:tZ K a.Ga
 C8:tZ K a.dz
 LW:tZ K a.II
 AZ:tZ K a.bT
 KL:tZ K a.Gb
 KJ:tZ K a.F9
 Ke:tZ K a.B3
 zE:tZ K a.b7
 A4:tZ K a.cP
 w9:tZ K a.jt
 w6:tZ K a.hE
 AM:L2.Ig K a.pm a.fA
 rh:∃tk,PySem.W.nsIn K a.fA "layer"=some (some (.int 3 tk))re:∃tk,PySem.W.nsIn K a.fA "trial"=some (some (.int 6 tk))rf:∃tk,PySem.W.nsIn K a.fA "share"=some (some (.int 3 tk))tI:∃tk,PySem.W.nsIn K a.fA "deal"=some (some (.int 4 tk))tH:∃tk,PySem.W.nsIn K a.fA "hold"=some (some (.int 3 tk))rg:∃tk,PySem.W.nsIn K a.fA "pause"=some (some (.int 2 tk))wf:∃tk,PySem.W.nsIn K a.fA "go"=some (some (.int 2 tk))rj:∃tk,PySem.W.nsIn K a.fA "close"=some (some (.int 2 tk))vc:∃tk,PySem.W.nsIn K a.fA "bar"=some (some (.int 3 tk))rc:∃tk,PySem.W.nsIn K a.fA "visit"=some (some (.int 3 tk))BQ:L2.Ml K a.vA [.str "",.str ""]lR:L2.sM K a.dz a.fc
 lK:L2.sM K a.bT a.fc
 kQ:L2.sM K a.b7 a.fc
 lL:L2.sM K a.cP a.fc
 C9:L2.B5 K a.dz
 A6:L2.B5 K a.bT
 zF:L2.B5 K a.b7
 A7:L2.B5 K a.cP
 rp:PySem.W.kitOne K (.ref a.dz) (.ref a.dz)=some true
 qp:PySem.W.kitOne K (.ref a.dz) (.ref a.bT)=some false
 oB:PySem.W.kitOne K (.ref a.dz) (.ref a.b7)=some false
 qt:PySem.W.kitOne K (.ref a.dz) (.ref a.cP)=some false
 qo:PySem.W.kitOne K (.ref a.bT) (.ref a.dz)=some false
 oz:PySem.W.kitOne K (.ref a.bT) (.ref a.bT)=some true
 ni:PySem.W.kitOne K (.ref a.bT) (.ref a.b7)=some false
 oA:PySem.W.kitOne K (.ref a.bT) (.ref a.cP)=some false
 oC:PySem.W.kitOne K (.ref a.b7) (.ref a.dz)=some false
 nj:PySem.W.kitOne K (.ref a.b7) (.ref a.bT)=some false
 mF:PySem.W.kitOne K (.ref a.b7) (.ref a.b7)=some true
 nq:PySem.W.kitOne K (.ref a.b7) (.ref a.cP)=some false
 qu:PySem.W.kitOne K (.ref a.cP) (.ref a.dz)=some false
 oE:PySem.W.kitOne K (.ref a.cP) (.ref a.bT)=some false
 nr:PySem.W.kitOne K (.ref a.cP) (.ref a.b7)=some false
 oF:PySem.W.kitOne K (.ref a.cP) (.ref a.cP)=some true
 mE:PySem.W.kitOne K (.ref a.dz) (.type "ValueError")=some true
 lM:PySem.W.kitOne K (.ref a.bT) (.type "ValueError")=some true
 lr:PySem.W.kitOne K (.ref a.b7) (.type "ValueError")=some true
 lN:PySem.W.kitOne K (.ref a.cP) (.type "ValueError")=some true
 kG:PySem.W.kitAny K (.ref a.dz) [.ref a.hE,.ref a.jt]=some false
 jY:PySem.W.kitAny K (.ref a.bT) [.ref a.hE,.ref a.jt]=some false
 jv:PySem.W.kitAny K (.ref a.b7) [.ref a.hE,.ref a.jt]=some false
 jZ:PySem.W.kitAny K (.ref a.cP) [.ref a.hE,.ref a.jt]=some false
 xT:mg "ValueError"=none
 u7:mg "all"=none
 ET:mg "any"=none
 ES:mg "bool"=none
 ER:mg "divmod"=none
 zm:mg "enumerate"=none
 Iy:mg "int"=none
 aZ:mg "isinstance"=none
 bx:mg "len"=none
 xS:mg "list"=none
 LA:mg "max"=none
 BL:mg "min"=none
 fV:mg "range"=none
 AE:mg "reversed"=none
 BK:mg "set"=none
 zk:mg "sorted"=none
 Ix:mg "str"=none
 Lz:mg "sum"=none
 dW:mg "tuple"=none
 Ly:mg "zip"=none
def cX{N P:Om}{h:Scope}(a:h.kind=.function:=by rfl)(b:h.isCoroutine=false:=by rfl)(c:h.isGenerator=false:=by rfl)(d:N.Nodup:=by decide+kernel)(e:N.take P.length=P:=by rfl)(f:∀x∈P,h.names.lookup x=some .local\/h.names.lookup x=some .cell:=by decide+kernel)(g:∀y∈h.names,y.2≠.free:=by decide+kernel):aA N P h:=⟨a,b,c,d,e,f,g⟩
def sd:aA ["thing"] ["thing"] (ak uG):=cX
abbrev lz:List Str:=["thing","signs","longest"]
def vG:aA lz ["thing","signs","longest"] (ak kT):=cX
def Ak:aA ["thing"] ["thing"] (ak wI):=cX
def se:aA ["thing"] ["thing"] (ak uI):=cX
def yN:aA ["thing"] ["thing"] (ak oq):=cX
def jA:aA ["p","salt","guest","mixed","sign"] ["p","salt","guest"] (ak uD):=cX
def pb:aA ["thing"] ["thing"] (ak sr):=cX
def um:aA ["thing"] ["thing"] (ak wL):=cX
def ph:aA ["thing"] ["thing"] (ak gh):=cX
def lU:aA ["thing","depth","kind"] ["thing","depth"] (ak uK):=cX
def ik:aA ["rule","found","inner"] ["rule"] (ak pF):=cX
def yL:aA ["rule"] ["rule"] (ak oo):=cX
def Am:aA ["thing"] ["thing"] (ak wK):=cX
abbrev qJ:List Str:=["rule","marks","kind"]
def uo:aA qJ ["rule","marks"] (ak tR):=cX
def sf:aA ["thing"] ["thing"] (ak uJ):=cX
def Al:aA ["thing"] ["thing"] (ak wJ):=cX
def yM:aA ["thing"] ["thing"] (ak uH):=cX
def xz:aA ["thing"] ["thing"] (ak sk):=cX
abbrev iY:List Str:=["thing","many"]
def vL:aA iY ["thing","many"] (ak kU):=cX
abbrev oj:List Str:=["thing","many"]
def uy:aA oj ["thing","many"] (ak jT):=cX
def yO:aA ["thing"] ["thing"] (ak ou):=cX
def uw:aA ["prime","salt"] ["prime","salt"] (ak nN):=cX
def vH:aA ["thing"] ["thing"] (ak pz):=cX
def lW:aA ["thing"] ["thing"] (ak nO):=cX
def lV:aA ["thing"] ["thing"] (ak nL):=cX
def vI:aA ["thing"] ["thing"] (ak pA):=cX
def xB:aA ["thing","names"] ["thing","names"] (ak su):=cX
def pf:aA ["thing","names"] ["thing","names"] (ak ke):=cX
def uv:aA ["thing","names"] ["thing","names"] (ak nM):=cX
def uu:aA ["thing","prime"] ["thing","prime"] (ak nK):=cX
abbrev j5:List Str:=["thing","prime","layers"]
def ur:aA j5 ["thing","prime","layers"] (ak jS):=cX
def vK:aA ["thing"] ["thing"] (ak pE):=cX
def ja:aA ["thing","trials","k","name"] ["thing","trials"] (ak nJ):=cX
def ux:aA ["thing"] ["thing"] (ak nP):=cX
def sP:aA ["thing","many"] ["thing","many"] (ak lY):=cX
def qU:aA ["total","weights","many"] ["total","weights","many"] (ak lD):=cX
def vJ:aA ["deed"] ["deed"] (ak pC):=cX
def uq:aA ["deed","layers","trials"] ["deed","layers","trials"] (ak nI):=cX
def jQ:aA ["deed","trials","trial","many"] ["deed","trials"] (ak pB):=cX
def nA:aA ["deed","prime","layers","trials","kind"] ["deed","prime","layers","trials"] (ak pD):=cX
def jB:aA ["weights","given","best","k"] ["weights","given"] (ak uF):=cX
def pd:aA ["total","weights","given","turn","k"] ["total","weights"] (ak Bv):=cX
def lT:aA ["p","slope","point","x","y"] ["p","slope","point"] (ak uE):=cX
def sR:aA ["self","many"] ["self","many"] (ak l7):=cX
def pi:aA ["self","place"] ["self","place"] (ak kf):=cX
def on:aA ["self","owner"] ["self","owner"] (ak jE):=cX
def vM:aA ["self"] ["self"] (ak kX):=cX
abbrev iZ:List Str:=["self","wanted","more","back","owner","number"]
def dN:aA iZ ["self","wanted"] (ak kW):=cX
def d9:aA ["self","owner","number","places","back","place"] ["self","owner","number"] (ak jF):=cX
def io:aA ["self","owner","number","places","more","place"] ["self","owner","number"] (ak pG):=cX
def sU:aA ["self","slope","many"] ["self","slope","many"] (ak l9):=cX
def sQ:aA ["self","home","arms","rule","shuts"] ["self","home","arms","rule","shuts"] (ak lZ):=cX
def sX:aA ["self","prime","salt"] ["self","prime","salt"] (ak mi):=cX
def sj:aA ["self","deed","answer"] ["self","deed"] (ak uN):=cX
def nH:aA ["self","deed","kind"] ["self","deed"] (ak pQ):=cX
def py:aA ["self","name","slope"] ["self","name","slope"] (ak kn):=cX
def px:aA ["self","name","trial"] ["self","name","trial"] (ak kj):=cX
abbrev cY:List Str:=["self","name","numbers","trial","layer","back","guests"]
def dD:aA cY ["self","name","numbers"] (ak fj):=cX
def qV:aA ["self","name","number"] ["self","name","number"] (ak lF):=cX
def jC:aA ["self","name","paused","trial"] ["self","name","paused"] (ak km):=cX
def jD:aA ["self","name","trial"] ["self","name"] (ak ko):=cX
def iH:aA ["self","guest","name","trial","layer"] ["self","guest","name"] (ak mh):=cX
def cM:aA ["self","guest","marks","answer","name","trial","arm","layer"] ["self","guest","marks"] (ak ki):=cX
def fi:aA ["self","layer","guests","out","guest","seat"] ["self","layer","guests"] (ak lE):=cX
abbrev fG:List Str:=["self","guest","marks","been","answer","name","layer","seat"]
def bK:aA fG ["self","guest","marks"] (ak fD):=cX
abbrev hU:List Str:=["self","layer","guest","marks","been","owner","trial"]
def gy:aA hU ["self","layer","guest","marks","been"] (ak gP):=cX
def pk:aA ["self","layer","guest"] ["self","layer","guest"] (ak kg):=cX
def uB:aA ["self","layer","guest"] ["self","layer","guest"] (ak nR):=cX
def uC:aA ["self","layer","place"] ["self","layer","place"] (ak nS):=cX
def sW:aA ["self","trial","arm"] ["self","trial","arm"] (ak mf):=cX
abbrev vz:List Str:=["self","trial"]
def sV:aA vz ["self","trial"] (ak ma):=cX
abbrev dQ:List Str:=["self","guest","standing"]
def jb:aA dQ ["self","guest"] (ak iq):=cX
def nG:aA ["self","guest"] ["self","guest"] (ak pP):=cX
def uA:aA ["self","guest","marks"] ["self","guest","marks"] (ak nQ):=cX
abbrev zZ:List Str:=["self","trial","inside"]
def xD:aA zZ ["self","trial"] (ak sw):=cX
def pq:aA ["self","trial"] ["self","trial"] (ak kh):=cX
def vO:aA ["self"] ["self"] (ak pR):=cX
def yP:aA ["_law_script","_law_k"] ["_law_script","_law_k"] (ak uM):=cX
def j9:aA ["_law_script","_law_k","_law_salt","_law_cell","_law_lap","_law_near"] ["_law_script","_law_k","_law_salt"] (ak yQ):=cX
def pj:aA ["_law_k","_law_number","_law_some","_law_stem","_law_at"] ["_law_k","_law_number"] (ak Bw):=cX
def kc:aA ["_law_k","_law_number","_law_some","_law_stem","_law_at","_law_own"] ["_law_k","_law_number"] (ak yS):=cX
def lX:aA ["_law_number","_law_high","_law_way","_law_some","_law_word_here"] ["_law_number","_law_high"] (ak Bx):=cX
abbrev vy:List Str:=["_law_number","_law_marks_here","_law_k","_law_word_here"]
def ka:aA vy ["_law_number"] (ak uL):=cX
def uz:aA ["_law_script","_law_number","_law_prime"] ["_law_script"] (ak By):=cX
def jR:aA ["_law_script","_law_plan_here","_law_k","_law_name"] ["_law_script","_law_plan_here"] (ak pN):=cX
abbrev lA:List Str:=["_law_script","_law_plan_here","_law_number","_law_k","_law_name","_law_layer","_law_arms","_law_shuts","_law_more","_law_j"]
def cU:aA lA ["_law_script","_law_plan_here","_law_number"] (ak kY):=cX
abbrev mO:List Str:=["_law_script","_law_plan_here","_law_k","_law_number","_law_trial","_law_most","_law_weights"]
def mT:aA mO ["_law_script","_law_plan_here","_law_k","_law_number"] (ak pH):=cX
def kd:aA ["_law_script","_law_plan_here","_law_k","_law_number","_law_some","_law_guest_here","_law_early","_law_trial"] ["_law_script","_law_plan_here","_law_k"] (ak Bz):=cX
def i4:aA ["_law_script","_law_many","_law_plan_here","_law_house_here","_law_k","_law_refused"] ["_law_script","_law_many"] (ak yR):=cX
def Bu:aA ["_law_number","_law_some"] ["_law_number"] (ak Em):=cX
def nE:aA ["_law_number","_law_some"] ["_law_number"] (ak pM):=cX
def vN:aA ["_law_number","_law_p","_law_far"] ["_law_number","_law_p","_law_far"] (ak pK):=cX
def nD:aA ["_law_number","_law_some"] ["_law_number"] (ak pL):=cX
def ip:aA ["_law_house_here","_law_plan_here","_law_way","_law_more","_law_far","_law_layer","_law_odd_here","_law_guest_here"] ["_law_house_here","_law_plan_here","_law_way","_law_more","_law_far"] (ak pJ):=cX
def nC:aA ["_law_house_here","_law_plan_here","_law_way","_law_more","_law_odd_here"] ["_law_house_here","_law_plan_here","_law_way","_law_more"] (ak pI):=cX
def xC:aA ["_law_bad","_law_way","_law_code","_law_codes"] ["_law_bad","_law_way"] (ak En):=cX
def jP:aA ["_law_script","_law_built","_law_house_here","_law_plan_here","_law_book","_law_k","_law_number","_law_bad","e"] ["_law_script"] (ak Ir):=cX
variable{P:Ol}{w:World}{K:Of}{mg:Oi}{base:Heap}{a:gK}{H H':Hp}
inductive Ii{A0 A1:Type}(p:A0->A1->Prop):Prop|mk(x0:A0)(x1:A1)(h:p x0 x1)
inductive Mo{A0 A1 A2:Type}(p:A0->A1->A2->Prop):Prop|mk(x0:A0)(x1:A1)(x2:A2)(h:p x0 x1 x2)
inductive Ex4{A0 A1 A2 A3:Type}(p:A0->A1->A2->A3->Prop):Prop|mk(x0:A0)(x1:A1)(x2:A2)(x3:A3)(h:p x0 x1 x2 x3)
structure An5(p0 p1 p2 p3 p4:Prop):Prop where
 h0:p0
 h1:p1
 h2:p2
 h3:p3
 h4:p4
structure L9(p0 p1 p2 p3 p4 p5 p6 p7 p8 p9:Prop):Prop where
 h0:p0
 h1:p1
 h2:p2
 h3:p3
 h4:p4
 h5:p5
 h6:p6
 h7:p7
 h8:p8
 h9:p9
structure MZ(p0 p1 p2 p3 p4 p5 p6 p7 p8 p9 p10 p11:Prop):Prop where
 h0:p0
 h1:p1
 h2:p2
 h3:p3
 h4:p4
 h5:p5
 h6:p6
 h7:p7
 h8:p8
 h9:p9
 h10:p10
 h11:p11
structure MY(p0 p1 p2 p3 p4 p5 p6 p7 p8 p9 p10 p11 p12:Prop):Prop where
 h0:p0
 h1:p1
 h2:p2
 h3:p3
 h4:p4
 h5:p5
 h6:p6
 h7:p7
 h8:p8
 h9:p9
 h10:p10
 h11:p11
 h12:p12
@[irreducible]def sJ(ns:Os)(k:Int):Int:=if ns.length=0 then 0 else ns.getD (k%(ns.length:Int)).toNat 0
def LJ(ns:Os)(k:Int):Int:=k/(if(ns.length:Int)>1 then(ns.length:Int)else 1)
def EN(ns:Os)(k m:Int):Int:=(Builtin.bitAnd (sJ ns k) 2147483647+1009*k*k+7919*m*m+12)*48271%2147483647
@[irreducible]def c6(ns:Os)(k m:Int):Int:=(sJ ns k/2^(31*(m+128*LJ ns k)).toNat+EN ns k m*EN ns k m%2147483629)%2147483648
def BN(ns:Os)(k m:Int):0<=c6 ns k m/\c6 ns k m<2147483648:=by unfold c6;exact bH _ (by decide)
inductive Js(K:Of)(vs:List V)(H:Hp)(Q:VK)(_E:XK):Prop|mk(a:Addr)(ns:Os)(k:Int)(_:vs=[.ref a,.int k])(_:be K H a (ns.map V.int))(_:ns.length<=63)(_:Q (.int (sJ ns k)) H)
inductive GD(K:Of)(vs:List V)(H:Hp)(Q:VK)(_E:XK):Prop|mk(a:Addr)(ns:Os)(k m:Int)(_:vs=[.ref a,.int k,.int m])(_:be K H a (ns.map V.int))(_:ns.length<=63)(_:(0<=k/\k<=1000000))(_:(0<=m/\m<=1000000))(_:Q (.int (c6 ns k m)) H)
inductive DW(K:Of)(vs:List V)(H:Hp)(Q:VK)(_E:XK):Prop|mk(a:Addr)(ns:Os)(_:vs=[.ref a])(_:be K H a (ns.map V.int))(_:ns.length<=63)(_:∀H',Q (.bl true) H')
section
variable{P:Ol}{w:World}{K:Of}{mg:Oi}{base:Heap}{a:gK}
def mm(T:Txt K mg a):aT P w K mg base dq 1 a.iF.x a.iF.d ["_law_script","_law_k"] (Js K):=by
 refine T.iF.ok yP λe A outer s H f Q E g h=>?_
 ·obtain⟨p,ns,k,rfl,b,i,q⟩:=h;refine⟨_,(ah (aP (aH aV (au (aJ K rfl) (by rfl) T.bx L2.aL (ac (Y 0) O)) ae (aG _)) (ai (aF ae)) aE) (ai (aF (gw K (Y 0) (az aY (Y 1) (au (aJ K rfl) (by rfl) T.bx L2.aL (ac (Y 0) O))))))),?_⟩
  refine U rfl ⟨_,ns.length,rfl,.inl ⟨_,b,by simp⟩,rfl,U rfl ?_⟩;unfold sJ at q;refine jh (λh0=>?_) (λh0=>?_)
  ·rw[hA (by lia)]at q;exact q
  have c:(0:Int)<(ns.length:Int):=by lia
  have hm:=bH k c;rw[g8 (by lia)]at q;exact U rfl (U rfl (U rfl ⟨_,ns.length,rfl,.inl ⟨_,b,by simp⟩,_,U rfl ⟨rfl,c,rX b (m9 hm.1 hm.2) q⟩⟩))
def dA(T:Txt K mg a):aT P w K mg base dq 2 a.fg.x a.fg.d ["_law_script","_law_k","_law_salt"] (GD K):=by
 refine T.fg.ok j9 λi A outer s H v Q E j h=>?_
 ·obtain⟨p,ns,k,m,rfl,e,l,⟨o,k1⟩,⟨y,z⟩,q⟩:=h;refine⟨_,(ah (bu 3 j9.nd (pc T.iF (mm T) j (ac (Y 0) (ac (Y 1) O)))) (ah (bu 4 j9.nd (az bw (Y 1) (au (Dk rfl) (by rfl) T.LA L2.F1 (ac ae (ac (au (aJ K rfl) (by rfl) T.bx L2.aL (ac (Y 0) O)) O))))) (ah (bu 5 j9.nd (az bQ (az bQ (az bQ (az EH (Y 3) ae) (az gQ (az gQ ae (Y 1)) (Y 1))) (az gQ (az gQ ae (Y 2)) (Y 2))) ae)) (ah (bu 5 j9.nd (az aY (az gQ (Y 5) ae) ae)) (ai (aF (az EH (az bQ (az JN (Y 3) (az gQ ae (az bQ (Y 2) (az gQ ae (Y 4))))) (az aY (az gQ (Y 5) (Y 5)) ae)) ae))))))),?_⟩
  unfold c6 EN LJ at q;refine U rfl (U rfl ⟨p,ns,k,rfl,e,l,?_⟩);generalize sJ ns k=c at q⊢;have hn:∃n:Int,n=(if(ns.length:Int)>1 then(ns.length:Int)else 1)/\0<n/\n<1073741824:=(U rfl ⟨by split<;>lia,by split<;>lia⟩);obtain⟨n,f,r,n1⟩:=hn;rw[<-f]at q;refine U rfl (U rfl ⟨_,ns.length,rfl,.inl ⟨_,e,by simp⟩,_,U rfl ⟨_,n,rfl,by rw[f],⟨r,n1⟩,?_⟩⟩);have t:0<=k/n:=Int.ediv_nonneg o (by lia)
  try dsimp only
  generalize k/n=u at t q⊢;refine U rfl (r2 (U rfl (r2 ⟨.inl ⟨by decide,by decide⟩,U rfl (r2 ⟨.inr ⟨by lia,by lia⟩,_,U rfl ⟨rfl,U rfl (r2 ⟨.inl ⟨by decide,by decide⟩,U rfl (r2 ⟨.inr ⟨by lia,by lia⟩,_,U rfl ⟨rfl,r2 ?_⟩⟩)⟩)⟩⟩)⟩)));refine U rfl (r2 ⟨.inr ⟨by decide,by decide⟩,_,U rfl ⟨rfl,(by show(0:Int)<_;first|decide|lia),?_⟩⟩);have b:=bH ((Builtin.bitAnd c 2147483647+1009*k*k+7919*m*m+12)*48271) (show(0:Int)<2147483647 by decide)
  try dsimp only
  generalize(Builtin.bitAnd c 2147483647+1009*k*k+7919*m*m+12)*48271%2147483647=g at b q⊢;refine U rfl (U rfl (U rfl (r2 ⟨.inl ⟨by decide,by decide⟩,_,U rfl ⟨rfl,r2 ⟨.inl ⟨by decide,by decide⟩,_,U rfl ⟨rfl,(by show(0:Int)<=_;lia),U rfl (U rfl (r2 ⟨.inl ⟨by lia,by lia⟩,_,U rfl ⟨rfl,(by show(0:Int)<_;first|decide|lia),_,U rfl ⟨rfl,r2 ?_⟩⟩⟩))⟩⟩⟩⟩)))
  try dsimp only
  rw[JY];exact q
def CV(T:Txt K mg a)(s:Shared)(u:Value):BindsTo s a.law.d ⟨[u],[]⟩ [("_law_script",u)]:=by obtain⟨oc,i,kV,b,pm,j,c,ct,g,e,lk,h⟩:=T.law.f.ex;rw[e];exact .of_eq rfl
def CU{p:Addr}{ns:Os}(c:ns.length<=63)(d:be K H p (ns.map V.int)):DW K [.ref p] H (λv _=>v=.bl true) λ_ _ _=>False:=⟨p,ns,rfl,d,c,λ_=>rfl⟩
end
section
variable{g j:Type}{F G:g->j->Prop}{a c:List g}{b d:List j}
def Paired.mapM(h:Paired F a b)(f:∀x∈a,∀y,F x y->G x y):Paired G a b:=by induction h with|nil=>exact .nil|cons h _ e=>exact .cons (f _ il _ h) (e λx m=>f x (hY _ m))
def Paired.ex(h:Paired F a b):∀x∈a,∃y,F x y:=by induction h with|nil=>exactλx e=>(nomatch e)|cons h _ f=>
  intro x e;rcases q_.mp e with rfl|m
  ·exact⟨_,h⟩
  ·exact f x m
def Paired.at_(h:Paired F a b):∀(i:Nat)(x:g),a[i]?=some x->∃y,b[i]?=some y/\F x y:=by induction h with|nil=>exactλi x e=>(nomatch e)|cons h _ f=>intro i x e;cases i with|zero=>obtain rfl:=j1 e;exact⟨_,rfl,h⟩|succ i=>exact f i x e
def xF(h:Paired F a b):∀(i:Nat)(y:j),b[i]?=some y->∃x,a[i]?=some x/\F x y:=by induction h with|nil=>exactλi x e=>(nomatch e)|cons h _ f=>intro i x e;cases i with|zero=>obtain rfl:=j1 e;exact⟨_,rfl,h⟩|succ i=>exact f i x e
def EA(h:Paired F a b)(k:Paired F c d):Paired F (a++c) (b++d):=by induction h with|nil=>exact k|cons h _ e=>exact .cons h e
end
inductive Ru where|any|has(w:Str)|least(w:Str)(n:Int)|not(q:Ru)|both(q r:Ru)|either(q r:Ru)
def Ru.hgt:Ru->Nat|.any=>1|.has _=>1|.least _ _=>1|.not q=>q.hgt+1|.both q r=>max q.hgt r.hgt+1|.either q r=>max q.hgt r.hgt+1
def Ru.hgt_pos:∀r:Ru,0<r.hgt|.any=>Nat.one_pos|.has _=>Nat.one_pos|.least _ _=>Nat.one_pos|.not _=>p_ _|.both _ _=>p_ _|.either _ _=>p_ _
def LT(w:Str)(m:Str×Int):Bool:=decide (V.str m.1=V.str w)
def gR(w:Str)(n:Int)(m:Str×Int):Bool:=if decide (V.str m.1=V.str w)=true then decide (n<=m.2)else false
def Ru.sat(c:List (Str×Int)):Ru->Bool|.any=>true|.has w=>(c.map (LT w)).any id|.least w n=>(c.map (gR w n)).any id|.not q=>!q.sat c|.both q r=>if q.sat c=true then r.sat c else false|.either q r=>if q.sat c=true then true else r.sat c
inductive fw(K:Of)(H:Hp):Ru->V->Prop|any{a:Addr}:bj K H a [.str "any"]->fw K H .any (.ref a)|has{a:Addr}{w:Str}:bj K H a [.str "has",.str w]->fw K H (.has w) (.ref a)|least{a:Addr}{w:Str}{n:Int}:bj K H a [.str "least",.str w,.int n]->fw K H (.least w n) (.ref a)|not{a:Addr}{q:Ru}{v:V}:bj K H a [.str "not",v]->fw K H q v->fw K H (.not q) (.ref a)|both{a:Addr}{q r:Ru}{v u:V}:bj K H a [.str "both",v,u]->fw K H q v->fw K H r u->fw K H (.both q r) (.ref a)|either{a:Addr}{q r:Ru}{v u:V}:bj K H a [.str "either",v,u]->fw K H q v->fw K H r u->fw K H (.either q r) (.ref a)
def Ks(H H':Hp):Prop:=∀u b,H u=some (.tup b)->H' u=some (.tup b)
def Ks.sq{a:Addr}{d:List V}(e:Ks H H')(f:∀u o,(∃c,H u=some (.frz c o))->∃c,H' u=some (.frz c o))(h:bj K H a d):bj K H' a d:=by
 rcases h with h|h
 ·rcases h with h|h
  ·exact .inl (.inl (e _ _ h))
  ·exact .inl (.inr (f _ _ h))
 ·exact .inr h
structure Kp(H H':Hp):Prop where
 tp:Ks H H'
 fz:∀u o,(∃o',H u=some (.frz o' o))->∃o',H' u=some (.frz o' o)
def Kp.trans(a:Kp H d)(b:Kp d e):Kp H e:=⟨λu c h=>b.tp u c (a.tp u c h),λu o h=>b.fz u o (a.fz u o h)⟩
def Kp.of(h:am H H'):Kp H H':=⟨λu c e=>h u _ e,λu o⟨b,e⟩=>⟨b,h u _ e⟩⟩
theorem Kp.lst{a:Addr}{o:HO}{d:List V}(c:H a=some (.lst d)):Kp H (aD H a o):=⟨λu f h=>by rw[ao (λe=>by rw[e,c]at h;cases h)];exact h,λu o⟨b,h⟩=>⟨b,by rw[ao (λe=>by rw[e,c]at h;cases h)];exact h⟩⟩
def Kp.new{a:Addr}{o:HO}(hn:H a=none):Kp H (aD H a o):=.of (aj (am.refl H) hn)
def Kp.tq{a:Addr}{c:List V}(e:Kp H H')(h:bj K H a c):bj K H' a c:=e.tp.sq e.fz h
def fw.kp(e:Kp H H')(h:fw K H r v):fw K H' r v:=by induction h with|any h=>exact .any (e.tq h)|has h=>exact .has (e.tq h)|least h=>exact .least (e.tq h)|not h _ q=>exact .not (e.tq h) q|both h _ _ q r=>exact .both (e.tq h) q r|either h _ _ q r=>exact .either (e.tq h) q r
def rQ(K:Of)(H:Hp)(d:List (Str×Int))(v:V):Prop:=∃a c,v=.ref a/\bj K H a c/\c.length=d.length/\∀(i:Nat)(m:Str×Int),d[i]?=some m->∃b,c[i]?=some (.ref b)/\bj K H b [.str m.1,.int m.2]
def rQ.kp(e:Kp H H')(h:rQ K H c v):rQ K H' c v:=by obtain⟨a,d,h1,h2,h3,h4⟩:=h;exact⟨a,d,h1,e.tq h2,h3,λi m hm=>let⟨b,f,g⟩:=h4 i m hm;⟨b,f,e.tq g⟩⟩
def oV{c d:Type}{f:c->d}{l:List c}{i:Nat}{m:c}(h:l[i]?=some m):(l.take (i+1)).map f=(l.take i).map f++[f m]:=by rw[to,h,g6];rfl
inductive j4(ws:Om):Ru->Prop|any:j4 ws .any|has{w:Str}:w∈ws->j4 ws (.has w)|least{w:Str}{n:Int}:w∈ws->-ce<=n->n<=ce->j4 ws (.least w n)|not{q:Ru}:j4 ws q->j4 ws (.not q)|both{q r:Ru}:j4 ws q->j4 ws r->j4 ws (.both q r)|either{q r:Ru}:j4 ws q->j4 ws r->j4 ws (.either q r)
def qQ:(100:Int)<=ce:=by have:=qP;lia
def Ru.subs:Ru->List Ru|.any=>[.any]|.has w=>[.has w]|.least w n=>[.least w n]|.not q=>.not q::q.subs|.both q r=>.both q r::(q.subs++r.subs)|.either q r=>.either q r::(q.subs++r.subs)
def Ru.cnt(r:Ru):Nat:=r.subs.length
def Ru.words:Ru->List Str|.any=>[]|.has w=>[w]|.least w _=>[w]|.not q=>q.words|.both q r=>q.words++r.words|.either q r=>q.words++r.words
def Ru.word1:Ru->Option Str|.has w=>some w|.least w _=>some w|_=>none
theorem Ru.words_subs:∀r:Ru,r.subs.filterMap Ru.word1=r.words|.any=>rfl|.has _=>rfl|.least _ _=>rfl|.not q=>by show(Ru.not q::q.subs).filterMap Ru.word1=q.words;rw[Nq rfl,q.words_subs]|.both q r=>by show(Ru.both q r::(q.subs++r.subs)).filterMap Ru.word1=q.words++r.words;rw[Nq rfl,NN,q.words_subs,r.words_subs]|.either q r=>by show(Ru.either q r::(q.subs++r.subs)).filterMap Ru.word1=q.words++r.words;rw[Nq rfl,NN,q.words_subs,r.words_subs]
def BB{a b:Nat}:2^a+2^b<=2^(max a b+1):=by have h1:2^a<=2^max a b:=z4 (by decide) (NH _ _);have h2:2^b<=2^max a b:=z4 (by decide) (Nx _ _);rw[NC];lia
theorem Ru.cnt_lt:∀r:Ru,r.cnt+1<=2^r.hgt|.any=>fx _|.has _=>fx _|.least _ _=>fx _|.not q=>by have h:=q.cnt_lt;show(q.subs.length+1)+1<=2^(q.hgt+1);unfold Ru.cnt at h;rw[NC];have:=q.hgt_pos;have:2^1<=2^q.hgt:=z4 (by decide) this;lia|.both q r=>by have h1:=q.cnt_lt;have h2:=r.cnt_lt;show((q.subs++r.subs).length+1)+1<=2^(max q.hgt r.hgt+1);unfold Ru.cnt at h1 h2;rw[gV];have:=BB (a:=q.hgt) (b:=r.hgt);lia|.either q r=>by have h1:=q.cnt_lt;have h2:=r.cnt_lt;show((q.subs++r.subs).length+1)+1<=2^(max q.hgt r.hgt+1);unfold Ru.cnt at h1 h2;rw[gV];have:=BB (a:=q.hgt) (b:=r.hgt);lia
def Ru.words_le(r:Ru):r.words.length<=r.cnt:=by rw[<-r.words_subs];exact List.length_filterMap_le _ _
structure yt(s:Str)(m:Nat)(x:Str):Prop where
 lo:1<=x.length
 hi:x.length<=m
 cs:∀c∈x.cps.toList,c∈s.cps.toList
abbrev qk:Str:="abcdefghijklmnopqrstuvwxyz"
abbrev jj:Str:="abcdefghijklmnopqrstuvwxyz0123456789"
abbrev Wd:Str->Prop:=yt qk 12
abbrev yy:Str->Prop:=yt jj 24
def Ff(x:Str):x.cps.toList.length=x.length:=by show x.cps.toList.length=x.cps.size;simp
def Eh:List Str:=["ab","ba","b","a","aab","abab","bab","aa","abb","baa","bb","soap"]
def yF:Nat->Str|0=>""|1=>"soap"|2=>"upperlayer"|_=>"z"
def jz(N:Int):Str:=yF (N%4).toNat
def Ab(N:Int):Int:=N/4%(((jz N).length:Int)+1)
def ql(k:Nat):Str:=⟨#[97+k]⟩
def uf(i:Nat):Str:=(Eh[i]?).getD "a"
def CM(z:Str)(i:Int)(c:Nat):Str:=Txt.slice z none (some i)++ql c++Txt.slice z (some i) none
def du(k N:Int):Str:=if N/40%2=1 then uf ((k+N/80)%12).toNat else CM (jz N) (Ab N) ((k+N/80)%26).toNat
def KD(x:Str):Bool:=decide (1<=x.length)&&decide (x.length<=12)&&x.cps.toList.all λc=>decide (c∈qk.cps.toList)
def ny(h:KD x=true):Wd x:=by unfold KD at h;rw[kw,kw]at h;exact⟨md h.1.1,md h.1.2,λc hc=>md (List.all_eq_true.mp h.2 c hc)⟩
def GU:∀i∈List.range 12,KD (uf i)=true:=by decide+kernel
def Ef:∀i∈List.range 12,∀j∈List.range 12,uf i=uf j->i=j:=by decide+kernel
def JX:∀r∈List.range 4,∀i∈List.range 11,∀c∈List.range 26,KD (CM (yF r) (i:Int) c)=true:=by decide+kernel
def Cf(r:Nat):(yF r).length<=10:=by
 unfold yF
 split<;>decide+kernel
def qR(N:Int):(jz N).length<=10:=Cf _
def Bh(N:Int):0<=Ab N/\Ab N<((jz N).length:Int)+1:=⟨yl _ (by lia),w_ _ (by lia)⟩
def t7(k N:Int):Wd (du k N):=by
 unfold du;have b1:=bH (k+N/80) (show(0:Int)<12 by decide);have b2:=bH (k+N/80) (show(0:Int)<26 by decide);have b3:=bH N (show(0:Int)<4 by decide);have b4:=Bh N;have b5:=qR N
 split
 ·exact ny (GU _ (by rw[oi];lia))
 ·have:=JX (N%4).toNat (by rw[oi];lia) (Ab N).toNat (by rw[oi];lia) ((k+N/80)%26).toNat (by rw[oi];lia);rw[show(((Ab N).toNat:Nat):Int)=Ab N by lia]at this;exact ny this
def Hk(h:CM z i c=CM z i d):c=d:=by have h:((Txt.slice z none (some i)).cps++#[97+c]++(Txt.slice z (some i) none).cps)=((Txt.slice z none (some i)).cps++#[97+d]++(Txt.slice z (some i) none).cps):=r_ Str.cps h;have h2:=r_ Array.toList h;simp at h2;exact h2
def qN(hi:0<=i/\i<12)(c:0<=j/\j<12)(h:du i N=du j N):i=j:=by
 unfold du at h
 split at h
 ·have:=Ef _ (by rw[oi];lia) _ (by rw[oi];lia) h;lia
 ·have:=Hk h;lia
def Fe:∀c∈List.range 26,tM ("abcdefghijklmnopqrstuvwxyz":Str).cps.toList (c:Int)=some (97+c):=by decide+kernel
def DI:tM [V.str "",V.str "soap",V.str "upperlayer",V.str "z"] (N%4)=some (V.str (jz N)):=by have h1:0<=N%4:=yl _ (by decide);have h2:N%4<4:=w_ _ (by decide);unfold jz;rcases(by lia:N%4=0\/N%4=1\/N%4=2\/N%4=3)with e|e|e|e<;>rw[e]<;>rfl
def Eg:∀i∈List.range 12,tM (Eh.map V.str) (i:Int)=some (V.str (uf i)):=by intro i hi;rw[oi]at hi;rcases(by lia:i=0\/i=1\/i=2\/i=3\/i=4\/i=5\/i=6\/i=7\/i=8\/i=9\/i=10\/i=11)with rfl|rfl|rfl|rfl|rfl|rfl|rfl|rfl|rfl|rfl|rfl|rfl<;>rfl
inductive Gr(vs:List V)(H:Hp)(Q:VK)(_E:XK):Prop|mk(k N:Int)(_:vs=[.int k,.int N])(_:∀H',am H H'->Q (.str (du k N)) H')
local macro_rules|`(tactic|walk_at "a")=>`(tactic|(repeat(first|refine U rfl ?_|refine r2 ?_|refine⟨(rfl:eW _ _=true),?_⟩|refine⟨(show eV _ _ from cd rfl),?_⟩|refine⟨(show(0:Int)<_ by first|decide|lia),?_⟩|refine⟨(rfl:V.int 10=V.int 10),rfl,?_⟩)))
section
def uZ(T:Txt K mg a):aT P w K mg base dq 1 a.sO.x a.sO.d ["_law_k","_law_number"] Gr:=by
 refine T.sO.ok pj λp A outer s H z Q E B h=>?_
 ·obtain⟨k,N,rfl,q⟩:=h;refine⟨_,(ah (aP (aH aV (az aY (az bw (Y 1) ae) ae) ae (aG _)) (ah (bu 2 pj.nd (bf (ac aB (ac aB (ac aB (ac aB (ac aB (ac aB (ac aB (ac aB (ac aB (ac aB (ac aB (ac aB O)))))))))))))) (ai (aF (gw K (Y 2) (az aY (az bQ (Y 0) (az bw (Y 1) ae)) ae))))) aE) (ah (bu 3 pj.nd (gw K (bf (ac aB (ac aB (ac aB (ac aB O))))) (az aY (Y 1) ae))) (ah (bu 4 pj.nd (az aY (az bw (Y 1) ae) (az bQ (au (aJ K rfl) (by rfl) T.bx L2.aL (ac (Y 3) O)) ae))) (ai (aF (az je (az je (gC xx (Y 3) iR (iQ (Y 4))) (yX AN aB (az aY (az bQ (Y 0) (az bw (Y 1) ae)) ae) (λ_ _=>rfl))) (gC xx (Y 3) (iQ (Y 4)) iR))))))),?_⟩
  have b1:=bH (k+N/80) (show(0:Int)<12 by decide);have b2:=bH (k+N/80) (show(0:Int)<26 by decide);have r:=qR N
  walk_at "a"
  refine jh (λf=>?_) (λf=>?_)
  ·have g:du k N=uf ((k+N/80)%12).toNat:=hA f;refine⟨ls rfl,λl i=>?_⟩
   walk_at "a"
   have c:=Eg ((k+N/80)%12).toNat (by rw[oi];lia);rw[show((((k+N/80)%12).toNat:Nat):Int)=(k+N/80)%12 by lia]at c;refine⟨l,_,_,U rfl ⟨rfl,be.of af,c,?_⟩⟩;rw[<-g];exact q _ (aj (am.refl H) i)
  ·have g:du k N=CM (jz N) (Ab N) ((k+N/80)%26).toNat:=g8 f;refine⟨ls rfl,λl i=>?_⟩;have n:=aj (o:=.lst [V.str "",V.str "soap",V.str "upperlayer",V.str "z"]) (am.refl H) i;have e:aD H l (.lst [V.str "",V.str "soap",V.str "upperlayer",V.str "z"]) l=some (.lst [V.str "",V.str "soap",V.str "upperlayer",V.str "z"]):=af;generalize aD H l (.lst [V.str "",V.str "soap",V.str "upperlayer",V.str "z"])=C at n e⊢
   walk_at "a"
   refine⟨l,_,_,U rfl ⟨rfl,be.of e,DI,av ?_⟩⟩;have t:=Bh N;have u:=Txt.slice_le (jz N) none (some (Ab N));have v:=Txt.slice_le (jz N) (some (Ab N)) none
   walk_at "a"
   refine⟨_,(jz N).length,rfl,⟨dn (by lia),rfl⟩,_,U rfl ⟨rfl,r2 ⟨(by show(0:Int)<_;lia),av ?_⟩⟩⟩;have j:∀a b:Str,(a++b).length=a.length+b.length:=λa b=>by show(a.cps++b.cps).size=a.cps.size+b.cps.size;exact Array.size_append
   have y:(ql ((k+N/80)%26).toNat).length=1:=rfl;have c:=Fe ((k+N/80)%26).toNat (by rw[oi];lia);rw[show((((k+N/80)%26).toNat:Nat):Int)=(k+N/80)%26 by lia]at c;refine U rfl (U rfl ⟨Ab N,rfl,jz N,rfl,dn (by lia),?_⟩)
   walk_at "a"
   refine⟨"abcdefghijklmnopqrstuvwxyz",_,97+((k+N/80)%26).toNat,rfl,rfl,dn (by decide+kernel),c,_,ql ((k+N/80)%26).toNat,rfl,rfl,dn (by lia),U rfl (U rfl ⟨Ab N,rfl,jz N,rfl,dn (by lia),_,U rfl ⟨rfl,dn (by rw[j];lia),?_⟩⟩)⟩;have m:Txt.slice (jz N) none (some (Ab N))++ql ((k+N/80)%26).toNat++Txt.slice (jz N) (some (Ab N)) none=du k N:=by rw[g];rfl
   rw[m];exact q _ n
end
inductive Gs(K:Of)(vs:List V)(H:Hp)(Q:VK)(_E:XK):Prop|mk(z:_)(_:vs=[.int z])(_:Q (.bl true) H)
def wO(s:Str)(m:Nat)(x:Str):Bool:=decide (1<=x.length)&&(decide (x.length<=m)&&x.cps.toList.all λc=>decide (c∈s.cps.toList))
def yt.b{s:Str}{m:Nat}{x:Str}(h:yt s m x):wO s m x=true:=by unfold wO;rw[ji h.lo,ji h.hi];exact List.all_eq_true.mpr λc hc=>ji (h.cs c hc)
def mL(K:Of)(H:Hp)(v:V):Prop:=∃T,kO K H v (.type T)/\PySem.W.kitOne K (.type T) (.type "str")=some false
def zY(K:Of)(H:Hp)(v:V):Prop:=mL K H v\/∃x:Str,v=.str x/\x.length<=60/\wO qk 12 x=false
inductive DQ(K:Of)(vs:List V)(H:Hp)(Q:VK)(_E:XK):Prop|mk(v:V)(s:Str)(m:Nat)(_:vs=[v,.str s,.int m])(_:((∃x:Str,v=.str x/\x.length<=60/\∀H',am H H'->Q (.bl (wO s m x)) H')\/(mL K H v/\Q (.bl false) H)))
inductive MA(K:Of)(vs:List V)(H:Hp)(Q:VK)(_E:XK):Prop|mk(v:V)(_:vs=[v])(_:((∃x,v=.str x/\Wd x/\∀H',am H H'->Q (.bl true) H')\/(zY K H v/\∀H',am H H'->Q (.bl false) H')))
inductive Lh(vs:List V)(H:Hp)(Q:VK)(_E:XK):Prop|mk(x:_)(_:vs=[.str x])(_:yy x)(_:∀H',am H H'->Q (.bl true) H')
inductive Lg(vs:List V)(H:Hp)(Q:VK)(_E:XK):Prop|mk(z:_)(_:vs=[.int z])(_:(-ce<=z/\z<=ce))(_:Q (.bl true) H)
inductive GL(vs:List V)(H:Hp)(Q:VK)(_E:XK):Prop|mk(z:_)(_:vs=[.int z])(_:0<=z)(_:Q (.bl true) H)
inductive Gv(vs:List V)(H:Hp)(Q:VK)(_E:XK):Prop|mk(z:_)(_:vs=[.int z])(_:(0<=z/\z<=1000))(_:Q (.bl true) H)
inductive DN(vs:List V)(H:Hp)(Q:VK)(_E:XK):Prop|mk(z:_)(_:vs=[.int z])(_:(1<=z/\z<=ce))(_:Q (.bl true) H)
def jy{Q:VK}{p:Prop}[Decidable p]{H:Hp}(h:p)(q:Q (.bl true) H):Q (.bl (decide p)) H:=by rw[ji h];exact q
section
def jH(T:Txt K mg a):aT P w K mg base dq 1 a.dG.x a.dG.d ["thing"] (Gs K):=by
 refine T.dG.ok sd λb A outer s H c Q E e h=>?_
 ·obtain⟨z,rfl,k⟩:=h;refine⟨_,(ai (aF (bP (au (i7 K rfl) (by rfl) T.aZ L2.aQ (ac (Y 0) (ac (iy rfl T.Iy L2.zT) O))) (cQ (Au (au (i7 K rfl) (by rfl) T.aZ L2.aQ (ac (Y 0) (ac (iy rfl T.ES L2.xi) O)))))))),?_⟩;refine U rfl ⟨_,"int",_,true,rfl,.int z,bI (by decide+kernel),true,rfl,bp ?_⟩;exact U rfl ⟨_,"bool",_,false,rfl,.int z,bI (by decide+kernel),false,rfl,k⟩
def jU(T:Txt K mg a):aT P w K mg base dq 1 a.eX.x a.eX.d ["thing","signs","longest"] (DQ K):=by
 refine T.eX.ok vG λf A outer s H l Q E n h=>?_
 ·obtain⟨v,g,m,rfl,h⟩:=h;refine⟨_,(ah (aP (bO (aS K rfl (au (i7 K rfl) (by rfl) T.aZ L2.aQ (ac (Y 0) (ac (iy rfl T.Ix L2.zS) O))) (λ_=>rfl))) (ai (aF dZ)) aE) (ai (aF (bP (pV iO iO ae (au (aJ K rfl) (by rfl) T.bx L2.aL (ac (Y 0) O)) (Y 2)) (cQ (au (gY K rfl rfl) (by rfl) T.u7 L2.jl (ac (vC lz ["sign"] [] [3] (ak kT) (cG 3) (EC (Y 0)) (λcl C s₀ H₀ ex=>⟨(pT lz ["sign"] 3),cE,(bv CD (Y 3) (Y 1) (by with_unfolding_all rfl))⟩)) O))))))),?_⟩
  rcases h with⟨x,rfl,o,q⟩|⟨⟨p,ty,j⟩,q⟩
  ·refine U rfl ⟨_,"str",_,true,rfl,.str x,bI (by decide+kernel),true,rfl,bN ?_⟩;refine U rfl ⟨_,x.length,rfl,⟨by rw[hH];lia,rfl⟩,_,U rfl ⟨rfl,U rfl ?_⟩⟩;unfold wO at q;refine iC (λh1=>?_) (λh1=>?_)
   ·rw[ji (show 1<=x.length by omega),Bool.true_and]at q;refine U rfl (r2 (U rfl ?_));refine iC (λh2=>?_) (λh2=>?_)
    ·rw[ji (show x.length<=m by omega),Bool.true_and]at q;refine U rfl ⟨x,rfl,λD k=>?_⟩;have r:=Ff x;refine FT (K:=K) (z:=x) (λi b e=>b=((x.cps.toList.take i).map λc=>decide (c∈g.cps.toList)).map V.bl/\e=aD H D (.lst b)) ⟨rfl,rfl⟩ ?_ ?_
     ·rintro i c b e hc⟨rfl,rfl⟩;have hi:i<x.cps.toList.length:=(d_.mp hc).1;refine av (ju (bp ?_));refine U rfl (U rfl ⟨_,U rfl ⟨rfl,af,?_,lf hi ⟨?_,?_⟩⟩⟩)
      ·rw[b_,b_,ku,hH];lia
      ·rw[StrLaws.found_one,to,hc,g6,g6];rfl
      ·rw[ie]
     ·rintro b e⟨rfl,rfl⟩;refine⟨D,_,rfl,be.of af,?_⟩;rw[iA (fx _),List.all_map];exact q _ (aj (am.refl _) k)
    ·rw[i_ (show¬x.length<=m by omega),Bool.false_and]at q;exact q H (am.refl H)
   ·rw[i_ (show¬1<=x.length by omega),Bool.false_and]at q;exact U rfl (bN (q H (am.refl H)))
  ·exact U rfl ⟨_,"str",_,false,rfl,ty,j,false,rfl,bp q⟩
def fX(T:Txt K mg a):aT P w K mg base dq 2 a.dX.x a.dX.d ["thing"] (MA K):=by
 refine T.dX.ok Ak λe A outer s H g Q E f h=>?_
 ·obtain⟨v,rfl,h⟩:=h;refine⟨_,(ai (aF (pc T.eX (jU T) f (ac (Y 0) (ac (bC T.Dp rfl) (ac (bC T.vj rfl) O)))))),?_⟩;refine U rfl ⟨v,_,12,rfl,?_⟩;rcases h with⟨x,rfl,c,q⟩|⟨h|⟨x,rfl,h1,h2⟩,q⟩
  ·exact .inl ⟨x,rfl,by have:=c.hi;omega,by rw[c.b];exact q⟩
  ·exact .inr ⟨h,q H (am.refl H)⟩
  ·exact .inl ⟨x,rfl,h1,by rw[h2];exact q⟩
def zd(T:Txt K mg a):aT P w K mg base dq 2 a.fM.x a.fM.d ["thing"] Lh:=by
 refine T.fM.ok se λe A outer s H g Q E f h=>?_
 ·obtain⟨x,rfl,c,q⟩:=h;refine⟨_,(ai (aF (pc T.eX (jU T) f (ac (Y 0) (ac (bC T.j3 rfl) (ac (bC T.lI rfl) O)))))),?_⟩;exact U rfl ⟨.str x,_,24,rfl,.inl ⟨x,rfl,by have:=c.hi;omega,by rw[c.b];exact q⟩⟩
def pX(T:Txt K mg a):aT P w K mg base dq 2 a.cW.x a.cW.d ["thing"] Lg:=by
 refine T.cW.ok pb λb A outer s H e Q E c h=>?_
 ·obtain⟨z,rfl,⟨h1,h2⟩,q⟩:=h;refine⟨_,(ai (aF (bP (pc T.dG (jH T) c (ac (Y 0) O)) (cQ (pV iO iO (yW ua (az ml ae ae)) (Y 0) (az ml ae ae)))))),?_⟩;refine U rfl ⟨z,rfl,U rfl (bp ?_)⟩
  walk_at "a"
  refine iC (λ_=>?_) (λh=>absurd h1 h)
  walk_at "a"
  exact jy h2 q
def iz(T:Txt K mg a):aT P w K mg base dq 2 a.dH.x a.dH.d ["thing"] GL:=by
 refine T.dH.ok sf λb A outer s H e Q E c h=>?_
 ·obtain⟨z,rfl,h1,q⟩:=h;refine⟨_,(ai (aF (bP (pc T.dG (jH T) c (ac (Y 0) O)) (cQ (bv BF (Y 0) ae (aG _)))))),?_⟩;refine U rfl ⟨z,rfl,U rfl (bp ?_)⟩
  walk_at "a"
  exact jy h1 q
def za(T:Txt K mg a):aT P w K mg base dq 3 a.kH.x a.kH.d ["thing"] Gv:=by
 refine T.kH.ok yM λb A outer s H e Q E c h=>?_
 ·obtain⟨z,rfl,⟨h1,h2⟩,q⟩:=h;refine⟨_,(ai (aF (bP (pc T.dH (iz T) c (ac (Y 0) O)) (cQ (bv iO (Y 0) (bC T.yi rfl) (aG _)))))),?_⟩;refine U rfl ⟨z,rfl,h1,U rfl (bp ?_)⟩
  walk_at "a"
  exact jy h2 q
def xI(T:Txt K mg a):aT P w K mg base dq 2 a.i5.x a.i5.d ["thing"] DN:=by
 refine T.i5.ok xz λb A outer s H e Q E c h=>?_
 ·obtain⟨z,rfl,⟨h1,h2⟩,q⟩:=h;refine⟨_,(ai (aF (bP (pc T.dG (jH T) c (ac (Y 0) O)) (cQ (pV iO iO ae (Y 0) (az ml ae ae)))))),?_⟩;refine U rfl ⟨z,rfl,U rfl (bp ?_)⟩
  walk_at "a"
  refine iC (λ_=>?_) (λh=>absurd h1 h)
  walk_at "a"
  exact jy h2 q
end
inductive Jk(K:Of)(vs:List V)(H:Hp)(Q:VK)(_E:XK):Prop|mk(b:Addr)(m:Str×Int)(_:vs=[.ref b])(_:bj K H b [.str m.1,.int m.2])(_:Wd m.1)(_:(-ce<=m.2/\m.2<=ce))(_:∀H',am H H'->Q (.bl true) H')
inductive GE(K:Of)(vs:List V)(H:Hp)(Q:VK)(_E:XK):Prop|mk(v:V)(l:List (Str×Int))(_:vs=[v])(_:rQ K H l v)(_:(∀m∈l,Wd m.1/\-ce<=m.2/\m.2<=ce))(_:(l.map Prod.fst).Nodup)(_:l.length<=8)(_:∀H',am H H'->Q (.bl true) H')
inductive D3(K:Of)(vs:List V)(H:Hp)(Q:VK)(_E:XK):Prop|mk(p:Addr)(l:Os)(_:vs=[.ref p,.int (l.length:Nat)])(_:bj K H p (l.map V.int))(_:(∀i∈l,0<=i))(_:l.length<=100)(_:∀H',am H H'->Q (.bl true) H')
inductive Ch(K:Of)(vs:List V)(H:Hp)(Q:VK)(_E:XK):Prop|mk(p:Addr)(l:Os)(_:vs=[.ref p,.int (l.length:Nat)])(_:bj K H p (l.map V.int))(_:(∀i∈l,1<=i/\i<=ce))(_:l.length<=100)(_:∀H',am H H'->Q (.bl true) H')
inductive Jv(K:Of)(vs:List V)(H:Hp)(Q:VK)(_E:XK):Prop|mk(p:Addr)(l:Om)(_:vs=[.ref p])(_:bj K H p (l.map V.str))(_:(∀w∈l,Wd w))(_:l.Nodup)(_:1<=l.length)(_:l.length<=4)(_:∀H',am H H'->Q (.bl true) H')
def gO(i:Nat):(List.replicate i true).map V.bl++[V.bl true]=(List.replicate (i+1) true).map V.bl:=by rw[List.replicate_succ',g6];rfl
def i3(n:Nat):(List.replicate n true).all id=true:=by simp
def i0(i:Nat)(h:i<=1000):((List.replicate i true).map V.bl).length<sizeLine:=by rw[b_,y3,hH];lia
def xV{c d:Type}{f:c->d}{l:List c}{i:Nat}{v:d}(h:(l.map f)[i]?=some v):∃x,l[i]?=some x/\v=f x/\x∈l:=by rw[gg]at h;cases e:l[i]?with|none=>rw[e]at h;cases h|some x=>rw[e]at h;cases h;exact⟨x,rfl,rfl,f_ e⟩
def rq(l:Om):(l.map (Sum.inr:Str->cp)).map kV=l.map V.str:=by rw[sD];rfl
def zx{l:Om}(h:l.Nodup):(dd (l.map (Sum.inr:Str->cp))).length=l.length:=by have:=(FN (l.map (Sum.inr:Str->cp))).mpr (h.map _ (λa b h e=>h (pv e)));rw[this,b_]
section
def Az(T:Txt K mg a):aT P w K mg base dq 3 a.ix.x a.ix.d ["thing"] (Jk K):=by
 refine T.ix.ok um λg A outer s H j Q E e h=>?_
 ·obtain⟨b,m,rfl,c,h1,h2,q⟩:=h;refine⟨_,(ai (aF (bP (au (dP K rfl) (by rfl) T.aZ L2.aQ (ac (Y 0) (ac (iy rfl T.dW L2.bS) O))) (bP (bv aV (au (aJ K rfl) (by rfl) T.bx L2.aL (ac (Y 0) O)) ae (aG _)) (bP (pc T.dX (fX T) e (ac (dB K (Y 0) ae) O)) (cQ (pc T.cW (pX T) e (ac (dB K (Y 0) ae) O)))))))),?_⟩;refine U rfl ⟨_,"tuple",_,true,rfl,.inr ⟨b,U rfl ⟨c,rfl⟩⟩,bI (by decide+kernel),true,rfl,bp ?_⟩;refine U rfl ⟨_,2,rfl,.inr ⟨_,c,rfl⟩,rfl,U rfl (bp ?_)⟩;refine U rfl (rX c rfl ⟨V.str m.1,rfl,.inl ⟨m.1,rfl,h1,λi f=>(U rfl (bp ?_))⟩⟩);exact U rfl (rX (am.tseq f c) rfl ⟨m.2,rfl,h2,q i f⟩)
def xM(T:Txt K mg a):aT P w K mg base dq 4 a.eO.x a.eO.d ["thing"] (GE K):=by
 refine T.eO.ok ph λW A outer s H g Q E X h=>?_
 ·obtain⟨v,l,rfl,Z,h1,h2,h3,q⟩:=h;obtain⟨p,g,rfl,j,B,y⟩:=Z;refine⟨_,(ah (aP (PW.pt (eS (bO (aS K rfl (au (dP K rfl) (by rfl) T.aZ L2.aQ (ac (Y 0) (ac (iy rfl T.dW L2.bS) O))) (λ_=>rfl))) (dy (aH lG (au (aJ K rfl) (by rfl) T.bx L2.aL (ac (Y 0) O)) (bC T.qD rfl) (aG _))))) (ai (aF dZ)) aE) (ah (aP (bO (aS K rfl (au (gY K rfl rfl) (by rfl) T.u7 L2.jl (ac (vC ["thing"] ["mark"] [] [1] (ak gh) (cG 1) (gB K rfl (Y 0)) (λcl C s₀ H₀ ex=>⟨(pT ["thing"] ["mark"] 1),cE,(pc T.ix (Az T) X (ac (Y 1) O))⟩)) O)) (λ_=>rfl))) (ai (aF dZ)) aE) (ai (aF (bv aV (au (oR (P:=P) (w:=w)) (by rfl) T.bx L2.aL (ac (cV (oP (P:=P) (w:=w) K rfl rfl) (by rfl) T.BK L2.qE (ac (vC ["thing"] ["mark"] [] [1] (ak gh) (cG 1) (gB K rfl (Y 0)) (λcl C s₀ H₀ ex=>⟨(pT ["thing"] ["mark"] 1),cE,(dB K (Y 1) ae)⟩)) O)) O)) (au (aJ K rfl) (by rfl) T.bx L2.aL (ac (Y 0) O)) (aG _)))))),?_⟩
  refine U rfl ⟨_,"tuple",_,true,rfl,.inr ⟨p,U rfl ⟨j,rfl⟩⟩,bI (by decide+kernel),true,rfl,bN ?_⟩;refine U rfl ⟨_,g.length,rfl,.inr ⟨_,j,rfl⟩,_,U rfl ⟨rfl,U rfl (iC (λh=>absurd h (by lia)) (λ_=>?_))⟩⟩;refine U rfl ⟨p,rfl,⟨_,j⟩,λD L=>?_⟩;refine eY (K:=K) (a:=p) (xs:=g) (λi c H'=>c=(List.replicate i true).map V.bl/\am H H'/\H' D=some (.lst c)) ⟨rfl,aj (am.refl _) L,af⟩ (λi c H' _ h=>am.tseq h.2.1 j) ?_ ?_
  ·rintro i v c M k⟨rfl,n,r⟩;have hi:i<g.length:=(d_.mp k).1;have e:l[i]?=some (l[i]'(by lia)):=fy (by lia);generalize l[i]'(by lia)=m at e;obtain⟨b,F,G⟩:=y i m e;rw[F]at k;cases k;have hm:=h1 m (f_ e);refine av (ju (bp (U rfl ⟨b,m,rfl,am.tseq n G,hm.1,hm.2,λI t=>⟨t _ _ r,i0 i (by lia),lf hi ⟨gO i,bV (n.trans t) L,af⟩⟩⟩)))
  ·rintro c M⟨rfl,n,r⟩;refine⟨D,_,rfl,be.of r,_,rfl,?_⟩;rw[i3];refine bN (U rfl ⟨p,rfl,⟨_,am.tseq n j⟩,λN z=>?_⟩);refine eY (K:=K) (a:=p) (xs:=g) (λi c H'=>c=((l.take i).map Prod.fst).map V.str/\am M H'/\H' N=some (.lst c)) ⟨by rw[v_];rfl,aj (am.refl _) z,af⟩ (λi c H' _ h=>am.tseq (n.trans h.2.1) j) ?_ ?_
   ·rintro i v c I k⟨rfl,t,f⟩;have hi:i<g.length:=(d_.mp k).1;have e:l[i]?=some (l[i]'(by lia)):=fy (by lia);generalize l[i]'(by lia)=m at e;obtain⟨b,F,G⟩:=y i m e;rw[F]at k;cases k;refine av (ju (bp (U rfl (rX (am.tseq (n.trans t) G) rfl ⟨f,?_,lf hi ⟨?_,bV t z,af⟩⟩))))
    ·rw[b_,b_,ku,hH];lia
    ·rw[oV e,g6];rfl
   ·rintro c I⟨rfl,t,f⟩;rw[iA (by lia),<-rq]at f;have u:=zx h2;rw[b_]at u;refine⟨N,(l.map Prod.fst).map Sum.inr,rfl,be.of f,by rw[b_,b_];lia,λR J=>?_⟩;refine⟨R,U rfl ⟨af,by rw[u];omega,?_⟩⟩;have S:∀o,am H (aD I R o):=λo=>aj (n.trans t) J;refine U rfl ⟨_,g.length,rfl,.inr ⟨_,am.tseq (S _) j,rfl⟩,rfl,?_⟩;rw[u,<-B,ji rfl];exact q _ (S _)
def vX(T:Txt K mg a):aT P w K mg base dq 3 a.g9.x a.g9.d ["thing","many"] (D3 K):=by
 refine T.g9.ok vL λk A outer s H t Q E m h=>?_
 ·obtain⟨p,l,rfl,e,h1,h2,q⟩:=h;refine⟨_,(ai (aF (bP (au (dP K rfl) (by rfl) T.aZ L2.aQ (ac (Y 0) (ac (iy rfl T.dW L2.bS) O))) (bP (bv aV (au (aJ K rfl) (by rfl) T.bx L2.aL (ac (Y 0) O)) (Y 1) (aG _)) (cQ (au (gY K rfl rfl) (by rfl) T.u7 L2.jl (ac (vC iY ["number"] [] [2] (ak kU) (cG 2) (gB K rfl (Y 0)) (λcl C s₀ H₀ ex=>⟨(pT iY ["number"] 2),cE,(pc T.dH (iz T) m (ac (Y 2) O))⟩)) O))))))),?_⟩
  refine U rfl ⟨_,"tuple",_,true,rfl,.inr ⟨p,U rfl ⟨e,rfl⟩⟩,bI (by decide+kernel),true,rfl,bp ?_⟩;refine U rfl ⟨_,l.length,rfl,.inr ⟨_,e,by simp⟩,U rfl ⟨rfl,U rfl ?_⟩⟩;rw[ji rfl];refine bp (U rfl ⟨p,rfl,⟨_,e⟩,λD g=>?_⟩);refine eY (K:=K) (a:=p) (xs:=l.map V.int) (λi b H'=>b=(List.replicate i true).map V.bl/\am H H'/\H' D=some (.lst b)) ⟨rfl,aj (am.refl _) g,af⟩ (λi b H' _ h=>am.tseq h.2.1 e) ?_ ?_
  ·rintro i v b n j⟨rfl,f,c⟩;have hi:=(d_.mp j).1;obtain⟨z,_,rfl,o⟩:=xV j;have r:i<l.length:=by simpa using hi
   exact av (ju (bp (U rfl ⟨z,rfl,h1 z o,c,i0 i (by lia),lf hi ⟨gO i,bV f g,af⟩⟩)))
  ·rintro b n⟨rfl,f,c⟩;refine⟨D,_,rfl,be.of c,?_⟩;rw[i3];exact q _ f
def uY(T:Txt K mg a):aT P w K mg base dq 3 a.gq.x a.gq.d ["thing","many"] (Ch K):=by
 refine T.gq.ok uy λk A outer s H t Q E m h=>?_
 ·obtain⟨p,l,rfl,e,h1,h2,q⟩:=h;refine⟨_,(ai (aF (bP (au (dP K rfl) (by rfl) T.aZ L2.aQ (ac (Y 0) (ac (iy rfl T.dW L2.bS) O))) (bP (bv aV (au (aJ K rfl) (by rfl) T.bx L2.aL (ac (Y 0) O)) (Y 1) (aG _)) (cQ (au (gY K rfl rfl) (by rfl) T.u7 L2.jl (ac (vC oj ["number"] [] [2] (ak jT) (cG 2) (gB K rfl (Y 0)) (λcl C s₀ H₀ ex=>⟨(pT iY ["number"] 2),cE,(pc T.i5 (xI T) m (ac (Y 2) O))⟩)) O))))))),?_⟩
  refine U rfl ⟨_,"tuple",_,true,rfl,.inr ⟨p,U rfl ⟨e,rfl⟩⟩,bI (by decide+kernel),true,rfl,bp ?_⟩;refine U rfl ⟨_,l.length,rfl,.inr ⟨_,e,by simp⟩,U rfl ⟨rfl,U rfl ?_⟩⟩;rw[ji rfl];refine bp (U rfl ⟨p,rfl,⟨_,e⟩,λD g=>?_⟩);refine eY (K:=K) (a:=p) (xs:=l.map V.int) (λi b H'=>b=(List.replicate i true).map V.bl/\am H H'/\H' D=some (.lst b)) ⟨rfl,aj (am.refl _) g,af⟩ (λi b H' _ h=>am.tseq h.2.1 e) ?_ ?_
  ·rintro i v b n j⟨rfl,f,c⟩;have hi:=(d_.mp j).1;obtain⟨z,_,rfl,o⟩:=xV j;have r:i<l.length:=by simpa using hi
   exact av (ju (bp (U rfl ⟨z,rfl,h1 z o,c,i0 i (by lia),lf hi ⟨gO i,bV f g,af⟩⟩)))
  ·rintro b n⟨rfl,f,c⟩;refine⟨D,_,rfl,be.of c,?_⟩;rw[i3];exact q _ f
def zf(T:Txt K mg a):aT P w K mg base dq 3 a.kM.x a.kM.d ["thing"] (Jv K):=by
 refine T.kM.ok yO λB A outer s H J Q E F h=>?_
 ·obtain⟨p,l,rfl,e,h1,h2,h3,h4,q⟩:=h;refine⟨_,(ah (aP (PW.pt (eS (bO (aS K rfl (au (dP K rfl) (by rfl) T.aZ L2.aQ (ac (Y 0) (ac (iy rfl T.dW L2.bS) O))) (λ_=>rfl))) (dy (bO (yU iO iO ae (au (aJ K rfl) (by rfl) T.bx L2.aL (ac (Y 0) O)) (bC T.zR rfl)))))) (ai (aF dZ)) aE) (ai (aF (bP (au (gY K rfl rfl) (by rfl) T.u7 L2.jl (ac (vC ["thing"] ["arm"] [] [1] (ak ou) (cG 1) (gB K rfl (Y 0)) (λcl C s₀ H₀ ex=>⟨(pT ["thing"] ["arm"] 1),cE,(pc T.dX (fX T) F (ac (Y 1) O))⟩)) O)) (cQ (bv aV (au (oR (P:=P) (w:=w)) (by rfl) T.bx L2.aL (ac (cV (Bd (P:=P) (w:=w) K rfl rfl) (by rfl) T.BK L2.qE (ac (Y 0) O)) O)) (au (aJ K rfl) (by rfl) T.bx L2.aL (ac (Y 0) O)) (aG _))))))),?_⟩
  refine U rfl ⟨_,"tuple",_,true,rfl,.inr ⟨p,U rfl ⟨e,rfl⟩⟩,bI (by decide+kernel),true,rfl,bN ?_⟩;have f:l.length=(l.map V.str).length:=by simp
  refine U rfl ⟨_,l.length,rfl,.inr ⟨_,e,f⟩,_,U rfl ⟨rfl,U rfl (iC (λ_=>?_) (λh=>absurd (by lia) h))⟩⟩;refine r2 (U rfl ?_);show if(!decide ((l.length:Int)<=4))=true then _ else _
  rw[ji (show(l.length:Int)<=4 by lia)];refine bN ?_;refine U rfl ⟨p,rfl,⟨_,e⟩,λD m=>?_⟩;refine eY (K:=K) (a:=p) (xs:=l.map V.str) (λi b H'=>b=(List.replicate i true).map V.bl/\am H H'/\H' D=some (.lst b)) ⟨rfl,aj (am.refl _) m,af⟩ (λi b H' _ h=>am.tseq h.2.1 e) ?_ ?_
  ·rintro i v b n r⟨rfl,j,c⟩;have hi:=(d_.mp r).1;obtain⟨z,_,rfl,G⟩:=xV r;have I:i<l.length:=by simpa using hi
   exact av (ju (bp (U rfl ⟨V.str z,rfl,.inl ⟨z,rfl,h1 z G,λM t=>⟨t _ _ c,i0 i (by omega),lf hi ⟨gO i,bV (j.trans t) m,af⟩⟩⟩⟩)))
  ·rintro b n⟨rfl,j,c⟩;refine⟨D,_,rfl,be.of c,_,rfl,?_⟩;rw[i3];have g:=zx h2;refine bp (U rfl ⟨p,l.map Sum.inr,rfl,by rw[rq];exact am.tseq j e,by rw[b_];lia,λu k=>?_⟩);refine⟨u,U rfl ⟨af,by rw[g];omega,?_⟩⟩;have y:∀o,am H (aD n u o):=λo=>aj j k;refine U rfl ⟨_,l.length,rfl,.inr ⟨_,am.tseq (y _) e,f⟩,rfl,?_⟩;rw[g,ji rfl];exact q _ (y _)
end
def tO{A B:Prop}{x y:Str}(h:x≠y)(b:B):if decide (V.str x=V.str y)=true then A else B:=Fl (λe=>absurd e h) (λ_=>b)
def cf{A B:Prop}{x:Str}(a:A):if decide (V.str x=V.str x)=true then A else B:=Fl (λ_=>a) (λh=>absurd rfl h)
def wn{A B:Prop}{x y:Str}(b:B)(h:x≠y:=by first|decide+kernel|(dsimp only[Ru.kind];decide+kernel)):if decide (V.str x=V.str y)=true then A else B:=tO h b
abbrev jm(K:Of)(H:Hp):List Ru->List V->Prop:=Paired (fw K H)
theorem jm.kp(e:Kp H H')(h:jm K H c d):jm K H' c d:=Paired.mapP h λ_ _ q=>q.kp e
def jm.app(h:jm K H c d)(k:jm K H e f):jm K H (c++e) (d++f):=EA h k
def jm.get(h:jm K H c d)(i:Nat)(v:V)(e:d[i]?=some v):∃r,c[i]?=some r/\fw K H r v:=xF h i v e
def Ru.kids:Ru->List Ru|.not q=>[q]|.both q r=>[q,r]|.either q r=>[q,r]|_=>[]
def Ru.kind:Ru->Str|.any=>"any"|.has _=>"has"|.least _ _=>"least"|.not _=>"not"|.both _ _=>"both"|.either _ _=>"either"
def Ru.deep:Ru->Bool|.not _=>true|.both _ _=>true|.either _ _=>true|_=>false
def Ru.subs_kids(r:Ru):r.subs=r::(r.kids.map Ru.subs).flatten:=by cases r<;>simp[Ru.subs,Ru.kids]
def fw.tup(h:fw K H r v):∃t c,v=.ref t/\bj K H t (.str r.kind::c)/\(r.deep=true->jm K H r.kids c/\c≠[])/\(∀w,r.word1=some w->∃d,c=.str w::d):=by cases h with|any h=>exact⟨_,_,rfl,h,λe=>(nomatch e),λw e=>(nomatch e)⟩|has h=>exact⟨_,_,rfl,h,λe=>(nomatch e),λw e=>by cases e;exact⟨_,rfl⟩⟩|least h=>exact⟨_,_,rfl,h,λe=>(nomatch e),λw e=>by cases e;exact⟨_,rfl⟩⟩|not h q=>exact⟨_,U rfl ⟨h,λ_=>⟨.cons q .nil,nofun⟩,λw e=>(nomatch e)⟩⟩|both h q r=>exact⟨_,U rfl ⟨h,λ_=>⟨.cons q (.cons r .nil),nofun⟩,λw e=>(nomatch e)⟩⟩|either h q r=>exact⟨_,U rfl ⟨h,λ_=>⟨.cons q (.cons r .nil),nofun⟩,λw e=>(nomatch e)⟩⟩
def HD(r:Ru):oJ (.str r.kind) [.str "not",.str "both",.str "either"]=r.deep:=by cases r with|any=>exact(show oJ (.str "any") [.str "not",.str "both",.str "either"]=false by decide+kernel)|has _=>exact(show oJ (.str "has") [.str "not",.str "both",.str "either"]=false by decide+kernel)|least _ _=>exact(show oJ (.str "least") [.str "not",.str "both",.str "either"]=false by decide+kernel)|not _=>exact(show oJ (.str "not") [.str "not",.str "both",.str "either"]=true by decide+kernel)|both _ _=>exact(show oJ (.str "both") [.str "not",.str "both",.str "either"]=true by decide+kernel)|either _ _=>exact(show oJ (.str "either") [.str "not",.str "both",.str "either"]=true by decide+kernel)
def HC(r:Ru):oJ (.str r.kind) [.str "has",.str "least"]=r.word1.isSome:=by cases r with|any=>exact(show oJ (.str "any") [.str "has",.str "least"]=false by decide+kernel)|has _=>exact(show oJ (.str "has") [.str "has",.str "least"]=true by decide+kernel)|least _ _=>exact(show oJ (.str "least") [.str "has",.str "least"]=true by decide+kernel)|not _=>exact(show oJ (.str "not") [.str "has",.str "least"]=false by decide+kernel)|both _ _=>exact(show oJ (.str "both") [.str "has",.str "least"]=false by decide+kernel)|either _ _=>exact(show oJ (.str "either") [.str "has",.str "least"]=false by decide+kernel)
def Hw{r k:Ru}{n:Nat}(h:k∈r.kids)(hh:r.hgt<=n+1):k.hgt<=n:=by
 cases r with|any=>cases h|has _=>cases h|least _ _=>cases h|not q=>
  have:k=q:=by simpa[Ru.kids]using h
  have hh:q.hgt+1<=n+1:=hh;rw[this];lia|both q r=>
  have:k=q\/k=r:=by simpa[Ru.kids]using h
  have hh:max q.hgt r.hgt+1<=n+1:=hh;have h1:=NH q.hgt r.hgt;have h2:=Nx q.hgt r.hgt;rcases this with rfl|rfl<;>lia|either q r=>
  have:k=q\/k=r:=by simpa[Ru.kids]using h
  have hh:max q.hgt r.hgt+1<=n+1:=hh;have h1:=NH q.hgt r.hgt;have h2:=Nx q.hgt r.hgt;rcases this with rfl|rfl<;>lia
def FQ(x:V)(c:List V):HT.iw (x::c).length 0 (some 1)=1:=by show(if(1:Int)<0 then((1:Int)+((x::c).length:Int)).toNat else min (1:Int).toNat (c.length+1))=1;rw[g8 (by decide)];show min 1 (c.length+1)=1;lia
def HN(x:V)(c:List V):¬HT.iw (x::c).length 0 (some 1)=0:=by rw[FQ];decide
def FP(x:V)(c:List V):wk (x::c) (some 1) none=c:=by unfold wk;rw[FQ,HT.Eo];show c.take ((c.length+1)-1)=c;rw[Nat.add_sub_cancel,iA (fx _)]
inductive DL(K:Of)(h:Nat)(vs:List V)(H:Hp)(Q:VK)(_E:XK):Prop|mk(r:Ru)(rv:V)(_:vs=[rv])(_:fw K H r rv)(_:r.hgt<=h)(_:h<=6)(_:∀(l:Addr)(us:List V)(H':Hp),am H H'->H l=none->H' l=some (.lst us)->jm K H' r.subs us->Q (.ref l) H')
section
theorem jV(T:Txt K mg a):∀h:Nat,aT P w K mg base dq (h+1) a.bZ.x a.bZ.d ["rule"] (DL K h)
 |0=>by
  refine T.bZ.f.ok ik (λe H Q E h=>?_) (λZ A outer s H e Q E hr h=>?_)
  ·obtain⟨r,rv,rfl,_⟩:=h;rfl
  ·obtain⟨r,rv,rfl,_,hh,_⟩:=h;have:=r.hgt_pos;lia|n+1=>by
  have ih:=jV T n;refine T.bZ.f.ok ik (λe H Q E h=>?_) (λZ A outer s H e Q E hr h=>?_)
  ·obtain⟨r,rv,rfl,_⟩:=h;rfl
  ·obtain⟨r,rv,rfl,hR,hh,h6,q⟩:=h;obtain⟨t,e,rfl,hT,v,_⟩:=hR.tup;refine⟨_,(ah (bu 1 ik.nd (bf (ac (Y 0) O))) (ah (aP (aH (qY K rfl) (dB K (Y 0) ae) (bn (ac aB (ac aB (ac aB O)))) (by with_unfolding_all rfl)) (ai (fE nk rfl (gB K rfl (gC (Bt K rfl) (Y 0) (iQ ae) iR)) (vB 2 ik.nd) (ai (aO (jd K rfl PySem.F.plainAttrs_list PySem.F.slot_list_extend PySem.F.type_list_extend wQ (Y 1) (ac (bh ih hr rfl T.bZ.m T.bZ.f.kp T.bZ.b .nil bE (ac (Y 2) O)) O)))))) aE) (ai (aF (Y 1))))),?_⟩
   refine U rfl ⟨ls rfl,λl R=>?_⟩;have s0:=aj (o:=.lst [.ref t]) (am.refl H) R;have y:aD H l (.lst [.ref t]) l=some (.lst [.ref t]):=af
   try dsimp only
   generalize aD H l (.lst [.ref t])=H0 at s0 y⊢;refine U rfl (rX (am.tseq s0 hT) (aq (k:=0) rfl) ⟨ls rfl,λt3 G=>?_⟩);have I:=aj (o:=.tup [.str "not",.str "both",.str "either"]) s0 G;have j:aD H0 t3 (.tup [.str "not",.str "both",.str "either"]) l=some (.lst [.ref t]):=by rw[ao (aI y G)];exact y
   refine⟨t3,U rfl ⟨.inr (bj.of af),rfl,rfl,U rfl ?_⟩⟩;show if oJ (.str r.kind) [.str "not",.str "both",.str "either"]=true then _ else _
   rw[HD]
   try dsimp only
   generalize aD H0 t3 (.tup [.str "not",.str "both",.str "either"])=S at I j⊢;cases hd:r.deep with
 |false=>
    refine bN (U rfl ?_);have hs:r.subs=[r]:=by cases r<;>first|rfl|cases hd
    exact q l [.ref t] S I R j (by rw[hs];exact .cons (hR.kp (.of I)) .nil)|true=>
    obtain⟨hK,an⟩:=v hd;refine bp ?_;refine U rfl (U rfl ?_);have hc:=r.cnt_lt;have ap:2^r.hgt<=2^6:=z4 (by decide) (by lia);have aa:e.length=r.kids.length:=(Paired.length hK).symm;have J:∀(i:Nat)(k:Ru),r.kids[i]?=some k->k.hgt<=n:=λi k V=>Hw (f_ V) hh;refine⟨t,U rfl ⟨am.tseq I hT,λz=>absurd z.1 (HN _ _),λp hp=>?_⟩⟩;rw[FP];have s2:=aj (o:=.tup e) I hp;have L:aD S p (.tup e) l=some (.lst [.ref t]):=by rw[ao (aI j hp)];exact j
    have B:aD S p (.tup e) p=some (.tup e):=af
    try dsimp only
    generalize aD S p (.tup e)=H2 at s2 L B⊢;refine⟨p,rfl,⟨_,bj.of B⟩,HI (xs:=e) (D:={nx:=K1 (DC 1) {nx:=λ_ H'=>Q .non H',rt:=Q},rt:=Q}) (λi W H'=>am H H'/\H' p=some (.tup e)/\(∃C,H' l=some (.lst C)/\jm K H' (r::((r.kids.take i).map Ru.subs).flatten) C)/\∃v2,W=[some (.ref t),some (.ref l),v2]) ⟨s2,B,⟨[.ref t],L,.cons (hR.kp (.of s2)) .nil⟩,_,rfl⟩ (λi W H' _ h=>bj.of h.2.1) ?_ ?_⟩
    ·rintro i x W H3 hx⟨X,u,⟨C,c,g⟩,v2,rfl⟩;obtain⟨k,V,ad⟩:=jm.get hK i x hx;refine av (U rfl ⟨.inl ⟨rfl,_,be.of c⟩,U rfl ⟨k,x,rfl,ad.kp (.of X),J i k V,by lia,λl' ag H4 M as al N=>?_⟩⟩);have e1:((r.kids.take (i+1)).map Ru.subs).flatten=((r.kids.take i).map Ru.subs).flatten++k.subs:=by rw[to,V,g6,List.flatten_append];simp
     have n1:=Paired.length g;have n2:=Paired.length N;have n3:(((r.kids.take i).map Ru.subs).flatten).length+k.subs.length<=64:=by
      have e2:r.subs.length=1+((r.kids.map Ru.subs).flatten).length:=by rw[r.subs_kids,k4];lia
      have e3:((r.kids.map Ru.subs).flatten).length=(((r.kids.take (i+1)).map Ru.subs).flatten).length+(((r.kids.drop (i+1)).map Ru.subs).flatten).length:=by rw[<-gV,<-List.flatten_append,<-g6,sg]
      rw[e1,gV]at e3;unfold Ru.cnt at hc;lia
     rw[k4]at n1;refine⟨l,l',_,U rfl ⟨rfl,M _ _ c,al,by rw[hH];lia,?_⟩⟩;have kq:Kp H4 (aD H4 l (.lst (C++ag))):=.lst (M _ _ c);refine⟨bV (X.trans M) R,?_,⟨_,af,?_⟩,_,rfl⟩
     ·rw[ao (λz=>by rw[z,c]at u;cases u)];exact M _ _ u
     ·rw[e1,<-List.cons_append];exact jm.app ((g.kp (.of M)).kp kq) (N.kp kq)
    ·rintro W H3⟨X,u,⟨C,c,g⟩,v2,rfl⟩;refine U rfl (q l C H3 X R c ?_);rw[r.subs_kids];rw[aa,iA (fx _)]at g;exact g
end
def Kk[DecidableEq g][BEq g][LawfulBEq g][DecidableEq h][BEq h][LawfulBEq h](f:g->h)(i:∀a b,f a=f b->a=b)(d:List g):dd (d.map f)=(dd d).map f:=by
 have gen:∀(d c:List g),(d.map f).foldl PyProof.Rows.step_dedup (c.map f)=(d.foldl PyProof.Rows.step_dedup c).map f:=by
  intro d
  induction d with|nil=>intro c;rfl|cons k r j=>
   intro c;rw[lm,t0,t0,<-j]
   congr 1
   unfold PyProof.Rows.step_dedup;have e:(c.map f).any (λy=>y==f k)=c.any (λy=>y==k):=by
    rw[List.any_map]
    congr 1
    funext y
    show(f y==f k)=(y==k)
    by_cases q:y=k
    ·rw[q,t6,t6]
    ·rw[beq_false_of_ne q,beq_false_of_ne (λz=>q (i _ _ z))]
   by_cases q:c.any (λy=>y==k)=true
   ·rw[hA (e.trans q),hA q]
   ·rw[g8 (λz=>q (e.symm.trans z)),g8 q,g6];rfl
 exact gen d []
def Ru.wset(r:Ru):List Str:=dd r.words
def Ru.wset_keys(r:Ru):dd (r.words.map (Sum.inr:Str->cp))=r.wset.map Sum.inr:=Kk Sum.inr (λ_ _ h=>pv h) r.words
def Ru.wset_le(r:Ru):r.wset.length<=r.cnt:=by have h1:=mY r.words [];have h2:=r.words_le;unfold Ru.wset dd;simp at h1;lia
inductive Gq(K:Of)(vs:List V)(H:Hp)(Q:VK)(_E:XK):Prop|mk(r:Ru)(rv:V)(_:vs=[rv])(_:fw K H r rv)(_:r.hgt<=6)(_:∀(l:Addr)(ss:Om)(H':Hp),am H H'->H l=none->H' l=some (.lst (ss.map V.str))->ss.Perm r.wset->ss.Pairwise ng->Q (.ref l) H')
section
def y4(T:Txt K mg a):aT P w K mg base dq 8 a.j7.x a.j7.d ["rule"] (Gq K):=by
 refine T.j7.ok yL λaa A outer s H vs Q E hr h=>?_
 ·obtain⟨r,rv,rfl,hR,hh,q⟩:=h;refine⟨_,(ai (aF (au (yf (P:=P) (w:=w) rfl) (by rfl) T.zk L2.sK (ac (cV (oP (P:=P) (w:=w) K rfl rfl) (by rfl) T.BK L2.qE (ac (vC ["rule"] ["inner"] [] [1] (ak oo) (cG 1) (fH K rfl (bh ((jV T 6).mono (by decide)) hr rfl T.bZ.m T.bZ.f.kp T.bZ.b .nil bE (ac (Y 0) O))) (λcl C s₀ H₀ ex=>⟨(pT ["rule"] ["inner"] 1),(tS (aH (qY K rfl) (dB K (Y 1) ae) (bn (ac aB (ac aB O))) (by with_unfolding_all rfl))),(dB K (Y 1) ae)⟩)) O)) O)))),?_⟩
  refine U rfl ⟨r,rv,rfl,hR,hh,fx _,λl F H1 M hl u y=>?_⟩;have hc:=r.cnt_lt;have ad:2^r.hgt<=2^6:=z4 (by decide) (by lia);have G:F.length=r.subs.length:=(Paired.length y).symm;have ag:r.subs.length<64:=by unfold Ru.cnt at hc;lia
  refine⟨l,rfl,⟨_,be.of u⟩,λD N=>?_⟩;refine mZ (K:=K) (a:=l) (xs:=F) (λi e H'=>e=((r.subs.take i).filterMap Ru.word1).map V.str/\am H1 H'/\H' D=some (.lst e)) ⟨by rw[v_];rfl,aj (am.refl _) N,af⟩ (λi e H' _ h=>be.of (h.2.1 _ _ u)) ?_ ?_
  ·rintro i v e B R⟨rfl,p,c⟩;have hi:i<F.length:=(d_.mp R).1;obtain⟨k,hk,I⟩:=jm.get y i v R;obtain⟨t,vs,rfl,S,_,hw⟩:=(I.kp (.of p)).tup;refine av (U rfl (rX S (aq (k:=0) rfl) ⟨ls rfl,λW J=>?_⟩));have g:=aj (o:=.tup [.str "has",.str "least"]) (am.refl B) J;refine⟨W,U rfl ⟨.inr (bj.of af),rfl,rfl,U rfl ?_⟩⟩;show if oJ (.str k.kind) [.str "has",.str "least"]=true then _ else _
   rw[HC]
   try dsimp only
   generalize aD B W (.tup [.str "has",.str "least"])=H3 at g⊢;have X:(r.subs.take (i+1)).filterMap Ru.word1=(r.subs.take i).filterMap Ru.word1++k.word1.toList:=by
    rw[to,hk,NN]
    congr 1
   have fl:((r.subs.take i).filterMap Ru.word1).length<=i:=kl (List.length_filterMap_le _ _) (List.length_take_le _ _);cases j:k.word1 with|none=>refine bN (lf hi ⟨?_,p.trans g,g _ _ c⟩);rw[X,j];simp|some wd=>
    obtain⟨al,rfl⟩:=hw wd j;refine bp (U rfl (rX (am.tseq g S) (aq (k:=1) rfl) ⟨g _ _ c,?_,lf hi ⟨?_,bV (p.trans g) N,af⟩⟩))
    ·rw[b_,hH];lia
    ·rw[X,j,g6];rfl
  ·rintro e B⟨rfl,p,c⟩;rw[G,iA (fx _),r.words_subs]at c;have wl:=r.words_le;have an:=r.wset_le;have c:B D=some (.lst ((r.words.map (Sum.inr:Str->cp)).map kV)):=by rw[sD];exact c
   refine⟨D,r.words.map Sum.inr,rfl,be.of c,by rw[b_];lia,λZ L=>?_⟩;rw[r.wset_keys];have g:=aj (o:=xy P w Z (r.wset.map Sum.inr)) (am.refl B) L;refine⟨Z,r.wset,rfl,af,by lia,λq2 ss n hp hs=>?_⟩;have s4:=aj (o:=.lst (ss.map V.str)) g n;exact q q2 ss _ ((M.trans p).trans s4) (by cases z:H q2 with|none=>rfl|some o=>rw[((M.trans p).trans g) _ _ z]at n;cases n) af hp hs
end
theorem EO[BEq c][LawfulBEq c]:∀{l m:List c},l.Nodup->(∀x∈l,x∈m)->l.length<=m.length
 |[],m,_,_=>j_ _|a::l,m,h,g=>by
  obtain⟨h1,h2⟩:=Ob.mp h;have p:=List.perm_cons_erase (g a il);have:=EO (m:=m.erase a) h2 λx b=>by
   rcases q_.mp (p.mem_iff.mp (g x (hY _ b)))with rfl|q
   ·exact absurd b h1
   ·exact q
  have e:=p.length_eq;rw[k4]at e⊢;lia
theorem FO[DecidableEq d][BEq d][LawfulBEq d]:∀(f c:List d)(x:d),x∈f.foldl PyProof.Rows.step_dedup c↔x∈c\/x∈f
 |[],c,x=>by simp|k::r,c,x=>by
  rw[t0,FO r];unfold PyProof.Rows.step_dedup
  by_cases e:c.any (λy=>y==k)=true
  ·rw[hA e];obtain⟨y,b,q⟩:=N8.mp e;have g:k∈c:=by rw[<-eq_of_beq q];exact b
   constructor
   ·rintro(h|h)
    ·exact .inl h
    ·exact .inr (hY _ h)
   ·rintro(h|h)
    ·exact .inl h
    ·rcases q_.mp h with rfl|h
     ·exact .inl g
     ·exact .inr h
  ·rw[g8 e];simp only[List.mem_append,List.mem_singleton,q_,or_assoc,n_,false_or]
def Kj{c:Type}[DecidableEq c][BEq c][LawfulBEq c]{d:List c}{x:c}(h:x∈dd d):x∈d:=by
 rcases(FO d [] x).mp h with h|h
 ·cases h
 ·exact h
theorem IG[DecidableEq d][BEq d][LawfulBEq d]:∀(f c:List d),c.Nodup->(f.foldl PyProof.Rows.step_dedup c).Nodup
 |[],c,h=>h|k::r,c,h=>by
  rw[t0];refine IG r _ ?_;unfold PyProof.Rows.step_dedup
  by_cases e:c.any (λy=>y==k)=true
  ·rw[hA e];exact h
  ·rw[g8 e,o8];refine⟨h,by simp,λa g b i=>?_⟩;rw[List.mem_singleton.mp i];rintro rfl;exact e (N8.mpr ⟨a,g,t6 a⟩)
inductive GH(K:Of)(n:Nat)(vs:List V)(H:Hp)(Q:VK)(_E:XK):Prop|mk(r:Ru)(rv:V)(ws:Om)(_:vs=[rv,.int (n:Nat)])(_:fw K H r rv)(_:r.hgt<=n)(_:j4 ws r)(_:(∀w∈ws,Wd w))(_:∀H',am H H'->Q (.bl true) H')
def Fd{a b n:Nat}(h:max a b+1<=n+1):a<=n/\b<=n:=by have h1:=NH a b;have h2:=Nx a b;lia
section
theorem sx(T:Txt K mg a):∀n:Nat,aT P w K mg base dq (n+3) a.cC.x a.cC.d ["thing","depth"] (GH K n)
 |0=>by
  refine T.cC.f.ok lU (λz H Q E h=>?_) (λC A outer s H z Q E j h=>?_)
  ·obtain⟨r,D,e,rfl,_⟩:=h;rfl
  ·obtain⟨r,D,e,rfl,_,hh,_⟩:=h;have:=r.hgt_pos;lia|n+1=>by
  have F:=sx T n;refine T.cC.f.ok lU (λz H Q E h=>?_) (λC A outer s H z Q E j h=>?_)
  ·obtain⟨r,D,e,rfl,_⟩:=h;rfl
  ·obtain⟨r,D,e,rfl,R,hh,o,l,q⟩:=h;refine⟨_,(ah (aP (PW.pt (eS (aH aV (Y 1) ae (aG _)) (eS (bO (aS K rfl (au (dP K rfl) (by rfl) T.aZ L2.aQ (ac (Y 0) (ac (iy rfl T.dW L2.bS) O))) (λ_=>rfl))) (dy (aH aV (au (aJ K rfl) (by rfl) T.bx L2.aL (ac (Y 0) O)) ae (aG _)))))) (ai (aF dZ)) aE) (ah (bu 2 lU.nd (dB K (Y 0) ae)) (ah (aP (aH aV (Y 2) aB (aG _)) (ai (aF (bv aV (au (aJ K rfl) (by rfl) T.bx L2.aL (ac (Y 0) O)) ae (aG _)))) aE) (ah (aP (aH aV (Y 2) aB (aG _)) (ai (aF (bP (bv aV (au (aJ K rfl) (by rfl) T.bx L2.aL (ac (Y 0) O)) ae (aG _)) (cQ (bh ((fX T).mono (by first|decide|omega)) j rfl T.dX.m T.dX.f.kp T.dX.b .nil bE (ac (dB K (Y 0) ae) O)))))) aE) (ah (aP (aH aV (Y 2) aB (aG _)) (ai (aF (bP (bv aV (au (aJ K rfl) (by rfl) T.bx L2.aL (ac (Y 0) O)) ae (aG _)) (bP (bh ((fX T).mono (by first|decide|omega)) j rfl T.dX.m T.dX.f.kp T.dX.b .nil bE (ac (dB K (Y 0) ae) O)) (cQ (bh ((pX T).mono (by first|decide|omega)) j rfl T.cW.m T.cW.f.kp T.cW.b .nil bE (ac (dB K (Y 0) ae) O))))))) aE) (ah (aP (aH aV (Y 2) aB (aG _)) (ai (aF (bP (bv aV (au (aJ K rfl) (by rfl) T.bx L2.aL (ac (Y 0) O)) ae (aG _)) (cQ (bh F j rfl T.cC.m T.cC.f.kp T.cC.b .nil bE (ac (dB K (Y 0) ae) (ac (az fF (Y 1) ae) O))))))) aE) (ah (aP (PW.pt (eS (aH aV (Y 2) aB (aG _)) (dy (aH aV (Y 2) aB (aG _))))) (ai (aF (bP (bv aV (au (aJ K rfl) (by rfl) T.bx L2.aL (ac (Y 0) O)) ae (aG _)) (bP (bh F j rfl T.cC.m T.cC.f.kp T.cC.b .nil bE (ac (dB K (Y 0) ae) (ac (az fF (Y 1) ae) O))) (cQ (bh F j rfl T.cC.m T.cC.f.kp T.cC.b .nil bE (ac (dB K (Y 0) ae) (ac (az fF (Y 1) ae) O)))))))) aE) (ai (aF dZ))))))))),?_⟩
   have hd:((n+1:Nat):Int)-1=(n:Int):=by lia
   obtain⟨t,z,rfl,B,-⟩:=R.tup;refine U rfl ⟨rfl,U rfl (jh (λh=>absurd h (by lia)) (λG=>?_))⟩;refine U rfl ⟨_,"tuple",_,true,rfl,.inr ⟨t,U rfl ⟨B,rfl⟩⟩,bI (by decide+kernel),true,rfl,bN ?_⟩;refine U rfl ⟨_,U rfl ⟨.inr ⟨_,B,rfl⟩,rfl,U rfl (jh (λh=>absurd h (by rw[k4];lia)) (λI=>?_))⟩⟩;refine U rfl (rX B (aq (k:=0) rfl) ?_);refine av ?_;clear B G I;cases R with
 |any h=>refine U rfl ⟨rfl,U rfl (cf ?_)⟩;refine U rfl ⟨_,U rfl ⟨.inr ⟨_,h,rfl⟩,rfl,?_⟩⟩;exact jy (p:=V.int 1=V.int 1) rfl (q H (am.refl _))|has h=>cases o with|has hm=>refine U rfl ⟨rfl,U rfl (wn ?_)⟩;refine U rfl ⟨rfl,U rfl (cf ?_)⟩;refine U rfl ⟨_,U rfl ⟨.inr ⟨_,h,rfl⟩,rfl,U rfl (bp ?_)⟩⟩;exact U rfl (rX h rfl ⟨V.str _,rfl,.inl (U rfl ⟨l _ hm,q⟩)⟩)
   |least h=>cases o with|least hm h1 h2=>(iterate 2 refine U rfl ⟨rfl,U rfl (wn ?_)⟩);refine U rfl ⟨rfl,U rfl (cf ?_)⟩;refine U rfl ⟨_,U rfl ⟨.inr ⟨_,h,rfl⟩,rfl,U rfl (bp ?_)⟩⟩;refine U rfl (rX h rfl ⟨V.str _,rfl,.inl (U rfl ⟨l _ hm,λJ c=>(U rfl (bp ?_))⟩)⟩);exact⟨_,rfl,t,_,2,_,rfl,rfl,am.tseq c h,rfl,_,rfl,⟨h1,h2⟩,q J c⟩
   |not h h1=>cases o with|not u=>rename_i g i;have hh:g.hgt+1<=n+1:=hh;(iterate 3 refine U rfl ⟨rfl,U rfl (wn ?_)⟩);refine U rfl ⟨rfl,U rfl (cf ?_)⟩;refine U rfl ⟨_,U rfl ⟨.inr ⟨_,h,rfl⟩,rfl,U rfl (bp ?_)⟩⟩;refine U rfl (rX h rfl (U rfl (r2 ?_)));exact⟨g,i,e,by show[i,V.int (((n+1:Nat):Int)-1)]=_;rw[hd],h1,by lia,u,l,q⟩
   |both h h1 h2=>cases o with|both u L=>rename_i g v i y;have hh:=Fd (show max g.hgt v.hgt+1<=n+1 from hh);(iterate 4 refine U rfl ⟨rfl,U rfl (wn ?_)⟩);refine U rfl ⟨rfl,U rfl (cf ?_)⟩;refine U rfl ⟨_,U rfl ⟨.inr ⟨_,h,rfl⟩,rfl,U rfl (bp ?_)⟩⟩;refine U rfl (rX h rfl (U rfl (r2 ?_)));refine⟨g,i,e,by show[i,V.int (((n+1:Nat):Int)-1)]=_;rw[hd],h1,hh.1,u,l,λJ c=>(U rfl (bp ?_))⟩;refine U rfl (rX (am.tseq c h) rfl (U rfl (r2 ?_)));exact⟨v,y,e,by show[y,V.int (((n+1:Nat):Int)-1)]=_;rw[hd],h2.kp (.of c),hh.2,L,l,λM N=>q M (c.trans N)⟩
   |either h h1 h2=>cases o with|either u L=>rename_i g v i y;have hh:=Fd (show max g.hgt v.hgt+1<=n+1 from hh);(iterate 5 refine U rfl ⟨rfl,U rfl (wn ?_)⟩);refine U rfl ⟨rfl,U rfl (cf ?_)⟩;refine U rfl ⟨_,U rfl ⟨.inr ⟨_,h,rfl⟩,rfl,U rfl (bp ?_)⟩⟩;refine U rfl (rX h rfl (U rfl (r2 ?_)));refine⟨g,i,e,by show[i,V.int (((n+1:Nat):Int)-1)]=_;rw[hd],h1,hh.1,u,l,λJ c=>(U rfl (bp ?_))⟩;refine U rfl (rX (am.tseq c h) rfl (U rfl (r2 ?_)));exact⟨v,y,e,by show[y,V.int (((n+1:Nat):Int)-1)]=_;rw[hd],h2.kp (.of c),hh.2,L,l,λM N=>q M (c.trans N)⟩
end
def j4.mem(h:j4 c r):∀w∈r.words,w∈c:=by induction h with|any=>exactλw h=>(nomatch h)|has h=>intro w b;rw[List.mem_singleton.mp b];exact h|least h=>intro w b;rw[List.mem_singleton.mp b];exact h|not _ h=>exact h|both _ _ h g=>exactλw b=>(List.mem_append.mp b).elim (h w) (g w)|either _ _ h g=>exactλw b=>(List.mem_append.mp b).elim (h w) (g w)
def j4.few{c:Om}{r:Ru}(h:j4 c r):r.wset.length<=c.length:=EO (IG r.words [] Nd) λx b=>h.mem x (Kj b)
inductive DY(K:Of)(vs:List V)(H:Hp)(Q:VK)(_E:XK):Prop|mk(r:Ru)(rv:V)(ws:Om)(_:vs=[rv])(_:fw K H r rv)(_:r.hgt<=6)(_:r.cnt<=30)(_:j4 ws r)(_:(∀w∈ws,Wd w))(_:ws.length<=3)(_:∀H',am H H'->Q (.bl true) H')
section
def Ay(T:Txt K mg a):aT P w K mg base dq 10 a.mW.x a.mW.d ["thing"] (DY K):=by
 refine T.mW.ok Am λv A outer s H L Q E c h=>?_
 ·obtain⟨r,e,y,rfl,g,hh,hc,o,z,M,q⟩:=h;refine⟨_,(ah (aP (bO (aS K rfl (bh ((sx T 6).mono (by decide)) c rfl T.cC.m T.cC.f.kp T.cC.b .nil bE (ac (Y 0) (ac (bC T.vk rfl) O))) (λ_=>rfl))) (ai (aF dZ)) aE) (ai (aF (bP (bv iO (au (aJ K rfl) (by rfl) T.bx L2.aL (ac (bh ((jV T 6).mono (by decide)) c rfl T.bZ.m T.bZ.f.kp T.bZ.b .nil bE (ac (Y 0) O)) O)) (bC T.yk rfl) (aG _)) (cQ (bv iO (au (aJ K rfl) (by rfl) T.bx L2.aL (ac (pc T.j7 (y4 T) c (ac (Y 0) O)) O)) (bC T.yh rfl) (aG _))))))),?_⟩
  refine U rfl ⟨r,e,y,rfl,g,hh,o,z,λN i=>(U rfl (bN ?_))⟩;refine U rfl ⟨r,e,rfl,g.kp (.of i),hh,fx _,λl p R t B j k=>?_⟩;have C:p.length=r.subs.length:=(Paired.length k).symm;unfold Ru.cnt at hc;refine⟨_,p.length,rfl,.inl ⟨_,be.of j,rfl⟩,_,U rfl ⟨rfl,U rfl (iC (λ_=>?_) (λh=>absurd (by lia) h))⟩⟩;refine U rfl ⟨r,e,rfl,g.kp (.of (i.trans t)),hh,λS u D F G n I _=>?_⟩;have V:=o.few;have J:=I.length_eq;refine⟨_,u.length,rfl,.inl ⟨_,be.of n,by simp⟩,_,U rfl ⟨rfl,?_⟩⟩;exact jy (show((u.length:Nat):Int)<=3 by lia) (q D ((i.trans t).trans F))
end
inductive GG(K:Of)(h:Nat)(vs:List V)(H:Hp)(Q:VK)(_E:XK):Prop|mk(r:Ru)(rv:V)(ms:List (Str×Int))(mv:V)(_:vs=[rv,mv])(_:fw K H r rv)(_:r.hgt<=h)(_:rQ K H ms mv)(_:ms.length<=100)(_:∀H',am H H'->Q (.bl (r.sat ms)) H')
section
theorem ze(T:Txt K mg a):∀h:Nat,aT P w K mg base dq (h+1) a.d7.x a.d7.d ["rule","marks"] (GG K h)
 |0=>by
  refine T.d7.f.ok uo (λvs H Q E h=>?_) (λaa A outer s H vs Q E R h=>?_)
  ·obtain⟨r,rv,k,mv,rfl,_⟩:=h;rfl
  ·obtain⟨r,rv,k,mv,rfl,_,hh,_⟩:=h;have:=r.hgt_pos;lia|n+1=>by
  have W:=ze T n;refine T.d7.f.ok uo (λvs H Q E h=>?_) (λaa A outer s H vs Q E R h=>?_)
  ·obtain⟨r,rv,k,mv,rfl,_⟩:=h;rfl
  ·obtain⟨r,rv,k,mv,rfl,hR,hh,S,p,q⟩:=h;obtain⟨mt,l,rfl,I,X,Z⟩:=id S;refine⟨_,(ah (bu 2 uo.nd (dB K (Y 0) ae)) (ah (aP (aH aV (Y 2) aB (aG _)) (ai (aF dZ)) aE) (ah (aP (aH aV (Y 2) aB (aG _)) (ai (aF (au (rL K rfl rfl) (by rfl) T.ET L2.vn (ac (vC qJ ["mark"] [] [3] (ak tR) (cG 3) (gB K rfl (Y 1)) (λcl C s₀ H₀ ex=>⟨(pT qJ ["mark"] 3),cE,(bv aV (dB K (Y 3) ae) (dB K (Y 0) ae) (aG _))⟩)) O)))) aE) (ah (aP (aH aV (Y 2) aB (aG _)) (ai (aF (au (rL K rfl rfl) (by rfl) T.ET L2.vn (ac (vC qJ ["mark"] [] [3] (ak tR) (cG 3) (gB K rfl (Y 1)) (λcl C s₀ H₀ ex=>⟨(pT qJ ["mark"] 3),cE,(bP (bv aV (dB K (Y 3) ae) (dB K (Y 0) ae) (aG _)) (cQ (bv BF (dB K (Y 3) ae) (dB K (Y 0) ae) (aG _))))⟩)) O)))) aE) (ah (aP (aH aV (Y 2) aB (aG _)) (ai (aF (Au (bh W R rfl T.d7.m T.d7.f.kp T.d7.b .nil bE (ac (dB K (Y 0) ae) (ac (Y 1) O)))))) aE) (ah (aP (aH aV (Y 2) aB (aG _)) (ai (aF (bP (bh W R rfl T.d7.m T.d7.f.kp T.d7.b .nil bE (ac (dB K (Y 0) ae) (ac (Y 1) O))) (cQ (bh W R rfl T.d7.m T.d7.f.kp T.d7.b .nil bE (ac (dB K (Y 0) ae) (ac (Y 1) O))))))) aE) (ai (aF (Lu (bh W R rfl T.d7.m T.d7.f.kp T.d7.b .nil bE (ac (dB K (Y 0) ae) (ac (Y 1) O))) (cQ (bh W R rfl T.d7.m T.d7.f.kp T.d7.b .nil bE (ac (dB K (Y 0) ae) (ac (Y 1) O))))))))))))),?_⟩
   have c:∀{A B:Prop}{x y:Str},x≠y->B->if decide (V.str x=V.str y)=true then A else B:=λh b=>Fl (λe=>absurd e h) (λ_=>b)
   have j:∀{A B:Prop}{x:Str},A->if decide (V.str x=V.str x)=true then A else B:=λa=>Fl (λ_=>a) (λh=>absurd rfl h)
   cases hR with|any h=>refine U rfl (rX h rfl ?_);exact U rfl ⟨rfl,U rfl (j (q _ (am.refl _)))⟩|has h=>
    refine U rfl (rX h rfl ?_);refine U rfl ⟨rfl,U rfl (c (by decide+kernel) ?_)⟩;refine U rfl ⟨rfl,U rfl (j ?_)⟩;rename_i ra wd;refine U rfl ⟨mt,rfl,⟨_,I⟩,λD hD=>?_⟩;have t:∀g,am H (aD H D (.lst g)):=λg=>aj (am.refl _) hD;refine eY (K:=K) (a:=mt) (xs:=l) (λi g H'=>g=((k.take i).map (LT wd)).map V.bl/\H'=aD H D (.lst g)) ⟨by rw[v_];rfl,rfl⟩ (λi g H' _ h=>h.2▸am.tseq (t _) I) ?_ ?_
    ·rintro i v g _ L⟨rfl,rfl⟩;have hi:i<l.length:=(d_.mp L).1;obtain⟨b,hb,hB⟩:=Z i (k[i]'(by lia)) (fy (by lia));rw[hb]at L;cases L;refine av (ju (bp ?_));refine U rfl (rX (am.tseq (t _) hB) rfl (U rfl (rX (am.tseq (t _) h) rfl ⟨rfl,af,?_,lf hi ⟨?_,?_⟩⟩)))
     ·rw[b_,b_,ku,hH];lia
     ·rw[oV (fy (by lia)),g6];rfl
     ·rw[ie]
    ·rintro g _⟨rfl,rfl⟩;refine⟨D,_,rfl,be.of af,?_⟩;rw[X,iA (fx _)];exact q _ (t _)|least h=>
    refine U rfl (rX h rfl ?_);(iterate 2 refine U rfl ⟨rfl,U rfl (c (by decide+kernel) ?_)⟩);refine U rfl ⟨rfl,U rfl (j ?_)⟩;rename_i ra wd F;refine U rfl ⟨mt,rfl,⟨_,I⟩,λD hD=>?_⟩;have t:∀g,am H (aD H D (.lst g)):=λg=>aj (am.refl _) hD;refine eY (K:=K) (a:=mt) (xs:=l) (λi g H'=>g=((k.take i).map (gR wd F)).map V.bl/\H'=aD H D (.lst g)) ⟨by rw[v_];rfl,rfl⟩ (λi g H' _ h=>h.2▸am.tseq (t _) I) ?_ ?_
    ·rintro i v g _ L⟨rfl,rfl⟩;have hi:i<l.length:=(d_.mp L).1;obtain⟨b,hb,hB⟩:=Z i (k[i]'(by lia)) (fy (by lia));rw[hb]at L;cases L;have fin:∀b,b=gR wd F (k[i]'(by lia))->aD H D (.lst (((k.take i).map (gR wd F)).map V.bl)) D=some (.lst (((k.take i).map (gR wd F)).map V.bl))/\(((k.take i).map (gR wd F)).map V.bl).length<sizeLine/\∃m',m'<l.length-i/\m'=l.length-(i+1)/\i+1<=l.length/\((((k.take i).map (gR wd F)).map V.bl++[V.bl b]=((k.take (i+1)).map (gR wd F)).map V.bl)/\aD (aD H D (.lst (((k.take i).map (gR wd F)).map V.bl))) D (.lst (((k.take i).map (gR wd F)).map V.bl++[V.bl b]))=aD H D (.lst (((k.take i).map (gR wd F)).map V.bl++[V.bl b]))):=λb eb=>by
      refine⟨af,?_,lf hi ⟨?_,?_⟩⟩
      ·rw[b_,b_,ku,hH];lia
      ·rw[oV (fy (by lia)),g6,eb];rfl
      ·rw[ie]
     refine av (ju (bp ?_));refine U rfl (rX (am.tseq (t _) hB) rfl (U rfl (rX (am.tseq (t _) h) rfl ⟨rfl,U rfl (Fl (λe=>?_) (λe=>?_))⟩)))
     ·refine U rfl (rX (am.tseq (t _) hB) rfl (U rfl (rX (am.tseq (t _) h) rfl (r2 (fin _ ?_)))));unfold gR;rw[hA (by rw[e];exact ji rfl)]
     ·refine fin _ ?_;unfold gR;rw[g8 (by rw[i_ (λz=>e (V.str.inj z))];exact hF)]
    ·rintro g _⟨rfl,rfl⟩;refine⟨D,_,rfl,be.of af,?_⟩;rw[X,iA (fx _)];exact q _ (t _)|not h h1=>rename_i ra G v;have hq:G.hgt+1<=n+1:=hh;refine U rfl (rX h rfl ?_);(iterate 3 refine U rfl ⟨rfl,U rfl (c (by decide+kernel) ?_)⟩);refine U rfl ⟨rfl,U rfl (j ?_)⟩;exact U rfl (rX h rfl (U rfl ⟨G,v,k,_,rfl,h1,by lia,S,p,λH' o=>(U rfl (q H' o))⟩))|both h h1 h2=>
    rename_i ra G M v u;have hq:max G.hgt M.hgt+1<=n+1:=hh;refine U rfl (rX h rfl ?_);(iterate 4 refine U rfl ⟨rfl,U rfl (c (by decide+kernel) ?_)⟩);refine U rfl ⟨rfl,U rfl (j ?_)⟩;refine U rfl (rX h rfl (U rfl ⟨G,v,k,_,rfl,h1,by lia,S,p,λH' o=>(U rfl ?_)⟩));have J:∀H',am H H'->Q (.bl (if G.sat k=true then M.sat k else false)) H':=q;refine x4 (λe=>?_) (λe=>?_)
    ·rw[hA e]at J;exact U rfl (rX (am.tseq o h) rfl (U rfl ⟨M,u,k,_,rfl,h2.kp (.of o),by lia,S.kp (.of o),p,λH2 N=>J H2 (o.trans N)⟩))
    ·rw[g8 (by rw[e];exact hF)]at J;exact J H' o|either h h1 h2=>
    rename_i ra G M v u;have hq:max G.hgt M.hgt+1<=n+1:=hh;refine U rfl (rX h rfl ?_);(iterate 5 refine U rfl ⟨rfl,U rfl (c (by decide+kernel) ?_)⟩);refine U rfl (rX h rfl (U rfl ⟨G,v,k,_,rfl,h1,by lia,S,p,λH' o=>(U rfl ?_)⟩));have J:∀H',am H H'->Q (.bl (if G.sat k=true then true else M.sat k)) H':=q;refine x4 (λe=>?_) (λe=>?_)
    ·rw[hA e]at J;exact J H' o
    ·rw[g8 (by rw[e];exact hF)]at J;exact U rfl (rX (am.tseq o h) rfl (U rfl ⟨M,u,k,_,rfl,h2.kp (.of o),by lia,S.kp (.of o),p,λH2 N=>J H2 (o.trans N)⟩))
end
inductive GN(vs:List V)(H:Hp)(Q:VK)(_E:XK):Prop|mk(x:_)(_:vs=[.str x])(_:Wd x)(_:∀H',am H H'->Q .non H')
inductive GS(K:Of)(vs:List V)(H:Hp)(Q:VK)(_E:XK):Prop|mk(p:Addr)(l:Om)(_:vs=[.ref p])(_:bj K H p (l.map V.str))(_:(∀w∈l,Wd w))(_:l.Nodup)(_:1<=l.length)(_:l.length<=4)(_:∀H',am H H'->Q .non H')
inductive GO(K:Of)(vs:List V)(H:Hp)(Q:VK)(_E:XK):Prop|mk(r:Ru)(rv:V)(ws:Om)(_:vs=[rv])(_:fw K H r rv)(_:r.hgt<=6)(_:r.cnt<=30)(_:j4 ws r)(_:(∀w∈ws,Wd w))(_:ws.length<=3)(_:∀H',am H H'->Q .non H')
inductive Eb(vs:List V)(H:Hp)(Q:VK)(_E:XK):Prop|mk(x:_)(_:vs=[.str x])(_:yy x)(_:∀H',am H H'->Q .non H')
inductive D9(K:Of)(vs:List V)(H:Hp)(Q:VK)(_E:XK):Prop|mk(v:V)(l:List (Str×Int))(_:vs=[v])(_:rQ K H l v)(_:(∀m∈l,Wd m.1/\-ce<=m.2/\m.2<=ce))(_:(l.map Prod.fst).Nodup)(_:l.length<=8)(_:∀H',am H H'->Q .non H')
inductive Ec(vs:List V)(H:Hp)(Q:VK)(_E:XK):Prop|mk(z:_)(_:vs=[.int z])(_:0<=z)(_:Q .non H)
inductive Co(K:Of)(vs:List V)(H:Hp)(Q:VK)(_E:XK):Prop|mk(p:Addr)(l:Os)(_:vs=[.ref p,.int (l.length:Nat)])(_:bj K H p (l.map V.int))(_:(∀i∈l,0<=i))(_:l.length<=100)(_:∀H',am H H'->Q .non H')
inductive GR(K:Of)(vs:List V)(H:Hp)(Q:VK)(_E:XK):Prop|mk(z:Int)(p:Addr)(l:Os)(_:vs=[.int z,.ref p,.int (l.length:Nat)])(_:(0<=z/\z<=1000))(_:bj K H p (l.map V.int))(_:(∀i∈l,1<=i/\i<=ce))(_:l.length<=100)(_:∀H',am H H'->Q .non H')
section
def nU(T:Txt K mg a):aT P w K mg base dq 3 a.fZ.x a.fZ.d ["thing"] GN:=by
 refine T.fZ.ok vH λb A outer s H i Q E c h=>?_
 ·obtain⟨x,rfl,e,q⟩:=h;refine⟨_,(ai (aP (bO (aS K rfl (pc T.dX (fX T) c (ac (Y 0) O)) (λ_=>rfl))) (ai cJ) aE)),?_⟩;exact U rfl ⟨V.str x,rfl,.inl ⟨x,rfl,e,λf g=>(U rfl (bN (q f g)))⟩⟩
def vV(T:Txt K mg a):aT P w K mg base dq 4 a.gX.x a.gX.d ["thing"] (GS K):=by
 refine T.gX.ok vK λb A outer s H g Q E c h=>?_
 ·obtain⟨p,l,rfl,h1,h2,h3,h4,h5,q⟩:=h;refine⟨_,(ai (aP (bO (aS K rfl (pc T.kM (zf T) c (ac (Y 0) O)) (λ_=>rfl))) (ai cJ) aE)),?_⟩;exact U rfl ⟨p,l,rfl,h1,h2,h3,h4,h5,λe f=>(U rfl (bN (q e f)))⟩
def vR(T:Txt K mg a):aT P w K mg base dq 11 a.gT.x a.gT.d ["thing"] (GO K):=by
 refine T.gT.ok vI λb A outer s H j Q E c h=>?_
 ·obtain⟨r,e,f,rfl,h1,h2,h3,h4,h5,h6,q⟩:=h;refine⟨_,(ai (aP (bO (aS K rfl (pc T.mW (Ay T) c (ac (Y 0) O)) (λ_=>rfl))) (ai cJ) aE)),?_⟩;exact U rfl ⟨r,e,f,rfl,h1,h2,h3,h4,h5,h6,λg i=>(U rfl (bN (q g i)))⟩
def gD(T:Txt K mg a):aT P w K mg base dq 3 a.a0.x a.a0.d ["thing"] Eb:=by
 refine T.a0.ok lW λb A outer s H i Q E c h=>?_
 ·obtain⟨x,rfl,e,q⟩:=h;refine⟨_,(ai (aP (bO (aS K rfl (pc T.fM (zd T) c (ac (Y 0) O)) (λ_=>rfl))) (ai cJ) aE)),?_⟩;exact U rfl ⟨x,rfl,e,λf g=>(U rfl (bN (q f g)))⟩
def uV(T:Txt K mg a):aT P w K mg base dq 5 a.cy.x a.cy.d ["thing"] (D9 K):=by
 refine T.cy.ok lV λb A outer s H g Q E c h=>?_
 ·obtain⟨v,l,rfl,h1,h2,h3,h4,q⟩:=h;refine⟨_,(ai (aP (bO (aS K rfl (pc T.eO (xM T) c (ac (Y 0) O)) (λ_=>rfl))) (ai cJ) aE)),?_⟩;exact U rfl ⟨v,l,rfl,h1,h2,h3,h4,λe f=>(U rfl (bN (q e f)))⟩
def uX(T:Txt K mg a):aT P w K mg base dq 3 a.gn.x a.gn.d ["thing"] Ec:=by
 refine T.gn.ok ux λb A outer s H e Q E c h=>?_
 ·obtain⟨z,rfl,h0,q⟩:=h;refine⟨_,(ai (aP (bO (aS K rfl (pc T.dH (iz T) c (ac (Y 0) O)) (λ_=>rfl))) (ai cJ) aE)),?_⟩;exact U rfl ⟨z,rfl,h0,U rfl (bN q)⟩
def sZ(T:Txt K mg a):aT P w K mg base dq 4 a.ft.x a.ft.d ["thing","many"] (Co K):=by
 refine T.ft.ok sP λb A outer s H g Q E c h=>?_
 ·obtain⟨p,l,rfl,h1,h2,h3,q⟩:=h;refine⟨_,(ai (aP (bO (aS K rfl (pc T.g9 (vX T) c (ac (Y 0) (ac (Y 1) O))) (λ_=>rfl))) (ai cJ) aE)),?_⟩;exact U rfl (U rfl ⟨p,l,rfl,h1,h2,h3,λe f=>(U rfl (bN (q e f)))⟩)
def qZ(T:Txt K mg a):aT P w K mg base dq 4 a.eM.x a.eM.d ["total","weights","many"] (GR K):=by
 refine T.eM.ok qU λc A outer s H i Q E b h=>?_
 ·obtain⟨z,p,l,rfl,e,h1,h2,h3,q⟩:=h;refine⟨_,(ai (aP (PW.pt (eS (bO (aS K rfl (pc T.kH (za T) b (ac (Y 0) O)) (λ_=>rfl))) (dy (bO (aS K rfl (pc T.gq (uY T) b (ac (Y 1) (ac (Y 2) O))) (λ_=>rfl)))))) (ai cJ) aE)),?_⟩;refine U rfl ⟨z,rfl,e,U rfl (bN ?_)⟩;exact U rfl (U rfl ⟨p,l,rfl,h1,h2,h3,λf g=>(U rfl (bN (q f g)))⟩)
end
inductive Cl(vs:List V)(H:Hp)(Q:VK)(_E:XK):Prop|mk(z:Int)(_:vs=[.int z])(_:(2<=z/\z<=997))(_:(∀i:Nat,2+(i:Int)<z->z%(2+(i:Int))≠0))(_:∀H',am H H'->Q (.bl true) H')
inductive DX(vs:List V)(H:Hp)(Q:VK)(_E:XK):Prop|mk(z:_)(_:vs=[.int z])(_:(0<=z/\z<=ce))(_:Q (.bl true) H)
inductive Ea(vs:List V)(H:Hp)(Q:VK)(_E:XK):Prop|mk(z s:Int)(_:vs=[.int z,.int s])(_:(2<=z/\z<=997))(_:(∀i:Nat,2+(i:Int)<z->z%(2+(i:Int))≠0))(_:(0<=s/\s<=ce))(_:∀H',am H H'->Q .non H')
inductive Jt(vs:List V)(H:Hp)(Q:VK)(_E:XK):Prop|mk(x:Str)(d:Addr)(kvs:List (cp×V))(_:vs=[.str x,.ref d])(_:Wd x)(_:H d=some (.dK kvs))(_:bB kvs (.inr x)=none)(_:∀H',am H H'->Q .non H')
inductive D6(vs:List V)(H:Hp)(Q:VK)(_E:XK):Prop|mk(x:Str)(d:Addr)(kvs:List (cp×V))(_:vs=[.str x,.ref d])(_:Wd x)(_:H d=some (.dK kvs))(_:(bB kvs (.inr x)).isSome=true)(_:∀H',am H H'->Q .non H')
theorem mR:∀c:List Str,(c.map V.str).all og=true|[]=>rfl|w::r=>by rw[lm,M0,mR r];rfl
section
def zb(T:Txt K mg a):aT P w K mg base dq 2 a.kI.x a.kI.d ["thing"] Cl:=by
 refine T.kI.ok yN λe A outer s H j Q E f h=>?_
 ·obtain⟨z,rfl,⟨h1,h2⟩,hd,q⟩:=h;refine⟨_,(ah (aP (PW.pt (eS (bO (aS K rfl (pc T.dG (jH T) f (ac (Y 0) O)) (λ_=>rfl))) (dy (bO (yU iO iO (bC T.wq rfl) (Y 0) (bC T.rN rfl)))))) (ai (aF dZ)) aE) (ai (aF (au (gY K rfl rfl) (by rfl) T.u7 L2.jl (ac (vC ["thing"] ["divisor"] [] [1] (ak oq) (cG 1) (wN rfl T.fV (ac ae (ac (Y 0) O))) (λcl C s₀ H₀ ex=>⟨(pT ["thing"] ["divisor"] 1),cE,(bv Iw (az aY (Y 0) (Y 1)) ae (aG _))⟩)) O))))),?_⟩
  refine U rfl ⟨z,rfl,U rfl (bN ?_)⟩;refine U rfl (r2 (U rfl ?_));refine iC (λ_=>?_) (λh=>absurd h1 h);refine r2 (U rfl ?_);rw[ji h2];refine bN ?_;refine U rfl ⟨_,U rfl ⟨⟨by decide,by decide,by omega,by omega⟩,λD g=>?_⟩⟩;refine gS (K:=K) (lo:=2) (n:=(z-2).toNat) (λi b c=>b=(List.replicate i true).map V.bl/\c=aD H D (.lst b)) ⟨rfl,rfl⟩ ?_ ?_
  ·rintro i b c hi⟨rfl,rfl⟩;refine av (ju (bp (U rfl (U rfl (r2 ⟨(by show(0:Int)<_;first|decide|omega),rfl,?_⟩)))));refine⟨af,i0 i (by omega),lf hi ⟨?_,by rw[ie]⟩⟩;have hn:=hd i (by omega);rw[<-gO]
   congr 2
   simp[hn]
  ·rintro b c⟨rfl,rfl⟩;refine⟨D,_,rfl,be.of af,?_⟩;rw[i3];exact q _ (aj (am.refl _) g)
def Ax(T:Txt K mg a):aT P w K mg base dq 3 a.mV.x a.mV.d ["thing"] DX:=by
 refine T.mV.ok Al λb A outer s H e Q E c h=>?_
 ·obtain⟨z,rfl,⟨h1,h2⟩,q⟩:=h;refine⟨_,(ai (aF (bP (pc T.dH (iz T) c (ac (Y 0) O)) (cQ (bv iO (Y 0) (az ml ae ae) (aG _)))))),?_⟩;refine U rfl ⟨z,rfl,h1,U rfl (bp ?_)⟩
  walk_at "a"
  exact jy h2 q
def uW(T:Txt K mg a):aT P w K mg base dq 4 a.gm.x a.gm.d ["prime","salt"] Ea:=by
 refine T.gm.ok uw λc A outer s H g Q E b h=>?_
 ·obtain⟨z,sa,rfl,h1,h2,h3,q⟩:=h;refine⟨_,(ai (aP (PW.pt (eS (bO (aS K rfl (pc T.kI (zb T) b (ac (Y 0) O)) (λ_=>rfl))) (dy (bO (aS K rfl (pc T.mV (Ax T) b (ac (Y 1) O)) (λ_=>rfl)))))) (ai cJ) aE)),?_⟩;refine U rfl ⟨z,rfl,h1,h2,λe f=>(U rfl (bN ?_))⟩;exact U rfl ⟨sa,rfl,h3,U rfl (bN (q e f))⟩
def pY(T:Txt K mg a):aT P w K mg base dq 4 a.gU.x a.gU.d ["thing","names"] Jt:=by
 refine T.gU.ok xB λe A outer s H i Q E b h=>?_
 ·obtain⟨x,d,f,rfl,h1,h2,h3,q⟩:=h;refine⟨_,(ah (aO (pc T.fZ (nU T) b (ac (Y 0) O))) (ai (aP (ox (Av (cN b) (Y 0) (Y 1)) rfl) (ai cJ) aE))),?_⟩
  refine U rfl ⟨x,rfl,h1,λg c=>?_⟩;refine U rfl (U rfl (rG none (by rw[<-h3];exact eE.k (k:=.inr x) (c _ _ h2)) (U rfl (bN (q g c)))))
def dF(T:Txt K mg a):aT P w K mg base dq 4 a.bW.x a.bW.d ["thing","names"] D6:=by
 refine T.bW.ok pf λf A outer s H i Q E c h=>?_
 ·obtain⟨x,d,b,rfl,h1,h2,h3,q⟩:=h;refine⟨_,(ah (aO (pc T.fZ (nU T) c (ac (Y 0) O))) (ai (aP (ox (qX (cN c) (Y 0) (Y 1)) rfl) (ai cJ) aE))),?_⟩
  refine U rfl ⟨x,rfl,h1,λg e=>?_⟩;refine U rfl (U rfl (rG (bB b (.inr x)) (eE.k (k:=.inr x) (e _ _ h2)) (U rfl ?_)));rw[h3];exact bN (q g e)
end
abbrev Pl:=cn×V×List Int
def fu(H:Hp)(tk:List iN)(m:List Pl):Prop:=Paired (λ(x:iN)(y:Pl)=>x.1=y.1/\x.2.1=y.2.1/\∃l,x.2.2=.ref l/\H l=some (.lst (y.2.2.map V.int))) tk m
structure eT(P:Ol)(w:World)(K:Of)(C:Addr)(H:Hp)(t od td:Addr)(n:Nat)(ow:List (cp×V))(tk:List iN)(m:List Pl):Prop where
 ins:∃dx,H t=some (.ins C dx [("many",.int n),("owners",.ref od),("taken",.ref td)])own:H od=some (.dK ow)tak:H td=some (dM P w td tk)keys:eR K H tk
 lsts:fu H tk m
def fu.same(e:am H H')(h:fu H tk m):fu H' tk m:=Paired.mapP h λ_ _ h=>⟨h.1,h.2.1,h.2.2.imp λ_ q=>⟨q.1,e _ _ q.2⟩⟩
def fL(e:Kp H H')(h:dw K H k v):dw K H' k v:=by match k,h with|.inl _,h=>exact h|.inr [],h=>exact h|.inr (_::_),h=>obtain⟨b,h1,h2⟩:=h;exact⟨b,h1,e.tq h2⟩
def oH(e:am H H')(h:dw K H k v):dw K H' k v:=by exact fL (.of e) h
theorem eT.same(e:am H H')(h:eT P w K C H t c d n ow tk m):eT P w K C H' t c d n ow tk m:=⟨let⟨dx,i⟩:=h.ins;⟨dx,e _ _ i⟩,e _ _ h.own,e _ _ h.tak,λx b=>oH e (h.keys x b),h.lsts.same e⟩
def fu.val(h:fu H tk m)(k:cn):(∃l c,fK tk k=some (.ref l)/\fK m k=some c/\H l=some (.lst (c.map V.int)))\/(fK tk k=none/\fK m k=none):=by induction h with|nil=>exact .inr ⟨rfl,rfl⟩|@cons x y _ _ h _ b=>
  unfold fK at b⊢;rw[pw,pw,<-h.1]
  by_cases e:x.1=k
  ·rw[ji e];exact .inl (h.2.2.imp λ_ q=>⟨y.2.2,r_ some q.1,rfl,q.2⟩)
  ·rw[i_ e];exact b
def bD(m:List Pl)(k:cn):List Int:=(fK m k).getD []
def gH(n:Nat)(ow:List (cp×V)):List Int:=((List.range n).filter λ(i:Nat)=>(bB ow (.inl (i:Int))).isNone).map λ(i:Nat)=>(i:Int)
inductive Jl(P:Ol)(w:World)(K:Of)(C:Addr)(vs:List V)(H:Hp)(Q:VK)(_E:XK):Prop|mk(t dx:Addr)(n:Nat)(_:vs=[.ref t,.int n])(_:H t=some (.ins C dx []))(_:H dx=some (.own t))(_:∀(od td:Addr)H',H od=none->H td=none->(∀b o,H b=some o->b≠t->H' b=some o)->eT P w K C H' t od td n [] [] []->Q .non H')
inductive Ck(P:Ol)(w:World)(K:Of)(C:Addr)(vs:List V)(H:Hp)(Q:VK)(_E:XK):Prop|mk(t od td:Addr)(n:Nat)(ow:List (cp×V))(tk:List iN)(m:List Pl)(p:Int)(_:vs=[.ref t,.int p])(_:eT P w K C H t od td n ow tk m)(_:Q ((bB ow (.inl p)).getD .non) H)
inductive Ah(P:Ol)(w:World)(K:Of)(C:Addr)(vs:List V)(H:Hp)(Q:VK)(_E:XK):Prop|mk(t od td:Addr)(n:Nat)(ow:List (cp×V))(tk:List iN)(m:List Pl)(k:cn)(kv:V)(_:vs=[.ref t,kv])(_:eT P w K C H t od td n ow tk m)(_:dw K H k kv)(_:∀(l:Addr)H',am H H'->H l=none->H' l=some (.lst ((bD m k).map V.int))->Q (.ref l) H')
inductive Jp(P:Ol)(w:World)(K:Of)(C:Addr)(vs:List V)(H:Hp)(Q:VK)(_E:XK):Prop|mk(t od td:Addr)(n:Nat)(ow:List (cp×V))(tk:List iN)(m:List Pl)(_:vs=[.ref t])(_:eT P w K C H t od td n ow tk m)(_:n<=1000)(_:∀(l:Addr)H',am H H'->H l=none->H' l=some (.lst ((gH n ow).map V.int))->Q (.ref l) H')
section
def tu(T:Txt K mg a):aT P w K mg base dq 1 a.et.x a.et.d ["self","many"] (Jl P w K a.bX):=by
 refine T.et.ok sR λF A outer s H L Q E M h=>?_
 ·obtain⟨t,dx,n,rfl,G,N,q⟩:=h;refine⟨_,(ah (cF K rfl (Y 0) (Y 1)) (ah (cF K rfl (Y 0) kA) (ai (cF K rfl (Y 0) (EE (P:=P) (w:=w)))))),?_⟩
  refine U rfl (U rfl ⟨t,_,dx,U rfl ⟨G,T.bG,T.n8,by decide,?_⟩⟩);have v:gz "many" (V.int n) []=([("many",V.int n)]:List (Str×V)):=rfl;rw[v];have i:aD H t (.ins a.bX dx [("many",V.int n)]) t=some (.ins a.bX dx [("many",V.int n)]):=af;have f1:∀b o,H b=some o->b≠t->aD H t (.ins a.bX dx [("many",V.int n)]) b=some o:=λb o e j=>by rw[ao j];exact e
  generalize aD H t (.ins a.bX dx [("many",V.int n)])=u at i f1⊢;refineλc g=>(U rfl ⟨t,_,dx,U rfl ⟨by rw[ao (aI i g)];exact i,T.bG,T.eI,by simp,?_⟩⟩);have y:gz "owners" (V.ref c) [("many",V.int n)]=([("many",V.int n),("owners",V.ref c)]:List (Str×V)):=rfl;rw[y];have B:c≠t:=λz=>by rw[z,i]at g;cases g
  have k:aD (aD u c (.dK [])) t (.ins a.bX dx [("many",V.int n),("owners",V.ref c)]) t=some (.ins a.bX dx [("many",V.int n),("owners",V.ref c)]):=af;have m:aD (aD u c (.dK [])) t (.ins a.bX dx [("many",V.int n),("owners",V.ref c)]) c=some (.dK []):=by rw[ao B];exact af
  have f2:∀b o,H b=some o->b≠t->aD (aD u c (.dK [])) t (.ins a.bX dx [("many",V.int n),("owners",V.ref c)]) b=some o:=λb o e j=>by rw[ao j,ao (λz=>by rw[<-z,f1 b o e j]at g;cases g)];exact f1 b o e j
  generalize aD (aD u c (.dK [])) t (.ins a.bX dx [("many",V.int n),("owners",V.ref c)])=O at k m f2⊢;refineλl f=>(U rfl ⟨t,_,dx,U rfl ⟨by rw[ao (aI k f)];exact k,T.bG,T.gF,by simp,?_⟩⟩);have C:gz "taken" (V.ref l) [("many",V.int n),("owners",V.ref c)]=([("many",V.int n),("owners",V.ref c),("taken",V.ref l)]:List (Str×V)):=rfl;rw[C];have D:l≠t:=λz=>by rw[z,k]at f;cases f
  have I:c≠l:=λz=>by rw[<-z,m]at f;cases f
  have p:H c=none:=by cases z:H c with|none=>rfl|some o=>rw[f1 c o z B]at g;cases g
  have r:H l=none:=by cases z:H l with|none=>rfl|some o=>rw[f2 l o z D]at f;cases f
  refine q c l _ p r (λb o e j=>?_) ⟨⟨dx,af⟩,by rw[ao B,ao I];exact m,by rw[ao D];exact af,λx J=>(by cases J),.nil⟩;rw[ao j,ao (λz=>by rw[<-z,f2 b o e j]at f;cases f)];exact f2 b o e j
def fY(T:Txt K mg a):aT P w K mg base dq 1 a.bF.x a.bF.d ["self","owner"] (Ah P w K a.bX):=by
 refine T.bF.ok on λv A outer s H F Q E y h=>?_
 ·obtain⟨t,G,z,n,ow,tk,m,k,kv,rfl,i,B,q⟩:=h;refine⟨_,(ai (aF (cV (oQ K rfl) (by rfl) T.xS L2.m7 (ac (ED (P:=P) (w:=w) K rfl (cN y) (aM K rfl (Y 0)) (Y 1) (bf O) ⟨rfl,rfl,rfl,rfl⟩) O)))),?_⟩;obtain⟨dx,C⟩:=i.ins;refine U rfl ⟨t,_,dx,_,U rfl ⟨C,T.bG,T.gF,rfl,z,tk,rfl,i.tak,U rfl ⟨ls rfl,λg j=>?_⟩⟩⟩;have e:=aj (o:=.lst []) (am.refl H) j;have c:aD H g (.lst []) g=some (.lst []):=af;generalize aD H g (.lst [])=I at e c⊢;have f:=i.same e;refine⟨tk,k,f.tak,f.keys,oH e B,?_⟩;rcases f.lsts.val k with⟨l,J,p,r,D⟩|⟨p,r⟩
  ·rw[p];refine⟨l,U rfl ⟨.inl (be.of D),λu b=>q u _ (aj e b) (e.free b) ?_⟩⟩;unfold bD;rw[r];exact af
  ·rw[p];refine⟨g,U rfl ⟨.inl (be.of c),λu b=>q u _ (aj e b) (e.free b) ?_⟩⟩;unfold bD;rw[r];exact af
def nW(T:Txt K mg a):aT P w K mg base dq 1 a.eh.x a.eh.d ["self"] (Jp P w K a.bX):=by
 refine T.eh.ok vM λp A outer s H y Q E r h=>?_
 ·obtain⟨t,z,B,n,ow,tk,m,rfl,j,hn,q⟩:=h;refine⟨_,(ai (aF (vC ["self"] ["place"] [] [1] (ak kX) (cG 1) (eK rfl T.fV (ac (aM K rfl (Y 0)) O)) (λcl C s₀ H₀ ex=>⟨(pT ["self"] ["place"] 1),(tS (ox (qX (cN r) (Y 1) (aM K rfl (Y 0))) rfl)),(Y 1)⟩)))),?_⟩
  obtain⟨dx,l⟩:=j.ins;refine U rfl ⟨t,_,dx,_,U rfl ⟨l,T.bG,T.n8,rfl,(n:Int),rfl,by lia,by lia,λD o=>?_⟩⟩;have g:∀b,am H (aD H D (.lst b)):=λb=>aj (am.refl _) o;refine gS (K:=K) (lo:=0) (n:=(n:Int).toNat) (λi b H'=>b=(gH i ow).map V.int/\H'=aD H D (.lst b)) ⟨rfl,rfl⟩ ?_ ?_
  ·rintro i b _ hi⟨rfl,rfl⟩;have u:((gH i ow).map V.int).length<=i:=by unfold gH;rw[b_,b_];exact kl (si _ _) (by rw[ol];exact fx _)
   have c:gH (i+1) ow=gH i ow++if(bB ow (.inl (i:Int))).isNone=true then[(i:Int)]else[]:=by
    unfold gH;rw[NI,NW,g6]
    congr 1
    by_cases e:(bB ow (.inl (i:Int))).isNone=true
    ·simp[e]
    ·simp[e]
   rw[show(0:Int)+(i:Int)=((i:Nat):Int)by lia];refine av (U rfl (U rfl ⟨t,_,dx,_,U rfl ⟨g _ _ _ l,T.bG,T.eI,rfl,rG _ (eE.k (k:=.inl (i:Int)) (g _ _ _ j.own)) (U rfl ?_)⟩⟩));have f:i<(n:Int).toNat:=hi;cases e:bB ow (.inl (i:Int))with|none=>refine bp (U rfl ⟨af,by rw[hH];lia,lf f ⟨?_,by rw[ie]⟩⟩);rw[c,e,g6];rfl|some v=>refine bN (lf f ⟨?_,rfl⟩);rw[c,e,g6];exact(u1 _).symm
  ·rintro b _⟨rfl,rfl⟩;have e:(n:Int).toNat=n:=by lia
   rw[e];exact q D _ (g _) o af
end
def FR(c:List V)(h:0<=i):wk c (some i) none=c.drop i.toNat:=by
 show(c.drop (if i<0 then(i+(c.length:Int)).toNat else min i.toNat c.length)).take (c.length-(if i<0 then(i+(c.length:Int)).toNat else min i.toNat c.length))=c.drop i.toNat;rw[g8 (by lia)];rcases Nat.le_total i.toNat c.length with b|b
 ·rw[Nat.min_eq_left b,iA (by rw[K_];lia)]
 ·rw[Nat.min_eq_right b,List.drop_eq_nil_of_le (fx _),List.drop_eq_nil_of_le b,List.take_nil]
def Ba(c:List V)(h:0<=i):wk c none (some i)=c.take i.toNat:=by
 show(c.drop 0).take ((if i<0 then(i+(c.length:Int)).toNat else min i.toNat c.length)-0)=c.take i.toNat;rw[g8 (by lia),List.drop_zero,Nat.sub_zero];rcases Nat.le_total i.toNat c.length with b|b
 ·rw[Nat.min_eq_left b]
 ·rw[Nat.min_eq_right b,iA (fx _),iA b]
def B9(c:List (cp×V))(k j:cp):bB (d0 c k) j=if j=k then none else bB c j:=by induction c with|nil=>split<;>rfl|cons p r f=>
  by_cases e:p.1=k
  ·rw[xa e,f]
   by_cases b:j=k
   ·rw[hA b,hA b]
   ·rw[g8 b,g8 b,bM (λz=>b (z.symm.trans e))]
  ·rw[xb e]
   by_cases d:p.1=j
   ·rw[cI d,g8 (λz=>e (d.trans z)),cI d]
   ·rw[bM d,f,bM d]
def tK(ow:List (cp×V))(c:Os):List (cp×V):=c.foldl (λo p=>d0 o (.inl p)) ow
def qO(c:Os):∀(ow:List (cp×V))(j:Int),bB (tK ow c) (.inl j)=if j∈c then none else bB ow (.inl j):=by induction c with|nil=>intro ow j;rw[g8 (by simp)];rfl|cons p r b=>
  intro ow j;show bB (tK (d0 ow (.inl p)) r) (.inl j)=_;rw[b,B9]
  by_cases h1:j∈r
  ·rw[hA h1,hA (hY _ h1)]
  ·rw[g8 h1]
   by_cases h2:j=p
   ·rw[hA (by rw[h2]),hA (by rw[h2];exact il)]
   ·rw[g8 (λz=>h2 (Sum.inl.inj z)),g8 (λz=>(q_.mp z).elim h2 h1)]
def mK(c d:Addr)(H H':Hp):Prop:=∀b o,H b=some o->b≠c->b≠d->H' b=some o
def mK.of(h:am H H'):mK c d H H':=λb o e _ _=>h b o e
def mK.trans(a:mK d e H f)(b:mK d e f g):mK d e H g:=λc o h h1 h2=>b c o (a c o h h1 h2) h1 h2
def mK.tp(h:mK c d H H')(h1:H c=some (.dK f))(h2:H d=some (.ext φ))(e:H b=some (.tup g)):H' b=some (.tup g):=h b _ e (λz=>by rw[z,h1]at e;cases e) (λz=>by rw[z,h2]at e;cases e)
def eL(h:mK c d H H')(h1:H c=some (.dK f))(h2:H d=some (.ext φ))(g:dw K H k v):dw K H' k v:=by exact fL ⟨λu i e=>h.tp h1 h2 e,λu o⟨b,e⟩=>⟨b,h u _ e (λz=>by rw[z,h1]at e;cases e) (λz=>by rw[z,h2]at e;cases e)⟩⟩ g
def fu.off(h:mK c d H H')(h1:H c=some (.dK f))(h2:H d=some (.ext φ))(t:fu H tk m):fu H' tk m:=Paired.mapP t λ_ _ q=>⟨q.1,q.2.1,q.2.2.imp λ_ e=>⟨e.1,h _ _ e.2 (λz=>by rw[z,h1]at e;cases e.2) (λz=>by rw[z,h2]at e;cases e.2)⟩⟩
def fu.put(d:H l=some (.lst (f.map V.int))):∀{tk:List iN}{m:List Pl},fu H tk m->fu H (gu tk k kv (.ref l)) (gu m k kv f):=by
 intro tk m h;have b:(fK tk k).isSome=(fK m k).isSome:=by rcases h.val k with⟨l,f,g,i,_⟩|⟨g,i⟩<;>rw[g,i]<;>rfl
 unfold gu;rw[b]
 split
 ·rename_i hc;clear b hc
  induction h with|nil=>exact .nil|@cons x y j n r t c=>
   refine .cons ?_ c;dsimp only;rw[<-r.1]
   by_cases e:x.1=k
   ·rw[hA e,hA e];exact⟨rfl,r.2.1,l,rfl,d⟩
   ·rw[g8 e,g8 e];exact r
 ·rename_i hc;clear b hc
  induction h with|nil=>exact .cons ⟨rfl,rfl,l,rfl,d⟩ .nil|cons r t c=>exact .cons r c
def fB(H:Hp)(tk c:List iN):Prop:=∀x∈c,(∃y∈tk,y.2.2=x.2.2)\/∃l,x.2.2=.ref l/\H l=none
def fB.put(c:H l=none):fB H tk (gu tk k kv (.ref l)):=by
 intro x b;unfold gu at b
 split at b
 ·obtain⟨y,d,rfl⟩:=ir.mp b
  split
  ·exact .inr ⟨l,rfl,c⟩
  ·exact .inl ⟨y,d,rfl⟩
 ·rcases List.mem_append.mp b with b|b
  ·exact .inl ⟨x,b,rfl⟩
  ·rw[List.mem_singleton.mp b];exact .inr ⟨l,rfl,c⟩
def qi(h:mK c d H H')(h1:H' c≠none)(h2:H' d≠none)(e:H' b=none):H b=none:=by cases z:H b with|none=>rfl|some o=>have:=h b o z (λq=>h1 (by rw[<-q];exact e)) (λq=>h2 (by rw[<-q];exact e));rw[e]at this;cases this
inductive Jo(P:Ol)(w:World)(K:Of)(C:Addr)(vs:List V)(H:Hp)(Q:VK)(_E:XK):Prop|mk(t od td:Addr)(n:Nat)(ow:List (cp×V))(tk:List iN)(m:List Pl)(k:cn)(kv:V)(num:Int)(_:vs=[.ref t,kv,.int num])(_:eT P w K C H t od td n ow tk m)(_:dw K H k kv)(_:0<=num)(_:tk.length<100000)(_:(∀p∈(bD m k).drop num.toNat,(bB ow (.inl p)).isSome=true))(_:(bD m k).Nodup)(_:∀(l:Addr)(tk':List iN)H',mK od td H H'->H l=none->H' l=some (.lst (((bD m k).drop num.toNat).reverse.map V.int))->tk'.length<=tk.length+1->fB H tk tk'->eT P w K C H' t od td n (tK ow ((bD m k).drop num.toNat).reverse) tk' (gu m k kv ((bD m k).take num.toNat))->Q (.ref l) H')
def zr(c:List (cn×d×e))(k:cn)(b:d)(v:e):(gu c k b v).length<=c.length+1:=by
 unfold gu
 split
 ·rw[b_];lia
 ·rw[gV];simp
def eR.put(h:eR K H tk)(d:dw K H k kv):eR K H (gu tk k kv v):=by
 unfold gu
 split
 ·intro x b;obtain⟨y,c,rfl⟩:=ir.mp b
  split
  ·exact h y c
  ·exact h y c
 ·intro x b;rcases List.mem_append.mp b with b|b
  ·exact h x b
  ·rw[List.mem_singleton.mp b];exact d
section
def oy(T:Txt K mg a):aT P w K mg base dq 2 a.cR.x a.cR.d ["self","owner","number"] (Jo P w K a.bX):=by
 refine T.cR.ok d9 λbT A outer s H vs Q E hr h=>?_
 ·obtain⟨t,M,u,n,ow,tk,m,k,kv,c,rfl,g,hk,N,bU,R,al,q⟩:=h;refine⟨_,(ah (bu 3 d9.nd (a9 (Y 0) T.bG T.bF.m ((fY (P:=P) (w:=w) T).mono (by decide)) hr T.bF.b .nil bE (ac (Y 1) O))) (ah (bu 4 d9.nd (At K rfl rfl (by rfl) T.xS (by rfl) T.AE (gC (uh K rfl) (Y 3) (iQ (Y 2)) iR))) (ah (fE nk rfl (fH K rfl (Y 4)) (vB 5 d9.nd) (ai (aO (yY (aM K rfl (Y 0)) (Y 5) ⟨rfl,rfl,rfl,rfl⟩)))) (ah (k9 (gC (uh K rfl) (Y 3) iR (iQ (Y 2))) (lc (aM K rfl (Y 0)) (Y 1) (El (P:=P) (w:=w) K rfl (cN hr)))) (ai (aF (Y 4))))))),?_⟩
  obtain⟨dx,hI⟩:=g.ins;refine jG hI rfl rfl (U rfl ⟨t,M,u,n,ow,tk,m,k,kv,rfl,g,hk,λlp H1 s1 b0 I=>av ?_⟩);have b7:=g.same s1;generalize bD m k=C at R al q I⊢;refine U rfl (U rfl ⟨c,rfl,lp,U rfl ⟨be.of I,λl2 an=>?_⟩⟩);rw[FR _ N,<-List.map_drop];have s2:=aj (o:=.lst ((C.drop c.toNat).map V.int)) s1 an;have S:aD H1 l2 (.lst ((C.drop c.toNat).map V.int)) l2=some (.lst ((C.drop c.toNat).map V.int)):=af;have D:aD H1 l2 (.lst ((C.drop c.toNat).map V.int)) lp=some (.lst (C.map V.int)):=by rw[ao (aI I an)];exact I
  generalize aD H1 l2 (.lst ((C.drop c.toNat).map V.int))=H2 at s2 S D⊢;refine⟨l2,U rfl ⟨be.of S,λW ad=>av ?_⟩⟩;rw[<-List.map_reverse];generalize ap:(C.drop c.toNat).reverse=bk at q⊢;have s3:=aj (o:=.lst (bk.map V.int)) s2 ad;have l:aD H2 W (.lst (bk.map V.int)) W=some (.lst (bk.map V.int)):=af;have F:aD H2 W (.lst (bk.map V.int)) lp=some (.lst (C.map V.int)):=by rw[ao (aI D ad)];exact D
  generalize aD H2 W (.lst (bk.map V.int))=H3 at s3 l F⊢;have r:=g.same s3;obtain⟨ag,J⟩:=r.ins;have a7:H W=none:=s2.free ad;have a8:bk.Nodup:=by rw[<-ap];exact(List.reverse_perm _).nodup_iff.mpr ((List.drop_sublist _ _).nodup al)
  have ba:∀p∈bk,(bB ow (.inl p)).isSome=true:=λp X=>R p (by rw[<-ap]at X;exact J_.mp X);have ne:∀{b:Addr}{o:HO},H3 b=some o->(∀bb,o≠.dK bb)->(∀φ,o≠.ext φ)->b≠M/\b≠u:=λe h1 h2=>⟨λz=>by rw[z,r.own]at e;cases e;exact h1 _ rfl,λz=>by rw[z,r.tak]at e;cases e;exact h2 _ rfl⟩;have G:=ne l (λ_ z=>nomatch z) (λ_ z=>nomatch z);have as:=ne F (λ_ z=>nomatch z) (λ_ z=>nomatch z);have nt:=ne J (λ_ z=>nomatch z) (λ_ z=>nomatch z);have ax:u≠M:=λz=>by have e:=r.tak;rw[z,r.own]at e;cases e
  refine U rfl ⟨W,rfl,⟨_,be.of l⟩,?_⟩;refine qB (xs:=bk.map V.int) (λi σ H'=>mK M u H3 H'/\H' M=some (.dK (tK ow (bk.take i)))/\H' u=some (dM P w u tk)/\∃v5,σ=[some (.ref t),some kv,some (.int c),some (.ref lp),some (.ref W),v5]) ⟨.of (am.refl _),r.own,r.tak,_,rfl⟩ (λi σ H' _ h=>be.of (h.1 _ _ l G.1 G.2)) ?_ ?_
  ·rintro i x σ H4 Z⟨L,f,y,v5,rfl⟩;have hi:i<bk.length:=by simpa using(d_.mp Z).1
   have X:bk[i]?=some bk[i]:=fy hi;rw[gg,X]at Z;generalize bk[i]=p at Z X;cases Z;have bc:p∉bk.take i:=λz=>by
    obtain⟨j,hj⟩:=h_.mp z;have bi:j<i:=by have:=(d_.mp hj).1;rw[ku]at this;lia
    rw[Np bi]at hj;have:=(Nm (d_.mp hj).1 a8).mp (hj.trans X.symm);lia
   obtain⟨v,hv⟩:=Es.mp (ba p (f_ X));have bl:bB (tK ow (bk.take i)) (.inl p)=some v:=by rw[qO,g8 bc];exact hv
   have hg:tK ow (bk.take (i+1))=d0 (tK ow (bk.take i)) (.inl p):=by unfold tK;rw[to,X,z0];rfl
   refine av (U rfl ⟨t,_,ag,_,U rfl ⟨L _ _ J nt.1 nt.2,T.bG,T.eI,rfl,M,rfl,.inl ⟨_,.inl f⟩,U rfl ⟨_,.inl p,v,f,rfl,bl,?_⟩⟩⟩);refine⟨λb o e h1 h2=>by rw[ao h1];exact L b o e h1 h2,by rw[hg];exact af,by rw[ao ax];exact y,_,rfl⟩
  ·rintro σ H4⟨L,f,y,v5,rfl⟩;rw[b_,iA (fx _)]at f;have a2:=L _ _ F as.1 as.2;refine U rfl (U rfl ⟨c,rfl,lp,U rfl ⟨be.of a2,λl5 a3=>?_⟩⟩);rw[Ba _ N,<-NT];have s5:=aj (o:=.lst ((C.take c.toNat).map V.int)) (am.refl H4) a3;have B:aD H4 l5 (.lst ((C.take c.toNat).map V.int)) l5=some (.lst ((C.take c.toNat).map V.int)):=af;generalize aD H4 l5 (.lst ((C.take c.toNat).map V.int))=H5 at s5 B⊢;have o5:mK M u H H5:=(mK.of s3).trans (L.trans (.of s5));have aa:=s5 _ _ y;have bt:=eL o5 g.own g.tak hk;have a5:eR K H5 tk:=λx Z=>eL o5 g.own g.tak (g.keys x Z);have n5:l5≠u:=λz=>by rw[z,aa]at B;cases B
   refine U rfl ⟨t,_,ag,_,U rfl ⟨s5 _ _ (L _ _ J nt.1 nt.2),T.bG,T.gF,rfl,U rfl ⟨u,tk,k,rfl,aa,a5,bt,by rw[hH];lia,U rfl ?_⟩⟩⟩;have o6:mK M u H (aD H5 u (dM P w u (gu tk k kv (.ref l5)))):=λb o e h1 h2=>by rw[ao h2];exact o5 b o e h1 h2
   have bz:aD H5 u (dM P w u (gu tk k kv (.ref l5))) l5=some (.lst ((C.take c.toNat).map V.int)):=by rw[ao n5];exact B
   have a6:H l5=none:=qi ((mK.of s3).trans L) (by rw[f];simp) (by rw[y];simp) a3;refine q W _ _ o6 a7 (by rw[ao G.2];exact s5 _ _ (L _ _ l G.1 G.2)) (zr _ _ _ _) (fB.put a6) ⟨⟨ag,by rw[ao nt.2];exact s5 _ _ (L _ _ J nt.1 nt.2)⟩,by rw[ao (m3 ax)];exact s5 _ _ f,af,?_,?_⟩
   ·exact eR.put (λx Z=>eL o6 g.own g.tak (g.keys x Z)) (eL o6 g.own g.tak hk)
   ·exact fu.put bz (g.lsts.off o6 g.own g.tak)
end
def mG(ow:List (cp×V))(kv:V)(c:Os):List (cp×V):=c.foldl (λo p=>fk o (.inl p) kv) ow
def t9(kv:V)(c:Os):∀(ow:List (cp×V))(j:Int),bB (mG ow kv c) (.inl j)=if j∈c then some kv else bB ow (.inl j):=by induction c with|nil=>intro ow j;rw[g8 (by simp)];rfl|cons p r b=>
  intro ow j;show bB (mG (fk ow (.inl p) kv) kv r) (.inl j)=_;rw[b,Dx]
  by_cases h1:j∈r
  ·rw[hA h1,hA (hY _ h1)]
  ·rw[g8 h1]
   by_cases h2:j=p
   ·rw[hA (by rw[h2]),hA (by rw[h2];exact il)]
   ·rw[g8 (λz=>h2 (Sum.inl.inj z)),g8 (λz=>(q_.mp z).elim h2 h1)]
def w4(kv:V)(c:Os):∀(ow:List (cp×V)),(mG ow kv c).length<=ow.length+c.length:=by induction c with|nil=>intro ow;exact fx _|cons p r b=>intro ow;have h1:=b (fk ow (.inl p) kv);have h2:=mD ow (.inl p) kv;show(mG (fk ow (.inl p) kv) kv r).length<=_;rw[k4];lia
def AX(n:Nat)(ow:List (cp×V)):(gH n ow).length<=n:=by unfold gH;rw[b_];exact kl (si _ _) (by rw[ol];exact fx _)
inductive Ja(P:Ol)(w:World)(K:Of)(C:Addr)(vs:List V)(H:Hp)(Q:VK)(_E:XK):Prop|mk(t od td:Addr)(n:Nat)(ow:List (cp×V))(tk:List iN)(m:List Pl)(k:cn)(kv:V)(num:Int)(_:vs=[.ref t,kv,.int num])(_:eT P w K C H t od td n ow tk m)(_:dw K H k kv)(_:n<=1000)(_:((bD m k).length:Int)<=num)(_:(bD m k).length<=1000000)(_:tk.length<100000)(_:ow.length<1000000)(_:∀(tk':List iN)H',mK od td H H'->tk'.length<=tk.length+1->fB H tk tk'->eT P w K C H' t od td n (mG ow kv ((gH n ow).take (num-(bD m k).length).toNat)) tk' (gu m k kv (bD m k++(gH n ow).take (num-(bD m k).length).toNat))->Q .non H')
section
def vY(T:Txt K mg a):aT P w K mg base dq 2 a.f9.x a.f9.d ["self","owner","number"] (Ja P w K a.bX):=by
 refine T.f9.ok io λbi A outer s H vs Q E hr h=>?_
 ·obtain⟨t,C,j,n,ow,tk,m,k,kv,D,rfl,c,hk,hn,X,a3,bl,bt,q⟩:=h;refine⟨_,(ah (bu 3 io.nd (a9 (Y 0) T.bG T.bF.m ((fY (P:=P) (w:=w) T).mono (by decide)) hr T.bF.b .nil bE (ac (Y 1) O))) (ah (bu 4 io.nd (gC (uh K rfl) (pU (Y 0) T.bG T.eh.m ((nW (P:=P) (w:=w) T).mono (by decide)) hr T.eh.b .nil bE) iR (iQ (az fF (Y 2) (au (aJ K rfl) (by rfl) T.bx L2.aL (ac (Y 3) O)))))) (ah (fE nk rfl (fH K rfl (Y 4)) (vB 5 io.nd) (ai (k9 (Y 1) (lc (aM K rfl (Y 0)) (Y 5) (qT (cN hr)))))) (ai (k9 (az Aw (Y 3) (Y 4)) (lc (aM K rfl (Y 0)) (Y 1) (El (P:=P) (w:=w) K rfl (cN hr)))))))),?_⟩
  obtain⟨dx,hI⟩:=c.ins;refine jG hI rfl rfl (U rfl ⟨t,C,j,n,ow,tk,m,k,kv,rfl,c,hk,λlp H1 s1 bz Z=>av ?_⟩);have a5:=c.same s1;generalize bD m k=B at X a3 q Z⊢;refine jG (s1 _ _ hI) rfl rfl ⟨t,C,j,n,ow,tk,m,rfl,a5,hn,λa6 H2 s2 bT aa=>?_⟩;have a7:=AX n ow;generalize gH n ow=fs at a7 aa q;have v:=s2 _ _ Z;refine U rfl (U rfl ⟨_,B.length,rfl,.inl ⟨_,be.of v,by rw[b_]⟩,D,(B.length:Int),rfl,rfl,D-(B.length:Int),rfl,a6,U rfl ⟨be.of aa,λN ad=>av ?_⟩⟩);rw[Ba _ (by omega),<-NT];generalize a8:fs.take (D-(B.length:Int)).toNat=mo at q⊢;have bU:mo.length<=1000:=by rw[<-a8,ku];omega
  have s3:=aj (o:=.lst (mo.map V.int)) (s1.trans s2) ad;have f:aD H2 N (.lst (mo.map V.int)) N=some (.lst (mo.map V.int)):=af;have y:aD H2 N (.lst (mo.map V.int)) lp=some (.lst (B.map V.int)):=by rw[ao (aI v ad)];exact v
  generalize aD H2 N (.lst (mo.map V.int))=H3 at s3 f y⊢;have l:=c.same s3;obtain⟨R,F⟩:=l.ins;have ne:∀{b:Addr}{o:HO},H3 b=some o->(∀ba,o≠.dK ba)->(∀φ,o≠.ext φ)->b≠C/\b≠j:=λe h1 h2=>⟨λz=>by rw[z,l.own]at e;cases e;exact h1 _ rfl,λz=>by rw[z,l.tak]at e;cases e;exact h2 _ rfl⟩;have G:=ne f (λ_ z=>nomatch z) (λ_ z=>nomatch z);have ag:=ne y (λ_ z=>nomatch z) (λ_ z=>nomatch z);have S:=ne F (λ_ z=>nomatch z) (λ_ z=>nomatch z);have al:j≠C:=λz=>by have e:=l.tak;rw[z,l.own]at e;cases e
  refine U rfl ⟨N,rfl,⟨_,be.of f⟩,?_⟩;refine qB (xs:=mo.map V.int) (λi σ H'=>mK C j H3 H'/\H' C=some (.dK (mG ow kv (mo.take i)))/\H' j=some (dM P w j tk)/\∃v5,σ=[some (.ref t),some kv,some (.int D),some (.ref lp),some (.ref N),v5]) ⟨.of (am.refl _),l.own,l.tak,_,rfl⟩ (λi σ H' _ h=>be.of (h.1 _ _ f G.1 G.2)) ?_ ?_
  ·rintro i x σ H4 J⟨I,g,r,v5,rfl⟩;have hi:i<mo.length:=by simpa using(d_.mp J).1
   have hp:mo[i]?=some mo[i]:=fy hi;rw[gg,hp]at J;generalize mo[i]=p at J hp;cases J;have hg:mG ow kv (mo.take (i+1))=fk (mG ow kv (mo.take i)) (.inl p) kv:=by unfold mG;rw[to,hp,z0];rfl
   have b0:=w4 kv (mo.take i) ow;have b7:=List.length_take_le i mo;refine av (U rfl (U rfl ⟨t,_,R,_,U rfl ⟨I _ _ F S.1 S.2,T.bG,T.eI,rfl,U rfl ⟨C,_,.inl p,rfl,rfl,g,by rw[hH];omega,?_⟩⟩⟩));refine⟨λb o e h1 h2=>by rw[ao h1];exact I b o e h1 h2,by rw[hg];exact af,by rw[ao al];exact r,_,rfl⟩
  ·rintro σ H4⟨I,g,r,v5,rfl⟩;rw[b_,iA (fx _)]at g;have an:=I _ _ y ag.1 ag.2;have ap:=I _ _ f G.1 G.2;refine U rfl (U rfl ⟨lp,N,_,U rfl ⟨rfl,an,ap,by rw[b_,b_,hH];omega,λL as=>?_⟩⟩);rw[<-g6];have W:=aj (o:=.lst ((B++mo).map V.int)) (am.refl H4) as;have u:aD H4 L (.lst ((B++mo).map V.int)) L=some (.lst ((B++mo).map V.int)):=af;generalize aD H4 L (.lst ((B++mo).map V.int))=H5 at W u⊢;have o5:mK C j H H5:=(mK.of s3).trans (I.trans (.of W));have M:=W _ _ r;have bb:=eL o5 c.own c.tak hk;have ax:eR K H5 tk:=λx J=>eL o5 c.own c.tak (c.keys x J);have n5:L≠j:=λz=>by rw[z,M]at u;cases u
   refine U rfl ⟨t,_,R,_,U rfl ⟨W _ _ (I _ _ F S.1 S.2),T.bG,T.gF,rfl,U rfl ⟨j,tk,k,rfl,M,ax,bb,by rw[hH];omega,?_⟩⟩⟩;have o6:mK C j H (aD H5 j (dM P w j (gu tk k kv (.ref L)))):=λb o e h1 h2=>by rw[ao h2];exact o5 b o e h1 h2
   have bc:aD H5 j (dM P w j (gu tk k kv (.ref L))) L=some (.lst ((B++mo).map V.int)):=by rw[ao n5];exact u
   have a2:H L=none:=qi ((mK.of s3).trans I) (by rw[g];simp) (by rw[r];simp) as;refine q _ _ o6 (zr _ _ _ _) (fB.put a2) ⟨⟨R,by rw[ao S.2];exact W _ _ (I _ _ F S.1 S.2)⟩,by rw[ao (m3 al)];exact W _ _ g,af,?_,?_⟩
   ·exact eR.put (λx J=>eL o6 c.own c.tak (c.keys x J)) (eL o6 c.own c.tak hk)
   ·exact fu.put bc (c.lsts.off o6 c.own c.tak)
end
structure AS where
 pl:cn->List Int
 oc:Int->Bool
def qA(n:Nat)(oc:Int->Bool):List Int:=((List.range n).filter λ(i:Nat)=>!oc (i:Int)).map λ(i:Nat)=>(i:Int)
def AS.give(s:AS)(k:cn)(c:Nat):AS:=⟨λj=>if j=k then(s.pl k).take c else s.pl j,λp=>if p∈(s.pl k).drop c then false else s.oc p⟩
def AS.took(s:AS)(n:Nat)(k:cn)(c:Nat):AS:=⟨λj=>if j=k then s.pl k++(qA n s.oc).take (c-(s.pl k).length)else s.pl j,λp=>if p∈(qA n s.oc).take (c-(s.pl k).length)then true else s.oc p⟩
structure AS.Ok(n:Nat)(s:AS):Prop where
 in_:∀k p,p∈s.pl k->0<=p/\p<n/\s.oc p=true
 dj:∀k j p,p∈s.pl k->p∈s.pl j->k=j
 nd:∀k,(s.pl k).Nodup
def AS.new:AS:=⟨λ_=>[],λ_=>false⟩
def AS.new_ok(n:Nat):AS.new.Ok n:=⟨λ_ _ h=>(nomatch h),λ_ _ _ h=>(nomatch h),λ_=>Nd⟩
def HG:p∈qA n oc↔0<=p/\p<n/\oc p=false:=by
 unfold qA;rw[ir]
 constructor
 ·rintro⟨i,hi,rfl⟩;obtain⟨h1,h2⟩:=pa.mp hi;have:=oi.mp h1;exact⟨by omega,by omega,by simpa using h2⟩
 ·rintro⟨h1,h2,h3⟩;refine⟨p.toNat,pa.mpr ⟨oi.mpr (by omega),?_⟩,by omega⟩;rw[show((p.toNat:Nat):Int)=p by omega,h3];rfl
def Kb(n:Nat)(oc:Int->Bool):(qA n oc).Nodup:=by unfold qA;rw[z5,N2];exact(z5.mp (List.filter_sublist.nodup List.nodup_range)).imp λh=>by omega
def Kc(n:Nat)(oc:Int->Bool):(qA n oc).length<=n:=by unfold qA;rw[b_];exact kl (si _ _) (by rw[ol];exact fx _)
theorem AS.Ok.give{n:Nat}{s:AS}(h:s.Ok n)(k:cn)(c:Nat):(s.give k c).Ok n:=by
 have f:∀p,p∈(s.pl k).take c->p∉(s.pl k).drop c:=λp h1 h2=>by have:=h.nd k;rw[<-sg c (s.pl k),o8]at this;exact this.2.2 p h1 p h2 rfl
 have sub:∀j p,p∈(s.give k c).pl j->p∈s.pl j:=λj p d=>by
  have d:p∈(if j=k then(s.pl k).take c else s.pl j):=d
  split at d
  ·rename_i e;rw[e];exact M3 d
  ·exact d
 refine⟨λj p d=>?_,λj i p h1 h2=>h.dj j i p (sub j p h1) (sub i p h2),λj=>?_⟩
 ·obtain⟨a,b,e⟩:=h.in_ j p (sub j p d);refine⟨a,b,?_⟩;show(if p∈(s.pl k).drop c then false else s.oc p)=true;rw[g8,e];intro z;have d:p∈(if j=k then(s.pl k).take c else s.pl j):=d
  split at d
  ·exact f p d z
  ·rename_i g;exact g (h.dj j k p d (List.mem_of_mem_drop z))
 ·show(if j=k then(s.pl k).take c else s.pl j).Nodup
  split
  ·exact(Nk _ _).nodup (h.nd k)
  ·exact h.nd j
theorem AS.Ok.took{n:Nat}{s:AS}(h:s.Ok n)(k:cn)(c:Nat):(s.took n k c).Ok n:=by
 have fr:∀p∈(qA n s.oc).take (c-(s.pl k).length),0<=p/\p<n/\s.oc p=false:=λp f=>HG.mp (M3 f);have g:((qA n s.oc).take (c-(s.pl k).length)).Nodup:=(Nk _ _).nodup (Kb _ _);unfold AS.took;generalize(qA n s.oc).take (c-(s.pl k).length)=mo at fr g;have d:∀j p,p∈(if j=k then s.pl k++mo else s.pl j)->p∈s.pl j\/(j=k/\p∈mo):=λj p f=>by
  split at f
  ·rename_i e;rcases List.mem_append.mp f with z|z
   ·rw[e];exact .inl z
   ·exact .inr ⟨e,z⟩
  ·exact .inl f
 refine⟨λj p f=>?_,λj i p h1 h2=>?_,λj=>?_⟩
 ·show 0<=p/\p<n/\(if p∈mo then true else s.oc p)=true;rcases d j p f with z|⟨_,z⟩
  ·obtain⟨a,b,e⟩:=h.in_ j p z;refine⟨a,b,?_⟩
   split
   ·rfl
   ·exact e
  ·exact⟨(fr p z).1,(fr p z).2.1,by rw[hA z]⟩
 ·rcases d j p h1 with z|⟨l,z⟩<;>rcases d i p h2 with y|⟨m,y⟩
  ·exact h.dj j i p z y
  ·have:=(h.in_ j p z).2.2;rw[(fr p y).2.2]at this;cases this
  ·have:=(h.in_ i p y).2.2;rw[(fr p z).2.2]at this;cases this
  ·rw[l,m]
 ·show(if j=k then s.pl k++mo else s.pl j).Nodup
  split
  ·rw[o8];refine⟨h.nd k,g,λa o b q z=>?_⟩;subst z;have h1:=(h.in_ k a o).2.2;rw[(fr a q).2.2]at h1;cases h1
  ·exact h.nd j
abbrev Wl:=List (cn×Int)
def cO(s:AS)(W:Wl):AS:=W.foldl (λs x=>s.give x.1 x.2.toNat) s
def dY:AS->Wl->List Int|_,[]=>[]|s,x::r=>((s.pl x.1).drop x.2.toNat).reverse++dY (s.give x.1 x.2.toNat) r
def dC(n:Nat)(s:AS)(W:Wl):AS:=W.foldl (λs x=>s.took n x.1 x.2.toNat) s
def jK(s:AS)(W:Wl):Int:=(W.map λx=>x.2-((s.pl x.1).length:Int)).sum
def x8(s:AS)(W:Wl)(x:cn×Int):cO s (W++[x])=(cO s W).give x.1 x.2.toNat:=by unfold cO;rw[z0];rfl
theorem qG:∀(W:Wl)(s:AS)(x:cn×Int),dY s (W++[x])=dY s W++(((cO s W).pl x.1).drop x.2.toNat).reverse|[],s,x=>by show _++[]=[]++_;rw[u1,List.nil_append];rfl|y::r,s,x=>by show _++dY _ (r++[x])=(_++dY _ r)++_;rw[qG r,No];rfl
def xu(n:Nat)(s:AS)(W:Wl)(x:cn×Int):dC n s (W++[x])=(dC n s W).took n x.1 x.2.toNat:=by unfold dC;rw[z0];rfl
theorem jk{n:Nat}:∀(W:Wl){s:AS},s.Ok n->(cO s W).Ok n|[],_,h=>h|x::r,_,h=>jk r (h.give x.1 x.2.toNat)
theorem kR{n:Nat}:∀(W:Wl){s:AS},s.Ok n->(dC n s W).Ok n|[],_,h=>h|x::r,_,h=>kR r (h.took x.1 x.2.toNat)
def AD(s:AS)(x:cn×Int)(W:Wl):jK s (x::W)=(x.2-((s.pl x.1).length:Int))+jK s W:=by unfold jK;rw[lm,List.sum_cons]
def xR{n:Nat}{c:Os}(h:c.Nodup)(d:∀p∈c,0<=p/\p<n):c.length<=n:=by
 have:=EO (l:=c) (m:=(List.range n).map λ(i:Nat)=>(i:Int)) h λp b=>by obtain⟨h1,h2⟩:=d p b;exact ir.mpr ⟨p.toNat,oi.mpr (by omega),by omega⟩
 rw[b_,ol]at this;exact this
def Kr(K:Of)(H:Hp)(c:List V)(W:Wl):Prop:=Paired (λ(v:V)(x:cn×Int)=>∃b kv,v=.ref b/\bj K H b [kv,.int x.2]/\dw K H x.1 kv) c W
def Kr.get(h:Kr K H c W)(i:Nat)(v:V)(e:c[i]?=some v):∃x,W[i]?=some x/\∃b kv,v=.ref b/\bj K H b [kv,.int x.2]/\dw K H x.1 kv:=Paired.at_ h i v e
def EL(h:mK d f H H')(h1:H d=some (.dK g))(h2:H f=some (.ext φ))(e:bj K H b c):bj K H' b c:=by have kp:Kp H H':=⟨λu c e=>h.tp h1 h2 e,λu o⟨i,e⟩=>⟨i,h u _ e (λz=>by rw[z,h1]at e;cases e) (λz=>by rw[z,h2]at e;cases e)⟩⟩;exact kp.tq e
def eT.list(h:eT P w K C H t i j n ow tk m)(d:H c=some (.lst bs))(f:∀x∈tk,x.2.2≠.ref c):eT P w K C (aD H c (.lst cs)) t i j n ow tk m:=by
 obtain⟨dx,b⟩:=h.ins;have kp:Kp H (aD H c (.lst cs)):=.lst d;refine⟨⟨dx,by rw[ao (λz=>by rw[z,d]at b;cases b)];exact b⟩,by rw[ao (λz=>by have e:=h.own;rw[z,d]at e;cases e)];exact h.own,by rw[ao (λz=>by have e:=h.tak;rw[z,d]at e;cases e)];exact h.tak,λx k=>?_,?_⟩
 ·exact fL kp (h.keys x k)
 ·have go:∀{tk:List iN}{m:List Pl},fu H tk m->(∀x∈tk,x.2.2≠.ref c)->fu (aD H c (.lst cs)) tk m:=by
   intro tk m h f
   induction h with|nil=>exact .nil|@cons x y v A r t o=>obtain⟨p,q,l,g,s⟩:=r;refine .cons ⟨p,q,l,g,?_⟩ (o λz u=>f z (hY _ u));rw[ao (λz=>f x il (by rw[g,z]))];exact s
  exact go h.lsts f
theorem fu.at_(h:fu H tk m)(i:Nat)(x:iN)(e:tk[i]?=some x):∃y:Pl,m[i]?=some y/\∃l,x.2.2=.ref l/\H l=some (.lst (y.2.2.map V.int)):=(Paired.at_ h i x e).imp λ_ q=>⟨q.1,q.2.2.2⟩
def Fx(c:Os):∀(ow:List (cp×V)),(tK ow c).length<=ow.length:=by induction c with|nil=>intro ow;exact fx _|cons p r b=>intro ow;exact kl (b _) (zH ow (.inl p))
def Fc(f:List (cn×g×h))(k j:cn)(b:g)(v:h):fK (gu f k b v) j=if j=k then some v else fK f j:=by
 have d:∀c:List (cn×g×h),fK (c.map λy=>if y.1=k then(y.1,y.2.1,v)else y) j=(fK c j).map λx=>if j=k then v else x:=by
  intro c
  induction c with|nil=>rfl|cons z r m=>
   unfold fK at m⊢;rw[lm,pw,pw];have i:(if z.1=k then(z.1,z.2.1,v)else z).1=z.1:=by split<;>rfl
   rw[i]
   by_cases e:z.1=j
   ·rw[ji e];show some (if z.1=k then(z.1,z.2.1,v)else z).2.2=some (if j=k then v else z.2.2);rw[e]
    split<;>rfl
   ·rw[i_ e];exact m
 have l:∀c:List (cn×g×h),fK c k=none->fK (c++[(k,b,v)]) j=if j=k then some v else fK c j:=by
  intro c i;unfold fK at i⊢;rw[List.find?_append]
  by_cases e:j=k
  ·subst e;rw[hA rfl,Option.map_eq_none_iff.mp i];simp
  ·rw[g8 e];have:List.find? (λy:cn×g×h=>decide (y.1=j)) [(k,b,v)]=none:=by simp[m3 e]
   rw[this,Option.or_none]
 unfold gu
 by_cases hc:(fK f k).isSome=true
 ·rw[hA hc,d]
  by_cases e:j=k
  ·subst e;obtain⟨x,n⟩:=Es.mp hc;rw[n,hA rfl];simp
  ·rw[g8 e];simp[e]
 ·rw[g8 hc];exact l f (by simpa using hc)
def jw(n:Nat)(s:AS)(ow:List (cp×V))(m:List Pl):Prop:=(∀k,bD m k=s.pl k)/\∀p:Int,0<=p->p<n->(bB ow (.inl p)).isSome=s.oc p
def iS(m:List Pl)(k j:cn)(kv:V)(c:Os):bD (gu m k kv c) j=if j=k then c else bD m j:=by
 unfold bD;rw[Fc]
 split<;>rfl
def jw.free(h:jw n s ow m):gH n ow=qA n s.oc:=by
 unfold gH qA
 congr 1
 refine List.filter_congr λi hi=>?_;have:=oi.mp hi;rw[<-h.2 i (by omega) (by omega)];cases bB ow (.inl (i:Int))<;>rfl
theorem jw.give(h:jw n s ow m)(k:cn)(kv:V)(c:Nat):jw n (s.give k c) (tK ow ((s.pl k).drop c).reverse) (gu m k kv ((s.pl k).take c)):=by
 refine⟨λj=>?_,λp d e=>?_⟩
 ·rw[iS,h.1];rfl
 ·rw[qO];show _=if p∈(s.pl k).drop c then false else s.oc p
  by_cases b:p∈(s.pl k).drop c
  ·rw[hA b,hA (J_.mpr b)];rfl
  ·rw[g8 b,g8 (λz=>b (J_.mp z))];exact h.2 p d e
theorem jw.took(h:jw n s ow m)(k:cn)(kv:V)(c:Nat):jw n (s.took n k c) (mG ow kv ((qA n s.oc).take (c-(s.pl k).length))) (gu m k kv (s.pl k++(qA n s.oc).take (c-(s.pl k).length))):=by
 refine⟨λj=>?_,λp b d=>?_⟩
 ·rw[iS,h.1];rfl
 ·rw[t9];show _=if p∈(qA n s.oc).take (c-(s.pl k).length)then true else s.oc p
  split
  ·rfl
  ·exact h.2 p b d
def fB.refl(H:Hp)(tk:List iN):fB H tk tk:=λx b=>.inl ⟨x,b,rfl⟩
theorem fB.trans(a:fB H tk c)(b:fB i c d)(h:∀l,i l=none->H l=none):fB H tk d:=λx j=>by
 rcases b x j with⟨y,k,e⟩|⟨l,e,f⟩
 ·rcases a y k with⟨z,m,g⟩|⟨l,g,f⟩
  ·exact .inl ⟨z,m,g.trans e⟩
  ·exact .inr ⟨l,e▸g,f⟩
 ·exact .inr ⟨l,e,h l f⟩
def gx{c:Type}{l:List c}{i:Nat}{x:c}(h:l[i]?=some x):l.take (i+1)=l.take i++[x]:=by rw[to,h];rfl
theorem sL{n:Nat}:∀(W:Wl){s:AS},s.Ok n->(dY s W).length<=n*W.length|[],_,_=>j_ _|x::r,s,h=>by show(_++dY _ r).length<=n*(r.length+1);have c:=sL r (h.give x.1 x.2.toNat);have h1:=xR (h.nd x.1) λp b=>⟨(h.in_ x.1 p b).1,(h.in_ x.1 p b).2.1⟩;rw[gV,Na,K_,Nat.mul_add,Nat.mul_one];lia
def rE{K:Of}{a:Addr}{xs:List V}{g:TG}{tb:TS}{D:jq}{c:St}{H:Hp}(Pv:Nat->St->Hp->Prop)(h0:Pv 0 c H)(f:∀i c H,i<=xs.length->Pv i c H->be K H a xs)(h:∀i x c H,xs[i]?=some x->Pv i c H->∀(N:St->Hp->Prop)(R:VK)(B:St->Hp->Prop),(∀c H,Pv (i+1) c H->N c H)->g x c H λd j=>tb ⟨N,R,B,N⟩ d j)(hd:∀c H,Pv xs.length c H->D.nx c H):=qB (K:=K) (a:=a) (g:=g) (tb:=tb) (D:=D) Pv h0 f (λi x c H e p=>h i x c H e p _ D.rt _ λ_ _ q=>q) hd
def vD(R:cn->V->Prop)(n:Nat)(s:AS)(ow:List (cp×V)):Prop:=∀(p:Int)(v:V),0<=p->p<n->bB ow (.inl p)=some v->∃k,p∈s.pl k/\R k v
theorem vD.give(h:vD R n s ow)(k:cn)(c:Nat):vD R n (s.give k c) (tK ow ((s.pl k).drop c).reverse):=by
 intro p v d f e;rw[qO]at e
 split at e
 ·cases e
 ·rename_i g;obtain⟨j,b,r⟩:=h p v d f e;refine⟨j,?_,r⟩;show p∈if j=k then(s.pl k).take c else s.pl j
  split
  ·rename_i i;rw[i,<-sg c (s.pl k),List.mem_append]at b;exact b.resolve_right λz=>g (J_.mpr z)
  ·exact b
theorem vD.took(h:vD R n s ow)(k:cn)(d:R k kv)(c:Nat):vD R n (s.took n k c) (mG ow kv ((qA n s.oc).take (c-(s.pl k).length))):=by
 intro p v f g e;rw[t9]at e
 split at e
 ·rename_i i;cases e;refine⟨k,?_,d⟩;show p∈if k=k then s.pl k++(qA n s.oc).take (c-(s.pl k).length)else s.pl k
  rw[hA rfl];exact l_ _ i
 ·obtain⟨j,b,r⟩:=h p v f g e;refine⟨j,?_,r⟩;show p∈if j=k then s.pl k++(qA n s.oc).take (c-(s.pl k).length)else s.pl j
  split
  ·rename_i l;rw[l]at b;exact vr _ b
  ·exact b
def vD.mono(h:vD R n s ow)(f:∀k v,R k v->c k v):vD c n s ow:=λp v b d e=>let⟨k,h1,h2⟩:=h p v b d e;⟨k,h1,f k v h2⟩
inductive DP(P:Ol)(w:World)(K:Of)(C N:Addr)(vs:List V)(H:Hp)(Q:VK)(E:XK):Prop|mk(t od td wl:Addr)(n:Nat)(ow:List (cp×V))(tk:List iN)(m:List Pl)(S:AS)(W:Wl)(ts:List V)(_:vs=[.ref t,.ref wl])(_:eT P w K C H t od td n ow tk m)(_:jw n S ow m)(_:vD (dw K H) n S ow)(_:S.Ok n)(_:H wl=some (.lst ts))(_:Kr K H ts W)(_:(∀x∈W,0<=x.2))(_:(W.map (·.1)).Nodup)(_:W.length<=5)(_:n<=1000)(_:tk.length<=5000)(_:ow.length<=500000)(_:(jK S W<=((qA n S.oc).length:Int)->∀(l:Addr)(ow':List (cp×V))(tk':List iN)(m':List Pl)H',mK od td H H'->eT P w K C H' t od td n ow' tk' m'->jw n (dC n (cO S W) W) ow' m'->vD (dw K H) n (dC n (cO S W) W) ow'->H l=none->H' l=some (.lst ((dY S W).map V.int))->fB H tk tk'->(∀x∈tk',x.2.2≠.ref l)->tk'.length<=tk.length+10->ow'.length<=ow.length+5000->Q (.ref l) H'))(_:(((qA n S.oc).length:Int)<jK S W->∀H',am H H'->E (.ref N) none H'))
section
def nV(T:Txt K mg a):aT P w K mg base (lP P w) 3 a.eg.x a.eg.d ["self","wanted"] (DP P w K a.bX a.hE):=by
 refine T.eg.okE dN λeq A outer s H vs Q E hr h=>?_
 ·obtain⟨t,od,td,wl,n,ow,tk,m,S,W,ts,rfl,hT,hS,hR,hO,b8,hW,c0,ea,er,hn,es,ev,q,qe⟩:=h;refine⟨_,(ah (bu 2 dN.nd (au (Dj K rfl rfl) (by rfl) T.Lz L2.F0 (ac (vC iZ [] [4,5] [4,5] (ak kW) (x6 _ 4 5) (fH K rfl (Y 1)) (λcl C s₀ H₀ ex=>⟨(iV K rfl rfl (cg (pT iZ [] 4) (cg (pT iZ [] 5) iU))),cE,(az fF (Y 5) (au (aJ K rfl) (by rfl) T.bx L2.aL (ac (a9 (Y 0) T.bG T.bF.m ((fY (P:=P) (w:=w) T).mono (by decide)) hr T.bF.b .nil bE (ac (Y 4) O)) O)))⟩)) O))) (ah (aP (aH lG (Y 2) (au (aJ K rfl) (by rfl) T.bx L2.aL (ac (pU (Y 0) T.bG T.eh.m ((nW (P:=P) (w:=w) T).mono (by decide)) hr T.eh.b .nil bE) O)) (aG _)) (ai (kx T.w6 rfl T.u9 rfl kr (ac aB O))) aE) (ah (bu 3 dN.nd (bf O)) (ah (PS.nox (fE nk rfl (fH K rfl (Y 1)) (iV K rfl rfl (cg (vB 4 dN.nd) (cg (vB 5 dN.nd) iU))) (ai (aO (jd K rfl PySem.F.plainAttrs_list PySem.F.slot_list_extend PySem.F.type_list_extend wQ (Y 3) (ac (a9 (Y 0) T.bG T.cR.m ((oy (P:=P) (w:=w) T).mono (by decide)) hr T.cR.b .nil bE (ac (Y 4) (ac (Y 5) O))) O)))))) (ah (PS.nox (fE nk rfl (fH K rfl (Y 1)) (iV K rfl rfl (cg (vB 4 dN.nd) (cg (vB 5 dN.nd) iU))) (ai (aO (a9 (Y 0) T.bG T.f9.m ((vY (P:=P) (w:=w) T).mono (by decide)) hr T.f9.b .nil bE (ac (Y 4) (ac (Y 5) O))))))) (ai (aF (Y 3)))))))),?_⟩
  obtain⟨dx,hI⟩:=hT.ins;have eb:ts.length=W.length:=Paired.length hW;refine U rfl ⟨wl,rfl,⟨_,be.of b8⟩,λD hD=>?_⟩;refine mZ (K:=K) (a:=wl) (xs:=ts) (λi a3 H'=>am H H'/\H' D=some (.lst a3)/\a3=((W.take i).map λx=>x.2-((S.pl x.1).length:Int)).map V.int) ⟨aj (am.refl _) hD,af,rfl⟩ (λi a3 H' _ h=>be.of (h.1 _ _ b8)) ?_ ?_
  ·rintro i v a3 H1 hv⟨s1,bc,rfl⟩;have hi:i<ts.length:=(d_.mp hv).1;obtain⟨x,hx,b,kv,rfl,hb,hk⟩:=hW.get i v hv;refine⟨b,U rfl ⟨am.tseq s1 hb,rfl,_,U rfl (av ⟨_,U rfl (av ⟨rfl,ju (bp ?_)⟩)⟩)⟩⟩;refine U rfl (jG (s1 _ _ hI) rfl rfl (U rfl ⟨t,od,td,n,ow,tk,m,x.1,kv,rfl,hT.same s1,oH s1 hk,λlp H2 s2 ew ec=>?_⟩));refine⟨_,U rfl ⟨.inl ⟨_,be.of ec,rfl⟩,_,U rfl ⟨rfl,s2 _ _ bc,by rw[b_,b_,ku,hH];lia,lf hi ⟨bV (s1.trans s2) hD,af,?_⟩⟩⟩⟩;rw[gx hx,g6,g6,hS.1,b_];rfl
  ·rintro a3 H1⟨s1,bc,rfl⟩;rw[iA (by lia)]at bc;refine⟨D,U rfl ⟨.inl (be.of bc),av ?_⟩⟩;have ed:=hT.same s1;refine U rfl (jG (s1 _ _ hI) rfl rfl ⟨t,od,td,n,ow,tk,m,rfl,ed,hn,λey H2 s2 ez c1=>?_⟩);rw[hS.free]at c1;refine⟨_,U rfl ⟨.inl ⟨_,be.of c1,rfl⟩,_,U rfl ⟨rfl,U rfl ?_⟩⟩⟩;have X:=s1.trans s2;rw[b_];refine x4 (λe=>⟨ls rfl,qe (md e) H2 X⟩) (λe=>AA ⟨ls rfl,λZ an=>av ?_⟩);have q:=q (Int.not_lt.mp (of_decide_eq_false e));clear e qe;have ap:=hT.same X;have s3:=aj (o:=.lst []) (am.refl H2) an;have bz:aD H2 Z (.lst []) Z=some (.lst []):=af;have c2:H Z=none:=X.free an;generalize aD H2 Z (.lst [])=H3 at s3 bz⊢;have r:=X _ _ b8;refine U rfl ⟨wl,rfl,⟨_,be.of (s3 _ _ r)⟩,?_⟩;have a5:Z≠od:=λz=>by have e:=ap.own;rw[<-z,an]at e;cases e
   have a6:Z≠td:=λz=>by have e:=ap.tak;rw[<-z,an]at e;cases e
   have c3:wl≠od:=λz=>by have e:=ap.own;rw[<-z,r]at e;cases e
   have c4:wl≠td:=λz=>by have e:=ap.tak;rw[<-z,r]at e;cases e
   have as:wl≠od/\wl≠td:=⟨c3,c4⟩;have da:∀x∈tk,x.2.2≠.ref Z:=λx hx z=>by obtain⟨i,hi⟩:=h_.mp hx;obtain⟨y,_,l,e3,e4⟩:=fu.at_ ap.lsts i x hi;rw[e3]at z;cases z;rw[an]at e4;cases e4
   have dc:fB H2 tk tk:=fB.refl _ _;have fresh:∀H',mK od td H2 H'->H' od≠none->H' td≠none->∀l,H' l=none->H2 l=none:=λH' o h1 h2 l hl=>qi o h1 h2 hl;refine rE (xs:=ts) (λi σ H'=>Mo λg J m'=>L9 (mK od td H2 H') (eT P w K a.bX H' t od td n g J m') ((jw n (cO S (W.take i)) g m'/\vD (dw K H) n (cO S (W.take i)) g)) (fB H2 tk J) (J.length<=tk.length+i) (g.length<=ow.length) ((∀x∈J,x.2.2≠.ref Z)) (H' Z=some (.lst ((dY S (W.take i)).map V.int))) ((∀j x,j<i->W[j]?=some x->((bD m' x.1).length:Int)<=x.2)) (Mo λv2 v4 v5=>σ=[some (.ref t),some (.ref wl),v2,some (.ref Z),v4,v5])) ⟨ow,tk,m,.of s3,ap.same s3,⟨hS,hR⟩,dc,fx _,fx _,da,bz,λj x hj=>absurd hj (Oa _),_,_,_,rfl⟩ (λi σ H' _ h=>by obtain⟨_,_,_,o,_⟩:=h;exact be.of (o _ _ r as.1 as.2)) ?_ ?_
   ·rintro i v σ H4 hv⟨g,J,m',o4,ax,⟨a2,bi⟩,a7,di,dt,a8,u,ag,v2,v4,v5,rfl⟩N R B hN;have hi:i<ts.length:=(d_.mp hv).1;obtain⟨x,hx,b,kv,rfl,hb,hk⟩:=hW.get i v hv;have dv:=c0 x (f_ hx);obtain⟨eG,ef⟩:=ax.ins;have dz:mK od td H H4:=(mK.of X).trans o4;have ad:=jk (W.take i) hO;have bl:=gx hx;have k:=a2.1 x.1;have dK:(bD m' x.1).length<=n:=by rw[k];exact xR (ad.nd x.1) λp hp=>⟨(ad.in_ x.1 p hp).1,(ad.in_ x.1 p hp).2.1⟩
    have eH:=sL (W.take i) hO;have en:n*(W.take i).length<=1000*5:=Nat.mul_le_mul hn (by rw[ku];lia);refine⟨b,U rfl ⟨EL dz hT.own hT.tak hb,rfl,_,U rfl (av ⟨_,U rfl (av ⟨rfl,?_⟩)⟩)⟩⟩;refine U rfl ⟨.inl ⟨rfl,_,be.of u⟩,jG ef rfl rfl (U rfl (U rfl ⟨t,od,td,n,g,J,m',x.1,kv,x.2,rfl,ax,eL dz hT.own hT.tak hk,dv,by lia,λp hp=>?_,by rw[k];exact ad.nd x.1,λl f H5 o5 eN dT bT G L=>?_⟩))⟩
    ·rw[k]at hp;obtain⟨p0,p1,p2⟩:=ad.in_ x.1 p (List.mem_of_mem_drop hp);rw[a2.2 p p0 p1];exact p2
    ·have bU:=o5 _ _ u a5 a6;have I:∀y∈f,y.2.2≠.ref Z:=λy hy z=>by
      rcases G y hy with⟨y',b9,e⟩|⟨l',e,ba⟩
      ·exact a8 y' b9 (e.trans z)
      ·rw[e]at z;cases z;rw[u]at ba;cases ba
     have dV:(tK g ((bD m' x.1).drop x.2.toNat).reverse).length<=g.length:=Fx _ _;have cc:fB H2 tk f:=a7.trans G (fresh H4 o4 (by rw[ax.own];simp) (by rw[ax.tak];simp));have aa:=a2.give x.1 kv x.2.toNat;rw[k]at dT L dV;refine⟨Z,l,_,U rfl ⟨rfl,bU,dT,by rw[b_,b_,Na,K_,hH];rw[k]at dK;lia,?_⟩⟩;refine hN _ _ ⟨_,f,_,λc o e h1 h2=>?_,L.list bU I,by rw[bl,x8];exact⟨aa,bi.give x.1 x.2.toNat⟩,cc,by omega,by omega,I,?_,λj y hj hy=>?_,_,_,_,rfl⟩
     ·rw[ao (λz=>by rw[z,an]at e;cases e)];exact o5 _ _ (o4 c o e h1 h2) h1 h2
     ·rw[bl,qG,g6];exact af
     ·rw[iS]
      split
      ·rename_i e;rcases ND j i with bb|bb
       ·have h1:=ag j y bb hy;rw[e,k]at h1;rw[ku];lia
       ·have:j=i:=by lia
        subst this;rw[hx]at hy;cases hy;rw[ku];lia
      ·rename_i e;rcases ND j i with bb|bb
       ·exact ag j y bb hy
       ·have:j=i:=by lia
        subst this;rw[hx]at hy;cases hy;exact absurd rfl e
   ·rintro σ H4⟨g,J,m',o4,ax,⟨a2,bi⟩,a7,di,dt,a8,u,ag,v2,v4,v5,rfl⟩;rw[iA (by lia)]at a2 bi u;have ad:=jk W hO;refine U rfl ⟨wl,rfl,⟨_,be.of (o4 _ _ r as.1 as.2)⟩,?_⟩;refine rE (xs:=ts) (λi σ H'=>Mo λM f m5=>L9 (mK od td H2 H') (eT P w K a.bX H' t od td n M f m5) ((jw n (dC n (cO S W) (W.take i)) M m5/\vD (dw K H) n (dC n (cO S W) (W.take i)) M)) (fB H2 tk f) ((∀x∈f,x.2.2≠.ref Z)) (H' Z=some (.lst ((dY S W).map V.int))) (f.length<=J.length+i) (M.length<=g.length+1000*i) ((∀j x,i<=j->W[j]?=some x->((bD m5 x.1).length:Int)<=x.2)) (Ii λv4 v5=>σ=[some (.ref t),some (.ref wl),v2,some (.ref Z),v4,v5])) ⟨g,J,m',o4,ax,⟨a2,bi⟩,a7,a8,u,fx _,fx _,λj x _ hx=>ag j x (by rw[eb];exact(d_.mp hx).1) hx,_,_,rfl⟩ (λi σ H' _ h=>by obtain⟨_,_,_,o,_⟩:=h;exact be.of (o _ _ r as.1 as.2)) ?_ ?_
    ·rintro i v σ H5 hv⟨M,f,m5,o5,L,⟨aa,bt⟩,G,I,al,bT,d1,b0,v4,v5,rfl⟩N R B hN;have hi:i<ts.length:=(d_.mp hv).1;obtain⟨x,hx,b,kv,rfl,hb,hk⟩:=hW.get i v hv;have dv:=c0 x (f_ hx);obtain⟨e0,ej⟩:=L.ins;have d2:mK od td H H5:=(mK.of X).trans o5;have ci:=kR (W.take i) ad;have bl:=gx hx;have k:=aa.1 x.1;have dK:(bD m5 x.1).length<=n:=by rw[k];exact xR (ci.nd x.1) λp hp=>⟨(ci.in_ x.1 p hp).1,(ci.in_ x.1 p hp).2.1⟩
     have cP:=b0 i x (fx _) hx;refine⟨b,U rfl ⟨EL d2 hT.own hT.tak hb,rfl,_,U rfl (av ⟨_,U rfl (av ⟨rfl,?_⟩)⟩)⟩⟩;refine jG ej rfl rfl (U rfl (U rfl ⟨t,od,td,n,M,f,m5,x.1,kv,x.2,rfl,L,eL d2 hT.own hT.tak hk,hn,cP,by lia,by lia,by lia,λd3 H6 o6 eo b7 d4=>?_⟩));have ek:(x.2-((bD m5 x.1).length:Int)).toNat=x.2.toNat-(((dC n (cO S W) (W.take i)).pl x.1).length):=by rw[<-k];lia
     rw[ek,aa.free,k]at d4;have dV:=w4 kv ((qA n (dC n (cO S W) (W.take i)).oc).take (x.2.toNat-(((dC n (cO S W) (W.take i)).pl x.1).length))) M;have ep:((qA n (dC n (cO S W) (W.take i)).oc).take (x.2.toNat-(((dC n (cO S W) (W.take i)).pl x.1).length))).length<=1000:=by have:=Kc n (dC n (cO S W) (W.take i)).oc;rw[ku];lia
     have el:=aa.took x.1 kv x.2.toNat;have d5:∀y∈d3,y.2.2≠.ref Z:=λy hy z=>by
      rcases b7 y hy with⟨y',b9,e⟩|⟨l',e,ba⟩
      ·exact I y' b9 (e.trans z)
      ·rw[e]at z;cases z;rw[al]at ba;cases ba
     refine hN _ _ ⟨_,d3,_,o5.trans o6,d4,by rw[bl,xu];exact⟨el,bt.took x.1 hk x.2.toNat⟩,G.trans b7 (fresh H5 o5 (by rw[L.own];simp) (by rw[L.tak];simp)),d5,o6 _ _ al a5 a6,by omega,by omega,λj y hj hy=>?_,_,_,rfl⟩;rw[iS,g8 (λz=>?_)]
     ·exact b0 j y (by lia) hy
     ·have e1:(W.map (·.1))[j]?=some x.1:=by rw[gg,hy,<-z];rfl
      have e2:(W.map (·.1))[i]?=some x.1:=by rw[gg,hx];rfl
      have:=(Nm (d_.mp e1).1 ea).mp (e1.trans e2.symm);lia
    ·rintro σ H5⟨M,f,m5,o5,L,⟨aa,bt⟩,G,I,al,bT,d1,_,v4,v5,rfl⟩;rw[iA (by lia)]at aa bt;exact U rfl (q Z M f m5 H5 ((mK.of X).trans o5) L aa bt c2 al (fB.trans (fB.refl H tk) G λl hl=>X.free hl) I (by lia) (by lia))
end
abbrev gd(ns:Os)(k:Nat):Int:=ns.getD k 0
def A8(c gs:Os):Nat->Nat|0=>0|n+1=>if gd c (n+1)*(gd gs (A8 c gs n)+1)>gd c (A8 c gs n)*(gd gs (n+1)+1)then n+1 else A8 c gs n
theorem yb(c gs:Os):∀n,A8 c gs n<=n
 |0=>fx _|n+1=>by
  have:=yb c gs n;unfold A8
  split<;>lia
def deal(c:Os):Nat->List Int|0=>List.replicate c.length 0|n+1=>(deal c n).set (A8 c (deal c n) (c.length-1)) (gd (deal c n) (A8 c (deal c n) (c.length-1))+1)
theorem mI(c:Os):∀n,(deal c n).length=c.length|0=>by simp[deal]|n+1=>by rw[deal,ri,mI c n]
def J9(ns:Os)(i j:Nat)(v:Int)(h:i<ns.length):gd (ns.set i v) j=if i=j then v else gd ns j:=by
 unfold gd;rw[t8,t8,Nl]
 by_cases e:i=j
 ·rw[hA e,hA e];simp[h]
 ·rw[g8 e,g8 e]
theorem yd(c:Os):∀n k,0<=gd (deal c n) k/\gd (deal c n) k<=n
 |0,k=>by
  have e:gd (deal c 0) k=0:=by
   unfold gd deal;rw[t8,List.getElem?_replicate]
   split<;>rfl
  rw[e];exact⟨N9 _,by lia⟩|n+1,k=>by
  have b:=yd c n
  by_cases h0:c.length=0
  ·have:(deal c (n+1)).length=0:=by rw[mI,h0]
   have e:=o0.mp this;rw[e];exact⟨N9 _,by show(0:Int)<=_;lia⟩
  ·have d:=yb c (deal c n) (c.length-1);rw[deal,J9 _ _ _ _ (by rw[mI];lia)]
   split
   ·have:=b (A8 c (deal c n) (c.length-1));lia
   ·have:=b k;lia
inductive Jj(K:Of)(vs:List V)(H:Hp)(Q:VK)(_E:XK):Prop|mk(wt gl:Addr)(ws gs:Os)(_:vs=[.ref wt,.ref gl])(_:bj K H wt (ws.map V.int))(_:be K H gl (gs.map V.int))(_:gs.length=ws.length)(_:0<ws.length)(_:ws.length<=4)(_:(∀k,0<=gd gs k/\gd gs k<=2000))(_:Q (.int (A8 ws gs (ws.length-1):Nat)) H)
inductive GJ(K:Of)(vs:List V)(H:Hp)(Q:VK)(_E:XK):Prop|mk(n:Nat)(wt:Addr)(ws:Os)(_:vs=[.int n,.ref wt])(_:n<=2000)(_:bj K H wt (ws.map V.int))(_:0<ws.length)(_:ws.length<=4)(_:∀t H',am H H'->H' t=some (.tup ((deal ws n).map V.int))->Q (.ref t) H')
section
def y9(T:Txt K mg a):aT P w K mg base dq 1 a.kF.x a.kF.d ["weights","given"] (Jj K):=by
 refine T.kF.ok jB λl A outer s H r Q E t h=>?_
 ·obtain⟨m,gl,b,gs,rfl,c,g,j,u,l4,k,q⟩:=h;refine⟨_,(ah (bu 2 jB.nd ae) (ah (fE nk rfl (wN rfl T.fV (ac ae (ac (au (aJ K rfl) (by rfl) T.bx L2.aL (ac (Y 0) O)) O))) (vB 3 jB.nd) (ai (aP (aH lG (az gQ (dB K (Y 0) (Y 3)) (az bQ (gw K (Y 1) (Y 2)) ae)) (az gQ (dB K (Y 0) (Y 2)) (az bQ (gw K (Y 1) (Y 3)) ae)) (aG _)) (ai (bu 2 jB.nd (Y 3))) aE))) (ai (aF (Y 2))))),?_⟩
  refine U rfl ⟨_,b.length,rfl,.inr ⟨_,c,by simp⟩,_,U rfl ⟨⟨by decide,by decide,by lia,by lia⟩,?_⟩⟩;refine i6 (lo:=1) (n:=((b.length:Int)-1).toNat) (λi f H'=>H=H'/\∃v,f=[some (.ref m),some (.ref gl),some (.int (A8 b gs i:Nat)),v]) ⟨rfl,_,rfl⟩ ?_ ?_
  ·rintro i f _ hi⟨rfl,v,rfl⟩;have hd:=yb b gs i;have o:0<=gs.getD (A8 b gs i) 0/\gs.getD (A8 b gs i) 0<=2000:=k (A8 b gs i);have p:0<=gs.getD (i+1) 0/\gs.getD (i+1) 0<=2000:=k (i+1);have ei:((1:Int)+(i:Int))=((i+1:Nat):Int):=by lia
   refine U rfl (U rfl (rX c (m9 (by lia) (by lia)) (U rfl (U rfl (rX g (m9 (by lia) (by lia)) (r2 (r2 ?_)))))));refine⟨.inr ⟨?_,?_⟩,?_⟩
   ·simp only[op];lia
   ·simp only[op];lia
   refine U rfl (U rfl (rX c (m9 (by lia) (by lia)) (U rfl (U rfl (rX g (m9 (by lia) (by lia)) (r2 (r2 ?_)))))));rw[ei];refine⟨.inr ⟨?_,?_⟩,?_⟩
   ·simp only[op];lia
   ·simp only[op];lia
   refine r2 (U rfl ?_);simp only[op];refine iC (λh=>?_) (λh=>?_)
   ·refine U rfl ⟨rfl,some (.int ((i+1:Nat):Int)),?_⟩;rw[A8,hA h];rfl
   ·refine⟨rfl,some (.int ((i+1:Nat):Int)),?_⟩;rw[A8,g8 h];rfl
  ·rintro f _⟨rfl,v,rfl⟩;have e:((b.length:Int)-1).toNat=b.length-1:=by lia
   rw[e];exact U rfl q
def EI(T:Txt K mg a):aT P w K mg base dq 2 a.xc.x a.xc.d ["total","weights"] (GJ K):=by
 refine T.xc.ok pd λC A outer s H N Q E D h=>?_
 ·obtain⟨n,f,b,rfl,hn,y,F,l4,q⟩:=h;refine⟨_,(ah (bu 2 pd.nd (az EG (bf (ac ae O)) (au (aJ K rfl) (by rfl) T.bx L2.aL (ac (Y 1) O)))) (ah (fE nk rfl (eK rfl T.fV (ac (Y 0) O)) (vB 3 pd.nd) (ah (bu 4 pd.nd (pc T.kF (y9 T) D (ac (Y 1) (ac (Y 2) O)))) (ai (k9 (az bQ (gw K (Y 2) (Y 4)) ae) (lc (Y 2) (Y 4) Ek))))) (ai (aF (cV (gp K rfl) (by rfl) T.dW L2.bS (ac (Y 2) O)))))),?_⟩
  refine⟨ls rfl,λl z=>?_⟩;have j:bj K (aD H l (.lst [.int 0])) f (b.map V.int):=am.tseq (aj (am.refl H) z) y;refine U rfl ⟨_,b.length,rfl,.inr ⟨_,j,by simp⟩,l,_,U rfl ⟨rfl,af,by lia,by lia,dn (by simp;lia),λg hg=>?_⟩⟩;have G:am H (aD (aD H l (.lst [.int 0])) g (.lst (List.replicate (b.length:Int).toNat [V.int 0]).flatten)):=aj (aj (am.refl H) z) hg;have I:(List.replicate (b.length:Int).toNat [V.int 0]).flatten=(deal b 0).map V.int:=by
   rw[op,deal,List.map_replicate];generalize b.length=m
   induction m with|zero=>rfl|succ m J=>rw[qq,z3,J,qq];rfl
  have o:H g=none:=(JW hg).2;refine U rfl ⟨(n:Int),rfl,by lia,by lia,?_⟩;refine i6 (lo:=0) (n:=(n:Int).toNat) (λi p H'=>am H H'/\H' g=some (.lst ((deal b i).map V.int))/\(Ii λr u=>p=[some (.int n),some (.ref f),some (.ref g),r,u])) ⟨G,by rw[af,I],_,_,rfl⟩ ?_ ?_
  ·rintro i p L hi⟨e,c,r,u,rfl⟩;have B:=yd b i;have hd:=yb b (deal b i) (b.length-1);have v:=mI b i;refine U rfl (U rfl ⟨f,g,b,deal b i,rfl,am.tseq e y,be.of c,v,F,l4,λk=>⟨(B k).1,by have:=(B k).2;lia⟩,?_⟩);refine U rfl (U rfl (rX (be.of c) (m9 (by lia) (by lia)) (r2 ?_)));refine U rfl (U rfl ⟨g,_,_,U rfl ⟨rfl,c,HA (by lia) (by simp;lia),?_⟩⟩);refine⟨bV e o,?_,_,_,rfl⟩;rw[af];simp only[op];rw[zp];rfl
  ·rintro p L⟨e,c,r,u,rfl⟩;refine U rfl ⟨g,U rfl (.inl ⟨be.of c,λt M=>?_⟩)⟩;exact q t _ (aj e M) af
end
inductive yG(C:Addr)(vs:List V)(H:Hp)(Q:VK)(_E:XK):Prop|mk(t dx ar ru sh:Addr)(hm:Str)(_:vs=[.ref t,.str hm,.ref ar,.ref ru,.ref sh])(_:H t=some (.ins C dx []))(_:∀(ba:Addr)H',H ba=none->(∀b o,H b=some o->b≠t->H' b=some o)->H' t=some (.ins C dx [("home",.str hm),("arms",.ref ar),("rule",.ref ru),("shuts",.ref sh),("paused",.bl false),("closed",.bl false),("barred",.ref ba)])->H' ba=some (.dK [])->Q .non H')
section
def tm(T:Txt K mg a):aT P w K mg base dq 1 a.ee.x a.ee.d ["self","home","arms","rule","shuts"] (yG a.fP):=by
 refine T.ee.ok sQ λk A outer s H m Q E n h=>?_
 ·obtain⟨t,dx,ar,ru,sh,hm,rfl,l,q⟩:=h;refine⟨_,(ah (cF K rfl (Y 0) (Y 1)) (ah (cF K rfl (Y 0) (Y 2)) (ah (cF K rfl (Y 0) (Y 3)) (ah (cF K rfl (Y 0) (Y 4)) (ah (cF K rfl (Y 0) dZ) (ah (cF K rfl (Y 0) dZ) (ai (cF K rfl (Y 0) kA)))))))),?_⟩
  refine U rfl (U rfl ⟨t,_,dx,U rfl ⟨l,T.bA,T.jW,by simp,?_⟩⟩);rw[show gz "home" (V.str hm) []=([("home",V.str hm)]:List (Str×V))from rfl];refine U rfl (U rfl ⟨t,_,dx,U rfl ⟨af,T.bA,T.fJ,by simp,?_⟩⟩);rw[ie,show gz "arms" (V.ref ar) [("home",V.str hm)]=([("home",V.str hm),("arms",V.ref ar)]:List (Str×V))from rfl];refine U rfl (U rfl ⟨t,_,dx,U rfl ⟨af,T.bA,T.n6,by simp,?_⟩⟩);rw[ie,show gz "rule" (V.ref ru) [("home",V.str hm),("arms",V.ref ar)]=([("home",V.str hm),("arms",V.ref ar),("rule",V.ref ru)]:List (Str×V))from rfl];refine U rfl (U rfl ⟨t,_,dx,U rfl ⟨af,T.bA,T.mz,by simp,?_⟩⟩);rw[ie,show gz "shuts" (V.ref sh) [("home",V.str hm),("arms",V.ref ar),("rule",V.ref ru)]=([("home",V.str hm),("arms",V.ref ar),("rule",V.ref ru),("shuts",V.ref sh)]:List (Str×V))from rfl];refine U rfl ⟨t,_,dx,U rfl ⟨af,T.bA,T.iJ,by simp,?_⟩⟩;rw[ie,show gz "paused" (V.bl false) [("home",V.str hm),("arms",V.ref ar),("rule",V.ref ru),("shuts",V.ref sh)]=([("home",V.str hm),("arms",V.ref ar),("rule",V.ref ru),("shuts",V.ref sh),("paused",V.bl false)]:List (Str×V))from rfl];refine U rfl ⟨t,_,dx,U rfl ⟨af,T.bA,T.eF,by simp,?_⟩⟩;rw[ie,show gz "closed" (V.bl false) [("home",V.str hm),("arms",V.ref ar),("rule",V.ref ru),("shuts",V.ref sh),("paused",V.bl false)]=([("home",V.str hm),("arms",V.ref ar),("rule",V.ref ru),("shuts",V.ref sh),("paused",V.bl false),("closed",V.bl false)]:List (Str×V))from rfl];refineλf c=>?_;have i:t≠f:=λz=>by rw[<-z,af]at c;cases c
  refine U rfl ⟨t,_,dx,U rfl ⟨by rw[ao i];exact af,T.bA,T.iK,by simp,?_⟩⟩;rw[show gz "barred" (V.ref f) [("home",V.str hm),("arms",V.ref ar),("rule",V.ref ru),("shuts",V.ref sh),("paused",V.bl false),("closed",V.bl false)]=([("home",V.str hm),("arms",V.ref ar),("rule",V.ref ru),("shuts",V.ref sh),("paused",V.bl false),("closed",V.bl false),("barred",V.ref f)]:List (Str×V))from rfl];have g:H f=none:=by rw[ao (m3 i)]at c;exact c
  refine q f _ g (λb o e j=>?_) af (by rw[ao (m3 i)];exact af);rw[ao j,ao (aI e g),ao j];exact e
end
inductive yH(P:Ol)(w:World)(K:Of)(C D:Addr)(vs:List V)(H:Hp)(Q:VK)(_E:XK):Prop|mk(t dx:Addr)(z:Int)(n:Nat)(_:vs=[.ref t,.int z,.int n])(_:H t=some (.ins C dx []))(_:∀(tb od td iu:Addr)H',H tb=none->H od=none->H td=none->H iu=none->od≠iu->(∀b o,H b=some o->b≠t->H' b=some o)->H' t=some (.ins C dx [("slope",.int z),("table",.ref tb),("inside",.ref iu)])->eT P w K D H' tb od td n [] [] []->H' iu=some (.dK [])->Q .non H')
section
def tw(T:Txt K mg a):aT P w K mg base dq 3 a.eu.x a.eu.d ["self","slope","many"] (yH P w K a.fh a.bX):=by
 refine T.eu.ok sU λX A outer s H vs Q E Z h=>?_
 ·obtain⟨t,dx,z,n,rfl,hT,q⟩:=h;refine⟨_,(ah (cF K rfl (Y 0) (Y 1)) (ah (cF K rfl (Y 0) (tT T.EW ((tu (P:=P) (w:=w) T).mono (by decide)) Z rfl T.Hs T.et.b .nil bE (ac (Y 2) O))) (ai (cF K rfl (Y 0) kA)))),?_⟩
  refine U rfl (U rfl ⟨t,_,dx,U rfl ⟨hT,T.cx,T.jf,by simp,?_⟩⟩);rw[show gz "slope" (V.int z) []=([("slope",V.int z)]:List (Str×V))from rfl];have f1:∀b o,H b=some o->b≠t->aD H t (.ins a.fh dx [("slope",V.int z)]) b=some o:=λb o e m=>by rw[ao m];exact e
  have g:aD H t (.ins a.fh dx [("slope",V.int z)]) t=some (.ins a.fh dx [("slope",V.int z)]):=af;have y:∀b,aD H t (.ins a.fh dx [("slope",V.int z)]) b=none->H b=none:=λb e=>by
   by_cases h:b=t
   ·rw[h,af]at e;cases e
   ·rw[ao h]at e;exact e
  generalize aD H t (.ins a.fh dx [("slope",V.int z)])=k at f1 g y⊢;refine U rfl (λc ty i G I=>?_);have f2:∀b o,k b=some o->aD (aD k ty (.own c)) c (.ins a.bX ty []) b=some o:=λb o e=>by rw[ao (aI e i),ao (aI e G)];exact e
  have B:aD (aD k ty (.own c)) c (.ins a.bX ty []) c=some (.ins a.bX ty []):=af;have C:aD (aD k ty (.own c)) c (.ins a.bX ty []) ty=some (.own c):=by rw[ao I];exact af
  generalize aD (aD k ty (.own c)) c (.ins a.bX ty [])=H2 at f2 B C⊢;refine⟨c,ty,n,rfl,B,C,λS W D p r f3 f=>⟨rfl,?_⟩⟩;have n1:∀b,H2 b=none->k b=none:=λb e=>by cases z:k b with|none=>rfl|some o=>rw[f2 b o z]at e;cases e
  have u:∀b o,k b=some o->D b=some o:=λb o e=>f3 b o (f2 b o e) (aI e i);have J:=u _ _ g;refine U rfl ⟨t,_,dx,U rfl ⟨J,T.cx,T.gG,by simp,?_⟩⟩;rw[show gz "table" (V.ref c) [("slope",V.int z)]=([("slope",V.int z),("table",V.ref c)]:List (Str×V))from rfl];refineλv l=>?_;have it:t≠v:=λz=>by rw[<-z,af]at l;cases l
  have j:D v=none:=by rw[ao (m3 it)]at l;exact l
  refine U rfl ⟨t,_,dx,U rfl ⟨by rw[ao it];exact af,T.cx,T.bY,by simp,?_⟩⟩;rw[show gz "inside" (V.ref v) [("slope",V.int z),("table",V.ref c)]=([("slope",V.int z),("table",V.ref c),("inside",V.ref v)]:List (Str×V))from rfl];have n3:∀b,D b=none->k b=none:=λb e=>by cases z:k b with|none=>rfl|some o=>rw[u b o z]at e;cases e
  have F:∀b o,D b=some o->b≠t->aD (aD (aD D t (.ins a.fh dx [("slope",V.int z),("table",V.ref c)])) v (.dK [])) t (.ins a.fh dx [("slope",V.int z),("table",V.ref c),("inside",V.ref v)]) b=some o:=λb o e m=>by rw[ao m,ao (aI e j),ao m];exact e
  have L:c≠t:=λz=>by rw[z,g]at i;cases i
  have M:S≠t:=λz=>by rw[z,f2 _ _ g]at p;cases p
  have N:W≠t:=λz=>by rw[z,f2 _ _ g]at r;cases r
  refine q c S W v _ (y _ i) (y _ (n1 _ p)) (y _ (n1 _ r)) (y _ (n3 _ j)) (aI f.own j) (λb o e m=>F b o (u b o (f1 b o e m)) m) af ?_ (by rw[ao (m3 it)];exact af);obtain⟨R,hI⟩:=f.ins;exact⟨⟨R,F _ _ hI L⟩,F _ _ f.own M,F _ _ f.tak N,λx hx=>(by cases hx),.nil⟩
end
inductive yI(C:Addr)(vs:List V)(H:Hp)(Q:VK)(_E:XK):Prop|mk(t dx:Addr)(z sa:Int)(_:vs=[.ref t,.int z,.int sa])(_:H t=some (.ins C dx []))(_:(2<=z/\z<=997))(_:(∀i:Nat,2+(i:Int)<z->z%(2+(i:Int))≠0))(_:(0<=sa/\sa<=ce))(_:∀(ln tn ci dl:Addr)H',H ln=none->H tn=none->H ci=none->H dl=none->ln≠tn->ln≠ci->tn≠ci->(∀b o,H b=some o->b≠t->H' b=some o)->H' t=some (.ins C dx [("own_prime",.int z),("own_salt",.int sa),("layer_named",.ref ln),("trial_named",.ref tn),("came_into",.ref ci),("deeds",.ref dl)])->H' ln=some (.dK [])->H' tn=some (.dK [])->H' ci=some (.dK [])->H' dl=some (.lst [])->Q .non H')
def vw(t:Addr)(H H':Hp):Prop:=∀b o,H b=some o->b≠t->H' b=some o
def vw.no{t a:Addr}(h:vw t H H')(e:H' a=none)(n:a≠t):H a=none:=by cases z:H a with|none=>rfl|some o=>rw[h a o z n]at e;cases e
@[elab_as_elim]theorem qj{H:Hp}{a:Addr}{o:HO}{motive:Hp->Prop}(c:H a=none)(h:∀H',am H H'->H' a=some o->motive H'):motive (aD H a o):=h _ (aj (am.refl H) c) af
@[elab_as_elim]theorem Cu{H:Hp}{t:Addr}{o:HO}{motive:Hp->Prop}(h:∀H',vw t H H'->H' t=some o->motive H'):motive (aD H t o):=h _ (λ_ _ e n=>by rw[ao n];exact e) af
section
def tF(T:Txt K mg a):aT P w K mg base dq 5 a.eD.x a.eD.d ["self","prime","salt"] (yI a.bU):=by
 refine T.eD.ok sX λaa A outer s H vs Q E hr h=>?_
 ·obtain⟨t,dx,z,sa,rfl,j,h1,h2,h3,q⟩:=h;refine⟨_,(ah (aO (pc T.gm (uW T) hr (ac (Y 1) (ac (Y 2) O)))) (ah (cF K rfl (Y 0) (Y 1)) (ah (cF K rfl (Y 0) (Y 2)) (ah (cF K rfl (Y 0) kA) (ah (cF K rfl (Y 0) kA) (ah (cF K rfl (Y 0) kA) (ai (cF K rfl (Y 0) (bf O))))))))),?_⟩
  refine U rfl (U rfl ⟨z,sa,rfl,h1,h2,h3,λH0 u=>?_⟩);refine U rfl (U rfl ⟨t,_,dx,U rfl ⟨u _ _ j,T.ay,T.cD,by simp,?_⟩⟩);refine Cu λH1 o1 t1=>?_;refine U rfl (U rfl ⟨t,_,dx,U rfl ⟨t1,T.ay,T.jL,(show 1<1000 by decide),?_⟩⟩);refine Cu λH2 o2 v=>?_;refineλln g=>qj g λH3 B e3=>?_;refine U rfl ⟨t,_,dx,U rfl ⟨B _ _ v,T.ay,T.aW,(show 2<1000 by decide),?_⟩⟩;refine Cu λk l C=>?_;refineλtn f=>qj f λH5 D e5=>?_;refine U rfl ⟨t,_,dx,U rfl ⟨D _ _ C,T.ay,T.aR,(show 3<1000 by decide),?_⟩⟩;refine Cu λm F G=>?_;refineλI c=>qj c λH7 J e7=>?_;refine U rfl ⟨t,_,dx,U rfl ⟨J _ _ G,T.ay,T.c5,(show 4<1000 by decide),?_⟩⟩;refine Cu λp L M=>?_;refine⟨ls rfl,λdl i=>qj i λH9 N e9=>?_⟩;refine U rfl ⟨t,_,dx,U rfl ⟨N _ _ M,T.ay,T.jg,(show 5<1000 by decide),?_⟩⟩;refine Cu λR S ta=>?_;have n1:ln≠t:=λy=>by rw[y,v]at g;cases g
  have n2:tn≠t:=λy=>by rw[y,C]at f;cases f
  have n3:I≠t:=λy=>by rw[y,G]at c;cases c
  have n4:dl≠t:=λy=>by rw[y,M]at i;cases i
  have V:vw t H H2:=λb o e n=>o2 b o (o1 b o (u b o e) n) n;have p4:vw t H3 k:=l;have W:vw t H k:=λb o e n=>l b o (B b o (V b o e n)) n;have X:vw t k m:=λb o e n=>F b o (D b o e) n;have r:vw t m p:=λb o e n=>L b o (J b o e) n;have ga:vw t p R:=λb o e n=>S b o (N b o e) n;have Z:vw t H m:=λb o e n=>X b o (W b o e n) n;have k8:vw t H p:=λb o e n=>r b o (Z b o e n) n;have l4:=l _ _ e3 n1;have l6:=X _ _ l4 n1;have l8:=r _ _ l6 n1;have m6:=F _ _ e5 n2;have m8:=r _ _ m6 n2;exact q ln tn I dl R (V.no g n1) (W.no f n2) (Z.no c n3) (k8.no i n4) (aI l4 f) (aI l6 c) (aI m6 c) (λb o e n=>ga b o (k8 b o e n) n) ta (ga _ _ l8 n1) (ga _ _ m8 n2) (ga _ _ (L _ _ e7 n3) n3) (S _ _ e9 n4)
end
def BH(c:Nat):Int:=Txt.find jj ⟨#[c]⟩
def xU(m:Int)(cs:Op):Int:=cs.foldl (λm c=>1009*m+BH c+1) m
def EZ{m:Int}{cs:Op}{i c:Nat}(h:cs[i]?=some c):xU m (cs.take (i+1))=1009*xU m (cs.take i)+BH c+1:=by unfold xU;rw[to,h,z0];rfl
def JU{c:Nat}(h:c∈jj.cps.toList):∃i r,Builtin.Str.occurrences jj ⟨#[c]⟩ 0 jj.length 1=i::r/\BH c=(i:Nat):=by have e:=StrLaws.found_one jj c;rw[ji h]at e;cases q:Builtin.Str.occurrences jj ⟨#[c]⟩ 0 jj.length 1 with|nil=>rw[q]at e;cases e|cons i r=>refine⟨i,r,rfl,?_⟩;unfold BH Txt.find;rw[q]
def vP(p m sl:Int)(x:Str):Int:=if sl=p then xU m x.cps.toList%(p*p)%p else(xU m x.cps.toList%(p*p)/p+sl*(xU m x.cps.toList%(p*p)%p))%p
inductive Gz(vs:List V)(H:Hp)(Q:VK)(_E:XK):Prop|mk(p:_)(m:_)(x:_)(_:vs=[.int p,.int m,.str x])(_:yy x)(_:(2<=p/\p<=997))(_:∀t,H t=none->Q (.ref t) (aD H t (.tup [.int (xU m x.cps.toList%(p*p)/p),.int (xU m x.cps.toList%(p*p)%p)])))
inductive GB(K:Of)(vs:List V)(H:Hp)(Q:VK)(_E:XK):Prop|mk(t:Addr)(p s x y:Int)(_:vs=[.int p,.int s,.ref t])(_:bj K H t [.int x,.int y])(_:0<p)(_:(0<=s/\s<=1000))(_:Q (.int (if s=p then y else(x+s*y)%p)) H)
inductive Cj(a:gK)(vs:List V)(H:Hp)(Q:VK)(_E:XK):Prop|mk(h lo dx dl:Addr)(fs gs:List (Str×V))(p m sl:Int)(x:Str)(_:vs=[.ref h,.ref lo,.str x])(_:H h=some (.ins a.bU dx fs))(_:fs.lookup ("own_prime":Str)=some (V.int p))(_:fs.lookup ("own_salt":Str)=some (V.int m))(_:H lo=some (.ins a.fh dl gs))(_:gs.lookup ("slope":Str)=some (V.int sl))(_:yy x)(_:(2<=p/\p<=997))(_:(0<=sl/\sl<=1000))(_:∀H',am H H'->Q (.int (vP p m sl x)) H')
section
def y6(T:Txt K mg a):aT P w K mg base dq 1 a.ky.x a.ky.d ["p","salt","guest"] Gz:=by
 refine T.ky.ok jA λf A outer s H k Q E l h=>?_
 ·obtain⟨p,m,x,rfl,hg,⟨n,o⟩,q⟩:=h;refine⟨_,(ah (bu 3 jA.nd (Y 1)) (ah (fE nk rfl (EC (Y 2)) (vB 4 jA.nd) (ai (bu 3 jA.nd (az bQ (az bQ (az gQ (bC T.HS rfl) (Y 3)) (jd K rfl PySem.F.plainAttrs_str PySem.F.slot_str_index PySem.F.type_str_index EU (bC T.j3 rfl) (ac (Y 4) O))) ae)))) (ai (aF (au zQ (by rfl) T.ER L2.zU (ac (az aY (Y 3) (az gQ (Y 0) (Y 0))) (ac (Y 0) O))))))),?_⟩
  refine U rfl (U rfl ⟨x,rfl,?_⟩);refine HJ (λi b H'=>H=H'/\∃v,b=[some (.int p),some (.int m),some (.str x),some (.int (xU m (x.cps.toList.take i))),v]) ⟨rfl,_,rfl⟩ ?_ ?_
  ·rintro i c b _ hc⟨rfl,v,rfl⟩;obtain⟨j,r,g,hn⟩:=JU (hg.cs c (f_ hc));refine U rfl (r2 ⟨.inl ⟨by decide,by decide⟩,rfl,U rfl ⟨jj,_,j,r,rfl,rfl,g,_,U rfl ⟨rfl,r2 ⟨rfl,some (.str ⟨#[c]⟩),?_⟩⟩⟩⟩);rw[EZ hc,hn];rfl
  ·rintro b _⟨rfl,v,rfl⟩;rw[iA (fx _)];have e:(0:Int)<p*p:=Int.mul_pos (by lia) (by lia);exact U rfl (U rfl (U rfl (r2 ⟨.inl ⟨by lia,by lia⟩,_,U rfl ⟨rfl,e,U rfl ⟨_,U rfl ⟨⟨by lia,by lia⟩,q⟩⟩⟩⟩)))
def y7(T:Txt K mg a):aT P w K mg base dq 1 a.kz.x a.kz.d ["p","slope","point"] (GB K):=by
 refine T.kz.ok lT λc A outer s H f Q E g h=>?_
 ·obtain⟨t,p,s,x,y,rfl,b,e,⟨i,j⟩,q⟩:=h;refine⟨_,(ah (bu 3 lT.nd (dB K (Y 2) ae)) (ah (bu 4 lT.nd (dB K (Y 2) ae)) (ah (aP (aH aV (Y 1) (Y 0) (aG _)) (ai (aF (Y 4))) aE) (ai (aF (az aY (az bQ (Y 3) (az gQ (Y 1) (Y 4))) (Y 0))))))),?_⟩
  (iterate 2 refine U rfl (rX b rfl ?_));refine U rfl (U rfl ⟨rfl,U rfl (jh (λh=>?_) (λh=>?_))⟩)
  ·rw[hA h]at q;exact U rfl q
  ·rw[g8 h]at q;exact U rfl (U rfl (U rfl (r2 ⟨.inl ⟨by lia,by lia⟩,_,U rfl ⟨rfl,U rfl (r2 ⟨e,q⟩)⟩⟩)))
def jI(T:Txt K mg a):aT P w K mg base dq 2 a.cr.x a.cr.d ["self","layer","guest"] (Cj a):=by
 refine T.cr.ok pk λf A outer s H r Q E c h=>?_
 ·obtain⟨h,lo,dx,dl,fs,gs,p,m,sl,x,rfl,b,e,g,i,j,k,l,n,q⟩:=h;refine⟨_,(ai (aF (pc T.kz (y7 T) c (ac (aM K rfl (Y 0)) (ac (aM K rfl (Y 1)) (ac (pc T.ky (y6 T) c (ac (aM K rfl (Y 0)) (ac (aM K rfl (Y 0)) (ac (Y 2) O)))) O)))))),?_⟩;refine U rfl ⟨h,_,dx,_,U rfl ⟨b,T.ay,T.cD,e,U rfl ⟨lo,_,dl,_,U rfl ⟨i,T.cx,T.jf,j,U rfl ⟨h,_,dx,_,U rfl ⟨b,T.ay,T.cD,e,U rfl ⟨h,_,dx,_,U rfl ⟨b,T.ay,T.jL,g,U rfl ⟨p,m,x,rfl,k,l,λt o=>?_⟩⟩⟩⟩⟩⟩⟩⟩⟩;exact⟨t,p,sl,_,_,rfl,bj.of af,by lia,n,q _ (aj (am.refl H) o)⟩
end
abbrev f8(x y:Str):cn:=.inr [.inr x,.inr y]
structure dS where
 nm:Str
 sl:Int
 S:AS
 ins:List (Str×Str×Str)
structure eP where
 nm:Str
 home:Str
 arms:List Str
 rule:Ru
 shuts:List Str
 pau:Bool
 clo:Bool
 bar:List Str
structure cA where
 p:Nat
 salt:Int
 las:List dS
 trs:List eP
 came:List (Str×List (Str×Str))
inductive Ro|hh|ln|tn|ci|dl|lo(i:Nat)|iu(i:Nat)|tb(i:Nat)|od(i:Nat)|td(i:Nat)|tr(i:Nat)|ba(i:Nat)deriving DecidableEq
structure ZS where
 G:Ro->Addr
 dx:Ro->Addr
 cv:List (cp×V)ds:List V
 iv:Nat->List (cp×V)ow:Nat->List (cp×V)tk:Nat->List iN
 ar:Nat->Addr
 ru:Nat->V
 sh:Nat->Addr
def iX:List Str->(Nat->V)->List (cp×V)|[],_=>[]|n::r,f=>(.inr n,f 0)::iX r λi=>f (i+1)
def cont(P:Ol)(w:World)(a:gK)(M:cA)(Z:ZS):Ro->Option HO|.hh=>some (.ins a.bU (Z.dx .hh) [("own_prime",.int M.p),("own_salt",.int M.salt),("layer_named",.ref (Z.G .ln)),("trial_named",.ref (Z.G .tn)),("came_into",.ref (Z.G .ci)),("deeds",.ref (Z.G .dl))])|.ln=>some (.dK (iX (M.las.map dS.nm) λi=>.ref (Z.G (.lo i))))|.tn=>some (.dK (iX (M.trs.map eP.nm) λi=>.ref (Z.G (.tr i))))|.ci=>some (.dK Z.cv)|.dl=>some (.lst Z.ds)|.lo i=>M.las[i]?.map λl=>.ins a.fh (Z.dx (.lo i)) [("slope",.int l.sl),("table",.ref (Z.G (.tb i))),("inside",.ref (Z.G (.iu i)))]|.iu i=>M.las[i]?.map λ_=>.dK (Z.iv i)|.tb i=>M.las[i]?.map λ_=>.ins a.bX (Z.dx (.tb i)) [("many",.int M.p),("owners",.ref (Z.G (.od i))),("taken",.ref (Z.G (.td i)))]|.od i=>M.las[i]?.map λ_=>.dK (Z.ow i)|.td i=>M.las[i]?.map λ_=>dM P w (Z.G (.td i)) (Z.tk i)|.tr i=>M.trs[i]?.map λt=>.ins a.fP (Z.dx (.tr i)) [("home",.str t.home),("arms",.ref (Z.ar i)),("rule",Z.ru i),("shuts",.ref (Z.sh i)),("paused",.bl t.pau),("closed",.bl t.clo),("barred",.ref (Z.G (.ba i)))]|.ba i=>M.trs[i]?.map λt=>.dK (t.bar.map λg=>(.inr g,.bl true))
def cj(K:Of)(H:Hp)(iv:List (cp×V))(ins:List (Str×Str×Str)):Prop:=Paired (λ(x:cp×V)(y:Str×Str×Str)=>x.1=.inr y.1/\∃s,x.2=.ref s/\bj K H s [.str y.2.1,.str y.2.2]) iv ins
def iM(K:Of)(H:Hp)(c:List V)(d:List (Str×Str)):Prop:=Paired (λ(u:V)(y:Str×Str)=>∃s,u=.ref s/\bj K H s [.str y.1,.str y.2]) c d
def d6(K:Of)(H:Hp)(dl:Addr)(cv:List (cp×V))(cm:List (Str×List (Str×Str))):Prop:=Paired (λ(x:cp×V)(y:Str×List (Str×Str))=>x.1=.inr y.1/\∃l b,x.2=.ref l/\l≠dl/\H l=some (.lst b)/\iM K H b y.2) cv cm
structure Im(dl:Addr)(H H':Hp):Prop where
 kp:Kp H H'
 ls:∀b xs,H b=some (.lst xs)->b≠dl->H' b=some (.lst xs)
section
variable{K:Of}{H a:Hp}{dl:Addr}
theorem Im.of(h:am H a):Im dl H a:=⟨.of h,λb c e _=>h b _ e⟩
def cj.kp(e:Kp H a)(h:cj K H iv ins):cj K a iv ins:=Paired.mapP h λ_ _ q=>⟨q.1,q.2.imp λ_ q=>⟨q.1,e.tq q.2⟩⟩
def iM.kp(e:Kp H a)(h:iM K H c d):iM K a c d:=Paired.mapP h λ_ _ q=>q.imp λ_ q=>⟨q.1,e.tq q.2⟩
def d6.im(e:Im dl H a)(h:d6 K H dl cv cm):d6 K a dl cv cm:=Paired.mapP h λ_ _ q=>⟨q.1,q.2.imp λ_ q=>q.imp λ_ q=>⟨q.1,q.2.1,e.ls _ _ q.2.2.1 q.2.1,q.2.2.2.kp e.kp⟩⟩
def fu.im(e:Im dl H a)(n:∀x∈tk,x.2.2≠.ref dl)(h:fu H tk m):fu a tk m:=Paired.mapM h λx b _ q=>⟨q.1,q.2.1,q.2.2.imp λ_ q=>⟨q.1,e.ls _ _ q.2 λz=>n x b (by rw[q.1,z])⟩⟩
end
structure bJ(P:Ol)(w:World)(K:Of)(a:gK)(H:Hp)(M:cA)(Z:ZS):Prop where
 inj:∀r r' o o',cont P w a M Z r=some o->cont P w a M Z r'=some o'->Z.G r=Z.G r'->r=r'
 at_:∀r o,cont P w a M Z r=some o->H (Z.G r)=some o
 seats:∀i l,M.las[i]?=some l->cj K H (Z.iv i) l.ins
 trs:∀i t,M.trs[i]?=some t->bj K H (Z.ar i) (t.arms.map V.str)/\fw K H t.rule (Z.ru i)/\bj K H (Z.sh i) (t.shuts.map V.str)tabs:∀i l,M.las[i]?=some l->eR K H (Z.tk i)/\(∃m,fu H (Z.tk i) m/\jw M.p l.S (Z.ow i) m)/\vD (dw K H) M.p l.S (Z.ow i)/\∀x∈Z.tk i,x.2.2≠.ref (Z.G .dl)came:d6 K H (Z.G .dl) Z.cv M.came
section
variable{P:Ol}{w:World}{K:Of}{a:gK}{H H':Hp}{M s:cA}{Z c:ZS}
def bJ.imm(h:bJ P w K a H M Z)(e:cont P w a M Z r=some o)(f:∀b o,H b=some o->b≠Z.G r->H' b=some o):Im (Z.G .dl) H H':=by
 have g:=h.at_ r o e;have i:(∀d,o≠.tup d)/\(∀x y,o≠.frz x y)/\∀d,o=.lst d->r=.dl:=by
  cases r<;>simp only[cont,Option.map_eq_some_iff,Nj]at e
  case hh=>subst e;exact⟨λ_ z=>(nomatch z),λ_ _ z=>(nomatch z),λ_ z=>(nomatch z)⟩
  case ln=>subst e;exact⟨λ_ z=>(nomatch z),λ_ _ z=>(nomatch z),λ_ z=>(nomatch z)⟩
  case tn=>subst e;exact⟨λ_ z=>(nomatch z),λ_ _ z=>(nomatch z),λ_ z=>(nomatch z)⟩
  case ci=>subst e;exact⟨λ_ z=>(nomatch z),λ_ _ z=>(nomatch z),λ_ z=>(nomatch z)⟩
  case dl=>subst e;exact⟨λ_ z=>(nomatch z),λ_ _ z=>(nomatch z),λ_ _=>rfl⟩
  all_goals obtain⟨_,_,e⟩:=e;subst e;exact⟨λ_ z=>(nomatch z),λ_ _ z=>(nomatch z),λ_ z=>(nomatch z)⟩
 obtain⟨k1,k2,k3⟩:=i;refine⟨⟨λu d q=>f _ _ q λz=>?_,λu x⟨j,q⟩=>⟨j,f _ _ q λz=>?_⟩⟩,λb d q n=>f _ _ q λz=>?_⟩
 ·rw[z,g]at q;exact k1 _ (j1 q)
 ·rw[z,g]at q;exact k2 _ _ (j1 q)
 ·rw[z,g]at q;exact n (by rw[z,k3 _ (j1 q)])
def bJ.set(h:bJ P w K a H M Z)(f:cont P w a M Z d=some C)(v:∀b o,H b=some o->b≠Z.G d->H' b=some o)(u:c.G=Z.G)(j:∀r o,cont P w a s c r=some o->(r=d/\H' (Z.G d)=some o)\/(r≠d/\cont P w a M Z r=some o))(seats:∀i l,s.las[i]?=some l->cj K H' (c.iv i) l.ins)(trs:∀i t,s.trs[i]?=some t->bj K H' (c.ar i) (t.arms.map V.str)/\fw K H' t.rule (c.ru i)/\bj K H' (c.sh i) (t.shuts.map V.str))(tabs:∀i l,s.las[i]?=some l->eR K H' (c.tk i)/\(∃m,fu H' (c.tk i) m/\jw s.p l.S (c.ow i) m)/\vD (dw K H') s.p l.S (c.ow i)/\∀x∈c.tk i,x.2.2≠.ref (c.G .dl))(came:d6 K H' (c.G .dl) c.cv s.came):bJ P w K a H' s c:=by
 refine⟨λr y o A e B g=>?_,λr o e=>?_,seats,trs,tabs,came⟩
 ·rw[u]at g;rcases j r o e with⟨rfl,_⟩|⟨_,q⟩<;>rcases j y A B with⟨rfl,_⟩|⟨_,k⟩
  ·rfl
  ·exact h.inj _ _ _ _ f k g
  ·exact h.inj _ _ _ _ q f g
  ·exact h.inj _ _ _ _ q k g
 ·rw[u];rcases j r o e with⟨rfl,q⟩|⟨n,q⟩
  ·exact q
  ·exact v _ _ (h.at_ _ _ q) λz=>n (h.inj _ _ _ _ q f z)
def bJ.trsI(h:bJ P w K a H M Z)(e:Kp H H'):∀i t,M.trs[i]?=some t->bj K H' (Z.ar i) (t.arms.map V.str)/\fw K H' t.rule (Z.ru i)/\bj K H' (Z.sh i) (t.shuts.map V.str):=λi t b=>let⟨h1,h2,h3⟩:=h.trs i t b;⟨e.tq h1,h2.kp e,e.tq h3⟩
def bJ.tabsI(h:bJ P w K a H M Z)(e:Im (Z.G .dl) H H'):∀i l,M.las[i]?=some l->eR K H' (Z.tk i)/\(∃m,fu H' (Z.tk i) m/\jw M.p l.S (Z.ow i) m)/\vD (dw K H') M.p l.S (Z.ow i)/\∀x∈Z.tk i,x.2.2≠.ref (Z.G .dl):=λi l b=>let⟨h1,⟨m,h2,h3⟩,h4,h5⟩:=h.tabs i l b;⟨λx d=>fL e.kp (h1 x d),⟨m,h2.im e h5,h3⟩,h4.mono λ_ _ q=>fL e.kp q,h5⟩
def bJ.same(h:bJ P w K a H M Z)(e:am H H'):bJ P w K a H' M Z:=⟨h.inj,λr o q=>e _ _ (h.at_ r o q),λi l b=>(h.seats i l b).kp (.of e),h.trsI (.of e),h.tabsI (.of e),h.came.im (.of e)⟩
def ij{d l:Type}{g:List d}{i:Nat}{x y:d}(h:g[i]?=some x)(f:d->l)(e:f y=f x)(j:Nat):(g.set i y)[j]?.map f=g[j]?.map f:=by
 rw[Nl]
 by_cases q:i=j
 ·subst q;rw[hA rfl,hA (d_.mp h).1,h];exact r_ some e
 ·rw[g8 q]
def eJ{d l:Type}{g:List d}{i:Nat}{x y:d}(h:g[i]?=some x)(f:d->l)(e:f y=f x):(g.set i y).map f=g.map f:=tx λj=>by rw[gg,gg];exact ij h f e j
def oZ{d:Type}{f:List d}{i j:Nat}{y z:d}(e:(f.set i y)[j]?=some z):(j=i/\z=y)\/(j≠i/\f[j]?=some z):=by
 rw[Nl]at e
 by_cases q:i=j
 ·rw[hA q]at e
  split at e
  ·exact .inl ⟨q.symm,(j1 e).symm⟩
  ·cases e
 ·rw[g8 q]at e;exact .inr ⟨λz=>q z.symm,e⟩
def zK{i:Nat}{l l':dS}(d:M.las[i]?=some l)(h1:l'.nm=l.nm)(h2:l'.sl=l.sl)(r:Ro):cont P w a {M with las:=M.las.set i l'} Z r=cont P w a M Z r:=by cases r with|ln=>exact r_ (λns=>some (HO.dK (iX ns λi=>.ref (Z.G (.lo i))))) (eJ d dS.nm h1)|lo j=>exact ij d _ (by rw[h2]) j|iu j=>exact ij (y:=l') d _ rfl j|tb j=>exact ij (y:=l') d _ rfl j|od j=>exact ij (y:=l') d _ rfl j|td j=>exact ij (y:=l') d _ rfl j|_=>rfl
def FS{i:Nat}{t d:eP}(e:M.trs[i]?=some t)(h1:d.nm=t.nm)(r:Ro)(h2:r=.tr i->d.home=t.home/\d.pau=t.pau/\d.clo=t.clo)(h3:r=.ba i->d.bar=t.bar):cont P w a {M with trs:=M.trs.set i d} Z r=cont P w a M Z r:=by
 cases r with|tn=>exact r_ (λns=>some (HO.dK (iX ns λi=>.ref (Z.G (.tr i))))) (eJ e eP.nm h1)|tr j=>
  by_cases q:j=i
  ·subst q;obtain⟨a1,b,f⟩:=h2 rfl;exact ij e _ (by rw[a1,b,f]) j
  ·show((M.trs.set i d)[j]?).map _=_;rw[m_ (λz=>q z.symm)];rfl|ba j=>
  by_cases q:j=i
  ·subst q;exact ij e _ (by rw[h3 rfl]) j
  ·show((M.trs.set i d)[j]?).map _=_;rw[m_ (λz=>q z.symm)];rfl|_=>rfl
def cT:∀b o,H b=some o->b≠x->aD H x o' b=some o:=λb o e n=>by rw[ao n];exact e
def bJ.setIns(h:bJ P w K a H M Z){i:Nat}{l:dS}{ins':List (Str×Str×Str)}{iv':List (cp×V)}(d:M.las[i]?=some l)(m:cj K H iv' ins'):bJ P w K a (aD H (Z.G (.iu i)) (.dK iv')) {M with las:=M.las.set i {l with ins:=ins'}} {Z with iv:=λj=>if j=i then iv' else Z.iv j}:=by
 have g:cont P w a M Z (.iu i)=some (.dK (Z.iv i)):=by simp[cont,d]
 have im:=h.imm g (cT (o':=.dK iv'));refine h.set g cT rfl (λr o e=>?_) (λj b e=>?_) (h.trsI im.kp) (λj b e=>?_) (h.came.im im)
 ·rw[zK (l':={l with ins:=ins'}) d rfl rfl]at e
  by_cases f:r=.iu i
  ·subst f;refine .inl ⟨rfl,?_⟩;rw[af,<-e];simp[cont,d]
  ·refine .inr ⟨f,?_⟩;rw[<-e];cases r with|iu j=>show _=M.las[j]?.map λ_=>HO.dK (if j=i then iv' else Z.iv j);rw[g8 λz=>f (by rw[z])];rfl|_=>rfl
 ·rcases oZ e with⟨rfl,rfl⟩|⟨n,q⟩
  ·show cj K _ (if j=j then iv' else Z.iv j) ins';rw[hA rfl];exact m.kp im.kp
  ·show cj K _ (if j=i then iv' else Z.iv j) b.ins;rw[g8 n];exact(h.seats j b q).kp im.kp
 ·rcases oZ e with⟨rfl,rfl⟩|⟨n,q⟩
  ·exact h.tabsI im _ l d
  ·exact h.tabsI im j b q
def bJ.setTr(h:bJ P w K a H M Z){i:Nat}{t t':eP}{r0:Ro}{o':HO}(d:M.trs[i]?=some t)(h1:t'.nm=t.nm)(h2:t'.arms=t.arms)(h3:t'.rule=t.rule)(h4:t'.shuts=t.shuts)(f:(r0=.tr i/\t'.bar=t.bar)\/(r0=.ba i/\t'.home=t.home/\t'.pau=t.pau/\t'.clo=t.clo))(l:cont P w a {M with trs:=M.trs.set i t'} Z r0=some o'):bJ P w K a (aD H (Z.G r0) o') {M with trs:=M.trs.set i t'} Z:=by
 obtain⟨g,k⟩:∃g,cont P w a M Z r0=some g:=by rcases f with⟨rfl,_⟩|⟨rfl,_⟩<;>exact⟨_,by simp only[cont,d];rfl⟩
 have im:=h.imm k (cT (o':=o'));refine h.set k cT rfl (λr o e=>?_) (λj m e=>(h.seats j m e).kp im.kp) (λj p e=>?_) (h.tabsI im) (h.came.im im)
 ·by_cases b:r=r0
  ·subst b;rw[l]at e;exact .inl ⟨rfl,by rw[af];exact e⟩
  ·refine .inr ⟨b,?_⟩;rw[<-e];refine(FS d h1 r (λz=>?_) λz=>?_).symm
   ·rcases f with⟨q,_⟩|⟨_,q⟩
    ·exact absurd (z.trans q.symm) b
    ·exact q
   ·rcases f with⟨_,q⟩|⟨q,_⟩
    ·exact q
    ·exact absurd (z.trans q.symm) b
 ·rcases oZ e with⟨rfl,rfl⟩|⟨n,q⟩
  ·rw[h2,h3,h4];exact h.trsI im.kp _ t d
  ·exact h.trsI im.kp j p q
def bJ.deed(h:bJ P w K a H M Z)(d:V):bJ P w K a (aD H (Z.G .dl) (.lst (Z.ds++[d]))) M {Z with ds:=Z.ds++[d]}:=by
 have f:cont P w a M Z .dl=some (.lst Z.ds):=rfl;have im:=h.imm f (cT (o':=.lst (Z.ds++[d])));refine h.set f cT rfl (λr o e=>?_) (λj g e=>(h.seats j g e).kp im.kp) (h.trsI im.kp) (h.tabsI im) (h.came.im im)
 by_cases b:r=.dl
 ·subst b;exact .inl ⟨rfl,by rw[af];exact e⟩
 ·refine .inr ⟨b,?_⟩;rw[<-e];cases r with|dl=>exact absurd rfl b|_=>rfl
def bJ.setCame(h:bJ P w K a H M Z)(hc:d6 K H (Z.G .dl) d f):bJ P w K a (aD H (Z.G .ci) (.dK d)) {M with came:=f} {Z with cv:=d}:=by
 have g:cont P w a M Z .ci=some (.dK Z.cv):=rfl;have im:=h.imm g (cT (o':=.dK d));refine h.set g cT rfl (λr o e=>?_) (λj i e=>(h.seats j i e).kp im.kp) (h.trsI im.kp) (h.tabsI im) (hc.im im)
 by_cases b:r=.ci
 ·subst b;exact .inl ⟨rfl,by rw[af];exact e⟩
 ·refine .inr ⟨b,?_⟩;rw[<-e];cases r with|ci=>exact absurd rfl b|_=>rfl
end
theorem xQ:∀(ns:Om)(x:Str)(f:Nat->V),iX (ns++[x]) f=iX ns f++[(.inr x,f ns.length)]|[],_,_=>rfl|n::r,x,f=>by show(Sum.inr n,f 0)::iX (r++[x]) _=(Sum.inr n,f 0)::(iX r _++_);rw[xQ r x];rfl
theorem q9:∀{ns:Om}{f g:Nat->V},(∀i,i<ns.length->f i=g i)->iX ns f=iX ns g|[],_,_,_=>rfl|n::r,f,g,h=>by show(Sum.inr n,f 0)::iX r _=(Sum.inr n,g 0)::iX r _;rw[h 0 (by simp),q9 (ns:=r) (f:=λi=>f (i+1)) (g:=λi=>g (i+1)) λi hi=>h (i+1) (by simpa using hi)]
theorem iW:∀(ns:Om)(f:Nat->V),(iX ns f).length=ns.length|[],_=>rfl|n::r,f=>by rw[iX,k4,k4,iW r]
theorem tV:∀{ns:Om}{f:Nat->V}{i:Nat}{x:Str},ns.Nodup->ns[i]?=some x->bB (iX ns f) (.inr x)=some (f i)
 |[],_,i,_,_,h=>by simp at h|n::r,f,0,x,_,h=>by
  have e:n=x:=by simpa using h
  exact cI (by rw[e])|n::r,f,i+1,x,hn,h=>by
  have h:r[i]?=some x:=by simpa using h
  rw[Ob]at hn;have ne:n≠x:=λz=>hn.1 (by rw[z];exact f_ h);show bB ((Sum.inr n,f 0)::iX r _) _=_;rw[bM λz=>ne (pv z)];exact tV hn.2 h
theorem kE:∀{ns:Om}{f:Nat->V}{x:Str},x∉ns->bB (iX ns f) (.inr x)=none|[],_,_,_=>rfl|n::r,f,x,h=>by show bB ((Sum.inr n,f 0)::iX r _) _=_;rw[bM λz=>h (by rw[pv z];exact il)];exact kE λz=>h (hY _ z)
theorem xP:∀{ns:Om}{f:Nat->V}{i:Nat},(iX ns f)[i]?=ns[i]?.map λx=>(.inr x,f i)|[],_,i=>by simp[iX]|n::r,f,0=>rfl|n::r,f,i+1=>by show(iX r λi=>f (i+1))[i]?=_;rw[xP];simp
section
variable{P:Ol}{w:World}{K:Of}{a:gK}{H c:Hp}{M:cA}{Z:ZS}
def bJ.tab(h:bJ P w K a H M Z)(d:M.las[i]?=some l):∃m,eT P w K a.bX H (Z.G (.tb i)) (Z.G (.od i)) (Z.G (.td i)) M.p (Z.ow i) (Z.tk i) m/\jw M.p l.S (Z.ow i) m:=by obtain⟨h1,⟨m,h2,h3⟩,_⟩:=h.tabs i l d;exact⟨m,⟨⟨_,h.at_ (.tb i) _ (by simp only[cont,d];rfl)⟩,h.at_ (.od i) _ (by simp only[cont,d];rfl),h.at_ (.td i) _ (by simp only[cont,d];rfl),h1,h2⟩,h3⟩
def bJ.told(h:bJ P w K a H M Z)(s:M.las[i]?=some l)(o:mK (Z.G (.od i)) (Z.G (.td i)) H c)(C:eT P w K a.bX c (Z.G (.tb i)) (Z.G (.od i)) (Z.G (.td i)) M.p f d I)(L:jw M.p t f I)(N:vD (dw K H) M.p t f)(Q:fB H (Z.tk i) d):bJ P w K a c {M with las:=M.las.set i {l with S:=t}} {Z with ow:=λj=>if j=i then f else Z.ow j,tk:=λj=>if j=i then d else Z.tk j}:=by
 obtain⟨m,J,_⟩:=h.tab s;have im:Im (Z.G .dl) H c:=by
  have g:∀b ob,H b=some ob->(∀D,ob≠.dK D)->(∀φ,ob≠.ext φ)->c b=some ob:=λb ob e h1 h2=>o b ob e (λz=>by rw[z,J.own]at e;cases e;exact h1 _ rfl) (λz=>by rw[z,J.tak]at e;cases e;exact h2 _ rfl)
  exact⟨⟨λu O e=>g _ _ e (λ_ z=>(nomatch z)) (λ_ z=>(nomatch z)),λu x⟨E,e⟩=>⟨E,g _ _ e (λ_ z=>(nomatch z)) (λ_ z=>(nomatch z))⟩⟩,λb O e _=>g _ _ e (λ_ z=>(nomatch z)) (λ_ z=>(nomatch z))⟩
 have v:∀r ob,cont P w a {M with las:=M.las.set i {l with S:=t}} {Z with ow:=λj=>if j=i then f else Z.ow j,tk:=λj=>if j=i then d else Z.tk j} r=some ob->(r=.od i/\ob=.dK f)\/(r=.td i/\ob=dM P w (Z.G (.td i)) d)\/(r≠.od i/\r≠.td i/\cont P w a M Z r=some ob):=λr ob e=>by
  rw[zK (l':={l with S:=t}) s rfl rfl]at e;cases r with|od j=>
   by_cases q:j=i
   ·subst q;have e:(M.las[j]?.map λ_=>HO.dK (if j=j then f else Z.ow j))=some ob:=e;rw[s,hA rfl]at e;exact .inl ⟨rfl,(j1 e).symm⟩
   ·have e:(M.las[j]?.map λ_=>HO.dK (if j=i then f else Z.ow j))=some ob:=e;rw[g8 q]at e;exact .inr (.inr ⟨λz=>q (by injection z),λz=>(nomatch z),e⟩)|td j=>
   by_cases q:j=i
   ·subst q;have e:(M.las[j]?.map λ_=>dM P w (Z.G (.td j)) (if j=j then d else Z.tk j))=some ob:=e;rw[s,hA rfl]at e;exact .inr (.inl ⟨rfl,(j1 e).symm⟩)
   ·have e:(M.las[j]?.map λ_=>dM P w (Z.G (.td j)) (if j=i then d else Z.tk j))=some ob:=e;rw[g8 q]at e;exact .inr (.inr ⟨λz=>(nomatch z),λz=>q (by injection z),e⟩)|_=>exact .inr (.inr ⟨λz=>(nomatch z),λz=>(nomatch z),e⟩)
 have A:cont P w a M Z (.od i)=some (.dK (Z.ow i)):=by simp only[cont,s];rfl
 have B:cont P w a M Z (.td i)=some (dM P w (Z.G (.td i)) (Z.tk i)):=by simp only[cont,s];rfl
 have live:∀r ob,cont P w a {M with las:=M.las.set i {l with S:=t}} {Z with ow:=λj=>if j=i then f else Z.ow j,tk:=λj=>if j=i then d else Z.tk j} r=some ob->∃E,cont P w a M Z r=some E:=λr ob e=>by
  rcases v r ob e with⟨rfl,_⟩|⟨rfl,_⟩|⟨_,_,q⟩
  ·exact⟨_,A⟩
  ·exact⟨_,B⟩
  ·exact⟨_,q⟩
 refine⟨λr R ob F e T g=>?_,λr ob e=>?_,λj k e=>?_,h.trsI im.kp,λj k e=>?_,h.came.im im⟩
 ·obtain⟨_,q⟩:=live r ob e;obtain⟨_,U⟩:=live R F T;exact h.inj _ _ _ _ q U g
 ·rcases v r ob e with⟨rfl,rfl⟩|⟨rfl,rfl⟩|⟨n1,n2,q⟩
  ·exact C.own
  ·exact C.tak
  ·exact o _ _ (h.at_ _ _ q) (λz=>n1 (h.inj _ _ _ _ q A z)) (λz=>n2 (h.inj _ _ _ _ q B z))
 ·rcases oZ e with⟨rfl,rfl⟩|⟨n,q⟩
  ·exact(h.seats _ l s).kp im.kp
  ·exact(h.seats j k q).kp im.kp
 ·rcases oZ e with⟨rfl,rfl⟩|⟨n,q⟩
  ·show eR K c (if j=j then d else Z.tk j)/\(∃m,fu c (if j=j then d else Z.tk j) m/\jw M.p t (if j=j then f else Z.ow j) m)/\vD (dw K c) M.p t (if j=j then f else Z.ow j)/\∀x∈(if j=j then d else Z.tk j),x.2.2≠.ref (Z.G .dl);rw[hA rfl,hA rfl];refine⟨C.keys,⟨I,C.lsts,L⟩,N.mono λ_ _ q=>fL im.kp q,λx V z=>?_⟩;rcases Q x V with⟨y,W,e⟩|⟨X,e,hn⟩
   ·exact(h.tabs _ l s).2.2.2 y W (e.trans z)
   ·rw[e]at z;cases z;rw[h.at_ .dl _ rfl]at hn;cases hn
  ·show eR K c (if j=i then d else Z.tk j)/\(∃m,fu c (if j=i then d else Z.tk j) m/\jw M.p k.S (if j=i then f else Z.ow j) m)/\vD (dw K c) M.p k.S (if j=i then f else Z.ow j)/\∀x∈(if j=i then d else Z.tk j),x.2.2≠.ref (Z.G .dl);rw[g8 n,g8 n];exact h.tabsI im j k q
end
def wx(c d:Nat):Ro->Prop|.lo i=>i<c|.iu i=>i<c|.tb i=>i<c|.od i=>i<c|.td i=>i<c|.tr i=>i<d|.ba i=>i<d|_=>True
def rJ(e:cont P w a M Z r=some o):wx M.las.length M.trs.length r:=by cases r<;>first|exact trivial|(obtain⟨y,h1,_⟩:=Option.map_eq_some_iff.mp e;exact(d_.mp h1).1)
def mU(P:Ol)(w:World)(a:gK)(Z:ZS)(h:wx M.las.length M.trs.length r):∃o,cont P w a M Z r=some o:=by cases r<;>first|exact⟨_,rfl⟩|(have h:_<M.las.length:=h;exact⟨_,by simp only[cont,fy h];rfl⟩)|(have h:_<M.trs.length:=h;exact⟨_,by simp only[cont,fy h];rfl⟩)
def ZS.newL(Z:ZS)(n:Nat)(lo e t f g c d:Addr):ZS:={Z with
 G:=λr=>if r=.lo n then lo else if r=.iu n then e else if r=.tb n then t else if r=.od n then f else if r=.td n then g else Z.G r
 dx:=λr=>if r=.lo n then c else if r=.tb n then d else Z.dx r
 iv:=λj=>if j=n then[]else Z.iv j
 ow:=λj=>if j=n then[]else Z.ow j
 tk:=λj=>if j=n then[]else Z.tk j}
def ZS.newT(Z:ZS)(n:Nat)(t c dx ar:Addr)(ru:V)(sh:Addr):ZS:={Z with
 G:=λr=>if r=.tr n then t else if r=.ba n then c else Z.G r
 dx:=λr=>if r=.tr n then dx else Z.dx r
 ar:=λj=>if j=n then ar else Z.ar j
 ru:=λj=>if j=n then ru else Z.ru j
 sh:=λj=>if j=n then sh else Z.sh j}
def oX(e:(c++[x])[j]?=some y):(j=c.length/\y=x)\/(j≠c.length/\c[j]?=some y):=by
 rcases Nat.lt_trichotomy j c.length with q|q|q
 ·rw[r3 q]at e;exact .inr ⟨ig q,e⟩
 ·subst q;rw[List.getElem?_concat_length]at e;exact .inl ⟨rfl,(j1 e).symm⟩
 ·rw[k_ (by simp;lia)]at e;cases e
def i9(e:(c++[x])[j]?.map f=some o):(j=c.length/\o=f x)\/(j≠c.length/\c[j]?.map f=some o):=by
 obtain⟨y,h1,h2⟩:=Option.map_eq_some_iff.mp e;rcases oX h1 with⟨q,rfl⟩|⟨q,z⟩
 ·exact .inl ⟨q,h2.symm⟩
 ·exact .inr ⟨q,by rw[z];exact r_ some h2⟩
section
variable{P:Ol}{w:World}{K:Of}{a:gK}{H H':Hp}{M:cA}{Z:ZS}
theorem bJ.newL(h:bJ P w K a H M Z)(h1:H lo=none)(h2:H iu=none)(h3:H t=none)(h4:H od=none)(h5:H td=none)(D:od≠iu)(l:∀b o,H b=some o->b≠Z.G .ln->H' b=some o)(Q:H' (Z.G .ln)=some (.dK (iX (M.las.map dS.nm) (λi=>.ref (Z.G (.lo i)))++[(.inr nm,.ref lo)])))(R:H' lo=some (.ins a.fh c [("slope",.int sl),("table",.ref t),("inside",.ref iu)]))(T:eT P w K a.bX H' t od td M.p [] [] [])(E:lo≠t)(W:H' iu=some (.dK [])):∃s,s.G .hh=Z.G .hh/\s.G .dl=Z.G .dl/\s.ds=Z.ds/\(∀j,s.tk j=(if j=M.las.length then[]else Z.tk j)/\s.ow j=(if j=M.las.length then[]else Z.ow j))/\s.cv=Z.cv/\bJ P w K a H' {M with las:=M.las++[⟨nm,sl,AS.new,[]⟩]} s/\∀r,wx (M.las.length+1) M.trs.length r->H (s.G r)=none\/(s.G r=Z.G r/\wx M.las.length M.trs.length r):=by
 obtain⟨d,O⟩:=T.ins;have im:=h.imm (r:=.ln) rfl l;have F:(M.las.map dS.nm).length=M.las.length:=b_ ..;have u:∀r o,cont P w a {M with las:=M.las++[⟨nm,sl,AS.new,[]⟩]} (Z.newL M.las.length lo iu t od td c d) r=some o->(H' ((Z.newL M.las.length lo iu t od td c d).G r)=some o/\(r=.lo M.las.length\/r=.iu M.las.length\/r=.tb M.las.length\/r=.od M.las.length\/r=.td M.las.length))\/((Z.newL M.las.length lo iu t od td c d).G r=Z.G r/\H' (Z.G r)=some o/\∃U,cont P w a M Z r=some U):=λr o e=>by
  cases r with|hh=>exact .inr ⟨rfl,l _ _ (h.at_ .hh _ e) λz=>(nomatch h.inj .hh .ln _ _ rfl rfl z),_,e⟩|tn=>exact .inr ⟨rfl,l _ _ (h.at_ .tn _ e) λz=>(nomatch h.inj .tn .ln _ _ rfl rfl z),_,e⟩|ci=>exact .inr ⟨rfl,l _ _ (h.at_ .ci _ e) λz=>(nomatch h.inj .ci .ln _ _ rfl rfl z),_,e⟩|dl=>exact .inr ⟨rfl,l _ _ (h.at_ .dl _ e) λz=>(nomatch h.inj .dl .ln _ _ rfl rfl z),_,e⟩|tr j=>exact .inr ⟨rfl,l _ _ (h.at_ (.tr j) _ e) λz=>(nomatch h.inj (.tr j) .ln _ _ e rfl z),_,e⟩|ba j=>exact .inr ⟨rfl,l _ _ (h.at_ (.ba j) _ e) λz=>(nomatch h.inj (.ba j) .ln _ _ e rfl z),_,e⟩|ln=>refine .inr ⟨rfl,?_,_,rfl⟩;rw[Q,<-e];show _=some (HO.dK (iX ((M.las++[(⟨nm,sl,AS.new,[]⟩:dS)]).map dS.nm) λi=>V.ref ((Z.newL M.las.length lo iu t od td c d).G (.lo i))));rw[g6,NU,xQ,F];have e1:(Z.newL M.las.length lo iu t od td c d).G (.lo M.las.length)=lo:=hA rfl;rw[e1,q9 (f:=λi=>V.ref ((Z.newL M.las.length lo iu t od td c d).G (.lo i))) (g:=λi=>V.ref (Z.G (.lo i)))];intro i hi;rw[F]at hi;have n:∀x:Nat->Ro,(∀i j,x i=x j->i=j)->x i≠x M.las.length:=λx I z=>ig hi (I _ _ z);show V.ref (if Ro.lo i=.lo M.las.length then lo else _)=_;rw[g8 (n Ro.lo λ_ _ z=>by injection z)];rfl|lo j=>
   rcases i9 e with⟨rfl,rfl⟩|⟨q,e⟩
   ·refine .inl ⟨?_,.inl rfl⟩;have B:(Z.newL M.las.length lo iu t od td c d).G (.lo M.las.length)=lo:=hA rfl;have X:(Z.newL M.las.length lo iu t od td c d).G (.tb M.las.length)=t:=by simp[ZS.newL]
    have y:(Z.newL M.las.length lo iu t od td c d).G (.iu M.las.length)=iu:=by simp[ZS.newL]
    have A:(Z.newL M.las.length lo iu t od td c d).dx (.lo M.las.length)=c:=hA rfl;rw[B,X,y,A];exact R
   ·have e:cont P w a M Z (.lo j)=some o:=by rw[<-e];simp[cont,ZS.newL,q]
    exact .inr ⟨by simp[ZS.newL,q],l _ _ (h.at_ (.lo j) _ e) λz=>(nomatch h.inj (.lo j) .ln _ _ e rfl z),_,e⟩|iu j=>
   rcases i9 e with⟨rfl,rfl⟩|⟨q,e⟩
   ·refine .inl ⟨?_,.inr (.inl rfl)⟩;have y:(Z.newL M.las.length lo iu t od td c d).G (.iu M.las.length)=iu:=by simp[ZS.newL]
    have A:(Z.newL M.las.length lo iu t od td c d).iv M.las.length=[]:=hA rfl;rw[y,A];exact W
   ·have e:cont P w a M Z (.iu j)=some o:=by rw[<-e];simp[cont,ZS.newL,q]
    exact .inr ⟨by simp[ZS.newL,q],l _ _ (h.at_ (.iu j) _ e) λz=>(nomatch h.inj (.iu j) .ln _ _ e rfl z),_,e⟩|tb j=>
   rcases i9 e with⟨rfl,rfl⟩|⟨q,e⟩
   ·refine .inl ⟨?_,.inr (.inr (.inl rfl))⟩;have X:(Z.newL M.las.length lo iu t od td c d).G (.tb M.las.length)=t:=by simp[ZS.newL]
    have y:(Z.newL M.las.length lo iu t od td c d).G (.od M.las.length)=od:=by simp[ZS.newL]
    have g5:(Z.newL M.las.length lo iu t od td c d).G (.td M.las.length)=td:=by simp[ZS.newL]
    have A:(Z.newL M.las.length lo iu t od td c d).dx (.tb M.las.length)=d:=by simp[ZS.newL]
    rw[X,y,A,g5];exact O
   ·have e:cont P w a M Z (.tb j)=some o:=by rw[<-e];simp[cont,ZS.newL,q]
    exact .inr ⟨by simp[ZS.newL,q],l _ _ (h.at_ (.tb j) _ e) λz=>(nomatch h.inj (.tb j) .ln _ _ e rfl z),_,e⟩|od j=>
   rcases i9 e with⟨rfl,rfl⟩|⟨q,e⟩
   ·refine .inl ⟨?_,.inr (.inr (.inr (.inl rfl)))⟩;have y:(Z.newL M.las.length lo iu t od td c d).G (.od M.las.length)=od:=by simp[ZS.newL]
    have A:(Z.newL M.las.length lo iu t od td c d).ow M.las.length=[]:=hA rfl;rw[y,A];exact T.own
   ·have e:cont P w a M Z (.od j)=some o:=by rw[<-e];simp[cont,ZS.newL,q]
    exact .inr ⟨by simp[ZS.newL,q],l _ _ (h.at_ (.od j) _ e) λz=>(nomatch h.inj (.od j) .ln _ _ e rfl z),_,e⟩|td j=>
   rcases i9 e with⟨rfl,rfl⟩|⟨q,e⟩
   ·refine .inl ⟨?_,.inr (.inr (.inr (.inr rfl)))⟩;have y:(Z.newL M.las.length lo iu t od td c d).G (.td M.las.length)=td:=by simp[ZS.newL]
    have A:(Z.newL M.las.length lo iu t od td c d).tk M.las.length=[]:=hA rfl;rw[y,A];exact T.tak
   ·have e:cont P w a M Z (.td j)=some o:=by rw[<-e];simp[cont,ZS.newL,q]
    exact .inr ⟨by simp[ZS.newL,q],l _ _ (h.at_ (.td j) _ e) λz=>(nomatch h.inj (.td j) .ln _ _ e rfl z),_,e⟩
 have gs:∀r,(r=.lo M.las.length\/r=.iu M.las.length\/r=.tb M.las.length\/r=.od M.las.length\/r=.td M.las.length)->H ((Z.newL M.las.length lo iu t od td c d).G r)=none:=λr Y=>by rcases Y with rfl|rfl|rfl|rfl|rfl<;>simp only[ZS.newL]<;>simp[h1,h2,h3,h4,h5]
 refine⟨Z.newL M.las.length lo iu t od td c d,rfl,rfl,rfl,λj=>⟨rfl,rfl⟩,rfl,⟨λr r' o U e e' g=>?_,λr o e=>?_,λj C e=>?_,h.trsI im.kp,λj C e=>?_,h.came.im im⟩,λr Y=>?_⟩
 ·rcases u r o e with⟨q,n⟩|⟨B,q,x,J⟩<;>rcases u r' U e' with⟨q',n'⟩|⟨L,q',x',N⟩
  ·rw[g,q']at q;have q:=j1 q;rcases n with rfl|rfl|rfl|rfl|rfl<;>rcases n' with rfl|rfl|rfl|rfl|rfl<;>first|rfl|(exfalso;simp[ZS.newL]at g;first|exact E g|exact E g.symm|exact D g|exact D g.symm|(simp[cont]at e e';rw[<-e,<-e']at q;cases q))
  ·rw[L]at g;have:=h.at_ _ _ N;rw[<-g,gs r n]at this;cases this
  ·rw[B]at g;have:=h.at_ _ _ J;rw[g,gs r' n']at this;cases this
  ·rw[B,L]at g;exact h.inj _ _ _ _ J N g
 ·rcases u r o e with⟨q,n⟩|⟨B,q,x,J⟩
  ·exact q
  ·rw[B];exact q
 ·rcases oX e with⟨rfl,rfl⟩|⟨n,q⟩
  ·show cj K H' (if M.las.length=M.las.length then[]else _) [];rw[hA rfl];exact .nil
  ·show cj K H' (if j=M.las.length then[]else Z.iv j) C.ins;rw[g8 n];exact(h.seats j C q).kp im.kp
 ·rcases oX e with⟨rfl,rfl⟩|⟨n,q⟩
  ·show eR K H' (if M.las.length=M.las.length then[]else _)/\(∃m,fu H' (if M.las.length=M.las.length then[]else _) m/\jw M.p AS.new (if M.las.length=M.las.length then[]else _) m)/\vD (dw K H') M.p AS.new (if M.las.length=M.las.length then[]else _)/\∀x∈(if M.las.length=M.las.length then[]else Z.tk _),x.2.2≠.ref (Z.G .dl);rw[hA rfl,hA rfl];exact⟨λx I=>(nomatch I),⟨[],.nil,λk=>rfl,λp _ _=>rfl⟩,λp v _ _ z=>(nomatch z),λx I=>(nomatch I)⟩
  ·show eR K H' (if j=M.las.length then[]else Z.tk j)/\(∃m,fu H' (if j=M.las.length then[]else Z.tk j) m/\jw M.p C.S (if j=M.las.length then[]else Z.ow j) m)/\vD (dw K H') M.p C.S (if j=M.las.length then[]else Z.ow j)/\∀x∈(if j=M.las.length then[]else Z.tk j),x.2.2≠.ref (Z.G .dl);rw[g8 n,g8 n];exact h.tabsI im j C q
 ·obtain⟨o,e⟩:=mU P w a (M:={M with las:=M.las++[⟨nm,sl,AS.new,[]⟩]}) (Z.newL M.las.length lo iu t od td c d) (r:=r) (by simpa using Y);rcases u r o e with⟨_,n⟩|⟨B,_,x,J⟩
  ·exact .inl (gs r n)
  ·exact .inr ⟨B,rJ J⟩
theorem bJ.newT(h:bJ P w K a H M Z){nm home:Str}{arms shuts:Om}{rule:Ru}{t ba dx ar sh:Addr}{ru:V}(h1:H t=none)(h2:H ba=none)(c:∀b o,H b=some o->b≠Z.G .tn->H' b=some o)(v:H' (Z.G .tn)=some (.dK (iX (M.trs.map eP.nm) (λi=>.ref (Z.G (.tr i)))++[(.inr nm,.ref t)])))(I:H' t=some (.ins a.fP dx [("home",.str home),("arms",.ref ar),("rule",ru),("shuts",.ref sh),("paused",.bl false),("closed",.bl false),("barred",.ref ba)]))(J:H' ba=some (.dK []))(L:bj K H ar (arms.map V.str))(N:fw K H rule ru)(Q:bj K H sh (shuts.map V.str)):∃d,d.G .hh=Z.G .hh/\d.G .dl=Z.G .dl/\d.ds=Z.ds/\d.tk=Z.tk/\d.ow=Z.ow/\d.cv=Z.cv/\bJ P w K a H' {M with trs:=M.trs++[⟨nm,home,arms,rule,shuts,false,false,[]⟩]} d/\∀r,wx M.las.length (M.trs.length+1) r->H (d.G r)=none\/(d.G r=Z.G r/\wx M.las.length M.trs.length r):=by
 have im:=h.imm (r:=.tn) rfl c;have m:(M.trs.map eP.nm).length=M.trs.length:=b_ ..;have k:∀r o,cont P w a {M with trs:=M.trs++[⟨nm,home,arms,rule,shuts,false,false,[]⟩]} (Z.newT M.trs.length t ba dx ar ru sh) r=some o->(H' ((Z.newT M.trs.length t ba dx ar ru sh).G r)=some o/\(r=.tr M.trs.length\/r=.ba M.trs.length))\/((Z.newT M.trs.length t ba dx ar ru sh).G r=Z.G r/\H' (Z.G r)=some o/\∃y,cont P w a M Z r=some y):=λr o e=>by
  cases r with|tn=>refine .inr ⟨rfl,?_,_,rfl⟩;rw[v,<-e];show _=some (HO.dK (iX ((M.trs++[(⟨nm,home,arms,rule,shuts,false,false,[]⟩:eP)]).map eP.nm) λi=>V.ref ((Z.newT M.trs.length t ba dx ar ru sh).G (.tr i))));rw[g6,NU,xQ,m];have O:(Z.newT M.trs.length t ba dx ar ru sh).G (.tr M.trs.length)=t:=hA rfl;rw[O,q9 (f:=λi=>V.ref ((Z.newT M.trs.length t ba dx ar ru sh).G (.tr i))) (g:=λi=>V.ref (Z.G (.tr i)))];intro i hi;rw[m]at hi;show V.ref (if Ro.tr i=.tr M.trs.length then t else _)=_;rw[g8 λz=>ig hi (by injection z)];rfl|tr j=>
   rcases i9 e with⟨rfl,rfl⟩|⟨q,e⟩
   ·refine .inl ⟨?_,.inl rfl⟩;have l:(Z.newT M.trs.length t ba dx ar ru sh).G (.tr M.trs.length)=t:=hA rfl;have A:(Z.newT M.trs.length t ba dx ar ru sh).G (.ba M.trs.length)=ba:=by simp[ZS.newT]
    have R:(Z.newT M.trs.length t ba dx ar ru sh).dx (.tr M.trs.length)=dx:=hA rfl;have S:(Z.newT M.trs.length t ba dx ar ru sh).ar M.trs.length=ar:=hA rfl;have T:(Z.newT M.trs.length t ba dx ar ru sh).ru M.trs.length=ru:=hA rfl;have U:(Z.newT M.trs.length t ba dx ar ru sh).sh M.trs.length=sh:=hA rfl;rw[l,A,R,S,T,U];exact I
   ·have e:cont P w a M Z (.tr j)=some o:=by rw[<-e];simp[cont,ZS.newT,q]
    exact .inr ⟨by simp[ZS.newT,q],c _ _ (h.at_ (.tr j) _ e) λz=>(nomatch h.inj (.tr j) .tn _ _ e rfl z),_,e⟩|ba j=>
   rcases i9 e with⟨rfl,rfl⟩|⟨q,e⟩
   ·refine .inl ⟨?_,.inr rfl⟩;have A:(Z.newT M.trs.length t ba dx ar ru sh).G (.ba M.trs.length)=ba:=by simp[ZS.newT]
    rw[A];exact J
   ·have e:cont P w a M Z (.ba j)=some o:=by rw[<-e];rfl
    exact .inr ⟨by simp[ZS.newT,q],c _ _ (h.at_ (.ba j) _ e) λz=>(nomatch h.inj (.ba j) .tn _ _ e rfl z),_,e⟩|hh=>exact .inr ⟨rfl,c _ _ (h.at_ .hh _ e) λz=>(nomatch h.inj .hh .tn _ _ rfl rfl z),_,e⟩|ln=>exact .inr ⟨rfl,c _ _ (h.at_ .ln _ e) λz=>(nomatch h.inj .ln .tn _ _ rfl rfl z),_,e⟩|ci=>exact .inr ⟨rfl,c _ _ (h.at_ .ci _ e) λz=>(nomatch h.inj .ci .tn _ _ rfl rfl z),_,e⟩|dl=>exact .inr ⟨rfl,c _ _ (h.at_ .dl _ e) λz=>(nomatch h.inj .dl .tn _ _ rfl rfl z),_,e⟩|lo j=>exact .inr ⟨rfl,c _ _ (h.at_ (.lo j) _ e) λz=>(nomatch h.inj (.lo j) .tn _ _ e rfl z),_,e⟩|iu j=>exact .inr ⟨rfl,c _ _ (h.at_ (.iu j) _ e) λz=>(nomatch h.inj (.iu j) .tn _ _ e rfl z),_,e⟩|tb j=>exact .inr ⟨rfl,c _ _ (h.at_ (.tb j) _ e) λz=>(nomatch h.inj (.tb j) .tn _ _ e rfl z),_,e⟩|od j=>exact .inr ⟨rfl,c _ _ (h.at_ (.od j) _ e) λz=>(nomatch h.inj (.od j) .tn _ _ e rfl z),_,e⟩|td j=>exact .inr ⟨rfl,c _ _ (h.at_ (.td j) _ e) λz=>(nomatch h.inj (.td j) .tn _ _ e rfl z),_,e⟩
 have gs:∀r,(r=.tr M.trs.length\/r=.ba M.trs.length)->H ((Z.newT M.trs.length t ba dx ar ru sh).G r)=none:=λr B=>by rcases B with rfl|rfl<;>simp only[ZS.newT]<;>simp[h1,h2]
 refine⟨Z.newT M.trs.length t ba dx ar ru sh,rfl,rfl,rfl,rfl,rfl,rfl,⟨λr D o y e C g=>?_,λr o e=>?_,λj W e=>(h.seats j W e).kp im.kp,λj X e=>?_,h.tabsI im,h.came.im im⟩,λr B=>?_⟩
 ·rcases k r o e with⟨q,n⟩|⟨l,q,x,p⟩<;>rcases k D y C with⟨E,F⟩|⟨s,E,Y,u⟩
  ·rw[g,E]at q;have q:=j1 q;rcases n with rfl|rfl<;>rcases F with rfl|rfl<;>first|rfl|(exfalso;simp[cont]at e C;rw[<-e,<-C]at q;cases q)
  ·rw[s]at g;have:=h.at_ _ _ u;rw[<-g,gs r n]at this;cases this
  ·rw[l]at g;have:=h.at_ _ _ p;rw[g,gs D F]at this;cases this
  ·rw[l,s]at g;exact h.inj _ _ _ _ p u g
 ·rcases k r o e with⟨q,n⟩|⟨l,q,x,p⟩
  ·exact q
  ·rw[l];exact q
 ·rcases oX e with⟨rfl,rfl⟩|⟨n,q⟩
  ·show bj K H' (if M.trs.length=M.trs.length then ar else _) (arms.map V.str)/\fw K H' rule (if M.trs.length=M.trs.length then ru else _)/\bj K H' (if M.trs.length=M.trs.length then sh else _) (shuts.map V.str);rw[hA rfl,hA rfl,hA rfl];exact⟨im.kp.tq L,N.kp im.kp,im.kp.tq Q⟩
  ·show bj K H' (if j=M.trs.length then ar else Z.ar j) _/\fw K H' _ (if j=M.trs.length then ru else Z.ru j)/\bj K H' (if j=M.trs.length then sh else Z.sh j) _;rw[g8 n,g8 n,g8 n];exact h.trsI im.kp j X q
 ·obtain⟨o,e⟩:=mU P w a (M:={M with trs:=M.trs++[⟨nm,home,arms,rule,shuts,false,false,[]⟩]}) (Z.newT M.trs.length t ba dx ar ru sh) (r:=r) (by simpa using B);rcases k r o e with⟨_,n⟩|⟨l,_,x,p⟩
  ·exact .inl (gs r n)
  ·exact .inr ⟨l,rJ p⟩
end
def jx(M:cA)(Z:ZS)(b:Addr):Prop:=(∃r,wx M.las.length M.trs.length r/\b=Z.G r)\/(∃i,i<M.las.length/\∃x∈Z.tk i,x.2.2=.ref b)\/∃x∈Z.cv,x.2=.ref b
def fu.outs(n:∀x∈tk,∀l c,x.2.2=.ref l->H l=some (.lst c)->H' l=some (.lst c))(h:fu H tk m):fu H' tk m:=Paired.mapM h λx b _ q=>⟨q.1,q.2.1,q.2.2.imp λ_ q=>⟨q.1,n x b _ _ q.1 q.2⟩⟩
def d6.outs(e:Kp H H')(n:∀x∈cv,∀l c,x.2=.ref l->H l=some (.lst c)->H' l=some (.lst c))(h:d6 K H dl cv cm):d6 K H' dl cv cm:=Paired.mapM h λx b _ q=>⟨q.1,q.2.imp λ_ q=>q.imp λ_ q=>⟨q.1,q.2.1,n x b _ _ q.1 q.2.2.1,q.2.2.2.kp e⟩⟩
def bJ.out(h:bJ P w K a H M Z)(n:¬jx M Z o)(kp:Kp H H')(f:∀b ob,H b=some ob->b≠o->H' b=some ob):bJ P w K a H' M Z:=⟨h.inj,λr ob e=>f _ _ (h.at_ r ob e) λz=>n (.inl ⟨r,rJ e,z.symm⟩),λi l d=>(h.seats i l d).kp kp,h.trsI kp,λi l d=>let⟨h1,⟨m,h2,h3⟩,h4,h5⟩:=h.tabs i l d;⟨λx c=>fL kp (h1 x c),⟨m,h2.outs λx c l k g j=>f _ _ j λz=>n (.inr (.inl ⟨i,(d_.mp d).1,x,c,by rw[g,z]⟩)),h3⟩,h4.mono λ_ _ q=>fL kp q,h5⟩,h.came.outs kp λx c l k g j=>f _ _ j λz=>n (.inr (.inr ⟨x,c,by rw[g,z]⟩))⟩
def my{a b:Addr}{o:HO}(h:aD H a o b=none):H b=none:=by
 by_cases e:b=a
 ·rw[e,af]at h;cases h
 ·rw[ao e]at h;exact h
structure gM(H:Hp)(M:cA)(Z:ZS)(H':Hp)(M':cA)(Z':ZS):Prop where
 hh:Z'.G .hh=Z.G .hh
 fr:∀b o,H b=some o->¬jx M Z b->H' b=some o
 fp:∀b,jx M' Z' b->jx M Z b\/H b=none
 dm:∀b,H' b=none->H b=none
 dd:Z'.G .dl=Z.G .dl
section
variable{H j m g:Hp}{M M1 M2 c:cA}{Z d f a:ZS}
def gM.of(s:am H g):gM H M Z g M Z:=⟨rfl,λb o h _=>s b o h,λ_ h=>.inl h,λ_ h=>s.free h,rfl⟩
theorem gM.trans(s:gM H M Z j M1 d)(t:gM j M1 d m M2 f):gM H M Z m M2 f:=⟨t.hh.trans s.hh,λb o h n=>t.fr b o (s.fr b o h n) λq=>(s.fp b q).elim n λz=>(by rw[h]at z;cases z),λb q=>(t.fp b q).elim (s.fp b) λz=>.inr (s.dm b z),λb z=>s.dm b (t.dm b z),t.dd.trans s.dd⟩
def gM.put(s:wx M.las.length M.trs.length r)(p:a.G=Z.G)(h1:c.las.length=M.las.length)(h2:c.trs.length=M.trs.length)(h3:a.tk=Z.tk)(h4:∀x∈a.cv,x∈Z.cv\/∃l,x.2=.ref l/\(jx M Z l\/H l=none)):gM H M Z (aD H (Z.G r) o) c a:=⟨by rw[p],λb o h n=>(by rw[ao λz=>n (.inl ⟨r,s,z⟩)];exact h),λb q=>by
  rcases q with⟨t,h,e⟩|⟨i,hi,x,k,e⟩|⟨x,k,e⟩
  ·exact .inl (.inl ⟨t,by rw[<-h1,<-h2];exact h,by rw[e,p]⟩)
  ·exact .inl (.inr (.inl ⟨i,by rw[<-h1];exact hi,x,by rw[<-h3];exact k,e⟩))
  ·rcases h4 x k with q|⟨l,u,q⟩
   ·exact .inl (.inr (.inr ⟨x,q,e⟩))
   ·rw[u]at e;cases e;exact q,λb z=>my z,by rw[p]⟩
end
def gM.out{o:Addr}{x:HO}{H c:Hp}{M M1:cA}{Z d:ZS}(s:gM H M Z c M1 d)(n:H o=none):gM H M Z (aD c o x) M1 d:=⟨s.hh,λb e h q=>(by rw[ao (aI h n)];exact s.fr b e h q),s.fp,λb z=>s.dm b (my z),s.dd⟩
theorem fu.ex(h:fu H tk m)(x:iN)(c:x∈tk):∃l d,x.2.2=.ref l/\H l=some (.lst d):=(Paired.ex h x c).elim λ_ q=>q.2.2.imp λ_ q=>⟨_,q⟩
theorem d6.ex(h:d6 K H dl cv cm)(x:cp×V)(c:x∈cv):∃l d,x.2=.ref l/\H l=some (.lst d):=(Paired.ex h x c).elim λ_ q=>q.2.imp λ_ q=>q.imp λ_ q=>⟨q.1,q.2.2.1⟩
def bJ.foot(h:bJ P w K a H M Z)(c:H b=none):¬jx M Z b:=λz=>by
 rcases z with⟨r,j,e⟩|⟨i,hi,x,d,e⟩|⟨x,d,e⟩
 ·obtain⟨o,q⟩:=mU P w a Z j;rw[e,h.at_ r o q]at c;cases c
 ·obtain⟨_,⟨m,q,_⟩,_⟩:=h.tabs i _ (fy hi);obtain⟨l,k,f,g⟩:=q.ex x d;rw[f]at e;cases e;rw[g]at c;cases c
 ·obtain⟨l,k,f,g⟩:=h.came.ex x d;rw[f]at e;cases e;rw[g]at c;cases c
structure Gd(M:cA)(c:Nat)(l:dS):Prop where
 wd:Wd l.nm
 sl:0<=l.sl/\l.sl<=M.p
 ok:l.S.Ok M.p
 len:l.ins.length<=c
 gs:∀x∈l.ins,yy x.1
 nd:(l.ins.map (·.1)).Nodup
 own:∀k q,q∈l.S.pl k->k=f8 "" ""\/∃t∈M.trs,t.home=l.nm/\∃y∈t.arms,k=f8 t.nm y
structure HW(M:cA)(t:eP):Prop where
 wd:Wd t.nm
 hm:t.home∈M.las.map dS.nm
 a1:1<=t.arms.length
 a4:t.arms.length<=4
 nd:t.arms.Nodup
 aw:∀x∈t.arms,Wd x
 hg:t.rule.hgt<=6
 s8:t.shuts.length<=8
structure oS(M:cA)(c:Nat):Prop where
 p:2<=M.p/\M.p<=997
 ln:(M.las.map dS.nm).Nodup
 tn:(M.trs.map eP.nm).Nodup
 la:∀l∈M.las,Gd M c l
 tr:∀t∈M.trs,HW M t
 cm:∀x∈M.came,x.2.length<=10*c
 l4:M.las.length<=4
 tc:M.trs.length<=10
 cl:M.came.length<=10*c
 br:∀t∈M.trs,t.bar.length<=c
structure cL(P:Ol)(w:World)(K:Of)(a:gK)(H:Hp)(M:cA)(Z:ZS)(c:Nat):Prop where
 g:bJ P w K a H M Z
 ok:oS M c
 tk:∀i,(Z.tk i).length<=10*c
 ow:∀i,(Z.ow i).length<=5000*c
 ds:Z.ds.length<=c
def Gd.mono(h:Gd M c l)(hc:c<=d):Gd M d l:={h with len:=kl h.len hc}
theorem oS.mono(h:oS M c)(hc:c<=d):oS M d:={h with la:=λl b=>(h.la l b).mono hc,cm:=λx e=>kl (h.cm x e) (M_ _ hc),cl:=kl h.cl (M_ _ hc),br:=λt f=>kl (h.br t f) hc}
theorem cL.mono(h:cL P w K a H M Z c)(hc:c<=d):cL P w K a H M Z d:=⟨h.g,h.ok.mono hc,λi=>kl (h.tk i) (M_ _ hc),λi=>kl (h.ow i) (M_ _ hc),kl h.ds hc⟩
theorem cL.same(h:cL P w K a H M Z c)(e:am H H'):cL P w K a H' M Z c:={h with g:=h.g.same e}
section
variable{P:Ol}{w:World}{K:Of}{a:gK}{H d:Hp}{M:cA}{Z:ZS}{c:Nat}
def bJ.house(h:bJ P w K a H M Z):H (Z.G .hh)=some (.ins a.bU (Z.dx .hh) [("own_prime",.int M.p),("own_salt",.int M.salt),("layer_named",.ref (Z.G .ln)),("trial_named",.ref (Z.G .tn)),("came_into",.ref (Z.G .ci)),("deeds",.ref (Z.G .dl))]):=h.at_ .hh _ rfl
def bJ.lays(h:bJ P w K a H M Z):H (Z.G .ln)=some (.dK (iX (M.las.map dS.nm) λi=>.ref (Z.G (.lo i)))):=h.at_ .ln _ rfl
def bJ.tris(h:bJ P w K a H M Z):H (Z.G .tn)=some (.dK (iX (M.trs.map eP.nm) λi=>.ref (Z.G (.tr i)))):=h.at_ .tn _ rfl
def bJ.cams(h:bJ P w K a H M Z):H (Z.G .ci)=some (.dK Z.cv):=h.at_ .ci _ rfl
def bJ.dees(h:bJ P w K a H M Z):H (Z.G .dl)=some (.lst Z.ds):=h.at_ .dl _ rfl
def bJ.layer(h:bJ P w K a H M Z)(e:M.las[i]?=some l):H (Z.G (.lo i))=some (.ins a.fh (Z.dx (.lo i)) [("slope",.int l.sl),("table",.ref (Z.G (.tb i))),("inside",.ref (Z.G (.iu i)))]):=h.at_ (.lo i) _ (by simp only[cont,e];rfl)
def bJ.inside(h:bJ P w K a H M Z)(e:M.las[i]?=some l):H (Z.G (.iu i))=some (.dK (Z.iv i)):=h.at_ (.iu i) _ (by simp only[cont,e];rfl)
def bJ.trial(h:bJ P w K a H M Z)(e:M.trs[i]?=some t):H (Z.G (.tr i))=some (.ins a.fP (Z.dx (.tr i)) [("home",.str t.home),("arms",.ref (Z.ar i)),("rule",Z.ru i),("shuts",.ref (Z.sh i)),("paused",.bl t.pau),("closed",.bl t.clo),("barred",.ref (Z.G (.ba i)))]):=h.at_ (.tr i) _ (by simp only[cont,e];rfl)
def bJ.barred(h:bJ P w K a H M Z)(e:M.trs[i]?=some t):H (Z.G (.ba i))=some (.dK (t.bar.map λg=>(.inr g,.bl true))):=h.at_ (.ba i) _ (by simp only[cont,e];rfl)
def oS.lget(h:oS M c)(e:M.las[i]?=some l):bB (iX (M.las.map dS.nm) λi=>.ref (Z.G (.lo i))) (.inr l.nm)=some (.ref (Z.G (.lo i))):=tV h.ln (by rw[gg,e];rfl)
def oS.tget(h:oS M c)(e:M.trs[i]?=some t):bB (iX (M.trs.map eP.nm) λi=>.ref (Z.G (.tr i))) (.inr t.nm)=some (.ref (Z.G (.tr i))):=tV h.tn (by rw[gg,e];rfl)
theorem oS.home(h:oS M c)(f:t∈M.trs):∃(i:Nat)(l:dS),M.las[i]?=some l/\l.nm=t.home:=by obtain⟨l,b,e⟩:=ir.mp (h.tr t f).hm;obtain⟨i,hi⟩:=h_.mp b;exact⟨i,l,hi,e⟩
end
section
variable{K:Of}{H:Hp}
def cj.find(h:cj K H iv ins)(hn:(ins.map (·.1)).Nodup):∀x∈ins,∃s,bB iv (.inr x.1)=some (.ref s)/\bj K H s [.str x.2.1,.str x.2.2]:=by induction h with|nil=>exactλx b=>(nomatch b)|@cons _ y _ _ h _ c=>
  intro x b;obtain⟨h1,s,h2,h3⟩:=h;rw[lm,Ob]at hn;rcases q_.mp b with rfl|b
  ·exact⟨s,by rw[cI h1,h2],h3⟩
  ·obtain⟨d,f,g⟩:=c hn.2 x b;refine⟨d,?_,g⟩;rw[bM,f];intro e;rw[h1]at e;exact hn.1 (by rw[show y.1=x.1 from pv e];exact ir.mpr ⟨x,b,rfl⟩)
theorem cj.none(h:cj K H iv ins)(hn:g∉ins.map (·.1)):bB iv (.inr g)=Option.none:=by induction h with|nil=>rfl|@cons _ y _ _ h _ b=>
  rw[lm]at hn;rw[bM]
  ·exact b λz=>hn (hY _ z)
  ·intro e;rw[h.1]at e;exact hn (by rw[show y.1=g from pv e];exact il)
def cj.drop(g:Str)(h:cj K H iv ins):cj K H (d0 iv (.inr g)) (ins.filter λx=>decide (x.1≠g)):=by induction h with|nil=>exact .nil|@cons x y _ _ h _ b=>
  by_cases e:y.1=g
  ·rw[xa (by rw[h.1,e]),List.filter_cons_of_neg (by simp[e])];exact b
  ·rw[xb (λz=>e (by rw[h.1]at z;exact pv z)),List.filter_cons_of_pos (by simp[e])];exact .cons h b
end
def dO(ins:List (Str×Str×Str))(gs:Om):List (Str×Str×Str):=ins.filter λx=>decide (x.1∉gs)
def lu(ins:List (Str×Str×Str)):dO ins []=ins:=List.filter_eq_self.mpr λ_ _=>by simp
def sE(ins:List (Str×Str×Str))(gs:Om)(g:Str):dO ins (gs++[g])=(dO ins gs).filter λx=>decide (x.1≠g):=by
 unfold dO;rw[List.filter_filter];refine List.filter_congr λx _=>?_
 by_cases h1:x.1∈gs<;>by_cases h2:x.1=g<;>simp[h1,h2]
def AT(h:g∈ins.map (·.1))(hn:g∉gs):∃x∈dO ins gs,x.1=g:=by obtain⟨x,b,rfl⟩:=ir.mp h;exact⟨x,pa.mpr ⟨b,by simpa using hn⟩,rfl⟩
def wY(h:(ins.map (·.1)).Nodup):((dO ins gs).map (·.1)).Nodup:=(List.Sublist.map _ List.filter_sublist).nodup h
abbrev cA.setL(M:cA)(i:Nat)(l:dS):cA:={M with las:=M.las.set i l}
def mS{M:cA}{i:Nat}{l:dS}(c:M.las[i]?=some l):M.setL i l=M:=by
 have e:M.las.set i l=M.las:=tx λj=>by
  rw[Nl]
  split
  ·rename_i q;subst q;rw[hA (d_.mp c).1,c]
  ·rfl
 unfold cA.setL;rw[e]
def uk{M:cA}{i:Nat}{l c:dS}:(M.setL i l).setL i c=M.setL i c:=by unfold cA.setL;rw[List.set_set]
def ul{M:cA}{i:Nat}{l l':dS}(c:M.las[i]?=some l):(M.setL i l').las[i]?=some l':=by show(M.las.set i l')[i]?=_;rw[rr (d_.mp c).1]
theorem oS.setL{M:cA}{c d:Nat}(h:oS M c){i:Nat}{l e:dS}(g:M.las[i]?=some l)(h1:e.nm=l.nm)(hc:c<=d)(ok:Gd M d e):oS (M.setL i e) d:=by
 have b:(M.las.set i e).map dS.nm=M.las.map dS.nm:=eJ g dS.nm h1;have h:=h.mono hc;refine{h with ln:=by rw[b];exact h.ln,la:=λx j=>?_,tr:=λt f=>{h.tr t f with hm:=by show t.home∈(M.las.set i e).map dS.nm;rw[b];exact(h.tr t f).hm},l4:=by show(M.las.set i e).length<=4;rw[ri];exact h.l4};rcases C1 j with q|rfl
 ·exact{h.la x q with}
 ·exact{ok with}
inductive Lc(P:Ol)(w:World)(K:Of)(a:gK)(vs:List V)(H:Hp)(Q:VK)(_E:XK):Prop|mk(M:cA)(Z:ZS)(c i:Nat)(l:dS)(g:Addr)(gs:Om)(_:vs=[.ref (Z.G .hh),.ref (Z.G (.lo i)),.ref g])(_:cL P w K a H M Z c)(_:M.las[i]?=some l)(_:H g=some (.lst (gs.map V.str)))(_:(∀x∈gs,x∈l.ins.map (·.1)))(_:gs.Nodup)(_:gs.length<=63)(_:∀(r:Addr)(us:List V)(Z':ZS)(H':Hp),gM H M Z H' (M.setL i {l with ins:=dO l.ins gs}) Z'->cL P w K a H' (M.setL i {l with ins:=dO l.ins gs}) Z' c->H r=none->H' r=some (.lst us)->Z'.ds=Z.ds->Q (.ref r) H')
section
def kB(T:Txt K mg a):aT P w K mg base dq 1 a.cH.x a.cH.d ["self","layer","guests"] (Lc P w K a):=by
 refine T.cH.ok fi λbt A outer s H vs Q E hr h=>?_
 ·obtain⟨M,Z,c,i,l,g,gs,rfl,hZ,hl,hg,a5,a6,bl,q⟩:=h;refine⟨_,(ah (bu 3 fi.nd (bf O)) (ah (fE nk rfl (fH K rfl (Y 2)) (vB 4 fi.nd) (ah (bu 5 fi.nd (yY (aM K rfl (Y 1)) (Y 4) ⟨rfl,rfl,rfl,rfl⟩)) (ai (aO (jd K rfl PySem.F.plainAttrs_list PySem.F.slot_list_append PySem.F.type_list_append fm (Y 3) (ac (az (uR K rfl) (bn (ac (Y 4) O)) (Y 5)) O)))))) (ai (aF (au (Bc K rfl) (by rfl) T.zk L2.sK (ac (Y 3) O)))))),?_⟩
  refine⟨ls rfl,λo ho=>av ?_⟩;refine qj ho λH1 s1 a7=>?_;have hL:=hZ.ok.la l (f_ hl);have a8:¬jx M Z o:=hZ.g.foot ho;have ba:(gs.map V.str).length=gs.length:=b_ ..;refine U rfl ⟨g,rfl,⟨_,be.of (s1 _ _ hg)⟩,?_⟩;refine qB (xs:=gs.map V.str) (λk σ H'=>Ii λR C=>MY (bJ P w K a H' (M.setL i {l with ins:=dO l.ins (gs.take k)}) R) (R.G=Z.G) (R.tk=Z.tk) (R.ow=Z.ow) (R.ds=Z.ds) (R.cv=Z.cv) (¬jx (M.setL i {l with ins:=dO l.ins (gs.take k)}) R o) (gM H M Z H' (M.setL i {l with ins:=dO l.ins (gs.take k)}) R) (H' g=some (.lst (gs.map V.str))) (H' o=some (.lst (C.map V.ref))) (C.length=k) ((∀u∈C,∃x y z,bj K H' u [.str x,.str y,.str z])) (Ii λv4 v5=>σ=[some (.ref (Z.G .hh)),some (.ref (Z.G (.lo i))),some (.ref g),some (.ref o),v4,v5])) ⟨Z,[],by rw[v_,lu];exact(mS hl).symm▸hZ.g.same s1,rfl,rfl,rfl,rfl,rfl,by rw[v_,lu];exact(mS hl).symm▸a8,by rw[v_,lu];exact(mS hl).symm▸gM.of s1,s1 _ _ hg,a7,rfl,λu hu=>(nomatch hu),_,_,rfl⟩ (λk σ H' _ h=>by obtain⟨_,_,_,_,_,_,_,_,_,_,h,_⟩:=h;exact be.of h) ?_ ?_
  ·rintro k v σ H2 hv⟨f,C,m,eG,aa,ad,D,an,S,p,ag,B,I,t,v4,v5,rfl⟩;rw[gg]at hv;obtain⟨x,W,rfl⟩:=Option.map_eq_some_iff.mp hv;have hk:k<gs.length:=(d_.mp W).1;have X:=gx W;have bb:x∉gs.take k:=λz=>by have:=a6;rw[<-sg k gs,o8]at this;exact this.2.2 x z x (f_ (by rw[NV,Nat.add_zero];exact W)) rfl
   have bc:¬jx (M.setL i {l with ins:=dO l.ins (gs.take k)}) f o:=λz=>(S z);obtain⟨y,hy,ey⟩:=AT (a5 x (f_ W)) bb;have n:=ul (l':={l with ins:=dO l.ins (gs.take k)}) hl;have ap:=m.seats i _ n;obtain⟨s,as,J⟩:=ap.find (wY hL.nd) y hy;rw[ey]at as;refine av (gL (by rw[<-eG];exact m.layer n) T.cx T.bY rfl rfl ⟨f.G (.iu i),rfl,.inl ⟨_,.inl (m.inside n)⟩,U rfl ⟨_,.inr x,_,m.inside n,rfl,as,av ?_⟩⟩);have L:=m.setIns n (ap.drop x);have im:=m.imm (r:=.iu i) (by simp only[cont,n];rfl) (cT (o':=.dK (d0 (f.iv i) (.inr x))));have N:gM H2 _ f (aD H2 (f.G (.iu i)) (.dK (d0 (f.iv i) (.inr x)))) ((M.setL i {l with ins:=dO l.ins (gs.take k)}).setL i {l with ins:=(dO l.ins (gs.take k)).filter λz=>decide (z.1≠x)}) {f with iv:=λj=>if j=i then d0 (f.iv i) (.inr x)else f.iv j}:=gM.put (show i<_ from(d_.mp n).1) rfl (ri ..) rfl rfl λx W=>.inl W;have ax:=cT (x:=f.G (.iu i)) (o':=.dK (d0 (f.iv i) (.inr x))) _ _ ag λz=>by have e:=m.inside n;rw[<-z,ag]at e;cases e
   have al:=cT (x:=f.G (.iu i)) (o':=.dK (d0 (f.iv i) (.inr x))) _ _ B λz=>by have e:=m.inside n;rw[<-z,B]at e;cases e
   rw[uk,<-sE,<-X]at N;have L:bJ P w K a (aD H2 (f.G (.iu i)) (.dK (d0 (f.iv i) (.inr x)))) (M.setL i {l with ins:=dO l.ins (gs.take (k+1))}) {f with iv:=λj=>if j=i then d0 (f.iv i) (.inr x)else f.iv j}:=by rw[X,sE,<-uk (l:={l with ins:=dO l.ins (gs.take k)})];exact L
   have J:=im.kp.tq J;have t:∀u∈C,∃x1 y1 z1,bj K (aD H2 (f.G (.iu i)) (.dK (d0 (f.iv i) (.inr x)))) u [.str x1,.str y1,.str z1]:=λu hu=>let⟨x1,y1,z1,h⟩:=t u hu;⟨x1,y1,z1,im.kp.tq h⟩;generalize aD H2 (f.G (.iu i)) (.dK (d0 (f.iv i) (.inr x)))=H3 at L N ax al J t⊢;refine U rfl ⟨.inl ⟨rfl,_,be.of al⟩,U rfl ⟨ls rfl,λT1 a2=>(U rfl ⟨T1,s,[.str x],U rfl ⟨rfl,bj.of af,am.tseq (aj (am.refl _) a2) J,by simp,by rw[hH];simp,λz=>(nomatch z),λ_ T2 bi=>?_⟩⟩)⟩⟩;have s5:=aj (o:=.tup ([.str x]++[.str y.2.1,.str y.2.2])) (aj (o:=.tup [.str x]) (am.refl H3) a2) bi;have e5:aD (aD H3 T1 (.tup [.str x])) T2 (.tup ([.str x]++[.str y.2.1,.str y.2.2])) T2=some (.tup [.str x,.str y.2.1,.str y.2.2]):=af;generalize aD (aD H3 T1 (.tup [.str x])) T2 (.tup ([.str x]++[.str y.2.1,.str y.2.2]))=H5 at s5 e5⊢;have a3:=s5 _ _ al;refine rA a3 (by rw[b_,I,hH];lia) ?_;have kp:Kp H5 (aD H5 o (.lst (C.map V.ref++[.ref T2]))):=.lst a3;have nF:¬jx (M.setL i {l with ins:=dO l.ins (gs.take (k+1))}) {f with iv:=λj=>if j=i then d0 (f.iv i) (.inr x)else f.iv j} o:=λz=>by
    rcases N.fp o z with q|q
    ·exact bc q
    ·rw[B]at q;cases q
   have kq:∀b ob,H5 b=some ob->b≠o->aD H5 o (.lst (C.map V.ref++[.ref T2])) b=some ob:=cT;refine⟨{f with iv:=λj=>if j=i then d0 (f.iv i) (.inr x)else f.iv j},C++[T2],(L.same s5).out nF kp kq,eG,aa,ad,D,an,nF,((p.trans N).trans (gM.of s5)).out ho,?_,?_,by rw[gV,I];rfl,λu hu=>?_,_,_,rfl⟩
   ·exact kq _ _ (s5 _ _ ax) λz=>by rw[z,ho]at hg;cases hg
   ·rw[af,g6];rfl
   ·rcases List.mem_append.mp hu with z|z
    ·obtain⟨x1,y1,z1,h⟩:=t u z;exact⟨x1,y1,z1,kp.tq (am.tseq s5 h)⟩
    ·rw[List.mem_singleton.mp z];exact⟨_,_,_,kp.tq (bj.of e5)⟩
  ·rintro σ H2⟨f,C,m,eG,aa,ad,D,an,S,p,ag,B,I,t,v4,v5,rfl⟩;rw[ba]at I m p;rw[iA (fx _)]at m p;refine U rfl ⟨o,C,rfl,be.of B,by lia,t,λr vs hr hp=>?_⟩;have s6:=aj (o:=.lst (vs.map V.ref)) (am.refl H2) hr;refine q r (vs.map V.ref) f _ (p.trans (gM.of s6)) ⟨m.same s6,?_,λj=>by rw[aa];exact hZ.tk j,λj=>by rw[ad];exact hZ.ow j,by rw[D];exact hZ.ds⟩ (p.dm _ hr) af D;refine hZ.ok.setL hl rfl (fx _) {hL with len:=kl (si _ _) hL.len,gs:=λx W=>hL.gs x (pa.mp W).1,nd:=wY hL.nd}
end
def Kr.kp(e:Kp H H')(h:Kr K H c W):Kr K H' c W:=Paired.mapP h λ_ _ q=>q.imp λ_ q=>q.imp λ_ q=>⟨q.1,e.tq q.2.1,fL e q.2.2⟩
def r6(x:Str)(arms:Om)(l:Os):Wl:=(arms.zip l).map λp=>(f8 x p.1,p.2)
def Gi(h:l.length=arms.length):(r6 x arms l).length=arms.length:=by unfold r6;rw[b_,List.length_zip,h,Nat.min_self]
def IO{x:Str}{arms:Om}{l:Os}{i:Nat}{y:Str}{z:Int}(h1:arms[i]?=some y)(h2:l[i]?=some z):(r6 x arms l)[i]?=some (f8 x y,z):=by unfold r6;rw[gg,List.getElem?_zip_eq_some (z:=(y,z))|>.mpr ⟨h1,h2⟩];rfl
theorem t5:∀{arms:Om}{l:Os},l.length=arms.length->(r6 x arms l).map (·.1)=arms.map (f8 x)|[],_,_=>rfl|y::r,[],h=>nomatch h|y::r,z::l,h=>by show f8 x y::(r6 x r l).map (·.1)=f8 x y::r.map (f8 x);rw[t5 (by simpa using h)]
def Bi(h:f8 x y=f8 z u):x=z/\y=u:=by have h:=pv h;rw[List.cons.injEq,List.cons.injEq]at h;exact⟨pv h.1,pv h.2.1⟩
def IN(h:l.length=arms.length)(hn:arms.Nodup):((r6 x arms l).map (·.1)).Nodup:=by rw[t5 h,z5,N2];exact(z5.mp hn).imp λh e=>h (Bi e).2
def IM(h:∀i∈l,0<=i):∀y∈r6 x arms l,0<=y.2:=λy b=>by obtain⟨p,c,rfl⟩:=ir.mp b;exact h _ (M8 c).2
def Fy{S:AS}{j k:cn}{n:Nat}{q:Int}(h:q∈(S.give j n).pl k):q∈S.pl k:=by
 have h:q∈(if k=j then(S.pl j).take n else S.pl k):=h
 split at h
 ·rename_i e;rw[e];exact M3 h
 ·exact h
theorem mH:∀{W:Wl}{S:AS}{k:cn}{q:Int},q∈(cO S W).pl k->q∈S.pl k|[],_,_,_,h=>h|x::r,_,_,_,h=>Fy (mH (W:=r) h)
theorem lS:∀{W:Wl}{S:AS}{k:cn}{q:Int},q∈(dC n S W).pl k->q∈S.pl k\/k∈W.map (·.1)
 |[],_,_,_,h=>.inl h|x::r,S,k,q,h=>by
  rcases lS (W:=r) h with h|h
  ·have h:q∈(if k=x.1 then S.pl x.1++_ else S.pl k):=h
   split at h
   ·rename_i e;exact .inr (by rw[lm,e];exact il)
   ·exact .inl h
  ·exact .inr (hY _ h)
section
variable{P:Ol}{w:World}{K:Of}{a:gK}{H d:Hp}{M:cA}{Z:ZS}{c:Nat}
theorem cL.told(h:cL P w K a H M Z c)(A:M.las[i]?=some l)(o:mK (Z.G (.od i)) (Z.G (.td i)) H d)(C:eT P w K a.bX d (Z.G (.tb i)) (Z.G (.od i)) (Z.G (.td i)) M.p f s L)(N:jw M.p v f L)(Q:vD (dw K H) M.p v f)(I:fB H (Z.tk i) s)(b1:s.length<=(Z.tk i).length+10)(b2:f.length<=(Z.ow i).length+5000)(hok:v.Ok M.p)(own:∀k q,q∈v.pl k->(∃D,D∈l.S.pl k)\/k=f8 "" ""\/∃t∈M.trs,t.home=l.nm/\∃y∈t.arms,k=f8 t.nm y):∃B,cL P w K a d (M.setL i {l with S:=v}) B (c+1)/\gM H M Z d (M.setL i {l with S:=v}) B/\B.ds=Z.ds/\B.G=Z.G:=by
 have J:=h.ok.la l (f_ A);obtain⟨m,U,_⟩:=h.g.tab A;have len:(M.setL i {l with S:=v}).las.length=M.las.length:=ri ..;refine⟨_,⟨h.g.told A o C N Q I,h.ok.setL A rfl (qr c) {J.mono (qr c)with ok:=hok,own:=λk q O=>?_},λj=>?_,λj=>?_,H_ h.ds⟩,⟨rfl,λb ob e n=>?_,λb q=>?_,λb z=>qi o (by rw[C.own];simp) (by rw[C.tak];simp) z,rfl⟩,rfl,rfl⟩
 ·rcases own k q O with⟨D,h1⟩|h1
  ·exact J.own k D h1
  ·exact h1
 ·show(if j=i then s else Z.tk j).length<=_;have:=h.tk j
  split
  ·rename_i e;subst e;lia
  ·lia
 ·show(if j=i then f else Z.ow j).length<=_;have:=h.ow j
  split
  ·rename_i e;subst e;lia
  ·lia
 ·have hi:=(d_.mp A).1;exact o b ob e (λz=>n (.inl ⟨.od i,hi,z⟩)) (λz=>n (.inl ⟨.td i,hi,z⟩))
 ·rcases q with⟨r,R,e⟩|⟨j,E,x,u,e⟩|⟨x,u,e⟩
  ·exact .inl (.inl ⟨r,by rw[<-len];exact R,e⟩)
  ·rw[len]at E
   replace u:x∈(if j=i then s else Z.tk j):=u
   by_cases q:j=i
   ·rw[hA q]at u;subst q;rcases I x u with⟨y,T,F⟩|⟨V,F,hn⟩
    ·exact .inl (.inr (.inl ⟨j,E,y,T,by rw[F,e]⟩))
    ·rw[F]at e;cases e;exact .inr hn
   ·rw[g8 q]at u;exact .inl (.inr (.inl ⟨j,E,x,u,e⟩))
  ·exact .inl (.inr (.inr ⟨x,u,e⟩))
end
def cj.get(h:cj K H iv ins)(k:Nat)(x:cp×V)(e:iv[k]?=some x):∃y,ins[k]?=some y/\x.1=.inr y.1:=(Paired.at_ h k x e).imp λ_ q=>⟨q.1,q.2.1⟩
def cj.len(h:cj K H iv ins):iv.length=ins.length:=Paired.length h
def BT{z:Int}{l:Os}:oJ (.int z) (l.map V.int)=decide (z∈l):=by
 by_cases h:z∈l
 ·rw[ji h];unfold oJ;rw[N8];exact⟨.int z,ir.mpr ⟨z,h,rfl⟩,by show(z==z)=true;exact t6 z⟩
 ·rw[i_ h];unfold oJ;rw[List.any_eq_false];intro v b e;obtain⟨y,c,rfl⟩:=ir.mp b;have e:(y==z)=true:=e;exact h (by rw[<-eq_of_beq e];exact c)
theorem oI:∀l:List Int,(l.map V.int).all og=true|[]=>rfl|w::r=>by rw[lm,M0,oI r];rfl
def J8(M:cA)(l:dS)(c:Os):List Str:=(l.ins.map (·.1)).filter λg=>decide (vP M.p M.salt l.sl g∈c)
def ui(M:cA)(l:dS)(t:eP)(ns:Os):AS:=dC M.p (cO l.S (r6 t.nm t.arms ns)) (r6 t.nm t.arms ns)
def om(M:cA)(i:Nat)(l:dS)(t:eP)(ns:Os):cA:=M.setL i {l with S:=ui M l t ns,ins:=dO l.ins (J8 M l (dY l.S (r6 t.nm t.arms ns)))}
inductive Gx(P:Ol)(w:World)(K:Of)(a:gK)(vs:List V)(H:Hp)(Q:VK)(E:XK):Prop|mk(M:cA)(Z:ZS)(c i j:Nat)(l:dS)(t:eP)(nv:Addr)(ns:Os)(_:vs=[.ref (Z.G .hh),.str t.nm,.ref nv])(_:cL P w K a H M Z c)(_:c<=63)(_:M.trs[j]?=some t)(_:M.las[i]?=some l)(_:l.nm=t.home)(_:(be K H nv (ns.map V.int)\/bj K H nv (ns.map V.int)))(_:ns.length=t.arms.length)(_:(∀x∈ns,0<=x))(_:(jK l.S (r6 t.nm t.arms ns)<=((qA M.p l.S.oc).length:Int)->∀(r:Addr)(us:List V)(Z':ZS)(H':Hp),gM H M Z H' (om M i l t ns) Z'->cL P w K a H' (om M i l t ns) Z' (c+1)->H r=none->H' r=some (.lst us)->Z'.ds=Z.ds->Q (.ref r) H'))(_:(((qA M.p l.S.oc).length:Int)<jK l.S (r6 t.nm t.arms ns)->∀H',am H H'->E (.ref a.hE) none H'))
section
def gE(T:Txt K mg a):aT P w K mg base (lP P w) 4 a.bL.x a.bL.d ["self","name","numbers"] (Gx P w K a):=by
 refine T.bL.okE dD λd2 A outer s H vs Q E hr h=>?_
 ·obtain⟨M,Z,c,i,j,l,t,nv,ns,rfl,u,hc,hj,hl,hh,b9,ad,cc,q,qe⟩:=h;refine⟨_,(ah (bu 3 dD.nd (fT (cN hr) (aM K rfl (Y 0)) (Y 1) (λ_ _=>rfl))) (ah (xE (i:=4) dD.nd rfl (.inr rfl) (fT (cN hr) (aM K rfl (Y 0)) (aM K rfl (Y 3)) (λ_ _=>rfl))) (ah (xE (i:=5) dD.nd rfl (.inr rfl) (a9 (aM K rfl (Y 4)) T.bG T.eg.m ((nV (P:=P) (w:=w) T).mono (by decide)) hr T.eg.b .nil bo (ac (vC cY ["arm","number"] [] [7,8] (ak fj) (x6 _ 7 8) (G3 K rfl rfl T.Ly (ac (aM K rfl (Y 3)) (ac (Y 2) O))) (λcl C s₀ H₀ ex=>⟨(iV K rfl rfl (cg (pT cY ["arm","number"] 7) (cg (pT cY ["arm","number"] 8) iU))),cE,(bn (ac (bn (ac (Y 1) (ac (Y 7) O))) (ac (Y 8) O)))⟩)) O))) (ah (Ar (P:=P) (w:=w) (Kn 6 cY ["guest"] [] [7] (ak fj) (cG 7) (G6 (P:=P) (w:=w) (aM K rfl (Y 4))) (λcl C s₀ H₀ ex=>⟨(pT cY ["guest"] 7),(tS (aH (qY K rfl) (a9 (Y 0) T.ay T.cr.m ((jI (P:=P) (w:=w) T).mono (by decide)) hr T.cr.b .nil bE (ac (Y 4) (ac (Y 7) O))) (Y 5) (by with_unfolding_all rfl))),(Y 7)⟩) dD.nd)) (ai (aF (a9 (Y 0) T.ay T.cH.m ((kB (P:=P) (w:=w) T).mono (by decide)) hr T.cH.b .nil bE (ac (Y 4) (ac (Y 6) O))))))))),?_⟩
  have a7:=f_ hj;have hT:=u.ok.tr t a7;have hL:=u.ok.la l (f_ hl);have hI:=u.g.house;have a8:=u.g.trial hj;obtain⟨ba,-,-⟩:=u.g.trs j t hj;have bb:=u.ok.lget (Z:=Z) hl;rw[hh]at bb;refine gL hI T.ay T.aR rfl rfl (U rfl (rG (.ref (Z.G (.tr j))) (by rw[<-u.ok.tget (Z:=Z) hj];exact eE.k (k:=.inr t.nm) u.g.tris) (av ?_)));refine gL hI T.ay T.aW rfl rfl (gL a8 T.bA T.jW rfl rfl (rG (.ref (Z.G (.lo i))) (by rw[<-bb];exact eE.k (k:=.inr t.home) u.g.lays) (av ?_)));obtain⟨m,bc,d3⟩:=u.g.tab hl;obtain⟨d4,ci⟩:=bc.ins;refine gL (u.g.layer hl) T.cx T.gG rfl rfl (rM ci rfl ?_);refine gL a8 T.bA T.fJ rfl rfl (U rfl ⟨Z.ar j,nv,t.arms.map V.str,ns.map V.int,rfl,ba,?_⟩);have d5:(r6 t.nm t.arms ns).length=t.arms.length:=Gi ad;have ea:=hT.a4;refine Dh (K:=K) (a:=Z.ar j) (l:=nv) (xs:=t.arms.map V.str) (ys:=ns.map V.int) (λD k f H'=>am H H'/\H' D=some (.lst f)/\Kr K H' f ((r6 t.nm t.arms ns).take k)) b9 (λD hD=>⟨aj (am.refl _) hD,af,.nil⟩) (by rw[b_,b_,ad]) (λD k f H' h=>⟨am.tseq h.1 ba,h.1⟩) ?_ ?_
  ·rintro D k x1 x2 f H2 T1 hD ax bi⟨s2,a2,L⟩cP;have hi:k<(t.arms.map V.str).length:=(d_.mp ax).1;rw[gg]at ax bi;obtain⟨ya,c0,rfl⟩:=Option.map_eq_some_iff.mp ax;obtain⟨z2,c1,rfl⟩:=Option.map_eq_some_iff.mp bi;refine qj cP λJ s3 a3=>?_;refine⟨T1,U rfl ⟨bj.of a3,rfl,_,U rfl (av ⟨_,U rfl (av ⟨rfl,ju (bp ?_)⟩)⟩)⟩⟩;refine U rfl (U rfl ⟨ls rfl,λB c2=>(U rfl ⟨ls rfl,λT5 bl=>?_⟩)⟩);have s5:=aj (o:=.tup [.ref B,.int z2]) (aj (o:=.tup [.str t.nm,.str ya]) s3 c2) bl;have e5:aD (aD J B (.tup [.str t.nm,.str ya])) T5 (.tup [.ref B,.int z2]) T5=some (.tup [.ref B,.int z2]):=af;have e4:aD (aD J B (.tup [.str t.nm,.str ya])) T5 (.tup [.ref B,.int z2]) B=some (.tup [.str t.nm,.str ya]):=by rw[ao (aI af bl)];exact af
   have eb:f.length<=4:=by have:=Paired.length L;rw[ku]at this;lia
   show aD (aD J B (.tup [.str t.nm,.str ya])) T5 (.tup [.ref B,.int z2]) D=some (.lst f)/\_;generalize aD (aD J B (.tup [.str t.nm,.str ya])) T5 (.tup [.ref B,.int z2])=H5 at s5 e4 e5⊢;have N:=s5 _ _ a2;have kp:Kp H5 (aD H5 D (.lst (f++[.ref T5]))):=.lst N;refine⟨N,by rw[hH];lia,lf hi ⟨bV (s2.trans s5) hD,af,?_⟩⟩;rw[gx (IO c0 c1)];exact Paired.snoc ((L.kp (.of s5)).kp kp) ⟨T5,.ref B,rfl,kp.tq (bj.of e5),B,rfl,kp.tq (bj.of e4)⟩
  ·rintro D f H2 hD⟨s2,a2,L⟩;rw[b_,iA (by lia)]at L;have a5:=u.same s2;obtain⟨m2,a6,bt⟩:=a5.g.tab hl;have ec:=u.tk i;have ed:=u.ow i;have hp:=u.ok.p;refine⟨Z.G (.tb i),Z.G (.od i),Z.G (.td i),D,M.p,Z.ow i,Z.tk i,m2,l.S,r6 t.nm t.arms ns,f,rfl,a6,bt,(a5.g.tabs i l hl).2.2.1,hL.ok,a2,L,IM cc,IN ad hT.nd,by lia,by lia,by lia,by lia,λc3 lb ef ej m' J off a3 c4 da ek R nw nl b1 b2=>av ?_,λdc J s3=>qe dc J (s2.trans s3)⟩;obtain⟨Z3,v,di,dt,eG⟩:=a5.told hl off a3 c4 da nw b1 b2 (kR _ (jk _ hL.ok)) λk x hx=>by
    rcases lS hx with h|h
    ·exact .inl ⟨x,mH h⟩
    ·rw[t5 ad]at h;obtain⟨y,hy,rfl⟩:=ir.mp h;exact .inr (.inr ⟨t,a7,hh.symm,y,hy,rfl⟩)
   have ag:=ul (l':={l with S:=ui M l t ns}) hl;have v:cL P w K a J (M.setL i {l with S:=ui M l t ns}) Z3 (c+1):=v;have bz:=v.g.seats i _ ag;have W:=v.g.layer ag;have F:=v.g.house;have I:=v.g.inside ag;rw[eG]at F W I;refine gL W T.cx T.bY rfl rfl ⟨Z.G (.iu i),U rfl ⟨I,λep=>λDg an=>?_⟩⟩;have nd:Z.G (.iu i)≠Dg:=λz=>by rw[<-z,af]at an;cases an
   have as:J Dg=none:=by rw[ao (m3 nd)]at an;exact an
   have el:(l.ins.map (·.1)).length=(Z3.iv i).length:=by rw[b_];exact bz.len.symm
   have en:=hL.len;refine ye (n:=(Z3.iv i).length) (λk f H2=>(∀b o,J b=some o->b≠Z.G (.iu i)->H2 b=some o)/\H2 (Z.G (.iu i))=some (dE P w (Z.G (.iu i)) (Z3.iv i) ep)/\H2 Dg=some (.lst f)/\f=(((l.ins.map (·.1)).take k).filter λg=>decide (vP M.p M.salt l.sl g∈dY l.S (r6 t.nm t.arms ns))).map V.str) ⟨λb o e n=>by rw[ao (aI e as),ao n];exact e,by rw[ao nd,af],af,rfl⟩ (λk f H2 hk h=>⟨h.2.1,hk⟩) ?_ ?_
   ·rintro k f H4 x H5 hk⟨f4,X,aa,rfl⟩⟨rfl,hx⟩;obtain⟨p0,dv,rfl⟩:=Option.map_eq_some_iff.mp hx;obtain⟨y,hy,ey⟩:=bz.get k p0 dv;have dz:=hL.gs y (f_ hy);rw[ey];have bT:Z.G .hh≠Z.G (.iu i):=λz=>by rw[z,I]at F;cases F
    have dT:Z.G (.lo i)≠Z.G (.iu i):=λz=>by rw[z,I]at W;cases W
    have dV:lb≠Z.G (.iu i):=λz=>by rw[z,I]at R;cases R
    have eo:=hL.sl;refine av (jG (f4 _ _ F bT) rfl rfl (U rfl (U rfl ⟨Z.G .hh,Z.G (.lo i),_,_,_,_,M.p,M.salt,l.sl,y.1,rfl,f4 _ _ F bT,rfl,rfl,f4 _ _ W dT,rfl,dz,⟨by lia,by lia⟩,⟨by lia,by lia⟩,λH6 s6=>?_⟩)));refine U rfl ⟨lb,U rfl ⟨.inl (be.of (s6 _ _ (f4 _ _ R dV))),rfl,oI _,U rfl ?_⟩⟩;have bU:(l.ins.map (·.1)).take (k+1)=(l.ins.map (·.1)).take k++[y.1]:=gx (by rw[gg,hy];rfl);have al:((((l.ins.map (·.1)).take k).filter λg=>decide (vP M.p M.salt l.sl g∈dY l.S (r6 t.nm t.arms ns))).map V.str).length<=63:=by rw[b_];refine kl (si _ _) ?_;rw[ku,b_];lia
    show if(if false=true then _ else oJ (.int (vP M.p M.salt l.sl y.1)) _)=true then _ else _
    rw[g8 hF,BT];have f6:∀b o,J b=some o->b≠Z.G (.iu i)->H6 b=some o:=λb o e n=>s6 _ _ (f4 b o e n)
    by_cases ap:vP M.p M.salt l.sl y.1∈dY l.S (r6 t.nm t.arms ns)
    ·rw[ji ap];refine bp (U rfl ⟨s6 _ _ aa,by rw[hH];lia,lf hk ⟨λb o e n=>by rw[ao (aI e as)];exact f6 b o e n,by rw[ao nd];exact s6 _ _ X,af,?_⟩⟩);rw[bU,NW,g6,List.filter_cons_of_pos (by simpa using ap)];rfl
    ·rw[i_ ap];refine bN (lf hk ⟨f6,s6 _ _ X,by rw[s6 _ _ aa],?_⟩);rw[bU,NW,g6,List.filter_cons_of_neg (by simpa using ap)];exact(u1 _).symm
   ·rintro f H4⟨f4,X,aa,rfl⟩;refine⟨⟨X,fx _⟩,av ⟨Z.G (.iu i),_,ep,X,?_⟩⟩;rw[iA (by lia)]at aa;have s4:am J (aD H4 (Z.G (.iu i)) (.dK (Z3.iv i))):=λb o e=>by
     by_cases z:b=Z.G (.iu i)
     ·rw[z,I]at e;rw[z,af];exact e
     ·rw[ao z];exact f4 b o e z
    have N:aD H4 (Z.G (.iu i)) (.dK (Z3.iv i)) Dg=some (.lst ((J8 M l (dY l.S (r6 t.nm t.arms ns))).map V.str)):=by rw[ao (m3 nd)];exact aa
    generalize aD H4 (Z.G (.iu i)) (.dK (Z3.iv i))=H5 at s4 N⊢;refine jG (s4 _ _ F) rfl rfl (U rfl (U rfl ⟨M.setL i {l with S:=ui M l t ns},Z3,c+1,i,_,Dg,J8 M l (dY l.S (r6 t.nm t.arms ns)),by rw[eG];rfl,v.same s4,ag,N,λx hx=>(pa.mp hx).1,List.filter_sublist.nodup hL.nd,?_,λr us Z6 H6 bX b0 hr d1 b7=>?_⟩))
    ·refine kl (si _ _) ?_;rw[b_];lia
    ·rw[uk]at bX b0;have b8:gM H M Z H5 (M.setL i {l with S:=ui M l t ns}) Z3:=((gM.of s2).trans di).trans (gM.of s4);exact q c3 r us Z6 H6 (b8.trans bX) b0 (b8.dm _ hr) d1 (b7.trans dt)
end
abbrev cA.setT(M:cA)(j:Nat)(t:eP):cA:={M with trs:=M.trs.set j t}
def j8{M:cA}{i:Nat}{t t':eP}(c:M.trs[i]?=some t):(M.setT i t').trs[i]?=some t':=by show(M.trs.set i t')[i]?=_;rw[rr (d_.mp c).1]
section
variable{P:Ol}{w:World}{K:Of}{a:gK}{H d:Hp}{M:cA}{Z:ZS}{c:Nat}
theorem oS.setT(h:oS M c){j:Nat}{t f:eP}(g:M.trs[j]?=some t)(h1:f.nm=t.nm)(h2:f.home=t.home)(h3:f.arms=t.arms)(h4:f.rule=t.rule)(h5:f.shuts=t.shuts)(p:f.bar.length<=c):oS (M.setT j f) c:=by
 have r:(M.trs.set j f).map eP.nm=M.trs.map eP.nm:=eJ g eP.nm h1;refine{h with tn:=by rw[r];exact h.tn,la:=λl s=>?_,tr:=λx b=>?_,tc:=by show(M.trs.set j f).length<=10;rw[ri];exact h.tc,br:=λx b=>?_}
 ·have q:=h.la l s;refine{q with own:=λk z u=>?_};rcases q.own k z u with e|⟨x,b,m,y,n,o⟩
  ·exact .inl e
  ·obtain⟨i,hi⟩:=h_.mp b
   by_cases e:i=j
   ·subst e;rw[g]at hi;cases hi;exact .inr ⟨f,f_ (j8 g),by rw[h2];exact m,y,by rw[h3];exact n,by rw[h1];exact o⟩
   ·exact .inr ⟨x,f_ (i:=i) (by rw[m_ λz=>e z.symm];exact hi),m,y,n,o⟩
 ·rcases C1 b with q|rfl
  ·exact{h.tr x q with}
  ·have q:=h.tr t (f_ g);exact⟨by rw[h1];exact q.wd,by rw[h2];exact q.hm,by rw[h3];exact q.a1,by rw[h3];exact q.a4,by rw[h3];exact q.nd,by rw[h3];exact q.aw,by rw[h4];exact q.hg,by rw[h5];exact q.s8⟩
 ·rcases C1 b with q|rfl
  ·exact h.br x q
  ·exact p
theorem cL.setTr(h:cL P w K a H M Z c)(e:M.trs[j]?=some t)(h1:t'.nm=t.nm)(h0:t'.home=t.home)(h2:t'.arms=t.arms)(h3:t'.rule=t.rule)(h4:t'.shuts=t.shuts)(i:t'.bar.length<=c)(f:(r0=.tr j/\t'.bar=t.bar)\/(r0=.ba j/\t'.home=t.home/\t'.pau=t.pau/\t'.clo=t.clo))(l:cont P w a (M.setT j t') Z r0=some o'):cL P w K a (aD H (Z.G r0) o') (M.setT j t') Z c/\gM H M Z (aD H (Z.G r0) o') (M.setT j t') Z:=by refine⟨⟨h.g.setTr e h1 h2 h3 h4 f l,h.ok.setT e h1 h0 h2 h3 h4 i,h.tk,h.ow,h.ds⟩,gM.put ?_ rfl rfl (ri ..) rfl λx b=>.inl b⟩;have hi:=(d_.mp e).1;rcases f with⟨rfl,_⟩|⟨rfl,_⟩<;>exact hi
end
theorem wP{S:AS}:∀{W:Wl},(∀x∈W,x.2=0)->jK S W<=0|[],_=>N9 _|x::r,h=>by rw[AD,h x il];have:=wP (S:=S) (W:=r) λy b=>h y (hY _ b);lia
def qy:cn:=f8 "" ""
def Fs(M:cA)(i:Nat)(l:dS)(z:Int):cA:=M.setL i {l with S:=dC M.p (cO l.S [(qy,z)]) [(qy,z)]}
def oT(t:eP):List Int:=List.replicate t.arms.length 0
inductive Jm(P:Ol)(w:World)(K:Of)(a:gK)(vs:List V)(H:Hp)(Q:VK)(E:XK):Prop|mk(M:cA)(Z:ZS)(c i:Nat)(l:dS)(z:Int)(_:vs=[.ref (Z.G .hh),.str l.nm,.int z])(_:cL P w K a H M Z c)(_:c<=63)(_:M.las[i]?=some l)(_:0<=z)(_:(jK l.S [(qy,z)]<=((qA M.p l.S.oc).length:Int)->∀(r:Addr)(Z':ZS)(H':Hp),gM H M Z H' (Fs M i l z) Z'->cL P w K a H' (Fs M i l z) Z' (c+1)->H r=none->H' r=some (.lst [])->Z'.ds=Z.ds->Q (.ref r) H'))(_:(((qA M.p l.S.oc).length:Int)<jK l.S [(qy,z)]->∀H',am H H'->E (.ref a.hE) none H'))
inductive GC(P:Ol)(w:World)(K:Of)(a:gK)(vs:List V)(H:Hp)(Q:VK)(E:XK):Prop|mk(M:cA)(Z:ZS)(c j:Nat)(t:eP)(b:Bool)(_:vs=[.ref (Z.G .hh),.str t.nm,.bl b])(_:cL P w K a H M Z c)(_:M.trs[j]?=some t)(_:∀(r:Addr)(H':Hp),gM H M Z H' (M.setT j {t with pau:=b}) Z->cL P w K a H' (M.setT j {t with pau:=b}) Z c->H r=none->H' r=some (.lst [])->Q (.ref r) H')
inductive GM(P:Ol)(w:World)(K:Of)(a:gK)(vs:List V)(H:Hp)(Q:VK)(E:XK):Prop|mk(M:cA)(Z:ZS)(c i j:Nat)(l:dS)(t:eP)(_:vs=[.ref (Z.G .hh),.str t.nm])(_:cL P w K a H M Z c)(_:c<=63)(_:M.trs[j]?=some t)(_:M.las[i]?=some l)(_:l.nm=t.home)(_:∀(r:Addr)(us:List V)(Z':ZS)(H':Hp),gM H M Z H' (om (M.setT j {t with clo:=true}) i l {t with clo:=true} (oT t)) Z'->cL P w K a H' (om (M.setT j {t with clo:=true}) i l {t with clo:=true} (oT t)) Z' (c+1)->H r=none->H' r=some (.lst us)->Z'.ds=Z.ds->Q (.ref r) H')
section
def q8(T:Txt K mg a):aT P w K mg base (lP P w) 4 a.dU.x a.dU.d ["self","name","number"] (Jm P w K a):=by
 refine T.dU.okE qV λap A outer s H vs Q E u h=>?_
 ·obtain⟨M,Z,c,i,l,z,rfl,f,hc,j,hz,q,qe⟩:=h;refine⟨_,(ah (aO (a9 (aM K rfl (fT (cN u) (aM K rfl (Y 0)) (Y 1) (λ_ _=>rfl))) T.bG T.eg.m ((nV (P:=P) (w:=w) T).mono (by decide)) u T.eg.b .nil bo (ac (bf (ac (bn (ac (bC (v:=.ref a.vA) ⟨_,T.Fb,rfl⟩ rfl) (ac (Y 2) O))) O)) O))) (ai (aF (bf O)))),?_⟩
  have hL:=f.ok.la l (f_ j);obtain⟨m,y,as⟩:=f.g.tab j;obtain⟨ax,I⟩:=y.ins;refine gL f.g.house T.ay T.aW rfl rfl (U rfl (rG (.ref (Z.G (.lo i))) (by rw[<-f.ok.lget (Z:=Z) j];exact eE.k (k:=.inr l.nm) f.g.lays) ?_));refine rF (f.g.layer j) T.cx T.gG rfl (rM I rfl ?_);refine U rfl ⟨ls rfl,λe J=>⟨ls rfl,λD hD=>?_⟩⟩;have F:=aj (o:=.lst [.ref e]) (aj (o:=.tup [.ref a.vA,.int z]) (am.refl H) J) hD;have e5:aD (aD H e (.tup [.ref a.vA,.int z])) D (.lst [.ref e]) D=some (.lst [.ref e]):=af;have e4:aD (aD H e (.tup [.ref a.vA,.int z])) D (.lst [.ref e]) e=some (.tup [.ref a.vA,.int z]):=by rw[ao (aI af hD)];exact af
  generalize aD (aD H e (.tup [.ref a.vA,.int z])) D (.lst [.ref e])=H2 at F e4 e5⊢;have n:=f.same F;obtain⟨m2,t,B⟩:=n.g.tab j;have a2:=f.tk i;have a3:=f.ow i;have hp:=f.ok.p;refine⟨Z.G (.tb i),Z.G (.od i),Z.G (.td i),D,M.p,Z.ow i,Z.tk i,m2,l.S,[(qy,z)],[.ref e],rfl,t,B,(n.g.tabs i l j).2.2.1,hL.ok,e5,.cons ⟨e,.ref a.vA,rfl,bj.of e4,a.vA,rfl,T.BQ.sq _⟩ .nil,λx L=>by rw[List.mem_singleton.mp L];exact hz,by simp,by simp,by lia,by lia,by lia,λN lb a5 a6 m' R off V W X a7 an nw nl b1 b2=>?_,λaa R s3=>qe aa R (F.trans s3)⟩;obtain⟨Z3,ad,ag,al,eG⟩:=n.told j off V W X nw b1 b2 (kR _ (jk _ hL.ok)) λk x L=>by
   rcases lS L with h|h
   ·exact .inl ⟨x,mH h⟩
   ·exact .inr (.inl (List.mem_singleton.mp h))
  refine⟨ls rfl,λr u=>?_⟩;have s4:=aj (o:=.lst []) (am.refl R) u;have C:=(gM.of F).trans ag;exact q N r Z3 _ (C.trans (gM.of s4)) (ad.same s4) (C.dm _ u) af al
def jJ(T:Txt K mg a):aT P w K mg base dq 1 a.cu.x a.cu.d ["self","name","paused"] (GC P w K a):=by
 refine T.cu.ok jC λu A outer s H v Q E l h=>?_
 ·obtain⟨M,Z,c,j,t,b,rfl,e,f,q⟩:=h;refine⟨_,(ah (bu 3 jC.nd (fT (cN l) (aM K rfl (Y 0)) (Y 1) (λ_ _=>rfl))) (ah (cF K rfl (Y 3) (Y 2)) (ai (aF (bf O))))),?_⟩
  have m:=e.g.trial f;refine gL e.g.house T.ay T.aR rfl rfl (U rfl (rG (.ref (Z.G (.tr j))) (by rw[<-e.ok.tget (Z:=Z) f];exact eE.k (k:=.inr t.nm) e.g.tris) (av ?_)));refine U rfl (U rfl ⟨Z.G (.tr j),_,_,U rfl ⟨m,T.bA,T.iJ,by simp,?_⟩⟩);obtain⟨n,i⟩:=e.setTr (t':={t with pau:=b}) (r0:=.tr j) f rfl rfl rfl rfl rfl (e.ok.br t (f_ f)) (.inl ⟨rfl,rfl⟩) (by simp only[cont,j8 f];rfl);refine⟨ls rfl,λr l=>?_⟩;have p:=aj (o:=.lst []) (am.refl _) l;exact q r _ (i.trans (gM.of p)) (n.same p) (i.dm _ l) af
def qh(T:Txt K mg a):aT P w K mg base (lP P w) 5 a.dh.x a.dh.d ["self","name"] (GM P w K a):=by
 refine T.dh.okE jD λap A outer s H vs Q E z h=>?_
 ·obtain⟨M,Z,c,i,j,l,t,rfl,f,hc,n,hl,hh,q⟩:=h;refine⟨_,(ah (bu 2 jD.nd (fT (cN z) (aM K rfl (Y 0)) (Y 1) (λ_ _=>rfl))) (ah (cF K rfl (Y 2) dZ) (ai (aF (a9 (Y 0) T.ay T.bL.m ((gE (P:=P) (w:=w) T).mono (by decide)) z T.bL.b .nil bo (ac (Y 1) (ac (az EG (bf (ac ae O)) (au (aJ K rfl) (by rfl) T.bx L2.aL (ac (aM K rfl (Y 2)) O))) O))))))),?_⟩
  have B:=f.g.trial n;refine gL f.g.house T.ay T.aR rfl rfl (U rfl (rG (.ref (Z.G (.tr j))) (by rw[<-f.ok.tget (Z:=Z) n];exact eE.k (k:=.inr t.nm) f.g.tris) (av ?_)));refine U rfl ⟨Z.G (.tr j),_,_,U rfl ⟨B,T.bA,T.eF,by simp,?_⟩⟩;have u:=j8 (t':={t with clo:=true}) n;obtain⟨e,C⟩:=f.setTr (t':={t with clo:=true}) (r0:=.tr j) n rfl rfl rfl rfl rfl (f.ok.br t (f_ n)) (.inl ⟨rfl,rfl⟩) (by simp only[cont,j8 n];rfl);have D:=e.g.house;have F:=e.g.trial u;obtain⟨v,-,-⟩:=e.g.trs j _ u;refine jG D rfl rfl (U rfl ⟨ls rfl,λI J=>?_⟩);have L:=aj (o:=.lst [.int 0]) (am.refl _) J;have e2:aD (aD H (Z.G (.tr j)) (.ins a.fP (Z.dx (.tr j)) [("home",.str t.home),("arms",.ref (Z.ar j)),("rule",Z.ru j),("shuts",.ref (Z.sh j)),("paused",.bl t.pau),("closed",.bl true),("barred",.ref (Z.G (.ba j)))])) I (.lst [.int 0]) I=some (.lst [.int 0]):=af;refine gL (L _ _ F) T.bA T.fJ rfl rfl ⟨_,t.arms.length,rfl,.inr ⟨_,am.tseq L v,by simp⟩,I,_,U rfl ⟨rfl,e2,by lia,by have:=(f.ok.tr t (f_ n)).a4;lia,dn (by have:=(f.ok.tr t (f_ n)).a4;simp;lia),λg hg=>?_⟩⟩;have N:=aj (o:=.lst (List.replicate (t.arms.length:Int).toNat [V.int 0]).flatten) L hg;have e0:(List.replicate (t.arms.length:Int).toNat [V.int 0]).flatten=(oT t).map V.int:=by
   unfold oT;rw[op,List.map_replicate];generalize t.arms.length=j
   induction j with|zero=>rfl|succ j ih=>rw[qq,z3,ih,qq];rfl
  rw[e0]at N⊢;have R:∀x∈r6 t.nm t.arms (oT t),x.2=0:=λx W=>by obtain⟨p,hp,rfl⟩:=ir.mp W;exact List.eq_of_mem_replicate (M8 hp).2
  have X:=wP (S:=l.S) R;refine⟨M.setT j {t with clo:=true},Z,c,i,j,l,{t with clo:=true},g,oT t,rfl,e.same N,hc,u,hl,hh,.inl (be.of af),y3,λx W=>by rw[List.eq_of_mem_replicate W];exact N9 _,λas r us Z' H4 aa ad z ag al=>?_,λan=>absurd X (by show¬jK l.S (r6 t.nm t.arms (oT t))<=0;have:jK l.S (r6 t.nm t.arms (oT t))>_:=an;lia)⟩;have y:=C.trans (gM.of N);exact q r us Z' H4 (y.trans aa) ad (y.dm _ z) ag al
end
def gZ(bs:Om)(g:Str):List Str:=if g∈bs then bs else bs++[g]
def Ey(bs:Om)(g:Str):fk (bs.map λg=>((.inr g:cp),V.bl true)) (.inr g) (.bl true)=(gZ bs g).map λg=>((.inr g:cp),V.bl true):=by
 unfold gZ
 by_cases h:g∈bs
 ·rw[hA h];unfold fk;rw[hA (by rw[List.any_map,N8];exact⟨g,h,by simp⟩),sD];refine C_ λx _=>?_;show(if((.inr x:cp))=.inr g then((.inr x:cp),V.bl true)else _)=_
  split<;>rfl
 ·rw[g8 h,pS,g6]
  ·rfl
  ·have:∀cs:List Str,g∉cs->bB (cs.map λg=>((.inr g:cp),V.bl true)) (.inr g)=none:=by
    intro cs
    induction cs with|nil=>intro _;rfl|cons x r b=>intro hn;rw[lm,bM λe=>hn (by rw[<-pv e];exact il)];exact b λz=>hn (hY _ z)
   exact this bs h
theorem EQ:∀{l:List d},(l.map f).Nodup->∀x∈l,∀y∈l,f x=f y->x=y
 |[],_,x,b,_,_,_=>nomatch b|z::r,h,x,b,y,c,e=>by
  rw[lm,Ob]at h;rcases q_.mp b with q|q<;>rcases q_.mp c with p|p
  ·rw[q,p]
  ·exact absurd (ir.mpr ⟨y,p,by rw[<-e,q]⟩) h.1
  ·exact absurd (ir.mpr ⟨x,q,by rw[e,p]⟩) h.1
  ·exact EQ h.2 x q y p e
def zV(l:dS)(t:eP)(g:Str):List Str:=if∃x∈l.ins,x.1=g/\x.2.1=t.nm then[g]else[]
def Bg(M:cA)(i j:Nat)(l:dS)(t:eP)(g:Str):cA:=(M.setT j {t with bar:=gZ t.bar g}).setL i {l with ins:=dO l.ins (zV l t g)}
inductive Lk(P:Ol)(w:World)(K:Of)(a:gK)(vs:List V)(H:Hp)(Q:VK)(E:XK):Prop|mk(M:cA)(Z:ZS)(c i j:Nat)(l:dS)(t:eP)(g:Str)(_:vs=[.ref (Z.G .hh),.str g,.str t.nm])(_:cL P w K a H M Z c)(_:c<=63)(_:M.trs[j]?=some t)(_:M.las[i]?=some l)(_:l.nm=t.home)(_:yy g)(_:∀(r:Addr)(us:List V)(Z':ZS)(H':Hp),gM H M Z H' (Bg M i j l t g) Z'->cL P w K a H' (Bg M i j l t g) Z' (c+1)->H r=none->H' r=some (.lst us)->Z'.ds=Z.ds->Q (.ref r) H')
section
def tE(T:Txt K mg a):aT P w K mg base dq 2 a.eB.x a.eB.d ["self","guest","name"] (Lk P w K a):=by
 refine T.eB.ok iH λax A outer s H vs Q E n h=>?_
 ·obtain⟨M,Z,c,i,j,l,t,g,rfl,p,hc,B,C,hh,hg,q⟩:=h;refine⟨_,(ah (bu 3 iH.nd (fT (cN n) (aM K rfl (Y 0)) (Y 2) (λ_ _=>rfl))) (ah (bu 4 iH.nd (fT (cN n) (aM K rfl (Y 0)) (aM K rfl (Y 3)) (λ_ _=>rfl))) (ah (k9 dZ (lc (aM K rfl (Y 3)) (Y 1) (qT (cN n)))) (ah (aP (PW.pt (kZ (ox (Av (cN n) (Y 1) (aM K rfl (Y 4))) rfl) (iP (aH aV (dB K (fT (cN n) (aM K rfl (Y 4)) (Y 1) (λ_ _=>rfl)) ae) (Y 2) (aG _))))) (ai (aF (a9 (Y 0) T.ay T.cH.m ((kB (P:=P) (w:=w) T).mono (by decide)) n T.cH.b .nil bE (ac (Y 4) (ac (bf (ac (Y 1) O)) O))))) aE) (ai (aF (bf O))))))),?_⟩
  have ad:=f_ B;have hL:=p.ok.la l (f_ C);have D:=p.g.trial B;have F:=p.ok.lget (Z:=Z) C;rw[hh]at F;refine gL p.g.house T.ay T.aR rfl rfl (U rfl (rG (.ref (Z.G (.tr j))) (by rw[<-p.ok.tget (Z:=Z) B];exact eE.k (k:=.inr t.nm) p.g.tris) (av ?_)));refine gL p.g.house T.ay T.aW rfl rfl (gL D T.bA T.jW rfl rfl (rG (.ref (Z.G (.lo i))) (by rw[<-F];exact eE.k (k:=.inr t.home) p.g.lays) (av ?_)));have I:=p.ok.br t ad;refine gL D T.bA T.iK rfl rfl (U rfl ⟨Z.G (.ba j),_,.inr g,rfl,rfl,p.g.barred B,by rw[b_,hH];lia,?_⟩);rw[Ey];have a2:=j8 (t':={t with bar:=gZ t.bar g}) B;obtain⟨f,v⟩:=(p.mono (qr c)).setTr (t':={t with bar:=gZ t.bar g}) (r0:=.ba j) (o':=.dK ((gZ t.bar g).map λg=>((.inr g:cp),V.bl true))) B rfl rfl rfl rfl rfl (by show(gZ t.bar g).length<=c+1;unfold gZ;split;exact H_ I;rw[gV];exact Nw I) (.inr ⟨rfl,rfl,rfl,rfl⟩) (by simp only[cont,j8 B];rfl);generalize aD H (Z.G (.ba j)) (.dK ((gZ t.bar g).map λg=>((.inr g:cp),V.bl true)))=H1 at f v⊢;have J:=f.g.layer C;have L:=f.g.inside C;have N:=f.g.seats i l C;refine U rfl (gL J T.cx T.bY rfl rfl (rG (bB (Z.iv i) (.inr g)) (eE.k (k:=.inr g) L) (U rfl ?_)));have u:zV l t g=[]->∀r,H1 r=none->Q (.ref r) (aD H1 r (.lst [])):=λe r n=>by
   have R:=aj (o:=.lst []) (am.refl _) n;have em:Bg M i j l t g=M.setT j {t with bar:=gZ t.bar g}:=by unfold Bg;rw[e,lu];exact mS (M:=M.setT j {t with bar:=gZ t.bar g}) C
   exact q r [] Z _ (em▸v.trans (gM.of R)) (em▸f.same R) (v.dm _ n) af rfl
  by_cases z:g∈l.ins.map (·.1)
  ·obtain⟨x,hx,ex⟩:=ir.mp z;obtain⟨s,hv,ag⟩:=N.find hL.nd x hx;rw[ex]at hv;rw[hv];refine bp (gL J T.cx T.bY rfl rfl (U rfl (rG (.ref s) (by rw[<-hv];exact eE.k (k:=.inr g) L) (rX ag (aq (k:=0) rfl) (U rfl ⟨rfl,U rfl ?_⟩)))))
   by_cases hq:x.2.1=t.nm
   ·have S:zV l t g=[g]:=hA ⟨x,hx,ex,hq⟩;rw[hq];refine cf (jG f.g.house rfl rfl (U rfl (U rfl ⟨ls rfl,λDg al=>?_⟩)));have R:=aj (o:=.lst [.str g]) (am.refl _) al;refine⟨M.setT j {t with bar:=gZ t.bar g},Z,c+1,i,l,Dg,[g],rfl,f.same R,C,af,λy W=>by rw[List.mem_singleton.mp W];exact z,by simp,by simp,λr us Z6 H6 an ap n as X=>?_⟩;have em:Bg M i j l t g=(M.setT j {t with bar:=gZ t.bar g}).setL i {l with ins:=dO l.ins [g]}:=by unfold Bg;rw[S]
    have aa:=v.trans (gM.of R);exact q r us Z6 H6 (em▸aa.trans an) (em▸ap) (aa.dm _ n) as X
   ·have S:zV l t g=[]:=g8 λ⟨y,W,e1,e2⟩=>hq (by rw[<-EQ hL.nd y W x hx (e1.trans ex.symm)];exact e2)
    refine tO hq ⟨ls rfl,u S⟩
  ·have S:zV l t g=[]:=g8 λ⟨y,W,e1,e2⟩=>z (ir.mpr ⟨y,W,e1⟩);rw[N.none z];exact bN ⟨ls rfl,u S⟩
end
def yo(M:cA)(nm:Str)(sl:Int):cA:={M with las:=M.las++[⟨nm,sl,AS.new,[]⟩]}
def yn(M:cA)(t:eP):cA:={M with trs:=M.trs++[t]}
section
variable{P:Ol}{w:World}{K:Of}{a:gK}{H d:Hp}{M:cA}{Z:ZS}{c:Nat}
def oS.addL(h:oS M c){nm:Str}{sl:Int}(g:Wd nm)(hn:nm∉M.las.map dS.nm)(i:0<=sl/\sl<=M.p)(h4:M.las.length<4):oS (yo M nm sl) c:=by
 have em:(M.las++[(⟨nm,sl,AS.new,[]⟩:dS)]).map dS.nm=M.las.map dS.nm++[nm]:=by rw[g6];rfl
 refine{h with ln:=?_,la:=λl j=>?_,tr:=λt f=>{h.tr t f with hm:=?_},l4:=by show(M.las++[_]).length<=4;rw[gV];exact h4}
 ·show((M.las++[(⟨nm,sl,AS.new,[]⟩:dS)]).map dS.nm).Nodup;rw[em,o8];exact⟨h.ln,by simp,λx b y m e=>hn (by rw[<-List.mem_singleton.mp m,<-e];exact b)⟩
 ·rcases List.mem_append.mp j with q|q
  ·exact{h.la l q with}
  ·rw[List.mem_singleton.mp q];exact⟨g,i,AS.new_ok _,j_ _,λx b=>(nomatch b),Nd,λk q n=>(nomatch n)⟩
 ·show t.home∈(M.las++[(⟨nm,sl,AS.new,[]⟩:dS)]).map dS.nm;rw[em];exact vr _ (h.tr t f).hm
def oS.addT(h:oS M c){t:eP}(ok:HW M t)(hn:t.nm∉M.trs.map eP.nm)(h4:M.trs.length<10)(f:t.bar=[]):oS (yn M t) c:=by
 refine{h with tn:=?_,la:=λl g=>?_,tr:=λx b=>?_,tc:=by show(M.trs++[_]).length<=10;rw[gV];exact h4,br:=λx b=>?_}
 ·show((M.trs++[t]).map eP.nm).Nodup;rw[g6,o8];exact⟨h.tn,by simp,λx b y i e=>hn (by rw[<-show y=t.nm from List.mem_singleton.mp i,<-e];exact b)⟩
 ·have q:=h.la l g;refine{q with own:=λk z j=>?_};rcases q.own k z j with e|⟨x,b,e⟩
  ·exact .inl e
  ·exact .inr ⟨x,vr _ b,e⟩
 ·rcases List.mem_append.mp b with q|q
  ·exact{h.tr x q with}
  ·rw[List.mem_singleton.mp q];exact{ok with}
 ·rcases List.mem_append.mp b with q|q
  ·exact h.br x q
  ·rw[List.mem_singleton.mp q,f];exact j_ _
end
inductive Cn(P:Ol)(w:World)(K:Of)(a:gK)(vs:List V)(H:Hp)(Q:VK)(E:XK):Prop|mk(M:cA)(Z:ZS)(c:Nat)(nm:Str)(sl:Int)(_:vs=[.ref (Z.G .hh),.str nm,.int sl])(_:cL P w K a H M Z c)(_:Wd nm)(_:nm∉M.las.map dS.nm)(_:(0<=sl/\sl<=M.p))(_:M.las.length<4)(_:∀(r:Addr)(Z':ZS)(H':Hp),gM H M Z H' (yo M nm sl) Z'->cL P w K a H' (yo M nm sl) Z' c->H r=none->H' r=some (.lst [])->Z'.ds=Z.ds->Q (.ref r) H')
inductive Cm(P:Ol)(w:World)(K:Of)(a:gK)(vs:List V)(H:Hp)(Q:VK)(E:XK):Prop|mk(M:cA)(Z:ZS)(c:Nat)(H0:Hp)(t ba dx ar sh:Addr)(ru:V)(x:eP)(_:vs=[.ref (Z.G .hh),.str x.nm,.ref t])(_:cL P w K a H0 M Z c)(_:am H0 H)(_:H0 t=none)(_:H0 ba=none)(_:H ba=some (.dK []))(_:H t=some (.ins a.fP dx [("home",.str x.home),("arms",.ref ar),("rule",ru),("shuts",.ref sh),("paused",.bl false),("closed",.bl false),("barred",.ref ba)]))(_:bj K H0 ar (x.arms.map V.str))(_:fw K H0 x.rule ru)(_:bj K H0 sh (x.shuts.map V.str))(_:x.pau=false)(_:x.clo=false)(_:x.bar=[])(_:HW M x)(_:x.nm∉M.trs.map eP.nm)(_:M.trs.length<10)(_:∀(r:Addr)(Z':ZS)(H':Hp),gM H0 M Z H' (yn M x) Z'->cL P w K a H' (yn M x) Z' c->H0 r=none->H' r=some (.lst [])->Z'.ds=Z.ds->Q (.ref r) H')
section
def qg(T:Txt K mg a):aT P w K mg base dq 5 a.dg.x a.dg.d ["self","name","slope"] (Cn P w K a):=by
 refine T.dg.ok py λaa A outer s H vs Q E j h=>?_
 ·obtain⟨M,Z,c,nm,sl,rfl,t,hw,hn,hs,h4,q⟩:=h;refine⟨_,(ah (k9 (tT T.EX ((tw (P:=P) (w:=w) T).mono (by decide)) j rfl T.Ht T.eu.b .nil bE (ac (Y 2) (ac (aM K rfl (Y 0)) O))) (lc (aM K rfl (Y 0)) (Y 1) (qT (cN j)))) (ai (aF (bf O)))),?_⟩
  have X:=t.g.house;refine U rfl (gL X T.ay T.cD rfl rfl (λlo ty l F ad=>?_));have f2:am H (aD (aD H ty (.own lo)) lo (.ins a.fh ty [])):=λb o e=>by rw[ao (aI e l),ao (aI e F)];exact e
  have m:aD (aD H ty (.own lo)) lo (.ins a.fh ty []) lo=some (.ins a.fh ty []):=af;generalize aD (aD H ty (.own lo)) lo (.ins a.fh ty [])=H2 at f2 m⊢;refine⟨lo,ty,sl,M.p,rfl,m,λtb od td iu I u J L N R f3 hL S hu=>⟨rfl,?_⟩⟩;have f:am H I:=λb o e=>f3 b o (f2 b o e) (aI e l);refine gL (f _ _ X) T.ay T.aW rfl rfl (U rfl ⟨Z.G .ln,_,.inr nm,rfl,rfl,f _ _ t.g.lays,by rw[iW,b_,hH];lia,?_⟩);rw[pS _ (kE hn)];have v:∀b,H b=none->b≠Z.G .ln:=λb e z=>by rw[z,t.g.lays]at e;cases e
  have y:=f2.free J;have B:=f2.free L;have C:=f2.free u;have D:=f2.free N;obtain⟨dT,iT⟩:=S.ins;obtain⟨Z',e1,V,e2,W,e4,hG,lv⟩:=t.g.newL (H':=aD I (Z.G .ln) (.dK (iX (M.las.map dS.nm) (λi=>.ref (Z.G (.lo i)))++[(.inr nm,.ref lo)]))) (nm:=nm) (sl:=sl) l D C y B R (λb o e n=>by rw[ao n];exact f b o e) af (by rw[ao (v _ l)];exact hL) ⟨⟨dT,by rw[ao (v _ C)];exact iT⟩,by rw[ao (v _ y)];exact S.own,by rw[ao (v _ B)];exact S.tak,λx k=>(nomatch k),.nil⟩ (λz=>by rw[z,u]at m;cases m) (by rw[ao (v _ D)];exact hu)
  refine⟨ls rfl,λr j=>?_⟩;have s5:=aj (o:=.lst []) (am.refl _) j;have st:gM H M Z (aD I (Z.G .ln) (.dK (iX (M.las.map dS.nm) (λi=>.ref (Z.G (.lo i)))++[(.inr nm,.ref lo)]))) (yo M nm sl) Z':=by
   refine⟨e1,λb o e n=>by rw[ao λz=>n (.inl ⟨.ln,trivial,z⟩)];exact f b o e,λb z=>?_,λb z=>f.free (my z),V⟩;rcases z with⟨r,j,rfl⟩|⟨i,hi,x,k,e⟩|⟨x,k,e⟩
   ·have j:wx (M.las++[_]).length M.trs.length r:=j;rw[gV]at j;rcases lv r j with q|⟨q,p⟩
    ·exact .inr q
    ·exact .inl (.inl ⟨r,p,q⟩)
   ·rw[(W i).1]at k;have hi:i<(M.las++[_]).length:=hi;rw[gV]at hi
    by_cases z:i=M.las.length
    ·rw[hA z]at k;cases k
    ·rw[g8 z]at k;exact .inl (.inr (.inl ⟨i,by have:i<M.las.length+1:=hi;lia,x,k,e⟩))
   ·rw[e4]at k;exact .inl (.inr (.inr ⟨x,k,e⟩))
  refine q r Z' _ (st.trans (gM.of s5)) (cL.same ⟨hG,t.ok.addL hw hn hs h4,λi=>?_,λi=>?_,by rw[e2];exact t.ds⟩ s5) (st.dm _ j) af e2
  ·rw[(W i).1]
   split
   ·exact j_ _
   ·exact t.tk i
  ·rw[(W i).2]
   split
   ·exact j_ _
   ·exact t.ow i
def qf(T:Txt K mg a):aT P w K mg base dq 4 a.df.x a.df.d ["self","name","trial"] (Cm P w K a):=by
 refine T.df.ok px λV A outer s H vs Q E f h=>?_
 ·obtain⟨M,Z,c,C,t,ba,dx,ar,sh,ru,x,rfl,j,k,l,m,W,X,q1,q2,q3,D,F,v,ok,hn,h10,q⟩:=h;refine⟨_,(ah (k9 (Y 2) (lc (aM K rfl (Y 0)) (Y 1) (qT (cN f)))) (ai (aF (bf O)))),?_⟩
  refine U rfl (gL (k _ _ j.g.house) T.ay T.aR rfl rfl (U rfl ⟨Z.G .tn,_,.inr x.nm,rfl,rfl,k _ _ j.g.tris,by rw[iW,b_,hH];lia,?_⟩));rw[pS _ (kE hn)];have I:∀b,C b=none->b≠Z.G .tn:=λb e z=>by rw[z,j.g.tris]at e;cases e
  obtain⟨J,e1,B,L,N,e4,e5,R,lv⟩:=j.g.newT (H':=aD H (Z.G .tn) (.dK (iX (M.trs.map eP.nm) (λi=>.ref (Z.G (.tr i)))++[(.inr x.nm,.ref t)]))) (nm:=x.nm) (home:=x.home) (arms:=x.arms) (shuts:=x.shuts) (rule:=x.rule) l m (λb o e n=>by rw[ao n];exact k b o e) af (by rw[ao (I _ l)];exact X) (by rw[ao (I _ m)];exact W) q1 q2 q3;have ex:(⟨x.nm,x.home,x.arms,x.rule,x.shuts,false,false,[]⟩:eP)=x:=by obtain⟨a1,a2,a3,a4,a5,a6,a7,a8⟩:=x;simp only at D F v;rw[D,F,v]
  rw[ex]at R;refine⟨ls rfl,λr f=>?_⟩;have S:=aj (o:=.lst []) (am.refl _) f;have st:gM C M Z (aD H (Z.G .tn) (.dK (iX (M.trs.map eP.nm) (λi=>.ref (Z.G (.tr i)))++[(.inr x.nm,.ref t)]))) (yn M x) J:=by
   refine⟨e1,λb o e n=>by rw[ao λz=>n (.inl ⟨.tn,trivial,z⟩)];exact k b o e,λb z=>?_,λb z=>k.free (my z),B⟩;rcases z with⟨r,f,rfl⟩|⟨i,hi,y,u,e⟩|⟨y,u,e⟩
   ·have f:wx M.las.length (M.trs++[_]).length r:=f;rw[gV]at f;rcases lv r f with q|⟨q,p⟩
    ·exact .inr q
    ·exact .inl (.inl ⟨r,p,q⟩)
   ·rw[N]at u;exact .inl (.inr (.inl ⟨i,hi,y,u,e⟩))
   ·rw[e5]at u;exact .inl (.inr (.inr ⟨y,u,e⟩))
  exact q r J _ (st.trans (gM.of S)) (cL.same ⟨R,j.ok.addT ok hn h10 v,λi=>by rw[N];exact j.tk i,λi=>by rw[e4];exact j.ow i,by rw[L];exact j.ds⟩ S) (st.dm _ f) af L
end
section
def pZ(T:Txt K mg a):aT P w K mg base dq 1 a.c7.x a.c7.d ["self","place"] (Ck P w K a.bX):=by
 refine T.c7.ok pi λc A outer s H i Q E e h=>?_
 ·obtain⟨t,f,j,n,ow,tk,m,p,rfl,b,q⟩:=h;refine⟨_,(ai (aF (uQ (cN e) (aM K rfl (Y 0)) (Y 1) ⟨rfl,rfl,rfl,rfl⟩))),?_⟩;obtain⟨dx,g⟩:=b.ins;exact U rfl ⟨t,_,dx,_,U rfl ⟨g,T.bG,T.eI,rfl,f,rfl,.inl ⟨_,.inl b.own⟩,U rfl ⟨_,eE.k (k:=.inl p) b.own,q⟩⟩⟩
end
def Ik(h:Wd x):PyData.strOk x=true:=by
 obtain⟨_,_,h⟩:=h;unfold PyData.strOk;rw[<-Array.all_toList,List.all_eq_true];intro c hc;have b:∀c∈qk.cps.toList,decide (c<1114112)=true:=by decide+kernel
 have:=md (b c (h c hc));simp;lia
structure tN(P:Ol)(w:World)(K:Of)(a:gK)(H0 H:Hp)(M:cA)(Z:ZS)(c:Nat):Prop where
 z:cL P w K a H0 M Z c
 k:∀b o,H0 b=some o->b≠Z.G .ln->H b=some o
section
variable{P:Ol}{w:World}{K:Of}{a:gK}{d H f:Hp}{M:cA}{Z:ZS}{c:Nat}
def tN.same(h:tN P w K a d H M Z c)(s:am H f):tN P w K a d f M Z c:=⟨h.z,λb o e n=>s _ _ (h.k b o e n)⟩
def tN.kp(h:tN P w K a d H M Z c):Kp d H:=⟨λu i e=>h.k _ _ e λz=>(by rw[z,h.z.g.lays]at e;cases e),λu o⟨b,e⟩=>⟨b,h.k _ _ e λz=>by rw[z,h.z.g.lays]at e;cases e⟩⟩
theorem tN.at_(h:tN P w K a d H M Z c)(e:cont P w a M Z r=some o)(n:r≠.ln):H (Z.G r)=some o:=h.k _ _ (h.z.g.at_ r o e) λz=>n (h.z.g.inj r .ln _ _ e rfl z)
def JF{p:Nat}{m sl:Int}{x:Str}(e:2<=p):0<=vP p m sl x/\vP p m sl x<p:=by
 unfold vP;have h:(0:Int)<(p:Int):=by lia
 split
 ·exact⟨yl _ (by lia),w_ _ h⟩
 ·exact⟨yl _ (by lia),w_ _ h⟩
def tN.owner(h:tN P w K a d H M Z c){i:Nat}{l:dS}(m:M.las[i]?=some l){q:Int}(r:0<=q)(s:q<M.p):(bB (Z.ow i) (.inl q)).getD .non=.non\/∃b x y,(bB (Z.ow i) (.inl q)).getD .non=.ref b/\bj K H b [.str x,.str y]/\((x=""/\y="")\/∃(j:Nat)(t:eP),M.trs[j]?=some t/\t.nm=x/\(Wd y/\Wd t.nm/\y∈t.arms)):=by cases u:bB (Z.ow i) (.inl q)with|none=>exact .inl rfl|some v=>
  refine .inr ?_;obtain⟨k,A,kv⟩:=(h.z.g.tabs i l m).2.2.1 q v r s u;rcases(h.z.ok.la l (f_ m)).own k q A with rfl|⟨t,n,_,y,o,rfl⟩
  ·obtain⟨b,rfl,e⟩:=kv;exact⟨b,_,U rfl ⟨h.kp.tq e,.inl ⟨rfl,rfl⟩⟩⟩
  ·obtain⟨b,rfl,e⟩:=kv;obtain⟨j,B⟩:=h_.mp n;have tk:=h.z.ok.tr t n;exact⟨b,_,U rfl ⟨h.kp.tq e,.inr ⟨j,t,B,rfl,tk.aw y o,tk.wd,o⟩⟩⟩
end
inductive Jb(P:Ol)(w:World)(K:Of)(a:gK)(vs:List V)(H:Hp)(Q:VK)(E:XK):Prop|mk(H0:Hp)(M:cA)(Z:ZS)(c i:Nat)(l:dS)(g:Str)(mv:V)(ms:List (Str×Int))(bl:Addr)(bs:Om)(_:vs=[.ref (Z.G .hh),.ref (Z.G (.lo i)),.str g,mv,.ref bl])(_:tN P w K a H0 H M Z c)(_:M.las[i]?=some l)(_:yy g)(_:rQ K H ms mv)(_:ms.length<=8)(_:H bl=some (.lst (bs.map V.str)))(_:(∀H',am H H'->Q .non H'))(_:∀(s:Addr)(t:eP)(y:Str)(H':Hp),am H H'->bj K H' s [.str t.nm,.str y]->t∈M.trs->y∈t.arms->Q (.ref s) H')
section
def qa(T:Txt K mg a):aT P w K mg base dq 8 a.c9.x a.c9.d ["self","layer","guest","marks","been"] (Jb P w K a):=by
 refine T.c9.ok gy λbz A outer s H vs Q E R h=>?_
 ·obtain⟨H0,M,Z,c,i,l,g,mv,ms,bl,bs,rfl,B,I,hg,hm,bT,a5,S,qs⟩:=h;refine⟨_,(ah (bu 5 gy.nd (a9 (aM K rfl (Y 1)) T.bG T.c7.m ((pZ (P:=P) (w:=w) T).mono (by decide)) R T.c7.b .nil bE (ac (a9 (Y 0) T.ay T.cr.m ((jI (P:=P) (w:=w) T).mono (by decide)) R T.cr.b .nil bE (ac (Y 1) (ac (Y 2) O))) O))) (ah (aP (PW.pt (eS (aH xH (Y 5) fW (aG _)) (dy (aH (tU K rfl (Fp R)) (Y 5) (bC (v:=.ref a.vA) ⟨_,T.Fb,rfl⟩ rfl) (aG _))))) (ai (aF fW)) aE) (ah (bu 6 gy.nd (fT (cN R) (aM K rfl (Y 0)) (dB K (Y 5) ae) (λ_ _=>rfl))) (ah (aP (PW.pt (eS (aS K rfl (aM K rfl (Y 6)) (λ_=>rfl)) (eS (ox (Av (cN R) (Y 2) (aM K rfl (Y 6))) rfl) (dy (bO (aS K rfl (bh ((ze T 6).mono (by decide)) R rfl T.d7.m T.d7.f.kp T.d7.b .nil bE (ac (aM K rfl (Y 6)) (ac (Y 3) O))) (λ_=>rfl))))))) (ai (aF fW)) aE) (ah (aP (aS K rfl (au (rL K rfl rfl) (by rfl) T.ET L2.vn (ac (vC hU ["name"] [] [7] (ak gP) (cG 7) (gB K rfl (aM K rfl (Y 6))) (λcl C s₀ H₀ ex=>⟨(pT hU ["name"] 7),cE,(bv (qY K rfl) (Y 7) (Y 4) (by with_unfolding_all rfl))⟩)) O)) (λ_=>rfl)) (ai (aF fW)) aE) (ai (aF (Y 5)))))))),?_⟩
  have J:=B.z;have hL:=J.ok.la l (f_ I);have hp:=J.ok.p;have bU:=hL.sl;have hI:=B.at_ (r:=.hh) rfl (by simp);have X:=B.at_ (r:=.lo i) (by simp only[cont,I];rfl) (by simp);have aa:=B.at_ (r:=.tb i) (by simp only[cont,I];rfl) (by simp);have a6:=B.at_ (r:=.od i) (by simp only[cont,I];rfl) (by simp);have a7:=B.at_ (r:=.td i) (by simp only[cont,I];rfl) (by simp);have a8:=B.at_ (r:=.tn) rfl (by simp);refine gL X T.cx T.gG rfl rfl (rM aa rfl (jG hI rfl rfl (U rfl (U rfl ⟨Z.G .hh,Z.G (.lo i),_,_,_,_,M.p,M.salt,l.sl,g,rfl,hI,rfl,rfl,X,rfl,hg,⟨by lia,by lia⟩,⟨by lia,by lia⟩,λH1 o=>?_⟩))));obtain⟨bb,⟨m,bc,b0⟩,b7,b8⟩:=J.g.tabs i l I;have n:=B.same o;have ad:eT P w K a.bX H1 (Z.G (.tb i)) (Z.G (.od i)) (Z.G (.td i)) M.p (Z.ow i) (Z.tk i) m:=⟨⟨_,o _ _ aa⟩,o _ _ a6,o _ _ a7,λx hx=>fL n.kp (bb x hx),bc.outs λx hx lb xs e1 e2=>n.k _ _ e2 λz=>by rw[z,J.g.lays]at e2;cases e2⟩;have hq:=JF (m:=M.salt) (sl:=l.sl) (x:=g) hp.1;refine⟨Z.G (.tb i),Z.G (.od i),Z.G (.td i),M.p,Z.ow i,Z.tk i,m,vP M.p M.salt l.sl g,rfl,ad,av ?_⟩;rcases n.owner I hq.1 hq.2 with e|⟨b,x,y,e,hb,ag⟩
  ·rw[e];exact U rfl ⟨rfl,U rfl (bp (bp (S _ o)))⟩
  rw[e];refine U rfl ⟨rfl,U rfl (bN ?_)⟩;have al:PyData.strOk x=true/\PyData.strOk y=true:=by
   rcases ag with⟨rfl,rfl⟩|⟨j,t,L,rfl,h1,h2,_⟩
   ·exact⟨by decide+kernel,by decide+kernel⟩
   ·exact⟨Ik h2,Ik h1⟩
  refine U rfl ⟨.tuple [.str x,.str y],.tuple [.str "",.str ""],.tup hb (.cons (.str x) (.cons (.str y) .nil)),.tup (T.BQ.sq _) (.cons (.str _) (.cons (.str _) .nil)),?_,by decide+kernel,U rfl ?_⟩
  ·unfold SeqAt.shaped;simp[PyData.canLay0,PyData.canLayAll0,PyData.depth,PyData.depthAll,al.1,al.2]
  refine x4 (λ_=>S _ o) (λef=>?_);rcases ag with⟨rfl,rfl⟩|⟨j,t,L,rfl,_,_,hy⟩
  ·exact absurd ef (by decide+kernel)
  have an:=o _ _ a8;have F:=n.at_ (r:=.tr j) (by simp only[cont,L];rfl) (by simp);have bi:=n.at_ (r:=.ba j) (by simp only[cont,L];rfl) (by simp);obtain⟨-,bt,ap⟩:=J.g.trs j t L;have as:=J.ok.tr t (f_ L);refine gL (o _ _ hI) T.ay T.aR rfl rfl (U rfl (rX hb (aq (k:=0) rfl) (rG (.ref (Z.G (.tr j))) (by rw[<-J.ok.tget (Z:=Z) L];exact eE.k (k:=.inr t.nm) an) (av ?_))));refine gL F T.bA T.iJ rfl rfl ⟨t.pau,rfl,?_⟩;refine x4 (λ_=>bp (S _ o)) (λ_=>?_);refine U rfl (gL F T.bA T.iK rfl rfl (rG _ (eE.k (k:=.inr g) bi) (U rfl ?_)));refine x4 (λ_=>bp (S _ o)) (λ_=>?_);refine gL F T.bA T.n6 rfl rfl (U rfl ⟨t.rule,Z.ru j,ms,mv,rfl,bt.kp n.kp,as.hg,hm.kp (.of o),by lia,λH2 s2=>(U rfl ?_)⟩);have q:=o.trans s2;refine x4 (λ_=>S _ q) (λ_=>?_);have ax:=B.same q;refine gL (s2 _ _ F) T.bA T.mz rfl rfl ⟨Z.sh j,rfl,⟨_,ax.kp.tq ap⟩,λD hD=>?_⟩;have a2:=q _ _ a5;have h8:=as.s8;refine eY (K:=K) (a:=Z.sh j) (xs:=t.shuts.map V.str) (λk u H'=>am H2 H'/\H' D=some (.lst u)/\∃(cs:List Bool),u=cs.map V.bl/\cs.length=k) ⟨aj (am.refl _) hD,af,[],rfl,rfl⟩ (λk u H' _ h=>am.tseq h.1 (ax.kp.tq ap)) ?_ ?_
  ·rintro k v u H3 hv⟨W,N,cs,rfl,a3⟩;have hk:k<(t.shuts.map V.str).length:=(d_.mp hv).1;rw[gg]at hv;obtain⟨x,hx,rfl⟩:=Option.map_eq_some_iff.mp hv;refine av (ju (bp (U rfl (U rfl ⟨bl,U rfl ⟨.inl (be.of (W _ _ a2)),rfl,mR bs,N,?_,lf hk ⟨bV W hD,af,cs++[_],by rw[g6];rfl,by rw[gV,a3];rfl⟩⟩⟩))));rw[b_]at hk⊢;rw[hH];lia
  ·rintro u H3⟨W,N,cs,rfl,a3⟩;refine⟨D,cs,rfl,be.of N,U rfl ?_⟩;refine x4 (λ_=>S _ (q.trans W)) (λ_=>?_);exact U rfl (qs b t y _ (q.trans W) (am.tseq (s2.trans W) hb) (f_ L) hy)
end
def d6.find(g:Str)(h:d6 K H dl cv cm):bB cv (.inr g)=none\/∃l c d,bB cv (.inr g)=some (.ref l)/\l≠dl/\H l=some (.lst c)/\iM K H c d/\(g,d)∈cm:=by induction h with|nil=>exact .inl rfl|@cons _ y _ _ h _ b=>
  by_cases e:y.1=g
  ·obtain⟨h1,l,c,h2,n,h3,h4⟩:=h;exact .inr ⟨l,c,y.2,by rw[cI (by rw[h1,e]),h2],n,h3,h4,by rw[<-e];exact il⟩
  ·rw[bM (λz=>e (by rw[h.1]at z;exact pv z))];exact b.imp id λq=>q.imp λ_ q=>q.imp λ_ q=>q.imp λ_ q=>⟨q.1,q.2.1,q.2.2.1,q.2.2.2.1,hY _ q.2.2.2.2⟩
def iM.get(h:iM K H c d)(k:Nat)(u:V)(e:c[k]?=some u):∃y:Str×Str,∃s,u=.ref s/\bj K H s [.str y.1,.str y.2]:=(Paired.at_ h k u e).imp λ_ q=>q.2
def xr(K:Of)(H:Hp)(M:cA)(c:List V):Prop:=∀u∈c,∃(b:Addr)(i:Nat)(l:dS)(t y:Str),u=.ref b/\bj K H b [.str l.nm,.str t,.str y]/\M.las[i]?=some l
def xr.kp(e:Kp H H')(h:xr K H M c):xr K H' M c:=λu d=>let⟨b,i,l,t,y,h1,h2,h3⟩:=h u d;⟨b,i,l,t,y,h1,e.tq h2,h3⟩
inductive GT(P:Ol)(w:World)(K:Of)(a:gK)(vs:List V)(H:Hp)(Q:VK)(E:XK):Prop|mk(M:cA)(Z:ZS)(c:Nat)(g:Str)(mv:V)(ms:List (Str×Int))(_:vs=[.ref (Z.G .hh),.str g,mv])(_:cL P w K a H M Z c)(_:c<=63)(_:yy g)(_:rQ K H ms mv)(_:ms.length<=8)(_:∀(r:Addr)(us:List V)(H':Hp),am H H'->H r=none->H' r=some (.lst us)->xr K H' M us->us.length<=4->Q (.ref r) H')
section
def mx(T:Txt K mg a):aT P w K mg base dq 9 a.cw.x a.cw.d ["self","guest","marks"] (GT P w K a):=by
 refine T.cw.ok bK λdt A outer s H vs Q E hr h=>?_
 ·obtain⟨M,Z,c,g,mv,ms,rfl,I,hc,hg,hm,cP,q⟩:=h;refine⟨_,(ah (Kn 3 fG [] [7] [7] (ak fD) (cG 7) (fH K rfl (uP (cN hr) (aM K rfl (Y 0)) (Y 1) (bf O) ⟨rfl,rfl,rfl,rfl⟩)) (λcl C s₀ H₀ ex=>⟨(pT fG [] 7),cE,(dB K (Y 7) ae)⟩) bK.nd) (ah (bu 4 bK.nd (bf O)) (ah (Ar (P:=P) (w:=w) (fE nk rfl (yV (P:=P) (w:=w) (aM K rfl (Y 0))) (iV K rfl rfl (cg (vB 5 bK.nd) (cg (vB 6 bK.nd) iU))) (ah (bu 7 bK.nd (uQ (cN hr) (aM K rfl (Y 6)) (Y 1) ⟨rfl,rfl,rfl,rfl⟩)) (ah (aP (aH xH (Y 7) fW (aG _)) (ai (bu 7 bK.nd (a9 (Y 0) T.ay T.c9.m ((qa (P:=P) (w:=w) T).mono (by decide)) hr T.c9.b .nil bE (ac (Y 6) (ac (Y 1) (ac (Y 2) (ac (Y 3) O))))))) aE) (ai (aP (aH BE (Y 7) fW (aG _)) (ah (aO (jd K rfl PySem.F.plainAttrs_list PySem.F.slot_list_append PySem.F.type_list_append fm (Y 3) (ac (dB K (Y 7) ae) O))) (ai (aO (jd K rfl PySem.F.plainAttrs_list PySem.F.slot_list_append PySem.F.type_list_append fm (Y 4) (ac (az (uR K rfl) (bn (ac (Y 5) O)) (Y 7)) O))))) aE)))))) (ai (aF (Y 4)))))),?_⟩
  have hI:=I.g.house;have dv:=I.ok.l4;refine gL hI T.ay T.c5 rfl rfl ⟨Z.G .ci,rfl,.inl ⟨_,.inl I.g.cams⟩,U rfl ⟨ls rfl,λl0 c0=>?_⟩⟩;refine qj c0 λH1 s0 e0=>?_;refine⟨bB Z.cv (.inr g),eE.k (k:=.inr g) (s0 _ _ I.g.cams),?_⟩;obtain⟨ll,J,X,ev,a6,hw,dz⟩:∃ll J X,(bB Z.cv (.inr g)).getD (.ref l0)=.ref ll/\H1 ll=some (.lst J)/\iM K H1 J X/\X.length<=630:=by
   rcases I.g.came.find g with e|⟨l,us,ss,e,_,h2,h3,h4⟩
   ·exact⟨l0,[],[],by rw[e];rfl,e0,.nil,by simp⟩
   ·have:=I.ok.cm _ h4;have:ss.length<=10*c:=this;exact⟨l,us,ss,by rw[e];rfl,s0 _ _ h2,h3.kp (.of s0),by lia⟩
  rw[ev];have dT:J.length=X.length:=Paired.length hw;refine⟨ll,rfl,⟨_,be.of a6⟩,λD hD=>?_⟩;refine mZ (K:=K) (a:=ll) (xs:=J) (λk S H'=>am H1 H'/\H' D=some (.lst S)/\∃(bs:Om),S=bs.map V.str/\bs.length=k) ⟨aj (am.refl _) hD,af,[],rfl,rfl⟩ (λk S H' _ h=>be.of (h.1 _ _ a6)) ?_ ?_
  ·rintro k v S H3 hv⟨s3,aa,bs,rfl,a7⟩;have hk:k<J.length:=(d_.mp hv).1;obtain⟨y,s,rfl,B⟩:=hw.get k v hv;refine av (ju (bp (U rfl (rX (am.tseq s3 B) (aq (k:=0) rfl) ⟨aa,by rw[b_,hH];lia,lf hk ⟨bV s3 hD,af,bs++[y.1],by rw[g6];rfl,by rw[gV,a7];rfl⟩⟩))))
  rintro S H2⟨s2,ap,bs,rfl,a7⟩;refine av ⟨ls rfl,λR as=>av ?_⟩;have s3:=aj (o:=.lst []) (am.refl H2) as;have a8:aD H2 R (.lst []) R=some (.lst []):=af;have aa:=s3 _ _ ap;have ba:H D=none:=s0.free hD;have ax:H R=none:=s0.free (s2.free as);have bb:D≠R:=λz=>by rw[z,as]at ap;cases ap
  have ad:am H (aD H2 R (.lst [])):=(s0.trans s2).trans s3;generalize aD H2 R (.lst [])=H3 at s3 a8 aa ad⊢;refine gL (ad _ _ hI) T.ay T.aW rfl rfl ⟨Z.G .ln,U rfl ⟨ad _ _ I.g.lays,λep=>?_⟩⟩;have bc:Z.G .ln≠D:=λz=>by have e:=I.g.lays;rw[z,ba]at e;cases e
  have a2:Z.G .ln≠R:=λz=>by have e:=I.g.lays;rw[z,ax]at e;cases e
  refine FC (n:=M.las.length) (λk σ H'=>(∀b o,H b=some o->b≠Z.G .ln->H' b=some o)/\H' (Z.G .ln)=some (dE P w (Z.G .ln) (iX (M.las.map dS.nm) λi=>.ref (Z.G (.lo i))) ep)/\(∃bs:List Str,H' D=some (.lst (bs.map V.str))/\bs.length<=630+k)/\(∃us,H' R=some (.lst us)/\xr K H' M us/\us.length<=k)/\∃v5 v6 v7,σ=[some (.ref (Z.G .hh)),some (.str g),some mv,some (.ref D),some (.ref R),v5,v6,v7]) ⟨λb o e n=>by rw[ao n];exact ad b o e,af,⟨bs,by rw[ao (m3 bc)];exact aa,by lia⟩,⟨[],by rw[ao (m3 a2)];exact a8,λu hu=>(nomatch hu),fx _⟩,_,_,_,rfl⟩ (λk σ H' hk h=>⟨h.2.1,by rw[iW,b_];exact hk⟩) ?_ ?_
  ·rintro k σ H4 x H5 hk⟨f4,f,⟨j,bi,c1⟩,⟨W,a3,p,bl⟩,v5,v6,v7,rfl⟩⟨T1,kk,vv,c2,rfl,rfl,bt⟩;obtain⟨l,hl⟩:∃l,M.las[k]?=some l:=⟨_,fy hk⟩;rw[xP,gg,hl]at bt;obtain⟨rfl,rfl⟩:=Ni (j1 bt);refine qj c2 λH5 s5 e5=>?_;have e5:H5 T1=some (.tup [.str l.nm,.ref (Z.G (.lo k))]):=e5;have L:tN P w K a H H5 M Z c:=⟨I,λb o e n=>s5 _ _ (f4 b o e n)⟩;refine⟨T1,U rfl ⟨bj.of e5,rfl,_,U rfl (av ⟨_,U rfl (av ⟨rfl,?_⟩)⟩)⟩⟩;have c3:=L.at_ (r:=.lo k) (by simp only[cont,hl];rfl) (by simp);have bz:=L.at_ (r:=.iu k) (by simp only[cont,hl];rfl) (by simp);refine gL c3 T.cx T.bY rfl rfl ⟨Z.G (.iu k),rfl,.inl ⟨_,.inl bz⟩,U rfl ⟨bB (Z.iv k) (.inr g),eE.k (k:=.inr g) bz,av ?_⟩⟩;have bT:=s5 _ _ bi;have c4:=s5 _ _ a3;refine U rfl ⟨rfl,U rfl (IH (λσ H'=>am H5 H'/\∃sv,σ=[some (.ref (Z.G .hh)),some (.str g),some mv,some (.ref D),some (.ref R),some (.str l.nm),some (.ref (Z.G (.lo k))),some sv]/\(sv=.non\/∃s t y,sv=.ref s/\bj K H' s [.str t,.str y])) ?_ ?_)⟩
   ·rintro σ H6⟨s6,sv,rfl,da⟩;have ag:=s6 _ _ bT;have bU:=s6 _ _ c4;have al:=s6 _ _ (s5 _ _ f);have f6:∀b o,H b=some o->b≠Z.G .ln->H6 b=some o:=λb o e n=>s6 _ _ (s5 _ _ (f4 b o e n));rcases da with rfl|⟨s,t,y,rfl,B⟩
    ·exact U rfl ⟨rfl,U rfl (bN ⟨f6,al,⟨j,ag,by lia⟩,⟨W,bU,p.kp (.of (s5.trans s6)),by lia⟩,_,_,_,rfl⟩)⟩
    refine U rfl ⟨rfl,U rfl (bp (U rfl ⟨.inl ⟨rfl,_,be.of ag⟩,U rfl (rX B (aq (k:=0) rfl) (rA ag (by rw[b_,hH];lia) ?_))⟩))⟩;have a5:Kp H6 (aD H6 D (.lst (j.map V.str++[.str t]))):=.lst ag;have f7:∀b o,H6 b=some o->b≠D->aD H6 D (.lst (j.map V.str++[.str t])) b=some o:=cT;have bX:aD H6 D (.lst (j.map V.str++[.str t])) D=some (.lst ((j++[t]).map V.str)):=by rw[af,g6];rfl
    generalize aD H6 D (.lst (j.map V.str++[.str t]))=H7 at a5 f7 bX⊢;have b0:=f7 _ _ bU (m3 bb);have b7:=f7 _ _ al bc;refine U rfl ⟨.inl ⟨rfl,_,be.of b0⟩,U rfl ⟨ls rfl,λT2 b8=>(U rfl ⟨T2,s,[.str l.nm],U rfl ⟨rfl,bj.of af,am.tseq (aj (am.refl _) b8) (a5.tq B),by simp,by rw[hH];simp,λz=>(nomatch z),λ_ T3 dc=>?_⟩⟩)⟩⟩;have s9:=aj (o:=.tup ([.str l.nm]++[.str t,.str y])) (aj (o:=.tup [.str l.nm]) (am.refl H7) b8) dc;have e9:aD (aD H7 T2 (.tup [.str l.nm])) T3 (.tup ([.str l.nm]++[.str t,.str y])) T3=some (.tup [.str l.nm,.str t,.str y]):=af;generalize aD (aD H7 T2 (.tup [.str l.nm])) T3 (.tup ([.str l.nm]++[.str t,.str y]))=H9 at s9 e9⊢;have b9:=s9 _ _ b0;refine rA b9 (by rw[hH];lia) ?_;have kp:Kp H9 (aD H9 R (.lst (W++[.ref T3]))):=.lst b9;refine⟨λb o e n=>by rw[ao (aI e ax)];exact s9 _ _ (f7 _ _ (f6 b o e n) (aI e ba)),by rw[ao a2];exact s9 _ _ b7,⟨j++[t],by rw[ao bb];exact s9 _ _ bX,by rw[gV];simp;lia⟩,⟨W++[.ref T3],af,λu hu=>?_,by rw[gV];simp;lia⟩,_,_,_,rfl⟩;rcases List.mem_append.mp hu with z|z
    ·obtain⟨b,i,l',t',y',h1,h2,h3⟩:=p u z;exact⟨b,i,l',t',y',h1,kp.tq (am.tseq s9 (a5.tq (am.tseq (s5.trans s6) h2))),h3⟩
    ·rw[List.mem_singleton.mp z];exact⟨T3,k,l,t,y,rfl,kp.tq (bj.of e9),hl⟩
   ·intro N hN
    by_cases cc:g∈l.ins.map (·.1)
    ·obtain⟨x,hx,ex⟩:=ir.mp cc;obtain⟨s,hv,B⟩:=(I.g.seats k l hl).find (I.ok.la l (f_ hl)).nd x hx;rw[ex]at hv;rw[hv];exact bN (hN _ _ ⟨am.refl _,U rfl (.inr ⟨s,x.2.1,x.2.2,rfl,L.kp.tq B⟩)⟩)
    ·rw[(I.g.seats k l hl).none cc];have di:=L.at_ (r:=.hh) rfl (by simp);refine bp (jG di rfl rfl (U rfl (U rfl (U rfl (U rfl ⟨H,M,Z,c,k,l,g,mv,ms,D,j,rfl,L,hl,hg,hm.kp L.kp,cP,bT,λH' s'=>av (hN _ _ ⟨s',U rfl (.inl rfl)⟩),λs t y H' s' B _ _=>av (hN _ _ ⟨s',U rfl (.inr ⟨s,_,U rfl B⟩)⟩)⟩)))))
  ·rintro σ H4⟨f4,f,⟨j,bi,c1⟩,⟨W,a3,p,bl⟩,v5,v6,v7,rfl⟩;refine⟨⟨f,by rw[iW,b_];exact fx _⟩,Z.G .ln,_,ep,f,?_⟩;have sF:am H (aD H4 (Z.G .ln) (.dK (iX (M.las.map dS.nm) λi=>.ref (Z.G (.lo i))))):=λb o e=>by
    by_cases z:b=Z.G .ln
    ·rw[z,I.g.lays]at e;rw[z,af];exact e
    ·rw[ao z];exact f4 b o e z
   have kp:Kp H4 (aD H4 (Z.G .ln) (.dK (iX (M.las.map dS.nm) λi=>.ref (Z.G (.lo i))))):=⟨λu xs e=>by rw[ao λz=>by rw[z,f]at e;cases e];exact e,λu o⟨o',e⟩=>⟨o',by rw[ao λz=>by rw[z,f]at e;cases e];exact e⟩⟩;exact U rfl (q R W _ sF ax (by rw[ao (m3 a2)];exact a3) (p.kp kp) (by lia))
end
def sY(cm:List (Str×List (Str×Str)))(g:Str)(c:List (Str×Str)):List (Str×List (Str×Str)):=if(cm.any λx=>decide (x.1=g))=true then cm.map (λx=>if x.1=g then(x.1,c)else x)else cm++[(g,c)]
def Ev:(sY cm g ss).length<=cm.length+1:=by
 unfold sY
 split
 ·rw[b_];lia
 ·rw[gV];exact fx _
def Eu(h:x∈sY cm g c):x∈cm\/x.2=c:=by
 unfold sY at h
 split at h
 ·obtain⟨y,b,e⟩:=ir.mp h
  split at e
  ·rw[<-e];exact .inr rfl
  ·rw[<-e];exact .inl b
 ·rcases List.mem_append.mp h with q|q
  ·exact .inl q
  ·rw[List.mem_singleton.mp q];exact .inr rfl
def Ew{cm:List (Str×List (Str×Str))}{g:Str}{c:List (Str×Str)}{x:Str×List (Str×Str)}(h:x∈sY cm g c):x.1=g\/∃y∈cm,y.1=x.1:=by
 unfold sY at h
 split at h
 ·obtain⟨y,b,e⟩:=ir.mp h;refine .inr ⟨y,b,?_⟩;rw[<-e]
  split<;>rfl
 ·rcases List.mem_append.mp h with q|q
  ·exact .inr ⟨x,q,rfl⟩
  ·rw[List.mem_singleton.mp q];exact .inl rfl
theorem d6.any(g:Str)(h:d6 K H dl cv cm):(cv.any λx=>decide (x.1=.inr g))=cm.any λx=>decide (x.1=g):=by induction h with|nil=>rfl|@cons _ y _ _ h _ b=>
  rw[vu,vu,b,h.1]
  congr 1
  by_cases e:y.1=g
  ·rw[ji e,ji (by rw[e])]
  ·rw[i_ e,i_ λz=>e (pv z)]
def d6.put(n:l≠dl)(d:H l=some (.lst c))(f:iM K H c i)(h:d6 K H dl cv cm):d6 K H dl (fk cv (.inr g) (.ref l)) (sY cm g i):=by
 unfold fk sY;rw[h.any g]
 split
 ·rename_i j;clear j
  induction h with|nil=>exact .nil|@cons x y _ _ q r k=>
   refine .cons ?_ k;obtain⟨h1,q⟩:=q
   by_cases e:y.1=g
   ·have b:x.1=.inr g:=by rw[h1,e]
    dsimp only;rw[hA b,hA e];exact⟨h1,l,c,rfl,n,d,f⟩
   ·have b:¬x.1=.inr g:=λz=>e (by rw[h1]at z;exact pv z);dsimp only;rw[g8 b,g8 e];exact⟨h1,q⟩
 ·exact Paired.snoc h ⟨rfl,l,c,rfl,n,d,f⟩
def Ex{cv:List (cp×V)}{k:cp}{v:V}{x:cp×V}(h:x∈fk cv k v):x∈cv\/x.2=v:=by
 unfold fk at h
 split at h
 ·obtain⟨y,b,e⟩:=ir.mp h
  split at e
  ·rw[<-e];exact .inr rfl
  ·rw[<-e];exact .inl b
 ·rcases List.mem_append.mp h with q|q
  ·exact .inl q
  ·rw[List.mem_singleton.mp q];exact .inr rfl
def cj.some(h:cj K H iv ins)(hg:g∈ins.map (·.1)):(bB iv (.inr g)).isSome=true:=by induction h with|nil=>cases hg|@cons _ y _ _ h _ b=>
  by_cases e:y.1=g
  ·rw[cI (by rw[h.1,e])];rfl
  ·rw[bM (λz=>e (by rw[h.1]at z;exact pv z))];rw[lm]at hg;exact b ((q_.mp hg).resolve_left λq=>e q.symm)
def IL(g:Str)(ins c:List (Str×Str×Str)):Prop:=c=ins\/(g∉ins.map (·.1)/\∃t y,c=ins++[(g,t,y)])
structure kN(g:Str)(M M':cA):Prop where
 p:M'.p=M.p
 salt:M'.salt=M.salt
 trs:M'.trs=M.trs
 len:M'.las.length=M.las.length
 las:∀(i:Nat)(l:dS),M.las[i]?=some l->∃ins',M'.las[i]?=some {l with ins:=ins'}/\IL g l.ins ins'
 ck:∀x∈M'.came,x.1=g\/∃y∈M.came,y.1=x.1
def kN.refl(g:Str)(M:cA):kN g M M:=⟨rfl,rfl,rfl,rfl,λi l b=>⟨l.ins,b,.inl rfl⟩,λx c=>.inr ⟨x,c,rfl⟩⟩
def kN.names(h:kN g M c):c.las.map dS.nm=M.las.map dS.nm:=by
 refine tx λi=>?_;rw[gg,gg]
 by_cases hi:i<M.las.length
 ·obtain⟨b,e,_⟩:=h.las i _ (fy hi);rw[e,fy hi];rfl
 ·rw[k_ (by rw[h.len];lia),k_ (by lia)]
def oS.vis(h:oS M c)(v:kN g M j)(hg:yy g)(h1:∀x∈j.came,x.2.length<=10*c+4)(h2:j.came.length<=10*c+4):oS j (c+1):=by
 have m:=v.names;refine⟨by rw[v.p];exact h.p,by rw[m];exact h.ln,by rw[v.trs];exact h.tn,λl o=>?_,λt b=>?_,λx d=>by have:=h1 x d;lia,by rw[v.len];exact h.l4,by rw[v.trs];exact h.tc,by lia,λt b=>by rw[v.trs]at b;exact H_ (h.br t b)⟩
 ·obtain⟨i,hi⟩:=h_.mp o;have f:i<M.las.length:=by rw[<-v.len];exact(d_.mp hi).1
  obtain⟨n,e,q⟩:=v.las i _ (fy f);rw[hi]at e;have e:=j1 e;have k:=h.la _ (B_ f);rw[e];have own:∀k z,z∈(M.las[i]).S.pl k->k=f8 "" ""\/∃t∈j.trs,t.home=(M.las[i]).nm/\∃y∈t.arms,k=f8 t.nm y:=by rw[v.trs];exact k.own
  rcases q with rfl|⟨hn,t,y,rfl⟩
  ·exact⟨k.wd,by rw[v.p];exact k.sl,by rw[v.p];exact k.ok,H_ k.len,k.gs,k.nd,own⟩
  ·refine⟨k.wd,by rw[v.p];exact k.sl,by rw[v.p];exact k.ok,by show(_++[_]).length<=c+1;rw[gV];exact Nw k.len,λx d=>?_,?_,own⟩
   ·rcases List.mem_append.mp d with q|q
    ·exact k.gs x q
    ·rw[List.mem_singleton.mp q];exact hg
   ·show((_++[(g,t,y)]).map (·.1)).Nodup;rw[g6,o8];exact⟨k.nd,by simp,λx d z r e=>hn (by rw[<-show z=g from List.mem_singleton.mp r,<-e];exact d)⟩
 ·rw[v.trs]at b;have k:=h.tr t b;exact{k with hm:=by rw[m];exact k.hm}
def kN.step{g:Str}{M d:cA}(v:kN g M d){i:Nat}{l:dS}{c:List (Str×Str×Str)}{t y:Str}{cm:List (Str×List (Str×Str))}(h:M.las[i]?=some l)(f:d.las[i]?=some {l with ins:=c})(hi:IL g l.ins c)(hn:g∉c.map (·.1))(hc:∀x∈cm,x.1=g\/∃y∈d.came,y.1=x.1):kN g M {d.setL i {l with ins:=c++[(g,t,y)]}with came:=cm}:=by
 have e:c=l.ins:=by
  rcases hi with e|⟨_,t,y,e⟩
  ·exact e
  ·exact absurd (by rw[e,g6];exact l_ _ il) hn
 refine⟨v.p,v.salt,v.trs,by rw[<-v.len];exact ri ..,λj k h2=>?_,λx m=>(hc x m).elim .inl λ⟨y,n,e⟩=>by rw[<-e];exact v.ck y n⟩
 by_cases q:j=i
 ·subst q;rw[h]at h2;cases h2;exact⟨_,ul f,.inr ⟨by rw[<-e];exact hn,t,y,by rw[e]⟩⟩
 ·obtain⟨b,o,r⟩:=v.las j k h2;exact⟨b,by show(d.las.set i _)[j]?=_;rw[m_ λz=>q z.symm];exact o,r⟩
inductive Gu(P:Ol)(w:World)(K:Of)(a:gK)(vs:List V)(H:Hp)(Q:VK)(E:XK):Prop|mk(M:cA)(Z:ZS)(c:Nat)(g:Str)(mv:V)(ms:List (Str×Int))(_:vs=[.ref (Z.G .hh),.str g,mv])(_:cL P w K a H M Z c)(_:c<=63)(_:yy g)(_:rQ K H ms mv)(_:ms.length<=8)(_:∀(r:Addr)(us:List V)(M':cA)(Z':ZS)(H':Hp),kN g M M'->gM H M Z H' M' Z'->cL P w K a H' M' Z' (c+1)->H r=none->H' r=some (.lst us)->Z'.ds=Z.ds->Q (.ref r) H')
section
def qd(T:Txt K mg a):aT P w K mg base dq 10 a.de.x a.de.d ["self","guest","marks"] (Gu P w K a):=by
 refine T.de.ok cM λew A outer s H vs Q E hr h=>?_
 ·obtain⟨M,Z,c,g,mv,ms,rfl,X,hc,hg,hm,d2,q⟩:=h;refine⟨_,(ah (bu 3 cM.nd (a9 (Y 0) T.ay T.cw.m ((mx (P:=P) (w:=w) T).mono (by decide)) hr T.cw.b .nil bE (ac (Y 1) (ac (Y 2) O)))) (ah (fE nk rfl (fH K rfl (Y 3)) (iV K rfl rfl (cg (vB 4 cM.nd) (cg (vB 5 cM.nd) (cg (vB 6 cM.nd) iU)))) (ah (bu 7 cM.nd (fT (cN hr) (aM K rfl (Y 0)) (Y 4) (λ_ _=>rfl))) (ai (aP (ox (qX (cN hr) (Y 1) (aM K rfl (Y 7))) rfl) (ah (k9 (bn (ac (Y 5) (ac (Y 6) O))) (lc (aM K rfl (Y 7)) (Y 1) (qT (cN hr)))) (ai (k9 (az Aw (uP (cN hr) (aM K rfl (Y 0)) (Y 1) (bf O) ⟨rfl,rfl,rfl,rfl⟩) (bf (ac (bn (ac (Y 5) (ac (Y 6) O))) O))) (lc (aM K rfl (Y 0)) (Y 1) (qT (cN hr)))))) aE)))) (ai (aF (Y 3))))),?_⟩
  refine jG X.g.house rfl rfl (U rfl (U rfl ⟨M,Z,c,g,mv,ms,rfl,X,hc,hg,hm,d2,λr us H1 s1 hr b0 b7 ey=>av ?_⟩));have d3:¬jx M Z r:=X.g.foot hr;refine U rfl ⟨r,rfl,⟨_,be.of b0⟩,?_⟩;refine rE (xs:=us) (λk σ H'=>Ii λM' Z'=>MZ (kN g M M') (bJ P w K a H' M' Z') (Z'.tk=Z.tk) (Z'.ow=Z.ow) (Z'.ds=Z.ds) ((∀x∈M'.came,x.2.length<=10*c+k)) (M'.came.length<=10*c+k) (gM H M Z H' M' Z') (¬jx M' Z' r) (H' r=some (.lst us)) (xr K H' M us) (Ex4 λv4 v5 v6 v7=>σ=[some (.ref (Z.G .hh)),some (.str g),some mv,some (.ref r),v4,v5,v6,v7])) ⟨M,Z,kN.refl g M,X.g.same s1,rfl,rfl,rfl,X.ok.cm,X.ok.cl,gM.of s1,d3,b0,b7,_,_,_,_,rfl⟩ (λk σ H' _ h=>by obtain⟨_,_,_,_,_,_,_,_,_,_,_,h,_⟩:=h;exact be.of h) ?_ ?_
  ·rintro k v σ H2 hv⟨M2,f,v2,F,a6,a7,aa,ad,b8,ag,al,an,I,v4,v5,v6,v7,rfl⟩N R B hN;have hk:k<us.length:=(d_.mp hv).1;obtain⟨b,i,l,t,y,rfl,hb,hl⟩:=I v (f_ hv);refine⟨b,U rfl ⟨hb,rfl,_,U rfl (av ⟨_,U rfl (av ⟨_,U rfl (av ⟨rfl,?_⟩)⟩)⟩)⟩⟩;obtain⟨p,J,b9⟩:=v2.las i l hl;have cc:f.G .hh=Z.G .hh:=ag.hh;have cP:=F.house;have c0:=F.lays;have c1:bB (iX (M2.las.map dS.nm) λi=>V.ref (f.G (.lo i))) (.inr l.nm)=some (.ref (f.G (.lo i))):=tV (by rw[v2.names];exact X.ok.ln) (by rw[gg,J];rfl);rw[cc]at cP;refine gL cP T.ay T.aW rfl rfl (U rfl (rG (.ref (f.G (.lo i))) (by rw[<-c1];exact eE.k (k:=.inr l.nm) c0) (av ?_)));have c2:=F.layer J;have c3:=F.inside J;refine U rfl (gL c2 T.cx T.bY rfl rfl (rG (bB (f.iv i) (.inr g)) (eE.k (k:=.inr g) c3) (U rfl ?_)));have bb:=F.seats i _ J
   by_cases bc:g∈p.map (·.1)
   ·rw[bb.some bc];exact bN (hN _ _ ⟨M2,f,v2,F,a6,a7,aa,λx hx=>by have:=ad x hx;omega,by omega,ag,al,an,I,_,_,_,_,rfl⟩)
   ·have ap:=bb.none bc;rw[ap];refine bp (U rfl (U rfl ⟨ls rfl,λT1 d4=>?_⟩));refine qj d4 λH3 s3 e3=>?_;have bi:=F.same s3;have ez:(f.iv i).length<=100:=by
     rw[bb.len];show p.length<=100;have:=(X.ok.la l (f_ hl)).len;rcases b9 with e|⟨_,_,_,e⟩
     ·rw[e];lia
     ·rw[e,gV];simp;lia
    refine gL (s3 _ _ c2) T.cx T.bY rfl rfl (U rfl ⟨f.G (.iu i),_,.inr g,rfl,rfl,s3 _ _ c3,by rw[hH];lia,?_⟩);rw[pS _ ap];have L:bJ P w K a (aD H3 (f.G (.iu i)) (.dK (f.iv i++[(.inr g,.ref T1)]))) (M2.setL i {l with ins:=p++[(g,t,y)]}) {f with iv:=λj=>if j=i then f.iv i++[(.inr g,.ref T1)]else f.iv j}:=bi.setIns (iv':=f.iv i++[(.inr g,.ref T1)]) (ins':=p++[(g,t,y)]) J (Paired.snoc (bi.seats i _ J) ⟨rfl,T1,rfl,bj.of e3⟩);have c4:=(d_.mp J).1;have as:gM H3 M2 f (aD H3 (f.G (.iu i)) (.dK (f.iv i++[(.inr g,.ref T1)]))) (M2.setL i {l with ins:=p++[(g,t,y)]}) {f with iv:=λj=>if j=i then f.iv i++[(.inr g,.ref T1)]else f.iv j}:=gM.put (show i<_ from c4) rfl (ri ..) rfl rfl λx hx=>.inl hx;have bl:=bi.imm (r:=.iu i) (by simp only[cont,J];rfl) (cT (o':=.dK (f.iv i++[(.inr g,.ref T1)])));have bt:=cT (x:=f.G (.iu i)) (o':=.dK (f.iv i++[(.inr g,.ref T1)])) _ _ (s3 _ _ an) λz=>al (.inl ⟨.iu i,c4,z⟩);have bz:¬jx (M2.setL i {l with ins:=p++[(g,t,y)]}) {f with iv:=λj=>if j=i then f.iv i++[(.inr g,.ref T1)]else f.iv j} r:=λz=>(as.fp r z).elim al λz=>by rw[s3 _ _ an]at z;cases z
    have d5:=bl.kp.tq (K:=K) (bj.of e3);have ax:=(I.kp (.of s3)).kp bl.kp;generalize da:M2.setL i {l with ins:=p++[(g,t,y)]}=M4 at L as bz;generalize a2:({f with iv:=λj=>if j=i then f.iv i++[(.inr g,.ref T1)]else f.iv j}:ZS)=C at L as bz;have a3:C.G=f.G:=by rw[<-a2]
    have eq:C.cv=f.cv:=by rw[<-a2]
    have dc:C.tk=f.tk:=by rw[<-a2]
    have di:C.ow=f.ow:=by rw[<-a2]
    have dt:C.ds=f.ds:=by rw[<-a2]
    have S:M4.came=M2.came:=by rw[<-da]
    generalize aD H3 (f.G (.iu i)) (.dK (f.iv i++[(.inr g,.ref T1)]))=H4 at L as bl bt d5 ax⊢;have bT:=L.house;rw[a3,cc]at bT;have a8:=L.cams;rw[a3]at a8;refine gL bT T.ay T.c5 rfl rfl ⟨f.G .ci,rfl,.inl ⟨_,.inl a8⟩,U rfl ⟨ls rfl,λl0 ea=>?_⟩⟩;refine qj ea λH5 s5 e5=>?_;refine⟨bB C.cv (.inr g),eE.k (k:=.inr g) (s5 _ _ a8),_,rfl,U rfl ⟨ls rfl,λW eb=>⟨ls rfl,λl1 dv=>?_⟩⟩⟩;have s7:=aj (o:=.lst [.ref W]) (aj (o:=.tup [.str t,.str y]) (am.refl H5) eb) dv;have e7:aD (aD H5 W (.tup [.str t,.str y])) l1 (.lst [.ref W]) l1=some (.lst [.ref W]):=af;have e6:aD (aD H5 W (.tup [.str t,.str y])) l1 (.lst [.ref W]) W=some (.tup [.str t,.str y]):=by rw[ao (aI af dv)];exact af
    generalize aD (aD H5 W (.tup [.str t,.str y])) l1 (.lst [.ref W])=H7 at s7 e6 e7⊢;have ba:=s5.trans s7;obtain⟨ll,u,D,ev,ec,dz,eH⟩:∃ll u D,(bB C.cv (.inr g)).getD (.ref l0)=.ref ll/\H7 ll=some (.lst u)/\iM K H7 u D/\D.length<=10*c+k:=by
     rcases L.came.find g with e|⟨ed,ef,ej,e,_,h2,h3,h4⟩
     ·exact⟨l0,[],[],by rw[e];rfl,s7 _ _ e5,.nil,by simp⟩
     ·rw[S]at h4;have:=ad _ h4;exact⟨ed,ef,ej,by rw[e];rfl,ba _ _ h2,h3.kp (.of ba),this⟩
    have er:u.length=D.length:=Paired.length dz;rw[ev];refine⟨ll,l1,u,[.ref W],rfl,rfl,ec,e7,by rw[hH];simp;lia,λlp bU=>?_⟩;have s8:=aj (o:=.lst (u++[.ref W])) ba bU;have e8:aD H7 lp (.lst (u++[.ref W])) lp=some (.lst (u++[.ref W])):=af;have dT:iM K (aD H7 lp (.lst (u++[.ref W]))) (u++[.ref W]) (D++[(t,y)]):=iM.kp (Kp.new bU) (Paired.snoc dz ⟨W,rfl,bj.of e6⟩);have a5:H4 lp=none:=ba.free bU;generalize aD H7 lp (.lst (u++[.ref W]))=H8 at s8 e8 dT⊢;have bX:=L.same s8;have es:C.cv.length<=10*c+k:=by have:=Paired.length L.came;rw[this,S];exact b8
    refine gL (s8 _ _ bT) T.ay T.c5 rfl rfl (U rfl ⟨f.G .ci,_,.inr g,rfl,rfl,s8 _ _ a8,by rw[hH];lia,?_⟩);have ek:lp≠C.G .dl:=λz=>by rw[z,L.dees]at a5;cases a5
    have el:bJ P w K a (aD H8 (f.G .ci) (.dK (fk C.cv (.inr g) (.ref lp)))) {M4 with came:=sY M4.came g (D++[(t,y)])} {C with cv:=fk C.cv (.inr g) (.ref lp)}:=by rw[show f.G .ci=C.G .ci by rw[a3]];exact bX.setCame (bX.came.put (g:=g) ek e8 dT)
    have dV:=bX.imm (r:=.ci) rfl (cT (o':=.dK (fk C.cv (.inr g) (.ref lp))));rw[a3]at dV;have d1:gM H4 M4 C (aD H8 (f.G .ci) (.dK (fk C.cv (.inr g) (.ref lp)))) {M4 with came:=sY M4.came g (D++[(t,y)])} {C with cv:=fk C.cv (.inr g) (.ref lp)}:=by
     refine⟨rfl,λb o e n=>by rw[ao λz=>n (.inl ⟨.ci,trivial,by rw[a3];exact z⟩)];exact s8 b o e,λb z=>?_,λb z=>s8.free (my z),rfl⟩;rcases z with z|z|⟨x,hx,e⟩
     ·exact .inl (.inl z)
     ·exact .inl (.inr (.inl z))
     ·rcases Ex hx with q|q
      ·exact .inl (.inr (.inr ⟨x,q,e⟩))
      ·rw[q]at e;cases e;exact .inr a5
    have v9:kN g M {M4 with came:=sY M4.came g (D++[(t,y)])}:=by rw[<-da];exact v2.step hl J b9 bc λx hx=>Ew hx
    have en:=(ag.trans (gM.of s3)).trans (as.trans d1);have eo:aD H8 (f.G .ci) (.dK (fk C.cv (.inr g) (.ref lp))) r=some (.lst us):=by rw[ao λz=>al (.inl ⟨.ci,trivial,z⟩)];exact s8 _ _ bt
    refine hN _ _ ⟨_,{C with cv:=fk C.cv (.inr g) (.ref lp)},v9,el,dc.trans a6,di.trans a7,dt.trans aa,λx hx=>?_,?_,en,λz=>(d1.fp r z).elim bz (λz=>by rw[bt]at z;cases z),eo,(ax.kp (.of s8)).kp dV.kp,_,_,_,_,rfl⟩
    ·rcases Eu hx with q|q
     ·rw[S]at q;have:=ad x q;lia
     ·rw[q,gV];simp;lia
    ·have:=Ev (cm:=M4.came) (g:=g) (ss:=D++[(t,y)]);rw[S]at this;show(sY M4.came g (D++[(t,y)])).length<=_;rw[S];lia
  ·rintro σ H2⟨M2,f,v2,F,a6,a7,aa,ad,b8,ag,al,an,I,v4,v5,v6,v7,rfl⟩;exact U rfl (q r us M2 f H2 v2 ag ⟨F,X.ok.vis v2 hg (λx hx=>by have:=ad x hx;lia) (by lia),λj=>by rw[a6];have:=X.tk j;lia,λj=>by rw[a7];have:=X.ow j;lia,by rw[aa];have:=X.ds;lia⟩ hr an aa)
end
inductive GP(K:Of)(g:Addr)(vs:List V)(H:Hp)(Q:VK)(_E:XK):Prop|mk(d:Addr)(k:Str)(xs:List V)(_:vs=[.ref d])(_:bj K H d (.str k::xs))(_:(∃tk,PySem.W.nsIn K g k=some (some (.int ((xs.length:Int)+1) tk))))(_:Q .non H)
inductive D8(K:Of)(vs:List V)(H:Hp)(Q:VK)(_E:XK):Prop|mk(t d:Addr)(l:Om)(kvs:List (cp×V))(_:vs=[.ref t,.ref d])(_:bj K H t (l.map V.str))(_:H d=some (.dK kvs))(_:(∀x∈l,Wd x/\(bB kvs (.inr x)).isSome=true))(_:l.Nodup)(_:l.length<=8)(_:∀H',am H H'->Q .non H')
inductive D7(P:Ol)(w:World)(K:Of)(a:gK)(vs:List V)(H:Hp)(Q:VK)(_E:XK):Prop|mk(z:Int)(M:cA)(Z:ZS)(_:vs=[.int z,.int M.p,.ref (Z.G .ln)])(_:bJ P w K a H M Z)(_:M.las.length<=4)(_:0<=z)(_:z<=M.p)(_:z∉M.las.map dS.sl)(_:∀H',am H H'->Q .non H')
inductive D5(K:Of)(vs:List V)(H:Hp)(Q:VK)(_E:XK):Prop|mk(d ly tr ar sh:Addr)(ru:V)(x y:Str)(r:Ru)(ws l ss:Om)(lk tk:List (cp×V))(_:vs=[.ref d,.ref ly,.ref tr])(_:bj K H d [.str "trial",.str x,.str y,.ref ar,ru,.ref sh])(_:Wd x)(_:Wd y)(_:H ly=some (.dK lk))(_:H tr=some (.dK tk))(_:bB tk (.inr x)=none)(_:(bB lk (.inr y)).isSome=true)(_:bj K H ar (l.map V.str))(_:(∀w∈l,Wd w))(_:l.Nodup)(_:1<=l.length)(_:l.length<=4)(_:fw K H r ru)(_:r.hgt<=6)(_:r.cnt<=30)(_:j4 ws r)(_:(∀w∈ws,Wd w))(_:ws.length<=3)(_:bj K H sh (ss.map V.str))(_:(∀x∈ss,Wd x/\(bB tk (.inr x)).isSome=true))(_:ss.Nodup)(_:ss.length<=8)(_:∀H',am H H'->Q .non H')
section
def vT(T:Txt K mg a)(f:w.params=a.pm):aT P w K mg base dq 1 a.gW.x a.gW.d ["deed"] (GP K a.fA):=by
 refine T.gW.ok vJ λg A outer s H j Q E l h=>?_
 ·obtain⟨d,k,c,rfl,b,⟨tk,i⟩,q⟩:=h;refine⟨_,(ah (aP (PW.pt (eS (bO (aS K rfl (au (dP K rfl) (by rfl) T.aZ L2.aQ (ac (Y 0) (ac (iy rfl T.dW L2.bS) O))) (λ_=>rfl))) (dy (aH aV (au (aJ K rfl) (by rfl) T.bx L2.aL (ac (Y 0) O)) ae (aG _))))) (ai cJ) aE) (ai (aP (PW.pt (eS (bO (aS K rfl (au (i7 K rfl) (by rfl) T.aZ L2.aQ (ac (dB K (Y 0) ae) (ac (iy rfl T.Ix L2.zS) O))) (λ_=>rfl))) (dy (aH Iw (G8 K rfl (MI f T.AM) rfl T.CQ (dB K (Y 0) ae) ⟨rfl,rfl,rfl,rfl⟩) (au (aJ K rfl) (by rfl) T.bx L2.aL (ac (Y 0) O)) (aG _))))) (ai cJ) aE))),?_⟩
  refine U rfl ⟨_,"tuple",_,true,rfl,.inr ⟨d,U rfl ⟨b,rfl⟩⟩,bI (by decide+kernel),true,rfl,bN ?_⟩;refine U rfl ⟨_,U rfl ⟨.inr ⟨_,b,rfl⟩,rfl,U rfl (jh (λh=>absurd h (by rw[k4];lia)) (λ_=>?_))⟩⟩;refine U rfl (rX b (aq (k:=0) rfl) ?_);refine⟨_,"str",_,true,rfl,.str k,bI (by decide+kernel),true,rfl,bN ?_⟩;refine U rfl (rX b (aq (k:=0) rfl) ⟨k,U rfl ⟨i,.inr ⟨_,.int ((c.length:Int)+1),rfl,⟨tk,rfl⟩,?_⟩⟩⟩);refine U rfl ⟨_,U rfl ⟨.inr ⟨_,b,rfl⟩,rfl,U rfl ?_⟩⟩;have e:decide (V.int ((c.length:Int)+1)=V.int (((V.str k::c).length:Nat):Int))=true:=ji (by simp);rw[e];exact q
def uU(T:Txt K mg a):aT P w K mg base dq 5 a.gk.x a.gk.d ["thing","trials"] (D8 K):=by
 refine T.gk.ok ja λW A outer s H vs Q E X h=>?_
 ·obtain⟨t,d,l,B,rfl,b,hd,Z,C,h8,q⟩:=h;refine⟨_,(ah (aP (PW.pt (eS (bO (aS K rfl (au (dP K rfl) (by rfl) T.aZ L2.aQ (ac (Y 0) (ac (iy rfl T.dW L2.bS) O))) (λ_=>rfl))) (dy (aH lG (au (aJ K rfl) (by rfl) T.bx L2.aL (ac (Y 0) O)) (bC T.yj rfl) (aG _))))) (ai cJ) aE) (ai (fE nk rfl (G7 K rfl rfl T.zm (ac (Y 0) O)) (iV K rfl rfl (cg (vB 2 ja.nd) (cg (vB 3 ja.nd) iU))) (ah (aO (pc T.bW (dF T) X (ac (Y 3) (ac (Y 1) O)))) (ai (aP (aH (qY K rfl) (Y 3) (gC (Bt K rfl) (Y 0) iR (iQ (Y 2))) (by with_unfolding_all rfl)) (ai cJ) aE)))))),?_⟩
  refine U rfl ⟨_,"tuple",_,true,rfl,.inr ⟨t,U rfl ⟨b,rfl⟩⟩,bI (by decide+kernel),true,rfl,bN ?_⟩;refine U rfl ⟨_,l.length,rfl,.inr ⟨_,b,by simp⟩,_,U rfl ⟨rfl,U rfl (iC (λh=>absurd h (by lia)) (λ_=>?_))⟩⟩;refine U rfl ⟨t,U rfl ⟨b,?_⟩⟩;refine FC (n:=l.length) (λk j H'=>am H H'/\(Ii λD F=>j=[some (.ref t),some (.ref d),D,F])) ⟨am.refl H,_,_,rfl⟩ (λk j H' L h=>⟨_,.str l[k],am.tseq h.1 b,by rw[gg,fy L];rfl⟩) ?_ ?_
  ·rintro k j m v H2 L⟨c,D,F,rfl⟩⟨r,x,G,rfl,rfl,y⟩;have y:=y _ (am.tseq c b);rw[gg]at y;obtain⟨z,M,rfl⟩:=Option.map_eq_some_iff.mp y;have I:=aj (o:=.tup [.int k,.str z]) c G;have N:aD m r (.tup [.int k,.str z]) r=some (.tup [.int k,.str z]):=af;generalize aD m r (.tup [.int k,.str z])=H2 at I N⊢;refine⟨r,U rfl ⟨bj.of N,rfl,_,U rfl (av ⟨_,U rfl (av ⟨rfl,?_⟩)⟩)⟩⟩;have f:=Z z (f_ M);refine U rfl (U rfl ⟨z,d,B,rfl,f.1,I _ _ hd,f.2,λH3 s3=>?_⟩);have g:=I.trans s3;refine U rfl (U rfl (U rfl (U rfl ⟨t,U rfl ⟨am.tseq g b,?_,λp hp=>?_⟩⟩)))
   ·rintro⟨_,e⟩;rw[b_]at e;have e:(if(k:Int)<0 then((k:Int)+(l.length:Int)).toNat else min (k:Int).toNat l.length)=l.length:=e;rw[g8 (by lia)]at e;lia
   ·rw[Ba _ (by lia)];refine⟨p,U rfl ⟨.inr (bj.of af),rfl,?_,U rfl ?_⟩⟩
    ·rw[<-NT];exact mR _
    ·rw[<-NT];have J:z∉l.take (k:Int).toNat:=λh=>by have:=C;rw[<-sg k l,o8]at this;exact this.2.2 z (by simpa using h) z (f_ (i:=0) (by rw[NV,Nat.add_zero];exact M)) rfl
     have e:oJ (.str z) ((l.take (k:Int).toNat).map V.str)=false:=by cases R:oJ (.str z) ((l.take (k:Int).toNat).map V.str)with|false=>rfl|true=>unfold oJ at R;obtain⟨v,hv,e⟩:=N8.mp R;obtain⟨u,S,rfl⟩:=ir.mp hv;have e:(u==z)=true:=e;rw[eq_of_beq e]at S;exact absurd S J
     show if(if false=true then _ else oJ (.str z) ((l.take (k:Int).toNat).map V.str))=true then _ else _
     rw[g8 hF,e];exact bN ⟨(g.trans (aj (am.refl _) hp)),_,_,rfl⟩
  ·rintro j m⟨c,D,F,rfl⟩;exact⟨⟨_,am.tseq c b,by rw[b_]⟩,q m c⟩
def uT(T:Txt K mg a):aT P w K mg base dq 3 a.gj.x a.gj.d ["thing","prime","layers"] (D7 P w K a):=by
 refine T.gj.ok ur λN A outer s H W Q E R h=>?_
 ·obtain⟨z,M,Z,rfl,J,h4,h0,h1,hn,q⟩:=h;refine⟨_,(ah (aP (PW.pt (eS (bO (aS K rfl (pc T.dH (iz T) R (ac (Y 0) O)) (λ_=>rfl))) (dy (aH lG (Y 0) (Y 1) (aG _))))) (ai cJ) aE) (ai (aP (aH (qY K rfl) (Y 0) (JK (P:=P) (w:=w) (vC j5 ["layer"] [] [3] (ak jS) (cG 3) (G4 (P:=P) (w:=w) (Y 2)) (λcl C s₀ H₀ ex=>⟨(pT j5 ["layer"] 3),cE,(aM K rfl (Y 3))⟩))) (by with_unfolding_all rfl)) (ai cJ) aE))),?_⟩
  refine U rfl ⟨z,rfl,h0,U rfl (bN ?_)⟩;refine U rfl (U rfl ⟨z,M.p,rfl,rfl,U rfl (iC (λh=>absurd h (by lia)) (λ_=>?_))⟩);have g:=J.lays;refine U rfl (U rfl ⟨Z.G .ln,U rfl ⟨g,λL=>?_⟩⟩);refineλD t=>?_;have nd:Z.G .ln≠D:=λz=>by rw[<-z,af]at t;cases t
  have r:H D=none:=by rw[ao (m3 nd)]at t;exact t
  refine ye (n:=M.las.length) (λk c u=>(∀b o,H b=some o->b≠Z.G .ln->u b=some o)/\u (Z.G .ln)=some (dE P w (Z.G .ln) (iX (M.las.map dS.nm) λi=>.ref (Z.G (.lo i))) L)/\u D=some (.lst c)/\c=((M.las.map dS.sl).take k).map V.int) ⟨λb o e n=>by rw[ao (aI e r),ao n];exact e,by rw[ao nd,af],af,rfl⟩ (λk c u v h=>⟨h.2.1,by rw[iW,b_];exact v⟩) ?_ ?_
  ·rintro k c S x X v⟨y,f,j,rfl⟩⟨rfl,B⟩;have I:=fy v;rw[xP,gg,I]at B;have B:V.ref (Z.G (.lo k))=x:=j1 B;subst B;have m:=J.layer I;refine av (ju (bp (gL (y _ _ m (λz=>by rw[z,g]at m;cases m)) T.cx T.jf rfl rfl ⟨j,by rw[b_,ku,hH];lia,lf v ⟨λb o e n=>by rw[ao (aI e r)];exact y b o e n,by rw[ao nd];exact f,af,?_⟩⟩)));rw[gx (l:=M.las.map dS.sl) (x:=(M.las[k]).sl) (by rw[gg,I];rfl),g6];rfl
  ·rintro c S⟨y,f,j,rfl⟩;refine⟨⟨f,by rw[iW,b_];exact fx _⟩,Z.G .ln,_,L,f,D,_,rfl,.inl (be.of (by rw[ao (m3 nd)];exact j)),rfl,oI _,_,rfl,?_⟩;rw[iA (by rw[b_];exact fx _)];show if(if false=true then _ else oJ (.int z) ((M.las.map dS.sl).map V.int))=true then _ else _
   rw[g8 hF,BT,i_ hn];refine bN (q _ λb o e=>?_)
   by_cases F:b=Z.G .ln
   ·rw[F,g]at e;rw[F,af];exact e
   ·rw[ao F];exact y b o e F
def uS(T:Txt K mg a):aT P w K mg base dq 12 a.gi.x a.gi.d ["deed","layers","trials"] (D5 K):=by
 refine T.gi.ok uq λI A outer s H vs Q E f h=>?_
 ·obtain⟨d,J,tr,ar,sh,ru,x,y,r,L,l,M,lk,tk,rfl,g,N,R,k,i,j,m,n,h1,h2,h3,h4,o,p,t,u,v,z,B,C,D,F,q⟩:=h;refine⟨_,(ah (aO (pc T.gU (pY T) f (ac (dB K (Y 0) ae) (ac (Y 2) O)))) (ah (aO (pc T.bW (dF T) f (ac (dB K (Y 0) ae) (ac (Y 1) O)))) (ah (aO (pc T.gX (vV T) f (ac (dB K (Y 0) ae) O))) (ah (aO (pc T.gT (vR T) f (ac (dB K (Y 0) ae) O))) (ai (aO (pc T.gk (uU T) f (ac (dB K (Y 0) ae) (ac (Y 2) O))))))))),?_⟩
  refine U rfl (rX g rfl (U rfl ⟨x,tr,tk,rfl,N,i,j,λH1 G=>?_⟩));refine U rfl (rX (am.tseq G g) rfl (U rfl ⟨y,J,lk,rfl,R,G _ _ k,m,λH2 S=>?_⟩));have c:=G.trans S;refine U rfl (rX (am.tseq c g) rfl ⟨ar,l,rfl,am.tseq c n,h1,h2,h3,h4,λH3 V=>?_⟩);have e:=c.trans V;refine U rfl (rX (am.tseq e g) rfl ⟨r,ru,L,rfl,o.kp (.of e),p,t,u,v,z,λH4 W=>?_⟩);have b:=e.trans W;exact U rfl (rX (am.tseq b g) rfl (U rfl ⟨sh,tr,M,tk,rfl,am.tseq b B,b _ _ i,C,D,F,λX Z=>q X (b.trans Z)⟩))
end
inductive Dd|layer(nm:Str)(sl:Int)|trial(x:eP)|share(t:eP)(ns:Os)|deal(t:eP)(z:Int)(ws:Os)|hold(l:dS)(z:Int)|pause(t:eP)(b:Bool)|close(t:eP)|bar(g:Str)(t:eP)|visit(g:Str)
def Dd.clo:Dd->Bool|.share t _=>t.clo|.deal t _ _=>t.clo|.pause t _=>t.clo|.close t=>t.clo|_=>false
inductive mP(K:Of)(H:Hp)(M:cA):Dd->List V->Prop|layer{nm:Str}{sl:Int}(h1:Wd nm)(h2:nm∉M.las.map dS.nm)(h3:0<=sl/\sl<=M.p)(h4:sl∉M.las.map dS.sl)(h5:M.las.length<4):mP K H M (.layer nm sl) [.str "layer",.str nm,.int sl]|trial{x:eP}{ar sh ra:Addr}{ws:Om}(h1:HW M x)(h2:x.nm∉M.trs.map eP.nm)(h3:bj K H ar (x.arms.map V.str))(h4:fw K H x.rule (.ref ra))(h5:x.rule.cnt<=30)(h6:j4 ws x.rule)(h7:∀w∈ws,Wd w)(h8:ws.length<=3)(h9:bj K H sh (x.shuts.map V.str))(ha:∀s∈x.shuts,s∈M.trs.map eP.nm)(hb:x.shuts.Nodup)(hc:x.pau=false)(hd:x.clo=false)(he:x.bar=[])(hf:M.trs.length<10):mP K H M (.trial x) [.str "trial",.str x.nm,.str x.home,.ref ar,.ref ra,.ref sh]|share{t:eP}{ns:Os}{nv:Addr}(h1:t∈M.trs)(h2:bj K H nv (ns.map V.int))(h3:ns.length=t.arms.length)(h4:∀x∈ns,0<=x):mP K H M (.share t ns) [.str "share",.str t.nm,.ref nv]|deal{t:eP}{z:Int}{ws:Os}{wv:Addr}(h1:t∈M.trs)(hz:0<=z/\z<=1000)(h2:bj K H wv (ws.map V.int))(h3:ws.length=t.arms.length)(h4:∀x∈ws,1<=x/\x<=ce):mP K H M (.deal t z ws) [.str "deal",.str t.nm,.int z,.ref wv]|hold{l:dS}{z:Int}(h1:l∈M.las)(h2:0<=z):mP K H M (.hold l z) [.str "hold",.str l.nm,.int z]|pause{t:eP}(h1:t∈M.trs):mP K H M (.pause t true) [.str "pause",.str t.nm]|go{t:eP}(h1:t∈M.trs):mP K H M (.pause t false) [.str "go",.str t.nm]|close{t:eP}(h1:t∈M.trs):mP K H M (.close t) [.str "close",.str t.nm]|bar{g:Str}{t:eP}(h1:yy g)(h2:t∈M.trs):mP K H M (.bar g t) [.str "bar",.str g,.str t.nm]|visit{g:Str}{mv:V}{ms:List (Str×Int)}(h1:yy g)(h2:rQ K H ms mv)(h3:∀m∈ms,Wd m.1/\-ce<=m.2/\m.2<=ce)(h4:(ms.map Prod.fst).Nodup)(h5:ms.length<=8):mP K H M (.visit g) [.str "visit",.str g,mv]
theorem mP.kp(e:Kp H H')(h:mP K H M d c):mP K H' M d c:=by cases h with|layer h1 h2 h3 h4 h5=>exact .layer h1 h2 h3 h4 h5|trial h1 h2 h3 h4 h5 h6 h7 h8 h9 b f hc hd g i=>exact .trial h1 h2 (e.tq h3) (h4.kp e) h5 h6 h7 h8 (e.tq h9) b f hc hd g i|share h1 h2 h3 h4=>exact .share h1 (e.tq h2) h3 h4|deal h1 j h2 h3 h4=>exact .deal h1 j (e.tq h2) h3 h4|hold h1 h2=>exact .hold h1 h2|pause h1=>exact .pause h1|go h1=>exact .go h1|close h1=>exact .close h1|bar h1 h2=>exact .bar h1 h2|visit h1 h2 h3 h4 h5=>exact .visit h1 (h2.kp e) h3 h4 h5
inductive yr(K:Of)(H:Hp)(many:Nat):Str->List V->Prop|share{p:Addr}{l:Os}(h1:bj K H p (l.map V.int))(h2:∀i∈l,0<=i)(h3:l.length=many):yr K H many "share" [.ref p]|deal{z:Int}{p:Addr}{l:Os}(hz:0<=z/\z<=1000)(h1:bj K H p (l.map V.int))(h2:∀i∈l,1<=i/\i<=ce)(h3:l.length=many):yr K H many "deal" [.int z,.ref p]|other{k:Str}(h1:k≠"share")(h2:k≠"deal"):yr K H many k []
inductive Jc(P:Ol)(w:World)(K:Of)(a:gK)(vs:List V)(H:Hp)(Q:VK)(E:XK):Prop|mk(d:Addr)(M:cA)(Z:ZS)(c:Nat)(k:Str)(t:eP)(xs:List V)(_:vs=[.ref d,.ref (Z.G .tn)])(_:bj K H d (.str k::.str t.nm::xs))(_:bJ P w K a H M Z)(_:oS M c)(_:t∈M.trs)(_:yr K H t.arms.length k xs)(_:(t.clo=false->∀H',am H H'->Q .non H'))(_:(t.clo=true->∀H',am H H'->E (.ref a.jt) none H'))
section
def vS(T:Txt K mg a):aT P w K mg base (lP P w) 5 a.eZ.x a.eZ.d ["deed","trials"] (Jc P w K a):=by
 refine T.eZ.okE jQ λF A outer s H N Q E n h=>?_
 ·obtain⟨d,M,Z,c,k,t,R,rfl,o,y,z,B,I,q,r⟩:=h;refine⟨_,(ah (aO (pc T.bW (dF T) n (ac (dB K (Y 0) ae) (ac (Y 1) O)))) (ah (bu 2 jQ.nd (fT (cN n) (Y 1) (dB K (Y 0) ae) (λ_ _=>rfl))) (ah (bu 3 jQ.nd (au (aJ K rfl) (by rfl) T.bx L2.aL (ac (aM K rfl (Y 2)) O))) (ah (aP (aH aV (dB K (Y 0) ae) aB (aG _)) (ai (aO (pc T.ft (sZ T) n (ac (dB K (Y 0) ae) (ac (Y 3) O))))) (ai (aP (aH aV (dB K (Y 0) ae) aB (aG _)) (ai (aO (pc T.eM (qZ T) n (ac (dB K (Y 0) ae) (ac (dB K (Y 0) ae) (ac (Y 3) O)))))) aE))) (ai (aP (aS K rfl (aM K rfl (Y 2)) (λ_=>rfl)) (ai (kx T.w9 rfl T.vb rfl kr (ac aB O))) aE)))))),?_⟩
  obtain⟨j,u⟩:=h_.mp B;have l:=z.tr t B;have C:=z.tget (Z:=Z) u;have J:=l.a4;refine U rfl (rX o (aq (k:=1) rfl) (U rfl ⟨t.nm,Z.G .tn,_,rfl,l.wd,y.tris,by rw[C];rfl,λD e=>?_⟩));have g:=y.same e;have p:=g.trial u;obtain⟨v,-,-⟩:=g.trs j t u;refine U rfl (U rfl (rX (am.tseq e o) (aq (k:=1) rfl) (rG (.ref (Z.G (.tr j))) (by rw[<-C];exact eE.k (k:=.inr t.nm) g.tris) (av ?_))));refine gL p T.bA T.fJ rfl rfl ⟨_,t.arms.length,rfl,.inr ⟨_,v,by simp⟩,av ?_⟩;refine U rfl (rX (am.tseq e o) (aq (k:=0) rfl) ⟨rfl,U rfl ?_⟩);have f:=am.tseq e o;cases I with
 |share h1 h2 h3=>
   refine cf ?_;refine U rfl (rX f (aq (k:=2) rfl) (U rfl ⟨_,_,by rw[h3];rfl,am.tseq e h1,h2,by lia,λm i=>?_⟩));refine gL (i _ _ p) T.bA T.eF rfl rfl ⟨t.clo,rfl,?_⟩;cases b:t.clo
   ·exact bN (q b m (e.trans i))
   ·exact bp ⟨ls rfl,r b m (e.trans i)⟩|deal L h1 h2 h3=>
   refine wn ?_;refine U rfl (rX f (aq (k:=0) rfl) ⟨rfl,U rfl (cf ?_)⟩);refine U rfl (rX f (aq (k:=2) rfl) (U rfl (rX f (aq (k:=3) rfl) (U rfl ⟨_,_,_,by rw[h3];rfl,L,am.tseq e h1,h2,by lia,λm i=>?_⟩))));refine gL (i _ _ p) T.bA T.eF rfl rfl ⟨t.clo,rfl,?_⟩;cases b:t.clo
   ·exact bN (q b m (e.trans i))
   ·exact bp ⟨ls rfl,r b m (e.trans i)⟩|other h1 h2=>
   refine tO h1 ?_;refine U rfl (rX f (aq (k:=0) rfl) ⟨rfl,U rfl (tO h2 ?_)⟩);refine gL p T.bA T.eF rfl rfl ⟨t.clo,rfl,?_⟩;cases b:t.clo
   ·exact bN (q b D e)
   ·exact bp ⟨ls rfl,r b D e⟩
end
inductive GQ(P:Ol)(w:World)(K:Of)(a:gK)(vs:List V)(H:Hp)(Q:VK)(E:XK):Prop|mk(dv:Addr)(M:cA)(Z:ZS)(c:Nat)(d:Dd)(xs:List V)(_:vs=[.ref dv,.int M.p,.ref (Z.G .ln),.ref (Z.G .tn)])(_:bj K H dv xs)(_:bJ P w K a H M Z)(_:oS M c)(_:mP K H M d xs)(_:(d.clo=false->∀H',am H H'->Q .non H'))(_:(d.clo=true->∀H',am H H'->E (.ref a.jt) none H'))
section
def vU(T:Txt K mg a)(hw:w.params=a.pm):aT P w K mg base (lP P w) 13 a.fb.x a.fb.d ["deed","prime","layers","trials"] (GQ P w K a):=by
 refine T.fb.okE nA λaa A outer s H vs Q E p h=>?_
 ·obtain⟨n,M,Z,c,d,xs,rfl,e,r,u,hD,q,C⟩:=h;refine⟨_,(ah (aO (pc T.gW (vT T hw) p (ac (Y 0) O))) (ah (bu 4 nA.nd (dB K (Y 0) ae)) (ai (aP (aH aV (Y 4) aB (aG _)) (ah (aO (pc T.gU (pY T) p (ac (dB K (Y 0) ae) (ac (Y 2) O)))) (ai (aO (pc T.gj (uT T) p (ac (dB K (Y 0) ae) (ac (Y 1) (ac (Y 2) O))))))) (ai (aP (aH aV (Y 4) aB (aG _)) (ai (aO (pc T.gi (uS T) p (ac (Y 0) (ac (Y 2) (ac (Y 3) O)))))) (ai (aP (aH aV (Y 4) aB (aG _)) (ah (aO (pc T.bW (dF T) p (ac (dB K (Y 0) ae) (ac (Y 2) O)))) (ai (aO (pc T.gn (uX T) p (ac (dB K (Y 0) ae) O))))) (ai (aP (aH aV (Y 4) aB (aG _)) (ah (aO (pc T.a0 (gD T) p (ac (dB K (Y 0) ae) O))) (ai (aO (pc T.bW (dF T) p (ac (dB K (Y 0) ae) (ac (Y 3) O)))))) (ai (aP (aH aV (Y 4) aB (aG _)) (ah (aO (pc T.a0 (gD T) p (ac (dB K (Y 0) ae) O))) (ai (aO (pc T.cy (uV T) p (ac (dB K (Y 0) ae) O))))) (ai (aO (bh ((vS T).mono (by decide)) p rfl T.eZ.m T.eZ.f.kp T.eZ.b .nil bo (ac (Y 0) (ac (Y 3) O))))))))))))))))),?_⟩
  have v:∀t∈M.trs,(bB (iX (M.trs.map eP.nm) λi=>V.ref (Z.G (.tr i))) (.inr t.nm)).isSome=true:=λt ht=>by obtain⟨j,R⟩:=h_.mp ht;rw[u.tget (Z:=Z) R];rfl
  have B:∀l∈M.las,(bB (iX (M.las.map dS.nm) λi=>V.ref (Z.G (.lo i))) (.inr l.nm)).isSome=true:=λl hl=>by obtain⟨j,R⟩:=h_.mp hl;rw[u.lget (Z:=Z) R];rfl
  cases hD with|@layer nm sl h1 h2 h3 h4 h5=>refine U rfl ⟨n,_,_,rfl,e,T.rh,?_⟩;refine U rfl (rX e (aq (k:=0) rfl) (av ?_));refine U rfl ⟨rfl,U rfl (cf ?_)⟩;refine U rfl (rX e (aq (k:=1) rfl) (U rfl ⟨_,Z.G .ln,_,rfl,h1,r.lays,kE h2,λL o=>?_⟩));exact U rfl (rX (am.tseq o e) (aq (k:=2) rfl) (U rfl (U rfl ⟨sl,M,Z,rfl,r.same o,by lia,h3.1,h3.2,h4,λD F=>q rfl D (o.trans F)⟩)))|@trial x ar sh ra S h1 h2 h3 h4 h5 h6 h7 h8 h9 ha hb hc hd he hf=>refine U rfl ⟨n,_,_,rfl,e,T.re,?_⟩;refine U rfl (rX e (aq (k:=0) rfl) (av ?_));refine U rfl ⟨rfl,U rfl (wn ?_)⟩;refine U rfl ⟨rfl,U rfl (cf ?_)⟩;obtain⟨W,I,J⟩:=ir.mp h1.hm;refine U rfl (U rfl (U rfl ⟨n,Z.G .ln,Z.G .tn,ar,sh,.ref ra,x.nm,x.home,x.rule,S,x.arms,x.shuts,_,_,rfl,e,h1.wd,by rw[<-J];exact(u.la W I).wd,r.lays,r.tris,kE h2,by rw[<-J];exact B W I,h3,h1.aw,h1.nd,h1.a1,h1.a4,h4,h1.hg,h5,h6,h7,h8,h9,λy hy=>?_,hb,h1.s8,q rfl⟩));obtain⟨z,N,X⟩:=ir.mp (ha y hy);exact⟨by rw[<-X];exact(u.tr z N).wd,by rw[<-X];exact v z N⟩|@hold l z h1 h2=>refine U rfl ⟨n,_,_,rfl,e,T.tH,?_⟩;refine U rfl (rX e (aq (k:=0) rfl) (av ?_));(iterate 2 refine U rfl ⟨rfl,U rfl (wn ?_)⟩);refine U rfl ⟨rfl,U rfl (cf ?_)⟩;refine U rfl (rX e (aq (k:=1) rfl) (U rfl ⟨_,Z.G .ln,_,rfl,(u.la l h1).wd,r.lays,B l h1,λL o=>?_⟩));exact U rfl ⟨n,_,2,_,rfl,rfl,am.tseq o e,aq (k:=2) rfl,_,rfl,h2,q rfl L o⟩|@bar g t h1 h2=>refine U rfl ⟨n,_,_,rfl,e,T.vc,?_⟩;refine U rfl (rX e (aq (k:=0) rfl) (av ?_));(iterate 3 refine U rfl ⟨rfl,U rfl (wn ?_)⟩);refine U rfl ⟨rfl,U rfl (cf ?_)⟩;refine U rfl (rX e (aq (k:=1) rfl) ⟨g,rfl,h1,λL o=>?_⟩);exact U rfl (rX (am.tseq o e) (aq (k:=2) rfl) (U rfl ⟨t.nm,Z.G .tn,_,rfl,(u.tr t h2).wd,o _ _ r.tris,v t h2,λD F=>q rfl D (o.trans F)⟩))|@visit g mv ms h1 h2 h3 h4 h5=>refine U rfl ⟨n,_,_,rfl,e,T.rc,?_⟩;refine U rfl (rX e (aq (k:=0) rfl) (av ?_));(iterate 4 refine U rfl ⟨rfl,U rfl (wn ?_)⟩);refine U rfl ⟨rfl,U rfl (cf ?_)⟩;refine U rfl (rX e (aq (k:=1) rfl) ⟨g,rfl,h1,λL o=>?_⟩);exact U rfl (rX (am.tseq o e) (aq (k:=2) rfl) ⟨mv,ms,rfl,h2.kp (.of o),h3,h4,h5,λD F=>q rfl D (o.trans F)⟩)|@share t ns nv h1 h2 h3 h4=>refine U rfl ⟨n,_,_,rfl,e,T.rf,?_⟩;refine U rfl (rX e (aq (k:=0) rfl) (av ?_));(iterate 5 refine U rfl ⟨rfl,U rfl (wn ?_)⟩);exact U rfl (U rfl ⟨n,M,Z,c,_,t,_,rfl,e,r,u,h1,.share h2 h4 h3,q,C⟩)|@deal t z S wv h1 N h2 h3 h4=>refine U rfl ⟨n,_,_,rfl,e,T.tI,?_⟩;refine U rfl (rX e (aq (k:=0) rfl) (av ?_));(iterate 5 refine U rfl ⟨rfl,U rfl (wn ?_)⟩);exact U rfl (U rfl ⟨n,M,Z,c,_,t,_,rfl,e,r,u,h1,.deal N h2 h4 h3,q,C⟩)|@pause t h1=>refine U rfl ⟨n,_,_,rfl,e,T.rg,?_⟩;refine U rfl (rX e (aq (k:=0) rfl) (av ?_));(iterate 5 refine U rfl ⟨rfl,U rfl (wn ?_)⟩);exact U rfl (U rfl ⟨n,M,Z,c,_,t,_,rfl,e,r,u,h1,.other (by decide+kernel) (by decide+kernel),q,C⟩)|@go t h1=>refine U rfl ⟨n,_,_,rfl,e,T.wf,?_⟩;refine U rfl (rX e (aq (k:=0) rfl) (av ?_));(iterate 5 refine U rfl ⟨rfl,U rfl (wn ?_)⟩);exact U rfl (U rfl ⟨n,M,Z,c,_,t,_,rfl,e,r,u,h1,.other (by decide+kernel) (by decide+kernel),q,C⟩)|@close t h1=>refine U rfl ⟨n,_,_,rfl,e,T.rj,?_⟩;refine U rfl (rX e (aq (k:=0) rfl) (av ?_));(iterate 5 refine U rfl ⟨rfl,U rfl (wn ?_)⟩);exact U rfl (U rfl ⟨n,M,Z,c,_,t,_,rfl,e,r,u,h1,.other (by decide+kernel) (by decide+kernel),q,C⟩)
end
def FM(c:Os)(n:Nat):∀i∈deal c n,0<=i:=λi hi=>by obtain⟨k,b⟩:=h_.mp hi;have:=(yd c n k).1;unfold gd at this;rw[t8,b]at this;exact this
inductive gN(M:cA):Dd->cA->Prop|layer{nm:Str}{sl:Int}:gN M (.layer nm sl) (yo M nm sl)|trial{x:eP}:gN M (.trial x) (yn M x)|share{t:eP}{ns:Os}{i:Nat}{l:dS}(hl:M.las[i]?=some l)(hh:l.nm=t.home)(hn:jK l.S (r6 t.nm t.arms ns)<=((qA M.p l.S.oc).length:Int)):gN M (.share t ns) (om M i l t ns)|deal{t:eP}{z:Int}{ws:Os}{i:Nat}{l:dS}(hl:M.las[i]?=some l)(hh:l.nm=t.home)(hn:jK l.S (r6 t.nm t.arms (deal ws z.toNat))<=((qA M.p l.S.oc).length:Int)):gN M (.deal t z ws) (om M i l t (deal ws z.toNat))|hold{l:dS}{z:Int}{i:Nat}(hl:M.las[i]?=some l):gN M (.hold l z) (Fs M i l z)|pause{t:eP}{b:Bool}{j:Nat}(hj:M.trs[j]?=some t):gN M (.pause t b) (M.setT j {t with pau:=b})|close{t:eP}{i j:Nat}{l:dS}(hj:M.trs[j]?=some t)(hl:M.las[i]?=some l)(hh:l.nm=t.home):gN M (.close t) (om (M.setT j {t with clo:=true}) i l {t with clo:=true} (oT t))|bar{g:Str}{t:eP}{i j:Nat}{l:dS}(hj:M.trs[j]?=some t)(hl:M.las[i]?=some l)(hh:l.nm=t.home):gN M (.bar g t) (Bg M i j l t g)|visit{g:Str}{M':cA}(h:kN g M M'):gN M (.visit g) M'
def Dd.adds:Dd->Bool|.layer _ _=>true|.trial _=>true|_=>false
def Dd.clo_adds{d:Dd}(h:d.clo=true):d.adds=false:=by cases d<;>first|rfl|cases h
inductive Jr(P:Ol)(w:World)(K:Of)(a:gK)(vs:List V)(H:Hp)(Q:VK)(E:XK):Prop|mk(M:cA)(Z:ZS)(c:Nat)(dv:Addr)(d:Dd)(xs:List V)(_:vs=[.ref (Z.G .hh),.ref dv])(_:cL P w K a H M Z c)(_:c<=63)(_:bj K H dv xs)(_:mP K H M d xs)(_:(∀(r:Addr)(us:List V)(M':cA)(Z':ZS)(H':Hp),gN M d M'->gM H M Z H' M' Z'->cL P w K a H' M' Z' (c+1)->H r=none->H' r=some (.lst us)->Z'.ds=Z.ds->Q (.ref r) H'))(_:(d.adds=false->∀H',am H H'->E (.ref a.hE) none H'))
section
def we(T:Txt K mg a):aT P w K mg base (lP P w) 11 a.gf.x a.gf.d ["self","deed"] (Jr P w K a):=by
 refine T.gf.okE nH λan A outer s H vs Q E p h=>?_
 ·obtain⟨M,Z,c,dv,d,xs,rfl,y,hc,u,hD,q,V⟩:=h;refine⟨_,(ah (bu 2 nH.nd (dB K (Y 1) ae)) (ah (aP (aH aV (Y 2) aB (aG _)) (ai (aF (a9 (Y 0) T.ay T.dg.m ((qg (P:=P) (w:=w) T).mono (by decide)) p T.dg.b .nil bE (ac (dB K (Y 1) ae) (ac (dB K (Y 1) ae) O))))) aE) (ah (aP (aH aV (Y 2) aB (aG _)) (ai (aF (a9 (Y 0) T.ay T.df.m ((qf (P:=P) (w:=w) T).mono (by decide)) p T.df.b .nil bE (ac (dB K (Y 1) ae) (ac (tT T.EV ((tm (P:=P) (w:=w) T).mono (by decide)) p rfl T.Hr T.ee.b .nil bE (ac (dB K (Y 1) ae) (ac (dB K (Y 1) ae) (ac (dB K (Y 1) ae) (ac (dB K (Y 1) ae) O))))) O))))) aE) (ah (aP (aH aV (Y 2) aB (aG _)) (ai (aF (a9 (Y 0) T.ay T.bL.m ((gE (P:=P) (w:=w) T).mono (by decide)) p T.bL.b .nil bo (ac (dB K (Y 1) ae) (ac (dB K (Y 1) ae) O))))) aE) (ah (aP (aH aV (Y 2) aB (aG _)) (ai (aF (a9 (Y 0) T.ay T.bL.m ((gE (P:=P) (w:=w) T).mono (by decide)) p T.bL.b .nil bo (ac (dB K (Y 1) ae) (ac (pc T.xc (EI T) p (ac (dB K (Y 1) ae) (ac (dB K (Y 1) ae) O))) O))))) aE) (ah (aP (aH aV (Y 2) aB (aG _)) (ai (aF (a9 (Y 0) T.ay T.dU.m ((q8 (P:=P) (w:=w) T).mono (by decide)) p T.dU.b .nil bo (ac (dB K (Y 1) ae) (ac (dB K (Y 1) ae) O))))) aE) (ah (aP (aH aV (Y 2) aB (aG _)) (ai (aF (a9 (Y 0) T.ay T.cu.m ((jJ (P:=P) (w:=w) T).mono (by decide)) p T.cu.b .nil bE (ac (dB K (Y 1) ae) (ac dZ O))))) aE) (ah (aP (aH aV (Y 2) aB (aG _)) (ai (aF (a9 (Y 0) T.ay T.cu.m ((jJ (P:=P) (w:=w) T).mono (by decide)) p T.cu.b .nil bE (ac (dB K (Y 1) ae) (ac dZ O))))) aE) (ah (aP (aH aV (Y 2) aB (aG _)) (ai (aF (a9 (Y 0) T.ay T.dh.m ((qh (P:=P) (w:=w) T).mono (by decide)) p T.dh.b .nil bo (ac (dB K (Y 1) ae) O)))) aE) (ah (aP (aH aV (Y 2) aB (aG _)) (ai (aF (a9 (Y 0) T.ay T.eB.m ((tE (P:=P) (w:=w) T).mono (by decide)) p T.eB.b .nil bE (ac (dB K (Y 1) ae) (ac (dB K (Y 1) ae) O))))) aE) (ai (aF (a9 (Y 0) T.ay T.de.m ((qd (P:=P) (w:=w) T).mono (by decide)) p T.de.b .nil bE (ac (dB K (Y 1) ae) (ac (dB K (Y 1) ae) O))))))))))))))),?_⟩
  have F:=y.g.house;cases hD with|@layer nm sl h1 h2 h3 h4 h5=>refine U rfl (rX u (aq (k:=0) rfl) (av ?_));refine U rfl ⟨rfl,U rfl (cf ?_)⟩;exact jG F rfl rfl (U rfl (rX u (aq (k:=1) rfl) (U rfl (rX u (aq (k:=2) rfl) ⟨M,Z,c,nm,sl,rfl,y,h1,h2,h3,h5,λr B H' st f p n v=>q r [] _ B H' .layer st (f.mono (qr c)) p n v⟩))))|@trial x ar sh ra J h1 h2 h3 h4 h5 h6 h7 h8 h9 ha hb W hd he hf=>
   refine U rfl (rX u (aq (k:=0) rfl) (av ?_));refine U rfl ⟨rfl,U rfl (wn ?_)⟩;refine U rfl ⟨rfl,U rfl (cf ?_)⟩;refine jG F rfl rfl (U rfl (rX u (aq (k:=1) rfl) ?_));refine U rfl (rX u (aq (k:=2) rfl) (U rfl (rX u (aq (k:=3) rfl) (U rfl (rX u (aq (k:=4) rfl) (U rfl (rX u (aq (k:=5) rfl) (λt ty L X ap=>?_))))))));have s2:am H (aD (aD H ty (.own t)) t (.ins a.fP ty [])):=λb o e=>by rw[ao (aI e L),ao (aI e X)];exact e
   have N:aD (aD H ty (.own t)) t (.ins a.fP ty []) t=some (.ins a.fP ty []):=af;generalize aD (aD H ty (.own t)) t (.ins a.fP ty [])=H2 at s2 N⊢;refine⟨t,ty,ar,ra,sh,x.home,rfl,N,λba H3 aa f3 ad ag=>⟨rfl,?_⟩⟩;have s3:am H H3:=λb o e=>f3 b o (s2 b o e) (aI e L);exact⟨M,Z,c,H,t,ba,ty,ar,sh,.ref ra,x,rfl,y,s3,L,s2.free aa,ag,ad,h3,h4,h9,W,hd,he,h1,h2,hf,λr B H' st f p n v=>q r [] _ B H' .trial st (f.mono (qr c)) p n v⟩|@share t ns nv h1 h2 h3 h4=>obtain⟨j,C⟩:=h_.mp h1;obtain⟨i,l,D,hh⟩:=y.ok.home h1;refine U rfl (rX u (aq (k:=0) rfl) (av ?_));(iterate 2 refine U rfl ⟨rfl,U rfl (wn ?_)⟩);refine U rfl ⟨rfl,U rfl (cf ?_)⟩;exact jG F rfl rfl (U rfl (rX u (aq (k:=1) rfl) (U rfl (rX u (aq (k:=2) rfl) ⟨M,Z,c,i,j,l,t,nv,ns,rfl,y,hc,C,D,hh,.inr h2,h3,h4,λG r I B H' st f p n v=>q r I _ B H' (.share D hh G) st f p n v,λ_=>V rfl⟩))))|@deal t z J wv h1 hz h2 h3 h4=>
   obtain⟨j,C⟩:=h_.mp h1;obtain⟨i,l,D,hh⟩:=y.ok.home h1;have R:=y.ok.tr t h1;have a1:=R.a1;have a4:=R.a4;refine U rfl (rX u (aq (k:=0) rfl) (av ?_));(iterate 3 refine U rfl ⟨rfl,U rfl (wn ?_)⟩);refine U rfl ⟨rfl,U rfl (cf ?_)⟩;refine jG F rfl rfl (U rfl (rX u (aq (k:=1) rfl) (U rfl (rX u (aq (k:=2) rfl) (U rfl (rX u (aq (k:=3) rfl) ⟨z.toNat,wv,J,by rw[show((z.toNat:Nat):Int)=z by lia];rfl,by lia,h2,by lia,by lia,λtv H1 S L=>?_⟩))))));have al:(deal J z.toNat).length=t.arms.length:=by rw[mI];exact h3
   exact⟨M,Z,c,i,j,l,t,tv,deal J z.toNat,rfl,y.same S,hc,C,D,hh,.inr (bj.of L),al,FM J z.toNat,λG r I B H' st f p n v=>q r I _ B H' (.deal D hh G) ((gM.of S).trans st) f (S.free p) n v,λ_ H' s'=>V rfl H' (S.trans s')⟩|@hold l z h1 h2=>obtain⟨i,D⟩:=h_.mp h1;refine U rfl (rX u (aq (k:=0) rfl) (av ?_));(iterate 4 refine U rfl ⟨rfl,U rfl (wn ?_)⟩);refine U rfl ⟨rfl,U rfl (cf ?_)⟩;exact jG F rfl rfl (U rfl (rX u (aq (k:=1) rfl) (U rfl (rX u (aq (k:=2) rfl) ⟨M,Z,c,i,l,z,rfl,y,hc,D,h2,λG r B H' st f p n v=>q r [] _ B H' (.hold D) st f p n v,λ_=>V rfl⟩))))|@pause t h1=>obtain⟨j,C⟩:=h_.mp h1;refine U rfl (rX u (aq (k:=0) rfl) (av ?_));(iterate 5 refine U rfl ⟨rfl,U rfl (wn ?_)⟩);refine U rfl ⟨rfl,U rfl (cf ?_)⟩;exact jG F rfl rfl (U rfl (rX u (aq (k:=1) rfl) ⟨M,Z,c,j,t,true,rfl,y,C,λr H' st f p n=>q r [] _ Z H' (.pause C) st (f.mono (qr c)) p n rfl⟩))|@go t h1=>obtain⟨j,C⟩:=h_.mp h1;refine U rfl (rX u (aq (k:=0) rfl) (av ?_));(iterate 6 refine U rfl ⟨rfl,U rfl (wn ?_)⟩);refine U rfl ⟨rfl,U rfl (cf ?_)⟩;exact jG F rfl rfl (U rfl (rX u (aq (k:=1) rfl) ⟨M,Z,c,j,t,false,rfl,y,C,λr H' st f p n=>q r [] _ Z H' (.pause C) st (f.mono (qr c)) p n rfl⟩))|@close t h1=>obtain⟨j,C⟩:=h_.mp h1;obtain⟨i,l,D,hh⟩:=y.ok.home h1;refine U rfl (rX u (aq (k:=0) rfl) (av ?_));(iterate 7 refine U rfl ⟨rfl,U rfl (wn ?_)⟩);refine U rfl ⟨rfl,U rfl (cf ?_)⟩;exact jG F rfl rfl (U rfl (rX u (aq (k:=1) rfl) ⟨M,Z,c,i,j,l,t,rfl,y,hc,C,D,hh,λr I B H' st f p n v=>q r I _ B H' (.close C D hh) st f p n v⟩))|@bar g t h1 h2=>obtain⟨j,C⟩:=h_.mp h2;obtain⟨i,l,D,hh⟩:=y.ok.home h2;refine U rfl (rX u (aq (k:=0) rfl) (av ?_));(iterate 8 refine U rfl ⟨rfl,U rfl (wn ?_)⟩);refine U rfl ⟨rfl,U rfl (cf ?_)⟩;exact jG F rfl rfl (U rfl (rX u (aq (k:=1) rfl) (U rfl (rX u (aq (k:=2) rfl) ⟨M,Z,c,i,j,l,t,g,rfl,y,hc,C,D,hh,h1,λr I B H' st f p n v=>q r I _ B H' (.bar C D hh) st f p n v⟩))))|@visit g mv ms h1 h2 h3 h4 h5=>refine U rfl (rX u (aq (k:=0) rfl) (av ?_));(iterate 9 refine U rfl ⟨rfl,U rfl (wn ?_)⟩);exact jG F rfl rfl (U rfl (rX u (aq (k:=1) rfl) (U rfl (rX u (aq (k:=2) rfl) ⟨M,Z,c,g,mv,ms,rfl,y,hc,h1,h2,h5,λr I M' B H' vt st f p n v=>q r I M' B H' (.visit vt) st f p n v⟩))))
end
inductive Lj(P:Ol)(w:World)(K:Of)(a:gK)(vs:List V)(H:Hp)(Q:VK)(E:XK):Prop|mk(M:cA)(Z:ZS)(c:Nat)(dv:Addr)(d:Dd)(xs:List V)(_:vs=[.ref (Z.G .hh),.ref dv])(_:cL P w K a H M Z c)(_:c<=63)(_:bj K H dv xs)(_:mP K H M d xs)(_:(d.clo=false->∀(r:Addr)(us:List V)(M':cA)(Z':ZS)(H':Hp),gN M d M'->gM H M Z H' M' Z'->cL P w K a H' M' Z' (c+1)->H r=none->H' r=some (.lst us)->Z'.ds=Z.ds++[.ref dv]->Q (.ref r) H'))(_:(d.adds=false->∀H',am H H'->E (.ref a.hE) none H'))(_:(d.adds=false->∀H',am H H'->E (.ref a.jt) none H'))
section
def zh(T:Txt K mg a)(S:w.params=a.pm):aT P w K mg base (lP P w) 14 a.jp.x a.jp.d ["self","deed"] (Lj P w K a):=by
 refine T.jp.okE sj λV A outer s H vs Q E n h=>?_
 ·obtain⟨M,Z,c,o,d,J,rfl,p,hc,L,N,q,W,X⟩:=h;refine⟨_,(ah (aO (bh ((vU T S).mono (by decide)) n rfl T.fb.m T.fb.f.kp T.fb.b .nil bo (ac (Y 1) (ac (aM K rfl (Y 0)) (ac (aM K rfl (Y 0)) (ac (aM K rfl (Y 0)) O)))))) (ah (bu 2 sj.nd (a9 (Y 0) T.ay T.gf.m ((we (P:=P) (w:=w) T).mono (by decide)) n T.gf.b .nil bo (ac (Y 1) O))) (ah (aO (jd K rfl PySem.F.plainAttrs_list PySem.F.slot_list_append PySem.F.type_list_append fm (aM K rfl (Y 0)) (ac (Y 1) O))) (ai (aF (Y 2)))))),?_⟩
  have v:=p.g.house;refine U rfl (gL v T.ay T.cD rfl rfl (gL v T.ay T.aW rfl rfl (gL v T.ay T.aR rfl rfl ?_)));refine⟨o,M,Z,c,d,J,rfl,L,p.g,p.ok,N,λk H1 j=>?_,λk=>X (Dd.clo_adds k)⟩;refine jG (j _ _ v) rfl rfl (U rfl ⟨M,Z,c,o,d,J,rfl,p.same j,hc,am.tseq j L,N.kp (.of j),λr us y i R nx st e n B l=>?_,λha H' s'=>W ha H' (j.trans s')⟩);have t:=e.g.house;rw[st.hh]at t;have u:=e.g.dees;have C:=p.ds;refine av (gL t T.ay T.jg rfl rfl ⟨.inl ⟨rfl,_,be.of u⟩,U rfl (rA u (by rw[l,hH];lia) ?_)⟩);have D:=e.g.deed (.ref o);have I:gM R y i (aD R (i.G .dl) (.lst (i.ds++[.ref o]))) y {i with ds:=i.ds++[.ref o]}:=gM.put (r:=.dl) trivial rfl rfl rfl rfl λx hx=>.inl hx;refine U rfl (q k r us y {i with ds:=i.ds++[.ref o]} _ nx (((gM.of j).trans st).trans I) ⟨D,e.ok,e.tk,e.ow,by show(i.ds++[_]).length<=c+1;rw[gV,l];exact Nw C⟩ (j.free n) ?_ (by show i.ds++[_]=_;rw[l]));rw[ao λz=>?_]
  ·exact B
  ·rw[z,st.dd,j _ _ p.g.dees]at n;cases n
end
def Iq:List Str:=["ann","ann7","7ann","an","nan","ana","anan","b","bob12","bob1","21bob","annbob"]
def DJ:List Str:=["","ann7","0","guestofthishouse99"]
def Ej(k:Nat):Nat:=if k<26 then 97+k else 22+k
def MH(z:Str)(i:Int)(c:Nat):Str:=Txt.slice z none (some i)++(⟨#[c]⟩:Str)++Txt.slice z (some i) none
def KI(x:Str):Bool:=decide (1<=x.length)&&decide (x.length<=24)&&decide (x≠"neverhere")&&x.cps.toList.all λc=>decide (c∈jj.cps.toList)
def Fw(h:KI x=true):yy x:=by unfold KI at h;rw[kw,kw,kw]at h;exact⟨md h.1.1.1,md h.1.1.2,λc hc=>md (List.all_eq_true.mp h.2 c hc)⟩
def IA{x:Str}(h:KI x=true):x≠"neverhere":=by unfold KI at h;rw[kw,kw,kw]at h;exact md h.1.2
def yJ:∀z∈Iq,KI z=true:=by decide+kernel
def Hl:∀z∈DJ,∀i∈List.range 19,∀c∈List.range 36,KI (MH z (i:Int) (Ej c))=true:=by decide+kernel
def Cg:∀z∈DJ,z.length<=18:=by decide+kernel
def Jx:∀c∈List.range 36,tM ("abcdefghijklmnopqrstuvwxyz0123456789":Str).cps.toList (c:Int)=some (Ej c):=by decide+kernel
def iE{zs:Om}{i:Int}(h0:0<=i)(h1:i<(zs.length:Int)):∃z∈zs,tM (zs.map V.str) i=some (V.str z):=by obtain⟨v,b,hm⟩:=vq (xs:=zs.map V.str) h0 (by rw[b_];exact h1);obtain⟨z,c,rfl⟩:=ir.mp hm;exact⟨z,c,b⟩
inductive D0(vs:List V)(H:Hp)(Q:VK)(_E:XK):Prop|mk(k N:Int)(_:vs=[.int k,.int N])(_:∀(g:Str)H',am H H'->yy g->g≠"neverhere"->Q (.str g) H')
def AA(h:N c H):(jq.mk N R B C).nx c H:=h
def rD{c:TT}{t u:TS}{D:jq}{d:St}(h1:u D d H)(h2:∀N:St->Hp->Prop,N d H->DF c t wF {D with nx:=N} d H):Ag (DF c t wF) u D d H:=h2 (u D) h1
def Me:List Str:=["age","size","old"]
inductive Gy(K:Of)(h:Nat)(vs:List V)(H:Hp)(Q:VK)(_E:XK):Prop|mk(n i:Int)(_:vs=[.int n,.int i])(_:1<=i)(_:i<=(h:Int))(_:∀(r:Ru)(rv:V)H',am H H'->fw K H' r rv->j4 Me r->r.hgt<=h->r.cnt<2^h->Q rv H')
section
def CJ(T:Txt K mg a):aT P w K mg base dq 1 a.rY.x a.rY.d ["_law_k","_law_number"] D0:=by
 refine T.rY.ok kc λp A outer s H D Q E F h=>?_
 ·obtain⟨k,N,rfl,q⟩:=h;refine⟨_,(ah (aP (aH aV (az aY (az bw (Y 1) ae) ae) ae (aG _)) (ah (bu 2 kc.nd (bf (ac aB (ac aB (ac aB (ac aB (ac aB (ac aB (ac aB (ac aB (ac aB (ac aB (ac aB (ac aB O)))))))))))))) (ai (aF (gw K (Y 2) (az aY (az bQ (Y 0) (az bw (Y 1) ae)) ae))))) aE) (ah (bu 3 kc.nd (gw K (bf (ac aB (ac aB (ac aB (ac aB O))))) (az aY (Y 1) ae))) (ah (bu 4 kc.nd (az aY (az bw (Y 1) ae) (az bQ (au (aJ K rfl) (by rfl) T.bx L2.aL (ac (Y 3) O)) ae))) (ah (bu 5 kc.nd (az aY (az bQ (Y 0) (az bw (Y 1) ae)) ae)) (ai (aF (az je (az je (gC xx (Y 3) iR (iQ (Y 4))) (yX AN aB (Y 5) (λ_ _=>rfl))) (gC xx (Y 3) (iQ (Y 4)) iR)))))))),?_⟩
  have b1:=bH (k+N/160) (show(0:Int)<12 by decide);have b2:=bH (k+N/160) (show(0:Int)<36 by decide);have b3:=bH N (show(0:Int)<4 by decide)
  walk_at "a"
  refine jh (λr=>?_) (λr=>?_)
  ·refine⟨ls rfl,λl g=>?_⟩
   walk_at "a"
   obtain⟨z,c,i⟩:=iE (zs:=Iq) b1.1 b1.2;exact⟨l,_,_,U rfl ⟨rfl,be.of af,i,q z _ (aj (am.refl H) g) (Fw (yJ z c)) (IA (yJ z c))⟩⟩
  ·refine⟨ls rfl,λl g=>?_⟩;obtain⟨z,c,i⟩:=iE (zs:=DJ) b3.1 b3.2;have u:=Cg z c;have n:=aj (o:=.lst [V.str "",V.str "ann7",V.str "0",V.str "guestofthishouse99"]) (am.refl H) g;have e:aD H l (.lst [V.str "",V.str "ann7",V.str "0",V.str "guestofthishouse99"]) l=some (.lst [V.str "",V.str "ann7",V.str "0",V.str "guestofthishouse99"]):=af;generalize aD H l (.lst [V.str "",V.str "ann7",V.str "0",V.str "guestofthishouse99"])=G at n e⊢
   walk_at "a"
   refine⟨l,_,_,U rfl ⟨rfl,be.of e,i,av ?_⟩⟩
   walk_at "a"
   refine⟨_,z.length,rfl,⟨dn (by lia),rfl⟩,_,U rfl ⟨rfl,r2 ⟨(by show(0:Int)<_;lia),av ?_⟩⟩⟩;have v:=bH (N/4) (show(0:Int)<(z.length:Int)+1 by lia);have y:=Txt.slice_le z none (some (N/4%((z.length:Int)+1)));have B:=Txt.slice_le z (some (N/4%((z.length:Int)+1))) none;have hok:=Hl z c (N/4%((z.length:Int)+1)).toNat (by rw[oi];lia) ((k+N/160)%36).toNat (by rw[oi];lia);have f:=Jx ((k+N/160)%36).toNat (by rw[oi];lia);rw[show(((N/4%((z.length:Int)+1)).toNat:Nat):Int)=N/4%((z.length:Int)+1)by lia]at hok;rw[show((((k+N/160)%36).toNat:Nat):Int)=(k+N/160)%36 by lia]at f;generalize Ej ((k+N/160)%36).toNat=j at*;have m:∀a b:Str,(a++b).length=a.length+b.length:=λa b=>by show(a.cps++b.cps).size=a.cps.size+b.cps.size;exact Array.size_append
   have C:(⟨#[j]⟩:Str).length=1:=rfl
   walk_at "a"
   refine⟨dn (by lia),?_⟩
   walk_at "a"
   exact⟨"abcdefghijklmnopqrstuvwxyz0123456789",_,j,rfl,rfl,dn (by decide+kernel),f,_,(⟨#[j]⟩:Str),rfl,rfl,dn (by omega),U rfl (U rfl ⟨N/4%((z.length:Int)+1),rfl,z,rfl,dn (by omega),_,U rfl ⟨rfl,dn (by rw[m];omega),q _ _ n (Fw hok) (IA hok)⟩⟩)⟩
theorem zg(T:Txt K mg a):∀h:Nat,aT P w K mg base dq (h+1) a.eU.x a.eU.d ["_law_number","_law_high"] (Gy K h)
 |0=>by
  refine T.eU.f.ok lX (λS H Q E h=>?_) (λW A outer s H S Q E e h=>?_)
  ·obtain⟨n,i,rfl,_⟩:=h;rfl
  ·obtain⟨n,i,rfl,h1,h2,_⟩:=h;lia|hh+1=>by
  have G:=zg T hh;refine T.eU.f.ok lX (λS H Q E h=>?_) (λW A outer s H S Q E e h=>?_)
  ·obtain⟨n,i,rfl,_⟩:=h;rfl
  ·obtain⟨n,i,rfl,h1,h2,q⟩:=h;refine⟨_,(ah (bu 2 lX.nd (az aY (Y 0) ae)) (ah (bu 3 lX.nd (az bw (Y 0) ae)) (ah (bu 4 lX.nd (gw K (bf (ac aB (ac aB (ac aB O)))) (az aY (Y 3) ae))) (ah (aP (aH aV (Y 2) ae (aG _)) (ai (aF (bn (ac aB (ac (Y 4) O))))) aE) (ah (aP (PW.pt (eS (aH aV (Y 2) ae (aG _)) (dy (aH aV (Y 2) ae (aG _))))) (ai (aF (bn (ac aB (ac (Y 4) (ac (az fF (az aY (az bw (Y 3) ae) ae) ae) O)))))) aE) (ah (aP (PW.pt (kZ (aH lG (Y 1) ae (aG _)) (iP (aH aV (Y 2) ae (aG _))))) (ai (aF (bn (ac aB (ac (bh G e rfl T.eU.m T.eU.f.kp T.eU.b .nil bE (ac (Y 3) (ac (az fF (Y 1) ae) O))) O))))) aE) (ah (aP (PW.pt (kZ (aH lG (Y 1) ae (aG _)) (iP (aH aV (Y 2) ae (aG _))))) (ai (aF (bn (ac aB (ac (bh G e rfl T.eU.m T.eU.f.kp T.eU.b .nil bE (ac (Y 3) (ac (az fF (Y 1) ae) O))) (ac (bh G e rfl T.eU.m T.eU.f.kp T.eU.b .nil bE (ac (az bw (Y 3) ae) (ac (az fF (Y 1) ae) O))) O)))))) aE) (ah (aP (PW.pt (kZ (aH lG (Y 1) ae (aG _)) (iP (aH aV (Y 2) ae (aG _))))) (ai (aF (bn (ac aB (ac (bh G e rfl T.eU.m T.eU.f.kp T.eU.b .nil bE (ac (Y 3) (ac (az fF (Y 1) ae) O))) (ac (bh G e rfl T.eU.m T.eU.f.kp T.eU.b .nil bE (ac (az bw (Y 3) ae) (ac (az fF (Y 1) ae) O))) O)))))) aE) (ai (aF (bn (ac aB O)))))))))))),?_⟩
   have X:2<=2^(hh+1):=by rw[NC];have:=Nat.two_pow_pos hh;lia
   walk_at "a"
   refine⟨ls rfl,λl hl=>?_⟩;have b3:=bH (n/10) (show(0:Int)<3 by decide);obtain⟨z,hz,ha⟩:=iE (zs:=Me) b3.1 b3.2;have v:=aj (o:=.lst [V.str "age",V.str "size",V.str "old"]) (am.refl H) hl;have y:aD H l (.lst [V.str "age",V.str "size",V.str "old"]) l=some (.lst [V.str "age",V.str "size",V.str "old"]):=af;generalize aD H l (.lst [V.str "age",V.str "size",V.str "old"])=H0 at v y⊢
   walk_at "a"
   refine⟨l,_,_,U rfl ⟨rfl,be.of y,ha,av ?_⟩⟩;clear y ha b3;refine AA (rD ?_ (λN j=>?_))
   rotate_left
   ·walk_at "a"
    refine jh (λe1=>?_) (λe1=>j);exact U rfl ⟨ls rfl,λt c=>q (.has z) _ _ (aj v c) (.has (bj.of af)) (.has hz) (by show 1<=hh+1;lia) X⟩
   refine rD ?_ (λN j=>?_)
   rotate_left
   ·have b9:=bH (n/10/3) (show(0:Int)<9 by decide);have ad:=qQ;refine U rfl ⟨rfl,U rfl (jh (λ_=>bp ?_) (λ_=>(U rfl ⟨rfl,U rfl (jh (λ_=>?_) (λ_=>j))⟩)))⟩
    all_goals
     walk_at "a"
     exact⟨ls rfl,λt c=>q (.least z _) _ _ (aj v c) (.least (bj.of af)) (.least hz (by lia) (by lia)) (by show 1<=hh+1;lia) X⟩
   have Z:∀m:Nat,m<2^hh->m+1<2^(hh+1):=λm hm=>by rw[NC];lia
   have u:∀m k:Nat,m<2^hh->k<2^hh->m+k+1<2^(hh+1):=λm k hm hk=>by rw[NC];lia
   refine rD ?_ (λN j=>?_)
   rotate_left
   ·refine U rfl (r2 (U rfl (iC (λg=>?_) (λ_=>bN j))));refine U rfl ⟨rfl,U rfl (jh (λ_=>?_) (λ_=>j))⟩;refine U rfl (U rfl (r2 ⟨n/10,i-1,rfl,by lia,by lia,λr R H1 I e J h3 h4=>⟨ls rfl,λt c=>?_⟩⟩));exact q (.not r) _ _ (aj (v.trans I) c) (.not (bj.of af) (e.kp (.of (aj (am.refl _) c)))) (.not J) (by show r.hgt+1<=hh+1;lia) (Z _ h4)
   refine rD ?_ (λN j=>?_)
   rotate_left
   ·refine U rfl (r2 (U rfl (iC (λg=>?_) (λ_=>bN j))));refine U rfl ⟨rfl,U rfl (jh (λ_=>?_) (λ_=>j))⟩;refine U rfl (U rfl (r2 ⟨n/10,i-1,rfl,by lia,by lia,λr R H1 I e J h3 h4=>?_⟩));refine U rfl (r2 ⟨⟨by decide,by decide⟩,U rfl (r2 ⟨n/10/40,i-1,rfl,by lia,by lia,λp B H2 L C D aa F=>⟨ls rfl,λt c=>?_⟩⟩)⟩);have M:=aj (o:=.tup [.str "both",R,B]) (am.refl H2) c;exact q (.both r p) _ _ (aj ((v.trans I).trans L) c) (.both (bj.of af) ((e.kp (.of L)).kp (.of M)) (C.kp (.of M))) (.both J D) (by show max r.hgt p.hgt+1<=hh+1;lia) (by rw[show(Ru.both r p).cnt=r.cnt+p.cnt+1 from r_ (·+1) gV];exact u _ _ h4 F)
   refine rD ?_ (λN j=>?_)
   rotate_left
   ·refine U rfl (r2 (U rfl (iC (λg=>?_) (λ_=>bN j))));refine U rfl ⟨rfl,U rfl (jh (λ_=>?_) (λ_=>j))⟩;refine U rfl (U rfl (r2 ⟨n/10,i-1,rfl,by lia,by lia,λr R H1 I e J h3 h4=>?_⟩));refine U rfl (r2 ⟨⟨by decide,by decide⟩,U rfl (r2 ⟨n/10/40,i-1,rfl,by lia,by lia,λp B H2 L C D aa F=>⟨ls rfl,λt c=>?_⟩⟩)⟩);have M:=aj (o:=.tup [.str "either",R,B]) (am.refl H2) c;exact q (.either r p) _ _ (aj ((v.trans I).trans L) c) (.either (bj.of af) ((e.kp (.of L)).kp (.of M)) (C.kp (.of M))) (.either J D) (by show max r.hgt p.hgt+1<=hh+1;lia) (by rw[show(Ru.either r p).cnt=r.cnt+p.cnt+1 from r_ (·+1) gV];exact u _ _ h4 F)
   exact⟨ls rfl,λt c=>q .any _ _ (aj v c) (.any (bj.of af)) .any (by show 1<=hh+1;lia) X⟩
end
def AB(m:Int)(j:Nat):Str:=Me.getD (((j:Int)+m)%3).toNat "age"
def Kd:List Str:=["marka","markb","markc","markd","marke"]
def Hh(m:Int):AB m=AB (m%3):=by
 funext j
 unfold AB;rw[Int.add_emod,Int.add_emod (j:Int) (m%3),Int.emod_emod]
def E5(m:Int):(Kd++(List.range 3).map (AB m)).Nodup/\∀z∈Kd++(List.range 3).map (AB m),KD z=true:=by rw[Hh];have b:=bH m (show(0:Int)<3 by decide);rcases(by lia:m%3=0\/m%3=1\/m%3=2)with e|e|e<;>rw[e]<;>decide+kernel
def JV{m:Int}{j:Nat}:tM [V.str "age",V.str "size",V.str "old"] ((0+(j:Int)+m)%3)=some (V.str (AB m j)):=by rw[Int.zero_add];have b:=bH ((j:Int)+m) (show(0:Int)<3 by decide);unfold AB;rcases(by lia:((j:Int)+m)%3=0\/((j:Int)+m)%3=1\/((j:Int)+m)%3=2)with e|e|e<;>rw[e]<;>rfl
def KP(K:Of)(H:Hp)(v:V)(m:Str×Int):Prop:=∃b,v=.ref b/\bj K H b [.str m.1,.int m.2]
def sy(e:Kp H H')(h:Paired (KP K H) c d):Paired (KP K H') c d:=Paired.mapP h λv m⟨b,h1,h2⟩=>⟨b,h1,e.tq h2⟩
def LB{a:Addr}{c:List V}{d:List (Str×Int)}(h:Paired (KP K H) c d)(e:bj K H a c):rQ K H d (.ref a):=⟨a,c,rfl,e,Paired.length h,λi m hm=>by obtain⟨v,h1,b,rfl,h2⟩:=xF h i m hm;exact⟨b,h1,h2⟩⟩
def qH{ns:Os}{i:Int}(h0:0<=i)(h1:i<(ns.length:Int)):∃z∈ns,tM (ns.map V.int) i=some (V.int z):=by obtain⟨v,b,hm⟩:=vq (xs:=ns.map V.int) h0 (by rw[b_];exact h1);obtain⟨z,c,rfl⟩:=ir.mp hm;exact⟨z,c,b⟩
def BW:List (Str×Int):=[("marka",-2),("markb",-1),("markc",0),("markd",1),("marke",2)]
def FE:∀j∈List.range 5,tM ("abcde":Str).cps.toList (0+(j:Int))=some (97+j)/\BW[j]?=some (("mark":Str)++(⟨#[97+j]⟩:Str),0+(j:Int)-2):=by decide+kernel
inductive DV(K:Of)(vs:List V)(H:Hp)(Q:VK)(_E:XK):Prop|mk(n:Int)(_:vs=[.int n])(_:∀(t:Addr)(ms:List (Str×Int))H',am H H'->rQ K H' ms (.ref t)->(∀m∈ms,Wd m.1/\-ce<=m.2/\m.2<=ce)->(ms.map Prod.fst).Nodup->ms.length<=8->Q (.ref t) H')
section
def CH(T:Txt K mg a):aT P w K mg base dq 2 a.rT.x a.rT.d ["_law_number"] (DV K):=by
 refine T.rT.ok ka λbb A outer s H r Q E hr h=>?_
 ·obtain⟨n,rfl,q⟩:=h;refine⟨_,(ah (bu 1 ka.nd (bf O)) (ah (fE nk rfl (eK rfl T.fV (ac ae O)) (vB 2 ka.nd) (ai (aP (aH aV (az aY (az bw (Y 0) (gw K (bf (ac ae (ac ae (ac ae O)))) (Y 2))) ae) ae (aG _)) (ah (bu 3 ka.nd (gw K (bf (ac aB (ac aB (ac aB O)))) (az aY (az bQ (Y 2) (az bw (Y 0) ae)) ae))) (ai (aO (jd K rfl PySem.F.plainAttrs_list PySem.F.slot_list_append PySem.F.type_list_append fm (Y 1) (ac (bn (ac (Y 3) (ac (az fF (az aY (az bw (Y 0) (gw K (bf (ac ae (ac ae (ac ae O)))) (Y 2))) ae) ae) O))) O))))) aE))) (ah (aP (aH aV (az aY (az bw (Y 0) ae) ae) ae (aG _)) (ai (bu 1 ka.nd (az Aw (vC vy [] [2] [2] (ak uL) (cG 2) (eK rfl T.fV (ac ae O)) (λcl C s₀ H₀ ex=>⟨(pT vy [] 2),cE,(bn (ac (az je aB (yX AN aB (Y 2) (λ_ _=>rfl))) (ac (az fF (Y 2) ae) O)))⟩)) (Y 1)))) aE) (ai (aF (cV (gp K rfl) (by rfl) T.dW L2.bS (ac (Y 1) O))))))),?_⟩
  refine⟨ls rfl,λl hl=>?_⟩;have s0:=aj (o:=.lst []) (am.refl H) hl;refine av ⟨3,rfl,by lia,by lia,?_⟩;refine i6 (lo:=0) (n:=3) (λi S H'=>am H H'/\(Ii λ(g:List (Str×Int))(r:List V)=>An5 (H' l=some (.lst r)) (Paired (KP K H') r g) ((g.map (·.1)).Sublist ((List.range i).map (AB (n/8)))) ((∀m∈g,-100<=m.2/\m.2<=100)) (Ii λW X=>S=[some (.int n),some (.ref l),W,X]))) ⟨s0,[],[],af,.nil,List.nil_sublist _,(λm hm=>nomatch hm),_,_,rfl⟩ ?_ ?_
  ·rintro i S Z hi⟨s1,g,r,hL,G,b,hb,W,X,rfl⟩;refine av ?_
   walk_at "a"
   refine⟨ls rfl,λl1 ap=>?_⟩;have f:=aj (o:=.lst [V.int 1,V.int 2,V.int 4]) (am.refl Z) ap;have u:aD Z l1 (.lst [V.int 1,V.int 2,V.int 4]) l1=some (.lst [V.int 1,V.int 2,V.int 4]):=af;generalize aD Z l1 (.lst [V.int 1,V.int 2,V.int 4])=I at f u⊢;obtain⟨d,hd,ha⟩:=qH (ns:=[1,2,4]) (i:=0+(i:Int)) (by lia) (by show _<(3:Int);lia);have bc:d=1\/d=2\/d=4:=by simpa using hd
   refine U rfl ⟨l1,_,_,U rfl ⟨rfl,be.of u,ha,_,U rfl ⟨rfl,⟨by lia,by lia⟩,_,U rfl ⟨rfl,(show(0:Int)<2 by decide),rfl,U rfl ?_⟩⟩⟩⟩;refine jh (λ_=>?_) (λ_=>?_)
   ·refine⟨ls rfl,λl2 as=>?_⟩;have J:=aj (o:=.lst [V.str "age",V.str "size",V.str "old"]) (am.refl I) as;have v:aD I l2 (.lst [V.str "age",V.str "size",V.str "old"]) l2=some (.lst [V.str "age",V.str "size",V.str "old"]):=af;generalize aD I l2 (.lst [V.str "age",V.str "size",V.str "old"])=H3 at J v⊢
    walk_at "a"
    refine⟨l2,_,_,U rfl ⟨rfl,be.of v,JV,av ?_⟩⟩;have ax:=J _ _ (f _ _ hL);refine U rfl ⟨.inl ⟨rfl,_,be.of ax⟩,U rfl (U rfl ⟨ls rfl,λl3 a2=>?_⟩)⟩;have s4:=aj (o:=.lst [V.int 24,V.int 240,V.int 2400]) (am.refl H3) a2;have y:aD H3 l3 (.lst [V.int 24,V.int 240,V.int 2400]) l3=some (.lst [V.int 24,V.int 240,V.int 2400]):=af;generalize aD H3 l3 (.lst [V.int 24,V.int 240,V.int 2400])=H4 at s4 y⊢;obtain⟨k,a3,a5⟩:=qH (ns:=[24,240,2400]) (i:=0+(i:Int)) (by lia) (by show _<(3:Int);lia);have ba:k=24\/k=240\/k=2400:=by simpa using a3
    have bi:=bH (n/k) (show(0:Int)<10 by decide);refine U rfl ⟨l3,_,_,U rfl ⟨rfl,be.of y,a5,_,U rfl ⟨rfl,⟨by lia,by lia⟩,_,U rfl ⟨rfl,(show(0:Int)<10 by decide),_,U rfl ⟨rfl,ls rfl,λt ht=>?_⟩⟩⟩⟩⟩;have s5:=aj (o:=.tup [.str (AB (n/8) i),.int (n/k%10-5)]) (am.refl H4) ht;have aa:aD H4 t (.tup [.str (AB (n/8) i),.int (n/k%10-5)]) t=some (.tup [.str (AB (n/8) i),.int (n/k%10-5)]):=af;have s6:am Z (aD H4 t (.tup [.str (AB (n/8) i),.int (n/k%10-5)])):=((f.trans J).trans s4).trans s5;generalize aD H4 t (.tup [.str (AB (n/8) i),.int (n/k%10-5)])=H5 at s6 aa⊢;have ad:=s6 _ _ hL;have a6:=Paired.length G;have L:=b.length_le;rw[b_,b_,ol]at L;refine rA ad (by rw[hH];lia) ⟨bV (s1.trans s6) hl,g++[(AB (n/8) i,n/k%10-5)],_,af,?_,?_,λm hm=>?_,_,_,rfl⟩
    ·exact sy (.lst ad) (Paired.snoc (sy (.of s6) G) ⟨t,rfl,bj.of aa⟩)
    ·rw[g6,NI,g6];exact b.append (N3 _)
    ·rcases List.mem_append.mp hm with z|z
     ·exact hb m z
     ·rw[List.mem_singleton.mp z];show-100<=n/k%10-5/\n/k%10-5<=100;lia
   ·refine⟨s1.trans f,g,r,f _ _ hL,sy (.of f) G,?_,hb,_,_,rfl⟩;rw[NI,g6];exact b.trans (List.sublist_append_left _ _)
  ·rintro S Z⟨s1,g,r,hL,G,b,hb,W,X,rfl⟩
   walk_at "a"
   refine IH (λS H'=>am H H'/\(Mo λ(l':Addr)(g:List (Str×Int))(r:List V)=>An5 (H' l'=some (.lst r)) (Paired (KP K H') r g) ((g.map (·.1)).Sublist (Kd++(List.range 3).map (AB (n/8)))) ((∀m∈g,-100<=m.2/\m.2<=100)) (Ii λW X=>S=[some (.int n),some (.ref l'),W,X]))) ?A (λN hJ=>?B)
   case B=>
    refine jh (λ_=>?_) (λ_=>hJ _ _ ⟨s1,l,g,r,hL,G,b.trans (List.sublist_append_right _ _),hb,_,_,rfl⟩);refine⟨5,rfl,by lia,by lia,λD hD=>?_⟩;refine gS (K:=K) (lo:=0) (n:=5) (λj p H'=>am Z H'/\H' D=some (.lst p)/\Paired (KP K H') p (BW.take j)) ⟨aj (am.refl _) hD,af,.nil⟩ ?_ ?_
    ·rintro j p I hj⟨f,M,c⟩;obtain⟨e1,e2⟩:=FE j (oi.mpr hj);have R:=Paired.length c;rw[ku]at R;refine av (ju (bp ?_));refine U rfl ⟨"abcde",_,97+j,rfl,rfl,dn (by decide+kernel),e1,"mark",(⟨#[97+j]⟩:Str),rfl,rfl,dn (show 4+1<=65536 by decide),U rfl (r2 ⟨ls rfl,λt ht=>?_⟩)⟩;have J:=aj (o:=.tup [.str (("mark":Str)++(⟨#[97+j]⟩:Str)),.int (0+(j:Int)-2)]) (am.refl I) ht;have ag:=J _ _ M;refine⟨ag,by rw[hH];lia,lf hj ⟨bV (f.trans J) hD,af,?_⟩⟩;rw[gx e2];exact sy (.lst ag) (Paired.snoc (sy (.of J) c) ⟨t,rfl,bj.of af⟩)
    ·rintro p I⟨f,M,c⟩;have R:=Paired.length c;have a6:=Paired.length G;have L:=b.length_le;rw[b_,b_,ol]at L;refine U rfl ⟨D,l,_,U rfl ⟨rfl,M,f _ _ hL,by rw[hH];have:p.length=5:=R;lia,λl' al=>av (hJ _ _ ⟨aj (s1.trans f) al,l',BW++g,_,af,sy (.new al) (EA c (sy (.of f) G)),?_,λm hm=>?_,_,_,rfl⟩)⟩⟩
     ·rw[g6];exact(N3 _).append b
     ·rcases List.mem_append.mp hm with z|z
      ·exact(by decide:∀m∈BW,-100<=m.2/\m.2<=100) m z
      ·exact hb m z
   case A=>rintro S I⟨f,l',a7,bl,a8,c,e,an,W,X,rfl⟩;refine U rfl ⟨l',U rfl (.inl ⟨be.of a8,λt ht=>?_⟩)⟩;obtain⟨m1,m2⟩:=E5 (n/8);have bt:=qQ;exact q t a7 _ (aj f ht) (LB (sy (.new ht) c) (bj.of af)) (λm hm=>⟨ny (m2 _ (e.subset (ir.mpr ⟨m,hm,rfl⟩))),by have:=an m hm;lia,by have:=an m hm;lia⟩) (e.nodup m1) (by have:=e.length_le;rw[b_]at this;exact this)
end
def yp(p:Nat):Prop:=p∈[2,3,5,7,11,13]
def yp.le{p:Nat}(h:yp p):2<=p/\p<=13:=(by decide:∀p∈[2,3,5,7,11,13],2<=p/\p<=13) p h
structure yx where
 pl:Addr
 L:Addr
 T:Addr
def Ds(K:Of)(H:Hp)(v:V)(t:Str×Nat):Prop:=∃b,v=.ref b/\bj K H b [.str t.1,.int t.2]
def Ds.kp(e:Kp H H')(h:Paired (Ds K H) c d):Paired (Ds K H') c d:=Paired.mapP h λv m⟨b,h1,h2⟩=>⟨b,h1,e.tq h2⟩
structure nu(K:Of)(H:Hp)(p:Nat)(sa:Int)(ns:Om)(ts:List (Str×Nat))(A:yx):Prop where
 pl:H A.pl=some (.lst [.int p,.int sa,.ref A.L,.ref A.T])L:H A.L=some (.lst (ns.map V.str))T:∃us,H A.T=some (.lst us)/\Paired (Ds K H) us ts
 n1:A.pl≠A.L
 n2:A.pl≠A.T
 n3:A.L≠A.T
def nu.same(h:nu K H p sa ns c A)(e:am H H'):nu K H' p sa ns c A:=let⟨b,h1,h2⟩:=h.T
 ⟨e _ _ h.pl,e _ _ h.L,⟨b,e _ _ h1,Ds.kp (.of e) h2⟩,h.n1,h.n2,h.n3⟩
inductive GA(K:Of)(vs:List V)(H:Hp)(Q:VK)(_E:XK):Prop|mk(sc:Addr)(ns:Os)(_:vs=[.ref sc])(_:be K H sc (ns.map V.int))(_:ns.length<=63)(_:∀(A:yx)(p:Nat)(sa:Int)H',am H H'->H A.pl=none->H A.L=none->H A.T=none->nu K H' p sa [] [] A->yp p->(0<=sa/\sa<=ce)->Q (.ref A.pl) H')
section
def EJ(T:Txt K mg a):aT P w K mg base dq 3 a.xo.x a.xo.d ["_law_script"] (GA K):=by
 refine T.xo.ok uz λF A outer s H J Q E u h=>?_
 ·obtain⟨v,ns,rfl,y,B,q⟩:=h;have G:=qP;refine⟨_,(ah (bu 1 uz.nd (pc T.fg (dA T) u (ac (Y 0) (ac ae (ac ae O))))) (ah (bu 2 uz.nd (gw K (bf (ac ae (ac ae (ac ae (ac ae (ac ae (ac ae (ac ae (ac ae O))))))))) (az aY (Y 1) ae))) (ai (aF (bf (ac (Y 2) (ac (az aY (pc T.iF (mm T) u (ac (Y 0) (ac ae O))) (az bQ (az ml ae ae) ae)) (ac (bf O) (ac (bf O) O))))))))),?_⟩
  refine U rfl ⟨v,ns,0,1,rfl,y,B,⟨by decide,by decide⟩,⟨by decide,by decide⟩,av ?_⟩;generalize c6 ns 0 1=x;have l:=bH x (show(0:Int)<8 by decide);refine⟨ls rfl,λi m=>?_⟩;have f:=aj (o:=.lst [V.int 2,V.int 3,V.int 5,V.int 7,V.int 11,V.int 13,V.int 7,V.int 5]) (am.refl H) m;have e:aD H i (.lst [V.int 2,V.int 3,V.int 5,V.int 7,V.int 11,V.int 13,V.int 7,V.int 5]) i=some (.lst [V.int 2,V.int 3,V.int 5,V.int 7,V.int 11,V.int 13,V.int 7,V.int 5]):=af;generalize aD H i (.lst [V.int 2,V.int 3,V.int 5,V.int 7,V.int 11,V.int 13,V.int 7,V.int 5])=j at f e⊢;obtain⟨p,C,g⟩:=qH (ns:=[2,3,5,7,11,13,7,5]) l.1 l.2
  walk_at "a"
  refine⟨i,_,_,U rfl ⟨rfl,be.of e,g,av ?_⟩⟩;have r:yp p.toNat/\0<=p:=(by unfold yp;decide:∀p∈[(2:Int),3,5,7,11,13,7,5],yp p.toNat/\0<=p) p C;obtain⟨pn,rfl⟩:∃n:Nat,p=n:=⟨p.toNat,by lia⟩;clear C g e l;refine U rfl (U rfl ⟨v,ns,1,rfl,f.seq y,B,?_⟩);generalize sJ ns 1=c;have I:=bH c (show(0:Int)<ce+1 by lia)
  walk_at "a"
  refine⟨ls rfl,λL t=>⟨ls rfl,λT k=>⟨ls rfl,λpl b=>?_⟩⟩⟩;have n3:L≠T:=λz=>by rw[<-z,af]at k;cases k
  have n2:pl≠T:=λz=>by rw[z,af]at b;cases b
  have n1:pl≠L:=λz=>by rw[z,ao n3,af]at b;cases b
  have D:am j (aD (aD j L (.lst [])) T (.lst [])):=aj (aj (am.refl j) t) k;exact q ⟨pl,L,T⟩ pn _ _ (f.trans (aj D b)) ((f.trans D).free b) (f.free t) ((f.trans (aj (am.refl j) t)).free k) ⟨af,by show aD _ _ _ L=_;rw[ao (m3 n1),ao n3,af];rfl,⟨[],by show aD _ _ _ T=_;rw[ao (m3 n2),af],.nil⟩,n1,n2,n3⟩ r.1 ⟨I.1,by lia⟩
end
def fq(M:cA):List Str:=M.las.map dS.nm
def iG(M:cA):List (Str×Nat):=M.trs.map λt=>(t.nm,t.arms.length)
def wV(M:cA):Dd->List Str|.layer nm _=>fq M++[nm]|_=>fq M
def wE(M:cA):Dd->List (Str×Nat)|.trial x=>iG M++[(x.nm,x.arms.length)]|_=>iG M
def fO(ns:Os)(m:Nat):List Str:=(List.range m).map λ(j:Nat)=>du j (c6 ns 3 4)
def F3(ns:Os)(h:m<=4):(fO ns m).length=m/\(fO ns m).Nodup/\∀x∈fO ns m,Wd x:=by
 refine⟨by unfold fO;rw[b_,ol],?_,λx c=>?_⟩
 ·refine List.pairwise_iff_getElem.mpr λi j hi b d e=>?_;unfold fO at e hi b;rw[b_,ol]at hi b;rw[N7,N7,List.getElem_range,List.getElem_range]at e;have:=qN ⟨by lia,by lia⟩ ⟨by lia,by lia⟩ e;lia
 ·obtain⟨j,_,rfl⟩:=ir.mp c;exact t7 _ _
structure gJ(ns:Os)(M:cA):Prop where
 ln:∀(i:Nat)(l:dS),M.las[i]?=some l->l.nm=du i (c6 ns 1 2)/\l.sl=(c6 ns 2 2+i)%((M.p:Int)+1)tn:∀(j:Nat)(t:eP),M.trs[j]?=some t->t.nm=du j (c6 ns 2 3)/\t.arms=fO ns t.arms.length
 lp:M.las.length<=M.p+1
 pr:yp M.p
def F6(ns:Os)(M:cA):Dd->Prop|.layer nm sl=>nm=du M.las.length (c6 ns 1 2)/\sl=(c6 ns 2 2+M.las.length)%((M.p:Int)+1)/\M.las.length<M.p+1|.trial x=>x.nm=du M.trs.length (c6 ns 2 3)/\x.arms=fO ns x.arms.length|.deal _ z b=>z<=100/\∀x∈b,x<=9|.visit g=>g≠"neverhere"|_=>True
def Mp(A:yx)(H H':Hp):Prop:=∃o,(o=A.L\/o=A.T)/\Kp H H'/\∀b ob,H b=some ob->b≠o->H' b=some ob
theorem Mp.of(s:am H H'):Mp A H H':=⟨A.L,.inl rfl,.of s,λb o h _=>s b o h⟩
def jr(K:Of)(ns:Os)(M:cA)(A:yx)(H:Hp)(Q:VK):Prop:=∀(b:Addr)(d:Dd)(c:List V)(H':Hp),Mp A H H'->bj K H' b c->mP K H' M d c->nu K H' M.p M.salt (wV M d) (wE M d) A->F6 ns M d->(M.trs.length=0->d.adds=true)->Q (.ref b) H'
def jr.same(h:jr K ns M A H Q)(s:am H c):jr K ns M A c Q:=λe d f H'⟨o,h1,h2,h3⟩=>h e d f H' ⟨o,h1,Kp.trans (.of s) h2,λb ob g=>h3 b ob (s b ob g)⟩
structure wz(K:Of)(H:Hp)(sc:Addr)(ns:Os)(M:cA)(A:yx)(c:Nat):Prop where
 sq:be K H sc (ns.map V.int)len:ns.length<=63
 pl:nu K H M.p M.salt (fq M) (iG M) A
 ok:oS M c
 pn:gJ ns M
 n4:∀H',(∀b ob,H b=some ob->b≠A.L->H' b=some ob)->be K H' sc (ns.map V.int)
theorem wz.same(h:wz K H d ns M A c)(s:am H H'):wz K H' d ns M A c:=⟨s.seq h.sq,h.len,h.pl.same s,h.ok,h.pn,λf g=>h.n4 f λb ob e n=>g b ob (s b ob e) n⟩
def nu.addL(h:nu K H p sa ns c A)(x:Str):nu K (aD H A.L (.lst (ns.map V.str++[.str x]))) p sa (ns++[x]) c A:=let⟨b,h1,h2⟩:=h.T
 ⟨by rw[ao h.n1];exact h.pl,by rw[af,g6];rfl,⟨b,by rw[ao (m3 h.n3)];exact h1,Ds.kp (.lst h.L) h2⟩,h.n1,h.n2,h.n3⟩
def nu.addT(h:nu K H p sa ns c A)(h1:H A.T=some (.lst d))(h2:Paired (Ds K H) d c)(e:bj K H b [.str x.1,.int x.2]):nu K (aD H A.T (.lst (d++[.ref b]))) p sa ns (c++[x]) A:=⟨by rw[ao h.n2];exact h.pl,by rw[ao h.n3];exact h.L,⟨_,af,Ds.kp (.lst h1) (Paired.snoc h2 ⟨b,rfl,e⟩)⟩,h.n1,h.n2,h.n3⟩
inductive Ji(K:Of)(vs:List V)(H:Hp)(Q:VK)(_E:XK):Prop|mk(sc:Addr)(ns:Os)(M:cA)(A:yx)(c:Nat)(_:vs=[.ref sc,.ref A.pl])(_:wz K H sc ns M A c)(_:M.las.length<4)(_:M.las.length<M.p+1)(_:jr K ns M A H Q)
def Ct(h:gJ ns M)(c:M.las.length<M.p+1):(c6 ns 2 2+M.las.length)%((M.p:Int)+1)∉M.las.map dS.sl:=λz=>by obtain⟨l,hm,e⟩:=ir.mp z;obtain⟨i,hi⟩:=h_.mp hm;have b:=(d_.mp hi).1;rw[(h.ln i l hi).2]at e;have h1:((c6 ns 2 2+M.las.length)-(c6 ns 2 2+i))%((M.p:Int)+1)=0:=Int.emod_eq_emod_iff_emod_sub_eq_zero.mp e.symm;rw[show(c6 ns 2 2+(M.las.length:Int))-(c6 ns 2 2+i)=((M.las.length-i:Nat):Int)by lia,Int.emod_eq_of_lt (by lia) (by lia)]at h1;lia
def CT(h:gJ ns M)(c:M.las.length<4):du M.las.length (c6 ns 1 2)∉M.las.map dS.nm:=λz=>by obtain⟨l,hm,e⟩:=ir.mp z;obtain⟨i,hi⟩:=h_.mp hm;have b:=(d_.mp hi).1;rw[(h.ln i l hi).1]at e;have:=qN ⟨by lia,by lia⟩ ⟨by lia,by lia⟩ e;lia
def Ce(h:gJ ns M)(c:M.trs.length<10):du M.trs.length (c6 ns 2 3)∉M.trs.map eP.nm:=λz=>by obtain⟨t,hm,e⟩:=ir.mp z;obtain⟨i,hi⟩:=h_.mp hm;have b:=(d_.mp hi).1;rw[(h.tn i t hi).1]at e;have:=qN ⟨by lia,by lia⟩ ⟨by lia,by lia⟩ e;lia
section
def wb(T:Txt K mg a):aT P w K mg base dq 3 a.ia.x a.ia.d ["_law_script","_law_plan_here"] (Ji K):=by
 refine T.ia.ok jR λC A outer s H I Q E r h=>?_
 ·obtain⟨z,ns,M,A,c,rfl,g,h4,B,q⟩:=h;refine⟨_,(ah (bu 2 jR.nd (au (aJ K rfl) (by rfl) T.bx L2.aL (ac (gw K (Y 1) ae) O))) (ah (bu 3 jR.nd (pc T.sO (uZ T) r (ac (Y 2) (ac (pc T.fg (dA T) r (ac (Y 0) (ac ae (ac ae O)))) O)))) (ah (aO (jd K rfl PySem.F.plainAttrs_list PySem.F.slot_list_append PySem.F.type_list_append fm (gw K (Y 1) ae) (ac (Y 3) O))) (ai (aF (bn (ac aB (ac (Y 3) (ac (az aY (az bQ (pc T.fg (dA T) r (ac (Y 0) (ac ae (ac ae O)))) (Y 2)) (az bQ (gw K (Y 1) ae) ae)) O))))))))),?_⟩
  have t:=g.pl;have j:(fq M).length=M.las.length:=b_ _;refine U rfl (rX (be.of t.pl) (aq (k:=2) rfl) ⟨_,M.las.length,rfl,.inl ⟨_,be.of t.L,by rw[b_,j]⟩,av ?_⟩);refine U rfl (U rfl ⟨z,ns,1,2,rfl,g.sq,g.len,⟨by decide,by decide⟩,⟨by decide,by decide⟩,(M.las.length:Int),c6 ns 1 2,rfl,λl m=>av ?_⟩);have f:=t.same m;refine U rfl (rX (be.of f.pl) (aq (k:=2) rfl) ⟨.inl ⟨rfl,_,be.of f.L⟩,U rfl (rA f.L (by rw[b_,j,hH];lia) ?_)⟩);have i:=f.addL (du M.las.length (c6 ns 1 2));have kp:Kp l (aD l A.L (.lst ((fq M).map V.str++[.str (du M.las.length (c6 ns 1 2))]))):=.lst f.L;have u:∀b ob,l b=some ob->b≠A.L->aD l A.L (.lst ((fq M).map V.str++[.str (du M.las.length (c6 ns 1 2))])) b=some ob:=λb ob e n=>by rw[ao n];exact e
  generalize aD l A.L (.lst ((fq M).map V.str++[.str (du M.las.length (c6 ns 1 2))]))=D at i kp u⊢;have bs:=bH (c6 ns 2 2+M.las.length) (show(0:Int)<(M.p:Int)+1 by lia);refine U rfl (U rfl ⟨z,ns,2,2,rfl,(g.same m).n4 _ u,g.len,⟨by decide,by decide⟩,⟨by decide,by decide⟩,U rfl (r2 (U rfl (rX (be.of i.pl) (aq (k:=0) rfl) (r2 (r2 ⟨by show(0:Int)<(M.p:Int)+1;lia,ls rfl,λG v=>?_⟩)))))⟩);have y:=aj (o:=.tup [.str "layer",.str (du M.las.length (c6 ns 1 2)),.int ((c6 ns 2 2+M.las.length)%((M.p:Int)+1))]) (am.refl D) v;exact q G (.layer _ _) _ _ ⟨A.L,.inl rfl,Kp.trans (.of m) (Kp.trans kp (.of y)),λb ob e n=>y _ _ (u b ob (m _ _ e) n)⟩ (bj.of af) (.layer (t7 _ _) (CT g.pn h4) ⟨bs.1,by lia⟩ (Ct g.pn B) h4) (i.same y) ⟨rfl,rfl,B⟩ λ_=>rfl
end
inductive Jh(K:Of)(vs:List V)(H:Hp)(Q:VK)(_E:XK):Prop|mk(sc:Addr)(ns:Os)(M:cA)(A:yx)(c:Nat)(n:Int)(_:vs=[.ref sc,.ref A.pl,.int n])(_:wz K H sc ns M A c)(_:M.trs.length<10)(_:0<M.las.length)(_:jr K ns M A H Q)
section
def wa(T:Txt K mg a):aT P w K mg base dq 5 a.hV.x a.hV.d ["_law_script","_law_plan_here","_law_number"] (Jh K):=by
 refine T.hV.ok cU λc2 A outer s H vs Q E N h=>?_
 ·obtain⟨sc,ns,M,A,c,n,rfl,R,h10,c3,q⟩:=h;refine⟨_,(ah (bu 3 cU.nd (au (aJ K rfl) (by rfl) T.bx L2.aL (ac (gw K (Y 1) ae) O))) (ah (bu 4 cU.nd (pc T.sO (uZ T) N (ac (Y 3) (ac (pc T.fg (dA T) N (ac (Y 0) (ac ae (ac ae O)))) O)))) (ah (bu 5 cU.nd (gw K (gw K (Y 1) ae) (az aY (Y 2) (au (aJ K rfl) (by rfl) T.bx L2.aL (ac (gw K (Y 1) ae) O))))) (ah (bu 6 cU.nd (cV (gp K rfl) (by rfl) T.dW L2.bS (ac (vC lA [] [9] [9] (ak kY) (cG 9) (eK rfl T.fV (ac (az bQ ae (az aY (az bw (Y 2) ae) ae)) O)) (λcl C s₀ H₀ ex=>⟨(pT lA [] 9),cE,(pc T.sO (uZ T) N (ac (Y 9) (ac (pc T.fg (dA T) N (ac (Y 0) (ac ae (ac ae O)))) O)))⟩)) O))) (ah (bu 7 cU.nd (bf O)) (ah (bu 8 cU.nd (pc T.fg (dA T) N (ac (Y 0) (ac (az bQ ae (Y 3)) (ac ae O))))) (ah (fE nk rfl (eK rfl T.fV (ac (au (m4 rfl) (by rfl) T.BL L2.qF (ac ae (ac (Y 3) O))) O)) (vB 9 cU.nd) (ai (aP (aH aV (az aY (az bw (Y 8) (gw K (bf (ac ae (ac ae (ac ae (ac ae (ac ae (ac ae (ac ae (ac ae O))))))))) (Y 9))) ae) ae (aG _)) (ai (aO (jd K rfl PySem.F.plainAttrs_list PySem.F.slot_list_append PySem.F.type_list_append fm (Y 7) (ac (dB K (gw K (gw K (Y 1) ae) (az fF (az fF (Y 3) ae) (Y 9))) ae) O)))) aE))) (ah (aO (jd K rfl PySem.F.plainAttrs_list PySem.F.slot_list_append PySem.F.type_list_append fm (gw K (Y 1) ae) (ac (bn (ac (Y 4) (ac (au (aJ K rfl) (by rfl) T.bx L2.aL (ac (Y 6) O)) O))) O))) (ai (aF (bn (ac aB (ac (Y 4) (ac (Y 5) (ac (Y 6) (ac (bh ((zg T 3).mono (by decide)) N rfl T.eU.m T.eU.f.kp T.eU.b .nil bE (ac (az bw (Y 2) ae) (ac ae O))) (ac (cV (gp K rfl) (by rfl) T.dW L2.bS (ac (Y 7) O)) O))))))))))))))))),?_⟩
  have hP:=R.pl;have c4:(fq M).length=M.las.length:=b_ _;have bT:(iG M).length=M.trs.length:=b_ _;have l4:=R.ok.l4;obtain⟨us,ag,an⟩:=hP.T;have ap:=Paired.length an;rw[bT]at ap;refine U rfl (rX (be.of hP.pl) (aq (k:=3) rfl) ⟨_,M.trs.length,rfl,.inl ⟨_,be.of ag,by rw[ap]⟩,av ?_⟩);refine U rfl (U rfl ⟨sc,ns,2,3,rfl,R.sq,R.len,⟨by decide,by decide⟩,⟨by decide,by decide⟩,(M.trs.length:Int),c6 ns 2 3,rfl,λH1 s1=>av ?_⟩);have p:=R.same s1;have bl:=bH n (show(0:Int)<((fq M).length:Int)by lia);obtain⟨hm,bU,bX⟩:=iE bl.1 bl.2;refine U rfl (rX (be.of p.pl.pl) (aq (k:=2) rfl) (U rfl (U rfl (rX (be.of p.pl.pl) (aq (k:=2) rfl) ⟨_,(fq M).length,rfl,.inl ⟨_,be.of p.pl.L,by rw[b_]⟩,_,U rfl ⟨rfl,by show(0:Int)<((fq M).length:Int);lia,A.L,_,_,U rfl ⟨rfl,be.of p.pl.L,bX,av ?_⟩⟩⟩))));have b4:=bH (n/4) (show(0:Int)<4 by decide)
  walk_at "a"
  refine⟨by lia,by lia,λD hD=>?_⟩;obtain⟨m,b0,a5,em⟩:∃m:Nat,1<=m/\m<=4/\1+n/4%4=(m:Int):=⟨(1+n/4%4).toNat,by lia,by lia,by lia⟩;rw[em];obtain⟨al,a6,aw⟩:=F3 ns a5;refine gS (K:=K) (lo:=0) (n:=(m:Int).toNat) (λj S H'=>am H1 H'/\H' D=some (.lst S)/\S=((fO ns m).take j).map V.str) ⟨aj (am.refl _) hD,af,rfl⟩ ?_ ?_
  ·rintro j S H2 hj⟨s2,G,rfl⟩;rw[show(0:Int)+(j:Int)=((j:Nat):Int)by lia];refine av (ju (bp ?_));refine U rfl (U rfl ⟨sc,ns,3,4,rfl,s2.seq p.sq,R.len,⟨by decide,by decide⟩,⟨by decide,by decide⟩,(j:Int),c6 ns 3 4,rfl,λH3 s3=>?_⟩);refine⟨s3 _ _ G,by rw[b_,ku,hH];lia,lf hj ⟨bV (s2.trans s3) hD,af,?_⟩⟩;have e:(fO ns m)[j]?=some (du (j:Int) (c6 ns 3 4)):=by unfold fO;rw[gg,List.getElem?_range (by lia)];rfl
   rw[gx e,g6];rfl
  ·rintro S H2⟨s2,G,rfl⟩;rw[iA (by lia)]at G;refine⟨D,U rfl (.inl ⟨be.of G,λar a7=>av ?_⟩)⟩;have s3:am H1 (aD H2 ar (.tup ((fO ns m).map V.str))):=aj s2 a7;have W:aD H2 ar (.tup ((fO ns m).map V.str)) ar=some (.tup ((fO ns m).map V.str)):=af;generalize aD H2 ar (.tup ((fO ns m).map V.str))=H3 at s3 W⊢;clear G s2 a7 hD;refine⟨ls rfl,λsl as=>av ?_⟩;have s4:=aj (o:=.lst []) s3 as;have X:=aj (o:=.lst []) (am.refl H3) as _ _ W;have a8:=p.same s4;have Z:H1 sl=none:=s3.free as;have aa:aD H3 sl (.lst []) sl=some (.lst []):=af;generalize aD H3 sl (.lst [])=H4 at s4 X a8 aa⊢;refine U rfl (U rfl (r2 ⟨sc,ns,5+(M.trs.length:Int),7,rfl,a8.sq,R.len,⟨by lia,by lia⟩,⟨by decide,by decide⟩,av ?_⟩));generalize c6 ns (5+(M.trs.length:Int)) 7=mr;have ax:(if(M.trs.length:Int)<8 then(M.trs.length:Int)else 8)=((min 8 M.trs.length:Nat):Int):=by split<;>lia
   refine U rfl ⟨_,U rfl (U rfl ⟨by rw[ax];lia,by rw[ax];lia,?_⟩)⟩;rw[ax];have nd:((M.trs.map eP.nm).reverse).Nodup:=List.pairwise_reverse.mpr (List.Pairwise.imp (λh=>m3 h) R.ok.tn);have da:((M.trs.map eP.nm).reverse).length=M.trs.length:=by rw[Na,b_]
   refine i6 (lo:=0) (n:=((min 8 M.trs.length:Nat):Int).toNat) (λi σ H'=>am H1 H'/\H' ar=some (.tup ((fO ns m).map V.str))/\∃(B:Om),H' sl=some (.lst (B.map V.str))/\B.Sublist ((M.trs.map eP.nm).reverse.take i)/\∃v9,σ=[some (.ref sc),some (.ref A.pl),some (.int n),some (.int M.trs.length),some (.str (du M.trs.length (c6 ns 2 3))),some (.str hm),some (.ref ar),some (.ref sl),some (.int mr),v9]) ⟨s4,X,[],aa,List.nil_sublist _,_,rfl⟩ ?_ ?_
   ·rintro i σ H5 hi⟨I,g,B,hz,l,v9,rfl⟩;have dc:i<min 8 M.trs.length:=by lia
    refine av ?_;refine U rfl ⟨ls rfl,λl5 b7=>?_⟩;refine qj b7 λH6 u b8=>?_;obtain⟨d,hd,ha⟩:=qH (ns:=[1,4,16,64,256,1024,4096,16384]) (i:=0+(i:Int)) (by lia) (by show _<(8:Int);lia);have b9:=(by decide:∀d∈[(1:Int),4,16,64,256,1024,4096,16384],0<d/\d<1073741824) d hd;refine U rfl ⟨l5,_,_,U rfl ⟨rfl,be.of b8,ha,_,U rfl ⟨rfl,b9,_,U rfl ⟨rfl,(show(0:Int)<4 by decide),rfl,U rfl ?_⟩⟩⟩⟩;have a2:(M.trs.map eP.nm).reverse[i]?=(M.trs.map eP.nm)[M.trs.length-1-i]?:=by rw[List.getElem?_reverse (by rw[b_];lia),b_]
    obtain⟨t,ht⟩:∃t,M.trs[M.trs.length-1-i]?=some t:=⟨_,fy (by lia)⟩;rw[gg,ht]at a2;refine jh (λ_=>?_) (λ_=>⟨I.trans u,u _ _ g,B,u _ _ hz,by rw[gx a2];exact l.trans (List.sublist_append_left _ _),_,rfl⟩);have cc:=p.pl.same (I.trans u);obtain⟨v,hv,b,rfl,hb⟩:=xF an (M.trs.length-1-i) (t.nm,t.arms.length) (by unfold iG;rw[gg,ht];rfl);have y:=(s1.trans (I.trans u)) _ _ ag;have ba:=u _ _ hz;have a3:=l.length_le;rw[ku]at a3;refine U rfl ⟨.inl ⟨rfl,_,be.of ba⟩,U rfl (rX (be.of cc.pl) (aq (k:=3) rfl) (U rfl (r2 (U rfl (r2 ?_)))))⟩;refine rX (be.of y) (by rw[show(M.trs.length:Int)-1-(0+(i:Int))=((M.trs.length-1-i:Nat):Int)by lia];exact aq hv) (rX (am.tseq (s1.trans (I.trans u)) hb) (aq (k:=0) rfl) ?_);refine rA ba (by rw[b_,hH];lia) ⟨bV (I.trans u) Z,by rw[ao λz=>by rw[z,hz]at g;cases g];exact u _ _ g,B++[t.nm],by rw[af,g6];rfl,?_,_,rfl⟩;rw[gx a2];exact l.append (N3 _)
   ·rintro σ H5⟨I,g,B,hz,l,v9,rfl⟩;have bb:=p.same I;have ci:=(l.trans (Nk _ _)).nodup nd;have a3:=l.length_le;rw[ku]at a3;have J:=(s1.trans I) _ _ ag;have bc:=Ds.kp (.of (s1.trans I)) an;refine U rfl (rX (be.of bb.pl.pl) (aq (k:=3) rfl) ⟨.inl ⟨rfl,_,be.of J⟩,U rfl (U rfl ⟨_,m,rfl,.inr ⟨_,bj.of g,by rw[b_,al]⟩,ls rfl,λb hb=>?_⟩)⟩);refine qj hb λH6 u cP=>?_;have y:=u _ _ J;refine rA y (by rw[ap,hH];lia) ?_;have bi:=(bb.pl.same u).addT y (Ds.kp (.of u) bc) (x:=(du M.trs.length (c6 ns 2 3),m)) (bj.of cP);have kp:Kp H6 (aD H6 A.T (.lst (us++[.ref b]))):=.lst y;have hk:∀d ob,H6 d=some ob->d≠A.T->aD H6 A.T (.lst (us++[.ref b])) d=some ob:=λd ob e n=>by rw[ao n];exact e
    generalize aD H6 A.T (.lst (us++[.ref b]))=H7 at bi kp hk⊢;have nT:∀{d:Addr},H1 d=none->d≠A.T:=λh z=>by rw[z,p.pl.T.choose_spec.1]at h;cases h
    have bt:=hk _ _ (u _ _ g) (λz=>by rw[z,J]at g;cases g);have c0:=hk _ _ (u _ _ hz) (nT Z);refine U rfl (U rfl (U rfl (U rfl (r2 ⟨⟨by decide,by decide⟩,n/16,3,rfl,by decide,by decide,λr rv H8 s8 N ho hh hc=>?_⟩))));refine U rfl ⟨sl,U rfl (.inl ⟨be.of (s8 _ _ c0),λsh c1=>⟨ls rfl,λdv bz=>?_⟩⟩)⟩;obtain⟨ra,rfl⟩:∃ra,rv=.ref ra:=by cases N<;>exact⟨_,rfl⟩
    have s9:=aj (o:=.tup (B.map V.str)) (am.refl H8) c1;have ad:aD H8 sh (.tup (B.map V.str)) sh=some (.tup (B.map V.str)):=af;generalize aD H8 sh (.tup (B.map V.str))=H9 at s9 ad bz⊢;have sa:=aj (o:=.tup [.str "trial",.str (du M.trs.length (c6 ns 2 3)),.str hm,.ref ar,.ref ra,.ref sh]) (am.refl H9) bz;refine q dv (.trial ⟨du M.trs.length (c6 ns 2 3),hm,fO ns m,r,B,false,false,[]⟩) _ _ ⟨A.T,.inr rfl,Kp.trans (.of ((s1.trans I).trans u)) (Kp.trans kp (.of ((s8.trans s9).trans sa))),λd ob e n=>((s8.trans s9).trans sa) _ _ (hk d ob (((s1.trans I).trans u) _ _ e) n)⟩ (bj.of af) ?_ ?_ ⟨rfl,by show fO ns m=fO ns (fO ns m).length;rw[al]⟩ λ_=>rfl
    ·exact .trial ⟨t7 _ _,bU,by rw[al];exact b0,by rw[al];exact a5,a6,aw,by show r.hgt<=6;lia,by show B.length<=8;lia⟩ (Ce R.pn h10) (bj.of (((s8.trans s9).trans sa) _ _ bt)) ((N.kp (.of s9)).kp (.of sa)) (by show r.cnt<=30;lia) ho (λw hw=>ny ((by decide+kernel:∀w∈Me,KD w=true) w hw)) (by decide) (bj.of (sa _ _ ad)) (λz hz=>J_.mp (M3 (l.subset hz))) ci rfl rfl rfl h10
    ·have:=bi.same ((s8.trans s9).trans sa);rw[show wE M (.trial ⟨du M.trs.length (c6 ns 2 3),hm,fO ns m,r,B,false,false,[]⟩)=iG M++[(du M.trs.length (c6 ns 2 3),m)]by show iG M++[(_,(fO ns m).length)]=_;rw[al]];exact this
end
inductive DR(K:Of)(vs:List V)(H:Hp)(Q:VK)(_E:XK):Prop|mk(sc:Addr)(ns:Os)(M:cA)(A:yx)(c:Nat)(k n:Int)(_:vs=[.ref sc,.ref A.pl,.int k,.int n])(_:wz K H sc ns M A c)(_:(0<=k/\k<=1000))(_:0<M.trs.length)(_:jr K ns M A H Q)
def wz.tri(h:wz K H l ns M A c)(h1:H A.T=some (.lst d))(h2:Paired (Ds K H) d (iG M))(n:Int)(h0:0<M.trs.length):∃(t:eP)(b:Addr),t∈M.trs/\tM d (n%(d.length:Int))=some (.ref b)/\bj K H b [.str t.nm,.int t.arms.length]:=by
 have e:=Paired.length h2;rw[show(iG M).length=M.trs.length from b_ _]at e;have b:=bH n (show(0:Int)<(d.length:Int)by lia);have f:(n%(d.length:Int)).toNat<M.trs.length:=by lia
 obtain⟨v,g,i,rfl,j⟩:=xF h2 (n%(d.length:Int)).toNat _ (by unfold iG;rw[gg,fy f];rfl);refine⟨_,i,B_ f,?_,j⟩;have:=aq g;rw[show(((n%(d.length:Int)).toNat:Nat):Int)=n%(d.length:Int)by lia]at this;exact this
section
def CG(T:Txt K mg a):aT P w K mg base dq 3 a.rS.x a.rS.d ["_law_script","_law_plan_here","_law_k","_law_number"] (DR K):=by
 refine T.rS.ok mT λag A outer s H vs Q E hr h=>?_
 ·obtain⟨sc,ns,M,A,c,k,n,rfl,r,⟨k0,k1⟩,h0,q⟩:=h;refine⟨_,(ah (bu 4 mT.nd (gw K (gw K (Y 1) ae) (az aY (Y 3) (au (aJ K rfl) (by rfl) T.bx L2.aL (ac (gw K (Y 1) ae) O))))) (ah (xE (i:=5) mT.nd rfl (.inr rfl) (az bQ (az bw (gw K (Y 1) ae) ae) ae)) (ah (aP (aH aV (az aY (az bw (Y 3) ae) ae) ae (aG _)) (ah (bu 6 mT.nd (cV (gp K rfl) (by rfl) T.dW L2.bS (ac (vC mO ["_law_j"] [] [7] (ak pH) (cG 7) (eK rfl T.fV (ac (dB K (Y 4) ae) O)) (λcl C s₀ H₀ ex=>⟨(pT mO ["_law_j"] 7),cE,(az bQ ae (az aY (pc T.fg (dA T) hr (ac (Y 0) (ac (Y 2) (ac (az bQ ae (Y 7)) O)))) ae))⟩)) O))) (ai (aF (bn (ac aB (ac (dB K (Y 4) ae) (ac (az aY (pc T.fg (dA T) hr (ac (Y 0) (ac (Y 2) (ac ae O)))) (az bQ (gw K (Y 1) ae) ae)) (ac (Y 6) O)))))))) aE) (ai (aF (bn (ac aB (ac (dB K (Y 4) ae) (ac (cV (gp K rfl) (by rfl) T.dW L2.bS (ac (vC mO ["_law_j"] [] [7] (ak pH) (cG 7) (eK rfl T.fV (ac (dB K (Y 4) ae) O)) (λcl C s₀ H₀ ex=>⟨(pT mO ["_law_j"] 7),cE,(az aY (pc T.fg (dA T) hr (ac (Y 0) (ac (Y 2) (ac (az bQ ae (Y 7)) O)))) (Y 5))⟩)) O)) O))))))))),?_⟩
  have J:=r.pl;have hp:=r.pn.pr.le;have al:=qQ;obtain⟨us,L,X⟩:=J.T;have aa:=Paired.length X;rw[show(iG M).length=M.trs.length from b_ _]at aa;obtain⟨t,b,B,ad,hb⟩:=r.tri L X n h0;have a1:=(r.ok.tr t B).a1;have a4:=(r.ok.tr t B).a4;refine U rfl (rX (be.of J.pl) (aq (k:=3) rfl) (U rfl (U rfl (rX (be.of J.pl) (aq (k:=3) rfl) ⟨_,us.length,rfl,.inl ⟨_,be.of L,rfl⟩,_,U rfl ⟨rfl,by show(0:Int)<(us.length:Int);lia,A.T,_,_,U rfl ⟨rfl,be.of L,ad,av ?_⟩⟩⟩))));refine U rfl (rX (be.of J.pl) (aq (k:=0) rfl) (r2 ⟨⟨by decide,by decide⟩,_,U rfl ⟨rfl,av (AA (rD ?_ (λN hN=>?_)))⟩⟩))
  rotate_left
  ·walk_at "a"
   refine jh (λ_=>?_) (λ_=>hN);refine U rfl (rX hb (aq (k:=1) rfl) (U rfl ⟨by lia,by lia,λD Z=>?_⟩));refine gS (K:=K) (lo:=0) (n:=(t.arms.length:Int).toNat) (λj f H'=>am H H'/\H' D=some (.lst f)/\∃(e:Os),f=e.map V.int/\e.length=j/\∀x∈e,1<=x/\x<=9) ⟨aj (am.refl _) Z,af,[],rfl,rfl,λx m=>nomatch m⟩ ?_ ?_
   ·rintro j f R hj⟨F,l,e,rfl,u,g⟩;refine av (ju (bp ?_));have b9:=bH (c6 ns k (11+(0+(j:Int)))) (show(0:Int)<9 by decide);refine U rfl (U rfl (U rfl (r2 ⟨sc,ns,k,11+(0+(j:Int)),rfl,F.seq r.sq,r.len,⟨by lia,by lia⟩,⟨by lia,by lia⟩,_,U rfl ⟨rfl,(show(0:Int)<9 by decide),_,U rfl ⟨rfl,?_⟩⟩⟩)));refine⟨l,by rw[b_,hH];lia,lf hj ⟨bV F Z,af,e++[1+c6 ns k (11+(0+(j:Int)))%9],by rw[g6];rfl,by rw[gV,u];rfl,λx m=>?_⟩⟩;rcases List.mem_append.mp m with z|z
    ·exact g x z
    ·rw[List.mem_singleton.mp z];lia
   ·rintro f R⟨F,l,e,rfl,u,g⟩;refine⟨D,U rfl (.inl ⟨be.of l,λG S=>av ?_⟩)⟩;have y:=aj (o:=.tup (e.map V.int)) F S;have v:aD R G (.tup (e.map V.int)) G=some (.tup (e.map V.int)):=af;generalize aD R G (.tup (e.map V.int))=H3 at y v⊢;have bz:=bH (c6 ns k 10) (show(0:Int)<(M.p:Int)+1 by lia);refine U rfl (rX (am.tseq y hb) (aq (k:=0) rfl) (U rfl (U rfl ⟨sc,ns,k,10,rfl,y.seq r.sq,r.len,⟨by lia,by lia⟩,⟨by decide,by decide⟩,U rfl (rX (be.of (y _ _ J.pl)) (aq (k:=0) rfl) (r2 (r2 ⟨by show(0:Int)<(M.p:Int)+1;lia,U rfl ⟨ls rfl,λdv I=>?_⟩⟩)))⟩)));have W:=aj (o:=.tup [.str "deal",.str t.nm,.int (c6 ns k 10%((M.p:Int)+1)),.ref G]) (am.refl H3) I;exact q dv (.deal t _ e) _ _ (.of (y.trans W)) (bj.of af) (.deal B ⟨bz.1,by lia⟩ (bj.of (W _ _ v)) (by lia) λx m=>⟨(g x m).1,by have:=(g x m).2;lia⟩) (J.same (y.trans W)) ⟨by lia,λx m=>(g x m).2⟩ λz=>absurd z (me h0)
  ·refine U rfl (rX hb (aq (k:=0) rfl) (U rfl (rX hb (aq (k:=1) rfl) (U rfl ⟨by lia,by lia,λD Z=>?_⟩))));refine gS (K:=K) (lo:=0) (n:=(t.arms.length:Int).toNat) (λj f H'=>am H H'/\H' D=some (.lst f)/\∃(e:Os),f=e.map V.int/\e.length=j/\∀x∈e,0<=x) ⟨aj (am.refl _) Z,af,[],rfl,rfl,λx m=>nomatch m⟩ ?_ ?_
   ·rintro j f R hj⟨F,l,e,rfl,u,g⟩;refine av (ju (bp ?_));have b9:=bH (c6 ns k (11+(0+(j:Int)))) (show(0:Int)<(M.p:Int)/2+2 by lia);refine U rfl (U rfl (U rfl (r2 ⟨sc,ns,k,11+(0+(j:Int)),rfl,F.seq r.sq,r.len,⟨by lia,by lia⟩,⟨by lia,by lia⟩,U rfl (r2 ⟨(by show(0:Int)<(M.p:Int)/2+2;lia),?_⟩)⟩)));refine⟨l,by rw[b_,hH];lia,lf hj ⟨bV F Z,af,e++[c6 ns k (11+(0+(j:Int)))%((M.p:Int)/2+2)],by rw[g6];rfl,by rw[gV,u];rfl,λx m=>?_⟩⟩;rcases List.mem_append.mp m with z|z
    ·exact g x z
    ·rw[List.mem_singleton.mp z];exact b9.1
   ·rintro f R⟨F,l,e,rfl,u,g⟩;refine⟨D,U rfl (.inl ⟨be.of l,λG S=>⟨ls rfl,λdv I=>?_⟩⟩)⟩;have y:=aj (o:=.tup (e.map V.int)) F S;have v:aD R G (.tup (e.map V.int)) G=some (.tup (e.map V.int)):=af;generalize aD R G (.tup (e.map V.int))=H3 at y v I⊢;have W:=aj (o:=.tup [.str "share",.str t.nm,.ref G]) (am.refl H3) I;exact q dv (.share t e) _ _ (.of (y.trans W)) (bj.of af) (.share B (bj.of (W _ _ v)) (by lia) g) (J.same (y.trans W)) trivial λz=>absurd z (me h0)
end
def ve(F G:Prop)(hc:∀Q:Bool->Hp->Prop,(F->Q true H)->(G->Q false H)->c d H Q)(h1:F->∀N:St->Hp->Prop,t {D with nx:=N} d H)(h2:G->u D d H):Ag (DF c t wF) u D d H:=hc _ (λf=>bp (h1 f _)) λg=>bN (h2 g)
def A9{c:Prop}[Decidable c]{Q:Bool->Hp->Prop}{H:Hp}(h1:c->Q true H)(h2:¬c->Q false H):Q (decide c) H:=by
 by_cases e:c
 ·rw[ji e];exact h1 e
 ·rw[i_ e];exact h2 e
def MP{te:TE}{g:TG}{u:TS}{D:jq}{c:St}(h1:∀Q:VK,(∀b,Q (.bl b) H)->te c H Q)(h2:∀b,g (.bl b) c H (u D)):Ag (yE te g) u D c H:=h1 _ h2
inductive GI(K:Of)(vs:List V)(H:Hp)(Q:VK)(_E:XK):Prop|mk(sc:Addr)(ns:Os)(M:cA)(A:yx)(c:Nat)(k:Int)(_:vs=[.ref sc,.ref A.pl,.int k])(_:wz K H sc ns M A c)(_:(0<=k/\k<=1000))(_:jr K ns M A H Q)
section
def EK(T:Txt K mg a):aT P w K mg base dq 6 a.xq.x a.xq.d ["_law_script","_law_plan_here","_law_k"] (GI K):=by
 refine T.xq.ok kd λan A outer s H vs Q E F h=>?_
 ·obtain⟨R,ns,M,A,c,k,rfl,v,⟨k0,k1⟩,q0⟩:=h;refine⟨_,(ah (bu 3 kd.nd (pc T.fg (dA T) F (ac (Y 0) (ac (Y 2) (ac ae O))))) (ah (bu 4 kd.nd (az bw (Y 3) ae)) (ah (bu 5 kd.nd (pc T.rY (CJ T) F (ac (az aY (Y 4) ae) (ac (pc T.fg (dA T) F (ac (Y 0) (ac ae (ac ae O)))) O)))) (ah (aP (PW.pt (eS (aH aV (au (aJ K rfl) (by rfl) T.bx L2.aL (ac (gw K (Y 1) ae) O)) ae (aG _)) (dy (PW.pt (kZ (aH aV (az aY (Y 3) ae) ae (aG _)) (iP (aH yZ (au (aJ K rfl) (by rfl) T.bx L2.aL (ac (gw K (Y 1) ae) O)) (au (m4 rfl) (by rfl) T.BL L2.qF (ac (az bQ (gw K (Y 1) ae) ae) (ac ae O))) (aG _)))))))) (ai (aF (pc T.ia (wb T) F (ac (Y 0) (ac (Y 1) O))))) aE) (ah (bu 6 kd.nd (bP (bv yZ (Y 2) ae (aG _)) (cQ (bv yZ (az aY (Y 3) ae) ae (aG _))))) (ah (aP (PW.pt (eS (aH aV (au (aJ K rfl) (by rfl) T.bx L2.aL (ac (gw K (Y 1) ae) O)) ae (aG _)) (dy (PW.pt (kZ (aH yZ (au (aJ K rfl) (by rfl) T.bx L2.aL (ac (gw K (Y 1) ae) O)) ae (aG _)) (iP (PW.pt (eS (aS K rfl (Y 6) (λ_=>rfl)) (dy (aH aV (az aY (Y 3) ae) ae (aG _))))))))))) (ai (aF (pc T.hV (wa T) F (ac (Y 0) (ac (Y 1) (ac (Y 4) O)))))) aE) (ah (aP (aH yZ (az aY (Y 3) ae) ae (aG _)) (ai (aF (pc T.rS (CG T) F (ac (Y 0) (ac (Y 1) (ac (Y 2) (ac (Y 4) O))))))) aE) (ah (bu 7 kd.nd (dB K (gw K (gw K (Y 1) ae) (az aY (az bw (Y 4) ae) (au (aJ K rfl) (by rfl) T.bx L2.aL (ac (gw K (Y 1) ae) O)))) ae)) (ah (aP (aH aV (az aY (Y 3) ae) ae (aG _)) (ai (aF (bn (ac aB (ac (gw K (gw K (Y 1) ae) (az aY (Y 4) (au (aJ K rfl) (by rfl) T.bx L2.aL (ac (gw K (Y 1) ae) O)))) (ac (az aY (az bw (Y 4) ae) (az bQ (az bw (gw K (Y 1) ae) ae) ae)) O)))))) aE) (ah (aP (aH aV (az aY (Y 3) ae) ae (aG _)) (ai (aF (bn (ac (gw K (bf (ac aB (ac aB (ac aB O)))) (az aY (Y 4) ae)) (ac (Y 7) O))))) aE) (ah (aP (aH aV (az aY (Y 3) ae) ae (aG _)) (ai (aF (bn (ac (gw K (bf (ac aB (ac aB (ac aB (ac aB O))))) (az aY (Y 4) ae)) (ac (Y 7) O))))) aE) (ah (aP (aH aV (az aY (Y 3) ae) ae (aG _)) (ai (aF (bn (ac aB (ac (Y 5) (ac (Y 7) O)))))) aE) (ai (aF (bn (ac aB (ac (Y 5) (ac (pc T.rT (CH T) F (ac (az bw (Y 4) ae) O)) O)))))))))))))))))),?_⟩
  refine U rfl (U rfl ⟨R,ns,k,5,rfl,v.sq,v.len,⟨by lia,by lia⟩,⟨by decide,by decide⟩,av ?_⟩);have x0:=(BN ns k 5).1;generalize c6 ns k 5=x at x0⊢;refine U rfl (r2 ⟨⟨by decide,by decide⟩,av ?_⟩);refine U rfl (r2 ⟨(show(0:Int)<7 by decide),U rfl ⟨R,ns,4,6,rfl,v.sq,v.len,⟨by decide,by decide⟩,⟨by decide,by decide⟩,x/16%7,c6 ns 4 6,rfl,λg H1 s1 hg aa=>av (AA ?_)⟩⟩);have J:=v.same s1;have q:=q0.same s1;clear v q0 s1;have i:=J.pl;have hp:=J.pn.pr.le;obtain⟨us,C,S⟩:=i.T;have ad:=Paired.length S;rw[show(iG M).length=M.trs.length from b_ _]at ad;have W:((fq M).map V.str).length=M.las.length:=by rw[b_];exact b_ _
  refine ve (M.las.length<4/\M.las.length<M.p+1) (0<M.las.length) (λQ n r=>?_) (λf N=>?_) (λh0=>?_)
  ·refine U rfl (rX (be.of i.pl) (aq (k:=2) rfl) ⟨_,M.las.length,rfl,.inl ⟨_,be.of i.L,W.symm⟩,rfl,U rfl (jh (λe=>n ⟨by lia,by lia⟩) (λe=>?_))⟩);refine U rfl (r2 ⟨(show(0:Int)<16 by decide),rfl,U rfl (jh (λ_=>?_) (λ_=>r (by lia)))⟩);refine U rfl (rX (be.of i.pl) (aq (k:=2) rfl) ⟨_,M.las.length,rfl,.inl ⟨_,be.of i.L,W.symm⟩,U rfl (rX (be.of i.pl) (aq (k:=0) rfl) (r2 ⟨(M.p:Int)+1,4,rfl,r2 (U rfl (A9 (λf=>n ?_) (λ_=>r (by lia))))⟩))⟩)
   split at f<;>lia
  ·exact U rfl (U rfl ⟨R,ns,M,A,c,rfl,J,f.1,f.2,q⟩)
  refine MP (λQ h=>?_) (λeb=>av ?_)
  ·refine U rfl (r2 (U rfl (iC (λ_=>?_) (λ_=>h _))));exact U rfl (r2 ⟨(show(0:Int)<16 by decide),_,U rfl ⟨rfl,h _⟩⟩)
  refine ve (M.trs.length<10) (0<M.trs.length) (λQ n r=>?_) (λf N=>?_) (λD=>?_)
  ·refine U rfl (rX (be.of i.pl) (aq (k:=3) rfl) ⟨_,us.length,rfl,.inl ⟨_,be.of C,rfl⟩,rfl,U rfl (jh (λe=>n (by lia)) (λe=>?_))⟩);have g0:0<M.trs.length:=by lia
   refine U rfl (rX (be.of i.pl) (aq (k:=3) rfl) ⟨_,us.length,rfl,.inl ⟨_,be.of C,rfl⟩,_,U rfl ⟨rfl,U rfl (iC (λe=>?_) (λ_=>r g0))⟩⟩);have f:=n (by lia);refine U rfl ⟨eb,rfl,x4 (λ_=>f) (λ_=>?_)⟩;exact U rfl (r2 ⟨(show(0:Int)<16 by decide),rfl,U rfl (A9 (λ_=>f) (λ_=>r g0))⟩)
  ·exact U rfl (U rfl (U rfl ⟨R,ns,M,A,c,x/16,rfl,J,f,h0,q⟩))
  refine ve True True (λQ n r=>?_) (λ_ N=>?_) (λ_=>?_)
  ·exact U rfl (r2 ⟨(show(0:Int)<16 by decide),_,U rfl ⟨rfl,U rfl (A9 (λ_=>n trivial) (λ_=>r trivial))⟩⟩)
  ·exact U rfl (U rfl (U rfl (U rfl ⟨R,ns,M,A,c,k,x/16,rfl,J,⟨k0,k1⟩,D,q⟩)))
  obtain⟨t,b,y,ag,hb⟩:=J.tri C S (x/16/7) D;refine U rfl (rX (be.of i.pl) (aq (k:=3) rfl) (U rfl (r2 ⟨⟨by decide,by decide⟩,U rfl (rX (be.of i.pl) (aq (k:=3) rfl) ⟨_,us.length,rfl,.inl ⟨_,be.of C,rfl⟩,_,U rfl ⟨rfl,by show(0:Int)<(us.length:Int);lia,A.T,_,_,U rfl ⟨rfl,be.of C,ag,rX hb (aq (k:=0) rfl) (av (AA ?_))⟩⟩⟩)⟩)));refine ve True True (λQ n r=>?_) (λ_ N=>?_) (λ_=>?_)
  ·exact U rfl (r2 ⟨(show(0:Int)<16 by decide),rfl,U rfl (A9 (λ_=>n trivial) (λ_=>r trivial))⟩)
  ·have ap:(fq M).length=M.las.length:=b_ _;have bl:=bH (x/16) (show(0:Int)<((fq M).length:Int)by lia);have bz:=bH (x/16/4) (show(0:Int)<(M.p:Int)/3+2 by lia);obtain⟨nm,al,X⟩:=iE bl.1 bl.2;obtain⟨l,hl,rfl⟩:=ir.mp al;refine U rfl (rX (be.of i.pl) (aq (k:=2) rfl) (U rfl (U rfl (rX (be.of i.pl) (aq (k:=2) rfl) ⟨_,(fq M).length,rfl,.inl ⟨_,be.of i.L,by rw[b_]⟩,_,U rfl ⟨rfl,by show(0:Int)<((fq M).length:Int);lia,A.L,_,_,U rfl ⟨rfl,be.of i.L,X,?_⟩⟩⟩))));refine U rfl (r2 ⟨⟨by decide,by decide⟩,U rfl (rX (be.of i.pl) (aq (k:=0) rfl) (r2 ⟨⟨by decide,by decide⟩,_,U rfl ⟨rfl,r2 ⟨by show(0:Int)<(M.p:Int)/3+2;lia,ls rfl,λB m=>?_⟩⟩⟩))⟩);have j:=aj (o:=.tup [.str "hold",.str l.nm,.int (x/16/4%((M.p:Int)/3+2))]) (am.refl H1) m;exact q B (.hold l _) _ _ (.of j) (bj.of af) (.hold hl bz.1) (i.same j) trivial λz=>absurd z (me D)
  refine ve True True (λQ n r=>?_) (λ_ N=>?_) (λ_=>?_)
  ·exact U rfl (r2 ⟨(show(0:Int)<16 by decide),rfl,U rfl (A9 (λ_=>n trivial) (λ_=>r trivial))⟩)
  ·refine⟨ls rfl,λl1 G=>?_⟩;refine qj G λZ u I=>?_;have bm:=bH (x/16) (show(0:Int)<3 by decide);obtain⟨z,hz,X⟩:=iE (zs:=["pause","go","go"]) bm.1 bm.2;refine U rfl (r2 ⟨(show(0:Int)<3 by decide),l1,_,_,U rfl ⟨rfl,be.of I,X,U rfl ⟨ls rfl,λB m=>?_⟩⟩⟩);have j:=aj (o:=.tup [.str z,.str t.nm]) (am.refl Z) m;simp only[q_,n_,D_]at hz;rcases hz with rfl|rfl|rfl
   ·exact q B (.pause t true) _ _ (.of (u.trans j)) (bj.of af) (.pause y) (i.same (u.trans j)) trivial λz=>absurd z (me D)
   all_goals exact q B (.pause t false) _ _ (.of (u.trans j)) (bj.of af) (.go y) (i.same (u.trans j)) trivial λz=>absurd z (me D)
  refine ve True True (λQ n r=>?_) (λ_ N=>?_) (λ_=>?_)
  ·exact U rfl (r2 ⟨(show(0:Int)<16 by decide),rfl,U rfl (A9 (λ_=>n trivial) (λ_=>r trivial))⟩)
  ·refine⟨ls rfl,λl1 G=>?_⟩;refine qj G λZ u I=>?_;have bm:=bH (x/16) (show(0:Int)<4 by decide);obtain⟨z,hz,X⟩:=iE (zs:=["close","pause","go","go"]) bm.1 bm.2;refine U rfl (r2 ⟨(show(0:Int)<4 by decide),l1,_,_,U rfl ⟨rfl,be.of I,X,U rfl ⟨ls rfl,λB m=>?_⟩⟩⟩);have j:=aj (o:=.tup [.str z,.str t.nm]) (am.refl Z) m;simp only[q_,n_,D_]at hz;rcases hz with rfl|rfl|rfl|rfl
   ·exact q B (.close t) _ _ (.of (u.trans j)) (bj.of af) (.close y) (i.same (u.trans j)) trivial λz=>absurd z (me D)
   ·exact q B (.pause t true) _ _ (.of (u.trans j)) (bj.of af) (.pause y) (i.same (u.trans j)) trivial λz=>absurd z (me D)
   all_goals exact q B (.pause t false) _ _ (.of (u.trans j)) (bj.of af) (.go y) (i.same (u.trans j)) trivial λz=>absurd z (me D)
  refine ve True True (λQ n r=>?_) (λ_ N=>?_) (λ_=>?_)
  ·exact U rfl (r2 ⟨(show(0:Int)<16 by decide),rfl,U rfl (A9 (λ_=>n trivial) (λ_=>r trivial))⟩)
  ·refine U rfl (U rfl ⟨ls rfl,λB m=>?_⟩);have j:=aj (o:=.tup [.str "bar",.str g,.str t.nm]) (am.refl H1) m;exact q B (.bar g t) _ _ (.of j) (bj.of af) (.bar hg y) (i.same j) trivial λz=>absurd z (me D)
  refine U rfl (U rfl (r2 ⟨⟨by decide,by decide⟩,x/16/7,rfl,λmt ms Z u hm h3 h4 h5=>⟨ls rfl,λB m=>?_⟩⟩));have j:=aj (o:=.tup [.str "visit",.str g,.ref mt]) (am.refl Z) m;exact q B (.visit g) _ _ (.of (u.trans j)) (bj.of af) (.visit hg (hm.kp (.of j)) h3 h4 h5) (i.same (u.trans j)) aa λz=>absurd z (me D)
end
def oh(K:Of)(H:Hp)(v:V):Prop:=mL K H v\/∃x:Str,v=.str x/\x.length<=60/\wO jj 24 x=false
def Dq(K:Of)(H:Hp)(B:String)(v:V):Prop:=∃T,kO K H v (.type T)/\PySem.W.kitOne K (.type T) (.type B)=some false
def sN(K:Of)(H:Hp)(v:V):Prop:=(∃b,v=.bl b)\/Dq K H "int" v
def Bm(K:Of)(H:Hp)(n:Int)(v:V):Prop:=sN K H v\/∃z,v=.int z/\(z<0\/n<=z)
def MG{c A B:Prop}[Decidable c](h1:c->B)(h2:¬c->A):if(!decide c)=true then A else B:=by
 by_cases e:c
 ·rw[ji e];exact bN (h1 e)
 ·rw[i_ e];exact bp (h2 e)
inductive Ie(K:Of)(H:Hp):V->Bool->Prop|ty{v:V}(h:Dq K H "tuple" v):Ie K H v false|short{p:Addr}{x:V}(h:bj K H p [x]):Ie K H (.ref p) false|word{p:Addr}{x y:V}(h:bj K H p [x,y])(h1:zY K H x):Ie K H (.ref p) false|num{p:Addr}{x:Str}{y:V}(h:bj K H p [.str x,y])(h1:Wd x)(h2:sN K H y):Ie K H (.ref p) false
inductive mM(K:Of)(H:Hp):V->Prop|ty{v:V}(h:Dq K H "tuple" v):mM K H v|bad{p:Addr}{xs:List V}(h:bj K H p xs)(h1:0<xs.length)(h2:xs.length<=8)(h3:∀x∈xs,Ie K H x false):mM K H (.ref p)|twice{p:Addr}{l:List (Str×Int)}(h:rQ K H l (.ref p))(h1:∀m∈l,Wd m.1/\-ce<=m.2/\m.2<=ce)(h2:¬(l.map Prod.fst).Nodup)(h3:l.length<=8):mM K H (.ref p)
def wD{v:V}{u:Value}(s:am H H')(ty:kO K H v u):kO K H' v u:=by cases ty with|non=>exact .non|bl x=>exact .bl x|int i=>exact .int i|str x=>exact .str x|flt x=>exact .flt x|lst e=>exact .lst (s _ _ e)|frz e=>exact .frz (s _ _ e)|tup e=>exact .tup (s _ _ e)|dK e=>exact .dK (s _ _ e)|dT e=>exact .dT (s _ _ e)|ins e h1 h2 h3 h4 h5=>exact .ins (s _ _ e) h1 h2 h3 h4 h5
section
variable{K:Of}{H a:Hp}{v:V}
def Dq.same{B:String}(s:am H a)(h:Dq K H B v):Dq K a B v:=h.imp λ_ q=>⟨wD s q.1,q.2⟩
def mL.same(s:am H a)(h:mL K H v):mL K a v:=h.imp λ_ q=>⟨wD s q.1,q.2⟩
theorem zY.same(s:am H a)(h:zY K H v):zY K a v:=h.imp (·.same s) id
theorem oh.same(s:am H a)(h:oh K H v):oh K a v:=h.imp (·.same s) id
theorem sN.same(s:am H a)(h:sN K H v):sN K a v:=h.imp id (·.same s)
theorem Bm.same{n:Int}(s:am H a)(h:Bm K H n v):Bm K a n v:=h.imp (·.same s) id
theorem Ie.same{b:Bool}(s:am H a)(h:Ie K H v b):Ie K a v b:=by cases h with|ty h=>exact .ty (h.same s)|short h=>exact .short (am.tseq s h)|word h h1=>exact .word (am.tseq s h) (h1.same s)|num h h1 h2=>exact .num (am.tseq s h) h1 (h2.same s)
theorem mM.same(s:am H a)(h:mM K H v):mM K a v:=by cases h with|ty h=>exact .ty (h.same s)|bad h h1 h2 h3=>exact .bad (am.tseq s h) h1 h2 λx b=>(h3 x b).same s|twice h h1 h2 h3=>exact .twice (h.kp (.of s)) h1 h2 h3
end
inductive Jn(K:Of)(vs:List V)(H:Hp)(Q:VK)(_E:XK):Prop|mk(v:V)(_:vs=[v])(_:((∃x,v=.str x/\yy x/\∀H',am H H'->Q (.bl true) H')\/(oh K H v/\∀H',am H H'->Q (.bl false) H')))
inductive Cr(K:Of)(W:Addr)(vs:List V)(H:Hp)(Q:VK)(E:XK):Prop|mk(v:V)(_:vs=[v])(_:((∃x,v=.str x/\yy x/\∀H',am H H'->Q .non H')\/(oh K H v/\∀H',am H H'->E (.ref W) none H')))
inductive DM(K:Of)(vs:List V)(H:Hp)(Q:VK)(_E:XK):Prop|mk(v:V)(_:vs=[v])(_:((∃z,v=.int z/\Q (.bl true) H)\/(sN K H v/\Q (.bl false) H)))
inductive D4(K:Of)(vs:List V)(H:Hp)(Q:VK)(_E:XK):Prop|mk(v:V)(_:vs=[v])(_:((∃z,v=.int z/\Q (.bl (decide (0<=z))) H)\/(sN K H v/\Q (.bl false) H)))
inductive Jg(K:Of)(vs:List V)(H:Hp)(Q:VK)(_E:XK):Prop|mk(v:V)(_:vs=[v])(_:((∃z,v=.int z/\(-ce<=z/\z<=ce)/\Q (.bl true) H)\/(sN K H v/\Q (.bl false) H)))
inductive Cp(K:Of)(N:Addr)(vs:List V)(H:Hp)(Q:VK)(E:XK):Prop|mk(v:V)(n:Int)(_:vs=[v,.int n])(_:Bm K H n v)(_:∀H',am H H'->E (.ref N) none H')
inductive GF(K:Of)(vs:List V)(H:Hp)(Q:VK)(_E:XK):Prop|mk(v:V)(_:vs=[v])(_:((∃b x z,v=.ref b/\bj K H b [.str x,.int z]/\Wd x/\(-ce<=z/\z<=ce)/\∀H',am H H'->Q (.bl true) H')\/(Ie K H v false/\∀H',am H H'->Q (.bl false) H')))
inductive DU(K:Of)(vs:List V)(H:Hp)(Q:VK)(_E:XK):Prop|mk(v:V)(_:vs=[v])(_:mM K H v)(_:∀H',am H H'->Q (.bl false) H')
inductive Cq(K:Of)(N:Addr)(vs:List V)(H:Hp)(Q:VK)(E:XK):Prop|mk(v:V)(_:vs=[v])(_:mM K H v)(_:∀H',am H H'->E (.ref N) none H')
section
def xJ(T:Txt K mg a):aT P w K mg base dq 2 a.fM.x a.fM.d ["thing"] (Jn K):=by
 refine T.fM.ok se λe A outer s H g Q E f h=>?_
 ·obtain⟨v,rfl,h⟩:=h;refine⟨_,(ai (aF (pc T.eX (jU T) f (ac (Y 0) (ac (bC T.j3 rfl) (ac (bC T.lI rfl) O)))))),?_⟩;refine U rfl ⟨v,_,24,rfl,?_⟩;rcases h with⟨x,rfl,c,q⟩|⟨h|⟨x,rfl,h1,h2⟩,q⟩
  ·exact .inl ⟨x,rfl,by have:=c.hi;omega,by rw[c.b];exact q⟩
  ·exact .inr ⟨h,q H (am.refl H)⟩
  ·exact .inl ⟨x,rfl,h1,by rw[h2];exact q⟩
def fU(T:Txt K mg a):aT P w K mg base (lP P w) 3 a.a0.x a.a0.d ["thing"] (Cr K a.dz):=by
 refine T.a0.okE lW λe A outer s H i Q E f h=>?_
 ·obtain⟨v,rfl,h⟩:=h;refine⟨_,(ai (aP (bO (aS K rfl (pc T.fM (xJ T) f (ac (Y 0) O)) (λ_=>rfl))) (ai (kx T.C8 rfl T.zq rfl kr (ac aB O))) aE)),?_⟩;rcases h with⟨x,rfl,g,q⟩|⟨h,q⟩
  ·exact U rfl ⟨.str x,rfl,.inl ⟨x,rfl,g,λb c=>(U rfl (bN (q b c)))⟩⟩
  ·exact U rfl ⟨v,rfl,.inr ⟨h,λb c=>(U rfl (bp ⟨ls rfl,q b c⟩))⟩⟩
def pW(T:Txt K mg a):aT P w K mg base dq 1 a.dG.x a.dG.d ["thing"] (DM K):=by
 refine T.dG.ok sd λc A outer s H f Q E g h=>?_
 ·obtain⟨v,rfl,h⟩:=h;refine⟨_,(ai (aF (bP (au (i7 K rfl) (by rfl) T.aZ L2.aQ (ac (Y 0) (ac (iy rfl T.Iy L2.zT) O))) (cQ (Au (au (i7 K rfl) (by rfl) T.aZ L2.aQ (ac (Y 0) (ac (iy rfl T.ES L2.xi) O)))))))),?_⟩;rcases h with⟨z,rfl,k⟩|⟨⟨b,rfl⟩|⟨i,ty,e⟩,k⟩
  ·refine U rfl ⟨_,"int",_,true,rfl,.int z,bI (by decide+kernel),true,rfl,bp ?_⟩;exact U rfl ⟨_,"bool",_,false,rfl,.int z,bI (by decide+kernel),false,rfl,k⟩
  ·refine U rfl ⟨_,"int",_,true,rfl,.bl b,bI (by decide+kernel),true,rfl,bp ?_⟩;exact U rfl ⟨_,"bool",_,true,rfl,.bl b,bI (by decide+kernel),true,rfl,k⟩
  ·exact U rfl ⟨_,"int",_,false,rfl,ty,e,false,rfl,bN k⟩
def xL(T:Txt K mg a):aT P w K mg base dq 2 a.dH.x a.dH.d ["thing"] (D4 K):=by
 refine T.dH.ok sf λb A outer s H e Q E c h=>?_
 ·obtain⟨v,rfl,h⟩:=h;refine⟨_,(ai (aF (bP (pc T.dG (pW T) c (ac (Y 0) O)) (cQ (bv BF (Y 0) ae (aG _)))))),?_⟩;rcases h with⟨z,rfl,k⟩|⟨h,k⟩
  ·refine U rfl ⟨.int z,rfl,.inl ⟨z,rfl,U rfl (bp ?_)⟩⟩;exact U rfl (r2 k)
  ·exact U rfl ⟨v,rfl,.inr ⟨h,U rfl (bN k)⟩⟩
def vQ(T:Txt K mg a):aT P w K mg base dq 2 a.cW.x a.cW.d ["thing"] (Jg K):=by
 refine T.cW.ok pb λb A outer s H e Q E c h=>?_
 ·obtain⟨v,rfl,h⟩:=h;refine⟨_,(ai (aF (bP (pc T.dG (pW T) c (ac (Y 0) O)) (cQ (pV iO iO (yW ua (az ml ae ae)) (Y 0) (az ml ae ae)))))),?_⟩;rcases h with⟨z,rfl,⟨h1,h2⟩,q⟩|⟨h,k⟩
  ·refine U rfl ⟨.int z,rfl,.inl ⟨z,rfl,U rfl (bp ?_)⟩⟩
   walk_at "a"
   refine iC (λ_=>?_) (λh=>absurd h1 h)
   walk_at "a"
   exact jy h2 q
  ·exact U rfl ⟨v,rfl,.inr ⟨h,U rfl (bN k)⟩⟩
def tf(T:Txt K mg a):aT P w K mg base (lP P w) 3 a.d8.x a.d8.d ["thing","prime"] (Cp K a.b7):=by
 refine T.d8.okE uu λb A outer s H g Q E c h=>?_
 ·obtain⟨v,n,rfl,h,q⟩:=h;refine⟨_,(ai (aP (PW.pt (eS (bO (aS K rfl (pc T.dH (xL T) c (ac (Y 0) O)) (λ_=>rfl))) (dy (aH BF (Y 0) (Y 1) (aG _))))) (ai (kx T.zE rfl T.va rfl kr (ac aB O))) aE)),?_⟩;rcases h with h|⟨z,rfl,h⟩
  ·exact U rfl ⟨v,rfl,.inr ⟨h,U rfl (bp ⟨ls rfl,q H (am.refl H)⟩)⟩⟩
  ·refine U rfl ⟨.int z,rfl,.inl ⟨z,rfl,U rfl (MG (λf=>?_) (λf=>?_))⟩⟩
   ·exact U rfl (U rfl ⟨z,n,rfl,rfl,U rfl (iC (λ_=>⟨ls rfl,q H (am.refl H)⟩) (λe=>absurd e (by omega)))⟩)
   ·exact⟨ls rfl,q H (am.refl H)⟩
end
def zD(i:Nat):(List.replicate i false).map V.bl++[V.bl false]=(List.replicate (i+1) false).map V.bl:=by rw[List.replicate_succ',g6];rfl
section
def zc(T:Txt K mg a):aT P w K mg base dq 3 a.ix.x a.ix.d ["thing"] (GF K):=by
 refine T.ix.ok um λi A outer s H k Q E g h=>?_
 ·obtain⟨v,rfl,h⟩:=h;refine⟨_,(ai (aF (bP (au (dP K rfl) (by rfl) T.aZ L2.aQ (ac (Y 0) (ac (iy rfl T.dW L2.bS) O))) (bP (bv aV (au (aJ K rfl) (by rfl) T.bx L2.aL (ac (Y 0) O)) ae (aG _)) (bP (pc T.dX (fX T) g (ac (dB K (Y 0) ae) O)) (cQ (pc T.cW (vQ T) g (ac (dB K (Y 0) ae) O)))))))),?_⟩;rcases h with⟨b,x,z,rfl,c,h1,h2,q⟩|⟨h,q⟩
  ·refine U rfl ⟨_,"tuple",_,true,rfl,.inr ⟨b,U rfl ⟨c,rfl⟩⟩,bI (by decide+kernel),true,rfl,bp ?_⟩;refine U rfl ⟨_,2,rfl,.inr ⟨_,c,rfl⟩,rfl,U rfl (bp ?_)⟩;refine U rfl (rX c rfl ⟨V.str x,rfl,.inl ⟨x,rfl,h1,λf e=>(U rfl (bp ?_))⟩⟩);exact U rfl (rX (am.tseq e c) rfl ⟨.int z,rfl,.inl ⟨z,rfl,h2,q f e⟩⟩)
  cases h with|ty h=>obtain⟨l,ty,j⟩:=h;exact U rfl ⟨_,"tuple",_,false,rfl,.inl ty,j,false,rfl,bN (q H (am.refl H))⟩|@short b x c=>refine U rfl ⟨_,"tuple",_,true,rfl,.inr ⟨b,U rfl ⟨c,rfl⟩⟩,bI (by decide+kernel),true,rfl,bp ?_⟩;exact U rfl ⟨_,1,rfl,.inr ⟨_,c,rfl⟩,rfl,U rfl (bN (q H (am.refl H)))⟩|@word b x y c h1=>refine U rfl ⟨_,"tuple",_,true,rfl,.inr ⟨b,U rfl ⟨c,rfl⟩⟩,bI (by decide+kernel),true,rfl,bp ?_⟩;refine U rfl ⟨_,2,rfl,.inr ⟨_,c,rfl⟩,rfl,U rfl (bp ?_)⟩;exact U rfl (rX c rfl ⟨x,rfl,.inr ⟨h1,λf e=>(U rfl (bN (q f e)))⟩⟩)|@num b x y c h1 h2=>refine U rfl ⟨_,"tuple",_,true,rfl,.inr ⟨b,U rfl ⟨c,rfl⟩⟩,bI (by decide+kernel),true,rfl,bp ?_⟩;refine U rfl ⟨_,2,rfl,.inr ⟨_,c,rfl⟩,rfl,U rfl (bp ?_)⟩;refine U rfl (rX c rfl ⟨V.str x,rfl,.inl ⟨x,rfl,h1,λf e=>(U rfl (bp ?_))⟩⟩);exact U rfl (rX (am.tseq e c) rfl ⟨y,rfl,.inr ⟨h2.same e,q f e⟩⟩)
def vW(T:Txt K mg a):aT P w K mg base dq 4 a.eO.x a.eO.d ["thing"] (DU K):=by
 refine T.eO.ok ph λaa A outer s H j Q E hr h=>?_
 ·obtain⟨v,rfl,h,q⟩:=h;refine⟨_,(ah (aP (PW.pt (eS (bO (aS K rfl (au (dP K rfl) (by rfl) T.aZ L2.aQ (ac (Y 0) (ac (iy rfl T.dW L2.bS) O))) (λ_=>rfl))) (dy (aH lG (au (aJ K rfl) (by rfl) T.bx L2.aL (ac (Y 0) O)) (bC T.qD rfl) (aG _))))) (ai (aF dZ)) aE) (ah (aP (bO (aS K rfl (au (gY K rfl rfl) (by rfl) T.u7 L2.jl (ac (vC ["thing"] ["mark"] [] [1] (ak gh) (cG 1) (gB K rfl (Y 0)) (λcl C s₀ H₀ ex=>⟨(pT ["thing"] ["mark"] 1),cE,(pc T.ix (zc T) hr (ac (Y 1) O))⟩)) O)) (λ_=>rfl))) (ai (aF dZ)) aE) (ai (aF (bv aV (au (oR (P:=P) (w:=w)) (by rfl) T.bx L2.aL (ac (cV (oP (P:=P) (w:=w) K rfl rfl) (by rfl) T.BK L2.qE (ac (vC ["thing"] ["mark"] [] [1] (ak gh) (cG 1) (gB K rfl (Y 0)) (λcl C s₀ H₀ ex=>⟨(pT ["thing"] ["mark"] 1),cE,(dB K (Y 1) ae)⟩)) O)) O)) (au (aJ K rfl) (by rfl) T.bx L2.aL (ac (Y 0) O)) (aG _)))))),?_⟩
  cases h with|ty h=>obtain⟨T1,ty,kt⟩:=h;exact U rfl ⟨_,"tuple",_,false,rfl,.inl ty,kt,false,rfl,bp (q H (am.refl H))⟩|@bad p j r h1 h2 h3=>
   refine U rfl ⟨_,"tuple",_,true,rfl,.inr ⟨p,U rfl ⟨r,rfl⟩⟩,bI (by decide+kernel),true,rfl,bN ?_⟩;refine U rfl ⟨_,j.length,rfl,.inr ⟨_,r,rfl⟩,_,U rfl ⟨rfl,U rfl (iC (λh=>absurd h (by lia)) (λ_=>?_))⟩⟩;refine U rfl ⟨p,rfl,⟨_,r⟩,λD B=>?_⟩;refine eY (K:=K) (a:=p) (xs:=j) (λi c H'=>c=(List.replicate i false).map V.bl/\am H H'/\H' D=some (.lst c)) ⟨rfl,aj (am.refl _) B,af⟩ (λi c H' _ h=>am.tseq h.2.1 r) ?_ ?_
   ·rintro i v c F u⟨rfl,t,f⟩;have hi:i<j.length:=(d_.mp u).1;exact av (ju (bp (U rfl ⟨v,rfl,.inr ⟨(h3 v (f_ u)).same t,λJ y=>⟨y _ _ f,by rw[b_,y3,hH];omega,lf hi ⟨zD i,bV (t.trans y) B,af⟩⟩⟩⟩)))
   ·rintro c F⟨rfl,t,f⟩;refine⟨D,_,rfl,be.of f,_,rfl,?_⟩;rw[show(List.replicate j.length false).all id=false from by cases u:j.length with|zero=>omega|succ n=>rfl];exact bp (q F t)|@twice p l hM h1 h2 h3=>
   obtain⟨p',j,e,r,L,G⟩:=hM;cases e;refine U rfl ⟨_,"tuple",_,true,rfl,.inr ⟨p,U rfl ⟨r,rfl⟩⟩,bI (by decide+kernel),true,rfl,bN ?_⟩;refine U rfl ⟨_,j.length,rfl,.inr ⟨_,r,rfl⟩,_,U rfl ⟨rfl,U rfl (iC (λh=>absurd h (by lia)) (λ_=>?_))⟩⟩;refine U rfl ⟨p,rfl,⟨_,r⟩,λD B=>?_⟩;refine eY (K:=K) (a:=p) (xs:=j) (λi c H'=>c=(List.replicate i true).map V.bl/\am H H'/\H' D=some (.lst c)) ⟨rfl,aj (am.refl _) B,af⟩ (λi c H' _ h=>am.tseq h.2.1 r) ?_ ?_
   ·rintro i v c F u⟨rfl,t,f⟩;have hi:i<j.length:=(d_.mp u).1;have g:l[i]?=some (l[i]'(by lia)):=fy (by lia);generalize l[i]'(by lia)=m at g;obtain⟨b,M,N⟩:=G i m g;rw[M]at u;cases u;have hm:=h1 m (f_ g);exact av (ju (bp (U rfl ⟨.ref b,rfl,.inl ⟨b,m.1,m.2,rfl,am.tseq t N,hm.1,hm.2,λJ y=>⟨y _ _ f,i0 i (by omega),lf hi ⟨gO i,bV (t.trans y) B,af⟩⟩⟩⟩)))
   ·rintro c F⟨rfl,t,f⟩;refine⟨D,_,rfl,be.of f,_,rfl,?_⟩;rw[i3];refine bN (U rfl ⟨p,rfl,⟨_,am.tseq t r⟩,λX I=>?_⟩);refine eY (K:=K) (a:=p) (xs:=j) (λi c H'=>c=((l.take i).map Prod.fst).map V.str/\am F H'/\H' X=some (.lst c)) ⟨by rw[v_];rfl,aj (am.refl _) I,af⟩ (λi c H' _ h=>am.tseq (t.trans h.2.1) r) ?_ ?_
    ·rintro i v c J u⟨rfl,y,z⟩;have hi:i<j.length:=(d_.mp u).1;have g:l[i]?=some (l[i]'(by lia)):=fy (by lia);generalize l[i]'(by lia)=m at g;obtain⟨b,M,N⟩:=G i m g;rw[M]at u;cases u;refine av (ju (bp (U rfl (rX (am.tseq (t.trans y) N) rfl ⟨z,?_,lf hi ⟨?_,bV y I,af⟩⟩))))
     ·rw[b_,b_,ku,hH];lia
     ·rw[oV g,g6];rfl
    ·rintro c J⟨rfl,y,z⟩;rw[iA (by lia),<-rq]at z;have R:(dd ((l.map Prod.fst).map (Sum.inr:Str->cp))).length≠j.length:=λe=>h2 (by have:=(FN ((l.map Prod.fst).map (Sum.inr:Str->cp))).mp (by rw[e,L,b_,b_]);exact(N2.mp this).imp λh e=>h (by rw[e]))
     have ad:(dd ((l.map Prod.fst).map (Sum.inr:Str->cp))).length<=8:=by have k:=mY ((l.map Prod.fst).map (Sum.inr:Str->cp)) [];rw[b_,b_,Oc]at k;exact kl k (by omega)
     refine⟨X,(l.map Prod.fst).map Sum.inr,rfl,be.of z,by rw[b_,b_];lia,λZ S=>?_⟩;refine⟨Z,U rfl ⟨af,by omega,?_⟩⟩;have s3:∀o,am H (aD J Z o):=λo=>aj (t.trans y) S;refine U rfl ⟨_,j.length,rfl,.inr ⟨_,am.tseq (s3 _) r,rfl⟩,rfl,?_⟩;rw[i_ λe=>R (by have:=V.int.inj e;omega)];exact q _ (s3 _)
def tj(T:Txt K mg a):aT P w K mg base (lP P w) 5 a.cy.x a.cy.d ["thing"] (Cq K a.cP):=by
 refine T.cy.okE lV λb A outer s H g Q E c h=>?_
 ·obtain⟨v,rfl,h,q⟩:=h;refine⟨_,(ai (aP (bO (aS K rfl (pc T.eO (vW T) c (ac (Y 0) O)) (λ_=>rfl))) (ai (kx T.A4 rfl T.wU rfl kr (ac aB O))) aE)),?_⟩;exact U rfl ⟨v,rfl,h,λe f=>(U rfl (bp ⟨ls rfl,q e f⟩))⟩
end
def kD(h:H b=some o)(n:H b=none):False:=by rw[h]at n;cases n
section
variable{P:Ol}{w:World}{K:Of}{a:gK}{I H g F E:Hp}{M p:cA}{Z j:ZS}{ns:Os}{A:yx}{dd C:Addr}{c:Nat}{B s:List (cp×V)}{ls t:Om}{D v:List (Str×Nat)}{d:Dd}{f:List V}
def bJ.ntup(h:bJ P w K a H M Z)(L:jx M Z b):(∀f,H b≠some (.tup f))/\∀x y,H b≠some (.frz x y):=by
 have lst:∀l f,H l=some (.lst f)->(∀N,H l≠some (.tup N))/\∀x y,H l≠some (.frz x y):=λl f e=>by rw[e];exact⟨λ_ z=>(nomatch z),λ_ _ z=>(nomatch z)⟩
 rcases L with⟨r,O,rfl⟩|⟨i,hi,x,k,e⟩|⟨x,k,e⟩
 ·obtain⟨o,q⟩:=mU P w a Z O;have im:=(h.imm (H':=λb=>if b=Z.G r then none else H b) q λb o e n=>by show(if b=Z.G r then none else H b)=_;rw[g8 n];exact e).kp;refine⟨λf e=>?_,λx y e=>?_⟩
  ·have:=im.tp _ _ e;rw[hA rfl]at this;cases this
  ·obtain⟨_,this⟩:=im.fz _ _ ⟨_,e⟩;rw[hA rfl]at this;cases this
 ·obtain⟨_,⟨m,q,_⟩,_⟩:=h.tabs i _ (fy hi);obtain⟨l,f,u,J⟩:=q.ex x k;rw[u]at e;cases e;exact lst _ _ J
 ·obtain⟨l,f,u,J⟩:=h.came.ex x k;rw[u]at e;cases e;exact lst _ _ J
def bJ.stp(h:bJ P w K a H M Z)(st:gM H M Z g p j):Kp H g:=⟨λu f e=>st.fr _ _ e λz=>(h.ntup z).1 _ e,λu o⟨b,e⟩=>⟨b,st.fr _ _ e λz=>(h.ntup z).2 _ _ e⟩⟩
def gM.nf(st:gM H M Z g p j)(e:H b=some o)(n:¬jx M Z b):¬jx p j b:=λz=>(st.fp b z).elim n (kD e)
end
def wA:∀{c:Oq}{d:Oj},bq (c.map V.ref) d->d=c.map Value.ref:=by
 intro c
 induction c with|nil=>intro d h;cases h;rfl|cons r c b=>intro d h;cases h with|cons h1 h2=>have h1:_=Value.ref r:=h1;rw[h1,b h2];rfl
def ME(K:Of):R2:=λx y H Q=>∃(p q:Addr)(b:Oq),x=.ref p/\y=.ref q/\be K H p (b.map V.ref)/\be K H q (b.map V.ref)/\Q (.bl true) H
def Hc{X:Cx}(K:Of)(i:X.K=K)(l:X.A.units<cLine):lx X (compareOp .Eq) (ME K):=by subst i;intro f s D H x y v u Q I m r h;obtain⟨p,q,E,rfl,rfl,h1,h2,k⟩:=h;obtain rfl:v=Value.ref p:=m;obtain rfl:u=Value.ref q:=r;obtain⟨t,z,⟨o,n,e,hc,_,hd⟩,_⟩:=I.list h1;obtain⟨g,b,⟨B,n2,C,c,_,d⟩,_⟩:=I.list h2;obtain rfl:=wA z;obtain rfl:=wA b;refine PySem.SeqAt.eq_listAt (e:=λ_=>true) ⟨o,e,hc,n,hd⟩ ⟨B,C,c,n2,d⟩ rfl l (λj _ _=>PySem.SeqAt.EqAt.same _) ⟨.bl true,H,I,?_,k⟩;show Value.bool _=Value.bool _;rw[List.all_eq_true.mpr λ_ _=>rfl]
def gA{X:Cx}{b:List Stmt}:tY X b (λ_ _ _=>False):=by unfold tY;intro c s d H D I h;exact h.elim
def MW(K:Of)(H:Hp)(d:Addr)(x:Str)(b:Bool):Prop:=(∃c:List (cp×V),H d=some (.dK c)/\(bB c (.inr x)).isSome=b)\/∃l:List Str,bj K H d (l.map V.str)/\oJ (.str x) (l.map V.str)=b
inductive Br(K:Of)(U:Addr)(vs:List V)(H:Hp)(Q:VK)(E:XK):Prop|mk(v:V)(d:Addr)(_:vs=[v,.ref d])(_:((∃x b,v=.str x/\Wd x/\MW K H d x b/\∀H',am H H'->(b=true->Q .non H')/\(b=false->E (.ref U) none H'))\/(zY K H v/\∀H',am H H'->E (.ref U) none H')))
def J6{z:Str}{c:Om}(h:z∉c):oJ (.str z) (c.map V.str)=false:=by cases e:oJ (.str z) (c.map V.str)with|false=>rfl|true=>unfold oJ at e;obtain⟨v,d,e⟩:=N8.mp e;obtain⟨u,b,rfl⟩:=ir.mp d;have e:(u==z)=true:=e;rw[eq_of_beq e]at b;exact absurd b h
def vx(K:Of)(H:Hp)(ns:Om)(v:V):Prop:=zY K H v\/∃z,v=.str z/\Wd z/\z∉ns
theorem vx.same{ns:Om}{v:V}(s:am H H')(h:vx K H ns v):vx K H' ns v:=h.imp (·.same s) id
def xg{U d:Addr}{Q:VK}{E:XK}{ns:Om}{f:Nat->V}{v:V}(hd:H d=some (.dK (iX ns f)))(h:vx K H ns v)(q:∀H',am H H'->E (.ref U) none H'):Br K U [v,.ref d] H Q E:=by
 rcases h with h|⟨z,rfl,h1,h2⟩
 ·exact⟨v,d,rfl,.inr ⟨h,q⟩⟩
 ·exact⟨_,d,rfl,.inl ⟨z,false,rfl,h1,.inl ⟨_,hd,by rw[kE h2];rfl⟩,λb c=>⟨λy=>(nomatch y),λ_=>q b c⟩⟩⟩
def Ko{U d:Addr}{Q:VK}{E:XK}{ns:Om}{v:V}(hd:bj K H d (ns.map V.str))(h:vx K H ns v)(q:∀H',am H H'->E (.ref U) none H'):Br K U [v,.ref d] H Q E:=by
 rcases h with h|⟨z,rfl,h1,h2⟩
 ·exact⟨v,d,rfl,.inr ⟨h,q⟩⟩
 ·exact⟨_,d,rfl,.inl ⟨z,false,rfl,h1,.inr ⟨_,hd,J6 h2⟩,λb c=>⟨λy=>(nomatch y),λ_=>q b c⟩⟩⟩
def Bb{U d:Addr}{Q:VK}{E:XK}{ns:Om}{f:Nat->V}{x:Str}{u:V}(hd:H d=some (.dK (iX ns f)))(h:Wd x)(c:bB (iX ns f) (.inr x)=some u)(q:∀H',am H H'->Q .non H'):Br K U [.str x,.ref d] H Q E:=⟨_,d,rfl,.inl ⟨x,true,rfl,h,.inl ⟨_,hd,by rw[c];rfl⟩,λb e=>⟨λ_=>q b e,λy=>(nomatch y)⟩⟩⟩
def Kx(M:cA)(g:Str):Prop:=∀l∈M.las,∀x∈l.ins,x.1≠g
def HZ(K:Of)(H:Hp)(c:List V):Prop:=∀u∈c,∃(b:Addr)(x:Str),u=.ref b/\bj K H b [.str x,.non]
def HZ.kp(e:Kp H H'){c:List V}(h:HZ K H c):HZ K H' c:=λu b=>(h u b).imp λ_ q=>q.imp λ_ q=>⟨q.1,e.tq q.2⟩
inductive Gw(P:Ol)(w:World)(K:Of)(a:gK)(vs:List V)(H:Hp)(Q:VK)(_E:XK):Prop|mk(M:cA)(Z:ZS)(c:Nat)(g:Str)(_:vs=[.ref (Z.G .hh),.str g])(_:cL P w K a H M Z c)(_:yy g)(_:Kx M g)(_:∀(r:Addr)H',am H H'->H' r=some (.lst [])->Q (.ref r) H')
inductive DS(P:Ol)(w:World)(K:Of)(a:gK)(vs:List V)(H:Hp)(Q:VK)(E:XK):Prop|mk(M:cA)(Z:ZS)(c:Nat)(v g:V)(_:vs=[.ref (Z.G .hh),v,g])(_:cL P w K a H M Z c)(_:((vx K H (M.las.map dS.nm) v/\∀H',am H H'->E (.ref a.bT) none H')\/∃(i:Nat)(l:dS),M.las[i]?=some l/\v=.str l.nm/\oh K H g/\∀H',am H H'->E (.ref a.dz) none H'))
inductive DT(P:Ol)(w:World)(K:Of)(a:gK)(vs:List V)(H:Hp)(Q:VK)(E:XK):Prop|mk(M:cA)(Z:ZS)(c:Nat)(v g:V)(_:vs=[.ref (Z.G .hh),v,g])(_:cL P w K a H M Z c)(_:((vx K H (M.las.map dS.nm) v/\∀H',am H H'->E (.ref a.bT) none H')\/∃(i:Nat)(l:dS),M.las[i]?=some l/\v=.str l.nm/\Bm K H M.p g/\∀H',am H H'->E (.ref a.b7) none H'))
inductive Ip(P:Ol)(w:World)(K:Of)(a:gK)(vs:List V)(H:Hp)(Q:VK)(E:XK):Prop|mk(M:cA)(Z:ZS)(c:Nat)(g:V)(_:vs=[.ref (Z.G .hh),g])(_:cL P w K a H M Z c)(_:oh K H g)(_:∀H',am H H'->E (.ref a.dz) none H')
inductive DK(P:Ol)(w:World)(K:Of)(a:gK)(vs:List V)(H:Hp)(Q:VK)(E:XK):Prop|mk(M:cA)(Z:ZS)(c:Nat)(g m:V)(_:vs=[.ref (Z.G .hh),g,m])(_:cL P w K a H M Z c)(_:((oh K H g/\∀H',am H H'->E (.ref a.dz) none H')\/∃x,g=.str x/\yy x/\mM K H m/\∀H',am H H'->E (.ref a.cP) none H'))
inductive Ci(P:Ol)(w:World)(K:Of)(a:gK)(vs:List V)(H:Hp)(Q:VK)(E:XK):Prop|mk(M:cA)(Z:ZS)(c:Nat)(v y:V)(_:vs=[.ref (Z.G .hh),v,y])(_:cL P w K a H M Z c)(_:(vx K H (M.trs.map eP.nm) v\/∃(j:Nat)(t:eP),M.trs[j]?=some t/\v=.str t.nm/\vx K H t.arms y))(_:∀H',am H H'->E (.ref a.bT) none H')
inductive DO(P:Ol)(w:World)(K:Of)(a:gK)(vs:List V)(H:Hp)(Q:VK)(E:XK):Prop|mk(M:cA)(Z:ZS)(c:Nat)(v:V)(_:vs=[.ref (Z.G .hh),v])(_:cL P w K a H M Z c)(_:vx K H (M.trs.map eP.nm) v)(_:∀H',am H H'->E (.ref a.bT) none H')
section
def cZ(T:Txt K mg a):aT P w K mg base (lP P w) 3 a.aX.x a.aX.d ["thing","names"] (Br K a.bT):=by
 refine T.aX.okE uv λi A outer s H j Q E g h=>?_
 ·obtain⟨v,d,rfl,h⟩:=h;refine⟨_,(ai (aP (PW.pt (eS (bO (aS K rfl (pc T.dX (fX T) g (ac (Y 0) O)) (λ_=>rfl))) (dy (ox (CC K rfl (cN g) (Y 0) (Y 1)) rfl)))) (ai (kx T.AZ rfl T.wT rfl kr (ac aB O))) aE)),?_⟩;rcases h with⟨x,b,rfl,h1,h2,q⟩|⟨h1,q⟩
  ·refine U rfl ⟨V.str x,rfl,.inl ⟨x,rfl,h1,λe c=>(U rfl (bN ?_))⟩⟩;refine U rfl (U rfl ?_);rcases h2 with⟨f,h2,h3⟩|⟨l,h2,h3⟩
   ·refine .inl (rG (bB f (.inr x)) (eE.k (k:=.inr x) (c _ _ h2)) (U rfl ?_));rw[h3];cases b with|true=>exact bN ((q e c).1 rfl)|false=>exact bp ⟨ls rfl,(q e c).2 rfl⟩
   ·refine .inr ⟨d,U rfl ⟨.inr (am.tseq c h2),rfl,mR l,U rfl ?_⟩⟩;rw[h3];cases b with|true=>exact bN ((q e c).1 rfl)|false=>exact bp ⟨ls rfl,(q e c).2 rfl⟩
  ·exact U rfl ⟨v,rfl,.inr ⟨h1,λe c=>(U rfl (bp ⟨ls rfl,q e c⟩))⟩⟩
def mq(T:Txt K mg a):aT P w K mg base (lP P w) 4 a.dJ.x a.dJ.d ["self","layer","guest"] (DS P w K a):=by
 refine T.dJ.okE uB λp A outer s H u Q E j h=>?_
 ·obtain⟨M,Z,c,v,g,rfl,e,h⟩:=h;refine⟨_,(ah (aO (bh ((cZ T).mono (by decide)) j rfl T.aX.m T.aX.f.kp T.aX.b .nil bo (ac (Y 1) (ac (aM K rfl (Y 0)) O)))) (ah (aO (bh ((fU T).mono (by decide)) j rfl T.a0.m T.a0.f.kp T.a0.b .nil bo (ac (Y 2) O))) gA)),?_⟩
  have k:=e.g.house;rcases h with⟨h,q⟩|⟨i,l,n,rfl,h,q⟩
  ·exact U rfl (gL k T.ay T.aW rfl rfl (xg e.g.lays h q))
  ·exact U rfl (gL k T.ay T.aW rfl rfl (Bb e.g.lays (e.ok.la l (f_ n)).wd (e.ok.lget (Z:=Z) n) λy o=>(U rfl ⟨g,rfl,.inr ⟨h.same o,λr t=>q r (o.trans t)⟩⟩)))
def mw(T:Txt K mg a):aT P w K mg base (lP P w) 4 a.dL.x a.dL.d ["self","layer","place"] (DT P w K a):=by
 refine T.dL.okE uC λr A outer s H y Q E n h=>?_
 ·obtain⟨M,Z,c,v,g,rfl,e,h⟩:=h;refine⟨_,(ah (aO (bh ((cZ T).mono (by decide)) n rfl T.aX.m T.aX.f.kp T.aX.b .nil bo (ac (Y 1) (ac (aM K rfl (Y 0)) O)))) (ah (aO (bh ((tf T).mono (by decide)) n rfl T.d8.m T.d8.f.kp T.d8.b .nil bo (ac (Y 2) (ac (aM K rfl (Y 0)) O)))) gA)),?_⟩
  have j:=e.g.house;rcases h with⟨h,q⟩|⟨i,l,o,rfl,h,q⟩
  ·exact U rfl (gL j T.ay T.aW rfl rfl (xg e.g.lays h q))
  ·exact U rfl (gL j T.ay T.aW rfl rfl (Bb e.g.lays (e.ok.la l (f_ o)).wd (e.ok.lget (Z:=Z) o) λz k=>(U rfl (gL (k _ _ j) T.ay T.cD rfl rfl ⟨g,M.p,rfl,h.same k,λt u=>q t (k.trans u)⟩))))
def tz(T:Txt K mg a):aT P w K mg base (lP P w) 4 a.cz.x a.cz.d ["self","guest"] (Ip P w K a):=by
 refine T.cz.okE jb λe A outer s H k Q E i h=>?_
 ·obtain⟨M,Z,c,g,rfl,j,h,q⟩:=h;refine⟨_,(ah (aO (bh ((fU T).mono (by decide)) i rfl T.a0.m T.a0.f.kp T.a0.b .nil bo (ac (Y 1) O))) gA),?_⟩
  have l:=j.g.house;exact U rfl ⟨g,rfl,.inr ⟨h,q⟩⟩
def u3(T:Txt K mg a):aT P w K mg base (lP P w) 4 a.cS.x a.cS.d ["self","guest"] (Ip P w K a):=by
 refine T.cS.okE nG λe A outer s H k Q E i h=>?_
 ·obtain⟨M,Z,c,g,rfl,j,h,q⟩:=h;refine⟨_,(ah (aO (bh ((fU T).mono (by decide)) i rfl T.a0.m T.a0.f.kp T.a0.b .nil bo (ac (Y 1) O))) gA),?_⟩
  have l:=j.g.house;exact U rfl ⟨g,rfl,.inr ⟨h,q⟩⟩
def mn(T:Txt K mg a):aT P w K mg base (lP P w) 10 a.dI.x a.dI.d ["self","guest","marks"] (DK P w K a):=by
 refine T.dI.okE uA λj A outer s H p Q E e h=>?_
 ·obtain⟨M,Z,c,g,m,rfl,k,h⟩:=h;refine⟨_,(ah (aO (bh ((fU T).mono (by decide)) e rfl T.a0.m T.a0.f.kp T.a0.b .nil bo (ac (Y 1) O))) (ah (aO (bh ((tj T).mono (by decide)) e rfl T.cy.m T.cy.f.kp T.cy.b .nil bo (ac (Y 2) O))) gA)),?_⟩
  have r:=k.g.house;rcases h with⟨h,q⟩|⟨x,rfl,l,h,q⟩
  ·exact U rfl ⟨g,rfl,.inr ⟨h,q⟩⟩
  ·exact U rfl ⟨.str x,rfl,.inl ⟨x,rfl,l,λt i=>(U rfl ⟨m,rfl,h.same i,λn o=>q n (i.trans o)⟩)⟩⟩
def iI(T:Txt K mg a):aT P w K mg base (lP P w) 4 a.cq.x a.cq.d ["self","trial","arm"] (Ci P w K a):=by
 refine T.cq.okE sW λu A outer s H C Q E n h=>?_
 ·obtain⟨M,Z,c,v,y,rfl,e,h,q⟩:=h;refine⟨_,(ah (aO (bh ((cZ T).mono (by decide)) n rfl T.aX.m T.aX.f.kp T.aX.b .nil bo (ac (Y 1) (ac (aM K rfl (Y 0)) O)))) (ah (aO (bh ((cZ T).mono (by decide)) n rfl T.aX.m T.aX.f.kp T.aX.b .nil bo (ac (Y 2) (ac (aM K rfl (fT (cN n) (aM K rfl (Y 0)) (Y 1) (λ_ _=>rfl))) O)))) gA)),?_⟩
  have o:=e.g.house;rcases h with h|⟨j,t,l,rfl,h⟩
  ·exact U rfl (gL o T.ay T.aR rfl rfl (xg e.g.tris h q))
  ·have r:=e.ok.tget (Z:=Z) l;obtain⟨p,-,-⟩:=e.g.trs j t l;refine U rfl (gL o T.ay T.aR rfl rfl (Bb e.g.tris (e.ok.tr t (f_ l)).wd r λD i=>?_));refine U rfl (gL (i _ _ o) T.ay T.aR rfl rfl (U rfl (rG (.ref (Z.G (.tr j))) (by rw[<-r];exact eE.k (k:=.inr t.nm) (i _ _ e.g.tris)) ?_)));exact rF (i _ _ (e.g.trial l)) T.bA T.fJ rfl (Ko (am.tseq i p) (h.same i) λz B=>q z (i.trans B))
def tD(T:Txt K mg a):aT P w K mg base (lP P w) 5 a.eA.x a.eA.d ["self","trial"] (DO P w K a):=by
 refine T.eA.okE sV λi A outer s H l Q E j h=>?_
 ·obtain⟨M,Z,c,v,rfl,e,h,q⟩:=h;refine⟨_,(ah (aO (bh ((cZ T).mono (by decide)) j rfl T.aX.m T.aX.f.kp T.aX.b .nil bo (ac (Y 1) (ac (aM K rfl (Y 0)) O)))) gA),?_⟩
  have k:=e.g.house;exact U rfl (gL k T.ay T.aR rfl rfl (xg e.g.tris h q))
def xO(T:Txt K mg a):aT P w K mg base (lP P w) 5 a.ib.x a.ib.d ["self","trial"] (DO P w K a):=by
 refine T.ib.okE xD λi A outer s H l Q E j h=>?_
 ·obtain⟨M,Z,c,v,rfl,e,h,q⟩:=h;refine⟨_,(ah (aO (bh ((cZ T).mono (by decide)) j rfl T.aX.m T.aX.f.kp T.aX.b .nil bo (ac (Y 1) (ac (aM K rfl (Y 0)) O)))) gA),?_⟩
  have k:=e.g.house;exact U rfl (gL k T.ay T.aR rfl rfl (xg e.g.tris h q))
def qb(T:Txt K mg a):aT P w K mg base (lP P w) 5 a.db.x a.db.d ["self","trial"] (DO P w K a):=by
 refine T.db.okE pq λi A outer s H l Q E j h=>?_
 ·obtain⟨M,Z,c,v,rfl,e,h,q⟩:=h;refine⟨_,(ah (aO (bh ((cZ T).mono (by decide)) j rfl T.aX.m T.aX.f.kp T.aX.b .nil bo (ac (Y 1) (ac (aM K rfl (Y 0)) O)))) gA),?_⟩
  have k:=e.g.house;exact U rfl (gL k T.ay T.aR rfl rfl (xg e.g.tris h q))
def u0(T:Txt K mg a):aT P w K mg base dq 4 a.cz.x a.cz.d ["self","guest"] (Gw P w K a):=by
 refine T.cz.ok jb λa3 A outer s H vs Q E hr h=>?_
 ·obtain⟨M,Z,c,g,rfl,hZ,hg,an,q⟩:=h;refine⟨_,(ah (aO (pc T.a0 (gD T) hr (ac (Y 1) O))) (ah (Ar (P:=P) (w:=w) (Kn 2 dQ ["name","layer"] [] [3,4] (ak iq) (x6 _ 3 4) (yV (P:=P) (w:=w) (aM K rfl (Y 0))) (λcl C s₀ H₀ ex=>⟨(iV K rfl rfl (cg (pT dQ ["name","layer"] 3) (cg (pT dQ ["name","layer"] 4) iU))),cE,(bn (ac (Y 3) (ac (uQ (cN hr) (aM K rfl (Y 4)) (Y 1) ⟨rfl,rfl,rfl,rfl⟩) O)))⟩) jb.nd)) (ai (aF (vC dQ ["name","seat"] [] [3,4] (ak iq) (x6 _ 3 4) (fH K rfl (Y 2)) (λcl C s₀ H₀ ex=>⟨(iV K rfl rfl (cg (pT dQ ["name","seat"] 3) (cg (pT dQ ["name","seat"] 4) iU))),(tS (aH BE (Y 4) fW (aG _))),(az (uR K rfl) (bn (ac (Y 3) O)) (Y 4))⟩)))))),?_⟩
  have a5:=hZ.ok.l4;refine U rfl ⟨g,rfl,hg,λH1 s1=>?_⟩;have p:=hZ.same s1;have S:=p.g.lays;refine gL p.g.house T.ay T.aW rfl rfl ⟨Z.G .ln,U rfl ⟨S,λep=>λD hD=>?_⟩⟩;have nd:Z.G .ln≠D:=λz=>by rw[<-z,af]at hD;cases hD
  have V:H1 D=none:=by rw[ao (m3 nd)]at hD;exact hD
  refine ye (n:=M.las.length) (λk f W=>(∀b o,H1 b=some o->b≠Z.G .ln->W b=some o)/\W (Z.G .ln)=some (dE P w (Z.G .ln) (iX (M.las.map dS.nm) λi=>.ref (Z.G (.lo i))) ep)/\W D=some (.lst f)/\f.length=k/\HZ K W f) ⟨λb o e n=>by rw[ao (aI e V),ao n];exact e,by rw[ao nd,af],af,rfl,λ_ z=>(nomatch z)⟩ (λk f W L h=>⟨h.2.1,by rw[iW,b_];exact L⟩) ?_ ?_
  ·rintro k f t x B L⟨f4,j,F,X,I⟩⟨T1,kk,vv,ap,rfl,rfl,aa⟩;have hl:=fy L;rw[xP,gg,hl]at aa;obtain⟨rfl,rfl⟩:=Ni (j1 aa);have N:=aj (o:=.tup [kV (.inr (M.las[k]).nm),.ref (Z.G (.lo k))]) (am.refl t) ap;have e5:aD t T1 (.tup [kV (.inr (M.las[k]).nm),.ref (Z.G (.lo k))]) T1=some (.tup [.str (M.las[k]).nm,.ref (Z.G (.lo k))]):=af;generalize aD t T1 (.tup [kV (.inr (M.las[k]).nm),.ref (Z.G (.lo k))])=B at N e5⊢;have ad:tN P w K a H1 B M Z c:=⟨p,λb o e n=>N _ _ (f4 b o e n)⟩;refine⟨T1,U rfl ⟨bj.of e5,rfl,_,U rfl (av ⟨_,U rfl (av ⟨rfl,ju (bp ?_)⟩)⟩)⟩⟩;have as:=ad.at_ (r:=.lo k) (by simp only[cont,hl];rfl) (by simp);have ag:=ad.at_ (r:=.iu k) (by simp only[cont,hl];rfl) (by simp);refine U rfl (gL as T.cx T.bY rfl rfl ⟨Z.G (.iu k),rfl,.inl ⟨_,.inl ag⟩,U rfl ⟨bB (Z.iv k) (.inr g),eE.k (k:=.inr g) ag,ls rfl,λR ax=>?_⟩⟩);have ev:(bB (Z.iv k) (.inr g)).getD .non=.non:=by rw[(p.g.seats k _ hl).none λz=>(ir.mp z).elim λx hx=>an _ (f_ hl) x hx.1 hx.2];rfl
   show aD B R (.tup [.str (M.las[k]).nm,(bB (Z.iv k) (.inr g)).getD .non]) D=some (.lst f)/\_;rw[ev];have m:=aj (o:=.tup [.str (M.las[k]).nm,.non]) (am.refl B) ax;have e6:aD B R (.tup [.str (M.las[k]).nm,.non]) R=some (.tup [.str (M.las[k]).nm,.non]):=af;generalize aD B R (.tup [.str (M.las[k]).nm,.non])=H6 at m e6⊢;have l:=m _ _ (N _ _ F);have kp:Kp H6 (aD H6 D (.lst (f++[.ref R]))):=.lst l;refine⟨l,by rw[hH];omega,lf L ⟨λb o e n=>by rw[ao (aI e V)];exact m _ _ (N _ _ (f4 b o e n)),by rw[ao nd];exact m _ _ (N _ _ j),af,by rw[gV,X];rfl,λu hu=>?_⟩⟩;rcases List.mem_append.mp hu with z|z
   ·exact((I.kp (.of (N.trans m))).kp kp) u z
   ·rw[List.mem_singleton.mp z];exact⟨R,(M.las[k]).nm,rfl,kp.tq (bj.of e6)⟩
  ·rintro f t⟨f4,j,F,X,I⟩;refine⟨⟨j,by rw[iW,b_];exact fx _⟩,av ⟨Z.G .ln,_,ep,j,?_⟩⟩;have sF:am H1 (aD t (Z.G .ln) (.dK (iX (M.las.map dS.nm) λi=>.ref (Z.G (.lo i))))):=λb o e=>by
    by_cases z:b=Z.G .ln
    ·rw[z,S]at e;rw[z,af];exact e
    ·rw[ao z];exact f4 b o e z
   have kp:Kp t (aD t (Z.G .ln) (.dK (iX (M.las.map dS.nm) λi=>.ref (Z.G (.lo i))))):=⟨λu xs e=>by rw[ao λz=>by rw[z,j]at e;cases e];exact e,λu o⟨o',e⟩=>⟨o',by rw[ao λz=>by rw[z,j]at e;cases e];exact e⟩⟩;have J:aD t (Z.G .ln) (.dK (iX (M.las.map dS.nm) λi=>.ref (Z.G (.lo i)))) D=some (.lst f):=by rw[ao (m3 nd)];exact F
   have al:=I.kp kp;generalize aD t (Z.G .ln) (.dK (iX (M.las.map dS.nm) λi=>.ref (Z.G (.lo i))))=B at sF J al⊢;refine U rfl ⟨D,rfl,⟨_,be.of J⟩,λD2 a2=>?_⟩;refine mZ (K:=K) (a:=D) (xs:=f) (λk y H'=>y=[]/\am B H'/\H' D2=some (.lst [])) ⟨rfl,aj (am.refl _) a2,af⟩ (λk y H' _ h=>be.of (h.2.1 _ _ J)) ?_ ?_
   ·rintro k v y H6 hv⟨rfl,m,l⟩;have L:k<f.length:=(d_.mp hv).1;obtain⟨b,x,rfl,hb⟩:=al v (f_ hv);exact⟨b,U rfl ⟨am.tseq m hb,rfl,_,U rfl (av ⟨_,U rfl (av ⟨rfl,U rfl ⟨rfl,U rfl (bN (lf L ⟨rfl,m,l⟩))⟩⟩)⟩)⟩⟩
   ·rintro y H6⟨rfl,m,l⟩;exact q D2 H6 ((s1.trans sF).trans m) l
end
def Bk(K:Of)(H:Hp)(v:V):Prop:=zY K H v\/v=.str "nothinghere"\/v=.str "nobody"
inductive Lf(K:Of)(vs:List V)(H:Hp)(Q:VK)(_E:XK):Prop|mk(n:Int)(_:vs=[.int n])(_:0<=n)(_:∀(v:V)H',am H H'->Bk K H' v->Q v H')
inductive Jf(K:Of)(vs:List V)(H:Hp)(Q:VK)(_E:XK):Prop|mk(n:Int)(_:vs=[.int n])(_:0<=n)(_:∀(v:V)H',am H H'->oh K H' v->Q v H')
inductive Jd(K:Of)(vs:List V)(H:Hp)(Q:VK)(_E:XK):Prop|mk(n p f:Int)(_:vs=[.int n,.int p,.int f])(_:0<=n)(_:0<=f)(_:∀(v:V)H',am H H'->Bm K H' p v->Q v H')
inductive Je(K:Of)(vs:List V)(H:Hp)(Q:VK)(_E:XK):Prop|mk(n:Int)(_:vs=[.int n])(_:0<=n)(_:∀(v:V)H',am H H'->mM K H' v->Q v H')
section
variable{K:Of}{H:Hp}{p:Addr}{xs:List V}
def tP(h:H p=some (.tup xs)):mL K H (.ref p):=⟨_,.tup h,bI (by decide+kernel)⟩
def xX(h:H p=some (.lst xs)):mL K H (.ref p):=⟨_,.lst h,bI (by decide+kernel)⟩
def qw{z:Int}:mL K H (.int z):=⟨_,.int z,bI (by decide+kernel)⟩
def F2{b:Bool}:mL K H (.bl b):=⟨_,.bl b,bI (by decide+kernel)⟩
def BI:mL K H .non:=⟨_,.non,bI (by decide+kernel)⟩
def aK{b:Addr}{o o':HO}(h:H p=some o)(c:H b=none):aD H b o' p=some o:=by rw[ao (aI h c)];exact h
def Mi{n:Nat}(h:decide (n<=8)=true):n<=8:=md h
def aN{R:V->Prop}:∀v∈([]:List V),R v:=λ_ z=>(nomatch z)
def aC{R:V->Prop}{x:V}(h:R x)(t:∀v∈xs,R v):∀v∈x::xs,R v:=NQ.mpr ⟨h,t⟩
def u4{xs:List V}{R:V->Prop}{n:Int}(h:∀v∈xs,R v)(c:0<xs.length):∃v,tM xs (n%(xs.length:Int))=some v/\R v:=by obtain⟨v,h1,h2⟩:=vq (xs:=xs) (i:=n%(xs.length:Int)) (yl _ (by omega)) (w_ _ (by omega));exact⟨v,h1,h v h2⟩
end
def twoM:List (Str×Int):=[("age",1),("age",2)]
def two_wd:∀m∈twoM,Wd m.1/\-ce<=m.2/\m.2<=ce:=NQ.mpr ⟨⟨ny (by decide+kernel),by decide+kernel,by decide+kernel⟩,NQ.mpr ⟨⟨ny (by decide+kernel),by decide+kernel,by decide+kernel⟩,λ_ z=>(nomatch z)⟩⟩
def two_at{b c:Addr}{i:Nat}{m:Str×Int}(h:twoM[i]?=some m)(h1:bj K H b [.str "age",.int 1])(h2:bj K H c [.str "age",.int 2]):∃d,[V.ref b,V.ref c][i]?=some (.ref d)/\bj K H d [.str m.1,.int m.2]:=by match i,h with|0,h=>cases h;exact⟨b,rfl,h1⟩|1,h=>cases h;exact⟨c,rfl,h2⟩
section
def xN(T:Txt K mg a):aT P w K mg base dq 1 a.z9.x a.z9.d ["_law_number"] (Lf K):=by
 refine T.z9.ok Bu λb A outer s H p Q E r h=>?_
 ·obtain⟨n,rfl,hn,q⟩:=h;refine⟨_,(ah (bu 1 Bu.nd (bf (ac aB (ac aB (ac aB (ac aB (ac aB (ac ae (ac dZ (ac fW (ac (bn (ac aB O)) (ac (bf (ac aB O)) (ac (bn O) (ac aB (ac (bf (ac aB (ac (bn (ac aB O)) O))) O))))))))))))))) (ai (aF (gw K (Y 1) (az aY (Y 0) (au (aJ K rfl) (by rfl) T.bx L2.aL (ac (Y 1) O))))))),?_⟩
  refine⟨ls rfl,λc h1=>⟨ls rfl,λe h2=>⟨ls rfl,λf h3=>⟨ls rfl,λg h4=>⟨ls rfl,λi h5=>⟨ls rfl,λj h6=>av ?_⟩⟩⟩⟩⟩⟩;have k:=(aj (o:=.lst [.str "",.str "Soap",.str "so ap",.str "nothinghere",.str "nobody",.int 7,.bl true,.non,.ref c,.ref e,.ref f,.str "soap\n",.ref i]) (aj (o:=.lst [.str "soap",.ref g]) (aj (o:=.tup [.str "a"]) (aj (o:=.tup []) (aj (o:=.lst [.str "a"]) (aj (o:=.tup [.str "a"]) (am.refl H) h1) h2) h3) h4) h5) h6);obtain⟨v,l,m⟩:=u4 (n:=n) (R:=Bk K _) (aC (.inl (.inr ⟨"",rfl,by decide,by decide+kernel⟩)) (aC (.inl (.inr ⟨"Soap",rfl,by decide,by decide+kernel⟩)) (aC (.inl (.inr ⟨"so ap",rfl,by decide,by decide+kernel⟩)) (aC (.inr (.inl rfl)) (aC (.inr (.inr rfl)) (aC (.inl (.inl qw)) (aC (.inl (.inl F2)) (aC (.inl (.inl BI)) (aC (.inl (.inl (tP (aK (aK (aK (aK (aK af h2) h3) h4) h5) h6)))) (aC (.inl (.inl (xX (aK (aK (aK (aK af h3) h4) h5) h6)))) (aC (.inl (.inl (tP (aK (aK (aK af h4) h5) h6)))) (aC (.inl (.inr ⟨"soap\n",rfl,by decide,by decide+kernel⟩)) (aC (.inl (.inl (xX (aK af h6)))) aN))))))))))))) (p_ _);exact U rfl (U rfl (U rfl ⟨_,13,rfl,.inl ⟨_,be.of af,rfl⟩,_,U rfl ⟨rfl,(show(0:Int)<13 by decide),j,_,_,v,rfl,rfl,be.of af,l,q v _ k m⟩⟩))
def fI(T:Txt K mg a):aT P w K mg base dq 1 a.dR.x a.dR.d ["_law_number"] (Jf K):=by
 refine T.dR.ok nE λb A outer s H l Q E m h=>?_
 ·obtain⟨n,rfl,hn,q⟩:=h;refine⟨_,(ah (bu 1 nE.nd (bf (ac aB (ac aB (ac aB (ac aB (ac aB (ac ae (ac dZ (ac fW (ac (bn (ac aB O)) (ac (bf (ac aB O)) (ac (bn O) (ac aB (ac (yW ua ae) O))))))))))))))) (ai (aF (gw K (Y 1) (az aY (Y 0) (au (aJ K rfl) (by rfl) T.bx L2.aL (ac (Y 1) O))))))),?_⟩
  refine⟨ls rfl,λc h1=>⟨ls rfl,λe h2=>⟨ls rfl,λf h3=>(U rfl ⟨ls rfl,λg h4=>av ?_⟩)⟩⟩⟩;have i:=(aj (o:=.lst [.str "",.str "Ann",.str "an n",.str "ann-7",.str "abcdefghijklmnopqrstuvwxy",.int 7,.bl true,.non,.ref c,.ref e,.ref f,.str "ann\n",.int (-1)]) (aj (o:=.tup []) (aj (o:=.lst [.str "a"]) (aj (o:=.tup [.str "a"]) (am.refl H) h1) h2) h3) h4);obtain⟨v,j,k⟩:=u4 (n:=n) (R:=oh K _) (aC (.inr ⟨"",rfl,by decide,by decide+kernel⟩) (aC (.inr ⟨"Ann",rfl,by decide,by decide+kernel⟩) (aC (.inr ⟨"an n",rfl,by decide,by decide+kernel⟩) (aC (.inr ⟨"ann-7",rfl,by decide,by decide+kernel⟩) (aC (.inr ⟨"abcdefghijklmnopqrstuvwxy",rfl,by decide,by decide+kernel⟩) (aC (.inl qw) (aC (.inl F2) (aC (.inl BI) (aC (.inl (tP (aK (aK (aK af h2) h3) h4))) (aC (.inl (xX (aK (aK af h3) h4))) (aC (.inl (tP (aK af h4))) (aC (.inr ⟨"ann\n",rfl,by decide,by decide+kernel⟩) (aC (.inl qw) aN))))))))))))) (p_ _);exact U rfl (U rfl (U rfl ⟨_,13,rfl,.inl ⟨_,be.of af,rfl⟩,_,U rfl ⟨rfl,(show(0:Int)<13 by decide),g,_,_,v,rfl,rfl,be.of af,j,q v _ i k⟩⟩))
def nX(T:Txt K mg a):aT P w K mg base dq 1 a.gb.x a.gb.d ["_law_number","_law_p","_law_far"] (Jd K):=by
 refine T.gb.ok vN λe A outer s H l Q E m h=>?_
 ·obtain⟨n,p,f,rfl,hn,r,q⟩:=h;refine⟨_,(ai (aF (gw K (bf (ac (yW ua ae) (ac (Y 1) (ac (az bQ (Y 1) (Y 2)) (ac dZ (ac fW (ac aB (ac (bn (ac ae O)) (ac (bf (ac ae O)) (ac dZ (ac (az fF (yW ua ae) (Y 2)) O))))))))))) (az aY (Y 0) ae)))),?_⟩
  walk_at "a"
  refine⟨ls rfl,λb h1=>⟨ls rfl,λc h2=>?_⟩⟩
  walk_at "a"
  refine⟨ls rfl,λg h3=>?_⟩;have i:=(aj (o:=.lst [.int (-1),.int p,.int (p+f),.bl true,.non,.str "0",.ref b,.ref c,.bl false,.int (-1-f)]) (aj (o:=.lst [.int 0]) (aj (o:=.tup [.int 0]) (am.refl H) h1) h2) h3);obtain⟨v,j,k⟩:=u4 (n:=n) (R:=Bm K _ p) (xs:=[.int (-1),.int p,.int (p+f),.bl true,.non,.str "0",.ref b,.ref c,.bl false,.int (-1-f)]) (aC (.inr ⟨_,rfl,by omega⟩) (aC (.inr ⟨_,rfl,by omega⟩) (aC (.inr ⟨_,rfl,by omega⟩) (aC (.inl (.inl ⟨_,rfl⟩)) (aC (.inl (.inr ⟨_,.non,bI (by decide+kernel)⟩)) (aC (.inl (.inr ⟨_,.str _,bI (by decide+kernel)⟩)) (aC (.inl (.inr ⟨_,.tup (aK (aK af h2) h3),bI (by decide+kernel)⟩)) (aC (.inl (.inr ⟨_,.lst (aK af h3),bI (by decide+kernel)⟩)) (aC (.inl (.inl ⟨_,rfl⟩)) (aC (.inr ⟨_,rfl,by omega⟩) aN)))))))))) (p_ _);exact U rfl (r2 ⟨(show(0:Int)<10 by decide),g,_,_,v,rfl,rfl,be.of af,j,q v _ i k⟩)
def nY(T:Txt K mg a):aT P w K mg base dq 1 a.gc.x a.gc.d ["_law_number"] (Je K):=by
 refine T.gc.ok nD λV A outer s H vs Q E hr h=>?_
 ·obtain⟨n,rfl,hn,q⟩:=h;refine⟨_,(ah (bu 1 nD.nd (bf (ac fW (ac (bf O) (ac (bn (ac (bn (ac aB (ac ae O))) (ac (bn (ac aB (ac ae O))) O))) (ac (bn (ac (bn (ac aB O)) O)) (ac (bn (ac (bn (ac aB (ac dZ O))) O)) (ac (bn (ac (bn (ac aB (ac ae O))) O)) (ac (bn (ac aB (ac ae O))) (ac aB O)))))))))) (ai (aF (gw K (Y 1) (az aY (Y 0) (au (aJ K rfl) (by rfl) T.bx L2.aL (ac (Y 1) O))))))),?_⟩
  refine⟨ls rfl,λf h1=>⟨ls rfl,λg h2=>⟨ls rfl,λj h3=>⟨ls rfl,λk h4=>⟨ls rfl,λl h5=>⟨ls rfl,λp h6=>⟨ls rfl,λr h7=>⟨ls rfl,λt h8=>⟨ls rfl,λu h9=>⟨ls rfl,λb h10=>⟨ls rfl,λc h11=>⟨ls rfl,λe h12=>av ?_⟩⟩⟩⟩⟩⟩⟩⟩⟩⟩⟩⟩;have C:=(aj (o:=.lst [.non,.ref f,.ref k,.ref p,.ref t,.ref b,.ref c,.str "age=1"]) (aj (o:=.tup [.str "age",.int 1]) (aj (o:=.tup [.ref u]) (aj (o:=.tup [.str "Age",.int 1]) (aj (o:=.tup [.ref r]) (aj (o:=.tup [.str "age",.bl true]) (aj (o:=.tup [.ref l]) (aj (o:=.tup [.str "age"]) (aj (o:=.tup [.ref g,.ref j]) (aj (o:=.tup [.str "age",.int 2]) (aj (o:=.tup [.str "age",.int 1]) (aj (o:=.lst []) (am.refl H) h1) h2) h3) h4) h5) h6) h7) h8) h9) h10) h11) h12);have D:(aD (aD (aD (aD (aD (aD (aD (aD (aD (aD (aD (aD H f (.lst [])) g (.tup [.str "age",.int 1])) j (.tup [.str "age",.int 2])) k (.tup [.ref g,.ref j])) l (.tup [.str "age"])) p (.tup [.ref l])) r (.tup [.str "age",.bl true])) t (.tup [.ref r])) u (.tup [.str "Age",.int 1])) b (.tup [.ref u])) c (.tup [.str "age",.int 1])) e (.lst [.non,.ref f,.ref k,.ref p,.ref t,.ref b,.ref c,.str "age=1"])) f=some (.lst []):=(aK (aK (aK (aK (aK (aK (aK (aK (aK (aK (aK af h2) h3) h4) h5) h6) h7) h8) h9) h10) h11) h12);have F:(aD (aD (aD (aD (aD (aD (aD (aD (aD (aD (aD (aD H f (.lst [])) g (.tup [.str "age",.int 1])) j (.tup [.str "age",.int 2])) k (.tup [.ref g,.ref j])) l (.tup [.str "age"])) p (.tup [.ref l])) r (.tup [.str "age",.bl true])) t (.tup [.ref r])) u (.tup [.str "Age",.int 1])) b (.tup [.ref u])) c (.tup [.str "age",.int 1])) e (.lst [.non,.ref f,.ref k,.ref p,.ref t,.ref b,.ref c,.str "age=1"])) g=some (.tup [.str "age",.int 1]):=(aK (aK (aK (aK (aK (aK (aK (aK (aK (aK af h3) h4) h5) h6) h7) h8) h9) h10) h11) h12);have G:(aD (aD (aD (aD (aD (aD (aD (aD (aD (aD (aD (aD H f (.lst [])) g (.tup [.str "age",.int 1])) j (.tup [.str "age",.int 2])) k (.tup [.ref g,.ref j])) l (.tup [.str "age"])) p (.tup [.ref l])) r (.tup [.str "age",.bl true])) t (.tup [.ref r])) u (.tup [.str "Age",.int 1])) b (.tup [.ref u])) c (.tup [.str "age",.int 1])) e (.lst [.non,.ref f,.ref k,.ref p,.ref t,.ref b,.ref c,.str "age=1"])) j=some (.tup [.str "age",.int 2]):=(aK (aK (aK (aK (aK (aK (aK (aK (aK af h4) h5) h6) h7) h8) h9) h10) h11) h12);have I:(aD (aD (aD (aD (aD (aD (aD (aD (aD (aD (aD (aD H f (.lst [])) g (.tup [.str "age",.int 1])) j (.tup [.str "age",.int 2])) k (.tup [.ref g,.ref j])) l (.tup [.str "age"])) p (.tup [.ref l])) r (.tup [.str "age",.bl true])) t (.tup [.ref r])) u (.tup [.str "Age",.int 1])) b (.tup [.ref u])) c (.tup [.str "age",.int 1])) e (.lst [.non,.ref f,.ref k,.ref p,.ref t,.ref b,.ref c,.str "age=1"])) k=some (.tup [.ref g,.ref j]):=(aK (aK (aK (aK (aK (aK (aK (aK af h5) h6) h7) h8) h9) h10) h11) h12);have J:(aD (aD (aD (aD (aD (aD (aD (aD (aD (aD (aD (aD H f (.lst [])) g (.tup [.str "age",.int 1])) j (.tup [.str "age",.int 2])) k (.tup [.ref g,.ref j])) l (.tup [.str "age"])) p (.tup [.ref l])) r (.tup [.str "age",.bl true])) t (.tup [.ref r])) u (.tup [.str "Age",.int 1])) b (.tup [.ref u])) c (.tup [.str "age",.int 1])) e (.lst [.non,.ref f,.ref k,.ref p,.ref t,.ref b,.ref c,.str "age=1"])) l=some (.tup [.str "age"]):=(aK (aK (aK (aK (aK (aK (aK af h6) h7) h8) h9) h10) h11) h12);have L:(aD (aD (aD (aD (aD (aD (aD (aD (aD (aD (aD (aD H f (.lst [])) g (.tup [.str "age",.int 1])) j (.tup [.str "age",.int 2])) k (.tup [.ref g,.ref j])) l (.tup [.str "age"])) p (.tup [.ref l])) r (.tup [.str "age",.bl true])) t (.tup [.ref r])) u (.tup [.str "Age",.int 1])) b (.tup [.ref u])) c (.tup [.str "age",.int 1])) e (.lst [.non,.ref f,.ref k,.ref p,.ref t,.ref b,.ref c,.str "age=1"])) p=some (.tup [.ref l]):=(aK (aK (aK (aK (aK (aK af h7) h8) h9) h10) h11) h12);have M:(aD (aD (aD (aD (aD (aD (aD (aD (aD (aD (aD (aD H f (.lst [])) g (.tup [.str "age",.int 1])) j (.tup [.str "age",.int 2])) k (.tup [.ref g,.ref j])) l (.tup [.str "age"])) p (.tup [.ref l])) r (.tup [.str "age",.bl true])) t (.tup [.ref r])) u (.tup [.str "Age",.int 1])) b (.tup [.ref u])) c (.tup [.str "age",.int 1])) e (.lst [.non,.ref f,.ref k,.ref p,.ref t,.ref b,.ref c,.str "age=1"])) r=some (.tup [.str "age",.bl true]):=(aK (aK (aK (aK (aK af h8) h9) h10) h11) h12);have N:(aD (aD (aD (aD (aD (aD (aD (aD (aD (aD (aD (aD H f (.lst [])) g (.tup [.str "age",.int 1])) j (.tup [.str "age",.int 2])) k (.tup [.ref g,.ref j])) l (.tup [.str "age"])) p (.tup [.ref l])) r (.tup [.str "age",.bl true])) t (.tup [.ref r])) u (.tup [.str "Age",.int 1])) b (.tup [.ref u])) c (.tup [.str "age",.int 1])) e (.lst [.non,.ref f,.ref k,.ref p,.ref t,.ref b,.ref c,.str "age=1"])) t=some (.tup [.ref r]):=(aK (aK (aK (aK af h9) h10) h11) h12);have S:(aD (aD (aD (aD (aD (aD (aD (aD (aD (aD (aD (aD H f (.lst [])) g (.tup [.str "age",.int 1])) j (.tup [.str "age",.int 2])) k (.tup [.ref g,.ref j])) l (.tup [.str "age"])) p (.tup [.ref l])) r (.tup [.str "age",.bl true])) t (.tup [.ref r])) u (.tup [.str "Age",.int 1])) b (.tup [.ref u])) c (.tup [.str "age",.int 1])) e (.lst [.non,.ref f,.ref k,.ref p,.ref t,.ref b,.ref c,.str "age=1"])) u=some (.tup [.str "Age",.int 1]):=(aK (aK (aK af h10) h11) h12);have z:(aD (aD (aD (aD (aD (aD (aD (aD (aD (aD (aD (aD H f (.lst [])) g (.tup [.str "age",.int 1])) j (.tup [.str "age",.int 2])) k (.tup [.ref g,.ref j])) l (.tup [.str "age"])) p (.tup [.ref l])) r (.tup [.str "age",.bl true])) t (.tup [.ref r])) u (.tup [.str "Age",.int 1])) b (.tup [.ref u])) c (.tup [.str "age",.int 1])) e (.lst [.non,.ref f,.ref k,.ref p,.ref t,.ref b,.ref c,.str "age=1"])) b=some (.tup [.ref u]):=(aK (aK af h11) h12);have B:(aD (aD (aD (aD (aD (aD (aD (aD (aD (aD (aD (aD H f (.lst [])) g (.tup [.str "age",.int 1])) j (.tup [.str "age",.int 2])) k (.tup [.ref g,.ref j])) l (.tup [.str "age"])) p (.tup [.ref l])) r (.tup [.str "age",.bl true])) t (.tup [.ref r])) u (.tup [.str "Age",.int 1])) b (.tup [.ref u])) c (.tup [.str "age",.int 1])) e (.lst [.non,.ref f,.ref k,.ref p,.ref t,.ref b,.ref c,.str "age=1"])) c=some (.tup [.str "age",.int 1]):=(aK af h12);have y:(aD (aD (aD (aD (aD (aD (aD (aD (aD (aD (aD (aD H f (.lst [])) g (.tup [.str "age",.int 1])) j (.tup [.str "age",.int 2])) k (.tup [.ref g,.ref j])) l (.tup [.str "age"])) p (.tup [.ref l])) r (.tup [.str "age",.bl true])) t (.tup [.ref r])) u (.tup [.str "Age",.int 1])) b (.tup [.ref u])) c (.tup [.str "age",.int 1])) e (.lst [.non,.ref f,.ref k,.ref p,.ref t,.ref b,.ref c,.str "age=1"])) e=some (.lst [.non,.ref f,.ref k,.ref p,.ref t,.ref b,.ref c,.str "age=1"]):=af;generalize(aD (aD (aD (aD (aD (aD (aD (aD (aD (aD (aD (aD H f (.lst [])) g (.tup [.str "age",.int 1])) j (.tup [.str "age",.int 2])) k (.tup [.ref g,.ref j])) l (.tup [.str "age"])) p (.tup [.ref l])) r (.tup [.str "age",.bl true])) t (.tup [.ref r])) u (.tup [.str "Age",.int 1])) b (.tup [.ref u])) c (.tup [.str "age",.int 1])) e (.lst [.non,.ref f,.ref k,.ref p,.ref t,.ref b,.ref c,.str "age=1"]))=W at C D F G I J L M N S z B y⊢;obtain⟨v,X,Z⟩:=u4 (n:=n) (R:=mM K W) (aC (.ty ⟨_,.non,bI (by decide+kernel)⟩) (aC (.ty ⟨_,.lst D,bI (by decide+kernel)⟩) (aC (.twice ⟨_,_,rfl,bj.of I,rfl,λi m hm=>two_at hm (bj.of F) (bj.of G)⟩ two_wd (by decide) (by decide)) (aC (.bad (bj.of L) (p_ _) (Mi rfl) (aC (.short (bj.of J)) aN)) (aC (.bad (bj.of N) (p_ _) (Mi rfl) (aC (.num (bj.of M) (ny (by decide+kernel)) (.inl ⟨_,rfl⟩)) aN)) (aC (.bad (bj.of z) (p_ _) (Mi rfl) (aC (.word (bj.of S) (.inr ⟨"Age",rfl,by decide,by decide+kernel⟩)) aN)) (aC (.bad (bj.of B) (p_ _) (Mi rfl) (aC (.ty ⟨_,.str _,bI (by decide+kernel)⟩) (aC (.ty ⟨_,.int _,bI (by decide+kernel)⟩) aN))) (aC (.ty ⟨_,.str _,bI (by decide+kernel)⟩) aN)))))))) (p_ _);exact U rfl (U rfl (U rfl ⟨_,8,rfl,.inl ⟨_,be.of y,rfl⟩,_,U rfl ⟨rfl,(show(0:Int)<8 by decide),e,_,_,v,rfl,rfl,be.of y,X,q v _ C Z⟩⟩))
end
def yz(x:Str):Bool:=decide (x≠"nothinghere")&&decide (x≠"nobody")
def Cs:∀i∈List.range 12,yz (uf i)=true:=by decide+kernel
def Hj:∀r∈List.range 4,∀i∈List.range 11,∀c∈List.range 26,yz (CM (yF r) (i:Int) c)=true:=by decide+kernel
def qM(k N:Int):yz (du k N)=true:=by
 unfold du;have b1:=bH (k+N/80) (show(0:Int)<12 by decide);have b2:=bH (k+N/80) (show(0:Int)<26 by decide);have b3:=bH N (show(0:Int)<4 by decide);have b4:=Bh N;have b5:=qR N
 split
 ·exact Cs _ (by rw[oi];omega)
 ·have:=Hj (N%4).toNat (by rw[oi];omega) (Ab N).toNat (by rw[oi];omega) ((k+N/80)%26).toNat (by rw[oi];omega);rw[show(((Ab N).toNat:Nat):Int)=Ab N by lia]at this;exact this
def Bk.nm{v:V}{ns:Om}(h:Bk K H v)(hn:∀x∈ns,yz x=true):vx K H ns v:=by
 have hn:∀x∈ns,x≠"nothinghere"/\x≠"nobody":=λx b=>by have:=hn x b;unfold yz at this;rw[kw]at this;exact⟨md this.1,md this.2⟩
 rcases h with h|rfl|rfl
 ·exact .inl h
 ·exact .inr (U rfl ⟨ny (by decide+kernel),λz=>(hn _ z).1 rfl⟩)
 ·exact .inr (U rfl ⟨ny (by decide+kernel),λz=>(hn _ z).2 rfl⟩)
theorem Bk.same{v:V}(s:am H H')(h:Bk K H v):Bk K H' v:=h.imp (·.same s) id
def gJ.la_odd{ns:Os}{M:cA}(h:gJ ns M):∀x∈M.las.map dS.nm,yz x=true:=λx b=>by obtain⟨l,hm,rfl⟩:=ir.mp b;obtain⟨i,hi⟩:=h_.mp hm;rw[(h.ln i l hi).1];exact qM _ _
def gJ.tr_odd{ns:Os}{M:cA}(h:gJ ns M):∀x∈M.trs.map eP.nm,yz x=true:=λx b=>by obtain⟨t,hm,rfl⟩:=ir.mp b;obtain⟨i,hi⟩:=h_.mp hm;rw[(h.tn i t hi).1];exact qM _ _
def gJ.arm_odd{ns:Os}{M:cA}(h:gJ ns M){t:eP}(c:t∈M.trs):∀x∈t.arms,yz x=true:=λx b=>by obtain⟨i,hi⟩:=h_.mp c;rw[(h.tn i t hi).2]at b;obtain⟨j,_,rfl⟩:=ir.mp b;exact qM _ _
def lw{n k:Int}[i:Decidable (V.int n=V.int k)]:@decide _ i=decide (n=k):=decide_eq_decide.mpr ⟨V.int.inj,λe=>by rw[e]⟩
def BV(a b c d:Bool):SeqAt.shaped (.list [.bool a,.bool b,.bool c,.bool d])=true:=by cases a<;>cases b<;>cases c<;>cases d<;>rfl
def HH(a b c d:Bool):PyData.eqv (.list [.bool a,.bool b,.bool c,.bool d]) (.list [.bool a,.bool b,.bool c,.bool d])=true:=by cases a<;>cases b<;>cases c<;>cases d<;>rfl
def Fo{j:Nat}{y k:Int}{t u:TS}{D:jq}{c:St}(d:c[j]?=some (some (.int y)))(h1:y=k->∀N:St->Hp->Prop,t {D with nx:=N} c H)(h2:y≠k->u D c H):Ag (DF (DD (Il rEq (DC j) (tC (.int k)))) t wF) u D c H:=⟨.int y,d,rfl,decide (V.int y=V.int k),rfl,jh (λe=>h1 e _) h2⟩
def MO(a:gK)(n:Nat):Addr:=if n=1 then a.dz else if n=7 then a.b7 else if n=8 then a.cP else a.bT
def HM:List Nat:=[3,1,3,7,1,1,1,8,3,3,3,3,3,3]
def zG(y:Nat):Nat:=HM.getD y 3
def vg(a:gK)(y:Nat):Addr:=MO a (zG y)
def yc:∀y∈List.range 14,(zG y=3\/zG y=1\/zG y=7\/zG y=8)/\HM[y]?=some (zG y)/\(8<=y->zG y=3):=by decide+kernel
structure Ge(K:Of)(a:gK)(C:Addr)(n:Int):Prop where
 ei:B5 K C
 k1:PySem.W.kitOne K (.ref C) (.ref a.dz)=some (decide (n=1))k3:PySem.W.kitOne K (.ref C) (.ref a.bT)=some (decide (n=3))k7:PySem.W.kitOne K (.ref C) (.ref a.b7)=some (decide (n=7))k8:PySem.W.kitOne K (.ref C) (.ref a.cP)=some (decide (n=8))kv:PySem.W.kitOne K (.ref C) (.type "ValueError")=some true
 k2:PySem.W.kitAny K (.ref C) [.ref a.hE,.ref a.jt]=some false
inductive Li(K:Of)(a:gK)(vs:List V)(H:Hp)(Q:VK)(_E:XK):Prop|mk(ea:Addr)(y:Nat)(_:vs=[.ref ea,.int y])(_:H ea=some (Kg ea (.ref (vg a y))))(_:y<14)(_:∀H',am H H'->Q (.bl true) H')
inductive Le(P:Ol)(w:World)(K:Of)(a:gK)(vs:List V)(H:Hp)(Q:VK)(E:XK):Prop|mk(ns:Os)(M:cA)(Z:ZS)(A:yx)(c y:Nat)(m f:Int)(_:vs=[.ref (Z.G .hh),.ref A.pl,.int y,.int m,.int f])(_:cL P w K a H M Z c)(_:nu K H M.p M.salt (fq M) (iG M) A)(_:gJ ns M)(_:0<M.las.length)(_:0<=m)(_:0<=f)(_:y<14)(_:(8<=y->∀H',am H H'->Q .non H'))(_:(y<8->∀H',am H H'->E (.ref (vg a y)) none H'))
inductive Ld(P:Ol)(w:World)(K:Of)(a:gK)(vs:List V)(H:Hp)(Q:VK)(E:XK):Prop|mk(ns:Os)(M:cA)(Z:ZS)(A:yx)(c y:Nat)(m:Int)(_:vs=[.ref (Z.G .hh),.ref A.pl,.int y,.int m])(_:cL P w K a H M Z c)(_:nu K H M.p M.salt (fq M) (iG M) A)(_:gJ ns M)(_:0<=m)(_:(8<=y/\y<14))(_:∀H',am H H'->E (.ref a.bT) none H')
section
def Ki(T:Txt K mg a){y:Nat}(h:y<14):∃n:Int,tM (HM.map λn:Nat=>V.int n) (y:Int)=some (.int n)/\Ge K a (vg a y) n:=by
 have u:Ge K a a.bT 3:=⟨T.A6,T.qo,T.oz,T.ni,T.oA,T.lM,T.jY⟩;have b:Ge K a a.dz 1:=⟨T.C9,T.rp,T.qp,T.oB,T.qt,T.mE,T.kG⟩;have n1:Ge K a a.b7 7:=⟨T.zF,T.oC,T.nj,T.mF,T.nq,T.lr,T.jv⟩;have c:Ge K a a.cP 8:=⟨T.A7,T.qu,T.oE,T.nr,T.oF,T.lN,T.jZ⟩;obtain⟨hc,hn,-⟩:=yc y (oi.mpr h);have hn:tM (HM.map λn:Nat=>V.int n) (y:Int)=some (.int (zG y)):=aq (by rw[gg,hn];rfl);refine⟨_,hn,?_⟩;unfold vg;rcases hc with e|e|e|e<;>rw[e]
 ·exact u
 ·exact b
 ·exact n1
 ·exact c
def Hf(T:Txt K mg a):aT P w K mg base dq 2 a.Dr.x a.Dr.d ["_law_bad","_law_way"] (Li K a):=by
 refine T.Dr.ok xC λm A outer s H z Q E p h=>?_
 ·obtain⟨e,y,rfl,r,t,q⟩:=h;refine⟨_,(ah (bu 2 xC.nd (gw K (bf (ac ae (ac ae (ac ae (ac ae (ac ae (ac ae (ac ae (ac ae (ac ae (ac ae (ac ae (ac ae (ac ae (ac ae O))))))))))))))) (Y 1))) (ah (bu 3 xC.nd (bf (ac (au (kL K rfl) (by rfl) T.aZ L2.aQ (ac (Y 0) (ac (bC (v:=.ref a.dz) ⟨_,T.zq,rfl⟩ rfl) O))) (ac (au (kL K rfl) (by rfl) T.aZ L2.aQ (ac (Y 0) (ac (bC (v:=.ref a.bT) ⟨_,T.wT,rfl⟩ rfl) O))) (ac (au (kL K rfl) (by rfl) T.aZ L2.aQ (ac (Y 0) (ac (bC (v:=.ref a.b7) ⟨_,T.va,rfl⟩ rfl) O))) (ac (au (kL K rfl) (by rfl) T.aZ L2.aQ (ac (Y 0) (ac (bC (v:=.ref a.cP) ⟨_,T.wU,rfl⟩ rfl) O))) O)))))) (ah (aP (PW.pt (eS (bO (aS K rfl (au (kL K rfl) (by rfl) T.aZ L2.aQ (ac (Y 0) (ac (iy rfl T.xT L2.tL) O))) (λ_=>rfl))) (dy (aS K rfl (au (Be K rfl) (by rfl) T.aZ L2.aQ (ac (Y 0) (ac (bn (ac (bC (v:=.ref a.hE) ⟨_,T.u9,rfl⟩ rfl) (ac (bC (v:=.ref a.jt) ⟨_,T.vb,rfl⟩ rfl) O))) O))) (λ_=>rfl))))) (ai (aF dZ)) aE) (ai (aF (bv (tU K rfl (Fp p)) (Y 3) (bf (ac (bv aV (Y 2) ae (aG _)) (ac (bv aV (Y 2) ae (aG _)) (ac (bv aV (Y 2) ae (aG _)) (ac (bv aV (Y 2) ae (aG _)) O))))) (aG _))))))),?_⟩
  obtain⟨n,hn,F⟩:=Ki T t;refine⟨ls rfl,λg h1=>(U rfl ⟨g,_,_,U rfl ⟨rfl,be.of af,hn,av ?_⟩⟩)⟩;have b:=aK (o':=.lst [.int 3,.int 1,.int 3,.int 7,.int 1,.int 1,.int 1,.int 8,.int 3,.int 3,.int 3,.int 3,.int 3,.int 3]) r h1;have j:=aj (o:=.lst [.int 3,.int 1,.int 3,.int 7,.int 1,.int 1,.int 1,.int 8,.int 3,.int 3,.int 3,.int 3,.int 3,.int 3]) (am.refl H) h1;show Ag _ _ _ _ (aD H g (.lst [.int 3,.int 1,.int 3,.int 7,.int 1,.int 1,.int 1,.int 8,.int 3,.int 3,.int 3,.int 3,.int 3,.int 3]));generalize aD H g (.lst [.int 3,.int 1,.int 3,.int 7,.int 1,.int 1,.int 1,.int 8,.int 3,.int 3,.int 3,.int 3,.int 3,.int 3])=k at b j⊢;refine U rfl ⟨e,_,_,_,U rfl ⟨b,F.ei,.inr (U rfl rfl),F.k1,?_⟩⟩;refine U rfl ⟨e,_,_,_,U rfl ⟨b,F.ei,.inr (U rfl rfl),F.k3,?_⟩⟩;refine U rfl ⟨e,_,_,_,U rfl ⟨b,F.ei,.inr (U rfl rfl),F.k7,?_⟩⟩;refine U rfl ⟨e,_,_,_,U rfl ⟨b,F.ei,.inr (U rfl rfl),F.k8,ls rfl,λi h2=>av (AA ?_)⟩⟩;have l:=aj (o:=.lst [.bl (decide (n=1)),.bl (decide (n=3)),.bl (decide (n=7)),.bl (decide (n=8))]) j h2;have c:=aK (o':=.lst [.bl (decide (n=1)),.bl (decide (n=3)),.bl (decide (n=7)),.bl (decide (n=8))]) b h2;have f:aD k i (.lst [.bl (decide (n=1)),.bl (decide (n=3)),.bl (decide (n=7)),.bl (decide (n=8))]) i=some (.lst [.bl (decide (n=1)),.bl (decide (n=3)),.bl (decide (n=7)),.bl (decide (n=8))]):=af;generalize aD k i (.lst [.bl (decide (n=1)),.bl (decide (n=3)),.bl (decide (n=7)),.bl (decide (n=8))])=B at c l f⊢;refine U rfl ⟨e,_,_,_,U rfl ⟨c,F.ei,.inl ⟨rfl,rfl⟩,F.kv,U rfl (bN ?_)⟩⟩;refine U rfl ⟨ls rfl,λtp h3=>⟨e,_,tp,_,_,U rfl ⟨aK c h3,F.ei,af,F.k2,U rfl (bN ?_)⟩⟩⟩;refine U rfl (U rfl ⟨rfl,U rfl ⟨rfl,U rfl ⟨rfl,U rfl ⟨rfl,ls rfl,λl4 h4=>?_⟩⟩⟩⟩);refine⟨_,_,.lst (be.of (aK (aK f h3) h4)) (.cons (.bl _) (.cons (.bl _) (.cons (.bl _) (.cons (.bl _) .nil)))),.lst (be.of af) (.cons (.bl _) (.cons (.bl _) (.cons (.bl _) (.cons (.bl _) .nil)))),BV _ _ _ _,BV _ _ _ _,?_⟩;rw[lw,lw,lw,lw,HH];exact q _ (aj (aj l h3) h4)
def vZ(T:Txt K mg a):aT P w K mg base (lP P w) 6 a.fe.x a.fe.d ["_law_house_here","_law_plan_here","_law_way","_law_more"] (Ld P w K a):=by
 refine T.fe.okE nC λS A outer s H vs Q E j h=>?_
 ·obtain⟨ns,M,Z,A,c,y,m,rfl,o,p,hn,V,⟨y0,y1⟩,J⟩:=h;refine⟨_,(ah (bu 4 nC.nd (pc T.z9 (xN T) j (ac (az bw (Y 3) ae) O))) (ah (aP (aH aV (Y 2) ae (aG _)) (ai (aO (a9 (Y 0) T.ay T.cq.m ((iI (P:=P) (w:=w) T).mono (by decide)) j T.cq.b .nil bo (ac (Y 4) (ac (pc T.z9 (xN T) j (ac (Y 3) O)) O))))) aE) (ah (aP (aH aV (Y 2) ae (aG _)) (ai (aO (a9 (Y 0) T.ay T.eA.m ((tD (P:=P) (w:=w) T).mono (by decide)) j T.eA.b .nil bo (ac (Y 4) O)))) aE) (ah (aP (aH aV (Y 2) ae (aG _)) (ai (aO (a9 (Y 0) T.ay T.ib.m ((xO (P:=P) (w:=w) T).mono (by decide)) j T.ib.b .nil bo (ac (Y 4) O)))) aE) (ah (aP (aH aV (Y 2) ae (aG _)) (ai (aO (a9 (Y 0) T.ay T.db.m ((qb (P:=P) (w:=w) T).mono (by decide)) j T.db.b .nil bo (ac (Y 4) O)))) aE) (ah (aP (PW.pt (kZ (aH lG (Y 2) ae (aG _)) (iP (aH aV (au (aJ K rfl) (by rfl) T.bx L2.aL (ac (gw K (Y 1) ae) O)) ae (aG _))))) (ai (aO (a9 (Y 0) T.ay T.cq.m ((iI (P:=P) (w:=w) T).mono (by decide)) j T.cq.b .nil bo (ac aB (ac aB O))))) aE) (ai (aP (PW.pt (kZ (aH lG (Y 2) ae (aG _)) (iP (aH lG (au (aJ K rfl) (by rfl) T.bx L2.aL (ac (gw K (Y 1) ae) O)) ae (aG _))))) (ai (aO (a9 (Y 0) T.ay T.cq.m ((iI (P:=P) (w:=w) T).mono (by decide)) j T.cq.b .nil bo (ac (dB K (gw K (gw K (Y 1) ae) (az aY (Y 3) (au (aJ K rfl) (by rfl) T.bx L2.aL (ac (gw K (Y 1) ae) O)))) ae) (ac (Y 4) O))))) aE)))))))),?_⟩
  refine U rfl (r2 ⟨⟨by decide,by decide⟩,m/4,rfl,by omega,λv W C r=>av (AA ?_)⟩);have n:=o.same C;have u:=p.same C;have q:∀H',am W H'->E (.ref a.bT) none H':=λH' s=>J H' (C.trans s);clear o p J C;have hh:=n.g.house;refine Fo rfl (λe N=>?_) (λe8=>?_)
  ·exact jG hh rfl rfl (U rfl (U rfl ⟨m,rfl,V,λX H2 D _=>⟨M,Z,c,v,X,rfl,n.same D,.inl ((r.same D).nm hn.tr_odd),λH3 s3=>q H3 (D.trans s3)⟩⟩))
  refine Fo rfl (λe N=>?_) (λe9=>?_)
  ·exact jG hh rfl rfl (U rfl ⟨M,Z,c,v,rfl,n,r.nm hn.tr_odd,q⟩)
  refine Fo rfl (λe N=>?_) (λaa=>?_)
  ·exact jG hh rfl rfl (U rfl ⟨M,Z,c,v,rfl,n,r.nm hn.tr_odd,q⟩)
  refine Fo rfl (λe N=>?_) (λad=>?_)
  ·exact jG hh rfl rfl (U rfl ⟨M,Z,c,v,rfl,n,r.nm hn.tr_odd,q⟩)
  have y2:11<y:=by omega
  obtain⟨f,i,B⟩:=u.T;have F:=Paired.length B;rw[show(iG M).length=M.trs.length from b_ _]at F;refine U rfl (r2 (U rfl (iC (λ_=>?_) (λe=>absurd e (by omega)))));refine U rfl (rX (be.of u.pl) (aq (k:=3) rfl) ⟨_,f.length,rfl,.inl ⟨_,be.of i,rfl⟩,rfl,U rfl (jh (λe=>?_) (λe=>AA ?_))⟩)
  ·exact jG hh rfl rfl ⟨M,Z,c,.str "soap",.str "old",rfl,n,.inl (.inr ⟨"soap",rfl,ny (by decide+kernel),λz=>by rw[List.eq_nil_of_length_eq_zero (l:=M.trs) (by omega)]at z;cases z⟩),q⟩
  refine U rfl (r2 (U rfl (iC (λ_=>?_) (λe=>absurd e (by omega)))));refine U rfl (rX (be.of u.pl) (aq (k:=3) rfl) ⟨_,f.length,rfl,.inl ⟨_,be.of i,rfl⟩,_,U rfl ⟨rfl,U rfl (iC (λ_=>?_) (λe=>absurd e (by omega)))⟩⟩);have hm:=bH m (show(0:Int)<(f.length:Int)by omega);have L:(m%(f.length:Int)).toNat<f.length:=by omega
  obtain⟨x,G,b,hb,hB⟩:=Paired.at_ B _ _ (fy L);unfold iG at G;rw[gg]at G;obtain⟨t,R,rfl⟩:=Option.map_eq_some_iff.mp G;have I:tM f (m%(f.length:Int))=some (.ref b):=by have:=aq (fy L);rw[hb,show(((m%(f.length:Int)).toNat:Nat):Int)=m%(f.length:Int)by omega]at this;exact this
  refine jG hh rfl rfl (U rfl (rX (be.of u.pl) (aq (k:=3) rfl) (U rfl (U rfl (rX (be.of u.pl) (aq (k:=3) rfl) ⟨_,f.length,rfl,.inl ⟨_,be.of i,rfl⟩,_,U rfl ⟨rfl,by show(0:Int)<(f.length:Int);omega,A.T,_,_,U rfl ⟨rfl,be.of i,I,rX hB (aq (k:=0) rfl) (U rfl ?_)⟩⟩⟩)))));exact⟨M,Z,c,_,v,rfl,n,.inr ⟨_,t,R,rfl,r.nm (hn.arm_odd (f_ R))⟩,q⟩
def v0(T:Txt K mg a):aT P w K mg base (lP P w) 12 a.ff.x a.ff.d ["_law_house_here","_law_plan_here","_law_way","_law_more","_law_far"] (Le P w K a):=by
 refine T.ff.okE ip λal A outer s H vs Q E r h=>?_
 ·obtain⟨ns,M,Z,A,c,y,m,f,rfl,W,D,hn,l0,S,f0,y1,q1,t⟩:=h;refine⟨_,(ah (bu 5 ip.nd (gw K (gw K (Y 1) ae) (az aY (Y 3) (au (aJ K rfl) (by rfl) T.bx L2.aL (ac (gw K (Y 1) ae) O))))) (ah (bu 6 ip.nd (pc T.z9 (xN T) r (ac (az bw (Y 3) ae) O))) (ah (bu 7 ip.nd (gw K (bf (ac aB (ac (pc T.dR (fI T) r (ac (Y 3) O)) O))) (az aY (Y 3) ae))) (ah (aP (aH aV (Y 2) ae (aG _)) (ai (aO (a9 (Y 0) T.ay T.dJ.m ((mq (P:=P) (w:=w) T).mono (by decide)) r T.dJ.b .nil bo (ac (Y 6) (ac (Y 7) O))))) aE) (ah (aP (aH aV (Y 2) ae (aG _)) (ai (aO (a9 (Y 0) T.ay T.dJ.m ((mq (P:=P) (w:=w) T).mono (by decide)) r T.dJ.b .nil bo (ac (Y 5) (ac (pc T.dR (fI T) r (ac (az bw (Y 3) ae) O)) O))))) aE) (ah (aP (aH aV (Y 2) ae (aG _)) (ai (aO (a9 (Y 0) T.ay T.dL.m ((mw (P:=P) (w:=w) T).mono (by decide)) r T.dL.b .nil bo (ac (Y 6) (ac (pc T.gb (nX T) r (ac (Y 3) (ac (gw K (Y 1) ae) (ac (Y 4) O)))) O))))) aE) (ah (aP (aH aV (Y 2) ae (aG _)) (ai (aO (a9 (Y 0) T.ay T.dL.m ((mw (P:=P) (w:=w) T).mono (by decide)) r T.dL.b .nil bo (ac (Y 5) (ac (pc T.gb (nX T) r (ac (az bw (Y 3) ae) (ac (gw K (Y 1) ae) (ac (Y 4) O)))) O))))) aE) (ah (aP (aH aV (Y 2) ae (aG _)) (ai (aO (a9 (Y 0) T.ay T.cz.m ((tz (P:=P) (w:=w) T).mono (by decide)) r T.cz.b .nil bo (ac (pc T.dR (fI T) r (ac (Y 3) O)) O)))) aE) (ah (aP (aH aV (Y 2) ae (aG _)) (ai (aO (a9 (Y 0) T.ay T.cS.m ((u3 (P:=P) (w:=w) T).mono (by decide)) r T.cS.b .nil bo (ac (pc T.dR (fI T) r (ac (Y 3) O)) O)))) aE) (ah (aP (aH aV (Y 2) ae (aG _)) (ai (aO (a9 (Y 0) T.ay T.dI.m ((mn (P:=P) (w:=w) T).mono (by decide)) r T.dI.b .nil bo (ac (pc T.dR (fI T) r (ac (Y 3) O)) (ac (pc T.gc (nY T) r (ac (az bw (Y 3) ae) O)) O))))) aE) (ai (aP (aH aV (Y 2) ae (aG _)) (ai (aO (a9 (Y 0) T.ay T.dI.m ((mn (P:=P) (w:=w) T).mono (by decide)) r T.dI.b .nil bo (ac aB (ac (pc T.gc (nY T) r (ac (Y 3) O)) O))))) aE)))))))))))),?_⟩
  have an:(fq M).length=M.las.length:=b_ _;have hm:=bH m (show(0:Int)<((fq M).length:Int)by omega);obtain⟨x,hx,ha⟩:=iE hm.1 hm.2;obtain⟨l,hl,rfl⟩:=ir.mp hx;obtain⟨i,hi⟩:=h_.mp hl;refine U rfl (rX (be.of D.pl) (aq (k:=2) rfl) (U rfl (U rfl (rX (be.of D.pl) (aq (k:=2) rfl) ⟨_,(fq M).length,rfl,.inl ⟨_,be.of D.L,by rw[b_]⟩,_,U rfl ⟨rfl,by show(0:Int)<((fq M).length:Int);omega,A.L,_,_,U rfl ⟨rfl,be.of D.L,ha,av ?_⟩⟩⟩))));refine U rfl (r2 ⟨⟨by decide,by decide⟩,m/4,rfl,by omega,λv H1 s1 X=>av ?_⟩);refine U rfl ⟨m,rfl,S,λg H2 s2 ag=>⟨ls rfl,λV h3=>?_⟩⟩;have s3:=aj (o:=.lst [.str "ann7",g]) (s1.trans s2) h3;have ho:=X.same (aj (o:=.lst [.str "ann7",g]) s2 h3);have J:aD H2 V (.lst [.str "ann7",g]) V=some (.lst [.str "ann7",g]):=af;obtain⟨u,hu,-⟩:=u4 (n:=m) (R:=λ_=>True) (xs:=[.str "ann7",g]) (λ_ _=>trivial) (p_ _);have I:=W.same s3;have hP:=D.same s3;have q:y<8->∀H',am (aD H2 V (.lst [.str "ann7",g])) H'->E (.ref (vg a y)) none H':=λz H' s=>t z H' (s3.trans s);have q1:=λz:8<=y=>q1 z _ s3;show Il _ _ _ _ (aD H2 V (.lst [.str "ann7",g])) _;generalize aD H2 V (.lst [.str "ann7",g])=H3 at J I hP q q1 ho⊢;refine U rfl (r2 ⟨(show(0:Int)<2 by decide),V,_,_,u,rfl,rfl,be.of J,hu,av (AA ?_)⟩);clear W D t s3 s1 X ag s2 h3 J hu ha;have hh:=I.g.house;have aa:=ho.nm hn.la_odd;refine Fo rfl (λe N=>?_) (λe0=>?_)
  ·obtain rfl:y=0:=by omega
   have t:=q (by decide);exact jG hh rfl rfl (U rfl (U rfl ⟨M,Z,c,v,u,rfl,I,.inl ⟨aa,t⟩⟩))
  refine Fo rfl (λe N=>?_) (λe1=>?_)
  ·obtain rfl:y=1:=by omega
   have t:=q (by decide);exact jG hh rfl rfl (U rfl (U rfl (r2 ⟨⟨by decide,by decide⟩,m/4,rfl,by omega,λF H4 B j=>⟨M,Z,c,.str l.nm,F,rfl,I.same B,.inr ⟨i,l,hi,rfl,j,λG C=>t G (B.trans C)⟩⟩⟩)))
  refine Fo rfl (λe N=>?_) (λe2=>?_)
  ·obtain rfl:y=2:=by omega
   have t:=q (by decide);exact jG hh rfl rfl (U rfl (U rfl (U rfl (rX (be.of hP.pl) (aq (k:=0) rfl) (U rfl ⟨m,(M.p:Int),f,rfl,S,f0,λF H4 B _=>⟨M,Z,c,v,F,rfl,I.same B,.inl ⟨aa.same B,λG C=>t G (B.trans C)⟩⟩⟩)))))
  refine Fo rfl (λe N=>?_) (λe3=>?_)
  ·obtain rfl:y=3:=by omega
   have t:=q (by decide);exact jG hh rfl rfl (U rfl (U rfl (r2 ⟨⟨by decide,by decide⟩,U rfl (rX (be.of hP.pl) (aq (k:=0) rfl) (U rfl ⟨m/4,(M.p:Int),f,rfl,by omega,f0,λF H4 B j=>⟨M,Z,c,.str l.nm,F,rfl,I.same B,.inr ⟨i,l,hi,rfl,j,λG C=>t G (B.trans C)⟩⟩⟩))⟩)))
  refine Fo rfl (λe N=>?_) (λe4=>?_)
  ·obtain rfl:y=4:=by omega
   have t:=q (by decide);exact jG hh rfl rfl (U rfl ⟨m,rfl,S,λF H4 B j=>⟨M,Z,c,F,rfl,I.same B,j,λG C=>t G (B.trans C)⟩⟩)
  refine Fo rfl (λe N=>?_) (λe5=>?_)
  ·obtain rfl:y=5:=by omega
   have t:=q (by decide);exact jG hh rfl rfl (U rfl ⟨m,rfl,S,λF H4 B j=>⟨M,Z,c,F,rfl,I.same B,j,λG C=>t G (B.trans C)⟩⟩)
  refine Fo rfl (λe N=>?_) (λe6=>?_)
  ·obtain rfl:y=6:=by omega
   have t:=q (by decide);exact jG hh rfl rfl (U rfl ⟨m,rfl,S,λF H4 B j=>(U rfl (r2 ⟨⟨by decide,by decide⟩,m/13,rfl,by omega,λg3 G C ad=>⟨M,Z,c,F,g3,rfl,(I.same B).same C,.inl ⟨j.same C,λH6 s6=>t H6 ((B.trans C).trans s6)⟩⟩⟩))⟩)
  refine U rfl ⟨rfl,U rfl (jh (λe=>?_) (λe7=>q1 (by omega)))⟩;obtain rfl:y=7:=by omega
  have t:=q (by decide);exact jG hh rfl rfl (U rfl ⟨m,rfl,S,λg3 G C ad=>⟨M,Z,c,.str "ann7",g3,rfl,I.same C,.inr ⟨"ann7",rfl,Fw (by decide+kernel),ad,λH6 s6=>t H6 (C.trans s6)⟩⟩⟩)
end
def Bs{d:Type}{c:List d}{x y:d}{i:Nat}(h:(c++[x])[i]?=some y):c[i]?=some y\/(i=c.length/\y=x):=by
 rcases ND i c.length with z|z
 ·exact .inl (by rw[<-h];exact(r3 z).symm)
 ·rw[z7 z]at h;obtain⟨b,e⟩:=d_.mp h;have b:i-c.length<1:=b;obtain rfl:i=c.length:=by omega
  simp only[Nat.sub_self,List.getElem_cons_zero]at e;exact .inr ⟨rfl,e.symm⟩
section
variable{ns:Os}{M a:cA}{d:Dd}
def Dd.na(h:d.adds=false):wV M d=fq M/\wE M d=iG M:=by cases d<;>first|exact⟨rfl,rfl⟩|cases h
def gJ.keep(h:gJ ns M)(c:a.p=M.p)(g:a.salt=M.salt)(e:a.las.map (λl=>(l.nm,l.sl))=M.las.map λl=>(l.nm,l.sl))(f:a.trs.map (λt=>(t.nm,t.arms))=M.trs.map λt=>(t.nm,t.arms)):gJ ns a/\a.p=M.p/\a.salt=M.salt/\fq a=fq M/\iG a=iG M:=by
 have a1:∀N:cA,fq N=(N.las.map λl=>(l.nm,l.sl)).map Prod.fst:=λN=>by rw[sD];rfl
 have b:∀N:cA,iG N=(N.trs.map λt=>(t.nm,t.arms)).map λx=>(x.1,x.2.length):=λN=>by rw[sD];rfl
 have k:a.las.length=M.las.length:=by have:=r_ List.length e;rw[b_,b_]at this;exact this
 refine⟨⟨λi l m=>?_,λj t n=>?_,by rw[k,c];exact h.lp,by rw[c];exact h.pr⟩,c,g,by rw[a1,a1,e],by rw[b,b,f]⟩
 ·have q:(M.las.map λl=>(l.nm,l.sl))[i]?=some (l.nm,l.sl):=by rw[<-e,gg,m];rfl
  rw[gg]at q;obtain⟨o,h0,q⟩:=Option.map_eq_some_iff.mp q;rw[<-(Ni q).1,<-(Ni q).2,c];exact h.ln i o h0
 ·have q:(M.trs.map λt=>(t.nm,t.arms))[j]?=some (t.nm,t.arms):=by rw[<-f,gg,n];rfl
  rw[gg]at q;obtain⟨r,h0,q⟩:=Option.map_eq_some_iff.mp q;rw[<-(Ni q).1,<-(Ni q).2];exact h.tn j r h0
def gN.nx(h:gJ ns M)(n:gN M d a)(f:F6 ns M d):gJ ns a/\a.p=M.p/\a.salt=M.salt/\fq a=wV M d/\iG a=wE M d:=by cases n with
 |@layer nm sl=>
  obtain⟨k,m,o⟩:=f;refine⟨⟨λi l b=>?_,h.tn,?_,h.pr⟩,rfl,rfl,g6,rfl⟩
  ·rcases Bs b with b|⟨rfl,rfl⟩
   ·exact h.ln i l b
   ·exact⟨k,m⟩
  ·show(M.las++[_]).length<=M.p+1;rw[gV];exact o|@trial x=>
  refine⟨⟨h.ln,λj t e=>?_,h.lp,h.pr⟩,rfl,rfl,rfl,g6⟩;rcases Bs e with e|⟨rfl,rfl⟩
  ·exact h.tn j t e
  ·exact f|share b hh hn=>exact h.keep rfl rfl (eJ b _ rfl) rfl|deal b hh hn=>exact h.keep rfl rfl (eJ b _ rfl) rfl|hold b=>exact h.keep rfl rfl (eJ b _ rfl) rfl|pause c=>exact h.keep rfl rfl rfl (eJ c _ rfl)|close c b hh=>exact h.keep rfl rfl (eJ b _ rfl) (eJ c _ rfl)|bar c b hh=>exact h.keep rfl rfl (eJ b _ rfl) (eJ c _ rfl)|visit v=>
  refine h.keep v.p v.salt (tx λi=>?_) (by rw[v.trs]);rw[gg,gg]
  by_cases hi:i<M.las.length
  ·obtain⟨g,h1,_⟩:=v.las i _ (fy hi);rw[h1,fy hi];rfl
  ·rw[k_ (by have:=v.len;lia),k_ (by lia)]
end
structure Bn(P:Ol)(w:World)(K:Of)(a:gK)(H0 H:Hp)(ns:Os)(M:cA)(Z:ZS)(A:yx)(c:Nat)(ls:Om)(ts:List (Str×Nat)):Prop where
 z:cL P w K a H M Z c
 pl:nu K H M.p M.salt ls ts A
 pn:gJ ns M
 f1:¬jx M Z A.pl
 f2:¬jx M Z A.L
 f3:¬jx M Z A.T
 bs:∀b o,H0 b=some o->H b=some o/\¬jx M Z b/\b≠A.L/\b≠A.T
section
variable{P:Ol}{w:World}{K:Of}{a:gK}{f H i r:Hp}{M j:cA}{Z t:ZS}{ns:Os}{A:yx}{v:Addr}{c:Nat}{ls m:Om}{u q:List (Str×Nat)}{d:Dd}
theorem Bn.same(h:Bn P w K a f H ns M Z A c ls u)(s:am H i):Bn P w K a f i ns M Z A c ls u:={h with z:=h.z.same s,pl:=h.pl.same s,bs:=λb o e=>⟨s _ _ (h.bs b o e).1,(h.bs b o e).2⟩}
def Bn.dr(h:Bn P w K a f H ns M Z A c (fq M) (iG M))(sq:be K f v (ns.map V.int))(l:ns.length<=63):wz K H v ns M A c:=⟨am.seq (λb o e=>(h.bs b o e).1) sq,l,h.pl,h.z.ok,h.pn,λi g=>am.seq (λb o e=>g _ _ (h.bs b o e).1 (h.bs b o e).2.2.1) sq⟩
def Bn.chg(h:Bn P w K a f H ns M Z A c ls u)(n:Mp A H i)(l:nu K i M.p M.salt m q A):Bn P w K a f i ns M Z A c m q:=by
 obtain⟨o,s,kp,k⟩:=n;rcases s with rfl|rfl
 ·exact{h with z:={h.z with g:=h.z.g.out h.f2 kp k},pl:=l,bs:=λb o e=>⟨k _ _ (h.bs b o e).1 (h.bs b o e).2.2.1,(h.bs b o e).2⟩}
 ·exact{h with z:={h.z with g:=h.z.g.out h.f3 kp k},pl:=l,bs:=λb o e=>⟨k _ _ (h.bs b o e).1 (h.bs b o e).2.2.2,(h.bs b o e).2⟩}
def Bn.fin(h:Bn P w K a f H ns M Z A c (wV M d) (wE M d))(n:gN M d j)(st:gM H M Z r j t)(p:cL P w K a r j t (c+1))(s:F6 ns M d):Bn P w K a f r ns j t A (c+1) (fq j) (iG j):=by
 have kp:=h.z.g.stp st;obtain⟨x,y,B,C,D⟩:=n.nx h.pn s;obtain⟨E,k,l⟩:=h.pl.T;refine⟨p,?_,x,st.nf h.pl.pl h.f1,st.nf h.pl.L h.f2,st.nf k h.f3,λb o e=>?_⟩
 ·rw[y,B,C,D];exact⟨st.fr _ _ h.pl.pl h.f1,st.fr _ _ h.pl.L h.f2,⟨E,st.fr _ _ k h.f3,Ds.kp kp l⟩,h.pl.n1,h.pl.n2,h.pl.n3⟩
 ·obtain⟨b1,b2,b3⟩:=h.bs b o e;exact⟨st.fr _ _ b1 b2,st.nf b1 b2,b3⟩
def Bn.not(h:Bn P w K a f H ns M Z A c (wV M d) (wE M d))(hd:d.adds=false)(s:am H r):Bn P w K a f r ns M Z A (c+1) (fq M) (iG M):=by obtain⟨b,e⟩:=Dd.na (M:=M) hd;rw[b,e]at h;exact{h.same s with z:=(h.same s).z.mono (qr c)}
end
def AU(p:Nat)(sa:Int):cA:=⟨p,sa,[],[],[]⟩
def zA(h ln tn c dl dx:Addr):ZS:=⟨λr=>match r with|.hh=>h|.ln=>ln|.tn=>tn|.ci=>c|_=>dl,λ_=>dx,[],[],λ_=>[],λ_=>[],λ_=>[],λ_=>dx,λ_=>.non,λ_=>dx⟩
section
variable{P:Ol}{w:World}{K:Of}{a:gK}{f d H:Hp}{p:Nat}{sa:Int}{h ln tn c dl dx:Addr}
def HE(e:2<=p/\p<=997):oS (AU p sa) 0:=⟨e,.nil,.nil,λl g=>(nomatch g),λt b=>(nomatch b),λx i=>(nomatch i),j_ _,j_ _,j_ _,λt b=>(nomatch b)⟩
def Fq(hh:H h=some (.ins a.bU dx [("own_prime",.int p),("own_salt",.int sa),("layer_named",.ref ln),("trial_named",.ref tn),("came_into",.ref c),("deeds",.ref dl)]))(m:H ln=some (.dK []))(n:H tn=some (.dK []))(s:H c=some (.dK []))(u:H dl=some (.lst []))(n1:ln≠tn)(n2:ln≠c)(n3:tn≠c):bJ P w K a H (AU p sa) (zA h ln tn c dl dx):=by
 have at_:∀r o,cont P w a (AU p sa) (zA h ln tn c dl dx) r=some o->H ((zA h ln tn c dl dx).G r)=some o:=λr o e=>by cases r<;>first|(obtain rfl:=j1 e;assumption)|cases e
 refine⟨λr j o k e b q=>?_,at_,λi l g=>(nomatch g),λi t v=>(nomatch v),λi l g=>(nomatch g),.nil⟩;have x:=at_ r o e
 have y:=at_ j k b
 rw[q,y]at x;cases r<;>cases j<;>first|rfl|(cases e;done)|(cases b;done)|exact absurd q n1|exact absurd q n2|exact absurd q n3|exact absurd q.symm n1|exact absurd q.symm n2|exact absurd q.symm n3|(cases e;cases b;cases x;done)
def FD(g:jx (AU p sa) (zA h ln tn c dl dx) b):b=h\/b=ln\/b=tn\/b=c\/b=dl:=by
 rcases g with⟨r,j,e⟩|⟨i,hi,_⟩|⟨x,k,_⟩
 ·cases r
  ·exact .inl e
  ·exact .inr (.inl e)
  ·exact .inr (.inr (.inl e))
  ·exact .inr (.inr (.inr (.inl e)))
  ·exact .inr (.inr (.inr (.inr e)))
  all_goals cases j
 ·cases hi
 ·cases k
end
def L0(J:St->Hp->Prop)(h1:∀c H,J c H->u D c H)(h2:∀(N:St->Hp->Prop)(R:VK)(B C:St->Hp->Prop),(∀c H,J c H->N c H)->t ⟨N,R,B,C⟩ c H):Ag t u D c H:=h2 (u D) D.rt D.bk D.ct h1
def L1{t:TS}{N:St->Hp->Prop}{R:VK}{B C:St->Hp->Prop}{c:St}(h:∀(R:VK)(B C:St->Hp->Prop),t ⟨N,R,B,C⟩ c H):t ⟨N,R,B,C⟩ c H:=h R B C
def yp.pr(h:yp p)(i:Nat)(hi:2+(i:Int)<(p:Int)):(p:Int)%(2+(i:Int))≠0:=λz=>by have h1:=(by decide:∀p∈[2,3,5,7,11,13],∀i,i<13->2+i<p->p%(2+i)≠0) p h i (by have:=h.le;omega) (by omega);have e:(((p%(2+i):Nat)):Int)=(p:Int)%((2+i:Nat):Int):=Int.natCast_emod _ _;rw[show(((2+i:Nat)):Int)=2+(i:Int)by lia,z]at e;lia
def Kw(M:cA):Prop:=(∀l∈M.las,∀x∈l.ins,x.1≠"neverhere")/\∀x∈M.came,x.1≠"neverhere"
theorem Kw.set{M:cA}{i:Nat}{l c:dS}{d:List eP}(h:Kw M)(e:M.las[i]?=some l)(f:∀x∈c.ins,x∈l.ins):Kw {M with las:=M.las.set i c,trs:=d}:=⟨λy g x b=>(C1 g).elim (λz=>h.1 y z x b) (λz=>by subst z;exact h.1 l (f_ e) x (f x b)),h.2⟩
def gN.nv{ns:Os}{M g:cA}{d:Dd}(h:Kw M)(n:gN M d g)(j:F6 ns M d):Kw g:=by
 cases n with|layer=>
  refine⟨λl c x b=>?_,h.2⟩;rcases List.mem_append.mp c with z|z
  ·exact h.1 l z x b
  ·rw[List.mem_singleton.mp z]at b;cases b|trial=>exact h|share c hh hn=>exact h.set c λx b=>(pa.mp b).1|deal c hh hn=>exact h.set c λx b=>(pa.mp b).1|hold c=>exact h.set c λx b=>b|pause m=>exact h|close m c hh=>exact h.set c λx b=>(pa.mp b).1|bar m c hh=>exact h.set c λx b=>(pa.mp b).1|visit v=>
  refine⟨λl c x b=>?_,λx b=>?_⟩
  ·obtain⟨i,hi⟩:=h_.mp c;have f:i<M.las.length:=by rw[<-v.len];exact(d_.mp hi).1
   obtain⟨o,e,q⟩:=v.las i _ (fy f);rw[hi]at e;rw[j1 e]at b;have k:=h.1 _ (B_ f);rcases q with rfl|⟨_,t,y,rfl⟩
   ·exact k x b
   ·rcases List.mem_append.mp b with z|z
    ·exact k x z
    ·rw[List.mem_singleton.mp z];exact j
  ·rcases v.ck x b with e|⟨y,p,e⟩
   ·rw[e];exact j
   ·rw[<-e];exact h.2 y p
def gN.las0{ns:Os}{M f:cA}{d:Dd}{c:Nat}(h:gJ ns M)(n:gN M d f)(g:F6 ns M d)(ok:oS f c)(h0:0<M.las.length\/d.adds=true):0<f.las.length:=by
 obtain⟨-,-,-,e,-⟩:=n.nx h g;have e:f.las.length=(wV M d).length:=by rw[<-e];exact(b_ _).symm
 have i:(fq M).length=M.las.length:=b_ _;cases n with|layer=>rw[e];show 0<(fq M++[_]).length;rw[gV];exact p_ _|@trial x=>have k:=(ok.tr x (l_ _ il)).hm;obtain⟨l,b,_⟩:=ir.mp k;exact List.length_pos_of_mem b|_=>
  rcases h0 with z|z
  ·rw[e];show 0<(fq M).length;omega
  ·cases z
theorem d6.none{dl:Addr}{g:Str}{cv:List (cp×V)}{cm:List (Str×List (Str×Str))}(h:d6 K H dl cv cm)(n:∀x∈cm,x.1≠g):bB cv (.inr g)=none:=by induction h with|nil=>rfl|@cons _ y _ _ h _ b=>rw[bM (λz=>n y il (by rw[h.1]at z;exact pv z))];exact b λx c=>n x (hY _ c)
def KA(ds:List V):Prop:=∃b:List Addr,ds=b.map V.ref
inductive Ju(P:Ol)(w:World)(K:Of)(a:gK)(vs:List V)(H:Hp)(Q:VK)(_E:XK):Prop|mk(M:cA)(Z:ZS)(c:Nat)(_:vs=[.ref (Z.G .hh)])(_:cL P w K a H M Z c)(_:∀(r:Addr)H',am H H'->H' r=some (.lst Z.ds)->Q (.ref r) H')
inductive Jq(P:Ol)(w:World)(K:Of)(a:gK)(vs:List V)(H:Hp)(Q:VK)(_E:XK):Prop|mk(M:cA)(Z:ZS)(c:Nat)(_:vs=[.ref (Z.G .hh),.str "neverhere"])(_:cL P w K a H M Z c)(_:Kw M)(_:∀(r:Addr)H',am H H'->H' r=some (.lst [])->Q (.ref r) H')
inductive L8(P:Ol)(w:World)(K:Of)(a:gK)(H0:Hp)(ns:Os)(A:yx)(c:Nat)(H:Hp)(M:cA)(Z:ZS):Prop|mk(L:Bn P w K a H0 H ns M Z A c (fq M) (iG M))(n:Kw M)(r:KA Z.ds):L8 P w K a H0 ns A c H M Z
inductive DZ(P:Ol)(w:World)(K:Of)(a:gK)(vs:List V)(H:Hp)(Q:VK)(_E:XK):Prop|mk(sc:Addr)(ns:Os)(m:Int)(_:vs=[.ref sc,.int m])(_:be K H sc (ns.map V.int))(_:ns.length<=63)(_:(1<=m/\m<=60))(_:∀(r:Addr)(M:cA)(Z:ZS)(A:yx)(c:Nat)H',L8 P w K a H ns A c H' M Z->0<M.las.length->bj K H' r [.ref (Z.G .hh),.ref A.pl]->Q (.ref r) H')
inductive JL(P:Ol)(w:World)(K:Of)(a:gK)(H0:Hp)(ns:Os)(A:yx)(sc h:Addr)(m:Int)(i:Nat)(σ:St)(H':Hp):Prop|mk(M:cA)(Z:ZS)(v4 v5:Option V)(L:L8 P w K a H0 ns A i H' M Z)(e:Z.G .hh=h)(t:i=0->M.trs.length=0)(l:0<i->0<M.las.length)(s:σ=[some (.ref sc),some (.int m),some (.ref A.pl),some (.ref h),v4,v5]):JL P w K a H0 ns A sc h m i σ H'
inductive JT(P:Ol)(w:World)(K:Of)(a:gK)(H0:Hp)(ns:Os)(A:yx)(sc h:Addr)(m:Int)(i:Nat)(σ:St)(H':Hp):Prop|mk(M:cA)(Z:ZS)(b:Bool)(L:L8 P w K a H0 ns A (i+1) H' M Z)(e:Z.G .hh=h)(t:i=0->b=false)(l:0<M.las.length)(s:σ=[some (.ref sc),some (.int m),some (.ref A.pl),some (.ref h),some (.int (i:Nat)),some (.bl b)]):JT P w K a H0 ns A sc h m i σ H'
section
def nZ(T:Txt K mg a):aT P w K mg base dq 1 a.eC.x a.eC.d ["self"] (Ju P w K a):=by
 refine T.eC.ok vO λf A outer s H i Q E b h=>?_
 ·obtain⟨M,Z,c,rfl,e,q⟩:=h;refine⟨_,(ai (aF (cV (oQ K rfl) (by rfl) T.xS L2.m7 (ac (aM K rfl (Y 0)) O)))),?_⟩;exact gL e.g.house T.ay T.jg rfl rfl ⟨Z.G .dl,U rfl ⟨.inl (be.of e.g.dees),λr b=>q r _ (aj (am.refl _) b) af⟩⟩
def wc(T:Txt K mg a):aT P w K mg base dq 4 a.cS.x a.cS.d ["self","guest"] (Jq P w K a):=by
 refine T.cS.ok nG λp A outer s H u Q E e h=>?_
 ·obtain⟨M,Z,c,rfl,t,hn,q⟩:=h;refine⟨_,(ah (aO (pc T.a0 (gD T) e (ac (Y 1) O))) (ai (aF (cV (oQ K rfl) (by rfl) T.xS L2.m7 (ac (uP (cN e) (aM K rfl (Y 0)) (Y 1) (bf O) ⟨rfl,rfl,rfl,rfl⟩) O))))),?_⟩
  refine U rfl ⟨"neverhere",rfl,⟨by decide,by decide,by decide+kernel⟩,λi m=>?_⟩;have b:=t.same m;refine gL b.g.house T.ay T.c5 rfl rfl ⟨Z.G .ci,rfl,.inl ⟨_,.inl b.g.cams⟩,U rfl ⟨ls rfl,λf j=>?_⟩⟩;have l:=aj (o:=.lst []) (am.refl i) j;have n:aD i f (.lst []) f=some (.lst []):=af;generalize aD i f (.lst [])=v at l n⊢;refine⟨bB Z.cv (.inr "neverhere"),eE.k (k:=.inr "neverhere") (l _ _ b.g.cams),?_⟩;rw[b.g.came.none hn.2];exact⟨f,[],rfl,.inl (be.of n),λr e=>q r _ (aj (m.trans l) e) af⟩
def CI(T:Txt K mg a)(hw:w.params=a.pm):aT P w K mg base dq 15 a.rW.x a.rW.d ["_law_script","_law_many"] (DZ P w K a):=by
 refine T.rW.ok i4 λb7 A outer s H vs Q E I h=>?_
 ·obtain⟨sc,ns,m,rfl,hS,hl,hm,q⟩:=h;refine⟨_,(ah (bu 2 i4.nd (pc T.xo (EJ T) I (ac (Y 0) O))) (ah (bu 3 i4.nd (tT T.EY ((tF (P:=P) (w:=w) T).mono (by decide)) I rfl T.Hu T.eD.b .nil bE (ac (gw K (Y 2) ae) (ac (gw K (Y 2) ae) O)))) (ah (fE nk rfl (eK rfl T.fV (ac (Y 1) O)) (vB 4 i4.nd) (ah (bu 5 i4.nd dZ) (ah (GZ rfl rfl T.w6 rfl T.u9 T.w9 rfl T.vb (λE b0 σ Xe hx=>(x9 (Hm (Y 3) T.ay T.jp.m ((zh (P:=P) (w:=w) T hw).mono (by decide)) I T.jp.b .nil hx (ac (pc T.xq (EK T) I (ac (Y 0) (ac (Y 2) (ac (Y 4) O)))) O)))) (λea=>(ai (bu 5 i4.nd dZ)))) (ai (aP (PW.pt (kZ (aS K rfl (Y 5) (λ_=>rfl)) (iP (aH aV (Y 4) ae (aG _))))) (ai (aF fW)) aE))))) (ai (aF (bn (ac (Y 3) (ac (Y 2) O)))))))),?_⟩
  refine U rfl ⟨sc,ns,rfl,hS,hl,λA p sa H1 s1 b8 a8 ba hP pr bb=>av ?_⟩;have hp:=pr.le;refine U rfl (rX (be.of hP.pl) (aq (k:=0) rfl) (U rfl (rX (be.of hP.pl) (aq (k:=1) rfl) (λh dx hh bc b9=>?_))));have f2:am H1 (aD (aD H1 dx (.own h)) h (.ins a.bU dx [])):=λb o e=>by rw[ao (aI e hh),ao (aI e bc)];exact e
  have J:aD (aD H1 dx (.own h)) h (.ins a.bU dx []) h=some (.ins a.bU dx []):=af;generalize aD (aD H1 dx (.own h)) h (.ins a.bU dx [])=H2 at f2 J⊢;refine⟨h,dx,(p:Int),sa,rfl,J,⟨by lia,by lia⟩,pr.pr,bb,λln tn ci dl H3 ag al an ap bi bl bt f3 as v y D F=>⟨rfl,av ?_⟩⟩;have s3:am H1 H3:=λb o e=>f3 b o (f2 b o e) (aI e hh);have ax:bJ P w K a H3 (AU p sa) (zA h ln tn ci dl dx):=Fq as v y D F bi bl bt;obtain⟨ut,bz,_⟩:=hP.T;have f:∀b o,H1 b=some o->¬jx (AU p sa) (zA h ln tn ci dl dx) b:=λb o e z=>by
   rcases FD z with rfl|rfl|rfl|rfl|rfl
   ·exact kD e hh
   ·exact kD e (f2.free ag)
   ·exact kD e (f2.free al)
   ·exact kD e (f2.free an)
   ·exact kD e (f2.free ap)
  have N:L8 P w K a H ns A 0 H3 (AU p sa) (zA h ln tn ci dl dx):=⟨⟨⟨ax,HE ⟨by omega,by omega⟩,λi=>j_ _,λi=>j_ _,j_ _⟩,hP.same s3,⟨λi l hl=>(nomatch hl),λj t ht=>(nomatch ht),j_ _,pr⟩,f _ _ hP.pl,f _ _ hP.L,f _ _ bz,λb o e=>⟨s3 _ _ (s1 _ _ e),f _ _ (s1 _ _ e),aI e a8,aI e ba⟩⟩,⟨λl z=>(nomatch z),λx z=>(nomatch z)⟩,[],rfl⟩;generalize a2:zA h ln tn ci dl dx=Z0 at N;have a3:Z0.G .hh=h:=by rw[<-a2];rfl
  clear a2 ax as v y D F ag al an ap f3 f2 J f;refine U rfl ⟨m,rfl,by omega,by omega,?_⟩;refine i6 (lo:=0) (n:=m.toNat) (JL P w K a H ns A sc h m) ⟨_,Z0,_,_,N,a3,λ_=>rfl,λz=>absurd z (ot 0),rfl⟩ ?_ ?_
  ·clear N a3;rintro i σ H4 hi⟨M,Z,v4,v5,⟨hL,hN,rs,S⟩,rfl,u,W,rfl⟩;rw[show(0:Int)+(i:Int)=((i:Nat):Int)by lia];refine av (L1 λR B C=>?_);refine av (AA ?_);refine L0 (JT P w K a H ns A sc (Z.G .hh) m i) ?A1 (λNn _ _ _ hJ=>?B1)
   case B1=>
    refine jG hL.z.g.house rfl rfl (U rfl (U rfl (U rfl ⟨sc,ns,M,A,i,(i:Int),rfl,hL.dr hS hl,⟨by omega,by omega⟩,λdv d xs H5 ch hT hD bT X aa=>?_⟩)));have hB:=hL.chg ch bT;have ad:d.adds=false->0<M.las.length:=λc=>W (Nat.pos_of_ne_zero λz=>by rw[aa (u z)]at c;cases c);refine⟨M,Z,i,dv,d,xs,rfl,hB.z,by omega,hT,hD,λcc r us M' Z' H6 nx st a5 I cP bX=>?_,λc H6 s6=>⟨.inl rfl,?_⟩,λc H6 s6=>⟨.inr rfl,?_⟩⟩
    ·exact hJ _ _ ⟨M',Z',false,⟨hB.fin nx st a5 X,nx.nv hN X,rs++[dv],by rw[bX,S,g6];rfl⟩,st.hh,λ_=>rfl,nx.las0 hL.pn X a5.ok (by cases hd:d.adds with|true=>exact .inr rfl|false=>exact .inl (ad hd)),rfl⟩
    ·exact av (hJ _ _ ⟨M,Z,true,⟨hB.not c s6,hN,rs,S⟩,rfl,λz=>(by rw[aa (u z)]at c;cases c),ad c,rfl⟩)
    ·exact av (hJ _ _ ⟨M,Z,true,⟨hB.not c s6,hN,rs,S⟩,rfl,λz=>(by rw[aa (u z)]at c;cases c),ad c,rfl⟩)
   case A1=>rintro σ H5⟨M',Z',b,a6,e',hb,a7,rfl⟩;rw[<-e'];cases b with|false=>exact⟨_,rfl,false,rfl,bN ⟨M',Z',_,_,a6,rfl,λz=>(nomatch z),λ_=>a7,rfl⟩⟩|true=>refine U rfl ⟨true,rfl,bp (U rfl ⟨rfl,U rfl (iC (λz=>?_) (λ_=>⟨M',Z',_,_,a6,rfl,λz=>(nomatch z),λ_=>a7,rfl⟩))⟩)⟩;cases hb (by have:=V.int.inj z;omega)
  ·rintro σ H4⟨M,Z,v4,v5,⟨hL,hN,hR⟩,rfl,u,W,rfl⟩;refine U rfl (U rfl ⟨ls rfl,λr I=>?_⟩);have s5:=aj (o:=.tup [.ref (Z.G .hh),.ref A.pl]) (am.refl H4) I;exact q r M Z A _ _ ⟨hL.same s5,hN,hR⟩ (W (by omega)) (bj.of af)
end
def hu0{A:Around}{k:Nat}(c:eQ k A):A.units<cLine:=by have:=Fp c;omega
inductive JQ(H0:Hp)(sc r h pl b:Addr)(i:Nat)(σ:St)(H':Hp):Prop|mk(v5 v6 v7 v8:Option V)(s:am H0 H')(e:σ=[some (.ref sc),some (.ref r),some (.ref h),some (.ref pl),some (.ref b),v5,v6,v7,v8]):JQ H0 sc r h pl b i σ H'
inductive JE(H0:Hp)(a:gK)(sc r h pl b:Addr)(i:Nat)(N:Int)(y:Nat)(σ:St)(H':Hp):Prop|mk(ea:Addr)(s:am H0 H')(x:H' ea=some (Kg ea (.ref (vg a y))))(e:σ=[some (.ref sc),some (.ref r),some (.ref h),some (.ref pl),some (.ref b),some (.int (i:Nat)),some (.int N),some (.ref ea),none]):JE H0 a sc r h pl b i N y σ H'
section
def IP(T:Txt K mg a){y:Nat}(h:y<14):sM K (vg a y) a.fc:=by
 obtain⟨hc,-,-⟩:=yc y (oi.mpr h);unfold vg;rcases hc with e|e|e|e<;>rw[e]
 ·exact T.lK
 ·exact T.lR
 ·exact T.kQ
 ·exact T.lL
def JS(T:Txt K mg a)(hw:w.params=a.pm):aT P w K mg base dq 17 a.law.x a.law.d ["_law_script"] (DW K):=by
 refine T.law.ok jP λa5 A outer s H vs Q E p h=>?_
 ·obtain⟨I,ns,rfl,hS,hl,q⟩:=h;refine⟨_,(ah (bu 1 jP.nd (pc T.rW (CI T hw) p (ac (Y 0) (ac (az bQ ae (au (m4 rfl) (by rfl) T.BL L2.qF (ac (au (aJ K rfl) (by rfl) T.bx L2.aL (ac (Y 0) O)) (ac ae O)))) O)))) (ah (aP (aH xH (Y 1) fW (aG _)) (ai (aF dZ)) aE) (ah (bu 2 jP.nd (dB K (Y 1) ae)) (ah (bu 3 jP.nd (dB K (Y 1) ae)) (ah (bu 4 jP.nd (pU (Y 2) T.ay T.eC.m ((nZ (P:=P) (w:=w) T).mono (by decide)) p T.eC.b .nil bE)) (ah (fE nk rfl (eK rfl T.fV (ac (au (m4 rfl) (by rfl) T.BL L2.qF (ac (az bQ (au (aJ K rfl) (by rfl) T.bx L2.aL (ac (Y 0) O)) ae) (ac ae O))) O)) (vB 5 jP.nd) (ah (bu 6 jP.nd (pc T.fg (dA T) p (ac (Y 0) (ac (Y 5) (ac ae O))))) (ah (bu 7 jP.nd fW) (ah (G0 8 K rfl rfl rfl T.wg rfl T.xW jP.nd (λE a3 σ Xe hx=>(JM (x9 (B2 ((v0 (P:=P) (w:=w) T).mono (by decide)) p rfl T.ff.m T.ff.f.kp T.ff.b .nil hx (ac (Y 2) (ac (Y 3) (ac (az aY (Y 6) ae) (ac (az bw (Y 6) ae) (ac (az aY (pc T.iF (mm T) p (ac (Y 0) (ac (Y 5) O))) (az ml ae ae)) O))))))) (x9 (B2 ((vZ (P:=P) (w:=w) T).mono (by decide)) p rfl T.fe.m T.fe.f.kp T.fe.b .nil hx (ac (Y 2) (ac (Y 3) (ac (az aY (Y 6) ae) (ac (az bw (Y 6) ae) O)))))))) (λD=>(ai (bu 7 jP.nd (Y 8))))) (ai (aP (PW.pt (eS (aH xH (Y 7) fW (aG _)) (dy (bO (aS K rfl (pc T.Dr (Hf T) p (ac (Y 7) (ac (az aY (Y 6) ae) O))) (λ_=>rfl)))))) (ai (aF dZ)) aE)))))) (ai (aF (bP (bv (Hc K rfl (hu0 p)) (pU (Y 2) T.ay T.eC.m ((nZ (P:=P) (w:=w) T).mono (by decide)) p T.eC.b .nil bE) (Y 4) (aG _)) (bP (bv (tU K rfl (Fp p)) (a9 (Y 2) T.ay T.cz.m ((u0 (P:=P) (w:=w) T).mono (by decide)) p T.cz.b .nil bE (ac aB O)) (bf O) (aG _)) (cQ (bv (tU K rfl (Fp p)) (a9 (Y 2) T.ay T.cS.m ((wc (P:=P) (w:=w) T).mono (by decide)) p T.cS.b .nil bE (ac aB O)) (bf O) (aG _))))))))))))),?_⟩
  have a6:=qP;obtain⟨x,ex,x0,al⟩:∃x:Int,(if(37:Int)<(ns.length:Int)then 37 else(ns.length:Int))=x/\0<=x/\x<=37:=⟨_,rfl,by split<;>omega,by split<;>omega⟩;refine U rfl (U rfl ⟨_,ns.length,rfl,.inl ⟨_,hS,by simp⟩,(ns.length:Int),37,rfl,3,x,rfl,by rw[ex],I,ns,3+x,rfl,hS,hl,⟨by omega,by omega⟩,λr M Z A c H1 hB an hT=>av (AA ?_)⟩);obtain⟨hL,hN,rs,ap⟩:=hB;refine U rfl ⟨rfl,U rfl (iC (λz=>(nomatch z)) (λ_=>AA ?_))⟩;refine U rfl (rX hT (aq (k:=0) rfl) (av ?_));refine U rfl (rX hT (aq (k:=1) rfl) (av ?_));refine jG hL.z.g.house rfl rfl ⟨M,Z,c,rfl,hL.z,λb H2 s2 hb=>av ?_⟩;have t:=hL.same s2;clear hT s2 hL ex x0 al x;have J:be K H2 I (ns.map V.int):=am.seq (λb o e=>(t.bs b o e).1) hS;obtain⟨x,ex,x0,a7⟩:∃x:Int,(if(30:Int)<(ns.length:Int)+2 then 30 else(ns.length:Int)+2)=x/\0<=x/\x<=30:=⟨_,rfl,by split<;>omega,by split<;>omega⟩;refine U rfl ⟨_,ns.length,rfl,.inl ⟨_,J,by simp⟩,_,U rfl ⟨rfl,(ns.length:Int)+2,30,rfl,x,by rw[ex],by omega,by omega,?_⟩⟩;refine i6 (lo:=0) (n:=x.toNat) (JQ H2 I r (Z.G .hh) A.pl b) ⟨_,_,_,_,am.refl _,rfl⟩ ?_ ?_
  ·rintro i σ H3 hi⟨v5,v6,v7,v8,F,rfl⟩;rw[show(0:Int)+(i:Int)=((i:Nat):Int)by lia];refine av (L1 λR B C=>?_);refine U rfl (U rfl ⟨I,ns,(i:Int),60,rfl,F.seq J,hl,⟨by omega,by omega⟩,⟨by decide,by decide⟩,av (AA ?_)⟩);have n0:=(BN ns i 60).1;generalize c6 ns i 60=N at n0⊢;obtain⟨y,hy⟩:∃y:Nat,N%14=y:=⟨(N%14).toNat,by omega⟩;have j:y<14:=by omega
   have l:=t.z.same F;have W:=t.pl.same F;refine av (AA ?_);refine L0 (JE H2 a I r (Z.G .hh) A.pl b i N y) ?A1 (λNn R' B' C' hJ=>?B1)
   case B1=>
    have L:∀S,am H3 S->∃C,Value.ref (vg a y)=.ref C/\sM K C a.fc/\∀D,S D=none->yE (DC 8) (kK 7) ((jq.mk Nn R' B' C').off 8) [some (.ref I),some (.ref r),some (.ref (Z.G .hh)),some (.ref A.pl),some (.ref b),some (.int (i:Nat)),some (.int N),some .non,some (.ref D)] (aD S D (Kg D (.ref C))):=λS v=>(U rfl ⟨IP T j,λD as=>(U rfl (av (hJ _ _ ⟨D,aj (F.trans v) as,af,rfl⟩)))⟩);have nn:0<=N/14:=Int.ediv_nonneg n0 (by decide);refine U rfl (U rfl (U rfl (r2 ⟨(show(0:Int)<14 by decide),U rfl (r2 ⟨⟨by decide,by decide⟩,U rfl (U rfl ⟨I,ns,(i:Int),rfl,F.seq J,hl,rfl,rfl,r2 ⟨(show(0:Int)<ce by omega),?_⟩⟩)⟩)⟩)));refine⟨ns,M,Z,A,c,y,N/14,sJ ns i%ce,(by show[V.ref (Z.G .hh),V.ref A.pl,V.int (N%14),V.int (N/14),V.int (sJ ns i%ce)]=_;rw[hy]),l,W,t.pn,an,nn,yl _ (by omega),j,λy8 S v=>⟨rfl,?_⟩,λ_=>L⟩;refine U rfl (U rfl (U rfl (r2 ⟨(show(0:Int)<14 by decide),U rfl (r2 ⟨⟨by decide,by decide⟩,?_⟩)⟩)));have hd:vg a y=a.bT:=by unfold vg;rw[(yc y (oi.mpr j)).2.2 y8];rfl
    rw[hd]at L;exact⟨ns,M,Z,A,c,y,N/14,(by show[V.ref (Z.G .hh),V.ref A.pl,V.int (N%14),V.int (N/14)]=_;rw[hy]),l.same v,W.same v,t.pn,nn,⟨y8,j⟩,λH5 X=>L H5 (v.trans X)⟩
   case A1=>rintro σ S⟨D,v,he,rfl⟩;refine U rfl ⟨rfl,U rfl (iC (λz=>(nomatch z)) (λ_=>?_))⟩;refine U rfl (U rfl (r2 ⟨(show(0:Int)<14 by decide),D,y,(by show[V.ref D,V.int (N%14)]=_;rw[hy]),he,j,λH5 X=>(U rfl (bN ⟨_,_,_,_,v.trans X,rfl⟩))⟩))
  ·rintro σ H3⟨v5,v6,v7,v8,F,rfl⟩;have l:=t.z.same F;refine jG l.g.house rfl rfl ⟨M,Z,c,rfl,l,λb2 S v aa=>?_⟩;rw[ap]at hb aa;refine U rfl ⟨b2,b,rs,rfl,rfl,be.of aa,be.of (v _ _ (F _ _ hb)),true,rfl,bp ?_⟩;have ad:=l.same v;refine jG ad.g.house rfl rfl ⟨M,Z,c,"neverhere",rfl,ad,⟨by decide,by decide,by decide+kernel⟩,hN.1,λu H5 X hu=>?_⟩;refine⟨ls rfl,λe1 ag=>⟨_,_,.lst (be.of (aK hu ag)) .nil,.lst (be.of af) .nil,rfl,rfl,true,by rfl,bp ?_⟩⟩;have s6:=aj (o:=.lst []) (v.trans X) ag;refine jG ((l.same s6).g.house) rfl rfl ⟨M,Z,c,rfl,l.same s6,hN,λu2 H7 s7 ax=>?_⟩;exact⟨ls rfl,λe2 a2=>⟨_,_,.lst (be.of (aK ax a2)) .nil,.lst (be.of af) .nil,rfl,rfl,q _⟩⟩
end
end My
structure PySem.W.Fast:Prop where(tw13354900373950869934 tw11076196112379447465 tw16200687194676563401 tw516442662902433046 tw16752005508170205777 tw14229919927137522523 tw4377366381051080327 tw6532803389834365956 tw11034163395083664918 tw8594908363300046290 tw3000456118870226869 tw17770216284145800562 tw4704008822523645642 tw5464423053702642318 tw8536737687766666073 tw13020416915745438750 tw6021138790563041809 tw8773074566208301040 tw17799395838307616530 tw13385306618359970664 tw15003053312986586281 tw3681771871684847547 tw12179815413795146286 tw9540955721577428298 tw8624621385296920988 tw15753881799219503938 tw13372117604464760633 tw14430376607100874453 tw14473226864307563265 tw13050756572009340206 tw11054680139010676508 tw5008161080100419107 tw3609107217479694498 tw6655504136773667072 tw2964481106177924018 tw165923151509806675 tw12129124509656490367 tw770838996715593951 tw12298992141050800450 tw17132382306265627765 tw1349708279445258577 tw10215620198808542511 tw8467041381421824532 tw15726221019090738553 tw2667112332025070396 tw4889174765859497290 tw6970879590259992347 tw9520079556617414325 tw2437591636859078603 tw9736288615218208109 tw1291224052042627381 tw1574319460308033432 tw8773410862246658961 tw4246138202597644300 tw1831608078505073337 tw6658717201897606857 tw295376408688575976 tw5691342984502675872 tw16194091916210699630 tw14415177342610356370 tw11481445041673308223 tw4357260837012319802 tw6561097199165558477 tw9417817341553240636 tw14114872381440416362 tw688739007286763281 tw2498844669606390292 tw9650684332242401475 tw5092473837701812651 tw13870303432042446138 tw1041864159781439938 tw17483021878351318837 tw4927562296265875476 tw6452244217279862443 tw13844401853133652062 tw4855955102953758241 tw1686977535864551128 tw4989550917455168073 tw9480539039552537594 tw10853464540835908733 tw13957409060422035966 tw3032417239038014061 tw1491776971715766741 tw7685813517528474407 tw12994363840861931326 tw13927675103228338983 tw9420648724398420850 tw5354081685492007983 tw4411715766553227236 tw18375241221633549877 tw16884771618030689837 tw5450808530634000539 tw8615806959869600896 tw2368715058747809272 tw2058071620470306127 tw1691976339052866799 tw12824879171794112431 tw9424360430142604597 tw6674407250420885062 tw9282111235611567101 tw1668893174553388746 tw163503185907147907 tw11556439831203296421 tw309976855637451104 tw16223193963815595520 tw15577339543857529178 tw4127558845221951210 tw5509959836706063186 tw1391550177673101130 tw15854912505572895372 tw8918035000362085297 tw3821547967384037551 tw4935715780524210043 tw2855111895184303501 tw17493842296787552941 tw5031177211422078116 tw10422053588938083289 tw11589167448598813147 tw903574842909572612 tw4281350379822355405 tw12688307949786552561 tw4709832431765196864 tw12121228095149655785 tw12232930641794109357 tw4723174109005352707 tw13587244103459152773 tw6458768794505384882 tw4075382019443460650 tw6290144969776038838 tw16851825124272400585 tw11125863656796339734 tw8296164432010823851 tw2085666243663508812 tw8630822239962439485 tw1857239041539546909 tw18327296868632996331 tw17694487213504754747 tw1614231219594107349 tw5614891455241345972 tw16084582432819172086 tw11927262465867366682 tw9204478211242399981 tw7622564808902641327 tw10999822738563085269 tw2438092327585890540 tw10533018004453094875 tw3196584892979168997 tw5624488574403454693 tw16695870455284065094 tw3530236219155688457 tw11838868044482068314 tw5790777259182405980 tw16008414297664048063 tw1173991692346518074 tw14707754225356043576 tw17905665172158943783 tw11120551139858600042 tw2746163078811860492 tw16970495356121642963 tw15341683962123627162 tw13300452552922832300 tw15216322254464255804 tw18358482243231567351 tw3828803305768593773 tw2500425811502074717 tw1116951652030710436 tw14841848980185069658 tw3902641777452077013 tw10972651543560421750 tw9150463784262767360 tw15078725494539096352 tw15060009794595311547 tw2231960284261398838 tw4655667918410613948 tw5723680038418867891 tw9624067911223719975 tw15337792785788887929 tw8601469032591910827 tw182168970939336058 tw3628827350627687954 tw11665586119492600414 tw15042008843790840148 tw8184160121824420224 tw10638446949410555660 tw14202514853267235433 tw13822831050946032674 tw17184933230270694283 tw14816579595931296426 tw7741065814691523388 tw5111263769651306174 tw7493007717821634195 tw12716777749035117175 tw2707348536943528429 tw308900518665991151 tw3996795938299163269 tw775063698269668594 tw8414538187162116156 tw2378403323982823941 tw15560997605222791836 tw10976541340469340809 tw6840231675408028190 tw15053163577668246229 tw5112589588339388045 tw2850558905736516952 tw12259535991878138542 tw5821347846841618873 tw2432272775284464768 tw2598581529611932154 tw7451445656544982671 tw15097044585929285021 tw2444558517822103673 tw10025933200437794915 tw8561697925096766900 tw14868283939419310738 tw6745568195525964586 tw12137206512833315331 tw9777462143022219153 tw18095123459432101707 tw6928315691839522469 tw7083303322446943433 tw13591938533250971307 tw15260988064116552087 tw14525062608129823622 tw14414374064310767770 tw16571952005775544591 tw14024815225107922548 tw14805547967553971779 tw8666369004423659890 tw4993973172624644218 tw248812344260571363 tw17158713354511402405 tw1306653757348282746 tw12283903428262868062 tw12015777121541932662 tw10215366504039317954 tw5620438039535064251 tw7476597065839553719 tw12259955238740493874 tw7311807429679931515 tw3421865314211280761 tw4429284528284719838 tw8125759580266378811 tw2451073362968465020 tw15141467640894403304 tw13861980441614964773 tw1476203991961545406 tw4639314989681634452 tw10568510890190314418 tw14755930278058100869 tw10614724577223987825 tw5116215948382512731 tw2718199250607652512 tw6836586099112177891 tw5721453688783872222 tw3840878224091919913 tw11515657072645091050 tw328817250737465579 tw802926257484135902 tw7445910689742676495 tw3255348623559648682 tw15409665613755560570 tw6558798686979251538 tw7359115898221153386 tw7895077350436673088 tw15514085211784388217 tw15965242610358562443 tw6242601035859674008 tw11690229765362990575 tw3836556911930499600 tw5939246241940703895 tw156689143738831073 tw10089021103620178199 tw15283974351813384994 tw13877855719855440914 tw14353763503299315575 tw12199426051594914180 tw5715759280683737622 tw14798342171746272041 tw14096984761961507468 tw4417196933497381335 tw9563192100389094285 tw2416350218997776988 tw3276659001769656429 tw6592647494005605318 tw14732193251316139066 tw18416686393745350399 tw11945493749860892169 tw10437341749465675173 tw10513799674776984484 tw4462436413592484029 tw6232836958679457397 tw16477070943371454228 tw13136369337067466148 tw11707465141209742559 tw17617479549681594996 tw13071717271152296574 tw4501354367595577337 tw9270023135482337026 tw12227897434281741844 tw7471675200012957040 tw12312297917573797531 tw10650722076715160728 tw6478235254537502703 tw18445477171355728077 tw13442867193546529685 tw4755800890512911153 tw3548948006699988564 tw14310796823791005001 tw6262618612604447316 tw16054605253220638208 tw2949130230433360447 tw1610938355714966934 tw7325343129570785061 tw2725507513353086607 tw14744715770073491888 tw4364781039494018652 tw716235984156563657 tw12924866538718168385 tw207657445344812732 tw494823745228440828 tw1666627643063895008 tw1042297897924639433 tw4767470032884003029 tw15857222642827935167 tw5019676584147032782 tw2823091318049330918 tw15166479258978520974 tw9744257276140387639 tw7804158565026328711 tw4805349993710246033 tw11120905779306247916 tw13727892541838434905 tw9632622059735971850 tw3602845495487839301 tw8220871292777744278 tw808259134227439210 tw8474239081920528670 tw10148508217134810720 tw11862884140707031092 tw8449193832146247253 tw15854813584027766239 tw15473282989269412371 tw16609130456009827490 tw366697050928883980 tw7550132103427293576 tw4455470359196399379 tw1455509813162449533 tw702154392312115097 tw2508877103282546426 tw2263283634699513116 tw6209829094784047091 tw1295777834313832299 tw7487641252057549629 tw8832257919760405434 tw13843108350337004995 tw10860804256259035819 tw4900037114168164014 tw4585904061986959988 tw17084043098489034090 tw11897327347976037622 tw9970636007717699500 tw16519735465255056847 tw16955925797850963086 tw609773781342741498 tw17807176121987431405 tw12729018090365886367 tw18071146517887184616 tw15675430368300852905 tw14188110712685293545 tw9827449813247667550 tw6884774139561463416 tw231704995676424292 tw12357379086185524362 tw5457581859573825511 tw3072103588058265417 tw2089131569300318122 tw14154681435166802704 tw2826707274512412676 tw4775895265092361344 tw16089938699716301636 tw165568763775940980 tw8668249942385000932 tw5904765433274192189 tw12640728539688947321 tw18414935768105630644 tw14791154354903103597 tw17463385553596864327 tw14413872431414310442 tw6687500268666851428 tw18170967610633405110 tw18236097616073038740 tw5299363018780874763 tw4569184419682286868 tw15066884525908257930 tw14887404857075464128 tw1556424942586120784 tw4917145570582198152 tw5189835680705305470 tw826983442697863651 tw12615053863548205663 tw14528857986293073975 tw2108980815120563916 tw4238733639770468851 tw13869174804940474424 tw17548251225147682336 tw7583453475902684207 tw8690311300731707114 tw14666262848488321626 tw14287649643498764030 tw4424957442486652875 tw4949153170169653341 tw7526642716339609463 tw6791724923360467193 tw12099150503599438257 tw14121251770348400228 tw13501928450673574611 tw7026913649490961327 tw1493976440903568518 tw4774503389973617852 tw15521774585327220799 tw15168963735287787158 tw3791764388125460660 tw16370314596773655699 tw15743894712926220413 tw12813471913237320358 tw18015705671581418019 tw18433736474704940426 tw15554965848862491180 tw11240340877066251182 tw6762682557400297937 tw14431468982627449065 tw7102704151456404586 tw11281684338343739193 tw9977968254451601561 tw16108948064494354363 tw7127301736855835527 tw8215821019995044940 tw5726888984893852543 tw5656836668916647781 tw17289929353321850166 tw8511643130026793882 tw13424855159539822588 tw6655948678814041329 tw8336889996293069862 tw5392537917097766425 tw3298738225333052760 tw949162081755811928 tw13366637562567144841 tw9633014670496536183 tw13491512939606645251 tw1767704596897518573 tw17219162662351384667 tw17185247892544407675 tw15641907971524451988 tw16365135252107364354 tw5910385156923737954 tw12497408268424812029 tw94869138052163799 tw16844147848798749314 tw67778078286135516 tw6458401036815028334 tw12238763814771994993 tw9888388370382264182 tw9153000202152182199 tw2953953217788230769 tw3176021999797578465 tw3870590947052180508 tw1593136136072337170 tw7863760889891522121 tw2529612108910155890 tw15226557560456626756 tw18159517056718226866 tw11882966202109195560 tw12002366710769550664 tw14954121205642894969 tw11235976611714010018 tw2288120647649441679 tw14788312945245551897 tw133050307954461183 tw15796911154598861219 tw5938536221897199318 tw505049398687604997 tw10768304562441306719 tw15130176299476981851 tw6236945100987088641 tw10177072173886104740 tw3613491059719098421 tw18299608197251329119 tw12652832923594305417 tw1271279349619142045 tw4401044115787821948 tw14894306910855069010 tw13736272178595670243 tw12664913999793031171 tw2079740427856922508 tw10023243469298749236 tw11063910017433696284 tw15226106275557688920 tw9171904138394036107 tw4393265623586296504 tw17729839209849433587 tw17799977778192184083 tw6573442058028809225 tw4789267131553495976 tw6178006826949080159 tw15715336137966526507 tw13599110672322210655 tw2264688056170009763 tw797630768575016117 tw13264783318743280501 tw14221971429627597593 tw16636377508334449174 tw14971572699177226936 tw17619872302848337154 tw8287519711497666923 tw15297868756161361417 tw5134882364667476484 tw7233358778830382821 tw3843425921507917220 tw279553210231921386 tw5203493557582122222 tw17942469176949797376 tw141776089331191532 tw6277550689549525489 tw6199490867976774629 tw5960724574823836190 tw7635212784395849283 tw16263054069317133743 tw155001926787681821 tw14889147808407831403 tw14871330094518964710 tw5943698537282449412 tw4443842358913634082 tw7715121992010563616 tw652572164303799281 tw8579584030387456159 tw1698364517202482262 tw9678120807203110998 tw11356725729279579071 tw10489160706862264057 tw11900727755254253510 tw13788600400692501529 tw10229182758705583901 tw5516516622506918812 tw12017431205302923457 tw1616872469586037292 tw6065915065382102922 tw10391966215951850359 tw16826662257655885180 tw4423759941684549639 tw2234561426695748221 tw815885493584107536 tw17905444044870810851 tw9794202562049400696 tw426343960325406209 tw3669353860132989986 tw9577690542134106235 tw12343342808620355697 tw2239478877231619675 tw3953052382082138163 tw17539710030045040515 tw14437833392003015189 tw14494817440000423944 tw15327233264102379274 tw2425722019231542826 tw6655195440660131808 tw18052641435589151398 tw12873262633187513547 tw7382758656114950715 tw16681830223116259863 tw13332685066384394718 tw14367441241003062873 tw9151469028650517099 tw14414995661585332980 tw85805075990287525 tw1540374912251251937 tw2039943701366766147 tw3968807211995804048 tw14218954486958198059 tw5397438741913539930 tw12242331801662402111 tw347302582509138447 tw2898750583049541742 tw8342378216002286806 tw1402343317384939170 tw2084163982837631442 tw5482108379716159904 tw14660867049840560464 tw5168562565060336202 tw315059589521609335 tw406879761286433156 tw17507441710975064871 tw13886564736866318597 tw15354628344664136838 tw9629680731976379803 tw1180600298057122777 tw13949962361980629050 tw10358206213779146700 tw16977790485096196819 tw9673892193206059930 tw8871723625138895058 tw9318869687933393338 tw16025902957970370558 tw1267588679312295777 tw12792589930792447992 tw6901791133834153454 tw2775608353619823142 tw11370103743131731573 tw9728348322942401971 tw5516126599984197977 tw4560676117408909835 tw8898361405472084823 tw4104640104959265459 tw1665375240157501238 tw13027454257519241849 tw13471624709875861992 tw2232664887611025606 tw14980207097044305780 tw9998708170645343564 tw8785568728710219094 tw16394456556821871399 tw13967124772434374770 tw1934153484022933842 tw9106117819962153108 tw10032879133369285411 tw4776569208456197393 tw3797104308436393684 tw6581669382178270178 tw16403004663170037307 tw4975249303063597645 tw17682075135333251074 tw9844774478145248271 tw3766483341329822010 tw11169989112684801161 tw15926590326240835220 tw5948618769384916593 tw17596183405139185904 tw5370222168753937430 tw17602806190682239380 tw14224479106555525266 tw11427153841632559836 tw2761118343925701924 tw11720238955755627802 tw7875953941700731891 tw12867480088866969129 tw7997966640940100746 tw1779079401238067834 tw12392991990247849961 tw10037799289470891218 tw16637797288566253225 tw16754891392866548403 tw3305494238189137382 tw8836961589201648558 tw15969238516487340253 tw16135801686790613545 tw15008211852896378217 tw1732695763566128276 tw6593572792059343124 tw17346589017371698362 tw17355536796413789310 tw10588160600259957257 tw10154835177792900349 tw6756748906697040991 tw456810762110105100 tw9271726906976743427 tw11204430943428201637 tw7419150979954543205 tw12064651761360331512 tw18128691814215707176 tw9884053838804879914 tw25905281646518418 tw141861649576903305 tw6575882762580353378 tw7296827444274102173 tw14913929154005274270 tw8298516734899421365 tw949023383522978510 tw9743462867135057315 tw8767202962663896751 tw17601059335628891147 tw3782526107580536430 tw17974666303421471055 tw14181061355918169450 tw964386483717103701 tw1953807773588433476 tw6612399528297690920 tw13876393928848836066 tw17634150734388800731 tw11470810177364351911 tw16390586887448593698 tw2506429312907316708 tw4107991167670610375 tw227330511408147078 tw7904798290556546914 tw11596320684224266677 tw6117057130443323433 tw1682816129784664372 tw13487285042893942739 tw12427586656615998041 tw2945744640744756971 tw6075693096411575548 tw6679390684757516976 tw14688195265516546915 tw12423199568713496034 tw16233163333895627882 tw14517409996804772426 tw8280966512194075126 tw11529781851608588984 tw10189811544530730854 tw66478032350577137 tw17566132405951457384 tw11292580438588373452 tw13965420268172918837 tw5234262510572736640 tw9812609459329073568 tw5287501620790172306 tw9581439254608348626 tw1261363854083847548 tw4778168775196617610 tw1926681695333212455 tw2317789203304205861 tw3703634764114782801 tw17483501813491594988 tw6121670912001752865 tw14286480666396588655 tw2739463773527970879 tw9943836428906949983 tw8701105216047497185 tw15483900682734941943 tw12677646321231570038 tw1770170679203122095 tw16169639896067999950 tw15046540820058991213 tw13649158544512447115 tw15063208895019496158 tw6902481935719065656 tw14654316701548644434 tw17808325391556144134 tw3492027508114568667 tw11557553943165423262 tw5069597514590705910 tw12235767738871431139 tw6062889887171469253 tw9950895400989458713 tw14091564776807542871 tw8782086887054657561 tw3169956928098183065 tw8629914023846977419 tw10374978789737716613 tw3646873447167333876 tw11465922609561566539 tw4349153275903981591 tw1227175253785746022 tw2662613731887798505 tw4507437454468776626 tw5454560287734297673 tw9023352894446559511 tw6916458427241179315 tw14113897738124938328 tw11781099196533853344 tw6108022268354623244 tw6880207836736260452 tw1399150627549921054 tw1152939304927770888 tw11214657417471733696 tw17489828442837153319 tw3244833641657069750 tw9382715847140708985 tw2168974331798502431 tw8320779649315567615 tw7616303627691648293 tw5694305377464119899 tw17764169094081786120 tw1331269650407141437 tw16395868846741744187 tw11209292202285741367 tw4614317284853073193 tw7224231922769799117 tw8334641434590693825 tw15990074162578588757 tw1541476408004204739 tw7532448663883181630 tw5805163025145398093 tw15212795656397704212 tw18312657413885892937 tw4189495779059761179 tw16053313951000243306 tw18226237952353652048 tw14457756011148478639 tw6148411126296037756 tw5658158605966820187 tw8651525537214297722 tw14252608577849153157 tw4739334911238638070 tw5715167792324714805 tw17983105547126868885 tw7889335272246557867 tw6978312915123941992 tw6187412255856254286 tw7695729514221424514 tw17966408701607713445 tw14307929833216860532 tw13812437063668148207 tw1462580626125360323 tw4159050731639456622 tw3488685769790360464 tw2454898721316624052 tw15267574561560468540 tw9574623818587420486 tw127162767228599294 tw14932994469466978707 tw5068803132282279569 tw12225012539870208291 tw11764554903905284667 tw6529606372212148290 tw5283354303795764640 tw8990556135239123450 tw5347795565993437812 tw15231876438001901825 tw9519296477378832356 tw10921518240250938359 tw13013068585455064585 tw8934329368232518306 tw13456126826834160696 tw9303725477112416598 tw3808807544790259029 tw6173651725026390741 tw4082403779201612824 tw8825069235584529364 tw2244561128164288602 tw2155983145812271985 tw7606195076183016141 tw9298222170107917532 tw13576849114879632021 tw1977359052981886807 tw6257354925737624202 tw7738957017555864486 tw15144514865818128449 tw4465024451682226931 tw16825185308291640101 tw1977283237036762665 tw10666669688522059678 tw14377976571017057871 tw4688952228722485793 tw5831881781878455355 tw1017655638574884569 tw16195023021506719998 tw13929601848204584293 tw5008189709948816344 tw5825258837867308569 tw404166732927542691 tw7865699106006213941 tw12869556082570410591 tw5139278514979715130 tw14806821180683346196 tw3549021438888311840 tw15874275403308896353 tw2072045032542422837 tw14066082939608769917 tw7289659064272347664 tw3696334050502335072 tw5723420286570046773 tw5089321078188787596 tw17532152523040889123 tw5969398031672726836 tw11963685103952520481 tw470419194013938843 tw4335957221542301312 tw9053431349271289231 tw5122261106192227814 tw13092389509609860262 tw16853610066427516608 tw5180790237852861384 tw2242859918270709806 tw14487236662140728192 tw16648694415222113611 tw4890873281431527884 tw6910435479862047656 tw2389126899509028716 tw14724030501181109840 tw7942431623326088983 tw15258196091255363643 tw234736470000315847 tw2395959245631058911 tw8431010491040985401 tw1571629323680480120 tw4023329070314021225 tw3175409784667557376 tw13018716681168760404 tw14165726575859633844 tw630642603389457291 tw17563160021655300943 tw13705668124326335608 tw12880004273760488770 tw16570811802680142584 tw548235434243544173 tw1999357507603347772 tw11639344650254390698 tw16103320575384165296 tw5352029970052010619 tw5728007012546814814 tw13023012672212188508 tw13215312802808262922 tw5663645193047094702 tw11603705157880454157 tw16940071793374950763 tw539987081967814948 tw12820658949290436748 tw7011145021565994100 tw3131442190772591127 tw14958835441222783786 tw1872882256124078249 tw1492510777216735105 tw10417165705679705121 tw7341726511984929437 tw12840219530637383796 tw14611333720425855825 tw3285108227955099923 tw17154888352803117469 tw13118837849321952627 tw5761420172069098415 tw585282146747674403 tw16858343677824253953 tw350997002248762806 tw9418137305849058841 tw6396716304244273208 tw5400207758072283615 tw11333450796871539042 tw12355542602960782267 tw1552592399950169602 tw6153640899451679569 tw11160671596835469462 tw16795831441916323062 tw4209213836967999806 tw2045370776131033596 tw14107545090129700155 tw15390661835505416673 tw3054261931397198530 tw11547642613774635637 tw13302940744133923793 tw6699167560647395176 tw7825601417403729094 tw7973665273136835147 tw16712519651640443541 tw4115912144900172823 tw17818454951209557751 tw9299765431496797838 tw15621243375283808317 tw6391041326570989082 tw6830944311284370625 tw6115939763470910299 tw14046040568855467706 tw8590375124389731762 tw3033842392610290351 tw17060085814326770807 tw3731460561215077363 tw10183683949296662783 tw17602753780911845351 tw8625722437784373096 tw11546566611305551603 tw12540651058063844381 tw5153652818764277335 tw14180559209830574369 tw12387589756611454480 tw3765232553911041448 tw998366803749248697 tw8386128953241996510 tw18193912660404554977 tw6672623061655324877 tw13187646163767354515 tw12799764006529482248 tw8651459592052520745 tw4592094812467302511 tw3677637017422787086 tw12904012197181914797 tw8792226511487330509 tw11941215835271741559 tw14119915852845804611 tw4468031494276738370 tw13654130434322583069 tw8330174422939893012 tw8652655213297288556 tw6195688567133252348 tw4818021661568969594 tw10484707721308586989 tw15068833205448718484 tw14403735623124454214 tw13151994801421796634 tw17163991814552102966 tw52123072413879914 tw10222957414949342517 tw5282486013568830014 tw8199569271075993673 tw8848386514910268837 tw12835783180241664681 tw13437631317735247888 tw18392429370670521611 tw699189729302560488 tw10237124590419752212 tw4416356346057733673 tw18118420652065640600:True)
open PySem PySem.W PyProof.Rows
set_option maxRecDepth 100000 in
set_option maxHeartbeats 0 in
theorem PySem.Challenge.cw_layersplit_k25_questions_refused_holds : PySem.Challenge.rw_layersplit_k25_questions_refused.Holds := by
 w_on;o_law;k_head;(case hw=>w_witness2)
 k_fill
 refine L2.Dw (l:=PySem.Challenge.rw_layersplit_k25_questions_refused) (n:=63) (k:=17) (x:="_law_script") (CX:=L2.dq) (sp:=My.DW) rfl (by decide) rfl ⟨rfl,by decide,by decide⟩ (λw h Y=>PySem.W.kIn_of Y) ?F ?S ?C
 case F=>
  intro w mg fa h KX G hmg;have T:∃a:My.gK,My.Txt (L2.KOf KX) mg a/\w.params=a.pm:=by
   dsimp only[L2.KOf]
   refine'⟨My.gK.mk ..,?T,rfl⟩
   case T=>
   constructor
   all_goals try dsimp only
   iterate 19(exact L2.LU KX G (by k_is))
   iterate 43(exact L2.IF KX G (by k_is) (L2.AW (by k_is) (by k_is) (by k_is)) (by first|exact L2.b1|exact L2.b2|exact L2.b3|exact L2.b4|exact L2.b5))
   iterate 35(exact L2.LC (by k_is) (by k_is) (L2.AW (by k_is) (by k_is) (by k_is)) (by first|exact L2.b1|exact L2.b2|exact L2.b3|exact L2.b4|exact L2.b5))
   iterate 20(exact L2.IF KX G (by k_is) (L2.AW (by k_is) (by k_is) (by k_is)) (by first|exact L2.b1|exact L2.b2|exact L2.b3|exact L2.b4|exact L2.b5))
   iterate 2(exact L2.Ll KX G (by k_is))
   iterate 12(exact L2.LL KX G (by k_is))
   iterate 2(exact⟨by k_is,by k_is,by k_is,by k_is⟩)
   iterate 3(exact L2.BJ (by k_is))
   iterate 2(exact⟨by k_is,by k_is,by k_is,by k_is⟩)
   iterate 3(exact L2.BJ (by k_is))
   iterate 2(exact⟨by k_is,by k_is,by k_is,by k_is⟩)
   iterate 7(exact L2.BJ (by k_is))
   iterate 2(exact⟨by k_is,by k_is,by k_is,by k_is⟩)
   iterate 6(exact L2.BJ (by k_is))
   iterate 13(exact L2.FG (by k_exc))
   exact⟨by decide,_,_,by k_is,by k_keys⟩
   iterate 10(exact⟨_,by k_is⟩)
   exact L2.LK (by k_is) (by(repeat(first|exact .nil|refine .cons ⟨_,rfl⟩ ?_))) rfl
   iterate 4(exact L2.KU (L2.FG (by k_exc)) (by k_is) rfl (by decide))
   iterate 4(exact⟨by k_is,by k_is,by k_is,by k_is,by k_is,by k_is,by k_is,L2.FG (by k_exc)⟩)
   iterate 24(first|k_is|kit_is)
   iterate 20(exact L2.KS KX G (by k_is))
  obtain⟨a,T,hw⟩:=T;have e0:=hmg.symm.trans T.law.m;cases e0;exact⟨a.law.d,My.CV T,λbase kb nb=>My.JS T hw⟩
 case S=>exactλK H a ns hl hO hS=>My.CU hl hS
 case C=>exactλ_ _ _ _ z=>z
#print axioms PySem.Challenge.cw_layersplit_k25_questions_refused_holds
