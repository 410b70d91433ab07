import PyProof.Rows.All
import Wide.All
import OpenK.AllK
import Wide.FinOn
import Lean
import PyProof.EqAt
import PyProof.EqKinds
import PyProof.TupleCall
import PyProof.WalksMore
import PyProof.SetScanFacts
import PyProof.Logic
import PyProof.FactsBase
import PyProof.TableTree
import PyProof.FactsTree
import PyProof.PlainAttrs
import PyProof.DictWalks
import PyProof.SetKind
import PyProof.ForAny
import PyProof.FactsAll.set_1
import PyProof.CollectWalk
import PyProof.WalkLemmas
import PyProof.FactsAll.set_2
import PyProof.Walk
import PyProof.Rows.SortStr
import KE.KRevIter
import KE.KDictList
import KE.KDictLaws
import PyProof.FString
import OpenK.KTop
import PyProof.StrLawsTight
import PyProof.Rows.StrLawsPart
import KE.KIntText
import PyProof.Rows.StrSplitJoin
import PyProof.ZipIter
import KE.IntTextLaws
import KE.KDictOf
import PyProof.AttrMissHeap
import PyProof.EnumMake
import PyProof.EnumFor
import PyProof.Draws
import PyProof.DictItems
import KE.KPairComp
import KE.KSortTup
import PyProof.Rows.SortWalk
import PySem.Challenge.RW_layersplit_k37_houses_written
set_option Elab.async false
set_option linter.all false
set_option maxRecDepth 100000
set_option compiler.extract_closed false
def a_:=@PySem.wpAny_bind
def b_:=@List.length_map
def c_:=@PySem.Heap.get?_push_of_some
def d_:=@List.getElem?_eq_some_iff
def e_:=@PySem.wpAny_pure
def fx:=@Nat.le_refl
def fy:=@List.getElem?_eq_getElem
def f_:=@PySem.Heap.get?_push_size
def ga:=@List.mem_of_getElem?
def ge:=@List.getElem?_map
def gg:=@PySem.sizeLine_eq
def gV:=@List.length_append
def g6:=@List.map_append
def g8:=@if_neg
def g_:=@List.take_of_length_le
def hH:=@PySem.Heap.lt_size
def hQ:=@if_pos
def hY:=@List.mem_cons_of_mem
def h_:=@Bool.false_ne_true
def ig:=@List.size_toArray
def il:=@List.length_cons
def ir:=@List.mem_cons_self
def iA:=@Nat.ne_of_lt
def i_:=@List.length_take
def ji:=@List.mem_iff_getElem?
def j1:=@decide_eq_true
def j2:=@decide_eq_false
def j_:=@List.mem_map
def kl:=@Option.some.inj
def kt:=@Array.length_toList
def ku:=@Nat.le_trans
def kw:=@Nat.zero_le
def k_:=@Nat.lt_of_lt_of_le
def lh:=@List.map_cons
def lm:=@Bool.and_eq_true
def l_:=@List.getElem?_eq_none
def md:=@Nat.ne_of_gt
def me:=@List.mem_append_right
def mo:=@PySem.PassesOwn.never
def mu:=@Ne.symm
def m3:=@PySem.Heap.size_push
def m_:=@PySem.wpAny_holding
def nk:=@PySem.wpAny_call_entry
def nn:=@List.not_mem_nil
def np:=@PySem.wpAny_newObj_type
def n7:=@List.length_range
def n_:=@Int.toNat_natCast
def oa:=@Nat.le_of_ble_eq_true
def oe:=@PySem.wpAny_callSpecial?_slot
def oi:=@List.take_zero
def ol:=@List.length_eq_zero_iff
def op:=@of_decide_eq_true
def ot:=@Nat.lt_irrefl
def ov:=@List.nodup_append
def oD:=@Nat.pow_le_pow_right
def o0:=@List.getElem?_set_ne
def o8:=@PySem.wpAny_setField_rec
def o_:=@List.mem_cons
def pa:=@PySem.wpAny_truthy_bool
def pu:=@PySem.Calls.spliced_cons
def pv:=@List.find?_cons
def pw:=@PySem.Calls.callWith_builtin
def p_:=@List.replicate_succ
def qc:=@Sum.inr.inj
def qq:=@Nat.le_succ
def qr:=@List.take_add_one
def qx:=@PySem.Heap.get?_update_self
def q_:=@List.mem_range
def rd:=@PySem.wpAny_ite_split
def ri:=@List.map_map
def rk:=@List.foldl_cons
def rm:=@PySem.wpAny_field
def ro:=@Nat.lt_succ_self
def rr:=@PySem.Heap.get?_update_other
def ry:=@List.length_set
def rV:=@List.getElem?_append_left
def r3:=@Array.getElem?_eq_getElem
def r4:=@congrArg
def r_:=@List.take_append_drop
def sg:=@List.length_filter_le
def si:=@Array.getElem?_toList
def sm:=@PySem.wpAny_Call_Name_kw
def so:=@PySem.wpAny_seqItems
def sT:=@PySem.Calls.evalArgs_plain
def s_:=@List.foldl_append
def th:=@List.ext_getElem?
def to:=@PySem.Calls.spliced_nil
def tw:=@PySem.wpAny_rule
def tA:=@List.mem_filter
def t0:=@PyProof.Rows.callWith_type1
def t4:=@List.any_cons
def t6:=@List.getD_eq_getElem?_getD
def t8:=@PySem.wpAny_dictEpoch
def t_:=@List.append_nil
def u1:=@Nat.lt_trans
def u_:=@Nat.lt_succ_of_lt
def vl:=@Nat.le_succ_of_le
def vr:=@Nat.le_of_lt
def vu:=@List.mem_append_left
def v_:=@beq_eq_false_iff_ne
def wh:=@List.map_congr_left
def wr:=@PySem.Heap.SameBut.update
def w1:=@PySem.wpAny_pyIter_tuple
def w_:=@PySem.tupleKind_room_in1
def x_:=@PySem.codeAny_mono
def yl:=@PySem.call_meetsIn
def y2:=@List.getElem?_set_self
def y_:=@PySem.wpAny_setState_of
def z3:=@List.flatten_cons
def z4:=@or_false
def z7:=@List.nodup_iff_pairwise_ne
def z8:=@List.getElem?_append_right
def z_:=@PySem.F.slot_tuple_iterator_next
def A_:=@PySem.Around.under_plainId
def B_:=@PySem.wpAny_askSetting
def C2:=@beq_self_eq_true
def C_:=@Nat.succ_le_succ
def D2:=@Nat.pow_succ
def D_:=@Nat.le_max_right
def Es:=@List.getElem?_eq_none_iff
def E1:=@Option.isSome_iff_exists
def E2:=@List.all_cons
def E_:=@PySem.codeAny_builtin
def F_:=@Option.map_some
def G_:=@Nat.le_max_left
def Ha:=@Int.emod_lt_of_pos
def H_:=@Bool.false_eq_true
def I_:=@PySem.wpAny_getItem_str_slice
def J_:=@PySem.wpAny_pyIter_list
def K_:=@PySem.wpAny_Call_method
def Lu:=@PySem.builtinLookup_eq_fast
def Lv:=@List.length_replicate
def Lw:=@List.mem_reverse
def Lx:=@List.length_drop
def Ly:=@List.getElem_mem
def Lz:=@PySem.plainId_quiet
def LA:=@List.mem_of_mem_take
def LB:=@PySem.Heap.get?_push_cases
def LC:=@PySem.wpAny_passesOwn
def LD:=@PySem.wpAny_execs_nil
def LF:=@List.of_mem_zip
def LG:=@List.length_nil
def LH:=@Int.emod_nonneg
def LI:=@PySem.wpAny_setEntries_of
def LJ:=@Nat.mul_le_mul_left
def LK:=@List.length_reverse
def LL:=@List.filterMap_cons
def LM:=@Nat.lt_of_le_of_lt
def LN:=@List.nodup_nil
def LO:=@List.mem_filterMap
def LP:=@Int.fdiv_eq_ediv_of_nonneg
def LQ:=@List.mem_or_eq_of_mem_set
def LR:=@Option.some.injEq
def LS:=@List.take_sublist
def LU:=@List.getElem?_set
def LV:=@List.getElem?_inj
def LW:=@List.append_assoc
def LX:=@PySem.wpAny_attempt
def LY:=@List.getElem?_take_of_lt
def LZ:=@List.filterMap_cons_none
def L0:=@PySem.AutoSeq1.wpAny_loadPart'
def L1:=@PySem.wpAny_isInstance
def L3:=@PySem.wpAny_eqBool_str
def L4:=@if_false
def L5:=@List.lookup_cons
def L6:=@List.filter_cons
def L7:=@PyProof.Rows.F.plain_set_update_loop
def L8:=@Nat.succ_pos
def L9:=@Nat.lt_or_ge
def L_:=@List.range_succ_eq_map
def Ma:=@PySem.wpAny_specialOf
def Mb:=@PySem.typeLookup_type
def Mc:=@PySem.post_val_or_str
def Md:=@List.range_succ
def Me:=@List.forIn_cons
def Mg:=@PySem.F.slot_zip_next
def Mh:=@Bool.eq_iff_iff
def Mi:=@List.getElem?_toArray
def Mj:=@List.filterMap_append
def Ml:=@PySem.isSubtype_type
def Mm:=@Prod.mk.inj
def Mn:=@List.Perm.refl
def Mo:=@if_true
def Mp:=@List.map_take
def Mq:=@List.map_singleton
def Mr:=@List.getElem?_drop
def Ms:=@List.filter_append
def Mt:=@List.filterMap_map
def Mu:=@Array.append_assoc
def Mv:=@PySem.wpAny_typeOf
def Mw:=@PySem.wpAny_pyIter_slot
def Mx:=@Option.isSome_map
def Mz:=@List.Sublist.refl
def MA:=@Array.toList_push
def MB:=@PyProof.Rows.slot_tuple_getitem
def MC:=@PySem.wpAny_forIn_list
def MD:=@PySem.wpAny_execs_cons
def ME:=@List.getElem_map
def MF:=@List.cons_append
def MG:=@List.any_eq_true
def MH:=@List.eq_nil_of_length_eq_zero
def MI:=@Int.le_refl
def MJ:=@PySem.wpAny_updateSeq
def MK:=@Nat.not_lt_zero
def ML:=@List.nodup_cons
def MM:=@List.Perm.of_eq
def MN:=@PySem.F.args_tuple_iterator_next_1
def MO:=@Bool.or_eq_true
abbrev MP:=PySem.W.Frag
abbrev MQ:=PySem.Value->PySem.Shared->Prop
abbrev MR:=List (PySem.Addr×PySem.Obj)
abbrev MS:=PySem.Str->Option PySem.Value
abbrev MT:=List PySem.Value
abbrev MU:=PySem.Program
abbrev MV:=List PySem.Str
abbrev MW:=List PySem.Expr
abbrev MX:=Array PySem.Value
abbrev MY:=List Nat
abbrev MZ:=List PySem.Addr
abbrev M0:=List Int
namespace L2
open PySem PySem.Spec PyProof.Rows
abbrev cb:=Sum Int Str
def m4:cb->Value->Bool|.inl k,v=>Value.isInt k v|.inr x,v=>Value.isStrOf x v
def La(w:World):cb->Int|.inl k=>hashInt k|.inr x=>hashStr w x
def cx:∀{k:cb}{v:Value},m4 k v=true->(∃i t,k=Sum.inl i/\v=Value.int i t)\/(∃x t,k=Sum.inr x/\v=Value.str x t)|.inl i,v,h=>by obtain⟨t,e⟩:=Value.isInt_shape (k:=i) (v:=v) h;exact .inl ⟨i,t,rfl,e⟩|.inr x,v,h=>by obtain⟨t,e⟩:=Value.isStrOf_shape (x:=x) (v:=v) h;exact .inr ⟨x,t,rfl,e⟩
def vH(i:Int)(t:Tok):m4 (.inl i) (.int i t)=true:=by simp[m4,Value.isInt]
def vG(x:Str)(t:Tok):m4 (.inr x) (.str x t)=true:=by simp[m4,Value.isStrOf]
def Ir(a b:Int):decide ((Sum.inl a:cb)=Sum.inl b)=(a==b):=by
 by_cases e:a=b
 ·subst e;simp
 ·have h:¬(Sum.inl a:cb)=Sum.inl b:=λq=>e (Sum.inl.inj q);rw[j2 h];exact(v_.mpr e).symm
def Io(a b:Str):decide ((Sum.inr a:cb)=Sum.inr b)=decide (a=b):=by
 by_cases e:a=b
 ·subst e;simp
 ·have h:¬(Sum.inr a:cb)=Sum.inr b:=λq=>e (qc q);rw[j2 h,j2 e]
def Iq(a:Int)(b:Str):decide ((Sum.inl a:cb)=Sum.inr b)=false:=j2 (nofun)
def Ip(a:Str)(b:Int):decide ((Sum.inr a:cb)=Sum.inl b)=false:=j2 (nofun)
def aS(prog:MU)(w:World):PySem.KeyKind prog w cb where
 is:=m4
 hash:=La w
 inj:=λv a b g f=>by
  rcases cx g with⟨i,t,rfl,rfl⟩|⟨x,t,rfl,rfl⟩
  ·rcases cx f with⟨j,u,rfl,e⟩|⟨y,u,rfl,e⟩
   ·injection e with c _;rw[c]
   ·exact nomatch e
  ·rcases cx f with⟨j,u,rfl,e⟩|⟨y,u,rfl,e⟩
   ·exact nomatch e
   ·injection e with c _;rw[c]
 byValue:=λk v h=>by rcases cx h with⟨i,t,rfl,rfl⟩|⟨x,t,rfl,rfl⟩<;>rfl
 pyHash:=λd h=>by
  rcases cx d with⟨i,t,rfl,rfl⟩|⟨x,t,rfl,rfl⟩
  ·exact wpAny_pyHash_int h
  ·exact wpAny_pyHash_str h
 eqBool:=λl d h=>by
  rcases cx l with⟨i,t,rfl,rfl⟩|⟨x,t,rfl,rfl⟩
  ·rcases cx d with⟨j,u,rfl,rfl⟩|⟨y,u,rfl,rfl⟩
   ·rw[Ir]at h;exact wpAny_eqBool_int h
   ·rw[Iq]at h;exact SeqAt.EqAt.int_str i t y u _ _ _ _ h
  ·rcases cx d with⟨j,u,rfl,rfl⟩|⟨y,u,rfl,rfl⟩
   ·rw[Ip]at h;exact SeqAt.EqAt.str_int x t j u _ _ _ _ h
   ·rw[Io]at h;exact L3 h
 «strs»:=λk x t v h=>by
  rcases cx h with⟨i,u,rfl,e⟩|⟨y,u,rfl,e⟩
  ·exact nomatch e
  ·injection e with c _
   subst c
   cases v<;>rfl
def zn(prog:MU)(w:World)(k:cb)(v:Value):(aS prog w).is k v=m4 k v:=rfl
def yh(prog:MU)(w:World)(i:Int)(t:Tok):(aS prog w).is (.inl i) (.int i t)=true:=vH i t
def qP(prog:MU)(w:World)(x:Str)(t:Tok):(aS prog w).is (.inr x) (.str x t)=true:=vG x t
end L2
namespace L2
open PySem PySem.Spec PyProof.Rows
inductive V where|non|bl(b:Bool)|int(i:Int)|str(x:Str)|byt(b:Array UInt8)|flt(b:UInt64)|ref(a:Addr)|ty(n:String)deriving DecidableEq
def aU:V->Value->Prop|.non,u=>u=Value.none|.bl b,u=>u=Value.bool b|.int i,u=>∃t,u=Value.int i t|.str x,u=>∃t,u=Value.str x t|.byt b,u=>∃t,u=Value.bytes b t|.flt b,u=>∃t,u=Value.float b t|.ref a,u=>u=Value.ref a|.ty n,u=>u=Value.type n
abbrev aZ:List V->List Value->Prop:=Paired aU
theorem aZ.length(r:aZ a c):a.length=c.length:=Paired.length r
theorem aZ.get:∀{a:List V}{c:MT}{i:Nat}{x:V},aZ a c->a[i]?=some x->∃u,c[i]?=some u/\aU x u|_,_,_,_,.nil,e=>by simp at e|_,_,0,_,.cons r _,e=>by simp at e;subst e;exact⟨_,rfl,r⟩|_,_,i+1,x,.cons _ t,e=>by obtain⟨u,h1,h2⟩:=aZ.get (i:=i) (x:=x) t (by simpa using e);exact⟨u,by simpa using h1,h2⟩
theorem aZ.set(r:aU x u):∀{a:List V}{c:MT}(i:Nat),aZ a c->aZ (a.set i x) (c.set i u)|_,_,_,.nil=>.nil|_,_,0,.cons _ t=>.cons r t|_,_,i+1,.cons q t=>.cons q (aZ.set r i t)
theorem aZ.append:∀{a c:List V}{d e:MT},aZ a d->aZ c e->aZ (a++c) (d++e)|_,_,_,_,.nil,s=>s|_,_,_,_,.cons r t,s=>.cons r (aZ.append t s)
theorem aZ.take:∀{a:List V}{c:MT}(n:Nat),aZ a c->aZ (a.take n) (c.take n)|_,_,0,_=>.nil|_,_,_+1,.nil=>.nil|_,_,n+1,.cons r t=>.cons r (aZ.take n t)
theorem aZ.drop:∀{a:List V}{c:MT}(n:Nat),aZ a c->aZ (a.drop n) (c.drop n)|_,_,0,r=>r|_,_,_+1,.nil=>.nil|_,_,n+1,.cons _ t=>aZ.drop n t
def kf:Option V->Option Value->Prop|some v,some u=>aU v u|none,none=>True|_,_=>False
def KV{a:Type}:List (a×V)->List (a×Value)->Prop:=Paired λ(p:a×V)(q:a×Value)=>p.1=q.1/\aU p.2 q.2
def kV:cb->V|.inl i=>.int i|.inr x=>.str x
inductive HO where|lst(xs:List V)|tup(xs:List V)|dK(kvs:List (cb×V))|dT(kvs:List (List cb×V))|set(S:Int->Bool)(n:Nat)|ins(C dx:Addr)(fs:List (Str×V))|own(x:Addr)|xd(fs:List (Str×V))|met(f x:Addr)|rng(lo hi:Int)|frz(o:Obj)(u:HO)|tbl(ps:MX)|ext(φ:Heap->Prop)
abbrev Hp:=Addr->Option HO
def aG(H:Hp)(a:Addr)(o:HO):Hp:=λb=>if b=a then some o else H b
def af:aG H a o a=some o:=by unfold aG;rw[hQ rfl]
def ao(h:b≠a):aG H a o b=H b:=by unfold aG;rw[g8 h]
def eh:aG (aG H a o) a u=aG H a u:=by funext b;unfold aG;split<;>rfl
def JY{H:Hp}{a b:Addr}{o u:HO}(h:H a=some o)(h':H b=some u)(d:o≠u):a≠b:=by intro e;subst e;rw[h]at h';exact d (kl h')
def aH{H:Hp}{a b:Addr}{o:HO}(h:H a=some o)(h':H b=none):a≠b:=by intro e;subst e;rw[h]at h';cases h'
section
variable(P:MU)(w:World)
def cV(H:Hp)(h:Heap)(a:Addr):HO->Prop|.lst d=>d.length<=sizeLine/\∃(b:MT)(n:Nat),aZ d b/\h.get? a=some {cls:=.type "list",data:=.seq b.toArray n}|.tup d=>d.length<=sizeLine/\∃b:List Value,aZ d b/\IsTup h a b.toArray|.dK c=>c.length<=sizeLine/\(a==sysModules)=false/\∃g,KV c g/\h.DictOf (aS P w) a g|.dT c=>c.length<=sizeLine/\(a==sysModules)=false/\∃d:List (List cb×Addr×Value),Paired (λ(p:List cb×V)(q:List cb×Addr×Value)=>p.1=q.1/\H q.2.1=some (.tup (p.1.map kV))/\aU p.2 q.2.2) c d/\∃o i j,h.get? a=some o/\o.ExactDict/\o.data=.dict i j/\i.toList=d.map (entryOfKey (tupleKind (aS P w)))/\(d.map (·.1)).Nodup|.set S n=>h.SetOf (intKind P w) a S n|.ins C dx fs=>H dx=some (.own a)/\fs.length<=1000/\dx≠a/\h.get? a=some (PySem.W.instObj C dx)/\∃e,h.Ns1 dx e/\(∀f,kf (fs.lookup f) (e f))/\PySem.Within e (fs.map (·.1))|.own _=>∃o,h.get? a=some o|.xd fs=>∃e,h.Ns1 a e/\∀f,kf (fs.lookup f) (e f)|.rng lo hi=>∃t u v,h.get? a=some {cls:=.type "range",data:=.fields #[.int lo t,.int hi u,.int 1 v]}|.frz o u=>h.get? a=some o/\cV H h a u|.tbl k=>h.get? a=some {cls:=.none,data:=.fields k}|.met f x=>h.get? a=some (PySem.W.methodObj (.ref f) (.ref x))|.ext φ=>φ h/\(∃o,h.get? a=some o)/\∀h1 h2:Heap,φ h1->(∀o,h1.get? a=some o->h2.get? a=some o)->φ h2
def lj(H:Hp)(h:Heap):Prop:=∀a o,H a=some o->cV P w H h a o
end
section
variable{P:MU}{w:World}{H g:Hp}{h h':Heap}{a:Addr}{o:HO}
theorem cV.lt(x:cV P w H h a o):a<h.objs.size:=by cases o with|lst c=>obtain⟨_,_,_,_,e⟩:=x;exact hH e|tup c=>obtain⟨_,_,_,p⟩:=x;exact p.lt|dK b=>obtain⟨_,_,_,_,o,_,_,e,_⟩:=x;exact hH e|dT b=>obtain⟨_,_,_,_,o,_,_,e,_⟩:=x;exact hH e|set S n=>obtain⟨o,_,_,_,e,_⟩:=x;exact hH e|ins C dx fs=>obtain⟨_,_,_,e,_⟩:=x;exact hH e|own y=>obtain⟨_,e⟩:=x;exact hH e|xd fs=>obtain⟨_,⟨_,_,_,e,_⟩,_⟩:=x;exact hH e|rng lo hi=>obtain⟨_,_,_,e⟩:=x;exact hH e|frz ob u=>obtain⟨e,_⟩:=x;exact hH e|tbl d=>exact hH (show h.get? a=some _ from x)|met f y=>exact hH (show h.get? a=some _ from x)|ext φ=>obtain⟨_,⟨_,e⟩,_⟩:=x;exact hH e
theorem Paired.mapP:∀{c:List e}{d:List i},Paired F c d->(∀a b,F a b->G a b)->Paired G c d|_,_,.nil,_=>.nil|_,_,.cons r t,f=>.cons (f _ _ r) (Paired.mapP t f)
def cV.stay(x:cV P w H h a o)(k:∀b u,(b=a\/H b=some (.own a))->h.get? b=some u->h'.get? b=some u)(E:∀b,H b=some (.own a)->g b=some (.own a))(F:∀b m,H b=some (.tup m)->g b=some (.tup m)):cV P w g h' a o:=by induction o with|lst m=>obtain⟨z,l,n,r,e⟩:=x;exact⟨z,l,n,r,k _ _ (.inl rfl) e⟩|tup m=>obtain⟨z,l,r,ob,e,c⟩:=x;exact⟨z,l,r,ob,k _ _ (.inl rfl) e,c⟩|dK s=>obtain⟨z,y,G,r,ob,i,j,e,c⟩:=x;exact⟨z,y,G,r,ob,i,j,k _ _ (.inl rfl) e,c⟩|dT s=>obtain⟨z,y,m,r,ob,i,j,e,c⟩:=x;exact⟨z,y,m,Paired.mapP r λp q z=>⟨z.1,F _ _ z.2.1,z.2.2⟩,ob,i,j,k _ _ (.inl rfl) e,c⟩|set S n=>obtain⟨ob,i,j,t,e,c⟩:=x;exact⟨ob,i,j,t,k _ _ (.inl rfl) e,c⟩|ins C dx fs=>obtain⟨d,z,ne,e,A,⟨B,i,j,I,c⟩,r⟩:=x;exact⟨E _ d,z,ne,k _ _ (.inl rfl) e,A,⟨B,i,j,k _ _ (.inr d) I,c⟩,r⟩|own y=>obtain⟨ob,e⟩:=x;exact⟨ob,k _ _ (.inl rfl) e⟩|xd fs=>obtain⟨A,⟨B,i,j,e,c⟩,r⟩:=x;exact⟨A,⟨B,i,j,k _ _ (.inl rfl) e,c⟩,r⟩|rng lo hi=>obtain⟨t,u,v,e⟩:=x;exact⟨t,u,v,k _ _ (.inl rfl) e⟩|frz ob u J=>obtain⟨e,q⟩:=x;exact⟨k _ _ (.inl rfl) e,J q⟩|tbl D=>have e:h.get? a=some {cls:=.none,data:=.fields D}:=x;show h'.get? a=some {cls:=.none,data:=.fields D};exact k a _ (.inl rfl) e|met f y=>have e:h.get? a=some (PySem.W.methodObj (.ref f) (.ref y)):=x;show h'.get? a=some (PySem.W.methodObj (.ref f) (.ref y));exact k a _ (.inl rfl) e|ext φ=>obtain⟨p,⟨o,e⟩,st⟩:=x;exact⟨st _ _ p λo q=>k _ _ (.inl rfl) q,⟨o,k _ _ (.inl rfl) e⟩,st⟩
theorem lj.lt(x:lj P w H h)(e:H a=some o):a<h.objs.size:=(x a o e).lt
def lj.fresh(x:lj P w H h)(e:h.objs.size<=a):H a=none:=by cases q:H a with|none=>rfl|some u=>exact absurd (k_ (x.lt q) e) (ot _)
def lj.kept(x:lj P w H h)(k:∀b u,h.get? b=some u->h'.get? b=some u):lj P w H h':=λa o e=>(x a o e).stay (λb u _ q=>k b u q) (λ_ q=>q) λ_ _ q=>q
def lj.laid(x:lj P w H h)(k:∀b u,h.get? b=some u->h'.get? b=some u)(f:h.objs.size<=a)(new:cV P w (aG H a o) h' a o):lj P w (aG H a o) h':=λb u e=>by
 have hn:=x.fresh f
 by_cases d:b=a
 ·subst d;rw[af]at e;cases e;exact new
 ·rw[ao d]at e;exact(x b u e).stay (λc v _ q=>k c v q) (λc q=>by rw[ao (aH q hn)];exact q) λc i q=>by rw[ao (aH q hn)];exact q
end
def Rd(H:Hp)(a:Addr)(u:HO):Prop:=H a=some u\/∃o,H a=some (.frz o u)
def Rd.ok(r:Rd H a u)(x:lj P w H h):cV P w H h a u:=by
 rcases r with r|⟨o,r⟩
 ·exact x a u r
 ·obtain⟨_,q⟩:=x a _ r;exact q
def Kz:Option HO->Prop|some (.lst _)=>True|some (.dK _)=>True|some (.dT _)=>True|some (.set _ _)=>True|some (.ins _ _ _)=>True|some (.ext _)=>True|_=>False
section
variable{P:MU}{w:World}{H:Hp}{h h':Heap}{x e:Addr}{a:HO}
def lj.write(ok:lj P w H h)(g:Kz (H x))(m:e=x\/H e=some (.own x))(k:∀b u,b≠e->h.get? b=some u->h'.get? b=some u)(l:∃u,h'.get? e=some u)(new:cV P w (aG H x a) h' x a):lj P w (aG H x a) h':=λb u q=>by
 have f:∀c y,H c=some (.own y)->c≠x:=λc y r z=>by subst z;rw[r]at g;exact g
 have ntup:∀c i,H c=some (.tup i)->c≠x:=λc i r z=>by subst z;rw[r]at g;exact g
 by_cases j:b=x
 ·subst j;rw[af]at q;cases q;exact new
 ·rw[ao j]at q
  by_cases d:b=e
  ·have n:H b=some (.own x):=by
    rcases m with z|z
    ·exact absurd (d.trans z) j
    ·rw[d];exact z
   rw[q]at n;cases n;obtain⟨v,o⟩:=l;exact⟨v,by rw[d];exact o⟩
  ·refine(ok b u q).stay (λc v hc r=>k c v ?_ r) (λc r=>by rw[ao (f c b r)];exact r) λc i r=>by rw[ao (ntup c i r)];exact r
   rcases hc with rfl|hc
   ·exact d
   ·rintro rfl;rcases m with z|z
    ·exact f c b hc z
    ·rw[hc]at z;cases z;exact j rfl
end
structure Un(fs ex:MZ)(H H':Hp)(h h':Heap):Prop where
 keep:∀b o,h.get? b=some o->H b=none->b∉fs->b∉ex->h'.get? b=some o
 slot:∀b o,h.get? b=some o->H b=none->b∈fs->b∉ex->∃sl,h'.get? b=some {o with slots:=sl}free:∀b o,h.get? b=some o->H b=none->b∉ex->H' b=none
 there:∀b o,h.get? b=some o->b∉ex->∃o',h'.get? b=some o'
 tups:∀b xs,H b=some (.tup xs)->H' b=some (.tup xs)frzs:∀b o u,H b=some (.frz o u)->H' b=some (.frz o u)tbls:∀b ps,H b=some (.tbl ps)->∃more,H' b=some (.tbl (ps++more))
section
variable{fs c ex d:MZ}{H f g:Hp}{h h1 h2 h':Heap}{a x e:Addr}{o:HO}
def Un.any(u:Un fs ex H f h h1){b:Addr}{ob:Obj}(q:h.get? b=some ob)(n:H b=none)(i:b∉ex):∃sl,h1.get? b=some {ob with slots:=sl}:=by
 by_cases j:b∈fs
 ·exact u.slot b ob q n j i
 ·exact⟨ob.slots,u.keep b ob q n j i⟩
def Un.kept(k:∀b u,h.get? b=some u->h'.get? b=some u):Un fs ex H H h h':=⟨λb ob q _ _ _=>k b ob q,λb ob q _ _ _=>⟨ob.slots,k b ob q⟩,λ_ _ _ n _=>n,λb ob q _=>⟨ob,k b ob q⟩,λ_ _ q=>q,λ_ _ _ q=>q,λ_ i q=>⟨#[],by rw[q];simp⟩⟩
def Un.refl:Un fs ex H H h h:=Un.kept λ_ _ q=>q
def Un.laid(k:∀b u,h.get? b=some u->h'.get? b=some u)(i:h.objs.size<=a)(hn:H a=none):Un fs ex H (aG H a o) h h' where
 keep:=λb u q _ _ _=>k b u q
 slot:=λb u q _ _ _=>⟨u.slots,k b u q⟩
 free:=λb u q n _=>by rw[ao (iA (k_ (hH q) i))];exact n
 there:=λb u q _=>⟨u,k b u q⟩
 tups:=λb j q=>by rw[ao (aH q hn)];exact q
 frzs:=λb u j q=>by rw[ao (aH q hn)];exact q
 tbls:=λb l q=>⟨#[],by rw[ao (aH q hn),q];simp⟩
def Un.write(j:Kz (H x))(s:e=x\/H e=some (.own x))(k:∀b u,b≠e->h.get? b=some u->h'.get? b=some u)(l:∃u,h'.get? e=some u):Un fs ex H (aG H x o) h h':=by
 have m:∀b,H b=none->b≠x:=λb n z=>by subst z;rw[n]at j;exact j
 have p:∀b,H b=none->b≠e:=λb n z=>by
  subst z;rcases s with r|r
  ·exact m b n r
  ·rw[n]at r;cases r
 have hm:∀b u,H b=some u->¬Kz (some u)->b≠x:=λb u q nm z=>by subst z;rw[q]at j;exact nm j
 refine⟨λb u q n _ _=>k b u (p b n) q,λb u q n _ _=>⟨u.slots,k b u (p b n) q⟩,λb u q n _=>by rw[ao (m b n)];exact n,λb u q _=>?_,λb t q=>by rw[ao (hm b _ q λz=>z)];exact q,λb u t q=>by rw[ao (hm b _ q λz=>z)];exact q,λb v q=>⟨#[],by rw[ao (hm b _ q λz=>z),q];simp⟩⟩
 by_cases i:b=e
 ·subst i;exact l
 ·exact⟨u,k b u i q⟩
end
def KK(h:Heap)(H:Hp):List Addr:=(List.range h.objs.size).filter λa=>(H a).isSome
def wN(h:Heap)(H:Hp):Heap:=PySem.W.hideAll h (KK h H)
def By(h:Heap)(H:Hp):(wN h H).objs.size=h.objs.size:=PySem.W.hideAll_size _ _
def D0(e:h.get? b=some o)(n:H b=none):(wN h H).get? b=some o:=PySem.W.hideAll_get _ e λhm=>by have q:(H b).isSome=true:=(tA.mp hm).2;rw[n]at q;simp at q
def FO(e:(wN h H).get? b=some o):h.get? b=some o/\H b=none:=by have a:h.get? b=some o:=PySem.W.of_hideAll (KK h H) e;refine⟨a,?_⟩;cases q:H b with|none=>rfl|some x=>have hm:b∈KK h H:=tA.mpr ⟨q_.mpr (hH a),by simp[q]⟩;have z:(wN h H).get? b=none:=PySem.W.hideAll_none (KK h H) hm;rw[z]at e;cases e
def Gu(g h:Heap)(L:Addr):List (Addr×Obj):=(List.range h.objs.size).filterMap λa=>if a=L\/(g.get? a).isSome=true then none else(h.get? a).map λo=>(a,o)
def pG(g h:Heap)(L d:Addr):List (Addr×Obj):=(Gu g h L).filter λp=>decide (p.1≠d)
end L2
namespace L2
open PySem PySem.Spec PyProof.Rows
structure KB(K:MP)(mg:MS)(base:Heap):Prop where
 kin:K.In base
 glob:base.Ns mainGlobals mg
 blt:∃mb,base.Ns builtinsNs mb/\∀x:Str,x≠"__name__"->mb x=bootBuiltins x
 nolimit:base.NoLimit
structure Cx where
 prog:Program
 w:World
 K:MP
 mg:Str->Option Value
 base:Heap
 A:Around
 N:List Str
 s₀:Shared
 H₀:Hp
 env:Env
 outer:List Env
 stack:List Env
 ex:List Addr
 fn:Str->Bool
 calm:Bool
 pn:List (Addr×Obj)xe:Value->Shared->Prop
def jD(l:List Env):List Addr:=l.filterMap (·.frame)
abbrev Cx.fs(X:Cx):List Addr:=jD X.outer
def KO(a:Scope)(x:Str):Prop:=a.names.lookup x=some .local\/a.names.lookup x=some .cell\/a.names.lookup x=some .free
def Jn(a:Scope)(x:Str):Prop:=a.names.lookup x=some .local\/a.names.lookup x=some .cell
def Lo(env:Env)(h:Heap)(m:MS)(x:Str)(u:Value):Prop:=(env.kindOf x=some .local/\m x=some u)\/((env.kindOf x=some .cell\/env.kindOf x=some .free)/\∃c,env.cells.lookup x=some c/\h.IsCell c (some u))
structure Cx.Ok(X:Cx):Prop where
 mod:KB X.K X.mg X.base
 kind:X.env.scope.kind=.function
 glob:X.env.globals=mainGlobals
 blt:X.env.builtins=builtinsNs
 above:X.s₀.heap.objs.size<=X.env.locals
 inj:∀x y c,X.env.cells.lookup x=some c->X.env.cells.lookup y=some c->x=y
 has:∀x,(X.env.kindOf x=some .cell\/X.env.kindOf x=some .free)->∃c,X.env.cells.lookup x=some c
 cab:∀x c,X.fn x=true->X.env.cells.lookup x=some c->X.s₀.heap.objs.size<=c
 hd:X.calm=true->X.A.handled=none
 frames:X.A.frames=some X.stack
 stk:X.stack=X.outer\/(X.stack=X.env::X.outer/\X.env.frame=some X.env.locals)exf:∀b∈X.ex,b≠X.env.locals/\∀x c,X.env.cells.lookup x=some c->c≠b
 bs:∀b o,X.base.get? b=some o->X.s₀.heap.get? b=some o/\X.H₀ b=none
 bsz:X.base.objs.size<=X.s₀.heap.objs.size
 noex:∀b o,X.base.get? b=some o->b∉X.ex
 exfs:∀b∈X.ex,b∉X.fs
 funs:X.s₀.heap.FunFrames X.base X.outer
 frf:∀b∈X.fs,X.H₀ b=none
structure aN(X:Cx)(pins:MR)(σ:List (Option V))(H:Hp)(s:Shared):Prop where
 ok:X.Ok
 os:s.os=X.s₀.os
 bare:AllBare s.gens
 base:Un X.fs X.ex X.H₀ H X.s₀.heap s.heap
 loc:∃m,s.heap.Ns X.env.locals m/\∀(i:Nat)(x:Str)(v:V),X.N[i]?=some x->σ[i]?=some (some v)->KO X.env.scope x->∃u,aU v u/\Lo X.env s.heap m x u
 cell:∀x c,X.env.cells.lookup x=some c->∃v,s.heap.IsCell c v
 free:H X.env.locals=none
 freeC:∀x c,X.env.cells.lookup x=some c->H c=none
 pin:∀p∈X.pn++pins,s.heap.get? p.1=some p.2/\H p.1=none/\p.1≠X.env.locals/\p.1∉X.fs/\∀v,p.2.data≠.cell v
 hok:lj X.prog X.w H s.heap
 len:σ.length=X.N.length
section
variable{X:Cx}{f:MR}{g:List (Option V)}{H B:Hp}{s:Shared}{h':Heap}
def Cx.Ok.nofr(ok:X.Ok)(e:X.base.get? b=some o):b∉X.fs:=λa=>by have:=(ok.funs.mem a).1;rw[e]at this;cases this
theorem aN.bs(I:aN X f g H s):∀b o,X.base.get? b=some o->s.heap.get? b=some o/\H b=none:=λb o e=>⟨I.base.keep b o (I.ok.bs b o e).1 (I.ok.bs b o e).2 (I.ok.nofr e) (I.ok.noex b o e),I.base.free b o (I.ok.bs b o e).1 (I.ok.bs b o e).2 (I.ok.noex b o e)⟩
def aN.bk(I:aN X f g H s):∀b o,X.base.get? b=some o->s.heap.get? b=some o:=λb o e=>(I.bs b o e).1
theorem aN.mod(I:aN X f g H s):KB X.K X.mg X.base:=I.ok.mod
def aN.kIn(I:aN X f g H s):X.K.In s.heap:=I.ok.mod.kin.keeps I.bk
def aN.fr(I:aN X f g H s):∃m,Fr X.base X.env.locals s.heap m:=let⟨m,hn,_⟩:=I.loc
 ⟨m,hn,I.bk,ku I.ok.bsz I.ok.above⟩
theorem aN.lt(I:aN X f g H s):X.env.locals<s.heap.objs.size:=let⟨_,hn,_⟩:=I.loc;hn.lt
def aN.sz(I:aN X f g H s):X.s₀.heap.objs.size<=s.heap.objs.size:=ku I.ok.above (vr I.lt)
def aN.nofs(I:aN X f g H s)(h:s.heap.objs.size<=a):a∉X.fs:=λb=>by obtain⟨_,o,c,_⟩:=I.ok.funs.mem b;exact absurd (k_ (hH c) (ku I.sz h)) (ot _)
def aN.cne(I:aN X f g H s):∀x c,X.env.cells.lookup x=some c->c≠X.env.locals:=λx c e z=>by obtain⟨v,o,d,hd⟩:=I.cell x c e;obtain⟨m,⟨h,i,j,a,b,_⟩,_⟩:=I.loc;rw[z,a]at d;cases d;rw[b]at hd;cases hd
theorem aN.funs(I:aN X f g H s):s.heap.FunFrames X.base X.outer:=by
 have all:∀(l:List Env),(∀b∈jD l,b∈X.fs)->X.s₀.heap.FunFrames X.base l->s.heap.FunFrames X.base l:=by
  intro l
  induction l with|nil=>intro _ _;trivial|cons env r i=>intro h j;obtain⟨k,⟨L,o,a,hn,m,hd⟩,n⟩:=j;have c:L∈X.fs:=h L (by unfold jD;rw[LL,a];exact ir);obtain⟨sl,e⟩:=I.base.slot L o m (I.ok.frf L c) c λz=>I.ok.exfs L z c;exact⟨k,⟨L,_,a,hn,e,hd⟩,i (λb d=>h b (by unfold jD;rw[LL,a];exact hY _ d)) n⟩
 exact all X.outer (λ_ d=>d) I.ok.funs
theorem aN.stack(I:aN X f g H s):s.heap.FunFrames X.base X.stack:=by
 rcases I.ok.stk with e|⟨e,a⟩
 ·rw[e];exact I.funs
 ·rw[e];obtain⟨m,hn,_⟩:=I.loc;refine .cons (by rw[I.ok.kind];decide) a hn ?_ I.funs;exact Heap.get?_none_of_le (ku I.ok.bsz I.ok.above)
def aN.stkSub(I:aN X f g H s):∀b∈jD X.stack,b∈X.env.locals::X.fs:=λb a=>by
 rcases I.ok.stk with e|⟨e,c⟩
 ·rw[e]at a;exact hY _ a
 ·rw[e]at a;unfold jD at a;rw[LL,c]at a;exact a
def aN.stkFree(I:aN X f g H s):∀b∈jD X.stack,H b=none:=λb a=>by
 rcases o_.mp (I.stkSub b a)with e|a
 ·rw[e];exact I.free
 ·obtain⟨_,o,c,_⟩:=I.ok.funs.mem a;exact I.base.free b o c (I.ok.frf b a) λz=>I.ok.exfs b z a
def aN.step{g':Array GenState}{P:Nat}{d':Drawn}{ch:MZ}(I:aN X f g H s)(h:∀b∈ch,(b∈X.ex\/X.s₀.heap.objs.size<=b)/\b≠X.env.locals/\(∀x c,X.env.cells.lookup x=some c->c≠b)/\∀p∈X.pn++f,p.1≠b)(keep:∀b o,b≠X.env.locals->b∉X.fs->b∉ch->s.heap.get? b=some o->H b=none->h'.get? b=some o)(slot:∀b o,b≠X.env.locals->b∈X.fs->b∉ch->s.heap.get? b=some o->H b=none->∃sl,h'.get? b=some {o with slots:=sl})(free:∀b o,b∉ch->s.heap.get? b=some o->H b=none->B b=none)(there:∀b o,b∉ch->s.heap.get? b=some o->∃F,h'.get? b=some F)(tups:∀b C,H b=some (.tup C)->B b=some (.tup C))(frzs:∀b o u,H b=some (.frz o u)->B b=some (.frz o u))(tbls:∀b L,H b=some (.tbl L)->∃G,B b=some (.tbl (L++G)))(ns:∀m,s.heap.Ns X.env.locals m->h'.Ns X.env.locals m)(hok:lj X.prog X.w B h')(hg:AllBare g'):aN X f g B {s with heap:=h',gens:=g',drawn:=d',toks:=P}:=by
 have J:∀b o,X.s₀.heap.get? b=some o->b≠X.env.locals:=λb o e=>iA (k_ (hH e) I.ok.above);have y:∀b o,X.s₀.heap.get? b=some o->b∉X.ex->b∉ch:=λb o e a D=>by
  rcases(h b D).1 with z|z
  ·exact a z
  ·exact absurd (k_ (hH e) z) (ot _)
 have j:∀x c,X.env.cells.lookup x=some c->∀v,s.heap.IsCell c v->h'.IsCell c v:=λx c e v⟨o,E,hd⟩=>by
  have t:c∉ch:=λz=>(h c z).2.2.1 x c e rfl
  by_cases hc:c∈X.fs
  ·obtain⟨sl,q⟩:=slot c o (I.cne x c e) hc t E (I.freeC x c e);exact⟨_,q,hd⟩
  ·exact⟨o,keep c o (I.cne x c e) hc t E (I.freeC x c e),hd⟩
 refine⟨I.ok,I.os,hg,⟨λb o e n D a=>?_,λb o e n D a=>?_,λb o e n a=>?_,λb o e a=>?_,λb C e=>tups b C (I.base.tups b C e),λb o C e=>frzs b o C (I.base.frzs b o C e),λb L e=>?_⟩,?_,λx c e=>?_,?_,λx c e=>?_,λp N=>?_,hok,I.len⟩
 ·exact keep b o (J b o e) D (y b o e a) (I.base.keep b o e n D a) (I.base.free b o e n a)
 ·obtain⟨sl,A⟩:=I.base.slot b o e n D a;obtain⟨M,K⟩:=slot b _ (J b o e) D (y b o e a) A (I.base.free b o e n a);exact⟨M,K⟩
 ·obtain⟨F,A⟩:=I.base.there b o e a;exact free b F (y b o e a) A (I.base.free b o e n a)
 ·obtain⟨F,A⟩:=I.base.there b o e a;exact there b F (y b o e a) A
 ·obtain⟨O,A⟩:=I.base.tbls b L e;obtain⟨Q,K⟩:=tbls b _ A;exact⟨O++Q,by rw[K,Mu]⟩
 ·obtain⟨m,hn,R⟩:=I.loc;refine⟨m,ns m hn,λi x v A K S=>?_⟩;obtain⟨u,r,l⟩:=R i x v A K S;refine⟨u,r,?_⟩;rcases l with l|⟨k,c,e,z⟩
  ·exact .inl l
  ·exact .inr ⟨k,c,e,j x c e _ z⟩
 ·obtain⟨v,z⟩:=I.cell x c e;exact⟨v,j x c e v z⟩
 ·obtain⟨m,⟨o,_,_,E,_⟩,_⟩:=I.loc;exact free _ o (λz=>(h _ z).2.1 rfl) E I.free
 ·obtain⟨v,o,E,hd⟩:=I.cell x c e;exact free c o (λz=>(h c z).2.2.1 x c e rfl) E (I.freeC x c e)
 ·obtain⟨e,n,ne,nf,d⟩:=I.pin p N;have t:p.1∉ch:=λz=>(h p.1 z).2.2.2 p N rfl;exact⟨keep p.1 p.2 ne nf t e n,free p.1 p.2 t e n,ne,nf,d⟩
def aN.un{t':Nat}(I:aN X f g H s)(u:Un X.fs [] H B s.heap h')(hok:lj X.prog X.w B h'):aN X f g B {s with heap:=h',toks:=t'}:=by obtain⟨m,⟨o,l,p,i,r⟩,_⟩:=id I.loc;obtain⟨sl,j⟩:=u.any i I.free (by simp);exact I.step (g':=s.gens) (d':=s.drawn) (ch:=[]) (λ_ z=>nomatch z) (λb o _ c _ e n=>u.keep b o e n c (by simp)) (λb o _ c _ e n=>u.slot b o e n c (by simp)) (λb o _ e n=>u.free b o e n (by simp)) (λb o _ e=>u.there b o e (by simp)) u.tups u.frzs u.tbls (λx hm=>by obtain⟨y,d,h,a,k⟩:=hm;rw[i]at a;cases a;exact⟨_,d,h,j,k⟩) hok I.bare
def aN.call{g':Array GenState}{t':Nat}{d':Drawn}{ch:MZ}(I:aN X f g H s)(u:Un (jD X.stack) ch H B s.heap h')(hok:lj X.prog X.w B h')(hg:AllBare g')(a:∀b∈ch,(b∈X.ex\/X.s₀.heap.objs.size<=b)/\b≠X.env.locals/\(∀x c,X.env.cells.lookup x=some c->c≠b)/\∀p∈X.pn++f,p.1≠b):aN X f g B {s with heap:=h',gens:=g',drawn:=d',toks:=t'}:=by obtain⟨m,⟨o,t,v,k,r⟩,_⟩:=id I.loc;obtain⟨sl,h⟩:=u.any k I.free λz=>(a _ z).2.1 rfl;exact I.step (ch:=ch) a (λb o h l hc e n=>u.keep b o e n (λz=>(o_.mp (I.stkSub b z)).elim h l) hc) (λb o _ _ hc e n=>u.any e n hc) (λb o hc e n=>u.free b o e n hc) (λb o hc e=>u.there b o e hc) u.tups u.frzs u.tbls (λy hm=>by obtain⟨A,i,j,d,q⟩:=hm;rw[k]at d;cases d;exact⟨_,i,j,h,q⟩) hok hg
def aN.turned{t':Nat}{it:Addr}(I:aN X f g H s)(k:∀b o,b≠it->s.heap.get? b=some o->h'.get? b=some o)(hn:H it=none)(d:it≠X.env.locals)(h1:it∈X.ex\/X.s₀.heap.objs.size<=it)(h2:∀x c,X.env.cells.lookup x=some c->c≠it)(h3:∀p∈X.pn++f,p.1≠it):aN X f g H {s with heap:=h',toks:=t'}:=by
 have a:∀b u,H b=some u->b≠it:=λb u e z=>by rw[z,hn]at e;cases e
 refine I.step (g':=s.gens) (d':=s.drawn) (ch:=[it]) (λb h=>?_) (λb o _ _ hc e _=>k b o (λz=>hc (by simp[z])) e) (λb o _ _ hc e _=>⟨o.slots,k b o (λz=>hc (by simp[z])) e⟩) (λ_ _ _ _ n=>n) (λb o hc e=>⟨o,k b o (λz=>hc (by simp[z])) e⟩) (λ_ _ e=>e) (λ_ _ _ e=>e) (λb A e=>⟨#[],by rw[e];simp⟩) (λm hm=>?_) (λb u e=>?_) I.bare
 ·have e:b=it:=by simpa using h
  subst e;exact⟨h1,d,h2,h3⟩
 ·obtain⟨o,i,j,l,r⟩:=hm;exact⟨o,i,j,k _ o (mu d) l,r⟩
 ·refine(I.hok b u e).stay (λc v hc q=>k c v ?_ q) (λ_ q=>q) λ_ _ q=>q;rcases hc with z|z
  ·rw[z];exact a b u e
  ·exact a c _ z
def aN.tok(I:aN X f g H s)(t:Nat):aN X f g H {s with toks:=t}:=I.un (h':=s.heap) (t':=t) Un.refl I.hok
theorem aN.kept(I:aN X f g H s)(k:∀b u,s.heap.get? b=some u->h'.get? b=some u):aN X f g H {s with heap:=h',toks:=t'}:=I.un (Un.kept k) (I.hok.kept k)
theorem aN.laid(I:aN X f g H s)(k:∀b u,s.heap.get? b=some u->h'.get? b=some u)(c:s.heap.objs.size<=a)(new:cV X.prog X.w (aG H a o) h' a o):aN X f g (aG H a o) {s with heap:=h',toks:=t'}:=I.un (Un.laid k c (I.hok.fresh c)) (I.hok.laid k c new)
theorem aN.write(I:aN X f g H s)(c:Kz (H x))(d:e=x\/H e=some (.own x))(k:∀b u,b≠e->s.heap.get? b=some u->h'.get? b=some u)(a:∃u,h'.get? e=some u)(new:cV X.prog X.w (aG H x o) h' x o):aN X f g (aG H x o) {s with heap:=h',toks:=t'}:=I.un (Un.write c d k a) (I.hok.write c d k a new)
def aN.weak(I:aN X f g H s)(c:a.length=g.length)(w:∀(i:Nat)v,a[i]?=some (some v)->g[i]?=some (some v)):aN X f a H s:=⟨I.ok,I.os,I.bare,I.base,let⟨m,hn,b⟩:=I.loc;⟨m,hn,λi x v d e h=>b i x v d (w i v e) h⟩,I.cell,I.free,I.freeC,I.pin,I.hok,c.trans I.len⟩
def aN.pins_of(I:aN X f g H s)(h:∀p∈a,s.heap.get? p.1=some p.2/\H p.1=none/\p.1≠X.env.locals/\p.1∉X.fs/\∀v,p.2.data≠.cell v):aN X a g H s:=⟨I.ok,I.os,I.bare,I.base,I.loc,I.cell,I.free,I.freeC,λp b=>(List.mem_append.mp b).elim (λz=>I.pin p (vu _ z)) (h p),I.hok,I.len⟩
def yd{N:MV}(c:N.Nodup){i j:Nat}{x:Str}(a:N[i]?=some x)(b:N[j]?=some x):i=j:=by obtain⟨h1,d⟩:=d_.mp a;obtain⟨h2,e⟩:=d_.mp b;exact(List.getElem_inj c).mp (d.trans e.symm)
def vj{M:Model}{A:Around}{E:MQ}{i:Nat}{x:Str}{v:V}{u:Value}{Q:Unit->Shared->Prop}(I:aN X f g H s)(hN:X.N.Nodup)(hi:X.N[i]?=some x)(D:Jn X.env.scope x)(r:aU v u)(h:∀s',aN X f (g.set i (some v)) H s'->(∃a,Heap.SameBut a s.heap s'.heap/\(a=X.env.locals\/X.env.cells.lookup x=some a))->Q () s')(hf:X.fn x=true\/X.env.scope.names.lookup x=some .local:=by first|exact .inl rfl|exact .inr rfl|assumption):wpAny M A (storeName X.env x u) Q E s:=by
 obtain⟨m,hn,hl⟩:=id I.loc;have R:(X.env.scope.kind==.class||(X.env.scope.kind==.module&&X.env.locals !=X.env.globals))=false:=by rw[I.ok.kind];rfl
 have J:i<g.length:=by rw[I.len];exact(d_.mp hi).1
 have cne:=I.cne;have t:∀{a:Addr}{h':Heap},(∃o,s.heap.get? a=some o/\H a=none)->Heap.SameBut a s.heap h'->lj X.prog X.w H h':=λ{a h'}ha l b ob e=>by
  obtain⟨_,_,F⟩:=ha;refine(I.hok b ob e).stay (λc Y hc q=>(l.2 c ?_).trans q) (λ_ q=>q) λ_ _ q=>q;rintro rfl;rcases hc with rfl|hc
  ·rw[F]at e;cases e
  ·rw[F]at hc;cases hc
 rcases D with K|K
 ·refine wpAny_storeName_local K hn (λh' aa l=>?_) R;obtain⟨oL,_,_,ad,_⟩:=id hn;refine h _ ⟨I.ok,I.os,I.bare,⟨λb o e n L D=>?_,λb o e n L D=>?_,I.base.free,λb o e D=>?_,I.base.tups,I.base.frzs,I.base.tbls⟩,⟨_,aa,λj y v' C G e3=>?_⟩,λy c e=>?_,I.free,I.freeC,λp hp=>?_,t ⟨oL,ad,I.free⟩ l,by simpa using I.len⟩ ⟨_,l,.inl rfl⟩
  ·exact(l.2 b (iA (k_ (hH e) I.ok.above))).trans (I.base.keep b o e n L D)
  ·obtain⟨sl,C⟩:=I.base.slot b o e n L D;exact⟨sl,(l.2 b (iA (k_ (hH e) I.ok.above))).trans C⟩
  ·obtain⟨o',C⟩:=I.base.there b o e D;exact⟨o',(l.2 b (iA (k_ (hH e) I.ok.above))).trans C⟩
  ·by_cases O:j=i
   ·subst O;rw[hi]at C;cases C;rw[y2 J]at G;cases G;exact⟨u,r,.inl ⟨K,by simp⟩⟩
   ·rw[o0 (mu O)]at G;obtain⟨u',r',q⟩:=hl j y v' C G e3;refine⟨u',r',?_⟩;rcases q with⟨k,e⟩|⟨k,c,e,z⟩
    ·refine .inl ⟨k,?_⟩;have:y≠x:=λe=>O (yd hN C (e▸hi));simp[this,e]
    ·exact .inr ⟨k,c,e,z.sameBut l (cne y c e)⟩
  ·obtain⟨Y,z⟩:=I.cell y c e;exact⟨Y,z.sameBut l (cne y c e)⟩
  ·obtain⟨e,n,ne,nf,d⟩:=I.pin p hp;exact⟨(l.2 p.1 ne).trans e,n,ne,nf,d⟩
 ·have P:X.fn x=true:=by
   rcases hf with z|z
   ·exact z
   ·rw[z]at K;cases K
  obtain⟨c,hc⟩:=I.ok.has x (.inl K);obtain⟨Y,z⟩:=I.cell x c hc;refine wpAny_storeName_cell I.ok.kind K hc z (λh' S l=>?_);obtain⟨oc,T,U⟩:=id z;refine h {s with heap:=h'} ⟨I.ok,I.os,I.bare,⟨λb o e n L D=>?_,λb o e n L D=>?_,I.base.free,λb o e D=>?_,I.base.tups,I.base.frzs,I.base.tbls⟩,⟨m,hn.sameBut l (mu (cne x c hc)),λj y v' C G e3=>?_⟩,λy Z e=>?_,I.free,I.freeC,λp hp=>?_,t ⟨oc,T,I.freeC x c hc⟩ l,by simpa using I.len⟩ ⟨c,l,.inr hc⟩
  ·exact(l.2 b (iA (k_ (hH e) (I.ok.cab x c P hc)))).trans (I.base.keep b o e n L D)
  ·obtain⟨sl,C⟩:=I.base.slot b o e n L D;exact⟨sl,(l.2 b (iA (k_ (hH e) (I.ok.cab x c P hc)))).trans C⟩
  ·obtain⟨o',C⟩:=I.base.there b o e D;exact⟨o',(l.2 b (iA (k_ (hH e) (I.ok.cab x c P hc)))).trans C⟩
  ·by_cases O:j=i
   ·subst O;rw[hi]at C;cases C;rw[y2 J]at G;cases G;exact⟨u,r,.inr ⟨.inl K,c,hc,S⟩⟩
   ·rw[o0 (mu O)]at G;obtain⟨u',r',q⟩:=hl j y v' C G e3;refine⟨u',r',?_⟩;rcases q with q|⟨k,Z,e,z'⟩
    ·exact .inl q
    ·refine .inr ⟨k,Z,e,z'.sameBut l ?_⟩;rintro rfl;exact O (yd hN C (I.ok.inj _ _ _ e hc▸hi))
  ·by_cases W:Z=c
   ·subst W;exact⟨_,S⟩
   ·obtain⟨w2,z2⟩:=I.cell y Z e;exact⟨w2,z2.sameBut l W⟩
  ·obtain⟨e,n,ne,nf,d⟩:=I.pin p hp;refine⟨(l.2 p.1 ?_).trans e,n,ne,nf,d⟩;intro q;rw[q,T]at e;have q':oc=p.2:=kl e;exact d Y (by rw[<-q'];exact U)
def xo(I:aN X f g H s)(c:X.N.Nodup)(hi:X.N[i]?=some x)(d:Jn X.env.scope x)(r:aU v u)(h:∀a,aN X f (g.set i (some v)) H a->Q () a)(e:X.fn x=true\/X.env.scope.names.lookup x=some .local:=by first|exact .inl rfl|exact .inr rfl|assumption):wpAny M A (storeName X.env x u) Q E s:=vj I c hi d r (λa b _=>h a b) e
def aN.call'(I:aN X f g H s)(j:s'.os=s.os)(u:Un (jD X.stack) ch H B s.heap s'.heap)(hok:lj X.prog X.w B s'.heap)(hg:AllBare s'.gens)(a:∀b∈ch,(b∈X.ex\/X.s₀.heap.objs.size<=b)/\b≠X.env.locals/\(∀x c,X.env.cells.lookup x=some c->c≠b)/\∀p∈X.pn++f,p.1≠b):aN X f g B s':=by obtain⟨h',d,h,i,k⟩:=s';have e:k=s.os:=j;subst e;exact I.call (g':=d) (t':=i) (d':=h) u hok hg a
end
abbrev XK:=Value->Option Addr->Hp->Prop
abbrev St:=List (Option V)
abbrev VK:=V->Hp->Prop
abbrev TE:=St->Hp->VK->Prop
abbrev TT:=St->Hp->(Bool->Hp->Prop)->Prop
abbrev TA:=St->Hp->(List V->Hp->Prop)->Prop
structure lg where
 nx:St->Hp->Prop
 rt:VK
 bk:St->Hp->Prop:=λ_ _=>False
 ct:St->Hp->Prop:=λ_ _=>False
abbrev TS:=lg->St->Hp->Prop
def EP(X:Cx)(a:MR)(c:St)(Q:VK)(u:Value)(d:Shared):Prop:=∃v b,aN X a c b d/\aU v u/\Q v b
def TP(X:Cx)(a:MR)(d:St)(Q:Bool->Hp->Prop)(b:Bool)(e:Shared):Prop:=∃c,aN X a d c e/\Q b c
def AP(X:Cx)(a:MR)(d:St)(Q:List V->Hp->Prop)(e:MT)(f:Shared):Prop:=∃b c,aN X a d c f/\aZ b e/\Q b c
def SP(X:Cx)(c:MR)(D:lg)(f:Flow)(d:Shared):Prop:=match f with|.next=>∃a b,aN X c a b d/\D.nx a b|.brk=>∃a b,aN X c a b d/\D.bk a b|.cont=>∃a b,aN X c a b d/\D.ct a b|.ret u=>∃v a b,aN X c a b d/\aU v u/\D.rt v b
def PE(X:Cx)(e:Expr)(t:TE):Prop:=∀(a:MR)(s:Shared)(b:St)(H:Hp)(Q:VK),aN X a b H s->t b H Q->wpAny (model X.prog X.w) X.A (eval e X.env) (EP X a b Q) X.xe s
def PT(X:Cx)(e:Expr)(t:TT):Prop:=∀(a:MR)(s:Shared)(b:St)(H:Hp)(Q:Bool->Hp->Prop),aN X a b H s->t b H Q->wpAny (model X.prog X.w) X.A (isTrue e X.env (eval e X.env)) (TP X a b Q) X.xe s
def PW(X:Cx)(e:Expr)(t:TT):Prop:=∀(b:Sem Value)(a:MR)(s:Shared)(c:St)(H:Hp)(Q:Bool->Hp->Prop),aN X a c H s->t c H Q->wpAny (model X.prog X.w) X.A (isTrue e X.env b) (TP X a c Q) X.xe s
def PW.pt(h:PW X e t):PT X e t:=h _
def PA(X:Cx)(d:MW)(t:TA):Prop:=∀(b:Pos)(a:MR)(s:Shared)(c:St)(H:Hp)(Q:List V->Hp->Prop),aN X a c H s->t c H Q->wpAny (model X.prog X.w) X.A (spliced (backTo b (starEach d X.env))) (AP X a c Q) X.xe s
def PS(X:Cx)(st:Stmt)(t:TS):Prop:=∀(a:MR)(s:Shared)(b:St)(H:Hp)(D:lg),aN X a b H s->t D b H->wpAny (model X.prog X.w) X.A (exec st X.env) (SP X a D) X.xe s
def u6(X:Cx)(st:List Stmt)(t:TS):Prop:=∀(a:MR)(s:Shared)(b:St)(H:Hp)(D:lg),aN X a b H s->t D b H->wpAny (model X.prog X.w) X.A (execs st X.env) (SP X a D) X.xe s
def ce(h:wpAny M A t Q E s)(c:∀a s,Q a s->d a s):wpAny M A t d E s:=wpAny_mono h c λ_ _ x=>x
end L2
namespace L2
open PySem PySem.Spec PyProof.Rows
section
variable{X:Cx}
def Hf(i:Nat):TE:=λa H Q=>∃v,a[i]?=some (some v)/\Q v H
def tC(v:V):TE:=λ_ H Q=>Q v H
def HS(j:X.N[i]?=some x)(n:KO X.env.scope x)(hd:(x==("__debug__":Str))=false:=by decide)(g:(x==("__classdict__":Str))=false:=by decide):PE X (.Name x f) (Hf i):=by
 intro d s k H Q I h;obtain⟨v,e,h⟩:=h;obtain⟨m,hn,o⟩:=I.loc;obtain⟨u,r,l⟩:=o i x v j e n;have fin:EP X d k Q u s:=⟨v,H,I,r,h⟩;rcases l with⟨b,hm⟩|⟨b,c,hc,a⟩
 ·exact wpAny_Name (wpAny_loadName_local I.ok.kind b hn hm fin) hd
 ·rcases b with b|b
  ·exact wpAny_Name (wpAny_loadName_cell I.ok.kind b hc a fin) hd
  ·exact wpAny_Name (wpAny_loadName_free I.ok.kind b hc a fin g) hd
def ae{i j f}:PE X (.Constant (.int i) j f) (tC (.int i)):=λ_ _ _ H _ I h=>wpAny_Constant_int ⟨.int i,H,I.tok _,⟨_,rfl⟩,h⟩
def gi{b j f}:PE X (.Constant (.bool b) j f) (tC (.bl b)):=λ_ _ _ H _ I h=>Constant_bool ⟨.bl b,H,I,rfl,h⟩
def pI{j f}:PE X (.Constant .none j f) (tC .non):=λ_ _ _ H _ I h=>Constant_none ⟨.non,H,I,rfl,h⟩
def ay{x j f}:PE X (.Constant (.str x) j f) (tC (.str x)):=λ_ _ _ H _ I h=>Calls.Constant_str ⟨.str x,H,I.tok _,⟨_,rfl⟩,h⟩
def Gl(X:Cx)(x:Str):Prop:=X.env.kindOf x=some .globalImplicit
def oV(I:aN X a c H s)(hg:Gl X x)(hm:X.mg x=some u)(h:Q u s)(hd:(x==("__debug__":Str))=false:=by decide):wpAny (model X.prog X.w) X.A (eval (.Name x f) X.env) Q E s:=Calls.Name_function_global I.ok.kind hg (Calls.loadGlobal_global (by rw[I.ok.glob];exact I.mod.glob.keeps I.bk) hm h) hd
def kO(I:aN X a d H s)(hg:Gl X x)(hm:X.mg x=none)(c:bootBuiltins x=some u)(h:Q u s)(hn:x≠"__name__":=by decide)(hd:(x==("__debug__":Str))=false:=by decide):wpAny (model X.prog X.w) X.A (eval (.Name x f) X.env) Q E s:=by obtain⟨b,h1,h2⟩:=I.mod.blt;exact Calls.Name_function_global I.ok.kind hg (Calls.loadGlobal_builtin (by rw[I.ok.glob];exact I.mod.glob.keeps I.bk) hm (by rw[I.ok.blt];exact h1.keeps I.bk) ((h2 x hn).trans c) h) hd
def Ad(hg:Gl X x)(hm:X.mg x=some u)(r:aU v u)(hd:(x==("__debug__":Str))=false:=by decide):PE X (.Name x f) (tC v):=λ_ _ _ H _ I h=>oV I hg hm ⟨v,H,I,r,h⟩ hd
def FI{x:Str}{v:V}{u:Value}{f:Pos}(hg:Gl X x)(hm:X.mg x=none)(a:bootBuiltins x=some u)(r:aU v u)(hn:x≠"__name__":=by decide)(hd:(x==("__debug__":Str))=false:=by decide):PE X (.Name x f) (tC v):=λ_ _ _ H _ I h=>kO I hg hm a ⟨v,H,I,r,h⟩ hn hd
variable{a b:Expr}{g o:TE}{f:Pos}
def PC(X:Cx)(h:CmpOp)(a b:Expr)(t:TE):Prop:=∀(c:MR)(s:Shared)(e:St)(H:Hp)(Q:VK),aN X c e H s->t e H Q->wpAny (model X.prog X.w) X.A (eval a X.env) (λv s₁=>wpAny (model X.prog X.w) X.A (eval b X.env) (λu d=>wpAny (model X.prog X.w) X.A (compareOp h v u) (EP X c e Q) X.xe d) X.xe s₁) X.xe s
def tB(t:TE):TT:=λd H Q=>t d H λx e=>∃c,x=.bl c/\Q c e
def pH(h:PC X i a b t)(h1:behindInMarks i b=false:=by first|exact nobehind _ (by decide) (by decide)|rfl):PT X (.Compare a [i] [b] f) (tB t):=by intro e s j H Q I k;refine wpAny_isTrue_Compare1 (ce (h e s j H _ I k) λv p h1=>ce h1 λu r h2=>ce h2 λc w⟨x,l,I1,m,n⟩=>?_) h1;obtain⟨d,rfl,q⟩:=n;cases m;exact pa ⟨l,I1,q⟩
variable{n p:TT}{pG:MW}
def K1(t u:TT):TT:=λd H Q=>t d H λc e=>if c=true then u d e Q else Q false e
def tOr(t u:TT):TT:=λd H Q=>t d H λc e=>if c=true then Q true e else u d e Q
def KW(t:TT):TT:=λd H Q=>t d H λc e=>Q (!c) e
def kF(i:PT X a n):PW X (.BoolOp .And [a] f) n:=by intro k d s j H Q I h;refine isTrue_and (ce (i d s j H Q I h) λc l e=>?_);cases c with|true=>exact isTrue_and_nil e|false=>exact e
def eB(i:PT X a n):PW X (.BoolOp .Or [a] f) n:=by intro k d s j H Q I h;refine isTrue_or (ce (i d s j H Q I h) λc l e=>?_);cases c with|false=>exact isTrue_or_nil e|true=>exact e
def nz(l:PT X a n)(m:PW X (.BoolOp .And (b::pG) f) p):PW X (.BoolOp .And (a::b::pG) f) (K1 n p):=by intro k d s e H Q I h;refine isTrue_and (ce (l d s e H _ I h) λc q r=>?_);obtain⟨i,I1,j⟩:=r;cases c with|true=>exact m k d q e i Q I1 j|false=>exact⟨i,I1,j⟩
def gc(l:PT X a n)(m:PW X (.BoolOp .Or (b::pG) f) p):PW X (.BoolOp .Or (a::b::pG) f) (tOr n p):=by intro k d s e H Q I h;refine isTrue_or (ce (l d s e H _ I h) λc q r=>?_);obtain⟨i,I1,j⟩:=r;cases c with|true=>exact⟨i,I1,j⟩|false=>exact m k d q e i Q I1 j
def cB(e:PT X a n):PT X (.UnaryOp .Not a f) (KW n):=by intro d s i H Q I h;exact isTrue_not (e d s i H (λc j=>Q (!c) j) I h)
def JD(g o:TE):TE:=λd H Q=>g d H λx e=>∃c,x=.bl c/\if c=true then o d e Q else Q (.bl false) e
def KU(g o:TE):TE:=λd H Q=>g d H λx e=>∃c,x=.bl c/\if c=true then Q (.bl true) e else o d e Q
def Jw(g:TE):TE:=λd H Q=>g d H λx e=>∃c,x=.bl c/\Q (.bl (!c)) e
def dk{d}(h:PE X a t):PE X (.BoolOp d [a] f) t:=λc s e H Q I i=>BoolOp_one (h c s e H Q I i)
def cw(l:PE X a g)(m:PE X (.BoolOp .And (b::pG) f) o):PE X (.BoolOp .And (a::b::pG) f) (JD g o):=by intro d s i H Q I h;refine BoolOp_and (ce (l d s i H _ I h) λv k q=>?_);obtain⟨x,j,I1,r,e⟩:=q;obtain⟨c,rfl,e⟩:=e;cases r;refine pa ?_;cases c with|true=>exact m d k i j Q I1 e|false=>exact⟨.bl false,j,I1,rfl,e⟩
def JU(l:PE X a g)(m:PE X (.BoolOp .Or (b::pG) f) o):PE X (.BoolOp .Or (a::b::pG) f) (KU g o):=by intro d s i H Q I h;refine BoolOp_or (ce (l d s i H _ I h) λv k q=>?_);obtain⟨x,j,I1,r,e⟩:=q;obtain⟨c,rfl,e⟩:=e;cases r;refine pa ?_;cases c with|false=>exact m d k i j Q I1 e|true=>exact⟨.bl true,j,I1,rfl,e⟩
def C3(i:PE X a g):PE X (.UnaryOp .Not a f) (Jw g):=by intro d s j H Q I h;refine UnaryOp_ (ce (i d s j H _ I h) λv q k=>?_);obtain⟨x,l,I1,m,e⟩:=k;obtain⟨c,rfl,e⟩:=e;cases m;exact not_of (pa ⟨.bl (!c),l,I1,rfl,e⟩)
def tIf(t:TT)(g o:TE):TE:=λd H Q=>t d H λc e=>if c=true then g d e Q else o d e Q
def xO(hc:PT X c n)(m:PE X a g)(q:PE X b o):PE X (.IfExp c a b f) (tIf n g o):=by intro e s i H Q I h;refine wpAny_IfExp (ce (hc e s i H _ I h) λd j r=>?_);obtain⟨k,I1,l⟩:=r;cases d with|true=>exact m e j i k Q I1 l|false=>exact q e j i k Q I1 l
end
end L2
namespace L2
open PySem PySem.Spec PyProof.Rows
def aW(K:MP)(H:Hp)(a:Addr)(c:List V):Prop:=Rd H a (.lst c)\/∃(o:Obj)(b:MX)(n:Nat),K.lookup a=some o/\o.cls=.type "list"/\o.dict=none/\o.data=.seq b n/\b.size<=sizeLine/\aZ c b.toList
def aX(K:MP)(H:Hp)(a:Addr)(c:List V):Prop:=Rd H a (.tup c)\/∃(o:Obj)(b:MX)(n:Nat),K.lookup a=some o/\o.cls=.type "tuple"/\o.data=.seq b n/\b.size<=sizeLine/\aZ c b.toList
def Lj:Value->Option V|.none=>some .non|.bool b=>some (.bl b)|.int i _=>some (.int i)|.str x _=>some (.str x)|.bytes b _=>some (.byt b)|.float b _=>some (.flt b)|.ref a=>some (.ref a)|.type n=>some (.ty n)|_=>none
def aU.abs(r:aU x u):Lj u=some x:=by cases x with|non=>cases r;rfl|bl _=>cases r;rfl|int _=>obtain⟨t,rfl⟩:=r;rfl|str _=>obtain⟨t,rfl⟩:=r;rfl|byt _=>obtain⟨t,rfl⟩:=r;rfl|flt _=>obtain⟨t,rfl⟩:=r;rfl|ref _=>cases r;rfl|ty _=>cases r;rfl
def aU.inj(r:aU x u)(q:aU y u):x=y:=kl (r.abs.symm.trans q.abs)
theorem aZ.inj:∀{a c:List V}{d:MT},aZ a d->aZ c d->a=c|_,_,_,.nil,.nil=>rfl|_,_,_,.cons r t,.cons b e=>by rw[r.inj b,aZ.inj t e]
section
variable{X:Cx}{c:MR}{f:St}{H:Hp}{s:Shared}{a:Addr}{xs g:List V}
def aW.of{K:MP}(h:H a=some (.lst xs)):aW K H a xs:=.inl (.inl h)
def aX.of{K:MP}(h:H a=some (.tup xs)):aX K H a xs:=.inl (.inl h)
def aN.list(I:aN X c f H s)(h:aW X.K H a xs):∃d:List Value,aZ xs d/\PlainL s.heap a d.toArray/\xs.length<=sizeLine:=by
 rcases h with h|⟨o,d,n,b,hc,hd,i,j,r⟩
 ·obtain⟨z,d,n,r,e⟩:=h.ok I.hok;exact⟨d,r,⟨_,n,e,rfl,rfl,rfl⟩,z⟩
 ·refine⟨d.toList,r,⟨o,n,I.kIn a o b,hc,hd,by simpa using i⟩,?_⟩;have e:=r.length;simp only[kt]at e;lia
def aN.tuple(I:aN X c f H s)(h:aX X.K H a xs):∃d:List Value,aZ xs d/\IsTup s.heap a d.toArray/\xs.length<=sizeLine:=by
 rcases h with h|⟨o,d,n,b,hc,i,j,r⟩
 ·obtain⟨z,d,r,p⟩:=h.ok I.hok;exact⟨d,r,p,z⟩
 ·refine⟨d.toList,r,⟨o,I.kIn a o b,hc,n,by simpa using i⟩,?_⟩;have e:=r.length;simp only[kt]at e;lia
def aN.list_inj(I:aN X c f H s)(h:aW X.K H a xs)(h':aW X.K H a g):xs=g:=by
 obtain⟨i,r,⟨o,n,e,_,_,d⟩,_⟩:=I.list h;obtain⟨b,l,⟨p,q,j,_,_,k⟩,_⟩:=I.list h';rw[e]at j;cases j;rw[d]at k;injection k with m _;have:i=b:=by simpa using r4 Array.toList m
 subst this;exact r.inj l
def aN.tuple_inj(I:aN X c f H s)(h:aX X.K H a xs)(h':aX X.K H a g):xs=g:=by
 obtain⟨i,r,⟨o,e,_,n,d⟩,_⟩:=I.tuple h;obtain⟨b,l,⟨p,j,_,q,k⟩,_⟩:=I.tuple h';rw[e]at j;cases j;rw[d]at k;injection k with m _;have:i=b:=by simpa using r4 Array.toList m
 subst this;exact r.inj l
end
abbrev Cx.wish(X:Cx)(E:MQ):Cx:={X with xe:=E}
abbrev Cx.nox(X:Cx):Cx:=X.wish λ_ _=>False
theorem Cx.Ok.wish{X:Cx}(ok:X.Ok)(E:MQ):(X.wish E).Ok:=⟨ok.mod,ok.kind,ok.glob,ok.blt,ok.above,ok.inj,ok.has,ok.cab,ok.hd,ok.frames,ok.stk,ok.exf,ok.bs,ok.bsz,ok.noex,ok.exfs,ok.funs,ok.frf⟩
def Cx.Ok.unwish{X:Cx}{E:MQ}(ok:(X.wish E).Ok):X.Ok:=⟨ok.mod,ok.kind,ok.glob,ok.blt,ok.above,ok.inj,ok.has,ok.cab,ok.hd,ok.frames,ok.stk,ok.exf,ok.bs,ok.bsz,ok.noex,ok.exfs,ok.funs,ok.frf⟩
section
variable{X:Cx}{a:MR}{c:St}{H:Hp}{s:Shared}{E:MQ}
theorem aN.wish(I:aN X a c H s)(E:MQ):aN (X.wish E) a c H s:=⟨I.ok.wish E,I.os,I.bare,I.base,I.loc,I.cell,I.free,I.freeC,I.pin,I.hok,I.len⟩
theorem aN.unwish(I:aN (X.wish E) a c H s):aN X a c H s:=⟨I.ok.unwish,I.os,I.bare,I.base,I.loc,I.cell,I.free,I.freeC,I.pin,I.hok,I.len⟩
theorem SP.unwish(h:SP (X.wish E) a D f e):SP X a D f e:=by cases f with|next=>obtain⟨b,d,I,q⟩:=h;exact⟨b,d,I.unwish,q⟩|brk=>obtain⟨b,d,I,q⟩:=h;exact⟨b,d,I.unwish,q⟩|cont=>obtain⟨b,d,I,q⟩:=h;exact⟨b,d,I.unwish,q⟩|ret u=>obtain⟨v,b,d,I,r,q⟩:=h;exact⟨v,b,d,I.unwish,r,q⟩
theorem u6.nox{st:List Stmt}{t:TS}(h:u6 X.nox st t):u6 X st t:=λa s c H D I b=>wpAny_mono (h a s c H D (I.wish _) b) (λ_ _ q=>q.unwish) λ_ _ z=>False.elim z
end
section
variable{X:Cx}{st:Stmt}{pG:List Stmt}{t u:TS}{e:Expr}{te:TE}{g:Pos}
def vh:TS:=λD a H=>D.nx a H
def AT(t u:TS):TS:=λD a H=>t {D with nx:=u D} a H
def aC:u6 X [] vh:=λ_ _ a H _ I h=>LD ⟨a,H,I,h⟩
def ag(h1:PS X st t)(h2:u6 X pG u):u6 X (st::pG) (AT t u):=by intro a s c H D I h;refine MD (ce (h1 a s c H {D with nx:=u D} I h) λf d q=>?_);cases f with|next=>obtain⟨b,i,j,q⟩:=q;exact h2 a d b i D j q|ret v=>exact q|brk=>exact q|cont=>exact q
def ah(h1:PS X st t):u6 X [st] t:=by intro a s b H D I h;refine MD (ce (h1 a s b H D I h) λf c q=>?_);cases f with|next=>exact LD q|ret v=>exact q|brk=>exact q|cont=>exact q
def aN.quiet(I:aN X a c H s):interactive X.env=false:=by simp[interactive,I.ok.kind]
def GJ(te:TE):TS:=λD a H=>te a H λ_ b=>D.nx a b
def aV(c:PE X e te)(d:swapsWith e none g.line X.env=pure false:=by rfl):PS X (.Expr e g) (GJ te):=by intro a s b H D I h;exact wpAny_Expr_any (ce (c a s b H _ I h) λv j⟨x,f,I1,k,i⟩=>⟨b,f,I1,i⟩) I.quiet d
def Ju(te:TE):TS:=λD a H=>te a H D.rt
def az(c:PE X e te):PS X (.Return (some e) g) (Ju te):=by intro a s b H D I h;refine wpAny_Return_some (ce (c a s b H _ I h) λv k d=>?_);obtain⟨x,f,I1,i,j⟩:=d;exact⟨x,b,f,I1,i,j⟩
def ET(c:TT)(t u:TS):TS:=λD a H=>c a H λb d=>if b=true then t D a d else u D a d
def aM(hc:PT X c tc)(m:u6 X a t)(n:u6 X b u):PS X (.If c a b g) (ET tc t u):=by intro f s i H D I h;refine wpAny_If (ce (hc f s i H _ I h) λd j o=>?_);obtain⟨k,I1,l⟩:=o;cases d with|true=>exact m f j i k D I1 l|false=>exact n f j i k D I1 l
def Hh:TS:=λ_ _ _=>False
def cr:PS X st Hh:=λ_ _ _ _ _ _ h=>h.elim
end
abbrev TG:=V->St->Hp->(St->Hp->Prop)->Prop
abbrev Jk:=List V->St->Hp->(St->Hp->Prop)->Prop
def PG(X:Cx)(a:Expr)(t:TG):Prop:=∀(b:MR)(s:Shared)(d:St)(H:Hp)(v:V)(u:Value)(Q:St->Hp->Prop),aN X b d H s->aU v u->t v d H Q->wpAny (model X.prog X.w) X.A (assign a X.env u) (λ_ f=>∃c e,aN X b c e f/\Q c e) X.xe s
def IT(X:Cx)(g:MW)(t:Jk):Prop:=∀(a:MR)(s:Shared)(c:St)(H:Hp)(d:List V)(e:MT)(Q:St->Hp->Prop),aN X a c H s->aZ d e->t d c H Q->wpAny (model X.prog X.w) X.A (assignInOrder ((assignEach g X.env).map (·.2)) e) (λ_ h=>∃b f,aN X a b f h/\Q b f) X.xe s
abbrev Gw:=V->V->V->Hp->(Hp->Prop)->Prop
def GB(X:Cx)(t:Gw):Prop:=∀(a:MR)(s:Shared)(b:St)(H:Hp)(o i v:V)(c iv u:Value)(Q:Hp->Prop),aN X a b H s->aU o c->aU i iv->aU v u->t o i v H Q->wpAny (model X.prog X.w) X.A (setItem c iv u) (λ_ e=>∃d,aN X a b d e/\Q d) X.xe s
section
variable{X:Cx}{c:Pos}
def j7(i:Nat):TG:=λv a H Q=>Q (a.set i (some v)) H
def Ac(d:X.N.Nodup)(hi:X.N[i]?=some x)(e:Jn X.env.scope x)(f:X.fn x=true\/X.env.scope.names.lookup x=some .local:=by first|exact .inl rfl|exact .inr rfl|assumption):PG X (.Name x c) (j7 i):=by intro a s g H v u Q I r h;exact wpAny_assign_Name (xo I d hi e r (λj b=>⟨_,H,b,h⟩) f)
def Kq:Jk:=λa b H Q=>a=[]/\Q b H
def D6(t:TG)(u:Jk):Jk:=λb d H Q=>∃v r,b=v::r/\t v d H λa e=>u r a e Q
def ij:IT X [] Kq:=by intro a s b H d f Q I r h;obtain⟨e,h⟩:=h;subst e;cases r;exact assignInOrder_nil ⟨b,H,I,h⟩
def bT(h1:PG X e t)(h2:IT X d u)(f:(assignEach (e::d) X.env).map (·.2)=assign e X.env::(assignEach d X.env).map (·.2):=by rfl):IT X (e::d) (D6 t u):=by intro a s g H o p Q I r h;obtain⟨v,q,i,h⟩:=h;subst i;cases r with|cons r j=>rw[f];refine assignInOrder_cons (ce (h1 a s g H _ _ _ I r h) λ_ k l=>?_);obtain⟨b,m,I1,n⟩:=l;exact h2 a k b m _ _ Q I1 j n
def Iy(K:MP)(n:Nat)(t:Jk):TG:=λv d H Q=>∃a b,v=.ref a/\aX K H a b/\b.length=n/\t b d H Q
def HR(hc:X.calm=true)(h:IT X f t)(hn:(assignEach f X.env).length=n:=by rfl)(g:(assignEach f X.env).findIdx? (·.1)=none:=by rfl):PG X (.Tuple f k c) (Iy X.K n t):=by intro d s j H v u Q I r i;obtain⟨a,m,p,q,w,i⟩:=i;subst p;cases r;obtain⟨x,l,y,A⟩:=I.tuple q;refine assign_Tuple_tuple (I.ok.hd hc) y (by simp[hn,<-w,l.length]) g λh' z=>?_;have I1:aN X d j H {s with heap:=h'}:=I.kept (t':=s.toks) λb o e=>z b o (iA (hH e)) e;exact h d _ j H m _ Q I1 (by simpa using l) i
def Le(d e:TE)(t:Gw):TG:=λv a H Q=>d a H λo b=>e a b λi f=>t o i v f λg=>Q a g
def kI(f:PE X o g)(hi:PE X i j)(l:GB X t)(m:∀v,assign (.Subscript o i c) X.env v=(do
   let d<-holding [v] (eval o X.env)let iv<-holding [v,d] (eval i X.env)standAt c
   holding [v,d,iv] (setItem d iv v)release [v,d,iv] []):=by intro _;rfl):PG X (.Subscript o i c) (Le g j t):=by intro a s e H v u Q I r h;rw[m];refine a_ (m_ (ce (f a s e H _ I h) λd k b=>?_));obtain⟨x,n,I1,p,q⟩:=b;refine a_ (m_ (ce (hi a k e n _ I1 q) λiv w b=>?_));obtain⟨y,z,A,r2,B⟩:=b;refine a_ (wpAny_standAt (a_ (m_ (ce (l a w e z x y v d iv u _ A p r2 r B) λ_ F b=>?_))));obtain⟨C,D,E⟩:=b;exact wpAny_release ⟨e,C,D,E⟩
def xn(te:TE)(g:TG):TS:=λD a H=>te a H λx b=>g x a b D.nx
def kG(f:PE X e te)(hg:PG X d g)(i:swapsWithSole [d] e c.line X.env=pure false:=by rfl)(j:swappedStores [d] e X.env=pure none:=by rfl)(h1:(assignEach [d] X.env).map (·.2)=[assign d X.env]:=by rfl):PS X (.Assign [d] e c) (xn te g):=by intro a s b H D I h;refine wpAny_Assign_stores (ce (f a s b H _ I h) λv k⟨x,l,I1,m,n⟩=>?_) i j;rw[h1];exact ce (hg a k b l x v _ I1 m n) λ_ o q=>q
def wz(d:X.N.Nodup)(hi:X.N[i]?=some x)(f:Jn X.env.scope x)(g:PE X e te)(j:swapsWith e (some (.Name x a)) c.line X.env=pure false:=by rfl)(l:X.fn x=true\/X.env.scope.names.lookup x=some .local:=by first|exact .inl rfl|exact .inr rfl|assumption):PS X (.Assign [.Name x a] e c) (xn te (j7 i)):=by intro b s k H D I h;refine wpAny_Assign_Name (ce (g b s k H _ I h) λv q⟨y,m,I1,n,o⟩=>?_) j;exact xo I1 d hi f n (λr p=>⟨_,m,p,o⟩) l
end
section
variable{X:Cx}{a:Pos}
end
structure It where
 go:Nat->Hp->Prop
 yld:Nat->Hp->V->Hp->Prop
 stop:Nat->Hp->Prop
def u9(X:Cx)(a:MR)(H:Hp)(b:Addr):Prop:=H b=none/\b≠X.env.locals/\b∉X.fs/\(b∈X.ex\/X.s₀.heap.objs.size<=b)/\(∀x c,X.env.cells.lookup x=some c->c≠b)/\∀p∈X.pn++a,p.1≠b
def aN.fpOk(I:aN X a h H s)(d:s.heap.objs.size<=b)(hn:f b=none):u9 X a f b:=by
 refine⟨hn,md (k_ I.lt d),I.nofs d,.inr (ku I.sz d),λx c e z=>?_,λp g z=>?_⟩
 ·obtain⟨v,q⟩:=I.cell x c e;exact absurd (k_ q.lt (by rw[z];exact d)) (ot _)
 ·exact absurd (k_ (hH (I.pin p g).1) (by rw[z];exact d)) (ot _)
structure u5(P:MU)(w:World)(K:MP)(tg:Expr)(J:It)(fp:MZ)(it:Addr)(tn:Nat->Heap->Prop):Prop where
 mem:it∈fp
 obj:∀i h,tn i h->∀b∈fp,∃o,h.get? b=some o/\∀v,o.data≠.cell v
 keep:∀i h h',tn i h->(∀b∈fp,∀o,h.get? b=some o->h'.get? b=some o)->tn i h'
 item:∀(X:Cx),X.prog=P->X.w=w->X.K=K->X.calm=true->∀(i:Nat)(pins:MR)(s:Shared)(σ:St)(H:Hp)(E:MQ),aN X pins σ H s->(∀b∈fp,u9 X pins H b)->tn i s.heap->J.go i H->wpAny (model P w) X.A (pyNext (.ref it)) (λr s1=>∃u,r=some u/\wpAny (model P w) X.A (letOwnedTupleGo tg (.ref it) u) (λ_ s2=>∃x H',aN X pins σ H' s2/\aU x u/\J.yld i H x H'/\tn (i+1) s2.heap/\∀b∈fp,H' b=none) E s1) E s
 done:∀(X:Cx),X.prog=P->X.w=w->X.K=K->X.calm=true->∀(i:Nat)(pins:MR)(s:Shared)(σ:St)(H:Hp)(E:MQ),aN X pins σ H s->(∀b∈fp,u9 X pins H b)->tn i s.heap->J.stop i H->wpAny (model P w) X.A (pyNext (.ref it)) (λr s1=>r=none/\aN X pins σ H s1) E s
 self:∀(A:Around)(i:Nat)(s:Shared)(Q:MQ)(E:MQ),tn i s.heap->Q (.ref it) s->wpAny (model P w) A (pyIter (.ref it)) Q E s
abbrev TI:=St->Hp->(It->Hp->Prop)->Prop
def Lm(X:Cx)(a:MR)(g:St)(h:Expr)(R:It->Hp->Prop)(c:Value)(e:Shared):Prop:=∃(f:Addr)(fp:MZ)(tn:Nat->Heap->Prop)(J:It)(d:Hp),c=.ref f/\aN X a g d e/\u5 X.prog X.w X.K h J fp f tn/\tn 0 e.heap/\(∀b∈fp,u9 X a d b)/\R J d
def PI(X:Cx)(d c:Expr)(e:TI):Prop:=∀(a:MR)(s:Shared)(b:St)(H:Hp)(R:It->Hp->Prop),aN X a b H s->e b H R->wpAny (model X.prog X.w) X.A (eval c X.env) (λv f=>wpAny (model X.prog X.w) X.A (pyIter v) (Lm X a b d R) X.xe f) X.xe s
def vJ(c:s.heap.get? d=some o)(hc:o.cls=.type n)(hd:o.data=.fields e)(hn:["enumerate","zip","dict_itemiterator","dict_reverseitemiterator","odict_iterator","itertools.zip_longest","itertools.pairwise"].contains n=false)(a:Q () s):wpAny M A (letOwnedTupleGo f (.ref d) u) Q E s:=by unfold letOwnedTupleGo;cases f<;>first|exact e_ a|(cases u<;>first
 |exact e_ a
    |(refine a_ (wpAny_load c ?_)
      rw[hc,hd];show wpAny M A (if(["enumerate","zip","dict_itemiterator","dict_reverseitemiterator","odict_iterator","itertools.zip_longest","itertools.pairwise"].contains n&&e[0]?==some (rawInt _))=true then _ else _) Q E s;rw[g8 (by intro h;rw[hn,Bool.false_and]at h;cases h)];exact e_ a))
def GF(K:MP)(a:Addr):It:=⟨λi H=>∃b x,aW K H a b/\b[i]?=some x,λi H x c=>c=H/\∀b,aW K H a b->b[i]?=some x,λi H=>∃b,aW K H a b/\b.length<=i⟩
def GD(K:MP)(a:Addr):It:=⟨λi H=>∃b x,aX K H a b/\b[i]?=some x,λi H x c=>c=H/\∀b,aX K H a b->b[i]?=some x,λi H=>∃b,aX K H a b/\b.length<=i⟩
def EK(lo:Int)(n:Nat):It:=⟨λi _=>i<n,λi H x a=>a=H/\x=.int (lo+i),λi _=>n<=i⟩
def vf{P:MU}{w:World}{K:MP}{J:Expr}(a g:Addr):u5 P w K J (GF K a) [g] g (λi h=>h.IsListIter g a i)where
 mem:=by simp
 obj:=λi h st b j=>by
  have e:b=g:=by simpa using j
  subst e;obtain⟨o,e,c,d⟩:=st;exact⟨o,e,λv z=>by rw[d]at z;cases z⟩
 keep:=λi h h' st k=>st.at λo e=>k g (by simp) o e
 item:=by intro X q r t hc i f s G H E I m st hg;subst q r t;obtain⟨L,x,n,y⟩:=hg;obtain⟨A,B,p,M⟩:=I.list n;obtain⟨u,N,ru⟩:=B.get y;obtain⟨C,f1,f2,f3,D,F⟩:=m g (by simp);refine wpAny_pyNext_list_item st p.isList (x:=u) (by simpa using N) λh' l O=>?_;have I1:aN X f G H {s with heap:=h'}:=I.turned (t':=s.toks) (λb o j e=>(O.2 b j).trans e) C f1 f3 D F;obtain⟨o,e,c,d⟩:=id l;exact⟨u,rfl,vJ (s:={s with heap:=h'}) e c d (by decide) ⟨x,H,I1,ru,⟨rfl,λT R=>by rw[I.list_inj R n];exact y⟩,l,λb j=>(m b j).1⟩⟩
 done:=by intro X q r t hc i f s G H E I m st hg;subst q r t;obtain⟨L,n,y⟩:=hg;obtain⟨A,B,p,M⟩:=I.list n;obtain⟨C,f1,f2,f3,D,F⟩:=m g (by simp);have U:=B.length;exact wpAny_pyNext_list_end (I.ok.hd hc) st p.isList (by simp;lia) λh' S=>⟨rfl,I.turned (t':=s.toks) (λb o j e=>S b o j e) C f1 f3 D F⟩
 self:=λ_ _ _ _ _ st h=>wpAny_pyIter_listiter st h
def rY{P:MU}{w:World}{K:MP}{J:Expr}(a g:Addr):u5 P w K J (GD K a) [g] g (λi h=>h.IsTupleIter g a i)where
 mem:=by simp
 obj:=λi h st b j=>by
  have e:b=g:=by simpa using j
  subst e;obtain⟨o,e,c,d⟩:=st;exact⟨o,e,λv z=>by rw[d]at z;cases z⟩
 keep:=λi h h' st k=>st.at λo e=>k g (by simp) o e
 item:=by intro X r t y hc i f s G H E I n st hg;subst r t y;obtain⟨L,x,q,A⟩:=hg;obtain⟨l,B,p,M⟩:=I.tuple q;obtain⟨u,N,ru⟩:=B.get A;obtain⟨C,f1,f2,f3,D,F⟩:=n g (by simp);refine wpAny_pyNext_tuple_item st (show s.heap.IsTuple a l.toArray from p) (x:=u) (by simpa using N) λh' m O=>?_;have I1:aN X f G H {s with heap:=h'}:=I.turned (t':=s.toks) (λb o j e=>(O.2 b j).trans e) C f1 f3 D F;obtain⟨o,e,c,d⟩:=id m;exact⟨u,rfl,vJ (s:={s with heap:=h'}) e c d (by decide) ⟨x,H,I1,ru,⟨rfl,λT R=>by rw[I.tuple_inj R q];exact A⟩,m,λb j=>(n b j).1⟩⟩
 done:=by intro X r t y hc i f s G H E I n st hg;subst r t y;obtain⟨L,q,A⟩:=hg;obtain⟨l,B,p,M⟩:=I.tuple q;obtain⟨C,f1,f2,f3,D,F⟩:=n g (by simp);have U:=B.length;exact wpAny_pyNext_tuple_end (I.ok.hd hc) st (show s.heap.IsTuple a l.toArray from p) (by simp;lia) λh' S=>⟨rfl,I.turned (t':=s.toks) (λb o j e=>S b o j e) C f1 f3 D F⟩
 self:=λ_ _ _ _ _ st h=>wpAny_pyIter_tupleiter st h
def yS{P:MU}{w:World}{K:MP}{x:Expr}(a:Addr)(lo:Int)(n:Nat):u5 P w K x (EK lo n) [a] a (λi h=>IsRangeIter h a (lo+(i:Nat)*1) ((n:Int)-(i:Nat)) 1)where
 mem:=by simp
 obj:=λi h st b d=>by
  have e:b=a:=by simpa using d
  subst e;exact⟨_,st,λv z=>by have y:Data.fields _=Data.cell v:=z;cases y⟩
 keep:=λi h h' st k=>k a (by simp) _ st
 item:=by intro X j l m hc i c s u H E I g st hg;subst j l m;obtain⟨p,f1,f2,f3,q,r⟩:=g a (by simp);have W:=Walks.range (prog:=X.prog) (w:=X.w) (I.ok.hd hc) a lo 1 n;refine W.item i s _ _ hg st λv h' tk A f B=>?_;obtain⟨t,rfl⟩:=A;have I1:aN X c u H {s with heap:=h',toks:=tk}:=I.turned (λb o d e=>B b o (by simpa using d) e) p f1 f3 q r;refine⟨_,rfl,vJ (s:={s with heap:=h',toks:=tk}) (n:="range_iterator") f rfl rfl (by decide) ⟨.int (lo+i),H,I1,⟨t,?_⟩,⟨rfl,rfl⟩,f,λb d=>(g b d).1⟩⟩;rw[Int.mul_one]
 done:=by intro X j l m hc i c s u H E I g st hg;subst j l m;obtain⟨p,f1,f2,f3,q,r⟩:=g a (by simp);exact wpAny_pyNext_range_end (I.ok.hd hc) st (by have:n<=i:=hg;lia) λh' C=>⟨rfl,I.turned (t':=s.toks) (λb o d e=>C b o d e) p f1 f3 q r⟩
 self:=λ_ _ _ _ _ st h=>wpAny_pyIter_rangeiter st h
end L2
namespace L2
open PySem PySem.Spec PyProof.Rows
section
variable{X:Cx}{c:Expr}
def GT(K:MP)(d:TE):TI:=λe H R=>d e H λx b=>∃a,x=.ref a/\(∃f,aW K b a f)/\R (GF K a) b
def Ki(K:MP)(d:TE):TI:=λe H R=>d e H λx b=>∃a,x=.ref a/\(∃f,aX K b a f)/\R (GD K a) b
def FD{l:Expr}{g:TE}(i:PE X l g):PI X c l (GT X.K g):=by
 intro d s j H R I h;refine ce (i d s j H _ I h) λv f k=>?_;obtain⟨x,m,I1,n,r⟩:=k;obtain⟨a,e,⟨y,t⟩,q⟩:=r;subst e;cases n;obtain⟨u,z,p,A⟩:=I1.list t;refine J_ p.isList ?_;refine⟨f.heap.objs.size,[f.heap.objs.size],_,_,m,rfl,I1.kept (t':=f.toks) λb o e=>c_ _ e,vf a _,⟨_,f_ _ rfl,rfl,rfl⟩,λb w=>?_,q⟩;have e:b=f.heap.objs.size:=by simpa using w
 subst e;exact I1.fpOk (fx _) (I1.hok.fresh (fx _))
def HQ{l:Expr}{i:TE}(j:PE X l i):PI X c l (Ki X.K i):=by
 intro d s k H R I h;refine ce (j d s k H _ I h) λv f m=>?_;obtain⟨x,n,I1,r,t⟩:=m;obtain⟨a,e,⟨y,u⟩,q⟩:=t;subst e;cases r;obtain⟨g,z,p,A⟩:=I1.tuple u;refine w1 (show f.heap.IsTuple a g.toArray from p) ?_;refine⟨f.heap.objs.size,[f.heap.objs.size],_,_,n,rfl,I1.kept (t':=f.toks) λb o e=>c_ _ e,rY a _,⟨_,f_ _ rfl,rfl,rfl⟩,λb w=>?_,q⟩;have e:b=f.heap.objs.size:=by simpa using w
 subst e;exact I1.fpOk (fx _) (I1.hok.fresh (fx _))
def xI{a:MR}{d:St}{H:Hp}{s:Shared}{R:It->Hp->Prop}{E:MQ}{lo hi:Int}{t u v:Tok}{tk:Nat}(I:aN X a d H s)(h1:-(2^62)<=lo)(h2:lo<2^62)(h3:-(2^62)<=hi)(h4:hi<2^62)(q:R (EK lo (hi-lo).toNat) H):wpAny (model X.prog X.w) X.A (pyIter (.ref s.heap.objs.size)) (Lm X a d c R) E {s with heap:=s.heap.push {cls:=.type "range",data:=.fields #[.int lo t,.int hi u,.int 1 v]},toks:=tk}:=by
 refine wpAny_pyIter_range (IsRange.new ..) (small_one h1 h2 h3 h4) ?_;have I1:aN X a d H {s with heap:=s.heap.push {cls:=.type "range",data:=.fields #[.int lo t,.int hi u,.int 1 v]},toks:=tk}:=I.kept λb o e=>c_ _ e;refine⟨(s.heap.push {cls:=.type "range",data:=.fields #[.int lo t,.int hi u,.int 1 v]}).objs.size,[(s.heap.push {cls:=.type "range",data:=.fields #[.int lo t,.int hi u,.int 1 v]}).objs.size],_,_,H,rfl,I1.kept (t':=tk) λb o e=>c_ _ e,yS _ lo (hi-lo).toNat,?_,λb f=>?_,q⟩
 ·have g:lo+((0:Nat):Int)*1=lo:=by simp
  have h:(((hi-lo).toNat:Nat):Int)-((0:Nat):Int)=Builtin.Range.rangeSize lo hi 1:=by rw[rangeSize_one];split<;>lia
  show IsRangeIter _ _ (lo+((0:Nat):Int)*1) ((((hi-lo).toNat:Nat):Int)-((0:Nat):Int)) 1;rw[g,h];exact f_ _ rfl
 ·have e:b=(s.heap.push {cls:=.type "range",data:=.fields #[.int lo t,.int hi u,.int 1 v]}).objs.size:=by simpa using f
  subst e;exact I1.fpOk (fx _) (I1.hok.fresh (fx _))
def Kk(a:TA):TI:=λb H R=>a b H λd e=>∃j:Int,d=[.int j]/\-(2^62)<=j/\j<2^62/\R (EK 0 j.toNat) e
def Kj(a:TA):TI:=λb H R=>a b H λd e=>∃i j:Int,d=[.int i,.int j]/\(-(2^62)<=i/\i<2^62/\-(2^62)<=j/\j<2^62)/\R (EK i (j-i).toNat) e
def eS{a:Expr}{g:TA}{p d:Pos}(hg:Gl X "range")(hm:X.mg "range"=none)(i:PA X [a] g)(l:starEach [a] X.env=[(false,eval a X.env)]:=by rfl):PI X c (.Call (.Name "range" p) [a] [] d) (Kk g):=by intro b s k H R I h;refine Call_ (kO I hg hm boot_range (t0 (ce (i d b s k H _ I h) λu v⟨w,x,I1,m,f⟩=>?_) l rfl));obtain⟨j,e,f,n,q⟩:=f;subst e;cases m with|cons r o=>cases o;obtain⟨t,rfl⟩:=r;exact call_range_1 (xI I1 (by lia) (by lia) f n (by simpa using q))
def vy(hg:Gl X "range")(hm:X.mg "range"=none)(m:PA X [a,b] n)(o:starEach [a,b] X.env=[(false,eval a X.env),(false,eval b X.env)]:=by rfl)(d:starEach [b] X.env=[(false,eval b X.env)]:=by rfl):PI X c (.Call (.Name "range" p) [a,b] [] g) (Kj n):=by intro f s u H R I h;refine Call_ (kO I hg hm boot_range (t0 (ce (m g f s u H _ I h) λA B⟨C,D,I1,v,k⟩=>?_) (by rw[o,d]) (by rw[d];rfl)));obtain⟨i,j,e,⟨k,w,x,y⟩,q⟩:=k;subst e;cases v with|cons r l=>cases l with|cons z l=>cases l;obtain⟨t,rfl⟩:=r;obtain⟨E,rfl⟩:=z;exact call_range_2 (xI I1 k w x y q)
def KZ(h:TI)(g:TG)(j:TS):TS:=λD a H=>h a H λJ k=>∃W:Nat->Nat->St->Hp->Prop,(∃m,W 0 m a k)/\∀i m a H,W i m a H->(J.stop i H/\D.nx a H)\/(J.go i H/\∃N:St->Hp->Prop,(∀b d,N b d->∃f,f<m/\W (i+1) f b d)/\∀x d,J.yld i H x d->g x a d λe l=>j {D with nx:=N,ct:=N,bk:=D.nx} e l)
def tu(fp:MZ)(h:Heap):List (Addr×Obj):=fp.filterMap λb=>(h.get? b).map λo=>(b,o)
def kM(a:b∈fp)(e:h.get? b=some o):(b,o)∈tu fp h:=LO.mpr ⟨b,a,by rw[e];rfl⟩
def Bk(a:p∈tu fp h):p.1∈fp/\h.get? p.1=some p.2:=by obtain⟨b,d,e⟩:=LO.mp a;cases q:h.get? b with|none=>rw[q]at e;cases e|some o=>rw[q]at e;have f:(b,o)=p:=kl e;subst f;exact⟨d,q⟩
def aN.pinned(I:aN X a h H s)(i:∀b∈fp,u9 X a H b)(j:∀b∈fp,∃o,s.heap.get? b=some o/\∀v,o.data≠.cell v):aN X (a++tu fp s.heap) h H s:=I.pins_of λp k=>(List.mem_append.mp k).elim (λz=>I.pin p (me _ z)) λz=>by obtain⟨f,e⟩:=Bk z;obtain⟨l,f1,f2,_⟩:=i p.1 f;obtain⟨o,g,d⟩:=j p.1 f;rw[e]at g;cases g;exact⟨e,l,f1,f2,d⟩
def aN.unpinned(I:aN X (a++pl) d H s):aN X a d H s:=I.pins_of λp b=>I.pin p (me _ (vu _ b))
def eC(F:PassesOwn (model X.prog X.w) X.A X.env X.xe)(hc:X.calm=true)(hi:PI X c B wi)(hg:PG X c g)(l:u6 X G tb)(hs:∀x,foldedSetIterable B X.env x=pure x:=by intro _;rfl):PS X (.For c B G [] aa) (KZ wi g tb):=by
 intro a s σ H D I h;refine wpAny_For (ce (hi a s σ H _ I h) λv s1 h1=>ce h1 λad s2 h2=>?_) hs;obtain⟨it,fp,tn,J,H2,e,I2,T,Q,f2,W,⟨m0,w0⟩,K⟩:=h2;subst e;have k:∀{z:Hp},(∀b∈fp,z b=none)->∀b∈fp,u9 X a z b:=λhn b l=>⟨hn b l,(f2 b l).2⟩;refine codeAny_forLoop_any (λn s'=>∃i p z,aN X a p z s'/\tn i s'.heap/\(∀b∈fp,z b=none)/\W i n p z) ?_ m0 ⟨0,σ,H2,I2,Q,λb l=>(f2 b l).1,w0⟩;rintro n s3⟨i,q,P,I3,L,M,w3⟩;rcases K i n q P w3 with⟨stop,qn⟩|⟨go,N,hN,step⟩
 ·refine LC F (ce (T.done X rfl rfl rfl hc i a s3 q P X.xe I3 (k M) L stop) λr s4⟨R,I4⟩=>?_);subst R;exact LD ⟨q,P,I4,qn⟩
 ·refine LC F (ce (T.item X rfl rfl rfl hc i a s3 q P X.xe I3 (k M) L go) λr s4⟨u,R,h4⟩=>?_);subst R;refine LC F (ce h4 λ_ s5 S=>?_);obtain⟨x,H5,I5,r5,y5,E,U⟩:=S;have V:=I5.pinned (k U) (T.obj _ _ E);refine LC F (ce (hg _ s5 q H5 x u _ V r5 (step x H5 y5)) λ_ s6 S=>?_);obtain⟨Y,H6,I6,q6⟩:=S;refine LC F (ce (l _ s6 Y H6 _ I6 q6) λf Z C=>?_);have again:∀{j:St}{t:Hp},aN X (a++tu fp s5.heap) j t Z->N j t->∃m,m<n/\∃i p z,aN X a p z Z/\tn i Z.heap/\(∀b∈fp,z b=none)/\W i m p z:=λ{j t}y O=>by obtain⟨m',hm,w7⟩:=hN j t O;refine⟨m',hm,i+1,j,t,y.unpinned,T.keep _ _ _ E λb l o e=>(y.pin (b,o) (me _ (me _ (kM l e)))).1,λb l=>?_,w7⟩;obtain⟨o,e,d⟩:=T.obj _ _ E b l;exact(y.pin (b,o) (me _ (me _ (kM l e)))).2.1
  cases f with|next=>obtain⟨j,t,y,O⟩:=C;exact again y O|cont=>obtain⟨j,t,y,O⟩:=C;exact again y O|brk=>obtain⟨j,t,y,C⟩:=C;exact⟨j,t,y.unpinned,C⟩|ret v=>obtain⟨x7,j,t,y,r7,C⟩:=C;exact⟨x7,j,t,y.unpinned,r7,C⟩
end
def lV{K:MP}{a:Addr}{xs:List V}{g:TG}{tb:TS}{D:lg}{c:St}{H:Hp}(Pv:Nat->St->Hp->Prop)(h0:Pv 0 c H)(n:∀i c H,i<=xs.length->Pv i c H->aW K H a xs)(o:∀i x c H,xs[i]?=some x->Pv i c H->g x c H λd j=>tb {D with nx:=Pv (i+1),ct:=Pv (i+1),bk:=D.nx} d j)(hd:∀c H,Pv xs.length c H->D.nx c H):∃W:Nat->Nat->St->Hp->Prop,(∃m,W 0 m c H)/\∀i m c H,W i m c H->((GF K a).stop i H/\D.nx c H)\/((GF K a).go i H/\∃N:St->Hp->Prop,(∀f h,N f h->∃l,l<m/\W (i+1) l f h)/\∀x h,(GF K a).yld i H x h->g x c h λd j=>tb {D with nx:=N,ct:=N,bk:=D.nx} d j):=by
 refine⟨λi m c H=>m=xs.length-i/\i<=xs.length/\Pv i c H,⟨xs.length,by simp,kw _,h0⟩,?_⟩;rintro i m c H⟨rfl,hi,p⟩;have q:=n i c H hi p
 by_cases b:i<xs.length
 ·refine .inr ⟨⟨xs,xs[i],q,by simp[b]⟩,Pv (i+1),λf h k=>⟨xs.length-(i+1),by lia,rfl,b,k⟩,λx h y=>?_⟩;obtain⟨e,y⟩:=y;subst e;exact o i x c _ (y xs q) p
 ·have e:i=xs.length:=by lia
  subst e;exact .inl ⟨⟨xs,q,fx _⟩,hd c H p⟩
def wR{K:MP}{a:Addr}{xs:List V}{g:TG}{l:TS}{D:lg}{c:St}{H:Hp}(Pv:Nat->St->Hp->Prop)(h0:Pv 0 c H)(o:∀i c H,i<=xs.length->Pv i c H->aX K H a xs)(r:∀i x c H,xs[i]?=some x->Pv i c H->g x c H λd j=>l {D with nx:=Pv (i+1),ct:=Pv (i+1),bk:=D.nx} d j)(hd:∀c H,Pv xs.length c H->D.nx c H):∃W:Nat->Nat->St->Hp->Prop,(∃m,W 0 m c H)/\∀i m c H,W i m c H->((GD K a).stop i H/\D.nx c H)\/((GD K a).go i H/\∃N:St->Hp->Prop,(∀f h,N f h->∃n,n<m/\W (i+1) n f h)/\∀x h,(GD K a).yld i H x h->g x c h λd j=>l {D with nx:=N,ct:=N,bk:=D.nx} d j):=by
 refine⟨λi m c H=>m=xs.length-i/\i<=xs.length/\Pv i c H,⟨xs.length,by simp,kw _,h0⟩,?_⟩;rintro i m c H⟨rfl,hi,p⟩;have q:=o i c H hi p
 by_cases b:i<xs.length
 ·refine .inr ⟨⟨xs,xs[i],q,by simp[b]⟩,Pv (i+1),λf h k=>⟨xs.length-(i+1),by lia,rfl,b,k⟩,λx h y=>?_⟩;obtain⟨e,y⟩:=y;subst e;exact r i x c _ (y xs q) p
 ·have e:i=xs.length:=by lia
  subst e;exact .inl ⟨⟨xs,q,fx _⟩,hd c H p⟩
def j8{lo:Int}{n:Nat}{g:TG}{j:TS}{D:lg}{a:St}{H:Hp}(Pv:Nat->St->Hp->Prop)(h0:Pv 0 a H)(o:∀i a H,i<n->Pv i a H->g (.int (lo+i)) a H λc h=>j {D with nx:=Pv (i+1),ct:=Pv (i+1),bk:=D.nx} c h)(hd:∀a H,Pv n a H->D.nx a H):∃W:Nat->Nat->St->Hp->Prop,(∃m,W 0 m a H)/\∀i m a H,W i m a H->((EK lo n).stop i H/\D.nx a H)\/((EK lo n).go i H/\∃N:St->Hp->Prop,(∀d f,N d f->∃l,l<m/\W (i+1) l d f)/\∀x f,(EK lo n).yld i H x f->g x a f λc h=>j {D with nx:=N,ct:=N,bk:=D.nx} c h):=by
 refine⟨λi m a H=>m=n-i/\i<=n/\Pv i a H,⟨n,by simp,kw _,h0⟩,?_⟩;rintro i m a H⟨rfl,hi,p⟩
 by_cases b:i<n
 ·refine .inr ⟨b,Pv (i+1),λd f k=>⟨n-(i+1),by lia,rfl,b,k⟩,λx f y=>?_⟩;obtain⟨e,y⟩:=y;subst e y;exact o i a _ b p
 ·have e:i=n:=by lia
  subst e;exact .inl ⟨fx _,hd a H p⟩
end L2
namespace L2
open PySem PySem.Spec PyProof.Rows
abbrev R2:=V->V->Hp->VK->Prop
def ld(X:Cx)(f:Value->Value->Sem Value)(r:R2):Prop:=∀(a:MR)(s:Shared)(b:St)(H:Hp)(x y:V)(v u:Value)(Q:VK),aN X a b H s->aU x v->aU y u->r x y H Q->wpAny (model X.prog X.w) X.A (f v u) (EP X a b Q) X.xe s
def Lk(X:Cx)(f:Value->Sem Value)(r:V->Hp->VK->Prop):Prop:=∀(a:MR)(s:Shared)(b:St)(H:Hp)(x:V)(v:Value)(Q:VK),aN X a b H s->aU x v->r x H Q->wpAny (model X.prog X.w) X.A (f v) (EP X a b Q) X.xe s
def cX(X:Cx)(f:Value)(r:List V->Hp->VK->Prop):Prop:=∀(a:MR)(s:Shared)(b:St)(H:Hp)(c:List V)(d:MT)(Q:VK),aN X a b H s->aZ c d->r c H Q->wpAny (model X.prog X.w) X.A (call f d) (EP X a b Q) X.xe s
def Ll(X:Cx)(r:V->Hp->(Bool->Hp->Prop)->Prop):Prop:=∀(a:MR)(s:Shared)(b:St)(H:Hp)(x:V)(v:Value)(Q:Bool->Hp->Prop),aN X a b H s->aU x v->r x H Q->wpAny (model X.prog X.w) X.A (truthy v) (TP X a b Q) X.xe s
def Ja(r:R2)(c d:TE):TE:=λa H Q=>c a H λx b=>d a b λy e=>r x y e Q
def tUn(r:V->Hp->VK->Prop)(a:TE):TE:=λb H Q=>a b H λx c=>r x c Q
def rI(C:Int->Int->Prop)(g:Int->Int->V):R2:=λx y H Q=>∃i j,x=.int i/\y=.int j/\C i j/\Q (g i j) H
def Fw(g:Int->Int->V):R2:=λx y H Q=>∃i j,x=.int i/\y=.int j/\Q (g i j) H
def rU(g:Int->V):V->Hp->VK->Prop:=λx H Q=>∃i,x=.int i/\Q (g i) H
section
variable{X:Cx}{a b c:Expr}{d l tc:TE}{e:Pos}
def IO(p:PE X a d)(q:PE X b l){g:MR}{s:Shared}{i:St}{H:Hp}{R:V->V->Hp->Prop}(I:aN X g i H s)(h:d i H λx o=>l i o λy j=>R x y j){Q:MQ}{f:Value->Value->Sem Value}(r:∀v u n x y j,aN X g i j n->aU x v->aU y u->R x y j->wpAny (model X.prog X.w) X.A (f v u) Q X.xe n):wpAny (model X.prog X.w) X.A (eval a X.env) (λv s₁=>wpAny (model X.prog X.w) X.A (eval b X.env) (λu m=>wpAny (model X.prog X.w) X.A (f v u) Q X.xe m) X.xe s₁) X.xe s:=by refine ce (p g s i H _ I h) λv t k=>?_;obtain⟨x,o,I1,z,B⟩:=k;refine ce (q g t i o _ I1 B) λu n k=>?_;obtain⟨y,j,C,r2,D⟩:=k;exact r v u n x y j C z r2 D
def au{g:Operator}{r:R2}(i:ld X (binaryOp g) r)(j:PE X a d)(m:PE X b l):PE X (.BinOp a g b e) (Ja r d l):=by intro f s k H Q I h;exact wpAny_BinOp (IO j m I h λv u n x y o p t w q=>i f n k o x y v u Q p t w q)
def JT(i:Lk X (unaryOp j) r)(m:PE X a d):PE X (.UnaryOp j a e) (tUn r d):=by intro f s g H Q I h;refine UnaryOp_ (ce (m f s g H _ I h) λv k n=>?_);obtain⟨x,o,I1,p,q⟩:=n;exact i f k g o x v Q I1 p q
def JX{f:Value->Value->Sem Value}{C:Int->Int->Prop}{g:Int->Int->Int}(rule:∀(i j:Int)(t u:Tok)(s:Shared)(Q:MQ)(E:MQ),C i j->Q (.int (g i j) s.toks) {s with toks:=s.toks+1}->wpAny (model X.prog X.w) X.A (f (.int i t) (.int j u)) Q E s):ld X f (rI C λi j=>.int (g i j)):=by intro k s p H x y v u Q I m n h;obtain⟨i,j,rfl,rfl,hc,q⟩:=h;obtain⟨t,rfl⟩:=m;obtain⟨o,rfl⟩:=n;exact rule i j t o s _ _ hc ⟨.int (g i j),H,I.tok _,⟨_,rfl⟩,q⟩
def HZ{f:Value->Value->Sem Value}{g:Int->Int->Int}(rule:∀(i j:Int)(t u:Tok)(s:Shared)(Q:MQ)(E:MQ),Q (.int (g i j) s.toks) {s with toks:=s.toks+1}->wpAny (model X.prog X.w) X.A (f (.int i t) (.int j u)) Q E s):ld X f (Fw λi j=>.int (g i j)):=by intro k s p H x y v u Q I m n h;obtain⟨i,j,rfl,rfl,q⟩:=h;obtain⟨t,rfl⟩:=m;obtain⟨o,rfl⟩:=n;exact rule i j t o s _ _ ⟨.int (g i j),H,I.tok _,⟨_,rfl⟩,q⟩
def FM{f:Value->Value->Sem Value}{g:Int->Int->Bool}(rule:∀(i j:Int)(t u:Tok)(s:Shared)(Q:MQ)(E:MQ),Q (.bool (g i j)) s->wpAny (model X.prog X.w) X.A (f (.int i t) (.int j u)) Q E s):ld X f (Fw λi j=>.bl (g i j)):=by intro k s p H x y v u Q I m n h;obtain⟨i,j,rfl,rfl,q⟩:=h;obtain⟨t,rfl⟩:=m;obtain⟨o,rfl⟩:=n;exact rule i j t o s _ _ ⟨.bl (g i j),H,I,rfl,q⟩
def fg(i j:Int):Prop:=0<j/\j<1073741824
def Lp(i j:Int):Prop:=0<=j/\j<=1000000/\i.natAbs<2^64
def IY(i j:Int):Prop:=(-(2^64)<i/\i<2^64)\/(-(2^64)<j/\j<2^64)
def IY.ok(h:IY i j):IntMulOk i j:=by
 rcases h with⟨h1,h2⟩|⟨h1,h2⟩
 ·exact .of_left (intBits_le_64 h1 h2)
 ·exact .of_right (intBits_le_64 h1 h2)
def two_pow_nn(k:Nat):(0:Int)<=2^k:=by rw[two_pow_cast];exact Int.natCast_nonneg _
def bP:ld X (binaryOp .Add) (Fw λi j=>.int (i+j)):=HZ λ_ _ _ _ _ _ _ q=>add_int q
def fE:ld X (binaryOp .Sub) (Fw λi j=>.int (i-j)):=HZ λ_ _ _ _ _ _ _ q=>sub_int q
def gy:ld X (binaryOp .Mult) (rI IY λi j=>.int (i*j)):=JX λ_ _ _ _ _ _ _ hc q=>mul_int q hc.ok
def bA:ld X (binaryOp .FloorDiv) (rI fg λi j=>.int (i/j)):=JX λi j _ _ _ _ _ hc q=>by have h1:(0:Int)<j:=hc.1;have h2:j<1073741824:=hc.2;exact floordiv_int (by lia) (by rw[LP i (by lia)];exact q) (.inl (PyProof.noPylong_small (by lia)))
def aT:ld X (binaryOp .Mod) (rI (λ_ j=>0<j) λi j=>.int (i%j)):=JX λi j _ _ _ _ _ hc q=>by have h1:(0:Int)<j:=hc;exact mod_int' (by lia) (by rw[Int.fmod_eq_emod_of_nonneg i (by lia)];exact q)
def HX:ld X (binaryOp .Pow) (rI Lp λi j=>.int (i^j.toNat)):=JX λ_ _ _ _ _ _ _ hc q=>pow_int_small hc.1 hc.2.1 hc.2.2 q
def HW:ld X (binaryOp .RShift) (rI (λ_ j=>0<=j) λi j=>.int (i/2^j.toNat)):=JX λi j _ _ _ _ _ hc q=>rshift_int hc (by rw[LP i (two_pow_nn _)];exact q)
def C8:ld X (binaryOp .BitAnd) (Fw λi j=>.int (Builtin.bitAnd i j)):=HZ λ_ _ _ _ _ _ _ q=>and_int q
def unI{f:Value->Sem Value}{g:Int->Int}(rule:∀(i:Int)(t:Tok)(s:Shared)(Q:MQ)(E:MQ),Q (.int (g i) s.toks) {s with toks:=s.toks+1}->wpAny (model X.prog X.w) X.A (f (.int i t)) Q E s):Lk X f (rU λi=>.int (g i)):=by intro j s m H x v Q I k h;obtain⟨i,rfl,q⟩:=h;obtain⟨t,rfl⟩:=k;exact rule i t s _ _ ⟨.int (g i),H,I.tok _,⟨_,rfl⟩,q⟩
def Hb:Lk X (unaryOp .USub) (rU λi=>.int (-i)):=unI λ_ _ _ _ _ q=>neg_int q
end
def fh:V->V->Bool|.non,.non=>true|.non,.int _=>true|.int _,.non=>true|.non,.bl _=>true|.bl _,.non=>true|.non,.str _=>true|.str _,.non=>true|.int _,.int _=>true|.bl _,.bl _=>true|.str _,.str _=>true|.byt _,.byt _=>true|.int _,.str _=>true|.str _,.int _=>true|.bl _,.str _=>true|.str _,.bl _=>true|_,_=>false
def rEq:R2:=λx y H Q=>fh x y=true/\Q (.bl (decide (x=y))) H
def rNe:R2:=λx y H Q=>fh x y=true/\Q (.bl (!decide (x=y))) H
def Aw:decide (V.int i=V.int j)=(i==j):=by rw[Mh];simp
def Ed:decide (V.bl i=V.bl j)=(i==j):=by rw[Mh];simp
def Av:decide (V.str i=V.str j)=(i==j):=by rw[Mh];simp
def Ax:decide (V.byt i=V.byt j)=(i.toList==j.toList):=by rw[Mh];cases i;cases j;simp
section
variable{X:Cx}{a b c:Expr}{f g tc:TE}{l:Pos}
def bI(I:aN X d h H s)(q:Q (.bl k) H)(e:k=i):EP X d h Q (.bool i) s:=by subst e;exact⟨.bl k,H,I,rfl,q⟩
def aQ:ld X (compareOp .Eq) rEq:=by intro n s o H x y v u Q I m d h;obtain⟨k,q⟩:=h;cases x with
 |non=>cases m;cases y with|non=>cases d;exact PySem.EqNone.eq_none_none (bI I q (by simp))|bl j=>cases d;exact PySem.EqNone.eq_none_bool (bI I q (by simp))|int j=>obtain⟨e,rfl⟩:=d;exact PySem.EqNone.eq_none_int (bI I q (by simp))|str j=>obtain⟨e,rfl⟩:=d;exact PySem.EqNone.eq_none_str (bI I q (by simp))|_=>exact absurd (show false=true from k) h_
 |bl i=>cases m;cases y with|non=>cases d;exact PySem.EqNone.eq_bool_none (bI I q (by simp))|bl j=>cases d;exact eq_bool (bI I q Ed)|str j=>obtain⟨e,rfl⟩:=d;exact PySem.EqMixed.eq_bool_str (bI I q (by simp))|_=>exact absurd (show false=true from k) h_
 |int i=>obtain⟨t,rfl⟩:=m;cases y with|non=>cases d;exact PySem.EqNone.eq_int_none (bI I q (by simp))|int j=>obtain⟨e,rfl⟩:=d;exact eq_int (bI I q Aw)|str j=>obtain⟨e,rfl⟩:=d;exact PySem.EqMixed.eq_int_str (bI I q (by simp))|_=>exact absurd (show false=true from k) h_
 |str i=>obtain⟨t,rfl⟩:=m;cases y with|non=>cases d;exact PySem.EqNone.eq_str_none (bI I q (by simp))|bl j=>cases d;exact PySem.EqMixed.eq_str_bool (bI I q (by simp))|int j=>obtain⟨e,rfl⟩:=d;exact PySem.EqMixed.eq_str_int (bI I q (by simp))|str j=>obtain⟨e,rfl⟩:=d;exact eq_str (bI I q Av)|_=>exact absurd (show false=true from k) h_
 |byt i=>obtain⟨t,rfl⟩:=m;cases y with|byt j=>obtain⟨e,rfl⟩:=d;exact PySem.W.eq_bytes (bI I q Ax)|_=>exact absurd (show false=true from k) h_
 |_=>cases y<;>exact absurd (show false=true from k) h_
def Ag:ld X (compareOp .NotEq) rNe:=by intro n s o H x y v u Q I m d h;obtain⟨k,q⟩:=h;cases x with
 |non=>cases m;cases y with|non=>cases d;exact PySem.EqNone.ne_none_none (bI I q (by simp))|bl j=>cases d;exact PySem.EqNone.ne_none_bool (bI I q (by simp))|int j=>obtain⟨e,rfl⟩:=d;exact PySem.EqNone.ne_none_int (bI I q (by simp))|str j=>obtain⟨e,rfl⟩:=d;exact PySem.EqNone.ne_none_str (bI I q (by simp))|_=>exact absurd (show false=true from k) h_
 |bl i=>cases m;cases y with|non=>cases d;exact PySem.EqNone.ne_bool_none (bI I q (by simp))|bl j=>cases d;exact ne_bool (bI I q (r4 not Ed))|str j=>obtain⟨e,rfl⟩:=d;exact PySem.EqMixed.ne_bool_str (bI I q (by simp))|_=>exact absurd (show false=true from k) h_
 |int i=>obtain⟨t,rfl⟩:=m;cases y with|non=>cases d;exact PySem.EqNone.ne_int_none (bI I q (by simp))|int j=>obtain⟨e,rfl⟩:=d;exact ne_int (bI I q (r4 not Aw))|str j=>obtain⟨e,rfl⟩:=d;exact PySem.EqMixed.ne_int_str (bI I q (by simp))|_=>exact absurd (show false=true from k) h_
 |str i=>obtain⟨t,rfl⟩:=m;cases y with|non=>cases d;exact PySem.EqNone.ne_str_none (bI I q (by simp))|bl j=>cases d;exact PySem.EqMixed.ne_str_bool (bI I q (by simp))|int j=>obtain⟨e,rfl⟩:=d;exact PySem.EqMixed.ne_str_int (bI I q (by simp))|str j=>obtain⟨e,rfl⟩:=d;exact ne_str (bI I q (r4 not Av))|_=>exact absurd (show false=true from k) h_
 |byt i=>obtain⟨t,rfl⟩:=m;cases y with|byt j=>obtain⟨e,rfl⟩:=d;exact PySem.W.ne_bytes (bI I q (r4 not Ax))|_=>exact absurd (show false=true from k) h_
 |_=>cases y<;>exact absurd (show false=true from k) h_
def xS:ld X (compareOp .Lt) (Fw λi j=>.bl (decide (i<j))):=FM λ_ _ _ _ _ _ _ q=>lt_int q
def jg:ld X (compareOp .LtE) (Fw λi j=>.bl (decide (i<=j))):=FM λ_ _ _ _ _ _ _ q=>le_int q
def qL:ld X (compareOp .Gt) (Fw λi j=>.bl (decide (j<i))):=FM λ_ _ _ _ _ _ _ q=>gt_int q
def GR:ld X (compareOp .GtE) (Fw λi j=>.bl (decide (j<=i))):=FM λ_ _ _ _ _ _ _ q=>ge_int q
def Bf:ld X (compareOp .In) (λx y H Q=>∃i j,x=.str i/\y=.str j/\Q (.bl (!(Builtin.Str.occurrences j i 0 j.length 1).isEmpty)) H):=by intro d s m H x y v u Q I e k h;obtain⟨i,j,rfl,rfl,q⟩:=h;obtain⟨t,rfl⟩:=e;obtain⟨n,rfl⟩:=k;exact in_str (bI I q rfl)
def C7:ld X (compareOp .Is) (λx y H Q=>y=.non/\Q (.bl (decide (x=.non))) H):=by intro d s j H x y v u Q I e i h;obtain⟨rfl,q⟩:=h;cases i;refine is_none_gen (bI I q ?_);cases x<;>first|(cases e;rfl)|(obtain⟨t,rfl⟩:=e;rfl)
def FJ:ld X (compareOp .IsNot) (λx y H Q=>y=.non/\Q (.bl (!decide (x=.non))) H):=by intro d s j H x y v u Q I e i h;obtain⟨rfl,q⟩:=h;cases i;refine isnot_none_gen (bI I q ?_);cases x<;>first|(cases e;rfl)|(obtain⟨t,rfl⟩:=e;rfl)
def aE(b:Expr)(h:d≠.In:=by decide)(h2:d≠.NotIn:=by decide):behindInMarks d b=false:=by
 have e:(d==CmpOp.In)=false:=by cases d<;>first|rfl|exact absurd rfl h
 have i:(d==CmpOp.NotIn)=false:=by cases d<;>first|rfl|exact absurd rfl h2
 cases b<;>simp[behindInMarks,e,i]
def bR(i:ld X (compareOp e) r)(j:PE X a f)(m:PE X b g)(hm:behindInMarks e b=false):PE X (.Compare a [e] [b] l) (Ja r f g):=by intro d s k H Q I h;exact wpAny_Compare1 (IO j m I h λv u n x y o p t w q=>i d n k o x y v u Q p t w q) hm
def GI(t:TE):TT:=λd H Q=>t d H λx e=>∃k,x=.bl k/\Q k e
def aD(m:ld X (compareOp j) r)(n:PE X a f)(o:PE X b g)(hm:behindInMarks j b=false):PT X (.Compare a [j] [b] l) (GI (Ja r f g)):=by
 intro d s i H Q I h;refine wpAny_isTrue_Compare1 (ce (n d s i H _ I h) λv p⟨x,q,I1,t,w⟩=>ce (o d p i q _ I1 w) λu A⟨y,B,C,r2,D⟩=>ce (m d A i B x y v u _ C t r2 D) λc K⟨z,E,F,G,k,e,J⟩=>?_) hm
 subst e;cases G;exact pa ⟨E,F,J⟩
def B7(r h:R2)(f g tc:TE):TE:=λd H Q=>f d H λx i=>g d i λy j=>r x y j λz e=>∃k,z=.bl k/\(if k=true then tc d e λm n=>h y m n Q else Q (.bl false) e)
def tD(w:ld X (compareOp o) r)(n:ld X (compareOp j) A)(B:PE X a f)(C:PE X b g)(hc:PE X c tc)(hm:lastMarks [o,j] [b,c]=false:=by with_unfolding_all rfl):PE X (.Compare a [o,j] [b,c] l) (B7 r A f g tc):=by
 intro i s m H Q I h;refine Compare_chain (ce (B i s m H _ I h) λv D⟨x,E,I1,F,G⟩=>chain_link (ce (C i D m E _ I1 G) λu J⟨y,K,L,r2,M⟩=>ce (w i J m K x y v u _ L F r2 M) λd N⟨z,p,q,O,k,e,t⟩=>?_)) hm
 subst e;cases O;refine pa ?_;cases k with|false=>exact ite_ff ⟨.bl false,p,q,rfl,t⟩|true=>exact ite_tt (chain_last (ce (hc i N m p _ q t) λP R⟨S,T,U,V,W⟩=>n i R m T y S u P Q U r2 V W))
def xL(A:ld X (compareOp p) r)(n:ld X (compareOp j) B)(C:PE X a f)(D:PE X b g)(hc:PE X c tc)(hm:lastMarks [p,j] [b,c]=false:=by with_unfolding_all rfl):PT X (.Compare a [p,j] [b,c] l) (GI (B7 r B f g tc)):=by
 intro i s m H Q I h;refine isTrue_chain (ce (C i s m H _ I h) λv E⟨x,F,I1,G,J⟩=>test_link (ce (D i E m F _ I1 J) λu K⟨y,L,M,r2,N⟩=>ce (A i K m L x y v u _ M G r2 N) λd O⟨z,q,t,P,k,e,w⟩=>?_)) hm
 subst e;cases P;refine pa ?_;cases k with|false=>obtain⟨k',R,S⟩:=w;cases R;exact ite_ff ⟨q,t,S⟩|true=>refine ite_tt (test_last (ce (hc i O m q _ t w) λT U o=>?_));obtain⟨V,W,Y,Z,q4⟩:=o;refine ce (n i U m W y V u T _ Y r2 Z q4) λd' s5 o=>?_;obtain⟨z2,H5,I5,r5,k2,e2,q5⟩:=o;subst e2;cases r5;exact pa ⟨H5,I5,q5⟩
def IR(K:MP)(x:V)(H:Hp)(k:Bool):Prop:=match x with|.non=>k=false|.bl b=>k=b|.int i=>k=(i !=0)|.str y=>y.length<=sizeLine/\k=((y.length:Int)!=0)|.byt y=>y.size<=sizeLine/\k=((y.size:Int)!=0)|.ref p=>(∃d,aW K H p d/\k=!d.isEmpty)\/(∃d,aX K H p d/\k=!d.isEmpty)\/∃e,H p=some (.dK e)/\k=!e.isEmpty|_=>False
def zw(r:KV d e):(!e.isEmpty)=!d.isEmpty:=by cases r<;>rfl
def tU(r:aZ e d):(!d.toArray.isEmpty)=!e.isEmpty:=by cases r<;>simp
def pQ:(sizeLine:Nat)<2^63:=by rw[gg];decide
def Hd:Ll X (λx H Q=>∃k,IR X.K x H k/\Q k H):=by intro C s G H x v Q I u h;obtain⟨k,e,q⟩:=h;have J:=pQ;have L:sizeLine=16777216:=gg;cases x with|non=>cases u;have d:k=false:=e;subst d;exact truthy_none ⟨H,I,q⟩|bl b=>cases u;have d:k=b:=e;subst d;exact pa ⟨H,I,q⟩|int i=>obtain⟨t,rfl⟩:=u;have d:k=(i !=0):=e;subst d;exact PySem.P.truthy_int ⟨H,I,q⟩|str y=>obtain⟨t,rfl⟩:=u;obtain⟨E,d⟩:y.length<=sizeLine/\k=((y.length:Int)!=0):=e;subst d;exact PySem.P.truthy_str (by lia) ⟨H,I.tok _,q⟩|byt y=>obtain⟨t,rfl⟩:=u;obtain⟨E,d⟩:y.size<=sizeLine/\k=((y.size:Int)!=0):=e;subst d;exact PySem.W.truthy_bytes (by lia) ⟨H,I.tok _,q⟩|ref p=>
  cases u;have d:(∃o,aW X.K H p o/\k=!o.isEmpty)\/(∃o,aX X.K H p o/\k=!o.isEmpty)\/∃j,H p=some (.dK j)/\k=!j.isEmpty:=e;rcases d with⟨o,z,d⟩|⟨o,z,d⟩|⟨j,z,d⟩
  ·subst d;obtain⟨B,r,pl,D⟩:=I.list z;have n:=r.length;exact wpAny_truthy_list pl.isList (by simp only[ig];lia) ⟨H,I.tok _,by rw[tU r];exact q⟩
  ·subst d;obtain⟨B,r,pl,D⟩:=I.tuple z;have n:=r.length;exact truthy_tuple pl (by simp only[ig];lia) ⟨H,I.tok _,by rw[tU r];exact q⟩
  ·subst d;obtain⟨D,F,A,r,m⟩:j.length<=sizeLine/\(p==sysModules)=false/\∃A,KV j A/\s.heap.DictOf (aS X.prog X.w) p A:=I.hok p _ z;have n:j.length=A.length:=Paired.length r;exact wpAny_truthy_dict F m (by lia) ⟨H,I.tok _,by rw[zw r];exact q⟩|_=>exact(show False from e).elim
def CT(m:PE X a f)(n:∀d,isTrue a X.env d=(do let v<-d;standAt a.pos;holding [v] (truthy v))):PT X a (λi H Q=>f i H λx j=>∃k,IR X.K x j k/\Q k j):=by intro e s i H Q I h;exact isTrue_plain (ce (m e s i H _ I h) λv o⟨x,p,I1,q,r⟩=>Hd e o i p x v Q I1 q r) (n _)
def bj:ld X (binaryOp .Add) (λx y H Q=>∃i j,x=.str i/\y=.str j/\i.length+j.length<=sizeLine/\Q (.str (i++j)) H):=by intro d s o H x y v u Q I e k h;obtain⟨i,j,rfl,rfl,m,q⟩:=h;obtain⟨t,rfl⟩:=e;obtain⟨n,rfl⟩:=k;exact add_str (λn tk=>⟨.str (i++j),H,I.tok _,⟨_,rfl⟩,q⟩) m
def iE(r:aZ [x] d):∃u,d=[u]/\aU x u:=by cases r with|cons e r2=>cases r2;exact⟨_,rfl,e⟩
def vd(r:aZ [x,y] e):∃u d,e=[u,d]/\aU x u/\aU y d:=by cases r with|cons h r2=>cases r2 with|cons i j=>cases j;exact⟨_,_,rfl,h,i⟩
def BK(hc:X.calm=true):cX X (.builtin "max") (λe H Q=>∃i j,e=[.int i,.int j]/\Q (.int (if j>i then j else i)) H):=by
 intro m s n H e o Q I r h;obtain⟨i,j,rfl,q⟩:=h;obtain⟨u,p,rfl,⟨t,rfl⟩,⟨v,rfl⟩⟩:=vd r;refine max_two_ints (I.ok.hd hc) λh' tk k=>⟨_,H,I.kept k,?_,q⟩
 by_cases d:j>i
 ·rw[hQ d,hQ d];exact⟨_,rfl⟩
 ·rw[g8 d,g8 d];exact⟨_,rfl⟩
def qk(hc:X.calm=true):cX X (.builtin "min") (λe H Q=>∃i j,e=[.int i,.int j]/\Q (.int (if j<i then j else i)) H):=by
 intro m s n H e o Q I r h;obtain⟨i,j,rfl,q⟩:=h;obtain⟨u,p,rfl,⟨t,rfl⟩,⟨v,rfl⟩⟩:=vd r;refine min_two_ints (I.ok.hd hc) λh' tk k=>⟨_,H,I.kept k,?_,q⟩
 by_cases d:j<i
 ·rw[hQ d,hQ d];exact⟨_,rfl⟩
 ·rw[g8 d,g8 d];exact⟨_,rfl⟩
def IW(K:MP)(x:V)(H:Hp)(n:Nat):Prop:=match x with|.str y=>y.length<=sizeLine/\n=y.length|.byt y=>y.size<=sizeLine/\n=y.size|.ref p=>(∃d,aW K H p d/\n=d.length)\/∃d,aX K H p d/\n=d.length|_=>False
def Er:cX X (.builtin "len") (λd H Q=>∃x n,d=[x]/\IW X.K x H n/\Q (.int n) H):=by
 intro w s B H d C Q I r h;obtain⟨x,n,rfl,e,q⟩:=h;obtain⟨u,rfl,k⟩:=iE r;have D:=pQ;have E:sizeLine=16777216:=gg;cases x with|str y=>obtain⟨t,rfl⟩:=k;obtain⟨z,j⟩:y.length<=sizeLine/\n=y.length:=e;subst j;exact len_str (by lia) ⟨.int _,H,I.tok _,⟨_,rfl⟩,q⟩|byt y=>obtain⟨t,rfl⟩:=k;obtain⟨z,j⟩:y.size<=sizeLine/\n=y.size:=e;subst j;exact PySem.W.len_bytes (by lia) ⟨.int _,H,I.tok _,⟨_,rfl⟩,q⟩|ref p=>
  cases k;have j:(∃d,aW X.K H p d/\n=d.length)\/∃d,aX X.K H p d/\n=d.length:=e;rcases j with⟨d,m,j⟩|⟨d,m,j⟩
  ·subst j;obtain⟨o,v,pl,A⟩:=I.list m;have i:=v.length;exact Calls.call_len_list pl.isList (by simp only[ig];lia) ⟨.int d.length,H,I.tok _,⟨_,by simp only[ig];rw[i]⟩,q⟩
  ·subst j;obtain⟨o,v,pl,A⟩:=I.tuple m;have i:=v.length;exact len_tuple pl (by simp only[ig];lia) ⟨.int d.length,H,I.tok _,⟨_,by simp only[ig];rw[i]⟩,q⟩|_=>exact(show False from e).elim
def yH:cX X (.builtin "divmod") (λd H Q=>∃i j,d=[.int i,.int j]/\fg i j/\∀p,H p=none->Q (.ref p) (aG H p (.tup [.int (i/j),.int (i%j)]))):=by intro k s m H d n Q I r h;obtain⟨i,j,rfl,⟨h1,h2⟩,q⟩:=h;obtain⟨u,v,rfl,⟨t,rfl⟩,⟨w,rfl⟩⟩:=vd r;refine divmod_int (by lia) ?_ (.inl (PyProof.noPylong_small (by lia)));rw[LP i (by lia),Int.fmod_eq_emod_of_nonneg i (by lia)];have hn:H s.heap.objs.size=none:=I.hok.fresh (fx _);refine⟨.ref s.heap.objs.size,_,?_,rfl,q _ hn⟩;refine I.laid (λb o e=>c_ _ e) (fx _) ⟨by simp only[il,LG];rw[gg];decide,[.int (i/j) s.toks,.int (i%j) (s.toks+1)],.cons ⟨_,rfl⟩ (.cons ⟨_,rfl⟩ .nil),?_⟩;exact⟨_,f_ s.heap rfl,rfl,0,rfl⟩
end
end L2
namespace L2
open PySem PySem.Spec PyProof.Rows
structure zO(h:Heap)(x dx C:Addr)(mA:MS):Prop where
 obj:h.get? x=some (PySem.W.instObj C dx)ns:h.Ns1 dx mA
 ne:dx≠x
def Bq{h:Heap}{dx:Addr}{d:MS}(n:h.Ns1 dx d):∃f,h.get? dx=some f/\∀c,PySem.W.lookIn c f=some (d c):=by
 obtain⟨o,g,m,i,hd,j,_,hm⟩:=n;refine⟨o,i,λc=>?_⟩;have e:=hm c;unfold nsFind findBy at e;rw[<-Array.find?_toList]at e;unfold PySem.W.lookIn;rw[hd];dsimp only
 split
 ·rename_i y q;rw[q]at e;exact r4 some e
 ·rename_i q;rw[q]at e;have a:g.toList.any (·.refKey)=false:=by rw[List.any_eq_false];intro y k;obtain⟨z,t,b⟩:=j y (Array.mem_toList_iff.mp k);simp[DictEntry.refKey,b]
  have l:¬g.toList.any (·.refKey)=true:=by rw[a];exact h_
  rw[g8 l];exact r4 some e
def zO.look(I:zO h x dx C d):∃c,PySem.W.InstAt h x (PySem.W.instObj C dx) C (some c)/\∀a,PySem.W.lookIn a c=some (d a):=let⟨c,b,e⟩:=Bq I.ns
 ⟨c,⟨I.obj,rfl,rfl,b⟩,e⟩
section
variable{prog:MU}{w:World}{A:Around}{E:MQ}{s:Shared}{K:MP}{x dx C f:Addr}{e:MS}{c:Str}{v:Value}
def Ge(X:K.In s.heap)(I:zO s.heap x dx C e)(hg:PySem.W.plainGet K C c=true)(hh:PySem.W.hasDictIn K C=true)(g:PySem.W.findIn K (.ref C) c=some none)(i:e c=some v)(a:PySem.W.handedIn v=true)(h:Q v {s with toks:=s.toks+1}):wpAny (model prog w) A (getAttr (.ref x) c d) Q E s:=by obtain⟨j,J,b⟩:=I.look;exact PySem.W.get_value X J (PySem.W.plainGet_of hg).1 (PySem.W.findObj_own hh g rfl (by rw[b,i])) a h
def D4(X:K.In s.heap)(I:zO s.heap x dx C e)(hg:PySem.W.plainGet K C c=true)(a:PySem.W.findIn K (.ref C) c=some (some (.ref f)))(d:PySem.W.isFn K (.ref f)=true)(g:e c=none)(h:Q (.ref f,[.ref x]) s):wpAny (model prog w) A (getMethod (.ref x) c pl) Q E s:=by obtain⟨b,J,i⟩:=I.look;exact PySem.W.method_fn X J (PySem.W.plainGet_of hg).1 (PySem.W.plainGet_of hg).2 a (beq_iff_eq.mp d) (by show(PySem.W.lookIn c b).map (·.isSome)=some false;rw[i,g];rfl) h
def gP(X:K.In s.heap)(I:zO s.heap x dx C e)(m:PySem.W.findIn K (.ref C) "__setattr__"=some (some (.builtin "object.__setattr__")))(n:PySem.W.plainOver K C=true)(o:PySem.W.takerIn K C c=some none)(hh:PySem.W.hasDictIn K C=true)(p:PySem.Within e ns)(q:ns.length<=sizeLine)(h:∀h',zO h' x dx C (λy=>if y=c then some v else e y)->Heap.SameBut dx s.heap h'->Q () {s with heap:=h',toks:=s.toks+2}):wpAny (model prog w) A (setAttr (.ref x) c v) Q E s:=by obtain⟨B,J,D⟩:=I.look;refine PySem.W.set_plain X J m (PySem.W.osa_open (s:={s with toks:=s.toks+1}) (r:=none) X J n o λb=>?_);obtain⟨cd,hc,i⟩:=PySem.W.any_some hh;have t:s.heap.get? x=some ⟨.ref C,some dx,.plain,#[]⟩:=I.obj;refine a_ (e_ (a_ (a_ (wpAny_loadPart t (a_ (PySem.W.Looks.here (s:={s with toks:=s.toks+1}) (PySem.W.looks_clsIn X hc) ?_))))));rw[i];refine e_ (a:=some dx) (a_ (e_ (a_ ?_)));refine wpAny_nsSet1 (s:={s with toks:=s.toks+1}) I.ns λh' d g=>?_;obtain⟨F,u,z,j,k,l⟩:=d.count (PySem.Within.cons c v p);refine a_ (wpAny_lookBehind j (by rw[k];exact pastItsLine_dict (ku l (by rw[il];lia))) ?_);exact e_ (h _ ⟨(g.2 _ (mu I.ne)).trans I.obj,d,I.ne⟩ g)
def DB(X:K.In s.heap)(hm:PySem.W.makesIn K C=true)(hi:PySem.W.findIn K (.ref C) "__init__"=some (some (.ref f)))(j:PySem.W.typeIn K (.ref f)=some (.type "function"))(h:codeAny (model prog w) (A.under (.builtin "type.__call__" ⟨.ref C::a,i⟩)) (.call (.ref f) ⟨.ref (s.heap.objs.size+1)::a,i⟩) (PySem.W.InitBack (s.heap.objs.size+1) R) {s with heap:=(s.heap.push PySem.W.emptyDict).push (PySem.W.instObj C s.heap.objs.size)}):codeAny (model prog w) A (.call (.ref C) ⟨a,i⟩) R s:=by obtain⟨hh,g,d,t,os⟩:=s;exact PySem.W.make_core (PySem.W.makes_of X hm) (PySem.W.looks_findIn X hi) (λself=>PySem.W.bind_fn X self j) (.inl rfl) h
end
def gf(f:Str)(v:V):List (Str×V)->List (Str×V)|[]=>[(f,v)]|(g,x)::r=>if g=f then(g,v)::r else(g,x)::gf f v r
theorem qQ(f g:Str)(v:V):∀fs:List (Str×V),(gf f v fs).lookup g=if g=f then some v else fs.lookup g
 |[]=>by
  show List.lookup g [(f,v)]=_
  by_cases h:g=f
  ·have a:(g==f)=true:=beq_iff_eq.mpr h;simp only[List.lookup,a,hQ h]
  ·have a:(g==f)=false:=v_.mpr h;simp only[List.lookup,a,g8 h]|(k,x)::r=>by
  have c:=qQ f g v r;rw[show gf f v ((k,x)::r)=(if k=f then(k,v)::r else(k,x)::gf f v r)from rfl]
  by_cases b:k=f
  ·rw[hQ b]
   by_cases h:g=k
   ·have a:(g==k)=true:=beq_iff_eq.mpr h;simp only[List.lookup,a,hQ (h.trans b)]
   ·have a:(g==k)=false:=v_.mpr h;simp only[List.lookup,a,g8 (λe:g=f=>h (e.trans b.symm))]
  ·rw[g8 b]
   by_cases h:g=k
   ·have a:(g==k)=true:=beq_iff_eq.mpr h;simp only[List.lookup,a,g8 (λe:g=f=>b (h.symm.trans e))]
   ·have a:(g==k)=false:=v_.mpr h;simp only[List.lookup,a];exact c
theorem pY(f:Str)(v:V):∀fs:List (Str×V),f∈(gf f v fs).map (·.1)/\∀g,g∈fs.map (·.1)->g∈(gf f v fs).map (·.1)
 |[]=>⟨by simp[gf],λg h=>by simp at h⟩|(k,x)::r=>by
  obtain⟨b,c⟩:=pY f v r;rw[show gf f v ((k,x)::r)=(if k=f then(k,v)::r else(k,x)::gf f v r)from rfl]
  by_cases a:k=f
  ·rw[hQ a];subst a;exact⟨by simp,λg h=>by simpa using h⟩
  ·rw[g8 a];refine⟨?_,λg h=>?_⟩
   ·rw[lh];exact hY _ b
   ·rw[lh]at h⊢;rcases o_.mp h with e|e
    ·exact o_.mpr (.inl e)
    ·exact hY _ (c g e)
theorem qR(f:Str)(v:V):∀fs:List (Str×V),(gf f v fs).length<=fs.length+1
 |[]=>by simp[gf]|(k,x)::r=>by
  have b:=qR f v r;rw[show gf f v ((k,x)::r)=(if k=f then(k,v)::r else(k,x)::gf f v r)from rfl]
  by_cases a:k=f
  ·rw[hQ a,il,il];lia
  ·rw[g8 a,il,il];lia
def kf.some_of(r:kf (some v) o):∃u,o=some u/\aU v u:=by cases o with|none=>exact(show False from r).elim|some u=>exact⟨u,rfl,r⟩
def kf.none_of(r:kf none o):o=none:=by cases o with|none=>rfl|some u=>exact(show False from r).elim
def Bz(r:aU v u):PySem.W.handedIn u=true:=by cases v with|non=>cases(show u=Value.none from r);rfl|bl b=>cases(show u=Value.bool b from r);rfl|int i=>obtain⟨t,e⟩:=(show∃t,u=Value.int i t from r);cases e;rfl|str x=>obtain⟨t,e⟩:=(show∃t,u=Value.str x t from r);cases e;rfl|byt b=>obtain⟨t,e⟩:=(show∃t,u=Value.bytes b t from r);cases e;rfl|flt b=>obtain⟨t,e⟩:=(show∃t,u=Value.float b t from r);cases e;rfl|ref a=>cases(show u=Value.ref a from r);rfl|ty n=>cases(show u=Value.type n from r);rfl
section
variable{P:MU}{w:World}{H g:Hp}{h h':Heap}{a C dx:Addr}{fs c:List (Str×V)}
def rQ(hok:lj P w H h)(e:H a=some (.ins C dx fs)):∃i,zO h a dx C i/\(∀f,kf (fs.lookup f) (i f))/\PySem.Within i (fs.map (·.1))/\fs.length<=1000/\H dx=some (.own a):=by obtain⟨d,z,ne,ob,i,n,r,q⟩:=(show cV P w H h a (.ins C dx fs)from hok a _ e);exact⟨i,⟨ob,n,ne⟩,r,q,z,d⟩
end
structure xj(K:MP)(C:Addr):Prop where
 pg:PySem.W.plainGet K C Str.empty=true
 hd:PySem.W.hasDictIn K C=true
 po:PySem.W.plainOver K C=true
 sa:PySem.W.findIn K (.ref C) "__setattr__"=some (some (.builtin "object.__setattr__"))
def xj.get{K:MP}{C:Addr}(c:xj K C)(f:Str):PySem.W.plainGet K C f=true:=c.pg
def bS(K:MP)(C:Addr)(f:Str):Prop:=PySem.W.findIn K (.ref C) f=some none
def bS.taker{K:MP}{C:Addr}{f:Str}(n:bS K C f):PySem.W.takerIn K C f=some none:=by unfold PySem.W.takerIn;rw[show PySem.W.findIn K (.ref C) f=some none from n];rfl
structure EH(K:MP)(C:Addr)(m:Str)(f:Addr):Prop where
 at_:PySem.W.findIn K (.ref C) m=some (some (.ref f))fn:PySem.W.isFn K (.ref f)=true
 kp:PySem.W.keepIn K (.ref f)=true
section
variable{X:Cx}{d:MR}{i:St}{H:Hp}{s:Shared}{a C dx:Addr}{fs:List (Str×V)}{f:Str}{v:V}{A:Around}{E:MQ}
def zA(I:aN X d i H s)(e:H a=some (.ins C dx fs))(c:xj X.K C)(n:bS X.K C f)(l:fs.lookup f=some v)(h:∀u g,aN X d i H g->aU v u->Q u g):wpAny (model X.prog X.w) A (getAttr (.ref a) f b) Q E s:=by obtain⟨j,O,r,_,_,_⟩:=rQ I.hok e;obtain⟨u,k,ru⟩:=kf.some_of (v:=v) (o:=j f) (by rw[<-l];exact r f);exact Ge I.kIn O (c.get f) c.hd n k (Bz ru) (h u _ (I.tok _) ru)
def nJ(I:aN X d i H s)(e:H a=some (.ins C dx fs))(c:xj X.K C)(k:EH X.K C m g)(l:fs.lookup m=none)(h:Q (.ref g,[.ref a]) s):wpAny (model X.prog X.w) A (getMethod (.ref a) m pl) Q E s:=by obtain⟨b,O,r,_,_,_⟩:=rQ I.hok e;have hn:b m=none:=kf.none_of (by rw[<-l];exact r m);exact D4 I.kIn O (c.get m) k.at_ k.fn hn h
def yX(I:aN X d i H s)(e:H a=some (.ins C dx fs))(c:xj X.K C)(n:bS X.K C f)(J:fs.length<1000)(t:aU y u)(h:∀l,aN X d i (aG H a (.ins C dx (gf f y fs))) l->Q () l):wpAny (model X.prog X.w) A (setAttr (.ref a) f u) Q E s:=by
 obtain⟨k,O,r,m,_,p⟩:=rQ I.hok e;have B:(fs.map (·.1)).length<=sizeLine:=by rw[b_,gg];lia
 refine gP I.kIn O c.sa c.po n.taker c.hd m B λh' j D=>h _ ?_;have hd:∃o,h'.get? dx=some o:=let⟨o,_,_,F,_⟩:=j.ns;⟨o,F⟩;refine I.write (x:=a) (e:=dx) (by rw[e];exact True.intro) (.inr p) (λb q G z=>(D.2 b G).trans z) hd ?_;refine⟨by rw[ao O.ne];exact p,?_,O.ne,j.obj,_,j.ns,λg=>?_,λg hg=>?_⟩
 ·have:=qR f y fs;lia
 ·show kf ((gf f y fs).lookup g) (if g=f then some u else k g);rw[qQ]
  by_cases q:g=f
  ·rw[hQ q,hQ q];exact t
  ·rw[g8 q,g8 q];exact r g
 ·by_cases q:g=f
  ·rw[q];exact(pY f y fs).1
  ·refine(pY f y fs).2 g (m g λz=>hg ?_);show(if g=f then some u else k g)=none;rw[g8 q];exact z
def aN.made(I:aN X d i H s):aN X d i (aG (aG H s.heap.objs.size (.own (s.heap.objs.size+1))) (s.heap.objs.size+1) (.ins C s.heap.objs.size [])) {s with heap:=(s.heap.push PySem.W.emptyDict).push (PySem.W.instObj C s.heap.objs.size)}:=by
 have c:(s.heap.push PySem.W.emptyDict).get? s.heap.objs.size=some PySem.W.emptyDict:=f_ s.heap rfl;have g:((s.heap.push PySem.W.emptyDict).push (PySem.W.instObj C s.heap.objs.size)).get? (s.heap.objs.size+1)=some (PySem.W.instObj C s.heap.objs.size):=by
  have:=f_ (s.heap.push PySem.W.emptyDict) (o:=PySem.W.instObj C s.heap.objs.size) rfl
  rwa[m3]at this
 have h:(s.heap.push PySem.W.emptyDict).Ns s.heap.objs.size (λ_=>none):=⟨PySem.W.emptyDict,#[],_,c,rfl,(λe j=>absurd j (by simp)),λ_=>rfl⟩;have I1:=I.laid (a:=s.heap.objs.size) (o:=.own (s.heap.objs.size+1)) (h':=s.heap.push PySem.W.emptyDict) (t':=s.toks) (λb u q=>c_ _ q) (fx _) ⟨_,c⟩;refine I1.laid (a:=s.heap.objs.size+1) (o:=.ins C s.heap.objs.size []) (t':=s.toks) (λb u q=>c_ _ q) (Nat.le_of_eq (m3 _ _)) ?_;have ne:s.heap.objs.size≠s.heap.objs.size+1:=iA (ro _);refine⟨by rw[ao ne,af],kw _,ne,g,λ_=>none,(Heap.Ns1.of_empty h).at λo q=>c_ _ q,λ_=>True.intro,λy l=>absurd rfl l⟩
def Gs(c:attributeBase e f env (eval e env)=eval e env)(h:wpAny (model prog w) A (eval e env) (λo s₁=>wpAny (model prog w) A (getAttr o f true) Q E s₁) E s):wpAny (model prog w) A (eval (.Attribute e f g) env) Q E s:=Attribute_any_ h (by rw[arm_eval_Attribute,c])
end
def JA(K:MP)(c:TE)(f:Str):TE:=λd H Q=>c d H λx b=>∃a C dx fs v,x=.ref a/\b a=some (.ins C dx fs)/\xj K C/\bS K C f/\fs.lookup f=some v/\Q v b
def JL(K:MP)(d e:TE)(f:Str):TS:=λD b H=>e b H λy g=>d b g λx c=>∃a C dx fs,x=.ref a/\c a=some (.ins C dx fs)/\xj K C/\bS K C f/\fs.length<1000/\D.nx b (aG c a (.ins C dx (gf f y fs)))
section
variable{X:Cx}{o e d:Expr}{f:Str}{i g m:Pos}{j p:TE}
def HU(r:PE X e j)(t:attributeBase e f X.env (eval e X.env)=eval e X.env):PE X (.Attribute e f i) (JA X.K j f):=by intro b s k H Q I h;refine Gs t (ce (r b s k H _ I h) λu D w=>?_);obtain⟨x,y,I1,z,a,C,dx,fs,v,ex,A,c,n,l,q⟩:=w;subst ex;obtain rfl:u=Value.ref a:=z;exact zA I1 A c n l λE F B ru=>⟨v,y,B,ru,q⟩
def HN(r:PE X o j)(t:PE X d p)(v:swapsWith d (some (.Attribute o f g)) i.line X.env=pure false):PS X (.Assign [.Attribute o f g] d i) (JL X.K j p f):=by intro b s k H D I h;refine plainObj_wpAny_Assign_Attribute (ce (t b s k H _ I h) λu w⟨y,z,I1,A,q⟩=>ce (r b w k z _ I1 q) λB M⟨x,N,E,F,a,C,dx,fs,ex,G,c,n,l,J⟩=>?_) v;subst ex;obtain rfl:B=Value.ref a:=F;exact yX E G c n l A λO L=>⟨k,_,L,J⟩
end
section
variable{X:Cx}{d:MR}{f:St}{H:Hp}{s:Shared}{A:Around}{E:MQ}{Q:MQ}{c:Value}{b:Bool}
inductive lZ(K:MP)(H:Hp):V->Value->Prop where|non:lZ K H .non (.type "NoneType")|bl(x:Bool):lZ K H (.bl x) (.type "bool")|int(i:Int):lZ K H (.int i) (.type "int")|str(x:Str):lZ K H (.str x) (.type "str")|flt(x:UInt64):lZ K H (.flt x) (.type "float")|lst{a:Addr}{xs:List V}(e:H a=some (.lst xs)):lZ K H (.ref a) (.type "list")|frz{a:Addr}{o:Obj}{xs:List V}(e:H a=some (.frz o (.lst xs))):lZ K H (.ref a) (.type "list")|tup{a:Addr}{xs:List V}(e:H a=some (.tup xs)):lZ K H (.ref a) (.type "tuple")|dK{a:Addr}{kvs:List (cb×V)}(e:H a=some (.dK kvs)):lZ K H (.ref a) (.type "dict")|dT{a:Addr}{kvs:List (List cb×V)}(e:H a=some (.dT kvs)):lZ K H (.ref a) (.type "dict")|ins{a C dx:Addr}{fs:List (Str×V)}(e:H a=some (.ins C dx fs))(cl:xj K C)(ha:PySem.W.findIn K (.ref C) "__class__"=some (some (.builtin "object.__class__")))(hn:PySem.W.specialIn K (.builtin "object.__class__") "__get__"=some (some (.builtin "getset_descriptor.__get__")))(htk:PySem.W.takesIn K (.builtin "object.__class__")=some true)(hm:PySem.W.mroIn K C (.type "object")=some true):lZ K H (.ref a) (.ref C)
def Bw(I:aN X d f H s)(g:aU x u)(ty:lZ X.K H x t)(e:PySem.W.kitOne X.K t c=some b)(h:∀tk,Q (.bool b) {s with toks:=tk}):wpAny (model X.prog X.w) A (call (.builtin "isinstance") [u,c]) Q E s:=by cases ty with|non=>cases(show u=Value.none from g);exact PySem.W.kia_one PySem.W.kitx_none I.kIn True.intro e (nofun) h|bl y=>cases(show u=Value.bool y from g);exact PySem.W.kia_one PySem.W.kitx_bool I.kIn True.intro e (nofun) h|int i=>obtain⟨t,q⟩:=(show∃t,u=Value.int i t from g);cases q;exact PySem.W.kia_one PySem.W.kitx_int I.kIn True.intro e (nofun) h|str y=>obtain⟨t,q⟩:=(show∃t,u=Value.str y t from g);cases q;exact PySem.W.kia_one PySem.W.kitx_str I.kIn True.intro e (nofun) h|flt y=>obtain⟨t,q⟩:=(show∃t,u=Value.float y t from g);cases q;exact PySem.W.kia_one PySem.W.kitx_float I.kIn True.intro e (nofun) h|@lst a l j=>cases(show u=Value.ref a from g);obtain⟨_,_,n,_,h1⟩:=(show cV X.prog X.w H s.heap a (.lst l)from I.hok a _ j);exact PySem.W.kia_one PySem.W.kitx_list I.kIn ⟨_,h1,rfl⟩ e (nofun) h|@frz a ob l j=>cases(show u=Value.ref a from g);obtain⟨_,_,_,n,_,h1⟩:=(show cV X.prog X.w H s.heap a (.frz ob (.lst l))from I.hok a _ j);exact PySem.W.kia_one PySem.W.kitx_list I.kIn ⟨_,h1,rfl⟩ e (nofun) h|@tup a l j=>cases(show u=Value.ref a from g);obtain⟨_,_,_,p⟩:=(show cV X.prog X.w H s.heap a (.tup l)from I.hok a _ j);obtain⟨o,h1,h2,_⟩:=p;exact PySem.W.kia_one PySem.W.kitx_tuple I.kIn ⟨o,h1,h2⟩ e (nofun) h|@dK a k j=>cases(show u=Value.ref a from g);obtain⟨_,_,D,_,p⟩:=(show cV X.prog X.w H s.heap a (.dK k)from I.hok a _ j);obtain⟨o,r,v,h1,h2,_⟩:=p;exact PySem.W.kia_one PySem.W.kitx_dict I.kIn ⟨o,h1,h2.1⟩ e (nofun) h|@dT a k j=>cases(show u=Value.ref a from g);obtain⟨_,_,l,_,o,r,v,h1,h2,_⟩:=(show cV X.prog X.w H s.heap a (.dT k)from I.hok a _ j);exact PySem.W.kia_one PySem.W.kitx_dict I.kIn ⟨o,h1,h2.1⟩ e (nofun) h|@ins a C dx fs j cl B hn m hm=>cases(show u=Value.ref a from g);obtain⟨F,O,_⟩:=rQ I.hok j;obtain⟨G,J,_⟩:=O.look;exact PySem.W.kia_one (PySem.W.kitx_own (cl.get _) cl.hd B hn m hm) I.kIn J e (nofun) h
end
end L2
namespace L2
open PySem PySem.Spec PyProof.Rows
structure eL(k:Nat)(A:Around):Prop where
 hd:A.handled=none
 dp:A.depth+3*k+5<recursionLimit
 un:A.units+16*k+200<cLine
def eL.mono{j k:Nat}{A:Around}(r:eL k A)(h:j<=k):eL j A:=⟨r.hd,by have:=r.dp;lia,by have:=r.un;lia⟩
theorem eL.deeper(r:eL (k+1) A)(env:Env):eL k (A.deeper env):=⟨r.hd,by have:=r.dp;show A.depth+1+3*k+5<_;lia,by have:=r.un;show A.units+3+16*k+200<_;lia⟩
def zt{A:Around}{C:Addr}{a:MT}{c:List (Str×Value)}:(A.under (.builtin "type.__call__" ⟨.ref C::a,c⟩)).depth=A.depth+1:=by first|rfl|simp[Around.under,Code.weight,Code.isCreation,Code.isGuard,Code.isCaller,Code.frames,Code.isFrame,guardIds]
def zr{A:Around}{C:Addr}{a:MT}{c:List (Str×Value)}:(A.under (.builtin "type.__call__" ⟨.ref C::a,c⟩)).units=A.units+1:=by first|rfl|simp[Around.under,Code.cUnits,Code.frames,Code.isFrame]
def eL.make(r:eL (k+1) A)(C:Addr)(a:MT)(c:List (Str×Value)):eL k (A.under (.builtin "type.__call__" ⟨.ref C::a,c⟩)):=⟨r.hd,by have:=r.dp;rw[zt];lia,by have:=r.un;rw[zr];lia⟩
theorem eL.depth{k:Nat}{A:Around}(r:eL k A):A.depth<recursionLimit:=by have:=r.dp;lia
theorem eL.units{k:Nat}{A:Around}(r:eL k A):A.units+64<cLine:=by have:=r.un;lia
def Jx:TA:=λ_ H Q=>Q [] H
def JC(c:TE)(tr:TA):TA:=λa H Q=>c a H λx b=>tr a b λd e=>Q (x::d) e
section
variable{X:Cx}{e:Expr}{c:MW}{te:TE}{t:TA}{a:Pos}
def O:PA X [] Jx:=λ_ _ _ _ H Q I h=>to ⟨[],H,I,.nil,h⟩
def ac(g:PE X e te)(i:PA X c t)(j:starEach (e::c) X.env=(false,eval e X.env)::starEach c X.env:=by rfl):PA X (e::c) (JC te t):=by intro a b s f H Q I h;rw[j];show wpAny _ _ (spliced ((false,eval e X.env)::backTo a (starEach c X.env))) _ _ s;refine pu (ce (g b s f H _ I h) λu k d=>?_);obtain⟨x,l,I1,m,n⟩:=d;refine ce (i a b k f l _ I1 n) λv w d=>?_;obtain⟨o,p,q,r2,r⟩:=d;exact⟨x::o,p,q,.cons m r2,r⟩
def KS(t:TA):TE:=λf H Q=>t f H λb d=>b.length<=sizeLine/\∀p,d p=none->Q (.ref p) (aG d p (.tup b))
def KY(t:TA):TE:=λf H Q=>t f H λb d=>b.length<=sizeLine/\∀p,d p=none->Q (.ref p) (aG d p (.lst b))
def cf{i}(h:PA X c t):PE X (.Tuple c i a) (KS t):=by intro d s j H Q I k;refine wpAny_Tuple_spliced (ce (h a d s j H _ I k) λl f m=>?_);obtain⟨n,g,I1,r,z,q⟩:=m;refine⟨by rw[<-r.length];exact z,?_⟩;have o:g f.heap.objs.size=none:=I1.hok.fresh (fx _);refine⟨.ref f.heap.objs.size,aG g f.heap.objs.size (.tup n),I1.laid (t':=f.toks) (λb u e=>c_ _ e) (fx _) ?_,rfl,q _ o⟩;exact⟨z,l,r,⟨_,f_ _ rfl,rfl,_,rfl⟩⟩
def a0(h:PA X c t):PE X (.List c a) (KY t):=by intro d s i H Q I j;refine wpAny_List_spliced (ce (h a d s i H _ I j) λk f l=>?_);obtain⟨m,g,I1,r,z,q⟩:=l;refine⟨by rw[<-r.length];exact z,?_⟩;have n:g f.heap.objs.size=none:=I1.hok.fresh (fx _);refine⟨.ref f.heap.objs.size,aG g f.heap.objs.size (.lst m),I1.laid (t':=f.toks) (λb u e=>c_ _ e) (fx _) ?_,rfl,q _ n⟩;exact⟨z,k,0,r,f_ _ rfl⟩
end
abbrev Sp:=List V->Hp->VK->XK->Prop
abbrev yR:=List Env->Hp->Shared->XK->Value->Shared->Prop
structure zP(P:MU)(w:World)(K:MP)(mg:MS)(base:Heap)(A:Around)(outer:List Env)(s:Shared)(H:Hp):Prop where
 frames:A.frames=some outer
 mod:KB K mg base
 bs:∀b o,base.get? b=some o->s.heap.get? b=some o/\H b=none
 bsz:base.objs.size<=s.heap.objs.size
 funs:s.heap.FunFrames base outer
 frf:∀b∈jD outer,H b=none
 hok:lj P w H s.heap
 bare:AllBare s.gens
def CE(outer:List Env)(P:MU)(w:World)(H:Hp)(s:Shared)(Q:VK)(u:Value)(a:Shared):Prop:=∃v b,a.os=s.os/\AllBare a.gens/\Un (jD outer) [] H b s.heap a.heap/\lj P w b a.heap/\aU v u/\Q v b
def CR(c:yR)(outer:List Env)(P:MU)(w:World)(H:Hp)(s:Shared)(Q:VK)(E:XK)(r:Result)(a:Shared):Prop:=match r with|.ok (.ret u)=>CE outer P w H s Q u a|.ok _=>False|.error e=>c outer H s E e a
structure aO(P:MU)(w:World)(K:MP)(mg:MS)(base:Heap)(CX:yR)(k:Nat)(f:Addr)(fd:FuncData)(ps:MV)(sp:Sp):Prop where
 len:∀vs H Q E,sp vs H Q E->vs.length=ps.length
 run:∀(A:Around)(outer:List Env)(s:Shared)(H:Hp)(args:Args)(us:MT)(vs:List V)(Q:VK)(E:XK),eL k A->zP P w K mg base A outer s H->BindsTo s fd args (ps.zip us)->aZ vs us->sp vs H Q E->codeAny (model P w) A (.call (.ref f) args) (CR CX outer P w H s Q E) s
theorem aO.mono{P:MU}{w:World}{K:MP}{mg:MS}{base:Heap}{c:yR}{j k:Nat}{f:Addr}{fd:FuncData}{d:MV}{sp:Sp}(F:aO P w K mg base c j f fd d sp)(h:j<=k):aO P w K mg base c k f fd d sp:=⟨F.len,λA outer s H a b e Q E g=>F.run A outer s H a b e Q E (g.mono h)⟩
def zP.make{P:MU}{w:World}{K:MP}{mg:MS}{base:Heap}{A:Around}{outer:List Env}{s:Shared}{H:Hp}(e:zP P w K mg base A outer s H)(C:Addr)(a:MT)(c:List (Str×Value)):zP P w K mg base (A.under (.builtin "type.__call__" ⟨.ref C::a,c⟩)) outer s H:=⟨by first|exact e.frames|(simpa[Around.under,Code.envs,Code.isFrame,pushEnvs]using e.frames),e.mod,e.bs,e.bsz,e.funs,e.frf,e.hok,e.bare⟩
section
variable{X:Cx}{a:MR}{e:St}{H:Hp}{s c:Shared}
def aN.env0(I:aN X a e H s):zP X.prog X.w X.K X.mg X.base X.A X.stack s H:=⟨I.ok.frames,I.ok.mod,I.bs,ku I.ok.bsz I.sz,I.stack,I.stkFree,I.hok,I.bare⟩
def aN.after(I:aN X a e H s)(h:CE X.stack X.prog X.w H s Q u c):EP X a e Q u c:=by obtain⟨v,i,os,bare,un,hok,r,q⟩:=h;obtain⟨hh,g,d,t,f⟩:=c;obtain rfl:f=s.os:=os;exact⟨v,i,I.call (h':=hh) (g':=g) (d':=d) (t':=t) (ch:=[]) un hok bare (λb z=>absurd z (by simp)),r,q⟩
end
def GL(sp:Sp)(a:List V)(E:XK)(t:TA):TE:=λb H Q=>t b H λc d=>sp (c++a) d Q E
def B6(C:Addr)(m:Str)(sp:Sp)(c:List V)(E:XK)(e:TE)(t:TA):TE:=λb H Q=>e b H λx d=>∃a dx fs,x=.ref a/\d a=some (.ins C dx fs)/\fs.lookup m=none/\t b d λf g=>sp (x::(f++c)) g Q E
def Jy(C:Addr)(sp:Sp)(a:List V)(E:XK)(t:TA):TE:=λc H Q=>t c H λd b=>∀x dx,b x=none->b dx=none->dx≠x->sp (.ref x::(d++a)) (aG (aG b dx (.own x)) x (.ins C dx [])) (λv e=>v=.non/\Q (.ref x) e) E
def fC(K:MP)(fd:FuncData)(c:MV)(ds:MT):Prop:=∀(s:Shared)(a:MT),K.In s.heap->(a++ds).length=c.length->BindsTo s fd ⟨a,[]⟩ (c.zip (a++ds))
def fC.all{K:MP}{fd:FuncData}{c:MV}(h:∀a:List Value,a.length=c.length->bindArgs fd ⟨a,[]⟩=pure (c.zip a)):fC K fd c []:=λs a _ b=>by rw[t_]at b⊢;exact .of_eq (h a b)
def ma(c:yR)(X:Cx)(E:XK):Prop:=∀(a:MR)(d:St)(H:Hp)(s:Shared)(e:Value)(b:Shared),aN X a d H s->c X.stack H s E e b->X.xe e b
section
variable{X:Cx}{y:yR}{k:Nat}{f C:Addr}{fd:FuncData}{n:MV}{sp:Sp}{g:List V}{ds:MT}{E:XK}{x m:Str}{p d i:Pos}{e o:Expr}{j:MW}{z:TE}{t:TA}
def y6(F:aO X.prog X.w X.K X.mg X.base y k f fd n sp)(l:eL k X.A)(q:fC X.K fd n ds)(hd:aZ g ds)(v:ma y X E)(I:aN X a c H s)(r:aZ vs us)(h:sp (vs++g) H Q E):wpAny (model X.prog X.w) X.A (call (.ref f) us) (EP X a c Q) X.xe s:=by
 have r2:aZ (vs++g) (us++ds):=r.append hd;have B:(us++ds).length=n.length:=by rw[<-r2.length];exact F.len _ _ _ _ h
 refine wpAny_call (x_ (F.run X.A X.stack s H ⟨us,[]⟩ (us++ds) (vs++g) Q E l I.env0 (q s us I.kIn B) r2 h) λr D b=>?_);cases r with|error e=>exact v a c H s e D I b|ok G=>cases G with|ret u=>exact I.after b|next=>exact False.elim b|brk=>exact False.elim b|cont=>exact False.elim b
def bv(F:aO X.prog X.w X.K X.mg X.base y k f fd n sp)(u:eL k X.A)(hg:Gl X x)(hm:X.mg x=some (.ref f))(v:PySem.W.keepIn X.K (.ref f)=true)(B:fC X.K fd n ds)(hd:aZ g ds)(D:ma y X E)(G:PA X (e::j) t)(c:(x==("__debug__":Str))=false:=by decide)(J:starEach (e::j) X.env=(false,eval e X.env)::starEach j X.env:=by rfl)(l:(backTo d (starEach j X.env)).any (·.1)=false:=by rfl):PE X (.Call (.Name x p) (e::j) [] d) (GL sp g E t):=by intro a s L H Q I h;refine sm (oV I hg hm ?_ c);refine PySem.W.callWith_K (h₀:=X.base) I.ok.mod.kin v (ce (G d a s L H _ I h) λM N⟨O,P,I1,r,q⟩=>⟨I1.kIn,?_⟩) J l;exact y6 F u B hd D I1 r q
def bK(P:PE X o z)(c:xj X.K C)(hm:EH X.K C m f)(F:aO X.prog X.w X.K X.mg X.base y k f fd n sp)(R:eL k X.A)(S:fC X.K fd n ds)(hd:aZ g ds)(T:ma y X E)(Z:PA X (e::j) t)(v:starEach (e::j) X.env=(false,eval e X.env)::starEach j X.env:=by rfl)(B:(backTo d (starEach j X.env)).any (·.1)=false:=by rfl)(ht:eval (.Call (.Attribute o m i) (e::j) [] d) X.env=(do
   let D<-eval o X.env
   standAt i.atName let(f,first)<-holding [D] (getMethod D m pl)callWith d f first (backTo d (starEach (e::j) X.env)) (backToKw d (keywordEach [] X.env))):=by rfl):PE X (.Call (.Attribute o m i) (e::j) [] d) (B6 C m sp g E z t):=by intro b s G H Q I h;refine PySem.W.methodCall_KW (pl:=pl) (ce (P b s G H _ I h) λu O⟨x,U,I1,Y,a,dx,fs,ex,ea,l,q⟩=>?_) ht;subst ex;obtain rfl:u=Value.ref a:=Y;refine nJ I1 ea c hm l ?_;refine PySem.W.callWith_K (first:=[.ref a]) (h₀:=X.base) I.ok.mod.kin hm.kp (ce (Z d b O G U _ I1 q) λL s2⟨M,H2,N,r,q2⟩=>⟨N.kIn,?_⟩) v B;exact y6 (us:=.ref a::L) (vs:=.ref a::M) F R S hd T N (.cons rfl r) q2
def lL(v:PE X o z)(c:xj X.K C)(hm:EH X.K C m f)(F:aO X.prog X.w X.K X.mg X.base y k f fd n sp)(B:eL k X.A)(D:fC X.K fd n ds)(hd:aZ g ds)(G:ma y X E)(J:eval (.Call (.Attribute o m i) [] [] d) X.env=(do
   let r<-eval o X.env
   standAt i.atName let(f,first)<-holding [r] (getMethod r m pl)callWith d f first (backTo d (starEach [] X.env)) (backToKw d (keywordEach [] X.env))):=by rfl):PE X (.Call (.Attribute o m i) [] [] d) (B6 C m sp g E z Jx):=by intro b s L H Q I h;refine PySem.W.methodCall_KW (pl:=pl) (ce (v b s L H _ I h) λu O⟨x,P,I1,M,a,dx,fs,ex,N,l,q⟩=>?_) J;subst ex;obtain rfl:u=Value.ref a:=M;refine nJ I1 N c hm l ?_;exact PySem.W.callWith_K0 (first:=[.ref a]) I1.kIn hm.kp (y6 (us:=[.ref a]) (vs:=[.ref a]) F B D hd G I1 (.cons rfl .nil) q)
structure Mk(K:MP)(C f:Addr):Prop where
 makes:PySem.W.makesIn K C=true
 init:PySem.W.findIn K (.ref C) "__init__"=some (some (.ref f))fn:PySem.W.isFn K (.ref f)=true
 kp:PySem.W.keepIn K (.ref C)=true
def CL(M:Mk X.K C f)(F:aO X.prog X.w X.K X.mg X.base y k f fd n sp)(G:eL (k+1) X.A)(J:fC X.K fd n ds)(hd:aZ g ds)(L:ma y X E)(I:aN X c q H s)(r:aZ B l)(h:∀x dx,H x=none->H dx=none->dx≠x->sp (.ref x::(B++g)) (aG (aG H dx (.own x)) x (.ins C dx [])) (λv N=>v=.non/\Q (.ref x) N) E):wpAny (model X.prog X.w) X.A (call (.ref C) l) (EP X c q Q) X.xe s:=by
 have D:=h (s.heap.objs.size+1) s.heap.objs.size (I.hok.fresh (qq _)) (I.hok.fresh (fx _)) (iA (ro _));have b:=aN.made (C:=C) I;have r2:aZ (V.ref (s.heap.objs.size+1)::(B++g)) (Value.ref (s.heap.objs.size+1)::(l++ds)):=.cons rfl (r.append hd);have O:(Value.ref (s.heap.objs.size+1)::l++ds).length=n.length:=by have e:=r2.length;rw[F.len _ _ _ _ D]at e;exact e.symm
 refine wpAny_call (DB (f:=f) I.kIn M.makes M.init (beq_iff_eq.mp M.fn) (x_ (F.run _ X.stack _ _ ⟨Value.ref (s.heap.objs.size+1)::l,[]⟩ (Value.ref (s.heap.objs.size+1)::(l++ds)) _ _ E (G.make C l []) (b.env0.make C l []) (J _ (Value.ref (s.heap.objs.size+1)::l) b.kIn O) r2 D) λr P a=>?_))
 cases r with|error e=>exact L c q _ _ e P b a|ok R=>cases R with|ret u=>obtain⟨v,S,T,U,W,Y⟩:=b.after a;subst W;exact⟨U,⟨V.ref (s.heap.objs.size+1),S,T,rfl,Y⟩⟩|next=>exact False.elim a|brk=>exact False.elim a|cont=>exact False.elim a
def rN(M:Mk X.K C f)(F:aO X.prog X.w X.K X.mg X.base y k f fd n sp)(u:eL (k+1) X.A)(hg:Gl X x)(hm:X.mg x=some (.ref C))(v:fC X.K fd n ds)(hd:aZ g ds)(B:ma y X E)(D:PA X (e::j) t)(c:(x==("__debug__":Str))=false:=by decide)(G:starEach (e::j) X.env=(false,eval e X.env)::starEach j X.env:=by rfl)(l:(backTo d (starEach j X.env)).any (·.1)=false:=by rfl):PE X (.Call (.Name x p) (e::j) [] d) (Jy C sp g E t):=by intro a s J H Q I h;refine sm (oV I hg hm ?_ c);refine PySem.W.callWith_K (h₀:=X.base) I.ok.mod.kin M.kp (ce (D d a s J H _ I h) λL N⟨O,P,I1,r,q⟩=>⟨I1.kIn,?_⟩) G l;exact CL M F u v hd B I1 r q
end
section
variable{X:Cx}{q:yR}{k:Nat}{f C:Addr}{fd:FuncData}{j l:MV}{sp:Sp}{E:XK}{x m:Str}{p h c a:Pos}{e o:Expr}{r:MW}{d:List Keyword}{te n:TE}{t tk:TA}{nm:Option Str}
variable{g:List Value->List Value->List Value}{i:List V->List V->List V}
end
structure aA(N P:MV)(sc:Scope):Prop where
 kind:sc.kind=.function
 co:sc.isCoroutine=false
 gen:sc.isGenerator=false
 nd:N.Nodup
 pre:N.take P.length=P
 par:∀x∈P,sc.names.lookup x=some .local\/sc.names.lookup x=some .cell
 nofree:∀y∈sc.names,y.2≠.free
theorem vV{kindOf:Str->Option NameKind}{x:Str}:∀{binds:List (Str×Value)}{m:MS},(∀v,(x,v)∉binds)->bindL kindOf binds m x=m x
 |[],_,_=>rfl|(n,v)::r,m,h=>by
  unfold bindL;rw[vV λw a=>h w (hY _ a)]
  split
  ·have:x≠n:=by rintro rfl;exact h v ir
   simp[this]
  ·rfl
theorem vX{kindOf:Str->Option NameKind}{x:Str}:∀{binds:List (Str×Value)}{m:MS},(∀v,(x,v)∉binds)->bindC kindOf binds m x=m x
 |[],_,_=>rfl|(n,v)::r,m,h=>by
  unfold bindC;rw[vX λw a=>h w (hY _ a)]
  split
  ·rfl
  ·have:x≠n:=by rintro rfl;exact h v ir
   simp[this]
theorem vW{kindOf:Str->Option NameKind}{x:Str}{v:Value}:∀{P:MV}{a:MT}{i:Nat}{m:MS},P.Nodup->P[i]?=some x->a[i]?=some v->kindOf x=some .local->bindL kindOf (P.zip a) m x=some v|[],_,_,_,_,h,_,_=>by simp at h|_::_,[],_,_,_,_,h,_=>by simp at h|p::P,w::a,0,m,nd,h1,h2,b=>by simp at h1 h2;subst h1;subst h2;show bindL kindOf ((p,w)::P.zip a) m p=_;unfold bindL;rw[vV λv c=>(ML.mp nd).1 (LF c).1,hQ b];simp|p::P,w::a,i+1,m,nd,h1,h2,b=>by show bindL kindOf ((p,w)::P.zip a) m x=_;unfold bindL;exact vW (i:=i) (ML.mp nd).2 (by simpa using h1) (by simpa using h2) b
theorem vY{kindOf:Str->Option NameKind}{x:Str}{v:Value}:∀{P:MV}{a:MT}{i:Nat}{m:MS},P.Nodup->P[i]?=some x->a[i]?=some v->kindOf x≠some .local->bindC kindOf (P.zip a) m x=some v|[],_,_,_,_,h,_,_=>by simp at h|_::_,[],_,_,_,_,h,_=>by simp at h|p::P,w::a,0,m,nd,h1,h2,b=>by simp at h1 h2;subst h1;subst h2;show bindC kindOf ((p,w)::P.zip a) m p=_;unfold bindC;rw[vX λv c=>(ML.mp nd).1 (LF c).1,g8 b];simp|p::P,w::a,i+1,m,nd,h1,h2,b=>by show bindC kindOf ((p,w)::P.zip a) m x=_;unfold bindC;exact vY (i:=i) (ML.mp nd).2 (by simpa using h1) (by simpa using h2) b
def iG(N:MV)(a:List V):St:=a.map some++List.replicate (N.length-a.length) none
def qg(c:yR)(P:MU)(w:World)(K:MP)(mg:MS)(base:Heap)(N:MV)(a:Str)(scope:Scope)(f:Addr)(cd:Value)(A:Around)(outer:List Env)(s:Shared)(H:Hp)(E:XK):Cx where
 prog:=P
 w:=w
 K:=K
 mg:=mg
 base:=base
 A:=A.deeper (envOfC a scope s.heap.objs.size f cd)
 N:=N
 s₀:=s
 H₀:=H
 env:=envOfC a scope s.heap.objs.size f cd
 outer:=outer
 stack:=envOfC a scope s.heap.objs.size f cd::outer
 ex:=[]
 calm:=true
 fn:=λ_=>true
 pn:=[]
 xe:=λe d=>wpAny (model P w) (A.deeper (envOfC a scope s.heap.objs.size f cd)) (leaving (envOfC a scope s.heap.objs.size f cd) e) (λ_ b=>c outer H s E e b) (λg b=>c outer H s E g b) d
def yE{a:Scope}{n:Nat}{x:Str}(h:a.names.lookup x=some .cell):∃c,(cellsFrom n a.names []).lookup x=some c:=by have q:=PySem.W.cellsFrom_some a.names n [] (.inl h);exact E1.mp q
def Bx{D:yR}{P:MU}{w:World}{K:MP}{mg:MS}{base:Heap}{N j:MV}{d:Str}{scope:Scope}{f:Addr}{cd:Value}{A:Around}{outer:List Env}{s F:Shared}{H:Hp}{E:XK}{C:MT}{l:List V}(S:aA N j scope)(hd:A.handled=none)(g:zP P w K mg base A outer s H)(Q:l.length=j.length)(r:aZ l C)(x:InCallC s s.heap.objs.size (bindL (envOfC d scope s.heap.objs.size f cd).kindOf (j.zip C) λ_=>none) (cellsFrom (s.heap.objs.size+1) scope.names []) (bindC (envOfC d scope s.heap.objs.size f cd).kindOf (j.zip C) λ_=>none) F):aN (qg D P w K mg base N d scope f cd A outer s H E) [] (iG N l) H F:=by
 have J:j.length<=N.length:=by have:=r4 List.length S.pre;rw[i_]at this;lia
 obtain⟨h1,tk,rfl,G⟩:=x.done;have m:∀b:Addr,b∉(qg D P w K mg base N d scope f cd A outer s H E).ex:=λb z=>absurd (show b∈([]:MZ)from z) (by simp);refine⟨⟨g.mod,S.kind,rfl,rfl,fx _,λy z c h1 h2=>?_,λy o=>?_,λy c _ h=>?_,λ_=>hd,Around.frames_deeper g.frames,.inr ⟨rfl,rfl⟩,λb z=>absurd z (m b),g.bs,g.bsz,λb _ _=>m b,λb z=>absurd z (m b),g.funs,g.frf⟩,rfl,g.bare,Un.kept G,⟨_,x.toInCall.ns,λi y v h1 h2 h3=>?_⟩,λy c h=>⟨_,x.cell y c h⟩,g.hok.fresh (fx _),λy c h=>?_,λp t=>absurd (show p∈([]:MR)from t) (by simp),g.hok.kept G,?_⟩
 ·exact name_of_addr x.apart (PySem.mem_of_lookup h1) (PySem.mem_of_lookup h2)
 ·have o:scope.names.lookup y=some .cell\/scope.names.lookup y=some .free:=o;rcases o with o|o
  ·exact yE o
  ·exact absurd rfl (S.nofree _ (PySem.mem_of_lookup o))
 ·exact vr (x.above y c (PySem.mem_of_lookup h))
 ·have hi:i<l.length:=by
   unfold iG at h2
   by_cases hi:i<l.length
   ·exact hi
   ·rw[z8 (by simpa using hi)]at h2;rw[List.getElem?_replicate]at h2
    split at h2<;>cases h2
  have L:l[i]?=some v:=by unfold iG at h2;rw[rV (by simpa using hi),ge]at h2;cases e:l[i]?with|none=>rw[e]at h2;cases h2|some a=>rw[e]at h2;cases h2;rfl
  obtain⟨u,I,M⟩:=r.get L;have t:j[i]?=some y:=by rw[<-S.pre,LY (by lia)];exact h1
  have B:j.Nodup:=by rw[<-S.pre];exact S.nd.sublist (LS _ _)
  refine⟨u,M,?_⟩;rcases S.par y (ga t)with k|k
  ·exact .inl ⟨k,vW B t I k⟩
  ·obtain⟨c,e⟩:=yE (n:=s.heap.objs.size+1) k;refine .inr ⟨.inl k,c,e,?_⟩;have q:=x.cell y c e;rw[vY B t I (by show scope.names.lookup y≠_;rw[k];decide)]at q;exact q
 ·exact g.hok.fresh (vr (x.above y c (PySem.mem_of_lookup h)))
 ·unfold iG;show _=N.length;rw[gV,b_,Lv];lia
def GV{F:yR}{P:MU}{w:World}{K:MP}{mg:MS}{base:Heap}{k:Nat}{f:Addr}{j a:Str}{d:Arguments}{g:List Stmt}{scope:Scope}{X kV B pm c ct oc:Value}{Z od:Option Addr}{L:Array (Option Value)}{N G:MV}{sp:Sp}(lk:K.lookup f=some ⟨oc,od,.func (PySem.W.fnOf j a d g scope X kV B pm Z c ct),L⟩)(M:PySem.W.codeIn K c a=true)(S:aA N G scope)(len:∀h H Q E,sp h H Q E->h.length=G.length)(m:∀(A:Around)(outer:List Env)(s:Shared)(H:Hp)(h:List V)(Q:VK)(E:XK),eL k (A.deeper (envOfC a scope s.heap.objs.size f c))->sp h H Q E->∃t,u6 (qg F P w K mg base N a scope f c A outer s H E) g t/\t {nx:=λ_ l=>Q .non l,rt:=Q} (iG N h) H):aO P w K mg base F (k+1) f (PySem.W.fnOf j a d g scope X kV B pm Z c ct) G sp:=by
 refine⟨len,λA outer s H Y us h Q E O C hb r D=>?_⟩;have hl:=len _ _ _ _ D;have KX:K.In s.heap:=C.mod.kin.keeps λb o e=>(C.bs b o e).1;have R:s.heap.NoLimit:=C.mod.nolimit.keeps λb o e=>(C.bs b o e).1;have p:∀y∈G.zip us,scope.names.lookup y.1=some .local\/(scope.names.lookup y.1=some .cell/\((cellsFrom (s.heap.objs.size+1) scope.names []).lookup y.1).isSome=true):=λ⟨n,v⟩hy=>by
  rcases S.par n (LF hy).1 with q|q
  ·exact .inl q
  ·exact .inr ⟨q,PySem.W.cellsFrom_some _ _ _ (.inl q)⟩
 refine codeAny_call_function O.depth (KX _ _ lk) rfl S.co S.gen rfl (PySem.W.codeRec_of KX M) (hb _ _ _ _ ?_);refine wpAny_newFunctionEnv_cells S.kind p λenv he s1 x=>?_;subst he;refine⟨R.keeps x.toInCall.keep,codeAny_func ?_⟩;obtain⟨t,ht,hq⟩:=m A outer s H h Q E (O.deeper _) D;have I:aN (qg F P w K mg base N a scope f c A outer s H E) [] (iG N h) H s1:=Bx S O.hd C hl r x;refine wpAny_mono (ht [] s1 (iG N h) H _ I hq) (λfl T z=>?_) λe T z=>z;have fin:∀{i:St}{l:Hp}{v:V}{u:Value},aN (qg F P w K mg base N a scope f c A outer s H E) [] i l T->aU v u->Q v l->CE outer P w H s Q u T:=λ{i l v u}J U q=>⟨v,l,J.os,J.bare,J.base,J.hok,U,q⟩
 cases fl with|ret u=>obtain⟨v,i,l,J,U,q⟩:=z;exact fin J U q|next=>obtain⟨i,l,J,q⟩:=z;exact fin (v:=V.non) (u:=Value.none) J rfl q|brk=>obtain⟨_,_,_,q⟩:=z;exact False.elim q|cont=>obtain⟨_,_,_,q⟩:=z;exact False.elim q
end L2
namespace L2
open PySem PySem.Spec PyProof.Rows
section
variable{X:Cx}{x:Str}{p a:Pos}{e:Expr}{c:MW}{t:TA}{id T:String}{r:List V->Hp->VK->Prop}
def tCB(r:List V->Hp->VK->Prop)(t:TA):TE:=λb H Q=>t b H λd f=>r d f Q
def aB(hc:cX X (.builtin id) r)(hg:Gl X x)(hm:X.mg x=none)(i:bootBuiltins x=some (.builtin id))(j:PA X (e::c) t)(hn:x≠"__name__":=by decide)(d:(x==("__debug__":Str))=false:=by decide)(l:starEach (e::c) X.env=(false,eval e X.env)::starEach c X.env:=by rfl)(f:(backTo a (starEach c X.env)).any (·.1)=false:=by rfl):PE X (.Call (.Name x p) (e::c) [] a) (tCB r t):=by intro b s g H Q I h;refine sm (kO I hg hm i ?_ hn d);exact PyProof.Rows.callWith_builtin1 (ce (j a b s g H _ I h) λk m⟨n,o,I1,q,u⟩=>hc b m g o n k Q I1 q u) l f
def bx(hc:cX X (.type T) r)(hg:Gl X x)(hm:X.mg x=none)(i:bootBuiltins x=some (.type T))(j:PA X (e::c) t)(hn:x≠"__name__":=by decide)(d:(x==("__debug__":Str))=false:=by decide)(l:starEach (e::c) X.env=(false,eval e X.env)::starEach c X.env:=by rfl)(f:(backTo a (starEach c X.env)).any (·.1)=false:=by rfl):PE X (.Call (.Name x p) (e::c) [] a) (tCB r t):=by intro b s g H Q I h;refine sm (kO I hg hm i ?_ hn d);exact t0 (ce (j a b s g H _ I h) λk m⟨n,o,I1,q,u⟩=>hc b m g o n k Q I1 q u) l f
end
end L2
namespace HT
open PySem PyProof.Rows
section
open PySem.SeqAt
open PySem.AutoSeq1(wpAny_loadPart')
open PySem.MeetsSeq PySem.MeetsSeq2 PySem.MeetsSeq3
end
section
variable{prog:MU}{w:World}{A:Around}{E:MQ}{s:Shared}
def Gq(p:IsTup s.heap t d.toArray)(q:IsTup s.heap b a.toArray)(m:d≠[])(h1:a=[]->Q (.ref t) s)(h2:a≠[]->Q (.ref s.heap.objs.size) {s with heap:=s.heap.push {cls:=.type "tuple",data:=.seq (d++a).toArray}})(l:d.length+a.length<=sizeLine):wpAny (model prog w) A (binaryOp .Add (.ref t) (.ref b)) Q E s:=by
 obtain⟨⟨cls,dd,data,sl⟩,j,hc,n,hd⟩:=id p;obtain⟨⟨o,f,data2,g⟩,c,h,n2,i⟩:=id q;simp only at hc hd h i;subst hc hd h i;have e:d.toArray++a.toArray=(d++a).toArray:=by simp
 by_cases k:a=[]
 ·exact concat_meets ⟨_,j,rfl⟩ ⟨_,c,rfl⟩ noFill_tuple_add seq_tuple_add PySem.F.slot_tuple_add PySem.F.entry_tuple_add (PySem.F.args_tuple_add_2 _ _) (tuple_addW1 t b d.toArray a.toArray n n2 dd f sl g (by simpa using m) (by simp[k])) ⟨j,c,h1 k⟩
 ·refine concat_meets ⟨_,j,rfl⟩ ⟨_,c,rfl⟩ noFill_tuple_add seq_tuple_add PySem.F.slot_tuple_add PySem.F.entry_tuple_add (PySem.F.args_tuple_add_2 _ _) (tuple_addW2 t b d.toArray a.toArray n n2 dd f sl g (by simpa using m) (by simpa using k) (by rw[ig,ig];exact l)) ⟨j,c,?_⟩
  rw[e];exact h2 k
def fi(n d:Nat):Option Int->Nat|none=>d|some v=>if v<0 then(v+(n:Int)).toNat else min v.toNat n
def CK(n d:Nat):fi n d none=d:=rfl
def HI(n d:Nat)(hd:d<=n)(o:Option Int):fi n d o<=n:=by cases o with|none=>exact hd|some v=>
  show(if v<0 then(v+(n:Int)).toNat else min v.toNat n)<=n
  by_cases a:v<0
  ·rw[hQ a];lia
  ·rw[g8 a];exact Nat.min_le_right _ _
def Az(v:Int)(n d:Nat):(if v<0 then max (v+(n:Int)) 0 else min v (n:Int))=((fi n d (some v):Nat):Int):=by
 show(if v<0 then max (v+(n:Int)) 0 else min v (n:Int))=(((if v<0 then(v+(n:Int)).toNat else min v.toNat n):Nat):Int)
 by_cases a:v<0
 ·simp only[hQ a];lia
 ·simp only[g8 a];lia
def zM(lo hi:Option Int)(n:Nat):Builtin.Slice.sliceAdjust lo hi 1 (n:Int)=(((fi n 0 lo:Nat):Int),((fi n n hi:Nat):Int)):=by
 have h1:¬((1:Int)<0):=by lia
 unfold Builtin.Slice.sliceAdjust;simp only[h1,L4];refine Prod.ext ?_ ?_
 ·cases lo with|none=>rfl|some v=>exact Az v n 0
 ·cases hi with|none=>rfl|some v=>exact Az v n n
def za(i j:Nat):Builtin.Slice.slicePlaces (i:Int) (j:Int) 1=j-i:=by
 unfold Builtin.Slice.slicePlaces;have h1:(1:Int)>0:=by lia
 simp only[h1,Mo,Int.ediv_one]
 split<;>lia
def sk(p:IsPart v o)(h:Q o s):wpAny (model prog w) A (Builtin.Slice.slicePartIndex v) Q E s:=by cases p with|none=>exact slicePart_none h|int i t=>exact slicePart_int h
def pC{sl:Addr}{c d:Value}{lo hi:Option Int}{n:Nat}{Q:Int×Int×Nat->Shared->Prop}(e:s.heap.IsSliceOf sl c d .none)(pl:IsPart c lo)(f:IsPart d hi)(h:Q (((fi n 0 lo:Nat):Int),1,fi n n hi-fi n 0 lo) s):wpAny (model prog w) A (Builtin.Slice.sliceApplied (.ref sl) (pure (n:Int))) Q E s:=by obtain⟨os,a,g,b⟩:=id e;unfold Builtin.Slice.sliceApplied Builtin.Slice.sliceFields;refine a_ (a_ (rm a b (x:=c) rfl (a_ (rm a b (x:=d) rfl (a_ (rm a b (x:=.none) rfl (e_ ?_)))))));refine a_ (slicePart_none ?_);show wpAny _ _ (if((1:Int)==0)=true then _ else _) _ _ s;rw[g8 (by decide)];refine a_ (sk pl (a_ (sk f (a_ (e_ ?_)))));show wpAny _ _ (match Builtin.Slice.sliceAdjust lo hi 1 (n:Int)with|(lo,hi)=>pure (lo,(1:Int),Builtin.Slice.slicePlaces lo hi 1)) _ _ s;rw[zM lo hi n];show wpAny _ _ (pure (((fi n 0 lo:Nat):Int),(1:Int),Builtin.Slice.slicePlaces ((fi n 0 lo:Nat):Int) ((fi n n hi:Nat):Int) 1)) _ _ s;rw[za];exact e_ h
def CY(a:MX)(i k:Nat):((List.range k).filterMap λ(m:Nat)=>a[((i:Int)+(m:Int)*1).toNat]?).toArray=((a.toList.drop i).take k).toArray:=by
 have e:(λ(m:Nat)=>a[((i:Int)+(m:Int)*1).toNat]?)=λm=>a[i+m]?:=by
  funext m
  have:((i:Int)+(m:Int)*1).toNat=i+m:=by lia
  rw[this]
 rw[e];have:=pick_run a i k;rw[Mt]at this;have b:((λx=>a[x]?)∘λx=>i+x)=λm=>a[i+m]?:=rfl;rw[b]at this;rw[this]
def o7{t sl:Addr}{a:MX}{i j:Value}{lo hi:Option Int}{Q:MQ}(c:IsTup s.heap t a)(l:s.heap.IsSliceOf sl i j .none)(pl:IsPart i lo)(n:IsPart j hi)(o:¬(fi a.size 0 lo=0/\fi a.size a.size hi=a.size))(h:Q (.ref s.heap.objs.size) {s with heap:=s.heap.push {cls:=.type "tuple",data:=.seq ((a.toList.drop (fi a.size 0 lo)).take (fi a.size a.size hi-fi a.size 0 lo)).toArray}})(p:a.size<=sizeLine):wpAny (model prog w) A (getItem (.ref t) (.ref sl)) Q E s:=by
 have b:sizeOk (.seq ((a.toList.drop (fi a.size 0 lo)).take (fi a.size a.size hi-fi a.size 0 lo)).toArray):=by show((a.toList.drop (fi a.size 0 lo)).take (fi a.size a.size hi-fi a.size 0 lo)).toArray.size<=sizeLine;rw[ig,i_,Lx,kt];lia
 have u:fi a.size a.size hi<=a.size:=HI _ _ (fx _) hi;obtain⟨os,d,e,r⟩:=id l;have f:s.TypeIs (.ref sl) "slice":=⟨os,d,e⟩;unfold getItem
 try with_reducible refine m_ ?_
 first|refine a_ (e_ ?_)|skip
 refine a_ (wpAny_sequenceKey c.typeIs (by decide) ?_);refine a_ (oe (name:=Str.ofString "__getitem__") c.typeIs MB (nk MB c.typeIs entry_tuple_getitem ?_ (args_tuple_getitem _ _)))
 show wpAny _ _ (Builtin.Tuple.tupleItemsOf (.ref t)>>=_) _ _ s;refine a_ (tupleItemsOf_ c ?_);refine a_ (Mv f ?_);rw[hQ (by decide)];refine a_ (pC l pl n ?_);have g:¬((((fi a.size 0 lo:Nat):Int)==0&&(1:Int)==1&&(fi a.size a.size hi-fi a.size 0 lo)==a.size)=true):=by intro q;rw[lm,lm]at q;have v:((fi a.size 0 lo:Nat):Int)=0:=eq_of_beq q.1.1;have x:fi a.size a.size hi-fi a.size 0 lo=a.size:=eq_of_beq q.2;exact o ⟨by lia,by lia⟩
 show wpAny _ _ (if(((fi a.size 0 lo:Nat):Int)==0&&(1:Int)==1&&(fi a.size a.size hi-fi a.size 0 lo)==a.size)=true then _ else _) _ _ s;rw[g8 g,CY]
 first|exact a_ (m:=Builtin.Tuple.tupleExact _) (np (e_ ⟨_,rfl,e_ h⟩) b)|exact a_ (m:=Builtin.Tuple.tupleExact _) (np (a_ (e_ (e_ ⟨_,rfl,e_ h⟩))) b)|exact a_ (a_ (m:=Builtin.Tuple.tupleExact _) (np (e_ (e_ ⟨_,rfl,e_ h⟩)) b))|exact a_ (a_ (m:=Builtin.Tuple.tupleExact _) (np (e_ ⟨_,rfl,e_ h⟩) b))
end
end HT
namespace L2
open PySem PySem.Spec PyProof.Rows
abbrev TO:=St->Hp->(Option Int->Hp->Prop)->Prop
def PO(X:Cx)(e:Option Expr)(t:TO):Prop:=∀(a:MR)(s:Shared)(b:St)(H:Hp)(Q:Option Int->Hp->Prop),aN X a b H s->t b H Q->wpAny (model X.prog X.w) X.A (evalPart e X.env) (λu d=>∃o c,aN X a b c d/\IsPart u o/\Q o c) X.xe s
def ES:TO:=λ_ H Q=>Q none H
def Jv(t:TE):TO:=λa H Q=>t a H λx b=>∃i,x=.int i/\Q (some i) b
def zy:∀{a:MT},aZ (ns.map V.int) a->IntsAre a ns:=by induction ns with|nil=>intro a r;rw[List.map_nil]at r;cases r;exact .nil|cons n ns b=>intro a r;rw[lh]at r;cases r with|cons c r2=>obtain⟨t,e⟩:=c;subst e;exact .cons n t (b r2)
section
variable{X:Cx}{e:Expr}{te:TE}{lo hi:Option Expr}{f c:TO}{g d:Pos}
def dH:PO X none ES:=by intro a s b H Q I h;rw[evalPart_none];exact e_ ⟨none,H,I,.none,h⟩
def dG(h:PE X e te):PO X (some e) (Jv te):=by intro a s b H Q I j;rw[evalPart_some];refine ce (h a s b H _ I j) λu o k=>?_;obtain⟨x,l,I1,m,n⟩:=k;obtain⟨i,rfl,q⟩:=n;obtain⟨t,rfl⟩:=m;exact⟨some i,l,I1,.int i t,q⟩
def Jl(X:Cx)(r:V->Option Int->Option Int->Hp->VK->Prop):Prop:=∀(a:MR)(s:Shared)(b:St)(H:Hp)(x:V)(v h i:Value)(lo hi:Option Int)(sl:Addr)(Q:VK),aN X a b H s->aU x v->s.heap.IsSliceOf sl h i .none->IsPart h lo->IsPart i hi->r x lo hi H Q->∃T id,typeLookup (.type T) "__getitem__"=pure (some (.builtin id))/\s.TypeIs v T/\wpAny (model X.prog X.w) X.A (getItem v (.ref sl)) (EP X a b Q) X.xe s
def tSl(r:V->Option Int->Option Int->Hp->VK->Prop)(te:TE)(f c:TO):TE:=λa H Q=>te a H λx b=>f a b λl h=>c a h λu i=>r x l u i Q
def cH(p:Jl X r)(t:PE X e te)(y:PO X lo f)(z:PO X hi c):PE X (.Subscript e (.Slice lo hi none d) g) (tSl r te f c):=by intro a s j H Q I h;refine Subscript_ (ce (t a s j H _ I h) λv B k=>?_);obtain⟨x,C,I1,D,E⟩:=k;refine wpAny_Slice (ce (y a B j C _ I1 E) λm F k=>?_);obtain⟨l,G,J,pl,K⟩:=k;refine ce (z a F j G _ J K) λn i k=>?_;obtain⟨u,o,L,M,N⟩:=k;rw[evalPart_none];refine e_ ?_;have O:aN X a j o {i with heap:=i.heap.push {cls:=.type "slice",data:=.fields #[m,n,.none]}}:=L.kept (t':=i.toks) λb ob q=>c_ _ q;obtain⟨T,id,P,R,hg⟩:=p a {i with heap:=i.heap.push {cls:=.type "slice",data:=.fields #[m,n,.none]}} j o x v m n l u i.heap.objs.size Q O D (Heap.IsSliceOf.new ..) pl M N;show wpAny (model X.prog X.w) X.A (subscriptTail e (.Slice lo hi none d) v (.ref i.heap.objs.size)) (EP X a j Q) X.xe {i with heap:=i.heap.push {cls:=.type "slice",data:=.fields #[m,n,.none]}};exact tail_any (ops:=[.ref i.heap.objs.size,v]) R P hg (by with_unfolding_all rfl)
def lc(a:List V)(lo hi:Option Int):List V:=(a.drop (HT.fi a.length 0 lo)).take (HT.fi a.length a.length hi-HT.fi a.length 0 lo)
def qV(a:List V)(lo hi:Option Int):(lc a lo hi).length<=a.length:=by unfold lc;rw[i_,Lx];lia
def JM(K:MP):V->Option Int->Option Int->Hp->VK->Prop:=λx lo hi H Q=>∃a b,x=.ref a/\aX K H a b/\¬(HT.fi b.length 0 lo=0/\HT.fi b.length b.length hi=b.length)/\∀p,H p=none->Q (.ref p) (aG H p (.tup (lc b lo hi)))
def HF:Jl X (JM X.K):=by
 intro l s z H x v A B lo hi sl Q I p t pl u h;obtain⟨a,j,rfl,w,y,q⟩:=h;cases p;obtain⟨k,r,m,n⟩:=I.tuple w;have i:k.toArray.size=j.length:=by rw[ig];exact r.length.symm
 refine⟨"tuple",_,PyProof.Rows.slot_tuple_getitem.lookup,m.typeIs,?_⟩;refine HT.o7 m t pl u (by rw[i];exact y) ?_ (by rw[i];exact n);rw[i];refine⟨.ref s.heap.objs.size,_,I.laid (t':=s.toks) (o:=.tup (lc j lo hi)) (λb ob q=>c_ _ q) (fx _) ?_,rfl,q _ (I.hok.fresh (fx _))⟩;exact⟨ku (qV j lo hi) n,_,(r.drop (HT.fi j.length 0 lo)).take (HT.fi j.length j.length hi-HT.fi j.length 0 lo),IsTup.new _ _⟩
def GQ(K:MP):R2:=λx y H Q=>∃a b i h,x=.ref a/\y=.ref b/\aX K H a i/\aX K H b h/\i≠[]/\i.length+h.length<=sizeLine/\(h=[]->Q (.ref a) H)/\(h≠[]->∀p,H p=none->Q (.ref p) (aG H p (.tup (i++h))))
def aZ.nil_iff(r:aZ a h):h=[]↔a=[]:=by cases r with|nil=>simp|cons _ _=>simp
def FL:ld X (binaryOp .Add) (GQ X.K):=by intro j s G H x y v u Q I m n h;obtain⟨a,b,p,r,rfl,rfl,t,A,B,k,C,D⟩:=h;cases m;cases n;obtain⟨E,i,F,_⟩:=I.tuple t;obtain⟨l,r2,d,_⟩:=I.tuple A;refine HT.Gq F d (λz=>B (i.nil_iff.mp z)) (λz=>⟨.ref a,H,I,rfl,C (r2.nil_iff.mp z)⟩) (λz=>?_) (by rw[<-i.length,<-r2.length];exact k);refine⟨.ref s.heap.objs.size,_,I.laid (t':=s.toks) (o:=.tup (p++r)) (λb ob q=>c_ _ q) (fx _) ?_,rfl,D (λw=>z (r2.nil_iff.mpr w)) _ (I.hok.fresh (fx _))⟩;exact⟨by rw[gV];exact k,_,i.append r2,IsTup.new _ _⟩
end
end L2
namespace L2
open PySem PySem.Spec PyProof.Rows
def Ga(n:Nat)(i:Int):Option Nat:=if 0<=i then(if i<n then some i.toNat else none)else if-(n:Int)<=i then some (i+n).toNat else none
def u4{a:Type}(c:List a)(i:Int):Option a:=(Ga c.length i).bind λj=>c[j]?
def Aq(h:Ga n i=some j):seqIndex? i n=some j/\j<n/\-(n:Int)<=i/\i<n:=by
 unfold Ga at h
 by_cases h0:0<=i
 ·rw[hQ h0]at h
  by_cases h1:i<n
  ·rw[hQ h1]at h;have e:i.toNat=j:=kl h;exact⟨by rw[seqIndex_of h0 h1,e],by lia,by lia,h1⟩
  ·rw[g8 h1]at h;cases h
 ·rw[g8 h0]at h
  by_cases h1:-(n:Int)<=i
  ·rw[hQ h1]at h;have e:(i+n).toNat=j:=kl h;exact⟨by rw[seqIndex_neg (by lia) h1,e],by lia,h1,by lia⟩
  ·rw[g8 h1]at h;cases h
def w6(h:u4 a i=some v):∃j,seqIndex? i a.length=some j/\a[j]?=some v/\j<a.length/\-(a.length:Int)<=i/\i<a.length:=by unfold u4 at h;cases e:Ga a.length i with|none=>rw[e]at h;cases h|some j=>rw[e]at h;obtain⟨h1,h2,h3,h4⟩:=Aq e;exact⟨j,h1,h,h2,h3,h4⟩
def xf(b:Expr):Prop:=∀o i,subscripted b false o i=operate [o,i] (getItem o i)
def Jo(X:Cx)(r:R2):Prop:=∀(c a:Expr)(b:MR)(s:Shared)(d:St)(H:Hp)(x y:V)(v u:Value)(Q:VK),aN X b d H s->aU x v->aU y u->r x y H Q->subscripted a false v u=operate [v,u] (getItem v u)->wpAny (model X.prog X.w) X.A (subscriptTail c a v u) (EP X b d Q) X.xe s
def KA(X:Cx)(id:String)(r:V->List V->Hp->VK->Prop):Prop:=∀(a:MR)(s:Shared)(b:St)(H:Hp)(x:V)(c:List V)(v:Value)(d:MT)(Q:VK),aN X a b H s->aU x v->aZ c d->r x c H Q->wpAny (model X.prog X.w) X.A (call (.builtin id) (v::d)) (EP X a b Q) X.xe s
section
variable{X:Cx}{a b:Expr}{E F:TE}{D:Pos}
def xN(d:Jo X r)(e:PE X a E)(f:PE X b F)(g:xf b):PE X (.Subscript a b D) (Ja r E F):=by intro c s i H Q I h;exact Subscript_ (IO e f I h λv u j x y k l m n q=>d a b c j i k x y v u Q l m n q (g _ _))
def HL(K:MP):R2:=λx y H Q=>∃p c i v,x=.ref p/\y=.int i/\aW K H p c/\u4 c i=some v/\Q v H
def HK(K:MP):R2:=λx y H Q=>∃p c i v,x=.ref p/\y=.int i/\aX K H p c/\u4 c i=some v/\Q v H
def K6:R2:=λx y H Q=>∃z i c,x=.str z/\y=.int i/\z.length<=sizeLine/\u4 z.cps.toList i=some c/\Q (.str ⟨#[c]⟩) H
def F8:Jo X (HL X.K):=by
 intro d e c s l H x y v u Q I o A h m;obtain⟨p,L,i,z,rfl,rfl,B,C,q⟩:=h;cases o;obtain⟨t,rfl⟩:=A;obtain⟨f,r,pl,M⟩:=I.list B;obtain⟨j,h1,h2,h3,h4,h5⟩:=w6 C;obtain⟨w,n,g⟩:=r.get h2;have G:=r.length;have hn:=pQ;have fin:EP X c l Q w s:=⟨z,H,I,g,q⟩
 by_cases h0:0<=i
 ·have k:i.toNat=j:=by rw[seqIndex_of h0 h5]at h1;exact kl h1
  exact item_listR pl.isList h0 (by lia) (by rw[k];simpa using n) fin m
 ·have k:(i+(f.toArray.size:Int)).toNat=j:=by rw[seqIndex_neg (by lia) h4]at h1;rw[ig,<-G];exact kl h1
  exact subscriptTail_builtinR (x:=w) pl.isList.typeIs slot_list_getitem.lookup (wpAny_getItem_list_neg (Q:=λr J=>r=w/\EP X c l Q r J) pl.isList (by lia) (by rw[ig]<;>lia) (by lia) (by rw[k];simpa using n) ⟨rfl,fin⟩) m
def Iu:Jo X (HK X.K):=by intro d e c s g H x y v u Q I k l h m;obtain⟨p,J,i,z,rfl,rfl,n,o,q⟩:=h;cases k;obtain⟨t,rfl⟩:=l;obtain⟨A,r,pl,L⟩:=I.tuple n;obtain⟨j,h1,h2,h3,h4,h5⟩:=w6 o;obtain⟨w,B,f⟩:=r.get h2;have C:=r.length;have hn:=pQ;have fin:EP X c g Q w s:=⟨z,H,I,f,q⟩;exact subscriptTail_builtinR (x:=w) pl.typeIs slot_tuple_getitem.lookup (getItem_tuple (j:=j) (Q:=λr G=>r=w/\EP X c g Q r G) pl (by lia) (by lia) (by rw[ig,<-C];exact h1) (by simpa using B) ⟨rfl,fin⟩) m
def zv:Jo X K6:=by
 intro d e f s r H x y v u Q I g k h l;obtain⟨z,i,c,rfl,rfl,w,m,q⟩:=h;obtain⟨t,rfl⟩:=g;obtain⟨A,rfl⟩:=k;obtain⟨j,h1,h2,h3,h4,h5⟩:=w6 m;have n:z.cps.toList.length=z.length:=by simp[Str.length]
 rw[n]at h1 h4 h5;have hn:=pQ;exact tail_any (typeIs_str s z t) slot_str_getitem.lookup (getItem_str (c:=c) (by have o:decide (i< -(2^63:Int))=false:=j2 (by lia);have p:decide (i>=2^63)=false:=j2 (by lia);rw[o,p,Bool.or_false]) (by rw[h1];simpa using h2) ⟨.str ⟨#[c]⟩,H,I.tok _,⟨_,rfl⟩,q⟩) l
def zq(c:MT)(n j:Nat)(u:Value):Obj.mapSeq (·.setIfInBounds j u) {cls:=.type "list",data:=.seq c.toArray n}={cls:=.type "list",data:=.seq (c.set j u).toArray n}:=by simp[Obj.mapSeq]
theorem aN.lst(I:aN X d g H s)(h:H p=some (.lst f)):∃(c:MT)(n:Nat),aZ f c/\s.heap.get? p=some {cls:=.type "list",data:=.seq c.toArray n}/\f.length<=sizeLine:=by obtain⟨z,c,n,r,e⟩:=I.hok p _ h;exact⟨c,n,r,e,z⟩
def aN.lstUpd{d:MR}{l:St}{H:Hp}{s:Shared}{p:Addr}{o i:List V}{g c:MT}{n j:Nat}{f:Obj->Obj}(I:aN X d l H s)(h:H p=some (.lst o))(v:s.heap.get? p=some {cls:=.type "list",data:=.seq g.toArray n})(m:f {cls:=.type "list",data:=.seq g.toArray n}={cls:=.type "list",data:=.seq c.toArray j})(r:aZ i c)(w:i.length<=sizeLine)(t:Nat):aN X d l (aG H p (.lst i)) {s with heap:=s.heap.update p f,toks:=t}:=by
 have e:(s.heap.update p f).get? p=some {cls:=.type "list",data:=.seq c.toArray j}:=by rw[qx f v (by rw[m]<;>rfl),m]
 refine I.write (x:=p) (e:=p) (by rw[h];trivial) (.inl rfl) (λb u k q=>(rr _ _ (mu k)).trans q) ⟨_,e⟩ ?_;exact⟨w,c,j,r,e⟩
def JP:V->V->V->Hp->(Hp->Prop)->Prop:=λo i v H Q=>∃p c k j,o=.ref p/\i=.int k/\H p=some (.lst c)/\Ga c.length k=some j/\Q (aG H p (.lst (c.set j v)))
def CH:GB X JP:=by
 intro c s w H o i v G iv u Q I x y z h;obtain⟨p,A,k,j,rfl,rfl,l,B,q⟩:=h;cases x;obtain⟨t,rfl⟩:=y;obtain⟨d,n,r,e,C⟩:=I.lst l;obtain⟨h1,h2,h3,h4⟩:=Aq B;have f:=r.length;have hn:=pQ;have m:aN X c w (aG H p (.lst (A.set j v))) {s with heap:=s.heap.update p (Obj.mapSeq (·.setIfInBounds j u))}:=I.lstUpd l e (zq d n j u) (r.set z j) (by rw[ry];exact C) s.toks
 by_cases h0:0<=k
 ·have g:k.toNat=j:=by rw[seqIndex_of h0 h4]at h1;exact kl h1
  exact PySem.W.ki_setAt e h0 (by lia) (by rw[ig,<-f];exact h4) (by rw[g];exact⟨_,m,q⟩)
 ·have g:(k+(d.toArray.size:Int)).toNat=j:=by rw[seqIndex_neg (by lia) h3]at h1;rw[ig,<-f];exact kl h1
  exact PySem.W.ki_setBack e (by lia) (by rw[ig,<-f];exact h3) (by lia) (by rw[g];exact⟨_,m,q⟩)
def wj(lo hi:Option Int)(n:Nat):(sliceBounds lo hi none n).1=((HT.fi n 0 lo:Nat):Int)/\(sliceBounds lo hi none n).2.1=((HT.fi n n hi:Nat):Int)/\(sliceBounds lo hi none n).2.2=1:=by
 refine⟨?_,?_,rfl⟩
 ·cases lo with|none=>simp[sliceBounds,HT.fi]|some i=>
   simp only[sliceBounds,HT.fi,Option.getD_none,show(1:Int)>0 by decide,Mo]
   by_cases h:i<0
   ·simp only[h,Mo]<;>lia
   ·simp only[h,L4]<;>lia
 ·cases hi with|none=>simp[sliceBounds,HT.fi]|some i=>
   simp only[sliceBounds,HT.fi,Option.getD_none,show(1:Int)>0 by decide,Mo]
   by_cases h:i<0
   ·simp only[h,Mo]<;>lia
   ·simp only[h,L4]<;>lia
def uu(c:MT)(lo hi:Option Int):slicePick c.toArray lo hi none=((c.drop (HT.fi c.length 0 lo)).take (HT.fi c.length c.length hi-HT.fi c.length 0 lo)).toArray:=by obtain⟨h1,h2,h3⟩:=wj lo hi c.toArray.size;unfold slicePick;rw[h1,h2,h3];simp only[sliceRange_one,pick_run,ig]<;>rfl
def JN(K:MP):V->Option Int->Option Int->Hp->VK->Prop:=λx lo hi H Q=>∃a c,x=.ref a/\aW K H a c/\∀p,H p=none->Q (.ref p) (aG H p (.lst (lc c lo hi)))
def Fv:Jl X (JN X.K):=by intro e s n H x v p t lo hi sl Q I g i pl j h;obtain⟨a,c,rfl,k,q⟩:=h;cases g;obtain⟨l,r,f,m⟩:=I.list k;have d:=r.length;refine⟨"list",_,slot_list_getitem.lookup,f.isList.typeIs,?_⟩;refine wpAny_getItem_list_slice f.isList i pl j .none (by simp) ?_ (by rw[ig]<;>lia);rw[uu,<-d];refine⟨.ref s.heap.objs.size,_,I.laid (t':=s.toks) (o:=.lst (lc c lo hi)) (λb ob q=>c_ _ q) (fx _) ?_,rfl,q _ (I.hok.fresh (fx _))⟩;exact⟨ku (qV c lo hi) m,_,0,(r.drop (HT.fi c.length 0 lo)).take (HT.fi c.length c.length hi-HT.fi c.length 0 lo),f_ _ rfl⟩
def lW:V->Bool|.non=>true|.bl _=>true|.int _=>true|.str _=>true|_=>false
def Gi:V->V->Bool|.non,.non=>true|.bl a,.bl b=>a==b|.bl a,.int b=>(if a then 1 else 0)==b|.int a,.bl b=>a==(if b then 1 else 0)|.int a,.int b=>a==b|.str a,.str b=>a==b|_,_=>false
def IH(e:aU y u)(c:aU x v)(g:lW y=true)(f:lW x=true):SeqAt.EqAt A s u v (Gi y x):=by cases y with
 |non=>cases e;cases x with|non=>cases c;exact SeqAt.EqAt.same _|bl b=>cases c;exact SeqAt.EqAt.none_bool b|int b=>obtain⟨t,rfl⟩:=c;exact SeqAt.EqAt.none_int b t|str b=>obtain⟨t,rfl⟩:=c;exact SeqAt.EqAt.none_str b t|_=>exact absurd (show false=true from f) h_
 |bl a=>cases e;cases x with|non=>cases c;exact SeqAt.EqAt.bool_none a|bl b=>cases c;exact SeqAt.EqAt.bool_bool a b|int b=>obtain⟨t,rfl⟩:=c;exact SeqAt.EqAt.bool_int a b t|str b=>obtain⟨t,rfl⟩:=c;exact SeqAt.EqAt.bool_str a b t|_=>exact absurd (show false=true from f) h_
 |int a=>obtain⟨d,rfl⟩:=e;cases x with|non=>cases c;exact SeqAt.EqAt.int_none a d|bl b=>cases c;exact SeqAt.EqAt.int_bool a d b|int b=>obtain⟨t,rfl⟩:=c;exact SeqAt.EqAt.int_int a d b t|str b=>obtain⟨t,rfl⟩:=c;exact SeqAt.EqAt.int_str a d b t|_=>exact absurd (show false=true from f) h_
 |str a=>obtain⟨d,rfl⟩:=e;cases x with|non=>cases c;exact SeqAt.EqAt.str_none a d|bl b=>cases c;exact SeqAt.EqAt.str_bool a d b|int b=>obtain⟨t,rfl⟩:=c;exact SeqAt.EqAt.str_int a d b t|str b=>obtain⟨t,rfl⟩:=c;exact SeqAt.EqAt.str_str a d b t|_=>exact absurd (show false=true from f) h_
 |_=>exact absurd (show false=true from g) h_
def Gj(x:V)(u:Value):Bool:=match u with|.none=>Gi .non x|.bool b=>Gi (.bl b) x|.int i _=>Gi (.int i) x|.str z _=>Gi (.str z) x|_=>false
def D9(r:aU y u)(f:lW y=true):Gj x u=Gi y x:=by cases y with|non=>cases r;rfl|bl b=>cases r;rfl|int i=>obtain⟨t,rfl⟩:=r;rfl|str z=>obtain⟨t,rfl⟩:=r;rfl|_=>exact absurd (show false=true from f) h_
theorem w9:∀{c:List V}{d:MT},aZ c d->c.all lW=true->d.any (Gj x)=c.any λy=>Gi y x|_,_,.nil,_=>rfl|y::c,u::d,.cons r t,f=>by rw[E2,lm]at f;rw[t4,t4,D9 r f.1,w9 t f.2]
theorem tQ(g:aU x v)(h:lW x=true):∀{d:List V}{e:MT},aZ d e->d.all lW=true->∀u∈e,SeqAt.EqAt A s u v (Gj x u)
 |_,_,.nil,_=>λu c=>by cases c|y::d,u::e,.cons r t,f=>λi c=>by
  rw[E2,lm]at f;rcases o_.mp c with rfl|c
  ·rw[D9 r f.1];exact IH r g f.1 h
  ·exact tQ g h t f.2 i c
def nI(x:V)(c:List V):Bool:=c.any λy=>Gi y x
def rIn(K:MP)(d:Bool):R2:=λx y H Q=>∃p c,y=.ref p/\(aW K H p c\/aX K H p c)/\lW x=true/\c.all lW=true/\Q (.bl (if d then !nI x c else nI x c)) H
def Bg:ld X (compareOp .In) (rIn X.K false):=by
 intro f s l H x y v u Q I g j h;obtain⟨p,m,rfl,d,i,fs,q⟩:=h;cases j;rcases d with d|d
 ·obtain⟨c,r,pl,k⟩:=I.list d;refine SeqAt.in_listAt (Gj x) pl.isList (λw e=>tQ g i r fs w (by simpa using e)) ⟨.bl _,H,I,rfl,?_⟩;rw[show c.toArray.any (Gj x)=c.any (Gj x)by simp,w9 r fs];exact q
 ·obtain⟨c,r,pl,k⟩:=I.tuple d;refine SeqAt.in_tupleAt (Gj x) pl (λw e=>tQ g i r fs w (by simpa using e)) ⟨.bl _,H,I,rfl,?_⟩;rw[show c.toArray.any (Gj x)=c.any (Gj x)by simp,w9 r fs];exact q
def wV:cX X (.type "list") (λv H Q=>∃p d,v=[.ref p]/\(aW X.K H p d\/aX X.K H p d)/\∀l,H l=none->Q (.ref l) (aG H l (.lst d))):=by
 intro i s y H v A Q I r h;obtain⟨p,d,rfl,j,q⟩:=h;obtain⟨u,rfl,z⟩:=iE r;cases z;have fin:∀(c:MT),aZ d c->d.length<=sizeLine->∀(h':Heap)(f:Nat),(∀b x,s.heap.get? b=some x->h'.get? b=some x)->h'.get? s.heap.objs.size=some {cls:=.type "list",dict:=none,data:=.seq c.toArray f,slots:=#[]}->EP X i y Q (.ref s.heap.objs.size) {s with heap:=h'}:=λc g k h' f kp e=>⟨.ref s.heap.objs.size,_,I.laid (t':=s.toks) kp (fx _) (show cV X.prog X.w _ h' _ (.lst d)from⟨k,c,f,g,e⟩),rfl,q _ (I.hok.fresh (fx _))⟩
 rcases j with j|j
 ·obtain⟨c,g,pl,k⟩:=I.list j;have m:=g.length;obtain⟨o,t,hc,n,hd⟩:=pl.isList;exact call_list_seq p (.inl rfl) t hc hd (λh' f kp e=>fin c g k h' f kp e) (by simp only[ig]<;>lia)
 ·obtain⟨c,g,pl,k⟩:=I.tuple j;have m:=g.length;obtain⟨o,t,hc,n,hd⟩:=pl;exact call_list_seq p (.inr rfl) t hc hd (λh' f kp e=>fin c g k h' f kp e) (by simp only[ig]<;>lia)
def uZ:cX X (.type "tuple") (λj H Q=>∃p f,j=[.ref p]/\((aW X.K H p f/\∀l,H l=none->Q (.ref l) (aG H l (.tup f)))\/(aX X.K H p f/\Q (.ref p) H))):=by
 intro c s k H j y Q I r h;obtain⟨p,f,rfl,h⟩:=h;obtain⟨u,rfl,t⟩:=iE r;cases t;rcases h with⟨g,q⟩|⟨g,q⟩
 ·obtain⟨d,i,pl,m⟩:=I.list g;have n:=i.length;refine call_tuple_list pl.isList (λh' kp=>?_) (by simp only[ig]<;>lia);have I1:aN X c k H {s with heap:=h'}:=I.kept (t':=s.toks) kp;have x:aN X c k (aG H h'.objs.size (.tup f)) {s with heap:=h'.push {cls:=.type "tuple",data:=.seq d.toArray}}:=I1.laid (t':=s.toks) (λb o e=>c_ _ e) (fx _) (show cV X.prog X.w _ _ _ (.tup f)from⟨m,d,i,IsTup.new _ _⟩)
  exact⟨.ref h'.objs.size,_,x,rfl,q _ (I1.hok.fresh (fx _))⟩
 ·obtain⟨d,i,pl,m⟩:=I.tuple g;exact call_tuple_same pl ⟨.ref p,H,I,rfl,q⟩
def tyV(K:MP)(T:String)(x:V)(H:Hp):Prop:=match x with|.str _=>T="str"|.int _=>T="int"|.ref p=>(T="list"/\∃d,aW K H p d)\/(T="tuple"/\∃o,K.lookup p=some o/\o.cls=.type "tuple"/\o.dict=none)\/(T="dict"/\((∃c,H p=some (.dK c))\/∃c,H p=some (.dT c)))\/(T="set"/\∃S n,H p=some (.set S n))|_=>False
def Hc(I:aN X h l H s)(r:aU x v)(ty:tyV X.K T x H):
 s.TypeIs v T/\∀a,v=.ref a->∃ob,s.heap.get? a=some ob/\ob.dict=none:=by cases x with|str z=>obtain⟨t,rfl⟩:=r;cases(show T="str"from ty);exact⟨typeIs_str s z t,λ_ e=>nomatch e⟩|int i=>obtain⟨t,rfl⟩:=r;cases(show T="int"from ty);exact⟨typeIs_int s i t,λ_ e=>nomatch e⟩|ref p=>
  cases r;rcases ty with⟨rfl,m,j⟩|⟨rfl,o,d,hc,hd⟩|⟨rfl,d⟩|⟨rfl,S,n,d⟩
  ·obtain⟨k,_,pl,_⟩:=I.list j;refine⟨pl.isList.typeIs,λa e=>?_⟩;cases e;obtain⟨o,n,e,c,hd,_⟩:=pl;exact⟨o,e,hd⟩
  ·refine⟨⟨o,I.kIn p o d,hc⟩,λa e=>?_⟩;cases e;exact⟨o,I.kIn _ o d,hd⟩
  ·have z:∃o,s.heap.get? p=some o/\o.ExactDict:=by
    rcases d with⟨f,d⟩|⟨f,d⟩
    ·obtain⟨_,_,_,_,o,_,_,e,ex,_⟩:=I.hok p _ d;exact⟨o,e,ex⟩
    ·obtain⟨_,_,_,_,o,_,_,e,ex,_⟩:=I.hok p _ d;exact⟨o,e,ex⟩
   obtain⟨o,e,ex⟩:=z;refine⟨⟨o,e,ex.1⟩,λa g=>?_⟩;cases g;exact⟨o,e,ex.2.1⟩
  ·obtain⟨o,_,_,_,e,ex,_⟩:=I.hok p _ d;refine⟨⟨o,e,ex.1⟩,λa g=>?_⟩;cases g;exact⟨o,e,ex.2.1⟩|_=>exact False.elim ty
def tBM(K:MP)(T:String)(r:V->List V->Hp->VK->Prop)(C:TE)(t:TA):TE:=λc H Q=>C c H λx d=>tyV K T x d/\t c d λe f=>r x e f Q
variable{o e:Expr}{m:MW}{C:TE}{t:TA}{g:Str}{B d:Pos}{T id:String}{r:V->List V->Hp->VK->Prop}
def JV(w:PlainAttrs T)(slot:Slot T g id)(n:typeOf (.builtin id)=pure (.type "method_descriptor"))(hm:KA X id r)(y:PE X o C)(z:PA X (e::m) t)(i:attributeBase o g X.env (eval o X.env)=eval o X.env:=by rfl)(l:((backTo d (starEach (e::m) X.env)).all (λx=>!x.1)&&(backToKw d (keywordEach [] X.env)).all (λx=>x.1.isSome)&&decide ((e::m).length+([]:List Keyword).length+(if([]:List Keyword).isEmpty then 0 else 1)<30))=true:=by rfl)(j:(B.endLine==d.line)=true:=by rfl)(A:starEach (e::m) X.env=(false,eval e X.env)::starEach m X.env:=by rfl)(f:(backTo d (starEach m X.env)).any (·.1)=false:=by rfl):PE X (.Call (.Attribute o g B) (e::m) [] d) (tBM X.K T r C t):=by intro c s k H Q I h;refine wpAny_Call_method_late i l j rfl (ce (y c s k H _ I h) λv G p=>?_);obtain⟨x,J,I1,q,ty,L⟩:=p;obtain⟨h1,h2⟩:=Hc I1 q ty;refine⟨T,id,w,slot,n,h1,h2,?_⟩;have u:=z d c G k J _ I1 L;rw[A]at u⊢;refine pw (by show(false||(backTo d (starEach m X.env)).any (·.1))=false;rw[f]<;>rfl) (sT ?_);refine ce u λM N p=>?_;obtain⟨O,P,R,r2,S⟩:=p;exact hm c N k P x O v M Q R q r2 S
end
end L2
namespace L2
open PySem PySem.Spec PyProof.Rows
def MtM(X:Cx)(id:String)(r:V->List V->Hp->VK->Prop):Prop:=∀(a:MR)(s:Shared)(b:St)(H:Hp)(x:V)(c:List V)(v:Value)(d:MT)(Q:VK),aN X a b H s->aU x v->aZ c d->r x c H Q->wpAny (model X.prog X.w) X.A (call (.builtin id) (v::d)) (EP X a b Q) X.xe s
def aZ.one:∀{x:V}{a:MT},aZ [x] a->∃u,a=[u]/\aU x u|_,_,.cons r .nil=>⟨_,rfl,r⟩
theorem aZ.reverse(h:aZ a c):aZ a.reverse c.reverse:=by induction h with|nil=>exact .nil|cons r t b=>rw[List.reverse_cons,List.reverse_cons];exact aZ.append b (.cons r .nil)
theorem aZ.rep(h:aZ a c):∀k:Nat,aZ (List.replicate k a).flatten (List.replicate k c).flatten|0=>.nil|k+1=>by rw[p_,p_,z3,z3];exact aZ.append h (aZ.rep h k)
theorem vM(a:MT):∀(k:Nat)(c:MT),List.foldl (λd f=>d++f) c.toArray (List.replicate k a.toArray)=(c++(List.replicate k a).flatten).toArray
 |0,c=>by simp|k+1,c=>by
  have e:c.toArray++a.toArray=(c++a).toArray:=by simp
  have b:(c++a)++(List.replicate k a).flatten=c++(List.replicate (k+1) a).flatten:=by rw[p_,z3,LW]
  rw[<-b,<-vM a k (c++a),<-e,p_,rk]
section
variable{X:Cx}{a:MR}{c:St}{H:Hp}{s:Shared}{l b:Addr}{g d i:List V}
def aN.lset{h its':MT}{n:Nat}{f:Array Value->Array Value}{j:Nat}(I:aN X a c H s)(m:H l=some (.lst g))(e:s.heap.get? l=some {cls:=.type "list",data:=.seq h.toArray n})(o:f h.toArray=its'.toArray)(p:aZ d its')(r:d.length<=sizeLine):aN X a c (aG H l (.lst d)) {s with heap:=s.heap.update l (Obj.mapSeq f),toks:=j}:=by have q:=PySem.IsL.update e f;rw[o]at q;refine I.write (x:=l) (e:=l) (by rw[m];exact trivial) (.inl rfl) (λv u k t=>(rr s.heap (Obj.mapSeq f) (mu k)).trans t) ⟨_,q⟩ ?_;exact⟨r,its',_,p,q⟩
def aN.lnew(I:aN X a c H s)(f:aZ d e)(h:d.length<=sizeLine):aN X a c (aG H s.heap.objs.size (.lst d)) {s with heap:=s.heap.push {cls:=.type "list",data:=.seq e.toArray},toks:=t'}:=I.laid (λ_ _ q=>c_ _ q) (fx _) ⟨h,e,0,f,f_ _ rfl⟩
theorem aN.fresh(I:aN X a c H s):H s.heap.objs.size=none:=I.hok.fresh (fx _)
def aN.lstM(I:aN X a c H s)(h:H l=some (.lst g)):g.length<=sizeLine/\∃(f:MT)(n:Nat),aZ g f/\g.length=f.length/\s.heap.get? l=some {cls:=.type "list",data:=.seq f.toArray n}:=by obtain⟨z,f,n,r,e⟩:=I.hok l _ h;exact⟨z,f,n,r,r.length,e⟩
def yc{n:Nat}(h:n<=sizeLine):Builtin.List.listTooLong n=false:=by unfold Builtin.List.listTooLong;exact j2 (by lia)
end
section
variable{X:Cx}
def Fy:V->List V->Hp->VK->Prop:=λx b H Q=>∃l a y,x=.ref l/\b=[y]/\H l=some (.lst a)/\a.length<sizeLine/\Q .non (aG H l (.lst (a++[y])))
def d0:MtM X "list.append" Fy:=by intro b s i H x j v k Q I f g h;obtain⟨l,m,y,rfl,rfl,c,o,q⟩:=h;cases f;obtain⟨u,rfl,ru⟩:=g.one;obtain⟨z,a,n,r,p,e⟩:=I.lstM c;refine call_meets F.slot_list_append ⟨_,e,rfl⟩ F.entry_list_append (F.args_list_append_2 _ _) (PySem.list_append l a.toArray n u (by rw[ig];lia)) ⟨e,?_⟩;refine⟨.non,_,I.lset (its':=a++[u]) c e (by simp) (r.append (.cons ru .nil)) ?_,rfl,q⟩;rw[gV,List.length_singleton];lia
def Fx:V->List V->Hp->VK->Prop:=λx d H Q=>∃l b a c,x=.ref l/\d=[.ref b]/\H l=some (.lst a)/\H b=some (.lst c)/\a.length+c.length<=sizeLine/\Q .non (aG H l (.lst (a++c)))
def vB:MtM X "list.extend" Fx:=by
 intro g s w H x y v A Q I k m h;obtain⟨l,b,B,C,rfl,rfl,i,o,D,q⟩:=h;cases k;obtain⟨u,rfl,ru⟩:=m.one;cases ru;obtain⟨z,c,n,r,E,e⟩:=I.lstM i;obtain⟨G,a,n2,r2,p,t⟩:=I.lstM o;have f:c.toArray.size+a.toArray.size<=sizeLine:=by rw[ig,ig];lia
 have d:¬(!c.toArray.isEmpty&&Builtin.List.listTooLong (c.toArray.size+a.toArray.size))=true:=by rw[yc f,Bool.and_false];exact h_
 refine call_meets F.slot_list_extend ⟨_,e,rfl⟩ F.entry_list_extend (F.args_list_extend_2 _ _) (AutoSeq1.list_extend_list_list_0 l c.toArray n b a.toArray n2 d (by rw[ig];lia) (by lia)) ⟨e,t,?_⟩
 refine⟨.non,_,I.lset (its':=c++a) i e (by simp) (r.append r2) ?_,rfl,q⟩;rw[gV];lia
def K7:R2:=λx y H Q=>∃l b a c,x=.ref l/\y=.ref b/\H l=some (.lst a)/\H b=some (.lst c)/\a.length+c.length<=sizeLine/\∀p,H p=none->Q (.ref p) (aG H p (.lst (a++c)))
def pK:ld X (binaryOp .Add) K7:=by
 intro d s p H x y v u Q I f g h;obtain⟨l,b,t,w,rfl,rfl,i,j,A,q⟩:=h;cases f;cases g;obtain⟨z,c,n,r,B,e⟩:=I.lstM i;obtain⟨C,a,n2,r2,k,m⟩:=I.lstM j;refine PySem.P.add_list e m ?_ (by rw[ig,ig];lia);have o:c.toArray++a.toArray=(c++a).toArray:=by simp
 rw[o];exact⟨.ref _,_,I.lnew (t':=s.toks) (r.append r2) (by rw[gV];lia),rfl,q _ I.fresh⟩
def K5:R2:=λx y H Q=>∃l k a,x=.ref l/\y=.int k/\H l=some (.lst a)/\-(2^63)<=k/\k<2^63/\a.length*k.toNat<=sizeLine/\∀p,H p=none->Q (.ref p) (aG H p (.lst (List.replicate k.toNat a).flatten))
def F4(a:List c)(k:Nat):(List.replicate k a).flatten.length=k*a.length:=by induction k with|zero=>simp|succ k b=>rw[p_,z3,gV,b,Nat.succ_mul,Nat.add_comm]
def C6:ld X (binaryOp .Mult) K5:=by
 intro p s J H x y v u Q I A B h;obtain⟨l,k,K,rfl,rfl,C,h1,h2,w,q⟩:=h;cases A;obtain⟨t,rfl⟩:=B;obtain⟨z,b,n,r,D,e⟩:=I.lstM C;have d:b.toArray.size*k.toNat<=sizeLine:=by rw[ig,<-D];exact w
 have f:¬b.toArray.size*k.toNat>(2^63-1)/8:=by
  have:(sizeLine:Nat)<=(2^63-1)/8:=by decide
  lia
 have g:¬(!Builtin.List.listFitsIndex k)=true:=by rw[fitsIndex_both h1 h2];exact h_
 have c:¬Builtin.List.listTooLong (b.toArray.size*k.toNat)=true:=by rw[yc d];exact h_
 have i:List.foldl (λj o=>j++o) #[] (List.replicate (if b.toArray.isEmpty=true then 0 else k.toNat) b.toArray)=(List.replicate k.toNat b).flatten.toArray:=by
  have E:∀m:Nat,List.foldl (λj o=>j++o) #[] (List.replicate m b.toArray)=(List.replicate m b).flatten.toArray:=λm=>by have:=vM b m [];rw[List.nil_append]at this;exact this
  rw[E];cases b with|nil=>simp|cons a L=>rw[g8 (by simp)]
 refine wpAny_binaryOp_repeat_ref (T:="list") (U:="int") (by decide) ⟨_,e,rfl⟩ (λG=>typeIs_int G k t) noFill_list_mul F.fills_int_mul F.slot_int_rmul repeat_list F.slot_int_index.lookup (call_meets F.slot_int_rmul (typeIs_int s k t) F.entry_int_rmul (F.args_int_rmul_2 _ _) (int___rmul___int_list k t l b.toArray n) ⟨e,rfl,⟨_,e,rfl⟩,call_meets F.slot_list_mul ⟨_,e,rfl⟩ F.entry_list_mul (F.args_list_mul_2 _ _) (AutoListH.list___mul___list_int_3 l b.toArray n k t g f c) ⟨e,?_⟩⟩)
 rw[i];exact⟨.ref _,_,I.lnew (t':=s.toks) (r.rep k.toNat) (by rw[F4,Nat.mul_comm];exact w),rfl,q _ I.fresh⟩
end
section
variable{prog:MU}{w:World}{A:Around}{E:MQ}{s:Shared}
end
section
variable{X:Cx}
end
end L2
namespace L2
open PySem PySem.Spec PyProof.Rows
section
variable{c:Type}[DecidableEq c]
def bu(a:List (c×V))(k:c):Option V:=(a.find? λb=>decide (b.1=k)).map (·.2)
def eR(a:List (c×V))(k:c)(v:V):List (c×V):=if(a.any λb=>decide (b.1=k))=true then a.map (λb=>if b.1=k then(b.1,v)else b)else a++[(k,v)]
def dA(a:List (c×V))(k:c):List (c×V):=a.filter λb=>decide (b.1≠k)
def cq{p:c×V}{r:List (c×V)}{k:c}(e:p.1=k):bu (p::r) k=some p.2:=by simp[bu,pv,e]
def bL{p:c×V}{r:List (c×V)}{k:c}(e:¬p.1=k):bu (p::r) k=bu r k:=by simp[bu,pv,e]
theorem lq(k:c):∀a:List (c×V),(a.any λd=>decide (d.1=k))=(bu a k).isSome
 |[]=>rfl|p::r=>by
  rw[t4]
  by_cases e:p.1=k
  ·simp only[cq e,j1 e,Bool.true_or,Option.isSome_some]
  ·rw[bL e,j2 e,Bool.false_or];exact lq k r
theorem xk(k j:c)(y:V):∀a:List (c×V),bu (a.map λd=>if d.1=k then(d.1,y)else d) j=(bu a j).map λx=>if j=k then y else x
 |[]=>rfl|p::r=>by
  have b:=xk k j y r;rw[lh]
  by_cases h:p.1=k
  ·rw[hQ h]
   by_cases e:p.1=j
   ·rw[cq (p:=(p.1,y)) e,cq e,F_,hQ (e.symm.trans h)]
   ·rw[bL (p:=(p.1,y)) e,bL e,b]
  ·rw[g8 h]
   by_cases e:p.1=j
   ·rw[cq (p:=p) e,cq e,F_,g8 (λz=>h (e.trans z))]
   ·rw[bL (p:=p) e,bL e,b]
theorem ve(k j:c)(y:V):∀a:List (c×V),bu a k=none->bu (a++[(k,y)]) j=if j=k then some y else bu a j
 |[],_=>by
  by_cases e:k=j
  ·rw[hQ e.symm];exact cq (p:=(k,y)) e
  ·rw[g8 (λz=>e z.symm)];exact bL (p:=(k,y)) e|p::r,hn=>by
  rw[MF];have b:¬p.1=k:=λz=>by rw[cq z]at hn;cases hn
  rw[bL b]at hn;have d:=ve k j y r hn
  by_cases e:p.1=j
  ·rw[cq e,cq e,g8 (λz=>b (e.trans z))]
  ·rw[bL e,bL e,d]
def BZ(d:List (c×V))(k j:c)(y:V):bu (eR d k y) j=if j=k then some y else bu d j:=by
 unfold eR
 by_cases a:(d.any λb=>decide (b.1=k))=true
 ·rw[hQ a,xk];rw[lq]at a
  by_cases e:j=k
  ·obtain⟨x,f⟩:=E1.mp a;rw[hQ e,e,f,F_,hQ rfl]
  ·rw[g8 e];cases bu d j with|none=>rfl|some x=>rw[F_,g8 e]
 ·rw[g8 a];refine ve k j y d ?_;rw[lq]at a;cases q:bu d k with|none=>rfl|some x=>rw[q]at a;exact(a rfl).elim
def lR(a:List (c×V))(k:c)(v:V):(eR a k v).length<=a.length+1:=by
 unfold eR
 split
 ·rw[b_];lia
 ·rw[gV,il,LG];lia
def oF{a:List (c×V)}{k:c}(v:V)(h:bu a k=none):eR a k v=a++[(k,v)]:=by unfold eR;rw[lq,h];exact g8 (by decide)
def kf.isSome_eq(r:kf o u):o.isSome=u.isSome:=by cases o with
 |none=>cases u with|none=>rfl|some _=>exact(show False from r).elim
 |some _=>cases u with|none=>exact(show False from r).elim|some _=>rfl
theorem kf.getD(r:kf o u)(a:aU d e):aU (o.getD d) (u.getD e):=by cases o with
 |none=>cases u with|none=>exact a|some _=>exact(show False from r).elim
 |some _=>cases u with|none=>exact(show False from r).elim|some _=>exact r
def KV.val{a:List (c×V)}{g:List (c×Value)}(r:KV a g)(k:c):kf (bu a k) (valueAt g k):=by
 unfold KV at r
 induction r with|nil=>exact True.intro|@cons p q j d h t i=>
  obtain⟨h1,h2⟩:=h
  by_cases e:p.1=k
  ·have f:q.1=k:=h1.symm.trans e;have b:valueAt (q::d) k=some q.2:=by simp[valueAt,pv,f]
   rw[cq e,b];exact h2
  ·have f:¬q.1=k:=λz=>e (h1.trans z);have b:valueAt (q::d) k=valueAt d k:=by simp[valueAt,pv,f]
   rw[bL e,b];exact i
theorem KV.any(r:KV a e)(k:c):(a.any λd=>decide (d.1=k))=e.any λd=>decide (d.1=k):=by
 unfold KV at r
 induction r with|nil=>rfl|cons h t b=>rw[t4,t4,b,h.1]
def KV.repl(r:KV d f)(k:c)(g:aU y u):KV (d.map λa=>if a.1=k then(a.1,y)else a) (f.map λa=>if a.1=k then(a.1,u)else a):=by
 unfold KV at r⊢
 induction r with|nil=>exact .nil|@cons p q i j h t b=>
  rw[lh,lh];refine .cons ?_ b;obtain⟨h1,h2⟩:=h
  by_cases e:p.1=k
  ·rw[hQ e,hQ (h1.symm.trans e)];exact⟨h1,g⟩
  ·rw[g8 e,g8 (λz=>e (h1.trans z))];exact⟨h1,h2⟩
def KV.put(r:KV a d)(k:c)(f:aU y u):KV (eR a k y) (stored d k u):=by
 unfold eR stored;rw[r.any k]
 by_cases e:(d.any λb=>decide (b.1=k))=true
 ·rw[hQ e,hQ e];exact r.repl k f
 ·rw[g8 e,g8 e];exact Paired.snoc r ⟨rfl,f⟩
def KV.drop(r:KV d g)(k:c):KV (dA d k) (without g k):=by
 unfold KV at r⊢;unfold dA without
 induction r with|nil=>exact .nil|@cons p q j l h t f=>
  obtain⟨h1,h2⟩:=h;rw[L6,L6]
  by_cases e:p.1=k
  ·have a:¬decide (p.1≠k)=true:=by simp[e]
   have b:¬decide (q.1≠k)=true:=by simp[h1.symm.trans e]
   rw[g8 a,g8 b];exact f
  ·have i:¬q.1=k:=λz=>e (h1.trans z);have a:decide (p.1≠k)=true:=by simp[e]
   have b:decide (q.1≠k)=true:=by simp[i]
   rw[hQ a,hQ b];exact .cons ⟨h1,h2⟩ f
theorem KV.length(r:KV a d):a.length=d.length:=Paired.length r
def yy(a:List (c×V))(k:c):(dA a k).length<=a.length:=sg _ _
end
def oX(r:aU (kV k) u):(aS P w).is k u=true:=by cases k with|inl i=>obtain⟨t,e⟩:=(show∃t,u=Value.int i t from r);subst e;exact yh P w i t|inr x=>obtain⟨t,e⟩:=(show∃t,u=Value.str x t from r);subst e;exact qP P w x t
theorem pZ:∀{a:List cb}{c:MT},aZ (a.map kV) c->ItemsAre (aS P w) a c|[],_,r=>by rw[List.map_nil]at r;cases r;exact .nil|k::a,_,r=>by rw[lh]at r;cases r with|cons h t=>exact .cons (oX h) (pZ t)
abbrev KT(H:Hp):List (List cb×V)->List (List cb×Addr×Value)->Prop:=Paired λp q=>p.1=q.1/\H q.2.1=some (.tup (p.1.map kV))/\aU p.2 q.2.2
def KT.val{H:Hp}{a:List (List cb×V)}{f:List (List cb×Addr×Value)}(r:KT H a f)(k:List cb):kf (bu a k) ((atKey f k).map (·.2)):=by induction r with|nil=>exact True.intro|@cons p q i c h t g=>
  obtain⟨h1,_,h2⟩:=h
  by_cases e:p.1=k
  ·have d:q.1=k:=h1.symm.trans e;have b:atKey (q::c) k=some q.2:=by simp[atKey,pv,d]
   rw[cq e,b];exact h2
  ·have d:¬q.1=k:=λz=>e (h1.trans z);have b:atKey (q::c) k=atKey c k:=by simp[atKey,pv,d]
   rw[bL e,b];exact g
def KT.repl(r:KT H a d)(k:List cb)(f:aU y u):KT H (a.map λc=>if c.1=k then(c.1,y)else c) (d.map (putAt k u)):=by induction r with|nil=>exact .nil|@cons p q g i h t b=>
  rw[lh,lh];refine .cons ?_ b;obtain⟨h1,h2,h3⟩:=h;unfold putAt
  by_cases e:p.1=k
  ·rw[hQ e,hQ (h1.symm.trans e)];exact⟨h1,h2,f⟩
  ·rw[g8 e,g8 (λz=>e (h1.trans z))];exact⟨h1,h2,h3⟩
def KT.put(r:KT H a c)(k:List cb)(f:H b=some (.tup (k.map kV)))(d:aU y u):KT H (eR a k y) (storedH c k b u):=by
 have e:(a.any λg=>decide (g.1=k))=(atKey c k).isSome:=by rw[lq,(r.val k).isSome_eq,Mx]
 unfold eR storedH;rw[e]
 by_cases q:(atKey c k).isSome=true
 ·rw[hQ q,hQ q];exact r.repl k d
 ·rw[g8 q,g8 q];exact Paired.snoc r ⟨rfl,f,d⟩
def KT.keeps(r:KT H a d)(e:∀b c,H b=some (.tup c)->f b=some (.tup c)):KT f a d:=Paired.mapP r λ_ _ z=>⟨z.1,e _ _ z.2.1,z.2.2⟩
section
variable{P:MU}{w:World}{H:Hp}{h:Heap}{a:Addr}
def GO(ok:lj P w H h)(e:Rd H a u):cV P w H h a u:=e.ok ok
def qU(ok:lj P w H h)(e:Rd H a (.dK c)):c.length<=sizeLine/\(a==sysModules)=false/\∃d,KV c d/\h.DictOf (aS P w) a d:=show cV P w H h a (.dK c)from GO ok e
def GZ(ok:lj P w H h)(e:H a=some (.dK c)):c.length<=sizeLine/\(a==sysModules)=false/\∃d,KV c d/\h.DictOf (aS P w) a d:=qU ok (.inl e)
def nE(ok:lj P w H h)(e:H a=some (.tup (c.map kV))):(tupleKind (aS P w)).is h c a:=by obtain⟨_,b,r,o,h1,h2,n,h3⟩:=(show cV P w H h a (.tup (c.map kV))from ok a _ e);exact⟨o,b.toArray,n,h1,h2,h3,by simpa using pZ r⟩
def qT(ok:lj P w H h)(e:Rd H a (.dT c)):c.length<=sizeLine/\(a==sysModules)=false/\∃d,KT H c d/\h.DictOfH (tupleKind (aS P w)) a d:=by
 obtain⟨z,y,d,r,o,g,i,h1,h2,h3,h4,h5⟩:=(show cV P w H h a (.dT c)from GO ok e);refine⟨z,y,d,r,o,g,i,h1,h2,h3,h4,λx b=>?_,h5⟩;have all:∀{l:List (List cb×V)}{m:List (List cb×Addr×Value)},KT H l m->∀x∈m,(tupleKind (aS P w)).is h x.1 x.2.1:=by
  intro l m q
  induction q with|nil=>intro x b;exact nomatch b|@cons p q k n f t j=>
   intro x b;rcases o_.mp b with e|b
   ·subst e;exact nE ok (by rw[<-f.1];exact f.2.1)
   ·exact j x b
 exact all r x b
def Kt(ok:lj P w H h)(e:H a=some (.dT c)):c.length<=sizeLine/\(a==sysModules)=false/\∃d,KT H c d/\h.DictOfH (tupleKind (aS P w)) a d:=qT ok (.inl e)
end
def eZ(H:Hp)(a:Addr)(y:V)(r:Option V):Prop:=(∃c k,Rd H a (.dK c)/\y=kV k/\r=bu c k)\/∃c k b,Rd H a (.dT c)/\y=.ref b/\H b=some (.tup (k.map kV))/\r=bu c k
def GG(H:Hp)(a:Addr)(y v:V)(d:Hp):Prop:=(∃c k,H a=some (.dK c)/\y=kV k/\c.length<sizeLine/\d=aG H a (.dK (eR c k v)))\/∃c k b,H a=some (.dT c)/\y=.ref b/\H b=some (.tup (k.map kV))/\c.length<sizeLine/\d=aG H a (.dT (eR c k v))
theorem eZ.k{H:Hp}{a:Addr}{c:List (cb×V)}{k:cb}(e:H a=some (.dK c)):eZ H a (kV k) (bu c k):=.inl ⟨c,k,.inl e,rfl,rfl⟩
theorem GG.k{H:Hp}{a:Addr}{c:List (cb×V)}{k:cb}{v:V}(e:H a=some (.dK c))(d:c.length<sizeLine):GG H a (kV k) v (aG H a (.dK (eR c k v))):=.inl ⟨c,k,e,rfl,d,rfl⟩
section
variable{X:Cx}{d:MR}{f:St}{H:Hp}{s:Shared}{a:Addr}{y v:V}{u r:Value}{o:Option V}{A:Around}{E:MQ}
def aN.big(I:aN X d f H s):sysModules<s.heap.objs.size:=by have h:mainGlobals<s.heap.objs.size:=(I.mod.glob.keeps I.bk).lt;exact u1 (by decide) h
def BG(C:A.units+1<cLine)(I:aN X d f H s)(g:eZ H a y (some v))(x:aU y u)(h:∀j B,aN X d f H B->aU v j->Q j B):wpAny (model X.prog X.w) A (getItem (.ref a) u) Q E s:=by
 rcases g with⟨m,k,e,n,l⟩|⟨m,k,b,e,n,D,l⟩
 ·subst n;obtain⟨z,hd,F,c,dd⟩:=qU I.hok e;obtain⟨j,q,i⟩:=kf.some_of (v:=v) (o:=valueAt F k) (by rw[l];exact c.val k);exact wpAny_getItem_of (oX x) dd.mapOf q (h j _ (I.tok _) i)
 ·subst n;cases(show u=Value.ref b from x);obtain⟨z,hd,G,c,dd⟩:=qT I.hok e;obtain⟨j,q,i⟩:=kf.some_of (v:=v) (o:=(atKey G k).map (·.2)) (by rw[l];exact c.val k);obtain⟨p,J,t⟩:=Option.map_eq_some_iff.mp q;refine wpAny_getItem_heap (w_ C) (nE I.hok D) dd J ?_;rw[t];exact h j _ (I.tok _) i
def Lf(p:A.units+1<cLine)(I:aN X d f H s)(g:eZ H a y o)(m:aU y u)(h:∀n,aN X d f H n->Q (.bool o.isSome) n):wpAny (model X.prog X.w) A (compareOp .In u (.ref a)) Q E s:=by
 rcases g with⟨i,k,e,j,l⟩|⟨i,k,b,e,j,t,l⟩
 ·subst j;obtain⟨z,hd,x,c,dd⟩:=qU I.hok e;refine wpAny_in_of (oX m) hd dd.mapOf ?_;rw[<-(c.val k).isSome_eq,<-l];exact h _ (I.tok _)
 ·subst j;cases(show u=Value.ref b from m);obtain⟨z,hd,B,c,dd⟩:=qT I.hok e;refine wpAny_in_heap (w_ p) (nE I.hok t) hd dd ?_;have q:=(c.val k).isSome_eq;rw[Mx]at q;rw[<-q,<-l];exact h _ (I.tok _)
def Gk(p:A.units+1<cLine)(I:aN X d f H s)(g:eZ H a y o)(m:aU y u)(h:∀n,aN X d f H n->Q (.bool (!o.isSome)) n):wpAny (model X.prog X.w) A (compareOp .NotIn u (.ref a)) Q E s:=by
 rcases g with⟨i,k,e,j,l⟩|⟨i,k,b,e,j,t,l⟩
 ·subst j;obtain⟨z,hd,x,c,dd⟩:=qU I.hok e;refine wpAny_notIn_of (oX m) hd dd.mapOf ?_;rw[<-(c.val k).isSome_eq,<-l];exact h _ (I.tok _)
 ·subst j;cases(show u=Value.ref b from m);obtain⟨z,hd,B,c,dd⟩:=qT I.hok e;refine wpAny_notIn_heap (w_ p) (nE I.hok t) hd dd ?_;have q:=(c.val k).isSome_eq;rw[Mx]at q;rw[<-q,<-l];exact h _ (I.tok _)
def rR(I:aN X d f H s)(c:Kz (H a))(g:Heap.SameBut a s.heap h')(h:∃q,h'.get? a=some q)(new:cV X.prog X.w (aG H a ob) h' a ob):aN X d f (aG H a ob) {s with heap:=h',toks:=j}:=I.write (x:=a) (e:=a) c (.inl rfl) (λb q i z=>(g.2 b i).trans z) h new
def Eb(z:c.length<=sizeLine)(hd:(a==sysModules)=false)(e:KV c g)(dd:h'.DictOf (aS P w) a g):cV P w h h' a (.dK c):=⟨z,hd,g,e,dd⟩
def BF(M:A.units+1<cLine)(I:aN X d f H s)(g:GG H a y v N)(F:aU y u)(G:aU v r)(h:∀J,aN X d f N J->Q () J):wpAny (model X.prog X.w) A (setItem (.ref a) u r) Q E s:=by
 rcases g with⟨i,k,e,p,l,t⟩|⟨i,k,b,e,p,K,l,t⟩
 ·subst p t;obtain⟨z,hd,O,j,dd⟩:=GZ I.hok e;have x:O.length<=sizeLine:=by rw[<-j.length];exact z
  have B:(eR i k v).length<=sizeLine:=by have:=lR i k v;lia
  refine wpAny_setItem_pairs (hsz:=x) (oX F) dd λh' m D=>h _ ?_;have P:∃q,h'.get? a=some q:=let⟨q,_,_,n,_⟩:=m;⟨q,n⟩;exact rR I (by rw[e];exact True.intro) D P (Eb B hd (j.put k G) m)
 ·subst p t;cases(show u=Value.ref b from F);obtain⟨z,hd,R,j,dd⟩:=Kt I.hok e;have x:R.length<=sizeLine:=by rw[<-Paired.length j];exact z
  have B:(eR i k v).length<=sizeLine:=by have:=lR i k v;lia
  refine wpAny_setItem_heap (hsz:=x) (w_ M) (nE I.hok K) dd λh' m D=>h _ ?_;obtain⟨q,S,T,n,h2,h3,h4,_,h5⟩:=m;refine rR I (by rw[e];exact True.intro) D ⟨q,n⟩ ⟨B,hd,_,(j.put k K G).keeps λc U L=>?_,q,S,T,n,h2,h3,h4,h5⟩;rw[ao (JY L e (nofun))];exact L
end
section
variable{X:Cx}{d:MR}{f:St}{H:Hp}{s:Shared}{a:Addr}{c:List (cb×V)}{k:cb}{u:Value}{A:Around}{E:MQ}
def Ku(I:aN X d f H s)(e:H a=some (.dK c))(n:aU (kV k) u)(l:bu c k=some v)(hm:g=[]\/∃x,g=[x])(h:∀j r,aN X d f (aG H a (.dK (dA c k))) r->aU v j->Q j r):wpAny (model X.prog X.w) A (call (.builtin "dict.pop") (.ref a::u::g)) Q E s:=by
 obtain⟨z,hd,y,b,dd⟩:=GZ I.hok e;obtain⟨j,B,p⟩:=kf.some_of (v:=v) (o:=valueAt y k) (by rw[<-l];exact b.val k);have C:(keyPart u).isSome=true:=by cases k with|inl i=>obtain⟨t,q⟩:=(show∃t,u=Value.int i t from n);subst q;rfl|inr x=>obtain⟨t,q⟩:=(show∃t,u=Value.str x t from n);subst q;rfl
 have D:argsOk "dict.pop" ⟨.ref a::u::g,[]⟩:=by
  rcases hm with q|⟨x,q⟩
  ·subst q;exact PySem.F.args_dict_pop_2 _ _
  ·subst q;exact PySem.F.args_dict_pop_3 _ _ _
 refine yl PySem.F.slot_dict_pop dd.typeIs PySem.F.entry_dict_pop D (meets_dict_pop_there (aS X.prog X.w) a (oX n) g hm C) ⟨y,j,dd,by rw[<-b.length];exact z,B,λh' m G=>h j _ ?_ p⟩
 have J:∃q,h'.get? a=some q:=let⟨q,_,_,K,_⟩:=m;⟨q,K⟩;exact rR I (by rw[e];exact True.intro) G J (Eb (ku (yy c k) z) hd (b.drop k) m)
end
def Ky(i:Expr):Prop:=∀a iv,subscripted i false a iv=operate [a,iv] (getItem a iv)
def EV{prog:MU}{w:World}{A:Around}{E:MQ}{s:Shared}{env:Env}{c a:Expr}{j:Pos}{T id:String}{Q:MQ}(l:typeLookup (.type T) "__getitem__"=pure (some (.builtin id)))(m:Ky a)(h:wpAny (model prog w) A (eval c env) (λo s₁=>wpAny (model prog w) A (eval a env) (λi d=>d.TypeIs o T/\wpAny (model prog w) A (getItem o i) Q E d) E s₁) E s):wpAny (model prog w) A (eval (.Subscript c a j) env) Q E s:=by
 refine Subscript_ (wpAny_mono h (λo s₁ f=>wpAny_mono f (λi d b=>?_) λ_ _ x=>x) λ_ _ x=>x);obtain⟨k,b⟩:=b;unfold subscriptTail;refine a_ ?_;rw[getitemInPython_of_ne k.not_modules];refine a_ (Ma k l ?_);have fin:wpAny (model prog w) A (subscripted a false o i) (λr e=>wpAny (model prog w) A (letTemporaryGo c o r>>=λ_=>pure r) Q E e) E d:=by rw[m o i];exact wpAny_operating (wpAny_mono b (λr e g=>a_ (wpAny_letTemporaryGo (e_ g))) λ_ _ x=>x)
 first|exact e_ (a_ fin)|exact a_ (e_ (a_ fin))|exact a_ fin
def yz(I:aN X d f H s)(g:eZ H a y o):s.TypeIs (.ref a) "dict":=by
 rcases g with⟨c,k,e,_,_⟩|⟨c,k,b,e,_,_,_⟩
 ·obtain⟨_,_,h,_,dd⟩:=qU I.hok e;exact dd.typeIs
 ·obtain⟨_,_,i,_,dd⟩:=qT I.hok e;exact dd.typeIs
def JB(d ty:TE):TE:=λb H Q=>d b H λx e=>ty b e λy c=>∃a v,x=.ref a/\eZ c a y (some v)/\Q v c
def K0(ty d:TE):TE:=λb H Q=>ty b H λy e=>d b e λx c=>∃a o,x=.ref a/\eZ c a y o/\Q (.bl o.isSome) c
def EU(ty d:TE):TE:=λb H Q=>ty b H λy e=>d b e λx c=>∃a o,x=.ref a/\eZ c a y o/\Q (.bl (!o.isSome)) c
section
variable{X:Cx}{o i e d:Expr}{f l j:Pos}{c ty m:TE}
def gh(r:X.A.units+1<cLine)(t:PE X o c)(hi:PE X i ty)(w:Ky i):PE X (.Subscript o i f) (JB c ty):=by intro b s p H Q I h;refine EV PySem.F.slot_dict_getitem.lookup w (ce (t b s p H _ I h) λu z k=>?_);obtain⟨x,B,I1,C,D⟩:=k;refine ce (hi b z p B _ I1 D) λiv L k=>?_;obtain⟨y,E,q,G,a,v,ex,g,J⟩:=k;subst ex;obtain rfl:u=Value.ref a:=C;exact⟨yz q g,BG r q g G λM N K n=>⟨v,E,K,n,J⟩⟩
def zc(p:X.A.units+1<cLine)(hi:PE X i ty)(q:PE X o c):PC X .In i o (K0 ty c):=by intro b s n H Q I h;refine ce (hi b s n H _ I h) λiv r k=>?_;obtain⟨y,t,I1,v,w⟩:=k;refine ce (q b r n t _ I1 w) λu G k=>?_;obtain⟨x,z,B,C,a,D,ex,g,E⟩:=k;subst ex;obtain rfl:u=Value.ref a:=C;exact Lf p B g v λJ F=>⟨.bl D.isSome,z,F,rfl,E⟩
def pJ(p:X.A.units+1<cLine)(hi:PE X i ty)(q:PE X o c):PC X .NotIn i o (EU ty c):=by intro b s n H Q I h;refine ce (hi b s n H _ I h) λiv r k=>?_;obtain⟨y,t,I1,v,w⟩:=k;refine ce (q b r n t _ I1 w) λu G k=>?_;obtain⟨x,z,B,C,a,D,ex,g,E⟩:=k;subst ex;obtain rfl:u=Value.ref a:=C;exact Gk p B g v λJ F=>⟨.bl (!D.isSome),z,F,rfl,E⟩
end
def Ec(h:Heap)(a:sysModules<h.objs.size):cV P w H (h.push {cls:=.type "dict",data:=.dict #[]}) h.objs.size (.dK []):=⟨kw _,v_.mpr (mu (iA a)),[],.nil,Heap.DictOf.new h⟩
def Hl:TE:=λ_ H Q=>∀p,H p=none->Q (.ref p) (aG H p (.dK []))
section
variable{X:Cx}{c:Pos}
def jW:PE X (.Dict [] [] c) Hl:=λb s d H Q I h=>wpAny_Dict_empty ⟨.ref s.heap.objs.size,_,I.laid (a:=s.heap.objs.size) (o:=.dK []) (t':=s.toks) (λ_ _ q=>c_ _ q) (fx _) (Ec s.heap I.big),rfl,h _ (I.hok.fresh (fx _))⟩
end
structure M1(X:Cx)(o:Expr)(m:Str)(apos:Pos)(e:Expr)(cpos:Pos):Prop where
 base:attributeBase o m X.env (eval o X.env)=eval o X.env
 few:((backTo cpos (starEach [e] X.env)).all (λx=>!x.1)&&(backToKw cpos (keywordEach [] X.env)).all (λx=>x.1.isSome)&&decide (([e]:MW).length+([]:List Keyword).length+(if([]:List Keyword).isEmpty then 0 else 1)<30))=true
 line:(apos.endLine==cpos.line)=true
 trees:backTo cpos (starEach [e] X.env)=[(false,eval e X.env)]
structure M2(X:Cx)(o:Expr)(m:Str)(apos:Pos)(e f:Expr)(cpos:Pos):Prop where
 base:attributeBase o m X.env (eval o X.env)=eval o X.env
 few:((backTo cpos (starEach [e,f] X.env)).all (λx=>!x.1)&&(backToKw cpos (keywordEach [] X.env)).all (λx=>x.1.isSome)&&decide (([e,f]:MW).length+([]:List Keyword).length+(if([]:List Keyword).isEmpty then 0 else 1)<30))=true
 line:(apos.endLine==cpos.line)=true
 trees:backTo cpos (starEach [e,f] X.env)=[(false,eval e X.env),(false,eval f X.env)]
def KR(H:Hp)(a:Addr):Prop:=(∃b,Rd H a (.dK b))\/∃b,Rd H a (.dT b)
def zx(I:aN X f g H s)(d:KR H a):s.TypeIs (.ref a) "dict"/\(∀b,Value.ref a=.ref b->∃ob,s.heap.get? b=some ob/\ob.dict=none)/\(a==sysModules)=false:=by
 rcases d with⟨c,e⟩|⟨c,e⟩
 ·obtain⟨_,hd,h,_,dd⟩:=qU I.hok e;refine⟨dd.typeIs,λb q=>?_,hd⟩;cases q;obtain⟨ob,_,_,h1,h2,_⟩:=dd;exact⟨ob,h1,h2.2.1⟩
 ·obtain⟨_,hd,i,_,dd⟩:=qT I.hok e;refine⟨dd.typeIs,λb q=>?_,hd⟩;cases q;obtain⟨ob,_,_,h1,h2,_⟩:=dd;exact⟨ob,h1,h2.2.1⟩
section
variable{X:Cx}{c:MR}{f:St}{H:Hp}{s:Shared}{a:Addr}{y d:V}{u r:Value}{o:Option V}{A:Around}{E:MQ}
def IM(t:A.units+1<cLine)(I:aN X c f H s)(g:eZ H a y o)(n:aU y u)(h:∀p q,aN X c f H q->aU (o.getD .non) p->Q p q):wpAny (model X.prog X.w) A (call (.builtin "dict.get") [.ref a,u]) Q E s:=by
 rcases g with⟨j,k,e,m,l⟩|⟨j,k,b,e,m,v,l⟩
 ·subst m;obtain⟨z,hd,B,i,dd⟩:=qU I.hok e;refine yl PySem.F.slot_dict_get dd.typeIs PySem.F.entry_dict_get (PySem.F.args_dict_get_2 _ _) (meets_dict_get (aS X.prog X.w) a (oX n) hd) ⟨_,dd.mapOf,h _ _ (I.tok _) ?_⟩;rw[l];exact(i.val k).getD rfl
 ·subst m;cases(show u=Value.ref b from n);obtain⟨z,hd,x,i,dd⟩:=qT I.hok e;refine yl PySem.F.slot_dict_get dd.typeIs PySem.F.entry_dict_get (PySem.F.args_dict_get_2 _ _) (meetsH_dict_get (tupleKind (aS X.prog X.w)) a b hd) ⟨w_ t,k,x,nE I.hok v,dd,h _ _ (I.tok _) ?_⟩;rw[l];exact(i.val k).getD rfl
def IL(v:A.units+1<cLine)(I:aN X c f H s)(g:eZ H a y o)(n:aU y u)(p:aU d r)(h:∀q t,aN X c f H t->aU (o.getD d) q->Q q t):wpAny (model X.prog X.w) A (call (.builtin "dict.get") [.ref a,u,r]) Q E s:=by
 rcases g with⟨j,k,e,m,l⟩|⟨j,k,b,e,m,x,l⟩
 ·subst m;obtain⟨z,hd,C,i,dd⟩:=qU I.hok e;refine yl PySem.F.slot_dict_get dd.typeIs PySem.F.entry_dict_get (PySem.F.args_dict_get_3 _ _ _) (meets_dict_get_default (aS X.prog X.w) a (oX n) hd r) ⟨_,dd.mapOf,h _ _ (I.tok _) ?_⟩;rw[l];exact(i.val k).getD p
 ·subst m;cases(show u=Value.ref b from n);obtain⟨z,hd,B,i,dd⟩:=qT I.hok e;refine yl PySem.F.slot_dict_get dd.typeIs PySem.F.entry_dict_get (PySem.F.args_dict_get_3 _ _ _) (meetsH_dict_get_default (tupleKind (aS X.prog X.w)) a b hd r) ⟨w_ v,k,B,nE I.hok x,dd,h _ _ (I.tok _) ?_⟩;rw[l];exact(i.val k).getD p
end
def Hn(e ty:TE):TE:=λb H Q=>e b H λx c=>∃a,x=.ref a/\KR c a/\ty b c λy d=>∃o,eZ d a y o/\Q (o.getD .non) d
def Hm(e ty tx:TE):TE:=λb H Q=>e b H λx c=>∃a,x=.ref a/\KR c a/\ty b c λy f=>tx b f λz d=>∃o,eZ d a y o/\Q (o.getD z) d
def Hj(f ty:TE):TE:=λc H Q=>f c H λx d=>∃a,x=.ref a/\KR d a/\ty c d λy e=>∃b k v,e a=some (.dK b)/\y=kV k/\bu b k=some v/\Q v (aG e a (.dK (dA b k)))
section
variable{X:Cx}{o e f:Expr}{i c:Pos}{j ty tx:TE}
def xR(p:X.A.units+1<cLine)(q:PE X o j)(r:PE X e ty)(m:M1 X o "get" i e c):PE X (.Call (.Attribute o "get" i) [e] [] c) (Hn j ty):=by intro b s n H Q I h;refine K_ m.base m.few m.line PySem.F.plainAttrs_dict PySem.F.slot_dict_get PySem.F.type_dict_get (ce (q b s n H _ I h) λu t k=>?_);obtain⟨x,v,I1,w,a,ex,d,z⟩:=k;subst ex;obtain rfl:u=Value.ref a:=w;obtain⟨B,C,_⟩:=zx I1 d;refine⟨B,C,?_⟩;rw[m.trees];refine pw rfl (sT (pu (ce (r b t n v _ I1 z) λiv L k=>?_)));obtain⟨y,D,E,G,M,g,J⟩:=k;refine to ?_;exact IM p E g G λN O K l=>⟨_,D,K,l,J⟩
def xQ(n:X.A.units+1<cLine)(p:PE X o j)(q:PE X e ty)(r:PE X f tx)(m:M2 X o "get" i e f c):PE X (.Call (.Attribute o "get" i) [e,f] [] c) (Hm j ty tx):=by
 intro b s k H Q I h;refine K_ m.base m.few m.line PySem.F.plainAttrs_dict PySem.F.slot_dict_get PySem.F.type_dict_get (ce (p b s k H _ I h) λu t v=>?_);obtain⟨x,w,I1,B,a,ex,d,C⟩:=v;subst ex;obtain rfl:u=Value.ref a:=B;obtain⟨D,E,_⟩:=zx I1 d;refine⟨D,E,?_⟩;rw[m.trees];refine pw rfl (sT (pu (ce (q b t k w _ I1 C) λiv G⟨y,J,K,L,M⟩=>pu (ce (r b G k J _ K M) λT U⟨z,N,O,P,V,g,R⟩=>to ?_))))
 exact IL n O g L P λW Y S l=>⟨_,N,S,l,R⟩
def xP(q:PE X o j)(r:PE X e ty)(m:M1 X o "pop" i e c):PE X (.Call (.Attribute o "pop" i) [e] [] c) (Hj j ty):=by intro b s p H Q I h;refine K_ m.base m.few m.line PySem.F.plainAttrs_dict PySem.F.slot_dict_pop PySem.F.type_dict_pop (ce (q b s p H _ I h) λu t g=>?_);obtain⟨x,w,I1,z,a,ex,d,A⟩:=g;subst ex;obtain rfl:u=Value.ref a:=z;obtain⟨B,C,_⟩:=zx I1 d;refine⟨B,C,?_⟩;rw[m.trees];refine pw rfl (sT (pu (ce (r b t p w _ I1 A) λiv N g=>?_)));obtain⟨y,O,D,E,G,k,v,J,K,l,L⟩:=g;refine to ?_;subst K;exact Ku D J E l (.inl rfl) λP R M n=>⟨v,_,M,n,L⟩
end
section
variable{X:Cx}{c:MR}{e:St}{H:Hp}{s:Shared}{a:Addr}{d:List (cb×V)}{A:Around}{E:MQ}
end
section
variable{X:Cx}{c:MR}{d:St}{H:Hp}{s:Shared}{a:Addr}{y:V}{u:Value}{A:Around}{E:MQ}
end
end L2
namespace Att
open PySem PySem.W PySem.Calls PyProof.Rows
def rE:∀(ns:M0)(c:MT),WellAll P h c (ns.map WData.int)->IntsAre c ns:=by
 intro ns
 induction ns with|nil=>intro c w;rw[List.map_nil]at w;cases w;exact .nil|cons n ns d=>intro c w;rw[lh]at w;cases w with|cons a b=>cases a;exact .cons _ _ (d _ b)
def A9{l:OpenLaw}{n:Nat}(hn:l.most=some n){P:Params}{h:Heap}{args:List WData}{c:MT}(e:l.row.toRowW.claim.pre args=true)(g:WellAll P h c args):∃a j ns,c=[Value.ref a]/\args=[WData.list (ns.map WData.int)]/\h.get? a=some {cls:=.type "list",data:=.seq j.toArray}/\IntsAre j ns/\ns.length<=n:=by
 have i:WShape.hasAll [] args [.list .int]=true:=(pre_splitW e).1;have hc:l.pre.holds [] {args:=args}=true:=(pre_splitW e).2;obtain⟨d,r,rfl,h1,h2⟩:=hasAllW_cons i;obtain rfl:=hasAllW_nil h2;obtain⟨s,rfl,h3⟩:=hasW_list h1;obtain⟨ns,rfl⟩:=items_int h3;have b:ns.length<=n:=by
  unfold OpenLaw.pre at hc;have h4:(WTm.not (.lt (.lit (.int (n:Int))) (.len (.arg 0)))).holds [] {args:=[.list (ns.map .int)]}=true:=by have h4:=(holds_andW hc).1;rw[hn]at h4;exact h4
  have h5:=condW_of h4 (w_not (w_lt w_lit (w_len_list (w_arg rfl))));rw[b_]at h5;refine Nat.le_of_not_lt λq=>?_;have k:(n:Int)<((ns.length:Nat):Int):=by lia
  first|(rw[j1 k]at h5;exact absurd h5 (by decide))|(simp at h5;lia)
 cases g with|cons m o=>cases o;cases m with|list p f=>exact⟨_,_,ns,rfl,rfl,p,rE ns _ f,b⟩
def Bd(l:OpenLaw)(args:List WData):l.row.toRowW.claim.post args (.bool true) args=true:=postW_of (r:=l.row.toRowW) (X:=(true==true)) (show WShape.has [] (.bool true) .bool=true by first|rfl|decide|simp[WShape.has,WShape.arms,WShape.armsAll]) (show(WTm.eq .res (.lit (.bool true))).value [] {args:=args,res:=some (.bool true),after:=args}=some (.bool (true==true))from w_eq_bool (w_res rfl) w_lit) rfl
def yL{l:OpenLaw}{n:Nat}{q:MU}{c:MV}{x:(Str->Option Value)->Heap->Prop}{y:World->Heap->Prop}{d:DefRec}(hn:l.most=some n)(p:d.params.defaults=[])(call:∀(w:World)(s₀ s₁:Shared)(mg s:MS)(h:Addr)(o:Obj)(pm cd e:Value)(a:Addr)(g:MT)(ns:M0),Ground q c [] x w s₀ mg s s₁.heap->y w s₁.heap->s₁.heap.get? h=some o->o.data=.func (docDef d.name d.params d.body d.scope pm cd e)->s₁.heap.CodeRec cd d.name->mg d.name=some (.ref h)->s₁.heap.get? a=some {cls:=.type "list",data:=.seq g.toArray}->IntsAre g ns->ns.length<=n->s₁.gens=#[]->codeAny (model l.prog w) callerA (.call (.ref h) ⟨[.ref a],[]⟩) (λr m=>r=.ok (.ret (.bool true))/\OldK s₁.heap m.heap/\m.os=s₁.os/\AllBare m.gens) s₁):WalkO q c x y l.row.toRowW d [] (λf g=>PySem.call f g):=by intro w s₀ s₁ mg s G Y h o pm cd e D kV E hd t z u hg A B J i C F v H;obtain rfl:D=.none:=Dflts.none z p;obtain rfl:kV=.none:=Dflts.noKw z;obtain⟨a,g,ns,rfl,rfl,j,b,k⟩:=A9 hn i v;refine enter_call (x_ (call w s₀ s₁ mg s h o pm cd e a g ns G Y E (fd_plain hd) t u j b k hg) λr m I=>?_);obtain⟨rfl,h2,h3,h4⟩:=I;exact⟨.inl ⟨.bool true,.bool true,[],rfl,λ_=>rfl,.bool true,Bd l _,λ_=>⟨List.Pairwise.nil,λ_ hm=>(nomatch hm)⟩⟩,h2,h3,h4⟩
section
variable{prog:MU}{w:World}{A:Around}{E:MQ}{s:Shared}{K:Frag}
end
end Att
namespace L2
open PySem PySem.Spec PyProof.Rows
theorem vc:∀{a:MT}{ns:M0},IntsAre a ns->aZ (ns.map V.int) a|_,_,.nil=>.nil|_,_,.cons n t h=>.cons ⟨t,rfl⟩ (vc h)
def u7(H:Hp):Prop:=∀b,H b=none\/∃o a,H b=some (.frz o (.lst a))
def DN{P:MU}{w:World}{K:MP}{mg J:MS}{T:yR}{k:Nat}{L a:Addr}{fd:FuncData}{x:Str}{sp:Sp}{s₁:Shared}{l:MT}{ns:M0}(X:K.In s₁.heap)(t:s₁.heap.Ns mainGlobals mg)(f:s₁.heap.Ns builtinsNs J)(M:∀x:Str,x≠"__name__"->J x=bootBuiltins x)(y:s₁.heap.NoLimit)(hg:s₁.gens=#[])(I:s₁.heap.get? a=some {cls:=.type "list",data:=.seq l.toArray})(hi:IntsAre l ns)(Z:ns.length<=sizeLine)(hr:eL k callerA)(F:∀base:Heap,K.In base->base.Ns mainGlobals mg->aO P w K mg base T k L fd [x] sp)(p:∀(s:Shared)(u:Value),BindsTo s fd ⟨[u],[]⟩ [(x,u)])(N:∀H:Hp,u7 H->aW K H a (ns.map V.int)->sp [.ref a] H (λv _=>v=.bl true) λ_ _ _=>False)(Q:∀H e g,T [] H s₁ (λ_ _ _=>False) e g->False):codeAny (model P w) callerA (.call (.ref L) ⟨[.ref a],[]⟩) (λr g=>r=.ok (.ret (.bool true))/\OldK s₁.heap g.heap/\g.os=s₁.os/\AllBare g.gens) s₁:=by
 have U:=vc hi;have A:=hi.length;have j:∀H:Hp,u7 H->aW K H a (ns.map V.int)->lj P w H s₁.heap->(∀b,H b≠none->b=a)->(H a≠none->K.lookup a=none)->codeAny (model P w) callerA (.call (.ref L) ⟨[.ref a],[]⟩) (λr g=>r=.ok (.ret (.bool true))/\OldK s₁.heap g.heap/\g.os=s₁.os/\AllBare g.gens) s₁:=by
  intro H Y hS hok hA hK;have c:∀{b:Addr}{o:Obj},s₁.heap.get? b=some o->H b=none->(wN s₁.heap H).get? b=some o:=λe n=>D0 e n;have O:∀{b:Addr}{o:Obj}{B:Array DictEntry}{C:Nat},s₁.heap.get? b=some o->o.data=.dict B C->H b=none:=λ{b o B C}e d=>by cases q:H b with|none=>rfl|some u=>have R:b=a:=hA b (by rw[q];simp);subst R;rw[I]at e;cases e;have d':Data.seq l.toArray _=Data.dict B C:=d;cases d'
  have i:∀{b:Addr}{m:MS},s₁.heap.Ns b m->(wN s₁.heap H).Ns b m:=λ{b m}⟨o,B,C,e,d,r⟩=>⟨o,B,C,c e (O e d),d,r⟩;have D:K.In (wN s₁.heap H):=λb o e=>c (X b o e) (by cases q:H b with|none=>rfl|some u=>have R:b=a:=hA b (by rw[q];simp);subst R;rw[hK (by rw[q];simp)]at e;cases e)
  have hM:KB K mg (wN s₁.heap H):=⟨D,i t,⟨J,i f,M⟩,let⟨mc,h1,h2⟩:=y;⟨mc,i h1,h2⟩⟩;have e0:zP P w K mg (wN s₁.heap H) callerA [] s₁ H:=⟨rfl,hM,λb o e=>FO e,Nat.le_of_eq (By _ _),trivial,λb f=>absurd (show b∈([]:MZ)from f) (by simp),hok,.of_eq hg⟩;refine x_ ((F _ D (i t)).run callerA [] s₁ H ⟨[.ref a],[]⟩ [.ref a] [.ref a] _ _ hr e0 (p s₁ (.ref a)) (.cons rfl .nil) (N H Y hS)) λr g h=>?_;cases r with|error e=>exact(Q H e g h).elim|ok fl=>cases fl with|next=>exact False.elim h|brk=>exact False.elim h|cont=>exact False.elim h|ret u=>obtain⟨v,H',os,bare,un,E,r',q⟩:=h;have q':v=.bl true:=q;subst q';obtain rfl:u=Value.bool true:=r';refine⟨rfl,OldK.of_keep λb o e=>?_,os,bare⟩;cases q:H b with|none=>exact un.keep b o e q (by intro z;exact absurd (show b∈([]:MZ)from z) (by simp)) (by simp)|some u=>
     rcases Y b with z|⟨ob,xs,z⟩
     ·rw[q]at z;cases z
     ·have z2:=un.frzs b ob _ z;obtain⟨e1,_⟩:=hok b _ z;obtain⟨e2,_⟩:=E b _ z2;rw[e]at e1;cases e1;exact e2
 cases S:K.lookup a with|some o=>have e:=X a o S;rw[I]at e;cases e;refine j (λ_=>none) (λ_=>.inl rfl) (.inr ⟨_,l.toArray,_,S,rfl,rfl,rfl,by rw[ig,A];exact Z,by simpa using U⟩) (λb u z=>by have G:(none:Option HO)=some u:=z;cases G) (λb z=>absurd rfl z) λz=>absurd rfl z|none=>
  refine j (λb=>if b=a then some (.frz {cls:=.type "list",data:=.seq l.toArray} (.lst (ns.map V.int)))else none) (λb=>?_) (.inl (.inr ⟨{cls:=.type "list",data:=.seq l.toArray},hQ rfl⟩)) (λb u z=>?_) (λb z=>?_) λ_=>S
  ·by_cases f:b=a
   ·exact .inr ⟨_,_,hQ f⟩
   ·exact .inl (g8 f)
  ·by_cases f:b=a
   ·have G:=(hQ f).symm.trans z;cases G;subst f;exact⟨I,by rw[b_];exact Z,l,_,U,I⟩
   ·have G:=(g8 f).symm.trans z;cases G
  ·by_cases f:b=a
   ·exact f
   ·exact absurd (g8 f) z
end L2
namespace L2
open PySem PySem.Spec PyProof.Rows
abbrev KOf{K:MP}{h:Heap}(_:K.In h):MP:=K
def EN{l:PySem.W.OpenLaw}{n k:Nat}{q:MU}{i:MV}{I:(Str->Option Value)->Heap->Prop}{C:World->Heap->Prop}{d:DefRec}{K:Params->MP}{CX:World->yR}{sp:World->Sp}{x:Str}(hn:l.most=some n)(r:n<=sizeLine)(t:d.params.defaults=[])(J:eL k callerA)(L:∀(w:World)(h:Heap),C w h->(K w.params).In h)(F:∀(w:World)(mg:MS)(p:Addr)(h:Heap),(K w.params).In h->h.Ns mainGlobals mg->mg d.name=some (.ref p)->∃fd:FuncData,(∀(s:Shared)(u:Value),BindsTo s fd ⟨[u],[]⟩ [(x,u)])/\∀base:Heap,(K w.params).In base->base.Ns mainGlobals mg->aO l.prog w (K w.params) mg base (CX w) k p fd [x] (sp w))(y:∀(w:World)(H:Hp)(a:Addr)(ns:M0),ns.length<=n->u7 H->aW (K w.params) H a (ns.map V.int)->sp w [.ref a] H (λv _=>v=.bl true) λ_ _ _=>False)(z:∀(w:World)(H:Hp)(s:Shared)(e:Value)(A:Shared),CX w [] H s (λ_ _ _=>False) e A->False):PySem.W.WalkO q i I C l.row.toRowW d [] (λf D=>PySem.call f D):=by refine Att.yL hn t λw s₀ s₁ mg S p o pm cd M a D ns G Y U hd N B m j c hg=>?_;have E:=L w _ Y;obtain⟨fd,O,P⟩:=F w mg p _ E G.T.g B;exact DN E G.T.g G.T.b G.T.builtins G.T.nolimit hg m j (ku c r) J P O (λH Q R=>y w H a ns c Q R) λH e A=>z w H s₁ e A
def BY{l:PySem.W.OpenLaw}{n k:Nat}{q:MU}{c:MV}{t:(Str->Option Value)->Heap->Prop}{p:World->Heap->Prop}{d:DefRec}{K:Params->MP}{CX:yR}{sp:MP->Sp}{x:Str}(hn:l.most=some n)(g:n<=sizeLine)(i:d.params.defaults=[])(y:eL k callerA)(z:∀(w:World)(h:Heap),p w h->(K w.params).In h)(F:∀(w:World)(mg:MS)(r:Addr)(h:Heap),(K w.params).In h->h.Ns mainGlobals mg->mg d.name=some (.ref r)->∃fd:FuncData,(∀(s:Shared)(u:Value),BindsTo s fd ⟨[u],[]⟩ [(x,u)])/\∀base:Heap,(K w.params).In base->base.Ns mainGlobals mg->aO l.prog w (K w.params) mg base CX k r fd [x] (sp (K w.params)))(j:∀(K:MP)(H:Hp)(a:Addr)(ns:M0),ns.length<=n->u7 H->aW K H a (ns.map V.int)->sp K [.ref a] H (λv _=>v=.bl true) λ_ _ _=>False)(m:∀(H:Hp)(s:Shared)(e:Value)(o:Shared),CX [] H s (λ_ _ _=>False) e o->False):PySem.W.WalkO q c t p l.row.toRowW d [] (λf A=>PySem.call f A):=EN (K:=K) (CX:=λ_=>CX) (sp:=λw=>sp (K w.params)) hn g i y z F (λw H a ns h1 h2 h3=>j (K w.params) H a ns h1 h2 h3) λ_ H s e o=>m H s e o
end L2
namespace L2
open PySem PySem.Spec PyProof.Rows
def pd(s:Stmt):Arguments:=match s with|.FunctionDef _ a _ _ _ _ _ _ _ _=>a|_=>{posonlyargs:=[],args:=[],vararg:=none,kwonlyargs:=[],kw_defaults:=[],kwarg:=none,defaults:=[]}
def gt(s:Stmt):List Stmt:=match s with|.FunctionDef _ _ b _ _ _ _ _ _ _=>b|_=>[]
def ai(s:Stmt):Scope:=match s with|.FunctionDef _ _ _ _ _ _ a _ _ _=>a|_=>{kind:=.function,names:=[],isGenerator:=false,isCoroutine:=false}
abbrev cZ:yR:=λ_ _ _ _ _ _=>False
abbrev E0:XK:=λ_ _ _=>False
def be:ma cZ X E0:=λ_ _ _ _ _ _ _ h=>h.elim
structure xi(K:MP)(x qual:Str)(st:Stmt)(f:Addr)(fd:FuncData):Prop where
 ex:∃(oc:Value)(od:Option Addr)(kV doc pm:Value)(an:Option Addr)(cdv ct:Value)(osl:Array (Option Value)),fd=PySem.W.fnOf x qual (pd st) (gt st) (ai st) .none kV doc pm an cdv ct/\K.lookup f=some ⟨oc,od,.func fd,osl⟩/\PySem.W.codeIn K cdv qual=true
 kp:PySem.W.keepIn K (.ref f)=true
section
variable{P:MU}{w:World}{K:MP}{mg:MS}{base:Heap}
def xi.ok{x a:Str}{st:Stmt}{f:Addr}{fd:FuncData}{N g:MV}{k:Nat}{sp:Sp}(F:xi K x a st f fd)(S:aA N g (ai st))(len:∀d H Q E,sp d H Q E->d.length=g.length)(e:∀(c:Value)(A:Around)(outer:List Env)(s:Shared)(H:Hp)(d:List V)(Q:VK)(E:XK),eL k (A.deeper (envOfC a (ai st) s.heap.objs.size f c))->sp d H Q E->∃t,u6 (qg cZ P w K mg base N a (ai st) f c A outer s H E).nox (gt st) t/\t {nx:=λ_ j=>Q .non j,rt:=Q} (iG N d) H):aO P w K mg base cZ (k+1) f fd g sp:=by obtain⟨oc,p,kV,l,pm,r,c,ct,m,rfl,n,b⟩:=F.ex;refine GV n b S len λA outer s H d Q E o i=>?_;obtain⟨t,h,q⟩:=e c A outer s H d Q E o i;exact⟨t,h.nox,q⟩
def xi.binds{x a:Str}{st:Stmt}{f:Addr}{fd:FuncData}{e:MV}(F:xi K x a st f fd)(h:∀(kV c pm:Value)(g:Option Addr)(d ct:Value)(i:MT),i.length=e.length->bindArgs (PySem.W.fnOf x a (pd st) (gt st) (ai st) .none kV c pm g d ct) ⟨i,[]⟩=pure (e.zip i)):fC K fd e []:=by obtain⟨oc,k,kV,c,pm,g,d,ct,b,rfl,l,j⟩:=F.ex;exact .all (h kV c pm g d ct)
def zB{x a:Str}{st:Stmt}{f:Addr}{oc:Value}{i h:Option Addr}{g:Array (Option Value)}{kV e pm d ct:Value}(l:K.lookup f=some ⟨oc,i,.func (PySem.W.fnOf x a (pd st) (gt st) (ai st) .none kV e pm h d ct),g⟩)(c:PySem.W.codeIn K d a=true)(k:PySem.W.keepIn K (.ref f)=true):xi K x a st f (PySem.W.fnOf x a (pd st) (gt st) (ai st) .none kV e pm h d ct):=⟨⟨oc,i,kV,e,pm,h,d,ct,g,rfl,l,c⟩,k⟩
end
def cU(a:eL k A):A.units+1<cLine:=LM (Nat.add_le_add_left (by decide:1<=64) _) a.units
section
variable{X:Cx}
def Y(i:Nat)(c:X.N[i]?=some x:=by rfl)(d:KO X.env.scope x:=by first|exact Or.inl rfl|exact Or.inr (Or.inl rfl)|exact Or.inr (Or.inr rfl))(hd:(x==("__debug__":Str))=false:=by decide)(a:(x==("__classdict__":Str))=false:=by decide):PE X (.Name x e) (Hf i):=HS c d hd a
end
def bU{A B:Prop}(h:B):if false=true then A else B:=by rw[g8 h_];exact h
def bq{A B:Prop}(h:A):if true=true then A else B:=by rw[hQ rfl];exact h
def ak(H a:Hp):Prop:=∀b o,H b=some o->a b=some o
def ak.refl(H:Hp):ak H H:=λ_ _ h=>h
def ak.trans(a:ak H d)(b:ak d e):ak H e:=λc o h=>b c o (a c o h)
def ak.free(e:ak H a)(h:a l=Option.none):H l=Option.none:=by cases q:H l with|none=>rfl|some o=>rw[e l o q]at h;cases h
def ak.seq{K:MP}{H c:Hp}{a:Addr}{d:List V}(e:ak H c)(h:aW K H a d):aW K c a d:=by
 rcases h with(h|⟨o,h⟩)|h
 ·exact .inl (.inl (e _ _ h))
 ·exact .inl (.inr ⟨o,e _ _ h⟩)
 ·exact .inr h
section
variable{a:Type}[DecidableEq a]
def vO{p:a×V}{r:List (a×V)}{k:a}(e:p.1=k):dA (p::r) k=dA r k:=by unfold dA;rw[L6,g8 (by simp[e])]
def vP{p:a×V}{r:List (a×V)}{k:a}(e:¬p.1=k):dA (p::r) k=p::dA r k:=by unfold dA;rw[L6,hQ (by simp[e])]
end
end L2
set_option maxHeartbeats 4000000
namespace L2
open PySem PySem.Spec PyProof.Rows
section
variable{prog:MU}{w:World}{A:Around}{R:Result->Shared->Prop}{s:Shared}
def jY(h:wpAny M A t Q (λ_ _=>False) s)(k:∀a s,Q a s->c a s):wpAny M A t c E s:=wpAny_mono h k λ_ _ z=>z.elim
def yC(J:Nat->Shared->Prop)(l:∀n s,J n s->wpAny (model prog w) A (pyNext B) (λr s₁=>match r with|none=>R (.ok .next) s₁|some v=>wpAny (model prog w) A (letOwnedTupleGo a B v) (λ_ d=>wpAny (model prog w) A (assign a env v) (λ_ e=>wpAny (model prog w) A (forIn k true λc r=>if r=true then do let ok<-isTrue c env (eval c env);pure (ForInStep.yield ok)else pure (ForInStep.yield r)) (λok b=>if ok=true then wpAny (model prog w) A (eval o env) (λx f=>wpAny (model prog w) A (call (.builtin "list.append") [p,x]) (λ_ g=>∃m,m<n/\J m g) (λ_ _=>False) f) (λ_ _=>False) b else∃m,m<n/\J m b) (λ_ _=>False) e) (λ_ _=>False) d) (λ_ _=>False) s₁) (λ_ _=>False) s)(n:Nat)(h:J n s):codeAny (model prog w) A (.compLoop (.ListComp o [⟨a,q,k,0⟩] scope C) 0 B p env) R s:=by refine codeAny_loop rfl J (λn s D=>?_) n h;show wpAny _ A ((compTurn (.ListComp o [⟨a,q,k,0⟩] scope C) 0 B p env).onRaise (λx=>do noteFrame x env;theTreesLotGoes x)) _ _ s;refine wpAny_noted ?_;rw[compTurn_list];refine a_ (wpAny_standAt (a_ (jY (l n s D) (λr s₁ i=>?_))));cases r with|none=>exact e_ i|some v=>refine a_ (jY i λ_ d t=>a_ (jY t λ_ e u=>a_ (jY u λok b j=>?_)));cases ok with|false=>exact e_ ⟨rfl,j⟩|true=>exact a_ (a_ (jY j λx f y=>a_ (jY y λ_ g z=>e_ (e_ ⟨rfl,z⟩))))
end
theorem k7{f:Str->NameKind->NameKind}:∀(l:List (Str×NameKind))(x:Str),(l.map λp=>(p.1,f p.1 p.2)).lookup x=(l.lookup x).map (f x)|[],_=>rfl|(n,k)::r,x=>by rw[lh,L5,L5];cases a:x==n with
 |true=>
   have e:x=n:=by simpa using a
   subst e;rfl|false=>exact k7 r x
def lK(env:Env)(n:Str)(k:NameKind):NameKind:=if(k==.free&&env.scope.kind==.function&&env.kindOf n==some .cell)=true then .cell else k
def iJ(scope:Scope)(env:Env)(x:Str):(relabel scope env).names.lookup x=(scope.names.lookup x).map (lK env x):=by
 rw[<-k7];unfold relabel
 congr 1
 show List.map _ scope.names=List.map _ scope.names
 congr 1
 funext p
 obtain⟨n,k⟩:=p;show(if(k==NameKind.free&&env.scope.kind==.function&&env.kindOf n==some .cell)=true then(n,NameKind.cell)else(n,k))=(n,lK env n k);unfold lK
 split<;>rfl
theorem nM{env:Env}{f:Str×NameKind->List (Str×Addr)->Sem (ForInStep (List (Str×Addr)))}(d:∀n c r,cellOf env n=pure c->f (n,.free) r=pure (.yield ((n,c)::r)))(g:∀n k r,k≠.free->f (n,k) r=pure (.yield r)):∀(l:List (Str×NameKind))(cs:List (Str×Addr)),(∀y∈l,y.2=.free->∃c,env.cells.lookup y.1=some c)->∃cl:List (Str×Addr),forIn l cs f=pure cl/\(∀x c,cl.lookup x=some c->env.cells.lookup x=some c\/cs.lookup x=some c)/\(∀x,(∃c,cs.lookup x=some c)\/(x,NameKind.free)∈l->∃c,cl.lookup x=some c)
 |[],cs,_=>⟨cs,rfl,λ_ _ h=>.inr h,λx h=>h.elim id nofun⟩|(n,k)::r,cs,h=>by
  by_cases o:k=.free
  ·subst o;obtain⟨c,hc⟩:=h (n,.free) ir rfl;obtain⟨cl,h1,h2,h3⟩:=nM d g r ((n,c)::cs) λy p=>h y (hY _ p);refine⟨cl,?_,λx i a=>?_,λx a=>h3 x ?_⟩
   ·rw[Me,d n c cs (by unfold cellOf;rw[hc])];exact h1
   ·rcases h2 x i a with z|z
    ·exact .inl z
    ·rw[L5]at z;cases b:x==n with|true=>
      rw[b]at z;have j:x=n:=by simpa using b
      have m:c=i:=by simpa using z
      subst j;subst m;exact .inl hc|false=>rw[b]at z;exact .inr z
   ·rcases a with⟨i,a⟩|a
    ·refine .inl ?_;rw[L5];cases b:x==n with|true=>exact⟨c,rfl⟩|false=>exact⟨i,a⟩
    ·rcases o_.mp a with e|e
     ·injection e with j m;subst j;exact .inl ⟨c,by simp⟩
     ·exact .inr e
  ·obtain⟨cl,h1,h2,h3⟩:=nM d g r cs λy p=>h y (hY _ p);refine⟨cl,?_,h2,λx a=>h3 x ?_⟩
   ·rw[Me,g n k cs o];exact h1
   ·rcases a with a|a
    ·exact .inl a
    ·rcases o_.mp a with e|e
     ·injection e with j m;exact absurd m.symm o
     ·exact .inr e
def uY{env:Env}{scope:Scope}(h:∀y∈scope.names,y.2=.free->∃c,env.cells.lookup y.1=some c):∃cl:List (Str×Addr),closureFor scope env=pure cl/\(∀x c,cl.lookup x=some c->env.cells.lookup x=some c)/\(∀x,(x,NameKind.free)∈scope.names->∃c,cl.lookup x=some c):=by
 simp only[closureFor];obtain⟨cl,h1,h2,h3⟩:=nM (env:=env) (f:=λ(x:Str×NameKind)(r:List (Str×Addr))=>match x with|(b,kind)=>if(kind==NameKind.free)=true then(do let a<-cellOf env b;pure (ForInStep.yield ((b,a)::r)))else pure (ForInStep.yield r)) (λn c r e=>by show(if(NameKind.free==NameKind.free)=true then(do let a<-cellOf env n;pure (ForInStep.yield ((n,a)::r)))else pure (ForInStep.yield r):Sem _)=_;rw[hQ (by decide),e];rfl) (λn k r e=>by show(if(k==NameKind.free)=true then(do let a<-cellOf env n;pure (ForInStep.yield ((n,a)::r)))else pure (ForInStep.yield r):Sem _)=_;rw[g8 (by simpa using e)]) scope.names [] h
 refine⟨cl,?_,λx c e=>(h2 x c e).elim id λz=>by simp at z,λx d=>h3 x (.inr d)⟩;rw[h1];rfl
def Cx.comp(X:Cx)(scope:Scope)(a:MV)(cl:List (Str×Addr))(C:Addr)(s₀:Shared)(H₀:Hp)(ex:MZ):Cx:={prog:=X.prog,w:=X.w,K:=X.K,mg:=X.mg,base:=X.base,A:=X.A,N:=a,s₀:=s₀,H₀:=H₀,env:=compEnvC scope cl C X.env,outer:=X.stack,stack:=X.stack,ex:=ex,fn:=λ_=>false,calm:=X.calm,pn:=X.pn,xe:=λ_ _=>False}
def gB(ds:MY)(k:Nat)(a:St):St:=ds.foldl (λa i=>a.set i none) a++List.replicate k none
def nL(ds:MY):∀a:St,(ds.foldl (λa i=>a.set i none) a).length=a.length:=by induction ds with|nil=>intro a;rfl|cons d r b=>intro a;rw[rk,b];simp
def zD(ds:MY):∀(a:St)(i:Nat)(v:V),(ds.foldl (λa i=>a.set i none) a)[i]?=some (some v)->a[i]?=some (some v)/\i∉ds:=by induction ds with|nil=>intro a i v h;exact⟨h,by simp⟩|cons d r b=>
  intro a i v h;rw[rk]at h;obtain⟨h1,h2⟩:=b _ i v h
  by_cases e:d=i
  ·subst e
   by_cases c:d<a.length
   ·rw[y2 c]at h1;cases h1
   ·rw[Es.mpr (by rw[ry];lia)]at h1;cases h1
  ·rw[o0 e]at h1;exact⟨h1,λz=>(o_.mp z).elim (λq=>e q.symm) h2⟩
def yt(h:(gB ds k a)[i]?=some (some v)):a[i]?=some (some v)/\i∉ds/\i<a.length:=by
 unfold gB at h
 by_cases b:i<a.length
 ·rw[rV (by rw[nL];exact b)]at h;obtain⟨h1,h2⟩:=zD ds a i v h;exact⟨h1,h2,b⟩
 ·rw[z8 (by rw[nL];lia)]at h;have:=d_.mp h;obtain⟨h1,h2⟩:=this;rw[List.getElem_replicate]at h2;cases h2
def GA(X:Cx)(d:MW)(t:TT):Prop:=∀(a:MR)(s:Shared)(b:St)(H:Hp)(Q:Bool->Hp->Prop),aN X a b H s->t b H Q->wpAny (model X.prog X.w) X.A (forIn d true λc r=>if r=true then do let ok<-isTrue c X.env (eval c X.env);pure (ForInStep.yield ok)else pure (ForInStep.yield r)) (TP X a b Q) X.xe s
def Jr:TT:=λ_ H Q=>Q true H
def bJ:GA X [] Jr:=λ_ _ _ H _ I h=>wpAny_tests_nil ⟨H,I,h⟩
def wy(h:PT X c t):GA X [c] t:=λa s b H Q I q=>wpAny_tests_one (h a s b H Q I q)
def GK(g:TG)(c:MY):Prop:=∀x b H Q,g x b H Q->g x b H λa d=>Q a d/\a.length=b.length/\∀i,i∉c->a[i]?=b[i]?
def bO(j:Nat):GK (j7 j) [j]:=λx a H Q h=>by refine⟨h,by simp,λi hi=>?_⟩;rw[o0 (λe=>hi (by simp[e]))]
def wP(K:MP)(i j:Nat):GK (Iy K 2 (D6 (j7 i) (D6 (j7 j) Kq))) [i,j]:=λx l H Q h=>by obtain⟨a,b,e,c,d,v,r,f,u,r2,g,k,q⟩:=h;refine⟨a,b,e,c,d,v,r,f,u,r2,g,k,q,by simp,λn hn=>?_⟩;have h1:n≠i:=λz=>hn (by simp[z]);have h2:n≠j:=λz=>hn (by simp[z]);rw[o0 (mu h2),o0 (mu h1)]
def r9(o:TI)(g:TG)(ds:MY)(k:Nat)(tc:TT)(te:TE):TE:=λf H Q=>o f H λJ h=>∀D,h D=none->∃W:Nat->Nat->List V->Hp->Prop,(∃m,W 0 m [] (aG h D (.lst [])))/\∀i m a c,W i m a c->(J.stop i c/\Q (.ref D) c)\/(J.go i c/\∀x j,J.yld i c x j->g x (gB ds k f) j λd p=>tc d p λb l=>if b=true then te d l λy n=>n D=some (.lst a)/\a.length<sizeLine/\∃e,e<m/\W (i+1) e (a++[y]) (aG n D (.lst (a++[y])))else∃e,e<m/\W (i+1) e a l)
section
variable{X:Cx}
def En(I:aN X t σ H s)(f:∀b∈fp,u9 X t H b)(fo:∀b∈fp,∃o,s.heap.get? b=some o)(E:scope.kind=.function)(F:∀y∈scope.names,y.2≠.cell)(G:∀y∈scope.names,y.2=.free->X.env.scope.names.lookup y.1=some .cell\/X.env.scope.names.lookup y.1=some .free)(g:∀x c,cl.lookup x=some c->X.env.cells.lookup x=some c)(D:∀x,(x,NameKind.free)∈scope.names->∃c,cl.lookup x=some c)(hN:W=X.N++L)(hk:L.length=k)(M:∀i x,X.N[i]?=some x->scope.names.lookup x=some .local->i∈ds)(P:s.heap.objs.size<C)(keep:∀b o,s.heap.get? b=some o->j.get? b=some o)(Z:j.Ns C m)(hD:j.get? s.heap.objs.size=some {cls:=.type "list",data:=.seq ([]:MT).toArray 0}):aN (X.comp scope W cl C s H fp) t (gB ds k σ) (aG H s.heap.objs.size (.lst [])) {s with heap:=j,toks:=tk}:=by
 have fresh:H s.heap.objs.size=none:=I.hok.fresh (fx _);have O:lj X.prog X.w (aG H s.heap.objs.size (.lst [])) j:=I.hok.laid keep (fx _) ⟨kw _,[],0,.nil,hD⟩;have J:∀b∈fp,b<s.heap.objs.size:=λb A=>let⟨_,e⟩:=fo b A;hH e;have K:∀b,b∈jD X.stack->∀p∈X.pn++t,p.1≠b:=λb A p T e=>by
  obtain⟨_,_,n1,n2,_⟩:=I.pin p T;rcases o_.mp (I.stkSub b A)with z|z
  ·exact n1 (e.trans z)
  ·exact n2 (e▸z)
 have B:∀x c,cl.lookup x=some c->c<s.heap.objs.size:=λx c e=>by obtain⟨v,z⟩:=I.cell x c (g x c e);exact z.lt
 have a:∀x,(relabel scope X.env).names.lookup x=some .cell\/(relabel scope X.env).names.lookup x=some .free->scope.names.lookup x=some .free:=λx h=>by rw[iJ]at h;cases e:scope.names.lookup x with|none=>rw[e]at h;simp at h|some q=>
   rw[e]at h;have hm:=mem_of_lookup e;have nc:q≠.cell:=F _ hm;simp only[F_,LR]at h;unfold lK at h
   split at h
   ·rename_i hc;have:(q==NameKind.free)=true:=by cases hq:q==NameKind.free with|true=>rfl|false=>rw[hq]at hc;simp at hc
    have:q=.free:=by simpa using this
    rw[this]
   ·rcases h with h|h
    ·exact absurd h nc
    ·rw[h]
 refine⟨⟨I.ok.mod,?_,I.ok.glob,I.ok.blt,vr P,?_,?_,?_,I.ok.hd,I.ok.frames,.inl rfl,?_,I.bs,ku I.ok.bsz I.sz,?_,?_,I.stack,I.stkFree⟩,rfl,I.bare,Un.laid keep (fx _) fresh,⟨m,Z,?_⟩,?_,?_,?_,?_,O,?_⟩
 ·exact E
 ·intro x y c Y hy;exact I.ok.inj x y c (g x c Y) (g y c hy)
 ·intro x Y;exact D x (mem_of_lookup (a x Y))
 ·intro x c hf;exact absurd hf (by simp[Cx.comp])
 ·intro b A;refine⟨iA (u1 (J b A) P),λx c e z=>?_⟩;exact(f b A).2.2.2.2.1 x c (g x c e) z
 ·intro b o e A;rcases(f b A).2.2.2.1 with z|z
  ·exact I.ok.noex b o e z
  ·exact absurd (k_ (hH e) (ku I.ok.bsz z)) (ot _)
 ·intro b A hs;rcases o_.mp (I.stkSub b hs)with z|z
  ·exact(f b A).2.1 z
  ·exact(f b A).2.2.1 z
 ·intro i x v U e2 vis;obtain⟨g1,g2,g3⟩:=yt e2;have Q:X.N[i]?=some x:=by have U:W[i]?=some x:=U;rw[hN,rV (by rw[<-I.len];exact g3)]at U;exact U
  have hv:scope.names.lookup x=some .free:=by
   rcases vis with z|z|z
   ·exfalso;have z:(relabel scope X.env).names.lookup x=some .local:=z;rw[iJ]at z;cases e:scope.names.lookup x with|none=>rw[e]at z;simp at z|some q=>
     rw[e]at z;simp only[F_,LR]at z;unfold lK at z
     split at z
     ·cases z
     ·subst z;exact g2 (M i x Q e)
   ·exact a x (.inl z)
   ·exact a x (.inr z)
  have hm:=mem_of_lookup hv;have hX:=G _ hm rfl;obtain⟨mX,_,hl⟩:=I.loc;have R:KO X.env.scope x:=by
   rcases hX with z|z
   ·exact .inr (.inl z)
   ·exact .inr (.inr z)
  obtain⟨u,r,l⟩:=hl i x v Q g1 R;refine⟨u,r,.inr ⟨?_,?_⟩⟩
  ·show(relabel scope X.env).names.lookup x=some .cell\/(relabel scope X.env).names.lookup x=some .free;rw[iJ,hv];show some (lK X.env x .free)=some .cell\/some (lK X.env x .free)=some .free;unfold lK
   split
   ·exact .inl rfl
   ·exact .inr rfl
  ·obtain⟨c,hc⟩:=D x hm;have aa:=g x c hc;refine⟨c,hc,?_⟩;rcases l with⟨V,_⟩|⟨_,c',S,o,ho,hd⟩
   ·exfalso;have V:X.env.scope.names.lookup x=some .local:=V;rcases hX with z|z
    ·rw[V]at z;cases z
    ·rw[V]at z;cases z
   ·rw[aa]at S;cases S;exact⟨o,keep c o ho,hd⟩
 ·intro x c e;obtain⟨v,o,ho,hd⟩:=I.cell x c (g x c e);exact⟨v,o,keep c o ho,hd⟩
 ·show aG H s.heap.objs.size (.lst []) C=none;rw[ao (md P)];exact I.hok.fresh (vr P)
 ·intro x c e;rw[ao (iA (B x c e))];exact I.freeC x c (g x c e)
 ·intro p T;obtain⟨e,n,n1,n2,d⟩:=I.pin p T;have lt:=hH e;refine⟨keep _ _ e,?_,iA (u1 lt P),λz=>K p.1 z p T rfl,d⟩;rw[ao (iA lt)];exact n
 ·show(gB ds k σ).length=W.length;unfold gB;rw[gV,nL,I.len,hN,gV,Lv,hk]
def Em(I:aN X a m H s)(f:∀b∈fp,u9 X a H b)(g:aN (X.comp scope x cl C s H fp) a p i j)(r:s.heap.objs.size<C)(l:Heap.SameBut C j.heap h'):aN X a m i {j with heap:=h'}:=by
 have u:=g.base;have d:i C=none:=g.free;have ne:∀b o,s.heap.get? b=some o->b≠C:=λb o e=>iA (u1 (hH e) r);have t:Un (jD X.stack) fp H i s.heap h':=by
  refine⟨λb o e n h1 h2=>?_,λb o e n h1 h2=>?_,u.free,λb o e h2=>?_,u.tups,u.frzs,u.tbls⟩
  ·exact(l.2 b (ne b o e)).trans (u.keep b o e n h1 h2)
  ·obtain⟨sl,q⟩:=u.slot b o e n h1 h2;exact⟨sl,(l.2 b (ne b o e)).trans q⟩
  ·obtain⟨v,q⟩:=u.there b o e h2;exact⟨v,(l.2 b (ne b o e)).trans q⟩
 have h:lj X.prog X.w i h':=λb ob e=>by
  refine(g.hok b ob e).stay (λc y hc q=>(l.2 c ?_).trans q) (λ_ q=>q) λ_ _ q=>q;rintro rfl;rcases hc with rfl|hc
  ·rw[d]at e;cases e
  ·rw[d]at hc;cases hc
 exact I.call' (s':={j with heap:=h'}) g.os t h g.bare λb k=>⟨(f b k).2.2.2.1,(f b k).2.1,(f b k).2.2.2.2.1,(f b k).2.2.2.2.2⟩
def aN.block_gone(I:aN X a d H s)(hn:H C=none)(f:C≠X.env.locals)(h1:X.s₀.heap.objs.size<=C)(h2:∀x c,X.env.cells.lookup x=some c->c≠C)(h3:∀p∈X.pn++a,p.1≠C)(g:Heap.SameBut C s.heap h'):aN X a d H {s with heap:=h'}:=I.turned (t':=s.toks) (λb o h e=>(g.2 b h).trans e) hn f (.inr h1) h2 h3
def vR(N':MV)(ds:MY)(k:Nat){a:MR}{s:Shared}{R:St}{H:Hp}{Q:VK}{use:Option (Value->Sem Unit)}{QV:MQ}(hc:X.calm=true)(hi:PI X tg l wi)(G:∀cl C s₀ H₀ ex,PG (X.comp scope N' cl C s₀ H₀ ex) tg g/\GA (X.comp scope N' cl C s₀ H₀ ex) S tc/\PE (X.comp scope N' cl C s₀ H₀ ex) a7 te)(hg:GK g js)(hj:∀R:St,R.length=X.N.length->∀j∈js,∀v,(gB ds k R)[j]?≠some (some v))(L:scope.kind=.function)(Z:∀y∈scope.names,y.2≠.cell)(ad:∀y∈scope.names,y.2=.local->scope.names.lookup y.1=some .local)(aa:∀y∈scope.names,y.2=.free->X.env.scope.names.lookup y.1=some .cell\/X.env.scope.names.lookup y.1=some .free)(hN:N'=X.N++a8)(hk:a8.length=k)(ba:∀i x,X.N[i]?=some x->scope.names.lookup x=some .local->i∈ds)(hs:∀x,foldedSetIterable l X.env x=pure x)(I:aN X a R H s)(h:r9 wi g ds k tc te R H Q)(fin:∀(D C:Addr)(H':Hp)(s':Shared)(m:MS),aN X a R H' s'->Q (.ref D) H'->s'.heap.Ns C m->H' C=none->C≠X.env.locals->X.s₀.heap.objs.size<=C->(∀x c,X.env.cells.lookup x=some c->c≠C)->(∀p∈X.pn++a,p.1≠C)->compPost (model X.prog X.w) X.A X.xe use QV (.ref D) C (.ok .next) s'):wpAny (model X.prog X.w) X.A (comprehension (.ListComp a7 [⟨tg,l,S,0⟩] scope bb) scope X.env (firstIterPos [⟨tg,l,S,0⟩] bb) (newList []) (firstAsync [⟨tg,l,S,0⟩]) (firstIter [⟨tg,l,S,0⟩] X.env) use) QV X.xe s:=by
 have V:∀y∈scope.names,y.2=.free->∃c,X.env.cells.lookup y.1=some c:=λy hy e=>I.ok.has y.1 (aa y hy e);obtain⟨cl,av,bc,bi⟩:=uY V;refine wpAny_comprehension_free (use:=use) rfl hs av L ad (ce (hi a s R H _ I h) λv s1 h1=>ce h1 λdc t h2=>?_);obtain⟨it,fp,tn,J,H2,e,Y,T,bl,f2,q⟩:=h2;subst e;have di:=Y;obtain⟨W,⟨m0,w0⟩,bt⟩:=q t.heap.objs.size (Y.hok.fresh (fx _));refine np (wpAny_newFunctionEnv Z (by intro y hy;simp at hy) (λE B hsb₁=>?_) L);dsimp only at B hsb₁⊢;generalize ax:t.heap.push {cls:=.type "list",dict:=none,data:=.seq ([]:MT).toArray}=G2 at B hsb₁⊢;have hC:t.heap.objs.size<G2.objs.size:=by rw[<-ax,m3];exact ro _
 have keep:∀b o,t.heap.get? b=some o->E.get? b=some o:=λb o e=>hsb₁.extBut b o (iA (u1 (hH e) hC)) (c_ _ (ax▸c_ _ e))
 have hD:E.get? t.heap.objs.size=some {cls:=.type "list",data:=.seq ([]:MT).toArray 0}:=hsb₁.extBut _ _ (iA hC) (c_ _ (ax▸f_ _ rfl));have fo:∀b∈fp,∃o,t.heap.get? b=some o:=λb G=>let⟨o,e,_⟩:=T.obj _ _ bl b G;⟨o,e⟩;obtain⟨bz,bN,b0⟩:=G cl G2.objs.size t H2 fp;generalize f:X.comp scope N' cl G2.objs.size t H2 fp=M at bz bN b0;have xp:M.prog=X.prog:=by rw[<-f];rfl
 have xw:M.w=X.w:=by rw[<-f];rfl
 have xK:M.K=X.K:=by rw[<-f];rfl
 have xA:M.A=X.A:=by rw[<-f];rfl
 have xe:M.xe=λ_ _=>False:=by rw[<-f];rfl
 have F:M.env=compEnvC scope cl G2.objs.size X.env:=by rw[<-f];rfl
 have b8:M.calm=true:=by rw[<-f];exact hc
 have iG:aN M a (gB ds k R) (aG H2 t.heap.objs.size (.lst [])) {t with heap:=E,toks:=t.toks+([]:List (Str×Value)).length}:=by rw[<-f];exact En Y f2 fo L Z aa bc bi hN hk ba hC keep B hD
 have b9:tn 0 E:=T.keep _ _ _ bl λb _ o e=>keep b o e;have c1:∀b∈fp,aG H2 t.heap.objs.size (.lst []) b=none:=λb G=>by obtain⟨o,e⟩:=fo b G;rw[ao (iA (hH e))];exact(f2 b G).1
 have U:∀{H':Hp},(∀b∈fp,H' b=none)->∀b∈fp,u9 M a H' b:=λhn b G=>by
  obtain⟨f0,f1,f3,f4,f5,f6⟩:=f2 b G;obtain⟨o,e⟩:=fo b G;refine⟨hn b G,?_,?_,?_,?_,?_⟩
  ·rw[F];exact iA (u1 (hH e) hC)
  ·intro z;have z:b∈jD X.stack:=by rw[<-f]at z;exact z
   rcases o_.mp (Y.stkSub b z)with y|y
   ·exact f1 y
   ·exact f3 y
  ·rw[<-f];exact .inl G
  ·intro x c ec;rw[F]at ec;exact f5 x c (bc x c ec)
  ·intro p hp;rw[<-f]at hp;exact f6 p hp
 have as:codeAny (model X.prog X.w) X.A (.compLoop (.ListComp a7 [⟨tg,l,S,0⟩] scope bb) 0 (.ref it) (.ref t.heap.objs.size) (compEnvC scope cl G2.objs.size X.env)) (compPost (model X.prog X.w) X.A X.xe use QV (.ref t.heap.objs.size) G2.objs.size) {t with heap:=E,toks:=t.toks+([]:List (Str×Value)).length}:=by
  refine yC (λn s'=>∃i O H',aN M a (gB ds k R) H' s'/\tn i s'.heap/\(∀b∈fp,H' b=none)/\W i n O H') ?_ m0 ⟨0,[],_,iG,b9,c1,w0⟩;rintro n s3⟨i,O,H3,I3,cc,ci,w3⟩;rcases bt i n O H3 w3 with⟨stop,qn⟩|⟨go,step⟩
  ·have td:=T.done M xp xw xK b8 i a s3 _ H3 (λ_ _=>False) I3 (U ci) cc stop;rw[xA]at td;refine ce td λr s4 P=>?_;obtain⟨hr,I4⟩:=P;subst hr;have al:=I4;rw[<-f]at al;obtain⟨m',c2,_⟩:=al.loc;refine fin t.heap.objs.size G2.objs.size H3 s4 m' (Em (h':=s4.heap) Y f2 al hC (.refl ..)) qn c2 al.free (md (u1 Y.lt hC)) (vr (LM Y.sz hC)) (λx c e z=>?_) λp hp z=>?_
   ·obtain⟨v,q⟩:=Y.cell x c e;exact absurd (u1 q.lt hC) (by rw[z];exact ot _)
   ·exact absurd (u1 (hH (Y.pin p hp).1) hC) (by rw[z];exact ot _)
  ·have ti:=T.item M xp xw xK b8 i a s3 _ H3 (λ_ _=>False) I3 (U ci) cc go;rw[xA]at ti;refine ce ti λr s4 P=>?_;obtain⟨u,hr,h4⟩:=P;subst hr;refine ce h4 λ_ s5 P=>?_;obtain⟨x,H5,I5,r5,y5,a5,c3⟩:=P;have c4:=I5.pinned (U c3) (T.obj _ _ a5);have pg:=bz _ s5 _ H5 x u _ c4 r5 (hg x _ H5 _ (step x H5 y5));rw[xp,xw,xA,F,xe]at pg;refine ce pg λ_ s6 P=>?_;obtain⟨an,H6,I6,⟨q6,ck,a6⟩⟩:=P;have again:∀{H7:Hp}{s7:Shared},aN M (a++tu fp s5.heap) an H7 s7->aN M a (gB ds k R) H7 s7/\tn (i+1) s7.heap/\∀b∈fp,H7 b=none:=λ{H7 s7}I7=>by
    refine⟨I7.unpinned.weak ck.symm λj v e=>?_,T.keep _ _ _ a5 λb G o e=>(I7.pin (b,o) (me _ (me _ (kM G e)))).1,λb G=>?_⟩
    ·rw[a6 j λz=>hj R I.len j z v e];exact e
    ·obtain⟨o,e,d⟩:=T.obj _ _ a5 b G;exact(I7.pin (b,o) (me _ (me _ (kM G e)))).2.1
   have pt:=bN _ s6 an H6 _ I6 q6;rw[xp,xw,xA,F,xe]at pt;refine ce pt λok s7 P=>?_;obtain⟨H7,I7,q7⟩:=P;cases ok with|false=>obtain⟨m',hm,w7⟩:=q7;obtain⟨a1,a2,a3⟩:=again I7;exact⟨m',hm,i+1,O,H7,a1,a2,a3,w7⟩|true=>have pe:=b0 _ s7 an H7 _ I7 q7;rw[xp,xw,xA,F,xe]at pe;refine ce pe λyv s8 P=>?_;obtain⟨y,H8,I8,r8,da,c0,m',hm,w8⟩:=P;have ap:=d0 (X:=M) _ s8 an H8 (.ref t.heap.objs.size) [y] _ [yv] (λv H9=>H9=aG H8 t.heap.objs.size (.lst (O++[y]))) I8 rfl (.cons r8 .nil) ⟨_,O,y,rfl,rfl,da,c0,rfl⟩;rw[xp,xw,xA,xe]at ap;refine ce ap λ_ s9 P=>?_;obtain⟨_,H9,I9,_,e9⟩:=P;subst e9;obtain⟨a1,a2,a3⟩:=again I9;exact⟨m',hm,i+1,O++[y],_,a1,a2,a3,w8⟩
 exact codeAny_compStart_list as (T.self _ 0 _ _ _ b9 as)
def FH(l:MV)(ds:MY)(k:Nat)(hc:X.calm=true)(hi:PI X u c w)(z:∀cl C s₀ H₀ ex,PG (X.comp scope l cl C s₀ H₀ ex) u g/\GA (X.comp scope l cl C s₀ H₀ ex) p tc/\PE (X.comp scope l cl C s₀ H₀ ex) r te)(hg:GK g A)(B:∀t:St,t.length=X.N.length->∀j∈A,∀v,(gB ds k t)[j]?≠some (some v))(d:scope.kind=.function)(e:∀y∈scope.names,y.2≠.cell)(a:∀y∈scope.names,y.2=.local->scope.names.lookup y.1=some .local)(f:∀y∈scope.names,y.2=.free->X.env.scope.names.lookup y.1=some .cell\/X.env.scope.names.lookup y.1=some .free)(E:l=X.N++n)(F:n.length=k)(o:∀i x,X.N[i]?=some x->scope.names.lookup x=some .local->i∈ds)(G:∀x,foldedSetIterable c X.env x=pure x:=by intro _;rfl):PE X (.ListComp r [⟨u,c,p,0⟩] scope J) (r9 w g ds k tc te):=by intro b s t H Q I h;rw[eval_ListComp];refine vR l ds k hc hi z hg B d e a f E F o G I h λD C K P m L q hn n1 n2 n3 n4 M=>?_;exact⟨m,hn,λh' O=>⟨.ref D,K,L.block_gone n1 n2 n3 n4 M O,rfl,q⟩⟩
def FA(t:MV)(ds:MY)(k:Nat)(G:X.N.Nodup)(J:X.N[i]?=some x)(R:Jn X.env.scope x)(S:X.fn x=true\/X.env.scope.names.lookup x=some .local)(L:swapsWith (.ListComp l [⟨F,c,n,0⟩] scope u) (some (.Name x d)) w.line X.env=pure true)(hc:X.calm=true)(hi:PI X F c T)(W:∀cl C s₀ H₀ ex,PG (X.comp scope t cl C s₀ H₀ ex) F g/\GA (X.comp scope t cl C s₀ H₀ ex) n tc/\PE (X.comp scope t cl C s₀ H₀ ex) l te)(hg:GK g Z)(hj:∀M:St,M.length=X.N.length->∀j∈Z,∀v,(gB ds k M)[j]?≠some (some v))(o:scope.kind=.function)(p:∀y∈scope.names,y.2≠.cell)(f:∀y∈scope.names,y.2=.local->scope.names.lookup y.1=some .local)(r:∀y∈scope.names,y.2=.free->X.env.scope.names.lookup y.1=some .cell\/X.env.scope.names.lookup y.1=some .free)(hN:t=X.N++B)(hk:B.length=k)(E:∀i x,X.N[i]?=some x->scope.names.lookup x=some .local->i∈ds)(hs:∀x,foldedSetIterable c X.env x=pure x:=by intro _;rfl):PS X (.Assign [.Name x d] (.ListComp l [⟨F,c,n,0⟩] scope u) w) (xn (r9 T g ds k tc te) (j7 i)):=by
 intro b s M H D I h;rw[exec_Assign_Name_used _ _ _ _ L];refine a_ (wpAny_standAt (a_ ?_));show wpAny _ X.A (do let _<-comprehension (.ListComp l [⟨F,c,n,0⟩] scope u) scope X.env _ (newList []) false (eval c X.env) (some (assign (.Name x d) X.env))) _ _ s;refine a_ (wpAny_mono (vR (QV:=λ_ K=>SP X b D .next K) (use:=some (assign (.Name x d) X.env)) t ds k hc hi W hg hj o p f r hN hk E hs I h λDa C V K m Y q hn n1 n2 n3 n4 n5=>?_) (λ_ K hq=>e_ (e_ hq)) λ_ _ e=>e)
 show wpAny _ X.A (assign (.Name x d) X.env (.ref Da)) _ _ _;refine wpAny_assign_Name (vj Y G J R (v:=.ref Da) rfl (λaa O⟨a,sb,ha⟩=>?_) S);have P:C≠a:=by
  rcases ha with z|z
  ·rw[z];exact n2
  ·exactλe=>n4 x a z e.symm
 exact⟨m,hn.sameBut sb P,λh' Q=>⟨_,V,O.block_gone n1 n2 n3 n4 n5 Q,q⟩⟩
def qi(N0:MV)(ds:MY)(a scope:Scope):Bool:=scope.kind==.function&&scope.names.all (λy=>!(y.2==.cell)&&(!(y.2==.local)||scope.names.lookup y.1==some .local)&&(!(y.2==.free)||(a.names.lookup y.1==some .cell||a.names.lookup y.1==some .free)))&&N0.zipIdx.all λp=>!(scope.names.lookup p.1==some .local)||ds.contains p.2
def t7{N0:MV}{ds f:MY}{a scope:Scope}{k:Nat}(ok:qi N0 ds a scope=true)(c:(f.all λj=>ds.contains j||decide (N0.length<=j))=true):(∀d:St,d.length=N0.length->∀j∈f,∀v,(gB ds k d)[j]?≠some (some v))/\scope.kind=.function/\(∀y∈scope.names,y.2≠.cell)/\(∀y∈scope.names,y.2=.local->scope.names.lookup y.1=some .local)/\(∀y∈scope.names,y.2=.free->a.names.lookup y.1=some .cell\/a.names.lookup y.1=some .free)/\(∀i x,N0[i]?=some x->scope.names.lookup x=some .local->i∈ds):=by
 unfold qi at ok;rw[lm,lm]at ok;obtain⟨⟨h1,h2⟩,h3⟩:=ok;have h2:=List.all_eq_true.mp h2;have h3:=List.all_eq_true.mp h3;have c:=List.all_eq_true.mp c;refine⟨?_,(by simpa using h1),?_,?_,?_,?_⟩
 ·intro d m j hm v e;obtain⟨_,g,n⟩:=yt e;have:=c j hm;rw[MO]at this;rcases this with z|z
  ·exact g (by simpa using z)
  ·have:=op z;lia
 ·intro y b e;have:=h2 y b;rw[lm,lm]at this;have z:=this.1.1;rw[e]at z;exact absurd z (by decide)
 ·intro y b e;have:=h2 y b;rw[lm,lm]at this;have z:=this.1.2;rw[e]at z;simpa using z
 ·intro y b e;have:=h2 y b;rw[lm,lm]at this;have z:=this.2;rw[e]at z;simpa using z
 ·intro i x h l;have:=h3 (x,i) (by rw[List.mem_zipIdx_iff_getElem?];exact h);rw[MO]at this;rcases this with z|z
  ·rw[l]at z;exact absurd z (by decide)
  ·simpa using z
def Gn(N0 a:MV)(ds n:MY)(d:Scope){e h c:Expr}{f:MW}{scope:Scope}{i:Pos}{o:TI}{g:TG}{tc:TT}{te:TE}(hc:X.calm=true)(l:X.N=N0)(m:X.env.scope=d)(ok:qi N0 ds d scope=true)(p:(n.all λj=>ds.contains j||decide (N0.length<=j))=true)(hg:GK g n)(hi:PI X h c o)(q:∀cl C s₀ H₀ ex,PG (X.comp scope (N0++a) cl C s₀ H₀ ex) h g/\GA (X.comp scope (N0++a) cl C s₀ H₀ ex) f tc/\PE (X.comp scope (N0++a) cl C s₀ H₀ ex) e te)(r:∀x,foldedSetIterable c X.env x=pure x:=by intro _;rfl):PE X (.ListComp e [⟨h,c,f,0⟩] scope i) (r9 o g ds a.length tc te):=by subst l;subst m;obtain⟨h1,h2,h3,h4,h5,h6⟩:=t7 ok p;exact FH (X.N++a) ds a.length hc hi q hg h1 h2 h3 h4 h5 rfl rfl h6 r
def El(N0 a:MV)(ds t:MY)(f:Scope){i:Nat}{x:Str}{d e:Pos}{h n c:Expr}{l:MW}{scope:Scope}{m:Pos}{u:TI}{g:TG}{tc:TT}{te:TE}(hc:X.calm=true)(o:X.N=N0)(p:X.env.scope=f)(ok:qi N0 ds f scope=true)(w:(t.all λj=>ds.contains j||decide (N0.length<=j))=true)(hg:GK g t)(hi:PI X n c u)(y:∀cl C s₀ H₀ ex,PG (X.comp scope (N0++a) cl C s₀ H₀ ex) n g/\GA (X.comp scope (N0++a) cl C s₀ H₀ ex) l tc/\PE (X.comp scope (N0++a) cl C s₀ H₀ ex) h te)(q:N0.Nodup)(r:N0[i]?=some x:=by rfl)(v:f.names.lookup x=some .local:=by rfl)(s:swapsWith (.ListComp h [⟨n,c,l,0⟩] scope m) (some (.Name x d)) e.line X.env=pure true:=by rfl)(z:∀x,foldedSetIterable c X.env x=pure x:=by intro _;rfl):PS X (.Assign [.Name x d] (.ListComp h [⟨n,c,l,0⟩] scope m) e) (xn (r9 u g ds a.length tc te) (j7 i)):=by subst o;subst p;obtain⟨h1,h2,h3,h4,h5,h6⟩:=t7 ok w;exact FA (X.N++a) ds a.length q r (.inl v) (.inr v) s hc hi y hg h1 h2 h3 h4 h5 rfl rfl h6 z
end
end L2
namespace L2
open PySem PySem.Spec PyProof.Rows
section
variable{X:Cx}
def yG:cX X (.builtin "isinstance") (λa H Q=>∃x T t b,a=[x,.ty T]/\lZ X.K H x t/\PySem.W.kitOne X.K t (.type T)=some b/\Q (.bl b) H):=by intro c s g H a i Q I r h;obtain⟨x,T,t,b,rfl,ty,e,q⟩:=h;obtain⟨u,d,rfl,f,rt⟩:=vd r;obtain rfl:d=Value.type T:=rt;exact Bw I f ty e λtk=>⟨.bl b,H,I.tok tk,rfl,q⟩
def vU{bs:List Bool}{a:MT}(r:aZ (bs.map V.bl) a){i:Nat}{v:Value}(h:a[i]?=some v):∃b,bs[i]?=some b/\v=.bool b:=by
 have d:=r.length;rw[b_]at d;have hi:i<a.length:=(d_.mp h).1;have c:bs[i]?=some bs[i]:=by simp
 obtain⟨u,h1,h2⟩:=r.get (i:=i) (x:=.bl bs[i]) (by rw[ge,c];rfl);rw[h]at h1;cases h1;exact⟨bs[i],c,h2⟩
def Bc{bs:List Bool}:((List.range bs.length).all λi=>bs.getD i true)=bs.all id:=by induction bs with|nil=>rfl|cons b r a=>
  rw[il,L_,E2,List.all_map,E2]
  congr 1
def Bb{bs:List Bool}:((List.range bs.length).any λi=>bs.getD i true)=bs.any id:=by induction bs with|nil=>rfl|cons b r a=>
  rw[il,L_,t4,List.any_map,t4]
  congr 1
def DV{A:Around}(h:A.handled=none):A.in1.handled=none:=h
def BO(hc:X.calm=true):cX X (.builtin "all") (λg H Q=>∃(p:Addr)(bs:List Bool),g=[.ref p]/\aW X.K H p (bs.map V.bl)/\Q (.bl (bs.all id)) H):=by
 intro j s A H g B Q I r h;obtain⟨p,bs,rfl,m,q⟩:=h;obtain⟨u,rfl,t⟩:=iE r;cases t;obtain⟨a,k,pl,C⟩:=I.list m;refine call_all_walk (J_ pl.isList ?_);have d:p≠s.heap.objs.size:=iA (by obtain⟨o,n,e,_⟩:=pl;exact hH e);have l:=k.length;rw[b_]at l;refine⟨s.heap.objs.size,_,_,_,_,_,λi=>bs.getD i true,rfl,Walks.list (DV (I.ok.hd hc)) s.heap.objs.size p d a.toArray,⟨⟨_,f_ _ rfl,rfl,rfl⟩,?_⟩,?_,?_⟩
 ·exact pl.isList.push _
 ·intro i v w x D f c;have f:a.toArray[i]?=some v:=f;obtain⟨b,y,rfl⟩:=vU k (i:=i) (v:=v) (by simpa using f);refine pa ?_;have e:bs.getD i true=b:=by simp[List.getD,y]
  have c:x (bs.getD i true) w:=c;rw[e]at c;exact c
 ·intro h' tk z;have e:((List.range a.toArray.size).all λi=>bs.getD i true)=bs.all id:=by rw[ig,<-l,Bc]
  rw[e];exact⟨.bl _,H,I.kept (h':=h') (t':=tk) λb o e=>z b o (by simp[iA (hH e)]) (c_ _ e),rfl,q⟩
def BN(hc:X.calm=true):cX X (.builtin "any") (λg H Q=>∃(p:Addr)(bs:List Bool),g=[.ref p]/\aW X.K H p (bs.map V.bl)/\Q (.bl (bs.any id)) H):=by
 intro j s A H g B Q I r h;obtain⟨p,bs,rfl,m,q⟩:=h;obtain⟨u,rfl,t⟩:=iE r;cases t;obtain⟨a,k,pl,C⟩:=I.list m;refine call_any_walk (J_ pl.isList ?_);have d:p≠s.heap.objs.size:=iA (by obtain⟨o,n,e,_⟩:=pl;exact hH e);have l:=k.length;rw[b_]at l;refine⟨s.heap.objs.size,_,_,_,_,_,λi=>bs.getD i true,rfl,Walks.list (DV (I.ok.hd hc)) s.heap.objs.size p d a.toArray,⟨⟨_,f_ _ rfl,rfl,rfl⟩,?_⟩,?_,?_⟩
 ·exact pl.isList.push _
 ·intro i v w x D f c;have f:a.toArray[i]?=some v:=f;obtain⟨b,y,rfl⟩:=vU k (i:=i) (v:=v) (by simpa using f);refine pa ?_;have e:bs.getD i true=b:=by simp[List.getD,y]
  have c:x (bs.getD i true) w:=c;rw[e]at c;exact c
 ·intro h' tk z;have e:((List.range a.toArray.size).any λi=>bs.getD i true)=bs.any id:=by rw[ig,<-l,Bb]
  rw[e];exact⟨.bl _,H,I.kept (h':=h') (t':=tk) λb o e=>z b o (by simp[iA (hH e)]) (c_ _ e),rfl,q⟩
def GE(x:Str):It:=⟨λi _=>i<x.cps.size,λi H y a=>a=H/\∃c,x.cps[i]?=some c/\y=.str ⟨#[c]⟩,λi _=>x.cps.size<=i⟩
def B2{P:MU}{w:World}{K:MP}{L:Expr}(a:Addr)(x:Str)(t:Tok)(f:String)(hn:["enumerate","zip","dict_itemiterator","dict_reverseitemiterator","odict_iterator","itertools.zip_longest","itertools.pairwise"].contains f=false)(W:∀A:Around,A.handled=none->Walks P w A a [a] [a] x.cps.size (SignAt x) (λi h=>h.IsStrIter a f x t i))(S:∀(A:Around)(i:Nat)(s:Shared)(Q:MQ)(E:MQ),s.heap.IsStrIter a f x t i->Q (.ref a) s->wpAny (model P w) A (pyIter (.ref a)) Q E s):u5 P w K L (GE x) [a] a (λi h=>i<=x.cps.size/\h.IsStrIter a f x t i)where
 mem:=by simp
 obj:=λi h st b j=>by
  have e:b=a:=by simpa using j
  subst e;obtain⟨_,o,e,c,d⟩:=st;exact⟨o,e,λv z=>by rw[d]at z;cases z⟩
 keep:=λi h h' st k=>by obtain⟨l,o,e,r⟩:=st;exact⟨l,o,k a (by simp) o e,r⟩
 item:=by intro X p q y hc i g s J H E I n st hg;subst p q y;obtain⟨B,f1,f2,f3,C,D⟩:=n a (by simp);refine(W X.A (I.ok.hd hc)).item i s _ _ hg st.2 λv h' tk M m F=>?_;obtain⟨c,u,G,rfl⟩:=M;have I1:aN X g J H {s with heap:=h',toks:=tk}:=I.turned (λb o j e=>F b o (by simpa using j) e) B f1 f3 C D;obtain⟨o,e,N,d⟩:=id m;have O:i<x.cps.size:=hg;exact⟨_,rfl,vJ (s:={s with heap:=h',toks:=tk}) e N d hn ⟨.str ⟨#[c]⟩,H,I1,⟨u,rfl⟩,⟨rfl,c,G,rfl⟩,⟨by omega,m⟩,λb j=>(n b j).1⟩⟩
 done:=by intro X p q y hc i g s J H E I n st hg;subst p q y;obtain⟨B,f1,f2,f3,C,D⟩:=n a (by simp);have e:i=x.cps.size:=Nat.le_antisymm st.1 hg;subst e;exact(W X.A (I.ok.hd hc)).done s _ _ st.2 λh' tk F=>⟨rfl,I.turned (λb o j e=>F b o (by simpa using j) e) B f1 f3 C D⟩
 self:=λA i s Q E st h=>S A i s Q E st.2 h
def Lc(a:TE):TI:=λb H R=>a b H λv c=>∃x,v=.str x/\R (GE x) c
def CZ{g l:Expr}{j:TE}(n:PE X l j):PI X g l (Lc j):=by
 intro d s k H R I h;refine ce (n d s k H _ I h) λv a p=>?_;obtain⟨y,r,I1,u,z⟩:=p;obtain⟨x,e,q⟩:=z;subst e;obtain⟨t,rfl⟩:=u;have fin:∀(c:String)(ob:Obj),(["enumerate","zip","dict_itemiterator","dict_reverseitemiterator","odict_iterator","itertools.zip_longest","itertools.pairwise"].contains c=false)->(∀A:Around,A.handled=none->Walks X.prog X.w A a.heap.objs.size [a.heap.objs.size] [a.heap.objs.size] x.cps.size (SignAt x) (λi h=>h.IsStrIter a.heap.objs.size c x t i))->(∀(A:Around)(i:Nat)(s:Shared)(Q:MQ)(E:MQ),s.heap.IsStrIter a.heap.objs.size c x t i->Q (.ref a.heap.objs.size) s->wpAny (model X.prog X.w) A (pyIter (.ref a.heap.objs.size)) Q E s)->(a.heap.push ob).IsStrIter a.heap.objs.size c x t 0->Lm X d k g R (.ref a.heap.objs.size) {a with heap:=a.heap.push ob}:=λc ob h1 h2 h3 h4=>by
  refine⟨a.heap.objs.size,[a.heap.objs.size],_,GE x,r,rfl,I1.kept (t':=a.toks) λb o e=>c_ _ e,B2 _ x t c h1 h2 h3,⟨kw _,h4⟩,λb B=>?_,q⟩;have e:b=a.heap.objs.size:=by simpa using B
  subst e;exact I1.fpOk (fx _) (I1.hok.fresh (fx _))
 cases m:x.cps.all (·<128)
 ·exact wpAny_pyIter_wide m (fin "str_iterator" _ (by decide) (λA f=>Walks.strWide f _ x t) (λA i s Q E st h=>wpAny_pyIter_striter_wide st h) ⟨_,f_ _ rfl,rfl,rfl⟩)
 ·exact wpAny_pyIter_ascii m (fin "str_ascii_iterator" _ (by decide) (λA f=>Walks.strAscii f _ x t) (λA i s Q E st h=>wpAny_pyIter_striter_ascii st h) ⟨_,f_ _ rfl,rfl,rfl⟩)
def Gg{x:Str}{g:TG}{l:TS}{D:lg}{a:St}{H:Hp}(Pv:Nat->St->Hp->Prop)(h0:Pv 0 a H)(o:∀i c a H,x.cps.toList[i]?=some c->Pv i a H->g (.str ⟨#[c]⟩) a H λd j=>l {D with nx:=Pv (i+1),ct:=Pv (i+1),bk:=D.nx} d j)(hd:∀a H,Pv x.cps.toList.length a H->D.nx a H):∃W:Nat->Nat->St->Hp->Prop,(∃m,W 0 m a H)/\∀i m a H,W i m a H->((GE x).stop i H/\D.nx a H)\/((GE x).go i H/\∃N:St->Hp->Prop,(∀f h,N f h->∃n,n<m/\W (i+1) n f h)/\∀y h,(GE x).yld i H y h->g y a h λd j=>l {D with nx:=N,ct:=N,bk:=D.nx} d j):=by
 have k:x.cps.toList.length=x.cps.size:=by simp
 refine⟨λi m a H=>m=x.cps.size-i/\i<=x.cps.size/\Pv i a H,⟨x.cps.size,by simp,kw _,h0⟩,?_⟩;rintro i m a H⟨rfl,hi,p⟩
 by_cases b:i<x.cps.size
 ·refine .inr ⟨b,Pv (i+1),λf h q=>⟨x.cps.size-(i+1),by omega,rfl,b,q⟩,λy h r=>?_⟩;obtain⟨e,c,hc,rfl⟩:=r;subst e;exact o i c a _ (by simpa using hc) p
 ·have e:i=x.cps.size:=by omega
  subst e;exact .inl ⟨fx _,hd a H (by rw[k];exact p)⟩
def HM:V->List V->Hp->VK->Prop:=λx a H Q=>∃z y i r,x=.str z/\a=[.str y]/\Builtin.Str.occurrences z y 0 z.length 1=i::r/\Q (.int (i:Nat)) H
def Dr:KA X "str.index" HM:=by intro a s e H x f v g Q I b c h;obtain⟨z,y,i,r,rfl,rfl,d,q⟩:=h;obtain⟨t,rfl⟩:=b;obtain⟨u,rfl,j,rfl⟩:=iE c;exact SC.index d ⟨.int _,H,I.tok _,⟨_,rfl⟩,q⟩
end
end L2
namespace L2
open PySem PySem.Spec PyProof.Rows
section
variable{X:Cx}(K:MP)(c:X.K=K)
include c
def aI:cX X (.builtin "len") (λa H Q=>∃x n,a=[x]/\IW K x H n/\Q (.int n) H):=by subst c;exact Er
def ka:cX X (.builtin "isinstance") (λa H Q=>∃x T t b,a=[x,.ty T]/\lZ K H x t/\PySem.W.kitOne K t (.type T)=some b/\Q (.bl b) H):=by subst c;exact yG
def iC(hc:X.calm=true):cX X (.builtin "all") (λa H Q=>∃(p:Addr)(bs:List Bool),a=[.ref p]/\aW K H p (bs.map V.bl)/\Q (.bl (bs.all id)) H):=by subst c;exact BO hc
def ql(hc:X.calm=true):cX X (.builtin "any") (λa H Q=>∃(p:Addr)(bs:List Bool),a=[.ref p]/\aW K H p (bs.map V.bl)/\Q (.bl (bs.any id)) H):=by subst c;exact BN hc
def DR:Jo X (HL K):=by subst c;exact F8
def F7:Jo X (HK K):=by subst c;exact Iu
def su:Jl X (JN K):=by subst c;exact Fv
def ko:Jl X (JM K):=by subst c;exact HF
def nA:ld X (compareOp .In) (rIn K false):=by subst c;exact Bg
def xT:ld X (binaryOp .Add) (GQ K):=by subst c;exact FL
def ua:cX X (.type "list") (λd H Q=>∃p a,d=[.ref p]/\(aW K H p a\/aX K H p a)/\∀l,H l=none->Q (.ref l) (aG H l (.lst a))):=by subst c;exact wV
def fV:cX X (.type "tuple") (λd H Q=>∃p a,d=[.ref p]/\((aW K H p a/\∀l,H l=none->Q (.ref l) (aG H l (.tup a)))\/(aX K H p a/\Q (.ref p) H))):=by subst c;exact uZ
def fj{d l:Expr}{a:TE}(e:PE X l a):PI X d l (GT K a):=by subst c;exact FD e
def dw{d l:Expr}{a:TE}(e:PE X l a):PI X d l (Ki K a):=by subst c;exact HQ e
def aP{a:Expr}{e:TE}(g:PE X a e)(h:∀d,isTrue a X.env d=(do let v<-d;standAt a.pos;holding [v] (truthy v))):PT X a (λi H Q=>e i H λx f=>∃k,IR K x f k/\Q k f):=by subst c;exact CT g h
def ik{f:MW}{k:Nat}{a:Pos}{t:Jk}{n:Nat}(hc:X.calm=true)(h:IT X f t)(hn:(assignEach f X.env).length=n:=by rfl)(d:(assignEach f X.env).findIdx? (·.1)=none:=by rfl):PG X (.Tuple f k a) (Iy K n t):=by subst c;exact HR hc h hn d
variable{o e:Expr}{f:MW}{j:TE}{t:TA}{g:Str}{i d:Pos}{T id:String}{r:V->List V->Hp->VK->Prop}
def cI(p:PlainAttrs T)(slot:Slot T g id)(n:typeOf (.builtin id)=pure (.type "method_descriptor"))(hm:KA X id r)(q:PE X o j)(s:PA X (e::f) t)(h:attributeBase o g X.env (eval o X.env)=eval o X.env:=by rfl)(m:((backTo d (starEach (e::f) X.env)).all (λx=>!x.1)&&(backToKw d (keywordEach [] X.env)).all (λx=>x.1.isSome)&&decide ((e::f).length+([]:List Keyword).length+(if([]:List Keyword).isEmpty then 0 else 1)<30))=true:=by rfl)(l:(i.endLine==d.line)=true:=by rfl)(u:starEach (e::f) X.env=(false,eval e X.env)::starEach f X.env:=by rfl)(a:(backTo d (starEach f X.env)).any (·.1)=false:=by rfl):PE X (.Call (.Attribute o g i) (e::f) [] d) (tBM K T r j t):=by subst c;exact JV p slot n hm q s h m l u a
end
end L2
namespace L2
open PySem PySem.Spec PyProof.Rows
def aL:bootBuiltins "len"=some (.builtin "len"):=by decide+kernel
def Ev:bootBuiltins "max"=some (.builtin "max"):=by decide+kernel
def uf:bootBuiltins "min"=some (.builtin "min"):=by decide+kernel
def aR:bootBuiltins "isinstance"=some (.builtin "isinstance"):=by decide+kernel
def kc:bootBuiltins "all"=some (.builtin "all"):=by decide+kernel
def uh:bootBuiltins "any"=some (.builtin "any"):=by decide+kernel
def yJ:bootBuiltins "divmod"=some (.builtin "divmod"):=by decide+kernel
def qW:bootBuiltins "sorted"=some (.builtin "sorted"):=by decide+kernel
def Eu:bootBuiltins "sum"=some (.builtin "sum"):=by decide+kernel
def Ew:bootBuiltins "int"=some (.type "int"):=by decide+kernel
def dY:bootBuiltins "str"=some (.type "str"):=by decide+kernel
def BQ:bootBuiltins "bool"=some (.type "bool"):=by decide+kernel
def qo:bootBuiltins "list"=some (.type "list"):=by decide+kernel
def bE:bootBuiltins "tuple"=some (.type "tuple"):=by decide+kernel
def ue:bootBuiltins "set"=some (.type "set"):=by decide+kernel
def ug:bootBuiltins "enumerate"=some (.type "enumerate"):=by decide+kernel
def Et:bootBuiltins "zip"=some (.type "zip"):=by decide+kernel
def u3:bootBuiltins "reversed"=some (.type "reversed"):=by decide+kernel
section
variable{X:Cx}
def ie(hg:Gl X x)(hm:X.mg x=none)(a:bootBuiltins x=some (.type T))(hn:x≠"__name__":=by decide)(hd:(x==("__debug__":Str))=false:=by decide):PE X (.Name x c) (tC (.ty T)):=FI hg hm a rfl hn hd
def cu(hm:∃u,X.mg x=some u/\aU v u)(hg:Gl X x)(hd:(x==("__debug__":Str))=false:=by decide):PE X (.Name x a) (tC v):=by obtain⟨u,h1,h2⟩:=hm;exact Ad hg h1 h2 hd
end
def cY{K:MP}{A B:String}{b:Bool}(h:(if((Value.type A)==.type B)=true then some true else if PySem.W.kitMeta B=true then(fastBuiltinMro A).map (·.contains (.type B))else none)=some b):PySem.W.kitOne K (.type A) (.type B)=some b:=h
def i4{i j:Int}{A B:Prop}(h1:i=j->A)(h2:i≠j->B):if decide (V.int i=V.int j)=true then A else B:=by
 by_cases h:i=j
 ·subst h;rw[j1 rfl];exact bq (h1 rfl)
 ·rw[j2 (λe=>h (V.int.inj e))];exact bU (h2 h)
def lS{c:Prop}[Decidable c]{A B:Prop}(h1:c->A)(h2:¬c->B):if decide c=true then A else B:=by
 by_cases h:c
 ·rw[j1 h];exact bq (h1 h)
 ·rw[j2 h];exact bU (h2 h)
def tT{b:Bool}{A B:Prop}(h1:b=true->A)(h2:b=false->B):if b=true then A else B:=by cases b with|true=>exact bq (h1 rfl)|false=>exact bU (h2 rfl)
def aq(h:F (a.set j (some x)) H):j7 j x a H F:=h
def BS(h:D.nx (a.set i (some v)) H):xn (tC v) (j7 i) D a H:=h
def gU(h:F true H):Jr a H F:=h
def Id(h:aG H a o b=none):b≠a/\H b=none:=by
 by_cases e:b=a
 ·rw[e,af]at h;cases h
 ·rw[ao e]at h;exact⟨e,h⟩
def bH(i:Int){n:Int}(h:0<n):0<=i%n/\i%n<n:=⟨LH _ (by lia),Ha _ h⟩
def Ih(x:Int):Builtin.bitAnd x 2147483647=x%2147483648:=PySem.W.kbt_mask x 31
end L2
namespace L2
open PySem PySem.Spec PyProof.Rows
section
variable{X:Cx}
def K4:V->Option Int->Option Int->Hp->VK->Prop:=λx lo hi H Q=>∃z,x=.str z/\z.length<=sizeLine/\Q (.str (Txt.slice z lo hi)) H
def sr:Jl X K4:=by intro a s g H x v n o lo hi sl Q I m b pl d h;obtain⟨z,rfl,c,q⟩:=h;obtain⟨t,rfl⟩:=m;refine⟨"str",_,F.slot_str_getitem.lookup,typeIs_str _ _ _,?_⟩;have fin:∀(e:Tok)(k:Nat),EP X a g Q (.str (Txt.slice z lo hi) e) {s with toks:=k}:=λe k=>⟨.str _,H,I.tok k,⟨_,rfl⟩,q⟩;cases pl with
 |none=>cases d with|none=>exact I_ (l:=none) (u:=none) (st:=none) b rfl (Mc ⟨ku (Txt.slice_le z _ _) c,fin⟩)|int j u=>exact I_ (l:=none) (u:=some (j,u)) (st:=none) b rfl (Mc ⟨ku (Txt.slice_le z _ _) c,fin⟩)
 |int i f=>cases d with|none=>exact I_ (l:=some (i,f)) (u:=none) (st:=none) b rfl (Mc ⟨ku (Txt.slice_le z _ _) c,fin⟩)|int j u=>exact I_ (l:=some (i,f)) (u:=some (j,u)) (st:=none) b rfl (Mc ⟨ku (Txt.slice_le z _ _) c,fin⟩)
theorem zR:∀{c:MV}{a:MT},aZ (c.map V.str) a->∃l:List (Str×Tok),a=strValues l/\l.map (·.1)=c|[],_,r=>by cases r;exact⟨[],rfl,rfl⟩|t::c,_,r=>by cases r with|cons h b=>obtain⟨tk,rfl⟩:=h;obtain⟨l,d,e⟩:=zR b;exact⟨(t,tk)::l,by rw[d];rfl,by rw[lh,e]⟩
def GP(K:MP):V->List V->Hp->VK->Prop:=λx b H Q=>∃(z:Str)(p:Addr)(a:MV),x=.str z/\b=[.ref p]/\aW K H p (a.map V.str)/\JoinOk z a=true/\Q (.str (Txt.join z a)) H
def FR:KA X "str.join" (GP X.K):=by intro a s j H x m v n Q I b c h;obtain⟨z,p,o,rfl,rfl,d,e,q⟩:=h;obtain⟨t,rfl⟩:=b;obtain⟨u,rfl,f⟩:=iE c;cases f;obtain⟨g,r,pl,w⟩:=I.list d;obtain⟨l,rfl,i⟩:=zR r;exact SC.join pl.isList i e λy k=>⟨.str _,H,I.tok k,⟨_,rfl⟩,q⟩
def eD(K:MP)(a:X.K=K):KA X "str.join" (GP K):=by subst a;exact FR
end
end L2
namespace L2
open PySem PySem.Spec PyProof.Rows
def G3{c:Bool}{t u:TS}{D:lg}{a:St}{H:Hp}(J:St->Hp->Prop)(h1:∀a H,J a H->D.nx a H)(h2:∀N:St->Hp->Prop,(∀a H,J a H->N a H)->if c=true then t {D with nx:=N} a H else u {D with nx:=N} a H):if c=true then t D a H else u D a H:=h2 D.nx h1
def Bl(h:D.nx a H):vh D a H:=h
def aj(h:ak c H)(hn:H a=none):ak c (aG H a o):=λb d f=>by have e:=h b d f;rw[ao (aH e hn)];exact e
def yM(h0:0<=i)(h1:i<xs.length):∃c,u4 xs i=some c/\c∈xs:=by refine⟨xs[i.toNat]'(by lia),?_,Ly _⟩;unfold u4 Ga;rw[hQ h0,hQ h1];show xs[i.toNat]?=_;rw[fy (by lia)]
def cS{n:Nat}(h:n<=65536):n<=sizeLine:=by rw[gg];lia
mutual
inductive BV(K:MP)(H:Hp):V->PyData->Prop|non:BV K H .non .none|bl(b:Bool):BV K H (.bl b) (.bool b)|int(i:Int):BV K H (.int i) (.int i)|str(x:Str):BV K H (.str x) (.str x)|lst{a:Addr}{xs:List V}{ds:List PyData}:aW K H a xs->IsPs K H xs ds->BV K H (.ref a) (.list ds)|tup{a:Addr}{xs:List V}{ds:List PyData}:aX K H a xs->IsPs K H xs ds->BV K H (.ref a) (.tuple ds)
inductive IsPs(K:MP)(H:Hp):List V->List PyData->Prop|nil:IsPs K H [] []|cons{v:V}{d:PyData}{vs:List V}{ds:List PyData}:BV K H v d->IsPs K H vs ds->IsPs K H (v::vs) (d::ds)
end
section
variable{X:Cx}{c:MR}{f:St}{H:Hp}{s:Shared}
mutual
theorem BV.reads(I:aN X c f H s):∀{v:V}{d:PyData}{u:Value},BV X.K H v d->aU v u->∃g,Reads s.heap u d g|_,_,_,.non,r=>by obtain rfl:_=Value.none:=r;exact⟨_,.none⟩|_,_,_,.bl b,r=>by obtain rfl:_=Value.bool b:=r;exact⟨_,.bool b⟩|_,_,_,.int i,r=>by obtain⟨t,rfl⟩:=r;exact⟨_,.int i t⟩|_,_,_,.str x,r=>by obtain⟨t,rfl⟩:=r;exact⟨_,.str x t⟩|_,_,_,.lst (a:=a) h j,r=>by obtain rfl:_=Value.ref a:=r;obtain⟨k,l,⟨o,n,e,hc,_,hd⟩,_⟩:=I.list h;obtain⟨g,q⟩:=IsPs.reads I j l;exact⟨_,.list e hc hd (by simpa using q)⟩|_,_,_,.tup (a:=a) h j,r=>by obtain rfl:_=Value.ref a:=r;obtain⟨k,l,⟨o,e,hc,n,hd⟩,_⟩:=I.tuple h;obtain⟨g,q⟩:=IsPs.reads I j l;exact⟨_,.tuple e hc hd (by simpa using q)⟩
theorem IsPs.reads(I:aN X c f H s):∀{a:List V}{ds:List PyData}{d:MT},IsPs X.K H a ds->aZ a d->∃e,ReadsAll s.heap d ds e|_,_,_,.nil,r=>by cases r;exact⟨_,.nil⟩|_,_,_,.cons h b,r=>by cases r with|cons g r2=>obtain⟨e,q⟩:=BV.reads I h g;obtain⟨bs,p⟩:=IsPs.reads I b r2;exact⟨_,.cons q p⟩
end
end
section
variable{X:Cx}
def JR(K:MP):R2:=λx y H Q=>∃d e,BV K H x d/\BV K H y e/\SeqAt.shaped d=true/\SeqAt.shaped e=true/\Q (.bl (PyData.eqv d e)) H
def HY(c:X.A.units+64<cLine):ld X (compareOp .Eq) (JR X.K):=by intro a s i H x y v u Q I b f h;obtain⟨d,e,h1,h2,h3,h4,q⟩:=h;obtain⟨j,g⟩:=h1.reads I b;obtain⟨bs,r2⟩:=h2.reads I f;exact eq_dataH g r2 h3 h4 c ⟨.bl _,H,I,rfl,q⟩
def Ld{A:Around}{k:Nat}(a:eL k A):A.units+64<cLine:=by have:=a.un;lia
def FK(K:MP)(a:X.K=K)(c:X.A.units+64<cLine):ld X (compareOp .Eq) (JR K):=by subst a;exact HY c
def Ep(hc:X.calm=true):cX X (.builtin "sum") (λa H Q=>∃(p:Addr)(ns:M0),a=[.ref p]/\(aW X.K H p (ns.map V.int)\/aX X.K H p (ns.map V.int))/\Q (.int ns.sum) H):=by
 intro j s o H a t Q I r h;obtain⟨p,ns,rfl,d,q⟩:=h;obtain⟨u,rfl,l⟩:=iE r;cases l;have k:∀{b:MT},aZ (ns.map V.int) b->∃a:Array (Int×Tok),b.toArray=intItems a/\preSum (numAt a) a.size=ns.sum:=λf=>by
  have hi:IntsAre _ ns:=zy f;obtain⟨a,c⟩:=hi.allInts.items;refine⟨a,c,?_⟩;have m:ns=a.toList.map (·.1):=by rw[<-nums_intItems,<-c];exact hi.numsOf.symm
  rw[preSum_eq,g_ (by simp),m]
 rcases d with d|d
 ·obtain⟨b,f,pl,n⟩:=I.list d;obtain⟨a,c,e⟩:=k f;refine sum_intListG (I.ok.hd hc) (xs:=a) (c▸pl.isList) λh' tk g i=>?_;rw[e];exact⟨.int _,H,I.kept (h':=h') (t':=tk) i,⟨_,rfl⟩,q⟩
 ·obtain⟨b,f,pt,n⟩:=I.tuple d;obtain⟨a,c,e⟩:=k f;refine PySem.W.ktm_sumG (I.ok.hd hc) (xs:=a) (c▸pt) λh' tk g i=>?_;rw[e];exact⟨.int _,H,I.kept (h':=h') (t':=tk) i,⟨_,rfl⟩,q⟩
def BJ(K:MP)(a:X.K=K)(hc:X.calm=true):cX X (.builtin "sum") (λc H Q=>∃(p:Addr)(ns:M0),c=[.ref p]/\(aW K H p (ns.map V.int)\/aX K H p (ns.map V.int))/\Q (.int ns.sum) H):=by subst a;exact Ep hc
end
section
variable{X:Cx}
end
def bC(h:ak d H)(hn:d a=none):ak d (aG H a o):=λb f c=>by
 have:b≠a:=λe=>by rw[e,hn]at c;cases c
 rw[ao this];exact h b f c
def am{a:Type}{c:List a}{k:Nat}{v:a}(h:c[k]?=some v):u4 c (k:Int)=some v:=by have b:=(d_.mp h).1;unfold u4 Ga;rw[hQ (by lia),hQ (by lia)];exact h
def mE{ns:M0}{k:Int}(h0:0<=k)(h1:k<ns.length):u4 (ns.map V.int) k=some (.int (ns.getD k.toNat 0)):=by obtain⟨n,rfl⟩:∃n:Nat,k=n:=⟨k.toNat,by lia⟩;refine am ?_;rw[ge,fy (by lia)];simp only[n_,List.getD,fy (show n<ns.length by lia)];rfl
def F9{n:Nat}{k:Int}(h0:0<=k)(h1:k<n):Ga n k=some k.toNat:=by unfold Ga;rw[hQ h0,hQ h1]
def yj(ns:M0)(j:Nat)(v:Int):(ns.map V.int).set j (.int v)=(ns.set j v).map V.int:=by rw[List.map_set]
def ak.tseq{K:MP}{H c:Hp}{a:Addr}{d:List V}(e:ak H c)(h:aX K H a d):aX K c a d:=by
 rcases h with h|h
 ·rcases h with h|⟨o,h⟩
  ·exact .inl (.inl (e _ _ h))
  ·exact .inl (.inr ⟨o,e _ _ h⟩)
 ·exact .inr h
@[irreducible]def aY:Int:=10^(30:Int).toNat
def r6:aY=10^(30:Int).toNat:=by unfold aY;rfl
def AR:aY=1000000000000000000000000000000:=by rw[r6];decide+kernel
def dZ:1000000000000000000<aY:=by rw[r6];decide+kernel
section
variable{X:Cx}
def tF:ld X (binaryOp .Pow) (λx y H Q=>x=.int 10/\y=.int 30/\Q (.int aY) H):=by intro a s b H x y v u Q I c d h;obtain⟨rfl,rfl,q⟩:=h;rw[r6]at q;exact HX a s b H _ _ v u Q I c d ⟨10,30,rfl,rfl,⟨by decide,by decide,by decide⟩,q⟩
end
def lf{n i:Nat}{P:Prop}(hi:i<n)(h:P):∃a,a<n-i/\a=n-(i+1)/\i+1<=n/\P:=⟨_,by lia,rfl,hi,h⟩
def gC{K:MP}{lo:Int}{n:Nat}{g:TG}{ds:MY}{k:Nat}{tc:TT}{te:TE}{r:St}{s:Hp}{D:Addr}{F:Hp->Prop}(Pv:Nat->List V->Hp->Prop)(h0:Pv 0 [] (aG s D (.lst [])))(t:∀i a c,i<n->Pv i a c->g (.int (lo+i)) (gB ds k r) c λd o=>tc d o λb h=>if b=true then te d h λy j=>j D=some (.lst a)/\a.length<sizeLine/\∃f,f<n-i/\f=n-(i+1)/\i+1<=n/\Pv (i+1) (a++[y]) (aG j D (.lst (a++[y])))else∃f,f<n-i/\f=n-(i+1)/\i+1<=n/\Pv (i+1) a h)(hd:∀a c,Pv n a c->F c):∃W:Nat->Nat->List V->Hp->Prop,(∃m,W 0 m [] (aG s D (.lst [])))/\∀i m a c,W i m a c->((EK lo n).stop i c/\F c)\/((EK lo n).go i c/\∀x q,(EK lo n).yld i c x q->g x (gB ds k r) q λd o=>tc d o λb h=>if b=true then te d h λy j=>j D=some (.lst a)/\a.length<sizeLine/\∃f,f<m/\W (i+1) f (a++[y]) (aG j D (.lst (a++[y])))else∃f,f<m/\W (i+1) f a h):=by
 refine⟨λi m a c=>m=n-i/\i<=n/\Pv i a c,⟨_,rfl,kw _,h0⟩,?_⟩;rintro i m a c⟨rfl,hi,p⟩
 by_cases l:i<n
 ·refine .inr ⟨l,λx q y=>?_⟩;obtain⟨e,y⟩:=y;subst e y;exact t i a _ l p
 ·have e:i=n:=by lia
  subst e;exact .inl ⟨fx _,hd a c p⟩
def j9{K:MP}{a:Addr}{xs:List V}{g:TG}{ds:MY}{k:Nat}{tc:TT}{te:TE}{s:St}{t:Hp}{D:Addr}{F:Hp->Prop}(Pv:Nat->List V->Hp->Prop)(h0:Pv 0 [] (aG t D (.lst [])))(u:∀i c d,i<=xs.length->Pv i c d->aW K d a xs)(v:∀i x c d,xs[i]?=some x->Pv i c d->g x (gB ds k s) d λf n=>tc f n λb j=>if b=true then te f j λy l=>l D=some (.lst c)/\c.length<sizeLine/\∃h,h<xs.length-i/\h=xs.length-(i+1)/\i+1<=xs.length/\Pv (i+1) (c++[y]) (aG l D (.lst (c++[y])))else∃h,h<xs.length-i/\h=xs.length-(i+1)/\i+1<=xs.length/\Pv (i+1) c j)(hd:∀c d,Pv xs.length c d->F d):∃W:Nat->Nat->List V->Hp->Prop,(∃m,W 0 m [] (aG t D (.lst [])))/\∀i m c d,W i m c d->((GF K a).stop i d/\F d)\/((GF K a).go i d/\∀x o,(GF K a).yld i d x o->g x (gB ds k s) o λf n=>tc f n λb j=>if b=true then te f j λy l=>l D=some (.lst c)/\c.length<sizeLine/\∃h,h<m/\W (i+1) h (c++[y]) (aG l D (.lst (c++[y])))else∃h,h<m/\W (i+1) h c j):=by
 refine⟨λi m c d=>m=xs.length-i/\i<=xs.length/\Pv i c d,⟨_,rfl,kw _,h0⟩,?_⟩;rintro i m c d⟨rfl,hi,p⟩;have q:=u i c d hi p
 by_cases r:i<xs.length
 ·refine .inr ⟨⟨xs,xs[i],q,by simp[r]⟩,λx o y=>?_⟩;obtain⟨e,y⟩:=y;subst e;exact v i x c _ (y xs q) p
 ·have e:i=xs.length:=by lia
  subst e;exact .inl ⟨⟨xs,q,fx _⟩,hd c d p⟩
def cJ{K:MP}{a:Addr}{xs:List V}{g:TG}{ds:MY}{k:Nat}{tc:TT}{te:TE}{s:St}{t:Hp}{D:Addr}{F:Hp->Prop}(Pv:Nat->List V->Hp->Prop)(h0:Pv 0 [] (aG t D (.lst [])))(u:∀i c d,i<=xs.length->Pv i c d->aX K d a xs)(v:∀i x c d,xs[i]?=some x->Pv i c d->g x (gB ds k s) d λf n=>tc f n λb j=>if b=true then te f j λy l=>l D=some (.lst c)/\c.length<sizeLine/\∃h,h<xs.length-i/\h=xs.length-(i+1)/\i+1<=xs.length/\Pv (i+1) (c++[y]) (aG l D (.lst (c++[y])))else∃h,h<xs.length-i/\h=xs.length-(i+1)/\i+1<=xs.length/\Pv (i+1) c j)(hd:∀c d,Pv xs.length c d->F d):∃W:Nat->Nat->List V->Hp->Prop,(∃m,W 0 m [] (aG t D (.lst [])))/\∀i m c d,W i m c d->((GD K a).stop i d/\F d)\/((GD K a).go i d/\∀x o,(GD K a).yld i d x o->g x (gB ds k s) o λf n=>tc f n λb j=>if b=true then te f j λy l=>l D=some (.lst c)/\c.length<sizeLine/\∃h,h<m/\W (i+1) h (c++[y]) (aG l D (.lst (c++[y])))else∃h,h<m/\W (i+1) h c j):=by
 refine⟨λi m c d=>m=xs.length-i/\i<=xs.length/\Pv i c d,⟨_,rfl,kw _,h0⟩,?_⟩;rintro i m c d⟨rfl,hi,p⟩;have q:=u i c d hi p
 by_cases r:i<xs.length
 ·refine .inr ⟨⟨xs,xs[i],q,by simp[r]⟩,λx o y=>?_⟩;obtain⟨e,y⟩:=y;subst e;exact v i x c _ (y xs q) p
 ·have e:i=xs.length:=by lia
  subst e;exact .inl ⟨⟨xs,q,fx _⟩,hd c d p⟩
def Ek{K:MP}{z:Str}{g:TG}{ds:MY}{k:Nat}{tc:TT}{te:TE}{r:St}{s:Hp}{D:Addr}{F:Hp->Prop}(Pv:Nat->List V->Hp->Prop)(h0:Pv 0 [] (aG s D (.lst [])))(t:∀i c a d,z.cps.toList[i]?=some c->Pv i a d->g (.str ⟨#[c]⟩) (gB ds k r) d λf n=>tc f n λb j=>if b=true then te f j λy l=>l D=some (.lst a)/\a.length<sizeLine/\∃h,h<z.cps.toList.length-i/\h=z.cps.toList.length-(i+1)/\i+1<=z.cps.toList.length/\Pv (i+1) (a++[y]) (aG l D (.lst (a++[y])))else∃h,h<z.cps.toList.length-i/\h=z.cps.toList.length-(i+1)/\i+1<=z.cps.toList.length/\Pv (i+1) a j)(hd:∀a d,Pv z.cps.toList.length a d->F d):∃W:Nat->Nat->List V->Hp->Prop,(∃m,W 0 m [] (aG s D (.lst [])))/\∀i m a d,W i m a d->((GE z).stop i d/\F d)\/((GE z).go i d/\∀x o,(GE z).yld i d x o->g x (gB ds k r) o λf n=>tc f n λb j=>if b=true then te f j λy l=>l D=some (.lst a)/\a.length<sizeLine/\∃h,h<m/\W (i+1) h (a++[y]) (aG l D (.lst (a++[y])))else∃h,h<m/\W (i+1) h a j):=by
 refine⟨λi m a d=>m=z.cps.toList.length-i/\i<=z.cps.toList.length/\Pv i a d,⟨_,rfl,kw _,h0⟩,?_⟩;rintro i m a d⟨rfl,hi,p⟩;have v:z.cps.toList.length=z.cps.size:=by simp
 by_cases q:i<z.cps.size
 ·refine .inr ⟨q,λy o u=>?_⟩;obtain⟨e,c,hc,rfl⟩:=u;subst e;exact t i c a _ (by simpa using hc) p
 ·have e:i=z.cps.toList.length:=by lia
  subst e;exact .inl ⟨by show z.cps.size<=_;lia,hd a d p⟩
section
variable{X:Cx}
end
def DT{i j:Str}{A B:Prop}(h1:i=j->A)(h2:i≠j->B):if decide (V.str i=V.str j)=true then A else B:=by
 by_cases h:i=j
 ·subst h;rw[j1 rfl];exact bq (h1 rfl)
 ·rw[j2 (λe=>h (V.str.inj e))];exact bU (h2 h)
end L2
namespace L2
open PySem PySem.Spec PyProof.Rows
abbrev fu(led:Bool):Obj:={cls:=.type "set",dict:=none,data:=.set #[] 0 (.fresh 0 0 led)}
def tP{a:Type}[BEq a](c:Nat->a)(i:Nat):List a:=((List.range i).map c).foldl step_dedup []
section
variable{a:Type}[DecidableEq a][BEq a][LawfulBEq a]
def vC(c:Nat->a)(i:Nat):tP c (i+1)=step_dedup (tP c i) (c i):=by show((List.range (i+1)).map c).foldl step_dedup []=_;rw[Md,g6,s_];rfl
def Dy(c:Nat->a)(i:Nat):(tP c i).length<=i:=by induction i with|zero=>exact fx 0|succ i b=>
  rw[vC];unfold step_dedup
  split
  ·exact vl b
  ·rw[gV];exact C_ b
end
def pq(b:Bool)(h:Heap)(a:Addr)(c:MX):Prop:=∃o,h.get? a=some o/\o.cls=.type (cond b "list" "tuple")/\∃n,o.data=.seq c n
def qA(b:Bool)(h:Heap)(a l:Addr)(i:Nat):Prop:=∃o,h.get? a=some o/\o.cls=.type (cond b "list_iterator" "tuple_iterator")/\o.data=.fields #[.ref l,.int i 0]
def pq.at{b:Bool}{h h':Heap}{a:Addr}{c:MX}(x:pq b h a c)(e:∀o,h.get? a=some o->h'.get? a=some o):pq b h' a c:=Exists.imp (λ_ r=>⟨e _ r.1,r.2⟩) x
def qA.at{b:Bool}{h h':Heap}{a l:Addr}{i:Nat}(x:qA b h a l i)(e:∀o,h.get? a=some o->h'.get? a=some o):qA b h' a l i:=Exists.imp (λ_ r=>⟨e _ r.1,r.2⟩) x
section
variable{P:MU}{w:World}{A:Around}{E:MQ}{s:Shared}
def zT{b:Bool}{l:Addr}{a:MX}{Q:MQ}(c:pq b s.heap l a)(q:Q (.ref s.heap.objs.size) {s with heap:=s.heap.push {cls:=.type (cond b "list_iterator" "tuple_iterator"),data:=.fields #[.ref l,.int 0 0]}}):wpAny (model P w) A (pyIter (.ref l)) Q E s:=by cases b with|false=>exact w1 c q|true=>exact J_ c q
end
end L2
namespace L2
open PySem PySem.Spec PyProof.Rows
instance(priority:=10000)keyBEq:BEq (Sum Int Str):=⟨λa b=>decide (a=b)⟩
instance(priority:=10000)keyLaw:LawfulBEq (Sum Int Str)where
 eq_of_beq:=λh=>op h
 rfl:=j1 rfl
def dd{a:Type}[BEq a](c:List a):List a:=c.foldl step_dedup []
def y9(a:List c)(d:c):(List.range a.length).map (λi=>a.getD i d)=a:=by refine List.ext_getElem (by simp) λi h1 h2=>?_;simp[List.getD,fy h2]
def FX[BEq c](a:List c)(d:c):tP (λi=>a.getD i d) a.length=dd a:=by unfold tP dd;rw[y9]
section
variable{X:Cx}
def F6(r:aU (kV k) v):m4 k v=true/\v.scannable=true:=by cases k with|inl i=>obtain⟨t,rfl⟩:=r;exact⟨vH i t,rfl⟩|inr x=>obtain⟨t,rfl⟩:=r;exact⟨vG x t,rfl⟩
end
theorem qf[BEq c]:∀(d:List c)(a:List c),(d.foldl step_dedup a).length<=a.length+d.length
 |[],a=>fx _|k::r,a=>by
  have:=qf r (step_dedup a k);have h2:(step_dedup a k).length<=a.length+1:=by
   unfold step_dedup
   split
   ·exact qq _
   ·rw[gV];exact fx _
  rw[rk,il];lia
theorem yA[DecidableEq d][BEq d][LawfulBEq d]:∀(f c:List d),c.Nodup->((f.foldl step_dedup c).length=c.length+f.length↔(c++f).Nodup)
 |[],c,h=>by simp[h]|k::r,c,h=>by
  rw[rk]
  by_cases e:c.any (·==k)=true
  ·have g:step_dedup c k=c:=by unfold step_dedup;rw[hQ e]
   have hm:k∈c:=by obtain⟨x,j,q⟩:=MG.mp e;rw[<-eq_of_beq q];exact j
   rw[g]
   constructor
   ·intro q;have:=qf r c;rw[il]at q;lia
   ·intro q;rw[ov]at q;exact absurd rfl (q.2.2 k hm k (ir))
  ·have g:step_dedup c k=c++[k]:=by unfold step_dedup;rw[g8 e]
   have hm:k∉c:=λl=>e (MG.mpr ⟨k,l,C2 k⟩);rw[g];have i:=yA r (c++[k]) (by rw[ov];exact⟨h,by simp,λa m b n q=>hm (by rw[List.mem_singleton.mp n]at q;exact q▸m)⟩)
   rw[LW]at i;rw[show c++k::r=c++([k]++r)by rfl,<-i,gV,il,List.length_singleton]
   constructor<;>intro q<;>lia
def IK[DecidableEq c][BEq c][LawfulBEq c](a:List c):(dd a).length=a.length↔a.Nodup:=by have:=yA a [] LN;simp at this;unfold dd;exact this
end L2
namespace L2
open PySem
def B4(t:SetTable)(n:Nat):(t.orStandIn n).led=t.led/\(t.plain=false->(t.orStandIn n).plain=false):=by
 unfold SetTable.orStandIn
 split
 ·exact⟨rfl,id⟩
 ·exact⟨rfl,λ_=>rfl⟩
def He(t:SetTable)(a:Array (Int×Value))(h:Int)(x:Value):(layNew t a h x).2.1.led=t.led/\(t.plain=false->(layNew t a h x).2.1.plain=false):=by
 unfold layNew
 split
 ·rename_i sl wd e;exact B4 (t.put sl).1 _
 ·exact⟨rfl,λ_=>rfl⟩
def B5(t:SetTable)(a:Array (Int×Value))(n:Nat):(relayAll t a n).2.1.led=t.led/\(t.plain=false->(relayAll t a n).2.1.plain=false):=by
 unfold relayAll
 split
 ·rename_i b d e;have c:b.led=t.led/\b.plain=t.plain:=by unfold SetTable.relaid SetTable.laid at e;cases hc:SetTable.layClean (SetTable.sizeAbove n-1) (a.map (·.1))with|none=>rw[hc]at e;cases e|some ow=>rw[hc]at e;cases e;exact⟨rfl,rfl⟩
  dsimp only
  split
  ·exact⟨c.1,λh=>c.2.trans h⟩
  ·exact⟨rfl,λ_=>rfl⟩
 ·exact⟨rfl,λ_=>rfl⟩
def tZ(h:l[i]?=some x):(x::l.eraseIdx i).Perm l:=by
 have a:=(d_.mp h).1;have b:=(d_.mp h).2;have e:l=l.take i++x::l.drop (i+1):=by rw[<-b,List.getElem_cons_drop,r_]
 rw[List.eraseIdx_eq_take_drop_succ];refine List.Perm.trans ?_ (MM e.symm);exact List.perm_middle.symm
def vx(next:Nat->Nat)(c:Array d):(pickOrder next c).toList.Perm c.toList:=by
 have go:∀(a k:Nat)(left:List d)(out:Array d),left.length<=a->(pickOrder.go next a k left out).toList.Perm (out.toList++left):=by
  intro a
  induction a with|zero=>intro k left out h;have:left=[]:=ol.mp (by lia);subst this;unfold pickOrder.go;rw[t_]|succ a e=>intro k left out h;unfold pickOrder.go;cases b:left[next k%left.length]?with
 |none=>
    have hn:left=[]:=by cases left with|nil=>rfl|cons y f=>have:=Es.mp b;have:=Nat.mod_lt (next k) (show 0<(y::f).length from L8 _);lia
    subst hn;rw[t_]|some x=>have g:=(d_.mp b).1;have i:=(d_.mp b).2;dsimp only;refine(e _ _ _ (by rw[List.length_eraseIdx];split<;>lia)).trans ?_;rw[MA,LW];refine List.Perm.append_left _ ?_;show(x::left.eraseIdx (next k%left.length)).Perm left;exact tZ b
 have:=go c.size 0 c.toList #[] (by simp);unfold pickOrder;simpa using this
end L2
namespace L2
open PySem
def gO:Slot "set_iterator" "__next__" "set_iterator.__next__":=.of (owner:="set_iterator") (n:="__next__") (by rw[Mb,Lu];kernel_rfl) (by decide+kernel) (by decide+kernel) (by decide+kernel) (by first|exact .inl (by decide+kernel)|exact .inr (by decide+kernel)) (by rw[Ml];kernel_rfl)
def rK:Slot "set_iterator" "__iter__" "set_iterator.__iter__":=.of (owner:="set_iterator") (n:="__iter__") (by rw[Mb,Lu];kernel_rfl) (by decide+kernel) (by decide+kernel) (by decide+kernel) (by first|exact .inl (by decide+kernel)|exact .inr (by decide+kernel)) (by rw[Ml];kernel_rfl)
def xv:Manifest.owners.lookup (String.ofList ['r','o','t','a','r','e','t','i','_','t','e','s'].reverse)=some Manifest.sig_set_iterator:=by kernel_rfl
def kr(a:Value):argsOk "set_iterator.__next__" ⟨[a],[]⟩:=by unfold argsOk;rw[signature?_of (id:="set_iterator.__next__") (n:=['_','_','t','x','e','n','_','_']) (o:=['r','o','t','a','r','e','t','i','_','t','e','s']) (by kernel_rfl) xv];kernel_rfl
def nQ(a:Value):argsOk "set_iterator.__iter__" ⟨[a],[]⟩:=by unfold argsOk;rw[signature?_of (id:="set_iterator.__iter__") (n:=['_','_','r','e','t','i','_','_']) (o:=['r','o','t','a','r','e','t','i','_','t','e','s']) (by kernel_rfl) xv];kernel_rfl
def jo:entryFor table "set_iterator.__next__"=some Builtin.«set_iterator.__next__»:=entryFor_of_tree (by kernel_rfl)
def mI:entryFor table "set_iterator.__iter__"=some Builtin.«dict_keyiterator.__iter__»:=entryFor_alias (id':="dict_keyiterator.__iter__") (by kernel_rfl) rfl (by decide+kernel) (by kernel_rfl)
def sx:entryFor table "set.__iter__"=some Builtin.«frozenset.__iter__»:=entryFor_alias (id':="frozenset.__iter__") (by kernel_rfl) rfl (by decide+kernel) (by kernel_rfl)
abbrev gZ(first:Value)(i:Nat)(a:Addr)(n c:Nat):Obj:={cls:=.type "set_iterator",dict:=none,data:=.fields #[first,.int i 0,.ref a,.int n 0,.int c 0],slots:=#[]}
abbrev kU(a:MT):Obj:={cls:=.type "tuple",dict:=none,data:=.seq a.toArray}
structure fB(h:Heap)(a:Addr)(es:Array (Int×Value))(ep:Nat)(t:SetTable):Prop where
 ob:∃o,h.get? a=some o/\o.cls=.type "set"/\o.data=.set es ep t
 fits:t.fits es.size=true
def fB.keep(x:fB h a c d t)(k:∀o,h.get? a=some o->h'.get? a=some o):fB h' a c d t:=⟨let⟨o,e,r⟩:=x.ob;⟨o,k o e,r⟩,x.fits⟩
def fB.ty{s:Shared}{a:Addr}{d:Array (Int×Value)}{f:Nat}{t:SetTable}(x:fB s.heap a d f t):s.TypeIs (.ref a) "set":=let⟨o,e,c,_⟩:=x.ob;⟨o,e,c⟩
section
variable{prog:MU}{w:World}{A:Around}{E:MQ}{s:Shared}
theorem t5:∀(n:Nat)(a:List f)(s:Shared)(Q:List f->Shared->Prop),a.length<=n->(∀c d,c.Perm a->Q c {s with drawn:=d})->wpAny (model prog w) A (drawOrder n a) Q E s
 |0,a,s,Q,e,h=>by have:a=[]:=ol.mp (by lia);subst this;unfold drawOrder;exact e_ (h [] s.drawn (Mn _))|n+1,[],s,Q,e,h=>by unfold drawOrder;exact e_ (h [] s.drawn (Mn _))|n+1,x::r,s,Q,e,h=>by
  unfold drawOrder;refine a_ (m:=choose .order (x::r).length) (λΓ p g=>?_);unfold choose;rw[Sem.wp_choose];refine⟨Nat.succ_ne_zero _,?_⟩;have hi:w.draws .order (s.drawn.get .order)%(x::r).length<(x::r).length:=Nat.mod_lt _ (L8 _);have b:wpAny (model prog w) A (match(x::r)[w.draws .order (s.drawn.get .order)%(x::r).length]?with|some y=>do return y::(<-drawOrder n ((x::r).eraseIdx (w.draws .order (s.drawn.get .order)%(x::r).length)))|none=>unsupported "internal:drawOrder") Q E {s with drawn:=s.drawn.bump .order}:=by generalize w.draws .order (s.drawn.get .order)%(x::r).length=i at hi⊢;rw[fy hi];refine a_ (t5 n _ _ _ (by rw[List.length_eraseIdx,hQ hi];lia) λc d j=>?_);exact e_ (h _ _ ((List.Perm.cons _ j).trans (tZ (fy hi))))
  exact b
set_option maxHeartbeats 4000000 in
def DS{a:Addr}{c:Array (Int×Value)}{h:Nat}{t:SetTable}{Q:MQ}(e:fB s.heap a c h t)(hn:c.size<=sizeLine)(h1:(!w.params.followText "set-order"&&(!t.plain&&decide (c.size>1)))=false->Q (.ref s.heap.objs.size) {s with heap:=s.heap.push (gZ (.int 0 0) 0 a c.size h)})(h2:(!w.params.followText "set-order"&&(!t.plain&&decide (c.size>1)))=true->∀(d:MY)(f:Drawn),d.Perm (List.range c.size)->Q (.ref (s.heap.objs.size+1)) {s with heap:=(s.heap.push (kU (d.map λ(i:Nat)=>Value.int (i:Int) 0))).push (gZ (.ref s.heap.objs.size) 0 a c.size h),drawn:=f}):wpAny (model prog w) A (pyIter (.ref a)) Q E s:=by obtain⟨o,b,hc,hd⟩:=e.ob;have g:=e.fits;refine Mw e.ty F.slot_set_iter (nk F.slot_set_iter e.ty sx ?_ (F.args_set_iter_1 _));unfold Builtin.«frozenset.__iter__»;refine a_ (m:=Builtin.Frozenset.slot0 "__iter__" _) (a_ (m:=slotArgs "__iter__" 0 _) (e_ (e_ ?_)));refine a_ (m:=Builtin.Frozenset.sizeOf a) (a_ (LI b hd g (e_ ?_)));refine a_ (m:=setDrawn a) (a_ (y_ b hd g (a_ (a_ (B_ (e_ ?_))))));refine e_ ?_;dsimp only;show wpAny _ _ (if(!w.params.followText "set-order"&&(!t.plain&&decide (c.size>1)))=true then _ else _) _ _ s;cases hc:(!w.params.followText "set-order"&&(!t.plain&&decide (c.size>1)))with|false=>rw[g8 h_];refine a_ (e_ ?_);refine a_ (wpAny_setEpoch_of b hd g ?_);refine a_ (np (e_ ⟨_,rfl,"set_iterator",_,⟨_,f_ _ rfl,rfl⟩,gO.lookup,?_⟩));exact h1 hc|true=>
  rw[hQ rfl];refine a_ (t5 c.size (List.range c.size) s _ (by rw[n7];exact fx _) λd f k=>?_);have l:d.length=c.size:=by rw[k.length_eq,n7]
  refine a_ (np ?_ (by show(d.map λ(i:Nat)=>rawInt i).toArray.size<=sizeLine;rw[ig,b_,l];exact hn));have j:(s.heap.push (kU (d.map λ(i:Nat)=>Value.int (i:Int) 0))).get? a=some o:=c_ _ b;refine a_ (wpAny_setEpoch_of (s:={s with heap:=s.heap.push (kU (d.map λ(i:Nat)=>Value.int (i:Int) 0)),drawn:=f}) j hd g ?_);refine a_ (np (e_ ⟨_,rfl,"set_iterator",_,⟨_,f_ _ rfl,rfl⟩,gO.lookup,?_⟩));have:=h2 hc d f k;rw[show s.heap.objs.size+1=(s.heap.push (kU (d.map λ(i:Nat)=>Value.int (i:Int) 0))).objs.size from(m3 ..).symm]at this;exact this
def Bm{I a:Addr}{d:Array (Int×Value)}{c i slot nx:Nat}{t:SetTable}{x:Value}{Q:Option Value->Shared->Prop}(e:s.heap.get? I=some (gZ (.int slot 0) i a d.size c))(f:fB s.heap a d c t)(hn:∀(A:Around)(g:Option (Value×Nat)->Shared->Prop)(E:MQ),g (some (x,nx)) s->wpAny (model prog w) A (setNext a slot i c) g E s)(h:∀h',h'.get? I=some (gZ (.int nx 0) (i+1) a d.size c)->Heap.SameBut I s.heap h'->Q (some x) {s with heap:=h'}):wpAny (model prog w) A (pyNext (.ref I)) Q E s:=by obtain⟨o,j,hc,hd⟩:=f.ob;have ty:s.TypeIs (.ref I) "set_iterator":=⟨_,e,rfl⟩;unfold pyNext;refine a_ (LX (oe (name:=Str.ofString "__next__") ty gO (nk gO ty jo ?_ (kr _))));unfold Builtin.«set_iterator.__next__»;refine a_ (m:=slotArgs "__next__" 0 _) (e_ ?_);refine a_ (wpAny_fieldsOf e rfl ?_);show wpAny _ _ (setEntries a>>=_) _ _ s;refine a_ (LI j hd f.fits ?_);rw[g8 (by simp)];refine a_ (m:=setNext a slot i c) (hn _ _ _ ?_);refine a_ (o8 e (by simp) λh1 k b1=>?_);refine a_ (o8 (s:={s with heap:=h1}) k (by simp) λh2 l b2=>?_);refine e_ ⟨_,rfl,e_ (h h2 ?_ (b1.trans b2))⟩;rw[l];rfl
def zi{I T a:Addr}{c:Array (Int×Value)}{d i:Nat}{e:MY}{j:Nat}{t:SetTable}{x:Int×Value}{Q:Option Value->Shared->Prop}(f:s.heap.get? I=some (gZ (.ref T) i a c.size d))(g:fB s.heap a c d t)(n:s.heap.get? T=some (kU (e.map λ(i:Nat)=>Value.int (i:Int) 0)))(p:e[i]?=some j)(q:c[j]?=some x)(r:∀h',h'.get? I=some (gZ (.ref T) (i+1) a c.size d)->Heap.SameBut I s.heap h'->Q (some x.2) {s with heap:=h'}):wpAny (model prog w) A (pyNext (.ref I)) Q E s:=by
 obtain⟨o,k,hc,hd⟩:=g.ob;have ty:s.TypeIs (.ref I) "set_iterator":=⟨_,f,rfl⟩;unfold pyNext;refine a_ (LX (oe (name:=Str.ofString "__next__") ty gO (nk gO ty jo ?_ (kr _))));unfold Builtin.«set_iterator.__next__»;refine a_ (m:=slotArgs "__next__" 0 _) (e_ ?_);refine a_ (wpAny_fieldsOf f rfl ?_);show wpAny _ _ (setEntries a>>=_) _ _ s;refine a_ (LI k hd g.fits ?_);rw[g8 (by simp)];show wpAny _ _ (seqItems? (.ref T)>>=_) _ _ s;refine a_ (so n rfl ?_);have b:(e.map λ(i:Nat)=>Value.int (i:Int) 0).toArray[(i:Int).toNat]?=some (.int (j:Nat) 0):=by rw[Mi,ge,n_,p];rfl
 show wpAny _ _ (match(e.map λ(i:Nat)=>Value.int (i:Int) 0).toArray[(i:Int).toNat]?with|some (.int h _)=>_|some _=>_|none=>_) _ _ s;rw[b];refine a_ (m:=setNextDrawn a j d) ?_;unfold setNextDrawn;refine a_ (y_ k hd g.fits ?_);dsimp only;rw[g8 (by simp)];rw[q];refine e_ ?_;refine a_ (o8 f (by simp) λh1 u b1=>?_);refine e_ ⟨_,rfl,e_ (r h1 ?_ b1)⟩;rw[u];rfl
end
end L2
namespace L2
open PySem
def fX(a:Array Nat):Prop:=∀i j:Nat,i<j->j<a.size->a.getD i 0<a.getD j 0
def D5{a:Array Nat}{i:Nat}(h:i<a.size)(d:Nat):a.getD i d=a.getD i 0:=by simp[Array.getD,h]
def fX.le(r:fX a)(h:i<=j)(c:j<a.size):a.getD i 0<=a.getD j 0:=by
 rcases L9 i j with q|q
 ·exact vr (r i j q c)
 ·have:i=j:=by lia
  rw[this];exact fx _
theorem uj{a:Array Nat}(r:fX a)(j:Nat):∀(fuel lo hi:Nat),hi-lo<=fuel->lo<=hi->hi<=a.size->(∀k,k<lo->a.getD k 0<j)->(∀k,hi<=k->k<a.size->¬a.getD k 0<j)->SetTable.below.go a j fuel lo hi<=a.size/\(∀k,k<SetTable.below.go a j fuel lo hi->a.getD k 0<j)/\(∀k,SetTable.below.go a j fuel lo hi<=k->k<a.size->¬a.getD k 0<j)
 |0,lo,hi,g,h,c,h1,h2=>by
  unfold SetTable.below.go;have:lo=hi:=by lia
  subst this;exact⟨c,h1,h2⟩|fuel+1,lo,hi,g,h,c,h1,h2=>by
  unfold SetTable.below.go
  by_cases b:lo<hi
  ·rw[hQ b];have hm:(lo+hi)/2<a.size:=by lia
   dsimp only;rw[D5 hm j]
   by_cases d:a.getD ((lo+hi)/2) 0<j
   ·rw[hQ d];exact uj r j fuel _ _ (by lia) (by lia) c (λk f=>LM (r.le (by lia) hm) d) h2
   ·rw[g8 d];exact uj r j fuel _ _ (by lia) (by lia) (by lia) h1 (λk f e q=>d (LM (r.le f e) q))
  ·rw[g8 b];have:lo=hi:=by lia
   subst this;exact⟨c,h1,h2⟩
def qp(r:fX a)(j:Nat):SetTable.below a j<=a.size/\(∀k,k<SetTable.below a j->a.getD k 0<j)/\(∀k,SetTable.below a j<=k->k<a.size->¬a.getD k 0<j):=uj r j a.size 0 a.size (by lia) (kw _) (fx _) (λk b=>absurd b (MK _)) (λk h1 h2=>absurd h2 (by lia))
def CF(a:Array Nat):Nat->Nat|0=>0|i+1=>a.getD i 0+1
def ui(r:fX a):∀{i:Nat},i<=a.size->SetTable.below a (CF a i)=i
 |0,_=>by
  obtain⟨h1,h2,h3⟩:=qp r 0;rcases Nat.eq_zero_or_pos (SetTable.below a 0)with q|q
  ·exact q
  ·exact absurd (h2 0 q) (MK _)|i+1,hi=>by
  obtain⟨h1,h2,h3⟩:=qp r (a.getD i 0+1);show SetTable.below a (a.getD i 0+1)=i+1;rcases Nat.lt_trichotomy (SetTable.below a (a.getD i 0+1)) (i+1)with q|q|q
  ·exact absurd (ro _) (h3 i (by lia) (by lia))
  ·exact q
  ·have:=h2 (i+1) q;have:=r i (i+1) (ro _) (by lia);lia
def fX.few{a:Array Nat}(h:a.size<=1):fX a:=λi j h1 h2=>by lia
section
variable{prog:MU}{w:World}{A:Around}{E:MQ}{s:Shared}
def nS(c:fB s.heap a g d t)(f:w.params.followText "set-order"=true)(h:Q (((pickOrder (w.params.setOrder a d) g)[i]?).map λe=>(e.2,slot)) s):wpAny (model prog w) A (setNext a slot i d) Q E s:=by obtain⟨o,b,hc,hd⟩:=c.ob;unfold setNext;refine a_ (y_ b hd c.fits ?_);dsimp only;refine a_ (m:=setsByText) (a_ (B_ (e_ ?_)));show wpAny _ _ (if(w.params.followText "set-order")=true then _ else _) _ _ s;rw[hQ f,g8 (by simp)];refine a_ (m:=setWalk a) ?_;unfold setWalk;refine a_ (y_ b hd c.fits ?_);dsimp only;refine a_ (m:=setsByText) (a_ (B_ (e_ ?_)));show wpAny _ _ (if(w.params.followText "set-order")=true then _ else _) _ _ s;rw[hQ f];refine a_ (B_ (e_ ?_));exact e_ h
def nU(d:fB s.heap a c e t)(f:w.params.followText "set-order"=false)(g:(!t.plain&&decide (c.size>1))=false)(l:t.led=true)(h:Q (match c[SetTable.below t.place slot]?,t.place[SetTable.below t.place slot]?with|some (_,x),some j=>some (x,j+1)|_,_=>none) s):wpAny (model prog w) A (setNext a slot i e) Q E s:=by obtain⟨o,b,hc,hd⟩:=d.ob;unfold setNext;refine a_ (y_ b hd d.fits ?_);dsimp only;refine a_ (m:=setsByText) (a_ (B_ (e_ ?_)));show wpAny _ _ (if(w.params.followText "set-order")=true then _ else _) _ _ s;rw[g8 (by rw[f];exact h_)];show wpAny _ _ (if(!t.plain&&decide (c.size>1))=true then _ else _) _ _ s;rw[g8 (by rw[g];exact h_)];refine a_ ?_;show wpAny _ _ (if(!t.led&&!c.isEmpty)=true then _ else _) _ _ s;rw[g8 (by rw[l];simp)];exact e_ (e_ h)
def ye(hh:A.handled=none)(f:s.heap.get? I=some (gZ first i a q.size g))(l:fB s.heap a q g t)(hn:(∃slot:Nat,first=.int slot 0/\∀(A:Around)(n:Option (Value×Nat)->Shared->Prop)(E:MQ),n none s->wpAny (model prog w) A (setNext a slot i g) n E s)\/∃(T:Addr)(d:MY),first=.ref T/\s.heap.get? T=some (kU (d.map λ(i:Nat)=>Value.int (i:Int) 0))/\d[i]?=none)(r:∀h',(∀b o,b≠I->s.heap.get? b=some o->h'.get? b=some o)->Q none {s with heap:=h'}):wpAny (model prog w) A (pyNext (.ref I)) Q E s:=by
 obtain⟨o,u,hc,hd⟩:=l.ob;have ty:s.TypeIs (.ref I) "set_iterator":=⟨_,f,rfl⟩;have fin:∀(R:Fin->Shared->Prop)(h1:Heap),(∀b o,b≠I->s.heap.get? b=some o->h1.get? b=some o)->wpAny (model prog w) A.in1 (newExc (.type "StopIteration") []>>=λe=>raiseNew e:Sem Fin) R (λe v=>wpAny (model prog w) A (do if<-isInstance e (.type "StopIteration")then pure none else throw e) Q E v) {s with heap:=h1}:=by intro R h1 x;refine a_ ?_;simp only[newExc,newTuple];refine a_ (np ?_ (by size_fits));refine a_ (m:=firstArgMember _ _) (wpAny_of_eq (a:=Value.none) (by first|rfl|(simp only[firstArgMember];rfl)) ?_);refine np ?_ (by size_fits);simp only[raiseNew];refine a_ (wpAny_handled ?_);rw[show A.in1.handled=none from hh];refine a_ (e_ (wpAny_throw ?_));refine a_ (L1 (T:="StopIteration") (b:=true) ⟨_,f_ _ rfl,rfl⟩ isSubtype_stop ?_);exact e_ (r _ λb o c e=>c_ _ (c_ _ (x b o c e)))
 unfold pyNext;refine a_ (LX (oe (name:=Str.ofString "__next__") ty gO (nk gO ty jo ?_ (kr _))));unfold Builtin.«set_iterator.__next__»;refine a_ (m:=slotArgs "__next__" 0 _) (e_ ?_);refine a_ (wpAny_fieldsOf f rfl ?_);show wpAny _ _ (setEntries a>>=_) _ _ s;refine a_ (LI u hd l.fits ?_);rw[g8 (by simp)];rcases hn with⟨slot,rfl,hn⟩|⟨T,d,rfl,y,z⟩
 ·refine a_ (m:=setNext a slot i g) (hn _ _ _ ?_);refine a_ (o8 f (by simp) λh1 p b1=>?_);exact fin _ h1 λb o c e=>(b1.2 b c).trans e
 ·show wpAny _ _ (seqItems? (.ref T)>>=_) _ _ s;refine a_ (so y rfl ?_);have h:(d.map λ(i:Nat)=>Value.int (i:Int) 0).toArray[(i:Int).toNat]?=none:=by rw[Mi,ge,n_,z];rfl
  show wpAny _ _ (match(d.map λ(i:Nat)=>Value.int (i:Int) 0).toArray[(i:Int).toNat]?with|some (.int j _)=>_|some _=>_|none=>_) _ _ s;rw[h];refine a_ (o8 f (by simp) λh1 p b1=>?_);refine a_ (o8 (s:={s with heap:=h1}) p (by simp) λh2 B b2=>?_);exact fin _ h2 λb o c e=>(b2.2 b c).trans ((b1.2 b c).trans e)
def BX(hh:A.handled=none)(M:fB s.heap a c g t)(hn:c.size<=sizeLine)(hl:w.params.followText "set-order"=false->t.led=true)(hr:t.plain=true->fX t.place)(h:∀(I:Addr)(h':Heap)(T:Drawn)(f:List (Int×Value))(fp:MZ)(St:Nat->Heap->Prop),f.Perm c.toList->(∀b o,s.heap.get? b=some o->h'.get? b=some o)->s.heap.objs.size<=I->I<h'.objs.size->(∀b∈fp,b=a\/s.heap.objs.size<=b)->Walks prog w A I fp [I] c.size (λi v=>∃x,f[i]?=some x/\v=x.2) St->St 0 h'->Q (.ref I) {s with heap:=h',drawn:=T}):wpAny (model prog w) A (pyIter (.ref a)) Q E s:=by
 have ha:a<s.heap.objs.size:=let⟨o,e,_⟩:=M.ob;hH e;have U:t.place.size=c.size:=by have:=M.fits;unfold SetTable.fits at this;simp only[lm,beq_iff_eq]at this;exact this.1
 refine DS M hn (λhc=>?_) (λhc u T L=>?_)
 ·--by slots
  have N:∀b o,s.heap.get? b=some o->(s.heap.push (gZ (.int 0 0) 0 a c.size g)).get? b=some o:=λb o e=>c_ _ e;have hg:(s.heap.push (gZ (.int 0 0) 0 a c.size g)).get? s.heap.objs.size=some (gZ (.int 0 0) 0 a c.size g):=f_ _ rfl;have V:s.heap.objs.size<(s.heap.push (gZ (.int 0 0) 0 a c.size g)).objs.size:=by rw[m3];exact ro _
  have H:a≠s.heap.objs.size:=iA ha;have C:∀(first:Nat->Nat)(f:List (Int×Value)),first 0=0->f.Perm c.toList->(∀(i:Nat)(d:Shared)(x:Int×Value),f[i]?=some x->fB d.heap a c g t->∀(A:Around)(D:Option (Value×Nat)->Shared->Prop)(E:MQ),D (some (x.2,first (i+1))) d->wpAny (model prog w) A (setNext a (first i) i g) D E d)->(∀(d:Shared),fB d.heap a c g t->∀(A:Around)(D:Option (Value×Nat)->Shared->Prop)(E:MQ),D none d->wpAny (model prog w) A (setNext a (first c.size) c.size g) D E d)->Q (.ref s.heap.objs.size) {s with heap:=s.heap.push (gZ (.int 0 0) 0 a c.size g)}:=by
   intro first f f0 L hi hd;have W:f.length=c.size:=by rw[L.length_eq,kt]
   refine h s.heap.objs.size _ s.drawn f [s.heap.objs.size,a] (λi h'=>h'.get? s.heap.objs.size=some (gZ (.int (first i) 0) i a c.size g)/\fB h' a c g t) L N (fx _) V ?_ ?_ ?_
   ·intro b m;simp only[o_,nn,z4]at m;rcases m with rfl|rfl
    ·exact .inr (fx _)
    ·exact .inl rfl
   ·refine{sub:=λb m=>?_,frame:=λi h1 h2 st k=>?_,item:=λi d O P X st q=>?_,done:=λd O P st q=>?_,self:=λi d O P st q=>?_}
    ·rw[List.mem_singleton.mp m];exact ir
    ·exact⟨k _ ir _ st.1,st.2.keep λo e=>k _ (hY _ ir) _ e⟩
    ·obtain⟨x,p⟩:∃x,f[i]?=some x:=⟨f[i]'(by lia),fy (by lia)⟩;refine Bm (nx:=first (i+1)) st.1 st.2 (hi i d x p st.2) λh2 Y b2=>?_;exact q x.2 h2 d.toks ⟨x,p,rfl⟩ ⟨Y,st.2.keep λo e=>(b2.2 _ H).trans e⟩ λb o m e=>(b2.2 b λz=>m (by rw[z];exact List.mem_singleton.mpr rfl)).trans e
    ·refine ye hh st.1 st.2 (.inl ⟨_,rfl,hd d st.2⟩) λh2 Z=>?_;exact q h2 d.toks λb o m e=>Z b o (λz=>m (by rw[z];exact List.mem_singleton.mpr rfl)) e
    ·have ty:d.TypeIs (.ref s.heap.objs.size) "set_iterator":=⟨_,st.1,rfl⟩;refine Mw ty rK (nk rK ty mI ?_ (nQ _));exact e_ ⟨_,rfl,"set_iterator",_,ty,gO.lookup,q⟩
   ·rw[f0];exact⟨hg,M.keep λo e=>N _ _ e⟩
  cases J:w.params.followText "set-order"with
 |true=>
   have W:(pickOrder (w.params.setOrder a g) c).toList.length=c.size:=by rw[(vx _ _).length_eq,kt]
   refine C (λ_=>0) (pickOrder (w.params.setOrder a g) c).toList rfl (vx _ _) (λi d x p B A D E q=>?_) (λd B A D E q=>?_)
   ·refine nS B J ?_;have p:(pickOrder (w.params.setOrder a g) c)[i]?=some x:=by rw[<-si];exact p
    rw[p];exact q
   ·refine nS B J ?_;have p:(pickOrder (w.params.setOrder a g) c)[c.size]?=none:=by rw[<-si];exact Es.mpr (by lia)
    rw[p];exact q|false=>
   have F:(!t.plain&&decide (c.size>1))=false:=by rw[J]at hc;simpa using hc
   have rs:fX t.place:=by cases G:t.plain with|true=>exact hr G|false=>rw[G]at F;refine fX.few ?_;rw[U];simpa using F
   refine C (CF t.place) c.toList rfl (Mn _) (λi d x p B A D E q=>?_) (λd B A D E q=>?_)
   ·have p:c[i]?=some x:=by rw[<-si];exact p
    have hi:i<c.size:=(Array.getElem?_eq_some_iff.mp p).1;refine nU B J F (hl J) ?_;rw[ui rs (by lia),p];have G:t.place[i]?=some (t.place.getD i 0):=by rw[r3 (by lia)];simp[Array.getD,show i<t.place.size by lia]
    rw[G];exact q
   ·refine nU B J F (hl J) ?_;rw[ui rs (by lia)];rw[show c[c.size]?=none from Array.getElem?_eq_none (fx _)];exact q
 ·--drawn
  have aa:(s.heap.push (kU (u.map λ(i:Nat)=>Value.int (i:Int) 0))).get? s.heap.objs.size=some (kU (u.map λ(i:Nat)=>Value.int (i:Int) 0)):=f_ _ rfl;have hz:(s.heap.push (kU (u.map λ(i:Nat)=>Value.int (i:Int) 0))).objs.size=s.heap.objs.size+1:=m3 ..;have N:∀b o,s.heap.get? b=some o->((s.heap.push (kU (u.map λ(i:Nat)=>Value.int (i:Int) 0))).push (gZ (.ref s.heap.objs.size) 0 a c.size g)).get? b=some o:=λb o e=>c_ _ (c_ _ e);have hg:((s.heap.push (kU (u.map λ(i:Nat)=>Value.int (i:Int) 0))).push (gZ (.ref s.heap.objs.size) 0 a c.size g)).get? (s.heap.objs.size+1)=some (gZ (.ref s.heap.objs.size) 0 a c.size g):=by rw[<-hz];exact f_ _ rfl
  have al:u.length=c.size:=by rw[L.length_eq,n7]
  have R:∀(i j:Nat),u[i]?=some j->j<c.size:=λi j q=>by have:=L.mem_iff.mp (ga q);exact q_.mp this
  refine h (s.heap.objs.size+1) _ T (u.filterMap λj=>c[j]?) [s.heap.objs.size+1,a,s.heap.objs.size] (λi h'=>h'.get? (s.heap.objs.size+1)=some (gZ (.ref s.heap.objs.size) i a c.size g)/\fB h' a c g t/\h'.get? s.heap.objs.size=some (kU (u.map λ(i:Nat)=>Value.int (i:Int) 0))) ?_ N (qq _) ?_ ?_ ?_ ?_
  ·have:=L.filterMap (λj=>c[j]?);rw[filterMap_getElem?_range]at this;exact this
  ·rw[m3,hz];exact ro _
  ·intro b m;simp only[o_,nn,z4]at m;rcases m with rfl|rfl|rfl
   ·exact .inr (qq _)
   ·exact .inl rfl
   ·exact .inr (fx _)
  ·have H:a≠s.heap.objs.size+1:=iA (u_ ha);have S:∀(i:Nat)(j:Nat)(x:Int×Value),u[i]?=some j->c[j]?=some x->(u.filterMap λj=>c[j]?)[i]?=some x:=by
    have gen:∀(l:MY),(∀j∈l,j<c.size)->∀(i j:Nat)(x:Int×Value),l[i]?=some j->c[j]?=some x->(l.filterMap λj=>c[j]?)[i]?=some x:=by
     intro l
     induction l with|nil=>intro _ i j x hi _;simp at hi|cons y r ih=>intro m i j x hi p;have hy:c[y]?=some (c[y]'(m y ir)):=r3 _;rw[List.filterMap_cons_some hy];cases i with|zero=>simp only[List.getElem?_cons_zero,LR]at hi⊢;subst hi;rw[hy]at p;exact kl p|succ i=>simp only[List.getElem?_cons_succ]at hi⊢;exact ih (λj K=>m j (hY _ K)) i j x hi p
    intro i j x h1 h2;refine gen u (λj K=>?_) i j x h1 h2;obtain⟨n,hn⟩:=ji.mp K;exact R n j hn
   refine{sub:=λb m=>?_,frame:=λi h1 h2 st k=>?_,item:=λi d O P X st q=>?_,done:=λd O P st q=>?_,self:=λi d O P st q=>?_}
   ·rw[List.mem_singleton.mp m];exact ir
   ·exact⟨k _ ir _ st.1,st.2.1.keep λo e=>k _ (hY _ ir) _ e,k _ (hY _ (hY _ ir)) _ st.2.2⟩
   ·obtain⟨j,K⟩:∃j,u[i]?=some j:=⟨u[i]'(by lia),fy (by lia)⟩;have ad:=R i j K;have p:c[j]?=some (c[j]'ad):=r3 _;refine zi st.1 st.2.1 st.2.2 K p λh2 Y b2=>?_;exact q _ h2 d.toks ⟨_,S i j _ K p,rfl⟩ ⟨Y,st.2.1.keep λo e=>(b2.2 _ H).trans e,(b2.2 _ (iA (ro _))).trans st.2.2⟩ λb o m e=>(b2.2 b λz=>m (by rw[z];exact List.mem_singleton.mpr rfl)).trans e
   ·refine ye hh st.1 st.2.1 (.inr ⟨_,u,rfl,st.2.2,Es.mpr (by lia)⟩) λh2 Z=>?_;exact q h2 d.toks λb o m e=>Z b o (λz=>m (by rw[z];exact List.mem_singleton.mpr rfl)) e
   ·have ty:d.TypeIs (.ref (s.heap.objs.size+1)) "set_iterator":=⟨_,st.1,rfl⟩;refine Mw ty rK (nk rK ty mI ?_ (nQ _));exact e_ ⟨_,rfl,"set_iterator",_,ty,gO.lookup,q⟩
  ·exact⟨hg,M.keep λo e=>N _ _ e,c_ _ aa⟩
end
end L2
namespace L2
open PySem
section
variable{prog:MU}{w:World}{A:Around}{E:MQ}{s:Shared}
def DY(ty:s.TypeIs (.ref a) "set")(h:Q false s):wpAny (model prog w) A (Builtin.List.listLengthHint (.ref a)) Q E s:=by
 unfold Builtin.List.listLengthHint;refine a_ (Ma ty F.slot_set_len.lookup ?_);generalize c:("set.__len__":String)=nm
 wp_delta
 rw[show splitId nm=some ("set","__len__")from by subst c;decide+kernel];subst c;refine a_ (L1 (T:="set") (b:=true) ty (by rw[Ml];kernel_rfl) ?_);refine rd (λz=>absurd z (by decide)) (λ_=>?_);refine rd (λ_=>?_) (λz=>absurd (by decide+kernel) z);exact a_ (Mv ty (e_ h))
def yD(hh:A.handled=none)(X:fB s.heap a l ep t)(hn:l.size<=sizeLine)(hl:w.params.followText "set-order"=false->t.led=true)(p:t.plain=true->fX t.place)(h:∀(h':Heap)(d':Drawn)(tk:Nat)(Z:MT),Z.Perm (l.toList.map (·.2))->(∀b o,s.heap.get? b=some o->h'.get? b=some o)->s.heap.objs.size<=h'.objs.size->R Z {s with heap:=h',drawn:=d',toks:=tk}):wpAny (model prog w) A (collect (.ref a)) R E s:=by
 have M:a<s.heap.objs.size:=let⟨o,e,_⟩:=X.ob;hH e;unfold collect;refine a_ (wpAny_runValue (E_ F.entry_proto_collect ?_));rw[A_ F.plain_proto_collect _];refine a_ (m:=newList []) (np ?_);refine e_ ⟨Lz F.plain_list_iadd _,E_ F.entry_list_iadd ?_⟩;rw[A_ F.plain_list_iadd _];have V:(s.heap.push {cls:=.type "list",data:=.seq ([]:MT).toArray}).get? s.heap.objs.size=some {cls:=.type "list",data:=.seq #[]}:=f_ _ rfl;have g:fB (s.heap.push {cls:=.type "list",data:=.seq ([]:MT).toArray}) a l ep t:=X.keep λo e=>c_ _ e;have j:(s.heap.push {cls:=.type "list",data:=.seq ([]:MT).toArray}).objs.size=s.heap.objs.size+1:=m3 ..;have N:∀b o,s.heap.get? b=some o->(s.heap.push {cls:=.type "list",data:=.seq ([]:MT).toArray}).get? b=some o:=λb o e=>c_ _ e;generalize s.heap.push {cls:=.type "list",data:=.seq ([]:MT).toArray}=h0 at V g j N⊢;show wpAny _ A.in1 (Builtin.List.listExtendWith (.ref s.heap.objs.size) (.ref a) (.ref s.heap.objs.size)) _ _ {s with heap:=h0};unfold Builtin.List.listExtendWith;refine a_ (Mv (T:="set") (s:={s with heap:=h0}) g.ty ?_);have ne:Builtin.List.listSameRef (.ref s.heap.objs.size) (.ref a)=false:=by simp[Builtin.List.listSameRef,md M]
 rw[g8 (by rw[ne];decide)];refine a_ (BX (s:={s with heap:=h0}) (A:=A.in1) hh g hn hl p λI h1 n u fp St Y J hI ad y W st=>?_);refine a_ (m_ (DY (s:={s with heap:=h1,drawn:=n}) (g.keep λo e=>J _ _ e).ty ?_));have O:=J _ _ V;have aa:u.length=l.size:=by rw[Y.length_eq,kt]
 have k:∀(h2:Heap)(c:Nat),St 0 h2->(∀b o,s.heap.get? b=some o->h2.get? b=some o)->h2.get? s.heap.objs.size=some {cls:=.type "list",dict:=none,data:=.seq #[] c,slots:=#[]}->codeAny (model prog w) A (.builtin "list.extend.loop" ⟨[.ref s.heap.objs.size,.ref I,.ref s.heap.objs.size],[]⟩) (λr B=>∃v,r=.ok (.ret v)/\v=.ref s.heap.objs.size/\∃(h':Heap)(tk:Nat)(f:MX)(C:Nat),B={s with heap:=h',drawn:=n,toks:=tk}/\(∀b o,s.heap.get? b=some o->h'.get? b=some o)/\h'.get? s.heap.objs.size=some {cls:=.type "list",dict:=none,data:=.seq f C,slots:=#[]}/\f.toList.Perm (l.toList.map (·.2))) {s with heap:=h2,drawn:=n}:=by
  intro h2 c P k2 K;refine codeAny_extend_loopS W.toS hn s.heap.objs.size (λhm=>?_) _ l.size 0 _ #[] c rfl (kw _) P K (ItemsOf.nil _) λB d C L g' it=>?_
  ·rcases y _ hm with e|e
   ·exact absurd e (md M)
   ·have:h0.objs.size<=s.heap.objs.size:=e;rw[j]at this;exact absurd this (Nat.not_succ_le_self _)
  ·obtain⟨h3,Q,d3,t3,o3⟩:=B;obtain rfl:Q=s.gens:=L.gens;obtain rfl:d3=n:=L.drawn;obtain rfl:o3=s.os:=L.os;refine⟨_,rfl,rfl,h3,t3,d,C,rfl,λb o e=>?_,g',?_⟩
   ·refine L.heap b o (λhm=>?_) (k2 b o e);have D:b<s.heap.objs.size:=hH e;rcases o_.mp hm with z|z
    ·exact absurd z (iA D)
    ·rw[List.mem_singleton.mp z]at D;have:h0.objs.size<=I:=hI;rw[j]at this;exact absurd (u1 D (Nat.lt_of_succ_le this)) (ot _)
   ·have e1:d.toList=u.map (·.2):=by refine th λi=>?_;rw[ge,si];cases q:d[i]?with|some v=>obtain⟨x,hx,rfl⟩:=it.2 i v q;rw[hx];rfl|none=>have:d.size<=i:=Array.getElem?_eq_none_iff.mp q;rw[it.1]at this;rw[l_ (by lia)];rfl
    rw[e1];exact Y.map _
 refine rd (λ_=>?_) (λ_=>e_ ⟨Lz F.plain_extend_loop _,x_ (k h1 0 st (λb o e=>J _ _ (N _ _ e)) O) λr B p=>?_⟩)
 case refine_2=>obtain⟨v,rfl,rfl,h',tk,f,C,rfl,S,G,U⟩:=p;exact a_ (wpAny_load G (e_ (h h' n tk f.toList U S (vr (hH G)))))
 refine a_ (tw (a_ ?_));show wpAny _ _ (updateSeq s.heap.objs.size (·.push .none)>>=λ_=>updateSeq s.heap.objs.size (·.pop)) _ _ _;refine a_ (MJ O rfl ?_);have K:=qx (Obj.mapSeq (·.push Value.none)) O rfl;refine MJ (hz:=by seq_fits) K rfl ?_;have Q:=qx (Obj.mapSeq (·.pop)) K rfl;refine e_ ⟨Lz F.plain_extend_loop _,x_ (k _ _ (W.frame 0 _ _ st λb D o e=>?_) (λb o e=>?_) Q) λr B p=>?_⟩
 ·have H:b≠s.heap.objs.size:=λz=>by
   rcases y _ D with q|q
   ·exact absurd (z.symm.trans q) (md M)
   ·have:h0.objs.size<=b:=q;rw[j,z]at this;exact absurd this (Nat.not_succ_le_self _)
  exact(rr _ _ (mu H)).trans ((rr _ _ (mu H)).trans e)
 ·have H:b≠s.heap.objs.size:=iA (hH e);exact(rr _ _ (mu H)).trans ((rr _ _ (mu H)).trans (J _ _ (N _ _ e)))
 ·obtain⟨v,rfl,rfl,h',tk,f,C,rfl,S,G,U⟩:=p;exact a_ (wpAny_load G (e_ (h h' n tk f.toList U S (vr (hH G)))))
end
end L2
namespace L2
open PySem
structure qu(led:Bool)(t:SetTable):Prop where
 led:t.led=led
 up:t.plain=true->fX t.place
def qu.off{led:Bool}{t:SetTable}(x:qu led t):qu led {t with plain:=false}:=⟨x.led,λh=>by cases h⟩
def Dj{t:SetTable}{j:Nat}(h:t.slot j=.empty\/t.slot j=.dummy):t.place[SetTable.below t.place j]?≠some j:=by intro e;unfold SetTable.slot at h;dsimp only at h;rw[hQ (by rw[e];simp)]at h;rcases h with h|h<;>cases h
theorem nK:∀(fuel:Nat)(p:SetTable.Probe)(j:Nat)(d:Option Nat),(∀x,p.dummy=some x->t.slot x=.dummy)->SetTable.probe.go t l h fuel p=some (.empty j d)->t.slot j=.empty/\∀x,d=some x->t.slot x=.dummy|0,p,j,d,c,e=>by unfold SetTable.probe.go at e;cases e|fuel+1,p,j,d,c,e=>by unfold SetTable.probe.go at e;cases a:t.slot p.j with
 |empty=>rw[a]at e;injection e with e;injection e with f g;subst f;subst g;exact⟨a,c⟩|dummy=>
   rw[a]at e;refine nK fuel _ j d (λx b=>?_) e;have:(t.advance {p with dummy:=some p.j}).dummy=some p.j:=by
    unfold SetTable.advance
    split<;>rfl
   rw[this]at b;cases b;exact a|live i=>
   rw[a]at e;dsimp only at e
   split at e
   ·cases e
   ·refine nK fuel _ j d (λx b=>c x ?_) e;have:(t.advance p).dummy=p.dummy:=by
     unfold SetTable.advance
     split<;>rfl
    rw[this]at b;exact b
def BA{t:SetTable}{h:Int}{sl:Nat}{wd:Bool}(e:t.freeSlot h=some (sl,wd)):t.place[SetTable.below t.place sl]?≠some sl:=by unfold SetTable.freeSlot at e;cases a:t.probe (λ_=>h+1) h (t.probeStart h)with|none=>rw[a]at e;cases e|some m=>rw[a]at e;cases m with|candidate _ _ _=>cases e|empty j d=>have:=nK (10*SetTable.turns t.mask) (t.probeStart h) j d (λx b=>by cases b) a;injection e with e;injection e with c f;subst c;refine Dj ?_;cases d with|none=>exact .inl this.1|some x=>exact .inr (this.2 x rfl)
def gd(a:Array Nat)(i:Nat):a.getD i 0=(a.toList[i]?).getD 0:=by rw[si,Array.getD_eq_getD_getElem?]
def y7{l:MY}(h:l.Pairwise (·<·)):fX l.toArray:=by intro i j a b;rw[ig]at b;have:=List.pairwise_iff_getElem.mp h i j (by lia) b a;rw[gd,gd];show(l[i]?).getD 0<(l[j]?).getD 0;rw[fy b,fy (show i<l.length by lia)];exact this
def yr(c:p<=a.size):(SetTable.insertAt a p x).getD k 0=if k<p then a.getD k 0 else if k=p then x else if k<a.size+1 then a.getD (k-1) 0 else 0:=by
 have e:(SetTable.insertAt a p x).toList=a.toList.take p++x::a.toList.drop p:=by rw[SetTable.toList_insertAt]
 rw[gd,e];have b:(a.toList.take p).length=p:=by rw[i_,kt];lia
 by_cases h1:k<p
 ·rw[hQ h1,rV (by lia),List.getElem?_take,hQ h1,gd]
 ·rw[g8 h1,z8 (by lia),b]
  by_cases h2:k=p
  ·rw[hQ h2,h2,Nat.sub_self];rfl
  ·rw[g8 h2];obtain⟨m,rfl⟩:∃m,k=p+(m+1):=⟨k-p-1,by lia⟩;rw[show p+(m+1)-p=m+1 by lia,List.getElem?_cons_succ,Mr]
   by_cases h3:p+(m+1)<a.size+1
   ·rw[hQ h3,gd,show p+(m+1)-1=p+m by lia]
   ·rw[g8 h3,l_ (by rw[kt];lia)];rfl
def DU(c:p<=a.size):(SetTable.insertAt a p x).size=a.size+1:=by rw[<-kt,(SetTable.insertAt_perm a p x).length_eq,kt,Array.size_push]
def Ba{t:SetTable}{sl:Nat}(r:fX t.place)(h:t.place[SetTable.below t.place sl]?≠some sl):fX (t.put sl).1.place:=by
 obtain⟨b1,b2,b3⟩:=qp r sl;show fX (SetTable.insertAt t.place (SetTable.below t.place sl) sl);generalize SetTable.below t.place sl=p at h b1 b2 b3;have b4:∀k,p<=k->k<t.place.size->sl<t.place.getD k 0:=by
  intro k d a;have e:t.place[p]?=some (t.place.getD p 0):=by rw[r3 (by lia)];simp[Array.getD,show p<t.place.size by lia]
  have f:t.place.getD p 0≠sl:=λz=>h (by rw[e,z]);have h1:=b3 p (fx _) (by lia);have h2:=r.le d a;lia
 intro i j b c;rw[DU b1]at c;rw[yr b1,yr b1]
 by_cases h1:j<p
 ·rw[hQ (by lia),hQ h1];exact r i j b (by lia)
 ·rw[g8 h1]
  by_cases h2:j=p
  ·rw[hQ h2,hQ (by lia)];exact b2 i (by lia)
  ·rw[g8 h2,hQ c]
   by_cases h3:i<p
   ·rw[hQ h3];have:=b2 i h3;have:=b4 (j-1) (by lia) (by lia);lia
   ·rw[g8 h3]
    by_cases h4:i=p
    ·rw[hQ h4];exact b4 (j-1) (by lia) (by lia)
    ·rw[g8 h4,hQ (by lia)];exact r (i-1) (j-1) (by lia) (by lia)
def qu.lay{led:Bool}{t:SetTable}(x:qu led t)(c:Array (Int×Value))(h:Int)(v:Value):qu led (layNew t c h v).2.1:=by
 refine⟨(He t c h v).1.trans x.led,?_⟩;unfold layNew
 split
 ·rename_i sl wd e;intro a;dsimp only at a⊢;unfold SetTable.orStandIn at a⊢
  split
  ·rename_i b;rw[hQ b]at a;exact Ba (x.up a) (BA e)
  ·rename_i b;rw[g8 b]at a;cases a
 ·intro a;cases a
def qu.relay{led:Bool}{t:SetTable}(x:qu led t)(f:Array (Int×Value))(n:Nat):qu led (relayAll t f n).2.1:=by
 refine⟨(B5 t f n).1.trans x.led,?_⟩;unfold relayAll
 split
 ·rename_i m o e;dsimp only
  split
  ·intro _;unfold SetTable.relaid SetTable.laid at e;cases hc:SetTable.layClean (SetTable.sizeAbove n-1) (f.map (·.1))with|none=>rw[hc]at e;cases e|some ow=>
    rw[hc]at e;cases e;show fX ((((List.range (SetTable.sizeAbove n-1+1)).filterMap λj=>(ow.getD j none).map (j,·)).map (·.1)).toArray);have l:(((List.range (SetTable.sizeAbove n-1+1)).filterMap λj=>(ow.getD j none).map (j,·)).map (·.1)).Pairwise (·<·):=by rw[List.map_filterMap];refine List.Pairwise.filterMap _ (R:=(·<·)) (S:=(·<·)) ?_ List.pairwise_lt_range;intro a b g x c y d;cases i:ow.getD a none with|none=>rw[i]at c;cases c|some v=>cases k:ow.getD b none with|none=>rw[k]at d;cases d|some u=>rw[i]at c;rw[k]at d;cases c;cases d;exact g
    exact y7 l
  ·intro h;cases h
 ·intro h;cases h
end L2
namespace L2
open PySem
section
variable{prog:MU}{w:World}{c:Type}[DecidableEq c](knd:PySem.KeyKind prog w c)(kOf:Value->c)
structure jn(led:Bool)(h:Heap)(a:Addr)(ks:List c):Prop where ex:∃o es ep t,h.get? a=some o/\o.ExactSet/\o.data=.set es ep t/\ElemsOf knd es.toList/\(es.toList.map λe=>kOf e.2).Perm ks/\es.size<scanBound/\t.fits es.size=true/\qu led t
variable{knd kOf}
def jn.keep(x:jn knd kOf led h a d)(k:∀o,h.get? a=some o->h'.get? a=some o):jn knd kOf led h' a d:=by obtain⟨o,b,f,t,e,r⟩:=x.ex;exact⟨o,b,f,t,k o e,r⟩
variable{A:Around}{E:MQ}{s:Shared}
def Dz(f:∀k v,knd.is k v=true->kOf v=k)(d:ElemsOf knd g)(h:(g.map λe=>kOf e.2).Perm i)(k:c):k∈i↔∃e∈g,knd.is k e.2=true:=by
 rw[<-h.mem_iff,j_]
 constructor
 ·rintro⟨e,a,rfl⟩;obtain⟨⟨b,h1,_⟩,_⟩:=d e a;refine⟨e,a,?_⟩;rw[f b e.2 h1];exact h1
 ·rintro⟨e,a,h1⟩;exact⟨e,a,f k e.2 h1⟩
def se{led:Bool}{h:Heap}{a:Addr}{o:Obj}{m d:Array (Int×Value)}{i:Nat}{t f:SetTable}{ks:List c}(n:h.get? a=some o)(j:o.ExactSet)(hd:o.data=.set m i t)(l:ElemsOf knd d.toList)(p:(d.toList.map λe=>kOf e.2).Perm ks)(r:d.size<scanBound)(u:f.fits d.size=true)(v:qu led f):(h.update a (Obj.putSet d f)).get? a=some {o with data:=.set d (i+1) f}/\jn knd kOf led (h.update a (Obj.putSet d f)) a ks:=by
 have g:(h.update a (Obj.putSet d f)).get? a=some {o with data:=.set d (i+1) f}:=by
  have q:=qx (Obj.putSet d f) n (by rw[putSet_of d f hd];rfl)
  rwa[putSet_of d f hd]at q
 exact⟨g,_,d,i+1,f,g,j,rfl,l,p,r,u,v⟩
def Ez{led:Bool}{a:Addr}{f:List c}{k:c}{x:Value}{Q:Bool->Shared->Prop}(Z:∀k v,knd.is k v=true->kOf v=k)(i:knd.is k x=true)(y:x.scannable=true)(hS:jn knd kOf led s.heap a f)(G:f.length+1<scanBound)(h:∀h' b,Heap.SameBut a s.heap h'->jn knd kOf led h' a (if k∈f then f else f++[k])->Q b {s with heap:=h'}):wpAny (model prog w) A (setAddHashed a x (knd.hash k)) Q E s:=by
 obtain⟨o,D,ep,t,P,H,hd,m,R,hb,hf,ti⟩:=hS.ex;have hn:D.size=f.length:=by rw[<-R.length_eq,b_,kt]
 have p:=Dz Z m R;unfold setAddHashed setAddHashedIn;refine m_ (a_ (y_ P hd hf ?_));dsimp only;rw[byScan_of y hb m,hQ rfl];unfold setAddByScan;refine a_ (a_ (tw (a_ (wpAny_setScan_of i P hd hf m ?_))));cases hr:List.findIdx? (λe=>knd.is k e.2) D.toList with|some j=>obtain⟨hj,S,_⟩:=List.findIdx?_eq_some_iff_getElem.mp hr;have B:k∈f:=(p k).mpr ⟨_,Ly hj,S⟩;refine e_ (e_ ?_);have q:=h s.heap false (Heap.SameBut.refl a s.heap);rw[hQ B]at q;exact q hS|none=>
  have B:k∉f:=λz=>by obtain⟨e,he,h1⟩:=(p k).mp z;have:=List.findIdx?_eq_none_iff.mp hr e he;rw[h1]at this;cases this
  dsimp only;have q:∀h' b,Heap.SameBut a s.heap h'->jn knd kOf led h' a (f++[k])->Q b {s with heap:=h'}:=λh' b sb x=>h h' b sb (by rw[g8 B];exact x);have F:=layNew_perm t D (knd.hash k) x;have I:=layNew_fits t D (knd.hash k) x;have J:=ti.lay D (knd.hash k) x;generalize hL:layNew t D (knd.hash k) x=L at F I J⊢;obtain⟨d,T,wd,gv⟩:=L;dsimp only at F I J⊢;rw[MA]at F;have u:ElemsOf knd d.toList:=(m.push i y).perm F;have K:(d.toList.map λe=>kOf e.2).Perm (f++[k]):=by refine(F.map _).trans ?_;rw[g6,Mq,Z k x i];exact R.append_right _
  have U:d.size=f.length+1:=by rw[<-kt,F.length_eq,gV,kt,hn];rfl
  have n:d.size<scanBound:=by rw[U];exact G
  have say:∀(b:Bool)(V:Shared)(W:Unit->Shared->Prop),W () V->wpAny (model prog w) A (match b with|true=>rule "set.scan.the-table-gave-way"|false=>pure ()) W E V:=λb V W z=>by cases b<;>first|exact e_ z|exact tw z
  have l:∀g:SetTable,g.fits d.size=true->qu led g->wpAny (model prog w) A (do
 storeSet a d g if(!wd&&g.tooFull)=true then do
      (match(relayAll g d (SetTable.grown d.size)).2.2 with|true=>rule "set.scan.the-table-gave-way"|false=>pure ())storeSet a (relayAll g d (SetTable.grown d.size)).1 (relayAll g d (SetTable.grown d.size)).2.1
      pure (some true)else pure (some true)) (λr s'=>wpAny (model prog w) A (match r with|some C=>pure C|none=>setAddHashedIn a x (knd.hash k) 99999) Q E s') E s:=by
   intro g f2 i2;refine a_ (wpAny_storeSet_of P hd ?_ (fits_of_scanBound n));obtain⟨g1,S1⟩:=se (knd:=knd) (kOf:=kOf) P H hd u K n f2 i2;have M:=wr s.heap a (Obj.putSet d g);refine rd (λ_=>?_) (λ_=>e_ (e_ (q _ _ M S1)));have N:=relayAll_perm g d (SetTable.grown d.size);have r2:=relayAll_fits g d (SetTable.grown d.size);have X:=i2.relay d (SetTable.grown d.size);generalize relayAll g d (SetTable.grown d.size)=Rl at N r2 X⊢;obtain⟨Y,t3,aa⟩:=Rl;dsimp only at N r2 X⊢;have O:Y.size=d.size:=by rw[<-kt,N.length_eq,kt]
   refine a_ (say _ _ _ ?_);refine a_ (wpAny_storeSet_of (s:={s with heap:=s.heap.update a (Obj.putSet d g)}) g1 rfl ?_ (fits_of_scanBound (by rw[O];exact n)));obtain⟨_,S2⟩:=se (knd:=knd) (kOf:=kOf) (ks:=f++[k]) g1 H rfl (u.perm N) ((N.map _).trans K) (by rw[O];exact n) r2 X;exact e_ (e_ (q _ _ (M.trans (wr _ a _)) S2))
  refine a_ (say _ _ _ ?_)
  split
  ·refine a_ ?_;rw[hashByValue_scannable 8 y];refine e_ ?_;cases ad:plainKind x with|true=>exact l T I J|false=>exact l {T with plain:=false} (SetTable.fits_plain_off I) J.off
  ·exact a_ (e_ (l T I J))
end
end L2
namespace L2
open PySem PySem.Spec PyProof.Rows
section
variable{prog:MU}{w:World}{A:Around}{E:MQ}{s:Shared}
def FQ(v:Value)(h:Q₁ (.ref s.heap.objs.size) {s with heap:=s.heap.push (fu (!w.params.followText "set-order"))}):codeAny (model prog w) A (.call (.builtin "set.__new__") ⟨[.type "set",v],[]⟩) (wants Q₁ E) s:=by refine codeAny_of_tree (show wpAny _ A.in1 (do checkBuiltinCall "set.__new__" ⟨[.type "set",v],[]⟩;again (.builtin "set.__new__" ⟨[.type "set",v],[]⟩)) _ _ s from ?_);refine a_ (wpAny_of_eq (F.newCall_set_1 v) (e_ ⟨Lz F.plain_set_new _,E_ F.entry_set_new ?_⟩));rw[A_ F.plain_set_new _];unfold Builtin.«set.__new__»Builtin.Frozenset.newClass;have a:=sub_set_self;obtain⟨b,g,d,tk,os⟩:=s;dsimp only;wp_walk;refine B_ (e_ ?_);dsimp only;simp only[newObj];exact a_ (wpAny_alloc (e_ (e_ h)))
end
section
variable{prog:MU}{w:World}{A:Around}{R:Result->Shared->Prop}{c:Type}[DecidableEq c][BEq c][LawfulBEq c]{j a:Addr}{fp g:MZ}{G:Array GenState->Array GenState->Prop}{n:Nat}{P:Nat->Value->Prop}{St:Nat->Shared->Prop}
def BE(l:List c)(x:c)[d:Decidable (x∈l)]:(if x∈l then l else l++[x])=step_dedup l x:=by
 unfold step_dedup
 by_cases h:x∈l
 ·have q:(l.any λy=>y==x)=true:=MG.mpr ⟨x,h,C2 x⟩;rw[hQ h,hQ q]
 ·have q:¬(l.any λy=>y==x)=true:=λz=>h (by obtain⟨y,b,q⟩:=MG.mp z;rw[<-eq_of_beq q];exact b);rw[g8 h,g8 q]
def BB(l:PySem.KeyKind prog w c)(kOf:Value->c)(led:Bool)(I:∀k v,l.is k v=true->kOf v=k)(q:WalksS prog w A.in1 j fp g G n P St)(C:a∉fp)(h:Nat->c)(r:∀i v,P i v->l.is (h i) v=true/\v.scannable=true)(D:n+1<scanBound):∀(d i:Nat)(s:Shared),n-i=d->i<=n->St i s->jn l kOf led s.heap a (tP h i)->(∀p,Moved (a::g) G s p->jn l kOf led p.heap a (tP h n)->R (.ok (.ret .none)) p)->codeAny (model prog w) A (.builtin "set.update.loop" ⟨[.ref a,.ref j],[]⟩) R s:=by
 have aw:a∉g:=λz=>C (q.sub _ z);have up:∀b∈g,b∈a::g:=λb z=>hY _ z;intro d
 induction d with|zero=>
  intro i s hd hi st f k;obtain rfl:i=n:=by lia
  refine E_ F.entry_set_update_loop ?_;rw[A_ L7 _];refine a_ (m:=pyNext (.ref j)) (q.done s _ _ st λp t=>?_);exact e_ (k p (t.mono up) (f.keep λo e=>t.heap a o aw e))|succ d J=>
  intro i s hd hi st f k;have lt:i<n:=by lia
  refine E_ F.entry_set_update_loop ?_;rw[A_ L7 _];refine a_ (m:=pyNext (.ref j)) (q.item i s _ _ lt st λv p Y u t=>?_);obtain⟨E,K⟩:=r i v Y;have L:jn l kOf led p.heap a (tP h i):=f.keep λo e=>t.heap a o aw e;refine a_ (m:=holding [v] (setAdd a v)) (m_ ?_);unfold setAdd;refine m_ (a_ (l.pyHash (k:=h i) E ?_));have M:(tP h i).length+1<scanBound:=by have:=Dy h i;lia
  refine Ez (s:={p with toks:=p.toks+1}) I E K L M λh' O H f2=>?_;rw[BE,<-vC]at f2;refine e_ ⟨Lz L7 _,J (i+1) _ (by lia) lt (q.frame _ p _ _ u (qq _) λb z o e=>?_) f2 λx y N=>?_⟩
  ·exact(H.2 b λB=>C (B▸z)).trans e
  ·refine k x (Moved.trans q.gtrans ((t.mono up).then_heap (qq _) λb o z e=>?_) y) N;exact(H.2 b λB=>z (B▸ir)).trans e
end
section
variable{prog:MU}{w:World}{A:Around}{E:MQ}{s:Shared}{d:Type}[DecidableEq d][BEq d][LawfulBEq d]
set_option maxHeartbeats 3200000 in
def yp{b:Bool}(n:PySem.KeyKind prog w d)(kOf:Value->d)(T:∀k v,n.is k v=true->kOf v=k){l:Addr}{j:MX}{key:Nat->d}{Q:MQ}(hh:A.handled=none)(W:pq b s.heap l j)(y:∀i v,j[i]?=some v->n.is (key i) v=true/\v.scannable=true)(z:j.size+1<scanBound)(k:∀(h':Heap)(tk:Nat),jn n kOf (!w.params.followText "set-order") h' s.heap.objs.size (tP key j.size)->(∀b o,s.heap.get? b=some o->h'.get? b=some o)->Q (.ref s.heap.objs.size) {s with heap:=h',toks:=tk}):wpAny (model prog w) A (call (.type "set") [.ref l]) Q E s:=by
 obtain⟨c,tl,L⟩:=F.called_set.mro;have made:=F.called_set.made;have sub:=F.called_set.sub;have nt:=F.called_set.notType;have cc:=F.called_set.canCreate;have tc:=F.typeCall_set_1 (.ref l);refine wpAny_call (codeAny_of_tree ?_);show wpAny _ _ (callAny (.type "set") _) _ _ _;refine e_ ⟨Code.quiet_builtin _ (by decide+kernel),E_ F.entry_type_call ?_⟩;rw[Around.under_plain (weight_type_call_type "set" [.ref l] []) rfl]
 (repeat(any_goals(first|assumption|wp_step)));skip
 refine x_ (FQ (.ref l) (E:=E) (Q₁:=λu s₁=>u=.ref s.heap.objs.size/\s₁={s with heap:=s.heap.push (fu (!w.params.followText "set-order"))}) ⟨rfl,rfl⟩) λr s₁ G=>?_;cases r with|error e=>exact G|ok U=>cases U with
 |ret u=>
   obtain⟨rfl,rfl⟩:=G;have N:(s.heap.push (fu (!w.params.followText "set-order"))).get? s.heap.objs.size=some (fu (!w.params.followText "set-order")):=f_ _ rfl;have ty:Shared.TypeIs {s with heap:=s.heap.push (fu (!w.params.followText "set-order"))} (.ref s.heap.objs.size) "set":=⟨_,N,rfl⟩;have li:=F.called_set.init.lookup;have bi:=F.called_set.init.bind (.ref s.heap.objs.size)
   (repeat(any_goals(first|assumption|wp_step)));skip
   refine x_ (codeAny_call_builtin (R:=wants (λr p=>r=.none/\∃h' tk,p={s with heap:=h',toks:=tk}/\jn n kOf (!w.params.followText "set-order") h' s.heap.objs.size (tP key j.size)/\∀b o,s.heap.get? b=some o->h'.get? b=some o) E) F.called_set.init.plain F.entry_set_init (check_set_init_1 ty ?_)) λB p m=>?_
   ·obtain⟨⟨cl,V,dt,sl⟩,e,O,P,S⟩:=id W;simp only at O S;subst O;subst S;have X:(s.heap.push (fu (!w.params.followText "set-order"))).get? l=some {cls:=.type (cond b "list" "tuple"),dict:=V,data:=.seq j P,slots:=sl}:=c_ _ e;have s1:isSubtype (.type (cond b "list" "tuple")) (.type "set")=pure false:=by cases b;exact F.sub_tuple_set;exact F.sub_list_set
    have s2:isSubtype (.type (cond b "list" "tuple")) (.type "frozenset")=pure false:=by cases b;exact F.sub_tuple_frozenset;exact F.sub_list_frozenset
    have ne:(Value.type (cond b "list" "tuple")==Value.type "dict")=false:=by cases b<;>decide
    have C:pq b (s.heap.push (fu (!w.params.followText "set-order"))) l j:=⟨_,X,rfl,P,rfl⟩;have Y:∀(A:Around)(I t:Addr),A.handled=none->t≠I->Walks prog w A I [I,t] [I] j.size (λi v=>j[i]?=some v) (λi h=>qA b h I t i/\pq b h t j):=by
     cases b
     ·exactλA I t q r=>Walks.tuple q I t r j
     ·exactλA I t q r=>Walks.list q I t r j
    unfold Builtin.«set.__init__»noKeywords Builtin.Frozenset.updateFrom;generalize H:pyIter=PI;wp_walk;subst H;refine zT C ?_;refine a_ (wpAny_runValue ?_);have lt:l<s.heap.objs.size:=hH e;have sz:(s.heap.push (fu (!w.params.followText "set-order"))).objs.size=s.heap.objs.size+1:=m3 ..;refine BB n kOf (!w.params.followText "set-order") T ((Y A.in1.in1.in1 _ l (by simp[hh]) (by rw[sz];exact iA (u_ lt))).toS) (a:=s.heap.objs.size) (by rw[sz];simp only[o_,nn,z4,not_or];exact⟨iA (ro _),md lt⟩) key y z (j.size-0) 0 _ (by omega) (kw _) ⟨⟨_,f_ _ rfl,rfl,rfl⟩,C.at λ_ e=>c_ _ e⟩ ?f0 ?fR
    case f0=>have g:((s.heap.push (fu (!w.params.followText "set-order"))).push {cls:=.type (cond b "list_iterator" "tuple_iterator"),data:=.fields #[.ref l,.int 0 0]}).get? s.heap.objs.size=some (fu (!w.params.followText "set-order")):=c_ _ N;exact⟨_,#[],0,_,g,⟨rfl,rfl,rfl⟩,rfl,λe Z=>by simp at Z,Mn _,by decide,by rfl,⟨rfl,λ_=>fX.few (kw _)⟩⟩
    case fR=>rintro⟨h',g',d',J,K⟩D f;obtain rfl:g'=s.gens:=D.gens;obtain rfl:d'=s.drawn:=D.drawn;obtain rfl:K=s.os:=D.os;show wpAny _ _ _ _ _ _;refine e_ (show wpAny _ _ (ret Value.none) _ _ _ from e_ ⟨rfl,h',J,rfl,f,λb o q=>?_⟩);have b1:b<s.heap.objs.size:=hH q;exact D.heap b o (by rw[sz];simp only[o_,nn,z4,not_or];exact⟨iA b1,iA (u_ b1)⟩) (c_ _ (c_ _ q))
   ·cases B with|error e=>exact m|ok x=>cases x with|ret r=>
      obtain⟨rfl,h',tk,rfl,f,kk⟩:=m
      (repeat(any_goals(first|assumption|wp_step)));exact k _ _ f kk|_=>exact m.elim
  |_=>exact G.elim
end
end L2
namespace L2
open PySem PySem.Spec PyProof.Rows
section
variable{prog:MU}{w:World}{A:Around}{E:MQ}{s:Shared}
def Cy(hh:A.handled=none)(l:fB s.heap a f y t)(hn:f.size<=sizeLine)(n:w.params.followText "set-order"=false->t.led=true)(p:t.plain=true->fX t.place)(h:∀(h1:Heap)(d:Drawn)(tk:Nat)(c:MT),c.Perm (f.toList.map (·.2))->(∀b o,s.heap.get? b=some o->h1.get? b=some o)->s.heap.objs.size<=h1.objs.size->(h1.push (seqObj "list" c.toArray 0)).get? h1.objs.size=some (seqObj "list" c.toArray 0)->wpAny (model prog w) A.in1.in1 (Builtin.«list.sort» ⟨[.ref h1.objs.size],[]⟩) (λfin i=>∃v,fin=.done (.ret v)/\Q (.ref h1.objs.size) i) E {s with heap:=h1.push (seqObj "list" c.toArray 0),drawn:=d,toks:=tk}):wpAny (model prog w) A (call (.builtin "sorted") [.ref a]) Q E s:=by
 refine Calls.call_function_entry kind_sorted plain_sorted entry_sorted (args_sorted1 _) ?_;unfold Builtin.«sorted»;refine a_ (m:=checkCount "sorted" 1 1 _) (e_ ?_);refine a_ (yD (A:=A.in1) hh l hn n p λh1 d tk c j k r=>?_);have u:c.length=f.size:=by rw[j.length_eq,b_,kt]
 refine a_ (wpAny_newList ?_ (by rw[u];exact hn));have g:(h1.push (seqObj "list" c.toArray 0)).get? h1.objs.size=some (seqObj "list" c.toArray 0):=f_ _ rfl;refine a_ (m_ (nk slot_list_sort (s:={s with heap:=h1.push (seqObj "list" c.toArray 0),drawn:=d,toks:=tk}) ⟨_,g,rfl⟩ entry_list_sort (wpAny_mono (h h1 d tk c j k r g) (λfin i x=>?_) λ_ _ e=>e) (args_list_sort _)));obtain⟨v,rfl,q⟩:=x;exact⟨v,rfl,e_ ⟨_,rfl,q⟩⟩
def yu{h1:Heap}{vs:MT}{out:MX}:(∀b o,h1.get? b=some o->(sortedHeap (h1.push (seqObj "list" vs.toArray 0)) h1.objs.size vs out).get? b=some o)/\∃e,(sortedHeap (h1.push (seqObj "list" vs.toArray 0)) h1.objs.size vs out).get? h1.objs.size=some (seqObj "list" out e):=by have g:(h1.push (seqObj "list" vs.toArray 0)).get? h1.objs.size=some (seqObj "list" vs.toArray 0):=f_ _ rfl;refine⟨λb o e=>?_,sortedHeap_at g⟩;have a:b<h1.objs.size:=hH e;rw[sortedHeap_old (iA a) (by rw[m3];exact u_ a)];exact c_ _ e
end
end L2
namespace L2
open PySem PySem.Spec PyProof.Rows
def kOf:Value->cb|.int i _=>.inl i|.str x _=>.inr x|_=>.inl 0
def DP(P:MU)(w:World):∀(k:cb)(v:Value),(aS P w).is k v=true->kOf v=k:=λk v h=>by rcases cx h with⟨i,t,rfl,rfl⟩|⟨x,t,rfl,rfl⟩<;>rfl
abbrev wk(P:MU)(w:World)(q:Addr)(a:List cb):HO:=.ext λh=>jn (aS P w) kOf (!w.params.followText "set-order") h q a
theorem aN.drawn(I:aN X a c H s)(d:Drawn):aN X a c H {s with drawn:=d}:=⟨I.ok,I.os,I.bare,I.base,I.loc,I.cell,I.free,I.freeC,I.pin,I.hok,I.len⟩
theorem vi:∀{a:MT}{c:MV},StrsAre a c->aZ (c.map V.str) a|_,_,.nil=>.nil|_,_,.cons x t h=>.cons ⟨t,rfl⟩ (vi h)
def Gx(b:Bool)(K:MP)(H:Hp)(p:Addr)(a:List V):Prop:=cond b (aW K H p a) (aX K H p a)
def aN.sqE{X:Cx}{c:MR}{g:St}{H:Hp}{s:Shared}{b:Bool}{p:Addr}{e:List V}(I:aN X c g H s)(h:Gx b X.K H p e):∃a,aZ e a/\pq b s.heap p a.toArray/\∀d,Gx b X.K H p d->d=e:=by cases b with|false=>obtain⟨a,f,p,_⟩:=I.tuple h;exact⟨a,f,p,λd q=>I.tuple_inj q h⟩|true=>obtain⟨a,f,p,_⟩:=I.list h;exact⟨a,f,p.isList,λd q=>I.list_inj q h⟩
section
variable{X:Cx}
def vT{b:Bool}(hc:X.calm=true):cX X (.type "set") (λj H Q=>∃(p:Addr)(a:List cb),j=[.ref p]/\Gx b X.K H p (a.map kV)/\a.length<4000/\∀q,H q=none->Q (.ref q) (aG H q (wk X.prog X.w q (dd a)))):=by
 intro k s C H j D Q I r h;obtain⟨p,a,rfl,t,l,q⟩:=h;obtain⟨u,rfl,y⟩:=iE r;cases y;obtain⟨c,m,pl,E⟩:=I.sqE t;have n:=m.length;rw[b_]at n;refine yp (aS X.prog X.w) kOf (DP _ _) (key:=λi=>a.getD i (.inl 0)) (I.ok.hd hc) pl (λi v d=>?_) (by rw[ig];unfold scanBound;omega) λh' tk f A=>?_
 ·have d:c[i]?=some v:=by simpa using d
  have hi:i<c.length:=(d_.mp d).1;obtain⟨u,h1,h2⟩:=m.get (i:=i) (x:=kV (a[i]'(by lia))) (by rw[ge,fy (by lia)];rfl);rw[d]at h1;cases h1;have e:a.getD i (.inl 0)=a[i]'(by lia):=by simp[List.getD,fy (show i<a.length by lia)]
  show(aS X.prog X.w).is (a.getD i (.inl 0)) v=true/\_;rw[e,zn];exact F6 h2
 ·rw[show c.toArray.size=a.length by rw[ig];exact n.symm,FX]at f;refine⟨.ref s.heap.objs.size,_,I.laid (h':=h') (t':=tk) (o:=wk X.prog X.w s.heap.objs.size (dd a)) A (fx _) ⟨f,?_,λh1 h2 g B=>g.keep B⟩,rfl,q _ (I.hok.fresh (fx _))⟩;obtain⟨o,_,_,_,e,_⟩:=f.ex;exact⟨o,e⟩
def BL:cX X (.builtin "len") (λc H Q=>∃(p:Addr)(a:List cb),c=[.ref p]/\H p=some (wk X.prog X.w p a)/\a.length<=4096/\Q (.int a.length) H):=by
 intro b s l H c m Q I r h;obtain⟨p,a,rfl,d,hn,q⟩:=h;obtain⟨u,rfl,g⟩:=iE r;cases g;obtain⟨f,_,_⟩:=I.hok p _ d;obtain⟨o,i,n,t,e,ex,hd,_,pm,_,j,_⟩:=f.ex;have k:i.size=a.length:=by rw[<-pm.length_eq,b_,kt]
 refine call_len_set e ex hd j (by omega) ⟨.int _,H,I.tok _,⟨_,rfl⟩,?_⟩;rw[k];exact q
def HH(f:jn (aS P w) kOf led h a g):∃c d t,fB h a c d t/\c.size=g.length/\(c.toList.map λe=>kOf e.2).Perm g/\qu led t/\∀e∈c.toList,m4 (kOf e.2) e.2=true:=by obtain⟨o,c,d,t,e,ex,hd,b,pm,_,i,j⟩:=f.ex;refine⟨c,d,t,⟨⟨o,e,ex.1,hd⟩,i⟩,by rw[<-pm.length_eq,b_,kt],pm,j,λx l=>?_⟩;obtain⟨⟨k,h1,_⟩,_⟩:=b x l;rw[DP P w k x.2 h1];exact h1
variable{P:MU}{w:World}
def t9(K:MP)(c:X.K=K)(hc:X.calm=true)(d:X.prog=P:=by rfl)(e:X.w=w:=by rfl):cX X (.type "set") (λf H Q=>∃(p:Addr)(a:List cb),f=[.ref p]/\aW K H p (a.map kV)/\a.length<4000/\∀q,H q=none->Q (.ref q) (aG H q (wk P w q (dd a)))):=by subst c;subst d;subst e;exact vT (b:=true) hc
def zI(K:MP)(c:X.K=K)(hc:X.calm=true)(d:X.prog=P:=by rfl)(e:X.w=w:=by rfl):cX X (.type "set") (λf H Q=>∃(p:Addr)(a:List cb),f=[.ref p]/\aX K H p (a.map kV)/\a.length<4000/\∀q,H q=none->Q (.ref q) (aG H q (wk P w q (dd a)))):=by subst c;subst d;subst e;exact vT (b:=false) hc
def ub(c:X.prog=P:=by rfl)(d:X.w=w:=by rfl):cX X (.builtin "len") (λe H Q=>∃(p:Addr)(a:List cb),e=[.ref p]/\H p=some (wk P w p a)/\a.length<=4096/\Q (.int a.length) H):=by subst c;subst d;exact BL
end
end L2
namespace L2
open PySem PySem.Spec PyProof.Rows
section
variable{prog:MU}{w:World}{A:Around}{E:MQ}{s:Shared}
def mF(a b:Str):Prop:=¬b.cps.toList<a.cps.toList
def ur(g:StrsAre d v)(h:a.Perm (pairsOf d))(n:SortedToK strKind a (pairsOf d).size):∃c,StrsAre (a.map (·.2)).toList c/\c.Perm v/\c.Pairwise mF:=by
 obtain⟨o,h1,h2,_⟩:=sorted_out_str g h n;refine⟨o,h1,h2,?_⟩;have z:a.toList.Perm (d.zip d):=by rw[<-pairsOf_toList];exact Array.perm_iff_toList_perm.mp h
 have b:∀p,p∈a.toList->p.1=p.2/\p.1∈d:=λp k=>mem_zip_self (z.mem_iff.mp k);have e:o=a.toList.map λp=>strOf p.2:=by rw[<-h1.strs,Array.toList_map,ri];rfl
 rw[e,List.pairwise_iff_getElem];intro i j hi B l;have m:i<a.size:=by simpa using hi
 have f:j<a.size:=by simpa using B
 have q:=n i j (vr l) (by rw[<-h.size_eq];exact f);obtain⟨x,t,ex⟩:=g.all _ (b a[i] (by simp)).2;obtain⟨y,u,r⟩:=g.all _ (b a[j] (by simp)).2;rw[KK_str m (x:=x) (t:=t) (q:=a[i].2) (Prod.ext ex rfl),KK_str f (x:=y) (t:=u) (q:=a[j].2) (Prod.ext r rfl)]at q
 change decide (y.cps.toList<x.cps.toList)=false at q
 simp only[ME,Array.getElem_toList];have C:strOf a[i].2=x:=by rw[<-(b a[i] (by simp)).1,ex];rfl
 have D:strOf a[j].2=y:=by rw[<-(b a[j] (by simp)).1,r];rfl
 unfold mF;rw[C,D];exact of_decide_eq_false q
def sj(hh:A.handled=none)(r:fB s.heap a f P t)(u:f.size<64)(y:w.params.followText "set-order"=false->t.led=true)(B:t.plain=true->fX t.place)(C:∀e∈f.toList,∃x t,e.2=Value.str x t)(h:∀(D:Addr)(h':Heap)(F:Drawn)(tk e:Nat)(out:MT)(i:MV),s.heap.objs.size<=D->(∀b o,s.heap.get? b=some o->h'.get? b=some o)->h'.get? D=some (seqObj "list" out.toArray e)->StrsAre out i->i.Perm (f.toList.map λe=>strOf e.2)->i.Pairwise mF->Q (.ref D) {s with heap:=h',drawn:=F,toks:=tk}):wpAny (model prog w) A (call (.builtin "sorted") [.ref a]) Q E s:=by
 refine Cy hh r (by rw[gg];lia) y B λh1 G tk c j H I g=>?_;have R:c.length=f.size:=by rw[j.length_eq,b_,kt]
 have k:StrsAre c (c.map strOf):=strsAre_map c λv hm=>by obtain⟨e,J,rfl⟩:=j_.mp (j.mem_iff.mp hm);exact C e J
 refine list_sort_treeK strKind_oneLt g k.keysOf (λp q pG e=>keyKind_strs (by rw[<-e];exact k)) (by lia) λd l m=>⟨_,rfl,?_⟩;obtain⟨n,K,L,M⟩:=ur k l m;obtain⟨N,e,O⟩:=yu (h1:=h1) (vs:=c) (out:=(arrOf d).map (·.2));refine h h1.objs.size _ G tk e ((arrOf d).map (·.2)).toList n I (λb o z=>N b o (H b o z)) ?_ K (L.trans ?_) M
 ·rw[Array.toArray_toList];exact O
 ·have:=j.map strOf;rw[ri]at this;exact this
end
section
variable{X:Cx}
def yF(hc:X.calm=true):cX X (.builtin "sorted") (λj H Q=>∃(p:Addr)(a:MV),j=[.ref p]/\H p=some (wk X.prog X.w p (a.map Sum.inr))/\a.length<64/\∀(q:Addr)(c:MV),H q=none->c.Perm a->c.Pairwise mF->Q (.ref q) (aG H q (.lst (c.map V.str)))):=by
 intro l s N H j O Q I r h;obtain⟨p,a,rfl,C,hn,q⟩:=h;obtain⟨u,rfl,E⟩:=iE r;cases E;obtain⟨f,_,_⟩:=I.hok p _ C;obtain⟨m,P,t,F,n,pm,v,G⟩:=HH f;rw[b_]at n;have A:∀e∈m.toList,∃x t,e.2=Value.str x t:=λe d=>by
  have hm:kOf e.2∈a.map Sum.inr:=pm.mem_iff.mp (j_.mpr ⟨e,d,rfl⟩);obtain⟨x,_,b⟩:=j_.mp hm;rcases cx (G e d)with⟨i,t,h1,h2⟩|⟨y,t,h1,h2⟩
  ·rw[h1]at b;cases b
  ·exact⟨y,t,h2⟩
 refine sj (I.ok.hd hc) F (by lia) (λz=>by rw[v.led,z];rfl) v.up A λD h' J tk e out c B K g sa sp L=>?_;have sl:c.length=a.length:=by rw[sp.length_eq,b_,kt,n]
 have ex:(m.toList.map λe=>strOf e.2).Perm a:=by
  have h1:=pm.map (λk:cb=>match k with|.inr x=>x|.inl _=>(⟨#[]⟩:Str));rw[ri,ri]at h1;have M:(a.map ((λk:cb=>match k with|.inr x=>x|.inl _=>(⟨#[]⟩:Str))∘Sum.inr))=a:=by rw[show((λk:cb=>match k with|.inr x=>x|.inl _=>(⟨#[]⟩:Str))∘Sum.inr)=id from rfl,List.map_id]
  rw[M]at h1;refine(MM (wh λe d=>?_)).trans h1;obtain⟨x,t,b⟩:=A e d;rw[b];show strOf (Value.str x t)=(match kOf e.2 with|.inr x=>x|.inl _=>(⟨#[]⟩:Str));rw[b];rfl
 refine⟨.ref D,_,(I.drawn J).laid (h':=h') (t':=tk) (o:=.lst (c.map V.str)) K B ⟨?_,out,e,vi sa,g⟩,rfl,q D c (I.hok.fresh B) (sp.trans ex) L⟩;rw[b_,sl,gg];lia
def wU(hc:X.calm=true)(d:X.prog=P:=by rfl)(e:X.w=w:=by rfl):cX X (.builtin "sorted") (λf H Q=>∃(p:Addr)(a:MV),f=[.ref p]/\H p=some (wk P w p (a.map Sum.inr))/\a.length<64/\∀(q:Addr)(c:MV),H q=none->c.Perm a->c.Pairwise mF->Q (.ref q) (aG H q (.lst (c.map V.str)))):=by subst d;subst e;exact yF hc
end
section
variable{X:Cx}
end
end L2
namespace L2
open PySem PySem.W PyProof.Rows
def wb(P:MU)(w:World):yR:=λouter H s E e a=>∃(d:Addr)(C:Value)(B:Heap)(t:Addr)(c:Hp),e=.ref d/\a.os=s.os/\AllBare a.gens/\Un (jD outer) [] H c s.heap a.heap/\lj P w c a.heap/\Heap.FlyingW B outer d C (.ref t) a.heap/\(∀b o,c b=some o->∃u,B.get? b=some u)/\(∀b o,s.heap.get? b=some o->b∉jD outer->∃u,B.get? b=some u)/\E C none c
def yw(h:env.frame=some L):jD (env::l)=L::jD l:=by unfold jD;rw[LL,h]
def lj.flown{P:MU}{w:World}{H:Hp}{h h' B:Heap}(x:lj P w H h)(c:∀b o,H b=some o->∃u,B.get? b=some u)(k:B.StaysIn h)(l:B.StaysIn h'):lj P w H h':=λa o e=>(x a o e).stay (λb u d q=>by
  obtain⟨f,g⟩:∃f,H b=some f:=by
   rcases d with rfl|d
   ·exact⟨_,e⟩
   ·exact⟨_,d⟩
  obtain⟨v,i⟩:=c b f g;have j:=k b v i;rw[q]at j;cases j;exact l b _ i) (λ_ q=>q) λ_ _ q=>q
section
variable{P:MU}{w:World}{K:MP}{mg:MS}{base:Heap}{N:MV}{a:Str}{scope:Scope}{f:Addr}{cd:Value}{A:Around}{outer:List Env}{c:Shared}{d:Hp}{E:XK}
def gS:ma (wb P w) (qg (wb P w) P w K mg base N a scope f cd A outer c d E) E:=by
 rintro O X H s e G I⟨J,C,B,t,Q,rfl,os,bare,un,hok,r,m,h,q⟩;have v:(envOfC a scope c.heap.objs.size f cd).frame=some c.heap.objs.size:=rfl;have x:jD (envOfC a scope c.heap.objs.size f cd::outer)=c.heap.objs.size::jD outer:=yw v;have j:Un (jD outer) [] d H c.heap s.heap:=I.base;have un:Un (jD (envOfC a scope c.heap.objs.size f cd::outer)) [] H Q s.heap G.heap:=un;have h:∀b o,s.heap.get? b=some o->b∉jD (envOfC a scope c.heap.objs.size f cd::outer)->∃u,B.get? b=some u:=h;have r:Heap.FlyingW B (envOfC a scope c.heap.objs.size f cd::outer) J C (.ref t) G.heap:=r;have y:∀b o,c.heap.get? b=some o->b∉jD outer->b∉jD (envOfC a scope c.heap.objs.size f cd::outer):=λb o e g hm=>by
  rw[x]at hm;rcases o_.mp hm with rfl|hm
  ·exact absurd (hH e) (ot _)
  ·exact g hm
 have p:∀b o,c.heap.get? b=some o->b∉jD outer->∃u,B.get? b=some u:=λb o e g=>by obtain⟨L,i⟩:=j.there b o e (by simp);exact h b L i (y b o e g)
 show wpAny (model P w) (A.deeper (envOfC a scope c.heap.objs.size f cd)) (leaving (envOfC a scope c.heap.objs.size f cd) (.ref J)) _ _ G;refine wpAny_leaves_onW (outer:=outer) I.ok.frames v r λh' k up=>?_;refine⟨J,C,B,t,Q,rfl,os.trans I.os,bare,?_,hok.flown m r.1 k.1,k,m,p,q⟩;have slot:∀b o,c.heap.get? b=some o->d b=none->b∈jD outer->∃sl,h'.get? b=some {o with slots:=sl}:=λb o e n g=>by
  obtain⟨sl,i⟩:=j.slot b o e n g (by simp);have n1:=j.free b o e n (by simp);obtain⟨T,z⟩:=un.slot b _ i n1 (by rw[x];exact hY _ g) (by simp);obtain⟨_,R,l,hd⟩:=I.ok.funs.mem g;have:R=o:=by have l:c.heap.get? b=some R:=l;rw[e]at l;exact(kl l).symm
  subst this;obtain⟨M,D⟩:=up b _ z hd;exact⟨M,D⟩
 refine⟨λb o e n g _=>?_,λb o e n g _=>slot b o e n g,λb o e n _=>?_,λb o e _=>?_,λb S e=>un.tups b S (j.tups b S e),λb o u e=>un.frzs b o u (j.frzs b o u e),λb U e=>?_⟩
 ·have i:=j.keep b o e n g (by simp);have n1:=j.free b o e n (by simp);have z:=un.keep b o i n1 (y b o e g) (by simp);obtain⟨u,F⟩:=p b o e g;have D:=r.1 b u F;rw[z]at D;cases D;exact k.1 b _ F
 ·obtain⟨L,i⟩:=j.there b o e (by simp);exact un.free b L i (j.free b o e n (by simp)) (by simp)
 ·by_cases g:b∈jD outer
  ·have n:d b=none:=I.ok.frf b g;obtain⟨sl,i⟩:=slot b o e n g;exact⟨_,i⟩
  ·obtain⟨u,F⟩:=p b o e g;exact⟨u,k.1 b u F⟩
 ·obtain⟨V,i⟩:=j.tbls b U e;obtain⟨W,z⟩:=un.tbls b _ i;exact⟨V++W,by rw[z,Mu]⟩
end
def cV.held{P:MU}{w:World}{H:Hp}{h:Heap}{a:Addr}{o:HO}(x:cV P w H h a o):∃u,h.get? a=some u:=by cases o with|lst c=>obtain⟨_,_,_,_,e⟩:=x;exact⟨_,e⟩|tup c=>obtain⟨_,_,_,_,e,_⟩:=x;exact⟨_,e⟩|dK b=>obtain⟨_,_,_,_,o,_,_,e,_⟩:=x;exact⟨_,e⟩|dT b=>obtain⟨_,_,_,_,o,_,_,e,_⟩:=x;exact⟨_,e⟩|set S n=>obtain⟨o,_,_,_,e,_⟩:=x;exact⟨_,e⟩|ins C dx fs=>obtain⟨_,_,_,e,_⟩:=x;exact⟨_,e⟩|own y=>exact x|xd fs=>obtain⟨_,⟨_,_,_,e,_⟩,_⟩:=x;exact⟨_,e⟩|rng lo hi=>obtain⟨_,_,_,e⟩:=x;exact⟨_,e⟩|frz ob u=>exact⟨_,x.1⟩|tbl d=>exact⟨_,(show h.get? a=some _ from x)⟩|met f y=>exact⟨_,(show h.get? a=some _ from x)⟩|ext φ=>exact x.2.1
def EB(X:Cx)(E:XK):Prop:=∀(a:MR)(c:St)(H:Hp)(s:Shared)(C:Value)(d:MT)(h':Heap)(b:Addr),aN X a c H s->Heap.MadeExcOf s.heap h' b C d->E C none H->X.xe (.ref b) {s with heap:=h'}
section
variable{P:MU}{w:World}{K:MP}{mg:MS}{base:Heap}{N:MV}{a:Str}{scope:Scope}{f:Addr}{cd:Value}{A:Around}{outer:List Env}{c:Shared}{d:Hp}{E:XK}
def xJ:EB (qg (wb P w) P w K mg base N a scope f cd A outer c d E) E:=by
 intro L V H s C W h' M I O q;have m:(envOfC a scope c.heap.objs.size f cd).frame=some c.heap.objs.size:=rfl;have z:jD (envOfC a scope c.heap.objs.size f cd::outer)=c.heap.objs.size::jD outer:=yw m;have k:Un (jD outer) [] d H c.heap s.heap:=I.base;have p:∀b o,c.heap.get? b=some o->b∉jD outer->b∉jD (envOfC a scope c.heap.objs.size f cd::outer):=λb o e g hm=>by
  rw[z]at hm;rcases o_.mp hm with rfl|hm
  ·exact absurd (hH e) (ot _)
  ·exact g hm
 generalize D:hideAll s.heap (jD (envOfC a scope c.heap.objs.size f cd::outer))=B;have l:∀{b o},s.heap.get? b=some o->b∉jD (envOfC a scope c.heap.objs.size f cd::outer)->B.get? b=some o:=λe g=>by rw[<-D];exact hideAll_get _ e g
 have r:B.StaysIn s.heap:=λb o e=>by rw[<-D]at e;exact of_hideAll _ e
 have fr:s.heap.FunFrames B (envOfC a scope c.heap.objs.size f cd::outer):=by rw[<-D];exact funFrames_hide (base:=base) I.stack λenv R b g=>LO.mpr ⟨env,R,g⟩
 have v:∀b o,c.heap.get? b=some o->b∉jD outer->∃u,B.get? b=some u:=λb o e g=>by obtain⟨S,x⟩:=k.there b o e (by simp);exact⟨S,l x (p b o e g)⟩
 have j:∀b o,H b=some o->∃u,B.get? b=some u:=λb o e=>by obtain⟨u,F⟩:=(I.hok b o e).held;exact⟨u,l F λhm=>by have n:H b=none:=I.stkFree b hm;rw[e]at n;cases n⟩
 show wpAny (model P w) (A.deeper (envOfC a scope c.heap.objs.size f cd)) (leaving (envOfC a scope c.heap.objs.size f cd) (.ref M)) _ _ _;refine wpAny_leaves_madeW (outer:=outer) (h:=s.heap) I.ok.frames m r fr O λG t y tup _ up=>?_;refine⟨M,C,B,t,H,rfl,I.os,I.bare,?_,I.hok.flown j r y.1,y,j,v,q⟩;have slot:∀b o,c.heap.get? b=some o->d b=none->b∈jD outer->∃sl,G.get? b=some {o with slots:=sl}:=λb o e n g=>by
  obtain⟨sl,x⟩:=k.slot b o e n g (by simp);have T:=O.keeps _ _ x;obtain⟨_,Q,i,hd⟩:=I.ok.funs.mem g;have:Q=o:=by have i:c.heap.get? b=some Q:=i;rw[e]at i;exact(kl i).symm
  subst this;obtain⟨J,U⟩:=up b _ T hd;exact⟨J,U⟩
 refine⟨λb o e n g _=>?_,λb o e n g _=>slot b o e n g,λb o e n _=>k.free b o e n (by simp),λb o e _=>?_,k.tups,k.frzs,k.tbls⟩
 ·exact y.1 b o (l (k.keep b o e n g (by simp)) (p b o e g))
 ·by_cases g:b∈jD outer
  ·obtain⟨sl,x⟩:=slot b o e (I.ok.frf b g) g;exact⟨_,x⟩
  ·obtain⟨u,F⟩:=v b o e g;exact⟨u,y.1 b u F⟩
end
def we:List Value:=[.type "ValueError",.type "Exception",.type "BaseException",.type "object"]
def va(K:MP)(C:Addr):Prop:=excIn K C we "ValueError.__new__"=true
theorem va.at{K:MP}{C:Addr}{h:Heap}(kin:K.In h)(x:va K C):∃l N nm q bs hd g sub i d dd s t u v w m,h.get? C=some (excClassObj nm q C N bs l hd g sub i d dd s t u v w "ValueError.__new__")/\h.Ns N m/\m "__init__"=none/\OwnTail h we l:=by
 unfold va excIn at x
 split at x
 ·rename_i dd c sl look
  split at x
  ·rename_i F y k n o p z r a slots;simp only[lm,beq_iff_eq,Bool.not_eq_true']at x;obtain⟨⟨⟨⟨⟨A,B⟩,e⟩,j⟩,b⟩,f⟩:=x;subst A B;rcases c with⟨nm,bs,D,ns,E,hd,g,sub,i,d,dl⟩;dsimp only at a e b f;subst a;subst e;obtain rfl:sl=#[k,n,o,p,some (.builtin "ValueError.__new__"),r]:=by rcases sl with⟨list⟩;exact r4 Array.mk slots
   exact⟨y,ns,nm,E,bs,hd,g,sub,i,d,dd,k,n,o,p,r,_,kin _ _ look,.of_isNs (isNs_of_in kin b),nsMap_none_of_in kin b f,tail_of_in kin j⟩
  ·cases x
 ·cases x
def Hg(C:Addr)(E:XK)(t:TA):TS:=λ_ a H=>t a H λb c=>b.length<=sizeLine/\E (.ref C) none c
def xM{X:Cx}{C:Addr}{E:XK}{x:Str}{S a i:Pos}{e:Expr}{d:MW}{t:TA}(W:va X.K C)(hg:Gl X x)(hm:X.mg x=some (.ref C))(hc:X.calm=true)(Z:EB X E)(ha:PA X (e::d) t)(j:(x==("__debug__":Str))=false:=by decide)(u:starEach (e::d) X.env=(false,eval e X.env)::starEach d X.env:=by rfl)(l:(backTo a (starEach d X.env)).any (·.1)=false:=by rfl):PS X (.Raise (some (.Call (.Name x S) (e::d) [] a)) none i) (Hg C E t):=by
 intro c s v H D I h;obtain⟨w,N,nm,q,bs,hd,y,sub,A,f,dd,B,G,J,L,M,O,U,V,k,T⟩:=W.at I.mod.kin;refine wpAny_Raise_call_subT (C:=C) (N:=N) (bm:=w) (mN:=O) (bmB:=we) (newId:="ValueError.__new__") (nm:=nm) (q:=q) (bs:=bs) (hdct:=hd) (sn:=y) (sub:=sub) (ab:=A) (col:=f) (dd:=dd) (k0:=B) (k1:=G) (k2:=J) (k3:=L) (k5:=M) PySem.F.excBase_ValueError (T.hasType PySem.F.excBase_ValueError.hasBase) (I.ok.hd hc) ?_ k (oV I hg hm ⟨rfl,?_⟩ j)
 ·rw[u];show(false||(backTo a (starEach d X.env)).any (·.1))=false;rw[l];rfl
 ·have g:=ha a c s v H _ I h;rw[u]at g⊢;refine sT (ce g λQ R z0=>?_);obtain⟨vs,H1,I1,r,z,q1⟩:=z0;have p:∀b o,X.base.get? b=some o->R.heap.get? b=some o:=I1.bk;exact⟨rfl,by show Q.length<=_;rw[<-r.length];exact z,p _ _ U,V.keeps p,T.keeps p,λh' ea m=>Z c v H1 R (.ref C) Q h' ea I1 m q1⟩
end L2
namespace L2
open PySem PySem.W PyProof.Rows
def Un.flown{fs:MZ}{H i:Hp}{h1 h' h5 B:Heap}(un:Un fs [] H i h1 h')(c:∀b o,h1.get? b=some o->b∉fs->∃u,B.get? b=some u)(k:B.StaysIn h')(j:B.StaysIn h5)(up:h'.UpToSlots h5)(fr:∀b∈fs,H b=none/\∀o,h1.get? b=some o->∀l,o.data≠.fields l):Un fs [] H i h1 h5:=by
 have slot:∀b o,h1.get? b=some o->H b=none->b∈fs->∃sl,h5.get? b=some {o with slots:=sl}:=λb o e n a=>by obtain⟨sl,g⟩:=un.slot b o e n a (by simp);obtain⟨h,d⟩:=up b _ g ((fr b a).2 o e);exact⟨h,d⟩
 refine⟨λb o e n a m=>?_,λb o e n a _=>slot b o e n a,un.free,λb o e _=>?_,un.tups,un.frzs,un.tbls⟩
 ·have p:=un.keep b o e n a m;obtain⟨u,f⟩:=c b o e a;have d:=k b u f;rw[p]at d;cases d;exact j b _ f
 ·by_cases a:b∈fs
  ·obtain⟨sl,g⟩:=slot b o e (fr b a).1 a;exact⟨_,g⟩
  ·obtain⟨u,f⟩:=c b o e a;exact⟨u,j b u f⟩
abbrev Cx.inExc(X:Cx)(a:Addr):Cx:={X with A:=X.A.mark (some (.ref a)),calm:=false,xe:=λ_ _=>False}
section
variable{X:Cx}{a:MR}{d:St}{H:Hp}{s:Shared}{c:Addr}
theorem Cx.Ok.inExc(ok:X.Ok)(c:Addr):(X.inExc c).Ok:=⟨ok.mod,ok.kind,ok.glob,ok.blt,ok.above,ok.inj,ok.has,ok.cab,λz=>absurd z (by simp),ok.frames,ok.stk,ok.exf,ok.bs,ok.bsz,ok.noex,ok.exfs,ok.funs,ok.frf⟩
theorem aN.inExc(I:aN X a d H s)(c:Addr):aN (X.inExc c) a d H s:=⟨I.ok.inExc c,I.os,I.bare,I.base,I.loc,I.cell,I.free,I.freeC,I.pin,I.hok,I.len⟩
def aN.outExc(ok:X.Ok)(I:aN (X.inExc c) a d H s):aN X a d H s:=⟨ok,I.os,I.bare,I.base,I.loc,I.cell,I.free,I.freeC,I.pin,I.hok,I.len⟩
theorem SP.outExc(ok:X.Ok)(h:SP (X.inExc c) a D f g):SP X a D f g:=by cases f with|next=>obtain⟨b,e,I,q⟩:=h;exact⟨b,e,I.outExc ok,q⟩|brk=>obtain⟨b,e,I,q⟩:=h;exact⟨b,e,I.outExc ok,q⟩|cont=>obtain⟨b,e,I,q⟩:=h;exact⟨b,e,I.outExc ok,q⟩|ret u=>obtain⟨v,b,e,I,r,q⟩:=h;exact⟨v,b,e,I.outExc ok,r,q⟩
end
def l9(c:yR)(X:Cx)(E:XK)(a:MR)(d:St):Prop:=∀(H:Hp)(s:Shared)(e:Value)(b:Shared),aN X a d H s->c X.stack H s E e b->X.xe e b
def Kx(X:Cx)(a:MR)(c:St)(e:Expr)(t:TE):Prop:=∀(s:Shared)(H:Hp)(Q:VK),aN X a c H s->t c H Q->wpAny (model X.prog X.w) X.A (eval e X.env) (EP X a c Q) X.xe s
def IS(X:Cx)(a:MR)(c:St)(st:Stmt)(t:TS):Prop:=∀(s:Shared)(H:Hp)(D:lg),aN X a c H s->t D c H->wpAny (model X.prog X.w) X.A (exec st X.env) (SP X a D) X.xe s
structure EI(X:Cx)(pins:MR)(σ:St)(ea:Addr)(C':Value)(H':Hp)(s:Shared):Prop where
 inv:aN X pins σ H' s
 fly:∃(B:Heap)(t:Addr),Heap.FlyingW B X.stack ea C' (.ref t) s.heap/\∀h6,B.StaysIn h6->s.heap.UpToSlots h6->aN X pins σ H' {s with heap:=h6}
def EI.run{X:Cx}{a:MR}{d:St}{c:Addr}{m:Value}{e:Hp}{s:Shared}{D:lg}{b:List Stmt}{j:TS}{A:Around}{l:Flow->Shared->Prop}{n o:MQ}(L:EI X a d c m e s)(hh:∀c,u6 (X.inExc c) b j)(g:j D d e)(p:∀f s,SP X a D f s->l f s):wpAny (model X.prog X.w) A (setFlight (.ref c) none) (λ_ s₁=>wpAny (model X.prog X.w) (X.A.mark (some (.ref c))) (execs b X.env) l n s₁) o s:=by obtain⟨B,t,q,k⟩:=L.fly;exact lands_againW q λh6 h i=>wpAny_mono (hh c a _ d e D ((k h6 h.1 i).inExc c) g) (λf r z=>p f r (z.outExc L.inv.ok)) λ_ _ z=>z.elim
def EI.obj{X:Cx}{a:MR}{e:St}{c:Addr}{d:Value}{f:Hp}{s:Shared}(L:EI X a e c d f s):∃o,s.heap.get? c=some o/\o.cls=d:=by obtain⟨B,t,b,k⟩:=L.fly;exact b.there
def B3{X:Cx}{st:Stmt}{h0:ExceptHandler}{N:List ExceptHandler}{T:XK->TS}{R:Value->Hp->Prop}{P:Pos}{a:MR}{s:Shared}{g:St}{H:Hp}{D:lg}(l:X.stack=X.env::X.outer)(hf:X.env.frame=some X.env.locals)(L:∀(E:XK)(a:MR)(g:St)(W:MQ),l9 (wb X.prog X.w) (X.wish W) E a g->IS (X.wish W) a g st (T E))(I:aN X a g H s)(h:T (λi _ d=>R i d) D g H)(hc:∀p i d Z,R i d->EI X a g p i d Z->wpAny (model X.prog X.w) X.A (handleBy (.ref p) X.env (h0::N)) (SP X a D) X.xe Z):wpAny (model X.prog X.w) X.A (exec (.Try [st] (h0::N) [] [] P) X.env) (SP X a D) X.xe s:=by
 refine wpAny_Try_except ?_;have V:l9 (wb X.prog X.w) (X.wish λe s₁=>wpAny (model X.prog X.w) X.A (noteFrame e X.env) (λ_ q=>wpAny (model X.prog X.w) X.A (setFlight e none) (λ_ r=>wpAny (model X.prog X.w) X.A (handleBy e X.env (h0::N)) (SP X a D) X.xe r) X.xe q) X.xe s₁) (λi _ d=>R i d) a g:=by
  rintro U M e m I1⟨p,i,B,t,d,rfl,os,bare,un,hok,x,y,c,O⟩;have I1:=I1.unwish;have un:Un (jD X.stack) [] U d M.heap m.heap:=un;have x:Heap.FlyingW B X.stack p i (.ref t) m.heap:=x;have c:∀b o,M.heap.get? b=some o->b∉jD X.stack->∃u,B.get? b=some u:=c;have Q:∀b∈jD X.stack,U b=none/\∀o,M.heap.get? b=some o->∀Y,o.data≠.fields Y:=λb L=>by refine⟨I1.stkFree b L,λo e=>?_⟩;obtain⟨_,o',C,hd⟩:=I1.stack.mem L;rw[e]at C;cases C;exact hd
  have j:∀h5,B.StaysIn h5->m.heap.UpToSlots h5->aN X a g d {m with heap:=h5}:=λh5 k up=>I1.call' (s':={m with heap:=h5}) (ch:=[]) os (un.flown c x.1 k up Q) (hok.flown y x.1 k) bare λb z=>absurd z (by simp)
  show wpAny (model X.prog X.w) X.A (noteFrame (.ref p) X.env) _ X.xe m;have F:=x;rw[l]at F;refine wpAny_looks_onW (outer:=X.outer) (by rw[I.ok.frames,l]) hf F λh4 n G=>?_;refine wpAny_landsW n λh5 J K=>hc p i d _ O ⟨j h5 J.1 (G.trans K),B,t,by rw[l];exact J,λh6 k6 S=>j h6 k6 ((G.trans K).trans S)⟩
 have b:=L _ a g _ V s H D (I.wish _) h;refine MD (wpAny_mono b (λf M z=>?_) λ_ _ z=>z);have z:=z.unwish;cases f with|next=>exact LD (LD z)|ret v=>exact z|brk=>exact z|cont=>exact z
section
variable{X:Cx}{L:yR}{k:Nat}{f C:Addr}{fd:FuncData}{J:MV}{sp:Sp}{j:List V}{ds:MT}{E:XK}{x m:Str}{p i n:Pos}{e o:Expr}{G:MW}{M:TE}{t:TA}{d:MR}{B:St}
def HJ(F:aO X.prog X.w X.K X.mg X.base L k f fd J sp)(c:eL k X.A)(g:fC X.K fd J ds)(hd:aZ j ds)(l:l9 L X E d B)(I:aN X d B H s)(r:aZ vs us)(h:sp (vs++j) H Q E):wpAny (model X.prog X.w) X.A (call (.ref f) us) (EP X d B Q) X.xe s:=by
 have a:aZ (vs++j) (us++ds):=r.append hd;have len:(us++ds).length=J.length:=a.length▸F.len _ _ _ _ h;refine wpAny_call (x_ (F.run X.A X.stack s H ⟨us,[]⟩ (us++ds) (vs++j) Q E c I.env0 (g s us I.kIn len) a h) λb q z=>?_);rcases b with ex|v
 ·exact l H s ex q I z
 ·cases v with|ret u=>exact I.after z|next=>cases z|brk=>cases z|cont=>cases z
def FW(P:PE X o M)(c:xj X.K C)(hm:EH X.K C m f)(F:aO X.prog X.w X.K X.mg X.base L k f fd J sp)(R:eL k X.A)(S:fC X.K fd J ds)(hd:aZ j ds)(T:l9 L X E d B)(Z:PA X (e::G) t)(y:starEach (e::G) X.env=(false,eval e X.env)::starEach G X.env:=by rfl)(z:(backTo i (starEach G X.env)).any (·.1)=false:=by rfl)(ht:eval (.Call (.Attribute o m n) (e::G) [] i) X.env=(do
   let obj<-eval o X.env
   standAt n.atName let(g,first)<-holding [obj] (getMethod obj m pl)callWith i g first (backTo i (starEach (e::G) X.env)) (backToKw i (keywordEach [] X.env))):=by rfl):Kx X d B (.Call (.Attribute o m n) (e::G) [] i) (B6 C m sp j E M t):=by intro s H Q I h;refine PySem.W.methodCall_KW (pl:=pl) (ce (P d s B H _ I h) λu U⟨v,Y,I1,rv,a,dx,fs,ev,ea,l,q⟩=>?_) ht;subst ev;cases(show u=Value.ref a from rv);refine nJ I1 ea c hm l (PySem.W.callWith_K (first:=[.ref a]) (h₀:=X.base) I.ok.mod.kin hm.kp (ce (Z i d U B Y _ I1 q) λD s2⟨N,H2,O,r,q2⟩=>⟨O.kIn,?_⟩) y z);exact HJ (us:=.ref a::D) (vs:=.ref a::N) F R S hd T O (.cons rfl r) q2
def Gh(a:Kx X d B e te)(c:swapsWith e none i.line X.env=pure false:=by rfl):IS X d B (.Expr e i) (GJ te):=by intro s H D I h;exact wpAny_Expr_any (ce (a s H _ I h) λv l⟨y,b,I1,q,g⟩=>⟨B,b,I1,g⟩) I.quiet c
end
theorem PS.nox{X:Cx}{st:Stmt}{t:TS}(h:PS X.nox st t):PS X st t:=λa s b H D I c=>wpAny_mono (h a s b H D (I.wish _) c) (λ_ _ q=>q.unwish) λ_ _ z=>False.elim z
section
variable{P:MU}{w:World}{K:MP}{mg:MS}{base:Heap}
def xi.okE{x a:Str}{st:Stmt}{f:Addr}{fd:FuncData}{N g:MV}{k:Nat}{sp:Sp}(F:xi K x a st f fd)(S:aA N g (ai st))(len:∀d H Q E,sp d H Q E->d.length=g.length)(e:∀(c:Value)(A:Around)(outer:List Env)(s:Shared)(H:Hp)(d:List V)(Q:VK)(E:XK),eL k (A.deeper (envOfC a (ai st) s.heap.objs.size f c))->sp d H Q E->∃t,u6 (qg (wb P w) P w K mg base N a (ai st) f c A outer s H E) (gt st) t/\t {nx:=λ_ i=>Q .non i,rt:=Q} (iG N d) H):aO P w K mg base (wb P w) (k+1) f fd g sp:=by obtain⟨oc,o,kV,j,pm,p,c,ct,l,rfl,m,b⟩:=F.ex;exact GV m b S len λA outer s H d Q E n h=>e c A outer s H d Q E n h
end
def Gp(s:Stmt):List Stmt:=match s with|.ClassDef _ _ _ b _ _ _ _ _ _ _=>b|_=>[]
end L2
namespace L2
open PySem PySem.W PyProof.Rows
abbrev bW:=cb⊕List cb
section
variable(P:MU)(w:World)
def gX:bW->Int|.inl k=>(aS P w).hash k|.inr []=>hashW w.params .none|.inr (k::a)=>(tupleKind (aS P w)).hash (k::a)
def jz:bW->Nat|.inl _=>1|.inr a=>a.length+1
def kN(h:Heap)(k:bW)(v:Value):Prop:=match k with|.inl k=>(aS P w).is k v=true|.inr []=>v=.none|.inr (k::b)=>∃a,v=.ref a/\(tupleKind (aS P w)).is h (k::b) a
abbrev jC:=bW×Value×Value
def rB(x:jC):DictEntry:=⟨gX P w x.1,x.2.1,x.2.2⟩
end
section
variable{P:MU}{w:World}{A:Around}{E:MQ}{s:Shared}
def kN.flat(x:kN P w h (.inl k) v):(∃i t,v=.int i t/\k=.inl i)\/∃z t,v=.str z t/\k=.inr z:=by have x:m4 k v=true:=x;cases k with
 |inl i=>have x:Value.isInt i v=true:=x;cases v with|int j t=>simp[Value.isInt]at x;exact .inl ⟨_,_,rfl,by rw[x]⟩|_=>cases x
 |inr z=>have x:Value.isStrOf z v=true:=x;cases v with|str j t=>simp[Value.isStrOf]at x;exact .inr ⟨_,_,rfl,by rw[x]⟩|_=>cases x
def DE(d:A.units<cLine)(c:kN P w s.heap k v)(q:Q (gX P w k) {s with toks:=s.toks+jz k}):wpAny (model P w) A (pyHash v) Q E s:=by match k,c,q with|.inl k,c,q=>exact(aS P w).pyHash c q|.inr [],c,q=>cases c;exact pyHash_slot (T:="NoneType") rfl F.slot_NoneType_hash F.entry_NoneType_hash (F.args_NoneType_hash_1 _) (beq_builtin_none _) (.inr (by omega)) (a_ (e_ (a_ (wpAny_mkInt (e_ ⟨_,_,rfl,q⟩)))))|.inr (k::e),c,q=>obtain⟨a,rfl,b⟩:=c;exact(tupleKind (aS P w)).pyHash d b q
def Ks:SeqAt.EqAt A s .none .none true:=λprog w E Q a=>by unfold eqBool;refine m_ ?_;exact rd (λ_=>a_ (tw (e_ a))) (λz=>absurd (by decide) z)
def FZ(f:A.units<cLine)(d:kN P w s.heap x u)(c:kN P w s.heap y v)(q:Q (decide (x=y)) s):wpAny (model P w) A (eqBool u v) Q E s:=by match x,d,q with
 |.inl x,d,q=>match y,c,q with
  |.inl y,c,q=>exact(aS P w).eqBool d c (by simpa using q)|.inr [],c,q=>
   cases c;rw[j2 (by intro z;cases z)]at q;rcases kN.flat d with⟨i,t,rfl,_⟩|⟨z,t,rfl,_⟩
   ·exact SeqAt.EqAt.int_none i t P w E Q q
   ·exact SeqAt.EqAt.str_none z t P w E Q q|.inr (k::j),c,q=>
   obtain⟨a,rfl,o,g,n,e,hc,hd,hi⟩:=c;rw[j2 (by intro z;cases z)]at q;rcases kN.flat d with⟨i,t,rfl,_⟩|⟨z,t,rfl,_⟩
   ·exact SeqAt.EqAt.int_tuple i t ⟨_,e,hc,_,hd⟩ f P w E Q q
   ·exact SeqAt.EqAt.str_tuple z t ⟨_,e,hc,_,hd⟩ f P w E Q q
 |.inr [],d,q=>
  cases d
  match y,c,q with
  |.inl y,c,q=>
   rw[j2 (by intro z;cases z)]at q;rcases kN.flat c with⟨i,t,rfl,_⟩|⟨z,t,rfl,_⟩
   ·exact SeqAt.EqAt.none_int i t P w E Q q
   ·exact SeqAt.EqAt.none_str z t P w E Q q|.inr [],c,q=>cases c;rw[j1 rfl]at q;exact Ks P w E Q q|.inr (k::j),c,q=>obtain⟨a,rfl,o,g,n,e,hc,hd,hi⟩:=c;rw[j2 (by intro z;cases z)]at q;exact SeqAt.EqAt.none_tuple ⟨_,e,hc,_,hd⟩ f P w E Q q
 |.inr (k::j),d,q=>
  obtain⟨a,rfl,h⟩:=d
  match y,c,q with
 |.inl y,c,q=>
   obtain⟨o,g,n,e,hc,hd,hi⟩:=h;rw[j2 (by intro z;cases z)]at q;rcases kN.flat c with⟨i,t,rfl,_⟩|⟨z,t,rfl,_⟩
   ·exact SeqAt.EqAt.tuple_int i t ⟨_,e,hc,_,hd⟩ f P w E Q q
   ·exact SeqAt.EqAt.tuple_str z t ⟨_,e,hc,_,hd⟩ f P w E Q q|.inr [],c,q=>cases c;obtain⟨o,g,n,e,hc,hd,hi⟩:=h;rw[j2 (by intro z;cases z)]at q;exact SeqAt.EqAt.tuple_none ⟨_,e,hc,_,hd⟩ f P w E Q q|.inr (l::ls),c,q=>obtain⟨b,rfl,m⟩:=c;exact(tupleKind (aS P w)).eqBool f h m (by simpa using q)
def Am(c:kN P w s.heap k v)(q:Q true s):wpAny (model P w) A (eqIsQuiet 8 v) Q E s:=by match k,c with
 |.inl k,c=>
  rcases kN.flat c with⟨i,t,rfl,_⟩|⟨z,t,rfl,_⟩
  ·exact e_ q
  ·exact e_ q|.inr [],c=>cases c;exact e_ q|.inr (k::d),c=>obtain⟨a,rfl,b⟩:=c;exact(tupleKind (aS P w)).quiet b q
theorem kN.inj(d:kN P w h x v)(c:kN P w h y v):x=y:=by match x,d with
 |.inl x,d=>match y,c with|.inl y,c=>rw[(aS P w).inj v x y d c]|.inr [],c=>cases c;rcases kN.flat d with⟨i,t,e,_⟩|⟨z,t,e,_⟩<;>cases e|.inr (k::f),c=>obtain⟨a,rfl,_⟩:=c;rcases kN.flat d with⟨i,t,e,_⟩|⟨z,t,e,_⟩<;>cases e
 |.inr [],d=>
  cases d
  match y,c with|.inl y,c=>rcases kN.flat c with⟨i,t,e,_⟩|⟨z,t,e,_⟩<;>cases e|.inr [],_=>rfl|.inr (k::f),c=>obtain⟨a,e,_⟩:=c;cases e
 |.inr (k::f),d=>
  obtain⟨a,rfl,g⟩:=d
  match y,c with|.inl y,c=>rcases kN.flat c with⟨i,t,e,_⟩|⟨z,t,e,_⟩<;>cases e|.inr [],c=>cases c|.inr (l::ls),c=>obtain⟨b,e,j⟩:=c;cases e;rw[(tupleKind (aS P w)).inj g j]
def FY{k:bW}{v:Value}{st:MT}{Q:Bool->Shared->Prop}(d:kN P w s.heap k v)(e:∀u∈st,∃a,kN P w s.heap a u)(q:Q false s):wpAny (model P w) A (tableMayTell v st) Q E s:=by
 unfold tableMayTell
 split
 ·exact e_ q
 ·refine a_ (Am d ?_);simp only[Bool.not_true,H_,L4];refine a_ (MC _ (λleft r b=>b=s/\r=(none,())/\∀u∈left,∃a,kN P w s.heap a u) _ ?_ ?_ _ _ ⟨rfl,rfl,e⟩)
  ·rintro u left r b⟨rfl,rfl,c⟩;obtain⟨a,f⟩:=c u ir;refine a_ (Am f ?_);simp only[Bool.not_true,H_,L4];exact e_ ⟨rfl,rfl,λz g=>c z (hY _ g)⟩
  ·rintro r b⟨rfl,rfl,_⟩;exact e_ q
def J7{a:Array DictEntry}{c:List jC}(d:a.toList=c.map (rB P w))(j:Nat):a[j]?=(c[j]?).map (rB P w):=by rw[<-si,d,ge]
def DC{a:Array DictEntry}{c:List jC}(d:a.toList=c.map (rB P w)):a.size=c.length:=by rw[<-kt,d,b_]
def DD{a:List jC}(hn:(a.map (·.1)).Nodup){i j:Nat}{k:bW}{p q:Value×Value}(hi:a[i]?=some (k,p))(c:a[j]?=some (k,q)):i=j:=by
 have b:(a.map (·.1))[i]?=some k:=by rw[ge,hi];rfl
 have d:(a.map (·.1))[j]?=some k:=by rw[ge,c];rfl
 exact(LV (d_.mp b).1 hn).mp (b.trans d.symm)
def Lb[Decidable c](h1:c->wpAny (model P w) A t Q E s)(h2:¬c->wpAny (model P w) A u Q E s):wpAny (model P w) A (if c then t else u) Q E s:=by
 by_cases h:c
 ·rw[hQ h];exact h1 h
 ·rw[g8 h];exact h2 h
def IV(a:List jC)(k:bW)(s:Shared)(b:Option (Option Nat)×Option Nat)(c:Shared):Prop:=c=s/\((∃j p,b=(some (some j),none)/\a[j]?=some (k,p))\/(b.1=none/\((b.2=none/\∀(j:Nat)(p:Value×Value),a[j]?≠some (k,p))\/∃j p,b.2=some j/\a[j]?=some (k,p))))
def Ii{h:List jC}{k:bW}{a:MY}(hn:(h.map (·.1)).Nodup)(u:∀j p,h[j]?=some (k,p)->j∈a)(v:∀j∈a,∃y:jC,h[j]?=some y/\gX P w y.1=gX P w k)(m:a.Nodup)(f:Nat->Option (Option Nat)×Option Nat->Sem (ForInStep (Option (Option Nat)×Option Nat)))(h1:∀(x:Nat)(p:Value×Value)(R:ForInStep (Option (Option Nat)×Option Nat)->Shared->Prop),x∈a->h[x]?=some (k,p)->R (.done (some (some x),none)) s->R (.yield (none,some x)) s->wpAny (model P w) A (f x (none,none)) R E s)(h2:∀(x:Nat)(n:Option Nat)(y:jC)(R:ForInStep (Option (Option Nat)×Option Nat)->Shared->Prop),x∈a->h[x]?=some y->gX P w y.1=gX P w k->y.1≠k->R (.yield (none,n)) s->wpAny (model P w) A (f x (none,n)) R E s):wpAny (model P w) A (forIn a ((none,none):Option (Option Nat)×Option Nat) f) (IV h k s) E s:=by
 refine MC f (λleft b B=>B=s/\b.1=none/\∃pre,a=pre++left/\((b.2=none/\∀j∈pre,∀p,h[j]?≠some (k,p))\/∃j p,b.2=some j/\j∈pre/\h[j]?=some (k,p))) _ ?_ ?_ _ _ ⟨rfl,rfl,[],rfl,.inl ⟨rfl,by simp⟩⟩
 ·rintro x left⟨b1,b2⟩B⟨rfl,rfl,pre,o,t⟩;have i:x∈a:=by rw[o];simp
  have C:x∉pre:=λz=>by rw[o,ov]at m;exact m.2.2 x z x ir rfl
  obtain⟨y,l,hh⟩:=v x i;have r:a=(pre++[x])++left:=by rw[o];simp
  by_cases e:y.1=k
  ·obtain⟨D,p⟩:=y;have e:D=k:=e;subst e;rcases t with⟨rfl,g⟩|⟨j,q,rfl,d,c⟩
   ·refine h1 x p _ i l ⟨rfl,.inl ⟨x,p,rfl,l⟩⟩ ⟨rfl,rfl,pre++[x],r,.inr ⟨x,p,rfl,by simp,l⟩⟩
   ·exact absurd (DD hn c l▸d) C
  ·refine h2 x b2 y _ i l hh e ⟨rfl,rfl,pre++[x],r,?_⟩;rcases t with⟨rfl,g⟩|⟨j,q,rfl,d,c⟩
   ·refine .inl ⟨rfl,λj d p z=>?_⟩;rcases List.mem_append.mp d with d|d
    ·exact g j d p z
    ·rw[List.mem_singleton.mp d,l]at z;cases z;exact e rfl
   ·exact .inr ⟨j,q,rfl,vu _ d,c⟩
 ·rintro⟨b1,b2⟩B⟨rfl,rfl,pre,o,t⟩;refine⟨rfl,.inr ⟨rfl,?_⟩⟩;rcases t with⟨rfl,g⟩|⟨j,q,rfl,d,c⟩
  ·refine .inl ⟨rfl,λj p z=>g j ?_ p z⟩;have:=u j p z;rw[o,t_]at this;exact this
  ·exact .inr ⟨j,q,rfl,c⟩
def DF{d:Addr}{o:Obj}{n:Array DictEntry}{ep:Nat}{C:List jC}{k:bW}{g:Value}{Q:Option Nat->Shared->Prop}(hu:A.units<cLine)(f:kN P w s.heap k g)(L:s.heap.get? d=some o)(hd:o.data=.dict n ep)(he:n.toList=C.map (rB P w))(u:∀x∈C,kN P w s.heap x.1 x.2.1)(hn:(C.map (·.1)).Nodup)(D:(∀(j:Nat)(p:Value×Value),C[j]?≠some (k,p))->Q none s)(q:∀(j:Nat)(p:Value×Value),C[j]?=some (k,p)->Q (some j) s):wpAny (model P w) A (dictFind d g (gX P w k)) Q E s:=by
 have sz:=DC he;have B:=J7 he;generalize K:placesWithHash n.size (λi=>n[i]?.map (·.hash)) (gX P w k)=c;have al:∀j p,C[j]?=some (k,p)->j∈c:=λj p l=>by
  rw[<-K];unfold placesWithHash;refine tA.mpr ⟨q_.mpr ?_,?_⟩
  ·rw[sz];exact(d_.mp l).1
  ·show(n[j]?.map (·.hash)==some (gX P w k))=true;rw[B j,l];simp[rB]
 have S:∀j∈c,∃y:jC,C[j]?=some y/\gX P w y.1=gX P w k:=λj l=>by rw[<-K]at l;unfold placesWithHash at l;obtain⟨h1,h2⟩:=tA.mp l;have h1:=q_.mp h1;rw[sz]at h1;refine⟨C[j],fy h1,?_⟩;have h2:(n[j]?.map (·.hash)==some (gX P w k))=true:=h2;rw[B j,fy h1]at h2;simpa[rB]using h2
 have ap:c.Nodup:=by rw[<-K];exact List.filter_sublist.nodup List.nodup_range
 have plain:wpAny (model P w) A (dictWalkPlain d g (gX P w k) n c) Q E s:=by
  unfold dictWalkPlain;refine a_ (MC _ (λleft b s'=>s'=s/\b=(none,())/\∃pre,c=pre++left/\∀j∈pre,∀p,C[j]?≠some (k,p)) _ ?_ ?_ _ _ ⟨rfl,rfl,[],rfl,by simp⟩)
  ·rintro x left b s'⟨rfl,rfl,pre,hp,T⟩;obtain⟨⟨M,kv,v'⟩,m,hh⟩:=S x (by rw[hp];simp);have G:n[x]?=some ⟨gX P w M,kv,v'⟩:=by rw[B x,m];rfl
   rw[G];dsimp only;rw[hQ (by rw[hh];simp)];refine a_ (t8 L hd (a_ (FZ (x:=M) (y:=k) hu (u _ (ga m)) f (a_ (t8 L hd ?_)))));show wpAny (model P w) A (if(ep !=ep)=true then _ else _) _ E s';rw[g8 (by simp)]
   by_cases N:M=k
   ·rw[j1 N];subst N;exact a_ (tw (e_ (e_ (q x _ m))))
   ·rw[j2 N];refine a_ (tw (e_ ⟨rfl,rfl,pre++[x],by rw[hp];simp,λj l p z=>?_⟩));rcases List.mem_append.mp l with l|l
    ·exact T j l p z
    ·rw[List.mem_singleton.mp l,m]at z;cases z;exact N rfl
  ·rintro b s'⟨rfl,rfl,pre,hp,T⟩;refine e_ (D λj p z=>T j ?_ p z);have:=al j p z;rw[hp,t_]at this;exact this
 have an:∀v∈c.filterMap (λi=>n[i]?.map (·.key)),∃M,kN P w s.heap M v:=λv U=>by obtain⟨i,hi,U⟩:=LO.mp U;obtain⟨y,I,_⟩:=S i hi;rw[B i,I]at U;cases U;exact⟨_,u y (ga I)⟩
 unfold dictFind
 with_reducible refine m_ ?_
 refine a_ (wpAny_dictEntries L hd ?_);dsimp only;rw[K];generalize a6:c.filterMap (λi=>n[i]?.map (·.key))=stored at an⊢;have H:∀z t,g=.str z t->(n.all λe=>isExactStrKey e.key)=true->wpAny (model P w) A (foundByValue d g n z) Q E s:=by
  rintro z t rfl-;have ek:k=.inl (.inr z):=by
   cases k with|inl k=>
    rcases f.flat with⟨i,t',e,_⟩|⟨z',t',e,e2⟩
    ·cases e
    ·cases e;rw[e2]|inr ks=>cases ks with|nil=>cases f|cons k ks=>obtain⟨a,e,_⟩:=f;cases e
  have as:∀(j:Nat)(y:jC),C[j]?=some y->y.2.1.isStr z=true->y.1=k:=λj y I J=>by have h3:=u y (ga I);refine kN.inj h3 ?_;rw[ek];cases U:y.2.1 with
 |str z' t'=>
    rw[U]at J;have:z'=z:=by simpa[Value.isStr]using J
    rw[this];exact qP P w z t'|_=>rw[U]at J;cases J
  have av:∀(j:Nat)(p:Value×Value),C[j]?=some (k,p)->p.1.isStr z=true:=λj p l=>by
   have h3:kN P w s.heap k p.1:=u _ (ga l);rw[ek]at h3;rcases h3.flat with⟨i,t',_,e⟩|⟨z',t',e,e2⟩
   ·cases e
   ·cases e2;rw[e];simp[Value.isStr]
  unfold foundByValue;cases hf:n.findIdx? (λe=>e.key.isStr z)with
 |none=>
   refine e_ (D λj p l=>?_);have F:=Array.findIdx?_eq_none_iff.mp hf;have h4:n[j]?=some (rB P w (k,p)):=by rw[B j,l];rfl
   have h5:=F _ (Array.mem_of_getElem? h4);have h6:p.1.isStr z=false:=by simpa[rB]using h5
   rw[av j p l]at h6;cases h6|some i=>
   obtain⟨V,hi,_⟩:=Array.findIdx?_eq_some_iff_getElem.mp hf;have m:C[i]?=some (C[i]'(by rw[<-sz];exact V)):=fy _;generalize C[i]'(by rw[<-sz];exact V)=y at m;have G:n[i]?=some (rB P w y):=by rw[B i,m];rfl
   have ax:y.2.1.isStr z=true:=by rw[r3 V]at G;rw[kl G]at hi;exact hi
   have I:=as i y m ax;obtain⟨M,p⟩:=y;have I:M=k:=I;subst I;dsimp only;rw[G];dsimp only;refine a_ (t8 L hd (a_ (FZ (x:=M) (y:=M) hu (u _ (ga m)) f (a_ (t8 L hd ?_)))));rw[g8 (by simp),hQ (j1 rfl)];exact a_ (tw (e_ (q i p m)))
 have O:∀a,g=.ref a->¬(n.any λe=>e.key==g&&e.hash !=gX P w k)=true:=by intro a ea;rw[<-Array.any_toList,he,MG];rintro⟨e,a2,hc⟩;obtain⟨y,I,rfl⟩:=j_.mp a2;simp only[rB,lm,beq_iff_eq,bne_iff_ne,ne_eq]at hc;have h3:=u y I;rw[hc.1]at h3;exact hc.2 (by rw[h3.inj f])
 by_cases F:((g::stored).all carriedByValue)=true
 ·rw[hQ F]
  split
  ·rename_i z t
   split
   ·rename_i J;exact H z t rfl J
   ·exact plain
  ·exact plain
 ·rw[g8 F];have W:(∃i t,g=.int i t)\/(∃z t,g=.str z t)\/(∃a,g=.ref a)\/g=.none:=by
   cases k with|inl k=>
    rcases f.flat with⟨i,t,e,_⟩|⟨z,t,e,_⟩
    ·exact .inl ⟨i,t,e⟩
    ·exact .inr (.inl ⟨z,t,e⟩)|inr ks=>cases ks with|nil=>exact .inr (.inr (.inr f))|cons k ks=>obtain⟨a,e,_⟩:=f;exact .inr (.inr (.inl ⟨a,e⟩))
  have X:∀(x:Nat)(p:Value×Value),C[x]?=some (k,p)->∃e,n[x]?=some e/\e.hash=gX P w k/\kN P w s.heap k e.key:=λx p m=>⟨_,by rw[B x,m];rfl,rfl,u _ (ga m)⟩;have Y:∀(x:Nat)(y:jC),C[x]?=some y->∃e,n[x]?=some e/\e.hash=gX P w y.1/\kN P w s.heap y.1 e.key:=λx y m=>⟨_,by rw[B x,m];rfl,rfl,u _ (ga m)⟩;rcases W with⟨i,t,e⟩|⟨z,t,e⟩|⟨a,e⟩|e
  case' inl=>subst e;dsimp only
  case' inr.inl=>
   subst e;dsimp only
   by_cases J:(n.all λe=>isExactStrKey e.key)=true
   case pos=>rw[hQ J];exact H z t rfl J
   case' neg=>rw[g8 J]
  case' inr.inr.inl=>subst e;dsimp only;rw[g8 (O a rfl)]
  case' inr.inr.inr=>subst e;dsimp only
  all_goals refine Lb (λ_=>a_ (e_ ?_)) (λ_=>a_ (FY f an ?_))
  all_goals rw[g8 (by simp)];refine a_ (wpAny_mono (Ii (P:=P) (w:=w) hn al S ap _ ?_ ?_) (λb s' z=>?_) λ_ _ z=>z)
  all_goals first
   |(obtain⟨b1,b2⟩:=b
     obtain⟨rfl,h⟩:=z;rcases h with⟨j,p,e,l⟩|⟨e,h⟩
     ·cases e;exact e_ (q j p l)
     ·have e:b1=none:=e;subst e;rcases h with⟨e,h⟩|⟨j,p,e,l⟩<;>(have e:b2=_:=e;subst e)
      ·exact e_ (D h)
      ·exact e_ (q j p l))
   |(intro x p R a3 m r1 r2
     obtain⟨e,Z,aa,ad⟩:=X x p m;rw[Z];dsimp only;rw[hQ (by rw[aa];simp)];refine a_ (t8 L hd (a_ (FZ (x:=k) (y:=k) hu ad f (a_ (t8 L hd ?_)))));rw[g8 (by simp),hQ (j1 rfl),g8 (by simp)];refine a_ (tw ?_)
     split
     ·exact e_ r1
     ·exact e_ r2)
   |(intro x a7 y R a3 m hh a5 r
     obtain⟨e,Z,aa,ad⟩:=Y x y m;rw[Z];dsimp only;rw[hQ (by rw[aa,hh];simp)];refine a_ (t8 L hd (a_ (FZ (x:=y.1) (y:=k) hu ad f (a_ (t8 L hd ?_)))));rw[g8 (by simp),g8 (by simp[a5])];refine a_ (tw ?_);rw[g8 (by simp)];exact e_ r)
end
end L2
namespace L2
open PySem PySem.W PyProof.Rows
section
variable{P:MU}{w:World}{A:Around}{E:MQ}{s:Shared}
def An{c:Type}{a:List (bW×c)}(hn:(a.map (·.1)).Nodup){j:Nat}{k:bW}{p:c}(d:a[j]?=some (k,p)):a.find? (λx=>decide (x.1=k))=some (k,p):=by
 rw[List.find?_eq_some_iff_append];obtain⟨g,e⟩:=d_.mp d;refine⟨j1 rfl,a.take j,a.drop (j+1),?_,λy h=>?_⟩
 ·rw[<-e,List.getElem_cons_drop,r_]
 ·obtain⟨i,hi⟩:=ji.mp h;have b:i<j:=by have:=(d_.mp hi).1;rw[i_]at this;omega
  rw[LY b]at hi;have:y.1≠k:=λz=>by
   have f:(a.map (·.1))[i]?=some k:=by rw[ge,hi,<-z];rfl
   have l:(a.map (·.1))[j]?=some k:=by rw[ge,d];rfl
   have:=(LV (d_.mp f).1 hn).mp (f.trans l.symm);lia
  simp[this]
def vD{c:Type}{d:List (bW×c)}{k:bW}(h:∀(j:Nat)(p:c),d[j]?≠some (k,p)):d.find? (λx=>decide (x.1=k))=none:=by rw[List.find?_eq_none];intro x b a;obtain⟨j,e⟩:=ji.mp b;have a:x.1=k:=op a;exact h j x.2 (by rw[e,<-a])
structure iV(P:MU)(w:World)(h:Heap)(d:Addr)(ys:List jC):Prop where ok:∃o es ep,h.get? d=some o/\o.ExactDict/\o.data=.dict es ep/\es.toList=ys.map (rB P w)nd:(ys.map (·.1)).Nodup
def fk{c a:Type}(d:List (bW×c×a))(k:bW):Option a:=(d.find? λy=>decide (y.1=k)).map (·.2.2)
def fZ{a c:Type}(d:List (bW×a×c))(k:bW)(e:a)(v:c):List (bW×a×c):=if(fk d k).isSome then d.map λy=>if y.1=k then(y.1,y.2.1,v)else y else d++[(k,e,v)]
def J6{d:Addr}{e:List jC}{k:bW}{c:Value}{Q:Option Value->Shared->Prop}(g:A.units<cLine)(a:kN P w s.heap k c)(hm:iV P w s.heap d e)(f:∀x∈e,kN P w s.heap x.1 x.2.1)(q:Q (fk e k) {s with toks:=s.toks+jz k}):wpAny (model P w) A (dictGet d c) Q E s:=by
 obtain⟨o,l,m,b,hc,hd,h⟩:=hm.ok;unfold dictGet
 with_reducible refine m_ ?_
 refine a_ (DE g a (a_ (DF (s:={s with toks:=s.toks+jz k}) g a b hd h f hm.nd (λno=>?_) λj p i=>?_)))
 ·unfold fk at q;rw[vD no]at q;exact e_ q
 ·unfold fk at q;rw[An hm.nd i]at q;refine a_ (wpAny_dictEntries (s:={s with toks:=s.toks+jz k}) b hd ?_);rw[J7 h j,i];exact e_ q
def Ij(a:List (bW×d×c))(k:bW)(v:c):(a.map λy=>if y.1=k then(y.1,y.2.1,v)else y).map (·.1)=a.map (·.1):=by
 rw[ri];refine wh λy _=>?_;show(if y.1=k then(y.1,y.2.1,v)else y).1=y.1
 split<;>rfl
def J5{d:Addr}{f:List jC}{k:bW}{c v:Value}{Q:Unit->Shared->Prop}(u:A.units<cLine)(g:kN P w s.heap k c)(hm:iV P w s.heap d f)(n:∀x∈f,kN P w s.heap x.1 x.2.1)(C:f.length<sizeLine)(q:∀h',iV P w h' d (fZ f k c v)->Heap.SameBut d s.heap h'->Q () {s with heap:=h',toks:=s.toks+jz k}):wpAny (model P w) A (dictSet d c v) Q E s:=by
 obtain⟨o,H,B,h,hc,hd,m⟩:=hm.ok;unfold dictSet
 with_reducible refine m_ ?_
 refine a_ (DE u g ?_);unfold dictSetHashed
 with_reducible refine m_ ?_
 refine a_ (DF (s:={s with toks:=s.toks+jz k}) u g h hd m n hm.nd (λno=>?_) λj p l=>?_)
 ·have r:fZ f k c v=f++[(k,c,v)]:=by unfold fZ fk;rw[vD no];rfl
  have D:k∉f.map (·.1):=λz=>by obtain⟨y,F,e⟩:=j_.mp z;obtain⟨j,l⟩:=ji.mp F;exact no j y.2 (by rw[l,<-e])
  rw[r]at q;refine a_ (tw (wpAny_updateDictKeys (hz:=by have:=DC m;omega) (s:={s with toks:=s.toks+jz k}) h hd (q _ ⟨⟨_,_,B+1,qx _ h (Obj.isFreed_of_dict (Obj.data_mapDictKeys hd _)),hc.mapDictKeys _,Obj.data_mapDictKeys hd _,?_⟩,?_⟩ (wr ..))))
  ·rw[MA,m,g6];rfl
  ·rw[g6,ov];refine⟨hm.nd,by simp,λa G b t e=>D ?_⟩;have t:b=k:=List.mem_singleton.mp t;rw[<-t,<-e];exact G
 ·have r:fZ f k c v=f.map λy=>if y.1=k then(y.1,y.2.1,v)else y:=by unfold fZ fk;rw[An hm.nd l];rfl
  rw[r]at q;refine a_ (tw (a_ (wpAny_updateDict (s:={s with toks:=s.toks+jz k}) h hd (wpAny_point (q _ ⟨⟨_,_,B,qx _ h (Obj.isFreed_of_dict (Obj.data_mapDict hd _)),hc.mapDict _,Obj.data_mapDict hd _,?_⟩,by rw[Ij];exact hm.nd⟩ (wr ..))))));rw[Array.toList_modify,m];refine th λi=>?_;rw[List.getElem?_modify,ge,ge,ge];cases hi:f[i]?with|none=>by_cases e:j=i<;>simp[e]|some y=>
   by_cases e:j=i
   ·subst e;rw[l]at hi;cases hi;simp[rB]
   ·have:y.1≠k:=λz=>e (DD hm.nd l (q:=y.2) (by rw[hi,<-z]));simp[e,this]
def iV.type(hm:iV P w s.heap d c):s.TypeIs (.ref d) "dict":=let⟨o,_,_,a,hc,_⟩:=hm.ok;⟨o,a,hc.1⟩
def iV.bare(hm:iV P w s.heap d c):∀b,Value.ref d=.ref b->∃ob,s.heap.get? b=some ob/\ob.dict=none:=λb e=>by cases e;obtain⟨o,_,_,a,hc,_⟩:=hm.ok;exact⟨o,a,hc.2.1⟩
def zp(d:Addr)(a dflt:Value)(hd:(d==sysModules)=false):MeetsIn P w (Builtin.«dict.get» ⟨[.ref d,a,dflt],[]⟩) (λA R s=>A.in1.units<cLine/\∃k c,kN P w s.heap k a/\iV P w s.heap d c/\(∀x∈c,kN P w s.heap x.1 x.2.1)/\R (.ok (.ret ((fk c k).getD dflt))) {s with toks:=s.toks+jz k}):=.of_wp λA R s⟨e,k,c,f,hm,hi,h⟩=>by show wpAny (model P w) _ (dictGet d a>>=_) _ _ s;refine a_ (J6 e f hm hi ?_);cases b:fk c k with|some v=>rw[b]at h;exact e_ ⟨v,rfl,h⟩|none=>rw[b]at h;exact a_ (wpAny_missed_other hd (e_ ⟨dflt,rfl,h⟩))
def Bo(g:A.in1.units<cLine)(c:kN P w s.heap k a)(hm:iV P w s.heap d e)(f:∀x∈e,kN P w s.heap x.1 x.2.1)(h:e.length<sizeLine)(q:∀h',iV P w h' d (fZ e k a v)->Heap.SameBut d s.heap h'->Q () {s with heap:=h',toks:=s.toks+jz k}):wpAny (model P w) A (setItem (.ref d) a v) Q E s:=by
 unfold setItem
 with_reducible refine m_ ?_
 refine a_ (wpAny_sequenceKey hm.type (by decide) (a_ (oe (name:=Str.ofString "__setitem__") hm.type slot_dict_setitem (nk slot_dict_setitem hm.type entry_dict_setitem ?_ (args_dict_setitem _ _ _)))));show wpAny (model P w) _ (Builtin.Dict.notOrdered "__setitem__" ⟨[.ref d,a,v],[]⟩>>=_) _ _ s;refine a_ (wpAny_notOrdered_dict hm.type ?_);show wpAny (model P w) A.in1 (dictSet d a v>>=_) _ _ s;exact a_ (J5 g c hm f h λh' h1 h2=>e_ ⟨.none,rfl,e_ (q h' h1 h2)⟩)
end
abbrev ic:=bW×V×V
def qv(a:List ic)(c:List jC):Prop:=Paired (λ(p:ic)(q:jC)=>p.1=q.1/\aU p.2.1 q.2.1/\aU p.2.2 q.2.2) a c
abbrev dM(P:MU)(w:World)(d:Addr)(c:List ic):HO:=.ext λh=>(d==sysModules)=false/\∃a,qv c a/\iV P w h d a
def cW(K:MP)(H:Hp)(k:bW)(v:V):Prop:=match k with|.inl k=>v=kV k|.inr []=>v=.non|.inr (k::b)=>∃a,v=.ref a/\aX K H a ((k::b).map kV)
def d9(K:MP)(H:Hp)(a:List ic):Prop:=∀x∈a,cW K H x.1 x.2.1
def iV.keep(m:iV P w h1 d a)(k:∀o,h1.get? d=some o->h2.get? d=some o):iV P w h2 d a:=let⟨o,b,c,e,r⟩:=m.ok;⟨⟨o,b,c,k o e,r⟩,m.nd⟩
def GY(hd:(d==sysModules)=false)(r:qv a ys)(m:iV P w h d ys):cV P w H h d (dM P w d a):=⟨⟨hd,ys,r,m⟩,let⟨o,_,_,e,_⟩:=m.ok;⟨o,e⟩,λ_ _⟨h1,ys,h2,h3⟩k=>⟨h1,ys,h2,h3.keep k⟩⟩
def cW.is(I:aN X f l H s)(h:cW X.K H k v)(r:aU v u):kN X.prog X.w s.heap k u:=by cases k with|inl k=>have h:v=kV k:=h;subst h;exact oX r|inr b=>cases b with|nil=>have h:v=.non:=h;subst h;exact r|cons k b=>obtain⟨a,rfl,g⟩:=h;cases r;obtain⟨i,j,⟨o,e,c,n,d⟩,_⟩:=I.tuple g;exact⟨a,rfl,o,_,n,e,c,d,pZ j⟩
theorem qv.keys(I:aN X c g H s):∀{d:List ic}{e:List jC},qv d e->d9 X.K H d->∀y∈e,kN X.prog X.w s.heap y.1 y.2.1
 |_,_,.nil,_,y,b=>nomatch b|_,_,.cons (a:=p) r t,k,y,b=>by
  rcases o_.mp b with rfl|b
  ·rw[<-r.1];exact(k p ir).is I r.2.1
  ·exact qv.keys I t (λx f=>k x (hY _ f)) y b
theorem qv.val:∀{a:List ic}{c:List jC},qv a c->∀k,kf (fk a k) (fk c k)
 |_,_,.nil,_=>True.intro|p::a,q::c,.cons r t,k=>by
  unfold fk;rw[pv,pv,<-r.1]
  by_cases e:p.1=k
  ·rw[j1 e];exact r.2.2
  ·rw[j2 e];exact qv.val t k
def qv.put(h:qv c d)(g:aU i j)(f:aU v u):qv (fZ c k i v) (fZ d k j u):=by
 have a:(fk c k).isSome=(fk d k).isSome:=(h.val k).isSome_eq;unfold fZ;rw[a]
 split
 ·rename_i hc;clear a hc
  induction h with|nil=>exact .nil|@cons p q l m r t b=>
   refine .cons ?_ b;dsimp only;rw[<-r.1]
   by_cases e:p.1=k
   ·rw[hQ e,hQ e];exact⟨rfl,r.2.1,f⟩
   ·rw[g8 e,g8 e];exact r
 ·rename_i hc;clear a hc
  induction h with|nil=>exact .cons ⟨rfl,g,f⟩ .nil|cons r t b=>exact .cons r b
def qv.len(h:qv a c):a.length=c.length:=Paired.length h
section
variable{X:Cx}{P:MU}{w:World}{o e f:Expr}{l g c:Pos}{j ty tx:TE}
def Hk(P:MU)(w:World):TE:=λ_ H Q=>∀p,H p=none->Q (.ref p) (aG H p (dM P w p []))
def C5(d:X.prog=P:=by rfl)(i:X.w=w:=by rfl):PE X (.Dict [] [] l) (Hk P w):=λb s k H Q I h=>by subst d i;refine wpAny_Dict_empty ⟨.ref s.heap.objs.size,_,I.laid (a:=s.heap.objs.size) (o:=dM X.prog X.w s.heap.objs.size []) (t':=s.toks) (λ_ _ q=>c_ _ q) (fx _) ?_,rfl,h _ (I.hok.fresh (fx _))⟩;exact GY (ys:=[]) (v_.mpr λz=>absurd (z▸I.big) (ot _)) .nil ⟨⟨_,#[],0,f_ _ rfl,⟨rfl,rfl,rfl⟩,rfl,rfl⟩,LN⟩
def Hi(K:MP)(P:MU)(w:World)(j ty tx:TE):TE:=λd H Q=>j d H λx m=>∃a h,x=.ref a/\m a=some (dM P w a h)/\ty d m λy n=>tx d n λz b=>∃i k,b a=some (dM P w a i)/\d9 K b i/\cW K b k y/\Q ((fk i k).getD z) b
def C4(K:MP)(v:X.K=K)(B:X.A.units+1<cLine)(C:PE X o j)(D:PE X e ty)(E:PE X f tx)(m:M2 X o "get" g e f c)(G:X.prog=P:=by rfl)(J:X.w=w:=by rfl):PE X (.Call (.Attribute o "get" g) [e,f] [] c) (Hi K P w j ty tx):=by subst G J v;intro b s q H Q I h;refine K_ m.base m.few m.line PySem.F.plainAttrs_dict PySem.F.slot_dict_get PySem.F.type_dict_get (ce (C b s q H _ I h) λu L i=>?_);obtain⟨x,M,I1,N,a,O,ex,d,R⟩:=i;subst ex;cases(show u=Value.ref a from N);obtain⟨⟨_,S,_,r⟩,_⟩:=I1.hok a _ d;refine⟨r.type,r.bare,?_⟩;rw[m.trees];refine pw rfl (sT (pu (ce (D b L q M _ I1 R) λiv T i=>?_)));obtain⟨y,U,V,Y,Z⟩:=i;refine pu (ce (E b T q U _ V Z) λfv s3 i=>?_);obtain⟨z,H3,p,rz,xs,k,d3,ks,hk,q3⟩:=i;refine to ?_;obtain⟨⟨hd,ys,n,t⟩,_⟩:=p.hok a _ d3;refine yl PySem.F.slot_dict_get t.type PySem.F.entry_dict_get (PySem.F.args_dict_get_3 _ _ _) (zp a iv fv hd) ⟨B,k,ys,hk.is p Y,t,n.keys p ks,?_⟩;exact⟨_,H3,p.tok _,(n.val k).getD rz,q3⟩
def JO(K:MP)(P:MU)(w:World):Gw:=λo i v H Q=>∃a b k,o=.ref a/\H a=some (dM P w a b)/\d9 K H b/\cW K H k i/\b.length<sizeLine/\Q (aG H a (dM P w a (fZ b k i v)))
def CI(K:MP)(t:X.K=K)(x:X.A.units+1<cLine)(y:X.prog=P:=by rfl)(z:X.w=w:=by rfl):GB X (JO K P w):=by subst y z t;intro n s J H o i v L iv u Q I B p C h;obtain⟨a,M,k,rfl,d,D,E,F,q⟩:=h;cases B;obtain⟨⟨hd,N,b,m⟩,_⟩:=I.hok a _ d;refine Bo x (E.is I p) m (b.keys I D) (by rw[<-b.len];exact F) λh' r G=>?_;refine⟨_,rR I (by rw[d];exact True.intro) G (let⟨o,_,_,e,_⟩:=r.ok;⟨o,e⟩) ?_,q⟩;exact GY hd (b.put p C) r
end
end L2
namespace L2
open PySem PySem.W PyProof.Rows
section
variable{X:Cx}{o e c:Expr}{f:Str}{j g:Pos}{l m:TE}
def aK(K:MP)(a:X.K=K)(d:PE X e l)(h:attributeBase e f X.env (eval e X.env)=eval e X.env:=by rfl):PE X (.Attribute e f j) (JA K l f):=by subst a;exact HU d h
def cn(K:MP)(a:X.K=K)(d:PE X o l)(h:PE X c m)(i:swapsWith c (some (.Attribute o f g)) j.line X.env=pure false:=by rfl):PS X (.Assign [.Attribute o f g] c j) (JL K l m f):=by subst a;exact HN d h i
def JQ:Gw:=λo i v H Q=>∃a b k,o=.ref a/\i=kV k/\H a=some (.dK b)/\b.length<sizeLine/\Q (aG H a (.dK (eR b k v)))
def pD(n:X.A.units+1<cLine):GB X JQ:=by intro b s z H o i v B iv u Q I p r t h;obtain⟨a,w,k,rfl,rfl,d,x,q⟩:=h;cases p;exact BF n I (GG.k d x) r t λC y=>⟨_,y,q⟩
end
end L2
namespace L2
open PySem PySem.W PyProof.Rows
section
variable{P:MU}{w:World}{A:Around}{E:MQ}{s:Shared}
def DZ(ty:s.TypeIs (.ref r) "list_reverseiterator")(q:Q false s):wpAny (model P w) A (Builtin.List.listLengthHint (.ref r)) Q E s:=by
 unfold Builtin.List.listLengthHint;refine a_ (Ma (r:=none) ty (by rw[Mb,Lu];kernel_rfl) ?_);refine rd (λz=>absurd z (by decide+kernel)) (λ_=>?_);refine rd (λz=>absurd z (by decide)) (λ_=>?_);refine a_ (Ma (r:=some (.builtin "list_reverseiterator.__length_hint__")) ty (by rw[Mb,Lu];kernel_rfl) ?_);generalize a:("list_reverseiterator.__length_hint__":String)=nm
 wp_delta
 rw[show splitId nm=some ("list_reverseiterator","__length_hint__")from by subst a;decide+kernel];subst a;refine a_ (L1 (T:="list_reverseiterator") (b:=true) ty (by rw[Ml];kernel_rfl) ?_);refine rd (λz=>absurd z (by decide)) (λ_=>?_);refine rd (λ_=>?_) (λz=>absurd (by decide+kernel) z);refine rd (λz=>absurd z (by decide+kernel)) (λ_=>?_);exact e_ q
def y8(hh:A.handled=none)(p:s.heap.IsRevIter r l ((a.size:Int)-1))(D:s.heap.IsList l a)(hn:a.size<=sizeLine)(t:l≠r)(n:S≠r)(u:S≠l)(d:Value)(y:Nat)(G:s.heap.get? S=some {cls:=.type "list",data:=.seq #[] y})(q:∀h' tk g c,(∀b o,b≠S->b≠r->s.heap.get? b=some o->h'.get? b=some o)->h'.get? S=some {cls:=.type "list",dict:=none,data:=.seq g c,slots:=#[]}->ItemsOf (λi v=>a[a.size-1-i]?=some v) g a.size->R (.ok (.ret d)) {s with heap:=h',toks:=tk}):wpAny (model P w) A.in1 (Builtin.List.listExtendWith (.ref S) (.ref r) d) (λfin j=>match fin with|.done f=>R (.ok f) j|.again B=>B.quiet=true/\codeAny (model P w) A B R j) (λe j=>R (.error e) j) s:=by
 have W:=Walks.listRev (prog:=P) (w:=w) (A:=A.in1) hh r l t a;have go:∀(h:Heap)(k tk:Nat),h.IsRevIter r l ((a.size:Int)-1)->h.IsList l a->(∀b o,b≠S->s.heap.get? b=some o->h.get? b=some o)->h.get? S=some {cls:=.type "list",data:=.seq #[] k}->codeAny (model P w) A (.builtin "list.extend.loop" ⟨[.ref S,.ref r,d],[]⟩) R {s with heap:=h,toks:=tk}:=by
  intro h k tk x H I J;refine codeAny_extend_loopS W.toS hn S (by simp[n,u]) d a.size 0 _ #[] k rfl (kw _) ⟨kw _,by simpa using x,H⟩ J (ItemsOf.nil _) λj g c C K L=>?_;rw[Moved.eq_with C];refine q j.heap j.toks g c (λb o b1 b2 e=>C.heap b o (λm=>?_) (I b o b1 e)) K L;rcases o_.mp m with z|z
  ·exact b1 z
  ·exact b2 (List.mem_singleton.mp z)
 unfold Builtin.List.listExtendWith;refine a_ (Mv p.typeIs ?_);have ne:Builtin.List.listSameRef (.ref S) (.ref r)=false:=by simp[Builtin.List.listSameRef,n]
 have M:(Value.type "list_reverseiterator"==Value.type "list")=false:=by decide
 have N:(Value.type "list_reverseiterator"==Value.type "tuple")=false:=by decide
 simp only[ne,M,N,Bool.or_false,H_,L4];refine a_ (wpAny_pyIter_revIter p (a_ (m_ (DZ p.typeIs ?_))));refine rd (λz=>absurd z (by decide+kernel)) (λ_=>e_ ⟨Lz PySem.F.plain_extend_loop _,go s.heap y s.toks p D (λ_ _ _ e=>e) G⟩)
def CN(hh:A.handled=none)(u:s.heap.IsRevIter r l ((items.size:Int)-1))(x:s.heap.IsList l items)(hn:items.size<=sizeLine)(f:l≠r)(q:∀h' tk a c,(∀b o,b≠r->s.heap.get? b=some o->h'.get? b=some o)->h'.get? s.heap.objs.size=some {cls:=.type "list",dict:=none,data:=.seq a c,slots:=#[]}->ItemsOf (λi v=>items[items.size-1-i]?=some v) a items.size->Q (.ref s.heap.objs.size) {s with heap:=h',toks:=tk}):wpAny (model P w) A (call (.type "list") [.ref r]) Q E s:=by
 refine callType_codes (Q₁:=λobj k=>obj=.ref s.heap.objs.size/\k={s with heap:=s.heap.push {cls:=.type "list",data:=.seq #[]}}) PySem.F.called_list (PySem.F.typeCall_list_1 _) PySem.F.entry_list_init (code_list_new _ ⟨rfl,rfl⟩) λobj k z=>?_;obtain⟨rfl,rfl⟩:=z;have new:(s.heap.push {cls:=.type "list",data:=.seq #[]}).get? s.heap.objs.size=some {cls:=.type "list",data:=.seq #[]}:=f_ _ rfl;obtain⟨y,m,B,C⟩:=u;have n:s.heap.objs.size≠r:=md (hH m);obtain⟨D,p,cl,G,dl⟩:=x;have t:s.heap.objs.size≠l:=md (hH p);refine⟨⟨_,new,rfl⟩,PySem.F.args_list_init_2 _ _,?_⟩;show wpAny (model P w) _ (do let g<-Builtin.List.listItems (.ref s.heap.objs.size);Builtin.List.listUpdate (.ref s.heap.objs.size) (λ_=>#[]);letGo g.toList.reverse;Builtin.List.listExtendWith (.ref s.heap.objs.size) (.ref r) .none) _ _ _;refine a_ ?_;unfold Builtin.List.listItems;refine a_ (so new rfl (e_ (a_ (MJ new rfl (a_ (wpAny_letGo ?_))))));have d:=qx (Obj.mapSeq (λ_=>(#[]:MX))) new rfl;have keep:∀b o,b≠s.heap.objs.size->s.heap.get? b=some o->((s.heap.push {cls:=.type "list",data:=.seq #[]}).update s.heap.objs.size (Obj.mapSeq (λ_=>(#[]:MX)))).get? b=some o:=λb o h e=>by rw[rr _ _ (mu h)];exact c_ _ e
 refine y8 (A:=A.in1) hh ⟨y,keep _ _ (mu n) m,B,C⟩ ⟨D,keep _ _ (mu t) p,cl,G,dl⟩ hn f n t .none _ d λh' tk a c H I J=>?_;exact⟨rfl,q h' tk a c (λb o h e=>H b o (iA (hH e)) h (keep b o (iA (hH e)) e)) I J⟩
end
section
variable{X:Cx}{e:Expr}{te:TE}{i g f d:Pos}
def Jt(K:MP)(te:TE):TE:=λc H Q=>te c H λx a=>∃p b,x=.ref p/\aW K a p b/\∀l,a l=none->Q (.ref l) (aG a l (.lst b.reverse))
def zb(K:MP)(Z:X.K=K)(hc:X.calm=true)(g1:Gl X "list")(m1:X.mg "list"=none)(g2:Gl X "reversed")(m2:X.mg "reversed"=none)(he:PE X e te)(B:starEach [.Call (.Name "reversed" g) [e] [] d] X.env=[(false,eval (.Call (.Name "reversed" g) [e] [] d) X.env)]:=by rfl)(C:starEach [e] X.env=[(false,eval e X.env)]:=by rfl):PE X (.Call (.Name "list" i) [.Call (.Name "reversed" g) [e] [] d] [] f) (Jt K te):=by
 subst Z;intro y s N H Q I h;refine sm (kO I g1 m1 L2.qo (callWith_type1 ?_ B));rw[B];show wpAny (model X.prog X.w) X.A (spliced [(false,eval (.Call (.Name "reversed" g) [e] [] d) X.env)]) _ _ s;refine pu (sm (kO I g2 m2 L2.u3 (callWith_type1 ?_ C)));rw[C];show wpAny (model X.prog X.w) X.A (spliced [(false,eval e X.env)]) _ _ s;refine pu (ce (he y s N H _ I h) λu m Y=>?_);obtain⟨x,H1,I1,rx,p,xs,ex,hq,q⟩:=Y;refine to ?_;subst ex;cases(show u=Value.ref p from rx);obtain⟨k,O,⟨o,n,F,co,dd,ds⟩,P⟩:=I1.list hq;have hl:m.heap.IsList p k.toArray:=⟨o,F,co,n,ds⟩;refine call_reversed_list hl (to ?_);have pr:p≠m.heap.objs.size:=iA (hH F);have R:aN X y N H1 {m with heap:=m.heap.push (revObj p ((k.toArray.size:Int)-1))}:=I1.kept (t':=m.toks) λb o e=>c_ _ e;refine CN (r:=m.heap.objs.size) (l:=p) (items:=k.toArray) (I.ok.hd hc) ⟨_,f_ _ rfl,rfl,rfl⟩ ⟨o,c_ _ F,co,n,ds⟩ (by simpa[<-O.length]using P) pr λh' tk t c kk sS T=>?_;have D:t.toList=k.reverse:=by
  refine th λj=>?_;have J:t.size=k.length:=by simpa using T.1
  rcases L9 j k.length with E|E
  ·have U:t[j]?=some (t[j]'(by lia)):=r3 _;have L:=T.2 j _ U;rw[si,U,List.getElem?_reverse E];simpa using L.symm
  ·rw[l_ (by simpa[J]using E),l_ (by simpa using E)]
 have I3:=R.laid (a:=(m.heap.push (revObj p ((k.toArray.size:Int)-1))).objs.size) (o:=.lst xs.reverse) (h':=(m.heap.push (revObj p ((k.toArray.size:Int)-1))).push {cls:=.type "list",data:=.seq t c}) (t':=tk) (λb u e=>c_ _ e) (fx _) ⟨by rw[LK];exact P,k.reverse,c,O.reverse,by rw[<-D];exact f_ _ rfl⟩
 have M:m.heap.objs.size<(m.heap.push (revObj p ((k.toArray.size:Int)-1))).objs.size:=by rw[m3];lia
 have I4:=I3.turned (it:=m.heap.objs.size) (h':=h') (t':=tk) (λb o hb e=>?_) (by rw[ao (iA M)];exact I1.hok.fresh (fx _)) (md I1.lt) (.inr I1.sz) (λx c e z=>by obtain⟨v,o,V,_⟩:=I1.cell x c e;rw[z]at V;exact absurd (hH V) (ot _)) (λpp hp z=>by have:=(I1.pin pp hp).1;rw[z]at this;exact absurd (hH this) (ot _))
 ·exact⟨.ref (m.heap.push (revObj p ((k.toArray.size:Int)-1))).objs.size,_,I4,rfl,q _ (R.hok.fresh (fx _))⟩
 ·by_cases z:b=(m.heap.push (revObj p ((k.toArray.size:Int)-1))).objs.size
  ·subst z;rw[f_ _ rfl]at e;cases e;exact sS
  ·rcases LB e with⟨z2,_⟩|L
   ·exact absurd z2 z
   ·exact kk b o hb L
end
end L2
namespace L2
open PySem PySem.W PyProof.Rows
section
variable{P:MU}{w:World}{A:Around}{E:MQ}{s:Shared}
end
section
variable{X:Cx}{P:MU}{w:World}{o e f i:Expr}{d c a:Pos}{g ty tx:TE}
end
end L2
namespace L2
open PySem
seal L2.u6 L2.PS L2.PE L2.PT L2.PA L2.PI L2.PG L2.PW L2.IT L2.PO
section
variable{X:Cx}
def eV:cX X (.type "str") (λa H Q=>(∃i,a=[.int i]/\i.natAbs.log2<1920/\Q (.str (toString i)) H)\/∃z,a=[.str z]/\Q (.str z) H):=by
 intro b s d H a e Q I r h;rcases h with⟨i,rfl,c,q⟩|⟨z,rfl,q⟩
 ·obtain⟨u,rfl,t,rfl⟩:=iE r;exact PySem.P.str_of_int c ⟨.str _,H,I.tok _,⟨_,rfl⟩,q⟩
 ·obtain⟨u,rfl,t,rfl⟩:=iE r;exact PySem.P.str_of_str ⟨.str _,H,I,⟨_,rfl⟩,q⟩
end
def wg(x:String):(x:Str).length=x.toList.length:=by show(Str.ofString x).cps.size=_;rw[Str.ofString_eq_toList];simp
def Aj{n k:Nat}(a:0<k)(h:n<10^k):((toString n:String):Str).length<=k:=by rw[wg];show(Nat.repr n).toList.length<=k;unfold Nat.repr;rw[String.toList_ofList];exact(Nat.length_toDigits_le_iff (by decide) a).mpr h
def Ar{z:Int}{k:Nat}(a:0<k)(h:z.natAbs<10^k):((toString z:String):Str).length<=k+1:=by cases z with|ofNat n=>exact vl (Aj a h)|negSucc n=>
  rw[wg];show("-"++Nat.repr (n+1)).toList.length<=k+1;rw[String.toList_append,gV];have:=Aj (n:=n+1) a h;rw[wg]at this;have e:(toString (n+1):String)=Nat.repr (n+1):=rfl;rw[e]at this;have:"-".toList.length=1:=by decide
  lia
def tR{n:Nat}(h:n<10^70):n.log2<1920:=by
 by_cases h0:n=0
 ·subst h0;decide
 ·rw[Nat.log2_lt h0];exact k_ h (by decide+kernel)
section
variable{X:Cx}
def BM:cX X (.builtin "isinstance") (λc H Q=>∃x T t b,c=[x,.ty T]/\(lZ X.K H x t\/∃p d,x=.ref p/\aX X.K H p d/\t=.type "tuple")/\PySem.W.kitOne X.K t (.type T)=some b/\Q (.bl b) H):=by
 intro a s f H c g Q I r h;obtain⟨x,T,t,b,rfl,ty,e,q⟩:=h;rcases ty with ty|⟨p,d,rfl,i,rfl⟩
 ·exact yG a s f H _ g Q I r ⟨x,T,t,b,rfl,ty,e,q⟩
 ·obtain⟨u,j,rfl,k,rt⟩:=vd r;obtain rfl:j=Value.type T:=rt;cases k;obtain⟨l,_,⟨o,h1,h2,_⟩,_⟩:=I.tuple i;exact PySem.W.kia_one PySem.W.kitx_tuple I.kIn ⟨o,h1,h2⟩ e (nofun) λtk=>⟨.bl b,H,I.tok tk,rfl,q⟩
def cK(K:MP)(a:X.K=K):cX X (.builtin "isinstance") (λc H Q=>∃x T t b,c=[x,.ty T]/\(lZ K H x t\/∃p d,x=.ref p/\aX K H p d/\t=.type "tuple")/\PySem.W.kitOne K t (.type T)=some b/\Q (.bl b) H):=by subst a;exact BM
end
def k9(a:MV):Nat:=(a.map (·.length)).sum
def rP{z:Str}{a:MV}(h:k9 a+a.length*z.length<=16777216):JoinOk z a=true:=by
 unfold JoinOk;rw[StrLaws.joinTotal];unfold Builtin.Str.tooLong;have e:¬0+(a.map (·.length)).sum+a.length*z.length>sizeLine:=by rw[gg];unfold k9 at h;lia
 rw[j2 (by first|exact e|(rw[Nat.zero_add]at e;exact e))];rfl
def ip(z:Str)(a:MV):(Txt.join z a).length<=k9 a+a.length*z.length:=by show(Builtin.Str.glued z a).length<=_;rw[StrLaws.glued_eq_join];exact StrLaws.join_length_le z a
end L2
namespace L2
open PySem PySem.Spec PyProof.Rows
section
variable{X:Cx}{c:Expr}
def Gy(K:MP):Bool->Hp->Addr->List V->Prop|true,H,a,b=>aW K H a b|false,H,a,b=>aX K H a b
def IX(K:MP):Bool->Addr->It|true,a=>GF K a|false,a=>GD K a
def iEi(K:MP)(e:TE):TI:=λf H R=>e f H λx d=>∃a b,x=.ref a/\(∃g,Gy K b d a g)/\R (IX K b a) d
def JS{l:Expr}{j:TE}(n:PE X l j):PI X c l (iEi X.K j):=by intro f s r H R I h;refine ce (n f s r H _ I h) λv d t=>?_;obtain⟨x,k,I1,u,w⟩:=t;obtain⟨a,b,e,⟨B,m⟩,q⟩:=w;subst e;cases u;cases b with
 |true=>
  obtain⟨g,y,p,z⟩:=I1.list m;refine J_ p.isList ⟨d.heap.objs.size,[d.heap.objs.size],_,_,k,rfl,I1.kept (t':=d.toks) λb o e=>c_ _ e,vf a _,⟨_,f_ _ rfl,rfl,rfl⟩,λb i=>?_,q⟩;obtain rfl:b=d.heap.objs.size:=by simpa using i
  exact I1.fpOk (fx _) (I1.hok.fresh (fx _))|false=>
  obtain⟨g,y,p,z⟩:=I1.tuple m;refine w1 (show d.heap.IsTuple a g.toArray from p) ⟨d.heap.objs.size,[d.heap.objs.size],_,_,k,rfl,I1.kept (t':=d.toks) λb o e=>c_ _ e,rY a _,⟨_,f_ _ rfl,rfl,rfl⟩,λb i=>?_,q⟩;obtain rfl:b=d.heap.objs.size:=by simpa using i
  exact I1.fpOk (fx _) (I1.hok.fresh (fx _))
def C1(K:MP)(d:X.K=K){l:Expr}{a:TE}(e:PE X l a):PI X c l (iEi K a):=by subst d;exact JS e
def Go{K:MP}{b:Bool}{a:Addr}{xs:List V}{g:TG}{ds:MY}{k:Nat}{tc:TT}{te:TE}{o:St}{p:Hp}{D:Addr}{F:Hp->Prop}(Pv:Nat->List V->Hp->Prop)(h0:Pv 0 [] (aG p D (.lst [])))(q:∀i d e,i<=xs.length->Pv i d e->Gy K b e a xs)(r:∀i x d e,xs[i]?=some x->Pv i d e->g x (gB ds k o) e λf n=>tc f n λb j=>if b=true then te f j λy l=>l D=some (.lst d)/\d.length<sizeLine/\∃h,h<xs.length-i/\h=xs.length-(i+1)/\i+1<=xs.length/\Pv (i+1) (d++[y]) (aG l D (.lst (d++[y])))else∃h,h<xs.length-i/\h=xs.length-(i+1)/\i+1<=xs.length/\Pv (i+1) d j)(hd:∀d e,Pv xs.length d e->F e):∃W:Nat->Nat->List V->Hp->Prop,(∃m,W 0 m [] (aG p D (.lst [])))/\∀i m d e,W i m d e->((IX K b a).stop i e/\F e)\/((IX K b a).go i e/\∀x s,(IX K b a).yld i e x s->g x (gB ds k o) s λf n=>tc f n λb j=>if b=true then te f j λy l=>l D=some (.lst d)/\d.length<sizeLine/\∃h,h<m/\W (i+1) h (d++[y]) (aG l D (.lst (d++[y])))else∃h,h<m/\W (i+1) h d j):=by cases b with|true=>exact j9 Pv h0 q r hd|false=>exact cJ Pv h0 q r hd
def IB{K:MP}{b:Bool}{a:Addr}{xs:List V}{g:TG}{l:TS}{D:lg}{d:St}{H:Hp}(Pv:Nat->St->Hp->Prop)(h0:Pv 0 d H)(n:∀i d H,i<=xs.length->Pv i d H->Gy K b H a xs)(o:∀i x d H,xs[i]?=some x->Pv i d H->g x d H λe j=>l {D with nx:=Pv (i+1),ct:=Pv (i+1),bk:=D.nx} e j)(hd:∀d H,Pv xs.length d H->D.nx d H):∃W:Nat->Nat->St->Hp->Prop,(∃m,W 0 m d H)/\∀i m d H,W i m d H->((IX K b a).stop i H/\D.nx d H)\/((IX K b a).go i H/\∃N:St->Hp->Prop,(∀f h,N f h->∃p,p<m/\W (i+1) p f h)/\∀x h,(IX K b a).yld i H x h->g x d h λe j=>l {D with nx:=N,ct:=N,bk:=D.nx} e j):=by cases b with|true=>exact lV Pv h0 n o hd|false=>exact wR Pv h0 n o hd
def Gy.len{K:MP}{b:Bool}{H:Hp}{a:Addr}{d:List V}(h:Gy K b H a d):IW K (.ref a) H d.length:=by cases b with|true=>exact .inl ⟨_,h,rfl⟩|false=>exact .inr ⟨_,h,rfl⟩
def Gy.same{K:MP}{b:Bool}{H d:Hp}{a:Addr}{f:List V}(e:ak H d)(h:Gy K b H a f):Gy K b d a f:=by cases b with|true=>exact e.seq h|false=>exact ak.tseq e h
abbrev TJ:=St->Hp->Str->VK->Prop
def PJ(X:Cx)(e:MW)(t:TJ):Prop:=∀(a:MR)(s:Shared)(d:St)(H:Hp)(b:Str)(Q:VK),aN X a d H s->t d H b Q->wpAny (model X.prog X.w) X.A (joinParts b (evalEach e X.env)) (EP X a d Q) X.xe s
def tJn:TJ:=λ_ H a Q=>a.length<=sizeLine/\Q (.str a) H
def tJc(te:TE)(t:TJ):TJ:=λb H a Q=>te b H λv d=>∃y,v=.str y/\(a++y).length<=sizeLine/\t b d (a++y) Q
def tFv(te:TE):TE:=λb H Q=>te b H λv a=>(∃i:Int,v=.int i/\i.natAbs.log2<1920/\Q (.str (toString i)) a)\/∃z,v=.str z/\z.length<=sizeLine/\Q (.str z) a
def tFs(t:TJ):TE:=λa H Q=>t a H Str.empty Q
def CW:PJ X [] tJn:=by intro b s d H a Q I h;exact joinParts_nil ⟨.str a,H,I.tok _,⟨_,rfl⟩,h.2⟩ h.1
def kH{e:Expr}{d:MW}{te:TE}{t:TJ}(f:PE X e te)(g:PJ X d t):PJ X (e::d) (tJc te t):=by intro a s b H i Q I h;refine joinParts_cons (ce (f a s b H _ I h) λv j k=>?_);obtain⟨x,l,I1,m,y,ex,n,q⟩:=k;subst ex;obtain⟨tk,rfl⟩:=m;exact⟨n,g a j b l _ Q I1 q⟩
def Ae{e:Expr}{d:Pos}{te:TE}(g:PE X e te):PE X (.FormattedValue e (-1) none d) (tFv te):=by
 intro a s j H Q I h;refine FormattedValue_plain (ce (g a s j H _ I h) λv m k=>?_);obtain⟨x,b,I1,f,q⟩:=k;rcases q with⟨i,rfl,hi,q⟩|⟨z,rfl,l,q⟩
 ·obtain⟨tk,rfl⟩:=f;exact formatField_int_small hi ⟨.str _,b,I1.tok _,⟨_,rfl⟩,q⟩
 ·obtain⟨tk,rfl⟩:=f;exact formatField_str (λn tk=>⟨.str z,b,I1.tok _,⟨_,rfl⟩,q⟩) l
def Af{e f:Expr}{g:MW}{d:Pos}{t:TJ}(h:PJ X (e::f::g) t):PE X (.JoinedStr (e::f::g) d) (tFs t):=by intro a s b H Q I hh;exact JoinedStr_many (h a s b H Str.empty Q I hh)
end
def mD(x:Str):Str.empty++x=x:=by show(⟨#[]++x.cps⟩:Str)=x;simp
def qt(x y z:Str):x++y++z=x++(y++z):=by show(⟨x.cps++y.cps++z.cps⟩:Str)=⟨x.cps++(y.cps++z.cps)⟩;rw[Mu]
def eW(x y:Str):(x++y).length=x.length+y.length:=by show(x.cps++y.cps).size=_;simp[Str.length]
def mx(z x:Str)(a c:MV):Txt.join z (Txt.join z (x::a)::c)=Txt.join z (x::(a++c)):=by show Builtin.Str.glued z (Builtin.Str.glued z (x::a)::c)=Builtin.Str.glued z (x::(a++c));unfold Builtin.Str.glued;simp only[List.drop_succ_cons,List.drop_zero,List.headD_cons,s_]
def Bv(z x:Str):∀a:List Str,z++Txt.join z (x::a)=(x::a).foldl (λr t=>r++z++t) Str.empty:=by
 intro a;have h:∀(a:MV)(b x:Str),b++Txt.join z (x::a)=a.foldl (λr t=>r++z++t) (b++x):=by
  intro a
  induction a with|nil=>intro b x;rfl|cons t r c=>
   intro b x;rw[rk,qt,qt,<-c]
   congr 1
   have e:=mx z x [t] r;have d:Txt.join z [x,t]=x++z++t:=rfl;rw[d,qt]at e;exact e.symm
 rw[rk,mD];exact h a z x
theorem qK{c:Type}:∀l:List c,(List.range l.length).filterMap (λi=>l[i]?)=l
 |[]=>rfl|a::l=>by
  rw[il,L_,List.filterMap_cons_some (f:=λi=>(a::l)[i]?) (b:=a) rfl,Mt]
  congr 1
  exact qK l
def ER(n:Nat):Builtin.Str.strSliceIndices (some 1) none 1 (n+1)=(List.range n).map (·+1):=by
 unfold Builtin.Str.strSliceIndices sliceRange;simp only[show(1:Int)>0 by decide,Mo];have h1:max (0:Int) (min (if(1:Int)<0 then 1+((n+1:Nat):Int)else 1) ((n+1:Nat):Int))=1:=by rw[g8 (by decide)];lia
 rw[h1]
 by_cases hn:n=0
 ·subst hn;rfl
 ·have h2:(1:Int)<((n+1:Nat):Int):=by omega
  rw[hQ h2,Int.ediv_one,show(((n+1:Nat):Int)-1+1-1).toNat=n by omega];refine wh λi _=>?_;lia
def yW(c:Nat)(x:Str):Txt.slice ((⟨#[c]⟩:Str)++x) (some 1) none=x:=by
 have b:((⟨#[c]⟩:Str)++x).length=x.cps.size+1:=by rw[eW];show 1+x.cps.size=_;lia
 unfold Txt.slice;rw[b,ER];have a:¬(((1:Int)==1&&(List.map (·+1) (List.range x.cps.size)).length==x.cps.size+1)=true):=by simp
 rw[g8 a,Mt];have e:((λi=>((⟨#[c]⟩:Str)++x).cps[i]?)∘λi=>i+1)=λi=>x.cps.toList[i]?:=by
  funext i
  show(#[c]++x.cps)[i+1]?=_;rw[Array.getElem?_append_right (by simp)];simp
 rw[e];have:=qK x.cps.toList;rw[kt]at this;rw[this]
section
variable{X:Cx}
end
end L2
namespace L2
open PySem PySem.Spec PyProof.Rows
def GC(K:MP)(pm:Params)(a:Addr):Prop:=(a==sysModules)=false/\∃b n,K.lookup a=some ⟨.type "dict",none,.dict b n,#[]⟩/\PySem.W.KeysLit pm b.toList
def KP(K:MP)(t:Addr)(c:List V):Prop:=∃(o:Obj)(a:MX)(n:Nat),K.lookup t=some o/\o.cls=.type "tuple"/\o.data=.seq a n/\a.size<=sizeLine/\aZ c a.toList
def KP.sq{K:MP}{t:Addr}{a:List V}(h:KP K t a)(H:Hp):aX K H t a:=.inr h
section
variable{X:Cx}{o i:Expr}{a:Pos}{c ty:TE}
end
end L2
namespace L2
open PySem PySem.Spec PyProof.Rows
section
variable{X:Cx}{o i:Expr}{a:Pos}{c ty:TE}
end
end L2
namespace L2
open PySem PySem.Spec PyProof.Rows
section
variable{P:MU}{w:World}{A:Around}{E:MQ}{s:Shared}
def rZ(c:s.heap.IsTupleIter j t k)(f:s.heap.IsTuple t d)(h:d[k]?=some v)(q:∀g,g.IsTupleIter j t (k+1)->Heap.SameBut j s.heap g->Q v {s with heap:=g}):wpAny (model P w) A (Builtin.SmallTypes.nextOf (.ref j)) Q E s:=by obtain⟨ob,b,i,a⟩:=id c;obtain⟨l,f1,_,m,f3⟩:=f;unfold Builtin.SmallTypes.nextOf;refine a_ (oe (name:=Str.ofString "__next__") c.typeIs z_ (nk z_ c.typeIs F.entry_tuple_iterator_next ?_ (MN _)));refine(show wpAny _ _ (field (.ref j) 0>>=_) _ _ s from a_ (rm b a (x:=.ref t) rfl ?_));refine(show wpAny _ _ (if(Value.ref t==Value.none)=true then _ else(field (.ref j) 1>>=_)) _ _ s from ?_);rw[g8 (show¬(Value.ref t==Value.none)=true fromλz=>h_ z)];refine a_ (rm b a (x:=.int k 0) rfl ?_);refine(show wpAny _ _ (seqItems? (.ref t)>>=_) _ _ s from a_ (so f1 f3 ?_));simp only[n_,h];refine a_ (wpAny_setField b a (by simp) (e_ ⟨v,rfl,e_ (q _ ⟨_,qx _ b (Obj.isFreed_of_fields (Obj.data_mapFields a _)),(Obj.cls_mapFields ..).trans i,?_⟩ (wr ..))⟩));rw[Obj.data_mapFields a];simp[rawInt]
def xl(hh:A.handled=none)(c:s.heap.IsTupleIter j t k)(h:s.heap.IsTuple t d)(i:d[k]?=none)(q:∀g x,Heap.ExtBut j s.heap g->(∃ob,g.get? x=some ob/\ob.cls=.type "StopIteration")->E (.ref x) {s with heap:=g}):wpAny (model P w) A (Builtin.SmallTypes.nextOf (.ref j)) Q E s:=by
 obtain⟨ob,b,l,e⟩:=id c;obtain⟨n,f1,_,o,f3⟩:=h;unfold Builtin.SmallTypes.nextOf;refine a_ (oe (name:=Str.ofString "__next__") c.typeIs z_ (nk z_ c.typeIs F.entry_tuple_iterator_next ?_ (MN _)));refine(show wpAny _ _ (field (.ref j) 0>>=_) _ _ s from a_ (rm b e (x:=.ref t) rfl ?_));refine(show wpAny _ _ (if(Value.ref t==Value.none)=true then _ else(field (.ref j) 1>>=_)) _ _ s from ?_);rw[g8 (show¬(Value.ref t==Value.none)=true fromλz=>h_ z)];refine a_ (rm b e (x:=.int k 0) rfl ?_);refine(show wpAny _ _ (seqItems? (.ref t)>>=_) _ _ s from a_ (so f1 f3 ?_));simp only[n_,i];refine a_ (tw (a_ (wpAny_setField b e (by simp) (show wpAny _ _ (newExc (.type "StopIteration") []>>=_) _ _ _ from a_ ?_))));simp only[newExc,newTuple];refine a_ (np (a_ (m:=firstArgMember _ _) (wpAny_of_eq (a:=Value.none) (by first|rfl|(simp only[firstArgMember];rfl)) (np ?_ (by size_fits)))) (by size_fits));simp only[raiseNew];refine a_ (wpAny_handled ?_)
 first|rw[show A.in1.handled=none from hh]|rw[hh]
 exact a_ (e_ (wpAny_throw (q _ _ (((wr ..).extBut.push _).push _) ⟨_,f_ _ rfl,rfl⟩)))
def EW{b:Bool}{j t:Addr}{k:Nat}{a:MX}{v:Value}{Q:MQ}(c:qA b s.heap j t k)(d:pq b s.heap t a)(e:a[k]?=some v)(q:∀g,qA b g j t (k+1)->Heap.SameBut j s.heap g->Q v {s with heap:=g}):wpAny (model P w) A (Builtin.SmallTypes.nextOf (.ref j)) Q E s:=by cases b with|false=>exact rZ c d e q|true=>exact wpAny_nextOf_list_item c d e q
def EC(z a d e:Addr)(h g:Heap):Prop:=∀c ob,c≠z->c≠a->c≠d->c≠e->h.get? c=some ob->g.get? c=some ob
def AI{c:Bool}{z h d j m t l:Addr}{L M:Nat}{Z ys:MX}{x y a b:Value}{Q:MQ}(D:ZipApart z h d j m t l)(B:IsZip s.heap z h d .none)(p1:IsPair s.heap h (.ref j) (.ref m))(p2:IsPair s.heap d a b)(i1:s.heap.IsTupleIter j t L)(i2:qA c s.heap m l M)(tt:s.heap.IsTuple t Z)(ll:pq c s.heap l ys)(hx:Z[L]?=some x)(hy:ys[M]?=some y)(q:∀g,IsZip g z h d (rawInt s.heap.objs.size)->IsPair g d x y->g.IsTupleIter j t (L+1)->qA c g m l (M+1)->IsPair g s.heap.objs.size x y->g.objs.size=s.heap.objs.size+1->EC z d j m s.heap g->Q (.ref s.heap.objs.size) {s with heap:=g}):wpAny (model P w) A (Builtin.«zip.__next__» ⟨[.ref z],[]⟩) (λfin s'=>∃v,fin=.done (.ret v)/\Q v s') E s:=by
 refine(show wpAny _ _ (field (.ref z) 2>>=_) _ _ _ from a_ (rm B rfl (x:=.bool false) rfl ?_));refine(show wpAny _ _ (field (.ref z) 3>>=_) _ _ _ from a_ (rm B rfl (x:=.ref h) rfl (a_ (so p1 rfl ?_))));refine(show wpAny _ _ (Builtin.SmallTypes.ownedTupleIsFree (.ref z)>>=_) _ _ _ from a_ ?_);unfold Builtin.SmallTypes.ownedTupleIsFree;refine a_ (rm B rfl (x:=.none) rfl (e_ ?_));simp only[Mo];refine a_ (tw (a_ (rm B rfl (x:=.ref d) rfl (a_ (o8 B (by simp) λg1 O k=>?_)))))
 replace O:IsZip g1 z h d .ellipsis:=O
 refine a_ ?_;simp only[List.zipIdx_cons,List.zipIdx_nil,Me,List.forIn_nil];refine a_ (a_ (wpAny_onRaise (show wpAny _ _ (Builtin.SmallTypes.nextOf (.ref j)>>=_) _ _ _ from a_ (rZ (i1.extBut k.extBut D.i1z) (tt.extBut k.extBut D.l1z) hx λg2 R r=>e_ ?_))));have C:IsPair g2 d a b:=r.extBut _ _ D.TOi1 (k.extBut _ _ D.TOz p2);refine a_ (so C rfl (a_ (wpAny_updateSeq_pair C λg3 n u=>?_)))
 replace n:IsPair g3 d x b:=n
 refine a_ (wpAny_letGo (e_ (a_ (a_ (wpAny_onRaise ?_)))));refine(show wpAny _ _ (Builtin.SmallTypes.nextOf (.ref m)>>=_) _ _ _ from a_ (EW (i2.at λ_ e=>u.extBut _ _ D.TOi2.symm (r.extBut _ _ D.i12.symm (k.extBut _ _ D.i2z e))) (ll.at λ_ e=>u.extBut _ _ D.l2TO (r.extBut _ _ D.l2i1 (k.extBut _ _ D.l2z e))) hy λg4 S F=>e_ ?_))
 have G:IsPair g4 d x b:=F.extBut _ _ D.TOi2 n;refine a_ (so G rfl (a_ (wpAny_updateSeq_pair G λf i H=>?_)))
 replace i:IsPair f d x y:=i
 refine a_ (wpAny_letGo (e_ (e_ (a_ (so i rfl (a_ (wpAny_newTuple ?_)))))));have sz:f.objs.size=s.heap.objs.size:=by rw[H.1,F.1,u.1,r.1,k.1]
 have z5:IsZip f z h d .ellipsis:=H.extBut _ _ D.TOz.symm (F.extBut _ _ D.i2z.symm (u.extBut _ _ D.TOz.symm (r.extBut _ _ D.i1z.symm O)));have k5:EC z d j m s.heap f:=λc o p K T U e=>H.extBut _ _ K (F.extBut _ _ U (u.extBut _ _ K (r.extBut _ _ T (k.extBut _ _ p e))));have V:f.IsTupleIter j t (L+1):=((R.extBut u.extBut D.TOi1.symm).extBut F.extBut D.i12).extBut H.extBut D.TOi1.symm;have W:qA c f m l (M+1):=S.at λ_ e=>H.extBut _ _ D.TOi2.symm e;have zl:z<f.objs.size:=hH z5;refine(show wpAny _ _ (Builtin.SmallTypes.ownedTupleHandOut (.ref z) (.ref f.objs.size)>>=_) _ _ _ from a_ ?_);unfold Builtin.SmallTypes.ownedTupleHandOut;have z6:IsZip (f.push {cls:=.type "tuple",data:=.seq #[x,y]}) z h d .ellipsis:=c_ _ z5;refine a_ (o8 z6 (by simp) λg7 X Y=>?_)
 replace X:IsZip g7 z h d (rawInt f.objs.size):=X
 refine o8 X (by simp) λI N s8=>?_
 replace N:IsZip I z h d (rawInt f.objs.size):=N
 have up:∀c ob,c≠z->f.get? c=some ob->I.get? c=some ob:=λc ob p e=>s8.extBut _ _ p (Y.extBut _ _ p (c_ _ e));have pn:IsPair I f.objs.size x y:=s8.extBut _ _ (md zl) (Y.extBut _ _ (md zl) (f_ _ rfl));have J:I.objs.size=f.objs.size+1:=by rw[s8.1,Y.1,m3]
 rw[sz]at N pn J;refine e_ ⟨_,rfl,(show Q (.ref f.objs.size) _ from ?_)⟩;rw[sz];exact q I N (up _ _ D.TOz i) (V.at λob e=>up _ ob D.i1z e) (W.at λob e=>up _ ob D.i2z e) pn J λc ob p K T U e=>up c ob p (k5 c ob p K T U e)
def AH(hh:A.handled=none)(D:ZipApart z i h m p t l)(j:IsZip s.heap z i h .none)(B:IsPair s.heap i (.ref m) (.ref p))(S:IsPair s.heap h a b)(C:s.heap.IsTupleIter m t F)(G:s.heap.IsTuple t H)(I:H[F]?=none)(q:∀g e,EC z h m p s.heap g->(∃ob,g.get? e=some ob/\ob.cls=.type "StopIteration")->E (.ref e) {s with heap:=g}):wpAny (model P w) A (Builtin.«zip.__next__» ⟨[.ref z],[]⟩) Q E s:=by
 refine(show wpAny _ _ (field (.ref z) 2>>=_) _ _ _ from a_ (rm j rfl (x:=.bool false) rfl ?_));refine(show wpAny _ _ (field (.ref z) 3>>=_) _ _ _ from a_ (rm j rfl (x:=.ref i) rfl (a_ (so B rfl ?_))));refine(show wpAny _ _ (Builtin.SmallTypes.ownedTupleIsFree (.ref z)>>=_) _ _ _ from a_ ?_);unfold Builtin.SmallTypes.ownedTupleIsFree;refine a_ (rm j rfl (x:=.none) rfl (e_ ?_));simp only[Mo];refine a_ (tw (a_ (rm j rfl (x:=.ref h) rfl (a_ (o8 j (by simp) λJ n o=>?_)))))
 replace n:IsZip J z i h .ellipsis:=n
 refine a_ ?_;simp only[List.zipIdx_cons,List.zipIdx_nil,Me,List.forIn_nil];refine a_ (a_ (wpAny_onRaise (show wpAny _ _ (Builtin.SmallTypes.nextOf (.ref m)>>=_) _ _ _ from a_ (xl hh (C.extBut o.extBut D.i1z) (G.extBut o.extBut D.l1z) I λK e r L=>?_))));obtain⟨M,f,k⟩:=L;have u:IsZip K z i h .ellipsis:=r _ _ D.i1z.symm n;have N:e≠z:=λc=>by subst c;rw[u]at f;cases f;simp at k
 exact o8 u (by simp) λO _ v=>q O e (λc ob y _ R _ d=>v.extBut _ _ y (r _ _ R (o.extBut _ _ y d))) ⟨M,v.extBut _ _ N f,k⟩
def AJ{c:Bool}{z h d e f t l:Addr}{i j:Nat}{m n:MX}{x y a b:Value}{Q:Option Value->Shared->Prop}(D:ZipApart z h d e f t l)(o:IsZip s.heap z h d .none)(p:IsPair s.heap h (.ref e) (.ref f))(r:IsPair s.heap d a b)(u:s.heap.IsTupleIter e t i)(v:qA c s.heap f l j)(B:s.heap.IsTuple t m)(C:pq c s.heap l n)(G:m[i]?=some x)(H:n[j]?=some y)(q:∀g,IsZip g z h d (rawInt s.heap.objs.size)->IsPair g d x y->g.IsTupleIter e t (i+1)->qA c g f l (j+1)->IsPair g s.heap.objs.size x y->g.objs.size=s.heap.objs.size+1->EC z d e f s.heap g->Q (some (.ref s.heap.objs.size)) {s with heap:=g}):wpAny (model P w) A (pyNext (.ref z)) Q E s:=by have ty:s.TypeIs (.ref z) "zip":=⟨_,o,rfl⟩;unfold pyNext;refine a_ (LX (oe (name:=Str.ofString "__next__") ty Mg (nk Mg ty F.entry_zip_next (AI D o p r u v B C G H λg a1 I J a4 K L M=>?_) (F.args_zip_next_1 _))));exact e_ (q g a1 I J a4 K L M)
def BW(hh:A.handled=none)(D:ZipApart z f c d h t l)(i:IsZip s.heap z f c .none)(m:IsPair s.heap f (.ref d) (.ref h))(n:IsPair s.heap c a b)(o:s.heap.IsTupleIter d t p)(r:s.heap.IsTuple t u)(v:u[p]?=none)(q:∀g,EC z c d h s.heap g->Q none {s with heap:=g}):wpAny (model P w) A (pyNext (.ref z)) Q E s:=by have ty:s.TypeIs (.ref z) "zip":=⟨_,i,rfl⟩;unfold pyNext;refine a_ (LX (oe (name:=Str.ofString "__next__") ty Mg (nk Mg ty F.entry_zip_next (AH hh D i m n o r v λg e k x=>?_) (F.args_zip_next_1 _))));obtain⟨ob,h1,h2⟩:=x;exact a_ (L1 (T:="StopIteration") (b:=true) ⟨ob,h1,h2⟩ isSubtype_stop (e_ (q g k)))
abbrev EM(h:Heap)(t:Addr):Heap:=h.push {cls:=.type "tuple_iterator",data:=.fields #[.ref t,.int 0 0]}
abbrev KJ(c:Bool)(h:Heap)(t l:Addr):Heap:=(EM h t).push {cls:=.type (cond c "list_iterator" "tuple_iterator"),data:=.fields #[.ref l,.int 0 0]}
abbrev KI(c:Bool)(h:Heap)(t l:Addr):Heap:=(KJ c h t l).push {cls:=.type "tuple",data:=.seq #[.ref h.objs.size,.ref (EM h t).objs.size]}
abbrev KH(c:Bool)(h:Heap)(t l:Addr):Heap:=(KI c h t l).push {cls:=.type "tuple",data:=.seq #[.none,.none]}
abbrev IZ(c:Bool)(h:Heap)(t l:Addr):Heap:=(KH c h t l).push {cls:=.type "zip",data:=.fields #[.none,.bool false,.bool false,.ref (KJ c h t l).objs.size,.ref (KI c h t l).objs.size]}
def zo(c:Bool)(t l:Addr)(a f:MX):Meets (Builtin.«zip.__new__» ⟨[.type "zip",.ref t,.ref l],[]⟩) (λ_ R s=>s.heap.IsTuple t a/\pq c s.heap l f/\R (.ok (.ret (.ref (KH c s.heap t l).objs.size))) {s with heap:=IZ c s.heap t l}):=.of_wp λprog w A R s h=>by
  obtain⟨b,g,d,tk,os⟩:=s;obtain⟨h1,h2,h⟩:=h;have i:=sub_zip;have j:Heap.IsTuple (Shared.heap ⟨b,g,d,tk,os⟩) t a:=h1;have k:pq c (Shared.heap ⟨b.push {cls:=.type "tuple_iterator",data:=.fields #[.ref t,.int 0 0]},g,d,tk,os⟩) l f:=h2.at λ_ e=>c_ _ e
  wp_walk using w1 j,zT k
  exact⟨_,rfl,h⟩
def BI{c:Bool}{t l:Addr}{h i:MX}{Q:MQ}(h1:s.heap.IsTuple t h)(h2:pq c s.heap l i)(q:∀g,IsZip g (s.heap.objs.size+4) (s.heap.objs.size+2) (s.heap.objs.size+3) .none->IsPair g (s.heap.objs.size+2) (.ref s.heap.objs.size) (.ref (s.heap.objs.size+1))->IsPair g (s.heap.objs.size+3) .none .none->g.IsTupleIter s.heap.objs.size t 0->qA c g (s.heap.objs.size+1) l 0->(∀c o,s.heap.get? c=some o->g.get? c=some o)->Q (.ref (s.heap.objs.size+4)) {s with heap:=g}):wpAny (model P w) A (call (.type "zip") [.ref t,.ref l]) Q E s:=by
 refine callType_new F.called_zip (by decide) (F.typeCall_zip_2 _ _) (F.newCall_zip_2 _ _) (λob=>F.args_object_init_3 ob _ _) F.entry_zip_new (zo c t l h i) ⟨h1,h2,?_⟩;have a:(EM s.heap t).objs.size=s.heap.objs.size+1:=m3 ..;have b:(KJ c s.heap t l).objs.size=s.heap.objs.size+2:=by rw[m3,a]
 have e:(KI c s.heap t l).objs.size=s.heap.objs.size+3:=by rw[m3,b]
 have j:(KH c s.heap t l).objs.size=s.heap.objs.size+4:=by rw[m3,e]
 have f:(IZ c s.heap t l).get? (KH c s.heap t l).objs.size=some _:=f_ _ rfl;have k:(IZ c s.heap t l).get? (KI c s.heap t l).objs.size=some _:=c_ _ (f_ _ rfl);have m:(IZ c s.heap t l).get? (KJ c s.heap t l).objs.size=some _:=c_ _ (c_ _ (f_ _ rfl));have n:(IZ c s.heap t l).get? (EM s.heap t).objs.size=some _:=c_ _ (c_ _ (c_ _ (f_ _ rfl)));have p:(IZ c s.heap t l).get? s.heap.objs.size=some _:=c_ _ (c_ _ (c_ _ (c_ _ (f_ _ rfl))));show _/\_;rw[b,e,j]at f;rw[a,b]at m;rw[e]at k;rw[a]at n;rw[j];exact⟨⟨_,f,rfl⟩,q _ f m k ⟨_,p,rfl,rfl⟩ ⟨_,n,rfl,rfl⟩ λc ob d=>c_ _ (c_ _ (c_ _ (c_ _ (c_ _ d))))⟩
end
def j6{X:Cx}{a:MR}{g:St}{H:Hp}{s:Shared}{h':Heap}{t':Nat}{ch:MZ}(I:aN X a g H s)(k:∀b o,b∉ch->s.heap.get? b=some o->h'.get? b=some o)(f:∀b∈ch,u9 X a H b):aN X a g H {s with heap:=h',toks:=t'}:=by
 have d:∀b u,H b=some u->b∉ch:=λb u e z=>by rw[(f b z).1]at e;cases e
 refine I.step (g':=s.gens) (d':=s.drawn) (ch:=ch) (λb h=>?_) (λb o _ _ hc e _=>k b o hc e) (λb o _ _ hc e _=>⟨o.slots,k b o hc e⟩) (λ_ _ _ _ n=>n) (λb o hc e=>⟨o,k b o hc e⟩) (λ_ _ e=>e) (λ_ _ _ e=>e) (λb y e=>⟨#[],by rw[e];simp⟩) (λm hm=>?_) (λb u e=>?_) I.bare
 ·obtain⟨_,f1,_,f3,i,j⟩:=f b h;exact⟨f3,f1,i,j⟩
 ·obtain⟨o,l,p,t,r⟩:=hm;exact⟨o,l,p,k _ o (λz=>(f _ z).2.1 rfl) t,r⟩
 ·refine(I.hok b u e).stay (λc v hc q=>k c v ?_ q) (λ_ q=>q) λ_ _ q=>q;rcases hc with z|z
  ·rw[z];exact d b u e
  ·exact d c _ z
def KC(c:Bool)(K:MP)(t l:Addr):It:=⟨λi H=>∃a b x y,aX K H t a/\Gx c K H l b/\a[i]?=some x/\b[i]?=some y,λi H v d=>∃T x y,H T=none/\v=.ref T/\d=aG H T (.tup [x,y])/\∀a b,aX K H t a->Gx c K H l b->a[i]?=some x/\b[i]?=some y,λi H=>∃a,aX K H t a/\a.length<=i⟩
def B0{c:Bool}{P:MU}{w:World}{K:MP}{J:MW}{x1:Nat}{Q:Pos}{z j m n q t l:Addr}(D:ZipApart z j m n q t l):u5 P w K (.Tuple J x1 Q) (KC c K t l) [z,j,m,n,q] z (λi h=>IsZip h z j m .none/\IsPair h j (.ref n) (.ref q)/\(∃a b,IsPair h m a b)/\h.IsTupleIter n t i/\qA c h q l i)where
 mem:=by simp
 obj:=λi h st b d=>by
  obtain⟨a1,r,⟨_,_,A⟩,⟨an,a4,_,d4⟩,⟨ap,C,_,d5⟩⟩:=st;simp only[o_,nn,z4]at d;rcases d with rfl|rfl|rfl|rfl|rfl
  ·exact⟨_,a1,λv e=>by cases e⟩
  ·exact⟨_,r,λv e=>by cases e⟩
  ·exact⟨_,A,λv e=>by cases e⟩
  ·exact⟨_,a4,λv e=>by rw[d4]at e;cases e⟩
  ·exact⟨_,C,λv e=>by rw[d5]at e;cases e⟩
 keep:=λi h h' st k=>by obtain⟨a1,r,⟨a,b,A⟩,a4,C⟩:=st;exact⟨k z (by simp) _ a1,k j (by simp) _ r,⟨a,b,k m (by simp) _ A⟩,a4.at λob e=>k n (by simp) ob e,C.at λob e=>k q (by simp) ob e⟩
 item:=by
  intro X O R S hc i B s σ H E I N st hg;subst O R S;obtain⟨xs,ys,x,y,L,T,U,hy⟩:=hg;obtain⟨F,V,p,hz⟩:=I.tuple L;obtain⟨al,Y,p2,Z⟩:=I.sqE T;obtain⟨u,hu,ru⟩:=V.get U;obtain⟨u2,aa,ad⟩:=Y.get hy;obtain⟨a1,r,⟨a,b,A⟩,a4,C⟩:=st;refine AJ D a1 r A a4 C (show s.heap.IsTuple t F.toArray from p) p2 (x:=u) (y:=u2) (by simpa using hu) (by simpa using aa) λg b1 b2 b3 b4 b5 b6 off=>?_;refine⟨_,rfl,wpAny_letOwnedTupleGo_zip b1 λg' c1 G=>?_⟩;have lt:∀c∈[z,j,m,n,q],c≠s.heap.objs.size:=λc M e=>by
   have hs:∃ob,s.heap.get? c=some ob:=by
    simp only[o_,nn,z4]at M;rcases M with rfl|rfl|rfl|rfl|rfl
    ·exact⟨_,a1⟩
    ·exact⟨_,r⟩
    ·exact⟨_,A⟩
    ·obtain⟨ob,e,_⟩:=a4;exact⟨ob,e⟩
    ·obtain⟨ob,e,_⟩:=C;exact⟨ob,e⟩
   obtain⟨ob,h⟩:=hs;rw[e]at h;exact absurd (hH h) (ot _)
  have fresh:H s.heap.objs.size=none:=I.hok.fresh (fx _);have I1:aN X B σ (aG H s.heap.objs.size (.tup [x,y])) {s with heap:=s.heap.push {cls:=.type "tuple",data:=.seq #[u,u2]},toks:=s.toks}:=I.laid (λb o e=>c_ _ e) (fx _) ⟨by rw[gg];simp,[u,u2],.cons ru (.cons ad .nil),⟨_,f_ _ rfl,rfl,_,rfl⟩⟩
  have I2:=j6 (h':=g') (t':=s.toks) (ch:=[z,j,m,n,q]) I1 (λb o d e=>?_) (λb d=>?_)
  ·refine⟨.ref s.heap.objs.size,_,I2,rfl,⟨_,x,y,fresh,rfl,rfl,λas av h1 h2=>⟨by rw[I.tuple_inj h1 L];exact U,by rw[Z _ h2];exact hy⟩⟩,⟨c1,G.extBut _ _ D.TIz (off _ _ D.TIz D.TITO D.TIi1 D.TIi2 r),⟨_,_,G.extBut _ _ D.TOz b2⟩,b3.extBut G.extBut D.i1z,b4.at λ_ e=>G.extBut _ _ D.i2z e⟩,λb d=>?_⟩;rw[ao (lt b d)];exact(N b d).1
  ·have f:b≠z/\b≠j/\b≠m/\b≠n/\b≠q:=by simpa using d
   by_cases eb:b=s.heap.objs.size
   ·subst eb;rw[f_ _ rfl]at e;cases e;exact G.extBut _ _ f.1 b5
   ·have e':s.heap.get? b=some o:=by
     rcases LB e with⟨z2,_⟩|e2
     ·exact absurd z2 eb
     ·exact e2
    exact G.extBut _ _ f.1 (off b o f.1 f.2.2.1 f.2.2.2.1 f.2.2.2.2 e')
  ·obtain⟨f0,f1⟩:=N b d;exact⟨by rw[ao (lt b d)];exact f0,f1⟩
 done:=by
  intro X O R S hc i B s σ H E I N st hg;subst O R S;obtain⟨xs,hq,U⟩:=hg;obtain⟨F,V,p,hz⟩:=I.tuple hq;have hl:=V.length;obtain⟨a1,r,⟨a,b,A⟩,a4,C⟩:=st;refine BW (I.ok.hd hc) D a1 r A a4 (show s.heap.IsTuple t F.toArray from p) (by simp;lia) λg off=>⟨rfl,j6 (t':=s.toks) (ch:=[z,j,m,n,q]) I (λb o d e=>?_) N⟩;have f:b≠z/\b≠j/\b≠m/\b≠n/\b≠q:=by simpa using d
  exact off b o f.1 f.2.2.1 f.2.2.2.1 f.2.2.2.2 e
 self:=λ_ _ _ _ _ st h=>wpAny_pyIter_zip st.1 h
end L2
namespace L2
open PySem PySem.Spec PyProof.Rows PySem.W
section
variable{X:Cx}{a:Expr}
end
end L2
namespace L2
open PySem PySem.Spec PyProof.Rows PySem.W
def K9{K:MP}{w:World}{pm:Params}{a:Addr}(h:w.params=pm)(k:GC K pm a):GC K w.params a:=h▸k
def gl(c:Nat):List (List Nat)->List Nat|[]=>[]|[x]=>x|x::y::r=>x++c::gl c (y::r)
def fY(n:Int):Str:=((toString n:String):Str)
end L2
namespace L2
open PySem PySem.Spec PyProof.Rows
section
variable{prog:MU}{w:World}{A:Around}{E:MQ}{s:Shared}
end
section
variable{P:MU}{w:World}{A:Around}{R:Result->Shared->Prop}{h0:Heap}{l c d:Addr}{a:MX}{e:List jC}
end
section
variable{P:MU}{w:World}{A:Around}{E:MQ}{s:Shared}{l:Addr}{a:MX}{c:List jC}{Q:MQ}
end
section
variable{X:Cx}
end
end L2
namespace L2
open PySem PySem.Spec PyProof.Rows PySem.W
abbrev dE(P:MU)(w:World)(d:Addr)(a:List (cb×V))(c:Nat):HO:=.ext λh=>((d==sysModules)=false/\a.length<=sizeLine)/\∃b,KV a b/\h.DictAt (aS P w) d b c
theorem wK:∀{a:List (cb×V)}{d:List (cb×Value)},KV a d->∀(i:Nat)(k:cb)(v:V),a[i]?=some (k,v)->∃u,d[i]?=some (k,u)/\aU v u|_,_,.nil,i,k,v,h=>by simp at h|_,_,.cons (b:=q) ⟨c,e⟩ t,i,k,v,h=>by cases i with|zero=>simp at h;subst h;obtain⟨f,u⟩:=q;have c:k=f:=c;subst c;exact⟨u,rfl,e⟩|succ i=>obtain⟨u,h1,h2⟩:=wK t i k v (by simpa using h);exact⟨u,by simpa using h1,h2⟩
def Al(h:(aS P w).is k u=true):aU (kV k) u:=by
 rcases kN.flat (P:=P) (w:=w) (h:=default) (k:=k) (v:=u) h with⟨i,t,rfl,rfl⟩|⟨z,t,rfl,rfl⟩
 ·exact⟨t,rfl⟩
 ·exact⟨t,rfl⟩
section
variable{X:Cx}{g:MR}{j:St}{H:Hp}{s:Shared}{d:Addr}{f:List (cb×V)}{i:Nat}
def aN.walk(I:aN X g j H s)(h:H d=some (.dK f)):∃i l,KV f l/\s.heap.DictAt (aS X.prog X.w) d l i/\(d==sysModules)=false/\aN X g j (aG H d (dE X.prog X.w d f i)) s:=by obtain⟨t,p,l,q,m⟩:=I.hok d _ h;obtain⟨i,n⟩:=m.dictAt;obtain⟨o,u,r,_⟩:=id n;refine⟨i,l,q,n,p,?_⟩;have J:=I.write (h':=s.heap) (t':=s.toks) (x:=d) (e:=d) (o:=dE X.prog X.w d f i) (by rw[h];exact True.intro) (.inl rfl) (λ_ _ _ e=>e) ⟨o,r⟩ ⟨⟨⟨p,t⟩,l,q,n⟩,⟨o,r⟩,λ_ _⟨a,l,b,c⟩k=>⟨a,l,b,c.at' k⟩⟩;exact J
def aN.thaw(I:aN X g j H s)(h:H d=some (dE X.prog X.w d f i)):aN X g j (aG H d (.dK f)) s:=by obtain⟨⟨⟨a,b⟩,c,k,l⟩,⟨o,m⟩,_⟩:=I.hok d _ h;have J:=I.write (h':=s.heap) (t':=s.toks) (x:=d) (e:=d) (o:=.dK f) (by rw[h];exact True.intro) (.inl rfl) (λ_ _ _ e=>e) ⟨o,m⟩ ⟨b,a,c,k,l.dictOf⟩;exact J
end
def KQ(P:MU)(w:World)(d:Addr)(a:List (cb×V))(c:Nat)(f:cb×V->V):It:=⟨λi H=>H d=some (dE P w d a c)/\i<a.length,λi H x b=>b=H/\a[i]?.map f=some x,λi H=>H d=some (dE P w d a c)/\a.length<=i⟩
def AN{P:MU}{w:World}{K:MP}{Q:Expr}(d g:Addr)(a:List (cb×V))(n:Nat):u5 P w K Q (KQ P w d a n λp=>kV p.1) [g] g (λi h=>h.IsKeyIter g d i a.length n)where
 mem:=by simp
 obj:=λi h st b l=>by
  have e:b=g:=by simpa using l
  subst e;obtain⟨o,e,c,x⟩:=st;exact⟨o,e,λv z=>by rw[x]at z;cases z⟩
 keep:=λi h h'⟨o,e,r⟩k=>⟨o,k g (by simp) o e,r⟩
 item:=by intro X y A B hc i j s M H E I q st hg;subst y A B;obtain⟨hd,hi⟩:=hg;obtain⟨⟨_,C,t,D⟩,_⟩:=I.hok d _ hd;have f:a.length=C.length:=Paired.length t;obtain⟨F,f1,f2,f3,G,J⟩:=q g (by simp);have N:a[i]?=some a[i]:=fy hi;obtain⟨u,O,ru⟩:=wK t i a[i].1 a[i].2 N;have st:s.heap.IsKeyIter g d i a.length n:=st;rw[f]at st;refine wpAny_pyNext_dict_item st D O λL h' R m S=>?_;have I1:aN X j M H {s with heap:=h'}:=I.turned (t':=s.toks) (λb o l e=>(S.2 b l).trans e) F f1 f3 G J;obtain⟨o,e,c,x⟩:=id m;rw[<-f]at m;exact⟨L,rfl,vJ (s:={s with heap:=h'}) e c x (by decide) ⟨kV a[i].1,H,I1,Al R,⟨rfl,by rw[N];rfl⟩,m,λb l=>(q b l).1⟩⟩
 done:=by intro X y A B hc i j s M H E I q st hg;subst y A B;obtain⟨hd,hi⟩:=hg;obtain⟨⟨_,C,t,D⟩,_⟩:=I.hok d _ hd;have f:a.length=C.length:=Paired.length t;obtain⟨F,f1,f2,f3,G,J⟩:=q g (by simp);have st:s.heap.IsKeyIter g d i a.length n:=st;rw[f]at st;exact wpAny_pyNext_dict_end (I.ok.hd hc) st D (l_ (by lia)) λh' U=>⟨rfl,I.turned (t':=s.toks) (λb o l e=>U b o l e) F f1 f3 G J⟩
 self:=λ_ _ _ _ _ st h=>wpAny_pyIter_keyiter st h
def AM{P:MU}{w:World}{K:MP}{N:Expr}(d g:Addr)(a:List (cb×V))(n:Nat):u5 P w K N (KQ P w d a n λp=>p.2) [g] g (λi h=>h.IsValIter g d i a.length n)where
 mem:=by simp
 obj:=λi h st b l=>by
  have e:b=g:=by simpa using l
  subst e;obtain⟨o,e,c,x⟩:=st;exact⟨o,e,λv z=>by rw[x]at z;cases z⟩
 keep:=λi h h'⟨o,e,r⟩k=>⟨o,k g (by simp) o e,r⟩
 item:=by intro X y A B hc i j s L H E I q st hg;subst y A B;obtain⟨hd,hi⟩:=hg;obtain⟨⟨_,C,t,D⟩,_⟩:=I.hok d _ hd;have f:a.length=C.length:=Paired.length t;obtain⟨F,f1,f2,f3,G,J⟩:=q g (by simp);have M:a[i]?=some a[i]:=fy hi;obtain⟨u,O,ru⟩:=wK t i a[i].1 a[i].2 M;have st:s.heap.IsValIter g d i a.length n:=st;rw[f]at st;refine wpAny_pyNext_values_item st D O λh' m Q=>?_;have I1:aN X j L H {s with heap:=h'}:=I.turned (t':=s.toks) (λb o l e=>(Q.2 b l).trans e) F f1 f3 G J;obtain⟨o,e,c,x⟩:=id m;rw[<-f]at m;exact⟨u,rfl,vJ (s:={s with heap:=h'}) e c x (by decide) ⟨a[i].2,H,I1,ru,⟨rfl,by rw[M];rfl⟩,m,λb l=>(q b l).1⟩⟩
 done:=by intro X y A B hc i j s L H E I q st hg;subst y A B;obtain⟨hd,hi⟩:=hg;obtain⟨⟨_,C,t,D⟩,_⟩:=I.hok d _ hd;have f:a.length=C.length:=Paired.length t;obtain⟨F,f1,f2,f3,G,J⟩:=q g (by simp);have st:s.heap.IsValIter g d i a.length n:=st;rw[f]at st;exact wpAny_pyNext_values_end (I.ok.hd hc) st D (l_ (by lia)) λh' S=>⟨rfl,I.turned (t':=s.toks) (λb o l e=>S b o l e) F f1 f3 G J⟩
 self:=λ_ _ _ _ _ st h=>wpAny_pyIter_valiter st h
section
variable{X:Cx}{P:MU}{w:World}{j l o e:Expr}{a c te:TE}{i g:Pos}
def Kl(P:MU)(w:World)(a:TE):TI:=λk H R=>a k H λx f=>∃d b,x=.ref d/\f d=some (.dK b)/\∀h,R (KQ P w d b h λp=>kV p.1) (aG f d (dE P w d b h))
def FE(t:PE X l a)(u:X.prog=P:=by rfl)(y:X.w=w:=by rfl):PI X j l (Kl P w a):=by
 subst u y;intro f s z H R I h;refine ce (t f s z H _ I h) λv n A=>?_;obtain⟨x,J,I1,B,d,k,e,hd,q⟩:=A;subst e;obtain rfl:v=Value.ref d:=B;obtain⟨r,C,D,E,F,p⟩:=I1.walk hd;have m:k.length=C.length:=Paired.length D;refine wpAny_pyIter_dict F E ?_;refine⟨n.heap.objs.size,[n.heap.objs.size],_,_,_,rfl,p.kept (t':=n.toks) λb o e=>c_ _ e,AN d _ k r,⟨_,f_ _ rfl,rfl,by rw[m];rfl⟩,λb G=>?_,q r⟩;have e:b=n.heap.objs.size:=by simpa using G
 subst e;exact p.fpOk (fx _) (p.hok.fresh (fx _))
def Kh(P:MU)(w:World)(c:TE):TI:=λk H R=>c k H λx f=>∃d b,x=.ref d/\f d=some (.dK b)/\∀h,R (KQ P w d b h λp=>p.2) (aG f d (dE P w d b h))
def K2(P:MU)(w:World)(t:TE):TE:=λh H Q=>t h H λv f=>∃d b k,f d=some (dE P w d b k)/\Q v (aG f d (.dK b))
def HV(h:PE X e te)(f:X.prog=P:=by rfl)(m:X.w=w:=by rfl):PE X e (K2 P w te):=by subst f m;intro b s k H Q I n;refine ce (h b s k H _ I n) λu x p=>?_;obtain⟨v,y,I1,r,d,t,z,hd,q⟩:=p;exact⟨v,_,I1.thaw hd,r,q⟩
def JE(P:MU)(w:World)(t:TS):TS:=λD k H=>t {D with nx:=λf h=>∃d b m,h d=some (dE P w d b m)/\D.nx f (aG h d (.dK b))} k H
def CU{st:Stmt}{t:TS}(h:PS X st t)(m:X.prog=P:=by rfl)(n:X.w=w:=by rfl):PS X st (JE P w t):=by subst m n;intro b s p H D I r;refine wpAny_mono (h b s p H _ I r) (λf y z=>?_) λ_ _ z=>z;cases f with|next=>obtain⟨k,A,v,d,x,B,hd,q⟩:=z;exact⟨k,_,v.thaw hd,q⟩|brk=>exact z|cont=>exact z|ret u=>exact z
end
end L2
namespace L2
open PySem PySem.Spec PyProof.Rows PySem.W
section
variable{X:Cx}{P:MU}{w:World}{i l o e:Expr}{p g te ty:TE}{f c j:Pos}
def FC(D:PE X o g)(E:X.prog=P:=by rfl)(G:X.w=w:=by rfl)(m:attributeBase o "values" X.env (eval o X.env)=eval o X.env:=by rfl)(n:(f.endLine==c.line)=true:=by rfl):PI X i (.Call (.Attribute o "values" f) [] [] c) (Kh P w g):=by
 subst E G;intro k s J H R I h;refine wpAny_Call_method0_late m n (ce (D k s J H _ I h) λv a K=>?_);obtain⟨x,V,I1,L,d,r,e,hd,q⟩:=K;subst e;obtain rfl:v=Value.ref d:=L;obtain⟨B,C,M,t,N,O⟩:=I1.walk hd;have u:r.length=C.length:=Paired.length M;obtain⟨ob,W,y,Q,_⟩:=id t;refine⟨"dict","dict.values",PySem.F.plainAttrs_dict,PySem.F.slot_dict_values,PySem.F.type_dict_values,t.dictOf.typeIs,?_,pw rfl (PySem.evalArgs_none (yl PySem.F.slot_dict_values t.dictOf.typeIs PySem.F.entry_dict_values (PySem.F.args_dict_values_1 _) (meets_dict_values (aS X.prog X.w) d N) ⟨⟨C,t.dictOf⟩,?_⟩))⟩
 ·intro b z;cases z;exact⟨ob,y,Q.2.1⟩
 ·have S:(a.heap.push {cls:=.type "dict_values",data:=.fields #[.ref d]}).IsValuesView a.heap.objs.size d:=⟨_,f_ _ rfl,rfl,rfl⟩;show wpAny _ _ (pyIter (.ref a.heap.objs.size)) _ _ _;have A:=O.kept (h':=a.heap.push {cls:=.type "dict_values",data:=.fields #[.ref d]}) (t':=a.toks) λb o e=>c_ _ e;refine wpAny_pyIter_values (s:={a with heap:=a.heap.push {cls:=.type "dict_values",data:=.fields #[.ref d]}}) S (t.push _) ?_;refine⟨_,[(a.heap.push {cls:=.type "dict_values",data:=.fields #[.ref d]}).objs.size],_,_,_,rfl,A.kept (t':=a.toks) λb o e=>c_ _ e,AM d _ r B,⟨_,f_ _ rfl,rfl,by rw[u];rfl⟩,λb U=>?_,q B⟩;have e:b=(a.heap.push {cls:=.type "dict_values",data:=.fields #[.ref d]}).objs.size:=by simpa using U
  subst e;exact A.fpOk (fx _) (A.hok.fresh (fx _))
def Jz(K:MP)(a:Addr)(ty:TE):TE:=λd H Q=>ty d H λy b=>∃x r,y=.str x/\PySem.W.nsIn K a x=some r/\((r=none/\Q .non b)\/∃u v,r=some u/\aU v u/\Q v b)
def FG(K:MP)(L:X.K=K)(hd:GC K X.w.params a)(hg:Gl X x)(hm:X.mg x=some (.ref a))(M:PE X e ty)(m:M1 X (.Name x d) "get" f e c)(B:(x==("__debug__":Str))=false:=by decide):PE X (.Call (.Attribute (.Name x d) "get" f) [e] [] c) (Jz K a ty):=by
 subst L;intro k s E H Q I h;obtain⟨lo,es,n,A,G⟩:=hd;have hn:PE X (.Name x d) (tC (.ref a)):=Ad hg hm rfl B;refine K_ m.base m.few m.line PySem.F.plainAttrs_dict PySem.F.slot_dict_get PySem.F.type_dict_get (ce (hn k s E H (λv N=>v=.ref a/\N=H) I ⟨rfl,rfl⟩) λu O⟨z,R,I1,S,T,U⟩=>?_);subst T U;obtain rfl:u=Value.ref a:=S;have C:=PySem.W.mapOf_K (prog:=X.prog) (w:=X.w) I1.kIn A G;refine⟨C.typeIs,λb z=>by cases z;exact⟨_,I1.kIn _ _ A,rfl⟩,?_⟩;rw[m.trees];refine pw rfl (sT (pu (ce (M k O E R _ I1 h) λiv s2 V=>?_)));obtain⟨y,J,D,Y,Z,r,ey,hu,q2⟩:=V;refine to ?_;subst ey;obtain⟨tk,rfl⟩:=Y;have t:=PySem.W.mapOf_K (prog:=X.prog) (w:=X.w) D.kIn A G;refine yl PySem.F.slot_dict_get t.typeIs PySem.F.entry_dict_get (PySem.F.args_dict_get_2 _ _) (meets_dict_get (strKind X.prog X.w) a (PySem.strKind_is X.prog X.w Z tk) lo) ⟨_,t,?_⟩;rw[PySem.W.find_K A hu];rcases q2 with⟨rfl,q⟩|⟨u',v',rfl,rv,q⟩
 ·exact⟨.non,J,D.tok _,rfl,q⟩
 ·exact⟨v',J,D.tok _,rv,q⟩
end
end L2
namespace L2
open PySem PySem.W PyProof.Rows
section
variable{M:Model}{A:Around}{E:MQ}
def Bn{C D N J:Addr}{nm q m L:Str}{bs n o a:MT}{hd P sub R p r u c v i}{dd w:Option Addr}{S T W X Z x y z B F:Option Value}{id G:String}{s:Shared}{e:Addr}{H:Obj}{Q:Bool->Shared->Prop}(hC:s.heap.get? C=some (excClassObj nm q C N bs o hd P sub R p dd S T W X Z id))(I:s.heap.get? D=some (excClassObj m L D J n a r u c v i w x y z B F G))(he:s.heap.get? e=some H)(j:H.cls=.ref C)(hb:a.contains (.type "BaseException")=true)(l:Q ((Value.ref C::o).contains (.ref D)) s):wpAny M A (excMatches (.ref e) (.ref D)) Q E s:=by
 obtain⟨h,g,d,t,os⟩:=s;have b:(Value.ref D::a).contains (.type "BaseException")=true:=by rw[List.contains_cons,hb,Bool.or_true]
 have f:=tc_notTuple;unfold excMatches
 repeat(first|(with_reducible refine wpAny_loadPart_at he ?_;rw[j])|with_reducible refine wpAny_loadPart_at I ?_|(with_reducible refine wpAny_isSubtype_exc I ?_;rw[b])|(with_reducible refine wpAny_isSubtype_exc hC ?_)|wp_step)
 cases hc:(Value.ref C::o).contains (Value.ref D)with|true=>rw[hc]at l;rw[hQ rfl];exact e_ (e_ (e_ l))|false=>rw[hc]at l;rw[g8 h_];exact e_ (e_ (e_ l))
end
def IU(K:MP)(C:Addr)(a:MT):Prop:=∃b dd cd sl,K.lookup C=some ⟨b,dd,.cls cd,sl⟩/\cd.mro=.ref C::a
def IU.is{K:MP}{C:Addr}{d c:MT}{h:Heap}{o:Obj}{a:ClassData}(m:IU K C d)(kin:K.In h)(e:h.get? C=some o)(hd:o.data=.cls a)(hm:a.mro=.ref C::c):c=d:=by obtain⟨f,dd,cd,sl,l,r⟩:=m;have b:=kin _ _ l;rw[e]at b;cases b;have hd:Data.cls cd=Data.cls a:=hd;cases hd;rw[hm]at r;exact(List.cons.inj r).2
end L2
namespace L2
open PySem PySem.Spec PyProof.Rows PySem.W
section
variable{X:Cx}{d:Expr}
def Kg(K:MP)(e:TA):TI:=λb H R=>e b H λf a=>∃t l g h,f=[.ref t,.ref l]/\aX K a t g/\∃c,Gx c K a l h/\R (KC c K t l) a
def FB(K:MP)(D:X.K=K){i:MW}{E:Nat}{j:Pos}{a b:Expr}{z:TA}{p m:Pos}(hg:Gl X "zip")(hm:X.mg "zip"=none)(F:PA X [a,b] z)(G:starEach [a,b] X.env=[(false,eval a X.env),(false,eval b X.env)]:=by rfl)(n:starEach [b] X.env=[(false,eval b X.env)]:=by rfl):PI X (.Tuple i E j) (.Call (.Name "zip" p) [a,b] [] m) (Kg K z):=by
 subst D;intro k s J H R I h;refine sm (kO I hg hm Et (t0 (ce (F m k s J H _ I h) λus f L=>?_) (by rw[G,n]) (by rw[n];rfl)));obtain⟨vs,M,I1,N,t,l,xs,ys,e,w,c,x,q⟩:=L;subst e;obtain⟨u,v,rfl,rt,O⟩:=vd N;obtain rfl:u=Value.ref t:=rt;obtain rfl:v=Value.ref l:=O;obtain⟨y,rv,pl,hz⟩:=I1.tuple w;obtain⟨A,P,o,Q⟩:=I1.sqE x;obtain⟨o1,S,_⟩:=id pl;obtain⟨o2,T,_⟩:=id o;refine BI (show f.heap.IsTuple t y.toArray from pl) o λg B U V Y Z kk=>?_;refine wpAny_pyIter_zip B ⟨_,[f.heap.objs.size+4,f.heap.objs.size+2,f.heap.objs.size+3,f.heap.objs.size,f.heap.objs.size+1],_,_,M,rfl,I1.kept (t':=f.toks) kk,B0 (ktu_apart f.heap.objs.size t l (hH S) (hH T)),⟨B,U,⟨_,_,V⟩,Y,Z⟩,λb C=>?_,q⟩;have r:f.heap.objs.size<=b:=by simp only[o_,nn,z4]at C;rcases C with rfl|rfl|rfl|rfl|rfl<;>first|exact fx _|exact Nat.le_add_right _ _
 exact I1.fpOk r (I1.hok.fresh r)
def BH{K:MP}{a l:Addr}{xs ys:List V}{g:TG}{ds:MY}{k:Nat}{tc:TT}{te:TE}{E:St}{j:Hp}{F:Addr->Hp->Prop}(Pv:Addr->Nat->List V->Hp->Prop)(r:aW K j l ys\/aX K j l ys)(h0:∀D,j D=none->Pv D 0 [] (aG j D (.lst [])))(w:xs.length=ys.length)(G:∀D i f h,Pv D i f h->aX K h a xs/\ak j h)(H:∀D i x y f h T,j D=none->xs[i]?=some x->ys[i]?=some y->Pv D i f h->h T=none->g (.ref T) (gB ds k E) (aG h T (.tup [x,y])) λn A=>tc n A λb t=>if b=true then te n t λy u=>u D=some (.lst f)/\f.length<sizeLine/\∃o,o<xs.length-i/\o=xs.length-(i+1)/\i+1<=xs.length/\Pv D (i+1) (f++[y]) (aG u D (.lst (f++[y])))else∃o,o<xs.length-i/\o=xs.length-(i+1)/\i+1<=xs.length/\Pv D (i+1) f t)(hd:∀D f h,j D=none->Pv D xs.length f h->F D h):∃c,Gx c K j l ys/\∀D,j D=none->∃W:Nat->Nat->List V->Hp->Prop,(∃m,W 0 m [] (aG j D (.lst [])))/\∀i m f h,W i m f h->((KC c K a l).stop i h/\F D h)\/((KC c K a l).go i h/\∀x B,(KC c K a l).yld i h x B->g x (gB ds k E) B λn A=>tc n A λb t=>if b=true then te n t λy u=>u D=some (.lst f)/\f.length<sizeLine/\∃o,o<m/\W (i+1) o (f++[y]) (aG u D (.lst (f++[y])))else∃o,o<m/\W (i+1) o f t):=by
 obtain⟨c,hc,I⟩:∃c,Gx c K j l ys/\∀h,ak j h->Gx c K h l ys:=by
  rcases r with r|r
  ·exact⟨true,r,λ_ z=>z.seq r⟩
  ·exact⟨false,r,λ_ z=>ak.tseq z r⟩
 refine⟨c,hc,λD C=>⟨λi m f h=>m=xs.length-i/\i<=xs.length/\Pv D i f h,⟨_,rfl,kw _,h0 D C⟩,?_⟩⟩;rintro i m f h⟨rfl,hi,p⟩;obtain⟨q,v⟩:=G D i f h p;have v:=I h v
 by_cases s:i<xs.length
 ·refine .inr ⟨⟨xs,ys,xs[i],ys[i],q,v,by simp[s],by simp[<-w,s]⟩,λx B y=>?_⟩;obtain⟨T,J,L,M,e,N,y⟩:=y;subst e N;obtain⟨O,P⟩:=y xs ys q v;exact H D i J L f _ T C O P p M
 ·have e:i=xs.length:=Nat.le_antisymm hi (Nat.le_of_not_lt s);subst e;exact .inl ⟨⟨xs,q,fx _⟩,hd D f h C p⟩
end
end L2
namespace L2
open PySem PySem.Spec PyProof.Rows PySem.W
def Ea(hh:A.handled=none)(c t:Addr)(ne:t≠c)(a:MX):Draws P w A c [c,t] a.size (λi v=>a[i]?=some v) (λi h=>h.IsTupleIter c t i/\h.IsTuple t a)where
 live:=λ_ _ st=>let⟨o,e,_⟩:=st.1;⟨o,e⟩
 frame:=λ_ _ _ st k=>⟨st.1.at λo e=>k c (by simp) o e,st.2.at λo e=>k t (by simp) o e⟩
 item:=λi s Q E hi st q=>rZ st.1 st.2 (v:=a[i]) (by simp[hi]) λg d b=>q _ g s.toks (by simp[hi]) ⟨d,st.2.extBut b.extBut ne⟩ b
 done:=λs Q E st q=>xl hh st.1 st.2 (by simp) q
def yi(t:Addr)(a:MX)(n:Nat)(f:Option Addr)(sl:Array (Option Value)):Meets (Builtin.«enumerate.__new__» ⟨[.type "enumerate",.ref t],[]⟩) (λ_ R s=>s.heap.get? t=some {cls:=.type "tuple",dict:=f,data:=.seq a n,slots:=sl}/\R (.ok (.ret (.ref (EM s.heap t).objs.size))) {s with heap:=(EM s.heap t).push {cls:=.type "enumerate",data:=.fields #[.none,.bool false,.ref s.heap.objs.size,rawInt 0,.none,.none]}}):=.of_wp λprog w A R s h=>by
  obtain⟨i,g,d,tk,os⟩:=s;obtain⟨b,h⟩:=h;have f1:=sub_enumerate;have e:Heap.IsTuple (Shared.heap ⟨i,g,d,tk,os⟩) t a:=⟨_,b,rfl,n,rfl⟩
  wp_walk using L0 b
  refine wpAny_stack_any λst=>e_ ?_
  split
  ·rename_i c _ _ _ _ _;cases(c==Value.type "enumerate")<;>(wp_walk using L0 b,w1 e)<;>exact⟨_,rfl,h⟩
  ·wp_walk using L0 b,w1 e
   exact⟨_,rfl,h⟩
def zJ(i:s.heap.IsTuple t a)(q:∀g,IsEnum g (s.heap.objs.size+1) s.heap.objs.size 0 .none->g.IsTupleIter s.heap.objs.size t 0->(∀b o,s.heap.get? b=some o->g.get? b=some o)->Q (.ref (s.heap.objs.size+1)) {s with heap:=g}):wpAny (model P w) A (call (.type "enumerate") [.ref t]) Q E s:=by
 obtain⟨⟨c,j,l,sl⟩,k,d,n,e⟩:=i;simp only at d e;subst d e;refine callType_new F.called_enumerate (by decide) (F.typeCall_enumerate_1 _) (F.newCall_enumerate_1 _) (λob=>F.args_object_init_2 ob _) F.entry_enumerate_new (yi t a n j sl) ⟨k,?_⟩;have f:(EM s.heap t).objs.size=s.heap.objs.size+1:=m3 ..;show _/\_;rw[f];have h:IsEnum ((EM s.heap t).push {cls:=.type "enumerate",data:=.fields #[.none,.bool false,.ref s.heap.objs.size,rawInt 0,.none,.none]}) (s.heap.objs.size+1) s.heap.objs.size 0 .none:=by have z:=f_ (EM s.heap t) (o:={cls:=.type "enumerate",data:=.fields #[.none,.bool false,.ref s.heap.objs.size,rawInt 0,.none,.none]}) rfl;rw[f]at z;exact z
 exact⟨⟨_,h,rfl⟩,q _ h ⟨_,c_ _ (f_ _ rfl),rfl,rfl⟩ λb o x=>c_ _ (c_ _ x)⟩
def Ite(K:MP)(t:Addr):It:=⟨λi H=>∃a x,aX K H t a/\a[i]?=some x,λi H v b=>∃T x,H T=none/\v=.ref T/\b=aG H T (.tup [.int i,x])/\∀a,aX K H t a->a[i]?=some x,λi H=>∃a,aX K H t a/\a.length=i⟩
def AO{P:MU}{w:World}{K:MP}{r:MW}{Z:Nat}{F:Pos}{e a t:Addr}(n1:e≠a)(n2:t≠a)(n3:t≠e):u5 P w K (.Tuple r Z F) (Ite K t) [e,a] e (λi h=>(∃d,IsEnum h e a i d)/\h.IsTupleIter a t i)where
 mem:=by simp
 obj:=λi h st b j=>by
  obtain⟨⟨_,a1⟩,ob,l,_,V⟩:=st;simp only[o_,nn,z4]at j;rcases j with rfl|rfl
  ·exact⟨_,a1,λv z=>by cases z⟩
  ·exact⟨_,l,λv z=>by rw[V]at z;cases z⟩
 keep:=λi h h' st k=>by obtain⟨⟨d,a1⟩,l⟩:=st;exact⟨⟨d,k e (by simp) _ a1⟩,l.at λob z=>k a (by simp) ob z⟩
 item:=by
  intro X G J L hc i m s R H E I B st hg;subst G J L;obtain⟨Y,x,C,S⟩:=hg;obtain⟨f,M,p,hz⟩:=I.tuple C;obtain⟨u,T,ru⟩:=M.get S;obtain⟨⟨d,a1⟩,l⟩:=st;have hi:i<f.toArray.size:=by rw[ig];exact(d_.mp T).1
  have n:X.A.in1.handled=none:=by simp[I.ok.hd hc]
  refine wpAny_pyNext_enum_itemD (Ea n a t n2 f.toArray) a1 ⟨l,p⟩ hi n1 (by simp[n1,mu n3]) λv g tk D b1 b2 b3 b4 off=>?_;have ev:v=u:=by have D:f.toArray[i]?=some v:=D;rw[Mi,T]at D;exact(kl D).symm
  subst ev;refine⟨_,rfl,wpAny_letOwnedTupleGo_enum b1 λg' c1 N=>?_⟩;have lt:∀c∈[e,a],c≠s.heap.objs.size:=λc y z=>by
   have hs:∃ob,s.heap.get? c=some ob:=by
    simp only[o_,nn,z4]at y;rcases y with rfl|rfl
    ·exact⟨_,a1⟩
    ·obtain⟨ob,z,_⟩:=l;exact⟨ob,z⟩
   obtain⟨ob,h⟩:=hs;rw[z]at h;exact absurd (hH h) (ot _)
  have fresh:H s.heap.objs.size=none:=I.hok.fresh (fx _);have I1:aN X m R (aG H s.heap.objs.size (.tup [.int i,x])) {s with heap:=s.heap.push {cls:=.type "tuple",data:=.seq #[.int i tk,v]},toks:=tk+1}:=I.laid (λb o z=>c_ _ z) (fx _) ⟨by rw[gg];simp,[.int i tk,v],.cons ⟨tk,rfl⟩ (.cons ru .nil),⟨_,f_ _ rfl,rfl,_,rfl⟩⟩
  have I2:=j6 (h':=g') (t':=tk+1) (ch:=[e,a]) I1 (λb o j z=>?_) (λb j=>?_)
  ·refine⟨.ref s.heap.objs.size,_,I2,rfl,⟨_,x,fresh,rfl,rfl,λaa h1=>by rw[I.tuple_inj h1 C];exact S⟩,⟨⟨_,by simpa using c1⟩,b2.1.extBut N.extBut (mu n1)⟩,λb j=>?_⟩;rw[ao (lt b j)];exact(B b j).1
  ·have q:b≠e/\b≠a:=by simpa using j
   by_cases U:b=s.heap.objs.size
   ·subst U;rw[f_ _ rfl]at z;cases z;exact N.extBut _ _ q.1 b3
   ·have z':s.heap.get? b=some o:=by
     rcases LB z with⟨O,_⟩|O
     ·exact absurd O U
     ·exact O
    exact N.extBut _ _ q.1 (off b o q.1 q.2 z')
  ·obtain⟨f0,f1⟩:=B b j;exact⟨by rw[ao (lt b j)];exact f0,f1⟩
 done:=by
  intro X G J L hc i m s R H E I B st hg;subst G J L;obtain⟨Y,C,rfl⟩:=hg;obtain⟨f,M,p,hz⟩:=I.tuple C;have hl:=M.length;obtain⟨⟨d,a1⟩,l⟩:=st;have n:X.A.in1.handled=none:=by simp[I.ok.hd hc]
  have Q:s.heap.IsTupleIter a t f.toArray.size:=by rw[ig,<-hl];exact l
  refine wpAny_pyNext_enum_endD (Ea n a t n2 f.toArray) a1 ⟨Q,p⟩ λg off=>⟨rfl,j6 (t':=s.toks) (ch:=[e,a]) I (λb o j z=>?_) B⟩;have q:b≠e/\b≠a:=by simpa using j
  exact off b o q.2 z
 self:=λ_ _ _ _ _ st h=>by obtain⟨⟨d,a1⟩,_⟩:=st;exact wpAny_pyIter_enum a1 h
section
variable{X:Cx}
def Km(K:MP)(c:TA):TI:=λb H R=>c b H λd a=>∃t e,d=[.ref t]/\aX K a t e/\R (Ite K t) a
def FF(K:MP)(r:X.K=K){c:MW}{v:Nat}{d:Pos}{a:Expr}{m:TA}{p f:Pos}(hg:Gl X "enumerate")(hm:X.mg "enumerate"=none)(w:PA X [a] m)(x:starEach [a] X.env=[(false,eval a X.env)]:=by rfl):PI X (.Tuple c v d) (.Call (.Name "enumerate" p) [a] [] f) (Km K m):=by
 subst r;intro i s y H R I h;refine sm (kO I hg hm L2.ug (t0 (ce (w f i s y H _ I h) λG j⟨J,z,I1,A,B⟩=>?_) (by rw[x];rfl) (by rfl)));obtain⟨t,L,e,C,q⟩:=B;subst e;obtain⟨u,rfl,rt⟩:=iE A;obtain rfl:u=Value.ref t:=rt;obtain⟨l,M,pl,N⟩:=I1.tuple C;obtain⟨O,D,_⟩:=id pl;have lt:=hH D;refine zJ (show j.heap.IsTuple t l.toArray from pl) λg n E F=>?_;refine wpAny_pyIter_enum n ⟨_,[j.heap.objs.size+1,j.heap.objs.size],_,_,z,rfl,I1.kept (t':=j.toks) F,AO (t:=t) (md (ro _)) (iA lt) (iA (u_ lt)),⟨⟨_,n⟩,E⟩,λb o=>?_,q⟩;have k:j.heap.objs.size<=b:=by
  simp only[o_,nn,z4]at o;rcases o with rfl|rfl
  ·exact Nat.le_add_right _ _
  ·exact fx _
 exact I1.fpOk k (I1.hok.fresh k)
end
end L2
namespace L2
open PySem PySem.Spec PyProof.Rows PySem.W
section
variable{X:Cx}
end
end L2
namespace L2
open PySem PySem.Spec PyProof.Rows PySem.W
def Iti(P:MU)(w:World)(d:Addr)(a:List (cb×V))(c:Nat):It:=⟨λi H=>H d=some (dE P w d a c)/\i<a.length,λi H x b=>∃T k v,H T=none/\x=.ref T/\b=aG H T (.tup [kV k,v])/\a[i]?=some (k,v),λi H=>H d=some (dE P w d a c)/\a.length<=i⟩
def yT{P:MU}{w:World}{K:MP}{l:MW}{R:Nat}{t:Pos}(d f:Addr)(a:List (cb×V))(J:Nat):u5 P w K (.Tuple l R t) (Iti P w d a J) [f] f (λi h=>∃ok m,IsItemIter h f d i a.length J ok m)where
 mem:=by simp
 obj:=λi h st b g=>by
  have e:b=f:=by simpa using g
  subst e;obtain⟨_,_,e⟩:=st;exact⟨_,e,λv z=>by cases z⟩
 keep:=λi h h'⟨ok,m,e⟩k=>⟨ok,m,k f (by simp) _ e⟩
 item:=by
  intro X x y A hc i j s L H E I p st hg;subst x y A;obtain⟨hd,hi⟩:=hg;obtain⟨⟨_,B,q,C⟩,_⟩:=I.hok d _ hd;have c:a.length=B.length:=Paired.length q;have M:a[i]?=some a[i]:=fy hi;obtain⟨u,S,ru⟩:=wK q i a[i].1 a[i].2 M;obtain⟨ok,m,st⟩:=st;have lt:f<s.heap.objs.size:=hH st;rw[c]at st;refine wpAny_pyNext_items_item st C S λn h' T out U hz Y=>?_;refine⟨_,rfl,wpAny_letOwnedTupleGo_items out λZ N O=>?_⟩;rw[<-c]at N;have fresh:H s.heap.objs.size=none:=I.hok.fresh (fx _);have I1:aN X j L (aG H s.heap.objs.size (.tup [kV a[i].1,a[i].2])) {s with heap:=s.heap.push {cls:=.type "tuple",data:=.seq #[n,u]}}:=I.laid (t':=s.toks) (λb o z=>c_ _ z) (fx _) ⟨by rw[gg];simp,[n,u],.cons (Al T) (.cons ru .nil),⟨_,f_ _ rfl,rfl,_,rfl⟩⟩
  have I2:=j6 (h':=Z) (t':=s.toks) (ch:=[f]) I1 (λb o g z=>?_) (λb g=>?_)
  ·refine⟨.ref s.heap.objs.size,_,I2,rfl,⟨_,a[i].1,a[i].2,fresh,rfl,rfl,M⟩,⟨_,_,N⟩,λb g=>?_⟩;have e:b=f:=by simpa using g
   subst e;rw[ao (iA lt)];exact(p b g).1
  ·have D:b≠f:=by simpa using g
   by_cases r:b=s.heap.objs.size
   ·subst r;rw[f_ _ rfl]at z;cases z;exact O.extBut _ _ D U
   ·have z':s.heap.get? b=some o:=by
     rcases LB z with⟨F,_⟩|F
     ·exact absurd F r
     ·exact F
    exact O.extBut _ _ D (Y b o D z')
  ·have e:b=f:=by simpa using g
   subst e;obtain⟨G,f1⟩:=p b g;exact⟨by rw[ao (iA lt)];exact G,f1⟩
 done:=by intro X x y A hc i j s L H E I p st hg;subst x y A;obtain⟨hd,hi⟩:=hg;obtain⟨⟨_,B,q,C⟩,_⟩:=I.hok d _ hd;have c:a.length=B.length:=Paired.length q;obtain⟨G,f1,f2,f3,f4,f5⟩:=p f (by simp);obtain⟨ok,m,st⟩:=st;rw[c]at st;exact wpAny_pyNext_items_end (I.ok.hd hc) st C (l_ (by omega)) λh' r=>⟨rfl,I.turned (t':=s.toks) (λb o g e=>r b o g e) G f1 f3 f4 f5⟩
 self:=λ_ _ _ _ _ st h=>by obtain⟨_,_,st⟩:=st;exact kcp_self st h
section
variable{X:Cx}{P:MU}{w:World}{o:Expr}{i:TE}{c a f:Pos}{g:MW}{j:Nat}
def Iv(P:MU)(w:World)(i:TE):TI:=λk H R=>i k H λx e=>∃d b,x=.ref d/\e d=some (.dK b)/\∀h,R (Iti P w d b h) (aG e d (dE P w d b h))
def C0(C:PE X o i)(D:X.prog=P:=by rfl)(E:X.w=w:=by rfl)(l:attributeBase o "items" X.env (eval o X.env)=eval o X.env:=by rfl)(m:(c.endLine==a.line)=true:=by rfl):PI X (.Tuple g j f) (.Call (.Attribute o "items" c) [] [] a) (Iv P w i):=by
 subst D E;intro n s G H R I h;refine wpAny_Call_method0_late l m (ce (C n s G H _ I h) λv k J=>?_);obtain⟨x,U,I1,K,d,p,e,hd,q⟩:=J;subst e;obtain rfl:v=Value.ref d:=K;obtain⟨A,B,L,r,M,N⟩:=I1.walk hd;have t:p.length=B.length:=Paired.length L;obtain⟨ob,V,u,O,_⟩:=id r;refine⟨"dict","dict.items",PySem.F.plainAttrs_dict,PySem.F.slot_dict_items,PySem.F.type_dict_items,r.dictOf.typeIs,?_,pw rfl (PySem.evalArgs_none (yl PySem.F.slot_dict_items r.dictOf.typeIs PySem.F.entry_dict_items (PySem.F.args_dict_items_1 _) (meets_dict_items (aS X.prog X.w) d M) ⟨⟨B,r.dictOf⟩,?_⟩))⟩
 ·intro b z;cases z;exact⟨ob,u,O.2.1⟩
 ·have Q:(k.heap.push {cls:=.type "dict_items",data:=.fields #[.ref d]}).IsItemsView k.heap.objs.size d:=⟨_,f_ _ rfl,rfl,rfl⟩;show wpAny _ _ (pyIter (.ref k.heap.objs.size)) _ _ _;have y:=N.kept (h':=k.heap.push {cls:=.type "dict_items",data:=.fields #[.ref d]}) (t':=k.toks) λb o e=>c_ _ e;refine wpAny_pyIter_items (s:={k with heap:=k.heap.push {cls:=.type "dict_items",data:=.fields #[.ref d]}}) Q (r.push _) ?_;refine⟨_,[(k.heap.push {cls:=.type "dict_items",data:=.fields #[.ref d]}).objs.size],_,_,_,rfl,y.kept (t':=k.toks) λb o e=>c_ _ e,yT d _ p A,⟨_,_,by rw[t];exact f_ _ rfl⟩,λb T=>?_,q A⟩;have e:b=(k.heap.push {cls:=.type "dict_items",data:=.fields #[.ref d]}).objs.size:=by simpa using T
  subst e;exact y.fpOk (fx _) (y.hok.fresh (fx _))
end
end L2
namespace L2
open PySem PySem.Spec PyProof.Rows PySem.W
def px(n:Nat){c:Type}(R:c->Prop):KasT c->Prop|.ret a=>R a|.ask i j k=>i<n/\j<n/\∀b,px n R (k b)
theorem px.bind{n:Nat}{c d:Type}{R:c->Prop}{S:d->Prop}{f:c->KasT d}(e:∀a,R a->px n S (f a)):∀{t:KasT c},px n R t->px n S (t.bind f)|.ret a,h=>e a h|.ask i j k,h=>⟨h.1,h.2.1,λb=>px.bind e (h.2.2 b)⟩
theorem px.wp{n:Nat}{d:Type}{R:d->Prop}{c:Nat->Nat->(Bool->Shared->Prop)->Shared->Prop}{Q:d->Shared->Prop}{s:Shared}(hc:∀i j C,i<n->j<n->(∀b,C b s)->c i j C s)(e:∀a,R a->Q a s):∀{t:KasT d},px n R t->t.kasWp c Q s|.ret a,h=>e a h|.ask i j k,h=>hc i j _ h.1 h.2.1 λb=>px.wp hc e (h.2.2 b)
def PR(n:Nat)(p:Array Nat):Prop:=p.toList.Perm (List.range n)
def PR.lt(h:PR n p)(hn:0<n)(k:Nat):p.getD k 0<n:=by
 by_cases a:k<p.size
 ·have e:p.getD k 0=p[k]:=by simp[Array.getD,a]
  rw[e];exact q_.mp (h.mem_iff.mp (Array.mem_toList_iff.mpr (Array.getElem_mem a)))
 ·have e:p.getD k 0=0:=by simp[Array.getD,a]
  rw[e];exact hn
def PR.rev(h:PR n p)(i j:Nat):PR n (kas_rev p i j):=(mirror_perm p i j _).toList.trans h
section
variable{n:Nat}(hn:0<n)
include hn
theorem wL(h:PR n p):∀f m,px n (λ_=>True) (kas_asc p f m)|0,_=>trivial|f+1,m=>⟨h.lt hn _,h.lt hn _,λb=>by cases b with|true=>exact trivial|false=>exact wL h f (m+1)⟩
theorem oW:∀(f:Nat){p:Array Nat}(m q:Nat),PR n p->px n (λr:Array Nat×Nat×Nat=>PR n r.1) (kas_desc f p m q)|0,_,_,_,h=>h|f+1,p,m,q,h=>⟨h.lt hn _,h.lt hn _,λb=>by
 cases b with|true=>
   show px n _ (if q>0 then _ else _)
   split
   ·exact oW f _ _ (h.rev _ _)
   ·exact oW f _ _ h|false=>refine⟨h.lt hn _,h.lt hn _,λd=>?_⟩;cases d with|true=>exact h|false=>exact oW f _ _ h⟩
def yn{p:Array Nat}(m r:Nat)(h:PR n p):px n (λr:Nat×Array Nat=>PR n r.2) (kas_tail3 m r p):=px.bind (S:=λr:Nat×Array Nat=>PR n r.2) (f:=λa=>.ret (a,kas_rev p 0 m)) (λ_ _=>h.rev _ _) (wL hn (h.rev _ _) _ _)
def yo{p:Array Nat}(m r:Nat)(h:PR n p):px n (λr:Nat×Array Nat=>PR n r.2) (kas_descPart m r p):=px.bind (λa b=>by
 show px n _ (if a.2.2>0 then _ else _)
 split
 ·exact yn hn _ _ (b.rev _ _)
 ·exact yn hn _ _ b) (oW hn _ _ _ h)
def Bu{p:Array Nat}(r:Nat)(h:PR n p):px n (λr:Nat×Array Nat=>PR n r.2) (kas_count r p):=px.bind (λm _=>by
 show px n _ (if(m==r)=true then _ else _)
 split
 ·exact h
 ·split
  ·refine⟨h.lt hn _,h.lt hn _,λc=>?_⟩;cases c with|true=>exact h|false=>exact yo hn _ _ (h.rev _ _)
  ·exact yo hn _ _ h) (wL hn h _ _)
theorem pX{p:Array Nat}(h:PR n p)(k:Nat):∀f l r,px n (λ_=>True) (kas_place p k f l r)
 |0,_,_=>trivial|f+1,l,r=>by
  show px n _ (if l>=r then _ else _)
  split
  ·exact trivial
  ·refine⟨h.lt hn _,h.lt hn _,λc=>?_⟩;cases c with|true=>exact pX h k f _ _|false=>exact pX h k f _ _
theorem Ap:∀(f:Nat){p:Array Nat}(k:Nat),PR n p->px n (PR n) (kas_bin f p k)|0,_,_,h=>h|f+1,p,k,h=>px.bind (λl _=>Ap f _ ((bubble_perm p k _).toList.trans h)) (pX hn h _ _ _ _)
def DO:px n (PR n) (kas_sort n):=px.bind (λr a=>by
 show px n _ (if r.1<n then _ else _)
 split
 ·exact Ap hn _ _ a
 ·exact a) (Bu hn _ (show(List.toArray (List.range n)).toList.Perm _ by exact .refl _))
end
section
variable{prog:MU}{w:World}{A:Around}{E:MQ}{s:Shared}{κ:SortKind}
def Cz{a:Addr}{c:MT}{n:Nat}{P:Fin->Shared->Prop}(v:s.heap.get? a=some (seqObj "list" c.toArray n))(L:c.length<64)(M:2<=c.length->∀g:Shared,(∀b o,b≠a->s.heap.get? b=some o->g.heap.get? b=some o)->(∀Q:SortKind->Shared->Prop,Q κ g->wpAny (model prog w) A (keyKind' c.toArray) Q (λ_ _=>False) g)/\∀x y C,x∈c->y∈c->(∀b,C b g)->wpAny (model prog w) A (keyLt' κ x y) C (λ_ _=>False) g)(h:∀out:List Value,out.Perm c->P (.done (.ret .none)) {s with heap:=sortedHeap s.heap a c out.toArray}):wpAny (model prog w) A (Builtin.«list.sort» ⟨[.ref a],[]⟩) P E s:=by
 rw[list_sort_plain];have B:c.toArray.size=c.length:=by simp
 refine a_ (listItems_at v rfl ?_);refine a_ (listUpdate_at v rfl ?_ (by rw[B,gg];lia) (kw _));obtain⟨D,k⟩:∃D,(s.heap.update a (Obj.mapSeq λ_=>#[])).get? a=some (seqObj "list" #[] D):=⟨_,get?_update_seq v (λ_=>#[])⟩;refine a_ (seqEpoch_at k rfl ?_);refine a_ (wpAny_newTuple ?_ (by show c.length<=_;rw[gg];lia));refine a_ (wpAny_newList ?_ (kw _));refine m_ ?_;have kept:∀b o,b≠a->s.heap.get? b=some o->(((s.heap.update a (Obj.mapSeq λ_=>#[])).push (seqObj "tuple" c.toArray 0)).push (seqObj "list" #[] 0)).get? b=some o:=λb o N q=>c_ _ (c_ _ ((Heap.get?_update_ne _ _ _ _ N).trans q))
 have d:(((s.heap.update a (Obj.mapSeq λ_=>#[])).push (seqObj "tuple" c.toArray 0)).push (seqObj "list" #[] 0)).get? a=some (seqObj "list" #[] D):=c_ _ (c_ _ k);show wpAny (model prog w) A _ P E {s with heap:=((s.heap.update a (Obj.mapSeq λ_=>#[])).push (seqObj "tuple" c.toArray 0)).push (seqObj "list" #[] 0)};dsimp only;have F:(c.toArray.zip c.toArray).size=c.length:=by simp
 by_cases h2:c.toArray.size<2
 ·rw[hQ h2,hQ h2];refine a_ (e_ ?_);rw[StateT.run_pure];refine a_ (e_ ?_);dsimp only;refine a_ (seqEpoch_at d rfl ?_);refine a_ (listUpdate_at d rfl ?_ (kw _) (by refine ku (Nat.le_of_eq ((Array.size_map ..).trans F)) ?_;rw[gg];lia));simp only[bne_self_eq_false,H_,L4];have e:(c.toArray.zip c.toArray).map (·.2)=c.toArray:=by
   apply Array.toList_inj.mp;have e:(c.toArray.zip c.toArray).toList=c.zip c:=by simp
   rw[Array.toList_map,e];exact List.map_snd_zip (fx _)
  have:=h c (.refl _);rw[<-e]at this;exact e_ this
 ·rw[g8 h2,g8 h2];have l:2<=c.length:=by lia
  obtain⟨O,R⟩:=M l {s with heap:=((s.heap.update a (Obj.mapSeq λ_=>#[])).push (seqObj "tuple" c.toArray 0)).push (seqObj "list" #[] 0)} kept;refine a_ (wpAny_mono (O (λm K=>m=κ/\K={s with heap:=((s.heap.update a (Obj.mapSeq λ_=>#[])).push (seqObj "tuple" c.toArray 0)).push (seqObj "list" #[] 0)}) ⟨rfl,rfl⟩) (λm K z=>?_) λ_ _ x=>x.elim);obtain⟨rfl,rfl⟩:=z;refine a_ (wpAny_mono (kat_run (ks:=c) (vs:=c) (Q:=λf r=>∃p:Array Nat,arrOf f=p.map (kas_item (c.toArray.zip c.toArray))/\failedOf f=none/\PR c.length p/\r=_) (G:=λp r=>PR c.length p/\r=_) rfl l L (λp f r a1 T U a4=>⟨p,T,U,a4⟩) (px.wp (λi j C hi V W=>?_) (λp u=>⟨u,rfl⟩) (DO (by lia)))) ?_ λ_ _ e=>e)
  ·unfold kas_ask;have mem:∀i,i<c.length->c.getD i Value.none∈c:=λi hi=>by rw[t6,fy hi];exact Ly hi
   exact R _ _ C (mem i hi) (mem j V) W
  ·rintro⟨⟨⟩,f⟩r⟨p,H,X,u,rfl⟩;dsimp only;have t:=kat_snds (ks:=c) (vs:=c) rfl H;have I:p.toList.length=c.length:=by rw[u.length_eq,n7]
   have J:(p.toList.map λi=>c.getD i Value.none).Perm c:=by
    refine(u.map λi=>c.getD i Value.none).trans (MM ?_);refine th λi=>?_;rw[ge]
    by_cases hi:i<c.length
    ·rw[List.getElem?_range hi];simp[hi]
    ·rw[l_ (by rw[n7];lia),l_ (by lia)];rfl
   rw[t];refine a_ (seqEpoch_at d rfl ?_);refine a_ (listUpdate_at d rfl ?_ (kw _) (by rw[ig,b_,I,gg];lia));rw[X];simp only[bne_self_eq_false,H_,L4];exact e_ (h _ J)
end
def yN(h:Heap)(v:Value):Prop:=∃a o n x y z t u b,v=.ref a/\h.get? a=some o/\o.cls=.type "tuple"/\o.data=.seq #[.str x t,.str y u,.str z b] n
def yN.kept(p:yN h v)(k:∀b o,h.get? b=some o->h'.get? b=some o):yN h' v:=by obtain⟨a,o,n,x,y,z,t,u,c,e,d,r⟩:=p;exact⟨a,o,n,x,y,z,t,u,c,e,k _ _ d,r⟩
section
variable{prog:MU}{w:World}{A:Around}{E:MQ}{s:Shared}
def EQ(g:yN s.heap v)(h:yN s.heap u)(d:∀b,C b s):wpAny (model prog w) A (keyLt' (tuples' true) v u) C (λ_ _=>False) s:=by obtain⟨a,o,n,x,y,z,p,q,r,rfl,i,hc,hd⟩:=g;obtain⟨B,D,F,G,H,I,j,k,l,rfl,e,m,f⟩:=h;have c:∀{x y:Str}{t u:Tok},wpAny (model prog w) A (oneLt' false (.str x t) (.str y u)) C (λ_ _=>False) s:=λ{x y t u}=>kat_one _ _ (lt_str (d _));refine kat_lt i hd e f (kat_cons (L3 (kat_go (λ_=>kat_yes (kat_cons (L3 (kat_go (λ_=>kat_yes (kat_cons (L3 (kat_go (λ_=>kat_yes (kat_nil (d _))) (λ_=>kat_no c))))) (λ_=>kat_no c))))) (λ_=>kat_no (oneLt_str (d _))))))
theorem qE:∀{c:MT},(∀v∈c,yN h v)->∃fs:List Value,KatTups h c fs/\fs.length=c.length/\∀v∈fs,∃x t,v=Value.str x t
 |[],_=>⟨[],.nil,rfl,λv b=>nomatch b⟩|u::r,d=>by
  obtain⟨a,o,n,x,y,z,e,g,i,rfl,f,hc,hd⟩:=d u (ir ..);obtain⟨fs,h1,h2,h3⟩:=qE λv b=>d v (hY _ b);refine⟨.str x e::fs,.cons f hc hd rfl h1,by simp[h2],λv b=>?_⟩;rcases o_.mp b with rfl|b
  ·exact⟨_,_,rfl⟩
  ·exact h3 v b
def yV(g:s.heap.IsList l vs.toArray)(i:vs.length<64)(j:∀v∈vs,yN s.heap v)(h:∀out:List Value,out.Perm vs->Q (.ref (s.heap.objs.size+1)) {s with heap:=sortedAll s.heap vs out.toArray}):wpAny (model prog w) A (call (.builtin "sorted") [.ref l]) Q E s:=by
 refine Calls.call_function_entry kind_sorted plain_sorted entry_sorted (args_sorted1 _) ?_;unfold Builtin.«sorted»;refine a_ (m:=checkCount "sorted" 1 1 _) (e_ ?_);refine a_ (collect_list g ?_ (by rw[gg];lia));refine a_ (wpAny_newList ?_ (by rw[gg];lia));have c:((s.heap.push (seqObj "list" #[] 0)).update s.heap.objs.size (Obj.mapSeq (·++vs.toArray))).objs.size=s.heap.objs.size+1:=by rw[Heap.size_update,size_push']
 have e:(((s.heap.push (seqObj "list" #[] 0)).update s.heap.objs.size (Obj.mapSeq (·++vs.toArray))).push (seqObj "list" vs.toArray 0)).get? (s.heap.objs.size+1)=some (seqObj "list" vs.toArray 0):=by rw[<-c];exact f_ _ rfl
 have keep:∀b o,s.heap.get? b=some o->b≠s.heap.objs.size+1/\(((s.heap.push (seqObj "list" #[] 0)).update s.heap.objs.size (Obj.mapSeq (·++vs.toArray))).push (seqObj "list" vs.toArray 0)).get? b=some o:=λb o q=>by have a:b<s.heap.objs.size:=hH q;refine⟨iA (u_ a),?_⟩;rw[Heap.get?_push_ne _ _ _ (by rw[c];exact iA (u_ a)),Heap.get?_update_ne _ _ _ _ (iA a),Heap.get?_push_ne _ _ _ (iA a)];exact q
 show wpAny _ _ _ _ _ {s with heap:=((s.heap.push (seqObj "list" #[] 0)).update s.heap.objs.size (Obj.mapSeq (·++vs.toArray))).push (seqObj "list" vs.toArray 0)};rw[c];refine a_ (m_ (nk slot_list_sort (s:={s with heap:=((s.heap.push (seqObj "list" #[] 0)).update s.heap.objs.size (Obj.mapSeq (·++vs.toArray))).push (seqObj "list" vs.toArray 0)}) ⟨_,e,rfl⟩ entry_list_sort (Cz (κ:=tuples' true) e i (λh2 k n=>?_) λout a1=>⟨_,rfl,?_⟩) (args_list_sort _)))
 ·have d:∀v∈vs,yN k.heap v:=λv f=>(j v f).kept λb o q=>n b o (keep b o q).1 (keep b o q).2;refine⟨λF p=>?_,λx y C r u z=>EQ (d x r) (d y u) z⟩;obtain⟨fs,h1,B,h3⟩:=qE d;refine kat_kind (T:=Value.type "str") h1 (by lia) (λv f=>?_) (by decide+kernel) ?_
  ·obtain⟨x,t,rfl⟩:=h3 v f;exact Looks.of_pure rfl
  ·rw[show(Value.type "str"!=Value.type "tuple")=true by decide+kernel];exact p
 ·exact e_ ⟨_,rfl,h out a1⟩
end
theorem Aa:∀{c:MZ}{a:MT},aZ (c.map V.ref) a->a=c.map Value.ref|[],_,.nil=>rfl|u::r,_,.cons h t=>by obtain rfl:_=Value.ref u:=h;rw[Aa t];rfl
theorem Ah:∀{a:MZ},aZ (a.map V.ref) (a.map Value.ref)|[]=>.nil|_::_=>.cons rfl Ah
def Be(h:out.Perm (c.map Value.ref)):∃d:List Addr,d.Perm c/\out=d.map Value.ref:=by
 let f:Value->Addr:=λv=>match v with|.ref a=>a|_=>0
 have e:(c.map Value.ref).map f=c:=by rw[ri];exact(wh (g:=id) λa _=>rfl).trans (List.map_id c)
 have i:(out.map f).map Value.ref=out:=by rw[ri];refine(wh (g:=id) λv j=>?_).trans (List.map_id out);obtain⟨a,_,rfl⟩:=j_.mp (h.mem_iff.mp j);rfl
 have b:=h.map f;rw[e]at b;exact⟨_,b,i.symm⟩
def zH(K:MP)(A:X.K=K):cX X (.builtin "sorted") (λl H Q=>∃(p:Addr)(c:MZ),l=[.ref p]/\aW K H p (c.map V.ref)/\c.length<64/\(∀u∈c,∃x y z,aX K H u [.str x,.str y,.str z])/\∀(q:Addr)(d:MZ),H q=none->d.Perm c->Q (.ref q) (aG H q (.lst (d.map V.ref)))):=by
 subst A;intro m s P H l R Q I r h;obtain⟨p,c,rfl,B,hn,C,q⟩:=h;obtain⟨u,rfl,D⟩:=iE r;obtain rfl:u=Value.ref p:=D;obtain⟨e,f,⟨o,n,g,i,w,E⟩,_⟩:=I.list B;obtain rfl:=Aa f;refine yV (vs:=c.map Value.ref) ⟨o,g,i,n,E⟩ (by rw[b_];lia) (λv F=>?_) λout j=>?_
 ·obtain⟨a,hm,rfl⟩:=j_.mp F;obtain⟨x,y,z,G⟩:=C a hm;obtain⟨e,f,⟨o,g,i,n,w⟩,_⟩:=I.tuple G;cases f with|cons h1 t=>cases t with|cons h2 t=>cases t with|cons h3 t=>cases t;obtain⟨J,rfl⟩:=h1;obtain⟨L,rfl⟩:=h2;obtain⟨M,rfl⟩:=h3;exact⟨a,o,n,x,y,z,J,L,M,rfl,g,i,w⟩
 ·obtain⟨d,b,rfl⟩:=Be j;obtain⟨N,k⟩:=sortedAll_at s.heap (c.map Value.ref) (d.map Value.ref).toArray;have O:=b.length_eq;refine⟨.ref (s.heap.objs.size+1),_,I.laid (h':=sortedAll s.heap (c.map Value.ref) (d.map Value.ref).toArray) (t':=s.toks) (o:=.lst (d.map V.ref)) (λ_ _=>sortedAll_old) (qq _) ⟨?_,_,N,Ah,k⟩,rfl,q _ d (I.hok.fresh (qq _)) b⟩;rw[b_,gg];lia
end L2
namespace L2
open PySem PySem.Spec PyProof.Rows PySem.W
def Ay{J:It}{n:Nat}{g:TG}{ds:MY}{k:Nat}{tc:TT}{te:TE}{r:St}{s:Hp}{D:Addr}{F:Hp->Prop}(Pv:Nat->List V->Hp->Prop)(h0:Pv 0 [] (aG s D (.lst [])))(hg:∀i a c,i<n->Pv i a c->J.go i c)(t:∀i a c x h,i<n->Pv i a c->J.yld i c x h->g x (gB ds k r) h λd q=>tc d q λb j=>if b=true then te d j λy l=>l D=some (.lst a)/\a.length<sizeLine/\∃f,f<n-i/\f=n-(i+1)/\i+1<=n/\Pv (i+1) (a++[y]) (aG l D (.lst (a++[y])))else∃f,f<n-i/\f=n-(i+1)/\i+1<=n/\Pv (i+1) a j)(hd:∀a c,Pv n a c->J.stop n c/\F c):∃W:Nat->Nat->List V->Hp->Prop,(∃m,W 0 m [] (aG s D (.lst [])))/\∀i m a c,W i m a c->(J.stop i c/\F c)\/(J.go i c/\∀x h,J.yld i c x h->g x (gB ds k r) h λd q=>tc d q λb j=>if b=true then te d j λy l=>l D=some (.lst a)/\a.length<sizeLine/\∃f,f<m/\W (i+1) f (a++[y]) (aG l D (.lst (a++[y])))else∃f,f<m/\W (i+1) f a j):=by
 refine⟨λi m a c=>m=n-i/\i<=n/\Pv i a c,⟨_,rfl,kw _,h0⟩,?_⟩;rintro i m a c⟨rfl,hi,p⟩
 by_cases o:i<n
 ·exact .inr ⟨hg i a c o p,λx h y=>t i a c x h o p y⟩
 ·have e:i=n:=by lia
  subst e;exact .inl (hd a c p)
def D7{J:It}{n:Nat}{g:TG}{j:TS}{D:lg}{a:St}{H:Hp}(Pv:Nat->St->Hp->Prop)(h0:Pv 0 a H)(hg:∀i a H,i<n->Pv i a H->J.go i H)(o:∀i a H x c,i<n->Pv i a H->J.yld i H x c->g x a c λd h=>j {D with nx:=Pv (i+1),ct:=Pv (i+1),bk:=D.nx} d h)(hd:∀a H,Pv n a H->J.stop n H/\D.nx a H):∃W:Nat->Nat->St->Hp->Prop,(∃m,W 0 m a H)/\∀i m a H,W i m a H->(J.stop i H/\D.nx a H)\/(J.go i H/\∃N:St->Hp->Prop,(∀f c,N f c->∃l,l<m/\W (i+1) l f c)/\∀x c,J.yld i H x c->g x a c λd h=>j {D with nx:=N,ct:=N,bk:=D.nx} d h):=by
 refine⟨λi m a H=>m=n-i/\i<=n/\Pv i a H,⟨n,by simp,kw _,h0⟩,?_⟩;rintro i m a H⟨rfl,hi,p⟩
 by_cases b:i<n
 ·exact .inr ⟨hg i a H b p,Pv (i+1),λf c k=>⟨n-(i+1),by omega,rfl,b,k⟩,λx c y=>o i a H x c b p y⟩
 ·have e:i=n:=by lia
  subst e;exact .inl (hd a H p)
end L2
namespace L2
open PySem
def rF{K:MP}{f:Str}{a C dx:Addr}{fs:List (Str×V)}{v:V}{H:Hp}{R:V->Prop}(h:H a=some (.ins C dx fs))(hc:xj K C)(hn:bS K C f)(j:fs.lookup f=some v)(k:R v):∃g d e c i,V.ref a=.ref g/\H g=some (.ins d e c)/\xj K d/\bS K d f/\c.lookup f=some i/\R i:=⟨a,C,dx,fs,v,rfl,h,hc,hn,j,k⟩
def rM{a C dx:Addr}{m:Str}{fs:List (Str×V)}{H:Hp}{R:Prop}(h:H a=some (.ins C dx fs))(hn:fs.lookup m=none)(k:R):∃e d c,V.ref a=.ref e/\H e=some (.ins C d c)/\c.lookup m=none/\R:=⟨a,dx,fs,rfl,h,hn,k⟩
def rG{d:Type}{a:Addr}{A R:Addr->d->Prop}(v:d)(h:A a v)(k:R a v):∃c e,V.ref a=.ref c/\A c e/\R c e:=⟨a,v,rfl,h,k⟩
def rX{A:Addr->List V->Prop}{p:Addr}{c:List V}{i:Int}{v:V}{R:V->Prop}(h:A p c)(g:u4 c i=some v)(k:R v):∃d a e f,V.ref p=.ref d/\V.int i=.int e/\A d a/\u4 a e=some f/\R f:=⟨p,c,i,v,rfl,rfl,h,g,k⟩
def rA{l:Addr}{c:List V}{y:V}{H:Hp}{R:Addr->List V->V->Prop}(h:H l=some (.lst c))(f:c.length<sizeLine)(k:R l c y):∃d a e,V.ref l=.ref d/\[y]=[e]/\H d=some (.lst a)/\a.length<sizeLine/\R d a e:=⟨l,c,y,rfl,rfl,h,f,k⟩
def r2{i j:Int}{R:Int->Int->Prop}(k:R i j):∃a c,V.int i=.int a/\V.int j=.int c/\R a c:=⟨i,j,rfl,rfl,k⟩
def U{a:Type}{A R:a->Prop}{v:a}(h:A v)(k:R v):∃v,A v/\R v:=⟨v,h,k⟩
def iZ{K:MP}{f:Str}{a C dx:Addr}{fs:List (Str×V)}{o:Option (Option V)}{v:V}{H:Hp}{R:V->Prop}(h:H a=some (.ins C dx fs))(hc:xj K C)(hn:bS K C f)(h0:o=some (some (.ref a)))(j:fs.lookup f=some v)(k:R v):∃w,o=some (some w)/\∃g d e c i,w=.ref g/\H g=some (.ins d e c)/\xj K d/\bS K d f/\c.lookup f=some i/\R i:=⟨_,h0,a,C,dx,fs,v,rfl,h,hc,hn,j,k⟩
def oE{a C dx:Addr}{m:Str}{fs:List (Str×V)}{o:Option (Option V)}{H:Hp}{R:V->Prop}(h:H a=some (.ins C dx fs))(h0:o=some (some (.ref a)))(hn:fs.lookup m=none)(k:R (.ref a)):∃w,o=some (some w)/\∃e d c,w=.ref e/\H e=some (.ins C d c)/\c.lookup m=none/\R w:=⟨_,h0,a,dx,fs,rfl,h,hn,k⟩
end L2
namespace L2
open PySem PySem.Spec PyProof.Rows PySem.W
section
variable{X:Cx}
end
end L2
namespace L2
open PySem PySem.Spec PyProof.Rows PySem.W
set_option genInjectivity false in
set_option genSizeOf false in
structure AF where
 x:Addr
 d:FuncData
structure Df(K:MP)(mg:MS)(n:Str)(st:Stmt)(a:AF)(ps:MV):Prop where
 f:xi K n n st a.x a.d
 m:mg n=some (.ref a.x)b:fC K a.d ps []
structure Mf(K:MP)(C:Addr)(n q:Str)(st:Stmt)(a:AF)(ps:MV):Prop where
 f:xi K n q st a.x a.d
 m:EH K C n a.x
 b:fC K a.d ps []
section
variable{K:MP}{h:Heap}{mg:MS}{n q:Str}{st:Stmt}{x C:Addr}{fd:FuncData}
def G0{c:MV}(X:K.In h)(G:h.Ns mainGlobals mg)(a:PySem.W.nsIn K mainGlobals n=some (some (.ref x)))(F:xi K n n st x fd)(b:xi K n n st x fd->fC K fd c []):Df K mg n st ⟨x,fd⟩ c:=⟨F,PySem.W.mg_of X G a,b F⟩
def J4{c:MV}(a:PySem.W.findIn K (.ref C) n=some (some (.ref x)))(i:PySem.W.isFn K (.ref x)=true)(F:xi K n q st x fd)(b:xi K n q st x fd->fC K fd c []):Mf K C n q st ⟨x,fd⟩ c:=⟨F,⟨a,i,F.kp⟩,b F⟩
def Ko(X:K.In h)(G:h.Ns mainGlobals mg)(a:PySem.W.nsIn K mainGlobals n=some (some (.ref x))):mg n=some (.ref x):=PySem.W.mg_of X G a
def Jp(X:K.In h)(G:h.Ns mainGlobals mg)(a:PySem.W.nsIn K mainGlobals n=some none):mg n=none:=PySem.W.mg_none_of X G a
def Kf{i:Int}{t:Tok}(X:K.In h)(G:h.Ns mainGlobals mg)(a:PySem.W.nsIn K mainGlobals n=some (some (.int i t))):∃u,mg n=some u/\aU (.int i) u:=⟨_,PySem.W.mg_of X G a,_,rfl⟩
def JK{i:Str}{t:Tok}(X:K.In h)(G:h.Ns mainGlobals mg)(a:PySem.W.nsIn K mainGlobals n=some (some (.str i t))):∃u,mg n=some u/\aU (.str i) u:=⟨_,PySem.W.mg_of X G a,_,rfl⟩
def GW(a:PySem.W.excIn K x [.type "ValueError",.type "Exception",.type "BaseException",.type "object"] "ValueError.__new__"=true):va K x:=a
def Ak(a:PySem.W.findIn K (.ref C) n=some none):bS K C n:=a
def Kd{dd:Option Addr}{a:MX}{d:Nat}{sl:Array (Option Value)}{c:List V}(w:K.lookup x=some ⟨.type "tuple",dd,.seq a d,sl⟩)(y:aZ c a.toList)(l:Nat.ble c.length 65536=true):L2.KP K x c:=⟨_,a,d,w,rfl,rfl,by rw[<-kt,<-y.length];exact cS (oa l),y⟩
abbrev Jj(st:Stmt)(n q:Str)(kV a pm:Value)(d:Option Addr)(c ct:Value)(e:MT):=bindArgs (PySem.W.fnOf n q (pd st) (gt st) (ai st) .none kV a pm d c ct) ⟨e,[]⟩
variable{c d e f g j:Str}
def uX{n:Nat}{i:MT}(h:i.length=n+1):∃u a,i=u::a/\a.length=n:=by cases i with|nil=>cases h|cons u a=>exact⟨u,a,rfl,Nat.succ.inj h⟩
def b1(F:xi K n q st x fd)(h:∀kV a pm l i ct u,Jj st n q kV a pm l i ct [u]=pure [(c,u)]:=by intros;rfl):fC K fd [c] []:=F.binds λkV a pm l i ct b k=>by obtain⟨u,b,rfl,h1⟩:=uX k;cases ol.mp h1;exact h kV a pm l i ct u
def b2(F:xi K n q st x fd)(h:∀kV a pm l i ct u v,Jj st n q kV a pm l i ct [u,v]=pure [(c,u),(d,v)]:=by intros;rfl):fC K fd [c,d] []:=F.binds λkV a pm l i ct b k=>by obtain⟨u,b,rfl,h1⟩:=uX k;obtain⟨v,b,rfl,h2⟩:=uX h1;cases ol.mp h2;exact h kV a pm l i ct u v
def b3(F:xi K n q st x fd)(h:∀kV a pm l i ct u v w,Jj st n q kV a pm l i ct [u,v,w]=pure [(c,u),(d,v),(e,w)]:=by intros;rfl):fC K fd [c,d,e] []:=F.binds λkV a pm l i ct b k=>by obtain⟨u,b,rfl,h1⟩:=uX k;obtain⟨v,b,rfl,h2⟩:=uX h1;obtain⟨w,b,rfl,h3⟩:=uX h2;cases ol.mp h3;exact h kV a pm l i ct u v w
def b4(F:xi K n q st x fd)(h:∀kV a pm l i ct u v w y,Jj st n q kV a pm l i ct [u,v,w,y]=pure [(c,u),(d,v),(e,w),(f,y)]:=by intros;rfl):fC K fd [c,d,e,f] []:=F.binds λkV a pm l i ct b k=>by obtain⟨u,b,rfl,h1⟩:=uX k;obtain⟨v,b,rfl,h2⟩:=uX h1;obtain⟨w,b,rfl,h3⟩:=uX h2;obtain⟨y,b,rfl,h4⟩:=uX h3;cases ol.mp h4;exact h kV a pm l i ct u v w y
def b5(F:xi K n q st x fd)(h:∀kV a pm l i ct u v w y z,Jj st n q kV a pm l i ct [u,v,w,y,z]=pure [(c,u),(d,v),(e,w),(f,y),(g,z)]:=by intros;rfl):fC K fd [c,d,e,f,g] []:=F.binds λkV a pm l i ct b k=>by obtain⟨u,b,rfl,h1⟩:=uX k;obtain⟨v,b,rfl,h2⟩:=uX h1;obtain⟨w,b,rfl,h3⟩:=uX h2;obtain⟨y,b,rfl,h4⟩:=uX h3;obtain⟨z,b,rfl,h5⟩:=uX h4;cases ol.mp h5;exact h kV a pm l i ct u v w y z
def b6(F:xi K n q st x fd)(h:∀kV a pm l i ct u v w y z r,Jj st n q kV a pm l i ct [u,v,w,y,z,r]=pure [(c,u),(d,v),(e,w),(f,y),(g,z),(j,r)]:=by intros;rfl):fC K fd [c,d,e,f,g,j] []:=F.binds λkV a pm l i ct b k=>by obtain⟨u,b,rfl,h1⟩:=uX k;obtain⟨v,b,rfl,h2⟩:=uX h1;obtain⟨w,b,rfl,h3⟩:=uX h2;obtain⟨y,b,rfl,h4⟩:=uX h3;obtain⟨z,b,rfl,h5⟩:=uX h4;obtain⟨r,b,rfl,h6⟩:=uX h5;cases ol.mp h6;exact h kV a pm l i ct u v w y z r
end
def cd{i j:Int}(h:decide (0<j/\j<1073741824)=true):fg i j:=(op h:0<j/\j<1073741824)
def ls{n:Nat}(h:Nat.ble n 65536=true):n<=sizeLine:=cS (oa h)
section
variable{X:Cx}{n:Str}{st:Stmt}{a:AF}{l:MV}{sp:Sp}{j k:Nat}{e:Expr}{h:MW}{t:TA}{p c:Pos}
def pc(D:Df X.K X.mg n st a l)(F:aO X.prog X.w X.K X.mg X.base cZ j a.x a.d l sp)(o:eL k X.A)(q:PA X (e::h) t)(r:j<=k:=by decide)(hg:Gl X n:=by rfl)(g:(n==("__debug__":Str))=false:=by decide)(s:starEach (e::h) X.env=(false,eval e X.env)::starEach h X.env:=by rfl)(i:(backTo c (starEach h X.env)).any (·.1)=false:=by rfl):PE X (.Call (.Name n p) (e::h) [] c) (GL sp [] E0 t):=bv (F.mono r) o hg D.m D.f.kp D.b .nil be q g s i
def bd(i:Nat){x:Str}{te:TE}{d:Pos}(g:X.N.Nodup)(m:PE X e te)(hi:X.N[i]?=some x:=by rfl)(f:X.env.scope.names.lookup x=some .local:=by rfl)(o:swapsWith e (some (.Name x d)) c.line X.env=pure false:=by rfl):PS X (.Assign [.Name x d] e c) (xn te (j7 i)):=wz g hi (.inl f) m o (.inr f)
def tz(i:Nat){x:Str}(f:X.N.Nodup)(hi:X.N[i]?=some x:=by rfl)(d:X.env.scope.names.lookup x=some .local:=by rfl):PG X (.Name x c) (j7 i):=Ac f hi (.inl d) (.inr d)
def mG(N0 d:MV)(i:Nat){x:Str}(f:(N0++d).Nodup:=by decide+kernel)(g:X.N=N0++d:=by rfl)(hi:(N0++d)[i]?=some x:=by rfl)(m:Jn X.env.scope x:=by first|exact Or.inl rfl|exact Or.inr rfl)(o:X.fn x=true\/X.env.scope.names.lookup x=some .local:=by first|exact .inl rfl|exact .inr rfl):PG X (.Name x c) (j7 i):=by rw[<-g]at f hi;exact Ac f hi m o
def qj(N0 d:MV)(ds q:MY)(i:Scope){m r f:Expr}{o:MW}{scope:Scope}{v:TI}{g:TG}{tc:TT}{te:TE}(hg:GK g q)(hi:PI X r f v)(w:∀cl C s₀ H₀ ex,PG (X.comp scope (N0++d) cl C s₀ H₀ ex) r g/\GA (X.comp scope (N0++d) cl C s₀ H₀ ex) o tc/\PE (X.comp scope (N0++d) cl C s₀ H₀ ex) m te)(hc:X.calm=true:=by rfl)(s:X.N=N0:=by rfl)(u:X.env.scope=i:=by rfl)(ok:qi N0 ds i scope=true:=by decide+kernel)(y:(q.all λj=>ds.contains j||decide (N0.length<=j))=true:=by decide+kernel)(z:∀x,foldedSetIterable f X.env x=pure x:=by intro _;rfl):PE X (.ListComp m [⟨r,f,o,0⟩] scope c) (r9 v g ds d.length tc te):=Gn N0 d ds q i hc s u ok y hg hi w z
def Kv(i:Nat)(N0 d:MV)(ds v:MY)(m:Scope){x:Str}{o q:Pos}{r u f:Expr}{s:MW}{scope:Scope}{D:TI}{g:TG}{tc:TT}{te:TE}(hg:GK g v)(hi:PI X u f D)(E:∀cl C s₀ H₀ ex,PG (X.comp scope (N0++d) cl C s₀ H₀ ex) u g/\GA (X.comp scope (N0++d) cl C s₀ H₀ ex) s tc/\PE (X.comp scope (N0++d) cl C s₀ H₀ ex) r te)(w:N0.Nodup)(hc:X.calm=true:=by rfl)(y:X.N=N0:=by rfl)(z:X.env.scope=m:=by rfl)(ok:qi N0 ds m scope=true:=by decide+kernel)(F:(v.all λj=>ds.contains j||decide (N0.length<=j))=true:=by decide+kernel)(A:N0[i]?=some x:=by rfl)(G:m.names.lookup x=some .local:=by rfl)(B:swapsWith (.ListComp r [⟨u,f,s,0⟩] scope c) (some (.Name x o)) q.line X.env=pure true:=by rfl)(H:∀x,foldedSetIterable f X.env x=pure x:=by intro _;rfl):PS X (.Assign [.Name x o] (.ListComp r [⟨u,f,s,0⟩] scope c) q) (xn (r9 D g ds d.length tc te) (j7 i)):=El N0 d ds v m hc y z ok F hg hi E w A G B H
def iq(K:MP){a b:Expr}{d f:TE}(g:PE X a d)(i:PE X b f)(m:X.K=K:=by rfl)(o:xf b:=by intro _ _;rfl):PE X (.Subscript a b c) (Ja (HL K) d f):=xN (DR K m) g i o
def cC(K:MP){a b:Expr}{d f:TE}(g:PE X a d)(i:PE X b f)(m:X.K=K:=by rfl)(o:xf b:=by intro _ _;rfl):PE X (.Subscript a b c) (Ja (HK K) d f):=xN (F7 K m) g i o
end
section
variable{P:MU}{w:World}{K:MP}{mg:MS}{base:Heap}{n q:Str}{st:Stmt}{a:AF}{C:Addr}{N c:MV}{k:Nat}{sp:Sp}
theorem Df.ok(D:Df K mg n st a c)(S:aA N c (ai st))(e:∀(g:Value)(A:Around)(outer:List Env)(s:Shared)(H:Hp)(i:List V)(Q:VK)(E:XK),eL k (A.deeper (envOfC n (ai st) s.heap.objs.size a.x g))->sp i H Q E->∃t,u6 (qg cZ P w K mg base N n (ai st) a.x g A outer s H E).nox (gt st) t/\t {nx:=λ_ j=>Q .non j,rt:=Q} (iG N i) H)(len:∀i H Q E,sp i H Q E->i.length=c.length:=by intro _ _ _ _ h;cases h;subst_vars;rfl):aO P w K mg base cZ (k+1) a.x a.d c sp:=D.f.ok S len e
theorem Mf.ok(D:Mf K C n q st a c)(S:aA N c (ai st))(e:∀(g:Value)(A:Around)(outer:List Env)(s:Shared)(H:Hp)(i:List V)(Q:VK)(E:XK),eL k (A.deeper (envOfC q (ai st) s.heap.objs.size a.x g))->sp i H Q E->∃t,u6 (qg cZ P w K mg base N q (ai st) a.x g A outer s H E).nox (gt st) t/\t {nx:=λ_ j=>Q .non j,rt:=Q} (iG N i) H)(len:∀i H Q E,sp i H Q E->i.length=c.length:=by intro _ _ _ _ h;cases h;subst_vars;rfl):aO P w K mg base cZ (k+1) a.x a.d c sp:=D.f.ok S len e
theorem Df.okE(D:Df K mg n st a c)(S:aA N c (ai st))(e:∀(g:Value)(A:Around)(outer:List Env)(s:Shared)(H:Hp)(i:List V)(Q:VK)(E:XK),eL k (A.deeper (envOfC n (ai st) s.heap.objs.size a.x g))->sp i H Q E->∃t,u6 (qg (wb P w) P w K mg base N n (ai st) a.x g A outer s H E) (gt st) t/\t {nx:=λ_ j=>Q .non j,rt:=Q} (iG N i) H)(len:∀i H Q E,sp i H Q E->i.length=c.length:=by intro _ _ _ _ h;cases h;subst_vars;rfl):aO P w K mg base (wb P w) (k+1) a.x a.d c sp:=D.f.okE S len e
theorem Mf.okE(D:Mf K C n q st a c)(S:aA N c (ai st))(e:∀(g:Value)(A:Around)(outer:List Env)(s:Shared)(H:Hp)(i:List V)(Q:VK)(E:XK),eL k (A.deeper (envOfC q (ai st) s.heap.objs.size a.x g))->sp i H Q E->∃t,u6 (qg (wb P w) P w K mg base N q (ai st) a.x g A outer s H E) (gt st) t/\t {nx:=λ_ j=>Q .non j,rt:=Q} (iG N i) H)(len:∀i H Q E,sp i H Q E->i.length=c.length:=by intro _ _ _ _ h;cases h;subst_vars;rfl):aO P w K mg base (wb P w) (k+1) a.x a.d c sp:=D.f.okE S len e
end
end L2
namespace L2
open PySem PySem.Spec PyProof.Rows PySem.W
section
variable{X:Cx}
end
end L2
namespace L2
open PySem PySem.W PyProof.Rows
section
variable{M:Model}{A:Around}{E:MQ}
end
end L2
namespace L2
open PySem PySem.W PyProof.Rows
def AB(K:MP)(C D:Addr):Prop:=va K C/\∃a,IU K C a/\(Value.ref C::a).contains (.ref D)=true
def Jq{K:MP}{x C:Addr}{d:Value}{f:Option Addr}{a:ClassData}{g:Array (Option Value)}{c:MT}(h:va K x)(l:K.lookup x=some ⟨d,f,.cls a,g⟩)(o:a.mro=.ref x::c)(e:(Value.ref x::c).contains (.ref C)=true):AB K x C:=⟨h,_,⟨_,_,_,_,l,o⟩,e⟩
def Js(K:MP)(c:XK->TS)(S:Addr)(d:TS):TS:=λD a H=>c (λb _ e=>∃C,b=.ref C/\AB K C S/\d D a e) D a H
def Fz{X:Cx}{st t:Stmt}{a:List Stmt}{u:XK->TS}{v:TS}{S:Addr}{x:Str}{J d f:Pos}(K:MP)(M:X.K=K)(g:X.stack=X.env::X.outer)(P:X.env.frame=some X.env.locals)(Q:va X.K S)(hg:Gl X x)(hm:X.mg x=some (.ref S))(R:∀(E:XK)(c:MR)(i:St)(y:MQ),l9 (wb X.prog X.w) (X.wish y) E c i->IS (X.wish y) c i st (u E))(hh:∀j,u6 (X.inExc j) (t::a) v)(l:(x==("__debug__":Str))=false:=by decide):PS X (.Try [st] [.ExceptHandler (some (.Name x J)) none (t::a) d] [] [] f) (Js K u S v):=by subst M;intro c s i H D I h;refine B3 g P R I h λj C' H' s5 O L=>?_;obtain⟨C,rfl,⟨U,k,V,m⟩,n⟩:=O;obtain⟨bm,N,nm,q,bs,hd,sn,sub,ab,Y,dd,k0,k1,k2,k3,k5,mN,o,hN,Z,T⟩:=Q.at I.mod.kin;obtain⟨p,N',aa,q',ad,al,an,A,ap,B,as,av,ax,a2,a3,a5,a6,b,a7,G,T'⟩:=U.at I.mod.kin;obtain⟨ob,r,e⟩:=L.obj;refine wpAny_handleBy_cons (codeAny_handlers_test (oV (L.inv.inExc j) hg hm ?_ l)) (by intro z;cases z);refine Bn (L.inv.bk _ _ b) (L.inv.bk _ _ o) r e (T.hasType PySem.F.excBase_ValueError.hasBase) ?_;obtain rfl:p=k:=V.is I.mod.kin b rfl rfl;rw[m];exact codeAny_handlers_suite (L.run hh n λ_ _ z=>z)
end L2
set_option genSizeOf false
namespace My
open PySem L2
seal L2.u6 L2.PS L2.PE L2.PT L2.PA L2.PI L2.PG L2.PW L2.IT L2.PO
def fD(i:Nat):Stmt:=PySem.Challenge.pw_layersplit_k37_houses_written.main.body.getD i (.Pass ⟨0,0,0,0⟩)
abbrev pO(c i:Nat):Stmt:=(Gp (fD c)).getD i (.Pass ⟨0,0,0,0⟩)
abbrev lD:Stmt:=fD 2
abbrev ky:Stmt:=fD 3
abbrev lC:Stmt:=fD 4
abbrev jt:Stmt:=fD 5
abbrev qI:Stmt:=fD 6
abbrev kA:Stmt:=fD 7
abbrev sU:Stmt:=fD 27
abbrev kz:Stmt:=fD 28
abbrev vn:Stmt:=fD 29
abbrev sW:Stmt:=fD 30
abbrev nu:Stmt:=fD 35
abbrev sP:Stmt:=fD 36
abbrev qH:Stmt:=fD 42
abbrev vq:Stmt:=fD 43
abbrev jb:Stmt:=fD 44
abbrev sY:Stmt:=fD 45
abbrev ou:Stmt:=fD 46
abbrev nr:Stmt:=fD 47
abbrev vp:Stmt:=fD 48
abbrev rL:Stmt:=fD 49
abbrev sX:Stmt:=fD 55
abbrev vo:Stmt:=fD 56
abbrev sV:Stmt:=fD 57
abbrev qG:Stmt:=fD 58
abbrev kB:Stmt:=fD 59
abbrev jv:Stmt:=fD 60
abbrev ny:Stmt:=fD 61
abbrev mP:Stmt:=fD 62
abbrev oh:Stmt:=fD 63
abbrev mQ:Stmt:=fD 64
abbrev mO:Stmt:=fD 65
abbrev oj:Stmt:=fD 66
abbrev qJ:Stmt:=fD 67
abbrev jM:Stmt:=fD 68
abbrev ju:Stmt:=fD 71
abbrev oq:Stmt:=fD 72
abbrev mM:Stmt:=fD 73
abbrev mR:Stmt:=fD 74
abbrev lE:Stmt:=fD 75
abbrev kW:Stmt:=fD 76
abbrev on:Stmt:=fD 77
abbrev mL:Stmt:=fD 78
abbrev om:Stmt:=fD 79
abbrev oo:Stmt:=fD 80
abbrev sR:Stmt:=fD 82
abbrev zV:Stmt:=fD 83
abbrev sQ:Stmt:=fD 85
abbrev lG:Stmt:=pO 87 0
abbrev jN:Stmt:=pO 87 1
abbrev jc:Stmt:=pO 87 2
abbrev kD:Stmt:=pO 87 3
abbrev kC:Stmt:=pO 87 4
abbrev jd:Stmt:=pO 87 5
abbrev ox:Stmt:=pO 87 6
abbrev lH:Stmt:=pO 90 0
abbrev lF:Stmt:=pO 91 0
abbrev lJ:Stmt:=pO 92 0
abbrev tj:Stmt:=pO 92 1
abbrev oB:Stmt:=pO 92 2
abbrev jS:Stmt:=pO 92 3
abbrev jQ:Stmt:=pO 92 4
abbrev eQ:Stmt:=pO 92 5
abbrev kY:Stmt:=pO 92 6
abbrev jR:Stmt:=pO 92 7
abbrev jT:Stmt:=pO 92 8
abbrev lI:Stmt:=pO 92 9
abbrev jP:Stmt:=pO 92 10
abbrev kX:Stmt:=pO 92 11
abbrev fc:Stmt:=pO 92 12
abbrev gx:Stmt:=pO 92 13
abbrev jO:Stmt:=pO 92 14
abbrev oC:Stmt:=pO 92 27
abbrev mS:Stmt:=pO 92 28
abbrev oA:Stmt:=pO 92 29
abbrev tf:Stmt:=fD 94
abbrev xG:Stmt:=fD 95
abbrev zW:Stmt:=fD 96
abbrev xH:Stmt:=fD 97
abbrev zX:Stmt:=fD 98
abbrev sZ:Stmt:=fD 99
abbrev zY:Stmt:=fD 100
abbrev oz:Stmt:=fD 101
abbrev kE:Stmt:=fD 102
abbrev oy:Stmt:=fD 103
abbrev z9:Stmt:=fD 104
abbrev je:Stmt:=fD 105
abbrev vw:Stmt:=fD 106
abbrev y4:Stmt:=fD 107
abbrev zZ:Stmt:=fD 108
abbrev GN:Stmt:=fD 109
set_option genInjectivity false in
set_option genSizeOf false in
structure i0 where(fN gz c5 dB iB eE gq fG et j5 j4 jU eT mB iD ca bQ jE mz dD ft my j3 iz gI fW kd fT fH eI fS gD gE bM fP gG fQ fU eU d7 gF fO eF eJ j0 vQ jV dO cL bo dN dL cD fJ dQ dJ dS iX fL cP cO bF dq bY cQ dR cN cp bZ cM bX fM eO fK iW ff qY qz eA qy v0 gL gK qw wa c7 iy BU v8 law:AF)(bN eM fA ck kQ AE EF ED G4 AA EG EE AC yP AD qC mh eY uo:Addr)pm:Params
structure Txt(K:MP)(mg:MS)(a:i0):Prop where
 F1:mg "Table"=some (.ref a.bN)F2:mg "Layer"=some (.ref a.eM)F0:mg "Trial"=some (.ref a.fA)F3:mg "House"=some (.ref a.ck)wJ:mg "SplitError"=some (.ref a.kQ)Je:mg "NoHouse"=some (.ref a.AE)Ka:mg "NoDeed"=some (.ref a.EF)J8:mg "NoWord"=some (.ref a.ED)KM:mg "Taken"=some (.ref a.G4)Jb:mg "Unknown"=some (.ref a.AA)Kb:mg "NoArms"=some (.ref a.EG)J9:mg "NoRule"=some (.ref a.EE)Jc:mg "NoShuts"=some (.ref a.AC)Ik:mg "NoNumber"=some (.ref a.yP)Jd:mg "NoMarks"=some (.ref a.AD)DI:mg "Closed"=some (.ref a.qC)DG:mg "NoRoom"=some (.ref a.mh)Bp:mg "LENGTHS"=some (.ref a.eY)DH:mg "HELD"=some (.ref a.uo)fN:Df K mg "list_text" lD a.fN ["things"]gz:Df K mg "marks_text" ky a.gz ["marks"]c5:Df K mg "rule_text" lC a.c5 ["rule"]dB:Df K mg "things_text" jt a.dB ["things"]iB:Df K mg "deed_text" qI a.iB ["deed"]eE:Df K mg "house_text" kA a.eE ["house"]gq:Df K mg "is_whole" sU a.gq ["thing"]fG:Df K mg "is_text_of" kz a.fG ["thing","signs","longest"]et:Df K mg "is_word" vn a.et ["thing"]j5:Df K mg "is_guest" sW a.j5 ["thing"]j4:Df K mg "is_prime" nu a.j4 ["thing"]jU:Df K mg "point_of" sP a.jU ["p","salt","guest"]eT:Df K mg "is_number" qH a.eT ["thing"]mB:Df K mg "is_mark" vq a.mB ["thing"]iD:Df K mg "are_marks" jb a.iD ["thing"]ca:Df K mg "has_form" sY a.ca ["thing","depth"]bQ:Df K mg "all_within" ou a.bQ ["rule"]jE:Df K mg "words_of" nr a.jE ["rule"]mz:Df K mg "is_rule" vp a.mz ["thing"]dD:Df K mg "holds" rL a.dD ["rule","marks"]ft:Df K mg "is_count" sX a.ft ["thing"]my:Df K mg "is_salt" vo a.my ["thing"]j3:Df K mg "is_total" sV a.j3 ["thing"]iz:Df K mg "is_weight" qG a.iz ["thing"]gI:Df K mg "are_counts" kB a.gI ["thing","many"]fW:Df K mg "are_weights" jv a.fW ["thing","many"]kd:Df K mg "are_arms" ny a.kd ["thing"]fT:Df K mg "check_house" mP a.fT ["prime","salt"]fH:Df K mg "check_word" oh a.fH ["thing"]eI:Df K mg "check_guest" mQ a.eI ["thing"]fS:Df K mg "check_marks" mO a.fS ["thing"]gD:Df K mg "check_rule" oj a.gD ["thing"]gE:Df K mg "check_new" qJ a.gE ["thing","names"]bM:Df K mg "check_standing" jM a.bM ["thing","names"]fP:Df K mg "check_slope" ju a.fP ["thing","prime","layers"]gG:Df K mg "check_arms" oq a.gG ["thing"]fQ:Df K mg "check_shuts" mM a.fQ ["thing","trials"]fU:Df K mg "check_count" mR a.fU ["thing"]eU:Df K mg "check_shares" lE a.eU ["thing","many"]d7:Df K mg "check_dealing" kW a.d7 ["total","weights","many"]gF:Df K mg "check_form" on a.gF ["deed"]fO:Df K mg "check_trial" mL a.fO ["deed","layers","trials"]eF:Df K mg "check_open" om a.eF ["deed","trials"]eJ:Df K mg "check_deed" oo a.eJ ["deed","prime","layers","trials"]j0:Df K mg "most_due" sR a.j0 ["weights","given"]vQ:Df K mg "dealt" zV a.vQ ["total","weights"]jV:Df K mg "place_of" sQ a.jV ["p","slope","point"]dO:Mf K a.bN "__init__" "Table.__init__" lG a.dO ["self","many"]cL:Mf K a.bN "owner_of" "Table.owner_of" jN a.cL ["self","place"]bo:Mf K a.bN "places_of" "Table.places_of" jc a.bo ["self","owner"]dN:Mf K a.bN "free" "Table.free" kD a.dN ["self"]dL:Mf K a.bN "told" "Table.told" kC a.dL ["self","wanted"]cD:Mf K a.bN "give_back" "Table.give_back" jd a.cD ["self","owner","number"]fJ:Mf K a.bN "take" "Table.take" ox a.fJ ["self","owner","number"]dQ:Mf K a.eM "__init__" "Layer.__init__" lH a.dQ ["self","slope","many"]dJ:Mf K a.fA "__init__" "Trial.__init__" lF a.dJ ["self","home","arms","rule","shuts"]dS:Mf K a.ck "__init__" "House.__init__" lJ a.dS ["self","prime","salt"]iX:Mf K a.ck "do" "House.do" tj a.iX ["self","deed"]fL:Mf K a.ck "done" "House.done" oB a.fL ["self","deed"]cP:Mf K a.ck "do_layer" "House.do_layer" jS a.cP ["self","name","slope"]cO:Mf K a.ck "do_trial" "House.do_trial" jQ a.cO ["self","name","trial"]bF:Mf K a.ck "do_share" "House.do_share" eQ a.bF ["self","name","numbers"]dq:Mf K a.ck "do_hold" "House.do_hold" kY a.dq ["self","name","number"]bY:Mf K a.ck "do_pause" "House.do_pause" jR a.bY ["self","name","paused"]cQ:Mf K a.ck "do_close" "House.do_close" jT a.cQ ["self","name"]dR:Mf K a.ck "do_bar" "House.do_bar" lI a.dR ["self","guest","name"]cN:Mf K a.ck "do_visit" "House.do_visit" jP a.cN ["self","guest","marks"]cp:Mf K a.ck "put_out" "House.put_out" kX a.cp ["self","layer","guests"]bZ:Mf K a.ck "after_visit" "House.after_visit" fc a.bZ ["self","guest","marks"]cM:Mf K a.ck "seat_for" "House.seat_for" gx a.cM ["self","layer","guest","marks","been"]bX:Mf K a.ck "place_in" "House.place_in" jO a.bX ["self","layer","guest"]fM:Mf K a.ck "book" "House.book" oC a.fM ["self"]eO:Mf K a.ck "prime" "House.prime" mS a.eO ["self"]fK:Mf K a.ck "salt" "House.salt" oA a.fK ["self"]iW:Df K mg "_law_cell_at" tf a.iW ["_law_script","_law_k"]ff:Df K mg "_law_mixed" xG a.ff ["_law_script","_law_k","_law_salt"]qY:Df K mg "_law_word" zW a.qY ["_law_k","_law_number"]qz:Df K mg "_law_guest" xH a.qz ["_law_k","_law_number"]eA:Df K mg "_law_rule" zX a.eA ["_law_number","_law_high"]qy:Df K mg "_law_marks" sZ a.qy ["_law_number"]v0:Df K mg "_law_plan" zY a.v0 ["_law_script"]gL:Df K mg "_law_new_layer" oz a.gL ["_law_script","_law_plan_here"]gK:Df K mg "_law_new_trial" kE a.gK ["_law_script","_law_plan_here","_law_number"]qw:Df K mg "_law_share" oy a.qw ["_law_script","_law_plan_here","_law_k","_law_number"]wa:Df K mg "_law_deed" z9 a.wa ["_law_script","_law_plan_here","_law_k"]c7:Df K mg "_law_rule_row" je a.c7 ["_law_rule_here"]iy:Df K mg "_law_listed" vw a.iy ["_law_things"]BU:Df K mg "_law_row" y4 a.BU ["_law_deed_here"]v8:Df K mg "_law_done" zZ a.v8 ["_law_house","_law_deed_here"]law:Df K mg "law" GN a.law ["_law_script"]BP:∃u,mg "LETTERS"=some u/\aU (.str "abcdefghijklmnopqrstuvwxyz") u
 m7:∃u,mg "GUEST_SIGNS"=some u/\aU (.str "abcdefghijklmnopqrstuvwxyz0123456789") u
 uc:∃u,mg "LONGEST_WORD"=some u/\aU (.int 12) u
 rJ:∃u,mg "LONGEST_GUEST"=some u/\aU (.int 24) u
 u0:∃u,mg "LEAST_PRIME"=some u/\aU (.int 2) u
 qm:∃u,mg "GREATEST_PRIME"=some u/\aU (.int 997) u
 Gr:∃u,mg "MIXER"=some u/\aU (.int 1009) u
 w4:∃u,mg "MOST_MARKS"=some u/\aU (.int 8) u
 ud:∃u,mg "DEEPEST_RULE"=some u/\aU (.int 6) u
 wZ:∃u,mg "MOST_RULES"=some u/\aU (.int 30) u
 wW:∃u,mg "MOST_WORDS"=some u/\aU (.int 3) u
 yI:∃u,mg "MOST_ARMS"=some u/\aU (.int 4) u
 wY:∃u,mg "MOST_SHUTS"=some u/\aU (.int 8) u
 wX:∃u,mg "MOST_TOTAL"=some u/\aU (.int 1000) u
 bp:xj K a.bN
 Dt:L2.Mk K a.bN a.dO.x
 mZ:bS K a.bN "many"dW:bS K a.bN "owners"gk:bS K a.bN "taken"cj:xj K a.eM
 Du:L2.Mk K a.eM a.dQ.x
 iN:bS K a.eM "slope"gm:bS K a.eM "table"b7:bS K a.eM "inside"bh:xj K a.fA
 Ds:L2.Mk K a.fA a.dJ.x
 jy:bS K a.fA "home"gT:bS K a.fA "arms"mY:bS K a.fA "rule"lQ:bS K a.fA "shuts"hV:bS K a.fA "paused"dU:bS K a.fA "closed"ia:bS K a.fA "barred"aF:xj K a.ck
 Dv:L2.Mk K a.ck a.dS.x
 cg:bS K a.ck "own_prime"gn:bS K a.ck "own_salt"bg:bS K a.ck "layer_named"bf:bS K a.ck "trial_named"dI:bS K a.ck "came_into"iO:bS K a.ck "deeds"uW:va K a.kQ
 IG:va K a.AE
 Jh:va K a.EF
 Jf:va K a.ED
 Kr:va K a.G4
 ID:va K a.AA
 Ji:va K a.EG
 Jg:va K a.EE
 IE:va K a.AC
 GX:va K a.yP
 IF:va K a.AD
 BD:va K a.qC
 BC:va K a.mh
 zu:L2.GC K a.pm a.eY
 pV:∃tk,PySem.W.nsIn K a.eY "layer"=some (some (.int 3 tk))pS:∃tk,PySem.W.nsIn K a.eY "trial"=some (some (.int 6 tk))pT:∃tk,PySem.W.nsIn K a.eY "share"=some (some (.int 3 tk))rD:∃tk,PySem.W.nsIn K a.eY "deal"=some (some (.int 4 tk))rC:∃tk,PySem.W.nsIn K a.eY "hold"=some (some (.int 3 tk))pU:∃tk,PySem.W.nsIn K a.eY "pause"=some (some (.int 2 tk))uV:∃tk,PySem.W.nsIn K a.eY "go"=some (some (.int 2 tk))pW:∃tk,PySem.W.nsIn K a.eY "close"=some (some (.int 2 tk))tS:∃tk,PySem.W.nsIn K a.eY "bar"=some (some (.int 3 tk))pR:∃tk,PySem.W.nsIn K a.eY "visit"=some (some (.int 3 tk))Ao:L2.KP K a.uo [.str "",.str ""]lr:L2.AB K a.mh a.kQ
 lu:L2.AB K a.qC a.kQ
 vA:mg "all"=none
 Dq:mg "any"=none
 Ie:mg "bool"=none
 Dp:mg "divmod"=none
 yg:mg "enumerate"=none
 J2:mg "int"=none
 a9:mg "isinstance"=none
 bD:mg "len"=none
 zm:mg "list"=none
 J1:mg "max"=none
 Do:mg "min"=none
 gp:mg "range"=none
 zk:mg "reversed"=none
 Dn:mg "set"=none
 yf:mg "sorted"=none
 kZ:mg "str"=none
 J0:mg "sum"=none
 df:mg "tuple"=none
 JZ:mg "zip"=none
def c6{N P:MV}{h:Scope}(a:h.kind=.function:=by rfl)(b:h.isCoroutine=false:=by rfl)(c:h.isGenerator=false:=by rfl)(d:N.Nodup:=by decide+kernel)(e:N.take P.length=P:=by rfl)(f:∀x∈P,h.names.lookup x=some .local\/h.names.lookup x=some .cell:=by decide+kernel)(g:∀y∈h.names,y.2≠.free:=by decide+kernel):aA N P h:=⟨a,b,c,d,e,f,g⟩
def wm:aA ["things"] ["things"] (ai lD):=c6
def uv:aA ["marks"] ["marks"] (ai ky):=c6
def nV:aA ["rule"] ["rule"] (ai lC):=c6
def sB:aA ["things"] ["things"] (ai jt):=c6
def wu:aA ["deed"] ["deed"] (ai qI):=c6
abbrev kS:List Str:=["house","prime","salt"]
def jp:aA kS ["house"] (ai kA):=c6
def xy:aA ["thing"] ["thing"] (ai sU):=c6
abbrev kR:List Str:=["thing","signs","longest"]
def uw:aA kR ["thing","signs","longest"] (ai kz):=c6
def yY:aA ["thing"] ["thing"] (ai vn):=c6
def xC:aA ["thing"] ["thing"] (ai sW):=c6
def xB:aA ["thing"] ["thing"] (ai nu):=c6
def i7:aA ["p","salt","guest","mixed","sign"] ["p","salt","guest"] (ai sP):=c6
def wq:aA ["thing"] ["thing"] (ai qH):=c6
def y3:aA ["thing"] ["thing"] (ai vq):=c6
def wx:aA ["thing"] ["thing"] (ai jb):=c6
def lA:aA ["thing","depth","kind"] ["thing","depth"] (ai sY):=c6
def gQ:aA ["rule","found","inner"] ["rule"] (ai ou):=c6
def xx:aA ["rule"] ["rule"] (ai nr):=c6
def y0:aA ["thing"] ["thing"] (ai vp):=c6
abbrev pj:List Str:=["rule","marks","kind"]
def sC:aA pj ["rule","marks"] (ai rL):=c6
def xD:aA ["thing"] ["thing"] (ai sX):=c6
def yZ:aA ["thing"] ["thing"] (ai vo):=c6
def xz:aA ["thing"] ["thing"] (ai sV):=c6
def wo:aA ["thing"] ["thing"] (ai qG):=c6
abbrev iw:List Str:=["thing","many"]
def uB:aA iw ["thing","many"] (ai kB):=c6
abbrev ng:List Str:=["thing","many"]
def sM:aA ng ["thing","many"] (ai jv):=c6
def xE:aA ["thing"] ["thing"] (ai ny):=c6
def sJ:aA ["prime","salt"] ["prime","salt"] (ai mP):=c6
def ux:aA ["thing"] ["thing"] (ai oh):=c6
def sK:aA ["thing"] ["thing"] (ai mQ):=c6
def sI:aA ["thing"] ["thing"] (ai mO):=c6
def uy:aA ["thing"] ["thing"] (ai oj):=c6
def ww:aA ["thing","names"] ["thing","names"] (ai qJ):=c6
def nX:aA ["thing","names"] ["thing","names"] (ai jM):=c6
abbrev jB:List Str:=["thing","prime","layers"]
def sG:aA jB ["thing","prime","layers"] (ai ju):=c6
def uA:aA ["thing"] ["thing"] (ai oq):=c6
def iI:aA ["thing","trials","k","name"] ["thing","trials"] (ai mM):=c6
def sL:aA ["thing"] ["thing"] (ai mR):=c6
def q9:aA ["thing","many"] ["thing","many"] (ai lE):=c6
def pE:aA ["total","weights","many"] ["total","weights","many"] (ai kW):=c6
def uz:aA ["deed"] ["deed"] (ai on):=c6
def sE:aA ["deed","layers","trials"] ["deed","layers","trials"] (ai mL):=c6
def jq:aA ["deed","trials","trial","many"] ["deed","trials"] (ai om):=c6
def mJ:aA ["deed","prime","layers","trials","kind"] ["deed","prime","layers","trials"] (ai oo):=c6
def i8:aA ["weights","given","best","k"] ["weights","given"] (ai sR):=c6
def nW:aA ["total","weights","given","turn","k"] ["total","weights"] (ai zV):=c6
def lz:aA ["p","slope","point","x","y"] ["p","slope","point"] (ai sQ):=c6
def rc:aA ["self","many"] ["self","many"] (ai lG):=c6
def nY:aA ["self","place"] ["self","place"] (ai jN):=c6
def nq:aA ["self","owner"] ["self","owner"] (ai jc):=c6
def uC:aA ["self"] ["self"] (ai kD):=c6
abbrev ix:List Str:=["self","wanted","more","back","owner","number"]
def dh:aA ix ["self","wanted"] (ai kC):=c6
def dF:aA ["self","owner","number","places","back","place"] ["self","owner","number"] (ai jd):=c6
def gR:aA ["self","owner","number","places","more","place"] ["self","owner","number"] (ai ox):=c6
def re:aA ["self","slope","many"] ["self","slope","many"] (ai lH):=c6
def rb:aA ["self","home","arms","rule","shuts"] ["self","home","arms","rule","shuts"] (ai lF):=c6
def rf:aA ["self","prime","salt"] ["self","prime","salt"] (ai lJ):=c6
def qF:aA ["self","deed","answer"] ["self","deed"] (ai tj):=c6
def mK:aA ["self","deed","kind"] ["self","deed"] (ai oB):=c6
def og:aA ["self","name","slope"] ["self","name","slope"] (ai jS):=c6
def n9:aA ["self","name","trial"] ["self","name","trial"] (ai jQ):=c6
abbrev cG:List Str:=["self","name","numbers","trial","layer","back","guests"]
def c9:aA cG ["self","name","numbers"] (ai eQ):=c6
def pF:aA ["self","name","number"] ["self","name","number"] (ai kY):=c6
def i9:aA ["self","name","paused","trial"] ["self","name","paused"] (ai jR):=c6
def ja:aA ["self","name","trial"] ["self","name"] (ai jT):=c6
def hU:aA ["self","guest","name","trial","layer"] ["self","guest","name"] (ai lI):=c6
def cy:aA ["self","guest","marks","answer","name","trial","arm","layer"] ["self","guest","marks"] (ai jP):=c6
def eP:aA ["self","layer","guests","out","guest","seat"] ["self","layer","guests"] (ai kX):=c6
abbrev fe:List Str:=["self","guest","marks","been","answer","name","layer","seat"]
def bB:aA fe ["self","guest","marks"] (ai fc):=c6
abbrev gJ:List Str:=["self","layer","guest","marks","been","owner","trial"]
def gb:aA gJ ["self","layer","guest","marks","been"] (ai gx):=c6
def n8:aA ["self","layer","guest"] ["self","layer","guest"] (ai jO):=c6
def uE:aA ["self"] ["self"] (ai oC):=c6
def sO:aA ["self"] ["self"] (ai mS):=c6
def uD:aA ["self"] ["self"] (ai oA):=c6
def xF:aA ["_law_script","_law_k"] ["_law_script","_law_k"] (ai tf):=c6
def jI:aA ["_law_script","_law_k","_law_salt","_law_cell","_law_lap","_law_near"] ["_law_script","_law_k","_law_salt"] (ai xG):=c6
def nZ:aA ["_law_k","_law_number","_law_some","_law_stem","_law_at"] ["_law_k","_law_number"] (ai zW):=c6
def jK:aA ["_law_k","_law_number","_law_some","_law_stem","_law_at","_law_own"] ["_law_k","_law_number"] (ai xH):=c6
def lB:aA ["_law_number","_law_high","_law_way","_law_some","_law_word_here"] ["_law_number","_law_high"] (ai zX):=c6
abbrev ul:List Str:=["_law_number","_law_marks_here","_law_k","_law_word_here"]
def jJ:aA ul ["_law_number"] (ai sZ):=c6
def sN:aA ["_law_script","_law_number","_law_prime"] ["_law_script"] (ai zY):=c6
def jr:aA ["_law_script","_law_plan_here","_law_k","_law_name"] ["_law_script","_law_plan_here"] (ai oz):=c6
abbrev kT:List Str:=["_law_script","_law_plan_here","_law_number","_law_k","_law_name","_law_layer","_law_arms","_law_shuts","_law_more","_law_j"]
def cF:aA kT ["_law_script","_law_plan_here","_law_number"] (ai kE):=c6
abbrev mi:List Str:=["_law_script","_law_plan_here","_law_k","_law_number","_law_trial","_law_most","_law_weights"]
def ml:aA mi ["_law_script","_law_plan_here","_law_k","_law_number"] (ai oy):=c6
def jL:aA ["_law_script","_law_plan_here","_law_k","_law_number","_law_some","_law_guest_here","_law_early","_law_trial"] ["_law_script","_law_plan_here","_law_k"] (ai z9):=c6
abbrev g9:List Str:=["_law_rule_here"]
def n6:aA g9 ["_law_rule_here"] (ai je):=c6
def kx:aA ["_law_things","_law_row_here","_law_thing"] ["_law_things"] (ai vw):=c6
abbrev xh:List Str:=["_law_deed_here","_law_parts","_law_row_here","_law_thing"]
def mm:aA xh ["_law_deed_here"] (ai y4):=c6
def CJ:aA ["_law_house","_law_deed_here"] ["_law_house","_law_deed_here"] (ai zZ):=c6
def nj:aA ["_law_script","_law_plan_here","_law_house","_law_rows","_law_k","_law_deed_here","_law_found"] ["_law_script"] (ai GN):=c6
variable{P:MU}{w:World}{K:MP}{mg:MS}{base:Heap}{a:i0}{H H':Hp}
inductive EL{A0 A1:Type}(p:A0->A1->Prop):Prop|mk(x0:A0)(x1:A1)(h:p x0 x1)
inductive KD{A0 A1 A2:Type}(p:A0->A1->A2->Prop):Prop|mk(x0:A0)(x1:A1)(x2:A2)(h:p x0 x1 x2)
inductive Ex4{A0 A1 A2 A3:Type}(p:A0->A1->A2->A3->Prop):Prop|mk(x0:A0)(x1:A1)(x2:A2)(x3:A3)(h:p x0 x1 x2 x3)
structure Lq(p0 p1 p2 p3 p4:Prop):Prop where
 h0:p0
 h1:p1
 h2:p2
 h3:p3
 h4:p4
structure KG(p0 p1 p2 p3 p4 p5 p6 p7 p8 p9:Prop):Prop where
 h0:p0
 h1:p1
 h2:p2
 h3:p3
 h4:p4
 h5:p5
 h6:p6
 h7:p7
 h8:p8
 h9:p9
structure Ls(p0 p1 p2 p3 p4 p5 p6 p7 p8 p9 p10 p11:Prop):Prop where
 h0:p0
 h1:p1
 h2:p2
 h3:p3
 h4:p4
 h5:p5
 h6:p6
 h7:p7
 h8:p8
 h9:p9
 h10:p10
 h11:p11
structure Lr(p0 p1 p2 p3 p4 p5 p6 p7 p8 p9 p10 p11 p12:Prop):Prop where
 h0:p0
 h1:p1
 h2:p2
 h3:p3
 h4:p4
 h5:p5
 h6:p6
 h7:p7
 h8:p8
 h9:p9
 h10:p10
 h11:p11
 h12:p12
@[irreducible]def vS(ns:M0)(k:Int):Int:=if ns.length=0 then 0 else ns.getD (k%(ns.length:Int)).toNat 0
def Kc(ns:M0)(k:Int):Int:=k/(if(ns.length:Int)>1 then(ns.length:Int)else 1)
def Dk(ns:M0)(k m:Int):Int:=(Builtin.bitAnd (vS ns k) 2147483647+1009*k*k+7919*m*m+12)*48271%2147483647
@[irreducible]def cT(ns:M0)(k m:Int):Int:=(vS ns k/2^(31*(m+128*Kc ns k)).toNat+Dk ns k m*Dk ns k m%2147483629)%2147483648
def FT(ns:M0)(k m:Int):0<=cT ns k m/\cT ns k m<2147483648:=by unfold cT;exact bH _ (by decide)
inductive HB(K:MP)(vs:List V)(H:Hp)(Q:VK)(_E:XK):Prop|mk(a:Addr)(ns:M0)(k:Int)(_:vs=[.ref a,.int k])(_:aW K H a (ns.map V.int))(_:ns.length<=63)(_:Q (.int (vS ns k)) H)
inductive Fc(K:MP)(vs:List V)(H:Hp)(Q:VK)(_E:XK):Prop|mk(a:Addr)(ns:M0)(k m:Int)(_:vs=[.ref a,.int k,.int m])(_:aW K H a (ns.map V.int))(_:ns.length<=63)(_:(0<=k/\k<=1000000))(_:(0<=m/\m<=1000000))(_:Q (.int (cT ns k m)) H)
inductive Cj(K:MP)(vs:List V)(H:Hp)(Q:VK)(_E:XK):Prop|mk(a:Addr)(ns:M0)(_:vs=[.ref a])(_:aW K H a (ns.map V.int))(_:ns.length<=63)(_:∀H',Q (.bl true) H')
section
variable{P:MU}{w:World}{K:MP}{mg:MS}{base:Heap}{a:i0}
def qN(T:Txt K mg a):aO P w K mg base cZ 1 a.iW.x a.iW.d ["_law_script","_law_k"] (HB K):=by
 refine T.iW.ok xF λe A outer s H f Q E g h=>?_
 ·obtain⟨p,ns,k,rfl,b,i,q⟩:=h;refine⟨_,(ag (aM (aD aQ (aB (aI K rfl) (by rfl) T.bD L2.aL (ac (Y 0) O)) ae (aE _)) (ah (az ae)) aC) (ah (az (iq K (Y 0) (au aT (Y 1) (aB (aI K rfl) (by rfl) T.bD L2.aL (ac (Y 0) O))))))),?_⟩
  refine U rfl ⟨_,ns.length,rfl,.inl ⟨_,b,by simp⟩,rfl,U rfl ?_⟩;unfold vS at q;refine i4 (λh0=>?_) (λh0=>?_)
  ·rw[hQ (by lia)]at q;exact q
  have c:(0:Int)<(ns.length:Int):=by lia
  have hm:=bH k c;rw[g8 (by lia)]at q;exact U rfl (U rfl (U rfl ⟨_,ns.length,rfl,.inl ⟨_,b,by simp⟩,_,U rfl ⟨rfl,c,rX b (mE hm.1 hm.2) q⟩⟩))
def dz(T:Txt K mg a):aO P w K mg base cZ 2 a.ff.x a.ff.d ["_law_script","_law_k","_law_salt"] (Fc K):=by
 refine T.ff.ok jI λi A outer s H u Q E j h=>?_
 ·obtain⟨p,ns,k,m,rfl,e,l,⟨o,v⟩,⟨y,z⟩,q⟩:=h;refine⟨_,(ag (bd 3 jI.nd (pc T.iW (qN T) j (ac (Y 0) (ac (Y 1) O)))) (ag (bd 4 jI.nd (au bA (Y 1) (aB (BK rfl) (by rfl) T.J1 L2.Ev (ac ae (ac (aB (aI K rfl) (by rfl) T.bD L2.aL (ac (Y 0) O)) O))))) (ag (bd 5 jI.nd (au bP (au bP (au bP (au C8 (Y 3) ae) (au gy (au gy ae (Y 1)) (Y 1))) (au gy (au gy ae (Y 2)) (Y 2))) ae)) (ag (bd 5 jI.nd (au aT (au gy (Y 5) ae) ae)) (ah (az (au C8 (au bP (au HW (Y 3) (au gy ae (au bP (Y 2) (au gy ae (Y 4))))) (au aT (au gy (Y 5) (Y 5)) ae)) ae))))))),?_⟩
  unfold cT Dk Kc at q;refine U rfl (U rfl ⟨p,ns,k,rfl,e,l,?_⟩);generalize vS ns k=c at q⊢;have hn:∃n:Int,n=(if(ns.length:Int)>1 then(ns.length:Int)else 1)/\0<n/\n<1073741824:=(U rfl ⟨by split<;>lia,by split<;>lia⟩);obtain⟨n,f,n0,n1⟩:=hn;rw[<-f]at q;refine U rfl (U rfl ⟨_,ns.length,rfl,.inl ⟨_,e,by simp⟩,_,U rfl ⟨_,n,rfl,by rw[f],⟨n0,n1⟩,?_⟩⟩);have r:0<=k/n:=Int.ediv_nonneg o (by lia)
  try dsimp only
  generalize k/n=t at r q⊢;refine U rfl (r2 (U rfl (r2 ⟨.inl ⟨by decide,by decide⟩,U rfl (r2 ⟨.inr ⟨by lia,by lia⟩,_,U rfl ⟨rfl,U rfl (r2 ⟨.inl ⟨by decide,by decide⟩,U rfl (r2 ⟨.inr ⟨by lia,by lia⟩,_,U rfl ⟨rfl,r2 ?_⟩⟩)⟩)⟩⟩)⟩)));refine U rfl (r2 ⟨.inr ⟨by decide,by decide⟩,_,U rfl ⟨rfl,(by show(0:Int)<_;first|decide|lia),?_⟩⟩);have b:=bH ((Builtin.bitAnd c 2147483647+1009*k*k+7919*m*m+12)*48271) (show(0:Int)<2147483647 by decide)
  try dsimp only
  generalize(Builtin.bitAnd c 2147483647+1009*k*k+7919*m*m+12)*48271%2147483647=g at b q⊢;refine U rfl (U rfl (U rfl (r2 ⟨.inl ⟨by decide,by decide⟩,_,U rfl ⟨rfl,r2 ⟨.inl ⟨by decide,by decide⟩,_,U rfl ⟨rfl,(by show(0:Int)<=_;lia),U rfl (U rfl (r2 ⟨.inl ⟨by lia,by lia⟩,_,U rfl ⟨rfl,(by show(0:Int)<_;first|decide|lia),_,U rfl ⟨rfl,r2 ?_⟩⟩⟩))⟩⟩⟩⟩)))
  try dsimp only
  rw[Ih];exact q
def Bt(T:Txt K mg a)(s:Shared)(u:Value):BindsTo s a.law.d ⟨[u],[]⟩ [("_law_script",u)]:=by obtain⟨oc,i,kV,b,pm,j,c,ct,g,e,k,h⟩:=T.law.f.ex;rw[e];exact .of_eq rfl
def Bs{p:Addr}{ns:M0}(c:ns.length<=63)(d:aW K H p (ns.map V.int)):Cj K [.ref p] H (λv _=>v=.bl true) λ_ _ _=>False:=⟨p,ns,rfl,d,c,λ_=>rfl⟩
end
section
variable{g j:Type}{F G:g->j->Prop}{a c:List g}{b d:List j}
def Paired.mapM(h:Paired F a b)(f:∀x∈a,∀y,F x y->G x y):Paired G a b:=by induction h with|nil=>exact .nil|cons h _ e=>exact .cons (f _ ir _ h) (e λx m=>f x (hY _ m))
def Paired.ex(h:Paired F a b):∀x∈a,∃y,F x y:=by induction h with|nil=>exactλx e=>(nomatch e)|cons h _ f=>
  intro x e;rcases o_.mp e with rfl|m
  ·exact⟨_,h⟩
  ·exact f x m
def Paired.at_(h:Paired F a b):∀(i:Nat)(x:g),a[i]?=some x->∃y,b[i]?=some y/\F x y:=by induction h with|nil=>exactλi x e=>(nomatch e)|cons h _ f=>intro i x e;cases i with|zero=>obtain rfl:=kl e;exact⟨_,rfl,h⟩|succ i=>exact f i x e
def wA(h:Paired F a b):∀(i:Nat)(y:j),b[i]?=some y->∃x,a[i]?=some x/\F x y:=by induction h with|nil=>exactλi x e=>(nomatch e)|cons h _ f=>intro i x e;cases i with|zero=>obtain rfl:=kl e;exact⟨_,rfl,h⟩|succ i=>exact f i x e
def CV(h:Paired F a b)(k:Paired F c d):Paired F (a++c) (b++d):=by induction h with|nil=>exact k|cons h _ e=>exact .cons h e
end
inductive Ru where|any|has(w:Str)|least(w:Str)(n:Int)|not(q:Ru)|both(q r:Ru)|either(q r:Ru)
def Ru.hgt:Ru->Nat|.any=>1|.has _=>1|.least _ _=>1|.not q=>q.hgt+1|.both q r=>max q.hgt r.hgt+1|.either q r=>max q.hgt r.hgt+1
def Ru.hgt_pos:∀r:Ru,0<r.hgt|.any=>Nat.one_pos|.has _=>Nat.one_pos|.least _ _=>Nat.one_pos|.not _=>L8 _|.both _ _=>L8 _|.either _ _=>L8 _
def Kn(w:Str)(m:Str×Int):Bool:=decide (V.str m.1=V.str w)
def gA(w:Str)(n:Int)(m:Str×Int):Bool:=if decide (V.str m.1=V.str w)=true then decide (n<=m.2)else false
def Ru.sat(c:List (Str×Int)):Ru->Bool|.any=>true|.has w=>(c.map (Kn w)).any id|.least w n=>(c.map (gA w n)).any id|.not q=>!q.sat c|.both q r=>if q.sat c=true then r.sat c else false|.either q r=>if q.sat c=true then true else r.sat c
inductive dP(K:MP)(H:Hp):Ru->V->Prop|any{a:Addr}:aX K H a [.str "any"]->dP K H .any (.ref a)|has{a:Addr}{w:Str}:aX K H a [.str "has",.str w]->dP K H (.has w) (.ref a)|least{a:Addr}{w:Str}{n:Int}:aX K H a [.str "least",.str w,.int n]->dP K H (.least w n) (.ref a)|not{a:Addr}{q:Ru}{v:V}:aX K H a [.str "not",v]->dP K H q v->dP K H (.not q) (.ref a)|both{a:Addr}{q r:Ru}{v u:V}:aX K H a [.str "both",v,u]->dP K H q v->dP K H r u->dP K H (.both q r) (.ref a)|either{a:Addr}{q r:Ru}{v u:V}:aX K H a [.str "either",v,u]->dP K H q v->dP K H r u->dP K H (.either q r) (.ref a)
def IQ(H H':Hp):Prop:=∀u b,H u=some (.tup b)->H' u=some (.tup b)
def IQ.sq{a:Addr}{d:List V}(e:IQ H H')(f:∀u o,(∃c,H u=some (.frz c o))->∃c,H' u=some (.frz c o))(h:aX K H a d):aX K H' a d:=by
 rcases h with h|h
 ·rcases h with h|h
  ·exact .inl (.inl (e _ _ h))
  ·exact .inl (.inr (f _ _ h))
 ·exact .inr h
structure Kp(H H':Hp):Prop where
 tp:IQ H H'
 fz:∀u o,(∃o',H u=some (.frz o' o))->∃o',H' u=some (.frz o' o)
def Kp.trans(a:Kp H d)(b:Kp d e):Kp H e:=⟨λu c h=>b.tp u c (a.tp u c h),λu o h=>b.fz u o (a.fz u o h)⟩
def Kp.of(h:ak H H'):Kp H H':=⟨λu c e=>h u _ e,λu o⟨b,e⟩=>⟨b,h u _ e⟩⟩
theorem Kp.lst{a:Addr}{o:HO}{d:List V}(c:H a=some (.lst d)):Kp H (aG H a o):=⟨λu f h=>by rw[ao (λe=>by rw[e,c]at h;cases h)];exact h,λu o⟨b,h⟩=>⟨b,by rw[ao (λe=>by rw[e,c]at h;cases h)];exact h⟩⟩
def Kp.new{a:Addr}{o:HO}(hn:H a=none):Kp H (aG H a o):=.of (aj (ak.refl H) hn)
def Kp.tq{a:Addr}{c:List V}(e:Kp H H')(h:aX K H a c):aX K H' a c:=e.tp.sq e.fz h
def dP.kp(e:Kp H H')(h:dP K H r v):dP K H' r v:=by induction h with|any h=>exact .any (e.tq h)|has h=>exact .has (e.tq h)|least h=>exact .least (e.tq h)|not h _ q=>exact .not (e.tq h) q|both h _ _ q r=>exact .both (e.tq h) q r|either h _ _ q r=>exact .either (e.tq h) q r
def pk(K:MP)(H:Hp)(d:List (Str×Int))(v:V):Prop:=∃a c,v=.ref a/\aX K H a c/\c.length=d.length/\∀(i:Nat)(m:Str×Int),d[i]?=some m->∃b,c[i]?=some (.ref b)/\aX K H b [.str m.1,.int m.2]
def pk.kp(e:Kp H H')(h:pk K H c v):pk K H' c v:=by obtain⟨a,d,h1,h2,h3,h4⟩:=h;exact⟨a,d,h1,e.tq h2,h3,λi m hm=>let⟨b,f,g⟩:=h4 i m hm;⟨b,f,e.tq g⟩⟩
def lx{c d:Type}{f:c->d}{l:List c}{i:Nat}{m:c}(h:l[i]?=some m):(l.take (i+1)).map f=(l.take i).map f++[f m]:=by rw[qr,h,g6];rfl
inductive iS(ws:MV):Ru->Prop|any:iS ws .any|has{w:Str}:w∈ws->iS ws (.has w)|least{w:Str}{n:Int}:w∈ws->-aY<=n->n<=aY->iS ws (.least w n)|not{q:Ru}:iS ws q->iS ws (.not q)|both{q r:Ru}:iS ws q->iS ws r->iS ws (.both q r)|either{q r:Ru}:iS ws q->iS ws r->iS ws (.either q r)
def pA:(100:Int)<=aY:=by have:=dZ;lia
def Ru.subs:Ru->List Ru|.any=>[.any]|.has w=>[.has w]|.least w n=>[.least w n]|.not q=>.not q::q.subs|.both q r=>.both q r::(q.subs++r.subs)|.either q r=>.either q r::(q.subs++r.subs)
def Ru.cnt(r:Ru):Nat:=r.subs.length
def Ru.words:Ru->List Str|.any=>[]|.has w=>[w]|.least w _=>[w]|.not q=>q.words|.both q r=>q.words++r.words|.either q r=>q.words++r.words
def Ru.word1:Ru->Option Str|.has w=>some w|.least w _=>some w|_=>none
theorem Ru.words_subs:∀r:Ru,r.subs.filterMap Ru.word1=r.words|.any=>rfl|.has _=>rfl|.least _ _=>rfl|.not q=>by show(Ru.not q::q.subs).filterMap Ru.word1=q.words;rw[LZ rfl,q.words_subs]|.both q r=>by show(Ru.both q r::(q.subs++r.subs)).filterMap Ru.word1=q.words++r.words;rw[LZ rfl,Mj,q.words_subs,r.words_subs]|.either q r=>by show(Ru.either q r::(q.subs++r.subs)).filterMap Ru.word1=q.words++r.words;rw[LZ rfl,Mj,q.words_subs,r.words_subs]
def Ab{a b:Nat}:2^a+2^b<=2^(max a b+1):=by have h1:2^a<=2^max a b:=oD (by decide) (G_ _ _);have h2:2^b<=2^max a b:=oD (by decide) (D_ _ _);rw[D2];lia
theorem Ru.cnt_lt:∀r:Ru,r.cnt+1<=2^r.hgt|.any=>fx _|.has _=>fx _|.least _ _=>fx _|.not q=>by have h:=q.cnt_lt;show(q.subs.length+1)+1<=2^(q.hgt+1);unfold Ru.cnt at h;rw[D2];have:=q.hgt_pos;have:2^1<=2^q.hgt:=oD (by decide) this;lia|.both q r=>by have h1:=q.cnt_lt;have h2:=r.cnt_lt;show((q.subs++r.subs).length+1)+1<=2^(max q.hgt r.hgt+1);unfold Ru.cnt at h1 h2;rw[gV];have:=Ab (a:=q.hgt) (b:=r.hgt);lia|.either q r=>by have h1:=q.cnt_lt;have h2:=r.cnt_lt;show((q.subs++r.subs).length+1)+1<=2^(max q.hgt r.hgt+1);unfold Ru.cnt at h1 h2;rw[gV];have:=Ab (a:=q.hgt) (b:=r.hgt);lia
def Ru.words_le(r:Ru):r.words.length<=r.cnt:=by rw[<-r.words_subs];exact List.length_filterMap_le _ _
structure u7(s:Str)(m:Nat)(x:Str):Prop where
 lo:1<=x.length
 hi:x.length<=m
 cs:∀c∈x.cps.toList,c∈s.cps.toList
abbrev oT:Str:="abcdefghijklmnopqrstuvwxyz"
abbrev jA:Str:="abcdefghijklmnopqrstuvwxyz0123456789"
abbrev Wd:Str->Prop:=u7 oT 12
abbrev AG:Str->Prop:=u7 jA 24
def DM(x:Str):x.cps.toList.length=x.length:=by show x.cps.toList.length=x.cps.size;simp
def CD:List Str:=["ab","ba","b","a","aab","abab","bab","aa","abb","baa","bb","soap"]
def zS:Nat->Str|0=>""|1=>"soap"|2=>"upperlayer"|_=>"z"
def i6(N:Int):Str:=zS (N%4).toNat
def BR(N:Int):Int:=N/4%(((i6 N).length:Int)+1)
def oU(k:Nat):Str:=⟨#[97+k]⟩
def vm(i:Nat):Str:=(CD[i]?).getD "a"
def Dx(z:Str)(i:Int)(c:Nat):Str:=Txt.slice z none (some i)++oU c++Txt.slice z (some i) none
def du(k N:Int):Str:=if N/40%2=1 then vm ((k+N/80)%12).toNat else Dx (i6 N) (BR N) ((k+N/80)%26).toNat
def I0(x:Str):Bool:=decide (1<=x.length)&&decide (x.length<=12)&&x.cps.toList.all λc=>decide (c∈oT.cps.toList)
def zQ(h:I0 x=true):Wd x:=by unfold I0 at h;rw[lm,lm]at h;exact⟨op h.1.1,op h.1.2,λc hc=>op (List.all_eq_true.mp h.2 c hc)⟩
def Fu:∀i∈List.range 12,I0 (vm i)=true:=by decide+kernel
def CA:∀i∈List.range 12,∀j∈List.range 12,vm i=vm j->i=j:=by decide+kernel
def Ig:∀r∈List.range 4,∀i∈List.range 11,∀c∈List.range 26,I0 (Dx (zS r) (i:Int) c)=true:=by decide+kernel
def AU(r:Nat):(zS r).length<=10:=by
 unfold zS
 split<;>decide+kernel
def vk(N:Int):(i6 N).length<=10:=AU _
def Ex(N:Int):0<=BR N/\BR N<((i6 N).length:Int)+1:=⟨LH _ (by lia),Ha _ (by lia)⟩
def rT(k N:Int):Wd (du k N):=by
 unfold du;have b1:=bH (k+N/80) (show(0:Int)<12 by decide);have b2:=bH (k+N/80) (show(0:Int)<26 by decide);have b3:=bH N (show(0:Int)<4 by decide);have b4:=Ex N;have b5:=vk N
 split
 ·exact zQ (Fu _ (by rw[q_];lia))
 ·have:=Ig (N%4).toNat (by rw[q_];lia) (BR N).toNat (by rw[q_];lia) ((k+N/80)%26).toNat (by rw[q_];lia);rw[show(((BR N).toNat:Nat):Int)=BR N by lia]at this;exact zQ this
def FU(h:Dx z i c=Dx z i d):c=d:=by have h:((Txt.slice z none (some i)).cps++#[97+c]++(Txt.slice z (some i) none).cps)=((Txt.slice z none (some i)).cps++#[97+d]++(Txt.slice z (some i) none).cps):=r4 Str.cps h;have h2:=r4 Array.toList h;simp at h2;exact h2
def py(hi:0<=i/\i<12)(c:0<=j/\j<12)(h:du i N=du j N):i=j:=by
 unfold du at h
 split at h
 ·have:=CA _ (by rw[q_];lia) _ (by rw[q_];lia) h;lia
 ·have:=FU h;lia
def DL:∀c∈List.range 26,u4 ("abcdefghijklmnopqrstuvwxyz":Str).cps.toList (c:Int)=some (97+c):=by decide+kernel
def B8:u4 [V.str "",V.str "soap",V.str "upperlayer",V.str "z"] (N%4)=some (V.str (i6 N)):=by have h1:0<=N%4:=LH _ (by decide);have h2:N%4<4:=Ha _ (by decide);unfold i6;rcases(by lia:N%4=0\/N%4=1\/N%4=2\/N%4=3)with e|e|e|e<;>rw[e]<;>rfl
def CB:∀i∈List.range 12,u4 (CD.map V.str) (i:Int)=some (V.str (vm i)):=by intro i hi;rw[q_]at hi;rcases(by lia:i=0\/i=1\/i=2\/i=3\/i=4\/i=5\/i=6\/i=7\/i=8\/i=9\/i=10\/i=11)with rfl|rfl|rfl|rfl|rfl|rfl|rfl|rfl|rfl|rfl|rfl|rfl<;>rfl
inductive EY(vs:List V)(H:Hp)(Q:VK)(_E:XK):Prop|mk(k N:Int)(_:vs=[.int k,.int N])(_:∀H',ak H H'->Q (.str (du k N)) H')
local macro_rules|`(tactic|walk_at "a")=>`(tactic|(repeat(first|refine U rfl ?_|refine r2 ?_|refine⟨(rfl:fh _ _=true),?_⟩|refine⟨(show fg _ _ from cd rfl),?_⟩|refine⟨(show(0:Int)<_ by first|decide|lia),?_⟩|refine⟨(rfl:V.int 10=V.int 10),rfl,?_⟩)))
section
def tN(T:Txt K mg a):aO P w K mg base cZ 1 a.qY.x a.qY.d ["_law_k","_law_number"] EY:=by
 refine T.qY.ok nZ λp A outer s H z Q E B h=>?_
 ·obtain⟨k,N,rfl,q⟩:=h;refine⟨_,(ag (aM (aD aQ (au aT (au bA (Y 1) ae) ae) ae (aE _)) (ag (bd 2 nZ.nd (a0 (ac ay (ac ay (ac ay (ac ay (ac ay (ac ay (ac ay (ac ay (ac ay (ac ay (ac ay (ac ay O)))))))))))))) (ah (az (iq K (Y 2) (au aT (au bP (Y 0) (au bA (Y 1) ae)) ae))))) aC) (ag (bd 3 nZ.nd (iq K (a0 (ac ay (ac ay (ac ay (ac ay O))))) (au aT (Y 1) ae))) (ag (bd 4 nZ.nd (au aT (au bA (Y 1) ae) (au bP (aB (aI K rfl) (by rfl) T.bD L2.aL (ac (Y 3) O)) ae))) (ah (az (au bj (au bj (cH sr (Y 3) dH (dG (Y 4))) (xN zv ay (au aT (au bP (Y 0) (au bA (Y 1) ae)) ae) (λ_ _=>rfl))) (cH sr (Y 3) (dG (Y 4)) dH))))))),?_⟩
  have b1:=bH (k+N/80) (show(0:Int)<12 by decide);have b2:=bH (k+N/80) (show(0:Int)<26 by decide);have r:=vk N
  walk_at "a"
  refine i4 (λf=>?_) (λf=>?_)
  ·have g:du k N=vm ((k+N/80)%12).toNat:=hQ f;refine⟨ls rfl,λl i=>?_⟩
   walk_at "a"
   have c:=CB ((k+N/80)%12).toNat (by rw[q_];lia);rw[show((((k+N/80)%12).toNat:Nat):Int)=(k+N/80)%12 by lia]at c;refine⟨l,_,_,U rfl ⟨rfl,aW.of af,c,?_⟩⟩;rw[<-g];exact q _ (aj (ak.refl H) i)
  ·have g:du k N=Dx (i6 N) (BR N) ((k+N/80)%26).toNat:=g8 f;refine⟨ls rfl,λl i=>?_⟩;have n:=aj (o:=.lst [V.str "",V.str "soap",V.str "upperlayer",V.str "z"]) (ak.refl H) i;have e:aG H l (.lst [V.str "",V.str "soap",V.str "upperlayer",V.str "z"]) l=some (.lst [V.str "",V.str "soap",V.str "upperlayer",V.str "z"]):=af;generalize aG H l (.lst [V.str "",V.str "soap",V.str "upperlayer",V.str "z"])=C at n e⊢
   walk_at "a"
   refine⟨l,_,_,U rfl ⟨rfl,aW.of e,B8,aq ?_⟩⟩;have t:=Ex N;have u:=Txt.slice_le (i6 N) none (some (BR N));have v:=Txt.slice_le (i6 N) (some (BR N)) none
   walk_at "a"
   refine⟨_,(i6 N).length,rfl,⟨cS (by lia),rfl⟩,_,U rfl ⟨rfl,r2 ⟨(by show(0:Int)<_;lia),aq ?_⟩⟩⟩;have j:∀a b:Str,(a++b).length=a.length+b.length:=λa b=>by show(a.cps++b.cps).size=a.cps.size+b.cps.size;exact Array.size_append
   have y:(oU ((k+N/80)%26).toNat).length=1:=rfl;have c:=DL ((k+N/80)%26).toNat (by rw[q_];lia);rw[show((((k+N/80)%26).toNat:Nat):Int)=(k+N/80)%26 by lia]at c;refine U rfl (U rfl ⟨BR N,rfl,i6 N,rfl,cS (by lia),?_⟩)
   walk_at "a"
   refine⟨"abcdefghijklmnopqrstuvwxyz",_,97+((k+N/80)%26).toNat,rfl,rfl,cS (by decide+kernel),c,_,oU ((k+N/80)%26).toNat,rfl,rfl,cS (by lia),U rfl (U rfl ⟨BR N,rfl,i6 N,rfl,cS (by lia),_,U rfl ⟨rfl,cS (by rw[j];lia),?_⟩⟩)⟩;have m:Txt.slice (i6 N) none (some (BR N))++oU ((k+N/80)%26).toNat++Txt.slice (i6 N) (some (BR N)) none=du k N:=by rw[g];rfl
   rw[m];exact q _ n
end
inductive EZ(K:MP)(vs:List V)(H:Hp)(Q:VK)(_E:XK):Prop|mk(z:_)(_:vs=[.int z])(_:Q (.bl true) H)
def xU(s:Str)(m:Nat)(x:Str):Bool:=decide (1<=x.length)&&(decide (x.length<=m)&&x.cps.toList.all λc=>decide (c∈s.cps.toList))
def u7.b{s:Str}{m:Nat}{x:Str}(h:u7 s m x):xU s m x=true:=by unfold xU;rw[j1 h.lo,j1 h.hi];exact List.all_eq_true.mpr λc hc=>j1 (h.cs c hc)
def G5(K:MP)(H:Hp)(v:V):Prop:=∃T,lZ K H v (.type T)/\PySem.W.kitOne K (.type T) (.type "str")=some false
def Ln(K:MP)(H:Hp)(v:V):Prop:=G5 K H v\/∃x:Str,v=.str x/\x.length<=60/\xU oT 12 x=false
inductive Ce(K:MP)(vs:List V)(H:Hp)(Q:VK)(_E:XK):Prop|mk(v:V)(s:Str)(m:Nat)(_:vs=[v,.str s,.int m])(_:((∃x:Str,v=.str x/\x.length<=60/\∀H',ak H H'->Q (.bl (xU s m x)) H')\/(G5 K H v/\Q (.bl false) H)))
inductive K3(K:MP)(vs:List V)(H:Hp)(Q:VK)(_E:XK):Prop|mk(v:V)(_:vs=[v])(_:((∃x,v=.str x/\Wd x/\∀H',ak H H'->Q (.bl true) H')\/(Ln K H v/\∀H',ak H H'->Q (.bl false) H')))
inductive JH(vs:List V)(H:Hp)(Q:VK)(_E:XK):Prop|mk(x:_)(_:vs=[.str x])(_:AG x)(_:∀H',ak H H'->Q (.bl true) H')
inductive JG(vs:List V)(H:Hp)(Q:VK)(_E:XK):Prop|mk(z:_)(_:vs=[.int z])(_:(-aY<=z/\z<=aY))(_:Q (.bl true) H)
inductive Fk(vs:List V)(H:Hp)(Q:VK)(_E:XK):Prop|mk(z:_)(_:vs=[.int z])(_:0<=z)(_:Q (.bl true) H)
inductive E4(vs:List V)(H:Hp)(Q:VK)(_E:XK):Prop|mk(z:_)(_:vs=[.int z])(_:(0<=z/\z<=1000))(_:Q (.bl true) H)
inductive Cb(vs:List V)(H:Hp)(Q:VK)(_E:XK):Prop|mk(z:_)(_:vs=[.int z])(_:(1<=z/\z<=aY))(_:Q (.bl true) H)
def kj{Q:VK}{p:Prop}[Decidable p]{H:Hp}(h:p)(q:Q (.bl true) H):Q (.bl (decide p)) H:=by rw[j1 h];exact q
section
def jh(T:Txt K mg a):aO P w K mg base cZ 1 a.gq.x a.gq.d ["thing"] (EZ K):=by
 refine T.gq.ok xy λb A outer s H c Q E e h=>?_
 ·obtain⟨z,rfl,k⟩:=h;refine⟨_,(ah (az (cw (aB (ka K rfl) (by rfl) T.a9 L2.aR (ac (Y 0) (ac (ie rfl T.J2 L2.Ew) O))) (dk (C3 (aB (ka K rfl) (by rfl) T.a9 L2.aR (ac (Y 0) (ac (ie rfl T.Ie L2.BQ) O)))))))),?_⟩;refine U rfl ⟨_,"int",_,true,rfl,.int z,cY (by decide+kernel),true,rfl,bq ?_⟩;exact U rfl ⟨_,"bool",_,false,rfl,.int z,cY (by decide+kernel),false,rfl,k⟩
def mT(T:Txt K mg a):aO P w K mg base cZ 1 a.fG.x a.fG.d ["thing","signs","longest"] (Ce K):=by
 refine T.fG.ok uw λf A outer s H l Q E n h=>?_
 ·obtain⟨v,g,m,rfl,h⟩:=h;refine⟨_,(ag (aM (cB (aP K rfl (aB (ka K rfl) (by rfl) T.a9 L2.aR (ac (Y 0) (ac (ie rfl T.kZ L2.dY) O))) (λ_=>rfl))) (ah (az gi)) aC) (ah (az (cw (tD jg jg ae (aB (aI K rfl) (by rfl) T.bD L2.aL (ac (Y 0) O)) (Y 2)) (dk (aB (iC K rfl rfl) (by rfl) T.vA L2.kc (ac (qj kR ["sign"] [] [3] (ai kz) (bO 3) (CZ (Y 0)) (λcl C s₀ H₀ ex=>⟨(mG kR ["sign"] 3),bJ,(bR Bf (Y 3) (Y 1) (by with_unfolding_all rfl))⟩)) O))))))),?_⟩
  rcases h with⟨x,rfl,o,q⟩|⟨⟨p,ty,j⟩,q⟩
  ·refine U rfl ⟨_,"str",_,true,rfl,.str x,cY (by decide+kernel),true,rfl,bU ?_⟩;refine U rfl ⟨_,x.length,rfl,⟨by rw[gg];lia,rfl⟩,_,U rfl ⟨rfl,U rfl ?_⟩⟩;unfold xU at q;refine lS (λh1=>?_) (λh1=>?_)
   ·rw[j1 (show 1<=x.length by omega),Bool.true_and]at q;refine U rfl (r2 (U rfl ?_));refine lS (λh2=>?_) (λh2=>?_)
    ·rw[j1 (show x.length<=m by omega),Bool.true_and]at q;refine U rfl ⟨x,rfl,λD k=>?_⟩;have r:=DM x;refine Ek (K:=K) (z:=x) (λi b e=>b=((x.cps.toList.take i).map λc=>decide (c∈g.cps.toList)).map V.bl/\e=aG H D (.lst b)) ⟨rfl,rfl⟩ ?_ ?_
     ·rintro i c b e hc⟨rfl,rfl⟩;have hi:i<x.cps.toList.length:=(d_.mp hc).1;refine aq (gU (bq ?_));refine U rfl (U rfl ⟨_,U rfl ⟨rfl,af,?_,lf hi ⟨?_,?_⟩⟩⟩)
      ·rw[b_,b_,i_,gg];lia
      ·rw[StrLaws.found_one,qr,hc,g6,g6];rfl
      ·rw[eh]
     ·rintro b e⟨rfl,rfl⟩;refine⟨D,_,rfl,aW.of af,?_⟩;rw[g_ (fx _),List.all_map];exact q _ (aj (ak.refl _) k)
    ·rw[j2 (show¬x.length<=m by omega),Bool.false_and]at q;exact q H (ak.refl H)
   ·rw[j2 (show¬1<=x.length by omega),Bool.false_and]at q;exact U rfl (bU (q H (ak.refl H)))
  ·exact U rfl ⟨_,"str",_,false,rfl,ty,j,false,rfl,bq q⟩
def iM(T:Txt K mg a):aO P w K mg base cZ 2 a.et.x a.et.d ["thing"] (K3 K):=by
 refine T.et.ok yY λe A outer s H g Q E f h=>?_
 ·obtain⟨v,rfl,h⟩:=h;refine⟨_,(ah (az (pc T.fG (mT T) f (ac (Y 0) (ac (cu T.BP rfl) (ac (cu T.uc rfl) O)))))),?_⟩;refine U rfl ⟨v,_,12,rfl,?_⟩;rcases h with⟨x,rfl,c,q⟩|⟨h|⟨x,rfl,h1,h2⟩,q⟩
  ·exact .inl ⟨x,rfl,by have:=c.hi;omega,by rw[c.b];exact q⟩
  ·exact .inr ⟨h,q H (ak.refl H)⟩
  ·exact .inl ⟨x,rfl,h1,by rw[h2];exact q⟩
def x5(T:Txt K mg a):aO P w K mg base cZ 2 a.j5.x a.j5.d ["thing"] JH:=by
 refine T.j5.ok xC λe A outer s H g Q E f h=>?_
 ·obtain⟨x,rfl,c,q⟩:=h;refine⟨_,(ah (az (pc T.fG (mT T) f (ac (Y 0) (ac (cu T.m7 rfl) (ac (cu T.rJ rfl) O)))))),?_⟩;exact U rfl ⟨.str x,_,24,rfl,.inl ⟨x,rfl,by have:=c.hi;omega,by rw[c.b];exact q⟩⟩
def oI(T:Txt K mg a):aO P w K mg base cZ 2 a.eT.x a.eT.d ["thing"] JG:=by
 refine T.eT.ok wq λb A outer s H e Q E c h=>?_
 ·obtain⟨z,rfl,⟨h1,h2⟩,q⟩:=h;refine⟨_,(ah (az (cw (pc T.gq (jh T) c (ac (Y 0) O)) (dk (tD jg jg (JT Hb (au tF ae ae)) (Y 0) (au tF ae ae)))))),?_⟩;refine U rfl ⟨z,rfl,U rfl (bq ?_)⟩
  walk_at "a"
  refine lS (λ_=>?_) (λh=>absurd h1 h)
  walk_at "a"
  exact kj h2 q
def gW(T:Txt K mg a):aO P w K mg base cZ 2 a.ft.x a.ft.d ["thing"] Fk:=by
 refine T.ft.ok xD λb A outer s H e Q E c h=>?_
 ·obtain⟨z,rfl,h1,q⟩:=h;refine⟨_,(ah (az (cw (pc T.gq (jh T) c (ac (Y 0) O)) (dk (bR GR (Y 0) ae (aE _)))))),?_⟩;refine U rfl ⟨z,rfl,U rfl (bq ?_)⟩
  walk_at "a"
  exact kj h1 q
def xZ(T:Txt K mg a):aO P w K mg base cZ 3 a.j3.x a.j3.d ["thing"] E4:=by
 refine T.j3.ok xz λb A outer s H e Q E c h=>?_
 ·obtain⟨z,rfl,⟨h1,h2⟩,q⟩:=h;refine⟨_,(ah (az (cw (pc T.ft (gW T) c (ac (Y 0) O)) (dk (bR jg (Y 0) (cu T.wX rfl) (aE _)))))),?_⟩;refine U rfl ⟨z,rfl,h1,U rfl (bq ?_)⟩
  walk_at "a"
  exact kj h2 q
def wB(T:Txt K mg a):aO P w K mg base cZ 2 a.iz.x a.iz.d ["thing"] Cb:=by
 refine T.iz.ok wo λb A outer s H e Q E c h=>?_
 ·obtain⟨z,rfl,⟨h1,h2⟩,q⟩:=h;refine⟨_,(ah (az (cw (pc T.gq (jh T) c (ac (Y 0) O)) (dk (tD jg jg ae (Y 0) (au tF ae ae)))))),?_⟩;refine U rfl ⟨z,rfl,U rfl (bq ?_)⟩
  walk_at "a"
  refine lS (λ_=>?_) (λh=>absurd h1 h)
  walk_at "a"
  exact kj h2 q
end
inductive Hv(K:MP)(vs:List V)(H:Hp)(Q:VK)(_E:XK):Prop|mk(b:Addr)(m:Str×Int)(_:vs=[.ref b])(_:aX K H b [.str m.1,.int m.2])(_:Wd m.1)(_:(-aY<=m.2/\m.2<=aY))(_:∀H',ak H H'->Q (.bl true) H')
inductive Fd(K:MP)(vs:List V)(H:Hp)(Q:VK)(_E:XK):Prop|mk(v:V)(l:List (Str×Int))(_:vs=[v])(_:pk K H l v)(_:(∀m∈l,Wd m.1/\-aY<=m.2/\m.2<=aY))(_:(l.map Prod.fst).Nodup)(_:l.length<=8)(_:∀H',ak H H'->Q (.bl true) H')
inductive Co(K:MP)(vs:List V)(H:Hp)(Q:VK)(_E:XK):Prop|mk(p:Addr)(l:M0)(_:vs=[.ref p,.int (l.length:Nat)])(_:aX K H p (l.map V.int))(_:(∀i∈l,0<=i))(_:l.length<=100)(_:∀H',ak H H'->Q (.bl true) H')
inductive AW(K:MP)(vs:List V)(H:Hp)(Q:VK)(_E:XK):Prop|mk(p:Addr)(l:M0)(_:vs=[.ref p,.int (l.length:Nat)])(_:aX K H p (l.map V.int))(_:(∀i∈l,1<=i/\i<=aY))(_:l.length<=100)(_:∀H',ak H H'->Q (.bl true) H')
inductive HE(K:MP)(vs:List V)(H:Hp)(Q:VK)(_E:XK):Prop|mk(p:Addr)(l:MV)(_:vs=[.ref p])(_:aX K H p (l.map V.str))(_:(∀w∈l,Wd w))(_:l.Nodup)(_:1<=l.length)(_:l.length<=4)(_:∀H',ak H H'->Q (.bl true) H')
def iF(i:Nat):(List.replicate i true).map V.bl++[V.bl true]=(List.replicate (i+1) true).map V.bl:=by rw[List.replicate_succ',g6];rfl
def jG(n:Nat):(List.replicate n true).all id=true:=by simp
def jF(i:Nat)(h:i<=1000):((List.replicate i true).map V.bl).length<sizeLine:=by rw[b_,Lv,gg];lia
def wI{c d:Type}{f:c->d}{l:List c}{i:Nat}{v:d}(h:(l.map f)[i]?=some v):∃x,l[i]?=some x/\v=f x/\x∈l:=by rw[ge]at h;cases e:l[i]?with|none=>rw[e]at h;cases h|some x=>rw[e]at h;cases h;exact⟨x,rfl,rfl,ga e⟩
def vF(l:MV):(l.map (Sum.inr:Str->cb)).map kV=l.map V.str:=by rw[ri];rfl
def yq{l:MV}(h:l.Nodup):(dd (l.map (Sum.inr:Str->cb))).length=l.length:=by have:=(IK (l.map (Sum.inr:Str->cb))).mpr (h.map _ (λa b h e=>h (qc e)));rw[this,b_]
section
def zf(T:Txt K mg a):aO P w K mg base cZ 3 a.mB.x a.mB.d ["thing"] (Hv K):=by
 refine T.mB.ok y3 λg A outer s H j Q E e h=>?_
 ·obtain⟨b,m,rfl,c,h1,h2,q⟩:=h;refine⟨_,(ah (az (cw (aB (cK K rfl) (by rfl) T.a9 L2.aR (ac (Y 0) (ac (ie rfl T.df L2.bE) O))) (cw (bR aQ (aB (aI K rfl) (by rfl) T.bD L2.aL (ac (Y 0) O)) ae (aE _)) (cw (pc T.et (iM T) e (ac (cC K (Y 0) ae) O)) (dk (pc T.eT (oI T) e (ac (cC K (Y 0) ae) O)))))))),?_⟩;refine U rfl ⟨_,"tuple",_,true,rfl,.inr ⟨b,U rfl ⟨c,rfl⟩⟩,cY (by decide+kernel),true,rfl,bq ?_⟩;refine U rfl ⟨_,2,rfl,.inr ⟨_,c,rfl⟩,rfl,U rfl (bq ?_)⟩;refine U rfl (rX c rfl ⟨V.str m.1,rfl,.inl ⟨m.1,rfl,h1,λi f=>(U rfl (bq ?_))⟩⟩);exact U rfl (rX (ak.tseq f c) rfl ⟨m.2,rfl,h2,q i f⟩)
def wD(T:Txt K mg a):aO P w K mg base cZ 4 a.iD.x a.iD.d ["thing"] (Fd K):=by
 refine T.iD.ok wx λW A outer s H g Q E X h=>?_
 ·obtain⟨v,l,rfl,Z,h1,h2,h3,q⟩:=h;obtain⟨p,g,rfl,j,B,y⟩:=Z;refine⟨_,(ag (aM (PW.pt (gc (cB (aP K rfl (aB (cK K rfl) (by rfl) T.a9 L2.aR (ac (Y 0) (ac (ie rfl T.df L2.bE) O))) (λ_=>rfl))) (eB (aD qL (aB (aI K rfl) (by rfl) T.bD L2.aL (ac (Y 0) O)) (cu T.w4 rfl) (aE _))))) (ah (az gi)) aC) (ag (aM (cB (aP K rfl (aB (iC K rfl rfl) (by rfl) T.vA L2.kc (ac (qj ["thing"] ["mark"] [] [1] (ai jb) (bO 1) (dw K rfl (Y 0)) (λcl C s₀ H₀ ex=>⟨(mG ["thing"] ["mark"] 1),bJ,(pc T.mB (zf T) X (ac (Y 1) O))⟩)) O)) (λ_=>rfl))) (ah (az gi)) aC) (ah (az (bR aQ (aB (ub (P:=P) (w:=w)) (by rfl) T.bD L2.aL (ac (bx (t9 (P:=P) (w:=w) K rfl rfl) (by rfl) T.Dn L2.ue (ac (qj ["thing"] ["mark"] [] [1] (ai jb) (bO 1) (dw K rfl (Y 0)) (λcl C s₀ H₀ ex=>⟨(mG ["thing"] ["mark"] 1),bJ,(cC K (Y 1) ae)⟩)) O)) O)) (aB (aI K rfl) (by rfl) T.bD L2.aL (ac (Y 0) O)) (aE _)))))),?_⟩
  refine U rfl ⟨_,"tuple",_,true,rfl,.inr ⟨p,U rfl ⟨j,rfl⟩⟩,cY (by decide+kernel),true,rfl,bU ?_⟩;refine U rfl ⟨_,g.length,rfl,.inr ⟨_,j,rfl⟩,_,U rfl ⟨rfl,U rfl (lS (λh=>absurd h (by lia)) (λ_=>?_))⟩⟩;refine U rfl ⟨p,rfl,⟨_,j⟩,λD L=>?_⟩;refine cJ (K:=K) (a:=p) (xs:=g) (λi c H'=>c=(List.replicate i true).map V.bl/\ak H H'/\H' D=some (.lst c)) ⟨rfl,aj (ak.refl _) L,af⟩ (λi c H' _ h=>ak.tseq h.2.1 j) ?_ ?_
  ·rintro i v c M k⟨rfl,n,r⟩;have hi:i<g.length:=(d_.mp k).1;have e:l[i]?=some (l[i]'(by lia)):=fy (by lia);generalize l[i]'(by lia)=m at e;obtain⟨b,F,G⟩:=y i m e;rw[F]at k;cases k;have hm:=h1 m (ga e);refine aq (gU (bq (U rfl ⟨b,m,rfl,ak.tseq n G,hm.1,hm.2,λI t=>⟨t _ _ r,jF i (by lia),lf hi ⟨iF i,bC (n.trans t) L,af⟩⟩⟩)))
  ·rintro c M⟨rfl,n,r⟩;refine⟨D,_,rfl,aW.of r,_,rfl,?_⟩;rw[jG];refine bU (U rfl ⟨p,rfl,⟨_,ak.tseq n j⟩,λN z=>?_⟩);refine cJ (K:=K) (a:=p) (xs:=g) (λi c H'=>c=((l.take i).map Prod.fst).map V.str/\ak M H'/\H' N=some (.lst c)) ⟨by rw[oi];rfl,aj (ak.refl _) z,af⟩ (λi c H' _ h=>ak.tseq (n.trans h.2.1) j) ?_ ?_
   ·rintro i v c I k⟨rfl,t,f⟩;have hi:i<g.length:=(d_.mp k).1;have e:l[i]?=some (l[i]'(by lia)):=fy (by lia);generalize l[i]'(by lia)=m at e;obtain⟨b,F,G⟩:=y i m e;rw[F]at k;cases k;refine aq (gU (bq (U rfl (rX (ak.tseq (n.trans t) G) rfl ⟨f,?_,lf hi ⟨?_,bC t z,af⟩⟩))))
    ·rw[b_,b_,i_,gg];lia
    ·rw[lx e,g6];rfl
   ·rintro c I⟨rfl,t,f⟩;rw[g_ (by lia),<-vF]at f;have u:=yq h2;rw[b_]at u;refine⟨N,(l.map Prod.fst).map Sum.inr,rfl,aW.of f,by rw[b_,b_];lia,λR J=>?_⟩;refine⟨R,U rfl ⟨af,by rw[u];omega,?_⟩⟩;have S:∀o,ak H (aG I R o):=λo=>aj (n.trans t) J;refine U rfl ⟨_,g.length,rfl,.inr ⟨_,ak.tseq (S _) j,rfl⟩,rfl,?_⟩;rw[u,<-B,j1 rfl];exact q _ (S _)
def uN(T:Txt K mg a):aO P w K mg base cZ 3 a.gI.x a.gI.d ["thing","many"] (Co K):=by
 refine T.gI.ok uB λk A outer s H t Q E m h=>?_
 ·obtain⟨p,l,rfl,e,h1,h2,q⟩:=h;refine⟨_,(ah (az (cw (aB (cK K rfl) (by rfl) T.a9 L2.aR (ac (Y 0) (ac (ie rfl T.df L2.bE) O))) (cw (bR aQ (aB (aI K rfl) (by rfl) T.bD L2.aL (ac (Y 0) O)) (Y 1) (aE _)) (dk (aB (iC K rfl rfl) (by rfl) T.vA L2.kc (ac (qj iw ["number"] [] [2] (ai kB) (bO 2) (dw K rfl (Y 0)) (λcl C s₀ H₀ ex=>⟨(mG iw ["number"] 2),bJ,(pc T.ft (gW T) m (ac (Y 2) O))⟩)) O))))))),?_⟩
  refine U rfl ⟨_,"tuple",_,true,rfl,.inr ⟨p,U rfl ⟨e,rfl⟩⟩,cY (by decide+kernel),true,rfl,bq ?_⟩;refine U rfl ⟨_,l.length,rfl,.inr ⟨_,e,by simp⟩,U rfl ⟨rfl,U rfl ?_⟩⟩;rw[j1 rfl];refine bq (U rfl ⟨p,rfl,⟨_,e⟩,λD g=>?_⟩);refine cJ (K:=K) (a:=p) (xs:=l.map V.int) (λi b H'=>b=(List.replicate i true).map V.bl/\ak H H'/\H' D=some (.lst b)) ⟨rfl,aj (ak.refl _) g,af⟩ (λi b H' _ h=>ak.tseq h.2.1 e) ?_ ?_
  ·rintro i v b n j⟨rfl,f,c⟩;have hi:=(d_.mp j).1;obtain⟨z,_,rfl,o⟩:=wI j;have r:i<l.length:=by simpa using hi
   exact aq (gU (bq (U rfl ⟨z,rfl,h1 z o,c,jF i (by lia),lf hi ⟨iF i,bC f g,af⟩⟩)))
  ·rintro b n⟨rfl,f,c⟩;refine⟨D,_,rfl,aW.of c,?_⟩;rw[jG];exact q _ f
def tM(T:Txt K mg a):aO P w K mg base cZ 3 a.fW.x a.fW.d ["thing","many"] (AW K):=by
 refine T.fW.ok sM λk A outer s H t Q E m h=>?_
 ·obtain⟨p,l,rfl,e,h1,h2,q⟩:=h;refine⟨_,(ah (az (cw (aB (cK K rfl) (by rfl) T.a9 L2.aR (ac (Y 0) (ac (ie rfl T.df L2.bE) O))) (cw (bR aQ (aB (aI K rfl) (by rfl) T.bD L2.aL (ac (Y 0) O)) (Y 1) (aE _)) (dk (aB (iC K rfl rfl) (by rfl) T.vA L2.kc (ac (qj ng ["number"] [] [2] (ai jv) (bO 2) (dw K rfl (Y 0)) (λcl C s₀ H₀ ex=>⟨(mG iw ["number"] 2),bJ,(pc T.iz (wB T) m (ac (Y 2) O))⟩)) O))))))),?_⟩
  refine U rfl ⟨_,"tuple",_,true,rfl,.inr ⟨p,U rfl ⟨e,rfl⟩⟩,cY (by decide+kernel),true,rfl,bq ?_⟩;refine U rfl ⟨_,l.length,rfl,.inr ⟨_,e,by simp⟩,U rfl ⟨rfl,U rfl ?_⟩⟩;rw[j1 rfl];refine bq (U rfl ⟨p,rfl,⟨_,e⟩,λD g=>?_⟩);refine cJ (K:=K) (a:=p) (xs:=l.map V.int) (λi b H'=>b=(List.replicate i true).map V.bl/\ak H H'/\H' D=some (.lst b)) ⟨rfl,aj (ak.refl _) g,af⟩ (λi b H' _ h=>ak.tseq h.2.1 e) ?_ ?_
  ·rintro i v b n j⟨rfl,f,c⟩;have hi:=(d_.mp j).1;obtain⟨z,_,rfl,o⟩:=wI j;have r:i<l.length:=by simpa using hi
   exact aq (gU (bq (U rfl ⟨z,rfl,h1 z o,c,jF i (by lia),lf hi ⟨iF i,bC f g,af⟩⟩)))
  ·rintro b n⟨rfl,f,c⟩;refine⟨D,_,rfl,aW.of c,?_⟩;rw[jG];exact q _ f
def x8(T:Txt K mg a):aO P w K mg base cZ 3 a.kd.x a.kd.d ["thing"] (HE K):=by
 refine T.kd.ok xE λB A outer s H J Q E F h=>?_
 ·obtain⟨p,l,rfl,e,h1,h2,h3,h4,q⟩:=h;refine⟨_,(ag (aM (PW.pt (gc (cB (aP K rfl (aB (cK K rfl) (by rfl) T.a9 L2.aR (ac (Y 0) (ac (ie rfl T.df L2.bE) O))) (λ_=>rfl))) (eB (cB (xL jg jg ae (aB (aI K rfl) (by rfl) T.bD L2.aL (ac (Y 0) O)) (cu T.yI rfl)))))) (ah (az gi)) aC) (ah (az (cw (aB (iC K rfl rfl) (by rfl) T.vA L2.kc (ac (qj ["thing"] ["arm"] [] [1] (ai ny) (bO 1) (dw K rfl (Y 0)) (λcl C s₀ H₀ ex=>⟨(mG ["thing"] ["arm"] 1),bJ,(pc T.et (iM T) F (ac (Y 1) O))⟩)) O)) (dk (bR aQ (aB (ub (P:=P) (w:=w)) (by rfl) T.bD L2.aL (ac (bx (zI (P:=P) (w:=w) K rfl rfl) (by rfl) T.Dn L2.ue (ac (Y 0) O)) O)) (aB (aI K rfl) (by rfl) T.bD L2.aL (ac (Y 0) O)) (aE _))))))),?_⟩
  refine U rfl ⟨_,"tuple",_,true,rfl,.inr ⟨p,U rfl ⟨e,rfl⟩⟩,cY (by decide+kernel),true,rfl,bU ?_⟩;have f:l.length=(l.map V.str).length:=by simp
  refine U rfl ⟨_,l.length,rfl,.inr ⟨_,e,f⟩,_,U rfl ⟨rfl,U rfl (lS (λ_=>?_) (λh=>absurd (by lia) h))⟩⟩;refine r2 (U rfl ?_);show if(!decide ((l.length:Int)<=4))=true then _ else _
  rw[j1 (show(l.length:Int)<=4 by lia)];refine bU ?_;refine U rfl ⟨p,rfl,⟨_,e⟩,λD m=>?_⟩;refine cJ (K:=K) (a:=p) (xs:=l.map V.str) (λi b H'=>b=(List.replicate i true).map V.bl/\ak H H'/\H' D=some (.lst b)) ⟨rfl,aj (ak.refl _) m,af⟩ (λi b H' _ h=>ak.tseq h.2.1 e) ?_ ?_
  ·rintro i v b n r⟨rfl,j,c⟩;have hi:=(d_.mp r).1;obtain⟨z,_,rfl,G⟩:=wI r;have I:i<l.length:=by simpa using hi
   exact aq (gU (bq (U rfl ⟨V.str z,rfl,.inl ⟨z,rfl,h1 z G,λM t=>⟨t _ _ c,jF i (by omega),lf hi ⟨iF i,bC (j.trans t) m,af⟩⟩⟩⟩)))
  ·rintro b n⟨rfl,j,c⟩;refine⟨D,_,rfl,aW.of c,_,rfl,?_⟩;rw[jG];have g:=yq h2;refine bq (U rfl ⟨p,l.map Sum.inr,rfl,by rw[vF];exact ak.tseq j e,by rw[b_];lia,λu k=>?_⟩);refine⟨u,U rfl ⟨af,by rw[g];omega,?_⟩⟩;have y:∀o,ak H (aG n u o):=λo=>aj j k;refine U rfl ⟨_,l.length,rfl,.inr ⟨_,ak.tseq (y _) e,f⟩,rfl,?_⟩;rw[g,j1 rfl];exact q _ (y _)
end
def gN{A B:Prop}{x y:Str}(h:x≠y)(b:B):if decide (V.str x=V.str y)=true then A else B:=DT (λe=>absurd e h) (λ_=>b)
def bG{A B:Prop}{x:Str}(a:A):if decide (V.str x=V.str x)=true then A else B:=DT (λ_=>a) (λh=>absurd rfl h)
def wn{A B:Prop}{x y:Str}(b:B)(h:x≠y:=by first|decide+kernel|(dsimp only[Ru.kind];decide+kernel)):if decide (V.str x=V.str y)=true then A else B:=gN h b
abbrev iR(K:MP)(H:Hp):List Ru->List V->Prop:=Paired (dP K H)
theorem iR.kp(e:Kp H H')(h:iR K H c d):iR K H' c d:=Paired.mapP h λ_ _ q=>q.kp e
def iR.app(h:iR K H c d)(k:iR K H e f):iR K H (c++e) (d++f):=CV h k
def iR.get(h:iR K H c d)(i:Nat)(v:V)(e:d[i]?=some v):∃r,c[i]?=some r/\dP K H r v:=wA h i v e
def Ru.kids:Ru->List Ru|.not q=>[q]|.both q r=>[q,r]|.either q r=>[q,r]|_=>[]
def Ru.kind:Ru->Str|.any=>"any"|.has _=>"has"|.least _ _=>"least"|.not _=>"not"|.both _ _=>"both"|.either _ _=>"either"
def Ru.deep:Ru->Bool|.not _=>true|.both _ _=>true|.either _ _=>true|_=>false
def Ru.subs_kids(r:Ru):r.subs=r::(r.kids.map Ru.subs).flatten:=by cases r<;>simp[Ru.subs,Ru.kids]
def dP.tup(h:dP K H r v):∃t c,v=.ref t/\aX K H t (.str r.kind::c)/\(r.deep=true->iR K H r.kids c/\c≠[])/\(∀w,r.word1=some w->∃d,c=.str w::d):=by cases h with|any h=>exact⟨_,_,rfl,h,λe=>(nomatch e),λw e=>(nomatch e)⟩|has h=>exact⟨_,_,rfl,h,λe=>(nomatch e),λw e=>by cases e;exact⟨_,rfl⟩⟩|least h=>exact⟨_,_,rfl,h,λe=>(nomatch e),λw e=>by cases e;exact⟨_,rfl⟩⟩|not h q=>exact⟨_,U rfl ⟨h,λ_=>⟨.cons q .nil,nofun⟩,λw e=>(nomatch e)⟩⟩|both h q r=>exact⟨_,U rfl ⟨h,λ_=>⟨.cons q (.cons r .nil),nofun⟩,λw e=>(nomatch e)⟩⟩|either h q r=>exact⟨_,U rfl ⟨h,λ_=>⟨.cons q (.cons r .nil),nofun⟩,λw e=>(nomatch e)⟩⟩
def Gc(r:Ru):nI (.str r.kind) [.str "not",.str "both",.str "either"]=r.deep:=by cases r with|any=>exact(show nI (.str "any") [.str "not",.str "both",.str "either"]=false by decide+kernel)|has _=>exact(show nI (.str "has") [.str "not",.str "both",.str "either"]=false by decide+kernel)|least _ _=>exact(show nI (.str "least") [.str "not",.str "both",.str "either"]=false by decide+kernel)|not _=>exact(show nI (.str "not") [.str "not",.str "both",.str "either"]=true by decide+kernel)|both _ _=>exact(show nI (.str "both") [.str "not",.str "both",.str "either"]=true by decide+kernel)|either _ _=>exact(show nI (.str "either") [.str "not",.str "both",.str "either"]=true by decide+kernel)
def Gb(r:Ru):nI (.str r.kind) [.str "has",.str "least"]=r.word1.isSome:=by cases r with|any=>exact(show nI (.str "any") [.str "has",.str "least"]=false by decide+kernel)|has _=>exact(show nI (.str "has") [.str "has",.str "least"]=true by decide+kernel)|least _ _=>exact(show nI (.str "least") [.str "has",.str "least"]=true by decide+kernel)|not _=>exact(show nI (.str "not") [.str "has",.str "least"]=false by decide+kernel)|both _ _=>exact(show nI (.str "both") [.str "has",.str "least"]=false by decide+kernel)|either _ _=>exact(show nI (.str "either") [.str "has",.str "least"]=false by decide+kernel)
def F5{r k:Ru}{n:Nat}(h:k∈r.kids)(hh:r.hgt<=n+1):k.hgt<=n:=by
 cases r with|any=>cases h|has _=>cases h|least _ _=>cases h|not q=>
  have:k=q:=by simpa[Ru.kids]using h
  have hh:q.hgt+1<=n+1:=hh;rw[this];lia|both q r=>
  have:k=q\/k=r:=by simpa[Ru.kids]using h
  have hh:max q.hgt r.hgt+1<=n+1:=hh;have h1:=G_ q.hgt r.hgt;have h2:=D_ q.hgt r.hgt;rcases this with rfl|rfl<;>lia|either q r=>
  have:k=q\/k=r:=by simpa[Ru.kids]using h
  have hh:max q.hgt r.hgt+1<=n+1:=hh;have h1:=G_ q.hgt r.hgt;have h2:=D_ q.hgt r.hgt;rcases this with rfl|rfl<;>lia
def Eh(x:V)(c:List V):HT.fi (x::c).length 0 (some 1)=1:=by show(if(1:Int)<0 then((1:Int)+((x::c).length:Int)).toNat else min (1:Int).toNat (c.length+1))=1;rw[g8 (by decide)];show min 1 (c.length+1)=1;lia
def Gm(x:V)(c:List V):¬HT.fi (x::c).length 0 (some 1)=0:=by rw[Eh];decide
def Eg(x:V)(c:List V):lc (x::c) (some 1) none=c:=by unfold lc;rw[Eh,HT.CK];show c.take ((c.length+1)-1)=c;rw[Nat.add_sub_cancel,g_ (fx _)]
inductive Ca(K:MP)(h:Nat)(vs:List V)(H:Hp)(Q:VK)(_E:XK):Prop|mk(r:Ru)(rv:V)(_:vs=[rv])(_:dP K H r rv)(_:r.hgt<=h)(_:h<=6)(_:∀(l:Addr)(us:List V)(H':Hp),ak H H'->H l=none->H' l=some (.lst us)->iR K H' r.subs us->Q (.ref l) H')
section
theorem jx(T:Txt K mg a):∀h:Nat,aO P w K mg base cZ (h+1) a.bQ.x a.bQ.d ["rule"] (Ca K h)
 |0=>by
  refine T.bQ.f.ok gQ (λe H Q E h=>?_) (λZ A outer s H e Q E hr h=>?_)
  ·obtain⟨r,rv,rfl,_⟩:=h;rfl
  ·obtain⟨r,rv,rfl,_,hh,_⟩:=h;have:=r.hgt_pos;lia|n+1=>by
  have ih:=jx T n;refine T.bQ.f.ok gQ (λe H Q E h=>?_) (λZ A outer s H e Q E hr h=>?_)
  ·obtain⟨r,rv,rfl,_⟩:=h;rfl
  ·obtain⟨r,rv,rfl,hR,hh,h6,q⟩:=h;obtain⟨t,e,rfl,hT,v,_⟩:=hR.tup;refine⟨_,(ag (bd 1 gQ.nd (a0 (ac (Y 0) O))) (ag (aM (aD (nA K rfl) (cC K (Y 0) ae) (cf (ac ay (ac ay (ac ay O)))) (by with_unfolding_all rfl)) (ah (eC mo rfl (dw K rfl (cH (ko K rfl) (Y 0) (dG ae) dH)) (tz 2 gQ.nd) (ah (aV (cI K rfl PySem.F.plainAttrs_list PySem.F.slot_list_extend PySem.F.type_list_extend vB (Y 1) (ac (bv ih hr rfl T.bQ.m T.bQ.f.kp T.bQ.b .nil be (ac (Y 2) O)) O)))))) aC) (ah (az (Y 1))))),?_⟩
   refine U rfl ⟨ls rfl,λl R=>?_⟩;have s0:=aj (o:=.lst [.ref t]) (ak.refl H) R;have y:aG H l (.lst [.ref t]) l=some (.lst [.ref t]):=af
   try dsimp only
   generalize aG H l (.lst [.ref t])=H0 at s0 y⊢;refine U rfl (rX (ak.tseq s0 hT) (am (k:=0) rfl) ⟨ls rfl,λt3 G=>?_⟩);have I:=aj (o:=.tup [.str "not",.str "both",.str "either"]) s0 G;have j:aG H0 t3 (.tup [.str "not",.str "both",.str "either"]) l=some (.lst [.ref t]):=by rw[ao (aH y G)];exact y
   refine⟨t3,U rfl ⟨.inr (aX.of af),rfl,rfl,U rfl ?_⟩⟩;show if nI (.str r.kind) [.str "not",.str "both",.str "either"]=true then _ else _
   rw[Gc]
   try dsimp only
   generalize aG H0 t3 (.tup [.str "not",.str "both",.str "either"])=S at I j⊢;cases hd:r.deep with
 |false=>
    refine bU (U rfl ?_);have hs:r.subs=[r]:=by cases r<;>first|rfl|cases hd
    exact q l [.ref t] S I R j (by rw[hs];exact .cons (hR.kp (.of I)) .nil)|true=>
    obtain⟨hK,ap⟩:=v hd;refine bq ?_;refine U rfl (U rfl ?_);have hc:=r.cnt_lt;have as:2^r.hgt<=2^6:=oD (by decide) (by lia);have aa:e.length=r.kids.length:=(Paired.length hK).symm;have J:∀(i:Nat)(k:Ru),r.kids[i]?=some k->k.hgt<=n:=λi k V=>F5 (ga V) hh;refine⟨t,U rfl ⟨ak.tseq I hT,λz=>absurd z.1 (Gm _ _),λp hp=>?_⟩⟩;rw[Eg];have s2:=aj (o:=.tup e) I hp;have L:aG S p (.tup e) l=some (.lst [.ref t]):=by rw[ao (aH j hp)];exact j
    have B:aG S p (.tup e) p=some (.tup e):=af
    try dsimp only
    generalize aG S p (.tup e)=H2 at s2 L B⊢;refine⟨p,rfl,⟨_,aX.of B⟩,wR (xs:=e) (D:={nx:=Ju (Hf 1) {nx:=λ_ H'=>Q .non H',rt:=Q},rt:=Q}) (λi W H'=>ak H H'/\H' p=some (.tup e)/\(∃C,H' l=some (.lst C)/\iR K H' (r::((r.kids.take i).map Ru.subs).flatten) C)/\∃v2,W=[some (.ref t),some (.ref l),v2]) ⟨s2,B,⟨[.ref t],L,.cons (hR.kp (.of s2)) .nil⟩,_,rfl⟩ (λi W H' _ h=>aX.of h.2.1) ?_ ?_⟩
    ·rintro i x W H3 hx⟨X,u,⟨C,c,g⟩,v2,rfl⟩;obtain⟨k,V,ad⟩:=iR.get hK i x hx;refine aq (U rfl ⟨.inl ⟨rfl,_,aW.of c⟩,U rfl ⟨k,x,rfl,ad.kp (.of X),J i k V,by lia,λl' al H4 M av an N=>?_⟩⟩);have e1:((r.kids.take (i+1)).map Ru.subs).flatten=((r.kids.take i).map Ru.subs).flatten++k.subs:=by rw[qr,V,g6,List.flatten_append];simp
     have n1:=Paired.length g;have n2:=Paired.length N;have n3:(((r.kids.take i).map Ru.subs).flatten).length+k.subs.length<=64:=by
      have e2:r.subs.length=1+((r.kids.map Ru.subs).flatten).length:=by rw[r.subs_kids,il];lia
      have e3:((r.kids.map Ru.subs).flatten).length=(((r.kids.take (i+1)).map Ru.subs).flatten).length+(((r.kids.drop (i+1)).map Ru.subs).flatten).length:=by rw[<-gV,<-List.flatten_append,<-g6,r_]
      rw[e1,gV]at e3;unfold Ru.cnt at hc;lia
     rw[il]at n1;refine⟨l,l',_,U rfl ⟨rfl,M _ _ c,an,by rw[gg];lia,?_⟩⟩;have kq:Kp H4 (aG H4 l (.lst (C++al))):=.lst (M _ _ c);refine⟨bC (X.trans M) R,?_,⟨_,af,?_⟩,_,rfl⟩
     ·rw[ao (λz=>by rw[z,c]at u;cases u)];exact M _ _ u
     ·rw[e1,<-MF];exact iR.app ((g.kp (.of M)).kp kq) (N.kp kq)
    ·rintro W H3⟨X,u,⟨C,c,g⟩,v2,rfl⟩;refine U rfl (q l C H3 X R c ?_);rw[r.subs_kids];rw[aa,g_ (fx _)]at g;exact g
end
def IJ[DecidableEq g][BEq g][LawfulBEq g][DecidableEq h][BEq h][LawfulBEq h](f:g->h)(i:∀a b,f a=f b->a=b)(d:List g):dd (d.map f)=(dd d).map f:=by
 have gen:∀(d c:List g),(d.map f).foldl PyProof.Rows.step_dedup (c.map f)=(d.foldl PyProof.Rows.step_dedup c).map f:=by
  intro d
  induction d with|nil=>intro c;rfl|cons k r j=>
   intro c;rw[lh,rk,rk,<-j]
   congr 1
   unfold PyProof.Rows.step_dedup;have e:(c.map f).any (λy=>y==f k)=c.any (λy=>y==k):=by
    rw[List.any_map]
    congr 1
    funext y
    show(f y==f k)=(y==k)
    by_cases q:y=k
    ·rw[q,C2,C2]
    ·rw[beq_false_of_ne q,beq_false_of_ne (λz=>q (i _ _ z))]
   by_cases q:c.any (λy=>y==k)=true
   ·rw[hQ (e.trans q),hQ q]
   ·rw[g8 (λz=>q (e.symm.trans z)),g8 q,g6];rfl
 exact gen d []
def Ru.wset(r:Ru):List Str:=dd r.words
def Ru.wset_keys(r:Ru):dd (r.words.map (Sum.inr:Str->cb))=r.wset.map Sum.inr:=IJ Sum.inr (λ_ _ h=>qc h) r.words
def Ru.wset_le(r:Ru):r.wset.length<=r.cnt:=by have h1:=qf r.words [];have h2:=r.words_le;unfold Ru.wset dd;simp at h1;lia
inductive EX(K:MP)(vs:List V)(H:Hp)(Q:VK)(_E:XK):Prop|mk(r:Ru)(rv:V)(_:vs=[rv])(_:dP K H r rv)(_:r.hgt<=6)(_:∀(l:Addr)(ss:MV)(H':Hp),ak H H'->H l=none->H' l=some (.lst (ss.map V.str))->ss.Perm r.wset->ss.Pairwise mF->Q (.ref l) H')
section
def xV(T:Txt K mg a):aO P w K mg base cZ 8 a.jE.x a.jE.d ["rule"] (EX K):=by
 refine T.jE.ok xx λaa A outer s H vs Q E hr h=>?_
 ·obtain⟨r,rv,rfl,hR,hh,q⟩:=h;refine⟨_,(ah (az (aB (wU (P:=P) (w:=w) rfl) (by rfl) T.yf L2.qW (ac (bx (t9 (P:=P) (w:=w) K rfl rfl) (by rfl) T.Dn L2.ue (ac (qj ["rule"] ["inner"] [] [1] (ai nr) (bO 1) (fj K rfl (bv ((jx T 6).mono (by decide)) hr rfl T.bQ.m T.bQ.f.kp T.bQ.b .nil be (ac (Y 0) O))) (λcl C s₀ H₀ ex=>⟨(mG ["rule"] ["inner"] 1),(wy (aD (nA K rfl) (cC K (Y 1) ae) (cf (ac ay (ac ay O))) (by with_unfolding_all rfl))),(cC K (Y 1) ae)⟩)) O)) O)))),?_⟩
  refine U rfl ⟨r,rv,rfl,hR,hh,fx _,λl F H1 M hl u y=>?_⟩;have hc:=r.cnt_lt;have ad:2^r.hgt<=2^6:=oD (by decide) (by lia);have G:F.length=r.subs.length:=(Paired.length y).symm;have al:r.subs.length<64:=by unfold Ru.cnt at hc;lia
  refine⟨l,rfl,⟨_,aW.of u⟩,λD N=>?_⟩;refine j9 (K:=K) (a:=l) (xs:=F) (λi e H'=>e=((r.subs.take i).filterMap Ru.word1).map V.str/\ak H1 H'/\H' D=some (.lst e)) ⟨by rw[oi];rfl,aj (ak.refl _) N,af⟩ (λi e H' _ h=>aW.of (h.2.1 _ _ u)) ?_ ?_
  ·rintro i v e B R⟨rfl,p,c⟩;have hi:i<F.length:=(d_.mp R).1;obtain⟨k,hk,I⟩:=iR.get y i v R;obtain⟨t,vs,rfl,S,_,hw⟩:=(I.kp (.of p)).tup;refine aq (U rfl (rX S (am (k:=0) rfl) ⟨ls rfl,λW J=>?_⟩));have g:=aj (o:=.tup [.str "has",.str "least"]) (ak.refl B) J;refine⟨W,U rfl ⟨.inr (aX.of af),rfl,rfl,U rfl ?_⟩⟩;show if nI (.str k.kind) [.str "has",.str "least"]=true then _ else _
   rw[Gb]
   try dsimp only
   generalize aG B W (.tup [.str "has",.str "least"])=H3 at g⊢;have X:(r.subs.take (i+1)).filterMap Ru.word1=(r.subs.take i).filterMap Ru.word1++k.word1.toList:=by
    rw[qr,hk,Mj]
    congr 1
   have fl:((r.subs.take i).filterMap Ru.word1).length<=i:=ku (List.length_filterMap_le _ _) (List.length_take_le _ _);cases j:k.word1 with|none=>refine bU (lf hi ⟨?_,p.trans g,g _ _ c⟩);rw[X,j];simp|some wd=>
    obtain⟨an,rfl⟩:=hw wd j;refine bq (U rfl (rX (ak.tseq g S) (am (k:=1) rfl) ⟨g _ _ c,?_,lf hi ⟨?_,bC (p.trans g) N,af⟩⟩))
    ·rw[b_,gg];lia
    ·rw[X,j,g6];rfl
  ·rintro e B⟨rfl,p,c⟩;rw[G,g_ (fx _),r.words_subs]at c;have wl:=r.words_le;have ap:=r.wset_le;have c:B D=some (.lst ((r.words.map (Sum.inr:Str->cb)).map kV)):=by rw[ri];exact c
   refine⟨D,r.words.map Sum.inr,rfl,aW.of c,by rw[b_];lia,λZ L=>?_⟩;rw[r.wset_keys];have g:=aj (o:=wk P w Z (r.wset.map Sum.inr)) (ak.refl B) L;refine⟨Z,r.wset,rfl,af,by lia,λq2 ss n hp hs=>?_⟩;have s4:=aj (o:=.lst (ss.map V.str)) g n;exact q q2 ss _ ((M.trans p).trans s4) (by cases z:H q2 with|none=>rfl|some o=>rw[((M.trans p).trans g) _ _ z]at n;cases n) af hp hs
end
theorem Dl[BEq c][LawfulBEq c]:∀{l m:List c},l.Nodup->(∀x∈l,x∈m)->l.length<=m.length
 |[],m,_,_=>kw _|a::l,m,h,g=>by
  obtain⟨h1,h2⟩:=ML.mp h;have p:=List.perm_cons_erase (g a ir);have:=Dl (m:=m.erase a) h2 λx b=>by
   rcases o_.mp (p.mem_iff.mp (g x (hY _ b)))with rfl|q
   ·exact absurd b h1
   ·exact q
  have e:=p.length_eq;rw[il]at e⊢;lia
theorem Ef[DecidableEq d][BEq d][LawfulBEq d]:∀(f c:List d)(x:d),x∈f.foldl PyProof.Rows.step_dedup c↔x∈c\/x∈f
 |[],c,x=>by simp|k::r,c,x=>by
  rw[rk,Ef r];unfold PyProof.Rows.step_dedup
  by_cases e:c.any (λy=>y==k)=true
  ·rw[hQ e];obtain⟨y,b,q⟩:=MG.mp e;have g:k∈c:=by rw[<-eq_of_beq q];exact b
   constructor
   ·rintro(h|h)
    ·exact .inl h
    ·exact .inr (hY _ h)
   ·rintro(h|h)
    ·exact .inl h
    ·rcases o_.mp h with rfl|h
     ·exact .inl g
     ·exact .inr h
  ·rw[g8 e];simp only[List.mem_append,List.mem_singleton,o_,or_assoc,nn,false_or]
def II{c:Type}[DecidableEq c][BEq c][LawfulBEq c]{d:List c}{x:c}(h:x∈dd d):x∈d:=by
 rcases(Ef d [] x).mp h with h|h
 ·cases h
 ·exact h
theorem G1[DecidableEq d][BEq d][LawfulBEq d]:∀(f c:List d),c.Nodup->(f.foldl PyProof.Rows.step_dedup c).Nodup
 |[],c,h=>h|k::r,c,h=>by
  rw[rk];refine G1 r _ ?_;unfold PyProof.Rows.step_dedup
  by_cases e:c.any (λy=>y==k)=true
  ·rw[hQ e];exact h
  ·rw[g8 e,ov];refine⟨h,by simp,λa g b i=>?_⟩;rw[List.mem_singleton.mp i];rintro rfl;exact e (MG.mpr ⟨a,g,C2 a⟩)
inductive Fh(K:MP)(n:Nat)(vs:List V)(H:Hp)(Q:VK)(_E:XK):Prop|mk(r:Ru)(rv:V)(ws:MV)(_:vs=[rv,.int (n:Nat)])(_:dP K H r rv)(_:r.hgt<=n)(_:iS ws r)(_:(∀w∈ws,Wd w))(_:∀H',ak H H'->Q (.bl true) H')
def DK{a b n:Nat}(h:max a b+1<=n+1):a<=n/\b<=n:=by have h1:=G_ a b;have h2:=D_ a b;lia
section
theorem qM(T:Txt K mg a):∀n:Nat,aO P w K mg base cZ (n+3) a.ca.x a.ca.d ["thing","depth"] (Fh K n)
 |0=>by
  refine T.ca.f.ok lA (λz H Q E h=>?_) (λC A outer s H z Q E j h=>?_)
  ·obtain⟨r,D,e,rfl,_⟩:=h;rfl
  ·obtain⟨r,D,e,rfl,_,hh,_⟩:=h;have:=r.hgt_pos;lia|n+1=>by
  have F:=qM T n;refine T.ca.f.ok lA (λz H Q E h=>?_) (λC A outer s H z Q E j h=>?_)
  ·obtain⟨r,D,e,rfl,_⟩:=h;rfl
  ·obtain⟨r,D,e,rfl,R,hh,o,l,q⟩:=h;refine⟨_,(ag (aM (PW.pt (gc (aD aQ (Y 1) ae (aE _)) (gc (cB (aP K rfl (aB (cK K rfl) (by rfl) T.a9 L2.aR (ac (Y 0) (ac (ie rfl T.df L2.bE) O))) (λ_=>rfl))) (eB (aD aQ (aB (aI K rfl) (by rfl) T.bD L2.aL (ac (Y 0) O)) ae (aE _)))))) (ah (az gi)) aC) (ag (bd 2 lA.nd (cC K (Y 0) ae)) (ag (aM (aD aQ (Y 2) ay (aE _)) (ah (az (bR aQ (aB (aI K rfl) (by rfl) T.bD L2.aL (ac (Y 0) O)) ae (aE _)))) aC) (ag (aM (aD aQ (Y 2) ay (aE _)) (ah (az (cw (bR aQ (aB (aI K rfl) (by rfl) T.bD L2.aL (ac (Y 0) O)) ae (aE _)) (dk (bv ((iM T).mono (by first|decide|omega)) j rfl T.et.m T.et.f.kp T.et.b .nil be (ac (cC K (Y 0) ae) O)))))) aC) (ag (aM (aD aQ (Y 2) ay (aE _)) (ah (az (cw (bR aQ (aB (aI K rfl) (by rfl) T.bD L2.aL (ac (Y 0) O)) ae (aE _)) (cw (bv ((iM T).mono (by first|decide|omega)) j rfl T.et.m T.et.f.kp T.et.b .nil be (ac (cC K (Y 0) ae) O)) (dk (bv ((oI T).mono (by first|decide|omega)) j rfl T.eT.m T.eT.f.kp T.eT.b .nil be (ac (cC K (Y 0) ae) O))))))) aC) (ag (aM (aD aQ (Y 2) ay (aE _)) (ah (az (cw (bR aQ (aB (aI K rfl) (by rfl) T.bD L2.aL (ac (Y 0) O)) ae (aE _)) (dk (bv F j rfl T.ca.m T.ca.f.kp T.ca.b .nil be (ac (cC K (Y 0) ae) (ac (au fE (Y 1) ae) O))))))) aC) (ag (aM (PW.pt (gc (aD aQ (Y 2) ay (aE _)) (eB (aD aQ (Y 2) ay (aE _))))) (ah (az (cw (bR aQ (aB (aI K rfl) (by rfl) T.bD L2.aL (ac (Y 0) O)) ae (aE _)) (cw (bv F j rfl T.ca.m T.ca.f.kp T.ca.b .nil be (ac (cC K (Y 0) ae) (ac (au fE (Y 1) ae) O))) (dk (bv F j rfl T.ca.m T.ca.f.kp T.ca.b .nil be (ac (cC K (Y 0) ae) (ac (au fE (Y 1) ae) O)))))))) aC) (ah (az gi))))))))),?_⟩
   have hd:((n+1:Nat):Int)-1=(n:Int):=by lia
   obtain⟨t,z,rfl,B,-⟩:=R.tup;refine U rfl ⟨rfl,U rfl (i4 (λh=>absurd h (by lia)) (λG=>?_))⟩;refine U rfl ⟨_,"tuple",_,true,rfl,.inr ⟨t,U rfl ⟨B,rfl⟩⟩,cY (by decide+kernel),true,rfl,bU ?_⟩;refine U rfl ⟨_,U rfl ⟨.inr ⟨_,B,rfl⟩,rfl,U rfl (i4 (λh=>absurd h (by rw[il];lia)) (λI=>?_))⟩⟩;refine U rfl (rX B (am (k:=0) rfl) ?_);refine aq ?_;clear B G I;cases R with
 |any h=>refine U rfl ⟨rfl,U rfl (bG ?_)⟩;refine U rfl ⟨_,U rfl ⟨.inr ⟨_,h,rfl⟩,rfl,?_⟩⟩;exact kj (p:=V.int 1=V.int 1) rfl (q H (ak.refl _))|has h=>cases o with|has hm=>refine U rfl ⟨rfl,U rfl (wn ?_)⟩;refine U rfl ⟨rfl,U rfl (bG ?_)⟩;refine U rfl ⟨_,U rfl ⟨.inr ⟨_,h,rfl⟩,rfl,U rfl (bq ?_)⟩⟩;exact U rfl (rX h rfl ⟨V.str _,rfl,.inl (U rfl ⟨l _ hm,q⟩)⟩)
   |least h=>cases o with|least hm h1 h2=>(iterate 2 refine U rfl ⟨rfl,U rfl (wn ?_)⟩);refine U rfl ⟨rfl,U rfl (bG ?_)⟩;refine U rfl ⟨_,U rfl ⟨.inr ⟨_,h,rfl⟩,rfl,U rfl (bq ?_)⟩⟩;refine U rfl (rX h rfl ⟨V.str _,rfl,.inl (U rfl ⟨l _ hm,λJ c=>(U rfl (bq ?_))⟩)⟩);exact⟨_,rfl,t,_,2,_,rfl,rfl,ak.tseq c h,rfl,_,rfl,⟨h1,h2⟩,q J c⟩
   |not h h1=>cases o with|not u=>rename_i g i;have hh:g.hgt+1<=n+1:=hh;(iterate 3 refine U rfl ⟨rfl,U rfl (wn ?_)⟩);refine U rfl ⟨rfl,U rfl (bG ?_)⟩;refine U rfl ⟨_,U rfl ⟨.inr ⟨_,h,rfl⟩,rfl,U rfl (bq ?_)⟩⟩;refine U rfl (rX h rfl (U rfl (r2 ?_)));exact⟨g,i,e,by show[i,V.int (((n+1:Nat):Int)-1)]=_;rw[hd],h1,by lia,u,l,q⟩
   |both h h1 h2=>cases o with|both u L=>rename_i g v i y;have hh:=DK (show max g.hgt v.hgt+1<=n+1 from hh);(iterate 4 refine U rfl ⟨rfl,U rfl (wn ?_)⟩);refine U rfl ⟨rfl,U rfl (bG ?_)⟩;refine U rfl ⟨_,U rfl ⟨.inr ⟨_,h,rfl⟩,rfl,U rfl (bq ?_)⟩⟩;refine U rfl (rX h rfl (U rfl (r2 ?_)));refine⟨g,i,e,by show[i,V.int (((n+1:Nat):Int)-1)]=_;rw[hd],h1,hh.1,u,l,λJ c=>(U rfl (bq ?_))⟩;refine U rfl (rX (ak.tseq c h) rfl (U rfl (r2 ?_)));exact⟨v,y,e,by show[y,V.int (((n+1:Nat):Int)-1)]=_;rw[hd],h2.kp (.of c),hh.2,L,l,λM N=>q M (c.trans N)⟩
   |either h h1 h2=>cases o with|either u L=>rename_i g v i y;have hh:=DK (show max g.hgt v.hgt+1<=n+1 from hh);(iterate 5 refine U rfl ⟨rfl,U rfl (wn ?_)⟩);refine U rfl ⟨rfl,U rfl (bG ?_)⟩;refine U rfl ⟨_,U rfl ⟨.inr ⟨_,h,rfl⟩,rfl,U rfl (bq ?_)⟩⟩;refine U rfl (rX h rfl (U rfl (r2 ?_)));refine⟨g,i,e,by show[i,V.int (((n+1:Nat):Int)-1)]=_;rw[hd],h1,hh.1,u,l,λJ c=>(U rfl (bq ?_))⟩;refine U rfl (rX (ak.tseq c h) rfl (U rfl (r2 ?_)));exact⟨v,y,e,by show[y,V.int (((n+1:Nat):Int)-1)]=_;rw[hd],h2.kp (.of c),hh.2,L,l,λM N=>q M (c.trans N)⟩
end
def iS.mem(h:iS c r):∀w∈r.words,w∈c:=by induction h with|any=>exactλw h=>(nomatch h)|has h=>intro w b;rw[List.mem_singleton.mp b];exact h|least h=>intro w b;rw[List.mem_singleton.mp b];exact h|not _ h=>exact h|both _ _ h g=>exactλw b=>(List.mem_append.mp b).elim (h w) (g w)|either _ _ h g=>exactλw b=>(List.mem_append.mp b).elim (h w) (g w)
def iS.few{c:MV}{r:Ru}(h:iS c r):r.wset.length<=c.length:=Dl (G1 r.words [] LN) λx b=>h.mem x (II b)
inductive Cl(K:MP)(vs:List V)(H:Hp)(Q:VK)(_E:XK):Prop|mk(r:Ru)(rv:V)(ws:MV)(_:vs=[rv])(_:dP K H r rv)(_:r.hgt<=6)(_:r.cnt<=30)(_:iS ws r)(_:(∀w∈ws,Wd w))(_:ws.length<=3)(_:∀H',ak H H'->Q (.bl true) H')
section
def ze(T:Txt K mg a):aO P w K mg base cZ 10 a.mz.x a.mz.d ["thing"] (Cl K):=by
 refine T.mz.ok y0 λv A outer s H L Q E c h=>?_
 ·obtain⟨r,e,y,rfl,g,hh,hc,o,z,M,q⟩:=h;refine⟨_,(ag (aM (cB (aP K rfl (bv ((qM T 6).mono (by decide)) c rfl T.ca.m T.ca.f.kp T.ca.b .nil be (ac (Y 0) (ac (cu T.ud rfl) O))) (λ_=>rfl))) (ah (az gi)) aC) (ah (az (cw (bR jg (aB (aI K rfl) (by rfl) T.bD L2.aL (ac (bv ((jx T 6).mono (by decide)) c rfl T.bQ.m T.bQ.f.kp T.bQ.b .nil be (ac (Y 0) O)) O)) (cu T.wZ rfl) (aE _)) (dk (bR jg (aB (aI K rfl) (by rfl) T.bD L2.aL (ac (pc T.jE (xV T) c (ac (Y 0) O)) O)) (cu T.wW rfl) (aE _))))))),?_⟩
  refine U rfl ⟨r,e,y,rfl,g,hh,o,z,λN i=>(U rfl (bU ?_))⟩;refine U rfl ⟨r,e,rfl,g.kp (.of i),hh,fx _,λl p R t B j k=>?_⟩;have C:p.length=r.subs.length:=(Paired.length k).symm;unfold Ru.cnt at hc;refine⟨_,p.length,rfl,.inl ⟨_,aW.of j,rfl⟩,_,U rfl ⟨rfl,U rfl (lS (λ_=>?_) (λh=>absurd (by lia) h))⟩⟩;refine U rfl ⟨r,e,rfl,g.kp (.of (i.trans t)),hh,λS u D F G n I _=>?_⟩;have V:=o.few;have J:=I.length_eq;refine⟨_,u.length,rfl,.inl ⟨_,aW.of n,by simp⟩,_,U rfl ⟨rfl,?_⟩⟩;exact kj (show((u.length:Nat):Int)<=3 by lia) (q D ((i.trans t).trans F))
end
inductive Ff(K:MP)(h:Nat)(vs:List V)(H:Hp)(Q:VK)(_E:XK):Prop|mk(r:Ru)(rv:V)(ms:List (Str×Int))(mv:V)(_:vs=[rv,mv])(_:dP K H r rv)(_:r.hgt<=h)(_:pk K H ms mv)(_:ms.length<=100)(_:∀H',ak H H'->Q (.bl (r.sat ms)) H')
section
theorem x6(T:Txt K mg a):∀h:Nat,aO P w K mg base cZ (h+1) a.dD.x a.dD.d ["rule","marks"] (Ff K h)
 |0=>by
  refine T.dD.f.ok sC (λvs H Q E h=>?_) (λaa A outer s H vs Q E R h=>?_)
  ·obtain⟨r,rv,k,mv,rfl,_⟩:=h;rfl
  ·obtain⟨r,rv,k,mv,rfl,_,hh,_⟩:=h;have:=r.hgt_pos;lia|n+1=>by
  have W:=x6 T n;refine T.dD.f.ok sC (λvs H Q E h=>?_) (λaa A outer s H vs Q E R h=>?_)
  ·obtain⟨r,rv,k,mv,rfl,_⟩:=h;rfl
  ·obtain⟨r,rv,k,mv,rfl,hR,hh,S,p,q⟩:=h;obtain⟨mt,l,rfl,I,X,Z⟩:=id S;refine⟨_,(ag (bd 2 sC.nd (cC K (Y 0) ae)) (ag (aM (aD aQ (Y 2) ay (aE _)) (ah (az gi)) aC) (ag (aM (aD aQ (Y 2) ay (aE _)) (ah (az (aB (ql K rfl rfl) (by rfl) T.Dq L2.uh (ac (qj pj ["mark"] [] [3] (ai rL) (bO 3) (dw K rfl (Y 1)) (λcl C s₀ H₀ ex=>⟨(mG pj ["mark"] 3),bJ,(bR aQ (cC K (Y 3) ae) (cC K (Y 0) ae) (aE _))⟩)) O)))) aC) (ag (aM (aD aQ (Y 2) ay (aE _)) (ah (az (aB (ql K rfl rfl) (by rfl) T.Dq L2.uh (ac (qj pj ["mark"] [] [3] (ai rL) (bO 3) (dw K rfl (Y 1)) (λcl C s₀ H₀ ex=>⟨(mG pj ["mark"] 3),bJ,(cw (bR aQ (cC K (Y 3) ae) (cC K (Y 0) ae) (aE _)) (dk (bR GR (cC K (Y 3) ae) (cC K (Y 0) ae) (aE _))))⟩)) O)))) aC) (ag (aM (aD aQ (Y 2) ay (aE _)) (ah (az (C3 (bv W R rfl T.dD.m T.dD.f.kp T.dD.b .nil be (ac (cC K (Y 0) ae) (ac (Y 1) O)))))) aC) (ag (aM (aD aQ (Y 2) ay (aE _)) (ah (az (cw (bv W R rfl T.dD.m T.dD.f.kp T.dD.b .nil be (ac (cC K (Y 0) ae) (ac (Y 1) O))) (dk (bv W R rfl T.dD.m T.dD.f.kp T.dD.b .nil be (ac (cC K (Y 0) ae) (ac (Y 1) O))))))) aC) (ah (az (JU (bv W R rfl T.dD.m T.dD.f.kp T.dD.b .nil be (ac (cC K (Y 0) ae) (ac (Y 1) O))) (dk (bv W R rfl T.dD.m T.dD.f.kp T.dD.b .nil be (ac (cC K (Y 0) ae) (ac (Y 1) O))))))))))))),?_⟩
   have c:∀{A B:Prop}{x y:Str},x≠y->B->if decide (V.str x=V.str y)=true then A else B:=λh b=>DT (λe=>absurd e h) (λ_=>b)
   have j:∀{A B:Prop}{x:Str},A->if decide (V.str x=V.str x)=true then A else B:=λa=>DT (λ_=>a) (λh=>absurd rfl h)
   cases hR with|any h=>refine U rfl (rX h rfl ?_);exact U rfl ⟨rfl,U rfl (j (q _ (ak.refl _)))⟩|has h=>
    refine U rfl (rX h rfl ?_);refine U rfl ⟨rfl,U rfl (c (by decide+kernel) ?_)⟩;refine U rfl ⟨rfl,U rfl (j ?_)⟩;rename_i ra wd;refine U rfl ⟨mt,rfl,⟨_,I⟩,λD hD=>?_⟩;have t:∀g,ak H (aG H D (.lst g)):=λg=>aj (ak.refl _) hD;refine cJ (K:=K) (a:=mt) (xs:=l) (λi g H'=>g=((k.take i).map (Kn wd)).map V.bl/\H'=aG H D (.lst g)) ⟨by rw[oi];rfl,rfl⟩ (λi g H' _ h=>h.2▸ak.tseq (t _) I) ?_ ?_
    ·rintro i v g _ L⟨rfl,rfl⟩;have hi:i<l.length:=(d_.mp L).1;obtain⟨b,hb,hB⟩:=Z i (k[i]'(by lia)) (fy (by lia));rw[hb]at L;cases L;refine aq (gU (bq ?_));refine U rfl (rX (ak.tseq (t _) hB) rfl (U rfl (rX (ak.tseq (t _) h) rfl ⟨rfl,af,?_,lf hi ⟨?_,?_⟩⟩)))
     ·rw[b_,b_,i_,gg];lia
     ·rw[lx (fy (by lia)),g6];rfl
     ·rw[eh]
    ·rintro g _⟨rfl,rfl⟩;refine⟨D,_,rfl,aW.of af,?_⟩;rw[X,g_ (fx _)];exact q _ (t _)|least h=>
    refine U rfl (rX h rfl ?_);(iterate 2 refine U rfl ⟨rfl,U rfl (c (by decide+kernel) ?_)⟩);refine U rfl ⟨rfl,U rfl (j ?_)⟩;rename_i ra wd F;refine U rfl ⟨mt,rfl,⟨_,I⟩,λD hD=>?_⟩;have t:∀g,ak H (aG H D (.lst g)):=λg=>aj (ak.refl _) hD;refine cJ (K:=K) (a:=mt) (xs:=l) (λi g H'=>g=((k.take i).map (gA wd F)).map V.bl/\H'=aG H D (.lst g)) ⟨by rw[oi];rfl,rfl⟩ (λi g H' _ h=>h.2▸ak.tseq (t _) I) ?_ ?_
    ·rintro i v g _ L⟨rfl,rfl⟩;have hi:i<l.length:=(d_.mp L).1;obtain⟨b,hb,hB⟩:=Z i (k[i]'(by lia)) (fy (by lia));rw[hb]at L;cases L;have fin:∀b,b=gA wd F (k[i]'(by lia))->aG H D (.lst (((k.take i).map (gA wd F)).map V.bl)) D=some (.lst (((k.take i).map (gA wd F)).map V.bl))/\(((k.take i).map (gA wd F)).map V.bl).length<sizeLine/\∃m',m'<l.length-i/\m'=l.length-(i+1)/\i+1<=l.length/\((((k.take i).map (gA wd F)).map V.bl++[V.bl b]=((k.take (i+1)).map (gA wd F)).map V.bl)/\aG (aG H D (.lst (((k.take i).map (gA wd F)).map V.bl))) D (.lst (((k.take i).map (gA wd F)).map V.bl++[V.bl b]))=aG H D (.lst (((k.take i).map (gA wd F)).map V.bl++[V.bl b]))):=λb eb=>by
      refine⟨af,?_,lf hi ⟨?_,?_⟩⟩
      ·rw[b_,b_,i_,gg];lia
      ·rw[lx (fy (by lia)),g6,eb];rfl
      ·rw[eh]
     refine aq (gU (bq ?_));refine U rfl (rX (ak.tseq (t _) hB) rfl (U rfl (rX (ak.tseq (t _) h) rfl ⟨rfl,U rfl (DT (λe=>?_) (λe=>?_))⟩)))
     ·refine U rfl (rX (ak.tseq (t _) hB) rfl (U rfl (rX (ak.tseq (t _) h) rfl (r2 (fin _ ?_)))));unfold gA;rw[hQ (by rw[e];exact j1 rfl)]
     ·refine fin _ ?_;unfold gA;rw[g8 (by rw[j2 (λz=>e (V.str.inj z))];exact h_)]
    ·rintro g _⟨rfl,rfl⟩;refine⟨D,_,rfl,aW.of af,?_⟩;rw[X,g_ (fx _)];exact q _ (t _)|not h h1=>rename_i ra G v;have hq:G.hgt+1<=n+1:=hh;refine U rfl (rX h rfl ?_);(iterate 3 refine U rfl ⟨rfl,U rfl (c (by decide+kernel) ?_)⟩);refine U rfl ⟨rfl,U rfl (j ?_)⟩;exact U rfl (rX h rfl (U rfl ⟨G,v,k,_,rfl,h1,by lia,S,p,λH' o=>(U rfl (q H' o))⟩))|both h h1 h2=>
    rename_i ra G M v u;have hq:max G.hgt M.hgt+1<=n+1:=hh;refine U rfl (rX h rfl ?_);(iterate 4 refine U rfl ⟨rfl,U rfl (c (by decide+kernel) ?_)⟩);refine U rfl ⟨rfl,U rfl (j ?_)⟩;refine U rfl (rX h rfl (U rfl ⟨G,v,k,_,rfl,h1,by lia,S,p,λH' o=>(U rfl ?_)⟩));have J:∀H',ak H H'->Q (.bl (if G.sat k=true then M.sat k else false)) H':=q;refine tT (λe=>?_) (λe=>?_)
    ·rw[hQ e]at J;exact U rfl (rX (ak.tseq o h) rfl (U rfl ⟨M,u,k,_,rfl,h2.kp (.of o),by lia,S.kp (.of o),p,λH2 N=>J H2 (o.trans N)⟩))
    ·rw[g8 (by rw[e];exact h_)]at J;exact J H' o|either h h1 h2=>
    rename_i ra G M v u;have hq:max G.hgt M.hgt+1<=n+1:=hh;refine U rfl (rX h rfl ?_);(iterate 5 refine U rfl ⟨rfl,U rfl (c (by decide+kernel) ?_)⟩);refine U rfl (rX h rfl (U rfl ⟨G,v,k,_,rfl,h1,by lia,S,p,λH' o=>(U rfl ?_)⟩));have J:∀H',ak H H'->Q (.bl (if G.sat k=true then true else M.sat k)) H':=q;refine tT (λe=>?_) (λe=>?_)
    ·rw[hQ e]at J;exact J H' o
    ·rw[g8 (by rw[e];exact h_)]at J;exact U rfl (rX (ak.tseq o h) rfl (U rfl ⟨M,u,k,_,rfl,h2.kp (.of o),by lia,S.kp (.of o),p,λH2 N=>J H2 (o.trans N)⟩))
end
inductive Fm(vs:List V)(H:Hp)(Q:VK)(_E:XK):Prop|mk(x:_)(_:vs=[.str x])(_:Wd x)(_:∀H',ak H H'->Q .non H')
inductive Fs(K:MP)(vs:List V)(H:Hp)(Q:VK)(_E:XK):Prop|mk(p:Addr)(l:MV)(_:vs=[.ref p])(_:aX K H p (l.map V.str))(_:(∀w∈l,Wd w))(_:l.Nodup)(_:1<=l.length)(_:l.length<=4)(_:∀H',ak H H'->Q .non H')
inductive Fn(K:MP)(vs:List V)(H:Hp)(Q:VK)(_E:XK):Prop|mk(r:Ru)(rv:V)(ws:MV)(_:vs=[rv])(_:dP K H r rv)(_:r.hgt<=6)(_:r.cnt<=30)(_:iS ws r)(_:(∀w∈ws,Wd w))(_:ws.length<=3)(_:∀H',ak H H'->Q .non H')
inductive Cv(vs:List V)(H:Hp)(Q:VK)(_E:XK):Prop|mk(x:_)(_:vs=[.str x])(_:AG x)(_:∀H',ak H H'->Q .non H')
inductive Ct(K:MP)(vs:List V)(H:Hp)(Q:VK)(_E:XK):Prop|mk(v:V)(l:List (Str×Int))(_:vs=[v])(_:pk K H l v)(_:(∀m∈l,Wd m.1/\-aY<=m.2/\m.2<=aY))(_:(l.map Prod.fst).Nodup)(_:l.length<=8)(_:∀H',ak H H'->Q .non H')
inductive Cw(vs:List V)(H:Hp)(Q:VK)(_E:XK):Prop|mk(z:_)(_:vs=[.int z])(_:0<=z)(_:Q .non H)
inductive A6(K:MP)(vs:List V)(H:Hp)(Q:VK)(_E:XK):Prop|mk(p:Addr)(l:M0)(_:vs=[.ref p,.int (l.length:Nat)])(_:aX K H p (l.map V.int))(_:(∀i∈l,0<=i))(_:l.length<=100)(_:∀H',ak H H'->Q .non H')
inductive Fq(K:MP)(vs:List V)(H:Hp)(Q:VK)(_E:XK):Prop|mk(z:Int)(p:Addr)(l:M0)(_:vs=[.int z,.ref p,.int (l.length:Nat)])(_:(0<=z/\z<=1000))(_:aX K H p (l.map V.int))(_:(∀i∈l,1<=i/\i<=aY))(_:l.length<=100)(_:∀H',ak H H'->Q .non H')
section
def mU(T:Txt K mg a):aO P w K mg base cZ 3 a.fH.x a.fH.d ["thing"] Fm:=by
 refine T.fH.ok ux λb A outer s H i Q E c h=>?_
 ·obtain⟨x,rfl,e,q⟩:=h;refine⟨_,(ah (aM (cB (aP K rfl (pc T.et (iM T) c (ac (Y 0) O)) (λ_=>rfl))) (ah cr) aC)),?_⟩;exact U rfl ⟨V.str x,rfl,.inl ⟨x,rfl,e,λf g=>(U rfl (bU (q f g)))⟩⟩
def uM(T:Txt K mg a):aO P w K mg base cZ 4 a.gG.x a.gG.d ["thing"] (Fs K):=by
 refine T.gG.ok uA λb A outer s H g Q E c h=>?_
 ·obtain⟨p,l,rfl,h1,h2,h3,h4,h5,q⟩:=h;refine⟨_,(ah (aM (cB (aP K rfl (pc T.kd (x8 T) c (ac (Y 0) O)) (λ_=>rfl))) (ah cr) aC)),?_⟩;exact U rfl ⟨p,l,rfl,h1,h2,h3,h4,h5,λe f=>(U rfl (bU (q e f)))⟩
def uI(T:Txt K mg a):aO P w K mg base cZ 11 a.gD.x a.gD.d ["thing"] (Fn K):=by
 refine T.gD.ok uy λb A outer s H j Q E c h=>?_
 ·obtain⟨r,e,f,rfl,h1,h2,h3,h4,h5,h6,q⟩:=h;refine⟨_,(ah (aM (cB (aP K rfl (pc T.mz (ze T) c (ac (Y 0) O)) (λ_=>rfl))) (ah cr) aC)),?_⟩;exact U rfl ⟨r,e,f,rfl,h1,h2,h3,h4,h5,h6,λg i=>(U rfl (bU (q g i)))⟩
def lM(T:Txt K mg a):aO P w K mg base cZ 3 a.eI.x a.eI.d ["thing"] Cv:=by
 refine T.eI.ok sK λb A outer s H i Q E c h=>?_
 ·obtain⟨x,rfl,e,q⟩:=h;refine⟨_,(ah (aM (cB (aP K rfl (pc T.j5 (x5 T) c (ac (Y 0) O)) (λ_=>rfl))) (ah cr) aC)),?_⟩;exact U rfl ⟨x,rfl,e,λf g=>(U rfl (bU (q f g)))⟩
def tJ(T:Txt K mg a):aO P w K mg base cZ 5 a.fS.x a.fS.d ["thing"] (Ct K):=by
 refine T.fS.ok sI λb A outer s H g Q E c h=>?_
 ·obtain⟨v,l,rfl,h1,h2,h3,h4,q⟩:=h;refine⟨_,(ah (aM (cB (aP K rfl (pc T.iD (wD T) c (ac (Y 0) O)) (λ_=>rfl))) (ah cr) aC)),?_⟩;exact U rfl ⟨v,l,rfl,h1,h2,h3,h4,λe f=>(U rfl (bU (q e f)))⟩
def tL(T:Txt K mg a):aO P w K mg base cZ 3 a.fU.x a.fU.d ["thing"] Cw:=by
 refine T.fU.ok sL λb A outer s H e Q E c h=>?_
 ·obtain⟨z,rfl,h0,q⟩:=h;refine⟨_,(ah (aM (cB (aP K rfl (pc T.ft (gW T) c (ac (Y 0) O)) (λ_=>rfl))) (ah cr) aC)),?_⟩;exact U rfl ⟨z,rfl,h0,U rfl (bU q)⟩
def rg(T:Txt K mg a):aO P w K mg base cZ 4 a.eU.x a.eU.d ["thing","many"] (A6 K):=by
 refine T.eU.ok q9 λb A outer s H g Q E c h=>?_
 ·obtain⟨p,l,rfl,h1,h2,h3,q⟩:=h;refine⟨_,(ah (aM (cB (aP K rfl (pc T.gI (uN T) c (ac (Y 0) (ac (Y 1) O))) (λ_=>rfl))) (ah cr) aC)),?_⟩;exact U rfl (U rfl ⟨p,l,rfl,h1,h2,h3,λe f=>(U rfl (bU (q e f)))⟩)
def pL(T:Txt K mg a):aO P w K mg base cZ 4 a.d7.x a.d7.d ["total","weights","many"] (Fq K):=by
 refine T.d7.ok pE λc A outer s H i Q E b h=>?_
 ·obtain⟨z,p,l,rfl,e,h1,h2,h3,q⟩:=h;refine⟨_,(ah (aM (PW.pt (gc (cB (aP K rfl (pc T.j3 (xZ T) b (ac (Y 0) O)) (λ_=>rfl))) (eB (cB (aP K rfl (pc T.fW (tM T) b (ac (Y 1) (ac (Y 2) O))) (λ_=>rfl)))))) (ah cr) aC)),?_⟩;refine U rfl ⟨z,rfl,e,U rfl (bU ?_)⟩;exact U rfl (U rfl ⟨p,l,rfl,h1,h2,h3,λf g=>(U rfl (bU (q f g)))⟩)
end
inductive AZ(vs:List V)(H:Hp)(Q:VK)(_E:XK):Prop|mk(z:Int)(_:vs=[.int z])(_:(2<=z/\z<=997))(_:(∀i:Nat,2+(i:Int)<z->z%(2+(i:Int))≠0))(_:∀H',ak H H'->Q (.bl true) H')
inductive Ck(vs:List V)(H:Hp)(Q:VK)(_E:XK):Prop|mk(z:_)(_:vs=[.int z])(_:(0<=z/\z<=aY))(_:Q (.bl true) H)
inductive Cu(vs:List V)(H:Hp)(Q:VK)(_E:XK):Prop|mk(z s:Int)(_:vs=[.int z,.int s])(_:(2<=z/\z<=997))(_:(∀i:Nat,2+(i:Int)<z->z%(2+(i:Int))≠0))(_:(0<=s/\s<=aY))(_:∀H',ak H H'->Q .non H')
inductive HC(vs:List V)(H:Hp)(Q:VK)(_E:XK):Prop|mk(x:Str)(d:Addr)(kvs:List (cb×V))(_:vs=[.str x,.ref d])(_:Wd x)(_:H d=some (.dK kvs))(_:bu kvs (.inr x)=none)(_:∀H',ak H H'->Q .non H')
inductive Cq(vs:List V)(H:Hp)(Q:VK)(_E:XK):Prop|mk(x:Str)(d:Addr)(kvs:List (cb×V))(_:vs=[.str x,.ref d])(_:Wd x)(_:H d=some (.dK kvs))(_:(bu kvs (.inr x)).isSome=true)(_:∀H',ak H H'->Q .non H')
theorem pB:∀c:List Str,(c.map V.str).all lW=true|[]=>rfl|w::r=>by rw[lh,E2,pB r];rfl
section
def x4(T:Txt K mg a):aO P w K mg base cZ 2 a.j4.x a.j4.d ["thing"] AZ:=by
 refine T.j4.ok xB λe A outer s H j Q E f h=>?_
 ·obtain⟨z,rfl,⟨h1,h2⟩,hd,q⟩:=h;refine⟨_,(ag (aM (PW.pt (gc (cB (aP K rfl (pc T.gq (jh T) f (ac (Y 0) O)) (λ_=>rfl))) (eB (cB (xL jg jg (cu T.u0 rfl) (Y 0) (cu T.qm rfl)))))) (ah (az gi)) aC) (ah (az (aB (iC K rfl rfl) (by rfl) T.vA L2.kc (ac (qj ["thing"] ["divisor"] [] [1] (ai nu) (bO 1) (vy rfl T.gp (ac ae (ac (Y 0) O))) (λcl C s₀ H₀ ex=>⟨(mG ["thing"] ["divisor"] 1),bJ,(bR Ag (au aT (Y 0) (Y 1)) ae (aE _))⟩)) O))))),?_⟩
  refine U rfl ⟨z,rfl,U rfl (bU ?_)⟩;refine U rfl (r2 (U rfl ?_));refine lS (λ_=>?_) (λh=>absurd h1 h);refine r2 (U rfl ?_);rw[j1 h2];refine bU ?_;refine U rfl ⟨_,U rfl ⟨⟨by decide,by decide,by omega,by omega⟩,λD g=>?_⟩⟩;refine gC (K:=K) (lo:=2) (n:=(z-2).toNat) (λi b c=>b=(List.replicate i true).map V.bl/\c=aG H D (.lst b)) ⟨rfl,rfl⟩ ?_ ?_
  ·rintro i b c hi⟨rfl,rfl⟩;refine aq (gU (bq (U rfl (U rfl (r2 ⟨(by show(0:Int)<_;first|decide|omega),rfl,?_⟩)))));refine⟨af,jF i (by omega),lf hi ⟨?_,by rw[eh]⟩⟩;have hn:=hd i (by omega);rw[<-iF]
   congr 2
   simp[hn]
  ·rintro b c⟨rfl,rfl⟩;refine⟨D,_,rfl,aW.of af,?_⟩;rw[jG];exact q _ (aj (ak.refl _) g)
def zd(T:Txt K mg a):aO P w K mg base cZ 3 a.my.x a.my.d ["thing"] Ck:=by
 refine T.my.ok yZ λb A outer s H e Q E c h=>?_
 ·obtain⟨z,rfl,⟨h1,h2⟩,q⟩:=h;refine⟨_,(ah (az (cw (pc T.ft (gW T) c (ac (Y 0) O)) (dk (bR jg (Y 0) (au tF ae ae) (aE _)))))),?_⟩;refine U rfl ⟨z,rfl,h1,U rfl (bq ?_)⟩
  walk_at "a"
  exact kj h2 q
def tK(T:Txt K mg a):aO P w K mg base cZ 4 a.fT.x a.fT.d ["prime","salt"] Cu:=by
 refine T.fT.ok sJ λc A outer s H g Q E b h=>?_
 ·obtain⟨z,sa,rfl,h1,h2,h3,q⟩:=h;refine⟨_,(ah (aM (PW.pt (gc (cB (aP K rfl (pc T.j4 (x4 T) b (ac (Y 0) O)) (λ_=>rfl))) (eB (cB (aP K rfl (pc T.my (zd T) b (ac (Y 1) O)) (λ_=>rfl)))))) (ah cr) aC)),?_⟩;refine U rfl ⟨z,rfl,h1,h2,λe f=>(U rfl (bU ?_))⟩;exact U rfl ⟨sa,rfl,h3,U rfl (bU (q e f))⟩
def oJ(T:Txt K mg a):aO P w K mg base cZ 4 a.gE.x a.gE.d ["thing","names"] HC:=by
 refine T.gE.ok ww λe A outer s H i Q E b h=>?_
 ·obtain⟨x,d,f,rfl,h1,h2,h3,q⟩:=h;refine⟨_,(ag (aV (pc T.fH (mU T) b (ac (Y 0) O))) (ah (aM (pH (zc (cU b) (Y 0) (Y 1)) rfl) (ah cr) aC))),?_⟩
  refine U rfl ⟨x,rfl,h1,λg c=>?_⟩;refine U rfl (U rfl (rG none (by rw[<-h3];exact eZ.k (k:=.inr x) (c _ _ h2)) (U rfl (bU (q g c)))))
def db(T:Txt K mg a):aO P w K mg base cZ 4 a.bM.x a.bM.d ["thing","names"] Cq:=by
 refine T.bM.ok nX λf A outer s H i Q E c h=>?_
 ·obtain⟨x,d,b,rfl,h1,h2,h3,q⟩:=h;refine⟨_,(ag (aV (pc T.fH (mU T) c (ac (Y 0) O))) (ah (aM (pH (pJ (cU c) (Y 0) (Y 1)) rfl) (ah cr) aC))),?_⟩
  refine U rfl ⟨x,rfl,h1,λg e=>?_⟩;refine U rfl (U rfl (rG (bu b (.inr x)) (eZ.k (k:=.inr x) (e _ _ h2)) (U rfl ?_)));rw[h3];exact bU (q g e)
end
abbrev Pl:=bW×V×List Int
def eX(H:Hp)(tk:List ic)(m:List Pl):Prop:=Paired (λ(x:ic)(y:Pl)=>x.1=y.1/\x.2.1=y.2.1/\∃l,x.2.2=.ref l/\H l=some (.lst (y.2.2.map V.int))) tk m
structure eu(P:MU)(w:World)(K:MP)(C:Addr)(H:Hp)(t od td:Addr)(n:Nat)(ow:List (cb×V))(tk:List ic)(m:List Pl):Prop where
 ins:∃dx,H t=some (.ins C dx [("many",.int n),("owners",.ref od),("taken",.ref td)])own:H od=some (.dK ow)tak:H td=some (dM P w td tk)keys:d9 K H tk
 lsts:eX H tk m
def eX.same(e:ak H H')(h:eX H tk m):eX H' tk m:=Paired.mapP h λ_ _ h=>⟨h.1,h.2.1,h.2.2.imp λ_ q=>⟨q.1,e _ _ q.2⟩⟩
def fq(e:Kp H H')(h:cW K H k v):cW K H' k v:=by match k,h with|.inl _,h=>exact h|.inr [],h=>exact h|.inr (_::_),h=>obtain⟨b,h1,h2⟩:=h;exact⟨b,h1,e.tq h2⟩
def nG(e:ak H H')(h:cW K H k v):cW K H' k v:=by exact fq (.of e) h
theorem eu.same(e:ak H H')(h:eu P w K C H t c d n ow tk m):eu P w K C H' t c d n ow tk m:=⟨let⟨dx,i⟩:=h.ins;⟨dx,e _ _ i⟩,e _ _ h.own,e _ _ h.tak,λx b=>nG e (h.keys x b),h.lsts.same e⟩
def eX.val(h:eX H tk m)(k:bW):(∃l c,fk tk k=some (.ref l)/\fk m k=some c/\H l=some (.lst (c.map V.int)))\/(fk tk k=none/\fk m k=none):=by induction h with|nil=>exact .inr ⟨rfl,rfl⟩|@cons x y _ _ h _ b=>
  unfold fk at b⊢;rw[pv,pv,<-h.1]
  by_cases e:x.1=k
  ·rw[j1 e];exact .inl (h.2.2.imp λ_ q=>⟨y.2.2,r4 some q.1,rfl,q.2⟩)
  ·rw[j2 e];exact b
def bn(m:List Pl)(k:bW):List Int:=(fk m k).getD []
def gr(n:Nat)(ow:List (cb×V)):List Int:=((List.range n).filter λ(i:Nat)=>(bu ow (.inl (i:Int))).isNone).map λ(i:Nat)=>(i:Int)
inductive Hw(P:MU)(w:World)(K:MP)(C:Addr)(vs:List V)(H:Hp)(Q:VK)(_E:XK):Prop|mk(t dx:Addr)(n:Nat)(_:vs=[.ref t,.int n])(_:H t=some (.ins C dx []))(_:H dx=some (.own t))(_:∀(od td:Addr)H',H od=none->H td=none->(∀b o,H b=some o->b≠t->H' b=some o)->eu P w K C H' t od td n [] [] []->Q .non H')
inductive AY(P:MU)(w:World)(K:MP)(C:Addr)(vs:List V)(H:Hp)(Q:VK)(_E:XK):Prop|mk(t od td:Addr)(n:Nat)(ow:List (cb×V))(tk:List ic)(m:List Pl)(p:Int)(_:vs=[.ref t,.int p])(_:eu P w K C H t od td n ow tk m)(_:Q ((bu ow (.inl p)).getD .non) H)
inductive yU(P:MU)(w:World)(K:MP)(C:Addr)(vs:List V)(H:Hp)(Q:VK)(_E:XK):Prop|mk(t od td:Addr)(n:Nat)(ow:List (cb×V))(tk:List ic)(m:List Pl)(k:bW)(kv:V)(_:vs=[.ref t,kv])(_:eu P w K C H t od td n ow tk m)(_:cW K H k kv)(_:∀(l:Addr)H',ak H H'->H l=none->H' l=some (.lst ((bn m k).map V.int))->Q (.ref l) H')
inductive Hz(P:MU)(w:World)(K:MP)(C:Addr)(vs:List V)(H:Hp)(Q:VK)(_E:XK):Prop|mk(t od td:Addr)(n:Nat)(ow:List (cb×V))(tk:List ic)(m:List Pl)(_:vs=[.ref t])(_:eu P w K C H t od td n ow tk m)(_:n<=1000)(_:∀(l:Addr)H',ak H H'->H l=none->H' l=some (.lst ((gr n ow).map V.int))->Q (.ref l) H')
section
def rj(T:Txt K mg a):aO P w K mg base cZ 1 a.dO.x a.dO.d ["self","many"] (Hw P w K a.bN):=by
 refine T.dO.ok rc λF A outer s H L Q E M h=>?_
 ·obtain⟨t,dx,n,rfl,G,N,q⟩:=h;refine⟨_,(ag (cn K rfl (Y 0) (Y 1)) (ag (cn K rfl (Y 0) jW) (ah (cn K rfl (Y 0) (C5 (P:=P) (w:=w)))))),?_⟩
  refine U rfl (U rfl ⟨t,_,dx,U rfl ⟨G,T.bp,T.mZ,by decide,?_⟩⟩);have v:gf "many" (V.int n) []=([("many",V.int n)]:List (Str×V)):=rfl;rw[v];have i:aG H t (.ins a.bN dx [("many",V.int n)]) t=some (.ins a.bN dx [("many",V.int n)]):=af;have f1:∀b o,H b=some o->b≠t->aG H t (.ins a.bN dx [("many",V.int n)]) b=some o:=λb o e j=>by rw[ao j];exact e
  generalize aG H t (.ins a.bN dx [("many",V.int n)])=u at i f1⊢;refineλc g=>(U rfl ⟨t,_,dx,U rfl ⟨by rw[ao (aH i g)];exact i,T.bp,T.dW,by simp,?_⟩⟩);have y:gf "owners" (V.ref c) [("many",V.int n)]=([("many",V.int n),("owners",V.ref c)]:List (Str×V)):=rfl;rw[y];have B:c≠t:=λz=>by rw[z,i]at g;cases g
  have k:aG (aG u c (.dK [])) t (.ins a.bN dx [("many",V.int n),("owners",V.ref c)]) t=some (.ins a.bN dx [("many",V.int n),("owners",V.ref c)]):=af;have m:aG (aG u c (.dK [])) t (.ins a.bN dx [("many",V.int n),("owners",V.ref c)]) c=some (.dK []):=by rw[ao B];exact af
  have f2:∀b o,H b=some o->b≠t->aG (aG u c (.dK [])) t (.ins a.bN dx [("many",V.int n),("owners",V.ref c)]) b=some o:=λb o e j=>by rw[ao j,ao (λz=>by rw[<-z,f1 b o e j]at g;cases g)];exact f1 b o e j
  generalize aG (aG u c (.dK [])) t (.ins a.bN dx [("many",V.int n),("owners",V.ref c)])=O at k m f2⊢;refineλl f=>(U rfl ⟨t,_,dx,U rfl ⟨by rw[ao (aH k f)];exact k,T.bp,T.gk,by simp,?_⟩⟩);have C:gf "taken" (V.ref l) [("many",V.int n),("owners",V.ref c)]=([("many",V.int n),("owners",V.ref c),("taken",V.ref l)]:List (Str×V)):=rfl;rw[C];have D:l≠t:=λz=>by rw[z,k]at f;cases f
  have I:c≠l:=λz=>by rw[<-z,m]at f;cases f
  have p:H c=none:=by cases z:H c with|none=>rfl|some o=>rw[f1 c o z B]at g;cases g
  have r:H l=none:=by cases z:H l with|none=>rfl|some o=>rw[f2 l o z D]at f;cases f
  refine q c l _ p r (λb o e j=>?_) ⟨⟨dx,af⟩,by rw[ao B,ao I];exact m,by rw[ao D];exact af,λx J=>(by cases J),.nil⟩;rw[ao j,ao (λz=>by rw[<-z,f2 b o e j]at f;cases f)];exact f2 b o e j
def fF(T:Txt K mg a):aO P w K mg base cZ 1 a.bo.x a.bo.d ["self","owner"] (yU P w K a.bN):=by
 refine T.bo.ok nq λv A outer s H F Q E y h=>?_
 ·obtain⟨t,G,z,n,ow,tk,m,k,I,rfl,i,B,q⟩:=h;refine⟨_,(ah (az (bx (ua K rfl) (by rfl) T.zm L2.qo (ac (C4 (P:=P) (w:=w) K rfl (cU y) (aK K rfl (Y 0)) (Y 1) (a0 O) ⟨rfl,rfl,rfl,rfl⟩) O)))),?_⟩;obtain⟨dx,C⟩:=i.ins;refine U rfl ⟨t,_,dx,_,U rfl ⟨C,T.bp,T.gk,rfl,z,tk,rfl,i.tak,U rfl ⟨ls rfl,λg j=>?_⟩⟩⟩;have e:=aj (o:=.lst []) (ak.refl H) j;have c:aG H g (.lst []) g=some (.lst []):=af;generalize aG H g (.lst [])=J at e c⊢;have f:=i.same e;refine⟨tk,k,f.tak,f.keys,nG e B,?_⟩;rcases f.lsts.val k with⟨l,L,p,r,D⟩|⟨p,r⟩
  ·rw[p];refine⟨l,U rfl ⟨.inl (aW.of D),λu b=>q u _ (aj e b) (e.free b) ?_⟩⟩;unfold bn;rw[r];exact af
  ·rw[p];refine⟨g,U rfl ⟨.inl (aW.of c),λu b=>q u _ (aj e b) (e.free b) ?_⟩⟩;unfold bn;rw[r];exact af
def mW(T:Txt K mg a):aO P w K mg base cZ 1 a.dN.x a.dN.d ["self"] (Hz P w K a.bN):=by
 refine T.dN.ok uC λp A outer s H y Q E r h=>?_
 ·obtain⟨t,z,B,n,ow,tk,m,rfl,j,hn,q⟩:=h;refine⟨_,(ah (az (qj ["self"] ["place"] [] [1] (ai kD) (bO 1) (eS rfl T.gp (ac (aK K rfl (Y 0)) O)) (λcl C s₀ H₀ ex=>⟨(mG ["self"] ["place"] 1),(wy (pH (pJ (cU r) (Y 1) (aK K rfl (Y 0))) rfl)),(Y 1)⟩)))),?_⟩
  obtain⟨dx,l⟩:=j.ins;refine U rfl ⟨t,_,dx,_,U rfl ⟨l,T.bp,T.mZ,rfl,(n:Int),rfl,by lia,by lia,λD o=>?_⟩⟩;have g:∀b,ak H (aG H D (.lst b)):=λb=>aj (ak.refl _) o;refine gC (K:=K) (lo:=0) (n:=(n:Int).toNat) (λi b H'=>b=(gr i ow).map V.int/\H'=aG H D (.lst b)) ⟨rfl,rfl⟩ ?_ ?_
  ·rintro i b _ hi⟨rfl,rfl⟩;have u:((gr i ow).map V.int).length<=i:=by unfold gr;rw[b_,b_];exact ku (sg _ _) (by rw[n7];exact fx _)
   have c:gr (i+1) ow=gr i ow++if(bu ow (.inl (i:Int))).isNone=true then[(i:Int)]else[]:=by
    unfold gr;rw[Md,Ms,g6]
    congr 1
    by_cases e:(bu ow (.inl (i:Int))).isNone=true
    ·simp[e]
    ·simp[e]
   rw[show(0:Int)+(i:Int)=((i:Nat):Int)by lia];refine aq (U rfl (U rfl ⟨t,_,dx,_,U rfl ⟨g _ _ _ l,T.bp,T.dW,rfl,rG _ (eZ.k (k:=.inl (i:Int)) (g _ _ _ j.own)) (U rfl ?_)⟩⟩));have f:i<(n:Int).toNat:=hi;cases e:bu ow (.inl (i:Int))with|none=>refine bq (U rfl ⟨af,by rw[gg];lia,lf f ⟨?_,by rw[eh]⟩⟩);rw[c,e,g6];rfl|some v=>refine bU (lf f ⟨?_,rfl⟩);rw[c,e,g6];exact(t_ _).symm
  ·rintro b _⟨rfl,rfl⟩;have e:(n:Int).toNat=n:=by lia
   rw[e];exact q D _ (g _) o af
end
def Ei(c:List V)(h:0<=i):lc c (some i) none=c.drop i.toNat:=by
 show(c.drop (if i<0 then(i+(c.length:Int)).toNat else min i.toNat c.length)).take (c.length-(if i<0 then(i+(c.length:Int)).toNat else min i.toNat c.length))=c.drop i.toNat;rw[g8 (by lia)];rcases Nat.le_total i.toNat c.length with b|b
 ·rw[Nat.min_eq_left b,g_ (by rw[Lx];lia)]
 ·rw[Nat.min_eq_right b,List.drop_eq_nil_of_le (fx _),List.drop_eq_nil_of_le b,List.take_nil]
def zG(c:List V)(h:0<=i):lc c none (some i)=c.take i.toNat:=by
 show(c.drop 0).take ((if i<0 then(i+(c.length:Int)).toNat else min i.toNat c.length)-0)=c.take i.toNat;rw[g8 (by lia),List.drop_zero,Nat.sub_zero];rcases Nat.le_total i.toNat c.length with b|b
 ·rw[Nat.min_eq_left b]
 ·rw[Nat.min_eq_right b,g_ (fx _),g_ b]
def AL(c:List (cb×V))(k j:cb):bu (dA c k) j=if j=k then none else bu c j:=by induction c with|nil=>split<;>rfl|cons p r f=>
  by_cases e:p.1=k
  ·rw[vO e,f]
   by_cases b:j=k
   ·rw[hQ b,hQ b]
   ·rw[g8 b,g8 b,bL (λz=>b (z.symm.trans e))]
  ·rw[vP e]
   by_cases d:p.1=j
   ·rw[cq d,g8 (λz=>e (d.trans z)),cq d]
   ·rw[bL d,f,bL d]
def rH(ow:List (cb×V))(c:M0):List (cb×V):=c.foldl (λo p=>dA o (.inl p)) ow
def pz(c:M0):∀(ow:List (cb×V))(j:Int),bu (rH ow c) (.inl j)=if j∈c then none else bu ow (.inl j):=by induction c with|nil=>intro ow j;rw[g8 (by simp)];rfl|cons p r b=>
  intro ow j;show bu (rH (dA ow (.inl p)) r) (.inl j)=_;rw[b,AL]
  by_cases h1:j∈r
  ·rw[hQ h1,hQ (hY _ h1)]
  ·rw[g8 h1]
   by_cases h2:j=p
   ·rw[hQ (by rw[h2]),hQ (by rw[h2];exact ir)]
   ·rw[g8 (λz=>h2 (Sum.inl.inj z)),g8 (λz=>(o_.mp z).elim h2 h1)]
def mf(c d:Addr)(H H':Hp):Prop:=∀b o,H b=some o->b≠c->b≠d->H' b=some o
def mf.of(h:ak H H'):mf c d H H':=λb o e _ _=>h b o e
def mf.trans(a:mf d e H f)(b:mf d e f g):mf d e H g:=λc o h h1 h2=>b c o (a c o h h1 h2) h1 h2
def mf.tp(h:mf c d H H')(h1:H c=some (.dK f))(h2:H d=some (.ext φ))(e:H b=some (.tup g)):H' b=some (.tup g):=h b _ e (λz=>by rw[z,h1]at e;cases e) (λz=>by rw[z,h2]at e;cases e)
def d6(h:mf c d H H')(h1:H c=some (.dK f))(h2:H d=some (.ext φ))(g:cW K H k v):cW K H' k v:=by exact fq ⟨λu i e=>h.tp h1 h2 e,λu o⟨b,e⟩=>⟨b,h u _ e (λz=>by rw[z,h1]at e;cases e) (λz=>by rw[z,h2]at e;cases e)⟩⟩ g
def eX.off(h:mf c d H H')(h1:H c=some (.dK f))(h2:H d=some (.ext φ))(t:eX H tk m):eX H' tk m:=Paired.mapP t λ_ _ q=>⟨q.1,q.2.1,q.2.2.imp λ_ e=>⟨e.1,h _ _ e.2 (λz=>by rw[z,h1]at e;cases e.2) (λz=>by rw[z,h2]at e;cases e.2)⟩⟩
def eX.put(d:H l=some (.lst (f.map V.int))):∀{tk:List ic}{m:List Pl},eX H tk m->eX H (fZ tk k j (.ref l)) (fZ m k j f):=by
 intro tk m h;have b:(fk tk k).isSome=(fk m k).isSome:=by rcases h.val k with⟨l,f,g,i,_⟩|⟨g,i⟩<;>rw[g,i]<;>rfl
 unfold fZ;rw[b]
 split
 ·rename_i hc;clear b hc
  induction h with|nil=>exact .nil|@cons x y n o r t c=>
   refine .cons ?_ c;dsimp only;rw[<-r.1]
   by_cases e:x.1=k
   ·rw[hQ e,hQ e];exact⟨rfl,r.2.1,l,rfl,d⟩
   ·rw[g8 e,g8 e];exact r
 ·rename_i hc;clear b hc
  induction h with|nil=>exact .cons ⟨rfl,rfl,l,rfl,d⟩ .nil|cons r t c=>exact .cons r c
def fb(H:Hp)(tk c:List ic):Prop:=∀x∈c,(∃y∈tk,y.2.2=x.2.2)\/∃l,x.2.2=.ref l/\H l=none
def fb.put(c:H l=none):fb H tk (fZ tk k e (.ref l)):=by
 intro x b;unfold fZ at b
 split at b
 ·obtain⟨y,d,rfl⟩:=j_.mp b
  split
  ·exact .inr ⟨l,rfl,c⟩
  ·exact .inl ⟨y,d,rfl⟩
 ·rcases List.mem_append.mp b with b|b
  ·exact .inl ⟨x,b,rfl⟩
  ·rw[List.mem_singleton.mp b];exact .inr ⟨l,rfl,c⟩
def oS(h:mf c d H H')(h1:H' c≠none)(h2:H' d≠none)(e:H' b=none):H b=none:=by cases z:H b with|none=>rfl|some o=>have:=h b o z (λq=>h1 (by rw[<-q];exact e)) (λq=>h2 (by rw[<-q];exact e));rw[e]at this;cases this
inductive Hy(P:MU)(w:World)(K:MP)(C:Addr)(vs:List V)(H:Hp)(Q:VK)(_E:XK):Prop|mk(t od td:Addr)(n:Nat)(ow:List (cb×V))(tk:List ic)(m:List Pl)(k:bW)(kv:V)(num:Int)(_:vs=[.ref t,kv,.int num])(_:eu P w K C H t od td n ow tk m)(_:cW K H k kv)(_:0<=num)(_:tk.length<100000)(_:(∀p∈(bn m k).drop num.toNat,(bu ow (.inl p)).isSome=true))(_:(bn m k).Nodup)(_:∀(l:Addr)(tk':List ic)H',mf od td H H'->H l=none->H' l=some (.lst (((bn m k).drop num.toNat).reverse.map V.int))->tk'.length<=tk.length+1->fb H tk tk'->eu P w K C H' t od td n (rH ow ((bn m k).drop num.toNat).reverse) tk' (fZ m k kv ((bn m k).take num.toNat))->Q (.ref l) H')
def yk(c:List (bW×d×e))(k:bW)(b:d)(v:e):(fZ c k b v).length<=c.length+1:=by
 unfold fZ
 split
 ·rw[b_];lia
 ·rw[gV];simp
def d9.put(h:d9 K H tk)(d:cW K H k e):d9 K H (fZ tk k e v):=by
 unfold fZ
 split
 ·intro x b;obtain⟨y,c,rfl⟩:=j_.mp b
  split
  ·exact h y c
  ·exact h y c
 ·intro x b;rcases List.mem_append.mp b with b|b
  ·exact h x b
  ·rw[List.mem_singleton.mp b];exact d
section
def nB(T:Txt K mg a):aO P w K mg base cZ 2 a.cD.x a.cD.d ["self","owner","number"] (Hy P w K a.bN):=by
 refine T.cD.ok dF λb0 A outer s H vs Q E hr h=>?_
 ·obtain⟨t,M,u,n,ow,tk,m,k,kv,c,rfl,g,hk,N,b8,R,an,q⟩:=h;refine⟨_,(ag (bd 3 dF.nd (bK (Y 0) T.bp T.bo.m ((fF (P:=P) (w:=w) T).mono (by decide)) hr T.bo.b .nil be (ac (Y 1) O))) (ag (bd 4 dF.nd (zb K rfl rfl (by rfl) T.zm (by rfl) T.zk (cH (su K rfl) (Y 3) (dG (Y 2)) dH))) (ag (eC mo rfl (fj K rfl (Y 4)) (tz 5 dF.nd) (ah (aV (xP (aK K rfl (Y 0)) (Y 5) ⟨rfl,rfl,rfl,rfl⟩)))) (ag (kG (cH (su K rfl) (Y 3) dH (dG (Y 2))) (kI (aK K rfl (Y 0)) (Y 1) (CI (P:=P) (w:=w) K rfl (cU hr)))) (ah (az (Y 4))))))),?_⟩
  obtain⟨dx,hI⟩:=g.ins;refine oE hI rfl rfl (U rfl ⟨t,M,u,n,ow,tk,m,k,kv,rfl,g,hk,λlp H1 s1 b9 I=>aq ?_⟩);have cc:=g.same s1;generalize bn m k=C at R an q I⊢;refine U rfl (U rfl ⟨c,rfl,lp,U rfl ⟨aW.of I,λl2 ap=>?_⟩⟩);rw[Ei _ N,<-List.map_drop];have s2:=aj (o:=.lst ((C.drop c.toNat).map V.int)) s1 ap;have S:aG H1 l2 (.lst ((C.drop c.toNat).map V.int)) l2=some (.lst ((C.drop c.toNat).map V.int)):=af;have D:aG H1 l2 (.lst ((C.drop c.toNat).map V.int)) lp=some (.lst (C.map V.int)):=by rw[ao (aH I ap)];exact I
  generalize aG H1 l2 (.lst ((C.drop c.toNat).map V.int))=H2 at s2 S D⊢;refine⟨l2,U rfl ⟨aW.of S,λW ad=>aq ?_⟩⟩;rw[<-List.map_reverse];generalize as:(C.drop c.toNat).reverse=bk at q⊢;have s3:=aj (o:=.lst (bk.map V.int)) s2 ad;have l:aG H2 W (.lst (bk.map V.int)) W=some (.lst (bk.map V.int)):=af;have F:aG H2 W (.lst (bk.map V.int)) lp=some (.lst (C.map V.int)):=by rw[ao (aH D ad)];exact D
  generalize aG H2 W (.lst (bk.map V.int))=H3 at s3 l F⊢;have r:=g.same s3;obtain⟨al,J⟩:=r.ins;have a7:H W=none:=s2.free ad;have a8:bk.Nodup:=by rw[<-as];exact(List.reverse_perm _).nodup_iff.mpr ((List.drop_sublist _ _).nodup an)
  have ba:∀p∈bk,(bu ow (.inl p)).isSome=true:=λp X=>R p (by rw[<-as]at X;exact Lw.mp X);have ne:∀{b:Addr}{o:HO},H3 b=some o->(∀bb,o≠.dK bb)->(∀φ,o≠.ext φ)->b≠M/\b≠u:=λe h1 h2=>⟨λz=>by rw[z,r.own]at e;cases e;exact h1 _ rfl,λz=>by rw[z,r.tak]at e;cases e;exact h2 _ rfl⟩;have G:=ne l (λ_ z=>nomatch z) (λ_ z=>nomatch z);have av:=ne F (λ_ z=>nomatch z) (λ_ z=>nomatch z);have nt:=ne J (λ_ z=>nomatch z) (λ_ z=>nomatch z);have ax:u≠M:=λz=>by have e:=r.tak;rw[z,r.own]at e;cases e
  refine U rfl ⟨W,rfl,⟨_,aW.of l⟩,?_⟩;refine lV (xs:=bk.map V.int) (λi σ H'=>mf M u H3 H'/\H' M=some (.dK (rH ow (bk.take i)))/\H' u=some (dM P w u tk)/\∃v5,σ=[some (.ref t),some kv,some (.int c),some (.ref lp),some (.ref W),v5]) ⟨.of (ak.refl _),r.own,r.tak,_,rfl⟩ (λi σ H' _ h=>aW.of (h.1 _ _ l G.1 G.2)) ?_ ?_
  ·rintro i x σ H4 Z⟨L,f,y,v5,rfl⟩;have hi:i<bk.length:=by simpa using(d_.mp Z).1
   have X:bk[i]?=some bk[i]:=fy hi;rw[ge,X]at Z;generalize bk[i]=p at Z X;cases Z;have bc:p∉bk.take i:=λz=>by
    obtain⟨j,hj⟩:=ji.mp z;have bi:j<i:=by have:=(d_.mp hj).1;rw[i_]at this;lia
    rw[LY bi]at hj;have:=(LV (d_.mp hj).1 a8).mp (hj.trans X.symm);lia
   obtain⟨v,hv⟩:=E1.mp (ba p (ga X));have bl:bu (rH ow (bk.take i)) (.inl p)=some v:=by rw[pz,g8 bc];exact hv
   have hg:rH ow (bk.take (i+1))=dA (rH ow (bk.take i)) (.inl p):=by unfold rH;rw[qr,X,s_];rfl
   refine aq (U rfl ⟨t,_,al,_,U rfl ⟨L _ _ J nt.1 nt.2,T.bp,T.dW,rfl,M,rfl,.inl ⟨_,.inl f⟩,U rfl ⟨_,.inl p,v,f,rfl,bl,?_⟩⟩⟩);refine⟨λb o e h1 h2=>by rw[ao h1];exact L b o e h1 h2,by rw[hg];exact af,by rw[ao ax];exact y,_,rfl⟩
  ·rintro σ H4⟨L,f,y,v5,rfl⟩;rw[b_,g_ (fx _)]at f;have a2:=L _ _ F av.1 av.2;refine U rfl (U rfl ⟨c,rfl,lp,U rfl ⟨aW.of a2,λl5 a3=>?_⟩⟩);rw[zG _ N,<-Mp];have s5:=aj (o:=.lst ((C.take c.toNat).map V.int)) (ak.refl H4) a3;have B:aG H4 l5 (.lst ((C.take c.toNat).map V.int)) l5=some (.lst ((C.take c.toNat).map V.int)):=af;generalize aG H4 l5 (.lst ((C.take c.toNat).map V.int))=H5 at s5 B⊢;have o5:mf M u H H5:=(mf.of s3).trans (L.trans (.of s5));have aa:=s5 _ _ y;have bt:=d6 o5 g.own g.tak hk;have a5:d9 K H5 tk:=λx Z=>d6 o5 g.own g.tak (g.keys x Z);have n5:l5≠u:=λz=>by rw[z,aa]at B;cases B
   refine U rfl ⟨t,_,al,_,U rfl ⟨s5 _ _ (L _ _ J nt.1 nt.2),T.bp,T.gk,rfl,U rfl ⟨u,tk,k,rfl,aa,a5,bt,by rw[gg];lia,U rfl ?_⟩⟩⟩;have o6:mf M u H (aG H5 u (dM P w u (fZ tk k kv (.ref l5)))):=λb o e h1 h2=>by rw[ao h2];exact o5 b o e h1 h2
   have bz:aG H5 u (dM P w u (fZ tk k kv (.ref l5))) l5=some (.lst ((C.take c.toNat).map V.int)):=by rw[ao n5];exact B
   have a6:H l5=none:=oS ((mf.of s3).trans L) (by rw[f];simp) (by rw[y];simp) a3;refine q W _ _ o6 a7 (by rw[ao G.2];exact s5 _ _ (L _ _ l G.1 G.2)) (yk _ _ _ _) (fb.put a6) ⟨⟨al,by rw[ao nt.2];exact s5 _ _ (L _ _ J nt.1 nt.2)⟩,by rw[ao (mu ax)];exact s5 _ _ f,af,?_,?_⟩
   ·exact d9.put (λx Z=>d6 o6 g.own g.tak (g.keys x Z)) (d6 o6 g.own g.tak hk)
   ·exact eX.put bz (g.lsts.off o6 g.own g.tak)
end
def lT(ow:List (cb×V))(c:V)(d:M0):List (cb×V):=d.foldl (λo p=>eR o (.inl p) c) ow
def rW(c:V)(d:M0):∀(ow:List (cb×V))(j:Int),bu (lT ow c d) (.inl j)=if j∈d then some c else bu ow (.inl j):=by induction d with|nil=>intro ow j;rw[g8 (by simp)];rfl|cons p r b=>
  intro ow j;show bu (lT (eR ow (.inl p) c) c r) (.inl j)=_;rw[b,BZ]
  by_cases h1:j∈r
  ·rw[hQ h1,hQ (hY _ h1)]
  ·rw[g8 h1]
   by_cases h2:j=p
   ·rw[hQ (by rw[h2]),hQ (by rw[h2];exact ir)]
   ·rw[g8 (λz=>h2 (Sum.inl.inj z)),g8 (λz=>(o_.mp z).elim h2 h1)]
def vK(c:V)(d:M0):∀(ow:List (cb×V)),(lT ow c d).length<=ow.length+d.length:=by induction d with|nil=>intro ow;exact fx _|cons p r b=>intro ow;have h1:=b (eR ow (.inl p) c);have h2:=lR ow (.inl p) c;show(lT (eR ow (.inl p) c) c r).length<=_;rw[il];lia
def zC(n:Nat)(ow:List (cb×V)):(gr n ow).length<=n:=by unfold gr;rw[b_];exact ku (sg _ _) (by rw[n7];exact fx _)
inductive Ho(P:MU)(w:World)(K:MP)(C:Addr)(vs:List V)(H:Hp)(Q:VK)(_E:XK):Prop|mk(t od td:Addr)(n:Nat)(ow:List (cb×V))(tk:List ic)(m:List Pl)(k:bW)(kv:V)(num:Int)(_:vs=[.ref t,kv,.int num])(_:eu P w K C H t od td n ow tk m)(_:cW K H k kv)(_:n<=1000)(_:((bn m k).length:Int)<=num)(_:(bn m k).length<=1000000)(_:tk.length<100000)(_:ow.length<1000000)(_:∀(tk':List ic)H',mf od td H H'->tk'.length<=tk.length+1->fb H tk tk'->eu P w K C H' t od td n (lT ow kv ((gr n ow).take (num-(bn m k).length).toNat)) tk' (fZ m k kv (bn m k++(gr n ow).take (num-(bn m k).length).toNat))->Q .non H')
section
def uO(T:Txt K mg a):aO P w K mg base cZ 2 a.fJ.x a.fJ.d ["self","owner","number"] (Ho P w K a.bN):=by
 refine T.fJ.ok gR λbt A outer s H vs Q E hr h=>?_
 ·obtain⟨t,D,l,n,ow,tk,m,k,F,G,rfl,f,hk,hn,aa,a6,bz,b0,q⟩:=h;refine⟨_,(ag (bd 3 gR.nd (bK (Y 0) T.bp T.bo.m ((fF (P:=P) (w:=w) T).mono (by decide)) hr T.bo.b .nil be (ac (Y 1) O))) (ag (bd 4 gR.nd (cH (su K rfl) (lL (Y 0) T.bp T.dN.m ((mW (P:=P) (w:=w) T).mono (by decide)) hr T.dN.b .nil be) dH (dG (au fE (Y 2) (aB (aI K rfl) (by rfl) T.bD L2.aL (ac (Y 3) O)))))) (ag (eC mo rfl (fj K rfl (Y 4)) (tz 5 gR.nd) (ah (kG (Y 1) (kI (aK K rfl (Y 0)) (Y 5) (pD (cU hr)))))) (ah (kG (au pK (Y 3) (Y 4)) (kI (aK K rfl (Y 0)) (Y 1) (CI (P:=P) (w:=w) K rfl (cU hr)))))))),?_⟩
  obtain⟨dx,hI⟩:=f.ins;refine oE hI rfl rfl (U rfl ⟨t,D,l,n,ow,tk,m,k,F,rfl,f,hk,λlp H1 s1 b8 ad=>aq ?_⟩);have a7:=f.same s1;generalize bn m k=C at aa a6 q ad⊢;refine oE (s1 _ _ hI) rfl rfl ⟨t,D,l,n,ow,tk,m,rfl,a7,hn,λa8 H2 s2 b9 al=>?_⟩;have ba:=zC n ow;generalize gr n ow=fs at ba al q;have y:=s2 _ _ ad;refine U rfl (U rfl ⟨_,C.length,rfl,.inl ⟨_,aW.of y,by rw[b_]⟩,G,(C.length:Int),rfl,rfl,G-(C.length:Int),rfl,a8,U rfl ⟨aW.of al,λS an=>aq ?_⟩⟩);rw[zG _ (by omega),<-Mp];generalize bb:fs.take (G-(C.length:Int)).toNat=c at q⊢;have cc:c.length<=1000:=by rw[<-bb,i_];omega
  have s3:=aj (o:=.lst (c.map V.int)) (s1.trans s2) an;have g:aG H2 S (.lst (c.map V.int)) S=some (.lst (c.map V.int)):=af;have B:aG H2 S (.lst (c.map V.int)) lp=some (.lst (C.map V.int)):=by rw[ao (aH y an)];exact y
  generalize aG H2 S (.lst (c.map V.int))=H3 at s3 g B⊢;have r:=f.same s3;obtain⟨W,I⟩:=r.ins;have ne:∀{b:Addr}{o:HO},H3 b=some o->(∀bc,o≠.dK bc)->(∀φ,o≠.ext φ)->b≠D/\b≠l:=λe h1 h2=>⟨λz=>by rw[z,r.own]at e;cases e;exact h1 _ rfl,λz=>by rw[z,r.tak]at e;cases e;exact h2 _ rfl⟩;have J:=ne g (λ_ z=>nomatch z) (λ_ z=>nomatch z);have ap:=ne B (λ_ z=>nomatch z) (λ_ z=>nomatch z);have X:=ne I (λ_ z=>nomatch z) (λ_ z=>nomatch z);have as:l≠D:=λz=>by have e:=r.tak;rw[z,r.own]at e;cases e
  refine U rfl ⟨S,rfl,⟨_,aW.of g⟩,?_⟩;refine lV (xs:=c.map V.int) (λi σ H'=>mf D l H3 H'/\H' D=some (.dK (lT ow F (c.take i)))/\H' l=some (dM P w l tk)/\∃v5,σ=[some (.ref t),some F,some (.int G),some (.ref lp),some (.ref S),v5]) ⟨.of (ak.refl _),r.own,r.tak,_,rfl⟩ (λi σ H' _ h=>aW.of (h.1 _ _ g J.1 J.2)) ?_ ?_
  ·rintro i x σ H4 M⟨L,j,u,v5,rfl⟩;have hi:i<c.length:=by simpa using(d_.mp M).1
   have hp:c[i]?=some c[i]:=fy hi;rw[ge,hp]at M;generalize c[i]=p at M hp;cases M;have hg:lT ow F (c.take (i+1))=eR (lT ow F (c.take i)) (.inl p) F:=by unfold lT;rw[qr,hp,s_];rfl
   have ci:=vK F (c.take i) ow;have ck:=List.length_take_le i c;refine aq (U rfl (U rfl ⟨t,_,W,_,U rfl ⟨L _ _ I X.1 X.2,T.bp,T.dW,rfl,U rfl ⟨D,_,.inl p,rfl,rfl,j,by rw[gg];omega,?_⟩⟩⟩));refine⟨λb o e h1 h2=>by rw[ao h1];exact L b o e h1 h2,by rw[hg];exact af,by rw[ao as];exact u,_,rfl⟩
  ·rintro σ H4⟨L,j,u,v5,rfl⟩;rw[b_,g_ (fx _)]at j;have av:=L _ _ B ap.1 ap.2;have ax:=L _ _ g J.1 J.2;refine U rfl (U rfl ⟨lp,S,_,U rfl ⟨rfl,av,ax,by rw[b_,b_,gg];omega,λN a2=>?_⟩⟩);rw[<-g6];have Z:=aj (o:=.lst ((C++c).map V.int)) (ak.refl H4) a2;have v:aG H4 N (.lst ((C++c).map V.int)) N=some (.lst ((C++c).map V.int)):=af;generalize aG H4 N (.lst ((C++c).map V.int))=H5 at Z v⊢;have o5:mf D l H H5:=(mf.of s3).trans (L.trans (.of Z));have R:=Z _ _ u;have bi:=d6 o5 f.own f.tak hk;have a3:d9 K H5 tk:=λx M=>d6 o5 f.own f.tak (f.keys x M);have n5:N≠l:=λz=>by rw[z,R]at v;cases v
   refine U rfl ⟨t,_,W,_,U rfl ⟨Z _ _ (L _ _ I X.1 X.2),T.bp,T.gk,rfl,U rfl ⟨l,tk,k,rfl,R,a3,bi,by rw[gg];omega,?_⟩⟩⟩;have o6:mf D l H (aG H5 l (dM P w l (fZ tk k F (.ref N)))):=λb o e h1 h2=>by rw[ao h2];exact o5 b o e h1 h2
   have bl:aG H5 l (dM P w l (fZ tk k F (.ref N))) N=some (.lst ((C++c).map V.int)):=by rw[ao n5];exact v
   have a5:H N=none:=oS ((mf.of s3).trans L) (by rw[j];simp) (by rw[u];simp) a2;refine q _ _ o6 (yk _ _ _ _) (fb.put a5) ⟨⟨W,by rw[ao X.2];exact Z _ _ (L _ _ I X.1 X.2)⟩,by rw[ao (mu as)];exact Z _ _ j,af,?_,?_⟩
   ·exact d9.put (λx M=>d6 o6 f.own f.tak (f.keys x M)) (d6 o6 f.own f.tak hk)
   ·exact eX.put bl (f.lsts.off o6 f.own f.tak)
end
structure AS where
 pl:bW->List Int
 oc:Int->Bool
def pb(n:Nat)(oc:Int->Bool):List Int:=((List.range n).filter λ(i:Nat)=>!oc (i:Int)).map λ(i:Nat)=>(i:Int)
def AS.give(s:AS)(k:bW)(c:Nat):AS:=⟨λj=>if j=k then(s.pl k).take c else s.pl j,λp=>if p∈(s.pl k).drop c then false else s.oc p⟩
def AS.took(s:AS)(n:Nat)(k:bW)(c:Nat):AS:=⟨λj=>if j=k then s.pl k++(pb n s.oc).take (c-(s.pl k).length)else s.pl j,λp=>if p∈(pb n s.oc).take (c-(s.pl k).length)then true else s.oc p⟩
structure AS.Ok(n:Nat)(s:AS):Prop where
 in_:∀k p,p∈s.pl k->0<=p/\p<n/\s.oc p=true
 dj:∀k j p,p∈s.pl k->p∈s.pl j->k=j
 nd:∀k,(s.pl k).Nodup
def AS.new:AS:=⟨λ_=>[],λ_=>false⟩
def AS.new_ok(n:Nat):AS.new.Ok n:=⟨λ_ _ h=>(nomatch h),λ_ _ _ h=>(nomatch h),λ_=>LN⟩
def Gf:p∈pb n oc↔0<=p/\p<n/\oc p=false:=by
 unfold pb;rw[j_]
 constructor
 ·rintro⟨i,hi,rfl⟩;obtain⟨h1,h2⟩:=tA.mp hi;have:=q_.mp h1;exact⟨by omega,by omega,by simpa using h2⟩
 ·rintro⟨h1,h2,h3⟩;refine⟨p.toNat,tA.mpr ⟨q_.mpr (by omega),?_⟩,by omega⟩;rw[show((p.toNat:Nat):Int)=p by omega,h3];rfl
def Iz(n:Nat)(oc:Int->Bool):(pb n oc).Nodup:=by unfold pb;rw[z7,List.pairwise_map];exact(z7.mp (List.filter_sublist.nodup List.nodup_range)).imp λh=>by omega
def IA(n:Nat)(oc:Int->Bool):(pb n oc).length<=n:=by unfold pb;rw[b_];exact ku (sg _ _) (by rw[n7];exact fx _)
theorem AS.Ok.give{n:Nat}{s:AS}(h:s.Ok n)(k:bW)(c:Nat):(s.give k c).Ok n:=by
 have f:∀p,p∈(s.pl k).take c->p∉(s.pl k).drop c:=λp h1 h2=>by have:=h.nd k;rw[<-r_ c (s.pl k),ov]at this;exact this.2.2 p h1 p h2 rfl
 have sub:∀j p,p∈(s.give k c).pl j->p∈s.pl j:=λj p d=>by
  have d:p∈(if j=k then(s.pl k).take c else s.pl j):=d
  split at d
  ·rename_i e;rw[e];exact LA d
  ·exact d
 refine⟨λj p d=>?_,λj i p h1 h2=>h.dj j i p (sub j p h1) (sub i p h2),λj=>?_⟩
 ·obtain⟨a,b,e⟩:=h.in_ j p (sub j p d);refine⟨a,b,?_⟩;show(if p∈(s.pl k).drop c then false else s.oc p)=true;rw[g8,e];intro z;have d:p∈(if j=k then(s.pl k).take c else s.pl j):=d
  split at d
  ·exact f p d z
  ·rename_i g;exact g (h.dj j k p d (List.mem_of_mem_drop z))
 ·show(if j=k then(s.pl k).take c else s.pl j).Nodup
  split
  ·exact(LS _ _).nodup (h.nd k)
  ·exact h.nd j
theorem AS.Ok.took{n:Nat}{s:AS}(h:s.Ok n)(k:bW)(c:Nat):(s.took n k c).Ok n:=by
 have fr:∀p∈(pb n s.oc).take (c-(s.pl k).length),0<=p/\p<n/\s.oc p=false:=λp f=>Gf.mp (LA f);have g:((pb n s.oc).take (c-(s.pl k).length)).Nodup:=(LS _ _).nodup (Iz _ _);unfold AS.took;generalize(pb n s.oc).take (c-(s.pl k).length)=l at fr g;have d:∀j p,p∈(if j=k then s.pl k++l else s.pl j)->p∈s.pl j\/(j=k/\p∈l):=λj p f=>by
  split at f
  ·rename_i e;rcases List.mem_append.mp f with z|z
   ·rw[e];exact .inl z
   ·exact .inr ⟨e,z⟩
  ·exact .inl f
 refine⟨λj p f=>?_,λj i p h1 h2=>?_,λj=>?_⟩
 ·show 0<=p/\p<n/\(if p∈l then true else s.oc p)=true;rcases d j p f with z|⟨_,z⟩
  ·obtain⟨a,b,e⟩:=h.in_ j p z;refine⟨a,b,?_⟩
   split
   ·rfl
   ·exact e
  ·exact⟨(fr p z).1,(fr p z).2.1,by rw[hQ z]⟩
 ·rcases d j p h1 with z|⟨m,z⟩<;>rcases d i p h2 with y|⟨o,y⟩
  ·exact h.dj j i p z y
  ·have:=(h.in_ j p z).2.2;rw[(fr p y).2.2]at this;cases this
  ·have:=(h.in_ i p y).2.2;rw[(fr p z).2.2]at this;cases this
  ·rw[m,o]
 ·show(if j=k then s.pl k++l else s.pl j).Nodup
  split
  ·rw[ov];refine⟨h.nd k,g,λa q b r z=>?_⟩;subst z;have h1:=(h.in_ k a q).2.2;rw[(fr a r).2.2]at h1;cases h1
  ·exact h.nd j
abbrev Wl:=List (bW×Int)
def cz(s:AS)(W:Wl):AS:=W.foldl (λs x=>s.give x.1 x.2.toNat) s
def dy:AS->Wl->List Int|_,[]=>[]|s,x::r=>((s.pl x.1).drop x.2.toNat).reverse++dy (s.give x.1 x.2.toNat) r
def c8(n:Nat)(s:AS)(W:Wl):AS:=W.foldl (λs x=>s.took n x.1 x.2.toNat) s
def jm(s:AS)(W:Wl):Int:=(W.map λx=>x.2-((s.pl x.1).length:Int)).sum
def wQ(s:AS)(W:Wl)(x:bW×Int):cz s (W++[x])=(cz s W).give x.1 x.2.toNat:=by unfold cz;rw[s_];rfl
theorem ph:∀(W:Wl)(s:AS)(x:bW×Int),dy s (W++[x])=dy s W++(((cz s W).pl x.1).drop x.2.toNat).reverse|[],s,x=>by show _++[]=[]++_;rw[t_,List.nil_append];rfl|y::r,s,x=>by show _++dy _ (r++[x])=(_++dy _ r)++_;rw[ph r,LW];rfl
def wf(n:Nat)(s:AS)(W:Wl)(x:bW×Int):c8 n s (W++[x])=(c8 n s W).took n x.1 x.2.toNat:=by unfold c8;rw[s_];rfl
theorem iP{n:Nat}:∀(W:Wl){s:AS},s.Ok n->(cz s W).Ok n|[],_,h=>h|x::r,_,h=>iP r (h.give x.1 x.2.toNat)
theorem ki{n:Nat}:∀(W:Wl){s:AS},s.Ok n->(c8 n s W).Ok n|[],_,h=>h|x::r,_,h=>ki r (h.took x.1 x.2.toNat)
def zj(s:AS)(x:bW×Int)(W:Wl):jm s (x::W)=(x.2-((s.pl x.1).length:Int))+jm s W:=by unfold jm;rw[lh,List.sum_cons]
def wG{n:Nat}{c:M0}(h:c.Nodup)(d:∀p∈c,0<=p/\p<n):c.length<=n:=by
 have:=Dl (l:=c) (m:=(List.range n).map λ(i:Nat)=>(i:Int)) h λp b=>by obtain⟨h1,h2⟩:=d p b;exact j_.mpr ⟨p.toNat,q_.mpr (by omega),by omega⟩
 rw[b_,n7]at this;exact this
def IP(K:MP)(H:Hp)(d:List V)(W:Wl):Prop:=Paired (λ(v:V)(x:bW×Int)=>∃b c,v=.ref b/\aX K H b [c,.int x.2]/\cW K H x.1 c) d W
def IP.get(h:IP K H d W)(i:Nat)(v:V)(e:d[i]?=some v):∃x,W[i]?=some x/\∃b c,v=.ref b/\aX K H b [c,.int x.2]/\cW K H x.1 c:=Paired.at_ h i v e
def Di(h:mf d f H H')(h1:H d=some (.dK g))(h2:H f=some (.ext φ))(e:aX K H b c):aX K H' b c:=by have kp:Kp H H':=⟨λu c e=>h.tp h1 h2 e,λu o⟨i,e⟩=>⟨i,h u _ e (λz=>by rw[z,h1]at e;cases e) (λz=>by rw[z,h2]at e;cases e)⟩⟩;exact kp.tq e
def eu.list(h:eu P w K C H t i j n ow tk m)(d:H c=some (.lst bs))(f:∀x∈tk,x.2.2≠.ref c):eu P w K C (aG H c (.lst cs)) t i j n ow tk m:=by
 obtain⟨dx,b⟩:=h.ins;have kp:Kp H (aG H c (.lst cs)):=.lst d;refine⟨⟨dx,by rw[ao (λz=>by rw[z,d]at b;cases b)];exact b⟩,by rw[ao (λz=>by have e:=h.own;rw[z,d]at e;cases e)];exact h.own,by rw[ao (λz=>by have e:=h.tak;rw[z,d]at e;cases e)];exact h.tak,λx k=>?_,?_⟩
 ·exact fq kp (h.keys x k)
 ·have go:∀{tk:List ic}{m:List Pl},eX H tk m->(∀x∈tk,x.2.2≠.ref c)->eX (aG H c (.lst cs)) tk m:=by
   intro tk m h f
   induction h with|nil=>exact .nil|@cons x y v A r t o=>obtain⟨p,q,l,g,s⟩:=r;refine .cons ⟨p,q,l,g,?_⟩ (o λz u=>f z (hY _ u));rw[ao (λz=>f x ir (by rw[g,z]))];exact s
  exact go h.lsts f
theorem eX.at_(h:eX H tk m)(i:Nat)(x:ic)(e:tk[i]?=some x):∃y:Pl,m[i]?=some y/\∃l,x.2.2=.ref l/\H l=some (.lst (y.2.2.map V.int)):=(Paired.at_ h i x e).imp λ_ q=>⟨q.1,q.2.2.2⟩
def D1(c:M0):∀(ow:List (cb×V)),(rH ow c).length<=ow.length:=by induction c with|nil=>intro ow;exact fx _|cons p r b=>intro ow;exact ku (b _) (yy ow (.inl p))
def DJ(f:List (bW×g×h))(k j:bW)(b:g)(v:h):fk (fZ f k b v) j=if j=k then some v else fk f j:=by
 have d:∀c:List (bW×g×h),fk (c.map λy=>if y.1=k then(y.1,y.2.1,v)else y) j=(fk c j).map λx=>if j=k then v else x:=by
  intro c
  induction c with|nil=>rfl|cons z r m=>
   unfold fk at m⊢;rw[lh,pv,pv];have i:(if z.1=k then(z.1,z.2.1,v)else z).1=z.1:=by split<;>rfl
   rw[i]
   by_cases e:z.1=j
   ·rw[j1 e];show some (if z.1=k then(z.1,z.2.1,v)else z).2.2=some (if j=k then v else z.2.2);rw[e]
    split<;>rfl
   ·rw[j2 e];exact m
 have l:∀c:List (bW×g×h),fk c k=none->fk (c++[(k,b,v)]) j=if j=k then some v else fk c j:=by
  intro c i;unfold fk at i⊢;rw[List.find?_append]
  by_cases e:j=k
  ·subst e;rw[hQ rfl,Option.map_eq_none_iff.mp i];simp
  ·rw[g8 e];have:List.find? (λy:bW×g×h=>decide (y.1=j)) [(k,b,v)]=none:=by simp[mu e]
   rw[this,Option.or_none]
 unfold fZ
 by_cases hc:(fk f k).isSome=true
 ·rw[hQ hc,d]
  by_cases e:j=k
  ·subst e;obtain⟨x,n⟩:=E1.mp hc;rw[n,hQ rfl];simp
  ·rw[g8 e];simp[e]
 ·rw[g8 hc];exact l f (by simpa using hc)
def i5(n:Nat)(s:AS)(ow:List (cb×V))(m:List Pl):Prop:=(∀k,bn m k=s.pl k)/\∀p:Int,0<=p->p<n->(bu ow (.inl p)).isSome=s.oc p
def ii(m:List Pl)(k j:bW)(d:V)(c:M0):bn (fZ m k d c) j=if j=k then c else bn m j:=by
 unfold bn;rw[DJ]
 split<;>rfl
def i5.free(h:i5 n s ow m):gr n ow=pb n s.oc:=by
 unfold gr pb
 congr 1
 refine List.filter_congr λi hi=>?_;have:=q_.mp hi;rw[<-h.2 i (by omega) (by omega)];cases bu ow (.inl (i:Int))<;>rfl
theorem i5.give(h:i5 n s ow m)(k:bW)(d:V)(c:Nat):i5 n (s.give k c) (rH ow ((s.pl k).drop c).reverse) (fZ m k d ((s.pl k).take c)):=by
 refine⟨λj=>?_,λp e f=>?_⟩
 ·rw[ii,h.1];rfl
 ·rw[pz];show _=if p∈(s.pl k).drop c then false else s.oc p
  by_cases b:p∈(s.pl k).drop c
  ·rw[hQ b,hQ (Lw.mpr b)];rfl
  ·rw[g8 b,g8 (λz=>b (Lw.mp z))];exact h.2 p e f
theorem i5.took(h:i5 n s ow m)(k:bW)(d:V)(c:Nat):i5 n (s.took n k c) (lT ow d ((pb n s.oc).take (c-(s.pl k).length))) (fZ m k d (s.pl k++(pb n s.oc).take (c-(s.pl k).length))):=by
 refine⟨λj=>?_,λp b e=>?_⟩
 ·rw[ii,h.1];rfl
 ·rw[rW];show _=if p∈(pb n s.oc).take (c-(s.pl k).length)then true else s.oc p
  split
  ·rfl
  ·exact h.2 p b e
def fb.refl(H:Hp)(tk:List ic):fb H tk tk:=λx b=>.inl ⟨x,b,rfl⟩
theorem fb.trans(a:fb H tk c)(b:fb i c d)(h:∀l,i l=none->H l=none):fb H tk d:=λx j=>by
 rcases b x j with⟨y,k,e⟩|⟨l,e,f⟩
 ·rcases a y k with⟨z,m,g⟩|⟨l,g,f⟩
  ·exact .inl ⟨z,m,g.trans e⟩
  ·exact .inr ⟨l,e▸g,f⟩
 ·exact .inr ⟨l,e,h l f⟩
def f9{c:Type}{l:List c}{i:Nat}{x:c}(h:l[i]?=some x):l.take (i+1)=l.take i++[x]:=by rw[qr,h];rfl
theorem qX{n:Nat}:∀(W:Wl){s:AS},s.Ok n->(dy s W).length<=n*W.length|[],_,_=>kw _|x::r,s,h=>by show(_++dy _ r).length<=n*(r.length+1);have c:=qX r (h.give x.1 x.2.toNat);have h1:=wG (h.nd x.1) λp b=>⟨(h.in_ x.1 p b).1,(h.in_ x.1 p b).2.1⟩;rw[gV,LK,Lx,Nat.mul_add,Nat.mul_one];lia
def qd{K:MP}{a:Addr}{xs:List V}{g:TG}{tb:TS}{D:lg}{c:St}{H:Hp}(Pv:Nat->St->Hp->Prop)(h0:Pv 0 c H)(f:∀i c H,i<=xs.length->Pv i c H->aW K H a xs)(h:∀i x c H,xs[i]?=some x->Pv i c H->∀(N:St->Hp->Prop)(R:VK)(B:St->Hp->Prop),(∀c H,Pv (i+1) c H->N c H)->g x c H λd j=>tb ⟨N,R,B,N⟩ d j)(hd:∀c H,Pv xs.length c H->D.nx c H):=lV (K:=K) (a:=a) (g:=g) (tb:=tb) (D:=D) Pv h0 f (λi x c H e p=>h i x c H e p _ D.rt _ λ_ _ q=>q) hd
def uq(R:bW->V->Prop)(n:Nat)(s:AS)(ow:List (cb×V)):Prop:=∀(p:Int)(v:V),0<=p->p<n->bu ow (.inl p)=some v->∃k,p∈s.pl k/\R k v
theorem uq.give(h:uq R n s ow)(k:bW)(c:Nat):uq R n (s.give k c) (rH ow ((s.pl k).drop c).reverse):=by
 intro p v d f e;rw[pz]at e
 split at e
 ·cases e
 ·rename_i g;obtain⟨j,b,r⟩:=h p v d f e;refine⟨j,?_,r⟩;show p∈if j=k then(s.pl k).take c else s.pl j
  split
  ·rename_i i;rw[i,<-r_ c (s.pl k),List.mem_append]at b;exact b.resolve_right λz=>g (Lw.mpr z)
  ·exact b
theorem uq.took(h:uq R n s ow)(k:bW)(d:R k f)(c:Nat):uq R n (s.took n k c) (lT ow f ((pb n s.oc).take (c-(s.pl k).length))):=by
 intro p v g i e;rw[rW]at e
 split at e
 ·rename_i l;cases e;refine⟨k,?_,d⟩;show p∈if k=k then s.pl k++(pb n s.oc).take (c-(s.pl k).length)else s.pl k
  rw[hQ rfl];exact me _ l
 ·obtain⟨j,b,r⟩:=h p v g i e;refine⟨j,?_,r⟩;show p∈if j=k then s.pl k++(pb n s.oc).take (c-(s.pl k).length)else s.pl j
  split
  ·rename_i m;rw[m]at b;exact vu _ b
  ·exact b
def uq.mono(h:uq R n s ow)(f:∀k v,R k v->c k v):uq c n s ow:=λp v b d e=>let⟨k,h1,h2⟩:=h p v b d e;⟨k,h1,f k v h2⟩
inductive Cc(P:MU)(w:World)(K:MP)(C N:Addr)(vs:List V)(H:Hp)(Q:VK)(E:XK):Prop|mk(t od td wl:Addr)(n:Nat)(ow:List (cb×V))(tk:List ic)(m:List Pl)(S:AS)(W:Wl)(ts:List V)(_:vs=[.ref t,.ref wl])(_:eu P w K C H t od td n ow tk m)(_:i5 n S ow m)(_:uq (cW K H) n S ow)(_:S.Ok n)(_:H wl=some (.lst ts))(_:IP K H ts W)(_:(∀x∈W,0<=x.2))(_:(W.map (·.1)).Nodup)(_:W.length<=5)(_:n<=1000)(_:tk.length<=5000)(_:ow.length<=500000)(_:(jm S W<=((pb n S.oc).length:Int)->∀(l:Addr)(ow':List (cb×V))(tk':List ic)(m':List Pl)H',mf od td H H'->eu P w K C H' t od td n ow' tk' m'->i5 n (c8 n (cz S W) W) ow' m'->uq (cW K H) n (c8 n (cz S W) W) ow'->H l=none->H' l=some (.lst ((dy S W).map V.int))->fb H tk tk'->(∀x∈tk',x.2.2≠.ref l)->tk'.length<=tk.length+10->ow'.length<=ow.length+5000->Q (.ref l) H'))(_:(((pb n S.oc).length:Int)<jm S W->∀H',ak H H'->E (.ref N) none H'))
section
def mV(T:Txt K mg a):aO P w K mg base (wb P w) 3 a.dL.x a.dL.d ["self","wanted"] (Cc P w K a.bN a.mh):=by
 refine T.dL.okE dh λes A outer s H vs Q E hr h=>?_
 ·obtain⟨t,od,td,wl,n,ow,tk,m,S,W,ts,rfl,hT,hS,hR,hO,ci,hW,c3,ef,ev,hn,ew,ey,q,qe⟩:=h;refine⟨_,(ag (bd 2 dh.nd (aB (BJ K rfl rfl) (by rfl) T.J0 L2.Eu (ac (qj ix [] [4,5] [4,5] (ai kC) (wP _ 4 5) (fj K rfl (Y 1)) (λcl C s₀ H₀ ex=>⟨(ik K rfl rfl (bT (mG ix [] 4) (bT (mG ix [] 5) ij))),bJ,(au fE (Y 5) (aB (aI K rfl) (by rfl) T.bD L2.aL (ac (bK (Y 0) T.bp T.bo.m ((fF (P:=P) (w:=w) T).mono (by decide)) hr T.bo.b .nil be (ac (Y 4) O)) O)))⟩)) O))) (ag (aM (aD qL (Y 2) (aB (aI K rfl) (by rfl) T.bD L2.aL (ac (lL (Y 0) T.bp T.dN.m ((mW (P:=P) (w:=w) T).mono (by decide)) hr T.dN.b .nil be) O)) (aE _)) (ah (xM T.BC rfl T.DG rfl xJ (ac ay O))) aC) (ag (bd 3 dh.nd (a0 O)) (ag (PS.nox (eC mo rfl (fj K rfl (Y 1)) (ik K rfl rfl (bT (tz 4 dh.nd) (bT (tz 5 dh.nd) ij))) (ah (aV (cI K rfl PySem.F.plainAttrs_list PySem.F.slot_list_extend PySem.F.type_list_extend vB (Y 3) (ac (bK (Y 0) T.bp T.cD.m ((nB (P:=P) (w:=w) T).mono (by decide)) hr T.cD.b .nil be (ac (Y 4) (ac (Y 5) O))) O)))))) (ag (PS.nox (eC mo rfl (fj K rfl (Y 1)) (ik K rfl rfl (bT (tz 4 dh.nd) (bT (tz 5 dh.nd) ij))) (ah (aV (bK (Y 0) T.bp T.fJ.m ((uO (P:=P) (w:=w) T).mono (by decide)) hr T.fJ.b .nil be (ac (Y 4) (ac (Y 5) O))))))) (ah (az (Y 3)))))))),?_⟩
  obtain⟨dx,hI⟩:=hT.ins;have eg:ts.length=W.length:=Paired.length hW;refine U rfl ⟨wl,rfl,⟨_,aW.of ci⟩,λD hD=>?_⟩;refine j9 (K:=K) (a:=wl) (xs:=ts) (λi a3 H'=>ak H H'/\H' D=some (.lst a3)/\a3=((W.take i).map λx=>x.2-((S.pl x.1).length:Int)).map V.int) ⟨aj (ak.refl _) hD,af,rfl⟩ (λi a3 H' _ h=>aW.of (h.1 _ _ ci)) ?_ ?_
  ·rintro i v a3 H1 hv⟨s1,bc,rfl⟩;have hi:i<ts.length:=(d_.mp hv).1;obtain⟨x,hx,b,kv,rfl,hb,hk⟩:=hW.get i v hv;refine⟨b,U rfl ⟨ak.tseq s1 hb,rfl,_,U rfl (aq ⟨_,U rfl (aq ⟨rfl,gU (bq ?_)⟩)⟩)⟩⟩;refine U rfl (oE (s1 _ _ hI) rfl rfl (U rfl ⟨t,od,td,n,ow,tk,m,x.1,kv,rfl,hT.same s1,nG s1 hk,λlp H2 s2 ez ei=>?_⟩));refine⟨_,U rfl ⟨.inl ⟨_,aW.of ei,rfl⟩,_,U rfl ⟨rfl,s2 _ _ bc,by rw[b_,b_,i_,gg];lia,lf hi ⟨bC (s1.trans s2) hD,af,?_⟩⟩⟩⟩;rw[f9 hx,g6,g6,hS.1,b_];rfl
  ·rintro a3 H1⟨s1,bc,rfl⟩;rw[g_ (by lia)]at bc;refine⟨D,U rfl ⟨.inl (aW.of bc),aq ?_⟩⟩;have ej:=hT.same s1;refine U rfl (oE (s1 _ _ hI) rfl rfl ⟨t,od,td,n,ow,tk,m,rfl,ej,hn,λeG H2 s2 eH c4=>?_⟩);rw[hS.free]at c4;refine⟨_,U rfl ⟨.inl ⟨_,aW.of c4,rfl⟩,_,U rfl ⟨rfl,U rfl ?_⟩⟩⟩;have X:=s1.trans s2;rw[b_];refine tT (λe=>⟨ls rfl,qe (op e) H2 X⟩) (λe=>Bl ⟨ls rfl,λZ ap=>aq ?_⟩);have q:=q (Int.not_lt.mp (of_decide_eq_false e));clear e qe;have as:=hT.same X;have s3:=aj (o:=.lst []) (ak.refl H2) ap;have bz:aG H2 Z (.lst []) Z=some (.lst []):=af;have da:H Z=none:=X.free ap;generalize aG H2 Z (.lst [])=H3 at s3 bz⊢;have r:=X _ _ ci;refine U rfl ⟨wl,rfl,⟨_,aW.of (s3 _ _ r)⟩,?_⟩;have a5:Z≠od:=λz=>by have e:=as.own;rw[<-z,ap]at e;cases e
   have a6:Z≠td:=λz=>by have e:=as.tak;rw[<-z,ap]at e;cases e
   have dc:wl≠od:=λz=>by have e:=as.own;rw[<-z,r]at e;cases e
   have di:wl≠td:=λz=>by have e:=as.tak;rw[<-z,r]at e;cases e
   have av:wl≠od/\wl≠td:=⟨dc,di⟩;have dt:∀x∈tk,x.2.2≠.ref Z:=λx hx z=>by obtain⟨i,hi⟩:=ji.mp hx;obtain⟨y,_,l,e3,e4⟩:=eX.at_ as.lsts i x hi;rw[e3]at z;cases z;rw[ap]at e4;cases e4
   have dv:fb H2 tk tk:=fb.refl _ _;have fresh:∀H',mf od td H2 H'->H' od≠none->H' td≠none->∀l,H' l=none->H2 l=none:=λH' o h1 h2 l hl=>oS o h1 h2 hl;refine qd (xs:=ts) (λi σ H'=>KD λg J m'=>KG (mf od td H2 H') (eu P w K a.bN H' t od td n g J m') ((i5 n (cz S (W.take i)) g m'/\uq (cW K H) n (cz S (W.take i)) g)) (fb H2 tk J) (J.length<=tk.length+i) (g.length<=ow.length) ((∀x∈J,x.2.2≠.ref Z)) (H' Z=some (.lst ((dy S (W.take i)).map V.int))) ((∀j x,j<i->W[j]?=some x->((bn m' x.1).length:Int)<=x.2)) (KD λv2 v4 v5=>σ=[some (.ref t),some (.ref wl),v2,some (.ref Z),v4,v5])) ⟨ow,tk,m,.of s3,as.same s3,⟨hS,hR⟩,dv,fx _,fx _,dt,bz,λj x hj=>absurd hj (MK _),_,_,_,rfl⟩ (λi σ H' _ h=>by obtain⟨_,_,_,o,_⟩:=h;exact aW.of (o _ _ r av.1 av.2)) ?_ ?_
   ·rintro i v σ H4 hv⟨g,J,m',o4,ax,⟨a2,bi⟩,a7,dK,dT,a8,u,al,v2,v4,v5,rfl⟩N R B hN;have hi:i<ts.length:=(d_.mp hv).1;obtain⟨x,hx,b,kv,rfl,hb,hk⟩:=hW.get i v hv;have dV:=c3 x (ga hx);obtain⟨eM,ek⟩:=ax.ins;have d1:mf od td H H4:=(mf.of X).trans o4;have ad:=iP (W.take i) hO;have bl:=f9 hx;have k:=a2.1 x.1;have d2:(bn m' x.1).length<=n:=by rw[k];exact wG (ad.nd x.1) λp hp=>⟨(ad.in_ x.1 p hp).1,(ad.in_ x.1 p hp).2.1⟩
    have eN:=qX (W.take i) hO;have ep:n*(W.take i).length<=1000*5:=Nat.mul_le_mul hn (by rw[i_];lia);refine⟨b,U rfl ⟨Di d1 hT.own hT.tak hb,rfl,_,U rfl (aq ⟨_,U rfl (aq ⟨rfl,?_⟩)⟩)⟩⟩;refine U rfl ⟨.inl ⟨rfl,_,aW.of u⟩,oE ek rfl rfl (U rfl (U rfl ⟨t,od,td,n,g,J,m',x.1,kv,x.2,rfl,ax,d6 d1 hT.own hT.tak hk,dV,by lia,λp hp=>?_,by rw[k];exact ad.nd x.1,λl f H5 o5 eY d3 b0 G L=>?_⟩))⟩
    ·rw[k]at hp;obtain⟨p0,p1,p2⟩:=ad.in_ x.1 p (List.mem_of_mem_drop hp);rw[a2.2 p p0 p1];exact p2
    ·have b8:=o5 _ _ u a5 a6;have I:∀y∈f,y.2.2≠.ref Z:=λy hy z=>by
      rcases G y hy with⟨y',ck,e⟩|⟨l',e,ba⟩
      ·exact a8 y' ck (e.trans z)
      ·rw[e]at z;cases z;rw[u]at ba;cases ba
     have d4:(rH g ((bn m' x.1).drop x.2.toNat).reverse).length<=g.length:=D1 _ _;have c0:fb H2 tk f:=a7.trans G (fresh H4 o4 (by rw[ax.own];simp) (by rw[ax.tak];simp));have aa:=a2.give x.1 kv x.2.toNat;rw[k]at d3 L d4;refine⟨Z,l,_,U rfl ⟨rfl,b8,d3,by rw[b_,b_,LK,Lx,gg];rw[k]at d2;lia,?_⟩⟩;refine hN _ _ ⟨_,f,_,λc o e h1 h2=>?_,L.list b8 I,by rw[bl,wQ];exact⟨aa,bi.give x.1 x.2.toNat⟩,c0,by omega,by omega,I,?_,λj y hj hy=>?_,_,_,_,rfl⟩
     ·rw[ao (λz=>by rw[z,ap]at e;cases e)];exact o5 _ _ (o4 c o e h1 h2) h1 h2
     ·rw[bl,ph,g6];exact af
     ·rw[ii]
      split
      ·rename_i e;rcases L9 j i with bb|bb
       ·have h1:=al j y bb hy;rw[e,k]at h1;rw[i_];lia
       ·have:j=i:=by lia
        subst this;rw[hx]at hy;cases hy;rw[i_];lia
      ·rename_i e;rcases L9 j i with bb|bb
       ·exact al j y bb hy
       ·have:j=i:=by lia
        subst this;rw[hx]at hy;cases hy;exact absurd rfl e
   ·rintro σ H4⟨g,J,m',o4,ax,⟨a2,bi⟩,a7,dK,dT,a8,u,al,v2,v4,v5,rfl⟩;rw[g_ (by lia)]at a2 bi u;have ad:=iP W hO;refine U rfl ⟨wl,rfl,⟨_,aW.of (o4 _ _ r av.1 av.2)⟩,?_⟩;refine qd (xs:=ts) (λi σ H'=>KD λM f m5=>KG (mf od td H2 H') (eu P w K a.bN H' t od td n M f m5) ((i5 n (c8 n (cz S W) (W.take i)) M m5/\uq (cW K H) n (c8 n (cz S W) (W.take i)) M)) (fb H2 tk f) ((∀x∈f,x.2.2≠.ref Z)) (H' Z=some (.lst ((dy S W).map V.int))) (f.length<=J.length+i) (M.length<=g.length+1000*i) ((∀j x,i<=j->W[j]?=some x->((bn m5 x.1).length:Int)<=x.2)) (EL λv4 v5=>σ=[some (.ref t),some (.ref wl),v2,some (.ref Z),v4,v5])) ⟨g,J,m',o4,ax,⟨a2,bi⟩,a7,a8,u,fx _,fx _,λj x _ hx=>al j x (by rw[eg];exact(d_.mp hx).1) hx,_,_,rfl⟩ (λi σ H' _ h=>by obtain⟨_,_,_,o,_⟩:=h;exact aW.of (o _ _ r av.1 av.2)) ?_ ?_
    ·rintro i v σ H5 hv⟨M,f,m5,o5,L,⟨aa,bt⟩,G,I,an,b0,d5,b9,v4,v5,rfl⟩N R B hN;have hi:i<ts.length:=(d_.mp hv).1;obtain⟨x,hx,b,kv,rfl,hb,hk⟩:=hW.get i v hv;have dV:=c3 x (ga hx);obtain⟨e0,el⟩:=L.ins;have ea:mf od td H H5:=(mf.of X).trans o5;have c1:=ki (W.take i) ad;have bl:=f9 hx;have k:=aa.1 x.1;have d2:(bn m5 x.1).length<=n:=by rw[k];exact wG (c1.nd x.1) λp hp=>⟨(c1.in_ x.1 p hp).1,(c1.in_ x.1 p hp).2.1⟩
     have c2:=b9 i x (fx _) hx;refine⟨b,U rfl ⟨Di ea hT.own hT.tak hb,rfl,_,U rfl (aq ⟨_,U rfl (aq ⟨rfl,?_⟩)⟩)⟩⟩;refine oE el rfl rfl (U rfl (U rfl ⟨t,od,td,n,M,f,m5,x.1,kv,x.2,rfl,L,d6 ea hT.own hT.tak hk,hn,c2,by lia,by lia,by lia,λeb H6 o6 eq cc ec=>?_⟩));have en:(x.2-((bn m5 x.1).length:Int)).toNat=x.2.toNat-(((c8 n (cz S W) (W.take i)).pl x.1).length):=by rw[<-k];lia
     rw[en,aa.free,k]at ec;have d4:=vK kv ((pb n (c8 n (cz S W) (W.take i)).oc).take (x.2.toNat-(((c8 n (cz S W) (W.take i)).pl x.1).length))) M;have er:((pb n (c8 n (cz S W) (W.take i)).oc).take (x.2.toNat-(((c8 n (cz S W) (W.take i)).pl x.1).length))).length<=1000:=by have:=IA n (c8 n (cz S W) (W.take i)).oc;rw[i_];lia
     have eo:=aa.took x.1 kv x.2.toNat;have ed:∀y∈eb,y.2.2≠.ref Z:=λy hy z=>by
      rcases cc y hy with⟨y',ck,e⟩|⟨l',e,ba⟩
      ·exact I y' ck (e.trans z)
      ·rw[e]at z;cases z;rw[an]at ba;cases ba
     refine hN _ _ ⟨_,eb,_,o5.trans o6,ec,by rw[bl,wf];exact⟨eo,bt.took x.1 hk x.2.toNat⟩,G.trans cc (fresh H5 o5 (by rw[L.own];simp) (by rw[L.tak];simp)),ed,o6 _ _ an a5 a6,by omega,by omega,λj y hj hy=>?_,_,_,rfl⟩;rw[ii,g8 (λz=>?_)]
     ·exact b9 j y (by lia) hy
     ·have e1:(W.map (·.1))[j]?=some x.1:=by rw[ge,hy,<-z];rfl
      have e2:(W.map (·.1))[i]?=some x.1:=by rw[ge,hx];rfl
      have:=(LV (d_.mp e1).1 ef).mp (e1.trans e2.symm);lia
    ·rintro σ H5⟨M,f,m5,o5,L,⟨aa,bt⟩,G,I,an,b0,d5,_,v4,v5,rfl⟩;rw[g_ (by lia)]at aa bt;exact U rfl (q Z M f m5 H5 ((mf.of X).trans o5) L aa bt da an (fb.trans (fb.refl H tk) G λl hl=>X.free hl) I (by lia) (by lia))
end
abbrev gd(ns:M0)(k:Nat):Int:=ns.getD k 0
def zE(c gs:M0):Nat->Nat|0=>0|n+1=>if gd c (n+1)*(gd gs (zE c gs n)+1)>gd c (zE c gs n)*(gd gs (n+1)+1)then n+1 else zE c gs n
theorem wS(c gs:M0):∀n,zE c gs n<=n
 |0=>fx _|n+1=>by
  have:=wS c gs n;unfold zE
  split<;>lia
def deal(c:M0):Nat->List Int|0=>List.replicate c.length 0|n+1=>(deal c n).set (zE c (deal c n) (c.length-1)) (gd (deal c n) (zE c (deal c n) (c.length-1))+1)
theorem lX(c:M0):∀n,(deal c n).length=c.length|0=>by simp[deal]|n+1=>by rw[deal,ry,lX c n]
def Ix(ns:M0)(i j:Nat)(v:Int)(h:i<ns.length):gd (ns.set i v) j=if i=j then v else gd ns j:=by
 unfold gd;rw[t6,t6,LU]
 by_cases e:i=j
 ·rw[hQ e,hQ e];simp[h]
 ·rw[g8 e,g8 e]
theorem wT(c:M0):∀n k,0<=gd (deal c n) k/\gd (deal c n) k<=n
 |0,k=>by
  have e:gd (deal c 0) k=0:=by
   unfold gd deal;rw[t6,List.getElem?_replicate]
   split<;>rfl
  rw[e];exact⟨MI _,by lia⟩|n+1,k=>by
  have b:=wT c n
  by_cases h0:c.length=0
  ·have:(deal c (n+1)).length=0:=by rw[lX,h0]
   have e:=ol.mp this;rw[e];exact⟨MI _,by show(0:Int)<=_;lia⟩
  ·have d:=wS c (deal c n) (c.length-1);rw[deal,Ix _ _ _ _ (by rw[lX];lia)]
   split
   ·have:=b (zE c (deal c n) (c.length-1));lia
   ·have:=b k;lia
inductive Hu(K:MP)(vs:List V)(H:Hp)(Q:VK)(_E:XK):Prop|mk(wt gl:Addr)(ws gs:M0)(_:vs=[.ref wt,.ref gl])(_:aX K H wt (ws.map V.int))(_:aW K H gl (gs.map V.int))(_:gs.length=ws.length)(_:0<ws.length)(_:ws.length<=4)(_:(∀k,0<=gd gs k/\gd gs k<=2000))(_:Q (.int (zE ws gs (ws.length-1):Nat)) H)
inductive Fj(K:MP)(vs:List V)(H:Hp)(Q:VK)(_E:XK):Prop|mk(n:Nat)(wt:Addr)(ws:M0)(_:vs=[.int n,.ref wt])(_:n<=2000)(_:aX K H wt (ws.map V.int))(_:0<ws.length)(_:ws.length<=4)(_:∀t H',ak H H'->H' t=some (.tup ((deal ws n).map V.int))->Q (.ref t) H')
section
def xY(T:Txt K mg a):aO P w K mg base cZ 1 a.j0.x a.j0.d ["weights","given"] (Hu K):=by
 refine T.j0.ok i8 λl A outer s H t Q E u h=>?_
 ·obtain⟨m,gl,b,gs,rfl,c,g,j,y,l4,k,q⟩:=h;refine⟨_,(ag (bd 2 i8.nd ae) (ag (eC mo rfl (vy rfl T.gp (ac ae (ac (aB (aI K rfl) (by rfl) T.bD L2.aL (ac (Y 0) O)) O))) (tz 3 i8.nd) (ah (aM (aD qL (au gy (cC K (Y 0) (Y 3)) (au bP (iq K (Y 1) (Y 2)) ae)) (au gy (cC K (Y 0) (Y 2)) (au bP (iq K (Y 1) (Y 3)) ae)) (aE _)) (ah (bd 2 i8.nd (Y 3))) aC))) (ah (az (Y 2))))),?_⟩
  refine U rfl ⟨_,b.length,rfl,.inr ⟨_,c,by simp⟩,_,U rfl ⟨⟨by decide,by decide,by lia,by lia⟩,?_⟩⟩;refine j8 (lo:=1) (n:=((b.length:Int)-1).toNat) (λi f H'=>H=H'/\∃v,f=[some (.ref m),some (.ref gl),some (.int (zE b gs i:Nat)),v]) ⟨rfl,_,rfl⟩ ?_ ?_
  ·rintro i f _ hi⟨rfl,v,rfl⟩;have hd:=wS b gs i;have o:0<=gs.getD (zE b gs i) 0/\gs.getD (zE b gs i) 0<=2000:=k (zE b gs i);have p:0<=gs.getD (i+1) 0/\gs.getD (i+1) 0<=2000:=k (i+1);have r:((1:Int)+(i:Int))=((i+1:Nat):Int):=by lia
   refine U rfl (U rfl (rX c (mE (by lia) (by lia)) (U rfl (U rfl (rX g (mE (by lia) (by lia)) (r2 (r2 ?_)))))));refine⟨.inr ⟨?_,?_⟩,?_⟩
   ·simp only[n_];lia
   ·simp only[n_];lia
   refine U rfl (U rfl (rX c (mE (by lia) (by lia)) (U rfl (U rfl (rX g (mE (by lia) (by lia)) (r2 (r2 ?_)))))));rw[r];refine⟨.inr ⟨?_,?_⟩,?_⟩
   ·simp only[n_];lia
   ·simp only[n_];lia
   refine r2 (U rfl ?_);simp only[n_];refine lS (λh=>?_) (λh=>?_)
   ·refine U rfl ⟨rfl,some (.int ((i+1:Nat):Int)),?_⟩;rw[zE,hQ h];rfl
   ·refine⟨rfl,some (.int ((i+1:Nat):Int)),?_⟩;rw[zE,g8 h];rfl
  ·rintro f _⟨rfl,v,rfl⟩;have e:((b.length:Int)-1).toNat=b.length-1:=by lia
   rw[e];exact U rfl q
def Db(T:Txt K mg a):aO P w K mg base cZ 2 a.vQ.x a.vQ.d ["total","weights"] (Fj K):=by
 refine T.vQ.ok nW λC A outer s H N Q E D h=>?_
 ·obtain⟨n,f,b,rfl,hn,y,F,l4,q⟩:=h;refine⟨_,(ag (bd 2 nW.nd (au C6 (a0 (ac ae O)) (aB (aI K rfl) (by rfl) T.bD L2.aL (ac (Y 1) O)))) (ag (eC mo rfl (eS rfl T.gp (ac (Y 0) O)) (tz 3 nW.nd) (ag (bd 4 nW.nd (pc T.j0 (xY T) D (ac (Y 1) (ac (Y 2) O)))) (ah (kG (au bP (iq K (Y 2) (Y 4)) ae) (kI (Y 2) (Y 4) CH))))) (ah (az (bx (fV K rfl) (by rfl) T.df L2.bE (ac (Y 2) O)))))),?_⟩
  refine⟨ls rfl,λl z=>?_⟩;have j:aX K (aG H l (.lst [.int 0])) f (b.map V.int):=ak.tseq (aj (ak.refl H) z) y;refine U rfl ⟨_,b.length,rfl,.inr ⟨_,j,by simp⟩,l,_,U rfl ⟨rfl,af,by lia,by lia,cS (by simp;lia),λg hg=>?_⟩⟩;have G:ak H (aG (aG H l (.lst [.int 0])) g (.lst (List.replicate (b.length:Int).toNat [V.int 0]).flatten)):=aj (aj (ak.refl H) z) hg;have I:(List.replicate (b.length:Int).toNat [V.int 0]).flatten=(deal b 0).map V.int:=by
   rw[n_,deal,List.map_replicate];generalize b.length=m
   induction m with|zero=>rfl|succ m J=>rw[p_,z3,J,p_];rfl
  have o:H g=none:=(Id hg).2;refine U rfl ⟨(n:Int),rfl,by lia,by lia,?_⟩;refine j8 (lo:=0) (n:=(n:Int).toNat) (λi p H'=>ak H H'/\H' g=some (.lst ((deal b i).map V.int))/\(EL λr u=>p=[some (.int n),some (.ref f),some (.ref g),r,u])) ⟨G,by rw[af,I],_,_,rfl⟩ ?_ ?_
  ·rintro i p L hi⟨e,c,r,u,rfl⟩;have B:=wT b i;have hd:=wS b (deal b i) (b.length-1);have v:=lX b i;refine U rfl (U rfl ⟨f,g,b,deal b i,rfl,ak.tseq e y,aW.of c,v,F,l4,λk=>⟨(B k).1,by have:=(B k).2;lia⟩,?_⟩);refine U rfl (U rfl (rX (aW.of c) (mE (by lia) (by lia)) (r2 ?_)));refine U rfl (U rfl ⟨g,_,_,U rfl ⟨rfl,c,F9 (by lia) (by simp;lia),?_⟩⟩);refine⟨bC e o,?_,_,_,rfl⟩;rw[af];simp only[n_];rw[yj];rfl
  ·rintro p L⟨e,c,r,u,rfl⟩;refine U rfl ⟨g,U rfl (.inl ⟨aW.of c,λt M=>?_⟩)⟩;exact q t _ (aj e M) af
end
inductive xq(C:Addr)(vs:List V)(H:Hp)(Q:VK)(_E:XK):Prop|mk(t dx ar ru sh:Addr)(hm:Str)(_:vs=[.ref t,.str hm,.ref ar,.ref ru,.ref sh])(_:H t=some (.ins C dx []))(_:∀(ba:Addr)H',H ba=none->(∀b o,H b=some o->b≠t->H' b=some o)->H' t=some (.ins C dx [("home",.str hm),("arms",.ref ar),("rule",.ref ru),("shuts",.ref sh),("paused",.bl false),("closed",.bl false),("barred",.ref ba)])->H' ba=some (.dK [])->Q .non H')
section
def rh(T:Txt K mg a):aO P w K mg base cZ 1 a.dJ.x a.dJ.d ["self","home","arms","rule","shuts"] (xq a.fA):=by
 refine T.dJ.ok rb λk A outer s H m Q E n h=>?_
 ·obtain⟨t,dx,ar,ru,sh,hm,rfl,l,q⟩:=h;refine⟨_,(ag (cn K rfl (Y 0) (Y 1)) (ag (cn K rfl (Y 0) (Y 2)) (ag (cn K rfl (Y 0) (Y 3)) (ag (cn K rfl (Y 0) (Y 4)) (ag (cn K rfl (Y 0) gi) (ag (cn K rfl (Y 0) gi) (ah (cn K rfl (Y 0) jW)))))))),?_⟩
  refine U rfl (U rfl ⟨t,_,dx,U rfl ⟨l,T.bh,T.jy,by simp,?_⟩⟩);rw[show gf "home" (V.str hm) []=([("home",V.str hm)]:List (Str×V))from rfl];refine U rfl (U rfl ⟨t,_,dx,U rfl ⟨af,T.bh,T.gT,by simp,?_⟩⟩);rw[eh,show gf "arms" (V.ref ar) [("home",V.str hm)]=([("home",V.str hm),("arms",V.ref ar)]:List (Str×V))from rfl];refine U rfl (U rfl ⟨t,_,dx,U rfl ⟨af,T.bh,T.mY,by simp,?_⟩⟩);rw[eh,show gf "rule" (V.ref ru) [("home",V.str hm),("arms",V.ref ar)]=([("home",V.str hm),("arms",V.ref ar),("rule",V.ref ru)]:List (Str×V))from rfl];refine U rfl (U rfl ⟨t,_,dx,U rfl ⟨af,T.bh,T.lQ,by simp,?_⟩⟩);rw[eh,show gf "shuts" (V.ref sh) [("home",V.str hm),("arms",V.ref ar),("rule",V.ref ru)]=([("home",V.str hm),("arms",V.ref ar),("rule",V.ref ru),("shuts",V.ref sh)]:List (Str×V))from rfl];refine U rfl ⟨t,_,dx,U rfl ⟨af,T.bh,T.hV,by simp,?_⟩⟩;rw[eh,show gf "paused" (V.bl false) [("home",V.str hm),("arms",V.ref ar),("rule",V.ref ru),("shuts",V.ref sh)]=([("home",V.str hm),("arms",V.ref ar),("rule",V.ref ru),("shuts",V.ref sh),("paused",V.bl false)]:List (Str×V))from rfl];refine U rfl ⟨t,_,dx,U rfl ⟨af,T.bh,T.dU,by simp,?_⟩⟩;rw[eh,show gf "closed" (V.bl false) [("home",V.str hm),("arms",V.ref ar),("rule",V.ref ru),("shuts",V.ref sh),("paused",V.bl false)]=([("home",V.str hm),("arms",V.ref ar),("rule",V.ref ru),("shuts",V.ref sh),("paused",V.bl false),("closed",V.bl false)]:List (Str×V))from rfl];refineλf c=>?_;have i:t≠f:=λz=>by rw[<-z,af]at c;cases c
  refine U rfl ⟨t,_,dx,U rfl ⟨by rw[ao i];exact af,T.bh,T.ia,by simp,?_⟩⟩;rw[show gf "barred" (V.ref f) [("home",V.str hm),("arms",V.ref ar),("rule",V.ref ru),("shuts",V.ref sh),("paused",V.bl false),("closed",V.bl false)]=([("home",V.str hm),("arms",V.ref ar),("rule",V.ref ru),("shuts",V.ref sh),("paused",V.bl false),("closed",V.bl false),("barred",V.ref f)]:List (Str×V))from rfl];have g:H f=none:=by rw[ao (mu i)]at c;exact c
  refine q f _ g (λb o e j=>?_) af (by rw[ao (mu i)];exact af);rw[ao j,ao (aH e g),ao j];exact e
end
inductive xt(P:MU)(w:World)(K:MP)(C D:Addr)(vs:List V)(H:Hp)(Q:VK)(_E:XK):Prop|mk(t dx:Addr)(z:Int)(n:Nat)(_:vs=[.ref t,.int z,.int n])(_:H t=some (.ins C dx []))(_:∀(tb od td iu:Addr)H',H tb=none->H od=none->H td=none->H iu=none->od≠iu->(∀b o,H b=some o->b≠t->H' b=some o)->H' t=some (.ins C dx [("slope",.int z),("table",.ref tb),("inside",.ref iu)])->eu P w K D H' tb od td n [] [] []->H' iu=some (.dK [])->Q .non H')
section
def rn(T:Txt K mg a):aO P w K mg base cZ 3 a.dQ.x a.dQ.d ["self","slope","many"] (xt P w K a.eM a.bN):=by
 refine T.dQ.ok re λZ A outer s H vs Q E hr h=>?_
 ·obtain⟨t,dx,z,n,rfl,hT,q⟩:=h;refine⟨_,(ag (cn K rfl (Y 0) (Y 1)) (ag (cn K rfl (Y 0) (rN T.Dt ((rj (P:=P) (w:=w) T).mono (by decide)) hr rfl T.F1 T.dO.b .nil be (ac (Y 2) O))) (ah (cn K rfl (Y 0) jW)))),?_⟩
  refine U rfl (U rfl ⟨t,_,dx,U rfl ⟨hT,T.cj,T.iN,by simp,?_⟩⟩);rw[show gf "slope" (V.int z) []=([("slope",V.int z)]:List (Str×V))from rfl];have f1:∀b o,H b=some o->b≠t->aG H t (.ins a.eM dx [("slope",V.int z)]) b=some o:=λb o e m=>by rw[ao m];exact e
  have g:aG H t (.ins a.eM dx [("slope",V.int z)]) t=some (.ins a.eM dx [("slope",V.int z)]):=af;have y:∀b,aG H t (.ins a.eM dx [("slope",V.int z)]) b=none->H b=none:=λb e=>by
   by_cases h:b=t
   ·rw[h,af]at e;cases e
   ·rw[ao h]at e;exact e
  generalize aG H t (.ins a.eM dx [("slope",V.int z)])=k at f1 g y⊢;refine U rfl (λc ty i G I=>?_);have f2:∀b o,k b=some o->aG (aG k ty (.own c)) c (.ins a.bN ty []) b=some o:=λb o e=>by rw[ao (aH e i),ao (aH e G)];exact e
  have B:aG (aG k ty (.own c)) c (.ins a.bN ty []) c=some (.ins a.bN ty []):=af;have C:aG (aG k ty (.own c)) c (.ins a.bN ty []) ty=some (.own c):=by rw[ao I];exact af
  generalize aG (aG k ty (.own c)) c (.ins a.bN ty [])=H2 at f2 B C⊢;refine⟨c,ty,n,rfl,B,C,λW X D p r f3 f=>⟨rfl,?_⟩⟩;have n1:∀b,H2 b=none->k b=none:=λb e=>by cases z:k b with|none=>rfl|some o=>rw[f2 b o z]at e;cases e
  have u:∀b o,k b=some o->D b=some o:=λb o e=>f3 b o (f2 b o e) (aH e i);have J:=u _ _ g;refine U rfl ⟨t,_,dx,U rfl ⟨J,T.cj,T.gm,by simp,?_⟩⟩;rw[show gf "table" (V.ref c) [("slope",V.int z)]=([("slope",V.int z),("table",V.ref c)]:List (Str×V))from rfl];refineλv l=>?_;have L:t≠v:=λz=>by rw[<-z,af]at l;cases l
  have j:D v=none:=by rw[ao (mu L)]at l;exact l
  refine U rfl ⟨t,_,dx,U rfl ⟨by rw[ao L];exact af,T.cj,T.b7,by simp,?_⟩⟩;rw[show gf "inside" (V.ref v) [("slope",V.int z),("table",V.ref c)]=([("slope",V.int z),("table",V.ref c),("inside",V.ref v)]:List (Str×V))from rfl];have n3:∀b,D b=none->k b=none:=λb e=>by cases z:k b with|none=>rfl|some o=>rw[u b o z]at e;cases e
  have F:∀b o,D b=some o->b≠t->aG (aG (aG D t (.ins a.eM dx [("slope",V.int z),("table",V.ref c)])) v (.dK [])) t (.ins a.eM dx [("slope",V.int z),("table",V.ref c),("inside",V.ref v)]) b=some o:=λb o e m=>by rw[ao m,ao (aH e j),ao m];exact e
  have M:c≠t:=λz=>by rw[z,g]at i;cases i
  have N:W≠t:=λz=>by rw[z,f2 _ _ g]at p;cases p
  have R:X≠t:=λz=>by rw[z,f2 _ _ g]at r;cases r
  refine q c W X v _ (y _ i) (y _ (n1 _ p)) (y _ (n1 _ r)) (y _ (n3 _ j)) (aH f.own j) (λb o e m=>F b o (u b o (f1 b o e m)) m) af ?_ (by rw[ao (mu L)];exact af);obtain⟨S,hI⟩:=f.ins;exact⟨⟨S,F _ _ hI M⟩,F _ _ f.own N,F _ _ f.tak R,λx hx=>(by cases hx),.nil⟩
end
inductive xu(C:Addr)(vs:List V)(H:Hp)(Q:VK)(_E:XK):Prop|mk(t dx:Addr)(z sa:Int)(_:vs=[.ref t,.int z,.int sa])(_:H t=some (.ins C dx []))(_:(2<=z/\z<=997))(_:(∀i:Nat,2+(i:Int)<z->z%(2+(i:Int))≠0))(_:(0<=sa/\sa<=aY))(_:∀(ln tn ci dl:Addr)H',H ln=none->H tn=none->H ci=none->H dl=none->ln≠tn->ln≠ci->tn≠ci->(∀b o,H b=some o->b≠t->H' b=some o)->H' t=some (.ins C dx [("own_prime",.int z),("own_salt",.int sa),("layer_named",.ref ln),("trial_named",.ref tn),("came_into",.ref ci),("deeds",.ref dl)])->H' ln=some (.dK [])->H' tn=some (.dK [])->H' ci=some (.dK [])->H' dl=some (.lst [])->Q .non H')
def uk(t:Addr)(H H':Hp):Prop:=∀b o,H b=some o->b≠t->H' b=some o
def uk.no{t a:Addr}(h:uk t H H')(e:H' a=none)(n:a≠t):H a=none:=by cases z:H a with|none=>rfl|some o=>rw[h a o z n]at e;cases e
@[elab_as_elim]theorem mH{H:Hp}{a:Addr}{o:HO}{motive:Hp->Prop}(c:H a=none)(h:∀H',ak H H'->H' a=some o->motive H'):motive (aG H a o):=h _ (aj (ak.refl H) c) af
@[elab_as_elim]theorem A8{H:Hp}{t:Addr}{o:HO}{motive:Hp->Prop}(h:∀H',uk t H H'->H' t=some o->motive H'):motive (aG H t o):=h _ (λ_ _ e n=>by rw[ao n];exact e) af
section
def rq(T:Txt K mg a):aO P w K mg base cZ 5 a.dS.x a.dS.d ["self","prime","salt"] (xu a.ck):=by
 refine T.dS.ok rf λaa A outer s H vs Q E hr h=>?_
 ·obtain⟨t,dx,z,sa,rfl,k,h1,h2,h3,q⟩:=h;refine⟨_,(ag (aV (pc T.fT (tK T) hr (ac (Y 1) (ac (Y 2) O)))) (ag (cn K rfl (Y 0) (Y 1)) (ag (cn K rfl (Y 0) (Y 2)) (ag (cn K rfl (Y 0) jW) (ag (cn K rfl (Y 0) jW) (ag (cn K rfl (Y 0) jW) (ah (cn K rfl (Y 0) (a0 O))))))))),?_⟩
  refine U rfl (U rfl ⟨z,sa,rfl,h1,h2,h3,λH0 v=>?_⟩);refine U rfl (U rfl ⟨t,_,dx,U rfl ⟨v _ _ k,T.aF,T.cg,by simp,?_⟩⟩);refine A8 λH1 o1 t1=>?_;refine U rfl (U rfl ⟨t,_,dx,U rfl ⟨t1,T.aF,T.gn,(show 1<1000 by decide),?_⟩⟩);refine A8 λH2 o2 B=>?_;refineλln g=>mH g λH3 C e3=>?_;refine U rfl ⟨t,_,dx,U rfl ⟨C _ _ B,T.aF,T.bg,(show 2<1000 by decide),?_⟩⟩;refine A8 λl m D=>?_;refineλtn f=>mH f λH5 F e5=>?_;refine U rfl ⟨t,_,dx,U rfl ⟨F _ _ D,T.aF,T.bf,(show 3<1000 by decide),?_⟩⟩;refine A8 λp G I=>?_;refineλJ c=>mH c λH7 L e7=>?_;refine U rfl ⟨t,_,dx,U rfl ⟨L _ _ I,T.aF,T.dI,(show 4<1000 by decide),?_⟩⟩;refine A8 λr M N=>?_;refine⟨ls rfl,λdl i=>mH i λH9 R e9=>?_⟩;refine U rfl ⟨t,_,dx,U rfl ⟨R _ _ N,T.aF,T.iO,(show 5<1000 by decide),?_⟩⟩;refine A8 λS V ta=>?_;have n1:ln≠t:=λy=>by rw[y,B]at g;cases g
  have n2:tn≠t:=λy=>by rw[y,D]at f;cases f
  have n3:J≠t:=λy=>by rw[y,I]at c;cases c
  have n4:dl≠t:=λy=>by rw[y,N]at i;cases i
  have W:uk t H H2:=λb o e n=>o2 b o (o1 b o (v b o e) n) n;have p4:uk t H3 l:=m;have X:uk t H l:=λb o e n=>m b o (C b o (W b o e n)) n;have Z:uk t l p:=λb o e n=>G b o (F b o e) n;have u:uk t p r:=λb o e n=>M b o (L b o e) n;have j:uk t r S:=λb o e n=>V b o (R b o e) n;have k6:uk t H p:=λb o e n=>Z b o (X b o e n) n;have k8:uk t H r:=λb o e n=>u b o (k6 b o e n) n;have l4:=m _ _ e3 n1;have l6:=Z _ _ l4 n1;have l8:=u _ _ l6 n1;have m6:=G _ _ e5 n2;have m8:=u _ _ m6 n2;exact q ln tn J dl S (W.no g n1) (X.no f n2) (k6.no c n3) (k8.no i n4) (aH l4 f) (aH l6 c) (aH m6 c) (λb o e n=>j b o (k8 b o e n) n) ta (j _ _ l8 n1) (j _ _ m8 n2) (j _ _ (M _ _ e7 n3) n3) (V _ _ e9 n4)
end
def Ai(c:Nat):Int:=Txt.find jA ⟨#[c]⟩
def wH(m:Int)(cs:MY):Int:=cs.foldl (λm c=>1009*m+Ai c+1) m
def Dw{m:Int}{cs:MY}{i c:Nat}(h:cs[i]?=some c):wH m (cs.take (i+1))=1009*wH m (cs.take i)+Ai c+1:=by unfold wH;rw[qr,h,s_];rfl
def Ib{c:Nat}(h:c∈jA.cps.toList):∃i r,Builtin.Str.occurrences jA ⟨#[c]⟩ 0 jA.length 1=i::r/\Ai c=(i:Nat):=by have e:=StrLaws.found_one jA c;rw[j1 h]at e;cases q:Builtin.Str.occurrences jA ⟨#[c]⟩ 0 jA.length 1 with|nil=>rw[q]at e;cases e|cons i r=>refine⟨i,r,rfl,?_⟩;unfold Ai Txt.find;rw[q]
def uG(p m sl:Int)(x:Str):Int:=if sl=p then wH m x.cps.toList%(p*p)%p else(wH m x.cps.toList%(p*p)/p+sl*(wH m x.cps.toList%(p*p)%p))%p
inductive E8(vs:List V)(H:Hp)(Q:VK)(_E:XK):Prop|mk(p:_)(m:_)(x:_)(_:vs=[.int p,.int m,.str x])(_:AG x)(_:(2<=p/\p<=997))(_:∀t,H t=none->Q (.ref t) (aG H t (.tup [.int (wH m x.cps.toList%(p*p)/p),.int (wH m x.cps.toList%(p*p)%p)])))
inductive Fa(K:MP)(vs:List V)(H:Hp)(Q:VK)(_E:XK):Prop|mk(t:Addr)(p s x y:Int)(_:vs=[.int p,.int s,.ref t])(_:aX K H t [.int x,.int y])(_:0<p)(_:(0<=s/\s<=1000))(_:Q (.int (if s=p then y else(x+s*y)%p)) H)
inductive AX(a:i0)(vs:List V)(H:Hp)(Q:VK)(_E:XK):Prop|mk(h lo dx dl:Addr)(fs gs:List (Str×V))(p m sl:Int)(x:Str)(_:vs=[.ref h,.ref lo,.str x])(_:H h=some (.ins a.ck dx fs))(_:fs.lookup ("own_prime":Str)=some (V.int p))(_:fs.lookup ("own_salt":Str)=some (V.int m))(_:H lo=some (.ins a.eM dl gs))(_:gs.lookup ("slope":Str)=some (V.int sl))(_:AG x)(_:(2<=p/\p<=997))(_:(0<=sl/\sl<=1000))(_:∀H',ak H H'->Q (.int (uG p m sl x)) H')
section
def xW(T:Txt K mg a):aO P w K mg base cZ 1 a.jU.x a.jU.d ["p","salt","guest"] E8:=by
 refine T.jU.ok i7 λf A outer s H k Q E l h=>?_
 ·obtain⟨p,m,x,rfl,hg,⟨n,o⟩,q⟩:=h;refine⟨_,(ag (bd 3 i7.nd (Y 1)) (ag (eC mo rfl (CZ (Y 2)) (tz 4 i7.nd) (ah (bd 3 i7.nd (au bP (au bP (au gy (cu T.Gr rfl) (Y 3)) (cI K rfl PySem.F.plainAttrs_str PySem.F.slot_str_index PySem.F.type_str_index Dr (cu T.m7 rfl) (ac (Y 4) O))) ae)))) (ah (az (aB yH (by rfl) T.Dp L2.yJ (ac (au aT (Y 3) (au gy (Y 0) (Y 0))) (ac (Y 0) O))))))),?_⟩
  refine U rfl (U rfl ⟨x,rfl,?_⟩);refine Gg (λi b H'=>H=H'/\∃v,b=[some (.int p),some (.int m),some (.str x),some (.int (wH m (x.cps.toList.take i))),v]) ⟨rfl,_,rfl⟩ ?_ ?_
  ·rintro i c b _ hc⟨rfl,v,rfl⟩;obtain⟨j,r,g,hn⟩:=Ib (hg.cs c (ga hc));refine U rfl (r2 ⟨.inl ⟨by decide,by decide⟩,rfl,U rfl ⟨jA,_,j,r,rfl,rfl,g,_,U rfl ⟨rfl,r2 ⟨rfl,some (.str ⟨#[c]⟩),?_⟩⟩⟩⟩);rw[Dw hc,hn];rfl
  ·rintro b _⟨rfl,v,rfl⟩;rw[g_ (fx _)];have e:(0:Int)<p*p:=Int.mul_pos (by lia) (by lia);exact U rfl (U rfl (U rfl (r2 ⟨.inl ⟨by lia,by lia⟩,_,U rfl ⟨rfl,e,U rfl ⟨_,U rfl ⟨⟨by lia,by lia⟩,q⟩⟩⟩⟩)))
def xX(T:Txt K mg a):aO P w K mg base cZ 1 a.jV.x a.jV.d ["p","slope","point"] (Fa K):=by
 refine T.jV.ok lz λc A outer s H f Q E g h=>?_
 ·obtain⟨t,p,s,x,y,rfl,b,e,⟨i,j⟩,q⟩:=h;refine⟨_,(ag (bd 3 lz.nd (cC K (Y 2) ae)) (ag (bd 4 lz.nd (cC K (Y 2) ae)) (ag (aM (aD aQ (Y 1) (Y 0) (aE _)) (ah (az (Y 4))) aC) (ah (az (au aT (au bP (Y 3) (au gy (Y 1) (Y 4))) (Y 0))))))),?_⟩
  (iterate 2 refine U rfl (rX b rfl ?_));refine U rfl (U rfl ⟨rfl,U rfl (i4 (λh=>?_) (λh=>?_))⟩)
  ·rw[hQ h]at q;exact U rfl q
  ·rw[g8 h]at q;exact U rfl (U rfl (U rfl (r2 ⟨.inl ⟨by lia,by lia⟩,_,U rfl ⟨rfl,U rfl (r2 ⟨e,q⟩)⟩⟩)))
def jj(T:Txt K mg a):aO P w K mg base cZ 2 a.bX.x a.bX.d ["self","layer","guest"] (AX a):=by
 refine T.bX.ok n8 λf A outer s H r Q E c h=>?_
 ·obtain⟨h,lo,dx,dl,fs,gs,p,m,sl,x,rfl,b,e,g,i,j,k,l,n,q⟩:=h;refine⟨_,(ah (az (pc T.jV (xX T) c (ac (aK K rfl (Y 0)) (ac (aK K rfl (Y 1)) (ac (pc T.jU (xW T) c (ac (aK K rfl (Y 0)) (ac (aK K rfl (Y 0)) (ac (Y 2) O)))) O)))))),?_⟩;refine U rfl ⟨h,_,dx,_,U rfl ⟨b,T.aF,T.cg,e,U rfl ⟨lo,_,dl,_,U rfl ⟨i,T.cj,T.iN,j,U rfl ⟨h,_,dx,_,U rfl ⟨b,T.aF,T.cg,e,U rfl ⟨h,_,dx,_,U rfl ⟨b,T.aF,T.gn,g,U rfl ⟨p,m,x,rfl,k,l,λt o=>?_⟩⟩⟩⟩⟩⟩⟩⟩⟩;exact⟨t,p,sl,_,_,rfl,aX.of af,by lia,n,q _ (aj (ak.refl H) o)⟩
end
abbrev fI(x y:Str):bW:=.inr [.inr x,.inr y]
structure d8 where
 nm:Str
 sl:Int
 S:AS
 ins:List (Str×Str×Str)
structure eK where
 nm:Str
 home:Str
 arms:List Str
 rule:Ru
 shuts:List Str
 pau:Bool
 clo:Bool
 bar:List Str
structure cA where
 p:Nat
 salt:Int
 las:List d8
 trs:List eK
 came:List (Str×List (Str×Str))
inductive Ro|hh|ln|tn|ci|dl|lo(i:Nat)|iu(i:Nat)|tb(i:Nat)|od(i:Nat)|td(i:Nat)|tr(i:Nat)|ba(i:Nat)deriving DecidableEq
structure ZS where
 G:Ro->Addr
 dx:Ro->Addr
 cv:List (cb×V)ds:List V
 iv:Nat->List (cb×V)ow:Nat->List (cb×V)tk:Nat->List ic
 ar:Nat->Addr
 ru:Nat->V
 sh:Nat->Addr
def jZ:List Str->(Nat->V)->List (cb×V)|[],_=>[]|n::r,f=>(.inr n,f 0)::jZ r λi=>f (i+1)
def cont(P:MU)(w:World)(a:i0)(M:cA)(Z:ZS):Ro->Option HO|.hh=>some (.ins a.ck (Z.dx .hh) [("own_prime",.int M.p),("own_salt",.int M.salt),("layer_named",.ref (Z.G .ln)),("trial_named",.ref (Z.G .tn)),("came_into",.ref (Z.G .ci)),("deeds",.ref (Z.G .dl))])|.ln=>some (.dK (jZ (M.las.map d8.nm) λi=>.ref (Z.G (.lo i))))|.tn=>some (.dK (jZ (M.trs.map eK.nm) λi=>.ref (Z.G (.tr i))))|.ci=>some (.dK Z.cv)|.dl=>some (.lst Z.ds)|.lo i=>M.las[i]?.map λl=>.ins a.eM (Z.dx (.lo i)) [("slope",.int l.sl),("table",.ref (Z.G (.tb i))),("inside",.ref (Z.G (.iu i)))]|.iu i=>M.las[i]?.map λ_=>.dK (Z.iv i)|.tb i=>M.las[i]?.map λ_=>.ins a.bN (Z.dx (.tb i)) [("many",.int M.p),("owners",.ref (Z.G (.od i))),("taken",.ref (Z.G (.td i)))]|.od i=>M.las[i]?.map λ_=>.dK (Z.ow i)|.td i=>M.las[i]?.map λ_=>dM P w (Z.G (.td i)) (Z.tk i)|.tr i=>M.trs[i]?.map λt=>.ins a.fA (Z.dx (.tr i)) [("home",.str t.home),("arms",.ref (Z.ar i)),("rule",Z.ru i),("shuts",.ref (Z.sh i)),("paused",.bl t.pau),("closed",.bl t.clo),("barred",.ref (Z.G (.ba i)))]|.ba i=>M.trs[i]?.map λt=>.dK (t.bar.map λg=>(.inr g,.bl true))
def bV(K:MP)(H:Hp)(iv:List (cb×V))(ins:List (Str×Str×Str)):Prop:=Paired (λ(x:cb×V)(y:Str×Str×Str)=>x.1=.inr y.1/\∃s,x.2=.ref s/\aX K H s [.str y.2.1,.str y.2.2]) iv ins
def ib(K:MP)(H:Hp)(c:List V)(d:List (Str×Str)):Prop:=Paired (λ(u:V)(y:Str×Str)=>∃s,u=.ref s/\aX K H s [.str y.1,.str y.2]) c d
def ee(K:MP)(H:Hp)(dl:Addr)(cv:List (cb×V))(cm:List (Str×List (Str×Str))):Prop:=Paired (λ(x:cb×V)(y:Str×List (Str×Str))=>x.1=.inr y.1/\∃l b,x.2=.ref l/\l≠dl/\H l=some (.lst b)/\ib K H b y.2) cv cm
structure Im(dl:Addr)(H H':Hp):Prop where
 kp:Kp H H'
 ls:∀b xs,H b=some (.lst xs)->b≠dl->H' b=some (.lst xs)
section
variable{K:MP}{H a:Hp}{dl:Addr}
theorem Im.of(h:ak H a):Im dl H a:=⟨.of h,λb c e _=>h b _ e⟩
def bV.kp(e:Kp H a)(h:bV K H iv ins):bV K a iv ins:=Paired.mapP h λ_ _ q=>⟨q.1,q.2.imp λ_ q=>⟨q.1,e.tq q.2⟩⟩
def ib.kp(e:Kp H a)(h:ib K H c d):ib K a c d:=Paired.mapP h λ_ _ q=>q.imp λ_ q=>⟨q.1,e.tq q.2⟩
def ee.im(e:Im dl H a)(h:ee K H dl cv cm):ee K a dl cv cm:=Paired.mapP h λ_ _ q=>⟨q.1,q.2.imp λ_ q=>q.imp λ_ q=>⟨q.1,q.2.1,e.ls _ _ q.2.2.1 q.2.1,q.2.2.2.kp e.kp⟩⟩
def eX.im(e:Im dl H a)(n:∀x∈tk,x.2.2≠.ref dl)(h:eX H tk m):eX a tk m:=Paired.mapM h λx b _ q=>⟨q.1,q.2.1,q.2.2.imp λ_ q=>⟨q.1,e.ls _ _ q.2 λz=>n x b (by rw[q.1,z])⟩⟩
end
structure bw(P:MU)(w:World)(K:MP)(a:i0)(H:Hp)(M:cA)(Z:ZS):Prop where
 inj:∀r r' o o',cont P w a M Z r=some o->cont P w a M Z r'=some o'->Z.G r=Z.G r'->r=r'
 at_:∀r o,cont P w a M Z r=some o->H (Z.G r)=some o
 seats:∀i l,M.las[i]?=some l->bV K H (Z.iv i) l.ins
 trs:∀i t,M.trs[i]?=some t->aX K H (Z.ar i) (t.arms.map V.str)/\dP K H t.rule (Z.ru i)/\aX K H (Z.sh i) (t.shuts.map V.str)tabs:∀i l,M.las[i]?=some l->d9 K H (Z.tk i)/\(∃m,eX H (Z.tk i) m/\i5 M.p l.S (Z.ow i) m)/\uq (cW K H) M.p l.S (Z.ow i)/\∀x∈Z.tk i,x.2.2≠.ref (Z.G .dl)came:ee K H (Z.G .dl) Z.cv M.came
section
variable{P:MU}{w:World}{K:MP}{a:i0}{H H':Hp}{M s:cA}{Z c:ZS}
def bw.imm(h:bw P w K a H M Z)(e:cont P w a M Z r=some o)(f:∀b o,H b=some o->b≠Z.G r->H' b=some o):Im (Z.G .dl) H H':=by
 have g:=h.at_ r o e;have i:(∀d,o≠.tup d)/\(∀x y,o≠.frz x y)/\∀d,o=.lst d->r=.dl:=by
  cases r<;>simp only[cont,Option.map_eq_some_iff,LR]at e
  case hh=>subst e;exact⟨λ_ z=>(nomatch z),λ_ _ z=>(nomatch z),λ_ z=>(nomatch z)⟩
  case ln=>subst e;exact⟨λ_ z=>(nomatch z),λ_ _ z=>(nomatch z),λ_ z=>(nomatch z)⟩
  case tn=>subst e;exact⟨λ_ z=>(nomatch z),λ_ _ z=>(nomatch z),λ_ z=>(nomatch z)⟩
  case ci=>subst e;exact⟨λ_ z=>(nomatch z),λ_ _ z=>(nomatch z),λ_ z=>(nomatch z)⟩
  case dl=>subst e;exact⟨λ_ z=>(nomatch z),λ_ _ z=>(nomatch z),λ_ _=>rfl⟩
  all_goals obtain⟨_,_,e⟩:=e;subst e;exact⟨λ_ z=>(nomatch z),λ_ _ z=>(nomatch z),λ_ z=>(nomatch z)⟩
 obtain⟨j,k,l⟩:=i;refine⟨⟨λu d q=>f _ _ q λz=>?_,λu x⟨m,q⟩=>⟨m,f _ _ q λz=>?_⟩⟩,λb d q n=>f _ _ q λz=>?_⟩
 ·rw[z,g]at q;exact j _ (kl q)
 ·rw[z,g]at q;exact k _ _ (kl q)
 ·rw[z,g]at q;exact n (by rw[z,l _ (kl q)])
def bw.set(h:bw P w K a H M Z)(f:cont P w a M Z d=some C)(v:∀b o,H b=some o->b≠Z.G d->H' b=some o)(u:c.G=Z.G)(j:∀r o,cont P w a s c r=some o->(r=d/\H' (Z.G d)=some o)\/(r≠d/\cont P w a M Z r=some o))(seats:∀i l,s.las[i]?=some l->bV K H' (c.iv i) l.ins)(trs:∀i t,s.trs[i]?=some t->aX K H' (c.ar i) (t.arms.map V.str)/\dP K H' t.rule (c.ru i)/\aX K H' (c.sh i) (t.shuts.map V.str))(tabs:∀i l,s.las[i]?=some l->d9 K H' (c.tk i)/\(∃m,eX H' (c.tk i) m/\i5 s.p l.S (c.ow i) m)/\uq (cW K H') s.p l.S (c.ow i)/\∀x∈c.tk i,x.2.2≠.ref (c.G .dl))(came:ee K H' (c.G .dl) c.cv s.came):bw P w K a H' s c:=by
 refine⟨λr y o A e B g=>?_,λr o e=>?_,seats,trs,tabs,came⟩
 ·rw[u]at g;rcases j r o e with⟨rfl,_⟩|⟨_,q⟩<;>rcases j y A B with⟨rfl,_⟩|⟨_,k⟩
  ·rfl
  ·exact h.inj _ _ _ _ f k g
  ·exact h.inj _ _ _ _ q f g
  ·exact h.inj _ _ _ _ q k g
 ·rw[u];rcases j r o e with⟨rfl,q⟩|⟨n,q⟩
  ·exact q
  ·exact v _ _ (h.at_ _ _ q) λz=>n (h.inj _ _ _ _ q f z)
def bw.trsI(h:bw P w K a H M Z)(e:Kp H H'):∀i t,M.trs[i]?=some t->aX K H' (Z.ar i) (t.arms.map V.str)/\dP K H' t.rule (Z.ru i)/\aX K H' (Z.sh i) (t.shuts.map V.str):=λi t b=>let⟨h1,h2,h3⟩:=h.trs i t b;⟨e.tq h1,h2.kp e,e.tq h3⟩
def bw.tabsI(h:bw P w K a H M Z)(e:Im (Z.G .dl) H H'):∀i l,M.las[i]?=some l->d9 K H' (Z.tk i)/\(∃m,eX H' (Z.tk i) m/\i5 M.p l.S (Z.ow i) m)/\uq (cW K H') M.p l.S (Z.ow i)/\∀x∈Z.tk i,x.2.2≠.ref (Z.G .dl):=λi l b=>let⟨h1,⟨m,h2,h3⟩,h4,h5⟩:=h.tabs i l b;⟨λx d=>fq e.kp (h1 x d),⟨m,h2.im e h5,h3⟩,h4.mono λ_ _ q=>fq e.kp q,h5⟩
def bw.same(h:bw P w K a H M Z)(e:ak H H'):bw P w K a H' M Z:=⟨h.inj,λr o q=>e _ _ (h.at_ r o q),λi l b=>(h.seats i l b).kp (.of e),h.trsI (.of e),h.tabsI (.of e),h.came.im (.of e)⟩
def gP{d l:Type}{g:List d}{i:Nat}{x y:d}(h:g[i]?=some x)(f:d->l)(e:f y=f x)(j:Nat):(g.set i y)[j]?.map f=g[j]?.map f:=by
 rw[LU]
 by_cases q:i=j
 ·subst q;rw[hQ rfl,hQ (d_.mp h).1,h];exact r4 some e
 ·rw[g8 q]
def dX{d l:Type}{g:List d}{i:Nat}{x y:d}(h:g[i]?=some x)(f:d->l)(e:f y=f x):(g.set i y).map f=g.map f:=th λj=>by rw[ge,ge];exact gP h f e j
def nR{d:Type}{f:List d}{i j:Nat}{y z:d}(e:(f.set i y)[j]?=some z):(j=i/\z=y)\/(j≠i/\f[j]?=some z):=by
 rw[LU]at e
 by_cases q:i=j
 ·rw[hQ q]at e
  split at e
  ·exact .inl ⟨q.symm,(kl e).symm⟩
  ·cases e
 ·rw[g8 q]at e;exact .inr ⟨λz=>q z.symm,e⟩
def yB{i:Nat}{l l':d8}(d:M.las[i]?=some l)(h1:l'.nm=l.nm)(h2:l'.sl=l.sl)(r:Ro):cont P w a {M with las:=M.las.set i l'} Z r=cont P w a M Z r:=by cases r with|ln=>exact r4 (λns=>some (HO.dK (jZ ns λi=>.ref (Z.G (.lo i))))) (dX d d8.nm h1)|lo j=>exact gP d _ (by rw[h2]) j|iu j=>exact gP (y:=l') d _ rfl j|tb j=>exact gP (y:=l') d _ rfl j|od j=>exact gP (y:=l') d _ rfl j|td j=>exact gP (y:=l') d _ rfl j|_=>rfl
def Ej{i:Nat}{t d:eK}(e:M.trs[i]?=some t)(h1:d.nm=t.nm)(r:Ro)(h2:r=.tr i->d.home=t.home/\d.pau=t.pau/\d.clo=t.clo)(h3:r=.ba i->d.bar=t.bar):cont P w a {M with trs:=M.trs.set i d} Z r=cont P w a M Z r:=by
 cases r with|tn=>exact r4 (λns=>some (HO.dK (jZ ns λi=>.ref (Z.G (.tr i))))) (dX e eK.nm h1)|tr j=>
  by_cases q:j=i
  ·subst q;obtain⟨a1,b,f⟩:=h2 rfl;exact gP e _ (by rw[a1,b,f]) j
  ·show((M.trs.set i d)[j]?).map _=_;rw[o0 (λz=>q z.symm)];rfl|ba j=>
  by_cases q:j=i
  ·subst q;exact gP e _ (by rw[h3 rfl]) j
  ·show((M.trs.set i d)[j]?).map _=_;rw[o0 (λz=>q z.symm)];rfl|_=>rfl
def cE:∀b o,H b=some o->b≠x->aG H x o' b=some o:=λb o e n=>by rw[ao n];exact e
def bw.setIns(h:bw P w K a H M Z){i:Nat}{l:d8}{ins':List (Str×Str×Str)}{iv':List (cb×V)}(d:M.las[i]?=some l)(m:bV K H iv' ins'):bw P w K a (aG H (Z.G (.iu i)) (.dK iv')) {M with las:=M.las.set i {l with ins:=ins'}} {Z with iv:=λj=>if j=i then iv' else Z.iv j}:=by
 have g:cont P w a M Z (.iu i)=some (.dK (Z.iv i)):=by simp[cont,d]
 have im:=h.imm g (cE (o':=.dK iv'));refine h.set g cE rfl (λr o e=>?_) (λj b e=>?_) (h.trsI im.kp) (λj b e=>?_) (h.came.im im)
 ·rw[yB (l':={l with ins:=ins'}) d rfl rfl]at e
  by_cases f:r=.iu i
  ·subst f;refine .inl ⟨rfl,?_⟩;rw[af,<-e];simp[cont,d]
  ·refine .inr ⟨f,?_⟩;rw[<-e];cases r with|iu j=>show _=M.las[j]?.map λ_=>HO.dK (if j=i then iv' else Z.iv j);rw[g8 λz=>f (by rw[z])];rfl|_=>rfl
 ·rcases nR e with⟨rfl,rfl⟩|⟨n,q⟩
  ·show bV K _ (if j=j then iv' else Z.iv j) ins';rw[hQ rfl];exact m.kp im.kp
  ·show bV K _ (if j=i then iv' else Z.iv j) b.ins;rw[g8 n];exact(h.seats j b q).kp im.kp
 ·rcases nR e with⟨rfl,rfl⟩|⟨n,q⟩
  ·exact h.tabsI im _ l d
  ·exact h.tabsI im j b q
def bw.setTr(h:bw P w K a H M Z){i:Nat}{t t':eK}{r0:Ro}{o':HO}(d:M.trs[i]?=some t)(h1:t'.nm=t.nm)(h2:t'.arms=t.arms)(h3:t'.rule=t.rule)(h4:t'.shuts=t.shuts)(f:(r0=.tr i/\t'.bar=t.bar)\/(r0=.ba i/\t'.home=t.home/\t'.pau=t.pau/\t'.clo=t.clo))(l:cont P w a {M with trs:=M.trs.set i t'} Z r0=some o'):bw P w K a (aG H (Z.G r0) o') {M with trs:=M.trs.set i t'} Z:=by
 obtain⟨g,k⟩:∃g,cont P w a M Z r0=some g:=by rcases f with⟨rfl,_⟩|⟨rfl,_⟩<;>exact⟨_,by simp only[cont,d];rfl⟩
 have im:=h.imm k (cE (o':=o'));refine h.set k cE rfl (λr o e=>?_) (λj m e=>(h.seats j m e).kp im.kp) (λj p e=>?_) (h.tabsI im) (h.came.im im)
 ·by_cases b:r=r0
  ·subst b;rw[l]at e;exact .inl ⟨rfl,by rw[af];exact e⟩
  ·refine .inr ⟨b,?_⟩;rw[<-e];refine(Ej d h1 r (λz=>?_) λz=>?_).symm
   ·rcases f with⟨q,_⟩|⟨_,q⟩
    ·exact absurd (z.trans q.symm) b
    ·exact q
   ·rcases f with⟨_,q⟩|⟨q,_⟩
    ·exact q
    ·exact absurd (z.trans q.symm) b
 ·rcases nR e with⟨rfl,rfl⟩|⟨n,q⟩
  ·rw[h2,h3,h4];exact h.trsI im.kp _ t d
  ·exact h.trsI im.kp j p q
def bw.deed(h:bw P w K a H M Z)(d:V):bw P w K a (aG H (Z.G .dl) (.lst (Z.ds++[d]))) M {Z with ds:=Z.ds++[d]}:=by
 have f:cont P w a M Z .dl=some (.lst Z.ds):=rfl;have im:=h.imm f (cE (o':=.lst (Z.ds++[d])));refine h.set f cE rfl (λr o e=>?_) (λj g e=>(h.seats j g e).kp im.kp) (h.trsI im.kp) (h.tabsI im) (h.came.im im)
 by_cases b:r=.dl
 ·subst b;exact .inl ⟨rfl,by rw[af];exact e⟩
 ·refine .inr ⟨b,?_⟩;rw[<-e];cases r with|dl=>exact absurd rfl b|_=>rfl
def bw.setCame(h:bw P w K a H M Z)(hc:ee K H (Z.G .dl) d f):bw P w K a (aG H (Z.G .ci) (.dK d)) {M with came:=f} {Z with cv:=d}:=by
 have g:cont P w a M Z .ci=some (.dK Z.cv):=rfl;have im:=h.imm g (cE (o':=.dK d));refine h.set g cE rfl (λr o e=>?_) (λj i e=>(h.seats j i e).kp im.kp) (h.trsI im.kp) (h.tabsI im) (hc.im im)
 by_cases b:r=.ci
 ·subst b;exact .inl ⟨rfl,by rw[af];exact e⟩
 ·refine .inr ⟨b,?_⟩;rw[<-e];cases r with|ci=>exact absurd rfl b|_=>rfl
end
theorem wF:∀(ns:MV)(x:Str)(f:Nat->V),jZ (ns++[x]) f=jZ ns f++[(.inr x,f ns.length)]|[],_,_=>rfl|n::r,x,f=>by show(Sum.inr n,f 0)::jZ (r++[x]) _=(Sum.inr n,f 0)::(jZ r _++_);rw[wF r x];rfl
theorem pN:∀{ns:MV}{f g:Nat->V},(∀i,i<ns.length->f i=g i)->jZ ns f=jZ ns g|[],_,_,_=>rfl|n::r,f,g,h=>by show(Sum.inr n,f 0)::jZ r _=(Sum.inr n,g 0)::jZ r _;rw[h 0 (by simp),pN (ns:=r) (f:=λi=>f (i+1)) (g:=λi=>g (i+1)) λi hi=>h (i+1) (by simpa using hi)]
theorem kL:∀(ns:MV)(f:Nat->V),(jZ ns f).length=ns.length|[],_=>rfl|n::r,f=>by rw[jZ,il,il,kL r]
theorem rO:∀{ns:MV}{f:Nat->V}{i:Nat}{x:Str},ns.Nodup->ns[i]?=some x->bu (jZ ns f) (.inr x)=some (f i)
 |[],_,i,_,_,h=>by simp at h|n::r,f,0,x,_,h=>by
  have e:n=x:=by simpa using h
  exact cq (by rw[e])|n::r,f,i+1,x,hn,h=>by
  have h:r[i]?=some x:=by simpa using h
  rw[ML]at hn;have ne:n≠x:=λz=>hn.1 (by rw[z];exact ga h);show bu ((Sum.inr n,f 0)::jZ r _) _=_;rw[bL λz=>ne (qc z)];exact rO hn.2 h
theorem lP:∀{ns:MV}{f:Nat->V}{x:Str},x∉ns->bu (jZ ns f) (.inr x)=none|[],_,_,_=>rfl|n::r,f,x,h=>by show bu ((Sum.inr n,f 0)::jZ r _) _=_;rw[bL λz=>h (by rw[qc z];exact ir)];exact lP λz=>h (hY _ z)
theorem zg:∀{ns:MV}{f:Nat->V}{i:Nat},(jZ ns f)[i]?=ns[i]?.map λx=>(.inr x,f i)|[],_,i=>by simp[jZ]|n::r,f,0=>rfl|n::r,f,i+1=>by show(jZ r λi=>f (i+1))[i]?=_;rw[zg];simp
section
variable{P:MU}{w:World}{K:MP}{a:i0}{H c:Hp}{M:cA}{Z:ZS}
def bw.tab(h:bw P w K a H M Z)(d:M.las[i]?=some l):∃m,eu P w K a.bN H (Z.G (.tb i)) (Z.G (.od i)) (Z.G (.td i)) M.p (Z.ow i) (Z.tk i) m/\i5 M.p l.S (Z.ow i) m:=by obtain⟨h1,⟨m,h2,h3⟩,_⟩:=h.tabs i l d;exact⟨m,⟨⟨_,h.at_ (.tb i) _ (by simp only[cont,d];rfl)⟩,h.at_ (.od i) _ (by simp only[cont,d];rfl),h.at_ (.td i) _ (by simp only[cont,d];rfl),h1,h2⟩,h3⟩
def bw.told(h:bw P w K a H M Z)(s:M.las[i]?=some l)(o:mf (Z.G (.od i)) (Z.G (.td i)) H c)(C:eu P w K a.bN c (Z.G (.tb i)) (Z.G (.od i)) (Z.G (.td i)) M.p f d I)(L:i5 M.p t f I)(N:uq (cW K H) M.p t f)(Q:fb H (Z.tk i) d):bw P w K a c {M with las:=M.las.set i {l with S:=t}} {Z with ow:=λj=>if j=i then f else Z.ow j,tk:=λj=>if j=i then d else Z.tk j}:=by
 obtain⟨m,J,_⟩:=h.tab s;have im:Im (Z.G .dl) H c:=by
  have g:∀b ob,H b=some ob->(∀D,ob≠.dK D)->(∀φ,ob≠.ext φ)->c b=some ob:=λb ob e h1 h2=>o b ob e (λz=>by rw[z,J.own]at e;cases e;exact h1 _ rfl) (λz=>by rw[z,J.tak]at e;cases e;exact h2 _ rfl)
  exact⟨⟨λu O e=>g _ _ e (λ_ z=>(nomatch z)) (λ_ z=>(nomatch z)),λu x⟨E,e⟩=>⟨E,g _ _ e (λ_ z=>(nomatch z)) (λ_ z=>(nomatch z))⟩⟩,λb O e _=>g _ _ e (λ_ z=>(nomatch z)) (λ_ z=>(nomatch z))⟩
 have v:∀r ob,cont P w a {M with las:=M.las.set i {l with S:=t}} {Z with ow:=λj=>if j=i then f else Z.ow j,tk:=λj=>if j=i then d else Z.tk j} r=some ob->(r=.od i/\ob=.dK f)\/(r=.td i/\ob=dM P w (Z.G (.td i)) d)\/(r≠.od i/\r≠.td i/\cont P w a M Z r=some ob):=λr ob e=>by
  rw[yB (l':={l with S:=t}) s rfl rfl]at e;cases r with|od j=>
   by_cases q:j=i
   ·subst q;have e:(M.las[j]?.map λ_=>HO.dK (if j=j then f else Z.ow j))=some ob:=e;rw[s,hQ rfl]at e;exact .inl ⟨rfl,(kl e).symm⟩
   ·have e:(M.las[j]?.map λ_=>HO.dK (if j=i then f else Z.ow j))=some ob:=e;rw[g8 q]at e;exact .inr (.inr ⟨λz=>q (by injection z),λz=>(nomatch z),e⟩)|td j=>
   by_cases q:j=i
   ·subst q;have e:(M.las[j]?.map λ_=>dM P w (Z.G (.td j)) (if j=j then d else Z.tk j))=some ob:=e;rw[s,hQ rfl]at e;exact .inr (.inl ⟨rfl,(kl e).symm⟩)
   ·have e:(M.las[j]?.map λ_=>dM P w (Z.G (.td j)) (if j=i then d else Z.tk j))=some ob:=e;rw[g8 q]at e;exact .inr (.inr ⟨λz=>(nomatch z),λz=>q (by injection z),e⟩)|_=>exact .inr (.inr ⟨λz=>(nomatch z),λz=>(nomatch z),e⟩)
 have A:cont P w a M Z (.od i)=some (.dK (Z.ow i)):=by simp only[cont,s];rfl
 have B:cont P w a M Z (.td i)=some (dM P w (Z.G (.td i)) (Z.tk i)):=by simp only[cont,s];rfl
 have live:∀r ob,cont P w a {M with las:=M.las.set i {l with S:=t}} {Z with ow:=λj=>if j=i then f else Z.ow j,tk:=λj=>if j=i then d else Z.tk j} r=some ob->∃E,cont P w a M Z r=some E:=λr ob e=>by
  rcases v r ob e with⟨rfl,_⟩|⟨rfl,_⟩|⟨_,_,q⟩
  ·exact⟨_,A⟩
  ·exact⟨_,B⟩
  ·exact⟨_,q⟩
 refine⟨λr R ob F e T g=>?_,λr ob e=>?_,λj k e=>?_,h.trsI im.kp,λj k e=>?_,h.came.im im⟩
 ·obtain⟨_,q⟩:=live r ob e;obtain⟨_,U⟩:=live R F T;exact h.inj _ _ _ _ q U g
 ·rcases v r ob e with⟨rfl,rfl⟩|⟨rfl,rfl⟩|⟨n1,n2,q⟩
  ·exact C.own
  ·exact C.tak
  ·exact o _ _ (h.at_ _ _ q) (λz=>n1 (h.inj _ _ _ _ q A z)) (λz=>n2 (h.inj _ _ _ _ q B z))
 ·rcases nR e with⟨rfl,rfl⟩|⟨n,q⟩
  ·exact(h.seats _ l s).kp im.kp
  ·exact(h.seats j k q).kp im.kp
 ·rcases nR e with⟨rfl,rfl⟩|⟨n,q⟩
  ·show d9 K c (if j=j then d else Z.tk j)/\(∃m,eX c (if j=j then d else Z.tk j) m/\i5 M.p t (if j=j then f else Z.ow j) m)/\uq (cW K c) M.p t (if j=j then f else Z.ow j)/\∀x∈(if j=j then d else Z.tk j),x.2.2≠.ref (Z.G .dl);rw[hQ rfl,hQ rfl];refine⟨C.keys,⟨I,C.lsts,L⟩,N.mono λ_ _ q=>fq im.kp q,λx V z=>?_⟩;rcases Q x V with⟨y,W,e⟩|⟨X,e,hn⟩
   ·exact(h.tabs _ l s).2.2.2 y W (e.trans z)
   ·rw[e]at z;cases z;rw[h.at_ .dl _ rfl]at hn;cases hn
  ·show d9 K c (if j=i then d else Z.tk j)/\(∃m,eX c (if j=i then d else Z.tk j) m/\i5 M.p k.S (if j=i then f else Z.ow j) m)/\uq (cW K c) M.p k.S (if j=i then f else Z.ow j)/\∀x∈(if j=i then d else Z.tk j),x.2.2≠.ref (Z.G .dl);rw[g8 n,g8 n];exact h.tabsI im j k q
end
def u8(c d:Nat):Ro->Prop|.lo i=>i<c|.iu i=>i<c|.tb i=>i<c|.od i=>i<c|.td i=>i<c|.tr i=>i<d|.ba i=>i<d|_=>True
def qh(e:cont P w a M Z r=some o):u8 M.las.length M.trs.length r:=by cases r<;>first|exact trivial|(obtain⟨y,h1,_⟩:=Option.map_eq_some_iff.mp e;exact(d_.mp h1).1)
def mw(P:MU)(w:World)(a:i0)(Z:ZS)(h:u8 M.las.length M.trs.length r):∃o,cont P w a M Z r=some o:=by cases r<;>first|exact⟨_,rfl⟩|(have h:_<M.las.length:=h;exact⟨_,by simp only[cont,fy h];rfl⟩)|(have h:_<M.trs.length:=h;exact⟨_,by simp only[cont,fy h];rfl⟩)
def ZS.newL(Z:ZS)(n:Nat)(lo e t f g c d:Addr):ZS:={Z with
 G:=λr=>if r=.lo n then lo else if r=.iu n then e else if r=.tb n then t else if r=.od n then f else if r=.td n then g else Z.G r
 dx:=λr=>if r=.lo n then c else if r=.tb n then d else Z.dx r
 iv:=λj=>if j=n then[]else Z.iv j
 ow:=λj=>if j=n then[]else Z.ow j
 tk:=λj=>if j=n then[]else Z.tk j}
def ZS.newT(Z:ZS)(n:Nat)(t c dx ar:Addr)(ru:V)(sh:Addr):ZS:={Z with
 G:=λr=>if r=.tr n then t else if r=.ba n then c else Z.G r
 dx:=λr=>if r=.tr n then dx else Z.dx r
 ar:=λj=>if j=n then ar else Z.ar j
 ru:=λj=>if j=n then ru else Z.ru j
 sh:=λj=>if j=n then sh else Z.sh j}
def nP(e:(c++[x])[j]?=some y):(j=c.length/\y=x)\/(j≠c.length/\c[j]?=some y):=by
 rcases Nat.lt_trichotomy j c.length with q|q|q
 ·rw[rV q]at e;exact .inr ⟨iA q,e⟩
 ·subst q;rw[List.getElem?_concat_length]at e;exact .inl ⟨rfl,(kl e).symm⟩
 ·rw[l_ (by simp;lia)]at e;cases e
def iH(e:(c++[x])[j]?.map f=some o):(j=c.length/\o=f x)\/(j≠c.length/\c[j]?.map f=some o):=by
 obtain⟨y,h1,h2⟩:=Option.map_eq_some_iff.mp e;rcases nP h1 with⟨q,rfl⟩|⟨q,z⟩
 ·exact .inl ⟨q,h2.symm⟩
 ·exact .inr ⟨q,by rw[z];exact r4 some h2⟩
section
variable{P:MU}{w:World}{K:MP}{a:i0}{H H':Hp}{M:cA}{Z:ZS}
theorem bw.newL(h:bw P w K a H M Z)(h1:H lo=none)(h2:H iu=none)(h3:H t=none)(h4:H od=none)(h5:H td=none)(D:od≠iu)(l:∀b o,H b=some o->b≠Z.G .ln->H' b=some o)(Q:H' (Z.G .ln)=some (.dK (jZ (M.las.map d8.nm) (λi=>.ref (Z.G (.lo i)))++[(.inr nm,.ref lo)])))(R:H' lo=some (.ins a.eM c [("slope",.int sl),("table",.ref t),("inside",.ref iu)]))(T:eu P w K a.bN H' t od td M.p [] [] [])(E:lo≠t)(W:H' iu=some (.dK [])):∃s,s.G .hh=Z.G .hh/\s.G .dl=Z.G .dl/\s.ds=Z.ds/\(∀j,s.tk j=(if j=M.las.length then[]else Z.tk j)/\s.ow j=(if j=M.las.length then[]else Z.ow j))/\s.cv=Z.cv/\bw P w K a H' {M with las:=M.las++[⟨nm,sl,AS.new,[]⟩]} s/\∀r,u8 (M.las.length+1) M.trs.length r->H (s.G r)=none\/(s.G r=Z.G r/\u8 M.las.length M.trs.length r):=by
 obtain⟨d,O⟩:=T.ins;have im:=h.imm (r:=.ln) rfl l;have F:(M.las.map d8.nm).length=M.las.length:=b_ ..;have u:∀r o,cont P w a {M with las:=M.las++[⟨nm,sl,AS.new,[]⟩]} (Z.newL M.las.length lo iu t od td c d) r=some o->(H' ((Z.newL M.las.length lo iu t od td c d).G r)=some o/\(r=.lo M.las.length\/r=.iu M.las.length\/r=.tb M.las.length\/r=.od M.las.length\/r=.td M.las.length))\/((Z.newL M.las.length lo iu t od td c d).G r=Z.G r/\H' (Z.G r)=some o/\∃U,cont P w a M Z r=some U):=λr o e=>by
  cases r with|hh=>exact .inr ⟨rfl,l _ _ (h.at_ .hh _ e) λz=>(nomatch h.inj .hh .ln _ _ rfl rfl z),_,e⟩|tn=>exact .inr ⟨rfl,l _ _ (h.at_ .tn _ e) λz=>(nomatch h.inj .tn .ln _ _ rfl rfl z),_,e⟩|ci=>exact .inr ⟨rfl,l _ _ (h.at_ .ci _ e) λz=>(nomatch h.inj .ci .ln _ _ rfl rfl z),_,e⟩|dl=>exact .inr ⟨rfl,l _ _ (h.at_ .dl _ e) λz=>(nomatch h.inj .dl .ln _ _ rfl rfl z),_,e⟩|tr j=>exact .inr ⟨rfl,l _ _ (h.at_ (.tr j) _ e) λz=>(nomatch h.inj (.tr j) .ln _ _ e rfl z),_,e⟩|ba j=>exact .inr ⟨rfl,l _ _ (h.at_ (.ba j) _ e) λz=>(nomatch h.inj (.ba j) .ln _ _ e rfl z),_,e⟩|ln=>refine .inr ⟨rfl,?_,_,rfl⟩;rw[Q,<-e];show _=some (HO.dK (jZ ((M.las++[(⟨nm,sl,AS.new,[]⟩:d8)]).map d8.nm) λi=>V.ref ((Z.newL M.las.length lo iu t od td c d).G (.lo i))));rw[g6,Mq,wF,F];have e1:(Z.newL M.las.length lo iu t od td c d).G (.lo M.las.length)=lo:=hQ rfl;rw[e1,pN (f:=λi=>V.ref ((Z.newL M.las.length lo iu t od td c d).G (.lo i))) (g:=λi=>V.ref (Z.G (.lo i)))];intro i hi;rw[F]at hi;have n:∀x:Nat->Ro,(∀i j,x i=x j->i=j)->x i≠x M.las.length:=λx I z=>iA hi (I _ _ z);show V.ref (if Ro.lo i=.lo M.las.length then lo else _)=_;rw[g8 (n Ro.lo λ_ _ z=>by injection z)];rfl|lo j=>
   rcases iH e with⟨rfl,rfl⟩|⟨q,e⟩
   ·refine .inl ⟨?_,.inl rfl⟩;have B:(Z.newL M.las.length lo iu t od td c d).G (.lo M.las.length)=lo:=hQ rfl;have X:(Z.newL M.las.length lo iu t od td c d).G (.tb M.las.length)=t:=by simp[ZS.newL]
    have y:(Z.newL M.las.length lo iu t od td c d).G (.iu M.las.length)=iu:=by simp[ZS.newL]
    have A:(Z.newL M.las.length lo iu t od td c d).dx (.lo M.las.length)=c:=hQ rfl;rw[B,X,y,A];exact R
   ·have e:cont P w a M Z (.lo j)=some o:=by rw[<-e];simp[cont,ZS.newL,q]
    exact .inr ⟨by simp[ZS.newL,q],l _ _ (h.at_ (.lo j) _ e) λz=>(nomatch h.inj (.lo j) .ln _ _ e rfl z),_,e⟩|iu j=>
   rcases iH e with⟨rfl,rfl⟩|⟨q,e⟩
   ·refine .inl ⟨?_,.inr (.inl rfl)⟩;have y:(Z.newL M.las.length lo iu t od td c d).G (.iu M.las.length)=iu:=by simp[ZS.newL]
    have A:(Z.newL M.las.length lo iu t od td c d).iv M.las.length=[]:=hQ rfl;rw[y,A];exact W
   ·have e:cont P w a M Z (.iu j)=some o:=by rw[<-e];simp[cont,ZS.newL,q]
    exact .inr ⟨by simp[ZS.newL,q],l _ _ (h.at_ (.iu j) _ e) λz=>(nomatch h.inj (.iu j) .ln _ _ e rfl z),_,e⟩|tb j=>
   rcases iH e with⟨rfl,rfl⟩|⟨q,e⟩
   ·refine .inl ⟨?_,.inr (.inr (.inl rfl))⟩;have X:(Z.newL M.las.length lo iu t od td c d).G (.tb M.las.length)=t:=by simp[ZS.newL]
    have y:(Z.newL M.las.length lo iu t od td c d).G (.od M.las.length)=od:=by simp[ZS.newL]
    have g5:(Z.newL M.las.length lo iu t od td c d).G (.td M.las.length)=td:=by simp[ZS.newL]
    have A:(Z.newL M.las.length lo iu t od td c d).dx (.tb M.las.length)=d:=by simp[ZS.newL]
    rw[X,y,A,g5];exact O
   ·have e:cont P w a M Z (.tb j)=some o:=by rw[<-e];simp[cont,ZS.newL,q]
    exact .inr ⟨by simp[ZS.newL,q],l _ _ (h.at_ (.tb j) _ e) λz=>(nomatch h.inj (.tb j) .ln _ _ e rfl z),_,e⟩|od j=>
   rcases iH e with⟨rfl,rfl⟩|⟨q,e⟩
   ·refine .inl ⟨?_,.inr (.inr (.inr (.inl rfl)))⟩;have y:(Z.newL M.las.length lo iu t od td c d).G (.od M.las.length)=od:=by simp[ZS.newL]
    have A:(Z.newL M.las.length lo iu t od td c d).ow M.las.length=[]:=hQ rfl;rw[y,A];exact T.own
   ·have e:cont P w a M Z (.od j)=some o:=by rw[<-e];simp[cont,ZS.newL,q]
    exact .inr ⟨by simp[ZS.newL,q],l _ _ (h.at_ (.od j) _ e) λz=>(nomatch h.inj (.od j) .ln _ _ e rfl z),_,e⟩|td j=>
   rcases iH e with⟨rfl,rfl⟩|⟨q,e⟩
   ·refine .inl ⟨?_,.inr (.inr (.inr (.inr rfl)))⟩;have y:(Z.newL M.las.length lo iu t od td c d).G (.td M.las.length)=td:=by simp[ZS.newL]
    have A:(Z.newL M.las.length lo iu t od td c d).tk M.las.length=[]:=hQ rfl;rw[y,A];exact T.tak
   ·have e:cont P w a M Z (.td j)=some o:=by rw[<-e];simp[cont,ZS.newL,q]
    exact .inr ⟨by simp[ZS.newL,q],l _ _ (h.at_ (.td j) _ e) λz=>(nomatch h.inj (.td j) .ln _ _ e rfl z),_,e⟩
 have gs:∀r,(r=.lo M.las.length\/r=.iu M.las.length\/r=.tb M.las.length\/r=.od M.las.length\/r=.td M.las.length)->H ((Z.newL M.las.length lo iu t od td c d).G r)=none:=λr Y=>by rcases Y with rfl|rfl|rfl|rfl|rfl<;>simp only[ZS.newL]<;>simp[h1,h2,h3,h4,h5]
 refine⟨Z.newL M.las.length lo iu t od td c d,rfl,rfl,rfl,λj=>⟨rfl,rfl⟩,rfl,⟨λr r' o U e e' g=>?_,λr o e=>?_,λj C e=>?_,h.trsI im.kp,λj C e=>?_,h.came.im im⟩,λr Y=>?_⟩
 ·rcases u r o e with⟨q,n⟩|⟨B,q,x,J⟩<;>rcases u r' U e' with⟨q',n'⟩|⟨L,q',x',N⟩
  ·rw[g,q']at q;have q:=kl q;rcases n with rfl|rfl|rfl|rfl|rfl<;>rcases n' with rfl|rfl|rfl|rfl|rfl<;>first|rfl|(exfalso;simp[ZS.newL]at g;first|exact E g|exact E g.symm|exact D g|exact D g.symm|(simp[cont]at e e';rw[<-e,<-e']at q;cases q))
  ·rw[L]at g;have:=h.at_ _ _ N;rw[<-g,gs r n]at this;cases this
  ·rw[B]at g;have:=h.at_ _ _ J;rw[g,gs r' n']at this;cases this
  ·rw[B,L]at g;exact h.inj _ _ _ _ J N g
 ·rcases u r o e with⟨q,n⟩|⟨B,q,x,J⟩
  ·exact q
  ·rw[B];exact q
 ·rcases nP e with⟨rfl,rfl⟩|⟨n,q⟩
  ·show bV K H' (if M.las.length=M.las.length then[]else _) [];rw[hQ rfl];exact .nil
  ·show bV K H' (if j=M.las.length then[]else Z.iv j) C.ins;rw[g8 n];exact(h.seats j C q).kp im.kp
 ·rcases nP e with⟨rfl,rfl⟩|⟨n,q⟩
  ·show d9 K H' (if M.las.length=M.las.length then[]else _)/\(∃m,eX H' (if M.las.length=M.las.length then[]else _) m/\i5 M.p AS.new (if M.las.length=M.las.length then[]else _) m)/\uq (cW K H') M.p AS.new (if M.las.length=M.las.length then[]else _)/\∀x∈(if M.las.length=M.las.length then[]else Z.tk _),x.2.2≠.ref (Z.G .dl);rw[hQ rfl,hQ rfl];exact⟨λx I=>(nomatch I),⟨[],.nil,λk=>rfl,λp _ _=>rfl⟩,λp v _ _ z=>(nomatch z),λx I=>(nomatch I)⟩
  ·show d9 K H' (if j=M.las.length then[]else Z.tk j)/\(∃m,eX H' (if j=M.las.length then[]else Z.tk j) m/\i5 M.p C.S (if j=M.las.length then[]else Z.ow j) m)/\uq (cW K H') M.p C.S (if j=M.las.length then[]else Z.ow j)/\∀x∈(if j=M.las.length then[]else Z.tk j),x.2.2≠.ref (Z.G .dl);rw[g8 n,g8 n];exact h.tabsI im j C q
 ·obtain⟨o,e⟩:=mw P w a (M:={M with las:=M.las++[⟨nm,sl,AS.new,[]⟩]}) (Z.newL M.las.length lo iu t od td c d) (r:=r) (by simpa using Y);rcases u r o e with⟨_,n⟩|⟨B,_,x,J⟩
  ·exact .inl (gs r n)
  ·exact .inr ⟨B,qh J⟩
theorem bw.newT(h:bw P w K a H M Z){nm home:Str}{arms shuts:MV}{rule:Ru}{t ba dx ar sh:Addr}{ru:V}(h1:H t=none)(h2:H ba=none)(c:∀b o,H b=some o->b≠Z.G .tn->H' b=some o)(v:H' (Z.G .tn)=some (.dK (jZ (M.trs.map eK.nm) (λi=>.ref (Z.G (.tr i)))++[(.inr nm,.ref t)])))(I:H' t=some (.ins a.fA dx [("home",.str home),("arms",.ref ar),("rule",ru),("shuts",.ref sh),("paused",.bl false),("closed",.bl false),("barred",.ref ba)]))(J:H' ba=some (.dK []))(L:aX K H ar (arms.map V.str))(N:dP K H rule ru)(Q:aX K H sh (shuts.map V.str)):∃d,d.G .hh=Z.G .hh/\d.G .dl=Z.G .dl/\d.ds=Z.ds/\d.tk=Z.tk/\d.ow=Z.ow/\d.cv=Z.cv/\bw P w K a H' {M with trs:=M.trs++[⟨nm,home,arms,rule,shuts,false,false,[]⟩]} d/\∀r,u8 M.las.length (M.trs.length+1) r->H (d.G r)=none\/(d.G r=Z.G r/\u8 M.las.length M.trs.length r):=by
 have im:=h.imm (r:=.tn) rfl c;have m:(M.trs.map eK.nm).length=M.trs.length:=b_ ..;have k:∀r o,cont P w a {M with trs:=M.trs++[⟨nm,home,arms,rule,shuts,false,false,[]⟩]} (Z.newT M.trs.length t ba dx ar ru sh) r=some o->(H' ((Z.newT M.trs.length t ba dx ar ru sh).G r)=some o/\(r=.tr M.trs.length\/r=.ba M.trs.length))\/((Z.newT M.trs.length t ba dx ar ru sh).G r=Z.G r/\H' (Z.G r)=some o/\∃y,cont P w a M Z r=some y):=λr o e=>by
  cases r with|tn=>refine .inr ⟨rfl,?_,_,rfl⟩;rw[v,<-e];show _=some (HO.dK (jZ ((M.trs++[(⟨nm,home,arms,rule,shuts,false,false,[]⟩:eK)]).map eK.nm) λi=>V.ref ((Z.newT M.trs.length t ba dx ar ru sh).G (.tr i))));rw[g6,Mq,wF,m];have O:(Z.newT M.trs.length t ba dx ar ru sh).G (.tr M.trs.length)=t:=hQ rfl;rw[O,pN (f:=λi=>V.ref ((Z.newT M.trs.length t ba dx ar ru sh).G (.tr i))) (g:=λi=>V.ref (Z.G (.tr i)))];intro i hi;rw[m]at hi;show V.ref (if Ro.tr i=.tr M.trs.length then t else _)=_;rw[g8 λz=>iA hi (by injection z)];rfl|tr j=>
   rcases iH e with⟨rfl,rfl⟩|⟨q,e⟩
   ·refine .inl ⟨?_,.inl rfl⟩;have l:(Z.newT M.trs.length t ba dx ar ru sh).G (.tr M.trs.length)=t:=hQ rfl;have A:(Z.newT M.trs.length t ba dx ar ru sh).G (.ba M.trs.length)=ba:=by simp[ZS.newT]
    have R:(Z.newT M.trs.length t ba dx ar ru sh).dx (.tr M.trs.length)=dx:=hQ rfl;have S:(Z.newT M.trs.length t ba dx ar ru sh).ar M.trs.length=ar:=hQ rfl;have T:(Z.newT M.trs.length t ba dx ar ru sh).ru M.trs.length=ru:=hQ rfl;have U:(Z.newT M.trs.length t ba dx ar ru sh).sh M.trs.length=sh:=hQ rfl;rw[l,A,R,S,T,U];exact I
   ·have e:cont P w a M Z (.tr j)=some o:=by rw[<-e];simp[cont,ZS.newT,q]
    exact .inr ⟨by simp[ZS.newT,q],c _ _ (h.at_ (.tr j) _ e) λz=>(nomatch h.inj (.tr j) .tn _ _ e rfl z),_,e⟩|ba j=>
   rcases iH e with⟨rfl,rfl⟩|⟨q,e⟩
   ·refine .inl ⟨?_,.inr rfl⟩;have A:(Z.newT M.trs.length t ba dx ar ru sh).G (.ba M.trs.length)=ba:=by simp[ZS.newT]
    rw[A];exact J
   ·have e:cont P w a M Z (.ba j)=some o:=by rw[<-e];rfl
    exact .inr ⟨by simp[ZS.newT,q],c _ _ (h.at_ (.ba j) _ e) λz=>(nomatch h.inj (.ba j) .tn _ _ e rfl z),_,e⟩|hh=>exact .inr ⟨rfl,c _ _ (h.at_ .hh _ e) λz=>(nomatch h.inj .hh .tn _ _ rfl rfl z),_,e⟩|ln=>exact .inr ⟨rfl,c _ _ (h.at_ .ln _ e) λz=>(nomatch h.inj .ln .tn _ _ rfl rfl z),_,e⟩|ci=>exact .inr ⟨rfl,c _ _ (h.at_ .ci _ e) λz=>(nomatch h.inj .ci .tn _ _ rfl rfl z),_,e⟩|dl=>exact .inr ⟨rfl,c _ _ (h.at_ .dl _ e) λz=>(nomatch h.inj .dl .tn _ _ rfl rfl z),_,e⟩|lo j=>exact .inr ⟨rfl,c _ _ (h.at_ (.lo j) _ e) λz=>(nomatch h.inj (.lo j) .tn _ _ e rfl z),_,e⟩|iu j=>exact .inr ⟨rfl,c _ _ (h.at_ (.iu j) _ e) λz=>(nomatch h.inj (.iu j) .tn _ _ e rfl z),_,e⟩|tb j=>exact .inr ⟨rfl,c _ _ (h.at_ (.tb j) _ e) λz=>(nomatch h.inj (.tb j) .tn _ _ e rfl z),_,e⟩|od j=>exact .inr ⟨rfl,c _ _ (h.at_ (.od j) _ e) λz=>(nomatch h.inj (.od j) .tn _ _ e rfl z),_,e⟩|td j=>exact .inr ⟨rfl,c _ _ (h.at_ (.td j) _ e) λz=>(nomatch h.inj (.td j) .tn _ _ e rfl z),_,e⟩
 have gs:∀r,(r=.tr M.trs.length\/r=.ba M.trs.length)->H ((Z.newT M.trs.length t ba dx ar ru sh).G r)=none:=λr B=>by rcases B with rfl|rfl<;>simp only[ZS.newT]<;>simp[h1,h2]
 refine⟨Z.newT M.trs.length t ba dx ar ru sh,rfl,rfl,rfl,rfl,rfl,rfl,⟨λr D o y e C g=>?_,λr o e=>?_,λj W e=>(h.seats j W e).kp im.kp,λj X e=>?_,h.tabsI im,h.came.im im⟩,λr B=>?_⟩
 ·rcases k r o e with⟨q,n⟩|⟨l,q,x,p⟩<;>rcases k D y C with⟨E,F⟩|⟨s,E,Y,u⟩
  ·rw[g,E]at q;have q:=kl q;rcases n with rfl|rfl<;>rcases F with rfl|rfl<;>first|rfl|(exfalso;simp[cont]at e C;rw[<-e,<-C]at q;cases q)
  ·rw[s]at g;have:=h.at_ _ _ u;rw[<-g,gs r n]at this;cases this
  ·rw[l]at g;have:=h.at_ _ _ p;rw[g,gs D F]at this;cases this
  ·rw[l,s]at g;exact h.inj _ _ _ _ p u g
 ·rcases k r o e with⟨q,n⟩|⟨l,q,x,p⟩
  ·exact q
  ·rw[l];exact q
 ·rcases nP e with⟨rfl,rfl⟩|⟨n,q⟩
  ·show aX K H' (if M.trs.length=M.trs.length then ar else _) (arms.map V.str)/\dP K H' rule (if M.trs.length=M.trs.length then ru else _)/\aX K H' (if M.trs.length=M.trs.length then sh else _) (shuts.map V.str);rw[hQ rfl,hQ rfl,hQ rfl];exact⟨im.kp.tq L,N.kp im.kp,im.kp.tq Q⟩
  ·show aX K H' (if j=M.trs.length then ar else Z.ar j) _/\dP K H' _ (if j=M.trs.length then ru else Z.ru j)/\aX K H' (if j=M.trs.length then sh else Z.sh j) _;rw[g8 n,g8 n,g8 n];exact h.trsI im.kp j X q
 ·obtain⟨o,e⟩:=mw P w a (M:={M with trs:=M.trs++[⟨nm,home,arms,rule,shuts,false,false,[]⟩]}) (Z.newT M.trs.length t ba dx ar ru sh) (r:=r) (by simpa using B);rcases k r o e with⟨_,n⟩|⟨l,_,x,p⟩
  ·exact .inl (gs r n)
  ·exact .inr ⟨l,qh p⟩
end
def hE(M:cA)(Z:ZS)(b:Addr):Prop:=(∃r,u8 M.las.length M.trs.length r/\b=Z.G r)\/(∃i,i<M.las.length/\∃x∈Z.tk i,x.2.2=.ref b)\/∃x∈Z.cv,x.2=.ref b
def eX.outs(n:∀x∈tk,∀l c,x.2.2=.ref l->H l=some (.lst c)->H' l=some (.lst c))(h:eX H tk m):eX H' tk m:=Paired.mapM h λx b _ q=>⟨q.1,q.2.1,q.2.2.imp λ_ q=>⟨q.1,n x b _ _ q.1 q.2⟩⟩
def ee.outs(e:Kp H H')(n:∀x∈cv,∀l c,x.2=.ref l->H l=some (.lst c)->H' l=some (.lst c))(h:ee K H dl cv cm):ee K H' dl cv cm:=Paired.mapM h λx b _ q=>⟨q.1,q.2.imp λ_ q=>q.imp λ_ q=>⟨q.1,q.2.1,n x b _ _ q.1 q.2.2.1,q.2.2.2.kp e⟩⟩
def bw.out(h:bw P w K a H M Z)(n:¬hE M Z o)(kp:Kp H H')(f:∀b ob,H b=some ob->b≠o->H' b=some ob):bw P w K a H' M Z:=⟨h.inj,λr ob e=>f _ _ (h.at_ r ob e) λz=>n (.inl ⟨r,qh e,z.symm⟩),λi l d=>(h.seats i l d).kp kp,h.trsI kp,λi l d=>let⟨h1,⟨m,h2,h3⟩,h4,h5⟩:=h.tabs i l d;⟨λx c=>fq kp (h1 x c),⟨m,h2.outs λx c l k g j=>f _ _ j λz=>n (.inr (.inl ⟨i,(d_.mp d).1,x,c,by rw[g,z]⟩)),h3⟩,h4.mono λ_ _ q=>fq kp q,h5⟩,h.came.outs kp λx c l k g j=>f _ _ j λz=>n (.inr (.inr ⟨x,c,by rw[g,z]⟩))⟩
def lO{a b:Addr}{o:HO}(h:aG H a o b=none):H b=none:=by
 by_cases e:b=a
 ·rw[e,af]at h;cases h
 ·rw[ao e]at h;exact h
structure f8(H:Hp)(M:cA)(Z:ZS)(H':Hp)(M':cA)(Z':ZS):Prop where
 hh:Z'.G .hh=Z.G .hh
 fr:∀b o,H b=some o->¬hE M Z b->H' b=some o
 fp:∀b,hE M' Z' b->hE M Z b\/H b=none
 dm:∀b,H' b=none->H b=none
 dd:Z'.G .dl=Z.G .dl
section
variable{H m j f:Hp}{M M1 M2 c:cA}{Z g d a:ZS}
def f8.of(s:ak H f):f8 H M Z f M Z:=⟨rfl,λb o h _=>s b o h,λ_ h=>.inl h,λ_ h=>s.free h,rfl⟩
theorem f8.trans(s:f8 H M Z m M1 g)(t:f8 m M1 g j M2 d):f8 H M Z j M2 d:=⟨t.hh.trans s.hh,λb o h n=>t.fr b o (s.fr b o h n) λq=>(s.fp b q).elim n λz=>(by rw[h]at z;cases z),λb q=>(t.fp b q).elim (s.fp b) λz=>.inr (s.dm b z),λb z=>s.dm b (t.dm b z),t.dd.trans s.dd⟩
def f8.put(s:u8 M.las.length M.trs.length r)(p:a.G=Z.G)(h1:c.las.length=M.las.length)(h2:c.trs.length=M.trs.length)(h3:a.tk=Z.tk)(h4:∀x∈a.cv,x∈Z.cv\/∃l,x.2=.ref l/\(hE M Z l\/H l=none)):f8 H M Z (aG H (Z.G r) o) c a:=⟨by rw[p],λb o h n=>(by rw[ao λz=>n (.inl ⟨r,s,z⟩)];exact h),λb q=>by
  rcases q with⟨t,h,e⟩|⟨i,hi,x,k,e⟩|⟨x,k,e⟩
  ·exact .inl (.inl ⟨t,by rw[<-h1,<-h2];exact h,by rw[e,p]⟩)
  ·exact .inl (.inr (.inl ⟨i,by rw[<-h1];exact hi,x,by rw[<-h3];exact k,e⟩))
  ·rcases h4 x k with q|⟨l,u,q⟩
   ·exact .inl (.inr (.inr ⟨x,q,e⟩))
   ·rw[u]at e;cases e;exact q,λb z=>lO z,by rw[p]⟩
end
def f8.out{o:Addr}{x:HO}{H c:Hp}{M M1:cA}{Z d:ZS}(s:f8 H M Z c M1 d)(n:H o=none):f8 H M Z (aG c o x) M1 d:=⟨s.hh,λb e h q=>(by rw[ao (aH h n)];exact s.fr b e h q),s.fp,λb z=>s.dm b (lO z),s.dd⟩
theorem eX.ex(h:eX H tk m)(x:ic)(c:x∈tk):∃l d,x.2.2=.ref l/\H l=some (.lst d):=(Paired.ex h x c).elim λ_ q=>q.2.2.imp λ_ q=>⟨_,q⟩
theorem ee.ex(h:ee K H dl cv cm)(x:cb×V)(c:x∈cv):∃l d,x.2=.ref l/\H l=some (.lst d):=(Paired.ex h x c).elim λ_ q=>q.2.imp λ_ q=>q.imp λ_ q=>⟨q.1,q.2.2.1⟩
def bw.foot(h:bw P w K a H M Z)(c:H b=none):¬hE M Z b:=λz=>by
 rcases z with⟨r,j,e⟩|⟨i,hi,x,d,e⟩|⟨x,d,e⟩
 ·obtain⟨o,q⟩:=mw P w a Z j;rw[e,h.at_ r o q]at c;cases c
 ·obtain⟨_,⟨m,q,_⟩,_⟩:=h.tabs i _ (fy hi);obtain⟨l,k,f,g⟩:=q.ex x d;rw[f]at e;cases e;rw[g]at c;cases c
 ·obtain⟨l,k,f,g⟩:=h.came.ex x d;rw[f]at e;cases e;rw[g]at c;cases c
structure EJ(M:cA)(c:Nat)(l:d8):Prop where
 wd:Wd l.nm
 sl:0<=l.sl/\l.sl<=M.p
 ok:l.S.Ok M.p
 len:l.ins.length<=c
 gs:∀x∈l.ins,AG x.1
 nd:(l.ins.map (·.1)).Nodup
 own:∀k q,q∈l.S.pl k->k=fI "" ""\/∃t∈M.trs,t.home=l.nm/\∃y∈t.arms,k=fI t.nm y
structure Gv(M:cA)(t:eK):Prop where
 wd:Wd t.nm
 hm:t.home∈M.las.map d8.nm
 a1:1<=t.arms.length
 a4:t.arms.length<=4
 nd:t.arms.Nodup
 aw:∀x∈t.arms,Wd x
 hg:t.rule.hgt<=6
 s8:t.shuts.length<=8
structure nN(M:cA)(c:Nat):Prop where
 p:2<=M.p/\M.p<=997
 ln:(M.las.map d8.nm).Nodup
 tn:(M.trs.map eK.nm).Nodup
 la:∀l∈M.las,EJ M c l
 tr:∀t∈M.trs,Gv M t
 cm:∀x∈M.came,x.2.length<=10*c
 l4:M.las.length<=4
 tc:M.trs.length<=10
 cl:M.came.length<=10*c
 br:∀t∈M.trs,t.bar.length<=c
structure cR(P:MU)(w:World)(K:MP)(a:i0)(H:Hp)(M:cA)(Z:ZS)(c:Nat):Prop where
 g:bw P w K a H M Z
 ok:nN M c
 tk:∀i,(Z.tk i).length<=10*c
 ow:∀i,(Z.ow i).length<=5000*c
 ds:Z.ds.length<=c
def EJ.mono(h:EJ M c l)(hc:c<=d):EJ M d l:={h with len:=ku h.len hc}
theorem nN.mono(h:nN M c)(hc:c<=d):nN M d:={h with la:=λl b=>(h.la l b).mono hc,cm:=λx e=>ku (h.cm x e) (LJ _ hc),cl:=ku h.cl (LJ _ hc),br:=λt f=>ku (h.br t f) hc}
theorem cR.mono(h:cR P w K a H M Z c)(hc:c<=d):cR P w K a H M Z d:=⟨h.g,h.ok.mono hc,λi=>ku (h.tk i) (LJ _ hc),λi=>ku (h.ow i) (LJ _ hc),ku h.ds hc⟩
theorem cR.same(h:cR P w K a H M Z c)(e:ak H H'):cR P w K a H' M Z c:={h with g:=h.g.same e}
section
variable{P:MU}{w:World}{K:MP}{a:i0}{H d:Hp}{M:cA}{Z:ZS}{c:Nat}
def bw.house(h:bw P w K a H M Z):H (Z.G .hh)=some (.ins a.ck (Z.dx .hh) [("own_prime",.int M.p),("own_salt",.int M.salt),("layer_named",.ref (Z.G .ln)),("trial_named",.ref (Z.G .tn)),("came_into",.ref (Z.G .ci)),("deeds",.ref (Z.G .dl))]):=h.at_ .hh _ rfl
def bw.lays(h:bw P w K a H M Z):H (Z.G .ln)=some (.dK (jZ (M.las.map d8.nm) λi=>.ref (Z.G (.lo i)))):=h.at_ .ln _ rfl
def bw.tris(h:bw P w K a H M Z):H (Z.G .tn)=some (.dK (jZ (M.trs.map eK.nm) λi=>.ref (Z.G (.tr i)))):=h.at_ .tn _ rfl
def bw.cams(h:bw P w K a H M Z):H (Z.G .ci)=some (.dK Z.cv):=h.at_ .ci _ rfl
def bw.dees(h:bw P w K a H M Z):H (Z.G .dl)=some (.lst Z.ds):=h.at_ .dl _ rfl
def bw.layer(h:bw P w K a H M Z)(e:M.las[i]?=some l):H (Z.G (.lo i))=some (.ins a.eM (Z.dx (.lo i)) [("slope",.int l.sl),("table",.ref (Z.G (.tb i))),("inside",.ref (Z.G (.iu i)))]):=h.at_ (.lo i) _ (by simp only[cont,e];rfl)
def bw.inside(h:bw P w K a H M Z)(e:M.las[i]?=some l):H (Z.G (.iu i))=some (.dK (Z.iv i)):=h.at_ (.iu i) _ (by simp only[cont,e];rfl)
def bw.trial(h:bw P w K a H M Z)(e:M.trs[i]?=some t):H (Z.G (.tr i))=some (.ins a.fA (Z.dx (.tr i)) [("home",.str t.home),("arms",.ref (Z.ar i)),("rule",Z.ru i),("shuts",.ref (Z.sh i)),("paused",.bl t.pau),("closed",.bl t.clo),("barred",.ref (Z.G (.ba i)))]):=h.at_ (.tr i) _ (by simp only[cont,e];rfl)
def bw.barred(h:bw P w K a H M Z)(e:M.trs[i]?=some t):H (Z.G (.ba i))=some (.dK (t.bar.map λg=>(.inr g,.bl true))):=h.at_ (.ba i) _ (by simp only[cont,e];rfl)
def nN.lget(h:nN M c)(e:M.las[i]?=some l):bu (jZ (M.las.map d8.nm) λi=>.ref (Z.G (.lo i))) (.inr l.nm)=some (.ref (Z.G (.lo i))):=rO h.ln (by rw[ge,e];rfl)
def nN.tget(h:nN M c)(e:M.trs[i]?=some t):bu (jZ (M.trs.map eK.nm) λi=>.ref (Z.G (.tr i))) (.inr t.nm)=some (.ref (Z.G (.tr i))):=rO h.tn (by rw[ge,e];rfl)
theorem nN.home(h:nN M c)(f:t∈M.trs):∃(i:Nat)(l:d8),M.las[i]?=some l/\l.nm=t.home:=by obtain⟨l,b,e⟩:=j_.mp (h.tr t f).hm;obtain⟨i,hi⟩:=ji.mp b;exact⟨i,l,hi,e⟩
end
section
variable{K:MP}{H:Hp}
def bV.find(h:bV K H iv ins)(hn:(ins.map (·.1)).Nodup):∀x∈ins,∃s,bu iv (.inr x.1)=some (.ref s)/\aX K H s [.str x.2.1,.str x.2.2]:=by induction h with|nil=>exactλx b=>(nomatch b)|@cons _ y _ _ h _ c=>
  intro x b;obtain⟨h1,s,h2,h3⟩:=h;rw[lh,ML]at hn;rcases o_.mp b with rfl|b
  ·exact⟨s,by rw[cq h1,h2],h3⟩
  ·obtain⟨d,f,g⟩:=c hn.2 x b;refine⟨d,?_,g⟩;rw[bL,f];intro e;rw[h1]at e;exact hn.1 (by rw[show y.1=x.1 from qc e];exact j_.mpr ⟨x,b,rfl⟩)
theorem bV.none(h:bV K H iv ins)(hn:g∉ins.map (·.1)):bu iv (.inr g)=Option.none:=by induction h with|nil=>rfl|@cons _ y _ _ h _ b=>
  rw[lh]at hn;rw[bL]
  ·exact b λz=>hn (hY _ z)
  ·intro e;rw[h.1]at e;exact hn (by rw[show y.1=g from qc e];exact ir)
def bV.drop(g:Str)(h:bV K H iv ins):bV K H (dA iv (.inr g)) (ins.filter λx=>decide (x.1≠g)):=by induction h with|nil=>exact .nil|@cons x y _ _ h _ b=>
  by_cases e:y.1=g
  ·rw[vO (by rw[h.1,e]),List.filter_cons_of_neg (by simp[e])];exact b
  ·rw[vP (λz=>e (by rw[h.1]at z;exact qc z)),List.filter_cons_of_pos (by simp[e])];exact .cons h b
end
def dn(ins:List (Str×Str×Str))(gs:MV):List (Str×Str×Str):=ins.filter λx=>decide (x.1∉gs)
def kP(ins:List (Str×Str×Str)):dn ins []=ins:=List.filter_eq_self.mpr λ_ _=>by simp
def qS(ins:List (Str×Str×Str))(gs:MV)(g:Str):dn ins (gs++[g])=(dn ins gs).filter λx=>decide (x.1≠g):=by
 unfold dn;rw[List.filter_filter];refine List.filter_congr λx _=>?_
 by_cases h1:x.1∈gs<;>by_cases h2:x.1=g<;>simp[h1,h2]
def zz(h:g∈ins.map (·.1))(hn:g∉gs):∃x∈dn ins gs,x.1=g:=by obtain⟨x,b,rfl⟩:=j_.mp h;exact⟨x,tA.mpr ⟨b,by simpa using hn⟩,rfl⟩
def vI(h:(ins.map (·.1)).Nodup):((dn ins gs).map (·.1)).Nodup:=(List.Sublist.map _ List.filter_sublist).nodup h
abbrev cA.setL(M:cA)(i:Nat)(l:d8):cA:={M with las:=M.las.set i l}
def mj{M:cA}{i:Nat}{l:d8}(c:M.las[i]?=some l):M.setL i l=M:=by
 have e:M.las.set i l=M.las:=th λj=>by
  rw[LU]
  split
  ·rename_i q;subst q;rw[hQ (d_.mp c).1,c]
  ·rfl
 unfold cA.setL;rw[e]
def sy{M:cA}{i:Nat}{l c:d8}:(M.setL i l).setL i c=M.setL i c:=by unfold cA.setL;rw[List.set_set]
def sA{M:cA}{i:Nat}{l l':d8}(c:M.las[i]?=some l):(M.setL i l').las[i]?=some l':=by show(M.las.set i l')[i]?=_;rw[y2 (d_.mp c).1]
theorem nN.setL{M:cA}{c d:Nat}(h:nN M c){i:Nat}{l e:d8}(g:M.las[i]?=some l)(h1:e.nm=l.nm)(hc:c<=d)(ok:EJ M d e):nN (M.setL i e) d:=by
 have b:(M.las.set i e).map d8.nm=M.las.map d8.nm:=dX g d8.nm h1;have h:=h.mono hc;refine{h with ln:=by rw[b];exact h.ln,la:=λx j=>?_,tr:=λt f=>{h.tr t f with hm:=by show t.home∈(M.las.set i e).map d8.nm;rw[b];exact(h.tr t f).hm},l4:=by show(M.las.set i e).length<=4;rw[ry];exact h.l4};rcases LQ j with q|rfl
 ·exact{h.la x q with}
 ·exact{ok with}
inductive JF(P:MU)(w:World)(K:MP)(a:i0)(vs:List V)(H:Hp)(Q:VK)(_E:XK):Prop|mk(M:cA)(Z:ZS)(c i:Nat)(l:d8)(g:Addr)(gs:MV)(_:vs=[.ref (Z.G .hh),.ref (Z.G (.lo i)),.ref g])(_:cR P w K a H M Z c)(_:M.las[i]?=some l)(_:H g=some (.lst (gs.map V.str)))(_:(∀x∈gs,x∈l.ins.map (·.1)))(_:gs.Nodup)(_:gs.length<=63)(_:∀(r:Addr)(us:List V)(Z':ZS)(H':Hp),f8 H M Z H' (M.setL i {l with ins:=dn l.ins gs}) Z'->cR P w K a H' (M.setL i {l with ins:=dn l.ins gs}) Z' c->H r=none->H' r=some (.lst us)->Z'.ds=Z.ds->Q (.ref r) H')
section
def jX(T:Txt K mg a):aO P w K mg base cZ 1 a.cp.x a.cp.d ["self","layer","guests"] (JF P w K a):=by
 refine T.cp.ok eP λbt A outer s H vs Q E hr h=>?_
 ·obtain⟨M,Z,c,i,l,g,gs,rfl,hZ,hl,hg,a5,a6,bl,q⟩:=h;refine⟨_,(ag (bd 3 eP.nd (a0 O)) (ag (eC mo rfl (fj K rfl (Y 2)) (tz 4 eP.nd) (ag (bd 5 eP.nd (xP (aK K rfl (Y 1)) (Y 4) ⟨rfl,rfl,rfl,rfl⟩)) (ah (aV (cI K rfl PySem.F.plainAttrs_list PySem.F.slot_list_append PySem.F.type_list_append d0 (Y 3) (ac (au (xT K rfl) (cf (ac (Y 4) O)) (Y 5)) O)))))) (ah (az (aB (zH K rfl) (by rfl) T.yf L2.qW (ac (Y 3) O)))))),?_⟩
  refine⟨ls rfl,λo ho=>aq ?_⟩;refine mH ho λH1 s1 a7=>?_;have hL:=hZ.ok.la l (ga hl);have a8:¬hE M Z o:=hZ.g.foot ho;have ba:(gs.map V.str).length=gs.length:=b_ ..;refine U rfl ⟨g,rfl,⟨_,aW.of (s1 _ _ hg)⟩,?_⟩;refine lV (xs:=gs.map V.str) (λk σ H'=>EL λR C=>Lr (bw P w K a H' (M.setL i {l with ins:=dn l.ins (gs.take k)}) R) (R.G=Z.G) (R.tk=Z.tk) (R.ow=Z.ow) (R.ds=Z.ds) (R.cv=Z.cv) (¬hE (M.setL i {l with ins:=dn l.ins (gs.take k)}) R o) (f8 H M Z H' (M.setL i {l with ins:=dn l.ins (gs.take k)}) R) (H' g=some (.lst (gs.map V.str))) (H' o=some (.lst (C.map V.ref))) (C.length=k) ((∀u∈C,∃x y z,aX K H' u [.str x,.str y,.str z])) (EL λv4 v5=>σ=[some (.ref (Z.G .hh)),some (.ref (Z.G (.lo i))),some (.ref g),some (.ref o),v4,v5])) ⟨Z,[],by rw[oi,kP];exact(mj hl).symm▸hZ.g.same s1,rfl,rfl,rfl,rfl,rfl,by rw[oi,kP];exact(mj hl).symm▸a8,by rw[oi,kP];exact(mj hl).symm▸f8.of s1,s1 _ _ hg,a7,rfl,λu hu=>(nomatch hu),_,_,rfl⟩ (λk σ H' _ h=>by obtain⟨_,_,_,_,_,_,_,_,_,_,h,_⟩:=h;exact aW.of h) ?_ ?_
  ·rintro k v σ H2 hv⟨f,C,m,eG,aa,ad,D,ap,S,p,al,B,I,t,v4,v5,rfl⟩;rw[ge]at hv;obtain⟨x,W,rfl⟩:=Option.map_eq_some_iff.mp hv;have hk:k<gs.length:=(d_.mp W).1;have X:=f9 W;have bb:x∉gs.take k:=λz=>by have:=a6;rw[<-r_ k gs,ov]at this;exact this.2.2 x z x (ga (by rw[Mr,Nat.add_zero];exact W)) rfl
   have bc:¬hE (M.setL i {l with ins:=dn l.ins (gs.take k)}) f o:=λz=>(S z);obtain⟨y,hy,ey⟩:=zz (a5 x (ga W)) bb;have n:=sA (l':={l with ins:=dn l.ins (gs.take k)}) hl;have as:=m.seats i _ n;obtain⟨s,av,J⟩:=as.find (vI hL.nd) y hy;rw[ey]at av;refine aq (iZ (by rw[<-eG];exact m.layer n) T.cj T.b7 rfl rfl ⟨f.G (.iu i),rfl,.inl ⟨_,.inl (m.inside n)⟩,U rfl ⟨_,.inr x,_,m.inside n,rfl,av,aq ?_⟩⟩);have L:=m.setIns n (as.drop x);have im:=m.imm (r:=.iu i) (by simp only[cont,n];rfl) (cE (o':=.dK (dA (f.iv i) (.inr x))));have N:f8 H2 _ f (aG H2 (f.G (.iu i)) (.dK (dA (f.iv i) (.inr x)))) ((M.setL i {l with ins:=dn l.ins (gs.take k)}).setL i {l with ins:=(dn l.ins (gs.take k)).filter λz=>decide (z.1≠x)}) {f with iv:=λj=>if j=i then dA (f.iv i) (.inr x)else f.iv j}:=f8.put (show i<_ from(d_.mp n).1) rfl (ry ..) rfl rfl λx W=>.inl W;have ax:=cE (x:=f.G (.iu i)) (o':=.dK (dA (f.iv i) (.inr x))) _ _ al λz=>by have e:=m.inside n;rw[<-z,al]at e;cases e
   have an:=cE (x:=f.G (.iu i)) (o':=.dK (dA (f.iv i) (.inr x))) _ _ B λz=>by have e:=m.inside n;rw[<-z,B]at e;cases e
   rw[sy,<-qS,<-X]at N;have L:bw P w K a (aG H2 (f.G (.iu i)) (.dK (dA (f.iv i) (.inr x)))) (M.setL i {l with ins:=dn l.ins (gs.take (k+1))}) {f with iv:=λj=>if j=i then dA (f.iv i) (.inr x)else f.iv j}:=by rw[X,qS,<-sy (l:={l with ins:=dn l.ins (gs.take k)})];exact L
   have J:=im.kp.tq J;have t:∀u∈C,∃x1 y1 z1,aX K (aG H2 (f.G (.iu i)) (.dK (dA (f.iv i) (.inr x)))) u [.str x1,.str y1,.str z1]:=λu hu=>let⟨x1,y1,z1,h⟩:=t u hu;⟨x1,y1,z1,im.kp.tq h⟩;generalize aG H2 (f.G (.iu i)) (.dK (dA (f.iv i) (.inr x)))=H3 at L N ax an J t⊢;refine U rfl ⟨.inl ⟨rfl,_,aW.of an⟩,U rfl ⟨ls rfl,λT1 a2=>(U rfl ⟨T1,s,[.str x],U rfl ⟨rfl,aX.of af,ak.tseq (aj (ak.refl _) a2) J,by simp,by rw[gg];simp,λz=>(nomatch z),λ_ T2 bi=>?_⟩⟩)⟩⟩;have s5:=aj (o:=.tup ([.str x]++[.str y.2.1,.str y.2.2])) (aj (o:=.tup [.str x]) (ak.refl H3) a2) bi;have e5:aG (aG H3 T1 (.tup [.str x])) T2 (.tup ([.str x]++[.str y.2.1,.str y.2.2])) T2=some (.tup [.str x,.str y.2.1,.str y.2.2]):=af;generalize aG (aG H3 T1 (.tup [.str x])) T2 (.tup ([.str x]++[.str y.2.1,.str y.2.2]))=H5 at s5 e5⊢;have a3:=s5 _ _ an;refine rA a3 (by rw[b_,I,gg];lia) ?_;have kp:Kp H5 (aG H5 o (.lst (C.map V.ref++[.ref T2]))):=.lst a3;have nF:¬hE (M.setL i {l with ins:=dn l.ins (gs.take (k+1))}) {f with iv:=λj=>if j=i then dA (f.iv i) (.inr x)else f.iv j} o:=λz=>by
    rcases N.fp o z with q|q
    ·exact bc q
    ·rw[B]at q;cases q
   have kq:∀b ob,H5 b=some ob->b≠o->aG H5 o (.lst (C.map V.ref++[.ref T2])) b=some ob:=cE;refine⟨{f with iv:=λj=>if j=i then dA (f.iv i) (.inr x)else f.iv j},C++[T2],(L.same s5).out nF kp kq,eG,aa,ad,D,ap,nF,((p.trans N).trans (f8.of s5)).out ho,?_,?_,by rw[gV,I];rfl,λu hu=>?_,_,_,rfl⟩
   ·exact kq _ _ (s5 _ _ ax) λz=>by rw[z,ho]at hg;cases hg
   ·rw[af,g6];rfl
   ·rcases List.mem_append.mp hu with z|z
    ·obtain⟨x1,y1,z1,h⟩:=t u z;exact⟨x1,y1,z1,kp.tq (ak.tseq s5 h)⟩
    ·rw[List.mem_singleton.mp z];exact⟨_,_,_,kp.tq (aX.of e5)⟩
  ·rintro σ H2⟨f,C,m,eG,aa,ad,D,ap,S,p,al,B,I,t,v4,v5,rfl⟩;rw[ba]at I m p;rw[g_ (fx _)]at m p;refine U rfl ⟨o,C,rfl,aW.of B,by lia,t,λr vs hr hp=>?_⟩;have s6:=aj (o:=.lst (vs.map V.ref)) (ak.refl H2) hr;refine q r (vs.map V.ref) f _ (p.trans (f8.of s6)) ⟨m.same s6,?_,λj=>by rw[aa];exact hZ.tk j,λj=>by rw[ad];exact hZ.ow j,by rw[D];exact hZ.ds⟩ (p.dm _ hr) af D;refine hZ.ok.setL hl rfl (fx _) {hL with len:=ku (sg _ _) hL.len,gs:=λx W=>hL.gs x (tA.mp W).1,nd:=vI hL.nd}
end
def IP.kp(e:Kp H H')(h:IP K H c W):IP K H' c W:=Paired.mapP h λ_ _ q=>q.imp λ_ q=>q.imp λ_ q=>⟨q.1,e.tq q.2.1,fq e q.2.2⟩
def qD(x:Str)(arms:MV)(l:M0):Wl:=(arms.zip l).map λp=>(fI x p.1,p.2)
def EO(h:l.length=arms.length):(qD x arms l).length=arms.length:=by unfold qD;rw[b_,List.length_zip,h,Nat.min_self]
def G9{x:Str}{arms:MV}{l:M0}{i:Nat}{y:Str}{z:Int}(h1:arms[i]?=some y)(h2:l[i]?=some z):(qD x arms l)[i]?=some (fI x y,z):=by unfold qD;rw[ge,List.getElem?_zip_eq_some (z:=(y,z))|>.mpr ⟨h1,h2⟩];rfl
theorem rS:∀{arms:MV}{l:M0},l.length=arms.length->(qD x arms l).map (·.1)=arms.map (fI x)|[],_,_=>rfl|y::r,[],h=>nomatch h|y::r,z::l,h=>by show fI x y::(qD x r l).map (·.1)=fI x y::r.map (fI x);rw[rS (by simpa using h)]
def zL(h:fI x y=fI z u):x=z/\y=u:=by have h:=qc h;rw[List.cons.injEq,List.cons.injEq]at h;exact⟨qc h.1,qc h.2.1⟩
def G8(h:l.length=arms.length)(hn:arms.Nodup):((qD x arms l).map (·.1)).Nodup:=by rw[rS h,z7,List.pairwise_map];exact(z7.mp hn).imp λh e=>h (zL e).2
def G7(h:∀i∈l,0<=i):∀y∈qD x arms l,0<=y.2:=λy b=>by obtain⟨p,c,rfl⟩:=j_.mp b;exact h _ (LF c).2
def D3{S:AS}{j k:bW}{n:Nat}{q:Int}(h:q∈(S.give j n).pl k):q∈S.pl k:=by
 have h:q∈(if k=j then(S.pl j).take n else S.pl k):=h
 split at h
 ·rename_i e;rw[e];exact LA h
 ·exact h
theorem lU:∀{W:Wl}{S:AS}{k:bW}{q:Int},q∈(cz S W).pl k->q∈S.pl k|[],_,_,_,h=>h|x::r,_,_,_,h=>D3 (lU (W:=r) h)
theorem lw:∀{W:Wl}{S:AS}{k:bW}{q:Int},q∈(c8 n S W).pl k->q∈S.pl k\/k∈W.map (·.1)
 |[],_,_,_,h=>.inl h|x::r,S,k,q,h=>by
  rcases lw (W:=r) h with h|h
  ·have h:q∈(if k=x.1 then S.pl x.1++_ else S.pl k):=h
   split at h
   ·rename_i e;exact .inr (by rw[lh,e];exact ir)
   ·exact .inl h
  ·exact .inr (hY _ h)
section
variable{P:MU}{w:World}{K:MP}{a:i0}{H d:Hp}{M:cA}{Z:ZS}{c:Nat}
theorem cR.told(h:cR P w K a H M Z c)(A:M.las[i]?=some l)(o:mf (Z.G (.od i)) (Z.G (.td i)) H d)(C:eu P w K a.bN d (Z.G (.tb i)) (Z.G (.od i)) (Z.G (.td i)) M.p f s L)(N:i5 M.p v f L)(Q:uq (cW K H) M.p v f)(I:fb H (Z.tk i) s)(b1:s.length<=(Z.tk i).length+10)(b2:f.length<=(Z.ow i).length+5000)(hok:v.Ok M.p)(own:∀k q,q∈v.pl k->(∃D,D∈l.S.pl k)\/k=fI "" ""\/∃t∈M.trs,t.home=l.nm/\∃y∈t.arms,k=fI t.nm y):∃B,cR P w K a d (M.setL i {l with S:=v}) B (c+1)/\f8 H M Z d (M.setL i {l with S:=v}) B/\B.ds=Z.ds/\B.G=Z.G:=by
 have J:=h.ok.la l (ga A);obtain⟨m,U,_⟩:=h.g.tab A;have len:(M.setL i {l with S:=v}).las.length=M.las.length:=ry ..;refine⟨_,⟨h.g.told A o C N Q I,h.ok.setL A rfl (qq c) {J.mono (qq c)with ok:=hok,own:=λk q O=>?_},λj=>?_,λj=>?_,vl h.ds⟩,⟨rfl,λb ob e n=>?_,λb q=>?_,λb z=>oS o (by rw[C.own];simp) (by rw[C.tak];simp) z,rfl⟩,rfl,rfl⟩
 ·rcases own k q O with⟨D,h1⟩|h1
  ·exact J.own k D h1
  ·exact h1
 ·show(if j=i then s else Z.tk j).length<=_;have:=h.tk j
  split
  ·rename_i e;subst e;lia
  ·lia
 ·show(if j=i then f else Z.ow j).length<=_;have:=h.ow j
  split
  ·rename_i e;subst e;lia
  ·lia
 ·have hi:=(d_.mp A).1;exact o b ob e (λz=>n (.inl ⟨.od i,hi,z⟩)) (λz=>n (.inl ⟨.td i,hi,z⟩))
 ·rcases q with⟨r,R,e⟩|⟨j,E,x,u,e⟩|⟨x,u,e⟩
  ·exact .inl (.inl ⟨r,by rw[<-len];exact R,e⟩)
  ·rw[len]at E
   replace u:x∈(if j=i then s else Z.tk j):=u
   by_cases q:j=i
   ·rw[hQ q]at u;subst q;rcases I x u with⟨y,T,F⟩|⟨V,F,hn⟩
    ·exact .inl (.inr (.inl ⟨j,E,y,T,by rw[F,e]⟩))
    ·rw[F]at e;cases e;exact .inr hn
   ·rw[g8 q]at u;exact .inl (.inr (.inl ⟨j,E,x,u,e⟩))
  ·exact .inl (.inr (.inr ⟨x,u,e⟩))
end
def bV.get(h:bV K H iv ins)(k:Nat)(x:cb×V)(e:iv[k]?=some x):∃y,ins[k]?=some y/\x.1=.inr y.1:=(Paired.at_ h k x e).imp λ_ q=>⟨q.1,q.2.1⟩
def bV.len(h:bV K H iv ins):iv.length=ins.length:=Paired.length h
def At{z:Int}{l:M0}:nI (.int z) (l.map V.int)=decide (z∈l):=by
 by_cases h:z∈l
 ·rw[j1 h];unfold nI;rw[MG];exact⟨.int z,j_.mpr ⟨z,h,rfl⟩,by show(z==z)=true;exact C2 z⟩
 ·rw[j2 h];unfold nI;rw[List.any_eq_false];intro v b e;obtain⟨y,c,rfl⟩:=j_.mp b;have e:(y==z)=true:=e;exact h (by rw[<-eq_of_beq e];exact c)
theorem nH:∀l:List Int,(l.map V.int).all lW=true|[]=>rfl|w::r=>by rw[lh,E2,nH r];rfl
def Iw(M:cA)(l:d8)(c:M0):List Str:=(l.ins.map (·.1)).filter λg=>decide (uG M.p M.salt l.sl g∈c)
def sw(M:cA)(l:d8)(t:eK)(ns:M0):AS:=c8 M.p (cz l.S (qD t.nm t.arms ns)) (qD t.nm t.arms ns)
def ni(M:cA)(i:Nat)(l:d8)(t:eK)(ns:M0):cA:=M.setL i {l with S:=sw M l t ns,ins:=dn l.ins (Iw M l (dy l.S (qD t.nm t.arms ns)))}
inductive E5(P:MU)(w:World)(K:MP)(a:i0)(vs:List V)(H:Hp)(Q:VK)(E:XK):Prop|mk(M:cA)(Z:ZS)(c i j:Nat)(l:d8)(t:eK)(nv:Addr)(ns:M0)(_:vs=[.ref (Z.G .hh),.str t.nm,.ref nv])(_:cR P w K a H M Z c)(_:c<=63)(_:M.trs[j]?=some t)(_:M.las[i]?=some l)(_:l.nm=t.home)(_:(aW K H nv (ns.map V.int)\/aX K H nv (ns.map V.int)))(_:ns.length=t.arms.length)(_:(∀x∈ns,0<=x))(_:(jm l.S (qD t.nm t.arms ns)<=((pb M.p l.S.oc).length:Int)->∀(r:Addr)(us:List V)(Z':ZS)(H':Hp),f8 H M Z H' (ni M i l t ns) Z'->cR P w K a H' (ni M i l t ns) Z' (c+1)->H r=none->H' r=some (.lst us)->Z'.ds=Z.ds->Q (.ref r) H'))(_:(((pb M.p l.S.oc).length:Int)<jm l.S (qD t.nm t.arms ns)->∀H',ak H H'->E (.ref a.mh) none H'))
section
def gj(T:Txt K mg a):aO P w K mg base (wb P w) 4 a.bF.x a.bF.d ["self","name","numbers"] (E5 P w K a):=by
 refine T.bF.okE c9 λea A outer s H vs Q E hr h=>?_
 ·obtain⟨M,Z,c,i,j,l,t,nv,ns,rfl,u,hc,hj,hl,hh,ck,ad,c0,q,qe⟩:=h;refine⟨_,(ag (bd 3 c9.nd (gh (cU hr) (aK K rfl (Y 0)) (Y 1) (λ_ _=>rfl))) (ag (wz (i:=4) c9.nd rfl (.inr rfl) (gh (cU hr) (aK K rfl (Y 0)) (aK K rfl (Y 3)) (λ_ _=>rfl))) (ag (wz (i:=5) c9.nd rfl (.inr rfl) (bK (aK K rfl (Y 4)) T.bp T.dL.m ((mV (P:=P) (w:=w) T).mono (by decide)) hr T.dL.b .nil gS (ac (qj cG ["arm","number"] [] [7,8] (ai eQ) (wP _ 7 8) (FB K rfl rfl T.JZ (ac (aK K rfl (Y 3)) (ac (Y 2) O))) (λcl C s₀ H₀ ex=>⟨(ik K rfl rfl (bT (mG cG ["arm","number"] 7) (bT (mG cG ["arm","number"] 8) ij))),bJ,(cf (ac (cf (ac (Y 1) (ac (Y 7) O))) (ac (Y 8) O)))⟩)) O))) (ag (CU (P:=P) (w:=w) (Kv 6 cG ["guest"] [] [7] (ai eQ) (bO 7) (FE (P:=P) (w:=w) (aK K rfl (Y 4))) (λcl C s₀ H₀ ex=>⟨(mG cG ["guest"] 7),(wy (aD (nA K rfl) (bK (Y 0) T.aF T.bX.m ((jj (P:=P) (w:=w) T).mono (by decide)) hr T.bX.b .nil be (ac (Y 4) (ac (Y 7) O))) (Y 5) (by with_unfolding_all rfl))),(Y 7)⟩) c9.nd)) (ah (az (bK (Y 0) T.aF T.cp.m ((jX (P:=P) (w:=w) T).mono (by decide)) hr T.cp.b .nil be (ac (Y 4) (ac (Y 6) O))))))))),?_⟩
  have a7:=ga hj;have hT:=u.ok.tr t a7;have hL:=u.ok.la l (ga hl);have hI:=u.g.house;have a8:=u.g.trial hj;obtain⟨ba,-,-⟩:=u.g.trs j t hj;have bb:=u.ok.lget (Z:=Z) hl;rw[hh]at bb;refine iZ hI T.aF T.bf rfl rfl (U rfl (rG (.ref (Z.G (.tr j))) (by rw[<-u.ok.tget (Z:=Z) hj];exact eZ.k (k:=.inr t.nm) u.g.tris) (aq ?_)));refine iZ hI T.aF T.bg rfl rfl (iZ a8 T.bh T.jy rfl rfl (rG (.ref (Z.G (.lo i))) (by rw[<-bb];exact eZ.k (k:=.inr t.home) u.g.lays) (aq ?_)));obtain⟨m,bc,eb⟩:=u.g.tab hl;obtain⟨ec,c1⟩:=bc.ins;refine iZ (u.g.layer hl) T.cj T.gm rfl rfl (rM c1 rfl ?_);refine iZ a8 T.bh T.gT rfl rfl (U rfl ⟨Z.ar j,nv,t.arms.map V.str,ns.map V.int,rfl,ba,?_⟩);have ed:(qD t.nm t.arms ns).length=t.arms.length:=EO ad;have ef:=hT.a4;refine BH (K:=K) (a:=Z.ar j) (l:=nv) (xs:=t.arms.map V.str) (ys:=ns.map V.int) (λD k f H'=>ak H H'/\H' D=some (.lst f)/\IP K H' f ((qD t.nm t.arms ns).take k)) ck (λD hD=>⟨aj (ak.refl _) hD,af,.nil⟩) (by rw[b_,b_,ad]) (λD k f H' h=>⟨ak.tseq h.1 ba,h.1⟩) ?_ ?_
  ·rintro D k x1 x2 f H2 T1 hD ax bi⟨s2,a2,L⟩c2;have hi:k<(t.arms.map V.str).length:=(d_.mp ax).1;rw[ge]at ax bi;obtain⟨ya,c3,rfl⟩:=Option.map_eq_some_iff.mp ax;obtain⟨z2,c4,rfl⟩:=Option.map_eq_some_iff.mp bi;refine mH c2 λJ s3 a3=>?_;refine⟨T1,U rfl ⟨aX.of a3,rfl,_,U rfl (aq ⟨_,U rfl (aq ⟨rfl,gU (bq ?_)⟩)⟩)⟩⟩;refine U rfl (U rfl ⟨ls rfl,λB da=>(U rfl ⟨ls rfl,λT5 bl=>?_⟩)⟩);have s5:=aj (o:=.tup [.ref B,.int z2]) (aj (o:=.tup [.str t.nm,.str ya]) s3 da) bl;have e5:aG (aG J B (.tup [.str t.nm,.str ya])) T5 (.tup [.ref B,.int z2]) T5=some (.tup [.ref B,.int z2]):=af;have e4:aG (aG J B (.tup [.str t.nm,.str ya])) T5 (.tup [.ref B,.int z2]) B=some (.tup [.str t.nm,.str ya]):=by rw[ao (aH af bl)];exact af
   have eg:f.length<=4:=by have:=Paired.length L;rw[i_]at this;lia
   show aG (aG J B (.tup [.str t.nm,.str ya])) T5 (.tup [.ref B,.int z2]) D=some (.lst f)/\_;generalize aG (aG J B (.tup [.str t.nm,.str ya])) T5 (.tup [.ref B,.int z2])=H5 at s5 e4 e5⊢;have N:=s5 _ _ a2;have kp:Kp H5 (aG H5 D (.lst (f++[.ref T5]))):=.lst N;refine⟨N,by rw[gg];lia,lf hi ⟨bC (s2.trans s5) hD,af,?_⟩⟩;rw[f9 (G9 c3 c4)];exact Paired.snoc ((L.kp (.of s5)).kp kp) ⟨T5,.ref B,rfl,kp.tq (aX.of e5),B,rfl,kp.tq (aX.of e4)⟩
  ·rintro D f H2 hD⟨s2,a2,L⟩;rw[b_,g_ (by lia)]at L;have a5:=u.same s2;obtain⟨m2,a6,bt⟩:=a5.g.tab hl;have ei:=u.tk i;have ej:=u.ow i;have hp:=u.ok.p;refine⟨Z.G (.tb i),Z.G (.od i),Z.G (.td i),D,M.p,Z.ow i,Z.tk i,m2,l.S,qD t.nm t.arms ns,f,rfl,a6,bt,(a5.g.tabs i l hl).2.2.1,hL.ok,a2,L,G7 c0,G8 ad hT.nd,by lia,by lia,by lia,by lia,λdc lb ek el m' J off a3 di dt en R nw nl b1 b2=>aq ?_,λdv J s3=>qe dv J (s2.trans s3)⟩;obtain⟨Z3,v,dT,dV,eG⟩:=a5.told hl off a3 di dt nw b1 b2 (ki _ (iP _ hL.ok)) λk x hx=>by
    rcases lw hx with h|h
    ·exact .inl ⟨x,lU h⟩
    ·rw[rS ad]at h;obtain⟨y,hy,rfl⟩:=j_.mp h;exact .inr (.inr ⟨t,a7,hh.symm,y,hy,rfl⟩)
   have an:=sA (l':={l with S:=sw M l t ns}) hl;have v:cR P w K a J (M.setL i {l with S:=sw M l t ns}) Z3 (c+1):=v;have bz:=v.g.seats i _ an;have W:=v.g.layer an;have F:=v.g.house;have I:=v.g.inside an;rw[eG]at F W I;refine iZ W T.cj T.b7 rfl rfl ⟨Z.G (.iu i),U rfl ⟨I,λep=>λDg ap=>?_⟩⟩;have nd:Z.G (.iu i)≠Dg:=λz=>by rw[<-z,af]at ap;cases ap
   have av:J Dg=none:=by rw[ao (mu nd)]at ap;exact ap
   have eo:(l.ins.map (·.1)).length=(Z3.iv i).length:=by rw[b_];exact bz.len.symm
   have eq:=hL.len;refine Ay (n:=(Z3.iv i).length) (λk f H2=>(∀b o,J b=some o->b≠Z.G (.iu i)->H2 b=some o)/\H2 (Z.G (.iu i))=some (dE P w (Z.G (.iu i)) (Z3.iv i) ep)/\H2 Dg=some (.lst f)/\f=(((l.ins.map (·.1)).take k).filter λg=>decide (uG M.p M.salt l.sl g∈dy l.S (qD t.nm t.arms ns))).map V.str) ⟨λb o e n=>by rw[ao (aH e av),ao n];exact e,by rw[ao nd,af],af,rfl⟩ (λk f H2 hk h=>⟨h.2.1,hk⟩) ?_ ?_
   ·rintro k f H4 x H5 hk⟨f4,X,aa,rfl⟩⟨rfl,hx⟩;obtain⟨p0,d1,rfl⟩:=Option.map_eq_some_iff.mp hx;obtain⟨y,hy,ey⟩:=bz.get k p0 d1;have d2:=hL.gs y (ga hy);rw[ey];have bN:Z.G .hh≠Z.G (.iu i):=λz=>by rw[z,I]at F;cases F
    have d3:Z.G (.lo i)≠Z.G (.iu i):=λz=>by rw[z,I]at W;cases W
    have d4:lb≠Z.G (.iu i):=λz=>by rw[z,I]at R;cases R
    have er:=hL.sl;refine aq (oE (f4 _ _ F bN) rfl rfl (U rfl (U rfl ⟨Z.G .hh,Z.G (.lo i),_,_,_,_,M.p,M.salt,l.sl,y.1,rfl,f4 _ _ F bN,rfl,rfl,f4 _ _ W d3,rfl,d2,⟨by lia,by lia⟩,⟨by lia,by lia⟩,λH6 s6=>?_⟩)));refine U rfl ⟨lb,U rfl ⟨.inl (aW.of (s6 _ _ (f4 _ _ R d4))),rfl,nH _,U rfl ?_⟩⟩;have b0:(l.ins.map (·.1)).take (k+1)=(l.ins.map (·.1)).take k++[y.1]:=f9 (by rw[ge,hy];rfl);have al:((((l.ins.map (·.1)).take k).filter λg=>decide (uG M.p M.salt l.sl g∈dy l.S (qD t.nm t.arms ns))).map V.str).length<=63:=by rw[b_];refine ku (sg _ _) ?_;rw[i_,b_];lia
    show if(if false=true then _ else nI (.int (uG M.p M.salt l.sl y.1)) _)=true then _ else _
    rw[g8 h_,At];have f6:∀b o,J b=some o->b≠Z.G (.iu i)->H6 b=some o:=λb o e n=>s6 _ _ (f4 b o e n)
    by_cases as:uG M.p M.salt l.sl y.1∈dy l.S (qD t.nm t.arms ns)
    ·rw[j1 as];refine bq (U rfl ⟨s6 _ _ aa,by rw[gg];lia,lf hk ⟨λb o e n=>by rw[ao (aH e av)];exact f6 b o e n,by rw[ao nd];exact s6 _ _ X,af,?_⟩⟩);rw[b0,Ms,g6,List.filter_cons_of_pos (by simpa using as)];rfl
    ·rw[j2 as];refine bU (lf hk ⟨f6,s6 _ _ X,by rw[s6 _ _ aa],?_⟩);rw[b0,Ms,g6,List.filter_cons_of_neg (by simpa using as)];exact(t_ _).symm
   ·rintro f H4⟨f4,X,aa,rfl⟩;refine⟨⟨X,fx _⟩,aq ⟨Z.G (.iu i),_,ep,X,?_⟩⟩;rw[g_ (by lia)]at aa;have s4:ak J (aG H4 (Z.G (.iu i)) (.dK (Z3.iv i))):=λb o e=>by
     by_cases z:b=Z.G (.iu i)
     ·rw[z,I]at e;rw[z,af];exact e
     ·rw[ao z];exact f4 b o e z
    have N:aG H4 (Z.G (.iu i)) (.dK (Z3.iv i)) Dg=some (.lst ((Iw M l (dy l.S (qD t.nm t.arms ns))).map V.str)):=by rw[ao (mu nd)];exact aa
    generalize aG H4 (Z.G (.iu i)) (.dK (Z3.iv i))=H5 at s4 N⊢;refine oE (s4 _ _ F) rfl rfl (U rfl (U rfl ⟨M.setL i {l with S:=sw M l t ns},Z3,c+1,i,_,Dg,Iw M l (dy l.S (qD t.nm t.arms ns)),by rw[eG];rfl,v.same s4,an,N,λx hx=>(tA.mp hx).1,List.filter_sublist.nodup hL.nd,?_,λr us Z6 H6 b8 b9 hr d5 cc=>?_⟩))
    ·refine ku (sg _ _) ?_;rw[b_];lia
    ·rw[sy]at b8 b9;have ci:f8 H M Z H5 (M.setL i {l with S:=sw M l t ns}) Z3:=((f8.of s2).trans dT).trans (f8.of s4);exact q dc r us Z6 H6 (ci.trans b8) b9 (ci.dm _ hr) d5 (cc.trans dV)
end
abbrev cA.setT(M:cA)(j:Nat)(t:eK):cA:={M with trs:=M.trs.set j t}
def jH{M:cA}{i:Nat}{t t':eK}(c:M.trs[i]?=some t):(M.setT i t').trs[i]?=some t':=by show(M.trs.set i t')[i]?=_;rw[y2 (d_.mp c).1]
section
variable{P:MU}{w:World}{K:MP}{a:i0}{H d:Hp}{M:cA}{Z:ZS}{c:Nat}
theorem nN.setT(h:nN M c){j:Nat}{t f:eK}(g:M.trs[j]?=some t)(h1:f.nm=t.nm)(h2:f.home=t.home)(h3:f.arms=t.arms)(h4:f.rule=t.rule)(h5:f.shuts=t.shuts)(p:f.bar.length<=c):nN (M.setT j f) c:=by
 have r:(M.trs.set j f).map eK.nm=M.trs.map eK.nm:=dX g eK.nm h1;refine{h with tn:=by rw[r];exact h.tn,la:=λl s=>?_,tr:=λx b=>?_,tc:=by show(M.trs.set j f).length<=10;rw[ry];exact h.tc,br:=λx b=>?_}
 ·have q:=h.la l s;refine{q with own:=λk z u=>?_};rcases q.own k z u with e|⟨x,b,m,y,n,o⟩
  ·exact .inl e
  ·obtain⟨i,hi⟩:=ji.mp b
   by_cases e:i=j
   ·subst e;rw[g]at hi;cases hi;exact .inr ⟨f,ga (jH g),by rw[h2];exact m,y,by rw[h3];exact n,by rw[h1];exact o⟩
   ·exact .inr ⟨x,ga (i:=i) (by rw[o0 λz=>e z.symm];exact hi),m,y,n,o⟩
 ·rcases LQ b with q|rfl
  ·exact{h.tr x q with}
  ·have q:=h.tr t (ga g);exact⟨by rw[h1];exact q.wd,by rw[h2];exact q.hm,by rw[h3];exact q.a1,by rw[h3];exact q.a4,by rw[h3];exact q.nd,by rw[h3];exact q.aw,by rw[h4];exact q.hg,by rw[h5];exact q.s8⟩
 ·rcases LQ b with q|rfl
  ·exact h.br x q
  ·exact p
theorem cR.setTr(h:cR P w K a H M Z c)(e:M.trs[j]?=some t)(h1:t'.nm=t.nm)(h0:t'.home=t.home)(h2:t'.arms=t.arms)(h3:t'.rule=t.rule)(h4:t'.shuts=t.shuts)(i:t'.bar.length<=c)(f:(r0=.tr j/\t'.bar=t.bar)\/(r0=.ba j/\t'.home=t.home/\t'.pau=t.pau/\t'.clo=t.clo))(l:cont P w a (M.setT j t') Z r0=some o'):cR P w K a (aG H (Z.G r0) o') (M.setT j t') Z c/\f8 H M Z (aG H (Z.G r0) o') (M.setT j t') Z:=by refine⟨⟨h.g.setTr e h1 h2 h3 h4 f l,h.ok.setT e h1 h0 h2 h3 h4 i,h.tk,h.ow,h.ds⟩,f8.put ?_ rfl rfl (ry ..) rfl λx b=>.inl b⟩;have hi:=(d_.mp e).1;rcases f with⟨rfl,_⟩|⟨rfl,_⟩<;>exact hi
end
theorem vz{S:AS}:∀{W:Wl},(∀x∈W,x.2=0)->jm S W<=0|[],_=>MI _|x::r,h=>by rw[zj,h x ir];have:=vz (S:=S) (W:=r) λy b=>h y (hY _ b);lia
def oZ:bW:=fI "" ""
def DX(M:cA)(i:Nat)(l:d8)(z:Int):cA:=M.setL i {l with S:=c8 M.p (cz l.S [(oZ,z)]) [(oZ,z)]}
def nO(t:eK):List Int:=List.replicate t.arms.length 0
inductive Hx(P:MU)(w:World)(K:MP)(a:i0)(vs:List V)(H:Hp)(Q:VK)(E:XK):Prop|mk(M:cA)(Z:ZS)(c i:Nat)(l:d8)(z:Int)(_:vs=[.ref (Z.G .hh),.str l.nm,.int z])(_:cR P w K a H M Z c)(_:c<=63)(_:M.las[i]?=some l)(_:0<=z)(_:(jm l.S [(oZ,z)]<=((pb M.p l.S.oc).length:Int)->∀(r:Addr)(Z':ZS)(H':Hp),f8 H M Z H' (DX M i l z) Z'->cR P w K a H' (DX M i l z) Z' (c+1)->H r=none->H' r=some (.lst [])->Z'.ds=Z.ds->Q (.ref r) H'))(_:(((pb M.p l.S.oc).length:Int)<jm l.S [(oZ,z)]->∀H',ak H H'->E (.ref a.mh) none H'))
inductive Fb(P:MU)(w:World)(K:MP)(a:i0)(vs:List V)(H:Hp)(Q:VK)(E:XK):Prop|mk(M:cA)(Z:ZS)(c j:Nat)(t:eK)(b:Bool)(_:vs=[.ref (Z.G .hh),.str t.nm,.bl b])(_:cR P w K a H M Z c)(_:M.trs[j]?=some t)(_:∀(r:Addr)(H':Hp),f8 H M Z H' (M.setT j {t with pau:=b}) Z->cR P w K a H' (M.setT j {t with pau:=b}) Z c->H r=none->H' r=some (.lst [])->Q (.ref r) H')
inductive Fl(P:MU)(w:World)(K:MP)(a:i0)(vs:List V)(H:Hp)(Q:VK)(E:XK):Prop|mk(M:cA)(Z:ZS)(c i j:Nat)(l:d8)(t:eK)(_:vs=[.ref (Z.G .hh),.str t.nm])(_:cR P w K a H M Z c)(_:c<=63)(_:M.trs[j]?=some t)(_:M.las[i]?=some l)(_:l.nm=t.home)(_:∀(r:Addr)(us:List V)(Z':ZS)(H':Hp),f8 H M Z H' (ni (M.setT j {t with clo:=true}) i l {t with clo:=true} (nO t)) Z'->cR P w K a H' (ni (M.setT j {t with clo:=true}) i l {t with clo:=true} (nO t)) Z' (c+1)->H r=none->H' r=some (.lst us)->Z'.ds=Z.ds->Q (.ref r) H')
section
def pM(T:Txt K mg a):aO P w K mg base (wb P w) 4 a.dq.x a.dq.d ["self","name","number"] (Hx P w K a):=by
 refine T.dq.okE pF λas A outer s H vs Q E u h=>?_
 ·obtain⟨M,Z,c,i,l,z,rfl,f,hc,j,hz,q,qe⟩:=h;refine⟨_,(ag (aV (bK (aK K rfl (gh (cU u) (aK K rfl (Y 0)) (Y 1) (λ_ _=>rfl))) T.bp T.dL.m ((mV (P:=P) (w:=w) T).mono (by decide)) u T.dL.b .nil gS (ac (a0 (ac (cf (ac (cu (v:=.ref a.uo) ⟨_,T.DH,rfl⟩ rfl) (ac (Y 2) O))) O)) O))) (ah (az (a0 O)))),?_⟩
  have hL:=f.ok.la l (ga j);obtain⟨m,y,av⟩:=f.g.tab j;obtain⟨ax,I⟩:=y.ins;refine iZ f.g.house T.aF T.bg rfl rfl (U rfl (rG (.ref (Z.G (.lo i))) (by rw[<-f.ok.lget (Z:=Z) j];exact eZ.k (k:=.inr l.nm) f.g.lays) ?_));refine rF (f.g.layer j) T.cj T.gm rfl (rM I rfl ?_);refine U rfl ⟨ls rfl,λe J=>⟨ls rfl,λD hD=>?_⟩⟩;have F:=aj (o:=.lst [.ref e]) (aj (o:=.tup [.ref a.uo,.int z]) (ak.refl H) J) hD;have e5:aG (aG H e (.tup [.ref a.uo,.int z])) D (.lst [.ref e]) D=some (.lst [.ref e]):=af;have e4:aG (aG H e (.tup [.ref a.uo,.int z])) D (.lst [.ref e]) e=some (.tup [.ref a.uo,.int z]):=by rw[ao (aH af hD)];exact af
  generalize aG (aG H e (.tup [.ref a.uo,.int z])) D (.lst [.ref e])=H2 at F e4 e5⊢;have n:=f.same F;obtain⟨m2,t,B⟩:=n.g.tab j;have a2:=f.tk i;have a3:=f.ow i;have hp:=f.ok.p;refine⟨Z.G (.tb i),Z.G (.od i),Z.G (.td i),D,M.p,Z.ow i,Z.tk i,m2,l.S,[(oZ,z)],[.ref e],rfl,t,B,(n.g.tabs i l j).2.2.1,hL.ok,e5,.cons ⟨e,.ref a.uo,rfl,aX.of e4,a.uo,rfl,T.Ao.sq _⟩ .nil,λx L=>by rw[List.mem_singleton.mp L];exact hz,by simp,by simp,by lia,by lia,by lia,λN lb a5 a6 m' R off V W X a7 ap nw nl b1 b2=>?_,λaa R s3=>qe aa R (F.trans s3)⟩;obtain⟨Z3,ad,al,an,eG⟩:=n.told j off V W X nw b1 b2 (ki _ (iP _ hL.ok)) λk x L=>by
   rcases lw L with h|h
   ·exact .inl ⟨x,lU h⟩
   ·exact .inr (.inl (List.mem_singleton.mp h))
  refine⟨ls rfl,λr u=>?_⟩;have s4:=aj (o:=.lst []) (ak.refl R) u;have C:=(f8.of F).trans al;exact q N r Z3 _ (C.trans (f8.of s4)) (ad.same s4) (C.dm _ u) af an
def jk(T:Txt K mg a):aO P w K mg base cZ 1 a.bY.x a.bY.d ["self","name","paused"] (Fb P w K a):=by
 refine T.bY.ok i9 λu A outer s H v Q E l h=>?_
 ·obtain⟨M,Z,c,j,t,b,rfl,e,f,q⟩:=h;refine⟨_,(ag (bd 3 i9.nd (gh (cU l) (aK K rfl (Y 0)) (Y 1) (λ_ _=>rfl))) (ag (cn K rfl (Y 3) (Y 2)) (ah (az (a0 O))))),?_⟩
  have m:=e.g.trial f;refine iZ e.g.house T.aF T.bf rfl rfl (U rfl (rG (.ref (Z.G (.tr j))) (by rw[<-e.ok.tget (Z:=Z) f];exact eZ.k (k:=.inr t.nm) e.g.tris) (aq ?_)));refine U rfl (U rfl ⟨Z.G (.tr j),_,_,U rfl ⟨m,T.bh,T.hV,by simp,?_⟩⟩);obtain⟨n,i⟩:=e.setTr (t':={t with pau:=b}) (r0:=.tr j) f rfl rfl rfl rfl rfl (e.ok.br t (ga f)) (.inl ⟨rfl,rfl⟩) (by simp only[cont,jH f];rfl);refine⟨ls rfl,λr l=>?_⟩;have p:=aj (o:=.lst []) (ak.refl _) l;exact q r _ (i.trans (f8.of p)) (n.same p) (i.dm _ l) af
def oR(T:Txt K mg a):aO P w K mg base (wb P w) 5 a.cQ.x a.cQ.d ["self","name"] (Fl P w K a):=by
 refine T.cQ.okE ja λas A outer s H vs Q E z h=>?_
 ·obtain⟨M,Z,c,i,j,l,t,rfl,f,hc,n,hl,hh,q⟩:=h;refine⟨_,(ag (bd 2 ja.nd (gh (cU z) (aK K rfl (Y 0)) (Y 1) (λ_ _=>rfl))) (ag (cn K rfl (Y 2) gi) (ah (az (bK (Y 0) T.aF T.bF.m ((gj (P:=P) (w:=w) T).mono (by decide)) z T.bF.b .nil gS (ac (Y 1) (ac (au C6 (a0 (ac ae O)) (aB (aI K rfl) (by rfl) T.bD L2.aL (ac (aK K rfl (Y 2)) O))) O))))))),?_⟩
  have B:=f.g.trial n;refine iZ f.g.house T.aF T.bf rfl rfl (U rfl (rG (.ref (Z.G (.tr j))) (by rw[<-f.ok.tget (Z:=Z) n];exact eZ.k (k:=.inr t.nm) f.g.tris) (aq ?_)));refine U rfl ⟨Z.G (.tr j),_,_,U rfl ⟨B,T.bh,T.dU,by simp,?_⟩⟩;have u:=jH (t':={t with clo:=true}) n;obtain⟨e,C⟩:=f.setTr (t':={t with clo:=true}) (r0:=.tr j) n rfl rfl rfl rfl rfl (f.ok.br t (ga n)) (.inl ⟨rfl,rfl⟩) (by simp only[cont,jH n];rfl);have D:=e.g.house;have F:=e.g.trial u;obtain⟨v,-,-⟩:=e.g.trs j _ u;refine oE D rfl rfl (U rfl ⟨ls rfl,λI J=>?_⟩);have L:=aj (o:=.lst [.int 0]) (ak.refl _) J;have e2:aG (aG H (Z.G (.tr j)) (.ins a.fA (Z.dx (.tr j)) [("home",.str t.home),("arms",.ref (Z.ar j)),("rule",Z.ru j),("shuts",.ref (Z.sh j)),("paused",.bl t.pau),("closed",.bl true),("barred",.ref (Z.G (.ba j)))])) I (.lst [.int 0]) I=some (.lst [.int 0]):=af;refine iZ (L _ _ F) T.bh T.gT rfl rfl ⟨_,t.arms.length,rfl,.inr ⟨_,ak.tseq L v,by simp⟩,I,_,U rfl ⟨rfl,e2,by lia,by have:=(f.ok.tr t (ga n)).a4;lia,cS (by have:=(f.ok.tr t (ga n)).a4;simp;lia),λg hg=>?_⟩⟩;have N:=aj (o:=.lst (List.replicate (t.arms.length:Int).toNat [V.int 0]).flatten) L hg;have e0:(List.replicate (t.arms.length:Int).toNat [V.int 0]).flatten=(nO t).map V.int:=by
   unfold nO;rw[n_,List.map_replicate];generalize t.arms.length=j
   induction j with|zero=>rfl|succ j ih=>rw[p_,z3,ih,p_];rfl
  rw[e0]at N⊢;have R:∀x∈qD t.nm t.arms (nO t),x.2=0:=λx W=>by obtain⟨p,hp,rfl⟩:=j_.mp W;exact List.eq_of_mem_replicate (LF hp).2
  have X:=vz (S:=l.S) R;refine⟨M.setT j {t with clo:=true},Z,c,i,j,l,{t with clo:=true},g,nO t,rfl,e.same N,hc,u,hl,hh,.inl (aW.of af),Lv,λx W=>by rw[List.eq_of_mem_replicate W];exact MI _,λav r us Z' H4 aa ad z al an=>?_,λap=>absurd X (by show¬jm l.S (qD t.nm t.arms (nO t))<=0;have:jm l.S (qD t.nm t.arms (nO t))>_:=ap;lia)⟩;have y:=C.trans (f8.of N);exact q r us Z' H4 (y.trans aa) ad (y.dm _ z) al an
end
def gH(bs:MV)(g:Str):List Str:=if g∈bs then bs else bs++[g]
def CS(bs:MV)(g:Str):eR (bs.map λg=>((.inr g:cb),V.bl true)) (.inr g) (.bl true)=(gH bs g).map λg=>((.inr g:cb),V.bl true):=by
 unfold gH
 by_cases h:g∈bs
 ·rw[hQ h];unfold eR;rw[hQ (by rw[List.any_map,MG];exact⟨g,h,by simp⟩),ri];refine wh λx _=>?_;show(if((.inr x:cb))=.inr g then((.inr x:cb),V.bl true)else _)=_
  split<;>rfl
 ·rw[g8 h,oF,g6]
  ·rfl
  ·have:∀cs:List Str,g∉cs->bu (cs.map λg=>((.inr g:cb),V.bl true)) (.inr g)=none:=by
    intro cs
    induction cs with|nil=>intro _;rfl|cons x r b=>intro hn;rw[lh,bL λe=>hn (by rw[<-qc e];exact ir)];exact b λz=>hn (hY _ z)
   exact this bs h
theorem Dm:∀{l:List d},(l.map f).Nodup->∀x∈l,∀y∈l,f x=f y->x=y
 |[],_,x,b,_,_,_=>nomatch b|z::r,h,x,b,y,c,e=>by
  rw[lh,ML]at h;rcases o_.mp b with q|q<;>rcases o_.mp c with p|p
  ·rw[q,p]
  ·exact absurd (j_.mpr ⟨y,p,by rw[<-e,q]⟩) h.1
  ·exact absurd (j_.mpr ⟨x,q,by rw[e,p]⟩) h.1
  ·exact Dm h.2 x q y p e
def yK(l:d8)(t:eK)(g:Str):List Str:=if∃x∈l.ins,x.1=g/\x.2.1=t.nm then[g]else[]
def zK(M:cA)(i j:Nat)(l:d8)(t:eK)(g:Str):cA:=(M.setT j {t with bar:=gH t.bar g}).setL i {l with ins:=dn l.ins (yK l t g)}
inductive JJ(P:MU)(w:World)(K:MP)(a:i0)(vs:List V)(H:Hp)(Q:VK)(E:XK):Prop|mk(M:cA)(Z:ZS)(c i j:Nat)(l:d8)(t:eK)(g:Str)(_:vs=[.ref (Z.G .hh),.str g,.str t.nm])(_:cR P w K a H M Z c)(_:c<=63)(_:M.trs[j]?=some t)(_:M.las[i]?=some l)(_:l.nm=t.home)(_:AG g)(_:∀(r:Addr)(us:List V)(Z':ZS)(H':Hp),f8 H M Z H' (zK M i j l t g) Z'->cR P w K a H' (zK M i j l t g) Z' (c+1)->H r=none->H' r=some (.lst us)->Z'.ds=Z.ds->Q (.ref r) H')
section
def rp(T:Txt K mg a):aO P w K mg base cZ 2 a.dR.x a.dR.d ["self","guest","name"] (JJ P w K a):=by
 refine T.dR.ok hU λax A outer s H vs Q E n h=>?_
 ·obtain⟨M,Z,c,i,j,l,t,g,rfl,p,hc,B,C,hh,hg,q⟩:=h;refine⟨_,(ag (bd 3 hU.nd (gh (cU n) (aK K rfl (Y 0)) (Y 2) (λ_ _=>rfl))) (ag (bd 4 hU.nd (gh (cU n) (aK K rfl (Y 0)) (aK K rfl (Y 3)) (λ_ _=>rfl))) (ag (kG gi (kI (aK K rfl (Y 3)) (Y 1) (pD (cU n)))) (ag (aM (PW.pt (nz (pH (zc (cU n) (Y 1) (aK K rfl (Y 4))) rfl) (kF (aD aQ (cC K (gh (cU n) (aK K rfl (Y 4)) (Y 1) (λ_ _=>rfl)) ae) (Y 2) (aE _))))) (ah (az (bK (Y 0) T.aF T.cp.m ((jX (P:=P) (w:=w) T).mono (by decide)) n T.cp.b .nil be (ac (Y 4) (ac (a0 (ac (Y 1) O)) O))))) aC) (ah (az (a0 O))))))),?_⟩
  have ad:=ga B;have hL:=p.ok.la l (ga C);have D:=p.g.trial B;have F:=p.ok.lget (Z:=Z) C;rw[hh]at F;refine iZ p.g.house T.aF T.bf rfl rfl (U rfl (rG (.ref (Z.G (.tr j))) (by rw[<-p.ok.tget (Z:=Z) B];exact eZ.k (k:=.inr t.nm) p.g.tris) (aq ?_)));refine iZ p.g.house T.aF T.bg rfl rfl (iZ D T.bh T.jy rfl rfl (rG (.ref (Z.G (.lo i))) (by rw[<-F];exact eZ.k (k:=.inr t.home) p.g.lays) (aq ?_)));have I:=p.ok.br t ad;refine iZ D T.bh T.ia rfl rfl (U rfl ⟨Z.G (.ba j),_,.inr g,rfl,rfl,p.g.barred B,by rw[b_,gg];lia,?_⟩);rw[CS];have a2:=jH (t':={t with bar:=gH t.bar g}) B;obtain⟨f,v⟩:=(p.mono (qq c)).setTr (t':={t with bar:=gH t.bar g}) (r0:=.ba j) (o':=.dK ((gH t.bar g).map λg=>((.inr g:cb),V.bl true))) B rfl rfl rfl rfl rfl (by show(gH t.bar g).length<=c+1;unfold gH;split;exact vl I;rw[gV];exact C_ I) (.inr ⟨rfl,rfl,rfl,rfl⟩) (by simp only[cont,jH B];rfl);generalize aG H (Z.G (.ba j)) (.dK ((gH t.bar g).map λg=>((.inr g:cb),V.bl true)))=H1 at f v⊢;have J:=f.g.layer C;have L:=f.g.inside C;have N:=f.g.seats i l C;refine U rfl (iZ J T.cj T.b7 rfl rfl (rG (bu (Z.iv i) (.inr g)) (eZ.k (k:=.inr g) L) (U rfl ?_)));have u:yK l t g=[]->∀r,H1 r=none->Q (.ref r) (aG H1 r (.lst [])):=λe r n=>by
   have R:=aj (o:=.lst []) (ak.refl _) n;have em:zK M i j l t g=M.setT j {t with bar:=gH t.bar g}:=by unfold zK;rw[e,kP];exact mj (M:=M.setT j {t with bar:=gH t.bar g}) C
   exact q r [] Z _ (em▸v.trans (f8.of R)) (em▸f.same R) (v.dm _ n) af rfl
  by_cases z:g∈l.ins.map (·.1)
  ·obtain⟨x,hx,ex⟩:=j_.mp z;obtain⟨s,hv,al⟩:=N.find hL.nd x hx;rw[ex]at hv;rw[hv];refine bq (iZ J T.cj T.b7 rfl rfl (U rfl (rG (.ref s) (by rw[<-hv];exact eZ.k (k:=.inr g) L) (rX al (am (k:=0) rfl) (U rfl ⟨rfl,U rfl ?_⟩)))))
   by_cases hq:x.2.1=t.nm
   ·have S:yK l t g=[g]:=hQ ⟨x,hx,ex,hq⟩;rw[hq];refine bG (oE f.g.house rfl rfl (U rfl (U rfl ⟨ls rfl,λDg an=>?_⟩)));have R:=aj (o:=.lst [.str g]) (ak.refl _) an;refine⟨M.setT j {t with bar:=gH t.bar g},Z,c+1,i,l,Dg,[g],rfl,f.same R,C,af,λy W=>by rw[List.mem_singleton.mp W];exact z,by simp,by simp,λr us Z6 H6 ap as n av X=>?_⟩;have em:zK M i j l t g=(M.setT j {t with bar:=gH t.bar g}).setL i {l with ins:=dn l.ins [g]}:=by unfold zK;rw[S]
    have aa:=v.trans (f8.of R);exact q r us Z6 H6 (em▸aa.trans ap) (em▸as) (aa.dm _ n) av X
   ·have S:yK l t g=[]:=g8 λ⟨y,W,e1,e2⟩=>hq (by rw[<-Dm hL.nd y W x hx (e1.trans ex.symm)];exact e2)
    refine gN hq ⟨ls rfl,u S⟩
  ·have S:yK l t g=[]:=g8 λ⟨y,W,e1,e2⟩=>z (j_.mpr ⟨y,W,e1⟩);rw[N.none z];exact bU ⟨ls rfl,u S⟩
end
def xb(M:cA)(nm:Str)(sl:Int):cA:={M with las:=M.las++[⟨nm,sl,AS.new,[]⟩]}
def xa(M:cA)(t:eK):cA:={M with trs:=M.trs++[t]}
section
variable{P:MU}{w:World}{K:MP}{a:i0}{H d:Hp}{M:cA}{Z:ZS}{c:Nat}
def nN.addL(h:nN M c){nm:Str}{sl:Int}(g:Wd nm)(hn:nm∉M.las.map d8.nm)(i:0<=sl/\sl<=M.p)(h4:M.las.length<4):nN (xb M nm sl) c:=by
 have em:(M.las++[(⟨nm,sl,AS.new,[]⟩:d8)]).map d8.nm=M.las.map d8.nm++[nm]:=by rw[g6];rfl
 refine{h with ln:=?_,la:=λl j=>?_,tr:=λt f=>{h.tr t f with hm:=?_},l4:=by show(M.las++[_]).length<=4;rw[gV];exact h4}
 ·show((M.las++[(⟨nm,sl,AS.new,[]⟩:d8)]).map d8.nm).Nodup;rw[em,ov];exact⟨h.ln,by simp,λx b y m e=>hn (by rw[<-List.mem_singleton.mp m,<-e];exact b)⟩
 ·rcases List.mem_append.mp j with q|q
  ·exact{h.la l q with}
  ·rw[List.mem_singleton.mp q];exact⟨g,i,AS.new_ok _,kw _,λx b=>(nomatch b),LN,λk q n=>(nomatch n)⟩
 ·show t.home∈(M.las++[(⟨nm,sl,AS.new,[]⟩:d8)]).map d8.nm;rw[em];exact vu _ (h.tr t f).hm
def nN.addT(h:nN M c){t:eK}(ok:Gv M t)(hn:t.nm∉M.trs.map eK.nm)(h4:M.trs.length<10)(f:t.bar=[]):nN (xa M t) c:=by
 refine{h with tn:=?_,la:=λl g=>?_,tr:=λx b=>?_,tc:=by show(M.trs++[_]).length<=10;rw[gV];exact h4,br:=λx b=>?_}
 ·show((M.trs++[t]).map eK.nm).Nodup;rw[g6,ov];exact⟨h.tn,by simp,λx b y i e=>hn (by rw[<-show y=t.nm from List.mem_singleton.mp i,<-e];exact b)⟩
 ·have q:=h.la l g;refine{q with own:=λk z j=>?_};rcases q.own k z j with e|⟨x,b,e⟩
  ·exact .inl e
  ·exact .inr ⟨x,vu _ b,e⟩
 ·rcases List.mem_append.mp b with q|q
  ·exact{h.tr x q with}
  ·rw[List.mem_singleton.mp q];exact{ok with}
 ·rcases List.mem_append.mp b with q|q
  ·exact h.br x q
  ·rw[List.mem_singleton.mp q,f];exact kw _
end
inductive A5(P:MU)(w:World)(K:MP)(a:i0)(vs:List V)(H:Hp)(Q:VK)(E:XK):Prop|mk(M:cA)(Z:ZS)(c:Nat)(nm:Str)(sl:Int)(_:vs=[.ref (Z.G .hh),.str nm,.int sl])(_:cR P w K a H M Z c)(_:Wd nm)(_:nm∉M.las.map d8.nm)(_:(0<=sl/\sl<=M.p))(_:M.las.length<4)(_:∀(r:Addr)(Z':ZS)(H':Hp),f8 H M Z H' (xb M nm sl) Z'->cR P w K a H' (xb M nm sl) Z' c->H r=none->H' r=some (.lst [])->Z'.ds=Z.ds->Q (.ref r) H')
inductive A4(P:MU)(w:World)(K:MP)(a:i0)(vs:List V)(H:Hp)(Q:VK)(E:XK):Prop|mk(M:cA)(Z:ZS)(c:Nat)(H0:Hp)(t ba dx ar sh:Addr)(ru:V)(x:eK)(_:vs=[.ref (Z.G .hh),.str x.nm,.ref t])(_:cR P w K a H0 M Z c)(_:ak H0 H)(_:H0 t=none)(_:H0 ba=none)(_:H ba=some (.dK []))(_:H t=some (.ins a.fA dx [("home",.str x.home),("arms",.ref ar),("rule",ru),("shuts",.ref sh),("paused",.bl false),("closed",.bl false),("barred",.ref ba)]))(_:aX K H0 ar (x.arms.map V.str))(_:dP K H0 x.rule ru)(_:aX K H0 sh (x.shuts.map V.str))(_:x.pau=false)(_:x.clo=false)(_:x.bar=[])(_:Gv M x)(_:x.nm∉M.trs.map eK.nm)(_:M.trs.length<10)(_:∀(r:Addr)(Z':ZS)(H':Hp),f8 H0 M Z H' (xa M x) Z'->cR P w K a H' (xa M x) Z' c->H0 r=none->H' r=some (.lst [])->Z'.ds=Z.ds->Q (.ref r) H')
section
def oQ(T:Txt K mg a):aO P w K mg base cZ 5 a.cP.x a.cP.d ["self","name","slope"] (A5 P w K a):=by
 refine T.cP.ok og λaa A outer s H vs Q E j h=>?_
 ·obtain⟨M,Z,c,nm,sl,rfl,t,hw,hn,hs,h4,q⟩:=h;refine⟨_,(ag (kG (rN T.Du ((rn (P:=P) (w:=w) T).mono (by decide)) j rfl T.F2 T.dQ.b .nil be (ac (Y 2) (ac (aK K rfl (Y 0)) O))) (kI (aK K rfl (Y 0)) (Y 1) (pD (cU j)))) (ah (az (a0 O)))),?_⟩
  have X:=t.g.house;refine U rfl (iZ X T.aF T.cg rfl rfl (λlo ty l F ad=>?_));have f2:ak H (aG (aG H ty (.own lo)) lo (.ins a.eM ty [])):=λb o e=>by rw[ao (aH e l),ao (aH e F)];exact e
  have m:aG (aG H ty (.own lo)) lo (.ins a.eM ty []) lo=some (.ins a.eM ty []):=af;generalize aG (aG H ty (.own lo)) lo (.ins a.eM ty [])=H2 at f2 m⊢;refine⟨lo,ty,sl,M.p,rfl,m,λtb od td iu I u J L N R f3 hL S hu=>⟨rfl,?_⟩⟩;have f:ak H I:=λb o e=>f3 b o (f2 b o e) (aH e l);refine iZ (f _ _ X) T.aF T.bg rfl rfl (U rfl ⟨Z.G .ln,_,.inr nm,rfl,rfl,f _ _ t.g.lays,by rw[kL,b_,gg];lia,?_⟩);rw[oF _ (lP hn)];have v:∀b,H b=none->b≠Z.G .ln:=λb e z=>by rw[z,t.g.lays]at e;cases e
  have y:=f2.free J;have B:=f2.free L;have C:=f2.free u;have D:=f2.free N;obtain⟨dT,iT⟩:=S.ins;obtain⟨Z',e1,V,e2,W,e4,hG,lv⟩:=t.g.newL (H':=aG I (Z.G .ln) (.dK (jZ (M.las.map d8.nm) (λi=>.ref (Z.G (.lo i)))++[(.inr nm,.ref lo)]))) (nm:=nm) (sl:=sl) l D C y B R (λb o e n=>by rw[ao n];exact f b o e) af (by rw[ao (v _ l)];exact hL) ⟨⟨dT,by rw[ao (v _ C)];exact iT⟩,by rw[ao (v _ y)];exact S.own,by rw[ao (v _ B)];exact S.tak,λx k=>(nomatch k),.nil⟩ (λz=>by rw[z,u]at m;cases m) (by rw[ao (v _ D)];exact hu)
  refine⟨ls rfl,λr j=>?_⟩;have s5:=aj (o:=.lst []) (ak.refl _) j;have st:f8 H M Z (aG I (Z.G .ln) (.dK (jZ (M.las.map d8.nm) (λi=>.ref (Z.G (.lo i)))++[(.inr nm,.ref lo)]))) (xb M nm sl) Z':=by
   refine⟨e1,λb o e n=>by rw[ao λz=>n (.inl ⟨.ln,trivial,z⟩)];exact f b o e,λb z=>?_,λb z=>f.free (lO z),V⟩;rcases z with⟨r,j,rfl⟩|⟨i,hi,x,k,e⟩|⟨x,k,e⟩
   ·have j:u8 (M.las++[_]).length M.trs.length r:=j;rw[gV]at j;rcases lv r j with q|⟨q,p⟩
    ·exact .inr q
    ·exact .inl (.inl ⟨r,p,q⟩)
   ·rw[(W i).1]at k;have hi:i<(M.las++[_]).length:=hi;rw[gV]at hi
    by_cases z:i=M.las.length
    ·rw[hQ z]at k;cases k
    ·rw[g8 z]at k;exact .inl (.inr (.inl ⟨i,by have:i<M.las.length+1:=hi;lia,x,k,e⟩))
   ·rw[e4]at k;exact .inl (.inr (.inr ⟨x,k,e⟩))
  refine q r Z' _ (st.trans (f8.of s5)) (cR.same ⟨hG,t.ok.addL hw hn hs h4,λi=>?_,λi=>?_,by rw[e2];exact t.ds⟩ s5) (st.dm _ j) af e2
  ·rw[(W i).1]
   split
   ·exact kw _
   ·exact t.tk i
  ·rw[(W i).2]
   split
   ·exact kw _
   ·exact t.ow i
def oP(T:Txt K mg a):aO P w K mg base cZ 4 a.cO.x a.cO.d ["self","name","trial"] (A4 P w K a):=by
 refine T.cO.ok n9 λV A outer s H vs Q E f h=>?_
 ·obtain⟨M,Z,c,C,t,ba,dx,ar,sh,ru,x,rfl,j,k,l,m,W,X,q1,q2,q3,D,F,v,ok,hn,h10,q⟩:=h;refine⟨_,(ag (kG (Y 2) (kI (aK K rfl (Y 0)) (Y 1) (pD (cU f)))) (ah (az (a0 O)))),?_⟩
  refine U rfl (iZ (k _ _ j.g.house) T.aF T.bf rfl rfl (U rfl ⟨Z.G .tn,_,.inr x.nm,rfl,rfl,k _ _ j.g.tris,by rw[kL,b_,gg];lia,?_⟩));rw[oF _ (lP hn)];have I:∀b,C b=none->b≠Z.G .tn:=λb e z=>by rw[z,j.g.tris]at e;cases e
  obtain⟨J,e1,B,L,N,e4,e5,R,lv⟩:=j.g.newT (H':=aG H (Z.G .tn) (.dK (jZ (M.trs.map eK.nm) (λi=>.ref (Z.G (.tr i)))++[(.inr x.nm,.ref t)]))) (nm:=x.nm) (home:=x.home) (arms:=x.arms) (shuts:=x.shuts) (rule:=x.rule) l m (λb o e n=>by rw[ao n];exact k b o e) af (by rw[ao (I _ l)];exact X) (by rw[ao (I _ m)];exact W) q1 q2 q3;have ex:(⟨x.nm,x.home,x.arms,x.rule,x.shuts,false,false,[]⟩:eK)=x:=by obtain⟨a1,a2,a3,a4,a5,a6,a7,a8⟩:=x;simp only at D F v;rw[D,F,v]
  rw[ex]at R;refine⟨ls rfl,λr f=>?_⟩;have S:=aj (o:=.lst []) (ak.refl _) f;have st:f8 C M Z (aG H (Z.G .tn) (.dK (jZ (M.trs.map eK.nm) (λi=>.ref (Z.G (.tr i)))++[(.inr x.nm,.ref t)]))) (xa M x) J:=by
   refine⟨e1,λb o e n=>by rw[ao λz=>n (.inl ⟨.tn,trivial,z⟩)];exact k b o e,λb z=>?_,λb z=>k.free (lO z),B⟩;rcases z with⟨r,f,rfl⟩|⟨i,hi,y,u,e⟩|⟨y,u,e⟩
   ·have f:u8 M.las.length (M.trs++[_]).length r:=f;rw[gV]at f;rcases lv r f with q|⟨q,p⟩
    ·exact .inr q
    ·exact .inl (.inl ⟨r,p,q⟩)
   ·rw[N]at u;exact .inl (.inr (.inl ⟨i,hi,y,u,e⟩))
   ·rw[e5]at u;exact .inl (.inr (.inr ⟨y,u,e⟩))
  exact q r J _ (st.trans (f8.of S)) (cR.same ⟨R,j.ok.addT ok hn h10 v,λi=>by rw[N];exact j.tk i,λi=>by rw[e4];exact j.ow i,by rw[L];exact j.ds⟩ S) (st.dm _ f) af L
end
section
def oK(T:Txt K mg a):aO P w K mg base cZ 1 a.cL.x a.cL.d ["self","place"] (AY P w K a.bN):=by
 refine T.cL.ok nY λc A outer s H i Q E e h=>?_
 ·obtain⟨t,f,j,n,ow,tk,m,p,rfl,b,q⟩:=h;refine⟨_,(ah (az (xR (cU e) (aK K rfl (Y 0)) (Y 1) ⟨rfl,rfl,rfl,rfl⟩))),?_⟩;obtain⟨dx,g⟩:=b.ins;exact U rfl ⟨t,_,dx,_,U rfl ⟨g,T.bp,T.dW,rfl,f,rfl,.inl ⟨_,.inl b.own⟩,U rfl ⟨_,eZ.k (k:=.inl p) b.own,q⟩⟩⟩
end
def GH(h:Wd x):PyData.strOk x=true:=by
 obtain⟨_,_,h⟩:=h;unfold PyData.strOk;rw[<-Array.all_toList,List.all_eq_true];intro c hc;have b:∀c∈oT.cps.toList,decide (c<1114112)=true:=by decide+kernel
 have:=op (b c (h c hc));simp;lia
structure um(P:MU)(w:World)(K:MP)(a:i0)(H0 H:Hp)(M:cA)(Z:ZS)(c:Nat):Prop where
 z:cR P w K a H0 M Z c
 k:∀b o,H0 b=some o->b≠Z.G .ln->H b=some o
section
variable{P:MU}{w:World}{K:MP}{a:i0}{d H f:Hp}{M:cA}{Z:ZS}{c:Nat}
def um.same(h:um P w K a d H M Z c)(s:ak H f):um P w K a d f M Z c:=⟨h.z,λb o e n=>s _ _ (h.k b o e n)⟩
def um.kp(h:um P w K a d H M Z c):Kp d H:=⟨λu i e=>h.k _ _ e λz=>(by rw[z,h.z.g.lays]at e;cases e),λu o⟨b,e⟩=>⟨b,h.k _ _ e λz=>by rw[z,h.z.g.lays]at e;cases e⟩⟩
theorem um.at_(h:um P w K a d H M Z c)(e:cont P w a M Z r=some o)(n:r≠.ln):H (Z.G r)=some o:=h.k _ _ (h.z.g.at_ r o e) λz=>n (h.z.g.inj r .ln _ _ e rfl z)
def HP{p:Nat}{m sl:Int}{x:Str}(e:2<=p):0<=uG p m sl x/\uG p m sl x<p:=by
 unfold uG;have h:(0:Int)<(p:Int):=by lia
 split
 ·exact⟨LH _ (by lia),Ha _ h⟩
 ·exact⟨LH _ (by lia),Ha _ h⟩
def um.owner(h:um P w K a d H M Z c){i:Nat}{l:d8}(m:M.las[i]?=some l){q:Int}(s:0<=q)(u:q<M.p):(bu (Z.ow i) (.inl q)).getD .non=.non\/∃b x y,(bu (Z.ow i) (.inl q)).getD .non=.ref b/\aX K H b [.str x,.str y]/\((x=""/\y="")\/∃(j:Nat)(t:eK),M.trs[j]?=some t/\t.nm=x/\(Wd y/\Wd t.nm/\y∈t.arms)):=by cases A:bu (Z.ow i) (.inl q)with|none=>exact .inl rfl|some v=>
  refine .inr ?_;obtain⟨k,B,n⟩:=(h.z.g.tabs i l m).2.2.1 q v s u A;rcases(h.z.ok.la l (ga m)).own k q B with rfl|⟨t,o,_,y,r,rfl⟩
  ·obtain⟨b,rfl,e⟩:=n;exact⟨b,_,U rfl ⟨h.kp.tq e,.inl ⟨rfl,rfl⟩⟩⟩
  ·obtain⟨b,rfl,e⟩:=n;obtain⟨j,C⟩:=ji.mp o;have tk:=h.z.ok.tr t o;exact⟨b,_,U rfl ⟨h.kp.tq e,.inr ⟨j,t,C,rfl,tk.aw y r,tk.wd,r⟩⟩⟩
end
inductive Hq(P:MU)(w:World)(K:MP)(a:i0)(vs:List V)(H:Hp)(Q:VK)(E:XK):Prop|mk(H0:Hp)(M:cA)(Z:ZS)(c i:Nat)(l:d8)(g:Str)(mv:V)(ms:List (Str×Int))(bl:Addr)(bs:MV)(_:vs=[.ref (Z.G .hh),.ref (Z.G (.lo i)),.str g,mv,.ref bl])(_:um P w K a H0 H M Z c)(_:M.las[i]?=some l)(_:AG g)(_:pk K H ms mv)(_:ms.length<=8)(_:H bl=some (.lst (bs.map V.str)))(_:(∀H',ak H H'->Q .non H'))(_:∀(s:Addr)(t:eK)(y:Str)(H':Hp),ak H H'->aX K H' s [.str t.nm,.str y]->t∈M.trs->y∈t.arms->Q (.ref s) H')
section
def oN(T:Txt K mg a):aO P w K mg base cZ 8 a.cM.x a.cM.d ["self","layer","guest","marks","been"] (Hq P w K a):=by
 refine T.cM.ok gb λbz A outer s H vs Q E R h=>?_
 ·obtain⟨H0,M,Z,c,i,l,g,mv,ms,bl,bs,rfl,B,I,hg,hm,b0,a5,S,qs⟩:=h;refine⟨_,(ag (bd 5 gb.nd (bK (aK K rfl (Y 1)) T.bp T.cL.m ((oK (P:=P) (w:=w) T).mono (by decide)) R T.cL.b .nil be (ac (bK (Y 0) T.aF T.bX.m ((jj (P:=P) (w:=w) T).mono (by decide)) R T.bX.b .nil be (ac (Y 1) (ac (Y 2) O))) O))) (ag (aM (PW.pt (gc (aD C7 (Y 5) pI (aE _)) (eB (aD (FK K rfl (Ld R)) (Y 5) (cu (v:=.ref a.uo) ⟨_,T.DH,rfl⟩ rfl) (aE _))))) (ah (az pI)) aC) (ag (bd 6 gb.nd (gh (cU R) (aK K rfl (Y 0)) (cC K (Y 5) ae) (λ_ _=>rfl))) (ag (aM (PW.pt (gc (aP K rfl (aK K rfl (Y 6)) (λ_=>rfl)) (gc (pH (zc (cU R) (Y 2) (aK K rfl (Y 6))) rfl) (eB (cB (aP K rfl (bv ((x6 T 6).mono (by decide)) R rfl T.dD.m T.dD.f.kp T.dD.b .nil be (ac (aK K rfl (Y 6)) (ac (Y 3) O))) (λ_=>rfl))))))) (ah (az pI)) aC) (ag (aM (aP K rfl (aB (ql K rfl rfl) (by rfl) T.Dq L2.uh (ac (qj gJ ["name"] [] [7] (ai gx) (bO 7) (dw K rfl (aK K rfl (Y 6))) (λcl C s₀ H₀ ex=>⟨(mG gJ ["name"] 7),bJ,(bR (nA K rfl) (Y 7) (Y 4) (by with_unfolding_all rfl))⟩)) O)) (λ_=>rfl)) (ah (az pI)) aC) (ah (az (Y 5)))))))),?_⟩
  have J:=B.z;have hL:=J.ok.la l (ga I);have hp:=J.ok.p;have b8:=hL.sl;have hI:=B.at_ (r:=.hh) rfl (by simp);have X:=B.at_ (r:=.lo i) (by simp only[cont,I];rfl) (by simp);have aa:=B.at_ (r:=.tb i) (by simp only[cont,I];rfl) (by simp);have a6:=B.at_ (r:=.od i) (by simp only[cont,I];rfl) (by simp);have a7:=B.at_ (r:=.td i) (by simp only[cont,I];rfl) (by simp);have a8:=B.at_ (r:=.tn) rfl (by simp);refine iZ X T.cj T.gm rfl rfl (rM aa rfl (oE hI rfl rfl (U rfl (U rfl ⟨Z.G .hh,Z.G (.lo i),_,_,_,_,M.p,M.salt,l.sl,g,rfl,hI,rfl,rfl,X,rfl,hg,⟨by lia,by lia⟩,⟨by lia,by lia⟩,λH1 o=>?_⟩))));obtain⟨bb,⟨m,bc,b9⟩,cc,ci⟩:=J.g.tabs i l I;have n:=B.same o;have ad:eu P w K a.bN H1 (Z.G (.tb i)) (Z.G (.od i)) (Z.G (.td i)) M.p (Z.ow i) (Z.tk i) m:=⟨⟨_,o _ _ aa⟩,o _ _ a6,o _ _ a7,λx hx=>fq n.kp (bb x hx),bc.outs λx hx lb xs e1 e2=>n.k _ _ e2 λz=>by rw[z,J.g.lays]at e2;cases e2⟩;have hq:=HP (m:=M.salt) (sl:=l.sl) (x:=g) hp.1;refine⟨Z.G (.tb i),Z.G (.od i),Z.G (.td i),M.p,Z.ow i,Z.tk i,m,uG M.p M.salt l.sl g,rfl,ad,aq ?_⟩;rcases n.owner I hq.1 hq.2 with e|⟨b,x,y,e,hb,al⟩
  ·rw[e];exact U rfl ⟨rfl,U rfl (bq (bq (S _ o)))⟩
  rw[e];refine U rfl ⟨rfl,U rfl (bU ?_)⟩;have an:PyData.strOk x=true/\PyData.strOk y=true:=by
   rcases al with⟨rfl,rfl⟩|⟨j,t,L,rfl,h1,h2,_⟩
   ·exact⟨by decide+kernel,by decide+kernel⟩
   ·exact⟨GH h2,GH h1⟩
  refine U rfl ⟨.tuple [.str x,.str y],.tuple [.str "",.str ""],.tup hb (.cons (.str x) (.cons (.str y) .nil)),.tup (T.Ao.sq _) (.cons (.str _) (.cons (.str _) .nil)),?_,by decide+kernel,U rfl ?_⟩
  ·unfold SeqAt.shaped;simp[PyData.canLay0,PyData.canLayAll0,PyData.depth,PyData.depthAll,an.1,an.2]
  refine tT (λ_=>S _ o) (λef=>?_);rcases al with⟨rfl,rfl⟩|⟨j,t,L,rfl,_,_,hy⟩
  ·exact absurd ef (by decide+kernel)
  have ap:=o _ _ a8;have F:=n.at_ (r:=.tr j) (by simp only[cont,L];rfl) (by simp);have bi:=n.at_ (r:=.ba j) (by simp only[cont,L];rfl) (by simp);obtain⟨-,bt,as⟩:=J.g.trs j t L;have av:=J.ok.tr t (ga L);refine iZ (o _ _ hI) T.aF T.bf rfl rfl (U rfl (rX hb (am (k:=0) rfl) (rG (.ref (Z.G (.tr j))) (by rw[<-J.ok.tget (Z:=Z) L];exact eZ.k (k:=.inr t.nm) ap) (aq ?_))));refine iZ F T.bh T.hV rfl rfl ⟨t.pau,rfl,?_⟩;refine tT (λ_=>bq (S _ o)) (λ_=>?_);refine U rfl (iZ F T.bh T.ia rfl rfl (rG _ (eZ.k (k:=.inr g) bi) (U rfl ?_)));refine tT (λ_=>bq (S _ o)) (λ_=>?_);refine iZ F T.bh T.mY rfl rfl (U rfl ⟨t.rule,Z.ru j,ms,mv,rfl,bt.kp n.kp,av.hg,hm.kp (.of o),by lia,λH2 s2=>(U rfl ?_)⟩);have q:=o.trans s2;refine tT (λ_=>S _ q) (λ_=>?_);have ax:=B.same q;refine iZ (s2 _ _ F) T.bh T.lQ rfl rfl ⟨Z.sh j,rfl,⟨_,ax.kp.tq as⟩,λD hD=>?_⟩;have a2:=q _ _ a5;have h8:=av.s8;refine cJ (K:=K) (a:=Z.sh j) (xs:=t.shuts.map V.str) (λk u H'=>ak H2 H'/\H' D=some (.lst u)/\∃(cs:List Bool),u=cs.map V.bl/\cs.length=k) ⟨aj (ak.refl _) hD,af,[],rfl,rfl⟩ (λk u H' _ h=>ak.tseq h.1 (ax.kp.tq as)) ?_ ?_
  ·rintro k v u H3 hv⟨W,N,cs,rfl,a3⟩;have hk:k<(t.shuts.map V.str).length:=(d_.mp hv).1;rw[ge]at hv;obtain⟨x,hx,rfl⟩:=Option.map_eq_some_iff.mp hv;refine aq (gU (bq (U rfl (U rfl ⟨bl,U rfl ⟨.inl (aW.of (W _ _ a2)),rfl,pB bs,N,?_,lf hk ⟨bC W hD,af,cs++[_],by rw[g6];rfl,by rw[gV,a3];rfl⟩⟩⟩))));rw[b_]at hk⊢;rw[gg];lia
  ·rintro u H3⟨W,N,cs,rfl,a3⟩;refine⟨D,cs,rfl,aW.of N,U rfl ?_⟩;refine tT (λ_=>S _ (q.trans W)) (λ_=>?_);exact U rfl (qs b t y _ (q.trans W) (ak.tseq (s2.trans W) hb) (ga L) hy)
end
def ee.find(g:Str)(h:ee K H dl cv cm):bu cv (.inr g)=none\/∃l c d,bu cv (.inr g)=some (.ref l)/\l≠dl/\H l=some (.lst c)/\ib K H c d/\(g,d)∈cm:=by induction h with|nil=>exact .inl rfl|@cons _ y _ _ h _ b=>
  by_cases e:y.1=g
  ·obtain⟨h1,l,c,h2,n,h3,h4⟩:=h;exact .inr ⟨l,c,y.2,by rw[cq (by rw[h1,e]),h2],n,h3,h4,by rw[<-e];exact ir⟩
  ·rw[bL (λz=>e (by rw[h.1]at z;exact qc z))];exact b.imp id λq=>q.imp λ_ q=>q.imp λ_ q=>q.imp λ_ q=>⟨q.1,q.2.1,q.2.2.1,q.2.2.2.1,hY _ q.2.2.2.2⟩
def ib.get(h:ib K H c d)(k:Nat)(u:V)(e:c[k]?=some u):∃y:Str×Str,∃s,u=.ref s/\aX K H s [.str y.1,.str y.2]:=(Paired.at_ h k u e).imp λ_ q=>q.2
def wc(K:MP)(H:Hp)(M:cA)(c:List V):Prop:=∀u∈c,∃(b:Addr)(i:Nat)(l:d8)(t y:Str),u=.ref b/\aX K H b [.str l.nm,.str t,.str y]/\M.las[i]?=some l
def wc.kp(e:Kp H H')(h:wc K H M c):wc K H' M c:=λu d=>let⟨b,i,l,t,y,h1,h2,h3⟩:=h u d;⟨b,i,l,t,y,h1,e.tq h2,h3⟩
inductive Ft(P:MU)(w:World)(K:MP)(a:i0)(vs:List V)(H:Hp)(Q:VK)(E:XK):Prop|mk(M:cA)(Z:ZS)(c:Nat)(g:Str)(mv:V)(ms:List (Str×Int))(_:vs=[.ref (Z.G .hh),.str g,mv])(_:cR P w K a H M Z c)(_:c<=63)(_:AG g)(_:pk K H ms mv)(_:ms.length<=8)(_:∀(r:Addr)(us:List V)(H':Hp),ak H H'->H r=none->H' r=some (.lst us)->wc K H' M us->us.length<=4->Q (.ref r) H')
section
def lN(T:Txt K mg a):aO P w K mg base cZ 9 a.bZ.x a.bZ.d ["self","guest","marks"] (Ft P w K a):=by
 refine T.bZ.ok bB λdV A outer s H vs Q E hr h=>?_
 ·obtain⟨M,Z,c,g,mv,ms,rfl,I,hc,hg,hm,c2,q⟩:=h;refine⟨_,(ag (Kv 3 fe [] [7] [7] (ai fc) (bO 7) (fj K rfl (xQ (cU hr) (aK K rfl (Y 0)) (Y 1) (a0 O) ⟨rfl,rfl,rfl,rfl⟩)) (λcl C s₀ H₀ ex=>⟨(mG fe [] 7),bJ,(cC K (Y 7) ae)⟩) bB.nd) (ag (bd 4 bB.nd (a0 O)) (ag (CU (P:=P) (w:=w) (eC mo rfl (C0 (P:=P) (w:=w) (aK K rfl (Y 0))) (ik K rfl rfl (bT (tz 5 bB.nd) (bT (tz 6 bB.nd) ij))) (ag (bd 7 bB.nd (xR (cU hr) (aK K rfl (Y 6)) (Y 1) ⟨rfl,rfl,rfl,rfl⟩)) (ag (aM (aD C7 (Y 7) pI (aE _)) (ah (bd 7 bB.nd (bK (Y 0) T.aF T.cM.m ((oN (P:=P) (w:=w) T).mono (by decide)) hr T.cM.b .nil be (ac (Y 6) (ac (Y 1) (ac (Y 2) (ac (Y 3) O))))))) aC) (ah (aM (aD FJ (Y 7) pI (aE _)) (ag (aV (cI K rfl PySem.F.plainAttrs_list PySem.F.slot_list_append PySem.F.type_list_append d0 (Y 3) (ac (cC K (Y 7) ae) O))) (ah (aV (cI K rfl PySem.F.plainAttrs_list PySem.F.slot_list_append PySem.F.type_list_append d0 (Y 4) (ac (au (xT K rfl) (cf (ac (Y 5) O)) (Y 7)) O))))) aC)))))) (ah (az (Y 4)))))),?_⟩
  have hI:=I.g.house;have d1:=I.ok.l4;refine iZ hI T.aF T.dI rfl rfl ⟨Z.G .ci,rfl,.inl ⟨_,.inl I.g.cams⟩,U rfl ⟨ls rfl,λl0 c3=>?_⟩⟩;refine mH c3 λH1 s0 e0=>?_;refine⟨bu Z.cv (.inr g),eZ.k (k:=.inr g) (s0 _ _ I.g.cams),?_⟩;obtain⟨ll,J,X,ev,a6,hw,d2⟩:∃ll J X,(bu Z.cv (.inr g)).getD (.ref l0)=.ref ll/\H1 ll=some (.lst J)/\ib K H1 J X/\X.length<=630:=by
   rcases I.g.came.find g with e|⟨l,us,ss,e,_,h2,h3,h4⟩
   ·exact⟨l0,[],[],by rw[e];rfl,e0,.nil,by simp⟩
   ·have:=I.ok.cm _ h4;have:ss.length<=10*c:=this;exact⟨l,us,ss,by rw[e];rfl,s0 _ _ h2,h3.kp (.of s0),by lia⟩
  rw[ev];have d3:J.length=X.length:=Paired.length hw;refine⟨ll,rfl,⟨_,aW.of a6⟩,λD hD=>?_⟩;refine j9 (K:=K) (a:=ll) (xs:=J) (λk S H'=>ak H1 H'/\H' D=some (.lst S)/\∃(bs:MV),S=bs.map V.str/\bs.length=k) ⟨aj (ak.refl _) hD,af,[],rfl,rfl⟩ (λk S H' _ h=>aW.of (h.1 _ _ a6)) ?_ ?_
  ·rintro k v S H3 hv⟨s3,aa,bs,rfl,a7⟩;have hk:k<J.length:=(d_.mp hv).1;obtain⟨y,s,rfl,B⟩:=hw.get k v hv;refine aq (gU (bq (U rfl (rX (ak.tseq s3 B) (am (k:=0) rfl) ⟨aa,by rw[b_,gg];lia,lf hk ⟨bC s3 hD,af,bs++[y.1],by rw[g6];rfl,by rw[gV,a7];rfl⟩⟩))))
  rintro S H2⟨s2,as,bs,rfl,a7⟩;refine aq ⟨ls rfl,λR av=>aq ?_⟩;have s3:=aj (o:=.lst []) (ak.refl H2) av;have a8:aG H2 R (.lst []) R=some (.lst []):=af;have aa:=s3 _ _ as;have ba:H D=none:=s0.free hD;have ax:H R=none:=s0.free (s2.free av);have bb:D≠R:=λz=>by rw[z,av]at as;cases as
  have ad:ak H (aG H2 R (.lst [])):=(s0.trans s2).trans s3;generalize aG H2 R (.lst [])=H3 at s3 a8 aa ad⊢;refine iZ (ad _ _ hI) T.aF T.bg rfl rfl ⟨Z.G .ln,U rfl ⟨ad _ _ I.g.lays,λep=>?_⟩⟩;have bc:Z.G .ln≠D:=λz=>by have e:=I.g.lays;rw[z,ba]at e;cases e
  have a2:Z.G .ln≠R:=λz=>by have e:=I.g.lays;rw[z,ax]at e;cases e
  refine D7 (n:=M.las.length) (λk σ H'=>(∀b o,H b=some o->b≠Z.G .ln->H' b=some o)/\H' (Z.G .ln)=some (dE P w (Z.G .ln) (jZ (M.las.map d8.nm) λi=>.ref (Z.G (.lo i))) ep)/\(∃bs:List Str,H' D=some (.lst (bs.map V.str))/\bs.length<=630+k)/\(∃us,H' R=some (.lst us)/\wc K H' M us/\us.length<=k)/\∃v5 v6 v7,σ=[some (.ref (Z.G .hh)),some (.str g),some mv,some (.ref D),some (.ref R),v5,v6,v7]) ⟨λb o e n=>by rw[ao n];exact ad b o e,af,⟨bs,by rw[ao (mu bc)];exact aa,by lia⟩,⟨[],by rw[ao (mu a2)];exact a8,λu hu=>(nomatch hu),fx _⟩,_,_,_,rfl⟩ (λk σ H' hk h=>⟨h.2.1,by rw[kL,b_];exact hk⟩) ?_ ?_
  ·rintro k σ H4 x H5 hk⟨f4,f,⟨j,bi,c4⟩,⟨W,a3,p,bl⟩,v5,v6,v7,rfl⟩⟨T1,kk,vv,da,rfl,rfl,bt⟩;obtain⟨l,hl⟩:∃l,M.las[k]?=some l:=⟨_,fy hk⟩;rw[zg,ge,hl]at bt;obtain⟨rfl,rfl⟩:=Mm (kl bt);refine mH da λH5 s5 e5=>?_;have e5:H5 T1=some (.tup [.str l.nm,.ref (Z.G (.lo k))]):=e5;have L:um P w K a H H5 M Z c:=⟨I,λb o e n=>s5 _ _ (f4 b o e n)⟩;refine⟨T1,U rfl ⟨aX.of e5,rfl,_,U rfl (aq ⟨_,U rfl (aq ⟨rfl,?_⟩)⟩)⟩⟩;have dc:=L.at_ (r:=.lo k) (by simp only[cont,hl];rfl) (by simp);have bz:=L.at_ (r:=.iu k) (by simp only[cont,hl];rfl) (by simp);refine iZ dc T.cj T.b7 rfl rfl ⟨Z.G (.iu k),rfl,.inl ⟨_,.inl bz⟩,U rfl ⟨bu (Z.iv k) (.inr g),eZ.k (k:=.inr g) bz,aq ?_⟩⟩;have bN:=s5 _ _ bi;have di:=s5 _ _ a3;refine U rfl ⟨rfl,U rfl (G3 (λσ H'=>ak H5 H'/\∃sv,σ=[some (.ref (Z.G .hh)),some (.str g),some mv,some (.ref D),some (.ref R),some (.str l.nm),some (.ref (Z.G (.lo k))),some sv]/\(sv=.non\/∃s t y,sv=.ref s/\aX K H' s [.str t,.str y])) ?_ ?_)⟩
   ·rintro σ H6⟨s6,sv,rfl,dt⟩;have al:=s6 _ _ bN;have b0:=s6 _ _ di;have ap:=s6 _ _ (s5 _ _ f);have f6:∀b o,H b=some o->b≠Z.G .ln->H6 b=some o:=λb o e n=>s6 _ _ (s5 _ _ (f4 b o e n));rcases dt with rfl|⟨s,t,y,rfl,B⟩
    ·exact U rfl ⟨rfl,U rfl (bU ⟨f6,ap,⟨j,al,by lia⟩,⟨W,b0,p.kp (.of (s5.trans s6)),by lia⟩,_,_,_,rfl⟩)⟩
    refine U rfl ⟨rfl,U rfl (bq (U rfl ⟨.inl ⟨rfl,_,aW.of al⟩,U rfl (rX B (am (k:=0) rfl) (rA al (by rw[b_,gg];lia) ?_))⟩))⟩;have a5:Kp H6 (aG H6 D (.lst (j.map V.str++[.str t]))):=.lst al;have f7:∀b o,H6 b=some o->b≠D->aG H6 D (.lst (j.map V.str++[.str t])) b=some o:=cE;have b8:aG H6 D (.lst (j.map V.str++[.str t])) D=some (.lst ((j++[t]).map V.str)):=by rw[af,g6];rfl
    generalize aG H6 D (.lst (j.map V.str++[.str t]))=H7 at a5 f7 b8⊢;have b9:=f7 _ _ b0 (mu bb);have cc:=f7 _ _ ap bc;refine U rfl ⟨.inl ⟨rfl,_,aW.of b9⟩,U rfl ⟨ls rfl,λT2 ck=>(U rfl ⟨T2,s,[.str l.nm],U rfl ⟨rfl,aX.of af,ak.tseq (aj (ak.refl _) ck) (a5.tq B),by simp,by rw[gg];simp,λz=>(nomatch z),λ_ T3 dv=>?_⟩⟩)⟩⟩;have s9:=aj (o:=.tup ([.str l.nm]++[.str t,.str y])) (aj (o:=.tup [.str l.nm]) (ak.refl H7) ck) dv;have e9:aG (aG H7 T2 (.tup [.str l.nm])) T3 (.tup ([.str l.nm]++[.str t,.str y])) T3=some (.tup [.str l.nm,.str t,.str y]):=af;generalize aG (aG H7 T2 (.tup [.str l.nm])) T3 (.tup ([.str l.nm]++[.str t,.str y]))=H9 at s9 e9⊢;have c0:=s9 _ _ b9;refine rA c0 (by rw[gg];lia) ?_;have kp:Kp H9 (aG H9 R (.lst (W++[.ref T3]))):=.lst c0;refine⟨λb o e n=>by rw[ao (aH e ax)];exact s9 _ _ (f7 _ _ (f6 b o e n) (aH e ba)),by rw[ao a2];exact s9 _ _ cc,⟨j++[t],by rw[ao bb];exact s9 _ _ b8,by rw[gV];simp;lia⟩,⟨W++[.ref T3],af,λu hu=>?_,by rw[gV];simp;lia⟩,_,_,_,rfl⟩;rcases List.mem_append.mp hu with z|z
    ·obtain⟨b,i,l',t',y',h1,h2,h3⟩:=p u z;exact⟨b,i,l',t',y',h1,kp.tq (ak.tseq s9 (a5.tq (ak.tseq (s5.trans s6) h2))),h3⟩
    ·rw[List.mem_singleton.mp z];exact⟨T3,k,l,t,y,rfl,kp.tq (aX.of e9),hl⟩
   ·intro N hN
    by_cases c1:g∈l.ins.map (·.1)
    ·obtain⟨x,hx,ex⟩:=j_.mp c1;obtain⟨s,hv,B⟩:=(I.g.seats k l hl).find (I.ok.la l (ga hl)).nd x hx;rw[ex]at hv;rw[hv];exact bU (hN _ _ ⟨ak.refl _,U rfl (.inr ⟨s,x.2.1,x.2.2,rfl,L.kp.tq B⟩)⟩)
    ·rw[(I.g.seats k l hl).none c1];have dT:=L.at_ (r:=.hh) rfl (by simp);refine bq (oE dT rfl rfl (U rfl (U rfl (U rfl (U rfl ⟨H,M,Z,c,k,l,g,mv,ms,D,j,rfl,L,hl,hg,hm.kp L.kp,c2,bN,λH' s'=>aq (hN _ _ ⟨s',U rfl (.inl rfl)⟩),λs t y H' s' B _ _=>aq (hN _ _ ⟨s',U rfl (.inr ⟨s,_,U rfl B⟩)⟩)⟩)))))
  ·rintro σ H4⟨f4,f,⟨j,bi,c4⟩,⟨W,a3,p,bl⟩,v5,v6,v7,rfl⟩;refine⟨⟨f,by rw[kL,b_];exact fx _⟩,Z.G .ln,_,ep,f,?_⟩;have sF:ak H (aG H4 (Z.G .ln) (.dK (jZ (M.las.map d8.nm) λi=>.ref (Z.G (.lo i))))):=λb o e=>by
    by_cases z:b=Z.G .ln
    ·rw[z,I.g.lays]at e;rw[z,af];exact e
    ·rw[ao z];exact f4 b o e z
   have kp:Kp H4 (aG H4 (Z.G .ln) (.dK (jZ (M.las.map d8.nm) λi=>.ref (Z.G (.lo i))))):=⟨λu xs e=>by rw[ao λz=>by rw[z,f]at e;cases e];exact e,λu o⟨o',e⟩=>⟨o',by rw[ao λz=>by rw[z,f]at e;cases e];exact e⟩⟩;exact U rfl (q R W _ sF ax (by rw[ao (mu a2)];exact a3) (p.kp kp) (by lia))
end
def uF(cm:List (Str×List (Str×Str)))(g:Str)(c:List (Str×Str)):List (Str×List (Str×Str)):=if(cm.any λx=>decide (x.1=g))=true then cm.map (λx=>if x.1=g then(x.1,c)else x)else cm++[(g,c)]
def CP:(uF cm g ss).length<=cm.length+1:=by
 unfold uF
 split
 ·rw[b_];lia
 ·rw[gV];exact fx _
def CO(h:x∈uF cm g c):x∈cm\/x.2=c:=by
 unfold uF at h
 split at h
 ·obtain⟨y,b,e⟩:=j_.mp h
  split at e
  ·rw[<-e];exact .inr rfl
  ·rw[<-e];exact .inl b
 ·rcases List.mem_append.mp h with q|q
  ·exact .inl q
  ·rw[List.mem_singleton.mp q];exact .inr rfl
theorem ee.any(g:Str)(h:ee K H dl cv cm):(cv.any λx=>decide (x.1=.inr g))=cm.any λx=>decide (x.1=g):=by induction h with|nil=>rfl|@cons _ y _ _ h _ b=>
  rw[t4,t4,b,h.1]
  congr 1
  by_cases e:y.1=g
  ·rw[j1 e,j1 (by rw[e])]
  ·rw[j2 e,j2 λz=>e (qc z)]
def ee.put(n:l≠dl)(d:H l=some (.lst c))(f:ib K H c i)(h:ee K H dl cv cm):ee K H dl (eR cv (.inr g) (.ref l)) (uF cm g i):=by
 unfold eR uF;rw[h.any g]
 split
 ·rename_i j;clear j
  induction h with|nil=>exact .nil|@cons x y _ _ q r k=>
   refine .cons ?_ k;obtain⟨h1,q⟩:=q
   by_cases e:y.1=g
   ·have b:x.1=.inr g:=by rw[h1,e]
    dsimp only;rw[hQ b,hQ e];exact⟨h1,l,c,rfl,n,d,f⟩
   ·have b:¬x.1=.inr g:=λz=>e (by rw[h1]at z;exact qc z);dsimp only;rw[g8 b,g8 e];exact⟨h1,q⟩
 ·exact Paired.snoc h ⟨rfl,l,c,rfl,n,d,f⟩
def CQ{cv:List (cb×V)}{k:cb}{v:V}{x:cb×V}(h:x∈eR cv k v):x∈cv\/x.2=v:=by
 unfold eR at h
 split at h
 ·obtain⟨y,b,e⟩:=j_.mp h
  split at e
  ·rw[<-e];exact .inr rfl
  ·rw[<-e];exact .inl b
 ·rcases List.mem_append.mp h with q|q
  ·exact .inl q
  ·rw[List.mem_singleton.mp q];exact .inr rfl
def bV.some(h:bV K H iv ins)(hg:g∈ins.map (·.1)):(bu iv (.inr g)).isSome=true:=by induction h with|nil=>cases hg|@cons _ y _ _ h _ b=>
  by_cases e:y.1=g
  ·rw[cq (by rw[h.1,e])];rfl
  ·rw[bL (λz=>e (by rw[h.1]at z;exact qc z))];rw[lh]at hg;exact b ((o_.mp hg).resolve_left λq=>e q.symm)
def G6(g:Str)(ins c:List (Str×Str×Str)):Prop:=c=ins\/(g∉ins.map (·.1)/\∃t y,c=ins++[(g,t,y)])
structure ke(g:Str)(M M':cA):Prop where
 p:M'.p=M.p
 salt:M'.salt=M.salt
 trs:M'.trs=M.trs
 len:M'.las.length=M.las.length
 las:∀(i:Nat)(l:d8),M.las[i]?=some l->∃ins',M'.las[i]?=some {l with ins:=ins'}/\G6 g l.ins ins'
def ke.refl(g:Str)(M:cA):ke g M M:=⟨rfl,rfl,rfl,rfl,λi l b=>⟨l.ins,b,.inl rfl⟩⟩
def ke.names(h:ke g M c):c.las.map d8.nm=M.las.map d8.nm:=by
 refine th λi=>?_;rw[ge,ge]
 by_cases hi:i<M.las.length
 ·obtain⟨b,e,_⟩:=h.las i _ (fy hi);rw[e,fy hi];rfl
 ·rw[l_ (by rw[h.len];lia),l_ (by lia)]
def nN.vis(h:nN M c)(v:ke g M j)(hg:AG g)(h1:∀x∈j.came,x.2.length<=10*c+4)(h2:j.came.length<=10*c+4):nN j (c+1):=by
 have m:=v.names;refine⟨by rw[v.p];exact h.p,by rw[m];exact h.ln,by rw[v.trs];exact h.tn,λl o=>?_,λt b=>?_,λx d=>by have:=h1 x d;lia,by rw[v.len];exact h.l4,by rw[v.trs];exact h.tc,by lia,λt b=>by rw[v.trs]at b;exact vl (h.br t b)⟩
 ·obtain⟨i,hi⟩:=ji.mp o;have f:i<M.las.length:=by rw[<-v.len];exact(d_.mp hi).1
  obtain⟨n,e,q⟩:=v.las i _ (fy f);rw[hi]at e;have e:=kl e;have k:=h.la _ (Ly f);rw[e];have own:∀k z,z∈(M.las[i]).S.pl k->k=fI "" ""\/∃t∈j.trs,t.home=(M.las[i]).nm/\∃y∈t.arms,k=fI t.nm y:=by rw[v.trs];exact k.own
  rcases q with rfl|⟨hn,t,y,rfl⟩
  ·exact⟨k.wd,by rw[v.p];exact k.sl,by rw[v.p];exact k.ok,vl k.len,k.gs,k.nd,own⟩
  ·refine⟨k.wd,by rw[v.p];exact k.sl,by rw[v.p];exact k.ok,by show(_++[_]).length<=c+1;rw[gV];exact C_ k.len,λx d=>?_,?_,own⟩
   ·rcases List.mem_append.mp d with q|q
    ·exact k.gs x q
    ·rw[List.mem_singleton.mp q];exact hg
   ·show((_++[(g,t,y)]).map (·.1)).Nodup;rw[g6,ov];exact⟨k.nd,by simp,λx d z r e=>hn (by rw[<-show z=g from List.mem_singleton.mp r,<-e];exact d)⟩
 ·rw[v.trs]at b;have k:=h.tr t b;exact{k with hm:=by rw[m];exact k.hm}
def ke.step{g:Str}{M d:cA}(v:ke g M d){i:Nat}{l:d8}{c:List (Str×Str×Str)}{t y:Str}{cm:List (Str×List (Str×Str))}(h:M.las[i]?=some l)(f:d.las[i]?=some {l with ins:=c})(hi:G6 g l.ins c)(hn:g∉c.map (·.1)):ke g M {d.setL i {l with ins:=c++[(g,t,y)]}with came:=cm}:=by
 have e:c=l.ins:=by
  rcases hi with e|⟨_,t,y,e⟩
  ·exact e
  ·exact absurd (by rw[e,g6];exact me _ ir) hn
 refine⟨v.p,v.salt,v.trs,by rw[<-v.len];exact ry ..,λj k h2=>?_⟩
 by_cases q:j=i
 ·subst q;rw[h]at h2;cases h2;exact⟨_,sA f,.inr ⟨by rw[<-e];exact hn,t,y,by rw[e]⟩⟩
 ·obtain⟨b,m,n⟩:=v.las j k h2;exact⟨b,by show(d.las.set i _)[j]?=_;rw[o0 λz=>q z.symm];exact m,n⟩
inductive E3(P:MU)(w:World)(K:MP)(a:i0)(vs:List V)(H:Hp)(Q:VK)(E:XK):Prop|mk(M:cA)(Z:ZS)(c:Nat)(g:Str)(mv:V)(ms:List (Str×Int))(_:vs=[.ref (Z.G .hh),.str g,mv])(_:cR P w K a H M Z c)(_:c<=63)(_:AG g)(_:pk K H ms mv)(_:ms.length<=8)(_:∀(r:Addr)(us:List V)(M':cA)(Z':ZS)(H':Hp),ke g M M'->f8 H M Z H' M' Z'->cR P w K a H' M' Z' (c+1)->H r=none->H' r=some (.lst us)->Z'.ds=Z.ds->Q (.ref r) H')
section
def oO(T:Txt K mg a):aO P w K mg base cZ 10 a.cN.x a.cN.d ["self","guest","marks"] (E3 P w K a):=by
 refine T.cN.ok cy λez A outer s H vs Q E hr h=>?_
 ·obtain⟨M,Z,c,g,mv,ms,rfl,X,hc,hg,hm,ea,q⟩:=h;refine⟨_,(ag (bd 3 cy.nd (bK (Y 0) T.aF T.bZ.m ((lN (P:=P) (w:=w) T).mono (by decide)) hr T.bZ.b .nil be (ac (Y 1) (ac (Y 2) O)))) (ag (eC mo rfl (fj K rfl (Y 3)) (ik K rfl rfl (bT (tz 4 cy.nd) (bT (tz 5 cy.nd) (bT (tz 6 cy.nd) ij)))) (ag (bd 7 cy.nd (gh (cU hr) (aK K rfl (Y 0)) (Y 4) (λ_ _=>rfl))) (ah (aM (pH (pJ (cU hr) (Y 1) (aK K rfl (Y 7))) rfl) (ag (kG (cf (ac (Y 5) (ac (Y 6) O))) (kI (aK K rfl (Y 7)) (Y 1) (pD (cU hr)))) (ah (kG (au pK (xQ (cU hr) (aK K rfl (Y 0)) (Y 1) (a0 O) ⟨rfl,rfl,rfl,rfl⟩) (a0 (ac (cf (ac (Y 5) (ac (Y 6) O))) O))) (kI (aK K rfl (Y 0)) (Y 1) (pD (cU hr)))))) aC)))) (ah (az (Y 3))))),?_⟩
  refine oE X.g.house rfl rfl (U rfl (U rfl ⟨M,Z,c,g,mv,ms,rfl,X,hc,hg,hm,ea,λr us H1 s1 hr b9 cc eG=>aq ?_⟩));have eb:¬hE M Z r:=X.g.foot hr;refine U rfl ⟨r,rfl,⟨_,aW.of b9⟩,?_⟩;refine qd (xs:=us) (λk σ H'=>EL λM' Z'=>Ls (ke g M M') (bw P w K a H' M' Z') (Z'.tk=Z.tk) (Z'.ow=Z.ow) (Z'.ds=Z.ds) ((∀x∈M'.came,x.2.length<=10*c+k)) (M'.came.length<=10*c+k) (f8 H M Z H' M' Z') (¬hE M' Z' r) (H' r=some (.lst us)) (wc K H' M us) (Ex4 λv4 v5 v6 v7=>σ=[some (.ref (Z.G .hh)),some (.str g),some mv,some (.ref r),v4,v5,v6,v7])) ⟨M,Z,ke.refl g M,X.g.same s1,rfl,rfl,rfl,X.ok.cm,X.ok.cl,f8.of s1,eb,b9,cc,_,_,_,_,rfl⟩ (λk σ H' _ h=>by obtain⟨_,_,_,_,_,_,_,_,_,_,_,h,_⟩:=h;exact aW.of h) ?_ ?_
  ·rintro k v σ H2 hv⟨M2,f,v2,F,a6,a7,aa,ad,ck,al,an,ap,I,v4,v5,v6,v7,rfl⟩N R B hN;have hk:k<us.length:=(d_.mp hv).1;obtain⟨b,i,l,t,y,rfl,hb,hl⟩:=I v (ga hv);refine⟨b,U rfl ⟨hb,rfl,_,U rfl (aq ⟨_,U rfl (aq ⟨_,U rfl (aq ⟨rfl,?_⟩)⟩)⟩)⟩⟩;obtain⟨p,J,c0⟩:=v2.las i l hl;have c1:f.G .hh=Z.G .hh:=al.hh;have c2:=F.house;have c3:=F.lays;have c4:bu (jZ (M2.las.map d8.nm) λi=>V.ref (f.G (.lo i))) (.inr l.nm)=some (.ref (f.G (.lo i))):=rO (by rw[v2.names];exact X.ok.ln) (by rw[ge,J];rfl);rw[c1]at c2;refine iZ c2 T.aF T.bg rfl rfl (U rfl (rG (.ref (f.G (.lo i))) (by rw[<-c4];exact eZ.k (k:=.inr l.nm) c3) (aq ?_)));have da:=F.layer J;have dc:=F.inside J;refine U rfl (iZ da T.cj T.b7 rfl rfl (rG (bu (f.iv i) (.inr g)) (eZ.k (k:=.inr g) dc) (U rfl ?_)));have bb:=F.seats i _ J
   by_cases bc:g∈p.map (·.1)
   ·rw[bb.some bc];exact bU (hN _ _ ⟨M2,f,v2,F,a6,a7,aa,λx hx=>by have:=ad x hx;omega,by omega,al,an,ap,I,_,_,_,_,rfl⟩)
   ·have as:=bb.none bc;rw[as];refine bq (U rfl (U rfl ⟨ls rfl,λT1 ec=>?_⟩));refine mH ec λH3 s3 e3=>?_;have bi:=F.same s3;have eH:(f.iv i).length<=100:=by
     rw[bb.len];show p.length<=100;have:=(X.ok.la l (ga hl)).len;rcases c0 with e|⟨_,_,_,e⟩
     ·rw[e];lia
     ·rw[e,gV];simp;lia
    refine iZ (s3 _ _ da) T.cj T.b7 rfl rfl (U rfl ⟨f.G (.iu i),_,.inr g,rfl,rfl,s3 _ _ dc,by rw[gg];lia,?_⟩);rw[oF _ as];have L:bw P w K a (aG H3 (f.G (.iu i)) (.dK (f.iv i++[(.inr g,.ref T1)]))) (M2.setL i {l with ins:=p++[(g,t,y)]}) {f with iv:=λj=>if j=i then f.iv i++[(.inr g,.ref T1)]else f.iv j}:=bi.setIns (iv':=f.iv i++[(.inr g,.ref T1)]) (ins':=p++[(g,t,y)]) J (Paired.snoc (bi.seats i _ J) ⟨rfl,T1,rfl,aX.of e3⟩);have di:=(d_.mp J).1;have av:f8 H3 M2 f (aG H3 (f.G (.iu i)) (.dK (f.iv i++[(.inr g,.ref T1)]))) (M2.setL i {l with ins:=p++[(g,t,y)]}) {f with iv:=λj=>if j=i then f.iv i++[(.inr g,.ref T1)]else f.iv j}:=f8.put (show i<_ from di) rfl (ry ..) rfl rfl λx hx=>.inl hx;have bl:=bi.imm (r:=.iu i) (by simp only[cont,J];rfl) (cE (o':=.dK (f.iv i++[(.inr g,.ref T1)])));have bt:=cE (x:=f.G (.iu i)) (o':=.dK (f.iv i++[(.inr g,.ref T1)])) _ _ (s3 _ _ ap) λz=>an (.inl ⟨.iu i,di,z⟩);have bz:¬hE (M2.setL i {l with ins:=p++[(g,t,y)]}) {f with iv:=λj=>if j=i then f.iv i++[(.inr g,.ref T1)]else f.iv j} r:=λz=>(av.fp r z).elim an λz=>by rw[s3 _ _ ap]at z;cases z
    have ed:=bl.kp.tq (K:=K) (aX.of e3);have ax:=(I.kp (.of s3)).kp bl.kp;generalize dt:M2.setL i {l with ins:=p++[(g,t,y)]}=M4 at L av bz;generalize a2:({f with iv:=λj=>if j=i then f.iv i++[(.inr g,.ref T1)]else f.iv j}:ZS)=C at L av bz;have a3:C.G=f.G:=by rw[<-a2]
    have es:C.cv=f.cv:=by rw[<-a2]
    have dv:C.tk=f.tk:=by rw[<-a2]
    have dT:C.ow=f.ow:=by rw[<-a2]
    have dV:C.ds=f.ds:=by rw[<-a2]
    have S:M4.came=M2.came:=by rw[<-dt]
    generalize aG H3 (f.G (.iu i)) (.dK (f.iv i++[(.inr g,.ref T1)]))=H4 at L av bl bt ed ax⊢;have bN:=L.house;rw[a3,c1]at bN;have a8:=L.cams;rw[a3]at a8;refine iZ bN T.aF T.dI rfl rfl ⟨f.G .ci,rfl,.inl ⟨_,.inl a8⟩,U rfl ⟨ls rfl,λl0 ef=>?_⟩⟩;refine mH ef λH5 s5 e5=>?_;refine⟨bu C.cv (.inr g),eZ.k (k:=.inr g) (s5 _ _ a8),_,rfl,U rfl ⟨ls rfl,λW eg=>⟨ls rfl,λl1 d1=>?_⟩⟩⟩;have s7:=aj (o:=.lst [.ref W]) (aj (o:=.tup [.str t,.str y]) (ak.refl H5) eg) d1;have e7:aG (aG H5 W (.tup [.str t,.str y])) l1 (.lst [.ref W]) l1=some (.lst [.ref W]):=af;have e6:aG (aG H5 W (.tup [.str t,.str y])) l1 (.lst [.ref W]) W=some (.tup [.str t,.str y]):=by rw[ao (aH af d1)];exact af
    generalize aG (aG H5 W (.tup [.str t,.str y])) l1 (.lst [.ref W])=H7 at s7 e6 e7⊢;have ba:=s5.trans s7;obtain⟨ll,u,D,ev,ei,d2,eN⟩:∃ll u D,(bu C.cv (.inr g)).getD (.ref l0)=.ref ll/\H7 ll=some (.lst u)/\ib K H7 u D/\D.length<=10*c+k:=by
     rcases L.came.find g with e|⟨ej,ek,el,e,_,h2,h3,h4⟩
     ·exact⟨l0,[],[],by rw[e];rfl,s7 _ _ e5,.nil,by simp⟩
     ·rw[S]at h4;have:=ad _ h4;exact⟨ej,ek,el,by rw[e];rfl,ba _ _ h2,h3.kp (.of ba),this⟩
    have ew:u.length=D.length:=Paired.length d2;rw[ev];refine⟨ll,l1,u,[.ref W],rfl,rfl,ei,e7,by rw[gg];simp;lia,λlp b0=>?_⟩;have s8:=aj (o:=.lst (u++[.ref W])) ba b0;have e8:aG H7 lp (.lst (u++[.ref W])) lp=some (.lst (u++[.ref W])):=af;have d3:ib K (aG H7 lp (.lst (u++[.ref W]))) (u++[.ref W]) (D++[(t,y)]):=ib.kp (Kp.new b0) (Paired.snoc d2 ⟨W,rfl,aX.of e6⟩);have a5:H4 lp=none:=ba.free b0;generalize aG H7 lp (.lst (u++[.ref W]))=H8 at s8 e8 d3⊢;have b8:=L.same s8;have ey:C.cv.length<=10*c+k:=by have:=Paired.length L.came;rw[this,S];exact ck
    refine iZ (s8 _ _ bN) T.aF T.dI rfl rfl (U rfl ⟨f.G .ci,_,.inr g,rfl,rfl,s8 _ _ a8,by rw[gg];lia,?_⟩);have en:lp≠C.G .dl:=λz=>by rw[z,L.dees]at a5;cases a5
    have eo:bw P w K a (aG H8 (f.G .ci) (.dK (eR C.cv (.inr g) (.ref lp)))) {M4 with came:=uF M4.came g (D++[(t,y)])} {C with cv:=eR C.cv (.inr g) (.ref lp)}:=by rw[show f.G .ci=C.G .ci by rw[a3]];exact b8.setCame (b8.came.put (g:=g) en e8 d3)
    have d4:=b8.imm (r:=.ci) rfl (cE (o':=.dK (eR C.cv (.inr g) (.ref lp))));rw[a3]at d4;have d5:f8 H4 M4 C (aG H8 (f.G .ci) (.dK (eR C.cv (.inr g) (.ref lp)))) {M4 with came:=uF M4.came g (D++[(t,y)])} {C with cv:=eR C.cv (.inr g) (.ref lp)}:=by
     refine⟨rfl,λb o e n=>by rw[ao λz=>n (.inl ⟨.ci,trivial,by rw[a3];exact z⟩)];exact s8 b o e,λb z=>?_,λb z=>s8.free (lO z),rfl⟩;rcases z with z|z|⟨x,hx,e⟩
     ·exact .inl (.inl z)
     ·exact .inl (.inr (.inl z))
     ·rcases CQ hx with q|q
      ·exact .inl (.inr (.inr ⟨x,q,e⟩))
      ·rw[q]at e;cases e;exact .inr a5
    have v9:ke g M {M4 with came:=uF M4.came g (D++[(t,y)])}:=by rw[<-dt];exact v2.step hl J c0 bc
    have ep:=(al.trans (f8.of s3)).trans (av.trans d5);have eq:aG H8 (f.G .ci) (.dK (eR C.cv (.inr g) (.ref lp))) r=some (.lst us):=by rw[ao λz=>an (.inl ⟨.ci,trivial,z⟩)];exact s8 _ _ bt
    refine hN _ _ ⟨_,{C with cv:=eR C.cv (.inr g) (.ref lp)},v9,eo,dv.trans a6,dT.trans a7,dV.trans aa,λx hx=>?_,?_,ep,λz=>(d5.fp r z).elim bz (λz=>by rw[bt]at z;cases z),eq,(ax.kp (.of s8)).kp d4.kp,_,_,_,_,rfl⟩
    ·rcases CO hx with q|q
     ·rw[S]at q;have:=ad x q;lia
     ·rw[q,gV];simp;lia
    ·have:=CP (cm:=M4.came) (g:=g) (ss:=D++[(t,y)]);rw[S]at this;show(uF M4.came g (D++[(t,y)])).length<=_;rw[S];lia
  ·rintro σ H2⟨M2,f,v2,F,a6,a7,aa,ad,ck,al,an,ap,I,v4,v5,v6,v7,rfl⟩;exact U rfl (q r us M2 f H2 v2 al ⟨F,X.ok.vis v2 hg (λx hx=>by have:=ad x hx;lia) (by lia),λj=>by rw[a6];have:=X.tk j;lia,λj=>by rw[a7];have:=X.ow j;lia,by rw[aa];have:=X.ds;lia⟩ hr ap aa)
end
inductive Fo(K:MP)(g:Addr)(vs:List V)(H:Hp)(Q:VK)(_E:XK):Prop|mk(d:Addr)(k:Str)(xs:List V)(_:vs=[.ref d])(_:aX K H d (.str k::xs))(_:(∃tk,PySem.W.nsIn K g k=some (some (.int ((xs.length:Int)+1) tk))))(_:Q .non H)
inductive Cs(K:MP)(vs:List V)(H:Hp)(Q:VK)(_E:XK):Prop|mk(t d:Addr)(l:MV)(kvs:List (cb×V))(_:vs=[.ref t,.ref d])(_:aX K H t (l.map V.str))(_:H d=some (.dK kvs))(_:(∀x∈l,Wd x/\(bu kvs (.inr x)).isSome=true))(_:l.Nodup)(_:l.length<=8)(_:∀H',ak H H'->Q .non H')
inductive Cr(P:MU)(w:World)(K:MP)(a:i0)(vs:List V)(H:Hp)(Q:VK)(_E:XK):Prop|mk(z:Int)(M:cA)(Z:ZS)(_:vs=[.int z,.int M.p,.ref (Z.G .ln)])(_:bw P w K a H M Z)(_:M.las.length<=4)(_:0<=z)(_:z<=M.p)(_:z∉M.las.map d8.sl)(_:∀H',ak H H'->Q .non H')
inductive Cp(K:MP)(vs:List V)(H:Hp)(Q:VK)(_E:XK):Prop|mk(d ly tr ar sh:Addr)(ru:V)(x y:Str)(r:Ru)(ws l ss:MV)(lk tk:List (cb×V))(_:vs=[.ref d,.ref ly,.ref tr])(_:aX K H d [.str "trial",.str x,.str y,.ref ar,ru,.ref sh])(_:Wd x)(_:Wd y)(_:H ly=some (.dK lk))(_:H tr=some (.dK tk))(_:bu tk (.inr x)=none)(_:(bu lk (.inr y)).isSome=true)(_:aX K H ar (l.map V.str))(_:(∀w∈l,Wd w))(_:l.Nodup)(_:1<=l.length)(_:l.length<=4)(_:dP K H r ru)(_:r.hgt<=6)(_:r.cnt<=30)(_:iS ws r)(_:(∀w∈ws,Wd w))(_:ws.length<=3)(_:aX K H sh (ss.map V.str))(_:(∀x∈ss,Wd x/\(bu tk (.inr x)).isSome=true))(_:ss.Nodup)(_:ss.length<=8)(_:∀H',ak H H'->Q .non H')
section
def uK(T:Txt K mg a)(f:w.params=a.pm):aO P w K mg base cZ 1 a.gF.x a.gF.d ["deed"] (Fo K a.eY):=by
 refine T.gF.ok uz λg A outer s H j Q E l h=>?_
 ·obtain⟨d,k,c,rfl,b,⟨tk,i⟩,q⟩:=h;refine⟨_,(ag (aM (PW.pt (gc (cB (aP K rfl (aB (cK K rfl) (by rfl) T.a9 L2.aR (ac (Y 0) (ac (ie rfl T.df L2.bE) O))) (λ_=>rfl))) (eB (aD aQ (aB (aI K rfl) (by rfl) T.bD L2.aL (ac (Y 0) O)) ae (aE _))))) (ah cr) aC) (ah (aM (PW.pt (gc (cB (aP K rfl (aB (ka K rfl) (by rfl) T.a9 L2.aR (ac (cC K (Y 0) ae) (ac (ie rfl T.kZ L2.dY) O))) (λ_=>rfl))) (eB (aD Ag (FG K rfl (K9 f T.zu) rfl T.Bp (cC K (Y 0) ae) ⟨rfl,rfl,rfl,rfl⟩) (aB (aI K rfl) (by rfl) T.bD L2.aL (ac (Y 0) O)) (aE _))))) (ah cr) aC))),?_⟩
  refine U rfl ⟨_,"tuple",_,true,rfl,.inr ⟨d,U rfl ⟨b,rfl⟩⟩,cY (by decide+kernel),true,rfl,bU ?_⟩;refine U rfl ⟨_,U rfl ⟨.inr ⟨_,b,rfl⟩,rfl,U rfl (i4 (λh=>absurd h (by rw[il];lia)) (λ_=>?_))⟩⟩;refine U rfl (rX b (am (k:=0) rfl) ?_);refine⟨_,"str",_,true,rfl,.str k,cY (by decide+kernel),true,rfl,bU ?_⟩;refine U rfl (rX b (am (k:=0) rfl) ⟨k,U rfl ⟨i,.inr ⟨_,.int ((c.length:Int)+1),rfl,⟨tk,rfl⟩,?_⟩⟩⟩);refine U rfl ⟨_,U rfl ⟨.inr ⟨_,b,rfl⟩,rfl,U rfl ?_⟩⟩;have e:decide (V.int ((c.length:Int)+1)=V.int (((V.str k::c).length:Nat):Int))=true:=j1 (by simp);rw[e];exact q
def tI(T:Txt K mg a):aO P w K mg base cZ 5 a.fQ.x a.fQ.d ["thing","trials"] (Cs K):=by
 refine T.fQ.ok iI λW A outer s H vs Q E X h=>?_
 ·obtain⟨t,d,l,B,rfl,b,hd,Z,C,h8,q⟩:=h;refine⟨_,(ag (aM (PW.pt (gc (cB (aP K rfl (aB (cK K rfl) (by rfl) T.a9 L2.aR (ac (Y 0) (ac (ie rfl T.df L2.bE) O))) (λ_=>rfl))) (eB (aD qL (aB (aI K rfl) (by rfl) T.bD L2.aL (ac (Y 0) O)) (cu T.wY rfl) (aE _))))) (ah cr) aC) (ah (eC mo rfl (FF K rfl rfl T.yg (ac (Y 0) O)) (ik K rfl rfl (bT (tz 2 iI.nd) (bT (tz 3 iI.nd) ij))) (ag (aV (pc T.bM (db T) X (ac (Y 3) (ac (Y 1) O)))) (ah (aM (aD (nA K rfl) (Y 3) (cH (ko K rfl) (Y 0) dH (dG (Y 2))) (by with_unfolding_all rfl)) (ah cr) aC)))))),?_⟩
  refine U rfl ⟨_,"tuple",_,true,rfl,.inr ⟨t,U rfl ⟨b,rfl⟩⟩,cY (by decide+kernel),true,rfl,bU ?_⟩;refine U rfl ⟨_,l.length,rfl,.inr ⟨_,b,by simp⟩,_,U rfl ⟨rfl,U rfl (lS (λh=>absurd h (by lia)) (λ_=>?_))⟩⟩;refine U rfl ⟨t,U rfl ⟨b,?_⟩⟩;refine D7 (n:=l.length) (λk j H'=>ak H H'/\(EL λD F=>j=[some (.ref t),some (.ref d),D,F])) ⟨ak.refl H,_,_,rfl⟩ (λk j H' L h=>⟨_,.str l[k],ak.tseq h.1 b,by rw[ge,fy L];rfl⟩) ?_ ?_
  ·rintro k j m v H2 L⟨c,D,F,rfl⟩⟨r,x,G,rfl,rfl,y⟩;have y:=y _ (ak.tseq c b);rw[ge]at y;obtain⟨z,M,rfl⟩:=Option.map_eq_some_iff.mp y;have I:=aj (o:=.tup [.int k,.str z]) c G;have N:aG m r (.tup [.int k,.str z]) r=some (.tup [.int k,.str z]):=af;generalize aG m r (.tup [.int k,.str z])=H2 at I N⊢;refine⟨r,U rfl ⟨aX.of N,rfl,_,U rfl (aq ⟨_,U rfl (aq ⟨rfl,?_⟩)⟩)⟩⟩;have f:=Z z (ga M);refine U rfl (U rfl ⟨z,d,B,rfl,f.1,I _ _ hd,f.2,λH3 s3=>?_⟩);have g:=I.trans s3;refine U rfl (U rfl (U rfl (U rfl ⟨t,U rfl ⟨ak.tseq g b,?_,λp hp=>?_⟩⟩)))
   ·rintro⟨_,e⟩;rw[b_]at e;have e:(if(k:Int)<0 then((k:Int)+(l.length:Int)).toNat else min (k:Int).toNat l.length)=l.length:=e;rw[g8 (by lia)]at e;lia
   ·rw[zG _ (by lia)];refine⟨p,U rfl ⟨.inr (aX.of af),rfl,?_,U rfl ?_⟩⟩
    ·rw[<-Mp];exact pB _
    ·rw[<-Mp];have J:z∉l.take (k:Int).toNat:=λh=>by have:=C;rw[<-r_ k l,ov]at this;exact this.2.2 z (by simpa using h) z (ga (i:=0) (by rw[Mr,Nat.add_zero];exact M)) rfl
     have e:nI (.str z) ((l.take (k:Int).toNat).map V.str)=false:=by cases R:nI (.str z) ((l.take (k:Int).toNat).map V.str)with|false=>rfl|true=>unfold nI at R;obtain⟨v,hv,e⟩:=MG.mp R;obtain⟨u,S,rfl⟩:=j_.mp hv;have e:(u==z)=true:=e;rw[eq_of_beq e]at S;exact absurd S J
     show if(if false=true then _ else nI (.str z) ((l.take (k:Int).toNat).map V.str))=true then _ else _
     rw[g8 h_,e];exact bU ⟨(g.trans (aj (ak.refl _) hp)),_,_,rfl⟩
  ·rintro j m⟨c,D,F,rfl⟩;exact⟨⟨_,ak.tseq c b,by rw[b_]⟩,q m c⟩
def tH(T:Txt K mg a):aO P w K mg base cZ 3 a.fP.x a.fP.d ["thing","prime","layers"] (Cr P w K a):=by
 refine T.fP.ok sG λN A outer s H W Q E R h=>?_
 ·obtain⟨z,M,Z,rfl,J,h4,h0,h1,hn,q⟩:=h;refine⟨_,(ag (aM (PW.pt (gc (cB (aP K rfl (pc T.ft (gW T) R (ac (Y 0) O)) (λ_=>rfl))) (eB (aD qL (Y 0) (Y 1) (aE _))))) (ah cr) aC) (ah (aM (aD (nA K rfl) (Y 0) (HV (P:=P) (w:=w) (qj jB ["layer"] [] [3] (ai ju) (bO 3) (FC (P:=P) (w:=w) (Y 2)) (λcl C s₀ H₀ ex=>⟨(mG jB ["layer"] 3),bJ,(aK K rfl (Y 3))⟩))) (by with_unfolding_all rfl)) (ah cr) aC))),?_⟩
  refine U rfl ⟨z,rfl,h0,U rfl (bU ?_)⟩;refine U rfl (U rfl ⟨z,M.p,rfl,rfl,U rfl (lS (λh=>absurd h (by lia)) (λ_=>?_))⟩);have g:=J.lays;refine U rfl (U rfl ⟨Z.G .ln,U rfl ⟨g,λL=>?_⟩⟩);refineλD t=>?_;have nd:Z.G .ln≠D:=λz=>by rw[<-z,af]at t;cases t
  have r:H D=none:=by rw[ao (mu nd)]at t;exact t
  refine Ay (n:=M.las.length) (λk c u=>(∀b o,H b=some o->b≠Z.G .ln->u b=some o)/\u (Z.G .ln)=some (dE P w (Z.G .ln) (jZ (M.las.map d8.nm) λi=>.ref (Z.G (.lo i))) L)/\u D=some (.lst c)/\c=((M.las.map d8.sl).take k).map V.int) ⟨λb o e n=>by rw[ao (aH e r),ao n];exact e,by rw[ao nd,af],af,rfl⟩ (λk c u v h=>⟨h.2.1,by rw[kL,b_];exact v⟩) ?_ ?_
  ·rintro k c S x X v⟨y,f,j,rfl⟩⟨rfl,B⟩;have I:=fy v;rw[zg,ge,I]at B;have B:V.ref (Z.G (.lo k))=x:=kl B;subst B;have m:=J.layer I;refine aq (gU (bq (iZ (y _ _ m (λz=>by rw[z,g]at m;cases m)) T.cj T.iN rfl rfl ⟨j,by rw[b_,i_,gg];lia,lf v ⟨λb o e n=>by rw[ao (aH e r)];exact y b o e n,by rw[ao nd];exact f,af,?_⟩⟩)));rw[f9 (l:=M.las.map d8.sl) (x:=(M.las[k]).sl) (by rw[ge,I];rfl),g6];rfl
  ·rintro c S⟨y,f,j,rfl⟩;refine⟨⟨f,by rw[kL,b_];exact fx _⟩,Z.G .ln,_,L,f,D,_,rfl,.inl (aW.of (by rw[ao (mu nd)];exact j)),rfl,nH _,_,rfl,?_⟩;rw[g_ (by rw[b_];exact fx _)];show if(if false=true then _ else nI (.int z) ((M.las.map d8.sl).map V.int))=true then _ else _
   rw[g8 h_,At,j2 hn];refine bU (q _ λb o e=>?_)
   by_cases F:b=Z.G .ln
   ·rw[F,g]at e;rw[F,af];exact e
   ·rw[ao F];exact y b o e F
def tG(T:Txt K mg a):aO P w K mg base cZ 12 a.fO.x a.fO.d ["deed","layers","trials"] (Cp K):=by
 refine T.fO.ok sE λI A outer s H vs Q E f h=>?_
 ·obtain⟨d,J,tr,ar,sh,ru,x,y,r,L,l,M,N,tk,rfl,g,R,S,k,i,j,m,n,h1,h2,h3,h4,o,p,t,u,v,z,B,C,D,F,q⟩:=h;refine⟨_,(ag (aV (pc T.gE (oJ T) f (ac (cC K (Y 0) ae) (ac (Y 2) O)))) (ag (aV (pc T.bM (db T) f (ac (cC K (Y 0) ae) (ac (Y 1) O)))) (ag (aV (pc T.gG (uM T) f (ac (cC K (Y 0) ae) O))) (ag (aV (pc T.gD (uI T) f (ac (cC K (Y 0) ae) O))) (ah (aV (pc T.fQ (tI T) f (ac (cC K (Y 0) ae) (ac (Y 2) O))))))))),?_⟩
  refine U rfl (rX g rfl (U rfl ⟨x,tr,tk,rfl,R,i,j,λH1 G=>?_⟩));refine U rfl (rX (ak.tseq G g) rfl (U rfl ⟨y,J,N,rfl,S,G _ _ k,m,λH2 V=>?_⟩));have c:=G.trans V;refine U rfl (rX (ak.tseq c g) rfl ⟨ar,l,rfl,ak.tseq c n,h1,h2,h3,h4,λH3 W=>?_⟩);have e:=c.trans W;refine U rfl (rX (ak.tseq e g) rfl ⟨r,ru,L,rfl,o.kp (.of e),p,t,u,v,z,λH4 X=>?_⟩);have b:=e.trans X;exact U rfl (rX (ak.tseq b g) rfl (U rfl ⟨sh,tr,M,tk,rfl,ak.tseq b B,b _ _ i,C,D,F,λZ s5=>q Z (b.trans s5)⟩))
end
inductive Dd|layer(nm:Str)(sl:Int)|trial(x:eK)|share(t:eK)(ns:M0)|deal(t:eK)(z:Int)(ws:M0)|hold(l:d8)(z:Int)|pause(t:eK)(b:Bool)|close(t:eK)|bar(g:Str)(t:eK)|visit(g:Str)
def Dd.clo:Dd->Bool|.share t _=>t.clo|.deal t _ _=>t.clo|.pause t _=>t.clo|.close t=>t.clo|_=>false
inductive kh(K:MP)(H:Hp)(M:cA):Dd->List V->Prop|layer{nm:Str}{sl:Int}(h1:Wd nm)(h2:nm∉M.las.map d8.nm)(h3:0<=sl/\sl<=M.p)(h4:sl∉M.las.map d8.sl)(h5:M.las.length<4):kh K H M (.layer nm sl) [.str "layer",.str nm,.int sl]|trial{x:eK}{ar sh ra:Addr}{ws:MV}(h1:Gv M x)(h2:x.nm∉M.trs.map eK.nm)(h3:aX K H ar (x.arms.map V.str))(h4:dP K H x.rule (.ref ra))(h5:x.rule.cnt<=30)(h6:iS ws x.rule)(h7:∀w∈ws,Wd w)(h8:ws.length<=3)(h9:aX K H sh (x.shuts.map V.str))(ha:∀s∈x.shuts,s∈M.trs.map eK.nm)(hb:x.shuts.Nodup)(hc:x.pau=false)(hd:x.clo=false)(he:x.bar=[])(hf:M.trs.length<10):kh K H M (.trial x) [.str "trial",.str x.nm,.str x.home,.ref ar,.ref ra,.ref sh]|share{t:eK}{ns:M0}{nv:Addr}(h1:t∈M.trs)(h2:aX K H nv (ns.map V.int))(h3:ns.length=t.arms.length)(h4:∀x∈ns,0<=x):kh K H M (.share t ns) [.str "share",.str t.nm,.ref nv]|deal{t:eK}{z:Int}{ws:M0}{wv:Addr}(h1:t∈M.trs)(hz:0<=z/\z<=1000)(h2:aX K H wv (ws.map V.int))(h3:ws.length=t.arms.length)(h4:∀x∈ws,1<=x/\x<=aY):kh K H M (.deal t z ws) [.str "deal",.str t.nm,.int z,.ref wv]|hold{l:d8}{z:Int}(h1:l∈M.las)(h2:0<=z):kh K H M (.hold l z) [.str "hold",.str l.nm,.int z]|pause{t:eK}(h1:t∈M.trs):kh K H M (.pause t true) [.str "pause",.str t.nm]|go{t:eK}(h1:t∈M.trs):kh K H M (.pause t false) [.str "go",.str t.nm]|close{t:eK}(h1:t∈M.trs):kh K H M (.close t) [.str "close",.str t.nm]|bar{g:Str}{t:eK}(h1:AG g)(h2:t∈M.trs):kh K H M (.bar g t) [.str "bar",.str g,.str t.nm]|visit{g:Str}{mv:V}{ms:List (Str×Int)}(h1:AG g)(h2:pk K H ms mv)(h3:∀m∈ms,Wd m.1/\-aY<=m.2/\m.2<=aY)(h4:(ms.map Prod.fst).Nodup)(h5:ms.length<=8):kh K H M (.visit g) [.str "visit",.str g,mv]
theorem kh.kp(e:Kp H H')(h:kh K H M d c):kh K H' M d c:=by cases h with|layer h1 h2 h3 h4 h5=>exact .layer h1 h2 h3 h4 h5|trial h1 h2 h3 h4 h5 h6 h7 h8 h9 b f hc hd g i=>exact .trial h1 h2 (e.tq h3) (h4.kp e) h5 h6 h7 h8 (e.tq h9) b f hc hd g i|share h1 h2 h3 h4=>exact .share h1 (e.tq h2) h3 h4|deal h1 j h2 h3 h4=>exact .deal h1 j (e.tq h2) h3 h4|hold h1 h2=>exact .hold h1 h2|pause h1=>exact .pause h1|go h1=>exact .go h1|close h1=>exact .close h1|bar h1 h2=>exact .bar h1 h2|visit h1 h2 h3 h4 h5=>exact .visit h1 (h2.kp e) h3 h4 h5
inductive xg(K:MP)(H:Hp)(many:Nat):Str->List V->Prop|share{p:Addr}{l:M0}(h1:aX K H p (l.map V.int))(h2:∀i∈l,0<=i)(h3:l.length=many):xg K H many "share" [.ref p]|deal{z:Int}{p:Addr}{l:M0}(hz:0<=z/\z<=1000)(h1:aX K H p (l.map V.int))(h2:∀i∈l,1<=i/\i<=aY)(h3:l.length=many):xg K H many "deal" [.int z,.ref p]|other{k:Str}(h1:k≠"share")(h2:k≠"deal"):xg K H many k []
inductive Hr(P:MU)(w:World)(K:MP)(a:i0)(vs:List V)(H:Hp)(Q:VK)(E:XK):Prop|mk(d:Addr)(M:cA)(Z:ZS)(c:Nat)(k:Str)(t:eK)(xs:List V)(_:vs=[.ref d,.ref (Z.G .tn)])(_:aX K H d (.str k::.str t.nm::xs))(_:bw P w K a H M Z)(_:nN M c)(_:t∈M.trs)(_:xg K H t.arms.length k xs)(_:(t.clo=false->∀H',ak H H'->Q .non H'))(_:(t.clo=true->∀H',ak H H'->E (.ref a.qC) none H'))
section
def uJ(T:Txt K mg a):aO P w K mg base (wb P w) 5 a.eF.x a.eF.d ["deed","trials"] (Hr P w K a):=by
 refine T.eF.okE jq λF A outer s H N Q E n h=>?_
 ·obtain⟨d,M,Z,c,k,t,R,rfl,o,y,z,B,I,q,r⟩:=h;refine⟨_,(ag (aV (pc T.bM (db T) n (ac (cC K (Y 0) ae) (ac (Y 1) O)))) (ag (bd 2 jq.nd (gh (cU n) (Y 1) (cC K (Y 0) ae) (λ_ _=>rfl))) (ag (bd 3 jq.nd (aB (aI K rfl) (by rfl) T.bD L2.aL (ac (aK K rfl (Y 2)) O))) (ag (aM (aD aQ (cC K (Y 0) ae) ay (aE _)) (ah (aV (pc T.eU (rg T) n (ac (cC K (Y 0) ae) (ac (Y 3) O))))) (ah (aM (aD aQ (cC K (Y 0) ae) ay (aE _)) (ah (aV (pc T.d7 (pL T) n (ac (cC K (Y 0) ae) (ac (cC K (Y 0) ae) (ac (Y 3) O)))))) aC))) (ah (aM (aP K rfl (aK K rfl (Y 2)) (λ_=>rfl)) (ah (xM T.BD rfl T.DI rfl xJ (ac ay O))) aC)))))),?_⟩
  obtain⟨j,u⟩:=ji.mp B;have l:=z.tr t B;have C:=z.tget (Z:=Z) u;have J:=l.a4;refine U rfl (rX o (am (k:=1) rfl) (U rfl ⟨t.nm,Z.G .tn,_,rfl,l.wd,y.tris,by rw[C];rfl,λD e=>?_⟩));have g:=y.same e;have p:=g.trial u;obtain⟨v,-,-⟩:=g.trs j t u;refine U rfl (U rfl (rX (ak.tseq e o) (am (k:=1) rfl) (rG (.ref (Z.G (.tr j))) (by rw[<-C];exact eZ.k (k:=.inr t.nm) g.tris) (aq ?_))));refine iZ p T.bh T.gT rfl rfl ⟨_,t.arms.length,rfl,.inr ⟨_,v,by simp⟩,aq ?_⟩;refine U rfl (rX (ak.tseq e o) (am (k:=0) rfl) ⟨rfl,U rfl ?_⟩);have f:=ak.tseq e o;cases I with
 |share h1 h2 h3=>
   refine bG ?_;refine U rfl (rX f (am (k:=2) rfl) (U rfl ⟨_,_,by rw[h3];rfl,ak.tseq e h1,h2,by lia,λm i=>?_⟩));refine iZ (i _ _ p) T.bh T.dU rfl rfl ⟨t.clo,rfl,?_⟩;cases b:t.clo
   ·exact bU (q b m (e.trans i))
   ·exact bq ⟨ls rfl,r b m (e.trans i)⟩|deal L h1 h2 h3=>
   refine wn ?_;refine U rfl (rX f (am (k:=0) rfl) ⟨rfl,U rfl (bG ?_)⟩);refine U rfl (rX f (am (k:=2) rfl) (U rfl (rX f (am (k:=3) rfl) (U rfl ⟨_,_,_,by rw[h3];rfl,L,ak.tseq e h1,h2,by lia,λm i=>?_⟩))));refine iZ (i _ _ p) T.bh T.dU rfl rfl ⟨t.clo,rfl,?_⟩;cases b:t.clo
   ·exact bU (q b m (e.trans i))
   ·exact bq ⟨ls rfl,r b m (e.trans i)⟩|other h1 h2=>
   refine gN h1 ?_;refine U rfl (rX f (am (k:=0) rfl) ⟨rfl,U rfl (gN h2 ?_)⟩);refine iZ p T.bh T.dU rfl rfl ⟨t.clo,rfl,?_⟩;cases b:t.clo
   ·exact bU (q b D e)
   ·exact bq ⟨ls rfl,r b D e⟩
end
inductive Fp(P:MU)(w:World)(K:MP)(a:i0)(vs:List V)(H:Hp)(Q:VK)(E:XK):Prop|mk(dv:Addr)(M:cA)(Z:ZS)(c:Nat)(d:Dd)(xs:List V)(_:vs=[.ref dv,.int M.p,.ref (Z.G .ln),.ref (Z.G .tn)])(_:aX K H dv xs)(_:bw P w K a H M Z)(_:nN M c)(_:kh K H M d xs)(_:(d.clo=false->∀H',ak H H'->Q .non H'))(_:(d.clo=true->∀H',ak H H'->E (.ref a.qC) none H'))
section
def uL(T:Txt K mg a)(hw:w.params=a.pm):aO P w K mg base (wb P w) 13 a.eJ.x a.eJ.d ["deed","prime","layers","trials"] (Fp P w K a):=by
 refine T.eJ.okE mJ λaa A outer s H vs Q E p h=>?_
 ·obtain⟨n,M,Z,c,d,xs,rfl,e,r,u,hD,q,C⟩:=h;refine⟨_,(ag (aV (pc T.gF (uK T hw) p (ac (Y 0) O))) (ag (bd 4 mJ.nd (cC K (Y 0) ae)) (ah (aM (aD aQ (Y 4) ay (aE _)) (ag (aV (pc T.gE (oJ T) p (ac (cC K (Y 0) ae) (ac (Y 2) O)))) (ah (aV (pc T.fP (tH T) p (ac (cC K (Y 0) ae) (ac (Y 1) (ac (Y 2) O))))))) (ah (aM (aD aQ (Y 4) ay (aE _)) (ah (aV (pc T.fO (tG T) p (ac (Y 0) (ac (Y 2) (ac (Y 3) O)))))) (ah (aM (aD aQ (Y 4) ay (aE _)) (ag (aV (pc T.bM (db T) p (ac (cC K (Y 0) ae) (ac (Y 2) O)))) (ah (aV (pc T.fU (tL T) p (ac (cC K (Y 0) ae) O))))) (ah (aM (aD aQ (Y 4) ay (aE _)) (ag (aV (pc T.eI (lM T) p (ac (cC K (Y 0) ae) O))) (ah (aV (pc T.bM (db T) p (ac (cC K (Y 0) ae) (ac (Y 3) O)))))) (ah (aM (aD aQ (Y 4) ay (aE _)) (ag (aV (pc T.eI (lM T) p (ac (cC K (Y 0) ae) O))) (ah (aV (pc T.fS (tJ T) p (ac (cC K (Y 0) ae) O))))) (ah (aV (bv ((uJ T).mono (by decide)) p rfl T.eF.m T.eF.f.kp T.eF.b .nil gS (ac (Y 0) (ac (Y 3) O))))))))))))))))),?_⟩
  have v:∀t∈M.trs,(bu (jZ (M.trs.map eK.nm) λi=>V.ref (Z.G (.tr i))) (.inr t.nm)).isSome=true:=λt ht=>by obtain⟨j,R⟩:=ji.mp ht;rw[u.tget (Z:=Z) R];rfl
  have B:∀l∈M.las,(bu (jZ (M.las.map d8.nm) λi=>V.ref (Z.G (.lo i))) (.inr l.nm)).isSome=true:=λl hl=>by obtain⟨j,R⟩:=ji.mp hl;rw[u.lget (Z:=Z) R];rfl
  cases hD with|@layer nm sl h1 h2 h3 h4 h5=>refine U rfl ⟨n,_,_,rfl,e,T.pV,?_⟩;refine U rfl (rX e (am (k:=0) rfl) (aq ?_));refine U rfl ⟨rfl,U rfl (bG ?_)⟩;refine U rfl (rX e (am (k:=1) rfl) (U rfl ⟨_,Z.G .ln,_,rfl,h1,r.lays,lP h2,λL o=>?_⟩));exact U rfl (rX (ak.tseq o e) (am (k:=2) rfl) (U rfl (U rfl ⟨sl,M,Z,rfl,r.same o,by lia,h3.1,h3.2,h4,λD F=>q rfl D (o.trans F)⟩)))|@trial x ar sh ra S h1 h2 h3 h4 h5 h6 h7 h8 h9 ha hb hc hd he hf=>refine U rfl ⟨n,_,_,rfl,e,T.pS,?_⟩;refine U rfl (rX e (am (k:=0) rfl) (aq ?_));refine U rfl ⟨rfl,U rfl (wn ?_)⟩;refine U rfl ⟨rfl,U rfl (bG ?_)⟩;obtain⟨W,I,J⟩:=j_.mp h1.hm;refine U rfl (U rfl (U rfl ⟨n,Z.G .ln,Z.G .tn,ar,sh,.ref ra,x.nm,x.home,x.rule,S,x.arms,x.shuts,_,_,rfl,e,h1.wd,by rw[<-J];exact(u.la W I).wd,r.lays,r.tris,lP h2,by rw[<-J];exact B W I,h3,h1.aw,h1.nd,h1.a1,h1.a4,h4,h1.hg,h5,h6,h7,h8,h9,λy hy=>?_,hb,h1.s8,q rfl⟩));obtain⟨z,N,X⟩:=j_.mp (ha y hy);exact⟨by rw[<-X];exact(u.tr z N).wd,by rw[<-X];exact v z N⟩|@hold l z h1 h2=>refine U rfl ⟨n,_,_,rfl,e,T.rC,?_⟩;refine U rfl (rX e (am (k:=0) rfl) (aq ?_));(iterate 2 refine U rfl ⟨rfl,U rfl (wn ?_)⟩);refine U rfl ⟨rfl,U rfl (bG ?_)⟩;refine U rfl (rX e (am (k:=1) rfl) (U rfl ⟨_,Z.G .ln,_,rfl,(u.la l h1).wd,r.lays,B l h1,λL o=>?_⟩));exact U rfl ⟨n,_,2,_,rfl,rfl,ak.tseq o e,am (k:=2) rfl,_,rfl,h2,q rfl L o⟩|@bar g t h1 h2=>refine U rfl ⟨n,_,_,rfl,e,T.tS,?_⟩;refine U rfl (rX e (am (k:=0) rfl) (aq ?_));(iterate 3 refine U rfl ⟨rfl,U rfl (wn ?_)⟩);refine U rfl ⟨rfl,U rfl (bG ?_)⟩;refine U rfl (rX e (am (k:=1) rfl) ⟨g,rfl,h1,λL o=>?_⟩);exact U rfl (rX (ak.tseq o e) (am (k:=2) rfl) (U rfl ⟨t.nm,Z.G .tn,_,rfl,(u.tr t h2).wd,o _ _ r.tris,v t h2,λD F=>q rfl D (o.trans F)⟩))|@visit g mv ms h1 h2 h3 h4 h5=>refine U rfl ⟨n,_,_,rfl,e,T.pR,?_⟩;refine U rfl (rX e (am (k:=0) rfl) (aq ?_));(iterate 4 refine U rfl ⟨rfl,U rfl (wn ?_)⟩);refine U rfl ⟨rfl,U rfl (bG ?_)⟩;refine U rfl (rX e (am (k:=1) rfl) ⟨g,rfl,h1,λL o=>?_⟩);exact U rfl (rX (ak.tseq o e) (am (k:=2) rfl) ⟨mv,ms,rfl,h2.kp (.of o),h3,h4,h5,λD F=>q rfl D (o.trans F)⟩)|@share t ns nv h1 h2 h3 h4=>refine U rfl ⟨n,_,_,rfl,e,T.pT,?_⟩;refine U rfl (rX e (am (k:=0) rfl) (aq ?_));(iterate 5 refine U rfl ⟨rfl,U rfl (wn ?_)⟩);exact U rfl (U rfl ⟨n,M,Z,c,_,t,_,rfl,e,r,u,h1,.share h2 h4 h3,q,C⟩)|@deal t z S wv h1 N h2 h3 h4=>refine U rfl ⟨n,_,_,rfl,e,T.rD,?_⟩;refine U rfl (rX e (am (k:=0) rfl) (aq ?_));(iterate 5 refine U rfl ⟨rfl,U rfl (wn ?_)⟩);exact U rfl (U rfl ⟨n,M,Z,c,_,t,_,rfl,e,r,u,h1,.deal N h2 h4 h3,q,C⟩)|@pause t h1=>refine U rfl ⟨n,_,_,rfl,e,T.pU,?_⟩;refine U rfl (rX e (am (k:=0) rfl) (aq ?_));(iterate 5 refine U rfl ⟨rfl,U rfl (wn ?_)⟩);exact U rfl (U rfl ⟨n,M,Z,c,_,t,_,rfl,e,r,u,h1,.other (by decide+kernel) (by decide+kernel),q,C⟩)|@go t h1=>refine U rfl ⟨n,_,_,rfl,e,T.uV,?_⟩;refine U rfl (rX e (am (k:=0) rfl) (aq ?_));(iterate 5 refine U rfl ⟨rfl,U rfl (wn ?_)⟩);exact U rfl (U rfl ⟨n,M,Z,c,_,t,_,rfl,e,r,u,h1,.other (by decide+kernel) (by decide+kernel),q,C⟩)|@close t h1=>refine U rfl ⟨n,_,_,rfl,e,T.pW,?_⟩;refine U rfl (rX e (am (k:=0) rfl) (aq ?_));(iterate 5 refine U rfl ⟨rfl,U rfl (wn ?_)⟩);exact U rfl (U rfl ⟨n,M,Z,c,_,t,_,rfl,e,r,u,h1,.other (by decide+kernel) (by decide+kernel),q,C⟩)
end
def Ee(c:M0)(n:Nat):∀i∈deal c n,0<=i:=λi hi=>by obtain⟨k,b⟩:=ji.mp hi;have:=(wT c n k).1;unfold gd at this;rw[t6,b]at this;exact this
inductive iU(M:cA):Dd->cA->Prop|layer{nm:Str}{sl:Int}:iU M (.layer nm sl) (xb M nm sl)|trial{x:eK}:iU M (.trial x) (xa M x)|share{t:eK}{ns:M0}{i:Nat}{l:d8}(hl:M.las[i]?=some l)(hh:l.nm=t.home)(hn:jm l.S (qD t.nm t.arms ns)<=((pb M.p l.S.oc).length:Int)):iU M (.share t ns) (ni M i l t ns)|deal{t:eK}{z:Int}{ws:M0}{i:Nat}{l:d8}(hl:M.las[i]?=some l)(hh:l.nm=t.home)(hn:jm l.S (qD t.nm t.arms (deal ws z.toNat))<=((pb M.p l.S.oc).length:Int)):iU M (.deal t z ws) (ni M i l t (deal ws z.toNat))|hold{l:d8}{z:Int}{i:Nat}(hl:M.las[i]?=some l):iU M (.hold l z) (DX M i l z)|pause{t:eK}{b:Bool}{j:Nat}(hj:M.trs[j]?=some t):iU M (.pause t b) (M.setT j {t with pau:=b})|close{t:eK}{i j:Nat}{l:d8}(hj:M.trs[j]?=some t)(hl:M.las[i]?=some l)(hh:l.nm=t.home):iU M (.close t) (ni (M.setT j {t with clo:=true}) i l {t with clo:=true} (nO t))|bar{g:Str}{t:eK}{i j:Nat}{l:d8}(hj:M.trs[j]?=some t)(hl:M.las[i]?=some l)(hh:l.nm=t.home):iU M (.bar g t) (zK M i j l t g)|visit{g:Str}{M':cA}(h:ke g M M'):iU M (.visit g) M'
def Dd.adds:Dd->Bool|.layer _ _=>true|.trial _=>true|_=>false
def Dd.clo_adds{d:Dd}(h:d.clo=true):d.adds=false:=by cases d<;>first|rfl|cases h
inductive HA(P:MU)(w:World)(K:MP)(a:i0)(vs:List V)(H:Hp)(Q:VK)(E:XK):Prop|mk(M:cA)(Z:ZS)(c:Nat)(dv:Addr)(d:Dd)(xs:List V)(_:vs=[.ref (Z.G .hh),.ref dv])(_:cR P w K a H M Z c)(_:c<=63)(_:aX K H dv xs)(_:kh K H M d xs)(_:(∀(r:Addr)(us:List V)(M':cA)(Z':ZS)(H':Hp),iU M d M'->f8 H M Z H' M' Z'->cR P w K a H' M' Z' (c+1)->H r=none->H' r=some (.lst us)->Z'.ds=Z.ds->Q (.ref r) H'))(_:(d.adds=false->∀H',ak H H'->E (.ref a.mh) none H'))
section
def uS(T:Txt K mg a):aO P w K mg base (wb P w) 11 a.fL.x a.fL.d ["self","deed"] (HA P w K a):=by
 refine T.fL.okE mK λap A outer s H vs Q E p h=>?_
 ·obtain⟨M,Z,c,dv,d,xs,rfl,y,hc,u,hD,q,V⟩:=h;refine⟨_,(ag (bd 2 mK.nd (cC K (Y 1) ae)) (ag (aM (aD aQ (Y 2) ay (aE _)) (ah (az (bK (Y 0) T.aF T.cP.m ((oQ (P:=P) (w:=w) T).mono (by decide)) p T.cP.b .nil be (ac (cC K (Y 1) ae) (ac (cC K (Y 1) ae) O))))) aC) (ag (aM (aD aQ (Y 2) ay (aE _)) (ah (az (bK (Y 0) T.aF T.cO.m ((oP (P:=P) (w:=w) T).mono (by decide)) p T.cO.b .nil be (ac (cC K (Y 1) ae) (ac (rN T.Ds ((rh (P:=P) (w:=w) T).mono (by decide)) p rfl T.F0 T.dJ.b .nil be (ac (cC K (Y 1) ae) (ac (cC K (Y 1) ae) (ac (cC K (Y 1) ae) (ac (cC K (Y 1) ae) O))))) O))))) aC) (ag (aM (aD aQ (Y 2) ay (aE _)) (ah (az (bK (Y 0) T.aF T.bF.m ((gj (P:=P) (w:=w) T).mono (by decide)) p T.bF.b .nil gS (ac (cC K (Y 1) ae) (ac (cC K (Y 1) ae) O))))) aC) (ag (aM (aD aQ (Y 2) ay (aE _)) (ah (az (bK (Y 0) T.aF T.bF.m ((gj (P:=P) (w:=w) T).mono (by decide)) p T.bF.b .nil gS (ac (cC K (Y 1) ae) (ac (pc T.vQ (Db T) p (ac (cC K (Y 1) ae) (ac (cC K (Y 1) ae) O))) O))))) aC) (ag (aM (aD aQ (Y 2) ay (aE _)) (ah (az (bK (Y 0) T.aF T.dq.m ((pM (P:=P) (w:=w) T).mono (by decide)) p T.dq.b .nil gS (ac (cC K (Y 1) ae) (ac (cC K (Y 1) ae) O))))) aC) (ag (aM (aD aQ (Y 2) ay (aE _)) (ah (az (bK (Y 0) T.aF T.bY.m ((jk (P:=P) (w:=w) T).mono (by decide)) p T.bY.b .nil be (ac (cC K (Y 1) ae) (ac gi O))))) aC) (ag (aM (aD aQ (Y 2) ay (aE _)) (ah (az (bK (Y 0) T.aF T.bY.m ((jk (P:=P) (w:=w) T).mono (by decide)) p T.bY.b .nil be (ac (cC K (Y 1) ae) (ac gi O))))) aC) (ag (aM (aD aQ (Y 2) ay (aE _)) (ah (az (bK (Y 0) T.aF T.cQ.m ((oR (P:=P) (w:=w) T).mono (by decide)) p T.cQ.b .nil gS (ac (cC K (Y 1) ae) O)))) aC) (ag (aM (aD aQ (Y 2) ay (aE _)) (ah (az (bK (Y 0) T.aF T.dR.m ((rp (P:=P) (w:=w) T).mono (by decide)) p T.dR.b .nil be (ac (cC K (Y 1) ae) (ac (cC K (Y 1) ae) O))))) aC) (ah (az (bK (Y 0) T.aF T.cN.m ((oO (P:=P) (w:=w) T).mono (by decide)) p T.cN.b .nil be (ac (cC K (Y 1) ae) (ac (cC K (Y 1) ae) O))))))))))))))),?_⟩
  have F:=y.g.house;cases hD with|@layer nm sl h1 h2 h3 h4 h5=>refine U rfl (rX u (am (k:=0) rfl) (aq ?_));refine U rfl ⟨rfl,U rfl (bG ?_)⟩;exact oE F rfl rfl (U rfl (rX u (am (k:=1) rfl) (U rfl (rX u (am (k:=2) rfl) ⟨M,Z,c,nm,sl,rfl,y,h1,h2,h3,h5,λr B H' st f p n v=>q r [] _ B H' .layer st (f.mono (qq c)) p n v⟩))))|@trial x ar sh ra J h1 h2 h3 h4 h5 h6 h7 h8 h9 ha hb W hd he hf=>
   refine U rfl (rX u (am (k:=0) rfl) (aq ?_));refine U rfl ⟨rfl,U rfl (wn ?_)⟩;refine U rfl ⟨rfl,U rfl (bG ?_)⟩;refine oE F rfl rfl (U rfl (rX u (am (k:=1) rfl) ?_));refine U rfl (rX u (am (k:=2) rfl) (U rfl (rX u (am (k:=3) rfl) (U rfl (rX u (am (k:=4) rfl) (U rfl (rX u (am (k:=5) rfl) (λt ty L X as=>?_))))))));have s2:ak H (aG (aG H ty (.own t)) t (.ins a.fA ty [])):=λb o e=>by rw[ao (aH e L),ao (aH e X)];exact e
   have N:aG (aG H ty (.own t)) t (.ins a.fA ty []) t=some (.ins a.fA ty []):=af;generalize aG (aG H ty (.own t)) t (.ins a.fA ty [])=H2 at s2 N⊢;refine⟨t,ty,ar,ra,sh,x.home,rfl,N,λba H3 aa f3 ad al=>⟨rfl,?_⟩⟩;have s3:ak H H3:=λb o e=>f3 b o (s2 b o e) (aH e L);exact⟨M,Z,c,H,t,ba,ty,ar,sh,.ref ra,x,rfl,y,s3,L,s2.free aa,al,ad,h3,h4,h9,W,hd,he,h1,h2,hf,λr B H' st f p n v=>q r [] _ B H' .trial st (f.mono (qq c)) p n v⟩|@share t ns nv h1 h2 h3 h4=>obtain⟨j,C⟩:=ji.mp h1;obtain⟨i,l,D,hh⟩:=y.ok.home h1;refine U rfl (rX u (am (k:=0) rfl) (aq ?_));(iterate 2 refine U rfl ⟨rfl,U rfl (wn ?_)⟩);refine U rfl ⟨rfl,U rfl (bG ?_)⟩;exact oE F rfl rfl (U rfl (rX u (am (k:=1) rfl) (U rfl (rX u (am (k:=2) rfl) ⟨M,Z,c,i,j,l,t,nv,ns,rfl,y,hc,C,D,hh,.inr h2,h3,h4,λG r I B H' st f p n v=>q r I _ B H' (.share D hh G) st f p n v,λ_=>V rfl⟩))))|@deal t z J wv h1 hz h2 h3 h4=>
   obtain⟨j,C⟩:=ji.mp h1;obtain⟨i,l,D,hh⟩:=y.ok.home h1;have R:=y.ok.tr t h1;have a1:=R.a1;have a4:=R.a4;refine U rfl (rX u (am (k:=0) rfl) (aq ?_));(iterate 3 refine U rfl ⟨rfl,U rfl (wn ?_)⟩);refine U rfl ⟨rfl,U rfl (bG ?_)⟩;refine oE F rfl rfl (U rfl (rX u (am (k:=1) rfl) (U rfl (rX u (am (k:=2) rfl) (U rfl (rX u (am (k:=3) rfl) ⟨z.toNat,wv,J,by rw[show((z.toNat:Nat):Int)=z by lia];rfl,by lia,h2,by lia,by lia,λtv H1 S L=>?_⟩))))));have an:(deal J z.toNat).length=t.arms.length:=by rw[lX];exact h3
   exact⟨M,Z,c,i,j,l,t,tv,deal J z.toNat,rfl,y.same S,hc,C,D,hh,.inr (aX.of L),an,Ee J z.toNat,λG r I B H' st f p n v=>q r I _ B H' (.deal D hh G) ((f8.of S).trans st) f (S.free p) n v,λ_ H' s'=>V rfl H' (S.trans s')⟩|@hold l z h1 h2=>obtain⟨i,D⟩:=ji.mp h1;refine U rfl (rX u (am (k:=0) rfl) (aq ?_));(iterate 4 refine U rfl ⟨rfl,U rfl (wn ?_)⟩);refine U rfl ⟨rfl,U rfl (bG ?_)⟩;exact oE F rfl rfl (U rfl (rX u (am (k:=1) rfl) (U rfl (rX u (am (k:=2) rfl) ⟨M,Z,c,i,l,z,rfl,y,hc,D,h2,λG r B H' st f p n v=>q r [] _ B H' (.hold D) st f p n v,λ_=>V rfl⟩))))|@pause t h1=>obtain⟨j,C⟩:=ji.mp h1;refine U rfl (rX u (am (k:=0) rfl) (aq ?_));(iterate 5 refine U rfl ⟨rfl,U rfl (wn ?_)⟩);refine U rfl ⟨rfl,U rfl (bG ?_)⟩;exact oE F rfl rfl (U rfl (rX u (am (k:=1) rfl) ⟨M,Z,c,j,t,true,rfl,y,C,λr H' st f p n=>q r [] _ Z H' (.pause C) st (f.mono (qq c)) p n rfl⟩))|@go t h1=>obtain⟨j,C⟩:=ji.mp h1;refine U rfl (rX u (am (k:=0) rfl) (aq ?_));(iterate 6 refine U rfl ⟨rfl,U rfl (wn ?_)⟩);refine U rfl ⟨rfl,U rfl (bG ?_)⟩;exact oE F rfl rfl (U rfl (rX u (am (k:=1) rfl) ⟨M,Z,c,j,t,false,rfl,y,C,λr H' st f p n=>q r [] _ Z H' (.pause C) st (f.mono (qq c)) p n rfl⟩))|@close t h1=>obtain⟨j,C⟩:=ji.mp h1;obtain⟨i,l,D,hh⟩:=y.ok.home h1;refine U rfl (rX u (am (k:=0) rfl) (aq ?_));(iterate 7 refine U rfl ⟨rfl,U rfl (wn ?_)⟩);refine U rfl ⟨rfl,U rfl (bG ?_)⟩;exact oE F rfl rfl (U rfl (rX u (am (k:=1) rfl) ⟨M,Z,c,i,j,l,t,rfl,y,hc,C,D,hh,λr I B H' st f p n v=>q r I _ B H' (.close C D hh) st f p n v⟩))|@bar g t h1 h2=>obtain⟨j,C⟩:=ji.mp h2;obtain⟨i,l,D,hh⟩:=y.ok.home h2;refine U rfl (rX u (am (k:=0) rfl) (aq ?_));(iterate 8 refine U rfl ⟨rfl,U rfl (wn ?_)⟩);refine U rfl ⟨rfl,U rfl (bG ?_)⟩;exact oE F rfl rfl (U rfl (rX u (am (k:=1) rfl) (U rfl (rX u (am (k:=2) rfl) ⟨M,Z,c,i,j,l,t,g,rfl,y,hc,C,D,hh,h1,λr I B H' st f p n v=>q r I _ B H' (.bar C D hh) st f p n v⟩))))|@visit g mv ms h1 h2 h3 h4 h5=>refine U rfl (rX u (am (k:=0) rfl) (aq ?_));(iterate 9 refine U rfl ⟨rfl,U rfl (wn ?_)⟩);exact oE F rfl rfl (U rfl (rX u (am (k:=1) rfl) (U rfl (rX u (am (k:=2) rfl) ⟨M,Z,c,g,mv,ms,rfl,y,hc,h1,h2,h5,λr I M' B H' vt st f p n v=>q r I M' B H' (.visit vt) st f p n v⟩))))
end
inductive JI(P:MU)(w:World)(K:MP)(a:i0)(vs:List V)(H:Hp)(Q:VK)(E:XK):Prop|mk(M:cA)(Z:ZS)(c:Nat)(dv:Addr)(d:Dd)(xs:List V)(_:vs=[.ref (Z.G .hh),.ref dv])(_:cR P w K a H M Z c)(_:c<=63)(_:aX K H dv xs)(_:kh K H M d xs)(_:(d.clo=false->∀(r:Addr)(us:List V)(M':cA)(Z':ZS)(H':Hp),iU M d M'->f8 H M Z H' M' Z'->cR P w K a H' M' Z' (c+1)->H r=none->H' r=some (.lst us)->Z'.ds=Z.ds++[.ref dv]->Q (.ref r) H'))(_:(d.adds=false->∀H',ak H H'->E (.ref a.mh) none H'))(_:(d.adds=false->∀H',ak H H'->E (.ref a.qC) none H'))
section
def yb(T:Txt K mg a)(S:w.params=a.pm):aO P w K mg base (wb P w) 14 a.iX.x a.iX.d ["self","deed"] (JI P w K a):=by
 refine T.iX.okE qF λV A outer s H vs Q E n h=>?_
 ·obtain⟨M,Z,c,o,d,J,rfl,p,hc,L,N,q,W,X⟩:=h;refine⟨_,(ag (aV (bv ((uL T S).mono (by decide)) n rfl T.eJ.m T.eJ.f.kp T.eJ.b .nil gS (ac (Y 1) (ac (aK K rfl (Y 0)) (ac (aK K rfl (Y 0)) (ac (aK K rfl (Y 0)) O)))))) (ag (bd 2 qF.nd (bK (Y 0) T.aF T.fL.m ((uS (P:=P) (w:=w) T).mono (by decide)) n T.fL.b .nil gS (ac (Y 1) O))) (ag (aV (cI K rfl PySem.F.plainAttrs_list PySem.F.slot_list_append PySem.F.type_list_append d0 (aK K rfl (Y 0)) (ac (Y 1) O))) (ah (az (Y 2)))))),?_⟩
  have v:=p.g.house;refine U rfl (iZ v T.aF T.cg rfl rfl (iZ v T.aF T.bg rfl rfl (iZ v T.aF T.bf rfl rfl ?_)));refine⟨o,M,Z,c,d,J,rfl,L,p.g,p.ok,N,λk H1 j=>?_,λk=>X (Dd.clo_adds k)⟩;refine oE (j _ _ v) rfl rfl (U rfl ⟨M,Z,c,o,d,J,rfl,p.same j,hc,ak.tseq j L,N.kp (.of j),λr us y i R nx st e n B l=>?_,λha H' s'=>W ha H' (j.trans s')⟩);have t:=e.g.house;rw[st.hh]at t;have u:=e.g.dees;have C:=p.ds;refine aq (iZ t T.aF T.iO rfl rfl ⟨.inl ⟨rfl,_,aW.of u⟩,U rfl (rA u (by rw[l,gg];lia) ?_)⟩);have D:=e.g.deed (.ref o);have I:f8 R y i (aG R (i.G .dl) (.lst (i.ds++[.ref o]))) y {i with ds:=i.ds++[.ref o]}:=f8.put (r:=.dl) trivial rfl rfl rfl rfl λx hx=>.inl hx;refine U rfl (q k r us y {i with ds:=i.ds++[.ref o]} _ nx (((f8.of j).trans st).trans I) ⟨D,e.ok,e.tk,e.ow,by show(i.ds++[_]).length<=c+1;rw[gV,l];exact C_ C⟩ (j.free n) ?_ (by show i.ds++[_]=_;rw[l]));rw[ao λz=>?_]
  ·exact B
  ·rw[z,st.dd,j _ _ p.g.dees]at n;cases n
end
def GM:List Str:=["ann","ann7","7ann","an","nan","ana","anan","b","bob12","bob1","21bob","annbob"]
def B9:List Str:=["","ann7","0","guestofthishouse99"]
def CG(k:Nat):Nat:=if k<26 then 97+k else 22+k
def K8(z:Str)(i:Int)(c:Nat):Str:=Txt.slice z none (some i)++(⟨#[c]⟩:Str)++Txt.slice z (some i) none
def KN(x:Str):Bool:=decide (1<=x.length)&&decide (x.length<=24)&&x.cps.toList.all λc=>decide (c∈jA.cps.toList)
def GU(h:KN x=true):AG x:=by unfold KN at h;rw[lm,lm]at h;exact⟨op h.1.1,op h.1.2,λc hc=>op (List.all_eq_true.mp h.2 c hc)⟩
def CC:∀z∈GM,KN z=true:=by decide+kernel
def FV:∀z∈B9,∀i∈List.range 19,∀c∈List.range 36,KN (K8 z (i:Int) (CG c))=true:=by decide+kernel
def AV:∀z∈B9,z.length<=18:=by decide+kernel
def HG:∀c∈List.range 36,u4 ("abcdefghijklmnopqrstuvwxyz0123456789":Str).cps.toList (c:Int)=some (CG c):=by decide+kernel
def iQ{zs:MV}{i:Int}(h0:0<=i)(h1:i<(zs.length:Int)):∃z∈zs,u4 (zs.map V.str) i=some (V.str z):=by obtain⟨v,b,hm⟩:=yM (xs:=zs.map V.str) h0 (by rw[b_];exact h1);obtain⟨z,c,rfl⟩:=j_.mp hm;exact⟨z,c,b⟩
inductive Cm(vs:List V)(H:Hp)(Q:VK)(_E:XK):Prop|mk(k N:Int)(_:vs=[.int k,.int N])(_:∀(g:Str)H',ak H H'->AG g->Q (.str g) H')
def Bl(h:N c H):(lg.mk N R B C).nx c H:=h
def qa{c:TT}{t u:TS}{D:lg}{d:St}(h1:u D d H)(h2:∀N:St->Hp->Prop,N d H->ET c t vh {D with nx:=N} d H):AT (ET c t vh) u D d H:=h2 (u D) h1
def KL:List Str:=["age","size","old"]
inductive E7(K:MP)(h:Nat)(vs:List V)(H:Hp)(Q:VK)(_E:XK):Prop|mk(n i:Int)(_:vs=[.int n,.int i])(_:1<=i)(_:i<=(h:Int))(_:∀(r:Ru)(rv:V)H',ak H H'->dP K H' r rv->iS KL r->r.hgt<=h->r.cnt<2^h->Q rv H')
section
def Bj(T:Txt K mg a):aO P w K mg base cZ 1 a.qz.x a.qz.d ["_law_k","_law_number"] Cm:=by
 refine T.qz.ok jK λp A outer s H D Q E F h=>?_
 ·obtain⟨k,N,rfl,q⟩:=h;refine⟨_,(ag (aM (aD aQ (au aT (au bA (Y 1) ae) ae) ae (aE _)) (ag (bd 2 jK.nd (a0 (ac ay (ac ay (ac ay (ac ay (ac ay (ac ay (ac ay (ac ay (ac ay (ac ay (ac ay (ac ay O)))))))))))))) (ah (az (iq K (Y 2) (au aT (au bP (Y 0) (au bA (Y 1) ae)) ae))))) aC) (ag (bd 3 jK.nd (iq K (a0 (ac ay (ac ay (ac ay (ac ay O))))) (au aT (Y 1) ae))) (ag (bd 4 jK.nd (au aT (au bA (Y 1) ae) (au bP (aB (aI K rfl) (by rfl) T.bD L2.aL (ac (Y 3) O)) ae))) (ag (bd 5 jK.nd (au aT (au bP (Y 0) (au bA (Y 1) ae)) ae)) (ah (az (au bj (au bj (cH sr (Y 3) dH (dG (Y 4))) (xN zv ay (Y 5) (λ_ _=>rfl))) (cH sr (Y 3) (dG (Y 4)) dH)))))))),?_⟩
  have b1:=bH (k+N/160) (show(0:Int)<12 by decide);have b2:=bH (k+N/160) (show(0:Int)<36 by decide);have b3:=bH N (show(0:Int)<4 by decide)
  walk_at "a"
  refine i4 (λr=>?_) (λr=>?_)
  ·refine⟨ls rfl,λl g=>?_⟩
   walk_at "a"
   obtain⟨z,f,i⟩:=iQ (zs:=GM) b1.1 b1.2;exact⟨l,_,_,U rfl ⟨rfl,aW.of af,i,q z _ (aj (ak.refl H) g) (GU (CC z f))⟩⟩
  ·refine⟨ls rfl,λl g=>?_⟩;obtain⟨z,f,i⟩:=iQ (zs:=B9) b3.1 b3.2;have u:=AV z f;have n:=aj (o:=.lst [V.str "",V.str "ann7",V.str "0",V.str "guestofthishouse99"]) (ak.refl H) g;have c:aG H l (.lst [V.str "",V.str "ann7",V.str "0",V.str "guestofthishouse99"]) l=some (.lst [V.str "",V.str "ann7",V.str "0",V.str "guestofthishouse99"]):=af;generalize aG H l (.lst [V.str "",V.str "ann7",V.str "0",V.str "guestofthishouse99"])=G at n c⊢
   walk_at "a"
   refine⟨l,_,_,U rfl ⟨rfl,aW.of c,i,aq ?_⟩⟩
   walk_at "a"
   refine⟨_,z.length,rfl,⟨cS (by lia),rfl⟩,_,U rfl ⟨rfl,r2 ⟨(by show(0:Int)<_;lia),aq ?_⟩⟩⟩;have v:=bH (N/4) (show(0:Int)<(z.length:Int)+1 by lia);have y:=Txt.slice_le z none (some (N/4%((z.length:Int)+1)));have B:=Txt.slice_le z (some (N/4%((z.length:Int)+1))) none;have hok:=FV z f (N/4%((z.length:Int)+1)).toNat (by rw[q_];lia) ((k+N/160)%36).toNat (by rw[q_];lia);have e:=HG ((k+N/160)%36).toNat (by rw[q_];lia);rw[show(((N/4%((z.length:Int)+1)).toNat:Nat):Int)=N/4%((z.length:Int)+1)by lia]at hok;rw[show((((k+N/160)%36).toNat:Nat):Int)=(k+N/160)%36 by lia]at e;generalize CG ((k+N/160)%36).toNat=j at*;have m:∀a b:Str,(a++b).length=a.length+b.length:=λa b=>by show(a.cps++b.cps).size=a.cps.size+b.cps.size;exact Array.size_append
   have C:(⟨#[j]⟩:Str).length=1:=rfl
   walk_at "a"
   refine⟨cS (by lia),?_⟩
   walk_at "a"
   exact⟨"abcdefghijklmnopqrstuvwxyz0123456789",_,j,rfl,rfl,cS (by decide+kernel),e,_,(⟨#[j]⟩:Str),rfl,rfl,cS (by lia),U rfl (U rfl ⟨N/4%((z.length:Int)+1),rfl,z,rfl,cS (by lia),_,U rfl ⟨rfl,cS (by rw[m];lia),q _ _ n (GU hok)⟩⟩)⟩
theorem x9(T:Txt K mg a):∀h:Nat,aO P w K mg base cZ (h+1) a.eA.x a.eA.d ["_law_number","_law_high"] (E7 K h)
 |0=>by
  refine T.eA.f.ok lB (λS H Q E h=>?_) (λW A outer s H S Q E e h=>?_)
  ·obtain⟨n,i,rfl,_⟩:=h;rfl
  ·obtain⟨n,i,rfl,h1,h2,_⟩:=h;lia|hh+1=>by
  have G:=x9 T hh;refine T.eA.f.ok lB (λS H Q E h=>?_) (λW A outer s H S Q E e h=>?_)
  ·obtain⟨n,i,rfl,_⟩:=h;rfl
  ·obtain⟨n,i,rfl,h1,h2,q⟩:=h;refine⟨_,(ag (bd 2 lB.nd (au aT (Y 0) ae)) (ag (bd 3 lB.nd (au bA (Y 0) ae)) (ag (bd 4 lB.nd (iq K (a0 (ac ay (ac ay (ac ay O)))) (au aT (Y 3) ae))) (ag (aM (aD aQ (Y 2) ae (aE _)) (ah (az (cf (ac ay (ac (Y 4) O))))) aC) (ag (aM (PW.pt (gc (aD aQ (Y 2) ae (aE _)) (eB (aD aQ (Y 2) ae (aE _))))) (ah (az (cf (ac ay (ac (Y 4) (ac (au fE (au aT (au bA (Y 3) ae) ae) ae) O)))))) aC) (ag (aM (PW.pt (nz (aD qL (Y 1) ae (aE _)) (kF (aD aQ (Y 2) ae (aE _))))) (ah (az (cf (ac ay (ac (bv G e rfl T.eA.m T.eA.f.kp T.eA.b .nil be (ac (Y 3) (ac (au fE (Y 1) ae) O))) O))))) aC) (ag (aM (PW.pt (nz (aD qL (Y 1) ae (aE _)) (kF (aD aQ (Y 2) ae (aE _))))) (ah (az (cf (ac ay (ac (bv G e rfl T.eA.m T.eA.f.kp T.eA.b .nil be (ac (Y 3) (ac (au fE (Y 1) ae) O))) (ac (bv G e rfl T.eA.m T.eA.f.kp T.eA.b .nil be (ac (au bA (Y 3) ae) (ac (au fE (Y 1) ae) O))) O)))))) aC) (ag (aM (PW.pt (nz (aD qL (Y 1) ae (aE _)) (kF (aD aQ (Y 2) ae (aE _))))) (ah (az (cf (ac ay (ac (bv G e rfl T.eA.m T.eA.f.kp T.eA.b .nil be (ac (Y 3) (ac (au fE (Y 1) ae) O))) (ac (bv G e rfl T.eA.m T.eA.f.kp T.eA.b .nil be (ac (au bA (Y 3) ae) (ac (au fE (Y 1) ae) O))) O)))))) aC) (ah (az (cf (ac ay O)))))))))))),?_⟩
   have X:2<=2^(hh+1):=by rw[D2];have:=Nat.two_pow_pos hh;lia
   walk_at "a"
   refine⟨ls rfl,λl hl=>?_⟩;have b3:=bH (n/10) (show(0:Int)<3 by decide);obtain⟨z,hz,ha⟩:=iQ (zs:=KL) b3.1 b3.2;have v:=aj (o:=.lst [V.str "age",V.str "size",V.str "old"]) (ak.refl H) hl;have y:aG H l (.lst [V.str "age",V.str "size",V.str "old"]) l=some (.lst [V.str "age",V.str "size",V.str "old"]):=af;generalize aG H l (.lst [V.str "age",V.str "size",V.str "old"])=H0 at v y⊢
   walk_at "a"
   refine⟨l,_,_,U rfl ⟨rfl,aW.of y,ha,aq ?_⟩⟩;clear y ha b3;refine Bl (qa ?_ (λN j=>?_))
   rotate_left
   ·walk_at "a"
    refine i4 (λe1=>?_) (λe1=>j);exact U rfl ⟨ls rfl,λt c=>q (.has z) _ _ (aj v c) (.has (aX.of af)) (.has hz) (by show 1<=hh+1;lia) X⟩
   refine qa ?_ (λN j=>?_)
   rotate_left
   ·have b9:=bH (n/10/3) (show(0:Int)<9 by decide);have ad:=pA;refine U rfl ⟨rfl,U rfl (i4 (λ_=>bq ?_) (λ_=>(U rfl ⟨rfl,U rfl (i4 (λ_=>?_) (λ_=>j))⟩)))⟩
    all_goals
     walk_at "a"
     exact⟨ls rfl,λt c=>q (.least z _) _ _ (aj v c) (.least (aX.of af)) (.least hz (by lia) (by lia)) (by show 1<=hh+1;lia) X⟩
   have Z:∀m:Nat,m<2^hh->m+1<2^(hh+1):=λm hm=>by rw[D2];lia
   have u:∀m k:Nat,m<2^hh->k<2^hh->m+k+1<2^(hh+1):=λm k hm hk=>by rw[D2];lia
   refine qa ?_ (λN j=>?_)
   rotate_left
   ·refine U rfl (r2 (U rfl (lS (λg=>?_) (λ_=>bU j))));refine U rfl ⟨rfl,U rfl (i4 (λ_=>?_) (λ_=>j))⟩;refine U rfl (U rfl (r2 ⟨n/10,i-1,rfl,by lia,by lia,λr R H1 I e J h3 h4=>⟨ls rfl,λt c=>?_⟩⟩));exact q (.not r) _ _ (aj (v.trans I) c) (.not (aX.of af) (e.kp (.of (aj (ak.refl _) c)))) (.not J) (by show r.hgt+1<=hh+1;lia) (Z _ h4)
   refine qa ?_ (λN j=>?_)
   rotate_left
   ·refine U rfl (r2 (U rfl (lS (λg=>?_) (λ_=>bU j))));refine U rfl ⟨rfl,U rfl (i4 (λ_=>?_) (λ_=>j))⟩;refine U rfl (U rfl (r2 ⟨n/10,i-1,rfl,by lia,by lia,λr R H1 I e J h3 h4=>?_⟩));refine U rfl (r2 ⟨⟨by decide,by decide⟩,U rfl (r2 ⟨n/10/40,i-1,rfl,by lia,by lia,λp B H2 L C D aa F=>⟨ls rfl,λt c=>?_⟩⟩)⟩);have M:=aj (o:=.tup [.str "both",R,B]) (ak.refl H2) c;exact q (.both r p) _ _ (aj ((v.trans I).trans L) c) (.both (aX.of af) ((e.kp (.of L)).kp (.of M)) (C.kp (.of M))) (.both J D) (by show max r.hgt p.hgt+1<=hh+1;lia) (by rw[show(Ru.both r p).cnt=r.cnt+p.cnt+1 from r4 (·+1) gV];exact u _ _ h4 F)
   refine qa ?_ (λN j=>?_)
   rotate_left
   ·refine U rfl (r2 (U rfl (lS (λg=>?_) (λ_=>bU j))));refine U rfl ⟨rfl,U rfl (i4 (λ_=>?_) (λ_=>j))⟩;refine U rfl (U rfl (r2 ⟨n/10,i-1,rfl,by lia,by lia,λr R H1 I e J h3 h4=>?_⟩));refine U rfl (r2 ⟨⟨by decide,by decide⟩,U rfl (r2 ⟨n/10/40,i-1,rfl,by lia,by lia,λp B H2 L C D aa F=>⟨ls rfl,λt c=>?_⟩⟩)⟩);have M:=aj (o:=.tup [.str "either",R,B]) (ak.refl H2) c;exact q (.either r p) _ _ (aj ((v.trans I).trans L) c) (.either (aX.of af) ((e.kp (.of L)).kp (.of M)) (C.kp (.of M))) (.either J D) (by show max r.hgt p.hgt+1<=hh+1;lia) (by rw[show(Ru.either r p).cnt=r.cnt+p.cnt+1 from r4 (·+1) gV];exact u _ _ h4 F)
   exact⟨ls rfl,λt c=>q .any _ _ (aj v c) (.any (aX.of af)) .any (by show 1<=hh+1;lia) X⟩
end
def zh(m:Int)(j:Nat):Str:=KL.getD (((j:Int)+m)%3).toNat "age"
def IC:List Str:=["marka","markb","markc","markd","marke"]
def FP(m:Int):zh m=zh (m%3):=by
 funext j
 unfold zh;rw[Int.add_emod,Int.add_emod (j:Int) (m%3),Int.emod_emod]
def DA(m:Int):(IC++(List.range 3).map (zh m)).Nodup/\∀z∈IC++(List.range 3).map (zh m),I0 z=true:=by rw[FP];have b:=bH m (show(0:Int)<3 by decide);rcases(by lia:m%3=0\/m%3=1\/m%3=2)with e|e|e<;>rw[e]<;>decide+kernel
def Ic{m:Int}{j:Nat}:u4 [V.str "age",V.str "size",V.str "old"] ((0+(j:Int)+m)%3)=some (V.str (zh m j)):=by rw[Int.zero_add];have b:=bH ((j:Int)+m) (show(0:Int)<3 by decide);unfold zh;rcases(by lia:((j:Int)+m)%3=0\/((j:Int)+m)%3=1\/((j:Int)+m)%3=2)with e|e|e<;>rw[e]<;>rfl
def Jm(K:MP)(H:Hp)(v:V)(m:Str×Int):Prop:=∃b,v=.ref b/\aX K H b [.str m.1,.int m.2]
def qO(e:Kp H H')(h:Paired (Jm K H) c d):Paired (Jm K H') c d:=Paired.mapP h λv m⟨b,h1,h2⟩=>⟨b,h1,e.tq h2⟩
def J3{a:Addr}{c:List V}{d:List (Str×Int)}(h:Paired (Jm K H) c d)(e:aX K H a c):pk K H d (.ref a):=⟨a,c,rfl,e,Paired.length h,λi m hm=>by obtain⟨v,h1,b,rfl,h2⟩:=wA h i m hm;exact⟨b,h1,h2⟩⟩
def lY{ns:M0}{i:Int}(h0:0<=i)(h1:i<(ns.length:Int)):∃z∈ns,u4 (ns.map V.int) i=some (V.int z):=by obtain⟨v,b,hm⟩:=yM (xs:=ns.map V.int) h0 (by rw[b_];exact h1);obtain⟨z,c,rfl⟩:=j_.mp hm;exact⟨z,c,b⟩
def Au:List (Str×Int):=[("marka",-2),("markb",-1),("markc",0),("markd",1),("marke",2)]
def D8:∀j∈List.range 5,u4 ("abcde":Str).cps.toList (0+(j:Int))=some (97+j)/\Au[j]?=some (("mark":Str)++(⟨#[97+j]⟩:Str),0+(j:Int)-2):=by decide+kernel
inductive Ch(K:MP)(vs:List V)(H:Hp)(Q:VK)(_E:XK):Prop|mk(n:Int)(_:vs=[.int n])(_:∀(t:Addr)(ms:List (Str×Int))H',ak H H'->pk K H' ms (.ref t)->(∀m∈ms,Wd m.1/\-aY<=m.2/\m.2<=aY)->(ms.map Prod.fst).Nodup->ms.length<=8->Q (.ref t) H')
section
def Bi(T:Txt K mg a):aO P w K mg base cZ 2 a.qy.x a.qy.d ["_law_number"] (Ch K):=by
 refine T.qy.ok jJ λbb A outer s H r Q E hr h=>?_
 ·obtain⟨n,rfl,q⟩:=h;refine⟨_,(ag (bd 1 jJ.nd (a0 O)) (ag (eC mo rfl (eS rfl T.gp (ac ae O)) (tz 2 jJ.nd) (ah (aM (aD aQ (au aT (au bA (Y 0) (iq K (a0 (ac ae (ac ae (ac ae O)))) (Y 2))) ae) ae (aE _)) (ag (bd 3 jJ.nd (iq K (a0 (ac ay (ac ay (ac ay O)))) (au aT (au bP (Y 2) (au bA (Y 0) ae)) ae))) (ah (aV (cI K rfl PySem.F.plainAttrs_list PySem.F.slot_list_append PySem.F.type_list_append d0 (Y 1) (ac (cf (ac (Y 3) (ac (au fE (au aT (au bA (Y 0) (iq K (a0 (ac ae (ac ae (ac ae O)))) (Y 2))) ae) ae) O))) O))))) aC))) (ag (aM (aD aQ (au aT (au bA (Y 0) ae) ae) ae (aE _)) (ah (bd 1 jJ.nd (au pK (qj ul [] [2] [2] (ai sZ) (bO 2) (eS rfl T.gp (ac ae O)) (λcl C s₀ H₀ ex=>⟨(mG ul [] 2),bJ,(cf (ac (au bj ay (xN zv ay (Y 2) (λ_ _=>rfl))) (ac (au fE (Y 2) ae) O)))⟩)) (Y 1)))) aC) (ah (az (bx (fV K rfl) (by rfl) T.df L2.bE (ac (Y 1) O))))))),?_⟩
  refine⟨ls rfl,λl hl=>?_⟩;have s0:=aj (o:=.lst []) (ak.refl H) hl;refine aq ⟨3,rfl,by lia,by lia,?_⟩;refine j8 (lo:=0) (n:=3) (λi S H'=>ak H H'/\(EL λ(g:List (Str×Int))(r:List V)=>Lq (H' l=some (.lst r)) (Paired (Jm K H') r g) ((g.map (·.1)).Sublist ((List.range i).map (zh (n/8)))) ((∀m∈g,-100<=m.2/\m.2<=100)) (EL λW X=>S=[some (.int n),some (.ref l),W,X]))) ⟨s0,[],[],af,.nil,List.nil_sublist _,(λm hm=>nomatch hm),_,_,rfl⟩ ?_ ?_
  ·rintro i S Z hi⟨s1,g,r,hL,G,b,hb,W,X,rfl⟩;refine aq ?_
   walk_at "a"
   refine⟨ls rfl,λl1 as=>?_⟩;have f:=aj (o:=.lst [V.int 1,V.int 2,V.int 4]) (ak.refl Z) as;have u:aG Z l1 (.lst [V.int 1,V.int 2,V.int 4]) l1=some (.lst [V.int 1,V.int 2,V.int 4]):=af;generalize aG Z l1 (.lst [V.int 1,V.int 2,V.int 4])=I at f u⊢;obtain⟨d,hd,ha⟩:=lY (ns:=[1,2,4]) (i:=0+(i:Int)) (by lia) (by show _<(3:Int);lia);have bc:d=1\/d=2\/d=4:=by simpa using hd
   refine U rfl ⟨l1,_,_,U rfl ⟨rfl,aW.of u,ha,_,U rfl ⟨rfl,⟨by lia,by lia⟩,_,U rfl ⟨rfl,(show(0:Int)<2 by decide),rfl,U rfl ?_⟩⟩⟩⟩;refine i4 (λ_=>?_) (λ_=>?_)
   ·refine⟨ls rfl,λl2 av=>?_⟩;have J:=aj (o:=.lst [V.str "age",V.str "size",V.str "old"]) (ak.refl I) av;have v:aG I l2 (.lst [V.str "age",V.str "size",V.str "old"]) l2=some (.lst [V.str "age",V.str "size",V.str "old"]):=af;generalize aG I l2 (.lst [V.str "age",V.str "size",V.str "old"])=H3 at J v⊢
    walk_at "a"
    refine⟨l2,_,_,U rfl ⟨rfl,aW.of v,Ic,aq ?_⟩⟩;have ax:=J _ _ (f _ _ hL);refine U rfl ⟨.inl ⟨rfl,_,aW.of ax⟩,U rfl (U rfl ⟨ls rfl,λl3 a2=>?_⟩)⟩;have s4:=aj (o:=.lst [V.int 24,V.int 240,V.int 2400]) (ak.refl H3) a2;have y:aG H3 l3 (.lst [V.int 24,V.int 240,V.int 2400]) l3=some (.lst [V.int 24,V.int 240,V.int 2400]):=af;generalize aG H3 l3 (.lst [V.int 24,V.int 240,V.int 2400])=H4 at s4 y⊢;obtain⟨k,a3,a5⟩:=lY (ns:=[24,240,2400]) (i:=0+(i:Int)) (by lia) (by show _<(3:Int);lia);have ba:k=24\/k=240\/k=2400:=by simpa using a3
    have bi:=bH (n/k) (show(0:Int)<10 by decide);refine U rfl ⟨l3,_,_,U rfl ⟨rfl,aW.of y,a5,_,U rfl ⟨rfl,⟨by lia,by lia⟩,_,U rfl ⟨rfl,(show(0:Int)<10 by decide),_,U rfl ⟨rfl,ls rfl,λt ht=>?_⟩⟩⟩⟩⟩;have s5:=aj (o:=.tup [.str (zh (n/8) i),.int (n/k%10-5)]) (ak.refl H4) ht;have aa:aG H4 t (.tup [.str (zh (n/8) i),.int (n/k%10-5)]) t=some (.tup [.str (zh (n/8) i),.int (n/k%10-5)]):=af;have s6:ak Z (aG H4 t (.tup [.str (zh (n/8) i),.int (n/k%10-5)])):=((f.trans J).trans s4).trans s5;generalize aG H4 t (.tup [.str (zh (n/8) i),.int (n/k%10-5)])=H5 at s6 aa⊢;have ad:=s6 _ _ hL;have a6:=Paired.length G;have L:=b.length_le;rw[b_,b_,n7]at L;refine rA ad (by rw[gg];lia) ⟨bC (s1.trans s6) hl,g++[(zh (n/8) i,n/k%10-5)],_,af,?_,?_,λm hm=>?_,_,_,rfl⟩
    ·exact qO (.lst ad) (Paired.snoc (qO (.of s6) G) ⟨t,rfl,aX.of aa⟩)
    ·rw[g6,Md,g6];exact b.append (Mz _)
    ·rcases List.mem_append.mp hm with z|z
     ·exact hb m z
     ·rw[List.mem_singleton.mp z];show-100<=n/k%10-5/\n/k%10-5<=100;lia
   ·refine⟨s1.trans f,g,r,f _ _ hL,qO (.of f) G,?_,hb,_,_,rfl⟩;rw[Md,g6];exact b.trans (List.sublist_append_left _ _)
  ·rintro S Z⟨s1,g,r,hL,G,b,hb,W,X,rfl⟩
   walk_at "a"
   refine G3 (λS H'=>ak H H'/\(KD λ(l':Addr)(g:List (Str×Int))(r:List V)=>Lq (H' l'=some (.lst r)) (Paired (Jm K H') r g) ((g.map (·.1)).Sublist (IC++(List.range 3).map (zh (n/8)))) ((∀m∈g,-100<=m.2/\m.2<=100)) (EL λW X=>S=[some (.int n),some (.ref l'),W,X]))) ?A (λN hJ=>?B)
   case B=>
    refine i4 (λ_=>?_) (λ_=>hJ _ _ ⟨s1,l,g,r,hL,G,b.trans (List.sublist_append_right _ _),hb,_,_,rfl⟩);refine⟨5,rfl,by lia,by lia,λD hD=>?_⟩;refine gC (K:=K) (lo:=0) (n:=5) (λj p H'=>ak Z H'/\H' D=some (.lst p)/\Paired (Jm K H') p (Au.take j)) ⟨aj (ak.refl _) hD,af,.nil⟩ ?_ ?_
    ·rintro j p I hj⟨f,M,c⟩;obtain⟨e1,e2⟩:=D8 j (q_.mpr hj);have R:=Paired.length c;rw[i_]at R;refine aq (gU (bq ?_));refine U rfl ⟨"abcde",_,97+j,rfl,rfl,cS (by decide+kernel),e1,"mark",(⟨#[97+j]⟩:Str),rfl,rfl,cS (show 4+1<=65536 by decide),U rfl (r2 ⟨ls rfl,λt ht=>?_⟩)⟩;have J:=aj (o:=.tup [.str (("mark":Str)++(⟨#[97+j]⟩:Str)),.int (0+(j:Int)-2)]) (ak.refl I) ht;have al:=J _ _ M;refine⟨al,by rw[gg];lia,lf hj ⟨bC (f.trans J) hD,af,?_⟩⟩;rw[f9 e2];exact qO (.lst al) (Paired.snoc (qO (.of J) c) ⟨t,rfl,aX.of af⟩)
    ·rintro p I⟨f,M,c⟩;have R:=Paired.length c;have a6:=Paired.length G;have L:=b.length_le;rw[b_,b_,n7]at L;refine U rfl ⟨D,l,_,U rfl ⟨rfl,M,f _ _ hL,by rw[gg];have:p.length=5:=R;lia,λl' an=>aq (hJ _ _ ⟨aj (s1.trans f) an,l',Au++g,_,af,qO (.new an) (CV c (qO (.of f) G)),?_,λm hm=>?_,_,_,rfl⟩)⟩⟩
     ·rw[g6];exact(Mz _).append b
     ·rcases List.mem_append.mp hm with z|z
      ·exact(by decide:∀m∈Au,-100<=m.2/\m.2<=100) m z
      ·exact hb m z
   case A=>rintro S I⟨f,l',a7,bl,a8,c,e,ap,W,X,rfl⟩;refine U rfl ⟨l',U rfl (.inl ⟨aW.of a8,λt ht=>?_⟩)⟩;obtain⟨m1,m2⟩:=DA (n/8);have bt:=pA;exact q t a7 _ (aj f ht) (J3 (qO (.new ht) c) (aX.of af)) (λm hm=>⟨zQ (m2 _ (e.subset (j_.mpr ⟨m,hm,rfl⟩))),by have:=ap m hm;lia,by have:=ap m hm;lia⟩) (e.nodup m1) (by have:=e.length_le;rw[b_]at this;exact this)
end
def xc(p:Nat):Prop:=p∈[2,3,5,7,11,13,17,37,61]
def xc.le(h:xc p):2<=p/\p<=61:=(by decide:∀p∈[2,3,5,7,11,13,17,37,61],2<=p/\p<=61) p h
structure zN where
 pl:Addr
 L:Addr
 T:Addr
def BT(K:MP)(H:Hp)(v:V)(t:Str×Nat):Prop:=∃b,v=.ref b/\aX K H b [.str t.1,.int t.2]
def BT.kp(e:Kp H H')(h:Paired (BT K H) c d):Paired (BT K H') c d:=Paired.mapP h λv m⟨b,h1,h2⟩=>⟨b,h1,e.tq h2⟩
structure pi(K:MP)(H:Hp)(p:Nat)(sa:Int)(ns:MV)(ts:List (Str×Nat))(A:zN):Prop where
 pl:H A.pl=some (.lst [.int p,.int sa,.ref A.L,.ref A.T])L:H A.L=some (.lst (ns.map V.str))T:∃us,H A.T=some (.lst us)/\Paired (BT K H) us ts
 n1:A.pl≠A.L
 n2:A.pl≠A.T
 n3:A.L≠A.T
def pi.same(h:pi K H p sa ns c A)(e:ak H H'):pi K H' p sa ns c A:=let⟨b,h1,h2⟩:=h.T
 ⟨e _ _ h.pl,e _ _ h.L,⟨b,e _ _ h1,BT.kp (.of e) h2⟩,h.n1,h.n2,h.n3⟩
inductive E9(K:MP)(vs:List V)(H:Hp)(Q:VK)(_E:XK):Prop|mk(sc:Addr)(ns:M0)(_:vs=[.ref sc])(_:aW K H sc (ns.map V.int))(_:ns.length<=63)(_:∀(A:zN)(p:Nat)(sa:Int)H',ak H H'->H A.pl=none->H A.L=none->H A.T=none->pi K H' p sa [] [] A->xc p->(0<=sa/\sa<=aY)->Q (.ref A.pl) H')
section
def Dc(T:Txt K mg a):aO P w K mg base cZ 3 a.v0.x a.v0.d ["_law_script"] (E9 K):=by
 refine T.v0.ok sN λW A outer s H vs Q E F h=>?_
 ·obtain⟨G,ns,rfl,I,J,q⟩:=h;have X:=dZ;refine⟨_,(ag (bd 1 sN.nd (pc T.ff (dz T) F (ac (Y 0) (ac ae (ac ae O))))) (ag (bd 2 sN.nd (iq K (a0 (ac ae (ac ae (ac ae (ac ae (ac ae (ac ae (ac ae (ac (iq K (a0 (ac ae (ac ae (ac ae (ac ae O))))) (au aT (au bA (Y 1) ae) ae)) O))))))))) (au aT (Y 1) ae))) (ah (az (a0 (ac (Y 2) (ac (au aT (pc T.iW (qN T) F (ac (Y 0) (ac ae O))) (au bP (au tF ae ae) ae)) (ac (a0 O) (ac (a0 O) O))))))))),?_⟩
  refine U rfl ⟨G,ns,0,1,rfl,I,J,⟨by decide,by decide⟩,⟨by decide,by decide⟩,aq ?_⟩;generalize cT ns 0 1=x;refine⟨ls rfl,λj r=>?_⟩;have M:=aj (o:=.lst [V.int 5,V.int 17,V.int 37,V.int 61]) (ak.refl H) r;have e:aG H j (.lst [V.int 5,V.int 17,V.int 37,V.int 61]) j=some (.lst [V.int 5,V.int 17,V.int 37,V.int 61]):=af;generalize aG H j (.lst [V.int 5,V.int 17,V.int 37,V.int 61])=t at M e⊢;have b4:=bH (x/8) (show(0:Int)<4 by decide);have u:=bH x (show(0:Int)<8 by decide);obtain⟨z,v,N⟩:=lY (ns:=[5,17,37,61]) b4.1 b4.2
  walk_at "a"
  refine⟨j,_,_,U rfl ⟨rfl,aW.of e,N,ls rfl,λk y=>?_⟩⟩;have R:=aj (o:=.lst [V.int 2,V.int 3,V.int 5,V.int 7,V.int 11,V.int 13,V.int 7,V.int z]) (ak.refl t) y;have f:aG t k (.lst [V.int 2,V.int 3,V.int 5,V.int 7,V.int 11,V.int 13,V.int 7,V.int z]) k=some (.lst [V.int 2,V.int 3,V.int 5,V.int 7,V.int 11,V.int 13,V.int 7,V.int z]):=af;generalize aG t k (.lst [V.int 2,V.int 3,V.int 5,V.int 7,V.int 11,V.int 13,V.int 7,V.int z])=l at R f⊢;obtain⟨p,B,g⟩:=lY (ns:=[2,3,5,7,11,13,7,z]) u.1 u.2
  walk_at "a"
  refine⟨k,_,_,U rfl ⟨rfl,aW.of f,g,aq ?_⟩⟩;have C:xc p.toNat/\0<=p:=by
   simp only[o_,nn,z4]at B v;rcases B with rfl|rfl|rfl|rfl|rfl|rfl|rfl|rfl
   all_goals try exact⟨by unfold xc;decide,by decide⟩
   rcases v with rfl|rfl|rfl|rfl
   all_goals exact⟨by unfold xc;decide,by decide⟩
  obtain⟨pn,rfl⟩:∃n:Nat,p=n:=⟨p.toNat,by lia⟩;clear B g f v N e b4 u;have i:=M.trans R;refine U rfl (U rfl ⟨G,ns,1,rfl,i.seq I,J,?_⟩);generalize vS ns 1=c;have Z:=bH c (show(0:Int)<aY+1 by lia)
  walk_at "a"
  refine⟨ls rfl,λL D=>⟨ls rfl,λT m=>⟨ls rfl,λpl b=>?_⟩⟩⟩;have n3:L≠T:=λz=>by rw[<-z,af]at m;cases m
  have n2:pl≠T:=λz=>by rw[z,af]at b;cases b
  have n1:pl≠L:=λz=>by rw[z,ao n3,af]at b;cases b
  have S:ak l (aG (aG l L (.lst [])) T (.lst [])):=aj (aj (ak.refl l) D) m;exact q ⟨pl,L,T⟩ pn _ _ (i.trans (aj S b)) ((i.trans S).free b) (i.free D) ((i.trans (aj (ak.refl l) D)).free m) ⟨af,by show aG _ _ _ L=_;rw[ao (mu n1),ao n3,af];rfl,⟨[],by show aG _ _ _ T=_;rw[ao (mu n2),af],.nil⟩,n1,n2,n3⟩ C.1 ⟨Z.1,by lia⟩
end
def gY(M:cA):List Str:=M.las.map d8.nm
def i3(M:cA):List (Str×Nat):=M.trs.map λt=>(t.nm,t.arms.length)
def ym(M:cA):Dd->List Str|.layer nm _=>gY M++[nm]|_=>gY M
def vg(M:cA):Dd->List (Str×Nat)|.trial x=>i3 M++[(x.nm,x.arms.length)]|_=>i3 M
def fw(ns:M0)(m:Nat):List Str:=(List.range m).map λ(j:Nat)=>du j (cT ns 3 4)
def Ey(ns:M0)(h:m<=4):(fw ns m).length=m/\(fw ns m).Nodup/\∀x∈fw ns m,Wd x:=by
 refine⟨by unfold fw;rw[b_,n7],?_,λx c=>?_⟩
 ·refine List.pairwise_iff_getElem.mpr λi j hi b d e=>?_;unfold fw at e hi b;rw[b_,n7]at hi b;rw[ME,ME,List.getElem_range,List.getElem_range]at e;have:=py ⟨by lia,by lia⟩ ⟨by lia,by lia⟩ e;lia
 ·obtain⟨j,_,rfl⟩:=j_.mp c;exact rT _ _
structure m9(ns:M0)(M:cA):Prop where
 ln:∀(i:Nat)(l:d8),M.las[i]?=some l->l.nm=du i (cT ns 1 2)/\l.sl=(cT ns 2 2+i)%((M.p:Int)+1)tn:∀(j:Nat)(t:eK),M.trs[j]?=some t->t.nm=du j (cT ns 2 3)/\t.arms=fw ns t.arms.length
 lp:M.las.length<=M.p+1
 pr:xc M.p
def Gz(ns:M0)(M:cA):Dd->Prop|.layer nm sl=>nm=du M.las.length (cT ns 1 2)/\sl=(cT ns 2 2+M.las.length)%((M.p:Int)+1)/\M.las.length<M.p+1|.trial x=>x.nm=du M.trs.length (cT ns 2 3)/\x.arms=fw ns x.arms.length|.deal _ z b=>z<=100/\∀x∈b,x<=9|.share _ b=>∀x∈b,x<=1000|.hold _ z=>z<=1000|_=>True
def KF(A:zN)(H H':Hp):Prop:=∃o,(o=A.L\/o=A.T)/\Kp H H'/\∀b ob,H b=some ob->b≠o->H' b=some ob
theorem KF.of(s:ak H H'):KF A H H':=⟨A.L,.inl rfl,.of s,λb o h _=>s b o h⟩
def iY(K:MP)(ns:M0)(M:cA)(A:zN)(H:Hp)(Q:VK):Prop:=∀(b:Addr)(d:Dd)(c:List V)(H':Hp),KF A H H'->aX K H' b c->kh K H' M d c->pi K H' M.p M.salt (ym M d) (vg M d) A->Gz ns M d->(M.trs.length=0->d.adds=true)->Q (.ref b) H'
def iY.same(h:iY K ns M A H Q)(s:ak H c):iY K ns M A c Q:=λe d f H'⟨o,h1,h2,h3⟩=>h e d f H' ⟨o,h1,Kp.trans (.of s) h2,λb ob g=>h3 b ob (s b ob g)⟩
structure vb(K:MP)(H:Hp)(sc:Addr)(ns:M0)(M:cA)(A:zN)(c:Nat):Prop where
 sq:aW K H sc (ns.map V.int)len:ns.length<=63
 pl:pi K H M.p M.salt (gY M) (i3 M) A
 ok:nN M c
 pn:m9 ns M
 n4:∀H',(∀b ob,H b=some ob->b≠A.L->H' b=some ob)->aW K H' sc (ns.map V.int)
theorem vb.same(h:vb K H d ns M A c)(s:ak H H'):vb K H' d ns M A c:=⟨s.seq h.sq,h.len,h.pl.same s,h.ok,h.pn,λf g=>h.n4 f λb ob e n=>g b ob (s b ob e) n⟩
def pi.addL(h:pi K H p sa ns c A)(x:Str):pi K (aG H A.L (.lst (ns.map V.str++[.str x]))) p sa (ns++[x]) c A:=let⟨b,h1,h2⟩:=h.T
 ⟨by rw[ao h.n1];exact h.pl,by rw[af,g6];rfl,⟨b,by rw[ao (mu h.n3)];exact h1,BT.kp (.lst h.L) h2⟩,h.n1,h.n2,h.n3⟩
def pi.addT(h:pi K H p sa ns c A)(h1:H A.T=some (.lst d))(h2:Paired (BT K H) d c)(e:aX K H b [.str x.1,.int x.2]):pi K (aG H A.T (.lst (d++[.ref b]))) p sa ns (c++[x]) A:=⟨by rw[ao h.n2];exact h.pl,by rw[ao h.n3];exact h.L,⟨_,af,BT.kp (.lst h1) (Paired.snoc h2 ⟨b,rfl,e⟩)⟩,h.n1,h.n2,h.n3⟩
inductive Ht(K:MP)(vs:List V)(H:Hp)(Q:VK)(_E:XK):Prop|mk(sc:Addr)(ns:M0)(M:cA)(A:zN)(c:Nat)(_:vs=[.ref sc,.ref A.pl])(_:vb K H sc ns M A c)(_:M.las.length<4)(_:M.las.length<M.p+1)(_:iY K ns M A H Q)
def A7(h:m9 ns M)(c:M.las.length<M.p+1):(cT ns 2 2+M.las.length)%((M.p:Int)+1)∉M.las.map d8.sl:=λz=>by obtain⟨l,hm,e⟩:=j_.mp z;obtain⟨i,hi⟩:=ji.mp hm;have b:=(d_.mp hi).1;rw[(h.ln i l hi).2]at e;have h1:((cT ns 2 2+M.las.length)-(cT ns 2 2+i))%((M.p:Int)+1)=0:=Int.emod_eq_emod_iff_emod_sub_eq_zero.mp e.symm;rw[show(cT ns 2 2+(M.las.length:Int))-(cT ns 2 2+i)=((M.las.length-i:Nat):Int)by lia,Int.emod_eq_of_lt (by lia) (by lia)]at h1;lia
def Br(h:m9 ns M)(c:M.las.length<4):du M.las.length (cT ns 1 2)∉M.las.map d8.nm:=λz=>by obtain⟨l,hm,e⟩:=j_.mp z;obtain⟨i,hi⟩:=ji.mp hm;have b:=(d_.mp hi).1;rw[(h.ln i l hi).1]at e;have:=py ⟨by lia,by lia⟩ ⟨by lia,by lia⟩ e;lia
def AQ(h:m9 ns M)(c:M.trs.length<10):du M.trs.length (cT ns 2 3)∉M.trs.map eK.nm:=λz=>by obtain⟨t,hm,e⟩:=j_.mp z;obtain⟨i,hi⟩:=ji.mp hm;have b:=(d_.mp hi).1;rw[(h.tn i t hi).1]at e;have:=py ⟨by lia,by lia⟩ ⟨by lia,by lia⟩ e;lia
section
def uQ(T:Txt K mg a):aO P w K mg base cZ 3 a.gL.x a.gL.d ["_law_script","_law_plan_here"] (Ht K):=by
 refine T.gL.ok jr λC A outer s H I Q E r h=>?_
 ·obtain⟨z,ns,M,A,c,rfl,g,h4,B,q⟩:=h;refine⟨_,(ag (bd 2 jr.nd (aB (aI K rfl) (by rfl) T.bD L2.aL (ac (iq K (Y 1) ae) O))) (ag (bd 3 jr.nd (pc T.qY (tN T) r (ac (Y 2) (ac (pc T.ff (dz T) r (ac (Y 0) (ac ae (ac ae O)))) O)))) (ag (aV (cI K rfl PySem.F.plainAttrs_list PySem.F.slot_list_append PySem.F.type_list_append d0 (iq K (Y 1) ae) (ac (Y 3) O))) (ah (az (cf (ac ay (ac (Y 3) (ac (au aT (au bP (pc T.ff (dz T) r (ac (Y 0) (ac ae (ac ae O)))) (Y 2)) (au bP (iq K (Y 1) ae) ae)) O))))))))),?_⟩
  have t:=g.pl;have j:(gY M).length=M.las.length:=b_ _;refine U rfl (rX (aW.of t.pl) (am (k:=2) rfl) ⟨_,M.las.length,rfl,.inl ⟨_,aW.of t.L,by rw[b_,j]⟩,aq ?_⟩);refine U rfl (U rfl ⟨z,ns,1,2,rfl,g.sq,g.len,⟨by decide,by decide⟩,⟨by decide,by decide⟩,(M.las.length:Int),cT ns 1 2,rfl,λl m=>aq ?_⟩);have f:=t.same m;refine U rfl (rX (aW.of f.pl) (am (k:=2) rfl) ⟨.inl ⟨rfl,_,aW.of f.L⟩,U rfl (rA f.L (by rw[b_,j,gg];lia) ?_)⟩);have i:=f.addL (du M.las.length (cT ns 1 2));have kp:Kp l (aG l A.L (.lst ((gY M).map V.str++[.str (du M.las.length (cT ns 1 2))]))):=.lst f.L;have u:∀b ob,l b=some ob->b≠A.L->aG l A.L (.lst ((gY M).map V.str++[.str (du M.las.length (cT ns 1 2))])) b=some ob:=λb ob e n=>by rw[ao n];exact e
  generalize aG l A.L (.lst ((gY M).map V.str++[.str (du M.las.length (cT ns 1 2))]))=D at i kp u⊢;have bs:=bH (cT ns 2 2+M.las.length) (show(0:Int)<(M.p:Int)+1 by lia);refine U rfl (U rfl ⟨z,ns,2,2,rfl,(g.same m).n4 _ u,g.len,⟨by decide,by decide⟩,⟨by decide,by decide⟩,U rfl (r2 (U rfl (rX (aW.of i.pl) (am (k:=0) rfl) (r2 (r2 ⟨by show(0:Int)<(M.p:Int)+1;lia,ls rfl,λG v=>?_⟩)))))⟩);have y:=aj (o:=.tup [.str "layer",.str (du M.las.length (cT ns 1 2)),.int ((cT ns 2 2+M.las.length)%((M.p:Int)+1))]) (ak.refl D) v;exact q G (.layer _ _) _ _ ⟨A.L,.inl rfl,Kp.trans (.of m) (Kp.trans kp (.of y)),λb ob e n=>y _ _ (u b ob (m _ _ e) n)⟩ (aX.of af) (.layer (rT _ _) (Br g.pn h4) ⟨bs.1,by lia⟩ (A7 g.pn B) h4) (i.same y) ⟨rfl,rfl,B⟩ λ_=>rfl
end
inductive Hs(K:MP)(vs:List V)(H:Hp)(Q:VK)(_E:XK):Prop|mk(sc:Addr)(ns:M0)(M:cA)(A:zN)(c:Nat)(n:Int)(_:vs=[.ref sc,.ref A.pl,.int n])(_:vb K H sc ns M A c)(_:M.trs.length<10)(_:0<M.las.length)(_:iY K ns M A H Q)
section
def uP(T:Txt K mg a):aO P w K mg base cZ 5 a.gK.x a.gK.d ["_law_script","_law_plan_here","_law_number"] (Hs K):=by
 refine T.gK.ok cF λda A outer s H vs Q E N h=>?_
 ·obtain⟨sc,ns,M,A,c,n,rfl,R,h10,dc,q⟩:=h;refine⟨_,(ag (bd 3 cF.nd (aB (aI K rfl) (by rfl) T.bD L2.aL (ac (iq K (Y 1) ae) O))) (ag (bd 4 cF.nd (pc T.qY (tN T) N (ac (Y 3) (ac (pc T.ff (dz T) N (ac (Y 0) (ac ae (ac ae O)))) O)))) (ag (bd 5 cF.nd (iq K (iq K (Y 1) ae) (au aT (Y 2) (aB (aI K rfl) (by rfl) T.bD L2.aL (ac (iq K (Y 1) ae) O))))) (ag (bd 6 cF.nd (bx (fV K rfl) (by rfl) T.df L2.bE (ac (qj kT [] [9] [9] (ai kE) (bO 9) (eS rfl T.gp (ac (au bP ae (au aT (au bA (Y 2) ae) ae)) O)) (λcl C s₀ H₀ ex=>⟨(mG kT [] 9),bJ,(pc T.qY (tN T) N (ac (Y 9) (ac (pc T.ff (dz T) N (ac (Y 0) (ac ae (ac ae O)))) O)))⟩)) O))) (ag (bd 7 cF.nd (a0 O)) (ag (bd 8 cF.nd (pc T.ff (dz T) N (ac (Y 0) (ac (au bP ae (Y 3)) (ac ae O))))) (ag (eC mo rfl (eS rfl T.gp (ac (aB (qk rfl) (by rfl) T.Do L2.uf (ac ae (ac (Y 3) O))) O)) (tz 9 cF.nd) (ah (aM (aD aQ (au aT (au bA (Y 8) (iq K (a0 (ac ae (ac ae (ac ae (ac ae (ac ae (ac ae (ac ae (ac ae O))))))))) (Y 9))) ae) ae (aE _)) (ah (aV (cI K rfl PySem.F.plainAttrs_list PySem.F.slot_list_append PySem.F.type_list_append d0 (Y 7) (ac (cC K (iq K (iq K (Y 1) ae) (au fE (au fE (Y 3) ae) (Y 9))) ae) O)))) aC))) (ag (aV (cI K rfl PySem.F.plainAttrs_list PySem.F.slot_list_append PySem.F.type_list_append d0 (iq K (Y 1) ae) (ac (cf (ac (Y 4) (ac (aB (aI K rfl) (by rfl) T.bD L2.aL (ac (Y 6) O)) O))) O))) (ah (az (cf (ac ay (ac (Y 4) (ac (Y 5) (ac (Y 6) (ac (bv ((x9 T 3).mono (by decide)) N rfl T.eA.m T.eA.f.kp T.eA.b .nil be (ac (au bA (Y 2) ae) (ac ae O))) (ac (bx (fV K rfl) (by rfl) T.df L2.bE (ac (Y 7) O)) O))))))))))))))))),?_⟩
  have hP:=R.pl;have di:(gY M).length=M.las.length:=b_ _;have bN:(i3 M).length=M.trs.length:=b_ _;have l4:=R.ok.l4;obtain⟨us,an,ap⟩:=hP.T;have as:=Paired.length ap;rw[bN]at as;refine U rfl (rX (aW.of hP.pl) (am (k:=3) rfl) ⟨_,M.trs.length,rfl,.inl ⟨_,aW.of an,by rw[as]⟩,aq ?_⟩);refine U rfl (U rfl ⟨sc,ns,2,3,rfl,R.sq,R.len,⟨by decide,by decide⟩,⟨by decide,by decide⟩,(M.trs.length:Int),cT ns 2 3,rfl,λH1 s1=>aq ?_⟩);have p:=R.same s1;have bl:=bH n (show(0:Int)<((gY M).length:Int)by lia);obtain⟨hm,b0,b8⟩:=iQ bl.1 bl.2;refine U rfl (rX (aW.of p.pl.pl) (am (k:=2) rfl) (U rfl (U rfl (rX (aW.of p.pl.pl) (am (k:=2) rfl) ⟨_,(gY M).length,rfl,.inl ⟨_,aW.of p.pl.L,by rw[b_]⟩,_,U rfl ⟨rfl,by show(0:Int)<((gY M).length:Int);lia,A.L,_,_,U rfl ⟨rfl,aW.of p.pl.L,b8,aq ?_⟩⟩⟩))));have b4:=bH (n/4) (show(0:Int)<4 by decide)
  walk_at "a"
  refine⟨by lia,by lia,λD hD=>?_⟩;obtain⟨m,b9,a5,em⟩:∃m:Nat,1<=m/\m<=4/\1+n/4%4=(m:Int):=⟨(1+n/4%4).toNat,by lia,by lia,by lia⟩;rw[em];obtain⟨al,a6,aw⟩:=Ey ns a5;refine gC (K:=K) (lo:=0) (n:=(m:Int).toNat) (λj S H'=>ak H1 H'/\H' D=some (.lst S)/\S=((fw ns m).take j).map V.str) ⟨aj (ak.refl _) hD,af,rfl⟩ ?_ ?_
  ·rintro j S H2 hj⟨s2,G,rfl⟩;rw[show(0:Int)+(j:Int)=((j:Nat):Int)by lia];refine aq (gU (bq ?_));refine U rfl (U rfl ⟨sc,ns,3,4,rfl,s2.seq p.sq,R.len,⟨by decide,by decide⟩,⟨by decide,by decide⟩,(j:Int),cT ns 3 4,rfl,λH3 s3=>?_⟩);refine⟨s3 _ _ G,by rw[b_,i_,gg];lia,lf hj ⟨bC (s2.trans s3) hD,af,?_⟩⟩;have e:(fw ns m)[j]?=some (du (j:Int) (cT ns 3 4)):=by unfold fw;rw[ge,List.getElem?_range (by lia)];rfl
   rw[f9 e,g6];rfl
  ·rintro S H2⟨s2,G,rfl⟩;rw[g_ (by lia)]at G;refine⟨D,U rfl (.inl ⟨aW.of G,λar a7=>aq ?_⟩)⟩;have s3:ak H1 (aG H2 ar (.tup ((fw ns m).map V.str))):=aj s2 a7;have W:aG H2 ar (.tup ((fw ns m).map V.str)) ar=some (.tup ((fw ns m).map V.str)):=af;generalize aG H2 ar (.tup ((fw ns m).map V.str))=H3 at s3 W⊢;clear G s2 a7 hD;refine⟨ls rfl,λsl av=>aq ?_⟩;have s4:=aj (o:=.lst []) s3 av;have X:=aj (o:=.lst []) (ak.refl H3) av _ _ W;have a8:=p.same s4;have Z:H1 sl=none:=s3.free av;have aa:aG H3 sl (.lst []) sl=some (.lst []):=af;generalize aG H3 sl (.lst [])=H4 at s4 X a8 aa⊢;refine U rfl (U rfl (r2 ⟨sc,ns,5+(M.trs.length:Int),7,rfl,a8.sq,R.len,⟨by lia,by lia⟩,⟨by decide,by decide⟩,aq ?_⟩));generalize cT ns (5+(M.trs.length:Int)) 7=mr;have ax:(if(M.trs.length:Int)<8 then(M.trs.length:Int)else 8)=((min 8 M.trs.length:Nat):Int):=by split<;>lia
   refine U rfl ⟨_,U rfl (U rfl ⟨by rw[ax];lia,by rw[ax];lia,?_⟩)⟩;rw[ax];have nd:((M.trs.map eK.nm).reverse).Nodup:=List.pairwise_reverse.mpr (List.Pairwise.imp (λh=>mu h) R.ok.tn);have dt:((M.trs.map eK.nm).reverse).length=M.trs.length:=by rw[LK,b_]
   refine j8 (lo:=0) (n:=((min 8 M.trs.length:Nat):Int).toNat) (λi σ H'=>ak H1 H'/\H' ar=some (.tup ((fw ns m).map V.str))/\∃(B:MV),H' sl=some (.lst (B.map V.str))/\B.Sublist ((M.trs.map eK.nm).reverse.take i)/\∃v9,σ=[some (.ref sc),some (.ref A.pl),some (.int n),some (.int M.trs.length),some (.str (du M.trs.length (cT ns 2 3))),some (.str hm),some (.ref ar),some (.ref sl),some (.int mr),v9]) ⟨s4,X,[],aa,List.nil_sublist _,_,rfl⟩ ?_ ?_
   ·rintro i σ H5 hi⟨I,g,B,hz,l,v9,rfl⟩;have dK:i<min 8 M.trs.length:=by lia
    refine aq ?_;refine U rfl ⟨ls rfl,λl5 cc=>?_⟩;refine mH cc λH6 u ci=>?_;obtain⟨d,hd,ha⟩:=lY (ns:=[1,4,16,64,256,1024,4096,16384]) (i:=0+(i:Int)) (by lia) (by show _<(8:Int);lia);have ck:=(by decide:∀d∈[(1:Int),4,16,64,256,1024,4096,16384],0<d/\d<1073741824) d hd;refine U rfl ⟨l5,_,_,U rfl ⟨rfl,aW.of ci,ha,_,U rfl ⟨rfl,ck,_,U rfl ⟨rfl,(show(0:Int)<4 by decide),rfl,U rfl ?_⟩⟩⟩⟩;have a2:(M.trs.map eK.nm).reverse[i]?=(M.trs.map eK.nm)[M.trs.length-1-i]?:=by rw[List.getElem?_reverse (by rw[b_];lia),b_]
    obtain⟨t,ht⟩:∃t,M.trs[M.trs.length-1-i]?=some t:=⟨_,fy (by lia)⟩;rw[ge,ht]at a2;refine i4 (λ_=>?_) (λ_=>⟨I.trans u,u _ _ g,B,u _ _ hz,by rw[f9 a2];exact l.trans (List.sublist_append_left _ _),_,rfl⟩);have c0:=p.pl.same (I.trans u);obtain⟨v,hv,b,rfl,hb⟩:=wA ap (M.trs.length-1-i) (t.nm,t.arms.length) (by unfold i3;rw[ge,ht];rfl);have y:=(s1.trans (I.trans u)) _ _ an;have ba:=u _ _ hz;have a3:=l.length_le;rw[i_]at a3;refine U rfl ⟨.inl ⟨rfl,_,aW.of ba⟩,U rfl (rX (aW.of c0.pl) (am (k:=3) rfl) (U rfl (r2 (U rfl (r2 ?_)))))⟩;refine rX (aW.of y) (by rw[show(M.trs.length:Int)-1-(0+(i:Int))=((M.trs.length-1-i:Nat):Int)by lia];exact am hv) (rX (ak.tseq (s1.trans (I.trans u)) hb) (am (k:=0) rfl) ?_);refine rA ba (by rw[b_,gg];lia) ⟨bC (I.trans u) Z,by rw[ao λz=>by rw[z,hz]at g;cases g];exact u _ _ g,B++[t.nm],by rw[af,g6];rfl,?_,_,rfl⟩;rw[f9 a2];exact l.append (Mz _)
   ·rintro σ H5⟨I,g,B,hz,l,v9,rfl⟩;have bb:=p.same I;have c1:=(l.trans (LS _ _)).nodup nd;have a3:=l.length_le;rw[i_]at a3;have J:=(s1.trans I) _ _ an;have bc:=BT.kp (.of (s1.trans I)) ap;refine U rfl (rX (aW.of bb.pl.pl) (am (k:=3) rfl) ⟨.inl ⟨rfl,_,aW.of J⟩,U rfl (U rfl ⟨_,m,rfl,.inr ⟨_,aX.of g,by rw[b_,al]⟩,ls rfl,λb hb=>?_⟩)⟩);refine mH hb λH6 u c2=>?_;have y:=u _ _ J;refine rA y (by rw[as,gg];lia) ?_;have bi:=(bb.pl.same u).addT y (BT.kp (.of u) bc) (x:=(du M.trs.length (cT ns 2 3),m)) (aX.of c2);have kp:Kp H6 (aG H6 A.T (.lst (us++[.ref b]))):=.lst y;have hk:∀d ob,H6 d=some ob->d≠A.T->aG H6 A.T (.lst (us++[.ref b])) d=some ob:=λd ob e n=>by rw[ao n];exact e
    generalize aG H6 A.T (.lst (us++[.ref b]))=H7 at bi kp hk⊢;have nT:∀{d:Addr},H1 d=none->d≠A.T:=λh z=>by rw[z,p.pl.T.choose_spec.1]at h;cases h
    have bt:=hk _ _ (u _ _ g) (λz=>by rw[z,J]at g;cases g);have c3:=hk _ _ (u _ _ hz) (nT Z);refine U rfl (U rfl (U rfl (U rfl (r2 ⟨⟨by decide,by decide⟩,n/16,3,rfl,by decide,by decide,λr rv H8 s8 N ho hh hc=>?_⟩))));refine U rfl ⟨sl,U rfl (.inl ⟨aW.of (s8 _ _ c3),λsh c4=>⟨ls rfl,λdv bz=>?_⟩⟩)⟩;obtain⟨ra,rfl⟩:∃ra,rv=.ref ra:=by cases N<;>exact⟨_,rfl⟩
    have s9:=aj (o:=.tup (B.map V.str)) (ak.refl H8) c4;have ad:aG H8 sh (.tup (B.map V.str)) sh=some (.tup (B.map V.str)):=af;generalize aG H8 sh (.tup (B.map V.str))=H9 at s9 ad bz⊢;have sa:=aj (o:=.tup [.str "trial",.str (du M.trs.length (cT ns 2 3)),.str hm,.ref ar,.ref ra,.ref sh]) (ak.refl H9) bz;refine q dv (.trial ⟨du M.trs.length (cT ns 2 3),hm,fw ns m,r,B,false,false,[]⟩) _ _ ⟨A.T,.inr rfl,Kp.trans (.of ((s1.trans I).trans u)) (Kp.trans kp (.of ((s8.trans s9).trans sa))),λd ob e n=>((s8.trans s9).trans sa) _ _ (hk d ob (((s1.trans I).trans u) _ _ e) n)⟩ (aX.of af) ?_ ?_ ⟨rfl,by show fw ns m=fw ns (fw ns m).length;rw[al]⟩ λ_=>rfl
    ·exact .trial ⟨rT _ _,b0,by rw[al];exact b9,by rw[al];exact a5,a6,aw,by show r.hgt<=6;lia,by show B.length<=8;lia⟩ (AQ R.pn h10) (aX.of (((s8.trans s9).trans sa) _ _ bt)) ((N.kp (.of s9)).kp (.of sa)) (by show r.cnt<=30;lia) ho (λw hw=>zQ ((by decide+kernel:∀w∈KL,I0 w=true) w hw)) (by decide) (aX.of (sa _ _ ad)) (λz hz=>Lw.mp (LA (l.subset hz))) c1 rfl rfl rfl h10
    ·have:=bi.same ((s8.trans s9).trans sa);rw[show vg M (.trial ⟨du M.trs.length (cT ns 2 3),hm,fw ns m,r,B,false,false,[]⟩)=i3 M++[(du M.trs.length (cT ns 2 3),m)]by show i3 M++[(_,(fw ns m).length)]=_;rw[al]];exact this
end
inductive Cf(K:MP)(vs:List V)(H:Hp)(Q:VK)(_E:XK):Prop|mk(sc:Addr)(ns:M0)(M:cA)(A:zN)(c:Nat)(k n:Int)(_:vs=[.ref sc,.ref A.pl,.int k,.int n])(_:vb K H sc ns M A c)(_:(0<=k/\k<=1000))(_:0<M.trs.length)(_:iY K ns M A H Q)
def vb.tri(h:vb K H l ns M A c)(h1:H A.T=some (.lst d))(h2:Paired (BT K H) d (i3 M))(n:Int)(h0:0<M.trs.length):∃(t:eK)(b:Addr),t∈M.trs/\u4 d (n%(d.length:Int))=some (.ref b)/\aX K H b [.str t.nm,.int t.arms.length]:=by
 have e:=Paired.length h2;rw[show(i3 M).length=M.trs.length from b_ _]at e;have b:=bH n (show(0:Int)<(d.length:Int)by lia);have f:(n%(d.length:Int)).toNat<M.trs.length:=by lia
 obtain⟨v,g,i,rfl,j⟩:=wA h2 (n%(d.length:Int)).toNat _ (by unfold i3;rw[ge,fy f];rfl);refine⟨_,i,Ly f,?_,j⟩;have:=am g;rw[show(((n%(d.length:Int)).toNat:Nat):Int)=n%(d.length:Int)by lia]at this;exact this
section
def Bh(T:Txt K mg a):aO P w K mg base cZ 3 a.qw.x a.qw.d ["_law_script","_law_plan_here","_law_k","_law_number"] (Cf K):=by
 refine T.qw.ok ml λal A outer s H vs Q E hr h=>?_
 ·obtain⟨sc,ns,M,A,c,k,n,rfl,r,⟨k0,k1⟩,h0,q⟩:=h;refine⟨_,(ag (bd 4 ml.nd (iq K (iq K (Y 1) ae) (au aT (Y 3) (aB (aI K rfl) (by rfl) T.bD L2.aL (ac (iq K (Y 1) ae) O))))) (ag (wz (i:=5) ml.nd rfl (.inr rfl) (au bP (au bA (iq K (Y 1) ae) ae) ae)) (ag (aM (aD aQ (au aT (au bA (Y 3) ae) ae) ae (aE _)) (ag (bd 6 ml.nd (bx (fV K rfl) (by rfl) T.df L2.bE (ac (qj mi ["_law_j"] [] [7] (ai oy) (bO 7) (eS rfl T.gp (ac (cC K (Y 4) ae) O)) (λcl C s₀ H₀ ex=>⟨(mG mi ["_law_j"] 7),bJ,(au bP ae (au aT (pc T.ff (dz T) hr (ac (Y 0) (ac (Y 2) (ac (au bP ae (Y 7)) O)))) ae))⟩)) O))) (ah (az (cf (ac ay (ac (cC K (Y 4) ae) (ac (au aT (pc T.ff (dz T) hr (ac (Y 0) (ac (Y 2) (ac ae O)))) (au bP (iq K (Y 1) ae) ae)) (ac (Y 6) O)))))))) aC) (ah (az (cf (ac ay (ac (cC K (Y 4) ae) (ac (bx (fV K rfl) (by rfl) T.df L2.bE (ac (qj mi ["_law_j"] [] [7] (ai oy) (bO 7) (eS rfl T.gp (ac (cC K (Y 4) ae) O)) (λcl C s₀ H₀ ex=>⟨(mG mi ["_law_j"] 7),bJ,(au aT (pc T.ff (dz T) hr (ac (Y 0) (ac (Y 2) (ac (au bP ae (Y 7)) O)))) (Y 5))⟩)) O)) O))))))))),?_⟩
  have J:=r.pl;have hp:=r.pn.pr.le;have an:=pA;obtain⟨us,L,X⟩:=J.T;have aa:=Paired.length X;rw[show(i3 M).length=M.trs.length from b_ _]at aa;obtain⟨t,b,B,ad,hb⟩:=r.tri L X n h0;have a1:=(r.ok.tr t B).a1;have a4:=(r.ok.tr t B).a4;refine U rfl (rX (aW.of J.pl) (am (k:=3) rfl) (U rfl (U rfl (rX (aW.of J.pl) (am (k:=3) rfl) ⟨_,us.length,rfl,.inl ⟨_,aW.of L,rfl⟩,_,U rfl ⟨rfl,by show(0:Int)<(us.length:Int);lia,A.T,_,_,U rfl ⟨rfl,aW.of L,ad,aq ?_⟩⟩⟩))));refine U rfl (rX (aW.of J.pl) (am (k:=0) rfl) (r2 ⟨⟨by decide,by decide⟩,_,U rfl ⟨rfl,aq (Bl (qa ?_ (λN hN=>?_)))⟩⟩))
  rotate_left
  ·walk_at "a"
   refine i4 (λ_=>?_) (λ_=>hN);refine U rfl (rX hb (am (k:=1) rfl) (U rfl ⟨by lia,by lia,λD Z=>?_⟩));refine gC (K:=K) (lo:=0) (n:=(t.arms.length:Int).toNat) (λj g H'=>ak H H'/\H' D=some (.lst g)/\∃(e:M0),g=e.map V.int/\e.length=j/\∀x∈e,1<=x/\x<=9) ⟨aj (ak.refl _) Z,af,[],rfl,rfl,λx l=>nomatch l⟩ ?_ ?_
   ·rintro j g R hj⟨F,m,e,rfl,u,f⟩;refine aq (gU (bq ?_));have b9:=bH (cT ns k (11+(0+(j:Int)))) (show(0:Int)<9 by decide);refine U rfl (U rfl (U rfl (r2 ⟨sc,ns,k,11+(0+(j:Int)),rfl,F.seq r.sq,r.len,⟨by lia,by lia⟩,⟨by lia,by lia⟩,_,U rfl ⟨rfl,(show(0:Int)<9 by decide),_,U rfl ⟨rfl,?_⟩⟩⟩)));refine⟨m,by rw[b_,gg];lia,lf hj ⟨bC F Z,af,e++[1+cT ns k (11+(0+(j:Int)))%9],by rw[g6];rfl,by rw[gV,u];rfl,λx l=>?_⟩⟩;rcases List.mem_append.mp l with z|z
    ·exact f x z
    ·rw[List.mem_singleton.mp z];lia
   ·rintro g R⟨F,m,e,rfl,u,f⟩;refine⟨D,U rfl (.inl ⟨aW.of m,λG S=>aq ?_⟩)⟩;have y:=aj (o:=.tup (e.map V.int)) F S;have v:aG R G (.tup (e.map V.int)) G=some (.tup (e.map V.int)):=af;generalize aG R G (.tup (e.map V.int))=H3 at y v⊢;have bz:=bH (cT ns k 10) (show(0:Int)<(M.p:Int)+1 by lia);refine U rfl (rX (ak.tseq y hb) (am (k:=0) rfl) (U rfl (U rfl ⟨sc,ns,k,10,rfl,y.seq r.sq,r.len,⟨by lia,by lia⟩,⟨by decide,by decide⟩,U rfl (rX (aW.of (y _ _ J.pl)) (am (k:=0) rfl) (r2 (r2 ⟨by show(0:Int)<(M.p:Int)+1;lia,U rfl ⟨ls rfl,λdv I=>?_⟩⟩)))⟩)));have W:=aj (o:=.tup [.str "deal",.str t.nm,.int (cT ns k 10%((M.p:Int)+1)),.ref G]) (ak.refl H3) I;exact q dv (.deal t _ e) _ _ (.of (y.trans W)) (aX.of af) (.deal B ⟨bz.1,by lia⟩ (aX.of (W _ _ v)) (by lia) λx l=>⟨(f x l).1,by have:=(f x l).2;lia⟩) (J.same (y.trans W)) ⟨by lia,λx l=>(f x l).2⟩ λz=>absurd z (md h0)
  ·refine U rfl (rX hb (am (k:=0) rfl) (U rfl (rX hb (am (k:=1) rfl) (U rfl ⟨by lia,by lia,λD Z=>?_⟩))));refine gC (K:=K) (lo:=0) (n:=(t.arms.length:Int).toNat) (λj g H'=>ak H H'/\H' D=some (.lst g)/\∃(e:M0),g=e.map V.int/\e.length=j/\∀x∈e,0<=x/\x<=1000) ⟨aj (ak.refl _) Z,af,[],rfl,rfl,λx l=>nomatch l⟩ ?_ ?_
   ·rintro j g R hj⟨F,m,e,rfl,u,f⟩;refine aq (gU (bq ?_));have b9:=bH (cT ns k (11+(0+(j:Int)))) (show(0:Int)<(M.p:Int)/2+2 by lia);refine U rfl (U rfl (U rfl (r2 ⟨sc,ns,k,11+(0+(j:Int)),rfl,F.seq r.sq,r.len,⟨by lia,by lia⟩,⟨by lia,by lia⟩,U rfl (r2 ⟨(by show(0:Int)<(M.p:Int)/2+2;lia),?_⟩)⟩)));refine⟨m,by rw[b_,gg];lia,lf hj ⟨bC F Z,af,e++[cT ns k (11+(0+(j:Int)))%((M.p:Int)/2+2)],by rw[g6];rfl,by rw[gV,u];rfl,λx l=>?_⟩⟩;rcases List.mem_append.mp l with z|z
    ·exact f x z
    ·rw[List.mem_singleton.mp z];exact⟨b9.1,by omega⟩
   ·rintro g R⟨F,m,e,rfl,u,f⟩;refine⟨D,U rfl (.inl ⟨aW.of m,λG S=>⟨ls rfl,λdv I=>?_⟩⟩)⟩;have y:=aj (o:=.tup (e.map V.int)) F S;have v:aG R G (.tup (e.map V.int)) G=some (.tup (e.map V.int)):=af;generalize aG R G (.tup (e.map V.int))=H3 at y v I⊢;have W:=aj (o:=.tup [.str "share",.str t.nm,.ref G]) (ak.refl H3) I;exact q dv (.share t e) _ _ (.of (y.trans W)) (aX.of af) (.share B (aX.of (W _ _ v)) (by omega) λx l=>(f x l).1) (J.same (y.trans W)) (λx l=>(f x l).2) λz=>absurd z (md h0)
end
def tW(F G:Prop)(hc:∀Q:Bool->Hp->Prop,(F->Q true H)->(G->Q false H)->c d H Q)(h1:F->∀N:St->Hp->Prop,t {D with nx:=N} d H)(h2:G->u D d H):AT (ET c t vh) u D d H:=hc _ (λf=>bq (h1 f _)) λg=>bU (h2 g)
def zF{c:Prop}[Decidable c]{Q:Bool->Hp->Prop}{H:Hp}(h1:c->Q true H)(h2:¬c->Q false H):Q (decide c) H:=by
 by_cases e:c
 ·rw[j1 e];exact h1 e
 ·rw[j2 e];exact h2 e
def Lh{te:TE}{g:TG}{u:TS}{D:lg}{c:St}(h1:∀Q:VK,(∀b,Q (.bl b) H)->te c H Q)(h2:∀b,g (.bl b) c H (u D)):AT (xn te g) u D c H:=h1 _ h2
inductive Fi(K:MP)(vs:List V)(H:Hp)(Q:VK)(_E:XK):Prop|mk(sc:Addr)(ns:M0)(M:cA)(A:zN)(c:Nat)(k:Int)(_:vs=[.ref sc,.ref A.pl,.int k])(_:vb K H sc ns M A c)(_:(0<=k/\k<=1000))(_:iY K ns M A H Q)
section
def Dh(T:Txt K mg a):aO P w K mg base cZ 6 a.wa.x a.wa.d ["_law_script","_law_plan_here","_law_k"] (Fi K):=by
 refine T.wa.ok jL λan A outer s H vs Q E F h=>?_
 ·obtain⟨R,ns,M,A,c,k,rfl,v,⟨k0,k1⟩,q0⟩:=h;refine⟨_,(ag (bd 3 jL.nd (pc T.ff (dz T) F (ac (Y 0) (ac (Y 2) (ac ae O))))) (ag (bd 4 jL.nd (au bA (Y 3) ae)) (ag (bd 5 jL.nd (pc T.qz (Bj T) F (ac (au aT (Y 4) ae) (ac (pc T.ff (dz T) F (ac (Y 0) (ac ae (ac ae O)))) O)))) (ag (aM (PW.pt (gc (aD aQ (aB (aI K rfl) (by rfl) T.bD L2.aL (ac (iq K (Y 1) ae) O)) ae (aE _)) (eB (PW.pt (nz (aD aQ (au aT (Y 3) ae) ae (aE _)) (kF (aD xS (aB (aI K rfl) (by rfl) T.bD L2.aL (ac (iq K (Y 1) ae) O)) (aB (qk rfl) (by rfl) T.Do L2.uf (ac (au bP (iq K (Y 1) ae) ae) (ac ae O))) (aE _)))))))) (ah (az (pc T.gL (uQ T) F (ac (Y 0) (ac (Y 1) O))))) aC) (ag (bd 6 jL.nd (cw (bR xS (Y 2) ae (aE _)) (dk (bR xS (au aT (Y 3) ae) ae (aE _))))) (ag (aM (PW.pt (gc (aD aQ (aB (aI K rfl) (by rfl) T.bD L2.aL (ac (iq K (Y 1) ae) O)) ae (aE _)) (eB (PW.pt (nz (aD xS (aB (aI K rfl) (by rfl) T.bD L2.aL (ac (iq K (Y 1) ae) O)) ae (aE _)) (kF (PW.pt (gc (aP K rfl (Y 6) (λ_=>rfl)) (eB (aD aQ (au aT (Y 3) ae) ae (aE _))))))))))) (ah (az (pc T.gK (uP T) F (ac (Y 0) (ac (Y 1) (ac (Y 4) O)))))) aC) (ag (aM (aD xS (au aT (Y 3) ae) ae (aE _)) (ah (az (pc T.qw (Bh T) F (ac (Y 0) (ac (Y 1) (ac (Y 2) (ac (Y 4) O))))))) aC) (ag (bd 7 jL.nd (cC K (iq K (iq K (Y 1) ae) (au aT (au bA (Y 4) ae) (aB (aI K rfl) (by rfl) T.bD L2.aL (ac (iq K (Y 1) ae) O)))) ae)) (ag (aM (aD aQ (au aT (Y 3) ae) ae (aE _)) (ah (az (cf (ac ay (ac (iq K (iq K (Y 1) ae) (au aT (Y 4) (aB (aI K rfl) (by rfl) T.bD L2.aL (ac (iq K (Y 1) ae) O)))) (ac (au aT (au bA (Y 4) ae) (au bP (au bA (iq K (Y 1) ae) ae) ae)) O)))))) aC) (ag (aM (aD aQ (au aT (Y 3) ae) ae (aE _)) (ah (az (cf (ac (iq K (a0 (ac ay (ac ay (ac ay O)))) (au aT (Y 4) ae)) (ac (Y 7) O))))) aC) (ag (aM (aD aQ (au aT (Y 3) ae) ae (aE _)) (ah (az (cf (ac (iq K (a0 (ac ay (ac ay (ac ay (ac ay O))))) (au aT (Y 4) ae)) (ac (Y 7) O))))) aC) (ag (aM (aD aQ (au aT (Y 3) ae) ae (aE _)) (ah (az (cf (ac ay (ac (Y 5) (ac (Y 7) O)))))) aC) (ah (az (cf (ac ay (ac (Y 5) (ac (pc T.qy (Bi T) F (ac (au bA (Y 4) ae) O)) O)))))))))))))))))),?_⟩
  refine U rfl (U rfl ⟨R,ns,k,5,rfl,v.sq,v.len,⟨by lia,by lia⟩,⟨by decide,by decide⟩,aq ?_⟩);have x0:=(FT ns k 5).1;generalize cT ns k 5=x at x0⊢;refine U rfl (r2 ⟨⟨by decide,by decide⟩,aq ?_⟩);refine U rfl (r2 ⟨(show(0:Int)<7 by decide),U rfl ⟨R,ns,4,6,rfl,v.sq,v.len,⟨by decide,by decide⟩,⟨by decide,by decide⟩,x/16%7,cT ns 4 6,rfl,λg H1 s1 hg=>aq (Bl ?_)⟩⟩);have J:=v.same s1;have q:=q0.same s1;clear v q0 s1;have i:=J.pl;have hp:=J.pn.pr.le;obtain⟨us,C,S⟩:=i.T;have aa:=Paired.length S;rw[show(i3 M).length=M.trs.length from b_ _]at aa;have W:((gY M).map V.str).length=M.las.length:=by rw[b_];exact b_ _
  refine tW (M.las.length<4/\M.las.length<M.p+1) (0<M.las.length) (λQ n r=>?_) (λf N=>?_) (λh0=>?_)
  ·refine U rfl (rX (aW.of i.pl) (am (k:=2) rfl) ⟨_,M.las.length,rfl,.inl ⟨_,aW.of i.L,W.symm⟩,rfl,U rfl (i4 (λe=>n ⟨by lia,by lia⟩) (λe=>?_))⟩);refine U rfl (r2 ⟨(show(0:Int)<16 by decide),rfl,U rfl (i4 (λ_=>?_) (λ_=>r (by lia)))⟩);refine U rfl (rX (aW.of i.pl) (am (k:=2) rfl) ⟨_,M.las.length,rfl,.inl ⟨_,aW.of i.L,W.symm⟩,U rfl (rX (aW.of i.pl) (am (k:=0) rfl) (r2 ⟨(M.p:Int)+1,4,rfl,r2 (U rfl (zF (λf=>n ?_) (λ_=>r (by lia))))⟩))⟩)
   split at f<;>lia
  ·exact U rfl (U rfl ⟨R,ns,M,A,c,rfl,J,f.1,f.2,q⟩)
  refine Lh (λQ h=>?_) (λeb=>aq ?_)
  ·refine U rfl (r2 (U rfl (lS (λ_=>?_) (λ_=>h _))));exact U rfl (r2 ⟨(show(0:Int)<16 by decide),_,U rfl ⟨rfl,h _⟩⟩)
  refine tW (M.trs.length<10) (0<M.trs.length) (λQ n r=>?_) (λf N=>?_) (λD=>?_)
  ·refine U rfl (rX (aW.of i.pl) (am (k:=3) rfl) ⟨_,us.length,rfl,.inl ⟨_,aW.of C,rfl⟩,rfl,U rfl (i4 (λe=>n (by lia)) (λe=>?_))⟩);have g0:0<M.trs.length:=by lia
   refine U rfl (rX (aW.of i.pl) (am (k:=3) rfl) ⟨_,us.length,rfl,.inl ⟨_,aW.of C,rfl⟩,_,U rfl ⟨rfl,U rfl (lS (λe=>?_) (λ_=>r g0))⟩⟩);have f:=n (by lia);refine U rfl ⟨eb,rfl,tT (λ_=>f) (λ_=>?_)⟩;exact U rfl (r2 ⟨(show(0:Int)<16 by decide),rfl,U rfl (zF (λ_=>f) (λ_=>r g0))⟩)
  ·exact U rfl (U rfl (U rfl ⟨R,ns,M,A,c,x/16,rfl,J,f,h0,q⟩))
  refine tW True True (λQ n r=>?_) (λ_ N=>?_) (λ_=>?_)
  ·exact U rfl (r2 ⟨(show(0:Int)<16 by decide),_,U rfl ⟨rfl,U rfl (zF (λ_=>n trivial) (λ_=>r trivial))⟩⟩)
  ·exact U rfl (U rfl (U rfl (U rfl ⟨R,ns,M,A,c,k,x/16,rfl,J,⟨k0,k1⟩,D,q⟩)))
  obtain⟨t,b,y,ad,hb⟩:=J.tri C S (x/16/7) D;refine U rfl (rX (aW.of i.pl) (am (k:=3) rfl) (U rfl (r2 ⟨⟨by decide,by decide⟩,U rfl (rX (aW.of i.pl) (am (k:=3) rfl) ⟨_,us.length,rfl,.inl ⟨_,aW.of C,rfl⟩,_,U rfl ⟨rfl,by show(0:Int)<(us.length:Int);lia,A.T,_,_,U rfl ⟨rfl,aW.of C,ad,rX hb (am (k:=0) rfl) (aq (Bl ?_))⟩⟩⟩)⟩)));refine tW True True (λQ n r=>?_) (λ_ N=>?_) (λ_=>?_)
  ·exact U rfl (r2 ⟨(show(0:Int)<16 by decide),rfl,U rfl (zF (λ_=>n trivial) (λ_=>r trivial))⟩)
  ·have ap:(gY M).length=M.las.length:=b_ _;have bl:=bH (x/16) (show(0:Int)<((gY M).length:Int)by lia);have bz:=bH (x/16/4) (show(0:Int)<(M.p:Int)/3+2 by lia);obtain⟨nm,al,X⟩:=iQ bl.1 bl.2;obtain⟨l,hl,rfl⟩:=j_.mp al;refine U rfl (rX (aW.of i.pl) (am (k:=2) rfl) (U rfl (U rfl (rX (aW.of i.pl) (am (k:=2) rfl) ⟨_,(gY M).length,rfl,.inl ⟨_,aW.of i.L,by rw[b_]⟩,_,U rfl ⟨rfl,by show(0:Int)<((gY M).length:Int);lia,A.L,_,_,U rfl ⟨rfl,aW.of i.L,X,?_⟩⟩⟩))));refine U rfl (r2 ⟨⟨by decide,by decide⟩,U rfl (rX (aW.of i.pl) (am (k:=0) rfl) (r2 ⟨⟨by decide,by decide⟩,_,U rfl ⟨rfl,r2 ⟨by show(0:Int)<(M.p:Int)/3+2;lia,ls rfl,λB m=>?_⟩⟩⟩))⟩);have j:=aj (o:=.tup [.str "hold",.str l.nm,.int (x/16/4%((M.p:Int)/3+2))]) (ak.refl H1) m;exact q B (.hold l _) _ _ (.of j) (aX.of af) (.hold hl bz.1) (i.same j) (by show x/16/4%((M.p:Int)/3+2)<=1000;omega) λz=>absurd z (md D)
  refine tW True True (λQ n r=>?_) (λ_ N=>?_) (λ_=>?_)
  ·exact U rfl (r2 ⟨(show(0:Int)<16 by decide),rfl,U rfl (zF (λ_=>n trivial) (λ_=>r trivial))⟩)
  ·refine⟨ls rfl,λl1 G=>?_⟩;refine mH G λZ u I=>?_;have bm:=bH (x/16) (show(0:Int)<3 by decide);obtain⟨z,hz,X⟩:=iQ (zs:=["pause","go","go"]) bm.1 bm.2;refine U rfl (r2 ⟨(show(0:Int)<3 by decide),l1,_,_,U rfl ⟨rfl,aW.of I,X,U rfl ⟨ls rfl,λB m=>?_⟩⟩⟩);have j:=aj (o:=.tup [.str z,.str t.nm]) (ak.refl Z) m;simp only[o_,nn,z4]at hz;rcases hz with rfl|rfl|rfl
   ·exact q B (.pause t true) _ _ (.of (u.trans j)) (aX.of af) (.pause y) (i.same (u.trans j)) trivial λz=>absurd z (md D)
   all_goals exact q B (.pause t false) _ _ (.of (u.trans j)) (aX.of af) (.go y) (i.same (u.trans j)) trivial λz=>absurd z (md D)
  refine tW True True (λQ n r=>?_) (λ_ N=>?_) (λ_=>?_)
  ·exact U rfl (r2 ⟨(show(0:Int)<16 by decide),rfl,U rfl (zF (λ_=>n trivial) (λ_=>r trivial))⟩)
  ·refine⟨ls rfl,λl1 G=>?_⟩;refine mH G λZ u I=>?_;have bm:=bH (x/16) (show(0:Int)<4 by decide);obtain⟨z,hz,X⟩:=iQ (zs:=["close","pause","go","go"]) bm.1 bm.2;refine U rfl (r2 ⟨(show(0:Int)<4 by decide),l1,_,_,U rfl ⟨rfl,aW.of I,X,U rfl ⟨ls rfl,λB m=>?_⟩⟩⟩);have j:=aj (o:=.tup [.str z,.str t.nm]) (ak.refl Z) m;simp only[o_,nn,z4]at hz;rcases hz with rfl|rfl|rfl|rfl
   ·exact q B (.close t) _ _ (.of (u.trans j)) (aX.of af) (.close y) (i.same (u.trans j)) trivial λz=>absurd z (md D)
   ·exact q B (.pause t true) _ _ (.of (u.trans j)) (aX.of af) (.pause y) (i.same (u.trans j)) trivial λz=>absurd z (md D)
   all_goals exact q B (.pause t false) _ _ (.of (u.trans j)) (aX.of af) (.go y) (i.same (u.trans j)) trivial λz=>absurd z (md D)
  refine tW True True (λQ n r=>?_) (λ_ N=>?_) (λ_=>?_)
  ·exact U rfl (r2 ⟨(show(0:Int)<16 by decide),rfl,U rfl (zF (λ_=>n trivial) (λ_=>r trivial))⟩)
  ·refine U rfl (U rfl ⟨ls rfl,λB m=>?_⟩);have j:=aj (o:=.tup [.str "bar",.str g,.str t.nm]) (ak.refl H1) m;exact q B (.bar g t) _ _ (.of j) (aX.of af) (.bar hg y) (i.same j) trivial λz=>absurd z (md D)
  refine U rfl (U rfl (r2 ⟨⟨by decide,by decide⟩,x/16/7,rfl,λmt ms Z u hm h3 h4 h5=>⟨ls rfl,λB m=>?_⟩⟩));have j:=aj (o:=.tup [.str "visit",.str g,.ref mt]) (ak.refl Z) m;exact q B (.visit g) _ _ (.of (u.trans j)) (aX.of af) (.visit hg (hm.kp (.of j)) h3 h4 h5) (i.same (u.trans j)) trivial λz=>absurd z (md D)
end
theorem vN:∀c:List Str,(c.map V.str).all lW=true|[]=>rfl|w::r=>by rw[lh,E2,vN r];rfl
theorem As(w:Str):∀c:List Str,nI (.str w) (c.map V.str)=true↔w∈c
 |[]=>by simp[nI]|u::r=>by
  have b:=As w r;unfold nI at b⊢;rw[lh,t4,MO,b,o_];have:Gi (.str u) (.str w)=true↔w=u:=by show(u==w)=true↔_;rw[beq_iff_eq];exact⟨Eq.symm,Eq.symm⟩
  rw[this]
def fY(n:Int):Str:=((toString n:String):Str)
def Ru.txt:Ru->Str|.any=>Txt.join " " ["any"]|.has w=>Txt.join " " ["has",w]|.least w n=>Txt.join " " ["least",w,fY n]|.not q=>Txt.join " " ["not",q.txt]|.both q r=>Txt.join " " ["both",q.txt,r.txt]|.either q r=>Txt.join " " ["either",q.txt,r.txt]
def Ru.fit:Ru->Prop|.any=>True|.has w=>w.length<=100|.least w n=>w.length<=100/\-aY<=n/\n<=aY|.not q=>q.fit|.both q r=>q.fit/\r.fit|.either q r=>q.fit/\r.fit
theorem iS.fit{d:MV}(c:∀w∈d,w.length<=100):∀{r:Ru},iS d r->r.fit|_,.any=>trivial|_,.has h=>c _ h|_,.least h a b=>⟨c _ h,a,b⟩|_,.not q=>q.fit c|_,.both q r=>⟨q.fit c,r.fit c⟩|_,.either q r=>⟨q.fit c,r.fit c⟩
def wE{n:Int}(h:-aY<=n/\n<=aY):n.natAbs<10^31:=by
 rw[AR]at h;have:(10:Nat)^31=10000000000000000000000000000000:=by decide+kernel
 lia
def jl{n:Int}(h:-aY<=n/\n<=aY):n.natAbs.log2<1920:=tR (k_ (wE h) (by decide+kernel))
def io{n:Int}(h:-aY<=n/\n<=aY):(fY n).length<=32:=Ar (by decide) (wE h)
def w5:(Str.ofString " ").length=1:=by decide+kernel
def aJ(t:Str)(r:MV):k9 (t::r)=t.length+k9 r:=by unfold k9;rw[lh,List.sum_cons]
def fm:k9 []=0:=rfl
def Ke(x:Str):(Txt.join " " [x]).length<=x.length+1:=by have:=ip " " [x];rw[aJ,fm,w5]at this;simpa using this
def GS(x y:Str):(Txt.join " " [x,y]).length<=x.length+y.length+2:=by have:=ip " " [x,y];rw[aJ,aJ,fm,w5]at this;simp at this;lia
def DQ(x y z:Str):(Txt.join " " [x,y,z]).length<=x.length+y.length+z.length+3:=by have:=ip " " [x,y,z];rw[aJ,aJ,aJ,fm,w5]at this;simp at this;lia
theorem Ru.txt_len:∀{r:Ru},r.fit->r.txt.length+9<=100*2^r.hgt
 |.any,_=>by
  show(Txt.join " " ["any"]).length+9<=100*2^1;have:=Ke "any";have:(Str.ofString "any").length=3:=by decide+kernel
  lia|.has w,h=>by
  show(Txt.join " " ["has",w]).length+9<=100*2^1;have:=GS "has" w;have:(Str.ofString "has").length=3:=by decide+kernel
  have h:w.length<=100:=h;lia|.least w n,h=>by
  show(Txt.join " " ["least",w,fY n]).length+9<=100*2^1;have:=DQ "least" w (fY n);have:(Str.ofString "least").length=5:=by decide+kernel
  have h:w.length<=100/\-aY<=n/\n<=aY:=h;have:=io h.2;lia|.not q,h=>by
  show(Txt.join " " ["not",q.txt]).length+9<=100*2^(q.hgt+1);have:=GS "not" q.txt;have:(Str.ofString "not").length=3:=by decide+kernel
  have:=q.txt_len h;rw[D2];lia|.both q r,h=>by
  show(Txt.join " " ["both",q.txt,r.txt]).length+9<=100*2^(max q.hgt r.hgt+1);have:=DQ "both" q.txt r.txt;have:(Str.ofString "both").length=4:=by decide+kernel
  have:=q.txt_len h.1;have:=r.txt_len h.2;have h1:2^q.hgt<=2^max q.hgt r.hgt:=oD (by decide) (G_ _ _);have h2:2^r.hgt<=2^max q.hgt r.hgt:=oD (by decide) (D_ _ _);rw[D2];lia|.either q r,h=>by
  show(Txt.join " " ["either",q.txt,r.txt]).length+9<=100*2^(max q.hgt r.hgt+1);have:=DQ "either" q.txt r.txt;have:(Str.ofString "either").length=6:=by decide+kernel
  have:=q.txt_len h.1;have:=r.txt_len h.2;have h1:2^q.hgt<=2^max q.hgt r.hgt:=oD (by decide) (G_ _ _);have h2:2^r.hgt<=2^max q.hgt r.hgt:=oD (by decide) (D_ _ _);rw[D2];lia
def Ru.txt_le{r:Ru}(h:r.fit)(h6:r.hgt<=6):r.txt.length<=6400:=by have h1:=r.txt_len h;have h2:2^r.hgt<=2^6:=oD (by decide) h6;lia
inductive yO(K:MP)(H:Hp)(n:Nat):V->Str->Prop|str(z:Str):z.length<=100->yO K H n (.str z) z|num(i:Int):-aY<=i/\i<=aY->yO K H n (.int i) (fY i)|rule{q:Ru}{v:V}:dP K H q v->q.hgt<=n->q.hgt<=6->q.fit->yO K H n v q.txt
def yO.len{n:Nat}{v:V}{t:Str}(h:yO K H n v t):t.length<=6400:=by cases h with|str _ h=>omega|num i h=>have:=io h;omega|rule _ _ h6 b=>exact Ru.txt_le b h6
theorem mq{n:Nat}:∀{d:List V}{c:MV},Paired (yO K H n) d c->k9 c<=6400*c.length|_,_,.nil=>fx _|_,_,.cons r t=>by have:=mq t;have:=r.len;rw[aJ,il];lia
def tm{n:Nat}{r:Ru}{j:V}(h:dP K H r j)(hh:r.hgt<=n+1)(h6:r.hgt<=6)(c:r.fit):∃(a:Addr)(hd:Str)(g:List V)(e:MV),j=.ref a/\aX K H a (.str hd::g)/\hd.length<=100/\Paired (yO K H n) g e/\e.length<=2/\r.txt=Txt.join " " (hd::e)/\((hd∈(["not","both","either"]:MV)/\∀(i:Nat)v t,g[i]?=some v->e[i]?=some t->∃q:Ru,dP K H q v/\q.hgt<=n/\q.hgt<=6/\q.fit/\t=q.txt)\/(hd∉(["not","both","either"]:MV)/\∀(i:Nat)v t,g[i]?=some v->e[i]?=some t->(v=.str t)\/∃z,v=.int z/\(-aY<=z/\z<=aY)/\t=fY z)):=by cases h with
 |any h=>refine⟨_,"any",[],[],rfl,h,by decide+kernel,.nil,by decide,rfl,.inr ⟨by decide+kernel,λi v t b=>?_⟩⟩;simp at b|has h=>rename_i a w;have c:w.length<=100:=c;refine⟨_,"has",[.str w],[w],rfl,h,by decide+kernel,.cons (.str w c) .nil,by simp,rfl,.inr ⟨by decide+kernel,λi v t b d=>?_⟩⟩;cases i with|zero=>cases b;cases d;exact .inl rfl|succ i=>simp at b
 |least h=>
  rename_i a w z;have c:w.length<=100/\-aY<=z/\z<=aY:=c;refine⟨_,"least",[.str w,.int z],[w,fY z],rfl,h,by decide+kernel,.cons (.str w c.1) (.cons (.num z c.2) .nil),by simp,rfl,.inr ⟨by decide+kernel,λi v t b d=>?_⟩⟩;rcases i with _|_|i
  ·cases b;cases d;exact .inl rfl
  ·cases b;cases d;exact .inr ⟨z,rfl,c.2,rfl⟩
  ·simp at b|not h h1=>rename_i a q v;have k:q.hgt+1<=n+1:=hh;have f:q.hgt+1<=6:=h6;have c:q.fit:=c;refine⟨_,"not",[v],[q.txt],rfl,h,by decide+kernel,.cons (.rule h1 (by omega) (by omega) c) .nil,by simp,rfl,.inl ⟨by decide+kernel,λi u t b d=>?_⟩⟩;cases i with|zero=>cases b;cases d;exact⟨q,h1,by omega,by omega,c,rfl⟩|succ i=>simp at b
 |both h h1 h2=>
  rename_i a q r v u;have k:max q.hgt r.hgt+1<=n+1:=hh;have f:max q.hgt r.hgt+1<=6:=h6;have c:q.fit/\r.fit:=c;refine⟨_,"both",[v,u],[q.txt,r.txt],rfl,h,by decide+kernel,.cons (.rule h1 (by omega) (by omega) c.1) (.cons (.rule h2 (by omega) (by omega) c.2) .nil),by simp,rfl,.inl ⟨by decide+kernel,λi u t b d=>?_⟩⟩;rcases i with _|_|i
  ·cases b;cases d;exact⟨q,h1,by omega,by omega,c.1,rfl⟩
  ·cases b;cases d;exact⟨r,h2,by omega,by omega,c.2,rfl⟩
  ·simp at b|either h h1 h2=>
  rename_i a q r v u;have k:max q.hgt r.hgt+1<=n+1:=hh;have f:max q.hgt r.hgt+1<=6:=h6;have c:q.fit/\r.fit:=c;refine⟨_,"either",[v,u],[q.txt,r.txt],rfl,h,by decide+kernel,.cons (.rule h1 (by omega) (by omega) c.1) (.cons (.rule h2 (by omega) (by omega) c.2) .nil),by simp,rfl,.inl ⟨by decide+kernel,λi u t b d=>?_⟩⟩;rcases i with _|_|i
  ·cases b;cases d;exact⟨q,h1,by omega,by omega,c.1,rfl⟩
  ·cases b;cases d;exact⟨r,h2,by omega,by omega,c.2,rfl⟩
  ·simp at b
inductive sf(K:MP)(n:Nat)(vs:List V)(H:Hp)(Q:VK)(_E:XK):Prop|mk(r:Ru)(rv:V)(_:vs=[rv])(_:dP K H r rv)(_:r.hgt<=n)(_:r.hgt<=6)(_:r.fit)(_:∀H',ak H H'->Q (.str r.txt) H')
theorem jf{c d:Type}{R:c->d->Prop}:∀{a:List c}{b:List d},Paired R a b->∀(i:Nat)(m:c),a[i]?=some m->∃v,b[i]?=some v/\R m v|_,_,.nil,i,m,h=>by simp at h|_,_,.cons r t,0,m,h=>by simp at h;exact U rfl (h▸r)|_,_,.cons r t,i+1,m,h=>by simp at h;obtain⟨v,h1,h2⟩:=jf t i m h;exact⟨v,by simpa using h1,h2⟩
theorem iK{c d:Type}{R:c->d->Prop}:∀{a:List c}{b:List d},Paired R a b->a.length=b.length|_,_,.nil=>rfl|_,_,.cons _ t=>by rw[il,il,iK t]
def gw{c:MV}{i:Nat}{t:Str}(h:c[i]?=some t):(c.take i).map V.str++[V.str t]=(c.take (i+1)).map V.str:=by rw[qr,h,g6];rfl
def wO{hd:Str}{c:MV}(h1:hd.length<=100)(h2:k9 c<=6400*c.length)(h3:c.length<=2):JoinOk " " (hd::c)=true:=by refine rP ?_;rw[aJ,w5,il];lia
def IN{x:V}{c:List V}:lc (x::c) (some 1) none=c:=by unfold lc HT.fi;simp
section
theorem oH(T:Txt K mg a):∀n:Nat,aO P w K mg base cZ (n+1) a.c5.x a.c5.d ["rule"] (sf K n)
 |0=>by
  refine T.c5.f.ok nV (λe H Q E h=>?_) (λy A outer s H e Q E S h=>?_)
  ·obtain⟨r,B,rfl,_⟩:=h;rfl
  ·obtain⟨r,B,rfl,_,hh,_⟩:=h;have:=r.hgt_pos;lia|n+1=>by
  have ih:=oH T n;refine T.c5.f.ok nV (λe H Q E h=>?_) (λy A outer s H e Q E S h=>?_)
  ·obtain⟨r,B,rfl,_⟩:=h;rfl
  ·obtain⟨r,B,rfl,hR,hh,h6,hf,q⟩:=h;refine⟨_,(ah (az (cI K rfl PySem.F.plainAttrs_str PySem.F.slot_str_join PySem.F.type_str_join (eD K rfl) ay (ac (qj ["rule"] ["part"] [] [1] (ai lC) (bO 1) (dw K rfl (Y 0)) (λcl C s₀ H₀ ex=>⟨(mG ["rule"] ["part"] 1),bJ,(xO (aP K rfl (aB (cK K rfl) (by rfl) T.a9 L2.aR (ac (Y 1) (ac (ie rfl T.df L2.bE) O))) (λ_=>rfl)) (bv ih S rfl T.c5.m T.c5.f.kp T.c5.b .nil be (ac (Y 1) O)) (bx eV (by rfl) T.kZ L2.dY (ac (Y 1) O)))⟩)) O)))),?_⟩
   obtain⟨t,hd,e,g,rfl,W,l,G,I,J,_⟩:=tm hR hh h6 hf;have aa:=iK G;have L:Paired (yO K H n) (.str hd::e) (hd::g):=.cons (.str hd l) G;refine⟨rfl,U rfl ⟨t,rfl,⟨_,W⟩,λD X=>?_⟩⟩;have sD:∀c,ak H (aG H D (.lst c)):=λc=>aj (ak.refl _) X;refine cJ (K:=K) (a:=t) (xs:=.str hd::e) (λi c H'=>c=((hd::g).take i).map V.str/\ak H H'/\H' D=some (.lst c)) ⟨by rw[oi];rfl,sD _,af⟩ (λi c H' _ h=>ak.tseq h.2.1 W) ?_ ?_
   ·rintro i v c M Z⟨rfl,o,j⟩;have hi:i<(V.str hd::e).length:=(d_.mp Z).1;obtain⟨tx,N,hp⟩:=jf L i v Z;have p:(((hd::g).take i).map V.str).length<sizeLine:=by rw[b_,i_,gg,il];omega
    have fin:∀k,ak M k->k D=some (.lst (((hd::g).take i).map V.str))/\(((hd::g).take i).map V.str).length<sizeLine/\∃m',m'<(V.str hd::e).length-i/\m'=(V.str hd::e).length-(i+1)/\i+1<=(V.str hd::e).length/\(((hd::g).take i).map V.str++[V.str tx]=((hd::g).take (i+1)).map V.str/\ak H (aG k D (.lst (((hd::g).take i).map V.str++[V.str tx])))/\aG k D (.lst (((hd::g).take i).map V.str++[V.str tx])) D=some (.lst (((hd::g).take i).map V.str++[V.str tx]))):=λk u=>⟨u _ _ j,p,lf hi ⟨gw N,bC (o.trans u) X,af⟩⟩
    refine aq (gU (bq ?_));cases hp with|str _ hz=>exact U rfl ⟨_,"tuple",_,false,rfl,.inl (.str tx),cY (by decide+kernel),false,rfl,bU (U rfl (.inr ⟨tx,rfl,fin _ (ak.refl _)⟩))⟩|num z hz=>exact U rfl ⟨_,"tuple",_,false,rfl,.inl (.int z),cY (by decide+kernel),false,rfl,bU (U rfl (.inl ⟨z,rfl,jl hz,fin _ (ak.refl _)⟩))⟩|rule h1 h2 h3 h4=>rename_i q';obtain⟨pt,_,ad,_,rfl,R,_⟩:=tm (h1.kp (.of o)) (n:=n) (by omega) h3 h4;exact U rfl ⟨_,"tuple",_,true,rfl,.inr ⟨pt,_,rfl,R,rfl⟩,cY (by decide+kernel),true,rfl,bq (U rfl ⟨q',_,rfl,h1.kp (.of o),h2,h3,h4,λk u=>fin k u⟩)⟩
   ·rintro c M⟨rfl,o,j⟩;rw[g_ (by rw[il,il];omega)]at j;refine⟨_,D,U rfl ⟨rfl,aW.of j,wO l (mq G) I,?_⟩⟩;rw[<-J];exact q M o
theorem oM(T:Txt K mg a):∀n:Nat,aO P w K mg base cZ (n+1) a.c7.x a.c7.d ["_law_rule_here"] (sf K n)
 |0=>by
  refine T.c7.f.ok n6 (λg H Q E h=>?_) (λas A outer s H g Q E hr h=>?_)
  ·obtain⟨r,rv,rfl,_⟩:=h;rfl
  ·obtain⟨r,rv,rfl,_,hh,_⟩:=h;have:=r.hgt_pos;lia|n+1=>by
  have ih:=oM T n;refine T.c7.f.ok n6 (λg H Q E h=>?_) (λas A outer s H g Q E hr h=>?_)
  ·obtain⟨r,rv,rfl,_⟩:=h;rfl
  ·obtain⟨r,rv,rfl,hR,hh,h6,hf,q⟩:=h;refine⟨_,(ag (aM (aD (nA K rfl) (cC K (Y 0) ae) (a0 (ac ay (ac ay (ac ay O)))) (by with_unfolding_all rfl)) (ah (az (cI K rfl PySem.F.plainAttrs_str PySem.F.slot_str_join PySem.F.type_str_join (eD K rfl) ay (ac (au pK (a0 (ac (cC K (Y 0) ae) O)) (qj g9 ["_law_part"] [] [1] (ai je) (bO 1) (dw K rfl (cH (ko K rfl) (Y 0) (dG ae) dH)) (λcl C s₀ H₀ ex=>⟨(mG g9 ["_law_part"] 1),bJ,(bv ih hr rfl T.c7.m T.c7.f.kp T.c7.b .nil be (ac (Y 1) O))⟩))) O)))) aC) (ah (az (cI K rfl PySem.F.plainAttrs_str PySem.F.slot_str_join PySem.F.type_str_join (eD K rfl) ay (ac (au pK (a0 (ac (cC K (Y 0) ae) O)) (qj g9 ["_law_part"] [] [1] (ai je) (bO 1) (dw K rfl (cH (ko K rfl) (Y 0) (dG ae) dH)) (λcl C s₀ H₀ ex=>⟨(mG g9 ["_law_part"] 1),bJ,(bx eV (by rfl) T.kZ L2.dY (ac (Y 1) O))⟩))) O))))),?_⟩
   obtain⟨t,hd,g,j,rfl,hT,ad,hP,al,an,X⟩:=tm hR hh h6 hf;have av:=iK hP;have ax:g.length<=2:=by omega
   refine U rfl (rX hT (am (k:=0) rfl) ?_);refine⟨ls rfl,λl hl=>?_⟩;have s0:=aj (o:=.lst [.str "not",.str "both",.str "either"]) (ak.refl H) hl;have y:¬(HT.fi (V.str hd::g).length 0 (some 1)=0/\HT.fi (V.str hd::g).length (V.str hd::g).length none=(V.str hd::g).length):=by unfold HT.fi;simp
   refine⟨l,U rfl ⟨.inl (aW.of af),rfl,vN ["not","both","either"],U rfl ?_⟩⟩;generalize aG H l (.lst [.str "not",.str "both",.str "either"])=H0 at s0⊢;have ap:=As hd ["not","both","either"];rcases X with⟨hk,hq⟩|⟨hk,hq⟩
   ·refine tT (λ_=>?_) (λe=>by have e:nI (.str hd) ((["not","both","either"]:MV).map V.str)=false:=e;exact absurd (ap.mpr hk) (by rw[e];exact h_));refine⟨rfl,U rfl (rX (ak.tseq s0 hT) (am (k:=0) rfl) ?_)⟩;refine⟨ls rfl,λN Z=>?_⟩;have S:=aj (o:=.lst [.str hd]) s0 Z;have I:aG H0 N (.lst [.str hd]) N=some (.lst [.str hd]):=af;generalize aG H0 N (.lst [.str hd])=H1 at S I⊢;refine U rfl (U rfl ⟨t,U rfl ⟨ak.tseq S hT,y,λp hp=>?_⟩⟩);rw[IN];have s2:=aj (o:=.tup g) (ak.refl H1) hp;have B:aG H1 p (.tup g) p=some (.tup g):=af;generalize aG H1 p (.tup g)=R at s2 B⊢;refine⟨p,rfl,⟨_,aX.of B⟩,λD hD=>?_⟩;have sD:∀c,ak R (aG R D (.lst c)):=λc=>aj (ak.refl _) hD;refine cJ (K:=K) (a:=p) (xs:=g) (λi c H'=>c=(j.take i).map V.str/\ak R H'/\H' D=some (.lst c)) ⟨by rw[oi];rfl,sD _,af⟩ (λi c H' _ h=>aX.of (h.2.1 _ _ B)) ?_ ?_
    ·rintro i v c H3 hv⟨rfl,W,u⟩;have hi:i<g.length:=(d_.mp hv).1;obtain⟨tx,J,_⟩:=jf hP i v hv;have L:((j.take i).map V.str).length<sizeLine:=by rw[b_,i_,gg];omega
     have fin:∀G,ak H3 G->G D=some (.lst ((j.take i).map V.str))/\((j.take i).map V.str).length<sizeLine/\∃m',m'<g.length-i/\m'=g.length-(i+1)/\i+1<=g.length/\((j.take i).map V.str++[V.str tx]=(j.take (i+1)).map V.str/\ak R (aG G D (.lst ((j.take i).map V.str++[V.str tx])))/\aG G D (.lst ((j.take i).map V.str++[V.str tx])) D=some (.lst ((j.take i).map V.str++[V.str tx]))):=λG s6=>⟨s6 _ _ u,L,lf hi ⟨gw J,bC (W.trans s6) hD,af⟩⟩
     refine aq (gU (bq ?_));obtain⟨q',h1,h2,h3,h4,rfl⟩:=hq i v tx hv J;have sH:=S.trans (s2.trans W);exact U rfl ⟨q',_,rfl,h1.kp (.of sH),h2,h3,h4,λG s6=>fin G s6⟩
    ·rintro c H3⟨rfl,W,u⟩;rw[g_ (by omega)]at u;have M:=s2.trans W;refine⟨N,D,[.str hd],j.map V.str,rfl,rfl,M _ _ I,u,by rw[b_,gg];simp;omega,λp2 aa=>?_⟩;refine⟨_,p2,hd::j,rfl,rfl,aW.of af,wO ad (mq hP) al,?_⟩;rw[<-an];exact q _ (aj (S.trans M) aa)
   ·refine tT (λe=>absurd (ap.mp e) hk) (λ_=>?_);refine⟨rfl,U rfl (rX (ak.tseq s0 hT) (am (k:=0) rfl) ?_)⟩;refine⟨ls rfl,λN Z=>?_⟩;have S:=aj (o:=.lst [.str hd]) s0 Z;have I:aG H0 N (.lst [.str hd]) N=some (.lst [.str hd]):=af;generalize aG H0 N (.lst [.str hd])=H1 at S I⊢;refine U rfl (U rfl ⟨t,U rfl ⟨ak.tseq S hT,y,λp hp=>?_⟩⟩);rw[IN];have s2:=aj (o:=.tup g) (ak.refl H1) hp;have B:aG H1 p (.tup g) p=some (.tup g):=af;generalize aG H1 p (.tup g)=R at s2 B⊢;refine⟨p,rfl,⟨_,aX.of B⟩,λD hD=>?_⟩;have sD:∀c,ak R (aG R D (.lst c)):=λc=>aj (ak.refl _) hD;refine cJ (K:=K) (a:=p) (xs:=g) (λi c H'=>c=(j.take i).map V.str/\ak R H'/\H' D=some (.lst c)) ⟨by rw[oi];rfl,sD _,af⟩ (λi c H' _ h=>aX.of (h.2.1 _ _ B)) ?_ ?_
    ·rintro i v c H3 hv⟨rfl,W,u⟩;have hi:i<g.length:=(d_.mp hv).1;obtain⟨tx,J,_⟩:=jf hP i v hv;have L:((j.take i).map V.str).length<sizeLine:=by rw[b_,i_,gg];omega
     have fin:∀G,ak H3 G->G D=some (.lst ((j.take i).map V.str))/\((j.take i).map V.str).length<sizeLine/\∃m',m'<g.length-i/\m'=g.length-(i+1)/\i+1<=g.length/\((j.take i).map V.str++[V.str tx]=(j.take (i+1)).map V.str/\ak R (aG G D (.lst ((j.take i).map V.str++[V.str tx])))/\aG G D (.lst ((j.take i).map V.str++[V.str tx])) D=some (.lst ((j.take i).map V.str++[V.str tx]))):=λG s6=>⟨s6 _ _ u,L,lf hi ⟨gw J,bC (W.trans s6) hD,af⟩⟩
     refine aq (gU (bq ?_));rcases hq i v tx hv J with rfl|⟨z,rfl,hz,rfl⟩
     ·exact U rfl (.inr ⟨tx,rfl,fin _ (ak.refl _)⟩)
     ·exact U rfl (.inl ⟨z,rfl,jl hz,fin _ (ak.refl _)⟩)
    ·rintro c H3⟨rfl,W,u⟩;rw[g_ (by omega)]at u;have M:=s2.trans W;refine⟨N,D,[.str hd],j.map V.str,rfl,rfl,M _ _ I,u,by rw[b_,gg];simp;omega,λp2 aa=>?_⟩;refine⟨_,p2,hd::j,rfl,rfl,aW.of af,wO ad (mq hP) al,?_⟩;rw[<-an];exact q _ (aj (S.trans M) aa)
end
def qB(v:V)(t:Str):Prop:=(v=.str t/\t.length<=100)\/∃i:Int,v=.int i/\i.natAbs<10^61/\t=fY i
def qB.len{v:V}{t:Str}(h:qB v t):t.length<=100:=by
 rcases h with⟨_,h⟩|⟨i,_,h,rfl⟩
 ·exact h
 ·have:=Ar (k:=61) (by decide) h;show(fY i).length<=100;unfold fY;lia
def dg:List Str->Str|[]=>"-"|t::r=>Txt.join "," (t::r)
def Kw:(Str.ofString ",").length=1:=by decide+kernel
theorem mC:∀{d:List V}{c:MV},Paired qB d c->k9 c<=100*c.length|_,_,.nil=>fx _|_,_,.cons r t=>by have:=mC t;have:=r.len;rw[aJ,il];lia
def pP{d:List V}{c:MV}(h:Paired qB d c)(h1:c.length<=10):(dg c).length<=1010:=by
 cases c with|nil=>
  have k:(Str.ofString "-").length=1:=by decide+kernel
  show(Str.ofString "-").length<=1010;lia|cons t r=>show(Txt.join "," (t::r)).length<=1010;have h2:=ip "," (t::r);have h3:=mC h;rw[Kw]at h2;lia
def Eo{d:List V}{c:MV}(h:Paired qB d c)(h1:c.length<=10):JoinOk "," c=true:=by refine rP ?_;have h3:=mC h;rw[Kw];lia
def q8(K:MP)(H:Hp)(v:V)(c:MV):Prop:=∃a b,v=.ref a/\aX K H a b/\Paired qB b c/\c.length<=10
def q8.kp{v:V}{c:MV}(e:Kp H H')(h:q8 K H v c):q8 K H' v c:=by obtain⟨a,b,h1,h2,h3,h4⟩:=h;exact⟨a,b,h1,e.tq h2,h3,h4⟩
def l7(K:MP)(H:Hp)(v:V)(t:Str):Prop:=qB v t\/∃fs,q8 K H v fs/\t=dg fs
theorem l7.kp{v:V}{t:Str}(e:Kp H H')(h:l7 K H v t):l7 K H' v t:=by
 rcases h with h|⟨fs,h,r⟩
 ·exact .inl h
 ·exact .inr ⟨fs,h.kp e,r⟩
theorem l7.len{v:V}{t:Str}(h:l7 K H v t):t.length<=1010:=by
 rcases h with h|⟨fs,⟨a,b,_,_,h,h1⟩,rfl⟩
 ·have:=h.len;omega
 ·exact pP h h1
theorem kn:∀{d:List V}{c:MV},Paired (l7 K H) d c->k9 c<=1010*c.length|_,_,.nil=>fx _|_,_,.cons r t=>by have:=kn t;have:=r.len;rw[aJ,il];lia
def pf{n:Nat}{c:MV}(h:k9 c<=n)(h1:n<=1000000)(h2:c.length<=100):JoinOk " " c=true:=by refine rP ?_;rw[w5];lia
def uU(m:Str×Int):Str:=m.1++"="++fY m.2
def yQ(m:Str×Int):Prop:=m.1.length<=40/\-aY<=m.2/\m.2<=aY
def FS{m:Str×Int}(h:yQ m):(uU m).length<=100:=by
 unfold uU;rw[eW,eW];have:=io h.2;have:(Str.ofString "=").length=1:=by decide+kernel
 have:=h.1;lia
def nC{c:List (Str×Int)}(h:∀m∈c,yQ m):Paired qB (c.map λm=>V.str (uU m)) (c.map uU):=by induction c with|nil=>exact .nil|cons m r b=>exact .cons (.inl ⟨rfl,FS (h m ir)⟩) (b λx d=>h x (hY _ d))
inductive Ci(K:MP)(vs:List V)(H:Hp)(Q:VK)(_E:XK):Prop|mk(p:Addr)(b:Bool)(xs:List V)(ts:MV)(_:vs=[.ref p])(_:Gy K b H p xs)(_:Paired qB xs ts)(_:ts.length<=10)(_:∀H',ak H H'->Q (.str (dg ts)) H')
inductive xr(K:MP)(vs:List V)(H:Hp)(Q:VK)(_E:XK):Prop|mk(mv:V)(ms:List (Str×Int))(_:vs=[mv])(_:pk K H ms mv)(_:ms.length<=10)(_:(∀m∈ms,yQ m))(_:∀H',ak H H'->Q (.str (dg (ms.map uU))) H')
inductive Cd(K:MP)(vs:List V)(H:Hp)(Q:VK)(_E:XK):Prop|mk(p:Addr)(xs:List V)(ts:MV)(_:vs=[.ref p])(_:aX K H p xs)(_:Paired (l7 K H) xs ts)(_:ts.length<=10)(_:∀H',ak H H'->Q (.str (Txt.join " " ts)) H')
section
def kJ(T:Txt K mg a):aO P w K mg base cZ 1 a.fN.x a.fN.d ["things"] (Ci K):=by
 refine T.fN.ok wm λu A outer s H J Q E L h=>?_
 ·obtain⟨p,b,j,f,rfl,k,l,y,q⟩:=h;have m:=iK l;refine⟨_,(ag (aM (aD aQ (aB (aI K rfl) (by rfl) T.bD L2.aL (ac (Y 0) O)) ae (aE _)) (ah (az ay)) aC) (ah (az (cI K rfl PySem.F.plainAttrs_str PySem.F.slot_str_join PySem.F.type_str_join (eD K rfl) ay (ac (qj ["things"] ["thing"] [] [1] (ai lD) (bO 1) (C1 K rfl (Y 0)) (λcl C s₀ H₀ ex=>⟨(mG ["things"] ["thing"] 1),bJ,(bx eV (by rfl) T.kZ L2.dY (ac (Y 1) O))⟩)) O))))),?_⟩
  refine U rfl ⟨_,j.length,rfl,k.len,rfl,U rfl ?_⟩;refine i4 (λh0=>?_) (λh0=>?_)
  ·have:f=[]:=MH (by omega);subst this;exact q H (ak.refl _)
  ·refine⟨rfl,U rfl ⟨p,b,rfl,⟨_,k⟩,λD B=>?_⟩⟩;have n:∀c,ak H (aG H D (.lst c)):=λc=>aj (ak.refl _) B;refine Go (K:=K) (b:=b) (a:=p) (xs:=j) (λi c H'=>c=(f.take i).map V.str/\H'=aG H D (.lst c)) ⟨by rw[oi];rfl,rfl⟩ (λi c H' _ h=>h.2▸k.same (n _)) ?_ ?_
   ·rintro i v c _ o⟨rfl,rfl⟩;have hi:i<j.length:=(d_.mp o).1;obtain⟨tx,g,G⟩:=jf l i v o;have e:((f.take i).map V.str).length<sizeLine:=by rw[b_,i_,gg];omega
    refine aq (gU (bq ?_));rcases G with⟨rfl,_⟩|⟨z,rfl,I,rfl⟩
    ·exact U rfl (.inr ⟨tx,rfl,af,e,lf hi ⟨gw g,by rw[eh]⟩⟩)
    ·exact U rfl (.inl ⟨z,rfl,tR (k_ I (by decide+kernel)),af,e,lf hi ⟨gw g,by rw[eh]⟩⟩)
   ·rintro c _⟨rfl,rfl⟩;refine⟨_,D,f,rfl,rfl,?_,Eo l y,?_⟩
    ·rw[g_ (by omega)];exact aW.of af
    ·cases f with|nil=>exact absurd m (by simp only[LG];omega)|cons t r=>exact q _ (n _)
def uH(T:Txt K mg a):aO P w K mg base cZ 2 a.gz.x a.gz.d ["marks"] (xr K):=by
 refine T.gz.ok uv λu A outer s H g Q E y h=>?_
 ·obtain⟨W,f,rfl,z,B,r,q⟩:=h;obtain⟨p,g,rfl,t,F,j⟩:=z;refine⟨_,(ah (az (pc T.fN (kJ T) y (ac (qj ["marks"] ["word","number"] [] [1,2] (ai ky) (wP _ 1 2) (dw K rfl (Y 0)) (λcl C s₀ H₀ ex=>⟨(ik K rfl rfl (bT (mG ["marks"] ["word","number"] 1) (bT (mG ["marks"] ["word","number"] 2) ij))),bJ,(Af (kH (Ae (Y 1)) (kH ay (kH (Ae (Y 2)) CW))))⟩)) O)))),?_⟩
  refine U rfl ⟨p,rfl,⟨_,t⟩,λD G=>?_⟩;have k:∀c,ak H (aG H D (.lst c)):=λc=>aj (ak.refl _) G;refine cJ (K:=K) (a:=p) (xs:=g) (λi c H'=>c=((f.take i).map uU).map V.str/\H'=aG H D (.lst c)) ⟨by rw[oi];rfl,rfl⟩ (λi c H' _ h=>h.2▸ak.tseq (k _) t) ?_ ?_
  ·rintro i v c _ l⟨rfl,rfl⟩;have hi:i<g.length:=(d_.mp l).1;have e:f[i]?=some (f[i]'(by omega)):=fy (by omega);generalize f[i]'(by omega)=m at e;obtain⟨b,I,J⟩:=j i m e;rw[I]at l;cases l;have n:=r m (ga e);have hn:=io n.2;have Z:=n.1;have L:(Str.ofString "=").length=1:=by decide+kernel
   have M:(16777216:Nat)=sizeLine:=gg.symm;have N:(Str.empty++m.1).length=m.1.length:=by rw[mD]
   have R:(Str.empty++m.1++Str.ofString "=").length=m.1.length+1:=by rw[eW,N,L]
   have l2:(Str.empty++m.1++Str.ofString "="++fY m.2).length=m.1.length+1+(fY m.2).length:=by rw[eW,R]
   have em:Str.empty++m.1++Str.ofString "="++fY m.2=uU m:=by rw[mD];rfl
   have o:((f.take i).map uU).map V.str++[V.str (Str.empty++m.1++Str.ofString "="++fY m.2)]=((f.take (i+1)).map uU).map V.str:=by rw[em,lx e,g6];rfl
   refine⟨b,U rfl ⟨ak.tseq (k _) J,rfl,_,U rfl (aq ⟨_,U rfl (aq ⟨rfl,gU (bq ?_)⟩)⟩)⟩⟩;refine U rfl (.inr ⟨m.1,rfl,by omega,m.1,rfl,by omega,U rfl ⟨by omega,U rfl (.inl ⟨m.2,rfl,jl n.2,fY m.2,rfl,by omega,by omega,af,?_,lf hi ⟨o,by rw[eh]⟩⟩)⟩⟩);rw[b_,b_,i_,gg];lia
  ·rintro c _⟨rfl,rfl⟩;refine⟨D,true,_,f.map uU,rfl,aW.of af,?_,by rw[b_];exact B,λH' S=>q H' ((k _).trans S)⟩;rw[g_ (by omega),ri];exact nC r
def iL(T:Txt K mg a):aO P w K mg base cZ 2 a.dB.x a.dB.d ["things"] (Cd K):=by
 refine T.dB.ok sB λN A outer s H vs Q E R h=>?_
 ·obtain⟨p,g,c,rfl,G,n,hl,q⟩:=h;have S:=iK n;refine⟨_,(ah (az (cI K rfl PySem.F.plainAttrs_str PySem.F.slot_str_join PySem.F.type_str_join (eD K rfl) ay (ac (qj ["things"] ["thing"] [] [1] (ai jt) (bO 1) (dw K rfl (Y 0)) (λcl C s₀ H₀ ex=>⟨(mG ["things"] ["thing"] 1),bJ,(xO (aP K rfl (aB (cK K rfl) (by rfl) T.a9 L2.aR (ac (Y 1) (ac (ie rfl T.df L2.bE) O))) (λ_=>rfl)) (pc T.fN (kJ T) R (ac (Y 1) O)) (bx eV (by rfl) T.kZ L2.dY (ac (Y 1) O)))⟩)) O)))),?_⟩
  refine⟨rfl,U rfl ⟨p,rfl,⟨_,G⟩,λD I=>?_⟩⟩;have W:∀b,ak H (aG H D (.lst b)):=λb=>aj (ak.refl _) I;refine cJ (K:=K) (a:=p) (xs:=g) (λi b H'=>b=(c.take i).map V.str/\ak H H'/\H' D=some (.lst b)) ⟨by rw[oi];rfl,W _,af⟩ (λi b H' _ h=>ak.tseq h.2.1 G) ?_ ?_
  ·rintro i v b o J⟨rfl,l,e⟩;have hi:i<g.length:=(d_.mp J).1;obtain⟨tx,r,X⟩:=jf n i v J;have j:((c.take i).map V.str).length<sizeLine:=by rw[b_,i_,gg];omega
   have fin:∀f,ak o f->f D=some (.lst ((c.take i).map V.str))/\((c.take i).map V.str).length<sizeLine/\∃L,L<g.length-i/\L=g.length-(i+1)/\i+1<=g.length/\((c.take i).map V.str++[V.str tx]=(c.take (i+1)).map V.str/\ak H (aG f D (.lst ((c.take i).map V.str++[V.str tx])))/\aG f D (.lst ((c.take i).map V.str++[V.str tx])) D=some (.lst ((c.take i).map V.str++[V.str tx]))):=λf m=>⟨m _ _ e,j,lf hi ⟨gw r,bC (l.trans m) I,af⟩⟩
   refine aq (gU (bq ?_));rcases X with t|⟨fs,t,rfl⟩
   ·rcases t with⟨rfl,_⟩|⟨z,rfl,Z,rfl⟩
    ·exact U rfl ⟨_,"tuple",_,false,rfl,.inl (.str tx),cY (by decide+kernel),false,rfl,bU (U rfl (.inr ⟨tx,rfl,fin _ (ak.refl _)⟩))⟩
    ·exact U rfl ⟨_,"tuple",_,false,rfl,.inl (.int z),cY (by decide+kernel),false,rfl,bU (U rfl (.inl ⟨z,rfl,tR (k_ Z (by decide+kernel)),fin _ (ak.refl _)⟩))⟩
   ·obtain⟨M,u,rfl,k,y,B⟩:=t.kp (.of l);exact U rfl ⟨_,"tuple",_,true,rfl,.inr ⟨M,U rfl ⟨k,rfl⟩⟩,cY (by decide+kernel),true,rfl,bq (U rfl ⟨M,false,u,fs,rfl,k,y,B,λf m=>fin f m⟩)⟩
  ·rintro b o⟨rfl,l,e⟩;rw[g_ (by lia)]at e;exact⟨_,D,c,rfl,rfl,aW.of e,pf (kn n) (by omega) (by omega),q o l⟩
end
inductive gM(K:MP)(H:Hp):V->Str->Prop|plain{p:Addr}{hd:Str}{vs:List V}{ts:MV}:aX K H p (.str hd::vs)->hd≠"trial"->hd≠"visit"->hd.length<=100->Paired (l7 K H) vs ts->ts.length<=5->gM K H (.ref p) (Txt.join " " (hd::ts))|trial{p:Addr}{n l:Str}{av rv sv:V}{as ss:MV}{r:Ru}:aX K H p [.str "trial",.str n,.str l,av,rv,sv]->n.length<=40->l.length<=40->q8 K H av as->q8 K H sv ss->dP K H r rv->r.hgt<=6->r.fit->gM K H (.ref p) (Txt.join " " ["trial",n,l,dg as,dg ss,r.txt])|visit{p:Addr}{g:Str}{mv:V}{ms:List (Str×Int)}:aX K H p [.str "visit",.str g,mv]->g.length<=40->pk K H ms mv->ms.length<=10->(∀m∈ms,yQ m)->gM K H (.ref p) (Txt.join " " ["visit",g,dg (ms.map uU)])
theorem tE{c d:Type}{R S:c->d->Prop}(f:∀a b,R a b->S a b):∀{e:List c}{g:List d},Paired R e g->Paired S e g|_,_,.nil=>.nil|_,_,.cons r t=>.cons (f _ _ r) (tE f t)
theorem gM.kp{v:V}{t:Str}(e:Kp H H')(h:gM K H v t):gM K H' v t:=by cases h with|plain h1 h2 h3 h4 h5 h6=>exact .plain (e.tq h1) h2 h3 h4 (tE (λ_ _ h=>h.kp e) h5) h6|trial h1 h2 h3 h4 h5 h6 h7 h8=>exact .trial (e.tq h1) h2 h3 (h4.kp e) (h5.kp e) (h6.kp e) h7 h8|visit h1 h2 h3 h4 h5=>exact .visit (e.tq h1) h2 (h3.kp e) h4 h5
def q8.len{v:V}{c:MV}(h:q8 K H v c):(dg c).length<=1010:=by obtain⟨a,b,_,_,h3,h4⟩:=h;exact pP h3 h4
def nD{c:List (Str×Int)}(h:∀m∈c,yQ m)(d:c.length<=10):(dg (c.map uU)).length<=1010:=pP (nC h) (by rw[b_];exact d)
inductive Cn(K:MP)(vs:List V)(H:Hp)(Q:VK)(_E:XK):Prop|mk(dv:V)(t:Str)(_:vs=[dv])(_:gM K H dv t)(_:∀H',ak H H'->Q (.str t) H')
def dC{z:Str}(h:z.length<=100):l7 K H (.str z) z:=.inl (.inl ⟨rfl,h⟩)
section
def wC(T:Txt K mg a):aO P w K mg base cZ 8 a.iB.x a.iB.d ["deed"] (Cn K):=by
 refine T.iB.ok wu λaa A outer s H vs Q E B h=>?_
 ·obtain⟨dv,t,rfl,hD,q⟩:=h;refine⟨_,(ag (aM (aD aQ (cC K (Y 0) ae) ay (aE _)) (ah (az (cI K rfl PySem.F.plainAttrs_str PySem.F.slot_str_join PySem.F.type_str_join (eD K rfl) ay (ac (a0 (ac (pc T.dB (iL T) B (ac (cH (ko K rfl) (Y 0) dH (dG ae)) O)) (ac (pc T.fN (kJ T) B (ac (cC K (Y 0) ae) O)) (ac (bv ((oH T 6).mono (by decide)) B rfl T.c5.m T.c5.f.kp T.c5.b .nil be (ac (cC K (Y 0) ae) O)) O)))) O)))) aC) (ag (aM (aD aQ (cC K (Y 0) ae) ay (aE _)) (ah (az (cI K rfl PySem.F.plainAttrs_str PySem.F.slot_str_join PySem.F.type_str_join (eD K rfl) ay (ac (a0 (ac (pc T.dB (iL T) B (ac (cH (ko K rfl) (Y 0) dH (dG ae)) O)) (ac (pc T.gz (uH T) B (ac (cC K (Y 0) ae) O)) O))) O)))) aC) (ah (az (pc T.dB (iL T) B (ac (Y 0) O)))))),?_⟩
  cases hD with|plain h1 h2 h3 h4 h5 h6=>rename_i p hd vs ts;refine U rfl (rX h1 (am (k:=0) rfl) ⟨rfl,U rfl (gN h2 ?_)⟩);refine U rfl (rX h1 (am (k:=0) rfl) ⟨rfl,U rfl (gN h3 ?_)⟩);exact U rfl ⟨p,_,hd::ts,rfl,h1,.cons (dC h4) h5,by rw[il];omega,q⟩|trial h1 h2 h3 h4 h5 h6 h7 h8=>
   rename_i p n l J L N u D r;refine U rfl (rX h1 rfl ⟨rfl,U rfl (bG ?_)⟩);refine⟨rfl,U rfl (U rfl ⟨p,U rfl ⟨h1,(show¬(HT.fi 6 0 none=0/\HT.fi 6 6 (some 4)=6)by decide),λj v=>?_⟩⟩)⟩;have C:=aj (o:=.tup (lc [.str "trial",.str n,.str l,J,L,N] none (some 4))) (ak.refl H) v;have i:aG H j (.tup (lc [.str "trial",.str n,.str l,J,L,N] none (some 4))) j=some (.tup [.str "trial",.str n,.str l,J]):=af;generalize aG H j (.tup (lc [.str "trial",.str n,.str l,J,L,N] none (some 4)))=H1 at C i⊢;refine⟨j,_,["trial",n,l,dg u],rfl,aX.of i,.cons (dC (by decide+kernel)) (.cons (dC (by omega)) (.cons (dC (by omega)) (.cons (.inr ⟨u,h4.kp (.of C),rfl⟩) .nil))),by simp,λH2 R=>?_⟩;have c:=C.trans R;obtain⟨sa,S,rfl,V,W,X⟩:=h5.kp (.of c);refine U rfl (rX (ak.tseq c h1) rfl ⟨sa,false,S,D,rfl,V,W,X,λH3 Z=>?_⟩);have y:=c.trans Z;refine U rfl (rX (ak.tseq y h1) rfl ⟨r,L,rfl,h6.kp (.of y),h7,h7,h8,λH4 s4=>?_⟩);refine⟨ls rfl,λl1 z=>?_⟩;have e:Txt.join " " [Txt.join " " ["trial",n,l,dg u],dg D,r.txt]=Txt.join " " ["trial",n,l,dg u,dg D,r.txt]:=mx " " "trial" [n,l,dg u] [dg D,r.txt];refine⟨_,l1,[Txt.join " " ["trial",n,l,dg u],dg D,r.txt],rfl,rfl,aW.of af,?_,?_⟩
   ·have G:=ip " " ["trial",n,l,dg u];have k2:=h4.len;have k3:=h5.len;have k4:=Ru.txt_le h8 h7;have k5:(Str.ofString "trial").length=5:=by decide+kernel
    rw[aJ,aJ,aJ,aJ,fm,w5]at G;simp only[il,LG]at G;refine pf (n:=20000) ?_ (by decide) (by simp);rw[aJ,aJ,aJ,fm];lia
   ·rw[e];exact q _ (aj (y.trans s4) z)|visit h1 h2 h3 h4 h5=>
   rename_i p g M I;refine U rfl (rX h1 rfl ⟨rfl,U rfl (gN (by decide+kernel) ?_)⟩);refine U rfl (rX h1 rfl ⟨rfl,U rfl (bG ?_)⟩);refine⟨rfl,U rfl (U rfl ⟨p,U rfl ⟨h1,(show¬(HT.fi 3 0 none=0/\HT.fi 3 3 (some 2)=3)by decide),λj v=>?_⟩⟩)⟩;have C:=aj (o:=.tup (lc [.str "visit",.str g,M] none (some 2))) (ak.refl H) v;have i:aG H j (.tup (lc [.str "visit",.str g,M] none (some 2))) j=some (.tup [.str "visit",.str g]):=af;generalize aG H j (.tup (lc [.str "visit",.str g,M] none (some 2)))=H1 at C i⊢;refine⟨j,_,["visit",g],rfl,aX.of i,.cons (dC (by decide+kernel)) (.cons (dC (by omega)) .nil),by simp,λH2 R=>?_⟩;have c:=C.trans R;refine U rfl (rX (ak.tseq c h1) rfl ⟨M,I,rfl,h3.kp (.of c),h4,h5,λH3 Z=>?_⟩);refine⟨ls rfl,λl1 z=>?_⟩;have e:Txt.join " " [Txt.join " " ["visit",g],dg (I.map uU)]=Txt.join " " ["visit",g,dg (I.map uU)]:=mx " " "visit" [g] [dg (I.map uU)];refine⟨_,l1,[Txt.join " " ["visit",g],dg (I.map uU)],rfl,rfl,aW.of af,?_,?_⟩
   ·have G:=ip " " ["visit",g];have k2:=nD h5 h4;have k5:(Str.ofString "visit").length=5:=by decide+kernel
    rw[aJ,aJ,fm,w5]at G;simp only[il,LG]at G;refine pf (n:=20000) ?_ (by decide) (by simp);rw[aJ,aJ,fm];lia
   ·rw[e];exact q _ (aj (c.trans Z) z)
end
def o9(z:Str)(x:Str)(c:MV):Str:=c.foldl (λr t=>r++z++t) x
def qb{z x:Str}{c:MV}{i:Nat}{t:Str}(h:c[i]?=some t):o9 z x (c.take (i+1))=o9 z x (c.take i)++z++t:=by unfold o9;rw[qr,h,s_];rfl
theorem tY(z:Str):∀(c:MV)(x:Str),(o9 z x c).length=x.length+k9 c+c.length*z.length|[],x=>by show x.length=_;simp[k9]|t::r,x=>by show(o9 z (x++z++t) r).length=_;rw[tY z r,eW,eW,aJ,il,Nat.add_mul];lia
def vE(c:MV)(i:Nat):k9 (c.take i)<=k9 c:=by induction c generalizing i with|nil=>simp[k9]|cons t r b=>cases i with|zero=>exact kw _|succ i=>rw[List.take_succ_cons,aJ,aJ];have:=b i;lia
theorem vL(z:Str):∀(c:MV)(x:Str),o9 z x c=Txt.join z (x::c)|[],x=>rfl|t::r,x=>by show o9 z (x++z++t) r=_;rw[vL z r];exact mx z x [t] r
def Il{c:MV}(h:c≠[]):Txt.slice (o9 "," Str.empty c) (some 1) none=dg c:=by cases c with|nil=>exact absurd rfl h|cons t r=>have e:=Bv "," t r;show Txt.slice ((t::r).foldl (λr t=>r++","++t) Str.empty) (some 1) none=_;rw[<-e];exact yW 44 _
def C9{c:MV}{i:Nat}(h:c.length<=10):(c.take i).length<=10:=by rw[i_];lia
section
def kK(T:Txt K mg a):aO P w K mg base cZ 1 a.iy.x a.iy.d ["_law_things"] (Ci K):=by
 refine T.iy.ok kx λy A outer s H I Q E J h=>?_
 ·obtain⟨p,b,m,f,rfl,o,r,B,q⟩:=h;have g:=iK r;have C:(16777216:Nat)=sizeLine:=gg.symm;refine⟨_,(ag (aM (aD aQ (aB (aI K rfl) (by rfl) T.bD L2.aL (ac (Y 0) O)) ae (aE _)) (ah (az ay)) aC) (ag (bd 1 kx.nd ay) (ag (eC mo rfl (C1 K rfl (Y 0)) (tz 2 kx.nd) (ah (bd 1 kx.nd (au bj (au bj (Y 1) ay) (bx eV (by rfl) T.kZ L2.dY (ac (Y 2) O)))))) (ah (az (cH sr (Y 1) (dG ae) dH)))))),?_⟩
  refine U rfl ⟨_,m.length,rfl,o.len,rfl,U rfl ?_⟩;refine i4 (λh0=>?_) (λh0=>?_)
  ·have:f=[]:=MH (by omega);subst this;exact q H (ak.refl _)
  ·dsimp only[vh,AT];refine BS ?_;refine U rfl ⟨p,b,rfl,⟨_,o⟩,?_⟩;have c:∀i,(o9 "," Str.empty (f.take i)).length<=1010:=λi=>by have h1:=vE f i;have h2:=mC r;have h3:=C9 (i:=i) B;rw[tY,Kw];show 0+_+_<=_;lia
   refine IB (K:=K) (b:=b) (a:=p) (xs:=m) (λi n H'=>H'=H/\∃t,n=[some (.ref p),some (.str (o9 "," Str.empty (f.take i))),t]) ⟨rfl,_,rfl⟩ (λi n H' _ h=>h.1▸o) ?_ ?_
   ·rintro i v n _ D⟨rfl,t,rfl⟩;obtain⟨tx,j,u⟩:=jf r i v D;have k:=c i;have F:(o9 "," Str.empty (f.take i)++",").length<=1020:=by rw[eW,Kw];omega
    have l:=u.len;refine aq (U rfl ⟨_,U rfl ⟨rfl,by rw[Kw];omega,?_⟩⟩);rcases u with⟨rfl,_⟩|⟨z,rfl,G,rfl⟩
    ·exact U rfl (.inr ⟨tx,rfl,_,U rfl ⟨rfl,by omega,rfl,_,by rw[qb j];rfl⟩⟩)
    ·exact U rfl (.inl ⟨z,rfl,tR (k_ G (by decide+kernel)),_,U rfl ⟨rfl,by have l:(Str.ofString (toString z)).length<=100:=l;omega,rfl,_,by rw[qb j];rfl⟩⟩)
   ·rintro n _⟨rfl,t,rfl⟩;have k:=c m.length;rw[g_ (by omega)]at k⊢;refine U rfl (U rfl (U rfl ⟨by omega,?_⟩));rw[Il (λe=>by rw[e]at g;exact h0 (by rw[g];rfl))];exact q _ (ak.refl _)
end
def AK(g m:Str):Str.ofString "visit "++g++Str.ofString " "++m=Txt.join " " ["visit",g,m]:=by
 have e:Str.ofString "visit "=Str.ofString "visit"++Str.ofString " ":=by decide+kernel
 rw[e];rfl
section
def FN(T:Txt K mg a):aO P w K mg base cZ 8 a.BU.x a.BU.d ["_law_deed_here"] (Cn K):=by
 refine T.BU.ok mm λbl A outer s H e Q E N h=>?_
 ·obtain⟨dv,t,rfl,hD,q⟩:=h;have R:(16777216:Nat)=sizeLine:=gg.symm;refine⟨_,(ag (aM (aD aQ (cC K (Y 0) ae) ay (aE _)) (ag (bd 1 mm.nd (a0 (ac (cC K (Y 0) ae) (ac (cC K (Y 0) ae) (ac (cC K (Y 0) ae) (ac (pc T.iy (kK T) N (ac (cC K (Y 0) ae) O)) (ac (pc T.iy (kK T) N (ac (cC K (Y 0) ae) O)) (ac (bv ((oM T 6).mono (by decide)) N rfl T.c7.m T.c7.f.kp T.c7.b .nil be (ac (cC K (Y 0) ae) O)) O)))))))) (ah (az (cI K rfl PySem.F.plainAttrs_str PySem.F.slot_str_join PySem.F.type_str_join (eD K rfl) ay (ac (Y 1) O))))) aC) (ag (aM (aD aQ (cC K (Y 0) ae) ay (aE _)) (ah (az (au bj (au bj (au bj ay (cC K (Y 0) ae)) ay) (pc T.iy (kK T) N (ac (qj xh ["_law_word_here","_law_number"] [] [4,5] (ai y4) (wP _ 4 5) (dw K rfl (cC K (Y 0) ae)) (λcl C s₀ H₀ ex=>⟨(ik K rfl rfl (bT (mG xh ["_law_word_here","_law_number"] 4) (bT (mG xh ["_law_word_here","_law_number"] 5) ij))),bJ,(au bj (au bj (Y 4) ay) (bx eV (by rfl) T.kZ L2.dY (ac (Y 5) O)))⟩)) O))))) aC) (ag (bd 2 mm.nd (cC K (Y 0) ae)) (ag (eC mo rfl (dw K rfl (cH (ko K rfl) (Y 0) (dG ae) dH)) (tz 3 mm.nd) (ah (aM (aP K rfl (aB (cK K rfl) (by rfl) T.a9 L2.aR (ac (Y 3) (ac (ie rfl T.df L2.bE) O))) (λ_=>rfl)) (ah (bd 2 mm.nd (au bj (au bj (Y 2) ay) (pc T.iy (kK T) N (ac (Y 3) O))))) (ah (bd 2 mm.nd (au bj (au bj (Y 2) ay) (bx eV (by rfl) T.kZ L2.dY (ac (Y 3) O)))))))) (ah (az (Y 2))))))),?_⟩
  cases hD with|plain h1 h2 h3 h4 h5 h6=>
   rename_i p hd e S;have bt:=iK h5;refine U rfl (rX h1 (am (k:=0) rfl) ⟨rfl,U rfl (gN h2 ?_)⟩);refine U rfl (rX h1 (am (k:=0) rfl) ⟨rfl,U rfl (gN h3 ?_)⟩);refine U rfl (rX h1 (am (k:=0) rfl) ?_);have j:¬(HT.fi (V.str hd::e).length 0 (some 1)=0/\HT.fi (V.str hd::e).length (V.str hd::e).length none=(V.str hd::e).length):=by unfold HT.fi;simp
   refine aq (U rfl (U rfl ⟨p,U rfl ⟨h1,j,λW G=>?_⟩⟩));rw[IN];have s1:=aj (o:=.tup e) (ak.refl H) G;have I:aG H W (.tup e) W=some (.tup e):=af;generalize aG H W (.tup e)=H1 at s1 I⊢;have X:∀i,(o9 " " hd (S.take i)).length<=10000:=λi=>by
    have k1:=vE S i;have k2:=kn h5;have k3:(S.take i).length<=5:=by rw[i_];omega
    rw[tY,w5];lia
   refine⟨W,rfl,⟨_,aX.of I⟩,?_⟩;refine wR (K:=K) (a:=W) (xs:=e) (λi σ H'=>ak H1 H'/\(EL λv1 v3=>σ=[some (.ref p),v1,some (.str (o9 " " hd (S.take i))),v3])) ⟨ak.refl _,_,_,rfl⟩ (λi σ H' _ h=>ak.tseq h.1 (aX.of I)) ?_ ?_
   ·rintro i v σ H2 Z⟨M,v1,v3,rfl⟩;obtain⟨tx,ax,y⟩:=jf h5 i v Z;have ad:=X i;have al:(o9 " " hd (S.take i)++" ").length<=10010:=by rw[eW,w5];omega
    have an:=y.len;have u:=s1.trans M;have eg:=qb (z:=" ") (x:=hd) ax;refine aq ?_;rcases y with y|⟨fs,y,rfl⟩
    ·rcases y with⟨rfl,_⟩|⟨z,rfl,hz,rfl⟩
     ·refine U rfl ⟨_,"tuple",_,false,rfl,.inl (.str tx),cY (by decide+kernel),false,rfl,bU ?_⟩;exact U rfl ⟨_,U rfl ⟨rfl,by rw[w5];omega,U rfl (.inr ⟨tx,rfl,_,U rfl ⟨rfl,by omega,M,_,_,by rw[eg];rfl⟩⟩)⟩⟩
     ·refine U rfl ⟨_,"tuple",_,false,rfl,.inl (.int z),cY (by decide+kernel),false,rfl,bU ?_⟩;exact U rfl ⟨_,U rfl ⟨rfl,by rw[w5];omega,U rfl (.inl ⟨z,rfl,tR (k_ hz (by decide+kernel)),_,U rfl ⟨rfl,by have an:(Str.ofString (toString z)).length<=1010:=an;omega,M,_,_,by rw[eg];rfl⟩⟩)⟩⟩
    ·obtain⟨t2,a2,rfl,ap,G,al⟩:=y.kp (.of u);refine U rfl ⟨_,"tuple",_,true,rfl,.inr ⟨t2,U rfl ⟨ap,rfl⟩⟩,cY (by decide+kernel),true,rfl,bq ?_⟩;exact U rfl ⟨_,U rfl ⟨rfl,by rw[w5];omega,U rfl ⟨t2,false,a2,fs,rfl,ap,G,al,λH6 s6=>⟨_,U rfl ⟨rfl,by omega,M.trans s6,_,_,by rw[eg];rfl⟩⟩⟩⟩⟩
   ·rintro σ H2⟨M,v1,v3,rfl⟩;rw[g_ (by omega),vL];exact U rfl (q H2 (s1.trans M))|trial h1 h2 h3 h4 h5 h6 h7 h8=>
   rename_i p n l av rv sv as ss r;refine U rfl (rX h1 rfl ⟨rfl,U rfl (bG ?_)⟩);obtain⟨aa,a3,rfl,a5,a6,a7⟩:=id h4;refine U rfl (rX h1 rfl (U rfl (rX h1 rfl (U rfl (rX h1 rfl (U rfl (rX h1 rfl ⟨aa,false,a3,as,rfl,a5,a6,a7,λH2 u=>?_⟩)))))));obtain⟨sa,a8,rfl,ba,bb,R⟩:=h5.kp (.of u);refine U rfl (rX (ak.tseq u h1) rfl ⟨sa,false,a8,ss,rfl,ba,bb,R,λH3 s3=>?_⟩);have J:=u.trans s3;refine U rfl (rX (ak.tseq J h1) rfl ⟨r,rv,rfl,h6.kp (.of J),h7,h7,h8,λH4 s4=>?_⟩);refine⟨ls rfl,λl1 ad=>aq ?_⟩;refine⟨rfl,U rfl ⟨_,l1,["trial",n,l,dg as,dg ss,r.txt],rfl,rfl,aW.of af,?_,q _ (aj (J.trans s4) ad)⟩⟩;have k2:=h4.len;have k3:=h5.len;have k4:=Ru.txt_le h8 h7;have k5:(Str.ofString "trial").length=5:=by decide+kernel
   refine pf (n:=20000) ?_ (by decide) (by simp);rw[aJ,aJ,aJ,aJ,aJ,aJ,fm];lia|visit h1 h2 h3 h4 h5=>
   rename_i p g mv L;refine U rfl (rX h1 rfl ⟨rfl,U rfl (gN (by decide+kernel) ?_)⟩);refine U rfl (rX h1 rfl ⟨rfl,U rfl (bG ?_)⟩);have kv:(Str.ofString "visit ").length=6:=by decide+kernel
   have kg:(Str.ofString "visit "++g).length<=100:=by rw[eW];omega
   have kb:(Str.ofString "visit "++g++Str.ofString " ").length<=101:=by rw[eW,w5];omega
   refine U rfl (rX h1 rfl ⟨_,U rfl ⟨rfl,by omega,_,U rfl ⟨rfl,by rw[w5];omega,?_⟩⟩⟩);obtain⟨pm,e,rfl,hT,bz,bc⟩:=h3;refine U rfl (rX h1 rfl ⟨pm,rfl,⟨_,hT⟩,λD hD=>?_⟩);have sD:∀c,ak H (aG H D (.lst c)):=λc=>aj (ak.refl _) hD;refine cJ (K:=K) (a:=pm) (xs:=e) (λi c H'=>c=((L.take i).map uU).map V.str/\H'=aG H D (.lst c)) ⟨by rw[oi];rfl,rfl⟩ (λi c H' _ h=>h.2▸ak.tseq (sD _) hT) ?_ ?_
   ·rintro i v c _ Z⟨rfl,rfl⟩;have hi:i<e.length:=(d_.mp Z).1;have B:L[i]?=some (L[i]'(by omega)):=fy (by omega);generalize L[i]'(by omega)=m at B;obtain⟨b,hb,hB⟩:=bc i m B;rw[hb]at Z;cases Z;have y:=h5 m (ga B);have hn:(Str.ofString (toString m.2)).length<=32:=io y.2;have hw:=y.1;have he:(Str.ofString "=").length=1:=by decide+kernel
    have l1:(m.1++Str.ofString "=").length=m.1.length+1:=by rw[eW,he]
    have bi:((L.take i).map uU).map V.str++[V.str (m.1++Str.ofString "="++Str.ofString (toString m.2))]=((L.take (i+1)).map uU).map V.str:=by rw[lx B,g6];rfl
    refine⟨b,U rfl ⟨ak.tseq (sD _) hB,rfl,_,U rfl (aq ⟨_,U rfl (aq ⟨rfl,gU (bq ?_)⟩)⟩)⟩⟩;refine U rfl ⟨_,U rfl ⟨rfl,by rw[he];omega,U rfl (.inl ⟨m.2,rfl,jl y.2,_,U rfl ⟨rfl,by omega,af,?_,lf hi ⟨bi,by rw[eh]⟩⟩⟩)⟩⟩;rw[b_,b_,i_,gg];lia
   ·rintro c _⟨rfl,rfl⟩;have km:=nD h5 h4;refine⟨D,true,_,L.map uU,rfl,aW.of af,?_,by rw[b_];exact h4,λH' s'=>⟨_,U rfl ⟨rfl,by omega,?_⟩⟩⟩
    ·rw[g_ (by omega),ri];exact nC h5
    ·rw[AK];exact q H' ((sD _).trans s')
end
def de(h:H b=some o)(n:H b=none):False:=by rw[h]at n;cases n
section
variable{P:MU}{w:World}{K:MP}{a:i0}{I H g D F:Hp}{M p:cA}{Z j:ZS}{ns:M0}{A:zN}{dd C:Addr}{c:Nat}{B s:List (cb×V)}{ls t:MV}{E v:List (Str×Nat)}{d:Dd}{f:List V}
def bw.ntup(h:bw P w K a H M Z)(L:hE M Z b):(∀f,H b≠some (.tup f))/\∀x y,H b≠some (.frz x y):=by
 have lst:∀l f,H l=some (.lst f)->(∀N,H l≠some (.tup N))/\∀x y,H l≠some (.frz x y):=λl f e=>by rw[e];exact⟨λ_ z=>(nomatch z),λ_ _ z=>(nomatch z)⟩
 rcases L with⟨r,O,rfl⟩|⟨i,hi,x,k,e⟩|⟨x,k,e⟩
 ·obtain⟨o,q⟩:=mw P w a Z O;have im:=(h.imm (H':=λb=>if b=Z.G r then none else H b) q λb o e n=>by show(if b=Z.G r then none else H b)=_;rw[g8 n];exact e).kp;refine⟨λf e=>?_,λx y e=>?_⟩
  ·have:=im.tp _ _ e;rw[hQ rfl]at this;cases this
  ·obtain⟨_,this⟩:=im.fz _ _ ⟨_,e⟩;rw[hQ rfl]at this;cases this
 ·obtain⟨_,⟨m,q,_⟩,_⟩:=h.tabs i _ (fy hi);obtain⟨l,f,u,J⟩:=q.ex x k;rw[u]at e;cases e;exact lst _ _ J
 ·obtain⟨l,f,u,J⟩:=h.came.ex x k;rw[u]at e;cases e;exact lst _ _ J
def bw.stp(h:bw P w K a H M Z)(st:f8 H M Z g p j):Kp H g:=⟨λu f e=>st.fr _ _ e λz=>(h.ntup z).1 _ e,λu o⟨b,e⟩=>⟨b,st.fr _ _ e λz=>(h.ntup z).2 _ _ e⟩⟩
def f8.nf(st:f8 H M Z g p j)(e:H b=some o)(n:¬hE M Z b):¬hE p j b:=λz=>(st.fp b z).elim n (de e)
end
def oG{s:Str}{n:Nat}{x:Str}(h:u7 s n x)(hn:n<=40):x.length<=40:=ku h.hi hn
def xm{z:Int}(h:-aY<=z/\z<=aY):qB (.int z) (fY z):=.inr ⟨z,rfl,k_ (wE h) (by decide+kernel),rfl⟩
def nh{z:Int}(h:0<=z)(h1:z<=1000):qB (.int z) (fY z):=xm ⟨by have:=dZ;omega,by have:=dZ;omega⟩
def sd{c:MV}(h:∀x∈c,Wd x):Paired qB (c.map V.str) c:=by induction c with|nil=>exact .nil|cons x r b=>exact .cons (.inl ⟨rfl,ku (oG (h x ir) (by decide)) (by decide)⟩) (b λy d=>h y (hY _ d))
def tV{c:M0}(h:∀x∈c,-aY<=x/\x<=aY):Paired qB (c.map V.int) (c.map fY):=by induction c with|nil=>exact .nil|cons x r b=>exact .cons (xm (h x ir)) (b λy d=>h y (hY _ d))
def kh.row{M:cA}{d:Dd}{n:List V}{o:Addr}{c:Nat}{ns:M0}(h:kh K H M d n)(f:aX K H o n)(g:nN M c)(q:Gz ns M d):∃t,gM K H (.ref o) t:=by have u:=dZ;have i:∀{x:Str},Wd x->x.length<=40:=λh=>oG h (by decide);have k:∀{x:Str},Wd x->l7 K H (.str x) x:=λh=>dC (ku (i h) (by decide));have b:∀{t:eK},t∈M.trs->l7 K H (.str t.nm) t.nm:=λh=>k (g.tr _ h).wd;cases h with
 |layer h1 h2 h3 h4 h5=>exact⟨_,.plain f (by decide+kernel) (by decide+kernel) (by decide+kernel) (.cons (k h1) (.cons (.inl (nh h3.1 (by have:=g.p.2;omega))) .nil)) (oa rfl)⟩|@trial x ar sh C D h1 h2 h3 h4 h5 h6 h7 h8 h9 v E hc hd F G=>
  refine⟨_,.trial f (i h1.wd) ?_ ⟨ar,_,rfl,h3,sd h1.aw,by have:=h1.a4;omega⟩ ⟨sh,_,rfl,h9,sd λs y=>?_,by have:=h1.s8;omega⟩ h4 h1.hg (h6.fit λw z=>ku (i (h7 w z)) (by decide))⟩
  ·obtain⟨l,A,e⟩:=j_.mp h1.hm;rw[<-e];exact i (g.la l A).wd
  ·obtain⟨t,B,e⟩:=j_.mp (v s y);rw[<-e];exact(g.tr t B).wd|share h1 h2 h3 h4=>exact⟨_,.plain f (by decide+kernel) (by decide+kernel) (by decide+kernel) (.cons (b h1) (.cons (.inr ⟨_,⟨_,U rfl ⟨h2,tV λx j=>⟨by have:=h4 x j;omega,by have:=q x j;omega⟩,by rw[b_,h3];have:=(g.tr _ h1).a4;omega⟩⟩,rfl⟩) .nil)) (oa rfl)⟩|deal h1 r h2 h3 h4=>exact⟨_,.plain f (by decide+kernel) (by decide+kernel) (by decide+kernel) (.cons (b h1) (.cons (.inl (nh r.1 r.2)) (.cons (.inr ⟨_,⟨_,U rfl ⟨h2,tV λx j=>⟨by have:=h4 x j;omega,(h4 x j).2⟩,by rw[b_,h3];have:=(g.tr _ h1).a4;omega⟩⟩,rfl⟩) .nil))) (oa rfl)⟩|hold h1 h2=>exact⟨_,.plain f (by decide+kernel) (by decide+kernel) (by decide+kernel) (.cons (k (g.la _ h1).wd) (.cons (.inl (nh h2 q)) .nil)) (oa rfl)⟩|pause h1=>exact⟨_,.plain f (by decide+kernel) (by decide+kernel) (by decide+kernel) (.cons (b h1) .nil) (oa rfl)⟩|go h1=>exact⟨_,.plain f (by decide+kernel) (by decide+kernel) (by decide+kernel) (.cons (b h1) .nil) (oa rfl)⟩|close h1=>exact⟨_,.plain f (by decide+kernel) (by decide+kernel) (by decide+kernel) (.cons (b h1) .nil) (oa rfl)⟩|bar h1 h2=>exact⟨_,.plain f (by decide+kernel) (by decide+kernel) (by decide+kernel) (.cons (dC (ku (oG h1 (by decide)) (by decide))) (.cons (b h2) .nil)) (oa rfl)⟩|visit h1 h2 h3 h4 h5=>exact⟨_,.visit f (oG h1 (by decide)) h2 (by omega) λm hm=>⟨i (h3 m hm).1,(h3 m hm).2⟩⟩
theorem gM.len{v:V}{t:Str}(h:gM K H v t):t.length<=20000:=by
 cases h with|@plain p hd k c h1 h2 h3 h4 h5 h6=>have d:=ip " " (hd::c);have b:=kn h5;rw[w5,aJ,il]at d;lia|@trial p n l m o q e f r h1 h2 h3 h4 h5 h6 h7 h8=>
  have:=ip " " ["trial",n,l,dg e,dg f,r.txt];have b:=h4.len;have s:=h5.len;have u:=Ru.txt_le h8 h7;have i:(Str.ofString "trial").length=5:=by decide+kernel
  rw[w5,aJ,aJ,aJ,aJ,aJ,aJ,fm]at this;simp at this;lia|@visit p g x j h1 h2 h3 h4 h5=>
  have:=ip " " ["visit",g,dg (j.map uU)];have b:=nD h5 h4;have i:(Str.ofString "visit").length=5:=by decide+kernel
  rw[w5,aJ,aJ,aJ,fm]at this;simp at this;lia
def gu(p:Nat)(sa:Int):Str:=Str.ofString "house "++fY p++Str.ofString " "++fY sa
def lf1:(Str.ofString "\n").length=1:=by decide+kernel
structure qZ(K:MP)(H:Hp)(M:cA)(Z:ZS)(rs:MV):Prop where
 rows:Paired (gM K H) Z.ds rs
 len:rs.length<=63
 sa:0<=M.salt/\M.salt<=aY
theorem qZ.kp{M:cA}{Z:ZS}{c:MV}(h:qZ K H M Z c)(e:Kp H H'):qZ K H' M Z c:=⟨Paired.mapP h.rows λ_ _ q=>q.kp e,h.len,h.sa⟩
def CM{d:List V}{c:MV}(h:Paired (gM K H) d c):k9 c<=20000*c.length:=by induction h with|nil=>exact fx _|cons r t b=>have:=r.len;rw[aJ,il];lia
def mn{p:Nat}(h:p<=997):-aY<=(p:Int)/\(p:Int)<=aY:=⟨by have:=dZ;omega,by have:=dZ;omega⟩
def tX{p:Nat}{sa:Int}(h:p<=997)(c:0<=sa/\sa<=aY):(Str.ofString "house "++fY p).length<=40/\(Str.ofString "house "++fY p++Str.ofString " ").length<=41/\(gu p sa).length<=80:=by
 have b:(Str.ofString "house ").length=6:=by decide+kernel
 have d:=io (mn h);have e:=io (n:=sa) ⟨by have:=dZ;omega,c.2⟩;unfold gu;simp only[eW,w5,b];lia
def qZ.ok{M:cA}{Z:ZS}{c:MV}(h:qZ K H M Z c)(d:M.p<=997):JoinOk "\n" (gu M.p M.salt::c)=true:=by refine rP ?_;have h1:=CM h.rows;have h2:=h.len;have h3:=(tX d h.sa).2.2;rw[aJ,lf1,il];lia
inductive Cg(P:MU)(w:World)(K:MP)(a:i0)(vs:List V)(H:Hp)(Q:VK)(_E:XK):Prop|mk(M:cA)(Z:ZS)(c:Nat)(_:vs=[.ref (Z.G .hh)])(_:cR P w K a H M Z c)(_:Q (.int M.p) H)
inductive E6(P:MU)(w:World)(K:MP)(a:i0)(vs:List V)(H:Hp)(Q:VK)(_E:XK):Prop|mk(M:cA)(Z:ZS)(c:Nat)(_:vs=[.ref (Z.G .hh)])(_:cR P w K a H M Z c)(_:Q (.int M.salt) H)
inductive HD(P:MU)(w:World)(K:MP)(a:i0)(vs:List V)(H:Hp)(Q:VK)(_E:XK):Prop|mk(M:cA)(Z:ZS)(c:Nat)(_:vs=[.ref (Z.G .hh)])(_:cR P w K a H M Z c)(_:∀(r:Addr)H',ak H H'->H' r=some (.lst Z.ds)->Q (.ref r) H')
inductive Fg(P:MU)(w:World)(K:MP)(a:i0)(vs:List V)(H:Hp)(Q:VK)(_E:XK):Prop|mk(M:cA)(Z:ZS)(c:Nat)(rs:MV)(_:vs=[.ref (Z.G .hh)])(_:cR P w K a H M Z c)(_:qZ K H M Z rs)(_:∀H',ak H H'->Q (.str (Txt.join "\n" (gu M.p M.salt::rs))) H')
section
def tO(T:Txt K mg a):aO P w K mg base cZ 1 a.eO.x a.eO.d ["self"] (Cg P w K a):=by
 refine T.eO.ok sO λb A outer s H f Q E i h=>?_
 ·obtain⟨M,Z,c,rfl,e,q⟩:=h;refine⟨_,(ah (az (aK K rfl (Y 0)))),?_⟩;exact iZ e.g.house T.aF T.cg rfl rfl q
def uR(T:Txt K mg a):aO P w K mg base cZ 1 a.fK.x a.fK.d ["self"] (E6 P w K a):=by
 refine T.fK.ok uD λb A outer s H f Q E i h=>?_
 ·obtain⟨M,Z,c,rfl,e,q⟩:=h;refine⟨_,(ah (az (aK K rfl (Y 0)))),?_⟩;exact iZ e.g.house T.aF T.gn rfl rfl q
def uT(T:Txt K mg a):aO P w K mg base cZ 1 a.fM.x a.fM.d ["self"] (HD P w K a):=by
 refine T.fM.ok uE λe A outer s H i Q E j h=>?_
 ·obtain⟨M,Z,c,rfl,b,q⟩:=h;refine⟨_,(ah (az (bx (ua K rfl) (by rfl) T.zm L2.qo (ac (aK K rfl (Y 0)) O)))),?_⟩;exact iZ b.g.house T.aF T.iO rfl rfl ⟨Z.G .dl,U rfl ⟨.inl (aW.of b.g.dees),λl f=>q l _ (aj (ak.refl H) f) af⟩⟩
def jw(T:Txt K mg a):aO P w K mg base cZ 10 a.eE.x a.eE.d ["house"] (Fg P w K a):=by
 refine T.eE.ok jp λaa A outer s H vs Q E i h=>?_
 ·obtain⟨M,Z,c,u,rfl,n,j,q⟩:=h;refine⟨_,(ag (bd 1 jp.nd (lL (Y 0) T.aF T.eO.m ((tO (P:=P) (w:=w) T).mono (by decide)) i T.eO.b .nil be)) (ag (bd 2 jp.nd (lL (Y 0) T.aF T.fK.m ((uR (P:=P) (w:=w) T).mono (by decide)) i T.fK.b .nil be)) (ah (az (cI K rfl PySem.F.plainAttrs_str PySem.F.slot_str_join PySem.F.type_str_join (eD K rfl) ay (ac (au pK (a0 (ac (Af (kH ay (kH (Ae (Y 1)) (kH ay (kH (Ae (Y 2)) CW))))) O)) (qj kS ["deed"] [] [3] (ai kA) (bO 3) (fj K rfl (lL (Y 0) T.aF T.fM.m ((uT (P:=P) (w:=w) T).mono (by decide)) i T.fM.b .nil be)) (λcl C s₀ H₀ ex=>⟨(mG kS ["deed"] 3),bJ,(pc T.iB (wC T) i (ac (Y 3) O))⟩))) O)))))),?_⟩
  have y:=n.g.house;have z:=n.ok.p;have ad:(16777216:Nat)=sizeLine:=gg.symm;(iterate 2 refine oE y rfl rfl ⟨M,Z,c,rfl,n,aq (Bl ?_)⟩);have hh:=tX z.2 j.sa;have B:-aY<=M.salt/\M.salt<=aY:=⟨by have:=dZ;have:=j.sa.1;omega,j.sa.2⟩;have l:Str.empty++Str.ofString "house "=Str.ofString "house ":=mD _;have k0:(Str.ofString "house ").length=6:=by decide+kernel
  refine⟨rfl,U rfl ⟨by rw[l];omega,U rfl (.inl ⟨M.p,rfl,jl (mn z.2),U rfl ⟨(?_:(Str.empty++Str.ofString "house "++fY M.p).length<=sizeLine),U rfl ⟨(?_:(Str.empty++Str.ofString "house "++fY M.p++Str.ofString " ").length<=sizeLine),U rfl (.inl ⟨M.salt,rfl,jl B,U rfl ⟨(?_:(Str.empty++Str.ofString "house "++fY M.p++Str.ofString " "++fY M.salt).length<=sizeLine),(?_:(Str.empty++Str.ofString "house "++fY M.p++Str.ofString " "++fY M.salt).length<=sizeLine),?_⟩⟩)⟩⟩⟩)⟩⟩
  ·rw[l];omega
  ·rw[l];omega
  ·rw[l];have:=hh.2.2;unfold gu at this;omega
  ·rw[l];have:=hh.2.2;unfold gu at this;omega
  rw[show Str.empty++Str.ofString "house "++Str.ofString (toString (M.p:Int))++Str.ofString " "++Str.ofString (toString M.salt)=gu M.p M.salt from by rw[l];rfl];refine⟨ls rfl,λl1 G=>?_⟩;refine mH G λH1 t I=>?_;refine oE (t _ _ y) rfl rfl ⟨M,Z,c,rfl,n.same t,λr H2 J i=>?_⟩;have al:=Paired.length j.rows;have L:=(j.kp (.of (t.trans J))).rows;have an:=j.len;refine⟨r,rfl,⟨_,aW.of i⟩,λD S=>?_⟩;refine j9 (K:=K) (a:=r) (xs:=Z.ds) (λk e H'=>e=(u.take k).map V.str/\ak H2 H'/\H' D=some (.lst e)) ⟨by rw[oi];rfl,aj (ak.refl _) S,af⟩ (λk e H' _ h=>aW.of (h.2.1 _ _ i)) ?_ ?_
  ·rintro k v e H3 W⟨rfl,o,f⟩;have hk:=(d_.mp W).1;obtain⟨tx,N,hd⟩:=Paired.at_ L k v W;exact aq (gU (bq (U rfl ⟨v,tx,rfl,hd.kp (.of o),λH6 X=>⟨X _ _ f,by rw[b_,i_,gg];omega,lf hk ⟨gw N,bC (o.trans X) S,af⟩⟩⟩)))
  ·rintro e H3⟨rfl,o,f⟩;rw[g_ (by omega)]at f;refine⟨l1,D,[.str (gu M.p M.salt)],u.map V.str,rfl,rfl,o _ _ (J _ _ I),f,by rw[b_,gg];simp;omega,λp2 R=>?_⟩;exact⟨_,p2,gu M.p M.salt::u,rfl,rfl,aW.of af,j.ok z.2,q _ (aj ((t.trans J).trans o) R)⟩
end
def zU{d:Type}{c:List d}{x y:d}{i:Nat}(h:(c++[x])[i]?=some y):c[i]?=some y\/(i=c.length/\y=x):=by
 rcases L9 i c.length with z|z
 ·exact .inl (by rw[<-h];exact(rV z).symm)
 ·rw[z8 z]at h;obtain⟨b,e⟩:=d_.mp h;have b:i-c.length<1:=b;obtain rfl:i=c.length:=by omega
  simp only[Nat.sub_self,List.getElem_cons_zero]at e;exact .inr ⟨rfl,e.symm⟩
section
variable{ns:M0}{M a:cA}{d:Dd}
def Dd.na(h:d.adds=false):ym M d=gY M/\vg M d=i3 M:=by cases d<;>first|exact⟨rfl,rfl⟩|cases h
def m9.keep(h:m9 ns M)(c:a.p=M.p)(g:a.salt=M.salt)(e:a.las.map (λl=>(l.nm,l.sl))=M.las.map λl=>(l.nm,l.sl))(f:a.trs.map (λt=>(t.nm,t.arms))=M.trs.map λt=>(t.nm,t.arms)):m9 ns a/\a.p=M.p/\a.salt=M.salt/\gY a=gY M/\i3 a=i3 M:=by
 have a1:∀N:cA,gY N=(N.las.map λl=>(l.nm,l.sl)).map Prod.fst:=λN=>by rw[ri];rfl
 have b:∀N:cA,i3 N=(N.trs.map λt=>(t.nm,t.arms)).map λx=>(x.1,x.2.length):=λN=>by rw[ri];rfl
 have k:a.las.length=M.las.length:=by have:=r4 List.length e;rw[b_,b_]at this;exact this
 refine⟨⟨λi l m=>?_,λj t n=>?_,by rw[k,c];exact h.lp,by rw[c];exact h.pr⟩,c,g,by rw[a1,a1,e],by rw[b,b,f]⟩
 ·have q:(M.las.map λl=>(l.nm,l.sl))[i]?=some (l.nm,l.sl):=by rw[<-e,ge,m];rfl
  rw[ge]at q;obtain⟨o,h0,q⟩:=Option.map_eq_some_iff.mp q;rw[<-(Mm q).1,<-(Mm q).2,c];exact h.ln i o h0
 ·have q:(M.trs.map λt=>(t.nm,t.arms))[j]?=some (t.nm,t.arms):=by rw[<-f,ge,n];rfl
  rw[ge]at q;obtain⟨r,h0,q⟩:=Option.map_eq_some_iff.mp q;rw[<-(Mm q).1,<-(Mm q).2];exact h.tn j r h0
def iU.nx(h:m9 ns M)(n:iU M d a)(f:Gz ns M d):m9 ns a/\a.p=M.p/\a.salt=M.salt/\gY a=ym M d/\i3 a=vg M d:=by cases n with
 |@layer nm sl=>
  obtain⟨k,m,o⟩:=f;refine⟨⟨λi l b=>?_,h.tn,?_,h.pr⟩,rfl,rfl,g6,rfl⟩
  ·rcases zU b with b|⟨rfl,rfl⟩
   ·exact h.ln i l b
   ·exact⟨k,m⟩
  ·show(M.las++[_]).length<=M.p+1;rw[gV];exact o|@trial x=>
  refine⟨⟨h.ln,λj t e=>?_,h.lp,h.pr⟩,rfl,rfl,rfl,g6⟩;rcases zU e with e|⟨rfl,rfl⟩
  ·exact h.tn j t e
  ·exact f|share b hh hn=>exact h.keep rfl rfl (dX b _ rfl) rfl|deal b hh hn=>exact h.keep rfl rfl (dX b _ rfl) rfl|hold b=>exact h.keep rfl rfl (dX b _ rfl) rfl|pause c=>exact h.keep rfl rfl rfl (dX c _ rfl)|close c b hh=>exact h.keep rfl rfl (dX b _ rfl) (dX c _ rfl)|bar c b hh=>exact h.keep rfl rfl (dX b _ rfl) (dX c _ rfl)|visit v=>
  refine h.keep v.p v.salt (th λi=>?_) (by rw[v.trs]);rw[ge,ge]
  by_cases hi:i<M.las.length
  ·obtain⟨g,h1,_⟩:=v.las i _ (fy hi);rw[h1,fy hi];rfl
  ·rw[l_ (by have:=v.len;lia),l_ (by lia)]
end
structure vZ(P:MU)(w:World)(K:MP)(a:i0)(H0 H:Hp)(ns:M0)(M:cA)(Z:ZS)(A:zN)(c:Nat)(ls:MV)(ts:List (Str×Nat)):Prop where
 z:cR P w K a H M Z c
 pl:pi K H M.p M.salt ls ts A
 pn:m9 ns M
 f1:¬hE M Z A.pl
 f2:¬hE M Z A.L
 f3:¬hE M Z A.T
 bs:∀b o,H0 b=some o->H b=some o/\¬hE M Z b/\b≠A.L/\b≠A.T
section
variable{P:MU}{w:World}{K:MP}{a:i0}{f H j m:Hp}{M i:cA}{Z t:ZS}{ns:M0}{A:zN}{v:Addr}{c:Nat}{ls q:MV}{u r:List (Str×Nat)}{d:Dd}
theorem vZ.same(h:vZ P w K a f H ns M Z A c ls u)(s:ak H j):vZ P w K a f j ns M Z A c ls u:={h with z:=h.z.same s,pl:=h.pl.same s,bs:=λb o e=>⟨s _ _ (h.bs b o e).1,(h.bs b o e).2⟩}
def vZ.dr(h:vZ P w K a f H ns M Z A c (gY M) (i3 M))(sq:aW K f v (ns.map V.int))(l:ns.length<=63):vb K H v ns M A c:=⟨ak.seq (λb o e=>(h.bs b o e).1) sq,l,h.pl,h.z.ok,h.pn,λj g=>ak.seq (λb o e=>g _ _ (h.bs b o e).1 (h.bs b o e).2.2.1) sq⟩
def vZ.chg(h:vZ P w K a f H ns M Z A c ls u)(n:KF A H j)(l:pi K j M.p M.salt q r A):vZ P w K a f j ns M Z A c q r:=by
 obtain⟨o,s,kp,k⟩:=n;rcases s with rfl|rfl
 ·exact{h with z:={h.z with g:=h.z.g.out h.f2 kp k},pl:=l,bs:=λb o e=>⟨k _ _ (h.bs b o e).1 (h.bs b o e).2.2.1,(h.bs b o e).2⟩}
 ·exact{h with z:={h.z with g:=h.z.g.out h.f3 kp k},pl:=l,bs:=λb o e=>⟨k _ _ (h.bs b o e).1 (h.bs b o e).2.2.2,(h.bs b o e).2⟩}
def vZ.fin(h:vZ P w K a f H ns M Z A c (ym M d) (vg M d))(n:iU M d i)(st:f8 H M Z m i t)(p:cR P w K a m i t (c+1))(s:Gz ns M d):vZ P w K a f m ns i t A (c+1) (gY i) (i3 i):=by
 have kp:=h.z.g.stp st;obtain⟨x,y,B,C,D⟩:=n.nx h.pn s;obtain⟨E,k,l⟩:=h.pl.T;refine⟨p,?_,x,st.nf h.pl.pl h.f1,st.nf h.pl.L h.f2,st.nf k h.f3,λb o e=>?_⟩
 ·rw[y,B,C,D];exact⟨st.fr _ _ h.pl.pl h.f1,st.fr _ _ h.pl.L h.f2,⟨E,st.fr _ _ k h.f3,BT.kp kp l⟩,h.pl.n1,h.pl.n2,h.pl.n3⟩
 ·obtain⟨b1,b2,b3⟩:=h.bs b o e;exact⟨st.fr _ _ b1 b2,st.nf b1 b2,b3⟩
def vZ.not(h:vZ P w K a f H ns M Z A c (ym M d) (vg M d))(hd:d.adds=false)(s:ak H m):vZ P w K a f m ns M Z A (c+1) (gY M) (i3 M):=by obtain⟨b,e⟩:=Dd.na (M:=M) hd;rw[b,e]at h;exact{h.same s with z:=(h.same s).z.mono (qq c)}
end
def oY(p:Nat)(sa:Int):cA:=⟨p,sa,[],[],[]⟩
def wM(h ln tn c dl dx:Addr):ZS:=⟨λr=>match r with|.hh=>h|.ln=>ln|.tn=>tn|.ci=>c|_=>dl,λ_=>dx,[],[],λ_=>[],λ_=>[],λ_=>[],λ_=>dx,λ_=>.non,λ_=>dx⟩
section
variable{P:MU}{w:World}{K:MP}{a:i0}{d f H:Hp}{p:Nat}{sa:Int}{h ln tn c dl dx:Addr}
def Gd(e:2<=p/\p<=997):nN (oY p sa) 0:=⟨e,.nil,.nil,λl g=>(nomatch g),λt b=>(nomatch b),λx i=>(nomatch i),kw _,kw _,kw _,λt b=>(nomatch b)⟩
def DW(hh:H h=some (.ins a.ck dx [("own_prime",.int p),("own_salt",.int sa),("layer_named",.ref ln),("trial_named",.ref tn),("came_into",.ref c),("deeds",.ref dl)]))(m:H ln=some (.dK []))(n:H tn=some (.dK []))(s:H c=some (.dK []))(u:H dl=some (.lst []))(n1:ln≠tn)(n2:ln≠c)(n3:tn≠c):bw P w K a H (oY p sa) (wM h ln tn c dl dx):=by
 have at_:∀r o,cont P w a (oY p sa) (wM h ln tn c dl dx) r=some o->H ((wM h ln tn c dl dx).G r)=some o:=λr o e=>by cases r<;>first|(obtain rfl:=kl e;assumption)|cases e
 refine⟨λr j o k e b q=>?_,at_,λi l g=>(nomatch g),λi t v=>(nomatch v),λi l g=>(nomatch g),.nil⟩;have x:=at_ r o e
 have y:=at_ j k b
 rw[q,y]at x;cases r<;>cases j<;>first|rfl|(cases e;done)|(cases b;done)|exact absurd q n1|exact absurd q n2|exact absurd q n3|exact absurd q.symm n1|exact absurd q.symm n2|exact absurd q.symm n3|(cases e;cases b;cases x;done)
def yx(g:hE (oY p sa) (wM h ln tn c dl dx) b):b=h\/b=ln\/b=tn\/b=c\/b=dl:=by
 rcases g with⟨r,j,e⟩|⟨i,hi,_⟩|⟨x,k,_⟩
 ·cases r
  ·exact .inl e
  ·exact .inr (.inl e)
  ·exact .inr (.inr (.inl e))
  ·exact .inr (.inr (.inr (.inl e)))
  ·exact .inr (.inr (.inr (.inr e)))
  all_goals cases j
 ·cases hi
 ·cases k
end
def Lg(J:St->Hp->Prop)(h1:∀c H,J c H->u D c H)(h2:∀(N:St->Hp->Prop)(R:VK)(B C:St->Hp->Prop),(∀c H,J c H->N c H)->t ⟨N,R,B,C⟩ c H):AT t u D c H:=h2 (u D) D.rt D.bk D.ct h1
def Li{t:TS}{N:St->Hp->Prop}{R:VK}{B C:St->Hp->Prop}{c:St}(h:∀(R:VK)(B C:St->Hp->Prop),t ⟨N,R,B,C⟩ c H):t ⟨N,R,B,C⟩ c H:=h R B C
def xc.pr(h:xc p)(i:Nat)(hi:2+(i:Int)<(p:Int)):(p:Int)%(2+(i:Int))≠0:=λz=>by have h1:=(by decide+kernel:∀p∈[2,3,5,7,11,13,17,37,61],∀i,i<61->2+i<p->p%(2+i)≠0) p h i (by have:=h.le;omega) (by omega);have e:(((p%(2+i):Nat)):Int)=(p:Int)%((2+i:Nat):Int):=Int.natCast_emod _ _;rw[show(((2+i:Nat)):Int)=2+(i:Int)by lia,z]at e;lia
structure EA(K:MP)(H0 H:Hp)(M:cA)(Z:ZS)(A:zN)(rl:Addr)(rs:MV):Prop where
 at_:H rl=some (.lst ((gu M.p M.salt::rs).map V.str))nf:¬hE M Z rl
 n1:rl≠A.pl
 n2:rl≠A.L
 n3:rl≠A.T
 n0:H0 rl=none
 tx:qZ K H M Z rs
section
variable{P:MU}{w:World}{K:MP}{a:i0}{j H q r:Hp}{M l:cA}{Z m:ZS}{ns:M0}{A:zN}{f:Addr}{i:MV}{c:Nat}{ls:MV}{u:List (Str×Nat)}{d:Dd}{t:Str}{v:Addr}
def EA.same(h:EA K j H M Z A f i)(s:ak H q):EA K j q M Z A f i:={h with at_:=s _ _ h.at_,tx:=h.tx.kp (.of s)}
def EA.chg(h:EA K j H M Z A f i)(e:KF A H q):EA K j q M Z A f i:=by
 obtain⟨o,b,kp,g⟩:=e;refine{h with at_:=g _ _ h.at_ λz=>?_,tx:=h.tx.kp kp};rcases b with rfl|rfl
 ·exact h.n2 z
 ·exact h.n3 z
def EA.step(h:EA K j H M Z A f i)(n:bw P w K a H M Z)(st:f8 H M Z r l m)(o:l.p=M.p)(g:l.salt=M.salt)(e:m.ds=Z.ds++[.ref v])(hd:gM K H (.ref v) t)(s:i.length<=62):(r f=some (.lst ((gu l.p l.salt::i).map V.str))/\qZ K r l m (i++[t]))/\¬hE l m f:=by have kp:=n.stp st;refine⟨⟨by rw[o,g];exact st.fr _ _ h.at_ h.nf,?_,by rw[gV];exact C_ s,by rw[g];exact h.tx.sa⟩,st.nf h.at_ h.nf⟩;rw[e];exact Paired.snoc (h.tx.kp kp).rows (hd.kp kp)
def vZ.put(h:vZ P w K a j H ns M Z A c ls u){p s:List V}(x:H f=some (.lst p))(nf:¬hE M Z f)(n1:f≠A.pl)(n2:f≠A.L)(n3:f≠A.T)(n0:j f=none):vZ P w K a j (aG H f (.lst s)) ns M Z A c ls u:=by
 have kp:Kp H (aG H f (.lst s)):=.lst x;have k:∀b ob,H b=some ob->b≠f->aG H f (.lst s) b=some ob:=λb ob e n=>by rw[ao n];exact e
 obtain⟨p,y,B⟩:=h.pl.T;exact{h with z:={h.z with g:=h.z.g.out nf kp k},pl:=⟨k _ _ h.pl.pl (mu n1),k _ _ h.pl.L (mu n2),⟨p,k _ _ y (mu n3),BT.kp kp B⟩,h.pl.n1,h.pl.n2,h.pl.n3⟩,bs:=λb o e=>⟨k _ _ (h.bs b o e).1 (aH e n0),(h.bs b o e).2⟩}
end
inductive Fe(P:MU)(w:World)(K:MP)(a:i0)(vs:List V)(H:Hp)(Q:VK)(_E:XK):Prop|mk(M:cA)(Z:ZS)(c:Nat)(dv:Addr)(d:Dd)(xs:List V)(_:vs=[.ref (Z.G .hh),.ref dv])(_:cR P w K a H M Z c)(_:c<=63)(_:aX K H dv xs)(_:kh K H M d xs)(_:(∀(M':cA)(Z':ZS)(H':Hp),iU M d M'->f8 H M Z H' M' Z'->cR P w K a H' M' Z' (c+1)->Z'.ds=Z.ds++[.ref dv]->Q (.bl true) H'))(_:(d.adds=false->∀H',ak H H'->Q (.bl false) H'))
section
def De(T:Txt K mg a)(q:w.params=a.pm):aO P w K mg base cZ 15 a.v8.x a.v8.d ["_law_house","_law_deed_here"] (Fe P w K a):=by
 refine T.v8.ok CJ λt A outer s H J Q E l h=>?_
 ·obtain⟨M,Z,c,u,d,v,rfl,n,hc,y,z,B,o⟩:=h;refine⟨_,(ag (Fz K rfl rfl rfl T.uW rfl T.wJ (λE p L N C=>(Gh (FW (Y 0) T.aF T.iX.m ((yb (P:=P) (w:=w) T q).mono (by decide)) l T.iX.b .nil C (ac (Y 1) O)))) (λR=>(ah (az gi)))) (ah (az gi))),?_⟩
  exact oE n.g.house rfl rfl (U rfl ⟨M,Z,c,u,d,v,rfl,n,hc,y,z,λD r S F G e nx st f l I i=>B F G e nx st f i,λj e k=>(U rfl ⟨T.lr,o j e k⟩),λj e k=>(U rfl ⟨T.lu,o j e k⟩)⟩)
end
inductive JW(P:MU)(w:World)(K:MP)(a:i0)(H0:Hp)(ns:M0)(A:zN)(sc h rl:Addr)(i:Nat)(σ:St)(H':Hp):Prop|mk(M:cA)(Z:ZS)(rs:MV)(v4 v5:Option V)(L:vZ P w K a H0 H' ns M Z A i (gY M) (i3 M))(e:Z.G .hh=h)(R:EA K H0 H' M Z A rl rs)(l:rs.length<=i)(s:σ=[some (.ref sc),some (.ref A.pl),some (.ref h),some (.ref rl),v4,v5,none]):JW P w K a H0 ns A sc h rl i σ H'
section
def Ia(T:Txt K mg a)(hw:w.params=a.pm):aO P w K mg base cZ 17 a.law.x a.law.d ["_law_script"] (Cj K):=by
 refine T.law.ok nj λd5 A outer s H vs Q E hr h=>?_
 ·obtain⟨sc,ns,rfl,hS,hl,q⟩:=h;refine⟨_,(ag (bd 1 nj.nd (pc T.v0 (Dc T) hr (ac (Y 0) O))) (ag (bd 2 nj.nd (rN T.Dv ((rq (P:=P) (w:=w) T).mono (by decide)) hr rfl T.F3 T.dS.b .nil be (ac (iq K (Y 1) ae) (ac (iq K (Y 1) ae) O)))) (ag (bd 3 nj.nd (a0 (ac (au bj (au bj (au bj ay (bx eV (by rfl) T.kZ L2.dY (ac (iq K (Y 1) ae) O))) ay) (bx eV (by rfl) T.kZ L2.dY (ac (iq K (Y 1) ae) O))) O))) (ag (aM (aD Ag (pc T.eE (jw T) hr (ac (Y 2) O)) (iq K (Y 3) ae) (aE _)) (ah (az gi)) aC) (ag (eC mo rfl (eS rfl T.gp (ac (aB (qk rfl) (by rfl) T.Do L2.uf (ac (au bP (aB (aI K rfl) (by rfl) T.bD L2.aL (ac (Y 0) O)) ae) (ac ae O))) O)) (tz 4 nj.nd) (ag (bd 5 nj.nd (pc T.wa (Dh T) hr (ac (Y 0) (ac (Y 1) (ac (Y 4) O))))) (ag (aM (aP K rfl (pc T.v8 (De T hw) hr (ac (Y 2) (ac (Y 5) O))) (λ_=>rfl)) (ah (aV (cI K rfl PySem.F.plainAttrs_list PySem.F.slot_list_append PySem.F.type_list_append d0 (Y 3) (ac (pc T.BU (FN T) hr (ac (Y 5) O)) O)))) aC) (ah (aM (PW.pt (nz (aD aQ (au aT (Y 4) ae) ae (aE _)) (kF (aD Ag (pc T.eE (jw T) hr (ac (Y 2) O)) (cI K rfl PySem.F.plainAttrs_str PySem.F.slot_str_join PySem.F.type_str_join (eD K rfl) ay (ac (Y 3) O)) (aE _))))) (ah (az gi)) aC))))) (ag (bd 6 nj.nd (pc T.eE (jw T) hr (ac (Y 2) O))) (ah (az (cw (aB (ka K rfl) (by rfl) T.a9 L2.aR (ac (Y 6) (ac (ie rfl T.kZ L2.dY) O))) (dk (bR aQ (Y 6) (cI K rfl PySem.F.plainAttrs_str PySem.F.slot_str_join PySem.F.type_str_join (eD K rfl) ay (ac (Y 3) O)) (aE _)))))))))))),?_⟩
  refine U rfl ⟨sc,ns,rfl,hS,hl,λA p sa H1 s1 ea cc c0 hP pr N=>aq ?_⟩;have hp:=pr.le;refine U rfl (rX (aW.of hP.pl) (am (k:=0) rfl) (U rfl (rX (aW.of hP.pl) (am (k:=1) rfl) (λh dx hh c1 eb=>?_))));have f2:ak H1 (aG (aG H1 dx (.own h)) h (.ins a.ck dx [])):=λb o e=>by rw[ao (aH e hh),ao (aH e c1)];exact e
  have as:aG (aG H1 dx (.own h)) h (.ins a.ck dx []) h=some (.ins a.ck dx []):=af;generalize aG (aG H1 dx (.own h)) h (.ins a.ck dx [])=H2 at f2 as⊢;refine⟨h,dx,(p:Int),sa,rfl,as,⟨by lia,by lia⟩,pr.pr,N,λln tn ci dl H3 ba bb bc bi c2 c3 c4 f3 av r u v y=>⟨rfl,aq ?_⟩⟩;have s3:ak H1 H3:=λb o e=>f3 b o (f2 b o e) (aH e hh);have bl:bw P w K a H3 (oY p sa) (wM h ln tn ci dl dx):=DW av r u v y c2 c3 c4;obtain⟨ut,ax,_⟩:=hP.T;have D:∀b o,H1 b=some o->¬hE (oY p sa) (wM h ln tn ci dl dx) b:=λb o e z=>by
   rcases yx z with rfl|rfl|rfl|rfl|rfl
   ·exact de e hh
   ·exact de e (f2.free ba)
   ·exact de e (f2.free bb)
   ·exact de e (f2.free bc)
   ·exact de e (f2.free bi)
  have a2:vZ P w K a H H3 ns (oY p sa) (wM h ln tn ci dl dx) A 0 [] []:=⟨⟨bl,Gd ⟨by omega,by omega⟩,λi=>kw _,λi=>kw _,kw _⟩,hP.same s3,⟨λi l hl=>(nomatch hl),λj t ht=>(nomatch ht),kw _,pr⟩,D _ _ hP.pl,D _ _ hP.L,D _ _ ax,λb o e=>⟨s3 _ _ (s1 _ _ e),D _ _ (s1 _ _ e),aH e cc,aH e c0⟩⟩;have a3:∀b,H3 b=none->¬hE (oY p sa) (wM h ln tn ci dl dx) b:=λb e z=>by
   rcases yx z with rfl|rfl|rfl|rfl|rfl
   ·exact de av e
   ·exact de r e
   ·exact de u e
   ·exact de v e
   ·exact de y e
  generalize a5:wM h ln tn ci dl dx=Z0 at a2 a3;have da:Z0.G .hh=h:=by rw[<-a5];rfl
  have bt:Z0.ds=[]:=by rw[<-a5];rfl
  clear a5 bl av r u v y ba bb bc bi f3 f2 as D;have hh:=tX (p:=p) (by omega) N;have ec:(16777216:Nat)=sizeLine:=gg.symm;have k0:(Str.ofString "house ").length=6:=by decide+kernel
  have S:=hP.same s3;have al:-aY<=sa/\sa<=aY:=⟨by have:=dZ;omega,N.2⟩;have dc:(Str.ofString (toString (p:Int))).length<=32:=io (mn (p:=p) (by omega));have di:(Str.ofString (toString sa)).length<=32:=io al;have dt:(Str.ofString "house "++Str.ofString (toString (p:Int))).length<=40:=hh.1;have dK:(Str.ofString "house "++Str.ofString (toString (p:Int))++Str.ofString " ").length<=41:=hh.2.1;refine Bl (U rfl (rX (aW.of S.pl) (am (k:=0) rfl) (.inl ⟨(p:Int),rfl,jl (mn (by omega)),_,U rfl ⟨rfl,by omega,_,U rfl ⟨rfl,by rw[w5];omega,U rfl (rX (aW.of S.pl) (am (k:=1) rfl) (.inl ⟨sa,rfl,jl al,_,U rfl ⟨rfl,by omega,ls rfl,λrl f=>aq (Bl ?_)⟩⟩))⟩⟩⟩)));refine mH f λH4 s4 an=>?_;have a6:=a2.same s4;have W:EA K H H4 (oY p sa) Z0 A rl []:=⟨an,a3 _ f,λz=>de S.pl (z▸f),λz=>de S.L (z▸f),λz=>de (s3 _ _ ax) (z▸f),(s1.trans s3).free f,⟨by rw[bt];exact .nil,kw _,N⟩⟩;clear a2 a3 bt dc di dt dK f ax an;subst da;refine U rfl ⟨oY p sa,Z0,0,[],rfl,a6.z,W.tx,λH5 s5=>(U rfl (rX (aW.of (s5 _ _ W.at_)) (am (k:=0) rfl) ⟨rfl,U rfl ?_⟩))⟩;rw[j1 (show V.str (Txt.join (Str.ofString "\n") [gu (oY p sa).p (oY p sa).salt])=V.str (gu (oY p sa).p (oY p sa).salt)from rfl)];refine bU (Bl ?_);have bz:=a6.same s5;have bN:=W.same s5;have b0:aW K H5 sc (ns.map V.int):=(((s1.trans s3).trans s4).trans s5).seq hS;clear a6 W;obtain⟨n,en,n0,n1⟩:∃n:Int,n=(if(63:Int)<(ns.length:Int)+8 then 63 else(ns.length:Int)+8)/\0<=n/\n<=63:=⟨_,rfl,by split<;>omega,by split<;>omega⟩;refine U rfl ⟨_,ns.length,rfl,.inl ⟨_,b0,by simp⟩,_,U rfl ⟨rfl,_,U rfl ⟨n,(by rw[en]),(by omega),(by omega),?_⟩⟩⟩;refine j8 (lo:=0) (n:=n.toNat) (JW P w K a H ns A sc (Z0.G .hh) rl) ⟨_,Z0,[],_,_,bz,rfl,bN,fx _,rfl⟩ ?_ ?_
  ·clear bz bN b0;rintro i σ H6 hi⟨M,Z,I,v4,v5,hL,e,hR,a7,rfl⟩;rw[<-e];rw[show(0:Int)+(i:Int)=((i:Nat):Int)by lia];refine aq (Li λR B C=>?_);refine U rfl (U rfl (U rfl ⟨sc,ns,M,A,i,(i:Int),rfl,hL.dr hS hl,⟨by omega,by omega⟩,λdv d xs H7 ch hT hD dT a8 ed=>aq (Bl ?_)⟩));have hB:=hL.chg ch dT;have c:=hR.chg ch;obtain⟨tx,b8⟩:=hD.row hT hB.z.ok a8;refine Lg (λσ H'=>KD λM Z I=>Lq (vZ P w K a H H' ns M Z A (i+1) (gY M) (i3 M)) (Z.G .hh=Z0.G .hh) (EA K H H' M Z A rl I) (I.length<=i+1) (σ=[some (.ref sc),some (.ref A.pl),some (.ref (Z0.G .hh)),some (.ref rl),some (.int (i:Nat)),some (.ref dv),none])) ?A1 (λNn _ _ _ hJ=>?B1)
   case B1=>refine U rfl (U rfl ⟨M,Z,i,dv,d,xs,rfl,hB.z,by omega,hT,hD,λm Z' H8 nx st dV d1=>⟨true,rfl,bq ?_⟩,λha H8 s8=>⟨false,rfl,bU (hJ _ _ ⟨M,Z,I,hB.not ha s8,e,c.same s8,vl a7,by rw[e];rfl⟩)⟩⟩);have hF:=hB.fin nx st dV a8;obtain⟨_,ep,es,_⟩:=nx.nx hB.pn a8;obtain⟨⟨X,d2⟩,b9⟩:=c.step hB.z.g st ep es d1 b8 (by omega);have d3:=hB.z.g.stp st;refine U rfl ⟨.inl ⟨rfl,_,aW.of X⟩,U rfl ⟨.ref dv,tx,rfl,b8.kp d3,λH9 s9=>(rA (s9 _ _ X) (by rw[b_,il,gg];omega) ?_)⟩⟩;have d4:Kp H9 (aG H9 rl (.lst ((gu m.p m.salt::I).map V.str++[.str tx]))):=.lst (s9 _ _ X);exact hJ _ _ ⟨m,Z',I++[tx],(hF.same s9).put (s9 _ _ X) b9 c.n1 c.n2 c.n3 c.n0,st.hh.trans e,⟨by rw[af,show(gu m.p m.salt::(I++[tx])).map V.str=(gu m.p m.salt::I).map V.str++[V.str tx]from by rw[<-MF,g6];rfl],b9,c.n1,c.n2,c.n3,c.n0,(d2.kp (.of s9)).kp d4⟩,by rw[gV];exact C_ a7,by rw[e];rfl⟩
   case A1=>
   rintro σ H8⟨m,Z',aa,ad,e',J,ap,rfl⟩;refine U rfl (r2 ⟨(show(0:Int)<8 by decide),rfl,U rfl (lS (λ_=>?_) (λ_=>?_))⟩)
   ·refine U rfl ⟨m,Z',i+1,aa,by rw[e'];rfl,ad.z,J.tx,λH9 s9=>?_⟩;refine⟨rfl,U rfl ⟨_,rl,gu m.p m.salt::aa,rfl,rfl,aW.of (s9 _ _ J.at_),J.tx.ok ad.z.ok.p.2,rfl,U rfl ?_⟩⟩;rw[j1 rfl];exact bU ⟨m,Z',aa,_,_,ad.same s9,e'.trans e.symm,J.same s9,ap,by rw[e]⟩
   ·exact bU ⟨m,Z',aa,_,_,ad,e'.trans e.symm,J,ap,by rw[e]⟩
  ·rintro σ H6⟨M,Z,I,v4,v5,hL,e,hR,a7,rfl⟩;refine U rfl ⟨M,Z,n.toNat,I,by rw[e];rfl,hL.z,hR.tx,λH7 s7=>aq (Bl ?_)⟩;refine U rfl ⟨_,"str",_,true,rfl,.str _,cY (by decide+kernel),true,rfl,bq ?_⟩;refine U rfl ⟨rfl,U rfl ⟨_,rl,gu M.p M.salt::I,rfl,rfl,aW.of (s7 _ _ hR.at_),hR.tx.ok hL.z.ok.p.2,rfl,?_⟩⟩;rw[j1 rfl];exact q H7
end
end My
structure PySem.W.Fast:Prop where(tw7980275411603735482 tw18260460387149359967 tw10735560163794214339 tw3988678905808128570 tw6357700973987630114 tw15745149536276726110 tw3491880630601969606 tw10674078071860900730 tw15797162872561176143 tw17590571574394244706 tw11885467665932675827 tw16124354756828928056 tw14582898038730353664 tw678172055918476291 tw1620387902142810586 tw17020298559637507023 tw15497987232674827049 tw12116887072037052968 tw2312307228737261931 tw6737954792366013748 tw4654436779859697911 tw17614771228001464119 tw5659879529000167663 tw438970756696094468 tw861577417051891791 tw18245382648795269405 tw627604120856601054 tw7238460243069545599 tw4025233161635171040 tw13544093776062692502 tw11138865668969330561 tw9293962470545612362 tw4790444239691936361 tw14512678914932699420 tw18088097549966651409 tw4467146746000379502 tw5041437148694339307 tw14629567144492947986 tw9569493643982421918 tw3769271732500791320 tw10843838590963215562 tw4944229132528884835 tw11598972575210684702 tw6649753867595668260 tw13829281929022310921 tw12836901213450703095 tw1952993413464630614 tw53390537625274437 tw5763373283950978565 tw4645353900760888764 tw15048317217736798332 tw1364862493364120970 tw6269097903832585105 tw1538752868709845953 tw10888966264766869019 tw13749135641229249252 tw17752048378400385231 tw4972956694905943832 tw18148849152182366910 tw2841105525500792175 tw544595112580114327 tw5207749917957053868 tw13476982304384873690 tw12813311439573420729 tw1148228657738083534 tw8750462648603168957 tw9685425823452043777 tw18098988697182111720 tw13352122419069840114 tw6846171008849115147 tw11701565144717780702 tw13941522960070897807 tw15311726828096029178 tw14403284033476416815 tw17678727433855979686 tw7281019293992194177 tw1422720899314392024 tw18306337904316124779 tw15843206836949840696 tw6034532401969617296 tw15141339439455362510 tw3083120406101033784 tw10404084985350153580 tw981532047173248636 tw17771298011600351700 tw9814459984395842627 tw17175061452947502153 tw4977930182647023353 tw15124473039181886520 tw7968759300348434904 tw15498066696591179850 tw16245790149818411843 tw12716463791680554612 tw14962867304881059717 tw14126772928243999371 tw1612000031206884788 tw16019498961734065596 tw4318833984967678803 tw3541251160217992908 tw13970124658408668380 tw3313550209803985100 tw16507789848490976692 tw8509225857162315449 tw11426557197220732569 tw13144125951205174290 tw1843513317542843065 tw2699646942488765246 tw8989865190469120465 tw16653502216453931435 tw326730675135323000 tw4504989245735746043 tw14808675615404400177 tw7490263339688636427 tw14749434669522984392 tw12584952354746105131 tw12273198818252895743 tw11900011241109371026 tw6798903704659880372 tw12044185998275349575 tw5546917345516385476 tw2413063593529125279 tw15376653935875641321 tw12156679620437729759 tw6879252796801203563 tw14466746338923328748 tw17049180904204039367 tw17851464060915627511 tw3898786178927416970 tw11589562232406442536 tw4785437341686355505 tw8958000692225069339 tw17646032809407264418 tw10034918522239178529 tw9537570476164329929 tw7779930705565820855 tw14407430950989619818 tw580014212166242168 tw5305509821991093891 tw435054503802062551 tw7821126517966383444 tw9361460565645090173 tw2324713687508205314 tw845062646503562613 tw6775349186165780779 tw6020364609766797846 tw17600147555121985467 tw11536499389838234980 tw8027538013357192556 tw15665014995905676676 tw4107807931508540088 tw3105660912666333466 tw17413872354892403030 tw5998650135655681785 tw7370758131345061083 tw16762926861274073261 tw6804619437553648858 tw11983519163527705244 tw10802158862956792010 tw3882780409605647625 tw9414120256884319092 tw1822449537437546174 tw2266946940356912643 tw3406820522120390508 tw7258110976687162350 tw13935639149861780266 tw11104082364503100840 tw15036728856559877736 tw1044356208153286707 tw11441769912628982934 tw3890521342914742976 tw16783273391200662675 tw3165596124872942008 tw10500070142453307195 tw12035836850526802286 tw5853349551259430656 tw1784418950269674628 tw5121501812763303427 tw13557313970547231443 tw3866591066420278821 tw15882567600961937270 tw15134945618653108904 tw5052406826773828608 tw1954418514863403165 tw7857193501264317919 tw14445621785583900586 tw14713531394721630863 tw5045350386192841712 tw16800596209344638053 tw17413584175331945803 tw5808508062795503485 tw15774980128702123169 tw18111170594122619762 tw6202439540321287188 tw6373855237596494134 tw14169996458108632198 tw1137921147906061571 tw5215286895579271350 tw9033942483708507947 tw17989278362736537840 tw10447621680120088492 tw14064459589721017736 tw1326116157935412483 tw584321547117345737 tw4175237088704232781 tw12725459234531906515 tw13016950572904163014 tw15642585643174025981 tw3028190115470484148 tw1694587612155831604 tw16045771090045656307 tw3786325932594410310 tw14144345035170802549 tw10852421925460222749 tw9370459663301153908 tw2701177381242143965 tw15031264070922119784 tw2803645049656487359 tw8487073923911008357 tw7696639162371272927 tw12730042149321491869 tw3141844495647556158 tw16024569489720006608 tw9797728754977689116 tw8020283668029536963 tw1994909371717960328 tw6503530891168001841 tw11027945148667046465 tw123084655329970676 tw9987226733717963252 tw623989295560259946 tw17764774600732627414 tw5815217206929861576 tw11890889854382495381 tw5493218995329480546 tw2249081470405274249 tw14557366544048451922 tw8248536976763864882 tw12393656887347641898 tw16466631625759975823 tw7834709333319441432 tw7938811827933700099 tw5352073554804012682 tw12194355896264302505 tw7689730698406949689 tw15340309248338680130 tw14671440867900914302 tw11652959503352468758 tw11837873532344544926 tw14109403385670326906 tw12939414117408559282 tw10099658489431229954 tw14692486946438875040 tw18184901528660829199 tw3343831212470102553 tw12358700649944710271 tw7203478204922934253 tw2930911769322372576 tw5049386981605033459 tw8880694812549352975 tw17134139461450705150 tw9835566884819399727 tw1447658610660442081 tw18192569086511135410 tw15725083012943486608 tw5336906469713846743 tw9502318418767700946 tw3581389506280015237 tw3827179247604029386 tw6709562336500001021 tw15078505543708010970 tw18118380670064640396 tw7585672395532143515 tw10484024725995448849 tw18351902855278763971 tw13206310882735171708 tw8862690720037324539 tw11403779095442453479 tw7247842919967147717 tw10632839114979081955 tw1126969140853101622 tw944497876931157135 tw14722859546043936467 tw14435555234607154836 tw17891427388485962014 tw16901513904839645601 tw16467478272789275818 tw16061190454028723923 tw14014475532978448794 tw14621232627728081386 tw5191059295870182387 tw2906113662274628856 tw2789372276804187738 tw227539020072181046 tw17440530141498063873 tw13242302082870313044 tw1611144542897404416 tw13938285749339322668 tw1030629420975232504 tw12609207793451113597 tw7389993229042046477 tw1821543960797606494 tw6786912044645798941 tw4848863789627411415 tw1020268785000975587 tw15752512530141585878 tw12772704342579183377 tw3461964822051209737 tw1300536146077027372 tw18190165922158806061 tw14378586145594379524 tw601687750394567106 tw9157727971143552723 tw1132336651591352147 tw13382790821675664599 tw3567442434377447653 tw13017711425296472745 tw9239334058914480662 tw16021260200470879144 tw2286259382088415944 tw3621107196269889896 tw5360444044096955306 tw6652891199335651988 tw540551496208510700 tw14566621799158283131 tw12517609790347537112 tw3074676164917288205 tw4385107937294802126 tw2764518870106542386 tw4427161710904214474 tw3531443345717349859 tw286900028982714272 tw1471832825039883199 tw14641162715078133988 tw3787085415148610454 tw14789366552891661500 tw18391688250605822982 tw3416579581105257656 tw14743549859348155041 tw2839574722290544170 tw5164712307529947548 tw5371152254000043180 tw7188328183435768461 tw10497896416604687251 tw15347592681231800618 tw5105815107562824429 tw10360637248332253325 tw2644584539431105557 tw4890294097903635653 tw13142182306349078132 tw8074823789581476836 tw9685384770310277329 tw16103193459202114376 tw14020217398673494192 tw825632938664583380 tw15481962789803619939 tw8503311597315266121 tw8787058989292453541 tw5780460143331465528 tw1115104762637250018 tw17117016454339175698 tw11373782126671664374 tw9477014359804859600 tw264826542697693742 tw11348097019936405837 tw628853982611553014 tw14112718324133919973 tw4094660426698668650 tw18402775547324563223 tw4854331758653282063 tw7716777157068369929 tw17511185467137834495 tw10510780847465896475 tw12040064607303158724 tw3071500625785398288 tw2463323380323285720 tw6613953289553985249 tw7461212244950762575 tw15478149239971375247 tw7376547961086807081 tw9049706797956478624 tw1507976344318841930 tw8668540609545314916 tw16854022999993426666 tw13789298779816694483 tw3012831511871633551 tw13887686482641188327 tw4823331964213318619 tw12347438610004487983 tw18288371107882746017 tw11948265367986223365 tw4620073925099727558 tw11376274630145069427 tw12474755535471428993 tw11998180865093241385 tw4321053383527645058 tw10854726472668388405 tw2831715838302892889 tw15234591255013598211 tw2100334333362708363 tw709966780414291369 tw17291220744855018016 tw2285124499977794675 tw1476486048279774287 tw13994843641046478227 tw16340670732193516594 tw10674476103819071024 tw15720094658754631388 tw14199295622804339862 tw1662379126376152818 tw68280506247104265 tw5822208747240935888 tw13869219962614623803 tw8421831226584742195 tw7268828437414602720 tw13804007597221429332 tw10122687183715363647 tw8547646062199983192 tw12949143724646728604 tw4316396482530195540 tw14675418237789713526 tw8759997672373464480 tw4679580171870654037 tw1581970232652943021 tw13828412241566735391 tw2092611460193705184 tw3289235476132637566 tw17578541535124350790 tw8439471190324928341 tw2677620430608044935 tw5827138437188777674 tw16767605399992253976 tw15761032369680388893 tw16720712924642432586 tw18130393376721437127 tw6465292937077500971 tw10234549152323103612 tw15590278173226901092 tw14530115228757021546 tw17420181559779451187 tw9892138748939887045 tw6911926811299678295 tw15223499973758162413 tw15667324918129937977 tw15933866549994373059 tw9816074227723730651 tw11557680158535859530 tw10776121509313903337 tw4758647018524943549 tw2533903252687188172 tw18133728054324464675 tw5498543957767996974 tw1349193601345118474 tw944549446143564053 tw8124905133862794746 tw9479311955592721478 tw10558432589656394977 tw10180122320469570432 tw8428310417154220138 tw16543251890019630913 tw12691913261768741384 tw13511415469056890018 tw8734053567133073744 tw327299962048334047 tw9285526174102663680 tw12902316698320278191 tw8097207894356007521 tw15749337836626213444 tw12952187628809798474 tw7999501506491106834 tw10653025343227698956 tw17249556176319349095 tw14415166622865848517 tw17884114386774074049 tw4442791440662373044 tw6148021785480377063 tw3005642393480065919 tw13786307427614694369 tw14448339892025329006 tw2364877629174668066 tw13409426069109473981 tw2884110928611735258 tw13161147171989180736 tw6420203800482135255 tw929472025952491574 tw2406159171360726045 tw10087964282379049663 tw3342733688215932339 tw6925917476395830111 tw14251116491508516574 tw13725279226618117601 tw12877344735052127342 tw11909434908235745104 tw14435791944623196965 tw10821881639648767909 tw4430041174377423109 tw11118212347447113602 tw8858472576720617789 tw9251479925090104392 tw1755772315368488953 tw6231427062511422949 tw8160672031392457721 tw14857510115604089421 tw717673156560726810 tw1333447250423158752 tw11581027137369348607 tw9259144204663255735 tw16397517209828685322 tw15964222370678620555 tw3269739247965083841 tw10953140383032676958 tw15656229412351578356 tw7288953791217721554 tw4792286354292305636 tw3279112886579074782 tw6562260016224441099 tw15916728959620747210 tw1576629428685857010 tw15865180129939805722 tw6998464011345684156 tw12312229858373299291 tw18308294833945281587 tw5277047060879917770 tw5627462168590298143 tw12847238803193844212 tw4665971551286528727 tw1210255470146475062 tw2926588265188186434 tw8300909625460520554 tw3032711463441355089 tw8438973010380181570 tw3385145406749506507 tw5859742137962785473 tw15051470760008789112 tw10997879142978137438 tw7460920856551102354 tw10449686132650731307 tw9001107797734360187 tw12736608491986118185 tw10458848410037894724 tw13310036332974059640 tw7001338078394779753 tw16734290652092790261 tw2550088707435635572 tw15025488491424491396 tw13444819472487726325 tw16347642006494905072 tw2932009928286146986 tw3240833388427869122 tw17792028987609149313 tw15226506971060806221 tw721322531299923755 tw9487645915019586850 tw1423519644401004264 tw11065696948929529558 tw6616367196476957588 tw7546275029667561575 tw13778518338915574707 tw10059039244388808174 tw12203077059028129049 tw10912237204295219658 tw13474906913902121780 tw7087472763023177805 tw11050661513632180807 tw9124766594980756527 tw14195226504378681920 tw14870985751507604982 tw7341467052920257935 tw3257216819216121503 tw2535888375553263284 tw15503594501063408118 tw17672302135685308355 tw16861687159470719588 tw14115609803573668210 tw2060983536780443030 tw11269636124651098712 tw11447928097241685381 tw4366171845848075148 tw723988292575649942 tw14592670763410784853 tw4621935659639706216 tw7862472002371207580 tw12875332161796197853 tw12688078544674062819 tw6959489199242515460 tw7491228239508790084 tw3726902357161003812 tw4373769776288319149 tw12379781987191137645 tw11144198650990347115 tw11116031465441522634 tw13198623583915630371 tw4858236529574197008 tw9387656991885292819 tw9971889692930023565 tw1959664755004387307 tw5055695972923916359 tw9138232206128067075 tw14675211667824973330 tw8323510290248745599 tw12436655743429364129 tw17354275563640064917 tw3842241695568686231 tw10723536142211426618 tw5130901213797228341 tw7564498035826934047 tw3066647632975585780 tw6362712252938675351 tw1512423582973974000 tw13155317111032976119 tw13210028522362656897 tw3141314718911523449 tw3667762069719552253 tw3968435547478815333 tw13113557135250416178 tw8095186829513960370 tw9331590537007141776 tw8552628888573647798 tw10314990784479980675 tw6581930992889162273 tw17014180770065418278 tw2211973047249251134 tw3931202330117536946 tw10213769229961024412 tw15264153671648338765 tw17458512289328243806 tw7315962976869852714 tw4333149460620982023 tw3436027731622585158 tw5326250648256628828 tw10716316702734861361 tw9242247361939373692 tw10963968639744389574 tw17697613585291630202 tw373090764980575100 tw9929305337015934118 tw4391209094650539789 tw13049034249502062943 tw16286203410754918232 tw6869176208015216590 tw18131138201649073885 tw13533062892217127540 tw17391604603527122261 tw15389610522946753914 tw11480839990026708120 tw3949763508204058180 tw6178095786417004442 tw12874863564066722747 tw12679331362120155477 tw13925288977948261362 tw14264072296132381917 tw11625139250141683774 tw4774213616092155603 tw6231677911861715484 tw7951595103612518705 tw2040732605073038228 tw572812123751020895 tw13635663414635114837 tw9669002603138046692 tw13649616855674329957 tw5320068146328609346 tw6075347968872933760 tw11797555945837847507 tw12439665818455710374 tw7893409602356635720 tw2152358194282672675 tw9852733433842592291 tw7219251153382295162 tw12408815334007184717 tw1590843313633440767 tw3595350864513681149 tw17076789934374790245 tw8558496717405459530 tw3878449630123673361 tw8050084281439494974 tw10426396052433593226 tw17538544354390779074 tw11951072652310553753 tw16447110846623123572 tw1641503148196777243 tw4271515153535831859 tw8169935518239242858 tw9582100551349683676 tw6991187592227101301 tw2146561930563544190 tw10272069272755356912 tw5429726283250982580 tw16188793758260932066 tw12459312519412804631 tw7863719612383428696 tw1638251102461016429 tw12504288808260685851 tw14569211953724923030 tw16408034364924915096 tw9269622190908007855 tw13473399789213933783 tw10852079169034819529 tw12740199737399118219 tw16262492313860734640 tw3766658881279922500 tw9861835060063844241 tw15835950205878561641 tw3891360795148667538 tw5670636232768826287 tw8614683501302507320 tw542902316545059969 tw9089850312988617801 tw2400174829867440862 tw6142369174106028836 tw523955637333444462 tw17883946103611218737 tw8892849860409173332 tw13246310362675905335 tw13840484107411256657 tw16311813439703485556 tw7834224482103619353 tw5488058988592651919 tw11010361423231284795 tw1938913797633695451 tw1139128533530865009 tw4373283360634951546 tw4481874053277727551 tw14665394754908571531 tw17611875478621969258 tw16784370443683133738 tw8941395608316008804 tw3091476556765667386 tw11973869234056639679 tw8182764194139205679 tw7126331519888830558 tw7953601259866144852 tw11654146653022331787 tw14672464089830464881 tw15717259176628575662 tw2750129224322577640 tw7085670160123750759 tw12160867417559554863 tw12161546740514735899 tw15950386952231335096 tw17105160497175050046 tw6537112728887489637 tw1487879977020187007 tw15909090731278051837 tw12673205421288687089 tw5430218001600780421 tw6663679045063958665 tw4577871423639284337 tw5497634374151318729 tw8860451900533307072 tw12377038026621086923 tw12283567673575020108 tw1281628372346271909 tw9348338348581477149 tw9734496851627012586 tw18446096597687631195 tw4951663059842556482 tw3300215694494148539 tw14955752862463487329 tw4812734517756932467 tw14534435791984654298 tw6278038225928099176 tw12888510266614873603 tw14503293077778716479 tw6125127277936082192 tw5343004583544167935 tw1215552981821212798 tw13164866412801601028 tw12393246125843189121 tw6226861668385811241 tw2108330080962237732 tw246402787105307544 tw8120659529042992968 tw5198399457583291247 tw17366012308537474995 tw9454677500884239432 tw9014832423060613429 tw15016550767607178289 tw5095774892364940244 tw17137350462769116274 tw5105194176813227648 tw15969635819675093405 tw13877771345938830787 tw14380374064797298816 tw6999119948752088331 tw15188755222056036164 tw13009459799933983356 tw17435137602379211155 tw8189441085602477859 tw4869648726482268014 tw381015173835178149 tw4932947935350786217 tw16770589274279255731 tw17603890772812326329 tw10497699594934203880 tw6014730180329325993 tw11993944006154243388 tw2896763744494494386 tw11930450288466371013 tw6529764557366492348 tw14961251813073661451 tw6683200472284196244 tw2601712387337274963 tw7021591335369440031 tw813928469291778460 tw1998374147961958235 tw7368477066408351000 tw14782553339284093997 tw8220147073609619325 tw18065446221015082605 tw9868000317542550606 tw631837553535865471 tw17552940635924278221 tw16501528589600350396 tw2518047931786513236 tw8728972517541745373 tw17357473155422491052 tw9744850109161486547 tw16049311583259703353 tw12610916972356086695 tw5560610121228747891 tw799592338884081978 tw5257974073695116095 tw13500601877615367965 tw10514010847135754251 tw5092606568597689601 tw9003106746993517095 tw2379448986307091763 tw9992314528191977946 tw14077123261745275582 tw11912208578132042881 tw13264101018623450849 tw12368203331401342229 tw495023797493533343 tw10562550201908738515 tw7265616241229960621 tw10609622637884954522 tw14659555950684022914 tw2438411929380243898 tw15892100615016527354 tw8807108295051990694 tw155703868172947552 tw6997421934731505490 tw2151503288883731178 tw12345556831780030861 tw295221869262704561 tw2865377858934600857 tw8810842570973861754 tw16175120895088500632 tw14264504522611818220 tw84434781361525501 tw2032491844482685702 tw18349320563222777395 tw13481082811312922800 tw5830095368417030098 tw12230734428994792707 tw13531690697178291917 tw6216828320636866320 tw10861892385956988418 tw6313277873915417492 tw2477727469540685580 tw15503592913408892699 tw10431371162741426752 tw10884387708928761816 tw12954853503415575627 tw5214875840942147397 tw15394033786231063239 tw10318147722705580630 tw9525922807609588764 tw3534023530298365065 tw18170285926405925536 tw4615332281850421881 tw2664547226915505340 tw16378152960442088795 tw12178025022227060757 tw11129951870171902452 tw2950607904687278279 tw17193298029223261303 tw4935945173234436479 tw3235019036919870573 tw11404115284729177373 tw17023000514170306407 tw14295060276089471767 tw3744325720179881984 tw18258247795960193953 tw6864300770691674154 tw15100936367992163273 tw12506472966499354926 tw1806105167504038373 tw9774712914924065120 tw5809437790483796346 tw3892682803871864376 tw4696272350856165312 tw18199001220404636095 tw3210611111072601684 tw13108900294027419375 tw3061431322516837048 tw9001556500508717841 tw16056895005354173663 tw1618287479777992832 tw8481637247237090729 tw16635444135518833656 tw6731991666540739003 tw521685534132970521 tw17567393200292861399 tw53460459069228210 tw15735520312224564382 tw9950956847004260125 tw10794835720044587392 tw9414087287225268207 tw7758939814328751648 tw3762778328242993858 tw8807518029466086738 tw7978108954941257754 tw17248580840187478142 tw4348637919967248502 tw6568379217407788776 tw15200291914451792776 tw7195964959305228633 tw923981799211137149 tw10607151832177265836 tw8071189679591843235 tw1326661412997124793 tw3035983974618751336 tw16818450796708529151 tw1335475071082753392 tw15405668103433033771 tw8079877263508508261 tw10235209915827617774 tw9486101707959434719 tw5995445246538866924 tw7776994800450072670 tw12858664710545823397 tw17797455159349766660 tw5935462850286304756 tw6876732534231467984 tw6043740993117712604 tw7459682414241022061 tw15948279833019677927 tw17630048191189654876 tw3927389531564874613 tw10888679525416924093 tw4431785842329384792 tw10520607109084817444 tw14184150957074720268 tw18133613926695225441 tw12420840041572356117 tw16560838243036551199 tw4898138306861520448 tw2664691778758344253 tw12171459148337631598 tw3209857624022778797 tw10840088735015462623 tw13114302512818000191 tw10470926897376349583 tw12758509429511298611 tw1979635300706138766 tw8924051252125985201 tw13438643202670192553 tw3241216744675257213 tw15936886175300223509 tw15743056732869814840 tw18373135894808742602 tw8150554950568444610 tw16957512146451786137 tw10887224409168175418 tw17031255375060166402 tw8910571386762976498 tw6529889571095515855 tw17681998474754366788 tw223975879946913471 tw9103597028320307483 tw380504884129718922 tw13954966453345148236 tw4718116484271746176 tw19750094403977830 tw965251047146729293 tw733997620410744880 tw4190987736667321792 tw379811010387746615 tw8133203623337443547 tw14126201309274955820 tw15148292075955572342 tw13691408973784195257 tw735978995703213313 tw15344361224542652747 tw16220011560732851761 tw9627042817844080607 tw11640034810094864644 tw879255043023781935 tw13635051387536323299 tw5892355974988756423 tw4331581597669670139 tw2074429181925072043 tw3045617454006586014 tw1022881906605524868 tw10898310198177758882 tw12802584724614809985 tw11501823035952530169 tw5340532714629637601 tw8614905634579110137 tw12955038337903385108 tw15157192822481282758 tw12486504136017350846 tw6971657503839547555 tw205605187614261295 tw6625507026534931416 tw13651901502801680726 tw8867027356355612071 tw7203110802144169541 tw4296472662292673529 tw12097400380789547715 tw4811894306021924293 tw1271927861027466117 tw16438799348471222538 tw205468300544298942:True)
open PySem PySem.W PyProof.Rows
set_option maxRecDepth 100000 in
set_option maxHeartbeats 0 in
theorem PySem.Challenge.cw_layersplit_k37_houses_written_holds : PySem.Challenge.rw_layersplit_k37_houses_written.Holds := by
 w_on;o_law;k_head;(case hw=>w_witness2)
 k_fill
 refine L2.BY (l:=PySem.Challenge.rw_layersplit_k37_houses_written) (n:=63) (k:=17) (x:="_law_script") (CX:=L2.cZ) (sp:=My.Cj) rfl (by decide) rfl ⟨rfl,by decide,by decide⟩ (λw h Y=>PySem.W.kIn_of Y) ?F ?S ?C
 case F=>
  intro w mg fa h KX G hmg;have T:∃a:My.i0,My.Txt (L2.KOf KX) mg a/\w.params=a.pm:=by
   dsimp only[L2.KOf]
   refine'⟨My.i0.mk ..,?T,rfl⟩
   case T=>
   constructor
   all_goals try dsimp only
   iterate 19(exact L2.Ko KX G (by k_is))
   iterate 47(exact L2.G0 KX G (by k_is) (L2.zB (by k_is) (by k_is) (by k_is)) (by first|exact L2.b1|exact L2.b2|exact L2.b3|exact L2.b4|exact L2.b5))
   iterate 27(exact L2.J4 (by k_is) (by k_is) (L2.zB (by k_is) (by k_is) (by k_is)) (by first|exact L2.b1|exact L2.b2|exact L2.b3|exact L2.b4|exact L2.b5))
   iterate 16(exact L2.G0 KX G (by k_is) (L2.zB (by k_is) (by k_is) (by k_is)) (by first|exact L2.b1|exact L2.b2|exact L2.b3|exact L2.b4|exact L2.b5))
   iterate 2(exact L2.JK KX G (by k_is))
   iterate 12(exact L2.Kf KX G (by k_is))
   iterate 2(exact⟨by k_is,by k_is,by k_is,by k_is⟩)
   iterate 3(exact L2.Ak (by k_is))
   iterate 2(exact⟨by k_is,by k_is,by k_is,by k_is⟩)
   iterate 3(exact L2.Ak (by k_is))
   iterate 2(exact⟨by k_is,by k_is,by k_is,by k_is⟩)
   iterate 7(exact L2.Ak (by k_is))
   iterate 2(exact⟨by k_is,by k_is,by k_is,by k_is⟩)
   iterate 6(exact L2.Ak (by k_is))
   iterate 13(exact L2.GW (by k_exc))
   exact⟨by decide,_,_,by k_is,by k_keys⟩
   iterate 10(exact⟨_,by k_is⟩)
   exact L2.Kd (by k_is) (by(repeat(first|exact .nil|refine .cons ⟨_,rfl⟩ ?_))) rfl
   iterate 2(exact L2.Jq (L2.GW (by k_exc)) (by k_is) rfl (by decide))
   iterate 19(exact L2.Jp KX G (by k_is))
  obtain⟨a,T,hw⟩:=T;have e0:=hmg.symm.trans T.law.m;cases e0;exact⟨a.law.d,My.Bt T,λbase kb nb=>My.Ia T hw⟩
 case S=>exactλK H a ns hl hO hS=>My.Bs hl hS
 case C=>exactλ_ _ _ _ z=>z
#print axioms PySem.Challenge.cw_layersplit_k37_houses_written_holds
