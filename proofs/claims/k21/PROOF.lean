import PyProof.Rows.All
import Wide.All
import OpenK.AllK
import Wide.FinOn
import Lean
import PyProof.EqAt
import PyProof.EqKinds
import PyProof.TupleCall
import PyProof.SetScanFacts
import PyProof.Logic
import PyProof.FactsBase
import PyProof.TableTree
import PyProof.FactsTree
import PyProof.PlainAttrs
import PyProof.DictWalks
import PyProof.SetKind
import PyProof.ForAny
import PyProof.FactsAll.set_1
import PyProof.CollectWalk
import PyProof.WalkLemmas
import PyProof.FactsAll.set_2
import PyProof.Walk
import PyProof.Rows.SortStr
import KE.KRevIter
import KE.KDictList
import KE.KDictLaws
import PyProof.FString
import OpenK.KTop
import PyProof.StrLawsTight
import PyProof.Rows.StrLawsPart
import KE.KIntText
import PyProof.Rows.StrSplitJoin
import PyProof.ZipIter
import PyProof.WalksMore
import KE.IntTextLaws
import KE.KDictOf
import PyProof.AttrMissHeap
import PyProof.EnumMake
import PyProof.EnumFor
import PyProof.Draws
import PyProof.DictItems
import KE.KPairComp
import KE.KSortTup
import PyProof.Rows.SortWalk
import PySem.Challenge.RW_layersplit_k21_who_stays
set_option Elab.async false
set_option linter.all false
set_option maxRecDepth 100000
set_option compiler.extract_closed false
def a_:=@PySem.wpAny_bind
def b_:=@PySem.Heap.get?_push_of_some
def c_:=@List.length_map
def d_:=@List.getElem?_eq_some_iff
def e_:=@PySem.wpAny_pure
def f_:=@List.getElem?_eq_getElem
def g_:=@Nat.le_refl
def h_:=@PySem.Heap.get?_push_size
def il:=@List.mem_of_getElem?
def ir:=@List.getElem?_map
def iA:=@List.length_append
def i_:=@List.mem_cons_of_mem
def ji:=@PySem.Heap.lt_size
def j1:=@List.map_append
def j2:=@if_neg
def j_:=@List.mem_iff_getElem?
def ku:=@if_pos
def kw:=@List.mem_cons_self
def k4:=@PySem.sizeLine_eq
def k_:=@Option.some.inj
def lh:=@List.size_toArray
def lm:=@Nat.ne_of_lt
def l_:=@Bool.false_ne_true
def mo:=@List.take_of_length_le
def mu:=@List.mem_map
def m3:=@List.length_take
def m_:=@decide_eq_true
def ng:=@Nat.zero_le
def nh:=@Nat.le_trans
def nk:=@Array.length_toList
def nn:=@decide_eq_false
def no:=@List.map_cons
def np:=@List.getElem?_eq_none
def n0:=@List.not_mem_nil
def n7:=@PySem.Heap.size_push
def n_:=@List.length_cons
def oe:=@Nat.ne_of_gt
def oi:=@Bool.and_eq_true
def ol:=@Ne.symm
def op:=@List.nodup_append
def ot:=@Nat.lt_of_lt_of_le
def ov:=@List.mem_cons
def oD:=@List.getD_eq_getElem?_getD
def o0:=@List.mem_append_right
def o_:=@PySem.wpAny_setField_rec
def pa:=@PySem.PassesOwn.never
def pu:=@PySem.wpAny_holding
def pv:=@PySem.wpAny_call_entry
def pw:=@PySem.wpAny_callSpecial?_slot
def p_:=@PySem.wpAny_newObj_type
def qc:=@Nat.le_succ
def qq:=@List.length_range
def qr:=@List.getElem?_set_ne
def qx:=@Int.toNat_natCast
def q4:=@Nat.lt_irrefl
def q_:=@List.take_append_drop
def rb:=@congrArg
def rd:=@of_decide_eq_true
def ri:=@PySem.wpAny_field
def rk:=@Int.natCast_nonneg
def rl:=@PySem.wpAny_seqItems
def rm:=@Nat.lt_succ_self
def ro:=@Sum.inr.inj
def rr:=@PySem.wpAny_truthy_bool
def rx:=@Nat.lt_succ_of_lt
def ry:=@Nat.le_succ_of_le
def rV:=@PySem.Calls.spliced_cons
def r3:=@List.find?_cons
def r4:=@PySem.Calls.callWith_builtin
def r_:=@List.getElem?_append_left
def sf:=@List.replicate_succ
def sg:=@PySem.Heap.get?_update_self
def si:=@List.mem_range
def sm:=@Nat.le_of_lt
def so:=@PySem.codeAny_mono
def sD:=@List.ext_getElem?
def sT:=@PySem.Heap.get?_update_other
def s_:=@PySem.wpAny_ite_split
def ta:=@PySem.codeAny_builtin
def th:=@List.length_set
def tl:=@Array.getElem?_eq_getElem
def to:=@or_false
def tx:=@List.length_filter_le
def tA:=@Array.getElem?_toList
def t1:=@PySem.wpAny_Call_Name_kw
def t2:=@List.mem_append_left
def t_:=@PySem.Calls.evalArgs_plain
def u1:=@PySem.Around.under_plainId
def u_:=@List.take_add_one
def vl:=@PyProof.Rows.F.plain_set_update_loop
def vr:=@PySem.Calls.spliced_nil
def vu:=@PySem.wpAny_rule
def v1:=@List.mem_filter
def v3:=@List.foldl_cons
def v_:=@List.append_nil
def wh:=@List.map_congr_left
def wr:=@PyProof.Rows.callWith_type1
def w1:=@List.map_map
def w_:=@List.getElem?_set_self
def x_:=@beq_self_eq_true
def yl:=@List.getElem_mem
def y2:=@PySem.wpAny_pyIter_tuple
def y_:=@List.getElem?_append_right
def zz:=@List.length_replicate
def z0:=@PySem.wpAny_dictEpoch
def z3:=@Nat.lt_trans
def z4:=@Option.isSome_iff_exists
def z7:=@List.any_cons
def z8:=@beq_eq_false_iff_ne
def z_:=@List.filterMap_cons
def A_:=@PySem.Heap.SameBut.update
def B_:=@Nat.succ_le_succ
def C1:=@List.length_drop
def C2:=@PySem.tupleKind_room_in1
def C_:=@PySem.call_meetsIn
def D_:=@List.mem_filterMap
def Es:=@List.filterMap_append
def E1:=@PySem.wpAny_setState_of
def E_:=@PySem.wpAny_pyIter_list
def F_:=@List.getElem?_inj
def G_:=@List.foldl_append
def H_:=@List.flatten_cons
def I_:=@Nat.pow_le_pow_right
def J_:=@List.take_zero
def K_:=@List.nodup_iff_pairwise_ne
def L_:=@PySem.Heap.get?_push_cases
def M_:=@PySem.F.slot_tuple_iterator_next
def N_:=@PySem.wpAny_askSetting
def O_:=@Nat.le_of_not_lt
def P2:=@List.mem_or_eq_of_mem_set
def P3:=@List.getElem?_eq_none_iff
def P4:=@PySem.plainId_quiet
def P5:=@List.length_filterMap_le
def P6:=@Option.map_some
def P7:=@PySem.F.slot_zip_next
def P8:=@Int.emod_lt_of_pos
def P9:=@Bool.false_eq_true
def P_:=@PySem.wpAny_getItem_str_slice
def Qa:=@Int.le_refl
def Qb:=@PyProof.Rows.F.entry_set_update_loop
def Qc:=@PySem.wpAny_Call_method
def Qd:=@Nat.le_of_eq
def Qe:=@PySem.builtinLookup_eq_fast
def Qf:=@List.length_singleton
def Qg:=@Nat.le_add_right
def Qh:=@List.mem_reverse
def Qi:=@PySem.wpAny_attempt
def Qj:=@List.all_cons
def Qk:=@PySem.wpAny_updateSeq_pair
def Ql:=@List.mem_of_mem_take
def Qm:=@PySem.wpAny_passesOwn
def Qn:=@PySem.wpAny_execs_nil
def Qo:=@List.of_mem_zip
def Qp:=@List.forIn_cons
def Qq:=@Int.emod_nonneg
def Qr:=@PySem.wpAny_setEntries_of
def Qs:=@Nat.mul_le_mul_left
def Qt:=@List.length_reverse
def Qu:=@Nat.succ_pos
def Qv:=@Nat.lt_or_ge
def Qw:=@Nat.lt_of_le_of_lt
def Qx:=@List.nodup_nil
def Qy:=@List.filter_append
def Qz:=@Int.fdiv_eq_ediv_of_nonneg
def QA:=@Option.some.injEq
def QB:=@List.take_sublist
def QC:=@List.getElem?_set
def QD:=@List.append_assoc
def QE:=@PySem.wpAny_onRaise
def QF:=@List.getElem?_take_of_lt
def QG:=@List.filterMap_cons_none
def QH:=@List.eq_of_mem_replicate
def QI:=@PySem.AutoSeq1.wpAny_loadPart'
def QJ:=@PySem.wpAny_pyIter_zip
def QK:=@PySem.wpAny_isInstance
def QL:=@PySem.wpAny_eqBool_str
def QM:=@if_false
def QN:=@Nat.le_max_right
def QO:=@List.lookup_cons
def QP:=@List.length_eq_zero_iff
def QQ:=@List.filter_cons
def QR:=@List.any_eq_true
def QS:=@PySem.wpAny_call
def QT:=@Nat.pow_succ
def QU:=@List.drop_eq_nil_of_le
def QW:=@PySem.wpAny_specialOf
def QX:=@PySem.typeLookup_type
def QY:=@PySem.post_val_or_str
def QZ:=@PySem.codeAny_of_tree
def Q0:=@Nat.not_lt_zero
def Q1:=@Nat.le_max_left
def Q2:=@List.range_succ
def Q3:=@List.nodup_cons
def Q4:=@Bool.eq_iff_iff
def Q5:=@PySem.weight_type_call_type
def Q6:=@List.getElem?_toArray
def Q7:=@PySem.wpAny_runValue
def Q8:=@PySem.wpAny_letGo
def Q9:=@PySem.isSubtype_type
def Q_:=@PySem.codeAny_call_builtin
def Ra:=@Prod.mk.inj
def Rb:=@List.replicate_succ'
def Rc:=@List.mem_of_mem_drop
def Re:=@List.Perm.refl
def Rf:=@if_true
def Rg:=@List.map_take
def Rh:=@List.map_singleton
def Ri:=@List.getElem?_drop
def Rj:=@PySem.Code.quiet_builtin
def Rk:=@PySem.Around.under_plain
def Rm:=@PySem.wpAny_typeOf
def Rn:=@PySem.wpAny_pyIter_slot
def Rp:=@Option.isSome_map
def Rq:=@List.filter_congr
def Rr:=@List.Sublist.refl
def Rs:=@PySem.F.entry_type_call
def Rt:=@PySem.F.args_zip_next_1
def Rv:=@Array.toList_push
def Rw:=@PyProof.Rows.slot_tuple_getitem
def Rx:=@PySem.wpAny_forIn_list
def Ry:=@PySem.wpAny_execs_cons
def Rz:=@PySem.check_set_init_1
def RA:=@List.zipIdx_cons
def RB:=@List.take_length
def RC:=@List.getElem_map
def RD:=@PySem.F.typeCall_set_1
def RE:=@PySem.F.entry_zip_next
def RF:=@PySem.F.entry_set_init
def RG:=@PySem.wpAny_updateSeq
def RH:=@beq_false_of_ne
def RI:=@List.zipIdx_nil
def RJ:=@List.mem_append
def RK:=@List.Perm.of_eq
def RL:=@PySem.F.args_tuple_iterator_next_1
abbrev RM:=PySem.W.Frag
abbrev RN:=PySem.Value->PySem.Shared->Prop
abbrev RO:=List (PySem.Addr×PySem.Obj)
abbrev RP:=PySem.Str->Option PySem.Value
abbrev RQ:=List PySem.Value
abbrev RR:=PySem.Program
abbrev RS:=List PySem.Str
abbrev RT:=List PySem.Expr
abbrev RU:=Array PySem.Value
abbrev RV:=List Nat
abbrev RW:=List PySem.Addr
abbrev RX:=List Int
namespace L2
open PySem PySem.Spec PyProof.Rows
abbrev b0:=Sum Int Str
def oa:b0->Value->Bool|.inl k,v=>Value.isInt k v|.inr x,v=>Value.isStrOf x v
def Py(w:World):b0->Int|.inl k=>hashInt k|.inr x=>hashStr w x
def cB:∀{k:b0}{v:Value},oa k v=true->(∃i t,k=Sum.inl i/\v=Value.int i t)\/(∃x t,k=Sum.inr x/\v=Value.str x t)|.inl i,v,h=>by obtain⟨t,e⟩:=Value.isInt_shape (k:=i) (v:=v) h;exact .inl ⟨i,t,rfl,e⟩|.inr x,v,h=>by obtain⟨t,e⟩:=Value.isStrOf_shape (x:=x) (v:=v) h;exact .inr ⟨x,t,rfl,e⟩
def yb(i:Int)(t:Tok):oa (.inl i) (.int i t)=true:=by simp[oa,Value.isInt]
def x9(x:Str)(t:Tok):oa (.inr x) (.str x t)=true:=by simp[oa,Value.isStrOf]
def ML(a b:Int):decide ((Sum.inl a:b0)=Sum.inl b)=(a==b):=by
 by_cases e:a=b
 ·subst e;simp
 ·have h:¬(Sum.inl a:b0)=Sum.inl b:=λq=>e (Sum.inl.inj q);rw[nn h];exact(z8.mpr e).symm
def MI(a b:Str):decide ((Sum.inr a:b0)=Sum.inr b)=decide (a=b):=by
 by_cases e:a=b
 ·subst e;simp
 ·have h:¬(Sum.inr a:b0)=Sum.inr b:=λq=>e (ro q);rw[nn h,nn e]
def MK(a:Int)(b:Str):decide ((Sum.inl a:b0)=Sum.inr b)=false:=nn (nofun)
def MJ(a:Str)(b:Int):decide ((Sum.inr a:b0)=Sum.inl b)=false:=nn (nofun)
def aL(prog:RR)(w:World):PySem.KeyKind prog w b0 where
 is:=oa
 hash:=Py w
 inj:=λv a b g f=>by
  rcases cB g with⟨i,t,rfl,rfl⟩|⟨x,t,rfl,rfl⟩
  ·rcases cB f with⟨j,u,rfl,e⟩|⟨y,u,rfl,e⟩
   ·injection e with c _;rw[c]
   ·exact nomatch e
  ·rcases cB f with⟨j,u,rfl,e⟩|⟨y,u,rfl,e⟩
   ·exact nomatch e
   ·injection e with c _;rw[c]
 byValue:=λk v h=>by rcases cB h with⟨i,t,rfl,rfl⟩|⟨x,t,rfl,rfl⟩<;>rfl
 pyHash:=λd h=>by
  rcases cB d with⟨i,t,rfl,rfl⟩|⟨x,t,rfl,rfl⟩
  ·exact wpAny_pyHash_int h
  ·exact wpAny_pyHash_str h
 eqBool:=λl d h=>by
  rcases cB l with⟨i,t,rfl,rfl⟩|⟨x,t,rfl,rfl⟩
  ·rcases cB d with⟨j,u,rfl,rfl⟩|⟨y,u,rfl,rfl⟩
   ·rw[ML]at h;exact wpAny_eqBool_int h
   ·rw[MK]at h;exact SeqAt.EqAt.int_str i t y u _ _ _ _ h
  ·rcases cB d with⟨j,u,rfl,rfl⟩|⟨y,u,rfl,rfl⟩
   ·rw[MJ]at h;exact SeqAt.EqAt.str_int x t j u _ _ _ _ h
   ·rw[MI]at h;exact QL h
 «strs»:=λk x t v h=>by
  rcases cB h with⟨i,u,rfl,e⟩|⟨y,u,rfl,e⟩
  ·exact nomatch e
  ·injection e with c _
   subst c
   cases v<;>rfl
def oV(prog:RR)(w:World)(k:b0)(v:Value):(aL prog w).is k v=oa k v:=rfl
def Bd(prog:RR)(w:World)(i:Int)(t:Tok):(aL prog w).is (.inl i) (.int i t)=true:=yb i t
def sR(prog:RR)(w:World)(x:Str)(t:Tok):(aL prog w).is (.inr x) (.str x t)=true:=x9 x t
end L2
namespace L2
open PySem PySem.Spec PyProof.Rows
inductive V where|non|bl(b:Bool)|int(i:Int)|str(x:Str)|byt(b:Array UInt8)|flt(b:UInt64)|ref(a:Addr)|ty(n:String)deriving DecidableEq
def aZ:V->Value->Prop|.non,u=>u=Value.none|.bl b,u=>u=Value.bool b|.int i,u=>∃t,u=Value.int i t|.str x,u=>∃t,u=Value.str x t|.byt b,u=>∃t,u=Value.bytes b t|.flt b,u=>∃t,u=Value.float b t|.ref a,u=>u=Value.ref a|.ty n,u=>u=Value.type n
abbrev bd:List V->List Value->Prop:=Paired aZ
theorem bd.length(r:bd a b):a.length=b.length:=Paired.length r
theorem bd.get:∀{a:List V}{b:RQ}{i:Nat}{x:V},bd a b->a[i]?=some x->∃u,b[i]?=some u/\aZ x u|_,_,_,_,.nil,e=>by simp at e|_,_,0,_,.cons r _,e=>by simp at e;subst e;exact⟨_,rfl,r⟩|_,_,i+1,x,.cons _ t,e=>by obtain⟨u,h1,h2⟩:=bd.get (i:=i) (x:=x) t (by simpa using e);exact⟨u,by simpa using h1,h2⟩
theorem bd.set(r:aZ x u):∀{a:List V}{b:RQ}(i:Nat),bd a b->bd (a.set i x) (b.set i u)|_,_,_,.nil=>.nil|_,_,0,.cons _ t=>.cons r t|_,_,i+1,.cons q t=>.cons q (bd.set r i t)
theorem bd.append:∀{a b:List V}{c d:RQ},bd a c->bd b d->bd (a++b) (c++d)|_,_,_,_,.nil,s=>s|_,_,_,_,.cons r t,s=>.cons r (bd.append t s)
theorem bd.take:∀{a:List V}{b:RQ}(n:Nat),bd a b->bd (a.take n) (b.take n)|_,_,0,_=>.nil|_,_,_+1,.nil=>.nil|_,_,n+1,.cons r t=>.cons r (bd.take n t)
theorem bd.drop:∀{a:List V}{b:RQ}(n:Nat),bd a b->bd (a.drop n) (b.drop n)|_,_,0,r=>r|_,_,_+1,.nil=>.nil|_,_,n+1,.cons _ t=>bd.drop n t
def ld:Option V->Option Value->Prop|some v,some u=>aZ v u|none,none=>True|_,_=>False
def KV{a:Type}:List (a×V)->List (a×Value)->Prop:=Paired λ(p:a×V)(q:a×Value)=>p.1=q.1/\aZ p.2 q.2
def kV:b0->V|.inl i=>.int i|.inr x=>.str x
inductive HO where|lst(xs:List V)|tup(xs:List V)|dK(kvs:List (b0×V))|dT(kvs:List (List b0×V))|set(S:Int->Bool)(n:Nat)|ins(C dx:Addr)(fs:List (Str×V))|own(x:Addr)|xd(fs:List (Str×V))|met(f x:Addr)|rng(lo hi:Int)|frz(o:Obj)(u:HO)|tbl(ps:RU)|ext(φ:Heap->Prop)
abbrev Hp:=Addr->Option HO
def aA(H:Hp)(a:Addr)(o:HO):Hp:=λb=>if b=a then some o else H b
def ae:aA H a o a=some o:=by unfold aA;rw[ku rfl]
def ao(h:b≠a):aA H a o b=H b:=by unfold aA;rw[j2 h]
def fW:aA (aA H a o) a u=aA H a u:=by funext b;unfold aA;split<;>rfl
def On{H:Hp}{a b:Addr}{o u:HO}(h:H a=some o)(h':H b=some u)(d:o≠u):a≠b:=by intro e;subst e;rw[h]at h';exact d (k_ h')
def aF{H:Hp}{a b:Addr}{o:HO}(h:H a=some o)(h':H b=none):a≠b:=by intro e;subst e;rw[h]at h';cases h'
section
variable(P:RR)(w:World)
def cZ(H:Hp)(h:Heap)(a:Addr):HO->Prop|.lst d=>d.length<=sizeLine/\∃(b:RQ)(n:Nat),bd d b/\h.get? a=some {cls:=.type "list",data:=.seq b.toArray n}|.tup d=>d.length<=sizeLine/\∃b:List Value,bd d b/\IsTup h a b.toArray|.dK c=>c.length<=sizeLine/\(a==sysModules)=false/\∃g,KV c g/\h.DictOf (aL P w) a g|.dT c=>c.length<=sizeLine/\(a==sysModules)=false/\∃d:List (List b0×Addr×Value),Paired (λ(p:List b0×V)(q:List b0×Addr×Value)=>p.1=q.1/\H q.2.1=some (.tup (p.1.map kV))/\aZ p.2 q.2.2) c d/\∃o i j,h.get? a=some o/\o.ExactDict/\o.data=.dict i j/\i.toList=d.map (entryOfKey (tupleKind (aL P w)))/\(d.map (·.1)).Nodup|.set S n=>h.SetOf (intKind P w) a S n|.ins C dx fs=>H dx=some (.own a)/\fs.length<=1000/\dx≠a/\h.get? a=some (PySem.W.instObj C dx)/\∃e,h.Ns1 dx e/\(∀f,ld (fs.lookup f) (e f))/\PySem.Within e (fs.map (·.1))|.own _=>∃o,h.get? a=some o|.xd fs=>∃e,h.Ns1 a e/\∀f,ld (fs.lookup f) (e f)|.rng lo hi=>∃t u v,h.get? a=some {cls:=.type "range",data:=.fields #[.int lo t,.int hi u,.int 1 v]}|.frz o u=>h.get? a=some o/\cZ H h a u|.tbl k=>h.get? a=some {cls:=.none,data:=.fields k}|.met f x=>h.get? a=some (PySem.W.methodObj (.ref f) (.ref x))|.ext φ=>φ h/\(∃o,h.get? a=some o)/\∀h1 h2:Heap,φ h1->(∀o,h1.get? a=some o->h2.get? a=some o)->φ h2
def mh(H:Hp)(h:Heap):Prop:=∀a o,H a=some o->cZ P w H h a o
end
section
variable{P:RR}{w:World}{H g:Hp}{h h':Heap}{a:Addr}{o:HO}
theorem cZ.lt(x:cZ P w H h a o):a<h.objs.size:=by cases o with|lst c=>obtain⟨_,_,_,_,e⟩:=x;exact ji e|tup c=>obtain⟨_,_,_,p⟩:=x;exact p.lt|dK b=>obtain⟨_,_,_,_,o,_,_,e,_⟩:=x;exact ji e|dT b=>obtain⟨_,_,_,_,o,_,_,e,_⟩:=x;exact ji e|set S n=>obtain⟨o,_,_,_,e,_⟩:=x;exact ji e|ins C dx fs=>obtain⟨_,_,_,e,_⟩:=x;exact ji e|own y=>obtain⟨_,e⟩:=x;exact ji e|xd fs=>obtain⟨_,⟨_,_,_,e,_⟩,_⟩:=x;exact ji e|rng lo hi=>obtain⟨_,_,_,e⟩:=x;exact ji e|frz ob u=>obtain⟨e,_⟩:=x;exact ji e|tbl d=>exact ji (show h.get? a=some _ from x)|met f y=>exact ji (show h.get? a=some _ from x)|ext φ=>obtain⟨_,⟨_,e⟩,_⟩:=x;exact ji e
theorem Paired.mapP:∀{c:List e}{d:List i},Paired F c d->(∀a b,F a b->G a b)->Paired G c d|_,_,.nil,_=>.nil|_,_,.cons r t,f=>.cons (f _ _ r) (Paired.mapP t f)
def cZ.stay(x:cZ P w H h a o)(k:∀b u,(b=a\/H b=some (.own a))->h.get? b=some u->h'.get? b=some u)(E:∀b,H b=some (.own a)->g b=some (.own a))(F:∀b s,H b=some (.tup s)->g b=some (.tup s)):cZ P w g h' a o:=by induction o with|lst s=>obtain⟨z,l,n,r,e⟩:=x;exact⟨z,l,n,r,k _ _ (.inl rfl) e⟩|tup s=>obtain⟨z,l,r,ob,e,c⟩:=x;exact⟨z,l,r,ob,k _ _ (.inl rfl) e,c⟩|dK m=>obtain⟨z,y,G,r,ob,i,j,e,c⟩:=x;exact⟨z,y,G,r,ob,i,j,k _ _ (.inl rfl) e,c⟩|dT m=>obtain⟨z,y,s,r,ob,i,j,e,c⟩:=x;exact⟨z,y,s,Paired.mapP r λp q z=>⟨z.1,F _ _ z.2.1,z.2.2⟩,ob,i,j,k _ _ (.inl rfl) e,c⟩|set S n=>obtain⟨ob,i,j,t,e,c⟩:=x;exact⟨ob,i,j,t,k _ _ (.inl rfl) e,c⟩|ins C dx fs=>obtain⟨d,z,ne,e,A,⟨B,i,j,I,c⟩,r⟩:=x;exact⟨E _ d,z,ne,k _ _ (.inl rfl) e,A,⟨B,i,j,k _ _ (.inr d) I,c⟩,r⟩|own y=>obtain⟨ob,e⟩:=x;exact⟨ob,k _ _ (.inl rfl) e⟩|xd fs=>obtain⟨A,⟨B,i,j,e,c⟩,r⟩:=x;exact⟨A,⟨B,i,j,k _ _ (.inl rfl) e,c⟩,r⟩|rng lo hi=>obtain⟨t,u,v,e⟩:=x;exact⟨t,u,v,k _ _ (.inl rfl) e⟩|frz ob u J=>obtain⟨e,q⟩:=x;exact⟨k _ _ (.inl rfl) e,J q⟩|tbl D=>have e:h.get? a=some {cls:=.none,data:=.fields D}:=x;show h'.get? a=some {cls:=.none,data:=.fields D};exact k a _ (.inl rfl) e|met f y=>have e:h.get? a=some (PySem.W.methodObj (.ref f) (.ref y)):=x;show h'.get? a=some (PySem.W.methodObj (.ref f) (.ref y));exact k a _ (.inl rfl) e|ext φ=>obtain⟨p,⟨o,e⟩,st⟩:=x;exact⟨st _ _ p λo q=>k _ _ (.inl rfl) q,⟨o,k _ _ (.inl rfl) e⟩,st⟩
theorem mh.lt(x:mh P w H h)(e:H a=some o):a<h.objs.size:=(x a o e).lt
def mh.fresh(x:mh P w H h)(e:h.objs.size<=a):H a=none:=by cases q:H a with|none=>rfl|some u=>exact absurd (ot (x.lt q) e) (q4 _)
def mh.kept(x:mh P w H h)(k:∀b u,h.get? b=some u->h'.get? b=some u):mh P w H h':=λa o e=>(x a o e).stay (λb u _ q=>k b u q) (λ_ q=>q) λ_ _ q=>q
def mh.laid(x:mh P w H h)(k:∀b u,h.get? b=some u->h'.get? b=some u)(f:h.objs.size<=a)(new:cZ P w (aA H a o) h' a o):mh P w (aA H a o) h':=λb u e=>by
 have hn:=x.fresh f
 by_cases d:b=a
 ·subst d;rw[ae]at e;cases e;exact new
 ·rw[ao d]at e;exact(x b u e).stay (λc v _ q=>k c v q) (λc q=>by rw[ao (aF q hn)];exact q) λc i q=>by rw[ao (aF q hn)];exact q
end
def Rd(H:Hp)(a:Addr)(u:HO):Prop:=H a=some u\/∃o,H a=some (.frz o u)
def Rd.ok(r:Rd H a u)(x:mh P w H h):cZ P w H h a u:=by
 rcases r with r|⟨o,r⟩
 ·exact x a u r
 ·obtain⟨_,q⟩:=x a _ r;exact q
def OU:Option HO->Prop|some (.lst _)=>True|some (.dK _)=>True|some (.dT _)=>True|some (.set _ _)=>True|some (.ins _ _ _)=>True|some (.ext _)=>True|_=>False
section
variable{P:RR}{w:World}{H:Hp}{h h':Heap}{x e:Addr}{a:HO}
def mh.write(ok:mh P w H h)(g:OU (H x))(n:e=x\/H e=some (.own x))(k:∀b u,b≠e->h.get? b=some u->h'.get? b=some u)(l:∃u,h'.get? e=some u)(new:cZ P w (aA H x a) h' x a):mh P w (aA H x a) h':=λb u q=>by
 have f:∀c y,H c=some (.own y)->c≠x:=λc y r z=>by subst z;rw[r]at g;exact g
 have ntup:∀c i,H c=some (.tup i)->c≠x:=λc i r z=>by subst z;rw[r]at g;exact g
 by_cases j:b=x
 ·subst j;rw[ae]at q;cases q;exact new
 ·rw[ao j]at q
  by_cases d:b=e
  ·have m:H b=some (.own x):=by
    rcases n with z|z
    ·exact absurd (d.trans z) j
    ·rw[d];exact z
   rw[q]at m;cases m;obtain⟨v,o⟩:=l;exact⟨v,by rw[d];exact o⟩
  ·refine(ok b u q).stay (λc v hc r=>k c v ?_ r) (λc r=>by rw[ao (f c b r)];exact r) λc i r=>by rw[ao (ntup c i r)];exact r
   rcases hc with rfl|hc
   ·exact d
   ·rintro rfl;rcases n with z|z
    ·exact f c b hc z
    ·rw[hc]at z;cases z;exact j rfl
end
structure Un(fs ex:RW)(H H':Hp)(h h':Heap):Prop where
 keep:∀b o,h.get? b=some o->H b=none->b∉fs->b∉ex->h'.get? b=some o
 slot:∀b o,h.get? b=some o->H b=none->b∈fs->b∉ex->∃sl,h'.get? b=some {o with slots:=sl}free:∀b o,h.get? b=some o->H b=none->b∉ex->H' b=none
 there:∀b o,h.get? b=some o->b∉ex->∃o',h'.get? b=some o'
 tups:∀b xs,H b=some (.tup xs)->H' b=some (.tup xs)frzs:∀b o u,H b=some (.frz o u)->H' b=some (.frz o u)tbls:∀b ps,H b=some (.tbl ps)->∃more,H' b=some (.tbl (ps++more))
section
variable{fs d ex f:RW}{H c g:Hp}{h h1 h2 h':Heap}{a x e:Addr}{o:HO}
def Un.any(u:Un fs ex H c h h1){b:Addr}{ob:Obj}(q:h.get? b=some ob)(n:H b=none)(i:b∉ex):∃sl,h1.get? b=some {ob with slots:=sl}:=by
 by_cases j:b∈fs
 ·exact u.slot b ob q n j i
 ·exact⟨ob.slots,u.keep b ob q n j i⟩
def Un.kept(k:∀b u,h.get? b=some u->h'.get? b=some u):Un fs ex H H h h':=⟨λb ob q _ _ _=>k b ob q,λb ob q _ _ _=>⟨ob.slots,k b ob q⟩,λ_ _ _ n _=>n,λb ob q _=>⟨ob,k b ob q⟩,λ_ _ q=>q,λ_ _ _ q=>q,λ_ i q=>⟨#[],by rw[q];simp⟩⟩
def Un.refl:Un fs ex H H h h:=Un.kept λ_ _ q=>q
def Un.laid(k:∀b u,h.get? b=some u->h'.get? b=some u)(i:h.objs.size<=a)(hn:H a=none):Un fs ex H (aA H a o) h h' where
 keep:=λb u q _ _ _=>k b u q
 slot:=λb u q _ _ _=>⟨u.slots,k b u q⟩
 free:=λb u q n _=>by rw[ao (lm (ot (ji q) i))];exact n
 there:=λb u q _=>⟨u,k b u q⟩
 tups:=λb j q=>by rw[ao (aF q hn)];exact q
 frzs:=λb u j q=>by rw[ao (aF q hn)];exact q
 tbls:=λb l q=>⟨#[],by rw[ao (aF q hn),q];simp⟩
def Un.write(j:OU (H x))(s:e=x\/H e=some (.own x))(k:∀b u,b≠e->h.get? b=some u->h'.get? b=some u)(l:∃u,h'.get? e=some u):Un fs ex H (aA H x o) h h':=by
 have m:∀b,H b=none->b≠x:=λb n z=>by subst z;rw[n]at j;exact j
 have p:∀b,H b=none->b≠e:=λb n z=>by
  subst z;rcases s with r|r
  ·exact m b n r
  ·rw[n]at r;cases r
 have hm:∀b u,H b=some u->¬OU (some u)->b≠x:=λb u q nm z=>by subst z;rw[q]at j;exact nm j
 refine⟨λb u q n _ _=>k b u (p b n) q,λb u q n _ _=>⟨u.slots,k b u (p b n) q⟩,λb u q n _=>by rw[ao (m b n)];exact n,λb u q _=>?_,λb t q=>by rw[ao (hm b _ q λz=>z)];exact q,λb u t q=>by rw[ao (hm b _ q λz=>z)];exact q,λb v q=>⟨#[],by rw[ao (hm b _ q λz=>z),q];simp⟩⟩
 by_cases i:b=e
 ·subst i;exact l
 ·exact⟨u,k b u i q⟩
end
def O6(h:Heap)(H:Hp):List Addr:=(List.range h.objs.size).filter λa=>(H a).isSome
def zx(h:Heap)(H:Hp):Heap:=PySem.W.hideAll h (O6 h H)
def E2(h:Heap)(H:Hp):(zx h H).objs.size=h.objs.size:=PySem.W.hideAll_size _ _
def HJ(e:h.get? b=some o)(n:H b=none):(zx h H).get? b=some o:=PySem.W.hideAll_get _ e λhm=>by have q:(H b).isSome=true:=(v1.mp hm).2;rw[n]at q;simp at q
def J7(e:(zx h H).get? b=some o):h.get? b=some o/\H b=none:=by have a:h.get? b=some o:=PySem.W.of_hideAll (O6 h H) e;refine⟨a,?_⟩;cases q:H b with|none=>rfl|some x=>have hm:b∈O6 h H:=v1.mpr ⟨si.mpr (ji a),by simp[q]⟩;have z:(zx h H).get? b=none:=PySem.W.hideAll_none (O6 h H) hm;rw[z]at e;cases e
def KQ(g h:Heap)(L:Addr):List (Addr×Obj):=(List.range h.objs.size).filterMap λa=>if a=L\/(g.get? a).isSome=true then none else(h.get? a).map λo=>(a,o)
def mE(g h:Heap)(L d:Addr):List (Addr×Obj):=(KQ g h L).filter λp=>decide (p.1≠d)
end L2
namespace L2
open PySem PySem.Spec PyProof.Rows
structure OV(K:RM)(mg:RP)(base:Heap):Prop where
 kin:K.In base
 glob:base.Ns mainGlobals mg
 blt:∃mb,base.Ns builtinsNs mb/\∀x:Str,x≠"__name__"->mb x=bootBuiltins x
 nolimit:base.NoLimit
structure Cx where
 prog:Program
 w:World
 K:RM
 mg:Str->Option Value
 base:Heap
 A:Around
 N:List Str
 s₀:Shared
 H₀:Hp
 env:Env
 outer:List Env
 stack:List Env
 ex:List Addr
 fn:Str->Bool
 calm:Bool
 pn:List (Addr×Obj)xe:Value->Shared->Prop
def kG(l:List Env):List Addr:=l.filterMap (·.frame)
abbrev Cx.fs(X:Cx):List Addr:=kG X.outer
def Pb(a:Scope)(x:Str):Prop:=a.names.lookup x=some .local\/a.names.lookup x=some .cell\/a.names.lookup x=some .free
def Ni(a:Scope)(x:Str):Prop:=a.names.lookup x=some .local\/a.names.lookup x=some .cell
def PV(env:Env)(h:Heap)(m:RP)(x:Str)(u:Value):Prop:=(env.kindOf x=some .local/\m x=some u)\/((env.kindOf x=some .cell\/env.kindOf x=some .free)/\∃c,env.cells.lookup x=some c/\h.IsCell c (some u))
structure Cx.Ok(X:Cx):Prop where
 mod:OV X.K X.mg X.base
 kind:X.env.scope.kind=.function
 glob:X.env.globals=mainGlobals
 blt:X.env.builtins=builtinsNs
 above:X.s₀.heap.objs.size<=X.env.locals
 inj:∀x y c,X.env.cells.lookup x=some c->X.env.cells.lookup y=some c->x=y
 has:∀x,(X.env.kindOf x=some .cell\/X.env.kindOf x=some .free)->∃c,X.env.cells.lookup x=some c
 cab:∀x c,X.fn x=true->X.env.cells.lookup x=some c->X.s₀.heap.objs.size<=c
 hd:X.calm=true->X.A.handled=none
 frames:X.A.frames=some X.stack
 stk:X.stack=X.outer\/(X.stack=X.env::X.outer/\X.env.frame=some X.env.locals)exf:∀b∈X.ex,b≠X.env.locals/\∀x c,X.env.cells.lookup x=some c->c≠b
 bs:∀b o,X.base.get? b=some o->X.s₀.heap.get? b=some o/\X.H₀ b=none
 bsz:X.base.objs.size<=X.s₀.heap.objs.size
 noex:∀b o,X.base.get? b=some o->b∉X.ex
 exfs:∀b∈X.ex,b∉X.fs
 funs:X.s₀.heap.FunFrames X.base X.outer
 frf:∀b∈X.fs,X.H₀ b=none
structure aM(X:Cx)(pins:RO)(σ:List (Option V))(H:Hp)(s:Shared):Prop where
 ok:X.Ok
 os:s.os=X.s₀.os
 bare:AllBare s.gens
 base:Un X.fs X.ex X.H₀ H X.s₀.heap s.heap
 loc:∃m,s.heap.Ns X.env.locals m/\∀(i:Nat)(x:Str)(v:V),X.N[i]?=some x->σ[i]?=some (some v)->Pb X.env.scope x->∃u,aZ v u/\PV X.env s.heap m x u
 cell:∀x c,X.env.cells.lookup x=some c->∃v,s.heap.IsCell c v
 free:H X.env.locals=none
 freeC:∀x c,X.env.cells.lookup x=some c->H c=none
 pin:∀p∈X.pn++pins,s.heap.get? p.1=some p.2/\H p.1=none/\p.1≠X.env.locals/\p.1∉X.fs/\∀v,p.2.data≠.cell v
 hok:mh X.prog X.w H s.heap
 len:σ.length=X.N.length
section
variable{X:Cx}{f:RO}{g:List (Option V)}{H B:Hp}{s:Shared}{h':Heap}
def Cx.Ok.nofr(ok:X.Ok)(e:X.base.get? b=some o):b∉X.fs:=λa=>by have:=(ok.funs.mem a).1;rw[e]at this;cases this
theorem aM.bs(I:aM X f g H s):∀b o,X.base.get? b=some o->s.heap.get? b=some o/\H b=none:=λb o e=>⟨I.base.keep b o (I.ok.bs b o e).1 (I.ok.bs b o e).2 (I.ok.nofr e) (I.ok.noex b o e),I.base.free b o (I.ok.bs b o e).1 (I.ok.bs b o e).2 (I.ok.noex b o e)⟩
def aM.bk(I:aM X f g H s):∀b o,X.base.get? b=some o->s.heap.get? b=some o:=λb o e=>(I.bs b o e).1
theorem aM.mod(I:aM X f g H s):OV X.K X.mg X.base:=I.ok.mod
def aM.kIn(I:aM X f g H s):X.K.In s.heap:=I.ok.mod.kin.keeps I.bk
def aM.fr(I:aM X f g H s):∃m,Fr X.base X.env.locals s.heap m:=let⟨m,hn,_⟩:=I.loc
 ⟨m,hn,I.bk,nh I.ok.bsz I.ok.above⟩
theorem aM.lt(I:aM X f g H s):X.env.locals<s.heap.objs.size:=let⟨_,hn,_⟩:=I.loc;hn.lt
def aM.sz(I:aM X f g H s):X.s₀.heap.objs.size<=s.heap.objs.size:=nh I.ok.above (sm I.lt)
def aM.nofs(I:aM X f g H s)(h:s.heap.objs.size<=a):a∉X.fs:=λb=>by obtain⟨_,o,c,_⟩:=I.ok.funs.mem b;exact absurd (ot (ji c) (nh I.sz h)) (q4 _)
def aM.cne(I:aM X f g H s):∀x c,X.env.cells.lookup x=some c->c≠X.env.locals:=λx c e z=>by obtain⟨v,o,d,hd⟩:=I.cell x c e;obtain⟨m,⟨h,i,j,a,b,_⟩,_⟩:=I.loc;rw[z,a]at d;cases d;rw[b]at hd;cases hd
theorem aM.funs(I:aM X f g H s):s.heap.FunFrames X.base X.outer:=by
 have all:∀(l:List Env),(∀b∈kG l,b∈X.fs)->X.s₀.heap.FunFrames X.base l->s.heap.FunFrames X.base l:=by
  intro l
  induction l with|nil=>intro _ _;trivial|cons env r i=>intro h j;obtain⟨k,⟨L,o,a,hn,m,hd⟩,n⟩:=j;have c:L∈X.fs:=h L (by unfold kG;rw[z_,a];exact kw);obtain⟨sl,e⟩:=I.base.slot L o m (I.ok.frf L c) c λz=>I.ok.exfs L z c;exact⟨k,⟨L,_,a,hn,e,hd⟩,i (λb d=>h b (by unfold kG;rw[z_,a];exact i_ _ d)) n⟩
 exact all X.outer (λ_ d=>d) I.ok.funs
theorem aM.stack(I:aM X f g H s):s.heap.FunFrames X.base X.stack:=by
 rcases I.ok.stk with e|⟨e,a⟩
 ·rw[e];exact I.funs
 ·rw[e];obtain⟨m,hn,_⟩:=I.loc;refine .cons (by rw[I.ok.kind];decide) a hn ?_ I.funs;exact Heap.get?_none_of_le (nh I.ok.bsz I.ok.above)
def aM.stkSub(I:aM X f g H s):∀b∈kG X.stack,b∈X.env.locals::X.fs:=λb a=>by
 rcases I.ok.stk with e|⟨e,c⟩
 ·rw[e]at a;exact i_ _ a
 ·rw[e]at a;unfold kG at a;rw[z_,c]at a;exact a
def aM.stkFree(I:aM X f g H s):∀b∈kG X.stack,H b=none:=λb a=>by
 rcases ov.mp (I.stkSub b a)with e|a
 ·rw[e];exact I.free
 ·obtain⟨_,o,c,_⟩:=I.ok.funs.mem a;exact I.base.free b o c (I.ok.frf b a) λz=>I.ok.exfs b z a
def aM.step{g':Array GenState}{P:Nat}{d':Drawn}{ch:RW}(I:aM X f g H s)(h:∀b∈ch,(b∈X.ex\/X.s₀.heap.objs.size<=b)/\b≠X.env.locals/\(∀x c,X.env.cells.lookup x=some c->c≠b)/\∀p∈X.pn++f,p.1≠b)(keep:∀b o,b≠X.env.locals->b∉X.fs->b∉ch->s.heap.get? b=some o->H b=none->h'.get? b=some o)(slot:∀b o,b≠X.env.locals->b∈X.fs->b∉ch->s.heap.get? b=some o->H b=none->∃sl,h'.get? b=some {o with slots:=sl})(free:∀b o,b∉ch->s.heap.get? b=some o->H b=none->B b=none)(there:∀b o,b∉ch->s.heap.get? b=some o->∃F,h'.get? b=some F)(tups:∀b C,H b=some (.tup C)->B b=some (.tup C))(frzs:∀b o u,H b=some (.frz o u)->B b=some (.frz o u))(tbls:∀b L,H b=some (.tbl L)->∃G,B b=some (.tbl (L++G)))(ns:∀m,s.heap.Ns X.env.locals m->h'.Ns X.env.locals m)(hok:mh X.prog X.w B h')(hg:AllBare g'):aM X f g B {s with heap:=h',gens:=g',drawn:=d',toks:=P}:=by
 have J:∀b o,X.s₀.heap.get? b=some o->b≠X.env.locals:=λb o e=>lm (ot (ji e) I.ok.above);have y:∀b o,X.s₀.heap.get? b=some o->b∉X.ex->b∉ch:=λb o e a D=>by
  rcases(h b D).1 with z|z
  ·exact a z
  ·exact absurd (ot (ji e) z) (q4 _)
 have j:∀x c,X.env.cells.lookup x=some c->∀v,s.heap.IsCell c v->h'.IsCell c v:=λx c e v⟨o,E,hd⟩=>by
  have t:c∉ch:=λz=>(h c z).2.2.1 x c e rfl
  by_cases hc:c∈X.fs
  ·obtain⟨sl,q⟩:=slot c o (I.cne x c e) hc t E (I.freeC x c e);exact⟨_,q,hd⟩
  ·exact⟨o,keep c o (I.cne x c e) hc t E (I.freeC x c e),hd⟩
 refine⟨I.ok,I.os,hg,⟨λb o e n D a=>?_,λb o e n D a=>?_,λb o e n a=>?_,λb o e a=>?_,λb C e=>tups b C (I.base.tups b C e),λb o C e=>frzs b o C (I.base.frzs b o C e),λb L e=>?_⟩,?_,λx c e=>?_,?_,λx c e=>?_,λp N=>?_,hok,I.len⟩
 ·exact keep b o (J b o e) D (y b o e a) (I.base.keep b o e n D a) (I.base.free b o e n a)
 ·obtain⟨sl,A⟩:=I.base.slot b o e n D a;obtain⟨M,K⟩:=slot b _ (J b o e) D (y b o e a) A (I.base.free b o e n a);exact⟨M,K⟩
 ·obtain⟨F,A⟩:=I.base.there b o e a;exact free b F (y b o e a) A (I.base.free b o e n a)
 ·obtain⟨F,A⟩:=I.base.there b o e a;exact there b F (y b o e a) A
 ·obtain⟨O,A⟩:=I.base.tbls b L e;obtain⟨Q,K⟩:=tbls b _ A;exact⟨O++Q,by rw[K,Array.append_assoc]⟩
 ·obtain⟨m,hn,R⟩:=I.loc;refine⟨m,ns m hn,λi x v A K S=>?_⟩;obtain⟨u,r,l⟩:=R i x v A K S;refine⟨u,r,?_⟩;rcases l with l|⟨k,c,e,z⟩
  ·exact .inl l
  ·exact .inr ⟨k,c,e,j x c e _ z⟩
 ·obtain⟨v,z⟩:=I.cell x c e;exact⟨v,j x c e v z⟩
 ·obtain⟨m,⟨o,_,_,E,_⟩,_⟩:=I.loc;exact free _ o (λz=>(h _ z).2.1 rfl) E I.free
 ·obtain⟨v,o,E,hd⟩:=I.cell x c e;exact free c o (λz=>(h c z).2.2.1 x c e rfl) E (I.freeC x c e)
 ·obtain⟨e,n,ne,nf,d⟩:=I.pin p N;have t:p.1∉ch:=λz=>(h p.1 z).2.2.2 p N rfl;exact⟨keep p.1 p.2 ne nf t e n,free p.1 p.2 t e n,ne,nf,d⟩
def aM.un{t':Nat}(I:aM X f g H s)(u:Un X.fs [] H B s.heap h')(hok:mh X.prog X.w B h'):aM X f g B {s with heap:=h',toks:=t'}:=by obtain⟨m,⟨o,l,p,i,r⟩,_⟩:=id I.loc;obtain⟨sl,j⟩:=u.any i I.free (by simp);exact I.step (g':=s.gens) (d':=s.drawn) (ch:=[]) (λ_ z=>nomatch z) (λb o _ c _ e n=>u.keep b o e n c (by simp)) (λb o _ c _ e n=>u.slot b o e n c (by simp)) (λb o _ e n=>u.free b o e n (by simp)) (λb o _ e=>u.there b o e (by simp)) u.tups u.frzs u.tbls (λx hm=>by obtain⟨y,d,h,a,k⟩:=hm;rw[i]at a;cases a;exact⟨_,d,h,j,k⟩) hok I.bare
def aM.call{g':Array GenState}{t':Nat}{d':Drawn}{ch:RW}(I:aM X f g H s)(u:Un (kG X.stack) ch H B s.heap h')(hok:mh X.prog X.w B h')(hg:AllBare g')(a:∀b∈ch,(b∈X.ex\/X.s₀.heap.objs.size<=b)/\b≠X.env.locals/\(∀x c,X.env.cells.lookup x=some c->c≠b)/\∀p∈X.pn++f,p.1≠b):aM X f g B {s with heap:=h',gens:=g',drawn:=d',toks:=t'}:=by obtain⟨m,⟨o,t,v,k,r⟩,_⟩:=id I.loc;obtain⟨sl,h⟩:=u.any k I.free λz=>(a _ z).2.1 rfl;exact I.step (ch:=ch) a (λb o h l hc e n=>u.keep b o e n (λz=>(ov.mp (I.stkSub b z)).elim h l) hc) (λb o _ _ hc e n=>u.any e n hc) (λb o hc e n=>u.free b o e n hc) (λb o hc e=>u.there b o e hc) u.tups u.frzs u.tbls (λy hm=>by obtain⟨A,i,j,d,q⟩:=hm;rw[k]at d;cases d;exact⟨_,i,j,h,q⟩) hok hg
def aM.turned{t':Nat}{it:Addr}(I:aM X f g H s)(k:∀b o,b≠it->s.heap.get? b=some o->h'.get? b=some o)(hn:H it=none)(d:it≠X.env.locals)(h1:it∈X.ex\/X.s₀.heap.objs.size<=it)(h2:∀x c,X.env.cells.lookup x=some c->c≠it)(h3:∀p∈X.pn++f,p.1≠it):aM X f g H {s with heap:=h',toks:=t'}:=by
 have a:∀b u,H b=some u->b≠it:=λb u e z=>by rw[z,hn]at e;cases e
 refine I.step (g':=s.gens) (d':=s.drawn) (ch:=[it]) (λb h=>?_) (λb o _ _ hc e _=>k b o (λz=>hc (by simp[z])) e) (λb o _ _ hc e _=>⟨o.slots,k b o (λz=>hc (by simp[z])) e⟩) (λ_ _ _ _ n=>n) (λb o hc e=>⟨o,k b o (λz=>hc (by simp[z])) e⟩) (λ_ _ e=>e) (λ_ _ _ e=>e) (λb A e=>⟨#[],by rw[e];simp⟩) (λm hm=>?_) (λb u e=>?_) I.bare
 ·have e:b=it:=by simpa using h
  subst e;exact⟨h1,d,h2,h3⟩
 ·obtain⟨o,i,j,l,r⟩:=hm;exact⟨o,i,j,k _ o (ol d) l,r⟩
 ·refine(I.hok b u e).stay (λc v hc q=>k c v ?_ q) (λ_ q=>q) λ_ _ q=>q;rcases hc with z|z
  ·rw[z];exact a b u e
  ·exact a c _ z
def aM.tok(I:aM X f g H s)(t:Nat):aM X f g H {s with toks:=t}:=I.un (h':=s.heap) (t':=t) Un.refl I.hok
theorem aM.kept(I:aM X f g H s)(k:∀b u,s.heap.get? b=some u->h'.get? b=some u):aM X f g H {s with heap:=h',toks:=t'}:=I.un (Un.kept k) (I.hok.kept k)
theorem aM.laid(I:aM X f g H s)(k:∀b u,s.heap.get? b=some u->h'.get? b=some u)(c:s.heap.objs.size<=a)(new:cZ X.prog X.w (aA H a o) h' a o):aM X f g (aA H a o) {s with heap:=h',toks:=t'}:=I.un (Un.laid k c (I.hok.fresh c)) (I.hok.laid k c new)
theorem aM.write(I:aM X f g H s)(c:OU (H x))(d:e=x\/H e=some (.own x))(k:∀b u,b≠e->s.heap.get? b=some u->h'.get? b=some u)(a:∃u,h'.get? e=some u)(new:cZ X.prog X.w (aA H x o) h' x o):aM X f g (aA H x o) {s with heap:=h',toks:=t'}:=I.un (Un.write c d k a) (I.hok.write c d k a new)
def aM.weak(I:aM X f g H s)(c:a.length=g.length)(w:∀(i:Nat)v,a[i]?=some (some v)->g[i]?=some (some v)):aM X f a H s:=⟨I.ok,I.os,I.bare,I.base,let⟨m,hn,b⟩:=I.loc;⟨m,hn,λi x v d e h=>b i x v d (w i v e) h⟩,I.cell,I.free,I.freeC,I.pin,I.hok,c.trans I.len⟩
def aM.pins_of(I:aM X f g H s)(h:∀p∈a,s.heap.get? p.1=some p.2/\H p.1=none/\p.1≠X.env.locals/\p.1∉X.fs/\∀v,p.2.data≠.cell v):aM X a g H s:=⟨I.ok,I.os,I.bare,I.base,I.loc,I.cell,I.free,I.freeC,λp b=>(RJ.mp b).elim (λz=>I.pin p (t2 _ z)) (h p),I.hok,I.len⟩
def AZ{N:RS}(c:N.Nodup){i j:Nat}{x:Str}(a:N[i]?=some x)(b:N[j]?=some x):i=j:=by obtain⟨h1,d⟩:=d_.mp a;obtain⟨h2,e⟩:=d_.mp b;exact(List.getElem_inj c).mp (d.trans e.symm)
def xM{M:Model}{A:Around}{E:RN}{i:Nat}{x:Str}{v:V}{u:Value}{Q:Unit->Shared->Prop}(I:aM X f g H s)(hN:X.N.Nodup)(hi:X.N[i]?=some x)(D:Ni X.env.scope x)(r:aZ v u)(h:∀s',aM X f (g.set i (some v)) H s'->(∃a,Heap.SameBut a s.heap s'.heap/\(a=X.env.locals\/X.env.cells.lookup x=some a))->Q () s')(hf:X.fn x=true\/X.env.scope.names.lookup x=some .local:=by first|exact .inl rfl|exact .inr rfl|assumption):wpAny M A (storeName X.env x u) Q E s:=by
 obtain⟨m,hn,hl⟩:=id I.loc;have R:(X.env.scope.kind==.class||(X.env.scope.kind==.module&&X.env.locals !=X.env.globals))=false:=by rw[I.ok.kind];rfl
 have J:i<g.length:=by rw[I.len];exact(d_.mp hi).1
 have cne:=I.cne;have t:∀{a:Addr}{h':Heap},(∃o,s.heap.get? a=some o/\H a=none)->Heap.SameBut a s.heap h'->mh X.prog X.w H h':=λ{a h'}ha l b ob e=>by
  obtain⟨_,_,F⟩:=ha;refine(I.hok b ob e).stay (λc Y hc q=>(l.2 c ?_).trans q) (λ_ q=>q) λ_ _ q=>q;rintro rfl;rcases hc with rfl|hc
  ·rw[F]at e;cases e
  ·rw[F]at hc;cases hc
 rcases D with K|K
 ·refine wpAny_storeName_local K hn (λh' aa l=>?_) R;obtain⟨oL,_,_,ac,_⟩:=id hn;refine h _ ⟨I.ok,I.os,I.bare,⟨λb o e n L D=>?_,λb o e n L D=>?_,I.base.free,λb o e D=>?_,I.base.tups,I.base.frzs,I.base.tbls⟩,⟨_,aa,λj y v' C G e3=>?_⟩,λy c e=>?_,I.free,I.freeC,λp hp=>?_,t ⟨oL,ac,I.free⟩ l,by simpa using I.len⟩ ⟨_,l,.inl rfl⟩
  ·exact(l.2 b (lm (ot (ji e) I.ok.above))).trans (I.base.keep b o e n L D)
  ·obtain⟨sl,C⟩:=I.base.slot b o e n L D;exact⟨sl,(l.2 b (lm (ot (ji e) I.ok.above))).trans C⟩
  ·obtain⟨o',C⟩:=I.base.there b o e D;exact⟨o',(l.2 b (lm (ot (ji e) I.ok.above))).trans C⟩
  ·by_cases O:j=i
   ·subst O;rw[hi]at C;cases C;rw[w_ J]at G;cases G;exact⟨u,r,.inl ⟨K,by simp⟩⟩
   ·rw[qr (ol O)]at G;obtain⟨u',r',q⟩:=hl j y v' C G e3;refine⟨u',r',?_⟩;rcases q with⟨k,e⟩|⟨k,c,e,z⟩
    ·refine .inl ⟨k,?_⟩;have:y≠x:=λe=>O (AZ hN C (e▸hi));simp[this,e]
    ·exact .inr ⟨k,c,e,z.sameBut l (cne y c e)⟩
  ·obtain⟨Y,z⟩:=I.cell y c e;exact⟨Y,z.sameBut l (cne y c e)⟩
  ·obtain⟨e,n,ne,nf,d⟩:=I.pin p hp;exact⟨(l.2 p.1 ne).trans e,n,ne,nf,d⟩
 ·have P:X.fn x=true:=by
   rcases hf with z|z
   ·exact z
   ·rw[z]at K;cases K
  obtain⟨c,hc⟩:=I.ok.has x (.inl K);obtain⟨Y,z⟩:=I.cell x c hc;refine wpAny_storeName_cell I.ok.kind K hc z (λh' S l=>?_);obtain⟨oc,T,U⟩:=id z;refine h {s with heap:=h'} ⟨I.ok,I.os,I.bare,⟨λb o e n L D=>?_,λb o e n L D=>?_,I.base.free,λb o e D=>?_,I.base.tups,I.base.frzs,I.base.tbls⟩,⟨m,hn.sameBut l (ol (cne x c hc)),λj y v' C G e3=>?_⟩,λy Z e=>?_,I.free,I.freeC,λp hp=>?_,t ⟨oc,T,I.freeC x c hc⟩ l,by simpa using I.len⟩ ⟨c,l,.inr hc⟩
  ·exact(l.2 b (lm (ot (ji e) (I.ok.cab x c P hc)))).trans (I.base.keep b o e n L D)
  ·obtain⟨sl,C⟩:=I.base.slot b o e n L D;exact⟨sl,(l.2 b (lm (ot (ji e) (I.ok.cab x c P hc)))).trans C⟩
  ·obtain⟨o',C⟩:=I.base.there b o e D;exact⟨o',(l.2 b (lm (ot (ji e) (I.ok.cab x c P hc)))).trans C⟩
  ·by_cases O:j=i
   ·subst O;rw[hi]at C;cases C;rw[w_ J]at G;cases G;exact⟨u,r,.inr ⟨.inl K,c,hc,S⟩⟩
   ·rw[qr (ol O)]at G;obtain⟨u',r',q⟩:=hl j y v' C G e3;refine⟨u',r',?_⟩;rcases q with q|⟨k,Z,e,z'⟩
    ·exact .inl q
    ·refine .inr ⟨k,Z,e,z'.sameBut l ?_⟩;rintro rfl;exact O (AZ hN C (I.ok.inj _ _ _ e hc▸hi))
  ·by_cases W:Z=c
   ·subst W;exact⟨_,S⟩
   ·obtain⟨w2,z2⟩:=I.cell y Z e;exact⟨w2,z2.sameBut l W⟩
  ·obtain⟨e,n,ne,nf,d⟩:=I.pin p hp;refine⟨(l.2 p.1 ?_).trans e,n,ne,nf,d⟩;intro q;rw[q,T]at e;have q':oc=p.2:=k_ e;exact d Y (by rw[<-q'];exact U)
def uF(I:aM X f g H s)(b:X.N.Nodup)(hi:X.N[i]?=some x)(c:Ni X.env.scope x)(r:aZ v u)(h:∀a,aM X f (g.set i (some v)) H a->Q () a)(d:X.fn x=true\/X.env.scope.names.lookup x=some .local:=by first|exact .inl rfl|exact .inr rfl|assumption):wpAny M A (storeName X.env x u) Q E s:=xM I b hi c r (λa e _=>h a e) d
def aM.call'(I:aM X f g H s)(j:s'.os=s.os)(u:Un (kG X.stack) ch H B s.heap s'.heap)(hok:mh X.prog X.w B s'.heap)(hg:AllBare s'.gens)(a:∀b∈ch,(b∈X.ex\/X.s₀.heap.objs.size<=b)/\b≠X.env.locals/\(∀x c,X.env.cells.lookup x=some c->c≠b)/\∀p∈X.pn++f,p.1≠b):aM X f g B s':=by obtain⟨h',d,h,i,k⟩:=s';have e:k=s.os:=j;subst e;exact I.call (g':=d) (t':=i) (d':=h) u hok hg a
end
abbrev XK:=Value->Option Addr->Hp->Prop
abbrev St:=List (Option V)
abbrev VK:=V->Hp->Prop
abbrev TE:=St->Hp->VK->Prop
abbrev TT:=St->Hp->(Bool->Hp->Prop)->Prop
abbrev TA:=St->Hp->(List V->Hp->Prop)->Prop
structure qG where
 nx:St->Hp->Prop
 rt:VK
 bk:St->Hp->Prop:=λ_ _=>False
 ct:St->Hp->Prop:=λ_ _=>False
abbrev TS:=qG->St->Hp->Prop
def EP(X:Cx)(a:RO)(c:St)(Q:VK)(u:Value)(d:Shared):Prop:=∃v b,aM X a c b d/\aZ v u/\Q v b
def TP(X:Cx)(a:RO)(d:St)(Q:Bool->Hp->Prop)(b:Bool)(e:Shared):Prop:=∃c,aM X a d c e/\Q b c
def AP(X:Cx)(a:RO)(d:St)(Q:List V->Hp->Prop)(e:RQ)(f:Shared):Prop:=∃b c,aM X a d c f/\bd b e/\Q b c
def SP(X:Cx)(b:RO)(D:qG)(f:Flow)(d:Shared):Prop:=match f with|.next=>∃a c,aM X b a c d/\D.nx a c|.brk=>∃a c,aM X b a c d/\D.bk a c|.cont=>∃a c,aM X b a c d/\D.ct a c|.ret u=>∃v a c,aM X b a c d/\aZ v u/\D.rt v c
def PE(X:Cx)(e:Expr)(t:TE):Prop:=∀(a:RO)(s:Shared)(b:St)(H:Hp)(Q:VK),aM X a b H s->t b H Q->wpAny (model X.prog X.w) X.A (eval e X.env) (EP X a b Q) X.xe s
def PT(X:Cx)(e:Expr)(t:TT):Prop:=∀(a:RO)(s:Shared)(b:St)(H:Hp)(Q:Bool->Hp->Prop),aM X a b H s->t b H Q->wpAny (model X.prog X.w) X.A (isTrue e X.env (eval e X.env)) (TP X a b Q) X.xe s
def PW(X:Cx)(e:Expr)(t:TT):Prop:=∀(b:Sem Value)(a:RO)(s:Shared)(c:St)(H:Hp)(Q:Bool->Hp->Prop),aM X a c H s->t c H Q->wpAny (model X.prog X.w) X.A (isTrue e X.env b) (TP X a c Q) X.xe s
def PW.pt(h:PW X e t):PT X e t:=h _
def PA(X:Cx)(d:RT)(t:TA):Prop:=∀(b:Pos)(a:RO)(s:Shared)(c:St)(H:Hp)(Q:List V->Hp->Prop),aM X a c H s->t c H Q->wpAny (model X.prog X.w) X.A (spliced (backTo b (starEach d X.env))) (AP X a c Q) X.xe s
def PS(X:Cx)(st:Stmt)(t:TS):Prop:=∀(a:RO)(s:Shared)(b:St)(H:Hp)(D:qG),aM X a b H s->t D b H->wpAny (model X.prog X.w) X.A (exec st X.env) (SP X a D) X.xe s
def xC(X:Cx)(st:List Stmt)(t:TS):Prop:=∀(a:RO)(s:Shared)(b:St)(H:Hp)(D:qG),aM X a b H s->t D b H->wpAny (model X.prog X.w) X.A (execs st X.env) (SP X a D) X.xe s
def cw(h:wpAny M A t Q E s)(b:∀a s,Q a s->c a s):wpAny M A t c E s:=wpAny_mono h b λ_ _ x=>x
end L2
namespace L2
open PySem PySem.Spec PyProof.Rows
section
variable{X:Cx}
def LG(i:Nat):TE:=λa H Q=>∃v,a[i]?=some (some v)/\Q v H
def tC(v:V):TE:=λ_ H Q=>Q v H
def Mn(j:X.N[i]?=some x)(n:Pb X.env.scope x)(hd:(x==("__debug__":Str))=false:=by decide)(g:(x==("__classdict__":Str))=false:=by decide):PE X (.Name x f) (LG i):=by
 intro d s k H Q I h;obtain⟨v,e,h⟩:=h;obtain⟨m,hn,o⟩:=I.loc;obtain⟨u,r,l⟩:=o i x v j e n;have fin:EP X d k Q u s:=⟨v,H,I,r,h⟩;rcases l with⟨b,hm⟩|⟨b,c,hc,a⟩
 ·exact wpAny_Name (wpAny_loadName_local I.ok.kind b hn hm fin) hd
 ·rcases b with b|b
  ·exact wpAny_Name (wpAny_loadName_cell I.ok.kind b hc a fin) hd
  ·exact wpAny_Name (wpAny_loadName_free I.ok.kind b hc a fin g) hd
def af{i j f}:PE X (.Constant (.int i) j f) (tC (.int i)):=λ_ _ _ H _ I h=>wpAny_Constant_int ⟨.int i,H,I.tok _,⟨_,rfl⟩,h⟩
def iG{b j f}:PE X (.Constant (.bool b) j f) (tC (.bl b)):=λ_ _ _ H _ I h=>Constant_bool ⟨.bl b,H,I,rfl,h⟩
def oS{j f}:PE X (.Constant .none j f) (tC .non):=λ_ _ _ H _ I h=>Constant_none ⟨.non,H,I,rfl,h⟩
def aC{x j f}:PE X (.Constant (.str x) j f) (tC (.str x)):=λ_ _ _ H _ I h=>Calls.Constant_str ⟨.str x,H,I.tok _,⟨_,rfl⟩,h⟩
def Gl(X:Cx)(x:Str):Prop:=X.env.kindOf x=some .globalImplicit
def nD(I:aM X a b H s)(hg:Gl X x)(hm:X.mg x=some u)(h:Q u s)(hd:(x==("__debug__":Str))=false:=by decide):wpAny (model X.prog X.w) X.A (eval (.Name x f) X.env) Q E s:=Calls.Name_function_global I.ok.kind hg (Calls.loadGlobal_global (by rw[I.ok.glob];exact I.mod.glob.keeps I.bk) hm h) hd
def lV(I:aM X a c H s)(hg:Gl X x)(hm:X.mg x=none)(b:bootBuiltins x=some u)(h:Q u s)(hn:x≠"__name__":=by decide)(hd:(x==("__debug__":Str))=false:=by decide):wpAny (model X.prog X.w) X.A (eval (.Name x f) X.env) Q E s:=by obtain⟨d,h1,h2⟩:=I.mod.blt;exact Calls.Name_function_global I.ok.kind hg (Calls.loadGlobal_builtin (by rw[I.ok.glob];exact I.mod.glob.keeps I.bk) hm (by rw[I.ok.blt];exact h1.keeps I.bk) ((h2 x hn).trans b) h) hd
def Dz(hg:Gl X x)(hm:X.mg x=some u)(r:aZ v u)(hd:(x==("__debug__":Str))=false:=by decide):PE X (.Name x f) (tC v):=λ_ _ _ H _ I h=>nD I hg hm ⟨v,H,I,r,h⟩ hd
def J2{x:Str}{v:V}{u:Value}{f:Pos}(hg:Gl X x)(hm:X.mg x=none)(a:bootBuiltins x=some u)(r:aZ v u)(hn:x≠"__name__":=by decide)(hd:(x==("__debug__":Str))=false:=by decide):PE X (.Name x f) (tC v):=λ_ _ _ H _ I h=>lV I hg hm a ⟨v,H,I,r,h⟩ hn hd
variable{a b:Expr}{g p:TE}{f:Pos}
def PC(X:Cx)(h:CmpOp)(a b:Expr)(t:TE):Prop:=∀(c:RO)(s:Shared)(e:St)(H:Hp)(Q:VK),aM X c e H s->t e H Q->wpAny (model X.prog X.w) X.A (eval a X.env) (λv s₁=>wpAny (model X.prog X.w) X.A (eval b X.env) (λu d=>wpAny (model X.prog X.w) X.A (compareOp h v u) (EP X c e Q) X.xe d) X.xe s₁) X.xe s
def tB(t:TE):TT:=λd H Q=>t d H λx e=>∃c,x=.bl c/\Q c e
def lT(h:PC X i a b t)(h1:behindInMarks i b=false:=by first|exact nobehind _ (by decide) (by decide)|rfl):PT X (.Compare a [i] [b] f) (tB t):=by intro e s j H Q I k;refine wpAny_isTrue_Compare1 (cw (h e s j H _ I k) λv o h1=>cw h1 λu r h2=>cw h2 λc w⟨x,l,I1,m,n⟩=>?_) h1;obtain⟨d,rfl,q⟩:=n;cases m;exact rr ⟨l,I1,q⟩
variable{n o:TT}{mE:RT}
def Po(t u:TT):TT:=λd H Q=>t d H λc e=>if c=true then u d e Q else Q false e
def tOr(t u:TT):TT:=λd H Q=>t d H λc e=>if c=true then Q true e else u d e Q
def Pj(t:TT):TT:=λd H Q=>t d H λc e=>Q (!c) e
def j0(i:PT X a n):PW X (.BoolOp .And [a] f) n:=by intro k d s j H Q I h;refine isTrue_and (cw (i d s j H Q I h) λc l e=>?_);cases c with|true=>exact isTrue_and_nil e|false=>exact e
def dN(i:PT X a n):PW X (.BoolOp .Or [a] f) n:=by intro k d s j H Q I h;refine isTrue_or (cw (i d s j H Q I h) λc l e=>?_);cases c with|false=>exact isTrue_or_nil e|true=>exact e
def mG(l:PT X a n)(q:PW X (.BoolOp .And (b::mE) f) o):PW X (.BoolOp .And (a::b::mE) f) (Po n o):=by intro k d s e H Q I h;refine isTrue_and (cw (l d s e H _ I h) λc m⟨i,I1,j⟩=>?_);cases c with|true=>exact q k d m e i Q I1 j|false=>exact⟨i,I1,j⟩
def fm(l:PT X a n)(q:PW X (.BoolOp .Or (b::mE) f) o):PW X (.BoolOp .Or (a::b::mE) f) (tOr n o):=by intro k d s e H Q I h;refine isTrue_or (cw (l d s e H _ I h) λc m⟨i,I1,j⟩=>?_);cases c with|true=>exact⟨i,I1,j⟩|false=>exact q k d m e i Q I1 j
def b7(e:PT X a n):PT X (.UnaryOp .Not a f) (Pj n):=by intro d s i H Q I h;exact isTrue_not (e d s i H (λc j=>Q (!c) j) I h)
def N3(g p:TE):TE:=λd H Q=>g d H λx e=>∃c,x=.bl c/\if c=true then p d e Q else Q (.bl false) e
def Pi(g p:TE):TE:=λd H Q=>g d H λx e=>∃c,x=.bl c/\if c=true then Q (.bl true) e else p d e Q
def NU(g:TE):TE:=λd H Q=>g d H λx e=>∃c,x=.bl c/\Q (.bl (!c)) e
def dC{d}(h:PE X a t):PE X (.BoolOp d [a] f) t:=λc s e H Q I i=>BoolOp_one (h c s e H Q I i)
def cE(l:PE X a g)(q:PE X (.BoolOp .And (b::mE) f) p):PE X (.BoolOp .And (a::b::mE) f) (N3 g p):=by intro d s i H Q I h;refine BoolOp_and (cw (l d s i H _ I h) λv k⟨x,j,I1,m,e⟩=>?_);obtain⟨c,rfl,e⟩:=e;cases m;refine rr ?_;cases c with|true=>exact q d k i j Q I1 e|false=>exact⟨.bl false,j,I1,rfl,e⟩
def Oj(l:PE X a g)(q:PE X (.BoolOp .Or (b::mE) f) p):PE X (.BoolOp .Or (a::b::mE) f) (Pi g p):=by intro d s i H Q I h;refine BoolOp_or (cw (l d s i H _ I h) λv k⟨x,j,I1,m,e⟩=>?_);obtain⟨c,rfl,e⟩:=e;cases m;refine rr ?_;cases c with|false=>exact q d k i j Q I1 e|true=>exact⟨.bl true,j,I1,rfl,e⟩
def GO(i:PE X a g):PE X (.UnaryOp .Not a f) (NU g):=by intro d s j H Q I h;refine UnaryOp_ (cw (i d s j H _ I h) λv m⟨x,k,I1,l,e⟩=>?_);obtain⟨c,rfl,e⟩:=e;cases l;exact not_of (rr ⟨.bl (!c),k,I1,rfl,e⟩)
end
end L2
namespace L2
open PySem PySem.Spec PyProof.Rows
def aW(K:RM)(H:Hp)(a:Addr)(c:List V):Prop:=Rd H a (.lst c)\/∃(o:Obj)(b:RU)(n:Nat),K.lookup a=some o/\o.cls=.type "list"/\o.dict=none/\o.data=.seq b n/\b.size<=sizeLine/\bd c b.toList
def aU(K:RM)(H:Hp)(a:Addr)(c:List V):Prop:=Rd H a (.tup c)\/∃(o:Obj)(b:RU)(n:Nat),K.lookup a=some o/\o.cls=.type "tuple"/\o.data=.seq b n/\b.size<=sizeLine/\bd c b.toList
def PM:Value->Option V|.none=>some .non|.bool b=>some (.bl b)|.int i _=>some (.int i)|.str x _=>some (.str x)|.bytes b _=>some (.byt b)|.float b _=>some (.flt b)|.ref a=>some (.ref a)|.type n=>some (.ty n)|_=>none
def aZ.abs(r:aZ x u):PM u=some x:=by cases x with|non=>cases r;rfl|bl _=>cases r;rfl|int _=>obtain⟨t,rfl⟩:=r;rfl|str _=>obtain⟨t,rfl⟩:=r;rfl|byt _=>obtain⟨t,rfl⟩:=r;rfl|flt _=>obtain⟨t,rfl⟩:=r;rfl|ref _=>cases r;rfl|ty _=>cases r;rfl
def aZ.inj(r:aZ x u)(q:aZ y u):x=y:=k_ (r.abs.symm.trans q.abs)
theorem bd.inj:∀{a b:List V}{c:RQ},bd a c->bd b c->a=b|_,_,_,.nil,.nil=>rfl|_,_,_,.cons r t,.cons d e=>by rw[r.inj d,bd.inj t e]
section
variable{X:Cx}{b:RO}{f:St}{H:Hp}{s:Shared}{a:Addr}{xs c:List V}
def aW.of{K:RM}(h:H a=some (.lst xs)):aW K H a xs:=.inl (.inl h)
def aU.of{K:RM}(h:H a=some (.tup xs)):aU K H a xs:=.inl (.inl h)
def aM.list(I:aM X b f H s)(h:aW X.K H a xs):∃d:List Value,bd xs d/\PlainL s.heap a d.toArray/\xs.length<=sizeLine:=by
 rcases h with h|⟨o,d,n,g,hc,hd,i,j,r⟩
 ·obtain⟨z,d,n,r,e⟩:=h.ok I.hok;exact⟨d,r,⟨_,n,e,rfl,rfl,rfl⟩,z⟩
 ·refine⟨d.toList,r,⟨o,n,I.kIn a o g,hc,hd,by simpa using i⟩,?_⟩;have e:=r.length;simp only[nk]at e;lia
def aM.tuple(I:aM X b f H s)(h:aU X.K H a xs):∃d:List Value,bd xs d/\IsTup s.heap a d.toArray/\xs.length<=sizeLine:=by
 rcases h with h|⟨o,d,n,g,hc,i,j,r⟩
 ·obtain⟨z,d,r,p⟩:=h.ok I.hok;exact⟨d,r,p,z⟩
 ·refine⟨d.toList,r,⟨o,I.kIn a o g,hc,n,by simpa using i⟩,?_⟩;have e:=r.length;simp only[nk]at e;lia
def aM.list_inj(I:aM X b f H s)(h:aW X.K H a xs)(h':aW X.K H a c):xs=c:=by
 obtain⟨i,r,⟨o,n,e,_,_,d⟩,_⟩:=I.list h;obtain⟨g,l,⟨p,q,j,_,_,k⟩,_⟩:=I.list h';rw[e]at j;cases j;rw[d]at k;injection k with m _;have:i=g:=by simpa using rb Array.toList m
 subst this;exact r.inj l
def aM.tuple_inj(I:aM X b f H s)(h:aU X.K H a xs)(h':aU X.K H a c):xs=c:=by
 obtain⟨i,r,⟨o,e,_,n,d⟩,_⟩:=I.tuple h;obtain⟨g,l,⟨p,j,_,q,k⟩,_⟩:=I.tuple h';rw[e]at j;cases j;rw[d]at k;injection k with m _;have:i=g:=by simpa using rb Array.toList m
 subst this;exact r.inj l
end
abbrev Cx.wish(X:Cx)(E:RN):Cx:={X with xe:=E}
abbrev Cx.nox(X:Cx):Cx:=X.wish λ_ _=>False
theorem Cx.Ok.wish{X:Cx}(ok:X.Ok)(E:RN):(X.wish E).Ok:=⟨ok.mod,ok.kind,ok.glob,ok.blt,ok.above,ok.inj,ok.has,ok.cab,ok.hd,ok.frames,ok.stk,ok.exf,ok.bs,ok.bsz,ok.noex,ok.exfs,ok.funs,ok.frf⟩
def Cx.Ok.unwish{X:Cx}{E:RN}(ok:(X.wish E).Ok):X.Ok:=⟨ok.mod,ok.kind,ok.glob,ok.blt,ok.above,ok.inj,ok.has,ok.cab,ok.hd,ok.frames,ok.stk,ok.exf,ok.bs,ok.bsz,ok.noex,ok.exfs,ok.funs,ok.frf⟩
section
variable{X:Cx}{a:RO}{b:St}{H:Hp}{s:Shared}{E:RN}
theorem aM.wish(I:aM X a b H s)(E:RN):aM (X.wish E) a b H s:=⟨I.ok.wish E,I.os,I.bare,I.base,I.loc,I.cell,I.free,I.freeC,I.pin,I.hok,I.len⟩
theorem aM.unwish(I:aM (X.wish E) a b H s):aM X a b H s:=⟨I.ok.unwish,I.os,I.bare,I.base,I.loc,I.cell,I.free,I.freeC,I.pin,I.hok,I.len⟩
theorem SP.unwish(h:SP (X.wish E) a D f e):SP X a D f e:=by cases f with|next=>obtain⟨c,d,I,q⟩:=h;exact⟨c,d,I.unwish,q⟩|brk=>obtain⟨c,d,I,q⟩:=h;exact⟨c,d,I.unwish,q⟩|cont=>obtain⟨c,d,I,q⟩:=h;exact⟨c,d,I.unwish,q⟩|ret u=>obtain⟨v,c,d,I,r,q⟩:=h;exact⟨v,c,d,I.unwish,r,q⟩
theorem xC.nox{st:List Stmt}{t:TS}(h:xC X.nox st t):xC X st t:=λa s b H D I c=>wpAny_mono (h a s b H D (I.wish _) c) (λ_ _ q=>q.unwish) λ_ _ z=>False.elim z
end
section
variable{X:Cx}{st:Stmt}{mE:List Stmt}{t u:TS}{e:Expr}{te:TE}{g:Pos}
def Ai:TS:=λD a H=>D.nx a H
def Ah(t u:TS):TS:=λD a H=>t {D with nx:=u D} a H
def aB:xC X [] Ai:=λ_ _ a H _ I h=>Qn ⟨a,H,I,h⟩
def ah(h1:PS X st t)(h2:xC X mE u):xC X (st::mE) (Ah t u):=by intro a s c H D I h;refine Ry (cw (h1 a s c H {D with nx:=u D} I h) λf d q=>?_);cases f with|next=>obtain⟨b,i,j,q⟩:=q;exact h2 a d b i D j q|ret v=>exact q|brk=>exact q|cont=>exact q
def ai(h1:PS X st t):xC X [st] t:=by intro a s b H D I h;refine Ry (cw (h1 a s b H D I h) λf c q=>?_);cases f with|next=>exact Qn q|ret v=>exact q|brk=>exact q|cont=>exact q
def aM.quiet(I:aM X a b H s):interactive X.env=false:=by simp[interactive,I.ok.kind]
def NZ(te:TE):TS:=λD a H=>te a H λ_ b=>D.nx a b
def aR(c:PE X e te)(d:swapsWith e none g.line X.env=pure false:=by rfl):PS X (.Expr e g) (NZ te):=by intro a s b H D I h;exact wpAny_Expr_any (cw (c a s b H _ I h) λv j⟨x,f,I1,k,i⟩=>⟨b,f,I1,i⟩) I.quiet d
def NS(te:TE):TS:=λD a H=>te a H D.rt
def az(c:PE X e te):PS X (.Return (some e) g) (NS te):=by intro a s b H D I h;exact wpAny_Return_some (cw (c a s b H _ I h) λv j⟨x,d,I1,f,i⟩=>⟨x,b,d,I1,f,i⟩)
def Jh(c:TT)(t u:TS):TS:=λD a H=>c a H λb d=>if b=true then t D a d else u D a d
def aK(hc:PT X c tc)(n:xC X a t)(o:xC X b u):PS X (.If c a b g) (Jh tc t u):=by intro f s i H D I h;refine wpAny_If (cw (hc f s i H _ I h) λd j⟨k,I1,l⟩=>?_);cases d with|true=>exact n f j i k D I1 l|false=>exact o f j i k D I1 l
def LI:TS:=λ_ _ _=>False
def cn:PS X st LI:=λ_ _ _ _ _ _ h=>h.elim
end
abbrev TG:=V->St->Hp->(St->Hp->Prop)->Prop
abbrev NA:=List V->St->Hp->(St->Hp->Prop)->Prop
def PG(X:Cx)(a:Expr)(t:TG):Prop:=∀(b:RO)(s:Shared)(d:St)(H:Hp)(v:V)(u:Value)(Q:St->Hp->Prop),aM X b d H s->aZ v u->t v d H Q->wpAny (model X.prog X.w) X.A (assign a X.env u) (λ_ f=>∃c e,aM X b c e f/\Q c e) X.xe s
def Nf(X:Cx)(g:RT)(t:NA):Prop:=∀(a:RO)(s:Shared)(c:St)(H:Hp)(d:List V)(e:RQ)(Q:St->Hp->Prop),aM X a c H s->bd d e->t d c H Q->wpAny (model X.prog X.w) X.A (assignInOrder ((assignEach g X.env).map (·.2)) e) (λ_ h=>∃b f,aM X a b f h/\Q b f) X.xe s
abbrev K0:=V->V->V->Hp->(Hp->Prop)->Prop
def K2(X:Cx)(t:K0):Prop:=∀(a:RO)(s:Shared)(b:St)(H:Hp)(o i v:V)(c iv u:Value)(Q:Hp->Prop),aM X a b H s->aZ o c->aZ i iv->aZ v u->t o i v H Q->wpAny (model X.prog X.w) X.A (setItem c iv u) (λ_ e=>∃d,aM X a b d e/\Q d) X.xe s
section
variable{X:Cx}{c:Pos}
def k7(i:Nat):TG:=λv a H Q=>Q (a.set i (some v)) H
def Dy(b:X.N.Nodup)(hi:X.N[i]?=some x)(d:Ni X.env.scope x)(e:X.fn x=true\/X.env.scope.names.lookup x=some .local:=by first|exact .inl rfl|exact .inr rfl|assumption):PG X (.Name x c) (k7 i):=by intro a s g H v u Q I r h;exact wpAny_assign_Name (uF I b hi d r (λj f=>⟨_,H,f,h⟩) e)
def OL:NA:=λa b H Q=>a=[]/\Q b H
def HS(t:TG)(u:NA):NA:=λb d H Q=>∃v r,b=v::r/\t v d H λa e=>u r a e Q
def ga:Nf X [] OL:=by intro a s b H d f Q I r h;obtain⟨e,h⟩:=h;subst e;cases r;exact assignInOrder_nil ⟨b,H,I,h⟩
def bF(h1:PG X e t)(h2:Nf X b u)(f:(assignEach (e::b) X.env).map (·.2)=assign e X.env::(assignEach b X.env).map (·.2):=by rfl):Nf X (e::b) (HS t u):=by intro a s g H n o Q I r h;obtain⟨v,p,i,h⟩:=h;subst i;cases r with|cons r j=>rw[f];refine assignInOrder_cons (cw (h1 a s g H _ _ _ I r h) λ_ k⟨d,l,I1,m⟩=>?_);exact h2 a k d l _ _ Q I1 j m
def MQ(K:RM)(n:Nat)(t:NA):TG:=λv d H Q=>∃a b,v=.ref a/\aU K H a b/\b.length=n/\t b d H Q
def Mm(hc:X.calm=true)(h:Nf X f t)(hn:(assignEach f X.env).length=n:=by rfl)(g:(assignEach f X.env).findIdx? (·.1)=none:=by rfl):PG X (.Tuple f k c) (MQ X.K n t):=by intro d s j H v u Q I r i;obtain⟨a,m,p,q,w,i⟩:=i;subst p;cases r;obtain⟨x,l,y,A⟩:=I.tuple q;refine assign_Tuple_tuple (I.ok.hd hc) y (by simp[hn,<-w,l.length]) g λh' z=>?_;have I1:aM X d j H {s with heap:=h'}:=I.kept (t':=s.toks) λb o e=>z b o (lm (ji e)) e;exact h d _ j H m _ Q I1 (by simpa using l) i
def PH(b d:TE)(t:K0):TG:=λv a H Q=>b a H λo e=>d a e λi f=>t o i v f λg=>Q a g
def kx(e:PE X o f)(hi:PE X i g)(j:K2 X t)(l:∀v,assign (.Subscript o i c) X.env v=(do
   let b<-holding [v] (eval o X.env)let iv<-holding [v,b] (eval i X.env)standAt c
   holding [v,b,iv] (setItem b iv v)release [v,b,iv] []):=by intro _;rfl):PG X (.Subscript o i c) (PH f g t):=by intro a s d H v u Q I r h;rw[l];refine a_ (pu (cw (e a s d H _ I h) λb k⟨x,m,I1,n,p⟩=>?_));refine a_ (pu (cw (hi a k d m _ I1 p) λiv q⟨y,w,z,r2,A⟩=>?_));refine a_ (wpAny_standAt (a_ (pu (cw (j a q d w x y v b iv u _ z n r2 r A) λ_ E⟨B,C,D⟩=>?_))));exact wpAny_release ⟨d,B,C,D⟩
def Aj(te:TE)(g:TG):TS:=λD a H=>te a H λx b=>g x a b D.nx
def jt(f:PE X e te)(hg:PG X b g)(i:swapsWithSole [b] e c.line X.env=pure false:=by rfl)(j:swappedStores [b] e X.env=pure none:=by rfl)(h1:(assignEach [b] X.env).map (·.2)=[assign b X.env]:=by rfl):PS X (.Assign [b] e c) (Aj te g):=by intro a s d H D I h;refine wpAny_Assign_stores (cw (f a s d H _ I h) λv k⟨x,l,I1,m,n⟩=>?_) i j;rw[h1];exact cw (hg a k d l x v _ I1 m n) λ_ o q=>q
def qV(d:X.N.Nodup)(hi:X.N[i]?=some x)(f:Ni X.env.scope x)(g:PE X e te)(j:swapsWith e (some (.Name x a)) c.line X.env=pure false:=by rfl)(l:X.fn x=true\/X.env.scope.names.lookup x=some .local:=by first|exact .inl rfl|exact .inr rfl|assumption):PS X (.Assign [.Name x a] e c) (Aj te (k7 i)):=by intro b s k H D I h;refine wpAny_Assign_Name (cw (g b s k H _ I h) λv q⟨y,m,I1,n,o⟩=>?_) j;exact uF I1 d hi f n (λr p=>⟨_,m,p,o⟩) l
end
section
variable{X:Cx}{a:Pos}
end
structure It where
 go:Nat->Hp->Prop
 yld:Nat->Hp->V->Hp->Prop
 stop:Nat->Hp->Prop
def we(X:Cx)(a:RO)(H:Hp)(b:Addr):Prop:=H b=none/\b≠X.env.locals/\b∉X.fs/\(b∈X.ex\/X.s₀.heap.objs.size<=b)/\(∀x c,X.env.cells.lookup x=some c->c≠b)/\∀p∈X.pn++a,p.1≠b
def aM.fpOk(I:aM X a h H s)(d:s.heap.objs.size<=b)(hn:f b=none):we X a f b:=by
 refine⟨hn,oe (ot I.lt d),I.nofs d,.inr (nh I.sz d),λx c e z=>?_,λp g z=>?_⟩
 ·obtain⟨v,q⟩:=I.cell x c e;exact absurd (ot q.lt (by rw[z];exact d)) (q4 _)
 ·exact absurd (ot (ji (I.pin p g).1) (by rw[z];exact d)) (q4 _)
structure vY(P:RR)(w:World)(K:RM)(tg:Expr)(J:It)(fp:RW)(it:Addr)(tn:Nat->Heap->Prop):Prop where
 mem:it∈fp
 obj:∀i h,tn i h->∀b∈fp,∃o,h.get? b=some o/\∀v,o.data≠.cell v
 keep:∀i h h',tn i h->(∀b∈fp,∀o,h.get? b=some o->h'.get? b=some o)->tn i h'
 item:∀(X:Cx),X.prog=P->X.w=w->X.K=K->X.calm=true->∀(i:Nat)(pins:RO)(s:Shared)(σ:St)(H:Hp)(E:RN),aM X pins σ H s->(∀b∈fp,we X pins H b)->tn i s.heap->J.go i H->wpAny (model P w) X.A (pyNext (.ref it)) (λr s1=>∃u,r=some u/\wpAny (model P w) X.A (letOwnedTupleGo tg (.ref it) u) (λ_ s2=>∃x H',aM X pins σ H' s2/\aZ x u/\J.yld i H x H'/\tn (i+1) s2.heap/\∀b∈fp,H' b=none) E s1) E s
 done:∀(X:Cx),X.prog=P->X.w=w->X.K=K->X.calm=true->∀(i:Nat)(pins:RO)(s:Shared)(σ:St)(H:Hp)(E:RN),aM X pins σ H s->(∀b∈fp,we X pins H b)->tn i s.heap->J.stop i H->wpAny (model P w) X.A (pyNext (.ref it)) (λr s1=>r=none/\aM X pins σ H s1) E s
 self:∀(A:Around)(i:Nat)(s:Shared)(Q:RN)(E:RN),tn i s.heap->Q (.ref it) s->wpAny (model P w) A (pyIter (.ref it)) Q E s
abbrev TI:=St->Hp->(It->Hp->Prop)->Prop
def PQ(X:Cx)(a:RO)(g:St)(h:Expr)(R:It->Hp->Prop)(c:Value)(e:Shared):Prop:=∃(f:Addr)(fp:RW)(tn:Nat->Heap->Prop)(J:It)(d:Hp),c=.ref f/\aM X a g d e/\vY X.prog X.w X.K h J fp f tn/\tn 0 e.heap/\(∀b∈fp,we X a d b)/\R J d
def PI(X:Cx)(d b:Expr)(e:TI):Prop:=∀(a:RO)(s:Shared)(c:St)(H:Hp)(R:It->Hp->Prop),aM X a c H s->e c H R->wpAny (model X.prog X.w) X.A (eval b X.env) (λv f=>wpAny (model X.prog X.w) X.A (pyIter v) (PQ X a c d R) X.xe f) X.xe s
def yd(b:s.heap.get? c=some o)(hc:o.cls=.type n)(hd:o.data=.fields d)(hn:["enumerate","zip","dict_itemiterator","dict_reverseitemiterator","odict_iterator","itertools.zip_longest","itertools.pairwise"].contains n=false)(a:Q () s):wpAny M A (letOwnedTupleGo e (.ref c) u) Q E s:=by unfold letOwnedTupleGo;cases e<;>first|exact e_ a|(cases u<;>first
 |exact e_ a
    |(refine a_ (wpAny_load b ?_)
      rw[hc,hd];show wpAny M A (if(["enumerate","zip","dict_itemiterator","dict_reverseitemiterator","odict_iterator","itertools.zip_longest","itertools.pairwise"].contains n&&d[0]?==some (rawInt _))=true then _ else _) Q E s;rw[j2 (by intro h;rw[hn,Bool.false_and]at h;cases h)];exact e_ a))
def Lu(K:RM)(a:Addr):It:=⟨λi H=>∃b x,aW K H a b/\b[i]?=some x,λi H x c=>c=H/\∀b,aW K H a b->b[i]?=some x,λi H=>∃b,aW K H a b/\b.length<=i⟩
def Ls(K:RM)(a:Addr):It:=⟨λi H=>∃b x,aU K H a b/\b[i]?=some x,λi H x c=>c=H/\∀b,aU K H a b->b[i]?=some x,λi H=>∃b,aU K H a b/\b.length<=i⟩
def IY(lo:Int)(n:Nat):It:=⟨λi _=>i<n,λi H x a=>a=H/\x=.int (lo+i),λi _=>n<=i⟩
def Ee{P:RR}{w:World}{K:RM}{G:Expr}(a g:Addr):vY P w K G (Lu K a) [g] g (λi h=>h.IsListIter g a i)where
 mem:=by simp
 obj:=λi h st b j=>by
  have e:b=g:=by simpa using j
  subst e;obtain⟨o,e,c,d⟩:=st;exact⟨o,e,λv z=>by rw[d]at z;cases z⟩
 keep:=λi h h' st k=>st.at λo e=>k g (by simp) o e
 item:=by intro X q r t hc i f s F H E I m st hg;subst q r t;obtain⟨J,x,n,y⟩:=hg;obtain⟨A,B,p,L⟩:=I.list n;obtain⟨u,M,ru⟩:=B.get y;obtain⟨C,f1,f2,f3,f4,D⟩:=m g (by simp);refine wpAny_pyNext_list_item st p.isList (x:=u) (by simpa using M) λh' l N=>?_;have I1:aM X f F H {s with heap:=h'}:=I.turned (t':=s.toks) (λb o j e=>(N.2 b j).trans e) C f1 f3 f4 D;obtain⟨o,e,c,d⟩:=id l;exact⟨u,rfl,yd (s:={s with heap:=h'}) e c d (by decide) ⟨x,H,I1,ru,⟨rfl,λS Q=>by rw[I.list_inj Q n];exact y⟩,l,λb j=>(m b j).1⟩⟩
 done:=by intro X q r t hc i f s F H E I m st hg;subst q r t;obtain⟨J,n,y⟩:=hg;obtain⟨A,B,p,L⟩:=I.list n;obtain⟨C,f1,f2,f3,f4,D⟩:=m g (by simp);have T:=B.length;exact wpAny_pyNext_list_end (I.ok.hd hc) st p.isList (by simp;lia) λh' R=>⟨rfl,I.turned (t':=s.toks) (λb o j e=>R b o j e) C f1 f3 f4 D⟩
 self:=λ_ _ _ _ _ st h=>wpAny_pyIter_listiter st h
def B5{P:RR}{w:World}{K:RM}{G:Expr}(a g:Addr):vY P w K G (Ls K a) [g] g (λi h=>h.IsTupleIter g a i)where
 mem:=by simp
 obj:=λi h st b j=>by
  have e:b=g:=by simpa using j
  subst e;obtain⟨o,e,c,d⟩:=st;exact⟨o,e,λv z=>by rw[d]at z;cases z⟩
 keep:=λi h h' st k=>st.at λo e=>k g (by simp) o e
 item:=by intro X r t y hc i f s F H E I n st hg;subst r t y;obtain⟨J,x,q,A⟩:=hg;obtain⟨l,B,p,L⟩:=I.tuple q;obtain⟨u,M,ru⟩:=B.get A;obtain⟨C,f1,f2,f3,f4,D⟩:=n g (by simp);refine wpAny_pyNext_tuple_item st (show s.heap.IsTuple a l.toArray from p) (x:=u) (by simpa using M) λh' m N=>?_;have I1:aM X f F H {s with heap:=h'}:=I.turned (t':=s.toks) (λb o j e=>(N.2 b j).trans e) C f1 f3 f4 D;obtain⟨o,e,c,d⟩:=id m;exact⟨u,rfl,yd (s:={s with heap:=h'}) e c d (by decide) ⟨x,H,I1,ru,⟨rfl,λS Q=>by rw[I.tuple_inj Q q];exact A⟩,m,λb j=>(n b j).1⟩⟩
 done:=by intro X r t y hc i f s F H E I n st hg;subst r t y;obtain⟨J,q,A⟩:=hg;obtain⟨l,B,p,L⟩:=I.tuple q;obtain⟨C,f1,f2,f3,f4,D⟩:=n g (by simp);have T:=B.length;exact wpAny_pyNext_tuple_end (I.ok.hd hc) st (show s.heap.IsTuple a l.toArray from p) (by simp;lia) λh' R=>⟨rfl,I.turned (t':=s.toks) (λb o j e=>R b o j e) C f1 f3 f4 D⟩
 self:=λ_ _ _ _ _ st h=>wpAny_pyIter_tupleiter st h
def B6{P:RR}{w:World}{K:RM}{u:Expr}(a:Addr)(lo:Int)(n:Nat):vY P w K u (IY lo n) [a] a (λi h=>IsRangeIter h a (lo+(i:Nat)*1) ((n:Int)-(i:Nat)) 1)where
 mem:=by simp
 obj:=λi h st b d=>by
  have e:b=a:=by simpa using d
  subst e;exact⟨_,st,λv z=>by have x:Data.fields _=Data.cell v:=z;cases x⟩
 keep:=λi h h' st k=>k a (by simp) _ st
 item:=by intro X j l m hc i c s r H E I g st hg;subst j l m;obtain⟨p,f1,f2,f3,f4,q⟩:=g a (by simp);have W:=Walks.range (prog:=X.prog) (w:=X.w) (I.ok.hd hc) a lo 1 n;refine W.item i s _ _ hg st λv h' tk y f A=>?_;obtain⟨t,rfl⟩:=y;have I1:aM X c r H {s with heap:=h',toks:=tk}:=I.turned (λb o d e=>A b o (by simpa using d) e) p f1 f3 f4 q;refine⟨_,rfl,yd (s:={s with heap:=h',toks:=tk}) (n:="range_iterator") f rfl rfl (by decide) ⟨.int (lo+i),H,I1,⟨t,?_⟩,⟨rfl,rfl⟩,f,λb d=>(g b d).1⟩⟩;rw[Int.mul_one]
 done:=by intro X j l m hc i c s r H E I g st hg;subst j l m;obtain⟨p,f1,f2,f3,f4,q⟩:=g a (by simp);exact wpAny_pyNext_range_end (I.ok.hd hc) st (by have:n<=i:=hg;lia) λh' B=>⟨rfl,I.turned (t':=s.toks) (λb o d e=>B b o d e) p f1 f3 f4 q⟩
 self:=λ_ _ _ _ _ st h=>wpAny_pyIter_rangeiter st h
end L2
namespace L2
open PySem PySem.Spec PyProof.Rows
section
variable{X:Cx}{c:Expr}
def Lf(K:RM)(d:TE):TI:=λe H R=>d e H λx b=>∃a,x=.ref a/\(∃f,aW K b a f)/\R (Lu K a) b
def OF(K:RM)(d:TE):TI:=λe H R=>d e H λx b=>∃a,x=.ref a/\(∃f,aU K b a f)/\R (Ls K a) b
def JX{l:Expr}{g:TE}(i:PE X l g):PI X c l (Lf X.K g):=by
 intro d s j H R I h;refine cw (i d s j H _ I h) λv f⟨x,k,I1,m,n⟩=>?_;obtain⟨a,e,⟨w,r⟩,q⟩:=n;subst e;cases m;obtain⟨t,y,p,z⟩:=I1.list r;refine E_ p.isList ?_;refine⟨f.heap.objs.size,[f.heap.objs.size],_,_,k,rfl,I1.kept (t':=f.toks) λb o e=>b_ _ e,Ee a _,⟨_,h_ _ rfl,rfl,rfl⟩,λb u=>?_,q⟩;have e:b=f.heap.objs.size:=by simpa using u
 subst e;exact I1.fpOk (g_ _) (I1.hok.fresh (g_ _))
def Ml{l:Expr}{i:TE}(j:PE X l i):PI X c l (OF X.K i):=by
 intro d s k H R I h;refine cw (j d s k H _ I h) λv f⟨x,m,I1,n,r⟩=>?_;obtain⟨a,e,⟨w,t⟩,q⟩:=r;subst e;cases n;obtain⟨g,y,p,z⟩:=I1.tuple t;refine y2 (show f.heap.IsTuple a g.toArray from p) ?_;refine⟨f.heap.objs.size,[f.heap.objs.size],_,_,m,rfl,I1.kept (t':=f.toks) λb o e=>b_ _ e,B5 a _,⟨_,h_ _ rfl,rfl,rfl⟩,λb u=>?_,q⟩;have e:b=f.heap.objs.size:=by simpa using u
 subst e;exact I1.fpOk (g_ _) (I1.hok.fresh (g_ _))
def AB{a:RO}{d:St}{H:Hp}{s:Shared}{R:It->Hp->Prop}{E:RN}{lo hi:Int}{t u v:Tok}{tk:Nat}(I:aM X a d H s)(h1:-(2^62)<=lo)(h2:lo<2^62)(h3:-(2^62)<=hi)(h4:hi<2^62)(q:R (IY lo (hi-lo).toNat) H):wpAny (model X.prog X.w) X.A (pyIter (.ref s.heap.objs.size)) (PQ X a d c R) E {s with heap:=s.heap.push {cls:=.type "range",data:=.fields #[.int lo t,.int hi u,.int 1 v]},toks:=tk}:=by
 refine wpAny_pyIter_range (IsRange.new ..) (small_one h1 h2 h3 h4) ?_;have I1:aM X a d H {s with heap:=s.heap.push {cls:=.type "range",data:=.fields #[.int lo t,.int hi u,.int 1 v]},toks:=tk}:=I.kept λb o e=>b_ _ e;refine⟨(s.heap.push {cls:=.type "range",data:=.fields #[.int lo t,.int hi u,.int 1 v]}).objs.size,[(s.heap.push {cls:=.type "range",data:=.fields #[.int lo t,.int hi u,.int 1 v]}).objs.size],_,_,H,rfl,I1.kept (t':=tk) λb o e=>b_ _ e,B6 _ lo (hi-lo).toNat,?_,λb f=>?_,q⟩
 ·have g:lo+((0:Nat):Int)*1=lo:=by simp
  have h:(((hi-lo).toNat:Nat):Int)-((0:Nat):Int)=Builtin.Range.rangeSize lo hi 1:=by rw[rangeSize_one];split<;>lia
  show IsRangeIter _ _ (lo+((0:Nat):Int)*1) ((((hi-lo).toNat:Nat):Int)-((0:Nat):Int)) 1;rw[g,h];exact h_ _ rfl
 ·have e:b=(s.heap.push {cls:=.type "range",data:=.fields #[.int lo t,.int hi u,.int 1 v]}).objs.size:=by simpa using f
  subst e;exact I1.fpOk (g_ _) (I1.hok.fresh (g_ _))
def OH(a:TA):TI:=λb H R=>a b H λd e=>∃j:Int,d=[.int j]/\-(2^62)<=j/\j<2^62/\R (IY 0 j.toNat) e
def OG(a:TA):TI:=λb H R=>a b H λd e=>∃i j:Int,d=[.int i,.int j]/\(-(2^62)<=i/\i<2^62/\-(2^62)<=j/\j<2^62)/\R (IY i (j-i).toNat) e
def cP{a:Expr}{g:TA}{p b:Pos}(hg:Gl X "range")(hm:X.mg "range"=none)(i:PA X [a] g)(l:starEach [a] X.env=[(false,eval a X.env)]:=by rfl):PI X c (.Call (.Name "range" p) [a] [] b) (OH g):=by intro d s k H R I h;refine Call_ (lV I hg hm boot_range (wr (cw (i b d s k H _ I h) λu v⟨w,x,I1,m,f⟩=>?_) l rfl));obtain⟨j,e,f,n,q⟩:=f;subst e;cases m with|cons r o=>cases o;obtain⟨t,rfl⟩:=r;exact call_range_1 (AB I1 (by lia) (by lia) f n (by simpa using q))
def xR(hg:Gl X "range")(hm:X.mg "range"=none)(n:PA X [a,b] o)(u:starEach [a,b] X.env=[(false,eval a X.env),(false,eval b X.env)]:=by rfl)(d:starEach [b] X.env=[(false,eval b X.env)]:=by rfl):PI X c (.Call (.Name "range" p) [a,b] [] g) (OG o):=by intro f s m H R I h;refine Call_ (lV I hg hm boot_range (wr (cw (n g f s m H _ I h) λA B⟨C,D,I1,v,k⟩=>?_) (by rw[u,d]) (by rw[d];rfl)));obtain⟨i,j,e,⟨k,w,x,y⟩,q⟩:=k;subst e;cases v with|cons r l=>cases l with|cons z l=>cases l;obtain⟨t,rfl⟩:=r;obtain⟨E,rfl⟩:=z;exact call_range_2 (AB I1 k w x y q)
def Pm(h:TI)(g:TG)(j:TS):TS:=λD a H=>h a H λJ k=>∃W:Nat->Nat->St->Hp->Prop,(∃m,W 0 m a k)/\∀i m a H,W i m a H->(J.stop i H/\D.nx a H)\/(J.go i H/\∃N:St->Hp->Prop,(∀b d,N b d->∃f,f<m/\W (i+1) f b d)/\∀x d,J.yld i H x d->g x a d λe l=>j {D with nx:=N,ct:=N,bk:=D.nx} e l)
def u3(fp:RW)(h:Heap):List (Addr×Obj):=fp.filterMap λb=>(h.get? b).map λo=>(b,o)
def lU(a:b∈fp)(e:h.get? b=some o):(b,o)∈u3 fp h:=D_.mpr ⟨b,a,by rw[e];rfl⟩
def EI(a:p∈u3 fp h):p.1∈fp/\h.get? p.1=some p.2:=by obtain⟨b,d,e⟩:=D_.mp a;cases q:h.get? b with|none=>rw[q]at e;cases e|some o=>rw[q]at e;have f:(b,o)=p:=k_ e;subst f;exact⟨d,q⟩
def aM.pinned(I:aM X a h H s)(i:∀b∈fp,we X a H b)(j:∀b∈fp,∃o,s.heap.get? b=some o/\∀v,o.data≠.cell v):aM X (a++u3 fp s.heap) h H s:=I.pins_of λp k=>(RJ.mp k).elim (λz=>I.pin p (o0 _ z)) λz=>by obtain⟨f,e⟩:=EI z;obtain⟨l,f1,f2,_⟩:=i p.1 f;obtain⟨o,g,d⟩:=j p.1 f;rw[e]at g;cases g;exact⟨e,l,f1,f2,d⟩
def aM.unpinned(I:aM X (a++pl) b H s):aM X a b H s:=I.pins_of λp d=>I.pin p (o0 _ (t2 _ d))
def eI(F:PassesOwn (model X.prog X.w) X.A X.env X.xe)(hc:X.calm=true)(hi:PI X c B wi)(hg:PG X c g)(l:xC X G tb)(hs:∀x,foldedSetIterable B X.env x=pure x:=by intro _;rfl):PS X (.For c B G [] aa) (Pm wi g tb):=by
 intro a s Z H D I h;refine wpAny_For (cw (hi a s Z H _ I h) λv s1 h1=>cw h1 λac s2 h2=>?_) hs;obtain⟨it,fp,tn,J,H2,e,I2,T,Q,f2,W,⟨m0,w0⟩,K⟩:=h2;subst e;have k:∀{z:Hp},(∀b∈fp,z b=none)->∀b∈fp,we X a z b:=λhn b l=>⟨hn b l,(f2 b l).2⟩;refine codeAny_forLoop_any (λn s'=>∃i p z,aM X a p z s'/\tn i s'.heap/\(∀b∈fp,z b=none)/\W i n p z) ?_ m0 ⟨0,Z,H2,I2,Q,λb l=>(f2 b l).1,w0⟩;rintro n s3⟨i,q,P,I3,L,M,w3⟩;rcases K i n q P w3 with⟨stop,qn⟩|⟨go,N,hN,step⟩
 ·refine Qm F (cw (T.done X rfl rfl rfl hc i a s3 q P X.xe I3 (k M) L stop) λr s4⟨R,I4⟩=>?_);subst R;exact Qn ⟨q,P,I4,qn⟩
 ·refine Qm F (cw (T.item X rfl rfl rfl hc i a s3 q P X.xe I3 (k M) L go) λr s4⟨u,R,h4⟩=>?_);subst R;refine Qm F (cw h4 λ_ s5⟨x,H5,I5,r5,y5,E,S⟩=>?_);have U:=I5.pinned (k S) (T.obj _ _ E);refine Qm F (cw (hg _ s5 q H5 x u _ U r5 (step x H5 y5)) λ_ s6⟨V,H6,I6,q6⟩=>?_);refine Qm F (cw (l _ s6 V H6 _ I6 q6) λf Y C=>?_);have again:∀{j:St}{t:Hp},aM X (a++u3 fp s5.heap) j t Y->N j t->∃m,m<n/\∃i p z,aM X a p z Y/\tn i Y.heap/\(∀b∈fp,z b=none)/\W i m p z:=λ{j t}y O=>by obtain⟨m',hm,w7⟩:=hN j t O;refine⟨m',hm,i+1,j,t,y.unpinned,T.keep _ _ _ E λb l o e=>(y.pin (b,o) (o0 _ (o0 _ (lU l e)))).1,λb l=>?_,w7⟩;obtain⟨o,e,d⟩:=T.obj _ _ E b l;exact(y.pin (b,o) (o0 _ (o0 _ (lU l e)))).2.1
  cases f with|next=>obtain⟨j,t,y,O⟩:=C;exact again y O|cont=>obtain⟨j,t,y,O⟩:=C;exact again y O|brk=>obtain⟨j,t,y,C⟩:=C;exact⟨j,t,y.unpinned,C⟩|ret v=>obtain⟨x7,j,t,y,r7,C⟩:=C;exact⟨x7,j,t,y.unpinned,r7,C⟩
end
def k8{K:RM}{a:Addr}{xs:List V}{g:TG}{l:TS}{D:qG}{b:St}{H:Hp}(Pv:Nat->St->Hp->Prop)(h0:Pv 0 b H)(o:∀i b H,i<=xs.length->Pv i b H->aW K H a xs)(r:∀i x b H,xs[i]?=some x->Pv i b H->g x b H λc j=>l {D with nx:=Pv (i+1),ct:=Pv (i+1),bk:=D.nx} c j)(hd:∀b H,Pv xs.length b H->D.nx b H):∃W:Nat->Nat->St->Hp->Prop,(∃m,W 0 m b H)/\∀i m b H,W i m b H->((Lu K a).stop i H/\D.nx b H)\/((Lu K a).go i H/\∃N:St->Hp->Prop,(∀d f,N d f->∃n,n<m/\W (i+1) n d f)/\∀x f,(Lu K a).yld i H x f->g x b f λc j=>l {D with nx:=N,ct:=N,bk:=D.nx} c j):=by
 refine⟨λi m b H=>m=xs.length-i/\i<=xs.length/\Pv i b H,⟨xs.length,by simp,ng _,h0⟩,?_⟩;rintro i m b H⟨rfl,hi,p⟩;have q:=o i b H hi p
 by_cases h:i<xs.length
 ·refine .inr ⟨⟨xs,xs[i],q,by simp[h]⟩,Pv (i+1),λd f k=>⟨xs.length-(i+1),by lia,rfl,h,k⟩,λx f y=>?_⟩;obtain⟨e,y⟩:=y;subst e;exact r i x b _ (y xs q) p
 ·have e:i=xs.length:=by lia
  subst e;exact .inl ⟨⟨xs,q,g_ _⟩,hd b H p⟩
def KF{K:RM}{a:Addr}{xs:List V}{g:TG}{l:TS}{D:qG}{b:St}{H:Hp}(Pv:Nat->St->Hp->Prop)(h0:Pv 0 b H)(o:∀i b H,i<=xs.length->Pv i b H->aU K H a xs)(r:∀i x b H,xs[i]?=some x->Pv i b H->g x b H λc j=>l {D with nx:=Pv (i+1),ct:=Pv (i+1),bk:=D.nx} c j)(hd:∀b H,Pv xs.length b H->D.nx b H):∃W:Nat->Nat->St->Hp->Prop,(∃m,W 0 m b H)/\∀i m b H,W i m b H->((Ls K a).stop i H/\D.nx b H)\/((Ls K a).go i H/\∃N:St->Hp->Prop,(∀d f,N d f->∃n,n<m/\W (i+1) n d f)/\∀x f,(Ls K a).yld i H x f->g x b f λc j=>l {D with nx:=N,ct:=N,bk:=D.nx} c j):=by
 refine⟨λi m b H=>m=xs.length-i/\i<=xs.length/\Pv i b H,⟨xs.length,by simp,ng _,h0⟩,?_⟩;rintro i m b H⟨rfl,hi,p⟩;have q:=o i b H hi p
 by_cases h:i<xs.length
 ·refine .inr ⟨⟨xs,xs[i],q,by simp[h]⟩,Pv (i+1),λd f k=>⟨xs.length-(i+1),by lia,rfl,h,k⟩,λx f y=>?_⟩;obtain⟨e,y⟩:=y;subst e;exact r i x b _ (y xs q) p
 ·have e:i=xs.length:=by lia
  subst e;exact .inl ⟨⟨xs,q,g_ _⟩,hd b H p⟩
def gO{lo:Int}{n:Nat}{g:TG}{j:TS}{D:qG}{a:St}{H:Hp}(Pv:Nat->St->Hp->Prop)(h0:Pv 0 a H)(o:∀i a H,i<n->Pv i a H->g (.int (lo+i)) a H λb h=>j {D with nx:=Pv (i+1),ct:=Pv (i+1),bk:=D.nx} b h)(hd:∀a H,Pv n a H->D.nx a H):∃W:Nat->Nat->St->Hp->Prop,(∃m,W 0 m a H)/\∀i m a H,W i m a H->((IY lo n).stop i H/\D.nx a H)\/((IY lo n).go i H/\∃N:St->Hp->Prop,(∀c d,N c d->∃l,l<m/\W (i+1) l c d)/\∀x d,(IY lo n).yld i H x d->g x a d λb h=>j {D with nx:=N,ct:=N,bk:=D.nx} b h):=by
 refine⟨λi m a H=>m=n-i/\i<=n/\Pv i a H,⟨n,by simp,ng _,h0⟩,?_⟩;rintro i m a H⟨rfl,hi,p⟩
 by_cases f:i<n
 ·refine .inr ⟨f,Pv (i+1),λc d k=>⟨n-(i+1),by lia,rfl,f,k⟩,λx d y=>?_⟩;obtain⟨e,y⟩:=y;subst e y;exact o i a _ f p
 ·have e:i=n:=by lia
  subst e;exact .inl ⟨g_ _,hd a H p⟩
end L2
namespace L2
open PySem PySem.Spec PyProof.Rows
abbrev R2:=V->V->Hp->VK->Prop
def lr(X:Cx)(f:Value->Value->Sem Value)(r:R2):Prop:=∀(a:RO)(s:Shared)(b:St)(H:Hp)(x y:V)(v u:Value)(Q:VK),aM X a b H s->aZ x v->aZ y u->r x y H Q->wpAny (model X.prog X.w) X.A (f v u) (EP X a b Q) X.xe s
def PN(X:Cx)(f:Value->Sem Value)(r:V->Hp->VK->Prop):Prop:=∀(a:RO)(s:Shared)(b:St)(H:Hp)(x:V)(v:Value)(Q:VK),aM X a b H s->aZ x v->r x H Q->wpAny (model X.prog X.w) X.A (f v) (EP X a b Q) X.xe s
def cO(X:Cx)(f:Value)(r:List V->Hp->VK->Prop):Prop:=∀(a:RO)(s:Shared)(b:St)(H:Hp)(c:List V)(d:RQ)(Q:VK),aM X a b H s->bd c d->r c H Q->wpAny (model X.prog X.w) X.A (call f d) (EP X a b Q) X.xe s
def PP(X:Cx)(r:V->Hp->(Bool->Hp->Prop)->Prop):Prop:=∀(a:RO)(s:Shared)(b:St)(H:Hp)(x:V)(v:Value)(Q:Bool->Hp->Prop),aM X a b H s->aZ x v->r x H Q->wpAny (model X.prog X.w) X.A (truthy v) (TP X a b Q) X.xe s
def Np(r:R2)(b c:TE):TE:=λa H Q=>b a H λx d=>c a d λy e=>r x y e Q
def tUn(r:V->Hp->VK->Prop)(a:TE):TE:=λb H Q=>a b H λx c=>r x c Q
def rI(C:Int->Int->Prop)(g:Int->Int->V):R2:=λx y H Q=>∃i j,x=.int i/\y=.int j/\C i j/\Q (g i j) H
def JR(g:Int->Int->V):R2:=λx y H Q=>∃i j,x=.int i/\y=.int j/\Q (g i j) H
def rU(g:Int->V):V->Hp->VK->Prop:=λx H Q=>∃i,x=.int i/\Q (g i) H
section
variable{X:Cx}{a b c:Expr}{d l tc:TE}{e:Pos}
def M8(q:PE X a d)(r:PE X b l){g:RO}{s:Shared}{i:St}{H:Hp}{R:V->V->Hp->Prop}(I:aM X g i H s)(h:d i H λx p=>l i p λy j=>R x y j){Q:RN}{f:Value->Value->Sem Value}(t:∀v u o x y j,aM X g i j o->aZ x v->aZ y u->R x y j->wpAny (model X.prog X.w) X.A (f v u) Q X.xe o):wpAny (model X.prog X.w) X.A (eval a X.env) (λv s₁=>wpAny (model X.prog X.w) X.A (eval b X.env) (λu n=>wpAny (model X.prog X.w) X.A (f v u) Q X.xe n) X.xe s₁) X.xe s:=by refine cw (q g s i H _ I h) λv k⟨x,p,I1,m,z⟩=>?_;refine cw (r g k i p _ I1 z) λu o⟨y,j,B,r2,C⟩=>?_;exact t v u o x y j B m r2 C
def av{g:Operator}{r:R2}(i:lr X (binaryOp g) r)(j:PE X a d)(n:PE X b l):PE X (.BinOp a g b e) (Np r d l):=by intro f s k H Q I h;exact wpAny_BinOp (M8 j n I h λv u m x y o p t w q=>i f m k o x y v u Q p t w q)
def Oi(i:PN X (unaryOp j) r)(n:PE X a d):PE X (.UnaryOp j a e) (tUn r d):=by intro f s g H Q I h;exact UnaryOp_ (cw (n f s g H _ I h) λv k⟨x,m,I1,o,p⟩=>i f k g m x v Q I1 o p)
def Om{f:Value->Value->Sem Value}{C:Int->Int->Prop}{g:Int->Int->Int}(rule:∀(i j:Int)(t u:Tok)(s:Shared)(Q:RN)(E:RN),C i j->Q (.int (g i j) s.toks) {s with toks:=s.toks+1}->wpAny (model X.prog X.w) X.A (f (.int i t) (.int j u)) Q E s):lr X f (rI C λi j=>.int (g i j)):=by intro k s p H x y v u Q I m n h;obtain⟨i,j,rfl,rfl,hc,q⟩:=h;obtain⟨t,rfl⟩:=m;obtain⟨o,rfl⟩:=n;exact rule i j t o s _ _ hc ⟨.int (g i j),H,I.tok _,⟨_,rfl⟩,q⟩
def Mv{f:Value->Value->Sem Value}{g:Int->Int->Int}(rule:∀(i j:Int)(t u:Tok)(s:Shared)(Q:RN)(E:RN),Q (.int (g i j) s.toks) {s with toks:=s.toks+1}->wpAny (model X.prog X.w) X.A (f (.int i t) (.int j u)) Q E s):lr X f (JR λi j=>.int (g i j)):=by intro k s p H x y v u Q I m n h;obtain⟨i,j,rfl,rfl,q⟩:=h;obtain⟨t,rfl⟩:=m;obtain⟨o,rfl⟩:=n;exact rule i j t o s _ _ ⟨.int (g i j),H,I.tok _,⟨_,rfl⟩,q⟩
def J6{f:Value->Value->Sem Value}{g:Int->Int->Bool}(rule:∀(i j:Int)(t u:Tok)(s:Shared)(Q:RN)(E:RN),Q (.bool (g i j)) s->wpAny (model X.prog X.w) X.A (f (.int i t) (.int j u)) Q E s):lr X f (JR λi j=>.bl (g i j)):=by intro k s p H x y v u Q I m n h;obtain⟨i,j,rfl,rfl,q⟩:=h;obtain⟨t,rfl⟩:=m;obtain⟨o,rfl⟩:=n;exact rule i j t o s _ _ ⟨.bl (g i j),H,I,rfl,q⟩
def fh(i j:Int):Prop:=0<j/\j<1073741824
def PY(i j:Int):Prop:=0<=j/\j<=1000000/\i.natAbs<2^64
def Nk(i j:Int):Prop:=(-(2^64)<i/\i<2^64)\/(-(2^64)<j/\j<2^64)
def Nk.ok(h:Nk i j):IntMulOk i j:=by
 rcases h with⟨h1,h2⟩|⟨h1,h2⟩
 ·exact .of_left (intBits_le_64 h1 h2)
 ·exact .of_right (intBits_le_64 h1 h2)
def two_pow_nn(k:Nat):(0:Int)<=2^k:=by rw[two_pow_cast];exact rk _
def bG:lr X (binaryOp .Add) (JR λi j=>.int (i+j)):=Mv λ_ _ _ _ _ _ _ q=>add_int q
def fC:lr X (binaryOp .Sub) (JR λi j=>.int (i-j)):=Mv λ_ _ _ _ _ _ _ q=>sub_int q
def gJ:lr X (binaryOp .Mult) (rI Nk λi j=>.int (i*j)):=Om λ_ _ _ _ _ _ _ hc q=>mul_int q hc.ok
def bg:lr X (binaryOp .FloorDiv) (rI fh λi j=>.int (i/j)):=Om λi j _ _ _ _ _ hc q=>by have h1:(0:Int)<j:=hc.1;have h2:j<1073741824:=hc.2;exact floordiv_int (by lia) (by rw[Qz i (by lia)];exact q) (.inl (PyProof.noPylong_small (by lia)))
def aO:lr X (binaryOp .Mod) (rI (λ_ j=>0<j) λi j=>.int (i%j)):=Om λi j _ _ _ _ _ hc q=>by have h1:(0:Int)<j:=hc;exact mod_int' (by lia) (by rw[Int.fmod_eq_emod_of_nonneg i (by lia)];exact q)
def Ms:lr X (binaryOp .Pow) (rI PY λi j=>.int (i^j.toNat)):=Om λ_ _ _ _ _ _ _ hc q=>pow_int_small hc.1 hc.2.1 hc.2.2 q
def Mr:lr X (binaryOp .RShift) (rI (λ_ j=>0<=j) λi j=>.int (i/2^j.toNat)):=Om λi j _ _ _ _ _ hc q=>rshift_int hc (by rw[Qz i (two_pow_nn _)];exact q)
def GT:lr X (binaryOp .BitAnd) (JR λi j=>.int (Builtin.bitAnd i j)):=Mv λ_ _ _ _ _ _ _ q=>and_int q
def unI{f:Value->Sem Value}{g:Int->Int}(rule:∀(i:Int)(t:Tok)(s:Shared)(Q:RN)(E:RN),Q (.int (g i) s.toks) {s with toks:=s.toks+1}->wpAny (model X.prog X.w) X.A (f (.int i t)) Q E s):PN X f (rU λi=>.int (g i)):=by intro j s m H x v Q I k h;obtain⟨i,rfl,q⟩:=h;obtain⟨t,rfl⟩:=k;exact rule i t s _ _ ⟨.int (g i),H,I.tok _,⟨_,rfl⟩,q⟩
def LB:PN X (unaryOp .USub) (rU λi=>.int (-i)):=unI λ_ _ _ _ _ q=>neg_int q
end
def fj:V->V->Bool|.non,.non=>true|.non,.int _=>true|.int _,.non=>true|.non,.bl _=>true|.bl _,.non=>true|.non,.str _=>true|.str _,.non=>true|.int _,.int _=>true|.bl _,.bl _=>true|.str _,.str _=>true|.byt _,.byt _=>true|.int _,.str _=>true|.str _,.int _=>true|.bl _,.str _=>true|.str _,.bl _=>true|_,_=>false
def rEq:R2:=λx y H Q=>fj x y=true/\Q (.bl (decide (x=y))) H
def rNe:R2:=λx y H Q=>fj x y=true/\Q (.bl (!decide (x=y))) H
def DR:decide (V.int i=V.int j)=(i==j):=by rw[Q4];simp
def Ij:decide (V.bl i=V.bl j)=(i==j):=by rw[Q4];simp
def DQ:decide (V.str i=V.str j)=(i==j):=by rw[Q4];simp
def DS:decide (V.byt i=V.byt j)=(i.toList==j.toList):=by rw[Q4];cases i;cases j;simp
section
variable{X:Cx}{a b c:Expr}{f g tc:TE}{l:Pos}
def bL(I:aM X d h H s)(q:Q (.bl k) H)(e:k=i):EP X d h Q (.bool i) s:=by subst e;exact⟨.bl k,H,I,rfl,q⟩
def aT:lr X (compareOp .Eq) rEq:=by intro n s o H x y v u Q I m d h;obtain⟨k,q⟩:=h;cases x with
 |non=>cases m;cases y with|non=>cases d;exact PySem.EqNone.eq_none_none (bL I q (by simp))|bl j=>cases d;exact PySem.EqNone.eq_none_bool (bL I q (by simp))|int j=>obtain⟨e,rfl⟩:=d;exact PySem.EqNone.eq_none_int (bL I q (by simp))|str j=>obtain⟨e,rfl⟩:=d;exact PySem.EqNone.eq_none_str (bL I q (by simp))|_=>exact absurd (show false=true from k) l_
 |bl i=>cases m;cases y with|non=>cases d;exact PySem.EqNone.eq_bool_none (bL I q (by simp))|bl j=>cases d;exact eq_bool (bL I q Ij)|str j=>obtain⟨e,rfl⟩:=d;exact PySem.EqMixed.eq_bool_str (bL I q (by simp))|_=>exact absurd (show false=true from k) l_
 |int i=>obtain⟨t,rfl⟩:=m;cases y with|non=>cases d;exact PySem.EqNone.eq_int_none (bL I q (by simp))|int j=>obtain⟨e,rfl⟩:=d;exact eq_int (bL I q DR)|str j=>obtain⟨e,rfl⟩:=d;exact PySem.EqMixed.eq_int_str (bL I q (by simp))|_=>exact absurd (show false=true from k) l_
 |str i=>obtain⟨t,rfl⟩:=m;cases y with|non=>cases d;exact PySem.EqNone.eq_str_none (bL I q (by simp))|bl j=>cases d;exact PySem.EqMixed.eq_str_bool (bL I q (by simp))|int j=>obtain⟨e,rfl⟩:=d;exact PySem.EqMixed.eq_str_int (bL I q (by simp))|str j=>obtain⟨e,rfl⟩:=d;exact eq_str (bL I q DQ)|_=>exact absurd (show false=true from k) l_
 |byt i=>obtain⟨t,rfl⟩:=m;cases y with|byt j=>obtain⟨e,rfl⟩:=d;exact PySem.W.eq_bytes (bL I q DS)|_=>exact absurd (show false=true from k) l_
 |_=>cases y<;>exact absurd (show false=true from k) l_
def Lc:lr X (compareOp .NotEq) rNe:=by intro n s o H x y v u Q I m d h;obtain⟨k,q⟩:=h;cases x with
 |non=>cases m;cases y with|non=>cases d;exact PySem.EqNone.ne_none_none (bL I q (by simp))|bl j=>cases d;exact PySem.EqNone.ne_none_bool (bL I q (by simp))|int j=>obtain⟨e,rfl⟩:=d;exact PySem.EqNone.ne_none_int (bL I q (by simp))|str j=>obtain⟨e,rfl⟩:=d;exact PySem.EqNone.ne_none_str (bL I q (by simp))|_=>exact absurd (show false=true from k) l_
 |bl i=>cases m;cases y with|non=>cases d;exact PySem.EqNone.ne_bool_none (bL I q (by simp))|bl j=>cases d;exact ne_bool (bL I q (rb not Ij))|str j=>obtain⟨e,rfl⟩:=d;exact PySem.EqMixed.ne_bool_str (bL I q (by simp))|_=>exact absurd (show false=true from k) l_
 |int i=>obtain⟨t,rfl⟩:=m;cases y with|non=>cases d;exact PySem.EqNone.ne_int_none (bL I q (by simp))|int j=>obtain⟨e,rfl⟩:=d;exact ne_int (bL I q (rb not DR))|str j=>obtain⟨e,rfl⟩:=d;exact PySem.EqMixed.ne_int_str (bL I q (by simp))|_=>exact absurd (show false=true from k) l_
 |str i=>obtain⟨t,rfl⟩:=m;cases y with|non=>cases d;exact PySem.EqNone.ne_str_none (bL I q (by simp))|bl j=>cases d;exact PySem.EqMixed.ne_str_bool (bL I q (by simp))|int j=>obtain⟨e,rfl⟩:=d;exact PySem.EqMixed.ne_str_int (bL I q (by simp))|str j=>obtain⟨e,rfl⟩:=d;exact ne_str (bL I q (rb not DQ))|_=>exact absurd (show false=true from k) l_
 |byt i=>obtain⟨t,rfl⟩:=m;cases y with|byt j=>obtain⟨e,rfl⟩:=d;exact PySem.W.ne_bytes (bL I q (rb not DS))|_=>exact absurd (show false=true from k) l_
 |_=>cases y<;>exact absurd (show false=true from k) l_
def xS:lr X (compareOp .Lt) (JR λi j=>.bl (decide (i<j))):=J6 λ_ _ _ _ _ _ _ q=>lt_int q
def j3:lr X (compareOp .LtE) (JR λi j=>.bl (decide (i<=j))):=J6 λ_ _ _ _ _ _ _ q=>le_int q
def sN:lr X (compareOp .Gt) (JR λi j=>.bl (decide (j<i))):=J6 λ_ _ _ _ _ _ _ q=>gt_int q
def Ld:lr X (compareOp .GtE) (JR λi j=>.bl (decide (j<=i))):=J6 λ_ _ _ _ _ _ _ q=>ge_int q
def EE:lr X (compareOp .In) (λx y H Q=>∃i j,x=.str i/\y=.str j/\Q (.bl (!(Builtin.Str.occurrences j i 0 j.length 1).isEmpty)) H):=by intro d s m H x y v u Q I e k h;obtain⟨i,j,rfl,rfl,q⟩:=h;obtain⟨t,rfl⟩:=e;obtain⟨n,rfl⟩:=k;exact in_str (bL I q rfl)
def GS:lr X (compareOp .Is) (λx y H Q=>y=.non/\Q (.bl (decide (x=.non))) H):=by intro d s j H x y v u Q I e i h;obtain⟨rfl,q⟩:=h;cases i;refine is_none_gen (bL I q ?_);cases x<;>first|(cases e;rfl)|(obtain⟨t,rfl⟩:=e;rfl)
def DA:lr X (compareOp .IsNot) (λx y H Q=>y=.non/\Q (.bl (!decide (x=.non))) H):=by intro d s j H x y v u Q I e i h;obtain⟨rfl,q⟩:=h;cases i;refine isnot_none_gen (bL I q ?_);cases x<;>first|(cases e;rfl)|(obtain⟨t,rfl⟩:=e;rfl)
def aG(b:Expr)(h:d≠.In:=by decide)(h2:d≠.NotIn:=by decide):behindInMarks d b=false:=by
 have e:(d==CmpOp.In)=false:=by cases d<;>first|rfl|exact absurd rfl h
 have i:(d==CmpOp.NotIn)=false:=by cases d<;>first|rfl|exact absurd rfl h2
 cases b<;>simp[behindInMarks,e,i]
def bY(i:lr X (compareOp e) r)(j:PE X a f)(n:PE X b g)(hm:behindInMarks e b=false):PE X (.Compare a [e] [b] l) (Np r f g):=by intro d s k H Q I h;exact wpAny_Compare1 (M8 j n I h λv u m x y o p t w q=>i d m k o x y v u Q p t w q) hm
def K7(t:TE):TT:=λd H Q=>t d H λx e=>∃k,x=.bl k/\Q k e
def aD(n:lr X (compareOp j) r)(o:PE X a f)(p:PE X b g)(hm:behindInMarks j b=false):PT X (.Compare a [j] [b] l) (K7 (Np r f g)):=by
 intro d s i H Q I h;refine wpAny_isTrue_Compare1 (cw (o d s i H _ I h) λv m⟨x,q,I1,t,w⟩=>cw (p d m i q _ I1 w) λu A⟨y,B,C,r2,D⟩=>cw (n d A i B x y v u _ C t r2 D) λc K⟨z,E,F,G,k,e,J⟩=>?_) hm
 subst e;cases G;exact rr ⟨E,F,J⟩
def FZ(r h:R2)(f g tc:TE):TE:=λd H Q=>f d H λx i=>g d i λy j=>r x y j λz e=>∃k,z=.bl k/\(if k=true then tc d e λm n=>h y m n Q else Q (.bl false) e)
def u6(w:lr X (compareOp o) r)(n:lr X (compareOp j) A)(B:PE X a f)(C:PE X b g)(hc:PE X c tc)(hm:lastMarks [o,j] [b,c]=false:=by with_unfolding_all rfl):PE X (.Compare a [o,j] [b,c] l) (FZ r A f g tc):=by
 intro i s m H Q I h;refine Compare_chain (cw (B i s m H _ I h) λv D⟨x,E,I1,F,G⟩=>chain_link (cw (C i D m E _ I1 G) λu J⟨y,K,L,r2,M⟩=>cw (w i J m K x y v u _ L F r2 M) λd N⟨z,p,q,O,k,e,t⟩=>?_)) hm
 subst e;cases O;refine rr ?_;cases k with|false=>exact ite_ff ⟨.bl false,p,q,rfl,t⟩|true=>exact ite_tt (chain_last (cw (hc i N m p _ q t) λP R⟨S,T,U,V,W⟩=>n i R m T y S u P Q U r2 V W))
def AD(w:lr X (compareOp o) r)(n:lr X (compareOp j) A)(B:PE X a f)(C:PE X b g)(hc:PE X c tc)(hm:lastMarks [o,j] [b,c]=false:=by with_unfolding_all rfl):PT X (.Compare a [o,j] [b,c] l) (K7 (FZ r A f g tc)):=by
 intro i s m H Q I h;refine isTrue_chain (cw (B i s m H _ I h) λv D⟨x,E,I1,F,G⟩=>test_link (cw (C i D m E _ I1 G) λu J⟨y,K,L,r2,M⟩=>cw (w i J m K x y v u _ L F r2 M) λd N⟨z,p,q,O,k,e,t⟩=>?_)) hm
 subst e;cases O;refine rr ?_;cases k with|false=>obtain⟨k',P,R⟩:=t;cases P;exact ite_ff ⟨p,q,R⟩|true=>refine ite_tt (test_last (cw (hc i N m p _ q t) λS T⟨U,V,W,Y,Z⟩=>cw (n i T m V y U u S _ W r2 Y Z) λd' s5⟨z2,H5,I5,r5,k2,e2,q5⟩=>?_));subst e2;cases r5;exact rr ⟨H5,I5,q5⟩
def Nd(K:RM)(x:V)(H:Hp)(k:Bool):Prop:=match x with|.non=>k=false|.bl b=>k=b|.int i=>k=(i !=0)|.str y=>y.length<=sizeLine/\k=((y.length:Int)!=0)|.byt y=>y.size<=sizeLine/\k=((y.size:Int)!=0)|.ref p=>(∃d,aW K H p d/\k=!d.isEmpty)\/(∃d,aU K H p d/\k=!d.isEmpty)\/∃e,H p=some (.dK e)/\k=!e.isEmpty|_=>False
def CV(r:KV d e):(!e.isEmpty)=!d.isEmpty:=by cases r<;>rfl
def vB(r:bd e d):(!d.toArray.isEmpty)=!e.isEmpty:=by cases r<;>simp
def rq:(sizeLine:Nat)<2^63:=by rw[k4];decide
def LE:PP X (λx H Q=>∃k,Nd X.K x H k/\Q k H):=by intro C s G H x v Q I u h;obtain⟨k,e,q⟩:=h;have J:=rq;have L:sizeLine=16777216:=k4;cases x with|non=>cases u;have d:k=false:=e;subst d;exact truthy_none ⟨H,I,q⟩|bl b=>cases u;have d:k=b:=e;subst d;exact rr ⟨H,I,q⟩|int i=>obtain⟨t,rfl⟩:=u;have d:k=(i !=0):=e;subst d;exact PySem.P.truthy_int ⟨H,I,q⟩|str y=>obtain⟨t,rfl⟩:=u;obtain⟨E,d⟩:y.length<=sizeLine/\k=((y.length:Int)!=0):=e;subst d;exact PySem.P.truthy_str (by lia) ⟨H,I.tok _,q⟩|byt y=>obtain⟨t,rfl⟩:=u;obtain⟨E,d⟩:y.size<=sizeLine/\k=((y.size:Int)!=0):=e;subst d;exact PySem.W.truthy_bytes (by lia) ⟨H,I.tok _,q⟩|ref p=>
  cases u;have d:(∃o,aW X.K H p o/\k=!o.isEmpty)\/(∃o,aU X.K H p o/\k=!o.isEmpty)\/∃j,H p=some (.dK j)/\k=!j.isEmpty:=e;rcases d with⟨o,z,d⟩|⟨o,z,d⟩|⟨j,z,d⟩
  ·subst d;obtain⟨B,r,pl,D⟩:=I.list z;have n:=r.length;exact wpAny_truthy_list pl.isList (by simp only[lh];lia) ⟨H,I.tok _,by rw[vB r];exact q⟩
  ·subst d;obtain⟨B,r,pl,D⟩:=I.tuple z;have n:=r.length;exact truthy_tuple pl (by simp only[lh];lia) ⟨H,I.tok _,by rw[vB r];exact q⟩
  ·subst d;obtain⟨D,F,A,r,m⟩:j.length<=sizeLine/\(p==sysModules)=false/\∃A,KV j A/\s.heap.DictOf (aL X.prog X.w) p A:=I.hok p _ z;have n:j.length=A.length:=Paired.length r;exact wpAny_truthy_dict F m (by lia) ⟨H,I.tok _,by rw[CV r];exact q⟩|_=>exact(show False from e).elim
def GJ(n:PE X a f)(o:∀d,isTrue a X.env d=(do let v<-d;standAt a.pos;holding [v] (truthy v))):PT X a (λi H Q=>f i H λx j=>∃k,Nd X.K x j k/\Q k j):=by intro e s i H Q I h;exact isTrue_plain (cw (n e s i H _ I h) λv m⟨x,p,I1,q,r⟩=>LE e m i p x v Q I1 q r) (o _)
def jx:lr X (binaryOp .Add) (λx y H Q=>∃i j,x=.str i/\y=.str j/\i.length+j.length<=sizeLine/\Q (.str (i++j)) H):=by intro d s o H x y v u Q I e k h;obtain⟨i,j,rfl,rfl,m,q⟩:=h;obtain⟨t,rfl⟩:=e;obtain⟨n,rfl⟩:=k;exact add_str (λn tk=>⟨.str (i++j),H,I.tok _,⟨_,rfl⟩,q⟩) m
def jU(r:bd [x] d):∃u,d=[u]/\aZ x u:=by cases r with|cons e r2=>cases r2;exact⟨_,rfl,e⟩
def xF(r:bd [x,y] e):∃u d,e=[u,d]/\aZ x u/\aZ y d:=by cases r with|cons h r2=>cases r2 with|cons i j=>cases j;exact⟨_,_,rfl,h,i⟩
def Fu(hc:X.calm=true):cO X (.builtin "max") (λe H Q=>∃i j,e=[.int i,.int j]/\Q (.int (if j>i then j else i)) H):=by
 intro m s n H e o Q I r h;obtain⟨i,j,rfl,q⟩:=h;obtain⟨u,p,rfl,⟨t,rfl⟩,⟨v,rfl⟩⟩:=xF r;refine max_two_ints (I.ok.hd hc) λh' tk k=>⟨_,H,I.kept k,?_,q⟩
 by_cases d:j>i
 ·rw[ku d,ku d];exact⟨_,rfl⟩
 ·rw[j2 d,j2 d];exact⟨_,rfl⟩
def sw(hc:X.calm=true):cO X (.builtin "min") (λe H Q=>∃i j,e=[.int i,.int j]/\Q (.int (if j<i then j else i)) H):=by
 intro m s n H e o Q I r h;obtain⟨i,j,rfl,q⟩:=h;obtain⟨u,p,rfl,⟨t,rfl⟩,⟨v,rfl⟩⟩:=xF r;refine min_two_ints (I.ok.hd hc) λh' tk k=>⟨_,H,I.kept k,?_,q⟩
 by_cases d:j<i
 ·rw[ku d,ku d];exact⟨_,rfl⟩
 ·rw[j2 d,j2 d];exact⟨_,rfl⟩
def OW(K:RM)(x:V)(H:Hp)(n:Nat):Prop:=match x with|.str y=>y.length<=sizeLine/\n=y.length|.byt y=>y.size<=sizeLine/\n=y.size|.ref p=>(∃d,aW K H p d/\n=d.length)\/∃d,aU K H p d/\n=d.length|_=>False
def IC:cO X (.builtin "len") (λd H Q=>∃x n,d=[x]/\OW X.K x H n/\Q (.int n) H):=by
 intro w s B H d C Q I r h;obtain⟨x,n,rfl,e,q⟩:=h;obtain⟨u,rfl,k⟩:=jU r;have D:=rq;have E:sizeLine=16777216:=k4;cases x with|str y=>obtain⟨t,rfl⟩:=k;obtain⟨z,j⟩:y.length<=sizeLine/\n=y.length:=e;subst j;exact len_str (by lia) ⟨.int _,H,I.tok _,⟨_,rfl⟩,q⟩|byt y=>obtain⟨t,rfl⟩:=k;obtain⟨z,j⟩:y.size<=sizeLine/\n=y.size:=e;subst j;exact PySem.W.len_bytes (by lia) ⟨.int _,H,I.tok _,⟨_,rfl⟩,q⟩|ref p=>
  cases k;have j:(∃d,aW X.K H p d/\n=d.length)\/∃d,aU X.K H p d/\n=d.length:=e;rcases j with⟨d,m,j⟩|⟨d,m,j⟩
  ·subst j;obtain⟨o,v,pl,A⟩:=I.list m;have i:=v.length;exact Calls.call_len_list pl.isList (by simp only[lh];lia) ⟨.int d.length,H,I.tok _,⟨_,by simp only[lh];rw[i]⟩,q⟩
  ·subst j;obtain⟨o,v,pl,A⟩:=I.tuple m;have i:=v.length;exact len_tuple pl (by simp only[lh];lia) ⟨.int d.length,H,I.tok _,⟨_,by simp only[lh];rw[i]⟩,q⟩|_=>exact(show False from e).elim
def BG:cO X (.builtin "divmod") (λd H Q=>∃i j,d=[.int i,.int j]/\fh i j/\∀p,H p=none->Q (.ref p) (aA H p (.tup [.int (i/j),.int (i%j)]))):=by intro k s m H d n Q I r h;obtain⟨i,j,rfl,⟨h1,h2⟩,q⟩:=h;obtain⟨u,v,rfl,⟨t,rfl⟩,⟨w,rfl⟩⟩:=xF r;refine divmod_int (by lia) ?_ (.inl (PyProof.noPylong_small (by lia)));rw[Qz i (by lia),Int.fmod_eq_emod_of_nonneg i (by lia)];have hn:H s.heap.objs.size=none:=I.hok.fresh (g_ _);refine⟨.ref s.heap.objs.size,_,?_,rfl,q _ hn⟩;refine I.laid (λb o e=>b_ _ e) (g_ _) ⟨by simp only[n_,List.length_nil];rw[k4];decide,[.int (i/j) s.toks,.int (i%j) (s.toks+1)],.cons ⟨_,rfl⟩ (.cons ⟨_,rfl⟩ .nil),?_⟩;exact⟨_,h_ s.heap rfl,rfl,0,rfl⟩
end
end L2
namespace L2
open PySem PySem.Spec PyProof.Rows
structure Dm(h:Heap)(x dx C:Addr)(mA:RP):Prop where
 obj:h.get? x=some (PySem.W.instObj C dx)ns:h.Ns1 dx mA
 ne:dx≠x
def EN{h:Heap}{dx:Addr}{d:RP}(n:h.Ns1 dx d):∃f,h.get? dx=some f/\∀b,PySem.W.lookIn b f=some (d b):=by
 obtain⟨o,g,m,i,hd,j,_,hm⟩:=n;refine⟨o,i,λb=>?_⟩;have e:=hm b;unfold nsFind findBy at e;rw[<-Array.find?_toList]at e;unfold PySem.W.lookIn;rw[hd];dsimp only
 split
 ·rename_i y q;rw[q]at e;exact rb some e
 ·rename_i q;rw[q]at e;have a:g.toList.any (·.refKey)=false:=by rw[List.any_eq_false];intro y k;obtain⟨z,t,c⟩:=j y (Array.mem_toList_iff.mp k);simp[DictEntry.refKey,c]
  have l:¬g.toList.any (·.refKey)=true:=by rw[a];exact l_
  rw[j2 l];exact rb some e
def Dm.look(I:Dm h x dx C c):∃b,PySem.W.InstAt h x (PySem.W.instObj C dx) C (some b)/\∀a,PySem.W.lookIn a b=some (c a):=let⟨b,d,e⟩:=EN I.ns
 ⟨b,⟨I.obj,rfl,rfl,d⟩,e⟩
section
variable{prog:RR}{w:World}{A:Around}{E:RN}{s:Shared}{K:RM}{x dx C f:Addr}{e:RP}{c:Str}{v:Value}
def KC(X:K.In s.heap)(I:Dm s.heap x dx C e)(hg:PySem.W.plainGet K C c=true)(hh:PySem.W.hasDictIn K C=true)(d:PySem.W.findIn K (.ref C) c=some none)(g:e c=some v)(a:PySem.W.handedIn v=true)(h:Q v {s with toks:=s.toks+1}):wpAny (model prog w) A (getAttr (.ref x) c b) Q E s:=by obtain⟨j,J,i⟩:=I.look;exact PySem.W.get_value X J (PySem.W.plainGet_of hg).1 (PySem.W.findObj_own hh d rfl (by rw[i,g])) a h
def HP(X:K.In s.heap)(I:Dm s.heap x dx C e)(hg:PySem.W.plainGet K C c=true)(a:PySem.W.findIn K (.ref C) c=some (some (.ref f)))(b:PySem.W.isFn K (.ref f)=true)(d:e c=none)(h:Q (.ref f,[.ref x]) s):wpAny (model prog w) A (getMethod (.ref x) c pl) Q E s:=by obtain⟨g,J,i⟩:=I.look;exact PySem.W.method_fn X J (PySem.W.plainGet_of hg).1 (PySem.W.plainGet_of hg).2 a (beq_iff_eq.mp b) (by show(PySem.W.lookIn c g).map (·.isSome)=some false;rw[i,d];rfl) h
def io(X:K.In s.heap)(I:Dm s.heap x dx C e)(n:PySem.W.findIn K (.ref C) "__setattr__"=some (some (.builtin "object.__setattr__")))(o:PySem.W.plainOver K C=true)(p:PySem.W.takerIn K C c=some none)(hh:PySem.W.hasDictIn K C=true)(q:PySem.Within e ns)(t:ns.length<=sizeLine)(h:∀h',Dm h' x dx C (λy=>if y=c then some v else e y)->Heap.SameBut dx s.heap h'->Q () {s with heap:=h',toks:=s.toks+2}):wpAny (model prog w) A (setAttr (.ref x) c v) Q E s:=by obtain⟨B,J,D⟩:=I.look;refine PySem.W.set_plain X J n (PySem.W.osa_open (s:={s with toks:=s.toks+1}) (r:=none) X J o p λb=>?_);obtain⟨cd,hc,i⟩:=PySem.W.any_some hh;have m:s.heap.get? x=some ⟨.ref C,some dx,.plain,#[]⟩:=I.obj;refine a_ (e_ (a_ (a_ (wpAny_loadPart m (a_ (PySem.W.Looks.here (s:={s with toks:=s.toks+1}) (PySem.W.looks_clsIn X hc) ?_))))));rw[i];refine e_ (a:=some dx) (a_ (e_ (a_ ?_)));refine wpAny_nsSet1 (s:={s with toks:=s.toks+1}) I.ns λh' d g=>?_;obtain⟨F,u,z,j,k,l⟩:=d.count (PySem.Within.cons c v q);refine a_ (wpAny_lookBehind j (by rw[k];exact pastItsLine_dict (nh l (by rw[n_];lia))) ?_);exact e_ (h _ ⟨(g.2 _ (ol I.ne)).trans I.obj,d,I.ne⟩ g)
def Hf(X:K.In s.heap)(hm:PySem.W.makesIn K C=true)(hi:PySem.W.findIn K (.ref C) "__init__"=some (some (.ref f)))(i:PySem.W.typeIn K (.ref f)=some (.type "function"))(h:codeAny (model prog w) (A.under (.builtin "type.__call__" ⟨.ref C::a,b⟩)) (.call (.ref f) ⟨.ref (s.heap.objs.size+1)::a,b⟩) (PySem.W.InitBack (s.heap.objs.size+1) R) {s with heap:=(s.heap.push PySem.W.emptyDict).push (PySem.W.instObj C s.heap.objs.size)}):codeAny (model prog w) A (.call (.ref C) ⟨a,b⟩) R s:=by obtain⟨hh,g,d,t,os⟩:=s;exact PySem.W.make_core (PySem.W.makes_of X hm) (PySem.W.looks_findIn X hi) (λself=>PySem.W.bind_fn X self i) (.inl rfl) h
end
def eF(f:Str)(v:V):List (Str×V)->List (Str×V)|[]=>[(f,v)]|(g,x)::r=>if g=f then(g,v)::r else(g,x)::eF f v r
theorem sU(f g:Str)(v:V):∀fs:List (Str×V),(eF f v fs).lookup g=if g=f then some v else fs.lookup g
 |[]=>by
  show List.lookup g [(f,v)]=_
  by_cases h:g=f
  ·have a:(g==f)=true:=beq_iff_eq.mpr h;simp only[List.lookup,a,ku h]
  ·have a:(g==f)=false:=z8.mpr h;simp only[List.lookup,a,j2 h]|(k,x)::r=>by
  have c:=sU f g v r;rw[show eF f v ((k,x)::r)=(if k=f then(k,v)::r else(k,x)::eF f v r)from rfl]
  by_cases b:k=f
  ·rw[ku b]
   by_cases h:g=k
   ·have a:(g==k)=true:=beq_iff_eq.mpr h;simp only[List.lookup,a,ku (h.trans b)]
   ·have a:(g==k)=false:=z8.mpr h;simp only[List.lookup,a,j2 (λe:g=f=>h (e.trans b.symm))]
  ·rw[j2 b]
   by_cases h:g=k
   ·have a:(g==k)=true:=beq_iff_eq.mpr h;simp only[List.lookup,a,j2 (λe:g=f=>b (h.symm.trans e))]
   ·have a:(g==k)=false:=z8.mpr h;simp only[List.lookup,a];exact c
theorem rZ(f:Str)(v:V):∀fs:List (Str×V),f∈(eF f v fs).map (·.1)/\∀g,g∈fs.map (·.1)->g∈(eF f v fs).map (·.1)
 |[]=>⟨by simp[eF],λg h=>by simp at h⟩|(k,x)::r=>by
  obtain⟨b,c⟩:=rZ f v r;rw[show eF f v ((k,x)::r)=(if k=f then(k,v)::r else(k,x)::eF f v r)from rfl]
  by_cases a:k=f
  ·rw[ku a];subst a;exact⟨by simp,λg h=>by simpa using h⟩
  ·rw[j2 a];refine⟨?_,λg h=>?_⟩
   ·rw[no];exact i_ _ b
   ·rw[no]at h⊢;rcases ov.mp h with e|e
    ·exact ov.mpr (.inl e)
    ·exact i_ _ (c g e)
theorem sV(f:Str)(v:V):∀fs:List (Str×V),(eF f v fs).length<=fs.length+1
 |[]=>by simp[eF]|(k,x)::r=>by
  have b:=sV f v r;rw[show eF f v ((k,x)::r)=(if k=f then(k,v)::r else(k,x)::eF f v r)from rfl]
  by_cases a:k=f
  ·rw[ku a,n_,n_];lia
  ·rw[j2 a,n_,n_];lia
def ld.some_of(r:ld (some v) o):∃u,o=some u/\aZ v u:=by cases o with|none=>exact(show False from r).elim|some u=>exact⟨u,rfl,r⟩
def ld.none_of(r:ld none o):o=none:=by cases o with|none=>rfl|some u=>exact(show False from r).elim
def E3(r:aZ v u):PySem.W.handedIn u=true:=by cases v with|non=>cases(show u=Value.none from r);rfl|bl b=>cases(show u=Value.bool b from r);rfl|int i=>obtain⟨t,e⟩:=(show∃t,u=Value.int i t from r);cases e;rfl|str x=>obtain⟨t,e⟩:=(show∃t,u=Value.str x t from r);cases e;rfl|byt b=>obtain⟨t,e⟩:=(show∃t,u=Value.bytes b t from r);cases e;rfl|flt b=>obtain⟨t,e⟩:=(show∃t,u=Value.float b t from r);cases e;rfl|ref a=>cases(show u=Value.ref a from r);rfl|ty n=>cases(show u=Value.type n from r);rfl
section
variable{P:RR}{w:World}{H c:Hp}{h h':Heap}{a C dx:Addr}{fs b:List (Str×V)}
def ul(hok:mh P w H h)(e:H a=some (.ins C dx fs)):∃g,Dm h a dx C g/\(∀f,ld (fs.lookup f) (g f))/\PySem.Within g (fs.map (·.1))/\fs.length<=1000/\H dx=some (.own a):=by obtain⟨d,z,ne,ob,g,n,r,q⟩:=(show cZ P w H h a (.ins C dx fs)from hok a _ e);exact⟨g,⟨ob,n,ne⟩,r,q,z,d⟩
end
structure z9(K:RM)(C:Addr):Prop where
 pg:PySem.W.plainGet K C Str.empty=true
 hd:PySem.W.hasDictIn K C=true
 po:PySem.W.plainOver K C=true
 sa:PySem.W.findIn K (.ref C) "__setattr__"=some (some (.builtin "object.__setattr__"))
def z9.get{K:RM}{C:Addr}(c:z9 K C)(f:Str):PySem.W.plainGet K C f=true:=c.pg
def aX(K:RM)(C:Addr)(f:Str):Prop:=PySem.W.findIn K (.ref C) f=some none
def aX.taker{K:RM}{C:Addr}{f:Str}(n:aX K C f):PySem.W.takerIn K C f=some none:=by unfold PySem.W.takerIn;rw[show PySem.W.findIn K (.ref C) f=some none from n];rfl
structure IV(K:RM)(C:Addr)(m:Str)(f:Addr):Prop where
 at_:PySem.W.findIn K (.ref C) m=some (some (.ref f))fn:PySem.W.isFn K (.ref f)=true
 kp:PySem.W.keepIn K (.ref f)=true
section
variable{X:Cx}{d:RO}{i:St}{H:Hp}{s:Shared}{a C dx:Addr}{fs:List (Str×V)}{f:Str}{v:V}{A:Around}{E:RN}
def C0(I:aM X d i H s)(e:H a=some (.ins C dx fs))(c:z9 X.K C)(n:aX X.K C f)(l:fs.lookup f=some v)(h:∀u g,aM X d i H g->aZ v u->Q u g):wpAny (model X.prog X.w) A (getAttr (.ref a) f b) Q E s:=by obtain⟨j,O,r,_,_,_⟩:=ul I.hok e;obtain⟨u,k,ru⟩:=ld.some_of (v:=v) (o:=j f) (by rw[<-l];exact r f);exact KC I.kIn O (c.get f) c.hd n k (E3 ru) (h u _ (I.tok _) ru)
def o7(I:aM X d i H s)(e:H a=some (.ins C dx fs))(c:z9 X.K C)(k:IV X.K C m g)(l:fs.lookup m=none)(h:Q (.ref g,[.ref a]) s):wpAny (model X.prog X.w) A (getMethod (.ref a) m pl) Q E s:=by obtain⟨b,O,r,_,_,_⟩:=ul I.hok e;have hn:b m=none:=ld.none_of (by rw[<-l];exact r m);exact HP I.kIn O (c.get m) k.at_ k.fn hn h
def Ca(I:aM X d i H s)(e:H a=some (.ins C dx fs))(c:z9 X.K C)(n:aX X.K C f)(J:fs.length<1000)(t:aZ y u)(h:∀l,aM X d i (aA H a (.ins C dx (eF f y fs))) l->Q () l):wpAny (model X.prog X.w) A (setAttr (.ref a) f u) Q E s:=by
 obtain⟨k,O,r,m,_,p⟩:=ul I.hok e;have B:(fs.map (·.1)).length<=sizeLine:=by rw[c_,k4];lia
 refine io I.kIn O c.sa c.po n.taker c.hd m B λh' j D=>h _ ?_;have hd:∃o,h'.get? dx=some o:=let⟨o,_,_,F,_⟩:=j.ns;⟨o,F⟩;refine I.write (x:=a) (e:=dx) (by rw[e];exact True.intro) (.inr p) (λb q G z=>(D.2 b G).trans z) hd ?_;refine⟨by rw[ao O.ne];exact p,?_,O.ne,j.obj,_,j.ns,λg=>?_,λg hg=>?_⟩
 ·have:=sV f y fs;lia
 ·show ld ((eF f y fs).lookup g) (if g=f then some u else k g);rw[sU]
  by_cases q:g=f
  ·rw[ku q,ku q];exact t
  ·rw[j2 q,j2 q];exact r g
 ·by_cases q:g=f
  ·rw[q];exact(rZ f y fs).1
  ·refine(rZ f y fs).2 g (m g λz=>hg ?_);show(if g=f then some u else k g)=none;rw[j2 q];exact z
def aM.made(I:aM X d i H s):aM X d i (aA (aA H s.heap.objs.size (.own (s.heap.objs.size+1))) (s.heap.objs.size+1) (.ins C s.heap.objs.size [])) {s with heap:=(s.heap.push PySem.W.emptyDict).push (PySem.W.instObj C s.heap.objs.size)}:=by
 have c:(s.heap.push PySem.W.emptyDict).get? s.heap.objs.size=some PySem.W.emptyDict:=h_ s.heap rfl;have g:((s.heap.push PySem.W.emptyDict).push (PySem.W.instObj C s.heap.objs.size)).get? (s.heap.objs.size+1)=some (PySem.W.instObj C s.heap.objs.size):=by
  have:=h_ (s.heap.push PySem.W.emptyDict) (o:=PySem.W.instObj C s.heap.objs.size) rfl
  rwa[n7]at this
 have h:(s.heap.push PySem.W.emptyDict).Ns s.heap.objs.size (λ_=>none):=⟨PySem.W.emptyDict,#[],_,c,rfl,(λe j=>absurd j (by simp)),λ_=>rfl⟩;have I1:=I.laid (a:=s.heap.objs.size) (o:=.own (s.heap.objs.size+1)) (h':=s.heap.push PySem.W.emptyDict) (t':=s.toks) (λb u q=>b_ _ q) (g_ _) ⟨_,c⟩;refine I1.laid (a:=s.heap.objs.size+1) (o:=.ins C s.heap.objs.size []) (t':=s.toks) (λb u q=>b_ _ q) (Qd (n7 _ _)) ?_;have ne:s.heap.objs.size≠s.heap.objs.size+1:=lm (rm _);refine⟨by rw[ao ne,ae],ng _,ne,g,λ_=>none,(Heap.Ns1.of_empty h).at λo q=>b_ _ q,λ_=>True.intro,λy l=>absurd rfl l⟩
def KP(b:attributeBase e f env (eval e env)=eval e env)(h:wpAny (model prog w) A (eval e env) (λo s₁=>wpAny (model prog w) A (getAttr o f true) Q E s₁) E s):wpAny (model prog w) A (eval (.Attribute e f c) env) Q E s:=Attribute_any_ h (by rw[arm_eval_Attribute,b])
end
def NY(K:RM)(c:TE)(f:Str):TE:=λd H Q=>c d H λx b=>∃a C dx fs v,x=.ref a/\b a=some (.ins C dx fs)/\z9 K C/\aX K C f/\fs.lookup f=some v/\Q v b
def Oa(K:RM)(d e:TE)(f:Str):TS:=λD b H=>e b H λy g=>d b g λx c=>∃a C dx fs,x=.ref a/\c a=some (.ins C dx fs)/\z9 K C/\aX K C f/\fs.length<1000/\D.nx b (aA c a (.ins C dx (eF f y fs)))
section
variable{X:Cx}{o e b:Expr}{f:Str}{g d j:Pos}{i p:TE}
def Mo(r:PE X e i)(t:attributeBase e f X.env (eval e X.env)=eval e X.env):PE X (.Attribute e f g) (NY X.K i f):=by intro k s m H Q I h;refine KP t (cw (r k s m H _ I h) λu B⟨x,w,I1,y,a,C,dx,fs,v,ex,z,c,n,l,q⟩=>?_);subst ex;obtain rfl:u=Value.ref a:=y;exact C0 I1 z c n l λD E A ru=>⟨v,w,A,ru,q⟩
def Mi(r:PE X o i)(t:PE X b p)(v:swapsWith b (some (.Attribute o f d)) g.line X.env=pure false):PS X (.Assign [.Attribute o f d] b g) (Oa X.K i p f):=by intro k s m H D I h;refine plainObj_wpAny_Assign_Attribute (cw (t k s m H _ I h) λu w⟨y,z,I1,A,q⟩=>cw (r k w m z _ I1 q) λB M⟨x,N,E,F,a,C,dx,fs,ex,G,c,n,l,J⟩=>?_) v;subst ex;obtain rfl:B=Value.ref a:=F;exact Ca E G c n l A λO L=>⟨m,_,L,J⟩
end
section
variable{X:Cx}{d:RO}{f:St}{H:Hp}{s:Shared}{A:Around}{E:RN}{Q:RN}{c:Value}{b:Bool}
inductive nO(K:RM)(H:Hp):V->Value->Prop where|non:nO K H .non (.type "NoneType")|bl(x:Bool):nO K H (.bl x) (.type "bool")|int(i:Int):nO K H (.int i) (.type "int")|str(x:Str):nO K H (.str x) (.type "str")|flt(x:UInt64):nO K H (.flt x) (.type "float")|lst{a:Addr}{xs:List V}(e:H a=some (.lst xs)):nO K H (.ref a) (.type "list")|frz{a:Addr}{o:Obj}{xs:List V}(e:H a=some (.frz o (.lst xs))):nO K H (.ref a) (.type "list")|tup{a:Addr}{xs:List V}(e:H a=some (.tup xs)):nO K H (.ref a) (.type "tuple")|dK{a:Addr}{kvs:List (b0×V)}(e:H a=some (.dK kvs)):nO K H (.ref a) (.type "dict")|dT{a:Addr}{kvs:List (List b0×V)}(e:H a=some (.dT kvs)):nO K H (.ref a) (.type "dict")|ins{a C dx:Addr}{fs:List (Str×V)}(e:H a=some (.ins C dx fs))(cl:z9 K C)(ha:PySem.W.findIn K (.ref C) "__class__"=some (some (.builtin "object.__class__")))(hn:PySem.W.specialIn K (.builtin "object.__class__") "__get__"=some (some (.builtin "getset_descriptor.__get__")))(htk:PySem.W.takesIn K (.builtin "object.__class__")=some true)(hm:PySem.W.mroIn K C (.type "object")=some true):nO K H (.ref a) (.ref C)
def EY(I:aM X d f H s)(g:aZ x u)(ty:nO X.K H x t)(e:PySem.W.kitOne X.K t c=some b)(h:∀tk,Q (.bool b) {s with toks:=tk}):wpAny (model X.prog X.w) A (call (.builtin "isinstance") [u,c]) Q E s:=by cases ty with|non=>cases(show u=Value.none from g);exact PySem.W.kia_one PySem.W.kitx_none I.kIn True.intro e (nofun) h|bl y=>cases(show u=Value.bool y from g);exact PySem.W.kia_one PySem.W.kitx_bool I.kIn True.intro e (nofun) h|int i=>obtain⟨t,q⟩:=(show∃t,u=Value.int i t from g);cases q;exact PySem.W.kia_one PySem.W.kitx_int I.kIn True.intro e (nofun) h|str y=>obtain⟨t,q⟩:=(show∃t,u=Value.str y t from g);cases q;exact PySem.W.kia_one PySem.W.kitx_str I.kIn True.intro e (nofun) h|flt y=>obtain⟨t,q⟩:=(show∃t,u=Value.float y t from g);cases q;exact PySem.W.kia_one PySem.W.kitx_float I.kIn True.intro e (nofun) h|@lst a l j=>cases(show u=Value.ref a from g);obtain⟨_,_,n,_,h1⟩:=(show cZ X.prog X.w H s.heap a (.lst l)from I.hok a _ j);exact PySem.W.kia_one PySem.W.kitx_list I.kIn ⟨_,h1,rfl⟩ e (nofun) h|@frz a ob l j=>cases(show u=Value.ref a from g);obtain⟨_,_,_,n,_,h1⟩:=(show cZ X.prog X.w H s.heap a (.frz ob (.lst l))from I.hok a _ j);exact PySem.W.kia_one PySem.W.kitx_list I.kIn ⟨_,h1,rfl⟩ e (nofun) h|@tup a l j=>cases(show u=Value.ref a from g);obtain⟨_,_,_,p⟩:=(show cZ X.prog X.w H s.heap a (.tup l)from I.hok a _ j);obtain⟨o,h1,h2,_⟩:=p;exact PySem.W.kia_one PySem.W.kitx_tuple I.kIn ⟨o,h1,h2⟩ e (nofun) h|@dK a k j=>cases(show u=Value.ref a from g);obtain⟨_,_,D,_,p⟩:=(show cZ X.prog X.w H s.heap a (.dK k)from I.hok a _ j);obtain⟨o,r,v,h1,h2,_⟩:=p;exact PySem.W.kia_one PySem.W.kitx_dict I.kIn ⟨o,h1,h2.1⟩ e (nofun) h|@dT a k j=>cases(show u=Value.ref a from g);obtain⟨_,_,l,_,o,r,v,h1,h2,_⟩:=(show cZ X.prog X.w H s.heap a (.dT k)from I.hok a _ j);exact PySem.W.kia_one PySem.W.kitx_dict I.kIn ⟨o,h1,h2.1⟩ e (nofun) h|@ins a C dx fs j cl B hn m hm=>cases(show u=Value.ref a from g);obtain⟨F,O,_⟩:=ul I.hok j;obtain⟨G,J,_⟩:=O.look;exact PySem.W.kia_one (PySem.W.kitx_own (cl.get _) cl.hd B hn m hm) I.kIn J e (nofun) h
end
end L2
namespace L2
open PySem PySem.Spec PyProof.Rows
structure eE(k:Nat)(A:Around):Prop where
 hd:A.handled=none
 dp:A.depth+3*k+5<recursionLimit
 un:A.units+16*k+200<cLine
def eE.mono{j k:Nat}{A:Around}(r:eE k A)(h:j<=k):eE j A:=⟨r.hd,by have:=r.dp;lia,by have:=r.un;lia⟩
theorem eE.deeper(r:eE (k+1) A)(env:Env):eE k (A.deeper env):=⟨r.hd,by have:=r.dp;show A.depth+1+3*k+5<_;lia,by have:=r.un;show A.units+3+16*k+200<_;lia⟩
def CB{A:Around}{C:Addr}{a:RQ}{b:List (Str×Value)}:(A.under (.builtin "type.__call__" ⟨.ref C::a,b⟩)).depth=A.depth+1:=by first|rfl|simp[Around.under,Code.weight,Code.isCreation,Code.isGuard,Code.isCaller,Code.frames,Code.isFrame,guardIds]
def CA{A:Around}{C:Addr}{a:RQ}{b:List (Str×Value)}:(A.under (.builtin "type.__call__" ⟨.ref C::a,b⟩)).units=A.units+1:=by first|rfl|simp[Around.under,Code.cUnits,Code.frames,Code.isFrame]
def eE.make(r:eE (k+1) A)(C:Addr)(a:RQ)(b:List (Str×Value)):eE k (A.under (.builtin "type.__call__" ⟨.ref C::a,b⟩)):=⟨r.hd,by have:=r.dp;rw[CB];lia,by have:=r.un;rw[CA];lia⟩
theorem eE.depth{k:Nat}{A:Around}(r:eE k A):A.depth<recursionLimit:=by have:=r.dp;lia
theorem eE.units{k:Nat}{A:Around}(r:eE k A):A.units+64<cLine:=by have:=r.un;lia
def NV:TA:=λ_ H Q=>Q [] H
def N2(b:TE)(tr:TA):TA:=λa H Q=>b a H λx c=>tr a c λd e=>Q (x::d) e
section
variable{X:Cx}{e:Expr}{c:RT}{te:TE}{t:TA}{a:Pos}
def ag:PA X [] NV:=λ_ _ _ _ H Q I h=>vr ⟨[],H,I,.nil,h⟩
def O(f:PE X e te)(g:PA X c t)(i:starEach (e::c) X.env=(false,eval e X.env)::starEach c X.env:=by rfl):PA X (e::c) (N2 te t):=by intro a b s d H Q I h;rw[i];show wpAny _ _ (spliced ((false,eval e X.env)::backTo a (starEach c X.env))) _ _ s;refine rV (cw (f b s d H _ I h) λu j⟨x,k,I1,l,m⟩=>?_);exact cw (g a b j d k _ I1 m) λr v⟨n,o,p,r2,q⟩=>⟨x::n,o,p,.cons l r2,q⟩
def Ph(t:TA):TE:=λf H Q=>t f H λb d=>b.length<=sizeLine/\∀p,d p=none->Q (.ref p) (aA d p (.tup b))
def Pk(t:TA):TE:=λf H Q=>t f H λb d=>b.length<=sizeLine/\∀p,d p=none->Q (.ref p) (aA d p (.lst b))
def bC{i}(h:PA X c t):PE X (.Tuple c i a) (Ph t):=by intro d s j H Q I k;refine wpAny_Tuple_spliced (cw (h a d s j H _ I k) λl f⟨m,g,I1,r,z,q⟩=>⟨by rw[<-r.length];exact z,?_⟩);have n:g f.heap.objs.size=none:=I1.hok.fresh (g_ _);refine⟨.ref f.heap.objs.size,aA g f.heap.objs.size (.tup m),I1.laid (t':=f.toks) (λb u e=>b_ _ e) (g_ _) ?_,rfl,q _ n⟩;exact⟨z,l,r,⟨_,h_ _ rfl,rfl,_,rfl⟩⟩
def bA(h:PA X c t):PE X (.List c a) (Pk t):=by intro d s i H Q I j;refine wpAny_List_spliced (cw (h a d s i H _ I j) λk f⟨l,g,I1,r,z,q⟩=>⟨by rw[<-r.length];exact z,?_⟩);have m:g f.heap.objs.size=none:=I1.hok.fresh (g_ _);refine⟨.ref f.heap.objs.size,aA g f.heap.objs.size (.lst l),I1.laid (t':=f.toks) (λb u e=>b_ _ e) (g_ _) ?_,rfl,q _ m⟩;exact⟨z,k,0,r,h_ _ rfl⟩
end
abbrev Sp:=List V->Hp->VK->XK->Prop
abbrev BZ:=List Env->Hp->Shared->XK->Value->Shared->Prop
structure Do(P:RR)(w:World)(K:RM)(mg:RP)(base:Heap)(A:Around)(outer:List Env)(s:Shared)(H:Hp):Prop where
 frames:A.frames=some outer
 mod:OV K mg base
 bs:∀b o,base.get? b=some o->s.heap.get? b=some o/\H b=none
 bsz:base.objs.size<=s.heap.objs.size
 funs:s.heap.FunFrames base outer
 frf:∀b∈kG outer,H b=none
 hok:mh P w H s.heap
 bare:AllBare s.gens
def CE(outer:List Env)(P:RR)(w:World)(H:Hp)(s:Shared)(Q:VK)(u:Value)(a:Shared):Prop:=∃v b,a.os=s.os/\AllBare a.gens/\Un (kG outer) [] H b s.heap a.heap/\mh P w b a.heap/\aZ v u/\Q v b
def CR(b:BZ)(outer:List Env)(P:RR)(w:World)(H:Hp)(s:Shared)(Q:VK)(E:XK)(r:Result)(a:Shared):Prop:=match r with|.ok (.ret u)=>CE outer P w H s Q u a|.ok _=>False|.error e=>b outer H s E e a
structure aS(P:RR)(w:World)(K:RM)(mg:RP)(base:Heap)(CX:BZ)(k:Nat)(f:Addr)(fd:FuncData)(ps:RS)(sp:Sp):Prop where
 len:∀vs H Q E,sp vs H Q E->vs.length=ps.length
 run:∀(A:Around)(outer:List Env)(s:Shared)(H:Hp)(args:Args)(us:RQ)(vs:List V)(Q:VK)(E:XK),eE k A->Do P w K mg base A outer s H->BindsTo s fd args (ps.zip us)->bd vs us->sp vs H Q E->codeAny (model P w) A (.call (.ref f) args) (CR CX outer P w H s Q E) s
theorem aS.mono{P:RR}{w:World}{K:RM}{mg:RP}{base:Heap}{b:BZ}{j k:Nat}{f:Addr}{fd:FuncData}{c:RS}{sp:Sp}(F:aS P w K mg base b j f fd c sp)(h:j<=k):aS P w K mg base b k f fd c sp:=⟨F.len,λA outer s H a d e Q E g=>F.run A outer s H a d e Q E (g.mono h)⟩
def Do.make{P:RR}{w:World}{K:RM}{mg:RP}{base:Heap}{A:Around}{outer:List Env}{s:Shared}{H:Hp}(e:Do P w K mg base A outer s H)(C:Addr)(a:RQ)(b:List (Str×Value)):Do P w K mg base (A.under (.builtin "type.__call__" ⟨.ref C::a,b⟩)) outer s H:=⟨by first|exact e.frames|(simpa[Around.under,Code.envs,Code.isFrame,pushEnvs]using e.frames),e.mod,e.bs,e.bsz,e.funs,e.frf,e.hok,e.bare⟩
section
variable{X:Cx}{a:RO}{e:St}{H:Hp}{s c:Shared}
def aM.env0(I:aM X a e H s):Do X.prog X.w X.K X.mg X.base X.A X.stack s H:=⟨I.ok.frames,I.ok.mod,I.bs,nh I.ok.bsz I.sz,I.stack,I.stkFree,I.hok,I.bare⟩
def aM.after(I:aM X a e H s)(h:CE X.stack X.prog X.w H s Q u c):EP X a e Q u c:=by obtain⟨v,i,os,bare,un,hok,r,q⟩:=h;obtain⟨hh,g,d,t,f⟩:=c;obtain rfl:f=s.os:=os;exact⟨v,i,I.call (h':=hh) (g':=g) (d':=d) (t':=t) (ch:=[]) un hok bare (λb z=>absurd z (by simp)),r,q⟩
end
def K8(sp:Sp)(a:List V)(E:XK)(t:TA):TE:=λb H Q=>t b H λc d=>sp (c++a) d Q E
def FY(C:Addr)(m:Str)(sp:Sp)(b:List V)(E:XK)(e:TE)(t:TA):TE:=λc H Q=>e c H λx d=>∃a dx fs,x=.ref a/\d a=some (.ins C dx fs)/\fs.lookup m=none/\t c d λf g=>sp (x::(f++b)) g Q E
def NW(C:Addr)(sp:Sp)(a:List V)(E:XK)(t:TA):TE:=λc H Q=>t c H λd b=>∀x dx,b x=none->b dx=none->dx≠x->sp (.ref x::(d++a)) (aA (aA b dx (.own x)) x (.ins C dx [])) (λv e=>v=.non/\Q (.ref x) e) E
def gx(K:RM)(fd:FuncData)(b:RS)(ds:RQ):Prop:=∀(s:Shared)(a:RQ),K.In s.heap->(a++ds).length=b.length->BindsTo s fd ⟨a,[]⟩ (b.zip (a++ds))
def gx.all{K:RM}{fd:FuncData}{b:RS}(h:∀a:List Value,a.length=b.length->bindArgs fd ⟨a,[]⟩=pure (b.zip a)):gx K fd b []:=λs a _ c=>by rw[v_]at c⊢;exact .of_eq (h a c)
def mT(c:BZ)(X:Cx)(E:XK):Prop:=∀(a:RO)(d:St)(H:Hp)(s:Shared)(e:Value)(b:Shared),aM X a d H s->c X.stack H s E e b->X.xe e b
section
variable{X:Cx}{n:BZ}{k:Nat}{f C:Addr}{fd:FuncData}{j:RS}{sp:Sp}{d:List V}{ds:RQ}{E:XK}{x m:Str}{p b g:Pos}{e o:Expr}{i:RT}{y:TE}{t:TA}
def Cf(F:aS X.prog X.w X.K X.mg X.base n k f fd j sp)(q:eE k X.A)(v:gx X.K fd j ds)(hd:bd d ds)(z:mT n X E)(I:aM X a l H s)(r:bd vs us)(h:sp (vs++d) H Q E):wpAny (model X.prog X.w) X.A (call (.ref f) us) (EP X a l Q) X.xe s:=by
 have r2:bd (vs++d) (us++ds):=r.append hd;have B:(us++ds).length=j.length:=by rw[<-r2.length];exact F.len _ _ _ _ h
 refine QS (so (F.run X.A X.stack s H ⟨us,[]⟩ (us++ds) (vs++d) Q E q I.env0 (v s us I.kIn B) r2 h) λr D c=>?_);cases r with|error e=>exact z a l H s e D I c|ok G=>cases G with|ret u=>exact I.after c|next=>exact False.elim c|brk=>exact False.elim c|cont=>exact False.elim c
def bS(F:aS X.prog X.w X.K X.mg X.base n k f fd j sp)(v:eE k X.A)(hg:Gl X x)(hm:X.mg x=some (.ref f))(z:PySem.W.keepIn X.K (.ref f)=true)(B:gx X.K fd j ds)(hd:bd d ds)(D:mT n X E)(G:PA X (e::i) t)(c:(x==("__debug__":Str))=false:=by decide)(J:starEach (e::i) X.env=(false,eval e X.env)::starEach i X.env:=by rfl)(l:(backTo b (starEach i X.env)).any (·.1)=false:=by rfl):PE X (.Call (.Name x p) (e::i) [] b) (K8 sp d E t):=by intro a s L H Q I h;refine t1 (nD I hg hm ?_ c);refine PySem.W.callWith_K (h₀:=X.base) I.ok.mod.kin z (cw (G b a s L H _ I h) λM N⟨O,P,I1,r,q⟩=>⟨I1.kIn,?_⟩) J l;exact Cf F v B hd D I1 r q
def bj(P:PE X o y)(c:z9 X.K C)(hm:IV X.K C m f)(F:aS X.prog X.w X.K X.mg X.base n k f fd j sp)(R:eE k X.A)(S:gx X.K fd j ds)(hd:bd d ds)(T:mT n X E)(Z:PA X (e::i) t)(z:starEach (e::i) X.env=(false,eval e X.env)::starEach i X.env:=by rfl)(B:(backTo b (starEach i X.env)).any (·.1)=false:=by rfl)(ht:eval (.Call (.Attribute o m g) (e::i) [] b) X.env=(do
   let D<-eval o X.env
   standAt g.atName let(f,first)<-holding [D] (getMethod D m pl)callWith b f first (backTo b (starEach (e::i) X.env)) (backToKw b (keywordEach [] X.env))):=by rfl):PE X (.Call (.Attribute o m g) (e::i) [] b) (FY C m sp d E y t):=by intro v s G H Q I h;refine PySem.W.methodCall_KW (pl:=pl) (cw (P v s G H _ I h) λu O⟨x,U,I1,Y,a,dx,fs,ex,ea,l,q⟩=>?_) ht;subst ex;obtain rfl:u=Value.ref a:=Y;refine o7 I1 ea c hm l ?_;refine PySem.W.callWith_K (first:=[.ref a]) (h₀:=X.base) I.ok.mod.kin hm.kp (cw (Z b v O G U _ I1 q) λL s2⟨M,H2,N,r,q2⟩=>⟨N.kIn,?_⟩) z B;exact Cf (us:=.ref a::L) (vs:=.ref a::M) F R S hd T N (.cons rfl r) q2
def AH(z:PE X o y)(c:z9 X.K C)(hm:IV X.K C m f)(F:aS X.prog X.w X.K X.mg X.base n k f fd j sp)(B:eE k X.A)(D:gx X.K fd j ds)(hd:bd d ds)(G:mT n X E)(J:eval (.Call (.Attribute o m g) [] [] b) X.env=(do
   let v<-eval o X.env
   standAt g.atName let(f,first)<-holding [v] (getMethod v m pl)callWith b f first (backTo b (starEach [] X.env)) (backToKw b (keywordEach [] X.env))):=by rfl):PE X (.Call (.Attribute o m g) [] [] b) (FY C m sp d E y NV):=by intro r s L H Q I h;refine PySem.W.methodCall_KW (pl:=pl) (cw (z r s L H _ I h) λu O⟨x,P,I1,M,a,dx,fs,ex,N,l,q⟩=>?_) J;subst ex;obtain rfl:u=Value.ref a:=M;refine o7 I1 N c hm l ?_;exact PySem.W.callWith_K0 (first:=[.ref a]) I1.kIn hm.kp (Cf (us:=[.ref a]) (vs:=[.ref a]) F B D hd G I1 (.cons rfl .nil) q)
structure Mk(K:RM)(C f:Addr):Prop where
 makes:PySem.W.makesIn K C=true
 init:PySem.W.findIn K (.ref C) "__init__"=some (some (.ref f))fn:PySem.W.isFn K (.ref f)=true
 kp:PySem.W.keepIn K (.ref C)=true
def GD(M:Mk X.K C f)(F:aS X.prog X.w X.K X.mg X.base n k f fd j sp)(G:eE (k+1) X.A)(J:gx X.K fd j ds)(hd:bd d ds)(L:mT n X E)(I:aM X c z H s)(r:bd B l)(h:∀x dx,H x=none->H dx=none->dx≠x->sp (.ref x::(B++d)) (aA (aA H dx (.own x)) x (.ins C dx [])) (λv N=>v=.non/\Q (.ref x) N) E):wpAny (model X.prog X.w) X.A (call (.ref C) l) (EP X c z Q) X.xe s:=by
 have D:=h (s.heap.objs.size+1) s.heap.objs.size (I.hok.fresh (qc _)) (I.hok.fresh (g_ _)) (lm (rm _));have q:=aM.made (C:=C) I;have r2:bd (V.ref (s.heap.objs.size+1)::(B++d)) (Value.ref (s.heap.objs.size+1)::(l++ds)):=.cons rfl (r.append hd);have O:(Value.ref (s.heap.objs.size+1)::l++ds).length=j.length:=by have e:=r2.length;rw[F.len _ _ _ _ D]at e;exact e.symm
 refine QS (Hf (f:=f) I.kIn M.makes M.init (beq_iff_eq.mp M.fn) (so (F.run _ X.stack _ _ ⟨Value.ref (s.heap.objs.size+1)::l,[]⟩ (Value.ref (s.heap.objs.size+1)::(l++ds)) _ _ E (G.make C l []) (q.env0.make C l []) (J _ (Value.ref (s.heap.objs.size+1)::l) q.kIn O) r2 D) λr P a=>?_))
 cases r with|error e=>exact L c z _ _ e P q a|ok R=>cases R with|ret u=>obtain⟨v,S,T,U,W,Y⟩:=q.after a;subst W;exact⟨U,⟨V.ref (s.heap.objs.size+1),S,T,rfl,Y⟩⟩|next=>exact False.elim a|brk=>exact False.elim a|cont=>exact False.elim a
def uj(M:Mk X.K C f)(F:aS X.prog X.w X.K X.mg X.base n k f fd j sp)(v:eE (k+1) X.A)(hg:Gl X x)(hm:X.mg x=some (.ref C))(z:gx X.K fd j ds)(hd:bd d ds)(B:mT n X E)(D:PA X (e::i) t)(c:(x==("__debug__":Str))=false:=by decide)(G:starEach (e::i) X.env=(false,eval e X.env)::starEach i X.env:=by rfl)(l:(backTo b (starEach i X.env)).any (·.1)=false:=by rfl):PE X (.Call (.Name x p) (e::i) [] b) (NW C sp d E t):=by intro a s J H Q I h;refine t1 (nD I hg hm ?_ c);refine PySem.W.callWith_K (h₀:=X.base) I.ok.mod.kin M.kp (cw (D b a s J H _ I h) λL N⟨O,P,I1,r,q⟩=>⟨I1.kIn,?_⟩) G l;exact GD M F v z hd B I1 r q
end
section
variable{X:Cx}{h:BZ}{k:Nat}{f C:Addr}{fd:FuncData}{q l:RS}{sp:Sp}{E:XK}{x m:Str}{p c b a:Pos}{e o:Expr}{n:RT}{d:List Keyword}{te j:TE}{t tk:TA}{nm:Option Str}
variable{g:List Value->List Value->List Value}{i:List V->List V->List V}
end
structure ay(N P:RS)(sc:Scope):Prop where
 kind:sc.kind=.function
 co:sc.isCoroutine=false
 gen:sc.isGenerator=false
 nd:N.Nodup
 pre:N.take P.length=P
 par:∀x∈P,sc.names.lookup x=some .local\/sc.names.lookup x=some .cell
 nofree:∀y∈sc.names,y.2≠.free
theorem yp{kindOf:Str->Option NameKind}{x:Str}:∀{binds:List (Str×Value)}{m:RP},(∀v,(x,v)∉binds)->bindL kindOf binds m x=m x
 |[],_,_=>rfl|(n,v)::r,m,h=>by
  unfold bindL;rw[yp λw a=>h w (i_ _ a)]
  split
  ·have:x≠n:=by rintro rfl;exact h v kw
   simp[this]
  ·rfl
theorem yr{kindOf:Str->Option NameKind}{x:Str}:∀{binds:List (Str×Value)}{m:RP},(∀v,(x,v)∉binds)->bindC kindOf binds m x=m x
 |[],_,_=>rfl|(n,v)::r,m,h=>by
  unfold bindC;rw[yr λw a=>h w (i_ _ a)]
  split
  ·rfl
  ·have:x≠n:=by rintro rfl;exact h v kw
   simp[this]
theorem yq{kindOf:Str->Option NameKind}{x:Str}{v:Value}:∀{P:RS}{a:RQ}{i:Nat}{m:RP},P.Nodup->P[i]?=some x->a[i]?=some v->kindOf x=some .local->bindL kindOf (P.zip a) m x=some v|[],_,_,_,_,h,_,_=>by simp at h|_::_,[],_,_,_,_,h,_=>by simp at h|p::P,w::a,0,m,nd,h1,h2,b=>by simp at h1 h2;subst h1;subst h2;show bindL kindOf ((p,w)::P.zip a) m p=_;unfold bindL;rw[yp λv c=>(Q3.mp nd).1 (Qo c).1,ku b];simp|p::P,w::a,i+1,m,nd,h1,h2,b=>by show bindL kindOf ((p,w)::P.zip a) m x=_;unfold bindL;exact yq (i:=i) (Q3.mp nd).2 (by simpa using h1) (by simpa using h2) b
theorem yt{kindOf:Str->Option NameKind}{x:Str}{v:Value}:∀{P:RS}{a:RQ}{i:Nat}{m:RP},P.Nodup->P[i]?=some x->a[i]?=some v->kindOf x≠some .local->bindC kindOf (P.zip a) m x=some v|[],_,_,_,_,h,_,_=>by simp at h|_::_,[],_,_,_,_,h,_=>by simp at h|p::P,w::a,0,m,nd,h1,h2,b=>by simp at h1 h2;subst h1;subst h2;show bindC kindOf ((p,w)::P.zip a) m p=_;unfold bindC;rw[yr λv c=>(Q3.mp nd).1 (Qo c).1,j2 b];simp|p::P,w::a,i+1,m,nd,h1,h2,b=>by show bindC kindOf ((p,w)::P.zip a) m x=_;unfold bindC;exact yt (i:=i) (Q3.mp nd).2 (by simpa using h1) (by simpa using h2) b
def jh(N:RS)(a:List V):St:=a.map some++List.replicate (N.length-a.length) none
def sk(c:BZ)(P:RR)(w:World)(K:RM)(mg:RP)(base:Heap)(N:RS)(a:Str)(scope:Scope)(f:Addr)(cd:Value)(A:Around)(outer:List Env)(s:Shared)(H:Hp)(E:XK):Cx where
 prog:=P
 w:=w
 K:=K
 mg:=mg
 base:=base
 A:=A.deeper (envOfC a scope s.heap.objs.size f cd)
 N:=N
 s₀:=s
 H₀:=H
 env:=envOfC a scope s.heap.objs.size f cd
 outer:=outer
 stack:=envOfC a scope s.heap.objs.size f cd::outer
 ex:=[]
 calm:=true
 fn:=λ_=>true
 pn:=[]
 xe:=λe d=>wpAny (model P w) (A.deeper (envOfC a scope s.heap.objs.size f cd)) (leaving (envOfC a scope s.heap.objs.size f cd) e) (λ_ b=>c outer H s E e b) (λg b=>c outer H s E g b) d
def BD{a:Scope}{n:Nat}{x:Str}(h:a.names.lookup x=some .cell):∃c,(cellsFrom n a.names []).lookup x=some c:=by have q:=PySem.W.cellsFrom_some a.names n [] (.inl h);exact z4.mp q
def EZ{D:BZ}{P:RR}{w:World}{K:RM}{mg:RP}{base:Heap}{N j:RS}{d:Str}{scope:Scope}{f:Addr}{cd:Value}{A:Around}{outer:List Env}{s F:Shared}{H:Hp}{E:XK}{C:RQ}{l:List V}(S:ay N j scope)(hd:A.handled=none)(g:Do P w K mg base A outer s H)(Q:l.length=j.length)(r:bd l C)(x:InCallC s s.heap.objs.size (bindL (envOfC d scope s.heap.objs.size f cd).kindOf (j.zip C) λ_=>none) (cellsFrom (s.heap.objs.size+1) scope.names []) (bindC (envOfC d scope s.heap.objs.size f cd).kindOf (j.zip C) λ_=>none) F):aM (sk D P w K mg base N d scope f cd A outer s H E) [] (jh N l) H F:=by
 have J:j.length<=N.length:=by have:=rb List.length S.pre;rw[m3]at this;lia
 obtain⟨h1,tk,rfl,G⟩:=x.done;have m:∀b:Addr,b∉(sk D P w K mg base N d scope f cd A outer s H E).ex:=λb z=>absurd (show b∈([]:RW)from z) (by simp);refine⟨⟨g.mod,S.kind,rfl,rfl,g_ _,λy z c h1 h2=>?_,λy o=>?_,λy c _ h=>?_,λ_=>hd,Around.frames_deeper g.frames,.inr ⟨rfl,rfl⟩,λb z=>absurd z (m b),g.bs,g.bsz,λb _ _=>m b,λb z=>absurd z (m b),g.funs,g.frf⟩,rfl,g.bare,Un.kept G,⟨_,x.toInCall.ns,λi y v h1 h2 h3=>?_⟩,λy c h=>⟨_,x.cell y c h⟩,g.hok.fresh (g_ _),λy c h=>?_,λp t=>absurd (show p∈([]:RO)from t) (by simp),g.hok.kept G,?_⟩
 ·exact name_of_addr x.apart (PySem.mem_of_lookup h1) (PySem.mem_of_lookup h2)
 ·have o:scope.names.lookup y=some .cell\/scope.names.lookup y=some .free:=o;rcases o with o|o
  ·exact BD o
  ·exact absurd rfl (S.nofree _ (PySem.mem_of_lookup o))
 ·exact sm (x.above y c (PySem.mem_of_lookup h))
 ·have hi:i<l.length:=by
   unfold jh at h2
   by_cases hi:i<l.length
   ·exact hi
   ·rw[y_ (by simpa using hi)]at h2;rw[List.getElem?_replicate]at h2
    split at h2<;>cases h2
  have L:l[i]?=some v:=by unfold jh at h2;rw[r_ (by simpa using hi),ir]at h2;cases e:l[i]?with|none=>rw[e]at h2;cases h2|some a=>rw[e]at h2;cases h2;rfl
  obtain⟨u,I,M⟩:=r.get L;have t:j[i]?=some y:=by rw[<-S.pre,QF (by lia)];exact h1
  have B:j.Nodup:=by rw[<-S.pre];exact S.nd.sublist (QB _ _)
  refine⟨u,M,?_⟩;rcases S.par y (il t)with k|k
  ·exact .inl ⟨k,yq B t I k⟩
  ·obtain⟨c,e⟩:=BD (n:=s.heap.objs.size+1) k;refine .inr ⟨.inl k,c,e,?_⟩;have q:=x.cell y c e;rw[yt B t I (by show scope.names.lookup y≠_;rw[k];decide)]at q;exact q
 ·exact g.hok.fresh (sm (x.above y c (PySem.mem_of_lookup h)))
 ·unfold jh;show _=N.length;rw[iA,c_,zz];lia
def Lh{F:BZ}{P:RR}{w:World}{K:RM}{mg:RP}{base:Heap}{k:Nat}{f:Addr}{j a:Str}{d:Arguments}{g:List Stmt}{scope:Scope}{X kV B pm c ct oc:Value}{Z od:Option Addr}{L:Array (Option Value)}{N G:RS}{sp:Sp}(lk:K.lookup f=some ⟨oc,od,.func (PySem.W.fnOf j a d g scope X kV B pm Z c ct),L⟩)(M:PySem.W.codeIn K c a=true)(S:ay N G scope)(len:∀h H Q E,sp h H Q E->h.length=G.length)(p:∀(A:Around)(outer:List Env)(s:Shared)(H:Hp)(h:List V)(Q:VK)(E:XK),eE k (A.deeper (envOfC a scope s.heap.objs.size f c))->sp h H Q E->∃t,xC (sk F P w K mg base N a scope f c A outer s H E) g t/\t {nx:=λ_ l=>Q .non l,rt:=Q} (jh N h) H):aS P w K mg base F (k+1) f (PySem.W.fnOf j a d g scope X kV B pm Z c ct) G sp:=by
 refine⟨len,λA outer s H Y us h Q E O C hb r D=>?_⟩;have hl:=len _ _ _ _ D;have KX:K.In s.heap:=C.mod.kin.keeps λb o e=>(C.bs b o e).1;have R:s.heap.NoLimit:=C.mod.nolimit.keeps λb o e=>(C.bs b o e).1;have m:∀y∈G.zip us,scope.names.lookup y.1=some .local\/(scope.names.lookup y.1=some .cell/\((cellsFrom (s.heap.objs.size+1) scope.names []).lookup y.1).isSome=true):=λ⟨n,v⟩hy=>by
  rcases S.par n (Qo hy).1 with q|q
  ·exact .inl q
  ·exact .inr ⟨q,PySem.W.cellsFrom_some _ _ _ (.inl q)⟩
 refine codeAny_call_function O.depth (KX _ _ lk) rfl S.co S.gen rfl (PySem.W.codeRec_of KX M) (hb _ _ _ _ ?_);refine wpAny_newFunctionEnv_cells S.kind m λenv he s1 x=>?_;subst he;refine⟨R.keeps x.toInCall.keep,codeAny_func ?_⟩;obtain⟨t,ht,hq⟩:=p A outer s H h Q E (O.deeper _) D;have I:aM (sk F P w K mg base N a scope f c A outer s H E) [] (jh N h) H s1:=EZ S O.hd C hl r x;refine wpAny_mono (ht [] s1 (jh N h) H _ I hq) (λfl T z=>?_) λe T z=>z;have fin:∀{i:St}{l:Hp}{v:V}{u:Value},aM (sk F P w K mg base N a scope f c A outer s H E) [] i l T->aZ v u->Q v l->CE outer P w H s Q u T:=λ{i l v u}J U q=>⟨v,l,J.os,J.bare,J.base,J.hok,U,q⟩
 cases fl with|ret u=>obtain⟨v,i,l,J,U,q⟩:=z;exact fin J U q|next=>obtain⟨i,l,J,q⟩:=z;exact fin (v:=V.non) (u:=Value.none) J rfl q|brk=>obtain⟨_,_,_,q⟩:=z;exact False.elim q|cont=>obtain⟨_,_,_,q⟩:=z;exact False.elim q
end L2
namespace L2
open PySem PySem.Spec PyProof.Rows
section
variable{X:Cx}{x:Str}{p a:Pos}{e:Expr}{b:RT}{t:TA}{id T:String}{r:List V->Hp->VK->Prop}
def tCB(r:List V->Hp->VK->Prop)(t:TA):TE:=λc H Q=>t c H λd f=>r d f Q
def ax(hc:cO X (.builtin id) r)(hg:Gl X x)(hm:X.mg x=none)(i:bootBuiltins x=some (.builtin id))(j:PA X (e::b) t)(hn:x≠"__name__":=by decide)(d:(x==("__debug__":Str))=false:=by decide)(l:starEach (e::b) X.env=(false,eval e X.env)::starEach b X.env:=by rfl)(f:(backTo a (starEach b X.env)).any (·.1)=false:=by rfl):PE X (.Call (.Name x p) (e::b) [] a) (tCB r t):=by intro c s g H Q I h;refine t1 (lV I hg hm i ?_ hn d);exact PyProof.Rows.callWith_builtin1 (cw (j a c s g H _ I h) λk m⟨n,o,I1,q,u⟩=>hc c m g o n k Q I1 q u) l f
def c6(hc:cO X (.type T) r)(hg:Gl X x)(hm:X.mg x=none)(i:bootBuiltins x=some (.type T))(j:PA X (e::b) t)(hn:x≠"__name__":=by decide)(d:(x==("__debug__":Str))=false:=by decide)(l:starEach (e::b) X.env=(false,eval e X.env)::starEach b X.env:=by rfl)(f:(backTo a (starEach b X.env)).any (·.1)=false:=by rfl):PE X (.Call (.Name x p) (e::b) [] a) (tCB r t):=by intro c s g H Q I h;refine t1 (lV I hg hm i ?_ hn d);exact wr (cw (j a c s g H _ I h) λk m⟨n,o,I1,q,u⟩=>hc c m g o n k Q I1 q u) l f
end
end L2
namespace HT
open PySem PyProof.Rows
section
open PySem.SeqAt
open PySem.AutoSeq1(wpAny_loadPart')
open PySem.MeetsSeq PySem.MeetsSeq2 PySem.MeetsSeq3
end
section
variable{prog:RR}{w:World}{A:Around}{E:RN}{s:Shared}
def KN(p:IsTup s.heap t d.toArray)(q:IsTup s.heap b a.toArray)(o:d≠[])(h1:a=[]->Q (.ref t) s)(h2:a≠[]->Q (.ref s.heap.objs.size) {s with heap:=s.heap.push {cls:=.type "tuple",data:=.seq (d++a).toArray}})(l:d.length+a.length<=sizeLine):wpAny (model prog w) A (binaryOp .Add (.ref t) (.ref b)) Q E s:=by
 obtain⟨⟨cls,dd,data,sl⟩,j,hc,n,hd⟩:=id p;obtain⟨⟨m,f,data2,g⟩,c,h,n2,i⟩:=id q;simp only at hc hd h i;subst hc hd h i;have e:d.toArray++a.toArray=(d++a).toArray:=by simp
 by_cases k:a=[]
 ·exact concat_meets ⟨_,j,rfl⟩ ⟨_,c,rfl⟩ noFill_tuple_add seq_tuple_add PySem.F.slot_tuple_add PySem.F.entry_tuple_add (PySem.F.args_tuple_add_2 _ _) (tuple_addW1 t b d.toArray a.toArray n n2 dd f sl g (by simpa using o) (by simp[k])) ⟨j,c,h1 k⟩
 ·refine concat_meets ⟨_,j,rfl⟩ ⟨_,c,rfl⟩ noFill_tuple_add seq_tuple_add PySem.F.slot_tuple_add PySem.F.entry_tuple_add (PySem.F.args_tuple_add_2 _ _) (tuple_addW2 t b d.toArray a.toArray n n2 dd f sl g (by simpa using o) (by simpa using k) (by rw[lh,lh];exact l)) ⟨j,c,?_⟩
  rw[e];exact h2 k
def iy(n d:Nat):Option Int->Nat|none=>d|some v=>if v<0 then(v+(n:Int)).toNat else min v.toNat n
def GC(n d:Nat):iy n d none=d:=rfl
def Ma(n d:Nat)(hd:d<=n)(o:Option Int):iy n d o<=n:=by cases o with|none=>exact hd|some v=>
  show(if v<0 then(v+(n:Int)).toNat else min v.toNat n)<=n
  by_cases a:v<0
  ·rw[ku a];lia
  ·rw[j2 a];exact Nat.min_le_right _ _
def DU(v:Int)(n d:Nat):(if v<0 then max (v+(n:Int)) 0 else min v (n:Int))=((iy n d (some v):Nat):Int):=by
 show(if v<0 then max (v+(n:Int)) 0 else min v (n:Int))=(((if v<0 then(v+(n:Int)).toNat else min v.toNat n):Nat):Int)
 by_cases a:v<0
 ·simp only[ku a];lia
 ·simp only[j2 a];lia
def Dk(lo hi:Option Int)(n:Nat):Builtin.Slice.sliceAdjust lo hi 1 (n:Int)=(((iy n 0 lo:Nat):Int),((iy n n hi:Nat):Int)):=by
 have h1:¬((1:Int)<0):=by lia
 unfold Builtin.Slice.sliceAdjust;simp only[h1,QM];refine Prod.ext ?_ ?_
 ·cases lo with|none=>rfl|some v=>exact DU v n 0
 ·cases hi with|none=>rfl|some v=>exact DU v n n
def Ck(i j:Nat):Builtin.Slice.slicePlaces (i:Int) (j:Int) 1=j-i:=by
 unfold Builtin.Slice.slicePlaces;have h1:(1:Int)>0:=by lia
 simp only[h1,Rf,Int.ediv_one]
 split<;>lia
def uI(p:IsPart v o)(h:Q o s):wpAny (model prog w) A (Builtin.Slice.slicePartIndex v) Q E s:=by cases p with|none=>exact slicePart_none h|int i t=>exact slicePart_int h
def qO{sl:Addr}{c d:Value}{lo hi:Option Int}{n:Nat}{Q:Int×Int×Nat->Shared->Prop}(e:s.heap.IsSliceOf sl c d .none)(pl:IsPart c lo)(f:IsPart d hi)(h:Q (((iy n 0 lo:Nat):Int),1,iy n n hi-iy n 0 lo) s):wpAny (model prog w) A (Builtin.Slice.sliceApplied (.ref sl) (pure (n:Int))) Q E s:=by obtain⟨os,a,g,b⟩:=id e;unfold Builtin.Slice.sliceApplied Builtin.Slice.sliceFields;refine a_ (a_ (ri a b (x:=c) rfl (a_ (ri a b (x:=d) rfl (a_ (ri a b (x:=.none) rfl (e_ ?_)))))));refine a_ (slicePart_none ?_);show wpAny _ _ (if((1:Int)==0)=true then _ else _) _ _ s;rw[j2 (by decide)];refine a_ (uI pl (a_ (uI f (a_ (e_ ?_)))));show wpAny _ _ (match Builtin.Slice.sliceAdjust lo hi 1 (n:Int)with|(lo,hi)=>pure (lo,(1:Int),Builtin.Slice.slicePlaces lo hi 1)) _ _ s;rw[Dk lo hi n];show wpAny _ _ (pure (((iy n 0 lo:Nat):Int),(1:Int),Builtin.Slice.slicePlaces ((iy n 0 lo:Nat):Int) ((iy n n hi:Nat):Int) 1)) _ _ s;rw[Ck];exact e_ h
def GM(a:RU)(i k:Nat):((List.range k).filterMap λ(m:Nat)=>a[((i:Int)+(m:Int)*1).toNat]?).toArray=((a.toList.drop i).take k).toArray:=by
 have e:(λ(m:Nat)=>a[((i:Int)+(m:Int)*1).toNat]?)=λm=>a[i+m]?:=by
  funext m
  have:((i:Int)+(m:Int)*1).toNat=i+m:=by lia
  rw[this]
 rw[e];have:=pick_run a i k;rw[List.filterMap_map]at this;have b:((λx=>a[x]?)∘λx=>i+x)=λm=>a[i+m]?:=rfl;rw[b]at this;rw[this]
def qh{t sl:Addr}{a:RU}{i j:Value}{lo hi:Option Int}{Q:RN}(c:IsTup s.heap t a)(l:s.heap.IsSliceOf sl i j .none)(pl:IsPart i lo)(n:IsPart j hi)(o:¬(iy a.size 0 lo=0/\iy a.size a.size hi=a.size))(h:Q (.ref s.heap.objs.size) {s with heap:=s.heap.push {cls:=.type "tuple",data:=.seq ((a.toList.drop (iy a.size 0 lo)).take (iy a.size a.size hi-iy a.size 0 lo)).toArray}})(p:a.size<=sizeLine):wpAny (model prog w) A (getItem (.ref t) (.ref sl)) Q E s:=by
 have b:sizeOk (.seq ((a.toList.drop (iy a.size 0 lo)).take (iy a.size a.size hi-iy a.size 0 lo)).toArray):=by show((a.toList.drop (iy a.size 0 lo)).take (iy a.size a.size hi-iy a.size 0 lo)).toArray.size<=sizeLine;rw[lh,m3,C1,nk];lia
 have u:iy a.size a.size hi<=a.size:=Ma _ _ (g_ _) hi;obtain⟨os,d,e,r⟩:=id l;have f:s.TypeIs (.ref sl) "slice":=⟨os,d,e⟩;unfold getItem
 try with_reducible refine pu ?_
 first|refine a_ (e_ ?_)|skip
 refine a_ (wpAny_sequenceKey c.typeIs (by decide) ?_);refine a_ (pw (name:=Str.ofString "__getitem__") c.typeIs Rw (pv Rw c.typeIs entry_tuple_getitem ?_ (args_tuple_getitem _ _)))
 show wpAny _ _ (Builtin.Tuple.tupleItemsOf (.ref t)>>=_) _ _ s;refine a_ (tupleItemsOf_ c ?_);refine a_ (Rm f ?_);rw[ku (by decide)];refine a_ (qO l pl n ?_);have g:¬((((iy a.size 0 lo:Nat):Int)==0&&(1:Int)==1&&(iy a.size a.size hi-iy a.size 0 lo)==a.size)=true):=by intro q;rw[oi,oi]at q;have v:((iy a.size 0 lo:Nat):Int)=0:=eq_of_beq q.1.1;have x:iy a.size a.size hi-iy a.size 0 lo=a.size:=eq_of_beq q.2;exact o ⟨by lia,by lia⟩
 show wpAny _ _ (if(((iy a.size 0 lo:Nat):Int)==0&&(1:Int)==1&&(iy a.size a.size hi-iy a.size 0 lo)==a.size)=true then _ else _) _ _ s;rw[j2 g,GM]
 first|exact a_ (m:=Builtin.Tuple.tupleExact _) (p_ (e_ ⟨_,rfl,e_ h⟩) b)|exact a_ (m:=Builtin.Tuple.tupleExact _) (p_ (a_ (e_ (e_ ⟨_,rfl,e_ h⟩))) b)|exact a_ (a_ (m:=Builtin.Tuple.tupleExact _) (p_ (e_ (e_ ⟨_,rfl,e_ h⟩)) b))|exact a_ (a_ (m:=Builtin.Tuple.tupleExact _) (p_ (e_ ⟨_,rfl,e_ h⟩) b))
end
end HT
namespace L2
open PySem PySem.Spec PyProof.Rows
abbrev TO:=St->Hp->(Option Int->Hp->Prop)->Prop
def PO(X:Cx)(e:Option Expr)(t:TO):Prop:=∀(a:RO)(s:Shared)(b:St)(H:Hp)(Q:Option Int->Hp->Prop),aM X a b H s->t b H Q->wpAny (model X.prog X.w) X.A (evalPart e X.env) (λu d=>∃o c,aM X a b c d/\IsPart u o/\Q o c) X.xe s
def Jg:TO:=λ_ H Q=>Q none H
def NT(t:TE):TO:=λa H Q=>t a H λx b=>∃i,x=.int i/\Q (some i) b
def CY:∀{a:RQ},bd (ns.map V.int) a->IntsAre a ns:=by induction ns with|nil=>intro a r;rw[List.map_nil]at r;cases r;exact .nil|cons n ns b=>intro a r;rw[no]at r;cases r with|cons c r2=>obtain⟨t,e⟩:=c;subst e;exact .cons n t (b r2)
section
variable{X:Cx}{e:Expr}{te:TE}{lo hi:Option Expr}{d c:TO}{f p2:Pos}
def i7:PO X none Jg:=by intro a s b H Q I h;rw[evalPart_none];exact e_ ⟨none,H,I,.none,h⟩
def i6(h:PE X e te):PO X (some e) (NT te):=by intro a s b H Q I g;rw[evalPart_some];refine cw (h a s b H _ I g) λu m⟨x,j,I1,k,l⟩=>?_;obtain⟨i,rfl,q⟩:=l;obtain⟨t,rfl⟩:=k;exact⟨some i,j,I1,.int i t,q⟩
def NB(X:Cx)(r:V->Option Int->Option Int->Hp->VK->Prop):Prop:=∀(a:RO)(s:Shared)(b:St)(H:Hp)(x:V)(v g h:Value)(lo hi:Option Int)(sl:Addr)(Q:VK),aM X a b H s->aZ x v->s.heap.IsSliceOf sl g h .none->IsPart g lo->IsPart h hi->r x lo hi H Q->∃T id,typeLookup (.type T) "__getitem__"=pure (some (.builtin id))/\s.TypeIs v T/\wpAny (model X.prog X.w) X.A (getItem v (.ref sl)) (EP X a b Q) X.xe s
def tSl(r:V->Option Int->Option Int->Hp->VK->Prop)(te:TE)(d c:TO):TE:=λa H Q=>te a H λx b=>d a b λl g=>c a g λu h=>r x l u h Q
def gc(n:NB X r)(o:PE X e te)(p:PO X lo d)(t:PO X hi c):PE X (.Subscript e (.Slice lo hi none p2) f) (tSl r te d c):=by intro a s i H Q I h;refine Subscript_ (cw (o a s i H _ I h) λv y⟨x,z,I1,B,C⟩=>?_);refine wpAny_Slice (cw (p a y i z _ I1 C) λj D⟨l,E,F,pl,G⟩=>cw (t a D i E _ F G) λk g⟨u,m,J,K,L⟩=>?_);rw[evalPart_none];refine e_ ?_;have M:aM X a i m {g with heap:=g.heap.push {cls:=.type "slice",data:=.fields #[j,k,.none]}}:=J.kept (t':=g.toks) λb ob q=>b_ _ q;obtain⟨T,id,N,O,hg⟩:=n a {g with heap:=g.heap.push {cls:=.type "slice",data:=.fields #[j,k,.none]}} i m x v j k l u g.heap.objs.size Q M B (Heap.IsSliceOf.new ..) pl K L;show wpAny (model X.prog X.w) X.A (subscriptTail e (.Slice lo hi none p2) v (.ref g.heap.objs.size)) (EP X a i Q) X.xe {g with heap:=g.heap.push {cls:=.type "slice",data:=.fields #[j,k,.none]}};exact tail_any (ops:=[.ref g.heap.objs.size,v]) O N hg (by with_unfolding_all rfl)
def xr(a:List V)(lo hi:Option Int):List V:=(a.drop (HT.iy a.length 0 lo)).take (HT.iy a.length a.length hi-HT.iy a.length 0 lo)
def tf(a:List V)(lo hi:Option Int):(xr a lo hi).length<=a.length:=by unfold xr;rw[m3,C1];lia
def Ob(K:RM):V->Option Int->Option Int->Hp->VK->Prop:=λx lo hi H Q=>∃a b,x=.ref a/\aU K H a b/\¬(HT.iy b.length 0 lo=0/\HT.iy b.length b.length hi=b.length)/\∀p,H p=none->Q (.ref p) (aA H p (.tup (xr b lo hi)))
def L6:NB X (Ob X.K):=by
 intro k s y H x v z A lo hi sl Q I n p pl t h;obtain⟨a,i,rfl,u,w,q⟩:=h;cases n;obtain⟨j,r,l,m⟩:=I.tuple u;have g:j.toArray.size=i.length:=by rw[lh];exact r.length.symm
 refine⟨"tuple",_,PyProof.Rows.slot_tuple_getitem.lookup,l.typeIs,?_⟩;refine HT.qh l p pl t (by rw[g];exact w) ?_ (by rw[g];exact m);rw[g];refine⟨.ref s.heap.objs.size,_,I.laid (t':=s.toks) (o:=.tup (xr i lo hi)) (λb ob q=>b_ _ q) (g_ _) ?_,rfl,q _ (I.hok.fresh (g_ _))⟩;exact⟨nh (tf i lo hi) m,_,(r.drop (HT.iy i.length 0 lo)).take (HT.iy i.length i.length hi-HT.iy i.length 0 lo),IsTup.new _ _⟩
def Lb(K:RM):R2:=λx y H Q=>∃a b h g,x=.ref a/\y=.ref b/\aU K H a h/\aU K H b g/\h≠[]/\h.length+g.length<=sizeLine/\(g=[]->Q (.ref a) H)/\(g≠[]->∀p,H p=none->Q (.ref p) (aA H p (.tup (h++g))))
def bd.nil_iff(r:bd a b):b=[]↔a=[]:=by cases r with|nil=>simp|cons _ _=>simp
def J5:lr X (binaryOp .Add) (Lb X.K):=by intro i s E H x y v u Q I l m h;obtain⟨a,b,n,p,rfl,rfl,r,t,A,j,B,C⟩:=h;cases l;cases m;obtain⟨D,g,p1,_⟩:=I.tuple r;obtain⟨k,r2,p2,_⟩:=I.tuple t;refine HT.KN p1 p2 (λz=>A (g.nil_iff.mp z)) (λz=>⟨.ref a,H,I,rfl,B (r2.nil_iff.mp z)⟩) (λz=>?_) (by rw[<-g.length,<-r2.length];exact j);refine⟨.ref s.heap.objs.size,_,I.laid (t':=s.toks) (o:=.tup (n++p)) (λb ob q=>b_ _ q) (g_ _) ?_,rfl,C (λw=>z (r2.nil_iff.mpr w)) _ (I.hok.fresh (g_ _))⟩;exact⟨by rw[iA];exact j,_,g.append r2,IsTup.new _ _⟩
end
end L2
namespace L2
open PySem PySem.Spec PyProof.Rows
def Ky(n:Nat)(i:Int):Option Nat:=if 0<=i then(if i<n then some i.toNat else none)else if-(n:Int)<=i then some (i+n).toNat else none
def xy{a:Type}(b:List a)(i:Int):Option a:=(Ky b.length i).bind λj=>b[j]?
def DM(h:Ky n i=some j):seqIndex? i n=some j/\j<n/\-(n:Int)<=i/\i<n:=by
 unfold Ky at h
 by_cases h0:0<=i
 ·rw[ku h0]at h
  by_cases h1:i<n
  ·rw[ku h1]at h;have e:i.toNat=j:=k_ h;exact⟨by rw[seqIndex_of h0 h1,e],by lia,by lia,h1⟩
  ·rw[j2 h1]at h;cases h
 ·rw[j2 h0]at h
  by_cases h1:-(n:Int)<=i
  ·rw[ku h1]at h;have e:(i+n).toNat=j:=k_ h;exact⟨by rw[seqIndex_neg (by lia) h1,e],by lia,h1,by lia⟩
  ·rw[j2 h1]at h;cases h
def zT(h:xy a i=some v):∃j,seqIndex? i a.length=some j/\a[j]?=some v/\j<a.length/\-(a.length:Int)<=i/\i<a.length:=by unfold xy at h;cases e:Ky a.length i with|none=>rw[e]at h;cases h|some j=>rw[e]at h;obtain⟨h1,h2,h3,h4⟩:=DM e;exact⟨j,h1,h,h2,h3,h4⟩
def zX(b:Expr):Prop:=∀o i,subscripted b false o i=operate [o,i] (getItem o i)
def ND(X:Cx)(r:R2):Prop:=∀(c a:Expr)(b:RO)(s:Shared)(d:St)(H:Hp)(x y:V)(v u:Value)(Q:VK),aM X b d H s->aZ x v->aZ y u->r x y H Q->subscripted a false v u=operate [v,u] (getItem v u)->wpAny (model X.prog X.w) X.A (subscriptTail c a v u) (EP X b d Q) X.xe s
def PU(X:Cx)(id:String)(r:V->List V->Hp->VK->Prop):Prop:=∀(a:RO)(s:Shared)(b:St)(H:Hp)(x:V)(c:List V)(v:Value)(d:RQ)(Q:VK),aM X a b H s->aZ x v->bd c d->r x c H Q->wpAny (model X.prog X.w) X.A (call (.builtin id) (v::d)) (EP X a b Q) X.xe s
section
variable{X:Cx}{a b:Expr}{G F:TE}{E:Pos}
def AI(d:ND X r)(e:PE X a G)(f:PE X b F)(g:zX b):PE X (.Subscript a b E) (Np r G F):=by intro c s i H Q I h;exact Subscript_ (M8 e f I h λv u j x y k l m n q=>d a b c j i k x y v u Q l m n q (g _ _))
def Mg(K:RM):R2:=λx y H Q=>∃p c i v,x=.ref p/\y=.int i/\aW K H p c/\xy c i=some v/\Q v H
def Me(K:RM):R2:=λx y H Q=>∃p c i v,x=.ref p/\y=.int i/\aU K H p c/\xy c i=some v/\Q v H
def Pt:R2:=λx y H Q=>∃z i c,x=.str z/\y=.int i/\z.length<=sizeLine/\xy z.cps.toList i=some c/\Q (.str ⟨#[c]⟩) H
def Kw:ND X (Mg X.K):=by
 intro d e c s l H x y v u Q I o A h m;obtain⟨p,L,i,z,rfl,rfl,B,C,q⟩:=h;cases o;obtain⟨t,rfl⟩:=A;obtain⟨f,r,pl,M⟩:=I.list B;obtain⟨j,h1,h2,h3,h4,h5⟩:=zT C;obtain⟨w,n,g⟩:=r.get h2;have D:=r.length;have hn:=rq;have fin:EP X c l Q w s:=⟨z,H,I,g,q⟩
 by_cases h0:0<=i
 ·have k:i.toNat=j:=by rw[seqIndex_of h0 h5]at h1;exact k_ h1
  exact item_listR pl.isList h0 (by lia) (by rw[k];simpa using n) fin m
 ·have k:(i+(f.toArray.size:Int)).toNat=j:=by rw[seqIndex_neg (by lia) h4]at h1;rw[lh,<-D];exact k_ h1
  exact subscriptTail_builtinR (x:=w) pl.isList.typeIs slot_list_getitem.lookup (wpAny_getItem_list_neg (Q:=λr J=>r=w/\EP X c l Q r J) pl.isList (by lia) (by rw[lh]<;>lia) (by lia) (by rw[k];simpa using n) ⟨rfl,fin⟩) m
def MM:ND X (Me X.K):=by intro d e c s g H x y v u Q I k l h m;obtain⟨p,J,i,z,rfl,rfl,n,o,q⟩:=h;cases k;obtain⟨t,rfl⟩:=l;obtain⟨A,r,pl,L⟩:=I.tuple n;obtain⟨j,h1,h2,h3,h4,h5⟩:=zT o;obtain⟨w,B,f⟩:=r.get h2;have C:=r.length;have hn:=rq;have fin:EP X c g Q w s:=⟨z,H,I,f,q⟩;exact subscriptTail_builtinR (x:=w) pl.typeIs slot_tuple_getitem.lookup (getItem_tuple (j:=j) (Q:=λr D=>r=w/\EP X c g Q r D) pl (by lia) (by lia) (by rw[lh,<-C];exact h1) (by simpa using B) ⟨rfl,fin⟩) m
def CU:ND X Pt:=by
 intro d e f s r H x y v u Q I g k h l;obtain⟨z,i,c,rfl,rfl,w,m,q⟩:=h;obtain⟨t,rfl⟩:=g;obtain⟨A,rfl⟩:=k;obtain⟨j,h1,h2,h3,h4,h5⟩:=zT m;have n:z.cps.toList.length=z.length:=by simp[Str.length]
 rw[n]at h1 h4 h5;have hn:=rq;exact tail_any (typeIs_str s z t) slot_str_getitem.lookup (getItem_str (c:=c) (by have o:decide (i< -(2^63:Int))=false:=nn (by lia);have p:decide (i>=2^63)=false:=nn (by lia);rw[o,p,Bool.or_false]) (by rw[h1];simpa using h2) ⟨.str ⟨#[c]⟩,H,I.tok _,⟨_,rfl⟩,q⟩) l
def Cz(c:RQ)(n j:Nat)(u:Value):Obj.mapSeq (·.setIfInBounds j u) {cls:=.type "list",data:=.seq c.toArray n}={cls:=.type "list",data:=.seq (c.set j u).toArray n}:=by simp[Obj.mapSeq]
theorem aM.lst(I:aM X d g H s)(h:H p=some (.lst f)):∃(c:RQ)(n:Nat),bd f c/\s.heap.get? p=some {cls:=.type "list",data:=.seq c.toArray n}/\f.length<=sizeLine:=by obtain⟨z,c,n,r,e⟩:=I.hok p _ h;exact⟨c,n,r,e,z⟩
def aM.lstUpd{d:RO}{l:St}{H:Hp}{s:Shared}{p:Addr}{v i:List V}{g c:RQ}{n j:Nat}{f:Obj->Obj}(I:aM X d l H s)(h:H p=some (.lst v))(w:s.heap.get? p=some {cls:=.type "list",data:=.seq g.toArray n})(o:f {cls:=.type "list",data:=.seq g.toArray n}={cls:=.type "list",data:=.seq c.toArray j})(r:bd i c)(y:i.length<=sizeLine)(t:Nat):aM X d l (aA H p (.lst i)) {s with heap:=s.heap.update p f,toks:=t}:=by
 have e:(s.heap.update p f).get? p=some {cls:=.type "list",data:=.seq c.toArray j}:=by rw[sg f w (by rw[o]<;>rfl),o]
 refine I.write (x:=p) (e:=p) (by rw[h];trivial) (.inl rfl) (λb u k q=>(sT _ _ (ol k)).trans q) ⟨_,e⟩ ?_;exact⟨y,c,j,r,e⟩
def Oe:V->V->V->Hp->(Hp->Prop)->Prop:=λo i v H Q=>∃p c k j,o=.ref p/\i=.int k/\H p=some (.lst c)/\Ky c.length k=some j/\Q (aA H p (.lst (c.set j v)))
def Gz:K2 X Oe:=by
 intro c s w H o i v D iv u Q I x y z h;obtain⟨p,A,k,j,rfl,rfl,l,B,q⟩:=h;cases x;obtain⟨t,rfl⟩:=y;obtain⟨d,n,r,e,C⟩:=I.lst l;obtain⟨h1,h2,h3,h4⟩:=DM B;have f:=r.length;have hn:=rq;have m:aM X c w (aA H p (.lst (A.set j v))) {s with heap:=s.heap.update p (Obj.mapSeq (·.setIfInBounds j u))}:=I.lstUpd l e (Cz d n j u) (r.set z j) (by rw[th];exact C) s.toks
 by_cases h0:0<=k
 ·have g:k.toNat=j:=by rw[seqIndex_of h0 h4]at h1;exact k_ h1
  exact PySem.W.ki_setAt e h0 (by lia) (by rw[lh,<-f];exact h4) (by rw[g];exact⟨_,m,q⟩)
 ·have g:(k+(d.toArray.size:Int)).toNat=j:=by rw[seqIndex_neg (by lia) h3]at h1;rw[lh,<-f];exact k_ h1
  exact PySem.W.ki_setBack e (by lia) (by rw[lh,<-f];exact h3) (by lia) (by rw[g];exact⟨_,m,q⟩)
def yK(lo hi:Option Int)(n:Nat):(sliceBounds lo hi none n).1=((HT.iy n 0 lo:Nat):Int)/\(sliceBounds lo hi none n).2.1=((HT.iy n n hi:Nat):Int)/\(sliceBounds lo hi none n).2.2=1:=by
 refine⟨?_,?_,rfl⟩
 ·cases lo with|none=>simp[sliceBounds,HT.iy]|some i=>
   simp only[sliceBounds,HT.iy,Option.getD_none,show(1:Int)>0 by decide,Rf]
   by_cases h:i<0
   ·simp only[h,Rf]<;>lia
   ·simp only[h,QM]<;>lia
 ·cases hi with|none=>simp[sliceBounds,HT.iy]|some i=>
   simp only[sliceBounds,HT.iy,Option.getD_none,show(1:Int)>0 by decide,Rf]
   by_cases h:i<0
   ·simp only[h,Rf]<;>lia
   ·simp only[h,QM]<;>lia
def wF(c:RQ)(lo hi:Option Int):slicePick c.toArray lo hi none=((c.drop (HT.iy c.length 0 lo)).take (HT.iy c.length c.length hi-HT.iy c.length 0 lo)).toArray:=by obtain⟨h1,h2,h3⟩:=yK lo hi c.toArray.size;unfold slicePick;rw[h1,h2,h3];simp only[sliceRange_one,pick_run,lh]<;>rfl
def Oc(K:RM):V->Option Int->Option Int->Hp->VK->Prop:=λx lo hi H Q=>∃a c,x=.ref a/\aW K H a c/\∀p,H p=none->Q (.ref p) (aA H p (.lst (xr c lo hi)))
def JP:NB X (Oc X.K):=by intro e s n H x v p t lo hi sl Q I g i pl j h;obtain⟨a,c,rfl,k,q⟩:=h;cases g;obtain⟨l,r,f,m⟩:=I.list k;have d:=r.length;refine⟨"list",_,slot_list_getitem.lookup,f.isList.typeIs,?_⟩;refine wpAny_getItem_list_slice f.isList i pl j .none (by simp) ?_ (by rw[lh]<;>lia);rw[wF,<-d];refine⟨.ref s.heap.objs.size,_,I.laid (t':=s.toks) (o:=.lst (xr c lo hi)) (λb ob q=>b_ _ q) (g_ _) ?_,rfl,q _ (I.hok.fresh (g_ _))⟩;exact⟨nh (tf c lo hi) m,_,0,(r.drop (HT.iy c.length 0 lo)).take (HT.iy c.length c.length hi-HT.iy c.length 0 lo),h_ _ rfl⟩
def og:V->Bool|.non=>true|.bl _=>true|.int _=>true|.str _=>true|_=>false
def Lj:V->V->Bool|.non,.non=>true|.bl a,.bl b=>a==b|.bl a,.int b=>(if a then 1 else 0)==b|.int a,.bl b=>a==(if b then 1 else 0)|.int a,.int b=>a==b|.str a,.str b=>a==b|_,_=>false
def MY(e:aZ y u)(c:aZ x v)(g:og y=true)(f:og x=true):SeqAt.EqAt A s u v (Lj y x):=by cases y with
 |non=>cases e;cases x with|non=>cases c;exact SeqAt.EqAt.same _|bl b=>cases c;exact SeqAt.EqAt.none_bool b|int b=>obtain⟨t,rfl⟩:=c;exact SeqAt.EqAt.none_int b t|str b=>obtain⟨t,rfl⟩:=c;exact SeqAt.EqAt.none_str b t|_=>exact absurd (show false=true from f) l_
 |bl a=>cases e;cases x with|non=>cases c;exact SeqAt.EqAt.bool_none a|bl b=>cases c;exact SeqAt.EqAt.bool_bool a b|int b=>obtain⟨t,rfl⟩:=c;exact SeqAt.EqAt.bool_int a b t|str b=>obtain⟨t,rfl⟩:=c;exact SeqAt.EqAt.bool_str a b t|_=>exact absurd (show false=true from f) l_
 |int a=>obtain⟨d,rfl⟩:=e;cases x with|non=>cases c;exact SeqAt.EqAt.int_none a d|bl b=>cases c;exact SeqAt.EqAt.int_bool a d b|int b=>obtain⟨t,rfl⟩:=c;exact SeqAt.EqAt.int_int a d b t|str b=>obtain⟨t,rfl⟩:=c;exact SeqAt.EqAt.int_str a d b t|_=>exact absurd (show false=true from f) l_
 |str a=>obtain⟨d,rfl⟩:=e;cases x with|non=>cases c;exact SeqAt.EqAt.str_none a d|bl b=>cases c;exact SeqAt.EqAt.str_bool a d b|int b=>obtain⟨t,rfl⟩:=c;exact SeqAt.EqAt.str_int a d b t|str b=>obtain⟨t,rfl⟩:=c;exact SeqAt.EqAt.str_str a d b t|_=>exact absurd (show false=true from f) l_
 |_=>exact absurd (show false=true from g) l_
def C6(x:V)(u:Value):Bool:=match u with|.none=>Lj .non x|.bool b=>Lj (.bl b) x|.int i _=>Lj (.int i) x|.str z _=>Lj (.str z) x|_=>false
def HY(r:aZ y u)(f:og y=true):C6 x u=Lj y x:=by cases y with|non=>cases r;rfl|bl b=>cases r;rfl|int i=>obtain⟨t,rfl⟩:=r;rfl|str z=>obtain⟨t,rfl⟩:=r;rfl|_=>exact absurd (show false=true from f) l_
theorem qo:∀{c:List V}{d:RQ},bd c d->c.all og=true->d.any (C6 x)=c.any λy=>Lj y x|_,_,.nil,_=>rfl|y::c,u::d,.cons r t,f=>by rw[Qj,oi]at f;rw[z7,z7,HY r f.1,qo t f.2]
theorem mO(g:aZ x v)(h:og x=true):∀{d:List V}{e:RQ},bd d e->d.all og=true->∀u∈e,SeqAt.EqAt A s u v (C6 x u)
 |_,_,.nil,_=>λu c=>by cases c|y::d,u::e,.cons r t,f=>λi c=>by
  rw[Qj,oi]at f;rcases ov.mp c with rfl|c
  ·rw[HY r f.1];exact MY r g f.1 h
  ·exact mO g h t f.2 i c
def qf(x:V)(c:List V):Bool:=c.any λy=>Lj y x
def O8(K:RM)(d:Bool):R2:=λx y H Q=>∃p c,y=.ref p/\(aW K H p c\/aU K H p c)/\og x=true/\c.all og=true/\Q (.bl (if d then !qf x c else qf x c)) H
def EF:lr X (compareOp .In) (O8 X.K false):=by
 intro f s l H x y v u Q I g j h;obtain⟨p,m,rfl,d,i,fs,q⟩:=h;cases j;rcases d with d|d
 ·obtain⟨c,r,pl,k⟩:=I.list d;refine SeqAt.in_listAt (C6 x) pl.isList (λw e=>mO g i r fs w (by simpa using e)) ⟨.bl _,H,I,rfl,?_⟩;rw[show c.toArray.any (C6 x)=c.any (C6 x)by simp,qo r fs];exact q
 ·obtain⟨c,r,pl,k⟩:=I.tuple d;refine SeqAt.in_tupleAt (C6 x) pl (λw e=>mO g i r fs w (by simpa using e)) ⟨.bl _,H,I,rfl,?_⟩;rw[show c.toArray.any (C6 x)=c.any (C6 x)by simp,qo r fs];exact q
def yX:lr X (compareOp .NotIn) (O8 X.K true):=by
 intro f s l H x y v u Q I g j h;obtain⟨p,m,rfl,d,i,fs,q⟩:=h;cases j;rcases d with d|d
 ·obtain⟨c,r,pl,k⟩:=I.list d;refine SeqAt.notIn_listAt (C6 x) pl.isList (λw e=>mO g i r fs w (by simpa using e)) ⟨.bl _,H,I,rfl,?_⟩;rw[show c.toArray.any (C6 x)=c.any (C6 x)by simp,qo r fs];exact q
 ·obtain⟨c,r,pl,k⟩:=I.tuple d;refine SeqAt.notIn_tupleAt (C6 x) pl (λw e=>mO g i r fs w (by simpa using e)) ⟨.bl _,H,I,rfl,?_⟩;rw[show c.toArray.any (C6 x)=c.any (C6 x)by simp,qo r fs];exact q
def zN:cO X (.type "list") (λv H Q=>∃p d,v=[.ref p]/\(aW X.K H p d\/aU X.K H p d)/\∀l,H l=none->Q (.ref l) (aA H l (.lst d))):=by
 intro i s y H v A Q I r h;obtain⟨p,d,rfl,j,q⟩:=h;obtain⟨u,rfl,z⟩:=jU r;cases z;have fin:∀(c:RQ),bd d c->d.length<=sizeLine->∀(h':Heap)(f:Nat),(∀b x,s.heap.get? b=some x->h'.get? b=some x)->h'.get? s.heap.objs.size=some {cls:=.type "list",dict:=none,data:=.seq c.toArray f,slots:=#[]}->EP X i y Q (.ref s.heap.objs.size) {s with heap:=h'}:=λc g k h' f kp e=>⟨.ref s.heap.objs.size,_,I.laid (t':=s.toks) kp (g_ _) (show cZ X.prog X.w _ h' _ (.lst d)from⟨k,c,f,g,e⟩),rfl,q _ (I.hok.fresh (g_ _))⟩
 rcases j with j|j
 ·obtain⟨c,g,pl,k⟩:=I.list j;have m:=g.length;obtain⟨o,t,hc,n,hd⟩:=pl.isList;exact call_list_seq p (.inl rfl) t hc hd (λh' f kp e=>fin c g k h' f kp e) (by simp only[lh]<;>lia)
 ·obtain⟨c,g,pl,k⟩:=I.tuple j;have m:=g.length;obtain⟨o,t,hc,n,hd⟩:=pl;exact call_list_seq p (.inr rfl) t hc hd (λh' f kp e=>fin c g k h' f kp e) (by simp only[lh]<;>lia)
def xu:cO X (.type "tuple") (λj H Q=>∃p f,j=[.ref p]/\((aW X.K H p f/\∀l,H l=none->Q (.ref l) (aA H l (.tup f)))\/(aU X.K H p f/\Q (.ref p) H))):=by
 intro c s k H j y Q I r h;obtain⟨p,f,rfl,h⟩:=h;obtain⟨u,rfl,t⟩:=jU r;cases t;rcases h with⟨g,q⟩|⟨g,q⟩
 ·obtain⟨d,i,pl,m⟩:=I.list g;have n:=i.length;refine call_tuple_list pl.isList (λh' kp=>?_) (by simp only[lh]<;>lia);have I1:aM X c k H {s with heap:=h'}:=I.kept (t':=s.toks) kp;have x:aM X c k (aA H h'.objs.size (.tup f)) {s with heap:=h'.push {cls:=.type "tuple",data:=.seq d.toArray}}:=I1.laid (t':=s.toks) (λb o e=>b_ _ e) (g_ _) (show cZ X.prog X.w _ _ _ (.tup f)from⟨m,d,i,IsTup.new _ _⟩)
  exact⟨.ref h'.objs.size,_,x,rfl,q _ (I1.hok.fresh (g_ _))⟩
 ·obtain⟨d,i,pl,m⟩:=I.tuple g;exact call_tuple_same pl ⟨.ref p,H,I,rfl,q⟩
def tyV(K:RM)(T:String)(x:V)(H:Hp):Prop:=match x with|.str _=>T="str"|.int _=>T="int"|.ref p=>(T="list"/\∃d,aW K H p d)\/(T="tuple"/\∃o,K.lookup p=some o/\o.cls=.type "tuple"/\o.dict=none)\/(T="dict"/\((∃c,H p=some (.dK c))\/∃c,H p=some (.dT c)))\/(T="set"/\∃S n,H p=some (.set S n))|_=>False
def LC(I:aM X h l H s)(r:aZ x v)(ty:tyV X.K T x H):
 s.TypeIs v T/\∀a,v=.ref a->∃ob,s.heap.get? a=some ob/\ob.dict=none:=by cases x with|str z=>obtain⟨t,rfl⟩:=r;cases(show T="str"from ty);exact⟨typeIs_str s z t,λ_ e=>nomatch e⟩|int i=>obtain⟨t,rfl⟩:=r;cases(show T="int"from ty);exact⟨typeIs_int s i t,λ_ e=>nomatch e⟩|ref p=>
  cases r;rcases ty with⟨rfl,m,j⟩|⟨rfl,o,d,hc,hd⟩|⟨rfl,d⟩|⟨rfl,S,n,d⟩
  ·obtain⟨k,_,pl,_⟩:=I.list j;refine⟨pl.isList.typeIs,λa e=>?_⟩;cases e;obtain⟨o,n,e,c,hd,_⟩:=pl;exact⟨o,e,hd⟩
  ·refine⟨⟨o,I.kIn p o d,hc⟩,λa e=>?_⟩;cases e;exact⟨o,I.kIn _ o d,hd⟩
  ·have z:∃o,s.heap.get? p=some o/\o.ExactDict:=by
    rcases d with⟨f,d⟩|⟨f,d⟩
    ·obtain⟨_,_,_,_,o,_,_,e,ex,_⟩:=I.hok p _ d;exact⟨o,e,ex⟩
    ·obtain⟨_,_,_,_,o,_,_,e,ex,_⟩:=I.hok p _ d;exact⟨o,e,ex⟩
   obtain⟨o,e,ex⟩:=z;refine⟨⟨o,e,ex.1⟩,λa g=>?_⟩;cases g;exact⟨o,e,ex.2.1⟩
  ·obtain⟨o,_,_,_,e,ex,_⟩:=I.hok p _ d;refine⟨⟨o,e,ex.1⟩,λa g=>?_⟩;cases g;exact⟨o,e,ex.2.1⟩|_=>exact False.elim ty
def tBM(K:RM)(T:String)(r:V->List V->Hp->VK->Prop)(D:TE)(t:TA):TE:=λc H Q=>D c H λx d=>tyV K T x d/\t c d λe f=>r x e f Q
variable{o e:Expr}{C:RT}{D:TE}{t:TA}{g:Str}{B d:Pos}{T id:String}{r:V->List V->Hp->VK->Prop}
def Ol(q:PlainAttrs T)(slot:Slot T g id)(n:typeOf (.builtin id)=pure (.type "method_descriptor"))(hm:PU X id r)(u:PE X o D)(w:PA X (e::C) t)(i:attributeBase o g X.env (eval o X.env)=eval o X.env:=by rfl)(l:((backTo d (starEach (e::C) X.env)).all (λx=>!x.1)&&(backToKw d (keywordEach [] X.env)).all (λx=>x.1.isSome)&&decide ((e::C).length+([]:List Keyword).length+(if([]:List Keyword).isEmpty then 0 else 1)<30))=true:=by rfl)(j:(B.endLine==d.line)=true:=by rfl)(y:starEach (e::C) X.env=(false,eval e X.env)::starEach C X.env:=by rfl)(f:(backTo d (starEach C X.env)).any (·.1)=false:=by rfl):PE X (.Call (.Attribute o g B) (e::C) [] d) (tBM X.K T r D t):=by intro c s k H Q I h;refine wpAny_Call_method_late i l j rfl (cw (u c s k H _ I h) λv z⟨x,A,I1,m,ty,J⟩=>?_);obtain⟨h1,h2⟩:=LC I1 m ty;refine⟨T,id,q,slot,n,h1,h2,?_⟩;have p:=w d c z k A _ I1 J;rw[y]at p⊢;refine r4 (by show(false||(backTo d (starEach C X.env)).any (·.1))=false;rw[f]<;>rfl) (t_ ?_);exact cw p λL M⟨N,O,P,r2,R⟩=>hm c M k O x N v L Q P m r2 R
end
end L2
namespace L2
open PySem PySem.Spec PyProof.Rows
def MtM(X:Cx)(id:String)(r:V->List V->Hp->VK->Prop):Prop:=∀(a:RO)(s:Shared)(b:St)(H:Hp)(x:V)(c:List V)(v:Value)(d:RQ)(Q:VK),aM X a b H s->aZ x v->bd c d->r x c H Q->wpAny (model X.prog X.w) X.A (call (.builtin id) (v::d)) (EP X a b Q) X.xe s
def bd.one:∀{x:V}{a:RQ},bd [x] a->∃u,a=[u]/\aZ x u|_,_,.cons r .nil=>⟨_,rfl,r⟩
theorem bd.reverse(h:bd a b):bd a.reverse b.reverse:=by induction h with|nil=>exact .nil|cons r t c=>rw[List.reverse_cons,List.reverse_cons];exact bd.append c (.cons r .nil)
theorem bd.rep(h:bd a b):∀k:Nat,bd (List.replicate k a).flatten (List.replicate k b).flatten|0=>.nil|k+1=>by rw[sf,sf,H_,H_];exact bd.append h (bd.rep h k)
theorem yf(a:RQ):∀(k:Nat)(b:RQ),List.foldl (λc d=>c++d) b.toArray (List.replicate k a.toArray)=(b++(List.replicate k a).flatten).toArray
 |0,b=>by simp|k+1,b=>by
  have e:b.toArray++a.toArray=(b++a).toArray:=by simp
  have f:(b++a)++(List.replicate k a).flatten=b++(List.replicate (k+1) a).flatten:=by rw[sf,H_,QD]
  rw[<-f,<-yf a k (b++a),<-e,sf,v3]
section
variable{X:Cx}{a:RO}{d:St}{H:Hp}{s:Shared}{l b:Addr}{g c i:List V}
def aM.lset{h its':RQ}{n:Nat}{f:Array Value->Array Value}{j:Nat}(I:aM X a d H s)(o:H l=some (.lst g))(e:s.heap.get? l=some {cls:=.type "list",data:=.seq h.toArray n})(p:f h.toArray=its'.toArray)(r:bd c its')(t:c.length<=sizeLine):aM X a d (aA H l (.lst c)) {s with heap:=s.heap.update l (Obj.mapSeq f),toks:=j}:=by have q:=PySem.IsL.update e f;rw[p]at q;refine I.write (x:=l) (e:=l) (by rw[o];exact trivial) (.inl rfl) (λv u k m=>(sT s.heap (Obj.mapSeq f) (ol k)).trans m) ⟨_,q⟩ ?_;exact⟨t,its',_,r,q⟩
def aM.lnew(I:aM X a d H s)(f:bd c e)(h:c.length<=sizeLine):aM X a d (aA H s.heap.objs.size (.lst c)) {s with heap:=s.heap.push {cls:=.type "list",data:=.seq e.toArray},toks:=t'}:=I.laid (λ_ _ q=>b_ _ q) (g_ _) ⟨h,e,0,f,h_ _ rfl⟩
theorem aM.fresh(I:aM X a d H s):H s.heap.objs.size=none:=I.hok.fresh (g_ _)
def aM.lstM(I:aM X a d H s)(h:H l=some (.lst g)):g.length<=sizeLine/\∃(f:RQ)(n:Nat),bd g f/\g.length=f.length/\s.heap.get? l=some {cls:=.type "list",data:=.seq f.toArray n}:=by obtain⟨z,f,n,r,e⟩:=I.hok l _ h;exact⟨z,f,n,r,r.length,e⟩
def AY{n:Nat}(h:n<=sizeLine):Builtin.List.listTooLong n=false:=by unfold Builtin.List.listTooLong;exact nn (by lia)
end
section
variable{X:Cx}
def JT:V->List V->Hp->VK->Prop:=λx b H Q=>∃l a y,x=.ref l/\b=[y]/\H l=some (.lst a)/\a.length<sizeLine/\Q .non (aA H l (.lst (a++[y])))
def eU:MtM X "list.append" JT:=by intro b s i H x j v k Q I f g h;obtain⟨l,m,y,rfl,rfl,c,o,q⟩:=h;cases f;obtain⟨u,rfl,ru⟩:=g.one;obtain⟨z,a,n,r,p,e⟩:=I.lstM c;refine call_meets F.slot_list_append ⟨_,e,rfl⟩ F.entry_list_append (F.args_list_append_2 _ _) (PySem.list_append l a.toArray n u (by rw[lh];lia)) ⟨e,?_⟩;refine⟨.non,_,I.lset (its':=a++[u]) c e (by simp) (r.append (.cons ru .nil)) ?_,rfl,q⟩;rw[iA,Qf];lia
def JS:V->List V->Hp->VK->Prop:=λx d H Q=>∃l b a c,x=.ref l/\d=[.ref b]/\H l=some (.lst a)/\H b=some (.lst c)/\a.length+c.length<=sizeLine/\Q .non (aA H l (.lst (a++c)))
def xX:MtM X "list.extend" JS:=by
 intro g s w H x y v A Q I k m h;obtain⟨l,b,B,C,rfl,rfl,i,o,D,q⟩:=h;cases k;obtain⟨u,rfl,ru⟩:=m.one;cases ru;obtain⟨z,c,n,r,E,e⟩:=I.lstM i;obtain⟨G,a,n2,r2,p,t⟩:=I.lstM o;have f:c.toArray.size+a.toArray.size<=sizeLine:=by rw[lh,lh];lia
 have d:¬(!c.toArray.isEmpty&&Builtin.List.listTooLong (c.toArray.size+a.toArray.size))=true:=by rw[AY f,Bool.and_false];exact l_
 refine call_meets F.slot_list_extend ⟨_,e,rfl⟩ F.entry_list_extend (F.args_list_extend_2 _ _) (AutoSeq1.list_extend_list_list_0 l c.toArray n b a.toArray n2 d (by rw[lh];lia) (by lia)) ⟨e,t,?_⟩
 refine⟨.non,_,I.lset (its':=c++a) i e (by simp) (r.append r2) ?_,rfl,q⟩;rw[iA];lia
def Pu:R2:=λx y H Q=>∃l b a c,x=.ref l/\y=.ref b/\H l=some (.lst a)/\H b=some (.lst c)/\a.length+c.length<=sizeLine/\∀p,H p=none->Q (.ref p) (aA H p (.lst (a++c)))
def Cm:lr X (binaryOp .Add) Pu:=by
 intro d s p H x y v u Q I f g h;obtain⟨l,b,t,w,rfl,rfl,i,j,A,q⟩:=h;cases f;cases g;obtain⟨z,c,n,r,B,e⟩:=I.lstM i;obtain⟨C,a,n2,r2,k,m⟩:=I.lstM j;refine PySem.P.add_list e m ?_ (by rw[lh,lh];lia);have o:c.toArray++a.toArray=(c++a).toArray:=by simp
 rw[o];exact⟨.ref _,_,I.lnew (t':=s.toks) (r.append r2) (by rw[iA];lia),rfl,q _ I.fresh⟩
def Ps:R2:=λx y H Q=>∃l k a,x=.ref l/\y=.int k/\H l=some (.lst a)/\-(2^63)<=k/\k<2^63/\a.length*k.toNat<=sizeLine/\∀p,H p=none->Q (.ref p) (aA H p (.lst (List.replicate k.toNat a).flatten))
def Kl(a:List c)(k:Nat):(List.replicate k a).flatten.length=k*a.length:=by induction k with|zero=>simp|succ k b=>rw[sf,H_,iA,b,Nat.succ_mul,Nat.add_comm]
def GR:lr X (binaryOp .Mult) Ps:=by
 intro p s J H x y v u Q I A B h;obtain⟨l,k,K,rfl,rfl,C,h1,h2,w,q⟩:=h;cases A;obtain⟨t,rfl⟩:=B;obtain⟨z,b,n,r,D,e⟩:=I.lstM C;have d:b.toArray.size*k.toNat<=sizeLine:=by rw[lh,<-D];exact w
 have f:¬b.toArray.size*k.toNat>(2^63-1)/8:=by
  have:(sizeLine:Nat)<=(2^63-1)/8:=by decide
  lia
 have g:¬(!Builtin.List.listFitsIndex k)=true:=by rw[fitsIndex_both h1 h2];exact l_
 have c:¬Builtin.List.listTooLong (b.toArray.size*k.toNat)=true:=by rw[AY d];exact l_
 have i:List.foldl (λj o=>j++o) #[] (List.replicate (if b.toArray.isEmpty=true then 0 else k.toNat) b.toArray)=(List.replicate k.toNat b).flatten.toArray:=by
  have E:∀m:Nat,List.foldl (λj o=>j++o) #[] (List.replicate m b.toArray)=(List.replicate m b).flatten.toArray:=λm=>by have:=yf b m [];rw[List.nil_append]at this;exact this
  rw[E];cases b with|nil=>simp|cons a L=>rw[j2 (by simp)]
 refine wpAny_binaryOp_repeat_ref (T:="list") (U:="int") (by decide) ⟨_,e,rfl⟩ (λG=>typeIs_int G k t) noFill_list_mul F.fills_int_mul F.slot_int_rmul repeat_list F.slot_int_index.lookup (call_meets F.slot_int_rmul (typeIs_int s k t) F.entry_int_rmul (F.args_int_rmul_2 _ _) (int___rmul___int_list k t l b.toArray n) ⟨e,rfl,⟨_,e,rfl⟩,call_meets F.slot_list_mul ⟨_,e,rfl⟩ F.entry_list_mul (F.args_list_mul_2 _ _) (AutoListH.list___mul___list_int_3 l b.toArray n k t g f c) ⟨e,?_⟩⟩)
 rw[i];exact⟨.ref _,_,I.lnew (t':=s.toks) (r.rep k.toNat) (by rw[Kl,Nat.mul_comm];exact w),rfl,q _ I.fresh⟩
end
section
variable{prog:RR}{w:World}{A:Around}{E:RN}{s:Shared}
end
section
variable{X:Cx}
end
end L2
namespace L2
open PySem PySem.Spec PyProof.Rows
section
variable{c:Type}[DecidableEq c]
def a0(a:List (c×V))(k:c):Option V:=(a.find? λb=>decide (b.1=k)).map (·.2)
def dO(a:List (c×V))(k:c)(v:V):List (c×V):=if(a.any λb=>decide (b.1=k))=true then a.map (λb=>if b.1=k then(b.1,v)else b)else a++[(k,v)]
def dF(a:List (c×V))(k:c):List (c×V):=a.filter λb=>decide (b.1≠k)
def ck{p:c×V}{r:List (c×V)}{k:c}(e:p.1=k):a0 (p::r) k=some p.2:=by simp[a0,r3,e]
def bK{p:c×V}{r:List (c×V)}{k:c}(e:¬p.1=k):a0 (p::r) k=a0 r k:=by simp[a0,r3,e]
theorem mi(k:c):∀a:List (c×V),(a.any λb=>decide (b.1=k))=(a0 a k).isSome
 |[]=>rfl|p::r=>by
  rw[z7]
  by_cases e:p.1=k
  ·simp only[ck e,m_ e,Bool.true_or,Option.isSome_some]
  ·rw[bK e,nn e,Bool.false_or];exact mi k r
theorem Ae(k j:c)(y:V):∀a:List (c×V),a0 (a.map λb=>if b.1=k then(b.1,y)else b) j=(a0 a j).map λx=>if j=k then y else x
 |[]=>rfl|p::r=>by
  have d:=Ae k j y r;rw[no]
  by_cases h:p.1=k
  ·rw[ku h]
   by_cases e:p.1=j
   ·rw[ck (p:=(p.1,y)) e,ck e,P6,ku (e.symm.trans h)]
   ·rw[bK (p:=(p.1,y)) e,bK e,d]
  ·rw[j2 h]
   by_cases e:p.1=j
   ·rw[ck (p:=p) e,ck e,P6,j2 (λz=>h (e.trans z))]
   ·rw[bK (p:=p) e,bK e,d]
theorem xG(k j:c)(y:V):∀a:List (c×V),a0 a k=none->a0 (a++[(k,y)]) j=if j=k then some y else a0 a j
 |[],_=>by
  by_cases e:k=j
  ·rw[ku e.symm];exact ck (p:=(k,y)) e
  ·rw[j2 (λz=>e z.symm)];exact bK (p:=(k,y)) e|p::r,hn=>by
  rw[List.cons_append];have b:¬p.1=k:=λz=>by rw[ck z]at hn;cases hn
  rw[bK b]at hn;have d:=xG k j y r hn
  by_cases e:p.1=j
  ·rw[ck e,ck e,j2 (λz=>b (e.trans z))]
  ·rw[bK e,bK e,d]
def Ad(b:List (c×V))(k j:c)(y:V):a0 (dO b k y) j=if j=k then some y else a0 b j:=by
 unfold dO
 by_cases a:(b.any λd=>decide (d.1=k))=true
 ·rw[ku a,Ae];rw[mi]at a
  by_cases e:j=k
  ·obtain⟨x,f⟩:=z4.mp a;rw[ku e,e,f,P6,ku rfl]
  ·rw[j2 e];cases a0 b j with|none=>rfl|some x=>rw[P6,j2 e]
 ·rw[j2 a];refine xG k j y b ?_;rw[mi]at a;cases q:a0 b k with|none=>rfl|some x=>rw[q]at a;exact(a rfl).elim
def j9(a:List (c×V))(k:c)(v:V):(dO a k v).length<=a.length+1:=by
 unfold dO
 split
 ·rw[c_];lia
 ·rw[iA,n_,List.length_nil];lia
def pM{a:List (c×V)}{k:c}(v:V)(h:a0 a k=none):dO a k v=a++[(k,v)]:=by unfold dO;rw[mi,h];exact j2 (by decide)
def ld.isSome_eq(r:ld o u):o.isSome=u.isSome:=by cases o with
 |none=>cases u with|none=>rfl|some _=>exact(show False from r).elim
 |some _=>cases u with|none=>exact(show False from r).elim|some _=>rfl
theorem ld.getD(r:ld o u)(a:aZ d b):aZ (o.getD d) (u.getD b):=by cases o with
 |none=>cases u with|none=>exact a|some _=>exact(show False from r).elim
 |some _=>cases u with|none=>exact(show False from r).elim|some _=>exact r
def KV.val{a:List (c×V)}{g:List (c×Value)}(r:KV a g)(k:c):ld (a0 a k) (valueAt g k):=by
 unfold KV at r
 induction r with|nil=>exact True.intro|@cons p q j d h t i=>
  obtain⟨h1,h2⟩:=h
  by_cases e:p.1=k
  ·have f:q.1=k:=h1.symm.trans e;have b:valueAt (q::d) k=some q.2:=by simp[valueAt,r3,f]
   rw[ck e,b];exact h2
  ·have f:¬q.1=k:=λz=>e (h1.trans z);have b:valueAt (q::d) k=valueAt d k:=by simp[valueAt,r3,f]
   rw[bK e,b];exact i
theorem KV.any(r:KV a d)(k:c):(a.any λb=>decide (b.1=k))=d.any λb=>decide (b.1=k):=by
 unfold KV at r
 induction r with|nil=>rfl|cons h t e=>rw[z7,z7,e,h.1]
def KV.repl(r:KV b d)(k:c)(f:aZ y u):KV (b.map λa=>if a.1=k then(a.1,y)else a) (d.map λa=>if a.1=k then(a.1,u)else a):=by
 unfold KV at r⊢
 induction r with|nil=>exact .nil|@cons p q i j h t g=>
  rw[no,no];refine .cons ?_ g;obtain⟨h1,h2⟩:=h
  by_cases e:p.1=k
  ·rw[ku e,ku (h1.symm.trans e)];exact⟨h1,f⟩
  ·rw[j2 e,j2 (λz=>e (h1.trans z))];exact⟨h1,h2⟩
def KV.put(r:KV a b)(k:c)(d:aZ y u):KV (dO a k y) (stored b k u):=by
 unfold dO stored;rw[r.any k]
 by_cases e:(b.any λf=>decide (f.1=k))=true
 ·rw[ku e,ku e];exact r.repl k d
 ·rw[j2 e,j2 e];exact Paired.snoc r ⟨rfl,d⟩
def KV.drop(r:KV d g)(k:c):KV (dF d k) (without g k):=by
 unfold KV at r⊢;unfold dF without
 induction r with|nil=>exact .nil|@cons p q j l h t f=>
  obtain⟨h1,h2⟩:=h;rw[QQ,QQ]
  by_cases e:p.1=k
  ·have a:¬decide (p.1≠k)=true:=by simp[e]
   have b:¬decide (q.1≠k)=true:=by simp[h1.symm.trans e]
   rw[j2 a,j2 b];exact f
  ·have i:¬q.1=k:=λz=>e (h1.trans z);have a:decide (p.1≠k)=true:=by simp[e]
   have b:decide (q.1≠k)=true:=by simp[i]
   rw[ku a,ku b];exact .cons ⟨h1,h2⟩ f
theorem KV.length(r:KV a b):a.length=b.length:=Paired.length r
def vM(a:List (c×V))(k:c):(dF a k).length<=a.length:=tx _ _
end
def qd(r:aZ (kV k) u):(aL P w).is k u=true:=by cases k with|inl i=>obtain⟨t,e⟩:=(show∃t,u=Value.int i t from r);subst e;exact Bd P w i t|inr x=>obtain⟨t,e⟩:=(show∃t,u=Value.str x t from r);subst e;exact sR P w x t
theorem r6:∀{a:List b0}{b:RQ},bd (a.map kV) b->ItemsAre (aL P w) a b|[],_,r=>by rw[List.map_nil]at r;cases r;exact .nil|k::a,_,r=>by rw[no]at r;cases r with|cons h t=>exact .cons (qd h) (r6 t)
abbrev KT(H:Hp):List (List b0×V)->List (List b0×Addr×Value)->Prop:=Paired λp q=>p.1=q.1/\H q.2.1=some (.tup (p.1.map kV))/\aZ p.2 q.2.2
def KT.val{H:Hp}{a:List (List b0×V)}{f:List (List b0×Addr×Value)}(r:KT H a f)(k:List b0):ld (a0 a k) ((atKey f k).map (·.2)):=by induction r with|nil=>exact True.intro|@cons p q i c h t g=>
  obtain⟨h1,_,h2⟩:=h
  by_cases e:p.1=k
  ·have d:q.1=k:=h1.symm.trans e;have b:atKey (q::c) k=some q.2:=by simp[atKey,r3,d]
   rw[ck e,b];exact h2
  ·have d:¬q.1=k:=λz=>e (h1.trans z);have b:atKey (q::c) k=atKey c k:=by simp[atKey,r3,d]
   rw[bK e,b];exact g
def KT.repl(r:KT H a c)(k:List b0)(d:aZ y u):KT H (a.map λb=>if b.1=k then(b.1,y)else b) (c.map (putAt k u)):=by induction r with|nil=>exact .nil|@cons p q g i h t f=>
  rw[no,no];refine .cons ?_ f;obtain⟨h1,h2,h3⟩:=h;unfold putAt
  by_cases e:p.1=k
  ·rw[ku e,ku (h1.symm.trans e)];exact⟨h1,h2,d⟩
  ·rw[j2 e,j2 (λz=>e (h1.trans z))];exact⟨h1,h2,h3⟩
def KT.put(r:KT H a c)(k:List b0)(f:H b=some (.tup (k.map kV)))(d:aZ y u):KT H (dO a k y) (storedH c k b u):=by
 have e:(a.any λg=>decide (g.1=k))=(atKey c k).isSome:=by rw[mi,(r.val k).isSome_eq,Rp]
 unfold dO storedH;rw[e]
 by_cases q:(atKey c k).isSome=true
 ·rw[ku q,ku q];exact r.repl k d
 ·rw[j2 q,j2 q];exact Paired.snoc r ⟨rfl,f,d⟩
def KT.keeps(r:KT H a d)(e:∀b c,H b=some (.tup c)->f b=some (.tup c)):KT f a d:=Paired.mapP r λ_ _ z=>⟨z.1,e _ _ z.2.1,z.2.2⟩
section
variable{P:RR}{w:World}{H:Hp}{h:Heap}{a:Addr}
def La(ok:mh P w H h)(e:Rd H a u):cZ P w H h a u:=e.ok ok
def sY(ok:mh P w H h)(e:Rd H a (.dK b)):b.length<=sizeLine/\(a==sysModules)=false/\∃c,KV b c/\h.DictOf (aL P w) a c:=show cZ P w H h a (.dK b)from La ok e
def Lm(ok:mh P w H h)(e:H a=some (.dK b)):b.length<=sizeLine/\(a==sysModules)=false/\∃c,KV b c/\h.DictOf (aL P w) a c:=sY ok (.inl e)
def oW(ok:mh P w H h)(e:H a=some (.tup (c.map kV))):(tupleKind (aL P w)).is h c a:=by obtain⟨_,b,r,o,h1,h2,n,h3⟩:=(show cZ P w H h a (.tup (c.map kV))from ok a _ e);exact⟨o,b.toArray,n,h1,h2,h3,by simpa using r6 r⟩
def sX(ok:mh P w H h)(e:Rd H a (.dT b)):b.length<=sizeLine/\(a==sysModules)=false/\∃d,KT H b d/\h.DictOfH (tupleKind (aL P w)) a d:=by
 obtain⟨z,y,d,r,o,g,i,h1,h2,h3,h4,h5⟩:=(show cZ P w H h a (.dT b)from La ok e);refine⟨z,y,d,r,o,g,i,h1,h2,h3,h4,λx c=>?_,h5⟩;have all:∀{l:List (List b0×V)}{m:List (List b0×Addr×Value)},KT H l m->∀x∈m,(tupleKind (aL P w)).is h x.1 x.2.1:=by
  intro l m q
  induction q with|nil=>intro x c;exact nomatch c|@cons p q k n f t j=>
   intro x c;rcases ov.mp c with e|c
   ·subst e;exact oW ok (by rw[<-f.1];exact f.2.1)
   ·exact j x c
 exact all r x c
def OO(ok:mh P w H h)(e:H a=some (.dT b)):b.length<=sizeLine/\(a==sysModules)=false/\∃c,KT H b c/\h.DictOfH (tupleKind (aL P w)) a c:=sX ok (.inl e)
end
def du(H:Hp)(a:Addr)(y:V)(r:Option V):Prop:=(∃c k,Rd H a (.dK c)/\y=kV k/\r=a0 c k)\/∃c k b,Rd H a (.dT c)/\y=.ref b/\H b=some (.tup (k.map kV))/\r=a0 c k
def K5(H:Hp)(a:Addr)(y v:V)(d:Hp):Prop:=(∃c k,H a=some (.dK c)/\y=kV k/\c.length<sizeLine/\d=aA H a (.dK (dO c k v)))\/∃c k b,H a=some (.dT c)/\y=.ref b/\H b=some (.tup (k.map kV))/\c.length<sizeLine/\d=aA H a (.dT (dO c k v))
theorem du.k{H:Hp}{a:Addr}{b:List (b0×V)}{k:b0}(e:H a=some (.dK b)):du H a (kV k) (a0 b k):=.inl ⟨b,k,.inl e,rfl,rfl⟩
theorem K5.k{H:Hp}{a:Addr}{b:List (b0×V)}{k:b0}{v:V}(e:H a=some (.dK b))(c:b.length<sizeLine):K5 H a (kV k) v (aA H a (.dK (dO b k v))):=.inl ⟨b,k,e,rfl,c,rfl⟩
section
variable{X:Cx}{d:RO}{f:St}{H:Hp}{s:Shared}{a:Addr}{y v:V}{u r:Value}{o:Option V}{A:Around}{E:RN}
def aM.big(I:aM X d f H s):sysModules<s.heap.objs.size:=by have h:mainGlobals<s.heap.objs.size:=(I.mod.glob.keeps I.bk).lt;exact z3 (by decide) h
def Fl(C:A.units+1<cLine)(I:aM X d f H s)(g:du H a y (some v))(x:aZ y u)(h:∀j B,aM X d f H B->aZ v j->Q j B):wpAny (model X.prog X.w) A (getItem (.ref a) u) Q E s:=by
 rcases g with⟨m,k,e,n,l⟩|⟨m,k,b,e,n,D,l⟩
 ·subst n;obtain⟨z,hd,F,c,dd⟩:=sY I.hok e;obtain⟨j,q,i⟩:=ld.some_of (v:=v) (o:=valueAt F k) (by rw[l];exact c.val k);exact wpAny_getItem_of (qd x) dd.mapOf q (h j _ (I.tok _) i)
 ·subst n;cases(show u=Value.ref b from x);obtain⟨z,hd,G,c,dd⟩:=sX I.hok e;obtain⟨j,q,i⟩:=ld.some_of (v:=v) (o:=(atKey G k).map (·.2)) (by rw[l];exact c.val k);obtain⟨p,J,t⟩:=Option.map_eq_some_iff.mp q;refine wpAny_getItem_heap (C2 C) (oW I.hok D) dd J ?_;rw[t];exact h j _ (I.tok _) i
def PJ(t:A.units+1<cLine)(I:aM X d f H s)(g:du H a y o)(n:aZ y u)(h:∀p,aM X d f H p->Q (.bool o.isSome) p):wpAny (model X.prog X.w) A (compareOp .In u (.ref a)) Q E s:=by
 rcases g with⟨i,k,e,j,l⟩|⟨i,k,b,e,j,m,l⟩
 ·subst j;obtain⟨z,hd,x,c,dd⟩:=sY I.hok e;refine wpAny_in_of (qd n) hd dd.mapOf ?_;rw[<-(c.val k).isSome_eq,<-l];exact h _ (I.tok _)
 ·subst j;cases(show u=Value.ref b from n);obtain⟨z,hd,B,c,dd⟩:=sX I.hok e;refine wpAny_in_heap (C2 t) (oW I.hok m) hd dd ?_;have q:=(c.val k).isSome_eq;rw[Rp]at q;rw[<-q,<-l];exact h _ (I.tok _)
def DT(t:A.units+1<cLine)(I:aM X d f H s)(g:du H a y o)(n:aZ y u)(h:∀p,aM X d f H p->Q (.bool (!o.isSome)) p):wpAny (model X.prog X.w) A (compareOp .NotIn u (.ref a)) Q E s:=by
 rcases g with⟨i,k,e,j,l⟩|⟨i,k,b,e,j,m,l⟩
 ·subst j;obtain⟨z,hd,x,c,dd⟩:=sY I.hok e;refine wpAny_notIn_of (qd n) hd dd.mapOf ?_;rw[<-(c.val k).isSome_eq,<-l];exact h _ (I.tok _)
 ·subst j;cases(show u=Value.ref b from n);obtain⟨z,hd,B,c,dd⟩:=sX I.hok e;refine wpAny_notIn_heap (C2 t) (oW I.hok m) hd dd ?_;have q:=(c.val k).isSome_eq;rw[Rp]at q;rw[<-q,<-l];exact h _ (I.tok _)
def ur(I:aM X d f H s)(c:OU (H a))(g:Heap.SameBut a s.heap h')(h:∃q,h'.get? a=some q)(new:cZ X.prog X.w (aA H a ob) h' a ob):aM X d f (aA H a ob) {s with heap:=h',toks:=j}:=I.write (x:=a) (e:=a) c (.inl rfl) (λb q i z=>(g.2 b i).trans z) h new
def Ih(z:b.length<=sizeLine)(hd:(a==sysModules)=false)(c:KV b e)(dd:h'.DictOf (aL P w) a e):cZ P w g h' a (.dK b):=⟨z,hd,e,c,dd⟩
def Fk(M:A.units+1<cLine)(I:aM X d f H s)(g:K5 H a y v N)(F:aZ y u)(G:aZ v r)(h:∀J,aM X d f N J->Q () J):wpAny (model X.prog X.w) A (setItem (.ref a) u r) Q E s:=by
 rcases g with⟨i,k,e,p,l,t⟩|⟨i,k,b,e,p,K,l,t⟩
 ·subst p t;obtain⟨z,hd,O,j,dd⟩:=Lm I.hok e;have x:O.length<=sizeLine:=by rw[<-j.length];exact z
  have B:(dO i k v).length<=sizeLine:=by have:=j9 i k v;lia
  refine wpAny_setItem_pairs (hsz:=x) (qd F) dd λh' m D=>h _ ?_;have P:∃q,h'.get? a=some q:=let⟨q,_,_,n,_⟩:=m;⟨q,n⟩;exact ur I (by rw[e];exact True.intro) D P (Ih B hd (j.put k G) m)
 ·subst p t;cases(show u=Value.ref b from F);obtain⟨z,hd,R,j,dd⟩:=OO I.hok e;have x:R.length<=sizeLine:=by rw[<-Paired.length j];exact z
  have B:(dO i k v).length<=sizeLine:=by have:=j9 i k v;lia
  refine wpAny_setItem_heap (hsz:=x) (C2 M) (oW I.hok K) dd λh' m D=>h _ ?_;obtain⟨q,S,T,n,h2,h3,h4,_,h5⟩:=m;refine ur I (by rw[e];exact True.intro) D ⟨q,n⟩ ⟨B,hd,_,(j.put k K G).keeps λc U L=>?_,q,S,T,n,h2,h3,h4,h5⟩;rw[ao (On L e (nofun))];exact L
end
section
variable{X:Cx}{c:RO}{d:St}{H:Hp}{s:Shared}{a:Addr}{b:List (b0×V)}{k:b0}{u:Value}{A:Around}{E:RN}
def OP(I:aM X c d H s)(e:H a=some (.dK b))(n:aZ (kV k) u)(l:a0 b k=some v)(hm:f=[]\/∃x,f=[x])(h:∀j r,aM X c d (aA H a (.dK (dF b k))) r->aZ v j->Q j r):wpAny (model X.prog X.w) A (call (.builtin "dict.pop") (.ref a::u::f)) Q E s:=by
 obtain⟨z,hd,y,g,dd⟩:=Lm I.hok e;obtain⟨j,B,p⟩:=ld.some_of (v:=v) (o:=valueAt y k) (by rw[<-l];exact g.val k);have C:(keyPart u).isSome=true:=by cases k with|inl i=>obtain⟨t,q⟩:=(show∃t,u=Value.int i t from n);subst q;rfl|inr x=>obtain⟨t,q⟩:=(show∃t,u=Value.str x t from n);subst q;rfl
 have D:argsOk "dict.pop" ⟨.ref a::u::f,[]⟩:=by
  rcases hm with q|⟨x,q⟩
  ·subst q;exact PySem.F.args_dict_pop_2 _ _
  ·subst q;exact PySem.F.args_dict_pop_3 _ _ _
 refine C_ PySem.F.slot_dict_pop dd.typeIs PySem.F.entry_dict_pop D (meets_dict_pop_there (aL X.prog X.w) a (qd n) f hm C) ⟨y,j,dd,by rw[<-g.length];exact z,B,λh' m G=>h j _ ?_ p⟩
 have J:∃q,h'.get? a=some q:=let⟨q,_,_,K,_⟩:=m;⟨q,K⟩;exact ur I (by rw[e];exact True.intro) G J (Ih (nh (vM b k) z) hd (g.drop k) m)
end
def OT(i:Expr):Prop:=∀a iv,subscripted i false a iv=operate [a,iv] (getItem a iv)
def Jj{prog:RR}{w:World}{A:Around}{E:RN}{s:Shared}{env:Env}{b a:Expr}{j:Pos}{T id:String}{Q:RN}(l:typeLookup (.type T) "__getitem__"=pure (some (.builtin id)))(n:OT a)(h:wpAny (model prog w) A (eval b env) (λo s₁=>wpAny (model prog w) A (eval a env) (λi c=>c.TypeIs o T/\wpAny (model prog w) A (getItem o i) Q E c) E s₁) E s):wpAny (model prog w) A (eval (.Subscript b a j) env) Q E s:=by
 refine Subscript_ (wpAny_mono h (λo s₁ f=>wpAny_mono f (λi c d=>?_) λ_ _ x=>x) λ_ _ x=>x);obtain⟨k,d⟩:=d;unfold subscriptTail;refine a_ ?_;rw[getitemInPython_of_ne k.not_modules];refine a_ (QW k l ?_);have fin:wpAny (model prog w) A (subscripted a false o i) (λr e=>wpAny (model prog w) A (letTemporaryGo b o r>>=λ_=>pure r) Q E e) E c:=by rw[n o i];exact wpAny_operating (wpAny_mono d (λr e g=>a_ (wpAny_letTemporaryGo (e_ g))) λ_ _ x=>x)
 first|exact e_ (a_ fin)|exact a_ (e_ (a_ fin))|exact a_ fin
def By(I:aM X d f H s)(g:du H a y o):s.TypeIs (.ref a) "dict":=by
 rcases g with⟨c,k,e,_,_⟩|⟨c,k,b,e,_,_,_⟩
 ·obtain⟨_,_,h,_,dd⟩:=sY I.hok e;exact dd.typeIs
 ·obtain⟨_,_,i,_,dd⟩:=sX I.hok e;exact dd.typeIs
def N1(d ty:TE):TE:=λb H Q=>d b H λx e=>ty b e λy c=>∃a v,x=.ref a/\du c a y (some v)/\Q v c
def Pn(ty d:TE):TE:=λb H Q=>ty b H λy e=>d b e λx c=>∃a o,x=.ref a/\du c a y o/\Q (.bl o.isSome) c
def Ji(ty d:TE):TE:=λb H Q=>ty b H λy e=>d b e λx c=>∃a o,x=.ref a/\du c a y o/\Q (.bl (!o.isSome)) c
section
variable{X:Cx}{o i e c:Expr}{d j f:Pos}{b ty l:TE}
def dP(q:X.A.units+1<cLine)(r:PE X o b)(hi:PE X i ty)(t:OT i):PE X (.Subscript o i d) (N1 b ty):=by intro k s n H Q I h;refine Jj PySem.F.slot_dict_getitem.lookup t (cw (r k s n H _ I h) λu w⟨x,z,I1,B,C⟩=>cw (hi k w n z _ I1 C) λiv K⟨y,D,p,E,a,v,ex,g,G⟩=>?_);subst ex;obtain rfl:u=Value.ref a:=B;exact⟨By p g,Fl q p g E λL M J m=>⟨v,D,J,m,G⟩⟩
def u7(n:X.A.units+1<cLine)(hi:PE X i ty)(p:PE X o b):PC X .In i o (Pn ty b):=by intro k s m H Q I h;refine cw (hi k s m H _ I h) λiv q⟨y,r,I1,t,v⟩=>cw (p k q m r _ I1 v) λu F⟨x,w,z,B,a,C,ex,g,D⟩=>?_;subst ex;obtain rfl:u=Value.ref a:=B;exact PJ n z g t λG E=>⟨.bl C.isSome,w,E,rfl,D⟩
def qX(n:X.A.units+1<cLine)(hi:PE X i ty)(p:PE X o b):PC X .NotIn i o (Ji ty b):=by intro k s m H Q I h;refine cw (hi k s m H _ I h) λiv q⟨y,r,I1,t,v⟩=>cw (p k q m r _ I1 v) λu F⟨x,w,z,B,a,C,ex,g,D⟩=>?_;subst ex;obtain rfl:u=Value.ref a:=B;exact DT n z g t λG E=>⟨.bl (!C.isSome),w,E,rfl,D⟩
end
def Ii(h:Heap)(a:sysModules<h.objs.size):cZ P w H (h.push {cls:=.type "dict",data:=.dict #[]}) h.objs.size (.dK []):=⟨ng _,z8.mpr (ol (lm a)),[],.nil,Heap.DictOf.new h⟩
def LM:TE:=λ_ H Q=>∀p,H p=none->Q (.ref p) (aA H p (.dK []))
section
variable{X:Cx}{b:Pos}
def jv:PE X (.Dict [] [] b) LM:=λc s d H Q I h=>wpAny_Dict_empty ⟨.ref s.heap.objs.size,_,I.laid (a:=s.heap.objs.size) (o:=.dK []) (t':=s.toks) (λ_ _ q=>b_ _ q) (g_ _) (Ii s.heap I.big),rfl,h _ (I.hok.fresh (g_ _))⟩
end
structure M1(X:Cx)(o:Expr)(m:Str)(apos:Pos)(e:Expr)(cpos:Pos):Prop where
 base:attributeBase o m X.env (eval o X.env)=eval o X.env
 few:((backTo cpos (starEach [e] X.env)).all (λx=>!x.1)&&(backToKw cpos (keywordEach [] X.env)).all (λx=>x.1.isSome)&&decide (([e]:RT).length+([]:List Keyword).length+(if([]:List Keyword).isEmpty then 0 else 1)<30))=true
 line:(apos.endLine==cpos.line)=true
 trees:backTo cpos (starEach [e] X.env)=[(false,eval e X.env)]
structure M2(X:Cx)(o:Expr)(m:Str)(apos:Pos)(e f:Expr)(cpos:Pos):Prop where
 base:attributeBase o m X.env (eval o X.env)=eval o X.env
 few:((backTo cpos (starEach [e,f] X.env)).all (λx=>!x.1)&&(backToKw cpos (keywordEach [] X.env)).all (λx=>x.1.isSome)&&decide (([e,f]:RT).length+([]:List Keyword).length+(if([]:List Keyword).isEmpty then 0 else 1)<30))=true
 line:(apos.endLine==cpos.line)=true
 trees:backTo cpos (starEach [e,f] X.env)=[(false,eval e X.env),(false,eval f X.env)]
def Pe(H:Hp)(a:Addr):Prop:=(∃b,Rd H a (.dK b))\/∃b,Rd H a (.dT b)
def CW(I:aM X f g H s)(d:Pe H a):s.TypeIs (.ref a) "dict"/\(∀b,Value.ref a=.ref b->∃ob,s.heap.get? b=some ob/\ob.dict=none)/\(a==sysModules)=false:=by
 rcases d with⟨c,e⟩|⟨c,e⟩
 ·obtain⟨_,hd,h,_,dd⟩:=sY I.hok e;refine⟨dd.typeIs,λb q=>?_,hd⟩;cases q;obtain⟨ob,_,_,h1,h2,_⟩:=dd;exact⟨ob,h1,h2.2.1⟩
 ·obtain⟨_,hd,i,_,dd⟩:=sX I.hok e;refine⟨dd.typeIs,λb q=>?_,hd⟩;cases q;obtain⟨ob,_,_,h1,h2,_⟩:=dd;exact⟨ob,h1,h2.2.1⟩
section
variable{X:Cx}{c:RO}{f:St}{H:Hp}{s:Shared}{a:Addr}{y d:V}{u r:Value}{o:Option V}{A:Around}{E:RN}
def M7(t:A.units+1<cLine)(I:aM X c f H s)(g:du H a y o)(n:aZ y u)(h:∀p q,aM X c f H q->aZ (o.getD .non) p->Q p q):wpAny (model X.prog X.w) A (call (.builtin "dict.get") [.ref a,u]) Q E s:=by
 rcases g with⟨j,k,e,m,l⟩|⟨j,k,b,e,m,v,l⟩
 ·subst m;obtain⟨z,hd,B,i,dd⟩:=sY I.hok e;refine C_ PySem.F.slot_dict_get dd.typeIs PySem.F.entry_dict_get (PySem.F.args_dict_get_2 _ _) (meets_dict_get (aL X.prog X.w) a (qd n) hd) ⟨_,dd.mapOf,h _ _ (I.tok _) ?_⟩;rw[l];exact(i.val k).getD rfl
 ·subst m;cases(show u=Value.ref b from n);obtain⟨z,hd,x,i,dd⟩:=sX I.hok e;refine C_ PySem.F.slot_dict_get dd.typeIs PySem.F.entry_dict_get (PySem.F.args_dict_get_2 _ _) (meetsH_dict_get (tupleKind (aL X.prog X.w)) a b hd) ⟨C2 t,k,x,oW I.hok v,dd,h _ _ (I.tok _) ?_⟩;rw[l];exact(i.val k).getD rfl
def M6(v:A.units+1<cLine)(I:aM X c f H s)(g:du H a y o)(n:aZ y u)(p:aZ d r)(h:∀q t,aM X c f H t->aZ (o.getD d) q->Q q t):wpAny (model X.prog X.w) A (call (.builtin "dict.get") [.ref a,u,r]) Q E s:=by
 rcases g with⟨j,k,e,m,l⟩|⟨j,k,b,e,m,x,l⟩
 ·subst m;obtain⟨z,hd,C,i,dd⟩:=sY I.hok e;refine C_ PySem.F.slot_dict_get dd.typeIs PySem.F.entry_dict_get (PySem.F.args_dict_get_3 _ _ _) (meets_dict_get_default (aL X.prog X.w) a (qd n) hd r) ⟨_,dd.mapOf,h _ _ (I.tok _) ?_⟩;rw[l];exact(i.val k).getD p
 ·subst m;cases(show u=Value.ref b from n);obtain⟨z,hd,B,i,dd⟩:=sX I.hok e;refine C_ PySem.F.slot_dict_get dd.typeIs PySem.F.entry_dict_get (PySem.F.args_dict_get_3 _ _ _) (meetsH_dict_get_default (tupleKind (aL X.prog X.w)) a b hd r) ⟨C2 v,k,B,oW I.hok x,dd,h _ _ (I.tok _) ?_⟩;rw[l];exact(i.val k).getD p
end
def LO(e ty:TE):TE:=λb H Q=>e b H λx c=>∃a,x=.ref a/\Pe c a/\ty b c λy d=>∃o,du d a y o/\Q (o.getD .non) d
def LN(e ty f:TE):TE:=λb H Q=>e b H λx c=>∃a,x=.ref a/\Pe c a/\ty b c λy g=>f b g λz d=>∃o,du d a y o/\Q (o.getD z) d
def LK(f ty:TE):TE:=λc H Q=>f c H λx d=>∃a,x=.ref a/\Pe d a/\ty c d λy e=>∃b k v,e a=some (.dK b)/\y=kV k/\a0 b k=some v/\Q v (aA e a (.dK (dF b k)))
section
variable{X:Cx}{o e f:Expr}{b c:Pos}{i ty j:TE}
def u5(p:X.A.units+1<cLine)(q:PE X o i)(r:PE X e ty)(m:M1 X o "get" b e c):PE X (.Call (.Attribute o "get" b) [e] [] c) (LO i ty):=by intro k s n H Q I h;refine Qc m.base m.few m.line PySem.F.plainAttrs_dict PySem.F.slot_dict_get PySem.F.type_dict_get (cw (q k s n H _ I h) λu t⟨x,v,I1,w,a,ex,d,z⟩=>?_);subst ex;obtain rfl:u=Value.ref a:=w;obtain⟨B,C,_⟩:=CW I1 d;refine⟨B,C,?_⟩;rw[m.trees];refine r4 rfl (t_ (rV (cw (r k t n v _ I1 z) λiv L⟨y,D,E,G,M,g,J⟩=>vr ?_)));exact M7 p E g G λN O K l=>⟨_,D,K,l,J⟩
def AJ(p:X.A.units+1<cLine)(q:PE X o i)(r:PE X e ty)(t:PE X f j)(m:M2 X o "get" b e f c):PE X (.Call (.Attribute o "get" b) [e,f] [] c) (LN i ty j):=by
 intro k s l H Q I h;refine Qc m.base m.few m.line PySem.F.plainAttrs_dict PySem.F.slot_dict_get PySem.F.type_dict_get (cw (q k s l H _ I h) λu v⟨x,w,I1,B,a,ex,d,C⟩=>?_);subst ex;obtain rfl:u=Value.ref a:=B;obtain⟨D,E,_⟩:=CW I1 d;refine⟨D,E,?_⟩;rw[m.trees];refine r4 rfl (t_ (rV (cw (r k v l w _ I1 C) λiv G⟨y,J,K,L,M⟩=>rV (cw (t k G l J _ K M) λT U⟨z,N,O,P,V,g,R⟩=>vr ?_))))
 exact M6 p O g L P λW Y S n=>⟨_,N,S,n,R⟩
def u4(q:PE X o i)(r:PE X e ty)(m:M1 X o "pop" b e c):PE X (.Call (.Attribute o "pop" b) [e] [] c) (LK i ty):=by intro g s p H Q I h;refine Qc m.base m.few m.line PySem.F.plainAttrs_dict PySem.F.slot_dict_pop PySem.F.type_dict_pop (cw (q g s p H _ I h) λu t⟨x,w,I1,z,a,ex,d,A⟩=>?_);subst ex;obtain rfl:u=Value.ref a:=z;obtain⟨B,C,_⟩:=CW I1 d;refine⟨B,C,?_⟩;rw[m.trees];refine r4 rfl (t_ (rV (cw (r g t p w _ I1 A) λiv N⟨y,O,D,E,G,k,v,J,K,l,L⟩=>vr ?_)));subst K;exact OP D J E l (.inl rfl) λP R M n=>⟨v,_,M,n,L⟩
end
section
variable{X:Cx}{b:RO}{d:St}{H:Hp}{s:Shared}{a:Addr}{c:List (b0×V)}{A:Around}{E:RN}
end
section
variable{X:Cx}{b:RO}{c:St}{H:Hp}{s:Shared}{a:Addr}{y:V}{u:Value}{A:Around}{E:RN}
end
end L2
namespace Att
open PySem PySem.W PySem.Calls PyProof.Rows
def ua:∀(ns:RX)(c:RQ),WellAll P h c (ns.map WData.int)->IntsAre c ns:=by
 intro ns
 induction ns with|nil=>intro c w;rw[List.map_nil]at w;cases w;exact .nil|cons n ns d=>intro c w;rw[no]at w;cases w with|cons a b=>cases a;exact .cons _ _ (d _ b)
def Ew{l:OpenLaw}{n:Nat}(hn:l.most=some n){P:Params}{h:Heap}{args:List WData}{b:RQ}(c:l.row.toRowW.claim.pre args=true)(g:WellAll P h b args):∃a j ns,b=[Value.ref a]/\args=[WData.list (ns.map WData.int)]/\h.get? a=some {cls:=.type "list",data:=.seq j.toArray}/\IntsAre j ns/\ns.length<=n:=by
 have i:WShape.hasAll [] args [.list .int]=true:=(pre_splitW c).1;have hc:l.pre.holds [] {args:=args}=true:=(pre_splitW c).2;obtain⟨d,r,rfl,h1,h2⟩:=hasAllW_cons i;obtain rfl:=hasAllW_nil h2;obtain⟨s,rfl,h3⟩:=hasW_list h1;obtain⟨ns,rfl⟩:=items_int h3;have e:ns.length<=n:=by
  unfold OpenLaw.pre at hc;have h4:(WTm.not (.lt (.lit (.int (n:Int))) (.len (.arg 0)))).holds [] {args:=[.list (ns.map .int)]}=true:=by have h4:=(holds_andW hc).1;rw[hn]at h4;exact h4
  have h5:=condW_of h4 (w_not (w_lt w_lit (w_len_list (w_arg rfl))));rw[c_]at h5;refine O_ λq=>?_;have k:(n:Int)<((ns.length:Nat):Int):=by lia
  first|(rw[m_ k]at h5;exact absurd h5 (by decide))|(simp at h5;lia)
 cases g with|cons m o=>cases o;cases m with|list p f=>exact⟨_,_,ns,rfl,rfl,p,ua ns _ f,e⟩
def EB(l:OpenLaw)(args:List WData):l.row.toRowW.claim.post args (.bool true) args=true:=postW_of (r:=l.row.toRowW) (X:=(true==true)) (show WShape.has [] (.bool true) .bool=true by first|rfl|decide|simp[WShape.has,WShape.arms,WShape.armsAll]) (show(WTm.eq .res (.lit (.bool true))).value [] {args:=args,res:=some (.bool true),after:=args}=some (.bool (true==true))from w_eq_bool (w_res rfl) w_lit) rfl
def BK{l:OpenLaw}{n:Nat}{q:RR}{b:RS}{x:(Str->Option Value)->Heap->Prop}{y:World->Heap->Prop}{d:DefRec}(hn:l.most=some n)(s:d.params.defaults=[])(call:∀(w:World)(s₀ s₁:Shared)(mg t:RP)(h:Addr)(o:Obj)(pm cd c:Value)(a:Addr)(g:RQ)(ns:RX),Ground q b [] x w s₀ mg t s₁.heap->y w s₁.heap->s₁.heap.get? h=some o->o.data=.func (docDef d.name d.params d.body d.scope pm cd c)->s₁.heap.CodeRec cd d.name->mg d.name=some (.ref h)->s₁.heap.get? a=some {cls:=.type "list",data:=.seq g.toArray}->IntsAre g ns->ns.length<=n->s₁.gens=#[]->codeAny (model l.prog w) callerA (.call (.ref h) ⟨[.ref a],[]⟩) (λr p=>r=.ok (.ret (.bool true))/\OldK s₁.heap p.heap/\p.os=s₁.os/\AllBare p.gens) s₁):WalkO q b x y l.row.toRowW d [] (λf g=>PySem.call f g):=by intro w s₀ s₁ mg t G Y h o pm cd c D kV E hd m z u hg A B J i C F v H;obtain rfl:D=.none:=Dflts.none z s;obtain rfl:kV=.none:=Dflts.noKw z;obtain⟨a,g,ns,rfl,rfl,j,e,k⟩:=Ew hn i v;refine enter_call (so (call w s₀ s₁ mg t h o pm cd c a g ns G Y E (fd_plain hd) m u j e k hg) λr p I=>?_);obtain⟨rfl,h2,h3,h4⟩:=I;exact⟨.inl ⟨.bool true,.bool true,[],rfl,λ_=>rfl,.bool true,EB l _,λ_=>⟨List.Pairwise.nil,λ_ hm=>(nomatch hm)⟩⟩,h2,h3,h4⟩
section
variable{prog:RR}{w:World}{A:Around}{E:RN}{s:Shared}{K:Frag}
end
end Att
namespace L2
open PySem PySem.Spec PyProof.Rows
theorem xE:∀{a:RQ}{ns:RX},IntsAre a ns->bd (ns.map V.int) a|_,_,.nil=>.nil|_,_,.cons n t h=>.cons ⟨t,rfl⟩ (xE h)
def BN(H:Hp):Prop:=∀b,H b=none\/∃o a,H b=some (.frz o (.lst a))
def Hq{P:RR}{w:World}{K:RM}{mg J:RP}{T:BZ}{k:Nat}{L a:Addr}{fd:FuncData}{x:Str}{sp:Sp}{s₁:Shared}{l:RQ}{ns:RX}(X:K.In s₁.heap)(t:s₁.heap.Ns mainGlobals mg)(f:s₁.heap.Ns builtinsNs J)(M:∀x:Str,x≠"__name__"->J x=bootBuiltins x)(y:s₁.heap.NoLimit)(hg:s₁.gens=#[])(I:s₁.heap.get? a=some {cls:=.type "list",data:=.seq l.toArray})(hi:IntsAre l ns)(Z:ns.length<=sizeLine)(hr:eE k callerA)(F:∀base:Heap,K.In base->base.Ns mainGlobals mg->aS P w K mg base T k L fd [x] sp)(p:∀(s:Shared)(u:Value),BindsTo s fd ⟨[u],[]⟩ [(x,u)])(N:∀H:Hp,BN H->aW K H a (ns.map V.int)->sp [.ref a] H (λv _=>v=.bl true) λ_ _ _=>False)(Q:∀H e g,T [] H s₁ (λ_ _ _=>False) e g->False):codeAny (model P w) callerA (.call (.ref L) ⟨[.ref a],[]⟩) (λr g=>r=.ok (.ret (.bool true))/\OldK s₁.heap g.heap/\g.os=s₁.os/\AllBare g.gens) s₁:=by
 have U:=xE hi;have A:=hi.length;have j:∀H:Hp,BN H->aW K H a (ns.map V.int)->mh P w H s₁.heap->(∀b,H b≠none->b=a)->(H a≠none->K.lookup a=none)->codeAny (model P w) callerA (.call (.ref L) ⟨[.ref a],[]⟩) (λr g=>r=.ok (.ret (.bool true))/\OldK s₁.heap g.heap/\g.os=s₁.os/\AllBare g.gens) s₁:=by
  intro H Y hS hok hA hK;have c:∀{b:Addr}{o:Obj},s₁.heap.get? b=some o->H b=none->(zx s₁.heap H).get? b=some o:=λe n=>HJ e n;have O:∀{b:Addr}{o:Obj}{B:Array DictEntry}{C:Nat},s₁.heap.get? b=some o->o.data=.dict B C->H b=none:=λ{b o B C}e d=>by cases q:H b with|none=>rfl|some u=>have R:b=a:=hA b (by rw[q];simp);subst R;rw[I]at e;cases e;have d':Data.seq l.toArray _=Data.dict B C:=d;cases d'
  have i:∀{b:Addr}{m:RP},s₁.heap.Ns b m->(zx s₁.heap H).Ns b m:=λ{b m}⟨o,B,C,e,d,r⟩=>⟨o,B,C,c e (O e d),d,r⟩;have D:K.In (zx s₁.heap H):=λb o e=>c (X b o e) (by cases q:H b with|none=>rfl|some u=>have R:b=a:=hA b (by rw[q];simp);subst R;rw[hK (by rw[q];simp)]at e;cases e)
  have hM:OV K mg (zx s₁.heap H):=⟨D,i t,⟨J,i f,M⟩,let⟨mc,h1,h2⟩:=y;⟨mc,i h1,h2⟩⟩;have e0:Do P w K mg (zx s₁.heap H) callerA [] s₁ H:=⟨rfl,hM,λb o e=>J7 e,Qd (E2 _ _),trivial,λb f=>absurd (show b∈([]:RW)from f) (by simp),hok,.of_eq hg⟩;refine so ((F _ D (i t)).run callerA [] s₁ H ⟨[.ref a],[]⟩ [.ref a] [.ref a] _ _ hr e0 (p s₁ (.ref a)) (.cons rfl .nil) (N H Y hS)) λr g h=>?_;cases r with|error e=>exact(Q H e g h).elim|ok fl=>cases fl with|next=>exact False.elim h|brk=>exact False.elim h|cont=>exact False.elim h|ret u=>obtain⟨v,H',os,bare,un,E,r',q⟩:=h;have q':v=.bl true:=q;subst q';obtain rfl:u=Value.bool true:=r';refine⟨rfl,OldK.of_keep λb o e=>?_,os,bare⟩;cases q:H b with|none=>exact un.keep b o e q (by intro z;exact absurd (show b∈([]:RW)from z) (by simp)) (by simp)|some u=>
     rcases Y b with z|⟨ob,xs,z⟩
     ·rw[q]at z;cases z
     ·have z2:=un.frzs b ob _ z;obtain⟨e1,_⟩:=hok b _ z;obtain⟨e2,_⟩:=E b _ z2;rw[e]at e1;cases e1;exact e2
 cases S:K.lookup a with|some o=>have e:=X a o S;rw[I]at e;cases e;refine j (λ_=>none) (λ_=>.inl rfl) (.inr ⟨_,l.toArray,_,S,rfl,rfl,rfl,by rw[lh,A];exact Z,by simpa using U⟩) (λb u z=>by have G:(none:Option HO)=some u:=z;cases G) (λb z=>absurd rfl z) λz=>absurd rfl z|none=>
  refine j (λb=>if b=a then some (.frz {cls:=.type "list",data:=.seq l.toArray} (.lst (ns.map V.int)))else none) (λb=>?_) (.inl (.inr ⟨{cls:=.type "list",data:=.seq l.toArray},ku rfl⟩)) (λb u z=>?_) (λb z=>?_) λ_=>S
  ·by_cases f:b=a
   ·exact .inr ⟨_,_,ku f⟩
   ·exact .inl (j2 f)
  ·by_cases f:b=a
   ·have G:=(ku f).symm.trans z;cases G;subst f;exact⟨I,by rw[c_];exact Z,l,_,U,I⟩
   ·have G:=(j2 f).symm.trans z;cases G
  ·by_cases f:b=a
   ·exact f
   ·exact absurd (j2 f) z
end L2
namespace L2
open PySem PySem.Spec PyProof.Rows
abbrev KOf{K:RM}{h:Heap}(_:K.In h):RM:=K
def Jc{l:PySem.W.OpenLaw}{n k:Nat}{q:RR}{i:RS}{I:(Str->Option Value)->Heap->Prop}{C:World->Heap->Prop}{d:DefRec}{K:Params->RM}{CX:World->BZ}{sp:World->Sp}{x:Str}(hn:l.most=some n)(r:n<=sizeLine)(t:d.params.defaults=[])(J:eE k callerA)(L:∀(w:World)(h:Heap),C w h->(K w.params).In h)(F:∀(w:World)(mg:RP)(p:Addr)(h:Heap),(K w.params).In h->h.Ns mainGlobals mg->mg d.name=some (.ref p)->∃fd:FuncData,(∀(s:Shared)(u:Value),BindsTo s fd ⟨[u],[]⟩ [(x,u)])/\∀base:Heap,(K w.params).In base->base.Ns mainGlobals mg->aS l.prog w (K w.params) mg base (CX w) k p fd [x] (sp w))(y:∀(w:World)(H:Hp)(a:Addr)(ns:RX),ns.length<=n->BN H->aW (K w.params) H a (ns.map V.int)->sp w [.ref a] H (λv _=>v=.bl true) λ_ _ _=>False)(z:∀(w:World)(H:Hp)(s:Shared)(e:Value)(A:Shared),CX w [] H s (λ_ _ _=>False) e A->False):PySem.W.WalkO q i I C l.row.toRowW d [] (λf D=>PySem.call f D):=by refine Att.BK hn t λw s₀ s₁ mg S p o pm cd M a D ns G Y U hd N B m j c hg=>?_;have E:=L w _ Y;obtain⟨fd,O,P⟩:=F w mg p _ E G.T.g B;exact Hq E G.T.g G.T.b G.T.builtins G.T.nolimit hg m j (nh c r) J P O (λH Q R=>y w H a ns c Q R) λH e A=>z w H s₁ e A
def FN{l:PySem.W.OpenLaw}{n k:Nat}{q:RR}{b:RS}{t:(Str->Option Value)->Heap->Prop}{p:World->Heap->Prop}{d:DefRec}{K:Params->RM}{CX:BZ}{sp:RM->Sp}{x:Str}(hn:l.most=some n)(c:n<=sizeLine)(g:d.params.defaults=[])(y:eE k callerA)(z:∀(w:World)(h:Heap),p w h->(K w.params).In h)(F:∀(w:World)(mg:RP)(r:Addr)(h:Heap),(K w.params).In h->h.Ns mainGlobals mg->mg d.name=some (.ref r)->∃fd:FuncData,(∀(s:Shared)(u:Value),BindsTo s fd ⟨[u],[]⟩ [(x,u)])/\∀base:Heap,(K w.params).In base->base.Ns mainGlobals mg->aS l.prog w (K w.params) mg base CX k r fd [x] (sp (K w.params)))(i:∀(K:RM)(H:Hp)(a:Addr)(ns:RX),ns.length<=n->BN H->aW K H a (ns.map V.int)->sp K [.ref a] H (λv _=>v=.bl true) λ_ _ _=>False)(j:∀(H:Hp)(s:Shared)(e:Value)(o:Shared),CX [] H s (λ_ _ _=>False) e o->False):PySem.W.WalkO q b t p l.row.toRowW d [] (λf A=>PySem.call f A):=Jc (K:=K) (CX:=λ_=>CX) (sp:=λw=>sp (K w.params)) hn c g y z F (λw H a ns h1 h2 h3=>i (K w.params) H a ns h1 h2 h3) λ_ H s e o=>j H s e o
end L2
namespace L2
open PySem PySem.Spec PyProof.Rows
def qk(s:Stmt):Arguments:=match s with|.FunctionDef _ a _ _ _ _ _ _ _ _=>a|_=>{posonlyargs:=[],args:=[],vararg:=none,kwonlyargs:=[],kw_defaults:=[],kwarg:=none,defaults:=[]}
def gk(s:Stmt):List Stmt:=match s with|.FunctionDef _ _ b _ _ _ _ _ _ _=>b|_=>[]
def ak(s:Stmt):Scope:=match s with|.FunctionDef _ _ _ _ _ _ a _ _ _=>a|_=>{kind:=.function,names:=[],isGenerator:=false,isCoroutine:=false}
abbrev dw:BZ:=λ_ _ _ _ _ _=>False
abbrev E0:XK:=λ_ _ _=>False
def bo:mT dw X E0:=λ_ _ _ _ _ _ _ h=>h.elim
structure zZ(K:RM)(x qual:Str)(st:Stmt)(f:Addr)(fd:FuncData):Prop where
 ex:∃(oc:Value)(od:Option Addr)(kV doc pm:Value)(an:Option Addr)(cdv ct:Value)(osl:Array (Option Value)),fd=PySem.W.fnOf x qual (qk st) (gk st) (ak st) .none kV doc pm an cdv ct/\K.lookup f=some ⟨oc,od,.func fd,osl⟩/\PySem.W.codeIn K cdv qual=true
 kp:PySem.W.keepIn K (.ref f)=true
section
variable{P:RR}{w:World}{K:RM}{mg:RP}{base:Heap}
def zZ.ok{x a:Str}{st:Stmt}{f:Addr}{fd:FuncData}{N e:RS}{k:Nat}{sp:Sp}(F:zZ K x a st f fd)(S:ay N e (ak st))(len:∀c H Q E,sp c H Q E->c.length=e.length)(d:∀(b:Value)(A:Around)(outer:List Env)(s:Shared)(H:Hp)(c:List V)(Q:VK)(E:XK),eE k (A.deeper (envOfC a (ak st) s.heap.objs.size f b))->sp c H Q E->∃t,xC (sk dw P w K mg base N a (ak st) f b A outer s H E).nox (gk st) t/\t {nx:=λ_ j=>Q .non j,rt:=Q} (jh N c) H):aS P w K mg base dw (k+1) f fd e sp:=by obtain⟨oc,p,kV,l,pm,r,b,ct,m,rfl,n,g⟩:=F.ex;refine Lh n g S len λA outer s H c Q E o i=>?_;obtain⟨t,h,q⟩:=d b A outer s H c Q E o i;exact⟨t,h.nox,q⟩
def zZ.binds{x a:Str}{st:Stmt}{f:Addr}{fd:FuncData}{d:RS}(F:zZ K x a st f fd)(h:∀(kV b pm:Value)(e:Option Addr)(c ct:Value)(g:RQ),g.length=d.length->bindArgs (PySem.W.fnOf x a (qk st) (gk st) (ak st) .none kV b pm e c ct) ⟨g,[]⟩=pure (d.zip g)):gx K fd d []:=by obtain⟨oc,k,kV,b,pm,e,c,ct,i,rfl,l,j⟩:=F.ex;exact .all (h kV b pm e c ct)
def C3{x a:Str}{st:Stmt}{f:Addr}{oc:Value}{h g:Option Addr}{e:Array (Option Value)}{kV d pm b ct:Value}(l:K.lookup f=some ⟨oc,h,.func (PySem.W.fnOf x a (qk st) (gk st) (ak st) .none kV d pm g b ct),e⟩)(c:PySem.W.codeIn K b a=true)(k:PySem.W.keepIn K (.ref f)=true):zZ K x a st f (PySem.W.fnOf x a (qk st) (gk st) (ak st) .none kV d pm g b ct):=⟨⟨oc,h,kV,d,pm,g,b,ct,e,rfl,l,c⟩,k⟩
end
def ca(a:eE k A):A.units+1<cLine:=Qw (Nat.add_le_add_left (by decide:1<=64) _) a.units
section
variable{X:Cx}
def Y(i:Nat)(b:X.N[i]?=some x:=by rfl)(c:Pb X.env.scope x:=by first|exact Or.inl rfl|exact Or.inr (Or.inl rfl)|exact Or.inr (Or.inr rfl))(hd:(x==("__debug__":Str))=false:=by decide)(a:(x==("__classdict__":Str))=false:=by decide):PE X (.Name x d) (LG i):=Mn b c hd a
end
def cj{A B:Prop}(h:B):if false=true then A else B:=by rw[j2 l_];exact h
def bH{A B:Prop}(h:A):if true=true then A else B:=by rw[ku rfl];exact h
def aq(H a:Hp):Prop:=∀b o,H b=some o->a b=some o
def aq.refl(H:Hp):aq H H:=λ_ _ h=>h
def aq.trans(a:aq H d)(b:aq d e):aq H e:=λc o h=>b c o (a c o h)
def aq.free(e:aq H a)(h:a l=Option.none):H l=Option.none:=by cases q:H l with|none=>rfl|some o=>rw[e l o q]at h;cases h
def aq.seq{K:RM}{H b:Hp}{a:Addr}{c:List V}(e:aq H b)(h:aW K H a c):aW K b a c:=by
 rcases h with(h|⟨o,h⟩)|h
 ·exact .inl (.inl (e _ _ h))
 ·exact .inl (.inr ⟨o,e _ _ h⟩)
 ·exact .inr h
section
variable{a:Type}[DecidableEq a]
def yi{p:a×V}{r:List (a×V)}{k:a}(e:p.1=k):dF (p::r) k=dF r k:=by unfold dF;rw[QQ,j2 (by simp[e])]
def yj{p:a×V}{r:List (a×V)}{k:a}(e:¬p.1=k):dF (p::r) k=p::dF r k:=by unfold dF;rw[QQ,ku (by simp[e])]
end
end L2
set_option maxHeartbeats 4000000
namespace L2
open PySem PySem.Spec PyProof.Rows
section
variable{prog:RR}{w:World}{A:Around}{R:Result->Shared->Prop}{s:Shared}
def kT(h:wpAny M A t Q (λ_ _=>False) s)(k:∀a s,Q a s->b a s):wpAny M A t b E s:=wpAny_mono h k λ_ _ z=>z.elim
def BB(J:Nat->Shared->Prop)(l:∀n s,J n s->wpAny (model prog w) A (pyNext B) (λr s₁=>match r with|none=>R (.ok .next) s₁|some v=>wpAny (model prog w) A (letOwnedTupleGo a B v) (λ_ d=>wpAny (model prog w) A (assign a env v) (λ_ e=>wpAny (model prog w) A (forIn k true λc r=>if r=true then do let ok<-isTrue c env (eval c env);pure (ForInStep.yield ok)else pure (ForInStep.yield r)) (λok b=>if ok=true then wpAny (model prog w) A (eval o env) (λx f=>wpAny (model prog w) A (call (.builtin "list.append") [p,x]) (λ_ g=>∃m,m<n/\J m g) (λ_ _=>False) f) (λ_ _=>False) b else∃m,m<n/\J m b) (λ_ _=>False) e) (λ_ _=>False) d) (λ_ _=>False) s₁) (λ_ _=>False) s)(n:Nat)(h:J n s):codeAny (model prog w) A (.compLoop (.ListComp o [⟨a,q,k,0⟩] scope C) 0 B p env) R s:=by refine codeAny_loop rfl J (λn s D=>?_) n h;show wpAny _ A ((compTurn (.ListComp o [⟨a,q,k,0⟩] scope C) 0 B p env).onRaise (λx=>do noteFrame x env;theTreesLotGoes x)) _ _ s;refine wpAny_noted ?_;rw[compTurn_list];refine a_ (wpAny_standAt (a_ (kT (l n s D) (λr s₁ i=>?_))));cases r with|none=>exact e_ i|some v=>refine a_ (kT i λ_ d t=>a_ (kT t λ_ e u=>a_ (kT u λok b j=>?_)));cases ok with|false=>exact e_ ⟨rfl,j⟩|true=>exact a_ (a_ (kT j λx f y=>a_ (kT y λ_ g z=>e_ (e_ ⟨rfl,z⟩))))
end
theorem ma{f:Str->NameKind->NameKind}:∀(l:List (Str×NameKind))(x:Str),(l.map λp=>(p.1,f p.1 p.2)).lookup x=(l.lookup x).map (f x)|[],_=>rfl|(n,k)::r,x=>by rw[no,QO,QO];cases a:x==n with
 |true=>
   have e:x=n:=by simpa using a
   subst e;rfl|false=>exact ma r x
def mF(env:Env)(n:Str)(k:NameKind):NameKind:=if(k==.free&&env.scope.kind==.function&&env.kindOf n==some .cell)=true then .cell else k
def jr(scope:Scope)(env:Env)(x:Str):(relabel scope env).names.lookup x=(scope.names.lookup x).map (mF env x):=by
 rw[<-ma];unfold relabel
 congr 1
 show List.map _ scope.names=List.map _ scope.names
 congr 1
 funext p
 obtain⟨n,k⟩:=p;show(if(k==NameKind.free&&env.scope.kind==.function&&env.kindOf n==some .cell)=true then(n,NameKind.cell)else(n,k))=(n,mF env n k);unfold mF
 split<;>rfl
theorem pd{env:Env}{f:Str×NameKind->List (Str×Addr)->Sem (ForInStep (List (Str×Addr)))}(d:∀n c r,cellOf env n=pure c->f (n,.free) r=pure (.yield ((n,c)::r)))(g:∀n k r,k≠.free->f (n,k) r=pure (.yield r)):∀(l:List (Str×NameKind))(cs:List (Str×Addr)),(∀y∈l,y.2=.free->∃c,env.cells.lookup y.1=some c)->∃cl:List (Str×Addr),forIn l cs f=pure cl/\(∀x c,cl.lookup x=some c->env.cells.lookup x=some c\/cs.lookup x=some c)/\(∀x,(∃c,cs.lookup x=some c)\/(x,NameKind.free)∈l->∃c,cl.lookup x=some c)
 |[],cs,_=>⟨cs,rfl,λ_ _ h=>.inr h,λx h=>h.elim id nofun⟩|(n,k)::r,cs,h=>by
  by_cases o:k=.free
  ·subst o;obtain⟨c,hc⟩:=h (n,.free) kw rfl;obtain⟨cl,h1,h2,h3⟩:=pd d g r ((n,c)::cs) λy p=>h y (i_ _ p);refine⟨cl,?_,λx i a=>?_,λx a=>h3 x ?_⟩
   ·rw[Qp,d n c cs (by unfold cellOf;rw[hc])];exact h1
   ·rcases h2 x i a with z|z
    ·exact .inl z
    ·rw[QO]at z;cases b:x==n with|true=>
      rw[b]at z;have j:x=n:=by simpa using b
      have m:c=i:=by simpa using z
      subst j;subst m;exact .inl hc|false=>rw[b]at z;exact .inr z
   ·rcases a with⟨i,a⟩|a
    ·refine .inl ?_;rw[QO];cases b:x==n with|true=>exact⟨c,rfl⟩|false=>exact⟨i,a⟩
    ·rcases ov.mp a with e|e
     ·injection e with j m;subst j;exact .inl ⟨c,by simp⟩
     ·exact .inr e
  ·obtain⟨cl,h1,h2,h3⟩:=pd d g r cs λy p=>h y (i_ _ p);refine⟨cl,?_,h2,λx a=>h3 x ?_⟩
   ·rw[Qp,g n k cs o];exact h1
   ·rcases a with a|a
    ·exact .inl a
    ·rcases ov.mp a with e|e
     ·injection e with j m;exact absurd m.symm o
     ·exact .inr e
def xt{env:Env}{scope:Scope}(h:∀y∈scope.names,y.2=.free->∃c,env.cells.lookup y.1=some c):∃cl:List (Str×Addr),closureFor scope env=pure cl/\(∀x c,cl.lookup x=some c->env.cells.lookup x=some c)/\(∀x,(x,NameKind.free)∈scope.names->∃c,cl.lookup x=some c):=by
 simp only[closureFor];obtain⟨cl,h1,h2,h3⟩:=pd (env:=env) (f:=λ(x:Str×NameKind)(r:List (Str×Addr))=>match x with|(b,kind)=>if(kind==NameKind.free)=true then(do let a<-cellOf env b;pure (ForInStep.yield ((b,a)::r)))else pure (ForInStep.yield r)) (λn c r e=>by show(if(NameKind.free==NameKind.free)=true then(do let a<-cellOf env n;pure (ForInStep.yield ((n,a)::r)))else pure (ForInStep.yield r):Sem _)=_;rw[ku (by decide),e];rfl) (λn k r e=>by show(if(k==NameKind.free)=true then(do let a<-cellOf env n;pure (ForInStep.yield ((n,a)::r)))else pure (ForInStep.yield r):Sem _)=_;rw[j2 (by simpa using e)]) scope.names [] h
 refine⟨cl,?_,λx c e=>(h2 x c e).elim id λz=>by simp at z,λx d=>h3 x (.inr d)⟩;rw[h1];rfl
def Cx.comp(X:Cx)(scope:Scope)(a:RS)(cl:List (Str×Addr))(C:Addr)(s₀:Shared)(H₀:Hp)(ex:RW):Cx:={prog:=X.prog,w:=X.w,K:=X.K,mg:=X.mg,base:=X.base,A:=X.A,N:=a,s₀:=s₀,H₀:=H₀,env:=compEnvC scope cl C X.env,outer:=X.stack,stack:=X.stack,ex:=ex,fn:=λ_=>false,calm:=X.calm,pn:=X.pn,xe:=λ_ _=>False}
def fT(ds:RV)(k:Nat)(a:St):St:=ds.foldl (λa i=>a.set i none) a++List.replicate k none
def o9(ds:RV):∀a:St,(ds.foldl (λa i=>a.set i none) a).length=a.length:=by induction ds with|nil=>intro a;rfl|cons d r b=>intro a;rw[v3,b];simp
def C5(ds:RV):∀(a:St)(i:Nat)(v:V),(ds.foldl (λa i=>a.set i none) a)[i]?=some (some v)->a[i]?=some (some v)/\i∉ds:=by induction ds with|nil=>intro a i v h;exact⟨h,by simp⟩|cons d r b=>
  intro a i v h;rw[v3]at h;obtain⟨h1,h2⟩:=b _ i v h
  by_cases e:d=i
  ·subst e
   by_cases c:d<a.length
   ·rw[w_ c]at h1;cases h1
   ·rw[P3.mpr (by rw[th];lia)]at h1;cases h1
  ·rw[qr e]at h1;exact⟨h1,λz=>(ov.mp z).elim (λq=>e q.symm) h2⟩
def Bs(h:(fT ds k a)[i]?=some (some v)):a[i]?=some (some v)/\i∉ds/\i<a.length:=by
 unfold fT at h
 by_cases b:i<a.length
 ·rw[r_ (by rw[o9];exact b)]at h;obtain⟨h1,h2⟩:=C5 ds a i v h;exact⟨h1,h2,b⟩
 ·rw[y_ (by rw[o9];lia)]at h;have:=d_.mp h;obtain⟨h1,h2⟩:=this;rw[List.getElem_replicate]at h2;cases h2
def K1(X:Cx)(b:RT)(t:TT):Prop:=∀(a:RO)(s:Shared)(d:St)(H:Hp)(Q:Bool->Hp->Prop),aM X a d H s->t d H Q->wpAny (model X.prog X.w) X.A (forIn b true λc r=>if r=true then do let ok<-isTrue c X.env (eval c X.env);pure (ForInStep.yield ok)else pure (ForInStep.yield r)) (TP X a d Q) X.xe s
def NP:TT:=λ_ H Q=>Q true H
def bR:K1 X [] NP:=λ_ _ _ H _ I h=>wpAny_tests_nil ⟨H,I,h⟩
def ui(h:PT X c t):K1 X [c] t:=λa s b H Q I q=>wpAny_tests_one (h a s b H Q I q)
def GK(g:TG)(c:RV):Prop:=∀x b H Q,g x b H Q->g x b H λa d=>Q a d/\a.length=b.length/\∀i,i∉c->a[i]?=b[i]?
def bZ(j:Nat):GK (k7 j) [j]:=λx a H Q h=>by refine⟨h,by simp,λi hi=>?_⟩;rw[qr (λe=>hi (by simp[e]))]
def vD(K:RM)(i j:Nat):GK (MQ K 2 (HS (k7 i) (HS (k7 j) OL))) [i,j]:=λx l H Q h=>by obtain⟨a,b,e,c,d,v,r,f,u,r2,g,k,q⟩:=h;refine⟨a,b,e,c,d,v,r,f,u,r2,g,k,q,by simp,λn hn=>?_⟩;have h1:n≠i:=λz=>hn (by simp[z]);have h2:n≠j:=λz=>hn (by simp[z]);rw[qr (ol h2),qr (ol h1)]
def uE(o:TI)(g:TG)(ds:RV)(k:Nat)(tc:TT)(te:TE):TE:=λf H Q=>o f H λJ h=>∀D,h D=none->∃W:Nat->Nat->List V->Hp->Prop,(∃m,W 0 m [] (aA h D (.lst [])))/\∀i m a c,W i m a c->(J.stop i c/\Q (.ref D) c)\/(J.go i c/\∀x j,J.yld i c x j->g x (fT ds k f) j λd p=>tc d p λb l=>if b=true then te d l λy n=>n D=some (.lst a)/\a.length<sizeLine/\∃e,e<m/\W (i+1) e (a++[y]) (aA n D (.lst (a++[y])))else∃e,e<m/\W (i+1) e a l)
section
variable{X:Cx}
def Iz(I:aM X t σ H s)(f:∀b∈fp,we X t H b)(fo:∀b∈fp,∃o,s.heap.get? b=some o)(E:scope.kind=.function)(F:∀y∈scope.names,y.2≠.cell)(G:∀y∈scope.names,y.2=.free->X.env.scope.names.lookup y.1=some .cell\/X.env.scope.names.lookup y.1=some .free)(g:∀x c,cl.lookup x=some c->X.env.cells.lookup x=some c)(D:∀x,(x,NameKind.free)∈scope.names->∃c,cl.lookup x=some c)(hN:W=X.N++L)(hk:L.length=k)(M:∀i x,X.N[i]?=some x->scope.names.lookup x=some .local->i∈ds)(P:s.heap.objs.size<C)(keep:∀b o,s.heap.get? b=some o->j.get? b=some o)(Z:j.Ns C m)(hD:j.get? s.heap.objs.size=some {cls:=.type "list",data:=.seq ([]:RQ).toArray 0}):aM (X.comp scope W cl C s H fp) t (fT ds k σ) (aA H s.heap.objs.size (.lst [])) {s with heap:=j,toks:=tk}:=by
 have fresh:H s.heap.objs.size=none:=I.hok.fresh (g_ _);have O:mh X.prog X.w (aA H s.heap.objs.size (.lst [])) j:=I.hok.laid keep (g_ _) ⟨ng _,[],0,.nil,hD⟩;have J:∀b∈fp,b<s.heap.objs.size:=λb A=>let⟨_,e⟩:=fo b A;ji e;have K:∀b,b∈kG X.stack->∀p∈X.pn++t,p.1≠b:=λb A p T e=>by
  obtain⟨_,_,n1,n2,_⟩:=I.pin p T;rcases ov.mp (I.stkSub b A)with z|z
  ·exact n1 (e.trans z)
  ·exact n2 (e▸z)
 have B:∀x c,cl.lookup x=some c->c<s.heap.objs.size:=λx c e=>by obtain⟨v,z⟩:=I.cell x c (g x c e);exact z.lt
 have a:∀x,(relabel scope X.env).names.lookup x=some .cell\/(relabel scope X.env).names.lookup x=some .free->scope.names.lookup x=some .free:=λx h=>by rw[jr]at h;cases e:scope.names.lookup x with|none=>rw[e]at h;simp at h|some q=>
   rw[e]at h;have hm:=mem_of_lookup e;have nc:q≠.cell:=F _ hm;simp only[P6,QA]at h;unfold mF at h
   split at h
   ·rename_i hc;have:(q==NameKind.free)=true:=by cases hq:q==NameKind.free with|true=>rfl|false=>rw[hq]at hc;simp at hc
    have:q=.free:=by simpa using this
    rw[this]
   ·rcases h with h|h
    ·exact absurd h nc
    ·rw[h]
 refine⟨⟨I.ok.mod,?_,I.ok.glob,I.ok.blt,sm P,?_,?_,?_,I.ok.hd,I.ok.frames,.inl rfl,?_,I.bs,nh I.ok.bsz I.sz,?_,?_,I.stack,I.stkFree⟩,rfl,I.bare,Un.laid keep (g_ _) fresh,⟨m,Z,?_⟩,?_,?_,?_,?_,O,?_⟩
 ·exact E
 ·intro x y c V hy;exact I.ok.inj x y c (g x c V) (g y c hy)
 ·intro x V;exact D x (mem_of_lookup (a x V))
 ·intro x c hf;exact absurd hf (by simp[Cx.comp])
 ·intro b A;refine⟨lm (z3 (J b A) P),λx c e z=>?_⟩;exact(f b A).2.2.2.2.1 x c (g x c e) z
 ·intro b o e A;rcases(f b A).2.2.2.1 with z|z
  ·exact I.ok.noex b o e z
  ·exact absurd (ot (ji e) (nh I.ok.bsz z)) (q4 _)
 ·intro b A hs;rcases ov.mp (I.stkSub b hs)with z|z
  ·exact(f b A).2.1 z
  ·exact(f b A).2.2.1 z
 ·intro i x v U e2 vis;obtain⟨g1,g2,g3⟩:=Bs e2;have Q:X.N[i]?=some x:=by have U:W[i]?=some x:=U;rw[hN,r_ (by rw[<-I.len];exact g3)]at U;exact U
  have hv:scope.names.lookup x=some .free:=by
   rcases vis with z|z|z
   ·exfalso;have z:(relabel scope X.env).names.lookup x=some .local:=z;rw[jr]at z;cases e:scope.names.lookup x with|none=>rw[e]at z;simp at z|some q=>
     rw[e]at z;simp only[P6,QA]at z;unfold mF at z
     split at z
     ·cases z
     ·subst z;exact g2 (M i x Q e)
   ·exact a x (.inl z)
   ·exact a x (.inr z)
  have hm:=mem_of_lookup hv;have hX:=G _ hm rfl;obtain⟨mX,_,hl⟩:=I.loc;have R:Pb X.env.scope x:=by
   rcases hX with z|z
   ·exact .inr (.inl z)
   ·exact .inr (.inr z)
  obtain⟨u,r,l⟩:=hl i x v Q g1 R;refine⟨u,r,.inr ⟨?_,?_⟩⟩
  ·show(relabel scope X.env).names.lookup x=some .cell\/(relabel scope X.env).names.lookup x=some .free;rw[jr,hv];show some (mF X.env x .free)=some .cell\/some (mF X.env x .free)=some .free;unfold mF
   split
   ·exact .inl rfl
   ·exact .inr rfl
  ·obtain⟨c,hc⟩:=D x hm;have Y:=g x c hc;refine⟨c,hc,?_⟩;rcases l with⟨kl,_⟩|⟨_,c',S,o,ho,hd⟩
   ·exfalso;have kl:X.env.scope.names.lookup x=some .local:=kl;rcases hX with z|z
    ·rw[kl]at z;cases z
    ·rw[kl]at z;cases z
   ·rw[Y]at S;cases S;exact⟨o,keep c o ho,hd⟩
 ·intro x c e;obtain⟨v,o,ho,hd⟩:=I.cell x c (g x c e);exact⟨v,o,keep c o ho,hd⟩
 ·show aA H s.heap.objs.size (.lst []) C=none;rw[ao (oe P)];exact I.hok.fresh (sm P)
 ·intro x c e;rw[ao (lm (B x c e))];exact I.freeC x c (g x c e)
 ·intro p T;obtain⟨e,n,n1,n2,d⟩:=I.pin p T;have lt:=ji e;refine⟨keep _ _ e,?_,lm (z3 lt P),λz=>K p.1 z p T rfl,d⟩;rw[ao (lm lt)];exact n
 ·show(fT ds k σ).length=W.length;unfold fT;rw[iA,o9,I.len,hN,iA,zz,hk]
def Iy(I:aM X a p H s)(f:∀b∈fp,we X a H b)(g:aM (X.comp scope x cl C s H fp) a r i j)(t:s.heap.objs.size<C)(l:Heap.SameBut C j.heap h'):aM X a p i {j with heap:=h'}:=by
 have u:=g.base;have d:i C=none:=g.free;have ne:∀b o,s.heap.get? b=some o->b≠C:=λb o e=>lm (z3 (ji e) t);have m:Un (kG X.stack) fp H i s.heap h':=by
  refine⟨λb o e n h1 h2=>?_,λb o e n h1 h2=>?_,u.free,λb o e h2=>?_,u.tups,u.frzs,u.tbls⟩
  ·exact(l.2 b (ne b o e)).trans (u.keep b o e n h1 h2)
  ·obtain⟨sl,q⟩:=u.slot b o e n h1 h2;exact⟨sl,(l.2 b (ne b o e)).trans q⟩
  ·obtain⟨v,q⟩:=u.there b o e h2;exact⟨v,(l.2 b (ne b o e)).trans q⟩
 have h:mh X.prog X.w i h':=λb ob e=>by
  refine(g.hok b ob e).stay (λc y hc q=>(l.2 c ?_).trans q) (λ_ q=>q) λ_ _ q=>q;rintro rfl;rcases hc with rfl|hc
  ·rw[d]at e;cases e
  ·rw[d]at hc;cases hc
 exact I.call' (s':={j with heap:=h'}) g.os m h g.bare λb k=>⟨(f b k).2.2.2.1,(f b k).2.1,(f b k).2.2.2.2.1,(f b k).2.2.2.2.2⟩
def aM.block_gone(I:aM X a d H s)(hn:H C=none)(f:C≠X.env.locals)(h1:X.s₀.heap.objs.size<=C)(h2:∀x c,X.env.cells.lookup x=some c->c≠C)(h3:∀p∈X.pn++a,p.1≠C)(g:Heap.SameBut C s.heap h'):aM X a d H {s with heap:=h'}:=I.turned (t':=s.toks) (λb o h e=>(g.2 b h).trans e) hn f (.inr h1) h2 h3
def ym(N':RS)(ds:RV)(k:Nat){a:RO}{s:Shared}{P:St}{H:Hp}{Q:VK}{use:Option (Value->Sem Unit)}{QV:RN}(hc:X.calm=true)(hi:PI X tg l wi)(G:∀cl C s₀ H₀ ex,PG (X.comp scope N' cl C s₀ H₀ ex) tg g/\K1 (X.comp scope N' cl C s₀ H₀ ex) R tc/\PE (X.comp scope N' cl C s₀ H₀ ex) a7 te)(hg:GK g js)(hj:∀P:St,P.length=X.N.length->∀j∈js,∀v,(fT ds k P)[j]?≠some (some v))(L:scope.kind=.function)(S:∀y∈scope.names,y.2≠.cell)(aa:∀y∈scope.names,y.2=.local->scope.names.lookup y.1=some .local)(Z:∀y∈scope.names,y.2=.free->X.env.scope.names.lookup y.1=some .cell\/X.env.scope.names.lookup y.1=some .free)(hN:N'=X.N++a8)(hk:a8.length=k)(ba:∀i x,X.N[i]?=some x->scope.names.lookup x=some .local->i∈ds)(hs:∀x,foldedSetIterable l X.env x=pure x)(I:aM X a P H s)(h:uE wi g ds k tc te P H Q)(fin:∀(D C:Addr)(H':Hp)(s':Shared)(m:RP),aM X a P H' s'->Q (.ref D) H'->s'.heap.Ns C m->H' C=none->C≠X.env.locals->X.s₀.heap.objs.size<=C->(∀x c,X.env.cells.lookup x=some c->c≠C)->(∀p∈X.pn++a,p.1≠C)->compPost (model X.prog X.w) X.A X.xe use QV (.ref D) C (.ok .next) s'):wpAny (model X.prog X.w) X.A (comprehension (.ListComp a7 [⟨tg,l,R,0⟩] scope bb) scope X.env (firstIterPos [⟨tg,l,R,0⟩] bb) (newList []) (firstAsync [⟨tg,l,R,0⟩]) (firstIter [⟨tg,l,R,0⟩] X.env) use) QV X.xe s:=by
 have V:∀y∈scope.names,y.2=.free->∃c,X.env.cells.lookup y.1=some c:=λy hy e=>I.ok.has y.1 (Z y hy e);obtain⟨cl,an,bc,bi⟩:=xt V;refine wpAny_comprehension_free (use:=use) rfl hs an L aa (cw (hi a s P H _ I h) λv s1 h1=>cw h1 λda t h2=>?_);obtain⟨it,fp,tn,J,H2,e,Y,T,bl,f2,q⟩:=h2;subst e;have dc:=Y;obtain⟨W,⟨m0,w0⟩,bp⟩:=q t.heap.objs.size (Y.hok.fresh (g_ _));refine p_ (wpAny_newFunctionEnv S (by intro y hy;simp at hy) (λE B hsb₁=>?_) L);dsimp only at B hsb₁⊢;generalize as:t.heap.push {cls:=.type "list",dict:=none,data:=.seq ([]:RQ).toArray}=G2 at B hsb₁⊢;have hC:t.heap.objs.size<G2.objs.size:=by rw[<-as,n7];exact rm _
 have keep:∀b o,t.heap.get? b=some o->E.get? b=some o:=λb o e=>hsb₁.extBut b o (lm (z3 (ji e) hC)) (b_ _ (as▸b_ _ e))
 have hD:E.get? t.heap.objs.size=some {cls:=.type "list",data:=.seq ([]:RQ).toArray 0}:=hsb₁.extBut _ _ (lm hC) (b_ _ (as▸h_ _ rfl));have fo:∀b∈fp,∃o,t.heap.get? b=some o:=λb G=>let⟨o,e,_⟩:=T.obj _ _ bl b G;⟨o,e⟩;obtain⟨bt,bz,bJ⟩:=G cl G2.objs.size t H2 fp;generalize f:X.comp scope N' cl G2.objs.size t H2 fp=M at bt bz bJ;have xp:M.prog=X.prog:=by rw[<-f];rfl
 have xw:M.w=X.w:=by rw[<-f];rfl
 have xK:M.K=X.K:=by rw[<-f];rfl
 have xA:M.A=X.A:=by rw[<-f];rfl
 have xe:M.xe=λ_ _=>False:=by rw[<-f];rfl
 have F:M.env=compEnvC scope cl G2.objs.size X.env:=by rw[<-f];rfl
 have bP:M.calm=true:=by rw[<-f];exact hc
 have jh:aM M a (fT ds k P) (aA H2 t.heap.objs.size (.lst [])) {t with heap:=E,toks:=t.toks+([]:List (Str×Value)).length}:=by rw[<-f];exact Iz Y f2 fo L S Z bc bi hN hk ba hC keep B hD
 have b8:tn 0 E:=T.keep _ _ _ bl λb _ o e=>keep b o e;have c0:∀b∈fp,aA H2 t.heap.objs.size (.lst []) b=none:=λb G=>by obtain⟨o,e⟩:=fo b G;rw[ao (lm (ji e))];exact(f2 b G).1
 have U:∀{H':Hp},(∀b∈fp,H' b=none)->∀b∈fp,we M a H' b:=λhn b G=>by
  obtain⟨f0,f1,f3,f4,f5,f6⟩:=f2 b G;obtain⟨o,e⟩:=fo b G;refine⟨hn b G,?_,?_,?_,?_,?_⟩
  ·rw[F];exact lm (z3 (ji e) hC)
  ·intro z;have z:b∈kG X.stack:=by rw[<-f]at z;exact z
   rcases ov.mp (Y.stkSub b z)with y|y
   ·exact f1 y
   ·exact f3 y
  ·rw[<-f];exact .inl G
  ·intro x c ec;rw[F]at ec;exact f5 x c (bc x c ec)
  ·intro p hp;rw[<-f]at hp;exact f6 p hp
 have al:codeAny (model X.prog X.w) X.A (.compLoop (.ListComp a7 [⟨tg,l,R,0⟩] scope bb) 0 (.ref it) (.ref t.heap.objs.size) (compEnvC scope cl G2.objs.size X.env)) (compPost (model X.prog X.w) X.A X.xe use QV (.ref t.heap.objs.size) G2.objs.size) {t with heap:=E,toks:=t.toks+([]:List (Str×Value)).length}:=by
  refine BB (λn s'=>∃i O H',aM M a (fT ds k P) H' s'/\tn i s'.heap/\(∀b∈fp,H' b=none)/\W i n O H') ?_ m0 ⟨0,[],_,jh,b8,c0,w0⟩;rintro n s3⟨i,O,H3,I3,b9,cc,w3⟩;rcases bp i n O H3 w3 with⟨stop,qn⟩|⟨go,step⟩
  ·have td:=T.done M xp xw xK bP i a s3 _ H3 (λ_ _=>False) I3 (U cc) b9 stop;rw[xA]at td;refine cw td λr s4⟨hr,I4⟩=>?_;subst hr;have ac:=I4;rw[<-f]at ac;obtain⟨m',c1,_⟩:=ac.loc;refine fin t.heap.objs.size G2.objs.size H3 s4 m' (Iy (h':=s4.heap) Y f2 ac hC (.refl ..)) qn c1 ac.free (oe (z3 Y.lt hC)) (sm (Qw Y.sz hC)) (λx c e z=>?_) λp hp z=>?_
   ·obtain⟨v,q⟩:=Y.cell x c e;exact absurd (z3 q.lt hC) (by rw[z];exact q4 _)
   ·exact absurd (z3 (ji (Y.pin p hp).1) hC) (by rw[z];exact q4 _)
  ·have ti:=T.item M xp xw xK bP i a s3 _ H3 (λ_ _=>False) I3 (U cc) b9 go;rw[xA]at ti;refine cw ti λr s4⟨u,hr,h4⟩=>?_;subst hr;refine cw h4 λ_ s5⟨x,H5,I5,r5,y5,a5,c2⟩=>?_;have c3:=I5.pinned (U c2) (T.obj _ _ a5);have pg:=bt _ s5 _ H5 x u _ c3 r5 (hg x _ H5 _ (step x H5 y5));rw[xp,xw,xA,F,xe]at pg;refine cw pg λ_ s6⟨ad,H6,I6,⟨q6,ci,a6⟩⟩=>?_;have again:∀{H7:Hp}{s7:Shared},aM M (a++u3 fp s5.heap) ad H7 s7->aM M a (fT ds k P) H7 s7/\tn (i+1) s7.heap/\∀b∈fp,H7 b=none:=λ{H7 s7}I7=>by
    refine⟨I7.unpinned.weak ci.symm λj v e=>?_,T.keep _ _ _ a5 λb G o e=>(I7.pin (b,o) (o0 _ (o0 _ (lU G e)))).1,λb G=>?_⟩
    ·rw[a6 j λz=>hj P I.len j z v e];exact e
    ·obtain⟨o,e,d⟩:=T.obj _ _ a5 b G;exact(I7.pin (b,o) (o0 _ (o0 _ (lU G e)))).2.1
   have pt:=bz _ s6 ad H6 _ I6 q6;rw[xp,xw,xA,F,xe]at pt;refine cw pt λok s7⟨H7,I7,q7⟩=>?_;cases ok with|false=>obtain⟨m',hm,w7⟩:=q7;obtain⟨a1,a2,a3⟩:=again I7;exact⟨m',hm,i+1,O,H7,a1,a2,a3,w7⟩|true=>have pe:=bJ _ s7 ad H7 _ I7 q7;rw[xp,xw,xA,F,xe]at pe;refine cw pe λyv s8⟨y,H8,I8,r8,c4,cC,m',hm,w8⟩=>?_;have ap:=eU (X:=M) _ s8 ad H8 (.ref t.heap.objs.size) [y] _ [yv] (λv H9=>H9=aA H8 t.heap.objs.size (.lst (O++[y]))) I8 rfl (.cons r8 .nil) ⟨_,O,y,rfl,rfl,c4,cC,rfl⟩;rw[xp,xw,xA,xe]at ap;refine cw ap λ_ s9⟨_,H9,I9,_,e9⟩=>?_;subst e9;obtain⟨a1,a2,a3⟩:=again I9;exact⟨m',hm,i+1,O++[y],_,a1,a2,a3,w8⟩
 exact codeAny_compStart_list al (T.self _ 0 _ _ _ b8 al)
def J1(f:RS)(ds:RV)(k:Nat)(hc:X.calm=true)(hi:PI X t b w)(z:∀cl C s₀ H₀ ex,PG (X.comp scope f cl C s₀ H₀ ex) t g/\K1 (X.comp scope f cl C s₀ H₀ ex) o tc/\PE (X.comp scope f cl C s₀ H₀ ex) p te)(hg:GK g A)(B:∀r:St,r.length=X.N.length->∀j∈A,∀v,(fT ds k r)[j]?≠some (some v))(c:scope.kind=.function)(d:∀y∈scope.names,y.2≠.cell)(a:∀y∈scope.names,y.2=.local->scope.names.lookup y.1=some .local)(e:∀y∈scope.names,y.2=.free->X.env.scope.names.lookup y.1=some .cell\/X.env.scope.names.lookup y.1=some .free)(E:f=X.N++l)(F:l.length=k)(n:∀i x,X.N[i]?=some x->scope.names.lookup x=some .local->i∈ds)(G:∀x,foldedSetIterable b X.env x=pure x:=by intro _;rfl):PE X (.ListComp p [⟨t,b,o,0⟩] scope J) (uE w g ds k tc te):=by intro u s r H Q I h;rw[eval_ListComp];refine ym f ds k hc hi z hg B c d a e E F n G I h λD C K P m L q hn n1 n2 n3 n4 M=>?_;exact⟨m,hn,λh' O=>⟨.ref D,K,L.block_gone n1 n2 n3 n4 M O,rfl,q⟩⟩
def JV(r:RS)(ds:RV)(k:Nat)(G:X.N.Nodup)(J:X.N[i]?=some x)(R:Ni X.env.scope x)(S:X.fn x=true\/X.env.scope.names.lookup x=some .local)(L:swapsWith (.ListComp f [⟨F,b,l,0⟩] scope t) (some (.Name x c)) u.line X.env=pure true)(hc:X.calm=true)(hi:PI X F b T)(W:∀cl C s₀ H₀ ex,PG (X.comp scope r cl C s₀ H₀ ex) F g/\K1 (X.comp scope r cl C s₀ H₀ ex) l tc/\PE (X.comp scope r cl C s₀ H₀ ex) f te)(hg:GK g Z)(hj:∀M:St,M.length=X.N.length->∀j∈Z,∀v,(fT ds k M)[j]?≠some (some v))(n:scope.kind=.function)(o:∀y∈scope.names,y.2≠.cell)(d:∀y∈scope.names,y.2=.local->scope.names.lookup y.1=some .local)(p:∀y∈scope.names,y.2=.free->X.env.scope.names.lookup y.1=some .cell\/X.env.scope.names.lookup y.1=some .free)(hN:r=X.N++w)(hk:w.length=k)(B:∀i x,X.N[i]?=some x->scope.names.lookup x=some .local->i∈ds)(hs:∀x,foldedSetIterable b X.env x=pure x:=by intro _;rfl):PS X (.Assign [.Name x c] (.ListComp f [⟨F,b,l,0⟩] scope t) u) (Aj (uE T g ds k tc te) (k7 i)):=by
 intro E s M H D I h;rw[exec_Assign_Name_used _ _ _ _ L];refine a_ (wpAny_standAt (a_ ?_));show wpAny _ X.A (do let _<-comprehension (.ListComp f [⟨F,b,l,0⟩] scope t) scope X.env _ (newList []) false (eval b X.env) (some (assign (.Name x c) X.env))) _ _ s;refine a_ (wpAny_mono (ym (QV:=λ_ K=>SP X E D .next K) (use:=some (assign (.Name x c) X.env)) r ds k hc hi W hg hj n o d p hN hk B hs I h λDa C V K m Y q hn n1 n2 n3 n4 n5=>?_) (λ_ K hq=>e_ (e_ hq)) λ_ _ e=>e)
 show wpAny _ X.A (assign (.Name x c) X.env (.ref Da)) _ _ _;refine wpAny_assign_Name (xM Y G J R (v:=.ref Da) rfl (λaa O⟨a,sb,ha⟩=>?_) S);have P:C≠a:=by
  rcases ha with z|z
  ·rw[z];exact n2
  ·exactλe=>n4 x a z e.symm
 exact⟨m,hn.sameBut sb P,λh' Q=>⟨_,V,O.block_gone n1 n2 n3 n4 n5 Q,q⟩⟩
def su(N0:RS)(ds:RV)(a scope:Scope):Bool:=scope.kind==.function&&scope.names.all (λy=>!(y.2==.cell)&&(!(y.2==.local)||scope.names.lookup y.1==some .local)&&(!(y.2==.free)||(a.names.lookup y.1==some .cell||a.names.lookup y.1==some .free)))&&N0.zipIdx.all λp=>!(scope.names.lookup p.1==some .local)||ds.contains p.2
def vO{N0:RS}{ds f:RV}{a scope:Scope}{k:Nat}(ok:su N0 ds a scope=true)(c:(f.all λj=>ds.contains j||decide (N0.length<=j))=true):(∀d:St,d.length=N0.length->∀j∈f,∀v,(fT ds k d)[j]?≠some (some v))/\scope.kind=.function/\(∀y∈scope.names,y.2≠.cell)/\(∀y∈scope.names,y.2=.local->scope.names.lookup y.1=some .local)/\(∀y∈scope.names,y.2=.free->a.names.lookup y.1=some .cell\/a.names.lookup y.1=some .free)/\(∀i x,N0[i]?=some x->scope.names.lookup x=some .local->i∈ds):=by
 unfold su at ok;rw[oi,oi]at ok;obtain⟨⟨h1,h2⟩,h3⟩:=ok;have h2:=List.all_eq_true.mp h2;have h3:=List.all_eq_true.mp h3;have c:=List.all_eq_true.mp c;refine⟨?_,(by simpa using h1),?_,?_,?_,?_⟩
 ·intro d m j hm v e;obtain⟨_,g,n⟩:=Bs e;have:=c j hm;rw[Bool.or_eq_true]at this;rcases this with z|z
  ·exact g (by simpa using z)
  ·have:=rd z;lia
 ·intro y b e;have:=h2 y b;rw[oi,oi]at this;have z:=this.1.1;rw[e]at z;exact absurd z (by decide)
 ·intro y b e;have:=h2 y b;rw[oi,oi]at this;have z:=this.1.2;rw[e]at z;simpa using z
 ·intro y b e;have:=h2 y b;rw[oi,oi]at this;have z:=this.2;rw[e]at z;simpa using z
 ·intro i x h l;have:=h3 (x,i) (by rw[List.mem_zipIdx_iff_getElem?];exact h);rw[Bool.or_eq_true]at this;rcases this with z|z
  ·rw[l]at z;exact absurd z (by decide)
  ·simpa using z
def KL(N0 a:RS)(ds n:RV)(c:Scope){d f b:Expr}{e:RT}{scope:Scope}{h:Pos}{o:TI}{g:TG}{tc:TT}{te:TE}(hc:X.calm=true)(i:X.N=N0)(l:X.env.scope=c)(ok:su N0 ds c scope=true)(p:(n.all λj=>ds.contains j||decide (N0.length<=j))=true)(hg:GK g n)(hi:PI X f b o)(q:∀cl C s₀ H₀ ex,PG (X.comp scope (N0++a) cl C s₀ H₀ ex) f g/\K1 (X.comp scope (N0++a) cl C s₀ H₀ ex) e tc/\PE (X.comp scope (N0++a) cl C s₀ H₀ ex) d te)(r:∀x,foldedSetIterable b X.env x=pure x:=by intro _;rfl):PE X (.ListComp d [⟨f,b,e,0⟩] scope h) (uE o g ds a.length tc te):=by subst i;subst l;obtain⟨h1,h2,h3,h4,h5,h6⟩:=vO ok p;exact J1 (X.N++a) ds a.length hc hi q hg h1 h2 h3 h4 h5 rfl rfl h6 r
def Ix(N0 a:RS)(ds t:RV)(e:Scope){i:Nat}{x:Str}{c d:Pos}{f n b:Expr}{h:RT}{scope:Scope}{l:Pos}{u:TI}{g:TG}{tc:TT}{te:TE}(hc:X.calm=true)(o:X.N=N0)(p:X.env.scope=e)(ok:su N0 ds e scope=true)(w:(t.all λj=>ds.contains j||decide (N0.length<=j))=true)(hg:GK g t)(hi:PI X n b u)(y:∀cl C s₀ H₀ ex,PG (X.comp scope (N0++a) cl C s₀ H₀ ex) n g/\K1 (X.comp scope (N0++a) cl C s₀ H₀ ex) h tc/\PE (X.comp scope (N0++a) cl C s₀ H₀ ex) f te)(q:N0.Nodup)(r:N0[i]?=some x:=by rfl)(v:e.names.lookup x=some .local:=by rfl)(s:swapsWith (.ListComp f [⟨n,b,h,0⟩] scope l) (some (.Name x c)) d.line X.env=pure true:=by rfl)(z:∀x,foldedSetIterable b X.env x=pure x:=by intro _;rfl):PS X (.Assign [.Name x c] (.ListComp f [⟨n,b,h,0⟩] scope l) d) (Aj (uE u g ds a.length tc te) (k7 i)):=by subst o;subst p;obtain⟨h1,h2,h3,h4,h5,h6⟩:=vO ok w;exact JV (X.N++a) ds a.length q r (.inl v) (.inr v) s hc hi y hg h1 h2 h3 h4 h5 rfl rfl h6 z
end
end L2
namespace L2
open PySem PySem.Spec PyProof.Rows
section
variable{X:Cx}
def BF:cO X (.builtin "isinstance") (λa H Q=>∃x T t b,a=[x,.ty T]/\nO X.K H x t/\PySem.W.kitOne X.K t (.type T)=some b/\Q (.bl b) H):=by intro c s g H a i Q I r h;obtain⟨x,T,t,b,rfl,ty,e,q⟩:=h;obtain⟨u,d,rfl,f,rt⟩:=xF r;obtain rfl:d=Value.type T:=rt;exact EY I f ty e λtk=>⟨.bl b,H,I.tok tk,rfl,q⟩
def yo{bs:List Bool}{a:RQ}(r:bd (bs.map V.bl) a){i:Nat}{v:Value}(h:a[i]?=some v):∃b,bs[i]?=some b/\v=.bool b:=by
 have d:=r.length;rw[c_]at d;have hi:i<a.length:=(d_.mp h).1;have c:bs[i]?=some bs[i]:=by simp
 obtain⟨u,h1,h2⟩:=r.get (i:=i) (x:=.bl bs[i]) (by rw[ir,c];rfl);rw[h]at h1;cases h1;exact⟨bs[i],c,h2⟩
def EA{bs:List Bool}:((List.range bs.length).all λi=>bs.getD i true)=bs.all id:=by induction bs with|nil=>rfl|cons b r a=>
  rw[n_,List.range_succ_eq_map,Qj,List.all_map,Qj]
  congr 1
def Ez{bs:List Bool}:((List.range bs.length).any λi=>bs.getD i true)=bs.any id:=by induction bs with|nil=>rfl|cons b r a=>
  rw[n_,List.range_succ_eq_map,z7,List.any_map,z7]
  congr 1
def HE{A:Around}(h:A.handled=none):A.in1.handled=none:=h
def Fy(hc:X.calm=true):cO X (.builtin "all") (λg H Q=>∃(p:Addr)(bs:List Bool),g=[.ref p]/\aW X.K H p (bs.map V.bl)/\Q (.bl (bs.all id)) H):=by
 intro j s A H g B Q I r h;obtain⟨p,bs,rfl,m,q⟩:=h;obtain⟨u,rfl,t⟩:=jU r;cases t;obtain⟨a,k,pl,C⟩:=I.list m;refine call_all_walk (E_ pl.isList ?_);have d:p≠s.heap.objs.size:=lm (by obtain⟨o,n,e,_⟩:=pl;exact ji e);have l:=k.length;rw[c_]at l;refine⟨s.heap.objs.size,_,_,_,_,_,λi=>bs.getD i true,rfl,Walks.list (HE (I.ok.hd hc)) s.heap.objs.size p d a.toArray,⟨⟨_,h_ _ rfl,rfl,rfl⟩,?_⟩,?_,?_⟩
 ·exact pl.isList.push _
 ·intro i v w x D f c;have f:a.toArray[i]?=some v:=f;obtain⟨b,y,rfl⟩:=yo k (i:=i) (v:=v) (by simpa using f);refine rr ?_;have e:bs.getD i true=b:=by simp[List.getD,y]
  have c:x (bs.getD i true) w:=c;rw[e]at c;exact c
 ·intro h' tk z;have e:((List.range a.toArray.size).all λi=>bs.getD i true)=bs.all id:=by rw[lh,<-l,EA]
  rw[e];exact⟨.bl _,H,I.kept (h':=h') (t':=tk) λb o e=>z b o (by simp[lm (ji e)]) (b_ _ e),rfl,q⟩
def Fx(hc:X.calm=true):cO X (.builtin "any") (λg H Q=>∃(p:Addr)(bs:List Bool),g=[.ref p]/\aW X.K H p (bs.map V.bl)/\Q (.bl (bs.any id)) H):=by
 intro j s A H g B Q I r h;obtain⟨p,bs,rfl,m,q⟩:=h;obtain⟨u,rfl,t⟩:=jU r;cases t;obtain⟨a,k,pl,C⟩:=I.list m;refine call_any_walk (E_ pl.isList ?_);have d:p≠s.heap.objs.size:=lm (by obtain⟨o,n,e,_⟩:=pl;exact ji e);have l:=k.length;rw[c_]at l;refine⟨s.heap.objs.size,_,_,_,_,_,λi=>bs.getD i true,rfl,Walks.list (HE (I.ok.hd hc)) s.heap.objs.size p d a.toArray,⟨⟨_,h_ _ rfl,rfl,rfl⟩,?_⟩,?_,?_⟩
 ·exact pl.isList.push _
 ·intro i v w x D f c;have f:a.toArray[i]?=some v:=f;obtain⟨b,y,rfl⟩:=yo k (i:=i) (v:=v) (by simpa using f);refine rr ?_;have e:bs.getD i true=b:=by simp[List.getD,y]
  have c:x (bs.getD i true) w:=c;rw[e]at c;exact c
 ·intro h' tk z;have e:((List.range a.toArray.size).any λi=>bs.getD i true)=bs.any id:=by rw[lh,<-l,Ez]
  rw[e];exact⟨.bl _,H,I.kept (h':=h') (t':=tk) λb o e=>z b o (by simp[lm (ji e)]) (b_ _ e),rfl,q⟩
def K4(x:Str):It:=⟨λi _=>i<x.cps.size,λi H y a=>a=H/\∃c,x.cps[i]?=some c/\y=.str ⟨#[c]⟩,λi _=>x.cps.size<=i⟩
def FT{P:RR}{w:World}{K:RM}{J:Expr}(a:Addr)(x:Str)(t:Tok)(f:String)(hn:["enumerate","zip","dict_itemiterator","dict_reverseitemiterator","odict_iterator","itertools.zip_longest","itertools.pairwise"].contains f=false)(W:∀A:Around,A.handled=none->Walks P w A a [a] [a] x.cps.size (SignAt x) (λi h=>h.IsStrIter a f x t i))(S:∀(A:Around)(i:Nat)(s:Shared)(Q:RN)(E:RN),s.heap.IsStrIter a f x t i->Q (.ref a) s->wpAny (model P w) A (pyIter (.ref a)) Q E s):vY P w K J (K4 x) [a] a (λi h=>i<=x.cps.size/\h.IsStrIter a f x t i)where
 mem:=by simp
 obj:=λi h st b j=>by
  have e:b=a:=by simpa using j
  subst e;obtain⟨_,o,e,c,d⟩:=st;exact⟨o,e,λv z=>by rw[d]at z;cases z⟩
 keep:=λi h h' st k=>by obtain⟨l,o,e,r⟩:=st;exact⟨l,o,k a (by simp) o e,r⟩
 item:=by intro X p q y hc i g s G H E I n st hg;subst p q y;obtain⟨B,f1,f2,f3,f4,C⟩:=n a (by simp);refine(W X.A (I.ok.hd hc)).item i s _ _ hg st.2 λv h' tk L m D=>?_;obtain⟨c,u,F,rfl⟩:=L;have I1:aM X g G H {s with heap:=h',toks:=tk}:=I.turned (λb o j e=>D b o (by simpa using j) e) B f1 f3 f4 C;obtain⟨o,e,M,d⟩:=id m;have N:i<x.cps.size:=hg;exact⟨_,rfl,yd (s:={s with heap:=h',toks:=tk}) e M d hn ⟨.str ⟨#[c]⟩,H,I1,⟨u,rfl⟩,⟨rfl,c,F,rfl⟩,⟨by omega,m⟩,λb j=>(n b j).1⟩⟩
 done:=by intro X p q y hc i g s G H E I n st hg;subst p q y;obtain⟨B,f1,f2,f3,f4,C⟩:=n a (by simp);have e:i=x.cps.size:=Nat.le_antisymm st.1 hg;subst e;exact(W X.A (I.ok.hd hc)).done s _ _ st.2 λh' tk D=>⟨rfl,I.turned (λb o j e=>D b o (by simpa using j) e) B f1 f3 f4 C⟩
 self:=λA i s Q E st h=>S A i s Q E st.2 h
def PB(a:TE):TI:=λb H R=>a b H λv c=>∃x,v=.str x/\R (K4 x) c
def GN{g l:Expr}{j:TE}(n:PE X l j):PI X g l (PB j):=by
 intro d s k H R I h;refine cw (n d s k H _ I h) λv a⟨y,p,I1,r,u⟩=>?_;obtain⟨x,e,q⟩:=u;subst e;obtain⟨t,rfl⟩:=r;have fin:∀(c:String)(ob:Obj),(["enumerate","zip","dict_itemiterator","dict_reverseitemiterator","odict_iterator","itertools.zip_longest","itertools.pairwise"].contains c=false)->(∀A:Around,A.handled=none->Walks X.prog X.w A a.heap.objs.size [a.heap.objs.size] [a.heap.objs.size] x.cps.size (SignAt x) (λi h=>h.IsStrIter a.heap.objs.size c x t i))->(∀(A:Around)(i:Nat)(s:Shared)(Q:RN)(E:RN),s.heap.IsStrIter a.heap.objs.size c x t i->Q (.ref a.heap.objs.size) s->wpAny (model X.prog X.w) A (pyIter (.ref a.heap.objs.size)) Q E s)->(a.heap.push ob).IsStrIter a.heap.objs.size c x t 0->PQ X d k g R (.ref a.heap.objs.size) {a with heap:=a.heap.push ob}:=λc ob h1 h2 h3 h4=>by
  refine⟨a.heap.objs.size,[a.heap.objs.size],_,K4 x,p,rfl,I1.kept (t':=a.toks) λb o e=>b_ _ e,FT _ x t c h1 h2 h3,⟨ng _,h4⟩,λb z=>?_,q⟩;have e:b=a.heap.objs.size:=by simpa using z
  subst e;exact I1.fpOk (g_ _) (I1.hok.fresh (g_ _))
 cases m:x.cps.all (·<128)
 ·exact wpAny_pyIter_wide m (fin "str_iterator" _ (by decide) (λA f=>Walks.strWide f _ x t) (λA i s Q E st h=>wpAny_pyIter_striter_wide st h) ⟨_,h_ _ rfl,rfl,rfl⟩)
 ·exact wpAny_pyIter_ascii m (fin "str_ascii_iterator" _ (by decide) (λA f=>Walks.strAscii f _ x t) (λA i s Q E st h=>wpAny_pyIter_striter_ascii st h) ⟨_,h_ _ rfl,rfl,rfl⟩)
def KG{x:Str}{g:TG}{l:TS}{D:qG}{a:St}{H:Hp}(Pv:Nat->St->Hp->Prop)(h0:Pv 0 a H)(o:∀i c a H,x.cps.toList[i]?=some c->Pv i a H->g (.str ⟨#[c]⟩) a H λb j=>l {D with nx:=Pv (i+1),ct:=Pv (i+1),bk:=D.nx} b j)(hd:∀a H,Pv x.cps.toList.length a H->D.nx a H):∃W:Nat->Nat->St->Hp->Prop,(∃m,W 0 m a H)/\∀i m a H,W i m a H->((K4 x).stop i H/\D.nx a H)\/((K4 x).go i H/\∃N:St->Hp->Prop,(∀d f,N d f->∃n,n<m/\W (i+1) n d f)/\∀y f,(K4 x).yld i H y f->g y a f λb j=>l {D with nx:=N,ct:=N,bk:=D.nx} b j):=by
 have k:x.cps.toList.length=x.cps.size:=by simp
 refine⟨λi m a H=>m=x.cps.size-i/\i<=x.cps.size/\Pv i a H,⟨x.cps.size,by simp,ng _,h0⟩,?_⟩;rintro i m a H⟨rfl,hi,p⟩
 by_cases h:i<x.cps.size
 ·refine .inr ⟨h,Pv (i+1),λd f q=>⟨x.cps.size-(i+1),by omega,rfl,h,q⟩,λy f r=>?_⟩;obtain⟨e,c,hc,rfl⟩:=r;subst e;exact o i c a _ (by simpa using hc) p
 ·have e:i=x.cps.size:=by omega
  subst e;exact .inl ⟨g_ _,hd a H (by rw[k];exact p)⟩
def Mh:V->List V->Hp->VK->Prop:=λx a H Q=>∃z y i r,x=.str z/\a=[.str y]/\Builtin.Str.occurrences z y 0 z.length 1=i::r/\Q (.int (i:Nat)) H
def G6:PU X "str.index" Mh:=by intro a s e H x f v g Q I b c h;obtain⟨z,y,i,r,rfl,rfl,d,q⟩:=h;obtain⟨t,rfl⟩:=b;obtain⟨u,rfl,j,rfl⟩:=jU c;exact SC.index d ⟨.int _,H,I.tok _,⟨_,rfl⟩,q⟩
end
end L2
namespace L2
open PySem PySem.Spec PyProof.Rows
section
variable{X:Cx}(K:RM)(c:X.K=K)
include c
def aH:cO X (.builtin "len") (λa H Q=>∃x n,a=[x]/\OW K x H n/\Q (.int n) H):=by subst c;exact IC
def gT:cO X (.builtin "isinstance") (λa H Q=>∃x T t b,a=[x,.ty T]/\nO K H x t/\PySem.W.kitOne K t (.type T)=some b/\Q (.bl b) H):=by subst c;exact BF
def gU(hc:X.calm=true):cO X (.builtin "all") (λa H Q=>∃(p:Addr)(bs:List Bool),a=[.ref p]/\aW K H p (bs.map V.bl)/\Q (.bl (bs.all id)) H):=by subst c;exact Fy hc
def sx(hc:X.calm=true):cO X (.builtin "any") (λa H Q=>∃(p:Addr)(bs:List Bool),a=[.ref p]/\aW K H p (bs.map V.bl)/\Q (.bl (bs.any id)) H):=by subst c;exact Fx hc
def Hz:ND X (Mg K):=by subst c;exact Kw
def Kv:ND X (Me K):=by subst c;exact MM
def uJ:NB X (Oc K):=by subst c;exact JP
def Dt:NB X (Ob K):=by subst c;exact L6
def qY:lr X (compareOp .In) (O8 K false):=by subst c;exact EF
def u9:lr X (binaryOp .Add) (Lb K):=by subst c;exact J5
def Dh:cO X (.type "list") (λb H Q=>∃p a,b=[.ref p]/\(aW K H p a\/aU K H p a)/\∀l,H l=none->Q (.ref l) (aA H l (.lst a))):=by subst c;exact zN
def dJ:cO X (.type "tuple") (λb H Q=>∃p a,b=[.ref p]/\((aW K H p a/\∀l,H l=none->Q (.ref l) (aA H l (.tup a)))\/(aU K H p a/\Q (.ref p) H))):=by subst c;exact xu
def d9{b l:Expr}{a:TE}(d:PE X l a):PI X b l (Lf K a):=by subst c;exact JX d
def iz{b l:Expr}{a:TE}(d:PE X l a):PI X b l (OF K a):=by subst c;exact Ml d
def aP{a:Expr}{d:TE}(f:PE X a d)(g:∀b,isTrue a X.env b=(do let v<-b;standAt a.pos;holding [v] (truthy v))):PT X a (λh H Q=>d h H λx e=>∃k,Nd K x e k/\Q k e):=by subst c;exact GJ f g
def gb{f:RT}{k:Nat}{a:Pos}{t:NA}{n:Nat}(hc:X.calm=true)(h:Nf X f t)(hn:(assignEach f X.env).length=n:=by rfl)(b:(assignEach f X.env).findIdx? (·.1)=none:=by rfl):PG X (.Tuple f k a) (MQ K n t):=by subst c;exact Mm hc h hn b
variable{o e:Expr}{f:RT}{j:TE}{t:TA}{g:Str}{i d:Pos}{T id:String}{r:V->List V->Hp->VK->Prop}
def jw(p:PlainAttrs T)(slot:Slot T g id)(n:typeOf (.builtin id)=pure (.type "method_descriptor"))(hm:PU X id r)(q:PE X o j)(s:PA X (e::f) t)(b:attributeBase o g X.env (eval o X.env)=eval o X.env:=by rfl)(l:((backTo d (starEach (e::f) X.env)).all (λx=>!x.1)&&(backToKw d (keywordEach [] X.env)).all (λx=>x.1.isSome)&&decide ((e::f).length+([]:List Keyword).length+(if([]:List Keyword).isEmpty then 0 else 1)<30))=true:=by rfl)(h:(i.endLine==d.line)=true:=by rfl)(u:starEach (e::f) X.env=(false,eval e X.env)::starEach f X.env:=by rfl)(a:(backTo d (starEach f X.env)).any (·.1)=false:=by rfl):PE X (.Call (.Attribute o g i) (e::f) [] d) (tBM K T r j t):=by subst c;exact Ol p slot n hm q s b l h u a
end
end L2
namespace L2
open PySem PySem.Spec PyProof.Rows
def aJ:bootBuiltins "len"=some (.builtin "len"):=by decide+kernel
def IF:bootBuiltins "max"=some (.builtin "max"):=by decide+kernel
def vT:bootBuiltins "min"=some (.builtin "min"):=by decide+kernel
def aV:bootBuiltins "isinstance"=some (.builtin "isinstance"):=by decide+kernel
def jD:bootBuiltins "all"=some (.builtin "all"):=by decide+kernel
def vV:bootBuiltins "any"=some (.builtin "any"):=by decide+kernel
def BI:bootBuiltins "divmod"=some (.builtin "divmod"):=by decide+kernel
def tj:bootBuiltins "sorted"=some (.builtin "sorted"):=by decide+kernel
def IE:bootBuiltins "sum"=some (.builtin "sum"):=by decide+kernel
def IG:bootBuiltins "int"=some (.type "int"):=by decide+kernel
def ql:bootBuiltins "str"=some (.type "str"):=by decide+kernel
def FA:bootBuiltins "bool"=some (.type "bool"):=by decide+kernel
def sA:bootBuiltins "list"=some (.type "list"):=by decide+kernel
def bM:bootBuiltins "tuple"=some (.type "tuple"):=by decide+kernel
def vS:bootBuiltins "set"=some (.type "set"):=by decide+kernel
def vU:bootBuiltins "enumerate"=some (.type "enumerate"):=by decide+kernel
def ID:bootBuiltins "zip"=some (.type "zip"):=by decide+kernel
def xx:bootBuiltins "reversed"=some (.type "reversed"):=by decide+kernel
section
variable{X:Cx}
def ju(hg:Gl X x)(hm:X.mg x=none)(a:bootBuiltins x=some (.type T))(hn:x≠"__name__":=by decide)(hd:(x==("__debug__":Str))=false:=by decide):PE X (.Name x b) (tC (.ty T)):=J2 hg hm a rfl hn hd
def cA(hm:∃u,X.mg x=some u/\aZ v u)(hg:Gl X x)(hd:(x==("__debug__":Str))=false:=by decide):PE X (.Name x a) (tC v):=by obtain⟨u,h1,h2⟩:=hm;exact Dz hg h1 h2 hd
end
def eK{K:RM}{A B:String}{b:Bool}(h:(if((Value.type A)==.type B)=true then some true else if PySem.W.kitMeta B=true then(fastBuiltinMro A).map (·.contains (.type B))else none)=some b):PySem.W.kitOne K (.type A) (.type B)=some b:=h
def kA{i j:Int}{A B:Prop}(h1:i=j->A)(h2:i≠j->B):if decide (V.int i=V.int j)=true then A else B:=by
 by_cases h:i=j
 ·subst h;rw[m_ rfl];exact bH (h1 rfl)
 ·rw[nn (λe=>h (V.int.inj e))];exact cj (h2 h)
def nL{c:Prop}[Decidable c]{A B:Prop}(h1:c->A)(h2:¬c->B):if decide c=true then A else B:=by
 by_cases h:c
 ·rw[m_ h];exact bH (h1 h)
 ·rw[nn h];exact cj (h2 h)
def xh{b:Bool}{A B:Prop}(h1:b=true->A)(h2:b=false->B):if b=true then A else B:=by cases b with|true=>exact bH (h1 rfl)|false=>exact cj (h2 rfl)
def au(h:F (a.set j (some x)) H):k7 j x a H F:=h
def iL(h:F true H):NP a H F:=h
def MA(h:aA H a o b=none):b≠a/\H b=none:=by
 by_cases e:b=a
 ·rw[e,ae]at h;cases h
 ·rw[ao e]at h;exact⟨e,h⟩
def bw(i:Int){n:Int}(h:0<n):0<=i%n/\i%n<n:=⟨Qq _ (by lia),P8 _ h⟩
def MD(x:Int):Builtin.bitAnd x 2147483647=x%2147483648:=PySem.W.kbt_mask x 31
end L2
namespace L2
open PySem PySem.Spec PyProof.Rows
section
variable{X:Cx}
def Pr:V->Option Int->Option Int->Hp->VK->Prop:=λx lo hi H Q=>∃z,x=.str z/\z.length<=sizeLine/\Q (.str (Txt.slice z lo hi)) H
def yL:NB X Pr:=by intro a s g H x v n o lo hi sl Q I m b pl d h;obtain⟨z,rfl,c,q⟩:=h;obtain⟨t,rfl⟩:=m;refine⟨"str",_,F.slot_str_getitem.lookup,typeIs_str _ _ _,?_⟩;have fin:∀(e:Tok)(k:Nat),EP X a g Q (.str (Txt.slice z lo hi) e) {s with toks:=k}:=λe k=>⟨.str _,H,I.tok k,⟨_,rfl⟩,q⟩;cases pl with
 |none=>cases d with|none=>exact P_ (l:=none) (u:=none) (st:=none) b rfl (QY ⟨nh (Txt.slice_le z _ _) c,fin⟩)|int j u=>exact P_ (l:=none) (u:=some (j,u)) (st:=none) b rfl (QY ⟨nh (Txt.slice_le z _ _) c,fin⟩)
 |int i f=>cases d with|none=>exact P_ (l:=some (i,f)) (u:=none) (st:=none) b rfl (QY ⟨nh (Txt.slice_le z _ _) c,fin⟩)|int j u=>exact P_ (l:=some (i,f)) (u:=some (j,u)) (st:=none) b rfl (QY ⟨nh (Txt.slice_le z _ _) c,fin⟩)
end
end L2
namespace L2
open PySem PySem.Spec PyProof.Rows
def Lo{c:Bool}{t u:TS}{D:qG}{a:St}{H:Hp}(J:St->Hp->Prop)(h1:∀a H,J a H->D.nx a H)(h2:∀N:St->Hp->Prop,(∀a H,J a H->N a H)->if c=true then t {D with nx:=N} a H else u {D with nx:=N} a H):if c=true then t D a H else u D a H:=h2 D.nx h1
def J8(h:D.nx a H):Ai D a H:=h
def aj(h:aq c H)(hn:H a=none):aq c (aA H a o):=λb d f=>by have e:=h b d f;rw[ao (aF e hn)];exact e
def BL(h0:0<=i)(h1:i<xs.length):∃c,xy xs i=some c/\c∈xs:=by refine⟨xs[i.toNat]'(by lia),?_,yl _⟩;unfold xy Ky;rw[ku h0,ku h1];show xs[i.toNat]?=_;rw[f_ (by lia)]
def de{n:Nat}(h:n<=65536):n<=sizeLine:=by rw[k4];lia
mutual
inductive Dn(K:RM)(H:Hp):V->PyData->Prop|non:Dn K H .non .none|bl(b:Bool):Dn K H (.bl b) (.bool b)|int(i:Int):Dn K H (.int i) (.int i)|str(x:Str):Dn K H (.str x) (.str x)|lst{a:Addr}{xs:List V}{ds:List PyData}:aW K H a xs->IsPs K H xs ds->Dn K H (.ref a) (.list ds)|tup{a:Addr}{xs:List V}{ds:List PyData}:aU K H a xs->IsPs K H xs ds->Dn K H (.ref a) (.tuple ds)
inductive IsPs(K:RM)(H:Hp):List V->List PyData->Prop|nil:IsPs K H [] []|cons{v:V}{d:PyData}{vs:List V}{ds:List PyData}:Dn K H v d->IsPs K H vs ds->IsPs K H (v::vs) (d::ds)
end
section
variable{X:Cx}{c:RO}{f:St}{H:Hp}{s:Shared}
mutual
theorem Dn.reads(I:aM X c f H s):∀{v:V}{d:PyData}{u:Value},Dn X.K H v d->aZ v u->∃g,Reads s.heap u d g|_,_,_,.non,r=>by obtain rfl:_=Value.none:=r;exact⟨_,.none⟩|_,_,_,.bl b,r=>by obtain rfl:_=Value.bool b:=r;exact⟨_,.bool b⟩|_,_,_,.int i,r=>by obtain⟨t,rfl⟩:=r;exact⟨_,.int i t⟩|_,_,_,.str x,r=>by obtain⟨t,rfl⟩:=r;exact⟨_,.str x t⟩|_,_,_,.lst (a:=a) h j,r=>by obtain rfl:_=Value.ref a:=r;obtain⟨k,l,⟨o,n,e,hc,_,hd⟩,_⟩:=I.list h;obtain⟨g,q⟩:=IsPs.reads I j l;exact⟨_,.list e hc hd (by simpa using q)⟩|_,_,_,.tup (a:=a) h j,r=>by obtain rfl:_=Value.ref a:=r;obtain⟨k,l,⟨o,e,hc,n,hd⟩,_⟩:=I.tuple h;obtain⟨g,q⟩:=IsPs.reads I j l;exact⟨_,.tuple e hc hd (by simpa using q)⟩
theorem IsPs.reads(I:aM X c f H s):∀{a:List V}{ds:List PyData}{b:RQ},IsPs X.K H a ds->bd a b->∃d,ReadsAll s.heap b ds d|_,_,_,.nil,r=>by cases r;exact⟨_,.nil⟩|_,_,_,.cons h e,r=>by cases r with|cons g r2=>obtain⟨d,q⟩:=Dn.reads I h g;obtain⟨bs,p⟩:=IsPs.reads I e r2;exact⟨_,.cons q p⟩
end
end
section
variable{X:Cx}
def Oh(K:RM):R2:=λx y H Q=>∃d e,Dn K H x d/\Dn K H y e/\SeqAt.shaped d=true/\SeqAt.shaped e=true/\Q (.bl (PyData.eqv d e)) H
def Mu(b:X.A.units+64<cLine):lr X (compareOp .Eq) (Oh X.K):=by intro a s i H x y v u Q I c f h;obtain⟨d,e,h1,h2,h3,h4,q⟩:=h;obtain⟨j,g⟩:=h1.reads I c;obtain⟨bs,r2⟩:=h2.reads I f;exact eq_dataH g r2 h3 h4 b ⟨.bl _,H,I,rfl,q⟩
def PF{A:Around}{k:Nat}(a:eE k A):A.units+64<cLine:=by have:=a.un;lia
def J4(K:RM)(a:X.K=K)(b:X.A.units+64<cLine):lr X (compareOp .Eq) (Oh K):=by subst a;exact Mu b
def IA(hc:X.calm=true):cO X (.builtin "sum") (λa H Q=>∃(p:Addr)(ns:RX),a=[.ref p]/\(aW X.K H p (ns.map V.int)\/aU X.K H p (ns.map V.int))/\Q (.int ns.sum) H):=by
 intro j s o H a t Q I r h;obtain⟨p,ns,rfl,d,q⟩:=h;obtain⟨u,rfl,l⟩:=jU r;cases l;have k:∀{b:RQ},bd (ns.map V.int) b->∃a:Array (Int×Tok),b.toArray=intItems a/\preSum (numAt a) a.size=ns.sum:=λf=>by
  have hi:IntsAre _ ns:=CY f;obtain⟨a,c⟩:=hi.allInts.items;refine⟨a,c,?_⟩;have m:ns=a.toList.map (·.1):=by rw[<-nums_intItems,<-c];exact hi.numsOf.symm
  rw[preSum_eq,mo (by simp),m]
 rcases d with d|d
 ·obtain⟨b,f,pl,n⟩:=I.list d;obtain⟨a,c,e⟩:=k f;refine sum_intListG (I.ok.hd hc) (xs:=a) (c▸pl.isList) λh' tk g i=>?_;rw[e];exact⟨.int _,H,I.kept (h':=h') (t':=tk) i,⟨_,rfl⟩,q⟩
 ·obtain⟨b,f,pt,n⟩:=I.tuple d;obtain⟨a,c,e⟩:=k f;refine PySem.W.ktm_sumG (I.ok.hd hc) (xs:=a) (c▸pt) λh' tk g i=>?_;rw[e];exact⟨.int _,H,I.kept (h':=h') (t':=tk) i,⟨_,rfl⟩,q⟩
def Fp(K:RM)(a:X.K=K)(hc:X.calm=true):cO X (.builtin "sum") (λb H Q=>∃(p:Addr)(ns:RX),b=[.ref p]/\(aW K H p (ns.map V.int)\/aU K H p (ns.map V.int))/\Q (.int ns.sum) H):=by subst a;exact IA hc
end
section
variable{X:Cx}
end
def bu(h:aq d H)(hn:d a=none):aq d (aA H a o):=λb f c=>by
 have:b≠a:=λe=>by rw[e,hn]at c;cases c
 rw[ao this];exact h b f c
def am{a:Type}{b:List a}{k:Nat}{v:a}(h:b[k]?=some v):xy b (k:Int)=some v:=by have c:=(d_.mp h).1;unfold xy Ky;rw[ku (by lia),ku (by lia)];exact h
def nI{ns:RX}{k:Int}(h0:0<=k)(h1:k<ns.length):xy (ns.map V.int) k=some (.int (ns.getD k.toNat 0)):=by obtain⟨n,rfl⟩:∃n:Nat,k=n:=⟨k.toNat,by lia⟩;refine am ?_;rw[ir,f_ (by lia)];simp only[qx,List.getD,f_ (show n<ns.length by lia)];rfl
def Kx{n:Nat}{k:Int}(h0:0<=k)(h1:k<n):Ky n k=some k.toNat:=by unfold Ky;rw[ku h0,ku h1]
def Bg(ns:RX)(j:Nat)(v:Int):(ns.map V.int).set j (.int v)=(ns.set j v).map V.int:=by rw[List.map_set]
def aq.tseq{K:RM}{H b:Hp}{a:Addr}{c:List V}(e:aq H b)(h:aU K H a c):aU K b a c:=by
 rcases h with h|h
 ·rcases h with h|⟨o,h⟩
  ·exact .inl (.inl (e _ _ h))
  ·exact .inl (.inr ⟨o,e _ _ h⟩)
 ·exact .inr h
@[irreducible]def c7:Int:=10^(30:Int).toNat
def Ag:c7=10^(30:Int).toNat:=by unfold c7;rfl
def xJ:1000000000000000000<c7:=by rw[Ag];decide+kernel
section
variable{X:Cx}
def u8:lr X (binaryOp .Pow) (λx y H Q=>x=.int 10/\y=.int 30/\Q (.int c7) H):=by intro a s b H x y v u Q I c d h;obtain⟨rfl,rfl,q⟩:=h;rw[Ag]at q;exact Ms a s b H _ _ v u Q I c d ⟨10,30,rfl,rfl,⟨by decide,by decide,by decide⟩,q⟩
end
def lf{n i:Nat}{P:Prop}(hi:i<n)(h:P):∃a,a<n-i/\a=n-(i+1)/\i+1<=n/\P:=⟨_,by lia,rfl,hi,h⟩
def eL{K:RM}{lo:Int}{n:Nat}{g:TG}{ds:RV}{k:Nat}{tc:TT}{te:TE}{r:St}{s:Hp}{D:Addr}{F:Hp->Prop}(Pv:Nat->List V->Hp->Prop)(h0:Pv 0 [] (aA s D (.lst [])))(t:∀i a c,i<n->Pv i a c->g (.int (lo+i)) (fT ds k r) c λd o=>tc d o λb h=>if b=true then te d h λy j=>j D=some (.lst a)/\a.length<sizeLine/\∃f,f<n-i/\f=n-(i+1)/\i+1<=n/\Pv (i+1) (a++[y]) (aA j D (.lst (a++[y])))else∃f,f<n-i/\f=n-(i+1)/\i+1<=n/\Pv (i+1) a h)(hd:∀a c,Pv n a c->F c):∃W:Nat->Nat->List V->Hp->Prop,(∃m,W 0 m [] (aA s D (.lst [])))/\∀i m a c,W i m a c->((IY lo n).stop i c/\F c)\/((IY lo n).go i c/\∀x q,(IY lo n).yld i c x q->g x (fT ds k r) q λd o=>tc d o λb h=>if b=true then te d h λy j=>j D=some (.lst a)/\a.length<sizeLine/\∃f,f<m/\W (i+1) f (a++[y]) (aA j D (.lst (a++[y])))else∃f,f<m/\W (i+1) f a h):=by
 refine⟨λi m a c=>m=n-i/\i<=n/\Pv i a c,⟨_,rfl,ng _,h0⟩,?_⟩;rintro i m a c⟨rfl,hi,p⟩
 by_cases l:i<n
 ·refine .inr ⟨l,λx q y=>?_⟩;obtain⟨e,y⟩:=y;subst e y;exact t i a _ l p
 ·have e:i=n:=by lia
  subst e;exact .inl ⟨g_ _,hd a c p⟩
def je{K:RM}{a:Addr}{xs:List V}{g:TG}{ds:RV}{k:Nat}{tc:TT}{te:TE}{s:St}{t:Hp}{D:Addr}{F:Hp->Prop}(Pv:Nat->List V->Hp->Prop)(h0:Pv 0 [] (aA t D (.lst [])))(u:∀i c d,i<=xs.length->Pv i c d->aW K d a xs)(v:∀i x c d,xs[i]?=some x->Pv i c d->g x (fT ds k s) d λf n=>tc f n λb j=>if b=true then te f j λy l=>l D=some (.lst c)/\c.length<sizeLine/\∃h,h<xs.length-i/\h=xs.length-(i+1)/\i+1<=xs.length/\Pv (i+1) (c++[y]) (aA l D (.lst (c++[y])))else∃h,h<xs.length-i/\h=xs.length-(i+1)/\i+1<=xs.length/\Pv (i+1) c j)(hd:∀c d,Pv xs.length c d->F d):∃W:Nat->Nat->List V->Hp->Prop,(∃m,W 0 m [] (aA t D (.lst [])))/\∀i m c d,W i m c d->((Lu K a).stop i d/\F d)\/((Lu K a).go i d/\∀x o,(Lu K a).yld i d x o->g x (fT ds k s) o λf n=>tc f n λb j=>if b=true then te f j λy l=>l D=some (.lst c)/\c.length<sizeLine/\∃h,h<m/\W (i+1) h (c++[y]) (aA l D (.lst (c++[y])))else∃h,h<m/\W (i+1) h c j):=by
 refine⟨λi m c d=>m=xs.length-i/\i<=xs.length/\Pv i c d,⟨_,rfl,ng _,h0⟩,?_⟩;rintro i m c d⟨rfl,hi,p⟩;have q:=u i c d hi p
 by_cases r:i<xs.length
 ·refine .inr ⟨⟨xs,xs[i],q,by simp[r]⟩,λx o y=>?_⟩;obtain⟨e,y⟩:=y;subst e;exact v i x c _ (y xs q) p
 ·have e:i=xs.length:=by lia
  subst e;exact .inl ⟨⟨xs,q,g_ _⟩,hd c d p⟩
def gm{K:RM}{a:Addr}{xs:List V}{g:TG}{ds:RV}{k:Nat}{tc:TT}{te:TE}{s:St}{t:Hp}{D:Addr}{F:Hp->Prop}(Pv:Nat->List V->Hp->Prop)(h0:Pv 0 [] (aA t D (.lst [])))(u:∀i c d,i<=xs.length->Pv i c d->aU K d a xs)(v:∀i x c d,xs[i]?=some x->Pv i c d->g x (fT ds k s) d λf n=>tc f n λb j=>if b=true then te f j λy l=>l D=some (.lst c)/\c.length<sizeLine/\∃h,h<xs.length-i/\h=xs.length-(i+1)/\i+1<=xs.length/\Pv (i+1) (c++[y]) (aA l D (.lst (c++[y])))else∃h,h<xs.length-i/\h=xs.length-(i+1)/\i+1<=xs.length/\Pv (i+1) c j)(hd:∀c d,Pv xs.length c d->F d):∃W:Nat->Nat->List V->Hp->Prop,(∃m,W 0 m [] (aA t D (.lst [])))/\∀i m c d,W i m c d->((Ls K a).stop i d/\F d)\/((Ls K a).go i d/\∀x o,(Ls K a).yld i d x o->g x (fT ds k s) o λf n=>tc f n λb j=>if b=true then te f j λy l=>l D=some (.lst c)/\c.length<sizeLine/\∃h,h<m/\W (i+1) h (c++[y]) (aA l D (.lst (c++[y])))else∃h,h<m/\W (i+1) h c j):=by
 refine⟨λi m c d=>m=xs.length-i/\i<=xs.length/\Pv i c d,⟨_,rfl,ng _,h0⟩,?_⟩;rintro i m c d⟨rfl,hi,p⟩;have q:=u i c d hi p
 by_cases r:i<xs.length
 ·refine .inr ⟨⟨xs,xs[i],q,by simp[r]⟩,λx o y=>?_⟩;obtain⟨e,y⟩:=y;subst e;exact v i x c _ (y xs q) p
 ·have e:i=xs.length:=by lia
  subst e;exact .inl ⟨⟨xs,q,g_ _⟩,hd c d p⟩
def Iw{K:RM}{z:Str}{g:TG}{ds:RV}{k:Nat}{tc:TT}{te:TE}{r:St}{s:Hp}{D:Addr}{F:Hp->Prop}(Pv:Nat->List V->Hp->Prop)(h0:Pv 0 [] (aA s D (.lst [])))(t:∀i c a d,z.cps.toList[i]?=some c->Pv i a d->g (.str ⟨#[c]⟩) (fT ds k r) d λf n=>tc f n λb j=>if b=true then te f j λy l=>l D=some (.lst a)/\a.length<sizeLine/\∃h,h<z.cps.toList.length-i/\h=z.cps.toList.length-(i+1)/\i+1<=z.cps.toList.length/\Pv (i+1) (a++[y]) (aA l D (.lst (a++[y])))else∃h,h<z.cps.toList.length-i/\h=z.cps.toList.length-(i+1)/\i+1<=z.cps.toList.length/\Pv (i+1) a j)(hd:∀a d,Pv z.cps.toList.length a d->F d):∃W:Nat->Nat->List V->Hp->Prop,(∃m,W 0 m [] (aA s D (.lst [])))/\∀i m a d,W i m a d->((K4 z).stop i d/\F d)\/((K4 z).go i d/\∀x o,(K4 z).yld i d x o->g x (fT ds k r) o λf n=>tc f n λb j=>if b=true then te f j λy l=>l D=some (.lst a)/\a.length<sizeLine/\∃h,h<m/\W (i+1) h (a++[y]) (aA l D (.lst (a++[y])))else∃h,h<m/\W (i+1) h a j):=by
 refine⟨λi m a d=>m=z.cps.toList.length-i/\i<=z.cps.toList.length/\Pv i a d,⟨_,rfl,ng _,h0⟩,?_⟩;rintro i m a d⟨rfl,hi,p⟩;have v:z.cps.toList.length=z.cps.size:=by simp
 by_cases q:i<z.cps.size
 ·refine .inr ⟨q,λy o u=>?_⟩;obtain⟨e,c,hc,rfl⟩:=u;subst e;exact t i c a _ (by simpa using hc) p
 ·have e:i=z.cps.toList.length:=by lia
  subst e;exact .inl ⟨by show z.cps.size<=_;lia,hd a d p⟩
section
variable{X:Cx}
end
def HB{i j:Str}{A B:Prop}(h1:i=j->A)(h2:i≠j->B):if decide (V.str i=V.str j)=true then A else B:=by
 by_cases h:i=j
 ·subst h;rw[m_ rfl];exact bH (h1 rfl)
 ·rw[nn (λe=>h (V.str.inj e))];exact cj (h2 h)
end L2
namespace L2
open PySem PySem.Spec PyProof.Rows
abbrev bf(led:Bool):Obj:={cls:=.type "set",dict:=none,data:=.set #[] 0 (.fresh 0 0 led)}
def mf{a:Type}[BEq a](b:Nat->a)(i:Nat):List a:=((List.range i).map b).foldl step_dedup []
section
variable{a:Type}[DecidableEq a][BEq a][LawfulBEq a]
def nB(b:Nat->a)(i:Nat):mf b (i+1)=step_dedup (mf b i) (b i):=by show((List.range (i+1)).map b).foldl step_dedup []=_;rw[Q2,j1,G_];rfl
def Be(b:Nat->a)(i:Nat):(mf b i).length<=i:=by induction i with|zero=>exact g_ 0|succ i c=>
  rw[nB];unfold step_dedup
  split
  ·exact ry c
  ·rw[iA];exact B_ c
def Fi(l:List a)(x y:a):(step_dedup l x).any (·==y)=(l.any (·==y)||decide (y=x)):=by
 have hd:decide (y=x)=(x==y):=by
  by_cases e:y=x
  ·rw[m_ e,e,x_]
  ·rw[nn e];exact(RH (ol e)).symm
 rw[hd];unfold step_dedup
 split
 ·rename_i h;cases q:(x==y)with|false=>rw[Bool.or_false]|true=>rw[<-eq_of_beq q,h];rfl
 ·rw[List.any_append];simp
def Fh(l:List a)(x:a):(step_dedup l x).length=if l.any (·==x)then l.length else l.length+1:=by
 unfold step_dedup
 by_cases h:l.any (·==x)=true
 ·rw[ku h,ku h]
 ·rw[j2 h,j2 h,iA];rfl
end
section
variable{prog:RR}{w:World}{A:Around}{R:Result->Shared->Prop}{c:Type}[DecidableEq c][BEq c][LawfulBEq c]{j a:Addr}{fp g:RW}{G:Array GenState->Array GenState->Prop}{n:Nat}{P:Nat->Value->Prop}{St:Nat->Shared->Prop}
def jJ(d:PySem.KeyKind prog w c)(b:Nat->c)(a:Addr)(i:Nat)(h:Heap):Prop:=h.SetOf d a (λq=>(mf b i).any (·==q)) (mf b i).length
def jJ.keep{b:PySem.KeyKind prog w c}{d:Nat->c}{i:Nat}{h h':Heap}(f:jJ b d a i h)(k:∀o,h.get? a=some o->h'.get? a=some o):jJ b d a i h':=by obtain⟨o,l,m,p,e,r⟩:=f;exact⟨o,l,m,p,k o e,r⟩
def Aq(h:PySem.KeyKind prog w c)(r:WalksS prog w A.in1 j fp g G n P St)(D:a∉fp)(l:Nat->c)(t:∀i v,P i v->h.is (l i) v=true/\v.scannable=true)(E:n+1<scanBound):∀(d i:Nat)(s:Shared),n-i=d->i<=n->St i s->jJ h l a i s.heap->(∀p,Moved (a::g) G s p->jJ h l a n p.heap->R (.ok (.ret .none)) p)->codeAny (model prog w) A (.builtin "set.update.loop" ⟨[.ref a,.ref j],[]⟩) R s:=by
 have aw:a∉g:=λz=>D (r.sub _ z);have up:∀b∈g,b∈a::g:=λb z=>i_ _ z;intro d
 induction d with|zero=>
  intro i s hd hi st f k;obtain rfl:i=n:=by lia
  refine ta Qb ?_;rw[u1 vl _];refine a_ (m:=pyNext (.ref j)) (r.done s _ _ st λp u=>?_);exact e_ (k p (u.mono up) (f.keep λo e=>u.heap a o aw e))|succ d J=>
  intro i s hd hi st f k;have lt:i<n:=by lia
  refine ta Qb ?_;rw[u1 vl _];refine a_ (m:=pyNext (.ref j)) (r.item i s _ _ lt st λv p Y x u=>?_);obtain⟨H,K⟩:=t i v Y;have L:jJ h l a i p.heap:=f.keep λo e=>u.heap a o aw e;refine a_ (m:=holding [v] (setAdd a v)) (pu ?_);unfold setAdd;refine pu (a_ (h.pyHash (k:=l i) H ?_));have M:(mf l i).length+1<scanBound:=by have:=Be l i;lia
  refine wpAny_setAddHashed_of (knd:=h) (s:={p with toks:=p.toks+1}) H K L M λh' I f2=>?_;have f3:jJ h l a (i+1) h':=SetOf_congr f2 (λq=>by rw[nB,Fi]) (by rw[nB,Fh]);refine e_ ⟨P4 vl _,J (i+1) _ (by lia) lt (r.frame _ p _ _ x (qc _) λb z o e=>?_) f3 λy B f4=>?_⟩
  ·exact(I.2 b λC=>D (C▸z)).trans e
  ·refine k y (Moved.trans r.gtrans ((u.mono up).then_heap (qc _) λb o z e=>?_) B) f4;exact(I.2 b λC=>z (C▸kw)).trans e
end
section
variable{prog:RR}{w:World}{A:Around}{E:RN}{s:Shared}{d:Type}[DecidableEq d][BEq d][LawfulBEq d]
set_option maxHeartbeats 3200000 in
def Ap(n:PySem.KeyKind prog w d)(hh:A.handled=none)(P:s.heap.IsList l h)(t:∀i v,h[i]?=some v->n.is (key i) v=true/\v.scannable=true)(x:h.size+1<scanBound)(k:∀(h':Heap)(tk:Nat),jJ n key s.heap.objs.size h.size h'->(∀b o,s.heap.get? b=some o->h'.get? b=some o)->Q (.ref s.heap.objs.size) {s with heap:=h',toks:=tk}):wpAny (model prog w) A (call (.type "set") [.ref l]) Q E s:=by
 obtain⟨c,X,I⟩:=F.called_set.mro;have made:=F.called_set.made;have sub:=F.called_set.sub;have Y:=F.called_set.notType;have Z:=F.called_set.canCreate;have tc:=RD (.ref l);refine QS (QZ ?_);show wpAny _ _ (callAny (.type "set") _) _ _ _;refine e_ ⟨Rj _ (by decide+kernel),ta Rs ?_⟩;rw[Rk (Q5 "set" [.ref l] []) rfl]
 (repeat(any_goals(first|assumption|wp_step)));skip
 refine so (code_set_new_1 (.ref l) (E:=E) (Q₁:=λu s₁=>∃led:Bool,u=.ref s.heap.objs.size/\s₁={s with heap:=s.heap.push (bf led)}) λled=>⟨led,rfl,rfl⟩) λr s₁ C=>?_;cases r with|error e=>exact C|ok O=>cases O with
 |ret u=>
   obtain⟨led,rfl,rfl⟩:=C;have K:(s.heap.push (bf led)).get? s.heap.objs.size=some (bf led):=h_ _ rfl;have ty:Shared.TypeIs {s with heap:=s.heap.push (bf led)} (.ref s.heap.objs.size) "set":=⟨_,K,rfl⟩;have li:=F.called_set.init.lookup;have bi:=F.called_set.init.bind (.ref s.heap.objs.size)
   (repeat(any_goals(first|assumption|wp_step)));skip
   refine so (Q_ (R:=wants (λr m=>r=.none/\∃h' tk,m={s with heap:=h',toks:=tk}/\jJ n key s.heap.objs.size h.size h'/\∀b o,s.heap.get? b=some o->h'.get? b=some o) E) F.called_set.init.plain RF (Rz ty ?_)) λy m j=>?_
   ·obtain⟨⟨cl,S,dt,sl⟩,e,L,M,N⟩:=id P;simp only at L N;subst L;subst N;have T:(s.heap.push (bf led)).get? l=some {cls:=.type "list",dict:=S,data:=.seq h M,slots:=sl}:=b_ _ e;have s1:=F.sub_list_set;have s2:=F.sub_list_frozenset;have ne:(Value.type "list"==Value.type "dict")=false:=by decide
    have z:(s.heap.push (bf led)).IsList l h:=⟨_,T,rfl,M,rfl⟩;unfold Builtin.«set.__init__»noKeywords Builtin.Frozenset.updateFrom;generalize D:pyIter=PI;wp_walk;subst D;refine E_ z ?_;refine a_ (Q7 ?_);have lt:l<s.heap.objs.size:=ji e;have sz:(s.heap.push (bf led)).objs.size=s.heap.objs.size+1:=n7 ..;refine Aq n ((Walks.list (A:=A.in1.in1.in1) (by simp[hh]) _ l (by rw[sz];exact lm (rx lt)) h).toS) (a:=s.heap.objs.size) (by rw[sz];simp only[ov,n0,to,not_or];exact⟨lm (rm _),oe lt⟩) key t x (h.size-0) 0 _ (by lia) (ng _) ⟨⟨_,h_ _ rfl,rfl,rfl⟩,z.push _⟩ ?f0 ?fR
    case f0=>have g:((s.heap.push (bf led)).push {cls:=.type "list_iterator",data:=.fields #[.ref l,.int 0 0]}).get? s.heap.objs.size=some (bf led):=b_ _ K;exact SetOf_congr ((setObjOf_fresh (knd:=n) led).setOf g (by unfold scanBound;lia)) (λ_=>rfl) rfl
    case fR=>rintro⟨h',U,V,G,H⟩B f;obtain rfl:U=s.gens:=B.gens;obtain rfl:V=s.drawn:=B.drawn;obtain rfl:H=s.os:=B.os;show wpAny _ _ _ _ _ _;refine e_ (show wpAny _ _ (ret Value.none) _ _ _ from e_ ⟨rfl,h',G,rfl,f,λb o q=>?_⟩);have b1:b<s.heap.objs.size:=ji q;exact B.heap b o (by rw[sz];simp only[ov,n0,to,not_or];exact⟨lm b1,lm (rx b1)⟩) (b_ _ (b_ _ q))
   ·cases y with|error e=>exact j|ok p=>cases p with|ret r=>
      obtain⟨rfl,h',tk,rfl,f,W⟩:=j
      (repeat(any_goals(first|assumption|wp_step)));exact k _ _ f W|_=>exact j.elim
  |_=>exact C.elim
end
end L2
namespace L2
open PySem PySem.Spec PyProof.Rows
instance(priority:=10000)keyBEq:BEq (Sum Int Str):=⟨λa b=>decide (a=b)⟩
instance(priority:=10000)keyLaw:LawfulBEq (Sum Int Str)where
 eq_of_beq:=λh=>rd h
 rfl:=m_ rfl
def dd{a:Type}[BEq a](b:List a):List a:=b.foldl step_dedup []
def Ci(a:List b)(d:b):(List.range a.length).map (λi=>a.getD i d)=a:=by refine List.ext_getElem (by simp) λi h1 h2=>?_;simp[List.getD,f_ h2]
def y9[BEq b](a:List b)(d:b):mf (λi=>a.getD i d) a.length=dd a:=by unfold mf dd;rw[Ci]
abbrev Ar(P:RR)(w:World)(q:Addr)(S:b0->Bool)(n:Nat):HO:=.ext λh=>h.SetOf (aL P w) q S n
section
variable{X:Cx}
def zv(r:aZ (kV k) v):oa k v=true/\v.scannable=true:=by cases k with|inl i=>obtain⟨t,rfl⟩:=r;exact⟨yb i t,rfl⟩|inr x=>obtain⟨t,rfl⟩:=r;exact⟨x9 x t,rfl⟩
def IB(hc:X.calm=true):cO X (.type "set") (λd H Q=>∃(p:Addr)(a:List b0),d=[.ref p]/\aW X.K H p (a.map kV)/\a.length<4000/\∀q,H q=none->Q (.ref q) (aA H q (Ar X.prog X.w q (λk=>(dd a).any (·==k)) (dd a).length))):=by
 intro j s J H d L Q I r h;obtain⟨p,a,rfl,z,l,q⟩:=h;obtain⟨u,rfl,A⟩:=jU r;cases A;obtain⟨b,m,pl,M⟩:=I.list z;have n:=m.length;rw[c_]at n;refine Ap (aL X.prog X.w) (key:=λi=>a.getD i (.inl 0)) (I.ok.hd hc) pl.isList (λi v c=>?_) (by rw[lh];unfold scanBound;lia) λh' tk f C=>?_
 ·have c:b[i]?=some v:=by simpa using c
  have hi:i<b.length:=(d_.mp c).1;obtain⟨u,h1,h2⟩:=m.get (i:=i) (x:=kV (a[i]'(by lia))) (by rw[ir,f_ (by lia)];rfl);rw[c]at h1;cases h1;have e:a.getD i (.inl 0)=a[i]'(by lia):=by simp[List.getD,f_ (show i<a.length by lia)]
  show(aL X.prog X.w).is (a.getD i (.inl 0)) v=true/\_;rw[e,oV];exact zv h2
 ·have f:h'.SetOf (aL X.prog X.w) s.heap.objs.size (λk=>(dd a).any (·==k)) (dd a).length:=by
   have y:h'.SetOf (aL X.prog X.w) s.heap.objs.size (λk=>(mf (λi=>a.getD i (.inl 0)) b.toArray.size).any (·==k)) (mf (λi=>a.getD i (.inl 0)) b.toArray.size).length:=f;have D:b.toArray.size=a.length:=by rw[lh];exact n.symm
   rw[D,y9]at y;exact y
  refine⟨.ref s.heap.objs.size,_,I.laid (h':=h') (t':=tk) (o:=Ar X.prog X.w s.heap.objs.size (λk=>(dd a).any (·==k)) (dd a).length) C (g_ _) ⟨f,?_,λh1 h2 g E=>?_⟩,rfl,q _ (I.hok.fresh (g_ _))⟩
  ·obtain⟨o,_,_,_,e,_⟩:=f;exact⟨o,e⟩
  ·obtain⟨o,F,G,t,e,mE⟩:=g;exact⟨o,F,G,t,E o e,mE⟩
def Fv:cO X (.builtin "len") (λa H Q=>∃(p:Addr)(S:b0->Bool)(n:Nat),a=[.ref p]/\H p=some (Ar X.prog X.w p S n)/\n<=4096/\Q (.int n) H):=by intro b s i H a j Q I r h;obtain⟨p,S,n,rfl,c,hn,q⟩:=h;obtain⟨u,rfl,d⟩:=jU r;cases d;obtain⟨f,_,_⟩:=I.hok p _ c;obtain⟨o,k,l,t,e,ex,hd,_,_,_,g,rfl⟩:=f;exact call_len_set e ex hd g (by lia) ⟨.int _,H,I.tok _,⟨_,rfl⟩,q⟩
def Ft(K:RM)(b:X.K=K)(hc:X.calm=true)(c:X.prog=P:=by rfl)(d:X.w=w:=by rfl):cO X (.type "set") (λe H Q=>∃(p:Addr)(a:List b0),e=[.ref p]/\aW K H p (a.map kV)/\a.length<4000/\∀q,H q=none->Q (.ref q) (aA H q (Ar P w q (λk=>(dd a).any (·==k)) (dd a).length))):=by subst b;subst c;subst d;exact IB hc
def vP(a:X.prog=P:=by rfl)(b:X.w=w:=by rfl):cO X (.builtin "len") (λc H Q=>∃(p:Addr)(S:b0->Bool)(n:Nat),c=[.ref p]/\H p=some (Ar P w p S n)/\n<=4096/\Q (.int n) H):=by subst a;subst b;exact Fv
end
theorem sj[BEq b]:∀(c:List b)(a:List b),(c.foldl step_dedup a).length<=a.length+c.length
 |[],a=>g_ _|k::r,a=>by
  have:=sj r (step_dedup a k);have h2:(step_dedup a k).length<=a.length+1:=by
   unfold step_dedup
   split
   ·exact qc _
   ·rw[iA];exact g_ _
  rw[v3,n_];lia
theorem Bz[DecidableEq d][BEq d][LawfulBEq d]:∀(f c:List d),c.Nodup->((f.foldl step_dedup c).length=c.length+f.length↔(c++f).Nodup)
 |[],c,h=>by simp[h]|k::r,c,h=>by
  rw[v3]
  by_cases e:c.any (·==k)=true
  ·have g:step_dedup c k=c:=by unfold step_dedup;rw[ku e]
   have hm:k∈c:=by obtain⟨x,j,q⟩:=QR.mp e;rw[<-eq_of_beq q];exact j
   rw[g]
   constructor
   ·intro q;have:=sj r c;rw[n_]at q;lia
   ·intro q;rw[op]at q;exact absurd rfl (q.2.2 k hm k (kw))
  ·have g:step_dedup c k=c++[k]:=by unfold step_dedup;rw[j2 e]
   have hm:k∉c:=λl=>e (QR.mpr ⟨k,l,x_ k⟩);rw[g];have i:=Bz r (c++[k]) (by rw[op];exact⟨h,by simp,λa m b n q=>hm (by rw[List.mem_singleton.mp n]at q;exact q▸m)⟩)
   rw[QD]at i;rw[show c++k::r=c++([k]++r)by rfl,<-i,iA,n_,Qf]
   constructor<;>intro q<;>lia
def M5[DecidableEq b][BEq b][LawfulBEq b](a:List b):(dd a).length=a.length↔a.Nodup:=by have:=Bz a [] Qx;simp at this;unfold dd;exact this
end L2
namespace L2
open PySem
def FW(t:SetTable)(n:Nat):(t.orStandIn n).led=t.led/\(t.plain=false->(t.orStandIn n).plain=false):=by
 unfold SetTable.orStandIn
 split
 ·exact⟨rfl,id⟩
 ·exact⟨rfl,λ_=>rfl⟩
def LF(t:SetTable)(a:Array (Int×Value))(h:Int)(x:Value):(layNew t a h x).2.1.led=t.led/\(t.plain=false->(layNew t a h x).2.1.plain=false):=by
 unfold layNew
 split
 ·rename_i sl wd e;exact FW (t.put sl).1 _
 ·exact⟨rfl,λ_=>rfl⟩
def FX(t:SetTable)(a:Array (Int×Value))(n:Nat):(relayAll t a n).2.1.led=t.led/\(t.plain=false->(relayAll t a n).2.1.plain=false):=by
 unfold relayAll
 split
 ·rename_i b d e;have c:b.led=t.led/\b.plain=t.plain:=by unfold SetTable.relaid SetTable.laid at e;cases hc:SetTable.layClean (SetTable.sizeAbove n-1) (a.map (·.1))with|none=>rw[hc]at e;cases e|some ow=>rw[hc]at e;cases e;exact⟨rfl,rfl⟩
  dsimp only
  split
  ·exact⟨c.1,λh=>c.2.trans h⟩
  ·exact⟨rfl,λ_=>rfl⟩
 ·exact⟨rfl,λ_=>rfl⟩
def vL(h:l[i]?=some x):(x::l.eraseIdx i).Perm l:=by
 have a:=(d_.mp h).1;have b:=(d_.mp h).2;have e:l=l.take i++x::l.drop (i+1):=by rw[<-b,List.getElem_cons_drop,q_]
 rw[List.eraseIdx_eq_take_drop_succ];refine List.Perm.trans ?_ (RK e.symm);exact List.perm_middle.symm
def xQ(next:Nat->Nat)(b:Array d):(pickOrder next b).toList.Perm b.toList:=by
 have go:∀(a k:Nat)(left:List d)(out:Array d),left.length<=a->(pickOrder.go next a k left out).toList.Perm (out.toList++left):=by
  intro a
  induction a with|zero=>intro k left out h;have:left=[]:=QP.mp (by lia);subst this;unfold pickOrder.go;rw[v_]|succ a e=>intro k left out h;unfold pickOrder.go;cases c:left[next k%left.length]?with
 |none=>
    have hn:left=[]:=by cases left with|nil=>rfl|cons y f=>have:=P3.mp c;have:=Nat.mod_lt (next k) (show 0<(y::f).length from Qu _);lia
    subst hn;rw[v_]|some x=>have g:=(d_.mp c).1;have i:=(d_.mp c).2;dsimp only;refine(e _ _ _ (by rw[List.length_eraseIdx];split<;>lia)).trans ?_;rw[Rv,QD];refine List.Perm.append_left _ ?_;show(x::left.eraseIdx (next k%left.length)).Perm left;exact vL c
 have:=go b.size 0 b.toList #[] (by simp);unfold pickOrder;simpa using this
end L2
namespace L2
open PySem
def ik:Slot "set_iterator" "__next__" "set_iterator.__next__":=.of (owner:="set_iterator") (n:="__next__") (by rw[QX,Qe];kernel_rfl) (by decide+kernel) (by decide+kernel) (by decide+kernel) (by first|exact .inl (by decide+kernel)|exact .inr (by decide+kernel)) (by rw[Q9];kernel_rfl)
def uh:Slot "set_iterator" "__iter__" "set_iterator.__iter__":=.of (owner:="set_iterator") (n:="__iter__") (by rw[QX,Qe];kernel_rfl) (by decide+kernel) (by decide+kernel) (by decide+kernel) (by first|exact .inl (by decide+kernel)|exact .inr (by decide+kernel)) (by rw[Q9];kernel_rfl)
def An:Manifest.owners.lookup (String.ofList ['r','o','t','a','r','e','t','i','_','t','e','s'].reverse)=some Manifest.sig_set_iterator:=by kernel_rfl
def lB(a:Value):argsOk "set_iterator.__next__" ⟨[a],[]⟩:=by unfold argsOk;rw[signature?_of (id:="set_iterator.__next__") (n:=['_','_','t','x','e','n','_','_']) (o:=['r','o','t','a','r','e','t','i','_','t','e','s']) (by kernel_rfl) An];kernel_rfl
def pA(a:Value):argsOk "set_iterator.__iter__" ⟨[a],[]⟩:=by unfold argsOk;rw[signature?_of (id:="set_iterator.__iter__") (n:=['_','_','r','e','t','i','_','_']) (o:=['r','o','t','a','r','e','t','i','_','t','e','s']) (by kernel_rfl) An];kernel_rfl
def kf:entryFor table "set_iterator.__next__"=some Builtin.«set_iterator.__next__»:=entryFor_of_tree (by kernel_rfl)
def nS:entryFor table "set_iterator.__iter__"=some Builtin.«dict_keyiterator.__iter__»:=entryFor_alias (id':="dict_keyiterator.__iter__") (by kernel_rfl) rfl (by decide+kernel) (by kernel_rfl)
def uK:entryFor table "set.__iter__"=some Builtin.«frozenset.__iter__»:=entryFor_alias (id':="frozenset.__iter__") (by kernel_rfl) rfl (by decide+kernel) (by kernel_rfl)
abbrev iK(first:Value)(i:Nat)(a:Addr)(n b:Nat):Obj:={cls:=.type "set_iterator",dict:=none,data:=.fields #[first,.int i 0,.ref a,.int n 0,.int b 0],slots:=#[]}
abbrev l9(a:RQ):Obj:={cls:=.type "tuple",dict:=none,data:=.seq a.toArray}
structure fA(h:Heap)(a:Addr)(es:Array (Int×Value))(ep:Nat)(t:SetTable):Prop where
 ob:∃o,h.get? a=some o/\o.cls=.type "set"/\o.data=.set es ep t
 fits:t.fits es.size=true
def fA.keep(x:fA h a b c t)(k:∀o,h.get? a=some o->h'.get? a=some o):fA h' a b c t:=⟨let⟨o,e,r⟩:=x.ob;⟨o,k o e,r⟩,x.fits⟩
def fA.ty{s:Shared}{a:Addr}{b:Array (Int×Value)}{d:Nat}{t:SetTable}(x:fA s.heap a b d t):s.TypeIs (.ref a) "set":=let⟨o,e,c,_⟩:=x.ob;⟨o,e,c⟩
section
variable{prog:RR}{w:World}{A:Around}{E:RN}{s:Shared}
theorem vN:∀(n:Nat)(a:List f)(s:Shared)(Q:List f->Shared->Prop),a.length<=n->(∀b d,b.Perm a->Q b {s with drawn:=d})->wpAny (model prog w) A (drawOrder n a) Q E s
 |0,a,s,Q,e,h=>by have:a=[]:=QP.mp (by lia);subst this;unfold drawOrder;exact e_ (h [] s.drawn (Re _))|n+1,[],s,Q,e,h=>by unfold drawOrder;exact e_ (h [] s.drawn (Re _))|n+1,x::r,s,Q,e,h=>by
  unfold drawOrder;refine a_ (m:=choose .order (x::r).length) (λΓ p g=>?_);unfold choose;rw[Sem.wp_choose];refine⟨Nat.succ_ne_zero _,?_⟩;have hi:w.draws .order (s.drawn.get .order)%(x::r).length<(x::r).length:=Nat.mod_lt _ (Qu _);have c:wpAny (model prog w) A (match(x::r)[w.draws .order (s.drawn.get .order)%(x::r).length]?with|some y=>do return y::(<-drawOrder n ((x::r).eraseIdx (w.draws .order (s.drawn.get .order)%(x::r).length)))|none=>unsupported "internal:drawOrder") Q E {s with drawn:=s.drawn.bump .order}:=by generalize w.draws .order (s.drawn.get .order)%(x::r).length=i at hi⊢;rw[f_ hi];refine a_ (vN n _ _ _ (by rw[List.length_eraseIdx,ku hi];lia) λb d j=>?_);exact e_ (h _ _ ((List.Perm.cons _ j).trans (vL (f_ hi))))
  exact c
set_option maxHeartbeats 4000000 in
def HA{a:Addr}{b:Array (Int×Value)}{h:Nat}{t:SetTable}{Q:RN}(d:fA s.heap a b h t)(hn:b.size<=sizeLine)(h1:(!w.params.followText "set-order"&&(!t.plain&&decide (b.size>1)))=false->Q (.ref s.heap.objs.size) {s with heap:=s.heap.push (iK (.int 0 0) 0 a b.size h)})(h2:(!w.params.followText "set-order"&&(!t.plain&&decide (b.size>1)))=true->∀(c:RV)(e:Drawn),c.Perm (List.range b.size)->Q (.ref (s.heap.objs.size+1)) {s with heap:=(s.heap.push (l9 (c.map λ(i:Nat)=>Value.int (i:Int) 0))).push (iK (.ref s.heap.objs.size) 0 a b.size h),drawn:=e}):wpAny (model prog w) A (pyIter (.ref a)) Q E s:=by obtain⟨o,f,hc,hd⟩:=d.ob;have g:=d.fits;refine Rn d.ty F.slot_set_iter (pv F.slot_set_iter d.ty uK ?_ (F.args_set_iter_1 _));unfold Builtin.«frozenset.__iter__»;refine a_ (m:=Builtin.Frozenset.slot0 "__iter__" _) (a_ (m:=slotArgs "__iter__" 0 _) (e_ (e_ ?_)));refine a_ (m:=Builtin.Frozenset.sizeOf a) (a_ (Qr f hd g (e_ ?_)));refine a_ (m:=setDrawn a) (a_ (E1 f hd g (a_ (a_ (N_ (e_ ?_))))));refine e_ ?_;dsimp only;show wpAny _ _ (if(!w.params.followText "set-order"&&(!t.plain&&decide (b.size>1)))=true then _ else _) _ _ s;cases hc:(!w.params.followText "set-order"&&(!t.plain&&decide (b.size>1)))with|false=>rw[j2 l_];refine a_ (e_ ?_);refine a_ (wpAny_setEpoch_of f hd g ?_);refine a_ (p_ (e_ ⟨_,rfl,"set_iterator",_,⟨_,h_ _ rfl,rfl⟩,ik.lookup,?_⟩));exact h1 hc|true=>
  rw[ku rfl];refine a_ (vN b.size (List.range b.size) s _ (by rw[qq];exact g_ _) λc e k=>?_);have l:c.length=b.size:=by rw[k.length_eq,qq]
  refine a_ (p_ ?_ (by show(c.map λ(i:Nat)=>rawInt i).toArray.size<=sizeLine;rw[lh,c_,l];exact hn));have j:(s.heap.push (l9 (c.map λ(i:Nat)=>Value.int (i:Int) 0))).get? a=some o:=b_ _ f;refine a_ (wpAny_setEpoch_of (s:={s with heap:=s.heap.push (l9 (c.map λ(i:Nat)=>Value.int (i:Int) 0)),drawn:=e}) j hd g ?_);refine a_ (p_ (e_ ⟨_,rfl,"set_iterator",_,⟨_,h_ _ rfl,rfl⟩,ik.lookup,?_⟩));have:=h2 hc c e k;rw[show s.heap.objs.size+1=(s.heap.push (l9 (c.map λ(i:Nat)=>Value.int (i:Int) 0))).objs.size from(n7 ..).symm]at this;exact this
def EJ{I a:Addr}{c:Array (Int×Value)}{b i slot nx:Nat}{t:SetTable}{x:Value}{Q:Option Value->Shared->Prop}(d:s.heap.get? I=some (iK (.int slot 0) i a c.size b))(e:fA s.heap a c b t)(hn:∀(A:Around)(f:Option (Value×Nat)->Shared->Prop)(E:RN),f (some (x,nx)) s->wpAny (model prog w) A (setNext a slot i b) f E s)(h:∀h',h'.get? I=some (iK (.int nx 0) (i+1) a c.size b)->Heap.SameBut I s.heap h'->Q (some x) {s with heap:=h'}):wpAny (model prog w) A (pyNext (.ref I)) Q E s:=by obtain⟨o,j,hc,hd⟩:=e.ob;have ty:s.TypeIs (.ref I) "set_iterator":=⟨_,d,rfl⟩;unfold pyNext;refine a_ (Qi (pw (name:=Str.ofString "__next__") ty ik (pv ik ty kf ?_ (lB _))));unfold Builtin.«set_iterator.__next__»;refine a_ (m:=slotArgs "__next__" 0 _) (e_ ?_);refine a_ (wpAny_fieldsOf d rfl ?_);show wpAny _ _ (setEntries a>>=_) _ _ s;refine a_ (Qr j hd e.fits ?_);rw[j2 (by simp)];refine a_ (m:=setNext a slot i b) (hn _ _ _ ?_);refine a_ (o_ d (by simp) λh1 k b1=>?_);refine a_ (o_ (s:={s with heap:=h1}) k (by simp) λh2 l b2=>?_);refine e_ ⟨_,rfl,e_ (h h2 ?_ (b1.trans b2))⟩;rw[l];rfl
def Cs{I T a:Addr}{b:Array (Int×Value)}{c i:Nat}{d:RV}{j:Nat}{t:SetTable}{x:Int×Value}{Q:Option Value->Shared->Prop}(e:s.heap.get? I=some (iK (.ref T) i a b.size c))(f:fA s.heap a b c t)(n:s.heap.get? T=some (l9 (d.map λ(i:Nat)=>Value.int (i:Int) 0)))(p:d[i]?=some j)(q:b[j]?=some x)(r:∀h',h'.get? I=some (iK (.ref T) (i+1) a b.size c)->Heap.SameBut I s.heap h'->Q (some x.2) {s with heap:=h'}):wpAny (model prog w) A (pyNext (.ref I)) Q E s:=by
 obtain⟨o,k,hc,hd⟩:=f.ob;have ty:s.TypeIs (.ref I) "set_iterator":=⟨_,e,rfl⟩;unfold pyNext;refine a_ (Qi (pw (name:=Str.ofString "__next__") ty ik (pv ik ty kf ?_ (lB _))));unfold Builtin.«set_iterator.__next__»;refine a_ (m:=slotArgs "__next__" 0 _) (e_ ?_);refine a_ (wpAny_fieldsOf e rfl ?_);show wpAny _ _ (setEntries a>>=_) _ _ s;refine a_ (Qr k hd f.fits ?_);rw[j2 (by simp)];show wpAny _ _ (seqItems? (.ref T)>>=_) _ _ s;refine a_ (rl n rfl ?_);have g:(d.map λ(i:Nat)=>Value.int (i:Int) 0).toArray[(i:Int).toNat]?=some (.int (j:Nat) 0):=by rw[Q6,ir,qx,p];rfl
 show wpAny _ _ (match(d.map λ(i:Nat)=>Value.int (i:Int) 0).toArray[(i:Int).toNat]?with|some (.int h _)=>_|some _=>_|none=>_) _ _ s;rw[g];refine a_ (m:=setNextDrawn a j c) ?_;unfold setNextDrawn;refine a_ (E1 k hd f.fits ?_);dsimp only;rw[j2 (by simp)];rw[q];refine e_ ?_;refine a_ (o_ e (by simp) λh1 u b1=>?_);refine e_ ⟨_,rfl,e_ (r h1 ?_ b1)⟩;rw[u];rfl
end
end L2
namespace L2
open PySem
def fQ(a:Array Nat):Prop:=∀i j:Nat,i<j->j<a.size->a.getD i 0<a.getD j 0
def HQ{a:Array Nat}{i:Nat}(h:i<a.size)(d:Nat):a.getD i d=a.getD i 0:=by simp[Array.getD,h]
def fQ.le(r:fQ a)(h:i<=j)(b:j<a.size):a.getD i 0<=a.getD j 0:=by
 rcases Qv i j with q|q
 ·exact sm (r i j q b)
 ·have:i=j:=by lia
  rw[this];exact g_ _
theorem vX{a:Array Nat}(r:fQ a)(j:Nat):∀(fuel lo hi:Nat),hi-lo<=fuel->lo<=hi->hi<=a.size->(∀k,k<lo->a.getD k 0<j)->(∀k,hi<=k->k<a.size->¬a.getD k 0<j)->SetTable.below.go a j fuel lo hi<=a.size/\(∀k,k<SetTable.below.go a j fuel lo hi->a.getD k 0<j)/\(∀k,SetTable.below.go a j fuel lo hi<=k->k<a.size->¬a.getD k 0<j)
 |0,lo,hi,g,h,c,h1,h2=>by
  unfold SetTable.below.go;have:lo=hi:=by lia
  subst this;exact⟨c,h1,h2⟩|fuel+1,lo,hi,g,h,c,h1,h2=>by
  unfold SetTable.below.go
  by_cases b:lo<hi
  ·rw[ku b];have hm:(lo+hi)/2<a.size:=by lia
   dsimp only;rw[HQ hm j]
   by_cases d:a.getD ((lo+hi)/2) 0<j
   ·rw[ku d];exact vX r j fuel _ _ (by lia) (by lia) c (λk f=>Qw (r.le (by lia) hm) d) h2
   ·rw[j2 d];exact vX r j fuel _ _ (by lia) (by lia) (by lia) h1 (λk f e q=>d (Qw (r.le f e) q))
  ·rw[j2 b];have:lo=hi:=by lia
   subst this;exact⟨c,h1,h2⟩
def sB(r:fQ a)(j:Nat):SetTable.below a j<=a.size/\(∀k,k<SetTable.below a j->a.getD k 0<j)/\(∀k,SetTable.below a j<=k->k<a.size->¬a.getD k 0<j):=vX r j a.size 0 a.size (by lia) (ng _) (g_ _) (λk b=>absurd b (Q0 _)) (λk h1 h2=>absurd h2 (by lia))
def Gx(a:Array Nat):Nat->Nat|0=>0|i+1=>a.getD i 0+1
def vW(r:fQ a):∀{i:Nat},i<=a.size->SetTable.below a (Gx a i)=i
 |0,_=>by
  obtain⟨h1,h2,h3⟩:=sB r 0;rcases Nat.eq_zero_or_pos (SetTable.below a 0)with q|q
  ·exact q
  ·exact absurd (h2 0 q) (Q0 _)|i+1,hi=>by
  obtain⟨h1,h2,h3⟩:=sB r (a.getD i 0+1);show SetTable.below a (a.getD i 0+1)=i+1;rcases Nat.lt_trichotomy (SetTable.below a (a.getD i 0+1)) (i+1)with q|q|q
  ·exact absurd (rm _) (h3 i (by lia) (by lia))
  ·exact q
  ·have:=h2 (i+1) q;have:=r i (i+1) (rm _) (by lia);lia
def fQ.few{a:Array Nat}(h:a.size<=1):fQ a:=λi j h1 h2=>by lia
section
variable{prog:RR}{w:World}{A:Around}{E:RN}{s:Shared}
def pB(b:fA s.heap a g c t)(d:w.params.followText "set-order"=true)(h:Q (((pickOrder (w.params.setOrder a c) g)[i]?).map λe=>(e.2,slot)) s):wpAny (model prog w) A (setNext a slot i c) Q E s:=by obtain⟨o,f,hc,hd⟩:=b.ob;unfold setNext;refine a_ (E1 f hd b.fits ?_);dsimp only;refine a_ (m:=setsByText) (a_ (N_ (e_ ?_)));show wpAny _ _ (if(w.params.followText "set-order")=true then _ else _) _ _ s;rw[ku d,j2 (by simp)];refine a_ (m:=setWalk a) ?_;unfold setWalk;refine a_ (E1 f hd b.fits ?_);dsimp only;refine a_ (m:=setsByText) (a_ (N_ (e_ ?_)));show wpAny _ _ (if(w.params.followText "set-order")=true then _ else _) _ _ s;rw[ku d];refine a_ (N_ (e_ ?_));exact e_ h
def pC(c:fA s.heap a b d t)(e:w.params.followText "set-order"=false)(f:(!t.plain&&decide (b.size>1))=false)(g:t.led=true)(h:Q (match b[SetTable.below t.place slot]?,t.place[SetTable.below t.place slot]?with|some (_,x),some j=>some (x,j+1)|_,_=>none) s):wpAny (model prog w) A (setNext a slot i d) Q E s:=by obtain⟨o,k,hc,hd⟩:=c.ob;unfold setNext;refine a_ (E1 k hd c.fits ?_);dsimp only;refine a_ (m:=setsByText) (a_ (N_ (e_ ?_)));show wpAny _ _ (if(w.params.followText "set-order")=true then _ else _) _ _ s;rw[j2 (by rw[e];exact l_)];show wpAny _ _ (if(!t.plain&&decide (b.size>1))=true then _ else _) _ _ s;rw[j2 (by rw[f];exact l_)];refine a_ ?_;show wpAny _ _ (if(!t.led&&!b.isEmpty)=true then _ else _) _ _ s;rw[j2 (by rw[g];simp)];exact e_ (e_ h)
def A9(hh:A.handled=none)(f:s.heap.get? I=some (iK first i a q.size g))(l:fA s.heap a q g t)(hn:(∃slot:Nat,first=.int slot 0/\∀(A:Around)(n:Option (Value×Nat)->Shared->Prop)(E:RN),n none s->wpAny (model prog w) A (setNext a slot i g) n E s)\/∃(T:Addr)(d:RV),first=.ref T/\s.heap.get? T=some (l9 (d.map λ(i:Nat)=>Value.int (i:Int) 0))/\d[i]?=none)(r:∀h',(∀b o,b≠I->s.heap.get? b=some o->h'.get? b=some o)->Q none {s with heap:=h'}):wpAny (model prog w) A (pyNext (.ref I)) Q E s:=by
 obtain⟨o,u,hc,hd⟩:=l.ob;have ty:s.TypeIs (.ref I) "set_iterator":=⟨_,f,rfl⟩;have fin:∀(R:Fin->Shared->Prop)(h1:Heap),(∀b o,b≠I->s.heap.get? b=some o->h1.get? b=some o)->wpAny (model prog w) A.in1 (newExc (.type "StopIteration") []>>=λe=>raiseNew e:Sem Fin) R (λe v=>wpAny (model prog w) A (do if<-isInstance e (.type "StopIteration")then pure none else throw e) Q E v) {s with heap:=h1}:=by intro R h1 x;refine a_ ?_;simp only[newExc,newTuple];refine a_ (p_ ?_ (by size_fits));refine a_ (m:=firstArgMember _ _) (wpAny_of_eq (a:=Value.none) (by first|rfl|(simp only[firstArgMember];rfl)) ?_);refine p_ ?_ (by size_fits);simp only[raiseNew];refine a_ (wpAny_handled ?_);rw[show A.in1.handled=none from hh];refine a_ (e_ (wpAny_throw ?_));refine a_ (QK (T:="StopIteration") (b:=true) ⟨_,h_ _ rfl,rfl⟩ isSubtype_stop ?_);exact e_ (r _ λb o c e=>b_ _ (b_ _ (x b o c e)))
 unfold pyNext;refine a_ (Qi (pw (name:=Str.ofString "__next__") ty ik (pv ik ty kf ?_ (lB _))));unfold Builtin.«set_iterator.__next__»;refine a_ (m:=slotArgs "__next__" 0 _) (e_ ?_);refine a_ (wpAny_fieldsOf f rfl ?_);show wpAny _ _ (setEntries a>>=_) _ _ s;refine a_ (Qr u hd l.fits ?_);rw[j2 (by simp)];rcases hn with⟨slot,rfl,hn⟩|⟨T,d,rfl,y,z⟩
 ·refine a_ (m:=setNext a slot i g) (hn _ _ _ ?_);refine a_ (o_ f (by simp) λh1 p b1=>?_);exact fin _ h1 λb o c e=>(b1.2 b c).trans e
 ·show wpAny _ _ (seqItems? (.ref T)>>=_) _ _ s;refine a_ (rl y rfl ?_);have h:(d.map λ(i:Nat)=>Value.int (i:Int) 0).toArray[(i:Int).toNat]?=none:=by rw[Q6,ir,qx,z];rfl
  show wpAny _ _ (match(d.map λ(i:Nat)=>Value.int (i:Int) 0).toArray[(i:Int).toNat]?with|some (.int j _)=>_|some _=>_|none=>_) _ _ s;rw[h];refine a_ (o_ f (by simp) λh1 p b1=>?_);refine a_ (o_ (s:={s with heap:=h1}) p (by simp) λh2 B b2=>?_);exact fin _ h2 λb o c e=>(b2.2 b c).trans ((b1.2 b c).trans e)
def FM(hh:A.handled=none)(M:fA s.heap a c g t)(hn:c.size<=sizeLine)(hl:w.params.followText "set-order"=false->t.led=true)(hr:t.plain=true->fQ t.place)(h:∀(I:Addr)(h':Heap)(T:Drawn)(f:List (Int×Value))(fp:RW)(St:Nat->Heap->Prop),f.Perm c.toList->(∀b o,s.heap.get? b=some o->h'.get? b=some o)->s.heap.objs.size<=I->I<h'.objs.size->(∀b∈fp,b=a\/s.heap.objs.size<=b)->Walks prog w A I fp [I] c.size (λi v=>∃x,f[i]?=some x/\v=x.2) St->St 0 h'->Q (.ref I) {s with heap:=h',drawn:=T}):wpAny (model prog w) A (pyIter (.ref a)) Q E s:=by
 have ha:a<s.heap.objs.size:=let⟨o,e,_⟩:=M.ob;ji e;have U:t.place.size=c.size:=by have:=M.fits;unfold SetTable.fits at this;simp only[oi,beq_iff_eq]at this;exact this.1
 refine HA M hn (λhc=>?_) (λhc u T L=>?_)
 ·--by slots
  have N:∀b o,s.heap.get? b=some o->(s.heap.push (iK (.int 0 0) 0 a c.size g)).get? b=some o:=λb o e=>b_ _ e;have hg:(s.heap.push (iK (.int 0 0) 0 a c.size g)).get? s.heap.objs.size=some (iK (.int 0 0) 0 a c.size g):=h_ _ rfl;have V:s.heap.objs.size<(s.heap.push (iK (.int 0 0) 0 a c.size g)).objs.size:=by rw[n7];exact rm _
  have H:a≠s.heap.objs.size:=lm ha;have C:∀(first:Nat->Nat)(f:List (Int×Value)),first 0=0->f.Perm c.toList->(∀(i:Nat)(d:Shared)(x:Int×Value),f[i]?=some x->fA d.heap a c g t->∀(A:Around)(D:Option (Value×Nat)->Shared->Prop)(E:RN),D (some (x.2,first (i+1))) d->wpAny (model prog w) A (setNext a (first i) i g) D E d)->(∀(d:Shared),fA d.heap a c g t->∀(A:Around)(D:Option (Value×Nat)->Shared->Prop)(E:RN),D none d->wpAny (model prog w) A (setNext a (first c.size) c.size g) D E d)->Q (.ref s.heap.objs.size) {s with heap:=s.heap.push (iK (.int 0 0) 0 a c.size g)}:=by
   intro first f f0 L hi hd;have W:f.length=c.size:=by rw[L.length_eq,nk]
   refine h s.heap.objs.size _ s.drawn f [s.heap.objs.size,a] (λi h'=>h'.get? s.heap.objs.size=some (iK (.int (first i) 0) i a c.size g)/\fA h' a c g t) L N (g_ _) V ?_ ?_ ?_
   ·intro b m;simp only[ov,n0,to]at m;rcases m with rfl|rfl
    ·exact .inr (g_ _)
    ·exact .inl rfl
   ·refine{sub:=λb m=>?_,frame:=λi h1 h2 st k=>?_,item:=λi d O P X st q=>?_,done:=λd O P st q=>?_,self:=λi d O P st q=>?_}
    ·rw[List.mem_singleton.mp m];exact kw
    ·exact⟨k _ kw _ st.1,st.2.keep λo e=>k _ (i_ _ kw) _ e⟩
    ·obtain⟨x,p⟩:∃x,f[i]?=some x:=⟨f[i]'(by lia),f_ (by lia)⟩;refine EJ (nx:=first (i+1)) st.1 st.2 (hi i d x p st.2) λh2 Y b2=>?_;exact q x.2 h2 d.toks ⟨x,p,rfl⟩ ⟨Y,st.2.keep λo e=>(b2.2 _ H).trans e⟩ λb o m e=>(b2.2 b λz=>m (by rw[z];exact List.mem_singleton.mpr rfl)).trans e
    ·refine A9 hh st.1 st.2 (.inl ⟨_,rfl,hd d st.2⟩) λh2 Z=>?_;exact q h2 d.toks λb o m e=>Z b o (λz=>m (by rw[z];exact List.mem_singleton.mpr rfl)) e
    ·have ty:d.TypeIs (.ref s.heap.objs.size) "set_iterator":=⟨_,st.1,rfl⟩;refine Rn ty uh (pv uh ty nS ?_ (pA _));exact e_ ⟨_,rfl,"set_iterator",_,ty,ik.lookup,q⟩
   ·rw[f0];exact⟨hg,M.keep λo e=>N _ _ e⟩
  cases J:w.params.followText "set-order"with
 |true=>
   have W:(pickOrder (w.params.setOrder a g) c).toList.length=c.size:=by rw[(xQ _ _).length_eq,nk]
   refine C (λ_=>0) (pickOrder (w.params.setOrder a g) c).toList rfl (xQ _ _) (λi d x p B A D E q=>?_) (λd B A D E q=>?_)
   ·refine pB B J ?_;have p:(pickOrder (w.params.setOrder a g) c)[i]?=some x:=by rw[<-tA];exact p
    rw[p];exact q
   ·refine pB B J ?_;have p:(pickOrder (w.params.setOrder a g) c)[c.size]?=none:=by rw[<-tA];exact P3.mpr (by lia)
    rw[p];exact q|false=>
   have F:(!t.plain&&decide (c.size>1))=false:=by rw[J]at hc;simpa using hc
   have rs:fQ t.place:=by cases G:t.plain with|true=>exact hr G|false=>rw[G]at F;refine fQ.few ?_;rw[U];simpa using F
   refine C (Gx t.place) c.toList rfl (Re _) (λi d x p B A D E q=>?_) (λd B A D E q=>?_)
   ·have p:c[i]?=some x:=by rw[<-tA];exact p
    have hi:i<c.size:=(Array.getElem?_eq_some_iff.mp p).1;refine pC B J F (hl J) ?_;rw[vW rs (by lia),p];have G:t.place[i]?=some (t.place.getD i 0):=by rw[tl (by lia)];simp[Array.getD,show i<t.place.size by lia]
    rw[G];exact q
   ·refine pC B J F (hl J) ?_;rw[vW rs (by lia)];rw[show c[c.size]?=none from Array.getElem?_eq_none (g_ _)];exact q
 ·--drawn
  have aa:(s.heap.push (l9 (u.map λ(i:Nat)=>Value.int (i:Int) 0))).get? s.heap.objs.size=some (l9 (u.map λ(i:Nat)=>Value.int (i:Int) 0)):=h_ _ rfl;have hz:(s.heap.push (l9 (u.map λ(i:Nat)=>Value.int (i:Int) 0))).objs.size=s.heap.objs.size+1:=n7 ..;have N:∀b o,s.heap.get? b=some o->((s.heap.push (l9 (u.map λ(i:Nat)=>Value.int (i:Int) 0))).push (iK (.ref s.heap.objs.size) 0 a c.size g)).get? b=some o:=λb o e=>b_ _ (b_ _ e);have hg:((s.heap.push (l9 (u.map λ(i:Nat)=>Value.int (i:Int) 0))).push (iK (.ref s.heap.objs.size) 0 a c.size g)).get? (s.heap.objs.size+1)=some (iK (.ref s.heap.objs.size) 0 a c.size g):=by rw[<-hz];exact h_ _ rfl
  have ad:u.length=c.size:=by rw[L.length_eq,qq]
  have R:∀(i j:Nat),u[i]?=some j->j<c.size:=λi j q=>by have:=L.mem_iff.mp (il q);exact si.mp this
  refine h (s.heap.objs.size+1) _ T (u.filterMap λj=>c[j]?) [s.heap.objs.size+1,a,s.heap.objs.size] (λi h'=>h'.get? (s.heap.objs.size+1)=some (iK (.ref s.heap.objs.size) i a c.size g)/\fA h' a c g t/\h'.get? s.heap.objs.size=some (l9 (u.map λ(i:Nat)=>Value.int (i:Int) 0))) ?_ N (qc _) ?_ ?_ ?_ ?_
  ·have:=L.filterMap (λj=>c[j]?);rw[filterMap_getElem?_range]at this;exact this
  ·rw[n7,hz];exact rm _
  ·intro b m;simp only[ov,n0,to]at m;rcases m with rfl|rfl|rfl
   ·exact .inr (qc _)
   ·exact .inl rfl
   ·exact .inr (g_ _)
  ·have H:a≠s.heap.objs.size+1:=lm (rx ha);have S:∀(i:Nat)(j:Nat)(x:Int×Value),u[i]?=some j->c[j]?=some x->(u.filterMap λj=>c[j]?)[i]?=some x:=by
    have gen:∀(l:RV),(∀j∈l,j<c.size)->∀(i j:Nat)(x:Int×Value),l[i]?=some j->c[j]?=some x->(l.filterMap λj=>c[j]?)[i]?=some x:=by
     intro l
     induction l with|nil=>intro _ i j x hi _;simp at hi|cons y r ih=>intro m i j x hi p;have hy:c[y]?=some (c[y]'(m y kw)):=tl _;rw[List.filterMap_cons_some hy];cases i with|zero=>simp only[List.getElem?_cons_zero,QA]at hi⊢;subst hi;rw[hy]at p;exact k_ p|succ i=>simp only[List.getElem?_cons_succ]at hi⊢;exact ih (λj K=>m j (i_ _ K)) i j x hi p
    intro i j x h1 h2;refine gen u (λj K=>?_) i j x h1 h2;obtain⟨n,hn⟩:=j_.mp K;exact R n j hn
   refine{sub:=λb m=>?_,frame:=λi h1 h2 st k=>?_,item:=λi d O P X st q=>?_,done:=λd O P st q=>?_,self:=λi d O P st q=>?_}
   ·rw[List.mem_singleton.mp m];exact kw
   ·exact⟨k _ kw _ st.1,st.2.1.keep λo e=>k _ (i_ _ kw) _ e,k _ (i_ _ (i_ _ kw)) _ st.2.2⟩
   ·obtain⟨j,K⟩:∃j,u[i]?=some j:=⟨u[i]'(by lia),f_ (by lia)⟩;have ac:=R i j K;have p:c[j]?=some (c[j]'ac):=tl _;refine Cs st.1 st.2.1 st.2.2 K p λh2 Y b2=>?_;exact q _ h2 d.toks ⟨_,S i j _ K p,rfl⟩ ⟨Y,st.2.1.keep λo e=>(b2.2 _ H).trans e,(b2.2 _ (lm (rm _))).trans st.2.2⟩ λb o m e=>(b2.2 b λz=>m (by rw[z];exact List.mem_singleton.mpr rfl)).trans e
   ·refine A9 hh st.1 st.2.1 (.inr ⟨_,u,rfl,st.2.2,P3.mpr (by lia)⟩) λh2 Z=>?_;exact q h2 d.toks λb o m e=>Z b o (λz=>m (by rw[z];exact List.mem_singleton.mpr rfl)) e
   ·have ty:d.TypeIs (.ref (s.heap.objs.size+1)) "set_iterator":=⟨_,st.1,rfl⟩;refine Rn ty uh (pv uh ty nS ?_ (pA _));exact e_ ⟨_,rfl,"set_iterator",_,ty,ik.lookup,q⟩
  ·exact⟨hg,M.keep λo e=>N _ _ e,b_ _ aa⟩
end
end L2
namespace L2
open PySem
section
variable{prog:RR}{w:World}{A:Around}{E:RN}{s:Shared}
def HH(ty:s.TypeIs (.ref a) "set")(h:Q false s):wpAny (model prog w) A (Builtin.List.listLengthHint (.ref a)) Q E s:=by
 unfold Builtin.List.listLengthHint;refine a_ (QW ty F.slot_set_len.lookup ?_);generalize c:("set.__len__":String)=nm
 wp_delta
 rw[show splitId nm=some ("set","__len__")from by subst c;decide+kernel];subst c;refine a_ (QK (T:="set") (b:=true) ty (by rw[Q9];kernel_rfl) ?_);refine s_ (λz=>absurd z (by decide)) (λ_=>?_);refine s_ (λ_=>?_) (λz=>absurd (by decide+kernel) z);exact a_ (Rm ty (e_ h))
def BC(hh:A.handled=none)(X:fA s.heap a l ep t)(hn:l.size<=sizeLine)(hl:w.params.followText "set-order"=false->t.led=true)(p:t.plain=true->fQ t.place)(h:∀(h':Heap)(d':Drawn)(tk:Nat)(Z:RQ),Z.Perm (l.toList.map (·.2))->(∀b o,s.heap.get? b=some o->h'.get? b=some o)->s.heap.objs.size<=h'.objs.size->R Z {s with heap:=h',drawn:=d',toks:=tk}):wpAny (model prog w) A (collect (.ref a)) R E s:=by
 have M:a<s.heap.objs.size:=let⟨o,e,_⟩:=X.ob;ji e;unfold collect;refine a_ (Q7 (ta F.entry_proto_collect ?_));rw[u1 F.plain_proto_collect _];refine a_ (m:=newList []) (p_ ?_);refine e_ ⟨P4 F.plain_list_iadd _,ta F.entry_list_iadd ?_⟩;rw[u1 F.plain_list_iadd _];have V:(s.heap.push {cls:=.type "list",data:=.seq ([]:RQ).toArray}).get? s.heap.objs.size=some {cls:=.type "list",data:=.seq #[]}:=h_ _ rfl;have g:fA (s.heap.push {cls:=.type "list",data:=.seq ([]:RQ).toArray}) a l ep t:=X.keep λo e=>b_ _ e;have j:(s.heap.push {cls:=.type "list",data:=.seq ([]:RQ).toArray}).objs.size=s.heap.objs.size+1:=n7 ..;have N:∀b o,s.heap.get? b=some o->(s.heap.push {cls:=.type "list",data:=.seq ([]:RQ).toArray}).get? b=some o:=λb o e=>b_ _ e;generalize s.heap.push {cls:=.type "list",data:=.seq ([]:RQ).toArray}=h0 at V g j N⊢;show wpAny _ A.in1 (Builtin.List.listExtendWith (.ref s.heap.objs.size) (.ref a) (.ref s.heap.objs.size)) _ _ {s with heap:=h0};unfold Builtin.List.listExtendWith;refine a_ (Rm (T:="set") (s:={s with heap:=h0}) g.ty ?_);have ne:Builtin.List.listSameRef (.ref s.heap.objs.size) (.ref a)=false:=by simp[Builtin.List.listSameRef,oe M]
 rw[j2 (by rw[ne];decide)];refine a_ (FM (s:={s with heap:=h0}) (A:=A.in1) hh g hn hl p λI h1 n u fp St Y J hI ac y W st=>?_);refine a_ (pu (HH (s:={s with heap:=h1,drawn:=n}) (g.keep λo e=>J _ _ e).ty ?_));have O:=J _ _ V;have aa:u.length=l.size:=by rw[Y.length_eq,nk]
 have k:∀(h2:Heap)(c:Nat),St 0 h2->(∀b o,s.heap.get? b=some o->h2.get? b=some o)->h2.get? s.heap.objs.size=some {cls:=.type "list",dict:=none,data:=.seq #[] c,slots:=#[]}->codeAny (model prog w) A (.builtin "list.extend.loop" ⟨[.ref s.heap.objs.size,.ref I,.ref s.heap.objs.size],[]⟩) (λr B=>∃v,r=.ok (.ret v)/\v=.ref s.heap.objs.size/\∃(h':Heap)(tk:Nat)(f:RU)(C:Nat),B={s with heap:=h',drawn:=n,toks:=tk}/\(∀b o,s.heap.get? b=some o->h'.get? b=some o)/\h'.get? s.heap.objs.size=some {cls:=.type "list",dict:=none,data:=.seq f C,slots:=#[]}/\f.toList.Perm (l.toList.map (·.2))) {s with heap:=h2,drawn:=n}:=by
  intro h2 c P k2 K;refine codeAny_extend_loopS W.toS hn s.heap.objs.size (λhm=>?_) _ l.size 0 _ #[] c rfl (ng _) P K (ItemsOf.nil _) λB d C L g' it=>?_
  ·rcases y _ hm with e|e
   ·exact absurd e (oe M)
   ·have:h0.objs.size<=s.heap.objs.size:=e;rw[j]at this;exact absurd this (Nat.not_succ_le_self _)
  ·obtain⟨h3,Q,d3,t3,o3⟩:=B;obtain rfl:Q=s.gens:=L.gens;obtain rfl:d3=n:=L.drawn;obtain rfl:o3=s.os:=L.os;refine⟨_,rfl,rfl,h3,t3,d,C,rfl,λb o e=>?_,g',?_⟩
   ·refine L.heap b o (λhm=>?_) (k2 b o e);have D:b<s.heap.objs.size:=ji e;rcases ov.mp hm with z|z
    ·exact absurd z (lm D)
    ·rw[List.mem_singleton.mp z]at D;have:h0.objs.size<=I:=hI;rw[j]at this;exact absurd (z3 D (Nat.lt_of_succ_le this)) (q4 _)
   ·have e1:d.toList=u.map (·.2):=by refine sD λi=>?_;rw[ir,tA];cases q:d[i]?with|some v=>obtain⟨x,hx,rfl⟩:=it.2 i v q;rw[hx];rfl|none=>have:d.size<=i:=Array.getElem?_eq_none_iff.mp q;rw[it.1]at this;rw[np (by lia)];rfl
    rw[e1];exact Y.map _
 refine s_ (λ_=>?_) (λ_=>e_ ⟨P4 F.plain_extend_loop _,so (k h1 0 st (λb o e=>J _ _ (N _ _ e)) O) λr B p=>?_⟩)
 case refine_2=>obtain⟨v,rfl,rfl,h',tk,f,C,rfl,S,G,U⟩:=p;exact a_ (wpAny_load G (e_ (h h' n tk f.toList U S (sm (ji G)))))
 refine a_ (vu (a_ ?_));show wpAny _ _ (updateSeq s.heap.objs.size (·.push .none)>>=λ_=>updateSeq s.heap.objs.size (·.pop)) _ _ _;refine a_ (RG O rfl ?_);have K:=sg (Obj.mapSeq (·.push Value.none)) O rfl;refine RG (hz:=by seq_fits) K rfl ?_;have Q:=sg (Obj.mapSeq (·.pop)) K rfl;refine e_ ⟨P4 F.plain_extend_loop _,so (k _ _ (W.frame 0 _ _ st λb D o e=>?_) (λb o e=>?_) Q) λr B p=>?_⟩
 ·have H:b≠s.heap.objs.size:=λz=>by
   rcases y _ D with q|q
   ·exact absurd (z.symm.trans q) (oe M)
   ·have:h0.objs.size<=b:=q;rw[j,z]at this;exact absurd this (Nat.not_succ_le_self _)
  exact(sT _ _ (ol H)).trans ((sT _ _ (ol H)).trans e)
 ·have H:b≠s.heap.objs.size:=lm (ji e);exact(sT _ _ (ol H)).trans ((sT _ _ (ol H)).trans (J _ _ (N _ _ e)))
 ·obtain⟨v,rfl,rfl,h',tk,f,C,rfl,S,G,U⟩:=p;exact a_ (wpAny_load G (e_ (h h' n tk f.toList U S (sm (ji G)))))
end
end L2
namespace L2
open PySem
structure sE(led:Bool)(t:SetTable):Prop where
 led:t.led=led
 up:t.plain=true->fQ t.place
def sE.off{led:Bool}{t:SetTable}(x:sE led t):sE led {t with plain:=false}:=⟨x.led,λh=>by cases h⟩
def GY{t:SetTable}{j:Nat}(h:t.slot j=.empty\/t.slot j=.dummy):t.place[SetTable.below t.place j]?≠some j:=by intro e;unfold SetTable.slot at h;dsimp only at h;rw[ku (by rw[e];simp)]at h;rcases h with h|h<;>cases h
theorem o8:∀(fuel:Nat)(p:SetTable.Probe)(j:Nat)(d:Option Nat),(∀x,p.dummy=some x->t.slot x=.dummy)->SetTable.probe.go t l h fuel p=some (.empty j d)->t.slot j=.empty/\∀x,d=some x->t.slot x=.dummy|0,p,j,d,c,e=>by unfold SetTable.probe.go at e;cases e|fuel+1,p,j,d,c,e=>by unfold SetTable.probe.go at e;cases a:t.slot p.j with
 |empty=>rw[a]at e;injection e with e;injection e with f g;subst f;subst g;exact⟨a,c⟩|dummy=>
   rw[a]at e;refine o8 fuel _ j d (λx b=>?_) e;have:(t.advance {p with dummy:=some p.j}).dummy=some p.j:=by
    unfold SetTable.advance
    split<;>rfl
   rw[this]at b;cases b;exact a|live i=>
   rw[a]at e;dsimp only at e
   split at e
   ·cases e
   ·refine o8 fuel _ j d (λx b=>c x ?_) e;have:(t.advance p).dummy=p.dummy:=by
     unfold SetTable.advance
     split<;>rfl
    rw[this]at b;exact b
def Fa{t:SetTable}{h:Int}{sl:Nat}{wd:Bool}(e:t.freeSlot h=some (sl,wd)):t.place[SetTable.below t.place sl]?≠some sl:=by unfold SetTable.freeSlot at e;cases a:t.probe (λ_=>h+1) h (t.probeStart h)with|none=>rw[a]at e;cases e|some m=>rw[a]at e;cases m with|candidate _ _ _=>cases e|empty j d=>have:=o8 (10*SetTable.turns t.mask) (t.probeStart h) j d (λx b=>by cases b) a;injection e with e;injection e with c f;subst c;refine GY ?_;cases d with|none=>exact .inl this.1|some x=>exact .inr (this.2 x rfl)
def gd(a:Array Nat)(i:Nat):a.getD i 0=(a.toList[i]?).getD 0:=by rw[tA,Array.getD_eq_getD_getElem?]
def Cg{l:RV}(h:l.Pairwise (·<·)):fQ l.toArray:=by intro i j a b;rw[lh]at b;have:=List.pairwise_iff_getElem.mp h i j (by lia) b a;rw[gd,gd];show(l[i]?).getD 0<(l[j]?).getD 0;rw[f_ b,f_ (show i<l.length by lia)];exact this
def Br(c:p<=a.size):(SetTable.insertAt a p x).getD k 0=if k<p then a.getD k 0 else if k=p then x else if k<a.size+1 then a.getD (k-1) 0 else 0:=by
 have e:(SetTable.insertAt a p x).toList=a.toList.take p++x::a.toList.drop p:=by rw[SetTable.toList_insertAt]
 rw[gd,e];have b:(a.toList.take p).length=p:=by rw[m3,nk];lia
 by_cases h1:k<p
 ·rw[ku h1,r_ (by lia),List.getElem?_take,ku h1,gd]
 ·rw[j2 h1,y_ (by lia),b]
  by_cases h2:k=p
  ·rw[ku h2,h2,Nat.sub_self];rfl
  ·rw[j2 h2];obtain⟨m,rfl⟩:∃m,k=p+(m+1):=⟨k-p-1,by lia⟩;rw[show p+(m+1)-p=m+1 by lia,List.getElem?_cons_succ,Ri]
   by_cases h3:p+(m+1)<a.size+1
   ·rw[ku h3,gd,show p+(m+1)-1=p+m by lia]
   ·rw[j2 h3,np (by rw[nk];lia)];rfl
def HC(b:p<=a.size):(SetTable.insertAt a p x).size=a.size+1:=by rw[<-nk,(SetTable.insertAt_perm a p x).length_eq,nk,Array.size_push]
def Ey{t:SetTable}{sl:Nat}(r:fQ t.place)(h:t.place[SetTable.below t.place sl]?≠some sl):fQ (t.put sl).1.place:=by
 obtain⟨b1,b2,b3⟩:=sB r sl;show fQ (SetTable.insertAt t.place (SetTable.below t.place sl) sl);generalize SetTable.below t.place sl=p at h b1 b2 b3;have b4:∀k,p<=k->k<t.place.size->sl<t.place.getD k 0:=by
  intro k d a;have e:t.place[p]?=some (t.place.getD p 0):=by rw[tl (by lia)];simp[Array.getD,show p<t.place.size by lia]
  have f:t.place.getD p 0≠sl:=λz=>h (by rw[e,z]);have h1:=b3 p (g_ _) (by lia);have h2:=r.le d a;lia
 intro i j b c;rw[HC b1]at c;rw[Br b1,Br b1]
 by_cases h1:j<p
 ·rw[ku (by lia),ku h1];exact r i j b (by lia)
 ·rw[j2 h1]
  by_cases h2:j=p
  ·rw[ku h2,ku (by lia)];exact b2 i (by lia)
  ·rw[j2 h2,ku c]
   by_cases h3:i<p
   ·rw[ku h3];have:=b2 i h3;have:=b4 (j-1) (by lia) (by lia);lia
   ·rw[j2 h3]
    by_cases h4:i=p
    ·rw[ku h4];exact b4 (j-1) (by lia) (by lia)
    ·rw[j2 h4,ku (by lia)];exact r (i-1) (j-1) (by lia) (by lia)
def sE.lay{led:Bool}{t:SetTable}(x:sE led t)(c:Array (Int×Value))(h:Int)(v:Value):sE led (layNew t c h v).2.1:=by
 refine⟨(LF t c h v).1.trans x.led,?_⟩;unfold layNew
 split
 ·rename_i sl wd e;intro a;dsimp only at a⊢;unfold SetTable.orStandIn at a⊢
  split
  ·rename_i b;rw[ku b]at a;exact Ey (x.up a) (Fa e)
  ·rename_i b;rw[j2 b]at a;cases a
 ·intro a;cases a
def sE.relay{led:Bool}{t:SetTable}(x:sE led t)(f:Array (Int×Value))(n:Nat):sE led (relayAll t f n).2.1:=by
 refine⟨(FX t f n).1.trans x.led,?_⟩;unfold relayAll
 split
 ·rename_i m o e;dsimp only
  split
  ·intro _;unfold SetTable.relaid SetTable.laid at e;cases hc:SetTable.layClean (SetTable.sizeAbove n-1) (f.map (·.1))with|none=>rw[hc]at e;cases e|some ow=>
    rw[hc]at e;cases e;show fQ ((((List.range (SetTable.sizeAbove n-1+1)).filterMap λj=>(ow.getD j none).map (j,·)).map (·.1)).toArray);have l:(((List.range (SetTable.sizeAbove n-1+1)).filterMap λj=>(ow.getD j none).map (j,·)).map (·.1)).Pairwise (·<·):=by rw[List.map_filterMap];refine List.Pairwise.filterMap _ (R:=(·<·)) (S:=(·<·)) ?_ List.pairwise_lt_range;intro a b g x c y d;cases i:ow.getD a none with|none=>rw[i]at c;cases c|some v=>cases k:ow.getD b none with|none=>rw[k]at d;cases d|some u=>rw[i]at c;rw[k]at d;cases c;cases d;exact g
    exact Cg l
  ·intro h;cases h
 ·intro h;cases h
end L2
namespace L2
open PySem
section
variable{prog:RR}{w:World}{c:Type}[DecidableEq c](knd:PySem.KeyKind prog w c)(kOf:Value->c)
structure kc(led:Bool)(h:Heap)(a:Addr)(ks:List c):Prop where ex:∃o es ep t,h.get? a=some o/\o.ExactSet/\o.data=.set es ep t/\ElemsOf knd es.toList/\(es.toList.map λe=>kOf e.2).Perm ks/\es.size<scanBound/\t.fits es.size=true/\sE led t
variable{knd kOf}
def kc.keep(x:kc knd kOf led h a b)(k:∀o,h.get? a=some o->h'.get? a=some o):kc knd kOf led h' a b:=by obtain⟨o,d,f,t,e,r⟩:=x.ex;exact⟨o,d,f,t,k o e,r⟩
variable{A:Around}{E:RN}{s:Shared}
def Hd(d:∀k v,knd.is k v=true->kOf v=k)(b:ElemsOf knd f)(g:(f.map λe=>kOf e.2).Perm h)(k:c):k∈h↔∃e∈f,knd.is k e.2=true:=by
 rw[<-g.mem_iff,mu]
 constructor
 ·rintro⟨e,a,rfl⟩;obtain⟨⟨i,h1,_⟩,_⟩:=b e a;refine⟨e,a,?_⟩;rw[d i e.2 h1];exact h1
 ·rintro⟨e,a,h1⟩;exact⟨e,a,d k e.2 h1⟩
def uG{led:Bool}{h:Heap}{a:Addr}{o:Obj}{l b:Array (Int×Value)}{f:Nat}{t d:SetTable}{ks:List c}(n:h.get? a=some o)(i:o.ExactSet)(hd:o.data=.set l f t)(j:ElemsOf knd b.toList)(p:(b.toList.map λe=>kOf e.2).Perm ks)(r:b.size<scanBound)(u:d.fits b.size=true)(v:sE led d):(h.update a (Obj.putSet b d)).get? a=some {o with data:=.set b (f+1) d}/\kc knd kOf led (h.update a (Obj.putSet b d)) a ks:=by
 have g:(h.update a (Obj.putSet b d)).get? a=some {o with data:=.set b (f+1) d}:=by
  have q:=sg (Obj.putSet b d) n (by rw[putSet_of b d hd];rfl)
  rwa[putSet_of b d hd]at q
 exact⟨g,_,b,f+1,d,g,i,rfl,j,p,r,u,v⟩
def IJ{led:Bool}{a:Addr}{f:List c}{k:c}{x:Value}{Q:Bool->Shared->Prop}(Z:∀k v,knd.is k v=true->kOf v=k)(i:knd.is k x=true)(y:x.scannable=true)(hS:kc knd kOf led s.heap a f)(G:f.length+1<scanBound)(h:∀h' b,Heap.SameBut a s.heap h'->kc knd kOf led h' a (if k∈f then f else f++[k])->Q b {s with heap:=h'}):wpAny (model prog w) A (setAddHashed a x (knd.hash k)) Q E s:=by
 obtain⟨o,D,ep,t,P,H,hd,m,R,hb,hf,ti⟩:=hS.ex;have hn:D.size=f.length:=by rw[<-R.length_eq,c_,nk]
 have p:=Hd Z m R;unfold setAddHashed setAddHashedIn;refine pu (a_ (E1 P hd hf ?_));dsimp only;rw[byScan_of y hb m,ku rfl];unfold setAddByScan;refine a_ (a_ (vu (a_ (wpAny_setScan_of i P hd hf m ?_))));cases hr:List.findIdx? (λe=>knd.is k e.2) D.toList with|some j=>obtain⟨hj,S,_⟩:=List.findIdx?_eq_some_iff_getElem.mp hr;have B:k∈f:=(p k).mpr ⟨_,yl hj,S⟩;refine e_ (e_ ?_);have q:=h s.heap false (Heap.SameBut.refl a s.heap);rw[ku B]at q;exact q hS|none=>
  have B:k∉f:=λz=>by obtain⟨e,he,h1⟩:=(p k).mp z;have:=List.findIdx?_eq_none_iff.mp hr e he;rw[h1]at this;cases this
  dsimp only;have q:∀h' b,Heap.SameBut a s.heap h'->kc knd kOf led h' a (f++[k])->Q b {s with heap:=h'}:=λh' b sb x=>h h' b sb (by rw[j2 B];exact x);have F:=layNew_perm t D (knd.hash k) x;have I:=layNew_fits t D (knd.hash k) x;have J:=ti.lay D (knd.hash k) x;generalize hL:layNew t D (knd.hash k) x=L at F I J⊢;obtain⟨d,T,wd,gv⟩:=L;dsimp only at F I J⊢;rw[Rv]at F;have u:ElemsOf knd d.toList:=(m.push i y).perm F;have K:(d.toList.map λe=>kOf e.2).Perm (f++[k]):=by refine(F.map _).trans ?_;rw[j1,Rh,Z k x i];exact R.append_right _
  have U:d.size=f.length+1:=by rw[<-nk,F.length_eq,iA,nk,hn];rfl
  have n:d.size<scanBound:=by rw[U];exact G
  have say:∀(b:Bool)(V:Shared)(W:Unit->Shared->Prop),W () V->wpAny (model prog w) A (match b with|true=>rule "set.scan.the-table-gave-way"|false=>pure ()) W E V:=λb V W z=>by cases b<;>first|exact e_ z|exact vu z
  have l:∀g:SetTable,g.fits d.size=true->sE led g->wpAny (model prog w) A (do
 storeSet a d g if(!wd&&g.tooFull)=true then do
      (match(relayAll g d (SetTable.grown d.size)).2.2 with|true=>rule "set.scan.the-table-gave-way"|false=>pure ())storeSet a (relayAll g d (SetTable.grown d.size)).1 (relayAll g d (SetTable.grown d.size)).2.1
      pure (some true)else pure (some true)) (λr s'=>wpAny (model prog w) A (match r with|some C=>pure C|none=>setAddHashedIn a x (knd.hash k) 99999) Q E s') E s:=by
   intro g f2 i2;refine a_ (wpAny_storeSet_of P hd ?_ (fits_of_scanBound n));obtain⟨g1,S1⟩:=uG (knd:=knd) (kOf:=kOf) P H hd u K n f2 i2;have M:=A_ s.heap a (Obj.putSet d g);refine s_ (λ_=>?_) (λ_=>e_ (e_ (q _ _ M S1)));have N:=relayAll_perm g d (SetTable.grown d.size);have r2:=relayAll_fits g d (SetTable.grown d.size);have X:=i2.relay d (SetTable.grown d.size);generalize relayAll g d (SetTable.grown d.size)=Rl at N r2 X⊢;obtain⟨Y,t3,aa⟩:=Rl;dsimp only at N r2 X⊢;have O:Y.size=d.size:=by rw[<-nk,N.length_eq,nk]
   refine a_ (say _ _ _ ?_);refine a_ (wpAny_storeSet_of (s:={s with heap:=s.heap.update a (Obj.putSet d g)}) g1 rfl ?_ (fits_of_scanBound (by rw[O];exact n)));obtain⟨_,S2⟩:=uG (knd:=knd) (kOf:=kOf) (ks:=f++[k]) g1 H rfl (u.perm N) ((N.map _).trans K) (by rw[O];exact n) r2 X;exact e_ (e_ (q _ _ (M.trans (A_ _ a _)) S2))
  refine a_ (say _ _ _ ?_)
  split
  ·refine a_ ?_;rw[hashByValue_scannable 8 y];refine e_ ?_;cases ac:plainKind x with|true=>exact l T I J|false=>exact l {T with plain:=false} (SetTable.fits_plain_off I) J.off
  ·exact a_ (e_ (l T I J))
end
end L2
namespace L2
open PySem PySem.Spec PyProof.Rows
section
variable{prog:RR}{w:World}{A:Around}{E:RN}{s:Shared}
def Ka(v:Value)(h:Q₁ (.ref s.heap.objs.size) {s with heap:=s.heap.push (bf (!w.params.followText "set-order"))}):codeAny (model prog w) A (.call (.builtin "set.__new__") ⟨[.type "set",v],[]⟩) (wants Q₁ E) s:=by refine QZ (show wpAny _ A.in1 (do checkBuiltinCall "set.__new__" ⟨[.type "set",v],[]⟩;again (.builtin "set.__new__" ⟨[.type "set",v],[]⟩)) _ _ s from ?_);refine a_ (wpAny_of_eq (F.newCall_set_1 v) (e_ ⟨P4 F.plain_set_new _,ta F.entry_set_new ?_⟩));rw[u1 F.plain_set_new _];unfold Builtin.«set.__new__»Builtin.Frozenset.newClass;have a:=sub_set_self;obtain⟨b,g,d,tk,os⟩:=s;dsimp only;wp_walk;refine N_ (e_ ?_);dsimp only;simp only[newObj];exact a_ (wpAny_alloc (e_ (e_ h)))
end
section
variable{prog:RR}{w:World}{A:Around}{R:Result->Shared->Prop}{c:Type}[DecidableEq c][BEq c][LawfulBEq c]{j a:Addr}{fp g:RW}{G:Array GenState->Array GenState->Prop}{n:Nat}{P:Nat->Value->Prop}{St:Nat->Shared->Prop}
def Fg(l:List c)(x:c)[d:Decidable (x∈l)]:(if x∈l then l else l++[x])=step_dedup l x:=by
 unfold step_dedup
 by_cases h:x∈l
 ·have q:(l.any λy=>y==x)=true:=QR.mpr ⟨x,h,x_ x⟩;rw[ku h,ku q]
 ·have q:¬(l.any λy=>y==x)=true:=λz=>h (by obtain⟨y,b,q⟩:=QR.mp z;rw[<-eq_of_beq q];exact b);rw[j2 h,j2 q]
def Fb(l:PySem.KeyKind prog w c)(kOf:Value->c)(led:Bool)(I:∀k v,l.is k v=true->kOf v=k)(q:WalksS prog w A.in1 j fp g G n P St)(C:a∉fp)(h:Nat->c)(r:∀i v,P i v->l.is (h i) v=true/\v.scannable=true)(D:n+1<scanBound):∀(d i:Nat)(s:Shared),n-i=d->i<=n->St i s->kc l kOf led s.heap a (mf h i)->(∀p,Moved (a::g) G s p->kc l kOf led p.heap a (mf h n)->R (.ok (.ret .none)) p)->codeAny (model prog w) A (.builtin "set.update.loop" ⟨[.ref a,.ref j],[]⟩) R s:=by
 have aw:a∉g:=λz=>C (q.sub _ z);have up:∀b∈g,b∈a::g:=λb z=>i_ _ z;intro d
 induction d with|zero=>
  intro i s hd hi st f k;obtain rfl:i=n:=by lia
  refine ta Qb ?_;rw[u1 vl _];refine a_ (m:=pyNext (.ref j)) (q.done s _ _ st λp t=>?_);exact e_ (k p (t.mono up) (f.keep λo e=>t.heap a o aw e))|succ d J=>
  intro i s hd hi st f k;have lt:i<n:=by lia
  refine ta Qb ?_;rw[u1 vl _];refine a_ (m:=pyNext (.ref j)) (q.item i s _ _ lt st λv p Y u t=>?_);obtain⟨E,K⟩:=r i v Y;have L:kc l kOf led p.heap a (mf h i):=f.keep λo e=>t.heap a o aw e;refine a_ (m:=holding [v] (setAdd a v)) (pu ?_);unfold setAdd;refine pu (a_ (l.pyHash (k:=h i) E ?_));have M:(mf h i).length+1<scanBound:=by have:=Be h i;lia
  refine IJ (s:={p with toks:=p.toks+1}) I E K L M λh' N H f2=>?_;rw[Fg,<-nB]at f2;refine e_ ⟨P4 vl _,J (i+1) _ (by lia) lt (q.frame _ p _ _ u (qc _) λb z o e=>?_) f2 λx y f4=>?_⟩
  ·exact(H.2 b λB=>C (B▸z)).trans e
  ·refine k x (Moved.trans q.gtrans ((t.mono up).then_heap (qc _) λb o z e=>?_) y) f4;exact(H.2 b λB=>z (B▸kw)).trans e
end
section
variable{prog:RR}{w:World}{A:Around}{E:RN}{s:Shared}{d:Type}[DecidableEq d][BEq d][LawfulBEq d]
set_option maxHeartbeats 3200000 in
def zu(n:PySem.KeyKind prog w d)(kOf:Value->d)(P:∀k v,n.is k v=true->kOf v=k)(hh:A.handled=none)(S:s.heap.IsList l h)(t:∀i v,h[i]?=some v->n.is (key i) v=true/\v.scannable=true)(x:h.size+1<scanBound)(k:∀(h':Heap)(tk:Nat),kc n kOf (!w.params.followText "set-order") h' s.heap.objs.size (mf key h.size)->(∀b o,s.heap.get? b=some o->h'.get? b=some o)->Q (.ref s.heap.objs.size) {s with heap:=h',toks:=tk}):wpAny (model prog w) A (call (.type "set") [.ref l]) Q E s:=by
 obtain⟨c,Z,I⟩:=F.called_set.mro;have made:=F.called_set.made;have sub:=F.called_set.sub;have nt:=F.called_set.notType;have cc:=F.called_set.canCreate;have tc:=RD (.ref l);refine QS (QZ ?_);show wpAny _ _ (callAny (.type "set") _) _ _ _;refine e_ ⟨Rj _ (by decide+kernel),ta Rs ?_⟩;rw[Rk (Q5 "set" [.ref l] []) rfl]
 (repeat(any_goals(first|assumption|wp_step)));skip
 refine so (Ka (.ref l) (E:=E) (Q₁:=λu s₁=>u=.ref s.heap.objs.size/\s₁={s with heap:=s.heap.push (bf (!w.params.followText "set-order"))}) ⟨rfl,rfl⟩) λr s₁ C=>?_;cases r with|error e=>exact C|ok O=>cases O with
 |ret u=>
   obtain⟨rfl,rfl⟩:=C;have K:(s.heap.push (bf (!w.params.followText "set-order"))).get? s.heap.objs.size=some (bf (!w.params.followText "set-order")):=h_ _ rfl;have ty:Shared.TypeIs {s with heap:=s.heap.push (bf (!w.params.followText "set-order"))} (.ref s.heap.objs.size) "set":=⟨_,K,rfl⟩;have li:=F.called_set.init.lookup;have bi:=F.called_set.init.bind (.ref s.heap.objs.size)
   (repeat(any_goals(first|assumption|wp_step)));skip
   refine so (Q_ (R:=wants (λr m=>r=.none/\∃h' tk,m={s with heap:=h',toks:=tk}/\kc n kOf (!w.params.followText "set-order") h' s.heap.objs.size (mf key h.size)/\∀b o,s.heap.get? b=some o->h'.get? b=some o) E) F.called_set.init.plain RF (Rz ty ?_)) λy m j=>?_
   ·obtain⟨⟨cl,T,dt,sl⟩,e,L,M,N⟩:=id S;simp only at L N;subst L;subst N;have U:(s.heap.push (bf (!w.params.followText "set-order"))).get? l=some {cls:=.type "list",dict:=T,data:=.seq h M,slots:=sl}:=b_ _ e;have s1:=F.sub_list_set;have s2:=F.sub_list_frozenset;have ne:(Value.type "list"==Value.type "dict")=false:=by decide
    have z:(s.heap.push (bf (!w.params.followText "set-order"))).IsList l h:=⟨_,U,rfl,M,rfl⟩;unfold Builtin.«set.__init__»noKeywords Builtin.Frozenset.updateFrom;generalize D:pyIter=PI;wp_walk;subst D;refine E_ z ?_;refine a_ (Q7 ?_);have lt:l<s.heap.objs.size:=ji e;have sz:(s.heap.push (bf (!w.params.followText "set-order"))).objs.size=s.heap.objs.size+1:=n7 ..;refine Fb n kOf (!w.params.followText "set-order") P ((Walks.list (A:=A.in1.in1.in1) (by simp[hh]) _ l (by rw[sz];exact lm (rx lt)) h).toS) (a:=s.heap.objs.size) (by rw[sz];simp only[ov,n0,to,not_or];exact⟨lm (rm _),oe lt⟩) key t x (h.size-0) 0 _ (by lia) (ng _) ⟨⟨_,h_ _ rfl,rfl,rfl⟩,z.push _⟩ ?f0 ?fR
    case f0=>have g:((s.heap.push (bf (!w.params.followText "set-order"))).push {cls:=.type "list_iterator",data:=.fields #[.ref l,.int 0 0]}).get? s.heap.objs.size=some (bf (!w.params.followText "set-order")):=b_ _ K;exact⟨_,#[],0,_,g,⟨rfl,rfl,rfl⟩,rfl,λe V=>by simp at V,Re _,by decide,by rfl,⟨rfl,λ_=>fQ.few (ng _)⟩⟩
    case fR=>rintro⟨h',W,X,G,H⟩B f;obtain rfl:W=s.gens:=B.gens;obtain rfl:X=s.drawn:=B.drawn;obtain rfl:H=s.os:=B.os;show wpAny _ _ _ _ _ _;refine e_ (show wpAny _ _ (ret Value.none) _ _ _ from e_ ⟨rfl,h',G,rfl,f,λb o q=>?_⟩);have b1:b<s.heap.objs.size:=ji q;exact B.heap b o (by rw[sz];simp only[ov,n0,to,not_or];exact⟨lm b1,lm (rx b1)⟩) (b_ _ (b_ _ q))
   ·cases y with|error e=>exact j|ok p=>cases p with|ret r=>
      obtain⟨rfl,h',tk,rfl,f,Y⟩:=j
      (repeat(any_goals(first|assumption|wp_step)));exact k _ _ f Y|_=>exact j.elim
  |_=>exact C.elim
end
end L2
namespace L2
open PySem PySem.Spec PyProof.Rows
section
variable{prog:RR}{w:World}{A:Around}{E:RN}{s:Shared}
def Go(hh:A.handled=none)(l:fA s.heap a f y t)(hn:f.size<=sizeLine)(n:w.params.followText "set-order"=false->t.led=true)(p:t.plain=true->fQ t.place)(h:∀(h1:Heap)(d:Drawn)(tk:Nat)(c:RQ),c.Perm (f.toList.map (·.2))->(∀b o,s.heap.get? b=some o->h1.get? b=some o)->s.heap.objs.size<=h1.objs.size->(h1.push (seqObj "list" c.toArray 0)).get? h1.objs.size=some (seqObj "list" c.toArray 0)->wpAny (model prog w) A.in1.in1 (Builtin.«list.sort» ⟨[.ref h1.objs.size],[]⟩) (λfin i=>∃v,fin=.done (.ret v)/\Q (.ref h1.objs.size) i) E {s with heap:=h1.push (seqObj "list" c.toArray 0),drawn:=d,toks:=tk}):wpAny (model prog w) A (call (.builtin "sorted") [.ref a]) Q E s:=by
 refine Calls.call_function_entry kind_sorted plain_sorted entry_sorted (args_sorted1 _) ?_;unfold Builtin.«sorted»;refine a_ (m:=checkCount "sorted" 1 1 _) (e_ ?_);refine a_ (BC (A:=A.in1) hh l hn n p λh1 d tk c j k r=>?_);have u:c.length=f.size:=by rw[j.length_eq,c_,nk]
 refine a_ (wpAny_newList ?_ (by rw[u];exact hn));have g:(h1.push (seqObj "list" c.toArray 0)).get? h1.objs.size=some (seqObj "list" c.toArray 0):=h_ _ rfl;refine a_ (pu (pv slot_list_sort (s:={s with heap:=h1.push (seqObj "list" c.toArray 0),drawn:=d,toks:=tk}) ⟨_,g,rfl⟩ entry_list_sort (wpAny_mono (h h1 d tk c j k r g) (λfin i x=>?_) λ_ _ e=>e) (args_list_sort _)));obtain⟨v,rfl,q⟩:=x;exact⟨v,rfl,e_ ⟨_,rfl,q⟩⟩
def Bt{h1:Heap}{vs:RQ}{out:RU}:(∀b o,h1.get? b=some o->(sortedHeap (h1.push (seqObj "list" vs.toArray 0)) h1.objs.size vs out).get? b=some o)/\∃e,(sortedHeap (h1.push (seqObj "list" vs.toArray 0)) h1.objs.size vs out).get? h1.objs.size=some (seqObj "list" out e):=by have g:(h1.push (seqObj "list" vs.toArray 0)).get? h1.objs.size=some (seqObj "list" vs.toArray 0):=h_ _ rfl;refine⟨λb o e=>?_,sortedHeap_at g⟩;have a:b<h1.objs.size:=ji e;rw[sortedHeap_old (lm a) (by rw[n7];exact rx a)];exact b_ _ e
end
end L2
namespace L2
open PySem PySem.Spec PyProof.Rows
def kOf:Value->b0|.int i _=>.inl i|.str x _=>.inr x|_=>.inl 0
def Hy(P:RR)(w:World):∀(k:b0)(v:Value),(aL P w).is k v=true->kOf v=k:=λk v h=>by rcases cB h with⟨i,t,rfl,rfl⟩|⟨x,t,rfl,rfl⟩<;>rfl
abbrev Ev(P:RR)(w:World)(q:Addr)(a:List b0):HO:=.ext λh=>kc (aL P w) kOf (!w.params.followText "set-order") h q a
theorem aM.drawn(I:aM X a b H s)(d:Drawn):aM X a b H {s with drawn:=d}:=⟨I.ok,I.os,I.bare,I.base,I.loc,I.cell,I.free,I.freeC,I.pin,I.hok,I.len⟩
theorem xL:∀{a:RQ}{b:RS},StrsAre a b->bd (b.map V.str) a|_,_,.nil=>.nil|_,_,.cons x t h=>.cons ⟨t,rfl⟩ (xL h)
section
variable{X:Cx}
def Fq(hc:X.calm=true):cO X (.type "set") (λd H Q=>∃(p:Addr)(a:List b0),d=[.ref p]/\aW X.K H p (a.map kV)/\a.length<4000/\∀q,H q=none->Q (.ref q) (aA H q (Ev X.prog X.w q (dd a)))):=by
 intro j s B H d C Q I r h;obtain⟨p,a,rfl,n,k,q⟩:=h;obtain⟨u,rfl,t⟩:=jU r;cases t;obtain⟨b,l,pl,D⟩:=I.list n;have m:=l.length;rw[c_]at m;refine zu (aL X.prog X.w) kOf (Hy _ _) (key:=λi=>a.getD i (.inl 0)) (I.ok.hd hc) pl.isList (λi v c=>?_) (by rw[lh];unfold scanBound;omega) λh' tk f z=>?_
 ·have c:b[i]?=some v:=by simpa using c
  have hi:i<b.length:=(d_.mp c).1;obtain⟨u,h1,h2⟩:=l.get (i:=i) (x:=kV (a[i]'(by lia))) (by rw[ir,f_ (by lia)];rfl);rw[c]at h1;cases h1;have e:a.getD i (.inl 0)=a[i]'(by lia):=by simp[List.getD,f_ (show i<a.length by lia)]
  show(aL X.prog X.w).is (a.getD i (.inl 0)) v=true/\_;rw[e,oV];exact zv h2
 ·rw[show b.toArray.size=a.length by rw[lh];exact m.symm,y9]at f;refine⟨.ref s.heap.objs.size,_,I.laid (h':=h') (t':=tk) (o:=Ev X.prog X.w s.heap.objs.size (dd a)) z (g_ _) ⟨f,?_,λh1 h2 g A=>g.keep A⟩,rfl,q _ (I.hok.fresh (g_ _))⟩;obtain⟨o,_,_,_,e,_⟩:=f.ex;exact⟨o,e⟩
def L8(f:kc (aL P w) kOf led h a g):∃b c t,fA h a b c t/\b.size=g.length/\(b.toList.map λe=>kOf e.2).Perm g/\sE led t/\∀e∈b.toList,oa (kOf e.2) e.2=true:=by obtain⟨o,b,c,t,e,ex,hd,d,pm,_,i,j⟩:=f.ex;refine⟨b,c,t,⟨⟨o,e,ex.1,hd⟩,i⟩,by rw[<-pm.length_eq,c_,nk],pm,j,λx l=>?_⟩;obtain⟨⟨k,h1,_⟩,_⟩:=d x l;rw[Hy P w k x.2 h1];exact h1
variable{P:RR}{w:World}
def Dc(K:RM)(b:X.K=K)(hc:X.calm=true)(c:X.prog=P:=by rfl)(d:X.w=w:=by rfl):cO X (.type "set") (λe H Q=>∃(p:Addr)(a:List b0),e=[.ref p]/\aW K H p (a.map kV)/\a.length<4000/\∀q,H q=none->Q (.ref q) (aA H q (Ev P w q (dd a)))):=by subst b;subst c;subst d;exact Fq hc
end
end L2
namespace L2
open PySem PySem.Spec PyProof.Rows
section
variable{prog:RR}{w:World}{A:Around}{E:RN}{s:Shared}
def nJ(a b:Str):Prop:=¬b.cps.toList<a.cps.toList
def wE(g:StrsAre d v)(h:a.Perm (pairsOf d))(n:SortedToK strKind a (pairsOf d).size):∃c,StrsAre (a.map (·.2)).toList c/\c.Perm v/\c.Pairwise nJ:=by
 obtain⟨o,h1,h2,_⟩:=sorted_out_str g h n;refine⟨o,h1,h2,?_⟩;have z:a.toList.Perm (d.zip d):=by rw[<-pairsOf_toList];exact Array.perm_iff_toList_perm.mp h
 have b:∀p,p∈a.toList->p.1=p.2/\p.1∈d:=λp k=>mem_zip_self (z.mem_iff.mp k);have e:o=a.toList.map λp=>strOf p.2:=by rw[<-h1.strs,Array.toList_map,w1];rfl
 rw[e,List.pairwise_iff_getElem];intro i j hi B l;have m:i<a.size:=by simpa using hi
 have f:j<a.size:=by simpa using B
 have q:=n i j (sm l) (by rw[<-h.size_eq];exact f);obtain⟨x,t,ex⟩:=g.all _ (b a[i] (by simp)).2;obtain⟨y,u,r⟩:=g.all _ (b a[j] (by simp)).2;rw[KK_str m (x:=x) (t:=t) (q:=a[i].2) (Prod.ext ex rfl),KK_str f (x:=y) (t:=u) (q:=a[j].2) (Prod.ext r rfl)]at q
 change decide (y.cps.toList<x.cps.toList)=false at q
 simp only[RC,Array.getElem_toList];have C:strOf a[i].2=x:=by rw[<-(b a[i] (by simp)).1,ex];rfl
 have D:strOf a[j].2=y:=by rw[<-(b a[j] (by simp)).1,r];rfl
 unfold nJ;rw[C,D];exact of_decide_eq_false q
def uH(hh:A.handled=none)(r:fA s.heap a f P t)(u:f.size<64)(y:w.params.followText "set-order"=false->t.led=true)(B:t.plain=true->fQ t.place)(C:∀e∈f.toList,∃x t,e.2=Value.str x t)(h:∀(D:Addr)(h':Heap)(F:Drawn)(tk e:Nat)(out:RQ)(i:RS),s.heap.objs.size<=D->(∀b o,s.heap.get? b=some o->h'.get? b=some o)->h'.get? D=some (seqObj "list" out.toArray e)->StrsAre out i->i.Perm (f.toList.map λe=>strOf e.2)->i.Pairwise nJ->Q (.ref D) {s with heap:=h',drawn:=F,toks:=tk}):wpAny (model prog w) A (call (.builtin "sorted") [.ref a]) Q E s:=by
 refine Go hh r (by rw[k4];lia) y B λh1 G tk c j H I g=>?_;have R:c.length=f.size:=by rw[j.length_eq,c_,nk]
 have k:StrsAre c (c.map strOf):=strsAre_map c λv hm=>by obtain⟨e,J,rfl⟩:=mu.mp (j.mem_iff.mp hm);exact C e J
 refine list_sort_treeK strKind_oneLt g k.keysOf (λp q mE e=>keyKind_strs (by rw[<-e];exact k)) (by lia) λd l m=>⟨_,rfl,?_⟩;obtain⟨n,K,L,M⟩:=wE k l m;obtain⟨N,e,O⟩:=Bt (h1:=h1) (vs:=c) (out:=(arrOf d).map (·.2));refine h h1.objs.size _ G tk e ((arrOf d).map (·.2)).toList n I (λb o z=>N b o (H b o z)) ?_ K (L.trans ?_) M
 ·rw[Array.toArray_toList];exact O
 ·have:=j.map strOf;rw[w1]at this;exact this
end
section
variable{X:Cx}
def BE(hc:X.calm=true):cO X (.builtin "sorted") (λj H Q=>∃(p:Addr)(a:RS),j=[.ref p]/\H p=some (Ev X.prog X.w p (a.map Sum.inr))/\a.length<64/\∀(q:Addr)(b:RS),H q=none->b.Perm a->b.Pairwise nJ->Q (.ref q) (aA H q (.lst (b.map V.str)))):=by
 intro l s N H j O Q I r h;obtain⟨p,a,rfl,C,hn,q⟩:=h;obtain⟨u,rfl,E⟩:=jU r;cases E;obtain⟨f,_,_⟩:=I.hok p _ C;obtain⟨m,P,t,F,n,pm,v,G⟩:=L8 f;rw[c_]at n;have A:∀e∈m.toList,∃x t,e.2=Value.str x t:=λe d=>by
  have hm:kOf e.2∈a.map Sum.inr:=pm.mem_iff.mp (mu.mpr ⟨e,d,rfl⟩);obtain⟨x,_,c⟩:=mu.mp hm;rcases cB (G e d)with⟨i,t,h1,h2⟩|⟨y,t,h1,h2⟩
  ·rw[h1]at c;cases c
  ·exact⟨y,t,h2⟩
 refine uH (I.ok.hd hc) F (by lia) (λz=>by rw[v.led,z];rfl) v.up A λD h' J tk e out b B K g sa sp L=>?_;have sl:b.length=a.length:=by rw[sp.length_eq,c_,nk,n]
 have ex:(m.toList.map λe=>strOf e.2).Perm a:=by
  have h1:=pm.map (λk:b0=>match k with|.inr x=>x|.inl _=>(⟨#[]⟩:Str));rw[w1,w1]at h1;have M:(a.map ((λk:b0=>match k with|.inr x=>x|.inl _=>(⟨#[]⟩:Str))∘Sum.inr))=a:=by rw[show((λk:b0=>match k with|.inr x=>x|.inl _=>(⟨#[]⟩:Str))∘Sum.inr)=id from rfl,List.map_id]
  rw[M]at h1;refine(RK (wh λe d=>?_)).trans h1;obtain⟨x,t,c⟩:=A e d;rw[c];show strOf (Value.str x t)=(match kOf e.2 with|.inr x=>x|.inl _=>(⟨#[]⟩:Str));rw[c];rfl
 refine⟨.ref D,_,(I.drawn J).laid (h':=h') (t':=tk) (o:=.lst (b.map V.str)) K B ⟨?_,out,e,xL sa,g⟩,rfl,q D b (I.hok.fresh B) (sp.trans ex) L⟩;rw[c_,sl,k4];lia
def zM(hc:X.calm=true)(c:X.prog=P:=by rfl)(d:X.w=w:=by rfl):cO X (.builtin "sorted") (λe H Q=>∃(p:Addr)(a:RS),e=[.ref p]/\H p=some (Ev P w p (a.map Sum.inr))/\a.length<64/\∀(q:Addr)(b:RS),H q=none->b.Perm a->b.Pairwise nJ->Q (.ref q) (aA H q (.lst (b.map V.str)))):=by subst c;subst d;exact BE hc
end
section
variable{X:Cx}
end
end L2
namespace L2
open PySem PySem.W PyProof.Rows
def Aa(P:RR)(w:World):BZ:=λouter H s E e a=>∃(d:Addr)(C:Value)(B:Heap)(t:Addr)(c:Hp),e=.ref d/\a.os=s.os/\AllBare a.gens/\Un (kG outer) [] H c s.heap a.heap/\mh P w c a.heap/\Heap.FlyingW B outer d C (.ref t) a.heap/\(∀b o,c b=some o->∃u,B.get? b=some u)/\(∀b o,s.heap.get? b=some o->b∉kG outer->∃u,B.get? b=some u)/\E C none c
def Bw(h:env.frame=some L):kG (env::l)=L::kG l:=by unfold kG;rw[z_,h]
def mh.flown{P:RR}{w:World}{H:Hp}{h h' B:Heap}(x:mh P w H h)(c:∀b o,H b=some o->∃u,B.get? b=some u)(k:B.StaysIn h)(l:B.StaysIn h'):mh P w H h':=λa o e=>(x a o e).stay (λb u d q=>by
  obtain⟨f,g⟩:∃f,H b=some f:=by
   rcases d with rfl|d
   ·exact⟨_,e⟩
   ·exact⟨_,d⟩
  obtain⟨v,i⟩:=c b f g;have j:=k b v i;rw[q]at j;cases j;exact l b _ i) (λ_ q=>q) λ_ _ q=>q
section
variable{P:RR}{w:World}{K:RM}{mg:RP}{base:Heap}{N:RS}{a:Str}{scope:Scope}{f:Addr}{cd:Value}{A:Around}{outer:List Env}{c:Shared}{d:Hp}{E:XK}
def iB:mT (Aa P w) (sk (Aa P w) P w K mg base N a scope f cd A outer c d E) E:=by
 rintro O X H s e G I⟨J,C,B,t,Q,rfl,os,bare,un,hok,r,m,h,q⟩;have v:(envOfC a scope c.heap.objs.size f cd).frame=some c.heap.objs.size:=rfl;have x:kG (envOfC a scope c.heap.objs.size f cd::outer)=c.heap.objs.size::kG outer:=Bw v;have j:Un (kG outer) [] d H c.heap s.heap:=I.base;have un:Un (kG (envOfC a scope c.heap.objs.size f cd::outer)) [] H Q s.heap G.heap:=un;have h:∀b o,s.heap.get? b=some o->b∉kG (envOfC a scope c.heap.objs.size f cd::outer)->∃u,B.get? b=some u:=h;have r:Heap.FlyingW B (envOfC a scope c.heap.objs.size f cd::outer) J C (.ref t) G.heap:=r;have y:∀b o,c.heap.get? b=some o->b∉kG outer->b∉kG (envOfC a scope c.heap.objs.size f cd::outer):=λb o e g hm=>by
  rw[x]at hm;rcases ov.mp hm with rfl|hm
  ·exact absurd (ji e) (q4 _)
  ·exact g hm
 have p:∀b o,c.heap.get? b=some o->b∉kG outer->∃u,B.get? b=some u:=λb o e g=>by obtain⟨L,i⟩:=j.there b o e (by simp);exact h b L i (y b o e g)
 show wpAny (model P w) (A.deeper (envOfC a scope c.heap.objs.size f cd)) (leaving (envOfC a scope c.heap.objs.size f cd) (.ref J)) _ _ G;refine wpAny_leaves_onW (outer:=outer) I.ok.frames v r λh' k up=>?_;refine⟨J,C,B,t,Q,rfl,os.trans I.os,bare,?_,hok.flown m r.1 k.1,k,m,p,q⟩;have slot:∀b o,c.heap.get? b=some o->d b=none->b∈kG outer->∃sl,h'.get? b=some {o with slots:=sl}:=λb o e n g=>by
  obtain⟨sl,i⟩:=j.slot b o e n g (by simp);have n1:=j.free b o e n (by simp);obtain⟨T,z⟩:=un.slot b _ i n1 (by rw[x];exact i_ _ g) (by simp);obtain⟨_,R,l,hd⟩:=I.ok.funs.mem g;have:R=o:=by have l:c.heap.get? b=some R:=l;rw[e]at l;exact(k_ l).symm
  subst this;obtain⟨M,D⟩:=up b _ z hd;exact⟨M,D⟩
 refine⟨λb o e n g _=>?_,λb o e n g _=>slot b o e n g,λb o e n _=>?_,λb o e _=>?_,λb S e=>un.tups b S (j.tups b S e),λb o u e=>un.frzs b o u (j.frzs b o u e),λb U e=>?_⟩
 ·have i:=j.keep b o e n g (by simp);have n1:=j.free b o e n (by simp);have z:=un.keep b o i n1 (y b o e g) (by simp);obtain⟨u,F⟩:=p b o e g;have D:=r.1 b u F;rw[z]at D;cases D;exact k.1 b _ F
 ·obtain⟨L,i⟩:=j.there b o e (by simp);exact un.free b L i (j.free b o e n (by simp)) (by simp)
 ·by_cases g:b∈kG outer
  ·have n:d b=none:=I.ok.frf b g;obtain⟨sl,i⟩:=slot b o e n g;exact⟨_,i⟩
  ·obtain⟨u,F⟩:=p b o e g;exact⟨u,k.1 b u F⟩
 ·obtain⟨V,i⟩:=j.tbls b U e;obtain⟨W,z⟩:=un.tbls b _ i;exact⟨V++W,by rw[z,Array.append_assoc]⟩
end
def cZ.held{P:RR}{w:World}{H:Hp}{h:Heap}{a:Addr}{o:HO}(x:cZ P w H h a o):∃u,h.get? a=some u:=by cases o with|lst c=>obtain⟨_,_,_,_,e⟩:=x;exact⟨_,e⟩|tup c=>obtain⟨_,_,_,_,e,_⟩:=x;exact⟨_,e⟩|dK b=>obtain⟨_,_,_,_,o,_,_,e,_⟩:=x;exact⟨_,e⟩|dT b=>obtain⟨_,_,_,_,o,_,_,e,_⟩:=x;exact⟨_,e⟩|set S n=>obtain⟨o,_,_,_,e,_⟩:=x;exact⟨_,e⟩|ins C dx fs=>obtain⟨_,_,_,e,_⟩:=x;exact⟨_,e⟩|own y=>exact x|xd fs=>obtain⟨_,⟨_,_,_,e,_⟩,_⟩:=x;exact⟨_,e⟩|rng lo hi=>obtain⟨_,_,_,e⟩:=x;exact⟨_,e⟩|frz ob u=>exact⟨_,x.1⟩|tbl d=>exact⟨_,(show h.get? a=some _ from x)⟩|met f y=>exact⟨_,(show h.get? a=some _ from x)⟩|ext φ=>exact x.2.1
def IQ(X:Cx)(E:XK):Prop:=∀(a:RO)(c:St)(H:Hp)(s:Shared)(C:Value)(d:RQ)(h':Heap)(b:Addr),aM X a c H s->Heap.MadeExcOf s.heap h' b C d->E C none H->X.xe (.ref b) {s with heap:=h'}
section
variable{P:RR}{w:World}{K:RM}{mg:RP}{base:Heap}{N:RS}{a:Str}{scope:Scope}{f:Addr}{cd:Value}{A:Around}{outer:List Env}{c:Shared}{d:Hp}{E:XK}
def AC:IQ (sk (Aa P w) P w K mg base N a scope f cd A outer c d E) E:=by
 intro L V H s C W h' M I O q;have m:(envOfC a scope c.heap.objs.size f cd).frame=some c.heap.objs.size:=rfl;have z:kG (envOfC a scope c.heap.objs.size f cd::outer)=c.heap.objs.size::kG outer:=Bw m;have k:Un (kG outer) [] d H c.heap s.heap:=I.base;have p:∀b o,c.heap.get? b=some o->b∉kG outer->b∉kG (envOfC a scope c.heap.objs.size f cd::outer):=λb o e g hm=>by
  rw[z]at hm;rcases ov.mp hm with rfl|hm
  ·exact absurd (ji e) (q4 _)
  ·exact g hm
 generalize D:hideAll s.heap (kG (envOfC a scope c.heap.objs.size f cd::outer))=B;have l:∀{b o},s.heap.get? b=some o->b∉kG (envOfC a scope c.heap.objs.size f cd::outer)->B.get? b=some o:=λe g=>by rw[<-D];exact hideAll_get _ e g
 have r:B.StaysIn s.heap:=λb o e=>by rw[<-D]at e;exact of_hideAll _ e
 have fr:s.heap.FunFrames B (envOfC a scope c.heap.objs.size f cd::outer):=by rw[<-D];exact funFrames_hide (base:=base) I.stack λenv R b g=>D_.mpr ⟨env,R,g⟩
 have v:∀b o,c.heap.get? b=some o->b∉kG outer->∃u,B.get? b=some u:=λb o e g=>by obtain⟨S,x⟩:=k.there b o e (by simp);exact⟨S,l x (p b o e g)⟩
 have j:∀b o,H b=some o->∃u,B.get? b=some u:=λb o e=>by obtain⟨u,F⟩:=(I.hok b o e).held;exact⟨u,l F λhm=>by have n:H b=none:=I.stkFree b hm;rw[e]at n;cases n⟩
 show wpAny (model P w) (A.deeper (envOfC a scope c.heap.objs.size f cd)) (leaving (envOfC a scope c.heap.objs.size f cd) (.ref M)) _ _ _;refine wpAny_leaves_madeW (outer:=outer) (h:=s.heap) I.ok.frames m r fr O λG t y tup _ up=>?_;refine⟨M,C,B,t,H,rfl,I.os,I.bare,?_,I.hok.flown j r y.1,y,j,v,q⟩;have slot:∀b o,c.heap.get? b=some o->d b=none->b∈kG outer->∃sl,G.get? b=some {o with slots:=sl}:=λb o e n g=>by
  obtain⟨sl,x⟩:=k.slot b o e n g (by simp);have T:=O.keeps _ _ x;obtain⟨_,Q,i,hd⟩:=I.ok.funs.mem g;have:Q=o:=by have i:c.heap.get? b=some Q:=i;rw[e]at i;exact(k_ i).symm
  subst this;obtain⟨J,U⟩:=up b _ T hd;exact⟨J,U⟩
 refine⟨λb o e n g _=>?_,λb o e n g _=>slot b o e n g,λb o e n _=>k.free b o e n (by simp),λb o e _=>?_,k.tups,k.frzs,k.tbls⟩
 ·exact y.1 b o (l (k.keep b o e n g (by simp)) (p b o e g))
 ·by_cases g:b∈kG outer
  ·obtain⟨sl,x⟩:=slot b o e (I.ok.frf b g) g;exact⟨_,x⟩
  ·obtain⟨u,F⟩:=v b o e g;exact⟨u,y.1 b u F⟩
end
def yH:List Value:=[.type "ValueError",.type "Exception",.type "BaseException",.type "object"]
def nP(K:RM)(C:Addr):Prop:=excIn K C yH "ValueError.__new__"=true
theorem nP.at{K:RM}{C:Addr}{h:Heap}(kin:K.In h)(x:nP K C):∃l N nm q bs hd g sub i b dd s t u v w n,h.get? C=some (excClassObj nm q C N bs l hd g sub i b dd s t u v w "ValueError.__new__")/\h.Ns N n/\n "__init__"=none/\OwnTail h yH l:=by
 unfold nP excIn at x
 split at x
 ·rename_i dd c sl look
  split at x
  ·rename_i F y k m o p z r a slots;simp only[oi,beq_iff_eq,Bool.not_eq_true']at x;obtain⟨⟨⟨⟨⟨A,B⟩,e⟩,j⟩,d⟩,f⟩:=x;subst A B;rcases c with⟨nm,bs,D,ns,E,hd,g,sub,i,b,dl⟩;dsimp only at a e d f;subst a;subst e;obtain rfl:sl=#[k,m,o,p,some (.builtin "ValueError.__new__"),r]:=by rcases sl with⟨list⟩;exact rb Array.mk slots
   exact⟨y,ns,nm,E,bs,hd,g,sub,i,b,dd,k,m,o,p,r,_,kin _ _ look,.of_isNs (isNs_of_in kin d),nsMap_none_of_in kin d f,tail_of_in kin j⟩
  ·cases x
 ·cases x
def LH(C:Addr)(E:XK)(t:TA):TS:=λ_ a H=>t a H λb c=>b.length<=sizeLine/\E (.ref C) none c
def AE{X:Cx}{C:Addr}{E:XK}{x:Str}{S a i:Pos}{e:Expr}{d:RT}{t:TA}(W:nP X.K C)(hg:Gl X x)(hm:X.mg x=some (.ref C))(hc:X.calm=true)(Z:IQ X E)(ha:PA X (e::d) t)(j:(x==("__debug__":Str))=false:=by decide)(u:starEach (e::d) X.env=(false,eval e X.env)::starEach d X.env:=by rfl)(l:(backTo a (starEach d X.env)).any (·.1)=false:=by rfl):PS X (.Raise (some (.Call (.Name x S) (e::d) [] a)) none i) (LH C E t):=by
 intro c s v H D I h;obtain⟨w,N,nm,q,bs,hd,y,sub,A,f,dd,B,G,J,L,M,O,U,V,k,T⟩:=W.at I.mod.kin;refine wpAny_Raise_call_subT (C:=C) (N:=N) (bm:=w) (mN:=O) (bmB:=yH) (newId:="ValueError.__new__") (nm:=nm) (q:=q) (bs:=bs) (hdct:=hd) (sn:=y) (sub:=sub) (ab:=A) (col:=f) (dd:=dd) (k0:=B) (k1:=G) (k2:=J) (k3:=L) (k5:=M) PySem.F.excBase_ValueError (T.hasType PySem.F.excBase_ValueError.hasBase) (I.ok.hd hc) ?_ k (nD I hg hm ⟨rfl,?_⟩ j)
 ·rw[u];show(false||(backTo a (starEach d X.env)).any (·.1))=false;rw[l];rfl
 ·have g:=ha a c s v H _ I h;rw[u]at g⊢;refine t_ (cw g λQ R⟨vs,H1,I1,r,z,q1⟩=>?_);have p:∀b o,X.base.get? b=some o->R.heap.get? b=some o:=I1.bk;exact⟨rfl,by show Q.length<=_;rw[<-r.length];exact z,p _ _ U,V.keeps p,T.keeps p,λh' ea m=>Z c v H1 R (.ref C) Q h' ea I1 m q1⟩
end L2
namespace L2
open PySem PySem.W PyProof.Rows
def Un.flown{fs:RW}{H i:Hp}{h1 h' h5 B:Heap}(un:Un fs [] H i h1 h')(c:∀b o,h1.get? b=some o->b∉fs->∃u,B.get? b=some u)(k:B.StaysIn h')(j:B.StaysIn h5)(up:h'.UpToSlots h5)(fr:∀b∈fs,H b=none/\∀o,h1.get? b=some o->∀l,o.data≠.fields l):Un fs [] H i h1 h5:=by
 have slot:∀b o,h1.get? b=some o->H b=none->b∈fs->∃sl,h5.get? b=some {o with slots:=sl}:=λb o e n a=>by obtain⟨sl,g⟩:=un.slot b o e n a (by simp);obtain⟨h,d⟩:=up b _ g ((fr b a).2 o e);exact⟨h,d⟩
 refine⟨λb o e n a m=>?_,λb o e n a _=>slot b o e n a,un.free,λb o e _=>?_,un.tups,un.frzs,un.tbls⟩
 ·have p:=un.keep b o e n a m;obtain⟨u,f⟩:=c b o e a;have d:=k b u f;rw[p]at d;cases d;exact j b _ f
 ·by_cases a:b∈fs
  ·obtain⟨sl,g⟩:=slot b o e (fr b a).1 a;exact⟨_,g⟩
  ·obtain⟨u,f⟩:=c b o e a;exact⟨u,j b u f⟩
abbrev Cx.inExc(X:Cx)(a:Addr):Cx:={X with A:=X.A.mark (some (.ref a)),calm:=false,xe:=λ_ _=>False}
section
variable{X:Cx}{a:RO}{c:St}{H:Hp}{s:Shared}{b:Addr}
theorem Cx.Ok.inExc(ok:X.Ok)(b:Addr):(X.inExc b).Ok:=⟨ok.mod,ok.kind,ok.glob,ok.blt,ok.above,ok.inj,ok.has,ok.cab,λz=>absurd z (by simp),ok.frames,ok.stk,ok.exf,ok.bs,ok.bsz,ok.noex,ok.exfs,ok.funs,ok.frf⟩
theorem aM.inExc(I:aM X a c H s)(b:Addr):aM (X.inExc b) a c H s:=⟨I.ok.inExc b,I.os,I.bare,I.base,I.loc,I.cell,I.free,I.freeC,I.pin,I.hok,I.len⟩
def aM.outExc(ok:X.Ok)(I:aM (X.inExc b) a c H s):aM X a c H s:=⟨ok,I.os,I.bare,I.base,I.loc,I.cell,I.free,I.freeC,I.pin,I.hok,I.len⟩
theorem SP.outExc(ok:X.Ok)(h:SP (X.inExc b) a D f g):SP X a D f g:=by cases f with|next=>obtain⟨d,e,I,q⟩:=h;exact⟨d,e,I.outExc ok,q⟩|brk=>obtain⟨d,e,I,q⟩:=h;exact⟨d,e,I.outExc ok,q⟩|cont=>obtain⟨d,e,I,q⟩:=h;exact⟨d,e,I.outExc ok,q⟩|ret u=>obtain⟨v,d,e,I,r,q⟩:=h;exact⟨v,d,e,I.outExc ok,r,q⟩
end
def qp(c:BZ)(X:Cx)(E:XK)(a:RO)(d:St):Prop:=∀(H:Hp)(s:Shared)(e:Value)(b:Shared),aM X a d H s->c X.stack H s E e b->X.xe e b
def OS(X:Cx)(a:RO)(b:St)(e:Expr)(t:TE):Prop:=∀(s:Shared)(H:Hp)(Q:VK),aM X a b H s->t b H Q->wpAny (model X.prog X.w) X.A (eval e X.env) (EP X a b Q) X.xe s
def OR(X:Cx)(a:RO)(b:St)(st:Stmt)(t:TS):Prop:=∀(s:Shared)(H:Hp)(D:qG),aM X a b H s->t D b H->wpAny (model X.prog X.w) X.A (exec st X.env) (SP X a D) X.xe s
section
variable{X:Cx}{L:BZ}{k:Nat}{f C:Addr}{fd:FuncData}{J:RS}{sp:Sp}{j:List V}{ds:RQ}{E:XK}{x m:Str}{p d n:Pos}{e o:Expr}{G:RT}{M:TE}{t:TA}{b:RO}{B:St}
def Mb(F:aS X.prog X.w X.K X.mg X.base L k f fd J sp)(g:eE k X.A)(i:gx X.K fd J ds)(hd:bd j ds)(l:qp L X E b B)(I:aM X b B H s)(r:bd vs us)(h:sp (vs++j) H Q E):wpAny (model X.prog X.w) X.A (call (.ref f) us) (EP X b B Q) X.xe s:=by
 have a:bd (vs++j) (us++ds):=r.append hd;have len:(us++ds).length=J.length:=a.length▸F.len _ _ _ _ h;refine QS (so (F.run X.A X.stack s H ⟨us,[]⟩ (us++ds) (vs++j) Q E g I.env0 (i s us I.kIn len) a h) λc q z=>?_);rcases c with ex|v
 ·exact l H s ex q I z
 ·cases v with|ret u=>exact I.after z|next=>cases z|brk=>cases z|cont=>cases z
def Kd(P:PE X o M)(c:z9 X.K C)(hm:IV X.K C m f)(F:aS X.prog X.w X.K X.mg X.base L k f fd J sp)(R:eE k X.A)(S:gx X.K fd J ds)(hd:bd j ds)(T:qp L X E b B)(Z:PA X (e::G) t)(i:starEach (e::G) X.env=(false,eval e X.env)::starEach G X.env:=by rfl)(y:(backTo d (starEach G X.env)).any (·.1)=false:=by rfl)(ht:eval (.Call (.Attribute o m n) (e::G) [] d) X.env=(do
   let obj<-eval o X.env
   standAt n.atName let(g,first)<-holding [obj] (getMethod obj m pl)callWith d g first (backTo d (starEach (e::G) X.env)) (backToKw d (keywordEach [] X.env))):=by rfl):OS X b B (.Call (.Attribute o m n) (e::G) [] d) (FY C m sp j E M t):=by intro s H Q I h;refine PySem.W.methodCall_KW (pl:=pl) (cw (P b s B H _ I h) λu U⟨v,Y,I1,rv,a,dx,fs,ev,ea,l,q⟩=>?_) ht;subst ev;cases(show u=Value.ref a from rv);refine o7 I1 ea c hm l (PySem.W.callWith_K (first:=[.ref a]) (h₀:=X.base) I.ok.mod.kin hm.kp (cw (Z d b U B Y _ I1 q) λD s2⟨N,H2,O,r,q2⟩=>⟨O.kIn,?_⟩) i y);exact Mb (us:=.ref a::D) (vs:=.ref a::N) F R S hd T O (.cons rfl r) q2
def L9(c:X.N.Nodup)(hi:X.N[i]?=some x)(g:Ni X.env.scope x)(l:OS X b B e te)(q:swapsWith e (some (.Name x a)) d.line X.env=pure false:=by rfl)(r:X.fn x=true\/X.env.scope.names.lookup x=some .local:=by first|exact .inl rfl|exact .inr rfl|assumption):OR X b B (.Assign [.Name x a] e d) (Aj te (k7 i)):=by intro s H D I h;exact wpAny_Assign_Name (cw (l s H _ I h) λv F⟨y,u,I1,w,z⟩=>uF I1 c hi g w (λK A=>⟨_,u,A,z⟩) r) q
end
theorem PS.nox{X:Cx}{st:Stmt}{t:TS}(h:PS X.nox st t):PS X st t:=λa s b H D I c=>wpAny_mono (h a s b H D (I.wish _) c) (λ_ _ q=>q.unwish) λ_ _ z=>False.elim z
section
variable{P:RR}{w:World}{K:RM}{mg:RP}{base:Heap}
def zZ.okE{x a:Str}{st:Stmt}{f:Addr}{fd:FuncData}{N e:RS}{k:Nat}{sp:Sp}(F:zZ K x a st f fd)(S:ay N e (ak st))(len:∀c H Q E,sp c H Q E->c.length=e.length)(d:∀(b:Value)(A:Around)(outer:List Env)(s:Shared)(H:Hp)(c:List V)(Q:VK)(E:XK),eE k (A.deeper (envOfC a (ak st) s.heap.objs.size f b))->sp c H Q E->∃t,xC (sk (Aa P w) P w K mg base N a (ak st) f b A outer s H E) (gk st) t/\t {nx:=λ_ i=>Q .non i,rt:=Q} (jh N c) H):aS P w K mg base (Aa P w) (k+1) f fd e sp:=by obtain⟨oc,o,kV,j,pm,p,b,ct,l,rfl,m,g⟩:=F.ex;exact Lh m g S len λA outer s H c Q E n h=>d b A outer s H c Q E n h
end
def KM(s:Stmt):List Stmt:=match s with|.ClassDef _ _ _ b _ _ _ _ _ _ _=>b|_=>[]
end L2
namespace L2
open PySem PySem.W PyProof.Rows
abbrev bN:=b0⊕List b0
section
variable(P:RR)(w:World)
def iJ:bN->Int|.inl k=>(aL P w).hash k|.inr a=>(tupleKind (aL P w)).hash a
def kz:bN->Nat|.inl _=>1|.inr a=>a.length+1
def n9(h:Heap)(k:bN)(v:Value):Prop:=match k with|.inl k=>(aL P w).is k v=true|.inr b=>∃a,v=.ref a/\(tupleKind (aL P w)).is h b a
abbrev kE:=bN×Value×Value
def t4(x:kE):DictEntry:=⟨iJ P w x.1,x.2.1,x.2.2⟩
end
section
variable{P:RR}{w:World}{A:Around}{E:RN}{s:Shared}
def n9.flat(x:n9 P w h (.inl k) v):(∃i t,v=.int i t/\k=.inl i)\/∃z t,v=.str z t/\k=.inr z:=by have x:oa k v=true:=x;cases k with
 |inl i=>have x:Value.isInt i v=true:=x;cases v with|int j t=>simp[Value.isInt]at x;exact .inl ⟨_,_,rfl,by rw[x]⟩|_=>cases x
 |inr z=>have x:Value.isStrOf z v=true:=x;cases v with|str j t=>simp[Value.isStrOf]at x;exact .inr ⟨_,_,rfl,by rw[x]⟩|_=>cases x
def Hi(c:A.units<cLine)(b:n9 P w s.heap k v)(q:Q (iJ P w k) {s with toks:=s.toks+kz k}):wpAny (model P w) A (pyHash v) Q E s:=by cases k with|inl k=>exact(aL P w).pyHash b q|inr d=>obtain⟨a,rfl,b⟩:=b;exact(tupleKind (aL P w)).pyHash c b q
def Kf(c:A.units<cLine)(f:n9 P w s.heap x u)(e:n9 P w s.heap y v)(q:Q (decide (x=y)) s):wpAny (model P w) A (eqBool u v) Q E s:=by cases x with
 |inl x=>cases y with|inl y=>exact(aL P w).eqBool f e (by simpa using q)|inr j=>
   obtain⟨a,rfl,o,g,n,d,hc,hd,hi⟩:=e;rw[nn (by intro z;cases z)]at q;rcases f.flat with⟨i,t,rfl,_⟩|⟨z,t,rfl,_⟩
   ·exact SeqAt.EqAt.int_tuple i t ⟨_,d,hc,_,hd⟩ c P w E Q q
   ·exact SeqAt.EqAt.str_tuple z t ⟨_,d,hc,_,hd⟩ c P w E Q q
 |inr j=>obtain⟨a,rfl,h⟩:=f;cases y with|inl y=>
   obtain⟨o,g,n,d,hc,hd,hi⟩:=h;rw[nn (by intro z;cases z)]at q;rcases n9.flat e with⟨i,t,rfl,_⟩|⟨z,t,rfl,_⟩
   ·exact SeqAt.EqAt.tuple_int i t ⟨_,d,hc,_,hd⟩ c P w E Q q
   ·exact SeqAt.EqAt.tuple_str z t ⟨_,d,hc,_,hd⟩ c P w E Q q|inr ls=>obtain⟨b,rfl,k⟩:=e;exact(tupleKind (aL P w)).eqBool c h k (by simpa using q)
def DI(b:n9 P w s.heap k v)(q:Q true s):wpAny (model P w) A (eqIsQuiet 8 v) Q E s:=by
 cases k with|inl k=>
  rcases b.flat with⟨i,t,rfl,_⟩|⟨z,t,rfl,_⟩
  ·exact e_ q
  ·exact e_ q|inr c=>obtain⟨a,rfl,b⟩:=b;exact(tupleKind (aL P w)).quiet b q
theorem n9.inj(d:n9 P w h x v)(c:n9 P w h y v):x=y:=by cases x with
 |inl x=>cases y with|inl y=>rw[(aL P w).inj v x y d c]|inr f=>obtain⟨a,rfl,_⟩:=c;rcases d.flat with⟨i,t,e,_⟩|⟨z,t,e,_⟩<;>cases e
 |inr f=>obtain⟨a,rfl,g⟩:=d;cases y with|inl y=>rcases n9.flat c with⟨i,t,e,_⟩|⟨z,t,e,_⟩<;>cases e|inr ls=>obtain⟨b,e,j⟩:=c;cases e;rw[(tupleKind (aL P w)).inj g j]
def Ke{k:bN}{v:Value}{st:RQ}{Q:Bool->Shared->Prop}(d:n9 P w s.heap k v)(e:∀u∈st,∃a,n9 P w s.heap a u)(q:Q false s):wpAny (model P w) A (tableMayTell v st) Q E s:=by
 unfold tableMayTell
 split
 ·exact e_ q
 ·refine a_ (DI d ?_);simp only[Bool.not_true,P9,QM];refine a_ (Rx _ (λleft r b=>b=s/\r=(none,())/\∀u∈left,∃a,n9 P w s.heap a u) _ ?_ ?_ _ _ ⟨rfl,rfl,e⟩)
  ·rintro u left r b⟨rfl,rfl,c⟩;obtain⟨a,f⟩:=c u kw;refine a_ (DI f ?_);simp only[Bool.not_true,P9,QM];exact e_ ⟨rfl,rfl,λz g=>c z (i_ _ g)⟩
  ·rintro r b⟨rfl,rfl,_⟩;exact e_ q
def Ow{a:Array DictEntry}{b:List kE}(c:a.toList=b.map (t4 P w))(j:Nat):a[j]?=(b[j]?).map (t4 P w):=by rw[<-tA,c,ir]
def Hg{a:Array DictEntry}{b:List kE}(c:a.toList=b.map (t4 P w)):a.size=b.length:=by rw[<-nk,c,c_]
def Hh{a:List kE}(hn:(a.map (·.1)).Nodup){i j:Nat}{k:bN}{p q:Value×Value}(hi:a[i]?=some (k,p))(c:a[j]?=some (k,q)):i=j:=by
 have b:(a.map (·.1))[i]?=some k:=by rw[ir,hi];rfl
 have d:(a.map (·.1))[j]?=some k:=by rw[ir,c];rfl
 exact(F_ (d_.mp b).1 hn).mp (b.trans d.symm)
def Pz[Decidable c](h1:c->wpAny (model P w) A t Q E s)(h2:¬c->wpAny (model P w) A u Q E s):wpAny (model P w) A (if c then t else u) Q E s:=by
 by_cases h:c
 ·rw[ku h];exact h1 h
 ·rw[j2 h];exact h2 h
def Nh(a:List kE)(k:bN)(s:Shared)(b:Option (Option Nat)×Option Nat)(c:Shared):Prop:=c=s/\((∃j p,b=(some (some j),none)/\a[j]?=some (k,p))\/(b.1=none/\((b.2=none/\∀(j:Nat)(p:Value×Value),a[j]?≠some (k,p))\/∃j p,b.2=some j/\a[j]?=some (k,p))))
def ME{h:List kE}{k:bN}{a:RV}(hn:(h.map (·.1)).Nodup)(u:∀j p,h[j]?=some (k,p)->j∈a)(v:∀j∈a,∃y:kE,h[j]?=some y/\iJ P w y.1=iJ P w k)(n:a.Nodup)(f:Nat->Option (Option Nat)×Option Nat->Sem (ForInStep (Option (Option Nat)×Option Nat)))(h1:∀(x:Nat)(p:Value×Value)(R:ForInStep (Option (Option Nat)×Option Nat)->Shared->Prop),x∈a->h[x]?=some (k,p)->R (.done (some (some x),none)) s->R (.yield (none,some x)) s->wpAny (model P w) A (f x (none,none)) R E s)(h2:∀(x:Nat)(o:Option Nat)(y:kE)(R:ForInStep (Option (Option Nat)×Option Nat)->Shared->Prop),x∈a->h[x]?=some y->iJ P w y.1=iJ P w k->y.1≠k->R (.yield (none,o)) s->wpAny (model P w) A (f x (none,o)) R E s):wpAny (model P w) A (forIn a ((none,none):Option (Option Nat)×Option Nat) f) (Nh h k s) E s:=by
 refine Rx f (λleft b B=>B=s/\b.1=none/\∃pre,a=pre++left/\((b.2=none/\∀j∈pre,∀p,h[j]?≠some (k,p))\/∃j p,b.2=some j/\j∈pre/\h[j]?=some (k,p))) _ ?_ ?_ _ _ ⟨rfl,rfl,[],rfl,.inl ⟨rfl,by simp⟩⟩
 ·rintro x left⟨b1,b2⟩B⟨rfl,rfl,pre,m,t⟩;have i:x∈a:=by rw[m];simp
  have C:x∉pre:=λz=>by rw[m,op]at n;exact n.2.2 x z x kw rfl
  obtain⟨y,l,hh⟩:=v x i;have r:a=(pre++[x])++left:=by rw[m];simp
  by_cases e:y.1=k
  ·obtain⟨D,p⟩:=y;have e:D=k:=e;subst e;rcases t with⟨rfl,g⟩|⟨j,q,rfl,d,c⟩
   ·refine h1 x p _ i l ⟨rfl,.inl ⟨x,p,rfl,l⟩⟩ ⟨rfl,rfl,pre++[x],r,.inr ⟨x,p,rfl,by simp,l⟩⟩
   ·exact absurd (Hh hn c l▸d) C
  ·refine h2 x b2 y _ i l hh e ⟨rfl,rfl,pre++[x],r,?_⟩;rcases t with⟨rfl,g⟩|⟨j,q,rfl,d,c⟩
   ·refine .inl ⟨rfl,λj d p z=>?_⟩;rcases RJ.mp d with d|d
    ·exact g j d p z
    ·rw[List.mem_singleton.mp d,l]at z;cases z;exact e rfl
   ·exact .inr ⟨j,q,rfl,t2 _ d,c⟩
 ·rintro⟨b1,b2⟩B⟨rfl,rfl,pre,m,t⟩;refine⟨rfl,.inr ⟨rfl,?_⟩⟩;rcases t with⟨rfl,g⟩|⟨j,q,rfl,d,c⟩
  ·refine .inl ⟨rfl,λj p z=>g j ?_ p z⟩;have:=u j p z;rw[m,v_]at this;exact this
  ·exact .inr ⟨j,q,rfl,c⟩
def Hj{d:Addr}{o:Obj}{n:Array DictEntry}{ep:Nat}{C:List kE}{k:bN}{g:Value}{Q:Option Nat->Shared->Prop}(hu:A.units<cLine)(f:n9 P w s.heap k g)(L:s.heap.get? d=some o)(hd:o.data=.dict n ep)(he:n.toList=C.map (t4 P w))(u:∀x∈C,n9 P w s.heap x.1 x.2.1)(hn:(C.map (·.1)).Nodup)(D:(∀(j:Nat)(p:Value×Value),C[j]?≠some (k,p))->Q none s)(q:∀(j:Nat)(p:Value×Value),C[j]?=some (k,p)->Q (some j) s):wpAny (model P w) A (dictFind d g (iJ P w k)) Q E s:=by
 have sz:=Hg he;have B:=Ow he;generalize K:placesWithHash n.size (λi=>n[i]?.map (·.hash)) (iJ P w k)=c;have ad:∀j p,C[j]?=some (k,p)->j∈c:=λj p l=>by
  rw[<-K];unfold placesWithHash;refine v1.mpr ⟨si.mpr ?_,?_⟩
  ·rw[sz];exact(d_.mp l).1
  ·show(n[j]?.map (·.hash)==some (iJ P w k))=true;rw[B j,l];simp[t4]
 have S:∀j∈c,∃y:kE,C[j]?=some y/\iJ P w y.1=iJ P w k:=λj l=>by rw[<-K]at l;unfold placesWithHash at l;obtain⟨h1,h2⟩:=v1.mp l;have h1:=si.mp h1;rw[sz]at h1;refine⟨C[j],f_ h1,?_⟩;have h2:(n[j]?.map (·.hash)==some (iJ P w k))=true:=h2;rw[B j,f_ h1]at h2;simpa[t4]using h2
 have an:c.Nodup:=by rw[<-K];exact List.filter_sublist.nodup List.nodup_range
 have plain:wpAny (model P w) A (dictWalkPlain d g (iJ P w k) n c) Q E s:=by
  unfold dictWalkPlain;refine a_ (Rx _ (λleft b s'=>s'=s/\b=(none,())/\∃pre,c=pre++left/\∀j∈pre,∀p,C[j]?≠some (k,p)) _ ?_ ?_ _ _ ⟨rfl,rfl,[],rfl,by simp⟩)
  ·rintro x left b s'⟨rfl,rfl,pre,hp,T⟩;obtain⟨⟨M,kv,v'⟩,m,hh⟩:=S x (by rw[hp];simp);have G:n[x]?=some ⟨iJ P w M,kv,v'⟩:=by rw[B x,m];rfl
   rw[G];dsimp only;rw[ku (by rw[hh];simp)];refine a_ (z0 L hd (a_ (Kf (x:=M) (y:=k) hu (u _ (il m)) f (a_ (z0 L hd ?_)))));show wpAny (model P w) A (if(ep !=ep)=true then _ else _) _ E s';rw[j2 (by simp)]
   by_cases N:M=k
   ·rw[m_ N];subst N;exact a_ (vu (e_ (e_ (q x _ m))))
   ·rw[nn N];refine a_ (vu (e_ ⟨rfl,rfl,pre++[x],by rw[hp];simp,λj l p z=>?_⟩));rcases RJ.mp l with l|l
    ·exact T j l p z
    ·rw[List.mem_singleton.mp l,m]at z;cases z;exact N rfl
  ·rintro b s'⟨rfl,rfl,pre,hp,T⟩;refine e_ (D λj p z=>T j ?_ p z);have:=ad j p z;rw[hp,v_]at this;exact this
 have al:∀v∈c.filterMap (λi=>n[i]?.map (·.key)),∃M,n9 P w s.heap M v:=λv U=>by obtain⟨i,hi,U⟩:=D_.mp U;obtain⟨y,I,_⟩:=S i hi;rw[B i,I]at U;cases U;exact⟨_,u y (il I)⟩
 unfold dictFind
 with_reducible refine pu ?_
 refine a_ (wpAny_dictEntries L hd ?_);dsimp only;rw[K];generalize a7:c.filterMap (λi=>n[i]?.map (·.key))=stored at al⊢;have H:∀z t,g=.str z t->(n.all λe=>isExactStrKey e.key)=true->wpAny (model P w) A (foundByValue d g n z) Q E s:=by
  rintro z t rfl-;have ek:k=.inl (.inr z):=by
   cases k with|inl k=>
    rcases f.flat with⟨i,t',e,_⟩|⟨z',t',e,e2⟩
    ·cases e
    ·cases e;rw[e2]|inr ks=>obtain⟨a,e,_⟩:=f;cases e
  have ap:∀(j:Nat)(y:kE),C[j]?=some y->y.2.1.isStr z=true->y.1=k:=λj y I J=>by have h3:=u y (il I);refine n9.inj h3 ?_;rw[ek];cases U:y.2.1 with
 |str z' t'=>
    rw[U]at J;have:z'=z:=by simpa[Value.isStr]using J
    rw[this];exact sR P w z t'|_=>rw[U]at J;cases J
  have as:∀(j:Nat)(p:Value×Value),C[j]?=some (k,p)->p.1.isStr z=true:=λj p l=>by
   have h3:n9 P w s.heap k p.1:=u _ (il l);rw[ek]at h3;rcases h3.flat with⟨i,t',_,e⟩|⟨z',t',e,e2⟩
   ·cases e
   ·cases e2;rw[e];simp[Value.isStr]
  unfold foundByValue;cases hf:n.findIdx? (λe=>e.key.isStr z)with
 |none=>
   refine e_ (D λj p l=>?_);have F:=Array.findIdx?_eq_none_iff.mp hf;have h4:n[j]?=some (t4 P w (k,p)):=by rw[B j,l];rfl
   have h5:=F _ (Array.mem_of_getElem? h4);have h6:p.1.isStr z=false:=by simpa[t4]using h5
   rw[as j p l]at h6;cases h6|some i=>
   obtain⟨V,hi,_⟩:=Array.findIdx?_eq_some_iff_getElem.mp hf;have m:C[i]?=some (C[i]'(by rw[<-sz];exact V)):=f_ _;generalize C[i]'(by rw[<-sz];exact V)=y at m;have G:n[i]?=some (t4 P w y):=by rw[B i,m];rfl
   have a2:y.2.1.isStr z=true:=by rw[tl V]at G;rw[k_ G]at hi;exact hi
   have I:=ap i y m a2;obtain⟨M,p⟩:=y;have I:M=k:=I;subst I;dsimp only;rw[G];dsimp only;refine a_ (z0 L hd (a_ (Kf (x:=M) (y:=M) hu (u _ (il m)) f (a_ (z0 L hd ?_)))));rw[j2 (by simp),ku (m_ rfl)];exact a_ (vu (e_ (q i p m)))
 have O:∀a,g=.ref a->¬(n.any λe=>e.key==g&&e.hash !=iJ P w k)=true:=by intro a ea;rw[<-Array.any_toList,he,QR];rintro⟨e,a3,hc⟩;obtain⟨y,I,rfl⟩:=mu.mp a3;simp only[t4,oi,beq_iff_eq,bne_iff_ne,ne_eq]at hc;have h3:=u y I;rw[hc.1]at h3;exact hc.2 (by rw[h3.inj f])
 by_cases F:((g::stored).all carriedByValue)=true
 ·rw[ku F]
  split
  ·rename_i z t
   split
   ·rename_i J;exact H z t rfl J
   ·exact plain
  ·exact plain
 ·rw[j2 F];have W:(∃i t,g=.int i t)\/(∃z t,g=.str z t)\/∃a,g=.ref a:=by
   cases k with|inl k=>
    rcases f.flat with⟨i,t,e,_⟩|⟨z,t,e,_⟩
    ·exact .inl ⟨i,t,e⟩
    ·exact .inr (.inl ⟨z,t,e⟩)|inr ks=>obtain⟨a,e,_⟩:=f;exact .inr (.inr ⟨a,e⟩)
  have X:∀(x:Nat)(p:Value×Value),C[x]?=some (k,p)->∃e,n[x]?=some e/\e.hash=iJ P w k/\n9 P w s.heap k e.key:=λx p m=>⟨_,by rw[B x,m];rfl,rfl,u _ (il m)⟩;have Y:∀(x:Nat)(y:kE),C[x]?=some y->∃e,n[x]?=some e/\e.hash=iJ P w y.1/\n9 P w s.heap y.1 e.key:=λx y m=>⟨_,by rw[B x,m];rfl,rfl,u _ (il m)⟩;rcases W with⟨i,t,e⟩|⟨z,t,e⟩|⟨a,e⟩
  case' inl=>subst e;dsimp only
  case' inr.inl=>
   subst e;dsimp only
   by_cases J:(n.all λe=>isExactStrKey e.key)=true
   case pos=>rw[ku J];exact H z t rfl J
   case' neg=>rw[j2 J]
  case' inr.inr=>subst e;dsimp only;rw[j2 (O a rfl)]
  all_goals refine Pz (λ_=>a_ (e_ ?_)) (λ_=>a_ (Ke f al ?_))
  all_goals rw[j2 (by simp)];refine a_ (wpAny_mono (ME (P:=P) (w:=w) hn ad S an _ ?_ ?_) (λb s' z=>?_) λ_ _ z=>z)
  all_goals first
   |(obtain⟨b1,b2⟩:=b
     obtain⟨rfl,h⟩:=z;rcases h with⟨j,p,e,l⟩|⟨e,h⟩
     ·cases e;exact e_ (q j p l)
     ·have e:b1=none:=e;subst e;rcases h with⟨e,h⟩|⟨j,p,e,l⟩<;>(have e:b2=_:=e;subst e)
      ·exact e_ (D h)
      ·exact e_ (q j p l))
   |(intro x p R a5 m r1 r2
     obtain⟨e,Z,aa,ac⟩:=X x p m;rw[Z];dsimp only;rw[ku (by rw[aa];simp)];refine a_ (z0 L hd (a_ (Kf (x:=k) (y:=k) hu ac f (a_ (z0 L hd ?_)))));rw[j2 (by simp),ku (m_ rfl),j2 (by simp)];refine a_ (vu ?_)
     split
     ·exact e_ r1
     ·exact e_ r2)
   |(intro x a8 y R a5 m hh a6 r
     obtain⟨e,Z,aa,ac⟩:=Y x y m;rw[Z];dsimp only;rw[ku (by rw[aa,hh];simp)];refine a_ (z0 L hd (a_ (Kf (x:=y.1) (y:=k) hu ac f (a_ (z0 L hd ?_)))));rw[j2 (by simp),j2 (by simp[a6])];refine a_ (vu ?_);rw[j2 (by simp)];exact e_ r)
end
end L2
namespace L2
open PySem PySem.W PyProof.Rows
section
variable{P:RR}{w:World}{A:Around}{E:RN}{s:Shared}
def DJ{c:Type}{a:List (bN×c)}(hn:(a.map (·.1)).Nodup){j:Nat}{k:bN}{p:c}(d:a[j]?=some (k,p)):a.find? (λx=>decide (x.1=k))=some (k,p):=by
 rw[List.find?_eq_some_iff_append];obtain⟨g,e⟩:=d_.mp d;refine⟨m_ rfl,a.take j,a.drop (j+1),?_,λy h=>?_⟩
 ·rw[<-e,List.getElem_cons_drop,q_]
 ·obtain⟨i,hi⟩:=j_.mp h;have b:i<j:=by have:=(d_.mp hi).1;rw[m3]at this;omega
  rw[QF b]at hi;have:y.1≠k:=λz=>by
   have f:(a.map (·.1))[i]?=some k:=by rw[ir,hi,<-z];rfl
   have l:(a.map (·.1))[j]?=some k:=by rw[ir,d];rfl
   have:=(F_ (d_.mp f).1 hn).mp (f.trans l.symm);lia
  simp[this]
def xY{b:Type}{c:List (bN×b)}{k:bN}(h:∀(j:Nat)(p:b),c[j]?≠some (k,p)):c.find? (λx=>decide (x.1=k))=none:=by rw[List.find?_eq_none];intro x d a;obtain⟨j,e⟩:=j_.mp d;have a:x.1=k:=rd a;exact h j x.2 (by rw[e,<-a])
structure jG(P:RR)(w:World)(h:Heap)(d:Addr)(ys:List kE):Prop where ok:∃o es ep,h.get? d=some o/\o.ExactDict/\o.data=.dict es ep/\es.toList=ys.map (t4 P w)nd:(ys.map (·.1)).Nodup
def ft{b a:Type}(c:List (bN×b×a))(k:bN):Option a:=(c.find? λy=>decide (y.1=k)).map (·.2.2)
def fS{a b:Type}(c:List (bN×a×b))(k:bN)(d:a)(v:b):List (bN×a×b):=if(ft c k).isSome then c.map λy=>if y.1=k then(y.1,y.2.1,v)else y else c++[(k,d,v)]
def Ov{d:Addr}{c:List kE}{k:bN}{b:Value}{Q:Option Value->Shared->Prop}(f:A.units<cLine)(a:n9 P w s.heap k b)(hm:jG P w s.heap d c)(e:∀x∈c,n9 P w s.heap x.1 x.2.1)(q:Q (ft c k) {s with toks:=s.toks+kz k}):wpAny (model P w) A (dictGet d b) Q E s:=by
 obtain⟨o,m,n,g,hc,hd,h⟩:=hm.ok;unfold dictGet
 with_reducible refine pu ?_
 refine a_ (Hi f a (a_ (Hj (s:={s with toks:=s.toks+kz k}) f a g hd h e hm.nd (λl=>?_) λj p i=>?_)))
 ·unfold ft at q;rw[xY l]at q;exact e_ q
 ·unfold ft at q;rw[DJ hm.nd i]at q;refine a_ (wpAny_dictEntries (s:={s with toks:=s.toks+kz k}) g hd ?_);rw[Ow h j,i];exact e_ q
def MF(a:List (bN×c×b))(k:bN)(v:b):(a.map λy=>if y.1=k then(y.1,y.2.1,v)else y).map (·.1)=a.map (·.1):=by
 rw[w1];refine wh λy _=>?_;show(if y.1=k then(y.1,y.2.1,v)else y).1=y.1
 split<;>rfl
def Ou{d:Addr}{f:List kE}{k:bN}{c v:Value}{Q:Unit->Shared->Prop}(u:A.units<cLine)(g:n9 P w s.heap k c)(hm:jG P w s.heap d f)(n:∀x∈f,n9 P w s.heap x.1 x.2.1)(D:f.length<sizeLine)(q:∀h',jG P w h' d (fS f k c v)->Heap.SameBut d s.heap h'->Q () {s with heap:=h',toks:=s.toks+kz k}):wpAny (model P w) A (dictSet d c v) Q E s:=by
 obtain⟨o,I,B,h,hc,hd,m⟩:=hm.ok;unfold dictSet
 with_reducible refine pu ?_
 refine a_ (Hi u g ?_);unfold dictSetHashed
 with_reducible refine pu ?_
 refine a_ (Hj (s:={s with toks:=s.toks+kz k}) u g h hd m n hm.nd (λC=>?_) λj p l=>?_)
 ·have r:fS f k c v=f++[(k,c,v)]:=by unfold fS ft;rw[xY C];rfl
  have F:k∉f.map (·.1):=λz=>by obtain⟨y,G,e⟩:=mu.mp z;obtain⟨j,l⟩:=j_.mp G;exact C j y.2 (by rw[l,<-e])
  rw[r]at q;refine a_ (vu (wpAny_updateDictKeys (hz:=by have:=Hg m;omega) (s:={s with toks:=s.toks+kz k}) h hd (q _ ⟨⟨_,_,B+1,sg _ h (Obj.isFreed_of_dict (Obj.data_mapDictKeys hd _)),hc.mapDictKeys _,Obj.data_mapDictKeys hd _,?_⟩,?_⟩ (A_ ..))))
  ·rw[Rv,m,j1];rfl
  ·rw[j1,op];refine⟨hm.nd,by simp,λa H b t e=>F ?_⟩;have t:b=k:=List.mem_singleton.mp t;rw[<-t,<-e];exact H
 ·have r:fS f k c v=f.map λy=>if y.1=k then(y.1,y.2.1,v)else y:=by unfold fS ft;rw[DJ hm.nd l];rfl
  rw[r]at q;refine a_ (vu (a_ (wpAny_updateDict (s:={s with toks:=s.toks+kz k}) h hd (wpAny_point (q _ ⟨⟨_,_,B,sg _ h (Obj.isFreed_of_dict (Obj.data_mapDict hd _)),hc.mapDict _,Obj.data_mapDict hd _,?_⟩,by rw[MF];exact hm.nd⟩ (A_ ..))))));rw[Array.toList_modify,m];refine sD λi=>?_;rw[List.getElem?_modify,ir,ir,ir];cases hi:f[i]?with|none=>by_cases e:j=i<;>simp[e]|some y=>
   by_cases e:j=i
   ·subst e;rw[l]at hi;cases hi;simp[t4]
   ·have:y.1≠k:=λz=>e (Hh hm.nd l (q:=y.2) (by rw[hi,<-z]));simp[e,this]
def jG.type(hm:jG P w s.heap d b):s.TypeIs (.ref d) "dict":=let⟨o,_,_,a,hc,_⟩:=hm.ok;⟨o,a,hc.1⟩
def jG.bare(hm:jG P w s.heap d c):∀b,Value.ref d=.ref b->∃ob,s.heap.get? b=some ob/\ob.dict=none:=λb e=>by cases e;obtain⟨o,_,_,a,hc,_⟩:=hm.ok;exact⟨o,a,hc.2.1⟩
def Cy(d:Addr)(a dflt:Value)(hd:(d==sysModules)=false):MeetsIn P w (Builtin.«dict.get» ⟨[.ref d,a,dflt],[]⟩) (λA R s=>A.in1.units<cLine/\∃k b,n9 P w s.heap k a/\jG P w s.heap d b/\(∀x∈b,n9 P w s.heap x.1 x.2.1)/\R (.ok (.ret ((ft b k).getD dflt))) {s with toks:=s.toks+kz k}):=.of_wp λA R s⟨e,k,b,f,hm,hi,h⟩=>by show wpAny (model P w) _ (dictGet d a>>=_) _ _ s;refine a_ (Ov e f hm hi ?_);cases c:ft b k with|some v=>rw[c]at h;exact e_ ⟨v,rfl,h⟩|none=>rw[c]at h;exact a_ (wpAny_missed_other hd (e_ ⟨dflt,rfl,h⟩))
def EL(g:A.in1.units<cLine)(b:n9 P w s.heap k a)(hm:jG P w s.heap d c)(e:∀x∈c,n9 P w s.heap x.1 x.2.1)(h:c.length<sizeLine)(q:∀h',jG P w h' d (fS c k a v)->Heap.SameBut d s.heap h'->Q () {s with heap:=h',toks:=s.toks+kz k}):wpAny (model P w) A (setItem (.ref d) a v) Q E s:=by
 unfold setItem
 with_reducible refine pu ?_
 refine a_ (wpAny_sequenceKey hm.type (by decide) (a_ (pw (name:=Str.ofString "__setitem__") hm.type slot_dict_setitem (pv slot_dict_setitem hm.type entry_dict_setitem ?_ (args_dict_setitem _ _ _)))));show wpAny (model P w) _ (Builtin.Dict.notOrdered "__setitem__" ⟨[.ref d,a,v],[]⟩>>=_) _ _ s;refine a_ (wpAny_notOrdered_dict hm.type ?_);show wpAny (model P w) A.in1 (dictSet d a v>>=_) _ _ s;exact a_ (Ou g b hm e h λh' h1 h2=>e_ ⟨.none,rfl,e_ (q h' h1 h2)⟩)
end
abbrev iU:=bN×V×V
def sG(a:List iU)(b:List kE):Prop:=Paired (λ(p:iU)(q:kE)=>p.1=q.1/\aZ p.2.1 q.2.1/\aZ p.2.2 q.2.2) a b
abbrev dM(P:RR)(w:World)(d:Addr)(b:List iU):HO:=.ext λh=>(d==sysModules)=false/\∃a,sG b a/\jG P w h d a
def c5(K:RM)(H:Hp)(k:bN)(v:V):Prop:=match k with|.inl k=>v=kV k|.inr b=>∃a,v=.ref a/\aU K H a (b.map kV)
def eA(K:RM)(H:Hp)(a:List iU):Prop:=∀x∈a,c5 K H x.1 x.2.1
def jG.keep(m:jG P w h1 d a)(k:∀o,h1.get? d=some o->h2.get? d=some o):jG P w h2 d a:=let⟨o,b,c,e,r⟩:=m.ok;⟨⟨o,b,c,k o e,r⟩,m.nd⟩
def Ll(hd:(d==sysModules)=false)(r:sG a ys)(m:jG P w h d ys):cZ P w H h d (dM P w d a):=⟨⟨hd,ys,r,m⟩,let⟨o,_,_,e,_⟩:=m.ok;⟨o,e⟩,λ_ _⟨h1,ys,h2,h3⟩k=>⟨h1,ys,h2,h3.keep k⟩⟩
def c5.is(I:aM X b j H s)(h:c5 X.K H k v)(r:aZ v u):n9 X.prog X.w s.heap k u:=by cases k with|inl k=>have h:v=kV k:=h;subst h;exact qd r|inr l=>obtain⟨a,rfl,f⟩:=h;cases r;obtain⟨g,i,⟨o,e,c,n,d⟩,_⟩:=I.tuple f;exact⟨a,rfl,o,_,n,e,c,d,r6 i⟩
theorem sG.keys(I:aM X c g H s):∀{d:List iU}{e:List kE},sG d e->eA X.K H d->∀y∈e,n9 X.prog X.w s.heap y.1 y.2.1
 |_,_,.nil,_,y,b=>nomatch b|_,_,.cons (a:=p) r t,k,y,b=>by
  rcases ov.mp b with rfl|b
  ·rw[<-r.1];exact(k p kw).is I r.2.1
  ·exact sG.keys I t (λx f=>k x (i_ _ f)) y b
theorem sG.val:∀{a:List iU}{b:List kE},sG a b->∀k,ld (ft a k) (ft b k)
 |_,_,.nil,_=>True.intro|p::a,q::b,.cons r t,k=>by
  unfold ft;rw[r3,r3,<-r.1]
  by_cases e:p.1=k
  ·rw[m_ e];exact r.2.2
  ·rw[nn e];exact sG.val t k
def sG.put(h:sG c d)(g:aZ i j)(f:aZ v u):sG (fS c k i v) (fS d k j u):=by
 have a:(ft c k).isSome=(ft d k).isSome:=(h.val k).isSome_eq;unfold fS;rw[a]
 split
 ·rename_i hc;clear a hc
  induction h with|nil=>exact .nil|@cons p q l m r t b=>
   refine .cons ?_ b;dsimp only;rw[<-r.1]
   by_cases e:p.1=k
   ·rw[ku e,ku e];exact⟨rfl,r.2.1,f⟩
   ·rw[j2 e,j2 e];exact r
 ·rename_i hc;clear a hc
  induction h with|nil=>exact .cons ⟨rfl,g,f⟩ .nil|cons r t b=>exact .cons r b
def sG.len(h:sG a b):a.length=b.length:=Paired.length h
section
variable{X:Cx}{P:RR}{w:World}{o e f:Expr}{l b c:Pos}{g ty j:TE}
def LL(P:RR)(w:World):TE:=λ_ H Q=>∀p,H p=none->Q (.ref p) (aA H p (dM P w p []))
def GQ(i:X.prog=P:=by rfl)(n:X.w=w:=by rfl):PE X (.Dict [] [] l) (LL P w):=λd s k H Q I h=>by subst i n;refine wpAny_Dict_empty ⟨.ref s.heap.objs.size,_,I.laid (a:=s.heap.objs.size) (o:=dM X.prog X.w s.heap.objs.size []) (t':=s.toks) (λ_ _ q=>b_ _ q) (g_ _) ?_,rfl,h _ (I.hok.fresh (g_ _))⟩;exact Ll (ys:=[]) (z8.mpr λz=>absurd (z▸I.big) (q4 _)) .nil ⟨⟨_,#[],0,h_ _ rfl,⟨rfl,rfl,rfl⟩,rfl,rfl⟩,Qx⟩
def LJ(K:RM)(P:RR)(w:World)(g ty j:TE):TE:=λh H Q=>g h H λx n=>∃a i,x=.ref a/\n a=some (dM P w a i)/\ty h n λy p=>j h p λz d=>∃m k,d a=some (dM P w a m)/\eA K d m/\c5 K d k y/\Q ((ft m k).getD z) d
def GP(K:RM)(v:X.K=K)(B:X.A.units+1<cLine)(C:PE X o g)(D:PE X e ty)(E:PE X f j)(m:M2 X o "get" b e f c)(G:X.prog=P:=by rfl)(J:X.w=w:=by rfl):PE X (.Call (.Attribute o "get" b) [e,f] [] c) (LJ K P w g ty j):=by subst G J v;intro i s q H Q I h;refine Qc m.base m.few m.line PySem.F.plainAttrs_dict PySem.F.slot_dict_get PySem.F.type_dict_get (cw (C i s q H _ I h) λu L⟨x,M,I1,N,a,O,ex,d,R⟩=>?_);subst ex;cases(show u=Value.ref a from N);obtain⟨⟨_,S,_,r⟩,_⟩:=I1.hok a _ d;refine⟨r.type,r.bare,?_⟩;rw[m.trees];refine r4 rfl (t_ (rV (cw (D i L q M _ I1 R) λiv T⟨y,U,V,Y,Z⟩=>rV (cw (E i T q U _ V Z) λfv s3⟨z,H3,p,rz,xs,k,d3,ks,hk,q3⟩=>vr ?_))));obtain⟨⟨hd,ys,n,t⟩,_⟩:=p.hok a _ d3;refine C_ PySem.F.slot_dict_get t.type PySem.F.entry_dict_get (PySem.F.args_dict_get_3 _ _ _) (Cy a iv fv hd) ⟨B,k,ys,hk.is p Y,t,n.keys p ks,?_⟩;exact⟨_,H3,p.tok _,(n.val k).getD rz,q3⟩
def Od(K:RM)(P:RR)(w:World):K0:=λo i v H Q=>∃a d k,o=.ref a/\H a=some (dM P w a d)/\eA K H d/\c5 K H k i/\d.length<sizeLine/\Q (aA H a (dM P w a (fS d k i v)))
def GA(K:RM)(x:X.K=K)(y:X.A.units+1<cLine)(z:X.prog=P:=by rfl)(B:X.w=w:=by rfl):K2 X (Od K P w):=by subst z B x;intro p s L H o i v M iv u Q I C r D h;obtain⟨a,N,k,rfl,d,E,F,G,q⟩:=h;cases C;obtain⟨⟨hd,O,n,m⟩,_⟩:=I.hok a _ d;refine EL y (F.is I r) m (n.keys I E) (by rw[<-n.len];exact G) λh' t J=>?_;refine⟨_,ur I (by rw[d];exact True.intro) J (let⟨o,_,_,e,_⟩:=t.ok;⟨o,e⟩) ?_,q⟩;exact Ll hd (n.put r D) t
end
end L2
namespace L2
open PySem PySem.W PyProof.Rows
section
variable{X:Cx}{o e b:Expr}{f:Str}{g c:Pos}{j l:TE}
def aI(K:RM)(a:X.K=K)(d:PE X e j)(h:attributeBase e f X.env (eval e X.env)=eval e X.env:=by rfl):PE X (.Attribute e f g) (NY K j f):=by subst a;exact Mo d h
def cx(K:RM)(a:X.K=K)(d:PE X o j)(h:PE X b l)(i:swapsWith b (some (.Attribute o f c)) g.line X.env=pure false:=by rfl):PS X (.Assign [.Attribute o f c] b g) (Oa K j l f):=by subst a;exact Mi d h i
def Of:K0:=λo i v H Q=>∃a d k,o=.ref a/\i=kV k/\H a=some (.dK d)/\d.length<sizeLine/\Q (aA H a (.dK (dO d k v)))
def oE(n:X.A.units+1<cLine):K2 X Of:=by intro m s z H o i v B iv u Q I p r t h;obtain⟨a,w,k,rfl,rfl,d,x,q⟩:=h;cases p;exact Fk n I (K5.k d x) r t λC y=>⟨_,y,q⟩
end
end L2
namespace L2
open PySem PySem.W PyProof.Rows
section
variable{P:RR}{w:World}{A:Around}{E:RN}{s:Shared}
def HI(ty:s.TypeIs (.ref r) "list_reverseiterator")(q:Q false s):wpAny (model P w) A (Builtin.List.listLengthHint (.ref r)) Q E s:=by
 unfold Builtin.List.listLengthHint;refine a_ (QW (r:=none) ty (by rw[QX,Qe];kernel_rfl) ?_);refine s_ (λz=>absurd z (by decide+kernel)) (λ_=>?_);refine s_ (λz=>absurd z (by decide)) (λ_=>?_);refine a_ (QW (r:=some (.builtin "list_reverseiterator.__length_hint__")) ty (by rw[QX,Qe];kernel_rfl) ?_);generalize a:("list_reverseiterator.__length_hint__":String)=nm
 wp_delta
 rw[show splitId nm=some ("list_reverseiterator","__length_hint__")from by subst a;decide+kernel];subst a;refine a_ (QK (T:="list_reverseiterator") (b:=true) ty (by rw[Q9];kernel_rfl) ?_);refine s_ (λz=>absurd z (by decide)) (λ_=>?_);refine s_ (λ_=>?_) (λz=>absurd (by decide+kernel) z);refine s_ (λz=>absurd z (by decide+kernel)) (λ_=>?_);exact e_ q
def Ch(hh:A.handled=none)(p:s.heap.IsRevIter r l ((a.size:Int)-1))(D:s.heap.IsList l a)(hn:a.size<=sizeLine)(t:l≠r)(n:S≠r)(u:S≠l)(d:Value)(y:Nat)(G:s.heap.get? S=some {cls:=.type "list",data:=.seq #[] y})(q:∀h' tk g c,(∀b o,b≠S->b≠r->s.heap.get? b=some o->h'.get? b=some o)->h'.get? S=some {cls:=.type "list",dict:=none,data:=.seq g c,slots:=#[]}->ItemsOf (λi v=>a[a.size-1-i]?=some v) g a.size->R (.ok (.ret d)) {s with heap:=h',toks:=tk}):wpAny (model P w) A.in1 (Builtin.List.listExtendWith (.ref S) (.ref r) d) (λfin j=>match fin with|.done f=>R (.ok f) j|.again B=>B.quiet=true/\codeAny (model P w) A B R j) (λe j=>R (.error e) j) s:=by
 have W:=Walks.listRev (prog:=P) (w:=w) (A:=A.in1) hh r l t a;have go:∀(h:Heap)(k tk:Nat),h.IsRevIter r l ((a.size:Int)-1)->h.IsList l a->(∀b o,b≠S->s.heap.get? b=some o->h.get? b=some o)->h.get? S=some {cls:=.type "list",data:=.seq #[] k}->codeAny (model P w) A (.builtin "list.extend.loop" ⟨[.ref S,.ref r,d],[]⟩) R {s with heap:=h,toks:=tk}:=by
  intro h k tk x H I J;refine codeAny_extend_loopS W.toS hn S (by simp[n,u]) d a.size 0 _ #[] k rfl (ng _) ⟨ng _,by simpa using x,H⟩ J (ItemsOf.nil _) λj g c C K L=>?_;rw[Moved.eq_with C];refine q j.heap j.toks g c (λb o b1 b2 e=>C.heap b o (λm=>?_) (I b o b1 e)) K L;rcases ov.mp m with z|z
  ·exact b1 z
  ·exact b2 (List.mem_singleton.mp z)
 unfold Builtin.List.listExtendWith;refine a_ (Rm p.typeIs ?_);have ne:Builtin.List.listSameRef (.ref S) (.ref r)=false:=by simp[Builtin.List.listSameRef,n]
 have M:(Value.type "list_reverseiterator"==Value.type "list")=false:=by decide
 have N:(Value.type "list_reverseiterator"==Value.type "tuple")=false:=by decide
 simp only[ne,M,N,Bool.or_false,P9,QM];refine a_ (wpAny_pyIter_revIter p (a_ (pu (HI p.typeIs ?_))));refine s_ (λz=>absurd z (by decide+kernel)) (λ_=>e_ ⟨P4 PySem.F.plain_extend_loop _,go s.heap y s.toks p D (λ_ _ _ e=>e) G⟩)
def GE(hh:A.handled=none)(u:s.heap.IsRevIter r l ((items.size:Int)-1))(x:s.heap.IsList l items)(hn:items.size<=sizeLine)(f:l≠r)(q:∀h' tk a c,(∀b o,b≠r->s.heap.get? b=some o->h'.get? b=some o)->h'.get? s.heap.objs.size=some {cls:=.type "list",dict:=none,data:=.seq a c,slots:=#[]}->ItemsOf (λi v=>items[items.size-1-i]?=some v) a items.size->Q (.ref s.heap.objs.size) {s with heap:=h',toks:=tk}):wpAny (model P w) A (call (.type "list") [.ref r]) Q E s:=by
 refine callType_codes (Q₁:=λobj k=>obj=.ref s.heap.objs.size/\k={s with heap:=s.heap.push {cls:=.type "list",data:=.seq #[]}}) PySem.F.called_list (PySem.F.typeCall_list_1 _) PySem.F.entry_list_init (code_list_new _ ⟨rfl,rfl⟩) λobj k z=>?_;obtain⟨rfl,rfl⟩:=z;have new:(s.heap.push {cls:=.type "list",data:=.seq #[]}).get? s.heap.objs.size=some {cls:=.type "list",data:=.seq #[]}:=h_ _ rfl;obtain⟨y,m,B,C⟩:=u;have n:s.heap.objs.size≠r:=oe (ji m);obtain⟨D,p,cl,G,dl⟩:=x;have t:s.heap.objs.size≠l:=oe (ji p);refine⟨⟨_,new,rfl⟩,PySem.F.args_list_init_2 _ _,?_⟩;show wpAny (model P w) _ (do let g<-Builtin.List.listItems (.ref s.heap.objs.size);Builtin.List.listUpdate (.ref s.heap.objs.size) (λ_=>#[]);letGo g.toList.reverse;Builtin.List.listExtendWith (.ref s.heap.objs.size) (.ref r) .none) _ _ _;refine a_ ?_;unfold Builtin.List.listItems;refine a_ (rl new rfl (e_ (a_ (RG new rfl (a_ (Q8 ?_))))));have d:=sg (Obj.mapSeq (λ_=>(#[]:RU))) new rfl;have keep:∀b o,b≠s.heap.objs.size->s.heap.get? b=some o->((s.heap.push {cls:=.type "list",data:=.seq #[]}).update s.heap.objs.size (Obj.mapSeq (λ_=>(#[]:RU)))).get? b=some o:=λb o h e=>by rw[sT _ _ (ol h)];exact b_ _ e
 refine Ch (A:=A.in1) hh ⟨y,keep _ _ (ol n) m,B,C⟩ ⟨D,keep _ _ (ol t) p,cl,G,dl⟩ hn f n t .none _ d λh' tk a c H I J=>?_;exact⟨rfl,q h' tk a c (λb o h e=>H b o (lm (ji e)) h (keep b o (lm (ji e)) e)) I J⟩
end
section
variable{X:Cx}{e:Expr}{te:TE}{p1 p2 f d:Pos}
def NR(K:RM)(te:TE):TE:=λc H Q=>te c H λx a=>∃p b,x=.ref p/\aW K a p b/\∀l,a l=none->Q (.ref l) (aA a l (.lst b.reverse))
def Cl(K:RM)(Z:X.K=K)(hc:X.calm=true)(g1:Gl X "list")(m1:X.mg "list"=none)(g2:Gl X "reversed")(m2:X.mg "reversed"=none)(he:PE X e te)(t:starEach [.Call (.Name "reversed" p2) [e] [] d] X.env=[(false,eval (.Call (.Name "reversed" p2) [e] [] d) X.env)]:=by rfl)(y:starEach [e] X.env=[(false,eval e X.env)]:=by rfl):PE X (.Call (.Name "list" p1) [.Call (.Name "reversed" p2) [e] [] d] [] f) (NR K te):=by
 subst Z;intro m s L H Q I h;refine t1 (lV I g1 m1 L2.sA (callWith_type1 ?_ t));rw[t];show wpAny (model X.prog X.w) X.A (spliced [(false,eval (.Call (.Name "reversed" p2) [e] [] d) X.env)]) _ _ s;refine rV (t1 (lV I g2 m2 L2.xx (callWith_type1 ?_ y)));rw[y];show wpAny (model X.prog X.w) X.A (spliced [(false,eval e X.env)]) _ _ s;refine rV (cw (he m s L H _ I h) λu i⟨x,U,I1,V,p,Y,ex,hq,q⟩=>vr ?_);subst ex;cases(show u=Value.ref p from V);obtain⟨g,M,⟨o,n,D,co,dd,ds⟩,N⟩:=I1.list hq;have hl:i.heap.IsList p g.toArray:=⟨o,D,co,n,ds⟩;refine call_reversed_list hl (vr ?_);have pr:p≠i.heap.objs.size:=lm (ji D);have O:aM X m L U {i with heap:=i.heap.push (revObj p ((g.toArray.size:Int)-1))}:=I1.kept (t':=i.toks) λb o e=>b_ _ e;refine GE (r:=i.heap.objs.size) (l:=p) (items:=g.toArray) (I.ok.hd hc) ⟨_,h_ _ rfl,rfl,rfl⟩ ⟨o,b_ _ D,co,n,ds⟩ (by simpa[<-M.length]using N) pr λh' tk k c kk sS R=>?_;have B:k.toList=g.reverse:=by
  refine sD λj=>?_;have F:k.size=g.length:=by simpa using R.1
  rcases Qv j g.length with C|C
  ·have S:k[j]?=some (k[j]'(by lia)):=tl _;have G:=R.2 j _ S;rw[tA,S,List.getElem?_reverse C];simpa using G.symm
  ·rw[np (by simpa[F]using C),np (by simpa using C)]
 have I3:=O.laid (a:=(i.heap.push (revObj p ((g.toArray.size:Int)-1))).objs.size) (o:=.lst Y.reverse) (h':=(i.heap.push (revObj p ((g.toArray.size:Int)-1))).push {cls:=.type "list",data:=.seq k c}) (t':=tk) (λb u e=>b_ _ e) (g_ _) ⟨by rw[Qt];exact N,g.reverse,c,M.reverse,by rw[<-B];exact h_ _ rfl⟩
 have J:i.heap.objs.size<(i.heap.push (revObj p ((g.toArray.size:Int)-1))).objs.size:=by rw[n7];lia
 have I4:=I3.turned (it:=i.heap.objs.size) (h':=h') (t':=tk) (λb o hb e=>?_) (by rw[ao (lm J)];exact I1.hok.fresh (g_ _)) (oe I1.lt) (.inr I1.sz) (λx c e z=>by obtain⟨v,o,T,_⟩:=I1.cell x c e;rw[z]at T;exact absurd (ji T) (q4 _)) (λpp hp z=>by have:=(I1.pin pp hp).1;rw[z]at this;exact absurd (ji this) (q4 _))
 ·exact⟨.ref (i.heap.push (revObj p ((g.toArray.size:Int)-1))).objs.size,_,I4,rfl,q _ (O.hok.fresh (g_ _))⟩
 ·by_cases z:b=(i.heap.push (revObj p ((g.toArray.size:Int)-1))).objs.size
  ·subst z;rw[h_ _ rfl]at e;cases e;exact sS
  ·rcases L_ e with⟨z2,_⟩|G
   ·exact absurd z2 z
   ·exact kk b o hb G
end
end L2
namespace L2
open PySem PySem.W PyProof.Rows
section
variable{P:RR}{w:World}{A:Around}{E:RN}{s:Shared}
end
section
variable{X:Cx}{P:RR}{w:World}{o e f i:Expr}{c a b:Pos}{d ty g:TE}
end
end L2
namespace L2
open PySem
seal L2.xC L2.PS L2.PE L2.PT L2.PA L2.PI L2.PG L2.PW L2.Nf L2.PO
section
variable{X:Cx}
end
section
variable{X:Cx}
def Fw:cO X (.builtin "isinstance") (λc H Q=>∃x T t b,c=[x,.ty T]/\(nO X.K H x t\/∃p d,x=.ref p/\aU X.K H p d/\t=.type "tuple")/\PySem.W.kitOne X.K t (.type T)=some b/\Q (.bl b) H):=by
 intro a s f H c g Q I r h;obtain⟨x,T,t,b,rfl,ty,e,q⟩:=h;rcases ty with ty|⟨p,d,rfl,i,rfl⟩
 ·exact BF a s f H _ g Q I r ⟨x,T,t,b,rfl,ty,e,q⟩
 ·obtain⟨u,j,rfl,k,rt⟩:=xF r;obtain rfl:j=Value.type T:=rt;cases k;obtain⟨l,_,⟨o,h1,h2,_⟩,_⟩:=I.tuple i;exact PySem.W.kia_one PySem.W.kitx_tuple I.kIn ⟨o,h1,h2⟩ e (nofun) λtk=>⟨.bl b,H,I.tok tk,rfl,q⟩
def eP(K:RM)(a:X.K=K):cO X (.builtin "isinstance") (λc H Q=>∃x T t b,c=[x,.ty T]/\(nO K H x t\/∃p d,x=.ref p/\aU K H p d/\t=.type "tuple")/\PySem.W.kitOne K t (.type T)=some b/\Q (.bl b) H):=by subst a;exact Fw
end
end L2
namespace L2
open PySem PySem.Spec PyProof.Rows
section
variable{X:Cx}{a:Expr}
end
section
variable{X:Cx}
end
end L2
namespace L2
open PySem PySem.Spec PyProof.Rows
def K3(K:RM)(pm:Params)(a:Addr):Prop:=(a==sysModules)=false/\∃b n,K.lookup a=some ⟨.type "dict",none,.dict b n,#[]⟩/\PySem.W.KeysLit pm b.toList
def PX(K:RM)(t:Addr)(b:List V):Prop:=∃(o:Obj)(a:RU)(n:Nat),K.lookup t=some o/\o.cls=.type "tuple"/\o.data=.seq a n/\a.size<=sizeLine/\bd b a.toList
def PX.sq{K:RM}{t:Addr}{a:List V}(h:PX K t a)(H:Hp):aU K H t a:=.inr h
section
variable{X:Cx}{o i:Expr}{a:Pos}{b ty:TE}
end
end L2
namespace L2
open PySem PySem.Spec PyProof.Rows
section
variable{X:Cx}{o i:Expr}{a:Pos}{b ty:TE}
end
end L2
namespace L2
open PySem PySem.Spec PyProof.Rows
section
variable{prog:RR}{w:World}{A:Around}{E:RN}{s:Shared}{d:Type}[DecidableEq d][BEq d][LawfulBEq d]
set_option maxHeartbeats 3200000 in
def yM(n:PySem.KeyKind prog w d)(hh:A.handled=none)(P:s.heap.IsTuple l h)(t:∀i v,h[i]?=some v->n.is (key i) v=true/\v.scannable=true)(x:h.size+1<scanBound)(k:∀(h':Heap)(tk:Nat),jJ n key s.heap.objs.size h.size h'->(∀b o,s.heap.get? b=some o->h'.get? b=some o)->Q (.ref s.heap.objs.size) {s with heap:=h',toks:=tk}):wpAny (model prog w) A (call (.type "set") [.ref l]) Q E s:=by
 obtain⟨c,X,I⟩:=F.called_set.mro;have made:=F.called_set.made;have sub:=F.called_set.sub;have Y:=F.called_set.notType;have Z:=F.called_set.canCreate;have tc:=RD (.ref l);refine QS (QZ ?_);show wpAny _ _ (callAny (.type "set") _) _ _ _;refine e_ ⟨Rj _ (by decide+kernel),ta Rs ?_⟩;rw[Rk (Q5 "set" [.ref l] []) rfl]
 (repeat(any_goals(first|assumption|wp_step)));skip
 refine so (code_set_new_1 (.ref l) (E:=E) (Q₁:=λu s₁=>∃led:Bool,u=.ref s.heap.objs.size/\s₁={s with heap:=s.heap.push (bf led)}) λled=>⟨led,rfl,rfl⟩) λr s₁ C=>?_;cases r with|error e=>exact C|ok O=>cases O with
 |ret u=>
   obtain⟨led,rfl,rfl⟩:=C;have K:(s.heap.push (bf led)).get? s.heap.objs.size=some (bf led):=h_ _ rfl;have ty:Shared.TypeIs {s with heap:=s.heap.push (bf led)} (.ref s.heap.objs.size) "set":=⟨_,K,rfl⟩;have li:=F.called_set.init.lookup;have bi:=F.called_set.init.bind (.ref s.heap.objs.size)
   (repeat(any_goals(first|assumption|wp_step)));skip
   refine so (Q_ (R:=wants (λr m=>r=.none/\∃h' tk,m={s with heap:=h',toks:=tk}/\jJ n key s.heap.objs.size h.size h'/\∀b o,s.heap.get? b=some o->h'.get? b=some o) E) F.called_set.init.plain RF (Rz ty ?_)) λy m j=>?_
   ·obtain⟨⟨cl,S,dt,sl⟩,e,L,M,N⟩:=id P;simp only at L N;subst L;subst N;have T:(s.heap.push (bf led)).get? l=some {cls:=.type "tuple",dict:=S,data:=.seq h M,slots:=sl}:=b_ _ e;have s1:=F.sub_tuple_set;have s2:=F.sub_tuple_frozenset;have ne:(Value.type "tuple"==Value.type "dict")=false:=by decide
    have z:(s.heap.push (bf led)).IsTuple l h:=⟨_,T,rfl,M,rfl⟩;unfold Builtin.«set.__init__»noKeywords Builtin.Frozenset.updateFrom;generalize D:pyIter=PI;wp_walk;subst D;refine y2 z ?_;refine a_ (Q7 ?_);have lt:l<s.heap.objs.size:=ji e;have sz:(s.heap.push (bf led)).objs.size=s.heap.objs.size+1:=n7 ..;refine Aq n ((Walks.tuple (A:=A.in1.in1.in1) (by simp[hh]) _ l (by rw[sz];exact lm (rx lt)) h).toS) (a:=s.heap.objs.size) (by rw[sz];simp only[ov,n0,to,not_or];exact⟨lm (rm _),oe lt⟩) key t x (h.size-0) 0 _ (by lia) (ng _) ⟨⟨_,h_ _ rfl,rfl,rfl⟩,z.push _⟩ ?f0 ?fR
    case f0=>have g:((s.heap.push (bf led)).push {cls:=.type "tuple_iterator",data:=.fields #[.ref l,.int 0 0]}).get? s.heap.objs.size=some (bf led):=b_ _ K;exact SetOf_congr ((setObjOf_fresh (knd:=n) led).setOf g (by unfold scanBound;lia)) (λ_=>rfl) rfl
    case fR=>rintro⟨h',U,V,G,H⟩B f;obtain rfl:U=s.gens:=B.gens;obtain rfl:V=s.drawn:=B.drawn;obtain rfl:H=s.os:=B.os;show wpAny _ _ _ _ _ _;refine e_ (show wpAny _ _ (ret Value.none) _ _ _ from e_ ⟨rfl,h',G,rfl,f,λb o q=>?_⟩);have b1:b<s.heap.objs.size:=ji q;exact B.heap b o (by rw[sz];simp only[ov,n0,to,not_or];exact⟨lm b1,lm (rx b1)⟩) (b_ _ (b_ _ q))
   ·cases y with|error e=>exact j|ok p=>cases p with|ret r=>
      obtain⟨rfl,h',tk,rfl,f,W⟩:=j
      (repeat(any_goals(first|assumption|wp_step)));exact k _ _ f W|_=>exact j.elim
  |_=>exact C.elim
end
section
variable{X:Cx}
def Fs(hc:X.calm=true):cO X (.type "set") (λd H Q=>∃(p:Addr)(a:List b0),d=[.ref p]/\aU X.K H p (a.map kV)/\a.length<4000/\∀q,H q=none->Q (.ref q) (aA H q (Ar X.prog X.w q (λk=>(dd a).any (·==k)) (dd a).length))):=by
 intro j s J H d L Q I r h;obtain⟨p,a,rfl,z,l,q⟩:=h;obtain⟨u,rfl,A⟩:=jU r;cases A;obtain⟨b,m,pl,M⟩:=I.tuple z;have n:=m.length;rw[c_]at n;refine yM (aL X.prog X.w) (key:=λi=>a.getD i (.inl 0)) (I.ok.hd hc) (show s.heap.IsTuple p b.toArray from pl) (λi v c=>?_) (by rw[lh];unfold scanBound;lia) λh' tk f C=>?_
 ·have c:b[i]?=some v:=by simpa using c
  have hi:i<b.length:=(d_.mp c).1;obtain⟨u,h1,h2⟩:=m.get (i:=i) (x:=kV (a[i]'(by lia))) (by rw[ir,f_ (by lia)];rfl);rw[c]at h1;cases h1;have e:a.getD i (.inl 0)=a[i]'(by lia):=by simp[List.getD,f_ (show i<a.length by lia)]
  show(aL X.prog X.w).is (a.getD i (.inl 0)) v=true/\_;rw[e,oV];exact zv h2
 ·have f:h'.SetOf (aL X.prog X.w) s.heap.objs.size (λk=>(dd a).any (·==k)) (dd a).length:=by
   have y:h'.SetOf (aL X.prog X.w) s.heap.objs.size (λk=>(mf (λi=>a.getD i (.inl 0)) b.toArray.size).any (·==k)) (mf (λi=>a.getD i (.inl 0)) b.toArray.size).length:=f;have D:b.toArray.size=a.length:=by rw[lh];exact n.symm
   rw[D,y9]at y;exact y
  refine⟨.ref s.heap.objs.size,_,I.laid (h':=h') (t':=tk) (o:=Ar X.prog X.w s.heap.objs.size (λk=>(dd a).any (·==k)) (dd a).length) C (g_ _) ⟨f,?_,λh1 h2 g E=>?_⟩,rfl,q _ (I.hok.fresh (g_ _))⟩
  ·obtain⟨o,_,_,_,e,_⟩:=f;exact⟨o,e⟩
  ·obtain⟨o,F,G,t,e,mE⟩:=g;exact⟨o,F,G,t,E o e,mE⟩
def De(K:RM)(b:X.K=K)(hc:X.calm=true)(c:X.prog=P:=by rfl)(d:X.w=w:=by rfl):cO X (.type "set") (λe H Q=>∃(p:Addr)(a:List b0),e=[.ref p]/\aU K H p (a.map kV)/\a.length<4000/\∀q,H q=none->Q (.ref q) (aA H q (Ar P w q (λk=>(dd a).any (·==k)) (dd a).length))):=by subst b;subst c;subst d;exact Fs hc
end
end L2
namespace L2
open PySem PySem.Spec PyProof.Rows
section
variable{P:RR}{w:World}{A:Around}{E:RN}{s:Shared}
def py(c:s.heap.IsTupleIter j t k)(f:s.heap.IsTuple t d)(h:d[k]?=some v)(q:∀g,g.IsTupleIter j t (k+1)->Heap.SameBut j s.heap g->Q v {s with heap:=g}):wpAny (model P w) A (Builtin.SmallTypes.nextOf (.ref j)) Q E s:=by obtain⟨ob,b,i,a⟩:=id c;obtain⟨l,f1,_,m,f3⟩:=f;unfold Builtin.SmallTypes.nextOf;refine a_ (pw (name:=Str.ofString "__next__") c.typeIs M_ (pv M_ c.typeIs F.entry_tuple_iterator_next ?_ (RL _)));refine(show wpAny _ _ (field (.ref j) 0>>=_) _ _ s from a_ (ri b a (x:=.ref t) rfl ?_));refine(show wpAny _ _ (if(Value.ref t==Value.none)=true then _ else(field (.ref j) 1>>=_)) _ _ s from ?_);rw[j2 (show¬(Value.ref t==Value.none)=true fromλz=>l_ z)];refine a_ (ri b a (x:=.int k 0) rfl ?_);refine(show wpAny _ _ (seqItems? (.ref t)>>=_) _ _ s from a_ (rl f1 f3 ?_));simp only[qx,h];refine a_ (wpAny_setField b a (by simp) (e_ ⟨v,rfl,e_ (q _ ⟨_,sg _ b (Obj.isFreed_of_fields (Obj.data_mapFields a _)),(Obj.cls_mapFields ..).trans i,?_⟩ (A_ ..))⟩));rw[Obj.data_mapFields a];simp[rawInt]
def Af(hh:A.handled=none)(b:s.heap.IsTupleIter j t k)(h:s.heap.IsTuple t c)(i:c[k]?=none)(q:∀g x,Heap.ExtBut j s.heap g->(∃ob,g.get? x=some ob/\ob.cls=.type "StopIteration")->E (.ref x) {s with heap:=g}):wpAny (model P w) A (Builtin.SmallTypes.nextOf (.ref j)) Q E s:=by
 obtain⟨ob,d,l,e⟩:=id b;obtain⟨n,f1,_,o,f3⟩:=h;unfold Builtin.SmallTypes.nextOf;refine a_ (pw (name:=Str.ofString "__next__") b.typeIs M_ (pv M_ b.typeIs F.entry_tuple_iterator_next ?_ (RL _)));refine(show wpAny _ _ (field (.ref j) 0>>=_) _ _ s from a_ (ri d e (x:=.ref t) rfl ?_));refine(show wpAny _ _ (if(Value.ref t==Value.none)=true then _ else(field (.ref j) 1>>=_)) _ _ s from ?_);rw[j2 (show¬(Value.ref t==Value.none)=true fromλz=>l_ z)];refine a_ (ri d e (x:=.int k 0) rfl ?_);refine(show wpAny _ _ (seqItems? (.ref t)>>=_) _ _ s from a_ (rl f1 f3 ?_));simp only[qx,i];refine a_ (vu (a_ (wpAny_setField d e (by simp) (show wpAny _ _ (newExc (.type "StopIteration") []>>=_) _ _ _ from a_ ?_))));simp only[newExc,newTuple];refine a_ (p_ (a_ (m:=firstArgMember _ _) (wpAny_of_eq (a:=Value.none) (by first|rfl|(simp only[firstArgMember];rfl)) (p_ ?_ (by size_fits)))) (by size_fits));simp only[raiseNew];refine a_ (wpAny_handled ?_)
 first|rw[show A.in1.handled=none from hh]|rw[hh]
 exact a_ (e_ (wpAny_throw (q _ _ (((A_ ..).extBut.push _).push _) ⟨_,h_ _ rfl,rfl⟩)))
def BO(z a b d:Addr)(h g:Heap):Prop:=∀c ob,c≠z->c≠a->c≠b->c≠d->h.get? c=some ob->g.get? c=some ob
def Ea{z h d j n t l:Addr}{L M:Nat}{Z ys:RU}{x y a b:Value}{Q:RN}(D:ZipApart z h d j n t l)(B:IsZip s.heap z h d .none)(p1:IsPair s.heap h (.ref j) (.ref n))(p2:IsPair s.heap d a b)(i1:s.heap.IsTupleIter j t L)(i2:s.heap.IsListIter n l M)(tt:s.heap.IsTuple t Z)(ll:s.heap.IsList l ys)(hx:Z[L]?=some x)(hy:ys[M]?=some y)(q:∀g,IsZip g z h d (rawInt s.heap.objs.size)->IsPair g d x y->g.IsTupleIter j t (L+1)->g.IsListIter n l (M+1)->IsPair g s.heap.objs.size x y->g.objs.size=s.heap.objs.size+1->BO z d j n s.heap g->Q (.ref s.heap.objs.size) {s with heap:=g}):wpAny (model P w) A (Builtin.«zip.__next__» ⟨[.ref z],[]⟩) (λfin s'=>∃v,fin=.done (.ret v)/\Q v s') E s:=by
 refine(show wpAny _ _ (field (.ref z) 2>>=_) _ _ _ from a_ (ri B rfl (x:=.bool false) rfl ?_));refine(show wpAny _ _ (field (.ref z) 3>>=_) _ _ _ from a_ (ri B rfl (x:=.ref h) rfl (a_ (rl p1 rfl ?_))));refine(show wpAny _ _ (Builtin.SmallTypes.ownedTupleIsFree (.ref z)>>=_) _ _ _ from a_ ?_);unfold Builtin.SmallTypes.ownedTupleIsFree;refine a_ (ri B rfl (x:=.none) rfl (e_ ?_));simp only[Rf];refine a_ (vu (a_ (ri B rfl (x:=.ref d) rfl (a_ (o_ B (by simp) λg1 O k=>?_)))))
 replace O:IsZip g1 z h d .ellipsis:=O
 refine a_ ?_;simp only[RA,RI,Qp,List.forIn_nil];refine a_ (a_ (QE (show wpAny _ _ (Builtin.SmallTypes.nextOf (.ref j)>>=_) _ _ _ from a_ (py (i1.extBut k.extBut D.i1z) (tt.extBut k.extBut D.l1z) hx λg2 R r=>e_ ?_))));have C:IsPair g2 d a b:=r.extBut _ _ D.TOi1 (k.extBut _ _ D.TOz p2);refine a_ (rl C rfl (a_ (Qk C λg3 m u=>?_)))
 replace m:IsPair g3 d x b:=m
 refine a_ (Q8 (e_ (a_ (a_ (QE ?_)))));refine(show wpAny _ _ (Builtin.SmallTypes.nextOf (.ref n)>>=_) _ _ _ from a_ (wpAny_nextOf_list_item (((i2.extBut k.extBut D.i2z).extBut r.extBut D.i12.symm).extBut u.extBut D.TOi2.symm) (((ll.extBut k.extBut D.l2z).extBut r.extBut D.l2i1).extBut u.extBut D.l2TO) hy λg4 S F=>e_ ?_))
 have G:IsPair g4 d x b:=F.extBut _ _ D.TOi2 m;refine a_ (rl G rfl (a_ (Qk G λf i H=>?_)))
 replace i:IsPair f d x y:=i
 refine a_ (Q8 (e_ (e_ (a_ (rl i rfl (a_ (wpAny_newTuple ?_)))))));have sz:f.objs.size=s.heap.objs.size:=by rw[H.1,F.1,u.1,r.1,k.1]
 have z5:IsZip f z h d .ellipsis:=H.extBut _ _ D.TOz.symm (F.extBut _ _ D.i2z.symm (u.extBut _ _ D.TOz.symm (r.extBut _ _ D.i1z.symm O)));have k5:BO z d j n s.heap f:=λc o p K T U e=>H.extBut _ _ K (F.extBut _ _ U (u.extBut _ _ K (r.extBut _ _ T (k.extBut _ _ p e))));have V:f.IsTupleIter j t (L+1):=((R.extBut u.extBut D.TOi1.symm).extBut F.extBut D.i12).extBut H.extBut D.TOi1.symm;have W:f.IsListIter n l (M+1):=S.extBut H.extBut D.TOi2.symm;have zl:z<f.objs.size:=ji z5;refine(show wpAny _ _ (Builtin.SmallTypes.ownedTupleHandOut (.ref z) (.ref f.objs.size)>>=_) _ _ _ from a_ ?_);unfold Builtin.SmallTypes.ownedTupleHandOut;have z6:IsZip (f.push {cls:=.type "tuple",data:=.seq #[x,y]}) z h d .ellipsis:=b_ _ z5;refine a_ (o_ z6 (by simp) λg7 X Y=>?_)
 replace X:IsZip g7 z h d (rawInt f.objs.size):=X
 refine o_ X (by simp) λI N s8=>?_
 replace N:IsZip I z h d (rawInt f.objs.size):=N
 have up:∀c ob,c≠z->f.get? c=some ob->I.get? c=some ob:=λc ob p e=>s8.extBut _ _ p (Y.extBut _ _ p (b_ _ e));have pn:IsPair I f.objs.size x y:=s8.extBut _ _ (oe zl) (Y.extBut _ _ (oe zl) (h_ _ rfl));have J:I.objs.size=f.objs.size+1:=by rw[s8.1,Y.1,n7]
 rw[sz]at N pn J;refine e_ ⟨_,rfl,(show Q (.ref f.objs.size) _ from ?_)⟩;rw[sz];exact q I N (up _ _ D.TOz i) (V.at λob e=>up _ ob D.i1z e) (W.at λob e=>up _ ob D.i2z e) pn J λc ob p K T U e=>up c ob p (k5 c ob p K T U e)
def D9(hh:A.handled=none)(D:ZipApart z i h n p t l)(j:IsZip s.heap z i h .none)(p1:IsPair s.heap i (.ref n) (.ref p))(p2:IsPair s.heap h a b)(B:s.heap.IsTupleIter n t C)(F:s.heap.IsTuple t G)(H:G[C]?=none)(q:∀g e,BO z h n p s.heap g->(∃ob,g.get? e=some ob/\ob.cls=.type "StopIteration")->E (.ref e) {s with heap:=g}):wpAny (model P w) A (Builtin.«zip.__next__» ⟨[.ref z],[]⟩) Q E s:=by
 refine(show wpAny _ _ (field (.ref z) 2>>=_) _ _ _ from a_ (ri j rfl (x:=.bool false) rfl ?_));refine(show wpAny _ _ (field (.ref z) 3>>=_) _ _ _ from a_ (ri j rfl (x:=.ref i) rfl (a_ (rl p1 rfl ?_))));refine(show wpAny _ _ (Builtin.SmallTypes.ownedTupleIsFree (.ref z)>>=_) _ _ _ from a_ ?_);unfold Builtin.SmallTypes.ownedTupleIsFree;refine a_ (ri j rfl (x:=.none) rfl (e_ ?_));simp only[Rf];refine a_ (vu (a_ (ri j rfl (x:=.ref h) rfl (a_ (o_ j (by simp) λI m o=>?_)))))
 replace m:IsZip I z i h .ellipsis:=m
 refine a_ ?_;simp only[RA,RI,Qp,List.forIn_nil];refine a_ (a_ (QE (show wpAny _ _ (Builtin.SmallTypes.nextOf (.ref n)>>=_) _ _ _ from a_ (Af hh (B.extBut o.extBut D.i1z) (F.extBut o.extBut D.l1z) H λJ e r K=>?_))));obtain⟨L,f,k⟩:=K;have u:IsZip J z i h .ellipsis:=r _ _ D.i1z.symm m;have M:e≠z:=λc=>by subst c;rw[u]at f;cases f;simp at k
 exact o_ u (by simp) λN _ v=>q N e (λc ob y _ O _ d=>v.extBut _ _ y (r _ _ O (o.extBut _ _ y d))) ⟨L,v.extBut _ _ M f,k⟩
def Eb(D:ZipApart z f c d e t l)(h:IsZip s.heap z f c .none)(p1:IsPair s.heap f (.ref d) (.ref e))(p2:IsPair s.heap c a b)(n:s.heap.IsTupleIter d t i)(o:s.heap.IsListIter e l j)(p:s.heap.IsTuple t r)(u:s.heap.IsList l v)(B:r[i]?=some x)(C:v[j]?=some y)(q:∀g,IsZip g z f c (rawInt s.heap.objs.size)->IsPair g c x y->g.IsTupleIter d t (i+1)->g.IsListIter e l (j+1)->IsPair g s.heap.objs.size x y->g.objs.size=s.heap.objs.size+1->BO z c d e s.heap g->Q (some (.ref s.heap.objs.size)) {s with heap:=g}):wpAny (model P w) A (pyNext (.ref z)) Q E s:=by have ty:s.TypeIs (.ref z) "zip":=⟨_,h,rfl⟩;unfold pyNext;refine a_ (Qi (pw (name:=Str.ofString "__next__") ty P7 (pv P7 ty RE (Ea D h p1 p2 n o p u B C λg a1 m G a4 H I J=>?_) (Rt _))));exact e_ (q g a1 m G a4 H I J)
def Ab(hh:A.handled=none)(D:ZipApart z f c d h t l)(i:IsZip s.heap z f c .none)(p1:IsPair s.heap f (.ref d) (.ref h))(p2:IsPair s.heap c a b)(n:s.heap.IsTupleIter d t o)(p:s.heap.IsTuple t r)(u:r[o]?=none)(q:∀g,BO z c d h s.heap g->Q none {s with heap:=g}):wpAny (model P w) A (pyNext (.ref z)) Q E s:=by have ty:s.TypeIs (.ref z) "zip":=⟨_,i,rfl⟩;unfold pyNext;refine a_ (Qi (pw (name:=Str.ofString "__next__") ty P7 (pv P7 ty RE (D9 hh D i p1 p2 n p u λg e k m=>?_) (Rt _))));obtain⟨ob,h1,h2⟩:=m;exact a_ (QK (T:="StopIteration") (b:=true) ⟨ob,h1,h2⟩ isSubtype_stop (e_ (q g k)))
abbrev Jb(h:Heap)(t:Addr):Heap:=h.push {cls:=.type "tuple_iterator",data:=.fields #[.ref t,.int 0 0]}
abbrev O5(h:Heap)(t l:Addr):Heap:=(Jb h t).push {cls:=.type "list_iterator",data:=.fields #[.ref l,.int 0 0]}
abbrev O4(h:Heap)(t l:Addr):Heap:=(O5 h t l).push {cls:=.type "tuple",data:=.seq #[.ref h.objs.size,.ref (Jb h t).objs.size]}
abbrev O3(h:Heap)(t l:Addr):Heap:=(O4 h t l).push {cls:=.type "tuple",data:=.seq #[.none,.none]}
abbrev Nm(h:Heap)(t l:Addr):Heap:=(O3 h t l).push {cls:=.type "zip",data:=.fields #[.none,.bool false,.bool false,.ref (O5 h t l).objs.size,.ref (O4 h t l).objs.size]}
def Cw(t l:Addr)(a b:RU):Meets (Builtin.«zip.__new__» ⟨[.type "zip",.ref t,.ref l],[]⟩) (λ_ R s=>s.heap.IsTuple t a/\s.heap.IsList l b/\R (.ok (.ret (.ref (O3 s.heap t l).objs.size))) {s with heap:=Nm s.heap t l}):=.of_wp λprog w A R s h=>by
  obtain⟨c,g,d,tk,os⟩:=s;obtain⟨h1,h2,h⟩:=h;have e:=sub_zip;have f:Heap.IsTuple (Shared.heap ⟨c,g,d,tk,os⟩) t a:=h1;have i:Heap.IsList (Shared.heap ⟨c.push {cls:=.type "tuple_iterator",data:=.fields #[.ref t,.int 0 0]},g,d,tk,os⟩) l b:=Heap.IsList.push h2 _
  wp_walk using y2 f,E_ i
  exact⟨_,rfl,h⟩
def Fo(h1:s.heap.IsTuple t n)(h2:s.heap.IsList l p)(q:∀g,IsZip g (s.heap.objs.size+4) (s.heap.objs.size+2) (s.heap.objs.size+3) .none->IsPair g (s.heap.objs.size+2) (.ref s.heap.objs.size) (.ref (s.heap.objs.size+1))->IsPair g (s.heap.objs.size+3) .none .none->g.IsTupleIter s.heap.objs.size t 0->g.IsListIter (s.heap.objs.size+1) l 0->(∀c o,s.heap.get? c=some o->g.get? c=some o)->Q (.ref (s.heap.objs.size+4)) {s with heap:=g}):wpAny (model P w) A (call (.type "zip") [.ref t,.ref l]) Q E s:=by
 refine callType_new F.called_zip (by decide) (F.typeCall_zip_2 _ _) (F.newCall_zip_2 _ _) (λob=>F.args_object_init_3 ob _ _) F.entry_zip_new (Cw t l n p) ⟨h1,h2,?_⟩;have a:(Jb s.heap t).objs.size=s.heap.objs.size+1:=n7 ..;have b:(O5 s.heap t l).objs.size=s.heap.objs.size+2:=by rw[n7,a]
 have e:(O4 s.heap t l).objs.size=s.heap.objs.size+3:=by rw[n7,b]
 have h:(O3 s.heap t l).objs.size=s.heap.objs.size+4:=by rw[n7,e]
 have f:(Nm s.heap t l).get? (O3 s.heap t l).objs.size=some _:=h_ _ rfl;have i:(Nm s.heap t l).get? (O4 s.heap t l).objs.size=some _:=b_ _ (h_ _ rfl);have j:(Nm s.heap t l).get? (O5 s.heap t l).objs.size=some _:=b_ _ (b_ _ (h_ _ rfl));have k:(Nm s.heap t l).get? (Jb s.heap t).objs.size=some _:=b_ _ (b_ _ (b_ _ (h_ _ rfl)));have m:(Nm s.heap t l).get? s.heap.objs.size=some _:=b_ _ (b_ _ (b_ _ (b_ _ (h_ _ rfl))));show _/\_;rw[b,e,h]at f;rw[a,b]at j;rw[e]at i;rw[a]at k;rw[h];exact⟨⟨_,f,rfl⟩,q _ f j i ⟨_,m,rfl,rfl⟩ ⟨_,k,rfl,rfl⟩ λc ob d=>b_ _ (b_ _ (b_ _ (b_ _ (b_ _ d))))⟩
end
def gM{X:Cx}{a:RO}{g:St}{H:Hp}{s:Shared}{h':Heap}{t':Nat}{ch:RW}(I:aM X a g H s)(k:∀b o,b∉ch->s.heap.get? b=some o->h'.get? b=some o)(f:∀b∈ch,we X a H b):aM X a g H {s with heap:=h',toks:=t'}:=by
 have d:∀b u,H b=some u->b∉ch:=λb u e z=>by rw[(f b z).1]at e;cases e
 refine I.step (g':=s.gens) (d':=s.drawn) (ch:=ch) (λb h=>?_) (λb o _ _ hc e _=>k b o hc e) (λb o _ _ hc e _=>⟨o.slots,k b o hc e⟩) (λ_ _ _ _ n=>n) (λb o hc e=>⟨o,k b o hc e⟩) (λ_ _ e=>e) (λ_ _ _ e=>e) (λb x e=>⟨#[],by rw[e];simp⟩) (λm hm=>?_) (λb u e=>?_) I.bare
 ·obtain⟨_,f1,_,f3,f4,i⟩:=f b h;exact⟨f3,f1,f4,i⟩
 ·obtain⟨o,j,l,p,r⟩:=hm;exact⟨o,j,l,k _ o (λz=>(f _ z).2.1 rfl) p,r⟩
 ·refine(I.hok b u e).stay (λc v hc q=>k c v ?_ q) (λ_ q=>q) λ_ _ q=>q;rcases hc with z|z
  ·rw[z];exact d b u e
  ·exact d c _ z
def Lq(K:RM)(t l:Addr):It:=⟨λi H=>∃a b x y,aU K H t a/\aW K H l b/\a[i]?=some x/\b[i]?=some y,λi H v c=>∃T x y,H T=none/\v=.ref T/\c=aA H T (.tup [x,y])/\∀a b,aU K H t a->aW K H l b->a[i]?=some x/\b[i]?=some y,λi H=>∃a,aU K H t a/\a.length<=i⟩
def FS{P:RR}{w:World}{K:RM}{J:RT}{x1:Nat}{Q:Pos}{z j n q r t l:Addr}(D:ZipApart z j n q r t l):vY P w K (.Tuple J x1 Q) (Lq K t l) [z,j,n,q,r] z (λi h=>IsZip h z j n .none/\IsPair h j (.ref q) (.ref r)/\(∃a b,IsPair h n a b)/\h.IsTupleIter q t i/\h.IsListIter r l i)where
 mem:=by simp
 obj:=λi h st b d=>by
  obtain⟨a1,m,⟨_,_,A⟩,⟨al,a4,_,d4⟩,⟨an,C,_,d5⟩⟩:=st;simp only[ov,n0,to]at d;rcases d with rfl|rfl|rfl|rfl|rfl
  ·exact⟨_,a1,λv e=>by cases e⟩
  ·exact⟨_,m,λv e=>by cases e⟩
  ·exact⟨_,A,λv e=>by cases e⟩
  ·exact⟨_,a4,λv e=>by rw[d4]at e;cases e⟩
  ·exact⟨_,C,λv e=>by rw[d5]at e;cases e⟩
 keep:=λi h h' st k=>by obtain⟨a1,m,⟨a,b,A⟩,a4,C⟩:=st;exact⟨k z (by simp) _ a1,k j (by simp) _ m,⟨a,b,k n (by simp) _ A⟩,a4.at λob e=>k q (by simp) ob e,C.at λob e=>k r (by simp) ob e⟩
 item:=by
  intro X R S T hc i B s σ H E I O st hg;subst R S T;obtain⟨xs,ys,x,y,L,M,U,hy⟩:=hg;obtain⟨F,V,p,hz⟩:=I.tuple L;obtain⟨ad,Y,p2,ap⟩:=I.list M;obtain⟨u,hu,ru⟩:=V.get U;obtain⟨Z,aa,ac⟩:=Y.get hy;obtain⟨a1,m,⟨a,b,A⟩,a4,C⟩:=st;refine Eb D a1 m A a4 C (show s.heap.IsTuple t F.toArray from p) p2.isList (x:=u) (y:=Z) (by simpa using hu) (by simpa using aa) λg b1 b2 b3 b4 b5 b6 off=>?_;refine⟨_,rfl,wpAny_letOwnedTupleGo_zip b1 λg' c1 G=>?_⟩;have lt:∀c∈[z,j,n,q,r],c≠s.heap.objs.size:=λc N e=>by
   have hs:∃ob,s.heap.get? c=some ob:=by
    simp only[ov,n0,to]at N;rcases N with rfl|rfl|rfl|rfl|rfl
    ·exact⟨_,a1⟩
    ·exact⟨_,m⟩
    ·exact⟨_,A⟩
    ·obtain⟨ob,e,_⟩:=a4;exact⟨ob,e⟩
    ·obtain⟨ob,e,_⟩:=C;exact⟨ob,e⟩
   obtain⟨ob,h⟩:=hs;rw[e]at h;exact absurd (ji h) (q4 _)
  have fresh:H s.heap.objs.size=none:=I.hok.fresh (g_ _);have I1:aM X B σ (aA H s.heap.objs.size (.tup [x,y])) {s with heap:=s.heap.push {cls:=.type "tuple",data:=.seq #[u,Z]},toks:=s.toks}:=I.laid (λb o e=>b_ _ e) (g_ _) ⟨by rw[k4];simp,[u,Z],.cons ru (.cons ac .nil),⟨_,h_ _ rfl,rfl,_,rfl⟩⟩
  have I2:=gM (h':=g') (t':=s.toks) (ch:=[z,j,n,q,r]) I1 (λb o d e=>?_) (λb d=>?_)
  ·refine⟨.ref s.heap.objs.size,_,I2,rfl,⟨_,x,y,fresh,rfl,rfl,λas a6 h1 h2=>⟨by rw[I.tuple_inj h1 L];exact U,by rw[I.list_inj h2 M];exact hy⟩⟩,⟨c1,G.extBut _ _ D.TIz (off _ _ D.TIz D.TITO D.TIi1 D.TIi2 m),⟨_,_,G.extBut _ _ D.TOz b2⟩,b3.extBut G.extBut D.i1z,b4.extBut G.extBut D.i2z⟩,λb d=>?_⟩;rw[ao (lt b d)];exact(O b d).1
  ·have f:b≠z/\b≠j/\b≠n/\b≠q/\b≠r:=by simpa using d
   by_cases eb:b=s.heap.objs.size
   ·subst eb;rw[h_ _ rfl]at e;cases e;exact G.extBut _ _ f.1 b5
   ·have e':s.heap.get? b=some o:=by
     rcases L_ e with⟨z2,_⟩|e2
     ·exact absurd z2 eb
     ·exact e2
    exact G.extBut _ _ f.1 (off b o f.1 f.2.2.1 f.2.2.2.1 f.2.2.2.2 e')
  ·obtain⟨f0,f1⟩:=O b d;exact⟨by rw[ao (lt b d)];exact f0,f1⟩
 done:=by
  intro X R S T hc i B s σ H E I O st hg;subst R S T;obtain⟨xs,hq,U⟩:=hg;obtain⟨F,V,p,hz⟩:=I.tuple hq;have hl:=V.length;obtain⟨a1,m,⟨a,b,A⟩,a4,C⟩:=st;refine Ab (I.ok.hd hc) D a1 m A a4 (show s.heap.IsTuple t F.toArray from p) (by simp;lia) λg off=>⟨rfl,gM (t':=s.toks) (ch:=[z,j,n,q,r]) I (λb o d e=>?_) O⟩;have f:b≠z/\b≠j/\b≠n/\b≠q/\b≠r:=by simpa using d
  exact off b o f.1 f.2.2.1 f.2.2.2.1 f.2.2.2.2 e
 self:=λ_ _ _ _ _ st h=>QJ st.1 h
end L2
namespace L2
open PySem PySem.Spec PyProof.Rows PySem.W
section
variable{X:Cx}{c:Expr}
def Iv{K:RM}{a l:Addr}{h o:List V}{g:TG}{ds:RV}{k:Nat}{tc:TT}{te:TE}{z:St}{A:Hp}{D:Addr}{F:Hp->Prop}(Pv:Nat->List V->Hp->Prop)(h0:Pv 0 [] (aA A D (.lst [])))(C:h.length=o.length)(E:∀i d f,i<=h.length->Pv i d f->aU K f a h/\aW K f l o)(G:∀i x y d f T,h[i]?=some x->o[i]?=some y->Pv i d f->f T=none->g (.ref T) (fT ds k z) (aA f T (.tup [x,y])) λj u=>tc j u λb r=>if b=true then te j r λy s=>s D=some (.lst d)/\d.length<sizeLine/\∃n,n<h.length-i/\n=h.length-(i+1)/\i+1<=h.length/\Pv (i+1) (d++[y]) (aA s D (.lst (d++[y])))else∃n,n<h.length-i/\n=h.length-(i+1)/\i+1<=h.length/\Pv (i+1) d r)(hd:∀d f,Pv h.length d f->F f):∃W:Nat->Nat->List V->Hp->Prop,(∃m,W 0 m [] (aA A D (.lst [])))/\∀i m d f,W i m d f->((Lq K a l).stop i f/\F f)\/((Lq K a l).go i f/\∀x v,(Lq K a l).yld i f x v->g x (fT ds k z) v λj u=>tc j u λb r=>if b=true then te j r λy s=>s D=some (.lst d)/\d.length<sizeLine/\∃n,n<m/\W (i+1) n (d++[y]) (aA s D (.lst (d++[y])))else∃n,n<m/\W (i+1) n d r):=by
 refine⟨λi m d f=>m=h.length-i/\i<=h.length/\Pv i d f,⟨_,rfl,ng _,h0⟩,?_⟩;rintro i m d f⟨rfl,hi,p⟩;obtain⟨q,B⟩:=E i d f hi p
 by_cases w:i<h.length
 ·have t:i<o.length:=by lia
  refine .inr ⟨⟨h,o,h[i],o[i],q,B,by simp[w],by simp[t]⟩,λx v y=>?_⟩;obtain⟨T,H,I,J,e,L,y⟩:=y;subst e L;obtain⟨M,N⟩:=y h o q B;exact G i H I d _ T M N p J
 ·have e:i=h.length:=by lia
  subst e;exact .inl ⟨⟨h,q,g_ _⟩,hd d f p⟩
end
end L2
namespace L2
open PySem PySem.Spec PyProof.Rows PySem.W
def Px{K:RM}{w:World}{pm:Params}{a:Addr}(h:w.params=pm)(k:K3 K pm a):K3 K w.params a:=h▸k
def gl(c:Nat):List (List Nat)->List Nat|[]=>[]|[x]=>x|x::y::r=>x++c::gl c (y::r)
end L2
namespace L2
open PySem PySem.Spec PyProof.Rows
section
variable{prog:RR}{w:World}{A:Around}{E:RN}{s:Shared}
end
section
variable{P:RR}{w:World}{A:Around}{R:Result->Shared->Prop}{h0:Heap}{l c d:Addr}{a:RU}{b:List kE}
end
section
variable{P:RR}{w:World}{A:Around}{E:RN}{s:Shared}{l:Addr}{a:RU}{b:List kE}{Q:RN}
end
section
variable{X:Cx}
end
end L2
namespace L2
open PySem PySem.Spec PyProof.Rows PySem.W
abbrev dE(P:RR)(w:World)(d:Addr)(a:List (b0×V))(c:Nat):HO:=.ext λh=>((d==sysModules)=false/\a.length<=sizeLine)/\∃b,KV a b/\h.DictAt (aL P w) d b c
theorem zr:∀{a:List (b0×V)}{d:List (b0×Value)},KV a d->∀(i:Nat)(k:b0)(v:V),a[i]?=some (k,v)->∃u,d[i]?=some (k,u)/\aZ v u|_,_,.nil,i,k,v,h=>by simp at h|_,_,.cons (b:=q) ⟨c,e⟩ t,i,k,v,h=>by cases i with|zero=>simp at h;subst h;obtain⟨f,u⟩:=q;have c:k=f:=c;subst c;exact⟨u,rfl,e⟩|succ i=>obtain⟨u,h1,h2⟩:=zr t i k v (by simpa using h);exact⟨u,by simpa using h1,h2⟩
def DG(h:(aL P w).is k u=true):aZ (kV k) u:=by
 rcases n9.flat (P:=P) (w:=w) (h:=default) (k:=k) (v:=u) h with⟨i,t,rfl,rfl⟩|⟨z,t,rfl,rfl⟩
 ·exact⟨t,rfl⟩
 ·exact⟨t,rfl⟩
section
variable{X:Cx}{g:RO}{j:St}{H:Hp}{s:Shared}{d:Addr}{f:List (b0×V)}{i:Nat}
def aM.walk(I:aM X g j H s)(h:H d=some (.dK f)):∃i l,KV f l/\s.heap.DictAt (aL X.prog X.w) d l i/\(d==sysModules)=false/\aM X g j (aA H d (dE X.prog X.w d f i)) s:=by obtain⟨t,p,l,q,m⟩:=I.hok d _ h;obtain⟨i,n⟩:=m.dictAt;obtain⟨o,u,r,_⟩:=id n;refine⟨i,l,q,n,p,?_⟩;have J:=I.write (h':=s.heap) (t':=s.toks) (x:=d) (e:=d) (o:=dE X.prog X.w d f i) (by rw[h];exact True.intro) (.inl rfl) (λ_ _ _ e=>e) ⟨o,r⟩ ⟨⟨⟨p,t⟩,l,q,n⟩,⟨o,r⟩,λ_ _⟨a,l,b,c⟩k=>⟨a,l,b,c.at' k⟩⟩;exact J
def aM.thaw(I:aM X g j H s)(h:H d=some (dE X.prog X.w d f i)):aM X g j (aA H d (.dK f)) s:=by obtain⟨⟨⟨a,b⟩,c,k,l⟩,⟨o,m⟩,_⟩:=I.hok d _ h;have J:=I.write (h':=s.heap) (t':=s.toks) (x:=d) (e:=d) (o:=.dK f) (by rw[h];exact True.intro) (.inl rfl) (λ_ _ _ e=>e) ⟨o,m⟩ ⟨b,a,c,k,l.dictOf⟩;exact J
end
def Pd(P:RR)(w:World)(d:Addr)(a:List (b0×V))(b:Nat)(f:b0×V->V):It:=⟨λi H=>H d=some (dE P w d a b)/\i<a.length,λi H x c=>c=H/\a[i]?.map f=some x,λi H=>H d=some (dE P w d a b)/\a.length<=i⟩
def Ef{P:RR}{w:World}{K:RM}{N:Expr}(d g:Addr)(a:List (b0×V))(n:Nat):vY P w K N (Pd P w d a n λp=>kV p.1) [g] g (λi h=>h.IsKeyIter g d i a.length n)where
 mem:=by simp
 obj:=λi h st b l=>by
  have e:b=g:=by simpa using l
  subst e;obtain⟨o,e,c,x⟩:=st;exact⟨o,e,λv z=>by rw[x]at z;cases z⟩
 keep:=λi h h'⟨o,e,r⟩k=>⟨o,k g (by simp) o e,r⟩
 item:=by intro X y A B hc i j s L H E I q st hg;subst y A B;obtain⟨hd,hi⟩:=hg;obtain⟨⟨_,C,t,D⟩,_⟩:=I.hok d _ hd;have f:a.length=C.length:=Paired.length t;obtain⟨F,f1,f2,f3,f4,G⟩:=q g (by simp);have M:a[i]?=some a[i]:=f_ hi;obtain⟨u,O,ru⟩:=zr t i a[i].1 a[i].2 M;have st:s.heap.IsKeyIter g d i a.length n:=st;rw[f]at st;refine wpAny_pyNext_dict_item st D O λJ h' Q m R=>?_;have I1:aM X j L H {s with heap:=h'}:=I.turned (t':=s.toks) (λb o l e=>(R.2 b l).trans e) F f1 f3 f4 G;obtain⟨o,e,c,x⟩:=id m;rw[<-f]at m;exact⟨J,rfl,yd (s:={s with heap:=h'}) e c x (by decide) ⟨kV a[i].1,H,I1,DG Q,⟨rfl,by rw[M];rfl⟩,m,λb l=>(q b l).1⟩⟩
 done:=by intro X y A B hc i j s L H E I q st hg;subst y A B;obtain⟨hd,hi⟩:=hg;obtain⟨⟨_,C,t,D⟩,_⟩:=I.hok d _ hd;have f:a.length=C.length:=Paired.length t;obtain⟨F,f1,f2,f3,f4,G⟩:=q g (by simp);have st:s.heap.IsKeyIter g d i a.length n:=st;rw[f]at st;exact wpAny_pyNext_dict_end (I.ok.hd hc) st D (np (by lia)) λh' T=>⟨rfl,I.turned (t':=s.toks) (λb o l e=>T b o l e) F f1 f3 f4 G⟩
 self:=λ_ _ _ _ _ st h=>wpAny_pyIter_keyiter st h
def Ed{P:RR}{w:World}{K:RM}{M:Expr}(d g:Addr)(a:List (b0×V))(n:Nat):vY P w K M (Pd P w d a n λp=>p.2) [g] g (λi h=>h.IsValIter g d i a.length n)where
 mem:=by simp
 obj:=λi h st b l=>by
  have e:b=g:=by simpa using l
  subst e;obtain⟨o,e,c,x⟩:=st;exact⟨o,e,λv z=>by rw[x]at z;cases z⟩
 keep:=λi h h'⟨o,e,r⟩k=>⟨o,k g (by simp) o e,r⟩
 item:=by intro X y A B hc i j s J H E I q st hg;subst y A B;obtain⟨hd,hi⟩:=hg;obtain⟨⟨_,C,t,D⟩,_⟩:=I.hok d _ hd;have f:a.length=C.length:=Paired.length t;obtain⟨F,f1,f2,f3,f4,G⟩:=q g (by simp);have L:a[i]?=some a[i]:=f_ hi;obtain⟨u,N,ru⟩:=zr t i a[i].1 a[i].2 L;have st:s.heap.IsValIter g d i a.length n:=st;rw[f]at st;refine wpAny_pyNext_values_item st D N λh' m O=>?_;have I1:aM X j J H {s with heap:=h'}:=I.turned (t':=s.toks) (λb o l e=>(O.2 b l).trans e) F f1 f3 f4 G;obtain⟨o,e,c,x⟩:=id m;rw[<-f]at m;exact⟨u,rfl,yd (s:={s with heap:=h'}) e c x (by decide) ⟨a[i].2,H,I1,ru,⟨rfl,by rw[L];rfl⟩,m,λb l=>(q b l).1⟩⟩
 done:=by intro X y A B hc i j s J H E I q st hg;subst y A B;obtain⟨hd,hi⟩:=hg;obtain⟨⟨_,C,t,D⟩,_⟩:=I.hok d _ hd;have f:a.length=C.length:=Paired.length t;obtain⟨F,f1,f2,f3,f4,G⟩:=q g (by simp);have st:s.heap.IsValIter g d i a.length n:=st;rw[f]at st;exact wpAny_pyNext_values_end (I.ok.hd hc) st D (np (by lia)) λh' R=>⟨rfl,I.turned (t':=s.toks) (λb o l e=>R b o l e) F f1 f3 f4 G⟩
 self:=λ_ _ _ _ _ st h=>wpAny_pyIter_valiter st h
section
variable{X:Cx}{P:RR}{w:World}{j l o e:Expr}{a c te:TE}{g i:Pos}
def OI(P:RR)(w:World)(a:TE):TI:=λk H R=>a k H λx f=>∃d b,x=.ref d/\f d=some (.dK b)/\∀h,R (Pd P w d b h λp=>kV p.1) (aA f d (dE P w d b h))
def JY(t:PE X l a)(u:X.prog=P:=by rfl)(y:X.w=w:=by rfl):PI X j l (OI P w a):=by
 subst u y;intro f s z H R I h;refine cw (t f s z H _ I h) λv n⟨x,G,I1,A,d,k,e,hd,q⟩=>?_;subst e;obtain rfl:v=Value.ref d:=A;obtain⟨r,B,C,D,E,p⟩:=I1.walk hd;have m:k.length=B.length:=Paired.length C;refine wpAny_pyIter_dict E D ?_;refine⟨n.heap.objs.size,[n.heap.objs.size],_,_,_,rfl,p.kept (t':=n.toks) λb o e=>b_ _ e,Ef d _ k r,⟨_,h_ _ rfl,rfl,by rw[m];rfl⟩,λb F=>?_,q r⟩;have e:b=n.heap.objs.size:=by simpa using F
 subst e;exact p.fpOk (g_ _) (p.hok.fresh (g_ _))
def OE(P:RR)(w:World)(c:TE):TI:=λk H R=>c k H λx f=>∃d b,x=.ref d/\f d=some (.dK b)/\∀h,R (Pd P w d b h λp=>p.2) (aA f d (dE P w d b h))
def Pp(P:RR)(w:World)(t:TE):TE:=λh H Q=>t h H λv f=>∃d b k,f d=some (dE P w d b k)/\Q v (aA f d (.dK b))
def Mq(h:PE X e te)(f:X.prog=P:=by rfl)(n:X.w=w:=by rfl):PE X e (Pp P w te):=by subst f n;intro b s k H Q I m;refine cw (h b s k H _ I m) λu t⟨v,x,I1,r,d,p,y,hd,q⟩=>?_;exact⟨v,_,I1.thaw hd,r,q⟩
def N4(P:RR)(w:World)(t:TS):TS:=λD k H=>t {D with nx:=λf h=>∃d b m,h d=some (dE P w d b m)/\D.nx f (aA h d (.dK b))} k H
def Cj{st:Stmt}{t:TS}(h:PS X st t)(n:X.prog=P:=by rfl)(p:X.w=w:=by rfl):PS X st (N4 P w t):=by subst n p;intro b s m H D I r;refine wpAny_mono (h b s m H _ I r) (λf y z=>?_) λ_ _ z=>z;cases f with|next=>obtain⟨k,A,v,d,x,B,hd,q⟩:=z;exact⟨k,_,v.thaw hd,q⟩|brk=>exact z|cont=>exact z|ret u=>exact z
end
end L2
namespace L2
open PySem PySem.Spec PyProof.Rows PySem.W
section
variable{X:Cx}{P:RR}{w:World}{p l o e:Expr}{B j te ty:TE}{c f t:Pos}
def JW(D:PE X o j)(E:X.prog=P:=by rfl)(G:X.w=w:=by rfl)(g:attributeBase o "values" X.env (eval o X.env)=eval o X.env:=by rfl)(i:(c.endLine==f.line)=true:=by rfl):PI X p (.Call (.Attribute o "values" c) [] [] f) (OE P w j):=by
 subst E G;intro k s J H R I h;refine wpAny_Call_method0_late g i (cw (D k s J H _ I h) λv a⟨x,U,I1,K,d,m,e,hd,q⟩=>?_);subst e;obtain rfl:v=Value.ref d:=K;obtain⟨A,C,L,n,M,N⟩:=I1.walk hd;have r:m.length=C.length:=Paired.length L;obtain⟨ob,V,u,O,_⟩:=id n;refine⟨"dict","dict.values",PySem.F.plainAttrs_dict,PySem.F.slot_dict_values,PySem.F.type_dict_values,n.dictOf.typeIs,?_,r4 rfl (PySem.evalArgs_none (C_ PySem.F.slot_dict_values n.dictOf.typeIs PySem.F.entry_dict_values (PySem.F.args_dict_values_1 _) (meets_dict_values (aL X.prog X.w) d M) ⟨⟨C,n.dictOf⟩,?_⟩))⟩
 ·intro b z;cases z;exact⟨ob,u,O.2.1⟩
 ·have Q:(a.heap.push {cls:=.type "dict_values",data:=.fields #[.ref d]}).IsValuesView a.heap.objs.size d:=⟨_,h_ _ rfl,rfl,rfl⟩;show wpAny _ _ (pyIter (.ref a.heap.objs.size)) _ _ _;have y:=N.kept (h':=a.heap.push {cls:=.type "dict_values",data:=.fields #[.ref d]}) (t':=a.toks) λb o e=>b_ _ e;refine wpAny_pyIter_values (s:={a with heap:=a.heap.push {cls:=.type "dict_values",data:=.fields #[.ref d]}}) Q (n.push _) ?_;refine⟨_,[(a.heap.push {cls:=.type "dict_values",data:=.fields #[.ref d]}).objs.size],_,_,_,rfl,y.kept (t':=a.toks) λb o e=>b_ _ e,Ed d _ m A,⟨_,h_ _ rfl,rfl,by rw[r];rfl⟩,λb T=>?_,q A⟩;have e:b=(a.heap.push {cls:=.type "dict_values",data:=.fields #[.ref d]}).objs.size:=by simpa using T
  subst e;exact y.fpOk (g_ _) (y.hok.fresh (g_ _))
def Jf(K:RM)(ty j:TE):TE:=λd H Q=>ty d H λy g=>j d g λx b=>(∃a o,x=.ref a/\du b a y o/\Q (.bl (!o.isSome)) b)\/O8 K true y x b Q
def ED(K:RM)(z:X.K=K)(C:X.A.units+1<cLine)(hi:PE X i ty)(D:PE X o j):PC X .NotIn i o (Jf K ty j):=by
 subst z;intro b s d H Q I h;refine cw (hi b s d H _ I h) λiv E⟨y,F,I1,k,G⟩=>?_;refine cw (D b E d F _ I1 G) λm J⟨x,n,u,v,L⟩=>?_;rcases L with⟨a,r,e,g,q⟩|q
 ·subst e;obtain rfl:m=Value.ref a:=v;exact DT C u g k λN M=>⟨.bl (!r.isSome),n,M,rfl,q⟩
 ·exact yX b J d n y x iv m Q u k v q
def NX(K:RM)(a:Addr)(ty:TE):TE:=λd H Q=>ty d H λy b=>∃x r,y=.str x/\PySem.W.nsIn K a x=some r/\((r=none/\Q .non b)\/∃u v,r=some u/\aZ v u/\Q v b)
def J0(K:RM)(L:X.K=K)(hd:K3 K X.w.params a)(hg:Gl X x)(hm:X.mg x=some (.ref a))(M:PE X e ty)(m:M1 X (.Name x d) "get" c e f)(A:(x==("__debug__":Str))=false:=by decide):PE X (.Call (.Attribute (.Name x d) "get" c) [e] [] f) (NX K a ty):=by
 subst L;intro g s E H Q I h;obtain⟨lo,es,n,k,G⟩:=hd;have hn:PE X (.Name x d) (tC (.ref a)):=Dz hg hm rfl A;refine Qc m.base m.few m.line PySem.F.plainAttrs_dict PySem.F.slot_dict_get PySem.F.type_dict_get (cw (hn g s E H (λv N=>v=.ref a/\N=H) I ⟨rfl,rfl⟩) λu O⟨z,R,I1,S,T,U⟩=>?_);subst T U;obtain rfl:u=Value.ref a:=S;have C:=PySem.W.mapOf_K (prog:=X.prog) (w:=X.w) I1.kIn k G;refine⟨C.typeIs,λb z=>by cases z;exact⟨_,I1.kIn _ _ k,rfl⟩,?_⟩;rw[m.trees];refine r4 rfl (t_ (rV (cw (M g O E R _ I1 h) λiv s2⟨y,J,D,V,Y,r,Z,hu,q2⟩=>vr ?_)));subst Z;obtain⟨tk,rfl⟩:=V;have i:=PySem.W.mapOf_K (prog:=X.prog) (w:=X.w) D.kIn k G;refine C_ PySem.F.slot_dict_get i.typeIs PySem.F.entry_dict_get (PySem.F.args_dict_get_2 _ _) (meets_dict_get (strKind X.prog X.w) a (PySem.strKind_is X.prog X.w Y tk) lo) ⟨_,i,?_⟩;rw[PySem.W.find_K k hu];rcases q2 with⟨rfl,q⟩|⟨u',v',rfl,rv,q⟩
 ·exact⟨.non,J,D.tok _,rfl,q⟩
 ·exact⟨v',J,D.tok _,rv,q⟩
end
end L2
namespace L2
open PySem PySem.W PyProof.Rows
section
variable{M:Model}{A:Around}{E:RN}
def EK{C D N J:Addr}{nm q l L:Str}{bs n o a:RQ}{hd P sub R p r u b v c}{dd w:Option Addr}{S T W X Z x y z B F:Option Value}{id G:String}{s:Shared}{e:Addr}{H:Obj}{Q:Bool->Shared->Prop}(hC:s.heap.get? C=some (excClassObj nm q C N bs o hd P sub R p dd S T W X Z id))(I:s.heap.get? D=some (excClassObj l L D J n a r u b v c w x y z B F G))(he:s.heap.get? e=some H)(i:H.cls=.ref C)(hb:a.contains (.type "BaseException")=true)(j:Q ((Value.ref C::o).contains (.ref D)) s):wpAny M A (excMatches (.ref e) (.ref D)) Q E s:=by
 obtain⟨h,g,d,t,os⟩:=s;have k:(Value.ref D::a).contains (.type "BaseException")=true:=by rw[List.contains_cons,hb,Bool.or_true]
 have f:=tc_notTuple;unfold excMatches
 repeat(first|(with_reducible refine wpAny_loadPart_at he ?_;rw[i])|with_reducible refine wpAny_loadPart_at I ?_|(with_reducible refine wpAny_isSubtype_exc I ?_;rw[k])|(with_reducible refine wpAny_isSubtype_exc hC ?_)|wp_step)
 cases hc:(Value.ref C::o).contains (Value.ref D)with|true=>rw[hc]at j;rw[ku rfl];exact e_ (e_ (e_ j))|false=>rw[hc]at j;rw[j2 l_];exact e_ (e_ (e_ j))
end
def Ng(K:RM)(C:Addr)(a:RQ):Prop:=∃b dd cd sl,K.lookup C=some ⟨b,dd,.cls cd,sl⟩/\cd.mro=.ref C::a
def Ng.is{K:RM}{C:Addr}{c b:RQ}{h:Heap}{o:Obj}{a:ClassData}(m:Ng K C c)(kin:K.In h)(e:h.get? C=some o)(hd:o.data=.cls a)(hm:a.mro=.ref C::b):b=c:=by obtain⟨f,dd,cd,sl,l,r⟩:=m;have d:=kin _ _ l;rw[e]at d;cases d;have hd:Data.cls cd=Data.cls a:=hd;cases hd;rw[hm]at r;exact(List.cons.inj r).2
def Lx(K:RM)(C D:Addr):Prop:=∃a,Ng K C a/\(Value.ref C::a).contains (.ref D)=false
def NQ(f:XK->TS)(g:Addr)(a:TS)(h:Addr)(b:TS):TS:=λD c H=>f (λd _ e=>(d=.ref g/\a D c e)\/(d=.ref h/\b D c e)) D c H
def JU{X:Cx}{st b1 b2:Stmt}{c d:List Stmt}{tb:XK->TS}{x y:TS}{S W:Addr}{Z x2:Str}{aa ac ad al a7:Pos}(an:X.stack=X.env::X.outer)(hf:X.env.frame=some X.env.locals)(a8:nP X.K S)(ba:Gl X Z)(bb:X.mg Z=some (.ref S))(bc:nP X.K W)(bi:Gl X x2)(bl:X.mg x2=some (.ref W))(mr:Lx X.K W S)(hb:∀(E:XK)(a:RO)(p:St)(Xe:RN),qp (Aa X.prog X.w) (X.wish Xe) E a p->OR (X.wish Xe) a p st (tb E))(bp:∀g,xC (X.inExc g) (b1::c) x)(bt:∀g,xC (X.inExc g) (b2::d) y)(ap:(Z==("__debug__":Str))=false:=by decide)(as:(x2==("__debug__":Str))=false:=by decide):PS X (.Try [st] [.ExceptHandler (some (.Name Z aa)) none (b1::c) ac,.ExceptHandler (some (.Name x2 ad)) none (b2::d) al] [] [] a7) (NQ tb S x W y):=by
 intro a s p H D I h;obtain⟨bz,mr,bJ⟩:=mr;refine wpAny_Try_except ?_;have hp:qp (Aa X.prog X.w) (X.wish λe s₁=>wpAny (model X.prog X.w) X.A (noteFrame e X.env) (λ_ U=>wpAny (model X.prog X.w) X.A (setFlight e none) (λ_ V=>wpAny (model X.prog X.w) X.A (handleBy e X.env [.ExceptHandler (some (.Name Z aa)) none (b1::c) ac,.ExceptHandler (some (.Name x2 ad)) none (b2::d) al]) (SP X a D) X.xe V) X.xe U) X.xe s₁) (λC' _ C=>(C'=.ref S/\x D p C)\/(C'=.ref W/\y D p C)) a p:=by
  rintro H1 s1 e G I1⟨g,C',B,t,C,rfl,os,bare,un,hok,Y,a2,i,j⟩;have I1:=I1.unwish;have un:Un (kG X.stack) [] H1 C s1.heap G.heap:=un;have Y:Heap.FlyingW B X.stack g C' (.ref t) G.heap:=Y;have i:∀b o,s1.heap.get? b=some o->b∉kG X.stack->∃u,B.get? b=some u:=i;have bP:∀b∈kG X.stack,H1 b=none/\∀o,s1.heap.get? b=some o->∀vs,o.data≠.fields vs:=λb hb=>by refine⟨I1.stkFree b hb,λo e=>?_⟩;obtain⟨_,o',a3,hd⟩:=I1.stack.mem hb;rw[e]at a3;cases a3;exact hd
  have l:∀h5,B.StaysIn h5->G.heap.UpToSlots h5->aM X a p C {G with heap:=h5}:=λh5 k up=>I1.call' (s':={G with heap:=h5}) (ch:=[]) os (un.flown i Y.1 k up bP) (hok.flown a2 Y.1 k) bare λb z=>absurd z (by simp)
  show wpAny (model X.prog X.w) X.A (noteFrame (.ref g) X.env) _ X.xe G;have a5:=Y;rw[an]at a5;refine wpAny_looks_onW (outer:=X.outer) (by rw[I.ok.frames,an]) hf a5 λh4 J L=>?_;refine wpAny_landsW J λh5 r M=>?_;have R:=l h5 r.1 (L.trans M);obtain⟨bm,N,nm,q,bs,hd,sn,sub,ab,cC,dd,k0,k1,k2,k3,k5,mN,a6,hN,c0,T⟩:=a8.at I.mod.kin;obtain⟨b8,N',c1,q',c2,c3,c4,b9,da,cc,dc,di,dt,dv,dK,dT,dV,m,d1,ci,T'⟩:=bc.at I.mod.kin;obtain⟨ob,O,n⟩:=r.there;refine wpAny_handleBy_cons (codeAny_handlers_test (nD (R.inExc g) ba bb ?_ ap)) (by intro z;cases z);rcases j with⟨rfl,j⟩|⟨rfl,j⟩
  ·refine wpAny_excMatches_sub_self (R.bk _ _ a6) O n (T.hasType PySem.F.excBase_ValueError.hasBase) (codeAny_handlers_suite ?_);refine lands_againW r λh6 P Q=>?_;have I6:=l h6 P.1 ((L.trans M).trans Q);exact wpAny_mono (bp g a _ p C D (I6.inExc g) j) (λf s2 z=>z.outExc I.ok) λ_ _ z=>z.elim
  ·refine EK (R.bk _ _ m) (R.bk _ _ a6) O n (T.hasType PySem.F.excBase_ValueError.hasBase) ?_;obtain rfl:b8=bz:=mr.is I.mod.kin m rfl rfl;rw[bJ];refine wpAny_handleBy_cons (codeAny_handlers_test (nD (R.inExc g) bi bl ?_ as)) (by intro z;cases z);refine wpAny_excMatches_sub_self (R.bk _ _ m) O n (T'.hasType PySem.F.excBase_ValueError.hasBase) (codeAny_handlers_suite ?_);refine lands_againW r λh6 P Q=>?_;have I6:=l h6 P.1 ((L.trans M).trans Q);exact wpAny_mono (bt g a _ p C D (I6.inExc g) j) (λf s2 z=>z.outExc I.ok) λ_ _ z=>z.elim
 have b:=hb _ a p _ hp s H D (I.wish _) h;refine Ry (wpAny_mono b (λf s1 z=>?_) λ_ _ z=>z);have z:=z.unwish;cases f with|next=>exact Qn (Qn z)|ret v=>exact z|brk=>exact z|cont=>exact z
end L2
namespace L2
open PySem PySem.Spec PyProof.Rows PySem.W
section
variable{P:RR}{w:World}{A:Around}{E:RN}{s:Shared}
def D7{z h d j n t l:Addr}{L M:Nat}{Z ys:RU}{x y a b:Value}{Q:RN}(D:ZipApart z h d j n t l)(B:IsZip s.heap z h d .none)(p1:IsPair s.heap h (.ref j) (.ref n))(p2:IsPair s.heap d a b)(i1:s.heap.IsTupleIter j t L)(i2:s.heap.IsTupleIter n l M)(tt:s.heap.IsTuple t Z)(ll:s.heap.IsTuple l ys)(hx:Z[L]?=some x)(hy:ys[M]?=some y)(q:∀g,IsZip g z h d (rawInt s.heap.objs.size)->IsPair g d x y->g.IsTupleIter j t (L+1)->g.IsTupleIter n l (M+1)->IsPair g s.heap.objs.size x y->g.objs.size=s.heap.objs.size+1->BO z d j n s.heap g->Q (.ref s.heap.objs.size) {s with heap:=g}):wpAny (model P w) A (Builtin.«zip.__next__» ⟨[.ref z],[]⟩) (λfin s'=>∃v,fin=.done (.ret v)/\Q v s') E s:=by
 refine(show wpAny _ _ (field (.ref z) 2>>=_) _ _ _ from a_ (ri B rfl (x:=.bool false) rfl ?_));refine(show wpAny _ _ (field (.ref z) 3>>=_) _ _ _ from a_ (ri B rfl (x:=.ref h) rfl (a_ (rl p1 rfl ?_))));refine(show wpAny _ _ (Builtin.SmallTypes.ownedTupleIsFree (.ref z)>>=_) _ _ _ from a_ ?_);unfold Builtin.SmallTypes.ownedTupleIsFree;refine a_ (ri B rfl (x:=.none) rfl (e_ ?_));simp only[Rf];refine a_ (vu (a_ (ri B rfl (x:=.ref d) rfl (a_ (o_ B (by simp) λg1 O k=>?_)))))
 replace O:IsZip g1 z h d .ellipsis:=O
 refine a_ ?_;simp only[RA,RI,Qp,List.forIn_nil];refine a_ (a_ (QE (show wpAny _ _ (Builtin.SmallTypes.nextOf (.ref j)>>=_) _ _ _ from a_ (py (i1.extBut k.extBut D.i1z) (tt.extBut k.extBut D.l1z) hx λg2 R r=>e_ ?_))));have C:IsPair g2 d a b:=r.extBut _ _ D.TOi1 (k.extBut _ _ D.TOz p2);refine a_ (rl C rfl (a_ (Qk C λg3 m u=>?_)))
 replace m:IsPair g3 d x b:=m
 refine a_ (Q8 (e_ (a_ (a_ (QE ?_)))));refine(show wpAny _ _ (Builtin.SmallTypes.nextOf (.ref n)>>=_) _ _ _ from a_ (py (((i2.extBut k.extBut D.i2z).extBut r.extBut D.i12.symm).extBut u.extBut D.TOi2.symm) (((ll.extBut k.extBut D.l2z).extBut r.extBut D.l2i1).extBut u.extBut D.l2TO) hy λg4 S F=>e_ ?_))
 have G:IsPair g4 d x b:=F.extBut _ _ D.TOi2 m;refine a_ (rl G rfl (a_ (Qk G λf i H=>?_)))
 replace i:IsPair f d x y:=i
 refine a_ (Q8 (e_ (e_ (a_ (rl i rfl (a_ (wpAny_newTuple ?_)))))));have sz:f.objs.size=s.heap.objs.size:=by rw[H.1,F.1,u.1,r.1,k.1]
 have z5:IsZip f z h d .ellipsis:=H.extBut _ _ D.TOz.symm (F.extBut _ _ D.i2z.symm (u.extBut _ _ D.TOz.symm (r.extBut _ _ D.i1z.symm O)));have k5:BO z d j n s.heap f:=λc o p K T U e=>H.extBut _ _ K (F.extBut _ _ U (u.extBut _ _ K (r.extBut _ _ T (k.extBut _ _ p e))));have V:f.IsTupleIter j t (L+1):=((R.extBut u.extBut D.TOi1.symm).extBut F.extBut D.i12).extBut H.extBut D.TOi1.symm;have W:f.IsTupleIter n l (M+1):=S.extBut H.extBut D.TOi2.symm;have zl:z<f.objs.size:=ji z5;refine(show wpAny _ _ (Builtin.SmallTypes.ownedTupleHandOut (.ref z) (.ref f.objs.size)>>=_) _ _ _ from a_ ?_);unfold Builtin.SmallTypes.ownedTupleHandOut;have z6:IsZip (f.push {cls:=.type "tuple",data:=.seq #[x,y]}) z h d .ellipsis:=b_ _ z5;refine a_ (o_ z6 (by simp) λg7 X Y=>?_)
 replace X:IsZip g7 z h d (rawInt f.objs.size):=X
 refine o_ X (by simp) λI N s8=>?_
 replace N:IsZip I z h d (rawInt f.objs.size):=N
 have up:∀c ob,c≠z->f.get? c=some ob->I.get? c=some ob:=λc ob p e=>s8.extBut _ _ p (Y.extBut _ _ p (b_ _ e));have pn:IsPair I f.objs.size x y:=s8.extBut _ _ (oe zl) (Y.extBut _ _ (oe zl) (h_ _ rfl));have J:I.objs.size=f.objs.size+1:=by rw[s8.1,Y.1,n7]
 rw[sz]at N pn J;refine e_ ⟨_,rfl,(show Q (.ref f.objs.size) _ from ?_)⟩;rw[sz];exact q I N (up _ _ D.TOz i) (V.at λob e=>up _ ob D.i1z e) (W.at λob e=>up _ ob D.i2z e) pn J λc ob p K T U e=>up c ob p (k5 c ob p K T U e)
def D8(D:ZipApart z f c d e t l)(h:IsZip s.heap z f c .none)(p1:IsPair s.heap f (.ref d) (.ref e))(p2:IsPair s.heap c a b)(n:s.heap.IsTupleIter d t i)(o:s.heap.IsTupleIter e l j)(p:s.heap.IsTuple t r)(u:s.heap.IsTuple l v)(B:r[i]?=some x)(C:v[j]?=some y)(q:∀g,IsZip g z f c (rawInt s.heap.objs.size)->IsPair g c x y->g.IsTupleIter d t (i+1)->g.IsTupleIter e l (j+1)->IsPair g s.heap.objs.size x y->g.objs.size=s.heap.objs.size+1->BO z c d e s.heap g->Q (some (.ref s.heap.objs.size)) {s with heap:=g}):wpAny (model P w) A (pyNext (.ref z)) Q E s:=by have ty:s.TypeIs (.ref z) "zip":=⟨_,h,rfl⟩;unfold pyNext;refine a_ (Qi (pw (name:=Str.ofString "__next__") ty P7 (pv P7 ty RE (D7 D h p1 p2 n o p u B C λg a1 m G a4 H I J=>?_) (Rt _))));exact e_ (q g a1 m G a4 H I J)
abbrev O2(h:Heap)(t:Addr):Heap:=h.push {cls:=.type "tuple_iterator",data:=.fields #[.ref t,.int 0 0]}
abbrev O1(h:Heap)(t l:Addr):Heap:=(O2 h t).push {cls:=.type "tuple_iterator",data:=.fields #[.ref l,.int 0 0]}
abbrev O0(h:Heap)(t l:Addr):Heap:=(O1 h t l).push {cls:=.type "tuple",data:=.seq #[.ref h.objs.size,.ref (O2 h t).objs.size]}
abbrev OZ(h:Heap)(t l:Addr):Heap:=(O0 h t l).push {cls:=.type "tuple",data:=.seq #[.none,.none]}
abbrev Nl(h:Heap)(t l:Addr):Heap:=(OZ h t l).push {cls:=.type "zip",data:=.fields #[.none,.bool false,.bool false,.ref (O1 h t l).objs.size,.ref (O0 h t l).objs.size]}
def Cv(t l:Addr)(a b:RU):Meets (Builtin.«zip.__new__» ⟨[.type "zip",.ref t,.ref l],[]⟩) (λ_ R s=>s.heap.IsTuple t a/\s.heap.IsTuple l b/\R (.ok (.ret (.ref (OZ s.heap t l).objs.size))) {s with heap:=Nl s.heap t l}):=.of_wp λprog w A R s h=>by
  obtain⟨c,g,d,tk,os⟩:=s;obtain⟨h1,h2,h⟩:=h;have e:=sub_zip;have f:Heap.IsTuple (Shared.heap ⟨c,g,d,tk,os⟩) t a:=h1;have i:Heap.IsTuple (Shared.heap ⟨c.push {cls:=.type "tuple_iterator",data:=.fields #[.ref t,.int 0 0]},g,d,tk,os⟩) l b:=Heap.IsTuple.push h2 _
  wp_walk using y2 f,y2 i
  exact⟨_,rfl,h⟩
def Fn(h1:s.heap.IsTuple t n)(h2:s.heap.IsTuple l p)(q:∀g,IsZip g (s.heap.objs.size+4) (s.heap.objs.size+2) (s.heap.objs.size+3) .none->IsPair g (s.heap.objs.size+2) (.ref s.heap.objs.size) (.ref (s.heap.objs.size+1))->IsPair g (s.heap.objs.size+3) .none .none->g.IsTupleIter s.heap.objs.size t 0->g.IsTupleIter (s.heap.objs.size+1) l 0->(∀c o,s.heap.get? c=some o->g.get? c=some o)->Q (.ref (s.heap.objs.size+4)) {s with heap:=g}):wpAny (model P w) A (call (.type "zip") [.ref t,.ref l]) Q E s:=by
 refine callType_new F.called_zip (by decide) (F.typeCall_zip_2 _ _) (F.newCall_zip_2 _ _) (λob=>F.args_object_init_3 ob _ _) F.entry_zip_new (Cv t l n p) ⟨h1,h2,?_⟩;have a:(O2 s.heap t).objs.size=s.heap.objs.size+1:=n7 ..;have b:(O1 s.heap t l).objs.size=s.heap.objs.size+2:=by rw[n7,a]
 have e:(O0 s.heap t l).objs.size=s.heap.objs.size+3:=by rw[n7,b]
 have h:(OZ s.heap t l).objs.size=s.heap.objs.size+4:=by rw[n7,e]
 have f:(Nl s.heap t l).get? (OZ s.heap t l).objs.size=some _:=h_ _ rfl;have i:(Nl s.heap t l).get? (O0 s.heap t l).objs.size=some _:=b_ _ (h_ _ rfl);have j:(Nl s.heap t l).get? (O1 s.heap t l).objs.size=some _:=b_ _ (b_ _ (h_ _ rfl));have k:(Nl s.heap t l).get? (O2 s.heap t).objs.size=some _:=b_ _ (b_ _ (b_ _ (h_ _ rfl)));have m:(Nl s.heap t l).get? s.heap.objs.size=some _:=b_ _ (b_ _ (b_ _ (b_ _ (h_ _ rfl))));show _/\_;rw[b,e,h]at f;rw[a,b]at j;rw[e]at i;rw[a]at k;rw[h];exact⟨⟨_,f,rfl⟩,q _ f j i ⟨_,m,rfl,rfl⟩ ⟨_,k,rfl,rfl⟩ λc ob d=>b_ _ (b_ _ (b_ _ (b_ _ (b_ _ d))))⟩
end
def Lr(K:RM)(t l:Addr):It:=⟨λi H=>∃a b x y,aU K H t a/\aU K H l b/\a[i]?=some x/\b[i]?=some y,λi H v c=>∃T x y,H T=none/\v=.ref T/\c=aA H T (.tup [x,y])/\∀a b,aU K H t a->aU K H l b->a[i]?=some x/\b[i]?=some y,λi H=>∃a,aU K H t a/\a.length<=i⟩
def Ec{P:RR}{w:World}{K:RM}{J:RT}{x1:Nat}{R:Pos}{z j n q r t l:Addr}(D:ZipApart z j n q r t l):vY P w K (.Tuple J x1 R) (Lr K t l) [z,j,n,q,r] z (λi h=>IsZip h z j n .none/\IsPair h j (.ref q) (.ref r)/\(∃a b,IsPair h n a b)/\h.IsTupleIter q t i/\h.IsTupleIter r l i)where
 mem:=by simp
 obj:=λi h st b d=>by
  obtain⟨a1,m,⟨_,_,A⟩,⟨ad,a4,_,d4⟩,⟨al,C,_,d5⟩⟩:=st;simp only[ov,n0,to]at d;rcases d with rfl|rfl|rfl|rfl|rfl
  ·exact⟨_,a1,λv e=>by cases e⟩
  ·exact⟨_,m,λv e=>by cases e⟩
  ·exact⟨_,A,λv e=>by cases e⟩
  ·exact⟨_,a4,λv e=>by rw[d4]at e;cases e⟩
  ·exact⟨_,C,λv e=>by rw[d5]at e;cases e⟩
 keep:=λi h h' st k=>by obtain⟨a1,m,⟨a,b,A⟩,a4,C⟩:=st;exact⟨k z (by simp) _ a1,k j (by simp) _ m,⟨a,b,k n (by simp) _ A⟩,a4.at λob e=>k q (by simp) ob e,C.at λob e=>k r (by simp) ob e⟩
 item:=by
  intro X S T U hc i B s σ H E I Q st hg;subst S T U;obtain⟨xs,ys,x,y,L,M,V,hy⟩:=hg;obtain⟨F,Y,p,hz⟩:=I.tuple L;obtain⟨N,Z,p2,an⟩:=I.tuple M;obtain⟨u,hu,ru⟩:=Y.get V;obtain⟨u2,aa,ac⟩:=Z.get hy;obtain⟨a1,m,⟨a,b,A⟩,a4,C⟩:=st;refine D8 D a1 m A a4 C (show s.heap.IsTuple t F.toArray from p) (show s.heap.IsTuple l N.toArray from p2) (x:=u) (y:=u2) (by simpa using hu) (by simpa using aa) λg b1 b2 b3 b4 b5 b6 off=>?_;refine⟨_,rfl,wpAny_letOwnedTupleGo_zip b1 λg' c1 G=>?_⟩;have lt:∀c∈[z,j,n,q,r],c≠s.heap.objs.size:=λc O e=>by
   have hs:∃ob,s.heap.get? c=some ob:=by
    simp only[ov,n0,to]at O;rcases O with rfl|rfl|rfl|rfl|rfl
    ·exact⟨_,a1⟩
    ·exact⟨_,m⟩
    ·exact⟨_,A⟩
    ·obtain⟨ob,e,_⟩:=a4;exact⟨ob,e⟩
    ·obtain⟨ob,e,_⟩:=C;exact⟨ob,e⟩
   obtain⟨ob,h⟩:=hs;rw[e]at h;exact absurd (ji h) (q4 _)
  have fresh:H s.heap.objs.size=none:=I.hok.fresh (g_ _);have I1:aM X B σ (aA H s.heap.objs.size (.tup [x,y])) {s with heap:=s.heap.push {cls:=.type "tuple",data:=.seq #[u,u2]},toks:=s.toks}:=I.laid (λb o e=>b_ _ e) (g_ _) ⟨by rw[k4];simp,[u,u2],.cons ru (.cons ac .nil),⟨_,h_ _ rfl,rfl,_,rfl⟩⟩
  have I2:=gM (h':=g') (t':=s.toks) (ch:=[z,j,n,q,r]) I1 (λb o d e=>?_) (λb d=>?_)
  ·refine⟨.ref s.heap.objs.size,_,I2,rfl,⟨_,x,y,fresh,rfl,rfl,λap as h1 h2=>⟨by rw[I.tuple_inj h1 L];exact V,by rw[I.tuple_inj h2 M];exact hy⟩⟩,⟨c1,G.extBut _ _ D.TIz (off _ _ D.TIz D.TITO D.TIi1 D.TIi2 m),⟨_,_,G.extBut _ _ D.TOz b2⟩,b3.extBut G.extBut D.i1z,b4.extBut G.extBut D.i2z⟩,λb d=>?_⟩;rw[ao (lt b d)];exact(Q b d).1
  ·have f:b≠z/\b≠j/\b≠n/\b≠q/\b≠r:=by simpa using d
   by_cases eb:b=s.heap.objs.size
   ·subst eb;rw[h_ _ rfl]at e;cases e;exact G.extBut _ _ f.1 b5
   ·have e':s.heap.get? b=some o:=by
     rcases L_ e with⟨z2,_⟩|e2
     ·exact absurd z2 eb
     ·exact e2
    exact G.extBut _ _ f.1 (off b o f.1 f.2.2.1 f.2.2.2.1 f.2.2.2.2 e')
  ·obtain⟨f0,f1⟩:=Q b d;exact⟨by rw[ao (lt b d)];exact f0,f1⟩
 done:=by
  intro X S T U hc i B s σ H E I Q st hg;subst S T U;obtain⟨xs,hq,V⟩:=hg;obtain⟨F,Y,p,hz⟩:=I.tuple hq;have hl:=Y.length;obtain⟨a1,m,⟨a,b,A⟩,a4,C⟩:=st;refine Ab (I.ok.hd hc) D a1 m A a4 (show s.heap.IsTuple t F.toArray from p) (by simp;lia) λg off=>⟨rfl,gM (t':=s.toks) (ch:=[z,j,n,q,r]) I (λb o d e=>?_) Q⟩;have f:b≠z/\b≠j/\b≠n/\b≠q/\b≠r:=by simpa using d
  exact off b o f.1 f.2.2.1 f.2.2.2.1 f.2.2.2.2 e
 self:=λ_ _ _ _ _ st h=>QJ st.1 h
section
variable{X:Cx}{c:Expr}
def OD(K:RM)(d:TA):TI:=λe H R=>d e H λf a=>∃t l g b,f=[.ref t,.ref l]/\aU K a t g/\((aW K a l b/\R (Lq K t l) a)\/(aU K a l b/\R (Lr K t l) a))
def Dx(K:RM)(S:X.K=K){n:RT}{T:Nat}{o:Pos}{a b:Expr}{P:TA}{p r:Pos}(hg:Gl X "zip")(hm:X.mg "zip"=none)(Z:PA X [a,b] P)(hs:starEach [a,b] X.env=[(false,eval a X.env),(false,eval b X.env)]:=by rfl)(w:starEach [b] X.env=[(false,eval b X.env)]:=by rfl):PI X (.Tuple n T o) (.Call (.Name "zip" p) [a,b] [] r) (OD K P):=by
 subst S;intro i s U H R I h;refine t1 (lV I hg hm ID (wr (cw (Z r i s U H _ I h) λus d⟨vs,z,I1,V,A⟩=>?_) (by rw[hs,w]) (by rw[w];rfl)));obtain⟨t,l,xs,ys,e,B,A⟩:=A;subst e;obtain⟨u,v,rfl,rt,Y⟩:=xF V;obtain rfl:u=Value.ref t:=rt;obtain rfl:v=Value.ref l:=Y;obtain⟨m,rv,pl,hz⟩:=I1.tuple B;obtain⟨o1,O,_⟩:=id pl;have fp:∀b∈[d.heap.objs.size+4,d.heap.objs.size+2,d.heap.objs.size+3,d.heap.objs.size,d.heap.objs.size+1],we X i z b:=λb Q=>by
  have x:d.heap.objs.size<=b:=by
   simp only[ov,n0,to]at Q;rcases Q with rfl|rfl|rfl|rfl|rfl
   ·exact Qg _ _
   ·exact Qg _ _
   ·exact Qg _ _
   ·exact g_ _
   ·exact Qg _ _
  exact I1.fpOk x (I1.hok.fresh x)
 rcases A with⟨k,q⟩|⟨k,q⟩
 ·obtain⟨j,C,f,E⟩:=I1.list k;obtain⟨o2,n2,F,_⟩:=id f;have D:=ktu_apart d.heap.objs.size t l (ji O) (ji F);refine Fo (show d.heap.IsTuple t m.toArray from pl) f.isList λg y G J L M N=>?_;exact QJ y ⟨_,[d.heap.objs.size+4,d.heap.objs.size+2,d.heap.objs.size+3,d.heap.objs.size,d.heap.objs.size+1],_,_,z,rfl,I1.kept (t':=d.toks) N,FS D,⟨y,G,⟨_,_,J⟩,L,M⟩,fp,q⟩
 ·obtain⟨j,C,f,E⟩:=I1.tuple k;obtain⟨o2,F,_⟩:=id f;have D:=ktu_apart d.heap.objs.size t l (ji O) (ji F);refine Fn (show d.heap.IsTuple t m.toArray from pl) (show d.heap.IsTuple l j.toArray from f) λg y G J L M N=>?_;exact QJ y ⟨_,[d.heap.objs.size+4,d.heap.objs.size+2,d.heap.objs.size+3,d.heap.objs.size,d.heap.objs.size+1],_,_,z,rfl,I1.kept (t':=d.toks) N,Ec D,⟨y,G,⟨_,_,J⟩,L,M⟩,fp,q⟩
def Fm{K:RM}{a l:Addr}{h o:List V}{g:TG}{ds:RV}{k:Nat}{tc:TT}{te:TE}{z:St}{A:Hp}{D:Addr}{F:Hp->Prop}(Pv:Nat->List V->Hp->Prop)(h0:Pv 0 [] (aA A D (.lst [])))(C:h.length=o.length)(E:∀i d f,i<=h.length->Pv i d f->aU K f a h/\aU K f l o)(G:∀i x y d f T,h[i]?=some x->o[i]?=some y->Pv i d f->f T=none->g (.ref T) (fT ds k z) (aA f T (.tup [x,y])) λj u=>tc j u λb r=>if b=true then te j r λy s=>s D=some (.lst d)/\d.length<sizeLine/\∃n,n<h.length-i/\n=h.length-(i+1)/\i+1<=h.length/\Pv (i+1) (d++[y]) (aA s D (.lst (d++[y])))else∃n,n<h.length-i/\n=h.length-(i+1)/\i+1<=h.length/\Pv (i+1) d r)(hd:∀d f,Pv h.length d f->F f):∃W:Nat->Nat->List V->Hp->Prop,(∃m,W 0 m [] (aA A D (.lst [])))/\∀i m d f,W i m d f->((Lr K a l).stop i f/\F f)\/((Lr K a l).go i f/\∀x v,(Lr K a l).yld i f x v->g x (fT ds k z) v λj u=>tc j u λb r=>if b=true then te j r λy s=>s D=some (.lst d)/\d.length<sizeLine/\∃n,n<m/\W (i+1) n (d++[y]) (aA s D (.lst (d++[y])))else∃n,n<m/\W (i+1) n d r):=by
 refine⟨λi m d f=>m=h.length-i/\i<=h.length/\Pv i d f,⟨_,rfl,ng _,h0⟩,?_⟩;rintro i m d f⟨rfl,hi,p⟩;obtain⟨q,B⟩:=E i d f hi p
 by_cases w:i<h.length
 ·have t:i<o.length:=by lia
  refine .inr ⟨⟨h,o,h[i],o[i],q,B,by simp[w],by simp[t]⟩,λx v y=>?_⟩;obtain⟨T,H,I,J,e,L,y⟩:=y;subst e L;obtain⟨M,N⟩:=y h o q B;exact G i H I d _ T M N p J
 ·have e:i=h.length:=by lia
  subst e;exact .inl ⟨⟨h,q,g_ _⟩,hd d f p⟩
end
end L2
namespace L2
open PySem PySem.Spec PyProof.Rows PySem.W
def Ig(hh:A.handled=none)(b t:Addr)(ne:t≠b)(a:RU):Draws P w A b [b,t] a.size (λi v=>a[i]?=some v) (λi h=>h.IsTupleIter b t i/\h.IsTuple t a)where
 live:=λ_ _ st=>let⟨o,e,_⟩:=st.1;⟨o,e⟩
 frame:=λ_ _ _ st k=>⟨st.1.at λo e=>k b (by simp) o e,st.2.at λo e=>k t (by simp) o e⟩
 item:=λi s Q E hi st q=>py st.1 st.2 (v:=a[i]) (by simp[hi]) λg d c=>q _ g s.toks (by simp[hi]) ⟨d,st.2.extBut c.extBut ne⟩ c
 done:=λs Q E st q=>Af hh st.1 st.2 (by simp) q
def Bf(t:Addr)(a:RU)(n:Nat)(f:Option Addr)(sl:Array (Option Value)):Meets (Builtin.«enumerate.__new__» ⟨[.type "enumerate",.ref t],[]⟩) (λ_ R s=>s.heap.get? t=some {cls:=.type "tuple",dict:=f,data:=.seq a n,slots:=sl}/\R (.ok (.ret (.ref (Jb s.heap t).objs.size))) {s with heap:=(Jb s.heap t).push {cls:=.type "enumerate",data:=.fields #[.none,.bool false,.ref s.heap.objs.size,rawInt 0,.none,.none]}}):=.of_wp λprog w A R s h=>by
  obtain⟨i,g,d,tk,os⟩:=s;obtain⟨b,h⟩:=h;have f1:=sub_enumerate;have e:Heap.IsTuple (Shared.heap ⟨i,g,d,tk,os⟩) t a:=⟨_,b,rfl,n,rfl⟩
  wp_walk using QI b
  refine wpAny_stack_any λst=>e_ ?_
  split
  ·rename_i c _ _ _ _ _;cases(c==Value.type "enumerate")<;>(wp_walk using QI b,y2 e)<;>exact⟨_,rfl,h⟩
  ·wp_walk using QI b,y2 e
   exact⟨_,rfl,h⟩
def Di(i:s.heap.IsTuple t a)(q:∀g,IsEnum g (s.heap.objs.size+1) s.heap.objs.size 0 .none->g.IsTupleIter s.heap.objs.size t 0->(∀b o,s.heap.get? b=some o->g.get? b=some o)->Q (.ref (s.heap.objs.size+1)) {s with heap:=g}):wpAny (model P w) A (call (.type "enumerate") [.ref t]) Q E s:=by
 obtain⟨⟨c,j,l,sl⟩,k,d,n,e⟩:=i;simp only at d e;subst d e;refine callType_new F.called_enumerate (by decide) (F.typeCall_enumerate_1 _) (F.newCall_enumerate_1 _) (λob=>F.args_object_init_2 ob _) F.entry_enumerate_new (Bf t a n j sl) ⟨k,?_⟩;have f:(Jb s.heap t).objs.size=s.heap.objs.size+1:=n7 ..;show _/\_;rw[f];have h:IsEnum ((Jb s.heap t).push {cls:=.type "enumerate",data:=.fields #[.none,.bool false,.ref s.heap.objs.size,rawInt 0,.none,.none]}) (s.heap.objs.size+1) s.heap.objs.size 0 .none:=by have z:=h_ (Jb s.heap t) (o:={cls:=.type "enumerate",data:=.fields #[.none,.bool false,.ref s.heap.objs.size,rawInt 0,.none,.none]}) rfl;rw[f]at z;exact z
 exact⟨⟨_,h,rfl⟩,q _ h ⟨_,b_ _ (h_ _ rfl),rfl,rfl⟩ λb o x=>b_ _ (b_ _ x)⟩
def Ite(K:RM)(t:Addr):It:=⟨λi H=>∃a x,aU K H t a/\a[i]?=some x,λi H v b=>∃T x,H T=none/\v=.ref T/\b=aA H T (.tup [.int i,x])/\∀a,aU K H t a->a[i]?=some x,λi H=>∃a,aU K H t a/\a.length=i⟩
def Eg{P:RR}{w:World}{K:RM}{r:RT}{Z:Nat}{F:Pos}{e a t:Addr}(n1:e≠a)(n2:t≠a)(n3:t≠e):vY P w K (.Tuple r Z F) (Ite K t) [e,a] e (λi h=>(∃d,IsEnum h e a i d)/\h.IsTupleIter a t i)where
 mem:=by simp
 obj:=λi h st b j=>by
  obtain⟨⟨_,a1⟩,ob,l,_,V⟩:=st;simp only[ov,n0,to]at j;rcases j with rfl|rfl
  ·exact⟨_,a1,λv z=>by cases z⟩
  ·exact⟨_,l,λv z=>by rw[V]at z;cases z⟩
 keep:=λi h h' st k=>by obtain⟨⟨d,a1⟩,l⟩:=st;exact⟨⟨d,k e (by simp) _ a1⟩,l.at λob z=>k a (by simp) ob z⟩
 item:=by
  intro X G J L hc i m s R H E I B st hg;subst G J L;obtain⟨Y,x,C,S⟩:=hg;obtain⟨f,M,p,hz⟩:=I.tuple C;obtain⟨u,T,ru⟩:=M.get S;obtain⟨⟨d,a1⟩,l⟩:=st;have hi:i<f.toArray.size:=by rw[lh];exact(d_.mp T).1
  have n:X.A.in1.handled=none:=by simp[I.ok.hd hc]
  refine wpAny_pyNext_enum_itemD (Ig n a t n2 f.toArray) a1 ⟨l,p⟩ hi n1 (by simp[n1,ol n3]) λv g tk D b1 b2 b3 b4 off=>?_;have ev:v=u:=by have D:f.toArray[i]?=some v:=D;rw[Q6,T]at D;exact(k_ D).symm
  subst ev;refine⟨_,rfl,wpAny_letOwnedTupleGo_enum b1 λg' c1 N=>?_⟩;have lt:∀c∈[e,a],c≠s.heap.objs.size:=λc y z=>by
   have hs:∃ob,s.heap.get? c=some ob:=by
    simp only[ov,n0,to]at y;rcases y with rfl|rfl
    ·exact⟨_,a1⟩
    ·obtain⟨ob,z,_⟩:=l;exact⟨ob,z⟩
   obtain⟨ob,h⟩:=hs;rw[z]at h;exact absurd (ji h) (q4 _)
  have fresh:H s.heap.objs.size=none:=I.hok.fresh (g_ _);have I1:aM X m R (aA H s.heap.objs.size (.tup [.int i,x])) {s with heap:=s.heap.push {cls:=.type "tuple",data:=.seq #[.int i tk,v]},toks:=tk+1}:=I.laid (λb o z=>b_ _ z) (g_ _) ⟨by rw[k4];simp,[.int i tk,v],.cons ⟨tk,rfl⟩ (.cons ru .nil),⟨_,h_ _ rfl,rfl,_,rfl⟩⟩
  have I2:=gM (h':=g') (t':=tk+1) (ch:=[e,a]) I1 (λb o j z=>?_) (λb j=>?_)
  ·refine⟨.ref s.heap.objs.size,_,I2,rfl,⟨_,x,fresh,rfl,rfl,λaa h1=>by rw[I.tuple_inj h1 C];exact S⟩,⟨⟨_,by simpa using c1⟩,b2.1.extBut N.extBut (ol n1)⟩,λb j=>?_⟩;rw[ao (lt b j)];exact(B b j).1
  ·have q:b≠e/\b≠a:=by simpa using j
   by_cases U:b=s.heap.objs.size
   ·subst U;rw[h_ _ rfl]at z;cases z;exact N.extBut _ _ q.1 b3
   ·have z':s.heap.get? b=some o:=by
     rcases L_ z with⟨O,_⟩|O
     ·exact absurd O U
     ·exact O
    exact N.extBut _ _ q.1 (off b o q.1 q.2 z')
  ·obtain⟨f0,f1⟩:=B b j;exact⟨by rw[ao (lt b j)];exact f0,f1⟩
 done:=by
  intro X G J L hc i m s R H E I B st hg;subst G J L;obtain⟨Y,C,rfl⟩:=hg;obtain⟨f,M,p,hz⟩:=I.tuple C;have hl:=M.length;obtain⟨⟨d,a1⟩,l⟩:=st;have n:X.A.in1.handled=none:=by simp[I.ok.hd hc]
  have Q:s.heap.IsTupleIter a t f.toArray.size:=by rw[lh,<-hl];exact l
  refine wpAny_pyNext_enum_endD (Ig n a t n2 f.toArray) a1 ⟨Q,p⟩ λg off=>⟨rfl,gM (t':=s.toks) (ch:=[e,a]) I (λb o j z=>?_) B⟩;have q:b≠e/\b≠a:=by simpa using j
  exact off b o q.2 z
 self:=λ_ _ _ _ _ st h=>by obtain⟨⟨d,a1⟩,_⟩:=st;exact wpAny_pyIter_enum a1 h
section
variable{X:Cx}
def OJ(K:RM)(b:TA):TI:=λc H R=>b c H λd a=>∃t e,d=[.ref t]/\aU K a t e/\R (Ite K t) a
def JZ(K:RM)(r:X.K=K){c:RT}{v:Nat}{d:Pos}{a:Expr}{n:TA}{p f:Pos}(hg:Gl X "enumerate")(hm:X.mg "enumerate"=none)(w:PA X [a] n)(x:starEach [a] X.env=[(false,eval a X.env)]:=by rfl):PI X (.Tuple c v d) (.Call (.Name "enumerate" p) [a] [] f) (OJ K n):=by
 subst r;intro i s y H R I h;refine t1 (lV I hg hm L2.vU (wr (cw (w f i s y H _ I h) λG j⟨J,z,I1,A,B⟩=>?_) (by rw[x];rfl) (by rfl)));obtain⟨t,L,e,C,q⟩:=B;subst e;obtain⟨u,rfl,rt⟩:=jU A;obtain rfl:u=Value.ref t:=rt;obtain⟨l,M,pl,N⟩:=I1.tuple C;obtain⟨O,D,_⟩:=id pl;have lt:=ji D;refine Di (show j.heap.IsTuple t l.toArray from pl) λg m E F=>?_;refine wpAny_pyIter_enum m ⟨_,[j.heap.objs.size+1,j.heap.objs.size],_,_,z,rfl,I1.kept (t':=j.toks) F,Eg (t:=t) (oe (rm _)) (lm lt) (lm (rx lt)),⟨⟨_,m⟩,E⟩,λb o=>?_,q⟩;have k:j.heap.objs.size<=b:=by
  simp only[ov,n0,to]at o;rcases o with rfl|rfl
  ·exact Qg _ _
  ·exact g_ _
 exact I1.fpOk k (I1.hok.fresh k)
end
end L2
namespace L2
open PySem PySem.Spec PyProof.Rows PySem.W
section
variable{X:Cx}
end
def yk{K:RM}{a l:Addr}{xs ys:List V}{g:TG}{ds:RV}{k:Nat}{tc:TT}{te:TE}{v:St}{h:Hp}{F:Addr->Hp->Prop}(Pv:Addr->Nat->List V->Hp->Prop)(o:aW K h l ys\/aU K h l ys)(h0:∀D,h D=none->Pv D 0 [] (aA h D (.lst [])))(r:xs.length=ys.length)(u:∀D i c d,Pv D i c d->aU K d a xs/\aq h d)(B:∀D i x y c d T,h D=none->xs[i]?=some x->ys[i]?=some y->Pv D i c d->d T=none->g (.ref T) (fT ds k v) (aA d T (.tup [x,y])) λe s=>tc e s λb j=>if b=true then te e j λy n=>n D=some (.lst c)/\c.length<sizeLine/\∃f,f<xs.length-i/\f=xs.length-(i+1)/\i+1<=xs.length/\Pv D (i+1) (c++[y]) (aA n D (.lst (c++[y])))else∃f,f<xs.length-i/\f=xs.length-(i+1)/\i+1<=xs.length/\Pv D (i+1) c j)(hd:∀D c d,h D=none->Pv D xs.length c d->F D d):(aW K h l ys/\∀D,h D=none->∃W:Nat->Nat->List V->Hp->Prop,(∃m,W 0 m [] (aA h D (.lst [])))/\∀i m c d,W i m c d->((Lq K a l).stop i d/\F D d)\/((Lq K a l).go i d/\∀x t,(Lq K a l).yld i d x t->g x (fT ds k v) t λe s=>tc e s λb j=>if b=true then te e j λy n=>n D=some (.lst c)/\c.length<sizeLine/\∃f,f<m/\W (i+1) f (c++[y]) (aA n D (.lst (c++[y])))else∃f,f<m/\W (i+1) f c j))\/(aU K h l ys/\∀D,h D=none->∃W:Nat->Nat->List V->Hp->Prop,(∃m,W 0 m [] (aA h D (.lst [])))/\∀i m c d,W i m c d->((Lr K a l).stop i d/\F D d)\/((Lr K a l).go i d/\∀x t,(Lr K a l).yld i d x t->g x (fT ds k v) t λe s=>tc e s λb j=>if b=true then te e j λy n=>n D=some (.lst c)/\c.length<sizeLine/\∃f,f<m/\W (i+1) f (c++[y]) (aA n D (.lst (c++[y])))else∃f,f<m/\W (i+1) f c j)):=by
 rcases o with o|o
 ·exact .inl ⟨o,λD q=>Iv (Pv D) (h0 D q) r (λi c d _ p=>⟨(u D i c d p).1,(u D i c d p).2.seq o⟩) (λi x y c d T w z p A=>B D i x y c d T q w z p A) λc d p=>hd D c d q p⟩
 ·exact .inr ⟨o,λD q=>Fm (Pv D) (h0 D q) r (λi c d _ p=>⟨(u D i c d p).1,aq.tseq (u D i c d p).2 o⟩) (λi x y c d T w z p A=>B D i x y c d T q w z p A) λc d p=>hd D c d q p⟩
end L2
namespace L2
open PySem PySem.Spec PyProof.Rows PySem.W
def Iti(P:RR)(w:World)(d:Addr)(a:List (b0×V))(b:Nat):It:=⟨λi H=>H d=some (dE P w d a b)/\i<a.length,λi H x c=>∃T k v,H T=none/\x=.ref T/\c=aA H T (.tup [kV k,v])/\a[i]?=some (k,v),λi H=>H d=some (dE P w d a b)/\a.length<=i⟩
def B7{P:RR}{w:World}{K:RM}{l:RT}{R:Nat}{t:Pos}(d f:Addr)(a:List (b0×V))(J:Nat):vY P w K (.Tuple l R t) (Iti P w d a J) [f] f (λi h=>∃ok n,IsItemIter h f d i a.length J ok n)where
 mem:=by simp
 obj:=λi h st b g=>by
  have e:b=f:=by simpa using g
  subst e;obtain⟨_,_,e⟩:=st;exact⟨_,e,λv z=>by cases z⟩
 keep:=λi h h'⟨ok,n,e⟩k=>⟨ok,n,k f (by simp) _ e⟩
 item:=by
  intro X x y A hc i j s L H E I p st hg;subst x y A;obtain⟨hd,hi⟩:=hg;obtain⟨⟨_,B,q,C⟩,_⟩:=I.hok d _ hd;have c:a.length=B.length:=Paired.length q;have M:a[i]?=some a[i]:=f_ hi;obtain⟨u,S,ru⟩:=zr q i a[i].1 a[i].2 M;obtain⟨ok,n,st⟩:=st;have lt:f<s.heap.objs.size:=ji st;rw[c]at st;refine wpAny_pyNext_items_item st C S λm h' T out U hz Y=>?_;refine⟨_,rfl,wpAny_letOwnedTupleGo_items out λZ N O=>?_⟩;rw[<-c]at N;have fresh:H s.heap.objs.size=none:=I.hok.fresh (g_ _);have I1:aM X j L (aA H s.heap.objs.size (.tup [kV a[i].1,a[i].2])) {s with heap:=s.heap.push {cls:=.type "tuple",data:=.seq #[m,u]}}:=I.laid (t':=s.toks) (λb o z=>b_ _ z) (g_ _) ⟨by rw[k4];simp,[m,u],.cons (DG T) (.cons ru .nil),⟨_,h_ _ rfl,rfl,_,rfl⟩⟩
  have I2:=gM (h':=Z) (t':=s.toks) (ch:=[f]) I1 (λb o g z=>?_) (λb g=>?_)
  ·refine⟨.ref s.heap.objs.size,_,I2,rfl,⟨_,a[i].1,a[i].2,fresh,rfl,rfl,M⟩,⟨_,_,N⟩,λb g=>?_⟩;have e:b=f:=by simpa using g
   subst e;rw[ao (lm lt)];exact(p b g).1
  ·have D:b≠f:=by simpa using g
   by_cases r:b=s.heap.objs.size
   ·subst r;rw[h_ _ rfl]at z;cases z;exact O.extBut _ _ D U
   ·have z':s.heap.get? b=some o:=by
     rcases L_ z with⟨F,_⟩|F
     ·exact absurd F r
     ·exact F
    exact O.extBut _ _ D (Y b o D z')
  ·have e:b=f:=by simpa using g
   subst e;obtain⟨G,f1⟩:=p b g;exact⟨by rw[ao (lm lt)];exact G,f1⟩
 done:=by intro X x y A hc i j s L H E I p st hg;subst x y A;obtain⟨hd,hi⟩:=hg;obtain⟨⟨_,B,q,C⟩,_⟩:=I.hok d _ hd;have c:a.length=B.length:=Paired.length q;obtain⟨G,f1,f2,f3,f4,f5⟩:=p f (by simp);obtain⟨ok,n,st⟩:=st;rw[c]at st;exact wpAny_pyNext_items_end (I.ok.hd hc) st C (np (by omega)) λh' r=>⟨rfl,I.turned (t':=s.toks) (λb o g e=>r b o g e) G f1 f3 f4 f5⟩
 self:=λ_ _ _ _ _ st h=>by obtain⟨_,_,st⟩:=st;exact kcp_self st h
section
variable{X:Cx}{P:RR}{w:World}{o:Expr}{i:TE}{a c f:Pos}{g:RT}{j:Nat}
def MN(P:RR)(w:World)(i:TE):TI:=λk H R=>i k H λx e=>∃d b,x=.ref d/\e d=some (.dK b)/\∀h,R (Iti P w d b h) (aA e d (dE P w d b h))
def AG(C:PE X o i)(D:X.prog=P:=by rfl)(E:X.w=w:=by rfl)(l:attributeBase o "items" X.env (eval o X.env)=eval o X.env:=by rfl)(n:(a.endLine==c.line)=true:=by rfl):PI X (.Tuple g j f) (.Call (.Attribute o "items" a) [] [] c) (MN P w i):=by
 subst D E;intro m s G H R I h;refine wpAny_Call_method0_late l n (cw (C m s G H _ I h) λv k⟨x,T,I1,J,d,p,e,hd,q⟩=>?_);subst e;obtain rfl:v=Value.ref d:=J;obtain⟨A,B,K,r,L,M⟩:=I1.walk hd;have t:p.length=B.length:=Paired.length K;obtain⟨ob,U,u,N,_⟩:=id r;refine⟨"dict","dict.items",PySem.F.plainAttrs_dict,PySem.F.slot_dict_items,PySem.F.type_dict_items,r.dictOf.typeIs,?_,r4 rfl (PySem.evalArgs_none (C_ PySem.F.slot_dict_items r.dictOf.typeIs PySem.F.entry_dict_items (PySem.F.args_dict_items_1 _) (meets_dict_items (aL X.prog X.w) d L) ⟨⟨B,r.dictOf⟩,?_⟩))⟩
 ·intro b z;cases z;exact⟨ob,u,N.2.1⟩
 ·have O:(k.heap.push {cls:=.type "dict_items",data:=.fields #[.ref d]}).IsItemsView k.heap.objs.size d:=⟨_,h_ _ rfl,rfl,rfl⟩;show wpAny _ _ (pyIter (.ref k.heap.objs.size)) _ _ _;have y:=M.kept (h':=k.heap.push {cls:=.type "dict_items",data:=.fields #[.ref d]}) (t':=k.toks) λb o e=>b_ _ e;refine wpAny_pyIter_items (s:={k with heap:=k.heap.push {cls:=.type "dict_items",data:=.fields #[.ref d]}}) O (r.push _) ?_;refine⟨_,[(k.heap.push {cls:=.type "dict_items",data:=.fields #[.ref d]}).objs.size],_,_,_,rfl,y.kept (t':=k.toks) λb o e=>b_ _ e,B7 d _ p A,⟨_,_,by rw[t];exact h_ _ rfl⟩,λb S=>?_,q A⟩;have e:b=(k.heap.push {cls:=.type "dict_items",data:=.fields #[.ref d]}).objs.size:=by simpa using S
  subst e;exact y.fpOk (g_ _) (y.hok.fresh (g_ _))
end
end L2
namespace L2
open PySem PySem.Spec PyProof.Rows PySem.W
def qH(n:Nat){c:Type}(R:c->Prop):KasT c->Prop|.ret a=>R a|.ask i j k=>i<n/\j<n/\∀b,qH n R (k b)
theorem qH.bind{n:Nat}{c d:Type}{R:c->Prop}{S:d->Prop}{f:c->KasT d}(e:∀a,R a->qH n S (f a)):∀{t:KasT c},qH n R t->qH n S (t.bind f)|.ret a,h=>e a h|.ask i j k,h=>⟨h.1,h.2.1,λb=>qH.bind e (h.2.2 b)⟩
theorem qH.wp{n:Nat}{d:Type}{R:d->Prop}{c:Nat->Nat->(Bool->Shared->Prop)->Shared->Prop}{Q:d->Shared->Prop}{s:Shared}(hc:∀i j C,i<n->j<n->(∀b,C b s)->c i j C s)(e:∀a,R a->Q a s):∀{t:KasT d},qH n R t->t.kasWp c Q s|.ret a,h=>e a h|.ask i j k,h=>hc i j _ h.1 h.2.1 λb=>qH.wp hc e (h.2.2 b)
def PR(n:Nat)(p:Array Nat):Prop:=p.toList.Perm (List.range n)
def PR.lt(h:PR n p)(hn:0<n)(k:Nat):p.getD k 0<n:=by
 by_cases a:k<p.size
 ·have e:p.getD k 0=p[k]:=by simp[Array.getD,a]
  rw[e];exact si.mp (h.mem_iff.mp (Array.mem_toList_iff.mpr (Array.getElem_mem a)))
 ·have e:p.getD k 0=0:=by simp[Array.getD,a]
  rw[e];exact hn
def PR.rev(h:PR n p)(i j:Nat):PR n (kas_rev p i j):=(mirror_perm p i j _).toList.trans h
section
variable{n:Nat}(hn:0<n)
include hn
theorem zt(h:PR n p):∀f m,qH n (λ_=>True) (kas_asc p f m)|0,_=>trivial|f+1,m=>⟨h.lt hn _,h.lt hn _,λb=>by cases b with|true=>exact trivial|false=>exact zt h f (m+1)⟩
theorem qb:∀(f:Nat){p:Array Nat}(m q:Nat),PR n p->qH n (λr:Array Nat×Nat×Nat=>PR n r.1) (kas_desc f p m q)|0,_,_,_,h=>h|f+1,p,m,q,h=>⟨h.lt hn _,h.lt hn _,λb=>by
 cases b with|true=>
   show qH n _ (if q>0 then _ else _)
   split
   ·exact qb f _ _ (h.rev _ _)
   ·exact qb f _ _ h|false=>refine⟨h.lt hn _,h.lt hn _,λd=>?_⟩;cases d with|true=>exact h|false=>exact qb f _ _ h⟩
def Bo{p:Array Nat}(m r:Nat)(h:PR n p):qH n (λr:Nat×Array Nat=>PR n r.2) (kas_tail3 m r p):=qH.bind (S:=λr:Nat×Array Nat=>PR n r.2) (f:=λa=>.ret (a,kas_rev p 0 m)) (λ_ _=>h.rev _ _) (zt hn (h.rev _ _) _ _)
def Bp{p:Array Nat}(m r:Nat)(h:PR n p):qH n (λr:Nat×Array Nat=>PR n r.2) (kas_descPart m r p):=qH.bind (λa b=>by
 show qH n _ (if a.2.2>0 then _ else _)
 split
 ·exact Bo hn _ _ (b.rev _ _)
 ·exact Bo hn _ _ b) (qb hn _ _ _ h)
def EX{p:Array Nat}(r:Nat)(h:PR n p):qH n (λr:Nat×Array Nat=>PR n r.2) (kas_count r p):=qH.bind (λm _=>by
 show qH n _ (if(m==r)=true then _ else _)
 split
 ·exact h
 ·split
  ·refine⟨h.lt hn _,h.lt hn _,λc=>?_⟩;cases c with|true=>exact h|false=>exact Bp hn _ _ (h.rev _ _)
  ·exact Bp hn _ _ h) (zt hn h _ _)
theorem rY{p:Array Nat}(h:PR n p)(k:Nat):∀f l r,qH n (λ_=>True) (kas_place p k f l r)
 |0,_,_=>trivial|f+1,l,r=>by
  show qH n _ (if l>=r then _ else _)
  split
  ·exact trivial
  ·refine⟨h.lt hn _,h.lt hn _,λc=>?_⟩;cases c with|true=>exact rY h k f _ _|false=>exact rY h k f _ _
theorem DL:∀(f:Nat){p:Array Nat}(k:Nat),PR n p->qH n (PR n) (kas_bin f p k)|0,_,_,h=>h|f+1,p,k,h=>qH.bind (λl _=>DL f _ ((bubble_perm p k _).toList.trans h)) (rY hn h _ _ _ _)
def Hx:qH n (PR n) (kas_sort n):=qH.bind (λr a=>by
 show qH n _ (if r.1<n then _ else _)
 split
 ·exact DL hn _ _ a
 ·exact a) (EX hn _ (show(List.toArray (List.range n)).toList.Perm _ by exact .refl _))
end
section
variable{prog:RR}{w:World}{A:Around}{E:RN}{s:Shared}{κ:SortKind}
def Gq{a:Addr}{c:RQ}{n:Nat}{P:Fin->Shared->Prop}(v:s.heap.get? a=some (seqObj "list" c.toArray n))(L:c.length<64)(M:2<=c.length->∀g:Shared,(∀b o,b≠a->s.heap.get? b=some o->g.heap.get? b=some o)->(∀Q:SortKind->Shared->Prop,Q κ g->wpAny (model prog w) A (keyKind' c.toArray) Q (λ_ _=>False) g)/\∀x y C,x∈c->y∈c->(∀b,C b g)->wpAny (model prog w) A (keyLt' κ x y) C (λ_ _=>False) g)(h:∀out:List Value,out.Perm c->P (.done (.ret .none)) {s with heap:=sortedHeap s.heap a c out.toArray}):wpAny (model prog w) A (Builtin.«list.sort» ⟨[.ref a],[]⟩) P E s:=by
 rw[list_sort_plain];have B:c.toArray.size=c.length:=by simp
 refine a_ (listItems_at v rfl ?_);refine a_ (listUpdate_at v rfl ?_ (by rw[B,k4];lia) (ng _));obtain⟨D,k⟩:∃D,(s.heap.update a (Obj.mapSeq λ_=>#[])).get? a=some (seqObj "list" #[] D):=⟨_,get?_update_seq v (λ_=>#[])⟩;refine a_ (seqEpoch_at k rfl ?_);refine a_ (wpAny_newTuple ?_ (by show c.length<=_;rw[k4];lia));refine a_ (wpAny_newList ?_ (ng _));refine pu ?_;have kept:∀b o,b≠a->s.heap.get? b=some o->(((s.heap.update a (Obj.mapSeq λ_=>#[])).push (seqObj "tuple" c.toArray 0)).push (seqObj "list" #[] 0)).get? b=some o:=λb o N q=>b_ _ (b_ _ ((Heap.get?_update_ne _ _ _ _ N).trans q))
 have d:(((s.heap.update a (Obj.mapSeq λ_=>#[])).push (seqObj "tuple" c.toArray 0)).push (seqObj "list" #[] 0)).get? a=some (seqObj "list" #[] D):=b_ _ (b_ _ k);show wpAny (model prog w) A _ P E {s with heap:=((s.heap.update a (Obj.mapSeq λ_=>#[])).push (seqObj "tuple" c.toArray 0)).push (seqObj "list" #[] 0)};dsimp only;have F:(c.toArray.zip c.toArray).size=c.length:=by simp
 by_cases h2:c.toArray.size<2
 ·rw[ku h2,ku h2];refine a_ (e_ ?_);rw[StateT.run_pure];refine a_ (e_ ?_);dsimp only;refine a_ (seqEpoch_at d rfl ?_);refine a_ (listUpdate_at d rfl ?_ (ng _) (by refine nh (Qd ((Array.size_map ..).trans F)) ?_;rw[k4];lia));simp only[bne_self_eq_false,P9,QM];have e:(c.toArray.zip c.toArray).map (·.2)=c.toArray:=by
   apply Array.toList_inj.mp;have e:(c.toArray.zip c.toArray).toList=c.zip c:=by simp
   rw[Array.toList_map,e];exact List.map_snd_zip (g_ _)
  have:=h c (.refl _);rw[<-e]at this;exact e_ this
 ·rw[j2 h2,j2 h2];have l:2<=c.length:=by lia
  obtain⟨O,R⟩:=M l {s with heap:=((s.heap.update a (Obj.mapSeq λ_=>#[])).push (seqObj "tuple" c.toArray 0)).push (seqObj "list" #[] 0)} kept;refine a_ (wpAny_mono (O (λm K=>m=κ/\K={s with heap:=((s.heap.update a (Obj.mapSeq λ_=>#[])).push (seqObj "tuple" c.toArray 0)).push (seqObj "list" #[] 0)}) ⟨rfl,rfl⟩) (λm K z=>?_) λ_ _ x=>x.elim);obtain⟨rfl,rfl⟩:=z;refine a_ (wpAny_mono (kat_run (ks:=c) (vs:=c) (Q:=λf r=>∃p:Array Nat,arrOf f=p.map (kas_item (c.toArray.zip c.toArray))/\failedOf f=none/\PR c.length p/\r=_) (G:=λp r=>PR c.length p/\r=_) rfl l L (λp f r a1 T U a4=>⟨p,T,U,a4⟩) (qH.wp (λi j C hi V W=>?_) (λp u=>⟨u,rfl⟩) (Hx (by lia)))) ?_ λ_ _ e=>e)
  ·unfold kas_ask;have mem:∀i,i<c.length->c.getD i Value.none∈c:=λi hi=>by rw[oD,f_ hi];exact yl hi
   exact R _ _ C (mem i hi) (mem j V) W
  ·rintro⟨⟨⟩,f⟩r⟨p,H,X,u,rfl⟩;dsimp only;have t:=kat_snds (ks:=c) (vs:=c) rfl H;have I:p.toList.length=c.length:=by rw[u.length_eq,qq]
   have J:(p.toList.map λi=>c.getD i Value.none).Perm c:=by
    refine(u.map λi=>c.getD i Value.none).trans (RK ?_);refine sD λi=>?_;rw[ir]
    by_cases hi:i<c.length
    ·rw[List.getElem?_range hi];simp[hi]
    ·rw[np (by rw[qq];lia),np (by lia)];rfl
   rw[t];refine a_ (seqEpoch_at d rfl ?_);refine a_ (listUpdate_at d rfl ?_ (ng _) (by rw[lh,c_,I,k4];lia));rw[X];simp only[bne_self_eq_false,P9,QM];exact e_ (h _ J)
end
def BM(h:Heap)(v:Value):Prop:=∃a o n x y z t u b,v=.ref a/\h.get? a=some o/\o.cls=.type "tuple"/\o.data=.seq #[.str x t,.str y u,.str z b] n
def BM.kept(p:BM h v)(k:∀b o,h.get? b=some o->h'.get? b=some o):BM h' v:=by obtain⟨a,o,n,x,y,z,t,u,c,e,d,r⟩:=p;exact⟨a,o,n,x,y,z,t,u,c,e,k _ _ d,r⟩
section
variable{prog:RR}{w:World}{A:Around}{E:RN}{s:Shared}
def Je(g:BM s.heap v)(h:BM s.heap u)(d:∀b,C b s):wpAny (model prog w) A (keyLt' (tuples' true) v u) C (λ_ _=>False) s:=by obtain⟨a,o,n,x,y,z,p,q,r,rfl,i,hc,hd⟩:=g;obtain⟨B,D,F,G,H,I,j,k,l,rfl,e,m,f⟩:=h;have c:∀{x y:Str}{t u:Tok},wpAny (model prog w) A (oneLt' false (.str x t) (.str y u)) C (λ_ _=>False) s:=λ{x y t u}=>kat_one _ _ (lt_str (d _));refine kat_lt i hd e f (kat_cons (QL (kat_go (λ_=>kat_yes (kat_cons (QL (kat_go (λ_=>kat_yes (kat_cons (QL (kat_go (λ_=>kat_yes (kat_nil (d _))) (λ_=>kat_no c))))) (λ_=>kat_no c))))) (λ_=>kat_no (oneLt_str (d _))))))
theorem sL:∀{c:RQ},(∀v∈c,BM h v)->∃fs:List Value,KatTups h c fs/\fs.length=c.length/\∀v∈fs,∃x t,v=Value.str x t
 |[],_=>⟨[],.nil,rfl,λv b=>nomatch b⟩|u::r,d=>by
  obtain⟨a,o,n,x,y,z,e,g,i,rfl,f,hc,hd⟩:=d u (kw ..);obtain⟨fs,h1,h2,h3⟩:=sL λv b=>d v (i_ _ b);refine⟨.str x e::fs,.cons f hc hd rfl h1,by simp[h2],λv b=>?_⟩;rcases ov.mp b with rfl|b
  ·exact⟨_,_,rfl⟩
  ·exact h3 v b
def B9(g:s.heap.IsList l vs.toArray)(i:vs.length<64)(j:∀v∈vs,BM s.heap v)(h:∀out:List Value,out.Perm vs->Q (.ref (s.heap.objs.size+1)) {s with heap:=sortedAll s.heap vs out.toArray}):wpAny (model prog w) A (call (.builtin "sorted") [.ref l]) Q E s:=by
 refine Calls.call_function_entry kind_sorted plain_sorted entry_sorted (args_sorted1 _) ?_;unfold Builtin.«sorted»;refine a_ (m:=checkCount "sorted" 1 1 _) (e_ ?_);refine a_ (collect_list g ?_ (by rw[k4];lia));refine a_ (wpAny_newList ?_ (by rw[k4];lia));have c:((s.heap.push (seqObj "list" #[] 0)).update s.heap.objs.size (Obj.mapSeq (·++vs.toArray))).objs.size=s.heap.objs.size+1:=by rw[Heap.size_update,size_push']
 have e:(((s.heap.push (seqObj "list" #[] 0)).update s.heap.objs.size (Obj.mapSeq (·++vs.toArray))).push (seqObj "list" vs.toArray 0)).get? (s.heap.objs.size+1)=some (seqObj "list" vs.toArray 0):=by rw[<-c];exact h_ _ rfl
 have keep:∀b o,s.heap.get? b=some o->b≠s.heap.objs.size+1/\(((s.heap.push (seqObj "list" #[] 0)).update s.heap.objs.size (Obj.mapSeq (·++vs.toArray))).push (seqObj "list" vs.toArray 0)).get? b=some o:=λb o q=>by have a:b<s.heap.objs.size:=ji q;refine⟨lm (rx a),?_⟩;rw[Heap.get?_push_ne _ _ _ (by rw[c];exact lm (rx a)),Heap.get?_update_ne _ _ _ _ (lm a),Heap.get?_push_ne _ _ _ (lm a)];exact q
 show wpAny _ _ _ _ _ {s with heap:=((s.heap.push (seqObj "list" #[] 0)).update s.heap.objs.size (Obj.mapSeq (·++vs.toArray))).push (seqObj "list" vs.toArray 0)};rw[c];refine a_ (pu (pv slot_list_sort (s:={s with heap:=((s.heap.push (seqObj "list" #[] 0)).update s.heap.objs.size (Obj.mapSeq (·++vs.toArray))).push (seqObj "list" vs.toArray 0)}) ⟨_,e,rfl⟩ entry_list_sort (Gq (κ:=tuples' true) e i (λh2 k n=>?_) λout a1=>⟨_,rfl,?_⟩) (args_list_sort _)))
 ·have d:∀v∈vs,BM k.heap v:=λv f=>(j v f).kept λb o q=>n b o (keep b o q).1 (keep b o q).2;refine⟨λF p=>?_,λx y C r u z=>Je (d x r) (d y u) z⟩;obtain⟨fs,h1,B,h3⟩:=sL d;refine kat_kind (T:=Value.type "str") h1 (by lia) (λv f=>?_) (by decide+kernel) ?_
  ·obtain⟨x,t,rfl⟩:=h3 v f;exact Looks.of_pure rfl
  ·rw[show(Value.type "str"!=Value.type "tuple")=true by decide+kernel];exact p
 ·exact e_ ⟨_,rfl,h out a1⟩
end
theorem Dv:∀{b:RW}{a:RQ},bd (b.map V.ref) a->a=b.map Value.ref|[],_,.nil=>rfl|u::r,_,.cons h t=>by obtain rfl:_=Value.ref u:=h;rw[Dv t];rfl
theorem y3:∀{a:RW},bd (a.map V.ref) (a.map Value.ref)|[]=>.nil|_::_=>.cons rfl y3
def EC(h:out.Perm (b.map Value.ref)):∃c:List Addr,c.Perm b/\out=c.map Value.ref:=by
 let f:Value->Addr:=λv=>match v with|.ref a=>a|_=>0
 have e:(b.map Value.ref).map f=b:=by rw[w1];exact(wh (g:=id) λa _=>rfl).trans (List.map_id b)
 have i:(out.map f).map Value.ref=out:=by rw[w1];refine(wh (g:=id) λv j=>?_).trans (List.map_id out);obtain⟨a,_,rfl⟩:=mu.mp (h.mem_iff.mp j);rfl
 have d:=h.map f;rw[e]at d;exact⟨_,d,i.symm⟩
def Db(K:RM)(A:X.K=K):cO X (.builtin "sorted") (λl H Q=>∃(p:Addr)(b:RW),l=[.ref p]/\aW K H p (b.map V.ref)/\b.length<64/\(∀u∈b,∃x y z,aU K H u [.str x,.str y,.str z])/\∀(q:Addr)(c:RW),H q=none->c.Perm b->Q (.ref q) (aA H q (.lst (c.map V.ref)))):=by
 subst A;intro m s P H l R Q I r h;obtain⟨p,b,rfl,B,hn,C,q⟩:=h;obtain⟨u,rfl,D⟩:=jU r;obtain rfl:u=Value.ref p:=D;obtain⟨e,f,⟨o,n,g,i,w,E⟩,_⟩:=I.list B;obtain rfl:=Dv f;refine B9 (vs:=b.map Value.ref) ⟨o,g,i,n,E⟩ (by rw[c_];lia) (λv F=>?_) λout j=>?_
 ·obtain⟨a,hm,rfl⟩:=mu.mp F;obtain⟨x,y,z,G⟩:=C a hm;obtain⟨e,f,⟨o,g,i,n,w⟩,_⟩:=I.tuple G;cases f with|cons h1 t=>cases t with|cons h2 t=>cases t with|cons h3 t=>cases t;obtain⟨J,rfl⟩:=h1;obtain⟨L,rfl⟩:=h2;obtain⟨M,rfl⟩:=h3;exact⟨a,o,n,x,y,z,J,L,M,rfl,g,i,w⟩
 ·obtain⟨c,d,rfl⟩:=EC j;obtain⟨N,k⟩:=sortedAll_at s.heap (b.map Value.ref) (c.map Value.ref).toArray;have O:=d.length_eq;refine⟨.ref (s.heap.objs.size+1),_,I.laid (h':=sortedAll s.heap (b.map Value.ref) (c.map Value.ref).toArray) (t':=s.toks) (o:=.lst (c.map V.ref)) (λ_ _=>sortedAll_old) (qc _) ⟨?_,_,N,y3,k⟩,rfl,q _ c (I.hok.fresh (qc _)) d⟩;rw[c_,k4];lia
end L2
namespace L2
open PySem PySem.Spec PyProof.Rows PySem.W
def zL{J:It}{n:Nat}{g:TG}{ds:RV}{k:Nat}{tc:TT}{te:TE}{r:St}{s:Hp}{D:Addr}{F:Hp->Prop}(Pv:Nat->List V->Hp->Prop)(h0:Pv 0 [] (aA s D (.lst [])))(hg:∀i a c,i<n->Pv i a c->J.go i c)(t:∀i a c x h,i<n->Pv i a c->J.yld i c x h->g x (fT ds k r) h λd q=>tc d q λb j=>if b=true then te d j λy l=>l D=some (.lst a)/\a.length<sizeLine/\∃f,f<n-i/\f=n-(i+1)/\i+1<=n/\Pv (i+1) (a++[y]) (aA l D (.lst (a++[y])))else∃f,f<n-i/\f=n-(i+1)/\i+1<=n/\Pv (i+1) a j)(hd:∀a c,Pv n a c->J.stop n c/\F c):∃W:Nat->Nat->List V->Hp->Prop,(∃m,W 0 m [] (aA s D (.lst [])))/\∀i m a c,W i m a c->(J.stop i c/\F c)\/(J.go i c/\∀x h,J.yld i c x h->g x (fT ds k r) h λd q=>tc d q λb j=>if b=true then te d j λy l=>l D=some (.lst a)/\a.length<sizeLine/\∃f,f<m/\W (i+1) f (a++[y]) (aA l D (.lst (a++[y])))else∃f,f<m/\W (i+1) f a j):=by
 refine⟨λi m a c=>m=n-i/\i<=n/\Pv i a c,⟨_,rfl,ng _,h0⟩,?_⟩;rintro i m a c⟨rfl,hi,p⟩
 by_cases o:i<n
 ·exact .inr ⟨hg i a c o p,λx h y=>t i a c x h o p y⟩
 ·have e:i=n:=by lia
  subst e;exact .inl (hd a c p)
def HV{J:It}{n:Nat}{g:TG}{j:TS}{D:qG}{a:St}{H:Hp}(Pv:Nat->St->Hp->Prop)(h0:Pv 0 a H)(hg:∀i a H,i<n->Pv i a H->J.go i H)(o:∀i a H x b,i<n->Pv i a H->J.yld i H x b->g x a b λc h=>j {D with nx:=Pv (i+1),ct:=Pv (i+1),bk:=D.nx} c h)(hd:∀a H,Pv n a H->J.stop n H/\D.nx a H):∃W:Nat->Nat->St->Hp->Prop,(∃m,W 0 m a H)/\∀i m a H,W i m a H->(J.stop i H/\D.nx a H)\/(J.go i H/\∃N:St->Hp->Prop,(∀d b,N d b->∃l,l<m/\W (i+1) l d b)/\∀x b,J.yld i H x b->g x a b λc h=>j {D with nx:=N,ct:=N,bk:=D.nx} c h):=by
 refine⟨λi m a H=>m=n-i/\i<=n/\Pv i a H,⟨n,by simp,ng _,h0⟩,?_⟩;rintro i m a H⟨rfl,hi,p⟩
 by_cases f:i<n
 ·exact .inr ⟨hg i a H f p,Pv (i+1),λd b k=>⟨n-(i+1),by omega,rfl,f,k⟩,λx b y=>o i a H x b f p y⟩
 ·have e:i=n:=by lia
  subst e;exact .inl (hd a H p)
end L2
namespace L2
open PySem
def rF{K:RM}{f:Str}{a C dx:Addr}{fs:List (Str×V)}{v:V}{H:Hp}{R:V->Prop}(h:H a=some (.ins C dx fs))(hc:z9 K C)(hn:aX K C f)(i:fs.lookup f=some v)(k:R v):∃e c d b g,V.ref a=.ref e/\H e=some (.ins c d b)/\z9 K c/\aX K c f/\b.lookup f=some g/\R g:=⟨a,C,dx,fs,v,rfl,h,hc,hn,i,k⟩
def rM{a C dx:Addr}{m:Str}{fs:List (Str×V)}{H:Hp}{R:Prop}(h:H a=some (.ins C dx fs))(hn:fs.lookup m=none)(k:R):∃d c b,V.ref a=.ref d/\H d=some (.ins C c b)/\b.lookup m=none/\R:=⟨a,dx,fs,rfl,h,hn,k⟩
def rG{c:Type}{a:Addr}{A R:Addr->c->Prop}(v:c)(h:A a v)(k:R a v):∃b d,V.ref a=.ref b/\A b d/\R b d:=⟨a,v,rfl,h,k⟩
def rX{A:Addr->List V->Prop}{p:Addr}{b:List V}{i:Int}{v:V}{R:V->Prop}(h:A p b)(f:xy b i=some v)(k:R v):∃c a d e,V.ref p=.ref c/\V.int i=.int d/\A c a/\xy a d=some e/\R e:=⟨p,b,i,v,rfl,rfl,h,f,k⟩
def rA{l:Addr}{b:List V}{y:V}{H:Hp}{R:Addr->List V->V->Prop}(h:H l=some (.lst b))(e:b.length<sizeLine)(k:R l b y):∃c a d,V.ref l=.ref c/\[y]=[d]/\H c=some (.lst a)/\a.length<sizeLine/\R c a d:=⟨l,b,y,rfl,rfl,h,e,k⟩
def r2{i j:Int}{R:Int->Int->Prop}(k:R i j):∃a b,V.int i=.int a/\V.int j=.int b/\R a b:=⟨i,j,rfl,rfl,k⟩
def U{a:Type}{A R:a->Prop}{v:a}(h:A v)(k:R v):∃v,A v/\R v:=⟨v,h,k⟩
def i5{K:RM}{f:Str}{a C dx:Addr}{fs:List (Str×V)}{o:Option (Option V)}{v:V}{H:Hp}{R:V->Prop}(h:H a=some (.ins C dx fs))(hc:z9 K C)(hn:aX K C f)(h0:o=some (some (.ref a)))(i:fs.lookup f=some v)(k:R v):∃w,o=some (some w)/\∃e c d b g,w=.ref e/\H e=some (.ins c d b)/\z9 K c/\aX K c f/\b.lookup f=some g/\R g:=⟨_,h0,a,C,dx,fs,v,rfl,h,hc,hn,i,k⟩
def pq{a C dx:Addr}{m:Str}{fs:List (Str×V)}{o:Option (Option V)}{H:Hp}{R:V->Prop}(h:H a=some (.ins C dx fs))(h0:o=some (some (.ref a)))(hn:fs.lookup m=none)(k:R (.ref a)):∃w,o=some (some w)/\∃d c b,w=.ref d/\H d=some (.ins C c b)/\b.lookup m=none/\R w:=⟨_,h0,a,dx,fs,rfl,h,hn,k⟩
end L2
namespace L2
open PySem PySem.Spec PyProof.Rows PySem.W
section
variable{X:Cx}
theorem IsPs.mem(I:aM X e j H s):∀{f:List V}{ds:List PyData}{c:RQ},IsPs X.K H f ds->bd f c->(∀u∈c,∃d∈ds,∃b,Reads s.heap u d b)/\∀d∈ds,∃u∈c,∃b,Reads s.heap u d b
 |_,_,_,.nil,r=>by cases r;exact⟨λu a=>(nomatch a),λu a=>(nomatch a)⟩|_,_,_,.cons h g,.cons i r2=>by
  obtain⟨b,q⟩:=Dn.reads I h i;obtain⟨p1,p2⟩:=IsPs.mem I g r2;refine⟨λu a=>?_,λd hd=>?_⟩
  ·rcases ov.mp a with rfl|a
   ·exact⟨_,kw,b,q⟩
   ·obtain⟨d,hd,x⟩:=p1 u a;exact⟨d,i_ _ hd,x⟩
  ·rcases ov.mp hd with rfl|hd
   ·exact⟨_,kw,b,q⟩
   ·obtain⟨u,a,x⟩:=p2 d hd;exact⟨u,i_ _ a,x⟩
abbrev tL(e:RS):PyData:=.tuple (e.map PyData.str)
theorem B4:∀{e:RS}{b:RQ}{c:RW},ReadsAll h b (e.map PyData.str) c->∀j(a:j<b.length),∃x t,e[j]?=some x/\b[j]=.str x t
 |[],_,_,.nil,j,a=>absurd a (Q0 _)|x::r,_,_,.cons h1 h2,0,a=>by cases h1 with|str _ t=>exact⟨x,t,rfl,rfl⟩
 |x::r,_,_,.cons h1 h2,j+1,a=>by obtain⟨y,t,d,f⟩:=B4 (e:=r) h2 j (by simpa using a);exact⟨y,t,by simpa using d,by simpa using f⟩
theorem Dr:∀{e d:RS}{a:RQ}{b bs:RW},ReadsAll h a (e.map PyData.str) b->ReadsAll h a (d.map PyData.str) bs->e=d|[],[],_,_,_,_,_=>rfl|[],_::_,_,_,_,.nil,k=>nomatch k|_::_,[],_,_,_,.cons _ _,k=>nomatch k|x::r,y::q,_,_,_,.cons h1 h2,.cons c f=>by cases h1 with|str _ t=>cases c with|str _ _=>rw[Dr h2 f]
theorem uC:∀e:List Str,PyData.eqvAll (e.map PyData.str) (e.map PyData.str)=true|[]=>rfl|x::r=>by rw[no,PyData.eqvAll,uC r];simp[PyData.eqv]
def LD(r:Reads s.heap a (tL e) I)(u:Reads s.heap b (tL d) bs)(v:A.units<cLine):SeqAt.EqAt A s a b (PyData.eqv (tL e) (tL d)):=by cases r with|@tuple l o w n _ _ h1 h2 h3 h4=>cases u with|@tuple i J c n2 _ _ f z g h=>
   show SeqAt.EqAt A s (.ref l) (.ref i) (PyData.eqvAll (e.map PyData.str) (d.map PyData.str))
   by_cases q:l=i
   ·subst q;rw[h1]at f;obtain rfl:=k_ f;rw[h3]at g;cases g;rw[Dr h4 h,uC];exact .same _
   ·have B:w.size=(e.map PyData.str).length:=by simpa using SeqAt.ReadsAll.length _ _ _ h4
    have C:c.size=(d.map PyData.str).length:=by simpa using SeqAt.ReadsAll.length _ _ _ h
    rw[<-SeqAt.eqvAll_eq,<-B,<-C];refine .of_refs q (SeqAt.RcAt.tuples ⟨_,h1,h2,_,h3⟩ ⟨_,f,z,_,g⟩ v λj D E=>?_);obtain⟨x,t,F,k⟩:=B4 h4 j (by simpa using D);obtain⟨y,G,H,m⟩:=B4 h j (by simpa using E);have p:SeqAt.pairEq (e.map PyData.str) (d.map PyData.str) j=(x==y):=by unfold SeqAt.pairEq;rw[oD,oD,ir,ir,F,H];rfl
    rw[Array.getElem_toList]at k m;rw[p,k,m];exact .str_str x t y G
def Og(K:RM):R2:=λx y H Q=>∃(p:Addr)(a:List V)(d:RS)(ds:List (List Str)),y=.ref p/\aW K H p a/\Dn K H x (tL d)/\IsPs K H a (ds.map tL)/\d∈ds/\Q (.bl true) H
def Mt(D:X.A.units+65<cLine):lr X (compareOp .In) (Og X.K):=by
 intro i s E H x y v u Q I k l h;obtain⟨p,F,d,ds,rfl,m,n,o,hd,q⟩:=h;cases l;obtain⟨a,r,pl,G⟩:=I.list m;obtain⟨J,t⟩:=n.reads I k;obtain⟨z,B⟩:=IsPs.mem I o r;have at_:∀{w:Value}{e:RS}{bs:RW},Reads s.heap w (tL e) bs->SeqAt.EqAt X.A.in1 s w v (PyData.eqv (tL e) (tL d)):=λC=>LD C t (by show X.A.units+1<cLine;lia)
 classical
 refine SeqAt.in_listAt (λw=>decide (∃e∈ds,PyData.eqv (tL e) (tL d)=true/\∃bs,Reads s.heap w (tL e) bs)) pl.isList (λw b=>?_) ⟨.bl _,H,I,rfl,?_⟩
 ·by_cases c:∃e∈ds,PyData.eqv (tL e) (tL d)=true/\∃bs,Reads s.heap w (tL e) bs
  ·rw[m_ c];obtain⟨e,j,h1,bs,h2⟩:=c;rw[<-h1];exact at_ h2
  ·rw[nn c];obtain⟨L,f,bs,h2⟩:=z w (by simpa using b);obtain⟨e,j,rfl⟩:=mu.mp f;have h1:PyData.eqv (tL e) (tL d)=false:=by cases g:PyData.eqv (tL e) (tL d)with|false=>rfl|true=>exact absurd ⟨e,j,g,bs,h2⟩ c
   rw[<-h1];exact at_ h2
 ·obtain⟨w,b,bs,h2⟩:=B (tL d) (mu.mpr ⟨d,hd,rfl⟩);rw[show(a.toArray.any λw=>decide (∃e∈ds,PyData.eqv (tL e) (tL d)=true/\∃bs,Reads s.heap w (tL e) bs))=true by rw[Array.any_eq_true'];exact⟨w,by simpa using b,m_ ⟨d,hd,uC d,bs,h2⟩⟩]
  exact q
def J3(K:RM)(a:X.K=K)(b:X.A.units+65<cLine):lr X (compareOp .In) (Og K):=by subst a;exact Mt b
def PD{A:Around}{k:Nat}(a:eE k A):A.units+65<cLine:=by have:=a.un;lia
end
end L2
namespace L2
open PySem PySem.Spec PyProof.Rows PySem.W
set_option genInjectivity false in
set_option genSizeOf false in
structure AF where
 x:Addr
 d:FuncData
structure Df(K:RM)(mg:RP)(n:Str)(st:Stmt)(a:AF)(ps:RS):Prop where
 f:zZ K n n st a.x a.d
 m:mg n=some (.ref a.x)b:gx K a.d ps []
structure Mf(K:RM)(C:Addr)(n q:Str)(st:Stmt)(a:AF)(ps:RS):Prop where
 f:zZ K n q st a.x a.d
 m:IV K C n a.x
 b:gx K a.d ps []
def Dp(K:RM)(n:Str)(st:Stmt):Prop:=∃a:AF,PySem.W.nsIn K mainGlobals n=some (some (.ref a.x))/\zZ K n n st a.x a.d
def Mp(K:RM)(C:Addr)(n q:Str)(st:Stmt):Prop:=∃a:AF,PySem.W.findIn K (.ref C) n=some (some (.ref a.x))/\PySem.W.isFn K (.ref a.x)=true/\zZ K n q st a.x a.d
def Gp(K:RM)(n:Str)(x:Addr):Prop:=PySem.W.nsIn K mainGlobals n=some (some (.ref x))
def Ip(K:RM)(n:Str)(i:Int):Prop:=∃t,PySem.W.nsIn K mainGlobals n=some (some (.int i t))
def Pc(K:RM)(n:Str)(i:Str):Prop:=∃t,PySem.W.nsIn K mainGlobals n=some (some (.str i t))
def Zp(K:RM)(n:Str):Prop:=PySem.W.nsIn K mainGlobals n=some none
structure Cp(K:RM)(x:Addr):Prop where
 p0:PySem.W.plainGet K x Str.empty=true
 p1:PySem.W.hasDictIn K x=true
 p2:PySem.W.plainOver K x=true
 p3:PySem.W.findIn K (.ref x) "__setattr__"=some (some (.builtin "object.__setattr__"))p4:PySem.W.makesIn K x=true
 p5:PySem.W.keepIn K (.ref x)=true
section
variable{K:RM}{h:Heap}{mg:RP}{n q:Str}{st:Stmt}{x C:Addr}{fd:FuncData}
def Lk(a:PySem.W.nsIn K mainGlobals n=some (some (.ref x)))(f:zZ K n n st x fd):Dp K n st:=⟨⟨x,fd⟩,a,f⟩
def Os(a:PySem.W.findIn K (.ref C) n=some (some (.ref x)))(i:PySem.W.isFn K (.ref x)=true)(f:zZ K n q st x fd):Mp K C n q st:=⟨⟨x,fd⟩,a,i,f⟩
def HL(a:PySem.W.nsIn K mainGlobals n=some (some (.ref x))):Gp K n x:=a
def NE(a:PySem.W.nsIn K mainGlobals n=some none):Zp K n:=a
def OM(a:PySem.W.excIn K x [.type "ValueError",.type "Exception",.type "BaseException",.type "object"] "ValueError.__new__"=true):nP K x:=a
def DE(a:PySem.W.findIn K (.ref C) n=some none):aX K C n:=a
def Gp.m(a:Gp K n x)(X:K.In h)(G:h.Ns mainGlobals mg):mg n=some (.ref x):=PySem.W.mg_of X G a
def Zp.m(a:Zp K n)(X:K.In h)(G:h.Ns mainGlobals mg):mg n=none:=PySem.W.mg_none_of X G a
def Ip.m{i:Int}(a:Ip K n i)(X:K.In h)(G:h.Ns mainGlobals mg):∃u,mg n=some u/\aZ (.int i) u:=a.elim λ_ e=>⟨_,PySem.W.mg_of X G e,_,rfl⟩
def Pc.m{i:Str}(a:Pc K n i)(X:K.In h)(G:h.Ns mainGlobals mg):∃u,mg n=some u/\aZ (.str i) u:=a.elim λ_ e=>⟨_,PySem.W.mg_of X G e,_,rfl⟩
abbrev Nz(st:Stmt)(n q:Str)(kV a pm:Value)(c:Option Addr)(b ct:Value)(d:RQ):=bindArgs (PySem.W.fnOf n q (qk st) (gk st) (ak st) .none kV a pm c b ct) ⟨d,[]⟩
variable{p1 p2 p3 p4 p5 b:Str}
def b1(F:zZ K n q st x fd)(h:∀kV a pm d c ct u,Nz st n q kV a pm d c ct [u]=pure [(p1,u)]:=by intros;rfl):gx K fd [p1] []:=F.binds λkV a pm d c ct e f=>match e,f with|[u],_=>h kV a pm d c ct u
def b2(F:zZ K n q st x fd)(h:∀kV a pm d c ct u v,Nz st n q kV a pm d c ct [u,v]=pure [(p1,u),(p2,v)]:=by intros;rfl):gx K fd [p1,p2] []:=F.binds λkV a pm d c ct e f=>match e,f with|[u,v],_=>h kV a pm d c ct u v
def b3(F:zZ K n q st x fd)(h:∀kV a pm d c ct u v w,Nz st n q kV a pm d c ct [u,v,w]=pure [(p1,u),(p2,v),(p3,w)]:=by intros;rfl):gx K fd [p1,p2,p3] []:=F.binds λkV a pm d c ct e f=>match e,f with|[u,v,w],_=>h kV a pm d c ct u v w
def b4(F:zZ K n q st x fd)(h:∀kV a pm d c ct u v w y,Nz st n q kV a pm d c ct [u,v,w,y]=pure [(p1,u),(p2,v),(p3,w),(p4,y)]:=by intros;rfl):gx K fd [p1,p2,p3,p4] []:=F.binds λkV a pm d c ct e f=>match e,f with|[u,v,w,y],_=>h kV a pm d c ct u v w y
def b5(F:zZ K n q st x fd)(h:∀kV a pm d c ct u v w y z,Nz st n q kV a pm d c ct [u,v,w,y,z]=pure [(p1,u),(p2,v),(p3,w),(p4,y),(p5,z)]:=by intros;rfl):gx K fd [p1,p2,p3,p4,p5] []:=F.binds λkV a pm d c ct e f=>match e,f with|[u,v,w,y,z],_=>h kV a pm d c ct u v w y z
def b6(F:zZ K n q st x fd)(h:∀kV a pm d c ct u v w y z r,Nz st n q kV a pm d c ct [u,v,w,y,z,r]=pure [(p1,u),(p2,v),(p3,w),(p4,y),(p5,z),(b,r)]:=by intros;rfl):gx K fd [p1,p2,p3,p4,p5,b] []:=F.binds λkV a pm d c ct e f=>match e,f with|[u,v,w,y,z,r],_=>h kV a pm d c ct u v w y z r
end
def cd{i j:Int}(h:decide (0<j/\j<1073741824)=true):fh i j:=(rd h:0<j/\j<1073741824)
def ls{n:Nat}(h:Nat.ble n 65536=true):n<=sizeLine:=de (Nat.le_of_ble_eq_true h)
section
variable{X:Cx}{n:Str}{st:Stmt}{a:AF}{l:RS}{sp:Sp}{j k:Nat}{e:Expr}{h:RT}{t:TA}{p c:Pos}
def pc(D:Df X.K X.mg n st a l)(F:aS X.prog X.w X.K X.mg X.base dw j a.x a.d l sp)(o:eE k X.A)(q:PA X (e::h) t)(r:j<=k:=by decide)(hg:Gl X n:=by rfl)(g:(n==("__debug__":Str))=false:=by decide)(s:starEach (e::h) X.env=(false,eval e X.env)::starEach h X.env:=by rfl)(i:(backTo c (starEach h X.env)).any (·.1)=false:=by rfl):PE X (.Call (.Name n p) (e::h) [] c) (K8 sp [] E0 t):=bS (F.mono r) o hg D.m D.f.kp D.b .nil bo q g s i
def bq(i:Nat){x:Str}{te:TE}{b:Pos}(f:X.N.Nodup)(g:PE X e te)(hi:X.N[i]?=some x:=by rfl)(d:X.env.scope.names.lookup x=some .local:=by rfl)(o:swapsWith e (some (.Name x b)) c.line X.env=pure false:=by rfl):PS X (.Assign [.Name x b] e c) (Aj te (k7 i)):=qV f hi (.inl d) g o (.inr d)
def tS(i:Nat){x:Str}(d:X.N.Nodup)(hi:X.N[i]?=some x:=by rfl)(b:X.env.scope.names.lookup x=some .local:=by rfl):PG X (.Name x c) (k7 i):=Dy d hi (.inl b) (.inr b)
def nq(N0 b:RS)(i:Nat){x:Str}(d:(N0++b).Nodup:=by decide+kernel)(f:X.N=N0++b:=by rfl)(hi:(N0++b)[i]?=some x:=by rfl)(g:Ni X.env.scope x:=by first|exact Or.inl rfl|exact Or.inr rfl)(o:X.fn x=true\/X.env.scope.names.lookup x=some .local:=by first|exact .inl rfl|exact .inr rfl):PG X (.Name x c) (k7 i):=by rw[<-f]at d hi;exact Dy d hi g o
def wB(N0 b:RS)(ds q:RV)(f:Scope){i r d:Expr}{o:RT}{scope:Scope}{v:TI}{g:TG}{tc:TT}{te:TE}(hg:GK g q)(hi:PI X r d v)(w:∀cl C s₀ H₀ ex,PG (X.comp scope (N0++b) cl C s₀ H₀ ex) r g/\K1 (X.comp scope (N0++b) cl C s₀ H₀ ex) o tc/\PE (X.comp scope (N0++b) cl C s₀ H₀ ex) i te)(hc:X.calm=true:=by rfl)(s:X.N=N0:=by rfl)(u:X.env.scope=f:=by rfl)(ok:su N0 ds f scope=true:=by decide+kernel)(y:(q.all λj=>ds.contains j||decide (N0.length<=j))=true:=by decide+kernel)(z:∀x,foldedSetIterable d X.env x=pure x:=by intro _;rfl):PE X (.ListComp i [⟨r,d,o,0⟩] scope c) (uE v g ds b.length tc te):=KL N0 b ds q f hc s u ok y hg hi w z
def C9(i:Nat)(N0 b:RS)(ds v:RV)(f:Scope){x:Str}{o q:Pos}{r u d:Expr}{s:RT}{scope:Scope}{D:TI}{g:TG}{tc:TT}{te:TE}(hg:GK g v)(hi:PI X u d D)(E:∀cl C s₀ H₀ ex,PG (X.comp scope (N0++b) cl C s₀ H₀ ex) u g/\K1 (X.comp scope (N0++b) cl C s₀ H₀ ex) s tc/\PE (X.comp scope (N0++b) cl C s₀ H₀ ex) r te)(w:N0.Nodup)(hc:X.calm=true:=by rfl)(y:X.N=N0:=by rfl)(z:X.env.scope=f:=by rfl)(ok:su N0 ds f scope=true:=by decide+kernel)(F:(v.all λj=>ds.contains j||decide (N0.length<=j))=true:=by decide+kernel)(A:N0[i]?=some x:=by rfl)(G:f.names.lookup x=some .local:=by rfl)(B:swapsWith (.ListComp r [⟨u,d,s,0⟩] scope c) (some (.Name x o)) q.line X.env=pure true:=by rfl)(H:∀x,foldedSetIterable d X.env x=pure x:=by intro _;rfl):PS X (.Assign [.Name x o] (.ListComp r [⟨u,d,s,0⟩] scope c) q) (Aj (uE D g ds b.length tc te) (k7 i)):=Ix N0 b ds v f hc y z ok F hg hi E w A G B H
def gz(K:RM){a b:Expr}{d f:TE}(g:PE X a d)(i:PE X b f)(o:X.K=K:=by rfl)(q:zX b:=by intro _ _;rfl):PE X (.Subscript a b c) (Np (Mg K) d f):=AI (Hz K o) g i q
def cN(K:RM){a b:Expr}{d f:TE}(g:PE X a d)(i:PE X b f)(o:X.K=K:=by rfl)(q:zX b:=by intro _ _;rfl):PE X (.Subscript a b c) (Np (Me K) d f):=AI (Kv K o) g i q
end
section
variable{P:RR}{w:World}{K:RM}{mg:RP}{base:Heap}{n q:Str}{st:Stmt}{a:AF}{C:Addr}{N b:RS}{k:Nat}{sp:Sp}
theorem Df.ok(D:Df K mg n st a b)(S:ay N b (ak st))(c:∀(e:Value)(A:Around)(outer:List Env)(s:Shared)(H:Hp)(g:List V)(Q:VK)(E:XK),eE k (A.deeper (envOfC n (ak st) s.heap.objs.size a.x e))->sp g H Q E->∃t,xC (sk dw P w K mg base N n (ak st) a.x e A outer s H E).nox (gk st) t/\t {nx:=λ_ i=>Q .non i,rt:=Q} (jh N g) H)(len:∀g H Q E,sp g H Q E->g.length=b.length:=by intro _ _ _ _ h;cases h;subst_vars;rfl):aS P w K mg base dw (k+1) a.x a.d b sp:=D.f.ok S len c
theorem Mf.ok(D:Mf K C n q st a b)(S:ay N b (ak st))(c:∀(e:Value)(A:Around)(outer:List Env)(s:Shared)(H:Hp)(g:List V)(Q:VK)(E:XK),eE k (A.deeper (envOfC q (ak st) s.heap.objs.size a.x e))->sp g H Q E->∃t,xC (sk dw P w K mg base N q (ak st) a.x e A outer s H E).nox (gk st) t/\t {nx:=λ_ i=>Q .non i,rt:=Q} (jh N g) H)(len:∀g H Q E,sp g H Q E->g.length=b.length:=by intro _ _ _ _ h;cases h;subst_vars;rfl):aS P w K mg base dw (k+1) a.x a.d b sp:=D.f.ok S len c
theorem Df.okE(D:Df K mg n st a b)(S:ay N b (ak st))(c:∀(e:Value)(A:Around)(outer:List Env)(s:Shared)(H:Hp)(g:List V)(Q:VK)(E:XK),eE k (A.deeper (envOfC n (ak st) s.heap.objs.size a.x e))->sp g H Q E->∃t,xC (sk (Aa P w) P w K mg base N n (ak st) a.x e A outer s H E) (gk st) t/\t {nx:=λ_ i=>Q .non i,rt:=Q} (jh N g) H)(len:∀g H Q E,sp g H Q E->g.length=b.length:=by intro _ _ _ _ h;cases h;subst_vars;rfl):aS P w K mg base (Aa P w) (k+1) a.x a.d b sp:=D.f.okE S len c
theorem Mf.okE(D:Mf K C n q st a b)(S:ay N b (ak st))(c:∀(e:Value)(A:Around)(outer:List Env)(s:Shared)(H:Hp)(g:List V)(Q:VK)(E:XK),eE k (A.deeper (envOfC q (ak st) s.heap.objs.size a.x e))->sp g H Q E->∃t,xC (sk (Aa P w) P w K mg base N q (ak st) a.x e A outer s H E) (gk st) t/\t {nx:=λ_ i=>Q .non i,rt:=Q} (jh N g) H)(len:∀g H Q E,sp g H Q E->g.length=b.length:=by intro _ _ _ _ h;cases h;subst_vars;rfl):aS P w K mg base (Aa P w) (k+1) a.x a.d b sp:=D.f.okE S len c
end
end L2
namespace My
open PySem L2
seal L2.xC L2.PS L2.PE L2.PT L2.PA L2.PI L2.PG L2.PW L2.Nf L2.PO
def gy(i:Nat):Stmt:=PySem.Challenge.pw_layersplit_k21_who_stays.main.body.getD i (.Pass ⟨0,0,0,0⟩)
abbrev re(c i:Nat):Stmt:=(KM (gy c)).getD i (.Pass ⟨0,0,0,0⟩)
abbrev oK:Stmt:=gy 20
abbrev iY:Stmt:=gy 21
abbrev qR:Stmt:=gy 22
abbrev oN:Stmt:=gy 23
abbrev lH:Stmt:=gy 28
abbrev oH:Stmt:=gy 29
abbrev my:Stmt:=gy 35
abbrev qU:Stmt:=gy 36
abbrev iF:Stmt:=gy 37
abbrev oP:Stmt:=gy 38
abbrev lP:Stmt:=gy 39
abbrev lG:Stmt:=gy 40
abbrev qT:Stmt:=gy 41
abbrev pK:Stmt:=gy 42
abbrev oO:Stmt:=gy 48
abbrev qS:Stmt:=gy 49
abbrev oM:Stmt:=gy 50
abbrev mx:Stmt:=gy 51
abbrev iZ:Stmt:=gy 52
abbrev ix:Stmt:=gy 53
abbrev lO:Stmt:=gy 54
abbrev ko:Stmt:=gy 55
abbrev lI:Stmt:=gy 56
abbrev kr:Stmt:=gy 57
abbrev km:Stmt:=gy 58
abbrev lJ:Stmt:=gy 59
abbrev mz:Stmt:=gy 60
abbrev gB:Stmt:=gy 61
abbrev kn:Stmt:=gy 62
abbrev iw:Stmt:=gy 64
abbrev lN:Stmt:=gy 65
abbrev kj:Stmt:=gy 66
abbrev kt:Stmt:=gy 67
abbrev jl:Stmt:=gy 68
abbrev iN:Stmt:=gy 69
abbrev lL:Stmt:=gy 70
abbrev ki:Stmt:=gy 71
abbrev lK:Stmt:=gy 72
abbrev lM:Stmt:=gy 73
abbrev oJ:Stmt:=gy 75
abbrev yR:Stmt:=gy 76
abbrev oI:Stmt:=gy 78
abbrev jn:Stmt:=re 80 0
abbrev gC:Stmt:=re 80 1
abbrev fY:Stmt:=re 80 2
abbrev i3:Stmt:=re 80 3
abbrev i0:Stmt:=re 80 4
abbrev fZ:Stmt:=re 80 5
abbrev lQ:Stmt:=re 80 6
abbrev jo:Stmt:=re 83 0
abbrev jm:Stmt:=re 84 0
abbrev jq:Stmt:=re 85 0
abbrev oR:Stmt:=re 85 1
abbrev lS:Stmt:=re 85 2
abbrev gH:Stmt:=re 85 3
abbrev gF:Stmt:=re 85 4
abbrev dB:Stmt:=re 85 5
abbrev iP:Stmt:=re 85 6
abbrev gG:Stmt:=re 85 7
abbrev gI:Stmt:=re 85 8
abbrev jp:Stmt:=re 85 9
abbrev gE:Stmt:=re 85 10
abbrev iO:Stmt:=re 85 11
abbrev dy:Stmt:=re 85 12
abbrev eT:Stmt:=re 85 13
abbrev gD:Stmt:=re 85 14
abbrev f9:Stmt:=re 85 17
abbrev f8:Stmt:=re 85 19
abbrev fk:Stmt:=re 85 20
abbrev oQ:Stmt:=gy 87
abbrev uY:Stmt:=gy 88
abbrev yS:Stmt:=gy 89
abbrev uZ:Stmt:=gy 90
abbrev yU:Stmt:=gy 91
abbrev pL:Stmt:=gy 92
abbrev yV:Stmt:=gy 94
abbrev lR:Stmt:=gy 95
abbrev i4:Stmt:=gy 96
abbrev mB:Stmt:=gy 97
abbrev yW:Stmt:=gy 98
abbrev yT:Stmt:=gy 99
abbrev mC:Stmt:=gy 100
abbrev uX:Stmt:=gy 101
abbrev xP:Stmt:=gy 102
set_option genInjectivity false in
set_option genSizeOf false in
structure ke where(gi fD dU k6 kZ kQ eV nH jf cp bV kI nG dH fu nE kY jd gW fP lc fN fE dI fL gP gQ bO fM fJ gS fK fO eW eu gR fI eM eO kU sZ kR dZ cS a9 dY dX cF fF d0 dW d8 jI fG cW cV bI dq ce cX d7 cU cz cf cT cb cH d6 df jH dG tu mY eD pj yy gZ gY sH yz wb sI pi law:AF)(bP eQ fw bp vZ DY IT IR Lp DV IU IS DW BP DX sK mV eZ wc:Addr)pm:Params
structure Txt(K:RM)(mg:RP)(a:ke):Prop where
 gi:Df K mg "is_whole" oK a.gi ["thing"]fD:Df K mg "is_text_of" iY a.fD ["thing","signs","longest"]dU:Df K mg "is_word" qR a.dU ["thing"]k6:Df K mg "is_guest" oN a.k6 ["thing"]kZ:Df K mg "is_prime" lH a.kZ ["thing"]kQ:Df K mg "point_of" oH a.kQ ["p","salt","guest"]eV:Df K mg "is_number" my a.eV ["thing"]nH:Df K mg "is_mark" qU a.nH ["thing"]jf:Df K mg "are_marks" iF a.jf ["thing"]cp:Df K mg "has_form" oP a.cp ["thing","depth"]bV:Df K mg "all_within" lP a.bV ["rule"]kI:Df K mg "words_of" lG a.kI ["rule"]nG:Df K mg "is_rule" qT a.nG ["thing"]dH:Df K mg "holds" pK a.dH ["rule","marks"]fu:Df K mg "is_count" oO a.fu ["thing"]nE:Df K mg "is_salt" qS a.nE ["thing"]kY:Df K mg "is_total" oM a.kY ["thing"]jd:Df K mg "is_weight" mx a.jd ["thing"]gW:Df K mg "are_counts" iZ a.gW ["thing","many"]fP:Df K mg "are_weights" ix a.fP ["thing","many"]lc:Df K mg "are_arms" lO a.lc ["thing"]fN:Df K mg "check_house" ko a.fN ["prime","salt"]fE:Df K mg "check_word" lI a.fE ["thing"]dI:Df K mg "check_guest" kr a.dI ["thing"]fL:Df K mg "check_marks" km a.fL ["thing"]gP:Df K mg "check_rule" lJ a.gP ["thing"]gQ:Df K mg "check_new" mz a.gQ ["thing","names"]bO:Df K mg "check_standing" gB a.bO ["thing","names"]fM:Df K mg "check_known" kn a.fM ["thing","names"]fJ:Df K mg "check_slope" iw a.fJ ["thing","prime","layers"]gS:Df K mg "check_arms" lN a.gS ["thing"]fK:Df K mg "check_shuts" kj a.fK ["thing","trials"]fO:Df K mg "check_count" kt a.fO ["thing"]eW:Df K mg "check_shares" jl a.eW ["thing","many"]eu:Df K mg "check_dealing" iN a.eu ["total","weights","many"]gR:Df K mg "check_form" lL a.gR ["deed"]fI:Df K mg "check_trial" ki a.fI ["deed","layers","trials"]eM:Df K mg "check_open" lK a.eM ["deed","trials"]eO:Df K mg "check_deed" lM a.eO ["deed","prime","layers","trials"]kU:Df K mg "most_due" oJ a.kU ["weights","given"]sZ:Df K mg "dealt" yR a.sZ ["total","weights"]kR:Df K mg "place_of" oI a.kR ["p","slope","point"]dZ:Mf K a.bP "__init__" "Table.__init__" jn a.dZ ["self","many"]cS:Mf K a.bP "owner_of" "Table.owner_of" gC a.cS ["self","place"]a9:Mf K a.bP "places_of" "Table.places_of" fY a.a9 ["self","owner"]dY:Mf K a.bP "free" "Table.free" i3 a.dY ["self"]dX:Mf K a.bP "told" "Table.told" i0 a.dX ["self","wanted"]cF:Mf K a.bP "give_back" "Table.give_back" fZ a.cF ["self","owner","number"]fF:Mf K a.bP "take" "Table.take" lQ a.fF ["self","owner","number"]d0:Mf K a.eQ "__init__" "Layer.__init__" jo a.d0 ["self","slope","many"]dW:Mf K a.fw "__init__" "Trial.__init__" jm a.dW ["self","home","arms","rule","shuts"]d8:Mf K a.bp "__init__" "House.__init__" jq a.d8 ["self","prime","salt"]jI:Mf K a.bp "do" "House.do" oR a.jI ["self","deed"]fG:Mf K a.bp "done" "House.done" lS a.fG ["self","deed"]cW:Mf K a.bp "do_layer" "House.do_layer" gH a.cW ["self","name","slope"]cV:Mf K a.bp "do_trial" "House.do_trial" gF a.cV ["self","name","trial"]bI:Mf K a.bp "do_share" "House.do_share" dB a.bI ["self","name","numbers"]dq:Mf K a.bp "do_hold" "House.do_hold" iP a.dq ["self","name","number"]ce:Mf K a.bp "do_pause" "House.do_pause" gG a.ce ["self","name","paused"]cX:Mf K a.bp "do_close" "House.do_close" gI a.cX ["self","name"]d7:Mf K a.bp "do_bar" "House.do_bar" jp a.d7 ["self","guest","name"]cU:Mf K a.bp "do_visit" "House.do_visit" gE a.cU ["self","guest","marks"]cz:Mf K a.bp "put_out" "House.put_out" iO a.cz ["self","layer","guests"]cf:Mf K a.bp "after_visit" "House.after_visit" dy a.cf ["self","guest","marks"]cT:Mf K a.bp "seat_for" "House.seat_for" eT a.cT ["self","layer","guest","marks","been"]cb:Mf K a.bp "place_in" "House.place_in" gD a.cb ["self","layer","guest"]cH:Mf K a.bp "places_in" "House.places_in" f9 a.cH ["self","trial","arm"]d6:Mf K a.bp "shares" "House.shares" f8 a.d6 ["self","trial"]df:Mf K a.bp "stand" "House.stand" fk a.df ["self","guest"]jH:Df K mg "_law_cell_at" oQ a.jH ["_law_script","_law_k"]dG:Df K mg "_law_mixed" uY a.dG ["_law_script","_law_k","_law_salt"]tu:Df K mg "_law_word" yS a.tu ["_law_k","_law_number"]mY:Df K mg "_law_guest" uZ a.mY ["_law_k","_law_number"]eD:Df K mg "_law_rule" yU a.eD ["_law_number","_law_high"]pj:Df K mg "_law_marks" pL a.pj ["_law_number"]yy:Df K mg "_law_plan" yV a.yy ["_law_script"]gZ:Df K mg "_law_new_layer" lR a.gZ ["_law_script","_law_plan_here"]gY:Df K mg "_law_new_trial" i4 a.gY ["_law_script","_law_plan_here","_law_number"]sH:Df K mg "_law_share" mB a.sH ["_law_script","_law_plan_here","_law_k","_law_number"]yz:Df K mg "_law_deed" yW a.yz ["_law_script","_law_plan_here","_law_k"]wb:Df K mg "_law_told" yT a.wb ["_law_house","_law_deed_here"]sI:Df K mg "_law_grown" mC a.sI ["_law_script","_law_house","_law_plan_here","_law_k","_law_dealt_last"]pi:Df K mg "_law_noted" uX a.pi ["_law_dealt_last","_law_deed_here"]law:Df K mg "law" xP a.law ["_law_script"]Fz:∃u,mg "LETTERS"=some u/\aZ (.str "abcdefghijklmnopqrstuvwxyz") u
 oh:∃u,mg "GUEST_SIGNS"=some u/\aZ (.str "abcdefghijklmnopqrstuvwxyz0123456789") u
 vQ:∃u,mg "LONGEST_WORD"=some u/\aZ (.int 12) u
 ue:∃u,mg "LONGEST_GUEST"=some u/\aZ (.int 24) u
 xv:∃u,mg "LEAST_PRIME"=some u/\aZ (.int 2) u
 sy:∃u,mg "GREATEST_PRIME"=some u/\aZ (.int 997) u
 KO:∃u,mg "MIXER"=some u/\aZ (.int 1009) u
 zS:∃u,mg "MOST_MARKS"=some u/\aZ (.int 8) u
 vR:∃u,mg "DEEPEST_RULE"=some u/\aZ (.int 6) u
 zR:∃u,mg "MOST_RULES"=some u/\aZ (.int 30) u
 zO:∃u,mg "MOST_WORDS"=some u/\aZ (.int 3) u
 BH:∃u,mg "MOST_ARMS"=some u/\aZ (.int 4) u
 zQ:∃u,mg "MOST_SHUTS"=some u/\aZ (.int 8) u
 zP:∃u,mg "MOST_TOTAL"=some u/\aZ (.int 1000) u
 Kh:mg "Table"=some (.ref a.bP)bh:z9 K a.bP
 G8:L2.Mk K a.bP a.dZ.x
 n8:aX K a.bP "many"eg:aX K a.bP "owners"gh:aX K a.bP "taken"Kj:mg "Layer"=some (.ref a.eQ)bW:z9 K a.eQ
 G9:L2.Mk K a.eQ a.d0.x
 jA:aX K a.eQ "slope"eJ:aX K a.eQ "table"bT:aX K a.eQ "inside"Kg:mg "Trial"=some (.ref a.fw)be:z9 K a.fw
 G7:L2.Mk K a.fw a.dW.x
 iC:aX K a.fw "home"fq:aX K a.fw "arms"n6:aX K a.fw "rule"mL:aX K a.fw "shuts"iQ:aX K a.fw "paused"ee:aX K a.fw "closed"iR:aX K a.fw "barred"Kk:mg "House"=some (.ref a.bp)aE:z9 K a.bp
 Ha:L2.Mk K a.bp a.d8.x
 cR:aX K a.bp "own_prime"j8:aX K a.bp "own_salt"aY:aX K a.bp "layer_named"aQ:aX K a.bp "trial_named"dR:aX K a.bp "came_into"mM:aX K a.bp "deeds"Ki:mg "SplitError"=some (.ref a.vZ)IX:nP K a.vZ
 Nu:mg "NoHouse"=some (.ref a.DY)MX:nP K a.DY
 Oz:mg "NoDeed"=some (.ref a.IT)Nx:nP K a.IT
 Ox:mg "NoWord"=some (.ref a.IR)Nv:nP K a.IR
 O9:mg "Taken"=some (.ref a.Lp)ON:nP K a.Lp
 Nq:mg "Unknown"=some (.ref a.DV)MU:nP K a.DV
 OA:mg "NoArms"=some (.ref a.IU)Ny:nP K a.IU
 Oy:mg "NoRule"=some (.ref a.IS)Nw:nP K a.IS
 Nr:mg "NoShuts"=some (.ref a.DW)MV:nP K a.DW
 MG:mg "NoNumber"=some (.ref a.BP)Li:nP K a.BP
 Nt:mg "NoMarks"=some (.ref a.DX)MW:nP K a.DX
 Bi:mg "Closed"=some (.ref a.sK)yh:nP K a.sK
 Bh:mg "NoRoom"=some (.ref a.mV)yg:nP K a.mV
 EM:mg "LENGTHS"=some (.ref a.eZ)CT:L2.K3 K a.pm a.eZ
 rT:∃tk,PySem.W.nsIn K a.eZ "layer"=some (some (.int 3 tk))rQ:∃tk,PySem.W.nsIn K a.eZ "trial"=some (some (.int 6 tk))rR:∃tk,PySem.W.nsIn K a.eZ "share"=some (some (.int 3 tk))t9:∃tk,PySem.W.nsIn K a.eZ "deal"=some (some (.int 4 tk))t8:∃tk,PySem.W.nsIn K a.eZ "hold"=some (some (.int 3 tk))rS:∃tk,PySem.W.nsIn K a.eZ "pause"=some (some (.int 2 tk))xg:∃tk,PySem.W.nsIn K a.eZ "go"=some (some (.int 2 tk))rW:∃tk,PySem.W.nsIn K a.eZ "close"=some (some (.int 2 tk))vA:∃tk,PySem.W.nsIn K a.eZ "bar"=some (some (.int 3 tk))rP:∃tk,PySem.W.nsIn K a.eZ "visit"=some (some (.int 3 tk))Hk:mg "HELD"=some (.ref a.wc)DK:L2.PX K a.wc [.str "",.str ""]sC:L2.Lx K a.sK a.mV
 vk:mg "all"=none
 G5:mg "any"=none
 MB:mg "bool"=none
 G4:mg "divmod"=none
 Bc:mg "enumerate"=none
 Oq:mg "int"=none
 bn:mg "isinstance"=none
 bD:mg "len"=none
 Cu:mg "list"=none
 Op:mg "max"=none
 G3:mg "min"=none
 dS:mg "range"=none
 Ct:mg "reversed"=none
 G1:mg "set"=none
 Bb:mg "sorted"=none
 DF:mg "str"=none
 Oo:mg "sum"=none
 dz:mg "tuple"=none
 Le:mg "zip"=none
def dA{N P:RS}{h:Scope}(a:h.kind=.function:=by rfl)(b:h.isCoroutine=false:=by rfl)(c:h.isGenerator=false:=by rfl)(d:N.Nodup:=by decide+kernel)(e:N.take P.length=P:=by rfl)(f:∀x∈P,h.names.lookup x=some .local\/h.names.lookup x=some .cell:=by decide+kernel)(g:∀y∈h.names,y.2≠.free:=by decide+kernel):ay N P h:=⟨a,b,c,d,e,f,g⟩
def At:ay ["thing"] ["thing"] (ak oK):=dA
abbrev lW:List Str:=["thing","signs","longest"]
def wG:ay lW ["thing","signs","longest"] (ak iY):=dA
def Cb:ay ["thing"] ["thing"] (ak qR):=dA
def Aw:ay ["thing"] ["thing"] (ak oN):=dA
def Av:ay ["thing"] ["thing"] (ak lH):=dA
def jW:ay ["p","salt","guest","mixed","sign"] ["p","salt","guest"] (ak oH):=dA
def yO:ay ["thing"] ["thing"] (ak my):=dA
def Ce:ay ["thing"] ["thing"] (ak qU):=dA
def yQ:ay ["thing"] ["thing"] (ak iF):=dA
def mn:ay ["thing","depth","kind"] ["thing","depth"] (ak oP):=dA
def ip:ay ["rule","found","inner"] ["rule"] (ak lP):=dA
def As:ay ["rule"] ["rule"] (ak lG):=dA
def Cd:ay ["thing"] ["thing"] (ak qT):=dA
abbrev qt:List Str:=["rule","marks","kind"]
def uN:ay qt ["rule","marks"] (ak pK):=dA
def Ax:ay ["thing"] ["thing"] (ak oO):=dA
def Cc:ay ["thing"] ["thing"] (ak qS):=dA
def Au:ay ["thing"] ["thing"] (ak oM):=dA
def yN:ay ["thing"] ["thing"] (ak mx):=dA
abbrev ja:List Str:=["thing","many"]
def wL:ay ja ["thing","many"] (ak iZ):=dA
abbrev oj:List Str:=["thing","many"]
def uV:ay oj ["thing","many"] (ak ix):=dA
def Ay:ay ["thing"] ["thing"] (ak lO):=dA
def uS:ay ["prime","salt"] ["prime","salt"] (ak ko):=dA
def wH:ay ["thing"] ["thing"] (ak lI):=dA
def uT:ay ["thing"] ["thing"] (ak kr):=dA
def uQ:ay ["thing"] ["thing"] (ak km):=dA
def wI:ay ["thing"] ["thing"] (ak lJ):=dA
def yP:ay ["thing","names"] ["thing","names"] (ak mz):=dA
def pE:ay ["thing","names"] ["thing","names"] (ak gB):=dA
def uR:ay ["thing","names"] ["thing","names"] (ak kn):=dA
abbrev kD:List Str:=["thing","prime","layers"]
def uP:ay kD ["thing","prime","layers"] (ak iw):=dA
def wK:ay ["thing"] ["thing"] (ak lN):=dA
def jk:ay ["thing","trials","k","name"] ["thing","trials"] (ak kj):=dA
def uU:ay ["thing"] ["thing"] (ak kt):=dA
def tM:ay ["thing","many"] ["thing","many"] (ak jl):=dA
def qP:ay ["total","weights","many"] ["total","weights","many"] (ak iN):=dA
def wJ:ay ["deed"] ["deed"] (ak lL):=dA
def uO:ay ["deed","layers","trials"] ["deed","layers","trials"] (ak ki):=dA
def kg:ay ["deed","trials","trial","many"] ["deed","trials"] (ak lK):=dA
def nU:ay ["deed","prime","layers","trials","kind"] ["deed","prime","layers","trials"] (ak lM):=dA
def jX:ay ["weights","given","best","k"] ["weights","given"] (ak oJ):=dA
def pD:ay ["total","weights","given","turn","k"] ["total","weights"] (ak yR):=dA
def ml:ay ["p","slope","point","x","y"] ["p","slope","point"] (ak oI):=dA
def tO:ay ["self","many"] ["self","many"] (ak jn):=dA
def pF:ay ["self","place"] ["self","place"] (ak gC):=dA
def oF:ay ["self","owner"] ["self","owner"] (ak fY):=dA
def wM:ay ["self"] ["self"] (ak i3):=dA
abbrev jb:List Str:=["self","wanted","more","back","owner","number"]
def dg:ay jb ["self","wanted"] (ak i0):=dA
def dL:ay ["self","owner","number","places","back","place"] ["self","owner","number"] (ak fZ):=dA
def iq:ay ["self","owner","number","places","more","place"] ["self","owner","number"] (ak lQ):=dA
def tP:ay ["self","slope","many"] ["self","slope","many"] (ak jo):=dA
def tN:ay ["self","home","arms","rule","shuts"] ["self","home","arms","rule","shuts"] (ak jm):=dA
def tR:ay ["self","prime","salt"] ["self","prime","salt"] (ak jq):=dA
def sM:ay ["self","deed","answer"] ["self","deed"] (ak oR):=dA
def nV:ay ["self","deed","kind"] ["self","deed"] (ak lS):=dA
def pJ:ay ["self","name","slope"] ["self","name","slope"] (ak gH):=dA
def pI:ay ["self","name","trial"] ["self","name","trial"] (ak gF):=dA
abbrev cQ:List Str:=["self","name","numbers","trial","layer","back","guests"]
def c9:ay cQ ["self","name","numbers"] (ak dB):=dA
def qQ:ay ["self","name","number"] ["self","name","number"] (ak iP):=dA
def jY:ay ["self","name","paused","trial"] ["self","name","paused"] (ak gG):=dA
def jZ:ay ["self","name","trial"] ["self","name"] (ak gI):=dA
def iM:ay ["self","guest","name","trial","layer"] ["self","guest","name"] (ak jp):=dA
def cD:ay ["self","guest","marks","answer","name","trial","arm","layer"] ["self","guest","marks"] (ak gE):=dA
def eS:ay ["self","layer","guests","out","guest","seat"] ["self","layer","guests"] (ak iO):=dA
abbrev fe:List Str:=["self","guest","marks","been","answer","name","layer","seat"]
def bE:ay fe ["self","guest","marks"] (ak dy):=dA
abbrev gX:List Str:=["self","layer","guest","marks","been","owner","trial"]
def fX:ay gX ["self","layer","guest","marks","been"] (ak eT):=dA
def pH:ay ["self","layer","guest"] ["self","layer","guest"] (ak gD):=dA
def oG:ay ["self","trial","arm"] ["self","trial","arm"] (ak f9):=dA
abbrev jF:List Str:=["self","trial"]
def tQ:ay jF ["self","trial"] (ak f8):=dA
abbrev dn:List Str:=["self","guest","standing"]
def mw:ay dn ["self","guest"] (ak fk):=dA
def AA:ay ["_law_script","_law_k"] ["_law_script","_law_k"] (ak oQ):=dA
def kM:ay ["_law_script","_law_k","_law_salt","_law_cell","_law_lap","_law_near"] ["_law_script","_law_k","_law_salt"] (ak uY):=dA
def pG:ay ["_law_k","_law_number","_law_some","_law_stem","_law_at"] ["_law_k","_law_number"] (ak yS):=dA
def kO:ay ["_law_k","_law_number","_law_some","_law_stem","_law_at","_law_own"] ["_law_k","_law_number"] (ak uZ):=dA
def mq:ay ["_law_number","_law_high","_law_way","_law_some","_law_word_here"] ["_law_number","_law_high"] (ak yU):=dA
abbrev wa:List Str:=["_law_number","_law_marks_here","_law_k","_law_word_here"]
def kN:ay wa ["_law_number"] (ak pL):=dA
def uW:ay ["_law_script","_law_number","_law_prime"] ["_law_script"] (ak yV):=dA
def kh:ay ["_law_script","_law_plan_here","_law_k","_law_name"] ["_law_script","_law_plan_here"] (ak lR):=dA
abbrev lX:List Str:=["_law_script","_law_plan_here","_law_number","_law_k","_law_name","_law_layer","_law_arms","_law_shuts","_law_more","_law_j"]
def cM:ay lX ["_law_script","_law_plan_here","_law_number"] (ak i4):=dA
abbrev mW:List Str:=["_law_script","_law_plan_here","_law_k","_law_number","_law_trial","_law_most","_law_weights"]
def nj:ay mW ["_law_script","_law_plan_here","_law_k","_law_number"] (ak mB):=dA
def kP:ay ["_law_script","_law_plan_here","_law_k","_law_number","_law_some","_law_guest_here","_law_early","_law_trial"] ["_law_script","_law_plan_here","_law_k"] (ak yW):=dA
def Az:ay ["_law_house","_law_deed_here","_law_found"] ["_law_house","_law_deed_here"] (ak yT):=dA
abbrev lg:List Str:=["_law_script","_law_house","_law_plan_here","_law_k","_law_dealt_last","_law_number","_law_some","_law_trial","_law_more","_law_numbers","_law_total","_law_weights"]
def fH:ay lg ["_law_script","_law_house","_law_plan_here","_law_k","_law_dealt_last"] (ak mC):=dA
def Ex:ay ["_law_dealt_last","_law_deed_here"] ["_law_dealt_last","_law_deed_here"] (ak uX):=dA
abbrev v0:List Str:=["_law_script","_law_plan_here","_law_house","_law_guests","_law_dealt_last","_law_k","_law_deed_here","_law_ahead","_law_found","_law_at","_law_now"]
def gA:ay v0 ["_law_script"] (ak xP):=dA
variable{P:RR}{w:World}{K:RM}{mg:RP}{base:Heap}{a:ke}{H H':Hp}
inductive IZ{A0 A1:Type}(p:A0->A1->Prop):Prop|mk(x0:A0)(x1:A1)(h:p x0 x1)
inductive Pf{A0 A1 A2:Type}(p:A0->A1->A2->Prop):Prop|mk(x0:A0)(x1:A1)(x2:A2)(h:p x0 x1 x2)
inductive Ex4{A0 A1 A2 A3:Type}(p:A0->A1->A2->A3->Prop):Prop|mk(x0:A0)(x1:A1)(x2:A2)(x3:A3)(h:p x0 x1 x2 x3)
inductive Ex5{A0 A1 A2 A3 A4:Type}(p:A0->A1->A2->A3->A4->Prop):Prop|mk(x0:A0)(x1:A1)(x2:A2)(x3:A3)(x4:A4)(h:p x0 x1 x2 x3 x4)
inductive Ex9{A0 A1 A2 A3 A4 A5 A6 A7 A8:Type}(p:A0->A1->A2->A3->A4->A5->A6->A7->A8->Prop):Prop|mk(x0:A0)(x1:A1)(x2:A2)(x3:A3)(x4:A4)(x5:A5)(x6:A6)(x7:A7)(x8:A8)(h:p x0 x1 x2 x3 x4 x5 x6 x7 x8)
structure PZ(p0 p1 p2 p3 p4:Prop):Prop where
 h0:p0
 h1:p1
 h2:p2
 h3:p3
 h4:p4
structure OY(p0 p1 p2 p3 p4 p5 p6 p7 p8 p9:Prop):Prop where
 h0:p0
 h1:p1
 h2:p2
 h3:p3
 h4:p4
 h5:p5
 h6:p6
 h7:p7
 h8:p8
 h9:p9
structure P1(p0 p1 p2 p3 p4 p5 p6 p7 p8 p9 p10 p11:Prop):Prop where
 h0:p0
 h1:p1
 h2:p2
 h3:p3
 h4:p4
 h5:p5
 h6:p6
 h7:p7
 h8:p8
 h9:p9
 h10:p10
 h11:p11
structure P0(p0 p1 p2 p3 p4 p5 p6 p7 p8 p9 p10 p11 p12:Prop):Prop where
 h0:p0
 h1:p1
 h2:p2
 h3:p3
 h4:p4
 h5:p5
 h6:p6
 h7:p7
 h8:p8
 h9:p9
 h10:p10
 h11:p11
 h12:p12
@[irreducible]def yn(ns:RX)(k:Int):Int:=if ns.length=0 then 0 else ns.getD (k%(ns.length:Int)).toNat 0
def OB(ns:RX)(k:Int):Int:=k/(if(ns.length:Int)>1 then(ns.length:Int)else 1)
def GZ(ns:RX)(k m:Int):Int:=(Builtin.bitAnd (yn ns k) 2147483647+1009*k*k+7919*m*m+12)*48271%2147483647
@[irreducible]def cr(ns:RX)(k m:Int):Int:=(yn ns k/2^(31*(m+128*OB ns k)).toNat+GZ ns k m*GZ ns k m%2147483629)%2147483648
def DH(ns:RX)(k m:Int):0<=cr ns k m/\cr ns k m<2147483648:=by unfold cr;exact bw _ (by decide)
inductive L3(K:RM)(vs:List V)(H:Hp)(Q:VK)(_E:XK):Prop|mk(a:Addr)(ns:RX)(k:Int)(_:vs=[.ref a,.int k])(_:aW K H a (ns.map V.int))(_:ns.length<=63)(_:Q (.int (yn ns k)) H)
inductive Jy(K:RM)(vs:List V)(H:Hp)(Q:VK)(_E:XK):Prop|mk(a:Addr)(ns:RX)(k m:Int)(_:vs=[.ref a,.int k,.int m])(_:aW K H a (ns.map V.int))(_:ns.length<=63)(_:(0<=k/\k<=1000000))(_:(0<=m/\m<=1000000))(_:Q (.int (cr ns k m)) H)
inductive F9(K:RM)(vs:List V)(H:Hp)(Q:VK)(_E:XK):Prop|mk(a:Addr)(ns:RX)(_:vs=[.ref a])(_:aW K H a (ns.map V.int))(_:ns.length<=63)(_:∀H',Q (.bl true) H')
section
variable{P:RR}{w:World}{K:RM}{mg:RP}{base:Heap}{a:ke}
def sP(T:Txt K mg a):aS P w K mg base dw 1 a.jH.x a.jH.d ["_law_script","_law_k"] (L3 K):=by
 refine T.jH.ok AA λe A outer s H f Q E g h=>?_
 ·obtain⟨p,ns,k,rfl,b,i,q⟩:=h;refine⟨_,(ah (aK (aD aT (ax (aH K rfl) (by rfl) T.bD L2.aJ (O (Y 0) ag)) af (aG _)) (ai (az af)) aB) (ai (az (gz K (Y 0) (av aO (Y 1) (ax (aH K rfl) (by rfl) T.bD L2.aJ (O (Y 0) ag))))))),?_⟩
  refine U rfl ⟨_,ns.length,rfl,.inl ⟨_,b,by simp⟩,rfl,U rfl ?_⟩;unfold yn at q;refine kA (λh0=>?_) (λh0=>?_)
  ·rw[ku (by lia)]at q;exact q
  have c:(0:Int)<(ns.length:Int):=by lia
  have hm:=bw k c;rw[j2 (by lia)]at q;exact U rfl (U rfl (U rfl ⟨_,ns.length,rfl,.inl ⟨_,b,by simp⟩,_,U rfl ⟨rfl,c,rX b (nI hm.1 hm.2) q⟩⟩))
def cq(T:Txt K mg a):aS P w K mg base dw 2 a.dG.x a.dG.d ["_law_script","_law_k","_law_salt"] (Jy K):=by
 refine T.dG.ok kM λi A outer s H v Q E j h=>?_
 ·obtain⟨p,ns,k,m,rfl,e,l,⟨o,y⟩,⟨z,B⟩,q⟩:=h;refine⟨_,(ah (bq 3 kM.nd (pc T.jH (sP T) j (O (Y 0) (O (Y 1) ag)))) (ah (bq 4 kM.nd (av bg (Y 1) (ax (Fu rfl) (by rfl) T.Op L2.IF (O af (O (ax (aH K rfl) (by rfl) T.bD L2.aJ (O (Y 0) ag)) ag))))) (ah (bq 5 kM.nd (av bG (av bG (av bG (av GT (Y 3) af) (av gJ (av gJ af (Y 1)) (Y 1))) (av gJ (av gJ af (Y 2)) (Y 2))) af)) (ah (bq 5 kM.nd (av aO (av gJ (Y 5) af) af)) (ai (az (av GT (av bG (av Mr (Y 3) (av gJ af (av bG (Y 2) (av gJ af (Y 4))))) (av aO (av gJ (Y 5) (Y 5)) af)) af))))))),?_⟩
  unfold cr GZ OB at q;refine U rfl (U rfl ⟨p,ns,k,rfl,e,l,?_⟩);generalize yn ns k=c at q⊢;have hn:∃n:Int,n=(if(ns.length:Int)>1 then(ns.length:Int)else 1)/\0<n/\n<1073741824:=(U rfl ⟨by split<;>lia,by split<;>lia⟩);obtain⟨n,f,r,n1⟩:=hn;rw[<-f]at q;refine U rfl (U rfl ⟨_,ns.length,rfl,.inl ⟨_,e,by simp⟩,_,U rfl ⟨_,n,rfl,by rw[f],⟨r,n1⟩,?_⟩⟩);have t:0<=k/n:=Int.ediv_nonneg o (by lia)
  try dsimp only
  generalize k/n=u at t q⊢;refine U rfl (r2 (U rfl (r2 ⟨.inl ⟨by decide,by decide⟩,U rfl (r2 ⟨.inr ⟨by lia,by lia⟩,_,U rfl ⟨rfl,U rfl (r2 ⟨.inl ⟨by decide,by decide⟩,U rfl (r2 ⟨.inr ⟨by lia,by lia⟩,_,U rfl ⟨rfl,r2 ?_⟩⟩)⟩)⟩⟩)⟩)));refine U rfl (r2 ⟨.inr ⟨by decide,by decide⟩,_,U rfl ⟨rfl,(by show(0:Int)<_;first|decide|lia),?_⟩⟩);have b:=bw ((Builtin.bitAnd c 2147483647+1009*k*k+7919*m*m+12)*48271) (show(0:Int)<2147483647 by decide)
  try dsimp only
  generalize(Builtin.bitAnd c 2147483647+1009*k*k+7919*m*m+12)*48271%2147483647=g at b q⊢;refine U rfl (U rfl (U rfl (r2 ⟨.inl ⟨by decide,by decide⟩,_,U rfl ⟨rfl,r2 ⟨.inl ⟨by decide,by decide⟩,_,U rfl ⟨rfl,(by show(0:Int)<=_;lia),U rfl (U rfl (r2 ⟨.inl ⟨by lia,by lia⟩,_,U rfl ⟨rfl,(by show(0:Int)<_;first|decide|lia),_,U rfl ⟨rfl,r2 ?_⟩⟩⟩))⟩⟩⟩⟩)))
  try dsimp only
  rw[MD];exact q
def ER(T:Txt K mg a)(s:Shared)(u:Value):BindsTo s a.law.d ⟨[u],[]⟩ [("_law_script",u)]:=by obtain⟨oc,i,kV,b,pm,j,c,ct,g,e,k,h⟩:=T.law.f.ex;rw[e];exact .of_eq rfl
def EQ{p:Addr}{ns:RX}(b:ns.length<=63)(c:aW K H p (ns.map V.int)):F9 K [.ref p] H (λv _=>v=.bl true) λ_ _ _=>False:=⟨p,ns,rfl,c,b,λ_=>rfl⟩
end
section
variable{g j:Type}{F G:g->j->Prop}{a c:List g}{b d:List j}
def Paired.mapM(h:Paired F a b)(f:∀x∈a,∀y,F x y->G x y):Paired G a b:=by induction h with|nil=>exact .nil|cons h _ e=>exact .cons (f _ kw _ h) (e λx m=>f x (i_ _ m))
def Paired.ex(h:Paired F a b):∀x∈a,∃y,F x y:=by induction h with|nil=>exactλx e=>(nomatch e)|cons h _ f=>
  intro x e;rcases ov.mp e with rfl|m
  ·exact⟨_,h⟩
  ·exact f x m
def Paired.at_(h:Paired F a b):∀(i:Nat)(x:g),a[i]?=some x->∃y,b[i]?=some y/\F x y:=by induction h with|nil=>exactλi x e=>(nomatch e)|cons h _ f=>intro i x e;cases i with|zero=>obtain rfl:=k_ e;exact⟨_,rfl,h⟩|succ i=>exact f i x e
def qW(h:Paired F a b):∀(i:Nat)(y:j),b[i]?=some y->∃x,a[i]?=some x/\F x y:=by induction h with|nil=>exactλi x e=>(nomatch e)|cons h _ f=>intro i x e;cases i with|zero=>obtain rfl:=k_ e;exact⟨_,rfl,h⟩|succ i=>exact f i x e
def GL(h:Paired F a b)(k:Paired F c d):Paired F (a++c) (b++d):=by induction h with|nil=>exact k|cons h _ e=>exact .cons h e
end
inductive Ru where|any|has(w:Str)|least(w:Str)(n:Int)|not(q:Ru)|both(q r:Ru)|either(q r:Ru)
def Ru.hgt:Ru->Nat|.any=>1|.has _=>1|.least _ _=>1|.not q=>q.hgt+1|.both q r=>max q.hgt r.hgt+1|.either q r=>max q.hgt r.hgt+1
def Ru.hgt_pos:∀r:Ru,0<r.hgt|.any=>Nat.one_pos|.has _=>Nat.one_pos|.least _ _=>Nat.one_pos|.not _=>Qu _|.both _ _=>Qu _|.either _ _=>Qu _
def OK(w:Str)(m:Str×Int):Bool:=decide (V.str m.1=V.str w)
def gL(w:Str)(n:Int)(m:Str×Int):Bool:=if decide (V.str m.1=V.str w)=true then decide (n<=m.2)else false
def Ru.sat(b:List (Str×Int)):Ru->Bool|.any=>true|.has w=>(b.map (OK w)).any id|.least w n=>(b.map (gL w n)).any id|.not q=>!q.sat b|.both q r=>if q.sat b=true then r.sat b else false|.either q r=>if q.sat b=true then true else r.sat b
inductive eY(K:RM)(H:Hp):Ru->V->Prop|any{a:Addr}:aU K H a [.str "any"]->eY K H .any (.ref a)|has{a:Addr}{w:Str}:aU K H a [.str "has",.str w]->eY K H (.has w) (.ref a)|least{a:Addr}{w:Str}{n:Int}:aU K H a [.str "least",.str w,.int n]->eY K H (.least w n) (.ref a)|not{a:Addr}{q:Ru}{v:V}:aU K H a [.str "not",v]->eY K H q v->eY K H (.not q) (.ref a)|both{a:Addr}{q r:Ru}{v u:V}:aU K H a [.str "both",v,u]->eY K H q v->eY K H r u->eY K H (.both q r) (.ref a)|either{a:Addr}{q r:Ru}{v u:V}:aU K H a [.str "either",v,u]->eY K H q v->eY K H r u->eY K H (.either q r) (.ref a)
def Nc(H H':Hp):Prop:=∀u b,H u=some (.tup b)->H' u=some (.tup b)
def Nc.sq{a:Addr}{c:List V}(e:Nc H H')(d:∀u o,(∃b,H u=some (.frz b o))->∃b,H' u=some (.frz b o))(h:aU K H a c):aU K H' a c:=by
 rcases h with h|h
 ·rcases h with h|h
  ·exact .inl (.inl (e _ _ h))
  ·exact .inl (.inr (d _ _ h))
 ·exact .inr h
structure Kp(H H':Hp):Prop where
 tp:Nc H H'
 fz:∀u o,(∃o',H u=some (.frz o' o))->∃o',H' u=some (.frz o' o)
def Kp.trans(a:Kp H d)(b:Kp d e):Kp H e:=⟨λu c h=>b.tp u c (a.tp u c h),λu o h=>b.fz u o (a.fz u o h)⟩
def Kp.of(h:aq H H'):Kp H H':=⟨λu c e=>h u _ e,λu o⟨b,e⟩=>⟨b,h u _ e⟩⟩
theorem Kp.lst{a:Addr}{o:HO}{c:List V}(b:H a=some (.lst c)):Kp H (aA H a o):=⟨λu f h=>by rw[ao (λe=>by rw[e,b]at h;cases h)];exact h,λu o⟨d,h⟩=>⟨d,by rw[ao (λe=>by rw[e,b]at h;cases h)];exact h⟩⟩
def Kp.new{a:Addr}{o:HO}(hn:H a=none):Kp H (aA H a o):=.of (aj (aq.refl H) hn)
def Kp.tq{a:Addr}{b:List V}(e:Kp H H')(h:aU K H a b):aU K H' a b:=e.tp.sq e.fz h
def eY.kp(e:Kp H H')(h:eY K H r v):eY K H' r v:=by induction h with|any h=>exact .any (e.tq h)|has h=>exact .has (e.tq h)|least h=>exact .least (e.tq h)|not h _ q=>exact .not (e.tq h) q|both h _ _ q r=>exact .both (e.tq h) q r|either h _ _ q r=>exact .either (e.tq h) q r
def uf(K:RM)(H:Hp)(d:List (Str×Int))(v:V):Prop:=∃a c,v=.ref a/\aU K H a c/\c.length=d.length/\∀(i:Nat)(m:Str×Int),d[i]?=some m->∃b,c[i]?=some (.ref b)/\aU K H b [.str m.1,.int m.2]
def uf.kp(e:Kp H H')(h:uf K H c v):uf K H' c v:=by obtain⟨a,d,h1,h2,h3,h4⟩:=h;exact⟨a,d,h1,e.tq h2,h3,λi m hm=>let⟨b,f,g⟩:=h4 i m hm;⟨b,f,e.tq g⟩⟩
def uD{b c:Type}{f:b->c}{l:List b}{i:Nat}{m:b}(h:l[i]?=some m):(l.take (i+1)).map f=(l.take i).map f++[f m]:=by rw[u_,h,j1];rfl
inductive kC(ws:RS):Ru->Prop|any:kC ws .any|has{w:Str}:w∈ws->kC ws (.has w)|least{w:Str}{n:Int}:w∈ws->-c7<=n->n<=c7->kC ws (.least w n)|not{q:Ru}:kC ws q->kC ws (.not q)|both{q r:Ru}:kC ws q->kC ws r->kC ws (.both q r)|either{q r:Ru}:kC ws q->kC ws r->kC ws (.either q r)
def m7:(100:Int)<=c7:=by have:=xJ;lia
def Ru.subs:Ru->List Ru|.any=>[.any]|.has w=>[.has w]|.least w n=>[.least w n]|.not q=>.not q::q.subs|.both q r=>.both q r::(q.subs++r.subs)|.either q r=>.either q r::(q.subs++r.subs)
def Ru.cnt(r:Ru):Nat:=r.subs.length
def Ru.words:Ru->List Str|.any=>[]|.has w=>[w]|.least w _=>[w]|.not q=>q.words|.both q r=>q.words++r.words|.either q r=>q.words++r.words
def Ru.word1:Ru->Option Str|.has w=>some w|.least w _=>some w|_=>none
theorem Ru.words_subs:∀r:Ru,r.subs.filterMap Ru.word1=r.words|.any=>rfl|.has _=>rfl|.least _ _=>rfl|.not q=>by show(Ru.not q::q.subs).filterMap Ru.word1=q.words;rw[QG rfl,q.words_subs]|.both q r=>by show(Ru.both q r::(q.subs++r.subs)).filterMap Ru.word1=q.words++r.words;rw[QG rfl,Es,q.words_subs,r.words_subs]|.either q r=>by show(Ru.either q r::(q.subs++r.subs)).filterMap Ru.word1=q.words++r.words;rw[QG rfl,Es,q.words_subs,r.words_subs]
def Dw{a b:Nat}:2^a+2^b<=2^(max a b+1):=by have h1:2^a<=2^max a b:=I_ (by decide) (Q1 _ _);have h2:2^b<=2^max a b:=I_ (by decide) (QN _ _);rw[QT];lia
theorem Ru.cnt_lt:∀r:Ru,r.cnt+1<=2^r.hgt|.any=>g_ _|.has _=>g_ _|.least _ _=>g_ _|.not q=>by have h:=q.cnt_lt;show(q.subs.length+1)+1<=2^(q.hgt+1);unfold Ru.cnt at h;rw[QT];have:=q.hgt_pos;have:2^1<=2^q.hgt:=I_ (by decide) this;lia|.both q r=>by have h1:=q.cnt_lt;have h2:=r.cnt_lt;show((q.subs++r.subs).length+1)+1<=2^(max q.hgt r.hgt+1);unfold Ru.cnt at h1 h2;rw[iA];have:=Dw (a:=q.hgt) (b:=r.hgt);lia|.either q r=>by have h1:=q.cnt_lt;have h2:=r.cnt_lt;show((q.subs++r.subs).length+1)+1<=2^(max q.hgt r.hgt+1);unfold Ru.cnt at h1 h2;rw[iA];have:=Dw (a:=q.hgt) (b:=r.hgt);lia
def Ru.words_le(r:Ru):r.words.length<=r.cnt:=by rw[<-r.words_subs];exact P5 _ _
structure BN(s:Str)(m:Nat)(x:Str):Prop where
 lo:1<=x.length
 hi:x.length<=m
 cs:∀c∈x.cps.toList,c∈s.cps.toList
abbrev vn:Str:="abcdefghijklmnopqrstuvwxyz"
abbrev kB:Str:="abcdefghijklmnopqrstuvwxyz0123456789"
abbrev Wd:Str->Prop:=BN vn 12
abbrev BY:Str->Prop:=BN kB 24
def Ho(x:Str):x.cps.toList.length=x.length:=by show x.cps.toList.length=x.cps.size;simp
def Gw:List Str:=["ab","ba","b","a","aab","abab","bab","aa","abb","baa","bb","soap"]
def Ds:Nat->Str|0=>""|1=>"soap"|2=>"upperlayer"|_=>"z"
def jV(N:Int):Str:=Ds (N%4).toNat
def FB(N:Int):Int:=N/4%(((jV N).length:Int)+1)
def pW(k:Nat):Str:=⟨#[97+k]⟩
def xO(i:Nat):Str:=(Gw[i]?).getD "a"
def Hc(z:Str)(i:Int)(c:Nat):Str:=Txt.slice z none (some i)++pW c++Txt.slice z (some i) none
def cL(k N:Int):Str:=if N/40%2=1 then xO ((k+N/80)%12).toNat else Hc (jV N) (FB N) ((k+N/80)%26).toNat
def No(x:Str):Bool:=decide (1<=x.length)&&decide (x.length<=12)&&x.cps.toList.all λc=>decide (c∈vn.cps.toList)
def Dq(h:No x=true):Wd x:=by unfold No at h;rw[oi,oi]at h;exact⟨rd h.1.1,rd h.1.2,λc hc=>rd (List.all_eq_true.mp h.2 c hc)⟩
def JO:∀i∈List.range 12,No (xO i)=true:=by decide+kernel
def Gs:∀i∈List.range 12,∀j∈List.range 12,xO i=xO j->i=j:=by decide+kernel
def MC:∀r∈List.range 4,∀i∈List.range 11,∀c∈List.range 26,No (Hc (Ds r) (i:Int) c)=true:=by decide+kernel
def Ei(r:Nat):(Ds r).length<=10:=by
 unfold Ds
 split<;>decide+kernel
def xN(N:Int):(jV N).length<=10:=Ei _
def IH(N:Int):0<=FB N/\FB N<((jV N).length:Int)+1:=⟨Qq _ (by lia),P8 _ (by lia)⟩
def uy(k N:Int):Wd (cL k N):=by
 unfold cL;have b1:=bw (k+N/80) (show(0:Int)<12 by decide);have b2:=bw (k+N/80) (show(0:Int)<26 by decide);have b3:=bw N (show(0:Int)<4 by decide);have b4:=IH N;have b5:=xN N
 split
 ·exact Dq (JO _ (by rw[si];lia))
 ·have:=MC (N%4).toNat (by rw[si];lia) (FB N).toNat (by rw[si];lia) ((k+N/80)%26).toNat (by rw[si];lia);rw[show(((FB N).toNat:Nat):Int)=FB N by lia]at this;exact Dq this
def Kb(h:Hc z i c=Hc z i d):c=d:=by have h:((Txt.slice z none (some i)).cps++#[97+c]++(Txt.slice z (some i) none).cps)=((Txt.slice z none (some i)).cps++#[97+d]++(Txt.slice z (some i) none).cps):=rb Str.cps h;have h2:=rb Array.toList h;simp at h2;exact h2
def qM(hi:0<=i/\i<12)(b:0<=j/\j<12)(h:cL i N=cL j N):i=j:=by
 unfold cL at h
 split at h
 ·have:=Gs _ (by rw[si];lia) _ (by rw[si];lia) h;lia
 ·have:=Kb h;lia
def Hn:∀c∈List.range 26,xy ("abcdefghijklmnopqrstuvwxyz":Str).cps.toList (c:Int)=some (97+c):=by decide+kernel
def F0:xy [V.str "",V.str "soap",V.str "upperlayer",V.str "z"] (N%4)=some (V.str (jV N)):=by have h1:0<=N%4:=Qq _ (by decide);have h2:N%4<4:=P8 _ (by decide);unfold jV;rcases(by lia:N%4=0\/N%4=1\/N%4=2\/N%4=3)with e|e|e|e<;>rw[e]<;>rfl
def Gu:∀i∈List.range 12,xy (Gw.map V.str) (i:Int)=some (V.str (xO i)):=by intro i hi;rw[si]at hi;rcases(by lia:i=0\/i=1\/i=2\/i=3\/i=4\/i=5\/i=6\/i=7\/i=8\/i=9\/i=10\/i=11)with rfl|rfl|rfl|rfl|rfl|rfl|rfl|rfl|rfl|rfl|rfl|rfl<;>rfl
inductive Jl(vs:List V)(H:Hp)(Q:VK)(_E:XK):Prop|mk(k N:Int)(_:vs=[.int k,.int N])(_:∀H',aq H H'->Q (.str (cL k N)) H')
section
def vi(T:Txt K mg a):aS P w K mg base dw 1 a.tu.x a.tu.d ["_law_k","_law_number"] Jl:=by
 refine T.tu.ok pG λp A outer s H y Q E z h=>?_
 ·obtain⟨k,N,rfl,q⟩:=h;refine⟨_,(ah (aK (aD aT (av aO (av bg (Y 1) af) af) af (aG _)) (ah (bq 2 pG.nd (bA (O aC (O aC (O aC (O aC (O aC (O aC (O aC (O aC (O aC (O aC (O aC (O aC ag)))))))))))))) (ai (az (gz K (Y 2) (av aO (av bG (Y 0) (av bg (Y 1) af)) af))))) aB) (ah (bq 3 pG.nd (gz K (bA (O aC (O aC (O aC (O aC ag))))) (av aO (Y 1) af))) (ah (bq 4 pG.nd (av aO (av bg (Y 1) af) (av bG (ax (aH K rfl) (by rfl) T.bD L2.aJ (O (Y 3) ag)) af))) (ai (az (av jx (av jx (gc yL (Y 3) i7 (i6 (Y 4))) (AI CU aC (av aO (av bG (Y 0) (av bg (Y 1) af)) af) (λ_ _=>rfl))) (gc yL (Y 3) (i6 (Y 4)) i7))))))),?_⟩
  have b1:=bw (k+N/80) (show(0:Int)<12 by decide);have b2:=bw (k+N/80) (show(0:Int)<26 by decide);have hsl:=xN N
  (repeat(first|refine U rfl ?_|refine r2 ?_|refine⟨(rfl:fj _ _=true),?_⟩|refine⟨(show fh _ _ from cd rfl),?_⟩|refine⟨(show(0:Int)<_ by first|decide|lia),?_⟩|refine⟨(rfl:V.int 10=V.int 10),rfl,?_⟩))
  refine kA (λf=>?_) (λf=>?_)
  ·have g:cL k N=xO ((k+N/80)%12).toNat:=ku f;refine⟨ls rfl,λl i=>?_⟩
   (repeat(first|refine U rfl ?_|refine r2 ?_|refine⟨(rfl:fj _ _=true),?_⟩|refine⟨(show fh _ _ from cd rfl),?_⟩|refine⟨(show(0:Int)<_ by first|decide|lia),?_⟩|refine⟨(rfl:V.int 10=V.int 10),rfl,?_⟩))
   have c:=Gu ((k+N/80)%12).toNat (by rw[si];lia);rw[show((((k+N/80)%12).toNat:Nat):Int)=(k+N/80)%12 by lia]at c;refine⟨l,_,_,U rfl ⟨rfl,aW.of ae,c,?_⟩⟩;rw[<-g];exact q _ (aj (aq.refl H) i)
  ·have g:cL k N=Hc (jV N) (FB N) ((k+N/80)%26).toNat:=j2 f;refine⟨ls rfl,λl i=>?_⟩;have n:=aj (o:=.lst [V.str "",V.str "soap",V.str "upperlayer",V.str "z"]) (aq.refl H) i;have e:aA H l (.lst [V.str "",V.str "soap",V.str "upperlayer",V.str "z"]) l=some (.lst [V.str "",V.str "soap",V.str "upperlayer",V.str "z"]):=ae;generalize aA H l (.lst [V.str "",V.str "soap",V.str "upperlayer",V.str "z"])=B at n e⊢
   (repeat(first|refine U rfl ?_|refine r2 ?_|refine⟨(rfl:fj _ _=true),?_⟩|refine⟨(show fh _ _ from cd rfl),?_⟩|refine⟨(show(0:Int)<_ by first|decide|lia),?_⟩|refine⟨(rfl:V.int 10=V.int 10),rfl,?_⟩))
   refine⟨l,_,_,U rfl ⟨rfl,aW.of e,F0,au ?_⟩⟩;have r:=IH N;have t:=Txt.slice_le (jV N) none (some (FB N));have u:=Txt.slice_le (jV N) (some (FB N)) none
   (repeat(first|refine U rfl ?_|refine r2 ?_|refine⟨(rfl:fj _ _=true),?_⟩|refine⟨(show fh _ _ from cd rfl),?_⟩|refine⟨(show(0:Int)<_ by first|decide|lia),?_⟩|refine⟨(rfl:V.int 10=V.int 10),rfl,?_⟩))
   refine⟨_,(jV N).length,rfl,⟨de (by lia),rfl⟩,_,U rfl ⟨rfl,r2 ⟨(by show(0:Int)<_;lia),au ?_⟩⟩⟩;have j:∀a b:Str,(a++b).length=a.length+b.length:=λa b=>by show(a.cps++b.cps).size=a.cps.size+b.cps.size;exact Array.size_append
   have v:(pW ((k+N/80)%26).toNat).length=1:=rfl;have c:=Hn ((k+N/80)%26).toNat (by rw[si];lia);rw[show((((k+N/80)%26).toNat:Nat):Int)=(k+N/80)%26 by lia]at c;refine U rfl (U rfl ⟨FB N,rfl,jV N,rfl,de (by lia),?_⟩)
   (repeat(first|refine U rfl ?_|refine r2 ?_|refine⟨(rfl:fj _ _=true),?_⟩|refine⟨(show fh _ _ from cd rfl),?_⟩|refine⟨(show(0:Int)<_ by first|decide|lia),?_⟩|refine⟨(rfl:V.int 10=V.int 10),rfl,?_⟩))
   refine⟨"abcdefghijklmnopqrstuvwxyz",_,97+((k+N/80)%26).toNat,rfl,rfl,de (by decide+kernel),c,_,pW ((k+N/80)%26).toNat,rfl,rfl,de (by lia),U rfl (U rfl ⟨FB N,rfl,jV N,rfl,de (by lia),_,U rfl ⟨rfl,de (by rw[j];lia),?_⟩⟩)⟩;have m:Txt.slice (jV N) none (some (FB N))++pW ((k+N/80)%26).toNat++Txt.slice (jV N) (some (FB N)) none=cL k N:=by rw[g];rfl
   rw[m];exact q _ n
end
inductive Jm(K:RM)(vs:List V)(H:Hp)(Q:VK)(_E:XK):Prop|mk(z:_)(_:vs=[.int z])(_:Q (.bl true) H)
inductive F5(vs:List V)(H:Hp)(Q:VK)(_E:XK):Prop|mk(x s:Str)(m:Nat)(_:vs=[.str x,.str s,.int m])(_:BN s m x)(_:m<=60)(_:∀H',aq H H'->Q (.bl true) H')
inductive Pq(vs:List V)(H:Hp)(Q:VK)(_E:XK):Prop|mk(x:_)(_:vs=[.str x])(_:Wd x)(_:∀H',aq H H'->Q (.bl true) H')
inductive N7(vs:List V)(H:Hp)(Q:VK)(_E:XK):Prop|mk(x:_)(_:vs=[.str x])(_:BY x)(_:∀H',aq H H'->Q (.bl true) H')
inductive N6(vs:List V)(H:Hp)(Q:VK)(_E:XK):Prop|mk(z:_)(_:vs=[.int z])(_:(-c7<=z/\z<=c7))(_:Q (.bl true) H)
inductive JF(vs:List V)(H:Hp)(Q:VK)(_E:XK):Prop|mk(z:_)(_:vs=[.int z])(_:0<=z)(_:Q (.bl true) H)
inductive Jo(vs:List V)(H:Hp)(Q:VK)(_E:XK):Prop|mk(z:_)(_:vs=[.int z])(_:(0<=z/\z<=1000))(_:Q (.bl true) H)
inductive F3(vs:List V)(H:Hp)(Q:VK)(_E:XK):Prop|mk(z:_)(_:vs=[.int z])(_:(1<=z/\z<=c7))(_:Q (.bl true) H)
def lA{Q:VK}{p:Prop}[Decidable p]{H:Hp}(h:p)(q:Q (.bl true) H):Q (.bl (decide p)) H:=by rw[m_ h];exact q
section
def j4(T:Txt K mg a):aS P w K mg base dw 1 a.gi.x a.gi.d ["thing"] (Jm K):=by
 refine T.gi.ok At λb A outer s H c Q E e h=>?_
 ·obtain⟨z,rfl,k⟩:=h;refine⟨_,(ai (az (cE (ax (gT K rfl) (by rfl) T.bn L2.aV (O (Y 0) (O (ju rfl T.Oq L2.IG) ag))) (dC (GO (ax (gT K rfl) (by rfl) T.bn L2.aV (O (Y 0) (O (ju rfl T.MB L2.FA) ag)))))))),?_⟩;refine U rfl ⟨_,"int",_,true,rfl,.int z,eK (by decide+kernel),true,rfl,bH ?_⟩;exact U rfl ⟨_,"bool",_,false,rfl,.int z,eK (by decide+kernel),false,rfl,k⟩
def nW(T:Txt K mg a):aS P w K mg base dw 1 a.fD.x a.fD.d ["thing","signs","longest"] F5:=by
 refine T.fD.ok wG λj A outer s H o Q E p h=>?_
 ·obtain⟨x,r,m,rfl,f,hm,q⟩:=h;have k:=f.hi;have l:=f.lo;refine⟨_,(ah (aK (b7 (aP K rfl (ax (gT K rfl) (by rfl) T.bn L2.aV (O (Y 0) (O (ju rfl T.DF L2.ql) ag))) (λ_=>rfl))) (ai (az iG)) aB) (ai (az (cE (u6 j3 j3 af (ax (aH K rfl) (by rfl) T.bD L2.aJ (O (Y 0) ag)) (Y 2)) (dC (ax (gU K rfl rfl) (by rfl) T.vk L2.jD (O (wB lW ["sign"] [] [3] (ak iY) (bZ 3) (GN (Y 0)) (λcl C s₀ H₀ ex=>⟨(nq lW ["sign"] 3),bR,(bY EE (Y 3) (Y 1) (by with_unfolding_all rfl))⟩)) ag))))))),?_⟩
  refine U rfl ⟨_,"str",_,true,rfl,.str x,eK (by decide+kernel),true,rfl,cj ?_⟩;refine U rfl ⟨_,x.length,rfl,⟨by rw[k4];lia,rfl⟩,_,U rfl ⟨rfl,U rfl ?_⟩⟩;refine nL (λh1=>?_) (λh1=>absurd (by lia) h1);refine U rfl (r2 (U rfl ?_));refine nL (λh2=>?_) (λh2=>absurd (by exact Int.ofNat_le.mpr k) h2);refine U rfl ⟨x,rfl,λD n=>?_⟩;have t:=Ho x;refine Iw (K:=K) (z:=x) (λi b g=>b=(List.replicate i true).map V.bl/\g=aA H D (.lst b)) ⟨rfl,rfl⟩ ?_ ?_
  ·rintro i c b g hc⟨rfl,rfl⟩;have hi:i<x.cps.toList.length:=(d_.mp hc).1;refine au (iL (bH ?_));refine U rfl (U rfl ⟨_,U rfl ⟨rfl,ae,?_,lf hi ⟨?_,?_⟩⟩⟩)
   ·rw[c_,zz,k4];lia
   ·rw[StrLaws.found_one,m_ (f.cs c (il hc)),Rb,j1];rfl
   ·rw[fW]
  ·rintro b g⟨rfl,rfl⟩;refine⟨D,_,rfl,aW.of ae,?_⟩;have e:(List.replicate x.cps.toList.length true).all id=true:=by simp
   rw[e];exact q _ (aj (aq.refl _) n)
def gK(T:Txt K mg a):aS P w K mg base dw 2 a.dU.x a.dU.d ["thing"] Pq:=by
 refine T.dU.ok Cb λb A outer s H f Q E c h=>?_
 ·obtain⟨x,rfl,e,q⟩:=h;refine⟨_,(ai (az (pc T.fD (nW T) c (O (Y 0) (O (cA T.Fz rfl) (O (cA T.vQ rfl) ag)))))),?_⟩;exact U rfl ⟨x,_,12,rfl,e,by decide,q⟩
def AR(T:Txt K mg a):aS P w K mg base dw 2 a.k6.x a.k6.d ["thing"] N7:=by
 refine T.k6.ok Aw λb A outer s H f Q E c h=>?_
 ·obtain⟨x,rfl,e,q⟩:=h;refine⟨_,(ai (az (pc T.fD (nW T) c (O (Y 0) (O (cA T.oh rfl) (O (cA T.ue rfl) ag)))))),?_⟩;exact U rfl ⟨x,_,24,rfl,e,by decide,q⟩
def pN(T:Txt K mg a):aS P w K mg base dw 2 a.eV.x a.eV.d ["thing"] N6:=by
 refine T.eV.ok yO λb A outer s H e Q E c h=>?_
 ·obtain⟨z,rfl,⟨h1,h2⟩,q⟩:=h;refine⟨_,(ai (az (cE (pc T.gi (j4 T) c (O (Y 0) ag)) (dC (u6 j3 j3 (Oi LB (av u8 af af)) (Y 0) (av u8 af af)))))),?_⟩;refine U rfl ⟨z,rfl,U rfl (bH ?_)⟩
  (repeat(first|refine U rfl ?_|refine r2 ?_|refine⟨(rfl:fj _ _=true),?_⟩|refine⟨(show fh _ _ from cd rfl),?_⟩|refine⟨(show(0:Int)<_ by first|decide|lia),?_⟩|refine⟨(rfl:V.int 10=V.int 10),rfl,?_⟩))
  refine nL (λ_=>?_) (λh=>absurd h1 h)
  (repeat(first|refine U rfl ?_|refine r2 ?_|refine⟨(rfl:fj _ _=true),?_⟩|refine⟨(show fh _ _ from cd rfl),?_⟩|refine⟨(show(0:Int)<_ by first|decide|lia),?_⟩|refine⟨(rfl:V.int 10=V.int 10),rfl,?_⟩))
  exact lA h2 q
def iH(T:Txt K mg a):aS P w K mg base dw 2 a.fu.x a.fu.d ["thing"] JF:=by
 refine T.fu.ok Ax λb A outer s H e Q E c h=>?_
 ·obtain⟨z,rfl,h1,q⟩:=h;refine⟨_,(ai (az (cE (pc T.gi (j4 T) c (O (Y 0) ag)) (dC (bY Ld (Y 0) af (aG _)))))),?_⟩;refine U rfl ⟨z,rfl,U rfl (bH ?_)⟩
  (repeat(first|refine U rfl ?_|refine r2 ?_|refine⟨(rfl:fj _ _=true),?_⟩|refine⟨(show fh _ _ from cd rfl),?_⟩|refine⟨(show(0:Int)<_ by first|decide|lia),?_⟩|refine⟨(rfl:V.int 10=V.int 10),rfl,?_⟩))
  exact lA h1 q
def AO(T:Txt K mg a):aS P w K mg base dw 3 a.kY.x a.kY.d ["thing"] Jo:=by
 refine T.kY.ok Au λb A outer s H e Q E c h=>?_
 ·obtain⟨z,rfl,⟨h1,h2⟩,q⟩:=h;refine⟨_,(ai (az (cE (pc T.fu (iH T) c (O (Y 0) ag)) (dC (bY j3 (Y 0) (cA T.zP rfl) (aG _)))))),?_⟩;refine U rfl ⟨z,rfl,h1,U rfl (bH ?_)⟩
  (repeat(first|refine U rfl ?_|refine r2 ?_|refine⟨(rfl:fj _ _=true),?_⟩|refine⟨(show fh _ _ from cd rfl),?_⟩|refine⟨(show(0:Int)<_ by first|decide|lia),?_⟩|refine⟨(rfl:V.int 10=V.int 10),rfl,?_⟩))
  exact lA h2 q
def yY(T:Txt K mg a):aS P w K mg base dw 2 a.jd.x a.jd.d ["thing"] F3:=by
 refine T.jd.ok yN λb A outer s H e Q E c h=>?_
 ·obtain⟨z,rfl,⟨h1,h2⟩,q⟩:=h;refine⟨_,(ai (az (cE (pc T.gi (j4 T) c (O (Y 0) ag)) (dC (u6 j3 j3 af (Y 0) (av u8 af af)))))),?_⟩;refine U rfl ⟨z,rfl,U rfl (bH ?_)⟩
  (repeat(first|refine U rfl ?_|refine r2 ?_|refine⟨(rfl:fj _ _=true),?_⟩|refine⟨(show fh _ _ from cd rfl),?_⟩|refine⟨(show(0:Int)<_ by first|decide|lia),?_⟩|refine⟨(rfl:V.int 10=V.int 10),rfl,?_⟩))
  refine nL (λ_=>?_) (λh=>absurd h1 h)
  (repeat(first|refine U rfl ?_|refine r2 ?_|refine⟨(rfl:fj _ _=true),?_⟩|refine⟨(show fh _ _ from cd rfl),?_⟩|refine⟨(show(0:Int)<_ by first|decide|lia),?_⟩|refine⟨(rfl:V.int 10=V.int 10),rfl,?_⟩))
  exact lA h2 q
end
inductive LW(K:RM)(vs:List V)(H:Hp)(Q:VK)(_E:XK):Prop|mk(b:Addr)(m:Str×Int)(_:vs=[.ref b])(_:aU K H b [.str m.1,.int m.2])(_:Wd m.1)(_:(-c7<=m.2/\m.2<=c7))(_:∀H',aq H H'->Q (.bl true) H')
inductive Jz(K:RM)(vs:List V)(H:Hp)(Q:VK)(_E:XK):Prop|mk(v:V)(l:List (Str×Int))(_:vs=[v])(_:uf K H l v)(_:(∀m∈l,Wd m.1/\-c7<=m.2/\m.2<=c7))(_:(l.map Prod.fst).Nodup)(_:l.length<=8)(_:∀H',aq H H'->Q (.bl true) H')
inductive Gd(K:RM)(vs:List V)(H:Hp)(Q:VK)(_E:XK):Prop|mk(p:Addr)(l:RX)(_:vs=[.ref p,.int (l.length:Nat)])(_:aU K H p (l.map V.int))(_:(∀i∈l,0<=i))(_:l.length<=100)(_:∀H',aq H H'->Q (.bl true) H')
inductive Ek(K:RM)(vs:List V)(H:Hp)(Q:VK)(_E:XK):Prop|mk(p:Addr)(l:RX)(_:vs=[.ref p,.int (l.length:Nat)])(_:aU K H p (l.map V.int))(_:(∀i∈l,1<=i/\i<=c7))(_:l.length<=100)(_:∀H',aq H H'->Q (.bl true) H')
inductive L5(K:RM)(vs:List V)(H:Hp)(Q:VK)(_E:XK):Prop|mk(p:Addr)(l:RS)(_:vs=[.ref p])(_:aU K H p (l.map V.str))(_:(∀w∈l,Wd w))(_:l.Nodup)(_:1<=l.length)(_:l.length<=4)(_:∀H',aq H H'->Q (.bl true) H')
def jg(i:Nat):(List.replicate i true).map V.bl++[V.bl true]=(List.replicate (i+1) true).map V.bl:=by rw[Rb,j1];rfl
def kK(n:Nat):(List.replicate n true).all id=true:=by simp
def kJ(i:Nat)(h:i<=1000):((List.replicate i true).map V.bl).length<sizeLine:=by rw[c_,zz,k4];lia
def za{b c:Type}{f:b->c}{l:List b}{i:Nat}{v:c}(h:(l.map f)[i]?=some v):∃x,l[i]?=some x/\v=f x/\x∈l:=by rw[ir]at h;cases e:l[i]?with|none=>rw[e]at h;cases h|some x=>rw[e]at h;cases h;exact⟨x,rfl,rfl,il e⟩
def xZ(l:RS):(l.map (Sum.inr:Str->b0)).map kV=l.map V.str:=by rw[w1];rfl
def Bq{l:RS}(h:l.Nodup):(dd (l.map (Sum.inr:Str->b0))).length=l.length:=by have:=(M5 (l.map (Sum.inr:Str->b0))).mpr (h.map _ (λa b h e=>h (ro e)));rw[this,c_]
section
def Cq(T:Txt K mg a):aS P w K mg base dw 3 a.nH.x a.nH.d ["thing"] (LW K):=by
 refine T.nH.ok Ce λg A outer s H j Q E e h=>?_
 ·obtain⟨b,m,rfl,c,h1,h2,q⟩:=h;refine⟨_,(ai (az (cE (ax (eP K rfl) (by rfl) T.bn L2.aV (O (Y 0) (O (ju rfl T.dz L2.bM) ag))) (cE (bY aT (ax (aH K rfl) (by rfl) T.bD L2.aJ (O (Y 0) ag)) af (aG _)) (cE (pc T.dU (gK T) e (O (cN K (Y 0) af) ag)) (dC (pc T.eV (pN T) e (O (cN K (Y 0) af) ag)))))))),?_⟩;refine U rfl ⟨_,"tuple",_,true,rfl,.inr ⟨b,U rfl ⟨c,rfl⟩⟩,eK (by decide+kernel),true,rfl,bH ?_⟩;refine U rfl ⟨_,2,rfl,.inr ⟨_,c,rfl⟩,rfl,U rfl (bH ?_)⟩;refine U rfl (rX c rfl ⟨m.1,rfl,h1,λi f=>(U rfl (bH ?_))⟩);exact U rfl (rX (aq.tseq f c) rfl ⟨m.2,rfl,h2,q i f⟩)
def yZ(T:Txt K mg a):aS P w K mg base dw 4 a.jf.x a.jf.d ["thing"] (Jz K):=by
 refine T.jf.ok yQ λW A outer s H g Q E X h=>?_
 ·obtain⟨v,l,rfl,Z,h1,h2,h3,q⟩:=h;obtain⟨p,g,rfl,j,B,y⟩:=Z;refine⟨_,(ah (aK (PW.pt (fm (b7 (aP K rfl (ax (eP K rfl) (by rfl) T.bn L2.aV (O (Y 0) (O (ju rfl T.dz L2.bM) ag))) (λ_=>rfl))) (dN (aD sN (ax (aH K rfl) (by rfl) T.bD L2.aJ (O (Y 0) ag)) (cA T.zS rfl) (aG _))))) (ai (az iG)) aB) (ah (aK (b7 (aP K rfl (ax (gU K rfl rfl) (by rfl) T.vk L2.jD (O (wB ["thing"] ["mark"] [] [1] (ak iF) (bZ 1) (iz K rfl (Y 0)) (λcl C s₀ H₀ ex=>⟨(nq ["thing"] ["mark"] 1),bR,(pc T.nH (Cq T) X (O (Y 1) ag))⟩)) ag)) (λ_=>rfl))) (ai (az iG)) aB) (ai (az (bY aT (ax (vP (P:=P) (w:=w)) (by rfl) T.bD L2.aJ (O (c6 (Ft (P:=P) (w:=w) K rfl rfl) (by rfl) T.G1 L2.vS (O (wB ["thing"] ["mark"] [] [1] (ak iF) (bZ 1) (iz K rfl (Y 0)) (λcl C s₀ H₀ ex=>⟨(nq ["thing"] ["mark"] 1),bR,(cN K (Y 1) af)⟩)) ag)) ag)) (ax (aH K rfl) (by rfl) T.bD L2.aJ (O (Y 0) ag)) (aG _)))))),?_⟩
  refine U rfl ⟨_,"tuple",_,true,rfl,.inr ⟨p,U rfl ⟨j,rfl⟩⟩,eK (by decide+kernel),true,rfl,cj ?_⟩;refine U rfl ⟨_,g.length,rfl,.inr ⟨_,j,rfl⟩,_,U rfl ⟨rfl,U rfl (nL (λh=>absurd h (by lia)) (λ_=>?_))⟩⟩;refine U rfl ⟨p,rfl,⟨_,j⟩,λD L=>?_⟩;refine gm (K:=K) (a:=p) (xs:=g) (λi c H'=>c=(List.replicate i true).map V.bl/\aq H H'/\H' D=some (.lst c)) ⟨rfl,aj (aq.refl _) L,ae⟩ (λi c H' _ h=>aq.tseq h.2.1 j) ?_ ?_
  ·rintro i v c M k⟨rfl,n,r⟩;have hi:i<g.length:=(d_.mp k).1;have e:l[i]?=some (l[i]'(by lia)):=f_ (by lia);generalize l[i]'(by lia)=m at e;obtain⟨b,F,G⟩:=y i m e;rw[F]at k;cases k;have hm:=h1 m (il e);refine au (iL (bH (U rfl ⟨b,m,rfl,aq.tseq n G,hm.1,hm.2,λI t=>⟨t _ _ r,kJ i (by lia),lf hi ⟨jg i,bu (n.trans t) L,ae⟩⟩⟩)))
  ·rintro c M⟨rfl,n,r⟩;refine⟨D,_,rfl,aW.of r,_,rfl,?_⟩;rw[kK];refine cj (U rfl ⟨p,rfl,⟨_,aq.tseq n j⟩,λN z=>?_⟩);refine gm (K:=K) (a:=p) (xs:=g) (λi c H'=>c=((l.take i).map Prod.fst).map V.str/\aq M H'/\H' N=some (.lst c)) ⟨by rw[J_];rfl,aj (aq.refl _) z,ae⟩ (λi c H' _ h=>aq.tseq (n.trans h.2.1) j) ?_ ?_
   ·rintro i v c I k⟨rfl,t,f⟩;have hi:i<g.length:=(d_.mp k).1;have e:l[i]?=some (l[i]'(by lia)):=f_ (by lia);generalize l[i]'(by lia)=m at e;obtain⟨b,F,G⟩:=y i m e;rw[F]at k;cases k;refine au (iL (bH (U rfl (rX (aq.tseq (n.trans t) G) rfl ⟨f,?_,lf hi ⟨?_,bu t z,ae⟩⟩))))
    ·rw[c_,c_,m3,k4];lia
    ·rw[uD e,j1];rfl
   ·rintro c I⟨rfl,t,f⟩;rw[mo (by lia),<-xZ]at f;have u:=Bq h2;rw[c_]at u;refine⟨N,(l.map Prod.fst).map Sum.inr,rfl,aW.of f,by rw[c_,c_];lia,λR J=>?_⟩;refine⟨R,_,U rfl ⟨ae,by rw[u];lia,?_⟩⟩;have S:∀o,aq H (aA I R o):=λo=>aj (n.trans t) J;refine U rfl ⟨_,g.length,rfl,.inr ⟨_,aq.tseq (S _) j,rfl⟩,rfl,?_⟩;rw[u,<-B,m_ rfl];exact q _ (S _)
def wT(T:Txt K mg a):aS P w K mg base dw 3 a.gW.x a.gW.d ["thing","many"] (Gd K):=by
 refine T.gW.ok wL λk A outer s H t Q E m h=>?_
 ·obtain⟨p,l,rfl,e,h1,h2,q⟩:=h;refine⟨_,(ai (az (cE (ax (eP K rfl) (by rfl) T.bn L2.aV (O (Y 0) (O (ju rfl T.dz L2.bM) ag))) (cE (bY aT (ax (aH K rfl) (by rfl) T.bD L2.aJ (O (Y 0) ag)) (Y 1) (aG _)) (dC (ax (gU K rfl rfl) (by rfl) T.vk L2.jD (O (wB ja ["number"] [] [2] (ak iZ) (bZ 2) (iz K rfl (Y 0)) (λcl C s₀ H₀ ex=>⟨(nq ja ["number"] 2),bR,(pc T.fu (iH T) m (O (Y 2) ag))⟩)) ag))))))),?_⟩
  refine U rfl ⟨_,"tuple",_,true,rfl,.inr ⟨p,U rfl ⟨e,rfl⟩⟩,eK (by decide+kernel),true,rfl,bH ?_⟩;refine U rfl ⟨_,l.length,rfl,.inr ⟨_,e,by simp⟩,U rfl ⟨rfl,U rfl ?_⟩⟩;rw[m_ rfl];refine bH (U rfl ⟨p,rfl,⟨_,e⟩,λD g=>?_⟩);refine gm (K:=K) (a:=p) (xs:=l.map V.int) (λi b H'=>b=(List.replicate i true).map V.bl/\aq H H'/\H' D=some (.lst b)) ⟨rfl,aj (aq.refl _) g,ae⟩ (λi b H' _ h=>aq.tseq h.2.1 e) ?_ ?_
  ·rintro i v b n j⟨rfl,f,c⟩;have hi:=(d_.mp j).1;obtain⟨z,_,rfl,o⟩:=za j;have r:i<l.length:=by simpa using hi
   exact au (iL (bH (U rfl ⟨z,rfl,h1 z o,c,kJ i (by lia),lf hi ⟨jg i,bu f g,ae⟩⟩)))
  ·rintro b n⟨rfl,f,c⟩;refine⟨D,_,rfl,aW.of c,?_⟩;rw[kK];exact q _ f
def vh(T:Txt K mg a):aS P w K mg base dw 3 a.fP.x a.fP.d ["thing","many"] (Ek K):=by
 refine T.fP.ok uV λk A outer s H t Q E m h=>?_
 ·obtain⟨p,l,rfl,e,h1,h2,q⟩:=h;refine⟨_,(ai (az (cE (ax (eP K rfl) (by rfl) T.bn L2.aV (O (Y 0) (O (ju rfl T.dz L2.bM) ag))) (cE (bY aT (ax (aH K rfl) (by rfl) T.bD L2.aJ (O (Y 0) ag)) (Y 1) (aG _)) (dC (ax (gU K rfl rfl) (by rfl) T.vk L2.jD (O (wB oj ["number"] [] [2] (ak ix) (bZ 2) (iz K rfl (Y 0)) (λcl C s₀ H₀ ex=>⟨(nq ja ["number"] 2),bR,(pc T.jd (yY T) m (O (Y 2) ag))⟩)) ag))))))),?_⟩
  refine U rfl ⟨_,"tuple",_,true,rfl,.inr ⟨p,U rfl ⟨e,rfl⟩⟩,eK (by decide+kernel),true,rfl,bH ?_⟩;refine U rfl ⟨_,l.length,rfl,.inr ⟨_,e,by simp⟩,U rfl ⟨rfl,U rfl ?_⟩⟩;rw[m_ rfl];refine bH (U rfl ⟨p,rfl,⟨_,e⟩,λD g=>?_⟩);refine gm (K:=K) (a:=p) (xs:=l.map V.int) (λi b H'=>b=(List.replicate i true).map V.bl/\aq H H'/\H' D=some (.lst b)) ⟨rfl,aj (aq.refl _) g,ae⟩ (λi b H' _ h=>aq.tseq h.2.1 e) ?_ ?_
  ·rintro i v b n j⟨rfl,f,c⟩;have hi:=(d_.mp j).1;obtain⟨z,_,rfl,o⟩:=za j;have r:i<l.length:=by simpa using hi
   exact au (iL (bH (U rfl ⟨z,rfl,h1 z o,c,kJ i (by lia),lf hi ⟨jg i,bu f g,ae⟩⟩)))
  ·rintro b n⟨rfl,f,c⟩;refine⟨D,_,rfl,aW.of c,?_⟩;rw[kK];exact q _ f
def AU(T:Txt K mg a):aS P w K mg base dw 3 a.lc.x a.lc.d ["thing"] (L5 K):=by
 refine T.lc.ok Ay λB A outer s H J Q E F h=>?_
 ·obtain⟨p,l,rfl,e,h1,h2,h3,h4,q⟩:=h;refine⟨_,(ah (aK (PW.pt (fm (b7 (aP K rfl (ax (eP K rfl) (by rfl) T.bn L2.aV (O (Y 0) (O (ju rfl T.dz L2.bM) ag))) (λ_=>rfl))) (dN (b7 (AD j3 j3 af (ax (aH K rfl) (by rfl) T.bD L2.aJ (O (Y 0) ag)) (cA T.BH rfl)))))) (ai (az iG)) aB) (ai (az (cE (ax (gU K rfl rfl) (by rfl) T.vk L2.jD (O (wB ["thing"] ["arm"] [] [1] (ak lO) (bZ 1) (iz K rfl (Y 0)) (λcl C s₀ H₀ ex=>⟨(nq ["thing"] ["arm"] 1),bR,(pc T.dU (gK T) F (O (Y 1) ag))⟩)) ag)) (dC (bY aT (ax (vP (P:=P) (w:=w)) (by rfl) T.bD L2.aJ (O (c6 (De (P:=P) (w:=w) K rfl rfl) (by rfl) T.G1 L2.vS (O (Y 0) ag)) ag)) (ax (aH K rfl) (by rfl) T.bD L2.aJ (O (Y 0) ag)) (aG _))))))),?_⟩
  refine U rfl ⟨_,"tuple",_,true,rfl,.inr ⟨p,U rfl ⟨e,rfl⟩⟩,eK (by decide+kernel),true,rfl,cj ?_⟩;have f:l.length=(l.map V.str).length:=by simp
  refine U rfl ⟨_,l.length,rfl,.inr ⟨_,e,f⟩,_,U rfl ⟨rfl,U rfl (nL (λ_=>?_) (λh=>absurd (by exact Int.ofNat_le.mpr h3) h))⟩⟩;refine r2 (U rfl ?_);show if(!decide ((l.length:Int)<=4))=true then _ else _
  rw[m_ (show(l.length:Int)<=4 by exact Int.ofNat_le.mpr h4)];refine cj ?_;refine U rfl ⟨p,rfl,⟨_,e⟩,λD m=>?_⟩;refine gm (K:=K) (a:=p) (xs:=l.map V.str) (λi b H'=>b=(List.replicate i true).map V.bl/\aq H H'/\H' D=some (.lst b)) ⟨rfl,aj (aq.refl _) m,ae⟩ (λi b H' _ h=>aq.tseq h.2.1 e) ?_ ?_
  ·rintro i v b n r⟨rfl,j,c⟩;have hi:=(d_.mp r).1;obtain⟨z,_,rfl,G⟩:=za r;have I:i<l.length:=by simpa using hi
   exact au (iL (bH (U rfl ⟨z,rfl,h1 z G,λM t=>⟨t _ _ c,kJ i (by lia),lf hi ⟨jg i,bu (j.trans t) m,ae⟩⟩⟩)))
  ·rintro b n⟨rfl,j,c⟩;refine⟨D,_,rfl,aW.of c,_,rfl,?_⟩;rw[kK];have g:=Bq h2;refine bH (U rfl ⟨p,l.map Sum.inr,rfl,by rw[xZ];exact aq.tseq j e,by rw[c_];lia,λu k=>?_⟩);refine⟨u,_,U rfl ⟨ae,by rw[g];lia,?_⟩⟩;have y:∀o,aq H (aA n u o):=λo=>aj j k;refine U rfl ⟨_,l.length,rfl,.inr ⟨_,aq.tseq (y _) e,f⟩,rfl,?_⟩;rw[g,m_ rfl];exact q _ (y _)
end
def jT{A B:Prop}{x y:Str}(h:x≠y)(b:B):if decide (V.str x=V.str y)=true then A else B:=HB (λe=>absurd e h) (λ_=>b)
def bQ{A B:Prop}{x:Str}(a:A):if decide (V.str x=V.str x)=true then A else B:=HB (λ_=>a) (λh=>absurd rfl h)
def wn{A B:Prop}{x y:Str}(b:B)(h:x≠y:=by first|decide+kernel|(dsimp only[Ru.kind];decide+kernel)):if decide (V.str x=V.str y)=true then A else B:=jT h b
abbrev jE(K:RM)(H:Hp):List Ru->List V->Prop:=Paired (eY K H)
theorem jE.kp(e:Kp H H')(h:jE K H b c):jE K H' b c:=Paired.mapP h λ_ _ q=>q.kp e
def jE.app(h:jE K H b c)(k:jE K H d e):jE K H (b++d) (c++e):=GL h k
def jE.get(h:jE K H b c)(i:Nat)(v:V)(e:c[i]?=some v):∃r,b[i]?=some r/\eY K H r v:=qW h i v e
def Ru.kids:Ru->List Ru|.not q=>[q]|.both q r=>[q,r]|.either q r=>[q,r]|_=>[]
def Ru.kind:Ru->Str|.any=>"any"|.has _=>"has"|.least _ _=>"least"|.not _=>"not"|.both _ _=>"both"|.either _ _=>"either"
def Ru.deep:Ru->Bool|.not _=>true|.both _ _=>true|.either _ _=>true|_=>false
def Ru.subs_kids(r:Ru):r.subs=r::(r.kids.map Ru.subs).flatten:=by cases r<;>simp[Ru.subs,Ru.kids]
def eY.tup(h:eY K H r v):∃t b,v=.ref t/\aU K H t (.str r.kind::b)/\(r.deep=true->jE K H r.kids b/\b≠[])/\(∀w,r.word1=some w->∃c,b=.str w::c):=by cases h with|any h=>exact⟨_,_,rfl,h,λe=>(nomatch e),λw e=>(nomatch e)⟩|has h=>exact⟨_,_,rfl,h,λe=>(nomatch e),λw e=>by cases e;exact⟨_,rfl⟩⟩|least h=>exact⟨_,_,rfl,h,λe=>(nomatch e),λw e=>by cases e;exact⟨_,rfl⟩⟩|not h q=>exact⟨_,U rfl ⟨h,λ_=>⟨.cons q .nil,nofun⟩,λw e=>(nomatch e)⟩⟩|both h q r=>exact⟨_,U rfl ⟨h,λ_=>⟨.cons q (.cons r .nil),nofun⟩,λw e=>(nomatch e)⟩⟩|either h q r=>exact⟨_,U rfl ⟨h,λ_=>⟨.cons q (.cons r .nil),nofun⟩,λw e=>(nomatch e)⟩⟩
def KA(r:Ru):qf (.str r.kind) [.str "not",.str "both",.str "either"]=r.deep:=by cases r with|any=>exact(show qf (.str "any") [.str "not",.str "both",.str "either"]=false by decide+kernel)|has _=>exact(show qf (.str "has") [.str "not",.str "both",.str "either"]=false by decide+kernel)|least _ _=>exact(show qf (.str "least") [.str "not",.str "both",.str "either"]=false by decide+kernel)|not _=>exact(show qf (.str "not") [.str "not",.str "both",.str "either"]=true by decide+kernel)|both _ _=>exact(show qf (.str "both") [.str "not",.str "both",.str "either"]=true by decide+kernel)|either _ _=>exact(show qf (.str "either") [.str "not",.str "both",.str "either"]=true by decide+kernel)
def Kz(r:Ru):qf (.str r.kind) [.str "has",.str "least"]=r.word1.isSome:=by cases r with|any=>exact(show qf (.str "any") [.str "has",.str "least"]=false by decide+kernel)|has _=>exact(show qf (.str "has") [.str "has",.str "least"]=true by decide+kernel)|least _ _=>exact(show qf (.str "least") [.str "has",.str "least"]=true by decide+kernel)|not _=>exact(show qf (.str "not") [.str "has",.str "least"]=false by decide+kernel)|both _ _=>exact(show qf (.str "both") [.str "has",.str "least"]=false by decide+kernel)|either _ _=>exact(show qf (.str "either") [.str "has",.str "least"]=false by decide+kernel)
def Ku{r k:Ru}{n:Nat}(h:k∈r.kids)(hh:r.hgt<=n+1):k.hgt<=n:=by
 cases r with|any=>cases h|has _=>cases h|least _ _=>cases h|not q=>
  have:k=q:=by simpa[Ru.kids]using h
  have hh:q.hgt+1<=n+1:=hh;rw[this];exact Nat.le_of_lt_succ hh|both q r=>
  have:k=q\/k=r:=by simpa[Ru.kids]using h
  have hh:max q.hgt r.hgt+1<=n+1:=hh;have h1:=Q1 q.hgt r.hgt;have h2:=QN q.hgt r.hgt;rcases this with rfl|rfl<;>lia|either q r=>
  have:k=q\/k=r:=by simpa[Ru.kids]using h
  have hh:max q.hgt r.hgt+1<=n+1:=hh;have h1:=Q1 q.hgt r.hgt;have h2:=QN q.hgt r.hgt;rcases this with rfl|rfl<;>lia
def Iq(x:V)(b:List V):HT.iy (x::b).length 0 (some 1)=1:=by show(if(1:Int)<0 then((1:Int)+((x::b).length:Int)).toNat else min (1:Int).toNat (b.length+1))=1;rw[j2 (by decide)];show min 1 (b.length+1)=1;lia
def KK(x:V)(b:List V):¬HT.iy (x::b).length 0 (some 1)=0:=by rw[Iq];decide
def Io(x:V)(b:List V):xr (x::b) (some 1) none=b:=by unfold xr;rw[Iq,HT.GC];show b.take ((b.length+1)-1)=b;rw[Nat.add_sub_cancel,mo (g_ _)]
inductive F2(K:RM)(h:Nat)(vs:List V)(H:Hp)(Q:VK)(_E:XK):Prop|mk(r:Ru)(rv:V)(_:vs=[rv])(_:eY K H r rv)(_:r.hgt<=h)(_:h<=6)(_:∀(l:Addr)(us:List V)(H':Hp),aq H H'->H l=none->H' l=some (.lst us)->jE K H' r.subs us->Q (.ref l) H')
section
theorem ky(T:Txt K mg a):∀h:Nat,aS P w K mg base dw (h+1) a.bV.x a.bV.d ["rule"] (F2 K h)
 |0=>by
  refine T.bV.f.ok ip (λe H Q E h=>?_) (λZ A outer s H e Q E hr h=>?_)
  ·obtain⟨r,rv,rfl,_⟩:=h;rfl
  ·obtain⟨r,rv,rfl,_,hh,_⟩:=h;have:=r.hgt_pos;lia|n+1=>by
  have ih:=ky T n;refine T.bV.f.ok ip (λe H Q E h=>?_) (λZ A outer s H e Q E hr h=>?_)
  ·obtain⟨r,rv,rfl,_⟩:=h;rfl
  ·obtain⟨r,rv,rfl,hR,hh,h6,q⟩:=h;obtain⟨t,e,rfl,hT,v,_⟩:=hR.tup;refine⟨_,(ah (bq 1 ip.nd (bA (O (Y 0) ag))) (ah (aK (aD (qY K rfl) (cN K (Y 0) af) (bC (O aC (O aC (O aC ag)))) (by with_unfolding_all rfl)) (ai (eI pa rfl (iz K rfl (gc (Dt K rfl) (Y 0) (i6 af) i7)) (tS 2 ip.nd) (ai (aR (jw K rfl PySem.F.plainAttrs_list PySem.F.slot_list_extend PySem.F.type_list_extend xX (Y 1) (O (bS ih hr rfl T.bV.m T.bV.f.kp T.bV.b .nil bo (O (Y 2) ag)) ag)))))) aB) (ai (az (Y 1))))),?_⟩
   refine U rfl ⟨ls rfl,λl R=>?_⟩;have s0:=aj (o:=.lst [.ref t]) (aq.refl H) R;have y:aA H l (.lst [.ref t]) l=some (.lst [.ref t]):=ae
   try dsimp only
   generalize aA H l (.lst [.ref t])=H0 at s0 y⊢;refine U rfl (rX (aq.tseq s0 hT) (am (k:=0) rfl) ⟨ls rfl,λt3 G=>?_⟩);have I:=aj (o:=.tup [.str "not",.str "both",.str "either"]) s0 G;have j:aA H0 t3 (.tup [.str "not",.str "both",.str "either"]) l=some (.lst [.ref t]):=by rw[ao (aF y G)];exact y
   refine⟨t3,U rfl ⟨.inr (aU.of ae),rfl,rfl,U rfl ?_⟩⟩;show if qf (.str r.kind) [.str "not",.str "both",.str "either"]=true then _ else _
   rw[KA]
   try dsimp only
   generalize aA H0 t3 (.tup [.str "not",.str "both",.str "either"])=S at I j⊢;cases hd:r.deep with
 |false=>
    refine cj (U rfl ?_);have hs:r.subs=[r]:=by cases r<;>first|rfl|cases hd
    exact q l [.ref t] S I R j (by rw[hs];exact .cons (hR.kp (.of I)) .nil)|true=>
    obtain⟨hK,an⟩:=v hd;refine bH ?_;refine U rfl (U rfl ?_);have hc:=r.cnt_lt;have ap:2^r.hgt<=2^6:=I_ (by decide) (by lia);have aa:e.length=r.kids.length:=(Paired.length hK).symm;have J:∀(i:Nat)(k:Ru),r.kids[i]?=some k->k.hgt<=n:=λi k V=>Ku (il V) hh;refine⟨t,U rfl ⟨aq.tseq I hT,λz=>absurd z.1 (KK _ _),λp hp=>?_⟩⟩;rw[Io];have s2:=aj (o:=.tup e) I hp;have L:aA S p (.tup e) l=some (.lst [.ref t]):=by rw[ao (aF j hp)];exact j
    have B:aA S p (.tup e) p=some (.tup e):=ae
    try dsimp only
    generalize aA S p (.tup e)=H2 at s2 L B⊢;refine⟨p,rfl,⟨_,aU.of B⟩,KF (xs:=e) (D:={nx:=NS (LG 1) {nx:=λ_ H'=>Q .non H',rt:=Q},rt:=Q}) (λi W H'=>aq H H'/\H' p=some (.tup e)/\(∃C,H' l=some (.lst C)/\jE K H' (r::((r.kids.take i).map Ru.subs).flatten) C)/\∃v2,W=[some (.ref t),some (.ref l),v2]) ⟨s2,B,⟨[.ref t],L,.cons (hR.kp (.of s2)) .nil⟩,_,rfl⟩ (λi W H' _ h=>aU.of h.2.1) ?_ ?_⟩
    ·rintro i x W H3 hx⟨X,u,⟨C,c,g⟩,v2,rfl⟩;obtain⟨k,V,ac⟩:=jE.get hK i x hx;refine au (U rfl ⟨.inl ⟨rfl,_,aW.of c⟩,U rfl ⟨k,x,rfl,ac.kp (.of X),J i k V,by exact sm h6,λl' ad H4 M as al N=>?_⟩⟩);have e1:((r.kids.take (i+1)).map Ru.subs).flatten=((r.kids.take i).map Ru.subs).flatten++k.subs:=by rw[u_,V,j1,List.flatten_append];simp
     have n1:=Paired.length g;have n2:=Paired.length N;have n3:(((r.kids.take i).map Ru.subs).flatten).length+k.subs.length<=64:=by
      have e2:r.subs.length=1+((r.kids.map Ru.subs).flatten).length:=by rw[r.subs_kids,n_];lia
      have e3:((r.kids.map Ru.subs).flatten).length=(((r.kids.take (i+1)).map Ru.subs).flatten).length+(((r.kids.drop (i+1)).map Ru.subs).flatten).length:=by rw[<-iA,<-List.flatten_append,<-j1,q_]
      rw[e1,iA]at e3;unfold Ru.cnt at hc;lia
     rw[n_]at n1;refine⟨l,l',_,U rfl ⟨rfl,M _ _ c,al,by rw[k4];lia,?_⟩⟩;have kq:Kp H4 (aA H4 l (.lst (C++ad))):=.lst (M _ _ c);refine⟨bu (X.trans M) R,?_,⟨_,ae,?_⟩,_,rfl⟩
     ·rw[ao (λz=>by rw[z,c]at u;cases u)];exact M _ _ u
     ·rw[e1,<-List.cons_append];exact jE.app ((g.kp (.of M)).kp kq) (N.kp kq)
    ·rintro W H3⟨X,u,⟨C,c,g⟩,v2,rfl⟩;refine U rfl (q l C H3 X R c ?_);rw[r.subs_kids];rw[aa,mo (g_ _)]at g;exact g
end
def M3[DecidableEq g][BEq g][LawfulBEq g][DecidableEq h][BEq h][LawfulBEq h](f:g->h)(i:∀a b,f a=f b->a=b)(d:List g):dd (d.map f)=(dd d).map f:=by
 have gen:∀(d c:List g),(d.map f).foldl PyProof.Rows.step_dedup (c.map f)=(d.foldl PyProof.Rows.step_dedup c).map f:=by
  intro d
  induction d with|nil=>intro c;rfl|cons k r j=>
   intro c;rw[no,v3,v3,<-j]
   congr 1
   unfold PyProof.Rows.step_dedup;have e:(c.map f).any (λy=>y==f k)=c.any (λy=>y==k):=by
    rw[List.any_map]
    congr 1
    funext y
    show(f y==f k)=(y==k)
    by_cases q:y=k
    ·rw[q,x_,x_]
    ·rw[RH q,RH (λz=>q (i _ _ z))]
   by_cases q:c.any (λy=>y==k)=true
   ·rw[ku (e.trans q),ku q]
   ·rw[j2 (λz=>q (e.symm.trans z)),j2 q,j1];rfl
 exact gen d []
def Ru.wset(r:Ru):List Str:=dd r.words
def Ru.wset_keys(r:Ru):dd (r.words.map (Sum.inr:Str->b0))=r.wset.map Sum.inr:=M3 Sum.inr (λ_ _ h=>ro h) r.words
def Ru.wset_le(r:Ru):r.wset.length<=r.cnt:=by have h1:=sj r.words [];have h2:=r.words_le;unfold Ru.wset dd;simp at h1;lia
inductive Jk(K:RM)(vs:List V)(H:Hp)(Q:VK)(_E:XK):Prop|mk(r:Ru)(rv:V)(_:vs=[rv])(_:eY K H r rv)(_:r.hgt<=6)(_:∀(l:Addr)(ss:RS)(H':Hp),aq H H'->H l=none->H' l=some (.lst (ss.map V.str))->ss.Perm r.wset->ss.Pairwise nJ->Q (.ref l) H')
section
def AK(T:Txt K mg a):aS P w K mg base dw 8 a.kI.x a.kI.d ["rule"] (Jk K):=by
 refine T.kI.ok As λaa A outer s H vs Q E hr h=>?_
 ·obtain⟨r,rv,rfl,hR,hh,q⟩:=h;refine⟨_,(ai (az (ax (zM (P:=P) (w:=w) rfl) (by rfl) T.Bb L2.tj (O (c6 (Dc (P:=P) (w:=w) K rfl rfl) (by rfl) T.G1 L2.vS (O (wB ["rule"] ["inner"] [] [1] (ak lG) (bZ 1) (d9 K rfl (bS ((ky T 6).mono (by decide)) hr rfl T.bV.m T.bV.f.kp T.bV.b .nil bo (O (Y 0) ag))) (λcl C s₀ H₀ ex=>⟨(nq ["rule"] ["inner"] 1),(ui (aD (qY K rfl) (cN K (Y 1) af) (bC (O aC (O aC ag))) (by with_unfolding_all rfl))),(cN K (Y 1) af)⟩)) ag)) ag)))),?_⟩
  refine U rfl ⟨r,rv,rfl,hR,hh,g_ _,λl F H1 M hl u y=>?_⟩;have hc:=r.cnt_lt;have ac:2^r.hgt<=2^6:=I_ (by decide) (by omega);have G:F.length=r.subs.length:=(Paired.length y).symm;have ad:r.subs.length<64:=by unfold Ru.cnt at hc;lia
  refine⟨l,rfl,⟨_,aW.of u⟩,λD N=>?_⟩;refine je (K:=K) (a:=l) (xs:=F) (λi e H'=>e=((r.subs.take i).filterMap Ru.word1).map V.str/\aq H1 H'/\H' D=some (.lst e)) ⟨by rw[J_];rfl,aj (aq.refl _) N,ae⟩ (λi e H' _ h=>aW.of (h.2.1 _ _ u)) ?_ ?_
  ·rintro i v e B R⟨rfl,p,c⟩;have hi:i<F.length:=(d_.mp R).1;obtain⟨k,hk,I⟩:=jE.get y i v R;obtain⟨t,vs,rfl,S,_,hw⟩:=(I.kp (.of p)).tup;refine au (U rfl (rX S (am (k:=0) rfl) ⟨ls rfl,λW J=>?_⟩));have g:=aj (o:=.tup [.str "has",.str "least"]) (aq.refl B) J;refine⟨W,U rfl ⟨.inr (aU.of ae),rfl,rfl,U rfl ?_⟩⟩;show if qf (.str k.kind) [.str "has",.str "least"]=true then _ else _
   rw[Kz]
   try dsimp only
   generalize aA B W (.tup [.str "has",.str "least"])=H3 at g⊢;have X:(r.subs.take (i+1)).filterMap Ru.word1=(r.subs.take i).filterMap Ru.word1++k.word1.toList:=by
    rw[u_,hk,Es]
    congr 1
   have fl:((r.subs.take i).filterMap Ru.word1).length<=i:=nh (P5 _ _) (List.length_take_le _ _);cases j:k.word1 with|none=>refine cj (lf hi ⟨?_,p.trans g,g _ _ c⟩);rw[X,j];simp|some wd=>
    obtain⟨al,rfl⟩:=hw wd j;refine bH (U rfl (rX (aq.tseq g S) (am (k:=1) rfl) ⟨g _ _ c,?_,lf hi ⟨?_,bu (p.trans g) N,ae⟩⟩))
    ·rw[c_,k4];lia
    ·rw[X,j,j1];rfl
  ·rintro e B⟨rfl,p,c⟩;rw[G,mo (g_ _),r.words_subs]at c;have wl:=r.words_le;have an:=r.wset_le;have c:B D=some (.lst ((r.words.map (Sum.inr:Str->b0)).map kV)):=by rw[w1];exact c
   refine⟨D,r.words.map Sum.inr,rfl,aW.of c,by rw[c_];lia,λZ L=>?_⟩;rw[r.wset_keys];have g:=aj (o:=Ev P w Z (r.wset.map Sum.inr)) (aq.refl B) L;refine⟨Z,r.wset,rfl,ae,by lia,λq2 ss n hp hs=>?_⟩;have s4:=aj (o:=.lst (ss.map V.str)) g n;exact q q2 ss _ ((M.trans p).trans s4) (by cases z:H q2 with|none=>rfl|some o=>rw[((M.trans p).trans g) _ _ z]at n;cases n) ae hp hs
end
theorem Ba[BEq b][LawfulBEq b]:∀{l m:List b},l.Nodup->(∀x∈l,x∈m)->l.length<=m.length
 |[],m,_,_=>ng _|a::l,m,h,g=>by
  obtain⟨h1,h2⟩:=Q3.mp h;have p:=List.perm_cons_erase (g a kw);have:=Ba (m:=m.erase a) h2 λx c=>by
   rcases ov.mp (p.mem_iff.mp (g x (i_ _ c)))with rfl|q
   ·exact absurd c h1
   ·exact q
  have e:=p.length_eq;rw[n_]at e⊢;lia
theorem Il[DecidableEq c][BEq c][LawfulBEq c]:∀(d b:List c)(x:c),x∈d.foldl PyProof.Rows.step_dedup b↔x∈b\/x∈d
 |[],b,x=>by simp|k::r,b,x=>by
  rw[v3,Il r];unfold PyProof.Rows.step_dedup
  by_cases e:b.any (λy=>y==k)=true
  ·rw[ku e];obtain⟨y,f,q⟩:=QR.mp e;have g:k∈b:=by rw[<-eq_of_beq q];exact f
   constructor
   ·rintro(h|h)
    ·exact .inl h
    ·exact .inr (i_ _ h)
   ·rintro(h|h)
    ·exact .inl h
    ·rcases ov.mp h with rfl|h
     ·exact .inl g
     ·exact .inr h
  ·rw[j2 e];simp only[RJ,List.mem_singleton,ov,or_assoc,n0,false_or]
def MZ{b:Type}[DecidableEq b][BEq b][LawfulBEq b]{c:List b}{x:b}(h:x∈dd c):x∈c:=by
 rcases(Il c [] x).mp h with h|h
 ·cases h
 ·exact h
theorem Ln[DecidableEq d][BEq d][LawfulBEq d]:∀(f c:List d),c.Nodup->(f.foldl PyProof.Rows.step_dedup c).Nodup
 |[],c,h=>h|k::r,c,h=>by
  rw[v3];refine Ln r _ ?_;unfold PyProof.Rows.step_dedup
  by_cases e:c.any (λy=>y==k)=true
  ·rw[ku e];exact h
  ·rw[j2 e,op];refine⟨h,by simp,λa g b i=>?_⟩;rw[List.mem_singleton.mp i];rintro rfl;exact e (QR.mpr ⟨a,g,x_ a⟩)
inductive JC(K:RM)(n:Nat)(vs:List V)(H:Hp)(Q:VK)(_E:XK):Prop|mk(r:Ru)(rv:V)(ws:RS)(_:vs=[rv,.int (n:Nat)])(_:eY K H r rv)(_:r.hgt<=n)(_:kC ws r)(_:(∀w∈ws,Wd w))(_:∀H',aq H H'->Q (.bl true) H')
def Hm{a b n:Nat}(h:max a b+1<=n+1):a<=n/\b<=n:=by have h1:=Q1 a b;have h2:=QN a b;lia
section
theorem sO(T:Txt K mg a):∀n:Nat,aS P w K mg base dw (n+3) a.cp.x a.cp.d ["thing","depth"] (JC K n)
 |0=>by
  refine T.cp.f.ok mn (λz H Q E h=>?_) (λC A outer s H z Q E j h=>?_)
  ·obtain⟨r,D,e,rfl,_⟩:=h;rfl
  ·obtain⟨r,D,e,rfl,_,hh,_⟩:=h;have:=r.hgt_pos;lia|n+1=>by
  have F:=sO T n;refine T.cp.f.ok mn (λz H Q E h=>?_) (λC A outer s H z Q E j h=>?_)
  ·obtain⟨r,D,e,rfl,_⟩:=h;rfl
  ·obtain⟨r,D,e,rfl,R,hh,o,l,q⟩:=h;refine⟨_,(ah (aK (PW.pt (fm (aD aT (Y 1) af (aG _)) (fm (b7 (aP K rfl (ax (eP K rfl) (by rfl) T.bn L2.aV (O (Y 0) (O (ju rfl T.dz L2.bM) ag))) (λ_=>rfl))) (dN (aD aT (ax (aH K rfl) (by rfl) T.bD L2.aJ (O (Y 0) ag)) af (aG _)))))) (ai (az iG)) aB) (ah (bq 2 mn.nd (cN K (Y 0) af)) (ah (aK (aD aT (Y 2) aC (aG _)) (ai (az (bY aT (ax (aH K rfl) (by rfl) T.bD L2.aJ (O (Y 0) ag)) af (aG _)))) aB) (ah (aK (aD aT (Y 2) aC (aG _)) (ai (az (cE (bY aT (ax (aH K rfl) (by rfl) T.bD L2.aJ (O (Y 0) ag)) af (aG _)) (dC (bS ((gK T).mono (by first|decide|exact Nat.le_add_left _ _)) j rfl T.dU.m T.dU.f.kp T.dU.b .nil bo (O (cN K (Y 0) af) ag)))))) aB) (ah (aK (aD aT (Y 2) aC (aG _)) (ai (az (cE (bY aT (ax (aH K rfl) (by rfl) T.bD L2.aJ (O (Y 0) ag)) af (aG _)) (cE (bS ((gK T).mono (by first|decide|exact Nat.le_add_left _ _)) j rfl T.dU.m T.dU.f.kp T.dU.b .nil bo (O (cN K (Y 0) af) ag)) (dC (bS ((pN T).mono (by first|decide|exact Nat.le_add_left _ _)) j rfl T.eV.m T.eV.f.kp T.eV.b .nil bo (O (cN K (Y 0) af) ag))))))) aB) (ah (aK (aD aT (Y 2) aC (aG _)) (ai (az (cE (bY aT (ax (aH K rfl) (by rfl) T.bD L2.aJ (O (Y 0) ag)) af (aG _)) (dC (bS F j rfl T.cp.m T.cp.f.kp T.cp.b .nil bo (O (cN K (Y 0) af) (O (av fC (Y 1) af) ag))))))) aB) (ah (aK (PW.pt (fm (aD aT (Y 2) aC (aG _)) (dN (aD aT (Y 2) aC (aG _))))) (ai (az (cE (bY aT (ax (aH K rfl) (by rfl) T.bD L2.aJ (O (Y 0) ag)) af (aG _)) (cE (bS F j rfl T.cp.m T.cp.f.kp T.cp.b .nil bo (O (cN K (Y 0) af) (O (av fC (Y 1) af) ag))) (dC (bS F j rfl T.cp.m T.cp.f.kp T.cp.b .nil bo (O (cN K (Y 0) af) (O (av fC (Y 1) af) ag)))))))) aB) (ai (az iG))))))))),?_⟩
   have hd:((n+1:Nat):Int)-1=(n:Int):=by lia
   obtain⟨t,z,rfl,B,-⟩:=R.tup;refine U rfl ⟨rfl,U rfl (kA (λh=>absurd h (by lia)) (λG=>?_))⟩;refine U rfl ⟨_,"tuple",_,true,rfl,.inr ⟨t,U rfl ⟨B,rfl⟩⟩,eK (by decide+kernel),true,rfl,cj ?_⟩;refine U rfl ⟨_,U rfl ⟨.inr ⟨_,B,rfl⟩,rfl,U rfl (kA (λh=>absurd h (by rw[n_];lia)) (λI=>?_))⟩⟩;refine U rfl (rX B (am (k:=0) rfl) ?_);refine au ?_;clear B G I;cases R with
 |any h=>refine U rfl ⟨rfl,U rfl (bQ ?_)⟩;refine U rfl ⟨_,U rfl ⟨.inr ⟨_,h,rfl⟩,rfl,?_⟩⟩;exact lA (p:=V.int 1=V.int 1) rfl (q H (aq.refl _))|has h=>cases o with|has hm=>refine U rfl ⟨rfl,U rfl (wn ?_)⟩;refine U rfl ⟨rfl,U rfl (bQ ?_)⟩;refine U rfl ⟨_,U rfl ⟨.inr ⟨_,h,rfl⟩,rfl,U rfl (bH ?_)⟩⟩;exact⟨_,rfl,t,_,1,_,rfl,rfl,h,rfl,_,rfl,l _ hm,q⟩
   |least h=>cases o with|least hm h1 h2=>(iterate 2 refine U rfl ⟨rfl,U rfl (wn ?_)⟩);refine U rfl ⟨rfl,U rfl (bQ ?_)⟩;refine U rfl ⟨_,U rfl ⟨.inr ⟨_,h,rfl⟩,rfl,U rfl (bH ?_)⟩⟩;refine⟨_,rfl,t,_,1,_,rfl,rfl,h,rfl,_,rfl,l _ hm,λJ c=>⟨_,rfl,bH ?_⟩⟩;exact⟨_,rfl,t,_,2,_,rfl,rfl,aq.tseq c h,rfl,_,rfl,⟨h1,h2⟩,q J c⟩
   |not h h1=>cases o with|not u=>rename_i g i;have hh:g.hgt+1<=n+1:=hh;(iterate 3 refine U rfl ⟨rfl,U rfl (wn ?_)⟩);refine U rfl ⟨rfl,U rfl (bQ ?_)⟩;refine U rfl ⟨_,U rfl ⟨.inr ⟨_,h,rfl⟩,rfl,U rfl (bH ?_)⟩⟩;refine U rfl (rX h rfl (U rfl (r2 ?_)));exact⟨g,i,e,by show[i,V.int (((n+1:Nat):Int)-1)]=_;rw[hd],h1,by exact Nat.le_of_lt_succ hh,u,l,q⟩
   |both h h1 h2=>cases o with|both u L=>rename_i g v i y;have hh:=Hm (show max g.hgt v.hgt+1<=n+1 from hh);(iterate 4 refine U rfl ⟨rfl,U rfl (wn ?_)⟩);refine U rfl ⟨rfl,U rfl (bQ ?_)⟩;refine U rfl ⟨_,U rfl ⟨.inr ⟨_,h,rfl⟩,rfl,U rfl (bH ?_)⟩⟩;refine U rfl (rX h rfl (U rfl (r2 ?_)));refine⟨g,i,e,by show[i,V.int (((n+1:Nat):Int)-1)]=_;rw[hd],h1,hh.1,u,l,λJ c=>(U rfl (bH ?_))⟩;refine U rfl (rX (aq.tseq c h) rfl (U rfl (r2 ?_)));exact⟨v,y,e,by show[y,V.int (((n+1:Nat):Int)-1)]=_;rw[hd],h2.kp (.of c),hh.2,L,l,λM N=>q M (c.trans N)⟩
   |either h h1 h2=>cases o with|either u L=>rename_i g v i y;have hh:=Hm (show max g.hgt v.hgt+1<=n+1 from hh);(iterate 5 refine U rfl ⟨rfl,U rfl (wn ?_)⟩);refine U rfl ⟨rfl,U rfl (bQ ?_)⟩;refine U rfl ⟨_,U rfl ⟨.inr ⟨_,h,rfl⟩,rfl,U rfl (bH ?_)⟩⟩;refine U rfl (rX h rfl (U rfl (r2 ?_)));refine⟨g,i,e,by show[i,V.int (((n+1:Nat):Int)-1)]=_;rw[hd],h1,hh.1,u,l,λJ c=>(U rfl (bH ?_))⟩;refine U rfl (rX (aq.tseq c h) rfl (U rfl (r2 ?_)));exact⟨v,y,e,by show[y,V.int (((n+1:Nat):Int)-1)]=_;rw[hd],h2.kp (.of c),hh.2,L,l,λM N=>q M (c.trans N)⟩
end
def kC.mem(h:kC c r):∀w∈r.words,w∈c:=by induction h with|any=>exactλw h=>(nomatch h)|has h=>intro w b;rw[List.mem_singleton.mp b];exact h|least h=>intro w b;rw[List.mem_singleton.mp b];exact h|not _ h=>exact h|both _ _ h g=>exactλw b=>(RJ.mp b).elim (h w) (g w)|either _ _ h g=>exactλw b=>(RJ.mp b).elim (h w) (g w)
def kC.few{b:RS}{r:Ru}(h:kC b r):r.wset.length<=b.length:=Ba (Ln r.words [] Qx) λx c=>h.mem x (MZ c)
inductive Gb(K:RM)(vs:List V)(H:Hp)(Q:VK)(_E:XK):Prop|mk(r:Ru)(rv:V)(ws:RS)(_:vs=[rv])(_:eY K H r rv)(_:r.hgt<=6)(_:r.cnt<=30)(_:kC ws r)(_:(∀w∈ws,Wd w))(_:ws.length<=3)(_:∀H',aq H H'->Q (.bl true) H')
section
def Co(T:Txt K mg a):aS P w K mg base dw 10 a.nG.x a.nG.d ["thing"] (Gb K):=by
 refine T.nG.ok Cd λv A outer s H L Q E c h=>?_
 ·obtain⟨r,e,y,rfl,g,hh,hc,o,z,M,q⟩:=h;refine⟨_,(ah (aK (b7 (aP K rfl (bS ((sO T 6).mono (by decide)) c rfl T.cp.m T.cp.f.kp T.cp.b .nil bo (O (Y 0) (O (cA T.vR rfl) ag))) (λ_=>rfl))) (ai (az iG)) aB) (ai (az (cE (bY j3 (ax (aH K rfl) (by rfl) T.bD L2.aJ (O (bS ((ky T 6).mono (by decide)) c rfl T.bV.m T.bV.f.kp T.bV.b .nil bo (O (Y 0) ag)) ag)) (cA T.zR rfl) (aG _)) (dC (bY j3 (ax (aH K rfl) (by rfl) T.bD L2.aJ (O (pc T.kI (AK T) c (O (Y 0) ag)) ag)) (cA T.zO rfl) (aG _))))))),?_⟩
  refine U rfl ⟨r,e,y,rfl,g,hh,o,z,λN i=>(U rfl (cj ?_))⟩;refine U rfl ⟨r,e,rfl,g.kp (.of i),hh,g_ _,λl p R t B j k=>?_⟩;have C:p.length=r.subs.length:=(Paired.length k).symm;unfold Ru.cnt at hc;refine⟨_,p.length,rfl,.inl ⟨_,aW.of j,rfl⟩,_,U rfl ⟨rfl,U rfl (nL (λ_=>?_) (λh=>absurd (by lia) h))⟩⟩;refine U rfl ⟨r,e,rfl,g.kp (.of (i.trans t)),hh,λS u D F G n I _=>?_⟩;have V:=o.few;have J:=I.length_eq;refine⟨_,u.length,rfl,.inl ⟨_,aW.of n,by simp⟩,_,U rfl ⟨rfl,?_⟩⟩;exact lA (show((u.length:Nat):Int)<=3 by lia) (q D ((i.trans t).trans F))
end
inductive JA(K:RM)(h:Nat)(vs:List V)(H:Hp)(Q:VK)(_E:XK):Prop|mk(r:Ru)(rv:V)(ms:List (Str×Int))(mv:V)(_:vs=[rv,mv])(_:eY K H r rv)(_:r.hgt<=h)(_:uf K H ms mv)(_:ms.length<=100)(_:∀H',aq H H'->Q (.bl (r.sat ms)) H')
section
theorem AT(T:Txt K mg a):∀h:Nat,aS P w K mg base dw (h+1) a.dH.x a.dH.d ["rule","marks"] (JA K h)
 |0=>by
  refine T.dH.f.ok uN (λvs H Q E h=>?_) (λaa A outer s H vs Q E R h=>?_)
  ·obtain⟨r,rv,k,mv,rfl,_⟩:=h;rfl
  ·obtain⟨r,rv,k,mv,rfl,_,hh,_⟩:=h;have:=r.hgt_pos;lia|n+1=>by
  have W:=AT T n;refine T.dH.f.ok uN (λvs H Q E h=>?_) (λaa A outer s H vs Q E R h=>?_)
  ·obtain⟨r,rv,k,mv,rfl,_⟩:=h;rfl
  ·obtain⟨r,rv,k,mv,rfl,hR,hh,S,p,q⟩:=h;obtain⟨mt,l,rfl,I,X,Z⟩:=id S;refine⟨_,(ah (bq 2 uN.nd (cN K (Y 0) af)) (ah (aK (aD aT (Y 2) aC (aG _)) (ai (az iG)) aB) (ah (aK (aD aT (Y 2) aC (aG _)) (ai (az (ax (sx K rfl rfl) (by rfl) T.G5 L2.vV (O (wB qt ["mark"] [] [3] (ak pK) (bZ 3) (iz K rfl (Y 1)) (λcl C s₀ H₀ ex=>⟨(nq qt ["mark"] 3),bR,(bY aT (cN K (Y 3) af) (cN K (Y 0) af) (aG _))⟩)) ag)))) aB) (ah (aK (aD aT (Y 2) aC (aG _)) (ai (az (ax (sx K rfl rfl) (by rfl) T.G5 L2.vV (O (wB qt ["mark"] [] [3] (ak pK) (bZ 3) (iz K rfl (Y 1)) (λcl C s₀ H₀ ex=>⟨(nq qt ["mark"] 3),bR,(cE (bY aT (cN K (Y 3) af) (cN K (Y 0) af) (aG _)) (dC (bY Ld (cN K (Y 3) af) (cN K (Y 0) af) (aG _))))⟩)) ag)))) aB) (ah (aK (aD aT (Y 2) aC (aG _)) (ai (az (GO (bS W R rfl T.dH.m T.dH.f.kp T.dH.b .nil bo (O (cN K (Y 0) af) (O (Y 1) ag)))))) aB) (ah (aK (aD aT (Y 2) aC (aG _)) (ai (az (cE (bS W R rfl T.dH.m T.dH.f.kp T.dH.b .nil bo (O (cN K (Y 0) af) (O (Y 1) ag))) (dC (bS W R rfl T.dH.m T.dH.f.kp T.dH.b .nil bo (O (cN K (Y 0) af) (O (Y 1) ag))))))) aB) (ai (az (Oj (bS W R rfl T.dH.m T.dH.f.kp T.dH.b .nil bo (O (cN K (Y 0) af) (O (Y 1) ag))) (dC (bS W R rfl T.dH.m T.dH.f.kp T.dH.b .nil bo (O (cN K (Y 0) af) (O (Y 1) ag))))))))))))),?_⟩
   have c:∀{A B:Prop}{x y:Str},x≠y->B->if decide (V.str x=V.str y)=true then A else B:=λh b=>HB (λe=>absurd e h) (λ_=>b)
   have j:∀{A B:Prop}{x:Str},A->if decide (V.str x=V.str x)=true then A else B:=λa=>HB (λ_=>a) (λh=>absurd rfl h)
   cases hR with|any h=>refine U rfl (rX h rfl ?_);exact U rfl ⟨rfl,U rfl (j (q _ (aq.refl _)))⟩|has h=>
    refine U rfl (rX h rfl ?_);refine U rfl ⟨rfl,U rfl (c (by decide+kernel) ?_)⟩;refine U rfl ⟨rfl,U rfl (j ?_)⟩;rename_i ra wd;refine U rfl ⟨mt,rfl,⟨_,I⟩,λD hD=>?_⟩;have t:∀g,aq H (aA H D (.lst g)):=λg=>aj (aq.refl _) hD;refine gm (K:=K) (a:=mt) (xs:=l) (λi g H'=>g=((k.take i).map (OK wd)).map V.bl/\H'=aA H D (.lst g)) ⟨by rw[J_];rfl,rfl⟩ (λi g H' _ h=>h.2▸aq.tseq (t _) I) ?_ ?_
    ·rintro i v g _ L⟨rfl,rfl⟩;have hi:i<l.length:=(d_.mp L).1;obtain⟨b,hb,hB⟩:=Z i (k[i]'(by lia)) (f_ (by lia));rw[hb]at L;cases L;refine au (iL (bH ?_));refine U rfl (rX (aq.tseq (t _) hB) rfl (U rfl (rX (aq.tseq (t _) h) rfl ⟨rfl,ae,?_,lf hi ⟨?_,?_⟩⟩)))
     ·rw[c_,c_,m3,k4];lia
     ·rw[uD (f_ (by lia)),j1];rfl
     ·rw[fW]
    ·rintro g _⟨rfl,rfl⟩;refine⟨D,_,rfl,aW.of ae,?_⟩;rw[X,mo (g_ _)];exact q _ (t _)|least h=>
    refine U rfl (rX h rfl ?_);(iterate 2 refine U rfl ⟨rfl,U rfl (c (by decide+kernel) ?_)⟩);refine U rfl ⟨rfl,U rfl (j ?_)⟩;rename_i ra wd F;refine U rfl ⟨mt,rfl,⟨_,I⟩,λD hD=>?_⟩;have t:∀g,aq H (aA H D (.lst g)):=λg=>aj (aq.refl _) hD;refine gm (K:=K) (a:=mt) (xs:=l) (λi g H'=>g=((k.take i).map (gL wd F)).map V.bl/\H'=aA H D (.lst g)) ⟨by rw[J_];rfl,rfl⟩ (λi g H' _ h=>h.2▸aq.tseq (t _) I) ?_ ?_
    ·rintro i v g _ L⟨rfl,rfl⟩;have hi:i<l.length:=(d_.mp L).1;obtain⟨b,hb,hB⟩:=Z i (k[i]'(by lia)) (f_ (by lia));rw[hb]at L;cases L;have fin:∀b,b=gL wd F (k[i]'(by lia))->aA H D (.lst (((k.take i).map (gL wd F)).map V.bl)) D=some (.lst (((k.take i).map (gL wd F)).map V.bl))/\(((k.take i).map (gL wd F)).map V.bl).length<sizeLine/\∃m',m'<l.length-i/\m'=l.length-(i+1)/\i+1<=l.length/\((((k.take i).map (gL wd F)).map V.bl++[V.bl b]=((k.take (i+1)).map (gL wd F)).map V.bl)/\aA (aA H D (.lst (((k.take i).map (gL wd F)).map V.bl))) D (.lst (((k.take i).map (gL wd F)).map V.bl++[V.bl b]))=aA H D (.lst (((k.take i).map (gL wd F)).map V.bl++[V.bl b]))):=λb eb=>by
      refine⟨ae,?_,lf hi ⟨?_,?_⟩⟩
      ·rw[c_,c_,m3,k4];lia
      ·rw[uD (f_ (by lia)),j1,eb];rfl
      ·rw[fW]
     refine au (iL (bH ?_));refine U rfl (rX (aq.tseq (t _) hB) rfl (U rfl (rX (aq.tseq (t _) h) rfl ⟨rfl,U rfl (HB (λe=>?_) (λe=>?_))⟩)))
     ·refine U rfl (rX (aq.tseq (t _) hB) rfl (U rfl (rX (aq.tseq (t _) h) rfl (r2 (fin _ ?_)))));unfold gL;rw[ku (by rw[e];exact m_ rfl)]
     ·refine fin _ ?_;unfold gL;rw[j2 (by rw[nn (λz=>e (V.str.inj z))];exact l_)]
    ·rintro g _⟨rfl,rfl⟩;refine⟨D,_,rfl,aW.of ae,?_⟩;rw[X,mo (g_ _)];exact q _ (t _)|not h h1=>rename_i ra G v;have hq:G.hgt+1<=n+1:=hh;refine U rfl (rX h rfl ?_);(iterate 3 refine U rfl ⟨rfl,U rfl (c (by decide+kernel) ?_)⟩);refine U rfl ⟨rfl,U rfl (j ?_)⟩;exact U rfl (rX h rfl (U rfl ⟨G,v,k,_,rfl,h1,by exact Nat.le_of_lt_succ hh,S,p,λH' o=>(U rfl (q H' o))⟩))|both h h1 h2=>
    rename_i ra G M v u;have hq:max G.hgt M.hgt+1<=n+1:=hh;refine U rfl (rX h rfl ?_);(iterate 4 refine U rfl ⟨rfl,U rfl (c (by decide+kernel) ?_)⟩);refine U rfl ⟨rfl,U rfl (j ?_)⟩;refine U rfl (rX h rfl (U rfl ⟨G,v,k,_,rfl,h1,by lia,S,p,λH' o=>(U rfl ?_)⟩));have J:∀H',aq H H'->Q (.bl (if G.sat k=true then M.sat k else false)) H':=q;refine xh (λe=>?_) (λe=>?_)
    ·rw[ku e]at J;exact U rfl (rX (aq.tseq o h) rfl (U rfl ⟨M,u,k,_,rfl,h2.kp (.of o),by lia,S.kp (.of o),p,λH2 N=>J H2 (o.trans N)⟩))
    ·rw[j2 (by rw[e];exact l_)]at J;exact J H' o|either h h1 h2=>
    rename_i ra G M v u;have hq:max G.hgt M.hgt+1<=n+1:=hh;refine U rfl (rX h rfl ?_);(iterate 5 refine U rfl ⟨rfl,U rfl (c (by decide+kernel) ?_)⟩);refine U rfl (rX h rfl (U rfl ⟨G,v,k,_,rfl,h1,by lia,S,p,λH' o=>(U rfl ?_)⟩));have J:∀H',aq H H'->Q (.bl (if G.sat k=true then true else M.sat k)) H':=q;refine xh (λe=>?_) (λe=>?_)
    ·rw[ku e]at J;exact J H' o
    ·rw[j2 (by rw[e];exact l_)]at J;exact U rfl (rX (aq.tseq o h) rfl (U rfl ⟨M,u,k,_,rfl,h2.kp (.of o),by lia,S.kp (.of o),p,λH2 N=>J H2 (o.trans N)⟩))
end
inductive JH(vs:List V)(H:Hp)(Q:VK)(_E:XK):Prop|mk(x:_)(_:vs=[.str x])(_:Wd x)(_:∀H',aq H H'->Q .non H')
inductive JM(K:RM)(vs:List V)(H:Hp)(Q:VK)(_E:XK):Prop|mk(p:Addr)(l:RS)(_:vs=[.ref p])(_:aU K H p (l.map V.str))(_:(∀w∈l,Wd w))(_:l.Nodup)(_:1<=l.length)(_:l.length<=4)(_:∀H',aq H H'->Q .non H')
inductive JI(K:RM)(vs:List V)(H:Hp)(Q:VK)(_E:XK):Prop|mk(r:Ru)(rv:V)(ws:RS)(_:vs=[rv])(_:eY K H r rv)(_:r.hgt<=6)(_:r.cnt<=30)(_:kC ws r)(_:(∀w∈ws,Wd w))(_:ws.length<=3)(_:∀H',aq H H'->Q .non H')
inductive Gm(vs:List V)(H:Hp)(Q:VK)(_E:XK):Prop|mk(x:_)(_:vs=[.str x])(_:BY x)(_:∀H',aq H H'->Q .non H')
inductive Gi(K:RM)(vs:List V)(H:Hp)(Q:VK)(_E:XK):Prop|mk(v:V)(l:List (Str×Int))(_:vs=[v])(_:uf K H l v)(_:(∀m∈l,Wd m.1/\-c7<=m.2/\m.2<=c7))(_:(l.map Prod.fst).Nodup)(_:l.length<=8)(_:∀H',aq H H'->Q .non H')
inductive Gn(vs:List V)(H:Hp)(Q:VK)(_E:XK):Prop|mk(z:_)(_:vs=[.int z])(_:0<=z)(_:Q .non H)
inductive Er(K:RM)(vs:List V)(H:Hp)(Q:VK)(_E:XK):Prop|mk(p:Addr)(l:RX)(_:vs=[.ref p,.int (l.length:Nat)])(_:aU K H p (l.map V.int))(_:(∀i∈l,0<=i))(_:l.length<=100)(_:∀H',aq H H'->Q .non H')
inductive JL(K:RM)(vs:List V)(H:Hp)(Q:VK)(_E:XK):Prop|mk(z:Int)(p:Addr)(l:RX)(_:vs=[.int z,.ref p,.int (l.length:Nat)])(_:(0<=z/\z<=1000))(_:aU K H p (l.map V.int))(_:(∀i∈l,1<=i/\i<=c7))(_:l.length<=100)(_:∀H',aq H H'->Q .non H')
section
def nX(T:Txt K mg a):aS P w K mg base dw 3 a.fE.x a.fE.d ["thing"] JH:=by
 refine T.fE.ok wH λb A outer s H i Q E c h=>?_
 ·obtain⟨x,rfl,e,q⟩:=h;refine⟨_,(ai (aK (b7 (aP K rfl (pc T.dU (gK T) c (O (Y 0) ag)) (λ_=>rfl))) (ai cn) aB)),?_⟩;exact U rfl ⟨x,rfl,e,λf g=>(U rfl (cj (q f g)))⟩
def wS(T:Txt K mg a):aS P w K mg base dw 4 a.gS.x a.gS.d ["thing"] (JM K):=by
 refine T.gS.ok wK λb A outer s H g Q E c h=>?_
 ·obtain⟨p,l,rfl,h1,h2,h3,h4,h5,q⟩:=h;refine⟨_,(ai (aK (b7 (aP K rfl (pc T.lc (AU T) c (O (Y 0) ag)) (λ_=>rfl))) (ai cn) aB)),?_⟩;exact U rfl ⟨p,l,rfl,h1,h2,h3,h4,h5,λe f=>(U rfl (cj (q e f)))⟩
def wO(T:Txt K mg a):aS P w K mg base dw 11 a.gP.x a.gP.d ["thing"] (JI K):=by
 refine T.gP.ok wI λb A outer s H j Q E c h=>?_
 ·obtain⟨r,e,f,rfl,h1,h2,h3,h4,h5,h6,q⟩:=h;refine⟨_,(ai (aK (b7 (aP K rfl (pc T.nG (Co T) c (O (Y 0) ag)) (λ_=>rfl))) (ai cn) aB)),?_⟩;exact U rfl ⟨r,e,f,rfl,h1,h2,h3,h4,h5,h6,λg i=>(U rfl (cj (q g i)))⟩
def jy(T:Txt K mg a):aS P w K mg base dw 3 a.dI.x a.dI.d ["thing"] Gm:=by
 refine T.dI.ok uT λb A outer s H i Q E c h=>?_
 ·obtain⟨x,rfl,e,q⟩:=h;refine⟨_,(ai (aK (b7 (aP K rfl (pc T.k6 (AR T) c (O (Y 0) ag)) (λ_=>rfl))) (ai cn) aB)),?_⟩;exact U rfl ⟨x,rfl,e,λf g=>(U rfl (cj (q f g)))⟩
def vd(T:Txt K mg a):aS P w K mg base dw 5 a.fL.x a.fL.d ["thing"] (Gi K):=by
 refine T.fL.ok uQ λb A outer s H g Q E c h=>?_
 ·obtain⟨v,l,rfl,h1,h2,h3,h4,q⟩:=h;refine⟨_,(ai (aK (b7 (aP K rfl (pc T.jf (yZ T) c (O (Y 0) ag)) (λ_=>rfl))) (ai cn) aB)),?_⟩;exact U rfl ⟨v,l,rfl,h1,h2,h3,h4,λe f=>(U rfl (cj (q e f)))⟩
def vg(T:Txt K mg a):aS P w K mg base dw 3 a.fO.x a.fO.d ["thing"] Gn:=by
 refine T.fO.ok uU λb A outer s H e Q E c h=>?_
 ·obtain⟨z,rfl,h0,q⟩:=h;refine⟨_,(ai (aK (b7 (aP K rfl (pc T.fu (iH T) c (O (Y 0) ag)) (λ_=>rfl))) (ai cn) aB)),?_⟩;exact U rfl ⟨z,rfl,h0,U rfl (cj q)⟩
def tT(T:Txt K mg a):aS P w K mg base dw 4 a.eW.x a.eW.d ["thing","many"] (Er K):=by
 refine T.eW.ok tM λb A outer s H g Q E c h=>?_
 ·obtain⟨p,l,rfl,h1,h2,h3,q⟩:=h;refine⟨_,(ai (aK (b7 (aP K rfl (pc T.gW (wT T) c (O (Y 0) (O (Y 1) ag))) (λ_=>rfl))) (ai cn) aB)),?_⟩;exact U rfl (U rfl ⟨p,l,rfl,h1,h2,h3,λe f=>(U rfl (cj (q e f)))⟩)
def qZ(T:Txt K mg a):aS P w K mg base dw 4 a.eu.x a.eu.d ["total","weights","many"] (JL K):=by
 refine T.eu.ok qP λc A outer s H i Q E b h=>?_
 ·obtain⟨z,p,l,rfl,e,h1,h2,h3,q⟩:=h;refine⟨_,(ai (aK (PW.pt (fm (b7 (aP K rfl (pc T.kY (AO T) b (O (Y 0) ag)) (λ_=>rfl))) (dN (b7 (aP K rfl (pc T.fP (vh T) b (O (Y 1) (O (Y 2) ag))) (λ_=>rfl)))))) (ai cn) aB)),?_⟩;refine U rfl ⟨z,rfl,e,U rfl (cj ?_)⟩;exact U rfl (U rfl ⟨p,l,rfl,h1,h2,h3,λf g=>(U rfl (cj (q f g)))⟩)
end
inductive En(vs:List V)(H:Hp)(Q:VK)(_E:XK):Prop|mk(z:Int)(_:vs=[.int z])(_:(2<=z/\z<=997))(_:(∀i:Nat,2+(i:Int)<z->z%(2+(i:Int))≠0))(_:∀H',aq H H'->Q (.bl true) H')
inductive Ga(vs:List V)(H:Hp)(Q:VK)(_E:XK):Prop|mk(z:_)(_:vs=[.int z])(_:(0<=z/\z<=c7))(_:Q (.bl true) H)
inductive Gk(vs:List V)(H:Hp)(Q:VK)(_E:XK):Prop|mk(z s:Int)(_:vs=[.int z,.int s])(_:(2<=z/\z<=997))(_:(∀i:Nat,2+(i:Int)<z->z%(2+(i:Int))≠0))(_:(0<=s/\s<=c7))(_:∀H',aq H H'->Q .non H')
inductive L4(vs:List V)(H:Hp)(Q:VK)(_E:XK):Prop|mk(x:Str)(d:Addr)(kvs:List (b0×V))(_:vs=[.str x,.ref d])(_:Wd x)(_:H d=some (.dK kvs))(_:a0 kvs (.inr x)=none)(_:∀H',aq H H'->Q .non H')
inductive Gf(vs:List V)(H:Hp)(Q:VK)(_E:XK):Prop|mk(x:Str)(d:Addr)(kvs:List (b0×V))(_:vs=[.str x,.ref d])(_:Wd x)(_:H d=some (.dK kvs))(_:(a0 kvs (.inr x)).isSome=true)(_:∀H',aq H H'->Q .non H')
inductive Gj(K:RM)(vs:List V)(H:Hp)(Q:VK)(_E:XK):Prop|mk(x:Str)(d:Addr)(_:vs=[.str x,.ref d])(_:Wd x)(_:((∃kvs:List (b0×V),H d=some (.dK kvs)/\(a0 kvs (.inr x)).isSome=true)\/∃l:List Str,aU K H d (l.map V.str)/\x∈l))(_:∀H',aq H H'->Q .non H')
theorem m8:∀b:List Str,(b.map V.str).all og=true|[]=>rfl|w::r=>by rw[no,Qj,m8 r];rfl
def HD{w:Str}{b:RS}(h:w∈b):qf (.str w) (b.map V.str)=true:=by unfold qf;rw[QR];exact⟨.str w,mu.mpr ⟨w,h,rfl⟩,by show(w==w)=true;exact x_ w⟩
section
def AQ(T:Txt K mg a):aS P w K mg base dw 2 a.kZ.x a.kZ.d ["thing"] En:=by
 refine T.kZ.ok Av λe A outer s H j Q E f h=>?_
 ·obtain⟨z,rfl,⟨h1,h2⟩,hd,q⟩:=h;refine⟨_,(ah (aK (PW.pt (fm (b7 (aP K rfl (pc T.gi (j4 T) f (O (Y 0) ag)) (λ_=>rfl))) (dN (b7 (AD j3 j3 (cA T.xv rfl) (Y 0) (cA T.sy rfl)))))) (ai (az iG)) aB) (ai (az (ax (gU K rfl rfl) (by rfl) T.vk L2.jD (O (wB ["thing"] ["divisor"] [] [1] (ak lH) (bZ 1) (xR rfl T.dS (O af (O (Y 0) ag))) (λcl C s₀ H₀ ex=>⟨(nq ["thing"] ["divisor"] 1),bR,(bY Lc (av aO (Y 0) (Y 1)) af (aG _))⟩)) ag))))),?_⟩
  refine U rfl ⟨z,rfl,U rfl (cj ?_)⟩;refine U rfl (r2 (U rfl ?_));refine nL (λ_=>?_) (λh=>absurd h1 h);refine r2 (U rfl ?_);rw[m_ h2];refine cj ?_;refine U rfl ⟨_,U rfl ⟨⟨by decide,by decide,by lia,by lia⟩,λD g=>?_⟩⟩;refine eL (K:=K) (lo:=2) (n:=(z-2).toNat) (λi b c=>b=(List.replicate i true).map V.bl/\c=aA H D (.lst b)) ⟨rfl,rfl⟩ ?_ ?_
  ·rintro i b c hi⟨rfl,rfl⟩;refine au (iL (bH (U rfl (U rfl (r2 ⟨(by show(0:Int)<_;first|decide|lia),rfl,?_⟩)))));refine⟨ae,kJ i (by omega),lf hi ⟨?_,by rw[fW]⟩⟩;have hn:=hd i (by omega);rw[<-jg]
   congr 2
   simp[hn]
  ·rintro b c⟨rfl,rfl⟩;refine⟨D,_,rfl,aW.of ae,?_⟩;rw[kK];exact q _ (aj (aq.refl _) g)
def Cn(T:Txt K mg a):aS P w K mg base dw 3 a.nE.x a.nE.d ["thing"] Ga:=by
 refine T.nE.ok Cc λb A outer s H e Q E c h=>?_
 ·obtain⟨z,rfl,⟨h1,h2⟩,q⟩:=h;refine⟨_,(ai (az (cE (pc T.fu (iH T) c (O (Y 0) ag)) (dC (bY j3 (Y 0) (av u8 af af) (aG _)))))),?_⟩;refine U rfl ⟨z,rfl,h1,U rfl (bH ?_)⟩
  (repeat(first|refine U rfl ?_|refine r2 ?_|refine⟨(rfl:fj _ _=true),?_⟩|refine⟨(show fh _ _ from cd rfl),?_⟩|refine⟨(show(0:Int)<_ by first|decide|lia),?_⟩|refine⟨(rfl:V.int 10=V.int 10),rfl,?_⟩))
  exact lA h2 q
def vf(T:Txt K mg a):aS P w K mg base dw 4 a.fN.x a.fN.d ["prime","salt"] Gk:=by
 refine T.fN.ok uS λc A outer s H g Q E b h=>?_
 ·obtain⟨z,sa,rfl,h1,h2,h3,q⟩:=h;refine⟨_,(ai (aK (PW.pt (fm (b7 (aP K rfl (pc T.kZ (AQ T) b (O (Y 0) ag)) (λ_=>rfl))) (dN (b7 (aP K rfl (pc T.nE (Cn T) b (O (Y 1) ag)) (λ_=>rfl)))))) (ai cn) aB)),?_⟩;refine U rfl ⟨z,rfl,h1,h2,λe f=>(U rfl (cj ?_))⟩;exact U rfl ⟨sa,rfl,h3,U rfl (cj (q e f))⟩
def pO(T:Txt K mg a):aS P w K mg base dw 4 a.gQ.x a.gQ.d ["thing","names"] L4:=by
 refine T.gQ.ok yP λe A outer s H i Q E b h=>?_
 ·obtain⟨x,d,f,rfl,h1,h2,h3,q⟩:=h;refine⟨_,(ah (aR (pc T.fE (nX T) b (O (Y 0) ag))) (ai (aK (lT (u7 (ca b) (Y 0) (Y 1)) rfl) (ai cn) aB))),?_⟩
  refine U rfl ⟨x,rfl,h1,λg c=>?_⟩;refine U rfl (U rfl (rG none (by rw[<-h3];exact du.k (k:=.inr x) (c _ _ h2)) (U rfl (cj (q g c)))))
def db(T:Txt K mg a):aS P w K mg base dw 4 a.bO.x a.bO.d ["thing","names"] Gf:=by
 refine T.bO.ok pE λf A outer s H i Q E c h=>?_
 ·obtain⟨x,d,b,rfl,h1,h2,h3,q⟩:=h;refine⟨_,(ah (aR (pc T.fE (nX T) c (O (Y 0) ag))) (ai (aK (lT (qX (ca c) (Y 0) (Y 1)) rfl) (ai cn) aB))),?_⟩
  refine U rfl ⟨x,rfl,h1,λg e=>?_⟩;refine U rfl (U rfl (rG (a0 b (.inr x)) (du.k (k:=.inr x) (e _ _ h2)) (U rfl ?_)));rw[h3];exact cj (q g e)
def ve(T:Txt K mg a):aS P w K mg base dw 3 a.fM.x a.fM.d ["thing","names"] (Gj K):=by
 refine T.fM.ok uR λg A outer s H i Q E e h=>?_
 ·obtain⟨x,d,rfl,h1,h2,q⟩:=h;refine⟨_,(ai (aK (PW.pt (fm (b7 (aP K rfl (pc T.dU (gK T) e (O (Y 0) ag)) (λ_=>rfl))) (dN (lT (ED K rfl (ca e) (Y 0) (Y 1)) rfl)))) (ai cn) aB)),?_⟩;refine U rfl ⟨x,rfl,h1,λf b=>(U rfl (cj ?_))⟩;refine U rfl (U rfl ?_);rcases h2 with⟨c,h2,h3⟩|⟨l,h2,h3⟩
  ·refine .inl (rG (a0 c (.inr x)) (du.k (k:=.inr x) (b _ _ h2)) (U rfl ?_));rw[h3];exact cj (q f b)
  ·refine .inr ⟨d,U rfl ⟨.inr (aq.tseq b h2),rfl,m8 l,U rfl ?_⟩⟩;rw[HD h3];exact cj (q f b)
end
abbrev Pl:=bN×V×List Int
def eX(H:Hp)(tk:List iU)(m:List Pl):Prop:=Paired (λ(x:iU)(y:Pl)=>x.1=y.1/\x.2.1=y.2.1/\∃l,x.2.2=.ref l/\H l=some (.lst (y.2.2.map V.int))) tk m
structure eC(P:RR)(w:World)(K:RM)(C:Addr)(H:Hp)(t od td:Addr)(n:Nat)(ow:List (b0×V))(tk:List iU)(m:List Pl):Prop where
 ins:∃dx,H t=some (.ins C dx [("many",.int n),("owners",.ref od),("taken",.ref td)])own:H od=some (.dK ow)tak:H td=some (dM P w td tk)keys:eA K H tk
 lsts:eX H tk m
def eX.same(e:aq H H')(h:eX H tk m):eX H' tk m:=Paired.mapP h λ_ _ h=>⟨h.1,h.2.1,h.2.2.imp λ_ q=>⟨q.1,e _ _ q.2⟩⟩
def oX(e:aq H H')(h:c5 K H k v):c5 K H' k v:=by cases k with|inl k=>exact h|inr b=>obtain⟨a,h1,h2⟩:=h;exact⟨a,h1,aq.tseq e h2⟩
theorem eC.same(e:aq H H')(h:eC P w K C H t b c n ow tk m):eC P w K C H' t b c n ow tk m:=⟨let⟨dx,i⟩:=h.ins;⟨dx,e _ _ i⟩,e _ _ h.own,e _ _ h.tak,λx d=>oX e (h.keys x d),h.lsts.same e⟩
def eX.val(h:eX H tk m)(k:bN):(∃l b,ft tk k=some (.ref l)/\ft m k=some b/\H l=some (.lst (b.map V.int)))\/(ft tk k=none/\ft m k=none):=by induction h with|nil=>exact .inr ⟨rfl,rfl⟩|@cons x y _ _ h _ c=>
  unfold ft at c⊢;rw[r3,r3,<-h.1]
  by_cases e:x.1=k
  ·rw[m_ e];exact .inl (h.2.2.imp λ_ q=>⟨y.2.2,rb some q.1,rfl,q.2⟩)
  ·rw[nn e];exact c
def bv(m:List Pl)(k:bN):List Int:=(ft m k).getD []
def gj(n:Nat)(ow:List (b0×V)):List Int:=((List.range n).filter λ(i:Nat)=>(a0 ow (.inl (i:Int))).isNone).map λ(i:Nat)=>(i:Int)
inductive LX(P:RR)(w:World)(K:RM)(C:Addr)(vs:List V)(H:Hp)(Q:VK)(_E:XK):Prop|mk(t dx:Addr)(n:Nat)(_:vs=[.ref t,.int n])(_:H t=some (.ins C dx []))(_:H dx=some (.own t))(_:∀(od td:Addr)H',H od=none->H td=none->(∀b o,H b=some o->b≠t->H' b=some o)->eC P w K C H' t od td n [] [] []->Q .non H')
inductive Em(P:RR)(w:World)(K:RM)(C:Addr)(vs:List V)(H:Hp)(Q:VK)(_E:XK):Prop|mk(t od td:Addr)(n:Nat)(ow:List (b0×V))(tk:List iU)(m:List Pl)(p:Int)(_:vs=[.ref t,.int p])(_:eC P w K C H t od td n ow tk m)(_:Q ((a0 ow (.inl p)).getD .non) H)
inductive B8(P:RR)(w:World)(K:RM)(C:Addr)(vs:List V)(H:Hp)(Q:VK)(_E:XK):Prop|mk(t od td:Addr)(n:Nat)(ow:List (b0×V))(tk:List iU)(m:List Pl)(k:bN)(kv:V)(_:vs=[.ref t,kv])(_:eC P w K C H t od td n ow tk m)(_:c5 K H k kv)(_:∀(l:Addr)H',aq H H'->H l=none->H' l=some (.lst ((bv m k).map V.int))->Q (.ref l) H')
inductive L0(P:RR)(w:World)(K:RM)(C:Addr)(vs:List V)(H:Hp)(Q:VK)(_E:XK):Prop|mk(t od td:Addr)(n:Nat)(ow:List (b0×V))(tk:List iU)(m:List Pl)(_:vs=[.ref t])(_:eC P w K C H t od td n ow tk m)(_:n<=1000)(_:∀(l:Addr)H',aq H H'->H l=none->H' l=some (.lst ((gj n ow).map V.int))->Q (.ref l) H')
section
def tV(T:Txt K mg a):aS P w K mg base dw 1 a.dZ.x a.dZ.d ["self","many"] (LX P w K a.bP):=by
 refine T.dZ.ok tO λF A outer s H L Q E M h=>?_
 ·obtain⟨t,dx,n,rfl,G,N,q⟩:=h;refine⟨_,(ah (cx K rfl (Y 0) (Y 1)) (ah (cx K rfl (Y 0) jv) (ai (cx K rfl (Y 0) (GQ (P:=P) (w:=w)))))),?_⟩
  refine U rfl (U rfl ⟨t,_,dx,U rfl ⟨G,T.bh,T.n8,by decide,?_⟩⟩);have v:eF "many" (V.int n) []=([("many",V.int n)]:List (Str×V)):=rfl;rw[v];have i:aA H t (.ins a.bP dx [("many",V.int n)]) t=some (.ins a.bP dx [("many",V.int n)]):=ae;have f1:∀b o,H b=some o->b≠t->aA H t (.ins a.bP dx [("many",V.int n)]) b=some o:=λb o e j=>by rw[ao j];exact e
  generalize aA H t (.ins a.bP dx [("many",V.int n)])=u at i f1⊢;refineλc g=>(U rfl ⟨t,_,dx,U rfl ⟨by rw[ao (aF i g)];exact i,T.bh,T.eg,by simp,?_⟩⟩);have y:eF "owners" (V.ref c) [("many",V.int n)]=([("many",V.int n),("owners",V.ref c)]:List (Str×V)):=rfl;rw[y];have B:c≠t:=λz=>by rw[z,i]at g;cases g
  have k:aA (aA u c (.dK [])) t (.ins a.bP dx [("many",V.int n),("owners",V.ref c)]) t=some (.ins a.bP dx [("many",V.int n),("owners",V.ref c)]):=ae;have m:aA (aA u c (.dK [])) t (.ins a.bP dx [("many",V.int n),("owners",V.ref c)]) c=some (.dK []):=by rw[ao B];exact ae
  have f2:∀b o,H b=some o->b≠t->aA (aA u c (.dK [])) t (.ins a.bP dx [("many",V.int n),("owners",V.ref c)]) b=some o:=λb o e j=>by rw[ao j,ao (λz=>by rw[<-z,f1 b o e j]at g;cases g)];exact f1 b o e j
  generalize aA (aA u c (.dK [])) t (.ins a.bP dx [("many",V.int n),("owners",V.ref c)])=O at k m f2⊢;refineλl f=>(U rfl ⟨t,_,dx,U rfl ⟨by rw[ao (aF k f)];exact k,T.bh,T.gh,by simp,?_⟩⟩);have C:eF "taken" (V.ref l) [("many",V.int n),("owners",V.ref c)]=([("many",V.int n),("owners",V.ref c),("taken",V.ref l)]:List (Str×V)):=rfl;rw[C];have D:l≠t:=λz=>by rw[z,k]at f;cases f
  have I:c≠l:=λz=>by rw[<-z,m]at f;cases f
  have p:H c=none:=by cases z:H c with|none=>rfl|some o=>rw[f1 c o z B]at g;cases g
  have r:H l=none:=by cases z:H l with|none=>rfl|some o=>rw[f2 l o z D]at f;cases f
  refine q c l _ p r (λb o e j=>?_) ⟨⟨dx,ae⟩,by rw[ao B,ao I];exact m,by rw[ao D];exact ae,λx J=>(by cases J),.nil⟩;rw[ao j,ao (λz=>by rw[<-z,f2 b o e j]at f;cases f)];exact f2 b o e j
def dQ(T:Txt K mg a):aS P w K mg base dw 1 a.a9.x a.a9.d ["self","owner"] (B8 P w K a.bP):=by
 refine T.a9.ok oF λv A outer s H F Q E y h=>?_
 ·obtain⟨t,G,z,n,ow,tk,m,k,I,rfl,i,B,q⟩:=h;refine⟨_,(ai (az (c6 (Dh K rfl) (by rfl) T.Cu L2.sA (O (GP (P:=P) (w:=w) K rfl (ca y) (aI K rfl (Y 0)) (Y 1) (bA ag) ⟨rfl,rfl,rfl,rfl⟩) ag)))),?_⟩;obtain⟨dx,C⟩:=i.ins;refine U rfl ⟨t,_,dx,_,U rfl ⟨C,T.bh,T.gh,rfl,z,tk,rfl,i.tak,U rfl ⟨ls rfl,λg j=>?_⟩⟩⟩;have e:=aj (o:=.lst []) (aq.refl H) j;have c:aA H g (.lst []) g=some (.lst []):=ae;generalize aA H g (.lst [])=J at e c⊢;have f:=i.same e;refine⟨tk,k,f.tak,f.keys,oX e B,?_⟩;rcases f.lsts.val k with⟨l,L,p,r,D⟩|⟨p,r⟩
  ·rw[p];refine⟨l,U rfl ⟨.inl (aW.of D),λu b=>q u _ (aj e b) (e.free b) ?_⟩⟩;unfold bv;rw[r];exact ae
  ·rw[p];refine⟨g,U rfl ⟨.inl (aW.of c),λu b=>q u _ (aj e b) (e.free b) ?_⟩⟩;unfold bv;rw[r];exact ae
def nZ(T:Txt K mg a):aS P w K mg base dw 1 a.dY.x a.dY.d ["self"] (L0 P w K a.bP):=by
 refine T.dY.ok wM λp A outer s H y Q E r h=>?_
 ·obtain⟨t,z,B,n,ow,tk,m,rfl,j,hn,q⟩:=h;refine⟨_,(ai (az (wB ["self"] ["place"] [] [1] (ak i3) (bZ 1) (cP rfl T.dS (O (aI K rfl (Y 0)) ag)) (λcl C s₀ H₀ ex=>⟨(nq ["self"] ["place"] 1),(ui (lT (qX (ca r) (Y 1) (aI K rfl (Y 0))) rfl)),(Y 1)⟩)))),?_⟩
  obtain⟨dx,l⟩:=j.ins;refine U rfl ⟨t,_,dx,_,U rfl ⟨l,T.bh,T.n8,rfl,(n:Int),rfl,by lia,by lia,λD o=>?_⟩⟩;have g:∀b,aq H (aA H D (.lst b)):=λb=>aj (aq.refl _) o;refine eL (K:=K) (lo:=0) (n:=(n:Int).toNat) (λi b H'=>b=(gj i ow).map V.int/\H'=aA H D (.lst b)) ⟨rfl,rfl⟩ ?_ ?_
  ·rintro i b _ hi⟨rfl,rfl⟩;have u:((gj i ow).map V.int).length<=i:=by unfold gj;rw[c_,c_];exact nh (tx _ _) (by rw[qq];exact g_ _)
   have c:gj (i+1) ow=gj i ow++if(a0 ow (.inl (i:Int))).isNone=true then[(i:Int)]else[]:=by
    unfold gj;rw[Q2,Qy,j1]
    congr 1
    by_cases e:(a0 ow (.inl (i:Int))).isNone=true
    ·simp[e]
    ·simp[e]
   rw[show(0:Int)+(i:Int)=((i:Nat):Int)by lia];refine au (U rfl (U rfl ⟨t,_,dx,_,U rfl ⟨g _ _ _ l,T.bh,T.eg,rfl,rG _ (du.k (k:=.inl (i:Int)) (g _ _ _ j.own)) (U rfl ?_)⟩⟩));have f:i<(n:Int).toNat:=hi;cases e:a0 ow (.inl (i:Int))with|none=>refine bH (U rfl ⟨ae,by rw[k4];lia,lf f ⟨?_,by rw[fW]⟩⟩);rw[c,e,j1];rfl|some v=>refine cj (lf f ⟨?_,rfl⟩);rw[c,e,j1];exact(v_ _).symm
  ·rintro b _⟨rfl,rfl⟩;have e:(n:Int).toNat=n:=by exact rfl
   rw[e];exact q D _ (g _) o ae
end
def Ir(b:List V)(h:0<=i):xr b (some i) none=b.drop i.toNat:=by
 show(b.drop (if i<0 then(i+(b.length:Int)).toNat else min i.toNat b.length)).take (b.length-(if i<0 then(i+(b.length:Int)).toNat else min i.toNat b.length))=b.drop i.toNat;rw[j2 (by lia)];rcases Nat.le_total i.toNat b.length with c|c
 ·rw[Nat.min_eq_left c,mo (by rw[C1];lia)]
 ·rw[Nat.min_eq_right c,QU (g_ _),QU c,List.take_nil]
def C8(c:List V)(h:0<=i):xr c none (some i)=c.take i.toNat:=by
 show(c.drop 0).take ((if i<0 then(i+(c.length:Int)).toNat else min i.toNat c.length)-0)=c.take i.toNat;rw[j2 (by lia),List.drop_zero,Nat.sub_zero];rcases Nat.le_total i.toNat c.length with b|b
 ·rw[Nat.min_eq_left b]
 ·rw[Nat.min_eq_right b,mo (g_ _),mo b]
def xH(b:List (b0×V))(k j:b0):a0 (dF b k) j=if j=k then none else a0 b j:=by induction b with|nil=>split<;>rfl|cons p r f=>
  by_cases e:p.1=k
  ·rw[yi e,f]
   by_cases c:j=k
   ·rw[ku c,ku c]
   ·rw[j2 c,j2 c,bK (λz=>c (z.symm.trans e))]
  ·rw[yj e]
   by_cases d:p.1=j
   ·rw[ck d,j2 (λz=>e (d.trans z)),ck d]
   ·rw[bK d,f,bK d]
def uc(ow:List (b0×V))(b:RX):List (b0×V):=b.foldl (λo p=>dF o (.inl p)) ow
def qN(b:RX):∀(ow:List (b0×V))(j:Int),a0 (uc ow b) (.inl j)=if j∈b then none else a0 ow (.inl j):=by induction b with|nil=>intro ow j;rw[j2 (by simp)];rfl|cons p r c=>
  intro ow j;show a0 (uc (dF ow (.inl p)) r) (.inl j)=_;rw[c,xH]
  by_cases h1:j∈r
  ·rw[ku h1,ku (i_ _ h1)]
  ·rw[j2 h1]
   by_cases h2:j=p
   ·rw[ku (by rw[h2]),ku (by rw[h2];exact kw)]
   ·rw[j2 (λz=>h2 (Sum.inl.inj z)),j2 (λz=>(ov.mp z).elim h2 h1)]
def mU(c d:Addr)(H H':Hp):Prop:=∀b o,H b=some o->b≠c->b≠d->H' b=some o
def mU.of(h:aq H H'):mU c d H H':=λb o e _ _=>h b o e
def mU.trans(a:mU d e H f)(b:mU d e f g):mU d e H g:=λc o h h1 h2=>b c o (a c o h h1 h2) h1 h2
def mU.tp(h:mU c d H H')(h1:H c=some (.dK f))(h2:H d=some (.ext φ))(e:H b=some (.tup g)):H' b=some (.tup g):=h b _ e (λz=>by rw[z,h1]at e;cases e) (λz=>by rw[z,h2]at e;cases e)
def eh(h:mU c d H H')(h1:H c=some (.dK f))(h2:H d=some (.ext φ))(b:c5 K H k v):c5 K H' k v:=by cases k with|inl k=>exact b|inr l=>obtain⟨a,g,i⟩:=b;have kp:Kp H H':=⟨λu m e=>h.tp h1 h2 e,λu o⟨j,e⟩=>⟨j,h u _ e (λz=>by rw[z,h1]at e;cases e) (λz=>by rw[z,h2]at e;cases e)⟩⟩;exact⟨a,g,kp.tq i⟩
def eX.off(h:mU b c H H')(h1:H b=some (.dK d))(h2:H c=some (.ext φ))(t:eX H tk m):eX H' tk m:=Paired.mapP t λ_ _ q=>⟨q.1,q.2.1,q.2.2.imp λ_ e=>⟨e.1,h _ _ e.2 (λz=>by rw[z,h1]at e;cases e.2) (λz=>by rw[z,h2]at e;cases e.2)⟩⟩
def eX.put(d:H l=some (.lst (f.map V.int))):∀{tk:List iU}{m:List Pl},eX H tk m->eX H (fS tk k j (.ref l)) (fS m k j f):=by
 intro tk m h;have b:(ft tk k).isSome=(ft m k).isSome:=by rcases h.val k with⟨l,f,g,i,_⟩|⟨g,i⟩<;>rw[g,i]<;>rfl
 unfold fS;rw[b]
 split
 ·rename_i hc;clear b hc
  induction h with|nil=>exact .nil|@cons x y n o r t c=>
   refine .cons ?_ c;dsimp only;rw[<-r.1]
   by_cases e:x.1=k
   ·rw[ku e,ku e];exact⟨rfl,r.2.1,l,rfl,d⟩
   ·rw[j2 e,j2 e];exact r
 ·rename_i hc;clear b hc
  induction h with|nil=>exact .cons ⟨rfl,rfl,l,rfl,d⟩ .nil|cons r t c=>exact .cons r c
def fb(H:Hp)(tk b:List iU):Prop:=∀x∈b,(∃y∈tk,y.2.2=x.2.2)\/∃l,x.2.2=.ref l/\H l=none
def fb.put(c:H l=none):fb H tk (fS tk k e (.ref l)):=by
 intro x b;unfold fS at b
 split at b
 ·obtain⟨y,d,rfl⟩:=mu.mp b
  split
  ·exact .inr ⟨l,rfl,c⟩
  ·exact .inl ⟨y,d,rfl⟩
 ·rcases RJ.mp b with b|b
  ·exact .inl ⟨x,b,rfl⟩
  ·rw[List.mem_singleton.mp b];exact .inr ⟨l,rfl,c⟩
def pV(h:mU c d H H')(h1:H' c≠none)(h2:H' d≠none)(e:H' b=none):H b=none:=by cases z:H b with|none=>rfl|some o=>have:=h b o z (λq=>h1 (by rw[<-q];exact e)) (λq=>h2 (by rw[<-q];exact e));rw[e]at this;cases this
inductive LZ(P:RR)(w:World)(K:RM)(C:Addr)(vs:List V)(H:Hp)(Q:VK)(_E:XK):Prop|mk(t od td:Addr)(n:Nat)(ow:List (b0×V))(tk:List iU)(m:List Pl)(k:bN)(kv:V)(num:Int)(_:vs=[.ref t,kv,.int num])(_:eC P w K C H t od td n ow tk m)(_:c5 K H k kv)(_:0<=num)(_:tk.length<100000)(_:(∀p∈(bv m k).drop num.toNat,(a0 ow (.inl p)).isSome=true))(_:(bv m k).Nodup)(_:∀(l:Addr)(tk':List iU)H',mU od td H H'->H l=none->H' l=some (.lst (((bv m k).drop num.toNat).reverse.map V.int))->tk'.length<=tk.length+1->fb H tk tk'->eC P w K C H' t od td n (uc ow ((bv m k).drop num.toNat).reverse) tk' (fS m k kv ((bv m k).take num.toNat))->Q (.ref l) H')
def Bj(c:List (bN×d×e))(k:bN)(b:d)(v:e):(fS c k b v).length<=c.length+1:=by
 unfold fS
 split
 ·rw[c_];lia
 ·rw[iA];simp
def eA.put(h:eA K H tk)(d:c5 K H k e):eA K H (fS tk k e v):=by
 unfold fS
 split
 ·intro x b;obtain⟨y,c,rfl⟩:=mu.mp b
  split
  ·exact h y c
  ·exact h y c
 ·intro x b;rcases RJ.mp b with b|b
  ·exact h x b
  ·rw[List.mem_singleton.mp b];exact d
section
def oT(T:Txt K mg a):aS P w K mg base dw 2 a.cF.x a.cF.d ["self","owner","number"] (LZ P w K a.bP):=by
 refine T.cF.ok dL λbJ A outer s H vs Q E hr h=>?_
 ·obtain⟨t,M,u,n,ow,tk,m,k,kv,c,rfl,g,hk,N,b8,R,al,q⟩:=h;refine⟨_,(ah (bq 3 dL.nd (bj (Y 0) T.bh T.a9.m ((dQ (P:=P) (w:=w) T).mono (by decide)) hr T.a9.b .nil bo (O (Y 1) ag))) (ah (bq 4 dL.nd (Cl K rfl rfl (by rfl) T.Cu (by rfl) T.Ct (gc (uJ K rfl) (Y 3) (i6 (Y 2)) i7))) (ah (eI pa rfl (d9 K rfl (Y 4)) (tS 5 dL.nd) (ai (aR (u4 (aI K rfl (Y 0)) (Y 5) ⟨rfl,rfl,rfl,rfl⟩)))) (ah (jt (gc (uJ K rfl) (Y 3) i7 (i6 (Y 2))) (kx (aI K rfl (Y 0)) (Y 1) (GA (P:=P) (w:=w) K rfl (ca hr)))) (ai (az (Y 4))))))),?_⟩
  obtain⟨dx,hI⟩:=g.ins;refine pq hI rfl rfl (U rfl ⟨t,M,u,n,ow,tk,m,k,kv,rfl,g,hk,λlp H1 s1 b9 I=>au ?_⟩);have cc:=g.same s1;generalize bv m k=C at R al q I⊢;refine U rfl (U rfl ⟨c,rfl,lp,U rfl ⟨aW.of I,λl2 an=>?_⟩⟩);rw[Ir _ N,<-List.map_drop];have s2:=aj (o:=.lst ((C.drop c.toNat).map V.int)) s1 an;have S:aA H1 l2 (.lst ((C.drop c.toNat).map V.int)) l2=some (.lst ((C.drop c.toNat).map V.int)):=ae;have D:aA H1 l2 (.lst ((C.drop c.toNat).map V.int)) lp=some (.lst (C.map V.int)):=by rw[ao (aF I an)];exact I
  generalize aA H1 l2 (.lst ((C.drop c.toNat).map V.int))=H2 at s2 S D⊢;refine⟨l2,U rfl ⟨aW.of S,λW ac=>au ?_⟩⟩;rw[<-List.map_reverse];generalize ap:(C.drop c.toNat).reverse=bk at q⊢;have s3:=aj (o:=.lst (bk.map V.int)) s2 ac;have l:aA H2 W (.lst (bk.map V.int)) W=some (.lst (bk.map V.int)):=ae;have F:aA H2 W (.lst (bk.map V.int)) lp=some (.lst (C.map V.int)):=by rw[ao (aF D ac)];exact D
  generalize aA H2 W (.lst (bk.map V.int))=H3 at s3 l F⊢;have r:=g.same s3;obtain⟨ad,J⟩:=r.ins;have a8:H W=none:=s2.free ac;have ba:bk.Nodup:=by rw[<-ap];exact(List.reverse_perm _).nodup_iff.mpr ((List.drop_sublist _ _).nodup al)
  have bb:∀p∈bk,(a0 ow (.inl p)).isSome=true:=λp X=>R p (by rw[<-ap]at X;exact Qh.mp X);have ne:∀{b:Addr}{o:HO},H3 b=some o->(∀bc,o≠.dK bc)->(∀φ,o≠.ext φ)->b≠M/\b≠u:=λe h1 h2=>⟨λz=>by rw[z,r.own]at e;cases e;exact h1 _ rfl,λz=>by rw[z,r.tak]at e;cases e;exact h2 _ rfl⟩;have G:=ne l (λ_ z=>nomatch z) (λ_ z=>nomatch z);have as:=ne F (λ_ z=>nomatch z) (λ_ z=>nomatch z);have nt:=ne J (λ_ z=>nomatch z) (λ_ z=>nomatch z);have a2:u≠M:=λz=>by have e:=r.tak;rw[z,r.own]at e;cases e
  refine U rfl ⟨W,rfl,⟨_,aW.of l⟩,?_⟩;refine k8 (xs:=bk.map V.int) (λi σ H'=>mU M u H3 H'/\H' M=some (.dK (uc ow (bk.take i)))/\H' u=some (dM P w u tk)/\∃v5,σ=[some (.ref t),some kv,some (.int c),some (.ref lp),some (.ref W),v5]) ⟨.of (aq.refl _),r.own,r.tak,_,rfl⟩ (λi σ H' _ h=>aW.of (h.1 _ _ l G.1 G.2)) ?_ ?_
  ·rintro i x σ H4 Z⟨L,f,y,v5,rfl⟩;have hi:i<bk.length:=by simpa using(d_.mp Z).1
   have X:bk[i]?=some bk[i]:=f_ hi;rw[ir,X]at Z;generalize bk[i]=p at Z X;cases Z;have bi:p∉bk.take i:=λz=>by
    obtain⟨j,hj⟩:=j_.mp z;have bl:j<i:=by have:=(d_.mp hj).1;rw[m3]at this;lia
    rw[QF bl]at hj;have:=(F_ (d_.mp hj).1 ba).mp (hj.trans X.symm);lia
   obtain⟨v,hv⟩:=z4.mp (bb p (il X));have bp:a0 (uc ow (bk.take i)) (.inl p)=some v:=by rw[qN,j2 bi];exact hv
   have hg:uc ow (bk.take (i+1))=dF (uc ow (bk.take i)) (.inl p):=by unfold uc;rw[u_,X,G_];rfl
   refine au (U rfl ⟨t,_,ad,_,U rfl ⟨L _ _ J nt.1 nt.2,T.bh,T.eg,rfl,M,rfl,.inl ⟨_,.inl f⟩,U rfl ⟨_,.inl p,v,f,rfl,bp,?_⟩⟩⟩);refine⟨λb o e h1 h2=>by rw[ao h1];exact L b o e h1 h2,by rw[hg];exact ae,by rw[ao a2];exact y,_,rfl⟩
  ·rintro σ H4⟨L,f,y,v5,rfl⟩;rw[c_,mo (g_ _)]at f;have a3:=L _ _ F as.1 as.2;refine U rfl (U rfl ⟨c,rfl,lp,U rfl ⟨aW.of a3,λl5 a5=>?_⟩⟩);rw[C8 _ N,<-Rg];have s5:=aj (o:=.lst ((C.take c.toNat).map V.int)) (aq.refl H4) a5;have B:aA H4 l5 (.lst ((C.take c.toNat).map V.int)) l5=some (.lst ((C.take c.toNat).map V.int)):=ae;generalize aA H4 l5 (.lst ((C.take c.toNat).map V.int))=H5 at s5 B⊢;have o5:mU M u H H5:=(mU.of s3).trans (L.trans (.of s5));have aa:=s5 _ _ y;have bt:=eh o5 g.own g.tak hk;have a6:eA K H5 tk:=λx Z=>eh o5 g.own g.tak (g.keys x Z);have n5:l5≠u:=λz=>by rw[z,aa]at B;cases B
   refine U rfl ⟨t,_,ad,_,U rfl ⟨s5 _ _ (L _ _ J nt.1 nt.2),T.bh,T.gh,rfl,U rfl ⟨u,tk,k,rfl,aa,a6,bt,by rw[k4];lia,U rfl ?_⟩⟩⟩;have o6:mU M u H (aA H5 u (dM P w u (fS tk k kv (.ref l5)))):=λb o e h1 h2=>by rw[ao h2];exact o5 b o e h1 h2
   have bz:aA H5 u (dM P w u (fS tk k kv (.ref l5))) l5=some (.lst ((C.take c.toNat).map V.int)):=by rw[ao n5];exact B
   have a7:H l5=none:=pV ((mU.of s3).trans L) (by rw[f];simp) (by rw[y];simp) a5;refine q W _ _ o6 a8 (by rw[ao G.2];exact s5 _ _ (L _ _ l G.1 G.2)) (Bj _ _ _ _) (fb.put a7) ⟨⟨ad,by rw[ao nt.2];exact s5 _ _ (L _ _ J nt.1 nt.2)⟩,by rw[ao (ol a2)];exact s5 _ _ f,ae,?_,?_⟩
   ·exact eA.put (λx Z=>eh o6 g.own g.tak (g.keys x Z)) (eh o6 g.own g.tak hk)
   ·exact eX.put bz (g.lsts.off o6 g.own g.tak)
end
def mQ(ow:List (b0×V))(b:V)(c:RX):List (b0×V):=c.foldl (λo p=>dO o (.inl p) b) ow
def uz(b:V)(c:RX):∀(ow:List (b0×V))(j:Int),a0 (mQ ow b c) (.inl j)=if j∈c then some b else a0 ow (.inl j):=by induction c with|nil=>intro ow j;rw[j2 (by simp)];rfl|cons p r d=>
  intro ow j;show a0 (mQ (dO ow (.inl p) b) b r) (.inl j)=_;rw[d,Ad]
  by_cases h1:j∈r
  ·rw[ku h1,ku (i_ _ h1)]
  ·rw[j2 h1]
   by_cases h2:j=p
   ·rw[ku (by rw[h2]),ku (by rw[h2];exact kw)]
   ·rw[j2 (λz=>h2 (Sum.inl.inj z)),j2 (λz=>(ov.mp z).elim h2 h1)]
def ye(b:V)(c:RX):∀(ow:List (b0×V)),(mQ ow b c).length<=ow.length+c.length:=by induction c with|nil=>intro ow;exact g_ _|cons p r d=>intro ow;have h1:=d (dO ow (.inl p) b);have h2:=j9 ow (.inl p) b;show(mQ (dO ow (.inl p) b) b r).length<=_;rw[n_];lia
def C4(n:Nat)(ow:List (b0×V)):(gj n ow).length<=n:=by unfold gj;rw[c_];exact nh (tx _ _) (by rw[qq];exact g_ _)
inductive LP(P:RR)(w:World)(K:RM)(C:Addr)(vs:List V)(H:Hp)(Q:VK)(_E:XK):Prop|mk(t od td:Addr)(n:Nat)(ow:List (b0×V))(tk:List iU)(m:List Pl)(k:bN)(kv:V)(num:Int)(_:vs=[.ref t,kv,.int num])(_:eC P w K C H t od td n ow tk m)(_:c5 K H k kv)(_:n<=1000)(_:((bv m k).length:Int)<=num)(_:(bv m k).length<=1000000)(_:tk.length<100000)(_:ow.length<1000000)(_:∀(tk':List iU)H',mU od td H H'->tk'.length<=tk.length+1->fb H tk tk'->eC P w K C H' t od td n (mQ ow kv ((gj n ow).take (num-(bv m k).length).toNat)) tk' (fS m k kv (bv m k++(gj n ow).take (num-(bv m k).length).toNat))->Q .non H')
section
def wU(T:Txt K mg a):aS P w K mg base dw 2 a.fF.x a.fF.d ["self","owner","number"] (LP P w K a.bP):=by
 refine T.fF.ok iq λbt A outer s H vs Q E hr h=>?_
 ·obtain⟨t,D,l,n,ow,tk,m,k,F,G,rfl,f,hk,hn,aa,a7,bz,bJ,q⟩:=h;refine⟨_,(ah (bq 3 iq.nd (bj (Y 0) T.bh T.a9.m ((dQ (P:=P) (w:=w) T).mono (by decide)) hr T.a9.b .nil bo (O (Y 1) ag))) (ah (bq 4 iq.nd (gc (uJ K rfl) (AH (Y 0) T.bh T.dY.m ((nZ (P:=P) (w:=w) T).mono (by decide)) hr T.dY.b .nil bo) i7 (i6 (av fC (Y 2) (ax (aH K rfl) (by rfl) T.bD L2.aJ (O (Y 3) ag)))))) (ah (eI pa rfl (d9 K rfl (Y 4)) (tS 5 iq.nd) (ai (jt (Y 1) (kx (aI K rfl (Y 0)) (Y 5) (oE (ca hr)))))) (ai (jt (av Cm (Y 3) (Y 4)) (kx (aI K rfl (Y 0)) (Y 1) (GA (P:=P) (w:=w) K rfl (ca hr)))))))),?_⟩
  obtain⟨dx,hI⟩:=f.ins;refine pq hI rfl rfl (U rfl ⟨t,D,l,n,ow,tk,m,k,F,rfl,f,hk,λlp H1 s1 b8 ac=>au ?_⟩);have a8:=f.same s1;generalize bv m k=C at aa a7 q ac⊢;refine pq (s1 _ _ hI) rfl rfl ⟨t,D,l,n,ow,tk,m,rfl,a8,hn,λba H2 s2 b9 ad=>?_⟩;have bb:=C4 n ow;generalize gj n ow=fs at bb ad q;have y:=s2 _ _ ac;refine U rfl (U rfl ⟨_,C.length,rfl,.inl ⟨_,aW.of y,by rw[c_]⟩,G,(C.length:Int),rfl,rfl,G-(C.length:Int),rfl,ba,U rfl ⟨aW.of ad,λS al=>au ?_⟩⟩);rw[C8 _ (by omega),<-Rg];generalize bc:fs.take (G-(C.length:Int)).toNat=c at q⊢;have cc:c.length<=1000:=by rw[<-bc,m3];omega
  have s3:=aj (o:=.lst (c.map V.int)) (s1.trans s2) al;have g:aA H2 S (.lst (c.map V.int)) S=some (.lst (c.map V.int)):=ae;have B:aA H2 S (.lst (c.map V.int)) lp=some (.lst (C.map V.int)):=by rw[ao (aF y al)];exact y
  generalize aA H2 S (.lst (c.map V.int))=H3 at s3 g B⊢;have r:=f.same s3;obtain⟨W,I⟩:=r.ins;have ne:∀{b:Addr}{o:HO},H3 b=some o->(∀bi,o≠.dK bi)->(∀φ,o≠.ext φ)->b≠D/\b≠l:=λe h1 h2=>⟨λz=>by rw[z,r.own]at e;cases e;exact h1 _ rfl,λz=>by rw[z,r.tak]at e;cases e;exact h2 _ rfl⟩;have J:=ne g (λ_ z=>nomatch z) (λ_ z=>nomatch z);have an:=ne B (λ_ z=>nomatch z) (λ_ z=>nomatch z);have X:=ne I (λ_ z=>nomatch z) (λ_ z=>nomatch z);have ap:l≠D:=λz=>by have e:=r.tak;rw[z,r.own]at e;cases e
  refine U rfl ⟨S,rfl,⟨_,aW.of g⟩,?_⟩;refine k8 (xs:=c.map V.int) (λi σ H'=>mU D l H3 H'/\H' D=some (.dK (mQ ow F (c.take i)))/\H' l=some (dM P w l tk)/\∃v5,σ=[some (.ref t),some F,some (.int G),some (.ref lp),some (.ref S),v5]) ⟨.of (aq.refl _),r.own,r.tak,_,rfl⟩ (λi σ H' _ h=>aW.of (h.1 _ _ g J.1 J.2)) ?_ ?_
  ·rintro i x σ H4 M⟨L,j,u,v5,rfl⟩;have hi:i<c.length:=by simpa using(d_.mp M).1
   have hp:c[i]?=some c[i]:=f_ hi;rw[ir,hp]at M;generalize c[i]=p at M hp;cases M;have hg:mQ ow F (c.take (i+1))=dO (mQ ow F (c.take i)) (.inl p) F:=by unfold mQ;rw[u_,hp,G_];rfl
   have ci:=ye F (c.take i) ow;have htl:=List.length_take_le i c;refine au (U rfl (U rfl ⟨t,_,W,_,U rfl ⟨L _ _ I X.1 X.2,T.bh,T.eg,rfl,U rfl ⟨D,_,.inl p,rfl,rfl,j,by rw[k4];omega,?_⟩⟩⟩));refine⟨λb o e h1 h2=>by rw[ao h1];exact L b o e h1 h2,by rw[hg];exact ae,by rw[ao ap];exact u,_,rfl⟩
  ·rintro σ H4⟨L,j,u,v5,rfl⟩;rw[c_,mo (g_ _)]at j;have as:=L _ _ B an.1 an.2;have a2:=L _ _ g J.1 J.2;refine U rfl (U rfl ⟨lp,S,_,U rfl ⟨rfl,as,a2,by rw[c_,c_,k4];lia,λN a3=>?_⟩⟩);rw[<-j1];have Z:=aj (o:=.lst ((C++c).map V.int)) (aq.refl H4) a3;have v:aA H4 N (.lst ((C++c).map V.int)) N=some (.lst ((C++c).map V.int)):=ae;generalize aA H4 N (.lst ((C++c).map V.int))=H5 at Z v⊢;have o5:mU D l H H5:=(mU.of s3).trans (L.trans (.of Z));have R:=Z _ _ u;have bl:=eh o5 f.own f.tak hk;have a5:eA K H5 tk:=λx M=>eh o5 f.own f.tak (f.keys x M);have n5:N≠l:=λz=>by rw[z,R]at v;cases v
   refine U rfl ⟨t,_,W,_,U rfl ⟨Z _ _ (L _ _ I X.1 X.2),T.bh,T.gh,rfl,U rfl ⟨l,tk,k,rfl,R,a5,bl,by rw[k4];omega,?_⟩⟩⟩;have o6:mU D l H (aA H5 l (dM P w l (fS tk k F (.ref N)))):=λb o e h1 h2=>by rw[ao h2];exact o5 b o e h1 h2
   have bp:aA H5 l (dM P w l (fS tk k F (.ref N))) N=some (.lst ((C++c).map V.int)):=by rw[ao n5];exact v
   have a6:H N=none:=pV ((mU.of s3).trans L) (by rw[j];simp) (by rw[u];simp) a3;refine q _ _ o6 (Bj _ _ _ _) (fb.put a6) ⟨⟨W,by rw[ao X.2];exact Z _ _ (L _ _ I X.1 X.2)⟩,by rw[ao (ol ap)];exact Z _ _ j,ae,?_,?_⟩
   ·exact eA.put (λx M=>eh o6 f.own f.tak (f.keys x M)) (eh o6 f.own f.tak hk)
   ·exact eX.put bp (f.lsts.off o6 f.own f.tak)
end
structure AS where
 pl:bN->List Int
 oc:Int->Bool
def iE(n:Nat)(oc:Int->Bool):List Int:=((List.range n).filter λ(i:Nat)=>!oc (i:Int)).map λ(i:Nat)=>(i:Int)
def AS.give(s:AS)(k:bN)(c:Nat):AS:=⟨λj=>if j=k then(s.pl k).take c else s.pl j,λp=>if p∈(s.pl k).drop c then false else s.oc p⟩
def AS.took(s:AS)(n:Nat)(k:bN)(c:Nat):AS:=⟨λj=>if j=k then s.pl k++(iE n s.oc).take (c-(s.pl k).length)else s.pl j,λp=>if p∈(iE n s.oc).take (c-(s.pl k).length)then true else s.oc p⟩
structure AS.Ok(n:Nat)(s:AS):Prop where
 in_:∀k p,p∈s.pl k->0<=p/\p<n/\s.oc p=true
 dj:∀k j p,p∈s.pl k->p∈s.pl j->k=j
 nd:∀k,(s.pl k).Nodup
def AS.new:AS:=⟨λ_=>[],λ_=>false⟩
def AS.new_ok(n:Nat):AS.new.Ok n:=⟨λ_ _ h=>(nomatch h),λ_ _ _ h=>(nomatch h),λ_=>Qx⟩
def um:p∈iE n oc↔0<=p/\p<n/\oc p=false:=by
 unfold iE;rw[mu]
 constructor
 ·rintro⟨i,hi,rfl⟩;obtain⟨h1,h2⟩:=v1.mp hi;have:=si.mp h1;exact⟨by exact rk _,by exact Int.ofNat_lt.mpr this,by simpa using h2⟩
 ·rintro⟨h1,h2,h3⟩;refine⟨p.toNat,v1.mpr ⟨si.mpr (by lia),?_⟩,by exact Int.toNat_of_nonneg h1⟩;rw[show((p.toNat:Nat):Int)=p by exact Int.toNat_of_nonneg h1,h3];rfl
def zE(n:Nat)(oc:Int->Bool):(iE n oc).Nodup:=by unfold iE;rw[K_,List.pairwise_map];exact(K_.mp (List.filter_sublist.nodup List.nodup_range)).imp λh=>by lia
def MR(n:Nat)(oc:Int->Bool):(iE n oc).length<=n:=by unfold iE;rw[c_];exact nh (tx _ _) (by rw[qq];exact g_ _)
def GB{l m:RX}(h1:l.Nodup)(h2:m.Nodup)(h:∀x,x∈l↔x∈m):l.length=m.length:=Nat.le_antisymm (Ba h1 λx b=>(h x).mp b) (Ba h2 λx b=>(h x).mpr b)
def HU{n:Nat}{oc:Int->Bool}{c:RX}(hn:c.Nodup)(f:∀p∈c,0<=p/\p<n/\oc p=true):(iE n λp=>if p∈c then false else oc p).length=(iE n oc).length+c.length:=by
 rw[<-iA];refine GB (zE _ _) ?_ λx=>?_
 ·rw[op];refine⟨zE _ _,hn,λa g b i e=>?_⟩;subst e;have h1:=(um.mp g).2.2;rw[(f a i).2.2]at h1;cases h1
 ·rw[um,RJ,um]
  by_cases d:x∈c
  ·rw[ku d];have:=f x d;exact⟨λ_=>.inr d,λ_=>⟨this.1,this.2.1,rfl⟩⟩
  ·rw[j2 d];exact⟨λh=>.inl h,λh=>h.resolve_right d⟩
def Bx{l:RX}(h:l.Nodup)(i:Nat):l.filter (λx=>decide (x∉l.take i))=l.drop i:=by
 have e:l.filter (λx=>decide (x∉l.take i))=(l.take i++l.drop i).filter (λx=>decide (x∉l.take i)):=by rw[q_]
 rw[e,Qy];have h1:(l.take i).filter (λx=>decide (x∉l.take i))=[]:=by rw[List.filter_eq_nil_iff];intro x b;simp[b]
 have h2:(l.drop i).filter (λx=>decide (x∉l.take i))=l.drop i:=by rw[List.filter_eq_self];intro x b;have h:=h;rw[<-q_ i l,op]at h;exact m_ λz=>h.2.2 x z x b rfl
 rw[h1,h2];rfl
def E9(n:Nat)(oc:Int->Bool)(i:Nat):(iE n λp=>if p∈(iE n oc).take i then true else oc p)=(iE n oc).drop i:=by
 have e:(iE n λp=>if p∈(iE n oc).take i then true else oc p)=(iE n oc).filter (λx=>decide (x∉(iE n oc).take i)):=by
  generalize(iE n oc).take i=c;unfold iE;rw[List.filter_map,List.filter_filter]
  congr 1
  refine Rq λj _=>?_;show(!if(j:Int)∈c then true else oc j)=(decide ((j:Int)∉c)&&!oc j)
  by_cases b:(j:Int)∈c
  ·rw[ku b];simp[b]
  ·rw[j2 b];simp[b]
 rw[e];exact Bx (zE _ _) i
theorem AS.Ok.give{n:Nat}{s:AS}(h:s.Ok n)(k:bN)(c:Nat):(s.give k c).Ok n:=by
 have f:∀p,p∈(s.pl k).take c->p∉(s.pl k).drop c:=λp h1 h2=>by have:=h.nd k;rw[<-q_ c (s.pl k),op]at this;exact this.2.2 p h1 p h2 rfl
 have sub:∀j p,p∈(s.give k c).pl j->p∈s.pl j:=λj p d=>by
  have d:p∈(if j=k then(s.pl k).take c else s.pl j):=d
  split at d
  ·rename_i e;rw[e];exact Ql d
  ·exact d
 refine⟨λj p d=>?_,λj i p h1 h2=>h.dj j i p (sub j p h1) (sub i p h2),λj=>?_⟩
 ·obtain⟨a,b,e⟩:=h.in_ j p (sub j p d);refine⟨a,b,?_⟩;show(if p∈(s.pl k).drop c then false else s.oc p)=true;rw[j2,e];intro z;have d:p∈(if j=k then(s.pl k).take c else s.pl j):=d
  split at d
  ·exact f p d z
  ·rename_i g;exact g (h.dj j k p d (Rc z))
 ·show(if j=k then(s.pl k).take c else s.pl j).Nodup
  split
  ·exact(QB _ _).nodup (h.nd k)
  ·exact h.nd j
theorem AS.Ok.took{n:Nat}{s:AS}(h:s.Ok n)(k:bN)(c:Nat):(s.took n k c).Ok n:=by
 have fr:∀p∈(iE n s.oc).take (c-(s.pl k).length),0<=p/\p<n/\s.oc p=false:=λp f=>um.mp (Ql f);have g:((iE n s.oc).take (c-(s.pl k).length)).Nodup:=(QB _ _).nodup (zE _ _);unfold AS.took;generalize(iE n s.oc).take (c-(s.pl k).length)=l at fr g;have d:∀j p,p∈(if j=k then s.pl k++l else s.pl j)->p∈s.pl j\/(j=k/\p∈l):=λj p f=>by
  split at f
  ·rename_i e;rcases RJ.mp f with z|z
   ·rw[e];exact .inl z
   ·exact .inr ⟨e,z⟩
  ·exact .inl f
 refine⟨λj p f=>?_,λj i p h1 h2=>?_,λj=>?_⟩
 ·show 0<=p/\p<n/\(if p∈l then true else s.oc p)=true;rcases d j p f with z|⟨_,z⟩
  ·obtain⟨a,b,e⟩:=h.in_ j p z;refine⟨a,b,?_⟩
   split
   ·rfl
   ·exact e
  ·exact⟨(fr p z).1,(fr p z).2.1,by rw[ku z]⟩
 ·rcases d j p h1 with z|⟨m,z⟩<;>rcases d i p h2 with y|⟨o,y⟩
  ·exact h.dj j i p z y
  ·have:=(h.in_ j p z).2.2;rw[(fr p y).2.2]at this;cases this
  ·have:=(h.in_ i p y).2.2;rw[(fr p z).2.2]at this;cases this
  ·rw[m,o]
 ·show(if j=k then s.pl k++l else s.pl j).Nodup
  split
  ·rw[op];refine⟨h.nd k,g,λa q b r z=>?_⟩;subst z;have h1:=(h.in_ k a q).2.2;rw[(fr a r).2.2]at h1;cases h1
  ·exact h.nd j
abbrev Wl:=List (bN×Int)
def bx(s:AS)(W:Wl):AS:=W.foldl (λs x=>s.give x.1 x.2.toNat) s
def cy:AS->Wl->List Int|_,[]=>[]|s,x::r=>((s.pl x.1).drop x.2.toNat).reverse++cy (s.give x.1 x.2.toNat) r
def bX(n:Nat)(s:AS)(W:Wl):AS:=W.foldl (λs x=>s.took n x.1 x.2.toNat) s
def cJ(s:AS)(W:Wl):Int:=(W.map λx=>x.2-((s.pl x.1).length:Int)).sum
def qg(s:AS)(W:Wl)(x:bN×Int):bx s (W++[x])=(bx s W).give x.1 x.2.toNat:=by unfold bx;rw[G_];rfl
theorem qm:∀(W:Wl)(s:AS)(x:bN×Int),cy s (W++[x])=cy s W++(((bx s W).pl x.1).drop x.2.toNat).reverse|[],s,x=>by show _++[]=[]++_;rw[v_,List.nil_append];rfl|y::r,s,x=>by show _++cy _ (r++[x])=(_++cy _ r)++_;rw[qm r,QD];rfl
def yJ(n:Nat)(s:AS)(W:Wl)(x:bN×Int):bX n s (W++[x])=(bX n s W).took n x.1 x.2.toNat:=by unfold bX;rw[G_];rfl
theorem gN{n:Nat}:∀(W:Wl){s:AS},s.Ok n->(bx s W).Ok n|[],_,h=>h|x::r,_,h=>gN r (h.give x.1 x.2.toNat)
theorem lz{n:Nat}:∀(W:Wl){s:AS},s.Ok n->(bX n s W).Ok n|[],_,h=>h|x::r,_,h=>lz r (h.took x.1 x.2.toNat)
theorem j7:∀{W:Wl},(∀x∈W,s'.pl x.1=s.pl x.1)->cJ s' W=cJ s W|[],_=>rfl|x::r,h=>by have b:=j7 (s:=s) (s':=s') (W:=r) λy c=>h y (i_ _ c);unfold cJ at b⊢;rw[no,List.sum_cons,no,List.sum_cons,b,h x kw]
def xW(s:AS)(V W:Wl):cJ s (V++W)=cJ s V+cJ s W:=by unfold cJ;rw[j1,List.sum_append]
def jz(s:AS)(x:bN×Int)(W:Wl):cJ s (x::W)=(x.2-((s.pl x.1).length:Int))+cJ s W:=by unfold cJ;rw[no,List.sum_cons]
def E6{n:Nat}{s:AS}(h:s.Ok n){V W:Wl}{x:bN×Int}(d:0<=x.2)(hn:((V++x::W).map (·.1)).Nodup):cJ (s.give x.1 x.2.toNat) (V++x::W)=cJ s (V++x::W)+(((s.pl x.1).drop x.2.toNat).length:Int)/\(iE n (s.give x.1 x.2.toNat).oc).length=(iE n s.oc).length+((s.pl x.1).drop x.2.toNat).length:=by
 constructor
 ·rw[xW,xW,jz,jz];rw[j1,no,op]at hn;have h1:cJ (s.give x.1 x.2.toNat) V=cJ s V:=j7 λy b=>by show(if y.1=x.1 then _ else s.pl y.1)=_;rw[j2 λz=>hn.2.2 y.1 (List.mem_map_of_mem b) x.1 kw z]
  have h2:cJ (s.give x.1 x.2.toNat) W=cJ s W:=j7 λy b=>by show(if y.1=x.1 then _ else s.pl y.1)=_;rw[j2 λ(z:y.1=x.1)=>(Q3.mp hn.2.1).1 (z▸mu.mpr ⟨y,b,rfl⟩)]
  have h3:(s.give x.1 x.2.toNat).pl x.1=(s.pl x.1).take x.2.toNat:=ku rfl;rw[h1,h2,h3,m3,C1];lia
 ·exact HU ((List.drop_sublist _ _).nodup (h.nd x.1)) λp c=>h.in_ x.1 p (Rc c)
theorem Bu{n:Nat}{s:AS}(h:s.Ok n){W:Wl}(hn:(W.map (·.1)).Nodup)(h0:∀x∈W,0<=x.2):∀i,i<=W.length->cJ (bx s (W.take i)) W+((iE n s.oc).length:Int)=cJ s W+((iE n (bx s (W.take i)).oc).length:Int)/\∀x∈W.take i,(((bx s (W.take i)).pl x.1).length:Int)<=x.2
 |0,_=>⟨rfl,λx c=>(nomatch c)⟩|i+1,hi=>by
  obtain⟨e,le⟩:=Bu h hn h0 i (by exact sm hi);have c:W[i]?=some (W[i]'(by exact hi)):=f_ (by exact hi);have b:W=W.take i++W[i]'(by exact hi)::W.drop (i+1):=by have:=q_ i W;rw[List.drop_eq_getElem_cons (by exact hi)]at this;exact this.symm
  have hm:=il c;generalize W[i]'(by exact hi)=x at c b hm;have d:W.take (i+1)=W.take i++[x]:=by rw[u_,c];rfl
  have f:=E6 (gN (W.take i) h) (V:=W.take i) (x:=x) (W:=W.drop (i+1)) (h0 x hm) (by rw[<-b];exact hn);rw[<-b]at f;rw[d,qg];refine⟨by lia,λy j=>?_⟩;show(((if y.1=x.1 then((bx s (W.take i)).pl x.1).take x.2.toNat else(bx s (W.take i)).pl y.1)).length:Int)<=y.2;rcases RJ.mp j with z|z
  ·have g:y.1≠x.1:=λq=>by rw[b,j1,no,op]at hn;exact hn.2.2 y.1 (mu.mpr ⟨y,z,rfl⟩) x.1 kw q
   rw[j2 g];exact le y z
  ·rw[List.mem_singleton.mp z,ku rfl,m3];have:=h0 x hm;lia
def FU{n:Nat}{s:AS}{k:bN}{c:Nat}(h:c-(s.pl k).length<=(iE n s.oc).length):(iE n (s.took n k c).oc).length=(iE n s.oc).length-(c-(s.pl k).length):=by show(iE n λp=>if p∈(iE n s.oc).take (c-(s.pl k).length)then true else s.oc p).length=_;rw[E9,C1]
def y7{n:Nat}{b:RX}(h:b.Nodup)(c:∀p∈b,0<=p/\p<n):b.length<=n:=by
 have:=Ba (l:=b) (m:=(List.range n).map λ(i:Nat)=>(i:Int)) h λp d=>by obtain⟨h1,h2⟩:=c p d;exact mu.mpr ⟨p.toNat,si.mpr (by lia),by exact Int.toNat_of_nonneg h1⟩
 rw[c_,qq]at this;exact this
def Nb(K:RM)(H:Hp)(d:List V)(W:Wl):Prop:=Paired (λ(v:V)(x:bN×Int)=>∃b c,v=.ref b/\aU K H b [c,.int x.2]/\c5 K H x.1 c) d W
def Nb.get(h:Nb K H d W)(i:Nat)(v:V)(e:d[i]?=some v):∃x,W[i]?=some x/\∃b c,v=.ref b/\aU K H b [c,.int x.2]/\c5 K H x.1 c:=Paired.at_ h i v e
def GX(h:mU d f H H')(h1:H d=some (.dK g))(h2:H f=some (.ext φ))(e:aU K H b c):aU K H' b c:=by have kp:Kp H H':=⟨λu c e=>h.tp h1 h2 e,λu o⟨i,e⟩=>⟨i,h u _ e (λz=>by rw[z,h1]at e;cases e) (λz=>by rw[z,h2]at e;cases e)⟩⟩;exact kp.tq e
def eC.list(h:eC P w K C H t j o n ow tk m)(d:H c=some (.lst bs))(f:∀x∈tk,x.2.2≠.ref c):eC P w K C (aA H c (.lst cs)) t j o n ow tk m:=by
 obtain⟨dx,g⟩:=h.ins;have kp:Kp H (aA H c (.lst cs)):=.lst d;refine⟨⟨dx,by rw[ao (λz=>by rw[z,d]at g;cases g)];exact g⟩,by rw[ao (λz=>by have e:=h.own;rw[z,d]at e;cases e)];exact h.own,by rw[ao (λz=>by have e:=h.tak;rw[z,d]at e;cases e)];exact h.tak,λx p=>?_,?_⟩
 ·have:=h.keys x p;cases e:x.1 with|inl k=>rw[e]at this;exact this|inr B=>rw[e]at this;obtain⟨b,h1,h2⟩:=this;exact⟨b,h1,kp.tq h2⟩
 ·have go:∀{tk:List iU}{m:List Pl},eX H tk m->(∀x∈tk,x.2.2≠.ref c)->eX (aA H c (.lst cs)) tk m:=by
   intro tk m h f
   induction h with|nil=>exact .nil|@cons x y D E r t q=>obtain⟨s,u,l,i,v⟩:=r;refine .cons ⟨s,u,l,i,?_⟩ (q λz A=>f z (i_ _ A));rw[ao (λz=>f x kw (by rw[i,z]))];exact v
  exact go h.lsts f
theorem eX.at_(h:eX H tk m)(i:Nat)(x:iU)(e:tk[i]?=some x):∃y:Pl,m[i]?=some y/\∃l,x.2.2=.ref l/\H l=some (.lst (y.2.2.map V.int)):=(Paired.at_ h i x e).imp λ_ q=>⟨q.1,q.2.2.2⟩
def HM(b:RX):∀(ow:List (b0×V)),(uc ow b).length<=ow.length:=by induction b with|nil=>intro ow;exact g_ _|cons p r c=>intro ow;exact nh (c _) (vM ow (.inl p))
def Hl(f:List (bN×g×h))(k j:bN)(b:g)(v:h):ft (fS f k b v) j=if j=k then some v else ft f j:=by
 have d:∀c:List (bN×g×h),ft (c.map λy=>if y.1=k then(y.1,y.2.1,v)else y) j=(ft c j).map λx=>if j=k then v else x:=by
  intro c
  induction c with|nil=>rfl|cons z r m=>
   unfold ft at m⊢;rw[no,r3,r3];have i:(if z.1=k then(z.1,z.2.1,v)else z).1=z.1:=by split<;>rfl
   rw[i]
   by_cases e:z.1=j
   ·rw[m_ e];show some (if z.1=k then(z.1,z.2.1,v)else z).2.2=some (if j=k then v else z.2.2);rw[e]
    split<;>rfl
   ·rw[nn e];exact m
 have l:∀c:List (bN×g×h),ft c k=none->ft (c++[(k,b,v)]) j=if j=k then some v else ft c j:=by
  intro c i;unfold ft at i⊢;rw[List.find?_append]
  by_cases e:j=k
  ·subst e;rw[ku rfl,Option.map_eq_none_iff.mp i];simp
  ·rw[j2 e];have:List.find? (λy:bN×g×h=>decide (y.1=j)) [(k,b,v)]=none:=by simp[ol e]
   rw[this,Option.or_none]
 unfold fS
 by_cases hc:(ft f k).isSome=true
 ·rw[ku hc,d]
  by_cases e:j=k
  ·subst e;obtain⟨x,n⟩:=z4.mp hc;rw[n,ku rfl];simp
  ·rw[j2 e];simp[e]
 ·rw[j2 hc];exact l f (by simpa using hc)
def jS(n:Nat)(s:AS)(ow:List (b0×V))(m:List Pl):Prop:=(∀k,bv m k=s.pl k)/\∀p:Int,0<=p->p<n->(a0 ow (.inl p)).isSome=s.oc p
def i8(m:List Pl)(k j:bN)(c:V)(b:RX):bv (fS m k c b) j=if j=k then b else bv m j:=by
 unfold bv;rw[Hl]
 split<;>rfl
def jS.free(h:jS n s ow m):gj n ow=iE n s.oc:=by
 unfold gj iE
 congr 1
 refine Rq λi hi=>?_;have:=si.mp hi;rw[<-h.2 i (by exact rk _) (by exact Int.ofNat_lt.mpr this)];cases a0 ow (.inl (i:Int))<;>rfl
theorem jS.give(h:jS n s ow m)(k:bN)(d:V)(c:Nat):jS n (s.give k c) (uc ow ((s.pl k).drop c).reverse) (fS m k d ((s.pl k).take c)):=by
 refine⟨λj=>?_,λp p0 p1=>?_⟩
 ·rw[i8,h.1];rfl
 ·rw[qN];show _=if p∈(s.pl k).drop c then false else s.oc p
  by_cases b:p∈(s.pl k).drop c
  ·rw[ku b,ku (Qh.mpr b)];rfl
  ·rw[j2 b,j2 (λz=>b (Qh.mp z))];exact h.2 p p0 p1
theorem jS.took(h:jS n s ow m)(k:bN)(b:V)(c:Nat):jS n (s.took n k c) (mQ ow b ((iE n s.oc).take (c-(s.pl k).length))) (fS m k b (s.pl k++(iE n s.oc).take (c-(s.pl k).length))):=by
 refine⟨λj=>?_,λp p0 p1=>?_⟩
 ·rw[i8,h.1];rfl
 ·rw[uz];show _=if p∈(iE n s.oc).take (c-(s.pl k).length)then true else s.oc p
  split
  ·rfl
  ·exact h.2 p p0 p1
def fb.refl(H:Hp)(tk:List iU):fb H tk tk:=λx b=>.inl ⟨x,b,rfl⟩
theorem fb.trans(a:fb H tk c)(b:fb i c d)(h:∀l,i l=none->H l=none):fb H tk d:=λx j=>by
 rcases b x j with⟨y,k,e⟩|⟨l,e,f⟩
 ·rcases a y k with⟨z,m,g⟩|⟨l,g,f⟩
  ·exact .inl ⟨z,m,g.trans e⟩
  ·exact .inr ⟨l,e▸g,f⟩
 ·exact .inr ⟨l,e,h l f⟩
def c8{b:Type}{l:List b}{i:Nat}{x:b}(h:l[i]?=some x):l.take (i+1)=l.take i++[x]:=by rw[u_,h];rfl
theorem tm{n:Nat}:∀(W:Wl){s:AS},s.Ok n->(cy s W).length<=n*W.length|[],_,_=>ng _|x::r,s,h=>by show(_++cy _ r).length<=n*(r.length+1);have c:=tm r (h.give x.1 x.2.toNat);have h1:=y7 (h.nd x.1) λp b=>⟨(h.in_ x.1 p b).1,(h.in_ x.1 p b).2.1⟩;rw[iA,Qt,C1,Nat.mul_add,Nat.mul_one];lia
def wC(R:bN->V->Prop)(n:Nat)(s:AS)(ow:List (b0×V)):Prop:=∀(p:Int)(v:V),0<=p->p<n->a0 ow (.inl p)=some v->∃k,p∈s.pl k/\R k v
theorem wC.give(h:wC R n s ow)(k:bN)(c:Nat):wC R n (s.give k c) (uc ow ((s.pl k).drop c).reverse):=by
 intro p v p0 p1 e;rw[qN]at e
 split at e
 ·cases e
 ·rename_i d;obtain⟨j,b,r⟩:=h p v p0 p1 e;refine⟨j,?_,r⟩;show p∈if j=k then(s.pl k).take c else s.pl j
  split
  ·rename_i f;rw[f,<-q_ c (s.pl k),RJ]at b;exact b.resolve_right λz=>d (Qh.mpr z)
  ·exact b
theorem wC.took(h:wC R n s ow)(k:bN)(d:R k f)(c:Nat):wC R n (s.took n k c) (mQ ow f ((iE n s.oc).take (c-(s.pl k).length))):=by
 intro p v p0 p1 e;rw[uz]at e
 split at e
 ·rename_i g;cases e;refine⟨k,?_,d⟩;show p∈if k=k then s.pl k++(iE n s.oc).take (c-(s.pl k).length)else s.pl k
  rw[ku rfl];exact o0 _ g
 ·obtain⟨j,b,r⟩:=h p v p0 p1 e;refine⟨j,?_,r⟩;show p∈if j=k then s.pl k++(iE n s.oc).take (c-(s.pl k).length)else s.pl j
  split
  ·rename_i i;rw[i]at b;exact t2 _ b
  ·exact b
def wC.mono(h:wC R n s ow)(f:∀k v,R k v->b k v):wC b n s ow:=λp v p0 p1 e=>let⟨k,h1,h2⟩:=h p v p0 p1 e;⟨k,h1,f k v h2⟩
inductive F4(P:RR)(w:World)(K:RM)(C N:Addr)(vs:List V)(H:Hp)(Q:VK)(E:XK):Prop|mk(t od td wl:Addr)(n:Nat)(ow:List (b0×V))(tk:List iU)(m:List Pl)(S:AS)(W:Wl)(ts:List V)(_:vs=[.ref t,.ref wl])(_:eC P w K C H t od td n ow tk m)(_:jS n S ow m)(_:wC (c5 K H) n S ow)(_:S.Ok n)(_:H wl=some (.lst ts))(_:Nb K H ts W)(_:(∀x∈W,0<=x.2))(_:(W.map (·.1)).Nodup)(_:W.length<=5)(_:n<=1000)(_:tk.length<=5000)(_:ow.length<=500000)(_:(cJ S W<=((iE n S.oc).length:Int)->∀(l:Addr)(ow':List (b0×V))(tk':List iU)(m':List Pl)H',mU od td H H'->eC P w K C H' t od td n ow' tk' m'->jS n (bX n (bx S W) W) ow' m'->wC (c5 K H) n (bX n (bx S W) W) ow'->H l=none->H' l=some (.lst ((cy S W).map V.int))->fb H tk tk'->(∀x∈tk',x.2.2≠.ref l)->tk'.length<=tk.length+10->ow'.length<=ow.length+5000->Q (.ref l) H'))(_:(((iE n S.oc).length:Int)<cJ S W->∀H',aq H H'->E (.ref N) none H'))
section
def nY(T:Txt K mg a):aS P w K mg base (Aa P w) 3 a.dX.x a.dX.d ["self","wanted"] (F4 P w K a.bP a.mV):=by
 refine T.dX.okE dg λer A outer s H vs Q E hr h=>?_
 ·obtain⟨t,Z,td,wl,n,ow,tk,m,S,W,ts,rfl,hT,hS,hR,hO,cc,hW,c2,ed,es,hn,et,ev,q,qe⟩:=h;refine⟨_,(ah (bq 2 dg.nd (ax (Fp K rfl rfl) (by rfl) T.Oo L2.IE (O (wB jb [] [4,5] [4,5] (ak i0) (vD _ 4 5) (d9 K rfl (Y 1)) (λcl C s₀ H₀ ex=>⟨(gb K rfl rfl (bF (nq jb [] 4) (bF (nq jb [] 5) ga))),bR,(av fC (Y 5) (ax (aH K rfl) (by rfl) T.bD L2.aJ (O (bj (Y 0) T.bh T.a9.m ((dQ (P:=P) (w:=w) T).mono (by decide)) hr T.a9.b .nil bo (O (Y 4) ag)) ag)))⟩)) ag))) (ah (aK (aD sN (Y 2) (ax (aH K rfl) (by rfl) T.bD L2.aJ (O (AH (Y 0) T.bh T.dY.m ((nZ (P:=P) (w:=w) T).mono (by decide)) hr T.dY.b .nil bo) ag)) (aG _)) (ai (AE T.yg rfl T.Bh rfl AC (O aC ag))) aB) (ah (bq 3 dg.nd (bA ag)) (ah (PS.nox (eI pa rfl (d9 K rfl (Y 1)) (gb K rfl rfl (bF (tS 4 dg.nd) (bF (tS 5 dg.nd) ga))) (ai (aR (jw K rfl PySem.F.plainAttrs_list PySem.F.slot_list_extend PySem.F.type_list_extend xX (Y 3) (O (bj (Y 0) T.bh T.cF.m ((oT (P:=P) (w:=w) T).mono (by decide)) hr T.cF.b .nil bo (O (Y 4) (O (Y 5) ag))) ag)))))) (ah (PS.nox (eI pa rfl (d9 K rfl (Y 1)) (gb K rfl rfl (bF (tS 4 dg.nd) (bF (tS 5 dg.nd) ga))) (ai (aR (bj (Y 0) T.bh T.fF.m ((wU (P:=P) (w:=w) T).mono (by decide)) hr T.fF.b .nil bo (O (Y 4) (O (Y 5) ag))))))) (ai (az (Y 3)))))))),?_⟩
  obtain⟨dx,hI⟩:=hT.ins;have htl:ts.length=W.length:=Paired.length hW;refine U rfl ⟨wl,rfl,⟨_,aW.of cc⟩,λD hD=>?_⟩;refine je (K:=K) (a:=wl) (xs:=ts) (λi a3 H'=>aq H H'/\H' D=some (.lst a3)/\a3=((W.take i).map λx=>x.2-((S.pl x.1).length:Int)).map V.int) ⟨aj (aq.refl _) hD,ae,rfl⟩ (λi a3 H' _ h=>aW.of (h.1 _ _ cc)) ?_ ?_
  ·rintro i v a3 H1 hv⟨s1,bc,rfl⟩;have hi:i<ts.length:=(d_.mp hv).1;obtain⟨x,X,b,kv,rfl,hb,hk⟩:=hW.get i v hv;refine⟨b,U rfl ⟨aq.tseq s1 hb,rfl,_,U rfl (au ⟨_,U rfl (au ⟨rfl,iL (bH ?_)⟩)⟩)⟩⟩;refine U rfl (pq (s1 _ _ hI) rfl rfl (U rfl ⟨t,Z,td,n,ow,tk,m,x.1,kv,rfl,hT.same s1,oX s1 hk,λlp H2 s2 ew ef=>?_⟩));refine⟨_,U rfl ⟨.inl ⟨_,aW.of ef,rfl⟩,_,U rfl ⟨rfl,s2 _ _ bc,by rw[c_,c_,m3,k4];omega,lf hi ⟨bu (s1.trans s2) hD,ae,?_⟩⟩⟩⟩;rw[c8 X,j1,j1,hS.1,c_];rfl
  ·rintro a3 H1⟨s1,bc,rfl⟩;rw[mo (by exact Qd htl.symm)]at bc;refine⟨D,U rfl ⟨.inl (aW.of bc),au ?_⟩⟩;have ei:=hT.same s1;refine U rfl (pq (s1 _ _ hI) rfl rfl ⟨t,Z,td,n,ow,tk,m,rfl,ei,hn,λey H2 s2 ez c3=>?_⟩);rw[hS.free]at c3;refine⟨_,U rfl ⟨.inl ⟨_,aW.of c3,rfl⟩,_,U rfl ⟨rfl,U rfl ?_⟩⟩⟩;have M:=s1.trans s2;rw[c_];refine xh (λe=>⟨ls rfl,qe (rd e) H2 M⟩) (λe=>J8 ⟨ls rfl,λN al=>au ?_⟩);have q:=q (Int.not_lt.mp (of_decide_eq_false e));clear e qe;have an:=hT.same M;have s3:=aj (o:=.lst []) (aq.refl H2) al;have bt:aA H2 N (.lst []) N=some (.lst []):=ae;have c4:H N=none:=M.free al;generalize aA H2 N (.lst [])=H3 at s3 bt⊢;have r:=M _ _ cc;refine U rfl ⟨wl,rfl,⟨_,aW.of (s3 _ _ r)⟩,?_⟩;have a5:N≠Z:=λz=>by have e:=an.own;rw[<-z,al]at e;cases e
   have a6:N≠td:=λz=>by have e:=an.tak;rw[<-z,al]at e;cases e
   have da:wl≠Z:=λz=>by have e:=an.own;rw[<-z,r]at e;cases e
   have dc:wl≠td:=λz=>by have e:=an.tak;rw[<-z,r]at e;cases e
   have ap:wl≠Z/\wl≠td:=⟨da,dc⟩;have di:∀x∈tk,x.2.2≠.ref N:=λx X z=>by obtain⟨i,hi⟩:=j_.mp X;obtain⟨y,_,l,e3,e4⟩:=eX.at_ an.lsts i x hi;rw[e3]at z;cases z;rw[al]at e4;cases e4
   have dt:fb H2 tk tk:=fb.refl _ _;have fresh:∀H',mU Z td H2 H'->H' Z≠none->H' td≠none->∀l,H' l=none->H2 l=none:=λH' o h1 h2 l hl=>pV o h1 h2 hl;refine k8 (xs:=ts) (λi σ H'=>Pf λg I m'=>OY (mU Z td H2 H') (eC P w K a.bP H' t Z td n g I m') ((jS n (bx S (W.take i)) g m'/\wC (c5 K H) n (bx S (W.take i)) g)) (fb H2 tk I) (I.length<=tk.length+i) (g.length<=ow.length) ((∀x∈I,x.2.2≠.ref N)) (H' N=some (.lst ((cy S (W.take i)).map V.int))) ((∀j x,j<i->W[j]?=some x->((bv m' x.1).length:Int)<=x.2)) (Pf λv2 v4 v5=>σ=[some (.ref t),some (.ref wl),v2,some (.ref N),v4,v5])) ⟨ow,tk,m,.of s3,an.same s3,⟨hS,hR⟩,dt,g_ _,g_ _,di,bt,λj x hj=>absurd hj (Q0 _),_,_,_,rfl⟩ (λi σ H' _ h=>by obtain⟨_,_,_,o,_⟩:=h;exact aW.of (o _ _ r ap.1 ap.2)) ?_ ?_
   ·rintro i v σ H4 hv⟨g,I,m',o4,as,⟨a2,bi⟩,a7,dv,dK,a8,u,ac,v2,v4,v5,rfl⟩;have hi:i<ts.length:=(d_.mp hv).1;obtain⟨x,X,b,kv,rfl,hb,hk⟩:=hW.get i v hv;have dT:=c2 x (il X);obtain⟨eG,ej⟩:=as.ins;have dV:mU Z td H H4:=(mU.of M).trans o4;have aa:=gN (W.take i) hO;have bl:=c8 X;have k:=a2.1 x.1;have d1:(bv m' x.1).length<=n:=by rw[k];exact y7 (aa.nd x.1) λp hp=>⟨(aa.in_ x.1 p hp).1,(aa.in_ x.1 p hp).2.1⟩
    have eH:=tm (W.take i) hO;have eo:n*(W.take i).length<=1000*5:=Nat.mul_le_mul hn (by rw[m3];lia);refine⟨b,U rfl ⟨GX dV hT.own hT.tak hb,rfl,_,U rfl (au ⟨_,U rfl (au ⟨rfl,?_⟩)⟩)⟩⟩;refine U rfl ⟨.inl ⟨rfl,_,aW.of u⟩,pq ej rfl rfl (U rfl (U rfl ⟨t,Z,td,n,g,I,m',x.1,kv,x.2,rfl,as,eh dV hT.own hT.tak hk,dT,by lia,λp hp=>?_,by rw[k];exact aa.nd x.1,λl f H5 o5 eN d2 bz B J=>?_⟩))⟩
    ·rw[k]at hp;obtain⟨p0,p1,p2⟩:=aa.in_ x.1 p (Rc hp);rw[a2.2 p p0 p1];exact p2
    ·have bJ:=o5 _ _ u a5 a6;have G:∀y∈f,y.2.2≠.ref N:=λy hy z=>by
      rcases B y hy with⟨y',ci,e⟩|⟨l',e,ba⟩
      ·exact a8 y' ci (e.trans z)
      ·rw[e]at z;cases z;rw[u]at ba;cases ba
     have d3:(uc g ((bv m' x.1).drop x.2.toNat).reverse).length<=g.length:=HM _ _;have cC:fb H2 tk f:=a7.trans B (fresh H4 o4 (by rw[as.own];simp) (by rw[as.tak];simp));have R:=a2.give x.1 kv x.2.toNat;rw[k]at d2 J d3;refine⟨N,l,_,U rfl ⟨rfl,bJ,d2,by rw[c_,c_,Qt,C1,k4];rw[k]at d1;lia,?_⟩⟩;refine⟨_,f,_,λc o e h1 h2=>?_,J.list bJ G,by rw[bl,qg];exact⟨R,bi.give x.1 x.2.toNat⟩,cC,by lia,by lia,G,?_,λj y hj hy=>?_,_,_,_,rfl⟩
     ·rw[ao (λz=>by rw[z,al]at e;cases e)];exact o5 _ _ (o4 c o e h1 h2) h1 h2
     ·rw[bl,qm,j1];exact ae
     ·rw[i8]
      split
      ·rename_i e;rcases Qv j i with bb|bb
       ·have h1:=ac j y bb hy;rw[e,k]at h1;rw[m3];lia
       ·have:j=i:=by lia
        subst this;rw[X]at hy;cases hy;rw[m3];lia
      ·rename_i e;rcases Qv j i with bb|bb
       ·exact ac j y bb hy
       ·have:j=i:=by lia
        subst this;rw[X]at hy;cases hy;exact absurd rfl e
   ·rintro σ H4⟨g,I,m',o4,as,⟨a2,bi⟩,a7,dv,dK,a8,u,ac,v2,v4,v5,rfl⟩;rw[mo (by lia)]at a2 bi u;have aa:=gN W hO;refine U rfl ⟨wl,rfl,⟨_,aW.of (o4 _ _ r ap.1 ap.2)⟩,?_⟩;refine k8 (xs:=ts) (λi σ H'=>Pf λL f m5=>OY (mU Z td H2 H') (eC P w K a.bP H' t Z td n L f m5) ((jS n (bX n (bx S W) (W.take i)) L m5/\wC (c5 K H) n (bX n (bx S W) (W.take i)) L)) (fb H2 tk f) ((∀x∈f,x.2.2≠.ref N)) (H' N=some (.lst ((cy S W).map V.int))) (f.length<=I.length+i) (L.length<=g.length+1000*i) ((∀j x,i<=j->W[j]?=some x->((bv m5 x.1).length:Int)<=x.2)) (IZ λv4 v5=>σ=[some (.ref t),some (.ref wl),v2,some (.ref N),v4,v5])) ⟨g,I,m',o4,as,⟨a2,bi⟩,a7,a8,u,g_ _,g_ _,λj x _ X=>ac j x (by rw[htl];exact(d_.mp X).1) X,_,_,rfl⟩ (λi σ H' _ h=>by obtain⟨_,_,_,o,_⟩:=h;exact aW.of (o _ _ r ap.1 ap.2)) ?_ ?_
    ·rintro i v σ H5 hv⟨L,f,m5,o5,J,⟨R,bp⟩,B,G,ad,bz,d4,b8,v4,v5,rfl⟩;have hi:i<ts.length:=(d_.mp hv).1;obtain⟨x,X,b,kv,rfl,hb,hk⟩:=hW.get i v hv;have dT:=c2 x (il X);obtain⟨eQ,ek⟩:=J.ins;have d5:mU Z td H H5:=(mU.of M).trans o5;have c0:=lz (W.take i) aa;have bl:=c8 X;have k:=R.1 x.1;have d1:(bv m5 x.1).length<=n:=by rw[k];exact y7 (c0.nd x.1) λp hp=>⟨(c0.in_ x.1 p hp).1,(c0.in_ x.1 p hp).2.1⟩
     have c1:=b8 i x (g_ _) X;refine⟨b,U rfl ⟨GX d5 hT.own hT.tak hb,rfl,_,U rfl (au ⟨_,U rfl (au ⟨rfl,?_⟩)⟩)⟩⟩;refine pq ek rfl rfl (U rfl (U rfl ⟨t,Z,td,n,L,f,m5,x.1,kv,x.2,rfl,J,eh d5 hT.own hT.tak hk,hn,c1,by lia,by lia,by lia,λea H6 o6 ep b9 eb=>?_⟩));have el:(x.2-((bv m5 x.1).length:Int)).toNat=x.2.toNat-(((bX n (bx S W) (W.take i)).pl x.1).length):=by rw[<-k];lia
     rw[el,R.free,k]at eb;have d3:=ye kv ((iE n (bX n (bx S W) (W.take i)).oc).take (x.2.toNat-(((bX n (bx S W) (W.take i)).pl x.1).length))) L;have eq:((iE n (bX n (bx S W) (W.take i)).oc).take (x.2.toNat-(((bX n (bx S W) (W.take i)).pl x.1).length))).length<=1000:=by have:=MR n (bX n (bx S W) (W.take i)).oc;rw[m3];omega
     have en:=R.took x.1 kv x.2.toNat;have ec:∀y∈ea,y.2.2≠.ref N:=λy hy z=>by
      rcases b9 y hy with⟨y',ci,e⟩|⟨l',e,ba⟩
      ·exact G y' ci (e.trans z)
      ·rw[e]at z;cases z;rw[ad]at ba;cases ba
     refine⟨_,ea,_,o5.trans o6,eb,by rw[bl,yJ];exact⟨en,bp.took x.1 hk x.2.toNat⟩,B.trans b9 (fresh H5 o5 (by rw[J.own];simp) (by rw[J.tak];simp)),ec,o6 _ _ ad a5 a6,by lia,by lia,λj y hj hy=>?_,_,_,rfl⟩;rw[i8,j2 (λz=>?_)]
     ·exact b8 j y (by exact sm hj) hy
     ·have e1:(W.map (·.1))[j]?=some x.1:=by rw[ir,hy,<-z];rfl
      have e2:(W.map (·.1))[i]?=some x.1:=by rw[ir,X];rfl
      have:=(F_ (d_.mp e1).1 ed).mp (e1.trans e2.symm);lia
    ·rintro σ H5⟨L,f,m5,o5,J,⟨R,bp⟩,B,G,ad,bz,d4,_,v4,v5,rfl⟩;rw[mo (by lia)]at R bp;exact U rfl (q N L f m5 H5 ((mU.of M).trans o5) J R bp c4 ad (fb.trans (fb.refl H tk) B λl hl=>M.free hl) G (by lia) (by lia))
end
abbrev gd(ns:RX)(k:Nat):Int:=ns.getD k 0
def BW(b gs:RX):Nat->Nat|0=>0|n+1=>if gd b (n+1)*(gd gs (BW b gs n)+1)>gd b (BW b gs n)*(gd gs (n+1)+1)then n+1 else BW b gs n
theorem zK(b gs:RX):∀n,BW b gs n<=n
 |0=>g_ _|n+1=>by
  have:=zK b gs n;unfold BW
  split<;>lia
def deal(b:RX):Nat->List Int|0=>List.replicate b.length 0|n+1=>(deal b n).set (BW b (deal b n) (b.length-1)) (gd (deal b n) (BW b (deal b n) (b.length-1))+1)
theorem k9(b:RX):∀n,(deal b n).length=b.length|0=>by simp[deal]|n+1=>by rw[deal,th,k9 b n]
def HR(ns:RX)(i j:Nat)(v:Int)(h:i<ns.length):gd (ns.set i v) j=if i=j then v else gd ns j:=by
 unfold gd;rw[oD,oD,QC]
 by_cases e:i=j
 ·rw[ku e,ku e];simp[h]
 ·rw[j2 e,j2 e]
theorem uq(b:RX):∀n k,0<=gd (deal b n) k/\gd (deal b n) k<=n
 |0,k=>by
  have e:gd (deal b 0) k=0:=by
   unfold gd deal;rw[oD,List.getElem?_replicate]
   split<;>rfl
  rw[e];exact⟨Qa _,by lia⟩|n+1,k=>by
  have c:=uq b n
  by_cases h0:b.length=0
  ·have:(deal b (n+1)).length=0:=by rw[k9,h0]
   have e:=QP.mp this;rw[e];exact⟨Qa _,by show(0:Int)<=_;exact rk _⟩
  ·have d:=zK b (deal b n) (b.length-1);rw[deal,HR _ _ _ _ (by rw[k9];lia)]
   split
   ·have:=c (BW b (deal b n) (b.length-1));lia
   ·have:=c k;lia
inductive LV(K:RM)(vs:List V)(H:Hp)(Q:VK)(_E:XK):Prop|mk(wt gl:Addr)(ws gs:RX)(_:vs=[.ref wt,.ref gl])(_:aU K H wt (ws.map V.int))(_:aW K H gl (gs.map V.int))(_:gs.length=ws.length)(_:0<ws.length)(_:ws.length<=4)(_:(∀k,0<=gd gs k/\gd gs k<=2000))(_:Q (.int (BW ws gs (ws.length-1):Nat)) H)
inductive JE(K:RM)(vs:List V)(H:Hp)(Q:VK)(_E:XK):Prop|mk(n:Nat)(wt:Addr)(ws:RX)(_:vs=[.int n,.ref wt])(_:n<=2000)(_:aU K H wt (ws.map V.int))(_:0<ws.length)(_:ws.length<=4)(_:∀t H',aq H H'->H' t=some (.tup ((deal ws n).map V.int))->Q (.ref t) H')
section
def AN(T:Txt K mg a):aS P w K mg base dw 1 a.kU.x a.kU.d ["weights","given"] (LV K):=by
 refine T.kU.ok jX λl A outer s H t Q E u h=>?_
 ·obtain⟨m,gl,b,gs,rfl,c,g,j,y,l4,k,q⟩:=h;refine⟨_,(ah (bq 2 jX.nd af) (ah (eI pa rfl (xR rfl T.dS (O af (O (ax (aH K rfl) (by rfl) T.bD L2.aJ (O (Y 0) ag)) ag))) (tS 3 jX.nd) (ai (aK (aD sN (av gJ (cN K (Y 0) (Y 3)) (av bG (gz K (Y 1) (Y 2)) af)) (av gJ (cN K (Y 0) (Y 2)) (av bG (gz K (Y 1) (Y 3)) af)) (aG _)) (ai (bq 2 jX.nd (Y 3))) aB))) (ai (az (Y 2))))),?_⟩
  refine U rfl ⟨_,b.length,rfl,.inr ⟨_,c,by simp⟩,_,U rfl ⟨⟨by decide,by decide,by exact rk _,by lia⟩,?_⟩⟩;refine gO (lo:=1) (n:=((b.length:Int)-1).toNat) (λi f H'=>H=H'/\∃v,f=[some (.ref m),some (.ref gl),some (.int (BW b gs i:Nat)),v]) ⟨rfl,_,rfl⟩ ?_ ?_
  ·rintro i f _ hi⟨rfl,v,rfl⟩;have hd:=zK b gs i;have o:0<=gs.getD (BW b gs i) 0/\gs.getD (BW b gs i) 0<=2000:=k (BW b gs i);have p:0<=gs.getD (i+1) 0/\gs.getD (i+1) 0<=2000:=k (i+1);have r:((1:Int)+(i:Int))=((i+1:Nat):Int):=by lia
   refine U rfl (U rfl (rX c (nI (by lia) (by omega)) (U rfl (U rfl (rX g (nI (by lia) (by omega)) (r2 (r2 ?_)))))));refine⟨.inr ⟨?_,?_⟩,?_⟩
   ·simp only[qx];lia
   ·simp only[qx];lia
   refine U rfl (U rfl (rX c (nI (by lia) (by omega)) (U rfl (U rfl (rX g (nI (by lia) (by omega)) (r2 (r2 ?_)))))));rw[r];refine⟨.inr ⟨?_,?_⟩,?_⟩
   ·simp only[qx];lia
   ·simp only[qx];lia
   refine r2 (U rfl ?_);simp only[qx];refine nL (λh=>?_) (λh=>?_)
   ·refine U rfl ⟨rfl,some (.int ((i+1:Nat):Int)),?_⟩;rw[BW,ku h];rfl
   ·refine⟨rfl,some (.int ((i+1:Nat):Int)),?_⟩;rw[BW,j2 h];rfl
  ·rintro f _⟨rfl,v,rfl⟩;have e:((b.length:Int)-1).toNat=b.length-1:=by lia
   rw[e];exact U rfl q
def GU(T:Txt K mg a):aS P w K mg base dw 2 a.sZ.x a.sZ.d ["total","weights"] (JE K):=by
 refine T.sZ.ok pD λC A outer s H N Q E D h=>?_
 ·obtain⟨n,f,b,rfl,hn,y,F,l4,q⟩:=h;refine⟨_,(ah (bq 2 pD.nd (av GR (bA (O af ag)) (ax (aH K rfl) (by rfl) T.bD L2.aJ (O (Y 1) ag)))) (ah (eI pa rfl (cP rfl T.dS (O (Y 0) ag)) (tS 3 pD.nd) (ah (bq 4 pD.nd (pc T.kU (AN T) D (O (Y 1) (O (Y 2) ag)))) (ai (jt (av bG (gz K (Y 2) (Y 4)) af) (kx (Y 2) (Y 4) Gz))))) (ai (az (c6 (dJ K rfl) (by rfl) T.dz L2.bM (O (Y 2) ag)))))),?_⟩
  refine⟨ls rfl,λl z=>?_⟩;have j:aU K (aA H l (.lst [.int 0])) f (b.map V.int):=aq.tseq (aj (aq.refl H) z) y;refine U rfl ⟨_,b.length,rfl,.inr ⟨_,j,by simp⟩,l,_,U rfl ⟨rfl,ae,by exact rk _,by lia,de (by simp;lia),λg hg=>?_⟩⟩;have G:aq H (aA (aA H l (.lst [.int 0])) g (.lst (List.replicate (b.length:Int).toNat [V.int 0]).flatten)):=aj (aj (aq.refl H) z) hg;have I:(List.replicate (b.length:Int).toNat [V.int 0]).flatten=(deal b 0).map V.int:=by
   rw[qx,deal,List.map_replicate];generalize b.length=m
   induction m with|zero=>rfl|succ m J=>rw[sf,H_,J,sf];rfl
  have o:H g=none:=(MA hg).2;refine U rfl ⟨(n:Int),rfl,by lia,by lia,?_⟩;refine gO (lo:=0) (n:=(n:Int).toNat) (λi p H'=>aq H H'/\H' g=some (.lst ((deal b i).map V.int))/\(IZ λr u=>p=[some (.int n),some (.ref f),some (.ref g),r,u])) ⟨G,by rw[ae,I],_,_,rfl⟩ ?_ ?_
  ·rintro i p L hi⟨e,c,r,u,rfl⟩;have B:=uq b i;have hd:=zK b (deal b i) (b.length-1);have v:=k9 b i;refine U rfl (U rfl ⟨f,g,b,deal b i,rfl,aq.tseq e y,aW.of c,v,F,l4,λk=>⟨(B k).1,by have:=(B k).2;lia⟩,?_⟩);refine U rfl (U rfl (rX (aW.of c) (nI (by lia) (by lia)) (r2 ?_)));refine U rfl (U rfl ⟨g,_,_,U rfl ⟨rfl,c,Kx (by lia) (by simp;lia),?_⟩⟩);refine⟨bu e o,?_,_,_,rfl⟩;rw[ae];simp only[qx];rw[Bg];rfl
  ·rintro p L⟨e,c,r,u,rfl⟩;refine U rfl ⟨g,U rfl (.inl ⟨aW.of c,λt M=>?_⟩)⟩;exact q t _ (aj e M) ae
end
inductive Ak(C:Addr)(vs:List V)(H:Hp)(Q:VK)(_E:XK):Prop|mk(t dx ar ru sh:Addr)(hm:Str)(_:vs=[.ref t,.str hm,.ref ar,.ref ru,.ref sh])(_:H t=some (.ins C dx []))(_:∀(ba:Addr)H',H ba=none->(∀b o,H b=some o->b≠t->H' b=some o)->H' t=some (.ins C dx [("home",.str hm),("arms",.ref ar),("rule",.ref ru),("shuts",.ref sh),("paused",.bl false),("closed",.bl false),("barred",.ref ba)])->H' ba=some (.dK [])->Q .non H')
section
def tU(T:Txt K mg a):aS P w K mg base dw 1 a.dW.x a.dW.d ["self","home","arms","rule","shuts"] (Ak a.fw):=by
 refine T.dW.ok tN λk A outer s H m Q E n h=>?_
 ·obtain⟨t,dx,ar,ru,sh,hm,rfl,l,q⟩:=h;refine⟨_,(ah (cx K rfl (Y 0) (Y 1)) (ah (cx K rfl (Y 0) (Y 2)) (ah (cx K rfl (Y 0) (Y 3)) (ah (cx K rfl (Y 0) (Y 4)) (ah (cx K rfl (Y 0) iG) (ah (cx K rfl (Y 0) iG) (ai (cx K rfl (Y 0) jv)))))))),?_⟩
  refine U rfl (U rfl ⟨t,_,dx,U rfl ⟨l,T.be,T.iC,by simp,?_⟩⟩);rw[show eF "home" (V.str hm) []=([("home",V.str hm)]:List (Str×V))from rfl];refine U rfl (U rfl ⟨t,_,dx,U rfl ⟨ae,T.be,T.fq,by simp,?_⟩⟩);rw[fW,show eF "arms" (V.ref ar) [("home",V.str hm)]=([("home",V.str hm),("arms",V.ref ar)]:List (Str×V))from rfl];refine U rfl (U rfl ⟨t,_,dx,U rfl ⟨ae,T.be,T.n6,by simp,?_⟩⟩);rw[fW,show eF "rule" (V.ref ru) [("home",V.str hm),("arms",V.ref ar)]=([("home",V.str hm),("arms",V.ref ar),("rule",V.ref ru)]:List (Str×V))from rfl];refine U rfl (U rfl ⟨t,_,dx,U rfl ⟨ae,T.be,T.mL,by simp,?_⟩⟩);rw[fW,show eF "shuts" (V.ref sh) [("home",V.str hm),("arms",V.ref ar),("rule",V.ref ru)]=([("home",V.str hm),("arms",V.ref ar),("rule",V.ref ru),("shuts",V.ref sh)]:List (Str×V))from rfl];refine U rfl ⟨t,_,dx,U rfl ⟨ae,T.be,T.iQ,by simp,?_⟩⟩;rw[fW,show eF "paused" (V.bl false) [("home",V.str hm),("arms",V.ref ar),("rule",V.ref ru),("shuts",V.ref sh)]=([("home",V.str hm),("arms",V.ref ar),("rule",V.ref ru),("shuts",V.ref sh),("paused",V.bl false)]:List (Str×V))from rfl];refine U rfl ⟨t,_,dx,U rfl ⟨ae,T.be,T.ee,by simp,?_⟩⟩;rw[fW,show eF "closed" (V.bl false) [("home",V.str hm),("arms",V.ref ar),("rule",V.ref ru),("shuts",V.ref sh),("paused",V.bl false)]=([("home",V.str hm),("arms",V.ref ar),("rule",V.ref ru),("shuts",V.ref sh),("paused",V.bl false),("closed",V.bl false)]:List (Str×V))from rfl];refineλf c=>?_;have i:t≠f:=λz=>by rw[<-z,ae]at c;cases c
  refine U rfl ⟨t,_,dx,U rfl ⟨by rw[ao i];exact ae,T.be,T.iR,by simp,?_⟩⟩;rw[show eF "barred" (V.ref f) [("home",V.str hm),("arms",V.ref ar),("rule",V.ref ru),("shuts",V.ref sh),("paused",V.bl false),("closed",V.bl false)]=([("home",V.str hm),("arms",V.ref ar),("rule",V.ref ru),("shuts",V.ref sh),("paused",V.bl false),("closed",V.bl false),("barred",V.ref f)]:List (Str×V))from rfl];have g:H f=none:=by rw[ao (ol i)]at c;exact c
  refine q f _ g (λb o e j=>?_) ae (by rw[ao (ol i)];exact ae);rw[ao j,ao (aF e g),ao j];exact e
end
inductive Al(P:RR)(w:World)(K:RM)(C D:Addr)(vs:List V)(H:Hp)(Q:VK)(_E:XK):Prop|mk(t dx:Addr)(z:Int)(n:Nat)(_:vs=[.ref t,.int z,.int n])(_:H t=some (.ins C dx []))(_:∀(tb od td iu:Addr)H',H tb=none->H od=none->H td=none->H iu=none->od≠iu->(∀b o,H b=some o->b≠t->H' b=some o)->H' t=some (.ins C dx [("slope",.int z),("table",.ref tb),("inside",.ref iu)])->eC P w K D H' tb od td n [] [] []->H' iu=some (.dK [])->Q .non H')
section
def tW(T:Txt K mg a):aS P w K mg base dw 3 a.d0.x a.d0.d ["self","slope","many"] (Al P w K a.eQ a.bP):=by
 refine T.d0.ok tP λZ A outer s H vs Q E hr h=>?_
 ·obtain⟨t,dx,z,n,rfl,hT,q⟩:=h;refine⟨_,(ah (cx K rfl (Y 0) (Y 1)) (ah (cx K rfl (Y 0) (uj T.G8 ((tV (P:=P) (w:=w) T).mono (by decide)) hr rfl T.Kh T.dZ.b .nil bo (O (Y 2) ag))) (ai (cx K rfl (Y 0) jv)))),?_⟩
  refine U rfl (U rfl ⟨t,_,dx,U rfl ⟨hT,T.bW,T.jA,by simp,?_⟩⟩);rw[show eF "slope" (V.int z) []=([("slope",V.int z)]:List (Str×V))from rfl];have f1:∀b o,H b=some o->b≠t->aA H t (.ins a.eQ dx [("slope",V.int z)]) b=some o:=λb o e m=>by rw[ao m];exact e
  have g:aA H t (.ins a.eQ dx [("slope",V.int z)]) t=some (.ins a.eQ dx [("slope",V.int z)]):=ae;have y:∀b,aA H t (.ins a.eQ dx [("slope",V.int z)]) b=none->H b=none:=λb e=>by
   by_cases h:b=t
   ·rw[h,ae]at e;cases e
   ·rw[ao h]at e;exact e
  generalize aA H t (.ins a.eQ dx [("slope",V.int z)])=k at f1 g y⊢;refine U rfl (λc ty i G I=>?_);have f2:∀b o,k b=some o->aA (aA k ty (.own c)) c (.ins a.bP ty []) b=some o:=λb o e=>by rw[ao (aF e i),ao (aF e G)];exact e
  have B:aA (aA k ty (.own c)) c (.ins a.bP ty []) c=some (.ins a.bP ty []):=ae;have C:aA (aA k ty (.own c)) c (.ins a.bP ty []) ty=some (.own c):=by rw[ao I];exact ae
  generalize aA (aA k ty (.own c)) c (.ins a.bP ty [])=H2 at f2 B C⊢;refine⟨c,ty,n,rfl,B,C,λW X D p r f3 f=>⟨rfl,?_⟩⟩;have n1:∀b,H2 b=none->k b=none:=λb e=>by cases z:k b with|none=>rfl|some o=>rw[f2 b o z]at e;cases e
  have u:∀b o,k b=some o->D b=some o:=λb o e=>f3 b o (f2 b o e) (aF e i);have J:=u _ _ g;refine U rfl ⟨t,_,dx,U rfl ⟨J,T.bW,T.eJ,by simp,?_⟩⟩;rw[show eF "table" (V.ref c) [("slope",V.int z)]=([("slope",V.int z),("table",V.ref c)]:List (Str×V))from rfl];refineλv l=>?_;have L:t≠v:=λz=>by rw[<-z,ae]at l;cases l
  have j:D v=none:=by rw[ao (ol L)]at l;exact l
  refine U rfl ⟨t,_,dx,U rfl ⟨by rw[ao L];exact ae,T.bW,T.bT,by simp,?_⟩⟩;rw[show eF "inside" (V.ref v) [("slope",V.int z),("table",V.ref c)]=([("slope",V.int z),("table",V.ref c),("inside",V.ref v)]:List (Str×V))from rfl];have n3:∀b,D b=none->k b=none:=λb e=>by cases z:k b with|none=>rfl|some o=>rw[u b o z]at e;cases e
  have F:∀b o,D b=some o->b≠t->aA (aA (aA D t (.ins a.eQ dx [("slope",V.int z),("table",V.ref c)])) v (.dK [])) t (.ins a.eQ dx [("slope",V.int z),("table",V.ref c),("inside",V.ref v)]) b=some o:=λb o e m=>by rw[ao m,ao (aF e j),ao m];exact e
  have M:c≠t:=λz=>by rw[z,g]at i;cases i
  have N:W≠t:=λz=>by rw[z,f2 _ _ g]at p;cases p
  have R:X≠t:=λz=>by rw[z,f2 _ _ g]at r;cases r
  refine q c W X v _ (y _ i) (y _ (n1 _ p)) (y _ (n1 _ r)) (y _ (n3 _ j)) (aF f.own j) (λb o e m=>F b o (u b o (f1 b o e m)) m) ae ?_ (by rw[ao (ol L)];exact ae);obtain⟨S,hI⟩:=f.ins;exact⟨⟨S,F _ _ hI M⟩,F _ _ f.own N,F _ _ f.tak R,λx hx=>(by cases hx),.nil⟩
end
def uo(d:H t=some g)(c:H x=none):(∀b o,H b=some o->b≠t->aA (aA H x o2) t o3 b=some o)/\aA (aA H x o2) t o3 t=some o3/\aA (aA H x o2) t o3 x=some o2/\x≠t:=by
 have n:x≠t:=λz=>by rw[z,d]at c;cases c
 exact⟨λb o e f=>by rw[ao f,ao (aF e c)];exact e,ae,by rw[ao n];exact ae,n⟩
inductive Am(C:Addr)(vs:List V)(H:Hp)(Q:VK)(_E:XK):Prop|mk(t dx:Addr)(z sa:Int)(_:vs=[.ref t,.int z,.int sa])(_:H t=some (.ins C dx []))(_:(2<=z/\z<=997))(_:(∀i:Nat,2+(i:Int)<z->z%(2+(i:Int))≠0))(_:(0<=sa/\sa<=c7))(_:∀(ln tn ci dl:Addr)H',H ln=none->H tn=none->H ci=none->H dl=none->ln≠tn->ln≠ci->tn≠ci->(∀b o,H b=some o->b≠t->H' b=some o)->H' t=some (.ins C dx [("own_prime",.int z),("own_salt",.int sa),("layer_named",.ref ln),("trial_named",.ref tn),("came_into",.ref ci),("deeds",.ref dl)])->H' ln=some (.dK [])->H' tn=some (.dK [])->H' ci=some (.dK [])->H' dl=some (.lst [])->Q .non H')
section
def tZ(T:Txt K mg a):aS P w K mg base dw 5 a.d8.x a.d8.d ["self","prime","salt"] (Am a.bp):=by
 refine T.d8.ok tR λa5 A outer s H vs Q E hr h=>?_
 ·obtain⟨t,dx,z,sa,rfl,an,h1,h2,h3,q⟩:=h;refine⟨_,(ah (aR (pc T.fN (vf T) hr (O (Y 1) (O (Y 2) ag)))) (ah (cx K rfl (Y 0) (Y 1)) (ah (cx K rfl (Y 0) (Y 2)) (ah (cx K rfl (Y 0) jv) (ah (cx K rfl (Y 0) jv) (ah (cx K rfl (Y 0) jv) (ai (cx K rfl (Y 0) (bA ag))))))))),?_⟩
  refine U rfl (U rfl ⟨z,sa,rfl,h1,h2,h3,λH0 s0=>?_⟩);have hT:=s0 _ _ an;refine U rfl (U rfl ⟨t,_,dx,U rfl ⟨hT,T.aE,T.cR,by simp,?_⟩⟩);rw[show eF "own_prime" (V.int z) []=([("own_prime",V.int z)]:List (Str×V))from rfl];refine U rfl (U rfl ⟨t,_,dx,U rfl ⟨ae,T.aE,T.j8,by simp,?_⟩⟩);rw[fW,show eF "own_salt" (V.int sa) [("own_prime",V.int z)]=([("own_prime",V.int z),("own_salt",V.int sa)]:List (Str×V))from rfl];have f1:∀b o,H b=some o->b≠t->aA H0 t (.ins a.bp dx [("own_prime",V.int z),("own_salt",V.int sa)]) b=some o:=λb o e i=>by rw[ao i];exact s0 _ _ e
  have M:aA H0 t (.ins a.bp dx [("own_prime",V.int z),("own_salt",V.int sa)]) t=some (.ins a.bp dx [("own_prime",V.int z),("own_salt",V.int sa)]):=ae;generalize aA H0 t (.ins a.bp dx [("own_prime",V.int z),("own_salt",V.int sa)])=H1 at f1 M⊢;refineλln N=>?_;obtain⟨g2,R,k,f⟩:=uo (o2:=.dK []) (o3:=.ins a.bp dx [("own_prime",V.int z),("own_salt",V.int sa),("layer_named",V.ref ln)]) M N;refine U rfl ⟨t,_,dx,U rfl ⟨by rw[ao (ol f)];exact M,T.aE,T.aY,by simp,?_⟩⟩;rw[show eF "layer_named" (V.ref ln) [("own_prime",V.int z),("own_salt",V.int sa)]=([("own_prime",V.int z),("own_salt",V.int sa),("layer_named",V.ref ln)]:List (Str×V))from rfl];have f2:∀b o,H b=some o->b≠t->aA (aA H1 ln (.dK [])) t (.ins a.bp dx [("own_prime",V.int z),("own_salt",V.int sa),("layer_named",V.ref ln)]) b=some o:=λb o e i=>g2 b o (f1 b o e i) i;have ap:H ln=none:=by cases S:H ln with|none=>rfl|some o=>rw[f1 ln o S f]at N;cases N
  generalize aA (aA H1 ln (.dK [])) t (.ins a.bp dx [("own_prime",V.int z),("own_salt",V.int sa),("layer_named",V.ref ln)])=H2 at f2 g2 R k⊢;refineλtn y=>?_;obtain⟨g3,W,l,g⟩:=uo (o2:=.dK []) (o3:=.ins a.bp dx [("own_prime",V.int z),("own_salt",V.int sa),("layer_named",V.ref ln),("trial_named",V.ref tn)]) R y;refine U rfl ⟨t,_,dx,U rfl ⟨by rw[ao (ol g)];exact R,T.aE,T.aQ,by simp,?_⟩⟩;rw[show eF "trial_named" (V.ref tn) [("own_prime",V.int z),("own_salt",V.int sa),("layer_named",V.ref ln)]=([("own_prime",V.int z),("own_salt",V.int sa),("layer_named",V.ref ln),("trial_named",V.ref tn)]:List (Str×V))from rfl];have f3:∀b o,H b=some o->b≠t->aA (aA H2 tn (.dK [])) t (.ins a.bp dx [("own_prime",V.int z),("own_salt",V.int sa),("layer_named",V.ref ln),("trial_named",V.ref tn)]) b=some o:=λb o e i=>g3 b o (f2 b o e i) i;have m:=g3 _ _ k f;have B:ln≠tn:=aF k y;have as:H tn=none:=by cases S:H tn with|none=>rfl|some o=>rw[f2 tn o S g]at y;cases y
  generalize aA (aA H2 tn (.dK [])) t (.ins a.bp dx [("own_prime",V.int z),("own_salt",V.int sa),("layer_named",V.ref ln),("trial_named",V.ref tn)])=H3 at f3 g3 W l m⊢;refineλc n=>?_;obtain⟨g4,X,p,r⟩:=uo (o2:=.dK []) (o3:=.ins a.bp dx [("own_prime",V.int z),("own_salt",V.int sa),("layer_named",V.ref ln),("trial_named",V.ref tn),("came_into",V.ref c)]) W n;refine U rfl ⟨t,_,dx,U rfl ⟨by rw[ao (ol r)];exact W,T.aE,T.dR,by simp,?_⟩⟩;rw[show eF "came_into" (V.ref c) [("own_prime",V.int z),("own_salt",V.int sa),("layer_named",V.ref ln),("trial_named",V.ref tn)]=([("own_prime",V.int z),("own_salt",V.int sa),("layer_named",V.ref ln),("trial_named",V.ref tn),("came_into",V.ref c)]:List (Str×V))from rfl];have f4:∀b o,H b=some o->b≠t->aA (aA H3 c (.dK [])) t (.ins a.bp dx [("own_prime",V.int z),("own_salt",V.int sa),("layer_named",V.ref ln),("trial_named",V.ref tn),("came_into",V.ref c)]) b=some o:=λb o e i=>g4 b o (f3 b o e i) i;have u:=g4 _ _ m f;have C:ln≠c:=aF m n;have v:=g4 _ _ l g;have D:tn≠c:=aF l n;have a2:H c=none:=by cases S:H c with|none=>rfl|some o=>rw[f3 c o S r]at n;cases n
  generalize aA (aA H3 c (.dK [])) t (.ins a.bp dx [("own_prime",V.int z),("own_salt",V.int sa),("layer_named",V.ref ln),("trial_named",V.ref tn),("came_into",V.ref c)])=H4 at f4 g4 X p u v⊢;refine⟨ls rfl,λdl j=>?_⟩;obtain⟨Z,aa,F,G⟩:=uo (o2:=.lst []) (o3:=.ins a.bp dx [("own_prime",V.int z),("own_salt",V.int sa),("layer_named",V.ref ln),("trial_named",V.ref tn),("came_into",V.ref c),("deeds",V.ref dl)]) X j;refine U rfl ⟨t,_,dx,U rfl ⟨by rw[ao (ol G)];exact X,T.aE,T.mM,by simp,?_⟩⟩;rw[show eF "deeds" (V.ref dl) [("own_prime",V.int z),("own_salt",V.int sa),("layer_named",V.ref ln),("trial_named",V.ref tn),("came_into",V.ref c)]=([("own_prime",V.int z),("own_salt",V.int sa),("layer_named",V.ref ln),("trial_named",V.ref tn),("came_into",V.ref c),("deeds",V.ref dl)]:List (Str×V))from rfl];have f5:∀b o,H b=some o->b≠t->aA (aA H4 dl (.lst [])) t (.ins a.bp dx [("own_prime",V.int z),("own_salt",V.int sa),("layer_named",V.ref ln),("trial_named",V.ref tn),("came_into",V.ref c),("deeds",V.ref dl)]) b=some o:=λb o e i=>Z b o (f4 b o e i) i;have I:=Z _ _ u f;have ac:ln≠dl:=aF u j;have J:=Z _ _ v g;have ad:tn≠dl:=aF v j;have L:=Z _ _ p r;have al:c≠dl:=aF p j;have a3:H dl=none:=by cases S:H dl with|none=>rfl|some o=>rw[f4 dl o S G]at j;cases j
  generalize aA (aA H4 dl (.lst [])) t (.ins a.bp dx [("own_prime",V.int z),("own_salt",V.int sa),("layer_named",V.ref ln),("trial_named",V.ref tn),("came_into",V.ref c),("deeds",V.ref dl)])=H5 at f5 Z aa F I J L⊢;exact q ln tn c dl _ ap as a2 a3 B C D f5 aa I J L F
end
def DB(c:Nat):Int:=Txt.find kB ⟨#[c]⟩
def y8(m:Int)(cs:RV):Int:=cs.foldl (λm c=>1009*m+DB c+1) m
def Hb{m:Int}{cs:RV}{i c:Nat}(h:cs[i]?=some c):y8 m (cs.take (i+1))=1009*y8 m (cs.take i)+DB c+1:=by unfold y8;rw[u_,h,G_];rfl
def Mx{c:Nat}(h:c∈kB.cps.toList):∃i r,Builtin.Str.occurrences kB ⟨#[c]⟩ 0 kB.length 1=i::r/\DB c=(i:Nat):=by have e:=StrLaws.found_one kB c;rw[m_ h]at e;cases q:Builtin.Str.occurrences kB ⟨#[c]⟩ 0 kB.length 1 with|nil=>rw[q]at e;cases e|cons i r=>refine⟨i,r,rfl,?_⟩;unfold DB Txt.find;rw[q]
def u0(p m sl:Int)(x:Str):Int:=if sl=p then y8 m x.cps.toList%(p*p)%p else(y8 m x.cps.toList%(p*p)/p+sl*(y8 m x.cps.toList%(p*p)%p))%p
inductive Jt(vs:List V)(H:Hp)(Q:VK)(_E:XK):Prop|mk(p:_)(m:_)(x:_)(_:vs=[.int p,.int m,.str x])(_:BY x)(_:(2<=p/\p<=997))(_:∀t,H t=none->Q (.ref t) (aA H t (.tup [.int (y8 m x.cps.toList%(p*p)/p),.int (y8 m x.cps.toList%(p*p)%p)])))
inductive Jv(K:RM)(vs:List V)(H:Hp)(Q:VK)(_E:XK):Prop|mk(t:Addr)(p s x y:Int)(_:vs=[.int p,.int s,.ref t])(_:aU K H t [.int x,.int y])(_:0<p)(_:(0<=s/\s<=1000))(_:Q (.int (if s=p then y else(x+s*y)%p)) H)
inductive El(a:ke)(vs:List V)(H:Hp)(Q:VK)(_E:XK):Prop|mk(h lo dx dl:Addr)(fs gs:List (Str×V))(p m sl:Int)(x:Str)(_:vs=[.ref h,.ref lo,.str x])(_:H h=some (.ins a.bp dx fs))(_:fs.lookup ("own_prime":Str)=some (V.int p))(_:fs.lookup ("own_salt":Str)=some (V.int m))(_:H lo=some (.ins a.eQ dl gs))(_:gs.lookup ("slope":Str)=some (V.int sl))(_:BY x)(_:(2<=p/\p<=997))(_:(0<=sl/\sl<=1000))(_:∀H',aq H H'->Q (.int (u0 p m sl x)) H')
section
def AL(T:Txt K mg a):aS P w K mg base dw 1 a.kQ.x a.kQ.d ["p","salt","guest"] Jt:=by
 refine T.kQ.ok jW λf A outer s H k Q E l h=>?_
 ·obtain⟨p,m,x,rfl,hg,⟨p0,p1⟩,q⟩:=h;refine⟨_,(ah (bq 3 jW.nd (Y 1)) (ah (eI pa rfl (GN (Y 2)) (tS 4 jW.nd) (ai (bq 3 jW.nd (av bG (av bG (av gJ (cA T.KO rfl) (Y 3)) (jw K rfl PySem.F.plainAttrs_str PySem.F.slot_str_index PySem.F.type_str_index G6 (cA T.oh rfl) (O (Y 4) ag))) af)))) (ai (az (ax BG (by rfl) T.G4 L2.BI (O (av aO (Y 3) (av gJ (Y 0) (Y 0))) (O (Y 0) ag))))))),?_⟩
  refine U rfl (U rfl ⟨x,rfl,?_⟩);refine KG (λi b H'=>H=H'/\∃v,b=[some (.int p),some (.int m),some (.str x),some (.int (y8 m (x.cps.toList.take i))),v]) ⟨rfl,_,rfl⟩ ?_ ?_
  ·rintro i c b _ hc⟨rfl,v,rfl⟩;obtain⟨j,r,g,hn⟩:=Mx (hg.cs c (il hc));refine U rfl (r2 ⟨.inl ⟨by decide,by decide⟩,rfl,U rfl ⟨kB,_,j,r,rfl,rfl,g,_,U rfl ⟨rfl,r2 ⟨rfl,some (.str ⟨#[c]⟩),?_⟩⟩⟩⟩);rw[Hb hc,hn];rfl
  ·rintro b _⟨rfl,v,rfl⟩;rw[mo (g_ _)];have e:(0:Int)<p*p:=Int.mul_pos (by exact Int.le_of_lt p0) (by exact Int.le_of_lt p0);exact U rfl (U rfl (U rfl (r2 ⟨.inl ⟨by lia,by lia⟩,_,U rfl ⟨rfl,e,U rfl ⟨_,U rfl ⟨⟨by exact Int.le_of_lt p0,by lia⟩,q⟩⟩⟩⟩)))
def AM(T:Txt K mg a):aS P w K mg base dw 1 a.kR.x a.kR.d ["p","slope","point"] (Jv K):=by
 refine T.kR.ok ml λc A outer s H e Q E f h=>?_
 ·obtain⟨t,p,s,x,y,rfl,b,p0,⟨g,i⟩,q⟩:=h;refine⟨_,(ah (bq 3 ml.nd (cN K (Y 2) af)) (ah (bq 4 ml.nd (cN K (Y 2) af)) (ah (aK (aD aT (Y 1) (Y 0) (aG _)) (ai (az (Y 4))) aB) (ai (az (av aO (av bG (Y 3) (av gJ (Y 1) (Y 4))) (Y 0))))))),?_⟩
  (iterate 2 refine U rfl (rX b rfl ?_));refine U rfl (U rfl ⟨rfl,U rfl (kA (λh=>?_) (λh=>?_))⟩)
  ·rw[ku h]at q;exact U rfl q
  ·rw[j2 h]at q;exact U rfl (U rfl (U rfl (r2 ⟨.inl ⟨by lia,by lia⟩,_,U rfl ⟨rfl,U rfl (r2 ⟨p0,q⟩)⟩⟩)))
def j5(T:Txt K mg a):aS P w K mg base dw 2 a.cb.x a.cb.d ["self","layer","guest"] (El a):=by
 refine T.cb.ok pH λf A outer s H r Q E c h=>?_
 ·obtain⟨h,lo,dx,dl,fs,gs,p,m,sl,x,rfl,b,e,g,i,j,k,l,n,q⟩:=h;refine⟨_,(ai (az (pc T.kR (AM T) c (O (aI K rfl (Y 0)) (O (aI K rfl (Y 1)) (O (pc T.kQ (AL T) c (O (aI K rfl (Y 0)) (O (aI K rfl (Y 0)) (O (Y 2) ag)))) ag)))))),?_⟩;refine U rfl ⟨h,_,dx,_,U rfl ⟨b,T.aE,T.cR,e,U rfl ⟨lo,_,dl,_,U rfl ⟨i,T.bW,T.jA,j,U rfl ⟨h,_,dx,_,U rfl ⟨b,T.aE,T.cR,e,U rfl ⟨h,_,dx,_,U rfl ⟨b,T.aE,T.j8,g,U rfl ⟨p,m,x,rfl,k,l,λt o=>?_⟩⟩⟩⟩⟩⟩⟩⟩⟩;exact⟨t,p,sl,_,_,rfl,aU.of ae,by lia,n,q _ (aj (aq.refl H) o)⟩
end
abbrev cu(x y:Str):bN:=.inr [.inr x,.inr y]
structure cG where
 nm:Str
 sl:Int
 S:AS
 ins:List (Str×Str×Str)
structure dh where
 nm:Str
 home:Str
 arms:List Str
 rule:Ru
 shuts:List Str
 pau:Bool
 clo:Bool
 bar:List Str
structure cg where
 p:Nat
 salt:Int
 las:List cG
 trs:List dh
 came:List (Str×List (Str×Str))
inductive Ro|hh|ln|tn|ci|dl|lo(i:Nat)|iu(i:Nat)|tb(i:Nat)|od(i:Nat)|td(i:Nat)|tr(i:Nat)|ba(i:Nat)deriving DecidableEq
structure ZS where
 G:Ro->Addr
 dx:Ro->Addr
 cv:List (b0×V)ds:List V
 iv:Nat->List (b0×V)ow:Nat->List (b0×V)tk:Nat->List iU
 ar:Nat->Addr
 ru:Nat->V
 sh:Nat->Addr
def jR:List Str->(Nat->V)->List (b0×V)|[],_=>[]|n::r,f=>(.inr n,f 0)::jR r λi=>f (i+1)
def cont(P:RR)(w:World)(a:ke)(M:cg)(Z:ZS):Ro->Option HO|.hh=>some (.ins a.bp (Z.dx .hh) [("own_prime",.int M.p),("own_salt",.int M.salt),("layer_named",.ref (Z.G .ln)),("trial_named",.ref (Z.G .tn)),("came_into",.ref (Z.G .ci)),("deeds",.ref (Z.G .dl))])|.ln=>some (.dK (jR (M.las.map cG.nm) λi=>.ref (Z.G (.lo i))))|.tn=>some (.dK (jR (M.trs.map dh.nm) λi=>.ref (Z.G (.tr i))))|.ci=>some (.dK Z.cv)|.dl=>some (.lst Z.ds)|.lo i=>M.las[i]?.map λl=>.ins a.eQ (Z.dx (.lo i)) [("slope",.int l.sl),("table",.ref (Z.G (.tb i))),("inside",.ref (Z.G (.iu i)))]|.iu i=>M.las[i]?.map λ_=>.dK (Z.iv i)|.tb i=>M.las[i]?.map λ_=>.ins a.bP (Z.dx (.tb i)) [("many",.int M.p),("owners",.ref (Z.G (.od i))),("taken",.ref (Z.G (.td i)))]|.od i=>M.las[i]?.map λ_=>.dK (Z.ow i)|.td i=>M.las[i]?.map λ_=>dM P w (Z.G (.td i)) (Z.tk i)|.tr i=>M.trs[i]?.map λt=>.ins a.fw (Z.dx (.tr i)) [("home",.str t.home),("arms",.ref (Z.ar i)),("rule",Z.ru i),("shuts",.ref (Z.sh i)),("paused",.bl t.pau),("closed",.bl t.clo),("barred",.ref (Z.G (.ba i)))]|.ba i=>M.trs[i]?.map λt=>.dK (t.bar.map λg=>(.inr g,.bl true))
def bU(K:RM)(H:Hp)(iv:List (b0×V))(ins:List (Str×Str×Str)):Prop:=Paired (λ(x:b0×V)(y:Str×Str×Str)=>x.1=.inr y.1/\∃s,x.2=.ref s/\aU K H s [.str y.2.1,.str y.2.2]) iv ins
def iS(K:RM)(H:Hp)(b:List V)(c:List (Str×Str)):Prop:=Paired (λ(u:V)(y:Str×Str)=>∃s,u=.ref s/\aU K H s [.str y.1,.str y.2]) b c
def eB(K:RM)(H:Hp)(dl:Addr)(cv:List (b0×V))(cm:List (Str×List (Str×Str))):Prop:=Paired (λ(x:b0×V)(y:Str×List (Str×Str))=>x.1=.inr y.1/\∃l b,x.2=.ref l/\l≠dl/\H l=some (.lst b)/\iS K H b y.2) cv cm
structure Im(dl:Addr)(H H':Hp):Prop where
 kp:Kp H H'
 ls:∀b xs,H b=some (.lst xs)->b≠dl->H' b=some (.lst xs)
def jB(e:Kp H H')(h:c5 K H k v):c5 K H' k v:=by cases k with|inl k=>exact h|inr c=>obtain⟨b,h1,h2⟩:=h;exact⟨b,h1,e.tq h2⟩
section
variable{K:RM}{H a:Hp}{dl:Addr}
theorem Im.of(h:aq H a):Im dl H a:=⟨.of h,λb c e _=>h b _ e⟩
def bU.kp(e:Kp H a)(h:bU K H iv ins):bU K a iv ins:=Paired.mapP h λ_ _ q=>⟨q.1,q.2.imp λ_ q=>⟨q.1,e.tq q.2⟩⟩
def iS.kp(e:Kp H a)(h:iS K H b c):iS K a b c:=Paired.mapP h λ_ _ q=>q.imp λ_ q=>⟨q.1,e.tq q.2⟩
def eB.im(e:Im dl H a)(h:eB K H dl cv cm):eB K a dl cv cm:=Paired.mapP h λ_ _ q=>⟨q.1,q.2.imp λ_ q=>q.imp λ_ q=>⟨q.1,q.2.1,e.ls _ _ q.2.2.1 q.2.1,q.2.2.2.kp e.kp⟩⟩
def eX.im(e:Im dl H a)(n:∀x∈tk,x.2.2≠.ref dl)(h:eX H tk m):eX a tk m:=Paired.mapM h λx b _ q=>⟨q.1,q.2.1,q.2.2.imp λ_ q=>⟨q.1,e.ls _ _ q.2 λz=>n x b (by rw[q.1,z])⟩⟩
end
structure bB(P:RR)(w:World)(K:RM)(a:ke)(H:Hp)(M:cg)(Z:ZS):Prop where
 inj:∀r r' o o',cont P w a M Z r=some o->cont P w a M Z r'=some o'->Z.G r=Z.G r'->r=r'
 at_:∀r o,cont P w a M Z r=some o->H (Z.G r)=some o
 seats:∀i l,M.las[i]?=some l->bU K H (Z.iv i) l.ins
 trs:∀i t,M.trs[i]?=some t->aU K H (Z.ar i) (t.arms.map V.str)/\eY K H t.rule (Z.ru i)/\aU K H (Z.sh i) (t.shuts.map V.str)tabs:∀i l,M.las[i]?=some l->eA K H (Z.tk i)/\(∃m,eX H (Z.tk i) m/\jS M.p l.S (Z.ow i) m)/\wC (c5 K H) M.p l.S (Z.ow i)/\∀x∈Z.tk i,x.2.2≠.ref (Z.G .dl)came:eB K H (Z.G .dl) Z.cv M.came
section
variable{P:RR}{w:World}{K:RM}{a:ke}{H H':Hp}{M s:cg}{Z c:ZS}
def bB.imm(h:bB P w K a H M Z)(e:cont P w a M Z r=some o)(f:∀b o,H b=some o->b≠Z.G r->H' b=some o):Im (Z.G .dl) H H':=by
 have g:=h.at_ r o e;have i:(∀d,o≠.tup d)/\(∀x y,o≠.frz x y)/\∀d,o=.lst d->r=.dl:=by
  cases r<;>simp only[cont,Option.map_eq_some_iff,QA]at e
  case hh=>subst e;exact⟨λ_ z=>(nomatch z),λ_ _ z=>(nomatch z),λ_ z=>(nomatch z)⟩
  case ln=>subst e;exact⟨λ_ z=>(nomatch z),λ_ _ z=>(nomatch z),λ_ z=>(nomatch z)⟩
  case tn=>subst e;exact⟨λ_ z=>(nomatch z),λ_ _ z=>(nomatch z),λ_ z=>(nomatch z)⟩
  case ci=>subst e;exact⟨λ_ z=>(nomatch z),λ_ _ z=>(nomatch z),λ_ z=>(nomatch z)⟩
  case dl=>subst e;exact⟨λ_ z=>(nomatch z),λ_ _ z=>(nomatch z),λ_ _=>rfl⟩
  all_goals obtain⟨_,_,e⟩:=e;subst e;exact⟨λ_ z=>(nomatch z),λ_ _ z=>(nomatch z),λ_ z=>(nomatch z)⟩
 obtain⟨j,k,l⟩:=i;refine⟨⟨λu d q=>f _ _ q λz=>?_,λu x⟨m,q⟩=>⟨m,f _ _ q λz=>?_⟩⟩,λb d q n=>f _ _ q λz=>?_⟩
 ·rw[z,g]at q;exact j _ (k_ q)
 ·rw[z,g]at q;exact k _ _ (k_ q)
 ·rw[z,g]at q;exact n (by rw[z,l _ (k_ q)])
def bB.set(h:bB P w K a H M Z)(f:cont P w a M Z d=some C)(v:∀b o,H b=some o->b≠Z.G d->H' b=some o)(u:c.G=Z.G)(j:∀r o,cont P w a s c r=some o->(r=d/\H' (Z.G d)=some o)\/(r≠d/\cont P w a M Z r=some o))(seats:∀i l,s.las[i]?=some l->bU K H' (c.iv i) l.ins)(trs:∀i t,s.trs[i]?=some t->aU K H' (c.ar i) (t.arms.map V.str)/\eY K H' t.rule (c.ru i)/\aU K H' (c.sh i) (t.shuts.map V.str))(tabs:∀i l,s.las[i]?=some l->eA K H' (c.tk i)/\(∃m,eX H' (c.tk i) m/\jS s.p l.S (c.ow i) m)/\wC (c5 K H') s.p l.S (c.ow i)/\∀x∈c.tk i,x.2.2≠.ref (c.G .dl))(came:eB K H' (c.G .dl) c.cv s.came):bB P w K a H' s c:=by
 refine⟨λr y o A e B g=>?_,λr o e=>?_,seats,trs,tabs,came⟩
 ·rw[u]at g;rcases j r o e with⟨rfl,_⟩|⟨_,q⟩<;>rcases j y A B with⟨rfl,_⟩|⟨_,k⟩
  ·rfl
  ·exact h.inj _ _ _ _ f k g
  ·exact h.inj _ _ _ _ q f g
  ·exact h.inj _ _ _ _ q k g
 ·rw[u];rcases j r o e with⟨rfl,q⟩|⟨n,q⟩
  ·exact q
  ·exact v _ _ (h.at_ _ _ q) λz=>n (h.inj _ _ _ _ q f z)
def bB.trsI(h:bB P w K a H M Z)(e:Kp H H'):∀i t,M.trs[i]?=some t->aU K H' (Z.ar i) (t.arms.map V.str)/\eY K H' t.rule (Z.ru i)/\aU K H' (Z.sh i) (t.shuts.map V.str):=λi t b=>let⟨h1,h2,h3⟩:=h.trs i t b;⟨e.tq h1,h2.kp e,e.tq h3⟩
def bB.tabsI(h:bB P w K a H M Z)(e:Im (Z.G .dl) H H'):∀i l,M.las[i]?=some l->eA K H' (Z.tk i)/\(∃m,eX H' (Z.tk i) m/\jS M.p l.S (Z.ow i) m)/\wC (c5 K H') M.p l.S (Z.ow i)/\∀x∈Z.tk i,x.2.2≠.ref (Z.G .dl):=λi l b=>let⟨h1,⟨m,h2,h3⟩,h4,h5⟩:=h.tabs i l b;⟨λx d=>jB e.kp (h1 x d),⟨m,h2.im e h5,h3⟩,h4.mono λ_ _ q=>jB e.kp q,h5⟩
def bB.same(h:bB P w K a H M Z)(e:aq H H'):bB P w K a H' M Z:=⟨h.inj,λr o q=>e _ _ (h.at_ r o q),λi l b=>(h.seats i l b).kp (.of e),h.trsI (.of e),h.tabsI (.of e),h.came.im (.of e)⟩
def io{b g:Type}{d:List b}{i:Nat}{x y:b}(h:d[i]?=some x)(f:b->g)(e:f y=f x)(j:Nat):(d.set i y)[j]?.map f=d[j]?.map f:=by
 rw[QC]
 by_cases q:i=j
 ·subst q;rw[ku rfl,ku (d_.mp h).1,h];exact rb some e
 ·rw[j2 q]
def dD{b g:Type}{d:List b}{i:Nat}{x y:b}(h:d[i]?=some x)(f:b->g)(e:f y=f x):(d.set i y).map f=d.map f:=sD λj=>by rw[ir,ir];exact io h f e j
def m9{b:Type}{d:List b}{i j:Nat}{y z:b}(e:(d.set i y)[j]?=some z):(j=i/\z=y)\/(j≠i/\d[j]?=some z):=by
 rw[QC]at e
 by_cases q:i=j
 ·rw[ku q]at e
  split at e
  ·exact .inl ⟨q.symm,(k_ e).symm⟩
  ·cases e
 ·rw[j2 q]at e;exact .inr ⟨λz=>q z.symm,e⟩
def BA{i:Nat}{l l':cG}(b:M.las[i]?=some l)(h1:l'.nm=l.nm)(h2:l'.sl=l.sl)(r:Ro):cont P w a {M with las:=M.las.set i l'} Z r=cont P w a M Z r:=by cases r with|ln=>exact rb (λns=>some (HO.dK (jR ns λi=>.ref (Z.G (.lo i))))) (dD b cG.nm h1)|lo j=>exact io b _ (by rw[h2]) j|iu j=>exact io (y:=l') b _ rfl j|tb j=>exact io (y:=l') b _ rfl j|od j=>exact io (y:=l') b _ rfl j|td j=>exact io (y:=l') b _ rfl j|_=>rfl
def Iu{i:Nat}{t b:dh}(d:M.trs[i]?=some t)(h1:b.nm=t.nm)(r:Ro)(h2:r=.tr i->b.home=t.home/\b.pau=t.pau/\b.clo=t.clo)(h3:r=.ba i->b.bar=t.bar):cont P w a {M with trs:=M.trs.set i b} Z r=cont P w a M Z r:=by
 cases r with|tn=>exact rb (λns=>some (HO.dK (jR ns λi=>.ref (Z.G (.tr i))))) (dD d dh.nm h1)|tr j=>
  by_cases q:j=i
  ·subst q;obtain⟨a1,e,f⟩:=h2 rfl;exact io d _ (by rw[a1,e,f]) j
  ·show((M.trs.set i b)[j]?).map _=_;rw[qr (λz=>q z.symm)];rfl|ba j=>
  by_cases q:j=i
  ·subst q;exact io d _ (by rw[h3 rfl]) j
  ·show((M.trs.set i b)[j]?).map _=_;rw[qr (λz=>q z.symm)];rfl|_=>rfl
def cI:∀b o,H b=some o->b≠x->aA H x o' b=some o:=λb o e n=>by rw[ao n];exact e
def bB.setIns(h:bB P w K a H M Z){i:Nat}{l:cG}{ins':List (Str×Str×Str)}{iv':List (b0×V)}(d:M.las[i]?=some l)(p:bU K H iv' ins'):bB P w K a (aA H (Z.G (.iu i)) (.dK iv')) {M with las:=M.las.set i {l with ins:=ins'}} {Z with iv:=λj=>if j=i then iv' else Z.iv j}:=by
 have g:cont P w a M Z (.iu i)=some (.dK (Z.iv i)):=by simp[cont,d]
 have im:=h.imm g (cI (o':=.dK iv'));refine h.set g cI rfl (λr o e=>?_) (λj b e=>?_) (h.trsI im.kp) (λj b e=>?_) (h.came.im im)
 ·rw[BA (l':={l with ins:=ins'}) d rfl rfl]at e
  by_cases f:r=.iu i
  ·subst f;refine .inl ⟨rfl,?_⟩;rw[ae,<-e];simp[cont,d]
  ·refine .inr ⟨f,?_⟩;rw[<-e];cases r with|iu j=>show _=M.las[j]?.map λ_=>HO.dK (if j=i then iv' else Z.iv j);rw[j2 λz=>f (by rw[z])];rfl|_=>rfl
 ·rcases m9 e with⟨rfl,rfl⟩|⟨n,q⟩
  ·show bU K _ (if j=j then iv' else Z.iv j) ins';rw[ku rfl];exact p.kp im.kp
  ·show bU K _ (if j=i then iv' else Z.iv j) b.ins;rw[j2 n];exact(h.seats j b q).kp im.kp
 ·rcases m9 e with⟨rfl,rfl⟩|⟨n,q⟩
  ·exact h.tabsI im _ l d
  ·exact h.tabsI im j b q
def bB.setTr(h:bB P w K a H M Z){i:Nat}{t t':dh}{r0:Ro}{o':HO}(d:M.trs[i]?=some t)(h1:t'.nm=t.nm)(h2:t'.arms=t.arms)(h3:t'.rule=t.rule)(h4:t'.shuts=t.shuts)(f:(r0=.tr i/\t'.bar=t.bar)\/(r0=.ba i/\t'.home=t.home/\t'.pau=t.pau/\t'.clo=t.clo))(l:cont P w a {M with trs:=M.trs.set i t'} Z r0=some o'):bB P w K a (aA H (Z.G r0) o') {M with trs:=M.trs.set i t'} Z:=by
 obtain⟨g,k⟩:∃g,cont P w a M Z r0=some g:=by rcases f with⟨rfl,_⟩|⟨rfl,_⟩<;>exact⟨_,by simp only[cont,d];rfl⟩
 have im:=h.imm k (cI (o':=o'));refine h.set k cI rfl (λr o e=>?_) (λj m e=>(h.seats j m e).kp im.kp) (λj p e=>?_) (h.tabsI im) (h.came.im im)
 ·by_cases b:r=r0
  ·subst b;rw[l]at e;exact .inl ⟨rfl,by rw[ae];exact e⟩
  ·refine .inr ⟨b,?_⟩;rw[<-e];refine(Iu d h1 r (λz=>?_) λz=>?_).symm
   ·rcases f with⟨q,_⟩|⟨_,q⟩
    ·exact absurd (z.trans q.symm) b
    ·exact q
   ·rcases f with⟨_,q⟩|⟨q,_⟩
    ·exact q
    ·exact absurd (z.trans q.symm) b
 ·rcases m9 e with⟨rfl,rfl⟩|⟨n,q⟩
  ·rw[h2,h3,h4];exact h.trsI im.kp _ t d
  ·exact h.trsI im.kp j p q
def bB.deed(h:bB P w K a H M Z)(d:V):bB P w K a (aA H (Z.G .dl) (.lst (Z.ds++[d]))) M {Z with ds:=Z.ds++[d]}:=by
 have f:cont P w a M Z .dl=some (.lst Z.ds):=rfl;have im:=h.imm f (cI (o':=.lst (Z.ds++[d])));refine h.set f cI rfl (λr o e=>?_) (λj g e=>(h.seats j g e).kp im.kp) (h.trsI im.kp) (h.tabsI im) (h.came.im im)
 by_cases b:r=.dl
 ·subst b;exact .inl ⟨rfl,by rw[ae];exact e⟩
 ·refine .inr ⟨b,?_⟩;rw[<-e];cases r with|dl=>exact absurd rfl b|_=>rfl
def bB.setCame(h:bB P w K a H M Z)(hc:eB K H (Z.G .dl) b d):bB P w K a (aA H (Z.G .ci) (.dK b)) {M with came:=d} {Z with cv:=b}:=by
 have g:cont P w a M Z .ci=some (.dK Z.cv):=rfl;have im:=h.imm g (cI (o':=.dK b));refine h.set g cI rfl (λr o e=>?_) (λj i e=>(h.seats j i e).kp im.kp) (h.trsI im.kp) (h.tabsI im) (hc.im im)
 by_cases f:r=.ci
 ·subst f;exact .inl ⟨rfl,by rw[ae];exact e⟩
 ·refine .inr ⟨f,?_⟩;rw[<-e];cases r with|ci=>exact absurd rfl f|_=>rfl
end
theorem y6:∀(ns:RS)(x:Str)(f:Nat->V),jR (ns++[x]) f=jR ns f++[(.inr x,f ns.length)]|[],_,_=>rfl|n::r,x,f=>by show(Sum.inr n,f 0)::jR (r++[x]) _=(Sum.inr n,f 0)::(jR r _++_);rw[y6 r x];rfl
theorem rc:∀{ns:RS}{f g:Nat->V},(∀i,i<ns.length->f i=g i)->jR ns f=jR ns g|[],_,_,_=>rfl|n::r,f,g,h=>by show(Sum.inr n,f 0)::jR r _=(Sum.inr n,g 0)::jR r _;rw[h 0 (by simp),rc (ns:=r) (f:=λi=>f (i+1)) (g:=λi=>g (i+1)) λi hi=>h (i+1) (by simpa using hi)]
theorem i9:∀(ns:RS)(f:Nat->V),(jR ns f).length=ns.length|[],_=>rfl|n::r,f=>by rw[jR,n_,n_,i9 r]
theorem uk:∀{ns:RS}{f:Nat->V}{i:Nat}{x:Str},ns.Nodup->ns[i]?=some x->a0 (jR ns f) (.inr x)=some (f i)
 |[],_,i,_,_,h=>by simp at h|n::r,f,0,x,_,h=>by
  have e:n=x:=by simpa using h
  exact ck (by rw[e])|n::r,f,i+1,x,hn,h=>by
  have h:r[i]?=some x:=by simpa using h
  rw[Q3]at hn;have ne:n≠x:=λz=>hn.1 (by rw[z];exact il h);show a0 ((Sum.inr n,f 0)::jR r _) _=_;rw[bK λz=>ne (ro z)];exact uk hn.2 h
theorem mK:∀{ns:RS}{f:Nat->V}{x:Str},x∉ns->a0 (jR ns f) (.inr x)=none|[],_,_,_=>rfl|n::r,f,x,h=>by show a0 ((Sum.inr n,f 0)::jR r _) _=_;rw[bK λz=>h (by rw[ro z];exact kw)];exact mK λz=>h (i_ _ z)
theorem y4:∀{ns:RS}{f:Nat->V}{i:Nat},(jR ns f)[i]?=ns[i]?.map λx=>(.inr x,f i)|[],_,i=>by simp[jR]|n::r,f,0=>rfl|n::r,f,i+1=>by show(jR r λi=>f (i+1))[i]?=_;rw[y4];simp
section
variable{P:RR}{w:World}{K:RM}{a:ke}{H c:Hp}{M:cg}{Z:ZS}
def bB.tab(h:bB P w K a H M Z)(b:M.las[i]?=some l):∃m,eC P w K a.bP H (Z.G (.tb i)) (Z.G (.od i)) (Z.G (.td i)) M.p (Z.ow i) (Z.tk i) m/\jS M.p l.S (Z.ow i) m:=by obtain⟨h1,⟨m,h2,h3⟩,_⟩:=h.tabs i l b;exact⟨m,⟨⟨_,h.at_ (.tb i) _ (by simp only[cont,b];rfl)⟩,h.at_ (.od i) _ (by simp only[cont,b];rfl),h.at_ (.td i) _ (by simp only[cont,b];rfl),h1,h2⟩,h3⟩
def bB.told(h:bB P w K a H M Z)(s:M.las[i]?=some l)(o:mU (Z.G (.od i)) (Z.G (.td i)) H c)(C:eC P w K a.bP c (Z.G (.tb i)) (Z.G (.od i)) (Z.G (.td i)) M.p f d I)(L:jS M.p t f I)(N:wC (c5 K H) M.p t f)(Q:fb H (Z.tk i) d):bB P w K a c {M with las:=M.las.set i {l with S:=t}} {Z with ow:=λj=>if j=i then f else Z.ow j,tk:=λj=>if j=i then d else Z.tk j}:=by
 obtain⟨m,J,_⟩:=h.tab s;have im:Im (Z.G .dl) H c:=by
  have g:∀b ob,H b=some ob->(∀D,ob≠.dK D)->(∀φ,ob≠.ext φ)->c b=some ob:=λb ob e h1 h2=>o b ob e (λz=>by rw[z,J.own]at e;cases e;exact h1 _ rfl) (λz=>by rw[z,J.tak]at e;cases e;exact h2 _ rfl)
  exact⟨⟨λu O e=>g _ _ e (λ_ z=>(nomatch z)) (λ_ z=>(nomatch z)),λu x⟨E,e⟩=>⟨E,g _ _ e (λ_ z=>(nomatch z)) (λ_ z=>(nomatch z))⟩⟩,λb O e _=>g _ _ e (λ_ z=>(nomatch z)) (λ_ z=>(nomatch z))⟩
 have v:∀r ob,cont P w a {M with las:=M.las.set i {l with S:=t}} {Z with ow:=λj=>if j=i then f else Z.ow j,tk:=λj=>if j=i then d else Z.tk j} r=some ob->(r=.od i/\ob=.dK f)\/(r=.td i/\ob=dM P w (Z.G (.td i)) d)\/(r≠.od i/\r≠.td i/\cont P w a M Z r=some ob):=λr ob e=>by
  rw[BA (l':={l with S:=t}) s rfl rfl]at e;cases r with|od j=>
   by_cases q:j=i
   ·subst q;have e:(M.las[j]?.map λ_=>HO.dK (if j=j then f else Z.ow j))=some ob:=e;rw[s,ku rfl]at e;exact .inl ⟨rfl,(k_ e).symm⟩
   ·have e:(M.las[j]?.map λ_=>HO.dK (if j=i then f else Z.ow j))=some ob:=e;rw[j2 q]at e;exact .inr (.inr ⟨λz=>q (by injection z),λz=>(nomatch z),e⟩)|td j=>
   by_cases q:j=i
   ·subst q;have e:(M.las[j]?.map λ_=>dM P w (Z.G (.td j)) (if j=j then d else Z.tk j))=some ob:=e;rw[s,ku rfl]at e;exact .inr (.inl ⟨rfl,(k_ e).symm⟩)
   ·have e:(M.las[j]?.map λ_=>dM P w (Z.G (.td j)) (if j=i then d else Z.tk j))=some ob:=e;rw[j2 q]at e;exact .inr (.inr ⟨λz=>(nomatch z),λz=>q (by injection z),e⟩)|_=>exact .inr (.inr ⟨λz=>(nomatch z),λz=>(nomatch z),e⟩)
 have A:cont P w a M Z (.od i)=some (.dK (Z.ow i)):=by simp only[cont,s];rfl
 have B:cont P w a M Z (.td i)=some (dM P w (Z.G (.td i)) (Z.tk i)):=by simp only[cont,s];rfl
 have live:∀r ob,cont P w a {M with las:=M.las.set i {l with S:=t}} {Z with ow:=λj=>if j=i then f else Z.ow j,tk:=λj=>if j=i then d else Z.tk j} r=some ob->∃E,cont P w a M Z r=some E:=λr ob e=>by
  rcases v r ob e with⟨rfl,_⟩|⟨rfl,_⟩|⟨_,_,q⟩
  ·exact⟨_,A⟩
  ·exact⟨_,B⟩
  ·exact⟨_,q⟩
 refine⟨λr R ob F e T g=>?_,λr ob e=>?_,λj k e=>?_,h.trsI im.kp,λj k e=>?_,h.came.im im⟩
 ·obtain⟨_,q⟩:=live r ob e;obtain⟨_,U⟩:=live R F T;exact h.inj _ _ _ _ q U g
 ·rcases v r ob e with⟨rfl,rfl⟩|⟨rfl,rfl⟩|⟨n1,n2,q⟩
  ·exact C.own
  ·exact C.tak
  ·exact o _ _ (h.at_ _ _ q) (λz=>n1 (h.inj _ _ _ _ q A z)) (λz=>n2 (h.inj _ _ _ _ q B z))
 ·rcases m9 e with⟨rfl,rfl⟩|⟨n,q⟩
  ·exact(h.seats _ l s).kp im.kp
  ·exact(h.seats j k q).kp im.kp
 ·rcases m9 e with⟨rfl,rfl⟩|⟨n,q⟩
  ·show eA K c (if j=j then d else Z.tk j)/\(∃m,eX c (if j=j then d else Z.tk j) m/\jS M.p t (if j=j then f else Z.ow j) m)/\wC (c5 K c) M.p t (if j=j then f else Z.ow j)/\∀x∈(if j=j then d else Z.tk j),x.2.2≠.ref (Z.G .dl);rw[ku rfl,ku rfl];refine⟨C.keys,⟨I,C.lsts,L⟩,N.mono λ_ _ q=>jB im.kp q,λx V z=>?_⟩;rcases Q x V with⟨y,W,e⟩|⟨X,e,hn⟩
   ·exact(h.tabs _ l s).2.2.2 y W (e.trans z)
   ·rw[e]at z;cases z;rw[h.at_ .dl _ rfl]at hn;cases hn
  ·show eA K c (if j=i then d else Z.tk j)/\(∃m,eX c (if j=i then d else Z.tk j) m/\jS M.p k.S (if j=i then f else Z.ow j) m)/\wC (c5 K c) M.p k.S (if j=i then f else Z.ow j)/\∀x∈(if j=i then d else Z.tk j),x.2.2≠.ref (Z.G .dl);rw[j2 n,j2 n];exact h.tabsI im j k q
end
def xD(b c:Nat):Ro->Prop|.lo i=>i<b|.iu i=>i<b|.tb i=>i<b|.od i=>i<b|.td i=>i<b|.tr i=>i<c|.ba i=>i<c|_=>True
def sr(e:cont P w a M Z r=some o):xD M.las.length M.trs.length r:=by cases r<;>first|exact trivial|(obtain⟨y,h1,_⟩:=Option.map_eq_some_iff.mp e;exact(d_.mp h1).1)
def nC(P:RR)(w:World)(a:ke)(Z:ZS)(h:xD M.las.length M.trs.length r):∃o,cont P w a M Z r=some o:=by cases r<;>first|exact⟨_,rfl⟩|(have h:_<M.las.length:=h;exact⟨_,by simp only[cont,f_ h];rfl⟩)|(have h:_<M.trs.length:=h;exact⟨_,by simp only[cont,f_ h];rfl⟩)
def ZS.newL(Z:ZS)(n:Nat)(lo d t e f b c:Addr):ZS:={Z with
 G:=λr=>if r=.lo n then lo else if r=.iu n then d else if r=.tb n then t else if r=.od n then e else if r=.td n then f else Z.G r
 dx:=λr=>if r=.lo n then b else if r=.tb n then c else Z.dx r
 iv:=λj=>if j=n then[]else Z.iv j
 ow:=λj=>if j=n then[]else Z.ow j
 tk:=λj=>if j=n then[]else Z.tk j}
def ZS.newT(Z:ZS)(n:Nat)(t b dx ar:Addr)(ru:V)(sh:Addr):ZS:={Z with
 G:=λr=>if r=.tr n then t else if r=.ba n then b else Z.G r
 dx:=λr=>if r=.tr n then dx else Z.dx r
 ar:=λj=>if j=n then ar else Z.ar j
 ru:=λj=>if j=n then ru else Z.ru j
 sh:=λj=>if j=n then sh else Z.sh j}
def pz(e:(b++[x])[j]?=some y):(j=b.length/\y=x)\/(j≠b.length/\b[j]?=some y):=by
 rcases Nat.lt_trichotomy j b.length with q|q|q
 ·rw[r_ q]at e;exact .inr ⟨lm q,e⟩
 ·subst q;rw[List.getElem?_concat_length]at e;exact .inl ⟨rfl,(k_ e).symm⟩
 ·rw[np (by simp;exact q)]at e;cases e
def jj(e:(b++[x])[j]?.map f=some o):(j=b.length/\o=f x)\/(j≠b.length/\b[j]?.map f=some o):=by
 obtain⟨y,h1,h2⟩:=Option.map_eq_some_iff.mp e;rcases pz h1 with⟨q,rfl⟩|⟨q,z⟩
 ·exact .inl ⟨q,h2.symm⟩
 ·exact .inr ⟨q,by rw[z];exact rb some h2⟩
section
variable{P:RR}{w:World}{K:RM}{a:ke}{H H':Hp}{M:cg}{Z:ZS}
theorem bB.newL(h:bB P w K a H M Z)(h1:H lo=none)(h2:H iu=none)(h3:H t=none)(h4:H od=none)(h5:H td=none)(D:od≠iu)(l:∀b o,H b=some o->b≠Z.G .ln->H' b=some o)(Q:H' (Z.G .ln)=some (.dK (jR (M.las.map cG.nm) (λi=>.ref (Z.G (.lo i)))++[(.inr nm,.ref lo)])))(R:H' lo=some (.ins a.eQ c [("slope",.int sl),("table",.ref t),("inside",.ref iu)]))(T:eC P w K a.bP H' t od td M.p [] [] [])(E:lo≠t)(W:H' iu=some (.dK [])):∃s,s.G .hh=Z.G .hh/\s.G .dl=Z.G .dl/\s.ds=Z.ds/\(∀j,s.tk j=(if j=M.las.length then[]else Z.tk j)/\s.ow j=(if j=M.las.length then[]else Z.ow j))/\s.cv=Z.cv/\bB P w K a H' {M with las:=M.las++[⟨nm,sl,AS.new,[]⟩]} s/\∀r,xD (M.las.length+1) M.trs.length r->H (s.G r)=none\/(s.G r=Z.G r/\xD M.las.length M.trs.length r):=by
 obtain⟨d,O⟩:=T.ins;have im:=h.imm (r:=.ln) rfl l;have F:(M.las.map cG.nm).length=M.las.length:=c_ ..;have u:∀r o,cont P w a {M with las:=M.las++[⟨nm,sl,AS.new,[]⟩]} (Z.newL M.las.length lo iu t od td c d) r=some o->(H' ((Z.newL M.las.length lo iu t od td c d).G r)=some o/\(r=.lo M.las.length\/r=.iu M.las.length\/r=.tb M.las.length\/r=.od M.las.length\/r=.td M.las.length))\/((Z.newL M.las.length lo iu t od td c d).G r=Z.G r/\H' (Z.G r)=some o/\∃U,cont P w a M Z r=some U):=λr o e=>by
  cases r with|hh=>exact .inr ⟨rfl,l _ _ (h.at_ .hh _ e) λz=>(nomatch h.inj .hh .ln _ _ rfl rfl z),_,e⟩|tn=>exact .inr ⟨rfl,l _ _ (h.at_ .tn _ e) λz=>(nomatch h.inj .tn .ln _ _ rfl rfl z),_,e⟩|ci=>exact .inr ⟨rfl,l _ _ (h.at_ .ci _ e) λz=>(nomatch h.inj .ci .ln _ _ rfl rfl z),_,e⟩|dl=>exact .inr ⟨rfl,l _ _ (h.at_ .dl _ e) λz=>(nomatch h.inj .dl .ln _ _ rfl rfl z),_,e⟩|tr j=>exact .inr ⟨rfl,l _ _ (h.at_ (.tr j) _ e) λz=>(nomatch h.inj (.tr j) .ln _ _ e rfl z),_,e⟩|ba j=>exact .inr ⟨rfl,l _ _ (h.at_ (.ba j) _ e) λz=>(nomatch h.inj (.ba j) .ln _ _ e rfl z),_,e⟩|ln=>refine .inr ⟨rfl,?_,_,rfl⟩;rw[Q,<-e];show _=some (HO.dK (jR ((M.las++[(⟨nm,sl,AS.new,[]⟩:cG)]).map cG.nm) λi=>V.ref ((Z.newL M.las.length lo iu t od td c d).G (.lo i))));rw[j1,Rh,y6,F];have e1:(Z.newL M.las.length lo iu t od td c d).G (.lo M.las.length)=lo:=ku rfl;rw[e1,rc (f:=λi=>V.ref ((Z.newL M.las.length lo iu t od td c d).G (.lo i))) (g:=λi=>V.ref (Z.G (.lo i)))];intro i hi;rw[F]at hi;have n:∀x:Nat->Ro,(∀i j,x i=x j->i=j)->x i≠x M.las.length:=λx I z=>lm hi (I _ _ z);show V.ref (if Ro.lo i=.lo M.las.length then lo else _)=_;rw[j2 (n Ro.lo λ_ _ z=>by injection z)];rfl|lo j=>
   rcases jj e with⟨rfl,rfl⟩|⟨q,e⟩
   ·refine .inl ⟨?_,.inl rfl⟩;have B:(Z.newL M.las.length lo iu t od td c d).G (.lo M.las.length)=lo:=ku rfl;have X:(Z.newL M.las.length lo iu t od td c d).G (.tb M.las.length)=t:=by simp[ZS.newL]
    have y:(Z.newL M.las.length lo iu t od td c d).G (.iu M.las.length)=iu:=by simp[ZS.newL]
    have A:(Z.newL M.las.length lo iu t od td c d).dx (.lo M.las.length)=c:=ku rfl;rw[B,X,y,A];exact R
   ·have e:cont P w a M Z (.lo j)=some o:=by rw[<-e];simp[cont,ZS.newL,q]
    exact .inr ⟨by simp[ZS.newL,q],l _ _ (h.at_ (.lo j) _ e) λz=>(nomatch h.inj (.lo j) .ln _ _ e rfl z),_,e⟩|iu j=>
   rcases jj e with⟨rfl,rfl⟩|⟨q,e⟩
   ·refine .inl ⟨?_,.inr (.inl rfl)⟩;have y:(Z.newL M.las.length lo iu t od td c d).G (.iu M.las.length)=iu:=by simp[ZS.newL]
    have A:(Z.newL M.las.length lo iu t od td c d).iv M.las.length=[]:=ku rfl;rw[y,A];exact W
   ·have e:cont P w a M Z (.iu j)=some o:=by rw[<-e];simp[cont,ZS.newL,q]
    exact .inr ⟨by simp[ZS.newL,q],l _ _ (h.at_ (.iu j) _ e) λz=>(nomatch h.inj (.iu j) .ln _ _ e rfl z),_,e⟩|tb j=>
   rcases jj e with⟨rfl,rfl⟩|⟨q,e⟩
   ·refine .inl ⟨?_,.inr (.inr (.inl rfl))⟩;have X:(Z.newL M.las.length lo iu t od td c d).G (.tb M.las.length)=t:=by simp[ZS.newL]
    have y:(Z.newL M.las.length lo iu t od td c d).G (.od M.las.length)=od:=by simp[ZS.newL]
    have g5:(Z.newL M.las.length lo iu t od td c d).G (.td M.las.length)=td:=by simp[ZS.newL]
    have A:(Z.newL M.las.length lo iu t od td c d).dx (.tb M.las.length)=d:=by simp[ZS.newL]
    rw[X,y,A,g5];exact O
   ·have e:cont P w a M Z (.tb j)=some o:=by rw[<-e];simp[cont,ZS.newL,q]
    exact .inr ⟨by simp[ZS.newL,q],l _ _ (h.at_ (.tb j) _ e) λz=>(nomatch h.inj (.tb j) .ln _ _ e rfl z),_,e⟩|od j=>
   rcases jj e with⟨rfl,rfl⟩|⟨q,e⟩
   ·refine .inl ⟨?_,.inr (.inr (.inr (.inl rfl)))⟩;have y:(Z.newL M.las.length lo iu t od td c d).G (.od M.las.length)=od:=by simp[ZS.newL]
    have A:(Z.newL M.las.length lo iu t od td c d).ow M.las.length=[]:=ku rfl;rw[y,A];exact T.own
   ·have e:cont P w a M Z (.od j)=some o:=by rw[<-e];simp[cont,ZS.newL,q]
    exact .inr ⟨by simp[ZS.newL,q],l _ _ (h.at_ (.od j) _ e) λz=>(nomatch h.inj (.od j) .ln _ _ e rfl z),_,e⟩|td j=>
   rcases jj e with⟨rfl,rfl⟩|⟨q,e⟩
   ·refine .inl ⟨?_,.inr (.inr (.inr (.inr rfl)))⟩;have y:(Z.newL M.las.length lo iu t od td c d).G (.td M.las.length)=td:=by simp[ZS.newL]
    have A:(Z.newL M.las.length lo iu t od td c d).tk M.las.length=[]:=ku rfl;rw[y,A];exact T.tak
   ·have e:cont P w a M Z (.td j)=some o:=by rw[<-e];simp[cont,ZS.newL,q]
    exact .inr ⟨by simp[ZS.newL,q],l _ _ (h.at_ (.td j) _ e) λz=>(nomatch h.inj (.td j) .ln _ _ e rfl z),_,e⟩
 have gs:∀r,(r=.lo M.las.length\/r=.iu M.las.length\/r=.tb M.las.length\/r=.od M.las.length\/r=.td M.las.length)->H ((Z.newL M.las.length lo iu t od td c d).G r)=none:=λr Y=>by rcases Y with rfl|rfl|rfl|rfl|rfl<;>simp only[ZS.newL]<;>simp[h1,h2,h3,h4,h5]
 refine⟨Z.newL M.las.length lo iu t od td c d,rfl,rfl,rfl,λj=>⟨rfl,rfl⟩,rfl,⟨λr r' o U e e' g=>?_,λr o e=>?_,λj C e=>?_,h.trsI im.kp,λj C e=>?_,h.came.im im⟩,λr Y=>?_⟩
 ·rcases u r o e with⟨q,n⟩|⟨B,q,x,J⟩<;>rcases u r' U e' with⟨q',n'⟩|⟨L,q',x',N⟩
  ·rw[g,q']at q;have q:=k_ q;rcases n with rfl|rfl|rfl|rfl|rfl<;>rcases n' with rfl|rfl|rfl|rfl|rfl<;>first|rfl|(exfalso;simp[ZS.newL]at g;first|exact E g|exact E g.symm|exact D g|exact D g.symm|(simp[cont]at e e';rw[<-e,<-e']at q;cases q))
  ·rw[L]at g;have:=h.at_ _ _ N;rw[<-g,gs r n]at this;cases this
  ·rw[B]at g;have:=h.at_ _ _ J;rw[g,gs r' n']at this;cases this
  ·rw[B,L]at g;exact h.inj _ _ _ _ J N g
 ·rcases u r o e with⟨q,n⟩|⟨B,q,x,J⟩
  ·exact q
  ·rw[B];exact q
 ·rcases pz e with⟨rfl,rfl⟩|⟨n,q⟩
  ·show bU K H' (if M.las.length=M.las.length then[]else _) [];rw[ku rfl];exact .nil
  ·show bU K H' (if j=M.las.length then[]else Z.iv j) C.ins;rw[j2 n];exact(h.seats j C q).kp im.kp
 ·rcases pz e with⟨rfl,rfl⟩|⟨n,q⟩
  ·show eA K H' (if M.las.length=M.las.length then[]else _)/\(∃m,eX H' (if M.las.length=M.las.length then[]else _) m/\jS M.p AS.new (if M.las.length=M.las.length then[]else _) m)/\wC (c5 K H') M.p AS.new (if M.las.length=M.las.length then[]else _)/\∀x∈(if M.las.length=M.las.length then[]else Z.tk _),x.2.2≠.ref (Z.G .dl);rw[ku rfl,ku rfl];exact⟨λx I=>(nomatch I),⟨[],.nil,λk=>rfl,λp _ _=>rfl⟩,λp v _ _ z=>(nomatch z),λx I=>(nomatch I)⟩
  ·show eA K H' (if j=M.las.length then[]else Z.tk j)/\(∃m,eX H' (if j=M.las.length then[]else Z.tk j) m/\jS M.p C.S (if j=M.las.length then[]else Z.ow j) m)/\wC (c5 K H') M.p C.S (if j=M.las.length then[]else Z.ow j)/\∀x∈(if j=M.las.length then[]else Z.tk j),x.2.2≠.ref (Z.G .dl);rw[j2 n,j2 n];exact h.tabsI im j C q
 ·obtain⟨o,e⟩:=nC P w a (M:={M with las:=M.las++[⟨nm,sl,AS.new,[]⟩]}) (Z.newL M.las.length lo iu t od td c d) (r:=r) (by simpa using Y);rcases u r o e with⟨_,n⟩|⟨B,_,x,J⟩
  ·exact .inl (gs r n)
  ·exact .inr ⟨B,sr J⟩
theorem bB.newT(h:bB P w K a H M Z){nm home:Str}{arms shuts:RS}{rule:Ru}{t ba dx ar sh:Addr}{ru:V}(h1:H t=none)(h2:H ba=none)(c:∀b o,H b=some o->b≠Z.G .tn->H' b=some o)(v:H' (Z.G .tn)=some (.dK (jR (M.trs.map dh.nm) (λi=>.ref (Z.G (.tr i)))++[(.inr nm,.ref t)])))(I:H' t=some (.ins a.fw dx [("home",.str home),("arms",.ref ar),("rule",ru),("shuts",.ref sh),("paused",.bl false),("closed",.bl false),("barred",.ref ba)]))(J:H' ba=some (.dK []))(L:aU K H ar (arms.map V.str))(N:eY K H rule ru)(Q:aU K H sh (shuts.map V.str)):∃d,d.G .hh=Z.G .hh/\d.G .dl=Z.G .dl/\d.ds=Z.ds/\d.tk=Z.tk/\d.ow=Z.ow/\d.cv=Z.cv/\bB P w K a H' {M with trs:=M.trs++[⟨nm,home,arms,rule,shuts,false,false,[]⟩]} d/\∀r,xD M.las.length (M.trs.length+1) r->H (d.G r)=none\/(d.G r=Z.G r/\xD M.las.length M.trs.length r):=by
 have im:=h.imm (r:=.tn) rfl c;have m:(M.trs.map dh.nm).length=M.trs.length:=c_ ..;have k:∀r o,cont P w a {M with trs:=M.trs++[⟨nm,home,arms,rule,shuts,false,false,[]⟩]} (Z.newT M.trs.length t ba dx ar ru sh) r=some o->(H' ((Z.newT M.trs.length t ba dx ar ru sh).G r)=some o/\(r=.tr M.trs.length\/r=.ba M.trs.length))\/((Z.newT M.trs.length t ba dx ar ru sh).G r=Z.G r/\H' (Z.G r)=some o/\∃y,cont P w a M Z r=some y):=λr o e=>by
  cases r with|tn=>refine .inr ⟨rfl,?_,_,rfl⟩;rw[v,<-e];show _=some (HO.dK (jR ((M.trs++[(⟨nm,home,arms,rule,shuts,false,false,[]⟩:dh)]).map dh.nm) λi=>V.ref ((Z.newT M.trs.length t ba dx ar ru sh).G (.tr i))));rw[j1,Rh,y6,m];have O:(Z.newT M.trs.length t ba dx ar ru sh).G (.tr M.trs.length)=t:=ku rfl;rw[O,rc (f:=λi=>V.ref ((Z.newT M.trs.length t ba dx ar ru sh).G (.tr i))) (g:=λi=>V.ref (Z.G (.tr i)))];intro i hi;rw[m]at hi;show V.ref (if Ro.tr i=.tr M.trs.length then t else _)=_;rw[j2 λz=>lm hi (by injection z)];rfl|tr j=>
   rcases jj e with⟨rfl,rfl⟩|⟨q,e⟩
   ·refine .inl ⟨?_,.inl rfl⟩;have l:(Z.newT M.trs.length t ba dx ar ru sh).G (.tr M.trs.length)=t:=ku rfl;have A:(Z.newT M.trs.length t ba dx ar ru sh).G (.ba M.trs.length)=ba:=by simp[ZS.newT]
    have R:(Z.newT M.trs.length t ba dx ar ru sh).dx (.tr M.trs.length)=dx:=ku rfl;have S:(Z.newT M.trs.length t ba dx ar ru sh).ar M.trs.length=ar:=ku rfl;have T:(Z.newT M.trs.length t ba dx ar ru sh).ru M.trs.length=ru:=ku rfl;have U:(Z.newT M.trs.length t ba dx ar ru sh).sh M.trs.length=sh:=ku rfl;rw[l,A,R,S,T,U];exact I
   ·have e:cont P w a M Z (.tr j)=some o:=by rw[<-e];simp[cont,ZS.newT,q]
    exact .inr ⟨by simp[ZS.newT,q],c _ _ (h.at_ (.tr j) _ e) λz=>(nomatch h.inj (.tr j) .tn _ _ e rfl z),_,e⟩|ba j=>
   rcases jj e with⟨rfl,rfl⟩|⟨q,e⟩
   ·refine .inl ⟨?_,.inr rfl⟩;have A:(Z.newT M.trs.length t ba dx ar ru sh).G (.ba M.trs.length)=ba:=by simp[ZS.newT]
    rw[A];exact J
   ·have e:cont P w a M Z (.ba j)=some o:=by rw[<-e];rfl
    exact .inr ⟨by simp[ZS.newT,q],c _ _ (h.at_ (.ba j) _ e) λz=>(nomatch h.inj (.ba j) .tn _ _ e rfl z),_,e⟩|hh=>exact .inr ⟨rfl,c _ _ (h.at_ .hh _ e) λz=>(nomatch h.inj .hh .tn _ _ rfl rfl z),_,e⟩|ln=>exact .inr ⟨rfl,c _ _ (h.at_ .ln _ e) λz=>(nomatch h.inj .ln .tn _ _ rfl rfl z),_,e⟩|ci=>exact .inr ⟨rfl,c _ _ (h.at_ .ci _ e) λz=>(nomatch h.inj .ci .tn _ _ rfl rfl z),_,e⟩|dl=>exact .inr ⟨rfl,c _ _ (h.at_ .dl _ e) λz=>(nomatch h.inj .dl .tn _ _ rfl rfl z),_,e⟩|lo j=>exact .inr ⟨rfl,c _ _ (h.at_ (.lo j) _ e) λz=>(nomatch h.inj (.lo j) .tn _ _ e rfl z),_,e⟩|iu j=>exact .inr ⟨rfl,c _ _ (h.at_ (.iu j) _ e) λz=>(nomatch h.inj (.iu j) .tn _ _ e rfl z),_,e⟩|tb j=>exact .inr ⟨rfl,c _ _ (h.at_ (.tb j) _ e) λz=>(nomatch h.inj (.tb j) .tn _ _ e rfl z),_,e⟩|od j=>exact .inr ⟨rfl,c _ _ (h.at_ (.od j) _ e) λz=>(nomatch h.inj (.od j) .tn _ _ e rfl z),_,e⟩|td j=>exact .inr ⟨rfl,c _ _ (h.at_ (.td j) _ e) λz=>(nomatch h.inj (.td j) .tn _ _ e rfl z),_,e⟩
 have gs:∀r,(r=.tr M.trs.length\/r=.ba M.trs.length)->H ((Z.newT M.trs.length t ba dx ar ru sh).G r)=none:=λr B=>by rcases B with rfl|rfl<;>simp only[ZS.newT]<;>simp[h1,h2]
 refine⟨Z.newT M.trs.length t ba dx ar ru sh,rfl,rfl,rfl,rfl,rfl,rfl,⟨λr D o y e C g=>?_,λr o e=>?_,λj W e=>(h.seats j W e).kp im.kp,λj X e=>?_,h.tabsI im,h.came.im im⟩,λr B=>?_⟩
 ·rcases k r o e with⟨q,n⟩|⟨l,q,x,p⟩<;>rcases k D y C with⟨E,F⟩|⟨s,E,Y,u⟩
  ·rw[g,E]at q;have q:=k_ q;rcases n with rfl|rfl<;>rcases F with rfl|rfl<;>first|rfl|(exfalso;simp[cont]at e C;rw[<-e,<-C]at q;cases q)
  ·rw[s]at g;have:=h.at_ _ _ u;rw[<-g,gs r n]at this;cases this
  ·rw[l]at g;have:=h.at_ _ _ p;rw[g,gs D F]at this;cases this
  ·rw[l,s]at g;exact h.inj _ _ _ _ p u g
 ·rcases k r o e with⟨q,n⟩|⟨l,q,x,p⟩
  ·exact q
  ·rw[l];exact q
 ·rcases pz e with⟨rfl,rfl⟩|⟨n,q⟩
  ·show aU K H' (if M.trs.length=M.trs.length then ar else _) (arms.map V.str)/\eY K H' rule (if M.trs.length=M.trs.length then ru else _)/\aU K H' (if M.trs.length=M.trs.length then sh else _) (shuts.map V.str);rw[ku rfl,ku rfl,ku rfl];exact⟨im.kp.tq L,N.kp im.kp,im.kp.tq Q⟩
  ·show aU K H' (if j=M.trs.length then ar else Z.ar j) _/\eY K H' _ (if j=M.trs.length then ru else Z.ru j)/\aU K H' (if j=M.trs.length then sh else Z.sh j) _;rw[j2 n,j2 n,j2 n];exact h.trsI im.kp j X q
 ·obtain⟨o,e⟩:=nC P w a (M:={M with trs:=M.trs++[⟨nm,home,arms,rule,shuts,false,false,[]⟩]}) (Z.newT M.trs.length t ba dx ar ru sh) (r:=r) (by simpa using B);rcases k r o e with⟨_,n⟩|⟨l,_,x,p⟩
  ·exact .inl (gs r n)
  ·exact .inr ⟨l,sr p⟩
end
def g9(M:cg)(Z:ZS)(b:Addr):Prop:=(∃r,xD M.las.length M.trs.length r/\b=Z.G r)\/(∃i,i<M.las.length/\∃x∈Z.tk i,x.2.2=.ref b)\/∃x∈Z.cv,x.2=.ref b
def eX.outs(n:∀x∈tk,∀l b,x.2.2=.ref l->H l=some (.lst b)->H' l=some (.lst b))(h:eX H tk m):eX H' tk m:=Paired.mapM h λx c _ q=>⟨q.1,q.2.1,q.2.2.imp λ_ q=>⟨q.1,n x c _ _ q.1 q.2⟩⟩
def eB.outs(e:Kp H H')(n:∀x∈cv,∀l b,x.2=.ref l->H l=some (.lst b)->H' l=some (.lst b))(h:eB K H dl cv cm):eB K H' dl cv cm:=Paired.mapM h λx c _ q=>⟨q.1,q.2.imp λ_ q=>q.imp λ_ q=>⟨q.1,q.2.1,n x c _ _ q.1 q.2.2.1,q.2.2.2.kp e⟩⟩
def bB.out(h:bB P w K a H M Z)(n:¬g9 M Z o)(kp:Kp H H')(f:∀b ob,H b=some ob->b≠o->H' b=some ob):bB P w K a H' M Z:=⟨h.inj,λr ob e=>f _ _ (h.at_ r ob e) λz=>n (.inl ⟨r,sr e,z.symm⟩),λi l d=>(h.seats i l d).kp kp,h.trsI kp,λi l d=>let⟨h1,⟨m,h2,h3⟩,h4,h5⟩:=h.tabs i l d;⟨λx c=>jB kp (h1 x c),⟨m,h2.outs λx c l k g j=>f _ _ j λz=>n (.inr (.inl ⟨i,(d_.mp d).1,x,c,by rw[g,z]⟩)),h3⟩,h4.mono λ_ _ q=>jB kp q,h5⟩,h.came.outs kp λx c l k g j=>f _ _ j λz=>n (.inr (.inr ⟨x,c,by rw[g,z]⟩))⟩
def mJ{a b:Addr}{o:HO}(h:aA H a o b=none):H b=none:=by
 by_cases e:b=a
 ·rw[e,ae]at h;cases h
 ·rw[ao e]at h;exact h
structure fU(H:Hp)(M:cg)(Z:ZS)(H':Hp)(M':cg)(Z':ZS):Prop where
 hh:Z'.G .hh=Z.G .hh
 fr:∀b o,H b=some o->¬g9 M Z b->H' b=some o
 fp:∀b,g9 M' Z' b->g9 M Z b\/H b=none
 dm:∀b,H' b=none->H b=none
 dd:Z'.G .dl=Z.G .dl
section
variable{H d j p:Hp}{M M1 M2 c:cg}{Z f g a:ZS}
def fU.of(s:aq H p):fU H M Z p M Z:=⟨rfl,λb o h _=>s b o h,λ_ h=>.inl h,λ_ h=>s.free h,rfl⟩
theorem fU.trans(s:fU H M Z d M1 f)(t:fU d M1 f j M2 g):fU H M Z j M2 g:=⟨t.hh.trans s.hh,λb o h n=>t.fr b o (s.fr b o h n) λq=>(s.fp b q).elim n λz=>(by rw[h]at z;cases z),λb q=>(t.fp b q).elim (s.fp b) λz=>.inr (s.dm b z),λb z=>s.dm b (t.dm b z),t.dd.trans s.dd⟩
def fU.put(t:xD M.las.length M.trs.length r)(s:a.G=Z.G)(h1:c.las.length=M.las.length)(h2:c.trs.length=M.trs.length)(h3:a.tk=Z.tk)(h4:∀x∈a.cv,x∈Z.cv\/∃l,x.2=.ref l/\(g9 M Z l\/H l=none)):fU H M Z (aA H (Z.G r) o) c a:=⟨by rw[s],λb o h n=>(by rw[ao λz=>n (.inl ⟨r,t,z⟩)];exact h),λb q=>by
  rcases q with⟨m,h,e⟩|⟨i,hi,x,k,e⟩|⟨x,k,e⟩
  ·exact .inl (.inl ⟨m,by rw[<-h1,<-h2];exact h,by rw[e,s]⟩)
  ·exact .inl (.inr (.inl ⟨i,by rw[<-h1];exact hi,x,by rw[<-h3];exact k,e⟩))
  ·rcases h4 x k with q|⟨l,u,q⟩
   ·exact .inl (.inr (.inr ⟨x,q,e⟩))
   ·rw[u]at e;cases e;exact q,λb z=>mJ z,by rw[s]⟩
end
def fU.out{o:Addr}{x:HO}{H c:Hp}{M M1:cg}{Z d:ZS}(s:fU H M Z c M1 d)(n:H o=none):fU H M Z (aA c o x) M1 d:=⟨s.hh,λb e h q=>(by rw[ao (aF h n)];exact s.fr b e h q),s.fp,λb z=>s.dm b (mJ z),s.dd⟩
theorem eX.ex(h:eX H tk m)(x:iU)(b:x∈tk):∃l c,x.2.2=.ref l/\H l=some (.lst c):=(Paired.ex h x b).elim λ_ q=>q.2.2.imp λ_ q=>⟨_,q⟩
theorem eB.ex(h:eB K H dl cv cm)(x:b0×V)(b:x∈cv):∃l c,x.2=.ref l/\H l=some (.lst c):=(Paired.ex h x b).elim λ_ q=>q.2.imp λ_ q=>q.imp λ_ q=>⟨q.1,q.2.2.1⟩
def bB.foot(h:bB P w K a H M Z)(c:H b=none):¬g9 M Z b:=λz=>by
 rcases z with⟨r,j,e⟩|⟨i,hi,x,d,e⟩|⟨x,d,e⟩
 ·obtain⟨o,q⟩:=nC P w a Z j;rw[e,h.at_ r o q]at c;cases c
 ·obtain⟨_,⟨m,q,_⟩,_⟩:=h.tabs i _ (f_ hi);obtain⟨l,k,f,g⟩:=q.ex x d;rw[f]at e;cases e;rw[g]at c;cases c
 ·obtain⟨l,k,f,g⟩:=h.came.ex x d;rw[f]at e;cases e;rw[g]at c;cases c
structure IW(M:cg)(c:Nat)(l:cG):Prop where
 wd:Wd l.nm
 sl:0<=l.sl/\l.sl<=M.p
 ok:l.S.Ok M.p
 len:l.ins.length<=c
 gs:∀x∈l.ins,BY x.1
 nd:(l.ins.map (·.1)).Nodup
 own:∀k q,q∈l.S.pl k->k=cu "" ""\/∃t∈M.trs,t.home=l.nm/\∃y∈t.arms,k=cu t.nm y
structure KZ(M:cg)(t:dh):Prop where
 wd:Wd t.nm
 hm:t.home∈M.las.map cG.nm
 a1:1<=t.arms.length
 a4:t.arms.length<=4
 nd:t.arms.Nodup
 aw:∀x∈t.arms,Wd x
 hg:t.rule.hgt<=6
 s8:t.shuts.length<=8
structure lY(M:cg)(c:Nat):Prop where
 p:2<=M.p/\M.p<=997
 ln:(M.las.map cG.nm).Nodup
 tn:(M.trs.map dh.nm).Nodup
 la:∀l∈M.las,IW M c l
 tr:∀t∈M.trs,KZ M t
 cm:∀x∈M.came,x.2.length<=10*c
 l4:M.las.length<=4
 tc:M.trs.length<=10
 cl:M.came.length<=10*c
 br:∀t∈M.trs,t.bar.length<=c
structure cY(P:RR)(w:World)(K:RM)(a:ke)(H:Hp)(M:cg)(Z:ZS)(c:Nat):Prop where
 g:bB P w K a H M Z
 ok:lY M c
 tk:∀i,(Z.tk i).length<=10*c
 ow:∀i,(Z.ow i).length<=5000*c
 ds:Z.ds.length<=c
def IW.mono(h:IW M c l)(hc:c<=d):IW M d l:={h with len:=nh h.len hc}
theorem lY.mono(h:lY M c)(hc:c<=d):lY M d:={h with la:=λl b=>(h.la l b).mono hc,cm:=λx e=>nh (h.cm x e) (Qs _ hc),cl:=nh h.cl (Qs _ hc),br:=λt f=>nh (h.br t f) hc}
theorem cY.mono(h:cY P w K a H M Z c)(hc:c<=d):cY P w K a H M Z d:=⟨h.g,h.ok.mono hc,λi=>nh (h.tk i) (Qs _ hc),λi=>nh (h.ow i) (Qs _ hc),nh h.ds hc⟩
theorem cY.same(h:cY P w K a H M Z c)(e:aq H H'):cY P w K a H' M Z c:={h with g:=h.g.same e}
section
variable{P:RR}{w:World}{K:RM}{a:ke}{H b:Hp}{M:cg}{Z:ZS}{c:Nat}
def bB.house(h:bB P w K a H M Z):H (Z.G .hh)=some (.ins a.bp (Z.dx .hh) [("own_prime",.int M.p),("own_salt",.int M.salt),("layer_named",.ref (Z.G .ln)),("trial_named",.ref (Z.G .tn)),("came_into",.ref (Z.G .ci)),("deeds",.ref (Z.G .dl))]):=h.at_ .hh _ rfl
def bB.lays(h:bB P w K a H M Z):H (Z.G .ln)=some (.dK (jR (M.las.map cG.nm) λi=>.ref (Z.G (.lo i)))):=h.at_ .ln _ rfl
def bB.tris(h:bB P w K a H M Z):H (Z.G .tn)=some (.dK (jR (M.trs.map dh.nm) λi=>.ref (Z.G (.tr i)))):=h.at_ .tn _ rfl
def bB.cams(h:bB P w K a H M Z):H (Z.G .ci)=some (.dK Z.cv):=h.at_ .ci _ rfl
def bB.dees(h:bB P w K a H M Z):H (Z.G .dl)=some (.lst Z.ds):=h.at_ .dl _ rfl
def bB.layer(h:bB P w K a H M Z)(d:M.las[i]?=some l):H (Z.G (.lo i))=some (.ins a.eQ (Z.dx (.lo i)) [("slope",.int l.sl),("table",.ref (Z.G (.tb i))),("inside",.ref (Z.G (.iu i)))]):=h.at_ (.lo i) _ (by simp only[cont,d];rfl)
def bB.inside(h:bB P w K a H M Z)(d:M.las[i]?=some l):H (Z.G (.iu i))=some (.dK (Z.iv i)):=h.at_ (.iu i) _ (by simp only[cont,d];rfl)
def bB.trial(h:bB P w K a H M Z)(d:M.trs[i]?=some t):H (Z.G (.tr i))=some (.ins a.fw (Z.dx (.tr i)) [("home",.str t.home),("arms",.ref (Z.ar i)),("rule",Z.ru i),("shuts",.ref (Z.sh i)),("paused",.bl t.pau),("closed",.bl t.clo),("barred",.ref (Z.G (.ba i)))]):=h.at_ (.tr i) _ (by simp only[cont,d];rfl)
def bB.barred(h:bB P w K a H M Z)(d:M.trs[i]?=some t):H (Z.G (.ba i))=some (.dK (t.bar.map λg=>(.inr g,.bl true))):=h.at_ (.ba i) _ (by simp only[cont,d];rfl)
def lY.lget(h:lY M c)(d:M.las[i]?=some l):a0 (jR (M.las.map cG.nm) λi=>.ref (Z.G (.lo i))) (.inr l.nm)=some (.ref (Z.G (.lo i))):=uk h.ln (by rw[ir,d];rfl)
def lY.tget(h:lY M c)(d:M.trs[i]?=some t):a0 (jR (M.trs.map dh.nm) λi=>.ref (Z.G (.tr i))) (.inr t.nm)=some (.ref (Z.G (.tr i))):=uk h.tn (by rw[ir,d];rfl)
theorem lY.home(h:lY M c)(d:t∈M.trs):∃(i:Nat)(l:cG),M.las[i]?=some l/\l.nm=t.home:=by obtain⟨l,f,e⟩:=mu.mp (h.tr t d).hm;obtain⟨i,hi⟩:=j_.mp f;exact⟨i,l,hi,e⟩
end
section
variable{K:RM}{H:Hp}
def bU.find(h:bU K H iv ins)(hn:(ins.map (·.1)).Nodup):∀x∈ins,∃s,a0 iv (.inr x.1)=some (.ref s)/\aU K H s [.str x.2.1,.str x.2.2]:=by induction h with|nil=>exactλx b=>(nomatch b)|@cons _ y _ _ h _ c=>
  intro x b;obtain⟨h1,s,h2,h3⟩:=h;rw[no,Q3]at hn;rcases ov.mp b with rfl|b
  ·exact⟨s,by rw[ck h1,h2],h3⟩
  ·obtain⟨d,f,g⟩:=c hn.2 x b;refine⟨d,?_,g⟩;rw[bK,f];intro e;rw[h1]at e;exact hn.1 (by rw[show y.1=x.1 from ro e];exact mu.mpr ⟨x,b,rfl⟩)
theorem bU.none(h:bU K H iv ins)(hn:g∉ins.map (·.1)):a0 iv (.inr g)=Option.none:=by induction h with|nil=>rfl|@cons _ y _ _ h _ b=>
  rw[no]at hn;rw[bK]
  ·exact b λz=>hn (i_ _ z)
  ·intro e;rw[h.1]at e;exact hn (by rw[show y.1=g from ro e];exact kw)
def bU.drop(g:Str)(h:bU K H iv ins):bU K H (dF iv (.inr g)) (ins.filter λx=>decide (x.1≠g)):=by induction h with|nil=>exact .nil|@cons x y _ _ h _ b=>
  by_cases e:y.1=g
  ·rw[yi (by rw[h.1,e]),List.filter_cons_of_neg (by simp[e])];exact b
  ·rw[yj (λz=>e (by rw[h.1]at z;exact ro z)),List.filter_cons_of_pos (by simp[e])];exact .cons h b
end
def cK(ins:List (Str×Str×Str))(gs:RS):List (Str×Str×Str):=ins.filter λx=>decide (x.1∉gs)
def jC(ins:List (Str×Str×Str)):cK ins []=ins:=List.filter_eq_self.mpr λ_ _=>by simp
def sW(ins:List (Str×Str×Str))(gs:RS)(g:Str):cK ins (gs++[g])=(cK ins gs).filter λx=>decide (x.1≠g):=by
 unfold cK;rw[List.filter_filter];refine Rq λx _=>?_
 by_cases h1:x.1∈gs<;>by_cases h2:x.1=g<;>simp[h1,h2]
def CZ(h:g∈ins.map (·.1))(hn:g∉gs):∃x∈cK ins gs,x.1=g:=by obtain⟨x,b,rfl⟩:=mu.mp h;exact⟨x,v1.mpr ⟨b,by simpa using hn⟩,rfl⟩
def yc(h:(ins.map (·.1)).Nodup):((cK ins gs).map (·.1)).Nodup:=(List.Sublist.map _ List.filter_sublist).nodup h
abbrev cg.setL(M:cg)(i:Nat)(l:cG):cg:={M with las:=M.las.set i l}
def ni{M:cg}{i:Nat}{l:cG}(b:M.las[i]?=some l):M.setL i l=M:=by
 have e:M.las.set i l=M.las:=sD λj=>by
  rw[QC]
  split
  ·rename_i q;subst q;rw[ku (d_.mp b).1,b]
  ·rfl
 unfold cg.setL;rw[e]
def uL{M:cg}{i:Nat}{l b:cG}:(M.setL i l).setL i b=M.setL i b:=by unfold cg.setL;rw[List.set_set]
def uM{M:cg}{i:Nat}{l l':cG}(b:M.las[i]?=some l):(M.setL i l').las[i]?=some l':=by show(M.las.set i l')[i]?=_;rw[w_ (d_.mp b).1]
theorem lY.setL{M:cg}{c d:Nat}(h:lY M c){i:Nat}{l b:cG}(g:M.las[i]?=some l)(h1:b.nm=l.nm)(hc:c<=d)(ok:IW M d b):lY (M.setL i b) d:=by
 have e:(M.las.set i b).map cG.nm=M.las.map cG.nm:=dD g cG.nm h1;have h:=h.mono hc;refine{h with ln:=by rw[e];exact h.ln,la:=λx j=>?_,tr:=λt f=>{h.tr t f with hm:=by show t.home∈(M.las.set i b).map cG.nm;rw[e];exact(h.tr t f).hm},l4:=by show(M.las.set i b).length<=4;rw[th];exact h.l4};rcases P2 j with q|rfl
 ·exact{h.la x q with}
 ·exact{ok with}
inductive N5(P:RR)(w:World)(K:RM)(a:ke)(vs:List V)(H:Hp)(Q:VK)(_E:XK):Prop|mk(M:cg)(Z:ZS)(c i:Nat)(l:cG)(g:Addr)(gs:RS)(_:vs=[.ref (Z.G .hh),.ref (Z.G (.lo i)),.ref g])(_:cY P w K a H M Z c)(_:M.las[i]?=some l)(_:H g=some (.lst (gs.map V.str)))(_:(∀x∈gs,x∈l.ins.map (·.1)))(_:gs.Nodup)(_:gs.length<=63)(_:∀(r:Addr)(us:List V)(Z':ZS)(H':Hp),fU H M Z H' (M.setL i {l with ins:=cK l.ins gs}) Z'->cY P w K a H' (M.setL i {l with ins:=cK l.ins gs}) Z' c->H r=none->H' r=some (.lst us)->Z'.ds=Z.ds->Q (.ref r) H')
section
def kS(T:Txt K mg a):aS P w K mg base dw 1 a.cz.x a.cz.d ["self","layer","guests"] (N5 P w K a):=by
 refine T.cz.ok eS λbt A outer s H vs Q E hr h=>?_
 ·obtain⟨M,Z,c,i,l,g,gs,rfl,hZ,hl,hg,a7,a8,bp,q⟩:=h;refine⟨_,(ah (bq 3 eS.nd (bA ag)) (ah (eI pa rfl (d9 K rfl (Y 2)) (tS 4 eS.nd) (ah (bq 5 eS.nd (u4 (aI K rfl (Y 1)) (Y 4) ⟨rfl,rfl,rfl,rfl⟩)) (ai (aR (jw K rfl PySem.F.plainAttrs_list PySem.F.slot_list_append PySem.F.type_list_append eU (Y 3) (O (av (u9 K rfl) (bC (O (Y 4) ag)) (Y 5)) ag)))))) (ai (az (ax (Db K rfl) (by rfl) T.Bb L2.tj (O (Y 3) ag)))))),?_⟩
  refine⟨ls rfl,λo ho=>au ?_⟩;have s1:=aj (o:=.lst []) (aq.refl H) ho;have an:aA H o (.lst []) o=some (.lst []):=ae;generalize aA H o (.lst [])=H1 at s1 an⊢;have hL:=hZ.ok.la l (il hl);have ba:¬g9 M Z o:=hZ.g.foot ho;have bb:(gs.map V.str).length=gs.length:=c_ ..;refine U rfl ⟨g,rfl,⟨_,aW.of (s1 _ _ hg)⟩,?_⟩;refine k8 (xs:=gs.map V.str) (λk σ H'=>IZ λR C=>P0 (bB P w K a H' (M.setL i {l with ins:=cK l.ins (gs.take k)}) R) (R.G=Z.G) (R.tk=Z.tk) (R.ow=Z.ow) (R.ds=Z.ds) (R.cv=Z.cv) (¬g9 (M.setL i {l with ins:=cK l.ins (gs.take k)}) R o) (fU H M Z H' (M.setL i {l with ins:=cK l.ins (gs.take k)}) R) (H' g=some (.lst (gs.map V.str))) (H' o=some (.lst (C.map V.ref))) (C.length=k) ((∀u∈C,∃x y z,aU K H' u [.str x,.str y,.str z])) (IZ λv4 v5=>σ=[some (.ref (Z.G .hh)),some (.ref (Z.G (.lo i))),some (.ref g),some (.ref o),v4,v5])) ⟨Z,[],by rw[J_,jC];exact(ni hl).symm▸hZ.g.same s1,rfl,rfl,rfl,rfl,rfl,by rw[J_,jC];exact(ni hl).symm▸ba,by rw[J_,jC];exact(ni hl).symm▸fU.of s1,s1 _ _ hg,an,rfl,λu hu=>(nomatch hu),_,_,rfl⟩ (λk σ H' _ h=>by obtain⟨_,_,_,_,_,_,_,_,_,_,h,_⟩:=h;exact aW.of h) ?_ ?_
  ·rintro k v σ H2 hv⟨f,C,m,eG,aa,ac,D,ap,S,p,ad,B,I,t,v4,v5,rfl⟩;rw[ir]at hv;obtain⟨x,W,rfl⟩:=Option.map_eq_some_iff.mp hv;have hk:k<gs.length:=(d_.mp W).1;have X:=c8 W;have bc:x∉gs.take k:=λz=>by have:=a8;rw[<-q_ k gs,op]at this;exact this.2.2 x z x (il (by rw[Ri,Nat.add_zero];exact W)) rfl
   have bi:¬g9 (M.setL i {l with ins:=cK l.ins (gs.take k)}) f o:=λz=>(S z);obtain⟨y,hy,ey⟩:=CZ (a7 x (il W)) bc;have n:=uM (l':={l with ins:=cK l.ins (gs.take k)}) hl;have as:=m.seats i _ n;obtain⟨s,a2,J⟩:=as.find (yc hL.nd) y hy;rw[ey]at a2;refine au (i5 (by rw[<-eG];exact m.layer n) T.bW T.bT rfl rfl ⟨f.G (.iu i),rfl,.inl ⟨_,.inl (m.inside n)⟩,U rfl ⟨_,.inr x,_,m.inside n,rfl,a2,au ?_⟩⟩);have L:=m.setIns n (as.drop x);have im:=m.imm (r:=.iu i) (by simp only[cont,n];rfl) (cI (o':=.dK (dF (f.iv i) (.inr x))));have N:fU H2 _ f (aA H2 (f.G (.iu i)) (.dK (dF (f.iv i) (.inr x)))) ((M.setL i {l with ins:=cK l.ins (gs.take k)}).setL i {l with ins:=(cK l.ins (gs.take k)).filter λz=>decide (z.1≠x)}) {f with iv:=λj=>if j=i then dF (f.iv i) (.inr x)else f.iv j}:=fU.put (show i<_ from(d_.mp n).1) rfl (th ..) rfl rfl λx W=>.inl W;have a3:=cI (x:=f.G (.iu i)) (o':=.dK (dF (f.iv i) (.inr x))) _ _ ad λz=>by have e:=m.inside n;rw[<-z,ad]at e;cases e
   have al:=cI (x:=f.G (.iu i)) (o':=.dK (dF (f.iv i) (.inr x))) _ _ B λz=>by have e:=m.inside n;rw[<-z,B]at e;cases e
   rw[uL,<-sW,<-X]at N;have L:bB P w K a (aA H2 (f.G (.iu i)) (.dK (dF (f.iv i) (.inr x)))) (M.setL i {l with ins:=cK l.ins (gs.take (k+1))}) {f with iv:=λj=>if j=i then dF (f.iv i) (.inr x)else f.iv j}:=by rw[X,sW,<-uL (l:={l with ins:=cK l.ins (gs.take k)})];exact L
   have J:=im.kp.tq J;have t:∀u∈C,∃x1 y1 z1,aU K (aA H2 (f.G (.iu i)) (.dK (dF (f.iv i) (.inr x)))) u [.str x1,.str y1,.str z1]:=λu hu=>let⟨x1,y1,z1,h⟩:=t u hu;⟨x1,y1,z1,im.kp.tq h⟩;generalize aA H2 (f.G (.iu i)) (.dK (dF (f.iv i) (.inr x)))=H3 at L N a3 al J t⊢;refine U rfl ⟨.inl ⟨rfl,_,aW.of al⟩,U rfl ⟨ls rfl,λT1 a5=>(U rfl ⟨T1,s,[.str x],U rfl ⟨rfl,aU.of ae,aq.tseq (aj (aq.refl _) a5) J,by simp,by rw[k4];simp,λz=>(nomatch z),λ_ T2 bl=>?_⟩⟩)⟩⟩;have s5:=aj (o:=.tup ([.str x]++[.str y.2.1,.str y.2.2])) (aj (o:=.tup [.str x]) (aq.refl H3) a5) bl;have e5:aA (aA H3 T1 (.tup [.str x])) T2 (.tup ([.str x]++[.str y.2.1,.str y.2.2])) T2=some (.tup [.str x,.str y.2.1,.str y.2.2]):=ae;generalize aA (aA H3 T1 (.tup [.str x])) T2 (.tup ([.str x]++[.str y.2.1,.str y.2.2]))=H5 at s5 e5⊢;have a6:=s5 _ _ al;refine rA a6 (by rw[c_,I,k4];lia) ?_;have kp:Kp H5 (aA H5 o (.lst (C.map V.ref++[.ref T2]))):=.lst a6;have nF:¬g9 (M.setL i {l with ins:=cK l.ins (gs.take (k+1))}) {f with iv:=λj=>if j=i then dF (f.iv i) (.inr x)else f.iv j} o:=λz=>by
    rcases N.fp o z with q|q
    ·exact bi q
    ·rw[B]at q;cases q
   have kq:∀b ob,H5 b=some ob->b≠o->aA H5 o (.lst (C.map V.ref++[.ref T2])) b=some ob:=cI;refine⟨{f with iv:=λj=>if j=i then dF (f.iv i) (.inr x)else f.iv j},C++[T2],(L.same s5).out nF kp kq,eG,aa,ac,D,ap,nF,((p.trans N).trans (fU.of s5)).out ho,?_,?_,by rw[iA,I];rfl,λu hu=>?_,_,_,rfl⟩
   ·exact kq _ _ (s5 _ _ a3) λz=>by rw[z,ho]at hg;cases hg
   ·rw[ae,j1];rfl
   ·rcases RJ.mp hu with z|z
    ·obtain⟨x1,y1,z1,h⟩:=t u z;exact⟨x1,y1,z1,kp.tq (aq.tseq s5 h)⟩
    ·rw[List.mem_singleton.mp z];exact⟨_,_,_,kp.tq (aU.of e5)⟩
  ·rintro σ H2⟨f,C,m,eG,aa,ac,D,ap,S,p,ad,B,I,t,v4,v5,rfl⟩;rw[bb]at I m p;rw[mo (g_ _)]at m p;refine U rfl ⟨o,C,rfl,aW.of B,by lia,t,λr vs hr hp=>?_⟩;have s6:=aj (o:=.lst (vs.map V.ref)) (aq.refl H2) hr;refine q r (vs.map V.ref) f _ (p.trans (fU.of s6)) ⟨m.same s6,?_,λj=>by rw[aa];exact hZ.tk j,λj=>by rw[ac];exact hZ.ow j,by rw[D];exact hZ.ds⟩ (p.dm _ hr) ae D;refine hZ.ok.setL hl rfl (g_ _) {hL with len:=nh (tx _ _) hL.len,gs:=λx W=>hL.gs x (v1.mp W).1,nd:=yc hL.nd}
end
def Nb.kp(e:Kp H H')(h:Nb K H b W):Nb K H' b W:=Paired.mapP h λ_ _ q=>q.imp λ_ q=>q.imp λ_ q=>⟨q.1,e.tq q.2.1,jB e q.2.2⟩
def m6(x:Str)(arms:RS)(l:RX):Wl:=(arms.zip l).map λp=>(cu x p.1,p.2)
def Jd(h:l.length=arms.length):(m6 x arms l).length=arms.length:=by unfold m6;rw[c_,List.length_zip,h,Nat.min_self]
def FR{x:Str}{arms:RS}{l:RX}{i:Nat}{y:Str}{z:Int}(h1:arms[i]?=some y)(h2:l[i]?=some z):(m6 x arms l)[i]?=some (cu x y,z):=by unfold m6;rw[ir,List.getElem?_zip_eq_some (z:=(y,z))|>.mpr ⟨h1,h2⟩];rfl
theorem ux:∀{arms:RS}{l:RX},l.length=arms.length->(m6 x arms l).map (·.1)=arms.map (cu x)|[],_,_=>rfl|y::r,[],h=>nomatch h|y::r,z::l,h=>by show cu x y::(m6 x r l).map (·.1)=cu x y::r.map (cu x);rw[ux (by simpa using h)]
def pf(h:cu x y=cu z u):x=z/\y=u:=by have h:=ro h;rw[List.cons.injEq,List.cons.injEq]at h;exact⟨ro h.1,ro h.2.1⟩
def FP(h:l.length=arms.length)(hn:arms.Nodup):((m6 x arms l).map (·.1)).Nodup:=by rw[ux h,K_,List.pairwise_map];exact(K_.mp hn).imp λh e=>h (pf e).2
def FO(h:∀i∈l,0<=i):∀y∈m6 x arms l,0<=y.2:=λy b=>by obtain⟨p,c,rfl⟩:=mu.mp b;exact h _ (Qo c).2
def HN{S:AS}{j k:bN}{n:Nat}{q:Int}(h:q∈(S.give j n).pl k):q∈S.pl k:=by
 have h:q∈(if k=j then(S.pl j).take n else S.pl k):=h
 split at h
 ·rename_i e;rw[e];exact Ql h
 ·exact h
theorem mR:∀{W:Wl}{S:AS}{k:bN}{q:Int},q∈(bx S W).pl k->q∈S.pl k|[],_,_,_,h=>h|x::r,_,_,_,h=>HN (mR (W:=r) h)
theorem mj:∀{W:Wl}{S:AS}{k:bN}{q:Int},q∈(bX n S W).pl k->q∈S.pl k\/k∈W.map (·.1)
 |[],_,_,_,h=>.inl h|x::r,S,k,q,h=>by
  rcases mj (W:=r) h with h|h
  ·have h:q∈(if k=x.1 then S.pl x.1++_ else S.pl k):=h
   split at h
   ·rename_i e;exact .inr (by rw[no,e];exact kw)
   ·exact .inl h
  ·exact .inr (i_ _ h)
section
variable{P:RR}{w:World}{K:RM}{a:ke}{H d:Hp}{M:cg}{Z:ZS}{c:Nat}
theorem cY.told(h:cY P w K a H M Z c)(A:M.las[i]?=some l)(o:mU (Z.G (.od i)) (Z.G (.td i)) H d)(C:eC P w K a.bP d (Z.G (.tb i)) (Z.G (.od i)) (Z.G (.td i)) M.p f s L)(N:jS M.p v f L)(Q:wC (c5 K H) M.p v f)(I:fb H (Z.tk i) s)(b1:s.length<=(Z.tk i).length+10)(b2:f.length<=(Z.ow i).length+5000)(hok:v.Ok M.p)(own:∀k q,q∈v.pl k->(∃D,D∈l.S.pl k)\/k=cu "" ""\/∃t∈M.trs,t.home=l.nm/\∃y∈t.arms,k=cu t.nm y):∃B,cY P w K a d (M.setL i {l with S:=v}) B (c+1)/\fU H M Z d (M.setL i {l with S:=v}) B/\B.ds=Z.ds/\B.G=Z.G:=by
 have J:=h.ok.la l (il A);obtain⟨m,U,_⟩:=h.g.tab A;have len:(M.setL i {l with S:=v}).las.length=M.las.length:=th ..;refine⟨_,⟨h.g.told A o C N Q I,h.ok.setL A rfl (qc c) {J.mono (qc c)with ok:=hok,own:=λk q O=>?_},λj=>?_,λj=>?_,ry h.ds⟩,⟨rfl,λb ob e n=>?_,λb q=>?_,λb z=>pV o (by rw[C.own];simp) (by rw[C.tak];simp) z,rfl⟩,rfl,rfl⟩
 ·rcases own k q O with⟨D,h1⟩|h1
  ·exact J.own k D h1
  ·exact h1
 ·show(if j=i then s else Z.tk j).length<=_;have:=h.tk j
  split
  ·rename_i e;subst e;lia
  ·lia
 ·show(if j=i then f else Z.ow j).length<=_;have:=h.ow j
  split
  ·rename_i e;subst e;lia
  ·lia
 ·have hi:=(d_.mp A).1;exact o b ob e (λz=>n (.inl ⟨.od i,hi,z⟩)) (λz=>n (.inl ⟨.td i,hi,z⟩))
 ·rcases q with⟨r,R,e⟩|⟨j,E,x,u,e⟩|⟨x,u,e⟩
  ·exact .inl (.inl ⟨r,by rw[<-len];exact R,e⟩)
  ·rw[len]at E
   replace u:x∈(if j=i then s else Z.tk j):=u
   by_cases q:j=i
   ·rw[ku q]at u;subst q;rcases I x u with⟨y,T,F⟩|⟨V,F,hn⟩
    ·exact .inl (.inr (.inl ⟨j,E,y,T,by rw[F,e]⟩))
    ·rw[F]at e;cases e;exact .inr hn
   ·rw[j2 q]at u;exact .inl (.inr (.inl ⟨j,E,x,u,e⟩))
  ·exact .inl (.inr (.inr ⟨x,u,e⟩))
end
def bU.get(h:bU K H iv ins)(k:Nat)(x:b0×V)(e:iv[k]?=some x):∃y,ins[k]?=some y/\x.1=.inr y.1:=(Paired.at_ h k x e).imp λ_ q=>⟨q.1,q.2.1⟩
def bU.len(h:bU K H iv ins):iv.length=ins.length:=Paired.length h
def DN{z:Int}{l:RX}:qf (.int z) (l.map V.int)=decide (z∈l):=by
 by_cases h:z∈l
 ·rw[m_ h];unfold qf;rw[QR];exact⟨.int z,mu.mpr ⟨z,h,rfl⟩,by show(z==z)=true;exact x_ z⟩
 ·rw[nn h];unfold qf;rw[List.any_eq_false];intro v b e;obtain⟨y,c,rfl⟩:=mu.mp b;have e:(y==z)=true:=e;exact h (by rw[<-eq_of_beq e];exact c)
theorem oY:∀l:List Int,(l.map V.int).all og=true|[]=>rfl|w::r=>by rw[no,Qj,oY r];rfl
def E4(M:cg)(l:cG)(back:RX):List Str:=(l.ins.map (·.1)).filter λg=>decide (u0 M.p M.salt l.sl g∈back)
def lD(M:cg)(l:cG)(t:dh)(ns:RX):AS:=bX M.p (bx l.S (m6 t.nm t.arms ns)) (m6 t.nm t.arms ns)
def lE(M:cg)(i:Nat)(l:cG)(t:dh)(ns:RX):cg:=M.setL i {l with S:=lD M l t ns,ins:=cK l.ins (E4 M l (cy l.S (m6 t.nm t.arms ns)))}
inductive Jr(P:RR)(w:World)(K:RM)(a:ke)(vs:List V)(H:Hp)(Q:VK)(E:XK):Prop|mk(M:cg)(Z:ZS)(c i j:Nat)(l:cG)(t:dh)(nv:Addr)(ns:RX)(_:vs=[.ref (Z.G .hh),.str t.nm,.ref nv])(_:cY P w K a H M Z c)(_:c<=63)(_:M.trs[j]?=some t)(_:M.las[i]?=some l)(_:l.nm=t.home)(_:(aW K H nv (ns.map V.int)\/aU K H nv (ns.map V.int)))(_:ns.length=t.arms.length)(_:(∀x∈ns,0<=x))(_:(cJ l.S (m6 t.nm t.arms ns)<=((iE M.p l.S.oc).length:Int)->∀(r:Addr)(us:List V)(Z':ZS)(H':Hp),fU H M Z H' (lE M i l t ns) Z'->cY P w K a H' (lE M i l t ns) Z' (c+1)->H r=none->H' r=some (.lst us)->Z'.ds=Z.ds->Q (.ref r) H'))(_:(((iE M.p l.S.oc).length:Int)<cJ l.S (m6 t.nm t.arms ns)->∀H',aq H H'->E (.ref a.mV) none H'))
section
def gf(T:Txt K mg a):aS P w K mg base (Aa P w) 4 a.bI.x a.bI.d ["self","name","numbers"] (Jr P w K a):=by
 refine T.bI.okE c9 λec A outer s H vs Q E hr h=>?_
 ·obtain⟨M,Z,c,i,j,l,t,nv,ns,rfl,u,hc,hj,hl,hh,cC,ac,c0,q,qe⟩:=h;refine⟨_,(ah (bq 3 c9.nd (dP (ca hr) (aI K rfl (Y 0)) (Y 1) (λ_ _=>rfl))) (ah (qV (i:=4) c9.nd rfl (.inr rfl) (dP (ca hr) (aI K rfl (Y 0)) (aI K rfl (Y 3)) (λ_ _=>rfl))) (ah (qV (i:=5) c9.nd rfl (.inr rfl) (bj (aI K rfl (Y 4)) T.bh T.dX.m ((nY (P:=P) (w:=w) T).mono (by decide)) hr T.dX.b .nil iB (O (wB cQ ["arm","number"] [] [7,8] (ak dB) (vD _ 7 8) (Dx K rfl rfl T.Le (O (aI K rfl (Y 3)) (O (Y 2) ag))) (λcl C s₀ H₀ ex=>⟨(gb K rfl rfl (bF (nq cQ ["arm","number"] 7) (bF (nq cQ ["arm","number"] 8) ga))),bR,(bC (O (bC (O (Y 1) (O (Y 7) ag))) (O (Y 8) ag)))⟩)) ag))) (ah (Cj (P:=P) (w:=w) (C9 6 cQ ["guest"] [] [7] (ak dB) (bZ 7) (JY (P:=P) (w:=w) (aI K rfl (Y 4))) (λcl C s₀ H₀ ex=>⟨(nq cQ ["guest"] 7),(ui (aD (qY K rfl) (bj (Y 0) T.aE T.cb.m ((j5 (P:=P) (w:=w) T).mono (by decide)) hr T.cb.b .nil bo (O (Y 4) (O (Y 7) ag))) (Y 5) (by with_unfolding_all rfl))),(Y 7)⟩) c9.nd)) (ai (az (bj (Y 0) T.aE T.cz.m ((kS (P:=P) (w:=w) T).mono (by decide)) hr T.cz.b .nil bo (O (Y 4) (O (Y 6) ag))))))))),?_⟩
  have a8:=il hj;have hT:=u.ok.tr t a8;have hL:=u.ok.la l (il hl);have hI:=u.g.house;have ba:=u.g.trial hj;obtain⟨bb,-,-⟩:=u.g.trs j t hj;have bc:=u.ok.lget (Z:=Z) hl;rw[hh]at bc;refine i5 hI T.aE T.aQ rfl rfl (U rfl (rG (.ref (Z.G (.tr j))) (by rw[<-u.ok.tget (Z:=Z) hj];exact du.k (k:=.inr t.nm) u.g.tris) (au ?_)));refine i5 hI T.aE T.aY rfl rfl (i5 ba T.be T.iC rfl rfl (rG (.ref (Z.G (.lo i))) (by rw[<-bc];exact du.k (k:=.inr t.home) u.g.lays) (au ?_)));obtain⟨m,bi,ed⟩:=u.g.tab hl;obtain⟨ef,c1⟩:=bi.ins;refine i5 (u.g.layer hl) T.bW T.eJ rfl rfl (rM c1 rfl ?_);refine i5 ba T.be T.fq rfl rfl (U rfl ⟨Z.ar j,nv,t.arms.map V.str,ns.map V.int,rfl,bb,?_⟩);have c2:(m6 t.nm t.arms ns).length=t.arms.length:=Jd ac;have ei:=hT.a4;refine yk (K:=K) (a:=Z.ar j) (l:=nv) (xs:=t.arms.map V.str) (ys:=ns.map V.int) (λD k f H'=>aq H H'/\H' D=some (.lst f)/\Nb K H' f ((m6 t.nm t.arms ns).take k)) cC (λD hD=>⟨aj (aq.refl _) hD,ae,.nil⟩) (by rw[c_,c_,ac]) (λD k f H' h=>⟨aq.tseq h.1 bb,h.1⟩) ?_ ?_
  ·rintro D k x1 x2 f H2 T1 hD a3 bl⟨s2,a5,L⟩c3;have hi:k<(t.arms.map V.str).length:=(d_.mp a3).1;rw[ir]at a3 bl;obtain⟨ya,c4,rfl⟩:=Option.map_eq_some_iff.mp a3;obtain⟨z2,da,rfl⟩:=Option.map_eq_some_iff.mp bl;have s3:=aj (o:=.tup [V.str ya,V.int z2]) (aq.refl H2) c3;have ad:aA H2 T1 (.tup [V.str ya,V.int z2]) T1=some (.tup [V.str ya,V.int z2]):=ae;generalize aA H2 T1 (.tup [V.str ya,V.int z2])=J at s3 ad⊢;refine⟨T1,U rfl ⟨aU.of ad,rfl,_,U rfl (au ⟨_,U rfl (au ⟨rfl,iL (bH ?_)⟩)⟩)⟩⟩;refine U rfl (U rfl ⟨ls rfl,λB dc=>(U rfl ⟨ls rfl,λT5 bp=>?_⟩)⟩);have s5:=aj (o:=.tup [.ref B,.int z2]) (aj (o:=.tup [.str t.nm,.str ya]) s3 dc) bp;have e5:aA (aA J B (.tup [.str t.nm,.str ya])) T5 (.tup [.ref B,.int z2]) T5=some (.tup [.ref B,.int z2]):=ae;have e4:aA (aA J B (.tup [.str t.nm,.str ya])) T5 (.tup [.ref B,.int z2]) B=some (.tup [.str t.nm,.str ya]):=by rw[ao (aF ae bp)];exact ae
   have ej:f.length<=4:=by have:=Paired.length L;rw[m3]at this;lia
   show aA (aA J B (.tup [.str t.nm,.str ya])) T5 (.tup [.ref B,.int z2]) D=some (.lst f)/\_;generalize aA (aA J B (.tup [.str t.nm,.str ya])) T5 (.tup [.ref B,.int z2])=H5 at s5 e4 e5⊢;have N:=s5 _ _ a5;have kp:Kp H5 (aA H5 D (.lst (f++[.ref T5]))):=.lst N;refine⟨N,by rw[k4];lia,lf hi ⟨bu (s2.trans s5) hD,ae,?_⟩⟩;rw[c8 (FR c4 da)];exact Paired.snoc ((L.kp (.of s5)).kp kp) ⟨T5,.ref B,rfl,kp.tq (aU.of e5),B,rfl,kp.tq (aU.of e4)⟩
  ·rintro D f H2 hD⟨s2,a5,L⟩;rw[c_,mo (by exact Qd c2)]at L;have a6:=u.same s2;obtain⟨m2,a7,bt⟩:=a6.g.tab hl;have ek:=u.tk i;have el:=u.ow i;have hp:=u.ok.p;refine⟨Z.G (.tb i),Z.G (.od i),Z.G (.td i),D,M.p,Z.ow i,Z.tk i,m2,l.S,m6 t.nm t.arms ns,f,rfl,a7,bt,(a6.g.tabs i l hl).2.2.1,hL.ok,a5,L,FO c0,FP ac hT.nd,by lia,by lia,by lia,by lia,λdi lb en eo m' J off ad dt dv eq R nw nl b1 b2=>au ?_,λdT J s3=>qe dT J (s2.trans s3)⟩;obtain⟨Z3,v,dV,d1,eG⟩:=a6.told hl off ad dt dv nw b1 b2 (lz _ (gN _ hL.ok)) λk x hx=>by
    rcases mj hx with h|h
    ·exact .inl ⟨x,mR h⟩
    ·rw[ux ac]at h;obtain⟨y,hy,rfl⟩:=mu.mp h;exact .inr (.inr ⟨t,a8,hh.symm,y,hy,rfl⟩)
   have an:=uM (l':={l with S:=lD M l t ns}) hl;have v:cY P w K a J (M.setL i {l with S:=lD M l t ns}) Z3 (c+1):=v;have bz:=v.g.seats i _ an;have W:=v.g.layer an;have F:=v.g.house;have I:=v.g.inside an;rw[eG]at F W I;refine i5 W T.bW T.bT rfl rfl ⟨Z.G (.iu i),U rfl ⟨I,λep=>λDg ap=>?_⟩⟩;have nd:Z.G (.iu i)≠Dg:=λz=>by rw[<-z,ae]at ap;cases ap
   have a2:J Dg=none:=by rw[ao (ol nd)]at ap;exact ap
   have d2:(l.ins.map (·.1)).length=(Z3.iv i).length:=by rw[c_];exact bz.len.symm
   have er:=hL.len;refine zL (n:=(Z3.iv i).length) (λk f H2=>(∀b o,J b=some o->b≠Z.G (.iu i)->H2 b=some o)/\H2 (Z.G (.iu i))=some (dE P w (Z.G (.iu i)) (Z3.iv i) ep)/\H2 Dg=some (.lst f)/\f=(((l.ins.map (·.1)).take k).filter λg=>decide (u0 M.p M.salt l.sl g∈cy l.S (m6 t.nm t.arms ns))).map V.str) ⟨λb o e n=>by rw[ao (aF e a2),ao n];exact e,by rw[ao nd,ae],ae,rfl⟩ (λk f H2 hk h=>⟨h.2.1,hk⟩) ?_ ?_
   ·rintro k f H4 x H5 hk⟨f4,X,aa,rfl⟩⟨rfl,hx⟩;obtain⟨p0,d3,rfl⟩:=Option.map_eq_some_iff.mp hx;obtain⟨y,hy,ey⟩:=bz.get k p0 d3;have d4:=hL.gs y (il hy);rw[ey];have bJ:Z.G .hh≠Z.G (.iu i):=λz=>by rw[z,I]at F;cases F
    have d5:Z.G (.lo i)≠Z.G (.iu i):=λz=>by rw[z,I]at W;cases W
    have ea:lb≠Z.G (.iu i):=λz=>by rw[z,I]at R;cases R
    have hsl:=hL.sl;refine au (pq (f4 _ _ F bJ) rfl rfl (U rfl (U rfl ⟨Z.G .hh,Z.G (.lo i),_,_,_,_,M.p,M.salt,l.sl,y.1,rfl,f4 _ _ F bJ,rfl,rfl,f4 _ _ W d5,rfl,d4,⟨by lia,by lia⟩,⟨by exact hsl.1,by lia⟩,λH6 s6=>?_⟩)));refine U rfl ⟨lb,U rfl ⟨.inl (aW.of (s6 _ _ (f4 _ _ R ea))),rfl,oY _,U rfl ?_⟩⟩;have bP:(l.ins.map (·.1)).take (k+1)=(l.ins.map (·.1)).take k++[y.1]:=c8 (by rw[ir,hy];rfl);have al:((((l.ins.map (·.1)).take k).filter λg=>decide (u0 M.p M.salt l.sl g∈cy l.S (m6 t.nm t.arms ns))).map V.str).length<=63:=by rw[c_];refine nh (tx _ _) ?_;rw[m3,c_];lia
    show if(if false=true then _ else qf (.int (u0 M.p M.salt l.sl y.1)) _)=true then _ else _
    rw[j2 l_,DN];have f6:∀b o,J b=some o->b≠Z.G (.iu i)->H6 b=some o:=λb o e n=>s6 _ _ (f4 b o e n)
    by_cases as:u0 M.p M.salt l.sl y.1∈cy l.S (m6 t.nm t.arms ns)
    ·rw[m_ as];refine bH (U rfl ⟨s6 _ _ aa,by rw[k4];lia,lf hk ⟨λb o e n=>by rw[ao (aF e a2)];exact f6 b o e n,by rw[ao nd];exact s6 _ _ X,ae,?_⟩⟩);rw[bP,Qy,j1,List.filter_cons_of_pos (by simpa using as)];rfl
    ·rw[nn as];refine cj (lf hk ⟨f6,s6 _ _ X,by rw[s6 _ _ aa],?_⟩);rw[bP,Qy,j1,List.filter_cons_of_neg (by simpa using as)];exact(v_ _).symm
   ·rintro f H4⟨f4,X,aa,rfl⟩;refine⟨⟨X,g_ _⟩,au ⟨Z.G (.iu i),_,ep,X,?_⟩⟩;rw[mo (by exact Qd d2)]at aa;have s4:aq J (aA H4 (Z.G (.iu i)) (.dK (Z3.iv i))):=λb o e=>by
     by_cases z:b=Z.G (.iu i)
     ·rw[z,I]at e;rw[z,ae];exact e
     ·rw[ao z];exact f4 b o e z
    have N:aA H4 (Z.G (.iu i)) (.dK (Z3.iv i)) Dg=some (.lst ((E4 M l (cy l.S (m6 t.nm t.arms ns))).map V.str)):=by rw[ao (ol nd)];exact aa
    generalize aA H4 (Z.G (.iu i)) (.dK (Z3.iv i))=H5 at s4 N⊢;refine pq (s4 _ _ F) rfl rfl (U rfl (U rfl ⟨M.setL i {l with S:=lD M l t ns},Z3,c+1,i,_,Dg,E4 M l (cy l.S (m6 t.nm t.arms ns)),by rw[eG];rfl,v.same s4,an,N,λx hx=>(v1.mp hx).1,List.filter_sublist.nodup hL.nd,?_,λr us Z6 H6 b8 b9 hr eb cc=>?_⟩))
    ·refine nh (tx _ _) ?_;rw[c_];lia
    ·rw[uL]at b8 b9;have ci:fU H M Z H5 (M.setL i {l with S:=lD M l t ns}) Z3:=((fU.of s2).trans dV).trans (fU.of s4);exact q di r us Z6 H6 (ci.trans b8) b9 (ci.dm _ hr) eb (cc.trans d1)
end
abbrev cg.setT(M:cg)(j:Nat)(t:dh):cg:={M with trs:=M.trs.set j t}
def kL{M:cg}{i:Nat}{t t':dh}(b:M.trs[i]?=some t):(M.setT i t').trs[i]?=some t':=by show(M.trs.set i t')[i]?=_;rw[w_ (d_.mp b).1]
section
variable{P:RR}{w:World}{K:RM}{a:ke}{H b:Hp}{M:cg}{Z:ZS}{c:Nat}
theorem lY.setT(h:lY M c){j:Nat}{t d:dh}(g:M.trs[j]?=some t)(h1:d.nm=t.nm)(h2:d.home=t.home)(h3:d.arms=t.arms)(h4:d.rule=t.rule)(h5:d.shuts=t.shuts)(p:d.bar.length<=c):lY (M.setT j d) c:=by
 have r:(M.trs.set j d).map dh.nm=M.trs.map dh.nm:=dD g dh.nm h1;refine{h with tn:=by rw[r];exact h.tn,la:=λl s=>?_,tr:=λx f=>?_,tc:=by show(M.trs.set j d).length<=10;rw[th];exact h.tc,br:=λx f=>?_}
 ·have q:=h.la l s;refine{q with own:=λk z u=>?_};rcases q.own k z u with e|⟨x,f,m,y,n,o⟩
  ·exact .inl e
  ·obtain⟨i,hi⟩:=j_.mp f
   by_cases e:i=j
   ·subst e;rw[g]at hi;cases hi;exact .inr ⟨d,il (kL g),by rw[h2];exact m,y,by rw[h3];exact n,by rw[h1];exact o⟩
   ·exact .inr ⟨x,il (i:=i) (by rw[qr λz=>e z.symm];exact hi),m,y,n,o⟩
 ·rcases P2 f with q|rfl
  ·exact{h.tr x q with}
  ·have q:=h.tr t (il g);exact⟨by rw[h1];exact q.wd,by rw[h2];exact q.hm,by rw[h3];exact q.a1,by rw[h3];exact q.a4,by rw[h3];exact q.nd,by rw[h3];exact q.aw,by rw[h4];exact q.hg,by rw[h5];exact q.s8⟩
 ·rcases P2 f with q|rfl
  ·exact h.br x q
  ·exact p
theorem cY.setTr(h:cY P w K a H M Z c)(d:M.trs[j]?=some t)(h1:t'.nm=t.nm)(h0:t'.home=t.home)(h2:t'.arms=t.arms)(h3:t'.rule=t.rule)(h4:t'.shuts=t.shuts)(f:t'.bar.length<=c)(e:(r0=.tr j/\t'.bar=t.bar)\/(r0=.ba j/\t'.home=t.home/\t'.pau=t.pau/\t'.clo=t.clo))(i:cont P w a (M.setT j t') Z r0=some o'):cY P w K a (aA H (Z.G r0) o') (M.setT j t') Z c/\fU H M Z (aA H (Z.G r0) o') (M.setT j t') Z:=by refine⟨⟨h.g.setTr d h1 h2 h3 h4 e i,h.ok.setT d h1 h0 h2 h3 h4 f,h.tk,h.ow,h.ds⟩,fU.put ?_ rfl rfl (th ..) rfl λx k=>.inl k⟩;have hi:=(d_.mp d).1;rcases e with⟨rfl,_⟩|⟨rfl,_⟩<;>exact hi
end
theorem xV{S:AS}:∀{W:Wl},(∀x∈W,x.2=0)->cJ S W<=0|[],_=>Qa _|x::r,h=>by rw[jz,h x kw];have:=xV (S:=S) (W:=r) λy b=>h y (i_ _ b);lia
def iD:bN:=cu "" ""
def HG(M:cg)(i:Nat)(l:cG)(z:Int):cg:=M.setL i {l with S:=bX M.p (bx l.S [(iD,z)]) [(iD,z)]}
def nQ(t:dh):List Int:=List.replicate t.arms.length 0
inductive LY(P:RR)(w:World)(K:RM)(a:ke)(vs:List V)(H:Hp)(Q:VK)(E:XK):Prop|mk(M:cg)(Z:ZS)(c i:Nat)(l:cG)(z:Int)(_:vs=[.ref (Z.G .hh),.str l.nm,.int z])(_:cY P w K a H M Z c)(_:c<=63)(_:M.las[i]?=some l)(_:0<=z)(_:(cJ l.S [(iD,z)]<=((iE M.p l.S.oc).length:Int)->∀(r:Addr)(Z':ZS)(H':Hp),fU H M Z H' (HG M i l z) Z'->cY P w K a H' (HG M i l z) Z' (c+1)->H r=none->H' r=some (.lst [])->Z'.ds=Z.ds->Q (.ref r) H'))(_:(((iE M.p l.S.oc).length:Int)<cJ l.S [(iD,z)]->∀H',aq H H'->E (.ref a.mV) none H'))
inductive Jw(P:RR)(w:World)(K:RM)(a:ke)(vs:List V)(H:Hp)(Q:VK)(E:XK):Prop|mk(M:cg)(Z:ZS)(c j:Nat)(t:dh)(b:Bool)(_:vs=[.ref (Z.G .hh),.str t.nm,.bl b])(_:cY P w K a H M Z c)(_:M.trs[j]?=some t)(_:∀(r:Addr)(H':Hp),fU H M Z H' (M.setT j {t with pau:=b}) Z->cY P w K a H' (M.setT j {t with pau:=b}) Z c->H r=none->H' r=some (.lst [])->Q (.ref r) H')
inductive JG(P:RR)(w:World)(K:RM)(a:ke)(vs:List V)(H:Hp)(Q:VK)(E:XK):Prop|mk(M:cg)(Z:ZS)(c i j:Nat)(l:cG)(t:dh)(_:vs=[.ref (Z.G .hh),.str t.nm])(_:cY P w K a H M Z c)(_:c<=63)(_:M.trs[j]?=some t)(_:M.las[i]?=some l)(_:l.nm=t.home)(_:∀(r:Addr)(us:List V)(Z':ZS)(H':Hp),fU H M Z H' (lE (M.setT j {t with clo:=true}) i l {t with clo:=true} (nQ t)) Z'->cY P w K a H' (lE (M.setT j {t with clo:=true}) i l {t with clo:=true} (nQ t)) Z' (c+1)->H r=none->H' r=some (.lst us)->Z'.ds=Z.ds->Q (.ref r) H')
section
def q9(T:Txt K mg a):aS P w K mg base (Aa P w) 4 a.dq.x a.dq.d ["self","name","number"] (LY P w K a):=by
 refine T.dq.okE qQ λap A outer s H vs Q E u h=>?_
 ·obtain⟨M,Z,c,i,l,z,rfl,f,hc,j,hz,q,qe⟩:=h;refine⟨_,(ah (aR (bj (aI K rfl (dP (ca u) (aI K rfl (Y 0)) (Y 1) (λ_ _=>rfl))) T.bh T.dX.m ((nY (P:=P) (w:=w) T).mono (by decide)) u T.dX.b .nil iB (O (bA (O (bC (O (cA (v:=.ref a.wc) ⟨_,T.Hk,rfl⟩ rfl) (O (Y 2) ag))) ag)) ag))) (ai (az (bA ag)))),?_⟩
  have hL:=f.ok.la l (il j);obtain⟨m,y,as⟩:=f.g.tab j;obtain⟨a2,I⟩:=y.ins;refine i5 f.g.house T.aE T.aY rfl rfl (U rfl (rG (.ref (Z.G (.lo i))) (by rw[<-f.ok.lget (Z:=Z) j];exact du.k (k:=.inr l.nm) f.g.lays) ?_));refine rF (f.g.layer j) T.bW T.eJ rfl (rM I rfl ?_);refine U rfl ⟨ls rfl,λe J=>⟨ls rfl,λD hD=>?_⟩⟩;have F:=aj (o:=.lst [.ref e]) (aj (o:=.tup [.ref a.wc,.int z]) (aq.refl H) J) hD;have e5:aA (aA H e (.tup [.ref a.wc,.int z])) D (.lst [.ref e]) D=some (.lst [.ref e]):=ae;have e4:aA (aA H e (.tup [.ref a.wc,.int z])) D (.lst [.ref e]) e=some (.tup [.ref a.wc,.int z]):=by rw[ao (aF ae hD)];exact ae
  generalize aA (aA H e (.tup [.ref a.wc,.int z])) D (.lst [.ref e])=H2 at F e4 e5⊢;have n:=f.same F;obtain⟨m2,t,B⟩:=n.g.tab j;have a3:=f.tk i;have a5:=f.ow i;have hp:=f.ok.p;refine⟨Z.G (.tb i),Z.G (.od i),Z.G (.td i),D,M.p,Z.ow i,Z.tk i,m2,l.S,[(iD,z)],[.ref e],rfl,t,B,(n.g.tabs i l j).2.2.1,hL.ok,e5,.cons ⟨e,.ref a.wc,rfl,aU.of e4,a.wc,rfl,T.DK.sq _⟩ .nil,λx L=>by rw[List.mem_singleton.mp L];exact hz,by simp,by simp,by lia,by lia,by lia,λN lb a6 a7 m' R off V W X a8 an nw nl b1 b2=>?_,λaa R s3=>qe aa R (F.trans s3)⟩;obtain⟨Z3,ac,ad,al,eG⟩:=n.told j off V W X nw b1 b2 (lz _ (gN _ hL.ok)) λk x L=>by
   rcases mj L with h|h
   ·exact .inl ⟨x,mR h⟩
   ·exact .inr (.inl (List.mem_singleton.mp h))
  refine⟨ls rfl,λr u=>?_⟩;have s4:=aj (o:=.lst []) (aq.refl R) u;have C:=(fU.of F).trans ad;exact q N r Z3 _ (C.trans (fU.of s4)) (ac.same s4) (C.dm _ u) ae al
def j6(T:Txt K mg a):aS P w K mg base dw 1 a.ce.x a.ce.d ["self","name","paused"] (Jw P w K a):=by
 refine T.ce.ok jY λu A outer s H v Q E l h=>?_
 ·obtain⟨M,Z,c,j,t,b,rfl,e,f,q⟩:=h;refine⟨_,(ah (bq 3 jY.nd (dP (ca l) (aI K rfl (Y 0)) (Y 1) (λ_ _=>rfl))) (ah (cx K rfl (Y 3) (Y 2)) (ai (az (bA ag))))),?_⟩
  have m:=e.g.trial f;refine i5 e.g.house T.aE T.aQ rfl rfl (U rfl (rG (.ref (Z.G (.tr j))) (by rw[<-e.ok.tget (Z:=Z) f];exact du.k (k:=.inr t.nm) e.g.tris) (au ?_)));refine U rfl (U rfl ⟨Z.G (.tr j),_,_,U rfl ⟨m,T.be,T.iQ,by simp,?_⟩⟩);obtain⟨n,i⟩:=e.setTr (t':={t with pau:=b}) (r0:=.tr j) f rfl rfl rfl rfl rfl (e.ok.br t (il f)) (.inl ⟨rfl,rfl⟩) (by simp only[cont,kL f];rfl);refine⟨ls rfl,λr l=>?_⟩;have p:=aj (o:=.lst []) (aq.refl _) l;exact q r _ (i.trans (fU.of p)) (n.same p) (i.dm _ l) ae
def pU(T:Txt K mg a):aS P w K mg base (Aa P w) 5 a.cX.x a.cX.d ["self","name"] (JG P w K a):=by
 refine T.cX.okE jZ λap A outer s H vs Q E z h=>?_
 ·obtain⟨M,Z,c,i,j,l,t,rfl,f,hc,n,hl,hh,q⟩:=h;refine⟨_,(ah (bq 2 jZ.nd (dP (ca z) (aI K rfl (Y 0)) (Y 1) (λ_ _=>rfl))) (ah (cx K rfl (Y 2) iG) (ai (az (bj (Y 0) T.aE T.bI.m ((gf (P:=P) (w:=w) T).mono (by decide)) z T.bI.b .nil iB (O (Y 1) (O (av GR (bA (O af ag)) (ax (aH K rfl) (by rfl) T.bD L2.aJ (O (aI K rfl (Y 2)) ag))) ag))))))),?_⟩
  have B:=f.g.trial n;refine i5 f.g.house T.aE T.aQ rfl rfl (U rfl (rG (.ref (Z.G (.tr j))) (by rw[<-f.ok.tget (Z:=Z) n];exact du.k (k:=.inr t.nm) f.g.tris) (au ?_)));refine U rfl ⟨Z.G (.tr j),_,_,U rfl ⟨B,T.be,T.ee,by simp,?_⟩⟩;have u:=kL (t':={t with clo:=true}) n;obtain⟨e,C⟩:=f.setTr (t':={t with clo:=true}) (r0:=.tr j) n rfl rfl rfl rfl rfl (f.ok.br t (il n)) (.inl ⟨rfl,rfl⟩) (by simp only[cont,kL n];rfl);have D:=e.g.house;have F:=e.g.trial u;obtain⟨v,-,-⟩:=e.g.trs j _ u;refine pq D rfl rfl (U rfl ⟨ls rfl,λI J=>?_⟩);have L:=aj (o:=.lst [.int 0]) (aq.refl _) J;have e2:aA (aA H (Z.G (.tr j)) (.ins a.fw (Z.dx (.tr j)) [("home",.str t.home),("arms",.ref (Z.ar j)),("rule",Z.ru j),("shuts",.ref (Z.sh j)),("paused",.bl t.pau),("closed",.bl true),("barred",.ref (Z.G (.ba j)))])) I (.lst [.int 0]) I=some (.lst [.int 0]):=ae;refine i5 (L _ _ F) T.be T.fq rfl rfl ⟨_,t.arms.length,rfl,.inr ⟨_,aq.tseq L v,by simp⟩,I,_,U rfl ⟨rfl,e2,by lia,by have:=(f.ok.tr t (il n)).a4;lia,de (by have:=(f.ok.tr t (il n)).a4;simp;lia),λg hg=>?_⟩⟩;have N:=aj (o:=.lst (List.replicate (t.arms.length:Int).toNat [V.int 0]).flatten) L hg;have e0:(List.replicate (t.arms.length:Int).toNat [V.int 0]).flatten=(nQ t).map V.int:=by
   unfold nQ;rw[qx,List.map_replicate];generalize t.arms.length=j
   induction j with|zero=>rfl|succ j ih=>rw[sf,H_,ih,sf];rfl
  rw[e0]at N⊢;have R:∀x∈m6 t.nm t.arms (nQ t),x.2=0:=λx W=>by obtain⟨p,hp,rfl⟩:=mu.mp W;exact QH (Qo hp).2
  have X:=xV (S:=l.S) R;refine⟨M.setT j {t with clo:=true},Z,c,i,j,l,{t with clo:=true},g,nQ t,rfl,e.same N,hc,u,hl,hh,.inl (aW.of ae),zz,λx W=>by rw[QH W];exact Qa _,λas r us Z' H4 aa ac z ad al=>?_,λan=>absurd X (by show¬cJ l.S (m6 t.nm t.arms (nQ t))<=0;have:cJ l.S (m6 t.nm t.arms (nQ t))>_:=an;lia)⟩;have y:=C.trans (fU.of N);exact q r us Z' H4 (y.trans aa) ac (y.dm _ z) ad al
end
def gn(bs:RS)(g:Str):List Str:=if g∈bs then bs else bs++[g]
def GI(bs:RS)(g:Str):dO (bs.map λg=>((.inr g:b0),V.bl true)) (.inr g) (.bl true)=(gn bs g).map λg=>((.inr g:b0),V.bl true):=by
 unfold gn
 by_cases h:g∈bs
 ·rw[ku h];unfold dO;rw[ku (by rw[List.any_map,QR];exact⟨g,h,by simp⟩),w1];refine wh λx _=>?_;show(if((.inr x:b0))=.inr g then((.inr x:b0),V.bl true)else _)=_
  split<;>rfl
 ·rw[j2 h,pM,j1]
  ·rfl
  ·have:∀cs:List Str,g∉cs->a0 (cs.map λg=>((.inr g:b0),V.bl true)) (.inr g)=none:=by
    intro cs
    induction cs with|nil=>intro _;rfl|cons x r b=>intro hn;rw[no,bK λe=>hn (by rw[<-ro e];exact kw)];exact b λz=>hn (i_ _ z)
   exact this bs h
theorem G0:∀{l:List d},(l.map f).Nodup->∀x∈l,∀y∈l,f x=f y->x=y
 |[],_,x,b,_,_,_=>nomatch b|z::r,h,x,b,y,c,e=>by
  rw[no,Q3]at h;rcases ov.mp b with q|q<;>rcases ov.mp c with p|p
  ·rw[q,p]
  ·exact absurd (mu.mpr ⟨y,p,by rw[<-e,q]⟩) h.1
  ·exact absurd (mu.mpr ⟨x,q,by rw[e,p]⟩) h.1
  ·exact G0 h.2 x q y p e
def yu(l:cG)(t:dh)(g:Str):List Str:=if∃x∈l.ins,x.1=g/\x.2.1=t.nm then[g]else[]
def Dj(M:cg)(i j:Nat)(l:cG)(t:dh)(g:Str):cg:=(M.setT j {t with bar:=gn t.bar g}).setL i {l with ins:=cK l.ins (yu l t g)}
inductive N9(P:RR)(w:World)(K:RM)(a:ke)(vs:List V)(H:Hp)(Q:VK)(E:XK):Prop|mk(M:cg)(Z:ZS)(c i j:Nat)(l:cG)(t:dh)(g:Str)(_:vs=[.ref (Z.G .hh),.str g,.str t.nm])(_:cY P w K a H M Z c)(_:c<=63)(_:M.trs[j]?=some t)(_:M.las[i]?=some l)(_:l.nm=t.home)(_:BY g)(_:∀(r:Addr)(us:List V)(Z':ZS)(H':Hp),fU H M Z H' (Dj M i j l t g) Z'->cY P w K a H' (Dj M i j l t g) Z' (c+1)->H r=none->H' r=some (.lst us)->Z'.ds=Z.ds->Q (.ref r) H')
section
def tY(T:Txt K mg a):aS P w K mg base dw 2 a.d7.x a.d7.d ["self","guest","name"] (N9 P w K a):=by
 refine T.d7.ok iM λa2 A outer s H vs Q E n h=>?_
 ·obtain⟨M,Z,c,i,j,l,t,g,rfl,p,hc,B,C,hh,hg,q⟩:=h;refine⟨_,(ah (bq 3 iM.nd (dP (ca n) (aI K rfl (Y 0)) (Y 2) (λ_ _=>rfl))) (ah (bq 4 iM.nd (dP (ca n) (aI K rfl (Y 0)) (aI K rfl (Y 3)) (λ_ _=>rfl))) (ah (jt iG (kx (aI K rfl (Y 3)) (Y 1) (oE (ca n)))) (ah (aK (PW.pt (mG (lT (u7 (ca n) (Y 1) (aI K rfl (Y 4))) rfl) (j0 (aD aT (cN K (dP (ca n) (aI K rfl (Y 4)) (Y 1) (λ_ _=>rfl)) af) (Y 2) (aG _))))) (ai (az (bj (Y 0) T.aE T.cz.m ((kS (P:=P) (w:=w) T).mono (by decide)) n T.cz.b .nil bo (O (Y 4) (O (bA (O (Y 1) ag)) ag))))) aB) (ai (az (bA ag))))))),?_⟩
  have ac:=il B;have hL:=p.ok.la l (il C);have D:=p.g.trial B;have F:=p.ok.lget (Z:=Z) C;rw[hh]at F;refine i5 p.g.house T.aE T.aQ rfl rfl (U rfl (rG (.ref (Z.G (.tr j))) (by rw[<-p.ok.tget (Z:=Z) B];exact du.k (k:=.inr t.nm) p.g.tris) (au ?_)));refine i5 p.g.house T.aE T.aY rfl rfl (i5 D T.be T.iC rfl rfl (rG (.ref (Z.G (.lo i))) (by rw[<-F];exact du.k (k:=.inr t.home) p.g.lays) (au ?_)));have I:=p.ok.br t ac;refine i5 D T.be T.iR rfl rfl (U rfl ⟨Z.G (.ba j),_,.inr g,rfl,rfl,p.g.barred B,by rw[c_,k4];lia,?_⟩);rw[GI];have a3:=kL (t':={t with bar:=gn t.bar g}) B;obtain⟨f,v⟩:=(p.mono (qc c)).setTr (t':={t with bar:=gn t.bar g}) (r0:=.ba j) (o':=.dK ((gn t.bar g).map λg=>((.inr g:b0),V.bl true))) B rfl rfl rfl rfl rfl (by show(gn t.bar g).length<=c+1;unfold gn;split;exact ry I;rw[iA];exact B_ I) (.inr ⟨rfl,rfl,rfl,rfl⟩) (by simp only[cont,kL B];rfl);generalize aA H (Z.G (.ba j)) (.dK ((gn t.bar g).map λg=>((.inr g:b0),V.bl true)))=H1 at f v⊢;have J:=f.g.layer C;have L:=f.g.inside C;have N:=f.g.seats i l C;refine U rfl (i5 J T.bW T.bT rfl rfl (rG (a0 (Z.iv i) (.inr g)) (du.k (k:=.inr g) L) (U rfl ?_)));have u:yu l t g=[]->∀r,H1 r=none->Q (.ref r) (aA H1 r (.lst [])):=λe r n=>by
   have R:=aj (o:=.lst []) (aq.refl _) n;have em:Dj M i j l t g=M.setT j {t with bar:=gn t.bar g}:=by unfold Dj;rw[e,jC];exact ni (M:=M.setT j {t with bar:=gn t.bar g}) C
   exact q r [] Z _ (em▸v.trans (fU.of R)) (em▸f.same R) (v.dm _ n) ae rfl
  by_cases z:g∈l.ins.map (·.1)
  ·obtain⟨x,hx,ex⟩:=mu.mp z;obtain⟨s,hv,ad⟩:=N.find hL.nd x hx;rw[ex]at hv;rw[hv];refine bH (i5 J T.bW T.bT rfl rfl (U rfl (rG (.ref s) (by rw[<-hv];exact du.k (k:=.inr g) L) (rX ad (am (k:=0) rfl) (U rfl ⟨rfl,U rfl ?_⟩)))))
   by_cases hq:x.2.1=t.nm
   ·have S:yu l t g=[g]:=ku ⟨x,hx,ex,hq⟩;rw[hq];refine bQ (pq f.g.house rfl rfl (U rfl (U rfl ⟨ls rfl,λDg al=>?_⟩)));have R:=aj (o:=.lst [.str g]) (aq.refl _) al;refine⟨M.setT j {t with bar:=gn t.bar g},Z,c+1,i,l,Dg,[g],rfl,f.same R,C,ae,λy W=>by rw[List.mem_singleton.mp W];exact z,by simp,by simp,λr us Z6 H6 an ap n as X=>?_⟩;have em:Dj M i j l t g=(M.setT j {t with bar:=gn t.bar g}).setL i {l with ins:=cK l.ins [g]}:=by unfold Dj;rw[S]
    have aa:=v.trans (fU.of R);exact q r us Z6 H6 (em▸aa.trans an) (em▸ap) (aa.dm _ n) as X
   ·have S:yu l t g=[]:=j2 λ⟨y,W,e1,e2⟩=>hq (by rw[<-G0 hL.nd y W x hx (e1.trans ex.symm)];exact e2)
    refine jT hq ⟨ls rfl,u S⟩
  ·have S:yu l t g=[]:=j2 λ⟨y,W,e1,e2⟩=>z (mu.mpr ⟨y,W,e1⟩);rw[N.none z];exact cj ⟨ls rfl,u S⟩
end
def zV(M:cg)(nm:Str)(sl:Int):cg:={M with las:=M.las++[⟨nm,sl,AS.new,[]⟩]}
def zU(M:cg)(t:dh):cg:={M with trs:=M.trs++[t]}
section
variable{P:RR}{w:World}{K:RM}{a:ke}{H b:Hp}{M:cg}{Z:ZS}{c:Nat}
def lY.addL(h:lY M c){nm:Str}{sl:Int}(g:Wd nm)(hn:nm∉M.las.map cG.nm)(i:0<=sl/\sl<=M.p)(h4:M.las.length<4):lY (zV M nm sl) c:=by
 have em:(M.las++[(⟨nm,sl,AS.new,[]⟩:cG)]).map cG.nm=M.las.map cG.nm++[nm]:=by rw[j1];rfl
 refine{h with ln:=?_,la:=λl j=>?_,tr:=λt f=>{h.tr t f with hm:=?_},l4:=by show(M.las++[_]).length<=4;rw[iA];exact h4}
 ·show((M.las++[(⟨nm,sl,AS.new,[]⟩:cG)]).map cG.nm).Nodup;rw[em,op];exact⟨h.ln,by simp,λx d y m e=>hn (by rw[<-List.mem_singleton.mp m,<-e];exact d)⟩
 ·rcases RJ.mp j with q|q
  ·exact{h.la l q with}
  ·rw[List.mem_singleton.mp q];exact⟨g,i,AS.new_ok _,ng _,λx d=>(nomatch d),Qx,λk q n=>(nomatch n)⟩
 ·show t.home∈(M.las++[(⟨nm,sl,AS.new,[]⟩:cG)]).map cG.nm;rw[em];exact t2 _ (h.tr t f).hm
def lY.addT(h:lY M c){t:dh}(ok:KZ M t)(hn:t.nm∉M.trs.map dh.nm)(h4:M.trs.length<10)(f:t.bar=[]):lY (zU M t) c:=by
 refine{h with tn:=?_,la:=λl g=>?_,tr:=λx d=>?_,tc:=by show(M.trs++[_]).length<=10;rw[iA];exact h4,br:=λx d=>?_}
 ·show((M.trs++[t]).map dh.nm).Nodup;rw[j1,op];exact⟨h.tn,by simp,λx d y i e=>hn (by rw[<-show y=t.nm from List.mem_singleton.mp i,<-e];exact d)⟩
 ·have q:=h.la l g;refine{q with own:=λk z j=>?_};rcases q.own k z j with e|⟨x,d,e⟩
  ·exact .inl e
  ·exact .inr ⟨x,t2 _ d,e⟩
 ·rcases RJ.mp d with q|q
  ·exact{h.tr x q with}
  ·rw[List.mem_singleton.mp q];exact{ok with}
 ·rcases RJ.mp d with q|q
  ·exact h.br x q
  ·rw[List.mem_singleton.mp q,f];exact ng _
end
inductive Ep(P:RR)(w:World)(K:RM)(a:ke)(vs:List V)(H:Hp)(Q:VK)(E:XK):Prop|mk(M:cg)(Z:ZS)(c:Nat)(nm:Str)(sl:Int)(_:vs=[.ref (Z.G .hh),.str nm,.int sl])(_:cY P w K a H M Z c)(_:Wd nm)(_:nm∉M.las.map cG.nm)(_:(0<=sl/\sl<=M.p))(_:M.las.length<4)(_:∀(r:Addr)(Z':ZS)(H':Hp),fU H M Z H' (zV M nm sl) Z'->cY P w K a H' (zV M nm sl) Z' c->H r=none->H' r=some (.lst [])->Z'.ds=Z.ds->Q (.ref r) H')
inductive Eo(P:RR)(w:World)(K:RM)(a:ke)(vs:List V)(H:Hp)(Q:VK)(E:XK):Prop|mk(M:cg)(Z:ZS)(c:Nat)(H0:Hp)(t ba dx ar sh:Addr)(ru:V)(x:dh)(_:vs=[.ref (Z.G .hh),.str x.nm,.ref t])(_:cY P w K a H0 M Z c)(_:aq H0 H)(_:H0 t=none)(_:H0 ba=none)(_:H ba=some (.dK []))(_:H t=some (.ins a.fw dx [("home",.str x.home),("arms",.ref ar),("rule",ru),("shuts",.ref sh),("paused",.bl false),("closed",.bl false),("barred",.ref ba)]))(_:aU K H0 ar (x.arms.map V.str))(_:eY K H0 x.rule ru)(_:aU K H0 sh (x.shuts.map V.str))(_:x.pau=false)(_:x.clo=false)(_:x.bar=[])(_:KZ M x)(_:x.nm∉M.trs.map dh.nm)(_:M.trs.length<10)(_:∀(r:Addr)(Z':ZS)(H':Hp),fU H0 M Z H' (zU M x) Z'->cY P w K a H' (zU M x) Z' c->H0 r=none->H' r=some (.lst [])->Z'.ds=Z.ds->Q (.ref r) H')
section
def pT(T:Txt K mg a):aS P w K mg base dw 5 a.cW.x a.cW.d ["self","name","slope"] (Ep P w K a):=by
 refine T.cW.ok pJ λaa A outer s H vs Q E j h=>?_
 ·obtain⟨M,Z,c,nm,sl,rfl,t,hw,hn,hs,h4,q⟩:=h;refine⟨_,(ah (jt (uj T.G9 ((tW (P:=P) (w:=w) T).mono (by decide)) j rfl T.Kj T.d0.b .nil bo (O (Y 2) (O (aI K rfl (Y 0)) ag))) (kx (aI K rfl (Y 0)) (Y 1) (oE (ca j)))) (ai (az (bA ag)))),?_⟩
  have X:=t.g.house;refine U rfl (i5 X T.aE T.cR rfl rfl (λlo ty l F ac=>?_));have f2:aq H (aA (aA H ty (.own lo)) lo (.ins a.eQ ty [])):=λb o e=>by rw[ao (aF e l),ao (aF e F)];exact e
  have m:aA (aA H ty (.own lo)) lo (.ins a.eQ ty []) lo=some (.ins a.eQ ty []):=ae;generalize aA (aA H ty (.own lo)) lo (.ins a.eQ ty [])=H2 at f2 m⊢;refine⟨lo,ty,sl,M.p,rfl,m,λtb od td iu I u J L N R f3 hL S hu=>⟨rfl,?_⟩⟩;have f:aq H I:=λb o e=>f3 b o (f2 b o e) (aF e l);refine i5 (f _ _ X) T.aE T.aY rfl rfl (U rfl ⟨Z.G .ln,_,.inr nm,rfl,rfl,f _ _ t.g.lays,by rw[i9,c_,k4];lia,?_⟩);rw[pM _ (mK hn)];have v:∀b,H b=none->b≠Z.G .ln:=λb e z=>by rw[z,t.g.lays]at e;cases e
  have y:=f2.free J;have B:=f2.free L;have C:=f2.free u;have D:=f2.free N;obtain⟨dT,iT⟩:=S.ins;obtain⟨Z',e1,V,e2,W,e4,hG,lv⟩:=t.g.newL (H':=aA I (Z.G .ln) (.dK (jR (M.las.map cG.nm) (λi=>.ref (Z.G (.lo i)))++[(.inr nm,.ref lo)]))) (nm:=nm) (sl:=sl) l D C y B R (λb o e n=>by rw[ao n];exact f b o e) ae (by rw[ao (v _ l)];exact hL) ⟨⟨dT,by rw[ao (v _ C)];exact iT⟩,by rw[ao (v _ y)];exact S.own,by rw[ao (v _ B)];exact S.tak,λx k=>(nomatch k),.nil⟩ (λz=>by rw[z,u]at m;cases m) (by rw[ao (v _ D)];exact hu)
  refine⟨ls rfl,λr j=>?_⟩;have s5:=aj (o:=.lst []) (aq.refl _) j;have st:fU H M Z (aA I (Z.G .ln) (.dK (jR (M.las.map cG.nm) (λi=>.ref (Z.G (.lo i)))++[(.inr nm,.ref lo)]))) (zV M nm sl) Z':=by
   refine⟨e1,λb o e n=>by rw[ao λz=>n (.inl ⟨.ln,trivial,z⟩)];exact f b o e,λb z=>?_,λb z=>f.free (mJ z),V⟩;rcases z with⟨r,j,rfl⟩|⟨i,hi,x,k,e⟩|⟨x,k,e⟩
   ·have j:xD (M.las++[_]).length M.trs.length r:=j;rw[iA]at j;rcases lv r j with q|⟨q,p⟩
    ·exact .inr q
    ·exact .inl (.inl ⟨r,p,q⟩)
   ·rw[(W i).1]at k;have hi:i<(M.las++[_]).length:=hi;rw[iA]at hi
    by_cases z:i=M.las.length
    ·rw[ku z]at k;cases k
    ·rw[j2 z]at k;exact .inl (.inr (.inl ⟨i,by have:i<M.las.length+1:=hi;lia,x,k,e⟩))
   ·rw[e4]at k;exact .inl (.inr (.inr ⟨x,k,e⟩))
  refine q r Z' _ (st.trans (fU.of s5)) (cY.same ⟨hG,t.ok.addL hw hn hs h4,λi=>?_,λi=>?_,by rw[e2];exact t.ds⟩ s5) (st.dm _ j) ae e2
  ·rw[(W i).1]
   split
   ·exact ng _
   ·exact t.tk i
  ·rw[(W i).2]
   split
   ·exact ng _
   ·exact t.ow i
def pS(T:Txt K mg a):aS P w K mg base dw 4 a.cV.x a.cV.d ["self","name","trial"] (Eo P w K a):=by
 refine T.cV.ok pI λS A outer s H vs Q E f h=>?_
 ·obtain⟨M,Z,c,C,t,ba,dx,ar,sh,ru,x,rfl,j,k,l,m,V,W,X,q2,q3,D,F,v,ok,hn,h10,q⟩:=h;refine⟨_,(ah (jt (Y 2) (kx (aI K rfl (Y 0)) (Y 1) (oE (ca f)))) (ai (az (bA ag)))),?_⟩
  refine U rfl (i5 (k _ _ j.g.house) T.aE T.aQ rfl rfl (U rfl ⟨Z.G .tn,_,.inr x.nm,rfl,rfl,k _ _ j.g.tris,by rw[i9,c_,k4];lia,?_⟩));rw[pM _ (mK hn)];have I:∀b,C b=none->b≠Z.G .tn:=λb e z=>by rw[z,j.g.tris]at e;cases e
  obtain⟨J,e1,B,L,N,e4,e5,O,lv⟩:=j.g.newT (H':=aA H (Z.G .tn) (.dK (jR (M.trs.map dh.nm) (λi=>.ref (Z.G (.tr i)))++[(.inr x.nm,.ref t)]))) (nm:=x.nm) (home:=x.home) (arms:=x.arms) (shuts:=x.shuts) (rule:=x.rule) l m (λb o e n=>by rw[ao n];exact k b o e) ae (by rw[ao (I _ l)];exact W) (by rw[ao (I _ m)];exact V) X q2 q3;have ex:(⟨x.nm,x.home,x.arms,x.rule,x.shuts,false,false,[]⟩:dh)=x:=by obtain⟨a1,a2,a3,a4,a5,a6,a7,a8⟩:=x;simp only at D F v;rw[D,F,v]
  rw[ex]at O;refine⟨ls rfl,λr f=>?_⟩;have R:=aj (o:=.lst []) (aq.refl _) f;have st:fU C M Z (aA H (Z.G .tn) (.dK (jR (M.trs.map dh.nm) (λi=>.ref (Z.G (.tr i)))++[(.inr x.nm,.ref t)]))) (zU M x) J:=by
   refine⟨e1,λb o e n=>by rw[ao λz=>n (.inl ⟨.tn,trivial,z⟩)];exact k b o e,λb z=>?_,λb z=>k.free (mJ z),B⟩;rcases z with⟨r,f,rfl⟩|⟨i,hi,y,u,e⟩|⟨y,u,e⟩
   ·have f:xD M.las.length (M.trs++[_]).length r:=f;rw[iA]at f;rcases lv r f with q|⟨q,p⟩
    ·exact .inr q
    ·exact .inl (.inl ⟨r,p,q⟩)
   ·rw[N]at u;exact .inl (.inr (.inl ⟨i,hi,y,u,e⟩))
   ·rw[e5]at u;exact .inl (.inr (.inr ⟨y,u,e⟩))
  exact q r J _ (st.trans (fU.of R)) (cY.same ⟨O,j.ok.addT ok hn h10 v,λi=>by rw[N];exact j.tk i,λi=>by rw[e4];exact j.ow i,by rw[L];exact j.ds⟩ R) (st.dm _ f) ae L
end
section
def pP(T:Txt K mg a):aS P w K mg base dw 1 a.cS.x a.cS.d ["self","place"] (Em P w K a.bP):=by
 refine T.cS.ok pF λc A outer s H i Q E e h=>?_
 ·obtain⟨t,f,j,n,ow,tk,m,p,rfl,b,q⟩:=h;refine⟨_,(ai (az (u5 (ca e) (aI K rfl (Y 0)) (Y 1) ⟨rfl,rfl,rfl,rfl⟩))),?_⟩;obtain⟨dx,g⟩:=b.ins;exact U rfl ⟨t,_,dx,_,U rfl ⟨g,T.bh,T.eg,rfl,f,rfl,.inl ⟨_,.inl b.own⟩,U rfl ⟨_,du.k (k:=.inl p) b.own,q⟩⟩⟩
end
def K6(h:Wd x):PyData.strOk x=true:=by
 obtain⟨_,_,h⟩:=h;unfold PyData.strOk;rw[<-Array.all_toList,List.all_eq_true];intro c hc;have b:∀c∈vn.cps.toList,decide (c<1114112)=true:=by decide+kernel
 have:=rd (b c (h c hc));simp;lia
structure ug(P:RR)(w:World)(K:RM)(a:ke)(H0 H:Hp)(M:cg)(Z:ZS)(c:Nat):Prop where
 z:cY P w K a H0 M Z c
 k:∀b o,H0 b=some o->b≠Z.G .ln->H b=some o
section
variable{P:RR}{w:World}{K:RM}{a:ke}{d H f:Hp}{M:cg}{Z:ZS}{c:Nat}
def ug.same(h:ug P w K a d H M Z c)(s:aq H f):ug P w K a d f M Z c:=⟨h.z,λb o e n=>s _ _ (h.k b o e n)⟩
def ug.kp(h:ug P w K a d H M Z c):Kp d H:=⟨λu i e=>h.k _ _ e λz=>(by rw[z,h.z.g.lays]at e;cases e),λu o⟨b,e⟩=>⟨b,h.k _ _ e λz=>by rw[z,h.z.g.lays]at e;cases e⟩⟩
theorem ug.at_(h:ug P w K a d H M Z c)(e:cont P w a M Z r=some o)(n:r≠.ln):H (Z.G r)=some o:=h.k _ _ (h.z.g.at_ r o e) λz=>n (h.z.g.inj r .ln _ _ e rfl z)
def Mj{p:Nat}{m sl:Int}{x:Str}(b:2<=p):0<=u0 p m sl x/\u0 p m sl x<p:=by
 unfold u0;have h:(0:Int)<(p:Int):=by lia
 split
 ·exact⟨Qq _ (by lia),P8 _ h⟩
 ·exact⟨Qq _ (by lia),P8 _ h⟩
def ug.owner(h:ug P w K a d H M Z c){i:Nat}{l:cG}(n:M.las[i]?=some l){q:Int}(s:0<=q)(u:q<M.p):(a0 (Z.ow i) (.inl q)).getD .non=.non\/∃b x y,(a0 (Z.ow i) (.inl q)).getD .non=.ref b/\aU K H b [.str x,.str y]/\((x=""/\y="")\/∃(j:Nat)(t:dh),M.trs[j]?=some t/\t.nm=x/\(Wd y/\Wd t.nm/\y∈t.arms)):=by cases A:a0 (Z.ow i) (.inl q)with|none=>exact .inl rfl|some v=>
  refine .inr ?_;obtain⟨k,B,m⟩:=(h.z.g.tabs i l n).2.2.1 q v s u A;rcases(h.z.ok.la l (il n)).own k q B with rfl|⟨t,o,_,y,r,rfl⟩
  ·obtain⟨b,rfl,e⟩:=m;exact⟨b,_,U rfl ⟨h.kp.tq e,.inl ⟨rfl,rfl⟩⟩⟩
  ·obtain⟨b,rfl,e⟩:=m;obtain⟨j,C⟩:=j_.mp o;have tk:=h.z.ok.tr t o;exact⟨b,_,U rfl ⟨h.kp.tq e,.inr ⟨j,t,C,rfl,tk.aw y r,tk.wd,r⟩⟩⟩
end
inductive LQ(P:RR)(w:World)(K:RM)(a:ke)(vs:List V)(H:Hp)(Q:VK)(E:XK):Prop|mk(H0:Hp)(M:cg)(Z:ZS)(c i:Nat)(l:cG)(g:Str)(mv:V)(ms:List (Str×Int))(bl:Addr)(bs:RS)(_:vs=[.ref (Z.G .hh),.ref (Z.G (.lo i)),.str g,mv,.ref bl])(_:ug P w K a H0 H M Z c)(_:M.las[i]?=some l)(_:BY g)(_:uf K H ms mv)(_:ms.length<=8)(_:H bl=some (.lst (bs.map V.str)))(_:(∀H',aq H H'->Q .non H'))(_:∀(s:Addr)(t:dh)(y:Str)(H':Hp),aq H H'->aU K H' s [.str t.nm,.str y]->t∈M.trs->y∈t.arms->Q (.ref s) H')
section
def pQ(T:Txt K mg a):aS P w K mg base dw 8 a.cT.x a.cT.d ["self","layer","guest","marks","been"] (LQ P w K a):=by
 refine T.cT.ok fX λbz A outer s H vs Q E R h=>?_
 ·obtain⟨H0,M,Z,c,i,l,g,mv,ms,bl,bs,rfl,B,I,hg,hm,bJ,a6,S,qs⟩:=h;refine⟨_,(ah (bq 5 fX.nd (bj (aI K rfl (Y 1)) T.bh T.cS.m ((pP (P:=P) (w:=w) T).mono (by decide)) R T.cS.b .nil bo (O (bj (Y 0) T.aE T.cb.m ((j5 (P:=P) (w:=w) T).mono (by decide)) R T.cb.b .nil bo (O (Y 1) (O (Y 2) ag))) ag))) (ah (aK (PW.pt (fm (aD GS (Y 5) oS (aG _)) (dN (aD (J4 K rfl (PF R)) (Y 5) (cA (v:=.ref a.wc) ⟨_,T.Hk,rfl⟩ rfl) (aG _))))) (ai (az oS)) aB) (ah (bq 6 fX.nd (dP (ca R) (aI K rfl (Y 0)) (cN K (Y 5) af) (λ_ _=>rfl))) (ah (aK (PW.pt (fm (aP K rfl (aI K rfl (Y 6)) (λ_=>rfl)) (fm (lT (u7 (ca R) (Y 2) (aI K rfl (Y 6))) rfl) (dN (b7 (aP K rfl (bS ((AT T 6).mono (by decide)) R rfl T.dH.m T.dH.f.kp T.dH.b .nil bo (O (aI K rfl (Y 6)) (O (Y 3) ag))) (λ_=>rfl))))))) (ai (az oS)) aB) (ah (aK (aP K rfl (ax (sx K rfl rfl) (by rfl) T.G5 L2.vV (O (wB gX ["name"] [] [7] (ak eT) (bZ 7) (iz K rfl (aI K rfl (Y 6))) (λcl C s₀ H₀ ex=>⟨(nq gX ["name"] 7),bR,(bY (qY K rfl) (Y 7) (Y 4) (by with_unfolding_all rfl))⟩)) ag)) (λ_=>rfl)) (ai (az oS)) aB) (ai (az (Y 5)))))))),?_⟩
  have J:=B.z;have hL:=J.ok.la l (il I);have hp:=J.ok.p;have hsl:=hL.sl;have hI:=B.at_ (r:=.hh) rfl (by simp);have X:=B.at_ (r:=.lo i) (by simp only[cont,I];rfl) (by simp);have aa:=B.at_ (r:=.tb i) (by simp only[cont,I];rfl) (by simp);have a7:=B.at_ (r:=.od i) (by simp only[cont,I];rfl) (by simp);have a8:=B.at_ (r:=.td i) (by simp only[cont,I];rfl) (by simp);have bb:=B.at_ (r:=.tn) rfl (by simp);refine i5 X T.bW T.eJ rfl rfl (rM aa rfl (pq hI rfl rfl (U rfl (U rfl ⟨Z.G .hh,Z.G (.lo i),_,_,_,_,M.p,M.salt,l.sl,g,rfl,hI,rfl,rfl,X,rfl,hg,⟨by lia,by lia⟩,⟨by exact hsl.1,by lia⟩,λH1 o=>?_⟩))));obtain⟨bc,⟨m,bi,b8⟩,b9,cc⟩:=J.g.tabs i l I;have n:=B.same o;have ac:eC P w K a.bP H1 (Z.G (.tb i)) (Z.G (.od i)) (Z.G (.td i)) M.p (Z.ow i) (Z.tk i) m:=⟨⟨_,o _ _ aa⟩,o _ _ a7,o _ _ a8,λx hx=>jB n.kp (bc x hx),bi.outs λx hx lb xs e1 e2=>n.k _ _ e2 λz=>by rw[z,J.g.lays]at e2;cases e2⟩;have hq:=Mj (m:=M.salt) (sl:=l.sl) (x:=g) hp.1;refine⟨Z.G (.tb i),Z.G (.od i),Z.G (.td i),M.p,Z.ow i,Z.tk i,m,u0 M.p M.salt l.sl g,rfl,ac,au ?_⟩;rcases n.owner I hq.1 hq.2 with e|⟨b,x,y,e,hb,ad⟩
  ·rw[e];exact U rfl ⟨rfl,U rfl (bH (bH (S _ o)))⟩
  rw[e];refine U rfl ⟨rfl,U rfl (cj ?_)⟩;have al:PyData.strOk x=true/\PyData.strOk y=true:=by
   rcases ad with⟨rfl,rfl⟩|⟨j,t,L,rfl,h1,h2,_⟩
   ·exact⟨by decide+kernel,by decide+kernel⟩
   ·exact⟨K6 h2,K6 h1⟩
  refine U rfl ⟨.tuple [.str x,.str y],.tuple [.str "",.str ""],.tup hb (.cons (.str x) (.cons (.str y) .nil)),.tup (T.DK.sq _) (.cons (.str _) (.cons (.str _) .nil)),?_,by decide+kernel,U rfl ?_⟩
  ·unfold SeqAt.shaped;simp[PyData.canLay0,PyData.canLayAll0,PyData.depth,PyData.depthAll,al.1,al.2]
  refine xh (λ_=>S _ o) (λef=>?_);rcases ad with⟨rfl,rfl⟩|⟨j,t,L,rfl,_,_,hy⟩
  ·exact absurd ef (by decide+kernel)
  have an:=o _ _ bb;have F:=n.at_ (r:=.tr j) (by simp only[cont,L];rfl) (by simp);have bp:=n.at_ (r:=.ba j) (by simp only[cont,L];rfl) (by simp);obtain⟨-,bt,ap⟩:=J.g.trs j t L;have as:=J.ok.tr t (il L);refine i5 (o _ _ hI) T.aE T.aQ rfl rfl (U rfl (rX hb (am (k:=0) rfl) (rG (.ref (Z.G (.tr j))) (by rw[<-J.ok.tget (Z:=Z) L];exact du.k (k:=.inr t.nm) an) (au ?_))));refine i5 F T.be T.iQ rfl rfl ⟨t.pau,rfl,?_⟩;refine xh (λ_=>bH (S _ o)) (λ_=>?_);refine U rfl (i5 F T.be T.iR rfl rfl (rG _ (du.k (k:=.inr g) bp) (U rfl ?_)));refine xh (λ_=>bH (S _ o)) (λ_=>?_);refine i5 F T.be T.n6 rfl rfl (U rfl ⟨t.rule,Z.ru j,ms,mv,rfl,bt.kp n.kp,as.hg,hm.kp (.of o),by lia,λH2 s2=>(U rfl ?_)⟩);have q:=o.trans s2;refine xh (λ_=>S _ q) (λ_=>?_);have a2:=B.same q;refine i5 (s2 _ _ F) T.be T.mL rfl rfl ⟨Z.sh j,rfl,⟨_,a2.kp.tq ap⟩,λD hD=>?_⟩;have a3:=q _ _ a6;have h8:=as.s8;refine gm (K:=K) (a:=Z.sh j) (xs:=t.shuts.map V.str) (λk u H'=>aq H2 H'/\H' D=some (.lst u)/\∃(cs:List Bool),u=cs.map V.bl/\cs.length=k) ⟨aj (aq.refl _) hD,ae,[],rfl,rfl⟩ (λk u H' _ h=>aq.tseq h.1 (a2.kp.tq ap)) ?_ ?_
  ·rintro k v u H3 hv⟨W,N,cs,rfl,a5⟩;have hk:k<(t.shuts.map V.str).length:=(d_.mp hv).1;rw[ir]at hv;obtain⟨x,hx,rfl⟩:=Option.map_eq_some_iff.mp hv;refine au (iL (bH (U rfl (U rfl ⟨bl,U rfl ⟨.inl (aW.of (W _ _ a3)),rfl,m8 bs,N,?_,lf hk ⟨bu W hD,ae,cs++[_],by rw[j1];rfl,by rw[iA,a5];rfl⟩⟩⟩))));rw[c_]at hk⊢;rw[k4];lia
  ·rintro u H3⟨W,N,cs,rfl,a5⟩;refine⟨D,cs,rfl,aW.of N,U rfl ?_⟩;refine xh (λ_=>S _ (q.trans W)) (λ_=>?_);exact U rfl (qs b t y _ (q.trans W) (aq.tseq (s2.trans W) hb) (il L) hy)
end
def eB.find(g:Str)(h:eB K H dl cv cm):a0 cv (.inr g)=none\/∃l b c,a0 cv (.inr g)=some (.ref l)/\l≠dl/\H l=some (.lst b)/\iS K H b c/\(g,c)∈cm:=by induction h with|nil=>exact .inl rfl|@cons _ y _ _ h _ d=>
  by_cases e:y.1=g
  ·obtain⟨h1,l,b,h2,n,h3,h4⟩:=h;exact .inr ⟨l,b,y.2,by rw[ck (by rw[h1,e]),h2],n,h3,h4,by rw[<-e];exact kw⟩
  ·rw[bK (λz=>e (by rw[h.1]at z;exact ro z))];exact d.imp id λq=>q.imp λ_ q=>q.imp λ_ q=>q.imp λ_ q=>⟨q.1,q.2.1,q.2.2.1,q.2.2.2.1,i_ _ q.2.2.2.2⟩
def iS.get(h:iS K H b c)(k:Nat)(u:V)(e:b[k]?=some u):∃y:Str×Str,∃s,u=.ref s/\aU K H s [.str y.1,.str y.2]:=(Paired.at_ h k u e).imp λ_ q=>q.2
def yE(K:RM)(H:Hp)(M:cg)(c:List V):Prop:=∀u∈c,∃(b:Addr)(i:Nat)(l:cG)(t y:Str),u=.ref b/\aU K H b [.str l.nm,.str t,.str y]/\M.las[i]?=some l
def yE.kp(e:Kp H H')(h:yE K H M c):yE K H' M c:=λu d=>let⟨b,i,l,t,y,h1,h2,h3⟩:=h u d;⟨b,i,l,t,y,h1,e.tq h2,h3⟩
inductive JN(P:RR)(w:World)(K:RM)(a:ke)(vs:List V)(H:Hp)(Q:VK)(E:XK):Prop|mk(M:cg)(Z:ZS)(c:Nat)(g:Str)(mv:V)(ms:List (Str×Int))(_:vs=[.ref (Z.G .hh),.str g,mv])(_:cY P w K a H M Z c)(_:c<=63)(_:BY g)(_:uf K H ms mv)(_:ms.length<=8)(_:∀(r:Addr)(us:List V)(H':Hp),aq H H'->H r=none->H' r=some (.lst us)->yE K H' M us->us.length<=4->Q (.ref r) H')
section
def mI(T:Txt K mg a):aS P w K mg base dw 9 a.cf.x a.cf.d ["self","guest","marks"] (JN P w K a):=by
 refine T.cf.ok bE λdV A outer s H vs Q E hr h=>?_
 ·obtain⟨M,Z,c,g,mv,ms,rfl,I,hc,hg,hm,c3,q⟩:=h;refine⟨_,(ah (C9 3 fe [] [7] [7] (ak dy) (bZ 7) (d9 K rfl (AJ (ca hr) (aI K rfl (Y 0)) (Y 1) (bA ag) ⟨rfl,rfl,rfl,rfl⟩)) (λcl C s₀ H₀ ex=>⟨(nq fe [] 7),bR,(cN K (Y 7) af)⟩) bE.nd) (ah (bq 4 bE.nd (bA ag)) (ah (Cj (P:=P) (w:=w) (eI pa rfl (AG (P:=P) (w:=w) (aI K rfl (Y 0))) (gb K rfl rfl (bF (tS 5 bE.nd) (bF (tS 6 bE.nd) ga))) (ah (bq 7 bE.nd (u5 (ca hr) (aI K rfl (Y 6)) (Y 1) ⟨rfl,rfl,rfl,rfl⟩)) (ah (aK (aD GS (Y 7) oS (aG _)) (ai (bq 7 bE.nd (bj (Y 0) T.aE T.cT.m ((pQ (P:=P) (w:=w) T).mono (by decide)) hr T.cT.b .nil bo (O (Y 6) (O (Y 1) (O (Y 2) (O (Y 3) ag))))))) aB) (ai (aK (aD DA (Y 7) oS (aG _)) (ah (aR (jw K rfl PySem.F.plainAttrs_list PySem.F.slot_list_append PySem.F.type_list_append eU (Y 3) (O (cN K (Y 7) af) ag))) (ai (aR (jw K rfl PySem.F.plainAttrs_list PySem.F.slot_list_append PySem.F.type_list_append eU (Y 4) (O (av (u9 K rfl) (bC (O (Y 5) ag)) (Y 7)) ag))))) aB)))))) (ai (az (Y 4)))))),?_⟩
  have hI:=I.g.house;have d1:=I.ok.l4;refine i5 hI T.aE T.dR rfl rfl ⟨Z.G .ci,rfl,.inl ⟨_,.inl I.g.cams⟩,U rfl ⟨ls rfl,λl0 c4=>?_⟩⟩;have s0:=aj (o:=.lst []) (aq.refl H) c4;have e0:aA H l0 (.lst []) l0=some (.lst []):=ae;generalize aA H l0 (.lst [])=H1 at s0 e0⊢;refine⟨a0 Z.cv (.inr g),du.k (k:=.inr g) (s0 _ _ I.g.cams),?_⟩;obtain⟨ll,J,X,ev,ba,hw,hsl⟩:∃ll J X,(a0 Z.cv (.inr g)).getD (.ref l0)=.ref ll/\H1 ll=some (.lst J)/\iS K H1 J X/\X.length<=630:=by
   rcases I.g.came.find g with e|⟨l,us,ss,e,_,h2,h3,h4⟩
   ·exact⟨l0,[],[],by rw[e];rfl,e0,.nil,by simp⟩
   ·have:=I.ok.cm _ h4;have:ss.length<=10*c:=this;exact⟨l,us,ss,by rw[e];rfl,s0 _ _ h2,h3.kp (.of s0),by lia⟩
  rw[ev];have d2:J.length=X.length:=Paired.length hw;refine⟨ll,rfl,⟨_,aW.of ba⟩,λD hD=>?_⟩;refine je (K:=K) (a:=ll) (xs:=J) (λk S H'=>aq H1 H'/\H' D=some (.lst S)/\∃(bs:RS),S=bs.map V.str/\bs.length=k) ⟨aj (aq.refl _) hD,ae,[],rfl,rfl⟩ (λk S H' _ h=>aW.of (h.1 _ _ ba)) ?_ ?_
  ·rintro k v S H3 hv⟨s3,aa,bs,rfl,bb⟩;have hk:k<J.length:=(d_.mp hv).1;obtain⟨y,s,rfl,B⟩:=hw.get k v hv;refine au (iL (bH (U rfl (rX (aq.tseq s3 B) (am (k:=0) rfl) ⟨aa,by rw[c_,k4];lia,lf hk ⟨bu s3 hD,ae,bs++[y.1],by rw[j1];rfl,by rw[iA,bb];rfl⟩⟩))))
  rintro S H2⟨s2,as,bs,rfl,bb⟩;refine au ⟨ls rfl,λR a2=>au ?_⟩;have s3:=aj (o:=.lst []) (aq.refl H2) a2;have bc:aA H2 R (.lst []) R=some (.lst []):=ae;have aa:=s3 _ _ as;have bi:H D=none:=s0.free hD;have a3:H R=none:=s0.free (s2.free a2);have bl:D≠R:=λz=>by rw[z,a2]at as;cases as
  have ac:aq H (aA H2 R (.lst [])):=(s0.trans s2).trans s3;generalize aA H2 R (.lst [])=H3 at s3 bc aa ac⊢;refine i5 (ac _ _ hI) T.aE T.aY rfl rfl ⟨Z.G .ln,U rfl ⟨ac _ _ I.g.lays,λep=>?_⟩⟩;have bp:Z.G .ln≠D:=λz=>by have e:=I.g.lays;rw[z,bi]at e;cases e
  have a5:Z.G .ln≠R:=λz=>by have e:=I.g.lays;rw[z,a3]at e;cases e
  refine HV (n:=M.las.length) (λk σ H'=>(∀b o,H b=some o->b≠Z.G .ln->H' b=some o)/\H' (Z.G .ln)=some (dE P w (Z.G .ln) (jR (M.las.map cG.nm) λi=>.ref (Z.G (.lo i))) ep)/\(∃bs:List Str,H' D=some (.lst (bs.map V.str))/\bs.length<=630+k)/\(∃us,H' R=some (.lst us)/\yE K H' M us/\us.length<=k)/\∃v5 v6 v7,σ=[some (.ref (Z.G .hh)),some (.str g),some mv,some (.ref D),some (.ref R),v5,v6,v7]) ⟨λb o e n=>by rw[ao n];exact ac b o e,ae,⟨bs,by rw[ao (ol bp)];exact aa,by lia⟩,⟨[],by rw[ao (ol a5)];exact bc,λu hu=>(nomatch hu),g_ _⟩,_,_,_,rfl⟩ (λk σ H' hk h=>⟨h.2.1,by rw[i9,c_];exact hk⟩) ?_ ?_
  ·rintro k σ H4 x H5 hk⟨f4,f,⟨j,bt,a6⟩,⟨W,a7,p,al⟩,v5,v6,v7,rfl⟩⟨T1,kk,vv,da,rfl,rfl,bz⟩;obtain⟨l,hl⟩:∃l,M.las[k]?=some l:=⟨_,f_ hk⟩;rw[y4,ir,hl]at bz;obtain⟨rfl,rfl⟩:=Ra (k_ bz);have s5:=aj (o:=.tup [kV (.inr l.nm),.ref (Z.G (.lo k))]) (aq.refl H4) da;have e5:aA H4 T1 (.tup [kV (.inr l.nm),.ref (Z.G (.lo k))]) T1=some (.tup [.str l.nm,.ref (Z.G (.lo k))]):=ae;generalize aA H4 T1 (.tup [kV (.inr l.nm),.ref (Z.G (.lo k))])=H5 at s5 e5⊢;have L:ug P w K a H H5 M Z c:=⟨I,λb o e n=>s5 _ _ (f4 b o e n)⟩;refine⟨T1,U rfl ⟨aU.of e5,rfl,_,U rfl (au ⟨_,U rfl (au ⟨rfl,?_⟩)⟩)⟩⟩;have dc:=L.at_ (r:=.lo k) (by simp only[cont,hl];rfl) (by simp);have bJ:=L.at_ (r:=.iu k) (by simp only[cont,hl];rfl) (by simp);refine i5 dc T.bW T.bT rfl rfl ⟨Z.G (.iu k),rfl,.inl ⟨_,.inl bJ⟩,U rfl ⟨a0 (Z.iv k) (.inr g),du.k (k:=.inr g) bJ,au ?_⟩⟩;have bP:=s5 _ _ bt;have di:=s5 _ _ a7;refine U rfl ⟨rfl,U rfl (Lo (λσ H'=>aq H5 H'/\∃sv,σ=[some (.ref (Z.G .hh)),some (.str g),some mv,some (.ref D),some (.ref R),some (.str l.nm),some (.ref (Z.G (.lo k))),some sv]/\(sv=.non\/∃s t y,sv=.ref s/\aU K H' s [.str t,.str y])) ?_ ?_)⟩
   ·rintro σ H6⟨s6,sv,rfl,dt⟩;have ad:=s6 _ _ bP;have b8:=s6 _ _ di;have ap:=s6 _ _ (s5 _ _ f);have f6:∀b o,H b=some o->b≠Z.G .ln->H6 b=some o:=λb o e n=>s6 _ _ (s5 _ _ (f4 b o e n));rcases dt with rfl|⟨s,t,y,rfl,B⟩
    ·exact U rfl ⟨rfl,U rfl (cj ⟨f6,ap,⟨j,ad,by exact ry a6⟩,⟨W,b8,p.kp (.of (s5.trans s6)),by exact ry al⟩,_,_,_,rfl⟩)⟩
    refine U rfl ⟨rfl,U rfl (bH (U rfl ⟨.inl ⟨rfl,_,aW.of ad⟩,U rfl (rX B (am (k:=0) rfl) (rA ad (by rw[c_,k4];lia) ?_))⟩))⟩;have a8:Kp H6 (aA H6 D (.lst (j.map V.str++[.str t]))):=.lst ad;have f7:∀b o,H6 b=some o->b≠D->aA H6 D (.lst (j.map V.str++[.str t])) b=some o:=cI;have b9:aA H6 D (.lst (j.map V.str++[.str t])) D=some (.lst ((j++[t]).map V.str)):=by rw[ae,j1];rfl
    generalize aA H6 D (.lst (j.map V.str++[.str t]))=H7 at a8 f7 b9⊢;have cc:=f7 _ _ b8 (ol bl);have cC:=f7 _ _ ap bp;refine U rfl ⟨.inl ⟨rfl,_,aW.of cc⟩,U rfl ⟨ls rfl,λT2 c0=>(U rfl ⟨T2,s,[.str l.nm],U rfl ⟨rfl,aU.of ae,aq.tseq (aj (aq.refl _) c0) (a8.tq B),by simp,by rw[k4];simp,λz=>(nomatch z),λ_ T3 dv=>?_⟩⟩)⟩⟩;have s9:=aj (o:=.tup ([.str l.nm]++[.str t,.str y])) (aj (o:=.tup [.str l.nm]) (aq.refl H7) c0) dv;have e9:aA (aA H7 T2 (.tup [.str l.nm])) T3 (.tup ([.str l.nm]++[.str t,.str y])) T3=some (.tup [.str l.nm,.str t,.str y]):=ae;generalize aA (aA H7 T2 (.tup [.str l.nm])) T3 (.tup ([.str l.nm]++[.str t,.str y]))=H9 at s9 e9⊢;have c1:=s9 _ _ cc;refine rA c1 (by rw[k4];lia) ?_;have kp:Kp H9 (aA H9 R (.lst (W++[.ref T3]))):=.lst c1;refine⟨λb o e n=>by rw[ao (aF e a3)];exact s9 _ _ (f7 _ _ (f6 b o e n) (aF e bi)),by rw[ao a5];exact s9 _ _ cC,⟨j++[t],by rw[ao bl];exact s9 _ _ b9,by rw[iA];simp;exact B_ a6⟩,⟨W++[.ref T3],ae,λu hu=>?_,by rw[iA];simp;omega⟩,_,_,_,rfl⟩;rcases RJ.mp hu with z|z
    ·obtain⟨b,i,l',t',y',h1,h2,h3⟩:=p u z;exact⟨b,i,l',t',y',h1,kp.tq (aq.tseq s9 (a8.tq (aq.tseq (s5.trans s6) h2))),h3⟩
    ·rw[List.mem_singleton.mp z];exact⟨T3,k,l,t,y,rfl,kp.tq (aU.of e9),hl⟩
   ·intro N hN
    by_cases c2:g∈l.ins.map (·.1)
    ·obtain⟨x,hx,ex⟩:=mu.mp c2;obtain⟨s,hv,B⟩:=(I.g.seats k l hl).find (I.ok.la l (il hl)).nd x hx;rw[ex]at hv;rw[hv];exact cj (hN _ _ ⟨aq.refl _,U rfl (.inr ⟨s,x.2.1,x.2.2,rfl,L.kp.tq B⟩)⟩)
    ·rw[(I.g.seats k l hl).none c2];have dT:=L.at_ (r:=.hh) rfl (by simp);refine bH (pq dT rfl rfl (U rfl (U rfl (U rfl (U rfl ⟨H,M,Z,c,k,l,g,mv,ms,D,j,rfl,L,hl,hg,hm.kp L.kp,c3,bP,λH' s'=>au (hN _ _ ⟨s',U rfl (.inl rfl)⟩),λs t y H' s' B _ _=>au (hN _ _ ⟨s',U rfl (.inr ⟨s,_,U rfl B⟩)⟩)⟩)))))
  ·rintro σ H4⟨f4,f,⟨j,bt,a6⟩,⟨W,a7,p,al⟩,v5,v6,v7,rfl⟩;refine⟨⟨f,by rw[i9,c_];exact g_ _⟩,Z.G .ln,_,ep,f,?_⟩;have sF:aq H (aA H4 (Z.G .ln) (.dK (jR (M.las.map cG.nm) λi=>.ref (Z.G (.lo i))))):=λb o e=>by
    by_cases z:b=Z.G .ln
    ·rw[z,I.g.lays]at e;rw[z,ae];exact e
    ·rw[ao z];exact f4 b o e z
   have kp:Kp H4 (aA H4 (Z.G .ln) (.dK (jR (M.las.map cG.nm) λi=>.ref (Z.G (.lo i))))):=⟨λu xs e=>by rw[ao λz=>by rw[z,f]at e;cases e];exact e,λu o⟨o',e⟩=>⟨o',by rw[ao λz=>by rw[z,f]at e;cases e];exact e⟩⟩;exact U rfl (q R W _ sF a3 (by rw[ao (ol a5)];exact a7) (p.kp kp) (by lia))
end
def wN(cm:List (Str×List (Str×Str)))(g:Str)(b:List (Str×Str)):List (Str×List (Str×Str)):=if(cm.any λx=>decide (x.1=g))=true then cm.map (λx=>if x.1=g then(x.1,b)else x)else cm++[(g,b)]
def GG:(wN cm g ss).length<=cm.length+1:=by
 unfold wN
 split
 ·rw[c_];lia
 ·rw[iA];exact g_ _
def GF(h:x∈wN cm g b):x∈cm\/x.2=b:=by
 unfold wN at h
 split at h
 ·obtain⟨y,c,e⟩:=mu.mp h
  split at e
  ·rw[<-e];exact .inr rfl
  ·rw[<-e];exact .inl c
 ·rcases RJ.mp h with q|q
  ·exact .inl q
  ·rw[List.mem_singleton.mp q];exact .inr rfl
theorem eB.any(g:Str)(h:eB K H dl cv cm):(cv.any λx=>decide (x.1=.inr g))=cm.any λx=>decide (x.1=g):=by induction h with|nil=>rfl|@cons _ y _ _ h _ b=>
  rw[z7,z7,b,h.1]
  congr 1
  by_cases e:y.1=g
  ·rw[m_ e,m_ (by rw[e])]
  ·rw[nn e,nn λz=>e (ro z)]
def eB.put(n:l≠dl)(d:H l=some (.lst b))(f:iS K H b i)(h:eB K H dl cv cm):eB K H dl (dO cv (.inr g) (.ref l)) (wN cm g i):=by
 unfold dO wN;rw[h.any g]
 split
 ·rename_i j;clear j
  induction h with|nil=>exact .nil|@cons x y _ _ q r k=>
   refine .cons ?_ k;obtain⟨h1,q⟩:=q
   by_cases e:y.1=g
   ·have c:x.1=.inr g:=by rw[h1,e]
    dsimp only;rw[ku c,ku e];exact⟨h1,l,b,rfl,n,d,f⟩
   ·have c:¬x.1=.inr g:=λz=>e (by rw[h1]at z;exact ro z);dsimp only;rw[j2 c,j2 e];exact⟨h1,q⟩
 ·exact Paired.snoc h ⟨rfl,l,b,rfl,n,d,f⟩
def GH{cv:List (b0×V)}{k:b0}{v:V}{x:b0×V}(h:x∈dO cv k v):x∈cv\/x.2=v:=by
 unfold dO at h
 split at h
 ·obtain⟨y,b,e⟩:=mu.mp h
  split at e
  ·rw[<-e];exact .inr rfl
  ·rw[<-e];exact .inl b
 ·rcases RJ.mp h with q|q
  ·exact .inl q
  ·rw[List.mem_singleton.mp q];exact .inr rfl
def bU.some(h:bU K H iv ins)(hg:g∈ins.map (·.1)):(a0 iv (.inr g)).isSome=true:=by induction h with|nil=>cases hg|@cons _ y _ _ h _ b=>
  by_cases e:y.1=g
  ·rw[ck (by rw[h.1,e])];rfl
  ·rw[bK (λz=>e (by rw[h.1]at z;exact ro z))];rw[no]at hg;exact b ((ov.mp hg).resolve_left λq=>e q.symm)
def Lv(g:Str)(ins b:List (Str×Str×Str)):Prop:=b=ins\/(g∉ins.map (·.1)/\∃t y,b=ins++[(g,t,y)])
structure ka(g:Str)(M M':cg):Prop where
 p:M'.p=M.p
 salt:M'.salt=M.salt
 trs:M'.trs=M.trs
 len:M'.las.length=M.las.length
 las:∀(i:Nat)(l:cG),M.las[i]?=some l->∃ins',M'.las[i]?=some {l with ins:=ins'}/\Lv g l.ins ins'
def ka.refl(g:Str)(M:cg):ka g M M:=⟨rfl,rfl,rfl,rfl,λi l b=>⟨l.ins,b,.inl rfl⟩⟩
def ka.names(h:ka g M c):c.las.map cG.nm=M.las.map cG.nm:=by
 refine sD λi=>?_;rw[ir,ir]
 by_cases hi:i<M.las.length
 ·obtain⟨b,e,_⟩:=h.las i _ (f_ hi);rw[e,f_ hi];rfl
 ·rw[np (by rw[h.len];exact O_ hi),np (by exact O_ hi)]
def lY.vis(h:lY M c)(v:ka g M j)(hg:BY g)(h1:∀x∈j.came,x.2.length<=10*c+4)(h2:j.came.length<=10*c+4):lY j (c+1):=by
 have m:=v.names;refine⟨by rw[v.p];exact h.p,by rw[m];exact h.ln,by rw[v.trs];exact h.tn,λl o=>?_,λt b=>?_,λx d=>by have:=h1 x d;lia,by rw[v.len];exact h.l4,by rw[v.trs];exact h.tc,by lia,λt b=>by rw[v.trs]at b;exact ry (h.br t b)⟩
 ·obtain⟨i,hi⟩:=j_.mp o;have f:i<M.las.length:=by rw[<-v.len];exact(d_.mp hi).1
  obtain⟨n,e,q⟩:=v.las i _ (f_ f);rw[hi]at e;have e:=k_ e;have k:=h.la _ (yl f);rw[e];have own:∀k z,z∈(M.las[i]).S.pl k->k=cu "" ""\/∃t∈j.trs,t.home=(M.las[i]).nm/\∃y∈t.arms,k=cu t.nm y:=by rw[v.trs];exact k.own
  rcases q with rfl|⟨hn,t,y,rfl⟩
  ·exact⟨k.wd,by rw[v.p];exact k.sl,by rw[v.p];exact k.ok,ry k.len,k.gs,k.nd,own⟩
  ·refine⟨k.wd,by rw[v.p];exact k.sl,by rw[v.p];exact k.ok,by show(_++[_]).length<=c+1;rw[iA];exact B_ k.len,λx d=>?_,?_,own⟩
   ·rcases RJ.mp d with q|q
    ·exact k.gs x q
    ·rw[List.mem_singleton.mp q];exact hg
   ·show((_++[(g,t,y)]).map (·.1)).Nodup;rw[j1,op];exact⟨k.nd,by simp,λx d z r e=>hn (by rw[<-show z=g from List.mem_singleton.mp r,<-e];exact d)⟩
 ·rw[v.trs]at b;have k:=h.tr t b;exact{k with hm:=by rw[m];exact k.hm}
def ka.step{g:Str}{M d:cg}(v:ka g M d){i:Nat}{l:cG}{b:List (Str×Str×Str)}{t y:Str}{cm:List (Str×List (Str×Str))}(h:M.las[i]?=some l)(f:d.las[i]?=some {l with ins:=b})(hi:Lv g l.ins b)(hn:g∉b.map (·.1)):ka g M {d.setL i {l with ins:=b++[(g,t,y)]}with came:=cm}:=by
 have e:b=l.ins:=by
  rcases hi with e|⟨_,t,y,e⟩
  ·exact e
  ·exact absurd (by rw[e,j1];exact o0 _ kw) hn
 refine⟨v.p,v.salt,v.trs,by rw[<-v.len];exact th ..,λj k h2=>?_⟩
 by_cases q:j=i
 ·subst q;rw[h]at h2;cases h2;exact⟨_,uM f,.inr ⟨by rw[<-e];exact hn,t,y,by rw[e]⟩⟩
 ·obtain⟨c,m,n⟩:=v.las j k h2;exact⟨c,by show(d.las.set i _)[j]?=_;rw[qr λz=>q z.symm];exact m,n⟩
inductive Jn(P:RR)(w:World)(K:RM)(a:ke)(vs:List V)(H:Hp)(Q:VK)(E:XK):Prop|mk(M:cg)(Z:ZS)(c:Nat)(g:Str)(mv:V)(ms:List (Str×Int))(_:vs=[.ref (Z.G .hh),.str g,mv])(_:cY P w K a H M Z c)(_:c<=63)(_:BY g)(_:uf K H ms mv)(_:ms.length<=8)(_:∀(r:Addr)(us:List V)(M':cg)(Z':ZS)(H':Hp),ka g M M'->fU H M Z H' M' Z'->cY P w K a H' M' Z' (c+1)->H r=none->H' r=some (.lst us)->Z'.ds=Z.ds->Q (.ref r) H')
section
def pR(T:Txt K mg a):aS P w K mg base dw 10 a.cU.x a.cU.d ["self","guest","marks"] (Jn P w K a):=by
 refine T.cU.ok cD λew A outer s H vs Q E hr h=>?_
 ·obtain⟨M,Z,c,g,mv,ms,rfl,S,hc,hg,hm,d4,q⟩:=h;refine⟨_,(ah (bq 3 cD.nd (bj (Y 0) T.aE T.cf.m ((mI (P:=P) (w:=w) T).mono (by decide)) hr T.cf.b .nil bo (O (Y 1) (O (Y 2) ag)))) (ah (eI pa rfl (d9 K rfl (Y 3)) (gb K rfl rfl (bF (tS 4 cD.nd) (bF (tS 5 cD.nd) (bF (tS 6 cD.nd) ga)))) (ah (bq 7 cD.nd (dP (ca hr) (aI K rfl (Y 0)) (Y 4) (λ_ _=>rfl))) (ai (aK (lT (qX (ca hr) (Y 1) (aI K rfl (Y 7))) rfl) (ah (jt (bC (O (Y 5) (O (Y 6) ag))) (kx (aI K rfl (Y 7)) (Y 1) (oE (ca hr)))) (ai (jt (av Cm (AJ (ca hr) (aI K rfl (Y 0)) (Y 1) (bA ag) ⟨rfl,rfl,rfl,rfl⟩) (bA (O (bC (O (Y 5) (O (Y 6) ag))) ag))) (kx (aI K rfl (Y 0)) (Y 1) (oE (ca hr)))))) aB)))) (ai (az (Y 3))))),?_⟩
  refine pq S.g.house rfl rfl (U rfl (U rfl ⟨M,Z,c,g,mv,ms,rfl,S,hc,hg,hm,d4,λr us H1 s1 hr b8 b9 ey=>au ?_⟩));have d5:¬g9 M Z r:=S.g.foot hr;refine U rfl ⟨r,rfl,⟨_,aW.of b8⟩,?_⟩;refine k8 (xs:=us) (λk σ H'=>IZ λM' Z'=>P1 (ka g M M') (bB P w K a H' M' Z') (Z'.tk=Z.tk) (Z'.ow=Z.ow) (Z'.ds=Z.ds) ((∀x∈M'.came,x.2.length<=10*c+k)) (M'.came.length<=10*c+k) (fU H M Z H' M' Z') (¬g9 M' Z' r) (H' r=some (.lst us)) (yE K H' M us) (Ex4 λv4 v5 v6 v7=>σ=[some (.ref (Z.G .hh)),some (.str g),some mv,some (.ref r),v4,v5,v6,v7])) ⟨M,Z,ka.refl g M,S.g.same s1,rfl,rfl,rfl,S.ok.cm,S.ok.cl,fU.of s1,d5,b8,b9,_,_,_,_,rfl⟩ (λk σ H' _ h=>by obtain⟨_,_,_,_,_,_,_,_,_,_,_,h,_⟩:=h;exact aW.of h) ?_ ?_
  ·rintro k v σ H2 hv⟨M2,f,v2,D,a5,a6,W,X,ba,aa,ac,ad,F,v4,v5,v6,v7,rfl⟩;have hk:k<us.length:=(d_.mp hv).1;obtain⟨b,i,l,t,y,rfl,hb,hl⟩:=F v (il hv);refine⟨b,U rfl ⟨hb,rfl,_,U rfl (au ⟨_,U rfl (au ⟨_,U rfl (au ⟨rfl,?_⟩)⟩)⟩)⟩⟩;obtain⟨p,I,cc⟩:=v2.las i l hl;have cC:f.G .hh=Z.G .hh:=aa.hh;have c0:=D.house;have c1:=D.lays;have c2:a0 (jR (M2.las.map cG.nm) λi=>V.ref (f.G (.lo i))) (.inr l.nm)=some (.ref (f.G (.lo i))):=uk (by rw[v2.names];exact S.ok.ln) (by rw[ir,I];rfl);rw[cC]at c0;refine i5 c0 T.aE T.aY rfl rfl (U rfl (rG (.ref (f.G (.lo i))) (by rw[<-c2];exact du.k (k:=.inr l.nm) c1) (au ?_)));have c3:=D.layer I;have c4:=D.inside I;refine U rfl (i5 c3 T.bW T.bT rfl rfl (rG (a0 (f.iv i) (.inr g)) (du.k (k:=.inr g) c4) (U rfl ?_)));have bb:=D.seats i _ I
   by_cases bc:g∈p.map (·.1)
   ·rw[bb.some bc];exact cj ⟨M2,f,v2,D,a5,a6,W,λx hx=>by have:=X x hx;exact ry this,by exact ry ba,aa,ac,ad,F,_,_,_,_,rfl⟩
   ·have al:=bb.none bc;rw[al];refine bH (U rfl (U rfl ⟨ls rfl,λR ea=>?_⟩));have s3:=aj (o:=.tup [.str t,.str y]) (aq.refl H2) ea;have e3:aA H2 R (.tup [.str t,.str y]) R=some (.tup [.str t,.str y]):=ae;generalize aA H2 R (.tup [.str t,.str y])=H3 at s3 e3⊢;have bi:=D.same s3;have ez:(f.iv i).length<=100:=by
     rw[bb.len];show p.length<=100;have:=(S.ok.la l (il hl)).len;rcases cc with e|⟨_,_,_,e⟩
     ·rw[e];lia
     ·rw[e,iA];simp;lia
    refine i5 (s3 _ _ c3) T.bW T.bT rfl rfl (U rfl ⟨f.G (.iu i),_,.inr g,rfl,rfl,s3 _ _ c4,by rw[k4];lia,?_⟩);rw[pM _ al];have J:bB P w K a (aA H3 (f.G (.iu i)) (.dK (f.iv i++[(.inr g,.ref R)]))) (M2.setL i {l with ins:=p++[(g,t,y)]}) {f with iv:=λj=>if j=i then f.iv i++[(.inr g,.ref R)]else f.iv j}:=bi.setIns (iv':=f.iv i++[(.inr g,.ref R)]) (ins':=p++[(g,t,y)]) I (Paired.snoc (bi.seats i _ I) ⟨rfl,R,rfl,aU.of e3⟩);have da:=(d_.mp I).1;have an:fU H3 M2 f (aA H3 (f.G (.iu i)) (.dK (f.iv i++[(.inr g,.ref R)]))) (M2.setL i {l with ins:=p++[(g,t,y)]}) {f with iv:=λj=>if j=i then f.iv i++[(.inr g,.ref R)]else f.iv j}:=fU.put (show i<_ from da) rfl (th ..) rfl rfl λx hx=>.inl hx;have bl:=bi.imm (r:=.iu i) (by simp only[cont,I];rfl) (cI (o':=.dK (f.iv i++[(.inr g,.ref R)])));have bp:=cI (x:=f.G (.iu i)) (o':=.dK (f.iv i++[(.inr g,.ref R)])) _ _ (s3 _ _ ad) λz=>ac (.inl ⟨.iu i,da,z⟩);have bt:¬g9 (M2.setL i {l with ins:=p++[(g,t,y)]}) {f with iv:=λj=>if j=i then f.iv i++[(.inr g,.ref R)]else f.iv j} r:=λz=>(an.fp r z).elim ac λz=>by rw[s3 _ _ ad]at z;cases z
    have eb:=bl.kp.tq (K:=K) (aU.of e3);have ap:=(F.kp (.of s3)).kp bl.kp;generalize dc:M2.setL i {l with ins:=p++[(g,t,y)]}=M4 at J an bt;generalize as:({f with iv:=λj=>if j=i then f.iv i++[(.inr g,.ref R)]else f.iv j}:ZS)=B at J an bt;have a2:B.G=f.G:=by rw[<-as]
    have er:B.cv=f.cv:=by rw[<-as]
    have di:B.tk=f.tk:=by rw[<-as]
    have dt:B.ow=f.ow:=by rw[<-as]
    have dv:B.ds=f.ds:=by rw[<-as]
    have L:M4.came=M2.came:=by rw[<-dc]
    generalize aA H3 (f.G (.iu i)) (.dK (f.iv i++[(.inr g,.ref R)]))=H4 at J an bl bp eb ap⊢;have bz:=J.house;rw[a2,cC]at bz;have a7:=J.cams;rw[a2]at a7;refine i5 bz T.aE T.dR rfl rfl ⟨f.G .ci,rfl,.inl ⟨_,.inl a7⟩,U rfl ⟨ls rfl,λl0 ec=>?_⟩⟩;have s5:=aj (o:=.lst []) (aq.refl H4) ec;have e5:aA H4 l0 (.lst []) l0=some (.lst []):=ae;generalize aA H4 l0 (.lst [])=H5 at s5 e5⊢;refine⟨a0 B.cv (.inr g),du.k (k:=.inr g) (s5 _ _ a7),_,rfl,U rfl ⟨ls rfl,λN ed=>⟨ls rfl,λl1 dT=>?_⟩⟩⟩;have s7:=aj (o:=.lst [.ref N]) (aj (o:=.tup [.str t,.str y]) (aq.refl H5) ed) dT;have e7:aA (aA H5 N (.tup [.str t,.str y])) l1 (.lst [.ref N]) l1=some (.lst [.ref N]):=ae;have e6:aA (aA H5 N (.tup [.str t,.str y])) l1 (.lst [.ref N]) N=some (.tup [.str t,.str y]):=by rw[ao (aF ae dT)];exact ae
    generalize aA (aA H5 N (.tup [.str t,.str y])) l1 (.lst [.ref N])=H7 at s7 e6 e7⊢;have a8:=s5.trans s7;obtain⟨ll,u,C,ev,ef,dV,hsl⟩:∃ll u C,(a0 B.cv (.inr g)).getD (.ref l0)=.ref ll/\H7 ll=some (.lst u)/\iS K H7 u C/\C.length<=10*c+k:=by
     rcases J.came.find g with e|⟨ei,ej,ek,e,_,h2,h3,h4⟩
     ·exact⟨l0,[],[],by rw[e];rfl,s7 _ _ e5,.nil,by simp⟩
     ·rw[L]at h4;have:=X _ h4;exact⟨ei,ej,ek,by rw[e];rfl,a8 _ _ h2,h3.kp (.of a8),this⟩
    have es:u.length=C.length:=Paired.length dV;rw[ev];refine⟨ll,l1,u,[.ref N],rfl,rfl,ef,e7,by rw[k4];simp;lia,λlp bJ=>?_⟩;have s8:=aj (o:=.lst (u++[.ref N])) a8 bJ;have e8:aA H7 lp (.lst (u++[.ref N])) lp=some (.lst (u++[.ref N])):=ae;have d1:iS K (aA H7 lp (.lst (u++[.ref N]))) (u++[.ref N]) (C++[(t,y)]):=iS.kp (Kp.new bJ) (Paired.snoc dV ⟨N,rfl,aU.of e6⟩);have a3:H4 lp=none:=a8.free bJ;generalize aA H7 lp (.lst (u++[.ref N]))=H8 at s8 e8 d1⊢;have bP:=J.same s8;have et:B.cv.length<=10*c+k:=by have:=Paired.length J.came;rw[this,L];exact ba
    refine i5 (s8 _ _ bz) T.aE T.dR rfl rfl (U rfl ⟨f.G .ci,_,.inr g,rfl,rfl,s8 _ _ a7,by rw[k4];lia,?_⟩);have el:lp≠B.G .dl:=λz=>by rw[z,J.dees]at a3;cases a3
    have en:bB P w K a (aA H8 (f.G .ci) (.dK (dO B.cv (.inr g) (.ref lp)))) {M4 with came:=wN M4.came g (C++[(t,y)])} {B with cv:=dO B.cv (.inr g) (.ref lp)}:=by rw[show f.G .ci=B.G .ci by rw[a2]];exact bP.setCame (bP.came.put (g:=g) el e8 d1)
    have d2:=bP.imm (r:=.ci) rfl (cI (o':=.dK (dO B.cv (.inr g) (.ref lp))));rw[a2]at d2;have d3:fU H4 M4 B (aA H8 (f.G .ci) (.dK (dO B.cv (.inr g) (.ref lp)))) {M4 with came:=wN M4.came g (C++[(t,y)])} {B with cv:=dO B.cv (.inr g) (.ref lp)}:=by
     refine⟨rfl,λb o e n=>by rw[ao λz=>n (.inl ⟨.ci,trivial,by rw[a2];exact z⟩)];exact s8 b o e,λb z=>?_,λb z=>s8.free (mJ z),rfl⟩;rcases z with z|z|⟨x,hx,e⟩
     ·exact .inl (.inl z)
     ·exact .inl (.inr (.inl z))
     ·rcases GH hx with q|q
      ·exact .inl (.inr (.inr ⟨x,q,e⟩))
      ·rw[q]at e;cases e;exact .inr a3
    have v9:ka g M {M4 with came:=wN M4.came g (C++[(t,y)])}:=by rw[<-dc];exact v2.step hl I cc bc
    have eo:=(aa.trans (fU.of s3)).trans (an.trans d3);have ep:aA H8 (f.G .ci) (.dK (dO B.cv (.inr g) (.ref lp))) r=some (.lst us):=by rw[ao λz=>ac (.inl ⟨.ci,trivial,z⟩)];exact s8 _ _ bp
    refine⟨_,{B with cv:=dO B.cv (.inr g) (.ref lp)},v9,en,di.trans a5,dt.trans a6,dv.trans W,λx hx=>?_,?_,eo,λz=>(d3.fp r z).elim bt (λz=>by rw[bp]at z;cases z),ep,(ap.kp (.of s8)).kp d2.kp,_,_,_,_,rfl⟩
    ·rcases GF hx with q|q
     ·rw[L]at q;have:=X x q;exact ry this
     ·rw[q,iA];simp;exact B_ hsl
    ·have:=GG (cm:=M4.came) (g:=g) (ss:=C++[(t,y)]);rw[L]at this;show(wN M4.came g (C++[(t,y)])).length<=_;rw[L];lia
  ·rintro σ H2⟨M2,f,v2,D,a5,a6,W,X,ba,aa,ac,ad,F,v4,v5,v6,v7,rfl⟩;exact U rfl (q r us M2 f H2 v2 aa ⟨D,S.ok.vis v2 hg (λx hx=>by have:=X x hx;lia) (by lia),λj=>by rw[a5];have:=S.tk j;lia,λj=>by rw[a6];have:=S.ow j;lia,by rw[W];have:=S.ds;exact ry this⟩ hr ad W)
end
inductive JJ(K:RM)(g:Addr)(vs:List V)(H:Hp)(Q:VK)(_E:XK):Prop|mk(d:Addr)(k:Str)(xs:List V)(_:vs=[.ref d])(_:aU K H d (.str k::xs))(_:(∃tk,PySem.W.nsIn K g k=some (some (.int ((xs.length:Int)+1) tk))))(_:Q .non H)
inductive Gh(K:RM)(vs:List V)(H:Hp)(Q:VK)(_E:XK):Prop|mk(t d:Addr)(l:RS)(kvs:List (b0×V))(_:vs=[.ref t,.ref d])(_:aU K H t (l.map V.str))(_:H d=some (.dK kvs))(_:(∀x∈l,Wd x/\(a0 kvs (.inr x)).isSome=true))(_:l.Nodup)(_:l.length<=8)(_:∀H',aq H H'->Q .non H')
inductive Gg(P:RR)(w:World)(K:RM)(a:ke)(vs:List V)(H:Hp)(Q:VK)(_E:XK):Prop|mk(z:Int)(M:cg)(Z:ZS)(_:vs=[.int z,.int M.p,.ref (Z.G .ln)])(_:bB P w K a H M Z)(_:M.las.length<=4)(_:0<=z)(_:z<=M.p)(_:z∉M.las.map cG.sl)(_:∀H',aq H H'->Q .non H')
inductive Ge(K:RM)(vs:List V)(H:Hp)(Q:VK)(_E:XK):Prop|mk(d ly tr ar sh:Addr)(ru:V)(x y:Str)(r:Ru)(ws l ss:RS)(lk tk:List (b0×V))(_:vs=[.ref d,.ref ly,.ref tr])(_:aU K H d [.str "trial",.str x,.str y,.ref ar,ru,.ref sh])(_:Wd x)(_:Wd y)(_:H ly=some (.dK lk))(_:H tr=some (.dK tk))(_:a0 tk (.inr x)=none)(_:(a0 lk (.inr y)).isSome=true)(_:aU K H ar (l.map V.str))(_:(∀w∈l,Wd w))(_:l.Nodup)(_:1<=l.length)(_:l.length<=4)(_:eY K H r ru)(_:r.hgt<=6)(_:r.cnt<=30)(_:kC ws r)(_:(∀w∈ws,Wd w))(_:ws.length<=3)(_:aU K H sh (ss.map V.str))(_:(∀x∈ss,Wd x/\(a0 tk (.inr x)).isSome=true))(_:ss.Nodup)(_:ss.length<=8)(_:∀H',aq H H'->Q .non H')
section
def wQ(T:Txt K mg a)(f:w.params=a.pm):aS P w K mg base dw 1 a.gR.x a.gR.d ["deed"] (JJ K a.eZ):=by
 refine T.gR.ok wJ λg A outer s H j Q E l h=>?_
 ·obtain⟨d,k,c,rfl,b,⟨tk,i⟩,q⟩:=h;refine⟨_,(ah (aK (PW.pt (fm (b7 (aP K rfl (ax (eP K rfl) (by rfl) T.bn L2.aV (O (Y 0) (O (ju rfl T.dz L2.bM) ag))) (λ_=>rfl))) (dN (aD aT (ax (aH K rfl) (by rfl) T.bD L2.aJ (O (Y 0) ag)) af (aG _))))) (ai cn) aB) (ai (aK (PW.pt (fm (b7 (aP K rfl (ax (gT K rfl) (by rfl) T.bn L2.aV (O (cN K (Y 0) af) (O (ju rfl T.DF L2.ql) ag))) (λ_=>rfl))) (dN (aD Lc (J0 K rfl (Px f T.CT) rfl T.EM (cN K (Y 0) af) ⟨rfl,rfl,rfl,rfl⟩) (ax (aH K rfl) (by rfl) T.bD L2.aJ (O (Y 0) ag)) (aG _))))) (ai cn) aB))),?_⟩
  refine U rfl ⟨_,"tuple",_,true,rfl,.inr ⟨d,U rfl ⟨b,rfl⟩⟩,eK (by decide+kernel),true,rfl,cj ?_⟩;refine U rfl ⟨_,U rfl ⟨.inr ⟨_,b,rfl⟩,rfl,U rfl (kA (λh=>absurd h (by rw[n_];lia)) (λ_=>?_))⟩⟩;refine U rfl (rX b (am (k:=0) rfl) ?_);refine⟨_,"str",_,true,rfl,.str k,eK (by decide+kernel),true,rfl,cj ?_⟩;refine U rfl (rX b (am (k:=0) rfl) ⟨k,U rfl ⟨i,.inr ⟨_,.int ((c.length:Int)+1),rfl,⟨tk,rfl⟩,?_⟩⟩⟩);refine U rfl ⟨_,U rfl ⟨.inr ⟨_,b,rfl⟩,rfl,U rfl ?_⟩⟩;have e:decide (V.int ((c.length:Int)+1)=V.int (((V.str k::c).length:Nat):Int))=true:=m_ (by simp);rw[e];exact q
def vc(T:Txt K mg a):aS P w K mg base dw 5 a.fK.x a.fK.d ["thing","trials"] (Gh K):=by
 refine T.fK.ok jk λW A outer s H vs Q E X h=>?_
 ·obtain⟨t,d,l,B,rfl,b,hd,Z,C,h8,q⟩:=h;refine⟨_,(ah (aK (PW.pt (fm (b7 (aP K rfl (ax (eP K rfl) (by rfl) T.bn L2.aV (O (Y 0) (O (ju rfl T.dz L2.bM) ag))) (λ_=>rfl))) (dN (aD sN (ax (aH K rfl) (by rfl) T.bD L2.aJ (O (Y 0) ag)) (cA T.zQ rfl) (aG _))))) (ai cn) aB) (ai (eI pa rfl (JZ K rfl rfl T.Bc (O (Y 0) ag)) (gb K rfl rfl (bF (tS 2 jk.nd) (bF (tS 3 jk.nd) ga))) (ah (aR (pc T.bO (db T) X (O (Y 3) (O (Y 1) ag)))) (ai (aK (aD (qY K rfl) (Y 3) (gc (Dt K rfl) (Y 0) i7 (i6 (Y 2))) (by with_unfolding_all rfl)) (ai cn) aB)))))),?_⟩
  refine U rfl ⟨_,"tuple",_,true,rfl,.inr ⟨t,U rfl ⟨b,rfl⟩⟩,eK (by decide+kernel),true,rfl,cj ?_⟩;refine U rfl ⟨_,l.length,rfl,.inr ⟨_,b,by simp⟩,_,U rfl ⟨rfl,U rfl (nL (λh=>absurd h (by lia)) (λ_=>?_))⟩⟩;refine U rfl ⟨t,U rfl ⟨b,?_⟩⟩;refine HV (n:=l.length) (λk j H'=>aq H H'/\(IZ λD F=>j=[some (.ref t),some (.ref d),D,F])) ⟨aq.refl H,_,_,rfl⟩ (λk j H' L h=>⟨_,.str l[k],aq.tseq h.1 b,by rw[ir,f_ L];rfl⟩) ?_ ?_
  ·rintro k j m v H2 L⟨c,D,F,rfl⟩⟨r,x,G,rfl,rfl,y⟩;have y:=y _ (aq.tseq c b);rw[ir]at y;obtain⟨z,M,rfl⟩:=Option.map_eq_some_iff.mp y;have I:=aj (o:=.tup [.int k,.str z]) c G;have N:aA m r (.tup [.int k,.str z]) r=some (.tup [.int k,.str z]):=ae;generalize aA m r (.tup [.int k,.str z])=H2 at I N⊢;refine⟨r,U rfl ⟨aU.of N,rfl,_,U rfl (au ⟨_,U rfl (au ⟨rfl,?_⟩)⟩)⟩⟩;have f:=Z z (il M);refine U rfl (U rfl ⟨z,d,B,rfl,f.1,I _ _ hd,f.2,λH3 s3=>?_⟩);have g:=I.trans s3;refine U rfl (U rfl (U rfl (U rfl ⟨t,U rfl ⟨aq.tseq g b,?_,λp hp=>?_⟩⟩)))
   ·rintro⟨_,e⟩;rw[c_]at e;have e:(if(k:Int)<0 then((k:Int)+(l.length:Int)).toNat else min (k:Int).toNat l.length)=l.length:=e;rw[j2 (by lia)]at e;lia
   ·rw[C8 _ (by lia)];refine⟨p,U rfl ⟨.inr (aU.of ae),rfl,?_,U rfl ?_⟩⟩
    ·rw[<-Rg];exact m8 _
    ·rw[<-Rg];have J:z∉l.take (k:Int).toNat:=λh=>by have:=C;rw[<-q_ k l,op]at this;exact this.2.2 z (by simpa using h) z (il (i:=0) (by rw[Ri,Nat.add_zero];exact M)) rfl
     have e:qf (.str z) ((l.take (k:Int).toNat).map V.str)=false:=by cases R:qf (.str z) ((l.take (k:Int).toNat).map V.str)with|false=>rfl|true=>unfold qf at R;obtain⟨v,hv,e⟩:=QR.mp R;obtain⟨u,S,rfl⟩:=mu.mp hv;have e:(u==z)=true:=e;rw[eq_of_beq e]at S;exact absurd S J
     show if(if false=true then _ else qf (.str z) ((l.take (k:Int).toNat).map V.str))=true then _ else _
     rw[j2 l_,e];exact cj ⟨(g.trans (aj (aq.refl _) hp)),_,_,rfl⟩
  ·rintro j m⟨c,D,F,rfl⟩;exact⟨⟨_,aq.tseq c b,by rw[c_]⟩,q m c⟩
def vb(T:Txt K mg a):aS P w K mg base dw 3 a.fJ.x a.fJ.d ["thing","prime","layers"] (Gg P w K a):=by
 refine T.fJ.ok uP λL A outer s H S Q E N h=>?_
 ·obtain⟨z,M,Z,rfl,I,h4,h0,h1,hn,q⟩:=h;refine⟨_,(ah (aK (PW.pt (fm (b7 (aP K rfl (pc T.fu (iH T) N (O (Y 0) ag)) (λ_=>rfl))) (dN (aD sN (Y 0) (Y 1) (aG _))))) (ai cn) aB) (ai (aK (aD (qY K rfl) (Y 0) (Mq (P:=P) (w:=w) (wB kD ["layer"] [] [3] (ak iw) (bZ 3) (JW (P:=P) (w:=w) (Y 2)) (λcl C s₀ H₀ ex=>⟨(nq kD ["layer"] 3),bR,(aI K rfl (Y 3))⟩))) (by with_unfolding_all rfl)) (ai cn) aB))),?_⟩
  refine U rfl ⟨z,rfl,h0,U rfl (cj ?_)⟩;refine U rfl (U rfl ⟨z,M.p,rfl,rfl,U rfl (nL (λh=>absurd h (by lia)) (λ_=>?_))⟩);have g:=I.lays;refine U rfl (U rfl ⟨Z.G .ln,U rfl ⟨g,λJ=>?_⟩⟩);refineλD t=>?_;have nd:Z.G .ln≠D:=λz=>by rw[<-z,ae]at t;cases t
  have r:H D=none:=by rw[ao (ol nd)]at t;exact t
  refine zL (n:=M.las.length) (λk c u=>(∀b o,H b=some o->b≠Z.G .ln->u b=some o)/\u (Z.G .ln)=some (dE P w (Z.G .ln) (jR (M.las.map cG.nm) λi=>.ref (Z.G (.lo i))) J)/\u D=some (.lst c)/\c=((M.las.map cG.sl).take k).map V.int) ⟨λb o e n=>by rw[ao (aF e r),ao n];exact e,by rw[ao nd,ae],ae,rfl⟩ (λk c u v h=>⟨h.2.1,by rw[i9,c_];exact v⟩) ?_ ?_
  ·rintro k c R x W v⟨f4,f,j,rfl⟩⟨rfl,y⟩;have F:=f_ v;rw[y4,ir,F]at y;have y:V.ref (Z.G (.lo k))=x:=k_ y;subst y;have m:=I.layer F;refine au (iL (bH (i5 (f4 _ _ m (λz=>by rw[z,g]at m;cases m)) T.bW T.jA rfl rfl ⟨j,by rw[c_,m3,k4];lia,lf v ⟨λb o e n=>by rw[ao (aF e r)];exact f4 b o e n,by rw[ao nd];exact f,ae,?_⟩⟩)));rw[c8 (l:=M.las.map cG.sl) (x:=(M.las[k]).sl) (by rw[ir,F];rfl),j1];rfl
  ·rintro c R⟨f4,f,j,rfl⟩;refine⟨⟨f,by rw[i9,c_];exact g_ _⟩,Z.G .ln,_,J,f,D,_,rfl,.inl (aW.of (by rw[ao (ol nd)];exact j)),rfl,oY _,_,rfl,?_⟩;rw[mo (by rw[c_];exact g_ _)];show if(if false=true then _ else qf (.int z) ((M.las.map cG.sl).map V.int))=true then _ else _
   rw[j2 l_,DN,nn hn];refine cj (q _ λb o e=>?_)
   by_cases B:b=Z.G .ln
   ·rw[B,g]at e;rw[B,ae];exact e
   ·rw[ao B];exact f4 b o e B
def va(T:Txt K mg a):aS P w K mg base dw 12 a.fI.x a.fI.d ["deed","layers","trials"] (Ge K):=by
 refine T.fI.ok uO λI A outer s H vs Q E f h=>?_
 ·obtain⟨d,J,tr,ar,sh,ru,x,y,r,L,l,M,N,tk,rfl,g,R,S,k,i,j,m,n,h1,h2,h3,h4,o,p,t,u,v,z,B,C,D,F,q⟩:=h;refine⟨_,(ah (aR (pc T.gQ (pO T) f (O (cN K (Y 0) af) (O (Y 2) ag)))) (ah (aR (pc T.bO (db T) f (O (cN K (Y 0) af) (O (Y 1) ag)))) (ah (aR (pc T.gS (wS T) f (O (cN K (Y 0) af) ag))) (ah (aR (pc T.gP (wO T) f (O (cN K (Y 0) af) ag))) (ai (aR (pc T.fK (vc T) f (O (cN K (Y 0) af) (O (Y 2) ag))))))))),?_⟩
  refine U rfl (rX g rfl (U rfl ⟨x,tr,tk,rfl,R,i,j,λH1 G=>?_⟩));refine U rfl (rX (aq.tseq G g) rfl (U rfl ⟨y,J,N,rfl,S,G _ _ k,m,λH2 V=>?_⟩));have c:=G.trans V;refine U rfl (rX (aq.tseq c g) rfl ⟨ar,l,rfl,aq.tseq c n,h1,h2,h3,h4,λH3 W=>?_⟩);have e:=c.trans W;refine U rfl (rX (aq.tseq e g) rfl ⟨r,ru,L,rfl,o.kp (.of e),p,t,u,v,z,λH4 X=>?_⟩);have b:=e.trans X;exact U rfl (rX (aq.tseq b g) rfl (U rfl ⟨sh,tr,M,tk,rfl,aq.tseq b B,b _ _ i,C,D,F,λZ s5=>q Z (b.trans s5)⟩))
end
inductive Dd|layer(nm:Str)(sl:Int)|trial(x:dh)|share(t:dh)(ns:RX)|deal(t:dh)(z:Int)(ws:RX)|hold(l:cG)(z:Int)|pause(t:dh)(b:Bool)|close(t:dh)|bar(g:Str)(t:dh)|visit(g:Str)
def Dd.clo:Dd->Bool|.share t _=>t.clo|.deal t _ _=>t.clo|.pause t _=>t.clo|.close t=>t.clo|_=>false
inductive jc(K:RM)(H:Hp)(M:cg):Dd->List V->Prop|layer{nm:Str}{sl:Int}(h1:Wd nm)(h2:nm∉M.las.map cG.nm)(h3:0<=sl/\sl<=M.p)(h4:sl∉M.las.map cG.sl)(h5:M.las.length<4):jc K H M (.layer nm sl) [.str "layer",.str nm,.int sl]|trial{x:dh}{ar sh ra:Addr}{ws:RS}(h1:KZ M x)(h2:x.nm∉M.trs.map dh.nm)(h3:aU K H ar (x.arms.map V.str))(h4:eY K H x.rule (.ref ra))(h5:x.rule.cnt<=30)(h6:kC ws x.rule)(h7:∀w∈ws,Wd w)(h8:ws.length<=3)(h9:aU K H sh (x.shuts.map V.str))(ha:∀s∈x.shuts,s∈M.trs.map dh.nm)(hb:x.shuts.Nodup)(hc:x.pau=false)(hd:x.clo=false)(he:x.bar=[])(hf:M.trs.length<10):jc K H M (.trial x) [.str "trial",.str x.nm,.str x.home,.ref ar,.ref ra,.ref sh]|share{t:dh}{ns:RX}{nv:Addr}(h1:t∈M.trs)(h2:aU K H nv (ns.map V.int))(h3:ns.length=t.arms.length)(h4:∀x∈ns,0<=x):jc K H M (.share t ns) [.str "share",.str t.nm,.ref nv]|deal{t:dh}{z:Int}{ws:RX}{wv:Addr}(h1:t∈M.trs)(hz:0<=z/\z<=1000)(h2:aU K H wv (ws.map V.int))(h3:ws.length=t.arms.length)(h4:∀x∈ws,1<=x/\x<=c7):jc K H M (.deal t z ws) [.str "deal",.str t.nm,.int z,.ref wv]|hold{l:cG}{z:Int}(h1:l∈M.las)(h2:0<=z):jc K H M (.hold l z) [.str "hold",.str l.nm,.int z]|pause{t:dh}(h1:t∈M.trs):jc K H M (.pause t true) [.str "pause",.str t.nm]|go{t:dh}(h1:t∈M.trs):jc K H M (.pause t false) [.str "go",.str t.nm]|close{t:dh}(h1:t∈M.trs):jc K H M (.close t) [.str "close",.str t.nm]|bar{g:Str}{t:dh}(h1:BY g)(h2:t∈M.trs):jc K H M (.bar g t) [.str "bar",.str g,.str t.nm]|visit{g:Str}{mv:V}{ms:List (Str×Int)}(h1:BY g)(h2:uf K H ms mv)(h3:∀m∈ms,Wd m.1/\-c7<=m.2/\m.2<=c7)(h4:(ms.map Prod.fst).Nodup)(h5:ms.length<=8):jc K H M (.visit g) [.str "visit",.str g,mv]
theorem jc.kp(e:Kp H H')(h:jc K H M d b):jc K H' M d b:=by cases h with|layer h1 h2 h3 h4 h5=>exact .layer h1 h2 h3 h4 h5|trial h1 h2 h3 h4 h5 h6 h7 h8 h9 c f hc hd g i=>exact .trial h1 h2 (e.tq h3) (h4.kp e) h5 h6 h7 h8 (e.tq h9) c f hc hd g i|share h1 h2 h3 h4=>exact .share h1 (e.tq h2) h3 h4|deal h1 j h2 h3 h4=>exact .deal h1 j (e.tq h2) h3 h4|hold h1 h2=>exact .hold h1 h2|pause h1=>exact .pause h1|go h1=>exact .go h1|close h1=>exact .close h1|bar h1 h2=>exact .bar h1 h2|visit h1 h2 h3 h4 h5=>exact .visit h1 (h2.kp e) h3 h4 h5
inductive zY(K:RM)(H:Hp)(many:Nat):Str->List V->Prop|share{p:Addr}{l:RX}(h1:aU K H p (l.map V.int))(h2:∀i∈l,0<=i)(h3:l.length=many):zY K H many "share" [.ref p]|deal{z:Int}{p:Addr}{l:RX}(hz:0<=z/\z<=1000)(h1:aU K H p (l.map V.int))(h2:∀i∈l,1<=i/\i<=c7)(h3:l.length=many):zY K H many "deal" [.int z,.ref p]|other{k:Str}(h1:k≠"share")(h2:k≠"deal"):zY K H many k []
inductive LS(P:RR)(w:World)(K:RM)(a:ke)(vs:List V)(H:Hp)(Q:VK)(E:XK):Prop|mk(d:Addr)(M:cg)(Z:ZS)(c:Nat)(k:Str)(t:dh)(xs:List V)(_:vs=[.ref d,.ref (Z.G .tn)])(_:aU K H d (.str k::.str t.nm::xs))(_:bB P w K a H M Z)(_:lY M c)(_:t∈M.trs)(_:zY K H t.arms.length k xs)(_:(t.clo=false->∀H',aq H H'->Q .non H'))(_:(t.clo=true->∀H',aq H H'->E (.ref a.sK) none H'))
section
def wP(T:Txt K mg a):aS P w K mg base (Aa P w) 5 a.eM.x a.eM.d ["deed","trials"] (LS P w K a):=by
 refine T.eM.okE kg λF A outer s H N Q E n h=>?_
 ·obtain⟨d,M,Z,c,k,t,R,rfl,o,y,z,B,I,q,r⟩:=h;refine⟨_,(ah (aR (pc T.bO (db T) n (O (cN K (Y 0) af) (O (Y 1) ag)))) (ah (bq 2 kg.nd (dP (ca n) (Y 1) (cN K (Y 0) af) (λ_ _=>rfl))) (ah (bq 3 kg.nd (ax (aH K rfl) (by rfl) T.bD L2.aJ (O (aI K rfl (Y 2)) ag))) (ah (aK (aD aT (cN K (Y 0) af) aC (aG _)) (ai (aR (pc T.eW (tT T) n (O (cN K (Y 0) af) (O (Y 3) ag))))) (ai (aK (aD aT (cN K (Y 0) af) aC (aG _)) (ai (aR (pc T.eu (qZ T) n (O (cN K (Y 0) af) (O (cN K (Y 0) af) (O (Y 3) ag)))))) aB))) (ai (aK (aP K rfl (aI K rfl (Y 2)) (λ_=>rfl)) (ai (AE T.yh rfl T.Bi rfl AC (O aC ag))) aB)))))),?_⟩
  obtain⟨j,u⟩:=j_.mp B;have l:=z.tr t B;have C:=z.tget (Z:=Z) u;have J:=l.a4;refine U rfl (rX o (am (k:=1) rfl) (U rfl ⟨t.nm,Z.G .tn,_,rfl,l.wd,y.tris,by rw[C];rfl,λD e=>?_⟩));have g:=y.same e;have p:=g.trial u;obtain⟨v,-,-⟩:=g.trs j t u;refine U rfl (U rfl (rX (aq.tseq e o) (am (k:=1) rfl) (rG (.ref (Z.G (.tr j))) (by rw[<-C];exact du.k (k:=.inr t.nm) g.tris) (au ?_))));refine i5 p T.be T.fq rfl rfl ⟨_,t.arms.length,rfl,.inr ⟨_,v,by simp⟩,au ?_⟩;refine U rfl (rX (aq.tseq e o) (am (k:=0) rfl) ⟨rfl,U rfl ?_⟩);have f:=aq.tseq e o;cases I with
 |share h1 h2 h3=>
   refine bQ ?_;refine U rfl (rX f (am (k:=2) rfl) (U rfl ⟨_,_,by rw[h3];rfl,aq.tseq e h1,h2,by lia,λm i=>?_⟩));refine i5 (i _ _ p) T.be T.ee rfl rfl ⟨t.clo,rfl,?_⟩;cases b:t.clo
   ·exact cj (q b m (e.trans i))
   ·exact bH ⟨ls rfl,r b m (e.trans i)⟩|deal L h1 h2 h3=>
   refine wn ?_;refine U rfl (rX f (am (k:=0) rfl) ⟨rfl,U rfl (bQ ?_)⟩);refine U rfl (rX f (am (k:=2) rfl) (U rfl (rX f (am (k:=3) rfl) (U rfl ⟨_,_,_,by rw[h3];rfl,L,aq.tseq e h1,h2,by lia,λm i=>?_⟩))));refine i5 (i _ _ p) T.be T.ee rfl rfl ⟨t.clo,rfl,?_⟩;cases b:t.clo
   ·exact cj (q b m (e.trans i))
   ·exact bH ⟨ls rfl,r b m (e.trans i)⟩|other h1 h2=>
   refine jT h1 ?_;refine U rfl (rX f (am (k:=0) rfl) ⟨rfl,U rfl (jT h2 ?_)⟩);refine i5 p T.be T.ee rfl rfl ⟨t.clo,rfl,?_⟩;cases b:t.clo
   ·exact cj (q b D e)
   ·exact bH ⟨ls rfl,r b D e⟩
end
inductive JK(P:RR)(w:World)(K:RM)(a:ke)(vs:List V)(H:Hp)(Q:VK)(E:XK):Prop|mk(dv:Addr)(M:cg)(Z:ZS)(c:Nat)(d:Dd)(xs:List V)(_:vs=[.ref dv,.int M.p,.ref (Z.G .ln),.ref (Z.G .tn)])(_:aU K H dv xs)(_:bB P w K a H M Z)(_:lY M c)(_:jc K H M d xs)(_:(d.clo=false->∀H',aq H H'->Q .non H'))(_:(d.clo=true->∀H',aq H H'->E (.ref a.sK) none H'))
section
def wR(T:Txt K mg a)(hw:w.params=a.pm):aS P w K mg base (Aa P w) 13 a.eO.x a.eO.d ["deed","prime","layers","trials"] (JK P w K a):=by
 refine T.eO.okE nU λaa A outer s H vs Q E p h=>?_
 ·obtain⟨n,M,Z,c,d,xs,rfl,e,r,u,hD,q,C⟩:=h;refine⟨_,(ah (aR (pc T.gR (wQ T hw) p (O (Y 0) ag))) (ah (bq 4 nU.nd (cN K (Y 0) af)) (ai (aK (aD aT (Y 4) aC (aG _)) (ah (aR (pc T.gQ (pO T) p (O (cN K (Y 0) af) (O (Y 2) ag)))) (ai (aR (pc T.fJ (vb T) p (O (cN K (Y 0) af) (O (Y 1) (O (Y 2) ag))))))) (ai (aK (aD aT (Y 4) aC (aG _)) (ai (aR (pc T.fI (va T) p (O (Y 0) (O (Y 2) (O (Y 3) ag)))))) (ai (aK (aD aT (Y 4) aC (aG _)) (ah (aR (pc T.bO (db T) p (O (cN K (Y 0) af) (O (Y 2) ag)))) (ai (aR (pc T.fO (vg T) p (O (cN K (Y 0) af) ag))))) (ai (aK (aD aT (Y 4) aC (aG _)) (ah (aR (pc T.dI (jy T) p (O (cN K (Y 0) af) ag))) (ai (aR (pc T.bO (db T) p (O (cN K (Y 0) af) (O (Y 3) ag)))))) (ai (aK (aD aT (Y 4) aC (aG _)) (ah (aR (pc T.dI (jy T) p (O (cN K (Y 0) af) ag))) (ai (aR (pc T.fL (vd T) p (O (cN K (Y 0) af) ag))))) (ai (aR (bS ((wP T).mono (by decide)) p rfl T.eM.m T.eM.f.kp T.eM.b .nil iB (O (Y 0) (O (Y 3) ag))))))))))))))))),?_⟩
  have v:∀t∈M.trs,(a0 (jR (M.trs.map dh.nm) λi=>V.ref (Z.G (.tr i))) (.inr t.nm)).isSome=true:=λt ht=>by obtain⟨j,R⟩:=j_.mp ht;rw[u.tget (Z:=Z) R];rfl
  have B:∀l∈M.las,(a0 (jR (M.las.map cG.nm) λi=>V.ref (Z.G (.lo i))) (.inr l.nm)).isSome=true:=λl hl=>by obtain⟨j,R⟩:=j_.mp hl;rw[u.lget (Z:=Z) R];rfl
  cases hD with|@layer nm sl h1 h2 h3 h4 h5=>refine U rfl ⟨n,_,_,rfl,e,T.rT,?_⟩;refine U rfl (rX e (am (k:=0) rfl) (au ?_));refine U rfl ⟨rfl,U rfl (bQ ?_)⟩;refine U rfl (rX e (am (k:=1) rfl) (U rfl ⟨_,Z.G .ln,_,rfl,h1,r.lays,mK h2,λL o=>?_⟩));exact U rfl (rX (aq.tseq o e) (am (k:=2) rfl) (U rfl (U rfl ⟨sl,M,Z,rfl,r.same o,by exact sm h5,h3.1,h3.2,h4,λD F=>q rfl D (o.trans F)⟩)))|@trial x ar sh ra S h1 h2 h3 h4 h5 h6 h7 h8 h9 ha hb hc hd he hf=>refine U rfl ⟨n,_,_,rfl,e,T.rQ,?_⟩;refine U rfl (rX e (am (k:=0) rfl) (au ?_));refine U rfl ⟨rfl,U rfl (wn ?_)⟩;refine U rfl ⟨rfl,U rfl (bQ ?_)⟩;obtain⟨W,I,J⟩:=mu.mp h1.hm;refine U rfl (U rfl (U rfl ⟨n,Z.G .ln,Z.G .tn,ar,sh,.ref ra,x.nm,x.home,x.rule,S,x.arms,x.shuts,_,_,rfl,e,h1.wd,by rw[<-J];exact(u.la W I).wd,r.lays,r.tris,mK h2,by rw[<-J];exact B W I,h3,h1.aw,h1.nd,h1.a1,h1.a4,h4,h1.hg,h5,h6,h7,h8,h9,λy hy=>?_,hb,h1.s8,q rfl⟩));obtain⟨z,N,X⟩:=mu.mp (ha y hy);exact⟨by rw[<-X];exact(u.tr z N).wd,by rw[<-X];exact v z N⟩|@hold l z h1 h2=>refine U rfl ⟨n,_,_,rfl,e,T.t8,?_⟩;refine U rfl (rX e (am (k:=0) rfl) (au ?_));(iterate 2 refine U rfl ⟨rfl,U rfl (wn ?_)⟩);refine U rfl ⟨rfl,U rfl (bQ ?_)⟩;refine U rfl (rX e (am (k:=1) rfl) (U rfl ⟨_,Z.G .ln,_,rfl,(u.la l h1).wd,r.lays,B l h1,λL o=>?_⟩));exact U rfl ⟨n,_,2,_,rfl,rfl,aq.tseq o e,am (k:=2) rfl,_,rfl,h2,q rfl L o⟩|@bar g t h1 h2=>refine U rfl ⟨n,_,_,rfl,e,T.vA,?_⟩;refine U rfl (rX e (am (k:=0) rfl) (au ?_));(iterate 3 refine U rfl ⟨rfl,U rfl (wn ?_)⟩);refine U rfl ⟨rfl,U rfl (bQ ?_)⟩;refine U rfl (rX e (am (k:=1) rfl) ⟨g,rfl,h1,λL o=>?_⟩);exact U rfl (rX (aq.tseq o e) (am (k:=2) rfl) (U rfl ⟨t.nm,Z.G .tn,_,rfl,(u.tr t h2).wd,o _ _ r.tris,v t h2,λD F=>q rfl D (o.trans F)⟩))|@visit g mv ms h1 h2 h3 h4 h5=>refine U rfl ⟨n,_,_,rfl,e,T.rP,?_⟩;refine U rfl (rX e (am (k:=0) rfl) (au ?_));(iterate 4 refine U rfl ⟨rfl,U rfl (wn ?_)⟩);refine U rfl ⟨rfl,U rfl (bQ ?_)⟩;refine U rfl (rX e (am (k:=1) rfl) ⟨g,rfl,h1,λL o=>?_⟩);exact U rfl (rX (aq.tseq o e) (am (k:=2) rfl) ⟨mv,ms,rfl,h2.kp (.of o),h3,h4,h5,λD F=>q rfl D (o.trans F)⟩)|@share t ns nv h1 h2 h3 h4=>refine U rfl ⟨n,_,_,rfl,e,T.rR,?_⟩;refine U rfl (rX e (am (k:=0) rfl) (au ?_));(iterate 5 refine U rfl ⟨rfl,U rfl (wn ?_)⟩);exact U rfl (U rfl ⟨n,M,Z,c,_,t,_,rfl,e,r,u,h1,.share h2 h4 h3,q,C⟩)|@deal t z S wv h1 N h2 h3 h4=>refine U rfl ⟨n,_,_,rfl,e,T.t9,?_⟩;refine U rfl (rX e (am (k:=0) rfl) (au ?_));(iterate 5 refine U rfl ⟨rfl,U rfl (wn ?_)⟩);exact U rfl (U rfl ⟨n,M,Z,c,_,t,_,rfl,e,r,u,h1,.deal N h2 h4 h3,q,C⟩)|@pause t h1=>refine U rfl ⟨n,_,_,rfl,e,T.rS,?_⟩;refine U rfl (rX e (am (k:=0) rfl) (au ?_));(iterate 5 refine U rfl ⟨rfl,U rfl (wn ?_)⟩);exact U rfl (U rfl ⟨n,M,Z,c,_,t,_,rfl,e,r,u,h1,.other (by decide+kernel) (by decide+kernel),q,C⟩)|@go t h1=>refine U rfl ⟨n,_,_,rfl,e,T.xg,?_⟩;refine U rfl (rX e (am (k:=0) rfl) (au ?_));(iterate 5 refine U rfl ⟨rfl,U rfl (wn ?_)⟩);exact U rfl (U rfl ⟨n,M,Z,c,_,t,_,rfl,e,r,u,h1,.other (by decide+kernel) (by decide+kernel),q,C⟩)|@close t h1=>refine U rfl ⟨n,_,_,rfl,e,T.rW,?_⟩;refine U rfl (rX e (am (k:=0) rfl) (au ?_));(iterate 5 refine U rfl ⟨rfl,U rfl (wn ?_)⟩);exact U rfl (U rfl ⟨n,M,Z,c,_,t,_,rfl,e,r,u,h1,.other (by decide+kernel) (by decide+kernel),q,C⟩)
end
def Ik(b:RX)(n:Nat):∀i∈deal b n,0<=i:=λi hi=>by obtain⟨k,c⟩:=j_.mp hi;have:=(uq b n k).1;unfold gd at this;rw[oD,c]at this;exact this
inductive fB(M:cg):Dd->cg->Prop|layer{nm:Str}{sl:Int}:fB M (.layer nm sl) (zV M nm sl)|trial{x:dh}:fB M (.trial x) (zU M x)|share{t:dh}{ns:RX}{i:Nat}{l:cG}(hl:M.las[i]?=some l)(hh:l.nm=t.home)(hn:cJ l.S (m6 t.nm t.arms ns)<=((iE M.p l.S.oc).length:Int)):fB M (.share t ns) (lE M i l t ns)|deal{t:dh}{z:Int}{ws:RX}{i:Nat}{l:cG}(hl:M.las[i]?=some l)(hh:l.nm=t.home)(hn:cJ l.S (m6 t.nm t.arms (deal ws z.toNat))<=((iE M.p l.S.oc).length:Int)):fB M (.deal t z ws) (lE M i l t (deal ws z.toNat))|hold{l:cG}{z:Int}{i:Nat}(hl:M.las[i]?=some l):fB M (.hold l z) (HG M i l z)|pause{t:dh}{b:Bool}{j:Nat}(hj:M.trs[j]?=some t):fB M (.pause t b) (M.setT j {t with pau:=b})|close{t:dh}{i j:Nat}{l:cG}(hj:M.trs[j]?=some t)(hl:M.las[i]?=some l)(hh:l.nm=t.home):fB M (.close t) (lE (M.setT j {t with clo:=true}) i l {t with clo:=true} (nQ t))|bar{g:Str}{t:dh}{i j:Nat}{l:cG}(hj:M.trs[j]?=some t)(hl:M.las[i]?=some l)(hh:l.nm=t.home):fB M (.bar g t) (Dj M i j l t g)|visit{g:Str}{M':cg}(h:ka g M M'):fB M (.visit g) M'
def Dd.adds:Dd->Bool|.layer _ _=>true|.trial _=>true|_=>false
def Dd.clo_adds{d:Dd}(h:d.clo=true):d.adds=false:=by cases d<;>first|rfl|cases h
inductive L1(P:RR)(w:World)(K:RM)(a:ke)(vs:List V)(H:Hp)(Q:VK)(E:XK):Prop|mk(M:cg)(Z:ZS)(c:Nat)(dv:Addr)(d:Dd)(xs:List V)(_:vs=[.ref (Z.G .hh),.ref dv])(_:cY P w K a H M Z c)(_:c<=63)(_:aU K H dv xs)(_:jc K H M d xs)(_:(∀(r:Addr)(us:List V)(M':cg)(Z':ZS)(H':Hp),fB M d M'->fU H M Z H' M' Z'->cY P w K a H' M' Z' (c+1)->H r=none->H' r=some (.lst us)->Z'.ds=Z.ds->Q (.ref r) H'))(_:(d.adds=false->∀H',aq H H'->E (.ref a.mV) none H'))
section
def wX(T:Txt K mg a):aS P w K mg base (Aa P w) 11 a.fG.x a.fG.d ["self","deed"] (L1 P w K a):=by
 refine T.fG.okE nV λan A outer s H vs Q E p h=>?_
 ·obtain⟨M,Z,c,dv,d,xs,rfl,y,hc,u,hD,q,V⟩:=h;refine⟨_,(ah (bq 2 nV.nd (cN K (Y 1) af)) (ah (aK (aD aT (Y 2) aC (aG _)) (ai (az (bj (Y 0) T.aE T.cW.m ((pT (P:=P) (w:=w) T).mono (by decide)) p T.cW.b .nil bo (O (cN K (Y 1) af) (O (cN K (Y 1) af) ag))))) aB) (ah (aK (aD aT (Y 2) aC (aG _)) (ai (az (bj (Y 0) T.aE T.cV.m ((pS (P:=P) (w:=w) T).mono (by decide)) p T.cV.b .nil bo (O (cN K (Y 1) af) (O (uj T.G7 ((tU (P:=P) (w:=w) T).mono (by decide)) p rfl T.Kg T.dW.b .nil bo (O (cN K (Y 1) af) (O (cN K (Y 1) af) (O (cN K (Y 1) af) (O (cN K (Y 1) af) ag))))) ag))))) aB) (ah (aK (aD aT (Y 2) aC (aG _)) (ai (az (bj (Y 0) T.aE T.bI.m ((gf (P:=P) (w:=w) T).mono (by decide)) p T.bI.b .nil iB (O (cN K (Y 1) af) (O (cN K (Y 1) af) ag))))) aB) (ah (aK (aD aT (Y 2) aC (aG _)) (ai (az (bj (Y 0) T.aE T.bI.m ((gf (P:=P) (w:=w) T).mono (by decide)) p T.bI.b .nil iB (O (cN K (Y 1) af) (O (pc T.sZ (GU T) p (O (cN K (Y 1) af) (O (cN K (Y 1) af) ag))) ag))))) aB) (ah (aK (aD aT (Y 2) aC (aG _)) (ai (az (bj (Y 0) T.aE T.dq.m ((q9 (P:=P) (w:=w) T).mono (by decide)) p T.dq.b .nil iB (O (cN K (Y 1) af) (O (cN K (Y 1) af) ag))))) aB) (ah (aK (aD aT (Y 2) aC (aG _)) (ai (az (bj (Y 0) T.aE T.ce.m ((j6 (P:=P) (w:=w) T).mono (by decide)) p T.ce.b .nil bo (O (cN K (Y 1) af) (O iG ag))))) aB) (ah (aK (aD aT (Y 2) aC (aG _)) (ai (az (bj (Y 0) T.aE T.ce.m ((j6 (P:=P) (w:=w) T).mono (by decide)) p T.ce.b .nil bo (O (cN K (Y 1) af) (O iG ag))))) aB) (ah (aK (aD aT (Y 2) aC (aG _)) (ai (az (bj (Y 0) T.aE T.cX.m ((pU (P:=P) (w:=w) T).mono (by decide)) p T.cX.b .nil iB (O (cN K (Y 1) af) ag)))) aB) (ah (aK (aD aT (Y 2) aC (aG _)) (ai (az (bj (Y 0) T.aE T.d7.m ((tY (P:=P) (w:=w) T).mono (by decide)) p T.d7.b .nil bo (O (cN K (Y 1) af) (O (cN K (Y 1) af) ag))))) aB) (ai (az (bj (Y 0) T.aE T.cU.m ((pR (P:=P) (w:=w) T).mono (by decide)) p T.cU.b .nil bo (O (cN K (Y 1) af) (O (cN K (Y 1) af) ag))))))))))))))),?_⟩
  have F:=y.g.house;cases hD with|@layer nm sl h1 h2 h3 h4 h5=>refine U rfl (rX u (am (k:=0) rfl) (au ?_));refine U rfl ⟨rfl,U rfl (bQ ?_)⟩;exact pq F rfl rfl (U rfl (rX u (am (k:=1) rfl) (U rfl (rX u (am (k:=2) rfl) ⟨M,Z,c,nm,sl,rfl,y,h1,h2,h3,h5,λr B H' st f p n v=>q r [] _ B H' .layer st (f.mono (qc c)) p n v⟩))))|@trial x ar sh ra J h1 h2 h3 h4 h5 h6 h7 h8 h9 ha hb W hd he hf=>
   refine U rfl (rX u (am (k:=0) rfl) (au ?_));refine U rfl ⟨rfl,U rfl (wn ?_)⟩;refine U rfl ⟨rfl,U rfl (bQ ?_)⟩;refine pq F rfl rfl (U rfl (rX u (am (k:=1) rfl) ?_));refine U rfl (rX u (am (k:=2) rfl) (U rfl (rX u (am (k:=3) rfl) (U rfl (rX u (am (k:=4) rfl) (U rfl (rX u (am (k:=5) rfl) (λt ty L X ap=>?_))))))));have s2:aq H (aA (aA H ty (.own t)) t (.ins a.fw ty [])):=λb o e=>by rw[ao (aF e L),ao (aF e X)];exact e
   have N:aA (aA H ty (.own t)) t (.ins a.fw ty []) t=some (.ins a.fw ty []):=ae;generalize aA (aA H ty (.own t)) t (.ins a.fw ty [])=H2 at s2 N⊢;refine⟨t,ty,ar,ra,sh,x.home,rfl,N,λba H3 aa f3 ac ad=>⟨rfl,?_⟩⟩;have s3:aq H H3:=λb o e=>f3 b o (s2 b o e) (aF e L);exact⟨M,Z,c,H,t,ba,ty,ar,sh,.ref ra,x,rfl,y,s3,L,s2.free aa,ad,ac,h3,h4,h9,W,hd,he,h1,h2,hf,λr B H' st f p n v=>q r [] _ B H' .trial st (f.mono (qc c)) p n v⟩|@share t ns nv h1 h2 h3 h4=>obtain⟨j,C⟩:=j_.mp h1;obtain⟨i,l,D,hh⟩:=y.ok.home h1;refine U rfl (rX u (am (k:=0) rfl) (au ?_));(iterate 2 refine U rfl ⟨rfl,U rfl (wn ?_)⟩);refine U rfl ⟨rfl,U rfl (bQ ?_)⟩;exact pq F rfl rfl (U rfl (rX u (am (k:=1) rfl) (U rfl (rX u (am (k:=2) rfl) ⟨M,Z,c,i,j,l,t,nv,ns,rfl,y,hc,C,D,hh,.inr h2,h3,h4,λG r I B H' st f p n v=>q r I _ B H' (.share D hh G) st f p n v,λ_=>V rfl⟩))))|@deal t z J wv h1 hz h2 h3 h4=>
   obtain⟨j,C⟩:=j_.mp h1;obtain⟨i,l,D,hh⟩:=y.ok.home h1;have R:=y.ok.tr t h1;have a1:=R.a1;have a4:=R.a4;refine U rfl (rX u (am (k:=0) rfl) (au ?_));(iterate 3 refine U rfl ⟨rfl,U rfl (wn ?_)⟩);refine U rfl ⟨rfl,U rfl (bQ ?_)⟩;refine pq F rfl rfl (U rfl (rX u (am (k:=1) rfl) (U rfl (rX u (am (k:=2) rfl) (U rfl (rX u (am (k:=3) rfl) ⟨z.toNat,wv,J,by rw[show((z.toNat:Nat):Int)=z by lia];rfl,by lia,h2,by lia,by lia,λtv H1 S L=>?_⟩))))));have al:(deal J z.toNat).length=t.arms.length:=by rw[k9];exact h3
   exact⟨M,Z,c,i,j,l,t,tv,deal J z.toNat,rfl,y.same S,hc,C,D,hh,.inr (aU.of L),al,Ik J z.toNat,λG r I B H' st f p n v=>q r I _ B H' (.deal D hh G) ((fU.of S).trans st) f (S.free p) n v,λ_ H' s'=>V rfl H' (S.trans s')⟩|@hold l z h1 h2=>obtain⟨i,D⟩:=j_.mp h1;refine U rfl (rX u (am (k:=0) rfl) (au ?_));(iterate 4 refine U rfl ⟨rfl,U rfl (wn ?_)⟩);refine U rfl ⟨rfl,U rfl (bQ ?_)⟩;exact pq F rfl rfl (U rfl (rX u (am (k:=1) rfl) (U rfl (rX u (am (k:=2) rfl) ⟨M,Z,c,i,l,z,rfl,y,hc,D,h2,λG r B H' st f p n v=>q r [] _ B H' (.hold D) st f p n v,λ_=>V rfl⟩))))|@pause t h1=>obtain⟨j,C⟩:=j_.mp h1;refine U rfl (rX u (am (k:=0) rfl) (au ?_));(iterate 5 refine U rfl ⟨rfl,U rfl (wn ?_)⟩);refine U rfl ⟨rfl,U rfl (bQ ?_)⟩;exact pq F rfl rfl (U rfl (rX u (am (k:=1) rfl) ⟨M,Z,c,j,t,true,rfl,y,C,λr H' st f p n=>q r [] _ Z H' (.pause C) st (f.mono (qc c)) p n rfl⟩))|@go t h1=>obtain⟨j,C⟩:=j_.mp h1;refine U rfl (rX u (am (k:=0) rfl) (au ?_));(iterate 6 refine U rfl ⟨rfl,U rfl (wn ?_)⟩);refine U rfl ⟨rfl,U rfl (bQ ?_)⟩;exact pq F rfl rfl (U rfl (rX u (am (k:=1) rfl) ⟨M,Z,c,j,t,false,rfl,y,C,λr H' st f p n=>q r [] _ Z H' (.pause C) st (f.mono (qc c)) p n rfl⟩))|@close t h1=>obtain⟨j,C⟩:=j_.mp h1;obtain⟨i,l,D,hh⟩:=y.ok.home h1;refine U rfl (rX u (am (k:=0) rfl) (au ?_));(iterate 7 refine U rfl ⟨rfl,U rfl (wn ?_)⟩);refine U rfl ⟨rfl,U rfl (bQ ?_)⟩;exact pq F rfl rfl (U rfl (rX u (am (k:=1) rfl) ⟨M,Z,c,i,j,l,t,rfl,y,hc,C,D,hh,λr I B H' st f p n v=>q r I _ B H' (.close C D hh) st f p n v⟩))|@bar g t h1 h2=>obtain⟨j,C⟩:=j_.mp h2;obtain⟨i,l,D,hh⟩:=y.ok.home h2;refine U rfl (rX u (am (k:=0) rfl) (au ?_));(iterate 8 refine U rfl ⟨rfl,U rfl (wn ?_)⟩);refine U rfl ⟨rfl,U rfl (bQ ?_)⟩;exact pq F rfl rfl (U rfl (rX u (am (k:=1) rfl) (U rfl (rX u (am (k:=2) rfl) ⟨M,Z,c,i,j,l,t,g,rfl,y,hc,C,D,hh,h1,λr I B H' st f p n v=>q r I _ B H' (.bar C D hh) st f p n v⟩))))|@visit g mv ms h1 h2 h3 h4 h5=>refine U rfl (rX u (am (k:=0) rfl) (au ?_));(iterate 9 refine U rfl ⟨rfl,U rfl (wn ?_)⟩);exact pq F rfl rfl (U rfl (rX u (am (k:=1) rfl) (U rfl (rX u (am (k:=2) rfl) ⟨M,Z,c,g,mv,ms,rfl,y,hc,h1,h2,h5,λr I M' B H' vt st f p n v=>q r I M' B H' (.visit vt) st f p n v⟩))))
end
inductive N8(P:RR)(w:World)(K:RM)(a:ke)(vs:List V)(H:Hp)(Q:VK)(E:XK):Prop|mk(M:cg)(Z:ZS)(c:Nat)(dv:Addr)(d:Dd)(xs:List V)(_:vs=[.ref (Z.G .hh),.ref dv])(_:cY P w K a H M Z c)(_:c<=63)(_:aU K H dv xs)(_:jc K H M d xs)(_:(d.clo=false->∀(r:Addr)(us:List V)(M':cg)(Z':ZS)(H':Hp),fB M d M'->fU H M Z H' M' Z'->cY P w K a H' M' Z' (c+1)->H r=none->H' r=some (.lst us)->Q (.ref r) H'))(_:(d.adds=false->∀H',aq H H'->E (.ref a.mV) none H'))(_:(d.adds=false->∀H',aq H H'->E (.ref a.sK) none H'))
section
def AX(T:Txt K mg a)(S:w.params=a.pm):aS P w K mg base (Aa P w) 14 a.jI.x a.jI.d ["self","deed"] (N8 P w K a):=by
 refine T.jI.okE sM λV A outer s H vs Q E l h=>?_
 ·obtain⟨M,Z,c,n,d,J,rfl,o,hc,L,N,q,W,X⟩:=h;refine⟨_,(ah (aR (bS ((wR T S).mono (by decide)) l rfl T.eO.m T.eO.f.kp T.eO.b .nil iB (O (Y 1) (O (aI K rfl (Y 0)) (O (aI K rfl (Y 0)) (O (aI K rfl (Y 0)) ag)))))) (ah (bq 2 sM.nd (bj (Y 0) T.aE T.fG.m ((wX (P:=P) (w:=w) T).mono (by decide)) l T.fG.b .nil iB (O (Y 1) ag))) (ah (aR (jw K rfl PySem.F.plainAttrs_list PySem.F.slot_list_append PySem.F.type_list_append eU (aI K rfl (Y 0)) (O (Y 1) ag))) (ai (az (Y 2)))))),?_⟩
  have v:=o.g.house;refine U rfl (i5 v T.aE T.cR rfl rfl (i5 v T.aE T.aY rfl rfl (i5 v T.aE T.aQ rfl rfl ?_)));refine⟨n,M,Z,c,d,J,rfl,L,o.g,o.ok,N,λk H1 i=>?_,λk=>X (Dd.clo_adds k)⟩;refine pq (i _ _ v) rfl rfl (U rfl ⟨M,Z,c,n,d,J,rfl,o.same i,hc,aq.tseq i L,N.kp (.of i),λr us y j R nx st e l B p=>?_,λha H' s'=>W ha H' (i.trans s')⟩);have t:=e.g.house;rw[st.hh]at t;have u:=e.g.dees;have C:=o.ds;refine au (i5 t T.aE T.mM rfl rfl ⟨.inl ⟨rfl,_,aW.of u⟩,U rfl (rA u (by rw[p,k4];lia) ?_)⟩);have D:=e.g.deed (.ref n);have I:fU R y j (aA R (j.G .dl) (.lst (j.ds++[.ref n]))) y {j with ds:=j.ds++[.ref n]}:=fU.put (r:=.dl) trivial rfl rfl rfl rfl λx hx=>.inl hx;refine U rfl (q k r us y {j with ds:=j.ds++[.ref n]} _ nx (((fU.of i).trans st).trans I) ⟨D,e.ok,e.tk,e.ow,by show(j.ds++[_]).length<=c+1;rw[iA,p];exact B_ C⟩ (i.free l) ?_);rw[ao λz=>?_]
  ·exact B
  ·rw[z,st.dd,i _ _ o.g.dees]at l;cases l
end
def aN(l:cG)(t:dh):List Int:=t.arms.map λz=>((l.S.pl (cu t.nm z)).length:Int)
def lF(l:cG)(g:Str):Option (Str×Str):=(l.ins.find? λx=>decide (x.1=g)).map (·.2)
def oC(M:cg)(g:Str):List (Str×Str×Str):=M.las.filterMap λl=>(lF l g).map λp=>(l.nm,p.1,p.2)
def yw(K:RM)(H:Hp)(b:V):Option (Str×Str)->Prop|none=>b=.non|some p=>∃s,b=.ref s/\aU K H s [.str p.1,.str p.2]
def yw.kp(e:Kp H H')(h:yw K H b o):yw K H' b o:=by cases o with|none=>exact h|some p=>obtain⟨s,h1,h2⟩:=h;exact⟨s,h1,e.tq h2⟩
def bU.seat(g:Str)(h:bU K H iv ins):yw K H ((a0 iv (.inr g)).getD .non) ((ins.find? λx=>decide (x.1=g)).map (·.2)):=by induction h with|nil=>rfl|@cons _ y _ _ h _ b=>
  by_cases e:y.1=g
  ·obtain⟨h1,s,h2,h3⟩:=h;rw[ck (by rw[h1,e]),List.find?_cons_of_pos (by simp[e]),h2];exact⟨s,rfl,h3⟩
  ·rw[bK (λz=>e (by rw[h.1]at z;exact ro z)),List.find?_cons_of_neg (by simp[e])];exact b
def yx(K:RM)(H:Hp)(g:Str)(d:List V)(ls:List cG):Prop:=Paired (λ(u:V)(l:cG)=>∃b c,u=.ref b/\aU K H b [.str l.nm,c]/\yw K H c (lF l g)) d ls
def gq(K:RM)(H:Hp)(c:List V)(d:List (Str×Str×Str)):Prop:=Paired (λ(u:V)(y:Str×Str×Str)=>∃b,u=.ref b/\aU K H b [.str y.1,.str y.2.1,.str y.2.2]) c d
theorem yx.kp{g:Str}(e:Kp H H'){b:List V}{ls:List cG}(h:yx K H g b ls):yx K H' g b ls:=Paired.mapP h λ_ _ q=>q.imp λ_ q=>q.imp λ_ q=>⟨q.1,e.tq q.2.1,q.2.2.kp e⟩
def gq.kp(e:Kp H H')(h:gq K H b c):gq K H' b c:=Paired.mapP h λ_ _ q=>q.imp λ_ q=>⟨q.1,e.tq q.2⟩
def yx.get{g:Str}{c:List V}{ls:List cG}(h:yx K H g c ls)(k:Nat)(u:V)(e:c[k]?=some u):∃l,ls[k]?=some l/\∃b d,u=.ref b/\aU K H b [.str l.nm,d]/\yw K H d (lF l g):=Paired.at_ h k u e
inductive LR(P:RR)(w:World)(K:RM)(a:ke)(vs:List V)(H:Hp)(Q:VK)(_E:XK):Prop|mk(M:cg)(Z:ZS)(c i j:Nat)(l:cG)(t:dh)(z:Str)(_:vs=[.ref (Z.G .hh),.str t.nm,.str z])(_:cY P w K a H M Z c)(_:M.trs[j]?=some t)(_:M.las[i]?=some l)(_:l.nm=t.home)(_:∀(r:Addr)H',aq H H'->H r=none->H' r=some (.lst ((l.S.pl (cu t.nm z)).map V.int))->Q (.ref r) H')
inductive F6(P:RR)(w:World)(K:RM)(a:ke)(vs:List V)(H:Hp)(Q:VK)(_E:XK):Prop|mk(M:cg)(Z:ZS)(c i j:Nat)(l:cG)(t:dh)(_:vs=[.ref (Z.G .hh),.str t.nm])(_:cY P w K a H M Z c)(_:M.trs[j]?=some t)(_:M.las[i]?=some l)(_:l.nm=t.home)(_:∀(r:Addr)H',aq H H'->H r=none->H' r=some (.tup ((aN l t).map V.int))->Q (.ref r) H')
inductive Jq(P:RR)(w:World)(K:RM)(a:ke)(vs:List V)(H:Hp)(Q:VK)(_E:XK):Prop|mk(M:cg)(Z:ZS)(c:Nat)(g:Str)(_:vs=[.ref (Z.G .hh),.str g])(_:cY P w K a H M Z c)(_:BY g)(_:∀(r:Addr)(us:List V)H',aq H H'->H r=none->H' r=some (.lst us)->gq K H' us (oC M g)->Q (.ref r) H')
section
def oU(T:Txt K mg a):aS P w K mg base dw 2 a.cH.x a.cH.d ["self","trial","arm"] (LR P w K a):=by
 refine T.cH.ok oG λS A outer s H vs Q E n h=>?_
 ·obtain⟨M,Z,c,i,j,l,t,z,rfl,e,L,B,hh,q⟩:=h;refine⟨_,(ai (az (bj (aI K rfl (dP (ca n) (aI K rfl (Y 0)) (aI K rfl (dP (ca n) (aI K rfl (Y 0)) (Y 1) (λ_ _=>rfl))) (λ_ _=>rfl))) T.bh T.a9.m ((dQ (P:=P) (w:=w) T).mono (by decide)) n T.a9.b .nil bo (O (bC (O (Y 1) (O (Y 2) ag))) ag)))),?_⟩;have N:=e.g.house;have C:=e.g.trial L;obtain⟨m,f,D⟩:=e.g.tab B;obtain⟨V,F⟩:=f.ins;have u:=e.ok.lget (Z:=Z) B;rw[hh]at u;refine i5 N T.aE T.aY rfl rfl ?_;refine i5 N T.aE T.aQ rfl rfl (U rfl (rG (.ref (Z.G (.tr j))) (by rw[<-e.ok.tget (Z:=Z) L];exact du.k (k:=.inr t.nm) e.g.tris) ?_));refine rF C T.be T.iC rfl (rG (.ref (Z.G (.lo i))) (by rw[<-u];exact du.k (k:=.inr t.home) e.g.lays) ?_);refine rF (e.g.layer B) T.bW T.eJ rfl (rM F rfl ?_);refine U rfl (U rfl ⟨ls rfl,λv I=>?_⟩);have y:=aj (o:=.tup [.str t.nm,.str z]) (aq.refl H) I;have R:aA H v (.tup [.str t.nm,.str z]) v=some (.tup [.str t.nm,.str z]):=ae;generalize aA H v (.tup [.str t.nm,.str z])=H4 at y R⊢;refine⟨Z.G (.tb i),Z.G (.od i),Z.G (.td i),M.p,Z.ow i,Z.tk i,m,cu t.nm z,.ref v,rfl,f.same y,⟨v,rfl,aU.of R⟩,λr W X n J=>q r W (y.trans X) (y.free n) ?_⟩;rw[<-D.1];exact J
def tX(T:Txt K mg a):aS P w K mg base dw 4 a.d6.x a.d6.d ["self","trial"] (F6 P w K a):=by
 refine T.d6.ok tQ λaa A outer s H vs Q E p h=>?_
 ·obtain⟨M,Z,c,i,j,l,t,rfl,o,y,hl,hh,q⟩:=h;refine⟨_,(ah (aR (pc T.fM (ve T) p (O (Y 1) (O (aI K rfl (Y 0)) ag)))) (ai (az (c6 (dJ K rfl) (by rfl) T.dz L2.bM (O (wB jF ["arm"] [] [2] (ak f8) (bZ 2) (iz K rfl (aI K rfl (dP (ca p) (aI K rfl (Y 0)) (Y 1) (λ_ _=>rfl)))) (λcl C s₀ H₀ ex=>⟨(nq jF ["arm"] 2),bR,(ax (aH K rfl) (by rfl) T.bD L2.aJ (O (bj (Y 0) T.aE T.cH.m ((oU (P:=P) (w:=w) T).mono (by decide)) p T.cH.b .nil bo (O (Y 1) (O (Y 2) ag))) ag))⟩)) ag))))),?_⟩
  have I:=o.g.house;have J:=o.g.trial y;have B:=o.ok.tr t (il y);obtain⟨F,-,-⟩:=o.g.trs j t y;have W:=o.ok.tget (Z:=Z) y;have a4:=B.a4;refine U rfl (i5 I T.aE T.aQ rfl rfl ⟨t.nm,Z.G .tn,rfl,B.wd,.inl ⟨_,o.g.tris,by rw[W];rfl⟩,λH1 u=>?_⟩);refine i5 (u _ _ I) T.aE T.aQ rfl rfl (U rfl (rG (.ref (Z.G (.tr j))) (by rw[<-W];exact du.k (k:=.inr t.nm) (u _ _ o.g.tris)) ?_));refine rF (u _ _ J) T.be T.fq rfl ⟨Z.ar j,rfl,⟨_,aq.tseq u F⟩,λD X=>?_⟩;have L:H D=none:=u.free X;refine gm (K:=K) (a:=Z.ar j) (xs:=t.arms.map V.str) (λk f H'=>aq H H'/\H' D=some (.lst f)/\f=((aN l t).take k).map V.int) ⟨aj u X,ae,rfl⟩ (λk f H' _ h=>aq.tseq h.1 F) ?_ ?_
  ·rintro k x f H2 N⟨v,n,rfl⟩;have hi:k<(t.arms.map V.str).length:=(d_.mp N).1;rw[ir]at N;obtain⟨z,hz,rfl⟩:=Option.map_eq_some_iff.mp N;refine au (iL (bH ?_));refine pq (v _ _ I) rfl rfl (U rfl (U rfl ⟨M,Z,c,i,j,l,t,z,rfl,o.same v,y,hl,hh,λr H3 s3 p R=>?_⟩));refine⟨_,U rfl ⟨.inl ⟨_,aW.of R,rfl⟩,s3 _ _ n,by rw[c_,m3,k4];rw[c_]at hi;lia,lf hi ⟨bu (v.trans s3) L,ae,?_⟩⟩⟩;have e:(aN l t)[k]?=some ((l.S.pl (cu t.nm z)).length:Int):=by unfold aN;rw[ir,hz];rfl
   rw[c8 e,j1,c_];rfl
  ·rintro f H2⟨v,n,rfl⟩;rw[c_,mo (by unfold aN;rw[c_];exact g_ _)]at n;exact⟨D,U rfl (.inl ⟨aW.of n,λr p=>q r _ (aj v p) (v.free p) ae⟩)⟩
def mH(T:Txt K mg a):aS P w K mg base dw 4 a.df.x a.df.d ["self","guest"] (Jq P w K a):=by
 refine T.df.ok mw λbp A outer s H vs Q E hr h=>?_
 ·obtain⟨M,Z,c,g,rfl,hZ,hg,q⟩:=h;refine⟨_,(ah (aR (pc T.dI (jy T) hr (O (Y 1) ag))) (ah (Cj (P:=P) (w:=w) (C9 2 dn ["name","layer"] [] [3,4] (ak fk) (vD _ 3 4) (AG (P:=P) (w:=w) (aI K rfl (Y 0))) (λcl C s₀ H₀ ex=>⟨(gb K rfl rfl (bF (nq dn ["name","layer"] 3) (bF (nq dn ["name","layer"] 4) ga))),bR,(bC (O (Y 3) (O (u5 (ca hr) (aI K rfl (Y 4)) (Y 1) ⟨rfl,rfl,rfl,rfl⟩) ag)))⟩) mw.nd)) (ai (az (wB dn ["name","seat"] [] [3,4] (ak fk) (vD _ 3 4) (d9 K rfl (Y 2)) (λcl C s₀ H₀ ex=>⟨(gb K rfl rfl (bF (nq dn ["name","seat"] 3) (bF (nq dn ["name","seat"] 4) ga))),(ui (aD DA (Y 4) oS (aG _))),(av (u9 K rfl) (bC (O (Y 3) ag)) (Y 4))⟩)))))),?_⟩
  have bt:=hZ.ok.l4;refine U rfl ⟨g,rfl,hg,λH1 s1=>?_⟩;have J:=hZ.same s1;have an:=J.g.lays;refine i5 J.g.house T.aE T.aY rfl rfl ⟨Z.G .ln,U rfl ⟨an,λep=>λD hD=>?_⟩⟩;have nd:Z.G .ln≠D:=λz=>by rw[<-z,ae]at hD;cases hD
  have ap:H1 D=none:=by rw[ao (ol nd)]at hD;exact hD
  refine zL (n:=M.las.length) (λk f H2=>(∀b o,H1 b=some o->b≠Z.G .ln->H2 b=some o)/\H2 (Z.G .ln)=some (dE P w (Z.G .ln) (jR (M.las.map cG.nm) λi=>.ref (Z.G (.lo i))) ep)/\H2 D=some (.lst f)/\yx K H2 g f (M.las.take k)) ⟨λb o e n=>by rw[ao (aF e ap),ao n];exact e,by rw[ao nd,ae],ae,.nil⟩ (λk f H2 W h=>⟨h.2.1,by rw[i9,c_];exact W⟩) ?_ ?_
  ·rintro k f L x S W⟨f4,t,X,I⟩⟨T1,kk,vv,a8,rfl,rfl,as⟩;have V:=f_ W;rw[y4,ir,V]at as;obtain⟨rfl,rfl⟩:=Ra (k_ as);have s5:=aj (o:=.tup [kV (.inr (M.las[k]).nm),.ref (Z.G (.lo k))]) (aq.refl L) a8;have e5:aA L T1 (.tup [kV (.inr (M.las[k]).nm),.ref (Z.G (.lo k))]) T1=some (.tup [.str (M.las[k]).nm,.ref (Z.G (.lo k))]):=ae;generalize aA L T1 (.tup [kV (.inr (M.las[k]).nm),.ref (Z.G (.lo k))])=S at s5 e5⊢;have aa:ug P w K a H1 S M Z c:=⟨J,λb o e n=>s5 _ _ (f4 b o e n)⟩;refine⟨T1,U rfl ⟨aU.of e5,rfl,_,U rfl (au ⟨_,U rfl (au ⟨rfl,iL (bH ?_)⟩)⟩)⟩⟩;have ba:=aa.at_ (r:=.lo k) (by simp only[cont,V];rfl) (by simp);have a2:=aa.at_ (r:=.iu k) (by simp only[cont,V];rfl) (by simp);refine U rfl (i5 ba T.bW T.bT rfl rfl ⟨Z.G (.iu k),rfl,.inl ⟨_,.inl a2⟩,U rfl ⟨a0 (Z.iv k) (.inr g),du.k (k:=.inr g) a2,ls rfl,λT6 bb=>?_⟩⟩);have y:=aj (o:=.tup [.str (M.las[k]).nm,(a0 (Z.iv k) (.inr g)).getD .non]) (aq.refl S) bb;have e6:aA S T6 (.tup [.str (M.las[k]).nm,(a0 (Z.iv k) (.inr g)).getD .non]) T6=some (.tup [.str (M.las[k]).nm,(a0 (Z.iv k) (.inr g)).getD .non]):=ae;show aA S T6 (.tup [.str (M.las[k]).nm,(a0 (Z.iv k) (.inr g)).getD .non]) D=some (.lst f)/\_;generalize aA S T6 (.tup [.str (M.las[k]).nm,(a0 (Z.iv k) (.inr g)).getD .non])=N at y e6⊢;have m:=y _ _ (s5 _ _ X);have kp:Kp N (aA N D (.lst (f++[.ref T6]))):=.lst m;have a3:f.length=k:=by have:=Paired.length I;rw[m3]at this;lia
   refine⟨m,by rw[k4];lia,lf W ⟨λb o e n=>by rw[ao (aF e ap)];exact y _ _ (s5 _ _ (f4 b o e n)),by rw[ao nd];exact y _ _ (s5 _ _ t),ae,?_⟩⟩;rw[c8 V];have bc:=(J.g.seats k _ V).seat g;exact Paired.snoc (((I.kp (.of s5)).kp (.of y)).kp kp) ⟨T6,U rfl ⟨kp.tq (aU.of e6),((bc.kp aa.kp).kp (.of y)).kp kp⟩⟩
  ·rintro f L⟨f4,t,X,I⟩;rw[mo (g_ _)]at I;refine⟨⟨t,by rw[i9,c_];exact g_ _⟩,au ⟨Z.G .ln,_,ep,t,?_⟩⟩;have sF:aq H1 (aA L (Z.G .ln) (.dK (jR (M.las.map cG.nm) λi=>.ref (Z.G (.lo i))))):=λb o e=>by
    by_cases z:b=Z.G .ln
    ·rw[z,an]at e;rw[z,ae];exact e
    ·rw[ao z];exact f4 b o e z
   have kp:Kp L (aA L (Z.G .ln) (.dK (jR (M.las.map cG.nm) λi=>.ref (Z.G (.lo i))))):=⟨λu xs e=>by rw[ao λz=>by rw[z,t]at e;cases e];exact e,λu o⟨o',e⟩=>⟨o',by rw[ao λz=>by rw[z,t]at e;cases e];exact e⟩⟩;have ac:aA L (Z.G .ln) (.dK (jR (M.las.map cG.nm) λi=>.ref (Z.G (.lo i)))) D=some (.lst f):=by rw[ao (ol nd)];exact X
   have ad:=I.kp kp;generalize aA L (Z.G .ln) (.dK (jR (M.las.map cG.nm) λi=>.ref (Z.G (.lo i))))=S at sF ac ad⊢;have a3:f.length=M.las.length:=Paired.length ad;refine U rfl ⟨D,rfl,⟨_,aW.of ac⟩,λD2 al=>?_⟩;refine je (K:=K) (a:=D) (xs:=f) (λk j H'=>aq S H'/\H' D2=some (.lst j)/\gq K H' j ((M.las.take k).filterMap λl=>(lF l g).map λp=>(l.nm,p.1,p.2))) ⟨aj (aq.refl _) al,ae,.nil⟩ (λk j H' _ h=>aW.of (h.1 _ _ ac)) ?_ ?_
   ·rintro k v j N hv⟨y,m,B⟩;have W:k<f.length:=(d_.mp hv).1;obtain⟨l,V,b,sv,rfl,hb,F⟩:=ad.get k v hv;have bl:j.length<=4:=by have:=Paired.length B;have h2:=P5 (λl=>(lF l g).map λp=>(l.nm,p.1,p.2)) (M.las.take k);rw[m3]at h2;lia
    refine⟨b,U rfl ⟨aq.tseq y hb,rfl,_,U rfl (au ⟨_,U rfl (au ⟨rfl,?_⟩)⟩)⟩⟩;cases R:lF l g with|none=>rw[R]at F;have F:sv=.non:=F;subst F;refine U rfl ⟨rfl,U rfl (cj (lf W ⟨y,m,?_⟩))⟩;rw[c8 V,Es,z_,R];exact(v_ _).symm▸B|some p=>rw[R]at F;obtain⟨s,rfl,hs⟩:=F;refine U rfl ⟨rfl,U rfl (bH (U rfl ⟨ls rfl,λT7 a5=>(U rfl ⟨T7,s,[.str l.nm],U rfl ⟨rfl,aU.of ae,aq.tseq (aj y a5) hs,by simp,by rw[k4];simp,λz=>(nomatch z),λ_ T8 bi=>?_⟩⟩)⟩))⟩;have s9:=aj (o:=.tup ([.str l.nm]++[.str p.1,.str p.2])) (aj (o:=.tup [.str l.nm]) (aq.refl N) a5) bi;have e9:aA (aA N T7 (.tup [.str l.nm])) T8 (.tup ([.str l.nm]++[.str p.1,.str p.2])) T8=some (.tup [.str l.nm,.str p.1,.str p.2]):=ae;show aA (aA N T7 (.tup [.str l.nm])) T8 (.tup ([.str l.nm]++[.str p.1,.str p.2])) D2=some (.lst j)/\_;generalize aA (aA N T7 (.tup [.str l.nm])) T8 (.tup ([.str l.nm]++[.str p.1,.str p.2]))=H9 at s9 e9⊢;have a6:=s9 _ _ m;have a7:Kp H9 (aA H9 D2 (.lst (j++[.ref T8]))):=.lst a6;refine⟨a6,by rw[k4];lia,lf W ⟨bu (y.trans s9) al,ae,?_⟩⟩;rw[c8 V,Es,z_,R];exact Paired.snoc ((B.kp (.of s9)).kp a7) ⟨T8,rfl,a7.tq (aU.of e9)⟩
   ·rintro j N⟨y,m,B⟩;rw[a3,mo (g_ _)]at B;exact q D2 j N ((s1.trans sF).trans y) (s1.free (sF.free al)) m B
end
def E7{s:AS}{k:bN}{c:Nat}(h:(s.pl k).length<=c)(j:bN):(s.give k c).pl j=s.pl j:=by
 show(if j=k then(s.pl k).take c else s.pl j)=s.pl j
 split
 ·next e=>rw[mo h,e]
 ·rfl
theorem BJ:∀{W:Wl}{s:AS},(∀x∈W,((s.pl x.1).length:Int)<=x.2)->cy s W=[]
 |[],_,_=>rfl|x::r,s,h=>by
  have h1:=h x kw;have h2:(s.pl x.1).length<=x.2.toNat:=by lia
  show((s.pl x.1).drop x.2.toNat).reverse++cy (s.give x.1 x.2.toNat) r=[];rw[QU h2,BJ λy b=>by rw[E7 h2];exact h y (i_ _ b)];rfl
theorem oZ:∀{W:Wl}{s:AS}{k:bN},(∀x∈W,x.1≠k)->(bx s W).pl k=s.pl k|[],_,_,_=>rfl|x::r,s,k,h=>(oZ (W:=r) λy b=>h y (i_ _ b)).trans (j2 λe=>h x kw e.symm)
theorem lx:∀{W:Wl}{s:AS}{k:bN},(∀x∈W,x.1≠k)->(bX n s W).pl k=s.pl k|[],_,_,_=>rfl|x::r,s,k,h=>(lx (W:=r) λy b=>h y (i_ _ b)).trans (j2 λe=>h x kw e.symm)
theorem DD:∀{W:Wl},(∀x∈W,((s.pl x.1).length:Int)<=x.2)->0<=cJ s W|[],_=>Qa _|x::r,h=>by rw[jz];have h1:=h x kw;have h2:=DD λy b=>h y (i_ _ b);lia
theorem xI:∀{W:Wl}{s:AS},(W.map (·.1)).Nodup->(∀x∈W,((s.pl x.1).length:Int)<=x.2)->cJ s W<=((iE n s.oc).length:Int)->∀x∈W,(((bX n s W).pl x.1).length:Int)=x.2
 |x::r,s,hn,h,f,y,c=>by
  rw[no,Q3]at hn;have h1:=h x kw;have h2:=DD λy c=>h y (i_ _ c);rw[jz]at f;have ne:∀z∈r,z.1≠x.1:=λz b e=>hn.1 (e▸mu.mpr ⟨z,b,rfl⟩);have d:∀z∈r,(s.took n x.1 x.2.toNat).pl z.1=s.pl z.1:=λz b=>j2 (ne z b);have g:x.2.toNat-(s.pl x.1).length<=(iE n s.oc).length:=by omega
  rcases ov.mp c with rfl|c
  ·show(((bX n (s.took n y.1 y.2.toNat) r).pl y.1).length:Int)=y.2;rw[lx λz b e=>ne z b e];show(((if y.1=y.1 then s.pl y.1++(iE n s.oc).take (y.2.toNat-(s.pl y.1).length)else s.pl y.1)).length:Int)=y.2;rw[ku rfl,iA,m3];lia
  ·exact xI (W:=r) hn.2 (λz b=>by rw[d z b];exact h z (i_ _ b)) (by rw[j7 d,FU g];omega) y c
def FV(b:s.Ok n)(hn:(W.map (·.1)).Nodup)(h0:∀x∈W,0<=x.2)(c:cJ s W<=((iE n s.oc).length:Int)):∀x∈W,(((bX n (bx s W) W).pl x.1).length:Int)=x.2:=by obtain⟨e,le⟩:=Bu b hn h0 W.length (g_ _);rw[RB]at e le;exact xI hn le (by lia)
def KI(b:RX)(k:Nat):∀n,gd (deal b n) k<=gd (deal b (n+1)) k:=λn=>by
 by_cases h:BW b (deal b n) (b.length-1)<(deal b n).length
 ·show gd (deal b n) k<=gd ((deal b n).set _ _) k;rw[HR _ _ _ _ h]
  split
  ·next e=>rw[<-e];lia
  ·exact Qa _
 ·show gd (deal b n) k<=gd ((deal b n).set _ _) k;rw[List.set_eq_of_length_le (by exact O_ h)];exact Qa _
def Fj(h:n<=m):gd (deal b n) k<=gd (deal b m) k:=by induction h with|refl=>exact Qa _|step h c=>exact Int.le_trans c (KI b k _)
def FQ(h:z∈m6 x arms l):∃(k:Nat)(y:Str),arms[k]?=some y/\l[k]?=some z.2/\z.1=cu x y:=by obtain⟨p,c,rfl⟩:=mu.mp h;obtain⟨k,b⟩:=j_.mp c;rw[List.getElem?_zip_eq_some]at b;exact⟨k,p.1,b.1,b.2,rfl⟩
def Gr(l:cG)(t:dh)(ns:RX):Prop:=∀(k:Nat)(y:Str)(z:Int),t.arms[k]?=some y->ns[k]?=some z->((l.S.pl (cu t.nm y)).length:Int)<=z
def Gr.back(h:Gr l t ns):cy l.S (m6 t.nm t.arms ns)=[]:=BJ λz b=>by obtain⟨k,y,h1,h2,h3⟩:=FQ b;rw[h3];exact h k y z.2 h1 h2
def Gr.of_shares(h:∀k,gd (aN l t) k<=gd ns k):Gr l t ns:=λk y z h1 h2=>by
 have e:=h k;have b:(aN l t)[k]?=some ((l.S.pl (cu t.nm y)).length:Int):=by unfold aN;rw[ir,h1];rfl
 unfold gd at e;rw[oD,oD,b,h2]at e;exact e
def Ao{M:cg}{l:cG}{t:dh}{ns:RX}(d:l.S.Ok M.p)(nd:t.arms.Nodup)(c:ns.length=t.arms.length)(h0:∀x∈ns,0<=x)(f:cJ l.S (m6 t.nm t.arms ns)<=((iE M.p l.S.oc).length:Int))(ins:List (Str×Str×Str)):aN {l with S:=lD M l t ns,ins:=ins} t=ns:=by
 have e:=FV d (FP c nd) (FO h0) f;refine sD λk=>?_;unfold aN;rw[ir]
 by_cases b:k<ns.length
 ·have h1:=f_ (l:=ns) b;have h2:=f_ (l:=t.arms) (c▸b);have:=e _ (il (FR (x:=t.nm) h2 h1));rw[h1,h2];exact rb some this
 ·rw[np (by lia),np (l:=ns) (by exact O_ b)];rfl
def lC(h:t.nm≠u.nm)(ins:List (Str×Str×Str)):aN {l with S:=lD M l u ns,ins:=ins} t=aN l t:=by
 unfold aN;refine wh λy _=>?_;have ne:∀x∈m6 u.nm u.arms ns,x.1≠cu t.nm y:=λx b e=>by obtain⟨k,z,_,_,h3⟩:=FQ b;exact h (pf (h3▸e)).1.symm
 show(((bX M.p (bx l.S (m6 u.nm u.arms ns)) (m6 u.nm u.arms ns)).pl (cu t.nm y)).length:Int)=_;rw[lx ne,oZ ne]
def xz(M b:cg):Prop:=∀g,∀s∈oC M g,s∈oC b g
def MS{b d:Type}{c:List b}{i:Nat}{x y:b}(h:c[i]?=some x)(f:b->Option d)(e:f y=f x):(c.set i y).filterMap f=c.filterMap f:=by
 have a:∀l:List b,l.filterMap f=(l.map f).filterMap id:=λl=>by rw[List.filterMap_map];rfl
 rw[a,a,dD h f e]
theorem xz.setL{M:cg}{i:Nat}{l:cG}(S:AS)(b:M.las[i]?=some l):xz M (M.setL i {l with S:=S}):=λg s c=>by show s∈(M.las.set i _).filterMap _;rw[MS (y:={l with S:=S}) b _ rfl];exact c
def xz.vis(v:ka g M c):xz M c:=λd s f=>by
 obtain⟨l,h,e⟩:=D_.mp f;obtain⟨i,hi⟩:=j_.mp h;obtain⟨b,h1,h2⟩:=v.las i l hi;refine D_.mpr ⟨_,il h1,?_⟩;rcases h2 with rfl|⟨_,t,y,rfl⟩
 ·exact e
 ·obtain⟨p,j,k⟩:=Option.map_eq_some_iff.mp e;have:lF {l with ins:=l.ins++[(g,t,y)]} d=some p:=by obtain⟨x,m,ex⟩:=Option.map_eq_some_iff.mp j;unfold lF;rw[List.find?_append,m];exact rb some ex
  rw[this];exact rb some k
inductive sJ(M:cg):Dd->Prop|share{t:dh}{ns:RX}(h:t.clo=false->∀l∈M.las,l.nm=t.home->Gr l t ns):sJ M (.share t ns)|deal{t:dh}{z:Int}{ws:RX}(h:t.clo=false->∀l∈M.las,l.nm=t.home->Gr l t (deal ws z.toNat)):sJ M (.deal t z ws)|hold{l:cG}{z:Int}:sJ M (.hold l z)|pause{t:dh}{b:Bool}:sJ M (.pause t b)|visit{g:Str}:sJ M (.visit g)
def Gr.stay(b:M.las[i]?=some l)(h:Gr l t ns):xz M (lE M i l t ns):=by
 unfold lE E4;rw[h.back];have:((l.ins.map (·.1)).filter λg=>decide (u0 M.p M.salt l.sl g∈([]:RX)))=[]:=List.filter_eq_nil_iff.mpr λg _=>by simp
 rw[this,jC];exact xz.setL _ b
theorem sJ.stay(h:sJ M d)(hc:d.clo=false)(n:fB M d c):xz M c:=by cases n with
 |share b hh hn=>cases h with|share h=>exact(h hc _ (il b) hh).stay b
 |deal b hh hn=>cases h with|deal h=>exact(h hc _ (il b) hh).stay b
 |hold b=>exact xz.setL _ b|pause f=>exactλg s e=>e|visit v=>exact xz.vis v|_=>cases h
structure m4(M:cg)(c:Nat)(e:Str×Int×List Int):Prop where
 z:0<=e.2.1/\e.2.1<=100+2*(c:Int)w:∀x∈e.2.2,1<=x/\x<=9
 t:∃t∈M.trs,t.nm=e.1/\e.2.2.length=t.arms.length/\(t.clo=false->∀l∈M.las,l.nm=t.home->aN l t=deal e.2.2 e.2.1.toNat)
def lY.luq{M:cg}{c i j:Nat}{l d:cG}(h:lY M c)(f:M.las[i]?=some l)(b:M.las[j]?=some d)(e:l.nm=d.nm):i=j:=(F_ (by rw[c_];exact(d_.mp f).1) h.ln).mp (by rw[ir,ir,f,b];exact rb some e)
def lY.tuq{M:cg}{c i j:Nat}{t d:dh}(h:lY M c)(f:M.trs[i]?=some t)(b:M.trs[j]?=some d)(e:t.nm=d.nm):i=j:=(F_ (by rw[c_];exact(d_.mp f).1) h.tn).mp (by rw[ir,ir,f,b];exact rb some e)
def Dd.tells:Dd->Option Str|.share t _=>some t.nm|.deal t _ _=>some t.nm|_=>none
def m4.step(h:m4 M c e)(n:∀t∈M.trs,t.nm=e.1->∃b∈i.trs,b.nm=t.nm/\b.arms=t.arms/\b.home=t.home/\(b.clo=false->t.clo=false/\∀d∈i.las,d.nm=t.home->∃l∈M.las,l.nm=t.home/\aN d t=aN l t)):m4 i (c+1) e:=by obtain⟨t,k,j,m,o⟩:=h.t;obtain⟨b,f,n1,n2,n3,n4⟩:=n t k j;refine⟨⟨h.z.1,by have:=h.z.2;lia⟩,h.w,b,f,n1.trans j,by rw[n2];exact m,λhc d g hh=>?_⟩;obtain⟨p,q⟩:=n4 hc;obtain⟨l,r,h1,h2⟩:=q d g (by rw[<-n3];exact hh);rw[<-o p l r h1,<-h2];unfold aN;rw[n1,n2]
def m4.setT{M:cg}{c j:Nat}{e:Str×Int×List Int}{u u':dh}(h:m4 M c e)(v:lY M c)(g:M.trs[j]?=some u)(h1:u'.nm=u.nm)(h2:u'.arms=u.arms)(h3:u'.home=u.home)(h4:u'.clo=false->u.clo=false){las:List cG}(r:∀d∈las,∃l∈M.las,l.nm=d.nm/\∀t∈M.trs,t.nm=e.1->(t=u->u'.clo=false)->aN d t=aN l t):m4 {M with trs:=M.trs.set j u',las:=las} (c+1) e:=by
 refine h.step λt m s=>?_;obtain⟨k,f⟩:=j_.mp m
 by_cases n:k=j
 ·rw[n,g]at f;obtain rfl:=k_ f;refine⟨u',il (i:=j) (by show(M.trs.set j u')[j]?=_;rw[w_ (d_.mp g).1]),h1,h2,h3,λhc=>⟨h4 hc,λd b hh=>?_⟩⟩;obtain⟨l,o,p,q⟩:=r d b;exact⟨l,o,p.trans hh,q _ m s λ_=>hc⟩
 ·refine⟨t,il (i:=k) (by show(M.trs.set j u')[k]?=_;rw[qr (ol n)];exact f),rfl,rfl,rfl,λhc=>⟨hc,λd b hh=>?_⟩⟩;obtain⟨l,o,p,q⟩:=r d b;exact⟨l,o,p.trans hh,q _ m s λz=>absurd (v.tuq f g (rb dh.nm z)) n⟩
def pX{M:cg}{i:Nat}{l l':cG}(b:M.las[i]?=some l)(e:l'.nm=l.nm){R:cG->cG->Prop}(h1:R l' l)(h2:∀x∈M.las,R x x):∀x∈M.las.set i l',∃y∈M.las,y.nm=x.nm/\R x y:=λx c=>by
 rcases P2 c with z|z
 ·exact⟨x,z,rfl,h2 x z⟩
 ·exact⟨l,il b,by rw[z,e],by rw[z];exact h1⟩
def m4.next{M I:cg}{c:Nat}{d:Dd}{Q:List V}{e:Str×Int×List Int}(h:m4 M c e)(C:lY M c)(T:jc K H M d Q)(n:fB M d I)(D:d.tells≠some e.1):m4 I (c+1) e:=by cases n with
 |layer=>cases T with|layer h1 h2=>
   refine h.step λt m s=>⟨t,m,rfl,rfl,rfl,λhc=>⟨hc,λo f hh=>?_⟩⟩;rcases RJ.mp f with z|z
   ·exact⟨o,z,hh,rfl⟩
   ·rw[List.mem_singleton.mp z]at hh;exact absurd ((C.tr t m).hm) (hh▸h2)
 |trial=>exact h.step λt m s=>⟨t,t2 _ m,rfl,rfl,rfl,λhc=>⟨hc,λo f hh=>⟨o,f,hh,rfl⟩⟩⟩|@share u ns i l r hh hn=>refine h.step λt m s=>⟨t,m,rfl,rfl,rfl,λhc=>⟨hc,λo f hh=>?_⟩⟩;obtain⟨y,E,F,G⟩:=pX (R:=λx y=>aN x t=aN y t) (l':={l with S:=lD M l u ns,ins:=cK l.ins (E4 M l (cy l.S (m6 u.nm u.arms ns)))}) r rfl (lC (λz=>D (by rw[<-s,z];rfl)) _) (λ_ _=>rfl) o f;exact⟨y,E,F.trans hh,G⟩|@deal u z J i l r hh hn=>refine h.step λt m s=>⟨t,m,rfl,rfl,rfl,λhc=>⟨hc,λo f hh=>?_⟩⟩;obtain⟨y,E,F,G⟩:=pX (R:=λx y=>aN x t=aN y t) (l':={l with S:=lD M l u (deal J z.toNat),ins:=cK l.ins (E4 M l (cy l.S (m6 u.nm u.arms (deal J z.toNat))))}) r rfl (lC (λz=>D (by rw[<-s,z];rfl)) _) (λ_ _=>rfl) o f;exact⟨y,E,F.trans hh,G⟩|@hold l z i r=>
  refine h.step λt m s=>⟨t,m,rfl,rfl,rfl,λhc=>⟨hc,λo f hh=>?_⟩⟩;have ne:∀y x,x∈[((iD:bN),z)]->x.1≠cu t.nm y:=λy x O e=>by rw[List.mem_singleton.mp O]at e;have:=(C.tr t m).wd.1;rw[<-(pf e).1]at this;exact absurd this (by decide+kernel)
  obtain⟨y,E,F,G⟩:=pX (R:=λx y=>aN x t=aN y t) (l':={l with S:=bX M.p (bx l.S [(iD,z)]) [(iD,z)]}) r rfl (wh λy _=>by show(((bX M.p (bx l.S [(iD,z)]) [(iD,z)]).pl (cu t.nm y)).length:Int)=_;rw[lx (ne y),oZ (ne y)]) (λ_ _=>rfl) o f
  exact⟨y,E,F.trans hh,G⟩|@pause u b j A=>exact h.setT (u':={u with pau:=b}) C A rfl rfl rfl (λz=>z) λl r=>⟨l,r,rfl,λ_ _ _ _=>rfl⟩|@close u i j l A r hh=>refine h.setT (u':={u with clo:=true}) C A rfl rfl rfl (λz=>(nomatch z)) (pX (R:=λx y=>∀t∈M.trs,t.nm=e.1->(t=u->true=false)->aN x t=aN y t) r (by rfl) (λt m s q=>lC (M:=M.setT j {u with clo:=true}) (u:={u with clo:=true}) (ns:=nQ u) (λz=>?_) _) λ_ _ _ _ _ _=>rfl);obtain⟨k,D⟩:=j_.mp m;have U:=C.tuq D A z;rw[U,A]at D;exact absurd (q (k_ D).symm) (by decide)|@bar g u i j l A r hh=>exact h.setT (u':={u with bar:=gn u.bar g}) C A rfl rfl rfl (λz=>z) (pX (R:=λx y=>∀t∈M.trs,t.nm=e.1->(t=u->u.clo=false)->aN x t=aN y t) (l':={l with ins:=cK l.ins (yu l u g)}) r rfl (λ_ _ _ _=>rfl) λ_ _ _ _ _ _=>rfl)|@visit g I v=>refine h.step λt m s=>⟨t,v.trs▸m,rfl,rfl,rfl,λhc=>⟨hc,λo f hh=>?_⟩⟩;obtain⟨i,hi⟩:=j_.mp f;have B:=(d_.mp hi).1;rw[v.len]at B;obtain⟨N,h1,_⟩:=v.las i _ (f_ B);rw[hi]at h1;obtain rfl:=k_ h1;exact⟨_,yl B,hh,rfl⟩
def m4.mono{M:cg}{c d:Nat}{e:Str×Int×List Int}(h:m4 M c e)(hc:c<=d):m4 M d e:=⟨⟨h.z.1,by have:=h.z.2;lia⟩,h.w,h.t⟩
def m4.dealt{M j:cg}{c:Nat}{t:dh}{z:Int}{b:RX}(f:lY M c)(o:t∈M.trs)(p:0<=z/\z<=100+2*((c:Int)+1))(s:∀x∈b,1<=x/\x<=9)(r:b.length=t.arms.length)(n:fB M (.deal t z b) j):m4 j (c+1) (t.nm,z,b):=by cases n with|@deal _ _ _ i l h1 hh hn=>
  refine⟨⟨p.1,by have:=p.2;show z<=_;exact this⟩,s,t,o,rfl,r,λ_ u g e=>?_⟩;have h:=il h1;obtain⟨k,d⟩:=j_.mp g;rcases m9 d with⟨-,rfl⟩|⟨q,d⟩
  ·exact Ao (f.la l h).ok (f.tr t o).nd (by rw[k9];exact r) (λx m=>by obtain⟨k,d⟩:=j_.mp m;have:=(uq b z.toNat k).1;unfold gd at this;rw[oD,d]at this;exact this) hn _
  ·exact absurd (f.luq d h1 (e.trans hh.symm)) q
def K9:List Str:=["ann","ann7","7ann","an","nan","ana","anan","b","bob12","bob1","21bob","annbob"]
def F1:List Str:=["","ann7","0","guestofthishouse99"]
def Gy(k:Nat):Nat:=if k<26 then 97+k else 22+k
def Pw(z:Str)(i:Int)(c:Nat):Str:=Txt.slice z none (some i)++(⟨#[c]⟩:Str)++Txt.slice z (some i) none
def Pa(x:Str):Bool:=decide (1<=x.length)&&decide (x.length<=24)&&x.cps.toList.all λc=>decide (c∈kB.cps.toList)
def Lg(h:Pa x=true):BY x:=by unfold Pa at h;rw[oi,oi]at h;exact⟨rd h.1.1,rd h.1.2,λc hc=>rd (List.all_eq_true.mp h.2 c hc)⟩
def Gv:∀z∈K9,Pa z=true:=by decide+kernel
def Kc:∀z∈F1,∀i∈List.range 19,∀c∈List.range 36,Pa (Pw z (i:Int) (Gy c))=true:=by decide+kernel
def Ej:∀z∈F1,z.length<=18:=by decide+kernel
def L7:∀c∈List.range 36,xy ("abcdefghijklmnopqrstuvwxyz0123456789":Str).cps.toList (c:Int)=some (Gy c):=by decide+kernel
def gp{zs:RS}{i:Int}(h0:0<=i)(h1:i<(zs.length:Int)):∃z∈zs,xy (zs.map V.str) i=some (V.str z):=by obtain⟨v,b,hm⟩:=BL (xs:=zs.map V.str) h0 (by rw[c_];exact h1);obtain⟨z,c,rfl⟩:=mu.mp hm;exact⟨z,c,b⟩
inductive Gc(vs:List V)(H:Hp)(Q:VK)(_E:XK):Prop|mk(k N:Int)(_:vs=[.int k,.int N])(_:∀(g:Str)H',aq H H'->BY g->Q (.str g) H')
def J8(h:N b H):(qG.mk N R B C).nx b H:=h
def r9{c:TT}{t u:TS}{D:qG}{b:St}(h1:u D b H)(h2:∀N:St->Hp->Prop,N b H->Jh c t Ai {D with nx:=N} b H):Ah (Jh c t Ai) u D b H:=h2 (u D) h1
def O7:List Str:=["age","size","old"]
inductive Js(K:RM)(h:Nat)(vs:List V)(H:Hp)(Q:VK)(_E:XK):Prop|mk(n i:Int)(_:vs=[.int n,.int i])(_:1<=i)(_:i<=(h:Int))(_:∀(r:Ru)(rv:V)H',aq H H'->eY K H' r rv->kC O7 r->r.hgt<=h->r.cnt<2^h->Q rv H')
section
def q8(T:Txt K mg a):aS P w K mg base dw 1 a.mY.x a.mY.d ["_law_k","_law_number"] Gc:=by
 refine T.mY.ok kO λp A outer s H C Q E D h=>?_
 ·obtain⟨k,N,rfl,q⟩:=h;refine⟨_,(ah (aK (aD aT (av aO (av bg (Y 1) af) af) af (aG _)) (ah (bq 2 kO.nd (bA (O aC (O aC (O aC (O aC (O aC (O aC (O aC (O aC (O aC (O aC (O aC (O aC ag)))))))))))))) (ai (az (gz K (Y 2) (av aO (av bG (Y 0) (av bg (Y 1) af)) af))))) aB) (ah (bq 3 kO.nd (gz K (bA (O aC (O aC (O aC (O aC ag))))) (av aO (Y 1) af))) (ah (bq 4 kO.nd (av aO (av bg (Y 1) af) (av bG (ax (aH K rfl) (by rfl) T.bD L2.aJ (O (Y 3) ag)) af))) (ah (bq 5 kO.nd (av aO (av bG (Y 0) (av bg (Y 1) af)) af)) (ai (az (av jx (av jx (gc yL (Y 3) i7 (i6 (Y 4))) (AI CU aC (Y 5) (λ_ _=>rfl))) (gc yL (Y 3) (i6 (Y 4)) i7)))))))),?_⟩
  have b1:=bw (k+N/160) (show(0:Int)<12 by decide);have b2:=bw (k+N/160) (show(0:Int)<36 by decide);have b3:=bw N (show(0:Int)<4 by decide)
  (repeat(first|refine U rfl ?_|refine r2 ?_|refine⟨(rfl:fj _ _=true),?_⟩|refine⟨(show fh _ _ from cd rfl),?_⟩|refine⟨(show(0:Int)<_ by first|decide|lia),?_⟩|refine⟨(rfl:V.int 10=V.int 10),rfl,?_⟩))
  refine kA (λr=>?_) (λr=>?_)
  ·refine⟨ls rfl,λl g=>?_⟩
   (repeat(first|refine U rfl ?_|refine r2 ?_|refine⟨(rfl:fj _ _=true),?_⟩|refine⟨(show fh _ _ from cd rfl),?_⟩|refine⟨(show(0:Int)<_ by first|decide|lia),?_⟩|refine⟨(rfl:V.int 10=V.int 10),rfl,?_⟩))
   obtain⟨z,f,i⟩:=gp (zs:=K9) b1.1 b1.2;exact⟨l,_,_,U rfl ⟨rfl,aW.of ae,i,q z _ (aj (aq.refl H) g) (Lg (Gv z f))⟩⟩
  ·refine⟨ls rfl,λl g=>?_⟩;obtain⟨z,f,i⟩:=gp (zs:=F1) b3.1 b3.2;have hsl:=Ej z f;have n:=aj (o:=.lst [V.str "",V.str "ann7",V.str "0",V.str "guestofthishouse99"]) (aq.refl H) g;have c:aA H l (.lst [V.str "",V.str "ann7",V.str "0",V.str "guestofthishouse99"]) l=some (.lst [V.str "",V.str "ann7",V.str "0",V.str "guestofthishouse99"]):=ae;generalize aA H l (.lst [V.str "",V.str "ann7",V.str "0",V.str "guestofthishouse99"])=F at n c⊢
   (repeat(first|refine U rfl ?_|refine r2 ?_|refine⟨(rfl:fj _ _=true),?_⟩|refine⟨(show fh _ _ from cd rfl),?_⟩|refine⟨(show(0:Int)<_ by first|decide|lia),?_⟩|refine⟨(rfl:V.int 10=V.int 10),rfl,?_⟩))
   refine⟨l,_,_,U rfl ⟨rfl,aW.of c,i,au ?_⟩⟩
   (repeat(first|refine U rfl ?_|refine r2 ?_|refine⟨(rfl:fj _ _=true),?_⟩|refine⟨(show fh _ _ from cd rfl),?_⟩|refine⟨(show(0:Int)<_ by first|decide|lia),?_⟩|refine⟨(rfl:V.int 10=V.int 10),rfl,?_⟩))
   refine⟨_,z.length,rfl,⟨de (by lia),rfl⟩,_,U rfl ⟨rfl,r2 ⟨(by show(0:Int)<_;lia),au ?_⟩⟩⟩;have u:=bw (N/4) (show(0:Int)<(z.length:Int)+1 by lia);have v:=Txt.slice_le z none (some (N/4%((z.length:Int)+1)));have y:=Txt.slice_le z (some (N/4%((z.length:Int)+1))) none;have hok:=Kc z f (N/4%((z.length:Int)+1)).toNat (by rw[si];lia) ((k+N/160)%36).toNat (by rw[si];lia);have e:=L7 ((k+N/160)%36).toNat (by rw[si];lia);rw[show(((N/4%((z.length:Int)+1)).toNat:Nat):Int)=N/4%((z.length:Int)+1)by lia]at hok;rw[show((((k+N/160)%36).toNat:Nat):Int)=(k+N/160)%36 by lia]at e;generalize Gy ((k+N/160)%36).toNat=j at*;have m:∀a b:Str,(a++b).length=a.length+b.length:=λa b=>by show(a.cps++b.cps).size=a.cps.size+b.cps.size;exact Array.size_append
   have B:(⟨#[j]⟩:Str).length=1:=rfl
   (repeat(first|refine U rfl ?_|refine r2 ?_|refine⟨(rfl:fj _ _=true),?_⟩|refine⟨(show fh _ _ from cd rfl),?_⟩|refine⟨(show(0:Int)<_ by first|decide|lia),?_⟩|refine⟨(rfl:V.int 10=V.int 10),rfl,?_⟩))
   refine⟨de (by lia),?_⟩
   (repeat(first|refine U rfl ?_|refine r2 ?_|refine⟨(rfl:fj _ _=true),?_⟩|refine⟨(show fh _ _ from cd rfl),?_⟩|refine⟨(show(0:Int)<_ by first|decide|lia),?_⟩|refine⟨(rfl:V.int 10=V.int 10),rfl,?_⟩))
   exact⟨"abcdefghijklmnopqrstuvwxyz0123456789",_,j,rfl,rfl,de (by decide+kernel),e,_,(⟨#[j]⟩:Str),rfl,rfl,de (by lia),U rfl (U rfl ⟨N/4%((z.length:Int)+1),rfl,z,rfl,de (by lia),_,U rfl ⟨rfl,de (by rw[m];lia),q _ _ n (Lg hok)⟩⟩)⟩
theorem AW(T:Txt K mg a):∀h:Nat,aS P w K mg base dw (h+1) a.eD.x a.eD.d ["_law_number","_law_high"] (Js K h)
 |0=>by
  refine T.eD.f.ok mq (λS H Q E h=>?_) (λW A outer s H S Q E e h=>?_)
  ·obtain⟨n,i,rfl,_⟩:=h;rfl
  ·obtain⟨n,i,rfl,h1,h2,_⟩:=h;lia|hh+1=>by
  have G:=AW T hh;refine T.eD.f.ok mq (λS H Q E h=>?_) (λW A outer s H S Q E e h=>?_)
  ·obtain⟨n,i,rfl,_⟩:=h;rfl
  ·obtain⟨n,i,rfl,h1,h2,q⟩:=h;refine⟨_,(ah (bq 2 mq.nd (av aO (Y 0) af)) (ah (bq 3 mq.nd (av bg (Y 0) af)) (ah (bq 4 mq.nd (gz K (bA (O aC (O aC (O aC ag)))) (av aO (Y 3) af))) (ah (aK (aD aT (Y 2) af (aG _)) (ai (az (bC (O aC (O (Y 4) ag))))) aB) (ah (aK (PW.pt (fm (aD aT (Y 2) af (aG _)) (dN (aD aT (Y 2) af (aG _))))) (ai (az (bC (O aC (O (Y 4) (O (av fC (av aO (av bg (Y 3) af) af) af) ag)))))) aB) (ah (aK (PW.pt (mG (aD sN (Y 1) af (aG _)) (j0 (aD aT (Y 2) af (aG _))))) (ai (az (bC (O aC (O (bS G e rfl T.eD.m T.eD.f.kp T.eD.b .nil bo (O (Y 3) (O (av fC (Y 1) af) ag))) ag))))) aB) (ah (aK (PW.pt (mG (aD sN (Y 1) af (aG _)) (j0 (aD aT (Y 2) af (aG _))))) (ai (az (bC (O aC (O (bS G e rfl T.eD.m T.eD.f.kp T.eD.b .nil bo (O (Y 3) (O (av fC (Y 1) af) ag))) (O (bS G e rfl T.eD.m T.eD.f.kp T.eD.b .nil bo (O (av bg (Y 3) af) (O (av fC (Y 1) af) ag))) ag)))))) aB) (ah (aK (PW.pt (mG (aD sN (Y 1) af (aG _)) (j0 (aD aT (Y 2) af (aG _))))) (ai (az (bC (O aC (O (bS G e rfl T.eD.m T.eD.f.kp T.eD.b .nil bo (O (Y 3) (O (av fC (Y 1) af) ag))) (O (bS G e rfl T.eD.m T.eD.f.kp T.eD.b .nil bo (O (av bg (Y 3) af) (O (av fC (Y 1) af) ag))) ag)))))) aB) (ai (az (bC (O aC ag)))))))))))),?_⟩
   have p2:2<=2^(hh+1):=by rw[QT];have:=Nat.two_pow_pos hh;lia
   (repeat(first|refine U rfl ?_|refine r2 ?_|refine⟨(rfl:fj _ _=true),?_⟩|refine⟨(show fh _ _ from cd rfl),?_⟩|refine⟨(show(0:Int)<_ by first|decide|lia),?_⟩|refine⟨(rfl:V.int 10=V.int 10),rfl,?_⟩))
   refine⟨ls rfl,λl hl=>?_⟩;have b3:=bw (n/10) (show(0:Int)<3 by decide);obtain⟨z,hz,ha⟩:=gp (zs:=O7) b3.1 b3.2;have v:=aj (o:=.lst [V.str "age",V.str "size",V.str "old"]) (aq.refl H) hl;have y:aA H l (.lst [V.str "age",V.str "size",V.str "old"]) l=some (.lst [V.str "age",V.str "size",V.str "old"]):=ae;generalize aA H l (.lst [V.str "age",V.str "size",V.str "old"])=H0 at v y⊢
   (repeat(first|refine U rfl ?_|refine r2 ?_|refine⟨(rfl:fj _ _=true),?_⟩|refine⟨(show fh _ _ from cd rfl),?_⟩|refine⟨(show(0:Int)<_ by first|decide|lia),?_⟩|refine⟨(rfl:V.int 10=V.int 10),rfl,?_⟩))
   refine⟨l,_,_,U rfl ⟨rfl,aW.of y,ha,au ?_⟩⟩;clear y ha b3;refine J8 (r9 ?_ (λN j=>?_))
   rotate_left
   ·(repeat(first|refine U rfl ?_|refine r2 ?_|refine⟨(rfl:fj _ _=true),?_⟩|refine⟨(show fh _ _ from cd rfl),?_⟩|refine⟨(show(0:Int)<_ by first|decide|lia),?_⟩|refine⟨(rfl:V.int 10=V.int 10),rfl,?_⟩))
    refine kA (λe1=>?_) (λe1=>j);exact U rfl ⟨ls rfl,λt c=>q (.has z) _ _ (aj v c) (.has (aU.of ae)) (.has hz) (by show 1<=hh+1;lia) p2⟩
   refine r9 ?_ (λN j=>?_)
   rotate_left
   ·have b9:=bw (n/10/3) (show(0:Int)<9 by decide);have ac:=m7;refine U rfl ⟨rfl,U rfl (kA (λ_=>bH ?_) (λ_=>(U rfl ⟨rfl,U rfl (kA (λ_=>?_) (λ_=>j))⟩)))⟩
    all_goals
     (repeat(first|refine U rfl ?_|refine r2 ?_|refine⟨(rfl:fj _ _=true),?_⟩|refine⟨(show fh _ _ from cd rfl),?_⟩|refine⟨(show(0:Int)<_ by first|decide|lia),?_⟩|refine⟨(rfl:V.int 10=V.int 10),rfl,?_⟩))
     exact⟨ls rfl,λt c=>q (.least z _) _ _ (aj v c) (.least (aU.of ae)) (.least hz (by lia) (by lia)) (by show 1<=hh+1;lia) p2⟩
   have X:∀m:Nat,m<2^hh->m+1<2^(hh+1):=λm hm=>by rw[QT];lia
   have u:∀m k:Nat,m<2^hh->k<2^hh->m+k+1<2^(hh+1):=λm k hm hk=>by rw[QT];lia
   refine r9 ?_ (λN j=>?_)
   rotate_left
   ·refine U rfl (r2 (U rfl (nL (λg=>?_) (λ_=>cj j))));refine U rfl ⟨rfl,U rfl (kA (λ_=>?_) (λ_=>j))⟩;refine U rfl (U rfl (r2 ⟨n/10,i-1,rfl,by lia,by lia,λr R H1 I e J h3 h4=>⟨ls rfl,λt c=>?_⟩⟩));exact q (.not r) _ _ (aj (v.trans I) c) (.not (aU.of ae) (e.kp (.of (aj (aq.refl _) c)))) (.not J) (by show r.hgt+1<=hh+1;exact B_ h3) (X _ h4)
   refine r9 ?_ (λN j=>?_)
   rotate_left
   ·refine U rfl (r2 (U rfl (nL (λg=>?_) (λ_=>cj j))));refine U rfl ⟨rfl,U rfl (kA (λ_=>?_) (λ_=>j))⟩;refine U rfl (U rfl (r2 ⟨n/10,i-1,rfl,by lia,by lia,λr R H1 I e J h3 h4=>?_⟩));refine U rfl (r2 ⟨⟨by decide,by decide⟩,U rfl (r2 ⟨n/10/40,i-1,rfl,by lia,by lia,λp B Z L C D aa F=>⟨ls rfl,λt c=>?_⟩⟩)⟩);have M:=aj (o:=.tup [.str "both",R,B]) (aq.refl Z) c;exact q (.both r p) _ _ (aj ((v.trans I).trans L) c) (.both (aU.of ae) ((e.kp (.of L)).kp (.of M)) (C.kp (.of M))) (.both J D) (by show max r.hgt p.hgt+1<=hh+1;lia) (by rw[show(Ru.both r p).cnt=r.cnt+p.cnt+1 from rb (·+1) iA];exact u _ _ h4 F)
   refine r9 ?_ (λN j=>?_)
   rotate_left
   ·refine U rfl (r2 (U rfl (nL (λg=>?_) (λ_=>cj j))));refine U rfl ⟨rfl,U rfl (kA (λ_=>?_) (λ_=>j))⟩;refine U rfl (U rfl (r2 ⟨n/10,i-1,rfl,by lia,by lia,λr R H1 I e J h3 h4=>?_⟩));refine U rfl (r2 ⟨⟨by decide,by decide⟩,U rfl (r2 ⟨n/10/40,i-1,rfl,by lia,by lia,λp B Z L C D aa F=>⟨ls rfl,λt c=>?_⟩⟩)⟩);have M:=aj (o:=.tup [.str "either",R,B]) (aq.refl Z) c;exact q (.either r p) _ _ (aj ((v.trans I).trans L) c) (.either (aU.of ae) ((e.kp (.of L)).kp (.of M)) (C.kp (.of M))) (.either J D) (by show max r.hgt p.hgt+1<=hh+1;lia) (by rw[show(Ru.either r p).cnt=r.cnt+p.cnt+1 from rb (·+1) iA];exact u _ _ h4 F)
   exact⟨ls rfl,λt c=>q .any _ _ (aj v c) (.any (aU.of ae)) .any (by show 1<=hh+1;lia) p2⟩
end
def Cr(m:Int)(j:Nat):Str:=O7.getD (((j:Int)+m)%3).toNat "age"
def MT:List Str:=["marka","markb","markc","markd","marke"]
def J9(m:Int):Cr m=Cr (m%3):=by
 funext j
 unfold Cr;rw[Int.add_emod,Int.add_emod (j:Int) (m%3),Int.emod_emod]
def He(m:Int):(MT++(List.range 3).map (Cr m)).Nodup/\∀z∈MT++(List.range 3).map (Cr m),No z=true:=by rw[J9];have b:=bw m (show(0:Int)<3 by decide);rcases(by lia:m%3=0\/m%3=1\/m%3=2)with e|e|e<;>rw[e]<;>decide+kernel
def Mz{m:Int}{j:Nat}:xy [V.str "age",V.str "size",V.str "old"] ((0+(j:Int)+m)%3)=some (V.str (Cr m j)):=by rw[Int.zero_add];have b:=bw ((j:Int)+m) (show(0:Int)<3 by decide);unfold Cr;rcases(by lia:((j:Int)+m)%3=0\/((j:Int)+m)%3=1\/((j:Int)+m)%3=2)with e|e|e<;>rw[e]<;>rfl
def NC(K:RM)(H:Hp)(v:V)(m:Str×Int):Prop:=∃b,v=.ref b/\aU K H b [.str m.1,.int m.2]
def sQ(e:Kp H H')(h:Paired (NC K H) c d):Paired (NC K H') c d:=Paired.mapP h λv m⟨b,h1,h2⟩=>⟨b,h1,e.tq h2⟩
def Ot{a:Addr}{c:List V}{d:List (Str×Int)}(h:Paired (NC K H) c d)(e:aU K H a c):uf K H d (.ref a):=⟨a,c,rfl,e,Paired.length h,λi m hm=>by obtain⟨v,h1,b,rfl,h2⟩:=qW h i m hm;exact⟨b,h1,h2⟩⟩
def mS{ns:RX}{i:Int}(h0:0<=i)(h1:i<(ns.length:Int)):∃z∈ns,xy (ns.map V.int) i=some (V.int z):=by obtain⟨v,b,hm⟩:=BL (xs:=ns.map V.int) h0 (by rw[c_];exact h1);obtain⟨z,c,rfl⟩:=mu.mp hm;exact⟨z,c,b⟩
def DP:List (Str×Int):=[("marka",-2),("markb",-1),("markc",0),("markd",1),("marke",2)]
def HX:∀j∈List.range 5,xy ("abcde":Str).cps.toList (0+(j:Int))=some (97+j)/\DP[j]?=some (("mark":Str)++(⟨#[97+j]⟩:Str),0+(j:Int)-2):=by decide+kernel
inductive F8(K:RM)(vs:List V)(H:Hp)(Q:VK)(_E:XK):Prop|mk(n:Int)(_:vs=[.int n])(_:∀(t:Addr)(ms:List (Str×Int))H',aq H H'->uf K H' ms (.ref t)->(∀m∈ms,Wd m.1/\-c7<=m.2/\m.2<=c7)->(ms.map Prod.fst).Nodup->ms.length<=8->Q (.ref t) H')
section
def xU(T:Txt K mg a):aS P w K mg base dw 2 a.pj.x a.pj.d ["_law_number"] (F8 K):=by
 refine T.pj.ok kN λbc A outer s H r Q E hr h=>?_
 ·obtain⟨n,rfl,q⟩:=h;refine⟨_,(ah (bq 1 kN.nd (bA ag)) (ah (eI pa rfl (cP rfl T.dS (O af ag)) (tS 2 kN.nd) (ai (aK (aD aT (av aO (av bg (Y 0) (gz K (bA (O af (O af (O af ag)))) (Y 2))) af) af (aG _)) (ah (bq 3 kN.nd (gz K (bA (O aC (O aC (O aC ag)))) (av aO (av bG (Y 2) (av bg (Y 0) af)) af))) (ai (aR (jw K rfl PySem.F.plainAttrs_list PySem.F.slot_list_append PySem.F.type_list_append eU (Y 1) (O (bC (O (Y 3) (O (av fC (av aO (av bg (Y 0) (gz K (bA (O af (O af (O af ag)))) (Y 2))) af) af) ag))) ag))))) aB))) (ah (aK (aD aT (av aO (av bg (Y 0) af) af) af (aG _)) (ai (bq 1 kN.nd (av Cm (wB wa [] [2] [2] (ak pL) (bZ 2) (cP rfl T.dS (O af ag)) (λcl C s₀ H₀ ex=>⟨(nq wa [] 2),bR,(bC (O (av jx aC (AI CU aC (Y 2) (λ_ _=>rfl))) (O (av fC (Y 2) af) ag)))⟩)) (Y 1)))) aB) (ai (az (c6 (dJ K rfl) (by rfl) T.dz L2.bM (O (Y 1) ag))))))),?_⟩
  refine⟨ls rfl,λl hl=>?_⟩;have s0:=aj (o:=.lst []) (aq.refl H) hl;refine au ⟨3,rfl,by lia,by lia,?_⟩;refine gO (lo:=0) (n:=3) (λi S H'=>aq H H'/\(IZ λ(g:List (Str×Int))(r:List V)=>PZ (H' l=some (.lst r)) (Paired (NC K H') r g) ((g.map (·.1)).Sublist ((List.range i).map (Cr (n/8)))) ((∀m∈g,-100<=m.2/\m.2<=100)) (IZ λW X=>S=[some (.int n),some (.ref l),W,X]))) ⟨s0,[],[],ae,.nil,List.nil_sublist _,(λm hm=>nomatch hm),_,_,rfl⟩ ?_ ?_
  ·rintro i S Z hi⟨s1,g,r,hL,G,b,hb,W,X,rfl⟩;refine au ?_
   (repeat(first|refine U rfl ?_|refine r2 ?_|refine⟨(rfl:fj _ _=true),?_⟩|refine⟨(show fh _ _ from cd rfl),?_⟩|refine⟨(show(0:Int)<_ by first|decide|lia),?_⟩|refine⟨(rfl:V.int 10=V.int 10),rfl,?_⟩))
   refine⟨ls rfl,λl1 ap=>?_⟩;have f:=aj (o:=.lst [V.int 1,V.int 2,V.int 4]) (aq.refl Z) ap;have u:aA Z l1 (.lst [V.int 1,V.int 2,V.int 4]) l1=some (.lst [V.int 1,V.int 2,V.int 4]):=ae;generalize aA Z l1 (.lst [V.int 1,V.int 2,V.int 4])=I at f u⊢;obtain⟨d,hd,ha⟩:=mS (ns:=[1,2,4]) (i:=0+(i:Int)) (by lia) (by show _<(3:Int);lia);have bi:d=1\/d=2\/d=4:=by simpa using hd
   refine U rfl ⟨l1,_,_,U rfl ⟨rfl,aW.of u,ha,_,U rfl ⟨rfl,⟨by lia,by lia⟩,_,U rfl ⟨rfl,(show(0:Int)<2 by decide),rfl,U rfl ?_⟩⟩⟩⟩;refine kA (λ_=>?_) (λ_=>?_)
   ·refine⟨ls rfl,λl2 as=>?_⟩;have J:=aj (o:=.lst [V.str "age",V.str "size",V.str "old"]) (aq.refl I) as;have v:aA I l2 (.lst [V.str "age",V.str "size",V.str "old"]) l2=some (.lst [V.str "age",V.str "size",V.str "old"]):=ae;generalize aA I l2 (.lst [V.str "age",V.str "size",V.str "old"])=H3 at J v⊢
    (repeat(first|refine U rfl ?_|refine r2 ?_|refine⟨(rfl:fj _ _=true),?_⟩|refine⟨(show fh _ _ from cd rfl),?_⟩|refine⟨(show(0:Int)<_ by first|decide|lia),?_⟩|refine⟨(rfl:V.int 10=V.int 10),rfl,?_⟩))
    refine⟨l2,_,_,U rfl ⟨rfl,aW.of v,Mz,au ?_⟩⟩;have a2:=J _ _ (f _ _ hL);refine U rfl ⟨.inl ⟨rfl,_,aW.of a2⟩,U rfl (U rfl ⟨ls rfl,λl3 a3=>?_⟩)⟩;have s4:=aj (o:=.lst [V.int 24,V.int 240,V.int 2400]) (aq.refl H3) a3;have y:aA H3 l3 (.lst [V.int 24,V.int 240,V.int 2400]) l3=some (.lst [V.int 24,V.int 240,V.int 2400]):=ae;generalize aA H3 l3 (.lst [V.int 24,V.int 240,V.int 2400])=H4 at s4 y⊢;obtain⟨k,a5,a6⟩:=mS (ns:=[24,240,2400]) (i:=0+(i:Int)) (by lia) (by show _<(3:Int);lia);have bb:k=24\/k=240\/k=2400:=by simpa using a5
    have bl:=bw (n/k) (show(0:Int)<10 by decide);refine U rfl ⟨l3,_,_,U rfl ⟨rfl,aW.of y,a6,_,U rfl ⟨rfl,⟨by lia,by lia⟩,_,U rfl ⟨rfl,(show(0:Int)<10 by decide),_,U rfl ⟨rfl,ls rfl,λt ht=>?_⟩⟩⟩⟩⟩;have s5:=aj (o:=.tup [.str (Cr (n/8) i),.int (n/k%10-5)]) (aq.refl H4) ht;have aa:aA H4 t (.tup [.str (Cr (n/8) i),.int (n/k%10-5)]) t=some (.tup [.str (Cr (n/8) i),.int (n/k%10-5)]):=ae;have s6:aq Z (aA H4 t (.tup [.str (Cr (n/8) i),.int (n/k%10-5)])):=((f.trans J).trans s4).trans s5;generalize aA H4 t (.tup [.str (Cr (n/8) i),.int (n/k%10-5)])=H5 at s6 aa⊢;have ac:=s6 _ _ hL;have a7:=Paired.length G;have L:=b.length_le;rw[c_,c_,qq]at L;refine rA ac (by rw[k4];lia) ⟨bu (s1.trans s6) hl,g++[(Cr (n/8) i,n/k%10-5)],_,ae,?_,?_,λm hm=>?_,_,_,rfl⟩
    ·exact sQ (.lst ac) (Paired.snoc (sQ (.of s6) G) ⟨t,rfl,aU.of aa⟩)
    ·rw[j1,Q2,j1];exact b.append (Rr _)
    ·rcases RJ.mp hm with z|z
     ·exact hb m z
     ·rw[List.mem_singleton.mp z];show-100<=n/k%10-5/\n/k%10-5<=100;lia
   ·refine⟨s1.trans f,g,r,f _ _ hL,sQ (.of f) G,?_,hb,_,_,rfl⟩;rw[Q2,j1];exact b.trans (List.sublist_append_left _ _)
  ·rintro S Z⟨s1,g,r,hL,G,b,hb,W,X,rfl⟩
   (repeat(first|refine U rfl ?_|refine r2 ?_|refine⟨(rfl:fj _ _=true),?_⟩|refine⟨(show fh _ _ from cd rfl),?_⟩|refine⟨(show(0:Int)<_ by first|decide|lia),?_⟩|refine⟨(rfl:V.int 10=V.int 10),rfl,?_⟩))
   refine Lo (λS H'=>aq H H'/\(Pf λ(l':Addr)(g:List (Str×Int))(r:List V)=>PZ (H' l'=some (.lst r)) (Paired (NC K H') r g) ((g.map (·.1)).Sublist (MT++(List.range 3).map (Cr (n/8)))) ((∀m∈g,-100<=m.2/\m.2<=100)) (IZ λW X=>S=[some (.int n),some (.ref l'),W,X]))) ?A (λN hJ=>?B)
   case B=>
    refine kA (λ_=>?_) (λ_=>hJ _ _ ⟨s1,l,g,r,hL,G,b.trans (List.sublist_append_right _ _),hb,_,_,rfl⟩);refine⟨5,rfl,by lia,by lia,λD hD=>?_⟩;refine eL (K:=K) (lo:=0) (n:=5) (λj p H'=>aq Z H'/\H' D=some (.lst p)/\Paired (NC K H') p (DP.take j)) ⟨aj (aq.refl _) hD,ae,.nil⟩ ?_ ?_
    ·rintro j p I hj⟨f,M,c⟩;obtain⟨e1,e2⟩:=HX j (si.mpr hj);have R:=Paired.length c;rw[m3]at R;refine au (iL (bH ?_));refine U rfl ⟨"abcde",_,97+j,rfl,rfl,de (by decide+kernel),e1,"mark",(⟨#[97+j]⟩:Str),rfl,rfl,de (show 4+1<=65536 by decide),U rfl (r2 ⟨ls rfl,λt ht=>?_⟩)⟩;have J:=aj (o:=.tup [.str (("mark":Str)++(⟨#[97+j]⟩:Str)),.int (0+(j:Int)-2)]) (aq.refl I) ht;have ad:=J _ _ M;refine⟨ad,by rw[k4];lia,lf hj ⟨bu (f.trans J) hD,ae,?_⟩⟩;rw[c8 e2];exact sQ (.lst ad) (Paired.snoc (sQ (.of J) c) ⟨t,rfl,aU.of ae⟩)
    ·rintro p I⟨f,M,c⟩;have R:=Paired.length c;have a7:=Paired.length G;have L:=b.length_le;rw[c_,c_,qq]at L;refine U rfl ⟨D,l,_,U rfl ⟨rfl,M,f _ _ hL,by rw[k4];have:p.length=5:=R;lia,λl' al=>au (hJ _ _ ⟨aj (s1.trans f) al,l',DP++g,_,ae,sQ (.new al) (GL c (sQ (.of f) G)),?_,λm hm=>?_,_,_,rfl⟩)⟩⟩
     ·rw[j1];exact(Rr _).append b
     ·rcases RJ.mp hm with z|z
      ·exact(by decide:∀m∈DP,-100<=m.2/\m.2<=100) m z
      ·exact hb m z
   case A=>rintro S I⟨f,l',a8,bp,ba,c,e,an,W,X,rfl⟩;refine U rfl ⟨l',U rfl (.inl ⟨aW.of ba,λt ht=>?_⟩)⟩;obtain⟨m1,m2⟩:=He (n/8);have bt:=m7;exact q t a8 _ (aj f ht) (Ot (sQ (.new ht) c) (aU.of ae)) (λm hm=>⟨Dq (m2 _ (e.subset (mu.mpr ⟨m,hm,rfl⟩))),by have:=an m hm;lia,by have:=an m hm;lia⟩) (e.nodup m1) (by have:=e.length_le;rw[c_]at this;exact this)
end
def xB(p:Nat):Prop:=p∈[2,3,5,7,11,13,17,37,61]
def xB.le(h:xB p):2<=p/\p<=61:=(by decide:∀p∈[2,3,5,7,11,13,17,37,61],2<=p/\p<=61) p h
structure BX where
 pl:Addr
 L:Addr
 T:Addr
def FI(K:RM)(H:Hp)(v:V)(t:Str×Nat):Prop:=∃b,v=.ref b/\aU K H b [.str t.1,.int t.2]
def FI.kp(e:Kp H H')(h:Paired (FI K H) c d):Paired (FI K H') c d:=Paired.mapP h λv m⟨b,h1,h2⟩=>⟨b,h1,e.tq h2⟩
structure ph(K:RM)(H:Hp)(p:Nat)(sa:Int)(ns:RS)(ts:List (Str×Nat))(A:BX):Prop where
 pl:H A.pl=some (.lst [.int p,.int sa,.ref A.L,.ref A.T])L:H A.L=some (.lst (ns.map V.str))T:∃us,H A.T=some (.lst us)/\Paired (FI K H) us ts
 n1:A.pl≠A.L
 n2:A.pl≠A.T
 n3:A.L≠A.T
def ph.same(h:ph K H p sa ns b A)(e:aq H H'):ph K H' p sa ns b A:=let⟨c,h1,h2⟩:=h.T
 ⟨e _ _ h.pl,e _ _ h.L,⟨c,e _ _ h1,FI.kp (.of e) h2⟩,h.n1,h.n2,h.n3⟩
inductive Ju(K:RM)(vs:List V)(H:Hp)(Q:VK)(_E:XK):Prop|mk(sc:Addr)(ns:RX)(_:vs=[.ref sc])(_:aW K H sc (ns.map V.int))(_:ns.length<=63)(_:∀(A:BX)(p:Nat)(sa:Int)H',aq H H'->H A.pl=none->H A.L=none->H A.T=none->ph K H' p sa [] [] A->xB p->(0<=sa/\sa<=c7)->Q (.ref A.pl) H')
section
def GV(T:Txt K mg a):aS P w K mg base dw 3 a.yy.x a.yy.d ["_law_script"] (Ju K):=by
 refine T.yy.ok uW λW A outer s H vs Q E F h=>?_
 ·obtain⟨G,ns,rfl,I,J,q⟩:=h;have X:=xJ;refine⟨_,(ah (bq 1 uW.nd (pc T.dG (cq T) F (O (Y 0) (O af (O af ag))))) (ah (bq 2 uW.nd (gz K (bA (O af (O af (O af (O af (O af (O af (O af (O (gz K (bA (O af (O af (O af (O af ag))))) (av aO (av bg (Y 1) af) af)) ag))))))))) (av aO (Y 1) af))) (ai (az (bA (O (Y 2) (O (av aO (pc T.jH (sP T) F (O (Y 0) (O af ag))) (av bG (av u8 af af) af)) (O (bA ag) (O (bA ag) ag))))))))),?_⟩
  refine U rfl ⟨G,ns,0,1,rfl,I,J,⟨by decide,by decide⟩,⟨by decide,by decide⟩,au ?_⟩;generalize cr ns 0 1=x;refine⟨ls rfl,λj r=>?_⟩;have M:=aj (o:=.lst [V.int 5,V.int 17,V.int 37,V.int 61]) (aq.refl H) r;have e:aA H j (.lst [V.int 5,V.int 17,V.int 37,V.int 61]) j=some (.lst [V.int 5,V.int 17,V.int 37,V.int 61]):=ae;generalize aA H j (.lst [V.int 5,V.int 17,V.int 37,V.int 61])=t at M e⊢;have b4:=bw (x/8) (show(0:Int)<4 by decide);have u:=bw x (show(0:Int)<8 by decide);obtain⟨z,v,N⟩:=mS (ns:=[5,17,37,61]) b4.1 b4.2
  (repeat(first|refine U rfl ?_|refine r2 ?_|refine⟨(rfl:fj _ _=true),?_⟩|refine⟨(show fh _ _ from cd rfl),?_⟩|refine⟨(show(0:Int)<_ by first|decide|lia),?_⟩|refine⟨(rfl:V.int 10=V.int 10),rfl,?_⟩))
  refine⟨j,_,_,U rfl ⟨rfl,aW.of e,N,ls rfl,λk y=>?_⟩⟩;have R:=aj (o:=.lst [V.int 2,V.int 3,V.int 5,V.int 7,V.int 11,V.int 13,V.int 7,V.int z]) (aq.refl t) y;have f:aA t k (.lst [V.int 2,V.int 3,V.int 5,V.int 7,V.int 11,V.int 13,V.int 7,V.int z]) k=some (.lst [V.int 2,V.int 3,V.int 5,V.int 7,V.int 11,V.int 13,V.int 7,V.int z]):=ae;generalize aA t k (.lst [V.int 2,V.int 3,V.int 5,V.int 7,V.int 11,V.int 13,V.int 7,V.int z])=l at R f⊢;obtain⟨p,B,g⟩:=mS (ns:=[2,3,5,7,11,13,7,z]) u.1 u.2
  (repeat(first|refine U rfl ?_|refine r2 ?_|refine⟨(rfl:fj _ _=true),?_⟩|refine⟨(show fh _ _ from cd rfl),?_⟩|refine⟨(show(0:Int)<_ by first|decide|lia),?_⟩|refine⟨(rfl:V.int 10=V.int 10),rfl,?_⟩))
  refine⟨k,_,_,U rfl ⟨rfl,aW.of f,g,au ?_⟩⟩;have C:xB p.toNat/\0<=p:=by
   simp only[ov,n0,to]at B v;rcases B with rfl|rfl|rfl|rfl|rfl|rfl|rfl|rfl
   all_goals try exact⟨by unfold xB;decide,by decide⟩
   rcases v with rfl|rfl|rfl|rfl
   all_goals exact⟨by unfold xB;decide,by decide⟩
  obtain⟨pn,rfl⟩:∃n:Nat,p=n:=⟨p.toNat,by lia⟩;clear B g f v N e b4 u;have i:=M.trans R;refine U rfl (U rfl ⟨G,ns,1,rfl,i.seq I,J,?_⟩);generalize yn ns 1=c;have Z:=bw c (show(0:Int)<c7+1 by lia)
  (repeat(first|refine U rfl ?_|refine r2 ?_|refine⟨(rfl:fj _ _=true),?_⟩|refine⟨(show fh _ _ from cd rfl),?_⟩|refine⟨(show(0:Int)<_ by first|decide|lia),?_⟩|refine⟨(rfl:V.int 10=V.int 10),rfl,?_⟩))
  refine⟨ls rfl,λL D=>⟨ls rfl,λT m=>⟨ls rfl,λpl b=>?_⟩⟩⟩;have n3:L≠T:=λz=>by rw[<-z,ae]at m;cases m
  have n2:pl≠T:=λz=>by rw[z,ae]at b;cases b
  have n1:pl≠L:=λz=>by rw[z,ao n3,ae]at b;cases b
  have S:aq l (aA (aA l L (.lst [])) T (.lst [])):=aj (aj (aq.refl l) D) m;exact q ⟨pl,L,T⟩ pn _ _ (i.trans (aj S b)) ((i.trans S).free b) (i.free D) ((i.trans (aj (aq.refl l) D)).free m) ⟨ae,by show aA _ _ _ L=_;rw[ao (ol n1),ao n3,ae];rfl,⟨[],by show aA _ _ _ T=_;rw[ao (ol n2),ae],.nil⟩,n1,n2,n3⟩ C.1 ⟨Z.1,by lia⟩
end
def fc(M:cg):List Str:=M.las.map cG.nm
def fi(M:cg):List (Str×Nat):=M.trs.map λt=>(t.nm,t.arms.length)
def vm(M:cg):Dd->List Str|.layer nm _=>fc M++[nm]|_=>fc M
def nR(M:cg):Dd->List (Str×Nat)|.trial x=>fi M++[(x.nm,x.arms.length)]|_=>fi M
structure md(ns:RX)(M:cg):Prop where
 ln:∀(i:Nat)(l:cG),M.las[i]?=some l->l.nm=cL i (cr ns 1 2)/\l.sl=(cr ns 2 2+i)%((M.p:Int)+1)tn:∀(j:Nat)(t:dh),M.trs[j]?=some t->t.nm=cL j (cr ns 2 3)lp:M.las.length<=M.p+1
 pr:xB M.p
def FH(ns:RX)(M:cg):Dd->Prop|.layer nm sl=>nm=cL M.las.length (cr ns 1 2)/\sl=(cr ns 2 2+M.las.length)%((M.p:Int)+1)/\M.las.length<M.p+1|.trial x=>x.nm=cL M.trs.length (cr ns 2 3)|.deal _ z b=>z<=100/\∀x∈b,x<=9|_=>True
def Pg(A:BX)(H H':Hp):Prop:=∃o,(o=A.L\/o=A.T)/\Kp H H'/\∀b ob,H b=some ob->b≠o->H' b=some ob
theorem Pg.of(s:aq H H'):Pg A H H':=⟨A.L,.inl rfl,.of s,λb o h _=>s b o h⟩
def jQ(K:RM)(ns:RX)(M:cg)(A:BX)(H:Hp)(Q:VK):Prop:=∀(b:Addr)(d:Dd)(c:List V)(H':Hp),Pg A H H'->aU K H' b c->jc K H' M d c->ph K H' M.p M.salt (vm M d) (nR M d) A->FH ns M d->(M.trs.length=0->d.adds=true)->Q (.ref b) H'
def jQ.same(h:jQ K ns M A H Q)(s:aq H c):jQ K ns M A c Q:=λe d f H'⟨o,h1,h2,h3⟩=>h e d f H' ⟨o,h1,Kp.trans (.of s) h2,λb ob g=>h3 b ob (s b ob g)⟩
structure wA(K:RM)(H:Hp)(sc:Addr)(ns:RX)(M:cg)(A:BX)(c:Nat):Prop where
 sq:aW K H sc (ns.map V.int)len:ns.length<=63
 pl:ph K H M.p M.salt (fc M) (fi M) A
 ok:lY M c
 pn:md ns M
 n4:∀H',(∀b ob,H b=some ob->b≠A.L->H' b=some ob)->aW K H' sc (ns.map V.int)
theorem wA.same(h:wA K H d ns M A c)(s:aq H H'):wA K H' d ns M A c:=⟨s.seq h.sq,h.len,h.pl.same s,h.ok,h.pn,λf g=>h.n4 f λb ob e n=>g b ob (s b ob e) n⟩
def ph.addL(h:ph K H p sa ns b A)(x:Str):ph K (aA H A.L (.lst (ns.map V.str++[.str x]))) p sa (ns++[x]) b A:=let⟨c,h1,h2⟩:=h.T
 ⟨by rw[ao h.n1];exact h.pl,by rw[ae,j1];rfl,⟨c,by rw[ao (ol h.n3)];exact h1,FI.kp (.lst h.L) h2⟩,h.n1,h.n2,h.n3⟩
def ph.addT(h:ph K H p sa ns c A)(h1:H A.T=some (.lst d))(h2:Paired (FI K H) d c)(e:aU K H b [.str x.1,.int x.2]):ph K (aA H A.T (.lst (d++[.ref b]))) p sa ns (c++[x]) A:=⟨by rw[ao h.n2];exact h.pl,by rw[ao h.n3];exact h.L,⟨_,ae,FI.kp (.lst h1) (Paired.snoc h2 ⟨b,rfl,e⟩)⟩,h.n1,h.n2,h.n3⟩
inductive LU(K:RM)(vs:List V)(H:Hp)(Q:VK)(_E:XK):Prop|mk(sc:Addr)(ns:RX)(M:cg)(A:BX)(c:Nat)(_:vs=[.ref sc,.ref A.pl])(_:wA K H sc ns M A c)(_:M.las.length<4)(_:M.las.length<M.p+1)(_:jQ K ns M A H Q)
def Et(h:md ns M)(c:M.las.length<M.p+1):(cr ns 2 2+M.las.length)%((M.p:Int)+1)∉M.las.map cG.sl:=λz=>by obtain⟨l,hm,e⟩:=mu.mp z;obtain⟨i,hi⟩:=j_.mp hm;have b:=(d_.mp hi).1;rw[(h.ln i l hi).2]at e;have h1:((cr ns 2 2+M.las.length)-(cr ns 2 2+i))%((M.p:Int)+1)=0:=Int.emod_eq_emod_iff_emod_sub_eq_zero.mp e.symm;rw[show(cr ns 2 2+(M.las.length:Int))-(cr ns 2 2+i)=((M.las.length-i:Nat):Int)by lia,Int.emod_eq_of_lt (by lia) (by lia)]at h1;lia
def EO(h:md ns M)(c:M.las.length<4):cL M.las.length (cr ns 1 2)∉M.las.map cG.nm:=λz=>by obtain⟨l,hm,e⟩:=mu.mp z;obtain⟨i,hi⟩:=j_.mp hm;have b:=(d_.mp hi).1;rw[(h.ln i l hi).1]at e;have:=qM ⟨by lia,by lia⟩ ⟨by lia,by lia⟩ e;lia
def Eh(h:md ns M)(c:M.trs.length<10):cL M.trs.length (cr ns 2 3)∉M.trs.map dh.nm:=λz=>by obtain⟨t,hm,e⟩:=mu.mp z;obtain⟨i,hi⟩:=j_.mp hm;have b:=(d_.mp hi).1;rw[h.tn i t hi]at e;have:=qM ⟨by lia,by lia⟩ ⟨by lia,by lia⟩ e;lia
section
def wW(T:Txt K mg a):aS P w K mg base dw 3 a.gZ.x a.gZ.d ["_law_script","_law_plan_here"] (LU K):=by
 refine T.gZ.ok kh λC A outer s H I Q E r h=>?_
 ·obtain⟨z,ns,M,A,c,rfl,g,h4,B,q⟩:=h;refine⟨_,(ah (bq 2 kh.nd (ax (aH K rfl) (by rfl) T.bD L2.aJ (O (gz K (Y 1) af) ag))) (ah (bq 3 kh.nd (pc T.tu (vi T) r (O (Y 2) (O (pc T.dG (cq T) r (O (Y 0) (O af (O af ag)))) ag)))) (ah (aR (jw K rfl PySem.F.plainAttrs_list PySem.F.slot_list_append PySem.F.type_list_append eU (gz K (Y 1) af) (O (Y 3) ag))) (ai (az (bC (O aC (O (Y 3) (O (av aO (av bG (pc T.dG (cq T) r (O (Y 0) (O af (O af ag)))) (Y 2)) (av bG (gz K (Y 1) af) af)) ag))))))))),?_⟩
  have t:=g.pl;have j:(fc M).length=M.las.length:=c_ _;refine U rfl (rX (aW.of t.pl) (am (k:=2) rfl) ⟨_,M.las.length,rfl,.inl ⟨_,aW.of t.L,by rw[c_,j]⟩,au ?_⟩);refine U rfl (U rfl ⟨z,ns,1,2,rfl,g.sq,g.len,⟨by decide,by decide⟩,⟨by decide,by decide⟩,(M.las.length:Int),cr ns 1 2,rfl,λl m=>au ?_⟩);have f:=t.same m;refine U rfl (rX (aW.of f.pl) (am (k:=2) rfl) ⟨.inl ⟨rfl,_,aW.of f.L⟩,U rfl (rA f.L (by rw[c_,j,k4];lia) ?_)⟩);have i:=f.addL (cL M.las.length (cr ns 1 2));have kp:Kp l (aA l A.L (.lst ((fc M).map V.str++[.str (cL M.las.length (cr ns 1 2))]))):=.lst f.L;have u:∀b ob,l b=some ob->b≠A.L->aA l A.L (.lst ((fc M).map V.str++[.str (cL M.las.length (cr ns 1 2))])) b=some ob:=λb ob e n=>by rw[ao n];exact e
  generalize aA l A.L (.lst ((fc M).map V.str++[.str (cL M.las.length (cr ns 1 2))]))=D at i kp u⊢;have bs:=bw (cr ns 2 2+M.las.length) (show(0:Int)<(M.p:Int)+1 by lia);refine U rfl (U rfl ⟨z,ns,2,2,rfl,(g.same m).n4 _ u,g.len,⟨by decide,by decide⟩,⟨by decide,by decide⟩,U rfl (r2 (U rfl (rX (aW.of i.pl) (am (k:=0) rfl) (r2 (r2 ⟨by show(0:Int)<(M.p:Int)+1;lia,ls rfl,λG v=>?_⟩)))))⟩);have y:=aj (o:=.tup [.str "layer",.str (cL M.las.length (cr ns 1 2)),.int ((cr ns 2 2+M.las.length)%((M.p:Int)+1))]) (aq.refl D) v;exact q G (.layer _ _) _ _ ⟨A.L,.inl rfl,Kp.trans (.of m) (Kp.trans kp (.of y)),λb ob e n=>y _ _ (u b ob (m _ _ e) n)⟩ (aU.of ae) (.layer (uy _ _) (EO g.pn h4) ⟨bs.1,by lia⟩ (Et g.pn B) h4) (i.same y) ⟨rfl,rfl,B⟩ λ_=>rfl
end
def iX(ns:RX)(m:Nat):List Str:=(List.range m).map λ(j:Nat)=>cL j (cr ns 3 4)
def II(ns:RX)(h:m<=4):(iX ns m).length=m/\(iX ns m).Nodup/\∀x∈iX ns m,Wd x:=by
 refine⟨by unfold iX;rw[c_,qq],?_,λx c=>?_⟩
 ·refine List.pairwise_iff_getElem.mpr λi j hi b d e=>?_;unfold iX at e hi b;rw[c_,qq]at hi b;rw[RC,RC,List.getElem_range,List.getElem_range]at e;have:=qM ⟨by lia,by lia⟩ ⟨by exact rk _,by lia⟩ e;lia
 ·obtain⟨j,_,rfl⟩:=mu.mp c;exact uy _ _
inductive LT(K:RM)(vs:List V)(H:Hp)(Q:VK)(_E:XK):Prop|mk(sc:Addr)(ns:RX)(M:cg)(A:BX)(c:Nat)(n:Int)(_:vs=[.ref sc,.ref A.pl,.int n])(_:wA K H sc ns M A c)(_:M.trs.length<10)(_:0<M.las.length)(_:jQ K ns M A H Q)
section
def wV(T:Txt K mg a):aS P w K mg base dw 5 a.gY.x a.gY.d ["_law_script","_law_plan_here","_law_number"] (LT K):=by
 refine T.gY.ok cM λc3 A outer s H vs Q E N h=>?_
 ·obtain⟨sc,ns,M,A,c,n,rfl,R,h10,c4,q⟩:=h;refine⟨_,(ah (bq 3 cM.nd (ax (aH K rfl) (by rfl) T.bD L2.aJ (O (gz K (Y 1) af) ag))) (ah (bq 4 cM.nd (pc T.tu (vi T) N (O (Y 3) (O (pc T.dG (cq T) N (O (Y 0) (O af (O af ag)))) ag)))) (ah (bq 5 cM.nd (gz K (gz K (Y 1) af) (av aO (Y 2) (ax (aH K rfl) (by rfl) T.bD L2.aJ (O (gz K (Y 1) af) ag))))) (ah (bq 6 cM.nd (c6 (dJ K rfl) (by rfl) T.dz L2.bM (O (wB lX [] [9] [9] (ak i4) (bZ 9) (cP rfl T.dS (O (av bG af (av aO (av bg (Y 2) af) af)) ag)) (λcl C s₀ H₀ ex=>⟨(nq lX [] 9),bR,(pc T.tu (vi T) N (O (Y 9) (O (pc T.dG (cq T) N (O (Y 0) (O af (O af ag)))) ag)))⟩)) ag))) (ah (bq 7 cM.nd (bA ag)) (ah (bq 8 cM.nd (pc T.dG (cq T) N (O (Y 0) (O (av bG af (Y 3)) (O af ag))))) (ah (eI pa rfl (cP rfl T.dS (O (ax (sw rfl) (by rfl) T.G3 L2.vT (O af (O (Y 3) ag))) ag)) (tS 9 cM.nd) (ai (aK (aD aT (av aO (av bg (Y 8) (gz K (bA (O af (O af (O af (O af (O af (O af (O af (O af ag))))))))) (Y 9))) af) af (aG _)) (ai (aR (jw K rfl PySem.F.plainAttrs_list PySem.F.slot_list_append PySem.F.type_list_append eU (Y 7) (O (cN K (gz K (gz K (Y 1) af) (av fC (av fC (Y 3) af) (Y 9))) af) ag)))) aB))) (ah (aR (jw K rfl PySem.F.plainAttrs_list PySem.F.slot_list_append PySem.F.type_list_append eU (gz K (Y 1) af) (O (bC (O (Y 4) (O (ax (aH K rfl) (by rfl) T.bD L2.aJ (O (Y 6) ag)) ag))) ag))) (ai (az (bC (O aC (O (Y 4) (O (Y 5) (O (Y 6) (O (bS ((AW T 3).mono (by decide)) N rfl T.eD.m T.eD.f.kp T.eD.b .nil bo (O (av bg (Y 2) af) (O af ag))) (O (c6 (dJ K rfl) (by rfl) T.dz L2.bM (O (Y 7) ag)) ag))))))))))))))))),?_⟩
  have hP:=R.pl;have da:(fc M).length=M.las.length:=c_ _;have htl:(fi M).length=M.trs.length:=c_ _;have l4:=R.ok.l4;obtain⟨us,ad,an⟩:=hP.T;have ap:=Paired.length an;rw[htl]at ap;refine U rfl (rX (aW.of hP.pl) (am (k:=3) rfl) ⟨_,M.trs.length,rfl,.inl ⟨_,aW.of ad,by rw[ap]⟩,au ?_⟩);refine U rfl (U rfl ⟨sc,ns,2,3,rfl,R.sq,R.len,⟨by decide,by decide⟩,⟨by decide,by decide⟩,(M.trs.length:Int),cr ns 2 3,rfl,λH1 s1=>au ?_⟩);have p:=R.same s1;have bl:=bw n (show(0:Int)<((fc M).length:Int)by lia);obtain⟨hm,bP,b8⟩:=gp bl.1 bl.2;refine U rfl (rX (aW.of p.pl.pl) (am (k:=2) rfl) (U rfl (U rfl (rX (aW.of p.pl.pl) (am (k:=2) rfl) ⟨_,(fc M).length,rfl,.inl ⟨_,aW.of p.pl.L,by rw[c_]⟩,_,U rfl ⟨rfl,by show(0:Int)<((fc M).length:Int);lia,A.L,_,_,U rfl ⟨rfl,aW.of p.pl.L,b8,au ?_⟩⟩⟩))));have b4:=bw (n/4) (show(0:Int)<4 by decide)
  (repeat(first|refine U rfl ?_|refine r2 ?_|refine⟨(rfl:fj _ _=true),?_⟩|refine⟨(show fh _ _ from cd rfl),?_⟩|refine⟨(show(0:Int)<_ by first|decide|lia),?_⟩|refine⟨(rfl:V.int 10=V.int 10),rfl,?_⟩))
  refine⟨by lia,by lia,λD hD=>?_⟩;obtain⟨m,b9,a5,em⟩:∃m:Nat,1<=m/\m<=4/\1+n/4%4=(m:Int):=⟨(1+n/4%4).toNat,by lia,by lia,by lia⟩;rw[em];obtain⟨al,a6,aw⟩:=II ns a5;refine eL (K:=K) (lo:=0) (n:=(m:Int).toNat) (λj S H'=>aq H1 H'/\H' D=some (.lst S)/\S=((iX ns m).take j).map V.str) ⟨aj (aq.refl _) hD,ae,rfl⟩ ?_ ?_
  ·rintro j S H2 hj⟨s2,G,rfl⟩;rw[show(0:Int)+(j:Int)=((j:Nat):Int)by lia];refine au (iL (bH ?_));refine U rfl (U rfl ⟨sc,ns,3,4,rfl,s2.seq p.sq,R.len,⟨by decide,by decide⟩,⟨by decide,by decide⟩,(j:Int),cr ns 3 4,rfl,λH3 s3=>?_⟩);refine⟨s3 _ _ G,by rw[c_,m3,k4];omega,lf hj ⟨bu (s2.trans s3) hD,ae,?_⟩⟩;have e:(iX ns m)[j]?=some (cL (j:Int) (cr ns 3 4)):=by unfold iX;rw[ir,List.getElem?_range (by exact hj)];rfl
   rw[c8 e,j1];rfl
  ·rintro S H2⟨s2,G,rfl⟩;rw[mo (by exact Qd al)]at G;refine⟨D,U rfl (.inl ⟨aW.of G,λar a7=>au ?_⟩)⟩;have s3:aq H1 (aA H2 ar (.tup ((iX ns m).map V.str))):=aj s2 a7;have W:aA H2 ar (.tup ((iX ns m).map V.str)) ar=some (.tup ((iX ns m).map V.str)):=ae;generalize aA H2 ar (.tup ((iX ns m).map V.str))=H3 at s3 W⊢;clear G s2 a7 hD;refine⟨ls rfl,λsl hsl=>au ?_⟩;have s4:=aj (o:=.lst []) s3 hsl;have X:=aj (o:=.lst []) (aq.refl H3) hsl _ _ W;have a8:=p.same s4;have Z:H1 sl=none:=s3.free hsl;have aa:aA H3 sl (.lst []) sl=some (.lst []):=ae;generalize aA H3 sl (.lst [])=H4 at s4 X a8 aa⊢;refine U rfl (U rfl (r2 ⟨sc,ns,5+(M.trs.length:Int),7,rfl,a8.sq,R.len,⟨by lia,by lia⟩,⟨by decide,by decide⟩,au ?_⟩));generalize cr ns (5+(M.trs.length:Int)) 7=mr;have as:(if(M.trs.length:Int)<8 then(M.trs.length:Int)else 8)=((min 8 M.trs.length:Nat):Int):=by split<;>lia
   refine U rfl ⟨_,U rfl (U rfl ⟨by rw[as];lia,by rw[as];lia,?_⟩)⟩;rw[as];have nd:((M.trs.map dh.nm).reverse).Nodup:=List.pairwise_reverse.mpr (List.Pairwise.imp (λh=>ol h) R.ok.tn);have dc:((M.trs.map dh.nm).reverse).length=M.trs.length:=by rw[Qt,c_]
   refine gO (lo:=0) (n:=((min 8 M.trs.length:Nat):Int).toNat) (λi σ H'=>aq H1 H'/\H' ar=some (.tup ((iX ns m).map V.str))/\∃(B:RS),H' sl=some (.lst (B.map V.str))/\B.Sublist ((M.trs.map dh.nm).reverse.take i)/\∃v9,σ=[some (.ref sc),some (.ref A.pl),some (.int n),some (.int M.trs.length),some (.str (cL M.trs.length (cr ns 2 3))),some (.str hm),some (.ref ar),some (.ref sl),some (.int mr),v9]) ⟨s4,X,[],aa,List.nil_sublist _,_,rfl⟩ ?_ ?_
   ·rintro i σ H5 hi⟨I,g,B,hz,l,v9,rfl⟩;have di:i<min 8 M.trs.length:=by exact hi
    refine au ?_;refine U rfl ⟨ls rfl,λl5 cc=>?_⟩;have u:=aj (o:=.lst [V.int 1,V.int 4,V.int 16,V.int 64,V.int 256,V.int 1024,V.int 4096,V.int 16384]) (aq.refl H5) cc;have ba:aA H5 l5 (.lst [V.int 1,V.int 4,V.int 16,V.int 64,V.int 256,V.int 1024,V.int 4096,V.int 16384]) l5=some (.lst [V.int 1,V.int 4,V.int 16,V.int 64,V.int 256,V.int 1024,V.int 4096,V.int 16384]):=ae;generalize aA H5 l5 (.lst [V.int 1,V.int 4,V.int 16,V.int 64,V.int 256,V.int 1024,V.int 4096,V.int 16384])=H6 at u ba⊢;obtain⟨d,hd,ha⟩:=mS (ns:=[1,4,16,64,256,1024,4096,16384]) (i:=0+(i:Int)) (by lia) (by show _<(8:Int);lia);have ci:=(by decide:∀d∈[(1:Int),4,16,64,256,1024,4096,16384],0<d/\d<1073741824) d hd;refine U rfl ⟨l5,_,_,U rfl ⟨rfl,aW.of ba,ha,_,U rfl ⟨rfl,ci,_,U rfl ⟨rfl,(show(0:Int)<4 by decide),rfl,U rfl ?_⟩⟩⟩⟩;have a2:(M.trs.map dh.nm).reverse[i]?=(M.trs.map dh.nm)[M.trs.length-1-i]?:=by rw[List.getElem?_reverse (by rw[c_];lia),c_]
    obtain⟨t,ht⟩:∃t,M.trs[M.trs.length-1-i]?=some t:=⟨_,f_ (by lia)⟩;rw[ir,ht]at a2;refine kA (λ_=>?_) (λ_=>⟨I.trans u,u _ _ g,B,u _ _ hz,by rw[c8 a2];exact l.trans (List.sublist_append_left _ _),_,rfl⟩);have cC:=p.pl.same (I.trans u);obtain⟨v,hv,b,rfl,hb⟩:=qW an (M.trs.length-1-i) (t.nm,t.arms.length) (by unfold fi;rw[ir,ht];rfl);have y:=(s1.trans (I.trans u)) _ _ ad;have bb:=u _ _ hz;have a3:=l.length_le;rw[m3]at a3;refine U rfl ⟨.inl ⟨rfl,_,aW.of bb⟩,U rfl (rX (aW.of cC.pl) (am (k:=3) rfl) (U rfl (r2 (U rfl (r2 ?_)))))⟩;refine rX (aW.of y) (by rw[show(M.trs.length:Int)-1-(0+(i:Int))=((M.trs.length-1-i:Nat):Int)by lia];exact am hv) (rX (aq.tseq (s1.trans (I.trans u)) hb) (am (k:=0) rfl) ?_);refine rA bb (by rw[c_,k4];lia) ⟨bu (I.trans u) Z,by rw[ao λz=>by rw[z,hz]at g;cases g];exact u _ _ g,B++[t.nm],by rw[ae,j1];rfl,?_,_,rfl⟩;rw[c8 a2];exact l.append (Rr _)
   ·rintro σ H5⟨I,g,B,hz,l,v9,rfl⟩;have bc:=p.same I;have c0:=(l.trans (QB _ _)).nodup nd;have a3:=l.length_le;rw[m3]at a3;have J:=(s1.trans I) _ _ ad;have bi:=FI.kp (.of (s1.trans I)) an;refine U rfl (rX (aW.of bc.pl.pl) (am (k:=3) rfl) ⟨.inl ⟨rfl,_,aW.of J⟩,U rfl (U rfl ⟨_,m,rfl,.inr ⟨_,aU.of g,by rw[c_,al]⟩,ls rfl,λb hb=>?_⟩)⟩);have u:=aj (o:=.tup [.str (cL M.trs.length (cr ns 2 3)),.int m]) (aq.refl H5) hb;have bp:aA H5 b (.tup [.str (cL M.trs.length (cr ns 2 3)),.int m]) b=some (.tup [.str (cL M.trs.length (cr ns 2 3)),.int m]):=ae;generalize aA H5 b (.tup [.str (cL M.trs.length (cr ns 2 3)),.int m])=H6 at u bp⊢;have y:=u _ _ J;refine rA y (by rw[ap,k4];lia) ?_;have bt:=(bc.pl.same u).addT y (FI.kp (.of u) bi) (x:=(cL M.trs.length (cr ns 2 3),m)) (aU.of bp);have kp:Kp H6 (aA H6 A.T (.lst (us++[.ref b]))):=.lst y;have hk:∀d ob,H6 d=some ob->d≠A.T->aA H6 A.T (.lst (us++[.ref b])) d=some ob:=λd ob e n=>by rw[ao n];exact e
    generalize aA H6 A.T (.lst (us++[.ref b]))=H7 at bt kp hk⊢;have nT:∀{d:Addr},H1 d=none->d≠A.T:=λh z=>by rw[z,p.pl.T.choose_spec.1]at h;cases h
    have bz:=hk _ _ (u _ _ g) (λz=>by rw[z,J]at g;cases g);have c1:=hk _ _ (u _ _ hz) (nT Z);refine U rfl (U rfl (U rfl (U rfl (r2 ⟨⟨by decide,by decide⟩,n/16,3,rfl,by decide,by decide,λr rv H8 s8 N ho hh hc=>?_⟩))));refine U rfl ⟨sl,U rfl (.inl ⟨aW.of (s8 _ _ c1),λsh c2=>⟨ls rfl,λdv bJ=>?_⟩⟩)⟩;obtain⟨ra,rfl⟩:∃ra,rv=.ref ra:=by cases N<;>exact⟨_,rfl⟩
    have s9:=aj (o:=.tup (B.map V.str)) (aq.refl H8) c2;have ac:aA H8 sh (.tup (B.map V.str)) sh=some (.tup (B.map V.str)):=ae;generalize aA H8 sh (.tup (B.map V.str))=H9 at s9 ac bJ⊢;have sa:=aj (o:=.tup [.str "trial",.str (cL M.trs.length (cr ns 2 3)),.str hm,.ref ar,.ref ra,.ref sh]) (aq.refl H9) bJ;refine q dv (.trial ⟨cL M.trs.length (cr ns 2 3),hm,iX ns m,r,B,false,false,[]⟩) _ _ ⟨A.T,.inr rfl,Kp.trans (.of ((s1.trans I).trans u)) (Kp.trans kp (.of ((s8.trans s9).trans sa))),λd ob e n=>((s8.trans s9).trans sa) _ _ (hk d ob (((s1.trans I).trans u) _ _ e) n)⟩ (aU.of ae) ?_ ?_ rfl λ_=>rfl
    ·exact .trial ⟨uy _ _,bP,by rw[al];exact b9,by rw[al];exact a5,a6,aw,by show r.hgt<=6;lia,by show B.length<=8;lia⟩ (Eh R.pn h10) (aU.of (((s8.trans s9).trans sa) _ _ bz)) ((N.kp (.of s9)).kp (.of sa)) (by show r.cnt<=30;lia) ho (λw hw=>Dq ((by decide+kernel:∀w∈O7,No w=true) w hw)) (by decide) (aU.of (sa _ _ ac)) (λz hz=>Qh.mp (Ql (l.subset hz))) c0 rfl rfl rfl h10
    ·have:=bt.same ((s8.trans s9).trans sa);rw[show nR M (.trial ⟨cL M.trs.length (cr ns 2 3),hm,iX ns m,r,B,false,false,[]⟩)=fi M++[(cL M.trs.length (cr ns 2 3),m)]by show fi M++[(_,(iX ns m).length)]=_;rw[al]];exact this
end
inductive F7(K:RM)(vs:List V)(H:Hp)(Q:VK)(_E:XK):Prop|mk(sc:Addr)(ns:RX)(M:cg)(A:BX)(c:Nat)(k n:Int)(_:vs=[.ref sc,.ref A.pl,.int k,.int n])(_:wA K H sc ns M A c)(_:(0<=k/\k<=1000))(_:0<M.trs.length)(_:jQ K ns M A H Q)
def wA.tri(h:wA K H l ns M A c)(h1:H A.T=some (.lst d))(h2:Paired (FI K H) d (fi M))(n:Int)(h0:0<M.trs.length):∃(t:dh)(b:Addr),t∈M.trs/\xy d (n%(d.length:Int))=some (.ref b)/\aU K H b [.str t.nm,.int t.arms.length]:=by
 have e:=Paired.length h2;rw[show(fi M).length=M.trs.length from c_ _]at e;have b:=bw n (show(0:Int)<(d.length:Int)by lia);have f:(n%(d.length:Int)).toNat<M.trs.length:=by lia
 obtain⟨v,g,i,rfl,j⟩:=qW h2 (n%(d.length:Int)).toNat _ (by unfold fi;rw[ir,f_ f];rfl);refine⟨_,i,yl f,?_,j⟩;have:=am g;rw[show(((n%(d.length:Int)).toNat:Nat):Int)=n%(d.length:Int)by lia]at this;exact this
section
def EG(T:Txt K mg a):aS P w K mg base dw 3 a.sH.x a.sH.d ["_law_script","_law_plan_here","_law_k","_law_number"] (F7 K):=by
 refine T.sH.ok nj λad A outer s H vs Q E hr h=>?_
 ·obtain⟨sc,ns,M,A,c,k,n,rfl,u,⟨k0,k1⟩,h0,q⟩:=h;refine⟨_,(ah (bq 4 nj.nd (gz K (gz K (Y 1) af) (av aO (Y 3) (ax (aH K rfl) (by rfl) T.bD L2.aJ (O (gz K (Y 1) af) ag))))) (ah (qV (i:=5) nj.nd rfl (.inr rfl) (av bG (av bg (gz K (Y 1) af) af) af)) (ah (aK (aD aT (av aO (av bg (Y 3) af) af) af (aG _)) (ah (bq 6 nj.nd (c6 (dJ K rfl) (by rfl) T.dz L2.bM (O (wB mW ["_law_j"] [] [7] (ak mB) (bZ 7) (cP rfl T.dS (O (cN K (Y 4) af) ag)) (λcl C s₀ H₀ ex=>⟨(nq mW ["_law_j"] 7),bR,(av bG af (av aO (pc T.dG (cq T) hr (O (Y 0) (O (Y 2) (O (av bG af (Y 7)) ag)))) af))⟩)) ag))) (ai (az (bC (O aC (O (cN K (Y 4) af) (O (av aO (pc T.dG (cq T) hr (O (Y 0) (O (Y 2) (O af ag)))) (av bG (gz K (Y 1) af) af)) (O (Y 6) ag)))))))) aB) (ai (az (bC (O aC (O (cN K (Y 4) af) (O (c6 (dJ K rfl) (by rfl) T.dz L2.bM (O (wB mW ["_law_j"] [] [7] (ak mB) (bZ 7) (cP rfl T.dS (O (cN K (Y 4) af) ag)) (λcl C s₀ H₀ ex=>⟨(nq mW ["_law_j"] 7),bR,(av aO (pc T.dG (cq T) hr (O (Y 0) (O (Y 2) (O (av bG af (Y 7)) ag)))) (Y 5))⟩)) ag)) ag))))))))),?_⟩
  have J:=u.pl;have hp:=u.pn.pr.le;have al:=m7;obtain⟨us,L,X⟩:=J.T;have aa:=Paired.length X;rw[show(fi M).length=M.trs.length from c_ _]at aa;obtain⟨t,b,B,ac,hb⟩:=u.tri L X n h0;have a1:=(u.ok.tr t B).a1;have a4:=(u.ok.tr t B).a4;refine U rfl (rX (aW.of J.pl) (am (k:=3) rfl) (U rfl (U rfl (rX (aW.of J.pl) (am (k:=3) rfl) ⟨_,us.length,rfl,.inl ⟨_,aW.of L,rfl⟩,_,U rfl ⟨rfl,by show(0:Int)<(us.length:Int);lia,A.T,_,_,U rfl ⟨rfl,aW.of L,ac,au ?_⟩⟩⟩))));refine U rfl (rX (aW.of J.pl) (am (k:=0) rfl) (r2 ⟨⟨by decide,by decide⟩,_,U rfl ⟨rfl,au (J8 (r9 ?_ (λN hN=>?_)))⟩⟩))
  rotate_left
  ·(repeat(first|refine U rfl ?_|refine r2 ?_|refine⟨(rfl:fj _ _=true),?_⟩|refine⟨(show fh _ _ from cd rfl),?_⟩|refine⟨(show(0:Int)<_ by first|decide|lia),?_⟩|refine⟨(rfl:V.int 10=V.int 10),rfl,?_⟩))
   refine kA (λ_=>?_) (λ_=>hN);refine U rfl (rX hb (am (k:=1) rfl) (U rfl ⟨by exact rk _,by lia,λD Z=>?_⟩));refine eL (K:=K) (lo:=0) (n:=(t.arms.length:Int).toNat) (λj f H'=>aq H H'/\H' D=some (.lst f)/\∃(e:RX),f=e.map V.int/\e.length=j/\∀x∈e,1<=x/\x<=9) ⟨aj (aq.refl _) Z,ae,[],rfl,rfl,λx r=>nomatch r⟩ ?_ ?_
   ·rintro j f R hj⟨F,l,e,rfl,m,g⟩;refine au (iL (bH ?_));have b9:=bw (cr ns k (11+(0+(j:Int)))) (show(0:Int)<9 by decide);refine U rfl (U rfl (U rfl (r2 ⟨sc,ns,k,11+(0+(j:Int)),rfl,F.seq u.sq,u.len,⟨by omega,by lia⟩,⟨by lia,by lia⟩,_,U rfl ⟨rfl,(show(0:Int)<9 by decide),_,U rfl ⟨rfl,?_⟩⟩⟩)));refine⟨l,by rw[c_,k4];lia,lf hj ⟨bu F Z,ae,e++[1+cr ns k (11+(0+(j:Int)))%9],by rw[j1];rfl,by rw[iA,m];rfl,λx r=>?_⟩⟩;rcases RJ.mp r with z|z
    ·exact g x z
    ·rw[List.mem_singleton.mp z];lia
   ·rintro f R⟨F,l,e,rfl,m,g⟩;refine⟨D,U rfl (.inl ⟨aW.of l,λG S=>au ?_⟩)⟩;have y:=aj (o:=.tup (e.map V.int)) F S;have v:aA R G (.tup (e.map V.int)) G=some (.tup (e.map V.int)):=ae;generalize aA R G (.tup (e.map V.int))=H3 at y v⊢;have bz:=bw (cr ns k 10) (show(0:Int)<(M.p:Int)+1 by lia);refine U rfl (rX (aq.tseq y hb) (am (k:=0) rfl) (U rfl (U rfl ⟨sc,ns,k,10,rfl,y.seq u.sq,u.len,⟨by omega,by lia⟩,⟨by decide,by decide⟩,U rfl (rX (aW.of (y _ _ J.pl)) (am (k:=0) rfl) (r2 (r2 ⟨by show(0:Int)<(M.p:Int)+1;lia,U rfl ⟨ls rfl,λdv I=>?_⟩⟩)))⟩)));have W:=aj (o:=.tup [.str "deal",.str t.nm,.int (cr ns k 10%((M.p:Int)+1)),.ref G]) (aq.refl H3) I;exact q dv (.deal t _ e) _ _ (.of (y.trans W)) (aU.of ae) (.deal B ⟨bz.1,by lia⟩ (aU.of (W _ _ v)) (by exact m) λx r=>⟨(g x r).1,by have:=(g x r).2;lia⟩) (J.same (y.trans W)) ⟨by lia,λx r=>(g x r).2⟩ λz=>absurd z (oe h0)
  ·refine U rfl (rX hb (am (k:=0) rfl) (U rfl (rX hb (am (k:=1) rfl) (U rfl ⟨by exact rk _,by lia,λD Z=>?_⟩))));refine eL (K:=K) (lo:=0) (n:=(t.arms.length:Int).toNat) (λj f H'=>aq H H'/\H' D=some (.lst f)/\∃(e:RX),f=e.map V.int/\e.length=j/\∀x∈e,0<=x) ⟨aj (aq.refl _) Z,ae,[],rfl,rfl,λx r=>nomatch r⟩ ?_ ?_
   ·rintro j f R hj⟨F,l,e,rfl,m,g⟩;refine au (iL (bH ?_));have b9:=bw (cr ns k (11+(0+(j:Int)))) (show(0:Int)<(M.p:Int)/2+2 by exact Int.natCast_pos.mpr (Qu _));refine U rfl (U rfl (U rfl (r2 ⟨sc,ns,k,11+(0+(j:Int)),rfl,F.seq u.sq,u.len,⟨by omega,by lia⟩,⟨by lia,by lia⟩,U rfl (r2 ⟨(by show(0:Int)<(M.p:Int)/2+2;lia),?_⟩)⟩)));refine⟨l,by rw[c_,k4];lia,lf hj ⟨bu F Z,ae,e++[cr ns k (11+(0+(j:Int)))%((M.p:Int)/2+2)],by rw[j1];rfl,by rw[iA,m];rfl,λx r=>?_⟩⟩;rcases RJ.mp r with z|z
    ·exact g x z
    ·rw[List.mem_singleton.mp z];exact b9.1
   ·rintro f R⟨F,l,e,rfl,m,g⟩;refine⟨D,U rfl (.inl ⟨aW.of l,λG S=>⟨ls rfl,λdv I=>?_⟩⟩)⟩;have y:=aj (o:=.tup (e.map V.int)) F S;have v:aA R G (.tup (e.map V.int)) G=some (.tup (e.map V.int)):=ae;generalize aA R G (.tup (e.map V.int))=H3 at y v I⊢;have W:=aj (o:=.tup [.str "share",.str t.nm,.ref G]) (aq.refl H3) I;exact q dv (.share t e) _ _ (.of (y.trans W)) (aU.of ae) (.share B (aU.of (W _ _ v)) (by exact m) g) (J.same (y.trans W)) trivial λz=>absurd z (oe h0)
end
def mP(F G:Prop)(hc:∀Q:Bool->Hp->Prop,(F->Q true H)->(G->Q false H)->c b H Q)(h1:F->∀N:St->Hp->Prop,t {D with nx:=N} b H)(h2:G->u D b H):Ah (Jh c t Ai) u D b H:=hc _ (λf=>bH (h1 f _)) λg=>cj (h2 g)
def xq{c:Prop}[Decidable c]{Q:Bool->Hp->Prop}{H:Hp}(h1:c->Q true H)(h2:¬c->Q false H):Q (decide c) H:=by
 by_cases e:c
 ·rw[m_ e];exact h1 e
 ·rw[nn e];exact h2 e
def PL{te:TE}{g:TG}{u:TS}{D:qG}{c:St}(h1:∀Q:VK,(∀b,Q (.bl b) H)->te c H Q)(h2:∀b,g (.bl b) c H (u D)):Ah (Aj te g) u D c H:=h1 _ h2
inductive JD(K:RM)(vs:List V)(H:Hp)(Q:VK)(_E:XK):Prop|mk(sc:Addr)(ns:RX)(M:cg)(A:BX)(c:Nat)(k:Int)(_:vs=[.ref sc,.ref A.pl,.int k])(_:wA K H sc ns M A c)(_:(0<=k/\k<=1000))(_:jQ K ns M A H Q)
section
def GW(T:Txt K mg a):aS P w K mg base dw 6 a.yz.x a.yz.d ["_law_script","_law_plan_here","_law_k"] (JD K):=by
 refine T.yz.ok kP λal A outer s H vs Q E J h=>?_
 ·obtain⟨W,ns,M,A,c,k,rfl,v,⟨k0,k1⟩,q0⟩:=h;refine⟨_,(ah (bq 3 kP.nd (pc T.dG (cq T) J (O (Y 0) (O (Y 2) (O af ag))))) (ah (bq 4 kP.nd (av bg (Y 3) af)) (ah (bq 5 kP.nd (pc T.mY (q8 T) J (O (av aO (Y 4) af) (O (pc T.dG (cq T) J (O (Y 0) (O af (O af ag)))) ag)))) (ah (aK (PW.pt (fm (aD aT (ax (aH K rfl) (by rfl) T.bD L2.aJ (O (gz K (Y 1) af) ag)) af (aG _)) (dN (PW.pt (mG (aD aT (av aO (Y 3) af) af (aG _)) (j0 (aD xS (ax (aH K rfl) (by rfl) T.bD L2.aJ (O (gz K (Y 1) af) ag)) (ax (sw rfl) (by rfl) T.G3 L2.vT (O (av bG (gz K (Y 1) af) af) (O af ag))) (aG _)))))))) (ai (az (pc T.gZ (wW T) J (O (Y 0) (O (Y 1) ag))))) aB) (ah (bq 6 kP.nd (cE (bY xS (Y 2) af (aG _)) (dC (bY xS (av aO (Y 3) af) af (aG _))))) (ah (aK (PW.pt (fm (aD aT (ax (aH K rfl) (by rfl) T.bD L2.aJ (O (gz K (Y 1) af) ag)) af (aG _)) (dN (PW.pt (mG (aD xS (ax (aH K rfl) (by rfl) T.bD L2.aJ (O (gz K (Y 1) af) ag)) af (aG _)) (j0 (PW.pt (fm (aP K rfl (Y 6) (λ_=>rfl)) (dN (aD aT (av aO (Y 3) af) af (aG _))))))))))) (ai (az (pc T.gY (wV T) J (O (Y 0) (O (Y 1) (O (Y 4) ag)))))) aB) (ah (aK (aD xS (av aO (Y 3) af) af (aG _)) (ai (az (pc T.sH (EG T) J (O (Y 0) (O (Y 1) (O (Y 2) (O (Y 4) ag))))))) aB) (ah (bq 7 kP.nd (cN K (gz K (gz K (Y 1) af) (av aO (av bg (Y 4) af) (ax (aH K rfl) (by rfl) T.bD L2.aJ (O (gz K (Y 1) af) ag)))) af)) (ah (aK (aD aT (av aO (Y 3) af) af (aG _)) (ai (az (bC (O aC (O (gz K (gz K (Y 1) af) (av aO (Y 4) (ax (aH K rfl) (by rfl) T.bD L2.aJ (O (gz K (Y 1) af) ag)))) (O (av aO (av bg (Y 4) af) (av bG (av bg (gz K (Y 1) af) af) af)) ag)))))) aB) (ah (aK (aD aT (av aO (Y 3) af) af (aG _)) (ai (az (bC (O (gz K (bA (O aC (O aC (O aC ag)))) (av aO (Y 4) af)) (O (Y 7) ag))))) aB) (ah (aK (aD aT (av aO (Y 3) af) af (aG _)) (ai (az (bC (O (gz K (bA (O aC (O aC (O aC (O aC ag))))) (av aO (Y 4) af)) (O (Y 7) ag))))) aB) (ah (aK (aD aT (av aO (Y 3) af) af (aG _)) (ai (az (bC (O aC (O (Y 5) (O (Y 7) ag)))))) aB) (ai (az (bC (O aC (O (Y 5) (O (pc T.pj (xU T) J (O (av bg (Y 4) af) ag)) ag)))))))))))))))))),?_⟩
  refine U rfl (U rfl ⟨W,ns,k,5,rfl,v.sq,v.len,⟨by omega,by lia⟩,⟨by decide,by decide⟩,au ?_⟩);have x0:=(DH ns k 5).1;generalize cr ns k 5=x at x0⊢;refine U rfl (r2 ⟨⟨by decide,by decide⟩,au ?_⟩);refine U rfl (r2 ⟨(show(0:Int)<7 by decide),U rfl ⟨W,ns,4,6,rfl,v.sq,v.len,⟨by decide,by decide⟩,⟨by decide,by decide⟩,x/16%7,cr ns 4 6,rfl,λg I s1 hg=>au (J8 ?_)⟩⟩);have S:=v.same s1;have q:=q0.same s1;clear v q0 s1;have i:=S.pl;have hp:=S.pn.pr.le;obtain⟨us,C,X⟩:=i.T;have aa:=Paired.length X;rw[show(fi M).length=M.trs.length from c_ _]at aa;have Z:((fc M).map V.str).length=M.las.length:=by rw[c_];exact c_ _
  refine mP (M.las.length<4/\M.las.length<M.p+1) (0<M.las.length) (λQ r u=>?_) (λf N=>?_) (λh0=>?_)
  ·refine U rfl (rX (aW.of i.pl) (am (k:=2) rfl) ⟨_,M.las.length,rfl,.inl ⟨_,aW.of i.L,Z.symm⟩,rfl,U rfl (kA (λe=>r ⟨by lia,by lia⟩) (λe=>?_))⟩);refine U rfl (r2 ⟨(show(0:Int)<16 by decide),rfl,U rfl (kA (λ_=>?_) (λ_=>u (by lia)))⟩);refine U rfl (rX (aW.of i.pl) (am (k:=2) rfl) ⟨_,M.las.length,rfl,.inl ⟨_,aW.of i.L,Z.symm⟩,U rfl (rX (aW.of i.pl) (am (k:=0) rfl) (r2 ⟨(M.p:Int)+1,4,rfl,r2 (U rfl (xq (λf=>r ?_) (λ_=>u (by lia))))⟩))⟩)
   split at f<;>lia
  ·exact U rfl (U rfl ⟨W,ns,M,A,c,rfl,S,f.1,f.2,q⟩)
  refine PL (λQ h=>?_) (λeb=>au ?_)
  ·refine U rfl (r2 (U rfl (nL (λ_=>?_) (λ_=>h _))));exact U rfl (r2 ⟨(show(0:Int)<16 by decide),_,U rfl ⟨rfl,h _⟩⟩)
  refine mP (M.trs.length<10) (0<M.trs.length) (λQ r u=>?_) (λf N=>?_) (λF=>?_)
  ·refine U rfl (rX (aW.of i.pl) (am (k:=3) rfl) ⟨_,us.length,rfl,.inl ⟨_,aW.of C,rfl⟩,rfl,U rfl (kA (λe=>r (by lia)) (λe=>?_))⟩);have g0:0<M.trs.length:=by lia
   refine U rfl (rX (aW.of i.pl) (am (k:=3) rfl) ⟨_,us.length,rfl,.inl ⟨_,aW.of C,rfl⟩,_,U rfl ⟨rfl,U rfl (nL (λe=>?_) (λ_=>u g0))⟩⟩);have f:=r (by lia);refine U rfl ⟨eb,rfl,xh (λ_=>f) (λ_=>?_)⟩;exact U rfl (r2 ⟨(show(0:Int)<16 by decide),rfl,U rfl (xq (λ_=>f) (λ_=>u g0))⟩)
  ·exact U rfl (U rfl (U rfl ⟨W,ns,M,A,c,x/16,rfl,S,f,h0,q⟩))
  refine mP True True (λQ r u=>?_) (λ_ N=>?_) (λ_=>?_)
  ·exact U rfl (r2 ⟨(show(0:Int)<16 by decide),_,U rfl ⟨rfl,U rfl (xq (λ_=>r trivial) (λ_=>u trivial))⟩⟩)
  ·exact U rfl (U rfl (U rfl (U rfl ⟨W,ns,M,A,c,k,x/16,rfl,S,⟨k0,k1⟩,F,q⟩)))
  obtain⟨t,b,y,ac,hb⟩:=S.tri C X (x/16/7) F;refine U rfl (rX (aW.of i.pl) (am (k:=3) rfl) (U rfl (r2 ⟨⟨by decide,by decide⟩,U rfl (rX (aW.of i.pl) (am (k:=3) rfl) ⟨_,us.length,rfl,.inl ⟨_,aW.of C,rfl⟩,_,U rfl ⟨rfl,by show(0:Int)<(us.length:Int);lia,A.T,_,_,U rfl ⟨rfl,aW.of C,ac,rX hb (am (k:=0) rfl) (au (J8 ?_))⟩⟩⟩)⟩)));refine mP True True (λQ r u=>?_) (λ_ N=>?_) (λ_=>?_)
  ·exact U rfl (r2 ⟨(show(0:Int)<16 by decide),rfl,U rfl (xq (λ_=>r trivial) (λ_=>u trivial))⟩)
  ·have an:(fc M).length=M.las.length:=c_ _;have bl:=bw (x/16) (show(0:Int)<((fc M).length:Int)by lia);have bz:=bw (x/16/4) (show(0:Int)<(M.p:Int)/3+2 by lia);obtain⟨nm,ad,ha⟩:=gp bl.1 bl.2;obtain⟨l,hl,rfl⟩:=mu.mp ad;refine U rfl (rX (aW.of i.pl) (am (k:=2) rfl) (U rfl (U rfl (rX (aW.of i.pl) (am (k:=2) rfl) ⟨_,(fc M).length,rfl,.inl ⟨_,aW.of i.L,by rw[c_]⟩,_,U rfl ⟨rfl,by show(0:Int)<((fc M).length:Int);lia,A.L,_,_,U rfl ⟨rfl,aW.of i.L,ha,?_⟩⟩⟩))));refine U rfl (r2 ⟨⟨by decide,by decide⟩,U rfl (rX (aW.of i.pl) (am (k:=0) rfl) (r2 ⟨⟨by decide,by decide⟩,_,U rfl ⟨rfl,r2 ⟨by show(0:Int)<(M.p:Int)/3+2;lia,ls rfl,λB m=>?_⟩⟩⟩))⟩);have j:=aj (o:=.tup [.str "hold",.str l.nm,.int (x/16/4%((M.p:Int)/3+2))]) (aq.refl I) m;exact q B (.hold l _) _ _ (.of j) (aU.of ae) (.hold hl bz.1) (i.same j) trivial λz=>absurd z (oe F)
  refine mP True True (λQ r u=>?_) (λ_ N=>?_) (λ_=>?_)
  ·exact U rfl (r2 ⟨(show(0:Int)<16 by decide),rfl,U rfl (xq (λ_=>r trivial) (λ_=>u trivial))⟩)
  ·refine⟨ls rfl,λG R=>?_⟩;have n:=aj (o:=.lst [V.str "pause",V.str "go",V.str "go"]) (aq.refl I) R;have D:aA I G (.lst [V.str "pause",V.str "go",V.str "go"]) G=some (.lst [V.str "pause",V.str "go",V.str "go"]):=ae;generalize aA I G (.lst [V.str "pause",V.str "go",V.str "go"])=H2 at n D⊢;have bm:=bw (x/16) (show(0:Int)<3 by decide);obtain⟨z,hz,ha⟩:=gp (zs:=["pause","go","go"]) bm.1 bm.2;refine U rfl (r2 ⟨(show(0:Int)<3 by decide),G,_,_,U rfl ⟨rfl,aW.of D,ha,U rfl ⟨ls rfl,λB m=>?_⟩⟩⟩);have j:=aj (o:=.tup [.str z,.str t.nm]) (aq.refl H2) m;simp only[ov,n0,to]at hz;rcases hz with rfl|rfl|rfl
   ·exact q B (.pause t true) _ _ (.of (n.trans j)) (aU.of ae) (.pause y) (i.same (n.trans j)) trivial λz=>absurd z (oe F)
   all_goals exact q B (.pause t false) _ _ (.of (n.trans j)) (aU.of ae) (.go y) (i.same (n.trans j)) trivial λz=>absurd z (oe F)
  refine mP True True (λQ r u=>?_) (λ_ N=>?_) (λ_=>?_)
  ·exact U rfl (r2 ⟨(show(0:Int)<16 by decide),rfl,U rfl (xq (λ_=>r trivial) (λ_=>u trivial))⟩)
  ·refine⟨ls rfl,λG R=>?_⟩;have n:=aj (o:=.lst [V.str "close",V.str "pause",V.str "go",V.str "go"]) (aq.refl I) R;have D:aA I G (.lst [V.str "close",V.str "pause",V.str "go",V.str "go"]) G=some (.lst [V.str "close",V.str "pause",V.str "go",V.str "go"]):=ae;generalize aA I G (.lst [V.str "close",V.str "pause",V.str "go",V.str "go"])=H2 at n D⊢;have bm:=bw (x/16) (show(0:Int)<4 by decide);obtain⟨z,hz,ha⟩:=gp (zs:=["close","pause","go","go"]) bm.1 bm.2;refine U rfl (r2 ⟨(show(0:Int)<4 by decide),G,_,_,U rfl ⟨rfl,aW.of D,ha,U rfl ⟨ls rfl,λB m=>?_⟩⟩⟩);have j:=aj (o:=.tup [.str z,.str t.nm]) (aq.refl H2) m;simp only[ov,n0,to]at hz;rcases hz with rfl|rfl|rfl|rfl
   ·exact q B (.close t) _ _ (.of (n.trans j)) (aU.of ae) (.close y) (i.same (n.trans j)) trivial λz=>absurd z (oe F)
   ·exact q B (.pause t true) _ _ (.of (n.trans j)) (aU.of ae) (.pause y) (i.same (n.trans j)) trivial λz=>absurd z (oe F)
   all_goals exact q B (.pause t false) _ _ (.of (n.trans j)) (aU.of ae) (.go y) (i.same (n.trans j)) trivial λz=>absurd z (oe F)
  refine mP True True (λQ r u=>?_) (λ_ N=>?_) (λ_=>?_)
  ·exact U rfl (r2 ⟨(show(0:Int)<16 by decide),rfl,U rfl (xq (λ_=>r trivial) (λ_=>u trivial))⟩)
  ·refine U rfl (U rfl ⟨ls rfl,λB m=>?_⟩);have j:=aj (o:=.tup [.str "bar",.str g,.str t.nm]) (aq.refl I) m;exact q B (.bar g t) _ _ (.of j) (aU.of ae) (.bar hg y) (i.same j) trivial λz=>absurd z (oe F)
  refine U rfl (U rfl (r2 ⟨⟨by decide,by decide⟩,x/16/7,rfl,λmt ms H2 n hm h3 h4 h5=>⟨ls rfl,λB m=>?_⟩⟩));have j:=aj (o:=.tup [.str "visit",.str g,.ref mt]) (aq.refl H2) m;exact q B (.visit g) _ _ (.of (n.trans j)) (aU.of ae) (.visit hg (hm.kp (.of j)) h3 h4 h5) (i.same (n.trans j)) trivial λz=>absurd z (oe F)
end
inductive Jp(P:RR)(w:World)(K:RM)(a:ke)(vs:List V)(H:Hp)(Q:VK)(E:XK):Prop|mk(M:cg)(Z:ZS)(c:Nat)(dv:Addr)(d:Dd)(xs:List V)(_:vs=[.ref (Z.G .hh),.ref dv])(_:cY P w K a H M Z c)(_:c<=63)(_:aU K H dv xs)(_:jc K H M d xs)(_:(d.clo=false->∀(r:Addr)(us:List V)(M':cg)(Z':ZS)(H':Hp),fB M d M'->fU H M Z H' M' Z'->cY P w K a H' M' Z' (c+1)->H r=none->H' r=some (.lst us)->Q (.ref r) H'))(_:(d.adds=false->∀(z:Str)H',aq H H'->Q (.str z) H'))
section
def AV(T:Txt K mg a)(u:w.params=a.pm):aS P w K mg base dw 15 a.wb.x a.wb.d ["_law_house","_law_deed_here"] (Jp P w K a):=by
 refine T.wb.ok Az λv A outer s H N Q E e h=>?_
 ·obtain⟨M,Z,c,y,d,z,rfl,o,hc,B,C,q,p⟩:=h;refine⟨_,(ah (JU rfl rfl T.yg rfl T.Bh T.yh rfl T.Bi T.sC (λE t R S D=>(L9 (i:=2) Az.nd rfl (by first|exact Or.inl rfl|exact Or.inr rfl) (Kd (Y 0) T.aE T.jI.m ((AX (P:=P) (w:=w) T u).mono (by decide)) e T.jI.b .nil D (O (Y 1) ag)))) (λF=>(ai (az aC))) (λF=>(ai (az aC)))) (ai (az (Y 2)))),?_⟩
  have G:=o.g.house;refine pq G rfl rfl (U rfl ⟨M,Z,c,y,d,z,rfl,o,hc,B,C,λf r I J L H' nx st j e k=>?_,λl H' n=>?_,λl H' n=>?_⟩)
  ·exact au (U rfl (q f r I J L H' nx st j e k))
  ·exact .inl ⟨rfl,p l _ H' n⟩
  ·exact .inr ⟨rfl,p l _ H' n⟩
end
def jc.kd(h:jc K H M d b):(∃t z c e,d=.deal t z c/\b=[.str "deal",.str t.nm,.int z,.ref e]/\aU K H e (c.map V.int))\/(∃t ns f,d=.share t ns/\b=[.str "share",.str t.nm,.ref f])\/∃k r,b=.str k::r/\k≠"deal"/\k≠"share"/\d.tells=none:=by cases h with|deal h1 g h2=>exact .inl ⟨_,_,_,_,rfl,rfl,h2⟩|share=>exact .inr (.inl ⟨_,_,_,rfl,rfl⟩)|_=>exact .inr (.inr ⟨_,_,rfl,by decide+kernel,by decide+kernel,rfl⟩)
inductive Jx(K:RM)(vs:List V)(H:Hp)(Q:VK)(_E:XK):Prop|mk(dd dv:Addr)(kvs:List (b0×V))(M:cg)(d:Dd)(xs:List V)(_:vs=[.ref dd,.ref dv])(_:H dd=some (.dK kvs))(_:kvs.length<=100)(_:aU K H dv xs)(_:jc K H M d xs)(_:∀(kvs':List (b0×V))H',(∀b o,H b=some o->b≠dd->H' b=some o)->H' dd=some (.dK kvs')->kvs'.length<=kvs.length+1->(∀(nm:Str)(v:V),a0 kvs' (.inr nm)=some v->(a0 kvs (.inr nm)=some v/\d.tells≠some nm)\/∃t z ws s wv,d=.deal t z ws/\nm=t.nm/\v=.ref s/\aU K H' s [.int z,.ref wv]/\aU K H' wv (ws.map V.int))->Q .non H')
section
def xT(T:Txt K mg a):aS P w K mg base dw 1 a.pi.x a.pi.d ["_law_dealt_last","_law_deed_here"] (Jx K):=by
 refine T.pi.ok Ex λI A outer s H vs Q E F h=>?_
 ·obtain⟨dd,J,c,M,d,L,rfl,f,N,g,R,q⟩:=h;refine⟨_,(ah (aK (aD aT (cN K (Y 1) af) aC (aG _)) (ai (jt (bC (O (cN K (Y 1) af) (O (cN K (Y 1) af) ag))) (kx (Y 0) (cN K (Y 1) af) (oE (ca F))))) aB) (ai (aK (PW.pt (mG (aD aT (cN K (Y 1) af) aC (aG _)) (j0 (lT (u7 (ca F) (cN K (Y 1) af) (Y 0)) rfl)))) (ai (aR (u4 (Y 0) (cN K (Y 1) af) ⟨rfl,rfl,rfl,rfl⟩))) aB))),?_⟩
  have l:(Str.ofString "deal")≠Str.ofString "share":=by decide+kernel
  rcases R.kd with⟨t,z,S,m,rfl,rfl,V⟩|⟨t,ns,nv,rfl,rfl⟩|⟨k,r,rfl,W,X,tn⟩
  ·refine U rfl (rX g (am (k:=0) rfl) ⟨rfl,U rfl (bQ ?_)⟩);refine U rfl (rX g (am (k:=2) rfl) (U rfl (rX g (am (k:=3) rfl) ⟨ls rfl,λs Z=>?_⟩)));have p:=aj (o:=.tup [.int z,.ref m]) (aq.refl H) Z;have B:aA H s (.tup [.int z,.ref m]) s=some (.tup [.int z,.ref m]):=ae;generalize aA H s (.tup [.int z,.ref m])=i at p B⊢;have C:aU K i J _:=aq.tseq p g;have j:=p _ _ f;refine U rfl (U rfl (rX C (am (k:=1) rfl) ?_));refine⟨dd,c,.inr t.nm,rfl,rfl,j,by rw[k4];lia,?_⟩;have G:∀b o,i b=some o->b≠dd->aA i dd (.dK (dO c (.inr t.nm) (.ref s))) b=some o:=λb o e n=>by rw[ao n];exact e
   have D:aA i dd (.dK (dO c (.inr t.nm) (.ref s))) dd=some (.dK (dO c (.inr t.nm) (.ref s))):=ae;have kp:Kp i (aA i dd (.dK (dO c (.inr t.nm) (.ref s)))):=⟨λu L e=>by rw[ao λz=>by rw[z,j]at e;cases e];exact e,λu o⟨o',e⟩=>⟨o',by rw[ao λz=>by rw[z,j]at e;cases e];exact e⟩⟩;generalize aA i dd (.dK (dO c (.inr t.nm) (.ref s)))=H2 at G D kp⊢;refine U rfl (rX (kp.tq C) (am (k:=0) rfl) ⟨rfl,U rfl (jT l (cj ?_))⟩);refine q _ H2 (λb o e n=>G b o (p _ _ e) n) D (j9 _ _ _) λnm v h=>?_;rw[Ad]at h
   by_cases e:nm=t.nm
   ·rw[ku (by rw[e])]at h;exact .inr ⟨t,z,S,s,m,rfl,e,(k_ h).symm,kp.tq (aU.of B),kp.tq (aq.tseq p V)⟩
   ·rw[j2 λy=>e (ro y)]at h;exact .inl ⟨h,λy=>e (k_ y).symm⟩
  ·refine U rfl (rX g (am (k:=0) rfl) ⟨rfl,U rfl (jT (ol l) ?_)⟩);refine U rfl (rX g (am (k:=0) rfl) ⟨rfl,U rfl (bQ ?_)⟩);refine U rfl (rX g (am (k:=1) rfl) (U rfl (rG (a0 c (.inr t.nm)) (du.k (k:=.inr t.nm) f) (U rfl (xh (λe=>?_) (λe=>?_))))))
   ·obtain⟨v,hv⟩:=z4.mp e;refine U rfl ⟨dd,rfl,.inl ⟨_,.inl f⟩,U rfl (rX g (am (k:=1) rfl) ⟨c,.inr t.nm,v,f,rfl,hv,?_⟩)⟩;refine q _ _ (λb o e n=>by rw[ao n];exact e) ae (nh (vM _ _) (qc _)) λnm v h=>?_;rw[xH]at h
    split at h
    ·cases h
    ·next y=>exact .inl ⟨h,λx=>y (by rw[k_ x])⟩
   ·refine q c H (λ_ _ h _=>h) f (qc _) λnm v h=>.inl ⟨h,λx=>?_⟩;rw[<-k_ x]at h;rw[h]at e;cases e
  ·refine U rfl (rX g (am (k:=0) rfl) ⟨rfl,U rfl (jT W ?_)⟩);refine U rfl (rX g (am (k:=0) rfl) ⟨rfl,U rfl (jT X (cj ?_))⟩);exact q c H (λ_ _ h _=>h) f (qc _) λnm v h=>.inl ⟨h,by rw[tn];exactλz=>(nomatch z)⟩
end
def OX(K:RM)(H:Hp)(M:cg)(c:Nat)(b:List (b0×V)):Prop:=∀(nm:Str)(v:V),a0 b (.inr nm)=some v->∃z d s e,v=.ref s/\aU K H s [.int z,.ref e]/\aU K H e (d.map V.int)/\m4 M c (nm,z,d)
def OX.kp(h:OX K H M c b)(e:Kp H H'):OX K H' M c b:=λnm v d=>let⟨z,f,s,g,h1,h2,h3,h4⟩:=h nm v d;⟨z,f,s,g,h1,e.tq h2,e.tq h3,h4⟩
def Nj(c:Nat):Dd->Prop|.deal _ z b=>z<=100+2*((c:Int)+1)/\∀x∈b,x<=9|_=>True
def E5(l:cG)(t:dh)(b:RX):List Int:=List.zipWith (·+·) (aN l t) b
def DO(h:b.length=t.arms.length):(E5 l t b).length=t.arms.length:=by unfold E5 aN;rw[List.length_zipWith,c_,h,Nat.min_self]
def MP{l:cG}{t:dh}{b:RX}{k:Nat}{x y:Int}(h1:(aN l t)[k]?=some x)(h2:b[k]?=some y):(E5 l t b)[k]?=some (x+y):=by unfold E5;rw[List.getElem?_zipWith,h1,h2]
def Eu(h:x∈aN l t):0<=x:=by obtain⟨y,_,rfl⟩:=mu.mp h;exact rk _
def HK{l:cG}{t:dh}{c:RX}(h:∀x∈c,0<=x){k:Nat}{z:Int}(b:(E5 l t c)[k]?=some z):∃x,(aN l t)[k]?=some x/\x<=z/\0<=x:=by unfold E5 at b;rw[List.getElem?_zipWith_eq_some]at b;obtain⟨x,y,h1,h2,rfl⟩:=b;have:=h y (il h2);exact⟨x,h1,by lia,Eu (il h1)⟩
def MO{l:cG}{t:dh}{b:RX}(h:∀x∈b,0<=x):Gr l t (E5 l t b):=λk y z h1 h2=>by
 obtain⟨x,e,le,_⟩:=HK h h2;have c:(aN l t)[k]?=some ((l.S.pl (cu t.nm y)).length:Int):=by unfold aN;rw[ir,h1];rfl
 rw[e]at c;rw[<-k_ c];exact le
def lY.lhome{M:cg}{c i:Nat}{l b:cG}(h:lY M c)(g:M.las[i]?=some l)(d:b∈M.las)(e:b.nm=l.nm):b=l:=by obtain⟨j,f⟩:=j_.mp d;rw[h.luq f g e,g]at f;exact(k_ f).symm
def m4.gr{M:cg}{c:Nat}{t:dh}{z z':Int}{b:RX}(h:m4 M c (t.nm,z,b))(e:lY M c)(f:t∈M.trs)(q:z<=z'):b.length=t.arms.length/\sJ M (.deal t z' b):=by obtain⟨u,g,m,n,o⟩:=h.t;obtain⟨i,hi⟩:=j_.mp g;obtain⟨j,d⟩:=j_.mp f;rw[e.tuq hi d m,d]at hi;obtain rfl:=k_ hi;have h0:=h.z.1;refine⟨n,.deal λhc l p hh=>Gr.of_shares λk=>?_⟩;rw[o hc l p hh];refine Fj (show z.toNat<=z'.toNat from ?_);have h0:0<=z:=h0;lia
theorem sJ.adds{M:cg}{d:Dd}(h:sJ M d):d.adds=false:=by cases h<;>rfl
inductive JB(P:RR)(w:World)(K:RM)(a:ke)(vs:List V)(H:Hp)(Q:VK)(_E:XK):Prop|mk(sc:Addr)(ns:RX)(M:cg)(Z:ZS)(A:BX)(c:Nat)(k:Int)(dd:Addr)(kvs:List (b0×V))(_:vs=[.ref sc,.ref (Z.G .hh),.ref A.pl,.int k,.ref dd])(_:wA K H sc ns M A c)(_:cY P w K a H M Z c)(_:c<=63)(_:(0<=k/\k<=1000))(_:0<M.trs.length)(_:H dd=some (.dK kvs))(_:OX K H M c kvs)(_:∀(dv:Addr)(d:Dd)(xs:List V)(H':Hp),aq H H'->aU K H' dv xs->jc K H' M d xs->sJ M d->Nj c d->Q (.ref dv) H')
section
def EH(T:Txt K mg a):aS P w K mg base dw 6 a.sI.x a.sI.d ["_law_script","_law_house","_law_plan_here","_law_k","_law_dealt_last"] (JB P w K a):=by
 refine T.sI.ok fH λc0 A outer s H vs Q E W h=>?_
 ·obtain⟨sc,ns,M,Z,A,c,k,dd,ad,rfl,F,hZ,hc,⟨k0,k1⟩,t0,as,bp,q⟩:=h;refine⟨_,(ah (bq 5 fH.nd (pc T.dG (cq T) W (O (Y 0) (O (Y 3) (O af ag))))) (ah (bq 6 fH.nd (av bg (Y 5) af)) (ah (bq 7 fH.nd (gz K (gz K (Y 2) af) (av aO (Y 6) (ax (aH K rfl) (by rfl) T.bD L2.aJ (O (gz K (Y 2) af) ag))))) (ah (aK (aD xS (av aO (Y 5) af) af (aG _)) (ah (C9 8 lg ["_law_j"] [] [12] (ak mC) (bZ 12) (cP rfl T.dS (O (cN K (Y 7) af) ag)) (λcl C s₀ H₀ ex=>⟨(nq lg ["_law_j"] 12),bR,(av aO (pc T.dG (cq T) W (O (Y 0) (O (Y 3) (O (av bG af (Y 12)) ag)))) af)⟩) fH.nd) (ah (C9 9 lg ["_law_many","_law_add"] [] [12,13] (ak mC) (vD _ 12 13) (Dx K rfl rfl T.Le (O (bj (Y 1) T.aE T.d6.m ((tX (P:=P) (w:=w) T).mono (by decide)) W T.d6.b .nil bo (O (cN K (Y 7) af) ag)) (O (Y 8) ag))) (λcl C s₀ H₀ ex=>⟨(gb K rfl rfl (bF (nq lg ["_law_many","_law_add"] 12) (bF (nq lg ["_law_many","_law_add"] 13) ga))),bR,(av bG (Y 12) (Y 13))⟩) fH.nd) (ai (az (bC (O aC (O (cN K (Y 7) af) (O (c6 (dJ K rfl) (by rfl) T.dz L2.bM (O (Y 9) ag)) ag)))))))) aB) (ah (aK (PW.pt (mG (aD aT (av aO (Y 5) af) af (aG _)) (j0 (lT (u7 (ca W) (cN K (Y 7) af) (Y 4)) rfl)))) (ah (jt (dP (ca W) (Y 4) (cN K (Y 7) af) (λ_ _=>rfl)) (gb K rfl rfl (bF (tS 10 fH.nd) (bF (tS 11 fH.nd) ga)))) (ai (az (bC (O aC (O (cN K (Y 7) af) (O (av bG (Y 10) (av aO (av bg (Y 6) af) af)) (O (Y 11) ag)))))))) aB) (ah (aK (aD aT (av aO (Y 5) af) af (aG _)) (ai (az (bC (O aC (O (gz K (gz K (Y 2) af) (av aO (Y 6) (ax (aH K rfl) (by rfl) T.bD L2.aJ (O (gz K (Y 2) af) ag)))) (O (av aO (av bg (Y 6) af) (av bG (gz K (Y 2) af) af)) ag)))))) aB) (ah (aK (aD aT (av aO (Y 5) af) af (aG _)) (ai (az (bC (O (gz K (bA (O aC (O aC ag))) (av aO (av bg (Y 6) af) af)) (O (cN K (Y 7) af) ag))))) aB) (ai (az (bC (O aC (O (pc T.mY (q8 T) W (O (av aO (Y 6) af) (O (pc T.dG (cq T) W (O (Y 0) (O af (O af ag)))) ag))) (O (pc T.pj (xU T) W (O (av bg (Y 6) af) ag)) ag))))))))))))),?_⟩
  have hP:=F.pl;have hp:=F.pn.pr.le;have c1:=m7;obtain⟨us,al,a2⟩:=hP.T;have bt:=Paired.length a2;rw[show(fi M).length=M.trs.length from c_ _]at bt;refine U rfl (U rfl ⟨sc,ns,k,61,rfl,F.sq,F.len,⟨by omega,by lia⟩,⟨by decide,by decide⟩,au ?_⟩);have x0:=(DH ns k 61).1;generalize cr ns k 61=x at x0⊢;refine U rfl (r2 ⟨⟨by decide,by decide⟩,au ?_⟩);have y0:0<=x/8:=Int.ediv_nonneg x0 (by decide);obtain⟨t,b,y,bJ,hb⟩:=F.tri al a2 (x/8) t0;have a3:=F.ok.tr t y;have a1:=a3.a1;have a4:=a3.a4;refine U rfl (rX (aW.of hP.pl) (am (k:=3) rfl) (U rfl (U rfl (rX (aW.of hP.pl) (am (k:=3) rfl) ⟨_,us.length,rfl,.inl ⟨_,aW.of al,rfl⟩,_,U rfl ⟨rfl,by show(0:Int)<(us.length:Int);lia,A.T,_,_,U rfl ⟨rfl,aW.of al,bJ,au (J8 ?_)⟩⟩⟩))));refine mP True True (λQ hT hF=>?_) (λ_ N=>?_) (λ_=>?_)
  ·exact U rfl (r2 ⟨(show(0:Int)<8 by decide),_,U rfl ⟨rfl,U rfl (xq (λ_=>hT trivial) (λ_=>hF trivial))⟩⟩)
  ·refine U rfl (rX hb (am (k:=1) rfl) (U rfl ⟨by exact rk _,by lia,λD hD=>?_⟩));refine eL (K:=K) (lo:=0) (n:=(t.arms.length:Int).toNat) (λj f H'=>aq H H'/\H' D=some (.lst f)/\∃(B:RX),f=B.map V.int/\B.length=j/\∀x∈B,0<=x) ⟨aj (aq.refl _) hD,ae,[],rfl,rfl,λx R=>nomatch R⟩ ?_ ?_
   ·rintro j f H2 hj⟨G,an,B,rfl,I,X⟩;refine au (iL (bH ?_));have b9:=bw (cr ns k (62+(0+(j:Int)))) (show(0:Int)<3 by decide);refine U rfl (U rfl (U rfl (r2 ⟨sc,ns,k,62+(0+(j:Int)),rfl,G.seq F.sq,F.len,⟨by omega,by lia⟩,⟨by lia,by lia⟩,_,U rfl ⟨rfl,(show(0:Int)<3 by decide),?_⟩⟩)));refine⟨an,by rw[c_,k4];lia,lf hj ⟨bu G hD,ae,B++[cr ns k (62+(0+(j:Int)))%3],by rw[j1];rfl,by rw[iA,I];rfl,λx R=>?_⟩⟩;rcases RJ.mp R with z|z
    ·exact X x z
    ·rw[List.mem_singleton.mp z];exact b9.1
   ·rintro f H2⟨G,an,B,rfl,I,X⟩;have I:B.length=t.arms.length:=by exact I
    obtain⟨j,hj⟩:=j_.mp y;obtain⟨i,l,hl,hh⟩:=F.ok.home y;have hI:=hZ.g.house;refine au (pq (G _ _ hI) rfl rfl (U rfl (rX (aq.tseq G hb) (am (k:=0) rfl) ⟨M,Z,c,i,j,l,t,rfl,hZ.same G,hj,hl,hh,λr H3 J W a5=>?_⟩)));have hsl:(aN l t).length=t.arms.length:=c_ _;refine U rfl ⟨r,D,(aN l t).map V.int,B.map V.int,rfl,aU.of a5,?_⟩;refine yk (K:=K) (a:=r) (l:=D) (xs:=(aN l t).map V.int) (ys:=B.map V.int) (λD' k f H'=>aq H3 H'/\H' D'=some (.lst f)/\f=((E5 l t B).take k).map V.int) (.inl (aW.of (J _ _ an))) (λD' aa=>⟨aj (aq.refl _) aa,ae,rfl⟩) (by rw[c_,c_];lia) (λD' k f H' h=>⟨aU.of (h.1 _ _ a5),h.1⟩) ?_ ?_
    ·rintro D' k x1 x2 f H4 T1 aa ap a6⟨s4,ac,rfl⟩bP;have hi:k<((aN l t).map V.int).length:=(d_.mp ap).1;have c2:k<t.arms.length:=by rw[c_,hsl]at hi;exact hi
     rw[ir]at ap a6;obtain⟨z1,a7,rfl⟩:=Option.map_eq_some_iff.mp ap;obtain⟨z2,a8,rfl⟩:=Option.map_eq_some_iff.mp a6;have s5:=aj (o:=.tup [V.int z1,V.int z2]) (aq.refl H4) bP;have ba:aA H4 T1 (.tup [V.int z1,V.int z2]) T1=some (.tup [V.int z1,V.int z2]):=ae;generalize aA H4 T1 (.tup [V.int z1,V.int z2])=H5 at s5 ba⊢;refine⟨T1,U rfl ⟨aU.of ba,rfl,_,U rfl (au ⟨_,U rfl (au ⟨rfl,iL (bH ?_)⟩)⟩)⟩⟩;refine U rfl (U rfl (r2 ⟨s5 _ _ ac,?_,lf hi ⟨bu (s4.trans s5) aa,ae,?_⟩⟩))
     ·rw[c_,m3,k4];lia
     ·rw[c8 (MP a7 a8),j1];rfl
    ·rintro D' f H4 aa⟨s4,ac,rfl⟩;rw[c_,hsl,<-DO (l:=l) I,RB]at ac;have bb:=G.trans (J.trans s4);refine au (U rfl (rX (aq.tseq bb hb) (am (k:=0) rfl) (U rfl ⟨D',U rfl (.inl ⟨aW.of ac,λwv b8=>⟨ls rfl,λS u=>?_⟩⟩)⟩)));have s5:=aj (o:=.tup ((E5 l t B).map V.int)) bb b8;have bc:aA H4 wv (.tup ((E5 l t B).map V.int)) wv=some (.tup ((E5 l t B).map V.int)):=ae;generalize aA H4 wv (.tup ((E5 l t B).map V.int))=H5 at s5 bc u⊢;have s6:=aj (o:=.tup [.str "share",.str t.nm,.ref wv]) (aq.refl H5) u;refine q S (.share t (E5 l t B)) _ _ (s5.trans s6) (aU.of ae) (.share y (aU.of (s6 _ _ bc)) (DO I) λx R=>?_) (.share λ_ l' cc e=>?_) trivial
     ·obtain⟨k,hk⟩:=j_.mp R;obtain⟨x',_,h1,h2⟩:=HK X hk;lia
     ·rw[F.ok.lhome hl cc (e.trans hh.symm)];exact MO X
  refine mP (∃v,a0 ad (.inr t.nm)=some v) True (λQ hT hF=>?_) (λ⟨v,hv⟩N=>?_) (λ_=>?_)
  ·refine U rfl (r2 ⟨(show(0:Int)<8 by decide),rfl,U rfl (kA (λ_=>?_) (λ_=>hF trivial))⟩);refine U rfl (rX hb (am (k:=0) rfl) (U rfl (rG (a0 ad (.inr t.nm)) (du.k (k:=.inr t.nm) as) (U rfl ?_))));cases e:a0 ad (.inr t.nm)with|none=>exact hF trivial|some v=>exact hT ⟨v,e⟩
  ·obtain⟨z,B,s,wv,rfl,hs,hw,hD⟩:=bp _ _ hv;refine U rfl (U rfl (rX hb (am (k:=0) rfl) (rG (.ref s) (by rw[<-hv];exact du.k (k:=.inr t.nm) as) ?_)));refine⟨s,U rfl ⟨hs,rfl,_,U rfl (au ⟨_,U rfl (au ⟨rfl,?_⟩)⟩)⟩⟩;have b3:=bw (x/8/8) (show(0:Int)<3 by decide);refine U rfl (rX hb (am (k:=0) rfl) (U rfl (U rfl (r2 ⟨⟨by decide,by decide⟩,_,U rfl ⟨rfl,(show(0:Int)<3 by decide),_,U rfl ⟨rfl,U rfl ⟨ls rfl,λS u=>?_⟩⟩⟩⟩))));have J:=aj (o:=.tup [.str "deal",.str t.nm,.int (z+x/8/8%3),.ref wv]) (aq.refl H) u;have hz:=hD.z;have a7:0<=z:=hz.1;have a8:z<=100+2*(c:Int):=hz.2;obtain⟨g1,g2⟩:=hD.gr (z':=z+x/8/8%3) F.ok y (by lia);exact q S (.deal t _ B) _ _ J (aU.of ae) (.deal y ⟨by lia,by lia⟩ (aq.tseq J hw) g1 λx R=>⟨(hD.w x R).1,by have:=(hD.w x R).2;lia⟩) g2 ⟨by lia,λx R=>(hD.w x R).2⟩
  refine mP True True (λQ hT hF=>?_) (λ_ N=>?_) (λ_=>?_)
  ·exact U rfl (r2 ⟨(show(0:Int)<8 by decide),rfl,U rfl (xq (λ_=>hT trivial) (λ_=>hF trivial))⟩)
  ·have c3:(fc M).length=M.las.length:=c_ _;have l0:0<M.las.length:=by obtain⟨i,l,hl,_⟩:=F.ok.home y;have:=(d_.mp hl).1;exact Nat.zero_lt_of_lt this
   have bl:=bw (x/8) (show(0:Int)<((fc M).length:Int)by lia);have bz:=bw (x/8/8) (show(0:Int)<(M.p:Int)+1 by lia);obtain⟨nm,ci,ha⟩:=gp bl.1 bl.2;obtain⟨l,hl,rfl⟩:=mu.mp ci;refine U rfl (rX (aW.of hP.pl) (am (k:=2) rfl) (U rfl (U rfl (rX (aW.of hP.pl) (am (k:=2) rfl) ⟨_,(fc M).length,rfl,.inl ⟨_,aW.of hP.L,by rw[c_]⟩,_,U rfl ⟨rfl,by show(0:Int)<((fc M).length:Int);lia,A.L,_,_,U rfl ⟨rfl,aW.of hP.L,ha,?_⟩⟩⟩))));refine U rfl (r2 ⟨⟨by decide,by decide⟩,U rfl (rX (aW.of hP.pl) (am (k:=0) rfl) (r2 (r2 ⟨by show(0:Int)<(M.p:Int)+1;lia,ls rfl,λS u=>?_⟩)))⟩);have J:=aj (o:=.tup [.str "hold",.str l.nm,.int (x/8/8%((M.p:Int)+1))]) (aq.refl H) u;exact q S (.hold l _) _ _ J (aU.of ae) (.hold hl bz.1) .hold trivial
  refine mP True True (λQ hT hF=>?_) (λ_ N=>?_) (λ_=>?_)
  ·exact U rfl (r2 ⟨(show(0:Int)<8 by decide),rfl,U rfl (xq (λ_=>hT trivial) (λ_=>hF trivial))⟩)
  ·refine⟨ls rfl,λl1 cC=>?_⟩;have G:=aj (o:=.lst [V.str "pause",V.str "go"]) (aq.refl H) cC;have bi:aA H l1 (.lst [V.str "pause",V.str "go"]) l1=some (.lst [V.str "pause",V.str "go"]):=ae;generalize aA H l1 (.lst [V.str "pause",V.str "go"])=H2 at G bi⊢;have bm:=bw (x/8/8) (show(0:Int)<2 by decide);obtain⟨z,hz,ha⟩:=gp (zs:=["pause","go"]) bm.1 bm.2;refine U rfl (r2 ⟨⟨by decide,by decide⟩,_,U rfl ⟨rfl,(show(0:Int)<2 by decide),l1,_,_,U rfl ⟨rfl,aW.of bi,ha,U rfl (rX (aq.tseq G hb) (am (k:=0) rfl) ⟨ls rfl,λS u=>?_⟩)⟩⟩⟩);have J:=aj (o:=.tup [.str z,.str t.nm]) (aq.refl H2) u;simp only[ov,n0,to]at hz;rcases hz with rfl|rfl
   ·exact q S (.pause t true) _ _ (G.trans J) (aU.of ae) (.pause y) .pause trivial
   ·exact q S (.pause t false) _ _ (G.trans J) (aU.of ae) (.go y) .pause trivial
  refine U rfl (r2 ⟨(show(0:Int)<7 by decide),U rfl ⟨sc,ns,4,6,rfl,F.sq,F.len,⟨by decide,by decide⟩,⟨by decide,by decide⟩,x/8%7,cr ns 4 6,rfl,λg H1 s1 hg=>?_⟩⟩);refine U rfl (r2 ⟨⟨by decide,by decide⟩,x/8/7,rfl,λmt ms H2 G hm h3 h4 h5=>⟨ls rfl,λS u=>?_⟩⟩);have J:=aj (o:=.tup [.str "visit",.str g,.ref mt]) (aq.refl H2) u;exact q S (.visit g) _ _ (s1.trans (G.trans J)) (aU.of ae) (.visit hg (hm.kp (.of J)) h3 h4 h5) .visit trivial
end
def Sf(M:cg)(Z:ZS)(A:BX)(dd b:Addr):Prop:=¬g9 M Z b/\b≠A.L/\b≠A.T/\b≠dd
def iI(h:H b=some o)(n:H b=none):False:=by rw[h]at n;cases n
def MH(c:H o=some x)(h1:∀d,x≠.tup d)(h2:∀y z,x≠.frz y z)(f:∀b ob,H b=some ob->b≠o->H' b=some ob):Kp H H':=⟨λu d e=>f _ _ e λz=>(by rw[z,c]at e;exact h1 _ (k_ e)),λu y⟨g,e⟩=>⟨g,f _ _ e λz=>by rw[z,c]at e;exact h2 _ _ (k_ e)⟩⟩
section
variable{P:RR}{w:World}{K:RM}{a:ke}{C H F I R:Hp}{M B:cg}{Z Q:ZS}{ns:RX}{A:BX}{dd sc:Addr}{c:Nat}{f D:List (b0×V)}{ls X:RS}{J S:List (Str×Nat)}{d:Dd}{E:List V}
def bB.ntup(h:bB P w K a H M Z)(p:g9 M Z b):(∀E,H b≠some (.tup E))/\∀x y,H b≠some (.frz x y):=by
 have lst:∀l E,H l=some (.lst E)->(∀s,H l≠some (.tup s))/\∀x y,H l≠some (.frz x y):=λl E e=>by rw[e];exact⟨λ_ z=>(nomatch z),λ_ _ z=>(nomatch z)⟩
 rcases p with⟨r,t,rfl⟩|⟨i,hi,x,g,e⟩|⟨x,g,e⟩
 ·obtain⟨o,q⟩:=nC P w a Z t;have im:=(h.imm (H':=λb=>if b=Z.G r then none else H b) q λb o e n=>by show(if b=Z.G r then none else H b)=_;rw[j2 n];exact e).kp;refine⟨λE e=>?_,λx y e=>?_⟩
  ·have:=im.tp _ _ e;rw[ku rfl]at this;cases this
  ·obtain⟨_,this⟩:=im.fz _ _ ⟨_,e⟩;rw[ku rfl]at this;cases this
 ·obtain⟨_,⟨m,q,_⟩,_⟩:=h.tabs i _ (f_ hi);obtain⟨l,E,j,k⟩:=q.ex x g;rw[j]at e;cases e;exact lst _ _ k
 ·obtain⟨l,E,j,k⟩:=h.came.ex x g;rw[j]at e;cases e;exact lst _ _ k
def bB.stp(h:bB P w K a H M Z)(st:fU H M Z F B Q):Kp H F:=⟨λu E e=>st.fr _ _ e λz=>(h.ntup z).1 _ e,λu o⟨b,e⟩=>⟨b,st.fr _ _ e λz=>(h.ntup z).2 _ _ e⟩⟩
def fU.nf(st:fU H M Z F B Q)(e:H b=some o)(n:¬g9 M Z b):¬g9 B Q b:=λz=>(st.fp b z).elim n (iI e)
structure lj(P:RR)(w:World)(K:RM)(a:ke)(C H:Hp)(ns:RX)(M:cg)(Z:ZS)(A:BX)(dd:Addr)(c:Nat)(f:List (b0×V))(ls:RS)(J:List (Str×Nat)):Prop where
 z:cY P w K a H M Z c
 pl:ph K H M.p M.salt ls J A
 pn:md ns M
 dk:H dd=some (.dK f)dl:OX K H M c f
 kl:f.length<=c
 f1:¬g9 M Z A.pl
 f2:¬g9 M Z A.L
 f3:¬g9 M Z A.T
 f4:¬g9 M Z dd
 bs:∀b o,C b=some o->H b=some o/\Sf M Z A dd b
theorem lj.same(h:lj P w K a C H ns M Z A dd c f ls J)(s:aq H F):lj P w K a C F ns M Z A dd c f ls J:={h with z:=h.z.same s,pl:=h.pl.same s,dk:=s _ _ h.dk,dl:=h.dl.kp (.of s),bs:=λb o e=>⟨s _ _ (h.bs b o e).1,(h.bs b o e).2⟩}
theorem lj.mono(h:lj P w K a C H ns M Z A dd c f ls J)(l:c<=e):lj P w K a C H ns M Z A dd e f ls J:={h with z:=h.z.mono l,dl:=λnm v b=>let⟨z,g,s,i,h1,h2,h3,h4⟩:=h.dl nm v b;⟨z,g,s,i,h1,h2,h3,h4.mono l⟩,kl:=nh h.kl l}
def lj.dr(h:lj P w K a C H ns M Z A dd c f (fc M) (fi M))(sq:aW K C sc (ns.map V.int))(l:ns.length<=63):wA K H sc ns M A c:=⟨aq.seq (λb o e=>(h.bs b o e).1) sq,l,h.pl,h.z.ok,h.pn,λF g=>aq.seq (λb o e=>g _ _ (h.bs b o e).1 (h.bs b o e).2.2.1) sq⟩
def lj.ne(h:lj P w K a C H ns M Z A dd c f ls J):A.pl≠dd/\A.L≠dd/\A.T≠dd:=by
 obtain⟨b,h1,_⟩:=h.pl.T;refine⟨λz=>?_,λz=>?_,λz=>?_⟩
 ·have e:=h.pl.pl;rw[z,h.dk]at e;cases e
 ·have e:=h.pl.L;rw[z,h.dk]at e;cases e
 ·rw[z,h.dk]at h1;cases h1
def lj.chg(h:lj P w K a C H ns M Z A dd c f ls J)(j:Pg A H F)(l:ph K F M.p M.salt X S A):lj P w K a C F ns M Z A dd c f X S:=by
 obtain⟨o,k,kp,i⟩:=j;have e:¬g9 M Z o/\dd≠o/\∀b,Sf M Z A dd b->b≠o:=by
  rcases k with rfl|rfl
  ·exact⟨h.f2,ol h.ne.2.1,λb q=>q.2.1⟩
  ·exact⟨h.f3,ol h.ne.2.2,λb q=>q.2.2.1⟩
 exact{h with z:={h.z with g:=h.z.g.out e.1 kp i},pl:=l,dk:=i _ _ h.dk e.2.1,dl:=h.dl.kp kp,bs:=λb o q=>⟨i _ _ (h.bs b o q).1 (e.2.2 b (h.bs b o q).2),(h.bs b o q).2⟩}
def Dd.na(h:d.adds=false):vm M d=fc M/\nR M d=fi M:=by cases d<;>first|exact⟨rfl,rfl⟩|cases h
def FH.ext(h:FH ns M d):Nj c d:=by cases d with|deal t z b=>exact⟨by have:z<=100:=h.1;lia,h.2⟩|_=>trivial
def md.keep(h:md ns M)(b:B.p=M.p)(n:B.salt=M.salt)(e:B.las.map (λl=>(l.nm,l.sl))=M.las.map λl=>(l.nm,l.sl))(g:fi B=fi M):md ns B/\B.p=M.p/\B.salt=M.salt/\fc B=fc M/\fi B=fi M:=by
 have a1:∀N:cg,fc N=(N.las.map λl=>(l.nm,l.sl)).map Prod.fst:=λN=>by rw[w1];rfl
 have k:B.las.length=M.las.length:=by have:=rb List.length e;rw[c_,c_]at this;exact this
 refine⟨⟨λi l m=>?_,λj t o=>?_,by rw[k,b];exact h.lp,by rw[b];exact h.pr⟩,b,n,by rw[a1,a1,e],g⟩
 ·have q:(M.las.map λl=>(l.nm,l.sl))[i]?=some (l.nm,l.sl):=by rw[<-e,ir,m];rfl
  rw[ir]at q;obtain⟨r,h0,q⟩:=Option.map_eq_some_iff.mp q;rw[<-(Ra q).1,<-(Ra q).2,b];exact h.ln i r h0
 ·have q:(fi M)[j]?=some (t.nm,t.arms.length):=by rw[<-g];unfold fi;rw[ir,o];rfl
  unfold fi at q;rw[ir]at q;obtain⟨s,h0,q⟩:=Option.map_eq_some_iff.mp q;rw[<-(Ra q).1];exact h.tn j s h0
def fB.nx(h:md ns M)(n:fB M d B)(q:d.adds=true->FH ns M d):md ns B/\B.p=M.p/\B.salt=M.salt/\fc B=vm M d/\fi B=nR M d:=by
 cases n with|@layer nm sl=>
  obtain⟨p1,p2,p3⟩:=q rfl;refine⟨⟨λi l b=>?_,h.tn,?_,h.pr⟩,rfl,rfl,j1,rfl⟩
  ·rcases Qv i M.las.length with z|z
   ·exact h.ln i l (by rw[<-b];exact(r_ z).symm)
   ·have b:(M.las++[⟨nm,sl,AS.new,[]⟩])[i]?=some l:=b;rw[y_ z]at b;obtain⟨m,e⟩:=d_.mp b;have o:i=M.las.length:=by have:i-M.las.length<1:=m;lia
    subst o;simp only[Nat.sub_self,List.getElem_cons_zero]at e;subst e;exact⟨p1,p2⟩
  ·show(M.las++[_]).length<=M.p+1;rw[iA];exact p3|@trial x=>
  have p1:=q rfl;refine⟨⟨h.ln,λj t g=>?_,h.lp,h.pr⟩,rfl,rfl,rfl,j1⟩;rcases Qv j M.trs.length with z|z
  ·exact h.tn j t (by rw[<-g];exact(r_ z).symm)
  ·have g:(M.trs++[x])[j]?=some t:=g;rw[y_ z]at g;obtain⟨m,e⟩:=d_.mp g;have o:j=M.trs.length:=by have:j-M.trs.length<1:=m;lia
   subst o;simp only[Nat.sub_self,List.getElem_cons_zero]at e;subst e;exact p1|share b hh hn=>exact h.keep rfl rfl (dD b _ rfl) rfl|deal b hh hn=>exact h.keep rfl rfl (dD b _ rfl) rfl|hold b=>exact h.keep rfl rfl (dD b _ rfl) rfl|pause k=>exact h.keep rfl rfl rfl (dD k _ rfl)|close k b hh=>exact h.keep rfl rfl (dD b _ rfl) (dD k _ rfl)|bar k b hh=>exact h.keep rfl rfl (dD b _ rfl) (dD k _ rfl)|visit v=>
  refine h.keep v.p v.salt (sD λi=>?_) (by unfold fi;rw[v.trs]);rw[ir,ir]
  by_cases hi:i<M.las.length
  ·obtain⟨r,h1,_⟩:=v.las i _ (f_ hi);rw[h1,f_ hi];rfl
  ·rw[np (by have:=v.len;lia),np (by exact O_ hi)]
def lj.told(h:lj P w K a C H ns M Z A dd c f ls J)(st:fU H M Z I B Q):I dd=some (.dK f)/\Kp H I:=⟨st.fr _ _ h.dk h.f4,h.z.g.stp st⟩
def lj.fin(h:lj P w K a C H ns M Z A dd c f (vm M d) (nR M d))(y:jc K H M d E)(n:fB M d B)(st:fU H M Z I B Q)(G:cY P w K a I B Q (c+1))(N:Nj c d)(W:d.adds=true->FH ns M d)(i:∀b o,I b=some o->b≠dd->R b=some o)(q:R dd=some (.dK D))(hl:D.length<=f.length+1)(hv:∀(nm:Str)(v:V),a0 D (.inr nm)=some v->(a0 f (.inr nm)=some v/\d.tells≠some nm)\/∃t z j s l,d=.deal t z j/\nm=t.nm/\v=.ref s/\aU K R s [.int z,.ref l]/\aU K R l (j.map V.int)):lj P w K a C R ns B Q A dd (c+1) D (fc B) (fi B):=by obtain⟨O,r⟩:=h.told st;have k:Kp I R:=MH O (λ_ z=>(nomatch z)) (λ_ _ z=>(nomatch z)) i;have kp:=r.trans k;obtain⟨p1,p2,p3,p4,p5⟩:=n.nx h.pn W;obtain⟨U,p,u⟩:=h.pl.T;have f4:=st.nf h.dk h.f4;exact{
  z:={G with g:=G.g.out f4 k i}
  pl:=by rw[p2,p3,p4,p5];exact⟨i _ _ (st.fr _ _ h.pl.pl h.f1) h.ne.1,i _ _ (st.fr _ _ h.pl.L h.f2) h.ne.2.1,⟨U,i _ _ (st.fr _ _ p h.f3) h.ne.2.2,FI.kp kp u⟩,h.pl.n1,h.pl.n2,h.pl.n3⟩
  pn:=p1
  dk:=q
  dl:=λnm v e=>by
   rcases hv nm v e with⟨Y,e2⟩|⟨t,z,j,s,l,rfl,rfl,rfl,e3,e4⟩
   ·obtain⟨z,j,s,l,h1,h2,h3,h4⟩:=h.dl nm v Y;exact⟨z,j,s,l,h1,kp.tq h2,kp.tq h3,h4.next h.z.ok y n e2⟩
   ·cases y with|deal h1 hz h2 h3 h4=>exact⟨z,j,s,l,rfl,e3,e4,.dealt h.z.ok h1 ⟨hz.1,N.1⟩ (λx m=>⟨(h4 x m).1,N.2 x m⟩) h3 n⟩
  kl:=by have:=h.kl;lia
  f1:=st.nf h.pl.pl h.f1
  f2:=st.nf h.pl.L h.f2
  f3:=st.nf p h.f3
  f4:=f4
  bs:=λb o e=>by obtain⟨b1,b2,b3⟩:=h.bs b o e;exact⟨i _ _ (st.fr _ _ b1 b2) b3.2.2,st.nf b1 b2,b3⟩}
def lj.not(h:lj P w K a C H ns M Z A dd c f (vm M d) (nR M d))(hd:d.adds=false)(s:aq H I):lj P w K a C I ns M Z A dd (c+1) f (fc M) (fi M):=by obtain⟨b,e⟩:=Dd.na (M:=M) hd;rw[b,e]at h;exact(h.same s).mono (qc c)
def fB.cnt(h:md ns M)(n:fB M d B)(g:d.adds=true->FH ns M d)(h0:M.trs.length=0->d.adds=true)(hc:0<M.trs.length\/k<=M.las.length):0<B.trs.length\/k+1<=B.las.length:=by obtain⟨-,-,-,p4,p5⟩:=n.nx h g;have i:=rb List.length p4;have b:=rb List.length p5;have j:∀N:cg,(fc N).length=N.las.length:=λN=>c_ _;have e:∀N:cg,(fi N).length=N.trs.length:=λN=>c_ _;cases d with|layer nm sl=>simp only[vm,nR,iA,Qf,j,e]at i b;lia|trial x=>simp only[nR,iA,Qf,e]at b;lia|_=>
  simp only[nR,e]at b;refine .inl ?_;rcases Nat.eq_zero_or_pos M.trs.length with z|z
  ·cases h0 z
  ·lia
end
def vC(p:Nat)(sa:Int):cg:=⟨p,sa,[],[],[]⟩
def ub(h ln tn b dl dx:Addr):ZS:=⟨λr=>match r with|.hh=>h|.ln=>ln|.tn=>tn|.ci=>b|_=>dl,λ_=>dx,[],[],λ_=>[],λ_=>[],λ_=>[],λ_=>dx,λ_=>.non,λ_=>dx⟩
section
variable{P:RR}{w:World}{K:RM}{a:ke}{f d H:Hp}{p:Nat}{sa:Int}{h ln tn c dl dx:Addr}
def KB(e:2<=p/\p<=997):lY (vC p sa) 0:=⟨e,.nil,.nil,λl g=>(nomatch g),λt b=>(nomatch b),λx i=>(nomatch i),ng _,ng _,ng _,λt b=>(nomatch b)⟩
def HF(hh:H h=some (.ins a.bp dx [("own_prime",.int p),("own_salt",.int sa),("layer_named",.ref ln),("trial_named",.ref tn),("came_into",.ref c),("deeds",.ref dl)]))(n:H ln=some (.dK []))(s:H tn=some (.dK []))(u:H c=some (.dK []))(v:H dl=some (.lst []))(n1:ln≠tn)(n2:ln≠c)(n3:tn≠c):bB P w K a H (vC p sa) (ub h ln tn c dl dx):=by
 have at_:∀r o,cont P w a (vC p sa) (ub h ln tn c dl dx) r=some o->H ((ub h ln tn c dl dx).G r)=some o:=λr o e=>by cases r<;>first|(obtain rfl:=k_ e;assumption)|cases e
 refine⟨λr j o k e b q=>?_,at_,λi l g=>(nomatch g),λi t m=>(nomatch m),λi l g=>(nomatch g),.nil⟩;have x:=at_ r o e
 have y:=at_ j k b
 rw[q,y]at x;cases r<;>cases j<;>first|rfl|(cases e;done)|(cases b;done)|exact absurd q n1|exact absurd q n2|exact absurd q n3|exact absurd q.symm n1|exact absurd q.symm n2|exact absurd q.symm n3|(cases e;cases b;cases x;done)
def HW(g:g9 (vC p sa) (ub h ln tn c dl dx) b):b=h\/b=ln\/b=tn\/b=c\/b=dl:=by
 rcases g with⟨r,j,e⟩|⟨i,hi,_⟩|⟨x,k,_⟩
 ·cases r
  ·exact .inl e
  ·exact .inr (.inl e)
  ·exact .inr (.inr (.inl e))
  ·exact .inr (.inr (.inr (.inl e)))
  ·exact .inr (.inr (.inr (.inr e)))
  all_goals cases j
 ·cases hi
 ·cases k
def lj.new{ns:RX}{A:BX}{dd gl:Addr}{gs:List V}(s:aq d H)(J:d h=none)(n:d ln=none)(q:d tn=none)(r:d c=none)(u:d dl=none)(x:bB P w K a H (vC p sa) (ub h ln tn c dl dx))(pl:ph K d p sa [] [] A)(pr:xB p)(hd:H dd=some (.dK []))(nd:d dd=none)(fd:¬g9 (vC p sa) (ub h ln tn c dl dx) dd)(hg:H gl=some (.lst gs))(y:d gl=none)(B:¬g9 (vC p sa) (ub h ln tn c dl dx) gl)(C:∀b o,f b=some o->(d b=some o/\b≠A.L/\b≠A.T)\/(b=gl/\o=.lst gs)):lj P w K a f H ns (vC p sa) (ub h ln tn c dl dx) A dd 0 [] [] []:=by
 have g:∀b o,d b=some o->¬g9 (vC p sa) (ub h ln tn c dl dx) b/\b≠dd/\b≠gl:=λb o e=>by
  refine⟨λz=>?_,λz=>iI (z▸e) nd,λz=>iI (z▸e) y⟩;rcases HW z with rfl|rfl|rfl|rfl|rfl
  all_goals exact iI e ‹_›
 obtain⟨M,m,_⟩:=pl.T;have D:=pr.le;refine⟨⟨x,KB ⟨by exact D.1,by lia⟩,λi=>ng _,λi=>ng _,ng _⟩,pl.same s,⟨λi l E=>(nomatch E),λj t F=>(nomatch F),ng _,pr⟩,hd,λnm v e=>(nomatch e),ng _,(g _ _ pl.pl).1,(g _ _ pl.L).1,(g _ _ m).1,fd,λb o e=>?_⟩;rcases C b o e with⟨k,G,I⟩|⟨rfl,rfl⟩
 ·exact⟨s _ _ k,(g _ _ k).1,G,I,(g _ _ k).2.1⟩
 ·refine⟨hg,B,λz=>(g _ _ pl.L).2.2 z.symm,λz=>(g _ _ m).2.2 z.symm,λz=>?_⟩;rw[z,hd]at hg;cases hg
end
open Classical in
noncomputable def Md(H:Hp)(M:cg)(Z:ZS)(A:BX)(dd:Addr):Hp:=λb=>if Sf M Z A dd b then H b else none
section
variable{P:RR}{w:World}{K:RM}{a:ke}{p x H q:Hp}{M r:cg}{Z v:ZS}{ns:RX}{A:BX}{dd:Addr}{c t:Nat}{f d:List (b0×V)}{ls j:RS}{l i:List (Str×Nat)}
def mD(h:H b=some o)(s:Sf M Z A dd b):Md H M Z A dd b=some o:=(ku s).trans h
def Mc(e:Md H M Z A dd b=some o):H b=some o/\Sf M Z A dd b:=by
 by_cases s:Sf M Z A dd b
 ·exact⟨(ku s).symm.trans e,s⟩
 ·cases(j2 s).symm.trans e
def lj.based(h:lj P w K a p H ns M Z A dd c f ls l):lj P w K a (Md H M Z A dd) H ns M Z A dd c f ls l:={h with bs:=λb o e=>Mc e}
def lj.rebase(h0:lj P w K a p H ns M Z A dd c f ls l)(h:lj P w K a (Md H M Z A dd) q ns r v A dd t d j i):lj P w K a p q ns r v A dd t d j i:={h with bs:=λb o e=>h.bs b o (mD (h0.bs b o e).1 (h0.bs b o e).2)}
def lj.new_sf(h:lj P w K a p H ns M Z A dd c f ls l)(e:H b=none):Sf M Z A dd b:=by obtain⟨m,k,_⟩:=h.pl.T;exact⟨h.z.g.foot e,λz=>iI h.pl.L (z▸e),λz=>iI k (z▸e),λz=>iI h.dk (z▸e)⟩
def lj.kpr(h0:lj P w K a p H ns M Z A dd c f ls l)(h:lj P w K a (Md H M Z A dd) q ns r v A dd t d j i):Kp H q:=by
 obtain⟨C,y,_⟩:=h0.pl.T;have m:∀b o,H b=some o->¬g9 M Z b->(∀s,o≠.lst s)->(∀k,o≠.dK k)->Sf M Z A dd b:=λb o e n h1 h2=>by
  refine⟨n,λz=>?_,λz=>?_,λz=>?_⟩
  ·rw[z,h0.pl.L]at e;exact h1 _ (k_ e).symm
  ·rw[z,y]at e;exact h1 _ (k_ e).symm
  ·rw[z,h0.dk]at e;exact h2 _ (k_ e).symm
 exact⟨λu s e=>(h.bs u _ (mD e (m u _ e (λz=>(h0.z.g.ntup z).1 _ e) (λ_ z=>(nomatch z)) λ_ z=>(nomatch z)))).1,λu o⟨B,e⟩=>⟨B,(h.bs u _ (mD e (m u _ e (λz=>(h0.z.g.ntup z).2 _ _ e) (λ_ z=>(nomatch z)) λ_ z=>(nomatch z)))).1⟩⟩
end
def Du(y:Str×Str×Str):List Str:=[y.1,y.2.1,y.2.2]
def gq.data(h:gq K H c d):IsPs K H c ((d.map Du).map tL):=by induction h with|nil=>exact .nil|cons h _ e=>obtain⟨b,rfl,h⟩:=h;exact .cons (.tup h (.cons (.str _) (.cons (.str _) (.cons (.str _) .nil)))) e
def gq.at_{d:List V}{c:List (Str×Str×Str)}(h:gq K H d c){k:Nat}{v:V}(e:d[k]?=some v):∃y∈c,Dn K H v (tL (Du y)):=by
 have f:k<c.length:=by rw[<-Paired.length h];exact(d_.mp e).1
 obtain⟨u,g,b,rfl,i⟩:=qW h k _ (f_ f);rw[e]at g;obtain rfl:=k_ g;exact⟨_,yl f,.tup i (.cons (.str _) (.cons (.str _) (.cons (.str _) .nil)))⟩
def PK(J:St->Hp->Prop)(h1:∀b H,J b H->u D b H)(h2:∀(N:St->Hp->Prop)(R:VK)(B C:St->Hp->Prop),(∀b H,J b H->N b H)->t ⟨N,R,B,C⟩ b H):Ah t u D b H:=h2 (u D) D.rt D.bk D.ct h1
def OQ(J:St->Hp->Prop)(h1:∀b H,J b H->u D b H)(h2:∀(N:St->Hp->Prop)(R:VK)(B C:St->Hp->Prop),(∀b H,J b H->N b H)->Ah c d ⟨N,R,B,C⟩ b H):Ah c (Ah d u) D b H:=h2 (u D) D.rt D.bk D.ct h1
def xB.pr(h:xB p)(i:Nat)(hi:2+(i:Int)<(p:Int)):(p:Int)%(2+(i:Int))≠0:=λz=>by have h1:=(by decide:∀p∈[2,3,5,7,11,13,17,37,61],∀i,i<61->2+i<p->p%(2+i)≠0) p h i (by have:=h.le;lia) (by exact Int.ofNat_lt.mp hi);have e:(((p%(2+i):Nat)):Int)=(p:Int)%((2+i:Nat):Int):=Int.natCast_emod _ _;rw[show(((2+i:Nat)):Int)=2+(i:Int)by exact rfl,z]at e;lia
theorem sJ.trs(h:sJ M d)(b:md ns M)(n:fB M d c)(h0:0<M.trs.length):0<c.trs.length:=by have e:=rb List.length ((n.nx b λz=>by rw[h.adds]at z;cases z).2.2.2.2.trans (Dd.na h.adds).2);unfold fi at e;rw[c_,c_]at e;lia
def AhV(K:RM)(M:cg)(D:Addr)(d b:Hp)(v:V)(g:Str):Prop:=∃l c,v=.ref l/\l≠D/\d l=none/\b l=some (.lst c)/\gq K b c (oC M g)
section
def Mw(T:Txt K mg a)(hw:w.params=a.pm):aS P w K mg base dw 16 a.law.x a.law.d ["_law_script"] (F9 K):=by
 refine T.law.ok gA λfV A outer s H vs Q E B h=>?_
 ·obtain⟨sc,ns,rfl,hS,hl,q⟩:=h;refine⟨_,(ah (bq 1 gA.nd (pc T.yy (GV T) B (O (Y 0) ag))) (ah (qV (i:=2) gA.nd rfl (.inr rfl) (uj T.Ha ((tZ (P:=P) (w:=w) T).mono (by decide)) B rfl T.Kk T.d8.b .nil bo (O (gz K (Y 1) af) (O (gz K (Y 1) af) ag)))) (ah (C9 3 v0 [] [5] [5] (ak xP) (bZ 5) (cP rfl T.dS (O af ag)) (λcl C s₀ H₀ ex=>⟨(nq v0 [] 5),bR,(pc T.mY (q8 T) B (O (Y 5) (O (pc T.dG (cq T) B (O (Y 0) (O af (O af ag)))) ag)))⟩) gA.nd) (ah (bq 4 gA.nd jv) (ah (eI pa rfl (cP rfl T.dS (O (ax (sw rfl) (by rfl) T.G3 L2.vT (O (av bG (ax (aH K rfl) (by rfl) T.bD L2.aJ (O (Y 0) ag)) af) (O af ag))) ag)) (tS 5 gA.nd) (ah (bq 6 gA.nd (pc T.yz (GW T) B (O (Y 0) (O (Y 1) (O (Y 5) ag))))) (ai (aK (b7 (aP K rfl (ax (gT K rfl) (by rfl) T.bn L2.aV (O (pc T.wb (AV T hw) B (O (Y 2) (O (Y 6) ag))) (O (ju rfl T.DF L2.ql) ag))) (λ_=>rfl))) (ai (aR (pc T.pi (xT T) B (O (Y 4) (O (Y 6) ag))))) aB)))) (ah (eI pa rfl (cP rfl T.dS (O af ag)) (tS 5 gA.nd) (ah (C9 7 v0 ["_law_guest_here"] [] [11] (ak xP) (bZ 11) (d9 K rfl (Y 3)) (λcl C s₀ H₀ ex=>⟨(nq v0 ["_law_guest_here"] 11),bR,(bj (Y 2) T.aE T.df.m ((mH (P:=P) (w:=w) T).mono (by decide)) B T.df.b .nil bo (O (Y 11) ag))⟩) gA.nd) (ah (bq 6 gA.nd (pc T.sI (EH T) B (O (Y 0) (O (Y 2) (O (Y 1) (O (Y 5) (O (Y 4) ag))))))) (ah (bq 8 gA.nd (pc T.wb (AV T hw) B (O (Y 2) (O (Y 6) ag)))) (ah (aK (b7 (aP K rfl (ax (gT K rfl) (by rfl) T.bn L2.aV (O (Y 8) (O (ju rfl T.DF L2.ql) ag))) (λ_=>rfl))) (ai (aR (pc T.pi (xT T) B (O (Y 4) (O (Y 6) ag))))) aB) (ai (eI pa rfl (cP rfl T.dS (O af ag)) (tS 9 gA.nd) (ah (qV (i:=10) gA.nd rfl (.inr rfl) (bj (Y 2) T.aE T.df.m ((mH (P:=P) (w:=w) T).mono (by decide)) B T.df.b .nil bo (O (gz K (Y 3) (Y 9)) ag))) (ai (aK (PW.pt (fm (b7 (aP K rfl (ax (gT K rfl) (by rfl) T.bn L2.aV (O (Y 10) (O (ju rfl T.Cu L2.sA) ag))) (λ_=>rfl))) (dN (b7 (aP K rfl (ax (gU K rfl rfl) (by rfl) T.vk L2.jD (O (wB v0 ["_law_seat"] [] [11] (ak xP) (bZ 11) (d9 K rfl (gz K (Y 7) (Y 9))) (λcl C s₀ H₀ ex=>⟨(nq v0 ["_law_seat"] 11),bR,(bY (J3 K rfl (PD B)) (Y 11) (Y 10) (by with_unfolding_all rfl))⟩)) ag)) (λ_=>rfl)))))) (ai (az iG)) aB)))))))))) (ai (az iG)))))))),?_⟩
  refine U rfl ⟨sc,ns,rfl,hS,hl,λA p sa H1 s1 f0 et ev hP pr ew=>au ?_⟩;have hp:=pr.le;refine U rfl (rX (aW.of hP.pl) (am (k:=0) rfl) (U rfl (rX (aW.of hP.pl) (am (k:=1) rfl) (λh dx hh ey f5=>?_))));have f2:aq H1 (aA (aA H1 dx (.own h)) h (.ins a.bp dx [])):=λb o e=>by rw[ao (aF e hh),ao (aF e ey)];exact e
  have bP:aA (aA H1 dx (.own h)) h (.ins a.bp dx []) h=some (.ins a.bp dx []):=ae;generalize aA (aA H1 dx (.own h)) h (.ins a.bp dx [])=H2 at f2 bP⊢;refine⟨h,dx,(p:Int),sa,rfl,bP,⟨by lia,by lia⟩,pr.pr,ew,λln tn ci dl H3 di dt dT dV ez eG eH f3 d1 bc bi bt bz=>⟨rfl,au ?_⟩⟩;have s3:aq H1 H3:=λb o e=>f3 b o (f2 b o e) (aF e hh);have b8:bB P w K a H3 (vC p sa) (ub h ln tn ci dl dx):=HF d1 bc bi bt bz ez eG eH;refine U rfl ⟨by lia,by lia,λgl al=>?_⟩;refine eL (K:=K) (lo:=0) (n:=7) (λj c H'=>aq H3 H'/\H' gl=some (.lst c)/\∃(gs:RS),c=gs.map V.str/\gs.length=j/\∀g∈gs,BY g) ⟨aj (aq.refl _) al,ae,[],rfl,rfl,λx hx=>nomatch hx⟩ ?_ ?_
  ·rintro j c H4 hj⟨s4,b9,gs,rfl,d2,a5⟩;refine au (iL (bH ?_));refine U rfl (U rfl ⟨sc,ns,4,6,rfl,((s1.trans s3).trans s4).seq hS,hl,⟨by decide,by decide⟩,⟨by decide,by decide⟩,0+(j:Int),cr ns 4 6,rfl,λg H5 s5 hg=>?_⟩);refine⟨s5 _ _ b9,by rw[c_,k4];lia,lf hj ⟨bu (s4.trans s5) al,ae,gs++[g],by rw[j1];rfl,by rw[iA,d2];rfl,λx hx=>?_⟩⟩;rcases RJ.mp hx with z|z
   ·exact a5 x z
   ·rw[List.mem_singleton.mp z];exact hg
  rintro c H4⟨s4,b9,gs,rfl,d2,a5⟩;refine au λdd cc=>au (J8 ?_);have s5:=aj (o:=.dK []) (aq.refl H4) cc;have ed:aA H4 dd (.dK []) dd=some (.dK []):=ae;generalize aA H4 dd (.dK [])=H5 at s5 ed⊢;have cC:=b8.same s4;have I:lj P w K a (aA H gl (.lst (gs.map V.str))) H5 ns (vC p sa) (ub h ln tn ci dl dx) A dd 0 [] [] []:=.new (s3.trans (s4.trans s5)) hh (f2.free di) (f2.free dt) (f2.free dT) (f2.free dV) (cC.same s5) hP pr ed ((s3.trans s4).free cc) (cC.foot cc) (s5 _ _ b9) (s3.free al) (b8.foot al) λb o e=>by
   by_cases z:b=gl
   ·rw[z,ae]at e;exact .inr ⟨z,(k_ e).symm⟩
   ·rw[ao z]at e;exact .inl ⟨s1 _ _ e,aF e et,aF e ev⟩
  have a6:aW K (aA H gl (.lst (gs.map V.str))) sc (ns.map V.int):=(aj (aq.refl H) ((s1.trans s3).free al)).seq hS;have c0:aA H gl (.lst (gs.map V.str)) gl=some (.lst (gs.map V.str)):=ae;generalize aA H gl (.lst (gs.map V.str))=H0 at I a6 c0;generalize d3:ub h ln tn ci dl dx=Z0 at I;have an:Z0.G .hh=h:=by rw[<-d3];rfl
  clear d3 b8 cC d1 bc bi bt bz di dt dT dV f3 f2 bP;refine PK (λJ H'=>Ex5 λM Z f v5 v6=>lj P w K a H0 H' ns M Z A dd 43 f (fc M) (fi M)/\Z.G .hh=h/\0<M.trs.length/\J=[some (.ref sc),some (.ref A.pl),some (.ref h),some (.ref gl),some (.ref dd),v5,v6,none,none,none,none]) ?A0 (λNn _ _ _ hJ=>?B0)
  case B0=>
   obtain⟨mm,eN,f6,fR⟩:∃mm:Int,mm=(if(43:Int)<(ns.length:Int)+8 then 43 else(ns.length:Int)+8)/\8<=mm/\mm<=43:=⟨_,rfl,by split<;>lia,by split<;>lia⟩;refine U rfl ⟨_,ns.length,rfl,.inl ⟨_,(I.dr a6 hl).sq,by simp⟩,(ns.length:Int),8,rfl,rfl,(ns.length:Int)+8,43,rfl,?_⟩;rw[<-eN];refine⟨mm,rfl,by lia,by lia,?_⟩;refine gO (lo:=0) (n:=mm.toNat) (λi J H'=>Ex5 λM Z f v5 v6=>lj P w K a H0 H' ns M Z A dd i f (fc M) (fi M)/\Z.G .hh=h/\(0<M.trs.length\/i<=M.las.length)/\J=[some (.ref sc),some (.ref A.pl),some (.ref h),some (.ref gl),some (.ref dd),v5,v6,none,none,none,none]) ⟨_,Z0,[],_,_,I,an,.inr (ng _),rfl⟩ ?_ ?_
   ·rintro i J H6 hi⟨M,Z,f,v5,v6,S,rfl,d5,rfl⟩;refine au ?_;refine U rfl (U rfl (U rfl ⟨sc,ns,M,A,i,0+(i:Int),rfl,S.dr a6 hl,⟨by lia,by lia⟩,λdv d xs H7 ch hT hD eQ c1 ea=>au ?_⟩));have hB:=S.chg ch eQ;refine U rfl (U rfl ⟨M,Z,i,dv,d,xs,rfl,hB.z,by lia,hT,hD,λeb r R W Z' H8 nx st c2 B c3=>?_,λha z H8 s8=>?_⟩)
    ·obtain⟨d4,ap⟩:=hB.told st;refine⟨_,"str",_,false,rfl,.lst c3,eK (by decide+kernel),false,rfl,bH ?_⟩;exact U rfl (U rfl ⟨dd,dv,f,M,d,xs,rfl,d4,by have:=hB.kl;lia,ap.tq hT,hD.kp ap,λt H9 hk c4 da hv=>⟨W,Z',t,_,_,hB.fin hD nx st c2 c1.ext (λ_=>c1) hk c4 da hv,st.hh,nx.cnt S.pn (λ_=>c1) ea d5,rfl⟩⟩)
    ·refine⟨_,"str",_,true,rfl,.str z,eK (by decide+kernel),true,rfl,cj ?_⟩;exact⟨M,Z,f,_,_,hB.not ha s8,rfl,.inl (Nat.pos_of_ne_zero λz=>by rw[ea z]at ha;cases ha),rfl⟩
   ·rintro J H6⟨M,Z,f,v5,v6,S,eZ,d5,rfl⟩;have l4:=S.z.ok.l4;exact hJ _ _ ⟨M,Z,f,_,_,S.mono (by lia),eZ,by lia,rfl⟩
  case A0=>
  clear I an;rintro J H6⟨M0,Z0,ec,v5,v6,I,an,ef,rfl⟩;refine⟨20,rfl,by lia,by lia,?_⟩;refine gO (lo:=0) (n:=20) (λi J H'=>Ex9 λM Z f v5 v6 v7 v8 v9 as=>lj P w K a H0 H' ns M Z A dd (43+i) f (fc M) (fi M)/\Z.G .hh=h/\0<M.trs.length/\J=[some (.ref sc),some (.ref A.pl),some (.ref h),some (.ref gl),some (.ref dd),v5,v6,v7,v8,v9,as]) ⟨M0,Z0,ec,_,_,_,_,_,_,I,an,ef,rfl⟩ ?_ (λJ H' _=>q H')
  clear I an ef;rintro i J ei hi⟨M,Z,f,v5,v6,v7,v8,v9,as,S,rfl,ht,rfl⟩;have bJ:=(S.bs _ _ c0).1;refine au (U rfl ⟨gl,rfl,⟨_,aW.of bJ⟩,λD hD=>?_⟩);refine je (K:=K) (a:=gl) (xs:=gs.map V.str) (λj c H'=>aq ei H'/\H' D=some (.lst c)/\Paired (AhV K M D ei H') c (gs.take j)) ⟨aj (aq.refl _) hD,ae,.nil⟩ (λj c H' _ h=>aW.of (h.1 _ _ bJ)) ?_ ?_
  ·rintro j v c e0 hv⟨s2,L,X⟩;have hj:j<(gs.map V.str).length:=(d_.mp hv).1;rw[ir]at hv;obtain⟨g,hg,rfl⟩:=Option.map_eq_some_iff.mp hv;refine au (iL (bH ?_));refine pq (s2 _ _ S.z.g.house) rfl rfl (U rfl ⟨M,Z,43+i,g,rfl,S.z.same s2,a5 g (il hg),λr R aa F B e7 a7=>?_⟩);have ej:=F _ _ L;have kp:Kp aa (aA aa D (.lst (c++[.ref r]))):=.lst ej;have nr:r≠D:=λz=>iI L (z▸B);have e8:c.length<=7:=by have:=Paired.length X;rw[m3]at this;lia
   refine⟨ej,by rw[k4];lia,lf hj ⟨bu (s2.trans F) hD,ae,?_⟩⟩;rw[c8 hg];exact Paired.snoc (Paired.mapP X λv g⟨l,R,e1,e2,e3,e4,e5⟩=>⟨l,R,e1,e2,e3,by rw[ao e2];exact F _ _ e4,(e5.kp (.of F)).kp kp⟩) ⟨r,R,rfl,nr,s2.free B,by rw[ao nr];exact e7,a7.kp kp⟩
  rintro c e0⟨s2,L,X⟩;rw[c_,RB]at X;refine au ?_;have a2:=S.same s2;refine U rfl (U rfl (U rfl (U rfl (U rfl ⟨sc,ns,M,Z,A,43+i,0+(i:Int),dd,f,rfl,a2.dr a6 hl,a2.z,by lia,⟨by lia,by lia⟩,ht,a2.dk,a2.dl,λdv d xs aa F hT a8 gr hx=>au (J8 ?_)⟩))));have ba:=a2.same F;refine OQ (λJ H'=>Ex4 λW Z' t v8=>PZ (lj P w K a (Md aa M Z A dd) H' ns W Z' A dd (43+i+1) t (fc W) (fi W)) (Z'.G .hh=Z.G .hh) (0<W.trs.length) (xz M W) (J=[some (.ref sc),some (.ref A.pl),some (.ref (Z.G .hh)),some (.ref gl),some (.ref dd),some (.int (0+(i:Int))),some (.ref dv),some (.ref D),v8,v9,as])) ?A1 (λN _ _ _ hJ=>?B1)
  case B1=>
   have e:=Dd.na (M:=M) gr.adds;have hB:lj P w K a (Md aa M Z A dd) aa ns M Z A dd (43+i) f (vm M d) (nR M d):=by rw[e.1,e.2];exact ba.based
   refine U rfl (U rfl ⟨M,Z,43+i,dv,d,xs,rfl,ba.z,by lia,hT,a8,λeb r R W Z' H8 nx st c2 B c3=>au ?_,λha z H8 s8=>au ?_⟩)
   ·obtain⟨d4,ap⟩:=hB.told st;refine U rfl ⟨_,"str",_,false,rfl,.lst c3,eK (by decide+kernel),false,rfl,bH ?_⟩;exact U rfl (U rfl ⟨dd,dv,f,M,d,xs,rfl,d4,by have:=hB.kl;lia,ap.tq hT,a8.kp ap,λt H9 hk c4 da hv=>hJ _ _ ⟨W,Z',t,_,hB.fin a8 nx st c2 hx (λz=>by rw[gr.adds]at z;cases z) hk c4 da hv,st.hh,gr.trs S.pn nx ht,gr.stay eb nx,rfl⟩⟩)
   ·refine U rfl ⟨_,"str",_,true,rfl,.str z,eK (by decide+kernel),true,rfl,cj ?_⟩;exact hJ _ _ ⟨M,Z,f,_,hB.not ha s8,rfl,ht,λ_ _ h=>h,rfl⟩
  case A1=>
  rintro J bb⟨W,Z',t,e9,ad,e5,fa,ff,rfl⟩;have ek:=ba.kpr ad;have fg:bb D=some (.lst c):=(ad.bs _ _ (mD (F _ _ L) (S.new_sf hD))).1;have el:Paired (λv g=>∃l R,v=.ref l/\bb l=some (.lst R)/\gq K bb R (oC M g)) c gs:=Paired.mapP X λv g⟨l,R,e1,e2,e3,e4,e6⟩=>⟨l,R,e1,(ad.bs _ _ (mD (F _ _ e4) (S.new_sf e3))).1,(e6.kp (.of F)).kp ek⟩;have en:=ba.rebase ad;have fl:=(en.bs _ _ c0).1;clear X L a8 hT;refine⟨7,rfl,by lia,by lia,?_⟩;refine gO (lo:=0) (n:=7) (λj J H'=>IZ λv9 as=>aq bb H'/\J=[some (.ref sc),some (.ref A.pl),some (.ref (Z.G .hh)),some (.ref gl),some (.ref dd),some (.int (0+(i:Int))),some (.ref dv),some (.ref D),e9,v9,as]) ⟨_,_,aq.refl _,rfl⟩ ?_ ?_
  ·rintro j J fo hj⟨fv,eo,s6,rfl⟩;have e8:c.length=gs.length:=Paired.length el;have ep:j<gs.length:=by lia
   have hg:=f_ ep;obtain⟨v,hv,l,R,rfl,eq,a7⟩:=qW el j _ hg;refine au (pq (by rw[<-e5];exact s6 _ _ ad.z.g.house) rfl rfl (U rfl (U rfl ⟨gl,gs.map V.str,0+(j:Int),.str gs[j],rfl,rfl,aW.of (s6 _ _ fl),by rw[Int.zero_add];exact am (by rw[ir,hg];rfl),W,Z',43+i+1,gs[j],by rw[e5];rfl,ad.z.same s6,a5 _ (yl ep),λr fw fx s7 B er es=>au ?_⟩)));have a3:=s6.trans s7;refine U rfl ⟨_,"list",_,true,rfl,.lst er,eK (by decide+kernel),true,rfl,?_⟩;refine cj (U rfl (U rfl ⟨D,c,0+(j:Int),.ref l,rfl,rfl,aW.of (a3 _ _ fg),by rw[Int.zero_add];exact am hv,l,rfl,⟨R,aW.of (a3 _ _ eq)⟩,λD2 L=>?_⟩));refine je (K:=K) (a:=l) (xs:=R) (λk ac H'=>aq fx H'/\H' D2=some (.lst ac)/\ac=(List.replicate k true).map V.bl) ⟨aj (aq.refl _) L,ae,rfl⟩ (λk ac H' _ h=>aW.of (h.1 _ _ (a3 _ _ eq))) ?_ ?_
   ·rintro k u ac H8 hu⟨s8,dc,rfl⟩;have hk:k<R.length:=(d_.mp hu).1;obtain⟨y,hy,fy⟩:=((a7.kp (.of a3)).kp (.of s8)).at_ hu;refine au (iL (bH ?_));refine U rfl (U rfl ⟨r,fw,Du y,(oC W gs[j]).map Du,rfl,aW.of (s8 _ _ er),fy,(es.kp (.of s8)).data,mu.mpr ⟨y,ff _ y hy,rfl⟩,dc,?_,lf hk ⟨bu s8 L,ae,?_⟩⟩)
    ·have h4:=Paired.length a7;have h5:=P5 (λl=>(lF l gs[j]).map λp=>(l.nm,p.1,p.2)) M.las;have h6:=S.z.ok.l4;have h7:(oC M gs[j]).length<=M.las.length:=h5;rw[c_,zz,k4];lia
    ·rw[Rb,j1];rfl
   ·rintro ac H8⟨s8,dc,rfl⟩;refine⟨D2,List.replicate R.length true,rfl,aW.of dc,?_⟩;rw[show(List.replicate R.length true).all id=true by rw[List.all_eq_true];exactλx hx=>QH hx];exact⟨true,rfl,cj ⟨_,_,a3.trans s8,rfl⟩⟩
  ·rintro J fo⟨fv,eo,s6,rfl⟩;exact⟨W,Z',t,_,_,_,_,_,_,en.same s6,e5,fa,rfl⟩
end
def M9{K:RM}{h:Heap}{mg:RP}{eR lw fV bJ lu qL uv ut yG qI uw uu qJ oB qK kH px:Addr}{cC:Addr}{pm:Params}{pb:Array DictEntry}{vj:Nat}{B3:Addr}{KJ:Option Addr}{zw:RU}{DC:Nat}{JQ:Array (Option Value)}{rp:Value}{rn:Option Addr}{kW:ClassData}{rf:Array (Option Value)}{kX:RQ}(X:K.In h)(G:h.Ns mainGlobals mg)(KU:Gp K "Table" eR)(KW:Gp K "Layer" lw)(KR:Gp K "Trial" fV)(KY:Gp K "House" bJ)(zW:Gp K "SplitError" lu)(FF:Gp K "NoHouse" qL)(IN:Gp K "NoDeed" uv)(IK:Gp K "NoWord" ut)(KS:Gp K "Taken" yG)(FC:Gp K "Unknown" qI)(IO:Gp K "NoArms" uw)(IL:Gp K "NoRule" uu)(FD:Gp K "NoShuts" qJ)(Dl:Gp K "NoNumber" oB)(FE:Gp K "NoMarks" qK)(IP:Gp K "Closed" kH)(IM:Gp K "NoRoom" px)(ny:Cp K eR)(zI:aX K eR "many")(vJ:aX K eR "owners")(xl:aX K eR "taken")(nz:Cp K lw)(xn:aX K lw "slope")(xm:aX K lw "table")(vK:aX K lw "inside")(nu:Cp K fV)(zG:aX K fV "home")(zH:aX K fV "arms")(zF:aX K fV "rule")(xk:aX K fV "shuts")(vG:aX K fV "paused")(vH:aX K fV "closed")(vI:aX K fV "barred")(nA:Cp K bJ)(qi:aX K bJ "own_prime")(se:aX K bJ "own_salt")(nN:aX K bJ "layer_named")(nM:aX K bJ "trial_named")(qj:aX K bJ "came_into")(xo:aX K bJ "deeds")(zJ:nP K lu)(Ff:nP K qL)(Ic:nP K uv)(HZ:nP K ut)(KH:nP K yG)(Fc:nP K qI)(Id:nP K uw)(Ia:nP K uu)(Fd:nP K qJ)(C7:nP K oB)(Fe:nP K qK)(Ie:nP K kH)(Ib:nP K px)(CH:Dp K "is_whole" oK)(zb:Dp K "is_text_of" iY)(ES:Dp K "is_word" qR)(CK:Dp K "is_guest" oN)(CJ:Dp K "is_prime" lH)(CD:Dp K "point_of" oH)(Bl:Dp K "is_number" my)(EV:Dp K "is_mark" qU)(Bn:Dp K "are_marks" iF)(CM:Dp K "has_form" oP)(zj:Dp K "all_within" lP)(CC:Dp K "words_of" lG)(EU:Dp K "is_rule" qT)(Km:Dp K "holds" pK)(CL:Dp K "is_count" oO)(ET:Dp K "is_salt" qS)(CI:Dp K "is_total" oM)(Bk:Dp K "is_weight" mx)(zi:Dp K "are_counts" iZ)(xc:Dp K "are_weights" ix)(CN:Dp K "are_arms" lO)(w9:Dp K "check_house" ko)(zc:Dp K "check_word" lI)(xa:Dp K "check_guest" kr)(w5:Dp K "check_marks" km)(zd:Dp K "check_rule" lJ)(Bm:Dp K "check_new" mz)(rB:Dp K "check_standing" gB)(w6:Dp K "check_known" kn)(wZ:Dp K "check_slope" iw)(zh:Dp K "check_arms" lN)(w4:Dp K "check_shuts" kj)(xb:Dp K "check_count" kt)(vo:Dp K "check_shares" jl)(t5:Dp K "check_dealing" iN)(zf:Dp K "check_form" lL)(wY:Dp K "check_trial" ki)(ze:Dp K "check_open" lK)(zg:Dp K "check_deed" lM)(CG:Dp K "most_due" oJ)(Kn:Dp K "dealt" yR)(CF:Dp K "place_of" oI)(vq:Mp K eR "__init__" "Table.__init__" jn)(rC:Mp K eR "owner_of" "Table.owner_of" gC)(pY:Mp K eR "places_of" "Table.places_of" fY)(zn:Mp K eR "free" "Table.free" i3)(zk:Mp K eR "told" "Table.told" i0)(pZ:Mp K eR "give_back" "Table.give_back" fZ)(zm:Mp K eR "take" "Table.take" lQ)(vw:Mp K lw "__init__" "Layer.__init__" jo)(vp:Mp K fV "__init__" "Trial.__init__" jm)(vz:Mp K bJ "__init__" "House.__init__" jq)(CP:Mp K bJ "do" "House.do" oR)(zq:Mp K bJ "done" "House.done" lS)(rN:Mp K bJ "do_layer" "House.do_layer" gH)(rJ:Mp K bJ "do_trial" "House.do_trial" gF)(rK:Mp K bJ "do_share" "House.do_share" dB)(t7:Mp K bJ "do_hold" "House.do_hold" iP)(rL:Mp K bJ "do_pause" "House.do_pause" gG)(rO:Mp K bJ "do_close" "House.do_close" gI)(vy:Mp K bJ "do_bar" "House.do_bar" jp)(rH:Mp K bJ "do_visit" "House.do_visit" gE)(t6:Mp K bJ "put_out" "House.put_out" iO)(nK:Mp K bJ "after_visit" "House.after_visit" dy)(rD:Mp K bJ "seat_for" "House.seat_for" eT)(rE:Mp K bJ "place_in" "House.place_in" gD)(qa:Mp K bJ "places_in" "House.places_in" f9)(vx:Mp K bJ "shares" "House.shares" f8)(xf:Mp K bJ "stand" "House.stand" fk)(CO:Dp K "_law_cell_at" oQ)(Ht:Dp K "_law_mixed" uY)(Ko:Dp K "_law_word" yS)(Hv:Dp K "_law_guest" uZ)(Kr:Dp K "_law_rule" yU)(Hu:Dp K "_law_marks" pL)(Ks:Dp K "_law_plan" yV)(zp:Dp K "_law_new_layer" lR)(zo:Dp K "_law_new_trial" i4)(Hr:Dp K "_law_share" mB)(Kt:Dp K "_law_deed" yW)(Kq:Dp K "_law_told" yT)(Hw:Dp K "_law_grown" mC)(Hs:Dp K "_law_noted" uX)(OC:Dp K "law" xP)(E8:Pc K "LETTERS" "abcdefghijklmnopqrstuvwxyz")(xj:Pc K "GUEST_SIGNS" "abcdefghijklmnopqrstuvwxyz0123456789")(vE:Ip K "LONGEST_WORD" 12)(ud:Ip K "LONGEST_GUEST" 24)(xi:Ip K "LEAST_PRIME" 2)(sd:Ip K "GREATEST_PRIME" 997)(KD:Ip K "MIXER" 1009)(zD:Ip K "MOST_MARKS" 8)(vF:Ip K "DEEPEST_RULE" 6)(zC:Ip K "MOST_RULES" 30)(zy:Ip K "MOST_WORDS" 3)(Bv:Ip K "MOST_ARMS" 4)(zB:Ip K "MOST_SHUTS" 8)(zA:Ip K "MOST_TOTAL" 1000)(FG:Gp K "LENGTHS" cC)(EW:K.lookup cC=some ⟨.type "dict",none,.dict pb vj,#[]⟩)(CS:PySem.W.KeysLit pm pb.toList)(CQ:(cC==sysModules)=false)(tJ:∃tk,PySem.W.nsIn K cC "layer"=some (some (.int 3 tk)))(tG:∃tk,PySem.W.nsIn K cC "trial"=some (some (.int 6 tk)))(tH:∃tk,PySem.W.nsIn K cC "share"=some (some (.int 3 tk)))(uB:∃tk,PySem.W.nsIn K cC "deal"=some (some (.int 4 tk)))(uA:∃tk,PySem.W.nsIn K cC "hold"=some (some (.int 3 tk)))(tI:∃tk,PySem.W.nsIn K cC "pause"=some (some (.int 2 tk)))(yI:∃tk,PySem.W.nsIn K cC "go"=some (some (.int 2 tk)))(tK:∃tk,PySem.W.nsIn K cC "close"=some (some (.int 2 tk)))(wD:∃tk,PySem.W.nsIn K cC "bar"=some (some (.int 3 tk)))(tF:∃tk,PySem.W.nsIn K cC "visit"=some (some (.int 3 tk)))(Na:Gp K "HELD" B3)(LA:K.lookup B3=some ⟨.type "tuple",KJ,.seq zw DC,JQ⟩)(FL:bd [.str "",.str ""] zw.toList)(rj:K.lookup kH=some ⟨rp,rn,.cls kW,rf⟩)(rg:kW.mro=.ref kH::kX)(rh:(Value.ref kH::kX).contains (.ref px)=false)(NO:Zp K "all")(NN:Zp K "any")(Lz:Zp K "bool")(FK:Zp K "divmod")(Ac:Zp K "enumerate")(NM:Zp K "int")(yF:Zp K "isinstance")(NL:Zp K "len")(Ly:Zp K "list")(NK:Zp K "max")(NJ:Zp K "min")(Ja:Zp K "range")(B2:Zp K "reversed")(NI:Zp K "set")(FJ:Zp K "sorted")(NH:Zp K "str")(NG:Zp K "sum")(I0:Zp K "tuple")(NF:Zp K "zip"):∃a:ke,Txt K mg a/\pm=a.pm:=by obtain⟨fy,fR,wm⟩:=CH;obtain⟨eb,ec,qu⟩:=zb;obtain⟨hp,hq,yA⟩:=ES;obtain⟨f0,f5,wu⟩:=CK;obtain⟨f6,f7,wq⟩:=CJ;obtain⟨ge,gg,wg⟩:=CD;obtain⟨e9,fa,tz⟩:=Bl;obtain⟨hr,hs,yD⟩:=EV;obtain⟨fg,fl,tE⟩:=Bn;obtain⟨gv,gV,wx⟩:=CM;obtain⟨ed,ef,qD⟩:=zj;obtain⟨g0,g1,wf⟩:=CC;obtain⟨x_is_rule,ht,yC⟩:=EU;obtain⟨hJ,hK,DZ⟩:=Km;obtain⟨g2,g3,ww⟩:=CL;obtain⟨hu,hv,yB⟩:=ET;obtain⟨g4,g5,wo⟩:=CI;obtain⟨fo,fv,tw⟩:=Bk;obtain⟨ei,ej,qC⟩:=zi;obtain⟨c0,c1,oA⟩:=xc;obtain⟨g6,g7,wy⟩:=CN;obtain⟨c2,c3,ox⟩:=w9;obtain⟨ek,el,qv⟩:=zc;obtain⟨c4,da,oy⟩:=xa;obtain⟨x_check_marks,dc,oq⟩:=w5;obtain⟨en,eo,qw⟩:=zd;obtain⟨fw,fx,tD⟩:=Bm;obtain⟨y,z,lq⟩:=rB;obtain⟨di,dt,ou⟩:=w6;obtain⟨dv,dK,on⟩:=wZ;obtain⟨ep,eq,qB⟩:=zh;obtain⟨dT,dV,oo⟩:=w4;obtain⟨d1,d2,oz⟩:=xb;obtain⟨bc,bi,mZ⟩:=vo;obtain⟨a2,a3,me⟩:=t5;obtain⟨er,es,qz⟩:=zf;obtain⟨x_check_trial,d3,om⟩:=wY;obtain⟨et,ev,qy⟩:=ze;obtain⟨ew,ey,qA⟩:=zg;obtain⟨g8,ha,wk⟩:=CG;obtain⟨hL,hM,D0⟩:=Kn;obtain⟨hb,he,wj⟩:=CF;obtain⟨bl,b,c,jL⟩:=vq;obtain⟨A,B,C,hE⟩:=rC;obtain⟨o,p,q,gt⟩:=pY;obtain⟨ez,eG,eH,l7⟩:=zn;obtain⟨eN,eQ,eZ,lZ⟩:=zk;obtain⟨r,s,t,gu⟩:=pZ;obtain⟨x_Table_take,e0,e1,l6⟩:=zm;obtain⟨bp,d,e,jM⟩:=vw;obtain⟨bt,f,g,jK⟩:=vp;obtain⟨bz,i,j,jP⟩:=vz;obtain⟨hf,hj,hk,pk⟩:=CP;obtain⟨e2,e3,e4,l8⟩:=zq;obtain⟨D,E,F,ii⟩:=rN;obtain⟨I,J,L,ib⟩:=rJ;obtain⟨M,N,O,ic⟩:=rK;obtain⟨a5,a6,a7,iW⟩:=t7;obtain⟨Q,R,S,ie⟩:=rL;obtain⟨T,U,V,ij⟩:=rO;obtain⟨x_House_do_bar,bP,b8,jO⟩:=vy;obtain⟨Y,Z,aa,ia⟩:=rH;obtain⟨a8,ba,bb,iV⟩:=t6;obtain⟨k,l,n,ff⟩:=nK;obtain⟨ac,ad,al,hU⟩:=rD;obtain⟨an,ap,as,hV⟩:=rE;obtain⟨u,v,x,gw⟩:=qa;obtain⟨b9,cc,ci,jN⟩:=vx;obtain⟨d4,d5,ea,kF⟩:=xf;obtain⟨hl,ho,wz⟩:=CO;obtain⟨hw,hx,BS⟩:=Ht;obtain⟨hN,hO,D1⟩:=Ko;obtain⟨x_Lguest,hy,BU⟩:=Hv;obtain⟨hP,hQ,D4⟩:=Kr;obtain⟨hA,hB,BT⟩:=Hu;obtain⟨hR,hS,D5⟩:=Ks;obtain⟨e5,e6,qF⟩:=zp;obtain⟨e7,e8,qE⟩:=zo;obtain⟨hC,hD,BQ⟩:=Hr;obtain⟨hT,hW,D6⟩:=Kt;obtain⟨hX,hY,D3⟩:=Kq;obtain⟨hF,hG,BV⟩:=Hw;obtain⟨hH,hI,BR⟩:=Hs;obtain⟨hZ,ig,Lw⟩:=OC;exact⟨⟨fy,eb,hp,f0,f6,ge,e9,hr,fg,gv,ed,g0,x_is_rule,hJ,g2,hu,g4,fo,ei,c0,g6,c2,ek,c4,x_check_marks,en,fw,y,di,dv,ep,dT,d1,bc,a2,er,x_check_trial,et,ew,g8,hL,hb,bl,A,o,ez,eN,r,x_Table_take,bp,bt,bz,hf,e2,D,I,M,a5,Q,T,x_House_do_bar,Y,a8,k,ac,an,u,b9,d4,hl,hw,hN,x_Lguest,hP,hA,hR,e5,e7,hC,hT,hX,hF,hH,hZ,eR,lw,fV,bJ,lu,qL,uv,ut,yG,qI,uw,uu,qJ,oB,qK,kH,px,cC,B3,pm⟩,⟨⟨wm,PySem.W.mg_of X G fR,b1 wm⟩,⟨qu,PySem.W.mg_of X G ec,b3 qu⟩,⟨yA,PySem.W.mg_of X G hq,b1 yA⟩,⟨wu,PySem.W.mg_of X G f5,b1 wu⟩,⟨wq,PySem.W.mg_of X G f7,b1 wq⟩,⟨wg,PySem.W.mg_of X G gg,b3 wg⟩,⟨tz,PySem.W.mg_of X G fa,b1 tz⟩,⟨yD,PySem.W.mg_of X G hs,b1 yD⟩,⟨tE,PySem.W.mg_of X G fl,b1 tE⟩,⟨wx,PySem.W.mg_of X G gV,b2 wx⟩,⟨qD,PySem.W.mg_of X G ef,b1 qD⟩,⟨wf,PySem.W.mg_of X G g1,b1 wf⟩,⟨yC,PySem.W.mg_of X G ht,b1 yC⟩,⟨DZ,PySem.W.mg_of X G hK,b2 DZ⟩,⟨ww,PySem.W.mg_of X G g3,b1 ww⟩,⟨yB,PySem.W.mg_of X G hv,b1 yB⟩,⟨wo,PySem.W.mg_of X G g5,b1 wo⟩,⟨tw,PySem.W.mg_of X G fv,b1 tw⟩,⟨qC,PySem.W.mg_of X G ej,b2 qC⟩,⟨oA,PySem.W.mg_of X G c1,b2 oA⟩,⟨wy,PySem.W.mg_of X G g7,b1 wy⟩,⟨ox,PySem.W.mg_of X G c3,b2 ox⟩,⟨qv,PySem.W.mg_of X G el,b1 qv⟩,⟨oy,PySem.W.mg_of X G da,b1 oy⟩,⟨oq,PySem.W.mg_of X G dc,b1 oq⟩,⟨qw,PySem.W.mg_of X G eo,b1 qw⟩,⟨tD,PySem.W.mg_of X G fx,b2 tD⟩,⟨lq,PySem.W.mg_of X G z,b2 lq⟩,⟨ou,PySem.W.mg_of X G dt,b2 ou⟩,⟨on,PySem.W.mg_of X G dK,b3 on⟩,⟨qB,PySem.W.mg_of X G eq,b1 qB⟩,⟨oo,PySem.W.mg_of X G dV,b2 oo⟩,⟨oz,PySem.W.mg_of X G d2,b1 oz⟩,⟨mZ,PySem.W.mg_of X G bi,b2 mZ⟩,⟨me,PySem.W.mg_of X G a3,b3 me⟩,⟨qz,PySem.W.mg_of X G es,b1 qz⟩,⟨om,PySem.W.mg_of X G d3,b3 om⟩,⟨qy,PySem.W.mg_of X G ev,b2 qy⟩,⟨qA,PySem.W.mg_of X G ey,b4 qA⟩,⟨wk,PySem.W.mg_of X G ha,b2 wk⟩,⟨D0,PySem.W.mg_of X G hM,b2 D0⟩,⟨wj,PySem.W.mg_of X G he,b3 wj⟩,⟨jL,⟨b,c,jL.kp⟩,b2 jL⟩,⟨hE,⟨B,C,hE.kp⟩,b2 hE⟩,⟨gt,⟨p,q,gt.kp⟩,b2 gt⟩,⟨l7,⟨eG,eH,l7.kp⟩,b1 l7⟩,⟨lZ,⟨eQ,eZ,lZ.kp⟩,b2 lZ⟩,⟨gu,⟨s,t,gu.kp⟩,b3 gu⟩,⟨l6,⟨e0,e1,l6.kp⟩,b3 l6⟩,⟨jM,⟨d,e,jM.kp⟩,b3 jM⟩,⟨jK,⟨f,g,jK.kp⟩,b5 jK⟩,⟨jP,⟨i,j,jP.kp⟩,b3 jP⟩,⟨pk,⟨hj,hk,pk.kp⟩,b2 pk⟩,⟨l8,⟨e3,e4,l8.kp⟩,b2 l8⟩,⟨ii,⟨E,F,ii.kp⟩,b3 ii⟩,⟨ib,⟨J,L,ib.kp⟩,b3 ib⟩,⟨ic,⟨N,O,ic.kp⟩,b3 ic⟩,⟨iW,⟨a6,a7,iW.kp⟩,b3 iW⟩,⟨ie,⟨R,S,ie.kp⟩,b3 ie⟩,⟨ij,⟨U,V,ij.kp⟩,b2 ij⟩,⟨jO,⟨bP,b8,jO.kp⟩,b3 jO⟩,⟨ia,⟨Z,aa,ia.kp⟩,b3 ia⟩,⟨iV,⟨ba,bb,iV.kp⟩,b3 iV⟩,⟨ff,⟨l,n,ff.kp⟩,b3 ff⟩,⟨hU,⟨ad,al,hU.kp⟩,b5 hU⟩,⟨hV,⟨ap,as,hV.kp⟩,b3 hV⟩,⟨gw,⟨v,x,gw.kp⟩,b3 gw⟩,⟨jN,⟨cc,ci,jN.kp⟩,b2 jN⟩,⟨kF,⟨d5,ea,kF.kp⟩,b2 kF⟩,⟨wz,PySem.W.mg_of X G ho,b2 wz⟩,⟨BS,PySem.W.mg_of X G hx,b3 BS⟩,⟨D1,PySem.W.mg_of X G hO,b2 D1⟩,⟨BU,PySem.W.mg_of X G hy,b2 BU⟩,⟨D4,PySem.W.mg_of X G hQ,b2 D4⟩,⟨BT,PySem.W.mg_of X G hB,b1 BT⟩,⟨D5,PySem.W.mg_of X G hS,b1 D5⟩,⟨qF,PySem.W.mg_of X G e6,b2 qF⟩,⟨qE,PySem.W.mg_of X G e8,b3 qE⟩,⟨BQ,PySem.W.mg_of X G hD,b4 BQ⟩,⟨D6,PySem.W.mg_of X G hW,b3 D6⟩,⟨D3,PySem.W.mg_of X G hY,b2 D3⟩,⟨BV,PySem.W.mg_of X G hG,b5 BV⟩,⟨BR,PySem.W.mg_of X G hI,b2 BR⟩,⟨Lw,PySem.W.mg_of X G ig,b1 Lw⟩,E8.m X G,xj.m X G,vE.m X G,ud.m X G,xi.m X G,sd.m X G,KD.m X G,zD.m X G,vF.m X G,zC.m X G,zy.m X G,Bv.m X G,zB.m X G,zA.m X G,KU.m X G,⟨ny.p0,ny.p1,ny.p2,ny.p3⟩,⟨ny.p4,b,c,ny.p5⟩,zI,vJ,xl,KW.m X G,⟨nz.p0,nz.p1,nz.p2,nz.p3⟩,⟨nz.p4,d,e,nz.p5⟩,xn,xm,vK,KR.m X G,⟨nu.p0,nu.p1,nu.p2,nu.p3⟩,⟨nu.p4,f,g,nu.p5⟩,zG,zH,zF,xk,vG,vH,vI,KY.m X G,⟨nA.p0,nA.p1,nA.p2,nA.p3⟩,⟨nA.p4,i,j,nA.p5⟩,qi,se,nN,nM,qj,xo,zW.m X G,zJ,FF.m X G,Ff,IN.m X G,Ic,IK.m X G,HZ,KS.m X G,KH,FC.m X G,Fc,IO.m X G,Id,IL.m X G,Ia,FD.m X G,Fd,Dl.m X G,C7,FE.m X G,Fe,IP.m X G,Ie,IM.m X G,Ib,FG.m X G,⟨CQ,pb,vj,EW,CS⟩,tJ,tG,tH,uB,uA,tI,yI,tK,wD,tF,Na.m X G,⟨_,zw,DC,LA,rfl,rfl,by rw[<-nk,<-FL.length,k4];simp,FL⟩,⟨_,⟨_,_,_,_,rj,rg⟩,rh⟩,NO.m X G,NN.m X G,Lz.m X G,FK.m X G,Ac.m X G,NM.m X G,yF.m X G,NL.m X G,Ly.m X G,NK.m X G,NJ.m X G,Ja.m X G,B2.m X G,NI.m X G,FJ.m X G,NH.m X G,NG.m X G,I0.m X G,NF.m X G⟩,rfl⟩
end My
structure PySem.W.Fast:Prop where(tw9723262131681663207 tw9667351382781649934 tw15702743571617285640 tw6433822454751833691 tw4081379249588254077 tw6734680944738314065 tw7017577671710967014 tw12706672623177740787 tw7147740425466972852 tw14377678384320158557 tw7034791093503492937 tw11738766111886462833 tw15371487802131175168 tw6791393894837392587 tw12196974098903457943 tw8822030196957843813 tw121272625494927762 tw12484104314903109849 tw8334257841555759953 tw14636697738257866827 tw17091451516270702188 tw17129029851751177951 tw18309079894098176846 tw5062167777820863202 tw10457233514611242694 tw13034374441195819488 tw4971973800834971988 tw15030791683895468759 tw16378708823955786026 tw13912464539181699408 tw18105646103699567997 tw11189171189127043437 tw15266534153957568016 tw4745787972491000850 tw12939147250293881866 tw4916549824068320536 tw2633088303773503154 tw4506575899075003903 tw10296384197386037251 tw5175967777954568003 tw6358818185705360973 tw4418706279192228514 tw15370796023727569507 tw16068995521293501222 tw10387477595691583746 tw9965543950731950338 tw11526982060063827365 tw16593829814976389658 tw9795868724882670718 tw2335595565234638465 tw6505762891366659351 tw18083576369243688080 tw2865401212104590388 tw4354327251142681996 tw12721659347853946148 tw4667468687788647695 tw8062032866254320958 tw14400555413808367589 tw1830478872834857447 tw12773766413415480096 tw1531837540412146303 tw6196713057075407351 tw5850069167624280322 tw6508234223432694913 tw13282782294216522012 tw5508613146658644652 tw13244617616310904313 tw1055743838208454995 tw14009105503192843895 tw7814860524359301182 tw2864080968821921617 tw10719869330416098236 tw10217469954409231104 tw8538422023043835693 tw5131821913284898507 tw16501780472276702510 tw5098973606193989224 tw2788395194622285933 tw16144661355313787588 tw12633921319066594611 tw5029427458574990934 tw27909078934953219 tw5786906360097611240 tw13882470386261279395 tw8795185090397657753 tw18175609693902958620 tw3127890311989705745 tw1358203056252192852 tw6824478516568461139 tw18149262715711524522 tw17756067192396376908 tw7241206081517639118 tw6192306777813072557 tw12468495533201977002 tw3591550337754213402 tw172041783297892276 tw4641317349444039077 tw1218564465761386150 tw1281664547276824491 tw16510467142464925224 tw8700016028932729263 tw13585637618757977036 tw13221766956293023608 tw7801221834516115979 tw18169562792049688474 tw7037431405101936208 tw6266098412349023629 tw13983020148039663308 tw16563110912692181182 tw4428900624753883299 tw18294458996385220243 tw12617339322621135438 tw7231085408623608287 tw7046307571896248622 tw10553239654054780863 tw6247892877695604512 tw8750669758152590432 tw2095943802745684018 tw13672021355431802182 tw8494203636435581926 tw4550922344652535982 tw3539492325604894882 tw10245247638013662436 tw2345891932586965190 tw16783111565871248655 tw5025630394378864672 tw10002695658902334349 tw15617310437355369970 tw18019499967784284835 tw3426671277814390978 tw13898663027508878920 tw18364095596268865366 tw5226791494743808709 tw13785180949020784527 tw13979952484925313007 tw2169151427253457421 tw15886216204877486393 tw7039129510001167599 tw10092010859429510017 tw4125751056480577870 tw13396202829920181127 tw3957508972628167125 tw1397149057271102270 tw13724909491212090923 tw11743309767337688912 tw13374265245618286944 tw16414511578995345539 tw5876757262672301284 tw7867699444184375569 tw5543290334210156721 tw3072871222321965798 tw3528315557679390855 tw2464094151352723215 tw874249358807657629 tw15653233871055364170 tw841725158581522834 tw10070902610087425434 tw10123539323125171258 tw15120560289860067646 tw4006440250477967771 tw2219739958557706749 tw4426472795505089733 tw2609277422639656162 tw7389010773942529016 tw620715715243883846 tw11860134118808621109 tw2284420318470132475 tw1124756899574700474 tw15575902551442401189 tw3794071908060465615 tw16601785295024529929 tw13664999499503088503 tw6558689470479473050 tw12112211071269820788 tw6382854200893220192 tw16755349958328314059 tw6696715706819909746 tw9883830390955023535 tw1340876546270119226 tw8648477121765886919 tw16381209125156921891 tw12818194621894665418 tw5150039059478587112 tw13910765115395892179 tw6882140648342745482 tw11396289390384419066 tw13894862529653915802 tw12801837559813806971 tw13806985717338464068 tw13262721357323431701 tw118631361224395660 tw708793606303328971 tw14246038513607688540 tw5704826373828050125 tw18397394281736071612 tw16475154452087491816 tw17037250154900644036 tw5417996356040281763 tw2795502812041714509 tw13644520054180738733 tw13283567140723722521 tw11339890064714863203 tw15138479903345482516 tw17446183685747764042 tw5419775738041205453 tw4183888176157199268 tw16229509078404286286 tw6036705748761591682 tw10868966778586765440 tw1693995721077950809 tw7220201473839961746 tw14225119126592444504 tw16279447097205893681 tw14795496834316943208 tw11131645656985259709 tw16952751768519102522 tw13059271133432486813 tw12775717651209946990 tw5653596581362016234 tw3661218519230933122 tw14230366179985798101 tw15787120674987098219 tw8419897322662959528 tw9515848605978775469 tw16932016289675148800 tw15491071175098875837 tw4773909078689883422 tw16201225890719042617 tw5258069686610114190 tw9475553611467158643 tw17000497882632108378 tw15733668647042356126 tw655421837373032010 tw4026546185478417490 tw13002796604274370228 tw652959625920495651 tw13222958214917029892 tw2950329236179865596 tw11880652980247169935 tw8369625965104101996 tw12668050184340360655 tw7133341913869551763 tw3103946890091553101 tw16495290749870167694 tw8113463477772300697 tw6656666137506561709 tw11506380295906667528 tw16920337673124339436 tw10571083219718735045 tw8725805443497975648 tw11799045876353181935 tw9331930598872404114 tw11241644078606281255 tw15535378241276804714 tw15513079020960681974 tw2896913828129508069 tw5495671365703712255 tw2226056049009236240 tw8247059225430168961 tw8504423325538478930 tw7623533077136407950 tw1717581177855858952 tw13509841687858774784 tw11245433175802338171 tw12028461173522453509 tw3238291383344119833 tw11886327823662029404 tw13924046980618094958 tw1223418791737731086 tw8075408019185924881 tw4539642456734397846 tw18418690263063494802 tw1841595551893540176 tw6851671224353856947 tw5526414375490838047 tw13138620304948486919 tw15713135017381400355 tw11358001793100143961 tw6268957413854382659 tw8408133108283137364 tw4121403788299018627 tw10526442675312700148 tw6498742741696496611 tw5874101346314255900 tw6927689828888038280 tw11114358098545221170 tw14755760772391179780 tw12762334266128396274 tw17177833141357180899 tw12419333115020412307 tw10768426949436915884 tw6160736400575889643 tw13651851282880931345 tw16700380294382558001 tw12223304668543686506 tw3016737845445906893 tw6946657235887672866 tw4200050507416884458 tw12717731113079846418 tw7615648988616918124 tw801606021239139252 tw15554070218135502573 tw16182366815750520911 tw15974839311027948093 tw2720796506529686611 tw11867200042728714030 tw10654248784639411971 tw1760870133129533925 tw258376005856879107 tw678580145881658030 tw5284758651666722552 tw1973445385466244310 tw12349017930638002431 tw10851787739051787461 tw259332221900498482 tw16229903020760363426 tw16259085354467735102 tw7197015619533747251 tw5459274477315287619 tw11807950096636950003 tw9967075650966709519 tw17669885300273965347 tw10536723561276313468 tw2182466224091246943 tw15615332943813144170 tw8564215234531204436 tw18185086887402537330 tw6963507720332878 tw6340227471498969593 tw787654712626818083 tw13183745648940948884 tw16382699694749289435 tw16018526366868060077 tw16385978659597906317 tw6757134428412435979 tw9690708337976055227 tw6474483757012155661 tw13748744755159931151 tw9382200459373425357 tw10792179307251822518 tw7072834302191363562 tw3841900811301187013 tw6532240811237418287 tw17694421764487668764 tw684973330708418807 tw4038627917822783544 tw14375874483738989213 tw13581805353487607627 tw3176176392175996288 tw9531323649025334661 tw11333787555469474578 tw17658464313601780280 tw10270577299719023249 tw9052619774539766390 tw14624302072693924221 tw1504479514581150141 tw3159042724918615863 tw1473867081894718535 tw2152588832932501347 tw8620848961004406092 tw9160067555121090777 tw1290981382388189954 tw13630222807674549555 tw14777853275296348826 tw11096702596129527840 tw3042481246540582761 tw1838034624383916736 tw11391570253090392957 tw53006597851132169 tw4988166383025841690 tw9672370948429949742 tw14234720545834953658 tw1936471878818827244 tw10492915097416332963 tw6292047888952656239 tw4236178445426981797 tw10004806708169841747 tw2363665013270457740 tw13840785568788264630 tw259081781960960405 tw6590763824682514809 tw17945104077266249044 tw4461185199060463163 tw10399629896023816983 tw16038765287123924940 tw10354775090906154242 tw13668342335269309611 tw1292399946523803941 tw11349485485570224970 tw5336242020107558489 tw9180643729254961622 tw12355168234370959653 tw5591138405062737750 tw15069833216087481369 tw17481077094939867734 tw8517486445276812740 tw10508992451044322238 tw18208417929011371372 tw17519371867861548857 tw2271097194120166366 tw13779548450811721789 tw11850398133114243903 tw15566322438559801570 tw3346530266236662269 tw999402175231896943 tw17659742308425641148 tw9118182061363649625 tw13256853769753138513 tw2484700528211796712 tw137104082368932680 tw7601152132556469754 tw18433826482966667596 tw8766466156974684840 tw12305040085065432786 tw5106819027720990081 tw5029134418232760740 tw2456996302297747783 tw3609404457325309544 tw740849523270881497 tw16243941322176695591 tw11999091214833473747 tw8900248989354907396 tw6427245470071717536 tw8011202037104320193 tw17142928140748872700 tw4600328833098364773 tw16081920032408020474 tw9082319112799547918 tw9588808834703485523 tw7071048094355395393 tw2879793484736713437 tw13970089101032222753 tw16670386799317914231 tw13759566827702132252 tw788912862402043975 tw787211969674714476 tw5762311162962361149 tw8220446308451853897 tw7702436008465583328 tw18189715678236223925 tw15002044085269972622 tw3575140114332667213 tw2949615920178141910 tw12227008324555396044 tw6278282861166976001 tw13450775628126248274 tw8170636245087876005 tw1689956446571104140 tw13119860325741975704 tw13586167636060178862 tw7392631004199209753 tw17289229337886602398 tw6063401923303689220 tw6478271607352733599 tw17697455410140499383 tw10624000702749982508 tw7792283784213918833 tw6596347901849932796 tw4576228968964372334 tw9196202859947969024 tw8985872656064568613 tw9086791554304599614 tw2293339074680590971 tw858570319437308523 tw18056781449312464109 tw14799031894229265172 tw10154820691743235000 tw9939182509733176944 tw3583058427303134605 tw7638848938406203289 tw15341204831189217437 tw10017212530150511838 tw12320542180797048998 tw13292412341426911645 tw786443518508036184 tw14920366365738030483 tw16419853413966149636 tw7155688389119770279 tw14984971518194909365 tw14447818882763792195 tw1425317956286327840 tw5009373359718706375 tw777837696996240404 tw16224181318644842184 tw1924022406021080981 tw18292140792063623132 tw8903816361036863946 tw15239763580809585903 tw10269731071481944471 tw16132424350684698285 tw17887562510007234986 tw11094292839724444594 tw9662594257771341405 tw18259955374196451458 tw15029753599358315412 tw13102103195387100636 tw7882864474404727964 tw9890744201198576143 tw380701689925228176 tw14996780546495408716 tw4752344373460508834 tw10356342160167037594 tw14547385767263902828 tw10782165912874545586 tw472215367347149835 tw8074066054303466179 tw2929138339247715663 tw8792400398319202286 tw15201549509370769395 tw208936760950138099 tw18113003491291959183 tw13317691859137089212 tw5369083848887123868 tw7530308867750423003 tw8142422926156831374 tw5995746868393183527 tw16124744039449094897 tw5139947027676443065 tw12331676292871025748 tw17200974920931026821 tw12353933367094420180 tw3303263627836449046 tw13793435803243146993 tw16301841206678034325 tw9227954877939919596 tw8274856857781265359 tw8937815123905295230 tw5870977985962195153 tw16277582334949948875 tw15879071631059399500 tw3556679393583539190 tw13088893680477097457 tw7583704678660730449 tw15650684917180658683 tw15962208760856026474 tw8985863935468109460 tw12147808106756698842 tw11916499410177456682 tw5046854770916884246 tw4301866116758277038 tw6669264360884784037 tw908709785759949998 tw915643985343785981 tw13484574036674990826 tw1827227577762955260 tw8591601386298334446 tw7703861579700902006 tw6421292145395976413 tw363298096375756532 tw16629117078909774368 tw7399344023320485675 tw17692967136526866382 tw1599740957003656480 tw12606555707980109489 tw2176085804063600629 tw11710442300044243260 tw3258390472930470849 tw8705675367159087724 tw15506575920770463219 tw16051312747178448059 tw1177691272154582946 tw3006762087562093340 tw13976043285823539825 tw7066313913658361059 tw17927534371927711189 tw11198912381871149484 tw12058517442485365938 tw4456485115572714557 tw6141365220463074607 tw16650158732994923653 tw12672237134206024293 tw14662737870648773357 tw2287409320638309813 tw1971190451121170718 tw5251549881616634125 tw4398417601348715939 tw13057352818853915715 tw568352921595077695 tw852293878670223829 tw12056135319842498339 tw13505474044223730560 tw3857776014440635047 tw12226521303791093533 tw16065245137497505214 tw16322007408870364917 tw2047386439599177266 tw2568766491659320264 tw13812089731745063811 tw1407512063713642826 tw9910875380722265243 tw11763169712957953261 tw3545033221682077734 tw4547790356564024944 tw4028195258151083796 tw1562849936289612191 tw9468639775080930811 tw2722383061493869436 tw11681277094602933626 tw1060880314860787343 tw6684727891003499289 tw396800693769250616 tw3789119993208486959 tw5400108254542509099 tw560544011518606613 tw14992078026968221394 tw4172345883179509180 tw17846938983714165458 tw13039861224104438485 tw10399186447879859874 tw18426786418135509382 tw2350832465841539560 tw16076995455295483870 tw3394007717234094608 tw16441728246888252850 tw12174828028008203484:True)
open PySem PySem.W PyProof.Rows
set_option maxRecDepth 100000 in
set_option maxHeartbeats 0 in
theorem PySem.Challenge.cw_layersplit_k21_who_stays_holds : PySem.Challenge.rw_layersplit_k21_who_stays.Holds := by
 w_on;o_law;k_head;(case hw=>w_witness2)
 k_fill
 refine L2.FN (l:=PySem.Challenge.rw_layersplit_k21_who_stays) (n:=63) (k:=16) (x:="_law_script") (CX:=L2.dw) (sp:=My.F9) rfl (by decide) rfl ⟨rfl,by decide,by decide⟩ (λw h Y=>PySem.W.kIn_of Y) ?F ?S ?C
 case F=>
  intro w mg fa h KX G hmg;have T:∃a:My.ke,My.Txt (L2.KOf KX) mg a/\w.params=a.pm:=by
   dsimp only[L2.KOf]
   refine' My.M9 KX G ..
   rotate_left 30
   iterate 17(exact L2.HL (by k_is))
   exact⟨by k_is,by k_is,by k_is,by k_is,by k_is,by k_is⟩
   iterate 3(exact L2.DE (by k_is))
   exact⟨by k_is,by k_is,by k_is,by k_is,by k_is,by k_is⟩
   iterate 3(exact L2.DE (by k_is))
   exact⟨by k_is,by k_is,by k_is,by k_is,by k_is,by k_is⟩
   iterate 7(exact L2.DE (by k_is))
   exact⟨by k_is,by k_is,by k_is,by k_is,by k_is,by k_is⟩
   iterate 6(exact L2.DE (by k_is))
   iterate 13(exact L2.OM (by k_exc))
   iterate 42(exact L2.Lk (by k_is) (L2.C3 (by k_is) (by k_is) (by k_is)))
   iterate 27(exact L2.Os (by k_is) (by k_is) (L2.C3 (by k_is) (by k_is) (by k_is)))
   iterate 15(exact L2.Lk (by k_is) (L2.C3 (by k_is) (by k_is) (by k_is)))
   iterate 14(exact⟨_,by k_is⟩)
   exact L2.HL (by k_is)
   k_is
   k_keys
   decide
   iterate 10(exact⟨_,by k_is⟩)
   exact L2.HL (by k_is)
   k_is
   (repeat(first|exact .nil|refine .cons ⟨_,rfl⟩ ?_))
   k_is
   rfl;decide
   iterate 19(exact L2.NE (by k_is))
  obtain⟨a,T,hw⟩:=T;have e0:=hmg.symm.trans T.law.m;cases e0;exact⟨a.law.d,My.ER T,λbase kb nb=>My.Mw T hw⟩
 case S=>exactλK H a ns hl hO hS=>My.EQ hl hS
 case C=>exactλ_ _ _ _ z=>z
#print axioms PySem.Challenge.cw_layersplit_k21_who_stays_holds
