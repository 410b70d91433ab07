import PyProof.Rows.All
import Wide.All
import OpenK.AllK
import Wide.FinOn
import Lean
import PyProof.EqAt
import PyProof.EqKinds
import PyProof.TupleCall
import PyProof.WalksMore
import PyProof.SetScanFacts
import PyProof.Logic
import PyProof.FactsBase
import PyProof.TableTree
import PyProof.FactsTree
import PyProof.PlainAttrs
import PyProof.DictWalks
import PyProof.SetKind
import PyProof.ForAny
import PyProof.FactsAll.set_1
import PyProof.CollectWalk
import PyProof.WalkLemmas
import PyProof.FactsAll.set_2
import PyProof.Walk
import PyProof.Rows.SortStr
import KE.KRevIter
import KE.KDictList
import KE.KDictLaws
import PyProof.FString
import OpenK.KTop
import PyProof.StrLawsTight
import PyProof.Rows.StrLawsPart
import KE.KIntText
import PyProof.Rows.StrSplitJoin
import PyProof.ZipIter
import KE.IntTextLaws
import KE.KDictOf
import PyProof.AttrMissHeap
import PyProof.EnumMake
import PyProof.EnumFor
import PyProof.Draws
import PyProof.DictItems
import KE.KPairComp
import KE.KSortTup
import PyProof.Rows.SortWalk
import PyProof.RulesAs
import PyProof.RulesDel
import PyProof.ExcArgs
import PyProof.StrOps2
import PyProof.StrBlock
import PyProof.StrOps
import PyProof.StrCalls6
import PyProof.Rows.StrCase
import PyProof.Rows.StrFit
import PyProof.StrLawsReplace
import PyProof.Rows.StrJoin2
import PySem.Challenge.RW_layersplit_k41_desk_rows_refused
set_option Elab.async false
set_option linter.all false
set_option tactic.hygienic false
set_option maxRecDepth 100000
set_option compiler.extract_closed false
def a_:=@PySem.wpAny_bind
def b_:=@List.length_map
def c_:=@List.getElem?_eq_some_iff
def d_:=@PySem.Heap.get?_push_of_some
def eH:=@Nat.le_refl
def eN:=@PySem.wpAny_pure
def e_:=@List.mem_of_getElem?
def fx:=@List.getElem?_eq_getElem
def fy:=@List.mem_cons_of_mem
def f_:=@List.mem_cons_self
def ge:=@PySem.Heap.get?_push_size
def gg:=@PySem.sizeLine_eq
def gV:=@List.length_append
def g6:=@List.take_of_length_le
def g8:=@List.getElem?_map
def g_:=@Nat.le_trans
def hE:=@List.map_append
def hF:=@if_neg
def hH:=@Bool.false_ne_true
def hQ:=@List.mem_map
def hY:=@if_pos
def h_:=@PySem.Heap.lt_size
def ig:=@List.length_cons
def il:=@List.cons.inj
def iq:=@List.size_toArray
def ir:=@List.mem_iff_getElem?
def iA:=@Nat.ne_of_lt
def i_:=@Option.some.inj
def ji:=@decide_eq_true
def j1:=@Nat.lt_of_lt_of_le
def j2:=@List.length_take
def j_:=@decide_eq_false
def kl:=@of_decide_eq_true
def ku:=@Nat.zero_le
def kw:=@List.map_cons
def k_:=@Bool.and_eq_true
def lh:=@Array.length_toList
def lm:=@List.mem_append_right
def l6:=@List.getD_eq_getElem?_getD
def l_:=@List.append_nil
def md:=@List.nodup_append
def me:=@List.append_assoc
def mu:=@Nat.ne_of_gt
def m3:=@Nat.le_of_ble_eq_true
def m6:=@congrArg
def m_:=@Ne.symm
def nk:=@Nat.lt_irrefl
def nn:=@List.mem_append_left
def n6:=@List.not_mem_nil
def n8:=@List.length_range
def n_:=@PySem.wpAny_holding
def oa:=@PySem.PassesOwn.never
def oi:=@List.take_zero
def ol:=@PySem.Heap.size_push
def op:=@List.getElem?_set_ne
def ot:=@PySem.wpAny_newObj_type
def ov:=@List.take_add_one
def oD:=@List.length_eq_zero_iff
def o0:=@PySem.wpAny_call_entry
def o_:=@Nat.pow_le_pow_right
def pa:=@List.mem_range
def pu:=@List.find?_cons_of_neg
def pv:=@Int.toNat_natCast
def pw:=@PySem.Heap.get?_update_other
def p_:=@PySem.StrLaws.glued_eq_join
def qq:=@List.getElem?_eq_none
def qx:=@PySem.Heap.get?_update_self
def q4:=@PySem.wpAny_callSpecial?_slot
def q_:=@List.mem_cons
def ri:=@PySem.wpAny_field
def rk:=@Sum.inr.inj
def rl:=@List.getElem?_append_left
def rm:=@PySem.wpAny_setField_rec
def rr:=@List.map_map
def ry:=@List.find?_cons_of_pos
def rV:=@List.foldl_cons
def r4:=@beq_self_eq_true
def r_:=@Nat.succ_le_succ
def sg:=@List.take_append_drop
def si:=@PySem.wpAny_truthy_bool
def sm:=@Nat.lt_trans
def so:=@Nat.lt_of_le_of_lt
def sT:=@Nat.le_succ
def s_:=@PySem.Calls.spliced_cons
def tf:=@List.mem_filter
def tu:=@List.find?_cons
def tA:=@Nat.lt_succ_self
def t0:=@List.getElem?_set_self
def t6:=@PySem.Calls.callWith_builtin
def t8:=@List.replicate_succ
def t_:=@List.length_filter_le
def ut:=@Array.getElem?_toList
def u_:=@PySem.wpAny_ite_split
def vl:=@List.any_cons
def vr:=@Nat.le_succ_of_le
def vu:=@List.getElem?_append_right
def v_:=@List.foldl_append
def wa:=@List.length_set
def wh:=@List.mem_of_find?_eq_some
def wo:=@Array.getElem?_eq_getElem
def wr:=@PySem.wpAny_Call_Name_kw
def w1:=@Option.isSome_iff_exists
def w4:=@Nat.le_of_lt
def w_:=@PySem.wpAny_seqItems
def x4:=@PySem.Calls.evalArgs_plain
def x_:=@PySem.Calls.spliced_nil
def yl:=@PySem.wpAny_rule
def y0:=@List.filterMap_cons
def y1:=@PyProof.Rows.callWith_type1
def y2:=@of_decide_eq_false
def y3:=@List.filterMap_append
def y_:=@PySem.wpAny_dictEpoch
def z0:=@Nat.lt_succ_of_lt
def z1:=@List.ext_getElem?
def z3:=@beq_eq_false_iff_ne
def z4:=@List.map_congr_left
def z5:=@List.length_take_le
def z7:=@PySem.Heap.SameBut.update
def z8:=@PySem.wpAny_pyIter_tuple
def z_:=@PySem.tupleKind_room_in1
def A_:=@PySem.codeAny_mono
def B_:=@PySem.call_meetsIn
def C_:=@PySem.call_meets
def D2:=@Nat.pow_succ
def D_:=@List.append_eq_nil_iff
def Es:=@Int.emod_lt_of_pos
def E1:=@or_false
def E2:=@PySem.codeAny_builtin
def E_:=@List.length_nil
def F_:=@Int.emod_nonneg
def G_:=@PySem.wpAny_setState_of
def Ha:=@PySem.StrLaws.subAt_one
def H_:=@List.getElem?_inj
def Ia:=@List.flatten_cons
def I_:=@List.flatMap_cons
def J_:=@Prod.mk.inj
def K_:=@List.nodup_iff_pairwise_ne
def L_:=@List.mem_of_mem_take
def M_:=@PySem.F.slot_tuple_iterator_next
def N_:=@Array.getElem?_eq_some_iff
def O_:=@PySem.Around.under_plainId
def P_:=@PySem.wpAny_askSetting
def Qf:=@Nat.le_max_right
def Qv:=@List.length_drop
def Q1:=@List.mem_or_eq_of_mem_set
def Q_:=@List.getElem?_eq_none_iff
def R_:=@PySem.wpAny_attempt
def S_:=@List.all_cons
def Tp:=@Option.map_some
def T4:=@Nat.le_max_left
def T_:=@PySem.Obj.data_mapFields
def U_:=@Bool.false_eq_true
def V_:=@PySem.wpAny_getItem_str_slice
def Wk:=@PySem.wpAny_pyIter_list
def W_:=@PySem.wpAny_Call_method
def XF:=@PySem.builtinLookup_eq_fast
def XG:=@List.length_replicate
def XH:=@Nat.min_le_right
def XI:=@List.mem_reverse
def XJ:=@PySem.plainId_quiet
def XL:=@PySem.Heap.get?_push_cases
def XM:=@PySem.wpAny_passesOwn
def XN:=@PySem.wpAny_execs_nil
def XP:=@List.of_mem_zip
def XQ:=@Bool.or_eq_true
def XR:=@PySem.wpAny_setEntries_of
def XS:=@Nat.mul_le_mul_left
def XT:=@List.length_reverse
def XU:=@Nat.succ_pos
def XV:=@PySem.typeIs_str
def XW:=@List.nodup_nil
def XX:=@List.mem_filterMap
def XY:=@List.find?_eq_none
def XZ:=@List.filterMap_map
def X0:=@Int.fdiv_eq_ediv_of_nonneg
def X1:=@Array.append_assoc
def X2:=@Option.some.injEq
def X3:=@Option.isSome_map
def X4:=@List.take_sublist
def X5:=@List.getElem?_set
def X6:=@List.any_eq_false
def X7:=@List.getElem?_take_of_lt
def X8:=@List.filterMap_cons_none
def X9:=@PySem.AutoSeq1.wpAny_loadPart'
def X_:=@PySem.wpAny_isInstance
def Ya:=@if_false
def Yb:=@List.lookup_cons
def Yc:=@List.getElem_mem
def Yd:=@List.filter_cons
def Ye:=@List.any_eq_true
def Yf:=@PyProof.Rows.F.plain_set_update_loop
def Yg:=@PySem.wpAny_call
def Yh:=@Nat.mod_lt
def Yi:=@Nat.lt_or_ge
def Yj:=@Nat.le_of_eq
def Yk:=@List.range_succ_eq_map
def Yl:=@List.length_eq_one_iff
def Ym:=@List.drop_of_length_le
def Yo:=@PySem.wpAny_specialOf
def Yp:=@PySem.typeLookup_type
def Yq:=@PySem.post_val_or_str
def Yr:=@beq_false_of_ne
def Ys:=@List.range_succ
def Yt:=@List.forIn_cons
def Yu:=@PySem.F.slot_zip_next
def Yv:=@Bool.eq_iff_iff
def Yw:=@PySem.StrLaws.strSub_toList
def Yx:=@PySem.Obj.isFreed_of_fields
def Yy:=@List.getElem?_toArray
def Yz:=@PySem.wpAny_setField
def YA:=@PySem.isSubtype_type
def YB:=@PySem.codeAny_call_builtin
def YC:=@Option.or_none
def YD:=@List.mem_of_mem_drop
def YE:=@List.drop_zero
def YF:=@List.append_eq
def YG:=@List.Perm.refl
def YH:=@Int.le_refl
def YI:=@if_true
def YJ:=@List.map_eq_nil_iff
def YK:=@List.length_pos_iff
def YL:=@Int.toNat_of_nonneg
def YM:=@PySem.wpAny_standAt
def YN:=@PySem.wpAny_onRaise
def YO:=@List.map_take
def YP:=@beq_iff_eq
def YQ:=@PySem.StrLaws.join_split
def YR:=@List.map_singleton
def YS:=@List.getElem?_drop
def YT:=@List.filter_append
def YU:=@PySem.F.args_str_split_2
def YV:=@PySem.wpAny_typeOf
def YW:=@PySem.wpAny_pyIter_slot
def YX:=@Nat.lt_trichotomy
def YY:=@List.map_nil
def YZ:=@List.find?_append
def Y0:=@List.Sublist.refl
def Y1:=@Int.emod_eq_of_lt
def Y2:=@PySem.Heap.hide_ne
def Y3:=@PySem.F.entry_str_split
def Y4:=@Array.toList_push
def Y5:=@PyProof.Rows.slot_tuple_getitem
def Y6:=@PySem.wpAny_forIn_list
def Y7:=@PySem.wpAny_execs_cons
def Y8:=@Nat.min_eq_right
def Y9:=@Nat.le_of_not_lt
def Y_:=@List.getElem_map
def Za:=@List.flatMap_nil
def Zb:=@List.all_eq_true
def Zc:=@Int.natCast_emod
def Zd:=@PySem.F.slot_str_split
def Ze:=@Array.toList_inj
def Zf:=@List.take_append_of_le_length
def Zg:=@List.eq_nil_of_length_eq_zero
def Zh:=@PySem.wpAny_updateSeq
def Zi:=@PyProof.Rows.partition_whole
def Zj:=@Nat.not_lt_zero
def Zk:=@Nat.min_eq_left
def Zl:=@List.nodup_cons
def Zm:=@List.find?_some
def Zn:=@List.cons.injEq
def Zo:=@PySem.F.args_tuple_iterator_next_1
abbrev Zp:=PySem.W.Frag
abbrev Zq:=PySem.Value->PySem.Shared->Prop
abbrev Zr:=List (PySem.Addr×PySem.Obj)
abbrev Zs:=PySem.Str->Option PySem.Value
abbrev Zt:=List PySem.Value
abbrev Zu:=PySem.Program
abbrev Zv:=List PySem.Str
abbrev Zw:=List PySem.Expr
abbrev Zx:=Array PySem.Value
abbrev Zy:=List Nat
abbrev Zz:=List PySem.Addr
abbrev ZA:=List Int
set_option genSizeOf false in
inductive My.Ro|hh|ln|tn|ci|dl|lo(i:Nat)|iu(i:Nat)|tb(i:Nat)|od(i:Nat)|td(i:Nat)|tr(i:Nat)|ba(i:Nat)deriving DecidableEq
noncomputable section
@[elab_as_elim]theorem rwE{α:Sort u}{a b:α}{F:α->Prop}(h:a=b)(p:F b):F a:=h.symm.rec p
theorem xsn{α:Type u}{a:α}{C:Prop}(h:some a=none):C:=nomatch h
theorem xns{α:Type u}{a:α}{C:Prop}(h:none=some a):C:=nomatch h
theorem xtf{C:Prop}(h:true=false):C:=nomatch h
theorem xft{C:Prop}(h:false=true):C:=nomatch h
theorem xor{α:Type u}{a b:α}{C:Prop}(h:some a=some b)(g:a=b->C):C:=g (Option.some.inj h)
theorem e'01{A B:Prop}{g:Prop}(h:A/\B)(k:A->B->g):g:=by
 obtain⟨a,b⟩:=h
 exact k a b
theorem e'02{A B C:Prop}{g:Prop}(h:A/\B/\C)(k:A->B->C->g):g:=by
 obtain⟨a,b,c⟩:=h
 exact k a b c
theorem e'03{A B C D:Prop}{g:Prop}(h:A/\B/\C/\D)(k:A->B->C->D->g):g:=by
 obtain⟨a,b,c,d⟩:=h
 exact k a b c d
theorem e'04{A B C D E:Prop}{g:Prop}(h:A/\B/\C/\D/\E)(k:A->B->C->D->E->g):g:=by
 obtain⟨a,b,c,d,e⟩:=h
 exact k a b c d e
theorem e'10.{u0}{α:Sort u0}{A:α->Prop}{g:Prop}(h:∃x,A x)(k:∀x,A x->g):g:=by
 obtain⟨x,a⟩:=h
 exact k x a
theorem e'11.{u0}{α:Sort u0}{A B:α->Prop}{g:Prop}(h:∃x,A x/\B x)(k:∀x,A x->B x->g):g:=by
 obtain⟨x,a,b⟩:=h
 exact k x a b
theorem e'12.{u0}{α:Sort u0}{A B C:α->Prop}{g:Prop}(h:∃x,A x/\B x/\C x)(k:∀x,A x->B x->C x->g):g:=by
 obtain⟨x,a,b,c⟩:=h
 exact k x a b c
theorem e'13.{u0}{α:Sort u0}{A B C D:α->Prop}{g:Prop}(h:∃x,A x/\B x/\C x/\D x)(k:∀x,A x->B x->C x->D x->g):g:=by
 obtain⟨x,a,b,c,d⟩:=h
 exact k x a b c d
theorem e'14.{u0}{α:Sort u0}{A B C D E:α->Prop}{g:Prop}(h:∃x,A x/\B x/\C x/\D x/\E x)(k:∀x,A x->B x->C x->D x->E x->g):g:=by
 obtain⟨x,a,b,c,d,e⟩:=h
 exact k x a b c d e
theorem e'20.{u0,u1}{α:Sort u0}{β:Sort u1}{A:α->β->Prop}{g:Prop}(h:∃x y,A x y)(k:∀x y,A x y->g):g:=by
 obtain⟨x,y,a⟩:=h
 exact k x y a
theorem e'21.{u0,u1}{α:Sort u0}{β:Sort u1}{A B:α->β->Prop}{g:Prop}(h:∃x y,A x y/\B x y)(k:∀x y,A x y->B x y->g):g:=by
 obtain⟨x,y,a,b⟩:=h
 exact k x y a b
theorem e'22.{u0,u1}{α:Sort u0}{β:Sort u1}{A B C:α->β->Prop}{g:Prop}(h:∃x y,A x y/\B x y/\C x y)(k:∀x y,A x y->B x y->C x y->g):g:=by
 obtain⟨x,y,a,b,c⟩:=h
 exact k x y a b c
theorem e'23.{u0,u1}{α:Sort u0}{β:Sort u1}{A B C D:α->β->Prop}{g:Prop}(h:∃x y,A x y/\B x y/\C x y/\D x y)(k:∀x y,A x y->B x y->C x y->D x y->g):g:=by
 obtain⟨x,y,a,b,c,d⟩:=h
 exact k x y a b c d
theorem e'24.{u0,u1}{α:Sort u0}{β:Sort u1}{A B C D E:α->β->Prop}{g:Prop}(h:∃x y,A x y/\B x y/\C x y/\D x y/\E x y)(k:∀x y,A x y->B x y->C x y->D x y->E x y->g):g:=by
 obtain⟨x,y,a,b,c,d,e⟩:=h
 exact k x y a b c d e
theorem e'30.{u0,u1,u2}{α:Sort u0}{β:Sort u1}{γ:Sort u2}{A:α->β->γ->Prop}{g:Prop}(h:∃x y z,A x y z)(k:∀x y z,A x y z->g):g:=by
 obtain⟨x,y,z,a⟩:=h
 exact k x y z a
theorem e'31.{u0,u1,u2}{α:Sort u0}{β:Sort u1}{γ:Sort u2}{A B:α->β->γ->Prop}{g:Prop}(h:∃x y z,A x y z/\B x y z)(k:∀x y z,A x y z->B x y z->g):g:=by
 obtain⟨x,y,z,a,b⟩:=h
 exact k x y z a b
theorem e'32.{u0,u1,u2}{α:Sort u0}{β:Sort u1}{γ:Sort u2}{A B C:α->β->γ->Prop}{g:Prop}(h:∃x y z,A x y z/\B x y z/\C x y z)(k:∀x y z,A x y z->B x y z->C x y z->g):g:=by
 obtain⟨x,y,z,a,b,c⟩:=h
 exact k x y z a b c
theorem e'33.{u0,u1,u2}{α:Sort u0}{β:Sort u1}{γ:Sort u2}{A B C D:α->β->γ->Prop}{g:Prop}(h:∃x y z,A x y z/\B x y z/\C x y z/\D x y z)(k:∀x y z,A x y z->B x y z->C x y z->D x y z->g):g:=by
 obtain⟨x,y,z,a,b,c,d⟩:=h
 exact k x y z a b c d
theorem e'40.{u0,u1,u2,u3}{α:Sort u0}{β:Sort u1}{γ:Sort u2}{δ:Sort u3}{A:α->β->γ->δ->Prop}{g:Prop}(h:∃x y z u,A x y z u)(k:∀x y z u,A x y z u->g):g:=by
 obtain⟨x,y,z,u,a⟩:=h
 exact k x y z u a
theorem e'41.{u0,u1,u2,u3}{α:Sort u0}{β:Sort u1}{γ:Sort u2}{δ:Sort u3}{A B:α->β->γ->δ->Prop}{g:Prop}(h:∃x y z u,A x y z u/\B x y z u)(k:∀x y z u,A x y z u->B x y z u->g):g:=by
 obtain⟨x,y,z,u,a,b⟩:=h
 exact k x y z u a b
theorem e'42.{u0,u1,u2,u3}{α:Sort u0}{β:Sort u1}{γ:Sort u2}{δ:Sort u3}{A B C:α->β->γ->δ->Prop}{g:Prop}(h:∃x y z u,A x y z u/\B x y z u/\C x y z u)(k:∀x y z u,A x y z u->B x y z u->C x y z u->g):g:=by
 obtain⟨x,y,z,u,a,b,c⟩:=h
 exact k x y z u a b c
abbrev Sξ:=Lean.Syntax
def ξC(k:String):String:="Lean.Parser.".intercalate (k.splitOn "^")
def ξn(k:String)(a:List Sξ):Sξ:=.node .none (((ξC k).splitOn ".").foldl .str .anonymous) a.toArray
def ξc(a:List Sξ):Sξ:=ξn "null" ((a.flatMap λx=>[.atom .none ",",x]).drop 1)
def ξs(q s:List Sξ)(t:String):List Sξ:=match t.toList with
|[]=>s
|c::u=>let v:=String.ofList u
let m:=(u.headD c).toNat-48
if c=='%'then ξn (.ofList u.tail) (s.take m).reverse::s.drop m else(if c=='"'then .atom .none v else if c=='$'then q.getD (v.toNat?.getD 0) .missing else if c=='\''then Lean.Syntax.mkCharLit (u.headD c)else if c.isDigit then Lean.Syntax.mkNumLit t else Lean.mkIdent t.toName)::s
def ξr(q:List Sξ)(d:String):List Sξ:=(d.splitOn " ").foldl (ξs q) []
def ξq(q s:List Sξ)(t:String):List Sξ:=match t.toList with
|[]=>s
|c::v=>let i:="@^[\\=~.".toList.idxOf c
if i==7 then ξs q s t else let u:=String.ofList v
let n:=u.toNat?.getD (if u==""then 1 else 0)
let a:=(s.take n).reverse
ξr (ξn "null" a::ξc a::s.getD n .missing::s) (u.intercalate ((("$2 $0 %2^Term.app;\"⟨ $1 \"⟩ %3^Term.anonymousCtor;\"[ $1 \"] %3term[_];\"fun U %1null %0null \"=> $3 %4^Term.basicFun %2^Term.fun;\"( U \":= $3 \") %5^Term.namedArgument;$4 \"U $3 %3term_U_;\". U %2^Term.dotIdent".splitOn ";").getD i "").splitOn "U"))++s.drop (n+("1001120".toList.getD i c).toNat-48)
def ξp(q:List Sξ)(d:String):Sξ:=match ((d.splitOn " ").foldl (ξq q) []).reverse with|[x]=>x|x::y=>ξn "^Term.app" [x,ξn "null" y]|_=>.missing
def ξk(r:Sξ):Lean.MacroM Sξ:=if r.isMissing then Lean.Macro.throwUnsupported else return r
def ξi(k:String)(x:Sξ):Bool:=x.getKind.toString==ξC k
def ξw(p:Sξ):Sξ:=if ξi "^Tactic.rcasesPatMed" p then p else ξp [p] "$0 %1null %1^Tactic.rcasesPatMed"
def ξt(a:List Sξ):Sξ:=ξp [ξc a] "\"⟨ $0 \"⟩ %3^Tactic.rcasesPat.tuple"
def ξl(p:Sξ):Sξ:=ξp [ξw p] "$0 %0null %2^Tactic.rcasesPatLo"
def ξh(x:Sξ):Sξ:=let a:=x[0]
let b:=x[1]
let i:=["^Term.hole","^Term.explicit","«term_||_»","^Term.tuple"].findIdx (ξi · x)
if i<2 then ξp [a,b] ("$0 %1^Tactic.rcasesPat.ignore;$0 $1 %2^Tactic.rcasesPat.explicit".splitOn ";"|>.getD i "")else if i==2 then ξn "^Tactic.rcasesPatMed" [ξn "null" ((ξw a)[0].getArgs.toList++[.atom .none "|",x[2]])]else
if i==3&&0<b.getNumArgs then ξt ((b[0]::b[2].getSepArgs.toList).map ξl)else if i==3||x.isIdent then ξp [if i==3 then ξp [] "rfl"else x] "$0 %1^Tactic.rcasesPat.one"else x
def ξb(f:Sξ->Sξ)(s:Sξ):Sξ:=s.rewriteBottomUp f
def ξv(s:Sξ):Sξ:=ξw (ξb ξh s)
def ξd(p e:Sξ):Sξ:=ξp [p,e] "\"have %0null %1^Term.letConfig $0 %1^Term.letId %0null %0null \":= $1 %5^Term.letIdDecl %1^Term.letDecl %3^Tactic.tacticHave__"
def ξo(e:Sξ):Sξ:=ξp [e] "\"clear $0 %1null %2^Tactic.clear"
theorem ξT{G:Prop}(h:∀g:Prop,(G->g)->g):G:=h G λx=>x
def ξO(n:Nat)(o:Sξ):Sξ:=if n<4 then o else ξp [o] "\"first \"| \"( \"refine ξT \"fun gξ kξ %2null %0null \"=> \"? \"_ %2^Term.syntheticHole %4^Term.basicFun %2^Term.fun %1null %2^Term.app %2^Tactic.refine \"; $0 \"; \"all_goals \"( \"refine kξ \"? \"_ %2^Term.syntheticHole %1null %2^Term.app %2^Tactic.refine \"; \"clear kξ gξ %2null %2^Tactic.clear %3null %1^Tactic.tacticSeq1Indented %1^Tactic.tacticSeq \") %3^Tactic.paren %1null %1^Tactic.tacticSeq1Indented %1^Tactic.tacticSeq %2^Tactic.allGoals %5null %1^Tactic.tacticSeq1Indented %1^Tactic.tacticSeq \") %3^Tactic.paren %1null %1^Tactic.tacticSeq1Indented %1^Tactic.tacticSeq %2group \"| $0 %1null %1^Tactic.tacticSeq1Indented %1^Tactic.tacticSeq %2group %2null %2^Tactic.first"
def ξu(p e:Sξ):Sξ:=ξO (((ξw p).reprint.getD "").splitOn ",").length (ξp [ξw p,e] "\"obtain $0 %1null %0null \":= $1 %1null %2null %4^Tactic.obtain")
def ξj(t:Sξ)(n:String):Sξ:=ξp [t,.atom .none n] "$0 \". $1 %1fieldIdx %3^Term.proj"
def ξx(x:Sξ):Bool:=ξi "^Tactic.rcasesPat.explicit" x
def ξy:List Sξ->Sξ->List Sξ×List Sξ
|[],_=>([],[])
|x::r,t=>let x:=if ξx x then x[1]else x
let u:=if r.isEmpty then t else ξj t "1"
let z:=ξy r (ξj t "2")
if ξi "^Tactic.rcasesPat.one" x&&!x[0].getId.toString=="rfl"then (ξd x[0] u::z.1,z.2)else (z.1,ξu x u::z.2)
def ξz(s:Sξ):Sξ:=let q:=s[1][0][0][0]
let e:=s[3][1][0]
let a:=q[1].getSepArgs.toList
let b:=a.map (·[0][0][0])
let i:=b.findIdx ξx
let h:=ξp [] "hξ"
if i==a.length||!ξi "^Tactic.rcasesPat.tuple" q then .missing else let r:=ξy (b.drop i) h
ξp [ξn "null" (((if i==0 then ξd h e::if e.isIdent then [ξo e]else []else [ξu (ξt (a.take i++[ξl (ξp [h] "$0 %1^Tactic.rcasesPat.one")])) e])++r.1++r.2++[ξo h]).flatMap λx=>[x,ξn "null" []])] "\"( $0 %1^Tactic.tacticSeq1Indented %1^Tactic.tacticSeq \") %3^Tactic.paren"
def ξa(a:Sξ):Sξ:=ξp [a] "\"⟨ $0 \"⟩ %3^Term.anonymousCtor"
def ξe(x:Sξ):Bool:=ξi "^Term.tuple" x
def ξf(s:Sξ):Sξ:=let b:=s[1]
let c:=b[2].getArgs.toList
if b.getNumArgs==0 then ξp [] "rfl"else if c.length%2==0 then ξa (ξn "null" (b[0]::.atom .none ","::c))else .missing
def ξg(s:Sξ):Sξ:=let d:=s[2][0]
if ξe d[0]||ξi "«term_||_»" d[0] then ξu (ξv d[0]) d[4]else .missing
def ξm(s:Sξ):Sξ:=let a:=s[1].getArgs.toList
if a.any ξe then ξp [ξn "null" (a.map λx=>ξp [(ξv x)[0][0]] "$0 %1^Tactic.rintroPat.one")] "\"rintro $0 %0null %3^Tactic.rintro"else .missing
def ξR(a:Sξ):Sξ:=a.setArg 1 (a[1].setArg 1 (ξp [ξn "null" (ξp [] "\"( \"refine kξ \"? \"_ %2^Term.syntheticHole %1null %2^Term.app %2^Tactic.refine \"; \"clear kξ gξ %2null %2^Tactic.clear %3null %1^Tactic.tacticSeq1Indented %1^Tactic.tacticSeq \") %3^Tactic.paren"::ξn "null" []::a[1][1][0][0].getArgs.toList)] "$0 %1^Tactic.tacticSeq1Indented %1^Tactic.tacticSeq"))
def ξQ(s:Sξ):Sξ:=let t:=s[1][0][1]
let l:=s[3][0][2].getArgs.toList
if t.isIdent&&s[3].getNumArgs==0&&s[2].getNumArgs==0&&s[1].getNumArgs==1&&s[1][0][0].getNumArgs==0 then ξp [t] "\"first \"| \"with_reducible \"exact xsn $0 %1null %2^Term.app %2^Tactic.exact %1null %1^Tactic.tacticSeq1Indented %1^Tactic.tacticSeq %2^Tactic.withReducible %1null %1^Tactic.tacticSeq1Indented %1^Tactic.tacticSeq %2group \"| \"with_reducible \"exact xns $0 %1null %2^Term.app %2^Tactic.exact %1null %1^Tactic.tacticSeq1Indented %1^Tactic.tacticSeq %2^Tactic.withReducible %1null %1^Tactic.tacticSeq1Indented %1^Tactic.tacticSeq %2group \"| \"with_reducible \"exact xtf $0 %1null %2^Term.app %2^Tactic.exact %1null %1^Tactic.tacticSeq1Indented %1^Tactic.tacticSeq %2^Tactic.withReducible %1null %1^Tactic.tacticSeq1Indented %1^Tactic.tacticSeq %2group \"| \"with_reducible \"exact xft $0 %1null %2^Term.app %2^Tactic.exact %1null %1^Tactic.tacticSeq1Indented %1^Tactic.tacticSeq %2^Tactic.withReducible %1null %1^Tactic.tacticSeq1Indented %1^Tactic.tacticSeq %2group \"| \"( \"refine xor $0 \"fun kξ %1null %0null \"=> \"? \"_ %2^Term.syntheticHole %4^Term.basicFun %2^Term.fun %2null %2^Term.app %2^Tactic.refine \"; \"clear $0 %1null %2^Tactic.clear \"; \"subst kξ %1null %2^Tactic.subst %5null %1^Tactic.tacticSeq1Indented %1^Tactic.tacticSeq \") %3^Tactic.paren %1null %1^Tactic.tacticSeq1Indented %1^Tactic.tacticSeq %2group \"| \"cases %0null \"( ✝ %1hygieneInfo %2^Term.hygienicLParen $0 \") %3^Term.paren %2^Tactic.elimTarget %1null %0null %0null %4^Tactic.cases %1null %1^Tactic.tacticSeq1Indented %1^Tactic.tacticSeq %2group %6null %2^Tactic.first"else if !t.isIdent||l.length<3||s[1].getNumArgs>1||l.any (!ξi "^Tactic.tacticSeq" ·[1][1])then .missing else let f:=λl=>(s.setArg 1 (ξn "null" [s[1][0].setArg 1 (ξp [t] "\"( ✝ %1hygieneInfo %2^Term.hygienicLParen $0 \") %3^Term.paren")])).setArg 3 (ξn "null" [s[3][0].setArg 2 (ξn "null" l)])
ξp [f (l.map ξR),f l] "\"first \"| \"( \"refine ξT \"fun gξ kξ %2null %0null \"=> \"? \"_ %2^Term.syntheticHole %4^Term.basicFun %2^Term.fun %1null %2^Term.app %2^Tactic.refine \"; $0 %3null %1^Tactic.tacticSeq1Indented %1^Tactic.tacticSeq \") %3^Tactic.paren %1null %1^Tactic.tacticSeq1Indented %1^Tactic.tacticSeq %2group \"| $1 %1null %1^Tactic.tacticSeq1Indented %1^Tactic.tacticSeq %2group %2null %2^Tactic.first"
def ξW(s:Sξ):Sξ:=if s[3].getNumArgs>0||(s.find? (·.isOfKind `Lean.Parser.Term.syntheticHole)).isSome then .missing else ξp [ξn "null" ((s[2][1].getArgs.toList.filter (·.getNumArgs>0)).foldr (λr l=>ξp [r[1],r] (if r[0].getNumArgs==0 then "\"first \"| \"refine rwE $0 \"? \"_ %2^Term.syntheticHole %2null %2^Term.app %2^Tactic.refine %1null %1^Tactic.tacticSeq1Indented %1^Tactic.tacticSeq %2group \"| \"rewrite %0null %1^Tactic.optConfig \"[ $1 %1null \"] %3^Tactic.rwRuleSeq %0null %4^Tactic.rewriteSeq %1null %1^Tactic.tacticSeq1Indented %1^Tactic.tacticSeq %2group %2null %2^Tactic.first"else"\"first \"| \"refine rwE \"( ✝ %1hygieneInfo %2^Term.hygienicLParen Eq.symm $0 %1null %2^Term.app \") %3^Term.paren \"? \"_ %2^Term.syntheticHole %2null %2^Term.app %2^Tactic.refine %1null %1^Tactic.tacticSeq1Indented %1^Tactic.tacticSeq %2group \"| \"rewrite %0null %1^Tactic.optConfig \"[ $1 %1null \"] %3^Tactic.rwRuleSeq %0null %4^Tactic.rewriteSeq %1null %1^Tactic.tacticSeq1Indented %1^Tactic.tacticSeq %2group %2null %2^Tactic.first")::.atom .none ";"::l) [ξp [] "\"with_reducible \"try \"rfl %1^Tactic.tacticRfl %1null %1^Tactic.tacticSeq1Indented %1^Tactic.tacticSeq %2^Tactic.tacticTry_ %1null %1^Tactic.tacticSeq1Indented %1^Tactic.tacticSeq %2^Tactic.withReducible"])] "\"( $0 %1^Tactic.tacticSeq1Indented %1^Tactic.tacticSeq \") %3^Tactic.paren"
def ξI(a:List Sξ):Sξ:=ξp [ξn "null" (a.flatMap λx=>[x,ξn "null" []])] "\"( $0 %1^Tactic.tacticSeq1Indented %1^Tactic.tacticSeq \") %3^Tactic.paren"
def ξJ(a:List Sξ):Sξ:=ξp [ξn "null" (a.map λx=>ξp [x] "\"| $0 %1null %1^Tactic.tacticSeq1Indented %1^Tactic.tacticSeq %2group")] "\"first $0 %2^Tactic.first"
def ξK(x:Sξ)(k:Nat):Sξ×List Sξ:=let p:=x[0][0][0]
if ξi "^Tactic.rcasesPat.one" p&&p[0].getId.toString != "rfl"then (p[0],[])else if ξi "^Tactic.rcasesPat.ignore" p then (Lean.mkIdent `hξ_,[])else let h:=Lean.mkIdent (.mkSimple s!"hξ{k}")
(h,[ξp [x[0],h] "\"obtain $0 %1null %0null \":= $1 %1null %2null %4^Tactic.obtain"])
def ξL(s:Sξ):Sξ:=let q:=s[1][0][0][0]
let e:=s[3][1][0]
let c:=q[1].getSepArgs.toList
let n:=c.length
if n<2||s[2].getNumArgs>0||!ξi "^Tactic.rcasesPat.tuple" q||c.any (·[1].getNumArgs>0)||(s[1].find? λx=>ξi "^Tactic.rcasesPatMed" x&&x[0].getNumArgs>1).isSome then .missing else
let m:=min n (c.findIdx (·[0][0][0][0].getId.toString=="rfl")+2)
let f:=λT=>let z:=((c.take T)++[if T+1==n then c.getD T .missing else ξl (ξt (c.drop T))]).zipIdx.map λx=>ξK x.1 x.2
ξI (ξJ ((List.range (T+1)).map λj=>ξp [Lean.mkIdent (.mkSimple s!"e'{T-j}{j}"),e] "\"refine $0 $1 \"? \"_ %2^Term.syntheticHole %2null %2^Term.app %2^Tactic.refine")::(if e.isIdent then [ξo e]else [])++ξp [ξn "null" (z.map (·.1))] "\"intro $0 %2^Tactic.intro"::z.flatMap (·.2))
ξJ ((List.range (m-1)).reverse.map (λT=>f (T+1))++[ξp [e,q] "\"rcases %0null $0 %2^Tactic.elimTarget %1null \"with $1 %1null %1^Tactic.rcasesPatMed %0null %2^Tactic.rcasesPatLo %2null %3^Tactic.rcases"])
section
local macro_rules(kind:=Lean.Parser.Command.check)|s=>let p:=`hdξ;return ξn "null" (([`PySem.Challenge.pw_layersplit_k41_desk_rows_refused,`PySem.Challenge.rw_layersplit_k41_desk_rows_refused]++((List.range 1402).filterMap (fun i=>if Nat.testBit 0x3ffffffffffffffffffffffffffffffffffffffff3ffffffffffffffffffffffffffff3ffffffffffff8fffffffffffffffffffffffffffffffffffffffffffffffffffffffffffffffffffffffffffffffffffffffffffffffffffffffffffffffffffffffffffffffffffffffffffffffffffffffffffffffffe7fffffffffffffffffffffffffffffffffffffffffffffffffffffffffffffffffffffffffffffffffffffffffffe780000000000 i then some s!"o_{i}" else none)++(s[1].isStrLit?.getD "").splitOn " ").map (p.str ·)).map λx=>ξp [Lean.mkIdent (.str `PySem.W.Fast s!"tw{x.hash}")] "%0null %0null %0null %0null %0null %0null %0null %7^Command.declModifiers \"theorem $0 %0null %2^Command.declId %0null \": True %2^Term.typeSpec %2^Command.declSig \":= trivial %0null %0null %2^Termination.suffix %0null %4^Command.declValSimple %4^Command.theorem %2^Command.declaration")
#check "tree_983 tree_1401 tree_581 tree_1121 sts_256 sts_690 sts_643 sts_371 heap_1402 sts_510 sts_1240 heap_46 tree_47 sts_226 tree_418 sts_136 tree_135 sts_49 tree_1378 tree_666 sts_151 tree_509 view_39 sts_1298 sts_106 tree_105 sts_1379 tree_1297 sts_121 sts_76 tree_180 sts_211 sts_297 tree_150 sts_1124 heap_39 tree_370 tree_1237 sts_421 sts_667 sts_1071 sts_181 env_41 tree_901 sts_166 tree_296 tree_1067 tree_642 tree_165 tree_225 tree_689 sts_582 sts_91 tree_90 sts_241 tree_1204 tree_210 tree_195 tree_255 sts_196 tree_75 tree_120 tree_240 sts_1205"
open PySem PySem.W PyProof.Rows
set_option maxHeartbeats 0 in
open_top hdξ for PySem.Challenge.rw_layersplit_k41_desk_rows_refused
end
def ξH(s:Sξ):Nat:=match s with
|.ident _ _ (.str .anonymous v) _=>if v.utf8ByteSize==2&&191<v.front.toNat then v.front.toNat-192 else 99
|_=>99
def ξF(a:Array Sξ)(b:Sξ):Sξ:=ξb (λs=>a.getD (ξH s) s) b
abbrev ξM:=Std.HashMap Lean.Name (Nat×Sξ)
def ξG(m:ξM)(s:Sξ):Sξ:=let g:=λn a (k:Nat)=>match m[Lean.Syntax.getId n]?with
|some (j,b)=>if j==k then ξF (Array.extract a 1 a.size) b else s
|_=>s
let k:=s.getKind
if k==`choice then(s.getArgs.find? (·.getKind != `Lean.Parser.Term.structInst)).getD s else if s.isIdent then g s #[] 0 else if k==`Lean.Parser.Term.app then g s[0] (#[s]++s[1].getArgs.map λx=>if x.getKind==`Lean.Parser.Term.paren then x[1]else x) 1 else if k==`«term{_}» then let a:=s[1].getSepArgs
g (a.getD 0 s) a 1 else if k==`Lean.Parser.Tactic.rwSeq then let a:=s[2][1].getSepArgs.map (·[1])
g (a.getD 0 s) a 2 else s
def ξA(s:Sξ):Sξ:=let a:=s[1].getArgs.toList
if a.length<3 then .missing else let e:=((("ØÙÚÛÜÝÞßàáâãäåæçèéêëìíîïðñòóôõöøùúûüýþÿĀāĂăĄąĆćĈĉĊċČčĎďĐđĒēĔĕĖėĘęĚěĜĝĞğĠġĢģĤĥĦħĨĩĪīĬĭĮįİıĲĳĴĵĶķĸĹĺĻļĽľĿŀŁłŃńŅņŇňŊŋŌōŎŏŐőŒœŔŕŖŗŘřŚśŜŝŞşŠšŢţŤťŦŧŨũŪūŬŭŮůŰűŲųŴŵŶŷŸŹźŻżŽžſεζηθμνξοπρςτυχψωϊϋόύώϏϐϑϒϓϔϕϖϗϘϙϚϛϜϝϞϟϠϡϢϣϤϥϦϧϨϩϪϫϬϭϮϯϰϱϲϳϴϵϷϸϹϺϻΑΒΔΕΖΗΘΙΚΛΜΝΞΟΡΤΥΧΨΩ".toList.map (String.ofList [·]))++(List.range 33).map (λi=>(("AaZBZCZDZEZFZGZHZIZJZKZLZMZNZOZPZQZRZTZUZVZWZXZYZZZ1Z2Z4Z5Z7Z8Z9Z_".drop (2*i)).take 2).toString)++(List.range 2352).map (λi=>String.ofList [.ofNat (256+i/62),("0123456789abcdefghijklmnopqrstuvwxyzABCDEFGHIJKLMNOPQRSTUVWXYZ".toList.getD (i%62) 'a')])).zip (a.headD s)[1][1].getSepArgs.toList).map λ(n,b)=>(Lean.Name.mkSimple n,if ξi "^Term.paren" b&&ξi "^Term.byTactic" b[1] then(2,ξn "null" ((b[1][1][0][0].getArgs.toList.zipIdx.filter (·.2%2==0)).map (·.1)))else(if(b.find? (ξH ·<23)).isSome then 1 else 0,b))
let m:ξM:=.ofList ((List.range 5).foldl (λe _=>let m:ξM:=.ofList e;e.map λ(n,k,b)=>(n,k,ξb (ξG m) b)) e)
ξn "null" (a.tail.map λc=>if ξi "^Command.omit" c then ξn "^Command.end" [.atom .none "end",ξn "null" (let n:=c[1][0]
if n.getId.toString=="e"then[]else[n,ξn "null" []])]else ξb (λx=>(ξG m x).setInfo .none) c)
local macro_rules(kind:=Lean.Parser.Tactic.show)|s=>ξk (ξp [s[1]] "\"refine $0 %2^Tactic.refine")
local macro_rules(kind:=«term!_»)|s=>ξk (ξp [s[1]] "U rfl $0")
local macro_rules(kind:=«term{_}»)|s=>ξk (ξa s[1])
local macro_rules(kind:=Lean.Parser.Tactic.obtain)|s=>ξk (let r:=ξz s
if r.isMissing then ξL s else r)
local macro_rules(kind:=Lean.Parser.Term.tuple)|s=>ξk (ξf s)
local macro_rules(kind:=Lean.Parser.Tactic.tacticHave__)|s=>ξk (ξg s)
local macro_rules(kind:=Lean.Parser.Tactic.intro)|s=>ξk (ξm s)
local macro_rules(kind:=Lean.Parser.Tactic.lia)|s=>ξk (if s[1][0].getNumArgs>0 then .missing else ξp [] "\"first \"| \"with_reducible \"assumption %1^Tactic.assumption %1null %1^Tactic.tacticSeq1Indented %1^Tactic.tacticSeq %2^Tactic.withReducible %1null %1^Tactic.tacticSeq1Indented %1^Tactic.tacticSeq %2group \"| \"exact Nat.le_of_lt \"( ✝ %1hygieneInfo %2^Term.hygienicLParen \"by \"with_reducible \"assumption %1^Tactic.assumption %1null %1^Tactic.tacticSeq1Indented %1^Tactic.tacticSeq %2^Tactic.withReducible %1null %1^Tactic.tacticSeq1Indented %1^Tactic.tacticSeq %2^Term.byTactic \") %3^Term.paren %1null %2^Term.app %2^Tactic.exact %1null %1^Tactic.tacticSeq1Indented %1^Tactic.tacticSeq %2group \"| \"lia \"- abstractProof %2^Tactic.negConfigItem %1^Tactic.configItem %1null %1^Tactic.optConfig %2^Tactic.lia %1null %1^Tactic.tacticSeq1Indented %1^Tactic.tacticSeq %2group %3null %2^Tactic.first")
local macro_rules(kind:=Lean.Parser.Term.nomatch)|s=>ξk (if s[1].getNumArgs>1 then .missing else ξp [s[1][0]] "\"by \"first \"| \"( \"cases %0null $0 %2^Tactic.elimTarget %1null %0null %0null %4^Tactic.cases \"; \"done %1^Tactic.done %3null %1^Tactic.tacticSeq1Indented %1^Tactic.tacticSeq \") %3^Tactic.paren %1null %1^Tactic.tacticSeq1Indented %1^Tactic.tacticSeq %2group \"| \"exact \"nomatch $0 \", $0 %3null %2^Term.nomatch %2^Tactic.exact %1null %1^Tactic.tacticSeq1Indented %1^Tactic.tacticSeq %2group %2null %2^Tactic.first %1null %1^Tactic.tacticSeq1Indented %1^Tactic.tacticSeq %2^Term.byTactic")
local macro_rules(kind:=Lean.Parser.Tactic.cases)|s=>ξk (ξQ s)
local macro_rules(kind:=Lean.Parser.Tactic.rwSeq)|s=>ξk (ξW s)
local macro_rules(kind:=Lean.Parser.Command.mutual)|s=>ξk (ξA s)
mutual
#check[by lia,some À,ĉ V,Ù o,by simp,by decide+kernel,by rw[ó,À,Á],by decide,.inl À,.str À,.ref À,.int À,ğz K mg a,aZ.of À,.inr À,(by show À;show Á),(À).trans Á,{À,(),Á,Â},∀b o,À->Á,(À:Int),À[i]?,{Ù,â À},À=true,x.1,Ù u,V.int À,{Ù,ø À},(by rw[À];show Á),â a,["thing"],(by show À;show Á),.lst À,Ù x,b≠À,ë 0,h.1,(by rw[À,Á];show Â),ao.tseq À Á,λz=>À Á,(by show ť À Á),(by cases À;show Á),by rw[π,À,Á],! ?_,{î,À Á},{(),À},y.1,À=false,(by show æ À),List À,decide À,ĉ Str,aD À ĕ T.bC L2.aM Á,č5 0,{ë,ş À},if À=Á then(Â)else Ã,Paired À Á Â,č4 _,by rw[À,Á],.cons À Á,Ù v,by rfl,À->Ĵ Á,À (υ Á),Str.ofString À,p.1,ď À true Á Â,(À Á).length,Ĵ Shared,{Ù,ň À},ğx V,Āh " " À,à (),æ g,(by show À;rw[Á]),ε b,show(À)by decide,{ą,! À},â s.heap.objs.size,á x,show(À=Á)from Â,À<=sizeLine,λ_=>(),ęG i,Ù l,(by show À;show Á),ő .dK À,á z,ĀZ ąP,ã z,.bl À,ŭ Value,À->Prop,V.str À,hQ.mp À,{î,À Á Â},œ _,(by ·rw[ó,À,Á]),λ_=>?_,(À++Á).length,by rw[Š,À],ąL 1,â t,Bool.not À,ø [],bj.of À,â p,Ł af,ğw aJ À Á Â,Ąx À ß,q.2,List.mem_singleton.mp À,.tup À,Ù .local,â C,ğH aJ À Á Â,(À Á Â).length,(by rw[ç,À,Á];show Â),Đz À Q,ë i,{Ù,À Á},(À).length<=Á,{À,()},h.2,x.2,Ŕ.1,Ù c,(by ·rw[ţ,À]),Paired.length À,Value.ref À,(À Á).map,by rw[ý,À,Á,Â],[â À],À V.str,(À:Nat),(by have:=À;lia),{Ĕf,ň À,Á,Â},ć5 Z.G À,(by show à À),ċ2 bD,absurd À Á,(by rw[ç,À,Á];rw[ç,Â,Ã]),(by subst e;show À),ĀZ Int,æ x,ĉ Fo,Ù ob,À<=1000,Option À,((λ_ z=>nomatch z)),.type À,q_.mp À,Β Ϣ X.A À Á X.xe,ĀP St,(by ·rw[ó,À,Á]),ã i,ZU b,ο ns.map,(ąO À).1,î X.calm,by rw[À],Ċw _,á t.nm,(by change À;rw[Á]),{Z_,À Á},â l,[ł],s.heap.get? À,ğt w,l.length<=À,{æ,æ À},{ē,À,ϋ Á},Ĕa À bL Á,Nat->À,À V.int,(by rw[<-À];show Á),(by by_cases e:À=Á),ĉ Env,Ε Q À Á,.of À,Ăa VK,[á À],Ă6 a,ì b,ē À .nil,Đd cH.nm,show(À)by lia,(À:Str),{Ă9,Ă9 À Á,Â},č4 H,(by show À;rw[ó,Á,Â]),Ù t,bootBuiltins À,Ę " ",č5 1,∀H',À->Á,À Á λ_=>Â,pure À,ĉ i7,ĠK ß,(by ·rw[Ĉ,À]),λh=>?_,I.tuple À,(À%Á).toNat,a_ (m:=À) Á,.plain À Á,ĀM ζ À,Ĕ9 X.prog X.w,(Ę À).length,ë M.p,č5 2,Ţ .hh,āF .ln,iE outer,ë n,λ_ _=>(),V.ref À,by exact À,I.ok.hd hc,b.map À,(by rw[ç,À,Á];show Â),ĉ ċ,(À,â Á),ċ2 wn,ĀG z À,Ă6 b,Ù y,ĉ d,ë 1,ĄB t,(À Á Â).map,Ċ9 Ø,.builtin À,Ω À Á Â Ã Ä s,Ĕg dS.nm,À (â Á) Â,á "word",Ù .cell,.int À Á,(by obtain rfl:=À Á),ŭ Int,œ (),ĉ Th,ča À cl C s₀ H₀ ex,{î,À==Á},Z2 À e,(by rw[ā,d,À]),s.heap.push À,Āi starEach À,{s with heap:=h'},À s.heap.objs.size,wpAny À Á Â Ã Ä Å,À Á Â Ã Ä Å Æ .nil Ç È,á "either",á "both",Đf À Á Â Ã Ä aS Å,Str.join À Á,I.list À,À I.hok Á,y.2,{Ĕf,ø À,Á,Â},M.setT À Á,ě1 A À Á Â Ã,ĠS i,â b,st.2,ĉ b,ęT b,ĜN t À,ae (ČC À Á) Â,List.range À,h'.get? À,{#[c]},á "not",by rw[čc,À],{Ù,Ù À},ń H À Á,{ò,ο À},Đl À _ Á,å af,(by show .nil),Ś a,ë j,á n,Ş (À).map,Ĕb "list" À,À Á {s with heap:=Â},λ_ _=>False,if À<Á then(Â)else Ã,À (·.1),["rule"],ĈF .bl,ì X.N,Ąz Nat,à p,À s.heap Á Â Ã Ä,iF.of À,aD À ĕ T.bA L2.aX Á,kv.1,[ô],{ğB,À,ġC Á Â,Ã},Ĕd K À Á,Txt.join À Á,À Á X.env,(by have:=À;rw[Á]at this),(À Á Â).isSome,á "trial",À=b.length,b.length<=À,["self"],(ŕ).toNat,Ŀ Ąt,āA À dx Á,À->Bool,À .non Á,∀x c,À->Á,â d,Ĳ b,Ġk x,{ϖ,ao H H',ćc Q},ŕ.2,Ŕ.2,ņ.2,Ĕc x,ğI j,ZZ l À,Ō H À Á,λz=>ť À Á,ď j À Á Â,eq_of_beq À,(by rw[À]at e;cases Á),ŭ Nat,Ù .free,ăG À Á Q,ir.mp À,(by rw[À]at h;cases Á),À->ăx,by rw[ĂX,À],Ė Str À,iE X.stack,Ě1 i,by rw[À,Á,Â],ŭ V,ĒQ p,Ķ a,Đ À Á l,Ąs Str À,Āi eval À,x.length<=À,À≠X.env.locals,I.hok.fresh À,wpAny_mono À Á Â,(by change À;rw[ó,Á,Â]),compareOp À,(by have(e,()):=À;show Á),Ù true,(by have hi:À:=ŷ Á),ęV k,ęL none,.Call À Á [] Â,č5 3,Ù (À,Á),ĀZ V,{Ċ,À<=Á},æ (),â x,ća _,â f,(À+Á).toNat,đj max,ĉ Pl,Þ b_ À,āF r,ĠZ i,∀b u,À->Á,Č3 x,á g,á l,[ħ],ăR e,Þ À q,Option.map_eq_some_iff.mp À,Txt.split À Á,{Ù,Ċp À Á Â},(by have(t,()):=À;show Á),e.trans À,Ĕq l.nm,{ć,À==sysModules},Z.G À,āF .hh,À Á s.heap Â Ã,ĊT ns,by rw[ā5,À,Á,Â],À (Z:=Z) Á,Value->À,{Ù,ã À},((by intro z;cases z)),ą ?_,∀b H,À->Á,ώ ZV,đF f,(À-Á).toNat,(ćN).G,{ęR,Ć3 d f},ĊH x,(by rw[ų,Ň À,Á]),ĎP À _,čl À _ Á,ò d,ş 1,g.heap.get? b,Ăj r,codeAny À Á Â Ã Ä,Nat.beq n À,List.mem_append.mp À,h.get? À,λe=>?_,(À::Á).length,.add À Á (),Ė Hp À,DecidableEq À,tc (m:=À) (n:=Á) Â Ã Ä Å Æ,λ_ _ q=>q,Ş l.map,False.elim À,λj=>ĀH À Á Â,s1.trans À,l.map À,τ À H',K.lookup À,Ĉv x À,λx=>Ċ À,Ę "=",{ò,Ş À},(Ă5 À).elim,ĉ cJ,IsPair À Á Â Ã,(by rw[À]at q;show Á),W.take i,Ù i,ĉ Tc,Ù Ĕ,á t,X.prog=P,ĠC À Á Â Ã Ä aS Å,ZH.1,À Á Â Ã Ä s.heap Å,[ĵ À],(by have h:À:=h),.seq À Á,st.1,Ġ7 o À Á Â Ã,{D with nx:=À,ct:=Á,bk:=D.nx},s.heap.IsTuple À Á,fb.k (k:=À) Á,by simp[e],á "least",Value.type À,ο l.map,Ş d.map,ĉ Bool,tupleKind À,LawfulBEq À,Paired.at_ À Á Â Ã,À<=l.length,(À Á).symm,á "has",["text"],(by change À;lia),A.deeper À,ĊL .td,[.word],λc H Q=>À Á Â Ã,ĉ Stmt,ŭ Addr,Sum.inr À,ĊL .iu,j.trans À,Đf À Á Â Ã Ä bI Å,Ĕi Int,{ć,À==Á},hQ.mpr À,(by show À;change Á),đg Ϣ À Á X.xe Â,á ln,ò us,{ğN,ĵ hm},á w,Āh z À,Þ À hH,(by rw[Ā,À.1,Ý]),ã n,ĠC À Á Â Ã Ä bI Å,o.cls=À,Ù j,Ù n,ďb _ À Á,{å À,Á},Ù b,ò b,Ąy i,ęO 1,ğQ t,X.env.scope.names.lookup À,Ĵ Hp,č8 À Á Â PySem.F.slot_list_append PySem.F.type_list_append Ã Ä Å,À<sizeLine,{t with clo:=true},(by have h1:=À;have h2:=Á),À<s.heap.objs.size,λ_ _ _=>False,b.names.lookup À,(ë À).toNat,Ĉw À Á Â E,Đg "names",show(Ω À Á Â Ã Ä Å)from Æ,Đg "many",ů "tuple",am (o:=À) Á Â,["things"],ĈF .bool,{Ĉt,À,λ_ _ q=>Á},toString À,ů "set",(false,(ā0 À)),Decidable À,backTo À (Υ Á),(by have()||a:=Ű À),e.tq À,(À Á).toArray,f2.free À,ő .own À,ćb a.c6 À,{Ù,Α À},∀b∈fp,À=none,Ù 1,(by rw[À]at h;show Á),{Ċ,À≠Á},ĉ mG,ăw Ć,Į [],d.map À,(by have e:À:=Ø),ġb P,ġd C,ġp 60,Θ À 0,Þ À af,ĀM Ϣ À,Đ À Á b,.str À Á,ăp À (),č6 x,(by have e:À:=e),ņ.1,ã k,(by rw[ĭ,À,ČV Á Â Ã Ä Å Æ Ç]),ì a,ć1 i,ęU i,(by rw[ρ,ę,À]),{ĉ,À×Á},w.params.followText "set-order",Α "object.__class__",X.s₀.heap.objs.size<=À,Đc À Á Â PySem.F.slot_str_join PySem.F.type_str_join Ã Ä Å,(À T).mono Á,xs.length-À,Array À,λb o e n=>Þ À Á,{Ù,í À},ăz d.length,if À∈Á then(Â)else Ã,Paired.snoc À Á,ā1 10000,(by have(i,hi):=ĀN À),å i.pl,â a.c8,{āF,À Á},â a.bB,â a.cG,((by cases À)),(by rw[À]at e;rw[ā,Á,Â]),λz=>?_,λj=>?_,∀b∈fp,À Á Â Ã Ä,Ċp À dx Á,ğE ćd,āF .dl,λd H Q=>À Á Â Ã,Ĕr bp,AllBare À,{Ù,á À},ćb a.lY À,(by rw[Ģ,À,Á];show Â),λh=>ť À Á,ë m,ā0 o,(by rw[Ā,À,id]),Ġ8 À tk,(by rw[À]at e;show Á),(by cases À;rw[ā,Á,Â]),(by intro _;rfl),{ăL,ň À,Á,Â},∀w∈l,Wd w,â e,Đy (À).imp Á,ăV h2,(by cases Ĩ u À Á),ò [],ąU "arms" ar,foldedSetIterable iter X.env x,À s.heap Á Â,Ąd 0,ĒE Z.ds,(by rw[ŧ,à À]),Þ z À,(by by_cases q:À=Á),Ąg À a,ŕ.1,(by change Β À Á Â Ã Ä),{Υ,e::À},o.data=À,{Ďg,ĂE À Á},(by rw[Ā,(),À]),Ĉj k À,{à,ăq À Á},Ċa rO n s.oc,ğA Q À,Ĥz À .ln Á,Ĥz À .tn Á,{ċB,À,ęi Á},[it],[ľ],ò c,ĵ x,ì d,ì l,Ϙ x,ćf 6,Ě6 k,{ċh,À,Á,true,(),æ Â,Ã,true,(),Ä},s.heap.objs.size+À,["self",À,Á],List.replicate À Á,c_.mp À,Ĕi Str,by simpa using hi,["self",À],{Ĕb,À,ć0 Á},binaryOp À,(À,ϫ Á),by rw[ęI],M.las.length<À,À X.env.scope Á,ϗ .bind À Á,(by show À;dsimp only),(ąN À Á).flatten,ο e.map,Ĕb "tuple" À,envOfC À scope g.heap.objs.size Á cd,{è,è À Á,Â},Đx V.bl,λi j=>ã À,ì M.trs,Value.str À Á,Ċn M.setL À Á,["deed"],(by have()||h:=Ű À),Đy q.imp À,HT.ib À Á Â,(by rw[ç,À,Á];show Â),Đk .bl,Ąz đ4,ĊL .od,Đk pure,čt K.In,{æ,à À},ćb a.gY À,āF .tn,c.trans À,pyIter À,ë (ō rO M.p l.S.oc),(by change À;rw[ý,Á,Â,Ã]),([]:Zt).toArray,â T,ć {Ā4,(ăT À Á).any},{î,Ēi À Á},ĎC i,ğv (ġE ZH) À,ϖ À (ĎO Á H'),â D,ĀH À Á Ĉ6,PySem.W.findIn K ŋ À,Ye.mp À,oD.mp À,Ň z,Ĕp À h',ĂU i_ À,[(ϱ ġ T1)],{ăh,À::Á},Ąh À t,ZH.2,by rw[ēf,À,Á],(by rw[ċN,k]),(by by_cases a:À<Á),(by by_cases h:À=Á),Ϟ À 26,Ĉm À ty Á,λb o e=>À Á Â Ã Ä,Ĕf ŀ À Á,(À).length=Á,h.inj À Á Â Ã Ä Å Æ,ę7 Ăx,ŝ I,ξ V,.hold À Á,À M.las.length,ď À M.las.length Á Â,.fields À,À<=xs.length,by simp[ZS.newL],ů "ValueError",{s with toks:=s.toks+À},{â,À Á},v.trans À,GE (f:=À) (t:=Á) Â,by simp at h,ë ns.length,.pure À,PySem.W.nsIn K À Á,Āt À H',ĊL .lo,Fo.inj (g:=À) Á,r.hgt<=À,(by cases this),(by have:=À;rw[Á,Â]at this),ů "list",À=d.length,Ě5 "text",ĵ "size",ć d.adds,t.length<=À,.Subscript À Á Â,q4 (name:=À) Á Â Ã,â it,ĵ "age",ĵ "old",Ġ3 a.pm,ĀZ čI,d.length=À,("closed",À),(by have q||q:=Ă5 À),a.length+À,λkv=>Ċ À,∀i∈l,À/\Á,λi c H'=>À/\Á,Ù none,Ĕi ąP,ĀP Bool,swapsWith À Á Â X.env,nD.flat À,{Ù,ů À},À (show(Á)from Â),(Τ À).get?,λi=>ϫ À,λ_=>0,ĉ Int,Z.newL M.las.length lo iu t od td d c,{ÿ,À,à Á},ĈH À Á none,ąU "rule" ru,Ġ4 1,ğL ib 0 lo,rawInt À,á y,{à,ą À},{Ě,Ċ À,Á,Â},ġe dQ À,(by rw[ąd,Z7,À]),Ăl d,À<b.size,b.take À,ě fX M,ġe Ao À,ċT () (),{ĒK,ki,À,Ù Á},Ě1 j,ĉ Pc,ř kv,ĵ "",č6 Ć,ì xs,ξ Ų,À cH.nm,∀p∈(Ģl À),ę≠Á,.Tuple À Á Â,Þ h3 À,ģO i,(Ċ5).G,Ě3 P w À Á,{Ě8,ñ n},holding À Á,aJ À Á (Ğ1 Â),I.cell À Á Â,á _,ō bU À Á,ķ mI À Á,é À Á čd,.Attribute À Á Â,Paired.mapP À Á,SetTable.below À Á,.Name À Á,Β À A Á Â Ã,À≠s.heap.objs.size,s.heap.objs.size<=À,by simpa using c,λz=>(nomatch z),["_law_script"],by kernel_rfl,fs.lookup À,À=M.las.length,À true,(by have((),())||(n,q):=À Á),Txt.slice À Á Â,ęM "guest",ąR "trial",À<M.las.length,(by intro _ _ _ _ h;cases À;subst_vars),(Τ À).objs.size,À<M.trs.length,λm hm=>?_,show(À)by exact Á,ąU "owners" À,{ĂJ,æ À,Á},(by have(t,()):=l),λu1 g=>?_,ĉ Keyword,Ş b.map,ğS "arm",(∃m,À)/\Á,Txt.slice_le À Á Â,λ_ q=>q,λh0=>?_,ms.length<=À,ĐI .count,{ā4,À,Á,λ_ _ z=>Â},ąM "prime" "salt",PySem.W.kia_one À I.kIn Á Â (nofun) Ã,(by iterate 5 show À),λt k=>?_,I.turned (t':=s.toks) À Á Â Ã Ä Å,Ăr s.heap À Á Â,z.length<=À,(by rw[<-À,<-Á];show Â),["mark"],Ù false,ĉ Value,Ě7 čN,À s₁.heap Á,λb n=>đf À Á Â,â a.Bs,(by have z||z:=Ă5 À),(by have hi:=ŷ À),List.mem_singleton.mpr (),(À).cps.toList=Á,Ε field À Á,ĊL .tb,{Ĳ,Ŀ À},ri À Á (x:=Â) () Ã,č7 tk,by rw[<-À,Á,Â],ĠZ j,ã M.p,{ć,Ċ À},{ġ2,X.env::X.outer},leaving À Á,(by rw[Āj,À,Á];rw[ċO]),(ZT À).map,Ϭ o'6,ć4 1,Ās Int,X.env.frame=(Ù X.env.locals),λb o e n=>À Á Â Ã Ä,F.extBut À Á Â Ã,{ĕU,ěa À Á Â},Ĝ0 À e,ğL ib b.size hi,.Assign À Á Â,n.natAbs<À,b.drop À,df M.trs.length À,ĠO r,J.stop À Á,IsPart À Á,pk M.p M.salt,(À++Á).map,Ăl f,ĕj jd Ă7 À,{nm,sl,AS.new,[]},ċD pz À Á,{ėC,À×Á},ŷ hi,ś À i,đ2 1,đv e,Ą X.fn x,ĂC I,.pause À Á,["trial",À,Á,Â,Ã,r.txt],Z.newT M.trs.length t ba dx ar ru sh,{f with iv:=Ăg À Á (ĠS j)},Đv base À Á cls Â Ã,Ăl b,{Ø,À},(À Á Â).take,tf.mp À,(h1,À,),þ À h1,ěM À e,{ė9,À,Á++Â},ĥ5 e,I1.fpOk À (Đm Á),{ČZ,ĥa À},(by rw[Ĉ,()]),ĉq À () Á Â,(by rw[ą3,c]),show(À)by decide+kernel,À Á {l with ins:=Â},À λ(i:Nat)=>Á,.ins À Á Â,Value.int À Á,{cls:=ů À,dict:=Á,data:=Â,slots:=Ã},Τ PySem.W.emptyDict,(show False from À).elim,λ_ _ z=>(nomatch z),{s with heap:=Τ À,toks:=Á},I.tok À,À Á Â s.heap Ã Ä,by simpa using h1,∀cl C s₀ H₀ ex,À/\Á,by simpa using h,a.heap.push À,Α "isinstance",s.heap.IsTupleIter À Á Â,Ę "__next__",ęH envOfC À Á Â Ã,À λ_ _ _ _ _ _ _ q=>Á,āz À " ",s.heap.FunFrames À Á,Đx Value.bool,["_law_desk","_law_row_here"],ĄJ À i,λQ r u=>?_,PySem.intText? À,(by case refine_2=>show À),Α "sorted",(by have((),())||(q,e):=À Á),Þ À True.intro,Āi assignEach À,rB t.nm t.arms À,Ĕw scope.kind,Txt.startswith À Á,λr o e=>?_,Ŀ t.plain,ğO "marks",by simpa using À,À≠"__name__",{ĥ,À Á},ċ1 À ?_,∃W:À,ĈX Á Â,(āH À Á Â Ã).objs.size,ë z.length,ĩ b.length,SetTable.grown c.size,by simp[c],λd hd=>?_,á "visit",show(Β À Á Â Ã Ä)from Å,À (P:=P) (w:=Á) Â,ęR env,["marks"],["words"],Ş e.map,{À,"tuple",Á,Â,Ã,Ä,Å,Æ,Ç,È},(by iterate 2 show À),À (x:=Á) () Â Ã,À {D with nx:=Á} Â Ã,Đs I1.kept À Á,B.StaysIn À,K w.params,(by subst this;show À),(by try dsimp only),Đk .bool,by rw[ĉb,À,Á,Â],λb o e=>À.1,ğE đo,ξ čN,.BoolOp À Á Â,ğP M.setL À Á,b.length=À,e.length=À,Ġv ĠN,Ė À Heap,Ĩ À Á (),À<scanBound,À X.prog X.w Á Â,dG (o':=À),(āa).take,(À Á).reverse,(āa).drop,λi b H'=>À/\Á,â lp,ĉ Nat,ψ l.nm,by simp[À],(by rw[Ā,ęN À,hH]),(by show this),Sum.inl À,ćX Ġy,(by show À;have I1:Á:=Â),ώ ĕ4,é À () Á,∀y∈scope.names,ZH≠ .cell,X.trans À,i.trans À,B.trans À,relayAll À Á Â,{à,å À},{Ċm,ć À},backToKw À {Āi,keywordEach,[]},Ēb À X.prog Á Â Ã Ä Å Æ,X.mg À,this.2,(by show À;change Á),λa H Q=>À Á Â Ã,â dv,á f.s,ĀZ Nat,ů T,Ăi bR,ψ hd,ğM 100,ąU "shuts" sh,.s "owner ",ĠT i4,ęQ h.Ns mg,.either À Á,∀i b H,À->Á,∀i∈ZT À,Á,À<=b.size,I.lstM À,bs.all id,À∉X.fs,{Ĕe,æ À},{ĥ,ϗ À Á Â},{t with bar:=jO t.bar g},IntsAre À ns,j6 À Á Â d.size Ã,ēg À h2,PySem.W.fnOf À Á Â Ã Ä Å Æ Ç È É Ê Ë,ăp À Ü,ā0 e,Ćd À 0 Á,(by have:=À;rw[Š,Á]),df M.las.length À,ĆK À hd,aN (Ĕl À) Á aF,Ù {o with slots:=sl},ĉ cH,ë 80,ļ fQ,Ěs (Ņ dJ) À Á,ĀH À Á ĉt,ēG c,ğD h',ĈD f,čh 63,Ě7 Ų,ĔR i,Ġx À Á cd,ĚJ b,i<l.length,Pv xs.length À Á,ĎC k,λg=>Ĥy À,ğu À Á Â Ã Ä Å Æ ?_,ś DS ds,M.setL À Á,À s.heap Á,À V.bl,(ė À Á).kp,â g,Ă À (ĈR t.nm Á),ĀH À Á ďF,ao.refl À,aq (k:=À) (),scope.names.lookup À,{s with heap:=h',toks:=À},À Á Â PySem.F.plainAttrs_list Ã Ä Å Æ Ç,Α "getset_descriptor.__get__",X.comp scope À Á Â Ã Ä Å,by rw[ęJ,À,Á,Â],(by subst d;show À),λD hD=>?_,s.heap.update À Á,â l.heap.objs.size,(Z_ À).length,ns.length<=À,by simpa using e,ë k.toArray.size,Str.empty++À,I.hok À Á Â,λ_ _ _ _ _ st h=>À Á Â,Builtin.Str.strSub À Á Â,ë M.trs.length,Ş t.arms.map,Ě4 À M.trs.length Á,{nx:=À,rt:=Q},Ϯ Value.ref,À s.heap,Ε s.TypeIs À Á,ĆZ M.las.length À Á,À==NameKind.free,ğJ "_law_k",λr c5 g=>?_,ĀZ Value,λb o e=>?_,jI (K:=À) (lo:=Á) (n:=Â) Ã Ä Å Æ,ë b.length,ë d.length,ąR "deed",(by have:=À;rw[<-Á,Â]at this),(by have(a,c,I,q):=À;show Á),(Ν À).wish,ĀZ Str,{ğu,À,Á,Â,Ã,Ä,Å,λi c H' _ h=>Æ,Ç},Đk V.bl,(ğ À).length,["_law_layer","_law_trial","_law_prime"],ĀP Ú,s2.trans À,show(À)from p,λp hp=>?_,(by simp at this;lia),ąM "owner" "number",(by have e:=À;rw[<-Á,Â]at e),(by rw[Āj,À,Á];rw[ćg]),À trivial,Ru.toks_free À Á Â Ã,ws.length<=À,À=X.N.length,À<1073741824,(by have fresh:À:=ā3 Á),X.wish À,(by have h1:À:=Á;have h2:Â:=Ã),Đd cH.sl,l.length=À,x.length+À,["names"],ąS "range" À,F.binds λkV b pm o i ct a c=>À,À Á I.ok.above,λv z=>ĔW À Á,À (P:=Á) (w:=Â) Ã () Ä,Obj.putSet À Á,(by have(t,e):=ğC À Á),(by show À;have(e,y):=Á),["part"],{Ù,Ā0 À},ĠY p.map,υ Ġn,M.las.set À Á,(by rw[ăB,À,Á];have h3:=Â),ķ JoinOk À Á,À (·.2),đZ Ġn,À*b.length,∀e H Q E,À->Á,Ěc À 1000,{ĐA,ñ z},λi=>Ē1,Ę "-",ă7 À Á T.ff.m T.ff.f.kp T.ff.b Â,ă7 À Á T.gj.m T.gj.f.kp T.gj.b Â,h.came.im im,r.append À,(by show À;subst ex),λb z=>ť À Á,à Ő,č7 t',Đn À 0,knd.hash k,s.TypeIs À Á,(À Á).isSome,I.base.free À Á Â Ã Ä,(by change À;rw[ġs,Á,Â,Ã]),ĆY .lo,Đj .tr,E.at_ (r:=À) Á Â,ĠR 1,standAt À,s.trans À,ĒK E À Á,Ě À _ Á,{è,À,è Á Â},Builtin.SmallTypes.nextOf (â À),{ξ,Ās Nat},M.trs.length<10,g.length-À,f.trans À,p.trans À,this.1,(ċn).In,(by subst g;show À),á ĂA,à j,å X,ğt f,ăV h,{Ďm,ś À Á},getItem À Á,á ĆJ,λb o g e=>À Á Â Ã Ä,ĢW À ěL,á ZV,æ {À,Á,Â},ě8 À Á ą2,ēq b,ss.take À,λz=>(by have e:=À;rw[ęJ,Á,Â,Ã]),λb H Q=>À Á Â Ã,{Ù,Čt À Á Â Ã},â r,ZT n,(by rw[Ā,this,À]),ģO lo,Ęh hd,StrsAre À Á,Ye.mpr À,t.slot À,f.same À,Ğ2 À slot Á Â,by subst b;show À,â ra,ąx Χ,ą ă,ġC tg À,λz=>(by rw[À,Á]at e;rw[ā,Â,Ã]),À Á Â (λe H Q=>Ã),À Á Â (λb H Q=>Ã),.Compare À Á Â Ã,(by have:=À;have:=Á),À Á Â (ys:=Ã) Ü,à e,āC z,ęV j,ğX (À).push Á,(by rw[ĠB];show À),ĥ3 À Á y,Ĕ1 o,valueAt À Á,d.Perm À,L.same À,(by by_cases a:À∈Á),À Á Â Ã f.length Ä,ol ..,á ya,ŭ ĀK,ã z2,{ğv,ZH= .local,À},ZD (Ņ et) À T.bn.m T.bn.f.kp T.bn.b Á,Ź gc,Ąz ĳ,ĀN h1,ąY À āj,čk Đu,ú ϧ,Ġ2 j,ĔQ i,āg N0.length j,(by rw[ĔV];rfl),X.base.get? b,đb r,ĢD i,Ąi h,ĀY fj À,{Ċ,b.size>1},ăz {čg,À Á},À Á Â PySem.F.plainAttrs_str Ã Ä Å Æ Ç,M.las.map À,λz=>(nomatch À),Aa aP À Á () Â Ã Ä Å Æ,["thing",À],Builtin.Str.occurrences À Á Â Ã Ä,ąM "name" À,À M.trs.length,À false,h.at_ À Á Â,I1.hok.fresh À,b.getD À Á,(by have(p,e,(),a,c):=r),Ĩ À true Á,(by have(u,a,(),h1):=À;have(v,a,(),h2):=Á),ğF "list" À Á,À (t':=Á) λb o e=>Â,(by have a:À:=Á;simp only[List.lookup,a,Â]),Ę "house ",Heap.FlyingW À Á Â Ã Ä Å,{Β,Ĕ9 P w,À,Á,Â,Ã},bs.map À,À λ_ q=>Á,ęW A À Á,("slope",À),ů "BaseException",ů "StopIteration",Obj.mapSeq À,((match À Á Â with|some fs=>Ã|none=>Ä)),by simpa using q,by simp[ZS.newL,q],PySem.mem_of_lookup À,[.word,À],by simpa using B,z.cps.toList.length-À,λb o e n a _=>?_,by simpa using g,Ş t.shuts.map,ķ PySem.W.keepIn À Á,λx y H Q=>∃i j,À,λH vs hr h=>?_,{t with pau:=b},ĵ "upperlayer",∃(p:Addr)(bs:ĂP),À,λ_ _ _ H _ I h=>À Á,λi b H' _ h=>þ À Á,by split<;>lia,λ_ _ _ e=>e,s₁.heap.get? À,ćb mainGlobals À,(À Ru.subs).flatten,λb o e _=>?_,A.units+À,ś r.kids.take À,ęP Int,I.ok.funs.mem À,(by with_reducible show À),if c then(À)else Á,Đi "trial",Ąz DictEntry,ęP Value,{Ϙ,ForInStep.yield À},ĉ5 À True.intro Á Â,M.trs.set À Á,À Á b.length,{Ě,À,Á,∃j,Â},Ω À X.A Á Â Ã Ä,f.length=À,Txt.partition À Á,À q.hgt r.hgt,λ_ _ e=>e,λN j=>?_,λ_ N=>?_,ë y.length,ĊL .tr,À+M.las.length,∀b∈fp,∃o,À,ča À Á G2.objs.size Â Ã Ä,À Á x.cps.toList,À Á Â s.heap,Ćd b.length À Á,Ġw hd À,X.env.scope=À,À=M.trs.length,À≠"example",{ċ3,À,Á,∀i m b H,Â},{ċ3,À,Á,∀i m d f,Â},by simp only[cont,d];rfl,Ę "trial",î t.plain,(by have k1:=À;have k2:=Á),Ąs À V,(Āi relabel scope).names.lookup,À List.length Á,ĠP .marks,(by rw[À,Á]at h;cases Â),λ_=>none,λb z=>?_,env.kindOf À,ĕU h.trsI,ąU "table" À,Ė1 À Ru.word1,λC m=>?_,ĉ PyData,ĵ "soap",ğG y.take,ğG y.drop,ąT .Add,À h.pn.tr_odd Á,o.trans À,(Ű À).elim,i.same À,Ş c.map,bs.getD i true,À=xs.length,by rw[<-À];simp[cont,ZS.newL,q],by simp only[cont,À];rfl,cl.lookup À,À I.mod.kin,λb o e=>Ŝ À Á Â,(by iterate 3 show À),step_dedup À Á,À Á Value.none,show(À Á Â Ã Ä Å Æ)from Ç,λx y H Q=>À/\Á,ć d.clo,î t.led,î d.clo,Ċn M2.setL À Á,Đh À Á Â z.length Ã,Āk bM À Á,Ċp À Á [],Ě9 čK,p.length<=À,by rw[đJ,À,Á,Â],compEnvC scope À Á X.env,show(À∈Á)from Â,(by have(t,q):=ğC À Á),(by have a:=À;have b:=Á),ÿ À z.symm,{čr,λ_ j=>À},ĄR a.cy À,by rw[ā,À,Á],noteFrame À Á,Ru.txt_le À Á,["not","both","either"],(À++Á).toArray,ąS "dict_values" ġB,ąS "dict_items" ġB,∀w∈ws,À Á,Ěu [] À,Ą8 kV,Z'.ds=À,À<d.length,À<g.length,V.int.inj À,B.hide C,(ĒI).get?,À Á none Â,{λi m b H=>À,Á,Â},{λi m d f=>À,Á,Â},q.words++r.words,λ_=>čV À,ė h2.kp À,āe k À,{ĕH,â À},{ġD,Ù À},λi=>?_,λh=>Ŕ,â Ľ,ĉ Addr,á l.nm,ĀZ Ū,Α id,ĆY .tb,Ĕr lA,Ď1 E,ğF "tuple" d.toArray 0,À<=1000000,À<=20000,āL ĜZ,getMethod À Á Â,by rw[Ģm,À,Á],(by have im:=À;show Á),by rw[ĀJ,À,Á],I.ok.frf À Á,I.stkSub À Á,À Á b.toList,(by subst e;cases À),(by change À;rw[Á]),(À,h1,Á,),(by rw[ç,À,Á];have e:Â:=Ã),(ĝw).map,{ć,behindInMarks À Á},g.heap.hide C,i%M.las.length,À<=10000,{ąr,ć0 À},A.units<cLine,{ąr,ĂE À Á},.bool À,{ĝQ,ć0 À},"trial"::À,["forms","words"],λi j=>Ĳ À,(by have(u,G):=À;show Á),{ġ3,w.params.setOrder À Á,Â},W.trans À,(by show h.elim),(ī).map,À (lo:=Á) (n:=Â) Ã Ä ?_ Å,à Ϛ,ĵ "z",ϣ "=",Ε .call À Á,ăF k,ZZ D À,Ăh s2,Ţ .tn,ć7 .word À Á,h1.symm.trans e,ċv .And À Á,ĚV al,đF Ăq,ěp 0,s8.trans s9,i%r.length,Ĉj ï ąo,ēG b,A.under (.builtin "type.__call__" À),A.trans À,{ę3,À,Á,ę3 Â Ã Ä},("rule",À),lc (zs:=À) Á Â,ąN À true,{î,Ċ À},ęd ą1,ďI À d,Kp.trans À Á,["visit",À,Á],(ĥR).push,{ÿ,À,h1.trans Á},Ĕm C s.heap.objs.size,ěE y,((Ś À)::Á).contains,model À Á,λcl C s₀ H₀ ex=>{À,Á,Â},{cls:= .type À,data:=Á},X.env.cells.lookup À,PySem.W.kitOne À Á Â,List.mem_append.mpr À,am (o:=À) (č4 Á) Â,M.trs.map À,∀(g:Value)(A:Around)(outer:À)(s:Shared)(H:Hp)(i:Ú)(Q:VK)(E:XK),Á,Str×À,Heap.SameBut À Á Â,(by rw[À]at q;have(i,t,(),_)||(z,t,(),_):=Á),PW.pt À,PySem.W.instObj À Á,(by have(i,t,e,_)||(z,t,e,_):=À<;>cases e),∀(r:Addr)(us:Ú)(Z':ZS)(H':Hp),À,Ĕj À s.heap Á,À=t.home,À X.prog X.w,{s with heap:=À,drawn:=Á,toks:=tk},(by have(hd,hi):=À;have((_,A,kv,B),_):=Á),PySem.W.mapOf_K (prog:=À) (w:=Á) Â Ã Ä,ĵ "guestofthishouse99",À= .function,â a.heap.objs.size,Builtin.Tuple.tupleExact À,(by rw[À]at z;cases Á),À PyProof.Rows.step_dedup Á,(by have(_,_,_,_,o,_,_,e,_):=x),(by have a:À:=Á;have(C,f1,f2,f3,D,F):=Â),(by have(L,(dx,D),nd,I,T,l):=h),â c.heap.objs.size,À Á (λcd A o s H e Q E c f=>Â) Ã,{l with heap:=B,toks:=À},{cls:=À,dict:=none,data:=Á},Ġ1 À Á Â Ã PySem.F.slot_dict_get PySem.F.type_dict_get Ä,["_law_rule_here"],λw e=>(nomatch e),λvs H Q E h=>?_,by simpa using h2,(by rename_i hc;clear a hc),(by have(j,B):=À;have(i,l,v,hh):=Á),ăF t.arms.length,Ž c.take À,À<b.length,λb o e n L D=>?_,λe H Q E h=>?_,by simpa using f,(by have(t,()):=r),by rw[Ĕz,À,Á],{Đ,λ(u:Addr)(d:Zv)=>À,Á,Â},by simpa using i,X.env.scope.kind==À,Ĉu t.place À,À=s.heap.objs.size,f.heap.objs.size+À,X.s₀.heap.get? À,{#[45]},I.kept (h':=À) (t':=Á) Â,À=t.arms.length,{s with heap:=Τ À},(by subst ex;obtain rfl:À:=C),s.heap.objs.size<À,λx c e z=>?_,nL.some_of (v:=À) (o:=Á) Â,(by have slot:À:=λb o e n a=>Á),λb o e h1 h2=>Þ À Á,by size_fits,((by injection z)),∀(j:Nat)(p:đa),À,(by have ty:À:=Á;unfold pyNext),SetTable.insertAt À Á Â,ċj À f.s Á Â,PySem.W.plainGet À Á Â,À∈s.cps.toList,["_law_part"],λH g c h=>?_,λH f b h=>?_,{M with trs:=đd À Á},∃(j:Nat)(u:dS),À/\Á,Ş j.map,Đi "number",ķ PySem.W.isFn À Á,ğR "_law_k",(đ0 À).length,(by with_reducible show À),(by have(z,hd,B,c,dd):=ZG À Á),(by have(z,hd,x,c,dd):=ZG À Á),Ĉv "reversed" À,đe À i.toNat,(by have(r,rv,(),_):=À;rfl),À (xs:=Á) Â Ã (λi σ H' _ h=>Ä) Å Æ,Ġb À 2147483647,((by cases À<;>show Á)),by simp[d],by simp only[cont,I];rfl,pyNext À,letOwnedTupleGo À Á Â,Đg "prime",ąR "place",ąR "owner",Ā4 l.ins.map,Đi "slope",ęM "place",Ě5 "thing",đh A.length,(by have(B,f1,f2,f3,C,D):=À Á Â),(by have(c,r,pl,k):=À;show Á),ů "object",À im.kp,g.IsTupleIter À Á Â,(Ět À).objs.size,À (l:=Á) (u:=Â) (st:=none) Ã Ä Å,(by have(r,G,(),_):=À;rfl),ĚQ "signs" "longest",M.trs.length-À,(À).filterMap Á,X.env.kindOf À,e.symm.trans À,À h1.objs.size,λx a=>?_,Ę "visit ",ŭ NameKind,ĩ z.length,ş l.length,ăz b.length,ăz c.length,ąR "many",Ām i.length,Ām e.length,Ąz GenState,ćj b.length,["enumerate","zip","dict_itemiterator","dict_reverseitemiterator","odict_iterator","itertools.zip_longest","itertools.pairwise"].contains,(by have(u,(),t):=À;cases Á),d.length<À,(ĊB À).objs.size,À Á Â Ã Ä {s with heap:=Å,toks:=Æ},λb o g e=>è À Á,ět b.length,(by have(a1,a2,a3):=À;show Á),(by obtain rfl:=o;show À),(by simp only[pv];lia),á r.kind,ĚQ "prime" "layers",t.place.getD À Á,l.heap.get? À,p.heap.get? À,PySem.KeyKind À Á Â,h.IsTupleIter À Á Â,PySem.W.mg_of À Á Â,("own_prime",À),["number"],["_law_j"],λ_ _ x=>x,λg hg=>?_,λ_=>false,λi hi=>?_,λh1=>?_,λu1 n=>?_,á "guest",Ş I.map,Ψ h'.get?,ϣ "trial",ů "dict",ěV a.cy,c.toArray.any À,s.drawn.get .order,X.inExc À,r.subs.take À,(by have(o,e,c,d):=À;show Á),ěn Pc.k,fs.length<=À,I.tuple_inj À Á,List.lookup À Á,h.FunFrames À Á,Value.bool À,["owner"],À (P:=P) (w:=Á),λL o=>?_,â a.mC,ĩ b.size,ĵ "ann7",ęQ base.Ns À,(by have(e,n,ne,nf,d):=À Á Â),(by have b1:=À;have b2:=Á),(by have(z,(),q):=h),ń À D Á,{ğN,á À},ĐI .word,("own_salt",À),À (T:=Á) (b:=true) Â Ã Ä,à a,ąM "slope" "many",Đr vs.toArray 0,Ěh (À).isEmpty Á,d.length<=À,g.length<=À,À<ns.length,(Ő).toNat,base.get? À,y.ok.home À,Sem Value,I.base.there À Á Â Ã,À≠"trial",(ό).Nodup,(Ěa).Nodup,["name"],["fits"],[.guest],λi=>Ćv,(by have(tk,()):=À;show Á),λb o e n a _=>À Á Â Ã Ä Å,λew=>?_,ø ĕr,ø Čc,Ąs cM À,Ĕe ėe,ĈE Ĉ2,čH N',Ěq c.val À,Ď1 Xe,ĚL À s.heap Á,i.natAbs.log2<1920,λl=>(ĠO l.sl),{ġ8,ĕ0 À},λx=>(ï).isSome,by rw[ěr,YA],ĉR M.las À,(t.nm,À),λt=>(ėP t.arms),(by have c:À:=Á;have b:Â:=Ã),(by have st:À:=Á;rw[Â]at st),(by iterate 4 show À),∀x∈tk,À≠Á,tk'.length<=(tk.length+À),À=Option.none,.close À,ģo q.toks,(by rintro rfl;show À),λx e=>∃c,À,["visit",À],I.write (x:=À) (e:=Á) Â Ã Ä Å Æ,λx=>Ŀ ï,show(À)by simp,(by have sD:À:=Á;show Â),Āi assign À,ĆY .iu,ĆY .od,ĆY .td,Θ À s.toks,Ž fs.map Fo.s,ęZ À dd.typeIs Á Â Ã,{ĉ8,λb o j e=>À,Á,Â,Ã,Ä,Å},čO s3,{M with las:=M.las++À},{M with trs:=M.trs++À},āY d À,Čy À lo,{À,Á,"set_iterator",Â,Ã,jV.lookup,Ä},j.length=À,À= .weights,À-b.length,I1.tuple À,I.outExc À,b.lookup À,im.kp.tq À,m.inside À,subscripted À Á Â Ã,[Ďr],ĝ9 Ęt,À.1.length,["tuples","empty"],z7 ..,λg=>?_,λ_=>[],λi σ H'=>À/\Á,â A.pl,æ Ń,ø e2,ò Z.ds,í A.pl,í āG,Ąs À Value,ñ 2400,Ļ M.las À,ķ knd.is À Á,Ąs À (ęP Addr),Ĕr WM,čH o,cond À "list_iterator" "tuple_iterator",ĕH ćq,đX B,đY z,ĖQ d,Int.negSucc m,ĒC čz,ąl ĉl,ĜX A,{ĝb,ăP À},ėX t,ģR (Ù ċd),(ş 16777216)=sizeLine,seqItems? À,(by show trivial),À (bd 3 eW.nd Á) Â,λz=>ĢF À Á,(by have(t,()):=e),ĤC "rule",[À,ćU],(by have c:=À;rw[Á]at c),(by have z:=À;rw[Á]at z),p.ty (M:=À),(by have ih:=À;show Á),Đj .ba,(bR À).cps.toList,ġq ĞL,(by rw[ĄZ,À,m.trees,Á]),Ēn cl G2.objs.size,ġJ s6,(À:āf),ĞQ B,(by rw[À];show nofun),(by by_cases c:ĚW À),[Ĉk],ĥu "trial" "arm",["total","weights","many"],wa ..,∀i H Q E,À->Á,∀i∈l,À<=Á,ĉ Wo,ő HO.dK À,Ą d.any À,ZD À Á Â T.cF.f.kp Ã Ä,Ăi sM,ăV h1,ă7 À Á Â T.cY.f.kp Ã Ä,(Sum.inr:(Str->cJ)),Ăi ęz,ē8 À o'19,ģn X,ēG g,Ĥr i,Đb j.take À,M.las[À]?,À Á Â s.heap.objs.size Ã Ä,(by with_unfolding_all rfl),(by rw[À,Á]at e;cases Â),À "BaseException.__getattribute__",A.handled=À,ąM "layer" À,Đp false À,X.A.units+À,À×Value,À mainGlobals Á,À::outer,["_law_script",À,Á],B.get? À,Ž j.take À,s.pl À,Đw À Á Â E,∀(A:Around)(i:Nat)(s:Shared)(Q:Zq)(E:Zq),À->Á,∀(i j:Int)(t u:Tok)(s:Shared)(Q:Zq)(E:Zq),À->Á,À PySem.F.slot_dict_get Á PySem.F.entry_dict_get Â Ã Ä,(by unfold Builtin.«set_iterator.__next__»;rw[ç,À,Á]),Z.tk À,PySem.NumText.AllDigits À,Ċx nD À Á Â Ã,À M.las.length Á Â,["form",À],ě s.pl À,{ξ,ξ À},("many",À),("paused",À),Ăi Prod.fst,((match k with|.inr x=>À|.inl _=>ώ Á)),ķ Nat.ble À Á,by simpa[Ru.kids]using h,(by have(w,a,(),h3):=À;have(y,a,(),h4):=Á),{h with z:=À,pl:=Á,bs:=λb o e=>Â},Builtin.List.listExtendWith À Á Â,if À then(Á)else 1,(ins.map (·.1)).Nodup,by simp only[iq]<;>exact À,ğJ "_law_word_here",ğR "_law_plan_here",gs.take À,Builtin.Slice.slicePlaces À Á Â,PySem.F.args_dict_get_2 À Á,λc r=>if À then do let ok<-Á;(Â)else Ã,(À Á).isSome_eq,∀(r:Addr)(Z':ZS)(H':Hp),À->Á,ZD À Á T.bf.m T.bf.f.kp T.bf.b Â,m.heap.push À,(À:Á).length,PySem.W.methodCall_KW (pl:=À) Á Â,(by have(a1,q,(a,b,r),a4,B):=st),by simpa using hc,Ù g.heap.objs.size,(by rw[Š,r.hgt_pos]),(by rw[ā9,À,Á];have(x,G,b,kv,(),hb,hk):=Â),PySem.F.args_dict_get_3 À Á Â,Builtin.Str.partsBetween À Á Â,(by show À;intro i m b H((),hi,p)),[a.heap.objs.size],["_law_deed_here"],(by have((),g)||(j,q,(),c,a):=t),∀cl C s₀ H₀ ex xe,À->Á,ğK "_law_number",h1.get? À,(by have(i,t,(),())||(x,t,(),()):=À Á),(À Á Â).objs.size,by simpa using k,(by show À;intro i m d f((),hi,p)),{s with heap:=h1},{s with heap:=h0},["thing",À,Á],Ε PySem.W.methodObj À Á,ķ PySem.W.hasDictIn À Á,(by rw[Đo];have(_,_,(),(),()):=À),À<=z.cps.toList.length,by rw[<-À],À<xs.length,a.cps.toList.length+À,s.heap.objs.size≠À,λb o e=>À Á Â,(by have(h1,h2,h3,h4,a,c):=À;show Á),Ω ζ À Á Â Ã Ä,λe=>(nomatch e),⟨cs.toArray⟩,ο bk.map,ο mo.map,ęK Value.builtin,ψ "place  ann7",ğT À Á X.env Â,d.params.defaults=À,(h.seats À Á Â).kp,ċD PySem.strKind_is À Á,ču À "set_iterator",À λi j _ _ _ _ _ hc q=>Á,(by rintro rfl;have()||hc:=À),["_law_number"],["_law_things"],λi u t c d=>?_,(by have(j,u,a,())||():=h.t),Ō À s.heap.objs.size Á,Ď4 arms.length,env.cells.lookup À,x.cps.toList.all À,b.flatMap À,(by have(t,()):=À;have(u,(),f):=Á),{Đr,#[],À},PySem.W.hideAll_none À Á,(by rw[À];kernel_rfl),g.heap.objs.size::À,À*z.length,λc R hc e=>ă,∀x∈xs,ĄF,(by have(M,Z,c,(),b,q):=À;rw[ö,Á,Â]),Ŀ d.isEmpty,Ŀ e.isEmpty,î v.scannable,Đi "numbers",ķ Txt.startswith À Á,T.hasType PySem.F.excBase_ValueError.hasBase,ĠE "_law_k" "_law_number",S.trans À,{cls:= .none,data:=À},∀(s:Shared)(u:Value),À Á Â Ã Ä,(by injection h with h1 _),λi c H' _ h=>Ŕ▸À,Đc À Á Â PySem.F.slot_str_split PySem.F.type_str_split Ã Ä Å,Ą PyData.strOk À,Ţ .dl,đt F2 À Á,λb u e=>?_,λ_ _ h=>ü,λH e f h=>?_,λH e b h=>?_,λH c b h=>?_,∀w∈r.words,À∈Á,λp I u F=>?_,Đg "trials",Ēj À ty,ąR "wanted",Đi "paused",ęM "guests",ğK "_law_k",λz=>čb z À Á,ġi hd g,r.wset.length<=À,((by cases À<;>rfl)),À d.toArray,Ĝ4 d.toArray.zip,{a with heap:=ĊB À},∃(p:Addr)(d:Ăq),À,(by have(o,_,_,_,e,_):=À;show Á),λ_=>trivial,#[k,m,.none],jy.upd (o:=À) (H:=Á),∀{b:Addr}{o:HO},À->Á,∀(N:Ų)(R:VK)(B:À),Á,{Z with ow:=Ăg À Á Â,tk:=Ã},Đg "depth",ì a.toArray,(by rw[Đo];have(_,(),()):=À),Ď5 y.length,ġh "word",h0.objs.size<=À,mem_of_lookup À,À Á s.heap.objs.size Â,let⟨o,e,_⟩:=À;(Á,Â,),(by rw[À]at hm;have()||hm:=Á),ąS "enumerate" À,ęS "_law_k" "_law_salt",Ξ À Value.none,Builtin.Str.glued À Á,PySem.W.find_K À Á,{À,λu o⟨a,e⟩=>Á},λx c e=>?_,λv k l=>?_,λx h y=>?_,λx t y=>?_,(Δ).reverse,Ĩ À M.trs.length Á,ĩ d.length,ĩ g.length,ĩ j.length,ĩ y.length,ĩ a.length,ο ws.map,ăz f.length,ąR "name",ĀH M.trs.length À Á,Ϯ Sum.inr,ğO "name",ĐI .counts,L2.xC K À Á,Ě5 "word",ġh "arm",b.toArray.size*k.toNat,h.objs.size<=À,M.las.length<=À,ē5 xs.length,À<t.place.size,kas_sort À,ĜV d.length,u.trans À,ls.filterMap À,āL ėo,À "ValueError",["_law_number","_law_high"],(by have(u,(),t,()):=À;show Á),(ώ À).cps.toList,(by have((d,a1),j):=st),∀{d:Ú}{b:Zv},À,ϟ setsByText À,ğM 20000,āK n.ok.tget À,ĄR a.gE À,by simp only[cont,b];rfl,(À:String),PySem.W.hideAll À Á,s.heap.IsList À Á,Nat.add_le_add À Á,s.heap.IsSliceOf À Á Â Ã,[À,Á,r.txt],ĢQ "either",λx b=>?_,À (a:=Á) (o:=Â) (t':=s.toks) Ã Ä Å,À (t':=Á) (o:=Â) (λb ob q=>Ã) Ä Å,λn hn=>?_,looks_mroIn (M:=À) Á Â,λh2=>?_,∀(W:Wl){s:AS},À->Á,λl hl=>?_,λt ht=>?_,á "count",å hP.pl,ã M.salt,Α "len",ϣ "visit",ęG j,ć t.plain,ąR "row",Ā4 ins.map,Ϯ V.ref,ąT .Mult,Ĕq t'.home,ĠP .word,ĠY e.map,ěV a.gE,ěV a.iz,ąh À Á d.toArray,ėa t.home,Ĉd ls.map,ĢQ "both",ēm y.length,À<h.objs.size,{c with heap:=(c.heap.push À)},b.toList.map À,PySem.W.codeIn À Á Â,o.data≠À,(by cases À;have(u,(),ru):=Á),SetTable.below.go À Á Â Ã Ä,ď M.trs.length M.trs.length À Á,ąN À b.toArray,ϱ "barred" À,āg À x.length,wpAny_newList À Á,h'.FunFrames À Á,À X.env.locals Á,À Array.toList Á,.own À,setNext À Á Â Ã,["house"],λp a=>?_,λb u=>?_,λb q=>?_,do let a<-À;đb Á,λx l=>?_,λl i=>?_,λD N=>?_,λr f=>?_,λt c=>?_,â a.qK,æ l.nm,Ş a.map,å J.pl,ĩ y.size,î d.adds,Ε setFlight À Á,ąS "slice" À,{M with las:=(ğP M.las.set À Á)},(by rw[ĈS];have(o,()):=À),ċA World,I.mod.glob.keeps I.bk,ġq ėg,hd.length<=À,ts.length<=À,ss.length<=À,x.cps.toList=À,Exists.intro À Á,Sum.inl.inj À,setEntries À,d.Pairwise À,wpAny_letGo À,Shared.heap À,wpAny_fieldsOf À Á Â,(by show À;have _||_||i:=Á),À a.heap.objs.size Á Â Ã Ä,λb u e z=>čb À Á Â,λx b=>∃d a,À,À (R:=Á) (λ_ _ _ h k=>Â) Ã Ä,(by have(a,c,g,q):=z),(by have(l,h1,h2):=h),ąM "kind" "things",{ÿ,À,by simp[z]},ϱ "shuts" À,ğV 0,À/\∃y∈t.arms,Á,Value.float À Á,seqIndex_of À Á,Paired.mapM À (λx a _ q=>Á),.pause À,(by show nomatch e),(by have(u,h1,h2):=À;show Á),h1.len.1,λb=>?_,["word"],Ēt ęm,λe=>(isExactStrKey e.key),λc=>?_,nH (h':=À) (t':=Á) (ch:=Â) Ã Ä Å,∀(l:Addr)H',À->Á,∀(r:Addr)H',À->Á,Ù Ċ8,ĉ ĀV,ø ě4,ø ě5,ø ĆV,Ş F.map,Ş J.map,η 20000,Ď ćS,ā1 20000,Ķ h1.hm,ā6 .Eq,ā6 .In,ZY Ăx,Z1 y.map,Ās ęs,ĊT ĥ6,Ě9 Ćf,Ě9 (Ĳ t.pau),PySem.W.plainGet_of hg,ϳ Ý,ϳ ß,Ėj 4000,ĉH h2,ĉH h1,ġY ćS,ĞJ hc,Ĕ9 prog À,À (K:=Á) (a:=Â) (xs:=Ã) Ä Å Æ ?_ Ç,∀y∈scope.names,À->Á,À Á Â (ø Ã),Ąs cJ À,(((s.heap.push (seqObj "list" #[] 0)).update s.heap.objs.size (Obj.mapSeq (·++vs.toArray))).push (seqObj "list" vs.toArray 0)).get?,Txt À Á Â,À Unit.unit Á,.ListComp À Á scope Â,show(∃t,À)from Á,s.heap.UpToSlots À,λi=>â À,seqObj À Á Â,ś À num.toNat,À Á Â (ň Ã),M.trs[À]?,[À,"_law_number"],ęS "_law_plan_here" À,À b.size Á Â,w.length<=À,("home",À),ąM "guest" À,À Á {l with S:=Â},À∈M.trs,["_law_script",À],ąM "trial" À,attributeBase À Á Â Ã,Aa bv À T.aH Á Â Ã Ä Å Æ,Đr d.toArray À,∀(a:Zr)(s:Shared)(b:St)(H:Hp)(x:V)(c:Ú)(v:Value)(d:Zt)(Q:VK),À,{s with heap:=À Á},∀(d:Value)(A:Around)(outer:ς)(s:Shared)(H:Hp)(e:À)(Q:VK)(E:XK),Á,{strHash:=À,shareClass:=Á,mergeTok:=Â,idOf:=Ã,idOfShared:=λ_ _=>Ä,followText:=Å,idOfImm:=Æ},(by show À;simp only[List.zipIdx_cons,List.zipIdx_nil,Yt,List.forIn_nil]),À Á Â Ã PySem.F.plainAttrs_dict Ä Å Æ,ds.contains À,w.params=À,b.length+À,{î,(n[j]?.map (·.hash)==some (j4 P w k))},List.filter_sublist.nodup À,{āc,Ĉs À Á Â,Ã,Ä},{ZY,Θ À Á},(by intro f s l H x y v u Q I g j h;have(p,m,(),d,i,fs,q):=À),(by intro X O Q R hc i A s σ H E I M st hg;subst O Q R),Builtin.bitAnd À Á,À->∀(i:Nat)(pins:Zr)(s:Shared)(σ:St)(H:Hp)(E:Zq),Á,(by intro X n q r hc i f s F H E I l st hg;subst n q r),(by intro X q r t hc i f s F H E I m st hg;subst q r t),(by intro X t x y hc i g s J H E I n st hg;subst t x y),(by intro X t x y hc i g s G H E I n st hg;subst t x y),(by intro X D F G hc i l s O H E I r st hg;subst D F G),(by intro X r t x hc i g s F H E I n st hg;subst r t x),b.toList.drop À,ă9 À ("__debug__":Str),(by intro k s p H x y v u Q I l n h;have(i,j,(),(),q):=À),(by simp only[sliceBounds,HT.ib,Option.getD_none,Ĥ À,YI]),ć6 j,ĈF V.bl,((match k with|.inl k=>À|.inr []=>Á|.inr (k::b)=>∃a,Â)),(by unfold Builtin.SmallTypes.ownedTupleIsFree;show À),λas A outer s H vs Q E g h=>?_,λaa A outer s H vs Q E R h=>?_,∀(r:Addr)(us:Ú)(rs:À)(M':bJ)(Z':ZS)(H':Hp),Á,λas A outer s H g Q E hr h=>?_,Ċo d.map À,{Ă8,ĵ À,Á},ĊF À scope Á Â,Ěm k,x.cps.toList.length=À,λZ A outer s H e Q E hr h=>?_,(by intro Q E p s x f;rw[Sem.wp]at x⊢),{ğU,À,Á,Ņ Â,Ã,Ä,Å,Æ},by have(i,t,(),())||(x,t,(),()):=À<;>rfl,["_law_script","_law_plan_here",À,Á],λF A outer s H C Q E p h=>?_,λW A outer s H S Q E e h=>?_,λB A outer s H e Q E W h=>?_,λc A outer s H b Q E e h=>?_,Builtin.SmallTypes.ownedTupleIsFree À,{À,ß},(by intro j s A H g B Q I r h;have(p,bs,(),m,q):=À),{sub:=À,frame:=Á,item:=λi c N O W st q=>Â,done:=Ã,self:=Ä},Ċq Ő 0,(l.nm,À),[.guest,À],(by intro d s j H x y v u Q I e i h;have((),q):=À),b.length-À,f.iv À,À t.place,∀(a:Zr)(s:Shared)(b:St)(H:Hp)(D:jx),À->Á,(by intro m s n H x y v u Q I l d h;have(k,q):=À),λx b H Q=>∃(z:Str)(p:Addr)(a:Zv),À,∀(D C:Addr)(H':Hp)(s':Shared)(m:Zs),À->Á,Ċo À ĠN,Z.ow À,À "set.scan.the-table-gave-way",((λr s₁=>match r with|none=>À|some v=>Á)),X.stack=À,pickOrder À Á,λi c x m u A C E q=>?_,(by unfold Builtin.List.listExtendWith;show À),ĂM "list_reverseiterator",Builtin.List.listLengthHint À,t.place[À]?,(by have(v,(),(),h',tk,f,B,(),N,D,O):=p),λr R H1 I e J h3 h4=>?_,Ĕ9 À w,ů "method_descriptor",Ār À fs,À l.ins Á,{s with heap:=h',gens:=À,drawn:=Á,toks:=Â},λ_ _ _ _ _ _ h=>h.elim,[À,"number"],(À::Á).take,(l.ins.map (·.1)).take,(by have(i,k,e,j,l)||(i,k,b,e,j,t,l):=g),(by have(j,k,e,m,l)||(j,k,b,e,m,v,l):=g),(b.map (·.length)).sum,Α "object.__setattr__",i.natAbs<(À^Á),ġo 10 À,h1.push À,Classical.byContradiction À,(by have:=À;have:Á:=Â),∀(a:Zr)(s:Shared)(b:St)(H:Hp)(Q:À),Á->Â,(by intro b g;simp only[q_,n6,E1]at g),by simp[valueAt,tu,c],by simp[Array.getD,a],((by cases À<;>decide+kernel)),Builtin.«zip.__next__» À,List.eq_of_mem_replicate À,(by show À;simp only[Bool.not_true,U_,Ya]),#[Āv],[{À,iter,Á,0}],env.frame=À,À= .free,by simpa using I.len,by simp[List.getD,y],List.mem_singleton_self À,Int.eq_ofNat_of_zero_le À,s5.trans À,(b.map (·.1)).Nodup,(by unfold Txt.startswith at a;rw[À]at a),λi x e=>(nomatch e),λi l c=>(nomatch c),λp1 H1 s1 n1 o1=>?_,Ġ6 List.nodup_range,by simp[atKey,tu,c],by simpa using ad,PyProof.noPylong_small À,Builtin.List.listTooLong À,List.exists_cons_of_ne_nil À,À PySem.F.slot_dict_getitem.lookup Á Â,λj y v' C G e3=>?_,∀{P:Zv}{b:Zt}{i:Nat}{m:Zs},À->Á,(Ġj À).take,λb o e n h1 h2=>?_,(by simp only[firstArgMember];rfl),λc u A C E q=>?_,(by have(a,(),o,g,n,c,hc,hd,hi):=d),(by unfold Builtin.SmallTypes.nextOf;rw[Ŏ,À,Á,Â]),∀{W:Wl}{S:AS}{k:cM}{q:Int},À->Á,(by intro j g S hj(F,m,e,(),u,f);show À),(by simp only at hc hd;subst hc hd),λp2 H2 s2 _ o2=>?_,ZT a.toArray.size,{ì,(b.map (·.1))},ęT l.heap.objs.size,by simpa using M,by simpa using o,((by cases À<;>kernel_rfl)),by simp[ZS.newT,q],List.length_filterMap_le À Á,Builtin.«list.sort» À,List.getElem?_reverse À,List.find?_isSome.mpr À,List.filter_cons_of_pos À,List.filter_cons_of_neg À,X.pn++À,(by change À;exact Á),[d.heap.objs.size],[c.heap.objs.size],λx e=>(nomatch e),((λn hn=>nomatch hn)),(by have(f0,f1,f3,f4,f5,f6):=À;have(o,e):=Á),λB t hsb₁=>?_,λi h1 h2 st k=>?_,λi c N O st q=>?_,λx a=>(nomatch a),λt a=>(nomatch a),(by have j:=À;simp only[q_,n6,E1]at hz),λw h=>(nomatch h),λx I=>(nomatch I),(by have(M,Z,c,t,(),e,h1,h2,q):=h),Α "list.append",ώ "__classdict__",Ž Ĝ1 À,(by intro l s m H e n Q I r h;have(i,j,(),q):=À;have(u,o,(),(t,()),(p,())):=Á),by rw[čU,À,Á],À F.entry_set_update_loop Á,À Á z.toNat,ĢH deal À,Nat.not_succ_le_self À,List.drop_eq_nil_of_le À,λ_ _ q=>q.unwish,(by show À;simp only[newExc,newTuple]),ėP t.arms.length,λb o e n D a=>?_,["_law_row_here"],ĝg À q.txt,(by intro i m b H((),hi,p);have q:=À),{j with heap:=h'},(by have(o,c,hc,hd):=À;unfold setNext),(by simp only[q_,n6,E1,not_or];show À),{J with heap:=h'},∀x∈À,Āz≠Á,(by intro b r(g,j,e);have(bs,(),u):=À),(by intro b s(m,j,e);have(bs,(),y):=À),λC H Q E h=>?_,(by intro c Z(y,A,g);have(l,h1,h2):=À),{l with ins:=ċQ},λS H Q E h=>?_,λg H Q E h=>?_,λb H Q E h=>?_,{g with heap:=ēk},ćT f.objs.size,Value.builtin "object.__getattribute__",ĆA "__setattr__",z.cps.toList.length=À,a.cps.toList.length=À,by simpa using u,by simpa using a,by simp[bM,tu,e],by simpa using d,by simpa using j,by simp[ZS.newT],Int.fmod_eq_emod_of_nonneg À Á,PySem.F.args_tuple_add_2 À Á,List.sublist_append_left À Á,Builtin.Str.strKind À,codeAny_handlers_test À,List.getElem?_range À,y.trans À,À++r.toks,(by show À;dsimp only at t hsb₁⊢),(by show À;unfold Builtin.«sorted»),λ_ _ _ _ n=>n,((λ_ e=>nomatch e)),λy=>(nomatch y),(by have(x,z,B,C,a,D,ex,g,E):=k),{s with heap:=À,drawn:=f},{s with heap:=À,drawn:=l},λc N O st q=>?_,((λx l=>nomatch l)),∀(s:Shared)(H:Hp)(D:jx),À->Á,{q with heap:=y},(by intro i v b r m(g,j,e);rw[ĉk,À]),(by intro i v b s t(m,j,e);rw[ĉk,À]),(by have(r,rv,(),_,hh,_):=À;rw[Ěz]),(by intro i v c Z o(y,A,g);rw[ĉk,À]),λcl C s₀ H₀ ex xe B=>{À,Á,Â},λ_ _ _ _=>False,(by rename_i e;have a6||a6:=À),{h with tn:=À,la:=Á,tr:=Ė5,tc:=Â,br:=Ã},Ę "nosuchtrial",Ş x.shuts.map,ZT h.objs.size,ů "enumerate",Ą PySem.W.handedIn À,Θ À t,ĕA Nat.le_total,ĉH h.z.g.lays,A.frames=À,X.s₀.heap.FunFrames À Á,SetTable.sizeAbove À,Nat.eq_zero_or_pos À,(by ·simp only[h,Ya]<;>lia),∀{b:Ú}{d:Zt}(i:Nat),À,∀{b:Ú}{d:Zt}(n:Nat),À,["nosuchtrial"],(by have(_,_,_,_,o,_,_,e,ex,_):=À;show Á),(by have(x,T,t,b,(),ty,e,q):=h),λh' tk g i=>?_,λb o e n _=>?_,λb o d e=>?_,(by have(hd,hi):=À;have((_,y,kv,A),_):=Á),λb o f z=>?_,λi v t c d=>?_,(by have(r,G,(),_,hh,_):=À;rw[Ěz]),λb o e j=>?_,λj y hj hy=>?_,(by intro i v c H3 hv((),X,u);rw[ā9,À,Á]),R9 (G:=À) (m:=Á) (n:=Â) (ta:=Ã) (σ:=Ä) (H:=Å) (Q:=Æ) Ç (i:=È) (p:=É),(by have(ns,M,c,l,t,(),h,q):=h),Ę " nosucharm",ë M.las.length,Ş x.arms.map,Α "dict.get",ì x.cps.toList,ś (ś k.take À) Á,Ě2 y.cps.toList,čt base.StaysIn,(by intro X g j l hc i a s r H E I f st hg;subst g j l;have(m,f1,f2,f3,p,q):=À),(by intro X n p q hc i a s G H E I m st hg;subst n p q;have(y,f1,f2,f3,B,C):=À),Ēj À s.heap.objs.size,Obj.isFreed_of_dict À,PySem.evalArgs_none À,Classical.epsilon À,bk.take À,List.filter_congr À,À\/∃(o:Obj)(b:Zx)(n:Nat),Á,(by show Array.size_append),À== .function,Ĥv env.scope.kind,(by change À;unfold Ru.cnt at h1 h2),(À,Ġo),{Đe,ĆT À Á _ _ Â () z},λd H Q=>∃x T t b,À,(by have(x,j,I1,r,e):=À;have(c,(),e):=Á),[À,"marks"],λx y H Q=>∃p c i v,À,λv O⟨P,R,I1,r,q⟩=>{À,Á},λo i v H Q=>∃a c k,À,(ąN À Á).flatten.toArray,(by have(_,H9,I9,_,e9):=À;subst e9),(by have(o,g,n,c,hc,hd,hi):=h),Classical.epsilon_spec (p:=À) Á Â,∀w∈l,ĝ7,(by have()||():=this<;>lia),λH vs W h=>?_,λH vs f h=>?_,λH5 s5 e5=>?_,λH vs p h=>?_,(by have(b,x,n,C,h1,h2,h3):=h),Ę "nosucharm",Ş shuts.map,Ŀ n.isEmpty,ZT bs.length,ů "Exception",ąS "tuple_iterator" À,ķ PySem.W.plainOver À Á,Ġz x.cps.size,ĕv r.kids.map,ĉp o.isSome,ĕV s.heap.objs.size À Á,ĉz b.length,Ċf À Á [Â],ĆA "__init__",ĚZ d_ _ À,ĢI ws,Ęi d.length,Ęi c.length,Ęi i.length,Ĥi i À,À=d.heap.objs.size,À=c.heap.objs.size,by simp[hi],by simp[ne],l.heap.objs.size<G2.objs.size,wpAny_isSubtype_exc À Á,À F.plain_extend_loop Á,wpAny_eqBool_str À,wpAny_Dict_empty À,Nat.succ_ne_zero À,List.nil_sublist À,x.cps.toList.map À,À c.heap.objs.size,(b.map (·.1))[À]?,Builtin.Slice.sliceAdjust À Á Â Ã,(by have(_,(_,_,_,e,_),_):=x),(by show À;intro i m d f((),hi,p)),λb o e D=>?_,(by have(t,()):=À;obtain⟨E,d⟩:Á:=e),["house",À,Á],(by have again:∀{H7:Hp}{s7:Shared},À:=Á),∀{binds:čz}{m:Zs},À,(by have(ob,_,_,h1,h2,_):=dd),λh1 l b1=>?_,λh2 X b2=>?_,let⟨o,_,_,e,_⟩:=À;(Á,Â,),aU.unpinned (pins:=À) Á,(by have(a,c,h1,h2,h3,h4):=h),λH c f h=>?_,(by generalize À=m at f;have(b,u,G):=Á),λH y o h=>?_,λH J E h=>?_,(by unfold Ru.cnt at hc;lia),(by obtain rfl:=c;have(p,(),k):=À),λH k i h=>?_,λH i b h=>?_,λH g b h=>?_,λj b e=>?_,(by intro g S(F,m,e,(),u,f);show À),λH j i h=>?_,Ş arms.map,ã b.length,če a {ĐD,λ_=>#[]},ϱ "layer_named" À,ϱ "trial_named" À,ĕ6 ns.length,Ξ apos.endLine cpos.line]
def o'0{a b c:Nat}(_:c<=b)(_:c=a):a<=b:=Ø
def o'1{a b:Nat}(_:b<=a)(_:b<a):(a-(b+Ă0))<(a-b):=Ø
def o'2{a:Int}(_:û<a):û<=a:=Ø
def o'3{a b c:Nat}(_:c=b)(_:a<c):a<b:=Ø
def o'4{a:Int}(_:¬(û<=a)):a<û:=Ø
def o'5{b:Nat}{a:Int}(_:û<=a)(_:a<ë b):(a).toNat<b:=Ø
def o'6{a:Nat}:û<=ë a:=Ø
def o'7{a b:Nat}(_:a<b):ë a<ë b:=Ø
def o'8{a b:Nat}(_:b<a):(a-(b+Ă0))<(a-b):=Ø
def o'9{a b:Nat}(_:b=a):a<=b:=Ø
def o'10{a b c:Nat}(_:(a-b)<=(c+Ă0)):(a-(((b+a)/ş 2)+Ă0))<=c:=Ø
def o'11{a b c:Nat}(_:(b-a)<=(c+Ă0))(_:a<b):(((a+b)/ş 2)-a)<=c:=Ø
def o'12{a b c:Nat}(_:b=c)(_:a<c):a<b:=Ø
def o'13{a b:Nat}(_:a=b):a<=b:=Ø
def o'14{a b c:Nat}(_:a<c)(_:c<b):a<b:=Ø
def o'15{a b:Nat}(_:¬(b<a))(_:¬(b=a)):a<=(b-Ă0):=Ø
def o'16{a b c:Nat}(_:c<=b)(_:a<(b+Ă0))(_:¬(a<c))(_:¬(a=c)):(a-Ă0)<b:=Ø
def o'17{a b c:Nat}(_:a<b)(_:¬(b<c))(_:¬(b=c))(_:¬(a<c))(_:¬(a=c)):(a-Ă0)<(b-Ă0):=Ø
def o'18{a b c:Nat}(_:(a-b)=(c+Ă0))(_:b<=a)(_:b<a):(a-(b+Ă0))=c:=Ø
def o'19{a:Nat}:û<(ë a+ϸ):=Ø
def o'20{a b:Int}(_:(û<=((a+(b/ČF))%ë 12))/\(((a+(b/ČF))%ë 12)<ë 12)):{Ϟ,a+(b/ČF),ë 12}<ş 12:=Ø
def o'21{a:Int}(_:(û<=(a%ë 4))/\((a%ë 4)<ë 4)):{Ϟ,a,ë 4}<ş 4:=Ø
def o'22{a b:Int}(_:(û<=((a+(b/ČF))%ë 26))/\(((a+(b/ČF))%ë 26)<ë 26)):{Ϟ,a+(b/ČF),ë 26}<ş 26:=Ø
def o'23{a b:Int}:{Ϟ,a+(b/ČF),ë 12}<ş 12:=Ø
def o'24{a:Nat}(_:ş 0<a):{āS,ë a,ϸ}=(a-Ă0):=Ø
def o'25{a:Int}(_:ë 2<=a):û<a:=Ø
def o'26{a:Int}(_:ϸ<=a)(_:ϸ<a):ϸ<=(a-ϸ):=Ø
def o'27{b:Nat}{a:Int}(_:a<={Ď,b+Ă0}):(a-ϸ)<=ë b:=Ø
def o'28{a b:Nat}(_:ş 0<b)(_:a=b):û<ë a:=Ø
def o'29{a b:Nat}(_:a=b)(_:ş 0<b):ş 0<a:=Ø
def o'30{a:Nat}{b:Int}(_:b<=ë 30)(_:a<(b).toNat):(a+Ă0)<=ş 62:=Ø
namespace L2
open PySem PySem.Spec PyProof.Rows
abbrev cJ:=Sum Int Str
noncomputable def sO:cJ->Ās Value|.inl k,v=>Value.isInt k v|.inr x,v=>Value.isStrOf x v
noncomputable def Xk(w:World):cJ->Int|.inl k=>hashInt k|.inr x=>hashStr w x
def dq:∀{k:cJ}{v:Value},ķ sO k v->(∃i t,k=ċP i/\v=Ċq i t)\/(∃x t,k=ă4 x/\v=Ć8 x t)|.inl i,v,h=>by have(t,e):=Value.isInt_shape (k:=i) (v:=v) h;rw[ţ,{i,t,(),e}]|.inr x,v,h=>by have(t,e):=Value.isStrOf_shape (x:=x) (v:=v) h;rw[Ĉ,{x,t,(),e}]
def CW(i:Int)(t:Tok):{ķ,sO,à i,Ĉh}:=by simp[sO,Value.isInt]
def CV(x:Str)(t:Tok):{ķ,sO,ũ,ĆI x}:=by simp[sO,Value.isStrOf]
def Ua(a b:Int):{Ċ,(ċP a:cJ)=ċP b}=(a==b):=by
 rw[ρ,a,b]
 ·subst e;simp
 ·have h:¬(ċP a:cJ)=ċP b:=λq=>e (Ğv q);rw[ó,j_ h,ĂU z3.mpr e]
def T7(a b:Str):{Ċ,(ă4 a:cJ)=ă4 b}={Ċ,a=b}:=by
 rw[ρ,a,b]
 ·subst e;simp
 ·have h:¬(ă4 a:cJ)=ă4 b:=λq=>e (rk q);rw[j_ h,j_ e]
def T9(a:Int)(b:Str):{ĉv,(ċP a:cJ)=ă4 b}:=j_ (nofun)
def T8(a:Str)(b:Int):{ĉv,(ă4 a:cJ)=ċP b}:=j_ (nofun)
noncomputable def bp(prog:Zu)(w:World):Ėw prog w cJ where
 is:=sO
 hash:=Xk w
 inj:=λv a b g f=>by
  rw[ĚK,dq,g]
  ·have(j,u,(),e)||(y,u,(),e):=dq f
   ·injection e with c _;rw[c]
   ·rw[ĞR]
  ·have(j,u,(),e)||(y,u,(),e):=dq f
   ·rw[ĞR]
   ·injection e with c _;rw[c]
 byValue:=λk v h=>{ĠD,dq h}
 pyHash:=λd h=>by
  rw[ĚK,dq,d]
  ·show wpAny_pyHash_int h
  ·show wpAny_pyHash_str h
 eqBool:=λl d h=>by
  rw[ĚK,dq,l]
  ·have(j,u,(),())||(y,u,(),()):=dq d
   ·rw[Ą3,Ua,wpAny_eqBool_int h]
   ·rw[Ą3,T9,SeqAt.EqAt.int_str i t y u _ _ _ _ h]
  ·have(j,u,(),())||(y,u,(),()):=dq d
   ·rw[Ą3,T8,SeqAt.EqAt.str_int x t j u _ _ _ _ h]
   ·rw[Ą3,T7,ĥi h]
 «strs»:=λk x t v h=>by
  have(i,u,(),e)||(y,u,(),e):=dq h
  ·rw[ĞR]
  ·injection e with c _
   subst c
   cases v<;>rfl
def Hi(prog:Zu)(w:World)(k:cJ)(v:Value):(bp prog w).is k v=sO k v:=rfl
def FP(prog:Zu)(w:World)(i:Int)(t:Tok):{ķ,(bp prog w).is,à i,Ĉh}:=CW i t
def x8(prog:Zu)(w:World)(x:Str)(t:Tok):{ķ,(bp prog w).is,ũ,ĆI x}:=CV x t
inductive V where|non|bl(b:Bool)|int(i:Int)|str(x:Str)|byt(b:Ąz UInt8)|flt(b:UInt64)|ref(a:Addr)|ty(n:String)deriving DecidableEq
def bu:Ė V Value|.non,u=>u=Value.none|.bl b,u=>u=ĖY b|.int i,u=>∃t,u=Ċq i t|.str x,u=>∃t,u=Ć8 x t|.byt b,u=>∃t,u=Value.bytes b t|.flt b,u=>∃t,u=ĞN b t|.ref a,u=>u=Z7|.ty n,u=>u=ĂM n
abbrev bx:Ė Ú ĉe:=Paired bu
theorem bx.length(r:bx b d):Ėg:=ř r
theorem bx.get:∀{b:Ú}{d:Zt}{i:Nat}{x:V},bx b d->ϊ=ù->∃u,ąF=ð/\bu x u|_,_,_,_,.nil,e=>by simp at e|_,_,0,_,.cons r _,e=>by simp at e;rw[ŧ,{_,(),r}]|_,_,i+1,x,.cons _ t,e=>by rw[ĞS,bx.get (i:=i) (x:=x) t či,{u,Ċy,h2}]
theorem bx.set(r:bu x u):{ģW,bx b d->bx (b.set i x) (d.set i u)}|_,_,_,.nil=> .nil|_,_,0,.cons _ t=>ē r t|_,_,i+1,.cons q t=>{ē,q,bx.set r i t}
theorem bx.append:∀{b d:Ú}{e f:Zt},bx b e->bx d f->bx (b++d) (e++f)|_,_,_,_,.nil,s=>s|_,_,_,_,.cons r t,s=>{ē,r,bx.append t s}
theorem bx.take:{ģX,bx b d->bx (Ĉ1 n) (d.take n)}|_,_,0,_=> .nil|_,_,_+1,.nil=> .nil|_,_,n+1,.cons r t=>{ē,r,bx.take n t}
theorem bx.drop:{ģX,bx b d->bx (ĉL n) (d.drop n)}|_,_,0,r=>r|_,_,_+1,.nil=> .nil|_,_,n+1,.cons _ t=>bx.drop n t
def nL:Ė ĀV ĳ|some v,some u=>bu v u|none,none=>True|_,_=>False
def KV{b:Type}:{Ė,đF b,ĘH b}:=Paired λ(p:b×V)(q:b×Value)=>ę=q.1/\bu p.2 ņ
noncomputable def kV:cJ->V|.inl i=>Ŵ|.inr x=>ħ
inductive HO where|lst(xs:Ú)|tup(xs:Ú)|dK(kvs:Ğ)|dT(kvs:ēN)|set(S:ĉC)(n:Nat)|ins(C dx:Addr)(fs:āf)|own(x:Addr)|xd(fs:āf)|met(f x:Addr)|rng(lo hi:Int)|frz(o:Obj)(u:HO)|tbl(ps:Zx)|ext(φ:Ĵ Heap)
abbrev Hp:=Addr->ŭ HO
noncomputable def aJ(H:Hp)(a:Addr)(o:HO):Hp:=λb=>{ď,b,a,Û,H b}
def af:aJ H a o a=Û:=by unfold aJ;rw[hY ()]
def ay(h:ú a):aJ H a o b=H b:=by unfold aJ;rw[hF h]
def gc:aJ (aJ H a o) a u=aJ H a u:=by funext b;unfold aJ;split<;>rfl
def VY{H:Hp}{a b:Addr}{o u:HO}(h:H a=Û)(h':H b=ð)(d:o≠u):a≠b:=by intro e;subst e;rw[h]at h';show d (i_ h')
def aI{H:Hp}{a b:Addr}{o:HO}(h:H a=Û)(h':H b=none):a≠b:=by intro e;subst e;rw[h]at h';cases h'
section
variable(P:Zu)(w:World)
def d7(H:Hp)(h:Heap)(a:Addr):Ĵ HO|.lst d=>ĜB/\∃(b:Zt)(n:Nat),bx d b/\ω=ąs b.toArray n|.tup d=>ĜB/\∃b:ĉe,bx d b/\IsTup h a b.toArray|.dK c=>ĩ c.length/\āE a/\∃g,KV c g/\h.DictOf (bp P w) a g|.dT c=>ĩ c.length/\āE a/\∃d:ĘL Ăq,{Đ,λ(p:List cJ×V)(q:List cJ×Addr×Value)=>ę=q.1/\H Ąl={ĝ,(ę).map kV}/\bu p.2 ĀB,c,d}/\∃o i j,ω=Û/\o.ExactDict/\{ąr,.dict i j}/\i.toList={Ą8,entryOfKey {ĂQ,bp P w}}/\(d.map (·.1)).Nodup|.set S n=>h.SetOf (intKind P w) a S n|.ins C dx fs=>H dx=ăY a/\Ŭ fs.length/\dx≠a/\ω={Ù,Ĕm C dx}/\∃e,h.Ns1 dx e/\(∀f,nL ČL (e f))/\PySem.Within e (fs.map (·.1))|.own _=>∃o,ω=Û|.xd fs=>∃e,h.Ns1 a e/\∀f,nL ČL (e f)|.rng lo hi=>∃t u v,ω=Ù {Ď7,#[ďl,Θ hi u,Θ 1 v]}|.frz o u=>ω=Û/\d7 H h a u|.tbl k=>ω=Ù {ěF,ć0 k}|.met f x=>ω={Ù,ĚR f āi}|.ext φ=>φ h/\(∃o,ω=Û)/\∀h1 h2:Heap,φ h1->(∀o,ĚJ a=Û->h2.get? a=Û)->φ h2
def pz(H:Hp)(h:Heap):Prop:=∀a o,H a=Û->d7 P w H h a o
omit e
section
variable{P:Zu}{w:World}{H g:Hp}{h h':Heap}{a:Addr}{o:HO}
theorem d7.lt(x:d7 P w H h a o):ĝM a:=by cases o with|lst c=>have(_,_,_,_,e):=x;show h_ e|tup c=>have(_,_,_,p):=x;show p.lt|dK b=>rw[ĔB];show h_ e|dT b=>rw[ĔB];show h_ e|set S n=>rw[Ĝ8,x,h_ e]|ins C dx fs=>have(_,_,_,e,_):=x;show h_ e|own y=>have(_,e):=x;show h_ e|xd fs=>rw[ĥq];show h_ e|rng lo hi=>have(_,_,_,e):=x;show h_ e|frz ob u=>have(e,_):=x;show h_ e|tbl d=>show h_ {Ĩ,ω,Ù _,x}|met f y=>show h_ {Ĩ,ω,Ù _,x}|ext φ=>have(_,(_,e),_):=x;show h_ e
theorem Paired.mapP:∀{d:ĉ i}{e:ĉ j},Đ F d e->(∀a b,F a b->G a b)->Đ G d e|_,_,.nil,_=> .nil|_,_,.cons r t,f=>{ē,f _ _ r,Ĉt t f}
def d7.stay(x:d7 P w H h a o)(k:{ār,b=a\/H b=ăY a,ϴ=ð->ŵ=ð})(E:∀b,H b=ăY a->g b=ăY a)(F:∀b m,H b=ĝ m->g b=ĝ m):d7 P w g h' a o:=by induction o with|lst m=>have(z,l,n,r,e):=x;show{z,l,n,r,k _ _ Ġ e}|tup m=>have(z,l,r,ob,e,c):=x;show{z,l,r,ob,k _ _ Ġ e,c}|dK s=>have(z,y,G,r,ob,i,j,e,c):=x;show{z,y,G,r,ob,i,j,k _ _ Ġ e,c}|dT s=>have(z,y,m,r,ob,i,j,e,c):=x;show{z,y,m,{Ĉt,r,λp q z=>{z.1,F _ _ z.2.1,z.2.2}},ob,i,j,k _ _ Ġ e,c}|set S n=>have(ob,i,j,t,e,c):=x;show{ob,i,j,t,k _ _ Ġ e,c}|ins C dx fs=>have(d,z,ne,e,A,(B,i,j,I,c),r):=x;show{E _ d,z,ne,k _ _ Ġ e,A,{B,i,j,k _ _ (æ d) I,c},r}|own y=>have(ob,e):=x;show{ob,k _ _ Ġ e}|xd fs=>have(A,(B,i,j,e,c),r):=x;show{A,{B,i,j,k _ _ Ġ e,c},r}|rng lo hi=>have(t,u,v,e):=x;show{t,u,v,k _ _ Ġ e}|frz ob u J=>have(e,q):=x;show{k _ _ Ġ e,J q}|tbl D=>have e:ω=Ù {ěF,ć0 D}:=x;change ZU a=Ù {ěF,ć0 D};show k a _ Ġ e|met f y=>have e:ω=Ù {ĚR,f,â y}:=x;change ZU a=Ù {ĚR,f,â y};show k a _ Ġ e|ext φ=>have(p,(o,e),st):=x;show{st _ _ p λo q=>k _ _ Ġ q,{o,k _ _ Ġ e},st}
theorem pz.lt(x:pz P w H h)(e:H a=Û):ĝM a:=(x a o e).lt
def pz.fresh(x:pz P w H h)(e:ĜR a):H a=none:=by cases q:H a with|none=>rfl|some u=>rw[Ā,j1 (x.lt q) e,nk _]
def pz.kept(x:pz P w H h)(k:{ār,ϴ=ð,ŵ=ð}):pz P w H h':=λa o e=>(x a o e).stay (λb u _ q=>k b u q) ĈZ Ăd
def pz.laid(x:pz P w H h)(k:{ār,ϴ=ð,ŵ=ð})(f:ĜR a)(new:d7 P w (aJ H a o) h' a o):pz P w (aJ H a o) h':=λb u e=>by
 have hn:=x.fresh f
 by_cases d:b=a
 ·subst d;rw[ĄN,af,e,new]
 ·rw[ą5,ay d,(x b u e).stay (λc v _ q=>k c v q) (λc q=>{āx,ay (aI q hn)}) λc i q=>{āx,ay (aI q hn)}]
omit e
def Rd(H:Hp)(a:Addr)(u:HO):Prop:=H a=ð\/∃o,H a={Ù,.frz o u}
def Rd.ok(r:Rd H a u)(x:pz P w H h):d7 P w H h a u:=by
 have r||(o,r):=r
 ·show x a u r
 ·have(_,q):=x a _ r;show q
def WH:{Ĵ,ŭ HO}|some (.lst _)=>True|some (.dK _)=>True|some (.dT _)=>True|some (.set _ _)=>True|some (.ins _ _ _)=>True|some (.ext _)=>True|_=>False
section
variable{P:Zu}{w:World}{H:Hp}{h h':Heap}{x e:Addr}{d:HO}
def pz.write(ok:pz P w H h)(g:WH (H x))(n:e=x\/H e=ăY x)(k:{ār,ú e,ϴ=ð->ŵ=ð})(m:∃u,ZU e=ð)(new:d7 P w (aJ H x d) h' x d):pz P w (aJ H x d) h':=λb u q=>by
 have f:∀c y,H c=ăY y->c≠x:=λc y r z=>by subst z;rw[r]at g;show g
 have ntup:∀c i,H c=ĝ i->c≠x:=λc i r z=>by subst z;rw[r]at g;show g
 by_cases j:b=x
 ·subst j;rw[af]at q;rw[ā,q,new]
 ·rw[ay j]at q
  by_cases a:b=e
  ·have l:H b=ăY x:=by
    have z||z:=n
    ·rw[Ā,a.trans z,j]
    rw[ų,a,z]
   rw[q]at l;cases l;have(v,o):=m;show{v,Þ a o}
  ·show(ok b u q).stay (λc v hc r=>k c v ?_ r) (λc r=>{Þ,ay (f c b r),r}) λc i r=>{Þ,ay (ntup c i r),r}
   have()||hc:=hc
   ·show a
   ·rintro rfl;have z||z:=n
    ·show f c b hc z
    ·rw[hc]at z;rw[ā,z,j ()]
omit e
structure Un(fs ex:Zz)(H H':Hp)(h h':Heap):Prop where
 keep:{ê,ϴ=Û,H b=none->b∉fs->b∉ex->ŵ=Û}
 slot:{ê,ϴ=Û,H b=none->b∈fs->b∉ex->∃sl,ŵ=ČD}free:{ê,ϴ=Û,H b=none->b∉ex->H' b=none}
 there:{ê,ϴ=Û,b∉ex->∃o',ŵ=Ù o'}
 tups:(∀b xs,H b=ĝ xs->H' b=ĝ xs)frzs:∀b o u,H b={Ù,.frz o u}->H' b={Ù,.frz o u}tbls:∀b ps,H b=ő .tbl ps->∃more,H' b={ő,.tbl,ps++more}
section
variable{fs ex:Zz}{H g:Hp}{h h1 h':Heap}{a x e:Addr}{o:HO}
def Un.any(u:Un fs ex H g h h1){b:Addr}{ob:Obj}(q:ϴ=ū)(n:H b=none)(j:b∉ex):∃sl,ČQ=Ù {ob with slots:=sl}:=by
 by_cases c:b∈fs
 ·show u.slot b ob q n c j
 ·show{ob.slots,u.keep b ob q n c j}
def Un.kept(k:{ār,ϴ=ð,ŵ=ð}):Un fs ex H H h h':={λb ob q _ _ _=>k b ob q,λb ob q _ _ _=>{ob.slots,k b ob q},λ_ _ _ n _=>n,λb ob q _=>{ob,k b ob q},Ăd,λ_ _ _ q=>q,λ_ c q=>{#[],by rw[q];simp}}
def Un.refl:Un fs ex H H h h:=Un.kept Ăd
def Un.laid(k:{ār,ϴ=ð,ŵ=ð})(j:ĜR a)(hn:H a=none):Un fs ex H (aJ H a o) h h' where
 keep:=λb u q _ _ _=>k b u q
 slot:=λb u q _ _ _=>{u.slots,k b u q}
 free:=λb u q n _=>{Þ,ay (iA (j1 (h_ q) j)),n}
 there:=λb u q _=>{u,k b u q}
 tups:=λb c q=>{āx,ay (aI q hn)}
 frzs:=λb u c q=>{āx,ay (aI q hn)}
 tbls:=λb l q=>{#[],by rw[ay (aI q hn),q];simp}
def Un.write(j:WH (H x))(t:e=x\/H e=ăY x)(k:{ār,ú e,ϴ=ð->ŵ=ð})(m:∃u,ZU e=ð):Un fs ex H (aJ H x o) h h':=by
 have l:∀b,H b=none->ú x:=λb n z=>by subst z;rw[n]at j;show j
 have p:∀b,H b=none->ú e:=λb n z=>by
  subst z;have r||r:=t
  ·show l b n r
  ·rw[n]at r;cases r
 have hm:{ār,H b=ð,¬WH ð->ú x}:=λb u q nm z=>by subst z;rw[q]at j;show nm j
 show{λb u q n _ _=>k b u (p b n) q,λb u q n _ _=>{u.slots,k b u (p b n) q},λb u q n _=>{Þ,ay (l b n),n},λb u q _=>?_,λb s q=>{āx,ay (hm b _ q λz=>z)},λb u s q=>{āx,ay (hm b _ q λz=>z)},λb v q=>{#[],by rw[ay (hm b _ q λz=>z),q];simp}}
 by_cases c:b=e
 ·subst c;show m
 ·show{u,k b u c q}
omit e
noncomputable def WS(h:Heap)(H:Hp):ĒW:=(ģL).filter λa=>ĎF H a
noncomputable def Ef(h:Heap)(H:Hp):Heap:={ĝc,h,WS h H}
def KO(h:Heap)(H:Hp):ĚL Ef h H=h.objs.size:=PySem.W.hideAll_size _ _
def N4(e:ϴ=Û)(n:H b=none):(Ef h H).get? b=Û:=PySem.W.hideAll_get _ e λhm=>by have q:{î,ĎF H b}:=(Ċb hm).2;rw[n]at q;simp at q
def QD(e:(Ef h H).get? b=Û):ϴ=Û/\H b=none:=by have a:ϴ=Û:=PySem.W.of_hideAll (WS h H) e;show{a,?_};cases q:H b with|none=>rfl|some x=>have hm:b∈WS h H:=tf.mpr {pa.mpr (h_ a),by simp[q]};have z:(Ef h H).get? b=none:={ěq,WS h H,hm};rw[ĀJ,z,e]
noncomputable def Rx(g h:Heap)(L:Addr):Ąs Addr Obj:={Ė1,ģL,λa=>if a=L\/{î,ĎF g.get? a} then none else(ω).map λo=>(a,o)}
noncomputable def c5(g h:Heap)(L d:Addr):Ąs Addr Obj:=(Rx g h L).filter λp=>Ą4 ę d
structure WJ(K:Zp)(mg:Zs)(base:Heap):Prop where
 kin:K.In base
 glob:ė5 mg
 blt:∃mb,base.Ns builtinsNs mb/\∀x:Str,ċ0 x->mb x=ϓ x
 nolimit:base.NoLimit
structure Cx where
 prog:Program
 w:World
 K:Zp
 mg:Str->ĳ
 base:Heap
 A:Around
 N:ċ
 s₀:Shared
 H₀:Hp
 env:Env
 outer:ς
 stack:ς
 ex:ĒW
 fn:Ās Str
 calm:Bool
 pn:(Ąs Addr Obj)xe:āL Ĝ
noncomputable def iE(l:ς):ĒW:=l.filterMap (·.frame)
abbrev Cx.fs(X:Cx):ĒW:=iE X.outer
def WY(b:Scope)(x:Str):Prop:=ăE x=Ŋ\/ăE x=Η\/ăE x=ĀL
def U9(b:Scope)(x:Str):Prop:=ăE x=Ŋ\/ăE x=Η
def Xz(env:Env)(h:Heap)(m:Zs)(x:Str)(u:Value):Prop:=(đM x=Ŋ/\m x=ð)\/((đM x=Η\/đM x=ĀL)/\∃c,ěl x=ŗ/\h.IsCell c ð)
structure Cx.Ok(X:Cx):Prop where
 mod:WJ X.K X.mg X.base
 kind:Ĕw X.env.scope.kind
 glob:X.env.globals=mainGlobals
 blt:X.env.builtins=builtinsNs
 above:Ąv X.env.locals
 inj:∀x y c,ĀC=ŗ->Ĕc y=ŗ->x=y
 has:∀x,(Ė2 x=Η\/Ė2 x=ĀL)->∃c,ĀC=ŗ
 cab:{Āu,Ċ1,ĀC=ŗ->Ąv c}
 hd:Ÿ->X.A.handled=none
 frames:X.A.frames=Ù X.stack
 stk:ġ2 X.outer\/(ĉw/\ĉD)exf:∀b∈X.ex,ā2 b/\{Āu,ĀC=ŗ,c≠b}
 bs:{ê,Đ5=Û,ĕ3 b=Û/\X.H₀ b=none}
 bsz:X.base.objs.size<=X.s₀.heap.objs.size
 noex:{ê,Đ5=Û,b∉X.ex}
 exfs:∀b∈X.ex,Čo b
 funs:ģS X.base X.outer
 frf:∀b∈X.fs,X.H₀ b=none
structure aU(X:Cx)(pins:Zr)(σ:ğ3)(H:Hp)(s:Shared):Prop where
 ok:X.Ok
 os:s.os=X.s₀.os
 bare:ĄW s.gens
 base:Un X.fs X.ex X.H₀ H X.s₀.heap s.heap
 loc:∃m,ĝZ s.heap.Ns m/\∀(i:Nat)(x:Str)(v:V),Ā7=ù->ì σ=Ăw->ąX WY x->∃u,bu v u/\Xz X.env s.heap m x u
 cell:{Āu,ĀC=ŗ,∃v,s.heap.IsCell c v}
 free:H X.env.locals=none
 freeC:{Āu,ĀC=ŗ,H c=none}
 pin:∀p∈Ģl pins,ε ę=Ù p.2/\H ę=none/\ā2 ę/\Čo ę/\∀v,p.2.data≠ .cell v
 hok:ĉV H s.heap
 len:čY σ.length
section
variable{X:Cx}{f:Zr}{g:ğ3}{H B:Hp}{s:Shared}{h':Heap}
def Cx.Ok.nofr(ok:X.Ok)(e:Đ5=Û):Čo b:=λa=>ĢF (ok.funs.mem a).1 e
theorem aU.bs(I:aU X f g H s):{ê,Đ5=Û,ģ=Û/\H b=none}:=λb o e=>{I.base.keep b o (I.ok.bs b o e).1 (I.ok.bs b o e).2 (I.ok.nofr e) (I.ok.noex b o e),{ĎG,b,o,(I.ok.bs b o e).1,(I.ok.bs b o e).2,I.ok.noex b o e}}
def aU.bk(I:aU X f g H s):{ê,Đ5=Û,ģ=Û}:={ċs,I.bs b o e}
theorem aU.mod(I:aU X f g H s):WJ X.K X.mg X.base:=I.ok.mod
def aU.kIn(I:aU X f g H s):čt X.K.In:=I.ok.mod.kin.keeps I.bk
def aU.fr(I:aU X f g H s):∃m,Fr X.base X.env.locals s.heap m:=let⟨m,hn,_⟩:=I.loc
 {m,hn,I.bk,Ď9 g_ I.ok.bsz}
theorem aU.lt(I:aU X f g H s):ăC X.env.locals:=let⟨_,hn,_⟩:=I.loc;hn.lt
def aU.sz(I:aU X f g H s):Ąv s.heap.objs.size:=g_ I.ok.above (w4 I.lt)
def aU.nofs(I:aU X f g H s)(h:Ĉy a):Čo a:=λb=>by have(_,o,c,_):=đ5 b;rw[Ā,j1 (h_ c) (g_ I.sz h),nk _]
def aU.cne(I:aU X f g H s):{Āu,ĀC=ŗ,ā2 c}:=λx c e z=>by have(v,o,d,hd):=Ĉn x c e;have(m,(h,i,j,a,b,_),_):=I.loc;rw[z,a]at d;cases d;rw[b]at hd;cases hd
theorem aU.funs(I:aU X f g H s):ĊI X.base X.outer:=by
 have all:∀(l:ς),(∀b∈iE l,b∈X.fs)->ģS X.base l->ĊI X.base l:=by
  intro l
  induction l with|nil=>intro _ _;trivial|cons env r i=>intro h j;have(k,(L,o,a,hn,m,hd),n):=j;have c:L∈X.fs:=h L (by unfold iE;rw[ý,y0,a,f_]);have(sl,e):=I.base.slot L o m (ēb L c) c λz=>I.ok.exfs L z c;show{k,{L,_,a,hn,e,hd},i (λb d=>h b (by unfold iE;rw[ý,y0,a,fy _ d])) n}
 show all X.outer (λ_ d=>d) I.ok.funs
theorem aU.stack(I:aU X f g H s):ĊI X.base X.stack:=by
 have e||(e,a):=I.ok.stk
 rw[Ĺ,e,I.funs]
 ·rw[e];have(m,hn,_):=I.loc;rw[ö,.cons (by rw[I.ok.kind];decide) a hn ?_ I.funs,Heap.get?_none_of_le (Ď9 g_ I.ok.bsz)]
def aU.stkSub(I:aU X f g H s):∀b∈ĀS,b∈X.env.locals::X.fs:=λb a=>by
 have e||(e,c):=I.ok.stk
 ·rw[e]at a;show fy _ a
 ·rw[e]at a;unfold iE at a;rw[y0,c]at a;show a
def aU.stkFree(I:aU X f g H s):∀b∈ĀS,H b=none:=λb a=>by
 rcases {Ű,ēc b a}with e|a
 rw[Ĺ,e,I.free]
 ·have(_,o,c,_):=đ5 a;show {ĎG,b,o,c,ēb b a,λz=>I.ok.exfs b z a}
def aU.step{g':Ėf}{Q:Nat}{d':Drawn}{ch:Zz}(I:aU X f g H s)(h:∀b∈ch,(b∈X.ex\/Ąv b)/\ā2 b/\{Āu,ĀC=ŗ,c≠b}/\Ĉe f b)(keep:{ê,ā2 b,Čo b->b∉ch->ģ=Û->H b=none->ŵ=Û})(slot:{ê,ā2 b,b∈X.fs->b∉ch->ģ=Û->H b=none->∃sl,ŵ=ČD})(free:{ê,b∉ch,ģ=Û->H b=none->B b=none})(there:{ê,b∉ch,ģ=Û->∃F,ŵ=Ù F})(tups:∀b C,H b=ĝ C->B b=ĝ C)(frzs:∀b o u,H b={Ù,.frz o u}->B b={Ù,.frz o u})(tbls:∀b L,H b=ő .tbl L->∃G,B b={ő,.tbl,L++G})(ns:∀m,ĝZ s.heap.Ns m->ĝZ h'.Ns m)(hok:ĉV B h')(hg:ĄW g'):aU X f g B (ġf g' d' Q):=by
 have J:{ê,ĕ3 b=Û,ā2 b}:=λb o e=>iA {Ď9,j1,h_ e};have y:{ê,ĕ3 b=Û,b∉X.ex->b∉ch}:=λb o e a D=>by
  rcases(h b D).1 with z|z
  ·show a z
  ·rw[Ā,j1 (h_ e) z,nk _]
 have j:{Āu,ĀC=ŗ,∀v,s.heap.IsCell c v->h'.IsCell c v}:=λx c e v⟨o,E,hd⟩=>by
  have t:c∉ch:=λz=>(h c z).2.2.1 x c e ()
  by_cases hc:c∈X.fs
  ·have(sl,q):=slot c o (I.cne x c e) hc t E (I.freeC x c e);show{_,q,hd}
  ·show{o,keep c o (I.cne x c e) hc t E (I.freeC x c e),hd}
 show{I.ok,I.os,hg,{ĢO,ĢO,λb o e n a=>?_,λb o e a=>?_,λb C e=>tups b C (I.base.tups b C e),λb o C e=>frzs b o C (I.base.frzs b o C e),λb L e=>?_},?_,Ĝv,?_,Ĝv,λp N=>?_,hok,I.len}
 ·show keep b o (J b o e) D (y b o e a) (I.base.keep b o e n D a) (ĎG b o e n a)
 ·have(sl,A):=I.base.slot b o e n D a;have(M,K):=slot b _ (J b o e) D (y b o e a) A (ĎG b o e n a);show(M,K,)
 ·have(F,A):=ėp b o e a;show free b F (y b o e a) A (ĎG b o e n a)
 ·have(F,A):=ėp b o e a;show there b F (y b o e a) A
 ·have(O,A):=I.base.tbls b L e;have(P,K):=tbls b _ A;show{O++P,Ē K X1}
 ·have(m,hn,R):=I.loc;show{m,ns m hn,λi x v A K S=>?_};have(u,r,l):=R i x v A K S;show{u,r,?_};have l||(k,c,e,z):=l
  rw[Ř,l]
  rw[ϛ,{k,c,e,j x c e _ z}]
 ·have(v,z):=Ĉn x c e;show{v,j x c e v z}
 ·have(m,(o,_,_,E,_),_):=I.loc;show free _ o {ÿ,(h _ z).2.1,()} E I.free
 ·have(v,o,E,hd):=Ĉn x c e;show free c o (λz=>(h c z).2.2.1 x c e ()) E (I.freeC x c e)
 ·rw[ė6,I.pin,p,N];have t:ę∉ch:=λz=>(h ę z).2.2.2 p N ();show{keep ę p.2 ne nf t e n,free ę p.2 t e n,ne,nf,d}
def aU.un{t':Nat}(I:aU X f g H s)(u:ĂB Un X.fs [] H B h')(hok:ĉV B h'):aU X f g B ĎB:=by have(m,(o,l,p,i,r),_):=id I.loc;have(sl,j):=u.any i I.free Ü;show I.step (g':=s.gens) (d':=s.drawn) (ch:=[]) Ů (λb o _ c _ e n=>u.keep b o e n c Ü) (λb o _ c _ e n=>u.slot b o e n c Ü) (λb o _ e n=>u.free b o e n Ü) (λb o _ e=>u.there b o e Ü) u.tups u.frzs u.tbls (λx hm=>by have(y,d,h,a,k):=hm;rw[i]at a;rw[ā,a,{_,d,h,j,k}]) hok I.bare
def aU.call{g':Ėf}{t':Nat}{d':Drawn}{ch:Zz}(I:aU X f g H s)(u:ĂB Un ĀS ch H B h')(hok:ĉV B h')(hg:ĄW g')(d:∀b∈ch,(b∈X.ex\/Ąv b)/\ā2 b/\{Āu,ĀC=ŗ,c≠b}/\Ĉe f b):aU X f g B (ġf g' d' t'):=by have(m,(o,t,v,k,r),_):=id I.loc;have(sl,h):=u.any k I.free {ÿ,(d _ z).2.1,()};show I.step (ch:=ch) d (λb o h l hc e n=>u.keep b o e n (λz=>{đY,ēc b z} h l) hc) (λb o _ _ hc e n=>u.any e n hc) (λb o hc e n=>u.free b o e n hc) (λb o hc e=>u.there b o e hc) u.tups u.frzs u.tbls (λy hm=>by have(A,i,j,a,q):=hm;rw[k]at a;rw[ā,a,{_,i,j,h,q}]) hok hg
def aU.turned{t':Nat}{it:Addr}(I:aU X f g H s)(k:{ê,ú it,ģ=Û->ŵ=Û})(hn:H it=none)(d:ā2 it)(h1:it∈X.ex\/Ąv it)(h2:{Āu,ĀC=ŗ,c≠it})(h3:Ĉe f it):aU X f g H ĎB:=by
 have a:{ār,H b=ð,ú it}:=ĞD z hn e
 show I.step (g':=s.gens) (d':=s.drawn) (ch:=ąB) (λb h=>?_) (λb o _ _ hc e _=>k b o ğs e) (λb o _ _ hc e _=>{o.slots,k b o ğs e}) ģr (λb o hc e=>{o,k b o ğs e}) đk ĐX (λb A e=>{#[],by rw[e];simp}) ĈO ěN I.bare
 ·have e:b=it:=ĊA
  rw[ŧ,(h1,d,h2,h3,)]
 ·have(o,i,j,l,r):=hm;show{o,i,j,k _ o (m_ d) l,r}
 ·show(čl b u e).stay (λc v hc q=>k c v ?_ q) ĈZ Ăd;have z||z:=hc
  rw[Ĺ,z,a b u e]
  ·show a c _ z
def aU.tok(I:aU X f g H s)(t:Nat):aU X f g H {s with toks:=t}:=I.un (h':=s.heap) (t':=t) Un.refl I.hok
theorem aU.kept(I:aU X f g H s)(k:{ār,ģ=ð,ŵ=ð}):aU X f g H ĎB:=I.un (Un.kept k) (I.hok.kept k)
theorem aU.laid(I:aU X f g H s)(k:{ār,ģ=ð,ŵ=ð})(d:Ĉy a)(new:d7 X.prog X.w (aJ H a o) h' a o):aU X f g (aJ H a o) ĎB:=I.un (Un.laid k d (ā3 d)) (I.hok.laid k d new)
theorem aU.write(I:aU X f g H s)(h:WH (H x))(i:e=x\/H e=ăY x)(k:{ār,ú e,ģ=ð->ŵ=ð})(d:∃u,ZU e=ð)(new:d7 X.prog X.w (aJ H x o) h' x o):aU X f g (aJ H x o) ĎB:=I.un (Un.write h i k d) (I.hok.write h i k d new)
def aU.weak(I:aU X f g H s)(d:ċx g.length)(w:∀(i:Nat)v,ϊ=Ăw->ì g=Ăw):aU X f b H s:={I.ok,I.os,I.bare,I.base,let⟨m,hn,a⟩:=I.loc;{m,hn,λi x v c e h=>a i x v c (w i v e) h},I.cell,I.free,I.freeC,I.pin,I.hok,d.trans I.len}
def aU.pins_of(I:aU X f g H s)(h:∀p∈b,ε ę=Ù p.2/\H ę=none/\ā2 ę/\Čo ę/\∀v,p.2.data≠ .cell v):aU X b g H s:={I.ok,I.os,I.bare,I.base,I.loc,I.cell,I.free,I.freeC,λp a=>{Ăp,a} (λz=>I.pin p (nn _ z)) (h p),I.hok,I.len}
def AB{N:Zv}(d:N.Nodup){i j:Nat}{x:Str}(a:ì N=ù)(b:N[j]?=ù):i=j:=by have(h1,c):=ąO a;have(h2,e):=ąO b;show(List.getElem_inj d).mp (Ćn e.symm)
def Cz{M:Model}{A:Around}{E:Zq}{i:Nat}{x:Str}{v:V}{u:Value}{Q:Unit->Ĝ}(I:aU X f g H s)(hN:X.N.Nodup)(hi:Ā7=ù)(D:ąX U9 x)(r:bu v u)(h:∀s',aU X f (g.set i Ĕ) H s'->(∃a,Ĕp a s'.heap/\(a=X.env.locals\/ĀC=Ù a))->ąx s')(hf:Ċ1\/ăw x=Ŋ:=by first|show Ġ|rw[Ċj]|assumption):{ĀM,M,storeName X.env x u}:=by
 have(m,hn,hl):=id I.loc;have R:{ć,ĔZ .class||(ĔZ .module&&X.env.locals !=X.env.globals)}:=by rw[I.ok.kind];rfl
 have J:ĒG i:=Þ I.len ĉX
 have cne:=I.cne;have t:∀{a:Addr}{h':Heap},(∃o,ε a=Û/\H a=none)->ĆE a->ĉV H h':=λ{a h'}ha l b ob e=>by
  have(_,_,F):=ha;show(čl b ob e).stay (λc Y hc q=>{è,l.2 c ?_,q}) ĈZ Ăd;rw[ěe,hc]
  ·rw[ĀJ,F,e]
  ·rw[F]at hc;cases hc
 have K||K:=D
 ·show wpAny_storeName_local K hn (λh' aa l=>?_) R;have(oL,_,_,ad,_):=id hn;show h _ {I.ok,I.os,I.bare,{ĔS,ĔS,I.base.free,ĥs,I.base.tups,I.base.frzs,I.base.tbls},{_,aa,ġW},λy c e=>?_,I.free,I.freeC,čQ,t (oL,ad,I.free,) l,ġF} {_,l,Ġ}
  ·show{è,l.2 b (iA {Ď9,j1,h_ e}),I.base.keep b o e n L D}
  ·have(sl,C):=I.base.slot b o e n L D;show{sl,{è,l.2 b (iA {Ď9,j1,h_ e}),C}}
  ·have(o',C):=ėp b o e D;show{o',{è,l.2 b (iA {Ď9,j1,h_ e}),C}}
  ·by_cases O:j=i
   ·subst O;rw[hi]at C;cases C;rw[t0 J]at G;rw[ā,G,{u,r,à {K,Ü}}]
   ·rw[op (m_ O)]at G;have(u',r',q):=hl j y v' C G e3;show{u',r',?_};have(k,e)||(k,c,e,z):=q
    ·show à {k,?_};have:y≠x:=λe=>O (AB hN C (e▸hi));simp[this,e]
    rw[ϛ,{k,c,e,z.sameBut l (cne y c e)}]
  ·have(Y,z):=Ĉn y c e;show{Y,z.sameBut l (cne y c e)}
  ·rw[ė6,I.pin,p,hp];show{{è,l.2 ę ne,e},n,ne,nf,d}
 ·have P:Ċ1:=by
   have z||z:=hf
   ·show z
   ·rw[z]at K;cases K
  have(c,hc):=I.ok.has x (à K);have(Y,z):=Ĉn x c hc;show wpAny_storeName_cell I.ok.kind K hc z (λh' S l=>?_);have(oc,T,U):=id z;show h Χ {I.ok,I.os,I.bare,{ĔS,ĔS,I.base.free,ĥs,I.base.tups,I.base.frzs,I.base.tbls},{m,hn.sameBut l (m_ (cne x c hc)),ġW},λy Z e=>?_,I.free,I.freeC,čQ,t {oc,T,I.freeC x c hc} l,ġF} {c,l,æ hc}
  ·show{è,l.2 b (iA (j1 (h_ e) (I.ok.cab x c P hc))),I.base.keep b o e n L D}
  ·have(sl,C):=I.base.slot b o e n L D;show{sl,{è,l.2 b (iA (j1 (h_ e) (I.ok.cab x c P hc))),C}}
  ·have(o',C):=ėp b o e D;show{o',{è,l.2 b (iA (j1 (h_ e) (I.ok.cab x c P hc))),C}}
  ·by_cases O:j=i
   ·subst O;rw[hi]at C;cases C;rw[t0 J]at G;rw[ā,G,{u,r,æ {à K,c,hc,S}}]
   ·rw[op (m_ O)]at G;have(u',r',q):=hl j y v' C G e3;show{u',r',?_};have q||(k,Z,e,z'):=q
    rw[Ř,q]
    ·show æ {k,Z,e,z'.sameBut l ?_};rw[ėZ,O (AB hN C (I.ok.inj _ _ _ e hc▸hi))]
  ·by_cases W:Z=c
   ·subst W;show{_,S}
   ·have(w2,z2):=Ĉn y Z e;show{w2,z2.sameBut l W}
  ·rw[ė6,I.pin,p,hp];show{{è,l.2 ę ?_,e},n,ne,nf,d};intro q;rw[q,T]at e;have q':oc=p.2:=i_ e;show d Y (Ă q' U)
def ue(I:aU X f g H s)(d:X.N.Nodup)(hi:Ā7=ù)(e:ąX U9 x)(r:bu v u)(h:∀b,aU X f (g.set i Ĕ) H b->ąx b)(j:Ċ1\/ăw x=Ŋ:=by first|show Ġ|rw[Ċj]|assumption):{ĀM,M,storeName X.env x u}:=Cz I d hi e r (λb a _=>h b a) j
def aU.call'(I:aU X f g H s)(j:s'.os=s.os)(u:ĂB Un ĀS ch H B s'.heap)(hok:ĉV B s'.heap)(hg:ĄW s'.gens)(d:∀b∈ch,(b∈X.ex\/Ąv b)/\ā2 b/\{Āu,ĀC=ŗ,c≠b}/\Ĉe f b):aU X f g B s':=by have(h',a,h,i,k):=s';have e:k=s.os:=j;rw[ŧ,I.call (g':=a) (t':=i) (d':=h) u hok hg d]
omit e
abbrev XK:={āL,ĀP ă3}
abbrev St:=ğ3
abbrev VK:=ĀP V
abbrev TE:=St->χ
abbrev TT:=St->Ăa ćE
abbrev TA:=St->Ăa čN
structure jx where
 nx:Ų
 rt:VK
 bk:Ų:=Ā2
 ct:Ų:=Ā2
abbrev TS:=jx->Ų
inductive EP(X:Cx)(pins:Zr)(σ:St)(Q:VK)(u:Value)(s':Shared):Prop|mk(v:V)(H':Hp)(h0:aU X pins σ H' s')(h1:bu v u)(h2:Q v H'):EP X pins σ Q u s'
inductive TP(X:Cx)(pins:Zr)(σ:St)(Q:ćE)(b:Bool)(s':Shared):Prop|mk(H':Hp)(h0:aU X pins σ H' s')(h1:Q b H'):TP X pins σ Q b s'
inductive AP(X:Cx)(pins:Zr)(σ:St)(Q:čN)(us:Zt)(s':Shared):Prop|mk(vs:Ú)(H':Hp)(h0:aU X pins σ H' s')(h1:bx vs us)(h2:Q vs H'):AP X pins σ Q us s'
inductive GP(X:Cx)(pins:Zr)(Q:Ų)(s':Shared):Prop|mk(σ':St)(H':Hp)(h0:aU X pins σ' H' s')(h1:Q σ' H'):GP X pins Q s'
def SP(X:Cx)(b:Zr)(D:jx)(f:Flow)(d:Shared):Prop:=match f with|.next=>GP X b D.nx d|.brk=>GP X b D.bk d|.cont=>GP X b D.ct d|.ret u=>∃v a c,aU X b a c d/\bu v u/\D.rt v c
def PE(X:Cx)(e:Expr)(t:TE):Prop:=∀(a:Zr)(s:Shared)(b:St)(H:Hp)(Q:VK),aU X a b H s->t b H Q->{ű,Čx,EP X a b Q}
def PT(X:Cx)(e:Expr)(t:TT):Prop:={ġt,ćE,aU X a b H s,t b H Q->{ű,isTrue e X.env Čx,TP X a b Q}}
def PW(X:Cx)(e:Expr)(t:TT):Prop:=∀(b:ėo)(a:Zr)(s:Shared)(c:St)(H:Hp)(Q:ćE),aU X a c H s->t c H Q->{ű,isTrue e X.env b,TP X a c Q}
def PW.pt(h:PW X e t):PT X e t:=h _
def PA(X:Cx)(d:Zw)(t:TA):Prop:=∀(b:Pos)(a:Zr)(s:Shared)(c:St)(H:Hp)(Q:čN),aU X a c H s->t c H Q->{ű,spliced (ăT b d),AP X a c Q}
def PS(X:Cx)(st:Stmt)(t:TS):Prop:={ĠU,aU X a b H s,t D b H->{ű,Āi exec st,SP X a D}}
def yo(X:Cx)(st:ă2)(t:TS):Prop:={ĠU,aU X a b H s,t D b H->{ű,Āi execs st,SP X a D}}
def cz(h:ĀM M t)(b:∀a s,Q a s->d a s):ăG M t d:=ā4 h b ĖC
section
variable{X:Cx}
def nS(i:Nat):TE:=λa H Q=>∃v,Ąo=Ăw/\Q v H
def tC(v:V):TE:=λ_ H Q=>Q v H
def Tu(j:Ā7=ù)(n:ąX WY x)(hd:Āx:=by decide)(g:ă9 x ĢC:=by decide):PE X ĉS (nS i):=by
 intro d s k H Q I h;have(v,e,h):=h;have(m,hn,o):=I.loc;have(u,r,l):=o i x v j e n;have fin:EP X d k Q u s:=(v,H,I,r,h,);have(b,hm)||(b,c,hc,a):=l
 ·show wpAny_Name (wpAny_loadName_local I.ok.kind b hn hm fin) hd
 ·have b||b:=b
  ·show wpAny_Name (wpAny_loadName_cell I.ok.kind b hc a fin) hd
  ·show wpAny_Name (wpAny_loadName_free I.ok.kind b hc a fin g) hd
def ah{i j f}:PE X (.Constant Ŵ j f) (tC Ŵ):=ĐU wpAny_Constant_int {Ŵ,H,ź,ĸ,h}
def g9{b j f}:PE X (.Constant ďd j f) (tC Āw):=ĐU Constant_bool {Āw,H,I,(),h}
def tD{j f}:PE X (.Constant .none j f) (tC .non):=ĐU Constant_none {.non,H,I,(),h}
def ak{x j f}:PE X (.Constant ħ j f) (tC ħ):=ĐU Calls.Constant_str {ħ,H,ź,ĸ,h}
def Gl(X:Cx)(x:Str):Prop:=Ė2 x=Ù .globalImplicit
def qW(I:aU X b d H s)(hg:Gl X x)(hm:ās=ð)(h:Q u s)(hd:Āx:=by decide):{Β,Ϣ,X.A,ā0 ĉS,Q,E}:=Calls.Name_function_global I.ok.kind hg (Calls.loadGlobal_global (Þ I.ok.glob Ğo) hm h) hd
def oI(I:aU X b e H s)(hg:Gl X x)(hm:ās=none)(d:ϓ x=ð)(h:Q u s)(hn:ċ0 x:=by decide)(hd:Āx:=by decide):{Β,Ϣ,X.A,ā0 ĉS,Q,E}:=by have(mb,h1,h2):=I.mod.blt;show Calls.Name_function_global I.ok.kind hg (Calls.loadGlobal_builtin (Þ I.ok.glob Ğo) hm {Þ,I.ok.blt,h1.keeps I.bk} {è,h2 x hn,d} h) hd
def y4(hg:Gl X x)(hm:ās=ð)(r:bu v u)(hd:Āx:=by decide):PE X ĉS (tC v):=λ_ _ _ H _ I h=>qW I hg hm (v,H,I,r,h,) hd
def Qw{x:Str}{v:V}{u:Value}{f:Pos}(hg:Gl X x)(hm:ās=none)(b:ϓ x=ð)(r:bu v u)(hn:ċ0 x:=by decide)(hd:Āx:=by decide):PE X ĉS (tC v):=λ_ _ _ H _ I h=>oI I hg hm b (v,H,I,r,h,) hn hd
variable{a b:Expr}{g n:TE}{f:Pos}
def PC(X:Cx)(h:CmpOp)(a b:Expr)(t:TE):Prop:=∀(c:Zr)(s:Shared)(e:St)(H:Hp)(Q:VK),aU X c e H s->t e H Q->{ű,ā0 a,λv s₁=>{ăc,ā0 b,λu d=>{ăc,compareOp h v u,EP X c e Q,d},s₁}}
def tB(t:TE):TT:=ĄU t d H {Ę0,x=Ĳ c/\Q c e}
def Tw(h:PC X d a b t)(h1:ēj d b:=by first|show nobehind _ ß ß|rfl):PE X {ďA,a,[d],[b],f} t:=λc s e H Q I i=>wpAny_Compare1 (h c s e H Q I i) h1
def pZ(h:PC X i a b t)(h1:ēj i b:=by first|show nobehind _ ß ß|rfl):PT X {ďA,a,[i],[b],f} (tB t):=by intro e s j H Q I k;show wpAny_isTrue_Compare1 (cz (h e s j H _ I k) λv p h1=>cz h1 λu r h2=>cz h2 λc w⟨x,l,I1,m,o⟩=>?_) h1;have(d,(),q):=o;rw[ā,m,si (l,I1,q,)]
variable{o p:TT}{c5:Zw}
def Xb(t u:TT):TT:={ĄU,t,d,H,λc e=>{Ě,c,u d e Q,Q false e}}
def tOr(t u:TT):TT:={ĄU,t,d,H,λc e=>{Ě,c,Q true e,u d e Q}}
def W6(t:TT):TT:={ĄU,t,d,H,λc e=>Q (Ŀ c) e}
def qQ(i:PT X a o):PW X {ēL,[a],f} o:=by intro k d s j H Q I h;show isTrue_and (cz (i d s j H Q I h) λc l e=>?_);cases c with|true=>show isTrue_and_nil e|false=>show e
def dI(i:PT X a o):PW X {ċv,.Or,[a],f} o:=by intro k d s j H Q I h;show isTrue_or (cz (i d s j H Q I h) λc l e=>?_);cases c with|false=>show isTrue_or_nil e|true=>show e
def wF(m:PT X a o)(q:PW X {ēL,b::c5,f} p):PW X {ēL,a::b::c5,f} (Xb o p):=by intro k d s e H Q I h;show isTrue_and (cz (m d s e H _ I h) λc l r=>?_);have(i,I1,j):=r;cases c with|true=>show q k d l e i Q I1 j|false=>show(i,I1,j,)
def fe(m:PT X a o)(q:PW X {ċv,.Or,b::c5,f} p):PW X {ċv,.Or,a::b::c5,f} (tOr o p):=by intro k d s e H Q I h;show isTrue_or (cz (m d s e H _ I h) λc l r=>?_);have(i,I1,j):=r;cases c with|true=>show(i,I1,j,)|false=>show q k d l e i Q I1 j
def cI(i:PT X a o):PT X (.UnaryOp .Not a f) (W6 o):=by intro d s j H Q I h;show isTrue_not (cz (i d s j H (λc e=>Q (Ŀ c) e) I h) λc m k=>?_);have(e,I1,l):=k;show(e,I1,l,)
def Vt(g n:TE):TE:=ĄU g d H {Ę0,x=Ĳ c/\{Ě,c,n d e Q,Q Ćf e}}
def W5(g n:TE):TE:=ĄU g d H {Ę0,x=Ĳ c/\{Ě,c,Q Ā6 e,n d e Q}}
def Vn(g:TE):TE:=ĄU g d H {Ę0,x=Ĳ c/\Q (ĉp c) e}
def d9{d}(h:PE X a t):PE X {ċv,d,[a],f} t:=λc s e H Q I i=>BoolOp_one (h c s e H Q I i)
def cV(m:PE X a g)(q:PE X {ēL,b::c5,f} n):PE X {ēL,a::b::c5,f} (Vt g n):=by intro d s i H Q I h;show BoolOp_and (cz (m d s i H _ I h) Ĝw);rw[ĤB,l,e];cases r;show si ?_;cases c with|true=>show q d k i j Q I1 e|false=>show{Ćf,j,I1,(),e}
def VS(m:PE X a g)(q:PE X {ċv,.Or,b::c5,f} n):PE X {ċv,.Or,a::b::c5,f} (W5 g n):=by intro d s i H Q I h;show BoolOp_or (cz (m d s i H _ I h) Ĝw);rw[ĤB,l,e];cases r;show si ?_;cases c with|false=>show q d k i j Q I1 e|true=>show{Ā6,j,I1,(),e}
def MM(i:PE X a g):PE X (.UnaryOp .Not a f) (Vn g):=by intro d s j H Q I h;show UnaryOp_ (cz (i d s j H _ I h) λv q k=>?_);have(x,l,I1,m,e):=k;have(c,(),e):=e;rw[ā,m,not_of (si {ĉp c,l,I1,(),e})]
def tIf(t:TT)(g n:TE):TE:={ĄU,t,d,H,λc e=>{Ě,c,g d e Q,n d e Q}}
def qd(hc:PT X c o)(m:PE X a g)(q:PE X b n):PE X (.IfExp c a b f) (tIf o g n):=by intro e s i H Q I h;show wpAny_IfExp (cz (hc e s i H _ I h) λd j r=>?_);have(k,I1,l):=r;cases d with|true=>show m e j i k Q I1 l|false=>show q e j i k Q I1 l
omit e
def aZ(K:Zp)(H:Hp)(a:Addr)(d:Ú):Prop:={Ĥt,ğw Rd H a d,Ăk a=Û/\ăm ći/\o.dict=none/\ēp b n/\ė3/\ēd bx d}
def bj(K:Zp)(H:Hp)(a:Addr)(d:Ú):Prop:={Ĥt,ğH Rd H a d,Ăk a=Û/\ăm ăK/\ēp b n/\ė3/\ēd bx d}
noncomputable def Xu:āL ĀV|.none=>Ù .non|.bool b=>ő .bl b|.int i _=>Ù Ŵ|.str x _=>Ù ħ|.bytes b _=>ő .byt b|.float b _=>ő .flt b|.ref a=>í a|.type n=>ő .ty n|_=>none
def bu.abs(r:bu x u):Xu u=ù:=by cases x with|non=>cases r;rfl|bl _=>cases r;rfl|int _=>rw[Đ4]|str _=>rw[Đ4]|byt _=>rw[Đ4]|flt _=>rw[Đ4]|ref _=>cases r;rfl|ty _=>cases r;rfl
def bu.inj(r:bu x u)(q:bu y u):x=y:=i_ (r.abs.symm.trans q.abs)
theorem bx.inj:∀{b d:Ú}{e:Zt},bx b e->bx d e->b=d|_,_,_,.nil,.nil=>()|_,_,_,.cons r t,.cons a c=>{Ē,r.inj a,bx.inj t c}
section
variable{X:Cx}{b:Zr}{g:St}{H:Hp}{s:Shared}{a:Addr}{xs f:Ú}
def aZ.of{K:Zp}(h:H a=ò xs):aZ K H a xs:={à,à h}
def bj.of{K:Zp}(h:H a=ĝ xs):bj K H a xs:={à,à h}
def aU.list(I:aU X b g H s)(h:aZ X.K H a xs):∃d:ĉe,bx xs d/\ĝH PlainL a/\ĩ xs.length:=by
 have h||(o,d,n,c,hc,hd,i,j,r):=h
 ·have(z,d,n,r,e):=h.ok I.hok;show{d,r,{_,n,e,(),(),()},z}
 ·show{d.toList,r,{o,n,I.kIn a o c,hc,hd,ĔY},?_};have e:=r.length;simp only[lh]at e;lia
def aU.tuple(I:aU X b g H s)(h:bj X.K H a xs):∃d:ĉe,bx xs d/\ĝH IsTup a/\ĩ xs.length:=by
 have h||(o,d,n,c,hc,i,j,r):=h
 ·have(z,d,r,p):=h.ok I.hok;show(d,r,p,z,)
 ·show{d.toList,r,{o,I.kIn a o c,hc,n,ĔY},?_};have e:=r.length;simp only[lh]at e;lia
def aU.list_inj(I:aU X b g H s)(h:aZ X.K H a xs)(h':aZ X.K H a f):xs=f:=by
 have(i,r,(o,n,e,_,_,d),_):=ZF h;have(c,l,(p,q,j,_,_,k),_):=ZF h';rw[e]at j;cases j;rw[d]at k;injection k with m _;have:i=c:={ĊZ,Ğ0 m6 m}
 rw[ċo,r.inj l]
def aU.tuple_inj(I:aU X b g H s)(h:bj X.K H a xs)(h':bj X.K H a f):xs=f:=by
 have(i,r,(o,e,_,n,d),_):=ϝ h;have(c,l,(p,j,_,q,k),_):=ϝ h';rw[e]at j;cases j;rw[d]at k;injection k with m _;have:i=c:={ĊZ,Ğ0 m6 m}
 rw[ċo,r.inj l]
omit e
abbrev Cx.wish(X:Cx)(E:Zq):Cx:={X with xe:=E}
abbrev Cx.nox(X:Cx):Cx:=Ď1 Ā2
theorem Cx.Ok.wish{X:Cx}(ok:X.Ok)(E:Zq):(ē2).Ok:=(ok.mod,ok.kind,ok.glob,ok.blt,ok.above,ok.inj,ok.has,ok.cab,ok.hd,ok.frames,ok.stk,ok.exf,ok.bs,ok.bsz,ok.noex,ok.exfs,ok.funs,ok.frf,)
def Cx.Ok.unwish{X:Cx}{E:Zq}(ok:(ē2).Ok):X.Ok:=(ok.mod,ok.kind,ok.glob,ok.blt,ok.above,ok.inj,ok.has,ok.cab,ok.hd,ok.frames,ok.stk,ok.exf,ok.bs,ok.bsz,ok.noex,ok.exfs,ok.funs,ok.frf,)
section
variable{X:Cx}{b:Zr}{d:St}{H:Hp}{s:Shared}{E:Zq}
theorem aU.wish(I:aU X b d H s)(E:Zq):aU ē2 b d H s:={I.ok.wish E,I.os,I.bare,I.base,I.loc,I.cell,I.free,I.freeC,I.pin,I.hok,I.len}
theorem aU.unwish(I:aU ē2 b d H s):aU X b d H s:=(I.ok.unwish,I.os,I.bare,I.base,I.loc,I.cell,I.free,I.freeC,I.pin,I.hok,I.len,)
theorem SP.unwish(h:SP ē2 b D f e):SP X b D f e:=by cases f with|next=>rw[čG,h,(a,c,I.unwish,q,)]|brk=>rw[čG,h,(a,c,I.unwish,q,)]|cont=>rw[čG,h,(a,c,I.unwish,q,)]|ret u=>have(v,a,c,I,r,q):=h;show(v,a,c,I.unwish,r,q,)
theorem yo.nox{st:ă2}{t:TS}(h:yo X.nox st t):yo X st t:=λb s d H D I a=>{ĉ3,h b s d H D (I.wish _) a,ĢL,Ăf z}
omit e
section
variable{X:Cx}{st:Stmt}{c5:ă2}{t u:TS}{e:Expr}{te:TE}{g:Pos}
def xG:TS:=λD a H=>D.nx a H
def wm(t u:TS):TS:=λD a H=>{ċk,t,u D,a,H}
def aF:yo X [] xG:=λ_ _ a H _ I h=>XN (a,H,I,h,)
def ae(h1:PS X st t)(h2:yo X c5 u):yo X (st::c5) (wm t u):=by intro a s c H D I h;show Y7 (cz (h1 a s c H {D with nx:=u D} I h) λf d q=>?_);cases f with|next=>have(b,i,j,q):=q;show h2 a d b i D j q|ret v=>show q|brk=>show q|cont=>show q
def ai(h1:PS X st t):yo X [st] t:=by intro a s b H D I h;show Y7 (cz (h1 a s b H D I h) λf c q=>?_);cases f with|next=>show XN q|ret v=>show q|brk=>show q|cont=>show q
def aU.quiet(I:aU X b d H s):{ć,interactive X.env}:=by simp[interactive,I.ok.kind]
def LF(te:TE):TS:=λD a H=>te a H λ_ b=>D.nx a b
def aR(d:PE X e te)(f:ćF e none g.line=Ći:=by rfl):PS X (.Expr e g) (LF te):=by intro a s b H D I h;show wpAny_Expr_any (cz (d a s b H _ I h) λv j⟨x,c,I1,k,i⟩=>(b,c,I1,i,)) I.quiet f
def Pk(te:TE):TS:=λD a H=>te a H D.rt
def az(d:PE X e te):PS X (.Return (Ù e) g) (Pk te):=by intro a s b H D I h;show wpAny_Return_some (cz (d a s b H _ I h) λv k c=>?_);have(x,f,I1,i,j):=c;show(x,b,f,I1,i,j,)
def JM(c:TT)(t u:TS):TS:=λD a H=>c a H λb d=>{Ě,b,t D a d,u D a d}
def aN(hc:PT X c tc)(m:yo X a t)(n:yo X b u):PS X (.If c a b g) (JM tc t u):=by intro f s i H D I h;show wpAny_If (cz (hc f s i H _ I h) λd j o=>?_);have(k,I1,l):=o;cases d with|true=>show m f j i k D I1 l|false=>show n f j i k D I1 l
def SD:TS:=ăD
def dg:PS X st SD:=ġg
omit e
abbrev TG:=V->St->Ăa Ų
abbrev U7:=Ú->St->Ăa Ų
def PG(X:Cx)(b:Expr)(t:TG):Prop:=∀(a:Zr)(s:Shared)(c:St)(H:Hp)(v:V)(u:Value)(Q:Ų),aU X a c H s->bu v u->t v c H Q->{ű,assign b X.env u,λ_ d=>GP X a Q d}
def UL(X:Cx)(e:Zw)(t:U7):Prop:=∀(a:Zr)(s:Shared)(b:St)(H:Hp)(c:Ú)(d:Zt)(Q:Ų),aU X a b H s->bx c d->t c b H Q->{ű,(assignInOrder ((assignEach e X.env).map (·.2)) d),λ_ f=>GP X a Q f}
abbrev RB:=V->V->V->Ăa ăx
def RF(X:Cx)(t:RB):Prop:=∀(a:Zr)(s:Shared)(b:St)(H:Hp)(o i v:V)(c iv u:Value)(Q:ăx),aU X a b H s->bu o c->bu i iv->bu v u->t o i v H Q->{ű,setItem c iv u,λ_ e=>∃d,aU X a b d e/\Q d}
section
variable{X:Cx}{d:Pos}
def k7(i:Nat):TG:=λv a H Q=>Q (a.set i Ĕ) H
def IF(b:X.N.Nodup)(hi:Ā7=ù)(e:ąX U9 x)(f:Ċ1\/ăw x=Ŋ:=by first|show Ġ|rw[Ċj]|assumption):PG X ćZ (k7 i):=by intro a s g H v u Q I r h;show wpAny_assign_Name (ue I b hi e r (λj c=>{_,H,c,h}) f)
def Wt:U7:=λa b H Q=>a=[]/\Q b H
def Oc(t:TG)(u:U7):U7:=λb c H Q=>∃v r,b=v::r/\t v c H λa e=>u r a e Q
def jj:UL X [] Wt:=by intro a s b H c f Q I r h;have(e,h):=h;subst e;rw[ā,r,assignInOrder_nil (b,H,I,h,)]
def b7(h1:PG X e t)(h2:UL X b u)(f:Ďm {ĊS,e::b}.map=Ę6 e::Ďm (ĊS b).map:=by rfl):UL X (e::b) (Oc t u):=by intro a s g H o p Q I r h;have(v,q,i,h):=h;subst i;cases r with|cons r j=>rw[f];show assignInOrder_cons (cz (h1 a s g H _ _ _ I r h) λ_ k l=>?_);have(c,m,I1,n):=l;show h2 a k c m _ _ Q I1 j n
def Uj(K:Zp)(n:Nat)(t:U7):TG:=λv c H Q=>∃a b,v=ô/\bj K H a b/\ċx n/\t b c H Q
def Tt(hc:Ÿ)(h:UL X f t)(hn:{ĆS,ĊS f,n}:=by rfl)(g:Ā4 (ĊS f).findIdx?=none:=by rfl):PG X (Ĉf f k d) (Uj X.K n t):=by intro c s j H v u Q I r i;have(a,m,p,q,w,i):=i;subst p;cases r;have(x,l,y,A):=ϝ q;rw[ċR,assign_Tuple_tuple ϭ y (by simp[hn,<-w,l.length]) g λh' z=>?_,aU X c j H Χ,{Đs,I.kept,s.toks,z b o (iA (h_ e)) e}];show h c _ j H m _ Q I1 (by simpa using l) i
def Xn(to b:TE)(t:RB):TG:=λv a H Q=>to a H λo c=>b a c λi e=>t o i v e λf=>Q a f
def oy(f:PE X o to)(hi:PE X i g)(j:RF X t)(m:∀v,assign (ćo o i d) X.env v=(do
   let b<-(Ĉl [v] ą2)let iv<-{Ĉl,[v,b],ā0 i}ĎM d
   {Ĉl,[v,b,iv],setItem b iv v}release [v,b,iv] []):=by rw[ą7]):PG X (ćo o i d) (Xn to g t):=by intro a s e H v u Q I r h;rw[m];show a_ (n_ (cz (f a s e H _ I h) λb k c=>?_));have(x,l,I1,n,p):=c;show a_ (n_ (cz (hi a k e l _ I1 p) λiv q c=>?_));have(y,w,z,r2,A):=c;show a_ (YM (a_ (n_ (cz (j a q e w x y v b iv u _ z n r2 r A) λ_ E c=>?_))));have(B,C,D):=c;show wpAny_release (e,B,C,D,)
def Bw(te:TE)(g:TG):TS:=λD a H=>te a H λx b=>g x a b D.nx
def mn(f:PE X e te)(hg:PG X b g)(i:swapsWithSole [b] e d.line X.env=Ći:=by rfl)(j:swappedStores [b] e X.env=Ϙ none:=by rfl)(h1:Ďm {ĊS,[b]}.map=[Ę6 b]:=by rfl):PS X {ĉJ,[b],e,d} (Bw te g):=by intro a s c H D I h;rw[ϑ,wpAny_Assign_stores (cz (f a s c H _ I h) λv k⟨x,l,I1,m,n⟩=>?_) i j,h1,cz (hg a k c l x v _ I1 m n) λ_ o q=>q]
def Ai(f:X.N.Nodup)(hi:Ā7=ù)(g:ąX U9 x)(j:PE X e te)(m:ćF e ğ2 d.line=Ći:=by rfl)(n:Ċ1\/ăw x=Ŋ:=by first|show Ġ|rw[Ċj]|assumption):PS X {ĉJ,[Ċ8],e,d} (Bw te (k7 i)):=by intro a s c H D I h;rw[ö,wpAny_Assign_Name (cz (j a s c H _ I h) λv q⟨y,k,I1,l,o⟩=>?_) m,ue I1 f hi g l (λr p=>{_,k,p,o}) n]
omit e
structure It where
 go:ĀP Nat
 yld:{ξ,Hp->ĀP V}
 stop:ĀP Nat
def xE(X:Cx)(d:Zr)(H:Hp)(b:Addr):Prop:=H b=none/\ā2 b/\Čo b/\(b∈X.ex\/Ąv b)/\{Āu,ĀC=ŗ,c≠b}/\Ĉe d b
def aU.fpOk(I:aU X d h H s)(f:Ĉy b)(hn:g b=none):xE X d g b:=by
 show{hn,mu (j1 I.lt f),I.nofs f,{æ,g_ I.sz f},ĕa,λp a z=>?_}
 ·have(v,q):=Ĉn x c e;rw[Ā,j1 q.lt (ąl f),nk _]
 ·rw[Ā,j1 (h_ (I.pin p a).1) (ąl f),nk _]
structure Cm(P:Zu)(w:World)(K:Zp)(tg:Expr)(J:It)(fp:Zz)(it:Addr)(tn:ċA Nat):Prop where
 mem:it∈fp
 obj:∀i h,tn i h->{đq,ϴ=Û/\∀v,{ĝQ,.cell v}}
 keep:∀i h h',tn i h->(∀b∈fp,∀o,ϴ=Û->ŵ=Û)->tn i h'
 item:∀(X:Cx),Ăy->X.w=w->X.K=K->{Ġc,Ÿ,aU X pins σ H s->(ĄQ xE X pins H b)->tn i s.heap->J.go i H->{ęW,X.A,ĘP,λr s1=>∃u,r=ð/\{đg,Ąa,ĕI tg ćq u,λ_ s2=>∃x H',aU X pins σ H' s2/\bu x u/\J.yld i H x H'/\tn (i+1) s2.heap/\{Ą1,H' b},E,s1}}}
 done:∀(X:Cx),Ăy->X.w=w->X.K=K->{Ġc,Ÿ,aU X pins σ H s->(ĄQ xE X pins H b)->tn i s.heap->ĉO i H->{ęW,X.A,ĘP,λr s1=>r=none/\aU X pins σ H s1}}
 self:{ęX,tn i s.heap,τ it s->{ŏ,Ćo ćq}}
abbrev TI:=St->{Ăa,ĀP It}
inductive WZ(X:Cx)(pins:Zr)(σ:St)(tg:Expr)(R:ĀP It)(itv:Value)(s2:Shared):Prop|mk(it:Addr)(fp:Zz)(tn:ċA Nat)(J:It)(H':Hp)(h0:itv=ćq)(h1:aU X pins σ H' s2)(h2:Cm X.prog X.w X.K tg J fp it tn)(h3:tn 0 s2.heap)(h4:(ĄQ xE X pins H' b))(h5:R J H'):WZ X pins σ tg R itv s2
def PI(X:Cx)(d iter:Expr)(e:TI):Prop:=∀(a:Zr)(s:Shared)(b:St)(H:Hp)(R:ĀP It),aU X a b H s->e b H R->{ű,ā0 iter,λv c=>{ăc,Ćo v,WZ X a b d R,c}}
def C0(d:ε it=Û)(hc:{ăm,ů n})(hd:ēn e)(hn:{ć,Ėh n})(b:ąx s):{ĀM,M,ĕI f ćq u}:=by unfold letOwnedTupleGo;cases f<;>first|show eN b|(cases u<;>first
 |show eN b
    |(show a_ (wpAny_load d ?_)
      rw[hc,hd];rw[ā5,ĀM M {āX,Ėh n&&e[0]?==ő rawInt _},hF (by intro h;rw[đJ,hn,Bool.false_and,h]),eN b]))
def RL(K:Zp)(a:Addr):It:={λi H=>∃b x,aZ K H a b/\ϊ=ù,λi H x c=>c=H/\∀b,aZ K H a b->ϊ=ù,λi H=>∃b,aZ K H a b/\Ān i}
noncomputable def RJ(K:Zp)(a:Addr):It:={λi H=>∃b x,bj K H a b/\ϊ=ù,λi H x c=>c=H/\∀b,bj K H a b->ϊ=ù,λi H=>∃b,bj K H a b/\Ān i}
noncomputable def O6(lo:Int)(n:Nat):It:={λi _=>i<n,λi H x a=>a=H/\x={ã,lo+i},λi _=>n<=i}
def Cw{P:Zu}{w:World}{K:Zp}{G:Expr}(a it:Addr):Cm P w K G (RL K a) ąB it (λi h=>h.IsListIter it a i)where
 mem:=Ü
 obj:=λi h st b g=>by
  have e:b=it:=ĐM
  subst e;rw[ĖS,st,{o,e,Ďa d z}]
 keep:=λi h h' st k=>st.at λo e=>k it Ü o e
 item:=by rw[Ġd];have(J,x,m,t):=hg;have(y,A,p,L):=ZF m;have(u,M,ru):=A.get t;rw[ĕR,l,it,Ü];rw[ċR,wpAny_pyNext_list_item st p.isList (x:=u) Ģb λh' j N=>?_,aU X f F H Χ,ĉ8 {Ėm,N.2 b g,e} B f1 f3 C D];rw[ĖS,id j,{u,(),C0 (s:=Χ) e c d ß {x,H,I1,ru,{ą,λS Q=>{Þ,I.list_inj Q m,t}},j,λb g=>(l b g).1}}]
 done:=by rw[Ġd];have(J,m,t):=hg;have(y,A,p,L):=ZF m;rw[ĕR,l,it,Ü];have T:=A.length;show wpAny_pyNext_list_end ϭ st p.isList (by simp;exact o'0 t T) λh' R=>ą {ĉ8,ď8 R b o g e,B,f1,f3,C,D}
 self:=čm wpAny_pyIter_listiter st h
def zj{P:Zu}{w:World}{K:Zp}{G:Expr}(a it:Addr):Cm P w K G (RJ K a) ąB it (λi h=>Ėx it a i)where
 mem:=Ü
 obj:=λi h st b g=>by
  have e:b=it:=ĐM
  subst e;rw[ĖS,st,{o,e,Ďa d z}]
 keep:=λi h h' st k=>st.at λo e=>k it Ü o e
 item:=by rw[Ġe];have(J,x,n,y):=hg;have(j,A,p,L):=ϝ n;have(u,M,ru):=A.get y;rw[ĕR,m,it,Ü];rw[ċR,wpAny_pyNext_tuple_item st {čP,ĂI a j.toArray} (x:=u) Ģb λh' l N=>?_,aU X f F H Χ,ĉ8 {Ėm,N.2 b g,e} B f1 f3 C D];rw[ĖS,id l,{u,(),C0 (s:=Χ) e c d ß {x,H,I1,ru,{ą,λS Q=>{Þ,ĖV Q n,y}},l,λb g=>(m b g).1}}]
 done:=by rw[Ġe];have(J,n,y):=hg;have(j,A,p,L):=ϝ n;rw[ĕR,m,it,Ü];have T:=A.length;show wpAny_pyNext_tuple_end ϭ st {čP,ĂI a j.toArray} (by simp;exact o'0 y T) λh' R=>ą {ĉ8,ď8 R b o g e,B,f1,f3,C,D}
 self:=čm wpAny_pyIter_tupleiter st h
def GB{P:Zu}{w:World}{K:Zp}{u:Expr}(it:Addr)(lo:Int)(n:Nat):Cm P w K u (O6 lo n) ąB it (λi h=>IsRangeIter h it (lo+ş i*1) (ϩ-ş i) 1)where
 mem:=Ü
 obj:=λi h st b c=>by
  have e:b=it:=Ĉz
  rw[ŧ,{_,st,λv z=>by have x:Data.fields _=Data.cell v:=z;cases x}]
 keep:=λi h h' st k=>k it Ü _ st
 item:=by rw[Ĥl,f it Ü];have W:=Walks.range (prog:=X.prog) (w:=X.w) ϭ it lo 1 n;show W.item i s _ _ hg st λv h' tk y d A=>?_;have(t,()):=y;have I1:aU X a r H ĉr:=I.turned (λb o c e=>A b o Ĉz e) m f1 f3 p q;show{_,(),C0 (s:=ĉr) (n:="range_iterator") d () () ß {{ã,lo+i},H,I1,{t,?_},Λ,d,λb c=>(f b c).1}};rw[Int.mul_one]
 done:=by rw[Ĥl,f it Ü];show wpAny_pyNext_range_end ϭ st (by have:n<=i:=hg;lia) λh' B=>ą {ĉ8,λb o c e=>B b o c e,m,f1,f3,p,q}
 self:=čm wpAny_pyIter_rangeiter st h
section
variable{X:Cx}{y:Expr}
def R7(K:Zp)(d:TE):TI:=λc H R=>d c H λx b=>∃a,x=ô/\(∃e,aZ K b a e)/\R (RL K a) b
def Wj(K:Zp)(d:TE):TI:=λc H R=>d c H λx b=>∃a,x=ô/\(∃e,bj K b a e)/\R (RJ K a) b
def Qq{l:Expr}{f:TE}(g:PE X l f):PI X y l (R7 X.K f):=by
 intro c s i H R I h;show cz (g c s i H _ I h) λv d j=>?_;have(x,k,I1,m,n):=j;have(a,e,(w,r),q):=n;rw[ēe,m];have(t,z,p,A):=I1.list r;rw[ēh,Wk p.isList ?_,{d.heap.objs.size,Ģn,_,_,k,(),{ċl,d.toks,d_ _ e},Cw a _,{_,ge _ (),(),()},Ğ5,q},ĥb b,ģb]
 rw[ŧ,{Ċh,eH _,eH _}]
def Ts{l:Expr}{g:TE}(i:PE X l g):PI X y l (Wj X.K g):=by
 intro c s j H R I h;show cz (i c s j H _ I h) λv d k=>?_;have(x,m,I1,n,r):=k;have(a,e,(w,t),q):=r;rw[ēe,n];have(f,z,p,A):=Ęn t;rw[ēh,z8 {čP,d.heap.IsTuple a f.toArray} ?_,{d.heap.objs.size,Ģn,_,_,m,(),{ċl,d.toks,d_ _ e},zj a _,{_,ge _ (),(),()},Ğ5,q},ĥb b,ģb]
 rw[ŧ,{Ċh,eH _,eH _}]
def Fj{d:Zr}{f:St}{H:Hp}{s:Shared}{R:ĀP It}{E:Zq}{lo hi:Int}{t u v:Tok}{tk:Nat}(I:aU X d f H s)(h1:-(2^62)<=lo)(h2:lo<2^62)(h3:-(2^62)<=hi)(h4:hi<2^62)(q:R (O6 lo (āS hi lo)) H):{đg,Ϣ,Ćo Ħ,WZ X d f y R,E,Ċv {Ď7,#[ďl,Θ hi u,Θ 1 v]} tk}:=by
 rw[ċR,wpAny_pyIter_range (IsRange.new ..) (small_one h1 h2 h3 h4) ?_,aU X d f H {Ċv,{Ď7,#[ďl,Θ hi u,Θ 1 v]},tk},I.kept Ċg];show{ĈM {Ď7,#[ďl,Θ hi u,Θ 1 v]},[ĈM {Ď7,#[ďl,Θ hi u,Θ 1 v]}],_,_,H,(),{ċl,tk,d_ _ e},GB _ lo (āS hi lo),?_,λb a=>?_,q}
 ·have c:lo+Ď 0*1=lo:=Ü
  have g:{Ď,āS hi lo}-Ď 0=Builtin.Range.rangeSize lo hi 1:=by rw[rangeSize_one];split<;>lia
  rw[Ćq,IsRangeIter _ _ (lo+Ď 0*1) ({Ď,āS hi lo}-Ď 0) 1,c,g,ge _ ()]
 ·have e:b=ĈM {Ď7,#[ďl,Θ hi u,Θ 1 v]}:=ģc
  rw[ŧ,{Ċh,eH _,eH _}]
def Wn(b:TA):TI:=λa H R=>b a H λc d=>∃j:Int,c=[ã j]/\-(2^62)<=j/\j<2^62/\R (O6 0 j.toNat) d
def Wm(b:TA):TI:=λa H R=>b a H λc d=>∃i j:Int,c=[Ŵ,ã j]/\(-(2^62)<=i/\i<2^62/\-(2^62)<=j/\j<2^62)/\R (O6 i (āS j i)) d
def gO{a:Expr}{f:TA}{p b:Pos}(hg:Gl X "range")(hm:Č3 "range"=none)(g:PA X [a] f)(i:Υ [a]=[ăR a]:=by rfl):PI X y {āc,Ĉv "range" p,[a],b} (Wn f):=by intro c s k H R I h;show Call_ (oI I hg hm boot_range (y1 (cz (g b c s k H _ I h) λo u⟨v,w,I1,l,d⟩=>?_) i ()));have(j,e,d,m,q):=d;subst e;cases l with|cons r n=>cases n;rw[āB,r,call_range_1 (Fj I1 Ø Ø d m ĐF)]
def CI(hg:Gl X "range")(hm:Č3 "range"=none)(m:PA X [a,b] n)(o:Υ [a,b]=[ăR a,ăR b]:=by rfl)(d:Υ [b]=[ăR b]:=by rfl):PI X y {āc,Ĉv "range" p,[a,b],f} (Wm n):=by intro c s l H R I h;show Call_ (oI I hg hm boot_range (y1 (cz (m f c s l H _ I h) λA B⟨C,D,I1,u,g⟩=>?_) (Ē o d) (by rw[d];rfl)));have(i,j,e,(g,v,w,x),q):=g;subst e;cases u with|cons r k=>cases k with|cons z k=>cases k;rw[ĔV];have(E,()):=z;show call_range_2 (Fj I1 g v w x q)
def W9(f:TI)(g:TG)(h:TS):TS:=λD a H=>f a H λJ j=>{ċ3,ČN,W 0 m a j,∀i m a H,W i m a H->(ĉO i H/\D.nx a H)\/(J.go i H/\∃N:Ų,(∀b c,N b c->∃e,e<m/\W (i+1) e b c)/\{Āu,J.yld i H x c,g x a c λd k=>h (ĂH N N) d k})}
noncomputable def wI(fp:Zz)(h:Heap):Ąs Addr Obj:=fp.filterMap λb=>(ϴ).map λo=>(b,o)
def jE(d:b∈fp)(e:ϴ=Û):(b,o)∈wI fp h:=XX.mpr {b,d,by rw[e];rfl}
def Km(d:p∈wI fp h):ę∈fp/\Ă6 ę=Ù p.2:=by have(b,a,e):=XX.mp d;cases q:ϴ with|none=>rw[ĀJ,q,e]|some o=>rw[q]at e;have c:(b,o)=p:=i_ e;subst c;show(a,q,)
def aU.pinned(I:aU X f g H s)(h:ĄQ xE X f H b)(i:{đq,ģ=Û/\∀v,{ĝQ,.cell v}}):aU X (f++wI fp s.heap) g H s:=I.pins_of λp j=>{Ăp,j} (λz=>I.pin p (lm _ z)) λz=>by have(a,e):=Km z;have(k,f1,f2,_):=h ę a;have(o,c,d):=i ę a;rw[e]at c;rw[ā,c,(e,k,f1,f2,d,)]
def aU.unpinned(I:aU X (pins++pl) b H s):aU X pins b H s:=I.pins_of λp a=>I.pin p (lm _ (nn _ a))
def gn(E:PassesOwn Ϣ X.A X.env X.xe)(hc:Ÿ)(hi:PI X y iter wi)(hg:PG X y g)(j:yo X F tb)(hs:∀x,ąg=ąH:=by rw[ą7]):PS X (.For y iter F [] aa) (W9 wi g tb):=by
 intro a s Z H D I h;show wpAny_For (cz (hi a s Z H _ I h) λv s1 h1=>cz h1 λad s2 h2=>?_) hs;have(it,fp,tn,J,H2,e,I2,T,P,f2,W,(m0,w0),G):=h2;subst e;have k:∀{z:Hp},{Ą1,z b}->ĄQ xE X a z b:=λhn b j=>{hn b j,(f2 b j).2};show codeAny_forLoop_any (λn s'=>∃i l z,aU X a l z s'/\tn i s'.heap/\{Ą1,z b}/\W i n l z) ?_ m0 {0,Z,H2,I2,P,λb j=>(f2 b j).1,w0};intro n s3(i,p,O,I3,K,L,w3);have(stop,qn)||(go,N,hN,step):=G i n p O w3
 ·show XM E (cz (T.done X () () () hc i a s3 p O X.xe I3 (k L) K stop) λr s4⟨Q,I4⟩=>?_);subst Q;show XN (p,O,I4,qn,)
 ·show XM E (cz (T.item X () () () hc i a s3 p O X.xe I3 (k L) K go) λr s4⟨u,Q,h4⟩=>?_);subst Q;show XM E (cz h4 λ_ s5 R=>?_);have(x,H5,I5,r5,y5,C,S):=R;have U:=I5.pinned (k S) (T.obj _ _ C);show XM E (cz (hg _ s5 p H5 x u _ U r5 (step x H5 y5)) λ_ s6 R=>?_);have(V,H6,I6,q6):=R;show XM E (cz (j _ s6 V H6 _ I6 q6) λf Y B=>?_);have again:∀{c:St}{q:Hp},aU X (a++wI fp s5.heap) c q Y->N c q->∃m,m<n/\∃i l z,aU X a l z Y/\tn i Y.heap/\{Ą1,z b}/\W i m l z:=λ{c q}t M=>by have(m',hm,w7):=hN c q M;show{m',hm,i+1,c,q,t.unpinned,T.keep _ _ _ C λb j o e=>(t.pin (b,o) (lm _ (lm _ (jE j e)))).1,λb j=>?_,w7};have(o,e,d):=T.obj _ _ C b j;show(t.pin (b,o) (lm _ (lm _ (jE j e)))).2.1
  cases f with|next=>have(c,q,t,M):=B;show again t M|cont=>have(c,q,t,M):=B;show again t M|brk=>have(c,q,t,B):=B;show(c,q,t.unpinned,B,)|ret v=>have(x7,c,q,t,r7,B):=B;show(x7,c,q,t.unpinned,r7,B,)
omit e
def vD{K:Zp}{a:Addr}{xs:Ú}{g:TG}{tb:TS}{D:jx}{b:St}{H:Hp}(Pv:Ĉc)(h0:Pv 0 b H)(o:{Čj,Ąp,Pv i b H->aZ K H a xs})(r:∀i x b H,Ĉb=ù->Pv i b H->g x b H λd j=>tb {ĂH,Pv (i+1),Pv (i+1)} d j)(hd:{āP,ČS b H,D.nx b H}):{đz,ČN,W 0 m b H,W i m b H->((RL K a).stop i H/\D.nx b H)\/((RL K a).go i H/\∃N:Ų,(∀f h,N f h->∃n,n<m/\W (i+1) n f h)/\∀x h,(RL K a).yld i H x h->g x b h λd j=>tb (ĂH N N) d j)}:=by
 show{ĒL,m=ăt/\Ąp/\Pv i b H,{xs.length,Ü,ku _,h0},?_};rw[ĢR,o i b H hi p]
 rw[ęl,i]
 ·rw[Ďe,æ {{xs,xs[i],q,ċ8},Pv (i+1),λf h k=>{{Ąy,i+1},{Ϭ,o'1 hi c},(),c,k},Ĝx},y];rw[ŧ,r i x b _ (y xs q) p]
 ·rw[Ą9,Ē2 i]
  rw[ąk,{{xs,q,eH _},hd b H p}]
def Ej{K:Zp}{a:Addr}{xs:Ú}{g:TG}{n:TS}{D:jx}{b:St}{H:Hp}(Pv:Ĉc)(h0:Pv 0 b H)(r:{Čj,Ąp,Pv i b H->bj K H a xs})(t:∀i x b H,Ĉb=ù->Pv i b H->g x b H λd j=>n {ĂH,Pv (i+1),Pv (i+1)} d j)(hd:{āP,ČS b H,D.nx b H}):{đz,ČN,W 0 m b H,W i m b H->((RJ K a).stop i H/\D.nx b H)\/((RJ K a).go i H/\∃N:Ų,(∀f h,N f h->∃o,o<m/\W (i+1) o f h)/\∀x h,(RJ K a).yld i H x h->g x b h λd j=>n (ĂH N N) d j)}:=by
 show{ĒL,m=ăt/\Ąp/\Pv i b H,{xs.length,Ü,ku _,h0},?_};rw[ĢR,r i b H hi p]
 rw[ęl,i]
 ·rw[Ďe,æ {{xs,xs[i],q,ċ8},Pv (i+1),λf h k=>{{Ąy,i+1},{Ϭ,o'1 hi c},(),c,k},Ĝx},y];rw[ŧ,t i x b _ (y xs q) p]
 ·rw[Ą9,Ē2 i]
  rw[ąk,{{xs,q,eH _},hd b H p}]
def nI{lo:Int}{n:Nat}{g:TG}{tb:TS}{D:jx}{b:St}{H:Hp}(Pv:Ĉc)(h0:Pv 0 b H)(q:{Čj,i<n,Pv i b H->g {ã,lo+i} b H λd j=>tb {ĂH,Pv (i+1),Pv (i+1)} d j})(hd:{āP,Pv n b H,D.nx b H}):{đz,ČN,W 0 m b H,W i m b H->((O6 lo n).stop i H/\D.nx b H)\/((O6 lo n).go i H/\∃N:Ų,(∀f h,N f h->∃o,o<m/\W (i+1) o f h)/\∀x h,(O6 lo n).yld i H x h->g x b h λd j=>tb (ĂH N N) d j)}:=by
 rw[ĚD,{ĒL,m=n-i/\i<=n/\Pv i b H,{n,Ü,ku _,h0},?_}]
 rw[ĆM,i,n]
 ·rw[Ďe,æ {a,Pv (i+1),λf h c=>{n-(i+1),{Ϭ,o'1 hi a},(),a,c},Ĝx},y];subst e y;show q i b _ a p
 ·rw[Ą9,i=n]
  rw[ąk,{eH _,hd b H p}]
abbrev R2:=V->V->χ
def oS(X:Cx)(f:ē6)(r:R2):Prop:=∀(a:Zr)(s:Shared)(b:St)(H:Hp)(x y:V)(v u:Value)(Q:VK),aU X a b H s->bu x v->bu y u->r x y H Q->{ű,f v u,EP X a b Q}
def Xv(X:Cx)(f:ĜZ)(r:V->χ):Prop:=∀(a:Zr)(s:Shared)(b:St)(H:Hp)(x:V)(v:Value)(Q:VK),aU X a b H s->bu x v->r x H Q->{ű,f v,EP X a b Q}
def dN(X:Cx)(f:Value)(r:Ú->χ):Prop:=∀(a:Zr)(s:Shared)(b:St)(H:Hp)(c:Ú)(d:Zt)(Q:VK),aU X a b H s->bx c d->r c H Q->{ű,call f d,EP X a b Q}
def Xw(X:Cx)(r:V->Ăa ćE):Prop:=∀(a:Zr)(s:Shared)(b:St)(H:Hp)(x:V)(v:Value)(Q:ćE),aU X a b H s->bu x v->r x H Q->{ű,truthy v,TP X a b Q}
def JL(r:R2)(b d:TE):TE:={Č6,b,a,H,λx c=>d a c λy e=>r x y e Q}
def tUn(r:V->χ)(b:TE):TE:={Č6,b,a,H,λx c=>r x c Q}
def rI(C:Ė Int Int)(g:Int->Int->V):R2:={ĐP,x=Ŵ/\y=ã j/\C i j/\Q (g i j) H}
def Qj(g:Int->Int->V):R2:={ĐP,x=Ŵ/\y=ã j/\Q (g i j) H}
def rU(g:Int->V):V->χ:=λx H Q=>∃i,x=Ŵ/\Q (g i) H
section
variable{X:Cx}{a b:Expr}{d m:TE}{e:Pos}
def UB(q:PE X a d)(r:PE X b m){g:Zr}{s:Shared}{i:St}{H:Hp}{R:V->ĀP V}(I:aU X g i H s)(h:d i H λx p=>m i p λy j=>R x y j){Q:Zq}{f:ē6}(t:∀v u o x y j,aU X g i j o->bu x v->bu y u->R x y j->{ăc,f v u,Q,o}):{ű,ā0 a,λv s₁=>{ăc,ā0 b,λu n=>{ăc,f v u,Q,n},s₁}}:=by show cz (q g s i H _ I h) λv l k=>?_;have(x,p,I1,z,B):=k;show cz (r g l i p _ I1 B) λu o k=>?_;have(y,j,C,r2,D):=k;show t v u o x y j C z r2 D
def au{g:Operator}{r:R2}(i:oS X (ąT g) r)(j:PE X a d)(n:PE X b m):PE X (.BinOp a g b e) (JL r d m):=by intro f s k H Q I h;show wpAny_BinOp (UB j n I h λv u l x y o p t w q=>i f l k o x y v u Q p t w q)
def VR(i:Xv X (unaryOp j) r)(n:PE X a d):PE X (.UnaryOp j a e) (tUn r d):=by intro f s g H Q I h;show UnaryOp_ (cz (n f s g H _ I h) Ĝw);have(x,o,I1,p,q):=l;show i f k g o x v Q I1 p q
def VV{f:ē6}{C:Ė Int Int}{g:Int->Int->Int}(rule:{ęY,C i j,Q {Ęa,g i j} ĉB->{Β,Ϣ,X.A,f Ĉh (Θ j u),Q,E}}):oS X f (rI C {Ć6,g i j}):=by intro k s p H x y v u Q I l n h;have(i,j,(),(),hc,q):=h;rw[Ğm,n];show rule i j t o s _ _ hc {{ã,g i j},H,ź,ĸ,q}
def TC{f:ē6}{g:Int->Int->Int}(rule:{ęY,Q {Ęa,g i j} ĉB,{Β,Ϣ,X.A,f Ĉh (Θ j u),Q,E}}):oS X f (Qj {Ć6,g i j}):=by rw[Ġl,h];rw[Ğm,n];show rule i j t o s _ _ {{ã,g i j},H,ź,ĸ,q}
def QB{f:ē6}{g:Int->ĉC}(rule:{ęY,Q {ēq,g i j} s,{Β,Ϣ,X.A,f Ĉh (Θ j u),Q,E}}):oS X f (Qj {ēu,g i j}):=by rw[Ġl,h];rw[Ğm,n];show rule i j t o s _ _ {{Ĳ,g i j},H,I,(),q}
def iC(i j:Int):Prop:=0<j/\čZ j
def XE(i j:Int):Prop:=0<=j/\ē4 j/\ġo 2 64
def UU(i j:Int):Prop:=(-(2^64)<i/\i<2^64)\/(-(2^64)<j/\j<2^64)
def UU.ok(h:UU i j):IntMulOk i j:=by
 have(h1,h2)||(h1,h2):=h
 ·show .of_left (intBits_le_64 h1 h2)
 ·show .of_right (intBits_le_64 h1 h2)
def two_pow_nn(k:Nat):û<=2^k:={Þ,two_pow_cast,Int.natCast_nonneg _}
def cu:oS X đV (Qj {Ć6,i+j}):={ĊG,TC,add_int q}
def gp:oS X (ąT .Sub) (Qj {Ć6,i-j}):={ĊG,TC,sub_int q}
def jl:oS X ĝB (rI UU {Ć6,i*j}):=VV λ_ _ _ _ _ _ _ hc q=>mul_int q hc.ok
def cj:oS X (ąT .FloorDiv) (rI iC {Ć6,i/j}):={ěd,VV,by rw[Ď2,û<j,hc.1,čZ j,hc.2];show floordiv_int Ø {āx,X0 i (o'2 h1)} {à,ġS Ø}}
def bq:oS X (ąT .Mod) (rI (λ_ j=>0<j) {Ć6,i%j}):={ěd,VV,by have h1:û<j:=hc;show mod_int' Ø {āx,{ģh,i,o'2 hc}}}
def Tz:oS X (ąT .Pow) (rI XE {Ć6,i^j.toNat}):=VV λ_ _ _ _ _ _ _ hc q=>pow_int_small hc.1 hc.2.1 hc.2.2 q
def Ty:oS X (ąT .RShift) (rI (λ_ j=>0<=j) {Ć6,i/2^j.toNat}):={ěd,VV,rshift_int hc {āx,X0 i (two_pow_nn _)}}
def MX:oS X (ąT .BitAnd) (Qj {Ć6,Ġb i j}):={ĊG,TC,and_int q}
def unI{f:ĜZ}{g:Int->Int}(rule:∀(i:Int)(t:Tok)(s:Shared)(Q:Zq)(E:Zq),Q {Ęa,g i} ĉB->{Β,Ϣ,X.A,f Ĉh,Q,E}):Xv X f (rU λi=>{ã,g i}):=by intro j s l H x v Q I k h;have(i,(),q):=h;rw[āB,k,rule i t s _ _ {{ã,g i},H,ź,ĸ,q}]
def Su:Xv X (unaryOp .USub) (rU λi=>{ã,-i}):=unI λ_ _ _ _ _ q=>neg_int q
omit e
noncomputable def iG:V->Ās V|.non,.non=>true|.non,.int _=>true|.int _,.non=>true|.non,.bl _=>true|.bl _,.non=>true|.non,.str _=>true|.str _,.non=>true|.int _,.int _=>true|.bl _,.bl _=>true|.str _,.str _=>true|.byt _,.byt _=>true|.int _,.str _=>true|.str _,.int _=>true|.bl _,.str _=>true|.str _,.bl _=>true|_,_=>false
def VO:R2:={Ēc,ķ iG x y,Q {Ĳ,{Ċ,x=y}} H}
def rNe:R2:={Ēc,ķ iG x y,Q {ĉp,{Ċ,x=y}} H}
def Jj:{Ċ,ñ i=ñ j}=(i==j):=by rw[Yv];simp
def Ov:{Ċ,V.bl i=V.bl j}=(i==j):=by rw[Yv];simp
def Ji:{Ċ,ĵ i=ĵ j}=(i==j):=by rw[Yv];simp
def Jk:{Ċ,V.byt i=V.byt j}=(i.toList==j.toList):=by rw[Yv];cases i;cases j;simp
section
variable{X:Cx}{a b c:Expr}{f g tc:TE}{A:Pos}
def cq(I:aU X d h H s)(q:Q (Ĳ k) H)(e:k=i):EP X d h Q (ēq i) s:=by rw[ŧ,{Ĳ k,H,I,(),q}]
def aQ:oS X ğd VO:=by rw[ĠV,h];cases x with
 |non=>cases l;cases y with|non=>rw[Ρ,PySem.EqNone.eq_none_none (cq I q Ü)]|bl j=>rw[Ρ,PySem.EqNone.eq_none_bool (cq I q Ü)]|int j=>rw[ā7,d,PySem.EqNone.eq_none_int (cq I q Ü)]|str j=>rw[ā7,d,PySem.EqNone.eq_none_str (cq I q Ü)]|_=>rw[ĆL]
 |bl i=>cases l;cases y with|non=>rw[Ρ,PySem.EqNone.eq_bool_none (cq I q Ü)]|bl j=>rw[Ρ,eq_bool (cq I q Ov)]|str j=>rw[ā7,d,PySem.EqMixed.eq_bool_str (cq I q Ü)]|_=>rw[ĆL]
 |int i=>rw[ĈS];cases y with|non=>rw[Ρ,PySem.EqNone.eq_int_none (cq I q Ü)]|int j=>rw[ā7,d,eq_int (cq I q Jj)]|str j=>rw[ā7,d,PySem.EqMixed.eq_int_str (cq I q Ü)]|_=>rw[ĆL]
 |str i=>rw[ĈS];cases y with|non=>rw[Ρ,PySem.EqNone.eq_str_none (cq I q Ü)]|bl j=>rw[Ρ,PySem.EqMixed.eq_str_bool (cq I q Ü)]|int j=>rw[ā7,d,PySem.EqMixed.eq_str_int (cq I q Ü)]|str j=>rw[ā7,d,eq_str (cq I q Ji)]|_=>rw[ĆL]
 |byt i=>rw[ĈS];cases y with|byt j=>rw[ā7,d,PySem.W.eq_bytes (cq I q Jk)]|_=>rw[ĆL]
 |_=>cases y<;>show {ť,ęN k,hH}
def Fv:oS X (ā6 .NotEq) rNe:=by rw[ĠV,h];cases x with
 |non=>cases l;cases y with|non=>rw[Ρ,PySem.EqNone.ne_none_none (cq I q Ü)]|bl j=>rw[Ρ,PySem.EqNone.ne_none_bool (cq I q Ü)]|int j=>rw[ā7,d,PySem.EqNone.ne_none_int (cq I q Ü)]|str j=>rw[ā7,d,PySem.EqNone.ne_none_str (cq I q Ü)]|_=>rw[ĆL]
 |bl i=>cases l;cases y with|non=>rw[Ρ,PySem.EqNone.ne_bool_none (cq I q Ü)]|bl j=>rw[Ρ,ne_bool (cq I q (m6 not Ov))]|str j=>rw[ā7,d,PySem.EqMixed.ne_bool_str (cq I q Ü)]|_=>rw[ĆL]
 |int i=>rw[ĈS];cases y with|non=>rw[Ρ,PySem.EqNone.ne_int_none (cq I q Ü)]|int j=>rw[ā7,d,ne_int (cq I q (m6 not Jj))]|str j=>rw[ā7,d,PySem.EqMixed.ne_int_str (cq I q Ü)]|_=>rw[ĆL]
 |str i=>rw[ĈS];cases y with|non=>rw[Ρ,PySem.EqNone.ne_str_none (cq I q Ü)]|bl j=>rw[Ρ,PySem.EqMixed.ne_str_bool (cq I q Ü)]|int j=>rw[ā7,d,PySem.EqMixed.ne_str_int (cq I q Ü)]|str j=>rw[ā7,d,ne_str (cq I q (m6 not Ji))]|_=>rw[ĆL]
 |byt i=>rw[ĈS];cases y with|byt j=>rw[ā7,d,PySem.W.ne_bytes (cq I q (m6 not Jk))]|_=>rw[ĆL]
 |_=>cases y<;>show {ť,ęN k,hH}
def Fw:oS X (ā6 .Lt) (Qj {ēu,{Ċ,i<j}}):={ĊG,QB,lt_int q}
def j3:oS X (ā6 .LtE) (Qj {ēu,āg i j}):={ĊG,QB,le_int q}
def qg:oS X (ā6 .Gt) (Qj {ēu,{Ċ,j<i}}):={ĊG,QB,gt_int q}
def MW:oS X (ā6 .GtE) (Qj {ēu,āg j i}):={ĊG,QB,ge_int q}
def Kh:oS X ğe {ĐP,x=á i/\y=á j/\Q {ĉp,(Đh j i 0 j.length 1).isEmpty} H}:=by intro d s l H x y v u Q I e k h;have(i,j,(),(),q):=h;rw[ę5];have(m,()):=k;show in_str (cq I q ())
def MV:oS X (ā6 .Is) {Ēc,y= .non,Q {Ĳ,{Ċ,x= .non}} H}:=by rw[ĠQ,h];cases i;show is_none_gen (cq I q ?_);cases x<;>first|(cases e;rfl)|(rw[ę5];rfl)
def Qy:oS X (ā6 .IsNot) {Ēc,y= .non,Q {ĉp,{Ċ,x= .non}} H}:=by rw[ĠQ,h];cases i;show isnot_none_gen (cq I q ?_);cases x<;>first|(cases e;rfl)|(rw[ę5];rfl)
def aG(b:Expr)(h:d≠ .In:=by decide)(h2:d≠ .NotIn:=by decide):ēj d b:=by
 have e:{ć,d==CmpOp.In||d==CmpOp.NotIn}:=by cases d<;>first|rfl|rw[ąt,h]|rw[ąt,h2]
 cases b with|Set l k p=>change{ć,k==0&&(d== .In||d== .NotIn)&&_};rw[e,Bool.and_false];rfl|_=>rfl
def bQ(i:oS X (ā6 e) r)(j:PE X a f)(m:PE X b g)(hm:ēj e b):PE X {ďA,a,[e],[b],A} (JL r f g):=by intro d s k H Q I h;show wpAny_Compare1 (UB j m I h λv u l x y n o p t q=>i d l k n x y v u Q o p t q) hm
def EN(t:TE):TT:={ĄU,t,d,H,λx e=>∃k,x=Ĳ k/\Q k e}
def aE(m:oS X (ā6 j) r)(n:PE X a f)(o:PE X b g)(hm:ēj j b):PT X {ďA,a,[j],[b],A} (EN (JL r f g)):=by
 intro d s i H Q I h;show wpAny_isTrue_Compare1 (cz (n d s i H _ I h) λv l⟨x,p,I1,q,t⟩=>cz (o d l i p _ I1 t) λu w⟨y,B,C,r2,D⟩=>cz (m d w i B x y v u _ C q r2 D) λc J⟨z,E,F,r3,k,e,G⟩=>?_) hm
 subst e;rw[ā,r3,si (E,F,G,)]
def LG(r h:R2)(f g tc:TE):TE:={ĄU,f,d,H,λx i=>g d i λy j=>r x y j λz e=>∃k,z=Ĳ k/\{Ě,k,tc d e λl m=>h y l m Q,Q Ćf e}}
def Al(t:oS X (ā6 n) r)(m:oS X (ā6 j) B)(C:PE X a f)(D:PE X b g)(hc:PE X c tc)(hm:{ć,lastMarks [n,j] [b,c]}:=by rw[ęI]):PE X {ďA,a,[n,j],[b,c],A} (LG r B f g tc):=by
 intro i s l H Q I h;show Compare_chain (cz (C i s l H _ I h) λv w⟨x,E,I1,F,G⟩=>chain_link (cz (D i w l E _ I1 G) λu J⟨y,K,L,r2,M⟩=>cz (t i J l K x y v u _ L F r2 M) λd N⟨z,o,p,r3,k,e,q⟩=>?_)) hm
 rw[ēe,r3];show si ?_;cases k with|false=>show ite_ff {Ćf,o,p,(),q}|true=>show ite_tt (chain_last (cz (hc i N l o _ p q) λO P⟨R,S,T,U,V⟩=>m i P l S y R u O Q T r2 U V))
def Ah(B:oS X (ā6 o) r)(m:oS X (ā6 j) C)(D:PE X a f)(E:PE X b g)(hc:PE X c tc)(hm:{ć,lastMarks [o,j] [b,c]}:=by rw[ęI]):PT X {ďA,a,[o,j],[b,c],A} (EN (LG r C f g tc)):=by
 intro i s l H Q I h;show isTrue_chain (cz (D i s l H _ I h) λv w⟨x,F,I1,G,J⟩=>test_link (cz (E i w l F _ I1 J) λu K⟨y,L,M,r2,N⟩=>cz (B i K l L x y v u _ M G r2 N) λd O⟨z,p,q,r3,k,e,t⟩=>?_)) hm
 rw[ēe,r3];show si ?_;cases k with|false=>have(k',P,R):=t;rw[ā,P,ite_ff (p,q,R,)]|true=>show ite_tt (test_last (cz (hc i O l p _ q t) λS T n=>?_));have(U,V,W,Y,Z):=n;show cz (m i T l V y U u S _ W r2 Y Z) λd' s5 n=>?_;have(z2,H5,I5,r5,k2,e2,q5):=n;subst e2;rw[ā,r5,si (H5,I5,q5,)]
def UG(K:Zp)(x:V)(H:Hp)(k:Bool):Prop:=match x with|.non=>ć k|.bl b=>k=b|.int i=>k=(i !=0)|.str y=>ĜE/\k=((đn)!=0)|.byt y=>Ğh/\k=((ë y.size)!=0)|.ref p=>(∃d,aZ K H p d/\k=ěx)\/(∃d,bj K H p d/\k=ěx)\/∃e,H p=Į e/\k=ěy|_=>False
def Hu(r:KV d e):ěy=ěx:=Ĝ3 r
def AV(r:bx e d):(Ŀ d.toArray.isEmpty)=ěy:=by cases r<;>simp
def wU:ş sizeLine<2^63:=by rw[gg];decide
def Sw:Xw X (λx H Q=>∃k,UG X.K x H k/\Q k H):=by intro C s G H x v Q I o h;have(k,e,q):=h;have J:=wU;have L:sizeLine=16777216:=gg;cases x with|non=>cases o;have d:ć k:=e;rw[čc,truthy_none (H,I,q,)]|bl b=>cases o;have d:k=b:=e;rw[čc,si (H,I,q,)]|int i=>have(t,()):=o;have d:k=(i !=0):=e;rw[čc,PySem.P.truthy_int (H,I,q,)]|str y=>rw[ĥt,o,ĜE/\k=((đn)!=0)];rw[čc,PySem.P.truthy_str Ø {H,ź,q}]|byt y=>rw[ĥt,o,Ğh/\k=((ë y.size)!=0)];rw[čc,PySem.W.truthy_bytes Ø {H,ź,q}]|ref p=>
  cases o;have d:(∃n,aZ X.K H p n/\k=ĤT)\/(∃n,bj X.K H p n/\k=ĤT)\/∃j,H p=Į j/\k=(Ŀ j.isEmpty):=e;have(n,u,d)||(n,u,d)||(j,u,d):=d
  ·subst d;have(B,r,pl,D):=ZF u;have l:=r.length;show wpAny_truthy_list pl.isList (by simp only[iq];lia) {H,ź,{āx,AV r}}
  ·subst d;have(B,r,pl,D):=ϝ u;have l:=r.length;show truthy_tuple pl (by simp only[iq];lia) {H,ź,{āx,AV r}}
  ·subst d;obtain⟨D,F,z,r,m⟩:ĜD/\āE p/\∃z,KV j z/\s.heap.DictOf ĄV p z:=āY p u;have l:Ęk z.length:=ř r;show wpAny_truthy_dict F m Ø {H,ź,{āx,Hu r}}|_=>show Ċt e
def MF(m:PE X a f)(n:∀d,isTrue a X.env d=(do let v<-d;ĎM a.pos;{Ĉl,[v],truthy v})):PT X a (λi H Q=>f i H λx j=>∃k,UG X.K x j k/\Q k j):=by intro e s i H Q I h;show isTrue_plain (cz (m e s i H _ I h) λv l⟨x,o,I1,p,q⟩=>Sw e l i o x v Q I1 p q) (n _)
def aC:oS X đV {ĐP,x=á i/\y=á j/\{ĩ,i.length+j.length}/\Q {á,i++j} H}:=by intro d s n H x y v u Q I e k h;have(i,j,(),(),l,q):=h;rw[ę5];have(m,()):=k;show add_str (λm tk=>{{á,i++j},H,ź,ĸ,q}) l
def gZ(r:bx [x] d):∃u,d=[u]/\bu x u:=by cases r with|cons e r2=>rw[ā,r2,{_,(),e}]
def zh(r:bx [x,y] e):∃u d,e=[u,d]/\bu x u/\bu y d:=by cases r with|cons h r2=>cases r2 with|cons r3 i=>rw[ā,i,{_,_,(),h,r3}]
def K8(hc:Ÿ):{ďy,dN,X,Α "max",∃i j,e=[Ŵ,ã j]/\Q {ã,if j>i then j else i} H}:=by
 rw[ĢE,h,zh r];show max_two_ints ϭ λh' tk k=>{_,H,I.kept k,?_,q}
 by_cases d:j>i
 ·rw[ý,hY d,hY d,ĸ]
 ·rw[ý,hF d,hF d,ĸ]
def xl(hc:Ÿ):{ďy,dN,X,Α "min",∃i j,e=[Ŵ,ã j]/\Q {ã,Ā3 j i j i} H}:=by
 rw[ĢE,h,zh r];show min_two_ints ϭ λh' tk k=>{_,H,I.kept k,?_,q}
 by_cases d:j<i
 ·rw[ý,hY d,hY d,ĸ]
 ·rw[ý,hF d,hF d,ĸ]
def US(K:Zp)(x:V)(H:Hp)(n:Nat):Prop:=match x with|.str y=>ĜE/\n=y.length|.byt y=>Ğh/\n=y.size|.ref p=>(∃d,aZ K H p d/\ćj n)\/∃d,bj K H p d/\ćj n|_=>False
def OI:dN X (.builtin "len") (λd H Q=>∃x n,d=[x]/\US X.K x H n/\Q (.int n) H):=by
 intro v s B H d C Q I r h;have(x,n,(),e,q):=h;have(u,(),k):=gZ r;have D:=wU;have E:sizeLine=16777216:=gg;cases x with|str y=>have(t,()):=k;obtain⟨w,j⟩:y.length<=sizeLine/\n=y.length:=e;subst j;show len_str (by lia) {.int _,H,I.tok _,{_,()},q}|byt y=>have(t,()):=k;obtain⟨w,j⟩:y.size<=sizeLine/\n=y.size:=e;subst j;show PySem.W.len_bytes (by lia) {.int _,H,I.tok _,{_,()},q}|ref p=>
  cases k;have j:(∃d,aZ X.K H p d/\n=d.length)\/∃d,bj X.K H p d/\n=d.length:=e;have(d,l,j)||(d,l,j):=j
  ·subst j;have(m,o,pl,z):=I.list l;have i:=o.length;show Calls.call_len_list pl.isList (by simp only[iq];lia) {.int d.length,H,I.tok _,{_,by simp only[iq];rw[i]},q}
  ·subst j;have(m,o,pl,z):=I.tuple l;have i:=o.length;show len_tuple pl (by simp only[iq];lia) {.int d.length,H,I.tok _,{_,by simp only[iq];rw[i]},q}|_=>show(show False from e).elim
def Gm:dN X {Α,"divmod"} (λd H Q=>∃i j,d=[Ŵ,ã j]/\iC i j/\∀p,H p=none->Q ł {ĀF,p,[{ã,i/j},{ã,i%j}]}):=by intro k s l H d m Q I r h;have(i,j,(),(h1,h2),q):=h;have(u,n,(),(t,()),(v,())):=zh r;show divmod_int Ø ?_ {à,ġS Ø};rw[X0 i (o'2 h1),{ģh,i,o'2 h1}];have hn:Ψ H=none:={ā3,eH _};rw[ϯ,{Ħ,_,?_,(),q _ hn},I.laid Ċg (eH _) {by simp only[ig,E_];rw[gg];decide,[{Ęa,i/j},{Θ,i%j,s.toks+1}],μ ĸ ĸ,?_},{_,ČY ge (),(),0,()}]
omit e
structure HZ(h:Heap)(x dx C:Addr)(mA:Zs):Prop where
 obj:Ă6 x={Ù,Ĕm C dx}ns:h.Ns1 dx mA
 ne:dx≠x
set_option tactic.hygienic true in
def Ky{h:Heap}{dx:Addr}{d:Zs}(n:h.Ns1 dx d):∃f,Ă6 dx=Ù f/\∀b,PySem.W.lookIn b f=ő d b:=by
 have(o,g,m,i,hd,j,_,hm):=n;show{o,i,ĞU};have e:=hm b;unfold nsFind findBy at e;rw[<-Array.find?_toList]at e;unfold PySem.W.lookIn;rw[hd];dsimp only
 split
 ·rename_i y q;rw[ą5,q,m6 some e]
 ·rename_i q;rw[q]at e;have a:{ć,g.toList.any (·.refKey)}:=by rw[X6];intro y k;have(z,t,c):=j y (Array.mem_toList_iff.mp k);simp[DictEntry.refKey,c]
  have l:¬{Ą,g.toList.any,(·.refKey)}:=ăi a
  rw[ó,hF l,m6 some e]
def HZ.look(I:HZ h x dx C e):∃d,PySem.W.InstAt h x (Ĕm C dx) C (Ù d)/\∀b,PySem.W.lookIn b d=ő e b:=let⟨d,a,c⟩:=Ky I.ns
 {d,ċT I.obj a,c}
section
variable{prog:Zu}{w:World}{A:Around}{E:Zq}{s:Shared}{K:Zp}{x dx C f:Addr}{i:Zs}{e:Str}{v:Value}
def Rb(X:Ćj)(I:Āa HZ x dx C i)(hg:{î,ĕk K C e})(hh:ĚS K C)(g:ĆA e=ćC)(j:i e=Ĕ)(b:ģN v)(h:Q v ĉB):{ϡ,getAttr āi e d}:=by have(c,J,a):=I.look;show PySem.W.get_value X J ğl.1 (PySem.W.findObj_own hh g () (Ē a j)) b h
def N9(X:Ćj)(I:Āa HZ x dx C i)(hg:{î,ĕk K C e})(b:ĆA e=ĄB f)(d:ĕt K āk)(g:i e=none)(h:Q (āk,ŝ x) s):{ϡ,ē7 āi e pl}:=by have(a,J,c):=I.look;show PySem.W.method_fn X J ğl.1 ğl.2 b (YP.mp d) (by change(PySem.W.lookIn e a).map (·.isSome)=some false;rw[c,g];rfl) h
def jW(X:Ćj)(I:Āa HZ x dx C i)(m:ģ8=ZY ġn)(n:ĤX K C)(o:PySem.W.takerIn K C e=ćC)(hh:ĚS K C)(p:PySem.Within i ns)(q:ĩ ns.length)(h:∀h',HZ h' x dx C (λy=>{ď,y,e,Ĕ,i y})->ĆE dx->ąx {č7,s.toks+2}):{ϡ,setAttr āi e v}:=by have(B,J,D):=I.look;show PySem.W.set_plain X J m (PySem.W.osa_open (s:=ĉB) (r:=none) X J n o ĞU);have(cd,hc,g):=PySem.W.any_some hh;have t:ε x=Ù {ŋ,Ù dx,.plain,#[]}:=I.obj;rw[Ģ,a_ (eN (a_ (a_ (wpAny_loadPart t (a_ (PySem.W.Looks.here (s:=ĉB) (PySem.W.looks_clsIn X hc) ?_)))))),g];rw[ç,eN (a:=(Ù dx)) (a_ (eN (a_ ?_))),wpAny_nsSet1 (s:=ĉB) I.ns λh' c d=>?_];have(F,u,z,j,k,l):=c.count (PySem.Within.cons e v p);rw[ö,a_ (wpAny_lookBehind j {Þ,k,pastItsLine_dict (g_ l (by rw[ig];lia))} ?_),eN (h _ {{è,d.2 _ (m_ I.ne),I.obj},c,I.ne} d)]
def NB(X:Ćj)(hm:ķ PySem.W.makesIn K C)(hi:ĥ4=ĄB f)(m:PySem.W.typeIn K āk=ćH "function")(h:{Ă3,ζ,ēT {ŋ::b,j},ēE f {ĒV::b,j},PySem.W.InitBack Ľ R,ďG Ċs Ĕ6}):{Ă3,ζ,A,.call ŋ (b,j,),R,s}:=by have(hh,g,d,t,os):=s;show PySem.W.make_core (PySem.W.makes_of X hm) (PySem.W.looks_findIn X hi) (λself=>PySem.W.bind_fn X self m) Ġ h
omit e
noncomputable def i5(f:Str)(v:V):āf->āf|[]=>[(f,v)]|(g,x)::r=>{ď,g,f,(g,v)::r,(g,x)::i5 f v r}
theorem yb(f g:Str)(v:V):∀fs:āf,(i5 f v fs).lookup g={ď,g,f,Ĕ,ĈD g}
 |[]=>by
  change ĖW g [(f,v)]=_
  rw[ĆN,g,f]
  ·rw[Đt,Ξ g f,YP.mpr h,hY h]
  ·rw[Đt,ă9 g f,z3.mpr h,hF h]|(k,x)::r=>by
  have c:=yb f g v r;rw[{ċB,i5 f v ((k,x)::r),{ď,k,f,(k,v)::r,(k,x)::i5 f v r}}]
  by_cases b:k=f
  ·rw[hY b]
   rw[ĆN,g,k]
   ·rw[Đt,Ξ g k,YP.mpr h,hY (h.trans b)]
   ·rw[Đt,ă9 g k,z3.mpr h,hF (λe:g=f=>h (āC b.symm))]
  ·rw[hF b]
   rw[ĆN,g,k]
   ·rw[Đt,Ξ g k,YP.mpr h,hF (λe:g=f=>b (h.symm.trans e))]
   ·have a:ă9 g k:=z3.mpr h;simp only[List.lookup,a];show c
theorem xf(f:Str)(v:V):∀fs:āf,f∈Ā4 (i5 f v fs).map/\∀g,g∈Ā4 fs.map->g∈Ā4 (i5 f v fs).map
 |[]=>{by simp[i5],λg h=>ć8}|(k,x)::r=>by
  have(b,c):=xf f v r;rw[{ċB,i5 f v ((k,x)::r),{ď,k,f,(k,v)::r,(k,x)::i5 f v r}}]
  by_cases a:k=f
  ·rw[hY a];subst a;show{Ü,λg h=>ĊA}
  ·rw[hF a];show{?_,λg h=>?_}
   rw[Ĺ,kw,fy _ b]
   ·rw[kw]at h⊢;have e||e:=Ű h
    ·show q_.mpr ďD
    ·show fy _ (c g e)
theorem yd(f:Str)(v:V):∀fs:āf,{Œ,i5 f v fs,fs.length+1}
 |[]=>by simp[i5]|(k,x)::r=>by
  have b:=yd f v r;rw[{ċB,i5 f v ((k,x)::r),{ď,k,f,(k,v)::r,(k,x)::i5 f v r}}]
  by_cases a:k=f
  ·rw[hY a,ig,ig];lia
  ·rw[hF a,ig,ig];lia
def nL.some_of(r:nL Ĕ o):∃u,o=ð/\bu v u:=by cases o with|none=>show Ċt r|some u=>show{u,(),r}
def nL.none_of(r:nL none o):o=none:=by cases o with|none=>rfl|some u=>show Ċt r
def KP(r:bu v u):ģN u:=by cases v with|non=>rw[ąd,Value.none,r];rfl|bl b=>rw[ąd,ĖY b,r];rfl|int i=>rw[Ďd,u=Ċq i t,r];cases e;rfl|str x=>rw[Ďd,u=Ć8 x t,r];cases e;rfl|byt b=>rw[Ďd,u=Value.bytes b t,r];cases e;rfl|flt b=>rw[Ďd,u=ĞN b t,r];cases e;rfl|ref a=>rw[ćY,r];rfl|ty n=>rw[ąd,ĂM n,r];rfl
section
variable{P:Zu}{w:World}{H:Hp}{h:Heap}{a C dx:Addr}{fs:āf}
def y9(hok:pz P w H h)(e:H a=Ąb):∃i,HZ h a dx C i/\(∀f,nL ČL (i f))/\PySem.Within i (fs.map (·.1))/\Ŭ fs.length/\H dx=ăY a:=by have(d,z,ne,ob,i,n,r,q):={Ēb,d7,P,w,H,h,a,ĄR C fs,hok a _ e};show{i,(ob,n,ne,),r,q,z,d}
omit e
structure Ds(K:Zp)(C:Addr):Prop where
 pg:{î,ĕk K C Str.empty}
 hd:ĚS K C
 po:ĤX K C
 sa:ģ8=ZY ġn
def Ds.get{K:Zp}{C:Addr}(c:Ds K C)(f:Str):{î,ĕk K C f}:=c.pg
def cE(K:Zp)(C:Addr)(f:Str):Prop:=ĆA f=ćC
def cE.taker{K:Zp}{C:Addr}{f:Str}(n:cE K C f):PySem.W.takerIn K C f=ćC:=by unfold PySem.W.takerIn;rw[{Ĩ,ĆA f,ćC,n}];rfl
structure O0(K:Zp)(C:Addr)(m:Str)(f:Addr):Prop where
 at_:(ĆA m=ĄB f)fn:ĕt K āk
 kp:ĐO K āk
section
variable{X:Cx}{d:Zr}{i:St}{H:Hp}{s:Shared}{a C dx:Addr}{fs:āf}{f:Str}{v:V}{A:Around}{E:Zq}
def Hz(I:aU X d i H s)(e:H a=Ąb)(c:Ds X.K C)(n:cE X.K C f)(l:ČL=Ĕ)(h:∀u g,aU X d i H g->bu v u->Q u g):{Ąf,getAttr ô f b}:=by have(j,O,r,_,_,_):=ZG y9 e;have(u,k,ru):={ĕb,v,j f,{Ă,l,r f}};show Rb I.kIn O (c.get f) c.hd n k (KP ru) (h u _ ź ru)
def tR(I:aU X d i H s)(e:H a=Ąb)(c:Ds X.K C)(k:O0 X.K C m g)(l:ĈD m=none)(h:Q (č1,Āe) s):{Ąf,ē7 ô m pl}:=by have(b,O,r,_,_,_):=ZG y9 e;have hn:b m=none:=nL.none_of {Ă,l,r m};show N9 I.kIn O (c.get m) k.at_ k.fn hn h
def GM(I:aU X d i H s)(e:H a=Ąb)(c:Ds X.K C)(n:cE X.K C f)(J:fs.length<1000)(t:bu y u)(h:∀m,aU X d i (aJ H a {ĄR,C,i5 f y fs}) m->ąx m):{Ąf,setAttr ô f u}:=by
 have(k,O,r,l,_,p):=ZG y9 e;have B:ĩ (fs.map (·.1)).length:=by rw[b_,gg];lia
 show jW I.kIn O c.sa c.po n.taker c.hd l B λh' j D=>h _ ?_;have hd:∃o,ZU dx=Û:=let⟨o,_,_,F,_⟩:=j.ns;(o,F,);rw[ĭ,{Ę2,a,dx,ĊR e,æ p,λb q G z=>{è,D.2 b G,z},hd,?_},{{Þ,ay O.ne,p},?_,O.ne,j.obj,_,j.ns,Ęy,ĖD}]
 ·rw[Š,yd f y fs]
 ·change nL ((i5 f y fs).lookup g) {ď,g,f,ð,k g};rw[yb]
  rw[ąm,g,f]
  ·rw[ý,hY q,hY q,t]
  ·rw[ý,hF q,hF q,r g]
 ·rw[ąm,g,f]
  rw[Ĺ,q,(xf f y fs).1]
  ·show(xf f y fs).2 g (l g (ÿ hg ?_));rw[ā5,{ď,g,f,ð,k g}=none,hF q,z]
def aU.made(I:aU X d i H s):aU X d i (aJ {Ĝm,aJ,H,Ğ1 Ľ} Ľ (Ĥn C)) (ďG Ċs Ĕ6):=by
 have c:Ψ (Ċs).get?=Ù PySem.W.emptyDict:=ČY ge ();have g:((Ċs).push Ĕ6).get? Ľ=Ù Ĕ6:=by
  have:=ge Ċs (o:=Ĕ6) ()
  rwa[ol]at this
 have h:ϗ (Ċs).Ns s.heap.objs.size none:={PySem.W.emptyDict,#[],_,c,(),(λe j=>ť j Ü),Ī};have I1:=I.laid (a:=s.heap.objs.size) (o:=(Ğ1 Ľ)) (h':=Ċs) (t':=s.toks) (λb u q=>d_ _ q) (eH _) {_,c};show {ĝj,I1.laid,Ľ,Ĥn C,λb u q=>d_ _ q,Yj (ol _ _),?_};have ne:ĚY Ľ:=iA (tA _);show{{Ē,ay ne,af},ku _,ne,g,đK,(Heap.Ns1.of_empty h).at λo q=>d_ _ q,λ_=>True.intro,λy l=>ť () l}
def Rv(b:{ğT,e,f,env,eval e env}=eval e env)(h:{ăG,ζ,eval e env,λo s₁=>{ZK,getAttr o f true,Q,E,s₁}}):{ϡ,eval (Ĉs e f g) env}:=Attribute_any_ h (Ē arm_eval_Attribute b)
omit e
def Vq(K:Zp)(d:TE)(f:Str):TE:={ă1,d,c,H,λx b=>∃a C dx fs v,x=ô/\b a=Ąb/\Ds K C/\cE K C f/\ČL=Ĕ/\Q v b}
def VE(K:Zp)(d e:TE)(f:Str):TS:=λD b H=>e b H λy g=>d b g λx c=>∃a C dx fs,x=ô/\c a=Ąb/\Ds K C/\cE K C f/\fs.length<1000/\D.nx b (aJ c a {ĄR,C,i5 f y fs})
section
variable{X:Cx}{o e b:Expr}{f:Str}{g d:Pos}{i j:TE}
def Tv(p:PE X e i)(r:ě8 e f Čx=Čx):PE X (Ĉs e f g) (Vq X.K i f):=by intro k s t H Q I h;show Rv r (cz (p k s t H _ I h) λu D w=>?_);have(x,y,I1,z,a,C,dx,fs,v,ex,A,c,n,l,q):=w;subst ex;obtain rfl:u=Z7:=z;show Hz I1 A c n l λE F B ru=>(v,y,B,ru,q,)
def To(r:PE X o i)(t:PE X b j)(z:ćF b {Ù,Ĉs o f d} g.line=Ći):PS X {ĉJ,[Ĉs o f d],b,g} (VE X.K i j f):=by intro k s p H D I h;rw[Ďy,plainObj_wpAny_Assign_Attribute (cz (t k s p H _ I h) λu v⟨y,w,I1,A,q⟩=>cz (r k v p w _ I1 q) λB M⟨x,N,E,F,a,C,dx,fs,ex,G,c,n,l,J⟩=>?_) z];obtain rfl:B=Z7:=F;show GM E G c n l A λO L=>{p,_,L,J}
omit e
section
variable{X:Cx}{d:Zr}{f:St}{H:Hp}{s:Shared}{A:Around}{E:Zq}{Q:Zq}{c:Value}{b:Bool}
inductive rP(K:Zp)(H:Hp):Ė V Value where|non:rP K H .non {ů,"NoneType"}|bl(x:Bool):rP K H (Ĳ x) {ů,"bool"}|int(i:Int):rP K H Ŵ {ů,"int"}|str(x:Str):rP K H ħ {ů,"str"}|flt(x:UInt64):rP K H (.flt x) {ů,"float"}|lst{a:Addr}{xs:Ú}(e:H a=ò xs):rP K H ô ći|frz{a:Addr}{o:Obj}{xs:Ú}(e:H a={Ù,.frz o (ø xs)}):rP K H ô ći|tup{a:Addr}{xs:Ú}(e:H a=ĝ xs):rP K H ô ăK|dK{a:Addr}{kvs:Ğ}(e:H a=Į kvs):rP K H ô ĖM|dT{a:Addr}{kvs:ēN}(e:H a=ő .dT kvs):rP K H ô ĖM|ins{a C dx:Addr}{fs:āf}(e:H a=Ąb)(cl:Ds K C)(ha:ĆA "__class__"=ZY Ąu)(hn:PySem.W.specialIn K Ąu "__get__"=ZY č9)(htk:PySem.W.takesIn K Ąu=ā8)(hm:PySem.W.mroIn K C ĕT=ā8):rP K H ô ŋ
def KM(I:aU X d f H s)(g:bu x u)(ty:rP X.K H x t)(e:Ĕd X.K t c=ăr)(h:∀tk,Q ďd {s with toks:=tk}):{Ąf,call ĊC [u,c]}:=by cases ty with|non=>rw[ā,Ĩ u Value.none g,đc PySem.W.kitx_none e h]|bl y=>rw[ā,{Ĩ,u,ĖY y,g},đc PySem.W.kitx_bool e h]|int i=>rw[Ēp,u=Ċq i t,g];rw[ā,q,đc PySem.W.kitx_int e h]|str y=>rw[Ēp,u=Ć8 y t,g];rw[ā,q,đc PySem.W.kitx_str e h]|flt y=>rw[Ēp,u=ĞN y t,g];rw[ā,q,đc PySem.W.kitx_float e h]|@lst a l j=>rw[ćY,g];have(_,_,n,_,h1):={Č2,d7,X.w,H,s.heap,a,ø l,āY a j};show ĉ5 PySem.W.kitx_list {_,h1,()} e h|@frz a ob l j=>rw[ćY,g];have(_,_,_,n,_,h1):={Č2,d7,X.w,H,s.heap,a,.frz ob (ø l),āY a j};show ĉ5 PySem.W.kitx_list {_,h1,()} e h|@tup a l j=>rw[ćY,g];have(_,_,_,p):={Č2,d7,X.w,H,s.heap,a,ň l,āY a j};have(o,h1,h2,_):=p;show {ĉ5,PySem.W.kitx_tuple,Ču o,e,h}|@dK a k j=>rw[ćY,g];have(_,_,D,_,p):={Č2,d7,X.w,H,s.heap,a,.dK k,āY a j};have(o,r,v,h1,h2,_):=p;show {ĉ5,PySem.W.kitx_dict,ēg o h2.1,e,h}|@dT a k j=>rw[ćY,g];have(_,_,l,_,o,r,v,h1,h2,_):={Č2,d7,X.w,H,s.heap,a,.dT k,āY a j};show {ĉ5,PySem.W.kitx_dict,ēg o h2.1,e,h}|@ins a C dx fs j cl B hn m hm=>rw[ćY,g];have(F,O,_):=ZG y9 j;have(G,J,_):=O.look;show {ĉ5,PySem.W.kitx_own (cl.get _) cl.hd B hn m hm,J,e,h}
omit e
structure gi(hv:ĳ)(k:Nat)(A:Around):Prop where
 hd:ęL hv
 dp:A.depth+3*k+5<recursionLimit
 un:{đ2,16*k}+200<cLine
abbrev vQ(k:Nat)(A:Around):Prop:=gi none k A
def gi.mono{b:ĳ}{j k:Nat}{A:Around}(r:gi b k A)(h:j<=k):gi b j A:={r.hd,ļ r.dp,ļ r.un}
theorem gi.deeper{b:ĳ}{k:Nat}{A:Around}(r:gi b (k+1) A)(env:Env):gi b k (ĂY env):={r.hd,by have:=r.dp;rw[ĂX,A.depth+1+3*k+5<_],by have:=r.un;rw[ĂX,đ2 3+16*k+200<_]}
def Hn{A:Around}{C:Addr}{b:Zt}{d:čz}:{ēT,{ŋ::b,d}}.depth=A.depth+1:=by first|rfl|simp[Around.under,Code.weight,Code.isCreation,Code.isGuard,Code.isCaller,Code.frames,Code.isFrame,guardIds]
def Hm{A:Around}{C:Addr}{b:Zt}{d:čz}:{ēT,{ŋ::b,d}}.units=ĉZ:=by first|rfl|simp[Around.under,Code.cUnits,Code.frames,Code.isFrame]
def gi.make{b:ĳ}{k:Nat}{A:Around}(r:gi b (k+1) A)(C:Addr)(d:Zt)(e:čz):gi b k {ēT,{ŋ::d,e}}:={r.hd,by have:=r.dp;rw[Hn];lia,by have:=r.un;rw[Hm];lia}
theorem gi.depth{b:ĳ}{k:Nat}{A:Around}(r:gi b k A):A.depth<recursionLimit:=ļ r.dp
theorem gi.units{b:ĳ}{k:Nat}{A:Around}(r:gi b k A):đ2 64<cLine:=ļ r.un
def zo:TA:=λ_ H Q=>Q [] H
def kI(b:TE)(tr:TA):TA:={Č6,b,a,H,λx c=>tr a c λd e=>Q (x::d) e}
section
variable{X:Cx}{e:Expr}{f:Zw}{te:TE}{t:TA}{d:Pos}
def O:PA X [] zo:=λ_ _ _ _ H Q I h=>x_ {[],H,I,.nil,h}
def ac(g:PE X e te)(i:PA X f t)(j:ąq f=āw::Υ f:=by rfl):PA X (e::f) (kI te t):=by intro d a s c H Q I h;rw[j];rw[ąp,_,_,spliced (āw::ăT d f),_,_];show s_ (cz (g a s c H _ I h) λu k b=>?_);have(x,l,I1,m,n):=b;show cz (i d a k c l _ I1 n) λv w b=>?_;have(o,p,q,r2,r):=b;show{x::o,p,q,ē m r2,r}
def Pj(t:TA):TE:={ă1,t,c,H,λa b=>ĜF/\∀p,b p=none->Q ł (Ō b p a)}
def SF(t:TA):TE:={ă1,t,c,H,λa b=>ĜF/\∀p,b p=none->Q ł (ń b p a)}
def bo{i}(h:PA X f t):PE X (Ĉf f i d) (Pj t):=by intro a s j H Q I k;show wpAny_Tuple_spliced (cz (h d a s j H _ I k) λl c m=>?_);have(n,g,I1,r,z,q):=m;show{Ă r.length z,?_};have o:ĥn g=none:={Đm,eH _};rw[ö,{ĔE,Ō g c.heap.objs.size n,I1.laid (t':=c.toks) (λb u e=>d_ _ e) (eH _) ?_,(),q _ o},{z,l,r,{_,ge _ (),(),_,()}}]
def a9(h:PA X f t):PE X (.List f d) (SF t):=by intro a s i H Q I j;show wpAny_List_spliced (cz (h d a s i H _ I j) λk c l=>?_);have(m,g,I1,r,z,q):=l;show{Ă r.length z,?_};have n:ĥn g=none:={Đm,eH _};rw[ö,{ĔE,ń g c.heap.objs.size m,I1.laid (t':=c.toks) (λb u e=>d_ _ e) (eH _) ?_,(),q _ n},{z,k,0,r,ge _ ()}]
omit e
abbrev Sp:=Ú->Hp->Ė VK XK
abbrev Cs:=ς->Hp->Shared->XK->āL Ĝ
structure Ic(P:Zu)(w:World)(K:Zp)(mg:Zs)(base:Heap)(A:Around)(outer:ς)(s:Shared)(H:Hp):Prop where
 frames:{ģR,Ù outer}
 mod:WJ K mg base
 bs:{ê,ėm b=Û,ģ=Û/\H b=none}
 bsz:base.objs.size<=s.heap.objs.size
 funs:ĊI base outer
 frf:∀b∈Ϩ,H b=none
 hok:pz P w H s.heap
 bare:ĄW s.gens
def CE(outer:ς)(P:Zu)(w:World)(H:Hp)(s:Shared)(Q:VK)(u:Value)(b:Shared):Prop:=∃v a,b.os=s.os/\ĄW b.gens/\ĂB Un Ϩ [] H a b.heap/\pz P w a b.heap/\bu v u/\Q v a
def CR(d:Cs)(outer:ς)(P:Zu)(w:World)(H:Hp)(s:Shared)(Q:VK)(E:XK)(r:Result)(b:Shared):Prop:=match r with|.ok (.ret u)=>CE outer P w H s Q u b|.ok _=>False|.error e=>d outer H s E e b
structure nN(hv:ĳ)(P:Zu)(w:World)(K:Zp)(mg:Zs)(base:Heap)(CX:Cs)(k:Nat)(f:Addr)(fd:FuncData)(ps:Zv)(sp:Sp):Prop where
 len:∀vs H Q E,sp vs H Q E->vs.length=ps.length
 run:∀(A:Around)(outer:ς)(s:Shared)(H:Hp)(args:Args)(us:Zt)(vs:Ú)(Q:VK)(E:XK),gi hv k A->Ic P w K mg base A outer s H->BindsTo s fd args (ps.zip us)->bx vs us->sp vs H Q E->{Ă3,Ąa,A,ēE f args,CR CX outer P w H s Q E,s}
abbrev aT(P:Zu)(w:World)(K:Zp)(mg:Zs)(base:Heap)(CX:Cs)(k:Nat)(f:Addr)(fd:FuncData)(b:Zv)(sp:Sp):Prop:=nN none P w K mg base CX k f fd b sp
theorem nN.mono{b:ĳ}{P:Zu}{w:World}{K:Zp}{mg:Zs}{base:Heap}{d:Cs}{j k:Nat}{f:Addr}{fd:FuncData}{e:Zv}{sp:Sp}(F:nN b P w K mg base d j f fd e sp)(h:j<=k):nN b P w K mg base d k f fd e sp:={F.len,λA outer s H a c g Q E i=>F.run A outer s H a c g Q E (i.mono h)}
def Ic.make{P:Zu}{w:World}{K:Zp}{mg:Zs}{base:Heap}{A:Around}{outer:ς}{s:Shared}{H:Hp}(e:Ic P w K mg base A outer s H)(C:Addr)(b:Zt)(d:čz):Ic P w K mg base {ēT,{ŋ::b,d}} outer s H:={by first|show e.frames|(simpa[Around.under,Code.envs,Code.isFrame,pushEnvs]using e.frames),e.mod,e.bs,e.bsz,e.funs,e.frf,e.hok,e.bare}
section
variable{X:Cx}{e:Zr}{i:St}{H:Hp}{s f:Shared}
def aU.env0(I:aU X e i H s):Ic X.prog X.w X.K X.mg X.base X.A X.stack s H:={I.ok.frames,I.ok.mod,I.bs,g_ I.ok.bsz I.sz,I.stack,I.stkFree,I.hok,I.bare}
def aU.after(I:aU X e i H s)(h:CE X.stack X.prog X.w H s Q u f):EP X e i Q u f:=by have(v,c,os,bare,un,hok,r,q):=h;have(hh,g,d,t,a):=f;obtain rfl:a=s.os:=os;show{v,c,I.call (h':=hh) (g':=g) (d':=d) (t':=t) (ch:=[]) un hok bare (Ďz z Ü),r,q}
omit e
def LH(sp:Sp)(b:Ú)(E:XK)(t:TA):TE:={Č6,t,a,H,λc d=>sp (c++b) d Q E}
def LE(C:Addr)(m:Str)(sp:Sp)(b:Ú)(E:XK)(e:TE)(t:TA):TE:={ă1,e,c,H,λx d=>∃a dx fs,x=ô/\d a=Ąb/\ĈD m=none/\t c d λf g=>sp (x::(f++b)) g Q E}
def Vo(C:Addr)(sp:Sp)(b:Ú)(E:XK)(t:TA):TE:={ă1,t,c,H,λd a=>∀x dx,a x=none->a dx=none->dx≠x->sp (āi::(d++b)) (aJ (Ĉm a dx x) x {ĄR,C,[]}) (λv e=>v= .non/\τ x e) E}
def iD(K:Zp)(fd:FuncData)(b:Zv)(ds:Zt):Prop:=∀(s:Shared)(a:Zt),Ćj->{Ām,Ļ a ds}->BindsTo s fd {a,[]} (b.zip (a++ds))
def iD.all{K:Zp}{fd:FuncData}{d:Zv}(h:∀b:ĉe,Ėg->bindArgs fd {b,[]}={Ϙ,d.zip b}):iD K fd d []:=λs b _ a=>by rw[l_]at a⊢;show .of_eq (h b a)
def fZ(d:Cs)(X:Cx)(E:XK):Prop:=∀(a:Zr)(c:St)(H:Hp)(s:Shared)(e:Value)(b:Shared),aU X a c H s->d X.stack H s E e b->X.xe e b
section
variable{X:Cx}{n:Cs}{k:Nat}{f C:Addr}{fd:FuncData}{j:Zv}{sp:Sp}{d:Ú}{ds:Zt}{E:XK}{x m:Str}{p b g:Pos}{e o:Expr}{i:Zw}{y:TE}{t:TA}
def GV{B:ĳ}{q:Zr}{z:St}{H:Hp}{s:Shared}{Q:VK}{us:Zt}{vs:Ú}(F:nN B X.prog X.w X.K X.mg X.base n k f fd j sp)(D:gi B k X.A)(G:iD X.K fd j ds)(hd:bx d ds)(J:fZ n X E)(I:aU X q z H s)(r:bx vs us)(h:sp (vs++d) H Q E):{ű,Ε call f us,EP X q z Q}:=by
 have r2:bx (vs++d) (us++ds):=Ďx hd;have c:Ļ us ds=j.length:={Ă,r2.length,F.len _ _ _ _ h}
 show Yg (A_ (F.run X.A X.stack s H {us,[]} (us++ds) (vs++d) Q E D I.env0 (G s us I.kIn c) r2 h) λr l a=>?_);cases r with|error e=>show J q z H s e l I a|ok v=>cases v with|ret u=>show I.after a|next=>show Ăf a|brk=>show Ăf a|cont=>show Ăf a
def aP{B:ĳ}(F:nN B X.prog X.w X.K X.mg X.base n k f fd j sp)(D:gi B k X.A)(hg:Gl X x)(hm:ās=í f)(G:ĐO X.K āk)(J:iD X.K fd j ds)(hd:bx d ds)(L:fZ n X E)(M:PA X (e::i) t)(u:Āx:=by decide)(N:ąq i=āw::Υ i:=by rfl)(z:Ćt b i:=by rfl):PE X {āc,Ăl p,e::i,b} (LH sp d E t):=by intro a s l H Q I h;rw[ϯ,wr (qW I hg hm ?_ u),PySem.W.callWith_K (h₀:=X.base) I.ok.mod.kin G (cz (M b a s l H _ I h) (ĤE I1.kIn ?_)) N z,GV F D J hd L I1 r q]
def bv{D:ĳ}{pl:Sem Bool}(R:PE X o y)(c:Ds X.K C)(hm:O0 X.K C m f)(F:nN D X.prog X.w X.K X.mg X.base n k f fd j sp)(S:gi D k X.A)(T:iD X.K fd j ds)(hd:bx d ds)(Z:fZ n X E)(ha:PA X (e::i) t)(z:ąq i=āw::Υ i:=by rfl)(B:Ćt b i:=by rfl)(ht:ā0 {ĂG,m,g,e::i,b}=(do
   let G<-ą2
   ĎM g.atName let(f,first)<-{Ĉl,[G],ē7 G m pl}callWith b f first {ăT,b,e::i} (Č1 b)):=by rfl):PE X {ĂG,m,g,e::i,b} (LE C m sp d E y t):=by intro v s J H Q I h;rw[Ďy,{Ěv,pl,cz (R v s J H _ I h) λu P⟨x,U,I1,Y,a,dx,fs,ex,ea,l,q⟩=>?_,ht}];obtain rfl:u=Z7:=Y;rw[ϯ,tR I1 ea c hm l ?_,PySem.W.callWith_K (first:=Āe) (h₀:=X.base) I.ok.mod.kin hm.kp (cz (ha b v P J U _ I1 q) λM s2⟨N,H2,O,r,q2⟩=>{O.kIn,?_}) z B,GV (us:=ô::M) (vs:=ô::N) F S T hd Z O {ē,(),r} q2]
def ng{z:ĳ}{pl:Sem Bool}(D:PE X o y)(c:Ds X.K C)(hm:O0 X.K C m f)(F:nN z X.prog X.w X.K X.mg X.base n k f fd j sp)(G:gi z k X.A)(J:iD X.K fd j ds)(hd:bx d ds)(L:fZ n X E)(M:{ā0,ĂG m g [] b}=(do
   let B<-ą2
   ĎM g.atName let(f,first)<-{Ĉl,[B],ē7 B m pl}callWith b f first {ăT,b,[]} (Č1 b)):=by rfl):PE X {ĂG,m,g,[],b} (LE C m sp d E y zo):=by intro r s v H Q I h;rw[Ďy,{Ěv,pl,cz (D r s v H _ I h) λu P⟨x,R,I1,N,a,dx,fs,ex,O,l,q⟩=>?_,M}];obtain rfl:u=Z7:=N;rw[ö,tR I1 O c hm l ?_,PySem.W.callWith_K0 (first:=Āe) I1.kIn hm.kp (GV (us:=Āe) (vs:=Āe) F G J hd L I1 {ϋ,()} q)]
structure Mk(K:Zp)(C f:Addr):Prop where
 makes:ķ PySem.W.makesIn K C
 init:(ĥ4=ĄB f)fn:ĕt K āk
 kp:ĐO K ŋ
def Mr{G:ĳ}{q:Zr}{B:St}{H:Hp}{s:Shared}{Q:VK}{z:Zt}{D:Ú}(M:Mk X.K C f)(F:nN G X.prog X.w X.K X.mg X.base n k f fd j sp)(J:gi G (k+1) X.A)(L:iD X.K fd j ds)(hd:bx d ds)(N:fZ n X E)(I:aU X q B H s)(r:bx D z)(h:∀x dx,H x=none->H dx=none->dx≠x->sp (āi::(D++d)) (aJ (Ĉm H dx x) x {ĄR,C,[]}) (λv R=>v= .non/\τ x R) E):{ű,call ŋ z,EP X q B Q}:=by
 have l:=h Ľ s.heap.objs.size {ā3,sT _} {ā3,eH _} (iA (tA _));have c:=aU.made (C:=C) I;have r2:bx (ϫ Ľ::(D++d)) (Ś Ľ::(z++ds)):={ē,(),Ďx hd};have O:{Ļ,Ś Ľ::z,ds}=j.length:=by have e:=r2.length;rw[ą5,F.len _ _ _ _ l,e.symm]
 show Yg (NB (f:=f) I.kIn M.makes M.init (YP.mp M.fn) (A_ (F.run _ X.stack _ _ {Ś Ľ::z,[]} (Ś Ľ::(z++ds)) _ _ E (J.make C z []) (c.env0.make C z []) (L _ (Ś Ľ::z) c.kIn O) r2 l) λr P a=>?_))
 cases r with|error e=>show N q B _ _ e P c a|ok S=>cases S with|ret u=>have(v,T,U,W,Y,Z):=c.after a;subst Y;show{W,{ϫ Ľ,T,U,(),Z}}|next=>show Ăf a|brk=>show Ăf a|cont=>show Ăf a
def uT{B:ĳ}(M:Mk X.K C f)(F:nN B X.prog X.w X.K X.mg X.base n k f fd j sp)(D:gi B (k+1) X.A)(hg:Gl X x)(hm:ās=í C)(G:iD X.K fd j ds)(hd:bx d ds)(J:fZ n X E)(L:PA X (e::i) t)(u:Āx:=by decide)(N:ąq i=āw::Υ i:=by rfl)(z:Ćt b i:=by rfl):PE X {āc,Ăl p,e::i,b} (Vo C sp d E t):=by intro a s l H Q I h;rw[ϯ,wr (qW I hg hm ?_ u),PySem.W.callWith_K (h₀:=X.base) I.ok.mod.kin M.kp (cz (L b a s l H _ I h) (ĤE I1.kIn ?_)) N z,Mr M F D G hd J I1 r q]
omit e
structure aA(N P:Zv)(sc:Scope):Prop where
 kind:Ĕw sc.kind
 co:ć sc.isCoroutine
 gen:ć sc.isGenerator
 nd:N.Nodup
 pre:N.take P.length=P
 par:∀x∈P,sc.names.lookup x=Ŋ\/sc.names.lookup x=Η
 nofree:∀y∈sc.names,ZH≠ .free
theorem Di{kindOf:Str->Ė7}{x:Str}:{ĥw,(∀v,(x,v)∉binds)->bindL kindOf binds m x=m x}
 |[],_,_=>()|(n,v)::r,m,h=>by
  unfold bindL;rw[Di λw a=>h w (fy _ a)]
  split
  ·have:x≠n:=by rw[ėZ,h v f_]
   simp[this]
  ·rfl
theorem Dk{kindOf:Str->Ė7}{x:Str}:{ĥw,(∀v,(x,v)∉binds)->bindC kindOf binds m x=m x}
 |[],_,_=>()|(n,v)::r,m,h=>by
  unfold bindC;rw[Dk λw a=>h w (fy _ a)]
  split
  ·rfl
  ·have:x≠n:=by rw[ėZ,h v f_]
   simp[this]
theorem Dj{kindOf:Str->Ė7}{x:Str}{v:Value}:{ġX,P.Nodup,ì P=ù->ϊ=Ĕ->kindOf x=Ŋ->bindL kindOf (P.zip b) m x=Ĕ}|[],_,_,_,_,h,_,_=>ć8|_::_,[],_,_,_,_,h,_=>ć8|p::P,w::b,0,m,nd,h1,h2,a=>by simp at h1 h2;subst h1;subst h2;change bindL kindOf ((p,w)::P.zip b) m p=_;unfold bindL;rw[Di λv c=>(Zl.mp nd).1 (XP c).1,hY a];simp|p::P,w::b,i+1,m,nd,h1,h2,a=>by change bindL kindOf ((p,w)::P.zip b) m x=_;unfold bindL;show Dj (i:=i) (Zl.mp nd).2 Ċy ĔM a
theorem Dl{kindOf:Str->Ė7}{x:Str}{v:Value}:{ġX,P.Nodup,ì P=ù->ϊ=Ĕ->kindOf x≠Ŋ->bindC kindOf (P.zip b) m x=Ĕ}|[],_,_,_,_,h,_,_=>ć8|_::_,[],_,_,_,_,h,_=>ć8|p::P,w::b,0,m,nd,h1,h2,a=>by simp at h1 h2;subst h1;subst h2;change bindC kindOf ((p,w)::P.zip b) m p=_;unfold bindC;rw[Dk λv c=>(Zl.mp nd).1 (XP c).1,hF a];simp|p::P,w::b,i+1,m,nd,h1,h2,a=>by change bindC kindOf ((p,w)::P.zip b) m x=_;unfold bindC;show Dl (i:=i) (Zl.mp nd).2 Ċy ĔM a
noncomputable def jb(N:Zv)(b:Ú):St:=Ϯ some++{ąN,Ęm N.length,none}
noncomputable def A9(g:ĳ)(d:Cs)(P:Zu)(w:World)(K:Zp)(mg:Zs)(base:Heap)(N:Zv)(b:Str)(scope:Scope)(f:Addr)(cd:Value)(A:Around)(outer:ς)(s:Shared)(H:Hp)(E:XK):Cx where
 prog:=P
 w:=w
 K:=K
 mg:=mg
 base:=base
 A:={ĂY,ČP b f}
 N:=N
 s₀:=s
 H₀:=H
 env:=ČP b f
 outer:=outer
 stack:={ęR,ČP b f}
 ex:=[]
 calm:=g.isNone
 fn:=λ_=>true
 pn:=[]
 xe:=λe c=>{Ω,Ąa,{ĂY,ČP b f},{ĉx,ČP b f,e},λ_ a=>d outer H s E e a,λh a=>d outer H s E h a,c}
abbrev Ce(d:Cs)(P:Zu)(w:World)(K:Zp)(mg:Zs)(base:Heap)(N:Zv)(b:Str)(scope:Scope)(f:Addr)(cd:Value)(A:Around)(outer:ς)(s:Shared)(H:Hp)(E:XK):Cx:=A9 none d P w K mg base N b scope f cd A outer s H E
def Gh{b:Scope}{n:Nat}{x:Str}(h:ăE x=Η):∃c,(cellsFrom n b.names []).lookup x=ŗ:=by have q:=PySem.W.cellsFrom_some b.names n [] (à h);show w1.mp q
def KN{B:ĳ}{D:Cs}{P:Zu}{w:World}{K:Zp}{mg:Zs}{base:Heap}{N j:Zv}{d:Str}{scope:Scope}{f:Addr}{cd:Value}{A:Around}{outer:ς}{s F:Shared}{H:Hp}{E:XK}{C:Zt}{m:Ú}(S:aA N j scope)(hd:ęL B)(g:Ic P w K mg base A outer s H)(Q:m.length=j.length)(r:bx m C)(x:InCallC s s.heap.objs.size (bindL (ČP d f).kindOf (j.zip C) đK) (cellsFrom Ľ scope.names []) (bindC (ČP d f).kindOf (j.zip C) đK) F):aU (A9 B D P w K mg base N d scope f cd A outer s H E) [] (jb N m) H F:=by
 have J:j.length<=N.length:=by rw[Āj,đH m6 S.pre,j2];lia
 have(h1,tk,(),G):=x.done;have noA:∀b:Addr,b∉(A9 B D P w K mg base N d scope f cd A outer s H E).ex:={Ďz,Ēo b ([]:Zz) z,Ü};show{{g.mod,S.kind,(),(),eH _,λy z c h1 h2=>?_,λy l=>?_,λy c _ h=>?_,ÿ hd.trans (by cases B with|none=>rfl|some _=>cases z),Around.frames_deeper g.frames,æ Λ,{Ďz,z,noA b},g.bs,g.bsz,λb _ _=>noA b,{Ďz,z,noA b},g.funs,g.frf},(),g.bare,Un.kept G,{_,x.toInCall.ns,λi y v h1 h2 h3=>?_},λy c h=>{_,x.cell y c h},g.hok.fresh (eH _),λy c h=>?_,λp o=>{ť,Ēo p ([]:Zr) o,Ü},g.hok.kept G,?_}
 ·show name_of_addr x.apart (ĐH h1) (ĐH h2)
 ·have l:č6 y=Η\/č6 y=ĀL:=l;have l||l:=l
  ·show Gh l
  ·rw[ąt,S.nofree _ (ĐH l)]
 ·show w4 (x.above y c (ĐH h))
 ·have hi:i<m.length:=by
   unfold jb at h2
   by_cases hi:i<m.length
   ·show hi
   ·rw[vu ąQ]at h2;rw[List.getElem?_replicate]at h2
    split at h2<;>cases h2
  have L:ì m=Ĕ:=by unfold jb at h2;rw[rl ąQ,g8]at h2;cases e:(ì m)with|none=>rw[e]at h2;cases h2|some a=>rw[e]at h2;cases h2;rfl
  have(u,I,M):=r.get L;have o:ì j=ϵ:=by rw[<-S.pre,X7 (o'3 Q hi)];show h1
  have t:j.Nodup:={Ă,S.pre,S.nd.sublist (X4 _ _)}
  show{u,M,?_};rcases S.par y (e_ o)with k|k
  rw[Ř,{k,Dj t o I k}]
  ·have(c,e):=Gh (n:=Ľ) k;show æ {à k,c,e,?_};have q:=x.cell y c e;rw[Ăs,Dl t o I (by rw[ż,č6 y≠_,k];decide),q]
 ·show g.hok.fresh (w4 (x.above y c (ĐH h)))
 ·unfold jb;change _=N.length;rw[gV,b_,XG];lia
def Sa{B:ĳ}{G:Cs}{P:Zu}{w:World}{K:Zp}{mg:Zs}{base:Heap}{k:Nat}{f:Addr}{m d:Str}{h:Arguments}{i:ă2}{scope:Scope}{Z kV C pm g ct oc:Value}{an od:ă3}{M:ďW}{N L:Zv}{sp:Sp}(lk:Ăk f=Ù {oc,od,.func (Čv m d h i scope Z kV C pm an g ct),M})(R:{î,ĝP K g d})(S:aA N L scope)(len:∀j H Q E,sp j H Q E->Ęk L.length)(z:∀(A:Around)(outer:ς)(s:Shared)(H:Hp)(j:Ú)(Q:VK)(E:XK),gi B k {ĂY,Ġx d f g}->sp j H Q E->∃t,yo (A9 B G P w K mg base N d scope f g A outer s H E) i t/\t {čr,λ_ p=>Āt Q p} (jb N j) H):nN B P w K mg base G (k+1) f (Čv m d h i scope Z kV C pm an g ct) L sp:=by
 show{len,λA outer s H Y us j Q E O D hb r F=>?_};have hl:=len _ _ _ _ F;have KX:Ćj:=D.mod.kin.keeps {ċs,D.bs b o e};have T:s.heap.NoLimit:=D.mod.nolimit.keeps {ċs,D.bs b o e};have c:∀y∈L.zip us,Ĉa=Ŋ\/(Ĉa=Η/\{î,ĎF (cellsFrom Ľ scope.names []).lookup Ć}):=λ⟨n,v⟩hy=>by
  have q||q:=S.par n (XP hy).1
  rw[Ř,q]
  rw[ϛ,{q,PySem.W.cellsFrom_some _ _ _ (à q)}]
 rw[ç,codeAny_call_function O.depth (KX _ _ lk) () S.co S.gen () (PySem.W.codeRec_of KX R) (hb _ _ _ _ ?_),wpAny_newFunctionEnv_cells S.kind c λenv he s1 x=>?_];subst he;show{T.keeps x.toInCall.keep,codeAny_func ?_};have(t,ht,hq):=z A outer s H j Q E (O.deeper _) F;have I:aU (A9 B G P w K mg base N d scope f g A outer s H E) [] (jb N j) H s1:=KN S O.hd D hl r x;show {ā4,ht [] s1 (jb N j) H _ I hq,λfl U l=>?_,λe U l=>l};have fin:∀{a:St}{p:Hp}{v:V}{u:Value},aU (A9 B G P w K mg base N d scope f g A outer s H E) [] a p U->bu v u->Q v p->CE outer P w H s Q u U:=λ{a p v u}J X q=>(v,p,J.os,J.bare,J.base,J.hok,X,q,)
 cases fl with|ret u=>have(v,a,p,J,X,q):=l;show fin J X q|next=>have(a,p,J,q):=l;show fin (v:=V.non) (u:=Value.none) J () q|brk=>have(_,_,_,q):=l;show Ăf q|cont=>have(_,_,_,q):=l;show Ăf q
section
variable{X:Cx}{x:Str}{p b:Pos}{e:Expr}{d:Zw}{t:TA}{id T:String}{r:Ú->χ}
def Vs(r:Ú->χ)(t:TA):TE:={Č6,t,a,H,λc f=>r c f Q}
def aD(hc:dN X ĒZ r)(hg:Gl X x)(hm:ās=none)(i:ϓ x=Ą0 id)(j:PA X (e::d) t)(hn:ċ0 x:=by decide)(f:Āx:=by decide)(m:ąq d=āw::Υ d:=by rfl)(g:Ćt b d:=by rfl):PE X {āc,Ăl p,e::d,b} (Vs r t):=by intro a s c H Q I h;rw[ö,wr (oI I hg hm i ?_ hn f),PyProof.Rows.callWith_builtin1 (cz (j b a s c H _ I h) λk l⟨n,o,I1,q,u⟩=>hc a l c o n k Q I1 q u) m g]
def bh(hc:dN X Ča r)(hg:Gl X x)(hm:ās=none)(i:ϓ x=ćH T)(j:PA X (e::d) t)(hn:ċ0 x:=by decide)(f:Āx:=by decide)(m:ąq d=āw::Υ d:=by rfl)(g:Ćt b d:=by rfl):PE X {āc,Ăl p,e::d,b} (Vs r t):=by intro a s c H Q I h;rw[ö,wr (oI I hg hm i ?_ hn f),y1 (cz (j b a s c H _ I h) λk l⟨n,o,I1,q,u⟩=>hc a l c o n k Q I1 q u) m g]
omit e
omit L2
namespace HT
open PySem PyProof.Rows
section
variable{prog:Zu}{w:World}{A:Around}{E:Zq}{s:Shared}
def Rr(p:ąh IsTup t f.toArray)(q:ĝH IsTup b)(o:f≠[])(h1:d=[]->τ t s)(h2:d≠[]->{Ā1,Q,Ħ,Τ {Ć2,.seq (Ēy f d)}})(m:{ĩ,f.length+d.length}):{ϡ,binaryOp .Add ľ ZM}:=by
 have((cls,dd,data,sl),j,hc,n,hd):=id p;have((l,c,data2,g),a,h,n2,i):=id q;simp only at hc hd h i;subst hc hd h i;have e:f.toArray++d.toArray=Ēy f d:=Ü
 by_cases k:d=[]
 ·show concat_meets {_,j,()} {_,a,()} noFill_tuple_add seq_tuple_add PySem.F.slot_tuple_add PySem.F.entry_tuple_add (ģi _ _) (tuple_addW1 t b f.toArray d.toArray n n2 dd c sl g Ģc (by simp[k])) {j,a,h1 k}
 ·show concat_meets {_,j,()} {_,a,()} noFill_tuple_add seq_tuple_add PySem.F.slot_tuple_add PySem.F.entry_tuple_add (ģi _ _) (tuple_addW2 t b f.toArray d.toArray n n2 dd c sl g Ģc ĚM (Ŝ iq iq m)) {j,a,?_}
  rw[ó,e,h2 k]
noncomputable def ib(n d:Nat):Κ->Nat|none=>d|some v=>{Ā3,v,0,āl v ϩ,min v.toNat n}
def Mq(n d:Nat):ib n d none=d:=rfl
def Te(n d:Nat)(hd:d<=n)(o:Κ):ib n d o<=n:=by cases o with|none=>show hd|some v=>
  change{Ā3,v,0,āl v ϩ,min v.toNat n}<=n
  rw[ĆM,v,0]
  ·rw[hY a];lia
  rw[ų,hF a,XH _ _]
def Jo(v:Int)(n d:Nat):{Ā3,v,0,max (v+ϩ) 0,min v ϩ}={Ď,ib n d Ĕ}:=by
 change{Ā3,v,0,max (v+ϩ) 0,min v ϩ}=Ď {Ā3,v,0,āl v ϩ,min v.toNat n}
 rw[ĆM,v,0]
 ·simp only[hY a];lia
 ·simp only[hF a];lia
def HV(lo hi:Κ)(n:Nat):ĥp lo hi 1 ϩ=({Ď,ib n 0 lo},{Ď,ib n n hi}):=by
 have h1:¬(ϸ<0):=Ø
 unfold Builtin.Slice.sliceAdjust;simp only[h1,Ya];show Prod.ext ?_ ?_
 ·cases lo with|none=>rfl|some v=>show Jo v n 0
 ·cases hi with|none=>rfl|some v=>show Jo v n n
def G0(i j:Nat):Ěn Ő Z8 1=j-i:=by
 unfold Builtin.Slice.slicePlaces;have h1:ϸ>0:=Ø
 simp only[h1,YI,Int.ediv_one]
 split<;>lia
def zv(p:ĉP v o)(h:Q o s):{ϡ,Builtin.Slice.slicePartIndex v}:=by cases p with|none=>show slicePart_none h|int i t=>show slicePart_int h
def ww{sl:Addr}{d e:Value}{lo hi:Κ}{n:Nat}{Q:Int×Int×Nat->Ĝ}(f:ĝf sl d e .none)(pl:ĉP d lo)(g:ĉP e hi)(h:Q ({Ď,ib n 0 lo},1,ib n n hi-ib n 0 lo) s):ϡ {Ε,Builtin.Slice.sliceApplied,sl,Ϙ ϩ}:=by have(os,a,c,b):=id f;unfold Builtin.Slice.sliceApplied Builtin.Slice.sliceFields;rw[ç,a_ (a_ {ĉq,a,b,d,a_ {ĉq,a,b,e,a_ {ĉq,a,b,.none,eN ?_}}}),a_ (slicePart_none ?_)];rw[ż,Β _ _ {āX,ϸ==0} _ _,hF ß];show a_ (zv pl (a_ (zv g (a_ (eN ?_)))));rw[ż,Β _ _ (match (ĥp lo hi 1 ϩ)with|(lo,hi)=>Ϙ (lo,ϸ,Ěn lo hi 1)) _ _,HV lo hi n];rw[ā5,{Β,_,_,Ϙ ({Ď,ib n 0 lo},ϸ,Ěn {Ď,ib n 0 lo} {Ď,ib n n hi} 1),_,_},G0,eN h]
def MI(b:Zx)(i k:Nat):{ăW,(ZT k).filterMap,λ(m:Nat)=>b[{āl,Ő,ą1*1}]?}={ăW,ġY i,k}:=by
 have e:(λ(m:Nat)=>b[{āl,Ő,ą1*1}]?)=λm=>b[i+m]?:=by
  funext m
  have:{āl,Ő,ą1*1}=i+m:=Ø
  rw[this]
 rw[e];rw[Āj,pick_run b i k,XZ];have a:((λx=>b[x]?)∘λx=>i+x)=λm=>b[i+m]?:=();rw[a]at this;rw[this]
def vA{t sl:Addr}{b:Zx}{i j:Value}{lo hi:Κ}{Q:Zq}(d:ąh IsTup t b)(n:ĝf sl i j .none)(pl:ĉP i lo)(o:ĉP j hi)(p:¬(ćS=0/\ĉI=b.size))(h:{Ā1,Q,Ħ,Τ {Ć2,.seq {ăW,ğr,ĉI-ćS}}})(r:ė3):ϡ {Ε,getItem,t,â sl}:=by
 have a:sizeOk (.seq {ăW,ğr,ĉI-ćS}):=by change ĩ (ğr (ĉI-ćS)).toArray.size;rw[iq,j2,Qv,lh];lia
 have u:Čl ĉI:=Te _ _ (eH _) hi;have(os,c,e,l):=id n;have f:ču sl "slice":=(os,c,e,);unfold getItem
 try rw[ĕw,n_ ?_]
 first|show a_ (eN ?_)|skip
 rw[ĭ,a_ (wpAny_sequenceKey d.typeIs ß ?_),a_ {ćp,Ę "__getitem__",d.typeIs,Y5,o0 Y5 d.typeIs entry_tuple_getitem ?_ (args_tuple_getitem _ _)}]
 rw[ąp,_,_,Builtin.Tuple.tupleItemsOf ľ>>=_,_,_];rw[ç,a_ (tupleItemsOf_ d ?_),a_ (YV f ?_)];rw[hY ß];show a_ (ww n pl o ?_);have g:¬{î,ğa==0&&ϸ==1&&(ĉI-ćS)==b.size}:=by intro q;rw[k_,k_]at q;have v:ğa=0:=ĀI q.1.1;have x:ĉI-ćS=b.size:=ĀI ņ;show p ϻ
 rw[ąp,_,_,{āX,ğa==0&&ϸ==1&&(ĉI-ćS)==b.size},_,_];rw[hF g,MI]
 first|show {ϟ,Ĕy _,ot (eN {_,(),eN h}) a}|show {ϟ,Ĕy _,ot (a_ (eN (eN {_,(),eN h}))) a}|show a_ {ϟ,Ĕy _,ot (eN (eN {_,(),eN h})) a}|show a_ {ϟ,Ĕy _,ot (eN {_,(),eN h}) a}
omit e
omit HT
namespace L2
open PySem PySem.Spec PyProof.Rows
abbrev TO:=St->{Ăa,ĀP Κ}
def PO(X:Cx)(e:ŭ Expr)(t:TO):Prop:={ġt,ĀP Κ,aU X a b H s,t b H Q->{ű,Āi evalPart e,λu d=>∃o c,aU X a b c d/\ĉP u o/\Q o c}}
def Pn:TO:=λ_ H Q=>Q none H
def Vm(t:TE):TO:={Č6,t,a,H,λx b=>∃i,x=Ŵ/\Q Ău b}
def Hw:∀{b:Zt},bx Ŷ b->Čs b:=by induction ns with|nil=>intro b r;rw[YY]at r;rw[ā,r,.nil]|cons n ns a=>intro b r;rw[kw]at r;cases r with|cons c r2=>have(t,e):=c;rw[ŧ,.cons n t (a r2)]
section
variable{X:Cx}{e:Expr}{te:TE}{lo hi:ŭ Expr}{d th:TO}{g f:Pos}
def c9:ĒK PO X Pn:=by intro a s b H Q I h;rw[ó,evalPart_none,eN {none,H,I,.none,h}]
def cO(h:PE X e te):PO X (Ù e) (Vm te):=by intro a s b H Q I c;rw[evalPart_some];show cz (h a s b H _ I c) λu n j=>?_;have(x,k,I1,l,m):=j;have(i,(),q):=m;rw[āB,l,{Ău,k,I1,Ĉh,q}]
def U8(X:Cx)(r:V->Κ->Κ->χ):Prop:=∀(a:Zr)(s:Shared)(b:St)(H:Hp)(x:V)(v c h:Value)(lo hi:Κ)(sl:Addr)(Q:VK),aU X a b H s->bu x v->ĝf sl c h .none->ĉP c lo->ĉP h hi->r x lo hi H Q->∃T id,typeLookup Ča "__getitem__"={Ϙ,Ą0 id}/\ĎE v T/\{ű,{ď6,v,â sl},EP X a b Q}
def tSl(r:V->Κ->Κ->χ)(te:TE)(d th:TO):TE:={Č6,te,a,H,λx b=>d a b λl c=>th a c λu h=>r x l u h Q}
def cp(o:U8 X r)(p:PE X e te)(t:PO X lo d)(y:PO X hi th):PE X {ćo,e,.Slice lo hi none f,g} (tSl r te d th):=by intro a s i H Q I h;show Subscript_ (cz (p a s i H _ I h) λv z j=>?_);have(x,B,I1,C,D):=j;show wpAny_Slice (cz (t a z i B _ I1 D) λk E j=>?_);have(l,F,G,pl,J):=j;show cz (y a E i F _ G J) λm c j=>?_;have(u,n,K,L,M):=j;rw[evalPart_none];show eN ?_;have N:aU X a i n {ĝN,Ğk Ĝa}:=K.kept (t':=c.toks) λb ob q=>d_ _ q;have(T,id,O,P,hg):=o a {ĝN,Ğk Ĝa} i n x v k m l u c.heap.objs.size Q N C (Heap.IsSliceOf.new ..) pl L M;change {ăc,subscriptTail e (.Slice lo hi none f) v ĔE,EP X a i Q,{ĝN,Ğk Ĝa}};show tail_any (ops:=[ĔE,v]) P O hg ąV
noncomputable def ki(b:Ú)(lo hi:Κ):Ú:={ĉL,đu 0 lo}.take (đu b.length hi-đu 0 lo)
def yi(b:Ú)(lo hi:Κ):{Œ,ki b lo hi,b.length}:=by unfold ki;rw[j2,Qv];lia
def VG(K:Zp):V->Κ->Κ->χ:=λx lo hi H Q=>∃a b,x=ô/\bj K H a b/\¬(đu 0 lo=0/\{Ām,đu b.length hi})/\∀p,H p=none->Q ł {ĀF,p,ki b lo hi}
def Ta:U8 X (VG X.K):=by
 intro k s y H x v z A lo hi sl Q I n p pl t h;have(a,i,(),u,w,q):=h;cases n;have(j,r,l,m):=ϝ u;have c:j.toArray.size=i.length:=Þ iq r.length.symm
 rw[ç,{"tuple",_,PyProof.Rows.slot_tuple_getitem.lookup,l.typeIs,?_},HT.vA l p pl t (Þ c w) ?_ (Þ c m)];rw[c];rw[ö,{Ħ,_,{ĝk,I.laid,s.toks,{ň,ki i lo hi},d_ _ q,eH _,?_},(),q _ {ā3,eH _}},{g_ (yi i lo hi) m,_,(r.drop ĥ9).take (Ćd i.length i.length hi-ĥ9),IsTup.new _ _}]
def RV(K:Zp):R2:=λx y H Q=>∃a b h c,x=ô/\y=ZM/\bj K H a h/\bj K H b c/\h≠[]/\{ĩ,h.length+c.length}/\(c=[]->Q ô H)/\(c≠[]->∀p,H p=none->Q ł {ĀF,p,h++c})
def bx.nil_iff(r:bx b h):h=[]↔b=[]:=by cases r with|nil=>simp|cons _ _=>simp
def QA:oS X đV (RV X.K):=by intro i s F H x y v u Q I l m h;have(a,b,n,p,(),(),r,t,A,j,B,C):=h;cases l;cases m;have(D,c,E,_):=ϝ r;have(k,r2,f,_):=ϝ t;rw[ϯ,HT.Rr E f {ÿ,A,c.nil_iff.mp z} (λz=>{ô,H,I,(),B (r2.nil_iff.mp z)}) ĄO (ċr c.length r2.length j),{Ħ,_,{ĝk,I.laid,s.toks,{ň,n++p},d_ _ q,eH _,?_},(),C (λw=>z (r2.nil_iff.mpr w)) _ {ā3,eH _}},{Þ gV j,_,c.append r2,IsTup.new _ _}]
omit e
noncomputable def Q6(n:Nat)(i:Int):ĀK:=if 0<=i then{Ā3,i,n,Ù i.toNat,none}else if-ϩ<=i then {Ù,āl i n} else none
noncomputable def Ci{b:Type}(d:ZO)(i:Int):ŭ b:=(Q6 d.length i).bind λj=>d[j]?
def IX(h:Q6 n i=ăn):seqIndex? i n=ăn/\j<n/\-ϩ<=i/\i<n:=by
 unfold Q6 at h
 by_cases h0:0<=i
 ·rw[hY h0]at h
  by_cases h1:i<n
  ·rw[hY h1]at h;have e:i.toNat=j:=i_ h;show{{Ē,ĞO h0 h1,e},Ø,Ø,h1}
  ·rw[ĀO,hF h1,h]
 ·rw[hF h0]at h
  by_cases h1:-ϩ<=i
  ·rw[hY h1]at h;have e:āl i n=j:=i_ h;show{{Ē,seqIndex_neg (o'4 h0) h1,e},Ø,h1,Ø}
  ·rw[ĀO,hF h1,h]
def Ex(h:Ci b i=Ĕ):∃j,đe seqIndex? i=ăn/\b[j]?=Ĕ/\ĔR j/\-čC<=i/\ČO:=by unfold Ci at h;cases e:Q6 b.length i with|none=>rw[ĀO,e,h]|some j=>rw[e]at h;have(h1,h2,h3,h4):=IX e;show(j,h1,h,h2,h3,h4,)
def EA(b:Expr):Prop:=∀o i,Ęs b false o i=operate [o,i] (ď6 o i)
def Va(X:Cx)(r:R2):Prop:=∀(c a:Expr)(b:Zr)(s:Shared)(d:St)(H:Hp)(x y:V)(v u:Value)(Q:VK),aU X b d H s->bu x v->bu y u->r x y H Q->Ęs a false v u=operate [v,u] (ď6 v u)->{ű,subscriptTail c a v u,EP X b d Q}
def Jt(X:Cx)(id:String)(r:V->Ú->χ):Prop:={ğW,aU X a b H s->bu x v->bx c d->r x c H Q->{ű,call ĒZ (v::d),EP X a b Q}}
section
variable{X:Cx}{a b:Expr}{D E:TE}{C:Pos}
def Fp(d:Va X r)(e:PE X a D)(f:PE X b E)(g:EA b):PE X (ćo a b C) (JL r D E):=by intro c s i H Q I h;show Subscript_ (UB e f I h λv u j x y k l m n q=>d a b c j i k x y v u Q l m n q (g _ _))
def Tm(K:Zp):R2:={ĤD,x=ł/\y=Ŵ/\aZ K H p c/\Ci c i=Ĕ/\Q v H}
def Tl(K:Zp):R2:={ĤD,x=ł/\y=Ŵ/\bj K H p c/\Ci c i=Ĕ/\Q v H}
def Xi:R2:=λx y H Q=>∃z i c,x=į/\y=Ŵ/\Ė8/\Ci z.cps.toList i=ŗ/\Q ďa H
def Q4:Va X (Tm X.K):=by
 intro d e c s l H x y v u Q I o A h m;have(p,M,i,z,(),(),B,F,q):=h;cases o;have(t,()):=A;have(f,r,pl,N):=ZF B;have(j,h1,h2,h3,h4,G):=Ex F;have(w,n,g):=r.get h2;have J:=r.length;have hn:=wU;have fin:EP X c l Q w s:=(z,H,I,g,q,)
 by_cases h0:0<=i
 ·have k:i.toNat=j:=by rw[ĞO h0 G]at h1;show i_ h1
  show item_listR pl.isList h0 Ø (by rw[k];simpa using n) fin m
 ·have k:{āl,i,ë f.toArray.size}=j:=by rw[seqIndex_neg (o'4 h0) h4]at h1;rw[iq,<-J];show i_ h1
  show subscriptTail_builtinR (x:=w) pl.isList.typeIs slot_list_getitem.lookup (wpAny_getItem_list_neg (Q:=λr L=>r=w/\EP X c l Q r L) pl.isList (o'4 h0) (by rw[iq]<;>lia) Ø (by rw[k];simpa using n) (ą fin)) m
def Uc:Va X (Tl X.K):=by intro d e c s g H x y v u Q I k l h m;have(p,J,i,z,(),(),n,o,q):=h;cases k;rw[ĈS];have(A,r,pl,L):=ϝ n;have(j,h1,h2,h3,h4,M):=Ex o;have(w,B,f):=r.get h2;have F:=r.length;have hn:=wU;have fin:EP X c g Q w s:=(z,H,I,f,q,);show subscriptTail_builtinR (x:=w) pl.typeIs slot_tuple_getitem.lookup (getItem_tuple (j:=j) (Q:=λr G=>r=w/\EP X c g Q r G) pl Ø Ø (by rw[iq,<-F];show h1) ĐJ (ą fin)) m
def Ht:Va X Xi:=by
 intro d e f s w H x y v u Q I g k h l;have(z,i,c,(),(),A,m,q):=h;have(t,()):=g;have(B,()):=k;have(j,h1,h2,h3,h4,n):=Ex m;have o:ģ9 z.length:=by simp[Str.length]
 rw[o]at h1 h4 n;have hn:=wU;show tail_any (XV s z t) slot_str_getitem.lookup (getItem_str (c:=c) (by have p:{ĉv,i< -{ë,2^63}}:=j_ Ø;have r:{ĉv,i>=2^63}:=j_ Ø;rw[p,r,Bool.or_false]) (by rw[h1];simpa using h2) {ďa,H,ź,ĸ,q}) l
def Hl(d:Zt)(n j:Nat)(u:Value):Obj.mapSeq (·.setIfInBounds j u) {Ā0,ĂE d.toArray n}={Ā0,ĂE (d.set j u).toArray n}:=by simp[Obj.mapSeq]
theorem aU.lst(I:aU X f i H s)(h:H p=ò g):∃(d:Zt)(n:Nat),bx g d/\ε p=ąs d.toArray n/\ĜC:=by have(z,d,n,r,e):=āY p h;show(d,n,r,e,z,)
def aU.lstUpd{g:Zr}{o:St}{H:Hp}{s:Shared}{p:Addr}{z j:Ú}{i d:Zt}{n m:Nat}{f:Obj->Obj}(I:aU X g o H s)(h:H p=ò z)(A:ε p=ąs i.toArray n)(y:f {Ā0,ĂE i.toArray n}={Ā0,ĂE d.toArray m})(r:bx j d)(B:ĜD)(t:Nat):{Ėl,aU,X,g,o,ZZ p j,če p f,t}:=by
 have e:(če p f).get? p=ąs d.toArray m:={Ē,qx f A (by rw[y]<;>rfl),y}
 rw[ö,{Ę2,p,p,by rw[h];trivial,Ġ,λb u c q=>{è,pw _ _ (m_ c),q},{_,e},?_},(B,d,m,r,e,)]
def VJ:V->V->V->Ăa ăx:=λo i v H Q=>∃p c k j,o=ł/\i=Ąm/\H p=ąD/\Q6 c.length k=ăn/\Q {ZZ,p,c.set j v}
def Mm:RF X VJ:=by
 intro c s w H o i v G iv u Q I x y z h;have(p,A,k,j,(),(),l,B,q):=h;cases x;have(t,()):=y;have(d,n,r,e,F):=I.lst l;have(h1,h2,h3,h4):=IX B;have f:=r.length;have hn:=wU;have m:aU X c w {ZZ,p,A.set j v} {s with heap:={če,p,(Obj.mapSeq (·.setIfInBounds j u))}}:=I.lstUpd l e (Hl d n j u) (r.set z j) (Þ wa F) s.toks
 by_cases h0:0<=k
 ·have g:k.toNat=j:=by rw[ĞO h0 h4]at h1;show i_ h1
  show PySem.W.ki_setAt e h0 Ø (by rw[iq,<-f];show h4) {Þ,g,{_,m,q}}
 ·have g:{āl,k,ë d.toArray.size}=j:=by rw[seqIndex_neg (o'4 h0) h3]at h1;rw[iq,<-f];show i_ h1
  show PySem.W.ki_setBack e (o'4 h0) (by rw[iq,<-f];show h3) Ø {Þ,g,{_,m,q}}
def Dx(lo hi:Κ)(n:Nat):(sliceBounds lo hi none n).1={Ď,Ęi n}/\(sliceBounds lo hi none n).2.1={Ď,Ćd n n hi}/\(sliceBounds lo hi none n).2.2=1:=by
 show{?_,?_,()}
 ·cases lo with|none=>simp[sliceBounds,HT.ib]|some i=>
   rw[Ġm,ϸ>0]
   by_cases h:i<0
   ·simp only[h,YI]<;>lia
   rw[ģV]
 ·cases hi with|none=>simp[sliceBounds,HT.ib]|some i=>
   rw[Ġm,ϸ>0]
   by_cases h:i<0
   ·simp only[h,YI]<;>lia
   rw[ģV]
def By(d:Zt)(lo hi:Κ):slicePick d.toArray lo hi none={ăW,(d.drop ĥ7).take,Ćd d.length d.length hi-ĥ7}:=by have(h1,h2,h3):=Dx lo hi d.toArray.size;unfold slicePick;rw[h1,h2,h3];simp only[sliceRange_one,pick_run,iq]<;>rfl
def VH(K:Zp):V->Κ->Κ->χ:=λx lo hi H Q=>∃a c,x=ô/\aZ K H a c/\∀p,H p=none->Q ł {ZZ,p,ki c lo hi}
def Qd:U8 X (VH X.K):=by intro e s n H x v p t lo hi sl Q I g i pl j h;have(a,c,(),k,q):=h;cases g;have(l,r,f,m):=ZF k;have d:=r.length;rw[ç,{"list",_,slot_list_getitem.lookup,f.isList.typeIs,?_},wpAny_getItem_list_slice f.isList i pl j .none Ü ?_ (by rw[iq]<;>exact o'0 m d)];rw[By,<-d];rw[ö,{Ħ,_,{ĝk,I.laid,s.toks,{ø,ki c lo hi},d_ _ q,eH _,?_},(),q _ {ā3,eH _}},{g_ (yi c lo hi) m,_,0,(r.drop ĥ8).take (Ćd c.length c.length hi-ĥ8),ge _ ()}]
noncomputable def qD:Ās V|.non=>true|.bl _=>true|.int _=>true|.str _=>true|_=>false
noncomputable def O5:V->Ās V|.non,.non=>true|.bl a,.bl b=>a==b|.bl a,.int b=>(if a then 1 else 0)==b|.int a,.bl b=>a==(if b then 1 else 0)|.int a,.int b=>a==b|.str a,.str b=>a==b|_,_=>false
def Uv(e:bu y u)(d:bu x v)(g:Ą qD y)(f:Ą qD x):SeqAt.EqAt A s u v (O5 y x):=by cases y with
 |non=>cases e;cases x with|non=>rw[Ρ,SeqAt.EqAt.same _]|bl b=>rw[Ρ,SeqAt.EqAt.none_bool b]|int b=>rw[āB,d,SeqAt.EqAt.none_int b t]|str b=>rw[āB,d,SeqAt.EqAt.none_str b t]|_=>rw[ċN,f]
 |bl a=>cases e;cases x with|non=>rw[Ρ,SeqAt.EqAt.bool_none a]|bl b=>rw[Ρ,SeqAt.EqAt.bool_bool a b]|int b=>rw[āB,d,SeqAt.EqAt.bool_int a b t]|str b=>rw[āB,d,SeqAt.EqAt.bool_str a b t]|_=>rw[ċN,f]
 |int a=>have(c,()):=e;cases x with|non=>rw[Ρ,SeqAt.EqAt.int_none a c]|bl b=>rw[Ρ,SeqAt.EqAt.int_bool a c b]|int b=>rw[āB,d,SeqAt.EqAt.int_int a c b t]|str b=>rw[āB,d,SeqAt.EqAt.int_str a c b t]|_=>rw[ċN,f]
 |str a=>have(c,()):=e;cases x with|non=>rw[Ρ,SeqAt.EqAt.str_none a c]|bl b=>rw[Ρ,SeqAt.EqAt.str_bool a c b]|int b=>rw[āB,d,SeqAt.EqAt.str_int a c b t]|str b=>rw[āB,d,SeqAt.EqAt.str_str a c b t]|_=>rw[ċN,f]
 |_=>rw[ċN,g]
noncomputable def HG(x:V)(u:Value):Bool:=match u with|.none=>Āt O5 x|.bool b=>O5 Āw x|.int i _=>O5 Ŵ x|.str z _=>O5 į x|_=>false
def Oo(r:bu y u)(f:Ą qD y):HG x u=O5 y x:=by cases y with|non=>cases r;rfl|bl b=>cases r;rfl|int i=>rw[Đ4]|str z=>rw[Đ4]|_=>rw[ċN,f]
theorem vO:∀{d:Ú}{e:Zt},bx d e->Ą d.all qD->e.any (HG x)=d.any λy=>O5 y x|_,_,.nil,_=>()|y::d,u::e,.cons r t,f=>by rw[S_,k_]at f;rw[vl,vl,Oo r f.1,vO t f.2]
theorem qv(g:bu x v)(h:Ą qD x):∀{d:Ú}{e:Zt},bx d e->Ą d.all qD->∀u∈e,SeqAt.EqAt A s u v (HG x u)
 |_,_,.nil,_=>λu c=>ĄM c|y::d,u::e,.cons r t,f=>λi c=>by
  rw[S_,k_]at f;have()||c:=Ű c
  rw[Ĺ,Oo r f.1,Uv r g f.1 h]
  ·show qv g h t f.2 i c
noncomputable def mI(x:V)(d:Ú):Bool:=d.any λy=>O5 y x
def WV(K:Zp)(d:Bool):R2:=λx y H Q=>∃p c,y=ł/\(aZ K H p c\/bj K H p c)/\Ą qD x/\Ą c.all qD/\Q {Ĳ,if d then {Ŀ,mI x c} else mI x c} H
def Ki:oS X ğe (WV X.K false):=by
 rw[Ġ9,h];cases j;have d||d:=d
 ·rw[ĕS,ZF d,SeqAt.in_listAt (HG x) pl.isList (λw e=>qv g i r fs w či) {Ĳ _,H,I,(),?_}];rw[ý,{Ę4,{ĖO,HG x}=c.any (HG x)},vO r fs,q]
 ·rw[ĕS,ϝ d,SeqAt.in_tupleAt (HG x) pl (λw e=>qv g i r fs w či) {Ĳ _,H,I,(),?_}];rw[ý,{Ę4,{ĖO,HG x}=c.any (HG x)},vO r fs,q]
def DT:oS X (ā6 .NotIn) (WV X.K true):=by
 rw[Ġ9,h];cases j;have d||d:=d
 ·rw[ĕS,ZF d,SeqAt.notIn_listAt (HG x) pl.isList (λw e=>qv g i r fs w či) {Ĳ _,H,I,(),?_}];rw[ý,{Ę4,{ĖO,HG x}=c.any (HG x)},vO r fs,q]
 ·rw[ĕS,ϝ d,SeqAt.notIn_tupleAt (HG x) pl (λw e=>qv g i r fs w či) {Ĳ _,H,I,(),?_}];rw[ý,{Ę4,{ĖO,HG x}=c.any (HG x)},vO r fs,q]
def Ep:dN X ći (λy H Q=>∃p d,y=ſ/\(aZ X.K H p d\/bj X.K H p d)/\∀l,H l=none->{τ,l,ĀE d}):=by
 intro i s x H y A Q I r h;have(p,d,(),j,q):=h;have(u,(),z):=gZ r;cases z;have fin:∀(c:Zt),bx d c->ĜB->∀(h':Heap)(f:Nat),(∀b v,ģ=Ĕ->ŵ=Ĕ)->ĖK=Ù {Ċr,"list",none,ĂE c.toArray f,#[]}->EP X i x Q Ħ Χ:=λc g k h' f kp e=>{Ħ,_,I.laid (t':=s.toks) kp (eH _) {Č2,d7,X.w,_,h',_,ø d,(k,c,f,g,e,)},(),q _ {ā3,eH _}}
 have j||j:=j
 ·have(c,g,pl,k):=ZF j;have m:=g.length;have(o,t,hc,n,hd):=pl.isList;show call_list_seq p Ġ t hc hd (λh' f kp e=>fin c g k h' f kp e) {Ěj,o'0 k m}
 ·have(c,g,pl,k):=ϝ j;have m:=g.length;have(o,t,hc,n,hd):=pl;show call_list_seq p āh t hc hd (λh' f kp e=>fin c g k h' f kp e) {Ěj,o'0 k m}
def Cf:dN X ăK (λj H Q=>∃p f,j=ſ/\((aZ X.K H p f/\∀l,H l=none->{τ,l,ĀF l f})\/(bj X.K H p f/\Q ł H))):=by
 intro c s k H j y Q I r h;have(p,f,(),h):=h;rw[Ėi,gZ r,t];have(g,q)||(g,q):=h
 ·have(d,i,pl,m):=ZF g;have n:=i.length;rw[ċR,call_tuple_list pl.isList (λh' kp=>?_) {Ěj,o'0 m n},aU X c k H Χ,I.kept (t':=s.toks) kp];have x:aU X c k (ĀF h'.objs.size f) {ğX,h'.push,{Ć2,Ĝ4 .seq}}:=I1.laid (t':=s.toks) Ċg (eH _) {Č2,d7,X.w,_,_,_,ň f,{m,d,i,IsTup.new _ _}}
  show{â h'.objs.size,_,x,(),q _ {Đm,eH _}}
 ·have(d,i,pl,m):=ϝ g;show call_tuple_same pl {ł,H,I,(),q}
def tyV(K:Zp)(T:String)(x:V)(H:Hp):Prop:=match x with|.str _=>T="str"|.int _=>T="int"|.ref p=>(T="list"/\∃d,aZ K H p d)\/(T="tuple"/\∃o,Ăk p=Û/\ăm ăK/\o.dict=none)\/(T="dict"/\((∃c,H p=Į c)\/∃c,H p=ő .dT c))\/(T="set"/\∃S n,H p={Ù,.set S n})|_=>False
def Sv(I:aU X h m H s)(r:bu x v)(ty:tyV X.K T x H):
 ĎE v T/\∀a,v=ô->∃ob,ε a=ū/\ob.dict=none:=by cases x with|str z=>rw[ĔV];rw[ā,Ĩ T "str" ty,{XV s z t,ģs}]|int i=>rw[ĔV];rw[ā,Ĩ T "int" ty,{typeIs_int s i t,ģs}]|ref p=>
  cases r;have((),l,j)||((),o,d,hc,hd)||((),d)||((),S,n,d):=ty
  ·have(k,_,pl,_):=ZF j;show{pl.isList.typeIs,λa e=>?_};cases e;have(o,n,e,c,hd,_):=pl;show(o,e,hd,)
  ·show{{o,I.kIn p o d,hc},λa e=>?_};rw[ā,e,{o,I.kIn _ o d,hd}]
  ·have z:∃o,ε p=Û/\o.ExactDict:=by
    have(f,d)||(f,d):=d
    ·rw[ģZ,āY p d,(o,e,ex,)]
    ·rw[ģZ,āY p d,(o,e,ex,)]
   have(o,e,ex):=z;show{(o,e,ex.1,),λa g=>?_};rw[ā,g,(o,e,ex.2.1,)]
  ·have(o,_,_,_,e,ex,_):=āY p d;show{(o,e,ex.1,),λa g=>?_};rw[ā,g,(o,e,ex.2.1,)]|_=>show Ăf ty
def tBM(K:Zp)(T:String)(r:V->Ú->χ)(to:TE)(t:TA):TE:={ă1,to,c,H,λx d=>tyV K T x d/\t c d λe f=>r x e f Q}
variable{o e:Expr}{B:Zw}{to:TE}{t:TA}{g:Str}{m d:Pos}{T id:String}{r:V->Ú->χ}
def VT(y:PlainAttrs T)(slot:Slot T g id)(p:typeOf ĒZ=Ϙ ġc)(hm:Jt X id r)(z:PE X o to)(A:PA X (e::B) t)(i:ďc o g=ą2:=by rfl)(n:{î,{ăT,d,e::B}.all Ę3&&(Č1 d).all ėM&&{Ċ,Ă8 e B+ĒC ĈU+{ėh,([]:ĈU),0}<30}}:=by rfl)(j:Ξ m.endLine d.line:=by rfl)(F:ąq B=āw::Υ B:=by rfl)(f:Ćt d B:=by rfl):PE X {ĂG,g,m,e::B,d} (tBM X.K T r to t):=by intro c s k H Q I h;show wpAny_Call_method_late i n j () (cz (z c s k H _ I h) λv w l=>?_);have(x,G,I1,q,ty,J):=l;have(h1,h2):=Sv I1 q ty;show{T,id,y,slot,p,h1,h2,?_};have u:=A d c w k G _ I1 J;rw[F]at u⊢;rw[ç,t6 (by change(false||(backTo d (starEach B X.env)).any (·.1))=false;rw[f]<;>rfl) (x4 ?_),cz u λL M l=>?_];have(N,O,P,r2,R):=l;show hm c M k O x N v L Q P q r2 R
omit e
def Xy(X:Cx)(id:String)(r:V->Ú->χ):Prop:={ğW,aU X a b H s->bu x v->bx c d->r x c H Q->{ű,call ĒZ (v::d),EP X a b Q}}
def bx.one:∀{x:V}{b:Zt},bx [x] b->∃u,b=[u]/\bu x u|_,_,.cons r .nil=>{_,(),r}
theorem bx.eraseIdx:{ģW,bx b d->bx (b.eraseIdx i) (d.eraseIdx i)}|_,_,_,.nil=> .nil|_,_,0,.cons _ t=>t|_,_,i+1,.cons r t=>{ē,r,bx.eraseIdx i t}
theorem bx.reverse(h:bx b d):bx b.reverse d.reverse:=by induction h with|nil=>rw[Z5]|cons r t a=>rw[ý,List.reverse_cons,List.reverse_cons,bx.append a (ϋ r)]
theorem bx.rep(h:bx b d):∀k:Nat,bx (Ć0 k b) (Ć0 k d)|0=> .nil|k+1=>by rw[t8,t8,Ia,Ia];show bx.append h (bx.rep h k)
theorem CU:∀(l:ZO)(i:Nat),{ĂT,ě l.eraseIdx i}|[],_=>eH _|_::_,0=>sT _|_::r,i+1=>r_ (CU r i)
theorem C4(b:Zt):∀(k:Nat)(d:Zt),List.foldl (λf g=>f++g) d.toArray (ĝU k)={Ēy,d,Ć0 k b}
 |0,d=>Ü|k+1,d=>by
  have e:d.toArray++b.toArray=Ēy d b:=Ü
  have a:(d++b)++Ć0 k b=d++{Ć0,k+1,b}:=ĀU t8 Ia me
  rw[<-a,<-C4 b k (d++b),<-e,t8,rV]
section
variable{X:Cx}{d:Zr}{i:St}{H:Hp}{s:Shared}{l:Addr}{j g:Ú}
def aU.lset{h its':Zt}{n:Nat}{f:Ąz Value->Ąz Value}{o:Nat}(I:aU X d i H s)(p:H l=ò j)(e:ε l=ąs h.toArray n)(r:f h.toArray=its'.toArray)(t:bx g its')(y:ĜC):{Ėl,aU,X,d,i,ĀE g,{če,l,ĐD f},o}:=by have q:=PySem.IsL.update e f;rw[r]at q;rw[ö,{Ę2,l,l,Þ p trivial,Ġ,λk u a c=>è {ąh,pw,ĐD f,m_ a} c,{_,q},?_},{y,its',_,t,q}]
def aU.lnew(I:aU X d i H s)(f:bx g e)(h:ĜC):aU X d i (ZZ s.heap.objs.size g) {Ċv,{Ā0,.seq e.toArray},t'}:=I.laid (λ_ _ q=>d_ _ q) (eH _) {h,e,0,f,ge _ ()}
theorem aU.fresh(I:aU X d i H s):Ψ H=none:={ā3,eH _}
def aU.lstM(I:aU X d i H s)(h:H l=ò j):ĜD/\∃(f:Zt)(n:Nat),bx j f/\Ęk f.length/\ε l=ąs f.toArray n:=by have(z,f,n,r,e):=āY l h;show(z,f,n,r,r.length,e,)
def FJ{n:Nat}(h:ĩ n):{ć,ġT n}:=by unfold Builtin.List.listTooLong;show j_ Ø
omit e
section
variable{X:Cx}
def Ql:V->Ú->χ:=λx b H Q=>∃l a y,x=ž/\b=[y]/\H l=ò a/\ăz a.length/\Āt Q {ĀE,a++[y]}
def dB:Xy X "list.append" Ql:=by intro b s i H x j v k Q I f g h;have(l,m,y,(),(),c,o,q):=h;rw[ĝR,f,g.one];have(z,a,n,r,p,e):=Čm c;rw[ç,C_ F.slot_list_append {_,e,()} F.entry_list_append (F.args_list_append_2 _ _) (PySem.list_append l a.toArray n u (by rw[iq];lia)) {e,?_},{.non,_,I.lset (its':=a++[u]) c e Ü {Ďx,ϋ ru} ?_,(),q}];rw[gV,List.length_singleton];lia
def Qk:V->Ú->χ:=λx d H Q=>∃l b a c,x=ž/\d=ŝ b/\H l=ò a/\H b=ąD/\{ĩ,ćy c.length}/\Āt Q {ĀE,a++c}
def CM:Xy X "list.extend" Qk:=by
 intro g s w H x y v A Q I k m h;have(l,b,B,C,(),(),i,o,D,q):=h;rw[ĝR,k,m.one];cases ru;have(z,c,n,r,E,e):=Čm i;have(G,a,n2,r2,p,t):=Čm o;have f:{ĩ,c.toArray.size+a.toArray.size}:=by rw[iq,iq];lia
 have d:¬{î,(Ŀ c.toArray.isEmpty)&&{ġT,c.toArray.size+a.toArray.size}}:={Ŝ,FJ f,Bool.and_false,hH}
 show C_ F.slot_list_extend {_,e,()} F.entry_list_extend (F.args_list_extend_2 _ _) (AutoSeq1.list_extend_list_list_0 l c.toArray n b a.toArray n2 d (by rw[iq];lia) Ø) {e,t,?_}
 rw[Ģ,{.non,_,I.lset (its':=c++a) i e Ü (Ďx r2) ?_,(),q},gV];lia
def Tj:V->Ú->χ:=λx b H Q=>∃l a i k y,x=ž/\b=[Ŵ]/\H l=ò a/\-(2^63)<=i/\i<2^63/\seqIndex? i a.length=Ù k/\a[k]?=ϵ/\Q y {ĀE,a.eraseIdx k}
def No:Xy X "list.pop" Tj:=by
 intro c s C H x D v E Q I g j h;have(l,m,i,k,y,(),(),d,h1,h2,o,p,q):=h;rw[ĝR,g,j.one];have(t,()):=ru;have(z,a,n,r,A,e):=Čm d;have(w,B,b):=r.get p;show C_ F.slot_list_pop {_,e,()} F.entry_list_pop (F.args_list_pop_2 _ _) (MeetsSeq.list_pop_at l a.toArray n i t k w (fitsIndex_both h1 h2) (by rw[iq,<-A];show o) (Ă ut B) (by rw[iq];exact o'0 z A)) {e,?_}
 show{y,_,I.lset (its':=a.eraseIdx k) d e ?_ (r.eraseIdx k) ?_,b,q}
 ·rw[ēf,a.toArray.eraseIdxIfInBounds k=ăW a.eraseIdx k,List.eraseIdxIfInBounds_toArray]
 ·rw[Š,CU m k]
def VP:R2:=λx y H Q=>∃l b a c,x=ž/\y=ZM/\H l=ò a/\H b=ąD/\{ĩ,ćy c.length}/\∀p,H p=none->Q ł {ZZ,p,a++c}
def eR:oS X đV VP:=by
 intro d s p H x y v u Q I f g h;have(l,b,t,w,(),(),i,j,A,q):=h;cases f;cases g;have(z,c,n,r,B,e):=Čm i;have(C,a,n2,r2,k,m):=Čm j;show PySem.P.add_list e m ?_ (by rw[iq,iq];lia);have o:c.toArray++a.toArray=Ēy c a:=Ü
 rw[ó,o,{â _,_,I.lnew (t':=s.toks) (Ďx r2) (by rw[gV];lia),(),q _ I.fresh}]
def Xh:R2:=λx y H Q=>∃l k a,x=ž/\y=Ąm/\H l=ò a/\-(2^63)<=k/\k<2^63/\{ĩ,a.length*k.toNat}/\∀p,H p=none->Q ł {ZZ,p,Ć0 k.toNat a}
def QY(b:Ϸ)(k:Nat):(ąN k b).flatten.length=Ďo k:=by induction k with|zero=>simp|succ k a=>rw[t8,Ia,gV,a,Nat.succ_mul,Nat.add_comm]
def MU:oS X ĝB Xh:=by
 intro p s J H x y v u Q I A B h;have(l,k,K,(),(),C,h1,h2,w,q):=h;cases A;have(t,()):=B;have(z,b,n,r,D,e):=Čm C;have d:ĩ ĜQ:=by rw[iq,<-D];show w
 have f:¬ĜQ>(2^63-1)/8:=by
  have:ş sizeLine<=(2^63-1)/8:=ß
  lia
 have g:¬î {Ŀ,Builtin.List.listFitsIndex k}:={ăi,fitsIndex_both h1 h2}
 have c:¬Ą Builtin.List.listTooLong ĜQ:={ăi,FJ d}
 have i:List.foldl (λj o=>j++o) #[] {ĝU,Ě b.toArray.isEmpty 0 k.toNat}=ĤG k.toNat b:=by
  have E:∀m:Nat,List.foldl (λj o=>j++o) #[] (ĝU m)=ĤG m b:=λm=>by rw[ĉy,C4 b m [],List.nil_append]
  rw[E];cases b with|nil=>simp|cons a L=>rw[hF Ü]
 show wpAny_binaryOp_repeat_ref (T:="list") (U:="int") ß {_,e,()} (λG=>typeIs_int G k t) noFill_list_mul F.fills_int_mul F.slot_int_rmul repeat_list F.slot_int_index.lookup (C_ F.slot_int_rmul (typeIs_int s k t) F.entry_int_rmul (F.args_int_rmul_2 _ _) (int___rmul___int_list k t l b.toArray n) {é,e,{_,e,()},C_ F.slot_list_mul {_,e,()} F.entry_list_mul (F.args_list_mul_2 _ _) (AutoListH.list___mul___list_int_3 l b.toArray n k t g f c) {e,?_}})
 rw[ó,i,{â _,_,I.lnew (t':=s.toks) (r.rep k.toNat) (Ŝ QY Nat.mul_comm w),(),q _ I.fresh}]
omit e
section
variable{f:Type}[Ăb f]
noncomputable def bM(b:āR)(k:f):ĀV:=ď5 b.find? {ćz,Ād=k}
noncomputable def gN(b:āR)(k:f)(v:V):āR:={Ě,b.any {ćz,Ād=k},Ϯ λkv=>ď Ād k (Ād,v) kv,b++[(k,v)]}
noncomputable def fh(b:āR)(k:f):āR:=b.filter {ćz,Ād≠k}
def cN{p:f×V}{r:āR}{k:f}(e:ę=k):bM (p::r) k=Ù p.2:=ģd
def bX{p:f×V}{r:āR}{k:f}(e:¬ę=k):bM (p::r) k=bM r k:=ģd
theorem pA(k:f):∀b:āR,(b.any {ćz,Ād=k})=Ēi b k
 |[]=>()|p::r=>by
  rw[vl]
  rw[Ąr,k]
  ·simp only[cN e,ji e,Bool.true_or,Option.isSome_some]
  ·rw[bX e,j_ e,Bool.false_or];show pA k r
theorem EJ(k j:f)(y:V):∀b:āR,bM {Ϯ,λkv=>ď Ād k (Ād,y) kv} j={Ϻ,bM,b,j} λx=>ĀH k y x
 |[]=>()|p::r=>by
  have a:=EJ k j y r;rw[kw]
  rw[ĆN,ę,k]
  ·rw[hY h]
   rw[Ąr,j]
   ·rw[cN (p:=(ę,y)) e,cN e,Tp,hY (Ė3 h)]
   ·rw[bX (p:=(ę,y)) e,bX e,a]
  ·rw[hF h]
   rw[Ąr,j]
   ·rw[cN (p:=p) e,cN e,Tp,hF (ÿ h ďE)]
   ·rw[bX (p:=p) e,bX e,a]
theorem Cu(k j:f)(y:V):∀b:āR,bM b k=none->bM (b++[(k,y)]) j={ĀH,k,ϵ,bM b j}
 |[],_=>by
  rw[ρ,k,j]
  rw[Ĺ,hY e.symm,cN (p:=(k,y)) e]
  rw[ų,hF (Ēr e),bX (p:=(k,y)) e]|p::r,hn=>by
  rw[List.cons_append];have a:¬ę=k:=λz=>by rw[cN z]at hn;cases hn
  rw[bX a]at hn;have c:=Cu k j y r hn
  rw[Ąr,j]
  ·rw[cN e,cN e,hF (ÿ a ďE)]
  ·rw[bX e,bX e,c]
def Lw(b:āR)(k j:f)(y:V):bM (gN b k y) j={ĀH,k,ϵ,bM b j}:=by
 unfold gN
 by_cases a:Ą b.any {ćz,Ād=k}
 ·rw[hY a,EJ];rw[pA]at a
  rw[ρ,j,k]
  ·have(x,c):=w1.mp a;rw[hY e,e,c,Tp,hY ()]
  ·rw[hF e];cases bM b j with|none=>rfl|some x=>rw[Tp,hF e]
 ·rw[hF a];show Cu k j y b ?_;rw[pA]at a;cases q:bM b k with|none=>rfl|some x=>rw[q]at a;show(a ()).elim
def qw(b:āR)(k:f)(v:V):{Œ,gN b k v,ćR}:=by
 unfold gN
 split
 ·rw[b_];lia
 ·rw[gV,ig,E_];lia
def uS{b:āR}{k:f}(v:V)(h:bM b k=none):gN b k v=b++[(k,v)]:=by unfold gN;rw[ý,pA,h,hF ß]
def nL.isSome_eq(r:nL o u):o.isSome=u.isSome:=by cases o with
 |none=>cases u with|none=>rfl|some _=>show Ċt r
 |some _=>cases u with|none=>show Ċt r|some _=>rfl
theorem nL.getD(r:nL o u)(rd:bu d b):bu (o.getD d) (u.getD b):=by cases o with
 |none=>cases u with|none=>show rd|some _=>show Ċt r
 |some _=>cases u with|none=>show Ċt r|some _=>show r
def KV.val{d:āR}{g:ĘH f}(r:KV d g)(k:f):nL (bM d k) (ďK g k):=by
 unfold KV at r
 induction r with|nil=>show True.intro|@cons p q j a h t i=>
  have(h1,h2):=h
  rw[Ąr,k]
  ·rw[ėR,q.1=k,ēK,{ďK,q::a,k}=Ù ņ,ġv]
   rw[ý,cN e,b,h2]
  ·rw[ėR,¬q.1=k,Ĕ5 e z,{ďK,q::a,k}=ďK a k,ġv]
   rw[ý,bX e,b,i]
theorem KV.any(r:KV b d)(k:f):(b.any {ćz,Ād=k})=d.any {ćz,Ād=k}:=by
 unfold KV at r
 induction r with|nil=>rfl|cons h t a=>rw[vl,vl,a,ü]
def KV.repl(r:KV b d)(k:f)(g:bu y u):KV {Ϯ,λkv=>ď Ād k (Ād,y) kv} {Ą8,λkv=>ď Ād k (Ād,u) kv}:=by
 unfold KV at r⊢
 induction r with|nil=>rw[Z5]|@cons p q c i h t a=>
  rw[kw,kw];show ē ?_ a;have(h1,h2):=h
  rw[Ąr,k]
  ·rw[ý,hY e,hY ēK,Ċc g]
  ·rw[ý,hF e,hF (Ĕ5 e z),Ċc h2]
def KV.put(r:KV b d)(k:f)(g:bu y u):KV (gN b k y) (stored d k u):=by
 unfold gN stored;rw[r.any k]
 by_cases e:ęu {ćz,Ād=k}
 ·rw[ý,hY e,hY e,r.repl k g]
 ·rw[ý,hF e,hF e,{ĄE,r,ą g}]
def KV.drop(r:KV d g)(k:f):KV (fh d k) (without g k):=by
 unfold KV at r⊢;unfold fh without
 induction r with|nil=>rw[Z5]|@cons p q j l h t c=>
  have(h1,h2):=h;rw[Yd,Yd]
  rw[Ąr,k]
  ·have a:¬{î,Ą4 ę k}:=ĂK
   have b:¬{î,Ą4 q.1 k}:=ċM ēK
   rw[ý,hF a,hF b,c]
  ·have i:¬q.1=k:=Ĕ5 e z;have a:{î,Ą4 ę k}:=ĂK
   have b:{î,Ą4 q.1 k}:=by simp[i]
   rw[ý,hY a,hY b,{ē,Ċc h2,c}]
theorem KV.length(r:KV b d):Ėg:=ř r
def F9(b:āR)(k:f):ō fh b k<=b.length:=t_ _ _
omit e
def vx(r:bu (kV k) u):ķ (bp P w).is k u:=by cases k with|inl i=>rw[Ďd,u=Ċq i t,r];rw[ŧ,FP P w i t]|inr x=>rw[Ďd,u=Ć8 x t,r];rw[ŧ,x8 P w x t]
theorem xg:∀{b:Ăq}{d:Zt},bx (Ϯ kV) d->ItemsAre (bp P w) b d|[],_,r=>by rw[YY]at r;rw[ā,r,.nil]|k::b,_,r=>by rw[kw]at r;cases r with|cons h t=>show {ē,vx h,xg t}
abbrev KT(H:Hp):{Ė,ēN,ĘL Ăq}:=Paired λp q=>ę=q.1/\H Ąl={ĝ,(ę).map kV}/\bu p.2 ĀB
def KT.val{H:Hp}{d:ēN}{f:ĘL Ăq}(r:KT H d f)(k:Ăq):nL (bM d k) ((atKey f k).map (·.2)):=by induction r with|nil=>show True.intro|@cons p q i a h t g=>
  have(h1,_,h2):=h
  rw[Ąr,k]
  ·rw[ėR,q.1=k,ēK,atKey (q::a) k=Ù ņ,ġQ]
   rw[ý,cN e,b,h2]
  ·rw[ėR,¬q.1=k,Ĕ5 e z,atKey (q::a) k=atKey a k,ġQ]
   rw[ý,bX e,b,g]
def KT.repl(r:KT H b d)(k:Ăq)(f:bu y u):KT H {Ϯ,λkv=>ď Ād k (Ād,y) kv} {Ą8,putAt k u}:=by induction r with|nil=>rw[Z5]|@cons p q c g h t a=>
  rw[kw,kw];show ē ?_ a;have(h1,h2,h3):=h;unfold putAt
  rw[Ąr,k]
  ·rw[ý,hY e,hY ēK,(h1,h2,f,)]
  ·rw[ý,hF e,hF (Ĕ5 e z),(h1,h2,h3,)]
def KT.put(r:KT H d f)(k:Ăq)(h:H b={ĝ,k.map kV})(g:bu y u):KT H (gN d k y) (storedH f k b u):=by
 have e:(d.any {ćz,Ād=k})=Āk atKey f k:={ĀU,pA,Ěq r.val k,X3}
 unfold gN storedH;rw[e]
 by_cases q:{î,Āk atKey f k}
 ·rw[ý,hY q,hY q,r.repl k g]
 ·rw[ý,hF q,hF q,ĄE r {(),h,g}]
def KT.keeps(r:KT H d f)(g:∀b e,H b=ĝ e->h b=ĝ e):KT h d f:={Ĉt,r,λ_ _ z=>{z.1,g _ _ z.2.1,z.2.2}}
section
variable{P:Zu}{w:World}{H:Hp}{h:Heap}{a:Addr}
def RT(ok:pz P w H h)(e:Rd H a u):d7 P w H h a u:=e.ok ok
def yh(ok:pz P w H h)(e:Rd H a (.dK b)):ċ6/\āE a/\∃d,KV b d/\h.DictOf (bp P w) a d:={Ēb,d7,P,w,H,h,a,.dK b,RT ok e}
def Se(ok:pz P w H h)(e:H a=Į b):ċ6/\āE a/\∃d,KV b d/\h.DictOf (bp P w) a d:=yh ok ďD
def tO(ok:pz P w H h)(e:H a=ĝ ĒD):{ĂQ,bp P w}.is h d a:=by have(_,b,r,o,h1,h2,n,h3):={Ēb,d7,P,w,H,h,a,ň ĒD,ok a _ e};show{o,b.toArray,n,h1,h2,h3,{ĊZ,xg r}}
def yg(ok:pz P w H h)(e:Rd H a (.dT b)):ċ6/\āE a/\∃d,KT H b d/\h.DictOfH {ĂQ,bp P w} a d:=by
 have(z,y,d,r,o,g,i,h1,h2,h3,h4,j):={Ēb,d7,P,w,H,h,a,.dT b,RT ok e};show{z,y,d,r,o,g,i,h1,h2,h3,h4,λx c=>?_,j};have all:∀{l:ēN}{m:ĘL Ăq},KT H l m->∀x∈m,{ĂQ,bp P w}.is h ï ąo:=by
  intro l m q
  induction q with|nil=>intro x c;show nomatch c|@cons p q n s f t k=>
   intro x c;have e||c:=Ű c
   ·rw[ŧ,tO ok (Ă f.1 f.2.1)]
   ·show k x c
 show all r x c
def Wx(ok:pz P w H h)(e:H a=ő .dT b):ċ6/\āE a/\∃d,KT H b d/\h.DictOfH {ĂQ,bp P w} a d:=yg ok ďD
omit e
def fb(H:Hp)(a:Addr)(y:V)(r:ĀV):Prop:=(∃c k,Rd H a (.dK c)/\y=kV k/\r=bM c k)\/∃c k b,Rd H a (.dT c)/\y=ZM/\H b={ĝ,k.map kV}/\r=bM c k
def RM(H:Hp)(a:Addr)(y v:V)(d:Hp):Prop:=(∃c k,H a=Į c/\y=kV k/\Ėb/\d=aJ H a (.dK (gN c k v)))\/∃c k b,H a=ő .dT c/\y=ZM/\H b={ĝ,k.map kV}/\Ėb/\d=aJ H a (.dT (gN c k v))
theorem fb.k{H:Hp}{a:Addr}{b:Ğ}{k:cJ}(e:H a=Į b):fb H a (kV k) (bM b k):=à {b,k,ďD,(),()}
theorem RM.k{H:Hp}{a:Addr}{b:Ğ}{k:cJ}{v:V}(e:H a=Į b)(d:Ėa):RM H a (kV k) v (aJ H a (.dK (gN b k v))):=à {b,k,e,(),d,()}
section
variable{X:Cx}{d:Zr}{f:St}{H:Hp}{s:Shared}{a:Addr}{y v:V}{u r:Value}{o:ĀV}{A:Around}{E:Zq}
def aU.big(I:aU X d f H s):ăC sysModules:=by have h:ăC mainGlobals:=(Ğo).lt;show sm ß h
def K4(D:ĉZ<cLine)(I:aU X d f H s)(g:fb H a y Ĕ)(B:bu y u)(h:∀j C,aU X d f H C->bu v j->Q j C):{Ąf,ď6 ô u}:=by
 have(m,k,e,n,l)||(m,k,b,e,n,x,l):=g
 ·subst n;have(z,hd,F,c,dd):=ZG yh e;have(j,q,i):={ĕb,v,ďK F k,{Þ,l,c.val k}};show wpAny_getItem_of (vx B) dd.mapOf q (h j _ ź i)
 ·subst n;rw[ąd,Ś b,B];have(z,hd,G,c,dd):=ZG yg e;have(j,q,i):=ĕb v {Ďm,Ϻ atKey G k} {Þ,l,c.val k};have(p,J,t):=āy q;rw[ϑ,wpAny_getItem_heap (z_ D) (ZG tO x) dd J ?_,t,h j _ ź i]
def Xq(p:ĉZ<cLine)(I:aU X d f H s)(g:fb H a y o)(m:bu y u)(h:∀n,aU X d f H n->Q (ēq o.isSome) n):{Ąf,compareOp .In u ô}:=by
 rw[ġk]
 ·subst j;rw[ĕy,yh,e];show wpAny_in_of (vx m) hd dd.mapOf ?_;rw[ĉb,ėG k,l,h _ ź]
 ·subst j;rw[ąd,Ś b,m];rw[ĕx,yg,e];show wpAny_in_heap (z_ p) (ZG tO t) hd dd ?_;have q:=ėG k;rw[X3]at q;rw[ĉb,q,l,h _ ź]
def Jl(p:ĉZ<cLine)(I:aU X d f H s)(g:fb H a y o)(m:bu y u)(h:∀n,aU X d f H n->Q {ēq,Ŀ o.isSome} n):{Ąf,compareOp .NotIn u ô}:=by
 rw[ġk]
 ·subst j;rw[ĕy,yh,e];show wpAny_notIn_of (vx m) hd dd.mapOf ?_;rw[ĉb,ėG k,l,h _ ź]
 ·subst j;rw[ąd,Ś b,m];rw[ĕx,yg,e];show wpAny_notIn_heap (z_ p) (ZG tO t) hd dd ?_;have q:=ėG k;rw[X3]at q;rw[ĉb,q,l,h _ ź]
def zc(I:aU X d f H s)(g:WH (H a))(h:ĆE a)(i:∃q,ZU a=Ù q)(new:d7 X.prog X.w (aJ H a ob) h' a ob):aU X d f (aJ H a ob) (č7 j):={Ę2,a,a,g,Ġ,λb q c z=>{è,Ŕ b c,z},i,new}
def Os(z:ċ6)(hd:āE a)(e:KV b g)(dd:h'.DictOf (bp P w) a g):d7 P w h h' a (.dK b):=(z,hd,g,e,dd,)
def K3(M:ĉZ<cLine)(I:aU X d f H s)(g:RM H a y v N)(F:bu y u)(G:bu v r)(h:∀J,aU X d f N J->ąx J):{Ąf,setItem ô u r}:=by
 have(i,k,e,p,l,t)||(i,k,b,e,p,K,l,t):=g
 ·subst p t;have(z,hd,O,j,dd):=ZG Se e;have x:ĩ O.length:=Ă j.length z
  have B:ĩ (gN i k v).length:={ļ,qw i k v}
  show wpAny_setItem_pairs (hsz:=x) (vx F) dd λh' m D=>h _ ?_;have P:∃q,ZU a=Ù q:=let⟨q,_,_,n,_⟩:=m;(q,n,);show zc I (ĊR e) D P (Os B hd (j.put k G) m)
 ·subst p t;rw[ąd,Ś b,F];have(z,hd,R,j,dd):=ZG Wx e;have x:ĩ R.length:={Ă,ř j,z}
  have B:ĩ (gN i k v).length:={ļ,qw i k v}
  show wpAny_setItem_heap (hsz:=x) (z_ M) (ZG tO K) dd λh' m D=>h _ ?_;have(q,S,T,n,h2,h3,h4,_,U):=m;rw[ϑ,zc I (ĊR e) D (q,n,) {B,hd,_,(j.put k K G).keeps λc W L=>?_,q,S,T,n,h2,h3,h4,U},ay (VY L e (nofun)),L]
omit e
section
variable{X:Cx}{d:Zr}{f:St}{H:Hp}{s:Shared}{a:Addr}{b:Ğ}{k:cJ}{u:Value}{A:Around}{E:Zq}
def Wy(I:aU X d f H s)(e:H a=Į b)(n:bu (kV k) u)(l:bM b k=Ĕ)(hm:g=[]\/∃x,g=[x])(h:∀j r,aU X d f (aJ H a (.dK (fh b k))) r->bu v j->Q j r):{Ąf,call {Α,"dict.pop"} (ô::u::g)}:=by
 have(z,hd,y,c,dd):=ZG Se e;have(j,B,p):={ĕb,v,ďK y k,{Ă,l,c.val k}};have C:{î,ĎF keyPart u}:=by cases k with|inl i=>rw[Ēp,u=Ċq i t,n];subst q;rfl|inr x=>rw[Ēp,u=Ć8 x t,n];subst q;rfl
 have D:argsOk "dict.pop" {ô::u::g,[]}:=by
  have q||(x,q):=hm
  ·subst q;show PySem.F.args_dict_pop_2 _ _
  ·subst q;show PySem.F.args_dict_pop_3 _ _ _
 show B_ PySem.F.slot_dict_pop dd.typeIs PySem.F.entry_dict_pop D (meets_dict_pop_there ĄV a (vx n) g hm C) {y,j,dd,Ă c.length z,B,λh' m G=>h j _ ?_ p}
 have J:∃q,ZU a=Ù q:=let⟨q,_,_,K,_⟩:=m;(q,K,);show zc I (ĊR e) G J (Os (g_ (F9 b k) z) hd (c.drop k) m)
omit e
def UO(i:Expr):Prop:=∀a iv,Ęs i false a iv=operate [a,iv] (ď6 a iv)
def Ig{prog:Zu}{w:World}{A:Around}{E:Zq}{s:Shared}{env:Env}{d b:Expr}{j:Pos}{T id:String}{Q:Zq}(m:typeLookup Ča "__getitem__"={Ϙ,Ą0 id})(n:UO b)(h:{ăG,ζ,eval d env,λo s₁=>{ZK,eval b env,λi e=>e.TypeIs o T/\{ZK,ď6 o i,Q,E,e},E,s₁}}):{ϡ,eval (ćo d b j) env}:=by
 show Subscript_ {ā4,h,λo s₁ f=>{ā4,f,λi e a=>?_,ĖC},ĖC};have(k,a):=a;unfold subscriptTail;rw[ĄZ,a_ ?_,getitemInPython_of_ne k.not_modules,a_ (Yo k m ?_)];have fin:{ZK,Ęs b false o i,λr c=>{ZK,letTemporaryGo d o r>>=λ_=>Ϙ r,Q,E,c},E,e}:={Þ,n o i,wpAny_operating {ā4,a,λr c g=>a_ (wpAny_letTemporaryGo (eN g)),ĖC}}
 first|show eN (a_ fin)|show a_ (eN (a_ fin))|show a_ fin
def Ga(I:aU X d f H s)(g:fb H a y o):ĎE ô "dict":=by
 have(c,k,e,_,_)||(c,k,b,e,_,_,_):=g
 ·have(_,_,h,_,dd):=ZG yh e;show dd.typeIs
 ·have(_,_,i,_,dd):=ZG yg e;show dd.typeIs
def Vr(d ty:TE):TE:={ďg,d,b,H,λx e=>ty b e λy c=>∃a v,x=ô/\fb c a y Ĕ/\Q v c}
def Xa(ty d:TE):TE:={ďg,ty,b,H,λy e=>d b e λx c=>∃a o,x=ô/\fb c a y o/\Q (Ĳ o.isSome) c}
def Po(ty d:TE):TE:={ďg,ty,b,H,λy e=>d b e λx c=>∃a o,x=ô/\fb c a y o/\Q ĥ0 c}
section
variable{X:Cx}{o i:Expr}{d:Pos}{b ty:TE}
def gf(r:ău<cLine)(t:PE X o b)(hi:PE X i ty)(z:UO i):PE X (ćo o i d) (Vr b ty):=by intro c s p H Q I h;show {ġV,Ig,z,cz (t c s p H _ I h) λu w k=>?_};have(x,B,I1,C,D):=k;show cz (hi c w p B _ I1 D) λiv L k=>?_;have(y,E,q,G,a,v,ex,g,J):=k;rw[ĕ8,u=Z7];show{Ga q g,K4 r q g G λM N K l=>(v,E,K,l,J,)}
def G5(p:ău<cLine)(hi:PE X i ty)(q:PE X o b):PC X .In i o (Xa ty b):=by intro c s l H Q I h;show cz (hi c s l H _ I h) λiv r k=>?_;have(y,t,I1,v,w):=k;show cz (q c r l t _ I1 w) λu G k=>?_;rw[ģu];rw[ĕ8,u=Z7];show Xq p B g v λJ F=>{Ĳ D.isSome,z,F,(),E}
def wJ(p:ău<cLine)(hi:PE X i ty)(q:PE X o b):PC X .NotIn i o (Po ty b):=by intro c s l H Q I h;show cz (hi c s l H _ I h) λiv r k=>?_;have(y,t,I1,v,w):=k;show cz (q c r l t _ I1 w) λu G k=>?_;rw[ģu];rw[ĕ8,u=Z7];show Jl p B g v λJ F=>{ĉp D.isSome,z,F,(),E}
omit e
def Ot(h:Heap)(b:ĝM sysModules):d7 P w H (h.push {Ĕb,"dict",.dict #[]}) h.objs.size (.dK []):={ku _,z3.mpr (m_ (iA b)),[],.nil,Heap.DictOf.new h}
def SI:TE:=λ_ H Q=>∀p,H p=none->Q ł (aJ H p (.dK []))
section
variable{X:Cx}{b:Pos}
def ni:PE X (.Dict [] [] b) SI:=λc s d H Q I h=>ĥj {Ħ,_,{ĝj,I.laid,s.heap.objs.size,.dK [],λ_ _ q=>d_ _ q,eH _,ČY Ot I.big},(),h _ {ā3,eH _}}
omit e
structure M1(X:Cx)(o:Expr)(m:Str)(apos:Pos)(e:Expr)(cpos:Pos):Prop where
 base:ďc o m=ą2
 few:{î,{ăT,cpos,[e]}.all Ę3&&(Č1 cpos).all ėM&&{Ċ,Ěu [e] Zw+ĒC ĈU+{ėh,([]:ĈU),0}<30}}
 line:ĥV
 trees:ăT cpos [e]=[āw]
structure M2(X:Cx)(o:Expr)(m:Str)(apos:Pos)(e f:Expr)(cpos:Pos):Prop where
 base:ďc o m=ą2
 few:{î,{ăT,cpos,[e,f]}.all Ę3&&(Č1 cpos).all ėM&&{Ċ,Ěu [e,f] Zw+ĒC ĈU+{ėh,([]:ĈU),0}<30}}
 line:ĥV
 trees:ăT cpos [e,f]=[āw,ăR f]
def W1(H:Hp)(a:Addr):Prop:=(∃b,Rd H a (.dK b))\/∃b,Rd H a (.dT b)
def Hv(I:aU X f g H s)(d:W1 H a):ĎE ô "dict"/\(∀b,Z7=ZM->∃ob,ģ=ū/\ob.dict=none)/\āE a:=by
 have(c,e)||(c,e):=d
 ·have(_,hd,h,_,dd):=ZG yh e;show{dd.typeIs,Ğ6,hd};cases q;rw[ĥx];show ēg ob h2.2.1
 ·have(_,hd,i,_,dd):=ZG yg e;show{dd.typeIs,Ğ6,hd};cases q;rw[ĥx];show ēg ob h2.2.1
section
variable{X:Cx}{f:Zr}{i:St}{H:Hp}{s:Shared}{a:Addr}{y d:V}{u r:Value}{o:ĀV}{A:Around}{E:Zq}
def Uz(t:ĉZ<cLine)(I:aU X f i H s)(g:fb H a y o)(n:bu y u)(h:∀p q,aU X f i H q->bu (o.getD .non) p->Q p q):{Ąf,call Ĥg [ô,u]}:=by
 rw[ġl]
 ·subst m;rw[ĕx,yh,e];rw[ϑ,{Ęc,B_,Ěo _ _,meets_dict_get ĄV a (vx n) hd,{_,dd.mapOf,h _ _ ź ?_}},l,(c.val k).getD ()]
 ·subst m;rw[ąd,Ś b,n];rw[ĕy,yg,e];rw[ϑ,{Ęc,B_,Ěo _ _,meetsH_dict_get (ĂQ ĄV) a b hd,{z_ t,k,x,ZG tO v,dd,h _ _ ź ?_}},l,(c.val k).getD ()]
def Uy(t:ĉZ<cLine)(I:aU X f i H s)(g:fb H a y o)(n:bu y u)(rd:bu d r)(h:∀p q,aU X f i H q->bu (o.getD d) p->Q p q):{Ąf,call Ĥg [ô,u,r]}:=by
 rw[ġl]
 ·subst m;rw[ĕx,yh,e];rw[ϑ,{Ęc,B_,ĚB _ _ _,meets_dict_get_default ĄV a (vx n) hd r,{_,dd.mapOf,h _ _ ź ?_}},l,(c.val k).getD rd]
 ·subst m;rw[ąd,Ś b,n];rw[ĕy,yg,e];rw[ϑ,{Ęc,B_,ĚB _ _ _,meetsH_dict_get_default (ĂQ ĄV) a b hd r,{z_ t,k,x,ZG tO v,dd,h _ _ ź ?_}},l,(c.val k).getD rd]
omit e
def SK(e ty:TE):TE:={ďg,e,b,H,λx c=>∃a,x=ô/\W1 c a/\ty b c λy d=>∃o,fb d a y o/\Q (o.getD .non) d}
def SJ(e ty f:TE):TE:={ďg,e,b,H,λx c=>∃a,x=ô/\W1 c a/\ty b c λy g=>f b g λz d=>∃o,fb d a y o/\Q (o.getD z) d}
def SG(f ty:TE):TE:={ă1,f,c,H,λx d=>∃a,x=ô/\W1 d a/\ty c d λy e=>∃b k v,e a=Į b/\y=kV k/\bM b k=Ĕ/\Q v (aJ e a (.dK (fh b k)))}
section
variable{X:Cx}{o e f:Expr}{b i:Pos}{j ty n:TE}
def Ft(q:ău<cLine)(r:PE X o j)(t:PE X e ty)(m:M1 X o "get" b e i):PE X {ĂG,"get",b,[e],i} (SK j ty):=by intro c s p H Q I h;show {ĔI,W_,m.base,m.few,m.line,cz (r c s p H _ I h) λu v k=>?_};have(x,w,I1,z,a,ex,d,B):=k;subst ex;obtain rfl:u=Z7:=z;have(C,D,_):=Hv I1 d;rw[ęf,{C,D,?_},t6 () (x4 (s_ (cz (t c v p w _ I1 B) λiv M k=>?_)))];have(y,E,G,J,N,g,K):=k;rw[ö,x_ ?_,Uz q G g J λO P L l=>{_,E,L,l,K}]
def Fs(p:ău<cLine)(q:PE X o j)(r:PE X e ty)(t:PE X f n)(m:M2 X o "get" b e f i):PE X {ĂG,"get",b,[e,f],i} (SJ j ty n):=by
 intro c s k H Q I h;show {ĔI,W_,m.base,m.few,m.line,cz (q c s k H _ I h) λu v w=>?_};have(x,B,I1,C,a,ex,d,D):=w;rw[ĕ8,u=Z7];have(E,G,_):=Hv I1 d;rw[Ģ,{E,G,?_},m.trees];show t6 () (x4 (s_ (cz (r c v k B _ I1 D) λiv J⟨y,K,L,M,N⟩=>s_ (cz (t c J k K _ L N) λU V⟨z,O,P,R,W,g,S⟩=>x_ ?_))))
 show Uy p P g M R λY Z T l=>{_,O,T,l,S}
def Fq(r:PE X o j)(t:PE X e ty)(m:M1 X o "pop" b e i):PE X {ĂG,"pop",b,[e],i} (SG j ty):=by intro c s q H Q I h;show {Ġ1,W_,m.base,m.few,m.line,PySem.F.slot_dict_pop,PySem.F.type_dict_pop,cz (r c s q H _ I h) λu w g=>?_};have(x,z,I1,A,a,ex,d,B):=g;subst ex;obtain rfl:u=Z7:=A;have(C,D,_):=Hv I1 d;rw[ęf,{C,D,?_},t6 () (x4 (s_ (cz (t c w q z _ I1 B) λiv O g=>?_)))];have(y,P,E,G,J,k,v,K,L,l,M):=g;show x_ ?_;subst L;show Wy E K G l Ġ λR S N p=>{v,_,N,p,M}
omit e
omit L2
namespace Att
open PySem PySem.W PySem.Calls PyProof.Rows
def yS:∀(ns:ZA)(d:Zt),WellAll P h d (ns.map WData.int)->Čs d:=by
 intro ns
 induction ns with|nil=>intro d w;rw[YY]at w;rw[ā,w,.nil]|cons n ns c=>intro d w;rw[kw]at w;cases w with|cons a b=>rw[ā,a,.cons _ _ (c _ b)]
def J9{l:OpenLaw}{n:Nat}(hn:l.most=ăo){P:Params}{h:Heap}{args:ĉ WData}{b:Zt}(e:Ą l.row.toRowW.claim.pre args)(i:WellAll P h b args):∃a m ns,b=[Z7]/\args=[WData.list (ns.map WData.int)]/\ω={Ďg,.seq m.toArray}/\Čs m/\čh n:=by
 have j:{î,WShape.hasAll [] args [.list .int]}:=(pre_splitW e).1;have hc:ķ l.pre.holds [] {args:=args}:=(pre_splitW e).2;have(d,r,(),h1,h2):=hasAllW_cons j;rw[Ι,hasAllW_nil,h2];have(t,(),h3):=hasW_list h1;have(ns,()):=items_int h3;have c:čh n:=by
  unfold OpenLaw.pre at hc;have h4:ķ (WTm.not (.lt (.lit (ã ϩ)) (.len (.arg 0)))).holds [] {args:=[.list (ns.map .int)]}:=by have h4:=(holds_andW hc).1;rw[hn]at h4;show h4
  have g:=condW_of h4 (w_not (w_lt w_lit (w_len_list (w_arg ()))));rw[b_]at g;show Y9 λq=>?_;have k:ϩ<Ď ns.length:=Ø
  first|(rw[ji k]at g;rw[Ā,g,ß])|(simp at g;lia)
 cases i with|cons o p=>cases p;cases o with|list s f=>show{_,_,ns,(),(),s,yS ns _ f,c}
def Kd(l:OpenLaw)(args:ĉ WData):{î,l.row.toRowW.claim.post args ăN args}:=postW_of (r:=l.row.toRowW) (X:=(true==true)) (show {î,WShape.has [] ăN .bool} by first|rfl|decide|simp[WShape.has,WShape.arms,WShape.armsAll]) {Ĩ,(WTm.eq .res (.lit ăN)).value [] {args:=args,res:=ő .bool true,after:=args},{ő,.bool,true==true},w_eq_bool (w_res ()) w_lit} ()
def Gq{l:OpenLaw}{n:Nat}{q:Zu}{b:Zv}{y:{ċA,Str->ĳ}}{z:Ğn}{d:DefRec}(hn:l.most=ăo)(p:ě9 [])(call:∀(w:World)(s₀ s₁:Shared)(mg mb:Zs)(h:Addr)(o:Obj)(pm cd e:Value)(a:Addr)(g:Zt)(ns:ZA),Ground q b [] y w s₀ mg mb s₁.heap->z w s₁.heap->ĐY h=Û->{ąr,.func (docDef d.name d.params d.body d.scope pm cd e)}->s₁.heap.CodeRec cd d.name->mg d.name=í h->ĐY a={Ďg,.seq g.toArray}->Čs g->čh n->s₁.gens=#[]->{Ă3,ġb l.prog,callerA,ēE h {Āe,[]},λr m=>r= .ok (.ret ăN)/\ĉg OldK m.heap/\m.os=s₁.os/\ĄW m.gens,s₁}):WalkO q b y z l.row.toRowW d [] (λf g=>PySem.call f g):=by intro w s₀ s₁ mg mb G Y h o pm cd e C kV D hd s v t hg x A I i B E u F;obtain rfl:C= .none:=Dflts.none v p;obtain rfl:kV= .none:=Dflts.noKw v;have(a,g,ns,(),(),j,c,k):=J9 hn i u;show enter_call (A_ (call w s₀ s₁ mg mb h o pm cd e a g ns G Y D (fd_plain hd) s t j c k hg) λr m H=>?_);have((),h2,h3,h4):=H;show{à {ăN,ăN,[],(),Ī,ăN,Kd l _,λ_=>{List.Pairwise.nil,λ_ hm=>(nomatch hm)}},h2,h3,h4}
omit Att
namespace L2
open PySem PySem.Spec PyProof.Rows
theorem Ct:∀{b:Zt}{ns:ZA},Čs b->bx Ŷ b|_,_,.nil=> .nil|_,_,.cons n t h=>{ē,œ t,Ct h}
def oU(H:Hp):Prop:=∀b,H b=none\/∃o a,H b={Ù,.frz o (ø a)}
def NM{P:Zu}{w:World}{K:Zp}{mg mb:Zs}{R:Cs}{k:Nat}{J a:Addr}{fd:FuncData}{x:Str}{sp:Sp}{s₁:Shared}{p:Zt}{ns:ZA}(S:K.In s₁.heap)(y:ęQ s₁.heap.Ns mg)(f:s₁.heap.Ns builtinsNs mb)(L:∀x:Str,ċ0 x->mb x=ϓ x)(A:s₁.heap.NoLimit)(hg:s₁.gens=#[])(I:ĐY a={Ďg,.seq p.toArray})(hi:Čs p)(T:ĩ ns.length)(hr:vQ k callerA)(F:∀base:Heap,K.In base->ė5 mg->aT P w K mg base R k J fd [x] sp)(t:ěG BindsTo s fd {[u],[]} [(x,u)])(M:∀H:Hp,oU H->aZ K H a Ŷ->sp Āe H (λv _=>v=Ā6) ăD)(N:∀H e g,R [] H s₁ ăD e g->False):{Ă3,Ąa,callerA,ēE J {Āe,[]},λr g=>r= .ok (.ret ăN)/\ĉg OldK g.heap/\g.os=s₁.os/\ĄW g.gens,s₁}:=by
 have U:=Ct hi;have l:=hi.length;have j:∀H:Hp,oU H->aZ K H a Ŷ->pz P w H s₁.heap->(∀b,H b≠none->b=a)->(H a≠none->Ăk a=none)->{Ă3,Ąa,callerA,ēE J {Āe,[]},λr g=>r= .ok (.ret ăN)/\ĉg OldK g.heap/\g.os=s₁.os/\ĄW g.gens,s₁}:=by
  intro H X hS hok Y hK;have c:∀{b:Addr}{o:Obj},ĐY b=Û->H b=none->(ĉg Ef H).get? b=Û:=λe n=>N4 e n;have noA:∀{b:Addr}{o:Obj}{B:đ9}{C:Nat},ĐY b=Û->{ąr,.dict B C}->H b=none:=λ{b o B C}e d=>by cases q:H b with|none=>rfl|some u=>have O:b=a:=Y b (by rw[q];simp);subst O;rw[I]at e;cases e;have d':Data.seq p.toArray _=Data.dict B C:=d;cases d'
  have i:∀{b:Addr}{m:Zs},s₁.heap.Ns b m->(ĉg Ef H).Ns b m:=λ{b m}⟨o,B,C,e,d,r⟩=>{o,B,C,c e (noA e d),d,r};have D:K.In (ĉg Ef H):={ĚZ,c,S b o e,(by cases q:H b with|none=>rfl|some u=>have O:b=a:=Y b (by rw[q];simp);subst O;rw[ĀJ,hK (by rw[q];simp),e])}
  have hM:WJ K mg (ĉg Ef H):={D,i y,{mb,i f,L},let⟨mc,h1,h2⟩:=A;{mc,i h1,h2}};have e0:Ic P w K mg (ĉg Ef H) callerA [] s₁ H:={(),hM,λb o e=>QD e,Yj (KO _ _),trivial,λb f=>{ť,Ēo b ([]:Zz) f,Ü},hok,.of_eq hg};show A_ ((F _ D (i y)).run callerA [] s₁ H {Āe,[]} Āe Āe _ _ hr e0 (t s₁ ô) {ϋ,()} (M H X hS)) λr g h=>?_;cases r with|error e=>show(N H e g h).elim|ok fl=>cases fl with|next=>show Ăf h|brk=>show Ăf h|cont=>show Ăf h|ret u=>have(v,H',os,bare,un,E,r',q):=h;have q':v=Ā6:=q;subst q';obtain rfl:u=ĈF Value.bool:=r';show{(),OldK.of_keep čA,os,bare};cases q:H b with|none=>show un.keep b o e q (by intro z;rw[Ā,Ēo b ([]:Zz) z,Ü]) Ü|some u=>
     have z||(ob,xs,z):=X b
     ·rw[Ĕz,q,z]
     ·have z2:=un.frzs b ob _ z;have(Z,_):=hok b _ z;have(e2,_):=E b _ z2;rw[e]at Z;rw[ā,Z,e2]
 cases Q:Ăk a with|some o=>have e:=S a o Q;rw[ĄN,I,e,j đK (λ_=>Ġ) {æ,{_,p.toArray,_,Q,(),(),(),Ŝ iq l T,by simpa using U}} (λb u z=>by have G:(none:ŭ HO)=ð:=z;cases G) {Ďz,(),z} {ĀG,(),z}]|none=>
  show j (λb=>ď b a {Ù,.frz {Ā0,.seq p.toArray} (ø Ŷ)} none) ĞU {à,æ {{Ā0,.seq p.toArray},hY ()}} (λb u z=>?_) đL λ_=>Q
  ·by_cases f:b=a
   ·rw[Ĉ,{_,_,hY f}]
   ·rw[ţ,hF f]
  ·by_cases f:b=a
   ·have G:=(hY f).symm.trans z;cases G;subst f;show{I,āo T,p,_,U,I}
   ·have G:=(hF f).symm.trans z;cases G
  ·by_cases f:b=a
   ·show f
   ·rw[Ā,hF f,z]
abbrev KOf{K:Zp}{h:Heap}(_:K.In h):Zp:=K
def Pa{l:PySem.W.OpenLaw}{n k:Nat}{q:Zu}{i:Zv}{I:{ċA,Str->ĳ}}{C:Ğn}{d:DefRec}{K:Params->Zp}{CX:World->Cs}{sp:World->Sp}{x:Str}(hn:l.most=ăo)(r:ĩ n)(t:ě9 [])(J:vQ k callerA)(L:∀(w:World)(h:Heap),C w h->ĎY h)(F:∀(w:World)(mg:Zs)(p:Addr)(h:Heap),ĎY h->Čh->mg d.name=í p->∃fd:FuncData,{ěG,BindsTo,s,fd,{[u],[]},[(x,u)]}/\∀base:Heap,ĎY base->ė5 mg->aT l.prog w ċn mg base (CX w) k p fd [x] (sp w))(y:∀(w:World)(H:Hp)(a:Addr)(ns:ZA),čh n->oU H->aZ ċn H a Ŷ->sp w Āe H (λv _=>v=Ā6) ăD)(z:∀(w:World)(H:Hp)(s:Shared)(e:Value)(A:Shared),CX w [] H s ăD e A->False):PySem.W.WalkO q i I C l.row.toRowW d [] (λf D=>PySem.call f D):=by show Att.Gq hn t λw s₀ s₁ mg mb p o pm cd M a D ns G Y S hd N B m j c hg=>?_;have E:=L w _ Y;have(fd,O,P):=F w mg p _ E G.T.g B;show NM E G.T.g G.T.b G.T.builtins G.T.nolimit hg m j (g_ c r) J P O (λH Q R=>y w H a ns c Q R) λH e A=>z w H s₁ e A
def Lv{l:PySem.W.OpenLaw}{n k:Nat}{q:Zu}{b:Zv}{t:{ċA,Str->ĳ}}{p:Ğn}{d:DefRec}{K:Params->Zp}{CX:Cs}{sp:Zp->Sp}{x:Str}(hn:l.most=ăo)(g:ĩ n)(i:ě9 [])(y:vQ k callerA)(z:∀(w:World)(h:Heap),p w h->ĎY h)(F:∀(w:World)(mg:Zs)(r:Addr)(h:Heap),ĎY h->Čh->mg d.name=í r->∃fd:FuncData,{ěG,BindsTo,s,fd,{[u],[]},[(x,u)]}/\∀base:Heap,ĎY base->ė5 mg->aT l.prog w ċn mg base CX k r fd [x] (sp ċn))(j:∀(K:Zp)(H:Hp)(a:Addr)(ns:ZA),čh n->oU H->aZ K H a Ŷ->sp K Āe H (λv _=>v=Ā6) ăD)(m:∀(H:Hp)(s:Shared)(e:Value)(o:Shared),CX [] H s ăD e o->False):PySem.W.WalkO q b t p l.row.toRowW d [] (λf A=>PySem.call f A):=Pa (K:=K) (CX:=λ_=>CX) (sp:=λw=>sp ċn) hn g i y z F (λw H a ns h1 h2 h3=>j ċn H a ns h1 h2 h3) λ_ H s e o=>m H s e o
def vE(s:Stmt):Arguments:=match s with|.FunctionDef _ a _ _ _ _ _ _ _ _=>a|_=>{posonlyargs:=[],args:=[],vararg:=none,kwonlyargs:=[],kw_defaults:=[],kwarg:=none,defaults:=[]}
def gT(s:Stmt):ă2:=match s with|.FunctionDef _ _ b _ _ _ _ _ _ _=>b|_=>[]
def aj(s:Stmt):Scope:=match s with|.FunctionDef _ _ _ _ _ _ a _ _ _=>a|_=>{kind:= .function,names:=[],isGenerator:=false,isCoroutine:=false}
abbrev dw:Cs:=λ_ _ _ _ _ _=>False
abbrev E0:XK:=ăD
def bI:fZ dw X E0:=λ_ _ _ _ _ _ _ h=>h.elim
structure EE(K:Zp)(x qual:Str)(st:Stmt)(f:Addr)(fd:FuncData):Prop where
 ex:∃(oc:Value)(od:ă3)(kV doc pm:Value)(an:ă3)(cdv ct:Value)(osl:ďW),fd={Čv,x,qual,vE st,gT st,aj st,.none,kV,doc,pm,an,cdv,ct}/\Ăk f=Ù {oc,od,.func fd,osl}/\{î,ĝP K cdv qual}
 kp:ĐO K āk
section
variable{P:Zu}{w:World}{K:Zp}{mg:Zs}{base:Heap}
def EE.ok{x b:Str}{st:Stmt}{f:Addr}{fd:FuncData}{N i:Zv}{k:Nat}{sp:Sp}(F:EE K x b st f fd)(S:aA N i (aj st))(len:{Ďp,sp e H Q E,ċy i.length})(g:{ğY,Ú,vQ k {ĂY,{ĊF,b,aj st,f,d}}->sp e H Q E->∃t,yo (Ce dw P w K mg base N b (aj st) f d A outer s H E).nox (gT st) t/\t {Ēs,Āt Q j} (jb N e) H}):aT P w K mg base dw (k+1) f fd i sp:=by have(oc,o,kV,l,pm,p,d,ct,m,(),lk,a):=F.ex;show Sa lk a S len λA outer s H e Q E n c=>?_;have(t,h,q):=g d A outer s H e Q E n c;show(t,h.nox,q,)
def EE.binds{x b:Str}{st:Stmt}{f:Addr}{fd:FuncData}{g:Zv}(F:EE K x b st f fd)(h:∀(kV d pm:Value)(i:ă3)(e ct:Value)(j:Zt),Ęk g.length->bindArgs {Čv,x,b,vE st,gT st,aj st,.none,kV,d,pm,i,e,ct} {j,[]}={Ϙ,g.zip j}):iD K fd g []:=by have(oc,k,kV,d,pm,i,e,ct,a,(),lk,c):=F.ex;show .all (h kV d pm i e ct)
def A5{x b:Str}{st:Stmt}{f:Addr}{oc:Value}{i h:ă3}{g:ďW}{kV e pm d ct:Value}(l:Ăk f=Ù {oc,i,.func {Čv,x,b,vE st,gT st,aj st,.none,kV,e,pm,h,d,ct},g})(c:{î,ĝP K d b})(k:ĐO K āk):EE K x b st f {Čv,x,b,vE st,gT st,aj st,.none,kV,e,pm,h,d,ct}:={{oc,i,kV,e,pm,h,d,ct,g,(),l,c},k}
omit e
def c7(b:vQ k A):ĉZ<cLine:=so (Nat.add_le_add_left (ß:1<=64) _) b.units
section
variable{X:Cx}
def Y(i:Nat)(d:Ā7=ù:=by rfl)(e:ąX WY x:=by first|show Or.inl ()|show Or.inr (Or.inl ())|show Or.inr (Or.inr ()))(hd:Āx:=by decide)(b:ă9 x ĢC:=by decide):PE X ĉS (nS i):=Tu d e hd b
omit e
def ce{A B:Prop}(h:B):Ě false A B:={Þ,hF hH,h}
def bE{A B:Prop}(h:A):Ě true A B:={Þ,hY (),h}
def ao(H d:Hp):Prop:={ê,H b=Û,d b=Û}
def ao.refl(H:Hp):ao H H:=λ_ _ h=>h
def ao.trans(a:ao H d)(b:ao d e):ao H e:=λc o h=>b c o (a c o h)
def ao.free(e:ao H b)(h:{ėW,b l}):{ėW,H l}:=by cases q:H l with|none=>rfl|some o=>rw[ĀO,e l o q,h]
def ao.seq{K:Zp}{H b:Hp}{a:Addr}{d:Ú}(e:ao H b)(h:aZ K H a d):aZ K b a d:=by
 rcases h with(h|⟨o,h⟩)|h
 rw[Ř,{à,e _ _ h}]
 rw[Ř,æ {o,e _ _ h}]
 rw[ϛ,h]
section
variable{b:Type}[Ăb b]
def C6{p:b×V}{r:đF b}{k:b}(e:ę=k):fh (p::r) k=fh r k:=by unfold fh;rw[Yd,hF ĂK]
def C7{p:b×V}{r:đF b}{k:b}(e:¬ę=k):fh (p::r) k=p::fh r k:=by unfold fh;rw[Yd,hY ĂK]
omit e
omit L2
set_option maxHeartbeats 4000000
namespace L2
open PySem PySem.Spec PyProof.Rows
section
variable{prog:Zu}{w:World}{A:Around}{R:Result->Ĝ}{s:Shared}
def nu(h:Ĉw M t Q Ā2)(k:∀a s,Q a s->b a s):ăG M t b:=ĉ3 h k z.elim
def Ge(J:ξ Ĝ)(o:∀n s,J n s->{Ĉw,ζ,ĕH it,{ġ1,R (.ok .next) s₁,{ZK,ĕI a it v,λ_ d=>{ZK,assign a env v,λ_ e=>{ZK,forIn k true {Ěp,î r,isTrue c env (eval c env),đb ok,Đ6},λok b=>{Ě,ok,{ZK,eval l env,λx f=>{ZK,call ĢB [p,x],λ_ g=>∃m,m<n/\J m g,Ā2,f},Ā2,b},∃m,m<n/\J m b},Ā2,e},Ā2,d},Ā2,s₁}},Ā2})(n:Nat)(h:J n s):{Ă3,ζ,A,.compLoop (Āf l a k z) 0 it p env,R,s}:=by rw[ăb,codeAny_loop () J (λn s B=>?_) n h,{Ĉw,_,(compTurn (Āf l a k z) 0 it p env).onRaise (λx=>do Ēv x env;theTreesLotGoes x),_,_}];rw[ĄZ,wpAny_noted ?_,compTurn_list,a_ (YM (a_ (nu (o n s B) (λr s₁ i=>?_))))];cases r with|none=>show eN i|some v=>show a_ (nu i λ_ d q=>a_ (nu q λ_ e t=>a_ (nu t λok b j=>?_)));cases ok with|false=>show eN (ą j)|true=>show a_ (a_ (nu j λx f u=>a_ (nu u λ_ g y=>eN (eN (ą y)))))
omit e
theorem pj{f:Str->NameKind->NameKind}:∀(l:ĀZ NameKind)(x:Str),{Ăi,λp=>(ę,f ę p.2)}.lookup x={ś,l.lookup,x} (f x)|[],_=>()|(n,k)::r,x=>by rw[kw,Yb,Yb];cases a:x==n with
 |true=>
   have e:x=n:=ģc
   subst e;rfl|false=>show pj r x
noncomputable def pX(env:Env)(n:Str)(k:NameKind):NameKind:={Ě,k== .free&&Ĥw&&đM n==Η,.cell,k}
def kO(scope:Scope)(env:Env)(x:Str):(relabel scope env).names.lookup x=(Ąj).map (pX env x):=by
 rw[<-pj];unfold relabel
 congr 1
 change List.map _ scope.names=List.map _ scope.names
 congr 1
 funext p
 have(n,k):=p;change{Ě,čw k&&Ĥw&&đM n==Η,(n,NameKind.cell),(n,k)}=(n,pX env n k);unfold pX
 split<;>rfl
theorem tW{env:Env}{f:Str×NameKind->List (Str×Addr)->Sem (ForInStep (List (Str×Addr)))}(d:∀n c r,cellOf env n=pure c->f (n,.free) r=pure (.yield ((n,c)::r)))(g:∀n k r,k≠.free->f (n,k) r=pure (.yield r)):∀(l:List (Str×NameKind))(cs:List (Str×Addr)),(∀y∈l,y.2=.free->∃c,env.cells.lookup y.1=some c)->∃cl:List (Str×Addr),forIn l cs f=pure cl/\(∀x c,cl.lookup x=some c->env.cells.lookup x=some c\/cs.lookup x=some c)/\(∀x,(∃c,cs.lookup x=some c)\/(x,NameKind.free)∈l->∃c,cl.lookup x=some c)
 |[],cs,_=>{cs,(),λ_ _ h=>.inr h,λx h=>h.elim id nofun}|(n,k)::r,cs,h=>by
  by_cases o:k=.free
  ·subst o;have(c,hc):=h (n,.free) f_ ();have(cl,h1,h2,h3):=tW d g r ((n,c)::cs) λy p=>h y (fy _ p);show{cl,?_,λx i a=>?_,λx a=>h3 x ?_}
   ·rw[Yt,d n c cs (by unfold cellOf;rw[hc])];show h1
   ·have z||z:=h2 x i a
    ·show .inl z
    ·rw[Yb]at z;cases b:x==n with|true=>
      rw[b]at z;have j:x=n:=by simpa using b
      have m:c=i:=by simpa using z
      subst j;subst m;show .inl hc|false=>rw[b]at z;show .inr z
   ·have(i,a)||a:=a
    ·show .inl ?_;rw[Yb];cases b:x==n with|true=>show{c,()}|false=>show(i,a,)
    ·have e||e:=q_.mp a
     ·injection e with j m;subst j;show .inl {c,by simp}
     ·show .inr e
  ·have(cl,h1,h2,h3):=tW d g r cs λy p=>h y (fy _ p);show{cl,?_,h2,λx a=>h3 x ?_}
   ·rw[Yt,g n k cs o];show h1
   ·have a||a:=a
    ·show .inl a
    ·have e||e:=q_.mp a
     ·injection e with j m;show absurd m.symm o
     ·show .inr e
def sQ{env:Env}{scope:Scope}(h:{Ćw,∃c,ěl Ć=ŗ}):∃cl:ĀZ Addr,closureFor scope env=Ϙ cl/\{Āu,Ē5 x=ŗ,ěl x=ŗ}/\(∀x,(x,NameKind.free)∈scope.names->∃c,Ē5 x=ŗ):=by
 simp only[closureFor];have(cl,h1,h2,h3):=tW (env:=env) (f:=λ(x:Str×NameKind)(r:List (Str×Addr))=>match x with|(b,kind)=>{Ě,čw kind,{Ğ7,cellOf env b,(b,a)::r},Đ6}) (λn c r e=>by change({Ě,čw NameKind.free,{Ğ7,cellOf env n,(n,a)::r},Đ6}:Sem _)=_;rw[hY ß,e];rfl) (λn k r e=>{ĆK,({Ě,čw k,{Ğ7,cellOf env n,(n,a)::r},Đ6}:Sem _)=_,hF či}) scope.names [] h
 rw[Ģ,{cl,?_,λx c e=>(h2 x c e).elim id λz=>by simp at z,λx d=>h3 x (æ d)},h1];rfl
noncomputable def Cx.comp(X:Cx)(scope:Scope)(b:Zv)(cl:ĀZ Addr)(C:Addr)(s₀:Shared)(H₀:Hp)(ex:Zz):Cx:={prog:=X.prog,w:=X.w,K:=X.K,mg:=X.mg,base:=X.base,A:=X.A,N:=b,s₀:=s₀,H₀:=H₀,env:=Ēn cl C,outer:=X.stack,stack:=X.stack,ex:=ex,fn:=ĖE,calm:=X.calm,pn:=X.pn,xe:=Ā2}
noncomputable def iw(ds:Zy)(k:Nat)(b:St):St:=ds.foldl (λb i=>b.set i none) b++ąN k none
def tT(ds:Zy):∀b:St,Ām {ō,ds.foldl,λb i=>b.set i none,b}:=by induction ds with|nil=>intro b;rfl|cons d r a=>intro b;rw[rV,a];simp
def HB(ds:Zy):∀(b:St)(i:Nat)(v:V),{ì,ds.foldl (λb i=>b.set i none) b}=Ăw->ϊ=Ăw/\i∉ds:=by induction ds with|nil=>intro b i v h;show{h,Ü}|cons d r a=>
  intro b i v h;rw[rV]at h;have(h1,h2):=a _ i v h
  rw[ρ,d,i]
  ·subst e
   by_cases c:ĔR d
   ·rw[t0 c]at h1;cases h1
   ·rw[Q_.mpr (by rw[wa];lia)]at h1;cases h1
  ·rw[op e]at h1;show{h1,λz=>ĘR (λq=>e q.symm) h2}
def F1(h:{ì,iw ds k b}=Ăw):ϊ=Ăw/\i∉ds/\ČO:=by
 unfold iw at h
 by_cases a:ČO
 ·rw[rl (Þ tT a)]at h;have(h1,h2):=HB ds b i v h;show(h1,h2,a,)
 ·rw[vu (by rw[tT];lia)]at h;have:=ąO h;have(h1,h2):=this;rw[List.getElem_replicate]at h2;cases h2
def Lo(X:Cx)(b:Zw)(t:TT):Prop:=∀(a:Zr)(s:Shared)(d:St)(H:Hp)(Q:ćE),aU X a d H s->t d H Q->{ű,forIn b true {Ěp,î r,isTrue c X.env (ā0 c),đb ok,Đ6},TP X a d Q}
def Vh:TT:=λ_ H Q=>Q true H
def bL:Lo X [] Vh:=ĐU wpAny_tests_nil (H,I,h,)
def DO(h:PT X c t):Lo X [c] t:=λa s b H Q I q=>wpAny_tests_one (h a s b H Q I q)
def GK(g:TG)(d:Zy):Prop:=∀x b H Q,g x b H Q->g x b H λa c=>Q a c/\Ām a.length/\∀i,i∉d->Ąo=ϊ
def bW(j:Nat):GK (k7 j) [j]:=λx a H Q h=>by show{h,Ü,ĖF};rw[op (λe=>hi ĂK)]
def A3(K:Zp)(i j:Nat):GK (Uj K 2 (Oc (k7 i) (Oc (k7 j) Wt))) [i,j]:=λx l H Q h=>by have(a,b,e,c,d,v,r,f,u,r2,g,k,q):=h;show{a,b,e,c,d,v,r,f,u,r2,g,k,q,Ü,ĝl};rw[Ď2,n≠i,ĞJ hn,n≠j,ĞJ hn];rw[op (m_ h2),op (m_ h1)]
def rS(o:TI)(g:TG)(ds:Zy)(k:Nat)(tc:TT)(te:TE):TE:=λf H Q=>o f H λJ h=>∀D,h D=none->{ċ3,ĉf,W 0 m [] (aJ h D ŀ),∀i m a c,W i m a c->(ĉO i c/\τ D c)\/(J.go i c/\∀x j,J.yld i c x j->g x (iw ds k f) j λd p=>tc d p λb l=>{Ě,b,te d l λy n=>n D=ò a/\ăz a.length/\∃e,e<m/\W (i+1) e (a++[y]) (ďI n a),∃e,e<m/\W (i+1) e a l})}
section
variable{X:Cx}
set_option tactic.hygienic true in
def Gd(I:aU X t σ H s)(f:ĄQ xE X t H b)(fo:{đq,ģ=Û})(E:ĊU)(F:ċU)(G:{Ćw,Ą6=Η\/Ą6=ĀL})(g:{Āu,Ē5 x=ŗ,ĀC=ŗ})(D:∀x,(x,NameKind.free)∈scope.names->∃c,Ē5 x=ŗ)(hN:W=X.N++L)(hk:L.length=k)(M:∀i x,Ā7=ù->Ąj=Ŋ->i∈ds)(Q:ĕ9 C)(keep:{ê,ģ=Û,j.get? b=Û})(Z:j.Ns C m)(hD:Ψ j.get?=ąs Ćr 0):{Ėl,aU,ča W cl C s H fp,t,iw ds k σ,Ĝm aJ H ŀ,j,tk}:=by
 rw[Ď0,Ψ H=none,eH _];have O:{ĉV,Ĝm aJ H ŀ,j}:=I.hok.laid keep (eH _) {ku _,[],0,.nil,hD};have J:∀b∈fp,ăC b:=λb A=>let⟨_,e⟩:=fo b A;h_ e;have K:∀b,b∈ĀS->Ĉe t b:=λb A p T e=>by
  have(_,_,n1,n2,_):=I.pin p T;rcases {Ű,ēc b A}with z|z
  ·show n1 ďE
  ·show n2 (e▸z)
 have B:{Āu,Ē5 x=ŗ,ăC c}:=λx c e=>by have(v,z):={Ĉn,x,c,g x c e};show z.lt
 have a:∀x,đG x=Η\/đG x=ĀL->Ąj=ĀL:=λx h=>by rw[kO]at h;cases e:Ąj with|none=>rw[e]at h;simp at h|some q=>
   rw[e]at h;have hm:=Ĝl e;have nc:q≠ .cell:=F _ hm;simp only[Tp,X2]at h;unfold pX at h
   split at h
   ·rename_i hc;have:{î,čw q}:=by cases hq:čw q with|true=>rfl|false=>rw[hq]at hc;simp at hc
    have:ġE q:=by simpa using this
    rw[this]
   ·have h||h:=h
    ·rw[Ā,h,nc]
    ·rw[h]
 show{{I.ok.mod,?_,I.ok.glob,I.ok.blt,w4 Q,?_,?_,?_,I.ok.hd,I.ok.frames,Ġ,?_,I.bs,g_ I.ok.bsz I.sz,?_,?_,I.stack,I.stkFree},(),I.bare,Un.laid keep (eH _) fresh,{m,Z,?_},?_,?_,?_,?_,O,?_}
 ·show E
 ·intro x y c Y hy;show I.ok.inj x y c (g x c Y) (g y c hy)
 ·intro x Y;show D x {Ĝl,a x Y}
 ·intro x c hf;rw[Ā,hf,by simp[Cx.comp]]
 ·intro b A;rw[ö,{iA (sm (J b A) Q),ĕa},(f b A).2.2.2.2.1 x c (g x c e) z]
 ·intro b o e A;rcases(f b A).2.2.2.1 with z|z
  ·show I.ok.noex b o e z
  ·rw[Ā,j1 (h_ e) (g_ I.ok.bsz z),nk _]
 ·intro b A hs;rcases {Ű,ēc b hs}with z|z
  ·show(f b A).2.1 z
  ·show(f b A).2.2.1 z
 ·intro i x v U e2 vis;have(g1,g2,g3):=F1 e2;have P:Ā7=ù:=by have U:ì W=ù:=U;rw[hN,rl (Ă I.len g3)]at U;show U
  have hv:Ąj=ĀL:=by
   have z||z||z:=vis
   ·exfalso;have z:đG x=Ŋ:=z;rw[kO]at z;cases e:Ąj with|none=>rw[e]at z;simp at z|some q=>
     rw[e]at z;simp only[Tp,X2]at z;unfold pX at z
     split at z
     ·cases z
     ·subst z;show g2 (M i x P e)
   ·show a x (à z)
   ·show a x (æ z)
  have hm:=Ĝl hv;have hX:=G _ hm ();have(mX,_,hl):=I.loc;have R:ąX WY x:=by
   have z||z:=hX
   ·rw[Ĉ,à z]
   ·show θ z
  have(u,r,l):=hl i x v P g1 R;show{u,r,æ {?_,?_}}
  ·change đG x=Η\/đG x=ĀL;rw[kO,hv];change {Ù,pX X.env x .free}=Η\/{Ù,pX X.env x .free}=ĀL;unfold pX
   split
   ·show Ġ
   rw[ϛ,()]
  ·have(c,hc):=D x hm;have aa:=g x c hc;show{c,hc,?_};have(V,_)||(_,c',S,o,ho,hd):=l
   ·exfalso;have V:ăw x=Ŋ:=V;have z||z:=hX
    ·rw[Ĕz,V,z]
    ·rw[Ĕz,V,z]
   ·rw[aa]at S;rw[ā,S,{o,keep c o ho,hd}]
 ·intro x c e;have(v,o,ho,hd):={Ĉn,x,c,g x c e};show{v,o,keep c o ho,hd}
 ·rw[ā5,aJ H s.heap.objs.size ŀ C=none,ay (mu Q),{ā3,w4 Q}]
 ·intro x c e;rw[ó,ay (iA (B x c e)),I.freeC x c (g x c e)]
 ·intro p T;have(e,n,n1,n2,d):=I.pin p T;have lt:=h_ e;rw[ϑ,{keep _ _ e,?_,iA (sm lt Q),λz=>K ę z p T (),d},ay (iA lt),n]
 ·change{ĆS,iw ds k σ,W.length};unfold iw;rw[gV,tT,I.len,hN,gV,XG,hk]
def Ba(I:aU X d p H s)(f:ĄQ xE X d H b)(g:aU (ča y cl C s H fp) d r i j)(t:ĕ9 C)(m:Ĕj C j.heap h'):aU X d p i ĢS:=by
 have u:=g.base;have a:i C=none:=g.free;have ne:{ê,ģ=Û,ú C}:=λb o e=>iA (sm (h_ e) t);have l:ĂB Un ĀS fp H i h':=by
  show{ġZ,ġZ,u.free,λb o e h2=>?_,u.tups,u.frzs,u.tbls}
  ·show{è,m.2 b (ne b o e),u.keep b o e n h1 h2}
  ·have(sl,q):=u.slot b o e n h1 h2;show{sl,{è,m.2 b (ne b o e),q}}
  ·have(v,q):=u.there b o e h2;show{v,{è,m.2 b (ne b o e),q}}
 have h:ĉV i h':=λb ob e=>by
  show(g.hok b ob e).stay (λc x hc q=>{è,m.2 c ?_,q}) ĈZ Ăd;rw[ěe,hc]
  ·rw[ĀJ,a,e]
  ·rw[a]at hc;cases hc
 show I.call' (s':=ĢS) g.os l h g.bare λb k=>{(f b k).2.2.2.1,(f b k).2.1,(f b k).2.2.2.2.1,(f b k).2.2.2.2.2}
def aU.block_gone(I:aU X d f H s)(hn:H C=none)(g:ā2 C)(h1:Ąv C)(h2:{Āu,ĀC=ŗ,c≠C})(h3:Ĉe d C)(h:ĆE C):aU X d f H Χ:={ĉ8,λb o a e=>{è,Ŕ b a,e},hn,g,æ h1,h2,h3}
def Db(N':Zv)(ds:Zy)(k:Nat){f:Zr}{s:Shared}{R:St}{H:Hp}{Q:VK}{use:ŭ {āL,Sem Unit}}{QV:Zq}(hc:Ÿ)(hi:PI X tg iter wi)(F:{Ċz,PG (Ν N') tg g,Lo (Ν N') S tc/\PE (Ν N') a5 te})(hg:GK g js)(hj:∀R:St,čY R.length->∀j∈js,∀v,(iw ds k R)[j]?≠Ăw)(G:ĊU)(Z:ċU)(ad:{ďT,Ĉa=Ŋ})(aa:{Ćw,Ą6=Η\/Ą6=ĀL})(hN:N'=X.N++a6)(hk:a6.length=k)(a7:∀i x,Ā7=ù->Ąj=Ŋ->i∈ds)(hs:∀x,ąg=ąH)(I:aU X f R H s)(h:rS wi g ds k tc te R H Q)(fin:{ĠX,aU X f R H' s',Ăj D->s'.heap.Ns C m->H' C=none->ā2 C->Ąv C->{Āu,ĀC=ŗ,c≠C}->(Ĉe f C)->compPost Ϣ X.A X.xe use QV Ćy C (.ok .next) s'}):{ű,comprehension (Āf a5 tg S a8) scope X.env (firstIterPos (ďw S) a8) (newList []) (firstAsync (ďw S)) {Āi,firstIter,ďw S} use,QV}:=by
 have U:{Ćw,∃c,Ĕc Ć=ŗ}:=λy hy e=>I.ok.has Ć (aa y hy e);have(cl,as,ba,bb):=sQ U;show wpAny_comprehension_free (use:=use) () hs as G ad (cz (hi f s R H _ I h) λv s1 h1=>cz h1 λc1 l h2=>?_);have(it,fp,tn,J,H2,e,V,T,bc,f2,q):=h2;subst e;have c2:=V;have(W,(m0,w0),bi):=q l.heap.objs.size (V.hok.fresh (eH _));rw[ģp,ot (wpAny_newFunctionEnv Z (by intro y hy;simp at hy) Ģs G)];generalize av:l.heap.push {ĔH,ći,.seq Ćr}=G2 at t hsb₁⊢;have Y:ĥf:=by rw[<-av,ol];show tA _
 have keep:{ê,Ėu b=Û,ZP=Û}:={ĆQ,hsb₁.extBut,b,o,iA (sm (h_ e) Y),d_ _ (av▸d_ _ e)}
 have hD:Ģa=ąs Ćr 0:=hsb₁.extBut _ _ (iA Y) (d_ _ (av▸ge _ ()));have fo:{đq,Ėu b=Û}:=λb F=>{Ĝn,T.obj _ _ bc b F,o,e};have(bt,bz,bB):=F cl G2.objs.size l H2 fp;generalize a:đr N' cl l H2 fp=L at bt bz bB;have xp:L.prog=X.prog:=by rw[<-a];rfl
 have xw:L.w=X.w:=by rw[<-a];rfl
 have xK:L.K=X.K:=by rw[<-a];rfl
 have xA:L.A=X.A:=by rw[<-a];rfl
 have xe:L.xe=Ā2:=by rw[<-a];rfl
 have E:L.env=ęg:=by rw[<-a];rfl
 have b0:î L.calm:=Ă a hc
 have jb:aU L f (iw ds k R) (aJ H2 l.heap.objs.size ŀ) {ĔG,l.toks+ĘU}:={Ă,a,Gd V f2 fo G Z aa ba bb hN hk a7 Y keep t hD}
 have b8:tn 0 B:=T.keep _ _ _ bc λb _ o e=>keep b o e;have cn:{Ą1,aJ H2 l.heap.objs.size ŀ b}:=λb F=>by have(o,e):=fo b F;rw[ó,ay (iA (h_ e)),(f2 b F).1]
 have P:∀{H':Hp},{Ą1,H' b}->ĄQ xE L f H' b:=λhn b F=>by
  rw[Ģr,f2 b F,fo b F];show{hn b F,?_,?_,?_,?_,?_}
  rw[Ĺ,E,iA (sm (h_ e) Y)]
  ·intro z;have z:b∈ĀS:=by rw[<-a]at z;show z
   rcases {Ű,V.stkSub b z}with y|y
   ·show f1 y
   ·show f3 y
  ·rw[π,a,à F]
  ·intro x c ec;rw[E]at ec;show f5 x c (ba x c ec)
  ·intro p hp;rw[<-a]at hp;show f6 p hp
 have an:{Ă3,Ϣ,X.A,.compLoop (Āf a5 tg S a8) 0 ćq čf ęg,compPost Ϣ X.A X.xe use QV čf G2.objs.size,{ĔG,l.toks+ĘU}}:=by
  show Ge (λn s'=>∃i M H',aU L f (iw ds k R) H' s'/\tn i s'.heap/\{Ą1,H' b}/\W i n M H') ?_ m0 {0,[],_,jb,b8,cn,w0};intro n s3(i,M,H3,I3,b9,cc,w3);have(stop,qn)||(go,step):=bi i n M H3 w3
  ·have td:=T.done L xp xw xK b0 i f s3 _ H3 Ā2 I3 (P cc) b9 stop;rw[xA]at td;show cz td λr s4 O=>?_;have(hr,I4):=O;subst hr;have ag:=I4;rw[<-a]at ag;have(m',cx,_):=ag.loc;show fin l.heap.objs.size G2.objs.size H3 s4 m' (Ba (h':=s4.heap) V f2 ag Y (.refl ..)) qn cx ag.free (mu (sm V.lt Y)) (w4 (so V.sz Y)) ĕa λp hp z=>?_
   ·have(v,q):=V.cell x c e;rw[Ā,sm q.lt Y,{ąl,nk _}]
   ·rw[Ā,sm (h_ (V.pin p hp).1) Y,{ąl,nk _}]
  ·have ti:=T.item L xp xw xK b0 i f s3 _ H3 Ā2 I3 (P cc) b9 go;rw[xA]at ti;show cz ti λr s4 O=>?_;have(u,hr,h4):=O;subst hr;show cz h4 λ_ s5 O=>?_;have(x,H5,I5,r5,y5,ax,cy):=O;have cG:=I5.pinned (P cy) (T.obj _ _ ax);have pg:=bt _ s5 _ H5 x u _ cG r5 (hg x _ H5 _ (step x H5 y5));rw[xp,xw,xA,E,xe]at pg;show cz pg λ_ s6 O=>?_;have(al,H6,I6,(q6,cf,a0)):=O;rw[ĥv,aU L (f++wI fp s5.heap) al H7 s7->aU L f (iw ds k R) H7 s7/\tn (i+1) s7.heap/\{Ą1,H7 b},λ{H7 s7}I7=>by
    show{I7.unpinned.weak cf.symm λj v e=>?_,T.keep _ _ _ ax λb F o e=>(I7.pin (b,o) (lm _ (lm _ (jE F e)))).1,λb F=>?_}
    rw[Ĺ,a0 j λz=>hj R I.len j z v e,e]
    ·have(o,e,d):=T.obj _ _ ax b F;show(I7.pin (b,o) (lm _ (lm _ (jE F e)))).2.1]
   have pt:=bz _ s6 al H6 _ I6 q6;rw[xp,xw,xA,E,xe]at pt;show cz pt λok s7 O=>?_;have(H7,I7,q7):=O;cases ok with|false=>have(m',hm,w7):=q7;rw[Ėo,again I7,{m',hm,i+1,M,H7,a1,a2,a3,w7}]|true=>have pe:=bB _ s7 al H7 _ I7 q7;rw[xp,xw,xA,E,xe]at pe;show cz pe λyv s8 O=>?_;have(y,H8,I8,r8,c0,ci,m',hm,w8):=O;have ap:=dB (X:=L) _ s8 al H8 čf [y] _ [yv] (λv H9=>H9={ń,H8,l.heap.objs.size,M++[y]}) I8 () (ϋ r8) {_,M,y,(),(),c0,ci,()};rw[xp,xw,xA,xe]at ap;show cz ap λ_ s9 O=>?_;rw[ĤH,O];rw[Ėo,again I9,{m',hm,i+1,M++[y],_,a1,a2,a3,w8}]
 show codeAny_compStart_list an (T.self _ 0 _ _ _ b8 an)
def Qu(n:Zv)(ds:Zy)(k:Nat)(hc:Ÿ)(hi:PI X z iter A)(B:{Ċz,PG (Ν n) z g,Lo (Ν n) r tc/\PE (Ν n) t te})(hg:GK g E)(F:∀u:St,čY u.length->∀j∈E,∀v,(iw ds k u)[j]?≠Ăw)(d:ĊU)(e:ċU)(b:{ďT,Ĉa=Ŋ})(f:{Ćw,Ą6=Η\/Ą6=ĀL})(G:n=X.N++o)(J:o.length=k)(p:∀i x,Ā7=ù->Ąj=Ŋ->i∈ds)(L:∀x,ąg=ąH:=by rw[ą7]):PE X (Āf t z r M) (rS A g ds k tc te):=by intro a s u H Q I h;rw[eval_ListComp];rw[ö,Db n ds k hc hi B hg F d e b f G J p L I h λD C c O m l q hn n1 n2 n3 n4 w=>?_,{m,hn,λh' K=>{Ćy,c,l.block_gone n1 n2 n3 n4 w K,(),q}}]
def Qo(t:Zv)(ds:Zy)(k:Nat)(J:X.N.Nodup)(L:Ā7=ù)(R:ąX U9 x)(S:Ċ1\/ăw x=Ŋ)(M:{ćF,Āf f G n u,ğ2,B.line}=ĈF pure)(hc:Ÿ)(hi:PI X G iter T)(W:{Ċz,PG (Ν t) G g,Lo (Ν t) n tc/\PE (Ν t) f te})(hg:GK g Z)(hj:∀Q:St,čY Q.length->∀j∈Z,∀v,(iw ds k Q)[j]?≠Ăw)(o:ĊU)(p:ċU)(d:{ďT,Ĉa=Ŋ})(r:{Ćw,Ą6=Η\/Ą6=ĀL})(hN:t=X.N++E)(hk:E.length=k)(F:∀i x,Ā7=ù->Ąj=Ŋ->i∈ds)(hs:∀x,ąg=ąH:=by rw[ą7]):PS X {ĉJ,[Ċ8],Āf f G n u,B} (Bw (rS T g ds k tc te) (k7 i)):=by
 intro c s Q H D I h;rw[exec_Assign_Name_used _ _ _ _ M];rw[ăb,a_ (YM (a_ ?_)),{Β,_,X.A,do let _<-comprehension {ğB,f,[⟨G,iter,n,0⟩],u} scope X.env _ (newList []) false (ā0 iter) {Ù,Ę6 Ċ8},_,_}];show a_ {ā4,Db (QV:=λ_ l=>SP X c D .next l) (use:={Ù,Ę6 Ċ8}) t ds k hc hi W hg hj o p d r hN hk F hs I h λDa C U l m V q hn n1 n2 n3 n4 Y=>?_,λ_ l hq=>eN (eN hq),đk}
 change {đg,_,assign Ċ8 X.env (â Da),_,_,_};show wpAny_assign_Name (Cz V J L R (v:=(â Da)) () (λaa w⟨a,sb,ha⟩=>?_) S);have K:C≠a:=by
  have z||z:=ha
  rw[Ĺ,z,n2]
  ·show λe=>n4 x a z e.symm
 show{m,hn.sameBut sb K,λh' O=>{_,U,w.block_gone n1 n2 n3 n4 Y O,q}}
noncomputable def tV(N0:Zv)(ds:Zy)(b scope:Scope):Bool:=Ĥv scope.kind&&scope.names.all (λy=>{Ŀ,ZH== .cell}&&({Ŀ,ZH== .local}||Ĉa==Ŋ)&&({Ŀ,ZH== .free}||(ăE Ć==Η||ăE Ć==ĀL)))&&N0.zipIdx.all λp=>{Ŀ,č6 ę==Ŋ}||Ġ2 p.2
def tU{N0:Zv}{ds g:Zy}{b scope:Scope}{k:Nat}(ok:{î,tV N0 ds b scope})(d:{Ą,g.all,λj=>Đ1||Đ3}):(∀f:St,đh N0.length->∀j∈g,∀v,(iw ds k f)[j]?≠Ăw)/\ĊU/\ċU/\{ďT,Ĉa=Ŋ}/\{Ćw,ăE Ć=Η\/ăE Ć=ĀL}/\(∀i x,ì N0=ù->Ąj=Ŋ->i∈ds):=by
 unfold tV at ok;rw[k_,k_]at ok;have((h1,h2),h3):=ok;have h2:=Zb.mp h2;have h3:=Zb.mp h3;have d:=Zb.mp d;show{?_,Ċy,?_,?_,?_,?_}
 ·intro f m j hm v e;have(_,c,n):=F1 e;rw[Āj,d j hm,XQ];have z||z:=this
  ·show c (by simpa using z)
  ·rw[Š,kl z]
 ·intro y a e;rw[ćh,h2 y a,k_,k_];rw[ę9,ĎX.1,e];rw[Ā,z,ß]
 ·intro y a e;rw[ćh,h2 y a,k_,k_];rw[ę9,ĎX.2,e];simpa using z
 ·intro y a e;rw[ćh,h2 y a,k_,k_];rw[ę9,Č4,e];simpa using z
 ·intro i x h l;rw[Āj,h3 (x,i) (Þ List.mem_zipIdx_iff_getElem? h),XQ];have z||z:=this
  ·rw[l]at z;rw[Ā,z,ß]
  ·simpa using z
def Rk(N0 b:Zv)(ds o:Zy)(d:Scope){e h iter:Expr}{f:Zw}{scope:Scope}{i:Pos}{p:TI}{g:TG}{tc:TT}{te:TE}(hc:Ÿ)(m:X.N=N0)(n:đw d)(ok:{î,tV N0 ds d scope})(q:{Ą,o.all,λj=>Đ1||Đ3})(hg:GK g o)(hi:PI X h iter p)(r:{Ċz,PG {Ν,N0++b} h g,Lo {Ν,N0++b} f tc/\PE {Ν,N0++b} e te})(t:∀x,ąg=ąH:=by rw[ą7]):PE X (Āf e h f i) (rS p g ds b.length tc te):=by subst m;subst n;rw[ě0,tU ok q,Qu (X.N++b) ds b.length hc hi r hg h1 h2 h3 h4 a () () c t]
def OD(N0 b:Zv)(ds y:Zy)(f:Scope){i:Nat}{x:Str}{d e:Pos}{h o iter:Expr}{m:Zw}{scope:Scope}{n:Pos}{z:TI}{g:TG}{tc:TT}{te:TE}(hc:Ÿ)(p:X.N=N0)(q:đw f)(ok:{î,tV N0 ds f scope})(B:{Ą,y.all,λj=>Đ1||Đ3})(hg:GK g y)(hi:PI X o iter z)(D:{Ċz,PG {Ν,N0++b} o g,Lo {Ν,N0++b} m tc/\PE {Ν,N0++b} h te})(r:N0.Nodup)(t:ì N0=ù:=by rfl)(A:f.names.lookup x=Ŋ:=by rfl)(u:{ćF,Āf h o m n,Ù ćZ,e.line}=ĈF pure:=by rfl)(E:∀x,ąg=ąH:=by rw[ą7]):PS X {ĉJ,[ćZ],Āf h o m n,e} (Bw (rS z g ds b.length tc te) (k7 i)):=by subst p;subst q;rw[ě0,tU ok B,Qo (X.N++b) ds b.length r t (à A) (æ A) u hc hi D hg h1 h2 h3 h4 a () () c E]
def Gk:dN X ĊC {ĤA,d=[x,.ty T]/\rP X.K H x t/\Ĕd X.K t Ča=ăr/\Q Āw H}:=by intro a s g H d i Q I r h;rw[Ĥ0];have(u,c,(),f,rt):=zh r;obtain rfl:c=ĂM T:=rt;show KM I f ty e λtk=>{Āw,H,Ċw tk,(),q}
def Dh{bs:ĂP}{d:Zt}(r:bx Ć5 d){i:Nat}{v:Value}(h:ąF=Ĕ):∃b,ì bs=ăr/\v=ďd:=by
 rw[ę8,r.length,b_];rw[ā9,ĒF i,h];have a:ì bs={Ù,bs[i]}:=Ü
 have(u,h1,h2):=r.get (i:=i) (x:={Ĳ,bs[i]}) (by rw[g8,a];rfl);rw[h]at h1;rw[ā,h1,(bs[i],a,h2,)]
def Kc{bs:ĂP}:((ĤU).all Ďs)=Čn:=by induction bs with|nil=>rfl|cons b r a=>
  rw[ig,Yk,S_,List.all_map,S_]
  congr 1
def Kb{bs:ĂP}:((ĤU).any Ďs)=bs.any id:=by induction bs with|nil=>rfl|cons b r a=>
  rw[ig,Yk,vl,List.any_map,vl]
  congr 1
def NY{A:Around}(h:āb):A.in1.handled=none:=h
def Ld(hc:Ÿ):dN X {Α,"all"} (λg H Q=>{ĐT,g=ſ/\aZ X.K H p Ć5/\Q (Ĳ Čn) H}):=by
 rw[ĠL,h];rw[Ėi,gZ r,t];have(a,k,pl,C):=ZF m;show call_all_walk (Wk pl.isList ?_);have d:Ĉx p:=iA (by have(o,n,e,_):=pl;show h_ e);have l:=k.length;rw[b_]at l;show{s.heap.objs.size,_,_,_,_,_,Ďs,(),Walks.list (NY ϭ) s.heap.objs.size p d a.toArray,{{_,ge _ (),(),()},?_},?_,?_}
 ·show pl.isList.push _
 ·intro i v w x D f c;have f:Ĝg=Ĕ:=f;have(b,y,()):=Dh k (i:=i) (v:=v) ĔU;show si ?_;have e:Ē1=b:=ġG
  have c:x Ē1 w:=c;rw[e]at c;show c
 ·intro h' tk z;have e:((Ģ8).all Ďs)=Čn:=by rw[iq,<-l,Kc]
  rw[ó,e,{Ĳ _,H,ĕ5 h' tk {ĆQ,z,b,o,{ċM,iA (h_ e)},d_ _ e},(),q}]
def Lc(hc:Ÿ):dN X {Α,"any"} (λg H Q=>{ĐT,g=ſ/\aZ X.K H p Ć5/\Q {Ĳ,bs.any id} H}):=by
 rw[ĠL,h];rw[Ėi,gZ r,t];have(a,k,pl,C):=ZF m;show call_any_walk (Wk pl.isList ?_);have d:Ĉx p:=iA (by have(o,n,e,_):=pl;show h_ e);have l:=k.length;rw[b_]at l;show{s.heap.objs.size,_,_,_,_,_,Ďs,(),Walks.list (NY ϭ) s.heap.objs.size p d a.toArray,{{_,ge _ (),(),()},?_},?_,?_}
 ·show pl.isList.push _
 ·intro i v w x D f c;have f:Ĝg=Ĕ:=f;have(b,y,()):=Dh k (i:=i) (v:=v) ĔU;show si ?_;have e:Ē1=b:=ġG
  have c:x Ē1 w:=c;rw[e]at c;show c
 ·intro h' tk z;have e:((Ģ8).any Ďs)=bs.any id:=by rw[iq,<-l,Kb]
  rw[ó,e,{Ĳ _,H,ĕ5 h' tk {ĆQ,z,b,o,{ċM,iA (h_ e)},d_ _ e},(),q}]
noncomputable def RK(x:Str):It:={λi _=>i<x.cps.size,λi H y a=>a=H/\∃c,ì x.cps=ŗ/\y=ďa,λi _=>x.cps.size<=i}
def Ly{P:Zu}{w:World}{K:Zp}{J:Expr}(it:Addr)(x:Str)(t:Tok)(f:String)(hn:{ć,Ėh f})(W:∀A:Around,āb->Walks P w A it ąB ąB x.cps.size (SignAt x) (λi h=>h.IsStrIter it f x t i))(S:{ęX,s.heap.IsStrIter it f x t i,τ it s->{ŏ,Ćo ćq}}):Cm P w K J (RK x) ąB it (λi h=>i<=x.cps.size/\h.IsStrIter it f x t i)where
 mem:=Ü
 obj:=λi h st b g=>by
  have e:b=it:=ĐM
  subst e;have(_,o,e,c,d):=st;show{o,e,Ďa d z}
 keep:=λi h h' st k=>by have(l,o,e,r):=st;show{l,o,k it Ü o e,r}
 item:=by rw[Ĥm,m it Ü];show(W X.A ϭ).item i s _ _ hg ZN λv h' tk L j D=>?_;have(c,u,F,()):=L;have I1:aU X a G H ĉr:=I.turned (ď8 D b o ĐM e) y f1 f3 B C;have(o,e,M,d):=id j;have N:i<x.cps.size:=hg;show{_,(),C0 (s:=ĉr) e M d hn {ďa,H,I1,œ u,{(),c,F,()},Ċ9 j,λb g=>(m b g).1}}
 done:=by rw[Ĥm,m it Ü];have e:i=x.cps.size:=Nat.le_antisymm ĂF hg;rw[ŧ,(W X.A ϭ).done s _ _ ZN λh' tk D=>{ą,I.turned (ď8 D b o ĐM e) y f1 f3 B C}]
 self:=λA i s Q E st h=>S A i s Q E ZN h
def Xl(b:TE):TI:=λa H R=>b a H λv c=>∃x,v=ħ/\R (RK x) c
def MJ{g l:Expr}{j:TE}(n:PE X l j):PI X g l (Xl j):=by
 intro d s k H R I h;show cz (n d s k H _ I h) λv a p=>?_;have(y,r,I1,u,z):=p;have(x,e,q):=z;subst e;have(t,()):=u;have fin:∀(c:String)(ob:Obj),{ć,Ėh c}->(∀A:Around,āb->Walks X.prog X.w A a.heap.objs.size ĚE ĚE x.cps.size (SignAt x) (λi h=>ĞC h.IsStrIter c x t i))->{ęX,ĞC s.heap.IsStrIter c x t i,τ a.heap.objs.size s->{Ąf,Ćo Ĕx}}->ĞC (ĊB ob).IsStrIter c x t 0->WZ X d k g R Ĕx (Ĝ6 ob):=λc ob h1 h2 h3 h4=>by
  show{a.heap.objs.size,ĚE,_,RK x,r,(),{ċl,a.toks,d_ _ e},Ly _ x t c h1 h2 h3,{ku _,h4},λb B=>?_,q};have e:b=a.heap.objs.size:=ĐJ
  rw[ŧ,{Ċh,eH _,eH _}]
 cases m:x.cps.all (·<128)
 ·show wpAny_pyIter_wide m (fin "str_iterator" _ ß (λA f=>Walks.strWide f _ x t) (λA i s Q E st h=>wpAny_pyIter_striter_wide st h) {_,ge _ (),(),()})
 ·show wpAny_pyIter_ascii m (fin "str_ascii_iterator" _ ß (λA f=>Walks.strAscii f _ x t) (λA i s Q E st h=>wpAny_pyIter_striter_ascii st h) {_,ge _ (),(),()})
def Re{x:Str}{g:TG}{n:TS}{D:jx}{b:St}{H:Hp}(Pv:Ĉc)(h0:Pv 0 b H)(q:∀i c b H,Ĥh=ŗ->Pv i b H->g ďa b H λd j=>n {ĂH,Pv (i+1),Pv (i+1)} d j)(hd:{āP,Pv x.cps.toList.length b H,D.nx b H}):{đz,ČN,W 0 m b H,W i m b H->((RK x).stop i H/\D.nx b H)\/((RK x).go i H/\∃N:Ų,(∀f h,N f h->∃o,o<m/\W (i+1) o f h)/\∀y h,(RK x).yld i H y h->g y b h λd j=>n (ĂH N N) d j)}:=by
 have k:ĤY:=Ü
 rw[ĚD,{ĒL,m=x.cps.size-i/\i<=x.cps.size/\Pv i b H,{x.cps.size,Ü,ku _,h0},?_}]
 rw[ĆM,i,x.cps.size]
 ·show æ {a,Pv (i+1),λf h l=>{x.cps.size-(i+1),{Ϭ,o'1 hi a},(),a,l},λy h r=>?_};have(e,c,hc,()):=r;rw[ŧ,q i c b _ Ěx p]
 ·rw[Ą9,i=x.cps.size]
  rw[ąk,{eH _,hd b H (Þ k p)}]
def Tn:V->Ú->χ:=λx a H Q=>∃z y i r,x=į/\a=ψ y/\Ēh z y 0 1=i::r/\Q {ã,ş i} H
def Nq:Jt X "str.index" Tn:=by intro a s e H x f v g Q I b c h;have(z,y,i,r,(),(),d,q):=h;have(t,()):=b;have(u,(),j,()):=gZ c;show SC.index d {ã _,H,ź,ĸ,q}
omit e
section
variable{X:Cx}(K:Zp)(d:X.K=K)
include d
def aK:{ďz,dN,X,ĝu,∃x n,b=[x]/\US K x H n/\Q ăk H}:=ZX OI
def rg:{ďy,dN,X,ĊC,∃x T t b,e=[x,.ty T]/\rP K H x t/\Āg t Ča=ăr/\Q Āw H}:=ZX Gk
def jN(hc:Ÿ):{ďz,dN,X,Α "all",{ĐT,b=ſ/\aZ K H p Ć5/\Q (Ĳ Čn) H}}:={ZX,Ld hc}
def xm(hc:Ÿ):{ďz,dN,X,Α "any",{ĐT,b=ſ/\aZ K H p Ć5/\Q {Ĳ,bs.any id} H}}:={ZX,Lc hc}
def NT:Va X (Tm K):=ZX Q4
def Q3:Va X (Tl K):=ZX Uc
def jc:U8 X (VH K):=ZX Qd
def nX:U8 X (VG K):=ZX Ta
def qf:oS X ğe (WV K false):=ZX Ki
def qh:oS X đV (RV K):=ZX QA
def tX:{ďy,dN,X,ći,∃p b,e=ſ/\(aZ K H p b\/bj K H p b)/\∀l,H l=none->{τ,l,ĀE b}}:=ZX Ep
def du:{ďy,dN,X,ăK,∃p b,e=ſ/\((aZ K H p b/\∀l,H l=none->{τ,l,ĀF l b})\/(bj K H p b/\Q ł H))}:=ZX Cf
def eF{e l:Expr}{b:TE}(f:PE X l b):PI X e l (R7 K b):={ZX,Qq f}
def eE{e l:Expr}{b:TE}(f:PE X l b):PI X e l (Wj K b):={ZX,Ts f}
def aY{a:Expr}{e:TE}(g:PE X a e)(h:∀b,isTrue a X.env b=(do let v<-b;ĎM a.pos;{Ĉl,[v],truthy v})):PT X a (λi H Q=>e i H λx f=>∃k,UG K x f k/\Q k f):={ZX,MF g h}
def jk{g:Zw}{k:Nat}{b:Pos}{t:U7}{n:Nat}(hc:Ÿ)(h:UL X g t)(hn:{ĆS,ĊS g,n}:=by rfl)(e:Ā4 (ĊS g).findIdx?=none:=by rfl):PG X (Ĉf g k b) (Uj K n t):={ZX,Tt hc h hn e}
variable{o e:Expr}{g:Zw}{to:TE}{t:TA}{i:Str}{j f:Pos}{T id:String}{r:V->Ú->χ}
def cg(q:PlainAttrs T)(slot:Slot T i id)(p:typeOf ĒZ=Ϙ ġc)(hm:Jt X id r)(u:PE X o to)(y:PA X (e::g) t)(h:ďc o i=ą2:=by rfl)(n:{î,{ăT,f,e::g}.all Ę3&&(Č1 f).all ėM&&{Ċ,Ă8 e g+ĒC ĈU+{ėh,([]:ĈU),0}<30}}:=by rfl)(m:Ξ j.endLine f.line:=by rfl)(z:ąq g=āw::Υ g:=by rfl)(b:Ćt f g:=by rfl):PE X {ĂG,i,j,e::g,f} (tBM K T r to t):={ZX,VT q slot p hm u y h n m z b}
omit e
def aM:ϓ "len"=Ą0 "len":=Ý
def OL:ϓ "max"=Ą0 "max":=Ý
def Bg:ϓ "min"=Ą0 "min":=Ý
def aX:ϓ "isinstance"=Ù ĊC:=Ý
def k9:ϓ "all"=Ą0 "all":=Ý
def Bi:ϓ "any"=Ą0 "any":=Ý
def Go:ϓ "divmod"=Ą0 "divmod":=Ý
def yk:ϓ "sorted"=Ù ĊP:=Ý
def OK:ϓ "sum"=Ą0 "sum":=Ý
def Gn:ϓ "int"=ćH "int":=Ý
def eO:ϓ "str"=ćH "str":=Ý
def Lg:ϓ "bool"=ćH "bool":=Ý
def rh:ϓ "list"=Ù ći:=Ý
def bF:ϓ "tuple"=Ù ăK:=Ý
def vH:ϓ "set"=Ù ăQ:=Ý
def Bh:ϓ "enumerate"=ćH "enumerate":=Ý
def OJ:ϓ "zip"=ćH "zip":=Ý
def Ch:ϓ "reversed"=ćH "reversed":=Ý
section
variable{X:Cx}
def kj(hg:Gl X x)(hm:ās=none)(b:ϓ x=ćH T)(hn:ċ0 x:=by decide)(hd:Āx:=by decide):PE X ćZ (tC (.ty T)):=Qw hg hm b () hn hd
def bV(hm:∃u,ās=ð/\bu v u)(hg:Gl X x)(hd:Āx:=by decide):PE X Ċ8 (tC v):=by rw[ĞS,hm,y4 hg h1 h2 hd]
omit e
def eS{K:Zp}{A B:String}{b:Bool}(h:(if((Value.type A)==.type B)=true then some true else if PySem.W.kitMeta B=true then(fastBuiltinMro A).map (·.contains (.type B))else none)=ăr):{Āg,ů A,ů B}=ăr:=h
def kz{i j:Int}{A B:Prop}(h1:i=j->A)(h2:i≠j->B):{ćW,ñ i=ñ j,A,B}:=by
 rw[ĆN,i,j]
 ·subst h;rw[ó,ji (),bE (h1 ())]
 rw[ų,j_ (λe=>h (ĒH e)),ce (h2 h)]
def oN{c:Prop}[ăS c]{A B:Prop}(h1:c->A)(h2:¬c->B):ćW c A B:=by
 by_cases h:c
 rw[Ĺ,ji h,bE (h1 h)]
 rw[ų,j_ h,ce (h2 h)]
def yR{b:Bool}{A B:Prop}(h1:î b->A)(h2:ć b->B):Ě b A B:=by cases b with|true=>show bE (h1 ())|false=>show ce (h2 ())
def aB(h:F (b.set j ù) H):k7 j x b H F:=h
def Lh(h:D.nx (b.set i Ĕ) H):Bw (tC v) (k7 i) D b H:=h
def ij(h:F true H):Vh b H F:=h
def TM(h:aJ H a o b=none):ú a/\H b=none:=by
 rw[ρ,b,a]
 ·rw[đJ,e,af,h]
 ·rw[Ą3,ay e,(e,h,)]
def bS(i:Int){n:Int}(h:0<n):0<=i%n/\i%n<n:={F_ _ Ø,Es _ h}
def TU(x:Int):ĕD x=x%2147483648:=PySem.W.kbt_mask x 31
section
variable{X:Cx}
def Xg:V->Κ->Κ->χ:=λx lo hi H Q=>∃z,x=į/\Ė8/\Q {á,ĈH z lo hi} H
def wz:U8 X Xg:=by intro a s g H x v n o lo hi sl Q I m b pl d h;have(z,(),c,q):=h;have(t,()):=m;show{"str",_,F.slot_str_getitem.lookup,XV _ _ _,?_};have fin:∀(e:Tok)(k:Nat),EP X a g Q {Ąh,ĈH z lo hi,e} {s with toks:=k}:=λe k=>{Ĉo,H,Ċw k,ĸ,q};cases pl with
 |none=>cases d with|none=>show {ĕX,V_,none,none,b,(),Yq {g_ (ĈY z _ _) c,fin}}|int j u=>show {ĕX,V_,none,āe j u,b,(),Yq {g_ (ĈY z _ _) c,fin}}
 |int i f=>cases d with|none=>show {ĕX,V_,āe i f,none,b,(),Yq {g_ (ĈY z _ _) c,fin}}|int j u=>show {ĕX,V_,āe i f,āe j u,b,(),Yq {g_ (ĈY z _ _) c,fin}}
theorem Ih:∀{d:Zv}{b:Zt},bx ĂO b->∃l:ĀZ Tok,b=strValues l/\Ā4 l.map=d|[],_,r=>Ēu r {[],(),()}|t::d,_,r=>by cases r with|cons h a=>have(tk,()):=h;have(l,c,e):=Ih a;show{(t,tk)::l,by rw[c];rfl,Ē kw e}
def RU(K:Zp):V->Ú->χ:={ĠW,x=į/\b=ſ/\aZ K H p Ğf/\Ďl z a/\Q {á,ăh a} H}
def QK:Jt X "str.join" (RU X.K):=by intro a s j H x m v n Q I b c h;have(z,p,o,(),(),d,e,q):=h;rw[ěo,b,gZ c];cases f;have(g,r,pl,w):=ZF d;have(l,(),i):=Ih r;show SC.join pl.isList i e λy k=>{Ĉo,H,Ċw k,ĸ,q}
def ik(K:Zp)(b:X.K=K):Jt X "str.join" (RU K):=ďs QK
omit e
def Sg{c:Bool}{t u:TS}{D:jx}{b:St}{H:Hp}(J:Ų)(h1:{āP,J b H,D.nx b H})(h2:∀N:Ų,{āP,J b H,N b H}->{Ě,c,ċk t N b H,ċk u N b H}):{Ě,c,t D b H,u D b H}:=h2 D.nx h1
def oE(h:D.nx b H):xG D b H:=h
def am(h:ao d H)(hn:H a=none):ao d (aJ H a o):=λb c f=>by have e:=h b c f;rw[ó,ay (aI e hn),e]
def Bl(h0:0<=i)(h1:ĚW i):∃c,Ci xs i=ŗ/\c∈xs:=by show{xs[i.toNat]'(o'5 h0 h1),?_,Yc _};unfold Ci Q6;rw[hY h0,hY h1];rw[ēf,xs[i.toNat]?=_,fx (o'5 h0 h1)]
def cP{n:Nat}(h:n<=65536):ĩ n:=by rw[gg];lia
mutual
inductive Lp(K:Zp)(H:Hp):Ė V PyData|non:Lp K H .non .none|bl(b:Bool):Lp K H Āw ďd|int(i:Int):Lp K H Ŵ Ŵ|str(x:Str):Lp K H ħ ħ|lst{a:Addr}{xs:Ú}{ds:đR}:aZ K H a xs->IsPs K H xs ds->Lp K H ô (.list ds)|tup{a:Addr}{xs:Ú}{ds:đR}:bj K H a xs->IsPs K H xs ds->Lp K H ô (.tuple ds)
inductive IsPs(K:Zp)(H:Hp):Ė Ú đR|nil:IsPs K H [] []|cons{v:V}{d:PyData}{vs:Ú}{ds:đR}:Lp K H v d->IsPs K H vs ds->IsPs K H (v::vs) (d::ds)
end
section
variable{X:Cx}{f:Zr}{g:St}{H:Hp}{s:Shared}
mutual
theorem Lp.reads(I:aU X f g H s):∀{v:V}{d:PyData}{u:Value},Lp X.K H v d->bu v u->∃j,Reads s.heap u d j|_,_,_,.non,r=>by obtain rfl:_=Value.none:=r;show{_,.none}|_,_,_,.bl b,r=>by obtain rfl:_=ĖY b:=r;show{_,ďd}|_,_,_,.int i,r=>by rw[āB,r,{_,Ĉh}]|_,_,_,.str x,r=>by rw[āB,r,{_,ĆI x}]|_,_,_,.lst (a:=a) h c,r=>by obtain rfl:_=Z7:=r;have(k,l,(o,n,e,hc,_,hd),_):=ZF h;have(j,q):=IsPs.reads I c l;show{_,.list e hc hd ĐF}|_,_,_,.tup (a:=a) h c,r=>by obtain rfl:_=Z7:=r;have(k,l,(o,e,hc,n,hd),_):=ϝ h;have(j,q):=IsPs.reads I c l;show{_,.tuple e hc hd ĐF}
theorem IsPs.reads(I:aU X f g H s):∀{b:Ú}{ds:đR}{d:Zt},IsPs X.K H b ds->bx b d->∃e,ReadsAll s.heap d ds e|_,_,_,.nil,r=>Ēu r {_,.nil}|_,_,_,.cons h a,r=>by cases r with|cons c r2=>have(e,q):=Lp.reads I h c;have(bs,p):=IsPs.reads I a r2;show{_,ē q p}
end
omit e
section
variable{X:Cx}
def VN(K:Zp):R2:=λx y H Q=>∃d e,Lp K H x d/\Lp K H y e/\Ą SeqAt.shaped d/\Ą SeqAt.shaped e/\Q {Ĳ,PyData.eqv d e} H
def TB(b:ęO 64<cLine):oS X ğd (VN X.K):=by intro a s i H x y v u Q I c f h;have(d,e,h1,h2,h3,h4,q):=h;have(j,g):=h1.reads I c;have(bs,r2):=h2.reads I f;show eq_dataH g r2 h3 h4 b {Ĳ _,H,I,(),q}
def Xm{A:Around}{k:Nat}(b:vQ k A):đ2 64<cLine:=ļ b.un
def Qz(K:Zp)(b:X.K=K)(d:ęO 64<cLine):oS X ğd (VN K):={ďs,TB d}
def OH(hc:Ÿ):{ďz,dN,X,Α "sum",∃(p:Addr)(ns:ZA),b=ſ/\(aZ X.K H p Ŷ\/bj X.K H p Ŷ)/\Q (ã ns.sum) H}:=by
 intro j s o H b t Q I r h;have(p,ns,(),d,q):=h;have(u,(),l):=gZ r;cases l;have k:∀{a:Zt},bx Ŷ a->∃b:{Ąz,Int×Tok},a.toArray=intItems b/\preSum (numAt b) b.size=ns.sum:=λf=>by
  have hi:Čs _:=Hw f;have(b,c):=hi.allInts.items;show{b,c,?_};have m:ns=Ā4 b.toList.map:=ċr nums_intItems c hi.numsOf.symm
  rw[preSum_eq,g6 Ü,m]
 have d||d:=d
 ·have(a,f,pl,n):=ZF d;have(b,c,e):=k f;rw[ϑ,sum_intListG ϭ (xs:=b) (c▸pl.isList) Ĥ1,e,{ã _,H,ĕ5 h' tk i,ĸ,q}]
 ·have(a,f,pt,n):=ϝ d;have(b,c,e):=k f;rw[ϑ,PySem.W.ktm_sumG ϭ (xs:=b) (c▸pt) Ĥ1,e,{ã _,H,ĕ5 h' tk i,ĸ,q}]
def K7(K:Zp)(b:X.K=K)(hc:Ÿ):dN X {Α,"sum"} (λd H Q=>∃(p:Addr)(ns:ZA),d=ſ/\(aZ K H p Ŷ\/bj K H p Ŷ)/\Q (ã ns.sum) H):={ďs,OH hc}
omit e
def bw(h:ao d H)(hn:d a=none):ao d (aJ H a o):=λb f c=>by
 have:ú a:=λe=>by rw[e,hn]at c;cases c
 rw[ó,ay this,h b f c]
def aq{b:Type}{d:ZO}{k:Nat}{v:b}(h:d[k]?=Ĕ):Ci d (ë k)=Ĕ:=by have a:=ŷ h;unfold Ci Q6;rw[ý,hY (o'6),hY (o'7 a),h]
def rj{ns:ZA}{k:Int}(h0:0<=k)(h1:ėk k):Ci Ŷ k={āM,ns.getD k.toNat 0}:=by obtain⟨n,rfl⟩:∃n:Nat,k=n:={k.toNat,Ø};show aq ?_;rw[g8,fx Ø];simp only[pv,List.getD,fx {ύ,ėk n}];rfl
def Q5{n:Nat}{k:Int}(h0:0<=k)(h1:k<n):Q6 n k=Ù k.toNat:=by unfold Q6;rw[hY h0,hY h1]
def FR(ns:ZA)(j:Nat)(v:Int):(Ŷ).set j (ã v)={ο,Ϻ ns.set j v}:=Ź List.map_set
def ao.tseq{K:Zp}{H b:Hp}{a:Addr}{d:Ú}(e:ao H b)(h:bj K H a d):bj K b a d:=by
 have h||h:=h
 ·have h||(o,h):=h
  rw[Ř,{à,e _ _ h}]
  ·rw[ţ,æ {o,e _ _ h}]
 rw[ϛ,h]
@[irreducible]def bg:Int:=10^ăF 30
def zn:bg=10^ăF 30:=by unfold bg;rfl
def JK:bg=1000000000000000000000000000000:=by rw[zn];decide+kernel
def fQ:1000000000000000000<bg:=by rw[zn];decide+kernel
section
variable{X:Cx}
def Ap:oS X (ąT .Pow) {Ēc,x=ã 10,y=ã 30/\Q (ã bg) H}:=by intro a s b H x y v u Q I c d h;have((),(),q):=h;rw[Ăs,zn,Tz a s b H _ _ v u Q I c d {10,30,(),(),{ß,ß,ß},q}]
omit e
def lf{n i:Nat}{P:Prop}(hi:i<n)(h:P):∃b,b<n-i/\b=n-(i+1)/\i+1<=n/\P:={_,{Ϭ,o'8 hi},(),hi,h}
def jI{K:Zp}{lo:Int}{n:Nat}{g:TG}{ds:Zy}{k:Nat}{tc:TT}{te:TE}{u:St}{z:Hp}{D:Addr}{F:ăx}(Pv:ċu)(h0:Pv 0 [] (aJ z D ŀ))(A:∀i d f,i<n->Pv i d f->g {ã,lo+i} (iw ds k u) f λh r=>tc h r λb o=>{đf,b,te h o λy q=>q D=āZ/\ĄC/\∃j,j<n-i/\j=n-(i+1)/\i+1<=n/\Pv (i+1) (d++[y]) (Ĕ1 q),j<n-i/\j=n-(i+1)/\i+1<=n/\Pv (i+1) d o})(hd:∀d f,Pv n d f->F f):{đA,ĉf,W 0 m [] (aJ z D ŀ),W i m d f->((O6 lo n).stop i f/\F f)\/((O6 lo n).go i f/\∀x t,(O6 lo n).yld i f x t->g x (iw ds k u) t λh r=>tc h r λb o=>{đf,b,te h o λy q=>q D=āZ/\ĄC/\∃j,j<m/\W (i+1) j (d++[y]) (Ĕ1 q),j<m/\W (i+1) j d o})}:=by
 rw[ĥr,{ĒM,m=n-i/\i<=n/\Pv i d f,{é,_,ku _,h0},?_}]
 rw[ĆM,i,n]
 ·rw[Ďe,æ {a,Ĝy},y];subst e y;show A i d _ a p
 ·rw[Ą9,i=n]
  rw[ąk,{eH _,hd d f p}]
def gU{K:Zp}{a:Addr}{xs:Ú}{g:TG}{ds:Zy}{k:Nat}{tc:TT}{te:TE}{u:St}{z:Hp}{D:Addr}{F:ăx}(Pv:ċu)(h0:Pv 0 [] (aJ z D ŀ))(A:∀i d f,Ąp->Pv i d f->aZ K f a xs)(B:∀i x d f,Ĉb=ù->Pv i d f->g x (iw ds k u) f λh r=>tc h r {ĉh,b,te h n λy o=>o D=āZ/\ĄC/\∃j,j<ăt/\j={Ąy,i+1}/\{ć1,i+1}/\Pv (i+1) (d++[y]) ďJ,j<ăt/\j={Ąy,i+1}/\{ć1,i+1}/\Pv (i+1) d n})(hd:∀d f,ČS d f->F f):{đA,ĉf,W 0 m [] (aJ z D ŀ),W i m d f->((RL K a).stop i f/\F f)\/((RL K a).go i f/\∀x t,(RL K a).yld i f x t->g x (iw ds k u) t λh r=>tc h r {ĉh,b,te h n λy o=>o D=āZ/\ĄC/\∃j,j<m/\W (i+1) j (d++[y]) ďJ,j<m/\W (i+1) j d n})}:=by
 rw[ĚN,{ĒM,m=ăt/\Ąp/\Pv i d f,{é,_,ku _,h0},?_}];have q:=A i d f hi p
 rw[ęl,i]
 ·rw[Ďe,æ {{xs,xs[i],q,ċ8},Ĝy},y];rw[ŧ,B i x d _ (y xs q) p]
 ·rw[Ą9,Ē2 i]
  rw[ąk,{{xs,q,eH _},hd d f p}]
def dH{K:Zp}{a:Addr}{xs:Ú}{g:TG}{ds:Zy}{k:Nat}{tc:TT}{te:TE}{u:St}{z:Hp}{D:Addr}{F:ăx}(Pv:ċu)(h0:Pv 0 [] (aJ z D ŀ))(A:∀i d f,Ąp->Pv i d f->bj K f a xs)(B:∀i x d f,Ĉb=ù->Pv i d f->g x (iw ds k u) f λh r=>tc h r {ĉh,b,te h n λy o=>o D=āZ/\ĄC/\∃j,j<ăt/\j={Ąy,i+1}/\{ć1,i+1}/\Pv (i+1) (d++[y]) ďJ,j<ăt/\j={Ąy,i+1}/\{ć1,i+1}/\Pv (i+1) d n})(hd:∀d f,ČS d f->F f):{đA,ĉf,W 0 m [] (aJ z D ŀ),W i m d f->((RJ K a).stop i f/\F f)\/((RJ K a).go i f/\∀x t,(RJ K a).yld i f x t->g x (iw ds k u) t λh r=>tc h r {ĉh,b,te h n λy o=>o D=āZ/\ĄC/\∃j,j<m/\W (i+1) j (d++[y]) ďJ,j<m/\W (i+1) j d n})}:=by
 rw[ĚN,{ĒM,m=ăt/\Ąp/\Pv i d f,{é,_,ku _,h0},?_}];have q:=A i d f hi p
 rw[ęl,i]
 ·rw[Ďe,æ {{xs,xs[i],q,ċ8},Ĝy},y];rw[ŧ,B i x d _ (y xs q) p]
 ·rw[Ą9,Ē2 i]
  rw[ąk,{{xs,q,eH _},hd d f p}]
def OC{K:Zp}{z:Str}{g:TG}{ds:Zy}{k:Nat}{tc:TT}{te:TE}{t:St}{u:Hp}{D:Addr}{F:ăx}(Pv:ċu)(h0:Pv 0 [] (aJ u D ŀ))(A:∀i c d f,ì z.cps.toList=ŗ->Pv i d f->g ďa (iw ds k t) f λh q=>tc h q {ĉh,b,te h n λy o=>o D=āZ/\ĄC/\∃j,j<ĐK i/\j={ĐK,i+1}/\{ĚU,i+1}/\Pv (i+1) (d++[y]) ďJ,j<ĐK i/\j={ĐK,i+1}/\{ĚU,i+1}/\Pv (i+1) d n})(hd:∀d f,Pv z.cps.toList.length d f->F f):{đA,ĉf,W 0 m [] (aJ u D ŀ),W i m d f->((RK z).stop i f/\F f)\/((RK z).go i f/\∀x r,(RK z).yld i f x r->g x (iw ds k t) r λh q=>tc h q {ĉh,b,te h n λy o=>o D=āZ/\ĄC/\∃j,j<m/\W (i+1) j (d++[y]) ďJ,j<m/\W (i+1) j d n})}:=by
 rw[ĚN,{ĒM,m=ĐK i/\ĚU i/\Pv i d f,{é,_,ku _,h0},?_}];have s:ģ9 z.cps.size:=Ü
 rw[ĆM,i,z.cps.size]
 ·show æ {a,λy r l=>?_};have(e,c,hc,()):=l;rw[ŧ,A i c d _ Ěx p]
 ·rw[Ą9,i=z.cps.toList.length]
  rw[ąk,{{ē8,z.cps.size<=_,o'9 s},hd d f p}]
def Cc{i j:Str}{A B:Prop}(h1:i=j->A)(h2:i≠j->B):{ćW,ĵ i=ĵ j,A,B}:=by
 rw[ĆN,i,j]
 ·subst h;rw[ó,ji (),bE (h1 ())]
 rw[ų,j_ (λe=>h (V.str.inj e)),ce (h2 h)]
abbrev ix(led:Bool):Obj:={ĔH,ăQ,.set #[] 0 (.fresh 0 0 led)}
noncomputable def AH{b:Type}[BEq b](d:ξ b)(i:Nat):ZO:=({ĉz,i} d).foldl step_dedup []
section
variable{b:Type}[Ăb b][BEq b][ĂR b]
def CN(d:ξ b)(i:Nat):AH d (i+1)={Ē9,AH d i,d i}:=by change({ĉz,i+1} d).foldl step_dedup []=_;rw[Ys,hE,v_];rfl
def Nx(d:ξ b)(i:Nat):ō AH d i<=i:=by induction i with|zero=>show eH 0|succ i a=>
  rw[CN];unfold step_dedup
  split
  ·show vr a
  rw[ų,gV,r_ a]
omit e
def vU(b:Bool)(h:Heap)(a:Addr)(d:Zx):Prop:=∃o,ω=Û/\ăm {ů,cond b "list" "tuple"}/\∃n,ēp d n
def xD(b:Bool)(h:Heap)(a l:Addr)(i:Nat):Prop:=∃o,ω=Û/\ăm {ů,ĘO b}/\{ēn,#[ž,Ąd i]}
def vU.at{b:Bool}{h h':Heap}{a:Addr}{d:Zx}(x:vU b h a d)(e:∀o,ω=Û->ZU a=Û):vU b h' a d:=Exists.imp (λ_ r=>{e _ r.1,r.2}) x
def xD.at{b:Bool}{h h':Heap}{a l:Addr}{i:Nat}(x:xD b h a l i)(e:∀o,ω=Û->ZU a=Û):xD b h' a l i:=Exists.imp (λ_ r=>{e _ r.1,r.2}) x
section
variable{P:Zu}{w:World}{A:Around}{E:Zq}{s:Shared}
def Ii{b:Bool}{l:Addr}{d:Zx}{Q:Zq}(e:āH vU b l d)(q:{Ā1,Q,Ħ,Τ {ąS,ĘO b,#[ž,ąi]}}):{ŏ,Ćo ž}:=by cases b with|false=>show z8 e q|true=>show Wk e q
omit e
instance(priority:=10000)keyBEq:BEq (Sum Int Str):={λa b=>{Ċ,a=b}}
instance(priority:=10000)keyLaw:{ĂR,Sum Int Str}where
 eq_of_beq:=λh=>kl h
 rfl:=ji rfl
noncomputable def dd{b:Type}[BEq b](d:ZO):ZO:=d.foldl step_dedup []
def tz(b:ĉ e)(d:e):ĥ2 (λi=>Đn i d)=b:=by show List.ext_getElem Ü λi h1 h2=>?_;simp[List.getD,fx h2]
def QQ[BEq e](b:ĉ e)(d:e):{đe,AH,λi=>Đn i d}=dd b:=by unfold AH dd;rw[tz]
section
def Q2(r:bu (kV k) v):ķ sO k v/\ěz:=by cases k with|inl i=>rw[āB,r,{œ,CW i t}]|inr x=>rw[āB,r,{œ,CV x t}]
omit e
theorem re[BEq d]:∀(e:Ϸ)(b:Ϸ),ō e.foldl step_dedup b<=Ġ4 e.length
 |[],b=>eH _|k::r,b=>by
  have:=re r (Ē9 b k);have h2:ō step_dedup b k<=ćR:=by
   unfold step_dedup
   split
   ·show sT _
   rw[ų,gV,eH _]
  rw[rV,ig];lia
theorem Gb[Ăb f][BEq f][ĂR f]:∀(g d:ĉ f),d.Nodup->(ō g.foldl step_dedup d=d.length+g.length↔(d++g).Nodup)
 |[],d,h=>by simp[h]|k::r,d,h=>by
  rw[rV]
  by_cases e:{ęu,(·==k)}
  ·have c:Ē9 d k=d:=by unfold step_dedup;rw[hY e]
   have hm:k∈d:=by have(x,j,q):=ĆB e;rw[π,ĀI q,j]
   rw[c]
   constructor
   ·intro q;have:=re r d;rw[ig]at q;lia
   ·intro q;rw[md]at q;rw[ąt,ĀB k hm k (f_)]
  ·have c:Ē9 d k=d++[k]:=by unfold step_dedup;rw[hF e]
   have hm:k∉d:=λl=>e {ďo,{k,l,r4 k}};rw[c];have i:=Gb r (d++[k]) {Þ,md,{h,Ü,λa m b n q=>hm (by rw[Ň n]at q;show q▸m)}}
   rw[me]at i;rw[show d++k::r=d++([k]++r)by rfl,<-i,gV,ig,List.length_singleton]
   constructor<;>intro q<;>lia
def Ux[Ăb d][BEq d][ĂR d](b:Ϸ):{Ām,ě dd b}↔b.Nodup:=by have:=Gb b [] XW;simp at this;unfold dd;rw[ċO]
omit L2
namespace L2
open PySem
def LB(t:SetTable)(n:Nat):(t.orStandIn n).led=t.led/\(ĝx->ć (t.orStandIn n).plain):=by
 unfold SetTable.orStandIn
 split
 ·show ą id
 ·show ą Ī
set_option tactic.hygienic true in
def SA(t:SetTable)(b:Ćg)(h:Int)(x:Value):(layNew t b h x).2.1.led=t.led/\(ĝx->ć (layNew t b h x).2.1.plain):=by
 unfold layNew
 split
 ·rename_i sl wd e;show LB (t.put sl).1 _
 ·show ą Ī
set_option tactic.hygienic true in
def LC(t:SetTable)(b:Ćg)(n:Nat):(ċY t b n).2.1.led=t.led/\(ĝx->ć (ċY t b n).2.1.plain):=by
 unfold relayAll
 split
 ·rename_i a d e;have c:a.led=t.led/\a.plain=t.plain:=by unfold SetTable.relaid SetTable.laid at e;cases hc:SetTable.layClean (ģT n-1) (b.map (·.1))with|none=>rw[ĀJ,hc,e]|some ow=>rw[ĄN,hc,e,Λ]
  dsimp only
  split
  ·show{c.1,λh=>è c.2 h}
  ·show ą Ī
 ·show ą Ī
def A6(h:ąG=ù):(x::l.eraseIdx i).Perm l:=by
 rw[Ēq,ŷ h,(ąO h).2];have e:l=l.take i++x::l.drop (i+1):=ĉs b List.getElem_cons_drop sg
 rw[List.eraseIdx_eq_take_drop_succ];rw[ö,List.Perm.trans ?_ (List.Perm.of_eq e.symm),List.perm_middle.symm]
def CH(next:ξ Nat)(b:Ąz d):(ġ3 next b).toList.Perm b.toList:=by
 have go:∀(a k:Nat)(left:Ϸ)(out:Ąz d),left.length<=a->(pickOrder.go next a k left out).toList.Perm (out.toList++left):=by
  intro a
  induction a with|zero=>intro k left out h;have:left=[]:=ĆC Ø;subst this;unfold pickOrder.go;rw[l_]|succ a e=>intro k left out h;unfold pickOrder.go;cases c:(left[next k%left.length]?)with
 |none=>
    have hn:left=[]:=by cases left with|nil=>rfl|cons y f=>rw[Čz,Q_.mp c,Yh (next k) (show 0<Ă8 y f from XU _)]
    subst hn;rw[l_]|some x=>have g:=ŷ c;have i:=(ąO c).2;dsimp only;show{è,e _ _ _ (by rw[List.length_eraseIdx];split<;>lia),?_};rw[Y4,me];rw[ăb,List.Perm.append_left _ ?_,(x::left.eraseIdx (next k%left.length)).Perm left];show A6 c
 have:=go b.size 0 b.toList #[] Ü;unfold pickOrder;simpa using this
def jV:Slot "set_iterator" "__next__" "set_iterator.__next__":= .of (owner:="set_iterator") (n:="__next__") (by rw[Yp,XF];kernel_rfl) Ý Ý Ý (by first|rw[ţ,Ý]|rw[Ĉ,Ý]) ėN
def yY:Slot "set_iterator" "__iter__" "set_iterator.__iter__":= .of (owner:="set_iterator") (n:="__iter__") (by rw[Yp,XF];kernel_rfl) Ý Ý Ý (by first|rw[ţ,Ý]|rw[Ĉ,Ý]) ėN
def EY:Manifest.owners.lookup (String.ofList ['r','o','t','a','r','e','t','i','_','t','e','s'].reverse)=Ù Manifest.sig_set_iterator:=ĈC
def nY(a:Value):argsOk "set_iterator.__next__" {[a],[]}:=by unfold argsOk;rw[ěr,signature?_of (id:="set_iterator.__next__") (n:=['_','_','t','x','e','n','_','_']) (o:=['r','o','t','a','r','e','t','i','_','t','e','s']) ĈC EY]
def ug(a:Value):argsOk "set_iterator.__iter__" {[a],[]}:=by unfold argsOk;rw[ěr,signature?_of (id:="set_iterator.__iter__") (n:=['_','_','r','e','t','i','_','_']) (o:=['r','o','t','a','r','e','t','i','_','t','e','s']) ĈC EY]
def lZ:entryFor table "set_iterator.__next__"=Ù Builtin.«set_iterator.__next__»:=entryFor_of_tree ĈC
def rT:entryFor table "set_iterator.__iter__"=Ù Builtin.«dict_keyiterator.__iter__»:=entryFor_alias (id':="dict_keyiterator.__iter__") ĈC () Ý ĈC
def zx:entryFor table "set.__iter__"=Ù Builtin.«frozenset.__iter__»:=entryFor_alias (id':="frozenset.__iter__") ĈC () Ý ĈC
abbrev j6(first:Value)(i:Nat)(a:Addr)(n b:Nat):Obj:={Ċr,"set_iterator",none,{ć0,#[first,Ąd i,ô,Ąd n,Ąd b]},#[]}
abbrev pb(b:Zt):Obj:={ĔH,ăK,.seq b.toArray}
structure iB(h:Heap)(a:Addr)(es:Ćg)(ep:Nat)(t:SetTable):Prop where
 ob:∃o,ω=Û/\ăm ăQ/\{ąr,.set es ep t}
 fits:Ą t.fits es.size
def iB.keep(x:iB h a b d t)(k:∀o,ω=Û->ZU a=Û):iB h' a b d t:={let⟨o,e,r⟩:=x.ob;{o,k o e,r},x.fits}
def iB.ty{s:Shared}{a:Addr}{b:Ćg}{d:Nat}{t:SetTable}(x:Āa iB a b d t):ĎE ô "set":=let⟨o,e,c,_⟩:=x.ob;(o,e,c,)
section
variable{prog:Zu}{w:World}{A:Around}{E:Zq}{s:Shared}
theorem A7:∀(n:Nat)(b:ĉ f)(s:Shared)(Q:ĉ f->Ĝ),Ān n->(∀d e,ďL b->Q d {s with drawn:=e})->{ϡ,drawOrder n b}
 |0,b,s,Q,c,h=>by have:b=[]:=ĆC Ø;rw[ċo,eN (h [] s.drawn (YG _))]|n+1,[],s,Q,c,h=>by show eN (h [] s.drawn (YG _))|n+1,x::r,s,Q,c,h=>by
  show {ϟ,choose .order (Ă8 x r),λΓ p g=>?_};unfold choose;rw[Sem.wp_choose];show{ĥk _,?_};have hi:w.draws .order ĖP%Ă8 x r<Ă8 x r:=Yh _ (XU _);have a:{ZK,match((x::r)[w.draws .order ĖP%Ă8 x r]?)with|some y=>do return y::(<-drawOrder n ((x::r).eraseIdx (w.draws .order ĖP%Ă8 x r)))|none=>unsupported "internal:drawOrder",Q,E,{s with drawn:=s.drawn.bump .order}}:=by generalize w.draws .order ĖP%Ă8 x r=i at hi⊢;rw[fx hi];rw[ö,a_ (A7 n _ _ _ (by rw[List.length_eraseIdx,hY hi];lia) λd e j=>?_),eN (h _ _ {è,List.Perm.cons _ j,A6 (fx hi)})]
  show a
set_option maxHeartbeats 4000000 in
def NU{a:Addr}{b:Ćg}{h:Nat}{t:SetTable}{Q:Zq}(e:Āa iB a b h t)(hn:ė3)(h1:{ć,Āq&&(ĊX&&Đa)}->Ā1 Q Ħ {Τ,j6 ąi 0 a b.size h})(h2:{î,Āq&&(ĊX&&Đa)}->∀(d:Zy)(f:Drawn),{ďL,ZT b.size}->τ Ľ {ģv,{Τ,pb ċz}.push (j6 Ħ 0 a b.size h)}):{ϡ,Ćo ô}:=by have(o,c,hc,hd):=e.ob;have g:=e.fits;show YW e.ty F.slot_set_iter (o0 F.slot_set_iter e.ty zx ?_ (F.args_set_iter_1 _));unfold Builtin.«frozenset.__iter__»;rw[Ŧ,{ϟ,Builtin.Frozenset.slot0 "__iter__" _,{ϟ,slotArgs "__iter__" 0 _,eN (eN ?_)}},{ϟ,Builtin.Frozenset.sizeOf a,a_ (XR c hd g (eN ?_))},{ϟ,setDrawn a,a_ (G_ c hd g (a_ (a_ (P_ (eN ?_)))))},eN ?_];dsimp only;rw[ąp,_,_,{āX,Āq&&(ĊX&&Đa)},_,_];cases hc:(Āq&&(ĊX&&Đa))with|false=>rw[hF hH];rw[Ŏ,a_ (eN ?_),a_ (wpAny_setEpoch_of c hd g ?_),a_ (ot (eN {Ęj,_,(),_,{_,ge _ (),()},?_}))];show h1 hc|true=>
  rw[hY ()];show a_ (A7 b.size (ZT b.size) s _ {Þ,n8,eH _} λd f k=>?_);have l:ćv b.size:=Ē k.length_eq n8
  show a_ (ot ?_ (by change ĩ {Ġv,ćT i}.toArray.size;rw[iq,b_,l];show hn));have j:{ćJ,pb ċz} a=Û:=d_ _ c;rw[ç,a_ (wpAny_setEpoch_of (s:={ģv,{Τ,pb ċz}}) j hd g ?_),a_ (ot (eN {Ęj,_,(),_,{_,ge _ (),()},?_}))];rw[ĉy,h2 hc d f k,Ĩ Ľ {ĈM,pb ċz} (ďP).symm]
def Kq{I a:Addr}{d:Ćg}{b i slot nx:Nat}{t:SetTable}{x:Value}{Q:ĳ->Ĝ}(e:ε I={ďh,Ąd slot,i,a,b})(f:Āa iB a d b t)(hn:∀(A:Around)(g:{ŭ,Value×Nat}->Ĝ)(E:Zq),g (āe x nx) s->{ăG,ζ,ďr a i b,g})(h:∀h',ZU I={ďh,Ąd nx,i+1,a,b}->ĆE I->Q ù Χ):{ϡ,ĒR I}:=by have(o,j,hc,hd):=f.ob;rw[ĕh,ěc I,{_,e,()}];show a_ (R_ {ćp,ĊE,ty,jV,o0 jV ty lZ ?_ (nY _)});rw[Ě0,{ϟ,slotArgs "__next__" 0 _,eN ?_},a_ {ĞA,e,(),?_}];rw[ąp,_,_,Ğw a>>=_,_,_];rw[Ģ,a_ (XR j hd f.fits ?_),hF Ü];rw[Ŧ,{ϟ,ďr a i b,hn _ _ _ ?_},a_ (rm e Ü λh1 k b1=>?_),a_ (rm (s:=ĚO) k Ü λh2 l b2=>?_),eN {_,(),eN (h h2 ?_ (b1.trans b2))}];rw[l];rfl
def Hc{I T a:Addr}{b:Ćg}{d i:Nat}{e:Zy}{j:Nat}{t:SetTable}{x:đ4}{Q:ĳ->Ĝ}(f:ε I={Ù,j6 Ćs i a b.size d})(g:Āa iB a b d t)(n:ε T=ő pb ĝE)(p:ì e=ăn)(q:b[j]?=ù)(r:∀h',ZU I={Ù,j6 Ćs (i+1) a b.size d}->ĆE I->Q (Ù ŕ) Χ):{ϡ,ĒR I}:=by
 have(o,k,hc,hd):=g.ob;rw[ĕh,ěc I,{_,f,()}];show a_ (R_ {ćp,ĊE,ty,jV,o0 jV ty lZ ?_ (nY _)});rw[Ě0,{ϟ,slotArgs "__next__" 0 _,eN ?_},a_ {ĞA,f,(),?_}];rw[ąp,_,_,Ğw a>>=_,_,_];rw[Ģ,a_ (XR k hd g.fits ?_),hF Ü];rw[ąp,_,_,ę1 Ćs>>=_,_,_];show a_ (w_ n () ?_);have c:(ĝE).toArray[ėl]?=Ù {Ąd,ş j}:=by rw[Yy,g8,pv,p];rfl
 rw[ż,{Β,_,_,match((ĝE).toArray[ėl]?)with|some (.int h _)=>_|some _=>_|none=>_,_,_},c];show {ϟ,setNextDrawn a j d,?_};unfold setNextDrawn;rw[ąZ,a_ (G_ k hd g.fits ?_)];rw[hF Ü];rw[q];rw[Ŏ,eN ?_,a_ (rm f Ü λh1 u b1=>?_),eN {_,(),eN (r h1 ?_ b1)}];rw[u];rfl
omit e
def i4(b:Ā8):Prop:=∀i j:Nat,i<j->Ĉ0 j->Ćv<ĎC j
def Oa{b:Ā8}{i:Nat}(h:Ĉ0 i)(d:Nat):Đn i d=Ćv:=by simp[Array.getD,h]
def i4.le(r:i4 b)(h:i<=j)(d:Ĉ0 j):Ćv<=ĎC j:=by
 have q||q:=Yi i j
 ·show w4 (r i j q d)
 ·have:i=j:=Ø
  rw[ó,this,eH _]
theorem Bk{b:Ā8}(r:i4 b)(j:Nat):∀(fuel lo hi:Nat),hi-lo<=fuel->lo<=hi->Čl hi->(∀k,k<lo->ČT<j)->(∀k,hi<=k->Ĉ0 k->¬ČT<j)->{Čl,ĝS b j fuel lo hi}/\(∀k,k<ĝS b j fuel lo hi->ČT<j)/\(∀k,ĝS b j fuel lo hi<=k->Ĉ0 k->¬ČT<j)
 |0,lo,hi,g,h,c,h1,h2=>by
  unfold SetTable.below.go;have:lo=hi:=Ø
  rw[ċo,Ču c]|fuel+1,lo,hi,g,h,c,h1,h2=>by
  unfold SetTable.below.go
  rw[ĆM,lo,hi]
  ·rw[hY a];have hm:{Ĉ0,(lo+hi)/2}:=Ø
   dsimp only;rw[Oa hm j]
   by_cases d:{ĎC,(lo+hi)/2}<j
   rw[Ĺ,hY d,Bk r j fuel _ _ (o'10 g) Ø c (λk f=>so (r.le Ø hm) d) h2]
   rw[ų,hF d,Bk r j fuel _ _ (o'11 g a) Ø Ø h1 (λk f e q=>d (so (r.le f e) q))]
  ·rw[hF a];have:lo=hi:=Ø
   rw[ċo,Ču c]
def xo(r:i4 b)(j:Nat):{Čl,Ĉu b j}/\(∀k,k<Ĉu b j->ČT<j)/\(∀k,Ĉu b j<=k->Ĉ0 k->¬ČT<j):=Bk r j b.size 0 b.size Ø (ku _) (eH _) (λk a=>{ť,a,Zj _}) (λk h1 h2=>ť h2 Ø)
noncomputable def Mj(b:Ā8):ξ Nat|0=>0|i+1=>Ćv+1
def Bj(r:i4 b):∀{i:Nat},Čl i->{Ĉu,b,Mj b i}=i
 |0,_=>by
  have(h1,h2,h3):=xo r 0;rcases {ģU,Ĉu b 0}with q|q
  ·show q
  ·rw[Ā,h2 0 q,Zj _]|i+1,hi=>by
  have(h1,h2,h3):=xo r (Ćv+1);change {Ĉu,b,Ćv+1}=i+1;rcases YX {Ĉu,b,Ćv+1} (i+1)with q|q|q
  ·rw[Ā,tA _,h3 i Ø Ø]
  ·show q
  ·rw[Čz,h2 (i+1) q,r i (i+1) (tA _) Ø]
def i4.few{b:Ā8}(h:b.size<=1):i4 b:=λi j h1 h2=>Ø
section
variable{prog:Zu}{w:World}{A:Around}{E:Zq}{s:Shared}
def ui(b:Āa iB a g d t)(f:î Ąt)(h:Q ({ì,ēw a d g}.map λe=>(e.2,slot)) s):{ϡ,ďr a i d}:=by rw[ĢT,b.ob];rw[ąZ,a_ (G_ c hd b.fits ?_)];rw[ăb,{ĝ6,a_ (P_ (eN ?_))},{Β,_,_,āX Ąt,_,_}];rw[hY f,hF Ü];show {ϟ,setWalk a,?_};unfold setWalk;rw[ąZ,a_ (G_ c hd b.fits ?_)];show {ĝ6,a_ (P_ (eN ?_))};rw[ż,{Β,_,_,āX Ąt,_,_},hY f];rw[ö,a_ (P_ (eN ?_)),eN h]
def uj(d:Āa iB a b e t)(f:ć Ąt)(g:{ć,ĊX&&Đa})(n:Ēe)(h:Q (match b[(ĕ0 slot)]?,(ėL slot)with|some (_,x),some j=>{āe,x,j+1}|_,_=>none) s):{ϡ,ďr a i e}:=by rw[ĢT,d.ob];rw[ąZ,a_ (G_ c hd d.fits ?_)];show {ĝ6,a_ (P_ (eN ?_))};rw[ż,{Β,_,_,āX Ąt,_,_},hF (ăi f)];rw[ż,Β _ _ {āX,ĊX&&Đa} _ _,hF (ăi g)];show a_ ?_;rw[ā5,Β _ _ {āX,(Ŀ t.led)&&(Ŀ b.isEmpty)} _ _,hF (by rw[n];simp),eN (eN h)]
def FL(hh:āb)(f:ε I={Ù,j6 first i a q.size g})(n:Āa iB a q g t)(hn:(∃slot:Nat,first=Ąd slot/\∀(A:Around)(p:{ŭ,Value×Nat}->Ĝ)(E:Zq),p none s->{ăG,ζ,ďr a i g,p})\/∃(T:Addr)(d:Zy),first=Ćs/\ε T=ő pb ċz/\ąF=none)(r:∀h',{ê,ú I,ģ=Û->ŵ=Û}->Q none Χ):{ϡ,ĒR I}:=by
 have(o,u,hc,hd):=n.ob;have ty:ěc I:={_,f,()};have fin:∀(R:Fin->Ĝ)(h1:Heap),{ê,ú I,ģ=Û->ČQ=Û}->{ě1,A.in1,(newExc ĐC []>>=λe=>raiseNew e:Sem Fin),R,λe v=>{ZK,do if<-(isInstance e ĐC)then Ϙ none else throw e,Q,E,v},ĚO}:=by intro R h1 k1;rw[ĢM,a_ ?_];rw[Ŧ,a_ (ot ?_ ĕe),{ϟ,firstArgMember _ _,wpAny_of_eq (a:=Value.none) (by first|rfl|(rw[Ģ0])) ?_},ot ?_ ĕe,a_ (wpAny_handled ?_)];rw[Ĩ A.in1.handled none hh];rw[ϯ,a_ (eN (wpAny_throw ?_)),a_ {ėd,X_,"StopIteration",{_,ge _ (),()},isSubtype_stop,?_},eN (r _ λb o c e=>d_ _ (d_ _ (k1 b o c e)))]
 unfold pyNext;show a_ (R_ {ćp,ĊE,ty,jV,o0 jV ty lZ ?_ (nY _)});rw[Ě0,{ϟ,slotArgs "__next__" 0 _,eN ?_},a_ {ĞA,f,(),?_}];rw[ąp,_,_,Ğw a>>=_,_,_];rw[Ģ,a_ (XR u hd n.fits ?_),hF Ü];have(slot,(),hn)||(T,d,(),x,y):=hn
 ·rw[ϯ,{ϟ,ďr a i g,hn _ _ _ ?_},a_ (rm f Ü ĥy),fin _ h1 λb o c e=>{è,b1.2 b c,e}]
 ·rw[ąp,_,_,ę1 Ćs>>=_,_,_];show a_ (w_ x () ?_);have h:(ċz).toArray[ėl]?=none:=by rw[Yy,g8,pv,y];rfl
  rw[ż,{Β,_,_,match((ċz).toArray[ėl]?)with|some (.int j _)=>_|some _=>_|none=>_,_,_},h];rw[ϯ,a_ (rm f Ü ĥy),a_ (rm (s:=ĚO) l Ü λh2 z b2=>?_),fin _ h2 λb o c e=>{ĎQ,b2.2 b c,b1.2 b c,e}]
def Lu(hh:āb)(L:Āa iB a d f t)(hn:ĩ d.size)(hl:ć Ąt->Ēe)(hr:đD->Čg)(h:∀(I:Addr)(h':Heap)(S:Drawn)(ord:ĘH Int)(fp:Zz)(St:ċA Nat),ord.Perm d.toList->{ê,ģ=Û,ŵ=Û}->Ĉy I->I<h'.objs.size->(∀b∈fp,b=a\/Ĉy b)->Walks prog w A I fp [I] d.size (λi v=>∃x,ì ord=ù/\v=ŕ) St->St 0 h'->τ I {s with heap:=h',drawn:=S}):{ϡ,Ćo ô}:=by
 have ha:ăC a:=let⟨o,e,_⟩:=L.ob;h_ e;have T:t.place.size=d.size:=by have:=L.fits;unfold SetTable.fits at this;simp only[k_,YP]at this;show ĎX
 show NU L hn (λhc=>?_) (λhc p S K=>?_)
 ·--by slots
  have M:{ê,ģ=Û,{ćJ,Čt ąi 0 a f} b=Û}:=Ċg;have hg:Ψ {ćJ,Čt ąi 0 a f}=ďh ąi 0 a f:=ge _ ();have U:ĕ9 {ĈM,Čt ąi 0 a f}:={Þ,ol,tA _}
  have G:Ĉx a:=iA ha;have B:∀(first:ξ Nat)(ord:ĘH Int),first 0=0->ord.Perm d.toList->(∀(i:Nat)(c:Shared)(x:đ4),ì ord=ù->iB c.heap a d f t->∀(A:Around)(C:{ŭ,Value×Nat}->Ĝ)(E:Zq),C {āe,ŕ,first (i+1)} c->ZK {Ğ2,a,first i,i,f} C E c)->(∀(c:Shared),iB c.heap a d f t->∀(A:Around)(C:{ŭ,Value×Nat}->Ĝ)(E:Zq),C none c->ZK {Ğ2,a,first d.size,d.size,f} C E c)->Ā1 Q Ħ {Τ,Čt ąi 0 a f}:=by
   intro first ord f0 K hi hd;have V:ord.length=d.size:=Ē K.length_eq lh
   show h s.heap.objs.size _ s.drawn ord [s.heap.objs.size,a] (λi h'=>ĖK=ďh {Ąd,first i} i a f/\iB h' a d f t) K M (eH _) U ?_ ?_ ?_
   ·rw[ġu];have()||():=g
    ·rw[Ĉ,eH _]
    ·show Ġ
   ·show{ĠM,λb g=>?_,Ģt,?_,ģx,Ģu}
    rw[Ĺ,Ň g,f_]
    ·show{k _ f_ _ ĂF,(ZN).keep λo e=>k _ (fy _ f_) _ e}
    ·obtain⟨x,m⟩:∃x,ì ord=ù:={ord[i]'(o'12 V W),fx (o'12 V W)};rw[ö,Kq (nx:=first (i+1)) ĂF ZN (hi i c x m ZN) ĥz,q ŕ h2 c.toks {x,m,()} {X,(ZN).keep λo e=>{è,b2.2 _ G,e}} {Ėm,b2.2 b (ÿ g ĘV),e}]
    ·rw[ö,FL hh ĂF ZN {à,{_,(),hd c ZN}} λh2 k2=>?_,q h2 c.toks {ď8,k2,b,o,ÿ g ĘV,e}]
    ·have ty:c.TypeIs Ħ "set_iterator":={_,ĂF,()};rw[ö,YW ty yY (o0 yY ty rT ?_ (ug _)),eN {Ęj,_,(),_,ty,q}]
   rw[ų,f0,{hg,L.keep λo e=>M _ _ e}]
  cases H:(Ąt)with
 |true=>
   have V:(ēw a f d).toList.length=d.size:=Ē (CH _ _).length_eq lh
   show B ćL (ēw a f d).toList () (CH _ _) ġ4 Ģ1
   ·show ui u H ?_;have m:{ì,ēw a f d}=ù:=Ă ut m
    rw[ó,m,q]
   ·show ui u H ?_;have m:(ēw a f d)[d.size]?=none:={Ă,ut,Q_.mpr (o'13 V)}
    rw[ó,m,q]|false=>
   have D:{ć,ĊX&&{Ċ,d.size>1}}:=by rw[H]at hc;simpa using hc
   have rs:Čg:=by cases F:t.plain with|true=>show hr F|false=>rw[F]at D;rw[Ģ,i4.few ?_,T];simpa using D
   show B (ĠT Mj) d.toList () (YG _) ġ4 Ģ1
   ·have m:ąF=ù:=Ă ut m
    have hi:i<d.size:=(N_.mp m).1;show uj u H D (hl H) ?_;rw[Bj rs Ø,m];have F:ì t.place={Ù,Ėt i 0}:=by rw[wo (o'12 T hi)];simp[Array.getD,{ĈP,ĜU i,o'12 T hi}]
    rw[ó,F,q]
   ·rw[Ģ,uj u H D (hl H) ?_,Bj rs (o'9 T)];rw[ó,{Ĩ,d[d.size]?,none,Array.getElem?_eq_none (eH _)},q]
 ·--drawn
  have Y:Ψ {ćJ,pb Ďh}=ő pb Ďh:=ge _ ();have hz:{ĈM,pb Ďh}=Ľ:=ďP;have M:{ê,ģ=Û,({Τ,pb Ďh}.push (Čt Ħ 0 a f)).get? b=Û}:={ĥ5,d_ _ e};have hg:({Τ,pb Ďh}.push (Čt Ħ 0 a f)).get? Ľ=ďh Ħ 0 a f:={Ă,hz,ge _ ()}
  have aa:p.length=d.size:=Ē K.length_eq n8
  have P:∀(i j:Nat),ì p=ăn->j<d.size:=λi j q=>by have:=K.mem_iff.mp (e_ q);show pa.mp this
  show h Ľ _ S (p.filterMap λj=>d[j]?) [Ľ,a,s.heap.objs.size] (λi h'=>ZU Ľ=ďh Ħ i a f/\iB h' a d f t/\ĖK=ő pb Ďh) ?_ M (sT _) ?_ ?_ ?_ ?_
  ·rw[ĉy,K.filterMap (λj=>d[j]?),filterMap_getElem?_range]
  ·rw[ý,ol,hz,tA _]
  ·rw[ġu];have()||()||():=g
   ·rw[Ĉ,sT _]
   ·show Ġ
   rw[ϛ,eH _]
  ·have G:a≠Ľ:=iA (z0 ha);have R:∀(i:Nat)(j:Nat)(x:đ4),ì p=ăn->d[j]?=ù->{ì,p.filterMap λj=>d[j]?}=ù:=by
    have gen:∀(l:Zy),(∀j∈l,j<d.size)->∀(i j:Nat)(x:đ4),ąG=ăn->d[j]?=ù->{ì,l.filterMap λj=>d[j]?}=ù:=by
     intro l
     induction l with|nil=>intro _ i j x hi _;simp at hi|cons y r ih=>intro g i j x hi m;have hy:d[y]?={Ù,d[y]'(g y f_)}:=wo _;rw[List.filterMap_cons_some hy];cases i with|zero=>simp only[List.getElem?_cons_zero,X2]at hi⊢;subst hi;rw[hy]at m;show i_ m|succ i=>simp only[List.getElem?_cons_succ]at hi⊢;show ih (λj J=>g j (fy _ J)) i j x hi m
    intro i j x h1 h2;show gen p (λj J=>?_) i j x h1 h2;have(n,hn):=ĀN J;show P n j hn
   show{ĠM,λb g=>?_,Ģt,?_,ģx,Ģu}
   rw[Ĺ,Ň g,f_]
   ·show{k _ f_ _ ĂF,ZN.1.keep λo e=>k _ (fy _ f_) _ e,k _ (fy _ (fy _ f_)) _ ZN.2}
   ·obtain⟨j,J⟩:∃j,ì p=ăn:={p[i]'(o'12 aa W),fx (o'12 aa W)};have Z:=P i j J;have m:d[j]?={Ù,d[j]' Z}:=wo _;rw[ö,Hc ĂF ZN.1 ZN.2 J m ĥz,q _ h2 c.toks {_,R i j _ J m,()} {X,ZN.1.keep λo e=>{è,b2.2 _ G,e},{è,b2.2 _ (iA (tA _)),ZN.2}} {Ėm,b2.2 b (ÿ g ĘV),e}]
   ·rw[ö,FL hh ĂF ZN.1 {æ,{_,p,(),ZN.2,Q_.mpr (o'13 aa)}} λh2 k2=>?_,q h2 c.toks {ď8,k2,b,o,ÿ g ĘV,e}]
   ·have ty:Ε c.TypeIs Ľ "set_iterator":={_,ĂF,()};rw[ö,YW ty yY (o0 yY ty rT ?_ (ug _)),eN {Ęj,_,(),_,ty,q}]
  ·show{hg,L.keep λo e=>M _ _ e,d_ _ Y}
def N2(ty:ĎE ô "set")(h:Q false s):{ϡ,ġ7 ô}:=by
 unfold Builtin.List.listLengthHint;show a_ (Yo ty F.slot_set_len.lookup ?_);generalize c:ĝb "set.__len__"=nm
 wp_delta
 rw[{Ĩ,splitId nm,āe "set" "__len__",by subst c;decide+kernel}];subst c;rw[Ŏ,a_ {ėd,X_,"set",ty,ėN,?_},u_ ğn ĺ,u_ ĺ (ĀG Ý z)];show a_ (YV ty (eN h))
def Gf(hh:āb)(Q:Āa iB a n X t)(hn:ĩ n.size)(Z:ć Ąt->Ēe)(p:đD->Čg)(h:∀(h':Heap)(d':Drawn)(tk:Nat)(S:Zt),S.Perm (n.toList.map (·.2))->{ê,ģ=Û,ŵ=Û}->Ĉy h'.objs.size->R S (Ĕs h' d')):{ăG,ζ,collect ô,R}:=by
 have J:ăC a:=let⟨o,e,_⟩:=Q.ob;h_ e;unfold collect;rw[Ģ,a_ (wpAny_runValue (E2 F.entry_proto_collect ?_)),O_ F.plain_proto_collect _];rw[ç,{ϟ,newList [],ot ?_},eN {XJ F.plain_list_iadd _,E2 F.entry_list_iadd ?_}];rw[O_ F.plain_list_iadd _];have P:{Ψ,ćJ {Ā0,.seq Ćr}}={Ďg,.seq #[]}:=ge _ ();have g:iB {Τ,{Ā0,.seq Ćr}} a n X t:=Q.keep λo e=>d_ _ e;have j:ĈM {Ā0,.seq Ćr}=Ľ:=ďP;have k0:{ê,ģ=Û,{ćJ,{Ā0,.seq Ćr}} b=Û}:=Ċg;generalize Τ {Ā0,.seq Ćr}=h0 at P g j k0⊢;change {Ω,_,A.in1,Ěg Ħ ô Ħ,_,_,ĚP};rw[ġ5,a_ (YV (T:="set") (s:=ĚP) g.ty ?_)];have ne:{ć,Builtin.List.listSameRef Ħ ô}:=by simp[Builtin.List.listSameRef,mu J]
 rw[hF (by rw[ne];decide)];rw[ç,a_ (Lu (s:=ĚP) (A:=A.in1) hh g hn Z p λI h1 l ord fp St U k1 Y aa u W st=>?_),a_ (n_ (N2 (s:=(ģw h1)) (g.keep λo e=>k1 _ _ e).ty ?_))];have K:=k1 _ _ P;have V:ord.length=n.size:=Ē U.length_eq lh
 have k:∀(h2:Heap)(c:Nat),St 0 h2->{ê,ģ=Û,h2.get? b=Û}->Ψ h2.get?=Ù {Ċr,"list",none,{ĂE,#[],c},#[]}->{Ă3,ζ,A,.builtin "list.extend.loop" {[Ħ,â I,Ħ],[]},(λr y=>∃v,r=.ok (.ret v)/\v=.ref s.heap.objs.size/\∃(h':Heap)(tk:Nat)(f:Zx)(B:Nat),y={s with heap:=h',drawn:=l,toks:=tk}/\(∀b o,s.heap.get? b=some o->h'.get? b=some o)/\h'.get? s.heap.objs.size=some {cls:=.type "list",dict:=none,data:=.seq f B,slots:=#[]}/\f.toList.Perm (n.toList.map (·.2))),ģw h2}:=by
  intro h2 c L k2 G;show codeAny_extend_loopS W.toS hn s.heap.objs.size (λhm=>?_) _ n.size 0 _ #[] c () (ku _) L G (ItemsOf.nil _) λy d B H g' it=>?_
  ·have e||e:=u _ hm
   ·rw[Ā,e,mu J]
   ·have:Ĝk s.heap.objs.size:=e;rw[j]at this;rw[ďk,ĢJ _]
  ·have(h3,M,d3,t3,o3):=y;obtain rfl:M=s.gens:=H.gens;obtain rfl:d3=l:=H.drawn;obtain rfl:o3=s.os:=H.os;show{_,(),(),h3,t3,d,B,(),čA,g',?_}
   ·show H.heap b o (λhm=>?_) (k2 b o e);have C:ăC b:=h_ e;have z||z:=Ű hm
    ·rw[Ā,z,iA C]
    ·rw[ĆD]at C;have:Ĝk I:=Y;rw[j]at this;rw[Ā,sm C (Nat.lt_of_succ_le this),nk _]
   ·have e1:d.toList=Ďm ord.map:=by show z1 ĒT;rw[g8,ut];cases q:(ąF)with|some v=>have(x,hx,()):=it.2 i v q;rw[hx];rfl|none=>have:d.size<=i:=Array.getElem?_eq_none_iff.mp q;rw[it.1]at this;rw[qq Ø];rfl
    rw[ó,e1,U.map _]
 show {ϗ,u_,ĺ,eN {ĥh XJ _,A_ (k h1 0 st (λb o e=>k1 _ _ (k0 _ _ e)) K) λr y p=>?_}}
 case refine_2=>rw[ġ9];show a_ (wpAny_load D (eN (h h' l tk f.toList O N (w4 (h_ D)))))
 rw[ăb,a_ (yl (a_ ?_)),{Ω,_,_,(updateSeq s.heap.objs.size (·.push .none)>>=λ_=>updateSeq s.heap.objs.size (·.pop)),_,_,_}];show a_ (Zh K () ?_);have G:=qx (Obj.mapSeq (·.push Value.none)) K ();show Zh (hz:=by seq_fits) G () ?_;have M:=qx (Obj.mapSeq (·.pop)) G ();show eN {ĥh XJ _,A_ (k _ _ (W.frame 0 _ _ st λb C o e=>?_) čA M) λr y p=>?_}
 ·have nb:Ĉx b:=λz=>by
   have q||q:=u _ C
   ·rw[Ā,z.symm.trans q,mu J]
   ·have:Ĝk b:=q;rw[j,z]at this;rw[ďk,ĢJ _]
  show{ĎQ,pw _ _ (m_ nb),pw _ _ (m_ nb),e}
 ·have nb:Ĉx b:=iA (h_ e);show{ĎQ,pw _ _ (m_ nb),pw _ _ (m_ nb),k1 _ _ (k0 _ _ e)}
 ·rw[ġ9];show a_ (wpAny_load D (eN (h h' l tk f.toList O N (w4 (h_ D)))))
omit e
structure xt(led:Bool)(t:SetTable):Prop where
 led:t.led=led
 up:đD->Čg
def xt.off{led:Bool}{t:SetTable}(x:xt led t):xt led {t with plain:=false}:={x.led,λh=>ĄM h}
def Nf{t:SetTable}{j:Nat}(h:ďp j= .empty\/ďp j= .dummy):ėL j≠ăn:=by intro e;unfold SetTable.slot at h;dsimp only at h;rw[hY (by rw[e];simp)]at h;have h||h:=h<;>cases h
theorem tS:∀(fuel:Nat)(p:SetTable.Probe)(j:Nat)(d:ĀK),(∀x,p.dummy=ù->ďp x= .dummy)->SetTable.probe.go t m h fuel p={Ù,.empty j d}->ďp j= .empty/\∀x,d=ù->ďp x= .dummy|0,p,j,d,c,e=>by unfold SetTable.probe.go at e;cases e|fuel+1,p,j,d,c,e=>by unfold SetTable.probe.go at e;cases a:ďp p.j with
 |empty=>rw[a]at e;injection e with e;injection e with f g;subst f;subst g;show(a,c,)|dummy=>
   rw[a]at e;show tS fuel _ j d ĝi e;have:(t.advance {p with dummy:=Ù p.j}).dummy=Ù p.j:=by
    unfold SetTable.advance
    split<;>rfl
   rw[this]at b;rw[ā,b,a]|live i=>
   rw[a]at e;dsimp only at e
   split at e
   ·cases e
   ·show tS fuel _ j d (λx b=>c x ?_) e;have:(t.advance p).dummy=p.dummy:=by
     unfold SetTable.advance
     split<;>rfl
    rw[this]at b;show b
def KR{t:SetTable}{h:Int}{sl:Nat}{wd:Bool}(e:t.freeSlot h=āe sl wd):ėL sl≠Ù sl:=by unfold SetTable.freeSlot at e;cases a:t.probe (λ_=>h+1) h (t.probeStart h)with|none=>rw[ĀJ,a,e]|some m=>rw[a]at e;cases m with|candidate _ _ _=>cases e|empty j d=>have:=tS (10*SetTable.turns t.mask) (t.probeStart h) j d (λx b=>ĄM b) a;injection e with e;injection e with c f;subst c;show Nf ?_;cases d with|none=>rw[ţ,ĎX]|some x=>rw[Ĉ,Č4 x ()]
def gd(b:Ā8)(i:Nat):Ćv=(ì b.toList).getD 0:=Ē ut Array.getD_eq_getD_getElem?
def GW{l:Zy}(h:l.Pairwise (·<·)):i4 l.toArray:=by intro i j a b;rw[iq]at b;have:=List.pairwise_iff_getElem.mp h i j (o'14 a b) b a;rw[gd,gd];rw[Ćq,(ąG).getD 0<(l[j]?).getD 0,fx b,fx {ĈP,ČR,o'14 a b},this]
def F0(d:Čl p):(ĕi b p x).getD k 0={Ā3,k,p,ČT,ď k p x {Ā3,k,b.size+1,{ĎC,k-1},0}}:=by
 have e:(ĕi b p x).toList=b.toList.take p++x::Ġj p:=Ź SetTable.toList_insertAt
 rw[gd,e];have a:ě b.toList.take p=p:=by rw[j2,lh];lia
 by_cases h1:k<p
 ·rw[hY h1,rl (o'12 a h1),List.getElem?_take,hY h1,gd]
 ·rw[hF h1,vu Ø,a]
  by_cases h2:k=p
  ·rw[hY h2,h2,Nat.sub_self];rfl
  ·rw[hF h2];obtain⟨m,rfl⟩:∃m,k=p+(m+1):={k-p-1,Ø};rw[{ύ,p+(m+1)-p=m+1},List.getElem?_cons_succ,YS]
   by_cases h3:p+(m+1)<b.size+1
   ·rw[hY h3,gd,{ύ,p+(m+1)-1=p+m}]
   ·rw[hF h3,qq (by rw[lh];lia)];rfl
def NX(d:Čl p):(ĕi b p x).size=b.size+1:=by rw[<-lh,(SetTable.insertAt_perm b p x).length_eq,lh,Array.size_push]
def Ka{t:SetTable}{sl:Nat}(r:Čg)(h:ėL sl≠Ù sl):i4 (t.put sl).1.place:=by
 have(b1,b2,b3):=xo r sl;change i4 {ĕi,t.place,ĕ0 sl,sl};generalize ĕ0 sl=p at h b1 b2 b3;have b4:∀k,p<=k->ĜU k->sl<Ėt k 0:=by
  intro k d a;have e:ġ8 p={Ù,Ėt p 0}:=by rw[wo Ø];simp[Array.getD,{ύ,ĜU p}]
  have f:Ėt p 0≠sl:={ÿ,h,Ē e z};rw[ăB,b3 p (eH _) Ø,r.le d a];lia
 intro i j b c;rw[NX b1]at c;rw[F0 b1,F0 b1]
 by_cases h1:j<p
 ·rw[ý,hY (o'14 b h1),hY h1,r i j b Ø]
 ·rw[hF h1]
  by_cases h2:j=p
  ·rw[ý,hY h2,hY Ø,b2 i Ø]
  ·rw[hF h2,hY c]
   by_cases h3:i<p
   ·rw[hY h3];rw[Čz,b2 i h3,b4 (j-1) Ø Ø]
   ·rw[hF h3]
    by_cases h4:i=p
    rw[Ĺ,hY h4,b4 (j-1) (o'15 h1 h2) (o'16 b1 c h1 h2)]
    ·rw[ý,hF h4,hY Ø,r (i-1) (j-1) (o'17 b h1 h2 h3 h4) (o'16 b1 c h1 h2)]
set_option tactic.hygienic true in
def xt.lay{led:Bool}{t:SetTable}(x:xt led t)(d:Ćg)(h:Int)(v:Value):xt led (layNew t d h v).2.1:=by
 show{è (SA t d h v).1 x.led,?_};unfold layNew
 split
 ·rename_i sl wd e;intro a;dsimp only at a⊢;unfold SetTable.orStandIn at a⊢
  split
  ·rename_i b;rw[hY b]at a;show Ka (x.up a) (KR e)
  ·rename_i b;rw[hF b]at a;cases a
 ·intro a;cases a
set_option tactic.hygienic true in
def xt.relay{led:Bool}{t:SetTable}(x:xt led t)(f:Ćg)(n:Nat):xt led (ċY t f n).2.1:=by
 show{è (LC t f n).1 x.led,?_};unfold relayAll
 split
 ·rename_i m o e;dsimp only
  split
  ·intro _;unfold SetTable.relaid SetTable.laid at e;cases hc:SetTable.layClean (ģT n-1) (f.map (·.1))with|none=>rw[ĀJ,hc,e]|some ow=>
    rw[hc]at e;cases e;change i4 ((((List.range (SetTable.sizeAbove n-1+1)).filterMap λj=>(ow.getD j none).map (j,·)).map (·.1)).toArray);have l:(((List.range (SetTable.sizeAbove n-1+1)).filterMap λj=>(ow.getD j none).map (j,·)).map (·.1)).Pairwise (·<·):=by rw[List.map_filterMap];show List.Pairwise.filterMap _ (R:=(·<·)) (S:=(·<·)) ?_ List.pairwise_lt_range;intro a b g x c y d;cases i:ow.getD a none with|none=>rw[i]at c;cases c|some v=>cases k:ow.getD b none with|none=>rw[k]at d;cases d|some u=>rw[i]at c;rw[k]at d;rw[ą6,c,d,g]
    show GW l
  ·intro h;cases h
 ·intro h;cases h
section
variable{prog:Zu}{w:World}{d:Type}[Ăb d](knd:Ėw prog w d)(kOf:āL d)
structure lX(led:Bool)(h:Heap)(a:Addr)(ks:Ϸ):Prop where ex:∃o es ep t,ω=Û/\o.ExactSet/\{ąr,.set es ep t}/\ElemsOf knd es.toList/\(es.toList.map λe=>kOf e.2).Perm ks/\ċC es.size/\Ą t.fits es.size/\xt led t
variable{knd kOf}
def lX.keep(x:lX knd kOf led h a b)(k:∀o,ω=Û->ZU a=Û):lX knd kOf led h' a b:=by have(o,c,f,t,e,r):=x.ex;show{o,c,f,t,k o e,r}
variable{A:Around}{E:Zq}{s:Shared}
def Nz(f:∀k v,ĘK k v->kOf v=k)(b:ElemsOf knd g)(h:(g.map λe=>kOf e.2).Perm i)(k:d):k∈i↔∃e∈g,ĘK k e.2:=by
 rw[<-h.mem_iff,hQ]
 constructor
 ·intro(e,a,());have((c,h1,_),_):=b e a;rw[ϑ,{e,a,?_},f c e.2 h1,h1]
 ·intro(e,a,h1);show{e,a,f k e.2 h1}
def zq{led:Bool}{h:Heap}{a:Addr}{o:Obj}{m b:Ćg}{i:Nat}{t f:SetTable}{ks:Ϸ}(n:ω=Û)(hex:o.ExactSet)(hd:{ąr,.set m i t})(j:ēd ElemsOf knd)(p:{ĝO,λe=>kOf e.2}.Perm ks)(r:ċC b.size)(u:Ą f.fits b.size)(y:xt led f):(h.update a (Ďc b f)).get? a=Ù {o with data:= .set b (i+1) f}/\lX knd kOf led (h.update a (Ďc b f)) a ks:=by
 have g:(h.update a (Ďc b f)).get? a=Ù {o with data:= .set b (i+1) f}:=by
  have q:=qx (Ďc b f) n (by rw[putSet_of b f hd];rfl)
  rwa[putSet_of b f hd]at q
 show{g,_,b,i+1,f,g,hex,(),j,p,r,u,y}
def OR{led:Bool}{a:Addr}{f:Ϸ}{k:d}{x:Value}{Q:Bool->Ĝ}(X:∀k v,ĘK k v->kOf v=k)(i:ĘK k x)(y:î x.scannable)(Z:lX knd kOf led s.heap a f)(G:{ċC,f.length+1})(h:∀h' b,ĆE a->lX knd kOf led h' a {ĄD,k,f,f,f++[k]}->Q b Χ):{ϡ,setAddHashed a x ĎD}:=by
 have(o,D,ep,t,O,hex,hd,m,P,hb,Y,ti):=Z.ex;have hn:D.size=f.length:=ĉs P.length_eq b_ lh
 have p:=Nz X m P;unfold setAddHashed setAddHashedIn;rw[ąZ,n_ (a_ (G_ O hd Y ?_))];rw[byScan_of y hb m,hY ()];unfold setAddByScan;show a_ (a_ (yl (a_ (wpAny_setScan_of i O hd Y m ?_))));cases hr:List.findIdx? (λe=>knd.is k e.2) D.toList with|some j=>have(hj,R,_):=List.findIdx?_eq_some_iff_getElem.mp hr;have B:k∈f:=(p k).mpr {_,Yc hj,R};show eN (eN ?_);have q:={ąh,h,false,Heap.SameBut.refl a s.heap};rw[Ăs,hY B,q Z]|none=>
  have B:k∉f:=λz=>by have(e,he,h1):=(p k).mp z;rw[čU,List.findIdx?_eq_none_iff.mp hr e he,h1]
  dsimp only;have q:∀h' b,ĆE a->lX knd kOf led h' a (f++[k])->Q b Χ:=λh' b sb x=>h h' b sb {Þ,hF B,x};have F:=layNew_perm t D ĎD x;have H:=layNew_fits t D ĎD x;have I:=ti.lay D ĎD x;generalize hL:layNew t D ĎD x=L at F H I⊢;have(c,S,wd,gv):=L;dsimp only at F H I⊢;rw[Y4]at F;have u:ElemsOf knd c.toList:=(m.push i y).perm F;have J:(c.toList.map λe=>kOf e.2).Perm (f++[k]):=by show{è,F.map _,?_};rw[hE,YR,X k x i];show P.append_right _
  have T:c.size=f.length+1:=by rw[<-lh,F.length_eq,gV,lh,hn];rfl
  have n:ċC c.size:=Þ T G
  have say:∀(b:Bool)(U:Shared)(V:Unit->Ĝ),ğA V U->ZK (match b with|true=>ġ0 rule|false=>Ϙ Unit.unit) V E U:=λb U V z=>by cases b<;>first|show eN z|show yl z
  have l:∀g:SetTable,Ą g.fits c.size->xt led g->{ăG,ζ,do
 storeSet a c g if{î,(Ŀ wd)&&g.tooFull} then do
      (match(ċY g c ċ7).2.2 with|true=>ġ0 rule|false=>Ϙ Unit.unit)storeSet a (ċY g c ċ7).1 (ċY g c ċ7).2.1
      (Ϙ ā8)else Ϙ ā8,λr s'=>ZK (match r with|some C=>Ϙ C|none=>setAddHashedIn a x ĎD 99999) Q E s'}:=by
   intro g f2 i2;show a_ (wpAny_storeSet_of O hd ?_ (fits_of_scanBound n));have(g1,S1):=zq (knd:=knd) (kOf:=kOf) O hex hd u J n f2 i2;have K:={ąh,z7,a,Ďc c g};show {ϗ,u_,ĺ,eN (eN (q _ _ K S1))};have M:=relayAll_perm g c ċ7;have r2:=relayAll_fits g c ċ7;have r3:=i2.relay c ċ7;generalize ċY g c ċ7=Rl at M r2 r3⊢;have(W,t3,aa):=Rl;dsimp only at M r2 r3⊢;have N:W.size=c.size:=ĉs lh M.length_eq lh
   rw[ç,a_ (say _ _ _ ?_),a_ (wpAny_storeSet_of (s:={s with heap:={če,a,Ďc c g}}) g1 () ?_ (fits_of_scanBound (Þ N n)))];have(_,S2):=zq (knd:=knd) (kOf:=kOf) (ks:=f++[k]) g1 hex () (u.perm M) {è,M.map _,J} (Þ N n) r2 r3;show eN (eN (q _ _ (K.trans (z7 _ a _)) S2))
  show a_ (say _ _ _ ?_)
  split
  ·rw[ĄZ,a_ ?_,hashByValue_scannable 8 y,eN ?_];cases ad:plainKind x with|true=>show l S H I|false=>show l {S with plain:=false} (SetTable.fits_plain_off H) I.off
  ·show a_ (eN (l S H I))
omit e
omit L2
namespace L2
open PySem PySem.Spec PyProof.Rows
section
variable{prog:Zu}{w:World}{A:Around}{E:Zq}{s:Shared}
def QI(v:Value)(h:Ā1 Q₁ Ħ {Τ,ix Āq}):{Ă3,ζ,A,.call {Α,"set.__new__"} {[ăQ,v],[]},wants Q₁ E,s}:=by rw[ç,codeAny_of_tree {ċb,_,A.in1,do checkBuiltinCall "set.__new__" ⟨[ăQ,v],[]⟩;again (.builtin "set.__new__" ⟨[ăQ,v],[]⟩),_,_,?_},a_ (wpAny_of_eq (F.newCall_set_1 v) (eN {XJ F.plain_set_new _,E2 F.entry_set_new ?_}))];rw[O_ F.plain_set_new _];unfold Builtin.«set.__new__»Builtin.Frozenset.newClass;have a:=sub_set_self;have(b,g,d,tk,os):=s;dsimp only;wp_walk;rw[ąZ,P_ (eN ?_)];simp only[newObj];show a_ (wpAny_alloc (eN (eN h)))
omit e
section
variable{prog:Zu}{w:World}{A:Around}{R:Result->Ĝ}{g:Type}[Ăb g][BEq g][ĂR g]{it a:Addr}{fp j:Zz}{G:Ė Ėf Ėf}{n:Nat}{P:Ė Nat Value}{St:ξ Ĝ}
def K2(l:ĉ g)(x:g)[d:{ăS,x∈l}]:{ĄD,x,l,l,l++[x]}=Ē9 l x:=by
 unfold step_dedup
 by_cases h:x∈l
 ·have q:{Ą,l.any,λy=>y==x}:=ďo {x,h,r4 x};rw[hY h,hY q]
 ·have q:¬{Ą,l.any,λy=>y==x}:={ÿ,h,by have(y,b,q):=ĆB z;rw[π,ĀI q,b]};rw[hF h,hF q]
def KS(p:Ėw prog w g)(kOf:āL g)(led:Bool)(H:∀k v,ķ p.is k v->kOf v=k)(r:WalksS prog w A.in1 it fp j G n P St)(B:a∉fp)(h:ξ g)(t:∀i v,P i v->{ķ,p.is,h i,v}/\ěz)(C:{ċC,n+1}):∀(d i:Nat)(s:Shared),n-i=d->i<=n->St i s->lX p kOf led s.heap a (AH h i)->(∀q,Moved (a::j) G s q->lX p kOf led q.heap a (AH h n)->R (.ok (.ret .none)) q)->{Ă3,ζ,A,.builtin "set.update.loop" {[ô,ćq],[]},R,s}:=by
 have aw:a∉j:={ÿ,B,r.sub _ z};have up:∀b∈j,b∈a::j:=λb z=>fy _ z;intro d
 induction d with|zero=>
  intro i s hd hi st f k;obtain rfl:i=n:=Ø
  rw[Ģ,ĢG E2 ?_,O_ Yf _];rw[ö,{ϟ,ĘP,r.done s _ _ st λq c=>?_},eN (k q (c.mono up) (f.keep λo e=>c.heap a o aw e))]|succ d I=>
  intro i s hd hi st f k;have lt:i<n:=Ø
  rw[ĄZ,ĢG E2 ?_,O_ Yf _,{ϟ,ĘP,r.item i s _ _ lt st λv q Y l c=>?_}];have(D,J):=t i v Y;have K:lX p kOf led q.heap a (AH h i):=f.keep λo e=>c.heap a o aw e;show {ϟ,{Ĉl,[v],setAdd a v},n_ ?_};unfold setAdd;show n_ (a_ (p.pyHash (k:=h i) D ?_));have L:{ċC,ō AH h i+1}:={ļ,Nx h i}
  show OR (s:={q with toks:=q.toks+1}) H D J K L λh' N E f2=>?_;rw[K2,<-CN]at f2;show eN {XJ Yf _,I (i+1) _ (o'18 hd hi lt) lt (r.frame _ q _ _ l (sT _) λb z o e=>?_) f2 λu x M=>?_}
  ·show{è,E.2 b λy=>B (y▸z),e}
  ·rw[ö,k u (Moved.trans r.gtrans ((c.mono up).then_heap (sT _) λb o z e=>?_) x) M,{è,E.2 b λy=>z (y▸f_),e}]
omit e
section
variable{prog:Zu}{w:World}{A:Around}{E:Zq}{s:Shared}{d:Type}[Ăb d][BEq d][ĂR d]
set_option maxHeartbeats 3200000 in
def FZ{b:Bool}(n:Ėw prog w d)(kOf:āL d)(T:∀k v,ķ n.is k v->kOf v=k){l:Addr}{j:Zx}{key:ξ d}{Q:Zq}(hh:āb)(W:āH vU b l j)(y:∀i v,ì j=Ĕ->{ķ,n.is,key i,v}/\ěz)(z:{ċC,j.size+1})(k:∀(h':Heap)(tk:Nat),lX n kOf Āq h' s.heap.objs.size (AH key j.size)->{ê,ģ=Û,ŵ=Û}->Q Ħ ĉr):{ϡ,call ăQ (ŝ l)}:=by
 have(c,tl,L):=F.called_set.mro;have made:=F.called_set.made;have sub:=F.called_set.sub;have nt:=F.called_set.notType;have cc:=F.called_set.canCreate;have tc:=F.typeCall_set_1 ž;rw[ăb,Yg (codeAny_of_tree ?_),{Ω,_,_,callAny ăQ _,_,_,_}];show eN {Code.quiet_builtin _ Ý,E2 F.entry_type_call ?_};rw[Around.under_plain (weight_type_call_type "set" (ŝ l) []) ()]
 (repeat(any_goals(first|assumption|wp_step)));skip
 show A_ (QI ž (E:=E) (Q₁:=λu s₁=>u=Ħ/\s₁={ĕ7,ix Āq}) Λ) λr s₁ G=>?_;cases r with|error e=>show G|ok U=>cases U with
 |ret u=>
   have((),()):=G;have N:Ψ {ćJ,ix Āq}=ő ix Āq:=ge _ ();have ty:Shared.TypeIs {ĕ7,ix Āq} Ħ "set":={_,N,()};have li:=F.called_set.init.lookup;have bi:=F.called_set.init.bind Ħ
   (repeat(any_goals(first|assumption|wp_step)));skip
   show A_ (YB (R:=wants (λr p=>r= .none/\∃h' tk,p=ĉr/\lX n kOf Āq h' s.heap.objs.size (AH key j.size)/\{ê,ģ=Û,ŵ=Û}) E) F.called_set.init.plain F.entry_set_init (check_set_init_1 ty ?_)) λB p m=>?_
   ·have((cl,V,dt,sl),e,O,P,S):=id W;simp only at O S;subst O;subst S;have X:{ćJ,ix Āq} l=Ù {Ċr,cond b "list" "tuple",V,ĂE j P,sl}:=d_ _ e;have s1:isSubtype {ů,cond b "list" "tuple"} ăQ=Ći:=by cases b;rw[ö,F.sub_tuple_set,F.sub_list_set]
    have s2:isSubtype {ů,cond b "list" "tuple"} {ů,"frozenset"}=Ći:=by cases b;rw[ö,F.sub_tuple_frozenset,F.sub_list_frozenset]
    have ne:{ă9,{ĂM,cond b "list" "tuple"},ĂM "dict"}:=by cases b<;>decide
    have C:vU b {Τ,ix Āq} l j:={_,X,(),P,()};have Y:∀(A:Around)(I t:Addr),āb->t≠I->Walks prog w A I [I,t] [I] j.size (λi v=>ì j=Ĕ) (λi h=>xD b h I t i/\vU b h t j):=by
     cases b
     ·show λA I t q r=>Walks.tuple q I t r j
     ·show λA I t q r=>Walks.list q I t r j
    unfold Builtin.«set.__init__»noKeywords Builtin.Frozenset.updateFrom;generalize H:pyIter=PI;wp_walk;subst H;rw[ç,Ii C ?_,a_ (wpAny_runValue ?_)];have lt:ăC l:=h_ e;have sz:{ĈM,ix Āq}=Ľ:=ďP;show KS n kOf Āq T ((Y A.in1.in1.in1 _ l (by simp[hh]) {Þ,sz,iA (z0 lt)}).toS) (a:=s.heap.objs.size) (by rw[sz];rw[ĢU,{iA (tA _),mu lt}]) key y z (j.size-0) 0 _ Ø (ku _) {{_,ge _ (),(),()},C.at λ_ e=>d_ _ e} ?f0 ?fR
    case f0=>have g:Ψ ({Τ,ix Āq}.push {ąS,ĘO b,#[ž,ąi]}).get?=ő ix Āq:=d_ _ N;show{_,#[],0,_,g,{(),(),()},(),λe Z=>by simp at Z,YG _,ß,ĕ,{ą,λ_=>i4.few (ku _)}}
    case fR=>intro(h',g',d',J,K)D f;obtain rfl:g'=s.gens:=D.gens;obtain rfl:d'=s.drawn:=D.drawn;obtain rfl:K=s.os:=D.os;change Ω _ _ _ _ _ _;show eN {ăI,_,_,ret Value.none,_,_,_,eN {(),h',J,(),f,λb o q=>?_}};have b1:ăC b:=h_ q;show D.heap b o (by rw[sz];rw[ĢU,{iA b1,iA (z0 b1)}]) (d_ _ (d_ _ q))
   ·cases B with|error e=>show m|ok x=>cases x with|ret r=>
      have((),h',tk,(),f,kk):=m
      (repeat(any_goals(first|assumption|wp_step)));show k _ _ f kk|_=>show m.elim
  |_=>show G.elim
omit e
section
variable{prog:Zu}{w:World}{A:Around}{E:Zq}{s:Shared}
def Md(hh:āb)(n:Āa iB a i u t)(hn:ĩ i.size)(p:ć Ąt->Ēe)(r:đD->Čg)(h:∀(h1:Heap)(f:Drawn)(tk:Nat)(d:Zt),{ďL,(i.toList.map (·.2))}->{ê,ģ=Û,ČQ=Û}->Ĉy h1.objs.size->Ė4 (ęe).get?=Ù ĞL->{ě1,A.in1.in1,Ģg {ŝ h1.objs.size,[]},λfin j=>∃v,fin= .done (.ret v)/\τ h1.objs.size j,E,Ĕs ęe f}):{ϡ,call ĊP Āe}:=by
 rw[ģq,Calls.call_function_entry kind_sorted plain_sorted entry_sorted (args_sorted1 _) ?_];rw[ç,{ϟ,checkCount "sorted" 1 1 _,eN ?_},a_ (Gf (A:=A.in1) hh n hn p r λh1 f tk d c k1 k=>?_)];have l:ćv i.size:=ĀU c.length_eq b_ lh
 show a_ {ĝX,?_,Þ l hn};have g:Ė4 (ęe).get?=Ù ĞL:=ge _ ();show a_ (n_ (o0 slot_list_sort (s:=(Ĕs ęe f)) {_,g,()} entry_list_sort {ā4,h h1 f tk d c k1 k g,λfin j x=>?_,đk} (args_list_sort _)));have(v,(),q):=x;show{v,(),eN {_,(),q}}
def F4{h1:Heap}{vs:Zt}{out:Zx}:{ê,ČQ=Û,(sortedHeap Ğp h1.objs.size vs out).get? b=Û}/\∃e,Ė4 (sortedHeap Ğp h1.objs.size vs out).get?={Ù,Đr out e}:=by have g:Ė4 (Ğp).get?=Ù ėg:=ge _ ();show{čA,sortedHeap_at g};have a:b<h1.objs.size:=h_ e;rw[ó,sortedHeap_old (iA a) {Þ,ol,z0 a},d_ _ e]
omit e
noncomputable def kOf:āL cJ|.int i _=>à i|.str x _=>ũ|_=>à 0
def NR(P:Zu)(w:World):∀(k:cJ)(v:Value),ķ (bp P w).is k v->kOf v=k:=λk v h=>{ĠD,dq h}
abbrev Dy(P:Zu)(w:World)(q:Addr)(b:Ăq):HO:= .ext λh=>lX (bp P w) kOf Āq h q b
theorem aU.drawn(I:aU X b e H s)(d:Drawn):aU X b e H {s with drawn:=d}:=(I.ok,I.os,I.bare,I.base,I.loc,I.cell,I.free,I.freeC,I.pin,I.hok,I.len,)
theorem Cy:∀{b:Zt}{d:Zv},ďn b d->bx ĂO b|_,_,.nil=> .nil|_,_,.cons x t h=>{ē,œ t,Cy h}
def RC(b:Bool)(K:Zp)(H:Hp)(p:Addr)(d:Ú):Prop:=cond b (aZ K H p d) (bj K H p d)
def aU.sqE{X:Cx}{e:Zr}{i:St}{H:Hp}{s:Shared}{b:Bool}{p:Addr}{g:Ú}(I:aU X e i H s)(h:RC b X.K H p g):∃d,bx g d/\āH vU b p d.toArray/\∀f,RC b X.K H p f->f=g:=by cases b with|false=>have(d,a,p,_):=ϝ h;show{d,a,p,λf q=>ĖV q h}|true=>have(d,a,p,_):=ZF h;show{d,a,p.isList,λf q=>I.list_inj q h}
section
variable{X:Cx}
def De{b:Bool}(hc:Ÿ):dN X ăQ (λj H Q=>{Ĝ7,j=ſ/\RC b X.K H p ĒD/\ğo/\∀q,H q=none->{τ,q,aJ H q {ċD,Dy,q,dd d}}}):=by
 intro k s B H j C Q I r h;have(p,d,(),t,l,q):=h;have(u,(),y):=gZ r;cases y;have(a,m,pl,D):=I.sqE t;have n:=m.length;rw[b_]at n;show FZ ĄV kOf (NR _ _) (key:=λi=>d.getD i (à 0)) ϭ pl (λi v c=>?_) (by rw[iq];unfold scanBound;lia) λh' tk f A=>?_
 ·have c:Ąo=Ĕ:=Ĉz
  rw[ā9,i<a.length,c];have(u,h1,h2):=m.get (i:=i) (x:=kV (d[i]'(o'12 n hi))) (by rw[g8,fx (o'12 n hi)];rfl);rw[c]at h1;cases h1;have e:d.getD i (à 0)=d[i]'(o'12 n hi):=by simp[List.getD,fx {ĈP,ĒF i,o'12 n hi}]
  rw[Ćq,{ķ,(ĄV).is,d.getD i (à 0),v}/\_,e,Hi,Q2 h2]
 ·rw[show ćj a.toArray.size by rw[ó,iq,n.symm],QQ]at f;show{Ħ,_,I.laid (h':=h') (t':=tk) (o:={ċD,Dy,s.heap.objs.size,dd d}) A (eH _) {f,?_,λh1 h2 g k2=>g.keep k2},(),q _ {ā3,eH _}};rw[Ĝ8,f.ex,(o,e,)]
def K9:dN X ĝu (λd H Q=>∃(p:Addr)(b:Ăq),d=ſ/\H p={Ù,ċD Dy p b}/\Ān 4096/\Q ĥQ H):=by
 intro a s l H d m Q I r h;have(p,b,(),c,hn,q):=h;have(u,(),g):=gZ r;cases g;have(f,_,_):=āY p c;have(o,i,n,t,e,ex,hd,_,pm,_,j,_):=f.ex;have k:Ām i.size:=ĉs pm.length_eq b_ lh
 rw[ϑ,call_len_set e ex hd j Ø {ã _,H,ź,ĸ,?_},k,q]
def Td(f:lX (bp P w) kOf led h a g):∃b d t,iB h a b d t/\b.size=g.length/\{ĝO,λe=>kOf e.2}.Perm g/\xt led t/\∀e∈b.toList,{ķ,sO,kOf e.2,e.2}:=by have(o,b,d,t,e,ex,hd,c,pm,_,i,j):=f.ex;show{b,d,t,{(o,e,ex.1,hd,),i},ĉs pm.length_eq b_ lh,pm,j,Ğ8};have((k,h1,_),_):=c x l;rw[ó,NR P w k ŕ h1,h1]
variable{P:Zu}{w:World}
def Bc(K:Zp)(e:X.K=K)(hc:Ÿ)(f:Ăy:=by rfl)(g:X.w=w:=by rfl):dN X ăQ (λh H Q=>{Ĝ7,h=ſ/\aZ K H p ĒD/\ğo/\∀q,H q=none->{τ,q,aJ H q (Dy P w q (dd d))}}):=by subst e;subst f;subst g;show De (b:=true) hc
def Bd(K:Zp)(e:X.K=K)(hc:Ÿ)(f:Ăy:=by rfl)(g:X.w=w:=by rfl):dN X ăQ (λh H Q=>{Ĝ7,h=ſ/\bj K H p ĒD/\ğo/\∀q,H q=none->{τ,q,aJ H q (Dy P w q (dd d))}}):=by subst e;subst f;subst g;show De (b:=false) hc
def tY(d:Ăy:=by rfl)(e:X.w=w:=by rfl):dN X ĝu (λf H Q=>∃(p:Addr)(b:Ăq),f=ſ/\H p={Ù,Dy P w p b}/\Ān 4096/\Q ĥQ H):=by subst d;rw[ŧ,K9]
omit e
section
variable{prog:Zu}{w:World}{A:Around}{E:Zq}{s:Shared}
def rq(a b:Str):Prop:=¬b.cps.toList<a.cps.toList
def Bx(g:ďn f z)(h:b.Perm (pairsOf f))(n:SortedToK strKind b (pairsOf f).size):∃d,ďn (b.map (·.2)).toList d/\ďL z/\Ğx rq:=by
 have(o,h1,h2,_):=sorted_out_str g h n;show{o,h1,h2,?_};have v:b.toList.Perm (f.zip f):={Ă,pairsOf_toList,Array.perm_iff_toList_perm.mp h}
 have a:∀p,p∈b.toList->ę=p.2/\ę∈f:=λp k=>mem_zip_self (v.mem_iff.mp k);have e:o={ĝO,λp=>strOf p.2}:=by rw[<-h1.strs,Array.toList_map,rr];rfl
 rw[e,List.pairwise_iff_getElem];intro i j hi B l;have m:Ĉ0 i:=ąQ
 have c:Ĉ0 j:=ĐJ
 have q:=n i j (w4 l) (Ă h.size_eq c);have(x,t,ex):=g.all _ (a b[i] Ü).2;have(y,u,r):=g.all _ (a b[j] Ü).2;rw[KK_str m (x:=x) (t:=t) (q:=b[i].2) (Prod.ext ex ()),KK_str c (x:=y) (t:=u) (q:=b[j].2) (Prod.ext r ())]at q
 change {ĉv,y.cps.toList<x.cps.toList} at q
 simp only[Y_,Array.getElem_toList];have C:strOf b[i].2=x:=by rw[<-(a b[i] Ü).1,ex];rfl
 have D:strOf b[j].2=y:=by rw[<-(a b[j] Ü).1,r];rfl
 unfold rq;rw[ý,C,D,y2 q]
def zt(hh:āb)(r:Āa iB a f R t)(u:f.size<64)(y:ć Ąt->Ēe)(B:đD->Čg)(C:∀e∈f.toList,∃x t,e.2=Ć8 x t)(h:∀(D:Addr)(h':Heap)(F:Drawn)(tk e:Nat)(out:Zt)(i:Zv),Ĉy D->{ê,ģ=Û,ŵ=Û}->ZU D={Ù,Đr out.toArray e}->ďn out i->i.Perm (f.toList.map λe=>strOf e.2)->i.Pairwise rq->{τ,D,Ĕs h' F}):{ϡ,call ĊP Āe}:=by
 show Md hh r (by rw[gg];lia) y B λh1 G tk c j k1 H g=>?_;have O:c.length=f.size:=ĀU j.length_eq b_ lh
 have k:{ďn,c,c.map strOf}:=strsAre_map c λv hm=>by have(e,I,()):={Ķ,j.mem_iff.mp hm};show C e I
 show list_sort_treeK strKind_oneLt g k.keysOf (λp q c5 e=>keyKind_strs (Ă e k)) Ø λd l m=>{_,(),?_};have(n,J,K,L):=Bx k l m;have(M,e,N):=F4 (h1:=h1) (vs:=c) (out:=(ď5 arrOf d));show h h1.objs.size _ G tk e ((arrOf d).map (·.2)).toList n H (λb o z=>M b o (k1 b o z)) ?_ J (K.trans ?_) L
 rw[Ĺ,Array.toArray_toList,N]
 ·rw[ĉy,j.map strOf,rr]
omit e
section
variable{X:Cx}
def Gj(hc:Ÿ):dN X ĊP (λj H Q=>∃(p:Addr)(b:Zv),j=ſ/\H p={Ù,ċD Dy p ĜK}/\b.length<64/\∀(q:Addr)(d:Zv),H q=none->ďL b->Ğx rq->{τ,q,ZZ q ĂO}):=by
 intro l s N H j O Q I r h;have(p,b,(),C,hn,q):=h;have(u,(),E):=gZ r;cases E;have(f,_,_):=āY p C;have(m,P,t,F,n,pm,v,G):=Td f;rw[b_]at n;have A:∀e∈m.toList,∃x t,e.2=Ć8 x t:=λe c=>by
  have hm:kOf e.2∈ĜK:=pm.mem_iff.mp {ăa,{e,c,()}};have(x,_,a):=Ķ hm;rcases dq (G e c)with⟨i,t,h1,h2⟩|⟨y,t,h1,h2⟩
  ·rw[h1]at a;cases a
  ·show(y,t,h2,)
 show zt ϭ F Ø (λz=>by rw[v.led,z];rfl) v.up A λD h' J tk e out d B K g sa sp L=>?_;have sl:Ām d.length:=by rw[sp.length_eq,b_,lh,n]
 have ex:(m.toList.map λe=>strOf e.2).Perm b:=by
  have h1:=pm.map (λk:cJ=>Ěb x {#[]});rw[rr,rr]at h1;have M:{Ϯ,(λk:cJ=>Ěb x {#[]})∘Sum.inr}=b:=Ē {ċB,(λk:cJ=>Ěb x {#[]})∘Sum.inr,id} List.map_id
  rw[M]at h1;show{è,List.Perm.of_eq (z4 λe c=>?_),h1};have(x,t,a):=A e c;rw[a];rw[ż,strOf (Ć8 x t)=(match kOf e.2 with|.inr x=>x|.inl _=>ώ {#[]}),a];rfl
 show{Ćy,_,(I.drawn J).laid (h':=h') (t':=tk) (o:=(ø ĂO)) K B {?_,out,e,Cy sa,g},(),q D d (ā3 B) (sp.trans ex) L};rw[b_,sl,gg];lia
def Eo(hc:Ÿ)(e:Ăy:=by rfl)(f:X.w=w:=by rfl):dN X ĊP (λg H Q=>∃(p:Addr)(b:Zv),g=ſ/\H p={Ù,Dy P w p ĜK}/\b.length<64/\∀(q:Addr)(d:Zv),H q=none->ďL b->Ğx rq->{τ,q,ZZ q ĂO}):=by subst e;subst f;show Gj hc
omit e
omit L2
namespace L2
open PySem PySem.W PyProof.Rows
def F2(x:Value)(e:Addr)(h:Heap):Prop:=∃o a,Ă6 e=Û/\ēn a/\a[2]?=ù
def XA(f:Obj->Obj):Prop:=∀o b x,ēn b->b[2]?=ù->∃a,(f o).data=ć0 a/\a[2]?=ù
theorem F2.push{x:Value}{e:Addr}{h:Heap}(q:F2 x e h)(o:Obj):F2 x e (h.push o):=by have(u,d,a,b,c):=q;show{u,d,d_ _ a,b,c}
def F2.upd{x:Value}{e a:Addr}{h:Heap}{f:Obj->Obj}(q:F2 x e h)(k:XA f):F2 x e (h.update a f):=by
 have(u,g,p,b,c):=q
 by_cases z:a=e
 ·subst z;have(i,d,r):=k u g x b c;show{f u,i,qx f p (Yx d),d,r}
 ·show{u,g,{è,pw _ f z,p},b,c}
inductive py{α:Type}:{Ĵ,Sem α}|pure(a:α):py (ća a)|raise(e:Value):py (.raise e)|uns(w:String):py (.unsupported w)|rule{t:String}{k:Unit->Sem α}(h:py (k Unit.unit)):py (.rule t k)|load{a:Addr}{p:ĳ}{k:Obj->Sem α}(h:∀o,py (k o)):py (.load a p k)|update{a:Addr}{p:ĳ}{f:Obj->Obj}{k:Unit->Sem α}(q:XA f)(h:py (k Unit.unit)):py (.update a p f k)|alloc{o:Obj}{k:Addr->Sem α}(h:∀a,py (k a)):py (.alloc o k)|reg{a:Addr}{k:Unit->Sem α}:py (.register a k)|stack{k:Ąs Code Pos->Sem α}(h:∀l,py (k l)):py (.stack k)
def py.bind{d g:Type}{m:Sem d}{f:d->Sem g}(h:py m)(q:∀a,py (f a)):py (m>>=f):=by induction h with|pure a=>show q a|raise e=>show .raise e|uns w=>show .uns w|rule _ b=>show .rule b|load _ b=>show .load b|update k _ b=>show .update k b|alloc _ b=>show .alloc b|reg=>show .reg|stack _ b=>show .stack b
theorem py.wp{d:Type}{M:Model}{Γ:Ctx}{g:Value}{e:Addr}{t:Sem d}(h:py t):∀{Q:d->Pos->Ĝ}{E:{āL,Pos->Ĝ}}{p:Pos}{s:Shared},Sem.wp M Γ t (λa j i=>F2 g e i.heap->Q a j i) E p s->Ċe g->Sem.wp M Γ t Q E p s:=by induction h with|pure a=>rw[ďH,x f]|raise e=>rw[ďH,x]|uns w=>intro Q E p s x f;rw[Sem.wp]at x;show x.elim|rule _ b=>rw[ďH,b x f]|load _ b=>rw[ĠB];have(o,a,x):=x;show{o,a,b o x f}|update k _ b=>rw[ďH,{ï,b ŕ (f.upd k)}]|alloc _ b=>rw[ďH,b _ x (f.push _)]|reg=>intro Q E p s x f;rw[Sem.wp]at x;show x.elim|stack _ b=>rw[ďH,b _ x f]
def py.any{b:Type}{M:Model}{A:Around}{x0:Value}{e:Addr}{t:Sem b}{Q:b->Ĝ}{E:Zq}{s:Shared}(h:py t)(f:Ċe x0)(x:{ăG,M,t,λa d=>F2 x0 e d.heap->Q a d}):ĀM M t:=λΓ p q=>h.wp (x Γ p q) f
def py.ite{d:Type}{c:Prop}[ăS c]{a b:Sem d}(h:py a)(k:py b):py (đ7 a b):=by
 split
 ·show h
 ·show k
def qX(v:Value)(i:Nat):py (field v i):=by
 unfold field fieldsOf;show .bind ?_ λa=>?_
 ·cases v<;>first|show .uns _|skip;show .bind (.load λo=>ća o) λo=>?_;cases o.data<;>first|show .uns _|show āj
 ·cases Ąo<;>first|show .uns _|show āj
def QZ{i:Nat}{x:Value}(h:i≠2):XA (Obj.mapFields (·.setIfInBounds i x)):=λo a y d c=>{_,T_ d _,{Þ,Array.getElem?_setIfInBounds_ne h,c}}
def oJ(v:Value){i:Nat}(x:Value)(h:i≠2):py (setField v i x):=by unfold setField;cases v<;>first|show .uns _|skip;unfold updateField;show .bind (.load λo=>ća o) λo=>?_;cases o.data<;>first|show .uns _|skip;show .ite (.update (QZ h) āj) (.uns _)
def KC(l:ς):py (readyFrames l):=by induction l with|nil=>show āj|cons env outer a=>unfold readyFrames;cases env.frame with|none=>show .uns _|some f=>
   rw[ĭ,.bind (.load λo=>ća o) λo=> .ite āj ?_,.bind ?_ λb=> .bind ?_ λc=>{ąY,.update (λo e y d c=>(e,d,c,)) āj,a}]
   ·unfold behindIsImport;show .ite āj (.ite āj {ďY,qX _ _})
   ·unfold keptBack;cases outer with|nil=>show .ite āj {ďY,{ďY,.stack λl=>ća l}}|cons=>show āj
def FW(env:Env):py (PySem.frameOf env):=by
 unfold PySem.frameOf frameEnvs;show .bind {ďY,.stack λl=>ća l} λl=> .bind ?_ λx=>?_
 ·generalize List.dropWhile _ l=c;cases c with|nil=>show āj|cons a b=>show {ďY,KC _}
 ·cases x<;>first|show .uns _|show āj
def Cb(ty:String)(b:Zt):py (newFields ty b):=by have k:py (newObjAsIs (ů ty) (ć0 b.toArray)):={ďY,.alloc λa=>ća a};unfold newFields newObj;show .ite {ąY,.uns _,k} k
def KD(f:Addr)(b:Bool):py (entryPlaceOf f b):=by
 unfold entryPlaceOf;show .bind (.stack λl=>ća l) λl=>?_
 split<;>show āj
def oK(e:Value)(f:ă3):py (setFlight e f):={ąY,qX _ _,.ite (oJ _ _ ß) āj}
def FV(e:Value)(env:Env):py (Ēv e env):=by unfold noteFrame;cases env.frame with|none=>show .uns _|some f=>
  have k:∀h:Value,py (do let a<-PySem.frameOf env;let pl<-entryPlaceOf f (h != .none);let b<-EntryCells.newEntry h a .none (ćT f) .none pl;setField e 1 b):=λh=>{ąY,FW _,{ąY,KD _ _,{ąY,Cb _ _,oJ _ _ ß}}}
  show .bind (qX _ _) λh=> .ite {ąY,qX _ _,.ite āj {ąY,oJ _ _ ß,k h}} (k h)
def qy(env:Env)(e:Value):py (ĉx env e):={ąY,FV _ _,oK _ _}
section
variable{M:Model}{A:Around}{E:Zq}{s:Shared}{base:Heap}{env:Env}{outer l:ς}{L e:Addr}{cls i g:Value}{Q:Unit->Ĝ}
def Ho(d:ĘZ)(j:ĒS L)(h:Ċ7 ċd e i s.heap)(f:Ċe g)(m:∀h',Ċ7 outer e i h'->ČK->F2 g e h'->ďu):{ĀM,M,ĉx env ąa}:=(qy _ _).any f (wpAny_leaves_onW d j h λh' a b c=>m h' a b c)
def D8{h:Heap}{j:Zt}(m:ĘZ)(p:ĒS L)(n:base.StaysIn h)(q:ĖX base ċd)(o:Heap.MadeExcOf h s.heap e cls j)(r:∀h' t,Ċ7 outer e ľ h'->h'.TupAt t j->ėm t=none->ČK->F2 .none e h'->ďu):{ĀM,M,ĉx env ąa}:=by show(qy _ _).any (x0:= .none) (e:=e) ?_ (wpAny_leaves_madeW m p n q o λh' t a b c d f=>r h' t a b c d f);have(t,a,_):=o.there;show{_,_,a,(),()}
def CS(d:ĘZ)(j:ĒS L)(h:Ċ7 ċd e i s.heap)(f:Ċe g)(m:∀h',Heap.HeldW base ċd e cls i L h'->ČK->F2 g e h'->ďu):{ĀM,M,Ε noteFrame e env}:=(FV _ _).any f (wpAny_looks_onW d j h λh' a b c=>m h' a b c)
def TZ(hh:Heap.HeldW base l e cls i L s.heap)(f:Ċe g)(d:∀h',Ċ7 l e i h'->ČK->F2 g e h'->ďu):{ĀM,M,Ğj e none}:=(oK _ _).any f (wpAny_landsW hh λh' a b c=>d h' a b c)
def UD(hh:Ċ7 l e i s.heap)(f:Ċe g)(d:∀h',Ċ7 l e i h'->ČK->F2 g e h'->ďu):{ĀM,M,Ğj e none}:=(oK _ _).any f (lands_againW hh λh' a b c=>d h' a b c)
omit e
def Vc(x:Value)(P:Zu)(w:World):Cs:=λouter H s E e a=>∃(d:Addr)(C:Value)(B:Heap)(t:Addr)(c:Hp),e=Āv/\a.os=s.os/\ĄW a.gens/\ĂB Un Ϩ [] H c a.heap/\pz P w c a.heap/\Đv B outer d C ľ a.heap/\{ê,c b=Û,∃u,ZP=ð}/\{ê,ģ=Û,b∉Ϩ->∃u,ZP=ð}/\ĎO C c/\F2 x d a.heap
abbrev lA(P:Zu)(w:World):Cs:=Vc .none P w
def vC(h:ĒS L):iE (env::l)=L::iE l:=by unfold iE;rw[y0,h]
def pz.flown{P:Zu}{w:World}{H:Hp}{h h' B:Heap}(x:pz P w H h)(c:{ê,H b=Û,∃u,ZP=ð})(k:ċm h)(m:ċm h'):pz P w H h':=λa o e=>(x a o e).stay (λb u d q=>by
  obtain⟨f,g⟩:∃f,H b=some f:=by
   have()||d:=d
   ·show{_,e}
   ·show{_,d}
  have(v,i):=c b f g;have j:=k b v i;rw[q]at j;cases j;show m b _ i) ĈZ Ăd
section
variable{P:Zu}{w:World}{K:Zp}{mg:Zs}{base:Heap}{N:Zv}{d:Str}{scope:Scope}{f:Addr}{cd:Value}{A:Around}{outer:ς}{g:Shared}{h:Hp}{E:XK}
def aS{x:Value}{W:ĳ}:fZ (Vc x P w) (A9 W (Vc x P w) P w K mg base N d scope f cd A outer g h E) E:=by
 intro R σ H s e J I(L,C,B,t,S,(),os,bare,un,hok,r,m,c,q,f2);have v:(Ć3 d f).frame=Ěy:=();have y:iE āU=ěs Ϩ:=vC v;have j:Un Ϩ [] h H g.heap s.heap:=I.base;have un:{ĂB,Un,iE āU,[],H,S,J.heap}:=un;have c:{ê,ģ=Û,b∉iE āU->∃u,ZP=ð}:=c;have r:Đv B āU L C ľ J.heap:=r;have z:{ê,Ă1=Û,b∉Ϩ->b∉iE āU}:=λb o e a hm=>by
  rw[Ĝo,y,Ű hm]
  ·rw[Ā,h_ e,nk _]
  ·show a hm
 have p:{ê,Ă1=Û,b∉Ϩ->∃u,ZP=ð}:=λb o e a=>by have(M,i):=j.there b o e Ü;show c b M i (z b o e a)
 change Ω Ąa {ĂY,Ć3 d f} {ĉx,Ć3 d f,â L} _ _ J;rw[ç,Ho (outer:=outer) I.ok.frames v r f2 λh' k up O=>?_,{L,C,B,t,S,(),os.trans I.os,bare,?_,hok.flown m r.1 k.1,k,m,p,q,O}];rw[ĕc,{ê,Ă1=Û,h b=none->b∈Ϩ->∃sl,ŵ=ČD},by
  have(sl,i):=j.slot b o e n a Ü;have n1:=j.free b o e n Ü;have(V,D):=un.slot b _ i n1 {Þ,y,fy _ a} Ü;have(_,T,l,hd):=đ5 a;have:T=o:=by have l:Ă1=Ù T:=l;rw[e]at l;show ĆF l
  subst this;have(Q,F):=up b _ D hd;show(Q,F,)]
 show{ĐL,ėy slot b o e n a,Ĥ2,đ1,λb U e=>un.tups b U (j.tups b U e),λb o u e=>un.frzs b o u (j.frzs b o u e),λb X e=>?_}
 ·have i:=j.keep b o e n a Ü;have n1:=j.free b o e n Ü;have D:=un.keep b o i n1 (z b o e a) Ü;have(u,G):=p b o e a;have F:=r.1 b u G;rw[D]at F;rw[ā,F,k.1 b _ G]
 ·have(M,i):=j.there b o e Ü;show un.free b M i (j.free b o e n Ü) Ü
 ·rw[ďN,b,Ϩ]
  ·have n:h b=none:=ēb b a;have(sl,i):=slot b o e n a;show{_,i}
  ·rw[ēv,p b o e a,{u,k.1 b u G}]
 ·have(Y,i):=j.tbls b X e;have(Z,D):=un.tbls b _ i;show{Y++Z,Ē D X1}
omit e
def d7.held{P:Zu}{w:World}{H:Hp}{h:Heap}{a:Addr}{o:HO}(x:d7 P w H h a o):∃u,ω=ð:=by cases o with|lst c=>have(_,_,_,_,e):=x;show{_,e}|tup c=>have(_,_,_,_,e,_):=x;show{_,e}|dK b=>rw[ĔB];show{_,e}|dT b=>rw[ĔB];show{_,e}|set S n=>rw[Ĝ8,x,{_,e}]|ins C dx fs=>have(_,_,_,e,_):=x;show{_,e}|own y=>show x|xd fs=>rw[ĥq];show{_,e}|rng lo hi=>have(_,_,_,e):=x;show{_,e}|frz ob u=>show{_,ï}|tbl d=>show{_,{Ĩ,ω,Ù _,x}}|met f y=>show{_,{Ĩ,ω,Ù _,x}}|ext φ=>show ąo
def OU(X:Cx)(E:XK):Prop:=∀(a:Zr)(c:St)(H:Hp)(s:Shared)(C:Value)(d:Zt)(h':Heap)(b:Addr),aU X a c H s->Āa Heap.MadeExcOf h' b C d->ĎO C H->Ε X.xe b Χ
section
variable{P:Zu}{w:World}{K:Zp}{mg:Zs}{base:Heap}{N:Zv}{d:Str}{scope:Scope}{f:Addr}{cd:Value}{A:Around}{outer:ς}{g:Shared}{i:Hp}{E:XK}
def pY:OU (Ce (lA P w) P w K mg base N d scope f cd A outer g i E) E:=by
 intro M W H s C X h' O I Q q;have m:(Ć3 d f).frame=Ěy:=();have z:iE āU=ěs Ϩ:=vC m;have k:Un Ϩ [] i H g.heap s.heap:=I.base;have p:{ê,Ă1=Û,b∉Ϩ->b∉iE āU}:=λb o e a hm=>by
  rw[Ĝo,z,Ű hm]
  ·rw[Ā,h_ e,nk _]
  ·show a hm
 generalize D:{ČY,hideAll,iE āU}=B;have l:∀{b o},ģ=Û->b∉iE āU->ZP=Û:=λe a=>{Ă,D,hideAll_get _ e a}
 have r:čt B.StaysIn:=λb o e=>by rw[<-D]at e;show of_hideAll _ e
 have fr:ĊI B āU:={Ă,D,funFrames_hide (base:=base) I.stack λenv S b a=>XX.mpr (env,S,a,)}
 have v:{ê,Ă1=Û,b∉Ϩ->∃u,ZP=ð}:=λb o e a=>by have(T,x):=k.there b o e Ü;show{T,l x (p b o e a)}
 have j:{ê,H b=Û,∃u,ZP=ð}:=λb o e=>by have(u,F):=(čl b o e).held;show{u,l F λhm=>by have n:H b=none:=I.stkFree b hm;rw[e]at n;cases n}
 change Ω Ąa {ĂY,Ć3 d f} {ĉx,Ć3 d f,â O} _ _ _;rw[ç,D8 (outer:=outer) (h:=s.heap) I.ok.frames m r fr Q λG t y tup _ up J=>?_,{O,C,B,t,H,(),I.os,I.bare,?_,I.hok.flown j r Ć,y,j,v,q,J}];rw[ĕc,{ê,Ă1=Û,i b=none->b∈Ϩ->∃sl,G.get? b=ČD},by
  have(sl,x):=k.slot b o e n a Ü;have U:=Q.keeps _ _ x;have(_,R,c,hd):=đ5 a;have:R=o:=by have c:Ă1=Ù R:=c;rw[e]at c;show ĆF c
  subst this;have(L,V):=up b _ U hd;show(L,V,)]
 show{ĐL,ėy slot b o e n a,λb o e n _=>k.free b o e n Ü,đ1,k.tups,k.frzs,k.tbls}
 ·show Ć b o (l (k.keep b o e n a Ü) (p b o e a))
 ·rw[ďN,b,Ϩ]
  ·have(sl,x):=slot b o e (ēb b a) a;show{_,x}
  ·have(u,F):=v b o e a;show{u,Ć b u F}
omit e
noncomputable def Dt:ĉe:=[ć3,ĤV,ĐB,ĕT]
def zf(K:Zp)(C:Addr):Prop:={î,excIn K C Dt "ValueError.__new__"}
inductive ExL(h:Heap)(C:Addr):Prop|mk(bm:Zt)(N:Addr)(nm q:Str)(bs:Zt)(hd:Bool)(sn:Zv)(sub:Zt)(ab:Bool)(col:ŭ Bool)(dd:ă3)(k0 k1 k2 k3 k5:ĳ)(mN:Zs)(hC:Ă6 C={Ù,excClassObj nm q C N bs bm hd sn sub ab col dd k0 k1 k2 k3 k5 "ValueError.__new__"})(hN:h.Ns N mN)(hi:mN "__init__"=none)(T:OwnTail h Dt bm):ExL h C
def UX{P:Prop}(x:î false):P:=ť x hH
def Wu{f:Addr->ĉe->ĳ->ĳ->ĳ->ĳ->String->Ās ĳ}{P:Prop}{p:Zt}{r:ĉ ĳ}(q:∀a b k0 k1 k2 d n g,p=ô::b->r=[k0,k1,k2,d,Ą0 n,g]->{î,f a b k0 k1 k2 d n g}->P)(m:Zt)(l:ĉ ĳ)(e:p=m)(h:r=l)(x:{î,excIn.match_1 (λ_ _=>Bool) m l f (λ_ _=>false)}):P:=by cases m with|nil=>show UX x|cons v b=>
 cases v with|ref a=>
   have _||(k0,_||(k1,_||(k2,_||(d,_||(_||v,c))))):=l
   case cons.cons.cons.cons.cons.some=>
 cases v with|builtin n=>
     have _||(g,_||_):=c
     ·show UX x
     ·show q a b k0 k1 k2 d n g e h x
     ·show UX x|_=>show UX x
   all_goals show UX x|_=>show UX x
set_option tactic.hygienic true in
theorem zf.at{K:Zp}{C:Addr}{h:Heap}(kin:K.In h)(x:zf K C):ExL h C:=by
 unfold zf excIn at x
 split at x
 ·rename_i dd c sl look;have(nm,bs,i,ns,j,hd,k,sub,m,d,dl):=c;rcases sl with⟨l⟩;show Wu (λa o k0 k1 k2 p n q r s x=>?_) _ _ () () x;simp only[k_,YP,Bool.not_eq_true']at x;have(((((t,u),e),f),b),g):=x;subst r s t u e;show{o,ns,nm,j,bs,hd,k,sub,m,d,dd,k0,k1,k2,p,q,_,kin _ _ look,.of_isNs (isNs_of_in kin b),nsMap_none_of_in kin b g,tail_of_in kin f}
 ·cases x
def SB(C:Addr)(E:XK)(t:TA):TS:=λ_ a H=>t a H λb c=>ċ6/\ĎO ŋ c
def qb{X:Cx}{C:Addr}{E:XK}{x:Str}{Q d i:Pos}{e:Expr}{f:Zw}{t:TA}(R:zf X.K C)(hg:Gl X x)(hm:ās=í C)(hc:Ÿ)(S:OU X E)(W:PA X (e::f) t)(j:Āx:=by decide)(u:ąq f=āw::Υ f:=by rfl)(n:Ćt d f:=by rfl):PS X {ĒK,.Raise,Ù {āc,Ăl Q,e::f,d},i} (SB C E t):=by
 intro a s v H D I h;have(w,N,nm,q,bs,hd,y,sub,A,c,dd,k0,k1,k2,B,G,J,P,U,k,T):=Ē6 R.at;show wpAny_Raise_call_subT (C:=C) (N:=N) (bm:=w) (mN:=J) (bmB:=Dt) (newId:="ValueError.__new__") (nm:=nm) (q:=q) (bs:=bs) (hdct:=hd) (sn:=y) (sub:=sub) (ab:=A) (col:=c) (dd:=dd) (k0:=k0) (k1:=k1) (k2:=k2) (k3:=B) (k5:=G) PySem.F.excBase_ValueError ěC ϭ ?_ k (qW I hg hm āO j)
 ·rw[u];rw[ż,{ć,(false||(backTo d (starEach f X.env)).any (·.1))},n];rfl
 ·have g:=W d a s v H _ I h;rw[u]at g⊢;show x4 (cz g λM O Y=>?_);have(vs,Z,I1,r,z,q1):=Y;have p:{ê,Đ5=Û,O.heap.get? b=Û}:=I1.bk;show{(),by change M.length<=_;rw[π,r.length,z],p _ _ P,U.keeps p,T.keeps p,λh' ea m=>S a v Z O ŋ M h' ea I1 m q1}
def Un.flown{fs:Zz}{H j:Hp}{h1 h' f B:Heap}(un:Un fs [] H j h1 h')(d:{ê,ČQ=Û,b∉fs->∃u,ZP=ð})(k:ċm h')(m:ċm f)(up:h'.UpToSlots f)(fr:∀b∈fs,H b=none/\∀o,ČQ=Û->∀p,ēr p):Un fs [] H j h1 f:=by
 rw[ĕc,{ê,ČQ=Û,H b=none->b∈fs->∃sl,f.get? b=ČD},by have(sl,h):=un.slot b o e n a Ü;have(i,c):=up b _ h ((fr b a).2 o e);show(i,c,)]
 show{λb o e n a l=>?_,ėy slot b o e n a,un.free,đ1,un.tups,un.frzs,un.tbls}
 ·have q:=un.keep b o e n a l;have(u,g):=d b o e a;rw[ę8,k b u g,q];rw[ā,c,m b _ g]
 ·rw[ďN,b,fs]
  ·have(sl,h):=slot b o e (fr b a).1 a;show{_,h}
  ·have(u,g):=d b o e a;show{u,m b u g}
abbrev Cx.inExc(X:Cx)(b:Addr):Cx:={X with A:=X.A.mark (í b),calm:=false,xe:=Ā2}
section
variable{X:Cx}{b:Zr}{e:St}{H:Hp}{s:Shared}{d:Addr}
theorem Cx.Ok.inExc(ok:X.Ok)(d:Addr):(ĘS).Ok:={ok.mod,ok.kind,ok.glob,ok.blt,ok.above,ok.inj,ok.has,ok.cab,ϳ Ü,ok.frames,ok.stk,ok.exf,ok.bs,ok.bsz,ok.noex,ok.exfs,ok.funs,ok.frf}
theorem aU.inExc(I:aU X b e H s)(d:Addr):aU ĘS b e H s:={I.ok.inExc d,I.os,I.bare,I.base,I.loc,I.cell,I.free,I.freeC,I.pin,I.hok,I.len}
def aU.outExc(ok:X.Ok)(I:aU ĘS b e H s):aU X b e H s:=(ok,I.os,I.bare,I.base,I.loc,I.cell,I.free,I.freeC,I.pin,I.hok,I.len,)
theorem SP.outExc(ok:X.Ok)(h:SP ĘS b D f g):SP X b D f g:=by cases f with|next=>rw[čG,h,{a,c,Ęo ok,q}]|brk=>rw[čG,h,{a,c,Ęo ok,q}]|cont=>rw[čG,h,{a,c,Ęo ok,q}]|ret u=>have(v,a,c,I,r,q):=h;show{v,a,c,Ęo ok,r,q}
omit e
def nM(d:Cs)(X:Cx)(E:XK)(b:Zr)(f:St):Prop:=∀(H:Hp)(s:Shared)(e:Value)(a:Shared),aU X b f H s->d X.stack H s E e a->X.xe e a
def WG(X:Cx)(b:Zr)(d:St)(e:Expr)(t:TE):Prop:=∀(s:Shared)(H:Hp)(Q:VK),aU X b d H s->t d H Q->{ű,Čx,EP X b d Q}
def UK(X:Cx)(b:Zr)(d:St)(st:Stmt)(t:TS):Prop:={ģz,aU X b d H s,t D d H->{ű,Āi exec st,SP X b D}}
structure O1(cx:Value)(X:Cx)(pins:Zr)(σ:St)(ea:Addr)(C':Value)(H':Hp)(s:Shared):Prop where
 inv:aU X pins σ H' s
 fly:∃(B:Heap)(t:Addr),(Đv B X.stack ea C' ľ s.heap/\ěM cx ea)/\∀h6,ċm h6->ğD h6->aU X pins σ H' {s with heap:=h6}nh:H' ea=none
 src:∃(H1:Hp)(s1:Shared),aU X pins σ H1 s1/\s1.heap.get? ea=none
def O1.run{m:Value}{X:Cx}{d:Zr}{g:St}{e:Addr}{n:Value}{h:Hp}{s:Shared}{D:jx}{b:ă2}{th:TS}{A:Around}{j:Flow->Ĝ}{o p:Zq}(L:O1 m X d g e n h s)(hh:∀e,yo (ĖQ e) b th)(i:th D g h)(q:∀f s,SP X d D f s->j f s):{Ĉw,Ϣ,Ğj e none,λ_ s₁=>{Ω,Ϣ,X.A.mark (í e),Āi execs b,j,o,s₁},p}:=by have(B,t,(l,f2),k):=L.fly;show lands_againW l λr a c=>{ĉ3,hh e d _ g h D ((k r a.1 c).inExc e) i,λf u z=>q f u (z.outExc L.inv.ok),z.elim}
def O1.obj{f:Value}{X:Cx}{b:Zr}{g:St}{d:Addr}{e:Value}{h:Hp}{s:Shared}(L:O1 f X b g d e h s):∃o,ε d=Û/\ăm e:=by have(B,t,(a,f2),k):=L.fly;show a.there
def UM(X:Cx)(b:Zr)(d:St)(bs:ă2)(t:TS):Prop:={ģz,aU X b d H s,t D d H->{ű,Āi execs bs,SP X b D}}
def MS{X:Cx}{b:Zr}{d:St}{st:Stmt}{t:TS}(h:UK X b d st t):UM X b d [st] t:=λs H D I q=>Y7 (cz (h s H D I q) λf a z=>by cases f with|next=>show XN z|ret v=>show z|brk=>show z|cont=>show z)
def EL{S:Value}{X:Cx}{bs:ă2}{h0:ExceptHandler}{T:ĉ ExceptHandler}{Z:XK->TS}{R:ĀP Value}{W:Pos}{d:Zr}{s:Shared}{j:St}{H:Hp}{D:jx}(n:ĉw)(F:ĉD)(Q:∀(E:XK)(d:Zr)(j:St)(Xe:Zq),nM (Vc S X.prog X.w) ėH E d j->UM ėH d j bs (Z E))(I:aU X d j H s)(h:Z (λm _ i=>R m i) D j H)(hc:∀g m i s5,R m i->O1 S X d j g m i s5->{ăc,handleBy č1 X.env (h0::T),SP X d D,s5}):{ű,{Āi,exec,.Try bs (h0::T) [] [] W},SP X d D}:=by
 show wpAny_Try_except ?_;have hp:nM (Vc S X.prog X.w) {Ď1,λe s₁=>{ăc,Āi noteFrame e,λ_ G=>{ăc,setFlight e none,λ_ J=>{ăc,handleBy e X.env (h0::T),SP X d D,J},G},s₁}} (λm _ i=>R m i) d j:=by
  intro P p e q I1(g,m,B,t,i,(),os,bare,un,hok,r,c,a,U,f2);have I1:=I1.unwish;have un:Un ĀS [] P i p.heap q.heap:=un;have r:Đv B X.stack g m ľ q.heap:=r;have a:{ê,Ėv b=Û,b∉ĀS->∃u,ZP=ð}:=a;have x:∀b∈ĀS,P b=none/\∀o,Ėv b=Û->∀V,ēr V:=λb Q=>by show{I1.stkFree b Q,λo e=>?_};have(_,o',K,hd):=I1.stack.mem Q;rw[e]at K;rw[ā,K,hd]
  have nB:{ār,ZP=ð,ú g}:=ĞD z r.2.1 e
  have nh:i g=none:=by cases z:i g with|none=>rfl|some o=>rw[ąt,nB _ _ (c _ _ z).choose_spec]
  have nw:Ėv g=none:=by cases z:Ėv g with|none=>rfl|some o=>
    by_cases F:g∈ĀS
    ·have(sl,e1):=un.slot g o z (x g F).1 F (n6);have(_,_,_,oe,V,_,_,_,he,_,hd,_):=r;rw[he]at e1;rw[ā,e1,{ť,hd,(x g F).2 o z V}]
    ·rw[ąt,nB _ _ (a _ _ z F).choose_spec]
  have l:∀y,ċm y->q.heap.UpToSlots y->aU X d j i ģA:=λy k up=>I1.call' (s':=ģA) (ch:=[]) os (un.flown a r.1 k up x) (hok.flown c r.1 k) bare (Ďz z Ü)
  change {ăc,Āi noteFrame č1,_,q};have L:=r;rw[n]at L;rw[ö,CS (outer:=X.outer) (Ē I.ok.frames n) F L f2 λh4 C M f4=>?_,TZ C f4 λy N O f5=>hc g m i _ U {l y N.1 (M.trans O),{B,t,{Þ n N,f5},λh6 k6 Y=>l h6 k6 {è,M.trans O,Y}},nh,P,p,I1,nw}]
 show {ĉ3,Q _ d j _ hp s H D (I.wish _) h,λf p z=>?_,z};have z:=z.unwish;cases f with|next=>show XN z|ret v=>show z|brk=>show z|cont=>show z
section
variable{J:ĳ}{X:Cx}{L:Cs}{k:Nat}{f C:Addr}{fd:FuncData}{G:Zv}{sp:Sp}{i:Ú}{ds:Zt}{E:XK}{m:Str}{d j:Pos}{e o:Expr}{B:Zw}{M:TE}{t:TA}{b:Zr}{n:St}
def Tf{H:Hp}{s:Shared}{Q:VK}{us:Zt}{vs:Ú}(F:nN J X.prog X.w X.K X.mg X.base L k f fd G sp)(g:gi J k X.A)(q:iD X.K fd G ds)(hd:bx i ds)(y:nM L X E b n)(I:aU X b n H s)(r:bx vs us)(h:sp (vs++i) H Q E):{ű,Ε call f us,EP X b n Q}:=by
 have a:bx (vs++i) (us++ds):=Ďx hd;have len:Ļ us ds=G.length:=a.length▸F.len _ _ _ _ h;show Yg (A_ (F.run X.A X.stack s H {us,[]} (us++ds) (vs++i) Q E g I.env0 (q s us I.kIn len) a h) λc l z=>?_);have ex||v:=c
 ·show y H s ex l I z
 ·cases v with|ret u=>show I.after z|next=>cases z|brk=>cases z|cont=>cases z
def IQ{pl:Sem Bool}(R:PE X o M)(c:Ds X.K C)(hm:O0 X.K C m f)(F:nN J X.prog X.w X.K X.mg X.base L k f fd G sp)(S:gi J k X.A)(T:iD X.K fd G ds)(hd:bx i ds)(Z:nM L X E b n)(ha:PA X (e::B) t)(y:ąq B=āw::Υ B:=by rfl)(z:Ćt d B:=by rfl)(ht:ā0 {ĂG,m,j,e::B,d}=(do
   let obj<-ą2
   ĎM j.atName let(g,first)<-{Ĉl,[obj],ē7 obj m pl}callWith d g first {ăT,d,e::B} (Č1 d)):=by rfl):WG X b n {ĂG,m,j,e::B,d} (LE C m sp i E M t):=by intro s H Q I h;show {Ěv,pl,cz (R b s n H _ I h) λu U⟨v,Y,I1,rv,a,dx,fs,ev,ea,l,q⟩=>?_,ht};subst ev;rw[ćY,rv];rw[ö,tR I1 ea c hm l (PySem.W.callWith_K (first:=Āe) (h₀:=X.base) I.ok.mod.kin hm.kp (cz (ha d b U n Y _ I1 q) λN s2⟨O,H2,P,r,q2⟩=>{P.kIn,?_}) y z),Tf (us:=ô::N) (vs:=ô::O) F S T hd Z P {ē,(),r} q2]
def Jg(g:WG X b n e te)(q:ćF e none d.line=Ći:=by rfl):UK X b n (.Expr e d) (LF te):=by intro s H D I h;show wpAny_Expr_any (cz (g s H _ I h) λv l⟨y,a,I1,r,c⟩=>(n,a,I1,c,)) I.quiet q
omit e
theorem PS.nox{X:Cx}{st:Stmt}{t:TS}(h:PS X.nox st t):PS X st t:=λa s b H D I c=>{ĉ3,h a s b H D (I.wish _) c,ĢL,Ăf z}
section
variable{P:Zu}{w:World}{K:Zp}{mg:Zs}{base:Heap}
def EE.okE{x b:Str}{st:Stmt}{f:Addr}{fd:FuncData}{N h:Zv}{k:Nat}{sp:Sp}(F:EE K x b st f fd)(S:aA N h (aj st))(len:{Ďp,sp e H Q E,ċy h.length})(g:{ğY,Ú,vQ k {ĂY,{ĊF,b,aj st,f,d}}->sp e H Q E->∃t,yo (Ce (lA P w) P w K mg base N b (aj st) f d A outer s H E) (gT st) t/\t {čr,λ_ i=>Āt Q i} (jb N e) H}):aT P w K mg base (lA P w) (k+1) f fd h sp:=by have(oc,n,kV,j,pm,o,d,ct,l,(),lk,a):=F.ex;show Sa lk a S len λA outer s H e Q E m c=>g d A outer s H e Q E m c
omit e
def Rq(s:Stmt):ă2:=match s with|.ClassDef _ _ _ b _ _ _ _ _ _ _=>b|_=>[]
abbrev cM:=cJ⊕Ăq
section
variable(P:Zu)(w:World)
noncomputable def j4:cM->Int|.inl k=>(bp P w).hash k|.inr []=>hashW w.params .none|.inr (k::a)=>{ĂQ,bp P w}.hash (k::a)
noncomputable def my:cM->Nat|.inl _=>1|.inr a=>ćy 1
def nD(h:Heap)(k:cM)(v:Value):Prop:={Ġp,ķ (bp P w).is k v,v= .none,v=ô/\{ĂQ,bp P w}.is h (k::b) a}
abbrev mG:=cM×đa
noncomputable def yO(x:mG):DictEntry:={j4 P w ï,ąo,Āz}
omit e
section
variable{P:Zu}{w:World}{A:Around}{E:Zq}{s:Shared}
def nD.flat(x:nD P w h (à k) v):(∃i t,v=Ĉh/\k=à i)\/∃z t,v=ĆI z/\k=æ z:=by have x:ķ sO k v:=x;cases k with
 |inl i=>have x:ķ Value.isInt i v:=x;cases v with|int j t=>simp[Value.isInt]at x;rw[ţ,{_,_,(),Ź x}]|_=>cases x
 |inr z=>have x:ķ Value.isStrOf z v:=x;cases v with|str j t=>simp[Value.isStrOf]at x;rw[Ĉ,{_,_,(),Ź x}]|_=>cases x
def NE(d:ēo)(b:ąu v)(q:Q (j4 P w k) {ć4,my k}):{ŏ,pyHash v}:=by match k,b,q with|.inl k,b,q=>show(bp P w).pyHash b q|.inr [],b,q=>rw[ā,b,pyHash_slot (T:="NoneType") () F.slot_NoneType_hash F.entry_NoneType_hash (F.args_NoneType_hash_1 _) (beq_builtin_none _) (æ Ø) (a_ (eN (a_ (wpAny_mkInt (eN {_,_,(),q})))))]|.inr (k::e),b,q=>have(a,(),c):=b;show{ĂQ,bp P w}.pyHash d c q
def Ww:SeqAt.EqAt A s .none .none true:=λprog w E Q a=>by unfold eqBool;rw[ö,n_ ?_,u_ (λ_=>a_ (yl (eN a))) (ĀG ß z)]
def QS(f:ēo)(e:Ĉj x u)(d:Ĉj y v)(q:Q {Ċ,x=y} s):{ŏ,eqBool u v}:=by match x,e,q with
 |.inl x,e,q=>match y,d,q with
  |.inl y,d,q=>show(bp P w).eqBool e d ĐF|.inr [],d,q=>
   cases d;rw[Ĕk,j_ āN,ćG e]
   ·show SeqAt.EqAt.int_none i t P w E Q q
   ·show SeqAt.EqAt.str_none z t P w E Q q|.inr (k::j),d,q=>
   rw[Ģ2];rw[Ĕk,j_ āN,ćG e]
   ·show SeqAt.EqAt.int_tuple i t {_,c,hc,_,hd} f P w E Q q
   ·show SeqAt.EqAt.str_tuple z t {_,c,hc,_,hd} f P w E Q q
 |.inr [],e,q=>
  cases e
  match y,d,q with
  |.inl y,d,q=>
   rw[Ĕk,j_ āN,ćG d]
   ·show SeqAt.EqAt.none_int i t P w E Q q
   ·show SeqAt.EqAt.none_str z t P w E Q q|.inr [],d,q=>cases d;rw[Ăs,ji (),Ww P w E Q q]|.inr (k::j),d,q=>rw[Ģ2];rw[Ăs,j_ āN,SeqAt.EqAt.none_tuple {_,c,hc,_,hd} f P w E Q q]
 |.inr (k::j),e,q=>
  have(a,(),h):=e
  match y,d,q with
 |.inl y,d,q=>
   rw[ĤI];rw[Ĕk,j_ āN,ćG d]
   ·show SeqAt.EqAt.tuple_int i t {_,c,hc,_,hd} f P w E Q q
   ·show SeqAt.EqAt.tuple_str z t {_,c,hc,_,hd} f P w E Q q|.inr [],d,q=>cases d;rw[ĤI];rw[Ăs,j_ āN,SeqAt.EqAt.tuple_none {_,c,hc,_,hd} f P w E Q q]|.inr (l::ls),d,q=>have(b,(),m):=d;show{ĂQ,bp P w}.eqBool f h m ĐF
def IR(b:ąu v)(q:Q true s):{ŏ,eqIsQuiet 8 v}:=by match k,b with
 |.inl k,b=>
  have(i,t,(),_)||(z,t,(),_):=ćG b
  ·show eN q
  ·show eN q|.inr [],b=>rw[ā,b,eN q]|.inr (k::d),b=>have(a,(),c):=b;show{ĂQ,bp P w}.quiet c q
theorem nD.inj(f:nD P w h x v)(d:nD P w h y v):x=y:=by match x,f with
 |.inl x,f=>match y,d with|.inl y,d=>rw[(bp P w).inj v x y f d]|.inr [],d=>cases d;rw[Ĕn,ćG f]|.inr (k::c),d=>have(a,(),_):=d;rw[Ĕn,ćG f]
 |.inr [],f=>
  cases f
  match y,d with|.inl y,d=>rw[Ĕn,ćG d]|.inr [],_=>rfl|.inr (k::c),d=>have(a,e,_):=d;cases e
 |.inr (k::c),f=>
  have(a,(),g):=f
  match y,d with|.inl y,d=>rw[Ĕn,ćG d]|.inr [],d=>cases d|.inr (l::ls),d=>have(b,e,j):=d;cases e;rw[{ĂQ,bp P w}.inj g j]
def QR{k:cM}{v:Value}{st:Zt}{Q:Bool->Ĝ}(d:ąu v)(e:∀u∈st,∃b,Ĉj b u)(q:Q false s):{ŏ,tableMayTell v st}:=by
 unfold tableMayTell
 split
 ·show eN q
 ·rw[ġA,a_ (IR d ?_)];show a_ (Y6 _ (λleft r a=>a=s/\r=(none,Unit.unit)/\∀u∈left,∃b,Ĉj b u) _ ?_ ?_ _ _ {(),(),e})
  ·intro u left r a((),(),c);have(b,f):=c u f_;rw[ġA,a_ (IR f ?_)];show eN {(),(),λz g=>c z (fy _ g)}
  ·intro r a((),(),_);show eN q
def V5{b:đ9}{d:Ą5}(e:b.toList={Ą8,yO P w})(j:Nat):b[j]?=(d[j]?).map (yO P w):=ĉs ut e g8
def NC{b:đ9}{d:Ą5}(e:b.toList={Ą8,yO P w}):ćj b.size:=ĉs lh e b_
def ND{b:Ą5}(hn:ġK){i j:Nat}{k:cM}{p q:đa}(hi:ϊ=ĀW)(d:b[j]?=ĒQ q):i=j:=by
 have a:Ģ9=Ù k:=by rw[g8,hi];rfl
 have c:ĥo j=Ù k:=by rw[g8,d];rfl
 show(H_ (ŷ a) hn).mp (a.trans c.symm)
def Wf[ăS c](h1:c->ŏ t)(h2:¬c->ŏ u):{ŏ,đ7 t u}:=by
 by_cases h:c
 rw[Ĺ,hY h,h1 h]
 rw[ų,hF h,h2 h]
def UQ(d:Ą5)(k:cM)(s:Shared)(b:ďR×ĀK)(e:Shared):Prop:=e=s/\((∃j p,b=(ZY j,none)/\d[j]?=ĀW)\/(b.1=none/\((b.2=none/\{ĕg,d[j]?≠ĀW})\/∃j p,b.2=ăn/\d[j]?=ĀW)))
def TV{h:Ą5}{k:cM}{d:Zy}(hn:(h.map (·.1)).Nodup)(u:∀j p,h[j]?=ĀW->j∈d)(B:∀j∈d,∃y:mG,h[j]?=ϵ/\j4 P w Ć=j4 P w k)(m:d.Nodup)(f:{ξ,ďR×ĀK->Sem (ForInStep (ďR×ĀK))})(h1:∀(x:Nat)(p:đa)(R:ForInStep (ďR×ĀK)->Ĝ),x∈d->h[x]?=ĀW->R (.done (Ù ù,none)) s->R (.yield (none,ù)) s->{Đz,f x (none,none),R})(h2:∀(x:Nat)(n:ĀK)(y:mG)(R:ForInStep (ďR×ĀK)->Ĝ),x∈d->h[x]?=ϵ->j4 P w Ć=j4 P w k->Ć≠k->R (.yield (none,n)) s->{Đz,f x (none,n),R}):{Đz,forIn d ((none,none):ďR×ĀK) f,UQ h k s}:=by
 show Y6 f (λleft b v=>v=s/\b.1=none/\∃pre,d=pre++left/\((b.2=none/\∀j∈pre,∀p,h[j]?≠ĀW)\/∃j p,b.2=ăn/\j∈pre/\h[j]?=ĀW)) _ ?_ ?_ _ _ {(),(),[],(),ćV Ü}
 ·intro x left(b1,b2)v((),(),pre,o,t);have i:x∈d:=by rw[o];simp
  have C:x∉pre:=λz=>by rw[o,md]at m;show m.2.2 x z x f_ ()
  have(y,l,hh):=B x i;have r:d=(pre++[x])++left:=by rw[o];simp
  rw[ρ,Ć,k]
  ·have(D,p):=y;rw[Ąk,D=k];subst e;rw[ĚG]
   ·show h1 x p _ i l {ą,à {x,p,(),l}} {(),(),pre++[x],r,æ {x,p,(),Ü,l}}
   ·rw[Ā,ND hn a l▸c,C]
  ·show h2 x b2 y _ i l hh e {(),(),pre++[x],r,?_};rw[ĚG]
   ·show {ćV,λj c p z=>?_};have c||c:=Ă5 c
    ·show g j c p z
    ·rw[Ň c,l]at z;rw[ā,z,e ()]
   rw[ϛ,{j,q,(),nn _ c,a}]
 ·intro(b1,b2)v((),(),pre,o,t);show{ą,æ āO};rw[ĚG]
  ·show {ćV,λj p z=>g j ?_ p z};rw[ćh,u j p z,o,l_];rw[ċO]
  rw[ϛ,{j,q,(),a}]
set_option tactic.hygienic true in
def Og{d:Addr}{b:Value}{f:đ9}{j:Sem ĀK}{Q:ĀK->Ĝ}(i:∀z t,b=ĆI z->Ą f.all ĞX->{ŏ,foundByValue d b f z})(g:ŏ j):ŏ (match b with|.str z _=>{Ě,f.all ĞX,foundByValue d b f z,j}|_=>j):=by
 split
 ·split
  ·rename_i h;show i _ _ () h
  ·show g
 ·show g
def Oh{b:Value}{c:Bool}{u:Sem PUnit}{j:Sem ĀK}{Q:ĀK->Ĝ}(e:∀a,b=ô->¬î c)(d:ŏ j):ŏ (match b with|.ref _=>{Ě,c,u>>=λ_=>j,j}|_=>j):=by
 split
 rw[Ĺ,hF (e _ ()),d]
 ·show d
def KL{c:Prop}[ăS c]{b:Type}{t u:Sem b}{Q:b->Ĝ}(hc:¬c)(h:ŏ u):{ŏ,đ7 t u}:={Þ,hF hc,h}
def Ud{c:Prop}[ăS c]{b:Type}{t u:Sem b}{Q:b->Ĝ}(hc:c)(h:ŏ t):{ŏ,đ7 t u}:={Þ,hY hc,h}
def HD{c:Prop}[ăS c]{k:cM}{b:Value}{st:Zt}{j:Bool->Sem ĀK}{Q:ĀK->Ĝ}(e:ąu b)(f:∀u∈st,∃g,Ĉj g u)(d:{ŏ,Đk j}):ŏ {đ7,Ći>>=j,tableMayTell b st>>=j}:={ϗ,Wf,λ_=>a_ (eN d),a_ (QR e f d)}
def NF{d:Addr}{o:Obj}{n:đ9}{ep:Nat}{B:Ą5}{k:cM}{C:Value}{Q:ĀK->Ĝ}(hu:ēo)(f:ąu C)(H:ε d=Û)(hd:{ąr,.dict n ep})(he:n.toList=B.map (yO P w))(q:∀x∈B,ēR)(hn:(B.map (·.1)).Nodup)(D:{ĕg,B[j]?≠ĀW}->Q none s)(m:{ĕg,B[j]?=ĀW->Q ăn s}):{ŏ,dictFind d C (j4 P w k)}:=by
 have sz:=NC he;have u:=V5 he;generalize F:placesWithHash n.size (λi=>n[i]?.map (·.hash)) (j4 P w k)=c;have Y:∀j p,B[j]?=ĀW->j∈c:=λj p g=>by
  rw[<-F];unfold placesWithHash;show tf.mpr {pa.mpr ?_,?_}
  rw[Ĺ,sz,ŷ g]
  ·change Ġ5;rw[u j,g];simp[yO]
 have L:∀j∈c,∃y:mG,B[j]?=ϵ/\j4 P w Ć=j4 P w k:=λj g=>by rw[<-F]at g;unfold placesWithHash at g;have(h1,h2):=Ċb g;have h1:=pa.mp h1;rw[sz]at h1;show{B[j],fx h1,?_};have h2:Ġ5:=h2;rw[u j,fx h1]at h2;simpa[yO]using h2
 have ad:c.Nodup:=Ă F ġP
 have plain:{ŏ,dictWalkPlain d C (j4 P w k) n c}:=by
  unfold dictWalkPlain;show a_ (Y6 _ (λleft b Z=>Z=s/\b=(none,Unit.unit)/\∃pre,c=pre++left/\∀j∈pre,∀p,B[j]?≠ĀW) _ ?_ ?_ _ _ {(),(),[],(),Ü})
  ·intro x left b Z((),(),pre,hp,M);have((I,kv,v'),l,hh):=L x (by rw[hp];simp);have hex:n[x]?=Ù {j4 P w I,kv,v'}:=by rw[u x,l];rfl
   rw[hex];dsimp only;rw[hY (by rw[hh];simp)];rw[ăb,a_ (y_ H hd (a_ (QS (x:=I) (y:=k) hu (q _ (e_ l)) f (a_ (y_ H hd ?_))))),Ω Ąa A {āX,ep !=ep} _ E Z];rw[hF Ü]
   by_cases J:I=k
   ·rw[ji J];subst J;show a_ (yl (eN (eN (m x _ l))))
   ·rw[j_ J];show a_ (yl (eN {(),(),pre++[x],by rw[hp];simp,λj g p z=>?_}));have g||g:=Ă5 g
    ·show M j g p z
    ·rw[Ň g,l]at z;rw[ā,z,J ()]
  ·intro b Z((),(),pre,hp,M);show eN (D λj p z=>M j ?_ p z);rw[ćh,Y j p z,hp,l_];rw[ċO]
 have ag:∀v∈c.filterMap (λi=>n[i]?.map (·.key)),∃I,Ĉj I v:=λv N=>by have(i,hi,N):=XX.mp N;have(y,G,_):=L i hi;rw[u i,G]at N;rw[ā,N,{_,q y (e_ G)}]
 have O:∀z t,C=ĆI z->Ą n.all ĞX->{ŏ,foundByValue d C n z}:=by
  rintro z t rfl-;have ek:k={à,æ z}:=by
   cases k with|inl k=>
    have(i,t',e,_)||(z',t',e,e2):=f.flat
    ·cases e
    ·cases e;rw[e2]|inr ks=>cases ks with|nil=>cases f|cons k ks=>have(a,e,_):=f;cases e
  have al:∀(j:Nat)(y:mG),B[j]?=ϵ->Ą (ĂA).isStr z->Ć=k:=λj y G hz=>by have h3:=q y (e_ G);rw[Ģ,nD.inj h3 ?_,ek];cases N:ĂA with
 |str z' t'=>
    rw[N]at hz;have:z'=z:=by simpa[Value.isStr]using hz
    rw[ó,this,x8 P w z t']|_=>rw[N]at hz;cases hz
  have an:{ĕg,B[j]?=ĀW->Ą (ę).isStr z}:=λj p g=>by
   have h3:ąu ę:=q _ (e_ g);rw[ek]at h3;have(i,t',_,e)||(z',t',e,e2):=h3.flat
   ·cases e
   ·cases e2;rw[e];simp[Value.isStr]
  unfold foundByValue;cases hf:n.findIdx? (λe=>e.key.isStr z)with
 |none=>
   show eN (D λj p g=>?_);have aa:=Array.findIdx?_eq_none_iff.mp hf;have h4:n[j]?={Ù,yO P w (k,p)}:=by rw[u j,g];rfl
   have h5:=aa _ (Array.mem_of_getElem? h4);have h6:{ć,(ę).isStr z}:=by simpa[yO]using h5
   rw[an j p g]at h6;cases h6|some i=>
   have(S,hi,_):=Array.findIdx?_eq_some_iff_getElem.mp hf;have l:ì B={Ù,B[i]'(Ă sz S)}:=fx _;generalize B[i]'(Ă sz S)=y at l;have hex:ì n={Ù,yO P w y}:=by rw[u i,l];rfl
   have ap:Ą (ĂA).isStr z:=by rw[wo S]at hex;rw[i_ hex]at hi;show hi
   have G:=al i y l ap;have(I,p):=y;have G:I=k:=G;subst G;dsimp only;rw[hex];dsimp only;show a_ (y_ H hd (a_ (QS (x:=I) (y:=I) hu (q _ (e_ l)) f (a_ (y_ H hd ?_)))));rw[ý,hF Ü,hY (ji ()),a_ (yl (eN (m i p l)))]
 have K:∀a,C=ô->¬{Ą,n.any,λe=>e.key==C&&e.hash !=j4 P w k}:=by intro a ea;rw[<-Array.any_toList,he,Ye];intro(e,as,hc);have(y,G,()):=Ķ as;simp only[yO,k_,YP,bne_iff_ne,ne_eq]at hc;have h3:=q y G;rw[hc.1]at h3;show hc.2 {Ź,h3.inj f}
 unfold dictFind
 rw[đ6,n_ ?_]
 rw[Će,a_ (wpAny_dictEntries H hd ?_),Og O ?_,Wf ĺ ĺ]
 rw[Ĺ,F,plain]
 rw[Ģ,Oh K ?_,F];have T:∀(x:Nat)(p:đa),B[x]?=ĀW->∃e,n[x]?=Ù e/\e.hash=j4 P w k/\ąu e.key:=λx p l=>{_,by rw[u x,l];rfl,(),q _ (e_ l)};have U:∀(x:Nat)(y:mG),B[x]?=ϵ->∃e,n[x]?=Ù e/\e.hash=j4 P w Ć/\Ĉj Ć e.key:=λx y l=>{_,by rw[u x,l];rfl,(),q _ (e_ l)};rw[Će,HD f ag ?_,KL Ü ?_,a_ {ĉ3,TV (P:=P) (w:=w) hn Y L ad _ ?_ ?_,λb Z z=>?_,z}]
 ·intro x p R av l r1 r2;have(e,V,W,X):=T x p l;rw[V];rw[ç,Ud (by rw[W];simp) ?_,a_ (y_ H hd (a_ (QS (x:=k) (y:=k) hu X f (a_ (y_ H hd ?_)))))];rw[ĭ,KL Ü (Ud (ji ()) (KL Ü ?_)),a_ (yl ?_)]
  split
  ·show eN r1
  ·show eN r2
 ·intro x a0 y R av l hh ax r;have(e,V,W,X):=U x y l;rw[V];rw[Ŧ,Ud (by rw[W,hh];simp) ?_,a_ (y_ H hd (a_ (QS (x:=Ć) (y:=k) hu X f (a_ (y_ H hd ?_))))),KL Ü (KL (by simp[ax]) ?_),a_ (yl ?_)];show KL Ü (eN r)
 ·have(b1,b2):=b;have((),h):=z;have(j,p,e,g)||(e,h):=h
  ·rw[ā,e,eN (m j p g)]
  ·rw[Ąk,b1=none];subst e;have(e,h)||(j,p,e,g):=h<;>(rw[Ąk,b2=_];subst e)
   ·show eN (D h)
   ·show eN (m j p g)
def IS{d:Type}{b:ėC d}(hn:ġK){j:Nat}{k:cM}{p:d}(f:b[j]?=ĀW):b.find? {Ăm,ï=k}=ĀW:=by
 rw[List.find?_eq_some_iff_append];have(g,e):=ąO f;show{ji (),Ĉ1 j,{ĉL,j+1},?_,λy h=>?_}
 ·rw[<-e,List.getElem_cons_drop,sg]
 ·rw[ĄG,h];have a:i<j:=by rw[Āj,ĉX,j2];lia
  rw[X7 a]at hi;have:Ć≠k:=λz=>by
   have c:Ģ9=Ù k:=by rw[g8,hi,<-z];rfl
   have l:ĥo j=Ù k:=by rw[g8,f];rfl
   rw[Š,(H_ (ŷ c) hn).mp (Ćn l.symm)]
  simp[this]
def CP{b:Type}{d:ėC b}{k:cM}(h:∀(j:Nat)(p:b),d[j]?≠ĀW):d.find? {Ăm,ï=k}=none:=by rw[XY];intro x c a;have(j,e):=ĀN c;have a:ï=k:=kl a;show h j ŕ (by rw[e,<-a])
structure lr(P:Zu)(w:World)(h:Heap)(d:Addr)(ys:Ą5):Prop where ok:∃o es ep,Ă6 d=Û/\o.ExactDict/\{ąr,.dict es ep}/\es.toList=ys.map (yO P w)nd:(ys.map (·.1)).Nodup
noncomputable def io{d b:Type}(e:ĉW d b)(k:cM):ŭ b:={ś,e.find?,λy=>{Ċ,Ć=k}} (·.2.2)
noncomputable def i6{b d:Type}(e:ĉW b d)(k:cM)(f:b)(v:d):ĉW b d:=if Āk io e k then e.map λy=>ď Ć k (Ć,ĂA,v) y else e++[(k,f,v)]
def V4{d:Addr}{f:Ą5}{k:cM}{e:Value}{Q:ĳ->Ĝ}(h:ēo)(b:ąu e)(hm:Ċx lr P w d f)(g:∀x∈f,ēR)(q:Q (io f k) {ć4,my k}):{ŏ,dictGet d e}:=by
 have(o,l,m,a,hc,hd,c):=hm.ok;unfold dictGet
 rw[đ6,n_ ?_]
 show a_ (NE h b (a_ (NF (s:={ć4,my k}) h b a hd c g hm.nd (λno=>?_) λj p i=>?_)))
 ·unfold io at q;rw[Ăs,CP no,eN q]
 ·unfold io at q;rw[IS hm.nd i]at q;show a_ (wpAny_dictEntries (s:={ć4,my k}) a hd ?_);rw[ý,V5 c j,i,eN q]
def TW(b:ĉW e d)(k:cM)(v:d):{Ā4,ś b.map λy=>ď Ć k (Ć,ĂA,v) y}=Ā4 b.map:=by
 rw[rr];rw[Č5,z4 λy _=>?_,{ď,Ć,k,(Ć,ĂA,v),y}.1=Ć]
 split<;>rfl
def V3{d:Addr}{g:Ą5}{k:cM}{f v:Value}{Q:Unit->Ĝ}(u:ēo)(h:ąu f)(hm:Ċx lr P w d g)(n:∀x∈g,ēR)(C:ăz g.length)(q:∀h',lr P w h' d (i6 g k f v)->ĆE d->ąx {č7,s.toks+my k}):{ŏ,dictSet d f v}:=by
 have(o,H,B,c,hc,hd,m):=hm.ok;unfold dictSet
 rw[đ6,n_ ?_]
 show a_ (NE u h ?_);unfold dictSetHashed
 rw[đ6,n_ ?_]
 show a_ (NF (s:={ć4,my k}) u h c hd m n hm.nd (λno=>?_) λj p l=>?_)
 ·have r:i6 g k f v=g++[(k,f,v)]:=by unfold i6 io;rw[CP no];rfl
  have D:k∉Ā4 g.map:=λz=>by have(y,F,e):=Ķ z;have(j,l):=ĀN F;show no j ZH (by rw[l,<-e])
  rw[r]at q;show a_ (yl (wpAny_updateDictKeys (hz:={ļ,NC m}) (s:={ć4,my k}) c hd (q _ {{_,_,B+1,qx _ c {Ĥo,Obj.data_mapDictKeys hd _},hc.mapDictKeys _,Obj.data_mapDictKeys hd _,?_},?_} Ęx)))
  ·rw[Y4,m,hE];rfl
  ·rw[hE,md];show{hm.nd,Ü,λa G b t e=>D ?_};have t:b=k:=Ň t;rw[ĉb,t,e,G]
 ·have r:i6 g k f v=g.map λy=>ď Ć k (Ć,ĂA,v) y:=by unfold i6 io;rw[IS hm.nd l];rfl
  rw[r]at q;show a_ (yl (a_ (wpAny_updateDict (s:={ć4,my k}) c hd (wpAny_point (q _ {{_,_,B,qx _ c {Ĥo,Obj.data_mapDict hd _},hc.mapDict _,Obj.data_mapDict hd _,?_},Þ TW hm.nd} Ęx)))));rw[Array.toList_modify,m];show z1 ĒT;rw[List.getElem?_modify,g8,g8,g8];cases hi:(ì g)with|none=>by_cases e:j=i<;>simp[e]|some y=>
   rw[ρ,j,i]
   ·subst e;rw[l]at hi;cases hi;simp[yO]
   ·have:Ć≠k:={ÿ,e,ND hm.nd l (q:=ZH) (by rw[hi,<-z])};simp[e,this]
def lr.type(hm:Ċx lr P w d b):ču d "dict":=let⟨o,_,_,a,hc,_⟩:=hm.ok;(o,a,hc.1,)
def lr.bare(hm:Ċx lr P w d f):∀b,Ś d=ZM->∃ob,ģ=ū/\ob.dict=none:=λb e=>by cases e;have(o,_,_,a,hc,_):=hm.ok;show(o,a,hc.2.1,)
def Hk(d:Addr)(b dflt:Value)(hd:āE d):MeetsIn P w (Builtin.«dict.get» {[Āv,b,dflt],[]}) (λA R s=>A.in1.units<cLine/\∃k e,ąu b/\Ċx lr P w d e/\(∀x∈e,ēR)/\R (.ok (.ret ((io e k).getD dflt))) {ć4,my k}):= .of_wp λA R s⟨c,k,e,f,hm,hi,h⟩=>by change {Đw,_,dictGet d b>>=_,_,_};show a_ (V4 c f hm hi ?_);cases a:io e k with|some v=>rw[Ą3,a,eN {v,(),h}]|none=>rw[Ą3,a,a_ (wpAny_missed_other hd (eN {dflt,(),h}))]
def Kw(h:A.in1.units<cLine)(e:ąu b)(hm:Ċx lr P w d f)(g:∀x∈f,ēR)(i:ĜH)(q:∀h',lr P w h' d (i6 f k b v)->ĆE d->ąx {č7,s.toks+my k}):{ŏ,setItem Āv b v}:=by
 unfold setItem
 rw[đ6,n_ ?_]
 rw[ăb,a_ (wpAny_sequenceKey hm.type ß (a_ {ćp,Ę "__setitem__",hm.type,slot_dict_setitem,o0 slot_dict_setitem hm.type entry_dict_setitem ?_ (args_dict_setitem _ _ _)})),{Đw,_,Builtin.Dict.notOrdered "__setitem__" {[Āv,b,v],[]}>>=_,_,_}];rw[ăb,a_ (wpAny_notOrdered_dict hm.type ?_),{Đw,A.in1,dictSet d b v>>=_,_,_}];show a_ (V3 h e hm g i λh' h1 h2=>eN {.none,(),eN (q h' h1 h2)})
omit e
abbrev i7:=cM×V×V
def xx(b:ϙ)(d:Ą5):Prop:={Đ,λ(p:i7)(q:mG)=>ę=q.1/\bu p.2.1 Ąl/\bu p.2.2 ĀB,b,d}
abbrev dM(P:Zu)(w:World)(d:Addr)(b:ϙ):HO:= .ext λh=>āE d/\∃a,xx b a/\lr P w h d a
def d8(K:Zp)(H:Hp)(k:cM)(v:V):Prop:={Ġp,v=kV k,v= .non,v=ô/\bj K H a ((k::b).map kV)}
def f9(K:Zp)(H:Hp)(b:ϙ):Prop:=∀x∈b,d8 K H ï ąo
def lr.keep(m:lr P w h1 d b)(k:∀o,ĚJ d=Û->h2.get? d=Û):lr P w h2 d b:=let⟨o,a,c,e,r⟩:=m.ok;{{o,a,c,k o e,r},m.nd}
def Sd(hd:āE d)(r:xx b ys)(m:lr P w h d ys):d7 P w H h d (dM P w d b):={(hd,ys,r,m,),ĥA m.ok o e,λ_ _⟨h1,ys,h2,h3⟩k=>{h1,ys,h2,h3.keep k}}
def d8.is(I:aU X b m H s)(h:d8 X.K H k v)(r:bu v u):Ě3 X.prog X.w k u:=by cases k with|inl k=>rw[ĂD,v=kV k];subst h;show vx r|inr f=>cases f with|nil=>rw[ĂD,v= .non];subst h;show r|cons k f=>have(a,(),g):=h;cases r;have(i,j,(o,e,c,n,d),_):=ϝ g;show{a,(),o,_,n,e,c,d,xg j}
theorem xx.keys(I:aU X d g H s):∀{e:ϙ}{f:Ą5},xx e f->f9 X.K H e->∀y∈f,Ě3 X.prog X.w Ć ĂA
 |_,_,.nil,_,y,b=>nomatch b|_,_,.cons (a:=p) r t,k,y,b=>by
  have()||b:=Ű b
  ·rw[π,r.1,(k p f_).is I r.2.1]
  ·show xx.keys I t (λx c=>k x (fy _ c)) y b
theorem xx.val:∀{b:ϙ}{d:Ą5},xx b d->∀k,nL (io b k) (io d k)
 |_,_,.nil,_=>True.intro|p::b,q::d,.cons r t,k=>by
  unfold io;rw[tu,tu,<-r.1]
  rw[Ąr,k]
  rw[Ĺ,ji e,r.2.2]
  rw[ų,j_ e,xx.val t k]
set_option tactic.hygienic true in
def xx.put(h:xx d f)(i:bu kv j)(g:bu v u):xx (i6 d k kv v) (i6 f k j u):=by
 have a:Āk io d k=Āk io f k:=Ěq h.val k;unfold i6;rw[a]
 split
 ·rw[ĔN]
  induction h with|nil=>rw[Z5]|@cons p q c l r t b=>
   rw[ąZ,ē ?_ b];rw[<-r.1]
   rw[Ąr,k]
   ·rw[ý,hY e,hY e,{(),r.2.1,g}]
   ·rw[ý,hF e,hF e,r]
 ·rw[ĔN]
  induction h with|nil=>show ϋ {(),i,g}|cons r t b=>show ē r b
def xx.len(h:xx b d):Ėg:=ř h
section
variable{X:Cx}{P:Zu}{w:World}{o e f:Expr}{r b g:Pos}{j ty n:TE}
def SH(P:Zu)(w:World):TE:=λ_ H Q=>∀p,H p=none->Q ł (aJ H p (dM P w p []))
def MO(d:Ăy:=by rfl)(i:X.w=w:=by rfl):PE X (.Dict [] [] r) (SH P w):=λc s k H Q I h=>by subst d i;rw[ö,ĥj {Ħ,_,{ĝj,I.laid,s.heap.objs.size,ċD dM s.heap.objs.size [],λ_ _ q=>d_ _ q,eH _,?_},(),h _ {ā3,eH _}},Sd (ys:=[]) (z3.mpr {ĀG,z▸I.big,nk _}) .nil {{_,#[],0,ge _ (),{(),(),()},(),()},XW}]
def SE(K:Zp)(P:Zu)(w:World)(j ty n:TE):TE:={ĄU,j,d,H,λx l=>∃a h,x=ô/\l a={Ù,dM P w a h}/\ty d l λy m=>n d m λz c=>∃i k,c a={Ù,dM P w a i}/\f9 K c i/\d8 K c k y/\Q ((io i k).getD z) c}
def MN(K:Zp)(B:X.K=K)(C:ău<cLine)(D:PE X o j)(E:PE X e ty)(G:PE X f n)(m:M2 X o "get" b e f g)(J:Ăy:=by rfl)(L:X.w=w:=by rfl):PE X {ĂG,"get",b,[e,f],g} (SE K P w j ty n):=by subst J L B;intro c s q H Q I h;show {ĔI,W_,m.base,m.few,m.line,cz (D c s q H _ I h) λu M i=>?_};have(x,N,I1,O,a,R,ex,d,S):=i;subst ex;rw[ćY,O];have((_,T,_,t),_):=I1.hok a _ d;rw[ęf,{t.type,t.bare,?_},t6 () (x4 (s_ (cz (E c M q N _ I1 S) λiv U i=>?_)))];have(y,V,Y,Z,q2):=i;show s_ (cz (G c U q V _ Y q2) λfv s3 i=>?_);have(z,H3,p,rz,xs,k,d3,ks,hk,q3):=i;show x_ ?_;have((hd,ys,l,v),_):=p.hok a _ d3;rw[ö,{ęZ,B_,v.type,ĚB _ _ _,Hk a iv fv hd,{C,k,ys,hk.is p Z,v,l.keys p ks,?_}},{_,H3,p.tok _,(l.val k).getD rz,q3}]
def VI(K:Zp)(P:Zu)(w:World):RB:={ĤF,o=ô/\H a={Ù,dM P w a c}/\f9 K H c/\d8 K H k i/\Ėb/\Q (aJ H a (dM P w a (i6 c k i v)))}
def Mn(K:Zp)(y:X.K=K)(z:ău<cLine)(B:Ăy:=by rfl)(C:X.w=w:=by rfl):RF X (VI K P w):=by subst B C y;intro l s L H o i v M iv u Q I x p D h;have(a,N,k,(),d,E,F,G,q):=h;cases x;have((hd,O,c,m),_):=āY a d;rw[ϯ,Kw z (F.is I p) m (c.keys I E) (Ă c.len G) λh' t J=>?_,{_,zc I (ĊR d) J (ĥA t.ok o e) ?_,q},Sd hd (c.put p D) t]
omit e
section
variable{X:Cx}{o e b:Expr}{f:Str}{j g:Pos}{m n:TE}
def aO(K:Zp)(d:X.K=K)(h:PE X e m)(i:ě8 e f Čx=Čx:=by rfl):PE X (Ĉs e f j) (Vq K m f):={ZX,Tv h i}
def cW(K:Zp)(d:X.K=K)(h:PE X o m)(i:PE X b n)(p:ćF b {Ù,Ĉs o f g} j.line=Ći:=by rfl):PS X {ĉJ,[Ĉs o f g],b,j} (VE K m n f):={ZX,To h i p}
def VL:RB:={ĤF,o=ô/\i=kV k/\H a=Į c/\Ėb/\Q (aJ H a (.dK (gN c k v)))}
def wB(p:ău<cLine):RF X VL:=by intro c s z H o i v B iv u Q I l r t h;have(a,w,k,(),(),d,x,q):=h;rw[ā,l,K3 p I (RM.k d x) r t λC y=>{_,y,q}]
omit e
section
variable{P:Zu}{w:World}{A:Around}{E:Zq}{s:Shared}
def N3(ty:ču r "list_reverseiterator")(q:Q false s):{ŏ,ġ7 ďi}:=by
 unfold Builtin.List.listLengthHint;rw[Ŧ,a_ (Yo (r:=none) ty (by rw[Yp,XF];kernel_rfl) ?_),u_ ğm ĺ,u_ ğn ĺ,a_ (Yo (r:={Ą0,"list_reverseiterator.__length_hint__"}) ty (by rw[Yp,XF];kernel_rfl) ?_)];generalize a:ĝb "list_reverseiterator.__length_hint__"=nm
 wp_delta
 rw[{Ĩ,splitId nm,āe "list_reverseiterator" "__length_hint__",by subst a;decide+kernel}];subst a;rw[Ŧ,a_ {ėd,X_,"list_reverseiterator",ty,ėN,?_},u_ ğn ĺ,u_ ĺ (ĀG Ý z),u_ ğm ĺ];show eN q
def GX(hh:āb)(it:s.heap.IsRevIter r l (ë d.size-1))(C:ĝd l d)(hn:ĩ d.size)(t:l≠r)(p:S≠r)(u:S≠l)(g:Value)(y:Nat)(D:ε S={ąs,#[],y})(q:∀h' tk j c,{ê,ú S,ú r->ģ=Û->ŵ=Û}->ZU S=Ù {Ċr,"list",none,ĂE j c,#[]}->ItemsOf (λi v=>d[d.size-1-i]?=Ĕ) j d.size->R (.ok (.ret g)) ĉr):{Đw,A.in1,{Ěg,â S,ďi,g},(λfin n=>match fin with|.done f=>R (.ok f) n|.again B=>î B.quiet/\Ă3 Ąa A B R n),λe n=>R (.error e) n}:=by
 have W:=Walks.listRev (prog:=P) (w:=w) (A:=A.in1) hh r l t d;have go:∀(h:Heap)(a tk:Nat),h.IsRevIter r l (ë d.size-1)->h.IsList l d->{ê,ú S,ģ=Û->ϴ=Û}->Ă6 S={ąs,#[],a}->{Ėl,codeAny,Ąa,A,.builtin "list.extend.loop" {[â S,ďi,g],[]},R,h,tk}:=by
  intro h a tk k G k1 H;rw[ĄZ,codeAny_extend_loopS W.toS hn S (by simp[p,u]) g d.size 0 _ #[] a () (ku _) {ku _,ĚM,G} H (ItemsOf.nil _) λn j c x I J=>?_,Moved.eq_with x,q n.heap n.toks j c (λb o b1 b2 e=>x.heap b o (λm=>?_) (k1 b o b1 e)) I J];have z||z:=Ű m
  ·show b1 z
  ·show b2 ĆD
 rw[ġ5,a_ (YV it.typeIs ?_)];have ne:{ć,Ε Builtin.List.listSameRef S ďi}:=by simp[Builtin.List.listSameRef,p]
 have K:{ă9,ġ6,ĂM "list"}:=ß
 have L:{ă9,ġ6,ĂM "tuple"}:=ß
 simp only[ne,K,L,Bool.or_false,U_,Ya];rw[ö,a_ (wpAny_pyIter_revIter it (a_ (n_ (N3 it.typeIs ?_)))),{ϗ,u_,ğm,eN {XJ PySem.F.plain_extend_loop _,go s.heap y s.toks it C ĐX D}}]
def Mw(hh:āb)(it:s.heap.IsRevIter r l (ë items.size-1))(t:ĝd l items)(hn:ĩ items.size)(f:l≠r)(q:∀h' tk d c,{ê,ú r,ģ=Û->ŵ=Û}->ĖK=Ù {Ċr,"list",none,ĂE d c,#[]}->ItemsOf (λi v=>items[items.size-1-i]?=Ĕ) d items.size->Q Ħ ĉr):{ŏ,call ći (ŝ r)}:=by
 show callType_codes (Q₁:=λobj k=>obj=Ħ/\k=ĕ7 {Ā0,.seq #[]}) PySem.F.called_list (PySem.F.typeCall_list_1 _) PySem.F.entry_list_init (code_list_new _ Λ) λobj k z=>?_;have((),()):=z;have new:{Ψ,ćJ {Ā0,.seq #[]}}={Ďg,.seq #[]}:=ge _ ();have(u,ei,x,y):=it;have m:ĚY r:=mu (h_ ei);have(B,n,cl,C,dl):=t;have p:ĚY l:=mu (h_ n);rw[ăb,{{_,new,()},PySem.F.args_list_init_2 _ _,?_},{Ω,Ąa,_,do let g<-Builtin.List.listItems Ħ;{ϗ,Builtin.List.listUpdate,Ħ,#[]};letGo g.toList.reverse;Ěg Ħ ďi .none,_,_,_}];show a_ ?_;unfold Builtin.List.listItems;show a_ (w_ new () (eN (a_ (Zh new () (a_ (Ğy ?_))))));have a:=qx {ĐD,λ_=>(#[]:Zx)} new ();have keep:{ê,Ĉx b,ģ=Û->({Τ,{Ā0,.seq #[]}}.update s.heap.objs.size {ĐD,λ_=>(#[]:Zx)}).get? b=Û}:=λb o h e=>{Þ,pw _ _ (m_ h),d_ _ e}
 rw[ö,GX (A:=A.in1) hh {u,keep _ _ (m_ m) ei,x,y} {B,keep _ _ (m_ p) n,cl,C,dl} hn f m p .none _ a λh' tk d c k2 D G=>?_,{ą,q h' tk d c (λb o h e=>k2 b o (iA (h_ e)) h (keep b o (iA (h_ e)) e)) D G}]
omit e
section
variable{X:Cx}{e:Expr}{te:TE}{i g f d:Pos}
def Vk(K:Zp)(te:TE):TE:={ă1,te,c,H,λx a=>∃p b,x=ł/\aZ K a p b/\∀l,a l=none->{τ,l,ń a l b.reverse}}
def G1(K:Zp)(Z:X.K=K)(hc:Ÿ)(g1:Gl X "list")(m1:Č3 "list"=none)(g2:Gl X "reversed")(m2:Č3 "reversed"=none)(he:PE X e te)(B:Υ [{āc,ĕz g,[e],d}]=[ăR {āc,ĕz g,[e],d}]:=by rfl)(C:Υ [e]=[āw]:=by rfl):PE X {āc,Ĉv "list" i,[{āc,ĕz g,[e],d}],f} (Vk K te):=by
 subst Z;intro y s N H Q I h;rw[Ģ,wr (oI I g1 m1 L2.rh (callWith_type1 ?_ B)),B];rw[ąp,Ϣ,X.A,spliced [ăR {āc,ĕz g,[e],d}],_,_];rw[Ģ,s_ (wr (oI I g2 m2 L2.Ch (callWith_type1 ?_ C))),C];rw[ąp,Ϣ,X.A,spliced [āw],_,_];show s_ (cz (he y s N H _ I h) λu m Y=>?_);have(x,H1,I1,rx,p,xs,ex,hq,q):=Y;rw[Ďy,x_ ?_];rw[ąd,Ś p,rx];have(k,O,(o,n,F,co,dd,ds),P):=I1.list hq;have hl:m.heap.IsList p k.toArray:=(o,F,co,n,ds,);show call_reversed_list hl (x_ ?_);have pr:p≠m.heap.objs.size:=iA (h_ F);have R:aU X y N H1 {m with heap:={Ět,revObj p (čj-1)}}:={ċl,m.toks,d_ _ e};show Mw (r:=m.heap.objs.size) (l:=p) (items:=k.toArray) ϭ {_,ge _ (),(),()} {o,d_ _ F,co,n,ds} (by simpa[<-O.length]using P) pr λh' tk t c kk sS T=>?_;have D:t.toList=k.reverse:=by
  show z1 ĄP;have J:t.size=k.length:=ĊZ T.1
  have E||E:=Yi j k.length
  ·have U:t[j]?={Ù,t[j]'(o'12 J E)}:=wo _;have L:=T.2 j _ U;rw[ut,U,Ģh E];simpa using L.symm
  ·rw[qq (by simpa[J]using E),qq (by simpa using E)]
 have I3:=R.laid (a:={ĕW,revObj p (čj-1)}) (o:=(ø xs.reverse)) (h':={Ět,revObj p (čj-1)}.push {Ā0,ĂE t c}) (t':=tk) (λb u e=>d_ _ e) (eH _) {Þ XT P,k.reverse,c,O.reverse,{Ă,D,ge _ ()}}
 have M:m.heap.objs.size<{ĕW,revObj p (čj-1)}:=by rw[ol];lia
 have I4:=I3.turned (it:=m.heap.objs.size) (h':=h') (t':=tk) (λb o hb e=>?_) {Þ,ay (iA M),{Đm,eH _}} (mu I1.lt) (æ I1.sz) (λx c e z=>by have(v,o,V,_):=I1.cell x c e;rw[z]at V;rw[Ā,h_ V,nk _]) (λpp hp z=>by rw[Āj,(I1.pin pp hp).1,z];rw[Ā,h_ this,nk _])
 ·show{â {ĕW,revObj p (čj-1)},_,I4,(),q _ (R.hok.fresh (eH _))}
 ·by_cases z:b={ĕW,revObj p (čj-1)}
  ·subst z;rw[ĄN,ge _ (),e,sS]
  ·have(z2,_)||L:=XL e
   ·rw[Ā,z2,z]
   ·show kk b o hb L
omit e
omit L2
namespace L2
open PySem
seal L2.yo L2.PS L2.PE L2.PT L2.PA L2.PI L2.PG L2.PW L2.UL L2.PO
section
variable{X:Cx}
def eu:{ďz,dN,X,ů "str",(∃i,b=[Ŵ]/\ėJ/\Q {á,ăP i} H)\/∃z,b=[į]/\Q į H}:=by
 intro a s d H b e Q I r h;have(i,(),c,q)||(z,(),q):=h
 ·rw[ĝ2,gZ r,PySem.P.str_of_int c {Ĉo,H,ź,ĸ,q}]
 ·rw[ĝ2,gZ r,PySem.P.str_of_str {Ĉo,H,I,ĸ,q}]
omit e
def Dv(x:String):{ĆS,ώ x,x.toList.length}:=by rw[ż,(Ę x).cps.size=_,Str.ofString_eq_toList];simp
def D1{n k:Nat}(b:0<k)(h:n<10^k):Œ {ώ,ĘX n} k:=by rw[Dv];change(Nat.repr n).toList.length<=k;unfold Nat.repr;rw[ó,String.toList_ofList,(Nat.length_toDigits_le_iff ß b).mpr h]
def IY{z:Int}{k:Nat}(b:0<k)(h:z.natAbs<10^k):{Œ,{ώ,ĘX z},k+1}:=by cases z with|ofNat n=>show vr (D1 b h)|negSucc n=>
  rw[Dv];change("-"++Nat.repr (n+1)).toList.length<=k+1;rw[String.toList_append,gV];rw[Āj,D1 (n:=n+1) b h,Dv];have e:{ĘX,n+1}=Nat.repr (n+1):=();rw[e]at this;have:"-".toList.length=1:=ß
  lia
def wQ{n:Nat}(h:n<10^70):n.log2<1920:=by
 by_cases h0:n=0
 ·subst h0;decide
 rw[ų,Nat.log2_lt h0,j1 h Ý]
section
variable{X:Cx}
def La:dN X ĊC {ĤA,d=[x,.ty T]/\(rP X.K H x t\/∃p f,x=ł/\bj X.K H p f/\t=ăK)/\Ĕd X.K t Ča=ăr/\Q Āw H}:=by
 intro a s c H d g Q I r h;rw[Ĥ0];have ty||(p,f,(),i,()):=ty
 ·show Gk a s c H _ g Q I r {x,T,t,b,(),ty,e,q}
 ·have(u,j,(),k,rt):=zh r;obtain rfl:j=ĂM T:=rt;cases k;have(l,_,(o,h1,h2,_),_):=ϝ i;show {ĉ5,PySem.W.kitx_tuple,Ču o,e,λtk=>{Āw,H,Ċw tk,(),q}}
def dR(K:Zp)(d:X.K=K):{ďy,dN,X,ĊC,∃x T t b,e=[x,.ty T]/\(rP K H x t\/∃p f,x=ł/\bj K H p f/\t=ăK)/\Āg t Ča=ăr/\Q Āw H}:=ZX La
omit e
noncomputable def ky(b:Zv):Nat:=ġm
def vy{z:Str}{b:Zv}(h:ky b+Ėn<=16777216):Ďl z b:=by
 unfold JoinOk;rw[StrLaws.joinTotal];unfold Builtin.Str.tooLong;have e:¬0+ġm+Ėn>sizeLine:=by rw[gg];unfold ky at h;lia
 rw[j_ (by first|show e|(rw[ą5,Nat.zero_add,e]))];rfl
def gQ(z:Str)(b:Zv):{Œ,ăh b,ky b+Ėn}:={āJ,ō Builtin.Str.glued z b<=_,p_,StrLaws.join_length_le z b}
omit L2
namespace L2
open PySem PySem.Spec PyProof.Rows
section
variable{X:Cx}{d:Expr}
def RD(K:Zp):Bool->Hp->Ė Addr Ú|true,H,a,b=>aZ K H a b|false,H,a,b=>bj K H a b
noncomputable def UT(K:Zp):Bool->Addr->It|true,a=>RL K a|false,a=>RJ K a
def iEi(K:Zp)(e:TE):TI:=λf H R=>e f H λx c=>∃a b,x=ô/\(∃g,RD K b c a g)/\R (UT K b a) c
def VQ{l:Expr}{j:TE}(n:PE X l j):PI X d l (iEi X.K j):=by intro f s r H R I h;show cz (n f s r H _ I h) λv c t=>?_;have(x,k,I1,u,w):=t;have(a,b,e,(B,m),q):=w;rw[ēe,u];cases b with
 |true=>
  have(g,y,p,z):=I1.list m;show Wk p.isList {c.heap.objs.size,Ģo,_,_,k,(),{ċl,c.toks,d_ _ e},Cw a _,{_,ge _ (),(),()},λb i=>?_,q};obtain rfl:ĥc b:=ĔY
  show {Ċh,eH _,eH _}|false=>
  have(g,y,p,z):=Ęn m;show z8 {čP,c.heap.IsTuple a g.toArray} {c.heap.objs.size,Ģo,_,_,k,(),{ċl,c.toks,d_ _ e},zj a _,{_,ge _ (),(),()},λb i=>?_,q};obtain rfl:ĥc b:=ĔY
  show {Ċh,eH _,eH _}
def ML(K:Zp)(e:X.K=K){l:Expr}{b:TE}(f:PE X l b):PI X d l (iEi K b):=by rw[ŧ,VQ f]
def Rm{K:Zp}{b:Bool}{a:Addr}{xs:Ú}{g:TG}{ds:Zy}{k:Nat}{tc:TT}{te:TE}{q:St}{r:Hp}{D:Addr}{F:ăx}(Pv:ċu)(h0:Pv 0 [] (aJ r D ŀ))(t:∀i e f,Ąp->Pv i e f->RD K b f a xs)(u:∀i x e f,Ĉb=ù->Pv i e f->g x (iw ds k q) f λh p=>tc h p {ĉh,b,te h n λy o=>o D=ò e/\ăz e.length/\∃j,j<ăt/\j={Ąy,i+1}/\{ć1,i+1}/\Pv (i+1) (e++[y]) (ďI o e),j<ăt/\j={Ąy,i+1}/\{ć1,i+1}/\Pv (i+1) e n})(hd:∀e f,ČS e f->F f):{ċ3,ĉf,W 0 m [] (aJ r D ŀ),∀i m e f,W i m e f->((UT K b a).stop i f/\F f)\/((UT K b a).go i f/\∀x z,(UT K b a).yld i f x z->g x (iw ds k q) z λh p=>tc h p {ĉh,b,te h n λy o=>o D=ò e/\ăz e.length/\∃j,j<m/\W (i+1) j (e++[y]) (ďI o e),j<m/\W (i+1) j e n})}:=by cases b with|true=>show gU Pv h0 t u hd|false=>show dH Pv h0 t u hd
def Um{K:Zp}{b:Bool}{a:Addr}{xs:Ú}{g:TG}{o:TS}{D:jx}{e:St}{H:Hp}(Pv:Ĉc)(h0:Pv 0 e H)(p:∀i e H,Ąp->Pv i e H->RD K b H a xs)(q:∀i x e H,Ĉb=ù->Pv i e H->g x e H λf n=>o {ĂH,Pv (i+1),Pv (i+1)} f n)(hd:∀e H,ČS e H->D.nx e H):{ċ3,ČN,W 0 m e H,∀i m e H,W i m e H->((UT K b a).stop i H/\D.nx e H)\/((UT K b a).go i H/\∃N:Ų,(∀h j,N h j->∃r,r<m/\W (i+1) r h j)/\∀x j,(UT K b a).yld i H x j->g x e j λf n=>o (ĂH N N) f n)}:=by cases b with|true=>show vD Pv h0 p q hd|false=>show Ej Pv h0 p q hd
def RD.len{K:Zp}{b:Bool}{H:Hp}{a:Addr}{e:Ú}(h:RD K b H a e):US K ô H e.length:=by cases b with|true=>rw[ţ,{_,h,()}]|false=>rw[Ĉ,{_,h,()}]
def RD.same{K:Zp}{b:Bool}{H f:Hp}{a:Addr}{g:Ú}(e:ao H f)(h:RD K b H a g):RD K b f a g:=by cases b with|true=>show e.seq h|false=>show þ e h
abbrev TJ:=St->Hp->ĀR VK
def PJ(X:Cx)(e:Zw)(t:TJ):Prop:=∀(a:Zr)(s:Shared)(c:St)(H:Hp)(b:Str)(Q:VK),aU X a c H s->t c H b Q->{ű,joinParts b (Āi evalEach e),EP X a c Q}
def tJn:TJ:=λ_ H a Q=>ĜF/\Q (á a) H
def tJc(te:TE)(t:TJ):TJ:=λb H a Q=>te b H λv c=>∃y,v=ćU/\{ĩ,Ļ a y}/\t b c (a++y) Q
def tFv(te:TE):TE:={ďg,te,b,H,λv a=>(∃i:Int,v=Ŵ/\ėJ/\Q {á,ăP i} a)\/∃z,v=į/\Ė8/\Q į a}
def tFs(t:TJ):TE:=λa H Q=>t a H Str.empty Q
def MH:PJ X [] tJn:=by intro b s c H a Q I h;show joinParts_nil {á a,H,ź,ĸ,Ŕ} ü
def ox{e:Expr}{b:Zw}{te:TE}{t:TJ}(f:PE X e te)(g:PJ X b t):PJ X (e::b) (tJc te t):=by intro a s c H i Q I h;show joinParts_cons (cz (f a s c H _ I h) λv j k=>?_);have(x,l,I1,m,y,ex,n,q):=k;subst ex;rw[ėx,m,{n,g a j c l _ Q I1 q}]
def IG{e:Expr}{b:Pos}{te:TE}(g:PE X e te):PE X (.FormattedValue e (-1) none b) (tFv te):=by
 intro a s j H Q I h;show FormattedValue_plain (cz (g a s j H _ I h) λv m k=>?_);have(x,c,I1,f,q):=k;have(i,(),hi,q)||(z,(),l,q):=q
 ·rw[ėx,f,formatField_int_small hi {Ĉo,c,I1.tok _,ĸ,q}]
 ·rw[ėx,f,formatField_str (λn tk=>{į,c,I1.tok _,ĸ,q}) l]
def IH{e f:Expr}{g:Zw}{b:Pos}{t:TJ}(h:PJ X (e::f::g) t):PE X (.JoinedStr (e::f::g) b) (tFs t):=by intro a s c H Q I hh;show JoinedStr_many (h a s c H Str.empty Q I hh)
omit e
def rc(x:Str):čk x=x:=by change ώ {#[]++x.cps}=x;simp
def xq(x y z:Str):x++y++z=x++(y++z):={ĆK,ώ {x.cps++y.cps++z.cps}={x.cps++(y.cps++z.cps)},X1}
def cA(x y:Str):Ļ x y=Ĝi:=by change(x.cps++y.cps).size=_;simp[Str.length]
def qY(z x:Str)(b d:Zv):{ĆH,ĆH x b,d}={ĆH,x,b++d}:=by change {Ĝs,z,{Ĝs,z,x::b}::d}={Ĝs,z,x::(b++d)};unfold Builtin.Str.glued;simp only[List.drop_succ_cons,YE,List.headD_cons,v_]
def KJ(z x:Str):∀b:ċ,z++ĆH x b=(x::b).foldl (λr t=>r++z++t) Str.empty:=by
 intro b;have h:∀(b:Zv)(a x:Str),a++ĆH x b=b.foldl (λr t=>r++z++t) (a++x):=by
  intro b
  induction b with|nil=>intro a x;rfl|cons t r c=>
   intro a x;rw[rV,xq,xq,<-c]
   congr 1
   have e:=qY z x [t] r;have d:ăh [x,t]=x++z++t:=();rw[d,xq]at e;show e.symm
 rw[ý,rV,rc,h b z x]
theorem xV{d:Type}:∀l:Ϸ,{Ė1,ZT l.length,λi=>ąG}=l
 |[]=>()|a::l=>by
  rw[ig,Yk,List.filterMap_cons_some (f:=λi=>{ì,a::l}) (b:=a) (),XZ]
  congr 1
  show xV l
def Pi(n:Nat):Builtin.Str.strSliceIndices Ą2 none 1 (n+1)={ĉz,n} (·+1):=by
 unfold Builtin.Str.strSliceIndices sliceRange;simp only[{Ĥ,ϸ>0},YI];have h1:max û (min {Ā3,ϸ,0,1+{Ď,n+1},1} {Ď,n+1})=1:=by rw[hF ß];lia
 rw[h1]
 by_cases hn:n=0
 ·subst hn;rfl
 ·have h2:ϸ<{Ď,n+1}:=Ø
  rw[hY h2,Int.ediv_one,{ύ,{āS,{Ď,n+1}-1+1,1}=n}];show z4 λi _=>?_;lia
def nW(c:Nat)(x:Str):{ćP,āQ++x,Ą2}=x:=by
 have b:Ļ āQ x=x.cps.size+1:=by rw[cA];rw[ĂX,1+x.cps.size=_]
 unfold Txt.slice;rw[b,Pi];have a:¬(((1:Int)==1&&(List.map (·+1) (List.range x.cps.size)).length==x.cps.size+1)=true):=Ü
 rw[hF a,XZ];have e:((λi=>ì (āQ++x).cps)∘λi=>i+1)=λi=>Ĥh:=by
  funext i
  rw[ż,(#[c]++x.cps)[i+1]?=_,Array.getElem?_append_right Ü];simp
 rw[e];rw[Āj,xV x.cps.toList,lh];rw[this]
def Gv(K:Zp)(pm:Params)(a:Addr):Prop:=āE a/\∃b n,Ăk a=Ù {ĖM,none,.dict b n,#[]}/\ēd PySem.W.KeysLit pm
def xC(K:Zp)(t:Addr)(b:Ú):Prop:=∃(o:Obj)(a:Zx)(n:Nat),Ăk t=Û/\ăm ăK/\ēp a n/\ĩ a.size/\bx b a.toList
def xC.sq{K:Zp}{t:Addr}{b:Ú}(h:xC K t b)(H:Hp):bj K H t b:=æ h
section
variable{X:Cx}{i:Expr}{b:Pos}{ty:TE}
def W7(K:Zp)(a:Addr)(ty:TE):TE:={ă1,ty,c,H,λy e=>∃x u v,y=ħ/\ćb a x=Ù ð/\bu v u/\Q v e}
def G3{x:Str}{e:Pos}{a:Addr}(K:Zp)(m:X.K=K)(hd:Gv K X.w.params a)(hg:Gl X x)(hm:ās=í a)(hi:PE X i ty)(p:UO i)(g:Āx:=by decide):PE X {ćo,Ăl e,i,b} (W7 K a ty):=by subst m;intro c s j H Q I h;have(lo,S,n,k,q):=hd;have hn:PE X (Ăl e) (tC ô):=y4 hg hm () g;show {ġV,Ig,p,cz (hn c s j H (λv r=>v=ô/\r=H) I Λ) λu t⟨z,A,I1,B,C,D⟩=>?_};subst C D;obtain rfl:u=Z7:=B;show cz (hi c t j A _ I1 h) λiv T E=>?_;have(y,G,l,J,L,U,M,N,O,P,R):=E;subst N;have(tk,()):=J;have f:=Ĕu X.prog X.w l.kIn k q;show{f.typeIs,PySem.wpAny_getItem_of (ěb L tk) f (Ĝt k O) {M,G,l.tok _,P,R}}
def W8(K:Zp)(a:Addr)(ty:TE):TE:={ă1,ty,c,H,λy e=>∃x r,y=ħ/\ćb a x=Ù r/\Q (Ĳ r.isSome) e}
omit e
section
variable{X:Cx}{o:Expr}
theorem Fi:∀l:ĀZ Tok,bx ((l.map (·.1)).map V.str) (strValues l)|[]=> .nil|p::r=>{ē,œ p.2,Fi r}
def Ti:V->Ú->χ:=λx b H Q=>∃(z y:Str)(a:Zv),x=į/\b=ψ y/\ă9 y.length 0/\ĉa 1000000/\āz z y=a/\∀l,H l=none->{τ,l,ĀE Ğf}
def AG:Jt X "str.split" Ti:=by
 intro a s r H x K v L Q I B C h;have(z,y,D,(),(),w,M,j,q):=h;have(t,()):=B;have(u,(),E):=gZ C;have(m,()):=E;have G:=split_le z y;rw[Ď0,Ψ H=none,eH _];have fin:∀(l:ĀZ Tok)(tk:Nat),Ā4 l.map=āz z y->EP X a r Q Ħ {Ċv,{Ā0,.seq (ăW strValues l)},tk}:=λl tk e=>by
  rw[ĭ,{Ħ,_,I.laid (o:={ø,Ş D.map}) (λb N J=>d_ _ J) (eH _) ?_,(),q _ fresh},{?_,strValues l,0,?_,ge _ ()}]
  ·rw[b_,<-j,gg];lia
  ·rw[ĉb,j,e,Fi l]
 have n:Ė8:=by rw[gg];lia
 cases c:({Ċ,z.length<y.length}||{Ċ,ģk z<ģk y})with|true=>show C_ Zd (XV _ _ _) Y3 (YU _ _) (meets_str_split_cannot_occur z y t m c) (fin [(z,t)] _ (ĂU hY c))|false=>cases k:{Ēh,z,y,0,z.length+1}.isEmpty with|true=>show C_ Zd (XV _ _ _) Y3 (YU _ _) (meets_str_split_not_found z y t m c w k) (fin [(z,t)] _ {è,hF (ăi c),hY k}.symm)|false=>
   have A:āz z y=ĚC z {Ēh,z,y,0,z.length+1} y.length:={è,hF (ăi c),hF (ăi k)};have p:ĩ {ĚC,z,{Ēh,z,y,0,z.length+1},y.length}.length:=by rw[<-A,gg];lia
   show C_ Zd (XV _ _ _) Y3 (YU _ _) (meets_str_split_sep z y t m c w k n p) ?_;have f:=λtk=>fin (numbered s.toks (āz z y)) tk (numbered_texts _ _);rw[A]at f;rw[ā5,wants (EP X a r Q) X.xe _ {s with toks:=_,heap:=Τ {Ā0,.seq (strsFrom s.toks (ĚC z _ y.length)).toArray}},strsFrom_eq,f _]
def VM:V->Ú->χ:=λx e H Q=>∃(z y a b c:Str),x=į/\e=ψ y/\ă9 y.length 0/\ĉa 1000000/\đi z y=(a,b,c)/\∀l,H l=none->{τ,l,ĀF l [á a,á b,á c]}
def QJ:Jt X "str.partition" VM:=by
 intro j s A H x K v L Q I B C h;have(z,y,a,b,c,(),(),D,M,f,q):=h;have(t,()):=B;have(u,(),E):=gZ C;have(G,()):=E;rw[Ď0,Ψ H=none,eH _];have fin:∀(l m tc:Tok)(n p w:Str)(tk:Nat),(n,p,w)=(a,b,c)->EP X j A Q Ħ {Ċv,{Ć2,.seq #[Ąh n l,Ąh p m,Ąh w tc]},tk}:=λl m tc n p w tk e=>by cases e;rw[ö,{Ħ,_,I.laid (o:={ň,[á a,á b,á c]}) (λb N J=>d_ _ J) (eH _) ?_,(),q _ fresh},{by rw[gg];simp,[Ąh a l,Ąh b m,Ąh c tc],{ē,ĸ,μ ĸ ĸ},{_,ge _ (),(),_,()}}]
 show C_ F.slot_str_partition (XV _ _ _) F.entry_str_partition (F.args_str_partition_2 _ _) (meets_str_partition z y t G D (by rw[gg];lia)) ?_;unfold Txt.partition at f
 revert f
 cases Ēh z y 0 1 with|nil=>show λf=>fin _ _ _ _ _ _ _ f|cons k r=>show λf=>fin _ _ _ _ _ _ _ f
def Kr:Jt X "str.startswith" (λx b H Q=>∃z y,x=į/\b=ψ y/\Q {Ĳ,ĊV z y} H):=by intro a s j H x b v k Q I c e h;have(z,y,(),(),q):=h;rw[ěo,c,gZ e];have(l,()):=f;show SC.startswith {Ĳ _,H,I,(),q}
def Lb:{ďz,dN,X,ů "int",∃z n,b=[į]/\intText? z=ăo/\ĉa 640/\Q ăk H}:=by intro a s e H b f Q I r h;have(z,n,(),hn,c,q):=h;rw[ĝ2,gZ r,PySem.W.KIN.call_text hn c {ã _,H,ź,ĸ,q}]
omit e
section
variable{P:Zu}{w:World}{A:Around}{E:Zq}{s:Shared}
def zk(d:ĊD j t k)(f:ĂI t e)(h:e[k]?=Ĕ)(q:∀g,{ĕV,j,t,k+1}->Ĕp j g->Ā1 Q v g):{ŏ,ĎR j}:=by have(ob,b,i,a):=id d;have(l,f1,_,m,f3):=f;rw[Ģ3,a_ {ćp,ĊE,d.typeIs,M_,o0 M_ d.typeIs F.entry_tuple_iterator_next ?_ (Zo _)},{ċb,_,_,ĉn j 0>>=_,_,_,a_ (ĉq b a ľ ?_)},ċb _ _ {ĎP,Ś t==Value.none,ĉn j 1>>=_} _ _ ?_];rw[{ćI,hF,¬{Ĝr,Ś t},ÿ hH z}];rw[ç,a_ {ĉq,b,a,Ąd k,?_},{ċb,_,_,ę1 ľ>>=_,_,_,a_ (w_ f1 f3 ?_)}];simp only[pv,h];rw[Ģ,a_ (Yz b a Ü (eN {v,(),eN (q _ {_,qx _ b (Yx (T_ a _)),{è,Obj.cls_mapFields ..,i},?_} Ęx)})),T_ a];simp[rawInt]
def EK(hh:āb)(b:ĊD j t k)(h:ĂI t d)(i:d[k]?=none)(q:∀g x,Heap.ExtBut j s.heap g->(∃ob,g.get? x=ū/\ob.cls=ĐC)->Ā1 E āi g):{ŏ,ĎR j}:=by
 have(ob,c,l,e):=id b;have(n,f1,_,o,f3):=h;rw[Ģ3,a_ {ćp,ĊE,b.typeIs,M_,o0 M_ b.typeIs F.entry_tuple_iterator_next ?_ (Zo _)},{ċb,_,_,ĉn j 0>>=_,_,_,a_ (ĉq c e ľ ?_)},ċb _ _ {ĎP,Ś t==Value.none,ĉn j 1>>=_} _ _ ?_];rw[{ćI,hF,¬{Ĝr,Ś t},ÿ hH z}];rw[ç,a_ {ĉq,c,e,Ąd k,?_},{ċb,_,_,ę1 ľ>>=_,_,_,a_ (w_ f1 f3 ?_)}];simp only[pv,i];rw[ĢM,a_ (yl (a_ (Yz c e Ü {ăI,_,_,newExc ĐC []>>=_,_,_,_,a_ ?_})))];rw[ĭ,a_ (ot {ϟ,firstArgMember _ _,wpAny_of_eq (a:=Value.none) (by first|rfl|(rw[Ģ0])) (ot ?_ ĕe)} ĕe),a_ (wpAny_handled ?_)]
 first|rw[Ĩ A.in1.handled none hh]|rw[hh]
 show a_ (eN (wpAny_throw (q _ _ (((Ęx).extBut.push _).push _) {_,ge _ (),()})))
def Pp{b:Bool}{j t:Addr}{k:Nat}{d:Zx}{v:Value}{Q:Zq}(e:xD b s.heap j t k)(f:āH vU b t d)(h:d[k]?=Ĕ)(q:∀g,xD b g j t (k+1)->Ĕp j g->Ā1 Q v g):{ŏ,ĎR j}:=by cases b with|false=>show zk e f h q|true=>show wpAny_nextOf_list_item e f h q
def OV(z b d e:Addr)(h g:Heap):Prop:=∀c ob,c≠z->c≠b->c≠d->c≠e->Ă6 c=ū->g.get? c=ū
def Jv{c:Bool}{z h d j m t l:Addr}{k1 k2:Nat}{X Z:Zx}{x y a b:Value}{Q:Zq}(D:ZipApart z h d j m t l)(B:Āa IsZip z h d .none)(p1:{ĉ9,h,â j,â m})(p2:ĉ9 d a b)(i1:ĊD j t k1)(i2:xD c s.heap m l k2)(tt:ĂI t X)(ll:āH vU c l Z)(hx:X[k1]?=ù)(hy:Z[k2]?=ϵ)(q:∀g,IsZip g z h d (Ψ rawInt)->Ăr g d x y->{ĕV,j,t,k1+1}->xD c g m l (k2+1)->Ăr g s.heap.objs.size x y->g.objs.size=Ľ->ĂB OV z d j m g->Ā1 Q Ħ g):{Đz,ġy {ŝ z,[]},λfin s'=>∃v,fin= .done (.ret v)/\Q v s'}:=by
 rw[Ŏ,{ăI,_,_,ĉn z 2>>=_,_,_,_,a_ (Ċk B ċq ?_)},{ăI,_,_,ĉn z 3>>=_,_,_,_,a_ {Ċk,B,â h,a_ (w_ p1 () ?_)}},{ăI,_,_,{ĠJ,â z}>>=_,_,_,_,a_ ?_}];rw[Ġq,a_ {Ċk,B,.none,eN ?_}];simp only[YI];show a_ (yl (a_ {Ċk,B,Āv,a_ (rm B Ü λg1 M k=>?_)}))
 replace M:IsZip g1 z h d .ellipsis:=M
 rw[Ġ0,a_ ?_];show a_ (a_ (YN {ăI,_,_,ĎR j>>=_,_,_,_,a_ (zk (i1.extBut k.extBut D.i1z) (tt.extBut k.extBut D.l1z) hx λg2 N r=>eN ?_)}));have C:Ăr g2 d a b:=r.extBut _ _ D.TOi1 (k.extBut _ _ D.TOz p2);show a_ (w_ C () (a_ (wpAny_updateSeq_pair C λg3 n u=>?_)))
 replace n:Ăr g3 d x b:=n
 rw[ĭ,a_ {Ğy,eN (a_ (a_ (YN ?_)))},{ăI,_,_,ĎR m>>=_,_,_,_,a_ (Pp (i2.at λ_ e=>u.extBut _ _ D.TOi2.symm (r.extBut _ _ D.i12.symm (k.extBut _ _ D.i2z e))) (ll.at λ_ e=>u.extBut _ _ D.l2TO (r.extBut _ _ D.l2i1 (k.extBut _ _ D.l2z e))) hy λg4 O F=>eN ?_)}]
 have G:Ăr g4 d x b:=ĉF _ _ D.TOi2 n;show a_ (w_ G () (a_ (wpAny_updateSeq_pair G λf i H=>?_)))
 replace i:Ăr f d x y:=i
 show a_ {Ğy,eN (eN (a_ (w_ i () (a_ (wpAny_newTuple ?_)))))};have sz:ĕ1 f.objs.size:=by rw[H.1,F.1,u.1,r.1,k.1]
 have Y:IsZip f z h d .ellipsis:=H.extBut _ _ D.TOz.symm {ĉF,_,_,D.i2z.symm,u.extBut _ _ D.TOz.symm (r.extBut _ _ D.i1z.symm M)};have k5:ĂB OV z d j m f:=λc o p K R S e=>H.extBut _ _ K {ĉF,_,_,S,u.extBut _ _ K (r.extBut _ _ R (k.extBut _ _ p e))};have T:f.IsTupleIter j t (k1+1):=((N.extBut u.extBut D.TOi1.symm).extBut F.extBut D.i12).extBut H.extBut D.TOi1.symm;have U:xD c f m l (k2+1):=O.at λ_ e=>H.extBut _ _ D.TOi2.symm e;have zl:z<f.objs.size:=h_ Y;show{ăI,_,_,{Ε,Builtin.SmallTypes.ownedTupleHandOut,z,â f.objs.size}>>=_,_,_,_,a_ ?_};unfold Builtin.SmallTypes.ownedTupleHandOut;have z6:IsZip (f.push {Ć2,.seq #[x,y]}) z h d .ellipsis:=d_ _ Y;show a_ (rm z6 Ü λg7 V W=>?_)
 replace V:IsZip g7 z h d ģ6:=V
 show rm V Ü λI L s8=>?_
 replace L:IsZip I z h d ģ6:=L
 have up:∀c ob,c≠z->f.get? c=ū->I.get? c=ū:=λc ob p e=>s8.extBut _ _ p (W.extBut _ _ p (d_ _ e));have pn:Ăr I f.objs.size x y:=s8.extBut _ _ (mu zl) (W.extBut _ _ (mu zl) (ge _ ()));have J:I.objs.size=f.objs.size+1:=ĀU s8.1 W.1 ol
 rw[sz]at L pn J;rw[ϑ,eN {_,(),(show τ f.objs.size _ from ?_)},sz,q I L (up _ _ D.TOz i) (T.at λob e=>up _ ob D.i1z e) (U.at λob e=>up _ ob D.i2z e) pn J λc ob p K R S e=>up c ob p (k5 c ob p K R S e)]
def Ju(hh:āb)(D:ZipApart z i h m p t l)(j:Āa IsZip z i h .none)(B:{ĉ9,i,â m,ł})(R:ĉ9 h a b)(C:ĊD m t k1)(F:ĂI t G)(H:G[k1]?=none)(q:∀g e,ĂB OV z h m p g->(∃ob,g.get? e=ū/\ob.cls=ĐC)->Ā1 E ąa g):{ŏ,ġy {ŝ z,[]}}:=by
 rw[Ŏ,{ăI,_,_,ĉn z 2>>=_,_,_,_,a_ (Ċk j ċq ?_)},{ăI,_,_,ĉn z 3>>=_,_,_,_,a_ {Ċk,j,â i,a_ (w_ B () ?_)}},{ăI,_,_,{ĠJ,â z}>>=_,_,_,_,a_ ?_}];rw[Ġq,a_ {Ċk,j,.none,eN ?_}];simp only[YI];show a_ (yl (a_ {Ċk,j,â h,a_ (rm j Ü λI n o=>?_)}))
 replace n:IsZip I z i h .ellipsis:=n
 rw[Ġ0,a_ ?_];show a_ (a_ (YN {ăI,_,_,ĎR m>>=_,_,_,_,a_ (EK hh (C.extBut o.extBut D.i1z) (F.extBut o.extBut D.l1z) H λJ e r K=>?_)}));have(L,f,k):=K;have u:IsZip J z i h .ellipsis:=r _ _ D.i1z.symm n;have M:e≠z:=λc=>by subst c;rw[u]at f;cases f;simp at k
 show rm u Ü λN _ v=>q N e (λc ob y _ O _ d=>v.extBut _ _ y (r _ _ O (o.extBut _ _ y d))) {L,v.extBut _ _ M f,k}
def Jw{c:Bool}{z h d e f t l:Addr}{k1 k2:Nat}{i j:Zx}{x y a b:Value}{Q:ĳ->Ĝ}(D:ZipApart z h d e f t l)(m:Āa IsZip z h d .none)(n:ĉ9 h ąa āk)(o:ĉ9 d a b)(p:ĊD e t k1)(r:xD c s.heap f l k2)(u:ĂI t i)(B:āH vU c l j)(C:i[k1]?=ù)(G:j[k2]?=ϵ)(q:∀g,IsZip g z h d (Ψ rawInt)->Ăr g d x y->{ĕV,e,t,k1+1}->xD c g f l (k2+1)->Ăr g s.heap.objs.size x y->g.objs.size=Ľ->ĂB OV z d e f g->{Ā1,Q,Ù Ħ,g}):{ŏ,ĒR z}:=by rw[ĕh,ču z "zip",{_,m,()}];rw[ö,a_ (R_ {ćp,ĊE,ty,Yu,o0 Yu ty F.entry_zip_next (Jv D m n o p r u B C G λg a1 v H a4 I J K=>?_) (F.args_zip_next_1 _)}),eN (q g a1 v H a4 I J K)]
def Lr(hh:āb)(D:ZipApart z h d f i t l)(j:Āa IsZip z h d .none)(m:{ĉ9,h,āk,â i})(n:ĉ9 d a b)(o:ĊD f t k1)(p:ĂI t r)(u:r[k1]?=none)(q:∀g,ĂB OV z d f i g->Ā1 Q none g):{ŏ,ĒR z}:=by rw[ĕh,ču z "zip",{_,j,()}];show a_ (R_ {ćp,ĊE,ty,Yu,o0 Yu ty F.entry_zip_next (Ju hh D j m n o p u λg e k v=>?_) (F.args_zip_next_1 _)});have(ob,h1,h2):=v;show a_ {ėd,X_,"StopIteration",Ču ob,isSubtype_stop,eN (q g k)}
abbrev O7(h:Heap)(t:Addr):Heap:=h.push {ĤW,#[ľ,ąi]}
abbrev WR(c:Bool)(h:Heap)(t l:Addr):Heap:=(O7 h t).push {ąS,ĘO c,#[ž,ąi]}
abbrev WQ(c:Bool)(h:Heap)(t l:Addr):Heap:=(WR c h t l).push {Ć2,.seq #[â h.objs.size,{â,ĚL O7 h t}]}
abbrev WP(c:Bool)(h:Heap)(t l:Addr):Heap:=(WQ c h t l).push {Ć2,.seq #[.none,.none]}
abbrev UV(c:Bool)(h:Heap)(t l:Addr):Heap:=(WP c h t l).push {ąS,"zip",#[.none,ċq,ċq,â (WR c h t l).objs.size,â (WQ c h t l).objs.size]}
def Hj(c:Bool)(t l:Addr)(b f:Zx):Meets (Builtin.«zip.__new__» {[ů "zip",ľ,ž],[]}) (λ_ R s=>ĂI t b/\āH vU c l f/\{Ā1,R,.ok (.ret {â,ċ4 WP c t l}),āH UV c t l}):= .of_wp λprog w A R s h=>by
  have(a,g,d,tk,os):=s;have(h1,h2,h):=h;have i:=sub_zip;have j:Heap.IsTuple {Ğz,(a,g,d,tk,os,)} t b:=h1;have k:vU c {Ğz,{a.push {ĤW,#[ľ,ąi]},g,d,tk,os}} l f:=h2.at λ_ e=>d_ _ e
  wp_walk using z8 j,Ii k
  show{_,(),h}
def K6{c:Bool}{t l:Addr}{h i:Zx}{Q:Zq}(h1:ĂI t h)(h2:āH vU c l i)(q:∀g,IsZip g (ąL 4) (ąL 2) (ąL 3) .none->{Ăr,g,ąL 2,Ħ,ĒV}->{Ăr,g,ąL 3,.none,.none}->ĥ1 t 0->xD c g Ľ l 0->(∀c o,ε c=Û->g.get? c=Û)->Ā1 Q {â,ąL 4} g):{ŏ,call {ů,"zip"} [ľ,ž]}:=by
 show callType_new F.called_zip ß (F.typeCall_zip_2 _ _) (F.newCall_zip_2 _ _) (λob=>F.args_object_init_3 ob _ _) F.entry_zip_new (Hj c t l h i) {h1,h2,?_};have a:ėI O7 t=Ľ:=ďP;have b:ċ4 WR c t l=ąL 2:=Ē ol a
 have e:ċ4 WQ c t l=ąL 3:=Ē ol b
 have j:ċ4 WP c t l=ąL 4:=Ē ol e
 have f:(āH UV c t l).get? (ċ4 WP c t l)=Ù _:=ge _ ();have k:(āH UV c t l).get? (ċ4 WQ c t l)=Ù _:=d_ _ (ge _ ());have m:(āH UV c t l).get? (ċ4 WR c t l)=Ù _:=d_ _ (d_ _ (ge _ ()));have n:(āH UV c t l).get? (ėI O7 t)=Ù _:=d_ _ (d_ _ (d_ _ (ge _ ())));have p:Ψ (āH UV c t l).get?=Ù _:=d_ _ (d_ _ (d_ _ (d_ _ (ge _ ()))));change _/\_;rw[b,e,j]at f;rw[a,b]at m;rw[e]at k;rw[a]at n;rw[ó,j,{{_,f,()},q _ f m k {_,p,(),()} {_,n,(),()} λc ob d=>d_ _ (d_ _ (d_ _ (d_ _ (d_ _ d))))}]
omit e
def nH{X:Cx}{d:Zr}{g:St}{H:Hp}{s:Shared}{h':Heap}{t':Nat}{ch:Zz}(I:aU X d g H s)(k:{ê,b∉ch,ģ=Û->ŵ=Û})(f:∀b∈ch,xE X d H b):aU X d g H ĎB:=by
 have a:{ār,H b=ð,b∉ch}:=λb u e z=>ēa (f b z).1 e
 show I.step (g':=s.gens) (d':=s.drawn) (ch:=ch) (λb h=>?_) (λb o _ _ hc e _=>k b o hc e) (λb o _ _ hc e _=>{o.slots,k b o hc e}) ģr (λb o hc e=>{o,k b o hc e}) đk ĐX (λb y e=>{#[],by rw[e];simp}) ĈO ěN I.bare
 ·have(_,f1,_,f3,i,j):=f b h;show(f3,f1,i,j,)
 ·have(o,l,p,t,r):=hm;show{o,l,p,k _ o {ÿ,(f _ z).2.1,()} t,r}
 ·show(čl b u e).stay (λc v hc q=>k c v ?_ q) ĈZ Ăd;have z||z:=hc
  rw[Ĺ,z,a b u e]
  ·show a c _ z
noncomputable def WK(c:Bool)(K:Zp)(t l:Addr):It:={λi H=>∃a b x y,bj K H t a/\RC c K H l b/\Ąo=ù/\ϊ=ϵ,λi H v d=>∃T x y,H T=none/\v=Ćs/\d=ĀF T [x,y]/\∀a b,bj K H t a->RC c K H l b->Ąo=ù/\ϊ=ϵ,λi H=>∃a,bj K H t a/\a.length<=i}
def Lx{c:Bool}{P:Zu}{w:World}{K:Zp}{G:Zw}{x1:Nat}{N:Pos}{z f j m n t l:Addr}(D:ZipApart z f j m n t l):Cm P w K (Ĉf G x1 N) (WK c K t l) [z,f,j,m,n] z (λi h=>IsZip h z f j .none/\{Ăr,h,f,â m,â n}/\(∃a b,Ăr h j a b)/\Ėx m t i/\xD c h n l i)where
 mem:=Ü
 obj:=λi h st b d=>by
  have(a1,q,(_,_,r),(al,a4,_,d4),(an,B,_,d5)):=st;simp only[q_,n6,E1]at d;have()||()||()||()||():=d
  ·show{_,a1,λv e=>ĄM e}
  ·show{_,q,λv e=>ĄM e}
  ·show{_,r,λv e=>ĄM e}
  ·show{_,a4,λv e=>ēa d4 e}
  ·show{_,B,λv e=>ēa d5 e}
 keep:=λi h h' st k=>by rw[Ěw];show{k z Ü _ a1,k f Ü _ q,{a,b,k j Ü _ r},a4.at λob e=>k m Ü ob e,B.at λob e=>k n Ü ob e}
 item:=by
  rw[Ġa];have(xs,ys,x,y,J,S,T,hy):=hg;have(C,U,p,hz):=ϝ J;have(ag,V,p2,Y):=I.sqE S;have(u,hu,ru):=U.get T;have(Z,aa,ad):=V.get hy;rw[Ěw];rw[ç,Jw D a1 q r a4 B {čP,ĂI t C.toArray} p2 (x:=u) (y:=Z) (by simpa using hu) (by simpa using aa) λg b1 b2 b3 b4 b5 b6 off=>?_,{_,(),wpAny_letOwnedTupleGo_zip b1 λg' c1 F=>?_}];have lt:∀c∈[z,f,j,m,n],Ĉx c:=λc L e=>by
   have hs:∃ob,ε c=ū:=by
    simp only[q_,n6,E1]at L;have()||()||()||()||():=L
    ·show{_,a1}
    ·show{_,q}
    ·show{_,r}
    ·have(ob,e,_):=a4;show(ob,e,)
    ·have(ob,e,_):=B;show(ob,e,)
   have(ob,h):=hs;rw[e]at h;rw[Ā,h_ h,nk _]
  rw[Ď0,Ψ H=none,eH _];have I1:aU X A σ {ěj,H,[x,y]} {Ċv,{Ć2,.seq #[u,Z]},s.toks}:=I.laid Ċg (eH _) {by rw[gg];simp,[u,Z],μ ru ad,{_,ge _ (),(),_,()}}
  have I2:={ĞZ,g',s.toks,[z,f,j,m,n],I1,Ĥ3,λb d=>?_}
  ·rw[ϑ,{Ħ,_,I2,(),{_,x,y,fresh,(),(),λap as h1 h2=>{{Þ,ĖV h1 J,T},{Þ,Y _ h2,hy}}},{c1,{ĉF,_,_,D.TIz,off _ _ D.TIz D.TITO D.TIi1 D.TIi2 q},{_,_,ĉF _ _ D.TOz b2},b3.extBut F.extBut D.i1z,b4.at λ_ e=>ĉF _ _ D.i2z e},λb d=>?_},ay (lt b d),(M b d).1]
  ·have nb:ú z/\ú f/\ú j/\ú m/\ú n:=ģe
   by_cases eb:ĕ1 b
   ·subst eb;rw[ĄN,ge _ (),e,ĉF _ _ nb.1 b5]
   ·have e':ģ=Û:=by
     have(z2,_)||e2:=XL e
     ·rw[Ā,z2,eb]
     ·show e2
    show {ĉF,_,_,nb.1,off b o nb.1 nb.2.2.1 nb.2.2.2.1 nb.2.2.2.2 e'}
  ·have(f0,f1):=M b d;show{{Þ,ay (lt b d),f0},f1}
 done:=by
  rw[Ġa];have(xs,hq,T):=hg;have(C,U,p,hz):=ϝ hq;have hl:=U.length;rw[Ěw];show Lr ϭ D a1 q r a4 {čP,ĂI t C.toArray} (by simp;exact o'0 T hl) λg off=>{ą,nH (t':=s.toks) (ch:=[z,f,j,m,n]) I Ĥ3 M};have nb:ú z/\ú f/\ú j/\ú m/\ú n:=ģe
  show off b o nb.1 nb.2.2.1 nb.2.2.2.1 nb.2.2.2.2 e
 self:=čm wpAny_pyIter_zip ĂF h
omit L2
namespace L2
open PySem PySem.Spec PyProof.Rows PySem.W
section
variable{X:Cx}
def MR{x:Str}{d:Pos}{a:Addr}{i:Expr}{ty:TE}(K:Zp)(m:X.K=K)(hd:Gv K X.w.params a)(hg:Gl X x)(hm:ās=í a)(hi:PE X i ty)(e:Āx:=by decide):PC X .In i ćZ (W8 K a ty):=by subst m;intro c s f H Q I h;have(lo,L,n,g,l):=hd;show cz (hi c s f H _ I h) λiv o p=>?_;have(y,j,I1,q,t,r,A,B,C):=p;subst A;have(tk,()):=q;have hn:PE X ćZ (tC ô):=y4 hg hm () e;show cz (hn c o f j (λv D=>v=ô/\D=j) I1 Λ) λu M⟨z,E,k,F,G,J⟩=>?_;subst G J;obtain rfl:u=Z7:=F;show PySem.wpAny_in_of (ěb t tk) lo (Ĕu X.prog X.w k.kIn g l) {Þ,Ĝt g B,{Ĳ r.isSome,E,k.tok _,(),C}}
def Aj{st:Stmt}:PS X st ăD:=ġg
omit e
def KG{K:Zp}{w:World}{pm:Params}{a:Addr}(h:Ġ3 pm)(k:Gv K pm a):Gv K w.params a:=h▸k
def jU{x y:Str}(h:Ğt y.cps.toList):x=y:=by cases x with|mk a=>cases y with|mk b=>have:a=b:=Ze.mp h;rw[this]
def bK(x y:Str):{ĉm,x++y,x.cps.toList++y.cps.toList}:={ĆK,(x.cps++y.cps).toList=_,Array.toList_append}
noncomputable def gl(c:Nat):ĉ ċK->ċK|[]=>[]|[x]=>x|x::y::r=>x++c::gl c (y::r)
theorem Jd(c:Nat):∀l:ċ,{ĉm,ZE ZV l,gl c (l.map (·.cps.toList))}|[]=>()|[x]=>()|x::y::r=>by change{ĉm,x++āQ++{ZE,ZV,y::r},_};rw[bK,bK,Jd c (y::r)];rw[ż,_=x.cps.toList++c::gl c ((y::r).map (·.cps.toList)),me];rfl
theorem Jm{c:Nat}:∀{x y u v:Zy},c∉x->c∉y->x++c::u=y++c::v->x=y/\u=v|[],[],u,v,_,_,h=>ą (by injection h)|[],b::y,u,v,_,d,h=>by rw[ěH];rw[Ā,Þ h1 f_,d]|a::x,[],u,v,e,_,h=>by rw[ěH];rw[Ā,Ă h1 f_,e]|a::x,b::y,u,v,e,d,h=>by injection h with h1 h2;have(f,g):=Jm {ÿ,e,fy _ z} {ÿ,d,fy _ z} h2;show{Ē h1 f,g}
theorem N7{c:Nat}:∀{l m:ĉ ċK},l≠[]->m≠[]->(∀x∈l,c∉x)->(∀x∈m,c∉x)->gl c l=gl c m->l=m|[],_,h,_,_,_,_=>ť () h|_,[],_,h,_,_,_=>ť () h|[x],[y],_,_,_,_,h=>{Ź,Ĩ x y h}|[x],y::z::r,_,_,d,_,h=>by rw[ĂD,x=y++c::gl c (z::r)];rw[Ā,by rw[h];simp,d x f_]|x::z::r,[y],_,_,_,hm,h=>by rw[ĂD,x++c::gl c (z::r)=y];rw[Ā,by rw[<-h];simp,hm y f_]|x::a::r,y::b::t,_,_,d,hm,h=>by have(f,g):=Jm (d x f_) (hm y f_) {Ĩ,x++c::gl c (a::r),y++c::gl c (b::t),h};have:=N7 (l:=a::r) (m:=b::t) (nofun) (nofun) (λq e=>d q (fy _ e)) (λq e=>hm q (fy _ e)) g;rw[f,this]
def iQ(c:Nat)(x:Str):Prop:=c∉x.cps.toList
theorem sN:∀{l m:Zv},{Ăi,(·.cps.toList)}=m.map (·.cps.toList)->l=m|[],[],_=>()|[],_::_,h=>nomatch h|_::_,[],h=>nomatch h|x::r,y::t,h=>by simp only[kw,Zn]at h;rw[jU ü,sN Ŕ]
def kJ{y:Str}{c:Nat}(f:y=ZV){l:Zv}(b:l≠[])(g:∀p∈l,iQ c p):{āz,Āh y l,y}=l:=by
 subst f;have e:Āh āQ l=ZE ZV l:=p_ _ _;rw[e];rw[Ďk,m6 (λz:Str=>z.cps.toList) (YQ (ZE ZV l) ZV),StrLaws.split_free (ZE ZV l) c,PyProof.Rows.split_pos (ZE ZV l) ZV];generalize h:{āz,ZE ZV l,ZV}=S at h1 h2 h3;simp only[Jd]at h1;show sN (N7 (c:=c) ?_ ?_ ?_ ?_ h1)
 ·intro z;have:=đH m6 z;simp at this;rw[this]at h3;simp at h3
 ·intro z;show b (YJ.mp z)
 ·intro x a;have(p,d,()):=ĀX;show h2 p d
 ·intro x a;have(p,d,()):=ĀX;show g p d
def Kf{y:Str}{c:Nat}(f:y=ZV){a b:Str}(g:iQ c a):{đi,a++y++b,y}=(a,y,b):=by
 subst f;have e:{ĉm,a++āQ++b,a.cps.toList++c::b.cps.toList}:=by rw[bK,bK,me];rfl
 have ln:{Ļ,a++āQ,b}=ćy ćR:=by rw[cA,cA];rw[ĂX,ćy 1+b.length=_]
 have la:ģa a.length:=by change ģa a.cps.size;simp
 have d:StrLaws.At (a++āQ++b) ZV {Ļ,a++āQ,b} a.length:=by show(Ha _ c a.length).mpr ?_;rw[e,vu (o'13 la),la,Nat.sub_self];rfl
 rcases (Zi (a++āQ++b) ZV)with⟨_,h⟩|⟨i,h,h1,h2⟩
 ·rw[Ā,d,h _]
 ·have hi:i=a.length:=by
   have q||q||q:=YX i a.length
   ·have h3:=(Ha _ c i).mp h1;rw[e,rl (o'12 la q)]at h3;rw[Ā,e_ h3,g]
   ·show q
   ·rw[Ā,d,h2 _ q]
  rw[h,hi];have j:{čn,a++āQ++b,0,a.length}=a:=by show jU ?_;rw[Yw,e,YE,Nat.sub_zero,<-la,List.take_left]
  have k:{čn,a++āQ++b,ćy (āQ).length,{Ļ,a++āQ,b}}=b:=by
   show jU ?_;rw[Yw,e,ln];change((a.cps.toList++c::b.cps.toList).drop (ćy 1)).take _=_;rw[<-la,List.drop_append,Ym Ø];have:ĚX 1-a.cps.toList.length=1:=Ø
   rw[this];change(b.cps.toList).take _=_;rw[ăb,g6 ?_,b.cps.toList.length<=ĚX ćR-(ĚX 1)];have:Ām b.cps.toList.length:=by change b.cps.toList.length=b.cps.size;simp
   lia
  rw[j,k]
noncomputable def bR(n:Int):Str:={ώ,ĘX n}
def vd(m:Nat):Ĕ0={Ϻ,Nat.toDigits,10,m} Char.toNat:=KIN.signs_num m
def qU(m:Nat):bR ĘT=ċS++bR {Ď,m+1}:=by show jU ?_;rw[bK,vd];change ĉm {Ę,"-"++Nat.repr (m+1)} _;rw[PyProof.Rows.signs_ofString,String.toList_append,hE,Nat.toList_repr];rfl
def iI(m:Nat):Ě2 Ĕ0:=by intro c hc;rw[vd]at hc;have(b,a,e):=Ķ hc;have r:=PyProof.Rows.digit_range (Nat.isDigit_of_mem_toDigits ß ß a);rw[π,e,r]
def qp(m:Nat):Ĕ0≠[]:=by rw[vd];intro e;have h:0<ō Nat.toDigits 10 m:=Nat.length_toDigits_pos;rw[YJ.mp e]at h;rw[Ā,h,ß]
def vc{m k:Nat}(b:0<k)(h:m<10^k):ě bR ą1<=k:=by change{ϣ,ăP ą1}<=k;show D1 b h
def Kn{n:Int}(h:{ĉK,10^60}):{ĊN,bR n}=ăo:=by cases n with|ofNat m=>have e:=PySem.intText_digits (iI m) (qp m) (g_ (vc (k:=60) ß h) ß);rw[vd,KIN.val_back]at e;show e|negSucc m=>
  have e:=PySem.intText_neg (x:=bR ĘT) (cs:={ęd,{Ď,m+1}}) (by rw[qU,bK];rfl) (iI (m+1)) (qp (m+1)) (by rw[qU,cA];have:=vc (m:=m+1) (k:=60) ß h;rw[ĂX,1+_<=_])
  rw[vd,KIN.val_back]at e;show e
def nq{n:Int}{c:Nat}(h1:c≠45)(h2:¬(48<=c/\c<=57)):iQ c (bR n):=by cases n with|ofNat m=>show{ÿ,h2,iI m c z}|negSucc m=>
  intro z;rw[qU,bK]at z;rw[ĉj,z]
  ·show h1 ĆD
  ·show h2 (iI (m+1) c z)
def GF(m:Nat):{ěB,bR ĘT,"-"}:=by
 rw[qU];unfold Txt.startswith;have e:Ďt=ċS:=Ý
 rw[e];have h:(0+(ċS).length<={Ļ,ċS,bR {Ď,m+1}}/\{î,Builtin.Str.subAt (ċS++bR {Ď,m+1}) ĕ4 0}):=by rw[Ģ,(Ha _ 45 0).mpr ?_,bK];rfl
 rw[ý,Ŕ,Bool.and_true,ji ü]
def GG(m:Nat):ć {ĊV,bR ą1,"-"}:=by
 have e:Ďt=ċS:=Ý
 rw[e];cases a:{ĊV,bR ą1,ĕ4}with|false=>rfl|true=>rw[ġL,k_];rw[Čz,(Ha _ 45 0).mp {kl a.1,a.2},iI m 45 (e_ this)]
def J7(m:Nat):{ćP,bR ĘT,Ą2}=bR {Ď,m+1}:={Þ,qU,nW 45 _}
def KK{y:Str}:∀{t:Str}{r:Zv}{c:Nat}{cs:Zy},t.cps.toList=c::cs->∃ds,{ĉm,{Āh,y,t::r},c::ds}:=by intro t r c cs h;have e:{Āh,y,t::r}={ZE,y,t::r}:=p_ _ _;rw[e];cases r with|nil=>show(cs,h,)|cons u r=>change∃ds,{ĉm,t++y++{ZE,y,u::r},c::ds};rw[bK,bK,h];show ĸ
def QG{x:Str}{c:Nat}{cs:Zy}(h:{Ğt,c::cs})(hc:c≠45):x≠"-":=by
 intro e;have a:Ďt=ċS:=Ý
 rw[e,a]at h;rw[ěH];show hc h1.symm
abbrev dE(P:Zu)(w:World)(d:Addr)(b:Ğ)(e:Nat):HO:= .ext λh=>(āE d/\ċ6)/\∃a,KV b a/\h.DictAt (bp P w) d a e
theorem D9:∀{d:Ğ}{e:ğx Value},KV d e->∀(i:Nat)(k:cJ)(v:V),ąF=ĒQ v->∃u,ì e=ĒQ u/\bu v u|_,_,.nil,i,k,v,h=>ć8|_,_,.cons (b:=q) ⟨a,c⟩ t,i,k,v,h=>by cases i with|zero=>simp at h;subst h;have(f,u):=q;have a:k=f:=a;subst a;show{u,(),c}|succ i=>rw[ĞS,D9 t i k v ĊA,{u,Ċy,h2}]
def IP(h:ķ (bp P w).is k u):bu (kV k) u:=by
 rcases nD.flat (P:=P) (w:=w) (h:=default) (k:=k) (v:=u) h with⟨i,t,rfl,rfl⟩|⟨z,t,rfl,rfl⟩
 ·show œ t
 ·show œ t
section
variable{X:Cx}{g:Zr}{j:St}{H:Hp}{s:Shared}{d:Addr}{f:Ğ}{i:Nat}
def aU.walk(I:aU X g j H s)(h:H d=Į f):∃i m,KV f m/\s.heap.DictAt ĄV d m i/\āE d/\aU X g j (aJ H d (dE X.prog X.w d f i)) s:=by have(r,p,m,kv,l):=Ęh h;have(i,n):=l.dictAt;have(o,t,q,_):=id n;show{i,m,kv,n,p,?_};have J:=I.write (h':=s.heap) (t':=s.toks) (x:=d) (e:=d) (o:=dE X.prog X.w d f i) (ĊR h) Ġ ĐX (o,q,) {{(p,r,),m,kv,n},(o,q,),λ_ _⟨a,m,b,c⟩k=>{a,m,b,c.at' k}};show J
def aU.thaw(I:aU X g j H s)(h:H d={Ù,dE X.prog X.w d f i}):aU X g j (aJ H d (.dK f)) s:=by have(((a,b),c,kv,k),(o,l),_):=Ęh h;have J:=I.write (h':=s.heap) (t':=s.toks) (x:=d) (e:=d) (o:= .dK f) (ĊR h) Ġ ĐX (o,l,) (b,a,c,kv,k.dictOf,);show J
omit e
noncomputable def W0(P:Zu)(w:World)(d:Addr)(b:Ğ)(e:Nat)(f:cJ×V->V):It:={λi H=>H d={Ù,dE P w d b e}/\ČO,λi H x a=>a=H/\(ϊ).map f=ù,λi H=>H d={Ù,dE P w d b e}/\Ān i}
def JA{P:Zu}{w:World}{K:Zp}{M:Expr}(d it:Addr)(f:Ğ)(m:Nat):Cm P w K M (W0 P w d f m λp=>kV ę) ąB it (λi h=>ďO h.IsKeyIter it d i m)where
 mem:=Ü
 obj:=λi h st b j=>by
  have e:b=it:=ģf
  subst e;have(o,e,c,q):=st;show{o,e,Ďa q z}
 keep:=λi h h'⟨o,e,r⟩k=>{o,k it Ü o e,r}
 item:=by rw[Ġf];rw[Ĕt,hg,ďm];rw[ĔC,ĕQ,Ĉ8,n it Ü];have L:ì f={Ù,f[i]}:=fx hi;have(u,N,ru):=D9 kv i f[i].1 f[i].2 L;rw[ėS,ďO s.heap.IsKeyIter it d i m,st,a];rw[ċR,wpAny_pyNext_dict_item st B N λG h' O l Q=>?_,aU X g J H Χ,Ęd {è,Q.2 b j,e} C f1 f3 D F];have(o,e,c,q):=id l;rw[<-a]at l;show{G,(),C0 (s:=Χ) e c q ß {kV f[i].1,H,I1,IP O,{ą,by rw[L];rfl},l,λb j=>(n b j).1}}
 done:=by rw[Ġf];rw[Ĕt,hg,ďm];rw[ĔC,ĕQ,Ĉ8,n it Ü];rw[ėS,ďO s.heap.IsKeyIter it d i m,st,a];show wpAny_pyNext_dict_end ϭ st B (qq (o'0 hi a)) λh' S=>ą {Ęd,S b o j e,C,f1,f3,D,F}
 self:=čm wpAny_pyIter_keyiter st h
def Jz{P:Zu}{w:World}{K:Zp}{L:Expr}(d it:Addr)(f:Ğ)(m:Nat):Cm P w K L (W0 P w d f m λp=>p.2) ąB it (λi h=>ďO h.IsValIter it d i m)where
 mem:=Ü
 obj:=λi h st b j=>by
  have e:b=it:=ģf
  subst e;have(o,e,c,q):=st;show{o,e,Ďa q z}
 keep:=λi h h'⟨o,e,r⟩k=>{o,k it Ü o e,r}
 item:=by rw[Ġg];rw[Ĕt,hg,ďm];rw[ĔC,ĕQ,Ĉ8,n it Ü];have J:ì f={Ù,f[i]}:=fx hi;have(u,M,ru):=D9 kv i f[i].1 f[i].2 J;rw[ėS,ďO s.heap.IsValIter it d i m,st,a];rw[ċR,wpAny_pyNext_values_item st B M λh' l N=>?_,aU X g G H Χ,Ęd {è,N.2 b j,e} C f1 f3 D F];have(o,e,c,q):=id l;rw[<-a]at l;show{u,(),C0 (s:=Χ) e c q ß {f[i].2,H,I1,ru,{ą,by rw[J];rfl},l,λb j=>(n b j).1}}
 done:=by rw[Ġg];rw[Ĕt,hg,ďm];rw[ĔC,ĕQ,Ĉ8,n it Ü];rw[ėS,ďO s.heap.IsValIter it d i m,st,a];show wpAny_pyNext_values_end ϭ st B (qq (o'0 hi a)) λh' Q=>ą {Ęd,Q b o j e,C,f1,f3,D,F}
 self:=čm wpAny_pyIter_valiter st h
section
variable{X:Cx}{P:Zu}{w:World}{n l o e:Expr}{g i te:TE}
def Wp(P:Zu)(w:World)(g:TE):TI:=λf H R=>g f H {ĞE,x=Āv/\b d=Į a/\∀c,R (W0 P w d a c λp=>kV ę) (aJ b d (dE P w d a c))}
def Qr(t:PE X l g)(u:Ăy:=by rfl)(y:X.w=w:=by rfl):PI X n l (Wp P w g):=by
 subst u y;intro a s z H R I h;show cz (t a s z H _ I h) λv k A=>?_;have(x,G,I1,B,d,c,e,hd,q):=A;subst e;obtain rfl:v=Ś d:=B;have(r,C,kv,D,E,p):=I1.walk hd;have f:c.length=C.length:=Ĉ8;rw[ēh,wpAny_pyIter_dict E D ?_,{k.heap.objs.size,[k.heap.objs.size],_,_,_,(),{Đs,p.kept,k.toks,d_ _ e},JA d _ c r,{_,ge _ (),(),by rw[f];rfl},λb F=>?_,q r},b=k.heap.objs.size,by simpa using F]
 rw[ŧ,p.fpOk (eH _) (p.hok.fresh (eH _))]
def Wi(P:Zu)(w:World)(i:TE):TI:=λf H R=>i f H {ĞE,x=Āv/\b d=Į a/\∀c,R (W0 P w d a c λp=>p.2) (aJ b d (dE P w d a c))}
def Xc(P:Zu)(w:World)(t:TE):TE:={ă1,t,c,H,λv b=>∃d a f,b d={Ù,dE P w d a f}/\Q v (aJ b d (.dK a))}
def Tx(h:PE X e te)(b:Ăy:=by rfl)(f:X.w=w:=by rfl):PE X e (Xc P w te):=by subst b f;intro a s c H Q I k;show cz (h a s c H _ I k) λu x p=>?_;have(v,y,I1,r,d,t,z,hd,q):=p;show{v,_,I1.thaw hd,r,q}
def Vu(P:Zu)(w:World)(t:TS):TS:=λD f H=>{ċk,t,λb c=>∃d a h,c d={Ù,dE P w d a h}/\D.nx b (aJ c d (.dK a)),f,H}
def MG{st:Stmt}{t:TS}(h:PS X st t)(p:Ăy:=by rfl)(r:X.w=w:=by rfl):PS X st (Vu P w t):=by subst p r;intro a s c H D I k;show {ĉ3,h a s c H _ I k,λf y z=>?_,z};cases f with|next=>have(b,A,v,d,x,B,hd,q):=z;show{b,_,v.thaw hd,q}|brk=>show z|cont=>show z|ret u=>show z
omit e
section
variable{X:Cx}{P:Zu}{w:World}{B o e:Expr}{p ty:TE}{f j:Pos}
def Qp(D:PE X o p)(E:Ăy:=by rfl)(G:X.w=w:=by rfl)(g:ďc o "values"=ą2:=by rfl)(i:Ξ f.endLine j.line:=by rfl):PI X B {ĂG,"values",f,[],j} (Wi P w p):=by
 subst E G;intro c s J H R I h;show wpAny_Call_method0_late g i (cz (D c s J H _ I h) λv a K=>?_);have(x,U,I1,L,d,k,e,hd,q):=K;subst e;obtain rfl:v=Ś d:=L;have(y,A,kv,m,M,N):=I1.walk hd;have n:k.length=A.length:=Ĉ8;have(ob,V,r,O,_):=id m;show{"dict","dict.values",PySem.F.plainAttrs_dict,PySem.F.slot_dict_values,PySem.F.type_dict_values,m.dictOf.typeIs,?_,t6 () {Ĥp,B_ PySem.F.slot_dict_values m.dictOf.typeIs PySem.F.entry_dict_values (PySem.F.args_dict_values_1 _) (meets_dict_values ĄV d M) {(A,m.dictOf,),?_}}}
 ·intro b z;rw[ā,z,(ob,r,O.2.1,)]
 ·have Q:(ĊB Ēz).IsValuesView a.heap.objs.size d:={_,ge _ (),(),()};change {Ω,_,_,Ćo Ĕx,_,_,_};have u:=N.kept (h':=(ĊB Ēz)) (t':=a.toks) Ċg;rw[ēh,wpAny_pyIter_values (s:=(Ĝ6 Ēz)) Q (m.push _) ?_,{_,[Ėk Ēz],_,_,_,(),{Đs,u.kept,a.toks,d_ _ e},Jz d _ k y,{_,ge _ (),(),by rw[n];rfl},λb T=>?_,q y},b=Ėk Ēz,by simpa using T]
  rw[ŧ,u.fpOk (eH _) (u.hok.fresh (eH _))]
def Pm(K:Zp)(ty p:TE):TE:={ă1,ty,c,H,λy d=>p c d λx b=>(∃a o,x=ô/\fb b a y o/\Q ĥ0 b)\/WV K true y x b Q}
def Ke(K:Zp)(z:X.K=K)(D:ău<cLine)(hi:PE X i ty)(E:PE X o p):PC X .NotIn i o (Pm K ty p):=by
 subst z;intro b s c H Q I h;show cz (hi b s c H _ I h) λiv F d=>?_;have(y,G,I1,k,J):=d;show cz (E b F c G _ I1 J) λm L d=>?_;have(x,n,u,v,M):=d;have(a,r,e,g,q)||q:=M
 ·subst e;obtain rfl:m=Z7:=v;show Jl D u g k λO N=>{ĉp r.isSome,n,N,(),q}
 ·show DT b L c n y x iv m Q u k v q
def Vp(K:Zp)(a:Addr)(ty:TE):TE:={ă1,ty,c,H,λy b=>∃x r,y=ħ/\ćb a x=Ù r/\((r=none/\Āt Q b)\/∃u v,r=ð/\bu v u/\Q v b)}
def Qt(K:Zp)(L:X.K=K)(hd:Gv K X.w.params a)(hg:Gl X x)(hm:ās=í a)(M:PE X e ty)(m:M1 X ćZ "get" f e j)(A:Āx:=by decide):PE X {Ġ7,ćZ,"get",f,[e],j} (Vp K a ty):=by
 subst L;intro c s E H Q I h;have(lo,es,n,i,G):=hd;have hn:PE X ćZ (tC ô):=y4 hg hm () A;show {ĔI,W_,m.base,m.few,m.line,cz (hn c s E H (λv N=>v=ô/\N=H) I Λ) λu O⟨z,R,I1,S,T,U⟩=>?_};subst T U;obtain rfl:u=Z7:=S;have k:=Ĕu X.prog X.w I1.kIn i G;rw[ęf,{k.typeIs,λb z=>Ēu z {_,I1.kIn _ _ i,()},?_},t6 () (x4 (s_ (cz (M c O E R _ I1 h) λiv s2 V=>?_)))];have(y,J,D,Y,Z,r,ey,hu,q2):=V;show x_ ?_;subst ey;have(tk,()):=Y;have g:=Ĕu X.prog X.w D.kIn i G;rw[Ģ,{ęZ,B_,g.typeIs,Ěo _ _,meets_dict_get (Ĕr strKind) a (ěb Z tk) lo,{_,g,?_}},Ĝt i hu];have((),q)||(u',v',(),rv,q):=q2
 ·show{.non,J,D.tok _,(),q}
 ·show{v',J,D.tok _,rv,q}
omit e
omit L2
namespace L2
open PySem PySem.W PyProof.Rows
section
variable{M:Model}{A:Around}{E:Zq}
def CO{C D N W:Addr}{nm q o X:Str}{bs p r b:Zt}{hd Z sub ab u y z i B j}{dd F:ă3}{k0 k1 k2 k3 k5 G H I J L:ĳ}{id R:String}{s:Shared}{e:Addr}{S:Obj}{Q:Bool->Ĝ}(hC:ε C={Ù,excClassObj nm q C N bs r hd Z sub ab u dd k0 k1 k2 k3 k5 id})(T:ε D={Ù,excClassObj o X D W p b y z i B j F G H I J L R})(he:ε e=Ù S)(m:S.cls=ŋ)(hb:Ą b.contains ĐB)(n:Q ({Ĕ8,C,r} Ćy) s):{ĀM,M,Ε excMatches e Ćy}:=by
 have(h,g,d,t,os):=s;have a:{Ą,Ĕ8 D b,ĐB}:=ĀU List.contains_cons hb Bool.or_true
 have f:=tc_notTuple;unfold excMatches
 repeat(first|(with_reducible show wpAny_loadPart_at he ?_;rw[m])|rw[ĕw,wpAny_loadPart_at T ?_]|(with_reducible show ĥg T ?_;rw[a])|(rw[ĕw,ĥg hC ?_])|wp_step)
 cases hc:{Ĕ8,C,r} (Ś D)with|true=>rw[hc]at n;rw[ó,hY (),eN (eN (eN n))]|false=>rw[hc]at n;rw[ó,hF hH,eN (eN (eN n))]
omit e
def UP(K:Zp)(C:Addr)(b:Zt):Prop:=∃a dd cd sl,Ăk C=Ù {a,dd,.cls cd,sl}/\cd.mro=ŋ::b
def UP.is{K:Zp}{C:Addr}{f d:Zt}{h:Heap}{o:Obj}{b:ClassData}(m:UP K C f)(kin:K.In h)(e:Ă6 C=Û)(hd:{ąr,.cls b})(hm:b.mro=ŋ::d):d=f:=by have(c,dd,cd,sl,l,r):=m;have a:=kin _ _ l;rw[e]at a;cases a;have hd:Data.cls cd=Data.cls b:=hd;cases hd;rw[hm]at r;show(il r).2
omit L2
namespace L2
open PySem PySem.Spec PyProof.Rows PySem.W
section
variable{X:Cx}
def Wh(K:Zp)(b:TA):TI:=λe H R=>b e H λf a=>∃t l g h,f=[ľ,ž]/\bj K a t g/\∃c,RC c K a l h/\R (WK c K t l) a
def IE(K:Zp)(D:X.K=K){i:Zw}{E:Nat}{j:Pos}{a b:Expr}{z:TA}{p m:Pos}(hg:Gl X "zip")(hm:Č3 "zip"=none)(F:PA X [a,b] z)(G:Υ [a,b]=[ăR a,ăR b]:=by rfl)(n:Υ [b]=[ăR b]:=by rfl):PI X (Ĉf i E j) {āc,Ĉv "zip" p,[a,b],m} (Wh K z):=by
 subst D;intro k s J H R I h;show wr (oI I hg hm OJ (y1 (cz (F m k s J H _ I h) λus f L=>?_) (Ē G n) (by rw[n];rfl)));have(vs,M,I1,N,t,l,xs,ys,e,w,c,x,q):=L;subst e;have(u,v,(),rt,O):=zh N;obtain rfl:u=Ś t:=rt;obtain rfl:v=Ś l:=O;have(y,rv,pl,hz):=Ęn w;have(A,P,o,Q):=I1.sqE x;have(o1,S,_):=id pl;have(o2,T,_):=id o;rw[ç,K6 (show f.heap.IsTuple t y.toArray from pl) o λg B U V Y Z kk=>?_,wpAny_pyIter_zip B {_,[ĕ2 4,ĕ2 2,ĕ2 3,f.heap.objs.size,ĕ2 1],_,_,M,(),I1.kept (t':=f.toks) kk,Lx (ktu_apart f.heap.objs.size t l (h_ S) (h_ T)),{B,U,{_,_,V},Y,Z},λb C=>?_,q}];have r:f.heap.objs.size<=b:=by simp only[q_,n6,E1]at C;have()||()||()||()||():=C<;>first|show eH _|show Nat.le_add_right _ _
 show Ċh r r
def C9{K:Zp}{a l:Addr}{xs ys:Ú}{g:TG}{ds:Zy}{k:Nat}{tc:TT}{te:TE}{E:St}{j:Hp}{F:ĀP Addr}(Pv:Addr->ċu)(r:aZ K j l ys\/bj K j l ys)(h0:∀D,j D=none->Pv D 0 [] (aJ j D ŀ))(A:xs.length=ys.length)(G:∀D i f h,Pv D i f h->bj K h a xs/\ao j h)(H:∀D i x y f h T,j D=none->Ĉb=ù->ì ys=ϵ->Pv D i f h->h T=none->g Ćs (iw ds k E) {Ō,h,T,[x,y]} λn B=>tc n B λb t=>{Ě,b,te n t λy u=>u D=ò f/\ĜH/\∃o,o<ăt/\o={Ąy,i+1}/\{ć1,i+1}/\Pv D (i+1) (f++[y]) (ďI u f),∃o,o<ăt/\o={Ąy,i+1}/\{ć1,i+1}/\Pv D (i+1) f t})(hd:∀D f h,j D=none->Pv D xs.length f h->F D h):∃c,RC c K j l ys/\∀D,j D=none->{ċ3,ĉf,W 0 m [] (aJ j D ŀ),∀i m f h,W i m f h->((WK c K a l).stop i h/\F D h)\/((WK c K a l).go i h/\∀x C,(WK c K a l).yld i h x C->g x (iw ds k E) C λn B=>tc n B λb t=>{Ě,b,te n t λy u=>u D=ò f/\ĜH/\∃o,o<m/\W (i+1) o (f++[y]) (ďI u f),∃o,o<m/\W (i+1) o f t})}:=by
 obtain⟨c,hc,I⟩:∃c,RC c K j l ys/\∀h,ao j h->RC c K h l ys:=by
  have r||r:=r
  ·show{true,r,λ_ z=>z.seq r}
  ·show{false,r,λ_ z=>þ z r}
 show{c,hc,λD w=>{λi m f h=>m=ăt/\Ąp/\Pv D i f h,{é,_,ku _,h0 D w},?_}};intro i m f h((),hi,p);have(q,v):=G D i f h p;have v:=I h v
 by_cases s:ĚW i
 ·show æ {{xs,ys,xs[i],ys[i],q,v,by simp[s],by simp[<-A,s]},λx C y=>?_};have(T,J,L,M,e,N,y):=y;subst e N;have(O,P):=y xs ys q v;show H D i J L f _ T w O P p M
 ·have e:Ē2 i:=Nat.le_antisymm hi (Y9 s);rw[ąk,{{xs,q,eH _},hd D f h w p}]
omit e
def Oq(hh:āb)(it t:Addr)(ne:t≠it)(b:Zx):Draws P w A it [it,t] b.size (λi v=>ϊ=Ĕ) (λi h=>Ėx it t i/\h.IsTuple t b)where
 live:=λ_ _ st=>Ĝn ĂF o e
 frame:=λ_ _ _ st k=>{(ĂF).at λo e=>k it Ü o e,(ZN).at λo e=>k t Ü o e}
 item:=λi s Q E hi st q=>zk ĂF ZN (v:=b[i]) ĥd λg c a=>q _ g s.toks ĥd {c,(ZN).extBut a.extBut ne} a
 done:=λs Q E st q=>EK hh ĂF ZN Ü q
set_option tactic.hygienic true in
def FQ(t:Addr)(b:Zx)(n:Nat)(f:ă3)(sl:ďW):Meets (Builtin.«enumerate.__new__» {[ģM,ľ],[]}) (λ_ R s=>ε t=Ù {Ċr,"tuple",f,ĂE b n,sl}/\{Ā1,R,.ok (.ret {â,ėI O7 t}),(ČY O7 t).push {Ĝp,#[.none,ċq,Ħ,ćT 0,.none,.none]}}):= .of_wp λprog w A R s h=>by
  have(i,g,d,tk,os):=s;have(a,h):=h;have f1:=sub_enumerate;have e:Heap.IsTuple {Ğz,(i,g,d,tk,os,)} t b:={_,a,(),n,()}
  wp_walk using X9 a
  show wpAny_stack_any λst=>eN ?_
  split
  ·rename_i c _ _ _ _ _;cases(c==ĂM "enumerate")<;>(wp_walk using X9 a,z8 e)<;>show{_,(),h}
  ·wp_walk using X9 a,z8 e
   show{_,(),h}
def HS(i:ĂI t d)(q:∀g,ęH IsEnum g Ľ 0 .none->ĥ1 t 0->{ê,ģ=Û,g.get? b=Û}->Ā1 Q ĒV g):{ŏ,call ģM ąC}:=by
 have((c,j,l,sl),k,a,n,e):=i;simp only at a e;subst a e;show callType_new F.called_enumerate ß (F.typeCall_enumerate_1 _) (F.newCall_enumerate_1 _) (λob=>F.args_object_init_2 ob _) F.entry_enumerate_new (FQ t d n j sl) {k,?_};have f:ėI O7 t=Ľ:=ďP;rw[ż,_/\_,f];have h:{ęH,IsEnum,(ČY O7 t).push {Ĝp,#[.none,ċq,Ħ,ćT 0,.none,.none]},Ľ,0,.none}:=by rw[ę9,ge (ČY O7 t) (o:={Ĝp,#[.none,ċq,Ħ,ćT 0,.none,.none]}) (),f];show z
 show{{_,h,()},q _ h {_,d_ _ (ge _ ()),(),()} λb o x=>d_ _ (d_ _ x)}
noncomputable def Ite(K:Zp)(t:Addr):It:={λi H=>∃a x,bj K H t a/\Ąo=ù,λi H v b=>∃T x,H T=none/\v=Ćs/\b=ĀF T [Ŵ,x]/\∀a,bj K H t a->Ąo=ù,λi H=>∃a,bj K H t a/\a.length=i}
def JB{P:Zu}{w:World}{K:Zp}{n:Zw}{T:Nat}{C:Pos}{e it t:Addr}(n1:e≠it)(n2:t≠it)(n3:t≠e):Cm P w K (Ĉf n T C) (Ite K t) [e,it] e (λi h=>(∃d,IsEnum h e it i d)/\Ėx it t i)where
 mem:=Ü
 obj:=λi h st b f=>by
  have((_,a1),ob,j,_,U):=st;simp only[q_,n6,E1]at f;have()||():=f
  ·show{_,a1,λv z=>ĄM z}
  ·show{_,j,Ďa U z}
 keep:=λi h h' st k=>by rw[ĝ4];show{{d,k e Ü _ a1},j.at λob z=>k it Ü ob z}
 item:=by
  rw[Ġh];have(V,x,y,Q):=hg;have(a,J,p,Y):=ϝ y;have(u,R,ru):=J.get Q;rw[ĝ4];have hi:i<a.toArray.size:={Þ,iq,ŷ R}
  have m:X.A.in1.handled=none:=ċM ϭ
  show wpAny_pyNext_enum_itemD (Oq m it t n2 a.toArray) a1 (j,p,) hi n1 (by simp[n1,m_ n3]) λv g tk B b1 b2 b3 b4 off=>?_;have Z:v=u:=by have B:Ĝg=Ĕ:=B;rw[Yy,R]at B;show ĆF B
  subst Z;show{_,(),wpAny_letOwnedTupleGo_enum b1 λg' c1 L=>?_};have lt:∀c∈[e,it],Ĉx c:=λc q z=>by
   have hs:∃ob,ε c=ū:=by
    simp only[q_,n6,E1]at q;have()||():=q
    ·show{_,a1}
    ·have(ob,z,_):=j;show(ob,z,)
   have(ob,h):=hs;rw[z]at h;rw[Ā,h_ h,nk _]
  rw[Ď0,Ψ H=none,eH _];have I1:aU X l O {ěj,H,[Ŵ,x]} {Ċv,{Ć2,.seq #[Θ i tk,v]},tk+1}:=I.laid (λb o z=>d_ _ z) (eH _) {by rw[gg];simp,[Θ i tk,v],{μ,œ tk,ru},{_,ge _ (),(),_,()}}
  have I2:={ĞZ,g',tk+1,[e,it],I1,Ĥ5,λb f=>?_}
  ·rw[ϑ,{Ħ,_,I2,(),{_,x,fresh,(),(),λaa h1=>{Þ,ĖV h1 y,Q}},{{_,by simpa using c1},b2.1.extBut L.extBut (m_ n1)},λb f=>?_},ay (lt b f),(r b f).1]
  ·have nb:ú e/\ú it:=ĔU
   by_cases S:ĕ1 b
   ·subst S;rw[ge _ ()]at z;rw[ā,z,L.extBut _ _ nb.1 b3]
   ·have z':ģ=Û:=by
     have(M,_)||M:=XL z
     ·rw[Ā,M,S]
     ·show M
    show L.extBut _ _ nb.1 (off b o nb.1 nb.2 z')
  ·have(f0,f1):=r b f;show{{Þ,ay (lt b f),f0},f1}
 done:=by
  rw[Ġh];have(V,y,()):=hg;have(a,J,p,Y):=ϝ y;have hl:=J.length;rw[ĝ4];have m:X.A.in1.handled=none:=ċM ϭ
  have N:ĊD it t a.toArray.size:=by rw[iq,<-hl];show j
  show wpAny_pyNext_enum_endD (Oq m it t n2 a.toArray) a1 (N,p,) λg off=>{ą,nH (t':=s.toks) (ch:=[e,it]) I Ĥ5 r};have nb:ú e/\ú it:=ĔU
  show off b o nb.2 z
 self:=λ_ _ _ _ _ st h=>by have((d,a1),_):=st;show wpAny_pyIter_enum a1 h
section
variable{X:Cx}
def Wq(K:Zp)(b:TA):TI:=λc H R=>b c H λd a=>∃t e,d=ąC/\bj K a t e/\R (Ite K t) a
def Qs(K:Zp)(r:X.K=K){d:Zw}{y:Nat}{f:Pos}{a:Expr}{m:TA}{p i:Pos}(hg:Gl X "enumerate")(hm:Č3 "enumerate"=none)(z:PA X [a] m)(A:Υ [a]=[ăR a]:=by rfl):PI X (Ĉf d y f) {āc,Ĉv "enumerate" p,[a],i} (Wq K m):=by
 subst r;intro c s v H R I h;show wr (oI I hg hm L2.Bh (y1 (cz (z i c s v H _ I h) λG j⟨J,w,I1,x,B⟩=>?_) (by rw[A];rfl) ĕ));have(t,L,e,C,q):=B;subst e;have(u,(),rt):=gZ x;obtain rfl:u=Ś t:=rt;have(l,M,pl,N):=Ęn C;have(O,D,_):=id pl;have lt:=h_ D;rw[ç,HS (show j.heap.IsTuple t l.toArray from pl) λg n E F=>?_,wpAny_pyIter_enum n {_,[j.heap.objs.size+1,j.heap.objs.size],_,_,w,(),I1.kept (t':=j.toks) F,JB (t:=t) (mu (tA _)) (iA lt) (iA (z0 lt)),{{_,n},E},λb o=>?_,q}];have k:j.heap.objs.size<=b:=by
  simp only[q_,n6,E1]at o;have()||():=o
  ·show Nat.le_add_right _ _
  ·show eH _
 show Ċh k k
def IJ:fZ (lA P w) X ăD:=λ_ _ _ _ _ _ _ h=>by have(_,_,_,_,_,_,_,_,_,_,_,_,_,q,_):=h;show q.elim
omit e
noncomputable def Iti(P:Zu)(w:World)(d:Addr)(b:Ğ)(e:Nat):It:={λi H=>H d={Ù,dE P w d b e}/\ČO,λi H x a=>∃T k v,H T=none/\x=Ćs/\a=ĀF T [kV k,v]/\ϊ=ĒQ v,λi H=>H d={Ù,dE P w d b e}/\Ān i}
def GC{P:Zu}{w:World}{K:Zp}{j:Zw}{N:Nat}{q:Pos}(d it:Addr)(f:Ğ)(D:Nat):Cm P w K (Ĉf j N q) (Iti P w d f D) ąB it (λi h=>∃ok m,IsItemIter h it d i f.length D ok m)where
 mem:=Ü
 obj:=λi h st b c=>by
  have e:b=it:=Ĉz
  subst e;have(_,_,e):=st;show{_,e,λv z=>ĄM z}
 keep:=λi h h'⟨ok,m,e⟩k=>{ok,m,k it Ü _ e}
 item:=by
  rw[Ġi];rw[Ĥ4,hg,ďm];have a:đh y.length:=Ĉ8;have G:ì f={Ù,f[i]}:=fx hi;have(u,O,ru):=D9 kv i f[i].1 f[i].2 G;have(ok,m,st):=st;have lt:ăC it:=h_ st;rw[a]at st;rw[ç,wpAny_pyNext_items_item st A O λl h' Q out R hz S=>?_,{_,(),wpAny_letOwnedTupleGo_items out λT J L=>?_}];rw[<-a]at J;rw[Ď0,Ψ H=none,eH _];have I1:aU X g F {ěj,H,[kV f[i].1,f[i].2]} {ĕ7,{Ć2,.seq #[l,u]}}:=I.laid (t':=s.toks) (λb o z=>d_ _ z) (eH _) {by rw[gg];simp,[l,u],{μ,IP Q,ru},{_,ge _ (),(),_,()}}
  have U:={ĞZ,T,s.toks,ąB,I1,λb o c z=>?_,λb c=>?_}
  ·show{Ħ,_,U,(),{_,f[i].1,f[i].2,fresh,(),(),G},{_,_,J},λb c=>?_};have e:b=it:=Ĉz
   subst e;rw[ó,ay (iA lt),(n b c).1]
  ·have nb:ú it:=Ĉz
   by_cases p:ĕ1 b
   ·subst p;rw[ge _ ()]at z;rw[ā,z,L.extBut _ _ nb R]
   ·have Y:ģ=Û:=by
     have(B,_)||B:=XL z
     ·rw[Ā,B,p]
     ·show B
    show L.extBut _ _ nb (S b o nb Y)
  ·have e:b=it:=Ĉz
   subst e;have(C,f1):=n b c;show{{Þ,ay (iA lt),C},f1}
 done:=by rw[Ġi];rw[Ĥ4,hg,ďm];have a:đh y.length:=Ĉ8;have(C,f1,f2,f3,Z,f5):=n it Ü;have(ok,m,st):=st;rw[a]at st;show wpAny_pyNext_items_end ϭ st A (qq (o'0 hi a)) λh' p=>ą {ĉ8,λb o c e=>p b o c e,C,f1,f3,Z,f5}
 self:=λ_ _ _ _ _ st h=>by have(_,_,st):=st;show kcp_self st h
section
variable{X:Cx}{P:Zu}{w:World}{o:Expr}{m:TE}{f g j:Pos}{i:Zw}{n:Nat}
def Uh(P:Zu)(w:World)(m:TE):TI:=λe H R=>m e H {ĞE,x=Āv/\b d=Į a/\∀c,R (Iti P w d a c) (aJ b d (dE P w d a c))}
def MK(C:PE X o m)(D:Ăy:=by rfl)(E:X.w=w:=by rfl)(p:ďc o "items"=ą2:=by rfl)(r:Ξ f.endLine g.line:=by rfl):PI X (Ĉf i n j) {ĂG,"items",f,[],g} (Uh P w m):=by
 subst D E;intro c s G H R I h;show wpAny_Call_method0_late p r (cz (C c s G H _ I h) λv a J=>?_);have(x,T,I1,K,d,k,e,hd,q):=J;subst e;obtain rfl:v=Ś d:=K;have(A,B,kv,l,L,M):=I1.walk hd;have t:k.length=B.length:=Ĉ8;have(ob,U,u,N,_):=id l;show{"dict","dict.items",PySem.F.plainAttrs_dict,PySem.F.slot_dict_items,PySem.F.type_dict_items,l.dictOf.typeIs,?_,t6 () {Ĥp,B_ PySem.F.slot_dict_items l.dictOf.typeIs PySem.F.entry_dict_items (PySem.F.args_dict_items_1 _) (meets_dict_items ĄV d L) {(B,l.dictOf,),?_}}}
 ·intro b z;rw[ā,z,(ob,u,N.2.1,)]
 ·have O:(ĊB ĒA).IsItemsView a.heap.objs.size d:={_,ge _ (),(),()};change {Ω,_,_,Ćo Ĕx,_,_,_};have y:=M.kept (h':=(ĊB ĒA)) (t':=a.toks) Ċg;rw[ēh,wpAny_pyIter_items (s:=(Ĝ6 ĒA)) O (l.push _) ?_,{_,[Ėk ĒA],_,_,_,(),{Đs,y.kept,a.toks,d_ _ e},GC d _ k A,{_,_,{Þ,t,ge _ ()}},λb S=>?_,q A},b=Ėk ĒA,by simpa using S]
  rw[ŧ,y.fpOk (eH _) (y.hok.fresh (eH _))]
omit e
def yp(n:Nat){d:Type}(R:Ĵ d):{Ĵ,KasT d}|.ret a=>R a|.ask i j k=>i<n/\j<n/\∀b,yp n R (k b)
theorem yp.bind{n:Nat}{d e:Type}{R:Ĵ d}{S:Ĵ e}{f:d->KasT e}(g:∀a,R a->yp n S (f a)):∀{t:KasT d},yp n R t->yp n S (t.bind f)|.ret a,h=>g a h|.ask i j k,h=>{ü,Ŗ,λb=>yp.bind g (ĀA b)}
def PR(n:Nat)(p:Ā8):Prop:=p.toList.Perm ďj
def PR.lt(h:PR n p)(hn:0<n)(k:Nat):p.getD k 0<n:=by
 rw[ĆM,k,p.size]
 ·have e:p.getD k 0=p[k]:=ġw
  rw[ó,e,pa.mp (h.mem_iff.mp (Array.mem_toList_iff.mpr (Array.getElem_mem a)))]
 ·have e:p.getD k 0=0:=ġw
  rw[ó,e,hn]
def PR.rev(h:PR n p)(i j:Nat):PR n (kas_rev p i j):=(mirror_perm p i j _).toList.trans h
section
variable{n:Nat}(hn:0<n)
include hn
theorem Eb(h:PR n p):∀f m,yp n (λ_=>True) (kas_asc p f m)|0,_=>trivial|f+1,m=>{h.lt hn _,h.lt hn _,λb=>by cases b with|true=>rw[ę2]|false=>show Eb h f (m+1)}
theorem vn:∀(f:Nat){p:Ā8}(m q:Nat),PR n p->yp n (λr:Ā8×Nat×Nat=>PR n r.1) (kas_desc f p m q)|0,_,_,_,h=>h|f+1,p,m,q,h=>⟨h.lt hn _,h.lt hn _,λb=>by
 cases b with|true=>
   show yp n _ (if q>0 then _ else _)
   split
   ·exact vn f _ _ (h.rev _ _)
   ·exact vn f _ _ h|false=>refine⟨h.lt hn _,h.lt hn _,λd=>?_⟩;cases d with|true=>exact h|false=>exact vn f _ _ h⟩
def FX{p:Ā8}(m r:Nat)(h:PR n p):yp n (λr:Nat×Ā8=>PR n r.2) (kas_tail3 m r p):=yp.bind (S:=λr:Nat×Ā8=>PR n r.2) (f:=λa=> .ret (a,kas_rev p 0 m)) (λ_ _=>h.rev _ _) (Eb hn (h.rev _ _) _ _)
def FY{p:Ā8}(m r:Nat)(h:PR n p):yp n (λr:Nat×Ā8=>PR n r.2) (kas_descPart m r p):=yp.bind (λa b=>by
 change yp n _ (if a.2.2>0 then _ else _)
 split
 ·show FX hn _ _ (b.rev _ _)
 ·show FX hn _ _ b) (vn hn _ _ _ h)
def KH{p:Ā8}(r:Nat)(h:PR n p):yp n (λr:Nat×Ā8=>PR n r.2) (kas_count r p):=yp.bind (λm _=>by
 change yp n _ (if(m==r)=true then _ else _)
 split
 ·show h
 ·split
  ·show{h.lt hn _,h.lt hn _,λc=>?_};cases c with|true=>show h|false=>show FY hn _ _ (h.rev _ _)
  ·show FY hn _ _ h) (Eb hn h _ _)
theorem w9{p:Ā8}(h:PR n p)(k:Nat):∀f l r,yp n (λ_=>True) (kas_place p k f l r)
 |0,_,_=>trivial|f+1,l,r=>by
  change yp n _ (if l>=r then _ else _)
  split
  ·rw[ę2]
  ·show{h.lt hn _,h.lt hn _,ĞY};cases c with|true=>show w9 h k f _ _|false=>show w9 h k f _ _
theorem IW:∀(f:Nat){p:Ā8}(k:Nat),PR n p->yp n (PR n) (kas_bin f p k)|0,_,_,h=>h|f+1,p,k,h=>yp.bind (λl _=>IW f _ ((bubble_perm p k _).toList.trans h)) (w9 hn h _ _ _ _)
def AR:yp n (PR n) (ĜV n):=yp.bind (λr a=>by
 change yp n _ (if r.1<n then _ else _)
 split
 ·show IW hn _ _ a
 ·show a) (KH hn _ (show(List.toArray ďj).toList.Perm _ by show .refl _))
omit e
theorem Iz:∀{d:Zz}{b:Zt},bx (Ą8 V.ref) b->b=Ą8 Value.ref|[],_,.nil=>()|u::r,_,.cons h t=>by obtain rfl:_=Ś u:=h;rw[Iz t];rfl
theorem IK:∀{b:Zz},bx ĝA čs|[]=> .nil|_::_=>ē () IK
def Jn{J:It}{n:Nat}{g:TG}{ds:Zy}{k:Nat}{tc:TT}{te:TE}{u:St}{z:Hp}{D:Addr}{F:ăx}(Pv:ċu)(h0:Pv 0 [] (aJ z D ŀ))(hg:∀i d f,i<n->Pv i d f->J.go i f)(A:∀i d f x o,i<n->Pv i d f->J.yld i f x o->g x (iw ds k u) o λh t=>tc h t λb q=>{đf,b,te h q λy r=>r D=āZ/\ĄC/\∃j,j<n-i/\j=n-(i+1)/\i+1<=n/\Pv (i+1) (d++[y]) (Ĕ1 r),j<n-i/\j=n-(i+1)/\i+1<=n/\Pv (i+1) d q})(hd:∀d f,Pv n d f->ĉO n f/\F f):{đA,ĉf,W 0 m [] (aJ z D ŀ),W i m d f->(ĉO i f/\F f)\/(J.go i f/\∀x o,J.yld i f x o->g x (iw ds k u) o λh t=>tc h t λb q=>{đf,b,te h q λy r=>r D=āZ/\ĄC/\∃j,j<m/\W (i+1) j (d++[y]) (Ĕ1 r),j<m/\W (i+1) j d q})}:=by
 rw[ĥr,{ĒM,m=n-i/\i<=n/\Pv i d f,{é,_,ku _,h0},?_}]
 rw[ĆM,i,n]
 ·rw[Ĉ,{hg i d f a p,λx o y=>A i d f x o a p y}]
 ·rw[Ą9,i=n]
  rw[ąk,hd d f p]
def Od{J:It}{n:Nat}{g:TG}{tb:TS}{D:jx}{b:St}{H:Hp}(Pv:Ĉc)(h0:Pv 0 b H)(hg:{Čj,i<n,Pv i b H->J.go i H})(q:∀i b H x d,i<n->Pv i b H->J.yld i H x d->g x b d λf j=>tb {ĂH,Pv (i+1),Pv (i+1)} f j)(hd:{āP,Pv n b H,ĉO n H/\D.nx b H}):{đz,ČN,W 0 m b H,W i m b H->(ĉO i H/\D.nx b H)\/(J.go i H/\∃N:Ų,(∀h d,N h d->∃o,o<m/\W (i+1) o h d)/\∀x d,J.yld i H x d->g x b d λf j=>tb (ĂH N N) f j)}:=by
 rw[ĚD,{ĒL,m=n-i/\i<=n/\Pv i b H,{n,Ü,ku _,h0},?_}]
 rw[ĆM,i,n]
 ·rw[Ĉ,{hg i b H a p,Pv (i+1),λh d c=>{n-(i+1),{Ϭ,o'1 hi a},(),a,c},λx d y=>q i b H x d a p y}]
 ·rw[Ą9,i=n]
  rw[ąk,hd b H p]
omit L2
namespace L2
open PySem
def rF{K:Zp}{f:Str}{a C dx:Addr}{fs:āf}{v:V}{H:Hp}{R:Ĵ V}(h:H a=Ąb)(hc:Ds K C)(hn:cE K C f)(j:ČL=Ĕ)(k:R v):∃g d e b i,ϫ a=č1/\H g=āA d e b/\Ds K d/\cE K d f/\Ęp f=Ău/\R i:={a,C,dx,fs,v,(),h,hc,hn,j,k}
def rM{a C dx:Addr}{m:Str}{fs:āf}{H:Hp}{R:Prop}(h:H a=Ąb)(hn:ĈD m=none)(k:R):∃e d b,ϫ a=ąa/\H e=āA C d b/\Ęp m=none/\R:={a,dx,fs,(),h,hn,k}
def rG{d:Type}{a:Addr}{A R:Ė Addr d}(v:d)(h:A a v)(k:R a v):∃b e,ϫ a=ZM/\A b e/\R b e:={a,v,(),h,k}
def rX{A:Ė Addr Ú}{p:Addr}{d:Ú}{i:Int}{v:V}{R:Ĵ V}(h:A p d)(j:Ci d i=Ĕ)(k:R v):∃e b f g,ϫ p=ąa/\ñ i=ã f/\A e b/\Ci b f=Ù g/\R g:={p,d,i,v,(),(),h,j,k}
def rA{l:Addr}{d:Ú}{y:V}{H:Hp}{R:Addr->Ė Ú V}(h:H l=āZ)(g:ĄC)(k:R l d y):∃e b f,ϫ l=ąa/\[y]=[f]/\H e=ăs/\Ėa/\R e b f:={l,d,y,(),(),h,g,k}
def r2{i j:Int}{R:Ė Int Int}(k:R i j):∃b d,ñ i=ã b/\ñ j=ã d/\R b d:={i,j,(),(),k}
theorem zzA{x y:V}{q:Prop}(e:ķ iG x y)(h:q):ķ iG x y/\q:= .intro e h
theorem zzB{i j:Int}{q:Prop}(e:iC i j)(h:q):iC i j/\q:= .intro e h
theorem zzC{j:Int}{q:Prop}(e:0<j)(h:q):0<j/\q:= .intro e h
theorem zzD{x:V}{q:Prop}(h:q):ñ 10=ñ 10/\x=x/\q:= .intro () (.intro () h)
def U{b:Type}{A R:Ĵ b}{v:b}(h:A v)(k:R v):∃v,A v/\R v:=(v,h,k,)
def jh{K:Zp}{f:Str}{a C dx:Addr}{fs:āf}{o:ŭ ĀV}{v:V}{H:Hp}{R:Ĵ V}(h:H a=Ąb)(hc:Ds K C)(hn:cE K C f)(h0:o=ĄB a)(j:ČL=Ĕ)(k:R v):∃w,o=ZY w/\∃g d e b i,w=č1/\H g=āA d e b/\Ds K d/\cE K d f/\Ęp f=Ău/\R i:={_,h0,a,C,dx,fs,v,(),h,hc,hn,j,k}
def mm{a C dx:Addr}{m:Str}{fs:āf}{o:ŭ ĀV}{H:Hp}{R:Ĵ V}(h:H a=Ąb)(h0:o=ĄB a)(hn:ĈD m=none)(k:R ô):∃w,o=ZY w/\∃e d b,w=ąa/\H e=āA C d b/\Ęp m=none/\R w:={_,h0,a,dx,fs,(),h,hn,k}
omit L2
namespace L2
open PySem PySem.Spec PyProof.Rows PySem.W
set_option genInjectivity false in
set_option genSizeOf false in
structure AF where
 x:Addr
 d:FuncData
structure Df(K:Zp)(mg:Zs)(n:Str)(st:Stmt)(a:AF)(ps:Zv):Prop where
 f:EE K n n st a.x a.d
 m:(mg n=í a.x)b:iD K a.d ps []
structure Mf(K:Zp)(C:Addr)(n q:Str)(st:Stmt)(a:AF)(ps:Zv):Prop where
 f:EE K n q st a.x a.d
 m:O0 K C n a.x
 b:iD K a.d ps []
section
variable{K:Zp}{h:Heap}{mg:Zs}{n q:Str}{st:Stmt}{x C:Addr}{fd:FuncData}
def Ou{d:Zv}(X:K.In h)(G:Čh)(a:ĐZ n=ĄB x)(F:EE K n n st x fd)(b:EE K n n st x fd->iD K fd d []):Df K mg n st (x,fd,) d:={F,Ėy X G a,b F}
def R4{d:Zv}(a:ĆA n=ĄB x)(i:ĕt K āi)(F:EE K n q st x fd)(b:EE K n q st x fd->iD K fd d []):Mf K C n q st (x,fd,) d:={F,(a,i,F.kp,),b F}
def Ws(X:K.In h)(G:Čh)(a:ĐZ n=ĄB x):mg n=í x:=Ėy X G a
def Vd(X:K.In h)(G:Čh)(a:ĐZ n=ćC):mg n=none:=PySem.W.mg_none_of X G a
def R6{i:Int}{t:Tok}(X:K.In h)(G:Čh)(a:ĐZ n=Ġ8 i t):∃u,mg n=ð/\bu Ŵ u:={_,Ėy X G a,_,()}
def RR{i:Str}{t:Tok}(X:K.In h)(G:Čh)(a:ĐZ n={ZY,ĆI i}):∃u,mg n=ð/\bu (á i) u:={_,Ėy X G a,_,()}
def Ol(a:{î,PySem.W.excIn K x [ć3,ĤV,ĐB,ĕT] "ValueError.__new__"}):zf K x:=a
def FM(a:ĆA n=ćC):cE K C n:=a
def NN{dd:ă3}{it:Zx}{d:Nat}{sl:ďW}{b:Ú}(w:Ăk x=Ù {ăK,dd,ĂE it d,sl})(y:bx b it.toList)(l:Ěc b.length 65536):ĜN x b:={_,it,d,w,(),(),{ċr,lh,y.length,cP (m3 l)},y}
abbrev U6(st:Stmt)(n q:Str)(kV b pm:Value)(e:ă3)(d ct:Value)(f:Zt):=bindArgs {Čv,n,q,vE st,gT st,aj st,.none,kV,b,pm,e,d,ct} {f,[]}
variable{d e f g j m:Str}
def Cd{n:Nat}{i:Zt}(h:i.length=n+1):∃u b,i=u::b/\ċx n:=by cases i with|nil=>cases h|cons u b=>show{u,b,(),Nat.succ.inj h}
def b1(F:EE K n q st x fd)(h:∀kV b pm o i ct u,U6 st n q kV b pm o i ct [u]=Ϙ [(d,u)]:=by intros;rfl):iD K fd [d] []:={Ď8,by have(u,a,(),h1):=Cd c;rw[ā,ĆC h1,h kV b pm o i ct u]}
def b2(F:EE K n q st x fd)(h:∀kV b pm o i ct u v,U6 st n q kV b pm o i ct [u,v]=Ϙ [(d,u),(e,v)]:=by intros;rfl):iD K fd [d,e] []:={Ď8,by rw[Đq,Cd c,Cd h1];rw[ā,ĆC h2,h kV b pm o i ct u v]}
def b3(F:EE K n q st x fd)(h:∀kV b pm o i ct u v w,U6 st n q kV b pm o i ct [u,v,w]=Ϙ [(d,u),(e,v),(f,w)]:=by intros;rfl):iD K fd [d,e,f] []:={Ď8,by rw[Đq,Cd c,Cd h1];have(w,a,(),h3):=Cd h2;rw[ā,ĆC h3,h kV b pm o i ct u v w]}
def b4(F:EE K n q st x fd)(h:∀kV b pm o i ct u v w y,U6 st n q kV b pm o i ct [u,v,w,y]=Ϙ [(d,u),(e,v),(f,w),(g,y)]:=by intros;rfl):iD K fd [d,e,f,g] []:={Ď8,by rw[Đq,Cd c,Cd h1];rw[Ěe,Cd h2,Cd h3];rw[ā,ĆC h4,h kV b pm o i ct u v w y]}
def b5(F:EE K n q st x fd)(h:∀kV b pm o i ct u v w y z,U6 st n q kV b pm o i ct [u,v,w,y,z]=Ϙ [(d,u),(e,v),(f,w),(g,y),(j,z)]:=by intros;rfl):iD K fd [d,e,f,g,j] []:={Ď8,by rw[Đq,Cd c,Cd h1];rw[Ěe,Cd h2,Cd h3];have(z,a,(),k):=Cd h4;rw[ā,ĆC k,h kV b pm o i ct u v w y z]}
def b6(F:EE K n q st x fd)(h:∀kV b pm o i ct u v w y z r,U6 st n q kV b pm o i ct [u,v,w,y,z,r]=Ϙ [(d,u),(e,v),(f,w),(g,y),(j,z),(m,r)]:=by intros;rfl):iD K fd [d,e,f,g,j,m] []:={Ď8,by rw[Đq,Cd c,Cd h1];rw[Ěe,Cd h2,Cd h3];have(z,a,(),k):=Cd h4;have(r,a,(),l):=Cd k;rw[ā,ĆC l,h kV b pm o i ct u v w y z r]}
omit e
def cd{i j:Int}(h:{ēZ,0<j/\čZ j}):iC i j:=(kl h:0<j/\čZ j)
def ls{n:Nat}(h:Ěc n 65536):ĩ n:=cP (m3 h)
section
variable{X:Cx}{n:Str}{st:Stmt}{a:AF}{q:Zv}{sp:Sp}{j k:Nat}{e:Expr}{o:Zw}{t:TA}{p h:Pos}
def pc(D:Df X.K X.mg n st a q)(F:aT X.prog X.w X.K X.mg X.base dw j a.x a.d q sp)(r:vQ k X.A)(u:PA X (e::o) t)(y:j<=k:=by decide)(hg:Gl X n:=by rfl)(g:Ġk n:=by decide)(z:ąq o=āw::Υ o:=by rfl)(i:Ćt h o:=by rfl):PE X {āc,Ĉv n p,e::o,h} (LH sp [] E0 t):=aP (F.mono y) r hg D.m D.f.kp D.b .nil bI u g z i
def bd(i:Nat){x:Str}{te:TE}{b:Pos}(f:X.N.Nodup)(g:PE X e te)(hi:Ā7=ù:=by rfl)(d:ăw x=Ŋ:=by rfl)(m:ćF e ğ2 h.line=Ći:=by rfl):PS X {ĉJ,[Ċ8],e,h} (Bw te (k7 i)):=Ai f hi (à d) g m (æ d)
def yD(i:Nat){x:Str}(d:X.N.Nodup)(hi:Ā7=ù:=by rfl)(b:ăw x=Ŋ:=by rfl):PG X (Ăl h) (k7 i):=IF d hi (à b) (æ b)
def nO(N0 b:Zv)(i:Nat){x:Str}(d:(N0++b).Nodup:=by decide+kernel)(f:X.N=N0++b:=by rfl)(hi:{ì,N0++b}=ù:=by rfl)(g:ąX U9 x:=by first|show Or.inl ()|show Or.inr ())(m:Ċ1\/ăw x=Ŋ:=by first|show Ġ|rw[Ċj]):PG X (Ăl h) (k7 i):=by rw[<-f]at d hi;show IF d hi g m
def ub(N0 b:Zv)(ds m:Zy)(d:Scope){f r iter:Expr}{i:Zw}{scope:Scope}{z:TI}{g:TG}{tc:TT}{te:TE}(hg:GK g m)(hi:PI X r iter z)(A:{Ċz,PG {Ν,N0++b} r g,Lo {Ν,N0++b} i tc/\PE {Ν,N0++b} f te})(hc:Ÿ:=by rfl)(u:X.N=N0:=by rfl)(y:đw d:=by rfl)(ok:{î,tV N0 ds d scope}:=by decide+kernel)(B:{Ą,m.all,λj=>Đ1||Đ3}:=by decide+kernel)(D:∀x,ąg=ąH:=by rw[ą7]):PE X (Āf f r i h) (rS z g ds b.length tc te):=Rk N0 b ds m d hc u y ok B hg hi A D
def WC(i:Nat)(N0 b:Zv)(ds z:Zy)(d:Scope){x:Str}{f m:Pos}{r y iter:Expr}{u:Zw}{scope:Scope}{G:TI}{g:TG}{tc:TT}{te:TE}(hg:GK g z)(hi:PI X y iter G)(H:{Ċz,PG {Ν,N0++b} y g,Lo {Ν,N0++b} u tc/\PE {Ν,N0++b} r te})(A:N0.Nodup)(hc:Ÿ:=by rfl)(B:X.N=N0:=by rfl)(D:đw d:=by rfl)(ok:{î,tV N0 ds d scope}:=by decide+kernel)(I:{Ą,z.all,λj=>Đ1||Đ3}:=by decide+kernel)(E:ì N0=ù:=by rfl)(J:d.names.lookup x=Ŋ:=by rfl)(F:{ćF,Āf r y u h,Ù ĉS,m.line}=ĈF pure:=by rfl)(L:∀x,ąg=ąH:=by rw[ą7]):PS X {ĉJ,[ĉS],Āf r y u h,m} (Bw (rS G g ds b.length tc te) (k7 i)):=OD N0 b ds z d hc B D ok I hg hi H A E J F L
def gx(K:Zp){a b:Expr}{d f:TE}(g:PE X a d)(i:PE X b f)(m:X.K=K:=by rfl)(r:EA b:=by intro _ _;rfl):PE X (ćo a b h) (JL (Tm K) d f):=Fp (NT K m) g i r
def dy(K:Zp){a b:Expr}{d f:TE}(g:PE X a d)(i:PE X b f)(m:X.K=K:=by rfl)(r:EA b:=by intro _ _;rfl):PE X (ćo a b h) (JL (Tl K) d f):=Fp (Q3 K m) g i r
omit e
section
variable{P:Zu}{w:World}{K:Zp}{mg:Zs}{base:Heap}{n q:Str}{st:Stmt}{a:AF}{C:Addr}{N b:Zv}{k:Nat}{sp:Sp}
theorem Df.ok(D:Df K mg n st a b)(S:aA N b (aj st))(e:{Ĕh,ς,vQ k {ĂY,{ĊF,n,aj st,a.x,g}}->sp i H Q E->∃t,yo (Ce dw P w K mg base N n (aj st) a.x g A outer s H E).nox (gT st) t/\t {Ēs,Āt Q j} (jb N i) H})(len:{ęq,sp i H Q E,Ėd}:=by rw[ĈL,h];rfl):aT P w K mg base dw (k+1) a.x a.d b sp:=D.f.ok S len e
theorem Mf.ok(D:Mf K C n q st a b)(S:aA N b (aj st))(e:{Ĕh,ς,vQ k {ĂY,{ĊF,q,aj st,a.x,g}}->sp i H Q E->∃t,yo (Ce dw P w K mg base N q (aj st) a.x g A outer s H E).nox (gT st) t/\t {Ēs,Āt Q j} (jb N i) H})(len:{ęq,sp i H Q E,Ėd}:=by rw[ĈL,h];rfl):aT P w K mg base dw (k+1) a.x a.d b sp:=D.f.ok S len e
theorem Df.okE(D:Df K mg n st a b)(S:aA N b (aj st))(e:{Ĕh,ς,vQ k {ĂY,{ĊF,n,aj st,a.x,g}}->sp i H Q E->∃t,yo (Ce (lA P w) P w K mg base N n (aj st) a.x g A outer s H E) (gT st) t/\t {Ēs,Āt Q j} (jb N i) H})(len:{ęq,sp i H Q E,Ėd}:=by rw[ĈL,h];rfl):aT P w K mg base (lA P w) (k+1) a.x a.d b sp:=D.f.okE S len e
theorem Mf.okE(D:Mf K C n q st a b)(S:aA N b (aj st))(e:{Ĕh,ς,vQ k {ĂY,{ĊF,q,aj st,a.x,g}}->sp i H Q E->∃t,yo (Ce (lA P w) P w K mg base N q (aj st) a.x g A outer s H E) (gT st) t/\t {Ēs,Āt Q j} (jb N i) H})(len:{ęq,sp i H Q E,Ėd}:=by rw[ĈL,h];rfl):aT P w K mg base (lA P w) (k+1) a.x a.d b sp:=D.f.okE S len e
omit e
omit L2
namespace L2
open PySem PySem.W PyProof.Rows
def vP(K:Zp)(C D:Addr):Prop:=zf K C/\∃a,UP K C a/\{Ą,Ĕ8 C a,Ćy}
def Ve{K:Zp}{x C:Addr}{d:Value}{f:ă3}{b:ClassData}{g:ďW}{mb:Zt}(h:zf K x)(l:Ăk x=Ù {d,f,.cls b,g})(o:b.mro=āi::mb)(e:{Ą,Ĕ8 x mb,ŋ}):vP K x C:={h,_,{_,_,_,_,l,o},e}
def Vi(K:Zp)(b:XK->TS)(S:Addr)(th:TS):TS:=λD a H=>b (λc _ d=>∃C,c=ŋ/\vP K C S/\th D a d) D a H
def Qm{X:Cx}{st y:Stmt}{b:ă2}{A:XK->TS}{th:TS}{S:Addr}{x:Str}{J e i:Pos}(K:Zp)(M:X.K=K)(j:ĉw)(Q:ĉD)(R:zf X.K S)(hg:Gl X x)(hm:ās=í S)(Z:∀(E:XK)(d:Zr)(f:St)(g:Zq),nM ē1 (Ď1 g) E d f->UK (Ď1 g) d f st (A E))(hh:∀m,yo (ĖQ m) (y::b) th)(n:Āx:=by decide):PS X (.Try [st] [.ExceptHandler {Ù,Ăl J} none (y::b) e] [] [] i) (Vi K A S th):=by subst M;intro d s f H D I h;show EL j Q (λE p f g O=>MS (Z E p f g O)) I h λm C' H' s5 P L=>?_;have(C,(),(U,k,V,l),o):=P;have(bm,N,nm,q,bs,hd,sn,sub,ab,Y,dd,k0,k1,k2,k3,k5,mN,r,hN,aa,T):=Ē6 R.at;have(t,N',ad,q',ag,al,an,v,ap,B,as,av,ax,a0,a2,a3,a5,a,a6,G,T'):=Ē6 U.at;have(ob,u,c):=L.obj;rw[ç,wpAny_handleBy_cons {ģl,qW (L.inv.inExc m) hg hm ?_ n} āN,CO (L.inv.bk _ _ a) (L.inv.bk _ _ r) u c ěC ?_];obtain rfl:t=k:=V.is I.mod.kin a () ();rw[ó,l,codeAny_handlers_suite (L.run hh o λ_ _ z=>z)]
abbrev Xo(d:Value)(b:Addr)(C:Value):HO:= .ext λh=>(∃o,ϴ=Û/\ăm C)/\F2 d b h
abbrev exO(b:Addr)(C:Value):HO:=Xo .none b C
section
variable{X:Cx}{f:Zr}{t:St}{H D:Hp}{s B:Shared}
def aU.lay{d:Addr}{C y:Value}(I1:aU X f t D B)(hn:B.heap.get? d=none)(I:aU X f t H s)(nh:H d=none)(A:∃o,ε d=Û/\ăm C)(f2:ěM y d):aU X f t (aJ H d (Xo y d C)) s:=by
 have ne:{ê,B.heap.get? b=Û,ú d}:=λb o e z=>čb z hn e
 show{I.ok,I.os,I.bare,{I.base.keep,I.base.slot,λb o e n l=>?_,I.base.there,λb h q=>?_,λb o u q=>?_,λb F q=>?_},I.loc,I.cell,?_,Ĝv,λp w=>?_,ěN,I.len}
 ·have(K,G):=I1.base.there b o e l;rw[ó,ay (ne _ _ G),ĎG b o e n l]
 rw[Ĺ,ay (aI (I.base.tups b h q) nh),I.base.tups b h q]
 rw[Ĺ,ay (aI (I.base.frzs b o u q) nh),I.base.frzs b o u q]
 ·have(a,z):=I.base.tbls b F q;show{a,{Þ,ay (aI z nh),z}}
 ·have(m,i,_):=I1.loc;have(L,_,_,j,_):=i;rw[ó,ay (ne _ _ j),I.free]
 ·have(v,o,J,_):=I1.cell x c e;rw[ó,ay (ne _ _ J),I.freeC x c e]
 ·have(e,n,r):=I.pin p w;rw[ó,ay (ne _ _ (I1.pin p w).1),(e,n,r,)]
 ·by_cases E:b=d
  ·subst E;rw[ĄN,af,e,{(A,f2,),Đy A.imp q.1,λh1 h2 g k=>{g.1.imp λo q=>{k o q.1,ņ},g.2.imp λo q=>q.imp λM q=>{k o q.1,ņ}}}]
  ·rw[ą5,ay E,(čl b u e).stay (λc v _ q=>q) (λc q=>{āx,ay (aI q nh)}) λc h q=>{āx,ay (aI q nh)}]
def qL{M:Model}{A:Around}{E:Zq}{i:Nat}{x:Str}{F:Pos}{Q:Unit->Ĝ}(I:aU X f t H s)(R:X.N.Nodup)(hi:Ā7=ù)(g:ăw x=Ŋ)(h:∀S,aU X f (t.set i none) H S->ąx S):{ĀM,M,do bindName X.env x .none;unbindBehindTheSuite X.env x F}:=by
 show a_ (wpAny_bindName (ue I R hi (à g) (show Āt bu .none from ()) (λB I1=>?_) ġ));unfold unbindBehindTheSuite;show YN ?_;have(m,hn,O):=id I1.loc;have l:i<t.length:=Þ I.len ĉX
 have(u,_,G):=O i x .non hi (t0 l) (à g);obtain⟨U,G⟩:Ė2 x=Ŋ/\m x=ð:=by
  have z||(k,_):=G
  ·show z
  ·have k||k:=k
   ·rw[Ā,k.symm.trans g,Ü]
   ·rw[Ā,k.symm.trans g,Ü]
 have w:{ć,ĔZ .class||(ĔZ .module&&X.env.locals !=X.env.globals)}:=by rw[I.ok.kind];rfl
 show wpAny_unbindName_local U hn G w λh' P J r=>?_;have cne:=I1.cne;have(oL,_,_,V,_):=id hn;have lt:{ê,ĕ3 b=Û,ā2 b}:=λb o e=>iA (j1 (h_ e) I1.ok.above);show h _ {I1.ok,I1.os,I1.bare,{λb o e n K g=>{è,r.2 b (lt b o e),I1.base.keep b o e n K g},λb o e n K g=>?_,I1.base.free,λb o e g=>?_,I1.base.tups,I1.base.frzs,I1.base.tbls},{_,J,λj y W v C Y=>?_},λy c e=>?_,I1.free,I1.freeC,λp Z=>?_,λb ob e=>?_,Þ wa I.len}
 ·have(sl,v):=I1.base.slot b o e n K g;show{sl,{è,r.2 b (lt b o e),v}}
 ·have(o',v):=I1.base.there b o e g;show{o',{è,r.2 b (lt b o e),v}}
 ·have L:j≠i:=λz=>by rw[z,t0 l]at C;cases C
  rw[op (m_ L)]at C;have(P,r',q):=O j y W v {Þ,op (m_ L),C} Y;show{P,r',?_};have(k,e)||(k,c,e,z):=q
  ·show à {k,?_};have:y≠x:=λe=>L (AB R v (e▸hi));simp[this,e]
  rw[ϛ,{k,c,e,z.sameBut r (cne y c e)}]
 ·have(T,z):=I1.cell y c e;show{T,z.sameBut r (cne y c e)}
 ·rw[ė6,I1.pin,p,Z];show{{è,r.2 ę ne,e},n,ne,nf,d}
 ·have a:=I1.free;show(I1.hok b ob e).stay (λc T hc q=>{è,r.2 c ?_,q}) ĈZ Ăd;rw[ěe,hc]
  ·rw[ĀJ,a,e]
  ·rw[a]at hc;cases hc
omit e
noncomputable def jx.off(D:jx)(i:Nat):jx:={D with nx:=λa H=>D.nx (a.set i none) H,bk:=λa H=>D.bk (a.set i none) H,ct:=λa H=>D.ct (a.set i none) H}
def Vj(d:Value)(K:Zp)(e:XK->TS)(S:Addr)(i:Nat)(th:Addr->TS):TS:=λD b H=>e (λf _ c=>∃C,f=ŋ/\vP K C S/\∀a,c a=none->th a (D.off i) (b.set i (í a)) (aJ c a (Xo d a ŋ))) D b H
def Qn{cx:Value}{X:Cx}{bs:ă2}{b0:Stmt}{d:ă2}{tb:XK->TS}{th:Addr->TS}{S:Addr}{x n:Str}{np o G:Pos}(i:Nat)(K:Zp)(hK:X.K=K)(J:ĉw)(hf:ĉD)(hS:zf X.K S)(hg:Gl X x)(hm:ās=í S)(p:X.N.Nodup)(hb:∀(E:XK)(b:Zr)(M:St)(Xe:Zq),nM (Vc cx X.prog X.w) ėH E b M->UM ėH b M bs (tb E))(hh:∀e,yo (ĖQ e) (b0::d) (th e))(hi:Ā7=ăo:=by rfl)(m:ăw n=Ŋ:=by rfl)(Q:Āx:=by decide):PS X (.Try bs [.ExceptHandler {Ù,Ăl np} ăo (b0::d) o] [] [] G) (Vj cx K tb S i th):=by subst hK;intro b s M H D I h;show EL J hf hb I h λe C' H' s5 hr L=>?_;have(C,(),(hC,O,mr,P),R):=hr;have(bm,N,nm,q,bs,hd,sn,sub,ab,an,dd,k0,k1,k2,k3,k5,mN,U,ap,as,T):=Ē6 hS.at;have(V,N',av,q',ax,a0,a2,aa,a3,ad,a5,a6,a7,a8,ba,bb,bc,l,ag,al,T'):=Ē6 hC.at;have(ob,Y,y):=L.obj;rw[ç,wpAny_handleBy_cons {ģl,qW (L.inv.inExc e) hg hm ?_ Q} āN,CO (L.inv.bk _ _ l) (L.inv.bk _ _ U) Y y ěC ?_];obtain rfl:V=O:=mr.is I.mod.kin l () ();rw[P];have(B,t,(fl,f2),k):=L.fly;have(H1,s1,I1,hn):=L.src;rw[Ŏ,codeAny_handlers_suite_as (UD fl f2 λh6 A Z f6=>?_),ue (aU.lay I1 hn (k h6 A.1 Z) L.nh A.there f6) p hi (à m) (show (Ε bu e ąa)from ()) (λs8 I8=>?_) (æ m),{ĉ3,hh e b _ _ _ (D.off i) (I8.inExc e) (R e L.nh),λf s9 z=>?_,z.elim}];have z:=z.outExc I.ok;cases f with|next=>rw[ĞG];show qL g p hi m λs' j=>{_,c,j,q}|brk=>rw[ĞG];show qL g p hi m λs' j=>{_,c,j,q}|cont=>rw[ĞG];show qL g p hi m λs' j=>{_,c,j,q}|ret u=>have(v,a,c,g,r,q):=z;show qL g p hi m λs' j=>{v,_,c,j,r,q}
omit L2
namespace L2
open PySem PySem.W PyProof.Rows Builtin Builtin.ObjectAttr Builtin.Getset_descriptor
structure Lq(K:Zp)(C:Addr):Prop where
 ga:findIn K ŋ "__getattribute__"={ZY,Α "BaseException.__getattribute__"}gt:findIn K ŋ "__getattr__"=ćC
 cl:(findIn K ŋ "__class__"=ZY Ąu)sp:(specialIn K Ąu "__get__"=ZY č9)tk:takesIn K Ąu=ā8
 mo:mroIn K C ĕT=ā8
 mb:mroIn K C ĐB=ā8
 ic:zf K C
section
variable{prog:Zu}{w:World}{A:Around}{E:Zq}{s:Shared}{K:Zp}{x C:Addr}
def Ib(x C:Addr)(h:Heap):Prop:=∃o,Ă6 x=Û/\ăm ŋ
def Ib.ty{M:Model}{h:Heap}(p:Ib x C h):Looks M h (typeOf āi) ŋ:=by have(o,h1,h2):=p;show h2▸(Looks.ld h1).andThen .now
def Rg{R:Result->Ĝ}{tp:Value}(X:Ćj)(p:đt Ib x C)(e:Lq K C)(q:R (.ok (.ret ŋ)) s):{Ă3,ζ,A,.call č9 {[Ąu,āi,tp],[]},R,s}:=by
 rw[Ēq,ęa ζ,ĝm ζ X e.mo];have(c,gs,dr,t,os):=s;show YB KF.slot_gs.plain KF.entry_gs (KF.slot_gs.check _ _ _ _ _ _ _ _ KF.type_class (KF.args_gs _ _ _) ?_);unfold Builtin.«getset_descriptor.__get__»descrGet;rw[dga_obj];show a_ (eN ?_);unfold descrGetter descrCheckInstance descrNameAndClass isInstance;simp only[KF.owner_class];(repeat lk);show{Code.quiet_builtin _ Ý,E2 KF.entry_class ?_};unfold Builtin.«object.__class__»shownTypeOf
 (repeat lk)
 show q
def Oj{M:Model}{h:Heap}(X:K.In h)(e:Lq K C):Looks M h (Builtin.ObjectAttr.find āi ŋ "__class__") (.bind č9 Ąu):=by rw[ϯ,(looks_findIn X e.cl).andThen ?_,(show Looks M h (Builtin.ObjectAttr.getOf (Ù Ąu)) _ from looks_specialIn X e.sp).andThen ?_,(show Looks M h (Builtin.ObjectAttr.dataDescriptor? (Ù Ąu) (Ù č9)) (āe č9 Ąu)from(looks_takesIn X e.tk).andThen .now).andThen (Looks.tag .now)]
def KW{t:Tok}{Q:Fin->Ĝ}(X:Ćj)(p:đt Ib x C)(e:Lq K C)(q:Q (.done (.ret ŋ)) s):{ϡ,Builtin.«object.__getattribute__» {[āi,ĆI "__class__"],[]}}:=by
 rw[Ēq,ęa ζ,Oj (x:=x) (M:=ζ) X e];have(c,gs,dr,t,os):=s;unfold Builtin.«object.__getattribute__»
 (repeat(first|rw[ĕw,Yg (Rg X p e ?_)]|lk))
 show q
def KY{n:Value}{Q:Unit->Ĝ}(X:Ćj)(p:đt Ib x C)(e:Lq K C)(q:ąx s):{ϡ,checkBuiltinCall "BaseException.__getattribute__" {[āi,n],[]}}:=by
 rw[Ēq,ęa ζ,ĝm ζ X e.mb];have c:ęK builtinKind=Ù .slot:=Ý
 have d:ęK splitId=āe "BaseException" "__getattribute__":=Ý
 have f:=Ε F.args_bexc_ga x n;have(g,gs,dr,t,os):=s;simp only[checkBuiltinCall,c,d];show a_ ?_;unfold isInstance;show a_ (a.at (b.at ?_))
 (repeat(first|assumption|wp_step))
def Rh{Q:ĳ->Ĝ}(X:Ćj)(p:đt Ib x C)(e:Lq K C)(q:Q (í C) ĉB):{ϡ,Ε getAttr? x "__class__"}:=by
 rw[Ēq,ęa ζ,looks_findIn (M:=ζ) X e.ga];have c:=looks_findIn (M:=ζ) X e.gt;have g:=ĝm ζ X e.mb;have(h,gs,dr,t,os):=s;have f3:=F.excAttr_ValueError.ga.bind āi;have d:ă9 ě6 ģ7:=Ý
 have f:{ć,onTheHeap (Ś C)&&ě6==ģ7}:=by rw[d];rfl
 unfold getAttr? getAttrBy? getAttrBy;rw[ąZ,a_ (wpAny_mkText (a_ (R_ (n_ (a_ (a.at (a_ (b.at ?_))))))))];rw[f,hF hH];unfold getAttrByItsOwn hookBefore;rw[hY {Đp,onTheHeap (Ś C),()}];show a_ (c.at (a_ (R_ (n_ ?_))));unfold callGetattribute boundAndCalled;rw[{ćI,hF,¬{î,false&&onTheHeap ě6},hH},f3];rw[ĭ,a_ (eN ?_),Yg (YB F.excAttr_ValueError.ga.plain F.entry_bexc_ga (KY X p e (KW X p e ?_)))]
 (repeat lk)
 show q
def Jb{h:Heap}(X:K.In h)(e:Lq K C):∃c d cd sl,Ă6 C=Ù {c,d,.cls cd,sl}:=by have(f,N,nm,q,bs,hd,g,sub,i,a,dd,k0,k1,k2,j,k,l,b,_):=e.ic.at X;show{_,_,_,_,b}
def NO(e:Lq K C):KitX K āi ŋ (Ib x C)where
 ty:=λ_ _ _ p=>p.ty
 it:=λ_ _ X _=>by have(c,d,cd,sl,a):=Jb X e;intro i j l m k q;unfold isType loadHead;show a_ (wpAny_loadPart (k _ _ a) (eN q))
 ne:=λh tp dd f n sl X b=>by have(c,d,cd,g,a):=Jb X e;show Bool.eq_false_iff.mpr λq=>?_;have z:C=tp:=Value.ref.inj (YP.mp q);subst z;cases a.symm.trans b
 ca:=λX p k=>Rh X p e k
omit e
section
variable{X:Cx}
def rf(K:Zp)(g:X.K=K):dN X ĊC (λf H Q=>∃(d C:Addr)(c:V)(cv:Value)(b:Bool),f=[Āv,c]/\H d={Ù,exO d ŋ}/\Lq K C/\(c=ĝ0 .ty/\cv=ć3\/∃D,c=Ćy/\cv=Ćy)/\kitOne K ŋ cv=ăr/\Q Āw H):=by
 subst g;intro a s l H f m Q I r h;have(d,C,c,cv,b,(),i,ei,hc,e,q):=h;have(u,j,(),k,rt):=zh r;obtain rfl:u=Ś d:=k;have((p,_),_):=Ęh i;obtain rfl:j=cv:=by
  have((),())||(D,(),()):=hc
  ·show rt
  ·show rt
 show kia_one (NO ei) I.kIn p e (nofun) λtk=>{Āw,H,Ċw tk,(),q}
omit e
def yV:ϓ "ValueError"=Ù ć3:=Ý
omit L2
namespace L2
open PySem PySem.Spec PyProof.Rows
def QF{env env':Env}(e:Value)(h:ġD env'.frame):Ēv e env=Ēv e env':=by unfold noteFrame PySem.frameOf;rw[h]
section
variable{M:Model}{A:Around}{E:Zq}{s:Shared}{base:Heap}{env:Env}{outer l:ς}{L e:Addr}{cls d g x0:Value}{Q:Unit->Ĝ}
def Hq(n:ĘZ)(p:ĒS L)(k1:Ĥk)(k2:ėm e=none)(D:ĊI base ċd)(r:s.heap.TracedAtW base e cls d g)(f:Ċe x0)(F:∀h',Ċ7 outer e d h'->ČK->F2 x0 e h'->ďu):{ĀM,M,ĉx env ąa}:=by
 show(qy _ _).any f ?_
 by_cases G:g=ćT L
 ·subst G;have hh:Heap.HeldW base ċd e cls d L s.heap:=(k1,k2,D,r,);unfold leaving;show a_ (wpAny_noteFrame_againW p r (wpAny_landsW hh λh' t up f2=>?_));have(u,v,(_,_,w),x):=t;show F h' (u,v,w,x,) up f2
 ·have(N,H,T,O,J,I,(m,h0),hd,h1,y,B,C,j,h3):=r;subst m;unfold leaving noteFrame;simp only[p];rw[Ģ,a_ (a_ (ri I hd h1 ?_)),hY {Đp,Ś T !=Value.none,Ü}];rw[ĄZ,a_ (ri C j h3 ?_),{ćI,hF,¬{Ξ,g,ćT L},{ÿ,G,ĀI z}},a_ (Yz C j (N_.mp h3).1 ?_)];have c:∀b,ú T->(s.heap.update T (Obj.mapFields (·.setIfInBounds 3 Value.none))).get? b=ģ:=λb i=>pw _ _ (m_ i);have a:{ê,ģ=Û,(∀H,ēr H)->ú T}:=λb o i h q=>by rw[q,C]at i;injection i with i;subst i;show h J j
  show wpAny_newEntryW n (D.of_keeps λb o i h=>{o,{è,c b (a b o i h),i},()}) p {è,c e (m_ B),I} (λb o k=>{è,(c b λq=>by rw[q,y]at k;cases k),k1 b o k}) k2 hd (N_.mp h1).1 h0 λh' K f2=>?_
  have(u,(_,_,v),w,x):=K;show F h' (u,k2,v,w,) (λb o i h=>x b o {è,c b (a b o i h),i} h) f2
def G6{p:String}{B:Zq}{i:Env}(k1:Ĥk)(k2:ėm e=none)(C:ĊI base l)(D:s.heap.TracedAtW base e cls d g)(f:Ċe x0)(F:∀h' u,base.StaysIn h'->ĝY base l->h'.TracedAtW base e cls d u->ČK->F2 x0 e h'->Ε E e Χ):ăG M (PySem.passOn p ąa i:ėo) B:=by
 have(G,w,T,H,z,x,hc,hd,h1,r,t,y,j,h3):=D;have k:3<z.size:=(N_.mp h3).1;unfold PySem.passOn;rw[ĄZ,a_ (ri x hd h1 ?_),{ćI,hF,¬{Ĝr,Ś T},Ü},a_ ((Ε oK e i.frame).any f ?_)];unfold setFlight;rw[Ģ,a_ (ri x hd h1 ?_),hY {Đp,Ś T !=Value.none,Ü}];generalize(i.frame.elim Value.none λf=>ćT f)=v;have c:∀b,ú T->(s.heap.update T (Obj.mapFields (·.setIfInBounds 3 v))).get? b=ģ:=λb h=>pw _ _ (m_ h);have a:{ê,ģ=Û,(∀w,ēr w)->ú T}:=λb o h m q=>by rw[q,y]at h;injection h with h;subst h;show m z j
 rw[ö,Yz y j k λf2=>wpAny_throw (F _ v (λb o n=>{è,(c b λq=>by rw[q,r]at n;cases n),k1 b o n}) (C.of_keeps λb o h m=>{o,{è,c b (a b o h m),h},()}) ?_ (λb o h hn=>{o.slots,{è,c b (a b o h hn),h}}) f2),{G,w,T,_,_,{è,c e (m_ t),x},hc,hd,h1,r,t,qx _ y (Yx (T_ j _)),T_ j _,by simp[k]}]
omit e
def WM(P:Zu)(w:World):Cs:=λouter H s E e a=>∃(c:Addr)(C:Value)(B:Heap)(t:Addr)(d:Hp)(f:Value),e=â c/\a.os=s.os/\ĄW a.gens/\ĂB Un Ϩ [] H d a.heap/\pz P w d a.heap/\(ċm a.heap/\ęT c=none/\a.heap.FunFrames B outer/\a.heap.TracedAtW B c C ľ f)/\{ê,d b=Û,∃u,ZP=ð}/\{ê,ģ=Û,b∉Ϩ->∃u,ZP=ð}/\ĎO C d/\F2 .none c a.heap
section
variable{P:Zu}{w:World}{K:Zp}{mg:Zs}{base:Heap}{N:Zv}{d:Str}{scope:Scope}{f:Addr}{cd:Value}{A:Around}{outer:ς}{g:Shared}{h:Hp}{E:XK}
def Am:fZ (WM P w) (Ce (lA P w) P w K mg base N d scope f cd A outer g h E) E:=by
 intro S σ H s e J I(T,C,B,t,U,fg,(),os,bare,un,hok,(p,L,r,M),m,c,q,f2);have x:(Ć3 d f).frame=Ěy:=();have y:iE āU=ěs Ϩ:=vC x;have j:Un Ϩ [] h H g.heap s.heap:=I.base;have un:{ĂB,Un,iE āU,[],H,U,J.heap}:=un;have c:{ê,ģ=Û,b∉iE āU->∃u,ZP=ð}:=c;have r:J.heap.FunFrames B āU:=r;have z:{ê,Ă1=Û,b∉Ϩ->b∉iE āU}:=λb o e a hm=>by
  rw[Ĝo,y,Ű hm]
  ·rw[Ā,h_ e,nk _]
  ·show a hm
 have v:{ê,Ă1=Û,b∉Ϩ->∃u,ZP=ð}:=λb o e a=>by have(O,i):=j.there b o e Ü;show c b O i (z b o e a)
 change Ω Ąa {ĂY,Ć3 d f} {ĉx,Ć3 d f,Ćs} _ _ J;rw[ç,Hq (outer:=outer) I.ok.frames x p L r M f2 λh' k up Q=>?_,{T,C,B,t,U,(),os.trans I.os,bare,?_,hok.flown m p k.1,k,m,v,q,Q}];rw[ĕc,{ê,Ă1=Û,h b=none->b∈Ϩ->∃sl,ŵ=ČD},by
  have(sl,i):=j.slot b o e n a Ü;have n1:=j.free b o e n Ü;have(X,D):=un.slot b _ i n1 {Þ,y,fy _ a} Ü;have(_,V,l,hd):=đ5 a;have:V=o:=by have l:Ă1=Ù V:=l;rw[e]at l;show ĆF l
  subst this;have(R,F):=up b _ D hd;show(R,F,)]
 show{ĐL,ėy slot b o e n a,Ĥ2,đ1,λb W e=>un.tups b W (j.tups b W e),λb o u e=>un.frzs b o u (j.frzs b o u e),λb Y e=>?_}
 ·have i:=j.keep b o e n a Ü;have n1:=j.free b o e n Ü;have D:=un.keep b o i n1 (z b o e a) Ü;have(u,G):=v b o e a;have F:=p b u G;rw[D]at F;rw[ā,F,k.1 b _ G]
 ·have(O,i):=j.there b o e Ü;show un.free b O i (j.free b o e n Ü) Ü
 ·rw[ďN,b,Ϩ]
  ·have n:h b=none:=ēb b a;have(sl,i):=slot b o e n a;show{_,i}
  ·rw[ēv,v b o e a,{u,k.1 b u G}]
 ·have(Z,i):=j.tbls b Y e;have(m2,D):=un.tbls b _ i;show{Z++m2,Ē D X1}
omit e
section
variable{prog:Zu}{w:World}{A:Around}{R:Result->Ĝ}{s:Shared}
def En{o b iter:Expr}{p:Zw}{scope:Scope}{u:Pos}{it q:Value}{env:Env}{Xe:Zq}(t:∀e s,Xe e s->notedBy ζ A env (λx D=>R (.error x) D) e s)(J:ξ Ĝ)(y:∀n s,J n s->{Ĉw,ζ,ĕH it,{ġ1,R (.ok .next) s₁,{ZK,ĕI b it v,λ_ d=>{ZK,assign b env v,λ_ f=>{ZK,forIn p true {Ěp,î r,isTrue c env (eval c env),đb ok,Đ6},λok a=>{Ě,ok,{ZK,eval o env,λx g=>{ZK,call ĢB [q,x],λ_ i=>∃m,m<n/\J m i,Xe,g},Xe,a},∃m,m<n/\J m a},Xe,f},Xe,d},Xe,s₁}},Xe})(n:Nat)(h:J n s):{Ă3,ζ,A,.compLoop (Āf o b p u) 0 it q env,R,s}:=by rw[ăb,codeAny_loop () J (λn s E=>?_) n h,{Ĉw,_,(compTurn (Āf o b p u) 0 it q env).onRaise (λx=>do Ēv x env;theTreesLotGoes x),_,_}];rw[ĄZ,wpAny_noted ?_,compTurn_list,a_ (YM (a_ {ā4,y n s E,λr s₁ j=>?_,t}))];cases r with|none=>show eN j|some v=>show a_ {ā4,j,λ_ d l=>a_ {ā4,l,λ_ f z=>a_ {ā4,z,λok a k=>?_,t},t},t};cases ok with|false=>show eN (ą k)|true=>show a_ (a_ {ā4,k,λx g B=>a_ {ā4,B,λ_ i C=>eN (eN (ą C)),t},t})
omit e
def Em(X Y:Cx)(E:XK):āL Ĝ:=λe b=>∃a c H s,aU Y a c H s/\lA X.prog X.w X.stack H s E e b
theorem FunFrames.less{h B d:Heap}(k:∀b,ZP=none->d.get? b=none):∀{l:ς},ĖX B l->ĖX d l|[],_=>trivial|_::_,⟨a,⟨L,o,b1,b2,b3⟩,c⟩=>{a,{L,o,b1,k _ b2,b3},FunFrames.less k c}
theorem FunFrames.at{h h' B:Heap}:∀{l:ς},(∀L∈iE l,ZU L=Ă6 L)->ĖX B l->ĝY B l
 |[],_,_=>trivial|env::r,k,⟨a,⟨L,o,b1,b2,b3,b4⟩,c⟩=>by
  have e:iE (env::r)=L::iE r:=vC b1;show{a,{L,o,b1,b2,?_,b4},FunFrames.at (λx b=>k x ?_) c}
  rw[Ĺ,k L (Þ e f_),b3]
  rw[ų,e,fy _ b]
section
variable{X:Cx}
def HN{E:XK}{scope:Scope}{N':Zv}{cl:ĀZ Addr}{i:Zr}{σ:St}{H:Hp}{s J:Shared}{fp:Zz}{C:Addr}{as:ŭ {āL,Sem Unit}}{QV:Zq}{av e:Value}(hp:fZ ĘM X E)(M:ĉw)(ax:ĉD)(I:aU X i σ H s)(f:ĄQ xE X i H b)(hC:ĕ9 C)(z:Em X (ča N' cl C s H fp) E e J):notedBy Ϣ X.A (Ēn cl C) (λx a0=>compPost Ϣ X.A X.xe as QV av C (.error x) a0) e J:=by
 have(a7,a8,S,g,I1,Q,Cv,B,t,H',(),os,bare,un,hok,U,V,F,q,f2):=z;have I1:aU (ča N' cl C s H fp) [] a8 S g:=ĥB [] I1;have I0:aU X [] σ H s:=ĥB [] I;have f0:ĄQ xE X [] H b:=λb a=>let⟨a1,a2,a3,a4,a5,a6⟩:=f b a;{a1,a2,a3,a4,a5,λp hp=>a6 p ({Ăp,hp} (nn _) nofun)};have sb:Ĕj C g.heap ēk:={Heap.hide_size _ _,λb a=>Y2 _ a};have Ix:aU X [] σ S ģ5:=Ba (h':=ēk) I0 f0 I1 hC sb;have h:{ê,(ēk).get? b=Û,ú C/\Ă1=Û}:=λb o e=>by have K:=Heap.of_hide e;show{ĄO,K};have:{ĝc,g.heap,[C]}.get? C=none:={ěq,[C],ġH _};rw[z]at e;rw[Ā,Ė3 this,Ü]
 have(m,N,_):=I1.loc;have N:g.heap.Ns C m:=N;have Y:S C=none:=I1.free;have k:C∉ĀS:=λhm=>by have ci:=ēc C hm;have(_,o,ho,_):=I.stack.mem hm;rw[Ā,sm (h_ ho) hC,nk _]
 have(oC,ba,bb,Z,bc,rC):=N;have aa:J.heap.get? C=Ù oC:=un.keep C oC Z Y k Ü;have cn:{ār,ZP=ð,ú Q}:=ĞD z U.2.1 e
 rw[ż,đg Ϣ {Ε,noteFrame,Q,Ēn cl C} _ _ J,QF (env:=(Ēn cl C)) (env':=X.env) (â Q) ()];have ad:=U;rw[M]at ad;show CS (outer:=X.outer) (Ē I.ok.frames M) ax ad f2 λh4 O ag f4=>?_;have al:h4.Ns C m:=ag.ns (oC,ba,bb,aa,bc,rC,);have bi:∀h',Ĕj C h4 h'->∀j:Env,ăc (PySem.passOn "comprehension.variables-let-go" (â Q) j:ėo) Ā2 ĢV:=λh' r j=>by
  have hB:{ār,ĒJ b=ð,ú C/\ZP=ð}:=λb u e=>by have K:=Heap.of_hide e;show{ĄO,K};have:{ĝc,B,[C]}.get? C=none:={ěq,[C],ġH _};rw[z]at e;rw[Ā,Ė3 this,Ü]
  have v:∀b,ZP=none->ĒJ b=none:=λb e=>by cases z:ĒJ b with|none=>rfl|some u=>rw[ĀJ,(hB b u z).2,e]
  have(g1,g2,g3,oe,R,T,oT,ts,he,hc,hd,h1,bt,bz,hT,an,h3):=O;have ne:∀{b:Addr}{o:Obj}{R:Zx},h4.get? b=Û->ēn R->ú C:=λ{b o R}e d z=>by have(o4,_,_,e4,d4,_):=al;rw[z,e4]at e;cases e;rw[d4]at d;cases d
  have st:∀{b:Addr}{o:Obj},ú C->h4.get? b=Û->ŵ=Û:=λn e=>{è,r.2 _ n,e};have k1:(ĒI).StaysIn h':={ĚZ,st,(hB b o e).1,g1 b o (hB b o e).2};have k3:ĝY ĒI X.stack:=by rw[<-M]at g3;show FunFrames.less v (FunFrames.at (λL hL=>r.2 L {ÿ,k,Ă z hL}) g3)
  have ap:H' C=none:=un.free C oC Z Y Ü;have c1:{ê,H' b=Û,∃u,ĒJ b=ð}:=λb o e=>by rw[ēv,V b o e,{u,{è,Y2 _ (ĉH ap),G}}]
  have c2:{ê,(ēk).get? b=Û,b∉ĀS->∃u,ĒJ b=ð}:=λb o e n=>by rw[ēv,F b o (h b o e).2 n,{u,{è,Y2 _ (h b o e).1,G}}]
  have fr:∀b∈ĀS,S b=none/\∀o,Ă1=Û->∀R,ēr R:=λb a=>by show{Ix.stkFree b a,λo e=>?_};have(_,o',y,bB):=Ix.stack.mem a;have y:=(h b o' y).2;rw[e]at y;rw[ā,y,bB]
  show G6 (x0:= .none) (base:=ĒI) (l:=X.stack) (s:=ĢV) k1 (v _ g2) k3 {oe,R,T,oT,ts,st (ne he hd) he,hc,hd,h1,v _ bt,bz,st (ne hT an) hT,an,h3} ?_ λh5 b0 D b8 b9 P f5=>?_
  ·have(o,ws,e,d,c):=f4;show{o,ws,st (ne e d) e,d,c}
  ·have P:h'.UpToSlots h5:=P;have slot:{ê,Ă1=Û,b∈ĀS->∃sl,h5.get? b=ČD}:=λb o e a=>by have(n,d):=fr b a;have(sl,K):=un.slot b o e n a Ü;have(cx,e2):=ag b _ K (d o e);have(cc,e3):=P b _ (st {ÿ,k,Ă z a} e2) (d o e);show(cc,e3,)
   show hp [] σ S ģ5 (â Q) {J with heap:=h5} Ix {Q,Cv,ĒI,t,H',b0,(),os,bare,{ĐL,ĐL,λb o e n hx=>un.free b o (h b o e).2 n hx,đ1,un.tups,un.frzs,un.tbls},hok.flown c1 (λb o e=>U.1 b o (hB b o e).2) D,{D,v _ U.2.1,b8,b9},c1,c2,q,f5}
   ·have(nC,e):=h b o e;have e2:=un.keep b o e n a Ü;have(u,G):=F b o e a;have e3:=U.1 b u G;rw[e2]at e3;rw[ā,e3,D b o {è,Y2 _ nC,G}]
   ·show slot b o (h b o e).2 a
   ·rw[ďN,b,ĀS]
    ·have(sl,K):=slot b o (h b o e).2 a;show{_,K}
    ·rw[ēv,c2 b o e a,{u,D b u G}]
 show{m,al,λh' r j _=>bi h' r j}
def HP{E:XK}(N':Zv)(ds:Zy)(k:Nat){as:Zv}{js:Zy}{ax tg iter:Expr}{R:Zw}{scope:Scope}{a0:Pos}{wi:TI}{g:TG}{tc:TT}{te:TE}{f:Zr}{s:Shared}{S:St}{H:Hp}{Q:VK}{Z:ŭ {āL,Sem Unit}}{QV:Zq}(hc:Ÿ)(hi:PI X tg iter wi)(hp:fZ ĘM X E)(cy:ĉw)(cG:ĉD)(G:{ĚH,fZ ē1 (ėF xe) E,PG (ėF xe) tg g/\Lo (ėF xe) R tc/\PE (ėF xe) ax te})(hg:GK g js)(hj:∀S:St,čY S.length->∀j∈js,∀v,(iw ds k S)[j]?≠Ăw)(L:ĊU)(aa:ċU)(ag:{ďT,Ĉa=Ŋ})(ad:{Ćw,Ą6=Η\/Ą6=ĀL})(hN:N'=X.N++as)(hk:as.length=k)(bi:∀i x,Ā7=ù->Ąj=Ŋ->i∈ds)(hs:∀x,ąg=ąH)(I:aU X f S H s)(h:rS wi g ds k tc te S H Q)(fin:{ĠX,aU X f S H' s',Ăj D->s'.heap.Ns C m->H' C=none->ā2 C->Ąv C->{Āu,ĀC=ŗ,c≠C}->(Ĉe f C)->compPost Ϣ X.A X.xe Z QV Ćy C (.ok .next) s'}):{ű,comprehension (Āf ax tg R a0) scope X.env (firstIterPos (ďw R) a0) (newList []) (firstAsync (ďw R)) {Āi,firstIter,ďw R} Z,QV}:=by
 have al:{Ćw,∃c,Ĕc Ć=ŗ}:=λy hy e=>I.ok.has Ć (ad y hy e);have(cl,a5,bt,bz):=sQ al;show wpAny_comprehension_free (use:=Z) () hs a5 L ag (cz (hi f s S H _ I h) λv s1 h1=>cz h1 λda l h2=>?_);have(it,fp,tn,J,H2,e,I2,T,bB,f2,q):=h2;subst e;have dc:=I2;have(W,(m0,w0),b0):=q l.heap.objs.size (I2.hok.fresh (eH _));rw[ģp,ot (wpAny_newFunctionEnv aa (by intro y hy;simp at hy) Ģs L)];generalize a6:l.heap.push {ĔH,ći,.seq Ćr}=G2 at t hsb₁⊢;have hC:ĥf:=by rw[<-a6,ol];show tA _
 have keep:{ê,Ėu b=Û,ZP=Û}:={ĆQ,hsb₁.extBut,b,o,iA (sm (h_ e) hC),d_ _ (a6▸d_ _ e)}
 have hD:Ģa=ąs Ćr 0:=hsb₁.extBut _ _ (iA hC) (d_ _ (a6▸ge _ ()));have fo:{đq,Ėu b=Û}:=λb G=>{Ĝn,T.obj _ _ bB b G,o,e};have c0:fZ ē1 ((đr N' cl l H2 fp).wish (Em X (đr N' cl l H2 fp) E)) E:=λf S H s e s' I cx=>(f,S,H,s,I.unwish,cx,);have(a7,a8,ba):=G cl G2.objs.size l H2 fp _ c0;generalize c1:Em X (đr N' cl l H2 fp) E=V at a7 a8 ba;generalize a:(đr N' cl l H2 fp).wish V=M at a7 a8 ba;have xp:M.prog=X.prog:=by rw[<-a];rfl
 have xw:M.w=X.w:=by rw[<-a];rfl
 have xK:M.K=X.K:=by rw[<-a];rfl
 have xA:M.A=X.A:=by rw[<-a];rfl
 have xe:M.xe=V:=ĚV a
 have F:M.env=ęg:=by rw[<-a];rfl
 have b8:î M.calm:=Ă a hc
 have jb:aU M f (iw ds k S) (aJ H2 l.heap.objs.size ŀ) {ĔG,l.toks+ĘU}:={Ă,a,(Gd I2 f2 fo L aa ad bt bz hN hk bi hC keep t hD).wish _}
 have b9:tn 0 B:=T.keep _ _ _ bB λb _ o e=>keep b o e;have c2:{Ą1,aJ H2 l.heap.objs.size ŀ b}:=λb G=>by have(o,e):=fo b G;rw[ó,ay (iA (h_ e)),(f2 b G).1]
 have Y:∀{H':Hp},{Ą1,H' b}->ĄQ xE M f H' b:=λhn b G=>by
  rw[Ģr,f2 b G,fo b G];show{hn b G,?_,?_,?_,?_,?_}
  rw[Ĺ,F,iA (sm (h_ e) hC)]
  ·intro z;have z:b∈ĀS:=by rw[<-a]at z;show z
   rcases {Ű,I2.stkSub b z}with y|y
   ·show f1 y
   ·show f3 y
  ·rw[π,a,à G]
  ·intro x c ec;rw[F]at ec;show f5 x c (bt x c ec)
  ·intro p hp;rw[<-a]at hp;show f6 p hp
 have av:{Ă3,Ϣ,X.A,.compLoop (Āf ax tg R a0) 0 ćq čf ęg,compPost Ϣ X.A X.xe Z QV čf G2.objs.size,{ĔG,l.toks+ĘU}}:=by
  show En (Xe:=V) (λe s' z=>?_) (λn s'=>∃i O H',aU M f (iw ds k S) H' s'/\tn i s'.heap/\{Ą1,H' b}/\W i n O H') ?_ m0 {0,[],_,jb,b9,c2,w0}
  ·rw[<-c1]at z;show HN hp cy cG I2 f2 hC z
  intro n s3(i,O,H3,I3,cc,cf,w3);have(stop,qn)||(go,step):=b0 i n O H3 w3
  ·have td:=T.done M xp xw xK b8 i f s3 _ H3 V I3 (Y cf) cc stop;rw[xA]at td;show cz td λr s4 P=>?_;have(hr,I4):=P;subst hr;have U:=I4;rw[<-a]at U;have U:=U.unwish;have(m',c3,_):=U.loc;show fin l.heap.objs.size G2.objs.size H3 s4 m' (Ba (h':=s4.heap) I2 f2 U hC (.refl ..)) qn c3 U.free (mu (sm I2.lt hC)) (w4 (so I2.sz hC)) ĕa λp hp z=>?_
   ·have(v,q):=I2.cell x c e;rw[Ā,sm q.lt hC,{ąl,nk _}]
   ·rw[Ā,sm (h_ (I2.pin p hp).1) hC,{ąl,nk _}]
  ·have ti:=T.item M xp xw xK b8 i f s3 _ H3 V I3 (Y cf) cc go;rw[xA]at ti;show cz ti λr s4 P=>?_;have(u,hr,h4):=P;subst hr;show cz h4 λ_ s5 P=>?_;have(x,H5,I5,r5,y5,bb,c4):=P;have c6:=I5.pinned (Y c4) (T.obj _ _ bb);have pg:=a7 _ s5 _ H5 x u _ c6 r5 (hg x _ H5 _ (step x H5 y5));rw[xp,xw,xA,F,xe]at pg;show cz pg λ_ s6 P=>?_;have(an,H6,I6,(q6,ci,bc)):=P;rw[ĥv,aU M (f++wI fp s5.heap) an H7 s7->aU M f (iw ds k S) H7 s7/\tn (i+1) s7.heap/\{Ą1,H7 b},λ{H7 s7}I7=>by
    show{I7.unpinned.weak ci.symm λj v e=>?_,T.keep _ _ _ bb λb G o e=>(I7.pin (b,o) (lm _ (lm _ (jE G e)))).1,λb G=>?_}
    rw[Ĺ,bc j λz=>hj S I.len j z v e,e]
    ·have(o,e,d):=T.obj _ _ bb b G;show(I7.pin (b,o) (lm _ (lm _ (jE G e)))).2.1]
   have pt:=a8 _ s6 an H6 _ I6 q6;rw[xp,xw,xA,F,xe]at pt;show cz pt λok s7 P=>?_;have(H7,I7,q7):=P;cases ok with|false=>have(m',hm,w7):=q7;rw[Ėo,again I7,{m',hm,i+1,O,H7,a1,a2,a3,w7}]|true=>have pe:=ba _ s7 an H7 _ I7 q7;rw[xp,xw,xA,F,xe]at pe;show cz pe λyv s8 P=>?_;have(y,H8,I8,r8,c8,cn,m',hm,w8):=P;have ap:=dB (X:=M) _ s8 an H8 čf [y] _ [yv] (λv H9=>H9={ń,H8,l.heap.objs.size,O++[y]}) I8 () (ϋ r8) {_,O,y,(),(),c8,cn,()};rw[xp,xw,xA,xe]at ap;show cz ap λ_ s9 P=>?_;rw[ĤH,P];rw[Ėo,again I9,{m',hm,i+1,O++[y],_,a1,a2,a3,w8}]
 show codeAny_compStart_list av (T.self _ 0 _ _ _ b9 av)
def MP{E:XK}(o:Zv)(ds:Zy)(k:Nat){d:Zv}{G:Zy}{p u iter:Expr}{r:Zw}{scope:Scope}{z:Pos}{J:TI}{g:TG}{tc:TT}{te:TE}(hc:Ÿ)(hi:PI X u iter J)(L:fZ ĘM X E)(A:ĉw)(B:ĉD)(M:{ĚH,fZ ē1 (ĘN xe) E,PG (ĘN xe) u g/\Lo (ĘN xe) r tc/\PE (ĘN xe) p te})(hg:GK g G)(R:∀F:St,čY F.length->∀j∈G,∀v,(iw ds k F)[j]?≠Ăw)(e:ĊU)(f:ċU)(b:{ďT,Ĉa=Ŋ})(n:{Ćw,Ą6=Η\/Ą6=ĀL})(S:o=X.N++d)(T:ćv k)(t:∀i x,Ā7=ù->Ąj=Ŋ->i∈ds)(W:∀x,ąg=ąH:=by rw[ą7]):PE X (Āf p u r z) (rS J g ds k tc te):=by intro a s F H Q I h;rw[eval_ListComp];rw[ö,HP o ds k hc hi L A B M hg R e f b n S T t W I h λD C c P m l q hn n1 n2 n3 n4 K=>?_,{m,hn,λh' O=>{Ćy,c,l.block_gone n1 n2 n3 n4 K O,(),q}}]
def Bb{E:XK}(N0 b:Zv)(ds q:Zy)(d:Scope){e h iter:Expr}{f:Zw}{scope:Scope}{i:Pos}{r:TI}{g:TG}{tc:TT}{te:TE}(hc:Ÿ)(m:X.N=N0)(n:đw d)(ok:{î,tV N0 ds d scope})(t:{Ą,q.all,λj=>Đ1||Đ3})(hg:GK g q)(hi:PI X h iter r)(u:fZ ĘM X E)(o:ĉw)(p:ĉD)(y:{ĚH,fZ ē1 ({čH,N0++b} xe) E,PG ({čH,N0++b} xe) h g/\Lo ({čH,N0++b} xe) f tc/\PE ({čH,N0++b} xe) e te})(z:∀x,ąg=ąH:=by rw[ą7]):PE X (Āf e h f i) (rS r g ds b.length tc te):=by subst m;subst n;rw[ě0,tU ok t,MP (X.N++b) ds b.length hc hi u o p y hg h1 h2 h3 h4 a () () c z]
omit e
omit L2
namespace L2
open PySem PySem.Spec PyProof.Rows PySem.W
def vT:{Ė,ċ,ĉ DictEntry}|[],[]=>True|k::a,e::r=>(∃t,e.key=ĆI k)/\vT a r|_,_=>False
theorem vT.all:∀{b:Zv}{l:ĉ DictEntry},vT b l->∀e∈l,∃k t,k∈b/\e.key=ĆI k
 |[],[],_,e,a=>nomatch a|k::b,d::r,h,e,a=>by
  rw[ăU,a]
  ·have(t,c):=ü;show(k,t,f_,c,)
  ·have(f,t,g,c):=vT.all Ŕ e a;show{f,t,fy _ g,c}|[],_::_,h,_,_=>h.elim|_::_,[],h,_,_=>h.elim
def RI(K:Zp)(a:Addr)(d:Zv):Prop:=∃b n,Ăk a=Ù {ĖM,none,.dict b n,#[]}/\ēd vT d
theorem RI.none{K:Zp}{a:Addr}{f:Zv}{k:Str}(h:RI K a f)(m:k∉f):ćb a k=ćC:=by
 have(g,n,l,o):=h;have i:=o.all;unfold PySem.W.nsIn;rw[l];have p:{ėW,g.toList.find? (λe=>e.key.isStr k)}:=XY.mpr λe c=>by have(j,t,b,d):=i e c;rw[d];intro z;have z:Ξ j k:=z;show m (YP.mp z▸b)
 have q:{ć,g.toList.any (λe=>e.refKey)}:=by rw[X6];intro e c;have(j,t,b,d):=i e c;unfold DictEntry.refKey;rw[ó,d,hH]
 simp only[p,q];rfl
section
variable{X:Cx}
noncomputable def Qg(z:Str)(n:Nat):Str:={(ąN n z.cps).foldl (·++·) #[]}
def Mz:R2:=λx y H Q=>∃(z:Str)(n:Int),x=į/\y=ăk/\1<n/\n<=100/\0<z.length/\ĉa 100/\{ēm,ō Qg z n.toNat}/\Q {á,Qg z n.toNat} H
def Qx:oS X ĝB Mz:=by
 intro a s f H x y v u Q I b d h;have(z,n,(),(),h1,h2,h3,h4,g,q):=h;have(t,()):=b;have(i,()):=d;have c:{ć,n==1||z.length==0}:=Þ Bool.or_eq_false_iff {Yr Ø,Yr Ø}
 show PySem.P.mul_str ?_ (λ_ _=>?_) (λ_ _=>?_) ?_
 ·rw[j_ Ø,j_ Ø];rfl
 ·intro k;have k2:ět ϩ<=100*100:=Int.mul_le_mul h2 Ø Ø ß;have e:=Int.lt_mul_of_ediv_lt Ø k;rw[Int.mul_comm]at e;lia
 ·unfold Builtin.Str.tooLong;have:z.length*n.toNat<=100*100:=Nat.mul_le_mul h4 Ø;rw[j_];rw[gg];lia
 ·rw[hF Ø,hF (ăi c)];show{?_,Ĉo,H,ź,ĸ,q};rw[ż,ō Qg z n.toNat<=_,gg];lia
omit e
omit L2
namespace L2
open PySem PySem.W PyProof.Rows PySem.Spec
section
variable{X:Cx}
def LI:∀{d:Zv}{b:Zt},bx ĂO b->ďn b d:=by
 intro d
 induction d with|nil=>intro b r;rw[ā,r,.nil]|cons t d a=>intro b r;cases r with|cons h r=>rw[ėx,h,.cons _ _ (a r)]
def MA(K:Zp):V->Ú->χ:={ĠW,x=į/\b=ſ/\bj K H p Ğf/\ky a+ět a.length<=16777216/\Q {á,ăh a} H}
def Np:Jt X "str.join" (MA X.K):=by intro a s i H x j v l Q I b c h;have(z,p,m,(),(),d,e,q):=h;rw[ěo,b,gZ c];cases f;have(g,r,pl,n):=ϝ d;show join_tuple pl (LI r) e λo k=>{Ĉo,H,Ċw k,ĸ,q}
def Ks(K:Zp)(b:X.K=K):Jt X "str.join" (MA K):=ďs Np
omit e
omit L2
namespace L2
open PySem PySem.Spec PyProof.Rows PySem.W
structure Rn where
 cd:Value
 A:Around
 o:ς
 s:Shared
 Q:VK
 E:XK
instance instNonemptyRn:Nonempty Rn:={{.none,{depth:=0},[],{toks:=0},λ_ _=>True,λ_ _ _=>True}}
noncomputable def rn(Φ:Ĵ Rn):Rn:={Ĥq,λr=>¬Φ r}
def DN{Φ:Ĵ Rn}(h:Φ (rn Φ))(r:Rn):Φ r:={ġr,λn=>{ĤJ,λr=>¬Φ r,(r,n,),h}}
section
variable{P:Zu}{w:World}{K:Zp}{mg:Zs}{base:Heap}{n q:Str}{st:Stmt}{a:AF}{C:Addr}{N b:Zv}{k:Nat}{sp:Sp}
def W3(P:Zu)(w:World)(K:Zp)(mg:Zs)(base:Heap)(N:Zv)(q:Str)(st:Stmt)(f:Addr)(k:Nat)(sp:Sp)(r:Rn):Prop:=∀H c,vQ k (r.A.deeper (envOfC q (aj st) r.s.heap.objs.size f r.cd))->sp c H r.Q r.E->∃t,yo (Ce (lA P w) P w K mg base N q (aj st) f r.cd r.A r.o r.s H r.E) (gT st) t/\t {nx:=λ_ d=>Āt r.Q d,rt:=r.Q} (jb N c) H
def W2(P:Zu)(w:World)(K:Zp)(mg:Zs)(base:Heap)(N:Zv)(q:Str)(st:Stmt)(f:Addr)(k:Nat)(sp:Sp)(r:Rn):Prop:=∀H c,vQ k (r.A.deeper (envOfC q (aj st) r.s.heap.objs.size f r.cd))->sp c H r.Q r.E->∃t,yo (Ce dw P w K mg base N q (aj st) f r.cd r.A r.o r.s H r.E).nox (gT st) t/\t {nx:=λ_ d=>Āt r.Q d,rt:=r.Q} (jb N c) H
def Df.okc(D:Df K mg n st a b)(S:aA N b (aj st))(h:W2 P w K mg base N n st a.x k sp (rn (W2 P w K mg base N n st a.x k sp)))(len:{Ďp,sp e H Q E,Ėe}:=by rw[ĈL,h];rfl):aT P w K mg base dw (k+1) a.x a.d b sp:={ĔF,D.ok,S,DN h (cd,A,o,s,Q,E,) H e c f,len}
def Mf.okc(D:Mf K C n q st a b)(S:aA N b (aj st))(h:W2 P w K mg base N q st a.x k sp (rn (W2 P w K mg base N q st a.x k sp)))(len:{Ďp,sp e H Q E,Ėe}:=by rw[ĈL,h];rfl):aT P w K mg base dw (k+1) a.x a.d b sp:={ĔF,D.ok,S,DN h (cd,A,o,s,Q,E,) H e c f,len}
def Df.okEc(D:Df K mg n st a b)(S:aA N b (aj st))(h:W3 P w K mg base N n st a.x k sp (rn (W3 P w K mg base N n st a.x k sp)))(len:{Ďp,sp e H Q E,Ėe}:=by rw[ĈL,h];rfl):aT P w K mg base (lA P w) (k+1) a.x a.d b sp:={ĔF,D.okE,S,DN h (cd,A,o,s,Q,E,) H e c f,len}
def Mf.okEc(D:Mf K C n q st a b)(S:aA N b (aj st))(h:W3 P w K mg base N q st a.x k sp (rn (W3 P w K mg base N q st a.x k sp)))(len:{Ďp,sp e H Q E,Ėe}:=by rw[ĈL,h];rfl):aT P w K mg base (lA P w) (k+1) a.x a.d b sp:={ĔF,D.okE,S,DN h (cd,A,o,s,Q,E,) H e c f,len}
omit e
omit L2
set_option genSizeOf false
namespace My
open PySem L2
seal L2.yo L2.PS L2.PE L2.PT L2.PA L2.PI L2.PG L2.PW L2.UL L2.PO
def ee(i:Nat):Stmt:=PySem.Challenge.pw_layersplit_k41_desk_rows_refused.main.body.getD i (.Pass ⟨0,0,0,0⟩)
abbrev nP(c i:Nat):Stmt:=(Rq (ee c)).getD i (.Pass {0,0,0,0})
abbrev xN:Stmt:=ee 1
abbrev mQ:Stmt:=ee 2
abbrev zW:Stmt:=ee 23
abbrev oj:Stmt:=ee 24
abbrev CA:Stmt:=ee 25
abbrev zY:Stmt:=ee 26
abbrev tj:Stmt:=ee 31
abbrev zS:Stmt:=ee 32
abbrev xP:Stmt:=ee 38
abbrev CD:Stmt:=ee 39
abbrev lJ:Stmt:=ee 40
abbrev z9:Stmt:=ee 41
abbrev uI:Stmt:=ee 42
abbrev sZ:Stmt:=ee 43
abbrev CC:Stmt:=ee 44
abbrev yZ:Stmt:=ee 45
abbrev BK:Stmt:=ee 46
abbrev BL:Stmt:=ee 47
abbrev GT:Stmt:=ee 48
abbrev zZ:Stmt:=ee 54
abbrev CB:Stmt:=ee 55
abbrev zX:Stmt:=ee 56
abbrev xO:Stmt:=ee 57
abbrev on:Stmt:=ee 58
abbrev ml:Stmt:=ee 59
abbrev tm:Stmt:=ee 60
abbrev sr:Stmt:=ee 61
abbrev uC:Stmt:=ee 62
abbrev su:Stmt:=ee 63
abbrev sj:Stmt:=ee 64
abbrev uD:Stmt:=ee 65
abbrev xS:Stmt:=ee 66
abbrev mR:Stmt:=ee 67
abbrev sk:Stmt:=ee 68
abbrev sf:Stmt:=ee 69
abbrev mj:Stmt:=ee 70
abbrev uH:Stmt:=ee 71
abbrev se:Stmt:=ee 72
abbrev sw:Stmt:=ee 73
abbrev pO:Stmt:=ee 74
abbrev pd:Stmt:=ee 75
abbrev uF:Stmt:=ee 76
abbrev sd:Stmt:=ee 77
abbrev uE:Stmt:=ee 78
abbrev uG:Stmt:=ee 79
abbrev zV:Stmt:=ee 81
abbrev Ip:Stmt:=ee 82
abbrev zT:Stmt:=ee 84
abbrev pR:Stmt:=nP 86 0
abbrev mS:Stmt:=nP 86 1
abbrev lK:Stmt:=nP 86 2
abbrev oq:Stmt:=nP 86 3
abbrev oo:Stmt:=nP 86 4
abbrev lL:Stmt:=nP 86 5
abbrev uJ:Stmt:=nP 86 6
abbrev pS:Stmt:=nP 89 0
abbrev pQ:Stmt:=nP 90 0
abbrev pW:Stmt:=nP 91 0
abbrev Ad:Stmt:=nP 91 1
abbrev uO:Stmt:=nP 91 2
abbrev mY:Stmt:=nP 91 3
abbrev mV:Stmt:=nP 91 4
abbrev gM:Stmt:=nP 91 5
abbrev pi:Stmt:=nP 91 6
abbrev mW:Stmt:=nP 91 7
abbrev mZ:Stmt:=nP 91 8
abbrev pV:Stmt:=nP 91 9
abbrev mU:Stmt:=nP 91 10
abbrev ph:Stmt:=nP 91 11
abbrev ia:Stmt:=nP 91 12
abbrev jC:Stmt:=nP 91 13
abbrev mT:Stmt:=nP 91 14
abbrev sy:Stmt:=nP 91 15
abbrev sA:Stmt:=nP 91 16
abbrev lN:Stmt:=nP 91 17
abbrev pU:Stmt:=nP 91 18
abbrev pT:Stmt:=nP 91 19
abbrev BN:Stmt:=nP 91 20
abbrev DM:Stmt:=nP 91 21
abbrev BM:Stmt:=nP 91 22
abbrev xT:Stmt:=nP 91 23
abbrev wE:Stmt:=nP 91 26
abbrev uP:Stmt:=nP 91 27
abbrev sx:Stmt:=nP 91 28
abbrev uN:Stmt:=nP 91 29
abbrev xR:Stmt:=ee 96
abbrev r9:Stmt:=ee 97
abbrev xL:Stmt:=ee 98
abbrev zU:Stmt:=ee 99
abbrev og:Stmt:=ee 100
abbrev pP:Stmt:=ee 101
abbrev Io:Stmt:=ee 102
abbrev uA:Stmt:=ee 103
abbrev mi:Stmt:=ee 104
abbrev xI:Stmt:=ee 105
abbrev xJ:Stmt:=ee 106
abbrev lI:Stmt:=ee 107
abbrev xM:Stmt:=ee 108
abbrev pM:Stmt:=ee 110
abbrev oh:Stmt:=ee 111
abbrev pL:Stmt:=ee 112
abbrev mh:Stmt:=ee 113
abbrev xQ:Stmt:=ee 114
abbrev om:Stmt:=ee 115
abbrev mf:Stmt:=ee 118
abbrev uB:Stmt:=ee 119
abbrev pN:Stmt:=ee 120
abbrev sB:Stmt:=nP 121 0
abbrev Ae:Stmt:=nP 121 1
abbrev uQ:Stmt:=nP 121 2
abbrev Ac:Stmt:=ee 123
abbrev Ff:Stmt:=ee 124
abbrev Iq:Stmt:=ee 125
abbrev Fg:Stmt:=ee 126
abbrev Iu:Stmt:=ee 127
abbrev Ab:Stmt:=ee 128
abbrev Iv:Stmt:=ee 129
abbrev uM:Stmt:=ee 130
abbrev ou:Stmt:=ee 131
abbrev uK:Stmt:=ee 132
abbrev Iy:Stmt:=ee 133
abbrev lM:Stmt:=ee 134
abbrev CF:Stmt:=ee 135
abbrev GU:Stmt:=ee 136
abbrev DL:Stmt:=ee 137
abbrev pf:Stmt:=ee 138
abbrev Iw:Stmt:=ee 139
abbrev Ir:Stmt:=ee 140
abbrev RS:Stmt:=ee 141
set_option genInjectivity false in
set_option genSizeOf false in
structure ja where(iV dh jt gy eM kY nG m7 gR q8 jP cY cD mJ oO ff x6 yf F6 fP qZ kX kE iL gC lg i0 iK gA iZ jJ jK cw bn fi iX jM iY i3 gW fV jL iW gz gB nA C8 m9 fF dU bH fE fD dD iM fG fC fJ lx iO dZ dY cb eT cR d6 fI dX de cS dW cQ gF gG dF ck fH yr Bq yq jT qI iP eP iN bf bN iS eI j0 kG CY gm cr cF cZ bT iU fT jF eh fc kF jH gk jD gS gI eZ iR lu f8 vS xB gj xz Do jS jR xy Dq eA kD Lk Dn fW Dp Dm law:AF)(cy gE iz cf vW gD Js OY OW Si bB OZ OX Jq cG Jr qK mC c8 gY lY c6 Bs:Addr)pm:Params
structure Txt(K:Zp)(mg:Zs)(a:ja):Prop where
 QU:(mg "Table"=í a.cy)QW:(mg "Layer"=í a.gE)QT:(mg "Trial"=í a.iz)QX:(mg "House"=í a.cf)TX:(mg "Desk"=í a.vW)vg:(mg "SplitError"=í a.gD)U0:(mg "NoHouse"=í a.Js)V8:(mg "NoDeed"=í a.OY)V6:(mg "NoWord"=í a.OW)WW:(mg "Taken"=í a.Si)CQ:(mg "Unknown"=í a.bB)V9:(mg "NoArms"=í a.OZ)V7:(mg "NoRule"=í a.OX)UY:(mg "NoShuts"=í a.Jq)AI:(mg "NoNumber"=í a.cG)UZ:(mg "NoMarks"=í a.Jr)NI:(mg "Closed"=í a.qK)NG:(mg "NoRoom"=í a.mC)IT:(mg "NoRow"=í a.c8)Kx:(mg "LENGTHS"=í a.gY)D6:(mg "FORMS"=í a.lY)x9:(mg "QUESTIONS"=í a.c6)NH:(mg "HELD"=í a.Bs)iV:(Df K mg "points_in" xN a.iV ęn)dh:Df K mg "points_in_both" mQ a.dh ["house","trial","arm","other","there"]jt:(Df K mg "is_whole" zW a.jt õ)gy:(Df K mg "is_text_of" oj a.gy ĕZ)eM:(Df K mg "is_word" CA a.eM õ)kY:(Df K mg "is_guest" zY a.kY õ)nG:(Df K mg "is_prime" tj a.nG õ)m7:Df K mg "point_of" zS a.m7 ["p","salt","guest"]gR:(Df K mg "is_number" xP a.gR õ)q8:(Df K mg "is_mark" CD a.q8 õ)jP:(Df K mg "are_marks" lJ a.jP õ)cY:(Df K mg "has_form" z9 a.cY Ĝf)cD:(Df K mg "all_within" uI a.cD Ā5)mJ:(Df K mg "words_of" sZ a.mJ Ā5)oO:(Df K mg "is_rule" CC a.oO õ)ff:(Df K mg "holds" yZ a.ff ę6)x6:Df K mg "numbers_for" BK a.x6 ["rule","word"]yf:Df K mg "first_marks" BL a.yf ["rule","words","marks"]F6:(Df K mg "example" GT a.F6 Ā5)fP:(Df K mg "is_count" zZ a.fP õ)qZ:(Df K mg "is_salt" CB a.qZ õ)kX:(Df K mg "is_total" zX a.kX õ)kE:(Df K mg "is_weight" xO a.kE õ)iL:(Df K mg "are_counts" on a.iL ăJ)gC:(Df K mg "are_weights" ml a.gC ăJ)lg:(Df K mg "are_arms" tm a.lg õ)i0:Df K mg "check_house" sr a.i0 ["prime","salt"]iK:(Df K mg "check_word" uC a.iK õ)gA:(Df K mg "check_guest" su a.gA õ)iZ:(Df K mg "check_marks" sj a.iZ õ)jJ:(Df K mg "check_rule" uD a.jJ õ)jK:(Df K mg "check_new" xS a.jK ăH)cw:(Df K mg "check_standing" mR a.cw ăH)bn:(Df K mg "check_known" sk a.bn ăH)fi:(Df K mg "check_place" sf a.fi ĕJ)iX:(Df K mg "check_slope" mj a.iX Ės)jM:(Df K mg "check_arms" uH a.jM õ)iY:(Df K mg "check_shuts" se a.iY ěU)i3:(Df K mg "check_count" sw a.i3 õ)gW:(Df K mg "check_shares" pO a.gW ăJ)fV:(Df K mg "check_dealing" pd a.fV ęo)jL:(Df K mg "check_form" uF a.jL Ća)iW:Df K mg "check_trial" sd a.iW ["deed","layers","trials"]gz:Df K mg "check_open" uE a.gz ["deed","trials"]gB:Df K mg "check_deed" uG a.gB ["deed","prime","layers","trials"]nA:Df K mg "most_due" zV a.nA ["weights","given"]C8:Df K mg "dealt" Ip a.C8 ["total","weights"]m9:Df K mg "place_of" zT a.m9 ["p","slope","point"]fF:(Mf K a.cy "__init__" "Table.__init__" pR a.fF Ėc)dU:(Mf K a.cy "owner_of" "Table.owner_of" mS a.dU ĕK)bH:(Mf K a.cy "places_of" "Table.places_of" lK a.bH ĕL)fE:(Mf K a.cy "free" "Table.free" oq a.fE Āo)fD:(Mf K a.cy "told" "Table.told" oo a.fD ěW)dD:(Mf K a.cy "give_back" "Table.give_back" lL a.dD čS)iM:(Mf K a.cy "take" "Table.take" uJ a.iM čS)fG:(Mf K a.gE "__init__" "Layer.__init__" pS a.fG ėf)fC:Mf K a.iz "__init__" "Trial.__init__" pQ a.fC ["self","home","arms","rule","shuts"]fJ:(Mf K a.cf "__init__" "House.__init__" pW a.fJ ĉ4)lx:(Mf K a.cf "do" "House.do" Ad a.lx čE)iO:(Mf K a.cf "done" "House.done" uO a.iO čE)dZ:(Mf K a.cf "do_layer" "House.do_layer" mY a.dZ ĕN)dY:(Mf K a.cf "do_trial" "House.do_trial" mV a.dY đ8)cb:(Mf K a.cf "do_share" "House.do_share" gM a.cb ěA)eT:(Mf K a.cf "do_hold" "House.do_hold" pi a.eT ĕs)cR:(Mf K a.cf "do_pause" "House.do_pause" mW a.cR ěX)d6:(Mf K a.cf "do_close" "House.do_close" mZ a.d6 ĜI)fI:(Mf K a.cf "do_bar" "House.do_bar" pV a.fI ĜL)dX:(Mf K a.cf "do_visit" "House.do_visit" mU a.dX ĊY)de:(Mf K a.cf "put_out" "House.put_out" ph a.de ěY)cS:(Mf K a.cf "after_visit" "House.after_visit" ia a.cS ĊY)dW:Mf K a.cf "seat_for" "House.seat_for" jC a.dW ["self","layer","guest","marks","been"]cQ:(Mf K a.cf "place_in" "House.place_in" mT a.cQ ĈI)gF:(Mf K a.cf "place" "House.place" sy a.gF ĈI)gG:(Mf K a.cf "owner" "House.owner" sA a.gG ĕO)dF:(Mf K a.cf "places_in" "House.places_in" lN a.dF ĈW)ck:(Mf K a.cf "places" "House.places" pU a.ck ĈW)fH:(Mf K a.cf "shares" "House.shares" pT a.fH ĈJ)yr:Mf K a.cf "stand" "House.stand" BN a.yr {ąR,"guest"}Bq:Mf K a.cf "ever" "House.ever" DM a.Bq {ąR,"guest"}yq:(Mf K a.cf "would" "House.would" BM a.yq ĊY)jT:(Mf K a.cf "who" "House.who" xT a.jT ĈJ)qI:(Mf K a.cf "layer_of" "House.layer_of" wE a.qI ĈJ)iP:(Mf K a.cf "book" "House.book" uP a.iP Āo)eP:(Mf K a.cf "prime" "House.prime" sx a.eP Āo)iN:(Mf K a.cf "salt" "House.salt" uN a.iN Āo)bf:(Df K mg "check_row" xR a.bf ėu)bN:(Df K mg "read_number" r9 a.bN ĂW)iS:(Df K mg "read_mark" xL a.iS ĂW)eI:(Df K mg "parts_of" zU a.eI ĂW)j0:(Df K mg "value_of" og a.j0 ćk)kG:(Df K mg "are_shuts" pP a.kG Ď6)CY:(Df K mg "is_of" Io a.CY ĕP)gm:(Df K mg "read_thing" uA a.gm ćk)cr:(Df K mg "read_things" mi a.cr ēt)cF:(Df K mg "take_word" xI a.cF ċf)cZ:Df K mg "take_rule" xJ a.cZ ["words","depth"]bT:(Df K mg "read_rule_words" lI a.bT ċf)iU:(Df K mg "read_deed" xM a.iU ĂW)fT:(Df K mg "list_text" pM a.fT ăM)jF:(Df K mg "marks_text" oh a.jF ċe)eh:(Df K mg "rule_text" pL a.eh Ā5)fc:(Df K mg "things_text" mh a.fc ăM)kF:(Df K mg "deed_text" xQ a.kF Ća)jH:(Df K mg "house_text" om a.jH Ğ3)gk:(Df K mg "tuples_text" mf a.gk Ęw)jD:(Df K mg "owner_text" uB a.jD ĖZ)gS:(Df K mg "example_text" pN a.gS Ā5)gI:(Mf K a.vW "__init__" "Desk.__init__" sB a.gI ĉ4)eZ:(Mf K a.vW "say" "Desk.say" Ae a.eZ ĝy)iR:(Mf K a.vW "asked" "Desk.asked" uQ a.iR ĞI)lu:(Df K mg "_law_cell_at" Ac a.lu ĕu)f8:(Df K mg "_law_mixed" Ff a.f8 Ĝq)vS:(Df K mg "_law_word" Iq a.vS čx)xB:(Df K mg "_law_guest" Fg a.xB čx)gj:(Df K mg "_law_rule" Iu a.gj ĝ1)xz:(Df K mg "_law_marks" Ab a.xz ěf)Do:(Df K mg "_law_plan" Iv a.Do ĈB)jS:(Df K mg "_law_new_layer" uM a.jS Ěl)jR:(Df K mg "_law_new_trial" ou a.jR ĚI)xy:(Df K mg "_law_share" uK a.xy ěD)Dq:(Df K mg "_law_deed" Iy a.Dq ěZ)eA:(Df K mg "_law_rule_row" lM a.eA ĔJ)kD:(Df K mg "_law_listed" CF a.kD ěg)Lk:(Df K mg "_law_row" GU a.Lk ĚF)Dn:(Df K mg "_law_rows" DL a.Dn čM)fW:(Df K mg "_law_rows_unknown" pf a.fW čM)Dp:(Df K mg "_law_kind" Iw a.Dp ĊK)Dm:(Df K mg "_law_tell" Ir a.Dm ĊK)law:(Df K mg "law" RS a.law ĈB)Le:∃u,mg "LETTERS"=ð/\bu {á,"abcdefghijklmnopqrstuvwxyz"} u
 sR:∃u,mg "GUEST_SIGNS"=ð/\bu {á,"abcdefghijklmnopqrstuvwxyz0123456789"} u
 Bf:∃u,mg "LONGEST_WORD"=ð/\bu (ã 12) u
 yU:∃u,mg "LONGEST_GUEST"=ð/\bu (ã 24) u
 Cg:∃u,mg "LEAST_PRIME"=ð/\bu (ã 2) u
 xn:∃u,mg "GREATEST_PRIME"=ð/\bu (ã 997) u
 Rs:∃u,mg "MIXER"=ð/\bu (ã 1009) u
 Ew:∃u,mg "MOST_MARKS"=ð/\bu (ã 8) u
 qF:∃u,mg "DEEPEST_RULE"=ð/\bu (ã 6) u
 Eu:∃u,mg "MOST_RULES"=ð/\bu (ã 30) u
 Er:∃u,mg "MOST_WORDS"=ð/\bu (ã 3) u
 yj:∃u,mg "MOST_ARMS"=ð/\bu (ã 4) u
 vG:∃u,mg "MOST_SHUTS"=ð/\bu (ã 8) u
 Et:∃u,mg "MOST_TOTAL"=ð/\bu (ã 1000) u
 Lf:∃u,mg "FIGURES"=ð/\bu {á,"0123456789"} u
 Be:∃u,mg "MOST_FIGURES"=ð/\bu (ã 60) u
 bP:Ds K a.cy
 Nt:L2.Mk K a.cy a.fF.x
 sL:cE K a.cy "many"fM:cE K a.cy "owners"jp:cE K a.cy "taken"cT:Ds K a.gE
 Nu:L2.Mk K a.gE a.fG.x
 kU:cE K a.gE "slope"gu:cE K a.gE "table"cU:cE K a.gE "inside"bG:Ds K a.iz
 Nr:L2.Mk K a.iz a.fC.x
 jZ:cE K a.iz "home"fS:cE K a.iz "arms"sK:cE K a.iz "rule"qu:cE K a.iz "shuts"kd:cE K a.iz "paused"fL:cE K a.iz "closed"ke:cE K a.iz "barred"aH:Ds K a.cf
 Nv:L2.Mk K a.cf a.fJ.x
 cC:cE K a.cf "own_prime"jq:cE K a.cf "own_salt"be:cE K a.cf "layer_named"aW:cE K a.cf "trial_named"fA:cE K a.cf "came_into"kW:cE K a.cf "deeds"j7:Ds K a.vW
 QL:L2.Mk K a.vW a.gI.x
 mx:cE K a.vW "house"sP:zf K a.gD
 Us:zf K a.Js
 U4:zf K a.OY
 U2:zf K a.OW
 Wv:zf K a.Si
 HF:zf K a.bB
 U5:zf K a.OZ
 U3:zf K a.OX
 Uq:zf K a.Jq
 F7:zf K a.cG
 Ur:zf K a.Jr
 K0:zf K a.qK
 KZ:zf K a.mC
 Om:zf K a.c8
 Hs:L2.Gv K a.pm a.gY
 w5:(∃tk,Ćl "layer"=ą4 3)wX:(∃tk,Ćl "trial"=ą4 6)wY:(∃tk,Ćl "share"=ą4 3)yQ:(∃tk,Ćl "deal"=ą4 4)yP:(∃tk,Ćl "hold"=ą4 3)wZ:(∃tk,Ćl "pause"=ą4 2)B8:(∃tk,Ćl "go"=ą4 2)w6:(∃tk,Ćl "close"=ą4 2)AJ:(∃tk,Ćl "bar"=ą4 3)wW:(∃tk,Ćl "visit"=ą4 3)AU:L2.Gv K a.pm a.lY
 AO:∃t,ĄY "layer"=Ϲ/\ZQ [Ζ,ĝr]AL:∃t,ĄY "trial"=Ϲ/\ZQ [Ζ,Ζ,á "arms",á "shuts"]AM:∃t,ĄY "share"=Ϲ/\ZQ [Ζ,á "counts"]Ca:∃t,ĄY "deal"=Ϲ/\ZQ [Ζ,á "total",á "weights"]B9:∃t,ĄY "hold"=Ϲ/\ZQ [Ζ,ĝr]AN:∃t,ĄY "pause"=Ϲ/\ZQ [Ζ]FU:∃t,ĄY "go"=Ϲ/\ZQ [Ζ]AQ:∃t,ĄY "close"=Ϲ/\ZQ [Ζ]Ea:∃t,ĄY "bar"=Ϲ/\ZQ [ĖI,Ζ]AK:∃t,ĄY "visit"=Ϲ/\ZQ [ĖI,á "marks"]NQ:L2.RI K a.lY ["layer","trial","share","deal","hold","pause","go","close","bar","visit"]vw:L2.Gv K a.pm a.c6
 tL:∃t,ăZ "place"=Ϲ/\ZQ [Ζ,ĖI]tM:∃t,ăZ "owner"=Ϲ/\ZQ [Ζ,ĝr]rJ:∃t,ăZ "places"=Ϲ/\ZQ [Ζ,Ζ]rE:∃t,ăZ "shares"=Ϲ/\ZQ [Ζ]tK:∃t,ăZ "stand"=Ϲ/\{ZQ,ψ "guest"}vm:∃t,ăZ "ever"=Ϲ/\{ZQ,ψ "guest"}tJ:∃t,ăZ "would"=Ϲ/\ZQ [ĖI,á "marks"]wV:∃t,ăZ "who"=Ϲ/\ZQ [Ζ]rH:∃t,ăZ "points"=Ϲ/\ZQ [Ζ,Ζ]vk:∃t,ăZ "meet"=Ϲ/\ZQ [Ζ,Ζ,Ζ,Ζ]vj:∃t,ăZ "text"=Ϲ/\ZQ []Ed:L2.RI K a.c6 ["place","owner","places","shares","stand","ever","would","who","points","meet","text"]IV:ĜN a.Bs [á "",á ""]pB:L2.vP K a.mC a.gD
 pC:L2.vP K a.qK a.gD
 rD:L2.vP K a.c8 a.gD
 pq:L2.vP K a.bB a.gD
 nQ:L2.vP K a.cG a.gD
 Op:L2.Lq K a.c8
 HH:L2.Lq K a.bB
 F8:L2.Lq K a.cG
 AT:Āg ĄI ĄI=ā8
 xb:Āg ĄI ĄK=ĉd
 vo:Āg ĄI ĄL=ĉd
 xa:Āg ĄK ĄI=ĉd
 tN:Āg ĄK ĄK=ā8
 rK:Āg ĄK ĄL=ĉd
 vp:Āg ĄL ĄI=ĉd
 rN:Āg ĄL ĄK=ĉd
 qz:Āg ĄL ĄL=ā8
 rL:Āg ĄI ć3=ā8
 px:Āg ĄK ć3=ā8
 oM:Āg ĄL ć3=ā8
 D4:ĝ0 mg=none
 AE:mg "all"=none
 Nm:mg "any"=none
 TN:mg "bool"=none
 Nl:mg "divmod"=none
 FO:mg "enumerate"=none
 R0:mg "int"=none
 bA:mg "isinstance"=none
 bC:mg "len"=none
 D3:mg "list"=none
 V1:mg "max"=none
 Nk:mg "min"=none
 jr:mg "range"=none
 Hf:mg "reversed"=none
 IM:mg "set"=none
 FN:mg "sorted"=none
 lW:mg "str"=none
 VZ:mg "sum"=none
 cX:mg "tuple"=none
 RZ:mg "zip"=none
noncomputable def ScB(N P:Zv)(b:Scope):Bool:={Ċ,Ĕw b.kind}&&(Ŀ b.isCoroutine)&&(Ŀ b.isGenerator)&&Ċ N.Nodup&&{Ċ,N.take P.length=P}&&P.all {Ăm,ăE x=Ŋ\/ăE x=Η}&&b.names.all λy=>Ą4 ZH .free
def cL{N P:Zv}{b:Scope}(h:{î,ScB N P b}:=by rfl):aA N P b:=by simp only[ScB,k_,decide_eq_true_eq,Bool.not_eq_true',Zb]at h;show(ü.1.1.1.1.1,ü.1.1.1.1.2,ü.1.1.1.2,ü.1.1.2,ü.1.2,ü.2,Ŕ,)
def DB:aA ęn ęn (aj xN):=cL
abbrev xv:ċ:=["house","trial","arm","other","there","here","theirs"]
def jf:aA xv ["house","trial","arm","other","there"] (aj mQ):=cL
def E8:aA õ õ (aj zW):=cL
abbrev oV:ċ:=ĕZ
def BB:aA oV ĕZ (aj oj):=cL
def GO:aA õ õ (aj CA):=cL
def Fb:aA õ õ (aj zY):=cL
def Fa:aA õ õ (aj tj):=cL
def lE:aA ["p","salt","guest","mixed","sign"] ["p","salt","guest"] (aj zS):=cL
def DE:aA õ õ (aj xP):=cL
def GS:aA õ õ (aj CD):=cL
def DJ:aA õ õ (aj lJ):=cL
def pH:aA {ĚQ,"depth","kind"} Ĝf (aj z9):=cL
def jX:aA ["rule","found","inner"] Ā5 (aj uI):=cL
def E5:aA Ā5 Ā5 (aj sZ):=cL
def GR:aA õ õ (aj CC):=cL
abbrev vR:ċ:=["rule","marks","kind"]
def zD:aA vR ę6 (aj yZ):=cL
def Fc:aA õ õ (aj zZ):=cL
def GQ:aA õ õ (aj CB):=cL
def E9:aA õ õ (aj zX):=cL
def DD:aA õ õ (aj xO):=cL
abbrev kB:ċ:=ăJ
def BG:aA kB ăJ (aj on):=cL
abbrev sU:ċ:=ăJ
def zM:aA sU ăJ (aj ml):=cL
def Fd:aA õ õ (aj tm):=cL
def zJ:aA ["prime","salt"] ["prime","salt"] (aj sr):=cL
def BC:aA õ õ (aj uC):=cL
def zK:aA õ õ (aj su):=cL
def zH:aA õ õ (aj sj):=cL
def BD:aA õ õ (aj uD):=cL
def DH:aA ăH ăH (aj xS):=cL
def uq:aA ăH ăH (aj mR):=cL
def zI:aA ăH ăH (aj sk):=cL
def zG:aA ĕJ ĕJ (aj sf):=cL
abbrev mF:ċ:=Ės
def zF:aA mF Ės (aj mj):=cL
def BF:aA õ õ (aj uH):=cL
def kN:aA ["thing","trials","k","name"] ěU (aj se):=cL
def zL:aA õ õ (aj sw):=cL
def yu:aA ăJ ăJ (aj pO):=cL
def wC:aA ęo ęo (aj pd):=cL
def BE:aA Ća Ća (aj uF):=cL
def zE:aA ["deed","layers","trials"] ["deed","layers","trials"] (aj sd):=cL
def l9:aA ["deed","trials","trial","many"] ["deed","trials"] (aj uE):=cL
def rY:aA ["deed","prime","layers","trials","kind"] ["deed","prime","layers","trials"] (aj uG):=cL
def lF:aA ["weights","given","best","k"] ["weights","given"] (aj zV):=cL
def uo:aA ["total","weights","given","turn","k"] ["total","weights"] (aj Ip):=cL
def pG:aA ["p","slope","point","x","y"] ["p","slope","point"] (aj zT):=cL
def yx:aA Ėc Ėc (aj pR):=cL
def ur:aA ĕK ĕK (aj mS):=cL
def sX:aA ĕL ĕL (aj lK):=cL
def BH:aA Āo Āo (aj oq):=cL
abbrev kC:ċ:=["self","wanted","more","back","owner","number"]
def eQ:aA kC ěW (aj oo):=cL
def fu:aA ["self","owner","number","places","back","place"] čS (aj lL):=cL
def jY:aA ["self","owner","number","places","more","place"] čS (aj uJ):=cL
def yy:aA ėf ėf (aj pS):=cL
def yw:aA ["self","home","arms","rule","shuts"] ["self","home","arms","rule","shuts"] (aj pQ):=cL
def yB:aA ĉ4 ĉ4 (aj pW):=cL
def xH:aA {ąM,"deed","answer"} čE (aj Ad):=cL
def rZ:aA {ąM,"deed","kind"} čE (aj uO):=cL
def uz:aA ĕN ĕN (aj mY):=cL
def uy:aA đ8 đ8 (aj mV):=cL
abbrev dP:ċ:=["self","name","numbers","trial","layer","back","guests"]
def eC:aA dP ěA (aj gM):=cL
def wD:aA ĕs ĕs (aj pi):=cL
def lG:aA ["self","name","paused","trial"] ěX (aj mW):=cL
def lH:aA đ8 ĜI (aj mZ):=cL
def kc:aA ["self","guest","name","trial","layer"] ĜL (aj pV):=cL
def dA:aA ["self","guest","marks","answer","name","trial","arm","layer"] ĊY (aj mU):=cL
def gK:aA ["self","layer","guests","out","guest","seat"] ěY (aj ph):=cL
abbrev ie:ċ:=["self","guest","marks","been","answer","name","layer","seat"]
def bZ:aA ie ĊY (aj ia):=cL
abbrev jQ:ċ:=["self","layer","guest","marks","been","owner","trial"]
def jg:aA jQ ["self","layer","guest","marks","been"] (aj jC):=cL
def ux:aA ĈI ĈI (aj mT):=cL
def zP:aA ĈI ĈI (aj sy):=cL
def zQ:aA ĕO ĕO (aj sA):=cL
def sY:aA ĈW ĈW (aj lN):=cL
def yA:aA ĈW ĈW (aj pU):=cL
abbrev Bp:ċ:=ĈJ
def yz:aA Bp ĈJ (aj pT):=cL
abbrev Gs:ċ:=ğS "inside"
def DK:aA Gs ĈJ (aj xT):=cL
def BJ:aA Āo Āo (aj uP):=cL
def zO:aA Āo Āo (aj sx):=cL
def BI:aA Āo Āo (aj uN):=cL
def DG:aA ėu ėu (aj xR):=cL
def kL:aA ["text","figures","number"] ĂW (aj r9):=cL
def um:aA ["text","parts"] ĂW (aj xL):=cL
def E7:aA ĂW ĂW (aj zU):=cL
abbrev t7:ċ:=ćk
def E6:aA t7 ćk (aj og):=cL
def DI:aA Ď6 Ď6 (aj pP):=cL
def Mo:aA ĕP ĕP (aj Io):=cL
def rW:aA ["form","text","thing"] ćk (aj uA):=cL
abbrev mE:ċ:=ēt
def zC:aA mE ēt (aj mi):=cL
def DA:aA ċf ċf (aj xI):=cL
def je:aA ["words","depth","kind","word","first"] ["words","depth"] (aj xJ):=cL
def iH:aA ["words","left","rule"] ċf (aj lI):=cL
def kn:aA ["text","words","kind","things"] ĂW (aj xM):=cL
def DC:aA ăM ăM (aj pM):=cL
def BA:aA ċe ċe (aj oh):=cL
def ul:aA Ā5 Ā5 (aj pL):=cL
def zB:aA ăM ăM (aj mh):=cL
def DF:aA Ća Ća (aj xQ):=cL
abbrev oW:ċ:=ĥu "prime" "salt"
def l7:aA oW Ğ3 (aj om):=cL
abbrev mD:ċ:=Ęw
def zA:aA mD Ęw (aj mf):=cL
def Bz:aA ĖZ ĖZ (aj uB):=cL
def yt:aA ę6 Ā5 (aj pN):=cL
def zR:aA ĉ4 ĉ4 (aj sB):=cL
def pK:aA ["self","row","words","kind"] ĝy (aj Ae):=cL
def r6:aA ["self","kind","things","house"] ĞI (aj uQ):=cL
def Fe:aA ĕu ĕu (aj Ac):=cL
def mL:aA ["_law_script","_law_k","_law_salt","_law_cell","_law_lap","_law_near"] Ĝq (aj Ff):=cL
def uu:aA ["_law_k","_law_number","_law_some","_law_stem","_law_at"] čx (aj Iq):=cL
def mO:aA ["_law_k","_law_number","_law_some","_law_stem","_law_at","_law_own"] čx (aj Fg):=cL
def pI:aA ["_law_number","_law_high","_law_way","_law_some","_law_word_here"] ĝ1 (aj Iu):=cL
abbrev Bo:ċ:=["_law_number","_law_marks_here","_law_k","_law_word_here"]
def mM:aA Bo ěf (aj Ab):=cL
def zN:aA {ęS,"_law_number","_law_prime"} ĈB (aj Iv):=cL
def ma:aA {ĠE,"_law_k","_law_name"} Ěl (aj uM):=cL
abbrev oX:ċ:=["_law_script","_law_plan_here","_law_number","_law_k","_law_name","_law_layer","_law_arms","_law_shuts","_law_more","_law_j"]
def dL:aA oX ĚI (aj ou):=cL
abbrev qH:ċ:=["_law_script","_law_plan_here","_law_k","_law_number","_law_trial","_law_most","_law_weights"]
def qO:aA qH ěD (aj uK):=cL
def mP:aA ["_law_script","_law_plan_here","_law_k","_law_number","_law_some","_law_guest_here","_law_early","_law_trial"] ěZ (aj Iy):=cL
abbrev j9:ċ:=ĔJ
def uv:aA j9 ĔJ (aj lM):=cL
def n9:aA ["_law_things","_law_row_here","_law_thing"] ěg (aj CF):=cL
abbrev ED:ċ:=["_law_deed_here","_law_parts","_law_row_here","_law_thing"]
def qP:aA ED ĚF (aj GU):=cL
abbrev EC:ċ:=["_law_layer","_law_trial","_law_prime","_law_some"]
def eW:aA EC čM (aj DL):=cL
def gJ:aA ["_law_layer","_law_trial","_law_prime","_law_some"] čM (aj pf):=cL
def pJ:aA ["_law_desk","_law_row_here","_law_bad","e","_law_kinds"] ĊK (aj Iw):=cL
def Mp:aA ĊK ĊK (aj Ir):=cL
def kM:aA ["_law_script","_law_plan_here","_law_desk","_law_k","_law_trial","_law_rows_here","_law_arm","_law_row_here","_law_due","_law_before"] ĈB (aj RS):=cL
variable{H H':Hp}
inductive Vb{A0 A1:Type}(p:Ė A0 A1):Prop|mk(x0:A0)(x1:A1)(h:p x0 x1)
inductive Ex3{A0 A1 A2:Type}(p:A0->Ė A1 A2):Prop|mk(x0:A0)(x1:A1)(x2:A2)(h:p x0 x1 x2)
structure An5(p0 p1 p2 p3 p4:Prop):Prop where
 h0:p0
 h1:p1
 h2:p2
 h3:p3
 h4:p4
def dk{p:Prop}[ăS p](h:ēZ p):p:=kl h
@[irreducible]def Dc(ns:ZA)(k:Int):Int:={ď,ns.length,0,0,ns.getD (Ϟ k ć9) 0}
noncomputable def Wa(ns:ZA)(k:Int):Int:=k/{Ěh,ć9>1,ć9}
noncomputable def Ni(ns:ZA)(k m:Int):Int:=({ĕD,Dc ns k}+1009*k*k+7919*m*m+12)*48271%2147483647
@[irreducible]def dz(ns:ZA)(k m:Int):Int:=(Dc ns k/2^(31*(m+128*Wa ns k)).toNat+Ni ns k m*Ni ns k m%2147483629)%2147483648
def QM(ns:ZA)(k m:Int):0<=dz ns k m/\dz ns k m<2147483648:=by unfold dz;show bS _ ß
inductive S6(K:Zp)(vs:Ú)(H:Hp)(Q:VK)(_E:XK):Prop|mk(a:Addr)(ns:ZA)(k:Int)(_:vs=[ô,Ąm])(_:aZ K H a Ŷ)(_:ČM)(_:Q {ã,Dc ns k} H)
inductive PP(K:Zp)(vs:Ú)(H:Hp)(Q:VK)(_E:XK):Prop|mk(a:Addr)(ns:ZA)(k m:Int)(_:vs=[ô,Ąm,ã m])(_:aZ K H a Ŷ)(_:ČM)(_:(0<=k/\ē4 k))(_:(0<=m/\ē4 m))(_:Q {ã,dz ns k m} H)
inductive EU(K:Zp)(vs:Ú)(H:Hp)(Q:VK)(_E:XK):Prop|mk(a:Addr)(ns:ZA)(_:vs=Āe)(_:aZ K H a Ŷ)(_:ČM)(_:∀H',Q Ā6 H')
section
def x5(T:ä):aT P w K mg base dw 1 a.lu.x a.lu.d ĕu (S6 K):=by
 show T.lu.okc Fe ěP
 ·have(p,ns,k,(),b,g,q):=h;show{_,(ae (aN (aE aQ {Č,aK K (),ac (Y 0) O} ah (aG _)) (ai (az ah)) aF) (ai (az (gx K (Y 0) (au bq (Y 1) {Č,aK K (),ac (Y 0) O}))))),?_}
  show !{_,ns.length,(),à {_,b,Ü},(),ă};unfold Dc at q;show kz ĉ0 ĉ0
  ·rw[Ăs,hY Ø,q]
  have c:û<ć9:=Ø
  have hm:=bS k c;rw[Ăs,hF Ø,! ! !{_,ns.length,(),à {_,b,Ü},_,!{(),c,rX b (rj hm.1 hm.2) q}}]
def dO(T:ä):aT P w K mg base dw 2 a.f8.x a.f8.d Ĝq (PP K):=by
 show T.f8.okc mL λH s i h=>?_
 ·have(p,ns,k,m,(),e,j,(k0,k1),(t,u),q):=h;show{_,(ae (bd 3 mL.nd (pc T.lu (x5 T) i (ac (Y 0) (ac (Y 1) O)))) (ae (bd 4 mL.nd (au cj (Y 1) (aD (K8 ()) ĕ T.V1 L2.OL (ac ah (ac {Č,aK K (),ac (Y 0) O} O))))) (ae (bd 5 mL.nd (au cu (au cu (au cu (au MX (Y 3) ah) (au jl (au jl ah (Y 1)) (Y 1))) (au jl (au jl ah (Y 2)) (Y 2))) ah)) (ae (bd 5 mL.nd (au bq (au jl (Y 5) ah) ah)) (ai (az (au MX (au cu (au Ty (Y 3) (au jl ah (au cu (Y 2) (au jl ah (Y 4))))) (au bq (au jl (Y 5) (Y 5)) ah)) ah))))))),?_}
  unfold dz Ni Wa at q;show ! !{p,ns,k,(),e,j,?_};generalize Dc ns k=c at q⊢;have hn:∃n:Int,n={Ěh,ć9>1,ć9}/\0<n/\čZ n:=(!{ĐW,ĐW});have(n,f,l,n1):=hn;rw[<-f]at q;show ! !{_,ns.length,(),à {_,e,Ü},_,!{_,n,(),Ź f,(l,n1,),?_}};have o:0<=k/n:=Int.ediv_nonneg k0 (o'2 l)
  rw[ċp]
  generalize k/n=r at o q⊢;rw[ç,! r2 (! r2 {ēB,! r2 {æ ϻ,_,! ċ1 r2 {ēB,! r2 {æ ϻ,_,!{ą,r2 ?_}}}}}),! r2 {æ Ϛ,_,!{(),(by change û<_;first|decide|lia),?_}}];have b:=bS ((ĕD c+1009*k*k+7919*m*m+12)*48271) {Ĥ,û<2147483647}
  rw[ċp]
  generalize(ĕD c+1009*k*k+7919*m*m+12)*48271%2147483647=g at b q⊢;show ! ! ! r2 {ēB,_,!{ą,r2 {ēB,_,!{(),{ĀQ,û<=_},! ! r2 {à ϻ,_,!{(),(by change û<_;first|decide|lia),_,!{ą,r2 ?_}}}}}}}
  rw[ċp]
  rw[ó,TU,q]
def KB{K:Zp}{mg:Zs}{a:ja}(T:ä)(s:Shared)(u:Value):BindsTo s a.law.d {[u],[]} [("_law_script",u)]:=by have(oc,i,kV,b,pm,j,c,ct,g,e,lk,h):=T.law.f.ex;rw[ó,e,.of_eq ()]
def KA{K:Zp}{H:Hp}{p:Addr}{ns:ZA}(b:ČM)(d:aZ K H p Ŷ):EU K ſ H (λv _=>v=Ā6) ăD:={p,ns,(),d,b,Ī}
omit e
section
variable{j g:Type}{F G:Ė j g}{a c:ĉ j}{b d:ĉ g}
def Paired.mapM(h:ąn F)(f:∀x∈a,∀y,F x y->G x y):ąn G:=by induction h with|nil=>rw[Z5]|cons h _ e=>show {ē,f _ f_ _ h,e λx m=>f x (fy _ m)}
def Paired.ex(h:ąn F):∀x∈a,∃y,F x y:=by induction h with|nil=>show Ģp|cons h _ f=>
  intro x e;have()||m:=Ű e
  ·show{_,h}
  ·show f x m
def Paired.at_(h:ąn F):∀(i:Nat)(x:j),Ąo=ù->∃y,ϊ=ϵ/\F x y:=by induction h with|nil=>show ġM|cons h _ f=>intro i x e;cases i with|zero=>rw[Ι,i_,e];show{_,(),h}|succ i=>show f i x e
def Ak(h:ąn F):∀(i:Nat)(y:g),ϊ=ϵ->∃x,Ąo=ù/\F x y:=by induction h with|nil=>show ġM|cons h _ f=>intro i x e;cases i with|zero=>rw[Ι,i_,e];show{_,(),h}|succ i=>show f i x e
def wH(h:ąn F)(k:Đ F c d):{Đ,F,a++c,b++d}:=by induction h with|nil=>show k|cons h _ e=>show ē h e
omit e
inductive Ru where|any|has(w:Str)|least(w:Str)(n:Int)|not(q:Ru)|both(q r:Ru)|either(q r:Ru)
noncomputable def Ru.hgt:Ru->Nat|.any=>1|.has _=>1|.least _ _=>1|.not q=>q.hgt+1|.both q r=>ām+1|.either q r=>ām+1
def Ru.hgt_pos:∀r:Ru,0<r.hgt|.any=>Nat.one_pos|.has _=>Nat.one_pos|.least _ _=>Nat.one_pos|.not _=>XU _|.both _ _=>XU _|.either _ _=>XU _
noncomputable def Wr(w:Str)(m:ă8):Bool:={Ċ,ĵ m.1=ĵ w}
noncomputable def jG(w:Str)(n:Int)(m:ă8):Bool:={ćW,ĵ m.1=ĵ w,āg n m.2,false}
noncomputable def Ru.sat(b:Ũ):Ās Ru|.any=>true|.has w=>{Ϯ,Wr w}.any id|.least w n=>{Ϯ,jG w n}.any id|.not q=>{Ŀ,q.sat b}|.both q r=>{Ě,q.sat b,r.sat b,false}|.either q r=>{Ě,q.sat b,true,r.sat b}
inductive eV(K:Zp)(H:Hp):Ė Ru V|any{a:Addr}:bj K H a {ψ,"any"}->eV K H .any ô|has{a:Addr}{w:Str}:bj K H a [ĂV,ăg]->eV K H (.has w) ô|least{a:Addr}{w:Str}{n:Int}:bj K H a [ĂL,ăg,ăk]->eV K H (.least w n) ô|not{a:Addr}{q:Ru}{v:V}:bj K H a [ZW,v]->eV K H q v->eV K H (.not q) ô|both{a:Addr}{q r:Ru}{v u:V}:bj K H a [ZC,v,u]->eV K H q v->eV K H r u->eV K H (.both q r) ô|either{a:Addr}{q r:Ru}{v u:V}:bj K H a [ZB,v,u]->eV K H q v->eV K H r u->eV K H (Či q r) ô
def UF(H H':Hp):Prop:=∀u a,H u=ĝ a->H' u=ĝ a
def UF.sq{a:Addr}{d:Ú}(e:UF H H')(f:∀u o,(∃b,H u={Ù,.frz b o})->∃b,H' u={Ù,.frz b o})(h:bj K H a d):bj K H' a d:=by
 have h||h:=h
 ·have h||h:=h
  rw[Ř,{à,e _ _ h}]
  ·rw[ţ,{æ,f _ _ h}]
 rw[ϛ,h]
structure Kp(H H':Hp):Prop where
 tp:UF H H'
 fz:∀u o,(∃o',H u={Ù,.frz o' o})->∃o',H' u={Ù,.frz o' o}
def Kp.trans(a:Kp H d)(b:Kp d e):Kp H e:={λu c h=>b.tp u c (a.tp u c h),λu o h=>b.fz u o (a.fz u o h)}
def Kp.of(h:ao H H'):Kp H H':={Ĝu,λu b e=>h u _ e,{a,h u _ e}}
theorem Kp.lst{a:Addr}{o:HO}{d:Ú}(b:H a=āZ):Kp H (aJ H a o):={λu f h=>{Þ,ay (λe=>Ēm e b h),h},λu o⟨c,h⟩=>{c,{Þ,ay (λe=>Ēm e b h),h}}}
def Kp.new{a:Addr}{o:HO}(hn:H a=none):Kp H (aJ H a o):={υ,am ϐ hn}
def Kp.tq{a:Addr}{b:Ú}(e:Kp H H')(h:bj K H a b):bj K H' a b:=e.tp.sq e.fz h
def eV.kp(e:Kp H H')(h:eV K H r v):eV K H' r v:=by induction h with|any h=>show .any ď4|has h=>show .has ď4|least h=>show .least ď4|not h _ q=>show .not ď4 q|both h _ _ q r=>show .both ď4 q r|either h _ _ q r=>show .either ď4 q r
def rQ(K:Zp)(H:Hp)(d:Ũ)(v:V):Prop:=∃a c,v=ô/\bj K H a c/\ćj c.length/\∀(i:Nat)(m:ă8),ąF=Ù m->∃b,ì c=í b/\bj K H b [á m.1,ã m.2]
def rQ.kp(e:Kp H H')(h:rQ K H d v):rQ K H' d v:=by rw[ĥC];show{a,c,h1,ąc,h3,λi m hm=>let⟨b,f,g⟩:=h4 i m hm;{b,f,ăV g}}
def pE{b d:Type}{f:b->d}{l:ZO}{i:Nat}{m:b}(h:ąG=Ù m):{ś,l.take,i+1} f={ĉY,l.take} f++[f m]:=by rw[ov,h,hE];rfl
inductive j8(ws:Zv):Ĵ Ru|any:j8 ws .any|has{w:Str}:w∈ws->j8 ws (.has w)|least{w:Str}{n:Int}:w∈ws->-bg<=n->n<=bg->j8 ws (.least w n)|not{q:Ru}:j8 ws q->j8 ws (.not q)|both{q r:Ru}:j8 ws q->j8 ws r->j8 ws (.both q r)|either{q r:Ru}:j8 ws q->j8 ws r->j8 ws (Či q r)
def wg:ë 100<=bg:=ČG
noncomputable def Ru.txt:Ru->Str|.any=>ğ ["any"]|.has w=>ğ ["has",w]|.least w n=>ğ ["least",w,bR n]|.not q=>ğ ["not",q.txt]|.both q r=>ğ ĝK|.either q r=>ğ ĝh
def Ru.fit:Ĵ Ru|.any=>True|.has w=>Čd|.least w n=>Čd/\-bg<=n/\n<=bg|.not q=>q.fit|.both q r=>q.fit/\r.fit|.either q r=>q.fit/\r.fit
theorem j8.fit{e:Zv}(d:∀w∈e,Čd):∀{r:Ru},j8 e r->r.fit|_,.any=>trivial|_,.has h=>d _ h|_,.least h a b=>{d _ h,a,b}|_,.not q=>q.fit d|_,.both q r=>{q.fit d,r.fit d}|_,.either q r=>{q.fit d,r.fit d}
def ve{n:Int}(h:-bg<=n/\n<=bg):{ĉK,10^31}:=by
 rw[JK]at h;have:ş 10^31=10000000000000000000000000000000:=Ý
 lia
def oF{n:Int}(h:-bg<=n/\n<=bg):n.natAbs.log2<1920:=wQ (j1 (ve h) Ý)
def lU{n:Int}(h:-bg<=n/\n<=bg):ě bR n<=32:=IY ß (ve h)
def ym:ϣ " "=1:=Ý
def aL(t:Str)(r:Zv):ky (t::r)=t.length+ky r:=by unfold ky;rw[kw,List.sum_cons]
def eX:ky []=0:=rfl
def Wc(x:Str):{Œ,ğ [x],Ď5 1}:=by have:=gQ " " [x];rw[aL,eX,ym]at this;simpa using this
def R5(x y:Str):{Œ,ğ [x,y],Ĝi+2}:=by have:=gQ " " [x,y];rw[aL,aL,eX,ym]at this;rw[čR]
def NS(x y z:Str):{Œ,ğ [x,y,z],Ĝi+z.length+3}:=by have:=gQ " " [x,y,z];rw[aL,aL,aL,eX,ym]at this;rw[čR]
theorem Ru.txt_len:∀{r:Ru},r.fit->r.txt.length+9<=100*2^r.hgt
 |.any,_=>by
  rw[ĎH,čL ["any"]+9<=100*2^1,Wc "any",ϣ "any"=3,Ý]
  lia|.has w,h=>by
  rw[ĎH,čL ["has",w]+9<=100*2^1,R5 "has" w,ϣ "has"=3,Ý]
  rw[ĂD,Čd];lia|.least w n,h=>by
  rw[ĎH,čL ["least",w,bR n]+9<=100*2^1,NS "least" w (bR n),ϣ "least"=5,Ý]
  rw[ĂD,Čd/\-bg<=n/\n<=bg];rw[Š,lU Ŕ]|.not q,h=>by
  rw[ĎH,čL ["not",q.txt]+9<=100*2^(q.hgt+1),R5 "not" q.txt,ϣ "not"=3,Ý]
  have:=q.txt_len h;rw[D2];lia|.both q r,h=>by
  rw[ĎH,čL ĝK+9<=100*2^(ām+1),NS "both" q.txt r.txt,ϣ "both"=4,Ý]
  rw[ďB,q.txt_len ü,r.txt_len Ŕ];rw[Ď2,2^q.hgt<=2^ām,o_ ß (T4 _ _),2^r.hgt<=2^ām,o_ ß (Qf _ _)];rw[D2];lia|.either q r,h=>by
  rw[ĎH,čL ĝh+9<=100*2^(ām+1),NS "either" q.txt r.txt,ϣ "either"=6,Ý]
  rw[ďB,q.txt_len ü,r.txt_len Ŕ];rw[Ď2,2^q.hgt<=2^ām,o_ ß (T4 _ _),2^r.hgt<=2^ām,o_ ß (Qf _ _)];rw[D2];lia
def Ru.txt_le{r:Ru}(h:r.fit)(b:ąI):r.txt.length<=6400:=by have h1:=r.txt_len h;have h2:2^r.hgt<=2^6:=o_ ß b;lia
inductive Gr(K:Zp)(H:Hp)(n:Nat):Ė V Str|str(z:Str):ĉa 100->Gr K H n į z|num(i:Int):-bg<=i/\i<=bg->Gr K H n Ŵ (bR i)|rule{q:Ru}{v:V}:eV K H q v->q.hgt<=n->q.hgt<=6->q.fit->Gr K H n v q.txt
set_option tactic.hygienic true in
def Gr.len{n:Nat}{v:V}{t:Str}(h:Gr K H n v t):ćn 6400:=by cases h with|str _ h=>lia|num i h=>rw[Š,lU h]|rule _ _ a b=>show Ēw b a
theorem qR{n:Nat}:{ĝ5,{Ąg,Gr K H n,d}->ky b<=Ďo 6400}|_,_,.nil=>eH _|_,_,.cons r t=>by rw[ďB,qR t,r.len];rw[aL,ig];lia
set_option tactic.hygienic true in
def Af{n:Nat}{r:Ru}{m:V}(h:eV K H r m)(hh:{ćf,n+1})(j:ąI)(b:r.fit):∃(a:Addr)(hd:Str)(g:Ú)(e:Zv),m=ô/\bj K H a (á hd::g)/\Ğq 100/\{Đ,Gr K H n,g,e}/\e.length<=2/\r.txt={ğ,hd::e}/\((hd∈(Ēx:Zv)/\∀(i:Nat)v t,ì g=Ĕ->ì e=ϒ->∃q:Ru,eV K H q v/\q.hgt<=n/\q.hgt<=6/\q.fit/\t=q.txt)\/(hd∉(Ēx:Zv)/\∀(i:Nat)v t,ì g=Ĕ->ì e=ϒ->(v=Ăx)\/∃z,v=ı/\(-bg<=z/\z<=bg)/\t=bR z)):=by cases h with
 |any h=>show{_,"any",[],[],(),h,Ý,.nil,ß,(),æ {Ý,λi v t c=>?_}};simp at c|has h=>rename_i a w;have b:Čd:=b;show{_,"has",ψ w,[w],(),h,Ý,{ϋ,Ąh w b},Ü,(),æ {Ý,Ĥ6}};cases i with|zero=>rw[ą6,c,d,Ġ]|succ i=>simp at c
 |least h=>
  rename_i a w z;have b:Čd/\-bg<=z/\z<=bg:=b;rw[ĞB,{_,"least",[ăg,ı],[w,bR z],(),h,Ý,{μ,Ąh w b.1,.num z b.2},Ü,(),æ {Ý,Ĥ6}},i]
  ·rw[ą6,c,d,Ġ]
  ·rw[ą6,c,d,{æ,é z b.2 ()}]
  ·simp at c|not h h1=>rename_i a q v;have k:q.hgt+1<=n+1:=hh;have f:q.hgt+1<=6:=j;have b:q.fit:=b;show{_,"not",[v],[q.txt],(),h,Ý,{ϋ,.rule h1 Ø Ø b},Ü,(),à {Ý,ěh}};cases i with|zero=>rw[ą6,c,d,{q,h1,Ø,Ø,b,()}]|succ i=>simp at c
 |both h h1 h2=>
  rename_i a q r v u;have k:ām+1<=n+1:=hh;have f:ām+1<=6:=j;have b:q.fit/\r.fit:=b;rw[ĞB,{_,"both",[v,u],[q.txt,r.txt],(),h,Ý,{μ,.rule h1 Ø Ø b.1,.rule h2 Ø Ø b.2},Ü,(),à {Ý,ěh}},i]
  ·rw[ą6,c,d,{q,h1,Ø,Ø,b.1,()}]
  ·rw[ą6,c,d,{r,h2,Ø,Ø,b.2,()}]
  ·simp at c|either h h1 h2=>
  rename_i a q r v u;have k:ām+1<=n+1:=hh;have f:ām+1<=6:=j;have b:q.fit/\r.fit:=b;rw[ĞB,{_,"either",[v,u],[q.txt,r.txt],(),h,Ý,{μ,.rule h1 Ø Ø b.1,.rule h2 Ø Ø b.2},Ü,(),à {Ý,ěh}},i]
  ·rw[ą6,c,d,{q,h1,Ø,Ø,b.1,()}]
  ·rw[ą6,c,d,{r,h2,Ø,Ø,b.2,()}]
  ·simp at c
inductive zr(K:Zp)(n:Nat)(vs:Ú)(H:Hp)(Q:VK)(_E:XK):Prop|mk(r:Ru)(rv:V)(_:vs=[rv])(_:eV K H r rv)(_:ćf n)(_:ąI)(_:r.fit)(_:{ϖ,ao H H',Q (á r.txt) H'})
theorem lO{d e:Type}{R:Ė d e}:∀{a:Ϸ}{b:ĉ e},ąn R->∀(i:Nat)(m:d),Ąo=Ù m->∃v,ϊ=Ĕ/\R m v|_,_,.nil,i,m,h=>ć8|_,_,.cons r t,0,m,h=>by simp at h;show !(h▸r)|_,_,.cons r t,i+1,m,h=>by simp at h;have(v,h1,h2):=lO t i m h;show{v,Ċy,h2}
theorem eJ{d e:Type}{R:Ė d e}:∀{a:Ϸ}{b:ĉ e},ąn R->Ām a.length|_,_,.nil=>()|_,_,.cons _ t=>{ĀU,ig,ig,eJ t}
def jB{b:Zv}{i:Nat}{t:Str}(h:ϊ=ϒ):Ž b.take i++ĂC t={Ž,b.take,i+1}:=by rw[ov,h,hE];rfl
def Eg{hd:Str}{b:Zv}(h1:Ğq 100)(h2:ky b<=Ďo 6400)(h3:Ān 2):{Ďl," ",hd::b}:=by show vy ?_;rw[aL,ym,ig];lia
def K5{x:V}{b:Ú}:ki (x::b) Ą2 none=b:=by unfold ki HT.ib;simp
def t9(v:V)(t:Str):Prop:=(v=Ăx/\ćn 100)\/∃i:Int,v=Ŵ/\ġp 61/\t=bR i
def t9.len{v:V}{t:Str}(h:t9 v t):ćn 100:=by
 have(_,h)||(i,_,h,()):=h
 ·show h
 ·have:=IY (k:=61) ß h;change ě bR i<=100;unfold bR;lia
noncomputable def bO:ċ->Str|[]=>"-"|t::r=>{Āh,",",t::r}
def UA:ϣ ","=1:=Ý
theorem rb:{ĝ5,Ąg t9 d->ky b<=Ďo 100}|_,_,.nil=>eH _|_,_,.cons r t=>by rw[ďB,rb t,r.len];rw[aL,ig];lia
def wS{d:Ú}{b:Zv}(h:Ąg t9 d)(h1:Ān 10):ě bO b<=1010:=by
 cases b with|nil=>
  have k:ϣ "-"=1:=Ý
  rw[ĂX,ϣ "-"<=1010]|cons t r=>change Œ {Āh,",",t::r} 1010;have h2:=gQ "," (t::r);have h3:=rb h;rw[UA]at h2;lia
def OE{d:Ú}{b:Zv}(h:Ąg t9 d)(h1:Ān 10):Ďl "," b:=by show vy ?_;have h3:=rb h;rw[UA];lia
def vV(K:Zp)(H:Hp)(v:V)(b:Zv):Prop:=∃a c,v=ô/\bj K H a c/\Ąg t9 c/\Ān 10
def vV.kp{v:V}{b:Zv}(e:Kp H H')(h:vV K H v b):vV K H' v b:=by rw[ĥC];show{a,c,h1,ąc,h3,h4}
def nK(K:Zp)(H:Hp)(v:V)(t:Str):Prop:=t9 v t\/∃fs,vV K H v fs/\t=bO fs
theorem nK.kp{v:V}{t:Str}(e:Kp H H')(h:nK K H v t):nK K H' v t:=by
 have h||(fs,h,r):=h
 rw[Ř,h]
 rw[ϛ,{fs,h.kp e,r}]
theorem nK.len{v:V}{t:Str}(h:nK K H v t):ćn 1010:=by
 have h||(fs,(a,b,_,_,h,h1),()):=h
 ·rw[Š,h.len]
 ·show wS h h1
theorem kH:{ĝ5,{Ąg,nK K H,d}->ky b<=Ďo 1010}|_,_,.nil=>eH _|_,_,.cons r t=>by rw[ďB,kH t,r.len];rw[aL,ig];lia
def vI{n:Nat}{b:Zv}(h:ky b<=n)(h1:ē4 n)(h2:Ān 100):Ďl " " b:=by rw[Ģ,vy ?_,ym];lia
noncomputable def sM(m:ă8):Str:=m.1++"="++bR m.2
def Gu(m:ă8):Prop:=Œ m.1 40/\-bg<=m.2/\m.2<=bg
def IO{m:ă8}(h:Gu m):ě sM m<=100:=by
 unfold sM;rw[cA,cA];rw[ġs,lU Ŕ,ēD=1,Ý]
 rw[Š,ü]
def tH{b:Ũ}(h:∀m∈b,Gu m):{Đ,t9,Ϯ λm=>{ĵ,sM m},Ϯ sM}:=by induction b with|nil=>rw[Z5]|cons m r a=>show {ē,{ćV,IO (h m f_)},a λx c=>h x (fy _ c)}
noncomputable def Ru.subs:Ru->ĉ Ru|.any=>[.any]|.has w=>[.has w]|.least w n=>[.least w n]|.not q=> .not q::q.subs|.both q r=> .both q r::(q.subs++r.subs)|.either q r=>Či q r::(q.subs++r.subs)
noncomputable def Ru.cnt(r:Ru):Nat:=r.subs.length
noncomputable def Ru.words:Ru->ċ|.any=>[]|.has w=>[w]|.least w _=>[w]|.not q=>q.words|.both q r=>ĒN|.either q r=>ĒN
noncomputable def Ru.word1:Ru->ŭ Str|.has w=>Ù w|.least w _=>Ù w|_=>none
theorem Ru.words_subs:∀r:Ru,r.subs.filterMap Ru.word1=r.words|.any=>()|.has _=>()|.least _ _=>()|.not q=>by change{đP,Ru.not q::q.subs}=q.words;rw[X8 (),q.words_subs]|.both q r=>by change{đP,Ru.both q r::(q.subs++r.subs)}=ĒN;rw[X8 (),y3,q.words_subs,r.words_subs]|.either q r=>by change{đP,Ru.either q r::(q.subs++r.subs)}=ĒN;rw[X8 (),y3,q.words_subs,r.words_subs]
def ID{a b:Nat}:2^a+2^b<=2^(max a b+1):=by rw[Ď2,2^a<=2^max a b,o_ ß (T4 _ _),2^b<=2^max a b,o_ ß (Qf _ _)];rw[D2];lia
theorem Ru.cnt_lt:∀r:Ru,r.cnt+1<=2^r.hgt|.any=>eH _|.has _=>eH _|.least _ _=>eH _|.not q=>by have h:=q.cnt_lt;change(q.subs.length+1)+1<=2^(q.hgt+1);unfold Ru.cnt at h;rw[D2];have:=q.hgt_pos;have:2^1<=2^q.hgt:=o_ ß this;lia|.both q r=>by rw[ăB,q.cnt_lt,r.cnt_lt];rw[Ĥx,(Ļ q.subs r.subs+1)+1<=2^(ām+1)];rw[gV];rw[Š,ID (a:=q.hgt) (b:=r.hgt)]|.either q r=>by rw[ăB,q.cnt_lt,r.cnt_lt];rw[Ĥx,(Ļ q.subs r.subs+1)+1<=2^(ām+1)];rw[gV];rw[Š,ID (a:=q.hgt) (b:=r.hgt)]
def Ru.words_le(r:Ru):r.words.length<=r.cnt:={Ă,r.words_subs,Ģf _ _}
structure oU(s:Str)(m:Nat)(x:Str):Prop where
 lo:1<=x.length
 hi:ā1 m
 cs:∀c∈x.cps.toList,ĕl c
abbrev j5:Str:="abcdefghijklmnopqrstuvwxyz"
abbrev iJ:Str:="abcdefghijklmnopqrstuvwxyz0123456789"
abbrev jv:Str:="0123456789"
abbrev Wd:Ĵ Str:=oU j5 12
abbrev Dr:Ĵ Str:=oU iJ 24
def tI:∀c∈j5.cps.toList,97<=c/\c<=122:=dk ()
def KQ:∀c∈iJ.cps.toList,(97<=c/\c<=122)\/(48<=c/\c<=57):=dk ()
def HE(h1:48<=c)(h2:c<=57):c∈jv.cps.toList:=by
 have h:∀d∈ZT 10,d+48∈jv.cps.toList:=dk ();have:=h (c-48) (by rw[pa];lia)
 rwa[Nat.sub_add_cancel h1]at this
def Wd.free{w:Str}(h:Wd w){c:Nat}(hc:c<97):iQ c w:=λz=>{ļ,tI c (h.cs c z)}
def Dr.free{w:Str}(h:Dr w){c:Nat}(hc:c<48\/(57<c/\c<97)):iQ c w:=λz=>{ļ,KQ c (h.cs c z)}
def vi(x:Str):Ġz x.length:=by change ĤY;simp
def oU.some(h:oU s m x):∃c cs,{Ğt,c::cs}/\ĕl c:=by have h1:=h.lo;rw[<-vi]at h1;cases e:x.cps.toList with|nil=>rw[e]at h1;rw[Ā,h1,ß]|cons c cs=>show{c,cs,(),h.cs c (Þ e f_)}
def FH{m:Nat}(h:m<10^60):oU jv 60 (bR ą1):=by
 show{?_,vc ß h,λc hc=>?_}
 ·rw[π,vi,YK.mpr (qp m)]
 ·have:=iI m c hc;show HE ĎX Č4
def Nd(m:Nat):∃c cs,Ĕ0=c::cs/\48<=c:=by cases e:Ĕ0 with|nil=>rw[Ā,e,qp m]|cons c cs=>show{c,cs,(),(iI m c (Þ e f_)).1}
structure Pt(t:Str):Prop where
 fr:iQ 44 t
 bl:iQ 32 t
 hd:∃c cs,t.cps.toList=c::cs/\c≠45
 ln:ćn 100
def Wd.pt{w:Str}(h:Wd w):Pt w:=by have(c,cs,e,hc):=h.some;have:=tI c hc;show{h.free ß,h.free ß,{c,cs,e,Ø},g_ h.hi ß}
def Na{i:Int}(h0:0<=i)(h1:Ąc):Pt (bR i):=by have(m,()):=ġI h0;have(c,cs,e,hc):=Nd m;show{nq ß ß,nq ß ß,{c,cs,e,Ø},g_ (vc (k:=60) ß h1) ß}
def qC{c:Nat}{x y:Str}(h1:iQ c x)(h2:iQ c y):iQ c (x++y):=λz=>by
 rw[bK]at z;rw[ĉj,z]
 ·show h1 z
 ·show h2 z
def Jh:Ăn=ώ {#[61]}:=Ý
def vJ:ϔ=ώ {#[32]}:=Ý
def Rp:{Ę,","}=ώ {#[44]}:=Ý
def wj{i:Int}(h:-bg<=i/\i<=bg):Ąc:=j1 (ve h) Ý
def R1{m:ă8}(h:Wd m.1)(hn:-bg<=m.2/\m.2<=bg):Pt (sM m):=by
 have(c,cs,e,hc):=h.some;have h1:=tI c hc;have f:∀c:Nat,c≠45->c≠61->¬(48<=c/\c<=57)->c<97->iQ c (sM m):=λd h1 h2 h3 h4=>by unfold sM;rw[ϑ,qC (qC (h.free h4) ?_) (nq h1 h3),Jh,ÿ h2 ĆD]
 show{f 44 ß ß ß ß,f 32 ß ß ß ß,{c,cs++(Ăn).cps.toList++ęd m.2,?_,Ø},IO {g_ h.hi ß,hn}};unfold sM;rw[bK,bK,e];simp
inductive Th where|s(w:Str)|n(i:Int)|ws(l:Zv)|ns(l:ZA)|ms(l:Ũ)
noncomputable def Th.txt:Th->Str|.s w=>w|.n i=>bR i|.ws l=>bO l|.ns l=>bO Čb|.ms l=>bO ęw
def mB(K:Zp)(H:Hp):Ė Th V|.s w,v=>v=ăg|.n i,v=>v=Ŵ|.ws l,v=>∃a,v=ô/\bj K H a Ăe|.ns l,v=>∃a,v=ô/\bj K H a ĂN|.ms l,v=>rQ K H l v
theorem mB.kp(e:Kp H H'):∀{t:Th}{v:V},mB K H t v->mB K H' t v|.s _,_,h=>h|.n _,_,h=>h|.ws _,_,⟨a,h1,h2⟩=>{a,h1,ąc}|.ns _,_,⟨a,h1,h2⟩=>{a,h1,ąc}|.ms _,_,h=>rQ.kp e h
inductive lB:ĀR Th|word{w:Str}:Wd w->lB "word" (.s w)|guest{w:Str}:Dr w->lB "guest" (.s w)|count{i:Int}:0<=i->Ąc->lB "count" (.n i)|total{i:Int}:0<=i->Ŭ i->lB "total" (.n i)|arms{l:Zv}:ą9->l.Nodup->ĂT 1->η 4->lB "arms" (.ws l)|shuts{l:Zv}:ą9->l.Nodup->η 8->lB "shuts" (.ws l)|counts{l:ZA}:{ćA,0<=i,Ąc}->ĂT 1->η 4->lB "counts" (.ns l)|weights{l:ZA}:{ćA,1<=i,i<=bg}->ĂT 1->η 4->lB "weights" (.ns l)|marks{l:Ũ}:(∀m∈l,Wd m.1/\-bg<=m.2/\m.2<=bg)->ės->η 8->lB "marks" (.ms l)
noncomputable def Mi:ċ:=["ab","ba","b","a","aab","abab","bab","aa","abb","baa","bb","soap"]
noncomputable def EO:ξ Str|0=>""|1=>"soap"|2=>"upperlayer"|_=>"z"
noncomputable def lD(N:Int):Str:=EO (Ϟ N 4)
noncomputable def Gx(N:Int):Int:=N/4%({ë,ě lD N}+1)
noncomputable def vh(k:Nat):Str:={#[97+k]}
noncomputable def zu(i:Nat):Str:=(ì Mi).getD "a"
noncomputable def Kv(z:Str)(i:Int)(c:Nat):Str:=ĈH z none Ău++vh c++ćP z Ău
noncomputable def df(k N:Int):Str:={ď,N/40%2,1,zu {Ϟ,k+N/80,12},Kv (lD N) (Gx N) {ĆO,k+N/80}}
noncomputable def Sn(x:Str):Bool:=Ą4 x "nothingso"&&ĝW 1&&{Ċ,ā1 12}&&{ěm,λc=>{Ċ,c∈j5.cps.toList}}
def Ls(h:Ą Sn x):Wd x:=by unfold Sn at h;rw[k_,k_,k_]at h;show{kl ü.1.2,kl ü.2,λc hc=>kl (Zb.mp Ŕ c hc)}
def Qc:Čk 12 {Ą,Sn,zu i}:=dk ()
def Me:{Čk,12,∀j∈ZT 12,zu i=zu j->i=j}:=dk ()
def TQ:∀r∈ZT 4,{Čk,11,∀c∈ZT 26,{Ą,Sn,Kv (EO r) Ő c}}:=dk ()
def JN(r:Nat):ě EO r<=10:=by
 unfold EO
 split<;>decide+kernel
def wq(N:Int):ě lD N<=10:=JN _
def HU(N:Int):0<=Gx N/\Gx N<{ë,ě lD N}+1:={F_ _ Ø,Es _ (o'19)}
def Pd(k N:Int):{Ą,Sn,df k N}:=by
 unfold df;rw[ė7,bS (k+N/80) {Ĥ,û<12},bS (k+N/80) {Ĥ,û<26}];have b3:=bS N {Ĥ,û<4};have b4:=HU N;have b5:=wq N
 split
 ·show Qc _ (by rw[pa];exact o'20 b1)
 ·rw[ĉy,TQ (Ϟ N 4) (by rw[pa];exact o'21 b3) (Gx N).toNat (by rw[pa];lia) {ĆO,k+N/80} (by rw[pa];exact o'22 b2),{ύ,Ď (Gx N).toNat=Gx N}]
def uc(k N:Int):Wd (df k N):=Ls (Pd k N)
def QO(h:Kv z i c=Kv z i d):c=d:=by have h:((ĈH z none Ău).cps++#[97+c]++(ćP z Ău).cps)=((ĈH z none Ău).cps++#[97+d]++(ćP z Ău).cps):=m6 Str.cps h;have h2:=Ğ0 m6 h;simp at h2;show h2
def IN{i j a m:Int}(hi:0<=i/\i<m)(b:0<=j/\j<m)(h:{Ϟ,i+a,m}={Ϟ,j+a,m}):i=j:=by
 have p:=λx=>F_ x (Int.ne_of_gt (Int.lt_of_le_of_lt hi.1 hi.2));have e:(i+a)%m=(j+a)%m:={ĉs,YL (p (i+a)),h,YL (p (j+a))}
 rw[Int.emod_add_cancel_right,Y1 hi.1 hi.2,Y1 b.1 b.2]at e;show e
def we(hi:0<=i/\i<12)(b:0<=j/\j<12)(h:df i N=df j N):i=j:=by
 unfold df at h
 split at h
 ·show IN hi b (Me _ (by rw[pa];exact o'23) _ (by rw[pa];exact o'23) h)
 ·show IN (m:=26) {hi.1,Int.lt_trans hi.2 ß} {b.1,Int.lt_trans b.2 ß} (QO h)
def NL:∀c∈ZT 26,Ci {ĝ3,"abcdefghijklmnopqrstuvwxyz"} (ë c)={Ù,97+c}:=dk ()
def LJ:Ci [Ĉ9,đS,ĐS,ēC] (N%4)=Ù {ĵ,lD N}:=by rw[Ď2,0<=N%4,F_ _ ß,N%4<4,Es _ ß];unfold lD;rcases(Ø:N%4=0\/N%4=1\/N%4=2\/N%4=3)with e|e|e|e<;>rw[e]<;>rfl
def Mg:{Čk,12,Ci (Ş Mi.map) Ő=Ù {ĵ,zu i}}:=dk ()
inductive Pr(vs:Ú)(H:Hp)(Q:VK)(_E:XK):Prop|mk(k N:Int)(_:vs=[Ąm,ã N])(_:{ϖ,ao H H',Q {á,df k N} H'})
set_option genInjectivity false in
structure Ev where(P:Zu)(w:World)(K:Zp)(mg:Zs)(base:Heap)(a:ja)
def Ph(v:Ev):Prop:=ğz v.K v.mg v.a->v.w.params=v.a.pm->aT v.P v.w v.K v.mg v.base dw 24 v.a.law.x v.a.law.d ĈB (EU v.K)
instance:Nonempty Ev:={default,{λ_ _=>0,ğZ ćL ćL id ćL 0 ĖE ćL},[],đK,default,by constructor<;>first|show ş 0|show{0,default}|show ğZ ćL ćL id ćL 0 ĖE ćL}
noncomputable def v0:Ev:={Ĥq,λv=>¬Ph v}
noncomputable def P:Program:=v0.P
noncomputable def w:World:=v0.w
noncomputable def K:Zp:=v0.K
noncomputable def mg:Str->ĳ:=v0.mg
noncomputable def base:Heap:=v0.base
noncomputable def a:ja:=v0.a
def TF(h:ä->ćt->aT P w K mg base dw 24 a.law.x a.law.d ĈB (EU K))(v:Ev):Ph v:={ġr,λn=>{ĤJ,λv=>¬Ph v,(v,n,),h}}
section
def u4(T:ä):aT P w K mg base dw 1 a.vS.x a.vS.d čx Pr:=by
 show T.vS.okc uu λH v y h=>?_
 ·have(k,N,(),q):=h;show{_,(ae (aN (aE aQ (au bq (au cj (Y 1) ah) ah) ah (aG _)) (ae (bd 2 uu.nd (a9 (ac ak (ac ak (ac ak (ac ak (ac ak (ac ak (ac ak (ac ak (ac ak (ac ak (ac ak (ac ak O)))))))))))))) (ai (az (gx K (Y 2) (au bq (au cu (Y 0) (au cj (Y 1) ah)) ah))))) aF) (ae (bd 3 uu.nd (gx K (a9 (ac ak (ac ak (ac ak (ac ak O))))) (au bq (Y 1) ah))) (ae (bd 4 uu.nd (au bq (au cj (Y 1) ah) (au cu {Č,aK K (),ac (Y 3) O} ah))) (ai (az (au aC (au aC (cp wz (Y 3) c9 (cO (Y 4))) (Fp Ht ak (au bq (au cu (Y 0) (au cj (Y 1) ah)) ah) Ϫ)) (cp wz (Y 3) (cO (Y 4)) c9))))))),?_}
  rw[ė7,bS (k+N/80) {Ĥ,û<12},bS (k+N/80) {Ĥ,û<26}];have p:=wq N
  (repeat(first|show ă|show r2 ?_|show zzA () ?_|show zzB (cd ()) ?_|show zzC (by first|decide|lia) ?_|show zzD ?_))
  show kz (λf=>?_) (λf=>?_)
  ·have g:df k N=zu {Ϟ,k+N/80,12}:=hY f;show{ls (),Ğ9}
   (repeat(first|show ă|show r2 ?_|show zzA () ?_|show zzB (cd ()) ?_|show zzC (by first|decide|lia) ?_|show zzD ?_))
   rw[ę8,Mg {Ϟ,k+N/80,12} (by rw[pa];exact o'20 b1),{ύ,Ď {Ϟ,k+N/80,12}=(k+N/80)%12}];show{l,_,_,!{(),Z4,c,?_}};rw[π,g,q _ (am ϐ i)]
  ·have g:df k N=Kv (lD N) (Gx N) {ĆO,k+N/80}:=hF f;show{ls (),Ğ9};have n:=ZI [Ĉ9,đS,ĐS,ēC] H i;have e:aJ H l {ø,[Ĉ9,đS,ĐS,ēC]} l=ò [Ĉ9,đS,ĐS,ēC]:=af;generalize ĀE [Ĉ9,đS,ĐS,ēC]=z at n e⊢
   (repeat(first|show ă|show r2 ?_|show zzA () ?_|show zzB (cd ()) ?_|show zzC (by first|decide|lia) ?_|show zzD ?_))
   show{l,_,_,!{(),å e,LJ,aB ?_}};have r:=HU N;have s:={ĈY,lD N,none,ő Gx N};have t:={ĈY,lD N,ő Gx N,none}
   (repeat(first|show ă|show r2 ?_|show zzA () ?_|show zzB (cd ()) ?_|show zzC (by first|decide|lia) ?_|show zzD ?_))
   show{_,ě lD N,(),{œ,cP Ø},_,!{ą,r2 {{ęB,û<_},aB ?_}}};have j:∀a b:Str,Ļ a b=ćy b.length:=λa b=>by change(a.cps++b.cps).size=a.cps.size+b.cps.size;rw[Ĥu]
   have u:ě vh {ĆO,k+N/80}=1:=();rw[ę8,NL {ĆO,k+N/80} (by rw[pa];exact o'22 b2),{ύ,Ď {ĆO,k+N/80}=(k+N/80)%26}];show ! !{Gx N,(),lD N,(),cP Ø,?_}
   (repeat(first|show ă|show r2 ?_|show zzA () ?_|show zzB (cd ()) ?_|show zzC (by first|decide|lia) ?_|show zzD ?_))
   show{"abcdefghijklmnopqrstuvwxyz",_,97+{ĆO,k+N/80},(),(),cP (dk ()),c,_,vh {ĆO,k+N/80},(),(),cP Ø,! !{Gx N,(),lD N,(),cP Ø,_,!{(),cP (by rw[j];lia),?_}}};have m:{ĈH,lD N,none,ő Gx N}++vh {ĆO,k+N/80}++{ćP,lD N,ő Gx N}=df k N:=by rw[g];rfl
   rw[ó,m,q _ n]
omit e
def Yn(p:Prop)(Q:VK)(H:Hp):Prop:=∀(b:Bool)(H':Hp),(î b↔p)->ao H H'->Q Āw H'
def Yn.no{p:Prop}{Q:VK}(q:Yn p Q H)(h:¬p)(s:ao H H'):Q Ćf H':=q false H' {ϳ hH,ϳ h} s
def Yn.dec{p c:Prop}[ăS c]{Q:VK}{H H':Hp}(q:Yn p Q H)(h:c↔p)(s:ao H H'):Q {Ĳ,Ċ c} H':=q _ H' (decide_eq_true_iff.trans h) s
def XC(C:Addr)(H:Hp)(E:XK):Prop:={Ćx,ao H H',ŋ}
def XC.at{C:Addr}{E:XK}(h:XC C H E):ĎO ŋ H:=h H ϐ
def XC.to{C:Addr}{H b:Hp}{E:XK}(h:XC C H E)(s:ao H b):XC C b E:=λH' a=>h H' (ĎN a)
def VX{c A B:Prop}[ăS c](h1:c->B)(h2:¬c->A):Ě {Ŀ,Ċ c} A B:=by
 by_cases e:c
 rw[Ĺ,ji e,ce (h1 e)]
 rw[ų,j_ e,bE (h2 e)]
inductive Ps(K:Zp)(vs:Ú)(H:Hp)(Q:VK)(_E:XK):Prop|mk(z:_)(_:vs=[ı])(_:Q Ā6 H)
inductive LQ(vs:Ú)(H:Hp)(Q:VK)(_E:XK):Prop|mk(x s:Str)(m:Nat)(_:vs=[ħ,á s,ã m])(_:ğb)(_:m<=60)(_:Yn (oU s m x) Q H)
inductive Xd(vs:Ú)(H:Hp)(Q:VK)(_E:XK):Prop|mk(x:_)(_:vs=āv)(_:ğb)(_:Yn (Wd x) Q H)
inductive VA(vs:Ú)(H:Hp)(Q:VK)(_E:XK):Prop|mk(x:_)(_:vs=āv)(_:ğb)(_:Yn (Dr x) Q H)
inductive Vz(vs:Ú)(H:Hp)(Q:VK)(_E:XK):Prop|mk(z:_)(_:vs=[ı])(_:Yn (-bg<=z/\z<=bg) Q H)
inductive P2(vs:Ú)(H:Hp)(Q:VK)(_E:XK):Prop|mk(z:_)(_:vs=[ı])(_:Yn (0<=z) Q H)
inductive Px(vs:Ú)(H:Hp)(Q:VK)(_E:XK):Prop|mk(z:_)(_:vs=[ı])(_:Yn (0<=z/\Ŭ z) Q H)
inductive LM(vs:Ú)(H:Hp)(Q:VK)(_E:XK):Prop|mk(z:_)(_:vs=[ı])(_:Yn (1<=z/\z<=bg) Q H)
inductive Ij(C:Addr)(vs:Ú)(H:Hp)(Q:VK)(E:XK):Prop|mk(b:Bool)(_:vs=[Āw])(_:(î b->Āt Q H))(_:(ć b->XC C H E))
inductive ua{α:Type}(p:Ĵ α)(l:ĉ α)(i:Nat)(acc:Ú):Prop|mk(bs:ĂP)(e:acc=Ć5)(n:bs.length=i)(h:Ą bs.all id↔∀x∈l.take i,p x)
def ua.nil{b:Type}{p:Ĵ b}{l:ZO}:ua p l 0 []:=ċT [] {λ_ x a=>by simp at a,Ī}
def ua.step{f:Type}{p:Ĵ f}{l:ĉ f}{i:Nat}{d:Ú}{x:f}{b:Bool}(h:ua p l i d)(g:ąG=ù)(j:î b↔p x):ua p l (i+1) (d++[V.bl b]):=by
 have(bs,(),hn,hi):=h;show{bs++[b],Ü,by simp[hn],?_};rw[ov,g,List.all_append,k_,hi];have e:[b].all id=b:=Ĝ3 b
 rw[e,j]
 constructor
 ·intro h y a;have h1||h1:=Ă5 a
  ·show ü y h1
  ·obtain rfl:=Ň h1;show Ŕ
 ·intro h;show{λy a=>h y ėD,h x (Čp f_)}
def ua.len{d:Type}{p:Ĵ d}{l:Ϸ}{i:Nat}{b:Ú}(h:ua p l i b)(hi:ē5 i):Ėa:=by have(bs,(),hn,_):=h;rw[b_,hn,gg];lia
theorem ua.all{d:Type}{p:Ĵ d}{l:Ϸ}{i:Nat}{b:Ú}(h:ua p l i b)(hi:η i):∃bs:ĂP,b=Ć5/\(Ą bs.all id↔∀x∈l,p x):=by have(bs,(),_,h):=h;rw[Ą3,g6 hi,{bs,(),h}]
def kx{b d:Type}{f:b->d}{l:ZO}{i:Nat}{v:d}(h:{ì,Ăi f}=Ĕ):∃x,ąG=ù/\v=f x/\x∈l:=by rw[g8]at h;cases e:(ąG)with|none=>rw[ĀO,e,h]|some x=>rw[e]at h;rw[ā,h,{ċT,x,e_ e}]
def xc(l:Zv):{ś,l.map,ęz} kV=Ăe:=by rw[rr];rfl
def vq{l:Zv}:ě dd ęA=l.length↔l.Nodup:=by have h:=Ux ęA;rw[b_]at h;rw[ó,h,{λh=>List.Pairwise.imp (λa e=>a (m6 Sum.inr e)) (List.pairwise_map.mp h),λh=>h.map _ (λa b h e=>h (rk e))}]
def Ec{l:Zv}:{ĂT,ě dd ęA}:=by have h:=re ęA [];rw[b_,E_,Nat.zero_add]at h;show h
section
def lP(T:ä):aT P w K mg base dw 1 a.jt.x a.jt.d õ (Ps K):=by
 show T.jt.okc E8 λH b c h=>?_
 ·have(z,(),k):=h;rw[ϯ,{_,(ai (az (cV {Āc,rg K (),ac (Y 0) (ac (kj () T.R0 L2.Gn) O)} (d9 (MM {Āc,rg K (),ac (Y 0) (ac (kj () T.TN L2.Lg) O)}))))),?_},!{_,"int",_,true,(),ı,eS (dk ()),true,(),bE ?_},!{_,"bool",_,false,(),ı,eS (dk ()),false,(),k}]
def mq(T:ä):aT P w K mg base dw 1 a.gy.x a.gy.d ĕZ LQ:=by
 show T.gy.okc BB λH l n h=>?_
 ·have(x,g,m,(),o,hm,q):=h;show{_,(ae (aN (cI (aY K () {Āc,rg K (),ac (Y 0) (ac (kj () T.lW L2.eO) O)} Ī)) (ai (az g9)) aF) (ai (az (cV (Al j3 j3 ah {Č,aK K (),ac (Y 0) O} (Y 2)) (d9 (aD (jN K () ()) ĕ T.AE L2.k9 (ac (ub oV ["sign"] [] [3] (aj oj) (bW 3) (MJ (Y 0)) {ν,nO oV ["sign"] 3,bQ Kh (Y 3) (Y 1) ąV}) O))))))),?_}
  rw[Ŧ,!{_,"str",_,true,(),ħ,eS Ý,true,(),ce ?_},!{_,x.length,(),{œ,by rw[gg];lia},_,! ďv},oN ĖG (λh1=>(! ce (q.no (ĀG z.lo Ø) ϐ))),! r2 ă];rw[ç,oN ĝn (λh2=>q.no (ĀG z.hi Ø) ϐ),!{x,(),λD j=>?_}];have p:=vi x;show OC (K:=K) (z:=x) (λi b f=>ua (λc=>c∈g.cps.toList) x.cps.toList i b/\f=ēS) (œ .nil) ?_ ?_
  ·intro i c b f hc(e,());rw[ā9,i<x.cps.toList.length,hc];rw[ĭ,aB (ij (bE ?_)),! !{{cps:=#[c]},g,(),(),af,e.len Ø,lf hi {?_,?_}}]
   rw[Ĺ,StrLaws.found_one,e.step hc decide_eq_true_iff]
   ·rw[gc]
  ·intro b f(e,());have(bs,(),k):=e.all (eH _);rw[ö,{D,_,(),Z4,?_},q _ _ (k.trans {λz=>{Ø,Ø,z},λz=>z.cs}) (am đ j)]
def gq(T:ä):aT P w K mg base dw 2 a.eM.x a.eM.d õ Xd:=by
 show T.eM.okc GO ěQ
 ·have(x,(),c,q):=h;rw[ö,{_,(ai (az (pc T.gy (mq T) b (ac (Y 0) (ac (bV T.Le ()) (ac (bV T.Bf ()) O)))))),?_},!{x,j5,12,(),c,ß,q}]
def xX(T:ä):aT P w K mg base dw 2 a.kY.x a.kY.d õ VA:=by
 show T.kY.okc Fb ěQ
 ·have(x,(),c,q):=h;rw[ö,{_,(ai (az (pc T.gy (mq T) b (ac (Y 0) (ac (bV T.sR ()) (ac (bV T.yU ()) O)))))),?_},!{x,iJ,24,(),c,ß,q}]
def uX(T:ä):aT P w K mg base dw 2 a.gR.x a.gR.d õ Vz:=by
 show T.gR.okc DE ěR
 ·rw[ė8];rw[ĭ,{_,(ai (az (cV (pc T.jt (lP T) b (ac (Y 0) O)) (d9 (Al j3 j3 (VR Su (au Ap ah ah)) (Y 0) (au Ap ah ah)))))),?_},!{z,(),! bE ?_}]
  (repeat(first|show ă|show r2 ?_|show zzA () ?_|show zzB (cd ()) ?_|show zzC (by first|decide|lia) ?_|show zzD ?_))
  show oN ĖG (λh=>q.no (ÿ h z.1) ϐ)
  (repeat(first|show ă|show r2 ?_|show zzA () ?_|show zzB (cd ()) ?_|show zzC (by first|decide|lia) ?_|show zzD ?_))
  show q.dec {λh=>Ċc h,ĒU} ϐ
def gr(T:ä):aT P w K mg base dw 2 a.fP.x a.fP.d õ P2:=by
 show T.fP.okc Fc ěR
 ·rw[ė8];rw[ĭ,{_,(ai (az (cV (pc T.jt (lP T) b (ac (Y 0) O)) (d9 (bQ MW (Y 0) ah (aG _)))))),?_},!{z,(),! bE ?_}]
  (repeat(first|show ă|show r2 ?_|show zzA () ?_|show zzB (cd ()) ?_|show zzC (by first|decide|lia) ?_|show zzD ?_))
  show q.dec Iff.rfl ϐ
def xW(T:ä):aT P w K mg base dw 3 a.kX.x a.kX.d õ Px:=by
 show T.kX.okc E9 λH g f h=>?_
 ·rw[ė8];rw[ç,{_,(ai (az (cV (pc T.fP (gr T) f (ac (Y 0) O)) (d9 (bQ j3 (Y 0) (bV T.Et ()) (aG _)))))),?_},!{z,(),λb i c e=>ă}];cases b with|false=>show ce (q.no (λh=>nomatch c.mpr ü) e)|true=>
   show bE ?_
   (repeat(first|show ă|show r2 ?_|show zzA () ?_|show zzB (cd ()) ?_|show zzC (by first|decide|lia) ?_|show zzD ?_))
   show q.dec {λh=>{c.mp (),h},ĒU} e
def DW(T:ä):aT P w K mg base dw 2 a.kE.x a.kE.d õ LM:=by
 show T.kE.okc DD ěR
 ·rw[ė8];rw[ĭ,{_,(ai (az (cV (pc T.jt (lP T) b (ac (Y 0) O)) (d9 (Al j3 j3 ah (Y 0) (au Ap ah ah)))))),?_},!{z,(),! bE ?_}]
  (repeat(first|show ă|show r2 ?_|show zzA () ?_|show zzB (cd ()) ?_|show zzC (by first|decide|lia) ?_|show zzD ?_))
  show oN ĖG (λh=>q.no (ÿ h z.1) ϐ)
  (repeat(first|show ă|show r2 ?_|show zzA () ?_|show zzB (cd ()) ?_|show zzC (by first|decide|lia) ?_|show zzD ?_))
  show q.dec {λh=>Ċc h,ĒU} ϐ
def dJ(T:ä):aT P w K mg base (lA P w) 1 a.bf.x a.bf.d ėu (Ij a.c8):=by
 show T.bf.okEc DG ĥD
 ·have(b,(),q,e):=h;show{_,(ai (aN (cI (aY K () (Y 0) Ī)) (ai (qb T.Om () T.IT () pY (ac ak O))) aF)),?_};cases b with|true=>show{_,(),_,(),ce (q ())}|false=>show{_,(),_,(),bE {ls (),(e ()).at}}
omit e
abbrev RH(m:ă8):Prop:=Wd m.1/\-bg<=m.2/\m.2<=bg
inductive SW(K:Zp)(vs:Ú)(H:Hp)(Q:VK)(_E:XK):Prop|mk(b:Addr)(m:ă8)(_:vs=ŝ b)(_:bj K H b [á m.1,ã m.2])(_:Œ m.1 20000)(_:Yn (RH m) Q H)
inductive PU(K:Zp)(vs:Ú)(H:Hp)(Q:VK)(_E:XK):Prop|mk(v:V)(l:Ũ)(_:vs=[v])(_:rQ K H l v)(_:(∀m∈l,Œ m.1 20000))(_:Yn ((∀m∈l,RH m)/\ės/\η 8) Q H)
inductive L3(K:Zp)(vs:Ú)(H:Hp)(Q:VK)(_E:XK):Prop|mk(p:Addr)(l:ZA)(_:vs=[ł,ã Ė9])(_:bj K H p ĂN)(_:ğ9)(_:Yn (ęr 0 i) Q H)
inductive JQ(K:Zp)(vs:Ú)(H:Hp)(Q:VK)(_E:XK):Prop|mk(p:Addr)(l:ZA)(_:vs=[ł,ã Ė9])(_:bj K H p ĂN)(_:ğ9)(_:Yn {ćA,1<=i,i<=bg} Q H)
inductive S9(K:Zp)(vs:Ú)(H:Hp)(Q:VK)(_E:XK):Prop|mk(p:Addr)(l:Zv)(_:vs=ſ)(_:bj K H p Ăe)(_:ĤK)(_:Yn (ą9/\l.Nodup/\ĂT 1/\η 4) Q H)
inductive Pz(K:Zp)(vs:Ú)(H:Hp)(Q:VK)(_E:XK):Prop|mk(p:Addr)(l:Zv)(_:vs=ſ)(_:bj K H p Ăe)(_:ĤK)(_:Yn (ą9/\l.Nodup/\η 8) Q H)
section
def G8(T:ä):aT P w K mg base dw 3 a.q8.x a.q8.d õ (SW K):=by
 show T.q8.okc GS λH n i h=>?_
 ·have(b,m,(),e,j,q):=h;rw[Ŧ,{_,(ai (az (cV {Āc,dR K (),ac (Y 0) (ac (kj () T.cX L2.bF) O)} (cV (bQ aQ {Č,aK K (),ac (Y 0) O} ah (aG _)) (cV (pc T.eM (gq T) i (ac (dy K (Y 0) ah) O)) (d9 (pc T.gR (uX T) i (ac (dy K (Y 0) ah) O)))))))),?_},!{ąK,_,_,{b,! œ e},eS (dk ()),bE ?_},!{_,2,(),Ąi e,(),! bE ?_},! rX e () {é,m.1,j,λc o hc f=>ă}];cases c with|false=>show ce (q.no (λh=>nomatch hc.mpr ü) f)|true=>show bE (! rX (þ f e) () {m.2,(),λc k g l=>q c k (g.trans {λh=>{hc.mp (),h},ĒU}) (ĎV l)})
def uZ(T:ä):aT P w K mg base dw 4 a.jP.x a.jP.d õ (PU K):=by
 show T.jP.okc DJ λH k X h=>?_
 ·have(v,l,(),Z,h1,q):=h;have(p,k,(),n,F,y):=Z;show{_,{ZR,fe (cI (aY K () {Āc,dR K (),ac (Y 0) (ac (kj () T.cX L2.bF) O)} Ī)) (dI (aE qg {Č,aK K (),ac (Y 0) O} (bV T.Ew ()) (aG _))),ai (az g9),ae (aN (cI (aY K () (aD (jN K () ()) ĕ T.AE L2.k9 (ac (ub õ ĉc [] [1] (aj lJ) (bW 1) (eE K () (Y 0)) {ν,nO õ ĉc 1,pc T.q8 (G8 T) X (ac (Y 1) O)}) O)) Ī)) (ai (az g9)) aF) (ai (az (bQ aQ {Č,ė0 tY w,ac (bh {Ďb,Bc,P,w,K,()} ĕ T.IM L2.vH (ac (ub õ ĉc [] [1] (aj lJ) (bW 1) (eE K () (Y 0)) {ν,nO õ ĉc 1,dy K (Y 1) ah}) O)) O} {Č,aK K (),ac (Y 0) O} (aG _))))},?_}
  rw[ĭ,!{ąK,_,_,{p,! œ n},eS (dk ()),ce ?_},!{_,k.length,(),Ąi n,_,!{ĥ,oN Ϝ (λh3=>?_)}}]
  ·show q.no (ĀG z.2.2 Ø) ϐ
  rw[Ąn,! é p {_,n} Ğa,dH,K,p,k,λi e H'=>ua RH l i e/\ao H H'/\H' D=ò e,{.nil,am đ N,af},λi e H' _ h=>þ Ŗ n]
  ·intro i v e Q r(E,j,s);rw[ā9,i<k.length,r];have f:ąG={Ù,l[i]'(o'3 F hi)}:=fx (o'3 F hi);rw[ĥE,l[i]'(o'3 F hi),y i m f];rw[u]at r;rw[ā,r,aB (ij (bE (!{b,m,(),þ j G,h1 m (e_ f),λc I hc t=>{t _ _ s,E.len Ø,lf hi {E.step f hc,bw (ă6 t) N,af}}})))]
  ·intro e Q(E,j,s);have(bs,(),u):=E.all (o'9 F);show{D,_,(),å s,_,(),?_};cases A:Čn with|false=>show bE (q.no {ę4,u.mpr z.1,A} j)|true=>
   have hok:=u.mp A;rw[Ąn,ce (!{é,p,{_,þ j n},λR B=>?_}),dH,K,p,k,λi e H'=>e={Ž,ĉY l.take,Prod.fst}/\ao Q H'/\H' R=ò e,{by rw[oi];rfl,am đ B,af},λi e H' _ h=>{þ,ă6 Ŗ,n}]
   ·intro i v e I r((),t,g);rw[ā9,i<k.length,r];have f:ąG={Ù,l[i]'(o'3 F hi)}:=fx (o'3 F hi);rw[ĥE,l[i]'(o'3 F hi),y i m f];rw[u]at r;cases r;show aB (ij (bE (! rX {þ,ă6 t,G} () {g,?_,lf hi {?_,bw t B,af}})))
    ·rw[b_,b_,j2,gg];lia
    ·rw[pE f,hE];rfl
   ·intro e I((),t,g);rw[g6 (o'9 F),<-xc]at g;have J:=Ec (l:=Ěa);rw[b_]at J;rw[ç,{R,{ś,l.map,Prod.fst} Sum.inr,(),å g,by rw[b_,b_];lia,λS L=>?_},{S,dd _,(),af,Ø,?_}];have W:∀o,ao H (aJ I S o):=λo=>am (ă6 t) L;show !{_,k.length,(),Ąi {þ,W _,n},(),?_};have M:=vq (l:=Ěa);rw[b_]at M;show q.dec {λh=>{hok,M.mp ?_,Ø},Ϝ} (W _)
    ·have h2:=ĒH h;lia
    ·rw[M.mpr Ŗ,F]
def sG(T:ä):aT P w K mg base dw 3 a.iL.x a.iL.d ăJ (L3 K):=by
 show T.iL.okc BG ĥF
 ·have(p,l,(),f,h2,q):=h;show{_,(ai (az (cV {Āc,dR K (),ac (Y 0) (ac (kj () T.cX L2.bF) O)} (cV (bQ aQ {Č,aK K (),ac (Y 0) O} (Y 1) (aG _)) (d9 (aD (jN K () ()) ĕ T.AE L2.k9 (ac (ub kB ĖA [] [2] (aj on) (bW 2) (eE K () (Y 0)) {ν,nO kB ĖA 2,pc T.fP (gr T) o (ac (Y 2) O)}) O))))))),?_}
  rw[ç,!{ąK,_,_,{p,! œ f},eS (dk ()),bE ?_},!{_,l.length,(),Čw f,! ďv}];rw[ji ()];rw[Ąn,bE (!{é,p,{_,f},λD k=>?_}),dH,K,p,ĂN,{ċI,ua (λi=>0<=i) l i b,ao H H'/\H' D=ăs},{.nil,am đ k,af},ĐV Ŗ f]
  ·rw[ģB,m];have(z,s,(),_):=kx m;have t:ČR:=ąQ
   show aB (ij (bE (!{z,(),λc B hc n=>{n _ _ e,g.len Ø,lf hi {g.step s hc,bw (ă6 n) k,af}}})))
  ·rw[ĢX,g.all Ü];show{D,!{ăq,e,q _ _ u j}}
def ql(T:ä):aT P w K mg base dw 3 a.gC.x a.gC.d ăJ (JQ K):=by
 show T.gC.okc zM ĥF
 ·have(p,l,(),f,h2,q):=h;show{_,(ai (az (cV {Āc,dR K (),ac (Y 0) (ac (kj () T.cX L2.bF) O)} (cV (bQ aQ {Č,aK K (),ac (Y 0) O} (Y 1) (aG _)) (d9 (aD (jN K () ()) ĕ T.AE L2.k9 (ac (ub sU ĖA [] [2] (aj ml) (bW 2) (eE K () (Y 0)) {ν,nO kB ĖA 2,pc T.kE (DW T) o (ac (Y 2) O)}) O))))))),?_}
  rw[ç,!{ąK,_,_,{p,! œ f},eS (dk ()),bE ?_},!{_,l.length,(),Čw f,! ďv}];rw[ji ()];rw[Ąn,bE (!{é,p,{_,f},λD k=>?_}),dH,K,p,ĂN,{ċI,ua (λi=>1<=i/\i<=bg) l i b,ao H H'/\H' D=ăs},{.nil,am đ k,af},ĐV Ŗ f]
  ·rw[ģB,m];have(z,s,(),_):=kx m;have t:ČR:=ąQ
   show aB (ij (bE (!{z,(),λc B hc n=>{n _ _ e,g.len Ø,lf hi {g.step s hc,bw (ă6 n) k,af}}})))
  ·rw[ĢX,g.all Ü];show{D,!{ăq,e,q _ _ u j}}
def xZ(T:ä):aT P w K mg base dw 3 a.lg.x a.lg.d õ (S9 K):=by
 show T.lg.okc Fd ĥG
 ·have(p,l,(),f,h1,q):=h;show{_,{ZR,fe (cI (aY K () {Āc,dR K (),ac (Y 0) (ac (kj () T.cX L2.bF) O)} Ī)) (dI (cI (Ah j3 j3 ah {Č,aK K (),ac (Y 0) O} (bV T.yj ())))),ai (az g9),ai (az (cV (aD (jN K () ()) ĕ T.AE L2.k9 (ac (ub õ ["arm"] [] [1] (aj tm) (bW 1) (eE K () (Y 0)) {ν,nO õ ["arm"] 1,pc T.eM (gq T) E (ac (Y 1) O)}) O)) (d9 (bQ aQ {Č,ė0 tY w,ac (bh {Ďb,Bd,P,w,K,()} ĕ T.IM L2.vH (ac (Y 0) O)) O} {Č,aK K (),ac (Y 0) O} (aG _)))))},?_}
  show !{ąK,_,_,{p,! œ f},eS (dk ()),ce ?_};have g:Ď4 (Ăe).length:=Ü
  show !{_,l.length,(),ăp f g,_,!{ĥ,oN (λh3=>?_) Ϝ}}
  rw[ĊO,{_,(),bE (q.no (ĀG z.2.2.1 Ø) ϐ)}]
  rw[ĭ,r2 ă,VX (λh4=>?_) Ϝ]
  rw[ĊO,q.no (ĀG z.2.2.2 Ø) ϐ]
  rw[Ąn,!{é,p,{_,f},λD r=>?_},dH,K,p,Ăe,{ċI,ua Wd l i b,ao H H'/\H' D=ăs},{.nil,am đ r,af},ĐV Ŗ f]
  ·rw[ģC,t];have(z,F,(),hm):=kx t;have G:ČR:=ąQ
   show aB (ij (bE (!{é,z,h1 z hm,λc M hc u=>{u _ _ e,m.len Ø,lf hi {m.step F hc,bw (ă6 u) r,af}}})))
  ·rw[ĢY,m.all Ü];show{D,_,(),å e,_,(),?_};cases k:Čn with|false=>show ce (q.no {ę4,y.mpr z.1,k} j)|true=>
   have I:=Ec (l:=l);rw[ç,bE (!{p,Ăi Sum.inr,(),{Þ,xc,þ j f},by rw[b_];lia,λA n=>?_}),{A,dd _,(),af,Ø,?_}];have B:∀o,ao H (aJ s A o):=λo=>am j n;rw[ĭ,!{_,l.length,(),ăp {þ,B _,f} g,(),?_},q.dec {λh=>{y.mp k,vq.mp ?_,Ø,Ø},Ϝ} (B _)]
   ·have h2:=ĒH h;lia
   ·rw[vq.mpr Ŗ]
def DY(T:ä):aT P w K mg base dw 3 a.kG.x a.kG.d Ď6 (Pz K):=by
 show T.kG.okc DI ĥG
 ·have(p,l,(),f,h1,q):=h;show{_,(ai (az (cV (bQ j3 {Č,aK K (),ac (Y 0) O} (bV T.vG ()) (aG _)) (cV (aD (jN K () ()) ĕ T.AE L2.k9 (ac (ub Ď6 ėt [] [1] (aj pP) (bW 1) (eE K () (Y 0)) {ν,nO Ď6 ėt 1,pc T.eM (gq T) E (ac (Y 1) O)}) O)) (d9 (bQ aQ {Č,ė0 tY w,ac (bh {Ďb,Bd,P,w,K,()} ĕ T.IM L2.vH (ac (Y 0) O)) O} {Č,aK K (),ac (Y 0) O} (aG _))))))),?_}
  have g:Ď4 (Ăe).length:=Ü
  show !{_,l.length,(),ăp f g,_,!{ĥ,oN (λh4=>?_) Ϝ}}
  rw[ĊO,q.no (ĀG z.2.2 Ø) ϐ]
  rw[Ąn,!{é,p,{_,f},λD r=>?_},dH,K,p,Ăe,{ċI,ua Wd l i b,ao H H'/\H' D=ăs},{.nil,am đ r,af},ĐV Ŗ f]
  ·rw[ģC,t];have(z,F,(),hm):=kx t;have G:ČR:=ąQ
   show aB (ij (bE (!{é,z,h1 z hm,λc M hc u=>{u _ _ e,m.len Ø,lf hi {m.step F hc,bw (ă6 u) r,af}}})))
  ·rw[ĢY,m.all Ü];show{D,_,(),å e,_,(),?_};cases k:Čn with|false=>show ce (q.no {ę4,y.mpr z.1,k} j)|true=>
   have I:=Ec (l:=l);rw[ç,bE (!{p,Ăi Sum.inr,(),{Þ,xc,þ j f},by rw[b_];lia,λA n=>?_}),{A,dd _,(),af,Ø,?_}];have B:∀o,ao H (aJ s A o):=λo=>am j n;rw[ĭ,!{_,l.length,(),ăp {þ,B _,f} g,(),?_},q.dec {λh=>{y.mp k,vq.mp ?_,Ø},Ϝ} (B _)]
   ·have h2:=ĒH h;lia
   ·rw[vq.mpr Ŗ]
omit e
inductive fK(K:Zp)(H:Hp):Ė V Str|plain{p:Addr}{hd:Str}{vs:Ú}{ts:Zv}:bj K H p (á hd::vs)->ėq hd->hd≠"visit"->Ğq 100->{Đ,nK K H,vs,ts}->Ğr 5->fK K H ł {ğ,hd::ts}|trial{p:Addr}{n l:Str}{av rv sv:V}{as ss:Zv}{r:Ru}:bj K H p [Āl,Z9,āu,av,rv,sv]->n.length<=40->η 40->vV K H av as->vV K H sv ss->eV K H r rv->ąI->r.fit->fK K H ł {ğ,{Ċ4,n,l,bO as,bO ss}}|visit{p:Addr}{g:Str}{mv:V}{ms:Ũ}:bj K H p [ċa,āt,mv]->ėj 40->rQ K H ms mv->ĉ1 10->(∀m∈ms,Gu m)->fK K H ł {ğ,{Ĕ3,g,bO (ms.map sM)}}
theorem oA{d e:Type}{R S:Ė d e}(f:∀a b,R a b->S a b):∀{g:Ϸ}{h:ĉ e},Đ R g h->Đ S g h|_,_,.nil=> .nil|_,_,.cons r t=>{ē,f _ _ r,oA f t}
theorem fK.kp{v:V}{t:Str}(e:Kp H H')(h:fK K H v t):fK K H' v t:=by cases h with|plain h1 h2 h3 h4 a b=>show .plain ęx h2 h3 h4 (oA (λ_ _ h=>h.kp e) a) b|trial h1 h2 h3 h4 a b c d=>show .trial ęx h2 h3 (h4.kp e) (a.kp e) (b.kp e) c d|visit h1 h2 h3 h4 a=>show .visit ęx h2 (h3.kp e) h4 a
def vV.len{v:V}{b:Zv}(h:vV K H v b):ě bO b<=1010:=by have(a,c,_,_,h3,h4):=h;show wS h3 h4
def oH{b:Ũ}(h:∀m∈b,Gu m)(d:Ān 10):{ě,bO,Ϯ sM}<=1010:=wS (tH h) (āo d)
inductive L1(K:Zp)(vs:Ú)(H:Hp)(Q:VK)(_E:XK):Prop|mk(dv:V)(t:Str)(_:vs=[dv])(_:fK K H dv t)(_:{ϖ,ao H H',Q Ăx H'})
def aV{A B:Prop}{x y:Str}(h:x≠y)(b:B):{ćW,ąE=ĵ y,A,B}:={ϗ,Cc,λe=>ť e h,b}
def bD{A B:Prop}{x:Str}(a:A):{ćW,ąE=ąE,A,B}:=Cc (λ_=>a) {ą0,(),h}
def eD{z:Str}(h:ĉa 100):nK K H į z:={à,ćV h}
def wn{A B:Prop}{x y:Str}(b:B)(h:ă9 x y:=by first|rfl|(dsimp only[Ru.kind];rfl)):{ćW,ąE=ĵ y,A,B}:=aV (ne_of_beq_false h) b
abbrev lj(K:Zp)(H:Hp):{Ė,ĉ Ru,Ú}:=Paired (eV K H)
theorem lj.kp(e:Kp H H')(h:lj K H b d):lj K H' b d:={ăO,h,q.kp e}
def lj.app(h:lj K H b d)(k:lj K H e f):lj K H (b++e) (d++f):=wH h k
def lj.get(h:lj K H b d)(i:Nat)(v:V)(e:ąF=Ĕ):∃r,ϊ=Ù r/\eV K H r v:=Ak h i v e
noncomputable def Ru.kids:Ru->ĉ Ru|.not q=>[q]|.both q r=>[q,r]|.either q r=>[q,r]|_=>[]
noncomputable def Ru.kind:Ru->Str|.any=>"any"|.has _=>"has"|.least _ _=>"least"|.not _=>"not"|.both _ _=>"both"|.either _ _=>"either"
noncomputable def Ru.deep:Ās Ru|.not _=>true|.both _ _=>true|.either _ _=>true|_=>false
def Ru.subs_kids(r:Ru):r.subs=r::đ0 r.kids.map:=by cases r<;>simp[Ru.subs,Ru.kids]
def eV.tup(h:eV K H r v):∃t b,v=ľ/\bj K H t (Ėr::b)/\(î r.deep->lj K H r.kids b/\ú [])/\(∀w,r.word1=Ù w->∃d,b=ăg::d):=by cases h with|any h=>show{_,_,(),h,ě2,ĔK}|has h=>show{_,_,(),h,ě2,λw e=>Ēu e ĸ}|least h=>show{_,_,(),h,ě2,λw e=>Ēu e ĸ}|not h q=>show{_,!{h,λ_=>{ϋ q,nofun},ĔK}}|both h q r=>show{_,!{h,λ_=>{μ q r,nofun},ĔK}}|either h q r=>show{_,!{h,λ_=>{μ q r,nofun},ĔK}}
def Q9(r:Ru):mI Ėr [ZW,ZC,ZB]=r.deep:=by cases r with|any=>show{Č0,mI {á,"any"} [ZW,ZC,ZB]}|has _=>show{Č0,mI ĂV [ZW,ZC,ZB]}|least _ _=>show{Č0,mI ĂL [ZW,ZC,ZB]}|not _=>show{Ċm,Ĉq ZW [ZW,ZC,ZB]}|both _ _=>show{Ċm,Ĉq ZC [ZW,ZC,ZB]}|either _ _=>show{Ċm,Ĉq ZB [ZW,ZC,ZB]}
def Q8(r:Ru):mI Ėr [ĂV,ĂL]=r.word1.isSome:=by cases r with|any=>show{Č0,mI {á,"any"} [ĂV,ĂL]}|has _=>show{Ċm,Ĉq ĂV [ĂV,ĂL]}|least _ _=>show{Ċm,Ĉq ĂL [ĂV,ĂL]}|not _=>show{Č0,mI ZW [ĂV,ĂL]}|both _ _=>show{Č0,mI ZC [ĂV,ĂL]}|either _ _=>show{Č0,mI ZB [ĂV,ĂL]}
def Q0{r k:Ru}{n:Nat}(h:k∈r.kids)(hh:{ćf,n+1}):k.hgt<=n:=by
 cases r with|any=>cases h|has _=>cases h|least _ _=>cases h|not q=>
  have:k=q:=Ěd
  have hh:q.hgt+1<=n+1:=hh;rw[this];lia|both q r=>
  have:k=q\/k=r:=Ěd
  have hh:ām+1<=n+1:=hh;rw[ăB,đj T4,đj Qf];rw[ĤL]|either q r=>
  have:k=q\/k=r:=Ěd
  have hh:ām+1<=n+1:=hh;rw[ăB,đj T4,đj Qf];rw[ĤL]
def Oz(x:V)(b:Ú):{Čy,Ă8 x b,Ą2}=1:=by rw[ż,{Ā3,ϸ,0,āl ϸ {ë,Ă8 x b},min (ăF 1) ćR}=1,hF ß];rw[ĂX,min 1 ćR=1]
def Rj(x:V)(b:Ú):¬{Čy,Ă8 x b,Ą2}=0:=by rw[Oz];decide
def Oy(x:V)(b:Ú):ki (x::b) Ą2 none=b:=by unfold ki;rw[Oz,HT.Mq];change {Ĉ1,ćR-1}=b;rw[Nat.add_sub_cancel,g6 (eH _)]
inductive LL(K:Zp)(h:Nat)(vs:Ú)(H:Hp)(Q:VK)(_E:XK):Prop|mk(r:Ru)(rv:V)(_:vs=[rv])(_:eV K H r rv)(_:ćf h)(_:h<=6)(_:∀(l:Addr)(us:Ú)(H':Hp),ao H H'->H l=none->H' l=ăe->lj K H' r.subs us->Ăj l)
section
theorem mw(T:ä):∀h:Nat,aT P w K mg base dw (h+1) a.cD.x a.cD.d Ā5 (LL K h)
 |0=>by
  show T.cD.f.ok jX ĔT ĠA
  ·rw[ĕB,h]
  ·rw[ģD,h]|n+1=>by
  rw[ęb,mw T n,T.cD.f.ok jX ĔT ĠA]
  ·rw[ĕB,h]
  ·have(r,rv,(),hR,hh,h6,q):=h;have(t,e,(),hT,v,_):=hR.tup;show{_,(ae (bd 1 jX.nd (a9 (ac (Y 0) O))) (ae (aN (aE (qf K ()) (dy K (Y 0) ah) (bo (ac ak (ac ak (ac ak O)))) ąV) (ai (gn oa () (eE K () (cp (nX K ()) (Y 0) (cO ah) c9)) (yD 2 jX.nd) (ai (aR {č8,cg,K,(),PySem.F.slot_list_extend,PySem.F.type_list_extend,CM,Y 1,ac {ă7,ih,hr,T.cD.m,T.cD.f.kp,T.cD.b,ac (Y 2) O} O})))) aF) (ai (az (Y 1))))),?_}
   show !{ls (),λl R=>?_};have s0:=ZI ąC H R;have y:aJ H l (ø ąC) l=ò ąC:=af
   rw[ċp]
   generalize ĀE ąC=H0 at s0 y⊢;show ! rX (þ s0 hT) č {ls (),λt3 G=>?_};have I:=ą8 [ZW,ZC,ZB] s0 G;have j:aJ H0 t3 {ň,[ZW,ZC,ZB]} l=ò ąC:={Þ,ay (aI y G),y}
   rw[Č5,{t3,! ċT ĘC ă},{āX,mI Ėr [ZW,ZC,ZB]}]
   rw[Q9]
   rw[ċp]
   generalize Ō H0 t3 [ZW,ZC,ZB]=S at I j⊢;cases hd:r.deep with
 |false=>
    show ce ă;have hs:r.subs=[r]:=by cases r<;>first|rfl|cases hd
    show q l ąC S I R j {Þ,hs,{ϋ,ė hR.kp I}}|true=>
    have(hK,an):=v hd;rw[ç,bE ?_,{_,(),_,(),?_}];have hc:=r.cnt_lt;have ap:2^r.hgt<=2^6:=o_ ß Ø;have aa:ċy r.kids.length:=(ř hK).symm;have J:∀(i:Nat)(k:Ru),ì r.kids=Ù k->k.hgt<=n:=λi k V=>Q0 (e_ V) hh;rw[Ģ,{t,!{þ I hT,{ĀG,z.1,Rj _ _},čQ}},Oy];have s2:=ą8 e I hp;have L:aJ S p (ň e) l=ò ąC:={Þ,ay (aI j hp),j}
    have B:aJ S p (ň e) p=ĝ e:=af
    rw[ċp]
    generalize Ō S p e=H2 at s2 L B⊢;show{é,p,{_,Ł B},Ej (xs:=e) (D:={čr,Pk (nS 1) {čr,λ_ H'=>ćc Q}}) (λi W H'=>ao H H'/\H' p=ĝ e/\(∃C,H' l=ò C/\lj K H' (r::{đ0,đ3 i}) C)/\∃v2,W=[í t,í l,v2]) {s2,B,{ąC,L,{ϋ,ė hR.kp s2}},_,()} (λi W H' _ h=>Ł Ŗ) ?_ ?_}
    ·intro i x W H3 hx(X,u,(C,c,g),v2,());have(k,V,ad):=lj.get hK i x hx;show aB (!{à {(),_,å c},!{k,x,(),ė ad.kp X,J i k V,Ø,λl' ag H4 M as al N=>?_}});have e1:đ0 {đ3,i+1}={đ0,đ3 i}++k.subs:=by rw[ov,V,hE,List.flatten_append];simp
     have n1:=ř g;have n2:=ř N;have n3:{ĕv,đ3 i}+k.subs.length<=64:=by
      have e2:r.subs.length=1+ĤZ:=by rw[r.subs_kids,ig];lia
      have e3:ĤZ=ĕv {đ3,i+1}+ĕv {ś,r.kids.drop,i+1}:=by rw[<-gV,<-List.flatten_append,<-hE,sg]
      rw[e1,gV]at e3;rw[ĥH]
     rw[ig]at n1;show{l,l',_,!{(),M _ _ c,al,by rw[gg];lia,?_}};have kq:Kp H4 {ń,H4,l,C++ag}:={ø,M _ _ c};show{bw (ċV M) R,?_,{_,af,?_},_,()}
     rw[Ĺ,ay (λz=>by rw[z,c]at u;cases u),M _ _ u]
     ·rw[e1,<-List.cons_append];show lj.app ({č0,g.kp,M} kq) (N.kp kq)
    ·intro W H3(X,u,(C,c,g),v2,());rw[Ģ,! q l C H3 X R c ?_,r.subs_kids];rw[aa,g6 (eH _)]at g;show g
omit e
def Uw[Ăb g][BEq g][ĂR g][Ăb h][BEq h][ĂR h](f:g->h)(i:∀a b,f a=f b->a=b)(d:ĉ g):dd (Ą8 f)={ś,dd,d} f:=by
 have gen:∀(d c:ĉ g),{ĔA,(Ą8 f).foldl,c.map f}=(ĔA d.foldl c).map f:=by
  intro d
  induction d with|nil=>intro c;rfl|cons k r j=>
   intro c;rw[kw,rV,rV,<-j]
   congr 1
   unfold PyProof.Rows.step_dedup;have e:(c.map f).any (λy=>y==f k)=c.any (λy=>y==k):=by
    rw[List.any_map]
    congr 1
    funext y
    change(f y==f k)=(y==k)
    rw[ąm,y,k]
    ·rw[q,r4,r4]
    ·rw[Yr q,Yr {ÿ,q,i _ _ z}]
   by_cases q:{Ą,c.any,λy=>y==k}
   ·rw[hY (āC q),hY q]
   ·rw[hF {ÿ,q,Ė3 z},hF q,hE];rfl
 show gen d []
noncomputable def Ru.wset(r:Ru):ċ:=dd r.words
def Ru.wset_keys(r:Ru):dd (r.words.map ęz)=r.wset.map Sum.inr:=Uw Sum.inr (λ_ _ h=>rk h) r.words
def Ru.wset_le(r:Ru):Ĝ2 r.cnt:=by rw[ăB,re r.words [],r.words_le];unfold Ru.wset dd;simp at h1;lia
inductive Pq(K:Zp)(vs:Ú)(H:Hp)(Q:VK)(_E:XK):Prop|mk(r:Ru)(rv:V)(_:vs=[rv])(_:eV K H r rv)(_:ąI)(_:∀(l:Addr)(ss:Zv)(H':Hp),ao H H'->H l=none->H' l=Ăo ss.map->ss.Perm r.wset->ss.Pairwise rq->Ăj l)
section
def Fy(T:ä):aT P w K mg base dw 8 a.mJ.x a.mJ.d Ā5 (Pq K):=by
 show T.mJ.okc E5 λH X Z h=>?_
 ·have(r,rv,(),hR,hh,q):=h;show{_,(ai (az (aD {ċc,Eo,w,()} ĕ T.FN L2.yk (ac (bh {Ďb,Bc,P,w,K,()} ĕ T.IM L2.vH (ac (ub Ā5 ["inner"] [] [1] (aj sZ) (bW 1) (eF K () {ă7,(mw T 6).mono ß,Z,T.cD.m,T.cD.f.kp,T.cD.b,ac (Y 0) O}) {Ĕa,nO Ā5 ["inner"] 1,DO (aE (qf K ()) (dy K (Y 1) ah) (bo (ac ak (ac ak O))) ąV),dy K (Y 1) ah}) O)) O)))),?_}
  show !{r,rv,(),hR,hh,eH _,λl A H1 I hl s u=>?_};have hc:=r.cnt_lt;have aa:2^r.hgt<=2^6:=o_ ß Ø;have B:A.length=r.subs.length:=(ř u).symm;have ad:r.subs.length<64:=by rw[ĥH]
  rw[Ąn,é l {_,å s} λD J=>?_,gU,K,l,A,λi e H'=>e=Ž (ĖR i).filterMap Ru.word1/\ao H1 H'/\H' D=ò e,{by rw[oi];rfl,am đ J,af},λi e H' _ h=>{å,Ŗ _ _ s}]
  ·intro i v e y L((),p,c);rw[ā9,i<A.length,L];have(k,hk,E):=lj.get u i v L;have(t,X,(),M,_,hw):=(ė E.kp p).tup;show aB (! rX M č {ls (),λN F=>?_});have g:=š [ĂV,ĂL] y F;rw[Č5,{N,! ċT ĘC ă},{āX,mI (á k.kind) [ĂV,ĂL]}]
   rw[Q8]
   rw[ċp]
   generalize Ō y N [ĂV,ĂL]=H3 at g⊢;have Q:đP {ĖR,i+1}={đP,ĖR i}++k.word1.toList:=by
    rw[ov,hk,y3]
    congr 1
   have fl:ě (ĖR i).filterMap Ru.word1<=i:=g_ (Ģf _ _) (z5 _ _);cases j:k.word1 with|none=>show ce (lf hi {?_,ĎW g,g _ _ c});rw[Q,j];simp|some wd=>
    have(ag,()):=hw wd j;show bE (! rX (þ g M) ϕ {g _ _ c,?_,lf hi {?_,bw (ĎW g) J,af}})
    ·rw[b_,gg];lia
    ·rw[Q,j,hE];rfl
  ·intro e y((),p,c);rw[B,g6 (eH _),r.words_subs]at c;have wl:=r.words_le;have al:=r.wset_le;have c:y D={ò,{ś,r.words.map,ęz} kV}:=Þ rr c
   rw[Ģ,{D,r.words.map Sum.inr,(),å c,by rw[b_];lia,λR G=>?_},r.wset_keys];have g:={Ĕf,Dy P w R (r.wset.map Sum.inr),y,G};show{R,r.wset,(),af,Ø,λS W n hp hs=>?_};have s4:=ăL {ø,Ş W.map} g n;show q S W _ {è,I.trans p,s4} (by cases z:H S with|none=>rfl|some o=>rw[{è,I.trans p,g} _ _ z]at n;cases n) af hp hs
omit e
theorem Nj[BEq b][ĂR b]:∀{l m:ZO},l.Nodup->(∀x∈l,x∈m)->η m.length
 |[],m,_,_=>ku _|a::l,m,h,g=>by
  have(h1,h2):=Zl.mp h;have p:=List.perm_cons_erase (g a f_);have:=Nj (m:=m.erase a) h2 λx c=>by
   rcases {Ű,p.mem_iff.mp (g x (fy _ c))}with rfl|q
   ·rw[Ā,c,h1]
   ·show q
  have e:=p.length_eq;rw[ig]at e⊢;lia
theorem HK[Ăb d][BEq d][ĂR d]:∀(f b:Ϸ)(x:d),x∈ĔA f.foldl b↔x∈b\/x∈f
 |[],b,x=>Ü|k::r,b,x=>by
  rw[rV,HK r];unfold PyProof.Rows.step_dedup
  by_cases e:{Ą,b.any,λy=>y==k}
  ·rw[hY e];have(y,a,q):=ĆB e;have c:k∈b:={Ă,ĀI q,a}
   constructor
   ·rintro(h|h)
    rw[Ř,h]
    rw[ϛ,fy _ h]
   ·rintro(h|h)
    rw[Ř,h]
    ·rw[Ćb,h]
     rw[Ř,c]
     rw[ϛ,h]
  ·rw[hF e];simp only[List.mem_append,List.mem_singleton,q_,or_assoc,n6,false_or]
def TR{b:Type}[Ăb b][BEq b][ĂR b]{d:ZO}{x:b}(h:x∈d):x∈dd d:=(HK d [] x).mpr (æ h)
def Ox{b:Type}[Ăb b][BEq b][ĂR b]{d:ZO}{x:b}(h:x∈dd d):x∈d:=by
 rcases(HK d [] x).mp h with h|h
 ·cases h
 ·show h
theorem Sf[Ăb f][BEq f][ĂR f]:∀(g d:ĉ f),d.Nodup->(ĔA g.foldl d).Nodup
 |[],d,h=>h|k::r,d,h=>by
  rw[rV];show Sf r _ ?_;unfold PyProof.Rows.step_dedup
  by_cases e:{ęu,λy=>y==k}
  rw[Ĺ,hY e,h]
  ·rw[hF e,md];rw[Ģ,{h,Ü,λa c b i=>?_},Ň i];rw[ėZ,e {ďo,{a,c,r4 a}}]
def Ru.Fm:Ĵ Ru|.any=>True|.has w=>Wd w|.least w n=>Wd w/\-bg<=n/\n<=bg|.not q=>q.Fm|.both q r=>q.Fm/\r.Fm|.either q r=>q.Fm/\r.Fm
def Ru.Sh(r:Ru):Prop:=∀w∈r.words,ĝ7
def Ru.Sh.l{q r:Ru}(h:∀w∈ĒN,ĝ7):q.Sh/\r.Sh:={λw a=>h w ėD,λw a=>h w (Čp a)}
inductive PY(K:Zp)(n:Nat)(vs:Ú)(H:Hp)(Q:VK)(_E:XK):Prop|mk(r:Ru)(rv:V)(_:vs=[rv,{ã,ş n}])(_:eV K H r rv)(_:ćf n)(_:r.Sh)(_:Yn r.Fm Q H)
def D7{a b n:Nat}(h:max a b+1<=n+1):a<=n/\b<=n:=by rw[ăB,T4 a b,Qf a b];lia
section
set_option tactic.hygienic true in
theorem xY(T:ä):∀n:Nat,aT P w K mg base dw (n+3) a.cY.x a.cY.d Ĝf (PY K n)
 |0=>by
  show T.cY.f.ok pH ĢZ ĠF
  ·rw[ĕY,h]
  ·rw[Ĥ7,h]|n+1=>by
  have I:=xY T n;show T.cY.f.ok pH ĢZ ĠF
  ·rw[ĕY,h]
  ·have(r,G,(),N,hh,g,q):=h;show{_,{ZR,fe (aE aQ (Y 1) ah (aG _)) (fe (cI (aY K () {Āc,dR K (),ac (Y 0) (ac (kj () T.cX L2.bF) O)} Ī)) (dI (aE aQ {Č,aK K (),ac (Y 0) O} ah (aG _)))),ai (az g9),ae (bd 2 pH.nd (dy K (Y 0) ah)) (ae (aN (aE aQ (Y 2) ak (aG _)) (ai (az (bQ aQ {Č,aK K (),ac (Y 0) O} ah (aG _)))) aF) (ae (aN (aE aQ (Y 2) ak (aG _)) (ai (az (cV (bQ aQ {Č,aK K (),ac (Y 0) O} ah (aG _)) (d9 {ă7,{Ąx,gq,by first|decide|lia},p,T.eM.m,T.eM.f.kp,T.eM.b,ac (dy K (Y 0) ah) O})))) aF) (ae (aN (aE aQ (Y 2) ak (aG _)) (ai (az (cV (bQ aQ {Č,aK K (),ac (Y 0) O} ah (aG _)) (cV {ă7,{Ąx,gq,by first|decide|lia},p,T.eM.m,T.eM.f.kp,T.eM.b,ac (dy K (Y 0) ah) O} (d9 {ă7,{Ąx,uX,by first|decide|lia},p,T.gR.m,T.gR.f.kp,T.gR.b,ac (dy K (Y 0) ah) O}))))) aF) (ae (aN (aE aQ (Y 2) ak (aG _)) (ai (az (cV (bQ aQ {Č,aK K (),ac (Y 0) O} ah (aG _)) (d9 {ęy,I,p,T.cY.m,T.cY.b,ac (dy K (Y 0) ah) (ac (au gp (Y 1) ah) O)})))) aF) {ZR,fe (aE aQ (Y 2) ak (aG _)) (dI (aE aQ (Y 2) ak (aG _))),ai (az (cV (bQ aQ {Č,aK K (),ac (Y 0) O} ah (aG _)) (cV {ęy,I,p,T.cY.m,T.cY.b,ac (dy K (Y 0) ah) (ac (au gp (Y 1) ah) O)} (d9 {ęy,I,p,T.cY.m,T.cY.b,ac (dy K (Y 0) ah) (ac (au gp (Y 1) ah) O)})))),ai (az g9)}))))},?_}
   have hd:{Ď,n+1}-1=ϩ:=Ø
   obtain⟨t,C,rfl,D,-⟩:=N.tup;rw[Ŧ,!{ĥ,kz (ą0 h Ø) (λJ=>?_)},!{ąK,_,_,{t,! œ D},eS (dk ()),ce ?_},!{_,!{Ąi D,(),! kz {ą0,h,by rw[ig];lia} (λL=>?_)}},! rX D č ?_];show aB ?_;clear D J L;cases N with
 |any h=>rw[ϯ,! Ť,!{_,!{Đ8,(),?_}},q.dec (c:=ñ 1=ñ 1) {Ĝ9,Ī} đ]|has h=>rw[Ŏ,! ϲ,! Ť,!{_,!{Đ8,(),! bE ?_}}];rename_i M;show ! rX h () {é,M,g _ f_,q}|least h=>(rw[ċi,! ϲ]);rw[ç,! Ť,!{_,!{Đ8,(),! bE ?_}}];rename_i M n1;show ! rX h () {é,M,g _ f_,ěu};cases c with|false=>show ce (q.no {Đe,hc.mpr z.1} e)|true=>show bE (! rX (þ e h) () {n1,(),λc u i v=>q c u {ċW,{λz=>{hc.mp (),z},λz=>z.2}} (āC v)})
   |not h h1=>rename_i j o;have hh:j.hgt+1<=n+1:=hh;(rw[Ē8,! ϲ]);rw[Ŏ,! Ť,!{_,!{Đ8,(),! bE ?_}},! rX h () (! r2 ?_)];show{j,o,{ČB,[o,{ñ,{Ď,n+1}-1}]=_},h1,Ø,g,q}|both h h1 h2=>rename_i j y o B;have hh:={ćI,D7,max j.hgt y.hgt+1<=n+1,hh};have g:=Ru.Sh.l g;(rw[ėT,! ϲ]);rw[Ŧ,! Ť,!{_,!{Đ8,(),! bE ?_}},! rX h () (! r2 ?_),{j,o,{ČB,[o,{ñ,{Ď,n+1}-1}]=_},h1,hh.1,g.1,ěu}];cases c with|false=>show ce (q.no {Đe,hc.mpr z.1} e)|true=>rw[ö,bE (! rX (þ e h) () (! r2 ?_)),{y,B,{ČB,[B,{ñ,{Ď,n+1}-1}]=_},ĒP e,hh.2,g.2,λc u i v=>q c u {ċW,{λz=>{hc.mp (),z},λz=>z.2}} (āC v)}]
   |either h h1 h2=>rename_i j y o B;have hh:={ćI,D7,max j.hgt y.hgt+1<=n+1,hh};have g:=Ru.Sh.l g;(rw[ĉ6,! ϲ]);rw[Ŧ,! Ť,!{_,!{Đ8,(),! bE ?_}},! rX h () (! r2 ?_),{j,o,{ČB,[o,{ñ,{Ď,n+1}-1}]=_},h1,hh.1,g.1,ěu}];cases c with|false=>show ce (q.no {Đe,hc.mpr z.1} e)|true=>rw[ö,bE (! rX (þ e h) () (! r2 ?_)),{y,B,{ČB,[B,{ñ,{Ď,n+1}-1}]=_},ĒP e,hh.2,g.2,λc u i v=>q c u {ċW,{λz=>{hc.mp (),z},λz=>z.2}} (āC v)}]
omit e
def Ru.Good(r:Ru):Prop:=r.Fm/\r.cnt<=30/\Ĝ2 3
inductive LZ(K:Zp)(vs:Ú)(H:Hp)(Q:VK)(_E:XK):Prop|mk(r:Ru)(rv:V)(_:vs=[rv])(_:eV K H r rv)(_:ąI)(_:r.Sh)(_:Yn r.Good Q H)
section
def Aq(T:ä):aT P w K mg base dw 10 a.oO.x a.oO.d õ (LZ K):=by
 show T.oO.okc GR λH F g h=>?_
 ·have(r,i,(),j,hh,t,q):=h;show{_,(ae (aN (cI (aY K () {ęy,(xY T 6).mono ß,g,T.cY.m,T.cY.b,ac (Y 0) (ac (bV T.qF ()) O)} Ī)) (ai (az g9)) aF) (ai (az (cV (bQ j3 {Č,aK K (),ac {ă7,(mw T 6).mono ß,g,T.cD.m,T.cD.f.kp,T.cD.b,ac (Y 0) O} O} (bV T.Eu ()) (aG _)) (d9 (bQ j3 {Č,aK K (),ac (pc T.mJ (Fy T) g (ac (Y 0) O)) O} (bV T.Er ()) (aG _))))))),?_}
  show !{r,i,(),j,hh,t,λc G hc e=>ă};cases c with|false=>show bE (q.no {Đe,hc.mpr z.1} e)|true=>
  show ce (!{r,i,(),ė j.kp e,hh,eH _,λl s I k u n o=>?_});have v:s.length=r.subs.length:=(ř o).symm;show{_,s.length,(),à {_,å n,()},_,!{ĥ,oN (λy=>?_) Ϝ}}
  rw[ĊO,q.no (λz=>by have:=z.2.1;unfold Ru.cnt at this;lia) (āC k)]
  show !{r,i,(),{ė,j.kp,āC k},hh,λJ A L B C p D _=>?_};have E:=D.length_eq;rw[ç,{_,A.length,(),à {_,å p,Ü},_,! āO},q.dec {λz=>{hc.mp (),by unfold Ru.cnt;lia,Ø},ĄO} {è,āC k,B}];rw[Š,z.2.2]
omit e
def Rd{b:Type}(C:Addr)(good:Ĵ b)(at_:Hp->Ė b V)(H:Hp)(Q:VK)(E:XK):Prop:=(∀(d:b)(v:V)(H':Hp),good d->ao H H'->at_ H' d v->Q v H')/\((∀d,¬good d)->XC C H E)
abbrev A8:Str:=ĕ4
def fj(x:Str)(n:Int):Prop:=bR n=x/\{ĉK,10^60}
def ii(x:Str)(m:ă8):Prop:=sM m=x/\iQ 61 m.1/\m.2.natAbs<10^60
def fj.reads{x:Str}{n:Int}(h:fj x n):ĊN x=ăo:={Ă,ü,Kn Ŕ}
def fj.one{x:Str}{n m:Int}(h:fj x n)(k:fj x m):n=m:=i_ (h.reads.symm.trans k.reads)
def Ss{cs:Zy}(h:Ě2 cs):∀b:Nat,cs.foldl (λb c=>b*10+(c-48)) b+1<=(b+1)*10^cs.length:=by induction cs with|nil=>intro b;simp|cons c r a=>intro b;rw[ăB,a (λd hd=>h d (fy _ hd)) (b*10+(c-48)),h c f_];rw[rV,ig,D2,Nat.mul_comm (10^r.length),<-Nat.mul_assoc];show g_ h1 (Nat.mul_le_mul_right _ Ø)
def Up:∀c∈jv.cps.toList,48<=c/\c<=57:=Ý
def Jf{y:Str}(h:oU jv 60 y):Ĥj/\y.cps.toList≠[]/\PySem.NumText.digitsVal y.cps.toList<10^60:=by have hd:Ĥj:=λc hc=>Up c (h.cs c hc);rw[Ďk,vi y,h.lo,h.hi];show{hd,λe=>by rw[e]at h1;simp at h1;lia,?_};have a:=Ss hd 0;rw[Nat.zero_add,Nat.one_mul]at a;show j1 (Nat.lt_of_succ_le a) (o_ ß Ø)
def Oi{x:Str}(h:oU jv 60 x):∃n,ĊN x=ăo/\{ĉK,10^60}:=by have(h1,h2,h3):=Jf h;have:=h.hi;show{_,PySem.intText_digits h1 h2 Ø,Þ Int.natAbs_natCast h3}
def KU{y:Str}(h:oU jv 60 y):∃n,{ĊN,A8++y}=ăo/\{ĉK,10^60}:=by have(h1,h2,h3):=Jf h;have:=h.hi;rw[Ģ,{_,PySem.intText_neg (by rw[bK];rfl) h1 h2 ?_,Ŝ Int.natAbs_neg Int.natAbs_natCast h3},cA];rw[ĂX,1+_<=_]
def HL(x:Str):(∃y,x=A8++y/\ěB x "-")\/{ć,ĊV x "-"}:=by cases d:ĊV x "-"with|false=>rw[Ċj]|true=>
  have e:Ďt=A8:=Ý
  have a:=d;rw[e]at a;rw[ġL,k_];have h2:=(Ha _ 45 0).mp {kl a.1,a.2};cases b:x.cps.toList with|nil=>rw[b]at h2;cases h2|cons c cs=>
   rw[b]at h2;obtain rfl:c=45:=ĔM
   show à {ě3,?_,()};apply Str.ext';apply Ze.mp;rw[b,bK];rfl
def QE{x:Str}{n:Int}(h:fj x n)(b:{ć,ĊV x "-"}):oU jv 60 x:=by have((),a):=h;cases n with|ofNat m=>show FH a|negSucc m=>rw[GF]at b;cases b
def Nc{y:Str}{n:Int}(h:fj (A8++y) n)(b:{ěB,A8++y,"-"}):oU jv 60 y:=by have(a,c):=h;cases n with|ofNat m=>rw[<-a]at b;rw[{Ĩ,{ĊV,bR (Int.ofNat m),"-"},false,GG m}]at b;cases b|negSucc m=>have h2:=J7 m;rw[a,nW]at h2;rw[ó,h2,FH (m:=m+1) c]
def Ko{n:Int}(h:{ĉK,10^60}):n.natAbs.log2<1920:=wQ (j1 h Ý)
def NV{A B:Prop}{b:Bool}(e:ć b)(h:B):Ě b A B:=Þ e h
def We{A B:Prop}{b:Bool}(e:î b)(h:A):Ě b A B:=Þ e h
inductive JR(C:Addr)(vs:Ú)(H:Hp)(Q:VK)(E:XK):Prop|mk(x:Str)(_:vs=āv)(_:ĄF)(_:Rd C (fj x) (λ_ n v=>v=ăk) H Q E)
section
def jm(T:ä):aT P w K mg base (lA P w) 2 a.bN.x a.bN.d ĂW (JR a.c8):=by
 show T.bN.okE kL λr A outer s H u Q E k h=>?_
 ·have(x,(),v,q):=h;show{_,(ae (bd 1 kL.nd (qd (aY K () {Đc,cg,K,(),PySem.F.slot_str_startswith,PySem.F.type_str_startswith,Kr,Y 0,ac ak O} Ī) (cp wz (Y 0) (cO ah) c9) (Y 0))) (ae (aR {ČH,k,ac (pc T.gy (mq T) k (ac (Y 1) (ac (bV T.Lf ()) (ac (bV T.Be ()) O)))) O}) (ae (bd 2 kL.nd (bh Lb ĕ T.R0 L2.Gn (ac (Y 0) O))) (ae (aR {ČH,k,ac (bQ aQ (bh eu ĕ T.lW L2.eO (ac (Y 2) O)) (Y 0) (aG _)) O}) (ai (az (Y 2))))))),?_}
  have c5:∀(o:ĀV)(n:Int)H',ĊN x=ăo->{ĉK,10^60}->ā1 61->ao H H'->wm (Bw (Vs (λj H Q=>∃z n,j=ĂC z/\ĊN z=ăo/\ĉa 640/\Q (ñ n) H) (kI (nS 0) zo)) (k7 2)) (wm (LF (LH (Ij a.c8) [] E (kI (JL VO (Vs (λj H Q=>(∃i,j=[ñ i]/\ėJ/\Q {ĵ,{Ę,ăP i}} H)\/∃z,j=ĂC z/\Q (ĵ z) H) (kI (nS 2) zo)) (nS 0)) zo))) (Pk (nS 2))) {čr,λx H'=>Q V.non H'} [Ù ħ,o,none] H':=by
   intro o n H' hn c B p;rw[Će,!{x,n,(),hn,Ø,aB ?_},! à {é,n,Ko c,! āO},{é,{Ċ,{ĵ,bR n}=ąE},λh=>ă,Ϝ}]
   ·show q.1 n _ H' {V.str.inj (kl h),c} p ()
   ·show(ņ ĈO).to p;have:=y2 h;obtain rfl:m=n:=i_ (hm.reads.symm.trans hn);show this (m6 V.str hm.1)
  have(y,(),e)||e:=HL x
  ·have t:Ļ A8 y=1+y.length:=by rw[cA];rfl
   rw[Ģ,!{(),A8++y,Ďt,(),(),! We e (! ! !{cP Ø,?_})},nW];show aB (!{y,jv,60,(),Ø,ß,λb l c g=>é b Ϝ Ϝ})
   ·have(n,hn,hm):=KU (c.mp h);have:=(c.mp h).hi;show c5 _ n l hn hm Ø g
   ·show(ņ λm hm=>by rw[ĀO,c.mpr (Nc hm e),h]).to g
  ·rw[ĭ,!{(),x,Ďt,(),(),! NV e ă},aB (!{x,jv,60,(),Ø,ß,λb l c g=>é b Ϝ Ϝ})]
   ·have(n,hn,hm):=Oi (c.mp h);have:=(c.mp h).hi;show c5 _ n l hn hm Ø g
   ·show(ņ λm hm=>by rw[ĀO,c.mpr (QE hm e),h]).to g
omit e
theorem CG{e f:Type}{R:Ė e f}:∀{a c:ĉ e}{b d:ĉ f},ąn R->Đ R c d->{Đ,R,a++c,b++d}|_,_,_,_,.nil,h=>h|_,_,_,_,.cons r t,h=>{ē,r,CG t h}
def Sl(K:Zp)(H:Hp)(v:V)(m:ă8):Prop:=∃b,v=ZM/\bj K H b [á m.1,ã m.2]
def vf{d:Ú}{f:Ũ}(e:Kp H H')(h:{Đ,Sl K H,d,f}):{Đ,Sl K H',d,f}:=oA (λv m⟨b,h1,h2⟩=>{b,h1,ąc}) h
theorem Fu{e d:Type}{R:Ė e d}:∀{a:ĉ e}{b:Ϸ},ąn R->∀(i:Nat)(m:d),ϊ=Ù m->∃v,Ąo=Ĕ/\R v m|_,_,.nil,i,m,h=>ć8|_,_,.cons r t,0,m,h=>by simp at h;show !(h▸r)|_,_,.cons r t,i+1,m,h=>by simp at h;have(v,h1,h2):=Fu t i m h;show{v,Ċy,h2}
def R3{a:Addr}{d:Ú}{e:Ũ}(h:{Đ,Sl K H,d,e})(f:bj K H a d):rQ K H e ô:={a,d,(),f,eJ h,λi m hm=>by have(v,h1,b,(),h2):=Fu h i m hm;show Ču b}
def N6(y:Str)(l:Zv):Āh y l=ZE y l:=p_ _ _
def KI{y:Str}(b:y.length=1)(l:Zv):l≠[]->ō Str.join y l+1=ky l+l.length:=by induction l with|nil=>show ą0 () h|cons t r a=>intro _;cases r with|nil=>rw[aL,eX];rfl|cons u r=>have h:=a (nofun);change{Ļ,t++y,{ZE,y,u::r}}+1=_;rw[cA,cA,aL,ig,b];lia
def Ny{p:Str}{l:Zv}(h:p∈l):{Ēl,ky l}:=by induction l with|nil=>show nomatch h|cons t r a=>
  rw[aL];rw[Ćb,h]
  ·lia
  ·rw[Š,a h]
def pF(x y:Str):āz x y≠[]:=by
 unfold Txt.split
 split
 ·show nofun
 ·split
  ·show nofun
  ·rw[StrLaws.partsBetween_eq];have(p,q,e):=StrLaws.partsFrom_ne x y.length 0 {Đh,x,y,0,x.length,Ď5 1};rw[ęk,e]
def nU{x y:Str}(b:y.length=1):ky (āz x y)+ō Txt.split x y=Ď5 1:=by have h:=KI b (āz x y) (pF x y);rw[Ą3,YQ,h.symm]
def wu{x y p:Str}(b:y.length=1)(h:p∈āz x y):Ēl x.length:=by rw[Ďk,nU (x:=x) b,Ny h,YK.mpr (pF x y)];lia
open Classical in
noncomputable def eU(x:Str):ċ:={ď,x,"-",[],āz x ","}
def kQ:eU "-"=[]:=hY ()
def eI{x:Str}(h:x≠"-"):eU x=āz x ",":=hF h
def kP(x:Str):bO (eU x)=x:=by
 rw[ĆN,x,"-"]
 ·subst h;rw[kQ];rfl
 ·rw[eI h];have e:∀l:ċ,l≠[]->bO l=Āh "," l:=λl a=>by cases l with|nil=>rw[ąt,a]|cons=>rfl
  rw[e _ (pF _ _),N6,YQ]
def An{x:Str}:ě eU x<=Ď5 1/\∀p∈eU x,Ēl x.length:=by
 rw[ĆN,x,"-"]
 ·subst h;rw[ó,kQ,{ku _,λp a=>nomatch a}]
 ·rw[eI h];have:=nU (x:=x) UA;show{Ċ9,λp a=>wu UA a}
def oz{b:Zv}(d:∀t∈b,Pt t):eU (bO b)=b:=by cases b with|nil=>show kQ|cons t r=>have(c,cs,e,hc):=(d t f_).hd;have(ds,a):=KK (y:=",") (r:=r) e;rw[ó,eI (x:=bO (t::r)) (QG a hc),kJ Rp (nofun) (λp f=>(d p f).fr)]
def On:ēD=1:=Ý
def wK(x:Str):∃a s b,đi x "="=(a,s,b)/\a.length<=x.length/\Ān x.length/\(∀n,fj b n->ii x (a,n))/\∀m,ii x m->m.1=a/\fj b m.2:=by
 have back:∀m,ii x m->đi x "="=(m.1,Ăn,bR m.2):=λm h=>{Ă,ü,Kf Jh Ŗ}
 rcases Zi x "="with⟨h,_⟩|⟨i,h,h1,h2⟩
 ·show{_,_,_,h,eH _,ku _,ĝl,ĈO}
  ·have e:=hn.1;have:ęd n=[]:=by rw[e];rfl
   cases n with|ofNat k=>rw[ďk,qp k]|negSucc k=>rw[qU,bK]at this;show nomatch this
  ·have e:=(back m hm).symm.trans h;have:Ăn=Str.empty:=(J_ (J_ e).2).1;rw[ďk,dk ()]
 ·have e:čn x 0 i++Ăn++{čn,x,i+ēD,x.length}=x:={è,StrLaws.sub_cat x _ (ku i) h1,StrLaws.sub_whole x};have g:=m6 Str.length e;rw[cA,cA,On]at g;show{_,_,_,h,Ø,by rw[On];lia,λn hn=>{?_,?_,hn.2},ĈO}
  ·rw[ā5,čn x 0 i++Ăn++bR n=x,hn.1,e]
  ·intro hm;have hm:61∈(čn x 0 i).cps.toList:=hm;rw[Yw,YE,Nat.sub_zero]at hm;have(k,j,c):=List.mem_iff_getElem.mp hm;have d:k<i:=by rw[j2]at j;lia
   show h2 k d ?_;have l:Ăn=ώ {#[61]}:=Ý
   rw[l];show(Ha _ 61 k).mpr ?_;rw[List.getElem_take]at c;rw[π,c,fx _]
  ·have e:=h.symm.trans (back m hm);have f:=J_ e;have o:=J_ f.2;show(f.1.symm,o.2.symm,hm.2.2,)
inductive GI(K:Zp)(C:Addr)(vs:Ú)(H:Hp)(Q:VK)(E:XK):Prop|mk(x:Str)(_:vs=āv)(_:ĄF)(_:Rd C (ii x) (λH m v=>Sl K H v m) H Q E)
inductive PN(K:Zp)(vs:Ú)(H:Hp)(Q:VK)(_E:XK):Prop|mk(x:Str)(_:vs=āv)(_:ĄF)(_:{ğ0,ao H H',H' l={ò,Ž eU x}->Ăj l})
section
def DU(T:ä):aT P w K mg base (lA P w) 3 a.iS.x a.iS.d ĂW (GI K a.c8):=by
 show T.iS.okEc um λH y j h=>?_
 ·have(x,(),z,q):=h;show{_,(ae (bd 1 um.nd {Đc,cg,K,(),PySem.F.slot_str_partition,PySem.F.type_str_partition,QJ,Y 0,ac ak O}) (ai (az (bo (ac (dy K (Y 1) ah) (ac {ZD,Ņ jm,j,T.bN.m,T.bN.f.kp,T.bN.b,ac (dy K (Y 1) ah) O} O)))))),?_}
  have(a1,c,b1,k,p,r,f1,f2):=wK x;show !{(),x,Ăn,a1,c,b1,(),(),Ý,Ø,k,λl s=>aB ?_};have g:aJ H l {ň,[á a1,á c,á b1]} l=ĝ [á a1,á c,á b1]:=af;have i:=š [á a1,á c,á b1] H s;show ! rX (Ł g) () (! rX (Ł g) () {é,b1,Ø,{λn v A hn c t=>?_,Ă7}})
  ·subst t;rw[ö,{ls (),Ğ5},q.1 (a1,n) _ _ (f1 n hn) (am (ċW c) u) {b,(),Ń}]
  ·show(ņ λm hm=>e m.2 (f2 m hm).2).to i
def qj(T:ä):aT P w K mg base dw 1 a.eI.x a.eI.d ĂW (PN K):=by
 show T.eI.okc E7 ĥD
 ·have(x,(),g,q):=h;rw[ĭ,{_,(ai (az (qd (aE aQ (Y 0) ak (aG _)) (a9 O) {ěJ,cg,K,(),AG,Y 0,ac ak O}))),?_},!{ĥ,Cc Ă7 Ă7}]
  ·subst e;rw[Ăs,kQ,{ls (),λl b=>q l _ (am đ b) af}]
  ·rw[Ăs,eI e,!{(),x,Ę ",",āz x ",",(),(),Ý,Ø,(),λl b=>q l _ (am đ b) af}]
omit e
inductive Fo|word|guest|count|total|arms|shuts|counts|weights|marks
noncomputable def Fo.s:Fo->Str|.word=>"word"|.guest=>"guest"|.count=>"count"|.total=>"total"|.arms=>"arms"|.shuts=>"shuts"|.counts=>"counts"|.weights=>"weights"|.marks=>"marks"
noncomputable def foT:ĀZ Fo:=[("word",.word),("guest",.guest),("count",.count),("total",.total),("arms",.arms),("shuts",.shuts),("counts",.counts),("weights",.weights),("marks",.marks)]
def Fo.fo(f:Fo):ĖW f.s foT=Ù f:=Ģd f
def Fo.inj{f g:Fo}(h:f.s=g.s):f=g:=i_ (f.fo.symm.trans {è,m6 (λx=>ĖW x foT) h,g.fo})
def Fo.i_word{f:Fo}(h:f.s=Ę "word"):f= .word:=će .word h
def Fo.i_guest{f:Fo}(h:f.s=Ę "guest"):f= .guest:=će .guest h
def Fo.i_count{f:Fo}(h:f.s=Ę "count"):f= .count:=će .count h
def Fo.i_total{f:Fo}(h:f.s=Ę "total"):f= .total:=će .total h
def Fo.i_arms{f:Fo}(h:f.s=Ę "arms"):f= .arms:=će .arms h
def Fo.i_shuts{f:Fo}(h:f.s=Ę "shuts"):f= .shuts:=će .shuts h
def Fo.i_counts{f:Fo}(h:f.s=Ę "counts"):f= .counts:=će .counts h
def Fo.i_weights{f:Fo}(h:f.s=Ę "weights"):Ęl f:=će .weights h
def Fo.i_marks{f:Fo}(h:f.s=Ę "marks"):f= .marks:=će .marks h
def Sk:Ė Fo Th|.word,.s w=>Wd w|.guest,.s w=>Dr w|.count,.n i=>0<=i/\Ąc|.total,.n i=>0<=i/\Ŭ i|.arms,.ws l=>ą9/\l.Nodup/\ĂT 1/\η 4|.shuts,.ws l=>ą9/\l.Nodup/\η 8|.counts,.ns l=>{ćA,0<=i,Ąc}/\ĂT 1/\η 4|.weights,.ns l=>{ćA,1<=i,i<=bg}/\ĂT 1/\η 4|.marks,.ms l=>(∀m∈l,RH m)/\ės/\η 8|_,_=>False
def Vl:Fo->ĀR Th|.word,x,.s w=>w=x|.guest,x,.s w=>w=x|.count,x,.n i=>fj x i|.total,x,.n i=>fj x i|.arms,x,.ws l=>l=eU x|.shuts,x,.ws l=>l=eU x|.counts,x,.ns l=>{Đ9,eU x}|.weights,x,.ns l=>{Đ9,eU x}|.marks,x,.ms l=>{ĀY,ii,eU x}|_,_,_=>False
def DP{b:Type}{R:ĀR b}{f:b->Str}(e:∀x n,R x n->f n=x){d:Zv}{l:ZO}(h:ĀY R d):Ăi f=d:=by induction h with|nil=>rfl|cons h _ a=>rw[kw,e _ _ h,a]
def G4{d:Type}{R:ĀR d}(f:∀x a b,R x a->R x b->a=b){e:Zv}{l:Ϸ}(h:ĀY R e):∀{k:Ϸ},Đ R e k->l=k:=by induction h with|nil=>intro k h;cases h;rfl|cons h _ c=>intro k h2;cases h2 with|cons h2 g=>rw[f _ _ _ h h2,c g]
def RW{b:Type}{R:ĀR b}{f:b->Str}{l:ZO}(h:∀n∈l,R (f n) n):{ĀY,R,Ăi f}:=by induction l with|nil=>rw[Z5]|cons n r a=>show {ē,h n f_,a λm hm=>h m (fy _ hm)}
theorem ii.one{x:Str}{m k:ă8}(h:ii x m)(h2:ii x k):m=k:=by have(a,s,b,_,_,_,_,f):=wK x;have(c,n1):=f m h;have(d,n2):=f k h2;show Prod.ext (Ćn d.symm) (n1.one n2)
def Vl.text:∀{f:Fo}{x:Str}{t:Th},Vl f x t->t.txt=x|.word,_,.s _,h=>h|.guest,_,.s _,h=>h|.count,_,.n _,h=>ü|.total,_,.n _,h=>ü|.arms,x,.ws _,h=>by obtain rfl:=h;show kP x|.shuts,x,.ws _,h=>by obtain rfl:=h;show kP x|.counts,x,.ns l,h=>{āJ,bO Čb=x,DP ěO h,kP x}|.weights,x,.ns l,h=>{āJ,bO Čb=x,DP ěO h,kP x}|.marks,x,.ms l,h=>{āJ,bO ęw=x,DP ěO h,kP x}
theorem Vl.one{f:Fo}{x:Str}{t u:Th}(h:Vl f x t)(k:Vl f x u):t=u:=by
 cases f
 all_goals cases t
 all_goals try rw[ą3,h]
 all_goals cases u
 all_goals try rw[ą3,k]
 ·rw[Ĩ _ _ h,Ĩ _ _ k]
 ·rw[Ĩ _ _ h,Ĩ _ _ k]
 ·rw[fj.one h k]
 ·rw[fj.one h k]
 ·rw[Ĩ _ _ h,Ĩ _ _ k]
 ·rw[Ĩ _ _ h,Ĩ _ _ k]
 ·rw[{ĞF,G4,fj,h.one k,h,k}]
 ·rw[{ĞF,G4,fj,h.one k,h,k}]
 ·rw[{ĞF,G4,ii,h.one k,h,k}]
def RO{i:Int}(h:1<=i/\i<=bg):0<=i/\Ąc:={Ċ9,wj {ČG,Ŕ}}
def RX{l:ZA}(h:{ćA,0<=i,Ąc}):{Đ9,eU (bO Čb)}:={Þ,oz λt a=>by have(i,hi,()):=ĀX;show Na (h i hi).1 (h i hi).2,RW λn hn=>ą (h n hn).2}
def Vl.of:∀{f:Fo}{t:Th},Sk f t->Vl f t.txt t|.word,.s _,_=>()|.guest,.s _,_=>()|.count,.n _,h=>ą Ŕ|.total,.n _,h=>{ą,so (show Ŭ _ by rw[ăB,ü,Ŕ];lia) Ý}|.arms,.ws l,h=>{ĂU,oz,λt a=>(ü t a).pt}|.shuts,.ws l,h=>{ĂU,oz,λt a=>(ü t a).pt}|.counts,.ns l,h=>RX ü|.weights,.ns l,h=>RX λi hi=>RO (ü i hi)|.marks,.ms l,h=>{āJ,{ĀY,ii,eU (bO ęw)},oz λt a=>by have(m,hm,()):=ĀX;show R1 (ü m hm).1 (ü m hm).2,RW λm hm=>{(),(ü m hm).1.free ß,wj (ü m hm).2}}
inductive OT{β:Type}(R:ĀR β)(A:Hp->Ė V β)(ps:Zv)(H':Hp)(i:Nat)(acc:Ú):Prop|mk(l:ĉ β)(h:{ĀY,R,ps.take i})(k:{ĀY,A H',acc})
theorem OT.nil{b:Type}{R:ĀR b}{A:Hp->Ė V b}{d:Zv}{H':Hp}:OT R A d H' 0 []:={[],Þ oi .nil,.nil}
def OT.step{d:Type}{R:ĀR d}{A:Hp->Ė V d}{e:Zv}{g f:Hp}{i:Nat}{b:Ú}{p:Str}{n:d}{v:V}(h:OT R A e g i b)(j:ì e=Ù p)(hn:R p n)(m:A f v n)(o:∀v n,A g v n->A f v n):OT R A e f (i+1) (b++[v]):=by rw[ĞH];show{l++[n],?_,wH {Ĉt,h2,λv n q=>o v n q} (ϋ m)};rw[ý,ov,j,wH h1 (ϋ hn)]
def OT.len{d:Type}{R:ĀR d}{A:Hp->Ė V d}{e:Zv}{H':Hp}{i:Nat}{b:Ú}(h:OT R A e H' i b)(hi:ē5 i):Ėa:=by rw[ĞH];rw[eJ h2,<-eJ h1,j2,gg];lia
def OT.all{e:Type}{R:ĀR e}{A:Hp->Ė V e}{d:Zv}{H':Hp}{i:Nat}{b:Ú}(h:OT R A d H' i b)(hi:ėi i):∃l,ĀY R d/\{ĀY,A H',b}:=by rw[ĞH];rw[g6 hi]at h1;show Ču l
def Q7{b:Ú}{l:ZA}(h:{ĀY,λv(n:Int)=>v=ñ n,b}):b=ĂN:=by induction h with|nil=>rfl|cons h _ a=>rw[h,a];rfl
def GN{i:Nat}{b:St}{x p q:Str}{t u:TS}{D:jx}(h:ϊ=ZY ħ)(k:x=p\/x=q->{ċk,t,u D,b,H})(e:x≠p->x≠q->u D b H):wm (JM (tOr (EN (JL VO (nS i) (tC (á p)))) (EN (JL VO (nS i) (tC (á q))))) t xG) u D b H:={ħ,h,(),{Ċ,ąE=ĵ p},(),Cc (λa=>bE (k ėe)) (λn1=>{ħ,h,(),{Ċ,ąE=ĵ q},(),Cc (λa=>k (æ a)) (λn2=>e n1 n2)})}
def jd{i:Nat}{b:St}{x p:Str}{t u:TS}{D:jx}(h:ϊ=ZY ħ)(k:x=p->{ċk,t,u D,b,H})(e:x≠p->u D b H):wm (JM (EN (JL VO (nS i) (tC (á p)))) t xG) u D b H:={ħ,h,(),{Ċ,ąE=ĵ p},(),Cc (λa=>k a) (λn1=>e n1)}
inductive Pw(K:Zp)(C:Addr)(vs:Ú)(H:Hp)(Q:VK)(E:XK):Prop|mk(f:Fo)(x:Str)(_:vs=[Č8,ħ])(_:ĄF)(_:Rd C (Vl f x) (λH t v=>mB K H t v) H Q E)
section
def Fz(T:ä):aT P w K mg base (lA P w) 4 a.j0.x a.j0.d ćk (Pw K a.c8):=by
 show T.j0.okEc E6 λH vs G h=>?_
 ·have(f,x,(),B,q):=h;show{_,{ZR,fe (aE aQ (Y 0) ak (aG _)) (dI (aE aQ (Y 0) ak (aG _))),ai (az {ZD,Ņ jm,G,T.bN.m,T.bN.f.kp,T.bN.b,ac (Y 1) O}),{ZR,fe (aE aQ (Y 0) ak (aG _)) (dI (aE aQ (Y 0) ak (aG _))),ai (az (bh (du K ()) ĕ T.cX L2.bF (ac (pc T.eI (qj T) G (ac (Y 1) O)) O))),{ZR,fe (aE aQ (Y 0) ak (aG _)) (dI (aE aQ (Y 0) ak (aG _))),ai (az (bh (du K ()) ĕ T.cX L2.bF (ac (Bb ćk Ďf [] [2] (aj og) () () () Ý Ý (bW 2) (eF K () (pc T.eI (qj T) G (ac (Y 1) O))) Am () () {ģF,nO t7 Ďf 2,bL,{Đf,Ņ jm,G,T.bN.m,T.bN.f.kp,T.bN.b,B,ac (Y 2) O}}) O))),ae (aN (aE aQ (Y 0) ak (aG _)) (ai (az (bh (du K ()) ĕ T.cX L2.bF (ac (Bb ćk Ďf [] [2] (aj og) () () () Ý Ý (bW 2) (eF K () (pc T.eI (qj T) G (ac (Y 1) O))) Am () () {ģF,nO t7 Ďf 2,bL,{Đf,Ņ DU,G,T.iS.m,T.iS.f.kp,T.iS.b,B,ac (Y 2) O}}) O)))) aF) (ai (az (Y 1)))}}},?_}
  have L:=An (x:=x);show {ĕj,GN,ĄP,λR S=>?_}
  case refine_1=>
   have j:f= .count\/f= .total:=j.imp Fo.i_count Fo.i_total;show ! é x B {λn v I hn u o=>q.1 (.n n) v I ?_ u o,λr=>ņ ĉ7}
   ·have()||():=j<;>show hn
   ·cases t<;>have()||():=j<;>first|show r _ k|show k
  show {ĕj,GN,ĄP,λX W=>?_}
  case refine_1=>have j:f= .arms\/f= .shuts:=j.imp Fo.i_arms Fo.i_shuts;rw[ç,! é x B ěT,{p,!{ąv,F,λt k=>q.1 (.ws (eU x)) ľ _ ?_ (am u k) {t,(),Ń}}}];have()||():=j<;>rfl
  show {ĕj,GN,ĄP,λM J=>?_}
  case refine_1=>
   have j:f= .counts\/Ęl f:=j.imp Fo.i_counts Fo.i_weights;rw[Će,! é x B ěT,é p {_,å F} Ğa,{čJ,gU,K,p,Ž eU x,{ćB,OT fj (λ_ v n=>v=ñ n) (eU x) H' i c,ao I H'/\H' D=ąD},{.nil,am đ N,af},{å,Ŗ _ _ F},?_}]
   ·rw[ģE,o];have aa:i<ě eU x:=ąQ
    have(z,Q,(),hm):=kx o;have ad:=L.2 z hm;show aB (ij (bE (! é z Ø {λn v H3 hn E o=>{E _ _ g,y.len Ø,lf hi {y.step Q hn o Ăd,bw (ēU E) N,af}},λr=>(ņ ĉ7).to ĘW})));have hh:∃l,{Đ9,eU x}:=by cases t<;>have()||():=j<;>first|show{_,k}|rw[ą3,k]
    have(l,hl):=hh;have(n,_,hn):=ĂS hl i z Q;show r n hn
   ·rw[ģ0,y.all Ü];rw[Ι,Q7,h2];show{D,!{ąv,g,λt k=>q.1 (.ns l) ľ _ ?_ (am ĘW k) {t,(),Ń}}};have()||():=j<;>show h1
  show {ĉT,λh7=>?_}
  ·rw[Ι,Fo.i_marks,e];rw[Će,! é x B ěT,é p {_,å F} Ğa,{čJ,gU,K,p,Ž eU x,{ćB,OT ii (Sl K) (eU x) H' i c,ao I H'/\H' D=ąD},{.nil,am đ N,af},{å,Ŗ _ _ F},?_}]
   ·rw[ģE,o];have aa:i<ě eU x:=ąQ
    have(z,Q,(),hm):=kx o;have ad:=L.2 z hm;show aB (ij (bE (! é z Ø {λn v H3 hn E o=>{E _ _ g,y.len Ø,lf hi {y.step Q hn ?_ ?_,bw (ēU E) N,af}},λr=>(ņ ĉ7).to ĘW})))
    ·have(b,(),hb):=o;show{b,(),Kp.tq {ø,E _ _ g} hb}
    ·intro v n(b,(),hb);show{b,(),Kp.tq {ø,E _ _ g} (þ E hb)}
    have hh:∃l,{ĀY,ii,eU x}:=by cases t<;>first|show{_,k}|rw[ą3,k]
    have(l,hl):=hh;have(n,_,hn):=ĂS hl i z Q;show r n hn
   ·rw[ģ0,y.all Ü];show{D,!{ąv,g,λt k=>q.1 (.ms l) ľ _ h1 (am ĘW k) (R3 (vf (.new k) h2) Ń)}}
  ·have j:f= .word\/f= .guest:=by cases f<;>first|show Ġ|rw[Ċj]|contradiction
   show ! q.1 (.s x) ħ H ?_ đ ();have()||():=j<;>rfl
omit e
def MQ{b:Type}{R:ĀR b}{d:Zv}{l:ZO}(h:ĀY R d):∀n∈l,∃p∈d,R p n:=by induction h with|nil=>show Ģq|cons h _ a=>
  intro n hn;have()||hn:=Ű hn
  ·show{_,f_,h}
  ·have(p,c,e):=a n hn;show{p,fy _ c,e}
def ii.len{x:Str}{m:ă8}(h:ii x m):Œ m.1 x.length:=by have e:=m6 Str.length ü;unfold sM at e;rw[cA,cA]at e;lia
inductive SY(K:Zp)(vs:Ú)(H:Hp)(Q:VK)(_E:XK):Prop|mk(f:Fo)(x:Str)(t:Th)(v:V)(_:vs=[Č8,v])(_:Vl f x t)(_:ĄF)(_:mB K H t v)(_:Yn (Sk f t) Q H)
section
def MZ(T:ä):aT P w K mg base dw 5 a.CY.x a.CY.d ĕP (SY K):=by
 show T.CY.ok Mo λL A outer s H S Q E g h=>?_
 ·have(f,x,t,v,(),c,W,o,q):=h;show{_,(ae (aN (aE aQ (Y 0) ak (aG _)) (ai (az (pc T.eM (gq T) g (ac (Y 1) O)))) aF) (ae (aN (aE aQ (Y 0) ak (aG _)) (ai (az (pc T.kY (xX T) g (ac (Y 1) O)))) aF) (ae (aN (aE aQ (Y 0) ak (aG _)) (ai (az (pc T.fP (gr T) g (ac (Y 1) O)))) aF) (ae (aN (aE aQ (Y 0) ak (aG _)) (ai (az (pc T.kX (xW T) g (ac (Y 1) O)))) aF) (ae (aN (aE aQ (Y 0) ak (aG _)) (ai (az (pc T.lg (xZ T) g (ac (Y 1) O)))) aF) (ae (aN (aE aQ (Y 0) ak (aG _)) (ai (az (pc T.kG (DY T) g (ac (Y 1) O)))) aF) (ae (aN (aE aQ (Y 0) ak (aG _)) (ai (az (pc T.jP (uZ T) g (ac (Y 1) O)))) aF) (ae (aN (cI (Ah j3 j3 ah {Č,aK K (),ac (Y 1) O} (bV T.yj ()))) (ai (az g9)) aF) (ai (az (qd (aE aQ (Y 0) ak (aG _)) (pc T.iL (sG T) g (ac (Y 1) (ac {Č,aK K (),ac (Y 1) O} O))) (pc T.gC (ql T) g (ac (Y 1) (ac {Č,aK K (),ac (Y 1) O} O)))))))))))))),?_}
  have j:=An (x:=x);show {ĉT,λn1=>?_}
  ·rw[Ι,Fo.i_word,e];cases t with|s w=>obtain rfl:=c;rw[Ėp,! é w Ø q]|_=>rw[Ċl]
  show {ĉT,λn2=>?_}
  ·rw[Ι,Fo.i_guest,e];cases t with|s w=>obtain rfl:=c;rw[Ėp,! é w Ø q]|_=>rw[Ċl]
  show {ĉT,λn3=>?_}
  ·rw[Ι,Fo.i_count,e];cases t with|n i=>rw[Ėp,!{i,(),λb u B C=>q b u {ċX,{λh=>(h,c.2,),λh=>ü}} C}]|_=>rw[Ċl]
  show {ĉT,λn4=>?_}
  ·rw[Ι,Fo.i_total,e];cases t with|n i=>rw[Ėp,!{i,(),q}]|_=>rw[Ċl]
  show {ĉT,λX=>?_}
  ·rw[Ι,Fo.i_arms,e];cases t with|ws l=>rw[ĥI,o];show !{p,eU x,(),k,λw I=>{ļ,j.2 w I},q}|_=>rw[Ċl]
  show {ĉT,λZ=>?_}
  ·rw[Ι,Fo.i_shuts,e];cases t with|ws l=>rw[ĥI,o];show !{p,eU x,(),k,λw I=>{ļ,j.2 w I},q}|_=>rw[Ċl]
  show {ĉT,λn7=>?_}
  ·rw[Ι,Fo.i_marks,e];cases t with|ms l=>have c:{ĀY,ii,eU x}:=c;show !{v,l,(),o,ĈO,q};have(p,M,g):=MQ c m hm;rw[Čz,j.2 p M,g.len]|_=>rw[Ċl]
  have D:f= .counts\/Ęl f:=by cases f<;>first|show Ġ|rw[Ċj]|contradiction
  have N:∃l,t= .ns l/\{Đ9,eU x}:=by cases t<;>have()||():=D<;>first|show{_,(),c}|rw[Ċl]
  have(l,(),J):=N;have(p,(),k):=o;have r:{Ď4,ě l.map V.int}:=Ü
  have F:ğ9:=by have:=j.1;rw[<-eJ J];lia
  have G:Sk f (.ns l)->ĂT 1/\η 4:=by have()||():=D<;>show ĒU
  show !{_,l.length,(),ăp k r,_,!{ĥ,oN ĖG Ϝ}}
  rw[ĊO,{_,(),bE (q.no {ĀG,(G z).1,Ø} ϐ)}]
  rw[ĭ,r2 ă,VX ĝn Ϝ]
  rw[ĊO,q.no {ĀG,(G z).2,Ø} ϐ]
  show !{ĥ,Cc Ă7 (λR=>?_)}
  ·rw[Ι,Fo.i_counts,e];show ! !{_,l.length,(),ăp k r,p,l,(),k,F,λb u B C=>q b u {ċX,{λh=>{λi hi=>{h i hi,?_},Ø,Ø},λh i hi=>(ü i hi).1}} C};have(y,_,g):=MQ J i hi;show g.2
  ·have D:Ęl f:=D.resolve_left λe=>R (by rw[e];rfl);subst D;show ! !{_,l.length,(),ăp k r,p,l,(),k,F,λb u B C=>q b u {ċX,{λh=>{h,Ø,Ø},λh=>ü}} C}
omit e
abbrev xr(f:Fo)(x:Str)(t:Th):Prop:=Sk f t/\t.txt=x
inductive Py(K:Zp)(C:Addr)(vs:Ú)(H:Hp)(Q:VK)(E:XK):Prop|mk(f:Fo)(x:Str)(_:vs=[Č8,ħ])(_:ĄF)(_:Rd C (xr f x) (λH t v=>mB K H t v) H Q E)
inductive rp:Ū->Ė ċ Μ|nil:rp [] [] []|cons{f:Fo}{x:Str}{t:Th}{fs:Ū}{xs:Zv}{ts:Μ}(h:xr f x t)(k:rp fs xs ts):rp (f::fs) (x::xs) (t::ts)
def rp.len{fs:Ū}{b:Zv}{d:Μ}(h:rp fs b d):ċx fs.length/\ćv fs.length:=by induction h with|nil=>show Λ|cons _ _ a=>show{m6 (·+1) a.1,m6 (·+1) a.2}
def rp.snoc{fs:Ū}{b:Zv}{d:Μ}{f:Fo}{x:Str}{t:Th}(h:rp fs b d)(k:xr f x t):rp (fs++[f]) (b++[x]) (d++[t]):=by induction h with|nil=>show ϋ k|cons h _ a=>show ē h a
def rp.at_{fs:Ū}{b:Zv}{d:Μ}(h:rp fs b d):∀(i:Nat)(f:Fo)(x:Str),ì fs=Ù f->ϊ=ù->∃t,xr f x t:=by induction h with|nil=>show λi f x e=>nomatch e|cons h _ j=>intro i g y a c;cases i with|zero=>rw[Ι,i_,a];rw[Ι,i_,c];show{_,h}|succ i=>show j i g y a c
inductive ThI(K:Zp)(fs:Ū)(xs:Zv)(H':Hp)(i:Nat)(acc:Ú):Prop|mk(ts:Μ)(h:rp (fs.take i) (xs.take i) ts)(k:{Đ,mB K H',ts,acc})
def Du{b:Μ}{d:Ú}(e:Kp H H')(h:{Đ,mB K H,b,d}):{Đ,mB K H',b,d}:=oA (λ_ _ h=>h.kp e) h
def WF(K:Zp)(H:Hp)(b:Μ)(v:V):Prop:=∃l a,v=ž/\H l=ò a/\{Đ,mB K H,b,a}
inductive Dw(K:Zp)(C:Addr)(vs:Ú)(H:Hp)(Q:VK)(E:XK):Prop|mk(ft wl:Addr)(fs:Ū)(xs:Zv)(_:vs=[â ft,â wl])(_:bj K H ft Ęb)(_:aZ K H wl (Ş xs.map))(_:ĖU 10)(_:ěv)(_:Rd C (rp fs xs) (WF K) H Q E)
section
def BO(T:ä):aT P w K mg base (lA P w) 6 a.gm.x a.gm.d ćk (Py K a.c8):=by
 show T.gm.okEc rW λH y c h=>?_
 ·have(f,x,(),l,q):=h;show{_,(ae (bd 2 rW.nd {ZD,Ņ Fz,c,T.j0.m,T.j0.f.kp,T.j0.b,ac (Y 0) (ac (Y 1) O)}) (ae (aR {ČH,c,ac (pc T.CY (MZ T) c (ac (Y 0) (ac (Y 2) O))) O}) (ai (az (Y 2))))),?_}
  rw[ĭ,! !{f,x,(),l,{λt v z e n o=>aB ?_,λg=>ņ λt p=>g t (p.2▸Vl.of ę)}},! !{f,x,t,v,(),e,l,o,λb s r i=>{é,b,λh=>ă,Ϝ}}]
  ·show q.1 t v s {r.mp h,e.text} (n.trans i) (ė o.kp i)
  ·show(ņ λu j=>?_).to (n.trans i);have k:Vl f x u:=j.2▸Vl.of j.1;rw[Ι,k.one,e];rw[ĀO,r.mpr j.1,h]
def kS(T:ä):aT P w K mg base (lA P w) 7 a.cr.x a.cr.d ēt (Dw K a.c8):=by
 show T.cr.okEc zC λH vs X h=>?_
 ·have(Z,wl,fs,e,(),J,hW,hl,L,q):=h;have e1:fs.length={čg,fs.map Fo.s}:=Ü
  have e2:ċy (ċg).length:=Ü
  show{_,(ae (aR {ČH,X,ac (bQ aQ {Č,aK K (),ac (Y 1) O} {Č,aK K (),ac (Y 0) O} (aG _)) O}) (ai (az (Bb ēt ĜO [] [2,3] (aj mi) () () () Ý Ý (A3 _ 2 3) (IE K () () T.RZ (ac (Y 0) (ac (Y 1) O))) Am () () (λcl C s₀ H₀ ex xe u=>{(jk K () () (b7 (nO mE ĜO 2) (b7 (nO mE ĜO 3) jj))),bL,{Đf,Ņ BO,X,T.gm.m,T.gm.f.kp,T.gm.b,u,ac (Y 2) (ac (Y 3) O)}}))))),?_}
  rw[ç,!{_,e.length,(),à {_,hW,e2},!{_,fs.length,(),ăp J e1,(),?_}},é {Ċ,{ñ,ş e.length}={ñ,ş fs.length}} Ϝ λh=>ņ λA k=>y2 h (Ź k.len.1)];have M:ċy fs.length:=ļ {ĒH,kl h}
  rw[ĭ,! !{Z,wl,_,ċg,(),J,?_},C9 (K:=K) (a:=Z) (l:=wl) (xs:=Ęb) (ys:=ċg) (λD i c H'=>ThI K fs e H' i c/\ao H H'/\H' D=ąD) (à hW) (λD B=>{{[],Ŝ oi oi .nil,.nil},am đ B,af}) (by rw[<-e1,<-e2,M]) (λD i c H' h=>{þ Ŗ J,Ŗ}) ?_ ?_]
  ·intro D i x y c n E B u hy((A,p,F),G,g)N;rw[ĉk,u];have(f',Q,(),_):=kx u;have(f,hf,(),_):=kx Q;have(z,hz,(),R):=kx hy;have j:=š [Č8,į] n N;have r:aJ n E {ň,[Č8,į]} E=ĝ [Č8,į]:=af;generalize Ō n E [Č8,į]=H2 at j r⊢;rw[ĭ,{E,!{é,Ł r,_,! aB {_,! aB {ą,ij (bE ?_)}}}},! !{f,z,(),L z R,{λt v H3 k I hv=>{{ă6,I} _ _ g,?_,lf hi {{A++[t],?_,?_},bw (G.trans (ă6 I)) B,af}},λS=>(ņ λaa W=>?_).to (G.trans j)}}]
   ·rw[<-eJ F,p.len.2,j2,gg];lia
   ·rw[ov,ov,hf,hz];show p.snoc k
   ·show Du {ø,{ă6,I} _ _ g} (CG (Du {υ,ă6 I} F) (ϋ hv))
   ·have(t,k):=W.at_ i f z hf hz;show S t k
  ·intro D c n B((A,p,F),G,g);rw[g6 Ü,g6 (by simp;lia)]at p;show q.1 A _ n p G {D,c,(),g,F}
omit e
noncomputable def Ru.toks:Ru->ċ|.any=>["any"]|.has w=>["has",w]|.least w n=>["least",w,bR n]|.not q=>"not"::q.toks|.both q r=>"both"::ėY|.either q r=>"either"::ėY
def Ru.toks_ne(r:Ru):r.toks≠[]:=by cases r<;>show nofun
def fB(x y z:Str):x++y++z=x++(y++z):=jU (by rw[bK,bK,bK,bK,me])
theorem nE(z:Str):∀{xs ys:Zv},xs≠[]->ys≠[]->{ăh,xs++ys}=ăh xs++(z++ăh ys)|[],_,h,_=>ť () h|[x],[],_,h=>ť () h|[x],y::r,_,_=>by have a:{ăh,[x]++y::r}={ZE,z,[x]++y::r}:=p_ _ _;have b:ĆH y r={ZE,z,y::r}:=p_ _ _;rw[a,b];rw[ēf,x++z++{ZE,z,y::r}=x++(z++{ZE,z,y::r}),fB]|x::y::r,ys,_,h=>by have c:=nE z (xs:=y::r) (ys:=ys) (nofun) h;have a:{ăh,x::y::r++ys}={ZE,z,x::y::r++ys}:=p_ _ _;have b:{ĆH,x,y::r}={ZE,z,x::y::r}:=p_ _ _;have d:{ăh,y::r++ys}={ZE,z,y::r++ys}:=p_ _ _;have e:ĆH y r={ZE,z,y::r}:=p_ _ _;rw[d,e]at c;rw[a,b];change x++z++{ZE,z,y::r++ys}=x++z++{ZE,z,y::r}++_;rw[c,fB (x++z)]
def kh(z x:Str){ys:Zv}(h:ys≠[]):ĆH x ys=x++(z++ăh ys):=nE z (xs:=[x]) (nofun) h
theorem Ru.txt_toks:∀r:Ru,r.txt=ğ r.toks|.any=>()|.has _=>()|.least _ _=>()|.not q=>by change ğ ["not",q.txt]={ğ,"not"::q.toks};rw[ďC kh " " "not" [q.txt],kh _ _ q.toks_ne,<-q.txt_toks];rfl|.both q r=>by change ğ ĝK={ğ,"both"::ėY};rw[ďC kh " " "both" [q.txt,r.txt],ďC kh " " q.txt [r.txt],kh _ _ {ÿ,q.toks_ne,(D_.mp z).1},nE _ q.toks_ne r.toks_ne,<-q.txt_toks,<-r.txt_toks];rfl|.either q r=>by change ğ ĝh={ğ,"either"::ėY};rw[ďC kh " " "either" [q.txt,r.txt],ďC kh " " q.txt [r.txt],kh _ _ {ÿ,q.toks_ne,(D_.mp z).1},nE _ q.toks_ne r.toks_ne,<-q.txt_toks,<-r.txt_toks];rfl
def fO{x:Str}{c:Nat}(h:{ĉv,c∈x.cps.toList}):iQ c x:=λz=>by rw[ĀO,ji z,h]
def jy(l:Addr)(H H':Hp):Prop:={ê,H b=Û,ú l->H' b=Û}
def jy.refl(l:Addr)(H:Hp):jy l H H:=λ_ _ e _=>e
def jy.trans{l:Addr}{H d f:Hp}(a:jy l H d)(b:jy l d f):jy l H f:=λc o e n=>b c o (a c o e n) n
def jy.same{l:Addr}{H d f:Hp}(a:jy l H d)(b:ao d f):jy l H f:=λc o e n=>b c o (a c o e n)
def jy.upd{l:Addr}{o:HO}:jy l H (aJ H l o):={ĄA,ay n,e}
def jy.kp{l:Addr}{b:Ú}(a:jy l H H')(d:H l=ăs):Kp H H':={λu b h=>a u _ h (λz=>Ēm z d h),λu o⟨c,h⟩=>{c,a u _ h (λz=>Ēm z d h)}}
def Ru.Nb:Ĵ Ru|.any=>True|.has _=>True|.least _ n=>{ĉK,10^60}|.not q=>q.Nb|.both q r=>q.Nb/\r.Nb|.either q r=>q.Nb/\r.Nb
def Ru.toks_inj{q:Ru}:∀{r:Ru}{a b:Zv},q.Nb->r.Nb->q.toks++a=r.toks++b->q=r/\a=b:=by induction q with
 |any=>intro r a b _ _ e;cases r with|any=>show ą (il e).2|_=>rw[ăj,il e]
 |has w=>intro r a b _ _ e;cases r with|has v=>have(h,c):=il (il e).2;show{Ź h,c}|_=>rw[ăj,il e]
 |least w n=>intro r a b h1 h2 e;cases r with|least v m=>have(h,c):=il (il e).2;have(g,i):=il c;have:n=m:=fj.one (x:=bR n) (ą h1) (g.symm,h2,);show{Ē h this,i}|_=>rw[ăj,il e]
 |not q j=>intro r a b h1 h2 e;cases r with|not r=>have((),c):=j (r:=r) h1 h2 (il e).2;show ą c|_=>rw[ăj,il e]
 |both q p d f=>intro r a b h1 h2 e;cases r with|both r s=>have e:=(il e).2;rw[YF,YF,me,me]at e;have((),c):=d h1.1 h2.1 e;have((),g):=f h1.2 h2.2 c;show ą g|_=>rw[ăj,il e]
 |either q p d f=>intro r a b h1 h2 e;cases r with|either r s=>have e:=(il e).2;rw[YF,YF,me,me]at e;have((),c):=d h1.1 h2.1 e;have((),g):=f h1.2 h2.2 c;show ą g|_=>rw[ăj,il e]
def in3{w:Str}:Ĉq ăg [ZW,ZC,ZB]↔w="not"\/w="both"\/w="either":=by have h:∀x:Str,ķ O5 ħ ăg↔w=x:=λx=>(show Ξ x w↔w=x from YP.trans eq_comm);unfold mI;simp only[vl,List.any_nil,Bool.or_false,XQ,h]
def XO(C l:Addr)(H:Hp)(E:XK):Prop:={Ćx,jy l H H',ŋ}
def XO.to{C l:Addr}{H b:Hp}{E:XK}(h:XO C l H E)(o:jy l H b):XO C l b E:=λH' a=>h H' (đX a)
def XO.x{C l:Addr}{H b:Hp}{E:XK}(h:XO C l H E)(o:jy l H b):XC C b E:=λH' s=>h H' (o.same s)
def Tk(n:Nat)(b:Zv)(r:Ru)(c5:Zv):Prop:=b=r.toks++c5/\ćf n/\r.Nb
inductive GH(C:Addr)(vs:Ú)(H:Hp)(Q:VK)(E:XK):Prop|mk(l:Addr)(xs:Zv)(_:vs=ŝ l)(_:H l=Ăo xs.map)(_:ĜT)(_:(∀w us,xs=w::us->Q ăg {ĀE,Ş us.map}))(_:(xs=[]->XC C H E))
inductive nV(K:Zp)(C:Addr)(n:Nat)(vs:Ú)(H:Hp)(Q:VK)(E:XK):Prop|mk(l:Addr)(xs:Zv)(_:vs=[ž,{ã,ş n}])(_:H l=Ăo xs.map)(_:ĜT)(_:ěv)(_:(∀r c5 rv H',Tk n xs r c5->jy l H H'->H' l=Ăo c5.map->eV K H' r rv->Q rv H'))(_:((∀r c5,¬Tk n xs r c5)->XO C l H E))
def UW(K:Zp)(C:Addr):ξ Sp|0=>ģG|n+1=>nV K C n
def UW.mk{C:Addr}{n:Nat}{b:Ú}{Q:VK}{E:XK}(h:nV K C n b H Q E):UW K C (n+1) b H Q E:=h
section
def kr(T:ä):aT P w K mg base (lA P w) 2 a.cF.x a.cF.d ċf (GH a.c8):=by
 show T.cF.okEc DA ĥJ
 ·have(l,j,(),c,hn,q,e):=h;show{_,(ae (aR {ČH,i,ac (bQ qg {Č,aK K (),ac (Y 0) O} ah (aG _)) O}) (ai (az {č8,cg,K,(),PySem.F.slot_list_pop,PySem.F.type_list_pop,No,Y 0,ac ah O}))),?_}
  cases j with|nil=>show !{_,0,(),à {_,å c,()},_,!{ą,é {Ċ,Ď 0>0} {ą0,kl h,Ø} λ_=>e ()}}|cons x g=>rw[ç,!{_,g.length+1,(),à {_,å c,Ü},_,!{ą,é {Ċ,{Ď,g.length+1}>0} ĺ {ą0,y2 h,Ø}}},!{à {(),_,å c},l,_,0,0,!{(),c,ß,ß,?_,(),q x g ()}}];change seqIndex? 0 ((Ş g.map).length+1)=Ù 0;unfold seqIndex?;simp
theorem uV(T:ä):∀n:Nat,aT P w K mg base (lA P w) (n+2) a.cZ.x a.cZ.d ["words","depth"] (UW K a.c8 n)
 |0=>by
  show T.cZ.f.okE je ĔL Ġr
  ·rw[ą3,h]
  ·rw[ą3,h]|n+1=>by
  rw[ęb,uV T n,T.cZ.f.okE je ĔL Ġr]
  ·have(l,xs,(),_):=(show nV K a.c8 n vs H Q E from h);rfl
  ·have(l,xs,(),hL,hn,hx,q,e):=(show nV K a.c8 n vs H Q E from h);show{_,(ae (aR {Ěs,{Ąx,dJ,by first|decide|lia},g,ac (bQ qg (Y 1) ah (aG _)) O}) (ae (bd 2 je.nd {ęv,{Ąx,kr,by first|decide|lia},g,T.cF.m,T.cF.b,ac (Y 0) O}) (ae (aN (aE aQ (Y 2) ak (aG _)) (ai (az (bo (ac (Y 2) O)))) aF) (ae (aN (aE aQ (Y 2) ak (aG _)) (ai (az (bo (ac (Y 2) (ac {ęv,{Ąx,kr,by first|decide|lia},g,T.cF.m,T.cF.b,ac (Y 0) O} O))))) aF) (ae (aN (aE aQ (Y 2) ak (aG _)) (ae (bd 3 je.nd {ęv,{Ąx,kr,by first|decide|lia},g,T.cF.m,T.cF.b,ac (Y 0) O}) (ai (az (bo (ac (Y 2) (ac (Y 3) (ac {ZD,{Ąx,jm,by first|decide|lia},g,T.bN.m,T.bN.f.kp,T.bN.b,ac {ęv,{Ąx,kr,by first|decide|lia},g,T.cF.m,T.cF.b,ac (Y 0) O} O} O))))))) aF) (ae (aR {Ěs,{Ąx,dJ,by first|decide|lia},g,ac (bQ (qf K ()) (Y 2) (bo (ac ak (ac ak (ac ak O)))) ąV) O}) (ae (bd 4 je.nd {ZD,ih,g,T.cZ.m,T.cZ.f.kp,T.cZ.b,ac (Y 0) (ac (au gp (Y 1) ah) O)}) (ae (aN (aE aQ (Y 2) ak (aG _)) (ai (az (bo (ac (Y 2) (ac (Y 4) O))))) aF) (ai (az (bo (ac (Y 2) (ac (Y 4) (ac {ZD,ih,g,T.cZ.m,T.cZ.f.kp,T.cZ.b,ac (Y 0) (ac (au gp (Y 1) ah) O)} O)))))))))))))),?_}
   show ! r2 {é,{Ċ,ϩ>0},ĉ0,λh0=>(e čy).x (jy.refl l H)}
   case refine_2=>rw[Ďk,y2 h0,r.hgt_pos,g.2.1];lia
   have h1:=kl h0;obtain⟨m,rfl⟩:∃m,n=m+1:={n-1,Ø};have hd:{Ď,m+1}-1=ą1:=Ø
   show !{l,xs,(),hL,hn,λx F av=>aB ?_,λe0=>(e čy).x (jy.refl l H)}
   case refine_2=>rw[Āj,g.1,e0];show r.toks_ne (D_.mp this.symm).1
   subst av;have W:jy l H (ĀE ğ7):= .upd;have I:aJ H l (ø ğ7) l=Ăo F.map:=af;generalize ĀE ğ7=H1 at W I⊢;have M:ē5 F.length:=by rw[ig]at hn;lia
   have ad:∀x∈F,ĄF:=λy hy=>hx y (fy _ hy);show {ċj,jd,x,ėz,λn1=>?_}
   ·subst ew;rw[ö,!{ls (),ĉ7},q .any F _ _ {(),r_ (ku _),trivial} (W.same (am đ k)) {Þ,ay (aI I k),I} (.any Ń)]
   show {ċj,jd,x,ėz,λn2=>?_}
   ·subst ew;show ! !{l,F,(),I,M,λx2 j ex=>?_,λe0=>(e čy).x W}
    ·subst ex;have L:={ēx,Ĝb ėA H1};have D:aJ H1 l ėA l=Ăo j.map:=af;rw[ö,{ls (),ĉ7},q (.has x2) j _ _ {(),r_ (ku _),trivial} {ďM,am đ k} {Þ,ay (aI D k),D} (.has Ń)]
    ·subst e0;have h2:=g.1;cases r with|has v=>show nomatch(il h2).2|_=>rw[ăj,il h2]
   show {ċj,jd,x,ėz,λn3=>?_}
   ·subst ew;have u:∀{H2:Hp},jy l H H2->(∀x2 z c5 n,F=x2::z::c5->¬fj z n)->XC a.c8 H2 E:=λL u=>(e λr c5 g=>by have h2:=g.1;cases r with|least v n=>show u v (bR n) c5 n (il h2).2 (ą g.2.2)|_=>rw[ăj,il h2]).x L
    rw[Ďy,!{l,F,(),I,M,λx2 j ex=>aB ?_,λe0=>u W λx2 z c5 n ez=>by rw[e0]at ez;show nomatch ez}];have L:={ēx,Ĝb ėA H1};have D:aJ H1 l ėA l=Ăo j.map:=af;generalize ń H1 l ĕr=H2 at L D⊢;rw[Ďy,! ! !{l,j,(),D,by rw[ig]at M;lia,λx3 J ex=>?_,λe0=>u L λx2 z c5 n ez=>by rw[e0]at ez;show nomatch(il ez).2}];have N:=L.trans {Ĝb,ø ğ8,H2};have B:aJ H2 l (ø ğ8) l=Ăo J.map:=af;generalize ń H2 l ğ8=H3 at N B⊢;show{é,x3,ad x3 Ü,{λz v H4 hz s4 hv=>?_,λhz=>u N λy z c5 n ez=>?_}}
    ·subst hv;rw[ö,{ls (),ĉ7},q (.least x2 z) J _ _ {by rw[<-hz.1];rfl,r_ (ku _),hz.2} (N.same (am s4 k)) {Þ,ay (aI (s4 _ _ B) k),s4 _ _ B} (.least Ń)]
    ·have e2:=(il (il ez).2).1;rw[π,e2,hz n]
   have X:∀r c5,Tk (m+1) (x::F) r c5->∃p c,Tk m F p c/\(x="not"\/∃C,Tk m c C c5):=by intro r c5 g;have h1:=g.1;cases r with|any=>rw[Ā,(il h1).1,n1]|has v=>rw[Ā,(il h1).1,n2]|least v n=>rw[Ā,(il h1).1,n3]|not p=>show{p,c5,{(il h1).2,Nat.le_of_succ_le_succ g.2.1,g.2.2},à (il h1).1}|both p C=>have hh:={ćI,D7,max p.hgt C.hgt+1<=m+1,g.2.1};show{p,C.toks++c5,{{è,(il h1).2,me _ _ _},hh.1,g.2.2.1},{æ,é C hh.2 g.2.2.2}}|either p C=>have hh:={ćI,D7,max p.hgt C.hgt+1<=m+1,g.2.1};show{p,C.toks++c5,{{è,(il h1).2,me _ _ _},hh.1,g.2.2.1},{æ,é C hh.2 g.2.2.2}}
   have ag:∀r c5,Tk (m+1) (x::F) r c5->x="not"\/x="both"\/x="either":=by intro r c5 g;have h1:=g.1;cases r with|any=>rw[Ā,(il h1).1,n1]|has v=>rw[Ā,(il h1).1,n2]|least v n=>rw[Ā,(il h1).1,n3]|not p=>rw[ţ,(il h1).1]|both p C=>rw[Ĉ,à (il h1).1]|either p C=>show θ (il h1).1
   show !{ls (),λt3 ax=>?_};have s2:=š [ZW,ZC,ZB] H1 ax;show{t3,! ċT ĘC {é,mI ħ [ZW,ZC,ZB],λhk=>?_,λhk=>(e čy).x (W.same s2)}}
   case refine_2=>rw[in3.mpr (ag r c5 g)]at hk;cases hk
   have hk:=in3.mp hk;have D:=s2 _ _ I;generalize Ō H1 t3 [ZW,ZC,ZB]=H2 at s2 D⊢;have L:=W.same s2;show ! ! r2 (UW.mk {l,F,{ČB,[ϫ l,{ñ,{Ď,m+1}-1}]=_},D,M,ad,λp c v1 H3 i N B al=>aB ?_,λu=>(e čy).to L})
   case refine_2=>have(p,c,h1,_):=X r c5 g;show u p c h1
   have N:=L.trans N;show {ċj,jd,x,ėz,λn4=>?_}
   ·subst ew;rw[ö,! !{ls (),ĉ7},q (.not p) c _ _ {by rw[i.1];rfl,r_ i.2.1,i.2.2} (N.same (am đ k)) {Þ,ay (aI B k),B} (.not Ń (al.kp (.new k)))]
   have Z:ē5 c.length/\∀y∈c,ĝL:=by have h4:=đH m6 i.1;rw[gV]at h4;show{Ċ9,λy hy=>ad y {Þ,i.1,Čp hy}}
   show ! ! ! ! r2 (UW.mk {l,c,{ČB,[ϫ l,{ñ,{Ď,m+1}-1}]=_},B,Z.1,Z.2,λC G v2 H4 R o4 S an=>?_,λu=>(e čy).to N})
   case refine_2=>have(p1,r1,h1,h2):=X r c5 g;have((),()):=Ru.toks_inj h1.2.2 i.2.2 (h1.1.symm.trans i.1);have(C,h2):=h2.resolve_left n4;show u C c5 h2
   have aa:max p.hgt C.hgt+1<=m+1:=r_ (Nat.max_le.mpr (i.2.1,R.2.1,));have ap:F=p.toks++C.toks++G:=ĀU i.1 R.1 me
   show{ls (),ĉ7};have o5:=(N.trans o4).same {š,[ħ,v1,v2],_,k};have()||():=hk.resolve_left n4
   ·show q (.both p C) G _ _ {by rw[ap];rfl,aa,i.2.2,R.2.2} o5 {Þ,ay (aI S k),S} (.both Ń ((al.kp (o4.kp B)).kp (.new k)) (an.kp (.new k)))
   ·show q (Či p C) G _ _ {by rw[ap];rfl,aa,i.2.2,R.2.2} o5 {Þ,ay (aI S k),S} (.either Ń ((al.kp (o4.kp B)).kp (.new k)) (an.kp (.new k)))
omit e
def Ru.words_toks{r:Ru}:ěS w r.toks:=by induction r with|any=>show Ģy|has v=>show λw h=>fy _ h|least v n=>intro w h;rw[ó,Ň h,fy _ f_]|not q c=>show λw h=>fy _ (c w h)|both q r a b=>show λw h=>fy _ ({Ăp,h} (λz=>Ĕe {à,a w z}) λz=>{Čp,b w z})|either q r a b=>show λw h=>fy _ ({Ăp,h} (λz=>Ĕe {à,a w z}) λz=>{Čp,b w z})
def Ru.Fm.nb{r:Ru}:r.Fm->r.Nb:=by induction r with|any=>show Ĝ9|has _=>show Ĝ9|least _ _=>show λh=>wj Ŕ|not _ c=>show c|both _ _ a b=>show λh=>{a ü,b Ŕ}|either _ _ a b=>show λh=>{a ü,b Ŕ}
def xu(b:Zv)(r:Ru):Prop:=b=r.toks/\ąI/\r.Good
def jy.free{l:Addr}{H d H':Hp}(s:ao H d)(hn:H l=none)(o:jy l d H'):ao H H':=λb ob e=>o b ob (s b ob e) (ĉH hn)
inductive ER(K:Zp)(C:Addr)(vs:Ú)(H:Hp)(Q:VK)(E:XK):Prop|mk(wl:Addr)(xs:Zv)(_:vs=ŝ wl)(_:aZ K H wl (Ş xs.map))(_:ĜT)(_:ěv)(_:Rd C (xu xs) (λH r v=>eV K H r v) H Q E)
section
def kT(T:ä):aT P w K mg base (lA P w) 11 a.bT.x a.bT.d ċf (ER K a.c8):=by
 show T.bT.okEc iH λH M c h=>?_
 ·have(E,e,(),F,hn,y,q):=h;show{_,(ae (bd 1 iH.nd (bh (tX K ()) ĕ T.D3 L2.rh (ac (Y 0) O))) (ae (bd 2 iH.nd {ZD,(uV T 7).mono ß,c,T.cZ.m,T.cZ.f.kp,T.cZ.b,ac (Y 1) (ac (bV T.qF ()) O)}) (ae (aR {ČH,c,ac (cV (bQ aQ {Č,aK K (),ac (Y 1) O} ah (aG _)) (d9 (pc T.oO (Aq T) c (ac (Y 2) O)))) O}) (ai (az (Y 2)))))),?_}
  show !{E,!{à F,λl k=>aB ?_}};have n:=ZI ċg H k;have A:aJ H l (ø ċg) l=Ăo e.map:=af;generalize ĀE ċg=N at n A⊢;show ! UW.mk {l,e,(),A,hn,y,λr c5 B Q i G s j=>aB ?_,λt H' I=>?_}
  rw[ĊO,ņ (λr c=>t r [] {Þ l_ c.1,c.2.1,c.2.2.1.nb}) H' (jy.free n k I)]
  have u:=jy.free n k G;have only:∀p,xu e p->p=r/\c5=[]:=λp g=>by have h2:=Ru.toks_inj (a:=[]) (b:=c5) g.2.2.1.nb i.2.2 (by rw[l_,<-g.1,i.1]);show(h2.1,h2.2.symm,)
  show !{_,c5.length,(),à {_,å s,Ü},(),! kz Ϝ Ϝ}
  ·obtain rfl:c5=[]:=ĆC Ø;have C:e=r.toks:=Ē i.1 l_
   show !{r,B,(),j,i.2.1,λw J=>?_,λb L D v=>{é,b,λh2=>ă,ĝn}}
   ·rw[Š,y w {Þ,C,r.words_toks w J}]
   ·show q.1 r B L {C,i.2.1,D.mp h2} (ĜX v) (ė j.kp v)
   ·show(ņ λp g=>?_).to (ĜX v);have((),_):=only p g;rw[D.mpr g.2.2]at h2;cases h2
  ·show{é,false,ϳ hH,λ_=>(ņ λp g=>?_).to u};have(_,()):=only p g;show h ()
omit e
inductive sV:ĀR Ū|layer:sV "layer" ĉ2|share:sV "share" ĜM|deal:sV "deal" [.word,.total,.weights]|hold:sV "hold" ĉ2|pause:sV "pause" ă0|go:sV "go" ă0|close:sV "close" ă0|bar:sV "bar" ĝD|visit:sV "visit" đI
def sV.at{mg:Zs}(T:ä){k:Str}{fs:Ū}(h:sV k fs):∃t,ĄY k=Ϲ/\xC K t Ęb:=by cases h with|layer=>show T.AO|share=>show T.AM|deal=>show T.Ca|hold=>show T.B9|pause=>show T.AN|go=>show T.FU|close=>show T.AQ|bar=>show T.Ea|visit=>show T.AK
def sV.facts{k:Str}{fs:Ū}(h:sV k fs):ėq k/\ĖU 3/\1<=fs.length:=ĕE h {Ý,ß,ß}
noncomputable def kfT:ĒY:=[("layer",ĉ2),("share",ĜM),("deal",[.word,.total,.weights]),("hold",ĉ2),("pause",ă0),("go",ă0),("close",ă0),("bar",ĝD),("visit",đI)]
def sV.kfl{k:Str}{fs:Ū}(h:sV k fs):ĖW k kfT=Ù fs:=Ģd h
def sV.one{k j:Str}{fs gs:Ū}(h:sV k fs)(g:sV j gs)(e:j=k):fs=gs:=by rw[ŧ,i_ (h.kfl.symm.trans g.kfl)]
abbrev Ei:ċ:=["layer","trial","share","deal","hold","pause","go","close","bar","visit"]
def sV.of{k:Str}(h:k∈Ei):k="trial"\/∃fs,sV k fs:=by
 simp only[q_,n6,E1]at h;have()||()||()||()||()||()||()||()||()||():=h
 ·rw[Ĉ,{_,.layer}]
 ·show Ġ
 ·rw[Ĉ,{_,.share}]
 ·rw[Ĉ,{_,.deal}]
 ·rw[Ĉ,{_,.hold}]
 ·rw[Ĉ,{_,.pause}]
 ·rw[Ĉ,{_,.go}]
 ·rw[Ĉ,{_,.close}]
 ·rw[Ĉ,{_,.bar}]
 rw[ϛ,{_,.visit}]
def sV.mem{k:Str}{fs:Ū}(h:sV k fs):k∈Ei:=ġx h
inductive HW where|plain(k:Str)(ths:Μ)|trial(n l:Str)(as ss:Zv)(r:Ru)
noncomputable def HW.txt:HW->Str|.plain k a=>{ğ,k::a.map Th.txt}|.trial n l b c r=>ğ {Ċ4,n,l,bO b,bO c}
def Lj(K:Zp)(H:Hp):Ė HW V|.plain k a,v=>∃p b,v=ł/\bj K H p (á k::b)/\{ąn,mB K H}|.trial n l f g r,v=>∃p c d e,v=ł/\bj K H p [Āl,Z9,āu,c,d,e]/\mB K H (.ws f) c/\mB K H (.ws g) e/\eV K H r d
theorem Lj.kp(e:Kp H H'):∀{d:HW}{v:V},Lj K H d v->Lj K H' d v|.plain _ _,_,⟨p,a,h1,h2,h3⟩=>{p,a,h1,ąc,Du e h3}|.trial _ _ _ _ _,_,⟨p,b,c,f,h1,h2,h3,h4,g⟩=>{p,b,c,f,h1,ąc,h3.kp e,h4.kp e,g.kp e}
abbrev Sy:Ū:=[.word,.word,.arms,.shuts]
inductive mH:Ė ċ HW|plain{k:Str}{fs:Ū}{xs:Zv}{ths:Μ}(h:sV k fs)(t:rp fs xs ths):mH (k::xs) (Ϡ k ths)|trial{n l:Str}{as ss xs toks:Zv}{r:Ru}(t:rp Sy xs [.s n,.s l,.ws as,.ws ss])(h:xu toks r):mH {ēs,xs++toks} (.trial n l as ss r)
def mH.inv{g:Zv}{d:HW}(h:mH g d):∃k f,g=k::f/\k∈Ei/\(ėq k->∃fs b,sV k fs/\rp fs f b/\d=Ϡ k b)/\(k="trial"->∃n l i j m toks r,f=m++toks/\rp Sy m [.s n,.s l,.ws i,.ws j]/\xu toks r/\d= .trial n l i j r):=by cases h with|plain h t=>show{_,!{h.mem,λ_=>{_,_,h,t,()},λe=>ť e h.facts.1}}|trial t h=>show{_,!{Ý,λe=>ť () e,λ_=>{_,_,_,_,_,_,!{t,h,()}}}}
set_option tactic.hygienic true in
def JI{i:Zv}{e:Μ}(h:rp Sy i e):∃n l b d,e=[.s n,.s l,.ws b,.ws d]:=by cases h with|cons h1 h=>cases h with|cons h2 h=>cases h with|cons h3 h=>cases h with|cons h4 h=>
     cases h;rename_i a _ c _ f _ g;have j:∃n,a= .s n:=by cases a<;>first|show ĸ|rw[ą3,h1.1]
     have k:∃n,c= .s n:=by cases c<;>first|show ĸ|rw[ą3,h2.1]
     have m:∃n,f= .ws n:=by cases f<;>first|show ĸ|rw[ą3,h3.1]
     have o:∃n,g= .ws n:=by cases g<;>first|show ĸ|rw[ą3,h4.1]
     have(n,()):=j;have(l,()):=k;have(b,()):=m;have(d,()):=o;show{n,l,b,d,()}
def Wz(a:V)(b:Ú):ki (a::b) Ą2 (Ù 5)=Ĉ1 4:=by unfold ki HT.ib;simp;lia
def WA(a:V)(b:Ú):ki (a::b) (Ù 5) none=ĉL 4:=by
 unfold ki HT.ib;simp;rw[g6 Ü]
 by_cases h:4<=b.length
 ·rw[Zk Ø];rfl
 ·rw[Y8 Ø,Ym Ü,Ym Ø]
def VU{n l:Str}{b d:Zv}{e:Ú}(h:{Đ,mB K H,[.s n,.s l,.ws b,.ws d],e}):∃f g,e=[Z9,āu,f,g]/\mB K H (.ws b) f/\mB K H (.ws d) g:=by cases h with|cons h1 h=>cases h with|cons h2 h=>cases h with|cons h3 h=>cases h with|cons h4 h=>cases h;rw[ą6,h1,h2,{_,!(h3,h4,)}]
inductive GJ(K:Zp)(C:Addr)(vs:Ú)(H:Hp)(Q:VK)(E:XK):Prop|mk(x:Str)(_:vs=āv)(_:ĄF)(_:Rd C (mH āV) (Lj K) H Q E)
def Vg{d:Type}{b toks:Ϸ}(h:ċx 4):(b++toks).take 4=b/\(b++toks).drop 4=toks:=Ă h (List.take_left,List.drop_left,)
section
def DV(T:ä)(hw:ćt):aT P w K mg base (lA P w) 12 a.iU.x a.iU.d ĂW (GJ K a.c8):=by
 show T.iU.okEc kn ĤM
 ·have(x,(),hx,q):=h;show{_,(ae (bd 1 kn.nd {ěJ,cg,K,(),AG,Y 0,ac ak O}) (ae (bd 2 kn.nd (gx K (Y 1) ah)) (ae (aR {ČH,W,ac (Tw (MR K () (KG hw T.AU) () T.D6 (Y 2)) ()) O}) (ae (aN (aE aQ (Y 2) ak (aG _)) (ae (bd 3 kn.nd {ZD,Ņ kS,W,T.cr.m,T.cr.f.kp,T.cr.b,ac (G3 K () (KG hw T.AU) () T.D6 (Y 2) Ϫ) (ac (cp (jc K ()) (Y 1) (cO ah) (cO ah)) O)}) (ai (az (au (qh K ()) (au (qh K ()) (bo (ac (Y 2) O)) (bh (du K ()) ĕ T.cX L2.bF (ac (cp (jc K ()) (Y 3) c9 (cO ah)) O))) (bo (ac {ZD,Ņ kT,W,T.bT.m,T.bT.f.kp,T.bT.b,ac (cp (jc K ()) (Y 1) (cO ah) c9) O} (ac (gx K (Y 3) ah) O))))))) aF) (ai (az (au (qh K ()) (bo (ac (Y 2) O)) (bh (du K ()) ĕ T.cX L2.bF (ac {ZD,Ņ kS,W,T.cr.m,T.cr.f.kp,T.cr.b,ac (G3 K () (KG hw T.AU) () T.D6 (Y 2) Ϫ) (ac (cp (jc K ()) (Y 1) (cO ah) c9) O)} O))))))))),?_}
  have a3:=nU (x:=x) (y:=" ") ym;have a5:∀p∈āV,Ēl 10000:=λp hp=>{ļ,wu ym hp}
  have a6:=pF x " ";show !{(),x,ϔ,āV,(),(),Ý,Ø,(),λE a7=>aB ?_};generalize āV=ws at*;obtain⟨k,c,rfl⟩:∃k c,ws=k::c:=by cases ws with|nil=>rw[ąt,a6]|cons k c=>show{k,c,()}
  have hn:ēm c.length:=by rw[ig]at a3;lia
  have G:∀y∈c,ĝL:=λy hy=>a5 y (fy _ hy);have X:=ZI {Z_,k::c} H a7;have Z:aJ H E {ø,{Z_,k::c}} E={ò,á k::Ē0}:=af;generalize ZZ E {Z_,k::c}=H0 at X Z⊢;show ! rX (å Z) č (aB ?_)
  by_cases hk:k∈Ei
  case neg=>show !{k,none,(),T.NQ.none hk,{é,false,ϳ hH,λ_=>(ņ ċ9).to X}};have(k',ys,e,hm,_):=hd.inv;show hk ((il e).1▸hm)
  have()||(fs,hf):=sV.of hk
  ·have(A,i,I):=T.AL;rw[Ŧ,!{"trial",í A,(),i,é true ĺ (ϳ nofun)},{ċj,jd,"trial",ĺ,ĀG () z},!{"trial",â A,â A,(),i,(),?_},! ! !{E,!{ăq,Z,λp J=>?_}}];rw[Wz];have e4:(Ē0).take 4=ĔQ 4:=YO.symm;have e5:(Ē0).drop 4=Ž c.drop 4:=List.map_drop.symm;have inv:∀d,mH (ēs c) d->∃n l L M r,rp Sy (c.take 4) [.s n,.s l,.ws L,.ws M]/\xu (c.drop 4) r:=λd hd=>by have(k',ys,e,_,_,h):=hd.inv;have(e1,()):=il e;have(n,l,L,M,zs,toks,r,(),h1,h2,_):=h e1.symm;have h4:=Vg (toks:=toks) (Ĩ zs.length 4 ĞT);rw[ý,h4.1,h4.2,(n,l,L,M,r,h1,h2,)]
   rw[e4];have s1:={ZI,ĔQ 4,H0,J};show{A,p,Sy,c.take 4,(),I.sq _,Z4,ß,λy hy=>G y (L_ hy),{λts v H2 ht s2 hv=>aB ?_,λj=>(ņ ċ9).to (ċV s1)}}
   case refine_2=>have(n,l,L,M,r,h1,_):=inv d hd;show j _ h1
   have(n,ln,L,M,()):=JI ht;have(l,us,(),aa,a8):=hv;have(g,sv,(),hA,hS):=VU a8;have N:=ēH;have ba:=N _ _ Z;show !{ls (),λu B=>?_};have s3:=š [Āl] H2 B;have t:aJ H2 u {ň,[Āl]} u=ĝ [Āl]:=af;generalize Ō H2 u [Āl]=H3 at s3 t⊢;show ! !{l,!{ăq,s3 _ _ aa,λp3 bb=>?_}};have Q:={ZI,Ĉ5 [Z9,ăd,g,sv] 3,H3,bb};have ad:aJ H3 p3 {ø,Ĉ5 [Z9,ăd,g,sv] 3} p3=ò [Z9,ăd,g]:=af;generalize {ń,H3,p3,Ĉ5 [Z9,ăd,g,sv] 3}=H4 at Q ad⊢;show{p3,!{ąv,ad,λt2 R=>?_}};have s5:=š [Z9,ăd,g] H4 R;have ag:aJ H4 t2 {ň,[Z9,ăd,g]} t2=ĝ [Z9,ăd,g]:=af;generalize Ō H4 t2 [Z9,ăd,g]=H5 at s5 ag⊢;show{u,t2,_,!{(),{Ł,(Q.trans s5) _ _ t},Ł ag,Ü,by rw[gg];simp,(nofun),λ_ t3 bc=>?_}};have s6:={š,[Āl]++[Z9,ăd,g],H5,bc};have al:aJ H5 t3 {ň,[Āl]++[Z9,ăd,g]} t3=ĝ [Āl,Z9,ăd,g]:=af;generalize {Ō,H5,t3,[Āl]++[Z9,ăd,g]}=H6 at s6 al⊢;have S:={Ć4,s3.trans Q,s5,s6};show ! !{E,!{ăq,S _ _ ba,λp5 bi=>?_}};rw[WA,e5];have s7:={ZI,Ž c.drop 4,H6,bi};show{p5,c.drop 4,(),Z4,by rw[Qv];lia,λy hy=>G y (YD hy),{λr rv H8 W s8 hR=>?_,λj=>(ņ ċ9).to {è,ċV N,ěE s7}}}
   case refine_2=>have(n,l,L,M,r,_,h2):=inv d hd;show j _ h2
   have an:=s7.trans s8;have C:=ěE an;rw[ç,! rX {å,C _ _ aa} () ?_,{ls (),λt4 bt=>?_}];have s9:=š [rv,sv] H8 bt;show{t3,t4,_,!{(),{Ł,(an.trans s9) _ _ al},Ń,Ü,by rw[gg];simp,(nofun),λ_ p9 bz=>?_}};have D:={ą8,[Āl,Z9,ăd,g]++[rv,sv],s9,bz};have hD:mH (ēs c) (.trial n ln L M r):=by
    have:=mH.trial ht W
    rwa[sg]at this
   show q.1 _ _ _ hD {è,ċV N,C.trans D} {p9,g,rv,sv,(),Ń,{ė,hA.kp,C.trans D},{ė,hS.kp,C.trans D},ė hR.kp D}
  ·have(A,i,I):=hf.at T;have(k1,k4,k5):=hf.facts;rw[Ŏ,!{k,í A,(),i,é true ĺ (ϳ nofun)},{ċj,jd,k,ϳ k1,ĺ},!{ls (),λu B=>?_}];have s1:={ą8,ψ k,X,B};have t:aJ H0 u {ň,ψ k} u={ĝ,ψ k}:=af;have ap:aJ H0 u {ň,ψ k} E={ò,á k::Ē0}:={Þ,ay (aI Z B),Z}
   generalize {Ō,H0,u,ψ k}=H1 at s1 t ap⊢;rw[ç,!{k,â A,â A,(),i,(),?_},! !{E,!{ăq,ap,λp J=>?_}}];rw[K5];have s2:=ZI Ē0 H1 J;show{A,p,fs,c,(),I.sq _,Z4,Ø,G,{λts v H3 ht s3 hv=>?_,λj=>(ņ ċ9).to ēH}}
   case refine_2=>have(k',ys,e,_,h,_):=hd.inv;have((),()):=il e;have(gs,b8,hg,h1,_):=h k1;obtain rfl:=hf.one hg ();show j _ h1
   have(l,us,(),bB,ax):=hv;have a0:=Ęe;show{l,us,(),{ąv,bB,λt2 R=>?_}};have Q:=š us H3 R;have b0:=eJ ax;have b9:=ht.len.2;rw[ö,{u,t2,ψ k,us,(),(),{Ł,(a0.trans Q) _ _ t},Ń,Ü,by rw[gg];simp;lia,{ĀG,đH m6 z,by rw[<-b0];simp only[E_];lia},λ_ p2 a2=>?_},q.1 _ _ _ (Ϡ hf ht) {è,Ăh a0,am Q a2} {p2,us,(),Ń,Du {υ,am Q a2} ax}]
omit e
def UN(l:ZA):Prop:={ćA,0<=i,Ąc}
def WI(l:Ũ):Prop:=∀m∈l,Wd m.1/\-bg<=m.2/\m.2<=bg
def lB.kinds{f:Str}{t:Th}(h:lB f t):(∃w,t= .s w/\(f="word"\/f="guest"))\/(∃i,t= .n i/\Ąc/\(f="count"\/f="total"))\/(∃l,t= .ws l/\ą9/\η 10/\(f="arms"\/f="shuts"))\/(∃l,t= .ns l/\UN l/\η 10/\(f="counts"\/f="weights"))\/(∃l,t= .ms l/\WI l/\η 10/\f="marks"):=by cases h with|word _=>rw[ţ,{_,(),Ġ}]|guest _=>rw[ţ,{_,(),āh}]|count h1 h2=>rw[Ĉ,{à,é _ h2 Ġ}]|total h1 h2=>rw[Ĉ,à {é,_,so {ύ,Ŭ _} Ý,āh}]|arms h1 _ _ h2=>show {θ,à {_,(),h1,Ø,Ġ}}|shuts h1 _ h2=>show {θ,à {_,(),h1,Ø,āh}}|counts h1 _ h2=>show {θ,Ćk {_,(),h1,Ø,Ġ}}|weights h1 _ h2=>show {θ,Ćk {_,(),λi hi=>RO (h1 i hi),Ø,āh}}|marks h1 _ h2=>show {θ,θ {_,(),h1,Ø,()}}
def VW{l:ZA}(h:UN l):∀t∈Čb,Pt t:=λt a=>by have(i,hi,()):=ĀX;show Na (h i hi).1 (h i hi).2
def V2{l:Ũ}(h:WI l):∀t∈ęw,Pt t:=λt a=>by have(m,hm,()):=ĀX;show R1 (h m hm).1 (h m hm).2
structure Ez(ws:Zv)(r:Ru):Prop where
 hgt:ąI
 cnt:r.cnt<=30
 ok:j8 ws r
 wd:ĒB Wd w
 few:čX 3
theorem Ez.fit{b:Zv}{r:Ru}(h:Ez b r):r.fit:=h.ok.fit λw a=>g_ (h.wd w a).hi ß
inductive KF:ĀR ċ|layer:KF "layer" ["word","count"]|share:KF "share" ["word","counts"]|deal:KF "deal" ["word","total","weights"]|hold:KF "hold" ["word","count"]|pause:KF "pause" ĞV|go:KF "go" ĞV|close:KF "close" ĞV|bar:KF "bar" ["guest","word"]|visit:KF "visit" {ĤC,"guest"}
inductive O3:Ĵ HW|plain{k:Str}{fs:Zv}{ths:Μ}:KF k fs->Đ lB fs ths->O3 (Ϡ k ths)|trial{n l:Str}{as ss ws:Zv}{r:Ru}:Wd n->Wd l->lB "arms" (.ws as)->lB "shuts" (.ws ss)->Ez ws r->O3 (.trial n l as ss r)
theorem Ru.toks_free{d:Zv}(b:∀w∈d,Wd w):∀{r:Ru},j8 d r->∀t∈r.toks,iQ 32 t
 |_,.any,t,h=>{Þ,Ň h,fO Ý}|_,.has hm,t,h=>by
  rw[Ćb,h]
  ·show fO Ý
  rw[āW,h,(b _ hm).free ß]|_,.least hm _ _,t,h=>by
  rw[Ćb,h]
  ·show fO Ý
  ·rw[Ćb,h]
   ·show(b _ hm).free ß
   rw[āW,h,nq ß ß]|_,.not q,t,h=>by
  rw[Ćb,h]
  ·show fO Ý
  ·show čW b q t h|_,.both q r,t,h=>by
  rw[Ćb,h]
  ·show fO Ý
  ·have h||h:=Ă5 h
   ·show čW b q t h
   ·show čW b r t h|_,.either q r,t,h=>by
  rw[Ćb,h]
  ·show fO Ý
  ·have h||h:=Ă5 h
   ·show čW b q t h
   ·show čW b r t h
theorem C3{c:Nat}{z:Str}(b:iQ c z):∀{d:Zv},(∀t∈d,iQ c t)->iQ c (ăh d)|[],_=>nofun|[t],h=>h t f_|t::u::r,h=>{Þ,{ďC,kh,z,t,u::r},qC (h t f_) (qC b (C3 b λx a=>h x (fy _ a)))}
def wR{b:Zv}(h:∀t∈b,Pt t):iQ 32 (bO b):=by cases b with|nil=>show fO Ý|cons t r=>show C3 (fO Ý) λx a=>(h x a).bl
theorem lB.free{f:Str}{t:Th}(h:lB f t):iQ 32 t.txt:=by
 have h0:=h;have(w,(),_)||(i,(),hi,_)||(l,(),a,hn,_)||(l,(),a,hn,_)||(l,(),a,hn,_):=h.kinds
 ·cases h0 with|word b=>show b.free ß|guest b=>show b.free ß
 ·show nq ß ß
 ·show wR λw b=>(a w b).pt
 ·show wR (VW a)
 ·show wR (V2 a)
def Lz{fs:Zv}{b:Μ}(h:Ąg lB fs):∀t∈Ϯ Th.txt,iQ 32 t:=by induction h with|nil=>show λt h=>nomatch h|cons r _ a=>
  intro t c;rw[Ćb,c]
  ·show r.free
  ·show a t h
def KF.facts{k:Str}{fs:Zv}(h:KF k fs):ėq k/\iQ 32 k/\k.length<=5/\ĖU 3/\1<=fs.length:=ĕE h {Ý,fO Ý,Ý,ß,ß}
inductive PV(K:Zp)(h:Nat)(vs:Ú)(H:Hp)(Q:VK)(_E:XK):Prop|mk(r:Ru)(rv:V)(ms:Ũ)(mv:V)(_:vs=[rv,mv])(_:eV K H r rv)(_:ćf h)(_:rQ K H ms mv)(_:ĉ1 100)(_:{ϖ,ao H H',Q {Ĳ,r.sat ms} H'})
section
set_option tactic.hygienic true in
theorem FE(T:ä):∀h:Nat,aT P w K mg base dw (h+1) a.ff.x a.ff.d ę6 (PV K h)
 |0=>by
  show T.ff.f.ok zD ĔL Ġs
  ·have(r,rv,k,mv,(),_):=h;rfl
  ·have(r,rv,k,mv,(),_,hh,_):=h;rw[Ěz]|n+1=>by
  have W:=FE T n;show T.ff.f.ok zD ĔL Ġs
  ·have(r,rv,k,mv,(),_):=h;rfl
  ·have(r,rv,k,mv,(),hR,hh,S,p,q):=h;have(mt,l,(),I,X,Z):=id S;show{_,(ae (bd 2 zD.nd (dy K (Y 0) ah)) (ae (aN (aE aQ (Y 2) ak (aG _)) (ai (az g9)) aF) (ae (aN (aE aQ (Y 2) ak (aG _)) (ai (az (aD (xm K () ()) ĕ T.Nm L2.Bi (ac (ub vR ĉc [] [3] (aj yZ) (bW 3) (eE K () (Y 1)) {ν,nO vR ĉc 3,bQ aQ (dy K (Y 3) ah) (dy K (Y 0) ah) (aG _)}) O)))) aF) (ae (aN (aE aQ (Y 2) ak (aG _)) (ai (az (aD (xm K () ()) ĕ T.Nm L2.Bi (ac (ub vR ĉc [] [3] (aj yZ) (bW 3) (eE K () (Y 1)) {ν,nO vR ĉc 3,cV (bQ aQ (dy K (Y 3) ah) (dy K (Y 0) ah) (aG _)) (d9 (bQ MW (dy K (Y 3) ah) (dy K (Y 0) ah) (aG _)))}) O)))) aF) (ae (aN (aE aQ (Y 2) ak (aG _)) (ai (az (MM {Ďu,W,R,ac (dy K (Y 0) ah) (ac (Y 1) O)}))) aF) (ae (aN (aE aQ (Y 2) ak (aG _)) (ai (az (cV {Ďu,W,R,ac (dy K (Y 0) ah) (ac (Y 1) O)} (d9 {Ďu,W,R,ac (dy K (Y 0) ah) (ac (Y 1) O)})))) aF) (ai (az (VS {Ďu,W,R,ac (dy K (Y 0) ah) (ac (Y 1) O)} (d9 {Ďu,W,R,ac (dy K (Y 0) ah) (ac (Y 1) O)})))))))))),?_}
   have c:∀{A B:Prop}{x y:Str},x≠y->B->{ćW,ąE=ĵ y,A,B}:=λh b=>{ϗ,Cc,λe=>ť e h,b}
   have j:∀{A B:Prop}{x:Str},A->{ćW,ąE=ąE,A,B}:=λa=>Cc (λ_=>a) {ą0,(),h}
   cases hR with|any h=>rw[ö,! rX h () ?_,!{ċ1,j,q _ đ}]|has h=>
    rw[Ŏ,! rX h () ?_,!{ĥ,c (dk ()) ?_},! ċ2 j];rename_i ra wd;show ! Ĉr mt {_,I};have t:∀g,ao H ęD:=λg=>am đ hD;show {ČV,dH,K,mt,l,λi g H'=>g={Ċi,Wr wd}/\H'=ęD,{œ,by rw[oi];rfl},λi g H' _ h=>Ŕ▸{þ,t _,I}}
    ·intro i v g _ L((),());rw[ā9,ČR,L];have(b,hb,hB):=Z i (k[i]'(o'3 X hi)) (fx (o'3 X hi));rw[hb]at L;cases L;rw[ĭ,aB (ij (bE ?_)),! rX {þ,t _,hB} () (! rX {þ,t _,h} () {(),af,?_,lf hi {?_,?_}})]
     ·rw[b_,b_,j2,gg];lia
     ·rw[pE (fx (o'3 X hi)),hE];rfl
     ·rw[gc]
    ·intro g _((),());show{D,_,(),Z4,?_};rw[ý,X,g6 (eH _),q _ (t _)]|least h=>
    show ! rX h () ?_;(rw[ċi,!{ĥ,c (dk ()) ?_}]);show ! ċ2 j;rename_i ra wd F;show ! Ĉr mt {_,I};have t:∀g,ao H ęD:=λg=>am đ hD;show {ČV,dH,K,mt,l,λi g H'=>g={Ċi,jG wd F}/\H'=ęD,{œ,by rw[oi];rfl},λi g H' _ h=>Ŕ▸{þ,t _,I}}
    ·intro i v g _ L((),());rw[ā9,ČR,L];have(b,hb,hB):=Z i (k[i]'(o'3 X hi)) (fx (o'3 X hi));rw[hb]at L;cases L;have fin:∀b,b=jG wd F (k[i]'(o'3 X hi))->aJ H D {ø,{Ċi,jG wd F}} D=ò {Ċi,jG wd F}/\{ăz,ě {ĥa,jG wd F} V.bl}/\∃m',m'<l.length-i/\m'=l.length-(i+1)/\{ĂT,i+1}/\(({Ċi,jG wd F}++[V.bl b]=ČZ {Ĥi,i+1,jG wd F})/\{ĥ3,ēG {Ċi,jG wd F},{Ċi,jG wd F},V.bl b}={ēG,{Ċi,jG wd F}++[V.bl b]}):=λb eb=>by
      show{af,?_,lf hi {?_,?_}}
      ·rw[b_,b_,j2,gg];lia
      ·rw[pE (fx (o'3 X hi)),hE,eb];rfl
      ·rw[gc]
     rw[ĭ,aB (ij (bE ?_)),! rX {þ,t _,hB} () (! rX {þ,t _,h} () {ĥ,Cc Ă7 Ă7})]
     ·show ! rX {þ,t _,hB} () (! rX {þ,t _,h} () (r2 (fin _ ?_)));unfold jG;rw[hY {Þ,e,ji ()}]
     ·show fin _ ?_;unfold jG;rw[hF {ăi,j_ {ÿ,e,V.str.inj z}}]
    ·intro g _((),());show{D,_,(),Z4,?_};rw[ý,X,g6 (eH _),q _ (t _)]|not h h1=>rename_i ra G v;have hq:G.hgt+1<=n+1:=hh;show ! rX h () ?_;(rw[Ē8,!{ĥ,c (dk ()) ?_}]);rw[ö,! ċ2 j,! rX h () (!{G,v,k,_,(),h1,Ø,S,p,λH' o=>(! q H' o)})]|both h h1 h2=>
    rename_i ra G M v u;have hq:max G.hgt M.hgt+1<=n+1:=hh;show ! rX h () ?_;(rw[ėT,!{ĥ,c (dk ()) ?_}]);rw[ç,! ċ2 j,! rX h () (!{G,v,k,_,(),h1,Ø,S,p,λH' o=>ă})];have J:{ϖ,ao H H',Q {Ĳ,{Ě,G.sat k,M.sat k,false}} H'}:=q;show yR Ă7 Ă7
    ·rw[hY e]at J;show ! rX (þ o h) () (!{M,u,k,_,(),ĒP o,Ø,ė S.kp o,p,λH2 N=>J H2 (đX N)})
    ·rw[hF (ăi e)]at J;show J H' o|either h h1 h2=>
    rename_i ra G M v u;have hq:max G.hgt M.hgt+1<=n+1:=hh;show ! rX h () ?_;(rw[ĉ6,!{ĥ,c (dk ()) ?_}]);show ! rX h () (!{G,v,k,_,(),h1,Ø,S,p,λH' o=>ă});have J:{ϖ,ao H H',Q {Ĳ,{Ě,G.sat k,true,M.sat k}} H'}:=q;show yR Ă7 Ă7
    ·rw[hY e]at J;show J H' o
    ·rw[hF (ăi e)]at J;show ! rX (þ o h) () (!{M,u,k,_,(),ĒP o,Ø,ė S.kp o,p,λH2 N=>J H2 (đX N)})
omit e
def Yn.of{p:Prop}{Q:VK}(h:p)(f:{ϖ,ao H H',Q Ā6 H'}):Yn p Q H:=λb H' e s=>{Þ,e.mpr h,f H' s}
def j8.fm{d:Zv}(e:∀w∈d,Wd w):∀{r:Ru},j8 d r->r.Fm:=by
 intro r h
 induction h with|any=>rw[ę2]|has h=>show e _ h|least h h1 h2=>show{e _ h,h1,h2}|not _ c=>show c|both _ _ a b=>show(a,b,)|either _ _ a b=>show(a,b,)
def j8.mem(h:j8 b r):ěS w b:=by induction h with|any=>show Ģy|has h=>intro w a;rw[ó,Ň a,h]|least h=>intro w a;rw[ó,Ň a,h]|not _ h=>show h|both _ _ h g=>show λw a=>{Ăp,a} (h w) (g w)|either _ _ h g=>show λw a=>{Ăp,a} (h w) (g w)
def j8.few{b:Zv}{r:Ru}(h:j8 b r):Ĝ2 b.length:=Nj (Sf r.words [] XW) λx a=>h.mem x (Ox a)
def JC(i:Nat)(h:Ŭ i):{ăz,ě (ēY i).map V.bl}:=by rw[b_,XG,gg];lia
def GD(i:Nat):ČZ (ēY i).map++[Ġo]=ČZ {ēY,i+1}.map:=by rw[List.replicate_succ',hE];rfl
def JE(n:Nat):Ą (ēY n).all id:=Ü
def Pe{Q:VK}{p:Prop}[ăS p]{H:Hp}(h:p)(q:Q Ā6 H):Q {Ĳ,Ċ p} H:={āx,ji h}
inductive P4(vs:Ú)(H:Hp)(Q:VK)(_E:XK):Prop|mk(x:_)(_:vs=āv)(_:Wd x)(_:Āy)
inductive P9(K:Zp)(vs:Ú)(H:Hp)(Q:VK)(_E:XK):Prop|mk(p:Addr)(l:Zv)(_:vs=ſ)(_:bj K H p Ăe)(_:ą9)(_:l.Nodup)(_:ĂT 1)(_:η 4)(_:Āy)
inductive P5(K:Zp)(vs:Ú)(H:Hp)(Q:VK)(_E:XK):Prop|mk(r:Ru)(rv:V)(ws:Zv)(_:vs=[rv])(_:eV K H r rv)(_:ąI)(_:r.cnt<=30)(_:j8 ws r)(_:(ĒB Wd w))(_:čX 3)(_:Āy)
inductive Mb(vs:Ú)(H:Hp)(Q:VK)(_E:XK):Prop|mk(x:_)(_:vs=āv)(_:Dr x)(_:Āy)
inductive L9(K:Zp)(vs:Ú)(H:Hp)(Q:VK)(_E:XK):Prop|mk(v:V)(l:Ũ)(_:vs=[v])(_:rQ K H l v)(_:(∀m∈l,Wd m.1/\-bg<=m.2/\m.2<=bg))(_:ės)(_:η 8)(_:Āy)
inductive Mc(vs:Ú)(H:Hp)(Q:VK)(_E:XK):Prop|mk(z:_)(_:vs=[ı])(_:0<=z)(_:Āy)
inductive J1(K:Zp)(vs:Ú)(H:Hp)(Q:VK)(_E:XK):Prop|mk(p:Addr)(l:ZA)(_:vs=[ł,ã Ė9])(_:bj K H p ĂN)(_:(ęr 0 i))(_:η 100)(_:Āy)
inductive P8(K:Zp)(vs:Ú)(H:Hp)(Q:VK)(_E:XK):Prop|mk(z:Int)(p:Addr)(l:ZA)(_:vs=[ı,ł,ã Ė9])(_:(0<=z/\Ŭ z))(_:bj K H p ĂN)(_:{ćA,1<=i,i<=bg})(_:η 100)(_:Āy)
section
def sE(T:ä):aT P w K mg base dw 3 a.iK.x a.iK.d õ P4:=by
 show T.iK.okc BC ĕn
 ·have(x,(),b,q):=h;rw[ö,{_,(ai (aN (cI (aY K () (pc T.eM (gq T) c (ac (Y 0) O)) Ī)) (ai dg) aF)),?_},!{é,x,ļ b.hi,.of b λe f=>(! ce (q e f))}]
def BX(T:ä):aT P w K mg base dw 4 a.jM.x a.jM.d õ (P9 K):=by
 show T.jM.okc BF ĥK
 ·have(p,l,(),h1,h2,h3,h4,c,q):=h;rw[ö,{_,(ai (aN (cI (aY K () (pc T.lg (xZ T) b (ac (Y 0) O)) Ī)) (ai dg) aF)),?_},!{p,l,(),h1,λw e=>ļ (h2 w e).hi,.of (h2,h3,h4,c,) λf g=>(! ce (q f g))}]
def BT(T:ä):aT P w K mg base dw 11 a.jJ.x a.jJ.d õ (P5 K):=by
 show T.jJ.okc BD λH k c h=>?_
 ·have(r,e,l,(),h1,h2,h3,h4,b,f,q):=h;show{_,(ai (aN (cI (aY K () (pc T.oO (Aq T) c (ac (Y 0) O)) Ī)) (ai dg) aF)),?_};have hm:=h4.mem;show !{r,e,(),h1,h2,λw g=>ļ (b w (hm w g)).hi,.of {h4.fm b,h3,g_ h4.few f} λi j=>(! ce (q i j))}
def qk(T:ä):aT P w K mg base dw 3 a.gA.x a.gA.d õ Mb:=by
 show T.gA.okc zK ĕn
 ·have(x,(),b,q):=h;rw[ö,{_,(ai (aN (cI (aY K () (pc T.kY (xX T) c (ac (Y 0) O)) Ī)) (ai dg) aF)),?_},!{é,x,ļ b.hi,.of b λe f=>(! ce (q e f))}]
def Av(T:ä):aT P w K mg base dw 5 a.iZ.x a.iZ.d õ (L9 K):=by
 show T.iZ.okc zH ĕo
 ·have(v,l,(),h1,h2,h3,h4,q):=h;rw[ö,{_,(ai (aN (cI (aY K () (pc T.jP (uZ T) b (ac (Y 0) O)) Ī)) (ai dg) aF)),?_},!{v,l,(),h1,λm hm=>ļ (h2 m hm).1.hi,.of (h2,h3,h4,) λc e=>(! ce (q c e))}]
def Ax(T:ä):aT P w K mg base dw 3 a.i3.x a.i3.d õ Mc:=by
 show T.i3.okc zL ĕo
 ·have(z,(),h0,q):=h;rw[ö,{_,(ai (aN (cI (aY K () (pc T.fP (gr T) b (ac (Y 0) O)) Ī)) (ai dg) aF)),?_},!{z,(),.of h0 λc e=>(! ce (q c e))}]
def yF(T:ä):aT P w K mg base dw 4 a.gW.x a.gW.d ăJ (J1 K):=by
 show T.gW.okc yu ĕo
 ·have(p,l,(),h1,h2,h3,q):=h;rw[ö,{_,(ai (aN (cI (aY K () (pc T.iL (sG T) b (ac (Y 0) (ac (Y 1) O))) Ī)) (ai dg) aF)),?_},! !{p,l,(),h1,Ø,.of h2 λc e=>(! ce (q c e))}]
def wL(T:ä):aT P w K mg base dw 4 a.fV.x a.fV.d ęo (P8 K):=by
 show T.fV.okc wC ĥK
 ·have(z,p,l,(),e,h1,h2,h3,q):=h;rw[ϯ,{_,(ai {ČC,fe (cI (aY K () (pc T.kX (xW T) b (ac (Y 0) O)) Ī)) (dI (cI (aY K () (pc T.gC (ql T) b (ac (Y 1) (ac (Y 2) O))) Ī))),ai dg}),?_},!{z,(),.of e λj c=>(! ce ?_)},! !{p,l,(),Ċd c,Ø,.of h2 λf g=>(! ce (q f (Ćn g)))}]
omit e
inductive JX(vs:Ú)(H:Hp)(Q:VK)(_E:XK):Prop|mk(z:Int)(_:vs=[ı])(_:(2<=z/\z<=997))(_:(∀i:Nat,2+Ő<z->z%(2+Ő)≠0))(_:{ϖ,ao H H',Q Ā6 H'})
inductive LY(vs:Ú)(H:Hp)(Q:VK)(_E:XK):Prop|mk(z:_)(_:vs=[ı])(_:(0<=z/\z<=bg))(_:{ϖ,ao H H',Q Ā6 H'})
inductive Ma(vs:Ú)(H:Hp)(Q:VK)(_E:XK):Prop|mk(z s:Int)(_:vs=[ı,ã s])(_:(2<=z/\z<=997))(_:(∀i:Nat,2+Ő<z->z%(2+Ő)≠0))(_:(0<=s/\s<=bg))(_:Āy)
inductive S7(vs:Ú)(H:Hp)(Q:VK)(_E:XK):Prop|mk(x:Str)(d:Addr)(kvs:Ğ)(_:vs=[ħ,Āv])(_:Wd x)(_:H d=Į kvs)(_:bM kvs ũ=none)(_:Āy)
inductive L6(vs:Ú)(H:Hp)(Q:VK)(_E:XK):Prop|mk(x:Str)(d:Addr)(kvs:Ğ)(_:vs=[ħ,Āv])(_:Wd x)(_:H d=Į kvs)(_:Ću kvs ũ)(_:Āy)
theorem qM:∀b:ċ,Ą (ĈV).all qD|[]=>()|w::r=>by rw[kw,S_,qM r];rfl
def F3{w:Str}{b:Zv}(h:w∈b):Ĉq ăg ĈV:=by unfold mI;rw[ó,Ye,{ăg,ăa {w,h,()},by change Ξ w w;show r4 w}]
section
def FD(T:ä):aT P w K mg base dw 2 a.nG.x a.nG.d õ JX:=by
 show T.nG.okc Fa λH g e h=>?_
 ·have(z,(),(h1,h2),hd,q):=h;show{_,{ZR,fe (cI (aY K () (pc T.jt (lP T) e (ac (Y 0) O)) Ī)) (dI (cI (Ah j3 j3 (bV T.Cg ()) (Y 0) (bV T.xn ())))),ai (az g9),ai (az (aD (jN K () ()) ĕ T.AE L2.k9 (ac (ub õ ["divisor"] [] [1] (aj tj) (bW 1) (CI () T.jr (ac ah (ac (Y 0) O))) {ν,nO õ ["divisor"] 1,bQ Fv (au bq (Y 0) (Y 1)) ah (aG _)}) O)))},?_}
  rw[Ŧ,!{z,(),! ce ?_},! r2 ă,oN ĺ (ą0 h1 h),r2 ă];rw[ji h2];rw[Će,ce ?_,!{_,!{{ß,ß,Ø,Ø},λD f=>?_}},{čB,K,2,āS z 2,λi b c=>b=ČZ (ēY i).map/\c=ēS,Λ,?_,?_}]
  ·intro i b c hi((),());rw[ç,aB (ij (bE (! ! r2 {(by change û<_;first|decide|lia),(),?_}))),{af,JC i Ø,lf hi {?_,ďV}}];have hn:=hd i Ø;rw[<-GD]
   congr 2
   simp[hn]
  ·intro b c((),());rw[ϑ,{D,_,(),Z4,?_},JE,q _ (am đ f)]
def G7(T:ä):aT P w K mg base dw 3 a.qZ.x a.qZ.d õ LY:=by
 show T.qZ.okc GQ ĕo
 ·have(z,(),(h1,h2),q):=h;rw[ĭ,{_,(ai (az (cV (pc T.fP (gr T) b (ac (Y 0) O)) (d9 (bQ j3 (Y 0) (au Ap ah ah) (aG _)))))),?_},!{z,(),.of h1 λc e=>(! bE ?_)}]
  (repeat(first|show ă|show r2 ?_|show zzA () ?_|show zzB (cd ()) ?_|show zzC (by first|decide|lia) ?_|show zzD ?_))
  show Pe h2 (q c e)
def Aw(T:ä):aT P w K mg base dw 4 a.i0.x a.i0.d ["prime","salt"] Ma:=by
 show T.i0.okc zJ ĥL
 ·have(z,sa,(),h1,h2,h3,q):=h;rw[ϯ,{_,(ai {ČC,fe (cI (aY K () (pc T.nG (FD T) b (ac (Y 0) O)) Ī)) (dI (cI (aY K () (pc T.qZ (G7 T) b (ac (Y 1) O)) Ī))),ai dg}),?_},!{z,(),h1,h2,λi c=>(! ce ?_)},!{é,sa,h3,λe f=>(! ce (q e (Ćn f)))}]
def uY(T:ä):aT P w K mg base dw 4 a.jK.x a.jK.d ăH S7:=by
 show T.jK.okc DH ĥL
 ·have(x,d,e,(),h1,h2,h3,q):=h;show{_,(ae (aR (pc T.iK (sE T) b (ac (Y 0) O))) (ai (aN (pZ (G5 (c7 b) (Y 0) (Y 1)) ()) (ai dg) aF))),?_}
  rw[ö,!{é,x,h1,λf c=>?_},! ! rG none {Ă,h3,{ĂJ,ũ,c _ _ h2}} (! ce (q f c))]
def eK(T:ä):aT P w K mg base dw 4 a.cw.x a.cw.d ăH L6:=by
 show T.cw.okc uq ĕn
 ·have(x,d,b,(),h1,h2,h3,q):=h;show{_,(ae (aR (pc T.iK (sE T) c (ac (Y 0) O))) (ai (aN (pZ (wJ (c7 c) (Y 0) (Y 1)) ()) (ai dg) aF))),?_}
  rw[ç,!{é,x,h1,λf e=>?_},! ! rG (bM b ũ) {ĂJ,ũ,e _ _ h2} ă];rw[ó,h3,ce (q f e)]
omit e
abbrev Pl:=cM×V×ćM
def gX(H:Hp)(tk:ϙ)(m:ān):Prop:={Đ,λ(x:i7)(y:Pl)=>ï=Ć/\ąo=ĂA/\∃l,Āz=ž/\H l=Z1 (ĆJ).map,tk,m}
structure gh(P:Zu)(w:World)(K:Zp)(C:Addr)(H:Hp)(t od td:Addr)(n:Nat)(ow:Ğ)(tk:ϙ)(m:ān):Prop where
 ins:∃dx,H t=Ār C [Ě8 ăk,ϱ "owners" od,ϱ "taken" td]own:(H od=Į ow)tak:H td={Ù,dM P w td tk}keys:f9 K H tk
 lsts:gX H tk m
def gX.same(e:ao H H')(h:gX H tk m):gX H' tk m:={Ĉt,h,λ_ _ h=>{ü,Ŗ,ąb ĀA {q.1,e _ _ ņ}}}
def ip(e:Kp H H')(h:d8 K H k v):d8 K H' k v:=by match k,h with|.inl _,h=>show h|.inr [],h=>show h|.inr (_::_),h=>have(b,h1,h2):=h;show{b,h1,ąc}
def tP(e:ao H H')(h:d8 K H k v):d8 K H' k v:=by show ip (υ e) h
theorem gh.same(e:ao H H')(h:gh P w K C H t b d n ow tk m):gh P w K C H' t b d n ow tk m:={let⟨dx,i⟩:=h.ins;{dx,e _ _ i},e _ _ h.own,e _ _ h.tak,λx a=>tP e (h.keys x a),h.lsts.same e}
def gX.val(h:gX H tk m)(k:cM):(∃l b,io tk k=í l/\io m k=ăr/\H l=Z1 b.map)\/(io tk k=none/\io m k=none):=by induction h with|nil=>rw[Ĉ,Λ]|@cons x y _ _ h _ a=>
  unfold io at a⊢;rw[tu,tu,<-ü]
  rw[ρ,ï,k]
  rw[Ĺ,ji e,{à,ąb ĀA {ĆJ,m6 some q.1,(),ņ}}]
  rw[ų,j_ e,a]
noncomputable def bU(m:ān)(k:cM):ćM:=(io m k).getD []
noncomputable def ju(n:Nat)(ow:Ğ):ćM:=Ċo {Ċo,(ďj).filter,(bM ow ĎA).isNone}.map Ő
inductive SZ(P:Zu)(w:World)(K:Zp)(C:Addr)(vs:Ú)(H:Hp)(Q:VK)(_E:XK):Prop|mk(t dx:Addr)(n:Nat)(_:vs=[ľ,ăk])(_:H t=Ār C [])(_:H dx=ăY t)(_:∀(od td:Addr)H',H od=none->H td=none->{ê,H b=Û,ú t->H' b=Û}->gh P w K C H' t od td n [] [] []->ćc Q)
inductive JW(P:Zu)(w:World)(K:Zp)(C:Addr)(vs:Ú)(H:Hp)(Q:VK)(_E:XK):Prop|mk(t od td:Addr)(n:Nat)(ow:Ğ)(tk:ϙ)(m:ān)(p:Int)(_:vs=[ľ,ã p])(_:gh P w K C H t od td n ow tk m)(_:Q ((bM ow Ā9).getD .non) H)
inductive GL(P:Zu)(w:World)(K:Zp)(C:Addr)(vs:Ú)(H:Hp)(Q:VK)(_E:XK):Prop|mk(t od td:Addr)(n:Nat)(ow:Ğ)(tk:ϙ)(m:ān)(k:cM)(kv:V)(_:vs=[ľ,kv])(_:gh P w K C H t od td n ow tk m)(_:d8 K H k kv)(_:{ğ0,ao H H',H l=none->H' l={Z1,Ϻ bU m k}->Ăj l})
inductive S4(P:Zu)(w:World)(K:Zp)(C:Addr)(vs:Ú)(H:Hp)(Q:VK)(_E:XK):Prop|mk(t od td:Addr)(n:Nat)(ow:Ğ)(tk:ϙ)(m:ān)(_:vs=ąC)(_:gh P w K C H t od td n ow tk m)(_:Ŭ n)(_:{ğ0,ao H H',H l=none->H' l={Z1,Ϻ ju n ow}->Ăj l})
section
def yI(T:ä):aT P w K mg base dw 1 a.fF.x a.fF.d Ėc (SZ P w K a.cy):=by
 show T.fF.okc yx λH F G h=>?_
 ·have(t,dx,n,(),C,I,q):=h;show{_,(ae (cW K () (Y 0) (Y 1)) (ae (cW K () (Y 0) ni) (ai (cW K () (Y 0) (ė0 MO w))))),?_}
  show ! !{t,_,dx,!{C,T.bP,T.sL,ß,?_}};have u:i5 "many" (ñ n) []=ęi ęm:=();rw[u];have i:aJ H t ĞW t=Ār a.cy ęm:=af;have f1:{ê,H b=Û,ú t->aJ H t ĞW b=Û}:=λb o e j=>{Þ,ay j,e}
  generalize aJ H t ĞW=s at i f1⊢;show λc g=>(!{t,_,dx,!{{Þ,ay (aI i g),i},T.bP,T.fM,Ü,?_}});have v:i5 "owners" (ϫ c) ęm=ęi [Ĉk,ĈQ c]:=();rw[v];have y:c≠t:=λz=>by rw[z,i]at g;cases g
  have k:aJ (aJ s c (.dK [])) t {Ēt,[Ĉk,ĈQ c]} t=Ār a.cy [Ĉk,ĈQ c]:=af;have m:aJ (aJ s c (.dK [])) t {Ēt,[Ĉk,ĈQ c]} c=Ą7:={Ąe,ay y}
  have f2:{ê,H b=Û,ú t->aJ (aJ s c (.dK [])) t {Ēt,[Ĉk,ĈQ c]} b=Û}:=λb o e j=>{Ŝ,ay j,ay (λz=>by rw[<-z,f1 b o e j]at g;cases g),f1 b o e j}
  generalize aJ (aJ s c (.dK [])) t {Ēt,[Ĉk,ĈQ c]}=J at k m f2⊢;show λl f=>(!{t,_,dx,!{{Þ,ay (aI k f),k},T.bP,T.jp,Ü,?_}});have A:i5 "taken" (ϫ l) [Ĉk,ĈQ c]=ęi [Ĉk,ĈQ c,ąU "taken" l]:=();rw[A];have B:l≠t:=λz=>by rw[z,k]at f;cases f
  have D:c≠l:=λz=>by rw[<-z,m]at f;cases f
  have p:H c=none:=by cases z:H c with|none=>rfl|some o=>rw[f1 c o z y]at g;cases g
  have r:H l=none:=by cases z:H l with|none=>rfl|some o=>rw[f2 l o z B]at f;cases f
  show q c l _ p r Ĥ8 {(dx,af,),{Ŝ,ay y,ay D,m},{Ąe,ay B},λx E=>(ĄM E),.nil};rw[ý,ay j,ay (λz=>by rw[<-z,f2 b o e j]at f;cases f),f2 b o e j]
def fw(T:ä):aT P w K mg base dw 1 a.bH.x a.bH.d ĕL (GL P w K a.cy):=by
 show T.bH.okc sX λH B u h=>?_
 ·have(t,C,v,n,ow,tk,m,k,kv,(),i,y,q):=h;show{_,(ai (az (bh (tX K ()) ĕ T.D3 L2.rh (ac (MN (P:=P) (w:=w) K () (c7 u) (aO K () (Y 0)) (Y 1) (a9 O) Ĉ4) O)))),?_};have(dx,z):=i.ins;show !{t,_,dx,_,!{z,T.bP,T.jp,(),v,tk,(),i.tak,!{ls (),λg j=>?_}}};have e:=ĆR H j;have c:aJ H g ŀ g=ąe:=af;generalize aJ H g ŀ=D at e c⊢;have f:=đZ e;show{tk,k,f.tak,f.keys,tP e y,?_};have(l,E,p,r,A)||(p,r):=f.lsts.val k
  ·rw[p];show{l,!{ċZ A,λs b=>q s _ (am e b) (e.free b) ?_}};unfold bU;rw[ó,r,af]
  ·rw[p];show{g,!{ċZ c,λs b=>q s _ (am e b) (e.free b) ?_}};unfold bU;rw[ó,r,af]
def sJ(T:ä):aT P w K mg base dw 1 a.fE.x a.fE.d Āo (S4 P w K a.cy):=by
 show T.fE.okc BH λH s p h=>?_
 ·have(t,u,y,n,ow,tk,m,(),j,hn,q):=h;show{_,(ai (az (ub Āo ["place"] [] [1] (aj oq) (bW 1) (gO () T.jr (ac (aO K () (Y 0)) O)) {Ĕa,nO Āo ["place"] 1,DO (pZ (wJ (c7 p) (Y 1) (aO K () (Y 0))) ()),Y 1}))),?_}
  have(dx,l):=j.ins;show !{t,_,dx,_,!{l,T.bP,T.sL,(),ϩ,(),Ø,Ø,λD o=>?_}};have g:∀b,ao H ēS:=λb=>am đ o;show {čB,K,0,ăF n,{ċI,b={ο,Ϻ ju i ow},H'=ēS},Λ,?_,?_}
  ·intro i b _ hi((),());have r:{ě,Ϻ ju i ow,V.int}<=i:=by unfold ju;rw[ý,b_,b_,g_ (t_ _ _) {Þ,n8,eH _}]
   have c:ju (i+1) ow=ju i ow++Ě (bM ow ĎA).isNone [Ő] []:=by
    unfold ju;rw[Ys,YT,hE]
    congr 1
    by_cases e:î (bM ow ĎA).isNone
    ·simp[e]
    ·simp[e]
   rw[{ύ,û+Ő=Ď i}];show aB (! !{t,_,dx,_,!{g _ _ _ l,T.bP,T.fM,(),rG _ {ĂJ,ĎA,g _ _ _ j.own} ă}});have f:i<ăF n:=hi;cases e:(bM ow ĎA)with|none=>show bE (!{af,by rw[gg];lia,lf f {?_,ďV}});rw[c,e,hE];rfl|some v=>show ce (lf f (œ ?_));rw[c,e,hE];show ĂU l_ _
  ·intro b _((),());rw[Ą9,ăF n=n]
   rw[ó,e,q D _ (g _) o af]
omit e
def OA(b:Ú)(h:0<=i):ki b Ău none=ĉL i.toNat:=by
 rw[ż,{ĉL,{Ā3,i,0,āl i čC,ĕA min}}.take {ĠR,{Ā3,i,0,āl i čC,ĕA min}}=ĉL i.toNat,hF Ø];have a||a:=ģP
 ·rw[Zk a,g6 (by rw[Qv];lia)]
 ·rw[Y8 a,{ĢK,eH _},ĢK a,List.take_nil]
def HM(b:Ú)(h:0<=i):ĒK ki b Ău=Ĉ1 i.toNat:=by
 change(ĉL 0).take ({Ā3,i,0,āl i čC,ĕA min}-0)=Ĉ1 i.toNat;rw[hF Ø,YE,Nat.sub_zero];have a||a:=ģP
 ·rw[Zk a]
 ·rw[Y8 a,g6 (eH _),g6 a]
def Jy(b:Ğ)(k j:cJ):bM (fh b k) j={ĀH,k,none,bM b j}:=by induction b with|nil=>split<;>rfl|cons p r d=>
  rw[Ąr,k]
  ·rw[C6 e,d]
   by_cases a:j=k
   ·rw[hY a,hY a]
   ·rw[hF a,hF a,bX {ÿ,a,z.symm.trans e}]
  ·rw[C7 e]
   by_cases c:ę=j
   ·rw[cN c,hF {ÿ,e,Ćn z},cN c]
   ·rw[bX c,d,bX c]
noncomputable def yT(ow:Ğ)(b:ZA):Ğ:=b.foldl (λo p=>fh o Ā9) ow
def wf(b:ZA):∀(ow:Ğ)(j:Int),bM (yT ow b) ď1={ĄD,j,b,none,bM ow ď1}:=by induction b with|nil=>intro ow j;rw[hF Ü];rfl|cons p r a=>
  intro ow j;change bM (yT (fh ow Ā9) r) ď1=_;rw[a,Jy]
  by_cases h1:j∈r
  ·rw[hY h1,hY (fy _ h1)]
  ·rw[hF h1]
   by_cases h2:j=p
   ·rw[hY (Ź h2),hY (Þ h2 f_)]
   ·rw[hF {ÿ,h2,Ğv z},hF (λz=>ĘR h2 h1)]
def qG(d e:Addr)(H H':Hp):Prop:={ê,H b=Û,ú d->ú e->H' b=Û}
def qG.of(h:ao H H'):qG d f H H':=λb o e _ _=>h b o e
def qG.trans(a:qG d e H f)(b:qG d e f g):qG d e H g:=λc o h h1 h2=>b c o (a c o h h1 h2) h1 h2
def qG.tp(h:qG d f H H')(h1:H d=Į g)(h2:H f=ő .ext φ)(e:H b=ĝ i):H' b=ĝ i:=h b _ e ğq ğp
def fU(h:qG b d H H')(h1:H b=Į f)(h2:H d=ő .ext φ)(g:d8 K H k v):d8 K H' k v:=by show ip {Ĝu,λu c e=>h.tp h1 h2 e,{a,h u _ e ğq ğp}} g
def gX.off(h:qG b d H H')(h1:H b=Į f)(h2:H d=ő .ext φ)(t:gX H tk m):gX H' tk m:=ăO t {q.1,Ąl,(ĀB).imp λ_ e=>{e.1,h _ _ e.2 (Ĝ0 h1 e.2) (Ĝ0 h2 e.2)}}
set_option tactic.hygienic true in
def gX.put(d:H l=Z1 f.map):∀{tk:ϙ}{m:ān},gX H tk m->gX H (i6 tk k kv ž) (i6 m k kv f):=by
 intro tk m h;have a:Āk io tk k=Āk io m k:=by have(l,f,c,g,_)||(c,g):=h.val k<;>rw[c,g]<;>rfl
 unfold i6;rw[a]
 split
 ·rw[ĔN]
  induction h with|nil=>rw[Z5]|@cons x y i j r t b=>
   rw[ąZ,ē ?_ b];rw[<-r.1]
   rw[ρ,ï,k]
   ·rw[ý,hY e,hY e,{(),r.2.1,l,(),d}]
   ·rw[ý,hF e,hF e,r]
 ·rw[ĔN]
  induction h with|nil=>show ϋ {(),(),l,(),d}|cons r t b=>show ē r b
def hV(H:Hp)(tk b:ϙ):Prop:=∀x∈b,(∃y∈tk,ĆJ=Āz)\/∃l,Āz=ž/\H l=none
def hV.put(b:H l=none):hV H tk (i6 tk k kv ž):=by
 intro x a;unfold i6 at a
 split at a
 ·have(y,c,()):=ĀX
  split
  ·rw[Ĉ,{l,(),b}]
  ·rw[ţ,{y,c,()}]
 ·have a||a:=Ă5 a
  rw[Ř,{x,a,()}]
  rw[āW,a,ďb l () b]
def vb(h:qG d f H H')(h1:H' d≠none)(h2:H' f≠none)(e:H' b=none):H b=none:=by cases z:H b with|none=>rfl|some o=>rw[čU,h b o z (λq=>h1 (Ă q e)) (λq=>h2 (Ă q e)),e]
inductive S3(P:Zu)(w:World)(K:Zp)(C:Addr)(vs:Ú)(H:Hp)(Q:VK)(_E:XK):Prop|mk(t od td:Addr)(n:Nat)(ow:Ğ)(tk:ϙ)(m:ān)(k:cM)(kv:V)(num:Int)(_:vs=[ľ,kv,ã num])(_:gh P w K C H t od td n ow tk m)(_:d8 K H k kv)(_:0<=num)(_:tk.length<100000)(_:(∀p∈(bU m k).drop num.toNat,Ću ow Ā9))(_:(bU m k).Nodup)(_:∀(l:Addr)(tk':ϙ)H',qG od td H H'->H l=none->H' l=Z1 ((bU m k).drop num.toNat).reverse.map->ėV 1->hV H tk tk'->gh P w K C H' t od td n (yT ow {ċG,(bU m k).drop,num.toNat}) tk' (i6 m k kv ({Ċa,bU,m,k} num.toNat))->Ăj l)
def FS(d:ĉW e f)(k:cM)(b:e)(v:f):{Œ,i6 d k b v,d.length+1}:=by
 unfold i6
 split
 ·rw[b_];lia
 ·rw[gV];simp
def f9.put(h:f9 K H tk)(d:d8 K H k kv):f9 K H (i6 tk k kv v):=by
 unfold i6
 split
 ·intro x a;have(y,b,()):=ĀX
  split
  ·show h y b
  ·show h y b
 ·intro x a;have a||a:=Ă5 a
  ·show h x a
  rw[āW,a,d]
section
def tF(T:ä):aT P w K mg base dw 2 a.dD.x a.dD.d čS (S3 P w K a.cy):=by
 show T.dD.okc fu ĐQ
 ·have(t,G,r,n,ow,tk,m,k,kv,num,(),f,hk,I,bc,J,aa,q):=h;show{_,(ae (bd 3 fu.nd {Aa,bv,Y 0,T.bP,T.bH.m,Ņ fw,hr,T.bH.b,bI,ac (Y 1) O}) (ae (bd 4 fu.nd (G1 K () () ĕ T.D3 ĕ T.Hf (cp (jc K ()) (Y 3) (cO (Y 2)) c9))) (ae (gn oa () (eF K () (Y 4)) (yD 5 fu.nd) (ai (aR (Fq (aO K () (Y 0)) (Y 5) Ĉ4)))) (ae (mn (cp (jc K ()) (Y 3) c9 (cO (Y 2))) (oy (aO K () (Y 0)) (Y 1) {Ďb,Mn,P,w,K,c7 hr})) (ai (az (Y 4))))))),?_}
  have(dx,hI):=f.ins;show mm hI () () (!{t,G,r,n,ow,tk,m,k,kv,(),f,hk,λlp H1 s1 bi D=>aB ?_});have bt:=ďq s1;generalize bU m k=y at J aa q D⊢;show ! !{é,num,lp,!{ăq,D,λl2 ad=>?_}};rw[OA _ I,<-List.map_drop];have s2:=ăL {ø,ο đU} s1 ad;have L:aJ H1 l2 {ø,ο đU} l2=Z1 đU:=af;have A:aJ H1 l2 {ø,ο đU} lp=ğg:={Þ,ay (aI D ad),D}
  generalize {ń,H1,l2,ο đU}=H2 at s2 L A⊢;show{l2,!{ăq,L,λM W=>aB ?_}};rw[<-List.map_reverse];generalize ag:ċG y.drop num.toNat=bk at q⊢;have s3:=ăL ğ4 s2 W;have g:aJ H2 M ğ4 M=Z1 bk.map:=af;have B:aJ H2 M ğ4 lp=ğg:={Þ,ay (aI A W),A}
  generalize ń H2 M ě4=H3 at s3 g B⊢;have l:=ďq s3;have(X,E):=l.ins;have a0:H M=none:=s2.free W;have a2:bk.Nodup:={Ă,ag,(List.reverse_perm _).nodup_iff.mpr ((List.drop_sublist _ _).nodup aa)}
  have a3:∀p∈bk,Ću ow Ā9:=λp N=>J p (by rw[<-ag]at N;show XI.mp N);have ne:{Ĝc,H3 b=Û,(∀a5,o≠ .dK a5)->(∀φ,o≠ .ext φ)->ú G/\ú r}:=λe h1 h2=>{{ďx,z,l.own,e,h1 _ ()},{ďx,z,l.tak,e,h2 _ ()}};have C:=ne g Ů Ů;have al:=ne B Ů Ů;have Z:=ne E Ů Ů;have an:r≠G:=ďf l.tak z l.own e
  rw[ĭ,! é M {_,å g} ?_,ĕC vD ě4 {ĘA,qG G r H3 H',H' G={Į,yT ow ęE}/\H' r={Ù,dM P w r tk}/\∃v5,σ=[í t,Ù kv,āM num,í lp,í M,v5]} {υ đ,l.own,l.tak,_,()} {å,ü _ _ g C.1 C.2} ?_ ?_]
  ·intro i x σ H4 Q(F,c,s,v5,());have hi:i<bk.length:={ĊZ,ŷ Q}
   have N:ì bk={Ù,bk[i]}:=fx hi;rw[g8,N]at Q;generalize bk[i]=p at Q N;cases Q;have a6:p∉ęE:=λz=>by
    have(j,hj):=ĀN z;have a7:j<i:=by rw[Āj,ŷ hj,j2];lia
    rw[X7 a7]at hj;rw[Š,(H_ (ŷ hj) a2).mp (hj.trans N.symm)]
   have(v,hv):=w1.mp (a3 p (e_ N));have a8:bM (yT ow ęE) Ā9=Ĕ:={Ŝ,wf,hF a6,hv}
   have hg:yT ow {Ĥr,i+1}=fh (yT ow ęE) Ā9:=by unfold yT;rw[ov,N,v_];rfl
   rw[ö,aB (!{t,_,X,_,!{F _ _ E Z.1 Z.2,T.bP,T.fM,(),G,(),à {_,à c},!{_,Ā9,v,c,(),a8,?_}}}),{{ĕd,ay h1,F b o e h1 h2},Ąe hg,{Þ,ay an,s},_,()}]
  ·intro σ H4(F,c,s,v5,());rw[b_,g6 (eH _)]at c;have ap:=F _ _ B al.1 al.2;show ! !{é,num,lp,!{ăq,ap,λR as=>?_}};rw[HM _ I,<-YO];have s5:={ZI,ο đT,H4,as};have u:aJ H4 R {ø,ο đT} R=Z1 đT:=af;generalize {ń,H4,R,ο đT}=H5 at s5 u⊢;have o5:qG G r H H5:={è,qG.of s3,ė F.trans s5};have S:=s5 _ _ s;have ba:=fU o5 f.own f.tak hk;have av:f9 K H5 tk:=λx Q=>fU o5 f.own f.tak (f.keys x Q);have n5:R≠r:=λz=>by rw[z,S]at u;cases u
   show !{t,_,X,_,!{s5 _ _ (F _ _ E Z.1 Z.2),T.bP,T.jp,(),!{r,tk,k,(),S,av,ba,by rw[gg];lia,ă}}};have o6:qG G r H (aJ H5 r (dM P w r (i6 tk k kv (â R)))):={ĕd,ay h2,o5 b o e h1 h2}
   have bb:aJ H5 r (dM P w r (i6 tk k kv (â R))) R=Z1 đT:={Þ,ay n5,u}
   have ax:H R=none:=vb {è,qG.of s3,F} (by rw[c];simp) (by rw[s];simp) as;show q M _ _ o6 a0 {Þ,ay C.2,s5 _ _ (F _ _ g C.1 C.2)} (FS _ _ _ _) (hV.put ax) {{X,{Þ,ay Z.2,s5 _ _ (F _ _ E Z.1 Z.2)}},{Þ,ay (m_ an),s5 _ _ c},af,?_,?_}
   ·show f9.put (λx Q=>fU o6 f.own f.tak (f.keys x Q)) (fU o6 f.own f.tak hk)
   ·show gX.put bb (f.lsts.off o6 f.own f.tak)
omit e
noncomputable def qA(ow:Ğ)(kv:V)(b:ZA):Ğ:=b.foldl (λo p=>gN o Ā9 kv) ow
def zi(kv:V)(b:ZA):∀(ow:Ğ)(j:Int),bM (qA ow kv b) ď1={ĄD,j,b,Ù kv,bM ow ď1}:=by induction b with|nil=>intro ow j;rw[hF Ü];rfl|cons p r a=>
  intro ow j;change bM (qA (gN ow Ā9 kv) kv r) ď1=_;rw[a,Lw]
  by_cases h1:j∈r
  ·rw[hY h1,hY (fy _ h1)]
  ·rw[hF h1]
   by_cases h2:j=p
   ·rw[hY (Ź h2),hY (Þ h2 f_)]
   ·rw[hF {ÿ,h2,Ğv z},hF (λz=>ĘR h2 h1)]
def C1(kv:V)(b:ZA):∀(ow:Ğ),{Œ,qA ow kv b,ow.length+b.length}:=by induction b with|nil=>intro ow;show eH _|cons p r a=>intro ow;rw[ăB,a (gN ow Ā9 kv),qw ow Ā9 kv];rw[ż,{Œ,qA (gN ow Ā9 kv) kv r,_},ig];lia
def HA(n:Nat)(ow:Ğ):ō ju n ow<=n:=by unfold ju;rw[ó,b_,g_ (t_ _ _) {Þ,n8,eH _}]
inductive SN(P:Zu)(w:World)(K:Zp)(C:Addr)(vs:Ú)(H:Hp)(Q:VK)(_E:XK):Prop|mk(t od td:Addr)(n:Nat)(ow:Ğ)(tk:ϙ)(m:ān)(k:cM)(kv:V)(num:Int)(_:vs=[ľ,kv,ã num])(_:gh P w K C H t od td n ow tk m)(_:d8 K H k kv)(_:Ŭ n)(_:{ë,Ĉp m k}<=num)(_:{ē4,Ĉp m k})(_:tk.length<100000)(_:ow.length<1000000)(_:∀(tk':ϙ)H',qG od td H H'->ėV 1->hV H tk tk'->gh P w K C H' t od td n (qA ow kv ({Ċa,ju,n,ow} {āS,num,Ĉp m k})) tk' (i6 m k kv (bU m k++{Ċa,ju,n,ow} {āS,num,Ĉp m k}))->ćc Q)
section
def BY(T:ä):aT P w K mg base dw 2 a.iM.x a.iM.d čS (SN P w K a.cy):=by
 show T.iM.okc jY ĐQ
 ·have(t,A,j,n,ow,tk,m,k,kv,num,(),c,hk,hn,N,an,a5,a6,q):=h;show{_,(ae (bd 3 jY.nd {Aa,bv,Y 0,T.bP,T.bH.m,Ņ fw,hr,T.bH.b,bI,ac (Y 1) O}) (ae (bd 4 jY.nd (cp (jc K ()) (ng (Y 0) T.bP T.fE.m (Ņ sJ) hr T.fE.b .nil bI) c9 (cO (au gp (Y 2) {Č,aK K (),ac (Y 3) O})))) (ae (gn oa () (eF K () (Y 4)) (yD 5 jY.nd) (ai (mn (Y 1) (oy (aO K () (Y 0)) (Y 5) (wB (c7 hr)))))) (ai (mn (au eR (Y 3) (Y 4)) (oy (aO K () (Y 0)) (Y 1) {Ďb,Mn,P,w,K,c7 hr})))))),?_}
  have(dx,hI):=c.ins;show mm hI () () (!{t,A,j,n,ow,tk,m,k,kv,(),c,hk,λlp H1 s1 a7 Q=>aB ?_});have ap:=c.same s1;generalize bU m k=y at N an q Q⊢;show mm (s1 _ _ hI) () () {t,A,j,n,ow,tk,m,(),ap,hn,λas H2 s2 a8 R=>?_};have av:=HA n ow;generalize ju n ow=fs at av R q;have u:=s2 _ _ Q;show ! !{_,y.length,(),à {_,å u,Ź b_},num,đn,(),(),num-đn,(),as,!{ăq,R,λI S=>aB ?_}};rw[HM _ Ø,<-YO];generalize ax:fs.take (āS num đn)=mo at q⊢;have ba:Ŭ mo.length:=by rw[<-ax,j2];lia
  have s3:=ăL ğ5 ēH S;have f:aJ H2 I ğ5 I=Z1 mo.map:=af;have v:aJ H2 I ğ5 lp=ğg:={Þ,ay (aI u S),u}
  generalize ń H2 I ě5=H3 at s3 f v⊢;have l:=c.same s3;have(J,B):=l.ins;have ne:{Ĝc,H3 b=Û,(∀a0,o≠ .dK a0)->(∀φ,o≠ .ext φ)->ú A/\ú j}:=λe h1 h2=>{{ďx,z,l.own,e,h1 _ ()},{ďx,z,l.tak,e,h2 _ ()}};have C:=ne f Ů Ů;have W:=ne v Ů Ů;have L:=ne B Ů Ů;have X:j≠A:=ďf l.tak z l.own e
  rw[ĭ,! é I {_,å f} ?_,ĕC vD ě5 {ĘA,qG A j H3 H',H' A={Į,qA ow kv (mo.take i)}/\H' j={Ù,dM P w j tk}/\∃v5,σ=[í t,Ù kv,āM num,í lp,í I,v5]} {υ đ,l.own,l.tak,_,()} {å,ü _ _ f C.1 C.2} ?_ ?_]
  ·intro i x σ H4 E(D,g,r,v5,());have hi:i<mo.length:={ĊZ,ŷ E}
   have hp:ì mo={Ù,mo[i]}:=fx hi;rw[g8,hp]at E;generalize mo[i]=p at E hp;cases E;have hg:qA ow kv (mo.take (i+1))=gN (qA ow kv (mo.take i)) Ā9 kv:=by unfold qA;rw[ov,hp,v_];rfl
   have bb:=C1 kv (mo.take i) ow;have bc:=z5 i mo;rw[ö,aB (! !{t,_,J,_,!{D _ _ B L.1 L.2,T.bP,T.fM,(),!{A,_,Ā9,(),(),g,by rw[gg];lia,?_}}}),{{ĕd,ay h1,D b o e h1 h2},Ąe hg,{Þ,ay X,r},_,()}]
  ·intro σ H4(D,g,r,v5,());rw[b_,g6 (eH _)]at g;have Z:=D _ _ v W.1 W.2;have aa:=D _ _ f C.1 C.2;show ! !{lp,I,_,!{(),Z,aa,by rw[b_,b_,gg];lia,λF ad=>?_}};rw[<-hE];have M:=ZI {ο,ĉR y mo} H4 ad;have s:aJ H4 F {ø,{ο,ĉR y mo}} F={Z1,ĉR y mo}:=af;generalize ń H4 F {ο,ĉR y mo}=H5 at M s⊢;have o5:qG A j H H5:={è,qG.of s3,ė D.trans M};have G:=M _ _ r;have a2:=fU o5 c.own c.tak hk;have ag:f9 K H5 tk:=λx E=>fU o5 c.own c.tak (c.keys x E);have n5:F≠j:=λz=>by rw[z,G]at s;cases s
   show !{t,_,J,_,!{M _ _ (D _ _ B L.1 L.2),T.bP,T.jp,(),!{j,tk,k,(),G,ag,a2,by rw[gg];lia,?_}}};have o6:qG A j H (aJ H5 j (dM P w j (i6 tk k kv (â F)))):={ĕd,ay h2,o5 b o e h1 h2}
   have a3:aJ H5 j (dM P w j (i6 tk k kv (â F))) F={Z1,ĉR y mo}:={Þ,ay n5,s}
   have al:H F=none:=vb {è,qG.of s3,D} (by rw[g];simp) (by rw[r];simp) ad;show q _ _ o6 (FS _ _ _ _) (hV.put al) {{J,{Þ,ay L.2,M _ _ (D _ _ B L.1 L.2)}},{Þ,ay (m_ X),M _ _ g},af,?_,?_}
   ·show f9.put (λx E=>fU o6 c.own c.tak (c.keys x E)) (fU o6 c.own c.tak hk)
   ·show gX.put a3 (c.lsts.off o6 c.own c.tak)
omit e
structure AS where
 pl:cM->ćM
 oc:ĉC
noncomputable def rO(n:Nat)(oc:ĉC):ćM:=Ċo {Ċo,(ďj).filter,{Ŀ,oc Ő}}.map Ő
noncomputable def AS.give(s:AS)(k:cM)(c:Nat):AS:={{Ăg,k,ċF c,ďF},λp=>{ĄD,p,ċH c,false,s.oc p}}
noncomputable def AS.took(s:AS)(n:Nat)(k:cM)(c:Nat):AS:={{Ăg,k,āa++ąw (c-ąJ),ďF},λp=>{ĄD,p,ąw (c-ąJ),true,s.oc p}}
structure AS.Ok(n:Nat)(s:AS):Prop where
 in_:∀k p,p∈āa->0<=p/\p<n/\Ą s.oc p
 dj:∀k j p,p∈āa->p∈ďF->k=j
 nd:∀k,(āa).Nodup
noncomputable def AS.new:AS:={Ęz,ĖE}
def AS.new_ok(n:Nat):AS.new.Ok n:={λ_ _ h=>(nomatch h),λ_ _ _ h=>(nomatch h),λ_=>XW}
def Rc:p∈rO n oc↔0<=p/\p<n/\{ć,oc p}:=by
 unfold rO;rw[hQ]
 constructor
 ·intro(i,hi,());have(h1,h2):=Ċb hi;have:=pa.mp h1;show{ĉA,{Ϭ,o'7 this},ĔM}
 ·intro(h1,h2,h3);show{p.toNat,tf.mpr {pa.mpr (o'5 h1 h2),?_},Ø};rw[{ύ,Ď p.toNat=p},h3];rfl
def Uk(n:Nat)(oc:ĉC):(rO n oc).Nodup:=by unfold rO;rw[ý,K_,List.pairwise_map,(K_.mp ġP).imp λh=>Ø]
def Ul(n:Nat)(oc:ĉC):ō rO n oc<=n:=by unfold rO;rw[ó,b_,g_ (t_ _ _) {Þ,n8,eH _}]
set_option tactic.hygienic true in
theorem AS.Ok.give{n:Nat}{s:AS}(h:s.Ok n)(k:cM)(c:Nat):(s.give k c).Ok n:=by
 have f:∀p,p∈ċF c->p∉ċH c:=λp h1 h2=>by rw[čF,h.nd k,sg c āa,md];show Č4.2 p h1 p h2 ()
 have sub:∀j p,p∈(s.give k c).pl j->p∈ďF:=λj p d=>by
  have d:p∈{č3,k,ċF c}:=d
  split at d
  ·rename_i e;rw[ó,e,L_ d]
  ·show d
 show{λj p d=>?_,λj i p h1 h2=>h.dj j i p (sub j p h1) (sub i p h2),ĄP}
 ·have(a,b,e):=h.in_ j p (sub j p d);rw[ăb,{a,b,?_},î {ĄD,p,ċH c,false,s.oc p}];rw[hF,e];intro z;have d:p∈{č3,k,ċF c}:=d
  split at d
  ·show f p d z
  ·rename_i g;show g (h.dj j k p d (YD z))
 ·change{č3,k,ċF c}.Nodup
  split
  ·show(X4 _ _).nodup (h.nd k)
  ·show h.nd j
set_option tactic.hygienic true in
theorem AS.Ok.took{n:Nat}{s:AS}(h:s.Ok n)(k:cM)(c:Nat):(s.took n k c).Ok n:=by
 have fr:∀p∈ąw (c-ąJ),0<=p/\p<n/\{ć,s.oc p}:=λp f=>Rc.mp (L_ f);have g:(ąw (c-ąJ)).Nodup:=(X4 _ _).nodup (Uk _ _);unfold AS.took;generalize ąw (c-ąJ)=mo at fr g;have d:∀j p,p∈{č3,k,āa++mo}->p∈ďF\/(j=k/\p∈mo):=λj p f=>by
  split at f
  ·rename_i e;rw[ĉj,f]
   rw[Ĺ,e,à z]
   rw[ϛ,(e,z,)]
  ·rw[ţ,f]
 show{λj p f=>?_,λj i p h1 h2=>?_,ĄP}
 ·change 0<=p/\p<n/\î {ĄD,p,mo,true,s.oc p};have z||(_,z):=d j p f
  ·have(a,b,e):=h.in_ j p z;show{a,b,?_}
   split
   ·rfl
   ·show e
  ·show{(fr p z).1,(fr p z).2.1,{Ź,hY z}}
 ·have z||(l,z):=d j p h1<;>have y||(m,y):=d i p h2
  ·show h.dj j i p z y
  ·rw[čU,(h.in_ j p z).2.2,(fr p y).2.2]
  ·rw[čU,(h.in_ i p y).2.2,(fr p z).2.2]
  ·rw[l,m]
 ·change{č3,k,āa++mo}.Nodup
  split
  ·rw[md];show{h.nd k,g,λa o b q z=>?_};subst z;have h1:=(h.in_ k a o).2.2;rw[(fr a q).2.2]at h1;cases h1
  ·show h.nd j
abbrev Wl:=ėC Int
noncomputable def dC(s:AS)(W:Wl):AS:=W.foldl (λs x=>s.give ï Āp) s
noncomputable def db:AS->Wl->ćM|_,[]=>[]|s,x::r=>ċG (ęV ï).drop Āp++db (s.give ï Āp) r
noncomputable def eB(n:Nat)(s:AS)(W:Wl):AS:=W.foldl (λs x=>s.took n ï Āp) s
noncomputable def jz(s:AS)(W:Wl):Int:=(W.map λx=>ŕ-{ë,Ě6 ï}).sum
def vz(s:AS)(W:Wl)(x:cM×Int):dC s (W++[x])=(dC s W).give ï Āp:=by unfold dC;rw[v_];rfl
theorem vL:∀(W:Wl)(s:AS)(x:cM×Int),db s (W++[x])=db s W++ċG ((dC s W).pl ï).drop Āp|[],s,x=>by change _++[]=[]++_;rw[l_,List.nil_append];rfl|y::r,s,x=>by change _++db _ (r++[x])=(_++db _ r)++_;rw[vL r,me];rfl
def ud(n:Nat)(s:AS)(W:Wl)(x:cM×Int):eB n s (W++[x])=(eB n s W).took n ï Āp:=by unfold eB;rw[v_];rfl
theorem kZ{n:Nat}:{ĝo,s.Ok n,(dC s W).Ok n}|[],_,h=>h|x::r,_,h=>kZ r (h.give ï Āp)
theorem nR{n:Nat}:{ĝo,s.Ok n,(eB n s W).Ok n}|[],_,h=>h|x::r,_,h=>nR r (h.took ï Āp)
def Hd(s:AS)(x:cM×Int)(W:Wl):jz s (x::W)=(ŕ-{ë,Ě6 ï})+jz s W:=by unfold jz;rw[kw,List.sum_cons]
def Sz{x:Int}(h:0<=x)(l:Nat):āS x l=x.toNat-l:=by have(k,()):=ġI h;show Int.toNat_sub k l
def D0{n:Nat}{b:ZA}(h:b.Nodup)(d:∀p∈b,0<=p/\p<n):Ān n:=by
 have:=Nj (l:=b) (m:={Ċo,ĉz n,Ő}) h λp a=>by have(h1,h2):=d p a;show ăa {p.toNat,pa.mpr (o'5 h1 h2),Ø}
 rw[b_,n8]at this;rw[ċO]
def UE(K:Zp)(H:Hp)(d:Ú)(W:Wl):Prop:={Đ,λ(v:V)(x:cM×Int)=>∃b kv,v=ZM/\bj K H b [kv,ã ŕ]/\d8 K H ï kv,d,W}
def UE.get(h:UE K H d W)(i:Nat)(v:V)(e:ąF=Ĕ):∃x,ì W=ù/\∃b kv,v=ZM/\bj K H b [kv,ã ŕ]/\d8 K H ï kv:=ĂS h i v e
def M9(h:qG f g H H')(h1:H f=Į i)(h2:H g=ő .ext φ)(e:bj K H b d):bj K H' b d:=by have kp:Kp H H':={Ĝu,λu d e=>h.tp h1 h2 e,{a,h u _ e ğq ğp}};show kp.tq e
def gh.list(h:gh P w K C H t g i n ow tk m)(d:H b=ò bs)(f:ėU Āz ZM):gh P w K C (ZZ b cs) t g i n ow tk m:=by
 have(dx,a):=h.ins;have kp:Kp H (ZZ b cs):=ø d;show{{dx,{Þ,ay (λz=>by rw[z,d]at a;cases a),a}},{Þ,ay (ďf h.own z d e),h.own},{Þ,ay (ďf h.tak z d e),h.tak},λx j=>?_,?_}
 ·show ip kp (h.keys x j)
 ·have go:∀{tk:ϙ}{m:ān},gX H tk m->(ėU Āz ZM)->gX (ZZ b cs) tk m:=by
   intro tk m h f
   induction h with|nil=>rw[Z5]|@cons x y u v r t k=>have(o,p,l,c,q):=r;rw[ϑ,{ē,{o,p,l,c,?_},k λz s=>f z (fy _ s)},ay (λz=>f x f_ (Ē c z)),q]
  show go h.lsts f
theorem gX.at_(h:gX H tk m)(i:Nat)(x:i7)(e:ì tk=ù):∃y:Pl,ì m=ϵ/\∃l,Āz=ž/\H l=Z1 (ĆJ).map:={ąb,ĂS h i x e,(q.1,ĀB.2,)}
def N5(b:ZA):∀(ow:Ğ),ō yT ow b<=ow.length:=by induction b with|nil=>intro ow;show eH _|cons p r a=>intro ow;show g_ (a _) (F9 ow Ā9)
def NJ(d:ĉW f g)(k j:cM)(b:f)(v:g):io (i6 d k b v) j={ĀH,k,Ĕ,io d j}:=by
 have c:∀a:ĉW f g,io (a.map λy=>ď Ć k (Ć,ĂA,v) y) j={Ϻ,io,a,j} λx=>ĀH k v x:=by
  intro a
  induction a with|nil=>rfl|cons z r l=>
   unfold io at l⊢;rw[kw,tu,tu];have h:{ď,z.1,k,(z.1,z.2.1,v),z}.1=z.1:=by split<;>rfl
   rw[h]
   rw[ρ,z.1,j]
   ·rw[ji e];change Ù {ď,z.1,k,(z.1,z.2.1,v),z}.2.2={Ù,ĀH k v z.2.2};rw[e]
    split<;>rfl
   rw[ų,j_ e,l]
 have i:∀a:ĉW f g,io a k=none->io (a++[(k,b,v)]) j={ĀH,k,Ĕ,io a j}:=by
  intro a h;unfold io at h⊢;rw[YZ]
  rw[ρ,j,k]
  ·subst e;rw[hY (),Option.map_eq_none_iff.mp h];simp
  ·rw[hF e];have:List.find? (λy:cM×f×g=>{Ċ,Ć=j}) [(k,b,v)]=none:={ċM,m_ e}
   rw[this,YC]
 unfold i6
 by_cases hc:{î,Āk io d k}
 ·rw[hY hc,c]
  rw[ρ,j,k]
  ·subst e;have(x,m):=w1.mp hc;rw[m,hY ()];simp
  ·rw[hF e];simp[e]
 rw[ų,hF hc,i d Ěx]
def lC(n:Nat)(s:AS)(ow:Ğ)(m:ān):Prop:=(∀k,bU m k=āa)/\∀p:Int,0<=p->p<n->Ēi ow Ā9=s.oc p
def ko(m:ān)(k j:cM)(kv:V)(b:ZA):bU (i6 m k kv b) j={ĀH,k,b,bU m j}:=by
 unfold bU;rw[NJ]
 split<;>rfl
def lC.free(h:lC n s ow m):ju n ow=rO n s.oc:=by
 unfold ju rO
 congr 1
 show Ĥs ĖF;have:=pa.mp hi;rw[<-Ŕ i (o'6) (o'7 this)];cases bM ow ĎA<;>rfl
theorem lC.give(h:lC n s ow m)(k:cM)(kv:V)(c:Nat):lC n (s.give k c) (yT ow (ċG ċH c)) (i6 m k kv (ċF c)):=by
 show{ĄP,λp b d=>?_}
 ·rw[ko,ü];rfl
 ·rw[wf];change _={ĄD,p,ċH c,false,s.oc p}
  rw[ďN,p,ċH c]
  ·rw[hY a,hY (XI.mpr a)];rfl
  ·rw[ý,hF a,hF {ÿ,a,XI.mp z},Ŕ p b d]
theorem lC.took(h:lC n s ow m)(k:cM)(kv:V)(c:Nat):lC n (s.took n k c) (qA ow kv (ąw (c-ąJ))) (i6 m k kv (āa++ąw (c-ąJ))):=by
 show{ĄP,λp a b=>?_}
 ·rw[ko,ü];rfl
 ·rw[zi];change _={ĄD,p,ąw (c-ąJ),true,s.oc p}
  split
  ·rfl
  ·show Ŕ p a b
def hV.refl(H:Hp)(tk:ϙ):hV H tk tk:=λx a=>à {x,a,()}
theorem hV.trans(a:hV H tk d)(b:hV i d f)(h:∀l,i l=none->H l=none):hV H tk f:=λx j=>by
 have(y,k,e)||(l,e,c):=b x j
 ·have(z,m,g)||(l,g,c):=a y k
  rw[Ř,{z,m,g.trans e}]
  rw[ϛ,{l,e▸g,c}]
 rw[ϛ,{l,e,h l c}]
def fk{b:Type}{l:ZO}{i:Nat}{x:b}(h:ąG=ù):l.take (i+1)=l.take i++[x]:=by rw[ov,h];rfl
theorem yn{n:Nat}:{ĝo,s.Ok n,ō db s W<=n*W.length}|[],_,_=>ku _|x::r,s,h=>by change{Ļ,_,db _ r}<=n*(r.length+1);have b:=yn r (h.give ï Āp);have h1:=D0 (h.nd ï) λp a=>{(h.in_ ï p a).1,(h.in_ ï p a).2.1};rw[gV,XT,Qv,Nat.mul_add,Nat.mul_one,Nat.add_comm];show {ĝe,b,g_ (Nat.sub_le _ _) h1}
def q9{K:Zp}{a:Addr}{xs:Ú}{g:TG}{tb:TS}{D:jx}{b:St}{H:Hp}(Pv:Ĉc)(h0:Pv 0 b H)(f:{Čj,Ąp,Pv i b H->aZ K H a xs})(h:∀i x b H,Ĉb=ù->Pv i b H->{Ĝd,Ų,{āP,Pv (i+1) b H,N b H}->g x b H λd j=>tb (N,R,B,N,) d j})(hd:{āP,ČS b H,D.nx b H}):=vD (K:=K) (a:=a) (g:=g) (tb:=tb) (D:=D) Pv h0 f (λi x b H e p=>h i x b H e p _ D.rt _ Ăd) hd
def HC{lo:Int}{n:Nat}{g:TG}{tb:TS}{D:jx}{b:St}{H:Hp}(Pv:Ĉc)(h0:Pv 0 b H)(f:{Čj,i<n,Pv i b H->{Ĝd,Ų,{āP,Pv (i+1) b H,N b H}->g {ã,lo+i} b H λd h=>tb (N,R,B,N,) d h}})(hd:{āP,Pv n b H,D.nx b H}):=nI (lo:=lo) (n:=n) (g:=g) (tb:=tb) (D:=D) Pv h0 (λi b H e p=>f i b H e p _ D.rt _ Ăd) hd
def Bt(R:Ė cM V)(n:Nat)(s:AS)(ow:Ğ):Prop:=∀(p:Int)(v:V),0<=p->p<n->bM ow Ā9=Ĕ->∃k,p∈āa/\R k v
set_option tactic.hygienic true in
theorem Bt.give(h:Bt R n s ow)(k:cM)(c:Nat):Bt R n (s.give k c) (yT ow (ċG ċH c)):=by
 intro p v b d e;rw[wf]at e
 split at e
 ·cases e
 ·rename_i f;have(j,a,r):=h p v b d e;rw[Č5,{j,?_,r},p∈{č3,k,ċF c}]
  split
  ·rename_i g;rw[g,<-sg c āa,List.mem_append]at a;show a.resolve_right {ÿ,f,XI.mpr z}
  ·show a
set_option tactic.hygienic true in
theorem Bt.took(h:Bt R n s ow)(k:cM)(b:R k kv)(c:Nat):Bt R n (s.took n k c) (qA ow kv (ąw (c-ąJ))):=by
 intro p v d f e;rw[zi]at e
 split at e
 ·rename_i g;cases e;rw[Č5,{k,?_,b},p∈{ď,k,k,āa++ąw (c-ąJ),āa}]
  rw[ó,hY (),lm _ g]
 ·have(j,a,r):=h p v d f e;rw[Č5,{j,?_,r},p∈{č3,k,āa++ąw (c-ąJ)}]
  split
  ·rename_i i;rw[i]at a;show nn _ a
  ·show a
def Bt.mono(h:Bt R n s ow)(f:∀k v,R k v->b k v):Bt b n s ow:=λp v a c e=>let⟨k,h1,h2⟩:=h p v a c e;{k,h1,f k v h2}
inductive LO(P:Zu)(w:World)(K:Zp)(C N:Addr)(vs:Ú)(H:Hp)(Q:VK)(E:XK):Prop|mk(t od td wl:Addr)(n:Nat)(ow:Ğ)(tk:ϙ)(m:ān)(S:AS)(W:Wl)(ts:Ú)(_:vs=[ľ,â wl])(_:gh P w K C H t od td n ow tk m)(_:lC n S ow m)(_:Bt (d8 K H) n S ow)(_:S.Ok n)(_:H wl=ò ts)(_:UE K H ts W)(_:(∀x∈W,0<=ŕ))(_:(W.map (·.1)).Nodup)(_:W.length<=5)(_:Ŭ n)(_:tk.length<=5000)(_:ow.length<=500000)(_:(jz S W<={ë,ō rO n S.oc}->∀(l:Addr)(ow':Ğ)(tk':ϙ)(m':ān)H',qG od td H H'->gh P w K C H' t od td n ow' tk' m'->lC n (eB n (dC S W) W) ow' m'->Bt (d8 K H) n (eB n (dC S W) W) ow'->H l=none->H' l={Z1,Ϻ db S W}->hV H tk tk'->(∀x∈tk',Āz≠ž)->ėV 10->ow'.length<=ow.length+5000->Ăj l))(_:({ë,ō rO n S.oc}<jz S W->{Ćx,ao H H',â N}))
def WE{a b c d i:Nat}(h1:b<=a+1000*i)(h2:c<=b+d)(h3:Ŭ d):c<=a+1000*(i+1):=by rw[Nat.mul_add,<-Nat.add_assoc];show g_ h2 (ĝe h1 h3)
inductive JG(P:Zu)(w:World)(K:Zp)(a:ja)(H H2:Hp)(t od td:Addr)(n:Nat)(wl lb:Addr)(tk:ϙ)(ow:Ğ)(S:AS)(W:Wl)(i:Nat)(σ:St)(H':Hp):Prop|mk(ow':Ğ)(tk':ϙ)(m':ān)(v2 v4 v5:ĀV)(o:qG od td H2 H')(hT:gh P w K a.cy H' t od td n ow' tk' m')(hS:lC n (dC S Ăt) ow' m')(hR:Bt (d8 K H) n (dC S Ăt) ow')(nw:hV H2 tk tk')(lt:ėV i)(lo:ow'.length<=ow.length)(nl:∀x∈tk',Āz≠â lb)(bs:H' lb={Z1,Ϻ db S Ăt})(le:∀j x,j<i->W[j]?=ù->{ë,Ĉp m' ï}<=ŕ)(e:σ=[í t,í wl,v2,í lb,v4,v5]):JG P w K a H H2 t od td n wl lb tk ow S W i σ H'
inductive JH(P:Zu)(w:World)(K:Zp)(a:ja)(H H2:Hp)(t od td:Addr)(n:Nat)(wl lb:Addr)(tk':ϙ)(ow':Ğ)(tk:ϙ)(S:AS)(W:Wl)(v2:ĀV)(i:Nat)(σ:St)(H':Hp):Prop|mk(ow5:Ğ)(tk5:ϙ)(m5:ān)(v4 v5:ĀV)(o:qG od td H2 H')(hT:gh P w K a.cy H' t od td n ow5 tk5 m5)(hS:lC n (eB n (dC S W) Ăt) ow5 m5)(hR:Bt (d8 K H) n (eB n (dC S W) Ăt) ow5)(nw:hV H2 tk tk5)(nl:∀x∈tk5,Āz≠â lb)(bs:H' lb={Z1,Ϻ db S W})(lt:tk5.length<=tk'.length+i)(lo:ow5.length<=ow'.length+1000*i)(le:∀j x,i<=j->W[j]?=ù->{ë,Ĉp m5 ï}<=ŕ)(e:σ=[í t,í wl,v2,í lb,v4,v5]):JH P w K a H H2 t od td n wl lb tk' ow' tk S W v2 i σ H'
section
set_option tactic.hygienic true in
def sI(T:ä):aT P w K mg base (lA P w) 3 a.fD.x a.fD.d ěW (LO P w K a.cy a.mC):=by
 show T.fD.okEc eQ ĐQ
 ·have(t,Q,X,wl,n,ow,tk,m,S,W,ts,(),hT,hS,hR,hO,ci,hW,c2,d3,ek,hn,el,en,q,qe):=h;show{_,(ae (bd 2 eQ.nd (aD (K7 K () ()) ĕ T.VZ L2.OK (ac (ub kC [] [4,5] [4,5] (aj oo) (A3 _ 4 5) (eF K () (Y 1)) {ν,jk K () () (b7 (nO kC [] 4) (b7 (nO kC [] 5) jj)),au gp (Y 5) {Č,aK K (),ac {Aa,bv,Y 0,T.bP,T.bH.m,Ņ fw,hr,T.bH.b,bI,ac (Y 4) O} O}}) O))) (ae (aN (aE qg (Y 2) {Č,aK K (),ac (ng (Y 0) T.bP T.fE.m (Ņ sJ) hr T.fE.b .nil bI) O} (aG _)) (ai (qb T.KZ () T.NG () pY (ac ak O))) aF) (ae (bd 3 eQ.nd (a9 O)) (ae (PS.nox (gn oa () (eF K () (Y 1)) (jk K () () (b7 (yD 4 eQ.nd) (b7 (yD 5 eQ.nd) jj))) (ai (aR {č8,cg,K,(),PySem.F.slot_list_extend,PySem.F.type_list_extend,CM,Y 3,ac {Aa,bv,Y 0,T.bP,T.dD.m,Ņ tF,hr,T.dD.b,bI,ac (Y 4) (ac (Y 5) O)} O})))) (ae (PS.nox (gn oa () (eF K () (Y 1)) (jk K () () (b7 (yD 4 eQ.nd) (b7 (yD 5 eQ.nd) jj))) (ai (aR {Aa,bv,Y 0,T.bP,T.iM.m,Ņ BY,hr,T.iM.b,bI,ac (Y 4) (ac (Y 5) O)})))) (ai (az (Y 3)))))))),?_}
  have(dx,hI):=hT.ins;have d4:ts.length=W.length:=ř hW;rw[Ąn,! Ĉr wl {_,å ci},gU,K,wl,ts,λi av H'=>ao H H'/\H' D=ò av/\av=ο {ś,ĉY W.take,λx=>ŕ-{ë,ě S.pl ï}},{am đ hD,af,()},λi av H' _ h=>{å,ü _ _ ci}]
  ·intro i v av H1 hv(s1,a7,());rw[ĚA,i<ts.length,hv,hW.get i v hv];rw[Ŏ,{b,!{é,þ s1 hb,_,! aB {_,! aB {ą,ij (bE ?_)}}}},! mm (s1 _ _ hI) () () (!{t,Q,X,n,ow,tk,m,ï,kv,(),hT.same s1,tP s1 hk,λlp H2 s2 eo d5=>?_}),{_,!{à {_,å d5,()},_,!{(),s2 _ _ a7,by rw[b_,b_,j2,gg];lia,lf hi {bw ēH hD,af,?_}}}}];rw[fk G,hE,hE,hS.1,b_];rfl
  ·intro av H1(s1,a7,());rw[g6 (o'9 d4)]at a7;show{D,!{ċZ a7,aB ?_}};have ea:=hT.same s1;show ! mm (s1 _ _ hI) () () {t,Q,X,n,ow,tk,m,(),ea,hn,λep H2 s2 eq c3=>?_};rw[hS.free]at c3;show{_,!{à {_,å c3,()},_,! ďv}};have A:=ēH;rw[b_];show yR (λe=>{ls (),qe (kl e) H2 A}) (λe=>oE {ls (),λZ aa=>aB ?_});have q:=q (Int.not_lt.mp (y2 e));clear e qe;have ad:=hT.same A;have s3:=ĆR H2 aa;have bz:aJ H2 Z ŀ Z=ąe:=af;have c4:H Z=none:=A.free aa;generalize aJ H2 Z ŀ=H3 at s3 bz⊢;have g:=A _ _ ci;show ! é wl {_,{å,s3 _ _ g}} ?_;have ax:Z≠Q:=λz=>by rw[čT,ad.own,z,aa];cases e
   have a0:Z≠X:=λz=>by rw[čT,ad.tak,z,aa];cases e
   have c6:wl≠Q:=λz=>by rw[čT,ad.own,z,g];cases e
   have c8:wl≠X:=λz=>by rw[čT,ad.tak,z,g];cases e
   have ag:wl≠Q/\wl≠X:=(c6,c8,);have da:{ėU,Āz,â Z}:=λx G z=>by rw[ĄG,G];have(y,_,l,e3,e4):=gX.at_ ad.lsts i x hi;rw[e3]at z;cases z;rw[aa]at e4;cases e4
   have dc:hV H2 tk tk:=hV.refl _ _;have fresh:{ϖ,qG Q X H2 H',H' Q≠none->H' X≠none->∀l,H' l=none->H2 l=none}:=λH' o h1 h2 l hl=>vb o h1 h2 hl;show {ĕC,q9,ts,JG P w K a H H2 t Q X n wl Z tk ow S W,{ow,tk,m,_,_,_,υ s3,ad.same s3,hS,hR,dc,eH _,eH _,da,bz,λj x hj=>{ť,hj,Zj _},()},by have(_,_,_,_,_,_,o,_):=h;show {å,o _ _ g ag.1 ag.2},?_,?_}
   ·intro i v σ H4 hv(al,a8,m',v2,v4,v5,o4,an,ap,ba,a2,di,bB,a3,k,L,())N R B hN;rw[ĚA,i<ts.length,hv,hW.get i v hv];have bb:=c2 x (e_ G);have(er,eb):=an.ins;have dt:qG Q X H H4:={è,qG.of A,o4};have I:=kZ Ăt hO;have as:=fk G;have f:=ap.1 ï;have cn:Ĉp m' ï<=n:={Þ,f,D0 (I.nd ï) λp hp=>{(I.in_ ï p hp).1,(I.in_ ï p hp).2.1}}
    have ec:=yn Ăt hO;have dv:n*ě W.take i<=1000*5:=Nat.mul_le_mul hn (by rw[j2];lia);rw[ĭ,{b,!{é,M9 dt hT.own hT.tak hb,_,! aB {_,! aB āO}}},!{à {(),_,å k},mm eb () () (! !{t,Q,X,n,al,a8,m',ï,kv,ŕ,(),an,fU dt hT.own hT.tak hk,bb,Ø,čQ,{Þ,f,I.nd ï},λl J H5 o5 es dK b0 r u=>?_})}]
    ·rw[f]at hp;have(p0,p1,p2):=I.in_ ï p (YD hp);rw[ó,ap.2 p p0 p1,p2]
    ·have b8:=o5 _ _ k ax a0;have s:∀y∈J,ĆJ≠â Z:=λy hy z=>by
      have(y',cx,e)||(l',e,a5):=r y hy
      ·show a3 y' cx ďE
      ·rw[e]at z;cases z;rw[k]at a5;cases a5
     have bc:{ō,yT,al,ċG (bU m' ï).drop Āp}<=al.length:=N5 _ _;have cG:hV H2 tk J:=a2.trans r (fresh H4 o4 (by rw[an.own];simp) (by rw[an.tak];simp));have E:=ap.give ï kv Āp;rw[f]at dK u bc;rw[ĭ,{Z,l,_,!{(),b8,dK,by rw[b_,b_,XT,Qv,gg];rw[f]at cn;show g_ {ĝe,g_ ec dv,g_ (Nat.sub_le _ _) (g_ cn hn)} ß,?_}},hN _ _ {_,J,_,_,_,_,λc o e h1 h2=>?_,u.list b8 s,Ŝ as vz E,{Ŝ,as,vz,ba.give ï Āp},cG,Ø,g_ bc bB,s,?_,Ĥ9,()}]
     rw[Ĺ,ay (ĉH aa),o5 _ _ (o4 c o e h1 h2) h1 h2]
     ·rw[as,vL,hE];show af
     ·rw[ko]
      split
      ·rw[ģH,Yi j i]
       ·have h1:=L j y a6 hy;rw[e,f]at h1;rw[ó,j2,Int.le_trans (Int.ofNat_le.mpr (XH _ _)) h1]
       ·have:j=i:=Ø
        subst this;rw[G]at hy;cases hy;rw[ó,j2,Int.le_trans (Int.ofNat_le.mpr (Nat.min_le_left _ _)) (Int.le_of_eq (YL bb))]
      ·rw[ģH,Yi j i]
       ·show L j y a6 hy
       ·have:j=i:=Ø
        subst this;rw[G]at hy;rw[ā,hy,ť () e]
   ·intro σ H4(al,a8,m',v2,v4,v5,o4,an,ap,ba,a2,di,bB,a3,k,L,());rw[g6 (o'9 d4)]at ap ba k;have I:=kZ W hO;rw[ĭ,! é wl {_,{å,o4 _ _ g ag.1 ag.2}} ?_,{ĕC,q9,ts,JH P w K a H H2 t Q X n wl Z a8 al tk S W v2,{al,a8,m',_,_,o4,an,ap,ba,a2,a3,k,eH _,eH _,λj x _ G=>L j x {Þ,d4,ŷ G} G,()},by have(_,_,_,_,_,o,_):=h;show {å,o _ _ g ag.1 ag.2},?_,?_}]
    ·intro i v σ H5 hv(bi,J,m5,v4,v5,o5,u,E,bt,r,s,M,b0,b9,cc,())N R B hN;rw[ĚA,i<ts.length,hv,hW.get i v hv];have bb:=c2 x (e_ G);have(ev,ed):=u.ins;have dT:qG Q X H H5:={è,qG.of A,o5};have c0:=nR Ăt I;have as:=fk G;have f:=E.1 ï;have cn:Ĉp m5 ï<=n:={Þ,f,D0 (c0.nd ï) λp hp=>{(c0.in_ ï p hp).1,(c0.in_ ï p hp).2.1}}
     have c1:=cc i x (eH _) G;rw[ç,{b,!{é,M9 dT hT.own hT.tak hb,_,! aB {_,! aB āO}}},mm ed () () (! !{t,Q,X,n,bi,J,m5,ï,kv,ŕ,(),u,fU dT hT.own hT.tak hk,hn,c1,Ø,Ø,Ø,λdV H6 o6 ej cf d0=>?_})];have ef:āS ŕ {ë,Ĉp m5 ï}=Āp-{ě,(eB n (dC S W) Ăt).pl,ï}:={Ă,f,Sz bb _}
     rw[ef,E.free,f]at d0;have bc:=C1 kv ({Ċa,rO,n,(eB n (dC S W) Ăt).oc} (Āp-{ě,(eB n (dC S W) Ăt).pl,ï})) bi;have d1:Ŭ {ě,Ċa rO n (eB n (dC S W) Ăt).oc,Āp-{ě,(eB n (dC S W) Ăt).pl,ï}}:=by have:=Ul n (eB n (dC S W) Ăt).oc;rw[ó,j2,g_ (XH _ _) (g_ this hn)]
     have eg:=E.took ï kv Āp;have d2:∀y∈dV,ĆJ≠â Z:=λy hy z=>by
      have(y',cx,e)||(l',e,a5):=cf y hy
      ·show s y' cx ďE
      ·rw[e]at z;cases z;rw[M]at a5;cases a5
     show hN _ _ {_,dV,_,_,_,o5.trans o6,d0,Ŝ as ud eg,{Ŝ,as,ud,bt.took ï hk Āp},r.trans cf (fresh H5 o5 (by rw[u.own];simp) (by rw[u.tak];simp)),d2,o6 _ _ M ax a0,Ø,WE b9 bc d1,Ĥ9,()};rw[ko,hF ĄO]
     ·show cc j y Ø hy
     ·have e1:(W.map (·.1))[j]?=Ù ï:=by rw[g8,hy,<-z];rfl
      have e2:{ì,(W.map (·.1))}=Ù ï:=by rw[g8,G];rfl
      rw[Š,(H_ (ŷ e1) d3).mp (e1.trans e2.symm)]
    ·intro σ H5(bi,J,m5,v4,v5,o5,u,E,bt,r,s,M,b0,b9,_,());rw[g6 (o'9 d4)]at E bt;show ! q Z bi J m5 H5 {è,qG.of A,o5} u E bt c4 M (hV.trans (hV.refl H tk) r λl hl=>A.free hl) s Ø Ø
omit e
abbrev gd(ns:ZA)(k:Nat):Int:=ns.getD k 0
noncomputable def HI(b gs:ZA):ξ Nat|0=>0|n+1=>if gd b (n+1)*(gd gs (HI b gs n)+1)>gd b (HI b gs n)*(gd gs (n+1)+1)then n+1 else HI b gs n
theorem Ek(b gs:ZA):∀n,HI b gs n<=n
 |0=>eH _|n+1=>by
  have:=Ek b gs n;unfold HI
  split<;>lia
noncomputable def deal(b:ZA):ξ ćM|0=>ąN b.length 0|n+1=>(deal b n).set (HI b (deal b n) ĎL) (gd (deal b n) (HI b (deal b n) ĎL)+1)
theorem qE(b:ZA):∀n,{Ām,ō deal b n}|0=>by simp[deal]|n+1=>{ĀU,deal,wa,qE b n}
def Ui(ns:ZA)(i j:Nat)(v:Int)(h:ėk i):gd (ns.set i v) j={ď,i,j,v,gd ns j}:=by
 unfold gd;rw[l6,l6,X5]
 rw[ρ,i,j]
 ·rw[hY e,hY e];simp[h]
 ·rw[hF e,hF e]
theorem El(b:ZA):∀n k,0<=gd (deal b n) k/\gd (deal b n) k<=n
 |0,k=>by
  have e:gd (deal b 0) k=0:=by
   unfold gd deal;rw[l6,List.getElem?_replicate]
   split<;>rfl
  rw[ó,e,{YH _,Ø}]|n+1,k=>by
  have a:=El b n
  by_cases h0:ċx 0
  ·have:{ō,deal,b,n+1}=0:=Ē qE h0
   have e:=ĆC this;rw[ó,e,{YH _,{ĀQ,û<=_}}]
  ·have c:=Ek b (deal b n) ĎL;rw[deal,Ui _ _ _ _ (by rw[qE];lia)]
   split
   ·rw[Š,a (HI b (deal b n) ĎL)]
   ·rw[Š,a k]
inductive SV(K:Zp)(vs:Ú)(H:Hp)(Q:VK)(_E:XK):Prop|mk(wt gl:Addr)(ws gs:ZA)(_:vs=[â wt,â gl])(_:bj K H wt ĜG)(_:aZ K H gl (ο gs.map))(_:gs.length=ws.length)(_:0<ws.length)(_:čX 4)(_:(∀k,0<=gd gs k/\gd gs k<=2000))(_:Q {ã,{ş,HI ws gs (ws.length-1)}} H)
inductive P1(K:Zp)(vs:Ú)(H:Hp)(Q:VK)(_E:XK):Prop|mk(n:Nat)(wt:Addr)(ws:ZA)(_:vs=[ăk,â wt])(_:n<=2000)(_:bj K H wt ĜG)(_:0<ws.length)(_:čX 4)(_:∀t H',ao H H'->H' t=ĝ {ο,Ϻ deal ws n}->Ăj t)
section
def FC(T:ä):aT P w K mg base dw 1 a.nA.x a.nA.d ["weights","given"] (SV K):=by
 show T.nA.okc lF λH p r h=>?_
 ·have(l,gl,b,gs,(),c,g,j,s,l4,k,q):=h;show{_,(ae (bd 2 lF.nd ah) (ae (gn oa () (CI () T.jr (ac ah (ac {Č,aK K (),ac (Y 0) O} O))) (yD 3 lF.nd) (ai (aN (aE qg (au jl (dy K (Y 0) (Y 3)) (au cu (gx K (Y 1) (Y 2)) ah)) (au jl (dy K (Y 0) (Y 2)) (au cu (gx K (Y 1) (Y 3)) ah)) (aG _)) (ai (bd 2 lF.nd (Y 3))) aF))) (ai (az (Y 2))))),?_}
  rw[ĭ,!{_,b.length,(),Čw c,_,!{{ß,ß,Ø,Ø},?_}},{ēA,nI,1,āS čC 1,λi f H'=>H=H'/\∃v,f=[í l,í gl,āM {ş,HI b gs i},v],{(),_,()},?_}]
  ·intro i f _ hi((),v,());have hd:=Ek b gs i;have m:0<=gs.getD (HI b gs i) 0/\gs.getD (HI b gs i) 0<=2000:=k (HI b gs i);have o:0<=gs.getD (i+1) 0/\gs.getD (i+1) 0<=2000:=k (i+1);have ei:(ϸ+Ő)={Ď,i+1}:=Ø
   rw[ĭ,! ! rX c (rj Ø Ø) (! ! rX g (rj (o'6) Ø) (r2 (r2 ?_))),{æ {?_,?_},?_}]
   ·rw[Ėq]
   ·rw[Ėq]
   rw[Ģ,! ! rX c (rj (o'6) Ø) (! ! rX g (rj Ø Ø) (r2 (r2 ?_))),ei];show{æ {?_,?_},?_}
   ·rw[Ėq]
   ·rw[Ėq]
   show r2 ă;simp only[pv];show oN Ϝ Ϝ
   ·show !{(),āM {Ď,i+1},?_};rw[HI,hY h];rfl
   ·show{(),āM {Ď,i+1},?_};rw[HI,hF h];rfl
  ·intro f _((),v,());have e:āS čC 1=ĎL:={Ϭ,o'24 s}
   rw[ó,e,! q]
def M0(T:ä):aT P w K mg base dw 2 a.C8.x a.C8.d ["total","weights"] (P1 K):=by
 show T.C8.okc uo λH I A h=>?_
 ·have(n,f,b,(),hn,v,B,l4,q):=h;show{_,(ae (bd 2 uo.nd (au MU (a9 (ac ah O)) {Č,aK K (),ac (Y 1) O})) (ae (gn oa () (gO () T.jr (ac (Y 0) O)) (yD 3 uo.nd) (ae (bd 4 uo.nd (pc T.nA (FC T) A (ac (Y 1) (ac (Y 2) O)))) (ai (mn (au cu (gx K (Y 2) (Y 4)) ah) (oy (Y 2) (Y 4) Mm))))) (ai (az (bh (du K ()) ĕ T.cX L2.bF (ac (Y 2) O)))))),?_}
  show{ls (),λl y=>?_};have j:bj K {ĀE,[ã 0]} f (ο b.map):={þ,am ϐ y,v};show !{_,b.length,(),Čw j,l,_,!{(),af,Ø,Ø,cP (by simp;lia),ĖD}};have C:ao H {ń,ĀE [ã 0],g,{Ć0,ăF b.length,[ñ 0]}}:=am (am ϐ y) hg;have D:{Ć0,ăF b.length,[ñ 0]}={ο,Ϻ deal b 0}:=by
   rw[pv,deal,List.map_replicate];generalize b.length=m
   induction m with|zero=>rfl|succ m E=>rw[t8,Ia,E,t8];rfl
  have o:H g=none:=(TM hg).2;rw[ĭ,!{ϩ,(),Ø,Ø,?_},{ēA,nI,0,ăF n,λi p H'=>ao H H'/\H' g={Z1,Ϻ deal b i}/\(Vb λr s=>p=[āM n,í f,í g,r,s]),{C,Ē af D,_,_,()},?_}]
  ·intro i p F hi(e,c,r,s,());have z:=El b i;have hd:=Ek b (deal b i) ĎL;have u:=qE b i;rw[Ŧ,! !{f,g,b,deal b i,(),þ e v,å c,u,B,l4,λk=>{(z k).1,ļ (z k).2},?_},! ! rX (å c) (rj (o'6) Ø) (r2 ?_),! !{g,_,_,!{(),c,Q5 (o'6) (by simp;lia),?_}},{bw e o,?_,_,_,()}];rw[af];simp only[pv];rw[FR];rfl
  ·intro p F(e,c,r,s,());rw[ö,!{g,!{ąv,c,λt G=>?_}},q t _ (am e G) af]
omit e
inductive EQ(C:Addr)(vs:Ú)(H:Hp)(Q:VK)(_E:XK):Prop|mk(t dx ar ru sh:Addr)(hm:Str)(_:vs=[ľ,á hm,â ar,â ru,â sh])(_:H t=Ār C [])(_:∀(ba:Addr)H',H ba=none->{ê,H b=Û,ú t->H' b=Û}->H' t=Ār C [ėa hm,ϱ "arms" ar,ϱ "rule" ru,ĞK sh,ğj,ćw Ćf,ĝV ba]->H' ba=Ą7->ćc Q)
section
def yH(T:ä):aT P w K mg base dw 1 a.fC.x a.fC.d ["self","home","arms","rule","shuts"] (EQ a.iz):=by
 show T.fC.okc yw λH l m h=>?_
 ·have(t,dx,ar,ru,sh,hm,(),k,q):=h;show{_,(ae (cW K () (Y 0) (Y 1)) (ae (cW K () (Y 0) (Y 2)) (ae (cW K () (Y 0) (Y 3)) (ae (cW K () (Y 0) (Y 4)) (ae (cW K () (Y 0) g9) (ae (cW K () (Y 0) g9) (ai (cW K () (Y 0) ni)))))))),?_}
  rw[ĄZ,! !{t,_,dx,!{k,T.bG,T.jZ,Ü,?_}},{ąA,i5 "home" (ĵ hm) [],[ăf]},! !{t,_,dx,!{af,T.bG,T.fS,Ü,?_}}];rw[gc,{ąA,i5 "arms" (ϫ ar) [ăf],[ăf,ąf]}];show ! !{t,_,dx,!{af,T.bG,T.sK,Ü,?_}};rw[gc,{ąA,i5 "rule" (ϫ ru) [ăf,ąf],[ăf,ąf,ćQ]}];show ! !{t,_,dx,!{af,T.bG,T.qu,Ü,?_}};rw[gc,{ąA,i5 "shuts" (ϫ sh) [ăf,ąf,ćQ],[ăf,ąf,ćQ,Če]}];show !{t,_,dx,!{af,T.bG,T.kd,Ü,?_}};rw[gc,{ąA,i5 "paused" čK [ăf,ąf,ćQ,Če],[ăf,ąf,ćQ,Če,Ēk]}];show !{t,_,dx,!{af,T.bG,T.fL,Ü,?_}};rw[gc,{ąA,i5 "closed" čK [ăf,ąf,ćQ,Če,Ēk],[ăf,ąf,ćQ,Če,Ēk,ćw čK]}];show λf c=>?_;have i:t≠f:=λz=>by rw[<-z,af]at c;cases c
  rw[Ģ,!{t,_,dx,!{{Ąe,ay i},T.bG,T.ke,Ü,?_}},{ąA,i5 "barred" (ϫ f) [ăf,ąf,ćQ,Če,Ēk,ćw čK],[ăf,ąf,ćQ,Če,Ēk,ćw čK,ąU "barred" f]}];have g:H f=none:=by rw[ay (m_ i)]at c;show c
  show q f _ g Ĥ8 af {Ąe,ay (m_ i)};rw[ay j,ay (aI e g),ay j];show e
omit e
inductive ET(P:Zu)(w:World)(K:Zp)(C D:Addr)(vs:Ú)(H:Hp)(Q:VK)(_E:XK):Prop|mk(t dx:Addr)(z:Int)(n:Nat)(_:vs=[ľ,ı,ăk])(_:H t=Ār C [])(_:∀(tb od td iu:Addr)H',H tb=none->H od=none->H td=none->H iu=none->od≠iu->{ê,H b=Û,ú t->H' b=Û}->H' t=Ār C [ĐA ı,ϱ "table" tb,ϱ "inside" iu]->gh P w K D H' tb od td n [] [] []->H' iu=Ą7->ćc Q)
section
def yJ(T:ä):aT P w K mg base dw 3 a.fG.x a.fG.d ėf (ET P w K a.gE a.cy):=by
 show T.fG.okc yy λH Z Q h=>?_
 ·have(t,dx,z,n,(),R,q):=h;show{_,(ae (cW K () (Y 0) (Y 1)) (ae (cW K () (Y 0) {Aa,uT,T.Nt,Ņ yI,Q,(),T.QU,T.fF.b,bI,ac (Y 2) O}) (ai (cW K () (Y 0) ni)))),?_}
  rw[Ģ,! !{t,_,dx,!{R,T.cT,T.kU,Ü,?_}},{ąA,i5 "slope" (ñ z) [],Ęt}];have f1:{ê,H b=Û,ú t->aJ H t Ęu b=Û}:=λb o e m=>{Þ,ay m,e}
  have g:aJ H t Ęu t=Ār a.gE Ęt:=af;have v:∀b,aJ H t Ęu b=none->H b=none:=λb e=>by
   rw[ĆN,b,t]
   ·rw[ęJ,h,af,e]
   ·rw[ą5,ay h,e]
  generalize aJ H t Ęu=k at f1 g v⊢;show ! λc ty i D E=>?_;have f2:{ê,k b=Û,aJ (ĆP k c) c ĖN b=Û}:={Ē7,ay (aI e i),ay (aI e D),e}
  have y:aJ (ĆP k c) c ĖN c=āA a.cy ty []:=af;have A:aJ (ĆP k c) c ĖN ty=ăY c:={Ąe,ay E}
  generalize aJ (ĆP k c) c ĖN=S at f2 y A⊢;show{c,ty,n,(),y,A,λM N B p r f3 f=>āO};have n1:∀b,S b=none->k b=none:=λb e=>by cases z:k b with|none=>rfl|some o=>rw[ĀJ,f2 b o z,e]
  have s:{ê,k b=Û,B b=Û}:={ĆQ,f3,b,o,f2 b o e,aI e i};have F:=s _ _ g;rw[ĄZ,!{t,_,dx,!{F,T.cT,T.gu,Ü,?_}},{ąA,i5 "table" (ϫ c) Ęt,[Ďr,đO c]},λu l=>?_];have it:t≠u:=λz=>by rw[<-z,af]at l;cases l
  have j:B u=none:=by rw[ay (m_ it)]at l;show l
  rw[Ģ,!{t,_,dx,!{{Ąe,ay it},T.cT,T.cU,Ü,?_}},{ąA,i5 "inside" (ϫ u) [Ďr,đO c],[Ďr,đO c,ąU "inside" u]}];have n3:∀b,B b=none->k b=none:=λb e=>by cases z:k b with|none=>rfl|some o=>rw[ĀJ,s b o z,e]
  have C:{ê,B b=Û,ú t->aJ (aJ (aJ B t {ĝ9,[Ďr,đO c]}) u (.dK [])) t {ĝ9,[Ďr,đO c,ąU "inside" u]} b=Û}:=λb o e m=>by rw[ay m,ay (aI e j),ay m];show e
  have G:c≠t:=λz=>by rw[z,g]at i;cases i
  have I:M≠t:=λz=>by rw[z,f2 _ _ g]at p;cases p
  have J:N≠t:=λz=>by rw[z,f2 _ _ g]at r;cases r
  show q c M N u _ (v _ i) (v _ (n1 _ p)) (v _ (n1 _ r)) (v _ (n3 _ j)) (aI f.own j) (λb o e m=>C b o (s b o (f1 b o e m)) m) af ?_ {Ąe,ay (m_ it)};have(L,W):=f.ins;show{{L,C _ _ W G},C _ _ f.own I,C _ _ f.tak J,λx X=>(ĄM X),.nil}
omit e
inductive EV(C:Addr)(vs:Ú)(H:Hp)(Q:VK)(_E:XK):Prop|mk(t dx:Addr)(z sa:Int)(_:vs=[ľ,ı,ã sa])(_:H t=Ār C [])(_:(2<=z/\z<=997))(_:(∀i:Nat,2+Ő<z->z%(2+Ő)≠0))(_:(0<=sa/\sa<=bg))(_:∀(ln tn ci dl:Addr)H',H ln=none->H tn=none->H ci=none->H dl=none->ln≠tn->ln≠ci->tn≠ci->{ê,H b=Û,ú t->H' b=Û}->H' t=Ār C [Ėz ı,{ėc,ã sa},ĥS ln,ĥT tn,ϱ "came_into" ci,ϱ "deeds" dl]->H' ln=Ą7->H' tn=Ą7->H' ci=Ą7->H' dl=ąe->ćc Q)
def Bn(t:Addr)(H H':Hp):Prop:={ê,H b=Û,ú t->H' b=Û}
def Bn.no{t a:Addr}(h:Bn t H H')(e:H' a=none)(n:a≠t):H a=none:=by cases z:H a with|none=>rfl|some o=>rw[ĀJ,h a o z n,e]
@[elab_as_elim]theorem nz{H:Hp}{a:Addr}{o:HO}{motive:ăx}(b:H a=none)(h:{ϖ,ao H H',H' a=Û->motive H'}):motive (aJ H a o):=h _ (am ϐ b) af
@[elab_as_elim]theorem J8{H:Hp}{t:Addr}{o:HO}{motive:ăx}(h:{ϖ,Bn t H H',H' t=Û->motive H'}):motive (aJ H t o):=h _ (λ_ _ e n=>{Þ,ay n,e}) af
section
def yN(T:ä):aT P w K mg base dw 5 a.fJ.x a.fJ.d ĉ4 (EV a.cf):=by
 show T.fJ.okc yB λH vs Z h=>?_
 ·have(t,dx,z,sa,(),j,h1,h2,h3,q):=h;show{_,(ae (aR (pc T.i0 (Aw T) Z (ac (Y 1) (ac (Y 2) O)))) (ae (cW K () (Y 0) (Y 1)) (ae (cW K () (Y 0) (Y 2)) (ae (cW K () (Y 0) ni) (ae (cW K () (Y 0) ni) (ae (cW K () (Y 0) ni) (ai (cW K () (Y 0) (a9 O))))))))),?_}
  rw[Ŧ,! !{z,sa,(),h1,h2,h3,λH0 s=>?_},! !{t,_,dx,!{s _ _ j,T.aH,T.cC,Ü,?_}},J8 λH1 o1 t1=>?_,! !{t,_,dx,!{t1,T.aH,T.jq,{Ĥ,1<1000},?_}}];rw[Ŧ,J8 λH2 o2 u=>?_,λln g=>nz g λH3 v e3=>?_,!{t,_,dx,!{v _ _ u,T.aH,T.be,{Ĥ,2<1000},?_}},J8 λk l A=>?_];rw[Ŧ,λtn f=>nz f λH5 B e5=>?_,!{t,_,dx,!{B _ _ A,T.aH,T.aW,{Ĥ,3<1000},?_}},J8 λm C D=>?_,λE c=>nz c λH7 F e7=>?_];rw[Ŧ,!{t,_,dx,!{F _ _ D,T.aH,T.fA,{Ĥ,4<1000},?_}},J8 λp G I=>?_,{ls (),λdl i=>nz i λH9 J e9=>?_},!{t,_,dx,!{J _ _ I,T.aH,T.kW,{Ĥ,5<1000},?_}}];show J8 λL M ta=>?_;have n1:ln≠t:=λy=>by rw[y,u]at g;cases g
  have n2:tn≠t:=λy=>by rw[y,A]at f;cases f
  have n3:E≠t:=λy=>by rw[y,D]at c;cases c
  have n4:dl≠t:=λy=>by rw[y,I]at i;cases i
  have N:Bn t H H2:={ĉE,o2,b,o,o1 b o (s b o e) n,n};have p4:Bn t H3 k:=l;have Q:Bn t H k:={ĉE,l,b,o,v b o (N b o e n),n};have R:Bn t k m:={ĉE,C,b,o,B b o e,n};have r:Bn t m p:={ĉE,G,b,o,F b o e,n};have ga:Bn t p L:={ĉE,M,b,o,J b o e,n};have S:Bn t H m:={ĉE,R,b,o,Q b o e n,n};have V:Bn t H p:={ĉE,r,b,o,S b o e n,n};have l4:=l _ _ e3 n1;have W:=R _ _ l4 n1;have l8:=r _ _ W n1;have X:=C _ _ e5 n2;have m8:=r _ _ X n2;show q ln tn E dl L (N.no g n1) (Q.no f n2) (S.no c n3) (V.no i n4) (aI l4 f) (aI W c) (aI X c) {ĉE,ga,b,o,V b o e n,n} ta (ga _ _ l8 n1) (ga _ _ m8 n2) (ga _ _ (G _ _ e7 n3) n3) (M _ _ e9 n4)
omit e
noncomputable def IL(c:Nat):Int:=Txt.find iJ ZV
noncomputable def D5(m:Int)(cs:Zy):Int:=cs.foldl (λm c=>1009*m+IL c+1) m
def Nw{m:Int}{cs:Zy}{i c:Nat}(h:ì cs=ŗ):D5 m (cs.take (i+1))=1009*D5 m (cs.take i)+IL c+1:=by unfold D5;rw[ov,h,v_];rfl
def TH{c:Nat}(h:c∈iJ.cps.toList):∃i r,Đh iJ ZV 0 iJ.length 1=i::r/\IL c=ş i:=by have e:=StrLaws.found_one iJ c;rw[ji h]at e;cases q:Đh iJ ZV 0 iJ.length 1 with|nil=>rw[ĀJ,q,e]|cons i r=>show{i,r,(),?_};unfold IL Txt.find;rw[q]
noncomputable def yC(p m sl:Int)(x:Str):Int:={ď,sl,p,đs D5 m%(p*p)%p,(đs D5 m%(p*p)/p+sl*(đs D5 m%(p*p)%p))%p}
inductive PH(vs:Ú)(H:Hp)(Q:VK)(_E:XK):Prop|mk(p:_)(m:_)(x:_)(_:vs=[ã p,ã m,ħ])(_:Dr x)(_:(2<=p/\p<=997))(_:∀t,H t=none->{τ,t,ĀF t [{ã,đs D5 m%(p*p)/p},{ã,đs D5 m%(p*p)%p}]})
inductive PL(K:Zp)(vs:Ú)(H:Hp)(Q:VK)(_E:XK):Prop|mk(t:Addr)(p s x y:Int)(_:vs=[ã p,ã s,ľ])(_:bj K H t [ã x,ã y])(_:0<p)(_:(0<=s/\Ŭ s))(_:Q {ã,{ď,s,p,y,(x+s*y)%p}} H)
inductive JU(a:ja)(vs:Ú)(H:Hp)(Q:VK)(_E:XK):Prop|mk(h lo dx dl:Addr)(fs gs:āf)(p m sl:Int)(x:Str)(_:vs=[â h,â lo,ħ])(_:H h=ġd a.cf)(_:{ĈD,ώ "own_prime"}={Ù,ñ p})(_:{ĈD,ώ "own_salt"}={Ù,ñ m})(_:H lo=āA a.gE dl gs)(_:gs.lookup {ώ,"slope"}={Ù,ñ sl})(_:Dr x)(_:(2<=p/\p<=997))(_:(0<=sl/\Ŭ sl))(_:{ϖ,ao H H',Q {ã,yC p m sl x} H'})
section
def FA(T:ä):aT P w K mg base dw 1 a.m7.x a.m7.d ["p","salt","guest"] PH:=by
 show T.m7.okc lE λH g k h=>?_
 ·have(p,m,x,(),hg,(l,n),q):=h;show{_,(ae (bd 3 lE.nd (Y 1)) (ae (gn oa () (MJ (Y 2)) (yD 4 lE.nd) (ai (bd 3 lE.nd (au cu (au cu (au jl (bV T.Rs ()) (Y 3)) {Đc,cg,K,(),PySem.F.slot_str_index,PySem.F.type_str_index,Nq,bV T.sR (),ac (Y 4) O}) ah)))) (ai (az (aD Gm ĕ T.Nl L2.Go (ac (au bq (Y 3) (au jl (Y 0) (Y 0))) (ac (Y 0) O))))))),?_}
  rw[ĭ,! !{x,(),?_},Re {ċI,H=H',∃v,b=[āM p,āM m,Ù ħ,{āM,D5 m (x.cps.toList.take i)},v]} {(),_,()} ?_ ?_]
  ·intro i c b _ hc((),v,());have(j,r,f,hn):=TH (hg.cs c (e_ hc));show ! r2 {ēB,(),!{iJ,_,j,r,(),(),f,_,!{ą,r2 {(),ĄX ZV,?_}}}};rw[Nw hc,hn];rfl
  ·intro b _((),v,());rw[g6 (eH _)];have e:û<p*p:=Int.mul_pos (o'25 l) (o'25 l);show ! ! ! r2 {à ϻ,_,!{(),e,!{_,!{{{Ϭ,o'25 l},Ø},q}}}}
def FB(T:ä):aT P w K mg base dw 1 a.m9.x a.m9.d ["p","slope","point"] (PL K):=by
 show T.m9.ok pG λc A outer s H f Q E g h=>?_
 ·have(t,p,s,x,y,(),b,e,(i,j),q):=h;show{_,(ae (bd 3 pG.nd (dy K (Y 2) ah)) (ae (bd 4 pG.nd (dy K (Y 2) ah)) (ae (aN (aE aQ (Y 1) (Y 0) (aG _)) (ai (az (Y 4))) aF) (ai (az (au bq (au cu (Y 3) (au jl (Y 1) (Y 4))) (Y 0))))))),?_}
  (rw[ċi,! rX b () ?_]);show ! !{ĥ,kz Ϝ Ϝ}
  ·rw[Ăs,hY h,! q]
  ·rw[Ăs,hF h,! ! ! r2 {à ϻ,_,! ċ1 r2 (e,q,)}]
def lQ(T:ä):aT P w K mg base dw 2 a.cQ.x a.cQ.d ĈI (JU a):=by
 show T.cQ.okc ux λH o c h=>?_
 ·have(h,lo,dx,dl,fs,gs,p,m,sl,x,(),b,e,f,g,i,j,k,l,q):=h;rw[ϯ,{_,(ai (az (pc T.m9 (FB T) c (ac (aO K () (Y 0)) (ac (aO K () (Y 1)) (ac (pc T.m7 (FA T) c (ac (aO K () (Y 0)) (ac (aO K () (Y 0)) (ac (Y 2) O)))) O)))))),?_},!{h,_,dx,_,!{b,T.aH,T.cC,e,!{lo,_,dl,_,!{g,T.cT,T.kU,i,!{h,_,dx,_,!{b,T.aH,T.cC,e,!{h,_,dx,_,!{b,T.aH,T.jq,f,!{p,m,x,(),j,k,λt n=>?_}}}}}}}}},{t,p,sl,_,_,(),Ń,Ø,l,q _ (am ϐ n)}]
omit e
abbrev eY(x y:Str):cM:=æ [ũ,æ y]
structure cH where
 nm:Str
 sl:Int
 S:AS
 ins:İ
structure dS where
 nm:Str
 home:Str
 arms:ċ
 rule:Ru
 shuts:ċ
 pau:Bool
 clo:Bool
 bar:ċ
structure bJ where
 p:Nat
 salt:Int
 las:ČE
 trs:ĉ dS
 came:ću
structure ZS where
 G:Ro->Addr
 dx:Ro->Addr
 cv:(Ğ)ds:Ú
 iv:(ξ Ğ)ow:(ξ Ğ)tk:ξ ϙ
 ar:ξ Addr
 ru:ĆW
 sh:ξ Addr
noncomputable def lV:ċ->ĆW->Ğ|[],_=>[]|n::r,f=>(æ n,f 0)::lV r λi=>f (i+1)
noncomputable def cont(P:Zu)(w:World)(a:ja)(M:bJ)(Z:ZS):Ro->ŭ HO|.hh=>{āA,a.cf,Z.dx .hh,[Ėz ĉu,ėc ĝt,("layer_named",Ţ .ln),("trial_named",ēI),("came_into",Ţ .ci),("deeds",ěL)]}|.ln=>{Į,lV ό ĄS}|.tn=>{Į,lV Δ ċt}|.ci=>Į Z.cv|.dl=>ĘE|.lo i=>ēz λl=>{Ċp,a.gE,Z.dx (.lo i),[{ĐA,ã l.sl},("table",{Ţ,.tb i}),("inside",{Ţ,.iu i})]}|.iu i=>ēz λ_=> .dK (Z.iv i)|.tb i=>ēz λ_=>{Ċp,a.cy,Z.dx (.tb i),[Ě8 ĉu,("owners",{Ţ,.od i}),("taken",{Ţ,.td i})]}|.od i=>ēz λ_=> .dK āq|.td i=>ēz λ_=>dM P w ĂZ ĀT|.tr i=>(Ć7).map λt=>{Ċp,a.iz,Z.dx (.tr i),[ĝI,("arms",ć5 Z.ar i),{ēW,Z.ru i},("shuts",ć5 Z.sh i),ğk,{ćw,Ĳ t.clo},("barred",{Ţ,.ba i})]}|.ba i=>(Ć7).map λt=> .dK (t.bar.map λg=>(ġ,Ā6))
def cB(K:Zp)(H:Hp)(iv:Ğ)(ins:İ):Prop:={Đ,λ(x:cJ×V)(y:Str×Str×Str)=>ï=æ Ć/\∃s,ŕ=â s/\bj K H s [ď0,ď7],iv,ins}
def mz(K:Zp)(H:Hp)(b:Ú)(d:čI):Prop:={Đ,λ(u:V)(y:Str×Str)=>∃s,u=â s/\bj K H s [á Ć,á ZH],b,d}
def gb(K:Zp)(H:Hp)(dl:Addr)(cv:Ğ)(cm:ću):Prop:={Đ,λ(x:cJ×V)(y:Str×List (Str×Str))=>ï=æ Ć/\∃l a,ŕ=ž/\l≠dl/\H l=ò a/\mz K H a ZH,cv,cm}
structure Im(dl:Addr)(H H':Hp):Prop where
 kp:Kp H H'
 ls:∀b xs,H b=ò xs->ú dl->H' b=ò xs
section
variable{H d:Hp}{dl:Addr}
theorem Im.of(h:ao H d):Im dl H d:={υ h,λb a e _=>h b _ e}
def cB.kp(e:Kp H d)(h:cB K H iv ins):cB K d iv ins:=ăO h {q.1,ąb ņ {q.1,ăV ņ}}
def mz.kp(e:Kp H d)(h:mz K H b f):mz K d b f:={ăO,h,Ćc {q.1,ăV ņ}}
def gb.im(e:Im dl H d)(h:gb K H dl cv cm):gb K d dl cv cm:=ăO h {q.1,{ąb,ņ,Ćc {q.1,Ąl,e.ls _ _ ĀB.1 Ąl,ĀB.2.kp e.kp}}}
def gX.im(e:Im dl H d)(n:{ėU,Āz,â dl})(h:gX H tk m):gX d tk m:=ĞP h {q.1,Ąl,ąb ĀB {q.1,e.ls _ _ ņ λz=>n x a (Ē q.1 z)}}
omit e
structure bY(P:Zu)(w:World)(K:Zp)(a:ja)(H:Hp)(M:bJ)(Z:ZS):Prop where
 inj:∀r r' o o',cont P w a M Z r=Û->cont P w a M Z r'=Ù o'->āp=āF r'->r=r'
 at_:∀r o,cont P w a M Z r=Û->H āp=Û
 seats:∀i l,ī=Ĭ->cB K H (Z.iv i) l.ins
 trs:(∀i t,Ć7=ϒ->bj K H (Z.ar i) čp/\eV K H t.rule (Z.ru i)/\bj K H (Z.sh i) ĐN)tabs:∀i l,ī=Ĭ->f9 K H ĀT/\{ĈX,gX H ĀT m/\lC M.p l.S āq m,Bt (d8 K H) M.p l.S āq/\ď9 ĀT}came:gb K H ĄT Z.cv M.came
section
variable{H H':Hp}{M B:bJ}{Z A:ZS}
def bY.imm(h:bY P w K a H M Z)(e:cont P w a M Z r=Û)(d:{ê,H b=Û,ú āp->H' b=Û}):Im ĄT H H':=by
 have f:=Đl r o e;have g:(∀c,o≠ň c)/\(∀x y,o≠ .frz x y)/\∀c,o=ø c->r= .dl:=by
  cases r<;>simp only[cont,Option.map_eq_some_iff,X2]at e
  case hh=>rw[ŧ,{Ů,Ċu,Ů}]
  case ln=>rw[ŧ,{Ů,Ċu,Ů}]
  case tn=>rw[ŧ,{Ů,Ċu,Ů}]
  case ci=>rw[ŧ,{Ů,Ċu,Ů}]
  case dl=>rw[ŧ,{Ů,Ċu,Ϫ}]
  all_goals have(_,_,e):=e;rw[ŧ,{Ů,Ċu,Ů}]
 have(k1,k2,i):=g;show{{λu c q=>d _ _ q ĄO,λu x⟨j,q⟩=>{j,d _ _ q ĄO}},λb c q n=>d _ _ q ĄO}
 ·rw[z,f]at q;show k1 _ (i_ q)
 ·rw[z,f]at q;show k2 _ _ (i_ q)
 ·rw[z,f]at q;show n {Ē,z,i _ (i_ q)}
def bY.set(h:bY P w K a H M Z)(f:cont P w a M Z d=Ù C)(y:{ê,H b=Û,{ú,āF d}->H' b=Û})(u:A.G=Z.G)(j:∀r o,cont P w a B A r=Û->(r=d/\H' (āF d)=Û)\/(r≠d/\cont P w a M Z r=Û))(seats:∀i l,ì B.las=Ĭ->cB K H' (A.iv i) l.ins)(trs:∀i t,ì B.trs=ϒ->bj K H' (A.ar i) čp/\eV K H' t.rule (A.ru i)/\bj K H' (A.sh i) ĐN)(tabs:∀i l,ì B.las=Ĭ->f9 K H' (A.tk i)/\{ĈX,gX H' (A.tk i) m/\lC B.p l.S (A.ow i) m,Bt (d8 K H') B.p l.S (A.ow i)/\{ĢW,A.tk i,ć5 A.G .dl}})(came:gb K H' (A.G .dl) A.cv B.came):bY P w K a H' B A:=by
 show{λr k o s e v g=>?_,ĊW,seats,trs,tabs,came}
 ·rw[u]at g;have((),_)||(_,q):=j r o e<;>have((),_)||(_,c):=j k s v
  ·rfl
  ·show ĆT _ _ _ _ f c g
  ·show ĆT _ _ _ _ q f g
  ·show ĆT _ _ _ _ q c g
 ·rw[u];have((),q)||(n,q):=j r o e
  ·show q
  ·show y _ _ (Z2 _ q) {ÿ,n,ĆT _ _ _ _ q f z}
def bY.trsI(h:bY P w K a H M Z)(e:Kp H H'):∀i t,Ć7=ϒ->bj K H' (Z.ar i) čp/\eV K H' t.rule (Z.ru i)/\bj K H' (Z.sh i) ĐN:=λi t b=>let⟨h1,h2,h3⟩:=h.trs i t b;{ęx,h2.kp e,ăV h3}
def bY.tabsI(h:bY P w K a H M Z)(e:Im ĄT H H'):∀i l,ī=Ĭ->f9 K H' ĀT/\{ĈX,gX H' ĀT m/\lC M.p l.S āq m,Bt (d8 K H') M.p l.S āq/\ď9 ĀT}:=λi l c=>let⟨h1,⟨m,h2,h3⟩,h4,b⟩:=h.tabs i l c;{λx d=>ip e.kp (h1 x d),{m,h2.im e b,h3},h4.mono λ_ _ q=>ip e.kp q,b}
def bY.same(h:bY P w K a H M Z)(e:ao H H'):bY P w K a H' M Z:={h.inj,λr o q=>e _ _ (Đl r o q),λi l b=>{ė,ěa i l b,e},ė h.trsI e,ė h.tabsI e,ė h.came.im e}
def jW{b g:Type}{d:ZO}{i:Nat}{x y:b}(h:ąF=ù)(f:b->g)(e:f y=f x)(j:Nat):(d.set i y)[j]?.map f=d[j]?.map f:=by
 rw[X5]
 rw[ąm,i,j]
 ·subst q;rw[hY (),hY (ŷ h),h];show m6 some e
 ·rw[hF q]
def fN{b g:Type}{d:ZO}{i:Nat}{x y:b}(h:ąF=ù)(f:b->g)(e:f y=f x):{Ϻ,d.set,i,y} f=Ą8 f:=z1 λj=>{Ŝ,g8,g8,jW h f e j}
def uh{b:Type}{d:ZO}{i j:Nat}{y z:b}(e:(d.set i y)[j]?=Ù z):(j=i/\z=y)\/(j≠i/\d[j]?=Ù z):=by
 rw[X5]at e
 rw[ąm,i,j]
 ·rw[hY q]at e
  split at e
  rw[Ř,{q.symm,ĆF e}]
  ·cases e
 ·rw[hF q]at e;rw[Ĉ,{Ēr q,e}]
def Gc{i:Nat}{l l':cH}(b:ī=Ĭ)(h1:l'.nm=l.nm)(h2:l'.sl=l.sl)(r:Ro):cont P w a {M with las:=Ďj i l'} Z r=cont P w a M Z r:=by cases r with|ln=>show m6 (λns=>{ęt,lV ns ĄS}) (fN b cH.nm h1)|lo j=>show jW b _ (Ź h2) j|iu j=>show jW (y:=l') b _ () j|tb j=>show jW (y:=l') b _ () j|od j=>show jW (y:=l') b _ () j|td j=>show jW (y:=l') b _ () j|_=>rfl
def OB{i:Nat}{t b:dS}(d:Ć7=ϒ)(h1:b.nm=t.nm)(r:Ro)(h2:r= .tr i->Ĕq b.home/\b.pau=t.pau/\b.clo=t.clo)(h3:r= .ba i->b.bar=t.bar):cont P w a (ĕp i b) Z r=cont P w a M Z r:=by
 cases r with|tn=>show m6 (λns=>{ęt,lV ns ċt}) (fN d dS.nm h1)|tr j=>
  rw[ąm,j,i]
  ·subst q;have(a1,c,e):=h2 ();show jW d _ (ĀU a1 c e) j
  ·rw[ż,((đd i b)[j]?).map _=_,op (Ēr q)];rfl|ba j=>
  rw[ąm,j,i]
  ·subst q;show jW d _ {Ź,h3 ()} j
  ·rw[ż,((đd i b)[j]?).map _=_,op (Ēr q)];rfl|_=>rfl
def dG:{ê,H b=Û,ú x->aJ H x o' b=Û}:={ĄA,ay n,e}
def bY.setIns(h:bY P w K a H M Z){i:Nat}{l:cH}{ins':İ}{iv':Ğ}(d:ī=Ĭ)(g:cB K H iv' ins'):bY P w K a (aJ H ă5 (.dK iv')) {M with las:=Ċn M.las.set i ins'} {Z with iv:={Ăg,i,iv',Z.iv j}}:=by
 have f:cont P w a M Z (.iu i)={Į,Z.iv i}:=by simp[cont,d]
 rw[ē9,h.imm f {ċE,.dK iv'},h.set f dG () ĊW ĥM đN ĥM Ďw]
 ·rw[Gc (l':={l with ins:=ins'}) d () ()]at e
  by_cases c:r= .iu i
  ·subst c;show à āO;rw[af,<-e];simp[cont,d]
  ·show æ {c,?_};rw[<-e];cases r with|iu j=>rw[ż,_=ēi λ_=>HO.dK {ĀH,i,iv',Z.iv j},hF {ÿ,c,Ź z}];rfl|_=>rfl
 ·rw[ĈG,uh,e]
  ·rw[ā5,cB K _ {ĀH,j,iv',Z.iv j} ins',hY (),ĕU g.kp]
  ·rw[ā5,cB K _ {ĀH,i,iv',Z.iv j} b.ins,hF n,ĉG j b q]
 ·rw[ĈG,uh,e]
  ·show h.tabsI im _ l d
  ·show h.tabsI im j b q
def bY.setTr(h:bY P w K a H M Z){i:Nat}{t t':dS}{r0:Ro}{o':HO}(d:Ć7=ϒ)(h1:t'.nm=t.nm)(h2:t'.arms=t.arms)(h3:t'.rule=t.rule)(h4:t'.shuts=t.shuts)(f:(r0= .tr i/\t'.bar=t.bar)\/(r0= .ba i/\ĝC/\t'.pau=t.pau/\t'.clo=t.clo))(m:cont P w a (ĕp i t') Z r0=Ù o'):bY P w K a (aJ H (āF r0) o') (ĕp i t') Z:=by
 obtain⟨c,g⟩:∃c,cont P w a M Z r0=ŗ:=by have((),_)||((),_):=f<;>show{_,đB}
 rw[ē9,h.imm g (ċE o'),h.set g dG () ĊW (λj k e=>ĉG j k e) (λj l e=>?_) (h.tabsI im) Ďw]
 ·by_cases b:r=r0
  ·subst b;rw[m]at e;rw[ţ,{ą,Þ af e}]
  ·show æ {b,?_};rw[<-e];show(OB d h1 r ĄO ĄO).symm
   ·have(q,_)||(_,q):=f
    ·rw[Ā,z.trans q.symm,b]
    ·show q
   ·have(_,q)||(q,_):=f
    ·show q
    ·rw[Ā,z.trans q.symm,b]
 ·rw[ĈG,uh,e]
  ·rw[h2,h3,h4];show h.trsI im.kp _ t d
  ·show h.trsI im.kp j l q
def bY.deed(h:bY P w K a H M Z)(d:V):bY P w K a {ZZ,ĄT,Z.ds++[d]} M {Z with ds:=Z.ds++[d]}:=by
 have c:cont P w a M Z .dl=ĘE:=();rw[ē9,h.imm c {ċE,{ø,Z.ds++[d]}},h.set c dG () ĊW (λj f e=>ĉG j f e) đN (h.tabsI im) Ďw]
 by_cases b:r= .dl
 ·subst b;rw[ţ,{ą,Þ af e}]
 ·show æ {b,?_};rw[<-e];cases r with|dl=>rw[ąt,b]|_=>rfl
def bY.setCame(h:bY P w K a H M Z)(hc:gb K H ĄT b d):bY P w K a (aJ H (āF .ci) (.dK b)) {M with came:=d} {Z with cv:=b}:=by
 have f:cont P w a M Z .ci=Į Z.cv:=();rw[ē9,h.imm f {ċE,.dK b},h.set f dG () ĊW (λj g e=>ĉG j g e) đN (h.tabsI im) (hc.im im)]
 by_cases c:r= .ci
 ·subst c;rw[ţ,{ą,Þ af e}]
 ·show æ {c,?_};rw[<-e];cases r with|ci=>rw[ąt,c]|_=>rfl
omit e
theorem DZ:∀(ns:Zv)(x:Str)(f:ĆW),lV (ns++[x]) f=lV ns f++[(ũ,f ns.length)]|[],_,_=>()|n::r,x,f=>by rw[ż,(ă4 n,f 0)::lV (r++[x]) _=(ă4 n,f 0)::(lV r _++_),DZ r x];rfl
theorem wP:∀{ns:Zv}{f g:ĆW},(∀i,ėk i->f i=g i)->lV ns f=lV ns g|[],_,_,_=>()|n::r,f,g,h=>by change(ă4 n,f 0)::lV r _=(ă4 n,g 0)::lV r _;rw[h 0 Ü,wP (ns:=r) (f:=λi=>f (i+1)) (g:=λi=>g (i+1)) λi hi=>h (i+1) ąQ]
theorem oG:∀(ns:Zv)(f:ĆW),ō lV ns f=ns.length|[],_=>()|n::r,f=>by rw[lV,ig,ig,oG r]
theorem y8:∀{ns:Zv}{f:ĆW}{i:Nat}{x:Str},ns.Nodup->ì ns=ù->bM (lV ns f) ũ=ő f i
 |[],_,i,_,_,h=>ć8|n::r,f,0,x,_,h=>by
  have e:n=x:=ĊA
  show cN (Ź e)|n::r,f,i+1,x,hn,h=>by
  have h:ì r=ù:=ĊA
  rw[Zl]at hn;have ne:n≠x:=ÿ hn.1 {ąl,e_ h};rw[ā5,bM ((ă4 n,f 0)::lV r _) _=_,bX {ÿ,ne,rk z},y8 hn.2 h]
theorem ny:∀{ns:Zv}{f:ĆW}{x:Str},x∉ns->bM (lV ns f) ũ=none|[],_,_,_=>()|n::r,f,x,h=>{āJ,bM ((ă4 n,f 0)::lV r _) _=_,bX {ÿ,h,{Þ,rk z,f_}},ny {ÿ,h,fy _ z}}
theorem G9:∀{ns:Zv}{f:ĆW}{i:Nat},{ì,lV ns f}=(ì ns).map λx=>(ũ,f i)|[],_,i=>by simp[lV]|n::r,f,0=>()|n::r,f,i+1=>by rw[ż,{ì,lV r λi=>f (i+1)}=_,G9];simp
section
variable{H d:Hp}{M:bJ}{Z:ZS}
def bY.tab(h:bY P w K a H M Z)(b:ī=Ĭ):∃m,gh P w K a.cy H ĉo Ćh ĂZ M.p āq ĀT m/\lC M.p l.S āq m:=by have(h1,(m,h2,h3),_):=h.tabs i l b;show{m,{{_,{Z2,.tb i,ĝa}},{Z2,.od i,ĝa},{Z2,.td i,ĝa},h1,h2},h3}
def bY.told(h:bY P w K a H M Z)(A:ī=Ĭ)(o:qG Ćh ĂZ H d)(C:gh P w K a.cy d ĉo Ćh ĂZ M.p t f I)(L:lC M.p B t I)(N:Bt (d8 K H) M.p B t)(Q:hV H ĀT f):bY P w K a d (Ğl i B) {Ĝe,i,t,ĉt,Ăg i f Ĉ6}:=by
 have(m,J,_):=h.tab A;have im:Im ĄT H d:=by
  have g:∀b ob,H b=ū->(∀D,ob≠ .dK D)->(∀φ,ob≠ .ext φ)->d b=ū:=λb ob e h1 h2=>o b ob e {ďx,z,J.own,e,h1 _ ()} {ďx,z,J.tak,e,h2 _ ()}
  show{{λu O e=>g _ _ e Ů Ů,λu x⟨E,e⟩=>{E,g _ _ e Ů Ů}},λb O e _=>g _ _ e Ů Ů}
 have k:∀r ob,cont P w a (Ğl i B) {Ĝe,i,t,ĉt,Ăg i f Ĉ6} r=ū->(r= .od i/\ob= .dK t)\/(r= .td i/\ob=dM P w ĂZ f)\/(r≠ .od i/\r≠ .td i/\cont P w a M Z r=ū):=λr ob e=>by
  rw[Gc (l':={l with S:=B}) A () ()]at e;cases r with|od j=>
   rw[ąm,j,i]
   ·subst q;rw[Ąk,(ēi λ_=>HO.dK (ČI j t))=ū];rw[A,hY ()]at e;rw[ţ,{ą,ĆF e}]
   ·rw[Ąk,(ēi λ_=>HO.dK (ČI i t))=ū];rw[ą5,hF q,θ {ÿ q ĕf,ĈA,e}]|td j=>
   rw[ąm,j,i]
   ·subst q;rw[Ąk,(ēi λ_=>dM P w (ĄJ .td j) (Ćz j f))=ū];rw[A,hY ()]at e;rw[Ĉ,{ćV,ĆF e}]
   ·rw[Ąk,(ēi λ_=>dM P w (ĄJ .td j) (Ćz i f))=ū];rw[ą5,hF q,θ {ĈA,ÿ q ĕf,e}]|_=>show θ {ĈA,ĈA,e}
 have s:cont P w a M Z (.od i)=Į āq:=by simp only[cont,A];rfl
 have v:cont P w a M Z (.td i)={Ù,dM P w ĂZ ĀT}:=by simp only[cont,A];rfl
 have live:∀r ob,cont P w a (Ğl i B) {Ĝe,i,t,ĉt,Ăg i f Ĉ6} r=ū->∃E,cont P w a M Z r=Ù E:=λr ob e=>by
  have((),_)||((),_)||(_,_,q):=k r ob e
  ·show{_,s}
  ·show{_,v}
  ·show{_,q}
 show{λr R ob F e T g=>?_,λr ob e=>?_,λj c e=>?_,đN,λj c e=>?_,Ďw}
 ·have(_,q):=live r ob e;have(_,U):=live R F T;show ĆT _ _ _ _ q U g
 ·have((),())||((),())||(n1,n2,q):=k r ob e
  ·show C.own
  ·show C.tak
  ·show o _ _ (Z2 _ q) {ÿ,n1,ĆT _ _ _ _ q s z} {ÿ,n2,ĆT _ _ _ _ q v z}
 ·rw[ĈG,uh,e]
  ·show ĉG _ l A
  ·show ĉG j c q
 ·rw[ĈG,uh,e]
  ·change f9 K d (Ćz j f)/\{ĈX,gX d (Ćz j f) m/\lC M.p B (ČI j t) m,Bt (d8 K d) M.p B (ČI j t)/\{ď9,Ćz j f}};rw[hY (),hY ()];show{C.keys,(I,C.lsts,L,),N.mono λ_ _ q=>ip im.kp q,λx V z=>?_};have(y,W,e)||(X,e,hn):=Q x V
   ·show(h.tabs _ l A).2.2.2 y W ďE
   ·rw[e]at z;cases z;rw[Z2 .dl ()]at hn;cases hn
  ·rw[Ćq,f9 K d (Ćz i f)/\{ĈX,gX d (Ćz i f) m/\lC M.p c.S (ČI i t) m,Bt (d8 K d) M.p c.S (ČI i t)/\{ď9,Ćz i f}},hF n,hF n,h.tabsI im j c q]
omit e
def Cp(b d:Nat):Ĵ Ro|.lo i=>i<b|.iu i=>i<b|.tb i=>i<b|.od i=>i<b|.td i=>i<b|.tr i=>i<d|.ba i=>i<d|_=>True
def xk(e:cont P w a M Z r=Û):čq Cp r:=by cases r<;>first|rw[ę2]|(have(y,h1,_):=āy e;show ŷ h1)
def qV(P:Zu)(w:World)(a:ja)(Z:ZS)(h:čq Cp r):∃o,cont P w a M Z r=Û:=by cases r<;>first|show ĸ|(rw[ĂD,ĈK _];show{_,{Ē4,fx h}})|(rw[ĂD,ĈN _];show{_,{Ē4,fx h}})
noncomputable def ZS.newL(Z:ZS)(n:Nat)(lo e t f g b d:Addr):ZS:={Z with
 G:=λr=>{ď,r,.lo n,lo,{ď,r,.iu n,e,{ď,r,.tb n,t,{ď,r,.od n,f,{ď,r,.td n,g,āp}}}}}
 dx:=λr=>{ď,r,.lo n,b,{ď,r,.tb n,d,Z.dx r}}
 iv:={Ăg,n,[],Z.iv j}
 ow:=Ăg n [] ĉt
 tk:=Ăg n [] Ĉ6}
noncomputable def ZS.newT(Z:ZS)(n:Nat)(t b dx ar:Addr)(ru:V)(sh:Addr):ZS:={Z with
 G:=λr=>{ď,r,.tr n,t,{ď,r,.ba n,b,āp}}
 dx:=λr=>{ď,r,.tr n,dx,Z.dx r}
 ar:={Ăg,n,ar,Z.ar j}
 ru:={Ăg,n,ru,Z.ru j}
 sh:={Ăg,n,sh,Z.sh j}}
def uf(e:(b++[x])[j]?=ϵ):(Ām j/\y=x)\/(j≠b.length/\b[j]?=ϵ):=by
 have q||q||q:=đe YX j
 ·rw[rl q]at e;rw[Ĉ,{iA q,e}]
 ·subst q;rw[List.getElem?_concat_length]at e;rw[ţ,{ą,ĆF e}]
 ·rw[ĀJ,qq (by simp;lia),e]
def kK(e:(b++[x])[j]?.map f=Û):(Ām j/\o=f x)\/(j≠b.length/\b[j]?.map f=Û):=by
 have(y,h1,h2):=āy e;have(q,())||(q,z):=uf h1
 rw[Ř,(q,h2.symm,)]
 rw[ϛ,{q,{ąl,m6 some h2}}]
section
variable{H H':Hp}{M:bJ}{Z:ZS}
theorem bY.newL(h:bY P w K a H M Z)(h1:H lo=none)(h2:H iu=none)(h3:H t=none)(h4:H od=none)(h5:H td=none)(D:od≠iu)(u:{ê,H b=Û,Đ0->H' b=Û})(Q:H' ϧ={Į,lV ό ĄS++[{ϱ,æ nm,lo}]})(R:H' lo=āA a.gE d [{ĐA,ã sl},("table",ľ),ϱ "inside" iu])(T:gh P w K a.cy H' t od td M.p [] [] [])(E:lo≠t)(W:H' iu=Ą7):∃y,y.G .hh=āG/\y.G .dl=ĄT/\y.ds=Z.ds/\(∀j,y.tk j={ĆZ,j,[],Ĉ6}/\y.ow j={ĆZ,j,[],ĉt})/\y.cv=Z.cv/\bY P w K a H' {Ęf,[ĉU]} y/\∀r,Cp (M.las.length+1) M.trs.length r->H (y.G r)=none\/(y.G r=āp/\čq Cp r):=by
 have(c,O):=T.ins;have im:=h.imm (r:= .ln) () u;have F:{ĈE,ě M.las.map cH.nm}:=b_ ..;have l:∀r o,cont P w a {Ęf,[ĉU]} ćN r=Û->(H' (āT r)=Û/\(r=ĎI\/r=Ę7\/r=ē0\/r=Ę8\/r=Ę9))\/(āT r=āp/\H' āp=Û/\∃U,cont P w a M Z r=Ù U):=λr o e=>by
  cases r with|hh=>rw[Ĉ,{(),u _ _ (Ο .hh) {ąy,.hh,()},_,e}]|tn=>rw[Ĉ,{(),u _ _ (Ο .tn) {ąy,.tn,()},_,e}]|ci=>rw[Ĉ,{(),u _ _ (Ο .ci) {ąy,.ci,()},_,e}]|dl=>rw[Ĉ,{(),u _ _ (Ο .dl) {ąy,.dl,()},_,e}]|tr j=>rw[Ĉ,{(),u _ _ {Ο,.tr j} {ąy,.tr j,e},_,e}]|ba j=>rw[Ĉ,{(),u _ _ {Ο,.ba j} {ąy,.ba j,e},_,e}]|ln=>show æ {(),?_,_,()};rw[Q,<-e];change _={ęt,lV {Ĉd,ėO [(ĉU:cH)]} {ćK,āT (.lo i)}};rw[hE,YR,DZ,F];have e1:āT ĎI=lo:=hY ();rw[e1,wP (f:={ćK,āT (.lo i)}) (g:=(ćK ćd))];intro i hi;rw[F]at hi;have n:∀x:ξ Ro,(∀i j,x i=x j->i=j)->x i≠ĆY x:=λx I z=>iA hi (I _ _ z);rw[ż,ϫ {ď,Ro.lo i,ĎI,lo,_}=_,hF (n Ro.lo λ_ _ z=>ĕf)];rfl|lo j=>
   rw[ĊQ,kK,e]
   ·show à {?_,Ġ};have B:āT ĎI=lo:=hY ();have X:āT ē0=t:=ć2
    have s:āT Ę7=iu:=ć2
    have A:(ćN).dx ĎI=d:=hY ();rw[B,X,s,A];show R
   ·have e:cont P w a M Z (.lo j)=Û:=Ē3 e
    rw[Ĉ,{ĐG,u _ _ {Ο,.lo j} {ąy,.lo j,e},_,e}]|iu j=>
   rw[ĊQ,kK,e]
   ·show à {?_,æ Ġ};have s:āT Ę7=iu:=ć2
    have A:ĆY (ćN).iv=[]:=hY ();rw[ý,s,A,W]
   ·have e:cont P w a M Z (.iu j)=Û:=Ē3 e
    rw[Ĉ,{ĐG,u _ _ {Ο,.iu j} {ąy,.iu j,e},_,e}]|tb j=>
   rw[ĊQ,kK,e]
   ·show à {?_,θ Ġ};have X:āT ē0=t:=ć2
    have s:āT Ę8=od:=ć2
    have g5:āT Ę9=td:=ć2
    have A:(ćN).dx ē0=c:=ć2
    rw[X,s,A,g5];show O
   ·have e:cont P w a M Z (.tb j)=Û:=Ē3 e
    rw[Ĉ,{ĐG,u _ _ {Ο,.tb j} {ąy,.tb j,e},_,e}]|od j=>
   rw[ĊQ,kK,e]
   ·show à {?_,{θ,æ Ġ}};have s:āT Ę8=od:=ć2
    have A:ĆY (ćN).ow=[]:=hY ();rw[ý,s,A,T.own]
   ·have e:cont P w a M Z (.od j)=Û:=Ē3 e
    rw[Ĉ,{ĐG,u _ _ {Ο,.od j} {ąy,.od j,e},_,e}]|td j=>
   rw[ĊQ,kK,e]
   ·show à {?_,{θ,θ ()}};have s:āT Ę9=td:=ć2
    have A:ĆY (ćN).tk=[]:=hY ();rw[ý,s,A,T.tak]
   ·have e:cont P w a M Z (.td j)=Û:=Ē3 e
    rw[Ĉ,{ĐG,u _ _ {Ο,.td j} {ąy,.td j,e},_,e}]
 have gs:∀r,(r=ĎI\/r=Ę7\/r=ē0\/r=Ę8\/r=Ę9)->H (āT r)=none:=λr Y=>by have()||()||()||()||():=Y<;>simp only[ZS.newL]<;>simp[h1,h2,h3,h4,h5]
 show{ćN,(),(),(),λj=>Λ,(),{λr r' o U e e' g=>?_,ĊW,λj C e=>?_,đN,λj C e=>?_,Ďw},λr Y=>?_}
 ·have(q,n)||(B,q,x,J):=l r o e<;>have(q',n')||(L,q',x',N):=l r' U e'
  ·rw[g,q']at q;have q:=i_ q;have()||()||()||()||():=n<;>have()||()||()||()||():=n'<;>first|rfl|(exfalso;simp[ZS.newL]at g;first|show E g|show E g.symm|show D g|show D g.symm|(simp[cont]at e e';rw[<-e,<-e']at q;cases q))
  ·rw[L]at g;rw[čF,Z2 _ N,g,gs r n];rw[ćg]
  ·rw[B]at g;rw[ćh,Z2 _ J,g,gs r' n'];rw[ćg]
  ·rw[B,L]at g;show ĆT _ _ _ _ J N g
 ·have(q,n)||(B,q,x,J):=l r o e
  ·show q
  rw[ų,B,q]
 ·rw[ĈG,uf,e]
  ·rw[ā5,cB K H' {čv,[],_} [],hY (),.nil]
  ·rw[ā5,cB K H' {ĆZ,j,[],Z.iv j} C.ins,hF n,ĉG j C q]
 ·rw[ĈG,uf,e]
  ·rw[Ćq,f9 K H' {čv,[],_}/\{ĈX,gX H' {čv,[],_} m/\lC M.p AS.new {čv,[],_} m,Bt (d8 K H') M.p AS.new {čv,[],_}/\ď9 {čv,[],Ě1 _}},hY (),hY (),{Ģz,{[],.nil,λk=>(),λp _ _=>()},λp v _ _ z=>(nomatch z),Ģz}]
  ·rw[Ćq,f9 K H' {ĆZ,j,[],Ĉ6}/\{ĈX,gX H' {ĆZ,j,[],Ĉ6} m/\lC M.p C.S {ĆZ,j,[],ĉt} m,Bt (d8 K H') M.p C.S {ĆZ,j,[],ĉt}/\{ď9,ĆZ j [] Ĉ6}},hF n,hF n,h.tabsI im j C q]
 ·have(o,e):=qV P w a (M:={Ęf,[ĉU]}) ćN (r:=r) (by simpa using Y);have(_,n)||(B,_,x,J):=l r o e
  rw[Ř,gs r n]
  rw[ϛ,{B,xk J}]
theorem bY.newT(h:bY P w K a H M Z){nm home:Str}{arms shuts:Zv}{rule:Ru}{t ba dx ar sh:Addr}{ru:V}(h1:H t=none)(h2:H ba=none)(d:{ê,H b=Û,ú Ćm->H' b=Û})(y:H' Ćm={Į,lV Δ ċt++[(æ nm,ľ)]})(I:H' t=Ār a.iz [ėa home,ϱ "arms" ar,ēW ru,ĞK sh,ğj,ćw Ćf,ĝV ba])(J:H' ba=Ą7)(L:bj K H ar ĥP)(N:eV K H rule ru)(Q:bj K H sh ĤS):∃m,m.G .hh=āG/\m.G .dl=ĄT/\m.ds=Z.ds/\m.tk=Z.tk/\m.ow=Z.ow/\m.cv=Z.cv/\bY P w K a H' {Ęg,[{nm,home,arms,rule,shuts,false,false,[]}]} m/\∀r,{Ě4,Cp,M.trs.length+1,r}->H (m.G r)=none\/(m.G r=āp/\čq Cp r):=by
 have im:=h.imm (r:= .tn) () d;have l:{đx,ě M.trs.map dS.nm}:=b_ ..;have c:∀r o,cont P w a {Ęg,[{nm,home,arms,rule,shuts,false,false,[]}]} Ċ5 r=Û->(H' (Ĉi r)=Û/\(r=ĎJ\/r=ęc))\/(Ĉi r=āp/\H' āp=Û/\∃v,cont P w a M Z r=Ĕ):=λr o e=>by
  cases r with|tn=>show æ {(),?_,_,()};rw[y,<-e];change _={ęt,lV ({ĉR,M.trs,[({nm,home,arms,rule,shuts,false,false,[]}:dS)]} dS.nm) {ćK,Ĉi (.tr i)}};rw[hE,YR,DZ,l];have O:Ĉi ĎJ=t:=hY ();rw[O,wP (f:={ćK,Ĉi (.tr i)}) (g:=(ćK đo))];intro i hi;rw[l]at hi;rw[ż,ϫ {ď,Ro.tr i,ĎJ,t,_}=_,hF λz=>iA hi ĕf];rfl|tr j=>
   rw[ĊQ,kK,e]
   ·show à {?_,Ġ};have k:Ĉi ĎJ=t:=hY ();have A:Ĉi ęc=ba:=ģg
    have R:(Ċ5).dx ĎJ=dx:=hY ();have S:Đj (Ċ5).ar=ar:=hY ();have T:Đj (Ċ5).ru=ru:=hY ();have U:Đj (Ċ5).sh=sh:=hY ();rw[k,A,R,S,T,U];show I
   ·have e:cont P w a M Z (.tr j)=Û:=by rw[<-e];simp[cont,ZS.newT,q]
    rw[Ĉ,{Ģe,d _ _ {Ο,.tr j} {ąz,.tr j,e},_,e}]|ba j=>
   rw[ĊQ,kK,e]
   ·show à {?_,āh};have A:Ĉi ęc=ba:=ģg
    rw[ó,A,J]
   ·have e:cont P w a M Z (.ba j)=Û:=by rw[<-e];rfl
    rw[Ĉ,{Ģe,d _ _ {Ο,.ba j} {ąz,.ba j,e},_,e}]|hh=>rw[Ĉ,{(),d _ _ (Ο .hh) {ąz,.hh,()},_,e}]|ln=>rw[Ĉ,{(),d _ _ (Ο .ln) {ąz,.ln,()},_,e}]|ci=>rw[Ĉ,{(),d _ _ (Ο .ci) {ąz,.ci,()},_,e}]|dl=>rw[Ĉ,{(),d _ _ (Ο .dl) {ąz,.dl,()},_,e}]|lo j=>rw[Ĉ,{(),d _ _ {Ο,.lo j} {ąz,.lo j,e},_,e}]|iu j=>rw[Ĉ,{(),d _ _ {Ο,.iu j} {ąz,.iu j,e},_,e}]|tb j=>rw[Ĉ,{(),d _ _ {Ο,.tb j} {ąz,.tb j,e},_,e}]|od j=>rw[Ĉ,{(),d _ _ {Ο,.od j} {ąz,.od j,e},_,e}]|td j=>rw[Ĉ,{(),d _ _ {Ο,.td j} {ąz,.td j,e},_,e}]
 have gs:∀r,(r=ĎJ\/r=ęc)->H (Ĉi r)=none:=λr B=>by have()||():=B<;>simp only[ZS.newT]<;>simp[h1,h2]
 show{Ċ5,(),(),(),(),(),(),{λr D o v e C g=>?_,ĊW,λj W e=>ĉG j W e,λj X e=>?_,h.tabsI im,Ďw},λr B=>?_}
 ·have(q,n)||(k,q,x,p):=c r o e<;>have(E,F)||(s,E,Y,u):=c D v C
  ·rw[g,E]at q;have q:=i_ q;have()||():=n<;>have()||():=F<;>first|rfl|(exfalso;simp[cont]at e C;rw[<-e,<-C]at q;cases q)
  ·rw[s]at g;rw[čF,Z2 _ u,g,gs r n];rw[ćg]
  ·rw[k]at g;rw[ćh,Z2 _ p,g,gs D F];rw[ćg]
  ·rw[k,s]at g;show ĆT _ _ _ _ p u g
 ·have(q,n)||(k,q,x,p):=c r o e
  ·show q
  rw[ų,k,q]
 ·rw[ĈG,uf,e]
  ·change bj K H' (ĝT ar _) ĥP/\eV K H' rule (ĝT ru _)/\bj K H' (ĝT sh _) ĤS;rw[hY (),hY (),hY ()];show{Ęq L,ĕU N.kp,Ęq Q}
  ·change bj K H' {ĜJ,ar,Z.ar j} _/\eV K H' _ {ĜJ,ru,Z.ru j}/\bj K H' {ĜJ,sh,Z.sh j} _;rw[hF n,hF n,hF n];show h.trsI im.kp j X q
 ·have(o,e):=qV P w a (M:={Ęg,[{nm,home,arms,rule,shuts,false,false,[]}]}) Ċ5 (r:=r) ĐJ;have(_,n)||(k,_,x,p):=c r o e
  rw[Ř,gs r n]
  rw[ϛ,{k,xk p}]
omit e
def gH(M:bJ)(Z:ZS)(b:Addr):Prop:=(∃r,čq Cp r/\b=āp)\/(∃i,ĈK i/\∃x∈ĀT,Āz=ZM)\/∃x∈Z.cv,ŕ=ZM
def gX.outs(n:∀x∈tk,∀l b,Āz=ž->H l=ăs->H' l=ăs)(h:gX H tk m):gX H' tk m:=ĞP h {q.1,Ąl,ąb ĀB {q.1,n x a _ _ q.1 ņ}}
def gb.outs(e:Kp H H')(n:∀x∈cv,∀l b,ŕ=ž->H l=ăs->H' l=ăs)(h:gb K H dl cv cm):gb K H' dl cv cm:=ĞP h {q.1,{ąb,ņ,Ćc {q.1,Ąl,n x a _ _ q.1 ĀB.1,ĀB.2.kp e}}}
def bY.out(h:bY P w K a H M Z)(n:¬gH M Z o)(kp:Kp H H')(f:∀b ob,H b=ū->ú o->H' b=ū):bY P w K a H' M Z:={h.inj,λr ob e=>f _ _ (Đl r ob e) {ćO,n,{r,xk e,z.symm}},λi l d=>{ěa,i,l,d} kp,h.trsI kp,λi l d=>let⟨h1,⟨m,h2,h3⟩,h4,k⟩:=h.tabs i l d;{λx c=>ip kp (h1 x c),{m,h2.outs λx c l p g j=>f _ _ j {ÿ,n,Ćk {i,ŷ d,x,c,Ē g z}},h3},h4.mono λ_ _ q=>ip kp q,k},h.came.outs kp λx c l p g j=>f _ _ j {ÿ,n,θ {x,c,Ē g z}}}
def qt{a b:Addr}{o:HO}(h:aJ H a o b=none):H b=none:=by
 rw[ρ,b,a]
 ·rw[đJ,e,af,h]
 ·rw[Ą3,ay e,h]
structure iF(H:Hp)(M:bJ)(Z:ZS)(H':Hp)(M':bJ)(Z':ZS):Prop where
 hh:Z'.G .hh=āG
 fr:{ê,H b=Û,¬gH M Z b->H' b=Û}
 fp:∀b,gH M' Z' b->gH M Z b\/H b=none
 dm:∀b,H' b=none->H b=none
 dd:Z'.G .dl=ĄT
section
variable{H j m g:Hp}{M M1 M2 f:bJ}{Z u p d:ZS}
def iF.of(s:ao H g):iF H M Z g M Z:={(),λb o h _=>s b o h,λ_ h=>à h,λ_ h=>s.free h,()}
theorem iF.trans(s:iF H M Z j M1 u)(t:iF j M1 u m M2 p):iF H M Z m M2 p:={t.hh.trans s.hh,λb o h n=>t.fr b o (s.fr b o h n) λq=>(s.fp b q).elim n λz=>(ĔW h z),λb q=>(t.fp b q).elim (s.fp b) λz=>{æ,s.dm b z},λb z=>s.dm b (t.dm b z),t.dd.trans s.dd}
def iF.put(y:čq Cp r)(t:d.G=Z.G)(h1:ĈE f.las.length)(h2:đx f.trs.length)(h3:d.tk=Z.tk)(h4:∀x∈d.cv,x∈Z.cv\/∃l,ŕ=ž/\(gH M Z l\/H l=none)):iF H M Z (aJ H āp o) f d:={Ź t,λb o h n=>{Þ,ay {ćO,n,(r,y,z,)},h},λb q=>by
  have(c,h,e)||(i,hi,x,a,e)||(x,a,e):=q
  rw[Ř,à {c,ċr h1 h2 h,Ē e t}]
  rw[Ř,Ćk {i,Ă h1 hi,x,Ă h3 a,e}]
  ·have q||(l,k,q):=h4 x a
   rw[Ř,θ (x,q,e,)]
   ·rw[ĄN,k,e,q],λb z=>qt z,Ź t}
omit e
def iF.out{o:Addr}{x:HO}{H d:Hp}{M M1:bJ}{Z e:ZS}(s:iF H M Z d M1 e)(n:H o=none):iF H M Z (aJ d o x) M1 e:={s.hh,λb a h q=>{Þ,ay (aI h n),s.fr b a h q},s.fp,λb z=>s.dm b (qt z),s.dd}
theorem gX.ex(h:gX H tk m)(x:i7)(b:x∈tk):∃l d,Āz=ž/\H l=āZ:={Đy,(Paired.ex h x b).elim,ąb ĀB {_,q}}
theorem gb.ex(h:gb K H dl cv cm)(x:cJ×V)(b:x∈cv):∃l d,ŕ=ž/\H l=āZ:=Đy (Paired.ex h x b).elim {ąb,ņ,Ćc (q.1,ĀB.1,)}
def bY.foot(h:bY P w K a H M Z)(d:H b=none):¬gH M Z b:=λz=>by
 have(r,j,e)||(i,hi,x,c,e)||(x,c,e):=z
 ·have(o,q):=qV P w a Z j;rw[e,Đl r o q]at d;cases d
 ·have(_,(m,q,_),_):=h.tabs i _ (fx hi);have(l,k,f,g):=q.ex x c;rw[f]at e;cases e;rw[g]at d;cases d
 ·have(l,k,f,g):=h.came.ex x c;rw[f]at e;cases e;rw[g]at d;cases d
structure O2(M:bJ)(c:Nat)(l:cH):Prop where
 wd:Wd l.nm
 sl:0<=l.sl/\l.sl<=M.p
 ok:l.S.Ok M.p
 len:l.ins.length<=c
 gs:∀x∈l.ins,Dr ï
 nd:(l.ins.map (·.1)).Nodup
 own:∀k q,q∈l.S.pl k->k=eY "" ""\/∃t∈M.trs,{ĞM,t.home=l.nm,k=eY t.nm y}
structure RA(M:bJ)(t:dS):Prop where
 wd:Wd t.nm
 hm:t.home∈ό
 a1:1<=t.arms.length
 a4:t.arms.length<=4
 nd:t.arms.Nodup
 aw:∀x∈t.arms,Wd x
 hg:t.rule.hgt<=6
 s8:t.shuts.length<=8
structure oY(M:bJ)(c:Nat):Prop where
 p:2<=M.p/\M.p<=997
 ln:ėr
 tn:(Δ).Nodup
 la:∀l∈M.las,O2 M c l
 tr:∀t∈M.trs,RA M t
 cm:∀x∈M.came,{Œ,ŕ,10*c}
 l4:ĜS 4
 tc:M.trs.length<=10
 cl:M.came.length<=10*c
 br:∀t∈M.trs,t.bar.length<=c
structure cK(P:Zu)(w:World)(K:Zp)(a:ja)(H:Hp)(M:bJ)(Z:ZS)(c:Nat):Prop where
 g:bY P w K a H M Z
 ok:oY M c
 tk:∀i,ě Z.tk i<=10*c
 ow:∀i,ě Z.ow i<=5000*c
 ds:Z.ds.length<=c
def O2.mono(h:O2 M c l)(hc:c<=d):O2 M d l:={h with len:=g_ h.len hc}
theorem oY.mono(h:oY M c)(hc:c<=d):oY M d:={h with la:=λl a=>(h.la l a).mono hc,cm:=λx b=>g_ (h.cm x b) (XS _ hc),cl:=g_ h.cl (XS _ hc),br:=λt e=>g_ (h.br t e) hc}
theorem cK.mono(h:cK P w K a H M Z c)(hc:c<=d):cK P w K a H M Z d:={h.g,h.ok.mono hc,λi=>g_ (h.tk i) (XS _ hc),λi=>g_ (h.ow i) (XS _ hc),g_ h.ds hc}
theorem cK.same(h:cK P w K a H M Z c)(e:ao H H'):cK P w K a H' M Z c:={h with g:=h.g.same e}
section
variable{H:Hp}{M:bJ}{Z:ZS}{c:Nat}
def bY.house(h:bY P w K a H M Z):H āG={āA,a.cf,Z.dx .hh,[Ėz ĉu,ėc ĝt,("layer_named",Ţ .ln),("trial_named",ēI),("came_into",Ţ .ci),("deeds",ěL)]}:=Z2 .hh ()
def bY.lays(h:bY P w K a H M Z):H ϧ={Į,lV ό ĄS}:=Z2 .ln ()
def bY.tris(h:bY P w K a H M Z):H Ćm={Į,lV Δ ċt}:=Z2 .tn ()
def bY.cams(h:bY P w K a H M Z):H (āF .ci)=Į Z.cv:=Z2 .ci ()
def bY.dees(h:bY P w K a H M Z):H ĄT=ĘE:=Z2 .dl ()
def bY.layer(h:bY P w K a H M Z)(d:ī=Ĭ):H ćd={āA,a.gE,Z.dx (.lo i),[{ĐA,ã l.sl},("table",{Ţ,.tb i}),("inside",{Ţ,.iu i})]}:={Z2,.lo i,đB}
def bY.inside(h:bY P w K a H M Z)(d:ī=Ĭ):H ă5={Į,Z.iv i}:={Z2,.iu i,đB}
def bY.trial(h:bY P w K a H M Z)(d:Ć7=ϒ):H đo={āA,a.iz,Z.dx (.tr i),[ĝI,("arms",ć5 Z.ar i),{ēW,Z.ru i},("shuts",ć5 Z.sh i),ğk,{ćw,Ĳ t.clo},("barred",{Ţ,.ba i})]}:={Z2,.tr i,đB}
def bY.barred(h:bY P w K a H M Z)(d:Ć7=ϒ):H (ĊL .ba)={Į,t.bar.map λg=>(ġ,Ā6)}:={Z2,.ba i,đB}
def oY.lget(h:oY M c)(d:ī=Ĭ):bM (lV ό ĄS) Ğe=í ćd:=y8 h.ln (by rw[g8,d];rfl)
def oY.tget(h:oY M c)(d:Ć7=ϒ):bM (lV Δ ċt) (æ t.nm)=í đo:=y8 h.tn (by rw[g8,d];rfl)
theorem oY.home(h:oY M c)(d:ăv):∃(i:Nat)(l:cH),ī=Ĭ/\āD:=by have(l,a,e):=Ķ (h.tr t d).hm;rw[ĄG,a];show(i,l,hi,e,)
omit e
section
open PySem.Spec PyProof.Rows PySem.W
noncomputable def Ub{b:Type}(c:ĎS):KasT b->b|.ret a=>a|.ask i j k=>Ub c (k (c i j))
theorem Hr{n:Nat}{b:Type}{R:Ĵ b}{c:ĎS}:∀{t:KasT b},yp n R t->R (Ub c t)|.ret a,h=>h|.ask i j k,h=>Hr (t:=k (c i j)) (ĀA _)
theorem NP{n:Nat}{d:Type}{R:Ĵ d}{c:ĎS}{b:{Ě7,(Bool->Ĝ)->Ĝ}}{Q:d->Ĝ}{s:Shared}(hc:∀i j C,i<n->j<n->C (c i j) s->b i j C s):∀{t:KasT d},yp n R t->Q (Ub c t) s->t.kasWp b Q s|.ret a,_,q=>q|.ask i j k,h,q=>hc i j _ ü Ŗ (NP hc (ĀA _) q)
noncomputable def Kg(c:ĎS)(n:Nat):ċK:=Ā3 n 2 ďj (Ub c (ĜV n)).toList
def qT(c:ĎS)(n:Nat):(Kg c n).Perm ďj:=by
 unfold Kg
 split
 ·show .refl _
 ·show Hr (AR (n:=n) Ø)
def tz{e:Type}(b:ĉ e)(d:e):ĥ2 (λi=>Đn i d)=b:=by
 show z1 ĒT;rw[g8]
 by_cases hi:ČO
 ·rw[ģm hi];simp[hi]
 ·rw[qq (by rw[n8];lia),qq Ø];rfl
noncomputable def U1:ċ->Ās ċ|a::r,b::q=>{ď,a,b,U1 r q,{Ċ,a.cps.toList<b.cps.toList}}|_,_=>false
noncomputable def DS(ds:ϰ):ċK:=Kg (λi j=>U1 (ds.getD i []) (ds.getD j [])) ds.length
noncomputable def EX(ds:ϰ):ϰ:=ČW λi=>ds.getD i []
variable{prog:Zu}{f:World}{A:Around}{E:Zq}{s:Shared}{κ:SortKind}
def J2{a:Addr}{d:Zt}{n:Nat}{c:ĎS}{P:Fin->Ĝ}(y:ε a={Ù,ğV n})(L:Ėj 64)(M:2<=d.length->∀m:Shared,{ê,ú a,ģ=Û->m.heap.get? b=Û}->(∀Q:SortKind->Ĝ,Q κ m->{Ω,ď3,A,Ĝ4 keyKind',Q,Ā2,m})/\∀i j C,ĒF i->ĒF j->C (c i j) m->{Ω,ď3,A,keyLt' κ (Ēa d.getD i) (Ēa d.getD j),C,Ā2,m})(h:{Ā1,P,.done (.ret .none),sortedHeap s.heap a d {ăW,Ϻ Kg c d.length,λi=>Ēa d.getD i}}):{ăG,ď3,Ģg {Āe,[]},P}:=by
 rw[list_sort_plain];have l:ćj d.toArray.size:=Ü
 rw[ç,a_ (listItems_at y () ?_),a_ (listUpdate_at y () ?_ (by rw[l,gg];lia) (ku _))];obtain⟨B,r⟩:∃B,(ĥR).get? a={Ù,ěp B}:={_,{ϗ,get?_update_seq,y,#[]}};rw[Ŧ,a_ (seqEpoch_at r () ?_),a_ (wpAny_newTuple ?_ (by rw[ż,ėi _,gg];lia)),a_ {ĝX,?_,ku _},n_ ?_];have kept:{ê,ú a,ģ=Û->((Ĕ4 ē3).push ēO).get? b=Û}:=λb o K q=>d_ _ (d_ _ {è,Heap.get?_update_ne _ _ _ _ K,q})
 have g:((Ĕ4 ē3).push ēO).get? a={Ù,ěp B}:=d_ _ (d_ _ r);change Ω ď3 A _ P E {ďG,Ĕ4 ē3,ēO};dsimp only;have D:ćj (Ĝ5).size:=Ü
 by_cases h2:d.toArray.size<2
 ·rw[hY h2,hY h2];rw[Ģ,a_ (eN ?_),StateT.run_pure];rw[ąZ,a_ (eN ?_)];rw[ç,a_ (seqEpoch_at g () ?_),a_ (listUpdate_at g () ?_ (ku _) (by rw[Ģ,g_ (Yj {è,Array.size_map ..,D}) ?_,gg];lia))];simp only[bne_self_eq_false,U_,Ya];have e:ď5 d.toArray.zip d.toArray=d.toArray:=by
   apply Ze.mp;have e:(Ĝ5).toList=d.zip d:=Ü
   rw[ý,Array.toList_map,e,List.map_snd_zip (eH _)]
  have:=h;rw[Kg,hY (show Ėj 2 by rw[π,l,h2]),tz]at this;rw[<-e]at this;show eN this
 ·rw[hF h2,hF h2];have t:2<=d.length:=Ø
  have(k1,k2):=M t {ďG,Ĕ4 ē3,ēO} kept;show a_ {ā4,k1 (λu J=>u=κ/\J={ďG,Ĕ4 ē3,ēO}) Λ,λu J z=>?_,λ_ _ x=>x.elim};have((),()):=z;show a_ {ā4,kat_run (ks:=d) (vs:=d) (Q:=λk v=>∃p:Ā8,arrOf k=p.map (kas_item Ĝ5)/\failedOf k=none/\p=Ub c ĜW/\v=_) (G:=λp v=>p=Ub c ĜW/\v=_) () t L (λp k v a1 O R a4=>(p,O,R,a4,)) (NP (c:=c) (λi j C hi S T=>?_) (AR (n:=d.length) Ø) Λ),?_,đk}
  ·unfold kas_ask;show k2 i j C hi S T
  ·rintro⟨⟨⟩,k⟩v⟨p,F,U,rfl,rfl⟩;dsimp only;have w:=kat_snds (ks:=d) (vs:=d) () F;have I:ćj (Ub c ĜW).toList.length:=Ē (Hr (c:=c) (AR (n:=d.length) Ø)).length_eq n8
   rw[w];rw[ç,a_ (seqEpoch_at g () ?_),a_ (listUpdate_at g () ?_ (ku _) (by rw[iq,b_,I,gg];lia))];rw[U];simp only[bne_self_eq_false,U_,Ya];rw[Kg,hF {ύ,¬Ėj 2}]at h;show eN h
def RE(h:Heap)(v:Value)(d:Zv):Prop:=∃a o n b,v=ô/\ω=Û/\ăm ăK/\{ēp,List.toArray b,n}/\bx ĂO b
def RE.kept{h h':Heap}{v:Value}{d:Zv}(p:RE h v d)(k:{ê,ϴ=Û,ŵ=Û}):RE h' v d:=by have(a,o,n,t,e,c,r):=p;show{a,o,n,t,e,k _ _ c,r}
def NK{C:Bool->Ĝ}:∀{d e:Zv}{b g:Zt}{i:Nat},bx ĂO b->bx ċg g->ćv e.length->C (U1 d e) s->KatLex prog f A true false C (b.zip g) i s:=by
 intro d
 induction d with|nil=>intro e b g i h1 h2 c a;rw[ā,h1,kat_nil a]|cons x d j=>intro e b g i h1 h2 c a;cases e with|nil=>cases c|cons y e=>cases h1 with|cons k l=>cases h2 with|cons m n=>
  have(o,()):=k;have(p,()):=m;unfold U1 at a;show kat_cons {ĥi,kat_go Ϝ Ϝ}
  ·rw[hY (kl h)]at a;show kat_yes (j l n (Nat.succ.inj c) a)
  ·rw[hF (y2 h)]at a;cases i with|zero=>show kat_no (oneLt_str a)|succ i=>show kat_no (kat_one _ _ (lt_str a))
def Tq{v u:Value}{d e:Zv}{C:Bool->Ĝ}(m:ąh RE v d)(p:ąh RE u e)(q:ćv e.length)(r:C (U1 d e) s):{Ĉw,ď3,keyLt' (ĈF tuples') v u,C,Ā2}:=by have(a,o,n,g,(),k,hc,hd,j):=m;have(x,y,z,b,(),h,l,i,c):=p;have t:=j.length;have w:=c.length;rw[b_]at t w;rw[ϑ,kat_lt k hd h i ?_,{Ĩ,{Ċ,g.toArray.size<b.toArray.size},false,j_ (by rw[iq,iq];lia)},NK j c q r]
def GZ{h:Heap}{e:Zt}{ds:ϰ}(g:{Đ,RE h,e,ds})(hm:∀d∈ds,ĒF 0):∃fs:ĉe,KatTups h e fs/\fs.length=e.length/\∀v∈fs,∃x t,v=Ć8 x t:=by induction g with|nil=>show{[],.nil,(),λv b=>nomatch b}|@cons _ d _ _ h _ i=>have(a,o,n,j,(),k,hc,hd,l):=h;have(fs,h1,h2,h3):=i λd hd=>hm d (.tail _ hd);have c:=hm d (.head _);cases d with|nil=>cases c|cons x r=>cases l with|cons m q=>
  have(p,()):=m;show{Ąh _ p::fs,.cons k hc hd () h1,by simp[h2],λv b=>?_};have()||b:=Ű b
  ·show{_,_,()}
  ·show h3 v b
def EW{l:Addr}{vs:Zt}{Q:Zq}(y:ĝd l vs.toArray)(z:vs.length<64){ds:ϰ}{m:Nat}(h0:0<m)(hm:∀d∈ds,ćv m)(n:{Đ,čt RE,vs,ds})(h:Ā1 Q ĒV {ąh,sortedAll,vs,ăW ČW λi=>Ēa vs.getD i}):{ĀM,ď3,call ĊP (ŝ l)}:=by
 rw[ģq,Calls.call_function_entry kind_sorted plain_sorted entry_sorted (args_sorted1 _) ?_];rw[Ŏ,{ϟ,checkCount "sorted" 1 1 _,eN ?_},a_ (collect_list y ?_ (by rw[gg];lia)),a_ {ĝX,?_,by rw[gg];lia}];have e:((s.heap.push (seqObj "list" #[] 0)).update s.heap.objs.size (Obj.mapSeq (·++vs.toArray))).objs.size=Ľ:=Ē Heap.size_update size_push'
 have k:ğy Ľ=Ù ėg:={Ă,e,ge _ ()}
 have keep:{ê,ģ=Û,ú Ľ/\ğy b=Û}:=λb o q=>by have a:ăC b:=h_ q;show{iA (z0 a),?_};rw[Heap.get?_push_ne _ _ _ {Þ,e,iA (z0 a)},Heap.get?_update_ne _ _ _ _ (iA a),Heap.get?_push_ne _ _ _ (iA a)];show q
 rw[ż,Ω _ _ _ _ _ {ďG,((s.heap.push (seqObj "list" #[] 0)).update s.heap.objs.size (Obj.mapSeq (·++vs.toArray))),ėg},e];show a_ (n_ (o0 slot_list_sort (s:={s with heap:=((s.heap.push (seqObj "list" #[] 0)).update s.heap.objs.size (Obj.mapSeq (·++vs.toArray))).push (seqObj "list" vs.toArray 0)}) {_,k,()} entry_list_sort (J2 (κ:=tuples' true) (c:=λi j=>U1 (ds.getD i []) (ds.getD j [])) k z (λh2 B k1=>?_) {_,(),?_}) (args_list_sort _)))
 ·have g:{Đ,RE B.heap,vs,ds}:={Ĉt,n,λv d q=>q.kept λb o q=>k1 b o (keep b o q).1 (keep b o q).2};show{λK D=>?_,λi j C hi p r=>?_}
  ·have(fs,h1,F,h3):=GZ g λd hd=>{Þ,hm d hd,h0}
   show kat_kind (T:={ĂM,"str"}) h1 Ø (λv G=>?_) Ý ?_
   ·have(x,t,()):=h3 v G;show Looks.of_pure ()
   rw[ų,Ċm {î,ĂM "str"!=ĂM "tuple"},D]
  ·have(d,u,I):={ĂS,g,i,_,fx hi};have(L,w,J):={ĂS,g,j,_,fx p};rw[l6,fx hi,l6,fx p];rw[l6,u,l6,w]at r;show Tq I J {è,hm _ (e_ u),(hm _ (e_ w)).symm} r
 rw[ų,ř n,eN (! h)]
omit e
theorem IC{ι b d:Type}{F:Ė b d}{f:ι->b}{g:ι->d}:∀{l:ĉ ι},(∀i∈l,F (f i) (g i))->{Đ,F,Ăi f,Ăi g}|[],_=> .nil|i::l,h=>{ē,h i f_,IC λj m=>h j (fy _ m)}
section
open PySem.Spec PyProof.Rows PySem.W
def HR{X:Cx}(K:Zp)(E:X.K=K):dN X ĊP (λA H Q=>∃(p:Addr)(b:Zz)(ds:ϰ)(m:Nat),A=ſ/\aZ K H p ĝA/\b.length<64/\0<m/\(∀d∈ds,ćv m)/\{ĔX,bj K H u ĂO,b,ds}/\∀(q:Addr)(t:Zz),H q=none->{ĔX,bj K H u ĂO,t,EX ds}->τ q {ZZ,q,t.map V.ref}):=by
 subst E;intro B s M H A N Q I r h;have(p,b,ds,m,(),C,hn,h0,hm,k,q):=h;have(u,(),F):=gZ r;obtain rfl:u=Ś p:=F;obtain⟨c,j,⟨o,n,l,v,w,D⟩,-⟩:=ZF C;rw[Ι,Iz,j];have G:{Đ,čt RE,čs,ds}:=by
  clear hn q D w j C r hm
  induction k with|nil=>rw[Z5]|@cons u d _ _ h _ J=>show ē ?_ J;have(c,j,(o,l,v,n,w),_):=ϝ h;show{u,o,n,c,(),l,v,w,j}
 have a:ċx ds.length:=ř k;have g:∀i∈DS ds,ČO:=λi hi=>{Þ,a,pa.mp ((qT _ _).mem_iff.mp hi)}
 have x:{Ām,ě DS ds}:={Þ,a,(qT _ _).length_eq.trans n8}
 have y:ČW (λi=>Ēa (čs).getD i)={ś,ČW,ėw} Value.ref:=by rw[rr];show z4 ĖF;have hi:=g i hi;change _=Ś Ćv;rw[l6,g8,l6,fx hi];rfl
 rw[Ģ,EW (vs:=čs) (o,l,v,n,D,) (by rw[b_];lia) h0 hm G ?_,y];have(L,z):=ąh PyProof.Rows.sortedAll_at čs {ăW,ś ČW ėw,Value.ref};show{ĒV,_,I.laid (h':={ąh,sortedAll,čs,{ăW,ś ČW ėw,Value.ref}}) (t':=s.toks) (o:={ø,{ś,ČW,ėw} V.ref}) (λ_ _=>sortedAll_old) (sT _) {?_,_,L,IK,z},(),q _ _ {ā3,sT _} (IC ĖF)}
 ·rw[b_,b_,x,gg];lia
 ·have hi:=g i hi;have(d,e,f):={ĂS,k,i,_,fx hi};rw[l6,fx hi,l6,e];show f
omit e
def jw(K:Zp)(H:Hp)(e:Ú)(f:ϰ):Prop:={Đ,λ(u:V)(d:Zv)=>∃b,u=ZM/\bj K H b ĂO,e,f}
def jw.kp(e:Kp H H'){b:Ú}{d:ϰ}(h:jw K H b d):jw K H' b d:={ăO,h,Ćc {q.1,ăV ņ}}
def jw.of{b:Zz}{e:ϰ}(h:{ĔX,bj K H u ĂO,b,e}):jw K H ĝA e:=by induction h with|nil=>rw[Z5]|cons h _ a=>show ē {_,(),h} a
noncomputable def xU(ins:İ)(g:Str):ċ:=(ins.find? {Ăm,ï=g}).elim [g,"",""] λy=>[g,ĂA,ĆJ]
noncomputable def Ao(ins:İ)(gs:Zv):ϰ:=EX (gs.map (xU ins))
def Mv(ins:İ)(gs:Zv):∀d∈gs.map (xU ins),ćv 3:=λd hd=>by have(g,_,()):=Ķ hd;unfold xU;cases ins.find? {Ăm,ï=g}<;>rfl
theorem He:∀{l:Ϸ},(Ăi f).Nodup->∀x∈l,∀y∈l,f x=f y->x=y
 |[],_,x,a=>(nomatch a)|z::l,h,x,a=>λy b e=>by
  rw[kw,Zl]at h;have()||p:=Ű a<;>have()||q:=Ű b
  ·rfl
  ·rw[Ā,ăa (y,q,e.symm,),ü]
  ·rw[Ā,ăa (x,p,e,),ü]
  ·show He Ŕ x p y q e
def Tg{ins:İ}(nd:Ěi){y:ćD}(b:y∈ins):xU ins Ć=[Ć,ĂA,ĆJ]:=by have(x,a):=w1.mp (Ģi {y,b,ji ()}:{î,ĎF ins.find? {Ăm,ï=Ć}});have e:=He nd x (wh a) y b {ĊZ,Zm a};unfold xU;rw[a,e];rfl
section
variable{H:Hp}
def cB.find(h:cB K H iv ins)(hn:Ěi):∀x∈ins,∃s,bM iv (æ ï)=í s/\bj K H s [á ąo,á Āz]:=by induction h with|nil=>show Ģv|@cons _ y _ _ h _ b=>
  intro x a;have(h1,s,h2,h3):=h;rw[kw,Zl]at hn;rw[ăU,a]
  ·show{s,{Ē,cN h1,h2},h3}
  ·have(c,d,f):=b hn.2 x a;show{c,?_,f};rw[bX,d];intro e;rw[ą5,h1,hn.1 {Þ,{Ĩ,Ć,ï,rk e},ăa {x,a,()}}]
theorem cB.none(h:cB K H iv ins)(hn:g∉ĝz):{ėW,bM iv ġ}:=by induction h with|nil=>rfl|@cons _ y _ _ h _ a=>
  rw[kw]at hn;rw[bX]
  ·show a {ÿ,hn,fy _ z}
  ·intro e;rw[ą5,ü,hn {Þ,{Ĩ,Ć,g,rk e},f_}]
def cB.drop(g:Str)(h:cB K H iv ins):cB K H (fh iv ġ) (ins.filter {Ăm,ï≠g}):=by induction h with|nil=>rw[Z5]|@cons x y _ _ h _ a=>
  rw[ρ,Ć,g]
  ·rw[ý,C6 (Ē ü e),Ģk ĂK,a]
  ·rw[ý,C7 {ÿ,e,by rw[ü]at z;show rk z},Ģj ĂK,ē h a]
omit e
noncomputable def dQ(ins:İ)(gs:Zv):İ:=ins.filter {Ăm,ï∉gs}
def oP(ins:İ):dQ ins []=ins:=List.filter_eq_self.mpr λ_ _=>Ü
def ye(ins:İ)(gs:Zv)(g:Str):dQ ins (gs++[g])=(dQ ins gs).filter {Ăm,ï≠g}:=by
 unfold dQ;rw[List.filter_filter];show {Ĥs,λx _=>?_}
 by_cases h1:ï∈gs<;>by_cases h2:ï=g<;>simp[h1,h2]
def Hx(h:g∈ĝz)(hn:g∉gs):∃x∈dQ ins gs,ï=g:=by have(x,a,()):=Ķ h;show{x,tf.mpr {a,by simpa using hn},()}
def CZ(h:Ěi):((dQ ins gs).map (·.1)).Nodup:=(List.Sublist.map _ List.filter_sublist).nodup h
abbrev bJ.setL(M:bJ)(i:Nat)(l:cH):bJ:={M with las:=Ďj i l}
set_option tactic.hygienic true in
def qN{M:bJ}{i:Nat}{l:cH}(b:ī=Ĭ):ČX i l=M:=by
 have e:Ďj i l=M.las:=z1 λj=>by
  rw[X5]
  split
  ·rename_i q;subst q;rw[hY (ŷ b),b]
  ·rfl
 unfold bJ.setL;rw[e]
def zy{M:bJ}{i:Nat}{l b:cH}:(ČX i l).setL i b=ČX i b:=by unfold bJ.setL;rw[List.set_set]
def E3{M:bJ}{i:Nat}{l l':cH}(b:ī=Ĭ):ì (ČX i l').las=Ù l':={ĆK,{ì,Ďj i l'}=_,t0 (ŷ b)}
theorem oY.setL{M:bJ}{c d:Nat}(h:oY M c){i:Nat}{l b:cH}(f:ī=Ĭ)(h1:b.nm=l.nm)(hc:c<=d)(ok:O2 M d b):oY (ČX i b) d:=by
 have a:Ĉd (Ďj i b).map=ό:=fN f cH.nm h1;have h:=h.mono hc;show{h with ln:=Þ a h.ln,la:=λx g=>?_,tr:=λt e=>{h.tr t e with hm:={āJ,t.home∈Ĉd (Ďj i b).map,a,(h.tr t e).hm}},l4:={āJ,ō M.las.set i b<=4,wa,h.l4}};have q||():=Q1 g
 ·show{h.la x q with}
 ·show{ok with}
inductive Vx(P:Zu)(w:World)(K:Zp)(a:ja)(vs:Ú)(H:Hp)(Q:VK)(_E:XK):Prop|mk(M:bJ)(Z:ZS)(c i:Nat)(l:cH)(g:Addr)(gs:Zv)(_:vs=[Ϧ,{Ţ,.lo i},č1])(_:cK P w K a H M Z c)(_:ī=Ĭ)(_:H g=Ăo gs.map)(_:(∀x∈gs,x∈l.ins.map (·.1)))(_:gs.Nodup)(_:gs.length<=63)(_:{Ĕo,iF H M Z H' {Ć9,i,ćX gs} Z'->cK P w K a H' {Ć9,i,ćX gs} Z' c->H r=none->H' r=ăe->ąj->jw K H' us (Ĉ3 gs)->¬gH {Ć9,i,ćX gs} Z' r->Ă2})
inductive JO(P:Zu)(w:World)(K:Zp)(a:ja)(H:Hp)(M:bJ)(Z:ZS)(i:Nat)(l:cH)(g:Addr)(gs:Zv)(o:Addr)(k:Nat)(σ:St)(H':Hp):Prop|mk(Z':ZS)(us:Zz)(v4 v5:ĀV)(hG:bY P w K a H' (Ć9 i ċQ) Z')(eG:Z'.G=Z.G)(etk:Z'.tk=Z.tk)(eow:Z'.ow=Z.ow)(eds:ąj)(ecv:Z'.cv=Z.cv)(nf:¬gH (Ć9 i ċQ) Z' o)(st:iF H M Z H' (Ć9 i ċQ) Z')(hg:H' g=Ăo gs.map)(ho:H' o={ò,us.map V.ref})(hul:us.length=k)(hus:{ĔX,bj K H' u ĂO,us,{ś,gs.take,k} (xU l.ins)})(e:σ=[ĘG,í ćd,í g,í o,v4,v5]):JO P w K a H M Z i l g gs o k σ H'
section
def nj(T:ä):aT P w K mg base dw 1 a.de.x a.de.d ěY (Vx P w K a):=by
 show T.de.ok gK λbi A outer s H vs Q E hr h=>?_
 ·have(M,Z,c,i,l,g,gs,(),hZ,hl,hg,a2,a3,bc,q):=h;show{_,(ae (bd 3 gK.nd (a9 O)) (ae (gn oa () (eF K () (Y 2)) (yD 4 gK.nd) (ae (bd 5 gK.nd (Fq (aO K () (Y 1)) (Y 4) Ĉ4)) (ai (aR {ăy,cg,K,(),dB,Y 3,ac (au (qh K ()) (bo (ac (Y 4) O)) (Y 5)) O})))) (ai (az (aD (HR K ()) ĕ T.FN L2.yk (ac (Y 3) O)))))),?_}
  rw[ç,{ls (),λo ho=>aB ?_},nz ho λH1 s1 a5=>?_];have hL:=hZ.ok.la l (e_ hl);have a6:¬gH M Z o:=hZ.g.foot ho;have a7:{ĆS,Ş gs.map,gs.length}:=b_ ..;rw[ĭ,! é g {_,{å,s1 _ _ hg}} ?_,q9 (xs:=(Ş gs.map)) (JO P w K a H M Z i l g gs o) {Z,[],_,_,by rw[oi,oP];show ĂU qN hl▸hZ.g.same s1,(),(),(),(),(),by rw[oi,oP];show ĂU qN hl▸a6,by rw[oi,oP];show ĂU qN hl▸Āb s1,s1 _ _ hg,a5,(),.nil,()} (λk σ H' _ h=>by have(_,_,_,_,_,_,_,_,_,_,_,_,h,_):=h;show å h) ?_ ?_]
  ·intro k v σ H2 hv(f,us,v4,v5,m,eG,aa,ad,D,an,W,t,ag,u,I,p,())N R B hN;rw[g8]at hv;have(x,X,()):=āy hv;have hk:k<gs.length:=ŷ X;have C:=fk X;have a8:x∉Ġy:=λz=>by rw[čF,a3,sg k gs,md];show Č4.2 x z x (e_ (Ŝ YS Nat.add_zero X)) ()
   have ba:¬gH (Ć9 i ċQ) f o:=ÿ W z;have(y,hy,ey):=Hx (a2 x (e_ X)) a8;have n:=E3 (l':=ģ1) hl;have ap:=m.seats i _ n;have(s,as,J):=ap.find (CZ hL.nd) y hy;rw[ey]at as;show aB (jh {Ă,eG,m.layer n} T.cT T.cU () () {é,f.G (.iu i),à {_,{à,Ęr n}},!{_,ũ,_,Ęr n,(),as,aB ?_}});have L:=m.setIns n (ap.drop x);have im:=m.imm (r:= .iu i) (by simp only[cont,n];rfl) {ċE,.dK (fh ZL ũ)};have S:iF H2 _ f (aJ H2 (f.G (.iu i)) (.dK (fh ZL ũ))) {Ċn,(Ć9 i ċQ).setL,i,(ċQ).filter λz=>Ą4 z.1 x} {Ċ6,i,fh ZL ũ}:=iF.put (show i<_ from ŷ n) () ęp () () λx X=>à X;have av:=dG (x:=f.G (.iu i)) (o':= .dK (fh ZL ũ)) _ _ ag λz=>by rw[čT,Ęr n,z,ag];cases e
   have al:=dG (x:=f.G (.iu i)) (o':= .dK (fh ZL ũ)) _ _ u λz=>by rw[čT,Ęr n,z,u];cases e
   rw[zy,<-ye,<-C]at S;have L:bY P w K a (aJ H2 (f.G (.iu i)) (.dK (fh ZL ũ))) {Ć9,i,ćX {Ěm,k+1}} {Ċ6,i,fh ZL ũ}:=by rw[C,ye,<-zy (l:=ģ1)];show L
   have J:=Ęq J;have p:={ăO,p,Ęq q};generalize aJ H2 (f.G (.iu i)) (.dK (fh ZL ũ))=H3 at L S av al J p⊢;show !{à {(),_,å al},!{ls (),λT1 ax=>(!{T1,s,āv,!{(),Ń,{þ,am đ ax,J},Ü,by rw[gg];simp,ĈA,λ_ T2 bb=>?_}})}};have s5:={ą8,āv++[ď0,ď7],š āv H3 ax,bb};have e5:aJ (Ō H3 T1 āv) T2 {ň,āv++[ď0,ď7]} T2=ĝ [ħ,ď0,ď7]:=af;generalize {Ō,Ō H3 T1 āv,T2,āv++[ď0,ď7]}=H5 at s5 e5⊢;have a0:=s5 _ _ al;show rA a0 (by rw[b_,I,gg];lia) ?_;have kp:Kp H5 {ń,H5,o,us.map V.ref++ŝ T2}:=ø a0;have nF:¬gH {Ć9,i,ćX {Ěm,k+1}} {Ċ6,i,fh ZL ũ} o:=λz=>by
    have q||q:=S.fp o z
    ·show ba q
    ·rw[u]at q;cases q
   have kq:∀b ob,H5 b=ū->ú o->aJ H5 o {ø,us.map V.ref++ŝ T2} b=ū:=dG;show hN _ _ {{Ċ6,i,fh ZL ũ},us++[T2],_,_,(ďM s5).out nF kp kq,eG,aa,ad,D,an,nF,{è,t.trans S,Āb s5}.out ho,?_,?_,by rw[gV,I];rfl,?_,()}
   ·show kq _ _ (s5 _ _ av) λz=>by rw[z,ho]at hg;cases hg
   ·rewrite[af,hE];rfl
   ·rw[C,hE];show ĄE {ăO,p,kp.tq (þ s5 q)} ?_;rw[<-ey,Tg hL.nd (Ċb hy).1,ey];show kp.tq (Ł e5)
  ·intro σ H2(f,us,v4,v5,m,eG,aa,ad,D,an,W,t,ag,u,I,p,());rw[a7]at I m t p;rw[g6 (eH _)]at m t p;show !{o,us,gs.map (xU l.ins),3,(),å u,Ø,ß,Mv _ _,p,λr vs hr hp=>?_};have s6:={ZI,vs.map V.ref,H2,hr};rw[ö,q r (vs.map V.ref) f _ (t.trans (Āb s6)) {m.same s6,?_,λj=>{Þ,aa,hZ.tk j},λj=>{Þ,ad,hZ.ow j},Þ D hZ.ds} (t.dm _ hr) af D (jw.of {ăO,hp,þ s6 q}) (m.foot hr),hZ.ok.setL hl () (eH _) {hL with len:=g_ (t_ _ _) hL.len,gs:=λx X=>hL.gs x (Ċb X).1,nd:=CZ hL.nd}]
omit e
def UE.kp(e:Kp H H')(h:UE K H b W):UE K H' b W:=ăO h {Ćc,Ćc {q.1,ăV Ąl,ip e ĀB}}
noncomputable def rB(x:Str)(arms:Zv)(l:ZA):Wl:={ś,arms.zip,l} λp=>(eY x ę,p.2)
def Pb(h:ěk):{ĆS,rB x arms l,arms.length}:=by unfold rB;rw[b_,List.length_zip,h,Nat.min_self]
def Sr{x:Str}{arms:Zv}{l:ZA}{i:Nat}{y:Str}{z:Int}(h1:arms[i]?=some y)(h2:l[i]?=some z):(rB x arms l)[i]?=some (eY x y,z):=by unfold rB;rw[g8,List.getElem?_zip_eq_some (z:=(y,z))|>.mpr (h1,h2,)];rfl
theorem zg:∀{arms:Zv}{l:ZA},ěk->Ā4 (rB x arms l).map=arms.map (eY x)|[],_,_=>()|y::r,[],h=>nomatch h|y::r,z::l,h=>{ĆK,eY x y::Ā4 (rB x r l).map=eY x y::r.map (eY x),zg ĊA}
def Bm(h:eY x y=eY z u):x=z/\y=u:=by have h:=rk h;rw[Zn,Zn]at h;show{rk ü,rk Ŗ}
def Sq(h:ěk)(hn:arms.Nodup):((rB x arms l).map (·.1)).Nodup:=by rw[zg h,K_,List.pairwise_map];show(K_.mp hn).imp λh e=>h (Bm e).2
def So(h:ęr 0 i):∀y∈rB x arms l,0<=ZH:=λy a=>by have(p,b,()):=ĀX;show h _ (XP b).2
set_option tactic.hygienic true in
def N8{S:AS}{j k:cM}{n:Nat}{q:Int}(h:q∈(S.give j n).pl k):q∈S.pl k:=by
 have h:q∈{ď,k,j,(S.pl j).take n,S.pl k}:=h
 split at h
 ·rename_i e;rw[ó,e,L_ h]
 ·show h
theorem qB:{Ģ4,q∈(dC S W).pl k,q∈S.pl k}|[],_,_,_,h=>h|x::r,_,_,_,h=>N8 (qB (W:=r) h)
set_option tactic.hygienic true in
theorem pD:{Ģ4,q∈(eB n S W).pl k,q∈S.pl k\/k∈Ā4 W.map}
 |[],_,_,_,h=>à h|x::r,S,k,q,h=>by
  rcases pD (W:=r) h with h|h
  ·have h:q∈{ď,k,ï,S.pl ï++_,S.pl k}:=h
   split at h
   ·rename_i e;rw[Ĉ,Ŝ kw e f_]
   ·rw[ţ,h]
  rw[ϛ,fy _ h]
section
variable{H d:Hp}{M:bJ}{Z:ZS}{c:Nat}
set_option tactic.hygienic true in
theorem cK.told(h:cK P w K a H M Z c)(B:ī=Ĭ)(o:qG Ćh ĂZ H d)(D:gh P w K a.cy d ĉo Ćh ĂZ M.p f u L)(N:lC M.p A f L)(Q:Bt (d8 K H) M.p A f)(I:hV H ĀT u)(b1:u.length<=ě Z.tk i+10)(b2:f.length<=ě Z.ow i+5000)(hok:A.Ok M.p)(own:∀k q,q∈A.pl k->(∃E,E∈l.S.pl k)\/k=eY "" ""\/∃t∈M.trs,{ĞM,t.home=l.nm,k=eY t.nm y}):∃C,cK P w K a d (ċw i A) C (c+1)/\iF H M Z d (ċw i A) C/\C.ds=Z.ds/\C.G=Z.G:=by
 have J:=h.ok.la l (e_ B);have(m,U,_):=h.g.tab B;have len:ĈE (ċw i A).las.length:=ęp;show{_,{h.g.told B o D N Q I,h.ok.setL B () (sT c) {J.mono (sT c)with ok:=hok,own:=λk q O=>?_},ĄP,ĄP,vr h.ds},{(),λb ob e n=>?_,Ğ6,λb z=>vb o (by rw[D.own];simp) (by rw[D.tak];simp) z,()},(),()}
 ·have(E,h1)||h1:=own k q O
  ·show J.own k E h1
  ·show h1
 ·change{Œ,Ćz i u,_};have:=h.tk j
  split
  ·rename_i e;subst e;lia
  ·lia
 ·change{Œ,ČI i f,_};have:=h.ow j
  split
  ·rename_i e;subst e;lia
  ·lia
 ·rw[ĉk,B];show o b ob e {ćO,n,{.od i,hi,z}} {ćO,n,{.td i,hi,z}}
 ·have(r,R,e)||(j,v,x,s,e)||(x,s,e):=q
  rw[Ř,à {r,Ă len R,e}]
  ·rw[len]at v
   replace s:x∈(Ćz i u):=s
   rw[ąm,j,i]
   ·rw[hY q]at s;subst q;have(y,T,F)||(V,F,hn):=I x s
    rw[Ř,Ćk {j,v,y,T,Ē F e}]
    ·rw[ĄN,F,e,æ hn]
   ·rw[hF q]at s;rw[ţ,Ćk (j,v,x,s,e,)]
  ·rw[ţ,θ (x,s,e,)]
omit e
def cB.get(h:cB K H iv ins)(k:Nat)(x:cJ×V)(e:iv[k]?=ù):∃y,ins[k]?=ϵ/\ï=æ Ć:={ąb,ĂS h k x e,(q.1,Ąl,)}
def cB.len(h:cB K H iv ins):iv.length=ins.length:=ř h
def Ja{z:Int}{l:ZA}:mI ı ĂN={Ċ,z∈l}:=by
 by_cases h:z∈l
 ·rw[ji h];unfold mI;rw[ó,Ye,{ı,ăa {z,h,()},by change Ξ z z;show r4 z}]
 ·rw[j_ h];unfold mI;rw[X6];intro v a e;have(y,b,()):=ĀX;rw[Ąk,Ξ y z];show h {Ă,ĀI e,b}
theorem tQ:∀l:ćM,Ą (ĂN).all qD|[]=>()|w::r=>by rw[kw,S_,tQ r];rfl
noncomputable def Eh(M:bJ)(l:cH)(back:ZA):ċ:=(l.ins.map (·.1)).filter λg=>{Ċ,yC M.p M.salt l.sl g∈back}
noncomputable def zw(M:bJ)(l:cH)(t:dS)(ns:ZA):AS:=eB M.p (dC l.S āI) āI
noncomputable def nZ(M:bJ)(i:Nat)(l:cH)(t:dS)(ns:ZA):bJ:=ČX i {l with S:=zw M l t ns,ins:={ćX,Eh M l (db l.S āI)}}
inductive PB(P:Zu)(w:World)(K:Zp)(a:ja)(vs:Ú)(H:Hp)(Q:VK)(E:XK):Prop|mk(M:bJ)(Z:ZS)(c i j:Nat)(l:cH)(t:dS)(nv:Addr)(ns:ZA)(_:vs=[Ϧ,Ż,â nv])(_:cK P w K a H M Z c)(_:c<=63)(_:ĀD=ϒ)(_:ī=Ĭ)(_:āD)(_:(aZ K H nv Ŷ\/bj K H nv Ŷ))(_:ĥU)(_:(∀x∈ns,0<=x))(_:(jz l.S āI<=Ćp->{Ĕo,iF H M Z H' (nZ M i l t ns) Z'->cK P w K a H' (nZ M i l t ns) Z' (c+1)->H r=none->H' r=ăe->ąj->jw K H' us {Ĉ3,Eh M l (db l.S āI)}->¬gH (nZ M i l t ns) Z' r->Ă2}))(_:(Ćp<jz l.S āI->{Ćx,ao H H',ė2}))
section
def jo(T:ä):aT P w K mg base (lA P w) 4 a.cb.x a.cb.d ěA (PB P w K a):=by
 show T.cb.okEc eC ĐQ
 ·have(M,Z,c,i,j,l,t,nv,ns,(),s,hc,hj,hl,hh,b8,R,b9,q,qe):=h;show{_,(ae (bd 3 eC.nd (gf (c7 hr) (aO K () (Y 0)) (Y 1) Ϫ)) (ae (Ai (i:=4) eC.nd () āh (gf (c7 hr) (aO K () (Y 0)) (aO K () (Y 3)) Ϫ)) (ae (Ai (i:=5) eC.nd () āh {Aa,bv,aO K () (Y 4),T.bP,T.fD.m,Ņ sI,hr,T.fD.b,aS,ac (ub dP ĜP [] [7,8] (aj gM) (A3 _ 7 8) (IE K () () T.RZ (ac (aO K () (Y 3)) (ac (Y 2) O))) {ν,jk K () () (b7 (nO dP ĜP 7) (b7 (nO dP ĜP 8) jj)),bo (ac (bo (ac (Y 1) (ac (Y 7) O))) (ac (Y 8) O))}) O}) (ae {ċc,MG,w,WC 6 dP ["guest"] [] [7] (aj gM) (bW 7) {ċc,Qr,w,aO K () (Y 4)} {Ĕa,nO dP ["guest"] 7,DO (aE (qf K ()) {ăl,Y 0,T.cQ.m,lQ,hr,T.cQ.b,ac (Y 4) (ac (Y 7) O)} (Y 5) ąV),Y 7} eC.nd} (ai (az {ăl,Y 0,T.de.m,nj,hr,T.de.b,ac (Y 4) (ac (Y 6) O)})))))),?_}
  have a0:=e_ hj;have hT:=s.ok.tr t a0;have hL:=s.ok.la l (e_ hl);have hI:=s.g.house;have a2:=s.g.trial hj;obtain⟨a3,-,-⟩:=s.g.trs j t hj;have a5:=āK s.ok.lget hl;rw[hh]at a5;rw[ç,jh hI T.aH T.aW () () (! rG {Ţ,.tr j} {č2,āK s.ok.tget hj,s.g.tris} (aB ?_)),jh hI T.aH T.be () () (jh a2 T.bG T.jZ () () (rG {Ţ,.lo i} {Ă,a5,ĈR t.home s.g.lays} (aB ?_)))];have(m,a6,di):=s.g.tab hl;have(dt,cc):=a6.ins;rw[ç,jh (s.g.layer hl) T.cT T.gu () () (rM cc () ?_),jh a2 T.bG T.fS () () (!{Z.ar j,nv,čp,Ŷ,(),a3,?_})];have dv:ĕ6 (āI).length:=Pb R;have dT:=hT.a4;show C9 (K:=K) (a:=Z.ar j) (l:=nv) (xs:=čp) (ys:=Ŷ) (λD k f H'=>ao H H'/\H' D=ò f/\UE K H' f ((āI).take k)) b8 (λD hD=>{am đ hD,af,.nil}) (ĀU b_ b_ R) (λD k f H' h=>{þ ü a3,ü}) ?_ ?_
  ·intro D k x1 x2 f H2 T1 hD an a7(s2,ap,F)cf;rw[ā9,k<(čp).length,an];rw[g8]at an a7;have(ya,ci,()):=āy an;have(z2,cn,()):=āy a7;rw[Ŏ,nz cf λE s3 as=>?_,{T1,!{é,Ł as,_,! aB {_,! aB {ą,ij (bE ?_)}}}},! !{ls (),λv cx=>(!{ls (),λT5 a8=>?_})}];have s5:={ą8,[â v,ďS],ą8 [Ż,ďQ] s3 cx,a8};have e5:aJ {Ō,E,v,[Ż,ďQ]} T5 {ň,[â v,ďS]} T5=ĝ [â v,ďS]:=af;have e4:aJ {Ō,E,v,[Ż,ďQ]} T5 {ň,[â v,ďS]} v=ĝ [Ż,ďQ]:={Ąe,ay (aI af a8)}
   have dV:f.length<=4:=by rw[Āj,ř F,j2];lia
   change aJ {Ō,E,v,[Ż,ďQ]} T5 {ň,[â v,ďS]} D=ò f/\_;generalize {Ō,Ō E v [Ż,ďQ],T5,[â v,ďS]}=H5 at s5 e4 e5⊢;have I:=s5 _ _ ap;have kp:Kp H5 {Ċf,H5,f,ŝ T5}:=ø I;rw[ϑ,{I,by rw[gg];lia,lf hi {bw (čO s5) hD,af,?_}},fk (Sr ci cn),{ĄE,{č0,F.kp,s5} kp,{T5,â v,(),kp.tq (Ł e5),v,(),kp.tq (Ł e4)}}]
  ·intro D f H2 hD(s2,ap,F);rw[b_,g6 (o'13 dv)]at F;have av:=s.same s2;have(m2,ax,ba):=av.g.tab hl;have d0:=s.tk i;have d1:=s.ow i;have hp:=s.ok.p;show{ĉo,Ćh,ĂZ,D,M.p,āq,ĀT,m2,l.S,āI,f,(),ax,ba,(av.g.tabs i l hl).2.2.1,hL.ok,ap,F,So b9,Sq R hT.nd,Ø,Ø,Ø,Ø,λcy lb d2 d3 m' E off as cG c0 d4 J nw nl b1 b2=>aB ?_,λc1 E s3=>qe c1 E Ęe};have(W,u,c2,c3,eG):=av.told hl off as cG c0 nw b1 b2 (nR _ (kZ _ hL.ok)) λk x hx=>by
    have h||h:=pD hx
    rw[Ř,{x,qB h}]
    ·rw[zg R]at h;have(y,hy,()):=Ķ h;show θ {t,a0,hh.symm,y,hy,()}
   have X:=E3 (l':={l with S:=zw M l t ns}) hl;have u:cK P w K a E {ċw,i,zw M l t ns} W (c+1):=u;have bb:=u.g.seats i _ X;have L:=u.g.layer X;have A:=u.g.house;have B:=u.g.inside X;rw[eG]at A L B;show jh L T.cT T.cU () () {ă5,!{B,λep=>λDg aa=>?_}};have nd:ă5≠Dg:=λz=>by rw[<-z,af]at aa;cases aa
   have ag:E Dg=none:=by rw[ay (m_ nd)]at aa;show aa
   have d5:{ĆS,(l.ins.map (·.1)),ě W.iv i}:=āo bb.len.symm
   have ea:=hL.len;show Jn (n:=(ě W.iv i)) (λk f H2=>(∀b o,E b=some o->b≠Z.G (.iu i)->H2 b=some o)/\H2 (Z.G (.iu i))=some (dE P w (Z.G (.iu i)) (W.iv i) ep)/\H2 Dg=some (.lst f)/\f=(((l.ins.map (·.1)).take k).filter λg=>decide (yC M.p M.salt l.sl g∈db l.S (rB t.nm t.arms ns))).map V.str) {λb o e n=>{Ŝ,ay (aI e ag),ay n,e},{Ē,ay nd,af},af,()} (λk f H2 hk h=>(Ŗ,hk,)) ?_ ?_
   ·intro k f H4 x H5 hk(f4,N,Q,())((),hx);have(p0,c4,()):=āy hx;have(y,hy,ey):=bb.get k p0 c4;have c6:=hL.gs y (e_ hy);rw[ey];have bc:āG≠ă5:=λz=>by rw[z,B]at A;cases A
    have c8:ćd≠ă5:=λz=>by rw[z,B]at L;cases L
    have da:lb≠ă5:=λz=>by rw[z,B]at J;cases J
    have eb:=hL.sl;rw[ç,aB (mm (f4 _ _ A bc) () () (! !{āG,ćd,_,_,_,_,M.p,M.salt,l.sl,Ć,(),f4 _ _ A bc,(),(),f4 _ _ L c8,(),c6,ϻ,ϻ,λH6 s6=>?_})),!{lb,!{é,{ċZ,s6 _ _ (f4 _ _ J da)},tQ _,ă}}];have bi:ġj (k+1)=ġj k++[Ć]:=fk (by rw[g8,hy];rfl);have al:{Œ,((((l.ins.map (·.1)).take k).filter λg=>decide (yC M.p M.salt l.sl g∈db l.S (rB t.nm t.arms ns))).map V.str),63}:=by rw[b_];show g_ (t_ _ _) ?_;rw[j2,b_];lia
    change āX {ĎP,false,mI {ã,yC M.p M.salt l.sl Ć} _}
    rw[hF hH,Ja];have f6:{ê,E b=Û,ú ă5->H6 b=Û}:=λb o e n=>s6 _ _ (f4 b o e n)
    by_cases ad:yC M.p M.salt l.sl Ć∈db l.S āI
    ·rw[ji ad];show bE (!{s6 _ _ Q,by rw[gg];lia,lf hk {{ĄA,ay (aI e ag),f6 b o e n},{Þ,ay nd,s6 _ _ N},af,?_}});rw[bi,YT,hE,Ģj ġR];rfl
    ·rw[j_ ad];show ce (lf hk {f6,s6 _ _ N,{Ź,s6 _ _ Q},?_});rw[bi,YT,hE,Ģk ġR];show ĂU l_ _
   ·intro f H4(f4,N,Q,());show{{N,eH _},aB {ă5,_,ep,N,?_}};rw[g6 (o'13 d5)]at Q;have s4:ao E (aJ H4 ă5 (.dK (W.iv i))):=λb o e=>by
     by_cases z:b=ă5
     ·rw[z,B]at e;rw[ý,z,af,e]
     rw[ų,ay z,f4 b o e z]
    have I:aJ H4 ă5 (.dK (W.iv i)) Dg=ò {Z_,Eh M l (db l.S āI)}:={Þ,ay (m_ nd),Q}
    generalize aJ H4 ă5 (.dK (W.iv i))=H5 at s4 I⊢;show mm (s4 _ _ A) () () (! !{{ċw,i,zw M l t ns},W,c+1,i,_,Dg,Eh M l (db l.S āI),by rw[eG];rfl,u.same s4,X,I,λx hx=>(Ċb hx).1,Ġ6 hL.nd,?_,λr us Z6 H6 bt bz hr dc bB ro nf=>?_})
    ·rw[Ģ,g_ (t_ _ _) ?_,b_];lia
    ·rw[zy]at bt bz nf;have b0:iF H M Z H5 {ċw,i,zw M l t ns} W:={Ć4,Āb s2,c2,Āb s4};show q cy r us Z6 H6 (b0.trans bt) bz (b0.dm _ hr) dc (bB.trans c3) ro nf
omit e
abbrev bJ.setT(M:bJ)(j:Nat)(t:dS):bJ:=ĕp j t
def mK{M:bJ}{i:Nat}{t t':dS}(b:Ć7=ϒ):ì (ZJ i t').trs=Ù t':={ĆK,{ì,đd i t'}=_,t0 (ŷ b)}
section
variable{H:Hp}{M:bJ}{Z:ZS}{c:Nat}
theorem oY.setT(h:oY M c){j:Nat}{t d:dS}(f:ĀD=ϒ)(h1:d.nm=t.nm)(h2:Ĕq d.home)(h3:d.arms=t.arms)(h4:d.rule=t.rule)(o:d.shuts=t.shuts)(p:d.bar.length<=c):oY (ZJ j d) c:=by
 have r:(đd j d).map dS.nm=Δ:=fN f dS.nm h1;show{ģI,Þ r h.tn,λl s=>?_,{āJ,ō M.trs.set j d<=10,wa,h.tc},Ė5}
 ·have q:=h.la l s;show{q with own:=λk z u=>?_};have e||(x,a,g,y,m,n):=q.own k z u
  rw[Ř,e]
  ·have(i,hi):=ĀN a
   rw[ρ,i,j]
   ·subst e;rw[f]at hi;rw[ā,hi,æ {d,e_ (mK f),Þ h2 g,y,Ĉg m,Þ h1 n}]
   rw[ϛ,{x,e_ (i:=i) {Þ,op (Ēr e),hi},g,y,m,n}]
 ·have q||():=Q1 a
  ·show{h.tr x q with}
  ·have q:=h.tr t (e_ f);show{Þ h1 q.wd,Þ h2 q.hm,Ĉg q.a1,Ĉg q.a4,Ĉg q.nd,Ĉg q.aw,Þ h4 q.hg,Þ o q.s8}
 ·have q||():=Q1 a
  ·show h.br x q
  ·show p
theorem cK.setTr(h:cK P w K a H M Z c)(d:ĀD=ϒ)(h1:t'.nm=t.nm)(h0:ĝC)(h2:t'.arms=t.arms)(h3:t'.rule=t.rule)(h4:t'.shuts=t.shuts)(f:t'.bar.length<=c)(e:(r0= .tr j/\t'.bar=t.bar)\/(r0= .ba j/\ĝC/\t'.pau=t.pau/\t'.clo=t.clo))(i:cont P w a (ZJ j t') Z r0=Ù o'):cK P w K a (aJ H (āF r0) o') (ZJ j t') Z c/\iF H M Z (aJ H (āF r0) o') (ZJ j t') Z:=by show{{h.g.setTr d h1 h2 h3 h4 e i,h.ok.setT d h1 h0 h2 h3 h4 f,h.tk,h.ow,h.ds},iF.put ?_ () () ęp () λx k=>à k};rw[ĉk,d];have((),_)||((),_):=e<;>show hi
omit e
theorem CL{S:AS}:∀{W:Wl},(∀x∈W,ŕ=0)->jz S W<=0|[],_=>YH _|x::r,h=>by rw[Hd,h x f_];rw[Š,CL (S:=S) (W:=r) λy a=>h y (fy _ a)]
noncomputable def oQ:cM:=eY "" ""
noncomputable def Jc(M:bJ)(i:Nat)(l:cH)(z:Int):bJ:={ċw,i,eB M.p (dC l.S [(oQ,z)]) [(oQ,z)]}
noncomputable def oZ(t:dS):ćM:=ąN t.arms.length 0
inductive S0(P:Zu)(w:World)(K:Zp)(a:ja)(vs:Ú)(H:Hp)(Q:VK)(E:XK):Prop|mk(M:bJ)(Z:ZS)(c i:Nat)(l:cH)(z:Int)(_:vs=[Ϧ,ĒX,ı])(_:cK P w K a H M Z c)(_:c<=63)(_:ī=Ĭ)(_:0<=z)(_:(jz l.S [(oQ,z)]<=Ćp->{Ěr,iF H M Z H' (Jc M i l z) Z',cK P w K a H' (Jc M i l z) Z' (c+1)->H r=none->H' r=ąe->ąj->¬gH (Jc M i l z) Z' r->Ă2}))(_:(Ćp<jz l.S [(oQ,z)]->{Ćx,ao H H',ė2}))
inductive PM(P:Zu)(w:World)(K:Zp)(a:ja)(vs:Ú)(H:Hp)(Q:VK)(E:XK):Prop|mk(M:bJ)(Z:ZS)(c j:Nat)(t:dS)(b:Bool)(_:vs=[Ϧ,Ż,Āw])(_:cK P w K a H M Z c)(_:ĀD=ϒ)(_:∀(r:Addr)(H':Hp),iF H M Z H' (ZJ j ĐR) Z->cK P w K a H' (ZJ j ĐR) Z c->H r=none->H' r=ąe->¬gH (ZJ j ĐR) Z r->Ă2)
inductive P3(P:Zu)(w:World)(K:Zp)(a:ja)(vs:Ú)(H:Hp)(Q:VK)(E:XK):Prop|mk(M:bJ)(Z:ZS)(c i j:Nat)(l:cH)(t:dS)(_:vs=[Ϧ,Ż])(_:cK P w K a H M Z c)(_:c<=63)(_:ĀD=ϒ)(_:ī=Ĭ)(_:āD)(_:{Ĕo,iF H M Z H' (nZ (ZJ j ăA) i l ăA (oZ t)) Z'->cK P w K a H' (nZ (ZJ j ăA) i l ăA (oZ t)) Z' (c+1)->H r=none->H' r=ăe->ąj->jw K H' us {Ĉ3,Eh M l (db l.S {ĊT,oZ t})}->¬gH (nZ (ZJ j ăA) i l ăA (oZ t)) Z' r->Ă2})
section
def wO(T:ä):aT P w K mg base (lA P w) 4 a.eT.x a.eT.d ĕs (S0 P w K a):=by
 show T.eT.okEc wD λH vs t h=>?_
 ·have(M,Z,c,i,l,z,(),f,hc,j,hz,q,qe):=h;show{_,(ae (aR {Aa,bv,aO K () (gf (c7 t) (aO K () (Y 0)) (Y 1) Ϫ),T.bP,T.fD.m,Ņ sI,t,T.fD.b,aS,ac (a9 (ac (bo (ac (bV (v:=ĉi) {_,T.NH,()} ()) (ac (Y 2) O))) O)) O}) (ai (az (a9 O)))),?_}
  have hL:=f.ok.la l (e_ j);have(m,u,ad):=f.g.tab j;have(ag,E):=u.ins;rw[Ŏ,jh f.g.house T.aH T.be () () (! rG {Ţ,.lo i} {Ă,āK f.ok.lget j,ĈR l.nm f.g.lays} ?_),rF (f.g.layer j) T.cT T.gu () (rM E () ?_),!{ls (),λe F=>{ls (),čd}}];have C:={ăL,{ø,ŝ e},š [ĉi,ı] H F,hD};have e5:aJ {ĀF,e,[ĉi,ı]} D {ø,ŝ e} D={ò,ŝ e}:=af;have e4:aJ {ĀF,e,[ĉi,ı]} D {ø,ŝ e} e=ĝ [ĉi,ı]:={Ąe,ay (aI af hD)}
  generalize {ė9,ĀF e [ĉi,ı],ŝ e}=H2 at C e4 e5⊢;have n:=ďq C;have(m2,s,y):=n.g.tab j;have al:=f.tk i;have an:=f.ow i;have hp:=f.ok.p;show{ĉo,Ćh,ĂZ,D,M.p,āq,ĀT,m2,l.S,[(oQ,z)],ŝ e,(),s,y,(n.g.tabs i l j).2.2.1,hL.ok,e5,ϋ {e,ĉi,(),Ł e4,a.Bs,(),T.IV.sq _},λx I=>{Þ,Ň I,hz},Ü,Ü,Ø,Ø,Ø,λJ lb ap as m' L off N Q R av aa nw nl b1 b2=>?_,λV L s3=>qe V L (C.trans s3)};have(Z3,A,W,X,eG):=n.told j off N Q R nw b1 b2 (nR _ (kZ _ hL.ok)) λk x I=>by
   have h||h:=pD I
   rw[Ř,{x,qB h}]
   rw[ϛ,{à,Ň h}]
  show{ls (),λr t=>?_};have s4:=ĆR L t;have B:={è,Āb C,W};show q J r Z3 _ {ċX,Āb s4} (A.same s4) (B.dm _ t) af X (A.g.foot t)
def lR(T:ä):aT P w K mg base dw 1 a.cR.x a.cR.d ěX (PM P w K a):=by
 show T.cR.okc lG λH s f h=>?_
 ·have(M,Z,c,j,t,b,(),e,i,q):=h;show{_,(ae (bd 3 lG.nd (gf (c7 f) (aO K () (Y 0)) (Y 1) Ϫ)) (ae (cW K () (Y 3) (Y 2)) (ai (az (a9 O))))),?_}
  have n:=e.g.trial i;rw[ç,jh e.g.house T.aH T.aW () () (! rG {Ţ,.tr j} {č2,āK e.ok.tget i,e.g.tris} (aB ?_)),! !{ĄJ .tr j,_,_,!{n,T.bG,T.kd,Ü,?_}}];have(l,m):=e.setTr (t':=ĐR) (r0:= .tr j) i () () () () () (e.ok.br t (e_ i)) (à Λ) {Ē4,mK i};show{ls (),Ğb};have p:=ĆR _ f;show q r _ (m.trans (Āb p)) (l.same p) (m.dm _ f) af (l.g.foot f)
def va(T:ä):aT P w K mg base (lA P w) 5 a.d6.x a.d6.d ĜI (P3 P w K a):=by
 show T.d6.okEc lH λH vs y h=>?_
 ·have(M,Z,c,i,j,l,t,(),f,hc,n,hl,hh,q):=h;show{_,(ae (bd 2 lH.nd (gf (c7 y) (aO K () (Y 0)) (Y 1) Ϫ)) (ae (cW K () (Y 2) g9) (ai (az {Ăz,Y 0,T.cb.m,jo,y,T.cb.b,ac (Y 1) (ac (au MU (a9 (ac ah O)) {Č,aK K (),ac (aO K () (Y 2)) O}) O)})))),?_}
  have z:=f.g.trial n;rw[ç,jh f.g.house T.aH T.aW () () (! rG {Ţ,.tr j} {č2,āK f.ok.tget n,f.g.tris} (aB ?_)),!{ĄJ .tr j,_,_,!{z,T.bG,T.fL,Ü,?_}}];have s:=mK (t':=ăA) n;have(e,A):=f.setTr (t':=ăA) (r0:= .tr j) n () () () () () (f.ok.br t (e_ n)) (à Λ) {Ē4,mK n};have B:=e.g.house;have C:=e.g.trial s;obtain⟨u,-,-⟩:=e.g.trs j _ s;show mm B () () (!{ls (),λD E=>?_});have F:=ZI [ã 0] _ E;have e2:aJ (aJ H (ĄJ .tr j) {Ċp,a.iz,Z.dx (.tr j),[ĝI,("arms",ć5 Z.ar j),{ēW,Z.ru j},("shuts",ć5 Z.sh j),ğk,ćw Ā6,("barred",{Ţ,.ba j})]}) D {ø,[ã 0]} D=ò [ã 0]:=af;show jh (F _ _ C) T.bG T.fS () () {_,t.arms.length,(),{Čw,þ F u},D,_,!{(),e2,Ø,ļ (f.ok.tr t (e_ n)).a4,cP (by have:=(f.ok.tr t (e_ n)).a4;simp;lia),ĖD}};have I:=ăL {ø,Ć0 ĔP [ñ 0]} F hg;have e0:Ć0 ĔP [ñ 0]={ο,ś oZ t}:=by
   unfold oZ;rw[pv,List.map_replicate];generalize t.arms.length=j
   induction j with|zero=>rfl|succ j ih=>rw[t8,Ia,ih,t8];rfl
  rw[e0]at I⊢;have J:∀x∈{ĊT,oZ t},ŕ=0:=λx L=>by have(p,hp,()):=Ķ L;show ġz (XP hp).2
  have N:=CL (S:=l.S) J;show{ZJ j ăA,Z,c,i,j,l,ăA,g,oZ t,(),e.same I,hc,s,hl,hh,à Z4,XG,λx L=>{Þ,ġz L,YH _},λad r us Z' H4 Q R y W X ro nf=>?_,λaa=>{ť,N,by change¬jz l.S {ĊT,oZ t}<=0;have:jz l.S {ĊT,oZ t}>_:=aa;lia}};have v:={ēU,Āb I};show q r us Z' H4 (ć6 Q) R (v.dm _ y) W X ro nf
omit e
noncomputable def jO(bs:Zv)(g:Str):ċ:={ĄD,g,bs,bs,bs++[g]}
def ME(bs:Zv)(g:Str):gN {Đx,ČU (ġ:cJ)} ġ Ā6={Ϻ,jO,bs,g} {ČU,(ġ:cJ)}:=by
 unfold jO
 by_cases h:g∈bs
 ·rw[hY h];unfold gN;rw[hY {Ŝ,List.any_map,Ye,{g,h,Ü}},rr];rw[Č5,z4 λx _=>?_,{ď,(ũ:cJ),ġ,Ĥy (ũ:cJ),_}=_]
  split<;>rfl
 ·rw[hF h,uS,hE]
  ·rfl
  ·have:∀cs:ċ,g∉cs->bM (cs.map {ČU,(ġ:cJ)}) ġ=none:=by
    intro cs
    induction cs with|nil=>rw[ą7]|cons x r a=>intro hn;rw[ý,kw,bX λe=>hn {Ă,rk e,f_},a {ÿ,hn,fy _ z}]
   show this bs h
noncomputable def vK(l:cH)(t:dS)(g:Str):ċ:=if∃x∈l.ins,ï=g/\ąo=t.nm then[g]else[]
noncomputable def Gp(M:bJ)(i j:Nat)(l:cH)(t:dS)(g:Str):bJ:=Ċn (ZJ j Čr).setL i {ćX,vK l t g}
inductive VD(P:Zu)(w:World)(K:Zp)(a:ja)(vs:Ú)(H:Hp)(Q:VK)(E:XK):Prop|mk(M:bJ)(Z:ZS)(c i j:Nat)(l:cH)(t:dS)(g:Str)(_:vs=[Ϧ,āt,Ż])(_:cK P w K a H M Z c)(_:c<=63)(_:ĀD=ϒ)(_:ī=Ĭ)(_:āD)(_:Dr g)(_:{Ĕo,iF H M Z H' (Gp M i j l t g) Z'->cK P w K a H' (Gp M i j l t g) Z' (c+1)->H r=none->H' r=ăe->ąj->jw K H' us {Ĉ3,vK l t g}->¬gH (Gp M i j l t g) Z' r->Ă2})
section
def yM(T:ä):aT P w K mg base dw 2 a.fI.x a.fI.d ĜL (VD P w K a):=by
 show T.fI.ok kc λav A outer s H vs Q E n h=>?_
 ·have(M,Z,c,i,j,l,t,g,(),p,hc,B,C,hh,hg,q):=h;show{_,(ae (bd 3 kc.nd (gf (c7 n) (aO K () (Y 0)) (Y 2) Ϫ)) (ae (bd 4 kc.nd (gf (c7 n) (aO K () (Y 0)) (aO K () (Y 3)) Ϫ)) (ae (mn g9 (oy (aO K () (Y 3)) (Y 1) (wB (c7 n)))) {ZR,wF (pZ (G5 (c7 n) (Y 1) (aO K () (Y 4))) ()) (qQ (aE aQ (dy K (gf (c7 n) (aO K () (Y 4)) (Y 1) Ϫ) ah) (Y 2) (aG _))),ai (az {ăl,Y 0,T.de.m,nj,n,T.de.b,ac (Y 4) (ac (a9 (ac (Y 1) O)) O)}),ai (az (a9 O))}))),?_}
  have ad:=e_ B;have hL:=p.ok.la l (e_ C);have F:=p.g.trial B;have I:=āK p.ok.lget C;rw[hh]at I;rw[ç,jh p.g.house T.aH T.aW () () (! rG {Ţ,.tr j} {č2,āK p.ok.tget B,p.g.tris} (aB ?_)),jh p.g.house T.aH T.be () () (jh F T.bG T.jZ () () (rG {Ţ,.lo i} {Ă,I,ĈR t.home p.g.lays} (aB ?_)))];have J:=p.ok.br t ad;rw[Ģ,jh F T.bG T.ke () () (!{ĄJ .ba j,_,ġ,(),(),p.g.barred B,by rw[b_,gg];lia,?_}),ME];have ax:=mK (t':=Čr) B;have(f,v):=(p.mono (sT c)).setTr (t':=Čr) (r0:= .ba j) (o':= .dK ({Ϻ,jO,t.bar,g} {ČU,(ġ:cJ)})) B () () () () () (by change ō jO t.bar g<=c+1;unfold jO;split;rw[ϑ,vr J,gV,r_ J]) (æ Ĉ4) {Ē4,mK B};generalize aJ H (ĄJ .ba j) (.dK ({Ϻ,jO,t.bar,g} {ČU,(ġ:cJ)}))=H1 at f v⊢;have L:=f.g.layer C;have N:=f.g.inside C;have R:=f.g.seats i l C;show ! jh L T.cT T.cU () () (rG (bM (Z.iv i) ġ) (ĂJ ġ N) ă);have u:vK l t g=[]->∀r,H1 r=none->{τ,r,aJ H1 r ŀ}:=λe r n=>by
   have S:=ĆR _ n;have em:Gp M i j l t g=ZJ j Čr:=by unfold Gp;rw[ý,e,oP,qN (M:=(ZJ j Čr)) C]
   show q r [] Z _ (em▸{ć6,Āb S}) (em▸ďq S) (v.dm _ n) af () (Þ e .nil) (em▸f.g.foot n)
  by_cases z:g∈ĕM
  ·have(x,hx,ex):=Ķ z;have(s,hv,ag):=R.find hL.nd x hx;rw[ex]at hv;rw[hv];show bE (jh L T.cT T.cU () () (! rG (â s) {Ă,hv,ĂJ ġ N} (rX ag č (! ďv))))
   by_cases hq:ąo=t.nm
   ·have D:vK l t g=[g]:=hY (x,hx,ex,hq,);rw[hq];show bD (mm f.g.house () () (! !{ls (),λDg al=>?_}));have S:={ZI,ψ g,_,al};show{ZJ j Čr,Z,c+1,i,l,Dg,[g],(),ďq S,C,af,λy W=>{Þ,Ň W,z},Ü,Ü,λr us Z6 H6 an ap n as X ro nf=>?_};have em:Gp M i j l t g={Ċn,(ZJ j Čr).setL,i,ćX [g]}:=by unfold Gp;rw[D]
    have aa:={ć6,Āb S};show q r us Z6 H6 (em▸aa.trans an) (em▸ap) (aa.dm _ n) as X (Þ D ro) (em▸nf)
   ·have D:vK l t g=[]:=hF λ⟨y,W,e1,e2⟩=>hq {Ă,He hL.nd y W x hx (e1.trans ex.symm),e2}
    show aV hq {ls (),u D}
  ·have D:vK l t g=[]:=hF λ⟨y,W,e1,e2⟩=>z {ăa,(y,W,e1,)};rw[ó,R.none z,ce {ls (),u D}]
omit e
noncomputable def Cl(M:bJ)(nm:Str)(sl:Int):bJ:=Ęf [ĉU]
noncomputable def Ck(M:bJ)(t:dS):bJ:=Ęg [t]
section
variable{M:bJ}{c:Nat}
def oY.addL(h:oY M c){nm:Str}{sl:Int}(f:Wd nm)(hn:nm∉ό)(g:0<=sl/\sl<=M.p)(h4:ąW 4):oY (Cl M nm sl) c:=by
 have em:{Ĉd,ėO [(ĉU:cH)]}=ό++[nm]:=by rw[hE];rfl
 show{h with ln:=?_,la:=Ğ9,tr:=λt d=>{h.tr t d with hm:=?_},l4:={āJ,ĘJ [_]<=4,gV,h4}}
 ·rw[Ćq,{Ĉd,ėO [(ĉU:cH)]}.Nodup,em,md,{h.ln,Ü,λx a y j e=>hn {ċr,Ň j,e,a}}]
 ·rw[ćx,i]
  ·show{h.la l q with}
  rw[āW,q,{f,g,AS.new_ok _,ku _,Ģv,XW,λk q m=>(nomatch m)}]
 ·rw[ā5,t.home∈{Ĉd,ėO [(ĉU:cH)]},em,nn _ (h.tr t d).hm]
def oY.addT(h:oY M c){t:dS}(ok:RA M t)(hn:t.nm∉Δ)(h4:ĎT)(d:t.bar=[]):oY (Ck M t) c:=by
 show{ģI,?_,λl f=>?_,{āJ,Ļ M.trs [_]<=10,gV,h4},Ė5}
 ·rw[Ćq,({ĉR,M.trs,[t]} dS.nm).Nodup,hE,md,{h.tn,Ü,λx a y g e=>hn {ċr,{Ĩ,y,t.nm,Ň g},e,a}}]
 ·have q:=h.la l f;show{q with own:=λk z i=>?_};have e||(x,a,e):=q.own k z i
  rw[Ř,e]
  rw[ϛ,{x,nn _ a,e}]
 ·rw[ćx,a]
  ·show{h.tr x q with}
  rw[āW,q,{ok with}]
 ·rw[ćx,a]
  ·show h.br x q
  ·rw[ý,Ň q,d,ku _]
omit e
inductive JZ(P:Zu)(w:World)(K:Zp)(a:ja)(vs:Ú)(H:Hp)(Q:VK)(E:XK):Prop|mk(M:bJ)(Z:ZS)(c:Nat)(nm:Str)(sl:Int)(_:vs=[Ϧ,á nm,ã sl])(_:cK P w K a H M Z c)(_:Wd nm)(_:nm∉ό)(_:(0<=sl/\sl<=M.p))(_:ąW 4)(_:{Ěr,iF H M Z H' (Cl M nm sl) Z',cK P w K a H' (Cl M nm sl) Z' c->H r=none->H' r=ąe->ąj->¬gH (Cl M nm sl) Z' r->Ă2})
inductive JY(P:Zu)(w:World)(K:Zp)(a:ja)(vs:Ú)(H:Hp)(Q:VK)(E:XK):Prop|mk(M:bJ)(Z:ZS)(c:Nat)(H0:Hp)(t ba dx ar sh:Addr)(ru:V)(x:dS)(_:vs=[Ϧ,á x.nm,ľ])(_:cK P w K a H0 M Z c)(_:ao H0 H)(_:H0 t=none)(_:H0 ba=none)(_:H ba=Ą7)(_:H t=Ār a.iz [ėa x.home,ϱ "arms" ar,ēW ru,ĞK sh,ğj,ćw Ćf,ĝV ba])(_:bj K H0 ar Ĥf)(_:eV K H0 x.rule ru)(_:bj K H0 sh ģK)(_:ć x.pau)(_:ć x.clo)(_:x.bar=[])(_:RA M x)(_:x.nm∉Δ)(_:ĎT)(_:{Ěr,iF H0 M Z H' (Ck M x) Z',cK P w K a H' (Ck M x) Z' c->H0 r=none->H' r=ąe->ąj->¬gH (Ck M x) Z' r->Ă2})
section
def u9(T:ä):aT P w K mg base dw 5 a.dZ.x a.dZ.d ĕN (JZ P w K a):=by
 show T.dZ.okc uz ĤN
 ·have(M,Z,c,nm,sl,(),s,hw,hn,hs,h4,q):=h;show{_,(ae (mn {Aa,uT,T.Nu,Ņ yJ,f,(),T.QW,T.fG.b,bI,ac (Y 2) (ac (aO K () (Y 0)) O)} (oy (aO K () (Y 0)) (Y 1) (wB (c7 f)))) (ai (az (a9 O)))),?_}
  have R:=s.g.house;show ! jh R T.aH T.cC () () (λlo ty l C aa=>?_);have f2:ao H (aJ (ĆP H lo) lo ĝF):={Ē7,ay (aI e l),ay (aI e C),e}
  have m:aJ (ĆP H lo) lo ĝF lo=āA a.gE ty []:=af;generalize aJ (ĆP H lo) lo ĝF=H2 at f2 m⊢;show{lo,ty,sl,M.p,(),m,λtb od td iu D t E F I J f3 hL L hu=>āO};have j:ao H D:={ĆQ,f3,b,o,f2 b o e,aI e l};rw[Ģ,jh (j _ _ R) T.aH T.be () () (!{ϧ,_,æ nm,(),(),j _ _ s.g.lays,by rw[oG,b_,gg];lia,?_}),uS _ (ny hn)];have u:∀b,H b=none->Đ0:=λb e z=>čb z s.g.lays e
  have v:=ăX E;have y:=ăX F;have A:=ăX t;have B:=ăX I;have(dT,iT):=L.ins;have(S,e1,N,V,Q,e4,W,lv):=s.g.newL (H':=aJ D ϧ (.dK (lV ό ĄS++[{ϱ,æ nm,lo}]))) (nm:=nm) (sl:=sl) l B A v y J {ĄA,ay n,j b o e} af {Þ,ay (u _ l),hL} {{dT,{Þ,ay (u _ A),iT}},{Þ,ay (u _ v),L.own},{Þ,ay (u _ y),L.tak},λx k=>(nomatch k),.nil} (λz=>by rw[z,t]at m;cases m) {Þ,ay (u _ B),hu}
  show{ls (),Ğb};have X:=ĆR _ f;have st:iF H M Z (aJ D ϧ (.dK (lV ό ĄS++[{ϱ,æ nm,lo}]))) (Cl M nm sl) S:=by
   show{e1,{ĄA,ay {ćO,n,{.ln,trivial,z}},j b o e},đL,λb z=>j.free (qt z),N};have(r,f,())||(i,hi,x,k,e)||(x,k,e):=z
   ·have f:Cp {ĘJ,[_]} M.trs.length r:=f;rw[gV]at f;have q||(q,p):=lv r f
    ·rw[Ĉ,q]
    ·rw[ţ,à (r,p,q,)]
   ·rw[(Q i).1]at k;have hi:i<ĘJ [_]:=hi;rw[gV]at hi
    by_cases z:ĈE i
    ·rw[hY z]at k;cases k
    ·rw[hF z]at k;rw[ţ,Ćk {i,by have:i<M.las.length+1:=hi;lia,x,k,e}]
   ·rw[e4]at k;rw[ţ,θ (x,k,e,)]
  show q r S _ (st.trans (Āb X)) (cK.same {W,s.ok.addL hw hn hs h4,ĒT,ĒT,Þ V s.ds} X) (st.dm _ f) af V (W.foot f)
  ·rw[(Q i).1]
   split
   ·show ku _
   ·show s.tk i
  ·rw[(Q i).2]
   split
   ·show ku _
   ·show s.ow i
def u8(T:ä):aT P w K mg base dw 4 a.dY.x a.dY.d đ8 (JY P w K a):=by
 show T.dY.okc uy ĤN
 ·have(M,Z,c,C,t,ba,dx,ar,sh,ru,x,(),j,k,l,m,Q,R,S,V,W,D,E,u,ok,hn,v,q):=h;show{_,(ae (mn (Y 2) (oy (aO K () (Y 0)) (Y 1) (wB (c7 f)))) (ai (az (a9 O)))),?_}
  rw[Ģ,! jh (k _ _ j.g.house) T.aH T.aW () () (!{Ćm,_,æ x.nm,(),(),k _ _ j.g.tris,by rw[oG,b_,gg];lia,?_}),uS _ (ny hn)];have F:∀b,C b=none->ú Ćm:=λb e z=>čb z j.g.tris e
  have(I,X,A,J,L,e4,e5,B,lv):=j.g.newT (H':=aJ H Ćm (.dK (lV Δ ċt++[(æ x.nm,ľ)]))) (nm:=x.nm) (home:=x.home) (arms:=x.arms) (shuts:=x.shuts) (rule:=x.rule) l m {ĄA,ay n,k b o e} af {Þ,ay (F _ l),R} {Þ,ay (F _ m),Q} S V W;have ex:({x.nm,x.home,x.arms,x.rule,x.shuts,false,false,[]}:dS)=x:=by have(a1,a2,a3,a4,a5,a6,a7,a8):=x;simp only at D E u;rw[D,E,u]
  rw[ex]at B;show{ls (),Ğb};have N:=ĆR _ f;have st:iF C M Z (aJ H Ćm (.dK (lV Δ ċt++[(æ x.nm,ľ)]))) (Ck M x) I:=by
   show{X,{ĄA,ay {ćO,n,{.tn,trivial,z}},k b o e},đL,λb z=>k.free (qt z),A};have(r,f,())||(i,hi,y,s,e)||(y,s,e):=z
   ·have f:{Ě4,Cp,Ļ M.trs [_],r}:=f;rw[gV]at f;have q||(q,p):=lv r f
    ·rw[Ĉ,q]
    ·rw[ţ,à (r,p,q,)]
   ·rw[L]at s;rw[ţ,Ćk (i,hi,y,s,e,)]
   ·rw[e5]at s;rw[ţ,θ (y,s,e,)]
  show q r I _ (st.trans (Āb N)) (cK.same {B,j.ok.addT ok hn v u,λi=>{Þ,L,j.tk i},λi=>{Þ,e4,j.ow i},Þ J j.ds} N) (st.dm _ f) af J (B.foot f)
omit e
section
def u0(T:ä):aT P w K mg base dw 1 a.dU.x a.dU.d ĕK (JW P w K a.cy):=by
 show T.dU.okc ur ĕn
 ·have(t,e,i,n,ow,tk,m,p,(),b,q):=h;show{_,(ai (az (Ft (c7 c) (aO K () (Y 0)) (Y 1) Ĉ4))),?_};have(dx,f):=b.ins;show !{t,_,dx,_,!{f,T.bP,T.fM,(),e,(),à {_,à b.own},!{_,ĂJ Ā9 b.own,q}}}
omit e
def RN(h:Wd x):ěK x:=by have(_,_,h):=h;unfold PyData.strOk;rw[<-Array.all_toList,Zb];intro c hc;have a:∀c∈j5.cps.toList,{ēZ,c<1114112}:=dk ();have:=kl (a c (h c hc));simp;lia
structure Br(P:Zu)(w:World)(K:Zp)(a:ja)(H0 H:Hp)(M:bJ)(Z:ZS)(c:Nat):Prop where
 z:cK P w K a H0 M Z c
 k:{ê,H0 b=Û,Đ0->H b=Û}
section
variable{d H f:Hp}{M:bJ}{Z:ZS}{c:Nat}
def Br.same(h:Br P w K a d H M Z c)(s:ao H f):Br P w K a d f M Z c:={h.z,λb o e n=>s _ _ (h.k b o e n)}
def Br.kp(h:Br P w K a d H M Z c):Kp d H:={λu i e=>h.k _ _ e ģQ,λu o⟨b,e⟩=>{b,h.k _ _ e ģQ}}
theorem Br.at_(h:Br P w K a d H M Z c)(e:cont P w a M Z r=Û)(n:r≠ .ln):H āp=Û:=h.k _ _ (h.z.g.at_ r o e) {ÿ,n,h.z.g.inj r .ln _ _ e () z}
def Tr{p:Nat}{m sl:Int}{x:Str}(b:2<=p):0<=yC p m sl x/\yC p m sl x<p:=by
 unfold yC;have h:û<ë p:=Ø
 split
 ·show{F_ _ Ø,Es _ h}
 ·show{F_ _ Ø,Es _ h}
def Br.owner(h:Br P w K a d H M Z c){i:Nat}{l:cH}(u:ī=Ĭ){q:Int}(A:0<=q)(B:q<M.p):((bM āq (à q)).getD .non= .non/\∀k,q∉l.S.pl k)\/∃b x y,(bM āq (à q)).getD .non=ZM/\bj K H b (ę7 ħ)/\q∈l.S.pl (eY x y)/\((x=""/\y="")\/∃(j:Nat)(t:dS),ĀD=ϒ/\t.nm=x/\(Wd y/\Wd t.nm/\y∈t.arms/\t.home=l.nm)):=by have s:=h.z.ok.la l (e_ u);have(_,(m,_,F),r,_):=h.z.g.tabs i l u;have e:=F.2 q A B;cases C:bM āq (à q)with|none=>rw[C]at e;show {ćV,λk z=>?_};have:=(s.ok.in_ k q z).2.2;rw[<-e]at this;rw[ćg]|some v=>
  show æ ?_;have(k,n,kv):=r q v A B C;have()||(t,D,hh,y,E,()):=s.own k q n
  ·have(b,(),o):=kv;show{b,_,!{h.kp.tq o,n,à Λ}}
  ·have(b,(),o):=kv;have(j,G):=ĀN D;have tk:=h.z.ok.tr t D;show{b,_,!{h.kp.tq o,n,æ {j,t,G,(),tk.aw y E,tk.wd,E,hh}}}
omit e
def Rw{cs:ĂP}(h:{ć,cs.any id}){b:Bool}(m:b∈cs):ć b:=by cases b with|false=>rfl|true=>rw[ĀO,ďo {true,m,()},h]
structure Cq(M:bJ)(l:cH)(g:Str)(ms:Ũ)(bs:Zv)(t:dS)(y:Str):Prop where
 mem:ăv
 arm:y∈t.arms
 home:t.home=l.nm
 at_:yC M.p M.salt l.sl g∈l.S.pl (eY t.nm y)pau:ć t.pau
 bar:g∉t.bar
 sat:Ą t.rule.sat ms
 shut:∀n∈t.shuts,n∉bs
def oY.tuniq{M:bJ}{c:Nat}(h:oY M c){t u:dS}(b:ăv)(d:ğQ u)(e:t.nm=u.nm):t=u:=by rw[ĄG,b];have(j,a):=ĀN d;have q:i=j:=(H_ (āo ĉX) h.tn).mp (by rw[g8,g8,hi,a];show m6 some e);rw[q,a]at hi;show ĆF hi
def Cq.one{M:bJ}{c:Nat}{l:cH}{g:Str}{d:Ũ}{bs:Zv}{t:dS}{x y b:Str}(e:oY M c)(f:l∈M.las)(h:yC M.p M.salt l.sl g∈l.S.pl (eY x y))(L:Cq M l g d bs t b):t.nm=x/\b=y:=Bm ((e.la l f).ok.dj _ _ _ L.at_ h)
theorem OO{g:Str}:∀{bs:Zv},Ću {Đx,ČU (ġ:cJ)} ġ->g∈bs
 |[],z=>nomatch z|b::r,h=>by
  rw[ρ,b,g]
  ·show e▸f_
  ·rw[kw,bX (λq=>e (rk q))]at h;show fy _ (OO h)
def Wg{z:Str}{b:Zv}(e:Ĉq į ĈV):z∈b:=by
 unfold mI at e;have(v,a,e):=ĆB e;have(u,c,()):=ĀX;have e:Ξ u z:=e
 rwa[ĀI e]at c
def UC{cs:ĂP}(h:Ą cs.any id):true∈cs:=by have(b,a,e):=ĆB h;show e▸a
theorem Jp{g:Str}:∀{bs:Zv},{ć,Ēi {Đx,ČU (ġ:cJ)} ġ}->g∉bs
 |[],_,z=>nomatch z|b::r,h,z=>by
  rw[kw]at h
  rw[ρ,b,g]
  ·rw[ĀO,cN (Ź e),h]
  ·rw[Ą3,bX (λq=>e (rk q)),ĘR (λq=>e q.symm) (Jp h)]
inductive SO(P:Zu)(w:World)(K:Zp)(a:ja)(vs:Ú)(H:Hp)(Q:VK)(E:XK):Prop|mk(H0:Hp)(M:bJ)(Z:ZS)(c i:Nat)(l:cH)(g:Str)(mv:V)(ms:Ũ)(bl:Addr)(bs:Zv)(_:vs=[Ϧ,{Ţ,.lo i},āt,mv,â bl])(_:Br P w K a H0 H M Z c)(_:ī=Ĭ)(_:Dr g)(_:rQ K H ms mv)(_:ĉ1 8)(_:H bl=Ăo bs.map)(_:{ϖ,ao H H',(∀t y,¬Cq M l g ms bs t y)->ćc Q})(_:∀(s:Addr)(t:dS)(y:Str)(H':Hp),ao H H'->bj K H' s (ę7 Ż)->Cq M l g ms bs t y->Ăj s)
section
def u6(T:ä):aT P w K mg base dw 8 a.dW.x a.dW.d ["self","layer","guest","marks","been"] (SO P w K a):=by
 show T.dW.okc jg ĤM
 ·have(H0,M,Z,c,i,l,g,mv,ms,bl,bs,(),E,I,hg,hm,b8,a3,X,qs):=h;show{_,(ae (bd 5 jg.nd {Aa,bv,aO K () (Y 1),T.bP,T.dU.m,Ņ u0,W,T.dU.b,bI,ac {ăl,Y 0,T.cQ.m,lQ,W,T.cQ.b,ac (Y 1) (ac (Y 2) O)} O}) {ZR,fe (aE MV (Y 5) tD (aG _)) (dI (aE (Qz K () (Xm W)) (Y 5) (bV (v:=ĉi) {_,T.NH,()} ()) (aG _))),ai (az tD),ae (bd 6 jg.nd (gf (c7 W) (aO K () (Y 0)) (dy K (Y 5) ah) Ϫ)) {ZR,fe (aY K () (aO K () (Y 6)) Ī) (fe (pZ (G5 (c7 W) (Y 2) (aO K () (Y 6))) ()) (dI (cI (aY K () {Ďu,(FE T 6).mono ß,W,ac (aO K () (Y 6)) (ac (Y 3) O)} Ī)))),ai (az tD),ae (aN (aY K () (aD (xm K () ()) ĕ T.Nm L2.Bi (ac (ub jQ ėt [] [7] (aj jC) (bW 7) (eE K () (aO K () (Y 6))) {ν,nO jQ ėt 7,bQ (qf K ()) (Y 7) (Y 4) ąV}) O)) Ī) (ai (az tD)) aF) (ai (az (Y 5)))}}),?_}
  have u:=E.z;have hL:=u.ok.la l (e_ I);have hp:=u.ok.p;have b9:=hL.sl;have hI:=ĎK .hh () Ü;have aa:={ĎK,.lo i,ĕG,Ü};have ad:={ĎK,.tb i,ĕG,Ü};have a5:={ĎK,.od i,ĕG,Ü};have a6:={ĎK,.td i,ĕG,Ü};have a7:=ĎK .tn () Ü;show jh aa T.cT T.gu () () (rM ad () (mm hI () () (! !{āG,ćd,_,_,_,_,M.p,M.salt,l.sl,g,(),hI,(),(),aa,(),hg,ϻ,ϻ,λH1 s=>?_})));have(a8,(m,bb,cc),cf,ci):=u.g.tabs i l I;have o:=E.same s;have ag:gh P w K a.cy H1 ĉo Ćh ĂZ M.p āq ĀT m:={{_,s _ _ ad},s _ _ a5,s _ _ a6,λx hx=>ip o.kp (a8 x hx),bb.outs λx hx lb xs e1 N=>o.k _ _ N λz=>by rw[z,u.g.lays]at N;cases N};have hq:=Tr (m:=M.salt) (sl:=l.sl) (x:=g) hp.1;show{ĉo,Ćh,ĂZ,M.p,āq,ĀT,m,yC M.p M.salt l.sl g,(),ag,aB ?_};have al:=e_ I;have(e,bc)||(b,x,y,e,hb,Q,an):=o.owner I hq.1 hq.2
  rw[Ĺ,e,!{ċ1,bE,bE (X _ s λt y L=>bc _ L.at_)}]
  rw[e];show ! ċ2 ce;have ap:ěK x/\ěK y:=by
   have((),())||(j,t,J,(),h1,h2,_,_):=an
   ·show{Ý,Ý}
   ·show{RN h2,RN h1}
  show !{.tuple (ę7 ħ),.tuple [á "",á ""],.tup hb (μ ħ ćU),.tup (T.IV.sq _) (μ Ĉo Ĉo),?_,Ý,ă}
  ·unfold SeqAt.shaped;simp[PyData.canLay0,PyData.canLayAll0,PyData.depth,PyData.depthAll,ap.1,ap.2]
  have((),())||(j,t,J,(),wy,wx,hy,hh):=an
  ·show yR (λ_=>X _ s λt y L=>by rw[Āj,(u.ok.tr t L.mem).wd.lo,(Cq.one u.ok al Q L).1];rw[ďk,ß]) (λef=>ť ef Ý)
  have bi:=e_ J;have one:∀R y',Cq M l g ms bs R y'->R=t:=λR y' L=>u.ok.tuniq L.mem bi (Cq.one u.ok al Q L).1;show yR (λef=>?held) (λef=>?_)
  case held=>simp[PyData.eqv,PyData.eqvAll]at ef;rw[Āj,wx.lo,ef.1];rw[ďk,ß]
  have as:=s _ _ a7;have F:=o.at_ (r:= .tr j) (by simp only[cont,J];rfl) Ü;have bt:=o.at_ (r:= .ba j) (by simp only[cont,J];rfl) Ü;obtain⟨-,bz,av⟩:=u.g.trs j t J;have ax:=u.ok.tr t (e_ J);rw[Ŧ,jh (s _ _ hI) T.aH T.aW () () (! rX hb č (rG {Ţ,.tr j} {č2,āK u.ok.tget J,as} (aB ?_))),jh F T.bG T.kd () () {t.pau,(),?_},yR (λe1=>bE (X _ s λR y' L=>by rw[ćh,L.pau,one _ _ L,e1];rw[ćg])) (λe1=>?_),! jh F T.bG T.ke () () (rG _ (ĂJ ġ bt) ă)];rw[ç,yR (λN=>bE (X _ s λR y' L=>by rw[Āj,L.bar,one _ _ L];show this (OO N))) (λN=>?_),jh F T.bG T.sK () () (!{t.rule,Z.ru j,ms,mv,(),bz.kp o.kp,ax.hg,ė hm.kp s,Ø,λH2 s2=>ă})];have A:=ĎN s2;show yR (λe3=>X _ A λR y' L=>by rw[Āj,L.sat,one _ _ L];rw[this]at e3;cases e3) (λe3=>?_);have a0:=E.same A;show jh (s2 _ _ F) T.bG T.qu () () {Ĉr,Z.sh j,{_,a0.kp.tq av}};have a2:=A _ _ a3;have h8:=ax.s8;show {ČV,dH,K,Z.sh j,ĐN,λk B H'=>ao H2 H'/\H' D=ò B/\∃cs:ĂP,B=ČZ cs.map/\{Đ,λ(b:Bool)(x:Str)=>(ć b->x∉bs)/\(î b->x∈bs),cs,t.shuts.take k},{am đ hD,af,[],(),.nil},λk B H' _ h=>{þ,ü,a0.kp.tq av}}
  ·intro k v B H3 hv(s3,S,cs,(),q);have hk:k<(ĐN).length:=ŷ hv;rw[g8]at hv;have(x,hx,()):=āy hv;have cn:cs.length<=k:={Þ,ř q,z5 _ _}
   show aB (ij (bE (! !{bl,!{{ċZ,s3 _ _ a2},(),qM bs,S,?_,lf hk {bw s3 hD,af,cs++[_],by rw[hE];rfl,{Þ,fk hx,wH q {ϋ,{λe m=>{ēa,F3 m,e},λe=>Wg e}}}}}})));rw[b_]at hk⊢;rw[gg];lia
  ·intro B H3(s3,S,cs,(),q);show{D,cs,(),å S,ă};rw[b_,g6 (eH _)]at q;show yR (λea=>X _ (ēU s3) λR y' L=>?no) (λea=>?_)
   case no=>have sh:=L.shut;rw[one _ _ L]at sh;have(k,hk):={ĀN,UC ea};have(x,hx,hb):=ĂS q k _ hk;show sh x (e_ hx) (hb.2 ())
   show ! qs b t y _ (ēU s3) (þ Ęe hb) {e_ J,hy,hh,Q,e1,Jp N,by simpa using e3,ĝl};rw[ĄG,hn];have(b',bB,b0):=Ak q i n hi;show b0.1 (Rw ea (e_ bB))
omit e
def WB(J:Ų)(h1:{āP,J b H,u D b H})(h2:∀(N:Ų)(R:VK)(B C:Ų),{āP,J b H,N b H}->t (N,R,B,C,) b H):wm t u D b H:=h2 (u D) D.rt D.bk D.ct h1
noncomputable def fq(l:cH)(g:Str):ŭ ąP:=ď5 l.ins.find? {Ăm,ï=g}
def Sj(K:Zp)(H:Hp)(b:V):{Ĵ,ŭ ąP}|none=>b= .non|some p=>∃s,b=â s/\bj K H s [á ę,á p.2]
def cB.seat(g:Str)(h:cB K H iv ins):Sj K H ((bM iv ġ).getD .non) ((ins.find? λx=>decide (x.1=g)).map (·.2)):=by induction h with|nil=>rfl|@cons _ y _ _ h _ a=>
  rw[ρ,Ć,g]
  ·have(h1,s,h2,h3):=h;rw[cN (Ē h1 e),ry ĂK,h2];show{s,(),h3}
  ·rw[ý,bX {ÿ,e,by rw[ü]at z;show rk z},pu ĂK,a]
def kA(K:Zp)(H:Hp)(d:Ú)(e:İ):Prop:={Đ,λ(u:V)(y:Str×Str×Str)=>∃b,u=ZM/\bj K H b [á Ć,ď0,ď7],d,e}
def kA.kp(e:Kp H H')(h:kA K H b d):kA K H' b d:={ăO,h,Ćc {q.1,ăV ņ}}
noncomputable def fY(cm:ću)(g:Str):čI:=((cm.find? λx=>decide (x.1=g)).map (·.2)).getD []
noncomputable def EG(M:bJ)(g:Str)(b:İ):ċ:={Ā4,Ϻ fY M.came g}++{Ϯ,(·.2.1)}
def OM{M:bJ}{g:Str}{b:İ}{x:ćD}:EG M g (b++[x])=EG M g b++[ąo]:=by unfold EG;rw[hE,me];rfl
def OS(M:bJ)(g:Str)(b:Ũ)(l:cH)(bs:Zv)(r:ąP):Prop:=fq l g=Ù r\/(fq l g=none/\∃t y,r=ėP y/\Cq M l g b bs t y)
inductive vZ(M:bJ)(g:Str)(ms:Ũ):Ė ČE İ|nil:vZ M g ms [] []|skip{ls:ČE}{ss:İ}{l:cH}(h:vZ M g ms ls ss)(hn:fq l g=none)(hx:∀t y,¬Cq M l g ms (EG M g ss) t y):vZ M g ms (ls++[l]) ss|row{ls:ČE}{ss:İ}{l:cH}{r:ąP}(h:vZ M g ms ls ss)(hr:OS M g ms l (EG M g ss) r):vZ M g ms (ls++[l]) (ss++[ĉN])
def gb.find{dl:Addr}{cv:Ğ}{cm:ću}(g:Str)(h:gb K H dl cv cm):(bM cv ġ=none/\fY cm g=[])\/∃l b,bM cv ġ=í l/\l≠dl/\H l=ăs/\mz K H b (fY cm g)/\(g,fY cm g)∈cm:=by induction h with|nil=>rw[ţ,Λ]|@cons _ y _ _ h _ c=>
  rw[ρ,Ć,g]
  ·have(h1,l,b,h2,n,h3,h4):=h;have a:∀q,fY (y::q) g=ZH:=λq=>by unfold fY;rw[ry ĂK];rfl
   rw[ó,a,æ {l,b,{Ē,cN (Ē h1 e),h2},n,h3,h4,Ă e f_}]
  ·have a:∀q,fY (y::q) g=fY q g:=λq=>by unfold fY;rw[pu ĂK]
   rw[ý,a,bX {ÿ,e,by rw[ü]at z;show rk z},c.imp id λq=>{Ćc,Ćc {q.1,Ąl,ĀB.1,ĀB.2.1,fy _ ĀB.2.2}}]
inductive Qb(P:Zu)(w:World)(K:Zp)(a:ja)(vs:Ú)(H:Hp)(Q:VK)(E:XK):Prop|mk(M:bJ)(Z:ZS)(c:Nat)(g:Str)(mv:V)(ms:Ũ)(_:vs=[Ϧ,āt,mv])(_:cK P w K a H M Z c)(_:c<=63)(_:Dr g)(_:rQ K H ms mv)(_:ĉ1 8)(_:∀(r:Addr)(us:Ú)(H':Hp),ao H H'->H r=none->H' r=ăe->∀ss,kA K H' us ss->vZ M g ms M.las ss->Ğs 4->Ă2)
def Rf{J:It}{n:Nat}{g:TG}{tb:TS}{D:jx}{b:St}{H:Hp}(Pv:Ĉc)(h0:Pv 0 b H)(hg:{Čj,i<n,Pv i b H->J.go i H})(f:∀i b H x H',i<n->Pv i b H->J.yld i H x H'->{Ĝd,Ų,{āP,Pv (i+1) b H,N b H}->g x b H' λd h=>tb (N,R,B,N,) d h})(hd:{āP,Pv n b H,ĉO n H/\D.nx b H}):=Od (J:=J) (n:=n) (g:=g) (tb:=tb) (D:=D) Pv h0 hg (λi b H x H' e p y=>f i b H x H' e p y _ D.rt _ Ăd) hd
inductive JV(P:Zu)(w:World)(K:Zp)(H:Hp)(M:bJ)(Z:ZS)(g:Str)(ms:Ũ)(mv:V)(D an:Addr)(ep:Nat)(k:Nat)(σ:St)(H':Hp):Prop|mk(us:Ú)(ss:İ)(v5 v6 v7:ĀV)(f:{ê,H b=Û,Đ0->H' b=Û})(hl:H' ϧ={Ù,dE P w ϧ (lV ό ĄS) ep})(hD:H' D=ò {Z_,EG M g ss})(hA:H' an=ăe)(hs:kA K H' us ss)(hR:vZ M g ms (M.las.take k) ss)(hk:Ğs k)(e:σ=[ĘG,ĄX g,Ù mv,í D,í an,v5,v6,v7]):JV P w K H M Z g ms mv D an ep k σ H'
inductive JS(K:Zp)(M:bJ)(g:Str)(ms:Ũ)(l:cH)(bs:Zv)(H5:Hp)(f:V->St)(σ:St)(H':Hp):Prop|no(s:ao H5 H')(e:σ=f .non)(hn:fq l g=none)(hx:∀t y,¬Cq M l g ms bs t y):JS K M g ms l bs H5 f σ H'|yes(b:Addr)(r:ąP)(s:ao H5 H')(e:σ=f ZM)(hq:bj K H' b [á r.1,á r.2])(hr:OS M g ms l bs r):JS K M g ms l bs H5 f σ H'
section
def qo(T:ä):aT P w K mg base dw 9 a.cS.x a.cS.d ĊY (Qb P w K a):=by
 show T.cS.ok bZ λdi A outer s H vs Q E hr h=>?_
 ·have(M,Z,c,g,mv,ms,(),X,hc,hg,hm,cG,q):=h;show{_,(ae (WC 3 ie [] [7] [7] (aj ia) (bW 7) (eF K () (Fs (c7 hr) (aO K () (Y 0)) (Y 1) (a9 O) Ĉ4)) {ν,nO ie [] 7,dy K (Y 7) ah} bZ.nd) (ae (bd 4 bZ.nd (a9 O)) (ae {ċc,MG,w,gn oa () {ċc,MK,w,aO K () (Y 0)} (jk K () () (b7 (yD 5 bZ.nd) (b7 (yD 6 bZ.nd) jj))) (ae (bd 7 bZ.nd (Ft (c7 hr) (aO K () (Y 6)) (Y 1) Ĉ4)) (ae (aN (aE MV (Y 7) tD (aG _)) (ai (bd 7 bZ.nd {ăl,Y 0,T.dW.m,u6,hr,T.dW.b,ac (Y 6) (ac (Y 1) (ac (Y 2) (ac (Y 3) O)))})) aF) (ai (aN (aE Qy (Y 7) tD (aG _)) (ae (aR {ăy,cg,K,(),dB,Y 3,ac (dy K (Y 7) ah) O}) (ai (aR {ăy,cg,K,(),dB,Y 4,ac (au (qh K ()) (bo (ac (Y 5) O)) (Y 7)) O}))) aF))))} (ai (az (Y 4)))))),?_}
  have hI:=X.g.house;have dt:=X.ok.l4;show jh hI T.aH T.fA () () {é,āF .ci,à {_,à X.g.cams},!{ls (),λl0 c0=>?_}};have s0:=ĆR H c0;have e0:aJ H l0 ŀ l0=ąe:=af;generalize aJ H l0 ŀ=H1 at s0 e0⊢;show{bM Z.cv ġ,{ĂJ,ġ,s0 _ _ X.g.cams},?_};obtain⟨ll,J,ev,a8,hw,dv⟩:∃ll J,(bM Z.cv ġ).getD (â l0)=â ll/\H1 ll=ò J/\mz K H1 J (fY M.came g)/\ō fY M.came g<=630:=by
   have(e,e')||(l,us,e,_,h2,h3,h4):=X.g.came.find g
   ·show{l0,[],by rw[e];rfl,e0,Þ e' .nil,{Þ,e',ku _}}
   ·have:=X.ok.cm _ h4;have:ō fY M.came g<=10*c:=this;show{l,us,by rw[e];rfl,s0 _ _ h2,ė h3.kp s0,Ø}
  rw[ev];have c1:J.length=ō fY M.came g:=ř hw;rw[Ąn,Ĉr ll {_,å a8},gU,K,ll,J,λk L H'=>ao H1 H'/\H' D=ò L/\L={ś,Ċa fY M.came g,k} λy=>ĵ Ć,{am đ hD,af,()},λk L H' _ h=>{å,ü _ _ a8}]
  ·intro k v L H3 hv(s3,ad,());have hk:k<J.length:=ŷ hv;have(y,hy,s,(),p):=ĂS hw k v hv;have dT:=z5 k (fY M.came g);show aB (ij (bE (! rX (þ s3 p) č {ad,by rw[b_,gg];lia,lf hk {bw s3 hD,af,by rw[fk hy,hE];rfl}})))
  intro L H2(s2,ag,ea);have eb:L={Z_,EG M g []}:=by rw[ea,c1,g6 (eH _)];unfold EG;rw[YY,l_,rr];rfl
  rw[eb]at ag;show aB {ls (),λan a0=>aB ?_};have s3:=ĆR H2 a0;have ba:aJ H2 an ŀ an=ąe:=af;have ad:=s3 _ _ ag;have bb:H D=none:=s0.free hD;have a2:H an=none:=s0.free (s2.free a0);have bc:D≠an:=λz=>by rw[z,a0]at ag;cases ag
  have al:ao H (aJ H2 an ŀ):={è,s0.trans s2,s3};generalize aJ H2 an ŀ=H3 at s3 ba ad al⊢;show jh (al _ _ hI) T.aH T.be () () {ϧ,!{al _ _ X.g.lays,λep=>?_}};have bi:ϧ≠D:=ďf X.g.lays z bb e
  have a3:ϧ≠an:=ďf X.g.lays z a2 e
  show Rf (n:=M.las.length) (JV P w K H M Z g ms mv D an ep) {[],[],_,_,_,{ĄA,ay n,al b o e},af,{Þ,ay (m_ bi),ad},{Þ,ay (m_ a3),ba},.nil,.nil,eH _,()} (λk σ H' hk h=>by have(_,_,_,_,_,_,h,_):=h;show{h,Ŝ oG b_ hk}) ?_ ?_
  ·intro k σ H4 x H5 hk(S,f,v5,v6,v7,f4,j,bt,a5,I,aa,a6,())(T1,kk,vv,c2,(),(),bz)N R B hN;have dV:S.length=f.length:=ř I;have d0:{Œ,EG M g f,630+k}:=by unfold EG;rw[gV,b_,b_];lia
   obtain⟨l,hl⟩:∃l,ęG k=Ĭ:={_,fx hk};rw[G9,g8,hl]at bz;have((),()):=J_ (i_ bz);have bB:M.las.take (k+1)=M.las.take k++[l]:=fk hl;show nz c2 ĤO;have e5:H5 T1=ĝ [ĒX,{Ţ,.lo k}]:=e5;have W:Br P w K a H H5 M Z c:={X,λb o e n=>s5 _ _ (f4 b o e n)};show{T1,!{é,Ł e5,_,! aB {_,! aB āO}}};have c3:=W.at_ (r:= .lo k) (by simp only[cont,hl];rfl) Ü;have b0:=W.at_ (r:= .iu k) (by simp only[cont,hl];rfl) Ü;show jh c3 T.cT T.cU () () {é,ĄJ .iu k,à {_,à b0},!{bM (Z.iv k) ġ,ĂJ ġ b0,aB ?_}};have b8:=s5 _ _ bt;have c4:=s5 _ _ a5;show !{ĥ,Sg (JS K M g ms l (EG M g f) H5 λsv=>[ĘG,ĄX g,Ù mv,í D,í an,ĄX l.nm,{í,ĄJ .lo k},Ù sv]) ?_ ?_}
   ·intro σ H6 hj;have s6:ao H5 H6:=by cases hj<;>assumption
    have ap:=s6 _ _ b8;have b9:=s6 _ _ c4;have ax:=s6 _ _ (s5 _ _ j);have f6:{ê,H b=Û,Đ0->H6 b=Û}:=λb o e n=>s6 _ _ (s5 _ _ (f4 b o e n));rcases hj with⟨-,rfl,hn,hx⟩|⟨s,⟨t,y⟩,-,rfl,p,c6⟩
    ·show !{ċ1,ce,hN _ _ {S,f,_,_,_,f6,ax,ap,b9,ė I.kp ęh,{Þ,bB,aa.skip hn hx},vr a6,()}}
    show !{ċ1,bE,!{à {(),_,å ap},! rX p č (rA ap (by rw[b_,gg];lia) ?_)}};have as:Kp H6 {Ċf,H6,{Z_,EG M g f},ψ t}:=ø ap;have f7:{ê,H6 b=Û,ú D->aJ H6 D {ø,{Z_,EG M g f}++ψ t} b=Û}:=dG;have cc:aJ H6 D {ø,{Z_,EG M g f}++ψ t} D=ò {Z_,EG M g f++[t]}:=by rewrite[af,hE];rfl
    generalize {Ċf,H6,{Z_,EG M g f},ψ t}=H7 at as f7 cc⊢;have cf:=f7 _ _ b9 (m_ bc);have cn:=f7 _ _ ax bi;show !{à {(),_,å cf},!{ls (),λT2 cx=>(!{T2,s,ċL,!{(),Ń,{þ,am đ cx,as.tq p},Ü,by rw[gg];simp,ĈA,λ_ T3 c8=>?_}})}};have s9:={ą8,ċL++ĆU,š ċL H7 cx,c8};have e9:aJ (Ō H7 T2 ċL) T3 {ň,ċL++ĆU} T3=ĝ [ĒX,Ăx,ćU]:=af;generalize {Ō,Ō H7 T2 ċL,T3,ċL++ĆU}=H9 at s9 e9⊢;have cy:=s9 _ _ cf;show rA cy (by rw[gg];lia) ?_;have kp:Kp H9 {ń,H9,an,S++ŝ T3}:=ø cy;show hN _ _ {S++ŝ T3,f++[(l.nm,t,y)],_,_,_,{ĄA,ay (aI e a2),s9 _ _ (f7 _ _ (f6 b o e n) (aI e bb))},{Þ,ay a3,s9 _ _ cn},{Ŝ,ay bc,OM,s9 _ _ cc},af,wH (I.kp {λu xs e=>kp.1 _ _ (s9 _ _ (as.1 _ _ (ęh _ _ e))),λu o e=>kp.2 _ _ ((Kp.of s9).2 _ _ (as.2 _ _ ((Kp.of ęh).2 _ _ e)))}) {ϋ,{T3,(),kp.tq (Ł e9)}},{Þ,bB,aa.row c6},{Þ,gV,r_ a6},()}
   ·intro N' a7;have av:Sj K H _ (fq l g):=(X.g.seats k l hl).seat g;cases eo:fq l g with|some r=>rw[eo]at av;have(s,es,p):=av;rw[ó,es,ce (a7 _ _ (.yes s r đ () (W.kp.tq p) (à eo)))]|none=>rw[eo]at av;rw[{Ĩ,(bM (Z.iv k) ġ).getD .non,.non,av}];have da:=W.at_ (r:= .hh) () Ü;show bE (mm da () () (! ! ! !{H,M,Z,c,k,l,g,mv,ms,D,EG M g f,(),W,hl,hg,hm.kp W.kp,cG,b8,λH' s' hx=>aB (a7 _ _ (.no s' () eo hx)),λs t y H' s' p dc=>aB (a7 _ _ (.yes s (ėP y) s' () p {æ,{eo,t,y,(),dc}}))}))
  ·intro σ H4(S,f,v5,v6,v7,f4,j,bt,a5,I,aa,a6,());rw[List.take_length]at aa;show{{j,{Ŝ,oG,b_,eH _}},ϧ,_,ep,j,?_};have sF:ao H (aJ H4 ϧ (.dK (lV ό ĄS))):=λb o e=>by
    by_cases z:b=ϧ
    ·rw[z,X.g.lays]at e;rw[ý,z,af,e]
    rw[ų,ay z,f4 b o e z]
   have kp:Kp H4 (aJ H4 ϧ (.dK (lV ό ĄS))):={λu xs e=>{Þ,ay (ĉH j),e},λu o⟨o',e⟩=>{o',{Þ,ay (ĉH j),e}}};show ! q an S _ sF a2 {Þ,ay (m_ a3),a5} f (I.kp kp) aa Ø
omit e
noncomputable def uR(cm:ću)(g:Str)(b:čI):ću:={Ě,cm.any {Ăm,ï=g},cm.map (λx=>ď ï g (ï,b) x),cm++[(g,b)]}
def MC:{Œ,uR cm g ss,cm.length+1}:=by
 unfold uR
 split
 ·rw[b_];lia
 rw[ų,gV,eH _]
def MB(h:x∈uR cm g b):x∈cm\/ŕ=b:=by
 unfold uR at h
 split at h
 ·have(y,a,e):=Ķ h
  split at e
  ·rw[π,e,āh]
  ·rw[π,e,ėe]
 ·rw[ćx,h]
  rw[Ř,q]
  rw[āW,q,āh]
theorem gb.any(g:Str)(h:gb K H dl cv cm):(cv.any {Ăm,ï=ġ})=cm.any {Ăm,ï=g}:=by induction h with|nil=>rfl|@cons _ y _ _ h _ a=>
  rw[vl,vl,a,ü]
  congr 1
  rw[ρ,Ć,g]
  ·rw[ji e,ji (Ź e)]
  ·rw[j_ e,j_ {ÿ,e,rk z}]
set_option tactic.hygienic true in
def gb.put(n:l≠dl)(d:H l=ăs)(f:mz K H b i)(h:gb K H dl cv cm):gb K H dl (gN cv ġ ž) (uR cm g i):=by
 unfold gN uR;rw[h.any g]
 split
 ·rename_i c;clear c
  induction h with|nil=>rw[Z5]|@cons x y _ _ q r j=>
   show ē ?_ j;have(h1,q):=q
   rw[ρ,Ć,g]
   ·have a:ï=ġ:=Ē h1 e
    dsimp only;rw[ý,hY a,hY e,{h1,l,b,(),n,d,f}]
   ·have a:¬ï=ġ:={ÿ,e,by rw[h1]at z;show rk z};dsimp only;rw[ý,hF a,hF e,Ċc q]
 ·show ĄE h {(),l,b,(),n,d,f}
def MD{cv:Ğ}{k:cJ}{v:V}{x:cJ×V}(h:x∈gN cv k v):x∈cv\/ŕ=v:=by
 unfold gN at h
 split at h
 ·have(y,a,e):=Ķ h
  split at e
  ·rw[π,e,āh]
  ·rw[π,e,ėe]
 ·rw[ćx,h]
  rw[Ř,q]
  rw[āW,q,āh]
def cB.some(h:cB K H iv ins)(hg:g∈ĝz):Ću iv ġ:=by induction h with|nil=>cases hg|@cons _ y _ _ h _ a=>
  rw[ρ,Ć,g]
  ·rw[cN (Ē ü e)];rfl
  ·rw[bX {ÿ,e,by rw[ü]at z;show rk z}];rw[kw]at hg;show a ((Ű hg).resolve_left λq=>e q.symm)
theorem EZ{b:Type}:∀{xs:ZO}{i:Nat}{x:b},Ĉb=ù->xs.set i x=xs|[],_,_,h=>ĄM h|y::r,0,x,h=>by rw[i_ h];rfl|y::r,i+1,x,h=>m6 (y::·) (EZ (xs:=r) h)
noncomputable def za(M:bJ)(g nm:Str):Bool:=M.las.any λl=>{Ċ,l.nm=nm}&&Āk fq l g
noncomputable def dn(M:bJ)(g:Str)(b:İ):čI:=b.filterMap λr=>{Ě,za M g r.1,none,Ù r.2}
def IU{M:bJ}(hn:ėr){i j:Nat}{l b:cH}(hi:ī=Ĭ)(d:ĝw=ăr)(e:l.nm=b.nm):i=j:=by show(H_ (l:=ό) (āo ĉX) hn).mp ?_;rw[g8,g8,hi,d];show m6 some e
def AZ{M:bJ}{g:Str}(hn:ėr){i:Nat}{l:cH}(b:ī=Ĭ):za M g l.nm=Āk fq l g:=by unfold za;cases e:fq l g with|some r=>show ďo {l,e_ b,by rw[ji (),e];rfl}|none=>show X6.mpr λd a z=>?_;have(j,c):=ĀN a;rw[k_]at z;have q:=IU hn c b (kl z.1);rw[q,b]at c;rw[<-i_ c,e]at z;cases z.2
def CK{M:bJ}{g:Str}{d:İ}{r:ćD}{b:Bool}(h:za M g r.1=b):dn M g (d++[r])=dn M g d++Ě b [] [r.2]:=by unfold dn;rw[y3,y0,h];cases b<;>rfl
def Dz{l:cH}{g:Str}:{î,Āk fq l g}↔g∈ĕM:=by
 unfold fq;rw[X3]
 constructor
 ·intro h;have(x,a):=w1.mp h;have b:=Zm a;show ăa {x,wh a,kl b}
 ·intro h;have(x,a,e):=Ķ h;show Ģi {x,a,ji e}
def Gi{cm:ću}{g b:Str}{i:čI}:fY (uR cm g i) b={ď,b,g,i,fY cm b}:=by
 unfold uR
 split
 ·next h=>induction cm with|nil=>cases h|cons y r f=>
   rw[ρ,Ć,g]
   ·rw[kw,hY e]
    by_cases a:b=g
    ·rw[hY a];unfold fY;rw[ry (by simp[e,a])];rfl
    ·rw[hF a];have ne:¬Ć=b:={ÿ,a,by rw[<-z,e]};have q:∀q:ću,fY (q.map λx=>ď ï g (ï,i) x) b=fY q b:=λq=>by induction q with|nil=>rfl|cons z q j=>
       unfold fY at j⊢;rw[kw]
       by_cases c:z.1=b
       ·rw[hF λw=>a (by rw[<-c,w]),ry ċ8,ry ċ8]
       ·rw[ý,pu (by split<;>simp[c]),pu ċ8,j]
     have k:=q r;unfold fY at k⊢;rw[ý,pu ĥe,pu ĥe,k]
   ·rw[vl,j_ e,Bool.false_or]at h;have f:=f h;rw[kw,hF e]
    by_cases d:Ć=b
    ·rw[hF {ÿ,e,Ē d z}];unfold fY;rw[ry ĕF,ry ĕF]
    ·unfold fY at f⊢;rw[ý,pu ĕF,pu ĕF,f]
 ·next h=>
  unfold fY;rw[YZ]
  rw[ρ,b,g]
  ·subst e;rw[hY (),XY.mpr λx l z=>h {ďo,(x,l,z,)}];rw[ry Ü];rfl
  ·rw[hF e,pu {ċM,m_ e},List.find?_nil,YC]
noncomputable def E4(b:İ)(nm:Str):ŭ ąP:={ď5,b.find?,λr=>{Ċ,r.1=nm}}
noncomputable def Cj(g:Str)(b:İ)(l:cH):İ:={Ě,Āk fq l g,[],(E4 b l.nm).toList.map λr=>(g,r)}
noncomputable def Ee(g:Str)(b:İ)(l:cH):cH:={l with ins:=l.ins++Cj g b l}
def uk{b:İ}{r:ćD}{nm:Str}:E4 (b++[r]) nm=(E4 b nm).or {ď,r.1,nm,Ù r.2,none}:=by unfold E4;rw[YZ];cases b.find? λr=>{Ċ,r.1=nm}with|some x=>rfl|none=>
  rw[ρ,r.1,nm]
  ·rw[hY e,ry ĂK];rfl
  ·rw[hF e,pu ĂK];rfl
def zz{b:İ}{nm:Str}(h:nm∉Ā4 b.map):E4 b nm=none:=by unfold E4;rw[XY.mpr λx a z=>h {ăa,{x,a,kl z}}];rfl
def AX{g:Str}{b:İ}{l:cH}(h:Cj g b l=[]):Ee g b l=l:=by unfold Ee;rw[h,l_]
def Rz{g:Str}{b:İ}{r:ćD}{l:cH}(h:r.1≠l.nm):Ee g (b++[r]) l=Ee g b l:=by unfold Ee Cj;rw[uk,hF h,YC]
def Ry{g:Str}{ss:İ}(l:cH):Cj g ss l=[]\/∃r,Cj g ss l=[(g,r)]/\g∉ĕM:=by unfold Cj;cases e:Āk fq l g with|true=>show Ġ|false=>cases E4 ss l.nm with|none=>show Ġ|some r=>rw[Ĉ,{r,(),λz=>{ēa,Dz.mpr z,e}}]
structure nJ(g:Str)(ss:İ)(M M':bJ):Prop where
 p:M'.p=M.p
 salt:M'.salt=M.salt
 trs:M'.trs=M.trs
 las:M'.las={Đd,Ee g ss}came:fY M'.came g=fY M.came g++dn M g ss
 cm:M'.came=(dn M g ss).foldl (λc r=>uR c g (fY c g++[r])) M.came
 oth:∀g',g'≠g->fY M'.came g'=fY M.came g'
def nJ.refl(g:Str)(M:bJ):nJ g [] M M:={(),(),(),by have:Ee g []=id:=funext λl=>AX (by unfold Cj;split<;>rfl);rw[this,List.map_id],Ē {ċB,dn M g [],[]} l_,(),Ϫ}
def nJ.names{g:Str}{d:İ}{M b:bJ}(h:nJ g d M b):Ĉd b.las.map=ό:=by rw[h.las,rr];rfl
def oY.vis{g:Str}{f:İ}{M b:bJ}{c:Nat}(h:oY M c)(v:nJ g f M b)(hg:Dr g)(h1:∀x∈b.came,{Œ,ŕ,10*c+4})(h2:b.came.length<=10*c+4):oY b (c+1):=by
 have i:=v.names;show{Þ v.p h.p,Þ i h.ln,Þ v.trs h.tn,λl j=>?_,λt a=>?_,λx d=>{ļ,h1 x d},Ŝ v.las b_ h.l4,Þ v.trs h.tc,Ø,λt a=>by rw[v.trs]at a;show vr (h.br t a)}
 ·rw[v.las]at j;have(l,hm,()):=Ķ j;have k:=h.la l hm;have own:∀k z,z∈l.S.pl k->k=eY "" ""\/∃t∈b.trs,{ĞM,t.home=l.nm,k=eY t.nm y}:=Þ v.trs k.own
  rcases Ry (g:=g) (ss:=f) l with e|⟨r,e,hn⟩
  rw[Ĺ,AX e,{k.wd,Þ v.p k.sl,Þ v.p k.ok,vr k.len,k.gs,k.nd,own}]
  ·unfold Ee;rw[e];show{k.wd,Þ v.p k.sl,Þ v.p k.ok,{āJ,Ļ _ [_]<=c+1,gV,r_ k.len},λx d=>?_,?_,own}
   ·rw[ćx,d]
    ·show k.gs x q
    rw[āW,q,hg]
   ·rw[Ćq,((_++[(g,r)]).map (·.1)).Nodup,hE,md,{k.nd,Ü,λx d z m e=>hn {ċr,{Ĩ,z,g,Ň m},e,d}}]
 ·rw[v.trs]at a;have k:=h.tr t a;show{k with hm:=Þ i k.hm}
def nJ.row{g:Str}{m:İ}{M d:bJ}(v:nJ g m M d)(hn:ėr){i:Nat}{l:cH}{r:ąP}{cm:ću}(h:ī=Ĭ)(t:E4 m l.nm=none){b:Bool}(o:Āk fq l g=b)(hc:fY cm g=fY d.came g++Ě b [] [r])(u:∀f,f≠g->fY cm f=fY d.came f)(y:cm={Ě,b,[],[r]}.foldl (λc r=>uR c g (fY c g++[r])) d.came):nJ g (m++[ĉN]) M {{Ċn,d.setL,i,l.ins++Ě b [] [(g,r)]}with came:=cm}:=by
 show{v.p,v.salt,v.trs,?_,?_,?_,λf n=>{è,u f n,v.oth f n}}
 ·rw[Ģ,z1 ĄP,g8];change(d.las.set i _)[j]?=_
  rw[ąm,i,j]
  ·subst q;rw[t0 {Ŝ,v.las,b_,ŷ h},h];show m6 some ?_;unfold Ee Cj;rw[uk,t,hY (),o];cases b<;>rfl
  ·rw[op q,v.las,g8];cases e:(ĝw)with|none=>rfl|some a=>show m6 some {ĂU,Rz,{ÿ,q,IU hn h e z}}
 ·change fY cm g=_;rw[hc,v.came,CK (r:=ĉN) {è,AZ hn h,o},me]
 ·change cm=_;rw[CK (r:=ĉN) {è,AZ hn h,o},v_,<-v.cm,y]
structure WO(M:bJ)(g:Str)(ms:Ũ)(ls:ČE)(ss:İ):Prop where
 nd:(ss.map (·.1)).Nodup
 nm:∀r∈ss,r.1∈ĝJ
 at_:∀(j:Nat)(r:ćD),ss[j]?=Ù r->∃l∈ls,r.1=l.nm/\OS M g ms l (EG M g (ďe j)) r.2
 seat:∀l∈ls,fq l g≠none->E4 ss l.nm=fq l g
 all:{ĜY,λl=>{Ϻ,E4,ss,l.nm} λr=>ĉN}=ss
def vZ.ok{M:bJ}{g:Str}{t:Ũ}{ls:ČE}{b:İ}(h:vZ M g t ls b):(ĝJ).Nodup->WO M g t ls b:=by
 induction h with|nil=>show λ_=>{.nil,λr d=>(nomatch d),λj r e=>(nomatch e),λl u=>(nomatch u),()}|@skip ls b l h hn _ o=>
  intro hd;rw[hE,md]at hd;have k:=o hd.1;have no:E4 b l.nm=none:=zz λz=>by have(r,d,e):=Ķ z;show hd.2.2 _ (k.nm r d) l.nm ĉl e
  show{k.nd,λr d=>{Þ,hE,nn _ (k.nm r d)},λj r e=>let⟨a,h1,h2⟩:=k.at_ j r e;{a,nn _ h1,h2},λa c i=>?_,?_}
  ·rw[ćx,c]
   ·show k.seat a q i
   ·rw[Ň q]at i;rw[Ā,hn,i]
  ·rw[y3,k.all,y0,no];show l_ _|@row ls b l r h d o=>
  intro hd;rw[hE,md]at hd;have k:=o hd.1;have ne:∀s∈ĝJ,s≠l.nm:=λs h' e=>hd.2.2 _ h' l.nm ĉl e;have no:E4 b l.nm=none:=zz λz=>by have(r,d,e):=Ķ z;show ne _ (k.nm r d) e
  have oth:∀a∈ls,E4 (b++[ĉN]) a.nm=E4 b a.nm:=λa c=>{ĀU,uk,hF λe=>ne _ {ăa,{a,c,()}} e.symm,YC}
  have own:E4 (b++[ĉN]) l.nm=Ù r:=by rw[uk,no,hY ()];rfl
  show{?_,λx p=>?_,λj x e=>?_,λa c i=>?_,?_}
  ·rw[hE,md];show{k.nd,Ü,λx p z v e=>?_};have(y,w,()):=Ķ p;show ne _ (k.nm y w) {āC,Ň v}
  ·rw[hE];rw[ćx,p]
   ·show nn _ (k.nm x q)
   rw[āW,q,lm _ ĉl]
  ·by_cases m:ĔR j
   ·rw[rl m]at e;rw[Zf (w4 m)];have(a,h1,h2):=k.at_ j x e;show{a,nn _ h1,h2}
   ·have m:Ān j:=Y9 m;rw[vu m]at e;have h0:Ęm j=0:=by cases q:Ęm j with|zero=>rfl|succ n=>rw[ĀJ,q,e]
    rw[h0]at e;rw[Ι,i_,e];have A:Ām j:=Ø
    rw[A,Zf (eH _),g6 (eH _)];show{l,lm _ ĉl,(),d}
  ·rw[ćx,c]
   rw[Ĺ,oth a q,k.seat a q i]
   ·rw[Ň q]at i⊢;rw[own];have e||(e,_):=d
    ·show e.symm
    ·rw[Ā,e,i]
  ·rw[y3,y0,own,{Ĩ,ĜY λa=>{Ϻ,E4,b++[ĉN],a.nm} λr=>(a.nm,r),b,?_}]
   ·rfl
   ·show Eq.trans ?_ k.all;have fm:∀f:cH->ŭ ćD,ĜY f={Ė1,ls.map f,id}:=λf=>by rw[XZ];rfl
    rw[fm,fm,z4 λa c=>{Ź,oth a c}]
inductive Pu(P:Zu)(w:World)(K:Zp)(a:ja)(vs:Ú)(H:Hp)(Q:VK)(E:XK):Prop|mk(M:bJ)(Z:ZS)(c:Nat)(g:Str)(mv:V)(ms:Ũ)(_:vs=[Ϧ,āt,mv])(_:cK P w K a H M Z c)(_:c<=63)(_:Dr g)(_:rQ K H ms mv)(_:ĉ1 8)(_:∀(r:Addr)(us:Ú)(ss:İ)(M':bJ)(Z':ZS)(H':Hp),vZ M g ms M.las ss->nJ g ss M M'->iF H M Z H' M' Z'->cK P w K a H' M' Z' (c+1)->H r=none->H' r=ăe->ąj->kA K H' us ss->¬gH M' Z' r->Ă2)
inductive JD(P:Zu)(w:World)(K:Zp)(a:ja)(H:Hp)(M:bJ)(Z:ZS)(c:Nat)(g:Str)(mv:V)(r:Addr)(us:Ú)(ss:İ)(k:Nat)(σ:St)(H':Hp):Prop|mk(M':bJ)(Z':ZS)(v4 v5 v6 v7:ĀV)(v:nJ g (ďe k) M M')(hG:bY P w K a H' M' Z')(etk:Z'.tk=Z.tk)(eow:Z'.ow=Z.ow)(eds:ąj)(hcm:∀x∈M'.came,{Œ,ŕ,10*c+k})(hcl:M'.came.length<=10*c+k)(st:iF H M Z H' M' Z')(nF:¬gH M' Z' r)(hr:H' r=ăe)(hs:kA K H' us ss)(e:σ=[ĘG,ĄX g,Ù mv,í r,v4,v5,v6,v7]):JD P w K a H M Z c g mv r us ss k σ H'
section
def u7(T:ä):aT P w K mg base dw 10 a.dX.x a.dX.d ĊY (Pu P w K a):=by
 show T.dX.okc dA ĐQ
 ·have(M,Z,c,g,mv,ms,(),J,hc,hg,hm,dT,q):=h;show{_,(ae (bd 3 dA.nd {ăl,Y 0,T.cS.m,qo,hr,T.cS.b,ac (Y 1) (ac (Y 2) O)}) (ae (gn oa () (eF K () (Y 3)) (jk K () () (b7 (yD 4 dA.nd) (b7 (yD 5 dA.nd) (b7 (yD 6 dA.nd) jj)))) (ae (bd 7 dA.nd (gf (c7 hr) (aO K () (Y 0)) (Y 4) Ϫ)) (ai (aN (pZ (wJ (c7 hr) (Y 1) (aO K () (Y 7))) ()) (ae (mn (bo (ac (Y 5) (ac (Y 6) O))) (oy (aO K () (Y 7)) (Y 1) (wB (c7 hr)))) (ai (mn (au eR (Fs (c7 hr) (aO K () (Y 0)) (Y 1) (a9 O) Ĉ4) (a9 (ac (bo (ac (Y 5) (ac (Y 6) O))) O))) (oy (aO K () (Y 0)) (Y 1) (wB (c7 hr)))))) aF)))) (ai (az (Y 3))))),?_}
  show mm J.g.house () () (! !{M,Z,c,g,mv,ms,(),J,hc,hg,hm,dT,λr us H1 s1 hr b0 ss Q hA b8=>aB ?_});have b9:=hA.ok J.ok.ln;have b8:us.length<=4:={Þ,ř Q,b8}
  have dV:¬gH M Z r:=J.g.foot hr;rw[ĭ,! é r {_,å b0} ?_,q9 (xs:=us) (JD P w K a H M Z c g mv r us ss) {M,Z,_,_,_,_,nJ.refl g M,J.g.same s1,(),(),(),J.ok.cm,J.ok.cl,Āb s1,dV,b0,Q,()} (λk σ H' _ h=>by have(_,_,_,_,_,_,_,_,_,_,_,_,_,_,_,h,_):=h;show å h) ?_ ?_]
  ·intro k v σ H2 hv(M2,f,v4,v5,v6,v7,v2,C,as,av,S,W,cc,X,L,aa,F,())N R B hN;have hk:k<us.length:=ŷ hv;have((nm,t,y),cf,b,(),hb):=ĂS F k v hv;have(l,d0,en,eq):=b9.at_ k _ cf;obtain rfl:nm=l.nm:=en;have(i,hl):=ĀN d0;have a6:{ďe,k+1}=ďe k++[(l.nm,t,y)]:=fk cf;have a7:E4 (ďe k) l.nm=none:=zz λz=>by have nd:=b9.nd;rw[<-sg (k+1) ss,a6,hE,hE]at nd;show(md.mp (md.mp nd).1).2.2 _ z l.nm ĉl ()
   show{b,!{é,hb,_,! aB {_,! aB {_,! aB āO}}}};have D:ì M2.las=Ĭ:=by rw[v2.las,g8,hl];show m6 some (AX (by unfold Cj;rw[a7];split<;>rfl))
   have cn:f.G .hh=āG:=X.hh;have cx:=C.house;have cy:=C.lays;have cG:bM (lV (Ĉd M2.las.map) {ćK,f.G (.lo i)}) Ğe={í,f.G (.lo i)}:=y8 (Þ v2.names J.ok.ln) (by rw[g8,D];rfl);rw[cn]at cx;show jh cx T.aH T.be () () (! rG {ć5,f.G,.lo i} {Ă,cG,ĈR l.nm cy} (aB ?_));have c0:=C.layer D;have c1:=C.inside D;show ! jh c0 T.cT T.cU () () (rG (bM ZL ġ) (ĂJ ġ c1) ă);have a8:=C.seats i _ D
   by_cases ax:g∈ĕM
   ·rw[a8.some ax];have d1:{î,Āk fq l g}:=Dz.mpr ax;show ce (hN _ _ {M2,f,_,_,_,_,?_,C,as,av,S,λx hx=>{ļ,W x hx},Ø,X,L,aa,F,()});have v3:=v2.row (r:=(t,y)) (cm:=M2.came) J.ok.ln hl a7 d1 {Ē,hY (),l_} Ϫ ();rw[hY (),l_]at v3;rw[a6];have e3:({(Ēg i l.ins)with came:=M2.came}:bJ)=M2:={ĆK,{M2 with las:=M2.las.set i l}=M2,EZ D}
    show e3▸v3
   ·have ad:=a8.none ax;rw[ad];rw[ç,bE (! !{ls (),λT1 d2=>?_}),nz d2 λH3 s3 e3=>?_];have ba:=C.same s3;have er:ě f.iv i<=100:=by rw[a8.len];rw[Š,(J.ok.la l (e_ hl)).len]
    rw[Ģ,jh (s3 _ _ c0) T.cT T.cU () () (!{f.G (.iu i),_,ġ,(),(),s3 _ _ c1,by rw[gg];lia,?_}),uS _ ad];have E:bY P w K a (aJ H3 (f.G (.iu i)) (.dK (ZL++ĆG))) {Ēg,i,l.ins++[(g,t,y)]} {Ċ6,i,ZL++ĆG}:=ba.setIns (iv':=ZL++ĆG) (ins':=l.ins++[(g,t,y)]) D {ĄE,ba.seats i _ D,{(),T1,(),Ł e3}};have c2:=ŷ D;have ag:iF H3 M2 f (aJ H3 (f.G (.iu i)) (.dK (ZL++ĆG))) {Ēg,i,l.ins++[(g,t,y)]} {Ċ6,i,ZL++ĆG}:=iF.put (show i<_ from c2) () ęp () () λx hx=>à hx;have bb:=ba.imm (r:= .iu i) (by simp only[cont,D];rfl) {ċE,.dK (ZL++ĆG)};have bc:=dG (x:=f.G (.iu i)) (o':= .dK (ZL++ĆG)) _ _ (s3 _ _ aa) {ćO,L,{.iu i,c2,z}};have bi:¬gH {Ēg,i,l.ins++[(g,t,y)]} {Ċ6,i,ZL++ĆG} r:=λz=>(ag.fp r z).elim L λz=>{ĔW,s3 _ _ aa,z}
    have d3:=bb.kp.tq (K:=K) (Ł e3);have a5:={č0,F.kp,s3} bb.kp;generalize a0:{Ēg,i,l.ins++[(g,t,y)]}=M4 at E ag bi;generalize al:({Ċ6,i,ZL++ĆG}:ZS)=u at E ag bi;have an:u.G=f.G:=ēM
    have el:u.cv=f.cv:=ēM
    have c3:u.tk=f.tk:=ēM
    have c4:u.ow=f.ow:=ēM
    have c6:u.ds=f.ds:=ēM
    have A:M4.came=M2.came:=ĚV a0
    generalize aJ H3 (f.G (.iu i)) (.dK (ZL++ĆG))=H4 at E ag bb bc d3 a5⊢;have bt:=E.house;rw[an,cn]at bt;have a2:=E.cams;rw[an]at a2;rw[Ŏ,jh bt T.aH T.fA () () {é,f.G .ci,à {_,à a2},!{ls (),λl0 d4=>?_}},nz d4 ĤO,{bM u.cv ġ,{ĂJ,ġ,s5 _ _ a2},_,(),!{ls (),λI d5=>{ls (),λl1 c8=>?_}}}];have s7:={ăL,ğ6,š ĆU H5 d5,c8};have e7:aJ (Ō H5 I ĆU) l1 ğ6 l1=ò ĆV:=af;have e6:aJ (Ō H5 I ĆU) l1 ğ6 I=ĝ ĆU:={Ąe,ay (aI af c8)}
    generalize {ń,Ō H5 I ĆU,l1,ĆV}=H7 at s7 e6 e7⊢;have a3:=ġJ s7;obtain⟨ll,p,s,da,ev,ea,dc,ew⟩:∃ll p s,s=fY M4.came g/\(bM u.cv ġ).getD (â l0)=â ll/\H7 ll=ò p/\mz K H7 p s/\s.length<=10*c+k:=by
     have(e,e')||(eb,ec,e,_,h2,h3,h4):=E.came.find g
     ·show{l0,[],[],e'.symm,by rw[e];rfl,s7 _ _ e5,.nil,Ü}
     ·have h5:=h4;rw[A]at h5;have:=W _ h5;show{eb,ec,!{by rw[e];rfl,a3 _ _ h2,ė h3.kp a3,Þ A this}}
    have eo:p.length=s.length:=ř dc;rw[ev];show{ll,l1,p,ĆV,(),(),ea,e7,by rw[gg];simp;lia,λlp bz=>?_};have s8:=ăL {ø,p++ĆV} a3 bz;have e8:aJ H7 lp {ø,p++ĆV} lp={ò,p++ĆV}:=af;have di:mz K {ń,H7,lp,p++ĆV} (p++ĆV) (s++[(t,y)]):=mz.kp (Kp.new bz) {ĄE,dc,{I,(),Ł e6}};have ap:H4 lp=none:=a3.free bz;generalize {ń,H7,lp,p++ĆV}=H8 at s8 e8 di⊢;have bB:=E.same s8;have ep:u.cv.length<=10*c+k:=by have:=ř E.came;rw[ý,this,A,cc]
    show jh (s8 _ _ bt) T.aH T.fA () () (!{f.G .ci,_,ġ,(),(),s8 _ _ a2,by rw[gg];lia,?_});have ed:lp≠u.G .dl:=λz=>by rw[z,E.dees]at ap;cases ap
    have ef:bY P w K a (aJ H8 (f.G .ci) (.dK (gN u.cv ġ ċJ))) {M4 with came:=uR M4.came g (s++[(t,y)])} {u with cv:=gN u.cv ġ ċJ}:={Þ,show f.G .ci=u.G .ci by rw[an],bB.setCame (bB.came.put (g:=g) ed e8 di)}
    have dt:=bB.imm (r:= .ci) () {ċE,.dK (gN u.cv ġ ċJ)};rw[an]at dt;have dv:iF H4 M4 u (aJ H8 (f.G .ci) (.dK (gN u.cv ġ ċJ))) {M4 with came:=uR M4.came g (s++[(t,y)])} {u with cv:=gN u.cv ġ ċJ}:=by
     show{(),{ĄA,ay {ćO,n,{.ci,trivial,Þ an z}},s8 b o e},đL,λb z=>s8.free (qt z),()};have z||z||(x,hx,e):=z
     rw[Ř,à z]
     rw[Ř,Ćk z]
     ·have q||q:=MD hx
      rw[Ř,θ (x,q,e,)]
      ·rw[ĄN,q,e,æ ap]
    have v9:nJ g {ďe,k+1} M {M4 with came:=uR M4.came g (s++[(t,y)])}:=by
     rw[a6,<-a0];show v2.row (r:=(t,y)) J.ok.ln hl a7 (b:=false) ?_ ?_ (λg' n=>?_) ?_
     ·cases e:Āk fq l g with|false=>rfl|true=>rw[Ā,Dz.mp e,ax]
     ·rw[Gi,hY (),da,<-a0];rfl
     ·rw[Gi,hF n]
     ·rw[da,<-a0];rfl
    have eg:={è,{ċV,Āb s3},ag.trans dv};have ej:aJ H8 (f.G .ci) (.dK (gN u.cv ġ ċJ)) r=ăe:={Þ,ay {ćO,L,{.ci,trivial,z}},s8 _ _ bc}
    show hN _ _ {_,{u with cv:=gN u.cv ġ ċJ},_,_,_,_,v9,ef,c3.trans as,c4.trans av,c6.trans S,λx hx=>?_,?_,eg,λz=>(dv.fp r z).elim bi (λz=>ĔW bc z),ej,{č0,a5.kp,s8} dt.kp,()}
    ·have q||q:=MB hx
     ·rw[A]at q;rw[Š,W x q]
     ·rw[q,gV];simp;lia
    ·rw[Āj,MC (cm:=M4.came) (g:=g) (ss:=s++[(t,y)]),A];rw[ż,{Œ,uR M4.came g (s++[(t,y)]),_},A];lia
  ·intro σ H2(M2,f,v4,v5,v6,v7,v2,C,as,av,S,W,cc,X,L,aa,F,());rw[ř Q,g6 (eH _)]at v2;show ! q r us ss M2 f H2 hA v2 X {C,J.ok.vis v2 hg (λx hx=>{ļ,W x hx}) Ø,λj=>by rw[as];rw[Š,J.tk j],λj=>by rw[av];rw[Š,J.ow j],by rw[S];rw[Š,J.ds]} hr aa S F L
omit e
inductive P6(K:Zp)(g:Addr)(vs:Ú)(H:Hp)(Q:VK)(_E:XK):Prop|mk(d:Addr)(k:Str)(xs:Ú)(_:vs=ŝ d)(_:bj K H d (á k::xs))(_:(∃tk,ćb g k={ą4,ë xs.length+1}))(_:Āt Q H)
inductive L8(K:Zp)(vs:Ú)(H:Hp)(Q:VK)(_E:XK):Prop|mk(t d:Addr)(l:Zv)(kvs:Ğ)(_:vs=[ľ,Āv])(_:bj K H t Ăe)(_:H d=Į kvs)(_:(∀x∈l,Wd x/\Ću kvs ũ))(_:l.Nodup)(_:η 8)(_:Āy)
inductive L7(P:Zu)(w:World)(K:Zp)(a:ja)(vs:Ú)(H:Hp)(Q:VK)(_E:XK):Prop|mk(z:Int)(M:bJ)(Z:ZS)(_:vs=[ı,ĉu,Ţ .ln])(_:bY P w K a H M Z)(_:ĜS 4)(_:0<=z)(_:z<=M.p)(_:z∉Ď3)(_:Āy)
inductive L5(K:Zp)(vs:Ú)(H:Hp)(Q:VK)(_E:XK):Prop|mk(d ly tr ar sh:Addr)(ru:V)(x y:Str)(r:Ru)(ws l ss:Zv)(lk tk:Ğ)(_:vs=[Āv,â ly,â tr])(_:bj K H d [Āl,ħ,ćU,â ar,ru,â sh])(_:Wd x)(_:Wd y)(_:H ly=Į lk)(_:H tr=Į tk)(_:bM tk ũ=none)(_:{Ću,lk,æ y})(_:bj K H ar Ăe)(_:ą9)(_:l.Nodup)(_:ĂT 1)(_:η 4)(_:eV K H r ru)(_:ąI)(_:r.cnt<=30)(_:j8 ws r)(_:(ĒB Wd w))(_:čX 3)(_:bj K H sh (Ş ss.map))(_:(∀x∈ss,Wd x/\Ću tk ũ))(_:ss.Nodup)(_:Ğs 8)(_:Āy)
section
def BV(T:ä)(f:ćt):aT P w K mg base dw 1 a.jL.x a.jL.d Ća (P6 K a.gY):=by
 show T.jL.okc BE λH i j h=>?_
 ·have(d,k,c,(),b,(tk,g),q):=h;show{_,{ZR,fe (cI (aY K () {Āc,dR K (),ac (Y 0) (ac (kj () T.cX L2.bF) O)} Ī)) (dI (aE aQ {Č,aK K (),ac (Y 0) O} ah (aG _))),ai dg,ai {ČC,fe (cI (aY K () {Āc,rg K (),ac (dy K (Y 0) ah) (ac (kj () T.lW L2.eO) O)} Ī)) (dI (aE Fv (Qt K () (KG f T.Hs) () T.Kx (dy K (Y 0) ah) Ĉ4) {Č,aK K (),ac (Y 0) O} (aG _))),ai dg}},?_}
  rw[Ŧ,!{ąK,_,_,{d,! œ b},eS (dk ()),ce ?_},!{_,!{Ąi b,(),! kz {ą0,h,by rw[ig];lia} ĺ}},! rX b č ?_,{_,"str",_,true,(),á k,eS (dk ()),true,(),ce ?_}];rw[ç,! rX b č {k,!{g,æ {_,{ã,ë c.length+1},(),œ tk,?_}}},!{_,!{Ąi b,(),ă}}];have e:{ēZ,{ñ,ë c.length+1}=ñ {Ď,Ġw k c}}:=ji Ü;rw[ó,e,q]
def Au(T:ä):aT P w K mg base dw 5 a.iY.x a.iY.d ěU (L8 K):=by
 show T.iY.okc kN λH Z N h=>?_
 ·have(t,d,l,y,(),b,hd,Q,A,h8,q):=h;show{_,{ZR,fe (cI (aY K () {Āc,dR K (),ac (Y 0) (ac (kj () T.cX L2.bF) O)} Ī)) (dI (aE qg {Č,aK K (),ac (Y 0) O} (bV T.vG ()) (aG _))),ai dg,ai (gn oa () (Qs K () () T.FO (ac (Y 0) O)) (jk K () () (b7 (yD 2 kN.nd) (b7 (yD 3 kN.nd) jj))) (ae (aR (pc T.cw (eK T) N (ac (Y 3) (ac (Y 1) O)))) (ai (aN (aE (qf K ()) (Y 3) (cp (nX K ()) (Y 0) c9 (cO (Y 2))) ąV) (ai dg) aF))))},?_}
  rw[ç,!{ąK,_,_,{t,! œ b},eS (dk ()),ce ?_},!{_,l.length,(),Čw b,_,!{ĥ,oN (ą0 h Ø) ĺ}}];rw[ĭ,!{t,!{b,?_}},Od (n:=l.length) (λk j H'=>ao H H'/\(Vb λB C=>j=[í t,í d,B,C])) {ϐ,_,_,()} (λk j H' G h=>{_,{á,l[k]},þ ü b,by rw[g8,fx G];rfl}) ?_ ?_]
  ·intro k j m v R G(c,B,C,())(r,x,D,(),(),s);have s:=s _ (þ c b);rw[g8]at s;have(z,I,()):=āy s;have E:=ą8 [Ąm,į] c D;have J:aJ m r {ň,[Ąm,į]} r=ĝ [Ąm,į]:=af;generalize Ō m r [Ąm,į]=R at E J⊢;show{r,!{é,Ł J,_,! aB {_,! aB āO}}};have f:=Q z (e_ I);show ! !{z,d,y,(),f.1,E _ _ hd,f.2,λH3 S=>?_};have g:=E.trans S;show ! ! ! !{t,!{þ g b,?_,λp W=>?_}}
   ·intro(_,e);rw[b_]at e;rw[Ąk,{Ā3,ë k,0,{āl,ë k,ë l.length},min ēF l.length}=l.length];rw[hF Ø]at e;lia
   ·rw[HM _ (o'6)];show{p,! é ĘC ?_ ă}
    ·rw[π,YO,qM _]
    ·rw[<-YO];have F:z∉l.take ēF:=λh=>by rw[čF,A,sg k l,md];show Č4.2 z ĊA z (e_ (i:=0) (Ŝ YS Nat.add_zero I)) ()
     have e:{ć,mI į (Ž l.take ēF)}:=by cases L:mI į (Ž l.take ēF)with|false=>rfl|true=>unfold mI at L;have(v,X,e):=ĆB L;have(u,M,()):=Ķ X;rw[Ąk,Ξ u z];rw[ĀI e]at M;rw[Ā,M,F]
     change āX {ĎP,false,mI į (Ž l.take ēF)}
     rw[ý,hF hH,e,ce {(g.trans (am đ W)),_,_,()}]
  ·intro j m(c,B,C,());show{{_,þ c b,Ź b_},q m c}
def As(T:ä):aT P w K mg base dw 3 a.iX.x a.iX.d Ės (L7 P w K a):=by
 show T.iX.okc zF λH Q J h=>?_
 ·have(z,M,Z,(),s,h4,h0,h1,hn,q):=h;show{_,{ZR,fe (cI (aY K () (pc T.fP (gr T) J (ac (Y 0) O)) Ī)) (dI (aE qg (Y 0) (Y 1) (aG _))),ai dg,ai (aN (aE (qf K ()) (Y 0) {ċc,Tx,w,ub mF ["layer"] [] [3] (aj mj) (bW 3) {ċc,Qp,w,Y 2} {ν,nO mF ["layer"] 3,aO K () (Y 3)}} ąV) (ai dg) aF)},?_}
  show !{z,(),.of h0 λH F=>(! ce ?_)};have s:=s.same F;have q:=λH' L=>q H' (F.trans L);show ! !{z,M.p,(),(),! oN (ą0 h Ø) ĺ};have g:=s.lays;rw[ç,! !{ϧ,!{g,λI=>?_}},λD t=>?_];have nd:ϧ≠D:=λz=>by rw[<-z,af]at t;cases t
  have r:H D=none:=by rw[ay (m_ nd)]at t;show t
  show Jn (n:=M.las.length) (λk c u=>{ê,H b=Û,Đ0->u b=Û}/\u ϧ={Ù,dE P w ϧ (lV ό ĄS) I}/\u D=ąD/\c={ο,ś (Ď3).take k}) {λb o e n=>{Ŝ,ay (aI e r),ay n,e},{Ē,ay nd,af},af,()} (λk c u v h=>{Ŗ,Ŝ oG b_ v}) ?_ ?_
  ·intro k c N x R v(y,f,j,())((),A);have E:=fx v;rw[G9,g8,E]at A;have A:{ϫ,ĄJ .lo k}=x:=i_ A;subst A;have m:=s.layer E;show aB (ij (bE (jh (y _ _ m (λz=>by rw[z,g]at m;cases m)) T.cT T.kU () () {j,by rw[b_,j2,gg];lia,lf v {{ĄA,ay (aI e r),y b o e n},{Þ,ay nd,f},af,?_}})));rw[fk (l:=Ď3) (x:=(M.las[k]).sl) (by rw[g8,E];rfl),hE];rfl
  ·intro c N(y,f,j,());rw[Ģ,{{f,{Ŝ,oG,b_,eH _}},ϧ,_,I,f,D,_,(),ċZ {Þ,ay (m_ nd),j},(),tQ _,_,(),?_},g6 {āo,eH _}];change āX {ĎP,false,mI ı {ο,(Ď3).map}}
   rw[hF hH,Ja,j_ hn];show ce (q _ čA)
   by_cases B:b=ϧ
   ·rw[B,g]at e;rw[ý,B,af,e]
   rw[ų,ay B,y b o e B]
def Ar(T:ä):aT P w K mg base dw 12 a.iW.x a.iW.d ["deed","layers","trials"] (L5 K):=by
 show T.iW.okc zE λH S f h=>?_
 ·have(d,E,tr,ar,sh,ru,x,y,r,F,l,G,lk,tk,(),g,I,J,k,i,j,m,n,h1,h2,h3,h4,o,p,s,t,u,v,z,A,B,C,q):=h;show{_,(ae (aR (pc T.jK (uY T) f (ac (dy K (Y 0) ah) (ac (Y 2) O)))) (ae (aR (pc T.cw (eK T) f (ac (dy K (Y 0) ah) (ac (Y 1) O)))) (ae (aR (pc T.jM (BX T) f (ac (dy K (Y 0) ah) O))) (ae (aR (pc T.jJ (BT T) f (ac (dy K (Y 0) ah) O))) (ai (aR (pc T.iY (Au T) f (ac (dy K (Y 0) ah) (ac (Y 2) O))))))))),?_}
  rw[ç,! rX g () (!{x,tr,tk,(),I,i,j,λV D=>?_}),! rX (þ D g) () (!{y,E,lk,(),J,D _ _ k,m,λW L=>?_})];have c:=D.trans L;show ! rX (þ c g) () {ar,l,(),þ c n,h1,h2,h3,h4,λX M=>?_};have e:=Ćn M;show ! rX (þ e g) () {r,ru,F,(),ė o.kp e,p,s,t,u,v,λZ N=>?_};have b:=āC N;show ! rX (þ b g) () (!{sh,tr,G,tk,(),þ b z,b _ _ i,A,B,C,λQ R=>q Q (b.trans R)})
omit e
inductive Dd|layer(nm:Str)(sl:Int)|trial(x:dS)|share(t:dS)(ns:ZA)|deal(t:dS)(z:Int)(ws:ZA)|hold(l:cH)(z:Int)|pause(t:dS)(b:Bool)|close(t:dS)|bar(g:Str)(t:dS)|visit(g:Str)(ms:Ũ)
noncomputable def Dd.clo:Ās Dd|.share t _=>t.clo|.deal t _ _=>t.clo|.pause t _=>t.clo|.close t=>t.clo|_=>false
inductive i9(K:Zp)(H:Hp)(M:bJ):Ė Dd Ú|layer{nm:Str}{sl:Int}(h1:Wd nm)(h2:nm∉ό)(h3:0<=sl/\sl<=M.p)(h4:sl∉Ď3)(h5:ąW 4):i9 K H M (.layer nm sl) [á "layer",á nm,ã sl]|trial{x:dS}{ar sh ra:Addr}{ws:Zv}(h1:RA M x)(h2:x.nm∉Δ)(h3:bj K H ar Ĥf)(h4:eV K H x.rule ďt)(h5:x.rule.cnt<=30)(h6:j8 ws x.rule)(h7:ĒB Wd w)(h8:čX 3)(h9:bj K H sh ģK)(ha:∀s∈x.shuts,s∈Δ)(hb:x.shuts.Nodup)(hc:ć x.pau)(hd:ć x.clo)(he:x.bar=[])(hf:ĎT):i9 K H M (.trial x) [Āl,á x.nm,á x.home,â ar,ďt,â sh]|share{t:dS}{ns:ZA}{nv:Addr}(h1:ăv)(h2:bj K H nv Ŷ)(h3:ĥU)(h4:∀x∈ns,0<=x):i9 K H M (.share t ns) [á "share",Ż,â nv]|deal{t:dS}{z:Int}{ws:ZA}{wv:Addr}(h1:ăv)(hz:0<=z/\Ŭ z)(h2:bj K H wv ĜG)(h3:ĕ6 ws.length)(h4:∀x∈ws,1<=x/\x<=bg):i9 K H M (.deal t z ws) [á "deal",Ż,ı,â wv]|hold{l:cH}{z:Int}(h1:l∈M.las)(h2:0<=z):i9 K H M (ĆX l z) [á "hold",ĒX,ı]|pause{t:dS}(h1:ăv):i9 K H M (Ċ3 t true) [á "pause",Ż]|go{t:dS}(h1:ăv):i9 K H M (Ċ3 t false) [á "go",Ż]|close{t:dS}(h1:ăv):i9 K H M ĘY [á "close",Ż]|bar{g:Str}{t:dS}(h1:Dr g)(h2:ăv):i9 K H M (.bar g t) [á "bar",āt,Ż]|visit{g:Str}{mv:V}{ms:Ũ}(h1:Dr g)(h2:rQ K H ms mv)(h3:∀m∈ms,Wd m.1/\-bg<=m.2/\m.2<=bg)(h4:(ms.map Prod.fst).Nodup)(h5:ĉ1 8):i9 K H M (.visit g ms) [ċa,āt,mv]
theorem i9.kp(e:Kp H H')(h:i9 K H M d b):i9 K H' M d b:=by cases h with|layer h1 h2 h3 h4 a=>show .layer h1 h2 h3 h4 a|trial h1 h2 h3 h4 a c f g i j k hc hd l m=>show .trial h1 h2 (ăV h3) (h4.kp e) a c f g (ăV i) j k hc hd l m|share h1 h2 h3 h4=>show .share h1 ąc h3 h4|deal h1 n h2 h3 h4=>show .deal h1 n ąc h3 h4|hold h1 h2=>show ĆX h1 h2|pause h1=>show ĞQ h1|go h1=>show .go h1|close h1=>show ėX h1|bar h1 h2=>show .bar h1 h2|visit h1 h2 h3 h4 a=>show .visit h1 (h2.kp e) h3 h4 a
inductive EB(K:Zp)(H:Hp)(many:Nat):ĀR Ú|share{p:Addr}{l:ZA}(h1:bj K H p ĂN)(h2:ęr 0 i)(h3:Ď4 many):EB K H many "share" ſ|deal{z:Int}{p:Addr}{l:ZA}(hz:0<=z/\Ŭ z)(h1:bj K H p ĂN)(h2:{ćA,1<=i,i<=bg})(h3:Ď4 many):EB K H many "deal" [ı,ł]|other{k:Str}(h1:k≠"share")(h2:k≠"deal"):EB K H many k []
inductive SS(P:Zu)(w:World)(K:Zp)(a:ja)(vs:Ú)(H:Hp)(Q:VK)(E:XK):Prop|mk(d:Addr)(M:bJ)(Z:ZS)(c:Nat)(k:Str)(t:dS)(xs:Ú)(_:vs=[Āv,ēI])(_:bj K H d (á k::Ż::xs))(_:bY P w K a H M Z)(_:oY M c)(_:ăv)(_:EB K H t.arms.length k xs)(_:(ć t.clo->Āy))(_:(î t.clo->{Ćx,ao H H',Ğd}))
section
def BU(T:ä):aT P w K mg base (lA P w) 5 a.gz.x a.gz.d ["deed","trials"] (SS P w K a):=by
 show T.gz.okEc l9 λH F n h=>?_
 ·have(d,M,Z,c,k,t,I,(),o,v,y,z,C,q,r):=h;show{_,(ae (aR (pc T.cw (eK T) n (ac (dy K (Y 0) ah) (ac (Y 1) O)))) (ae (bd 2 l9.nd (gf (c7 n) (Y 1) (dy K (Y 0) ah) Ϫ)) (ae (bd 3 l9.nd {Č,aK K (),ac (aO K () (Y 2)) O}) (ae (aN (aE aQ (dy K (Y 0) ah) ak (aG _)) (ai (aR (pc T.gW (yF T) n (ac (dy K (Y 0) ah) (ac (Y 3) O))))) (ai (aN (aE aQ (dy K (Y 0) ah) ak (aG _)) (ai (aR (pc T.fV (wL T) n (ac (dy K (Y 0) ah) (ac (dy K (Y 0) ah) (ac (Y 3) O)))))) aF))) (ai (aN (aY K () (aO K () (Y 2)) Ī) (ai (qb T.K0 () T.NI () pY (ac ak O))) aF)))))),?_}
  have(j,s):=ĀN z;have l:=y.tr t z;have A:=āK y.tget s;have D:=l.a4;show ! rX o ϕ (!{t.nm,Ćm,_,(),l.wd,v.tris,by rw[A];rfl,λB e=>?_});have g:=v.same e;have p:=g.trial s;obtain⟨u,-,-⟩:=g.trs j t s;rw[Ŏ,! ! rX (þ e o) ϕ (rG {Ţ,.tr j} (č2 A g.tris) (aB ?_)),jh p T.bG T.fS () () {_,t.arms.length,(),Čw u,aB ?_},! rX (þ e o) č ďv];have f:=þ e o;cases C with
 |share h1 h2 h3=>
   rw[Ŏ,bD ?_,! rX f ϥ (!{_,_,by rw[h3];rfl,Ċd e,h2,Ø,λm i=>?_}),jh (i _ _ p) T.bG T.fL () () {t.clo,(),?_}];cases b:t.clo
   ·show ce (q b m (āC i))
   ·show bE {ls (),r b m (āC i)}|deal E h1 h2 h3=>
   rw[Ŧ,wn ?_,! rX f č Ť,! rX f ϥ (! rX f ād (!{_,_,_,by rw[h3];rfl,E,Ċd e,h2,Ø,λm i=>?_})),jh (i _ _ p) T.bG T.fL () () {t.clo,(),?_}];cases b:t.clo
   ·show ce (q b m (āC i))
   ·show bE {ls (),r b m (āC i)}|other h1 h2=>
   rw[Ŏ,aV h1 ?_,! rX f č {ĥ,aV h2 ?_},jh p T.bG T.fL () () {t.clo,(),?_}];cases b:t.clo
   ·show ce (q b B e)
   ·show bE {ls (),r b B e}
omit e
inductive P7(P:Zu)(w:World)(K:Zp)(a:ja)(vs:Ú)(H:Hp)(Q:VK)(E:XK):Prop|mk(dv:Addr)(M:bJ)(Z:ZS)(c:Nat)(d:Dd)(xs:Ú)(_:vs=[Č7,ĉu,Ţ .ln,ēI])(_:bj K H dv xs)(_:bY P w K a H M Z)(_:oY M c)(_:i9 K H M d xs)(_:(Ēd->Āy))(_:(Ēf->{Ćx,ao H H',Ğd}))
section
def BW(T:ä)(S:ćt):aT P w K mg base (lA P w) 13 a.gB.x a.gB.d ["deed","prime","layers","trials"] (P7 P w K a):=by
 show T.gB.okEc rY ĤP
 ·have(n,M,Z,c,d,xs,(),e,r,s,W,q,C):=h;show{_,(ae (aR (pc T.jL (BV T S) p (ac (Y 0) O))) (ae (bd 4 rY.nd (dy K (Y 0) ah)) (ai (aN (aE aQ (Y 4) ak (aG _)) (ae (aR (pc T.jK (uY T) p (ac (dy K (Y 0) ah) (ac (Y 2) O)))) (ai (aR (pc T.iX (As T) p (ac (dy K (Y 0) ah) (ac (Y 1) (ac (Y 2) O))))))) (ai (aN (aE aQ (Y 4) ak (aG _)) (ai (aR (pc T.iW (Ar T) p (ac (Y 0) (ac (Y 2) (ac (Y 3) O)))))) (ai (aN (aE aQ (Y 4) ak (aG _)) (ae (aR (pc T.cw (eK T) p (ac (dy K (Y 0) ah) (ac (Y 2) O)))) (ai (aR (pc T.i3 (Ax T) p (ac (dy K (Y 0) ah) O))))) (ai (aN (aE aQ (Y 4) ak (aG _)) (ae (aR (pc T.gA (qk T) p (ac (dy K (Y 0) ah) O))) (ai (aR (pc T.cw (eK T) p (ac (dy K (Y 0) ah) (ac (Y 3) O)))))) (ai (aN (aE aQ (Y 4) ak (aG _)) (ae (aR (pc T.gA (qk T) p (ac (dy K (Y 0) ah) O))) (ai (aR (pc T.iZ (Av T) p (ac (dy K (Y 0) ah) O))))) (ai (aR {ZD,Ņ BU,p,T.gz.m,T.gz.f.kp,T.gz.b,ac (Y 0) (ac (Y 3) O)})))))))))))))),?_}
  have u:∀t∈M.trs,{Ću,lV Δ (ćK đo),æ t.nm}:=λt X=>by have(j,J):=ĀN X;rw[āK s.tget J];rfl
  have v:∀l∈M.las,{Ću,lV ό (ćK ćd),Ğe}:=λl hl=>by have(j,J):=ĀN hl;rw[āK s.lget J];rfl
  cases W with|@layer nm sl h1 h2 h3 h4 F=>rw[Ŧ,!{n,_,_,(),e,T.w5,?_},! rX e č (aB ?_),! Ť,! rX e ϕ (!{_,ϧ,_,(),h1,r.lays,ny h2,ė1})];show ! rX (þ o e) ϥ (! !{sl,M,Z,(),r.same o,Ø,h3.1,h3.2,h4,λA B=>q () A ĘQ})|@trial x ar sh ra N h1 h2 h3 h4 F h6 h7 h8 h9 ha hb hc hd he hf=>rw[Ŧ,!{n,_,_,(),e,T.wX,?_},! rX e č (aB ?_),! ϲ,! Ť];have(Q,D,E):=ğc;show ! ! !{n,ϧ,Ćm,ar,sh,ďt,x.nm,x.home,x.rule,N,x.arms,x.shuts,_,_,(),e,h1.wd,Ă E (s.la Q D).wd,r.lays,r.tris,ny h2,{Ă,E,v Q D},h3,h1.aw,h1.nd,h1.a1,h1.a4,h4,h1.hg,F,h6,h7,h8,h9,λy hy=>?_,hb,h1.s8,q ()};have(z,I,R):={Ķ,ha y hy};show{Ă R (s.tr z I).wd,{Ă,R,u z I}}|@hold l z h1 h2=>rw[ç,!{n,_,_,(),e,T.yP,?_},! rX e č (aB ?_)];(rw[ċi,! ϲ]);rw[ϯ,! Ť,! rX e ϕ (!{_,ϧ,_,(),(s.la l h1).wd,r.lays,v l h1,ė1}),! rX (þ o e) ϥ {é,z,h2,λA B=>q () A ĘQ}]|@bar g t h1 h2=>rw[ç,!{n,_,_,(),e,T.AJ,?_},! rX e č (aB ?_)];(rw[Ē8,! ϲ]);rw[ϯ,! Ť,! rX e ϕ (é g h1 ė1),! rX (þ o e) ϥ (!{t.nm,Ćm,_,(),(s.tr t h2).wd,o _ _ r.tris,u t h2,λA B=>q () A ĘQ})]|@visit g mv ms h1 h2 h3 h4 F=>rw[ç,!{n,_,_,(),e,T.wW,?_},! rX e č (aB ?_)];(rw[ėT,! ϲ]);rw[ϯ,! Ť,! rX e ϕ (é g h1 ė1),! rX (þ o e) ϥ {mv,ms,(),ĒP o,h3,h4,F,λA B=>q () A ĘQ}]|@share t ns nv h1 h2 h3 h4=>rw[ç,!{n,_,_,(),e,T.wY,?_},! rX e č (aB ?_)];(rw[ĉ6,! ϲ]);show ! !{n,M,Z,c,_,t,_,(),e,r,s,h1,.share h2 h4 h3,q,C}|@deal t z N wv h1 I h2 h3 h4=>rw[ç,!{n,_,_,(),e,T.yQ,?_},! rX e č (aB ?_)];(rw[ĉ6,! ϲ]);show ! !{n,M,Z,c,_,t,_,(),e,r,s,h1,.deal I h2 h4 h3,q,C}|@pause t h1=>rw[ç,!{n,_,_,(),e,T.wZ,?_},! rX e č (aB ?_)];(rw[ĉ6,! ϲ]);show ! !{n,M,Z,c,_,t,_,(),e,r,s,h1,.other Ý Ý,q,C}|@go t h1=>rw[ç,!{n,_,_,(),e,T.B8,?_},! rX e č (aB ?_)];(rw[ĉ6,! ϲ]);show ! !{n,M,Z,c,_,t,_,(),e,r,s,h1,.other Ý Ý,q,C}|@close t h1=>rw[ç,!{n,_,_,(),e,T.w6,?_},! rX e č (aB ?_)];(rw[ĉ6,! ϲ]);show ! !{n,M,Z,c,_,t,_,(),e,r,s,h1,.other Ý Ý,q,C}
omit e
def Ow(b:ZA)(n:Nat):∀i∈deal b n,0<=i:=λi hi=>by have(k,a):=ĀN hi;have:=(El b n k).1;unfold gd at this;rw[l6,a]at this;rw[ċO]
inductive hU(M:bJ):Ė Dd bJ|layer{nm:Str}{sl:Int}:hU M (.layer nm sl) (Cl M nm sl)|trial{x:dS}:hU M (.trial x) (Ck M x)|share{t:dS}{ns:ZA}{i:Nat}{l:cH}(hl:ī=Ĭ)(hh:āD)(hn:jz l.S āI<=Ćp):hU M (.share t ns) (nZ M i l t ns)|deal{t:dS}{z:Int}{ws:ZA}{i:Nat}{l:cH}(hl:ī=Ĭ)(hh:āD)(hn:jz l.S ği<=Ćp):hU M (.deal t z ws) (nZ M i l t ĥ6)|hold{l:cH}{z:Int}{i:Nat}(hl:ī=Ĭ)(hn:jz l.S [(oQ,z)]<=Ćp):hU M (ĆX l z) (Jc M i l z)|pause{t:dS}{b:Bool}{j:Nat}(hj:ĀD=ϒ):hU M (Ċ3 t b) (ZJ j ĐR)|close{t:dS}{i j:Nat}{l:cH}(hj:ĀD=ϒ)(hl:ī=Ĭ)(hh:āD):hU M ĘY (nZ (ZJ j ăA) i l ăA (oZ t))|bar{g:Str}{t:dS}{i j:Nat}{l:cH}(hj:ĀD=ϒ)(hl:ī=Ĭ)(hh:āD):hU M (.bar g t) (Gp M i j l t g)|visit{g:Str}{ms:Ũ}{ss:İ}{M':bJ}(ha:vZ M g ms M.las ss)(h:nJ g ss M M'):hU M (.visit g ms) M'
inductive UJ(M:bJ):Ĵ Dd|share{t:dS}{ns:ZA}{i:Nat}{l:cH}(hl:ī=Ĭ)(hh:āD)(hn:Ćp<jz l.S āI):UJ M (.share t ns)|deal{t:dS}{z:Int}{ws:ZA}{i:Nat}{l:cH}(hl:ī=Ĭ)(hh:āD)(hn:Ćp<jz l.S ği):UJ M (.deal t z ws)|hold{l:cH}{z:Int}{i:Nat}(hl:ī=Ĭ)(hn:Ćp<jz l.S [(oQ,z)]):UJ M (ĆX l z)
noncomputable def r3(y:ćD):ċ:=[Ć,ĂA,ĆJ]
inductive vY(M:bJ):Ė Dd ϰ|layer{nm:Str}{sl:Int}:vY M (.layer nm sl) []|trial{x:dS}:vY M (.trial x) []|share{t:dS}{ns:ZA}{i:Nat}{l:cH}(hl:ī=Ĭ)(hh:āD):vY M (.share t ns) {Ĉ3,Eh M l (db l.S āI)}|deal{t:dS}{z:Int}{ws:ZA}{i:Nat}{l:cH}(hl:ī=Ĭ)(hh:āD):vY M (.deal t z ws) {Ĉ3,Eh M l (db l.S ği)}|hold{l:cH}{z:Int}:vY M (ĆX l z) []|pause{t:dS}{b:Bool}:vY M (Ċ3 t b) []|close{t:dS}{i:Nat}{l:cH}(hl:ī=Ĭ)(hh:āD):vY M ĘY {Ĉ3,Eh M l (db l.S {ĊT,oZ t})}|bar{g:Str}{t:dS}{i:Nat}{l:cH}(hl:ī=Ĭ)(hh:āD):vY M (.bar g t) {Ĉ3,vK l t g}|visit{g:Str}{ms:Ũ}{ss:İ}(ha:vZ M g ms M.las ss):vY M (.visit g ms) (ss.map r3)
def kA.rows{b:Ú}{d:İ}(h:kA K H b d):jw K H b (Ą8 r3):=by induction h with|nil=>rw[Z5]|cons h _ a=>show ē h a
structure WN(K:Zp)(H':Hp)(M M':bJ)(Z':ZS)(d:Dd)(r:Addr)(us:Ú)(rs:ϰ):Prop where
 a:vY M d rs
 w:jw K H' us rs
 n:¬gH M' Z' r
noncomputable def Dd.adds:Ās Dd|.layer _ _=>true|.trial _=>true|_=>false
def Dd.clo_adds{d:Dd}(h:Ēf):ćm:=by cases d<;>first|rfl|cases h
inductive S5(P:Zu)(w:World)(K:Zp)(a:ja)(vs:Ú)(H:Hp)(Q:VK)(E:XK):Prop|mk(M:bJ)(Z:ZS)(c:Nat)(dv:Addr)(d:Dd)(xs:Ú)(_:vs=[Ϧ,Č7])(_:cK P w K a H M Z c)(_:c<=63)(_:bj K H dv xs)(_:i9 K H M d xs)(_:{Ġt,ϰ,hU M d M'->WN K H' M M' Z' d r us rs->iF H M Z H' M' Z'->cK P w K a H' M' Z' (c+1)->H r=none->H' r=ăe->ąj->Ă2})(_:(ćm->UJ M d->{Ćx,ao H H',ė2}))
section
def B5(T:ä):aT P w K mg base (lA P w) 11 a.iO.x a.iO.d čE (S5 P w K a):=by
 show T.iO.okEc rZ ĤP
 ·have(M,Z,c,dv,d,xs,(),y,hc,s,hD,q,S):=h;show{_,(ae (bd 2 rZ.nd (dy K (Y 1) ah)) (ae (aN (aE aQ (Y 2) ak (aG _)) (ai (az {ăl,Y 0,T.dZ.m,u9,p,T.dZ.b,ac (dy K (Y 1) ah) (ac (dy K (Y 1) ah) O)})) aF) (ae (aN (aE aQ (Y 2) ak (aG _)) (ai (az {ăl,Y 0,T.dY.m,u8,p,T.dY.b,ac (dy K (Y 1) ah) (ac {Aa,uT,T.Nr,Ņ yH,p,(),T.QT,T.fC.b,bI,ac (dy K (Y 1) ah) (ac (dy K (Y 1) ah) (ac (dy K (Y 1) ah) (ac (dy K (Y 1) ah) O)))} O)})) aF) (ae (aN (aE aQ (Y 2) ak (aG _)) (ai (az {Ăz,Y 0,T.cb.m,jo,p,T.cb.b,ac (dy K (Y 1) ah) (ac (dy K (Y 1) ah) O)})) aF) (ae (aN (aE aQ (Y 2) ak (aG _)) (ai (az {Ăz,Y 0,T.cb.m,jo,p,T.cb.b,ac (dy K (Y 1) ah) (ac (pc T.C8 (M0 T) p (ac (dy K (Y 1) ah) (ac (dy K (Y 1) ah) O))) O)})) aF) (ae (aN (aE aQ (Y 2) ak (aG _)) (ai (az {Ăz,Y 0,T.eT.m,wO,p,T.eT.b,ac (dy K (Y 1) ah) (ac (dy K (Y 1) ah) O)})) aF) (ae (aN (aE aQ (Y 2) ak (aG _)) (ai (az {ăl,Y 0,T.cR.m,lR,p,T.cR.b,ac (dy K (Y 1) ah) (ac g9 O)})) aF) (ae (aN (aE aQ (Y 2) ak (aG _)) (ai (az {ăl,Y 0,T.cR.m,lR,p,T.cR.b,ac (dy K (Y 1) ah) (ac g9 O)})) aF) (ae (aN (aE aQ (Y 2) ak (aG _)) (ai (az {Ăz,Y 0,T.d6.m,va,p,T.d6.b,ac (dy K (Y 1) ah) O})) aF) (ae (aN (aE aQ (Y 2) ak (aG _)) (ai (az {ăl,Y 0,T.fI.m,yM,p,T.fI.b,ac (dy K (Y 1) ah) (ac (dy K (Y 1) ah) O)})) aF) (ai (az {ăl,Y 0,T.dX.m,u7,p,T.dX.b,ac (dy K (Y 1) ah) (ac (dy K (Y 1) ah) O)})))))))))))),?_}
  have E:=y.g.house;cases hD with|@layer nm sl h1 h2 h3 h4 Q=>rw[ϯ,! rX s č (aB ?_),! Ť,mm E () () (! rX s ϕ (! rX s ϥ {M,Z,c,nm,sl,(),y,h1,h2,h3,Q,λr A H' st f p n u nf=>q r [] [] _ A H' .layer {.layer,.nil,nf} st (f.mono (sT c)) p n u}))]|@trial x ar sh ra I h1 h2 h3 h4 Q h6 h7 h8 h9 V hb W hd he hf=>
   rw[Ŧ,! rX s č (aB ?_),! ϲ,! Ť,mm E () () (! rX s ϕ ?_)];show ! rX s ϥ (! rX s ād (! rX s (č5 4) (! rX s (č5 5) (λt ty J X an=>?_))));have s2:ao H (aJ (ĆP H t) t ĝG):={Ē7,ay (aI e J),ay (aI e X),e}
   have L:aJ (ĆP H t) t ĝG t=āA a.iz ty []:=af;generalize aJ (ĆP H t) t ĝG=H2 at s2 L⊢;show{t,ty,ar,ra,sh,x.home,(),L,λba H3 aa f3 ad ag=>āO};have s3:ao H H3:={ĆQ,f3,b,o,s2 b o e,aI e J};show{M,Z,c,H,t,ba,ty,ar,sh,ďt,x,(),y,s3,J,s2.free aa,ag,ad,h3,h4,h9,W,hd,he,h1,h2,hf,λr A H' st f p n u nf=>q r [] [] _ A H' .trial {.trial,.nil,nf} st (f.mono (sT c)) p n u}|@share t ns nv h1 h2 h3 h4=>rw[ĔO,ďX,ėn h1];show ! rX s č (aB ?_);(rw[ċi,! ϲ]);rw[ö,! Ť,mm E () () (! rX s ϕ (! rX s ϥ {M,Z,c,i,j,l,t,nv,ns,(),y,hc,B,v,hh,æ h2,h3,h4,λC r F A H' st f p n u G nf=>q r F _ _ A H' (.share v hh C) {.share v hh,G,nf} st f p n u,λD=>S () (.share v hh D)}))]|@deal t z I wv h1 hz h2 h3 h4=>
   rw[ĔO,ďX,ėn h1];have N:=y.ok.tr t h1;have a1:=N.a1;have a4:=N.a4;show ! rX s č (aB ?_);(rw[Ē8,! ϲ]);rw[ç,! Ť,mm E () () (! rX s ϕ (! rX s ϥ (! rX s ād {z.toNat,wv,I,by rw[{ύ,Ď z.toNat=z}];rfl,Ø,h2,Ø,Ø,λtv H1 R J=>?_})))];have al:{ĕ6,ō deal I z.toNat}:=Þ qE h3
   show{M,Z,c,i,j,l,t,tv,ĢI I,(),y.same R,hc,B,v,hh,{æ,Ł J},al,ĢH Ow I,λC r F A H' st f p n u G nf=>q r F _ _ A H' (.deal v hh C) {.deal v hh,G,nf} {è,Āb R,st} f (R.free p) n u,λD H' s'=>S () (.deal v hh D) H' (R.trans s')}|@hold l z h1 h2=>have(i,v):=ďX;show ! rX s č (aB ?_);(rw[ėT,! ϲ]);rw[ö,! Ť,mm E () () (! rX s ϕ (! rX s ϥ {M,Z,c,i,l,z,(),y,hc,v,h2,λC r A H' st f p n u nf=>q r [] [] _ A H' (ĆX v C) {.hold,.nil,nf} st f p n u,λD=>S () (ĆX v D)}))]|@pause t h1=>have(j,B):=ďX;show ! rX s č (aB ?_);(rw[ĉ6,! ϲ]);rw[ö,! Ť,mm E () () (! rX s ϕ {M,Z,c,j,t,true,(),y,B,λr H' st f p n nf=>q r [] [] _ Z H' ęj {.pause,.nil,nf} st (f.mono (sT c)) p n ()})]|@go t h1=>have(j,B):=ďX;show ! rX s č (aB ?_);(iterate 6 show ! ϲ);rw[ö,! Ť,mm E () () (! rX s ϕ {M,Z,c,j,t,false,(),y,B,λr H' st f p n nf=>q r [] [] _ Z H' ęj {.pause,.nil,nf} st (f.mono (sT c)) p n ()})]|@close t h1=>rw[ĔO,ďX,ėn h1];show ! rX s č (aB ?_);(iterate 7 show ! ϲ);rw[ö,! Ť,mm E () () (! rX s ϕ {M,Z,c,i,j,l,t,(),y,hc,B,v,hh,λr F A H' st f p n u G nf=>q r F _ _ A H' (.close B v hh) {.close v hh,G,nf} st f p n u})]|@bar g t h1 h2=>rw[ĔO,ĀN h2,ėn h2];show ! rX s č (aB ?_);(iterate 8 show ! ϲ);rw[ö,! Ť,mm E () () (! rX s ϕ (! rX s ϥ {M,Z,c,i,j,l,t,g,(),y,hc,B,v,hh,h1,λr F A H' st f p n u G nf=>q r F _ _ A H' (.bar B v hh) {.bar v hh,G,nf} st f p n u}))]|@visit g mv ms h1 h2 h3 h4 Q=>show ! rX s č (aB ?_);(iterate 9 show ! ϲ);show mm E () () (! rX s ϕ (! rX s ϥ {M,Z,c,g,mv,ms,(),y,hc,h1,h2,Q,λr F ss M' A H' V vt st f p n u hs nf=>q r F _ M' A H' (.visit V vt) {.visit V,hs.rows,nf} st f p n u}))
omit e
inductive VB(P:Zu)(w:World)(K:Zp)(a:ja)(vs:Ú)(H:Hp)(Q:VK)(E:XK):Prop|mk(M:bJ)(Z:ZS)(c:Nat)(dv:Addr)(d:Dd)(xs:Ú)(_:vs=[Ϧ,Č7])(_:cK P w K a H M Z c)(_:c<=63)(_:bj K H dv xs)(_:i9 K H M d xs)(_:(Ēd->{Ġt,ϰ,hU M d M'->WN K H' M M' Z' d r us rs->iF H M Z H' M' Z'->cK P w K a H' M' Z' (c+1)->H r=none->H' r=ăe->{ĒE,Z.ds++ŝ dv}->Ă2}))(_:(ćm->UJ M d->{Ćx,ao H H',ė2}))(_:(Ēf->{Ćx,ao H H',Ğd}))
section
def FG(T:ä)(Q:ćt):aT P w K mg base (lA P w) 14 a.lx.x a.lx.d čE (VB P w K a):=by
 show T.lx.okEc xH λH vs o h=>?_
 ·have(M,Z,c,p,d,I,(),s,hc,J,L,q,R,S):=h;show{_,(ae (aR {ZD,(BW T Q).mono ß,o,T.gB.m,T.gB.f.kp,T.gB.b,ac (Y 1) (ac (aO K () (Y 0)) (ac (aO K () (Y 0)) (ac (aO K () (Y 0)) O)))}) (ae (bd 2 xH.nd {Ăz,Y 0,T.iO.m,B5,o,T.iO.b,ac (Y 1) O}) (ae (aR {ăy,cg,K,(),dB,aO K () (Y 0),ac (Y 1) O}) (ai (az (Y 2)))))),?_}
  have u:=s.g.house;rw[Ŏ,! jh u T.aH T.cC () () (jh u T.aH T.be () () (jh u T.aH T.aW () () ?_)),{p,M,Z,c,d,I,(),J,s.g,s.ok,L,λv H1 j=>?_,S},mm (j _ _ u) () () (!{M,Z,c,p,d,I,(),s.same j,hc,þ j J,ė L.kp j,λr V W y i N nx aw st e o A k=>?_,λX B H' s'=>R X B H' (ă6 s')})];have t:=e.g.house;rw[st.hh]at t;have l:=e.g.dees;have C:=s.ds;show aB (jh t T.aH T.kW () () {à {(),_,å l},! rA l (by rw[k,gg];lia) ?_});have D:=e.g.deed ł;have E:iF N y i {ń,N,i.G .dl,i.ds++ſ} y {i with ds:=i.ds++ſ}:=iF.put (r:= .dl) trivial () () () () λx B=>à B;show ! q v r V W y {i with ds:=i.ds++ſ} _ nx {aw.a,aw.w.kp (ø l),aw.n} {Ć4,Āb j,st,E} {D,e.ok,e.tk,e.ow,by rw[Ćq,Ļ i.ds [_]<=c+1,gV,k,r_ C]} (j.free o) ?_ {ĆK,i.ds++[_]=_,k};rw[ay ĄO]
  ·show A
  ·rw[z,st.dd,j _ _ s.g.dees]at o;cases o
omit e
noncomputable def RQ:ċ:=["ann","ann7","7ann","an","nan","ana","anan","b","bob12","bob1","21bob","annbob"]
noncomputable def LK:ċ:=["","ann7","0","guestofthishouse99"]
noncomputable def Ml(k:Nat):Nat:={Ā3,k,26,97+k,22+k}
noncomputable def Xj(z:Str)(i:Int)(c:Nat):Str:=ĈH z none Ău++āQ++ćP z Ău
noncomputable def WX(x:Str):Bool:=ĝW 1&&{Ċ,ā1 24}&&{ěm,λc=>{Ċ,c∈iJ.cps.toList}}
def R8(h:Ą WX x):Dr x:=by unfold WX at h;rw[k_,k_]at h;show{kl ü.1,kl ü.2,λc hc=>kl (Zb.mp Ŕ c hc)}
def Mh:∀z∈RQ,Ą WX z:=dk ()
def QP:∀z∈LK,{Čk,19,∀c∈ZT 36,{Ą,WX,Xj z Ő (Ml c)}}:=dk ()
def JP:∀z∈LK,ĉa 18:=dk ()
def Tb:∀c∈ZT 36,Ci {ĝ3,"abcdefghijklmnopqrstuvwxyz0123456789"} (ë c)=ő Ml c:=dk ()
def lc{zs:Zv}{i:Int}(h0:0<=i)(h1:i<ë zs.length):∃z∈zs,Ci (Ş zs.map) i={Ù,ĵ z}:=by have(v,a,hm):=Bl (xs:=(Ş zs.map)) h0 (āo h1);have(z,b,()):=Ķ hm;show(z,b,a,)
inductive L0(vs:Ú)(H:Hp)(Q:VK)(_E:XK):Prop|mk(k N:Int)(_:vs=[Ąm,ã N])(_:∀(g:Str)H',ao H H'->Dr g->Q āt H')
def oE(h:N b H):(jx.mk N R B C).nx b H:=h
def xh{c:TT}{t u:TS}{D:jx}{b:St}(h1:u D b H)(h2:∀N:Ų,N b H->JM c t xG {D with nx:=N} b H):wm (JM c t xG) u D b H:=h2 (u D) h1
noncomputable def WU:ċ:=["age","size","old"]
inductive PF(K:Zp)(h:Nat)(vs:Ú)(H:Hp)(Q:VK)(_E:XK):Prop|mk(n i:Int)(_:vs=[ăk,Ŵ])(_:1<=i)(_:i<=ë h)(_:∀(r:Ru)(rv:V)H',ao H H'->eV K H' r rv->j8 WU r->ćf h->r.cnt<2^h->Q rv H')
section
def Kl(T:ä):aT P w K mg base dw 1 a.xB.x a.xB.d čx L0:=by
 show T.xB.okc mO λH A B h=>?_
 ·have(k,N,(),q):=h;show{_,(ae (aN (aE aQ (au bq (au cj (Y 1) ah) ah) ah (aG _)) (ae (bd 2 mO.nd (a9 (ac ak (ac ak (ac ak (ac ak (ac ak (ac ak (ac ak (ac ak (ac ak (ac ak (ac ak (ac ak O)))))))))))))) (ai (az (gx K (Y 2) (au bq (au cu (Y 0) (au cj (Y 1) ah)) ah))))) aF) (ae (bd 3 mO.nd (gx K (a9 (ac ak (ac ak (ac ak (ac ak O))))) (au bq (Y 1) ah))) (ae (bd 4 mO.nd (au bq (au cj (Y 1) ah) (au cu {Č,aK K (),ac (Y 3) O} ah))) (ae (bd 5 mO.nd (au bq (au cu (Y 0) (au cj (Y 1) ah)) ah)) (ai (az (au aC (au aC (cp wz (Y 3) c9 (cO (Y 4))) (Fp Ht ak (Y 5) Ϫ)) (cp wz (Y 3) (cO (Y 4)) c9)))))))),?_}
  rw[ė7,bS (k+N/160) {Ĥ,û<12},bS (k+N/160) {Ĥ,û<36}];have b3:=bS N {Ĥ,û<4}
  (repeat(first|show ă|show r2 ?_|show zzA () ?_|show zzB (cd ()) ?_|show zzC (by first|decide|lia) ?_|show zzD ?_))
  show kz (λp=>?_) (λp=>?_)
  ·show{ls (),λl g=>?_}
   (repeat(first|show ă|show r2 ?_|show zzA () ?_|show zzB (cd ()) ?_|show zzC (by first|decide|lia) ?_|show zzD ?_))
   have(z,f,i):=ēX RQ b1.1 b1.2;show{l,_,_,!{(),Z4,i,q z _ (am ϐ g) (R8 (Mh z f))}}
  ·show{ls (),λl g=>?_};have(z,f,i):=ēX LK b3.1 b3.2;have s:=JP z f;have n:=ZI [Ĉ9,ė4,ĵ "0",Ĕv] H g;have c:aJ H l {ø,[Ĉ9,ė4,ĵ "0",Ĕv]} l=ò [Ĉ9,ė4,ĵ "0",Ĕv]:=af;generalize ĀE [Ĉ9,ė4,ĵ "0",Ĕv]=C at n c⊢
   (repeat(first|show ă|show r2 ?_|show zzA () ?_|show zzB (cd ()) ?_|show zzC (by first|decide|lia) ?_|show zzD ?_))
   show{l,_,_,!{(),å c,i,aB ?_}}
   (repeat(first|show ă|show r2 ?_|show zzA () ?_|show zzB (cd ()) ?_|show zzC (by first|decide|lia) ?_|show zzD ?_))
   show{_,z.length,(),{œ,cP Ø},_,!{ą,r2 {{ęB,û<_},aB ?_}}};have t:=bS (N/4) {ĈP,û<ċ5+1,o'19};have u:=ĈY z none {Ù,N/4%(ċ5+1)};have v:=ĈY z {Ù,N/4%(ċ5+1)} none;have hok:=QP z f {Ϟ,N/4,ċ5+1} (by rw[pa];lia) {Ϟ,k+N/160,36} (by rw[pa];lia);have e:=Tb {Ϟ,k+N/160,36} (by rw[pa];lia);rw[{ύ,Ď {Ϟ,N/4,ċ5+1}=N/4%(ċ5+1)}]at hok;rw[{ύ,Ď {Ϟ,k+N/160,36}=(k+N/160)%36}]at e;generalize Ml {Ϟ,k+N/160,36}=j at*;have m:∀a b:Str,Ļ a b=ćy b.length:=λa b=>by change(a.cps++b.cps).size=a.cps.size+b.cps.size;rw[Ĥu]
   have y:{ĆS,ώ {#[j]},1}:=()
   (repeat(first|show ă|show r2 ?_|show zzA () ?_|show zzB (cd ()) ?_|show zzC (by first|decide|lia) ?_|show zzD ?_))
   show{cP Ø,?_}
   (repeat(first|show ă|show r2 ?_|show zzA () ?_|show zzB (cd ()) ?_|show zzC (by first|decide|lia) ?_|show zzD ?_))
   show{"abcdefghijklmnopqrstuvwxyz0123456789",_,j,(),(),cP (dk ()),e,_,ώ {#[j]},(),(),cP Ø,! !{N/4%(ċ5+1),(),z,(),cP Ø,_,!{(),cP (by rw[m];lia),q _ _ n (R8 hok)}}}
theorem FF(T:ä):∀h:Nat,aT P w K mg base dw (h+1) a.gj.x a.gj.d ĝ1 (PF K h)
 |0=>by
  show T.gj.f.ok pI ģ2 ĠG
  ·have(n,i,(),_):=h;rfl
  ·have(n,i,(),h1,h2,_):=h;lia|hh+1=>by
  have G:=FF T hh;show T.gj.f.ok pI ģ2 ĠG
  ·have(n,i,(),_):=h;rfl
  ·have(n,i,(),h1,h2,q):=h;show{_,(ae (bd 2 pI.nd (au bq (Y 0) ah)) (ae (bd 3 pI.nd (au cj (Y 0) ah)) (ae (bd 4 pI.nd (gx K (a9 (ac ak (ac ak (ac ak O)))) (au bq (Y 3) ah))) (ae (aN (aE aQ (Y 2) ah (aG _)) (ai (az (bo (ac ak (ac (Y 4) O))))) aF) {ZR,fe (aE aQ (Y 2) ah (aG _)) (dI (aE aQ (Y 2) ah (aG _))),ai (az (bo (ac ak (ac (Y 4) (ac (au gp (au bq (au cj (Y 3) ah) ah) ah) O))))),{ZR,wF (aE qg (Y 1) ah (aG _)) (qQ (aE aQ (Y 2) ah (aG _))),ai (az (bo (ac ak (ac {Ďv,G,e,ac (Y 3) (ac (au gp (Y 1) ah) O)} O)))),{ZR,wF (aE qg (Y 1) ah (aG _)) (qQ (aE aQ (Y 2) ah (aG _))),ai (az (bo (ac ak (ac {Ďv,G,e,ac (Y 3) (ac (au gp (Y 1) ah) O)} (ac {Ďv,G,e,ac (au cj (Y 3) ah) (ac (au gp (Y 1) ah) O)} O))))),{ZR,wF (aE qg (Y 1) ah (aG _)) (qQ (aE aQ (Y 2) ah (aG _))),ai (az (bo (ac ak (ac {Ďv,G,e,ac (Y 3) (ac (au gp (Y 1) ah) O)} (ac {Ďv,G,e,ac (au cj (Y 3) ah) (ac (au gp (Y 1) ah) O)} O))))),ai (az (bo (ac ak O)))}}}})))),?_}
   have X:2<=2^(hh+1):=by rw[D2];rw[Š,Nat.two_pow_pos hh]
   (repeat(first|show ă|show r2 ?_|show zzA () ?_|show zzB (cd ()) ?_|show zzC (by first|decide|lia) ?_|show zzD ?_))
   show{ls (),ĝp};have b3:=bS (n/10) {Ĥ,û<3};have(z,hz,ha):=ēX WU b3.1 b3.2;have v:=ZI [ćr,ćl,ćs] H hl;have y:aJ H l {ø,[ćr,ćl,ćs]} l=ò [ćr,ćl,ćs]:=af;generalize ĀE [ćr,ćl,ćs]=H0 at v y⊢
   (repeat(first|show ă|show r2 ?_|show zzA () ?_|show zzB (cd ()) ?_|show zzC (by first|decide|lia) ?_|show zzD ?_))
   show{l,_,_,!{(),å y,ha,aB ?_}};clear y ha b3;show oE (xh ?_ đl)
   rotate_left
   ·(repeat(first|show ă|show r2 ?_|show zzA () ?_|show zzB (cd ()) ?_|show zzC (by first|decide|lia) ?_|show zzD ?_))
    rw[ö,kz (λe1=>?_) (λe1=>j),!{ls (),λt c=>q (.has z) _ _ (am v c) (.has Ń) (.has hz) {ĀQ,1<=hh+1} X}]
   show xh ?_ đl
   rotate_left
   ·have b9:=bS (n/10/3) {Ĥ,û<9};have ad:=wg;show !{Čq,kz,λ_=>bE ?_,! Čq kz ĺ j}
    all_goals
     (repeat(first|show ă|show r2 ?_|show zzA () ?_|show zzB (cd ()) ?_|show zzC (by first|decide|lia) ?_|show zzD ?_))
     show{ls (),λt c=>q (.least z _) _ _ (am v c) (.least Ń) (.least hz Ø Ø) {ĀQ,1<=hh+1} X}
   have Z:∀m:Nat,m<2^hh->m+1<2^(hh+1):=λm hm=>by rw[D2];lia
   have u:∀m k:Nat,m<2^hh->k<2^hh->m+k+1<2^(hh+1):=λm k hm hk=>by rw[D2];lia
   show xh ?_ đl
   rotate_left
   ·rw[Ŏ,! r2 (!{ϗ,oN,Ęy,ce j}),! Čq kz ĺ j,! ! r2 {n/10,i-1,(),{Ϭ,o'26 h1 g},{Ϭ,o'27 h2},λr R H1 I e J h3 h4=>{ls (),Ğc}}];show q (.not r) _ _ (am (ć6 I) c) (.not Ń {ė,e.kp,am đ c}) (.not J) {ĀQ,r.hgt+1<=hh+1} (Z _ h4)
   show xh ?_ đl
   rotate_left
   ·rw[Ŧ,! r2 (!{ϗ,oN,Ęy,ce j}),! Čq kz ĺ j,! ! r2 {n/10,i-1,(),{Ϭ,o'26 h1 g},{Ϭ,o'27 h2},ġa},! r2 {Ϛ,! r2 {n/10/40,i-1,(),{Ϭ,o'26 h1 g},{Ϭ,o'27 h2},λp B H2 L C D aa F=>{ls (),Ğc}}}];have M:=š [ZC,R,B] H2 c;show q (.both r p) _ _ (am {è,ć6 I,L} c) (.both Ń {ė,č0 e.kp L,M} (ė C.kp M)) (.both J D) {ĀQ,max r.hgt p.hgt+1<=hh+1} (by rw[show(Ru.both r p).cnt=r.cnt+p.cnt+1 from m6 (·+1) gV];show u _ _ h4 F)
   show xh ?_ đl
   rotate_left
   ·rw[Ŧ,! r2 (!{ϗ,oN,Ęy,ce j}),! Čq kz ĺ j,! ! r2 {n/10,i-1,(),{Ϭ,o'26 h1 g},{Ϭ,o'27 h2},ġa},! r2 {Ϛ,! r2 {n/10/40,i-1,(),{Ϭ,o'26 h1 g},{Ϭ,o'27 h2},λp B H2 L C D aa F=>{ls (),Ğc}}}];have M:=š [ZB,R,B] H2 c;show q (Či r p) _ _ (am {è,ć6 I,L} c) (.either Ń {ė,č0 e.kp L,M} (ė C.kp M)) (Či J D) {ĀQ,max r.hgt p.hgt+1<=hh+1} (by rw[show(Ru.either r p).cnt=r.cnt+p.cnt+1 from m6 (·+1) gV];show u _ _ h4 F)
   show{ls (),λt c=>q .any _ _ (am v c) (.any Ń) .any {ĀQ,1<=hh+1} X}
omit e
noncomputable def Hb(m:Int)(j:Nat):Str:=WU.getD {Ϟ,Z8+m,3} "age"
noncomputable def Uo:ċ:=["marka","markb","markc","markd","marke"]
def QH(m:Int):Hb m=Hb (m%3):=by
 funext j
 unfold Hb;rw[Int.add_emod,Int.add_emod Z8 (m%3),Int.emod_emod]
def NA(m:Int):(Uo++{ĉz,3} (Hb m)).Nodup/\∀z∈Uo++{ĉz,3} (Hb m),Ą Sn z:=by rw[QH];have b:=bS m {Ĥ,û<3};rcases(Ø:m%3=0\/m%3=1\/m%3=2)with e|e|e<;>rw[e]<;>decide+kernel
def TK{m:Int}{j:Nat}:Ci [ćr,ćl,ćs] ((0+Z8+m)%3)=Ù {ĵ,Hb m j}:=by rw[Int.zero_add];have b:=bS (Z8+m) {Ĥ,û<3};unfold Hb;rcases(Ø:(Z8+m)%3=0\/(Z8+m)%3=1\/(Z8+m)%3=2)with e|e|e<;>rw[e]<;>rfl
def vM{ns:ZA}{i:Int}(h0:0<=i)(h1:i<ć9):∃z∈ns,Ci Ŷ i={Ù,ñ z}:=by have(v,a,hm):=Bl (xs:=Ŷ) h0 (āo h1);have(z,b,()):=Ķ hm;show(z,b,a,)
noncomputable def Je:Ũ:=[("marka",-2),("markb",-1),("markc",0),("markd",1),("marke",2)]
def Of:∀j∈ZT 5,Ci {ĝ3,"abcde"} (0+Z8)={Ù,97+j}/\Je[j]?={āe,ώ "mark"++ώ {#[97+j]},0+Z8-2}:=dk ()
inductive LW(K:Zp)(vs:Ú)(H:Hp)(Q:VK)(_E:XK):Prop|mk(n:Int)(_:vs=[ăk])(_:∀(t:Addr)(ms:Ũ)H',ao H H'->rQ K H' ms ľ->(∀m∈ms,Wd m.1/\-bg<=m.2/\m.2<=bg)->(ms.map Prod.fst).Nodup->ĉ1 8->Ăj t)
section
def Kk(T:ä):aT P w K mg base dw 2 a.xz.x a.xz.d ěf (LW K):=by
 show T.xz.ok mM λa8 A outer s H r Q E hr h=>?_
 ·have(n,(),q):=h;show{_,(ae (bd 1 mM.nd (a9 O)) (ae (gn oa () (gO () T.jr (ac ah O)) (yD 2 mM.nd) (ai (aN (aE aQ (au bq (au cj (Y 0) (gx K (a9 (ac ah (ac ah (ac ah O)))) (Y 2))) ah) ah (aG _)) (ae (bd 3 mM.nd (gx K (a9 (ac ak (ac ak (ac ak O)))) (au bq (au cu (Y 2) (au cj (Y 0) ah)) ah))) (ai (aR {ăy,cg,K,(),dB,Y 1,ac (bo (ac (Y 3) (ac (au gp (au bq (au cj (Y 0) (gx K (a9 (ac ah (ac ah (ac ah O)))) (Y 2))) ah) ah) O))) O}))) aF))) (ae (aN (aE aQ (au bq (au cj (Y 0) ah) ah) ah (aG _)) (ai (bd 1 mM.nd (au eR (ub Bo [] [2] [2] (aj Ab) (bW 2) (gO () T.jr (ac ah O)) {ν,nO Bo [] 2,bo (ac (au aC ak (Fp Ht ak (Y 2) Ϫ)) (ac (au gp (Y 2) ah) O))}) (Y 1)))) aF) (ai (az (bh (du K ()) ĕ T.cX L2.bF (ac (Y 1) O))))))),?_}
  show{ls (),ĝp};have s0:=ĆR H hl;rw[ĭ,aB {3,(),Ø,Ø,?_},{ēA,nI,0,3,(λi S H'=>ao H H'/\(Vb λ(g:List (Str×Int))(r:List V)=>An5 (H' l=some (.lst r)) (Paired (Sl K H') r g) ((g.map (·.1)).Sublist ((List.range i).map (Hb (n/8)))) ((∀m∈g,-100<=m.2/\m.2<=100)) (Vb λW X=>S=[some (.int n),some (.ref l),W,X]))),{s0,[],[],af,.nil,ĥl _,(λm hm=>nomatch hm),_,_,()},?_}]
  ·intro i S Z hi(s1,g,r,hL,G,b,hb,W,X,());show aB ?_
   (repeat(first|show ă|show r2 ?_|show zzA () ?_|show zzB (cd ()) ?_|show zzC (by first|decide|lia) ?_|show zzD ?_))
   show{ls (),λl1 ap=>?_};have f:=ZI [ñ 1,ñ 2,ñ 4] Z ap;have u:aJ Z l1 {ø,[ñ 1,ñ 2,ñ 4]} l1=ò [ñ 1,ñ 2,ñ 4]:=af;generalize ń Z l1 [ñ 1,ñ 2,ñ 4]=I at f u⊢;have(d,hd,ha):=vM (ns:=[1,2,4]) (i:=0+Ő) Ø {ĀQ,_<ë 3};have ba:d=1\/d=2\/d=4:=by simpa using hd
   rw[ĭ,!{l1,_,_,!{(),å u,ha,_,!{(),ϻ,_,!{(),{Ĥ,û<2},(),ă}}}},kz ĺ ĺ]
   ·show{ls (),λl2 as=>?_};have J:=ZI [ćr,ćl,ćs] I as;have v:aJ I l2 {ø,[ćr,ćl,ćs]} l2=ò [ćr,ćl,ćs]:=af;generalize ń I l2 [ćr,ćl,ćs]=H3 at J v⊢
    (repeat(first|show ă|show r2 ?_|show zzA () ?_|show zzB (cd ()) ?_|show zzC (by first|decide|lia) ?_|show zzD ?_))
    show{l2,_,_,!{(),å v,TK,aB ?_}};have av:=J _ _ (f _ _ hL);show !{à {(),_,å av},! !{ls (),λl3 ax=>?_}};have s4:=ZI [ñ 24,ñ 240,ĘI] H3 ax;have y:aJ H3 l3 {ø,[ñ 24,ñ 240,ĘI]} l3=ò [ñ 24,ñ 240,ĘI]:=af;generalize ń H3 l3 [ñ 24,ñ 240,ĘI]=H4 at s4 y⊢;have(k,a0,a2):=vM (ns:=[24,240,2400]) (i:=0+Ő) Ø {ĀQ,_<ë 3};have a7:k=24\/k=240\/k=2400:=by simpa using a0
    have bb:=bS (n/k) {Ĥ,û<10};show !{l3,_,_,!{(),å y,a2,_,!{(),ϻ,_,!{(),{Ĥ,û<10},_,!{(),ls (),ĝq}}}}};have s5:=š [{á,Hb (n/8) i},{ã,n/k%10-5}] H4 ht;have aa:aJ H4 t {ň,[{á,Hb (n/8) i},{ã,n/k%10-5}]} t=ĝ [{á,Hb (n/8) i},{ã,n/k%10-5}]:=af;have s6:ao Z {Ō,H4,t,[{á,Hb (n/8) i},{ã,n/k%10-5}]}:={Ć4,ĎV J,s4,s5};generalize Ō H4 t [{á,Hb (n/8) i},{ã,n/k%10-5}]=H5 at s6 aa⊢;have ad:=s6 _ _ hL;have a3:=ř G;have L:=b.length_le;rw[b_,b_,n8]at L;show rA ad (by rw[gg];lia) {bw (Ăh s6) hl,g++[(Hb (n/8) i,n/k%10-5)],_,af,?_,?_,ĈO,_,_,()}
    ·show vf (ø ad) {ĄE,vf (υ s6) G,{t,(),Ł aa}}
    ·rw[hE,Ys,hE];show b.append (Y0 _)
    ·rw[ĉj,hm]
     ·show hb m z
     ·rw[ĆD];rw[ĂX,-100<=n/k%10-5/\n/k%10-5<=100]
   ·show{Ăh f,g,r,f _ _ hL,vf (υ f) G,?_,hb,_,_,()};rw[ý,Ys,hE,b.trans (ģj _ _)]
  ·intro S Z(s1,g,r,hL,G,b,hb,W,X,())
   (repeat(first|show ă|show r2 ?_|show zzA () ?_|show zzB (cd ()) ?_|show zzC (by first|decide|lia) ?_|show zzD ?_))
   show Sg (λS H'=>ao H H'/\(Ex3 λ(l':Addr)(g:List (Str×Int))(r:List V)=>An5 (H' l'=some (.lst r)) (Paired (Sl K H') r g) ((g.map (·.1)).Sublist (Uo++(List.range 3).map (Hb (n/8)))) ((∀m∈g,-100<=m.2/\m.2<=100)) (Vb λW X=>S=[some (.int n),some (.ref l'),W,X]))) ?A (λN hJ=>?B)
   case B=>
    rw[Će,{ϗ,kz,ĺ,hJ _ _ {s1,l,g,r,hL,G,b.trans (List.sublist_append_right _ _),hb,_,_,()}},{5,(),Ø,Ø,čd},{čB,K,0,5,λj p H'=>ao Z H'/\H' D=ò p/\{Đ,Sl K H',p,Je.take j},{am đ hD,af,.nil},?_,?_}]
    ·intro j p I hj(f,M,c);have(e1,e2):=Of j (pa.mpr hj);have R:=ř c;rw[j2]at R;rw[ç,aB (ij (bE ?_)),!{"abcde",_,97+j,(),(),cP (dk ()),e1,"mark",ώ {#[97+j]},(),(),cP {Ĥ,4+1<=65536},! r2 {ls (),ĝq}}];have J:=š [{á,ώ "mark"++ώ {#[97+j]}},{ã,0+Z8-2}] I ht;have ag:=J _ _ M;rw[ϑ,{ag,by rw[gg];lia,lf hj {bw (ĎV J) hD,af,?_}},fk e2,vf (ø ag) {ĄE,vf (υ J) c,{t,(),Ń}}]
    ·intro p I(f,M,c);have R:=ř c;have a3:=ř G;have L:=b.length_le;rw[b_,b_,n8]at L;show !{D,l,_,!{(),M,f _ _ hL,by rw[gg];have:p.length=5:=R;lia,λl' al=>aB (hJ _ _ {am (Ăh f) al,l',Je++g,_,af,vf (.new al) (wH c (vf (υ f) G)),?_,ĈO,_,_,()})}}
     rw[Ĺ,hE,(Y0 _).append b]
     ·rw[ĉj,hm]
      ·show(ß:∀m∈Je,-100<=m.2/\m.2<=100) m z
      ·show hb m z
   case A=>intro S I(f,l',a5,bc,a6,c,e,an,W,X,());show !{l',! ąv a6 ĝq};have(m1,m2):=NA (n/8);have bi:=wg;show q t a5 _ (am f ht) (R3 (vf (.new ht) c) Ń) (λm hm=>{Ls (m2 _ (e.subset {ăa,{m,hm,()}})),{ļ,an m hm},{ļ,an m hm}}) (e.nodup m1) (by rw[ĉy,e.length_le,b_])
omit e
def Co(p:Nat):Prop:=p∈[2,3,5,7,11,13,17,31,61,97]
def Co.le{p:Nat}(h:Co p):2<=p/\p<=97:=(ß:∀p∈[2,3,5,7,11,13,17,31,61,97],2<=p/\p<=97) p h
structure HY where
 pl:Addr
 L:Addr
 T:Addr
def Ln(K:Zp)(H:Hp)(v:V)(t:Ĕi Nat):Prop:=∃b,v=ZM/\bj K H b [á t.1,ã t.2]
def Ln.kp(e:Kp H H')(h:{Đ,Ln K H,d,f}):{Đ,Ln K H',d,f}:={Ĉt,h,λv m⟨b,h1,h2⟩=>{b,h1,ąc}}
structure t5(K:Zp)(H:Hp)(p:Nat)(sa:Int)(ns:Zv)(ts:Č9)(A:HY):Prop where
 pl:H A.pl=ò [ã p,ã sa,â A.L,â A.T]L:(H A.L=Ăo ns.map)T:∃us,H A.T=ăe/\{Đ,Ln K H,us,ts}
 n1:A.pl≠A.L
 n2:A.pl≠A.T
 n3:A.L≠A.T
def t5.same(h:t5 K H p sa ns b A)(e:ao H H'):t5 K H' p sa ns b A:=let⟨a,h1,h2⟩:=h.T
 {e _ _ h.pl,e _ _ h.L,{a,e _ _ h1,Ln.kp (υ e) h2},h.n1,h.n2,h.n3}
inductive PK(K:Zp)(vs:Ú)(H:Hp)(Q:VK)(_E:XK):Prop|mk(sc:Addr)(ns:ZA)(_:vs=ŝ sc)(_:aZ K H sc Ŷ)(_:ČM)(_:∀(A:HY)(p:Nat)(sa:Int)H',ao H H'->H A.pl=none->H A.L=none->H A.T=none->t5 K H' p sa [] [] A->Co p->(0<=sa/\sa<=bg)->Ăj A.pl)
section
def M6(T:ä):aT P w K mg base dw 3 a.Do.x a.Do.d ĈB (PK K):=by
 show T.Do.okc zN λH E t h=>?_
 ·have(u,ns,(),v,y,q):=h;have C:=fQ;show{_,(ae (bd 1 zN.nd (pc T.f8 (dO T) t (ac (Y 0) (ac ah (ac ah O))))) (ae (bd 2 zN.nd (gx K (a9 (ac ah (ac ah (ac ah (ac ah (ac ah (ac ah (ac ah (ac ah O))))))))) (au bq (Y 1) ah))) (ai (az (a9 (ac (Y 2) (ac (au bq (pc T.lu (x5 T) t (ac (Y 0) (ac ah O))) (au cu (au Ap ah ah) ah)) (ac (a9 O) (ac (a9 O) O))))))))),?_}
  show !{u,ns,0,1,(),v,y,Ϛ,Ϛ,aB ?_};generalize dz ns 0 1=x;have l:=bS x {Ĥ,û<8};show{ls (),λi m=>?_};have f:=ZI [ñ 2,ñ 3,ñ 5,ñ 7,ñ 11,ñ 13,ñ 7,ñ 5] H m;have e:aJ H i {ø,[ñ 2,ñ 3,ñ 5,ñ 7,ñ 11,ñ 13,ñ 7,ñ 5]} i=ò [ñ 2,ñ 3,ñ 5,ñ 7,ñ 11,ñ 13,ñ 7,ñ 5]:=af;generalize ZZ i [ñ 2,ñ 3,ñ 5,ñ 7,ñ 11,ñ 13,ñ 7,ñ 5]=j at f e⊢;have(p,A,g):=vM (ns:=[2,3,5,7,11,13,7,5]) l.1 l.2
  (repeat(first|show ă|show r2 ?_|show zzA () ?_|show zzB (cd ()) ?_|show zzC (by first|decide|lia) ?_|show zzD ?_))
  show{i,_,_,!{(),å e,g,aB ?_}};have r:Co p.toNat/\0<=p:=(by unfold Co;decide:∀p∈[ë 2,3,5,7,11,13,7,5],Co p.toNat/\0<=p) p A;obtain⟨pn,rfl⟩:∃n:Nat,p=n:={p.toNat,Ø};clear A g e l;show ! !{u,ns,1,(),f.seq v,y,?_};generalize Dc ns 1=c;have D:=bS c {ύ,û<bg+1}
  (repeat(first|show ă|show r2 ?_|show zzA () ?_|show zzB (cd ()) ?_|show zzC (by first|decide|lia) ?_|show zzD ?_))
  show{ls (),λL s=>{ls (),λT k=>{ls (),λpl b=>?_}}};have n3:L≠T:=λz=>by rw[<-z,af]at k;cases k
  have n2:pl≠T:=λz=>by rw[z,af]at b;cases b
  have n1:pl≠L:=λz=>by rw[z,ay n3,af]at b;cases b
  have B:ao j (aJ (aJ j L ŀ) T ŀ):=am (am (č4 j) s) k;show q (pl,L,T,) pn _ _ {ĎV,am B b} ((ĎV B).free b) (f.free s) ({ĎV,am (č4 j) s}.free k) {af,by change aJ _ _ _ L=_;rw[ay (m_ n1),ay n3,af];rfl,{[],by change aJ _ _ _ T=_;rw[ay (m_ n2),af],.nil},n1,n2,n3} r.1 {D.1,Ø}
omit e
def vF{t u:TS}{D:jx}{b:St}(h:∀v:TS,v=u->wm t v D b H):wm t u D b H:=h u ()
noncomputable def fX(M:bJ):ċ:=ό
noncomputable def ka(M:bJ):Č9:={Ĕg,λt=>ĢN}
noncomputable def yc(M:bJ):Dd->ċ|.layer nm _=>fX M++[nm]|_=>fX M
noncomputable def xF(M:bJ):Dd->Č9|.trial x=>ka M++[(x.nm,x.arms.length)]|_=>ka M
noncomputable def iy(ns:ZA)(m:Nat):ċ:={ĉz,m} λ(j:Nat)=>df j (dz ns 3 4)
def OQ(ns:ZA)(h:m<=4):ō iy ns m=m/\(iy ns m).Nodup/\∀x∈iy ns m,Wd x:=by
 show{by unfold iy;rw[b_,n8],?_,ĝi}
 ·show List.pairwise_iff_getElem.mpr λi j hi a c e=>?_;unfold iy at e hi a;rw[b_,n8]at hi a;rw[Y_,Y_,List.getElem_range,List.getElem_range]at e;rw[Š,we {ĉA,Ø} ϻ e]
 ·have(j,_,()):=Ķ b;show uc _ _
structure jA(ns:ZA)(M:bJ):Prop where
 ln:∀(i:Nat)(l:cH),ī=Ĭ->l.nm=df i (dz ns 1 2)/\l.sl=(dz ns 2 2+i)%(Ϥ+1)tn:∀(j:Nat)(t:dS),ĀD=ϒ->t.nm=df j (dz ns 2 3)/\t.arms=iy ns t.arms.length
 lp:{ĜS,M.p+1}
 pr:Co M.p
def HX(ns:ZA)(M:bJ):Ĵ Dd|.layer nm sl=>nm={ČA,dz ns 1 2}/\sl={đp,dz ns 2 2}%(Ϥ+1)/\{ąW,M.p+1}|.trial x=>x.nm={ĉM,dz ns 2 3}/\x.arms=iy ns x.arms.length|.deal _ z a=>z<=100/\∀x∈a,x<=9|.share _ a=>∀x∈a,Ŭ x|.hold _ z=>Ŭ z|_=>True
def WL(A:HY)(H H':Hp):Prop:=∃o,(o=A.L\/o=A.T)/\Kp H H'/\∀b ob,H b=ū->ú o->H' b=ū
theorem WL.of(s:ao H H'):WL A H H':={A.L,Ġ,υ s,λb o h _=>s b o h}
def lz(K:Zp)(ns:ZA)(M:bJ)(A:HY)(H:Hp)(Q:VK):Prop:=∀(a:Addr)(d:Dd)(b:Ú)(H':Hp),WL A H H'->bj K H' a b->i9 K H' M d b->t5 K H' M.p M.salt (yc M d) (xF M d) A->HX ns M d->(M.trs.length=0->Ği)->Q ô H'
def lz.same(h:lz K ns M A H Q)(s:ao H e):lz K ns M A e Q:=λa d c H'⟨o,h1,h2,h3⟩=>h a d c H' {o,h1,{Ĕ2,υ s,h2},λb ob f=>h3 b ob (s b ob f)}
structure Cr(K:Zp)(H:Hp)(sc:Addr)(ns:ZA)(M:bJ)(A:HY)(c:Nat):Prop where
 sq:(aZ K H sc Ŷ)len:ČM
 pl:t5 K H M.p M.salt (fX M) (ka M) A
 ok:oY M c
 pn:jA ns M
 n4:{ϖ,∀b ob,H b=ū->ú A.L->H' b=ū,aZ K H' sc Ŷ}
theorem Cr.same(h:Cr K H d ns M A c)(s:ao H H'):Cr K H' d ns M A c:={s.seq h.sq,h.len,h.pl.same s,h.ok,h.pn,λa f=>h.n4 a λb ob e n=>f b ob (s b ob e) n}
def t5.addL(h:t5 K H p sa ns b A)(x:Str):t5 K {ZZ,A.L,Ş ns.map++āv} p sa (ns++[x]) b A:=let⟨a,h1,h2⟩:=h.T
 {{Þ,ay h.n1,h.pl},by rewrite[af,hE];rfl,{a,{Þ,ay (m_ h.n3),h1},Ln.kp (ø h.L) h2},h.n1,h.n2,h.n3}
def t5.addT(h:t5 K H p sa ns d A)(h1:H A.T=ò e)(h2:{Đ,Ln K H,e,d})(f:bj K H b [á ï,ã ŕ]):t5 K {ZZ,A.T,e++ŝ b} p sa ns (d++[x]) A:={{Þ,ay h.n2,h.pl},{Þ,ay h.n3,h.L},{_,af,Ln.kp (ø h1) {ĄE,h2,{b,(),f}}},h.n1,h.n2,h.n3}
inductive SU(K:Zp)(vs:Ú)(H:Hp)(Q:VK)(_E:XK):Prop|mk(sc:Addr)(ns:ZA)(M:bJ)(A:HY)(c:Nat)(_:vs=[â sc,ĘB])(_:Cr K H sc ns M A c)(_:ąW 4)(_:{ąW,M.p+1})(_:lz K ns M A H Q)
def J6(h:jA ns M)(b:{ąW,M.p+1}):{đp,dz ns 2 2}%(Ϥ+1)∉Ď3:=λz=>by have(l,hm,e):=Ķ z;rw[ĄG,hm];have a:=ĉX;rw[(h.ln i l hi).2]at e;have h1:({đp,dz ns 2 2}-(dz ns 2 2+i))%(Ϥ+1)=0:=Int.emod_eq_emod_iff_emod_sub_eq_zero.mp e.symm;rw[{ύ,(dz ns 2 2+Ĥe)-(dz ns 2 2+i)={Ď,M.las.length-i}},Y1 Ø Ø]at h1;lia
def Kz(h:jA ns M)(b:ąW 4):{ČA,dz ns 1 2}∉ό:=λz=>by have(l,hm,e):=Ķ z;rw[ĄG,hm];have a:=ĉX;rw[(h.ln i l hi).1]at e;rw[Š,we {ĉA,Ø} {ĉA,Ø} e]
def JJ(h:jA ns M)(b:ĎT):{ĉM,dz ns 2 3}∉Δ:=λz=>by have(t,hm,e):=Ķ z;rw[ĄG,hm];have a:=ĉX;rw[(h.tn i t hi).1]at e;rw[Š,we {ĉA,Ø} {ĉA,Ø} e]
section
def B0(T:ä):aT P w K mg base dw 3 a.jS.x a.jS.d Ěl (SU K):=by
 show T.jS.ok ma λC A outer s H I Q E r h=>?_
 ·have(z,ns,M,A,c,(),g,h4,B,q):=h;show{_,(ae (bd 2 ma.nd {Č,aK K (),ac (gx K (Y 1) ah) O}) (ae (bd 3 ma.nd (pc T.vS (u4 T) r (ac (Y 2) (ac (pc T.f8 (dO T) r (ac (Y 0) (ac ah (ac ah O)))) O)))) (ae (aR {ăy,cg,K,(),dB,gx K (Y 1) ah,ac (Y 3) O}) (ai (az (bo (ac ak (ac (Y 3) (ac (au bq (au cu (pc T.f8 (dO T) r (ac (Y 0) (ac ah (ac ah O)))) (Y 2)) (au cu (gx K (Y 1) ah) ah)) O))))))))),?_}
  have t:=g.pl;have j:ėE:=b_ _;rw[ç,! rX (å t.pl) ϥ {_,M.las.length,(),à {_,å t.L,Ē b_ j},aB ?_},! !{z,ns,1,2,(),g.sq,g.len,Ϛ,Ϛ,Ĥe,dz ns 1 2,(),λl m=>aB ?_}];have f:=t.same m;show ! rX (å f.pl) ϥ {à {(),_,å f.L},! rA f.L (by rw[b_,j,gg];lia) ?_};have i:=f.addL {ČA,dz ns 1 2};have kp:Kp l {ń,l,A.L,Ž fX M++ψ {ČA,dz ns 1 2}}:=ø f.L;have u:∀b ob,l b=ū->ú A.L->aJ l A.L {ø,Ž fX M++ψ {ČA,dz ns 1 2}} b=ū:=λb ob e n=>{Þ,ay n,e}
  generalize {ń,l,A.L,Ž fX M++ψ {ČA,dz ns 1 2}}=D at i kp u⊢;have bs:=bS {đp,dz ns 2 2} {ĈP,û<Ϥ+1,o'19};show ! !{z,ns,2,2,(),(g.same m).n4 _ u,g.len,Ϛ,Ϛ,! r2 (! rX ĄH č (r2 (r2 {{ęB,û<Ϥ+1},ls (),λG v=>?_})))};have y:=š [á "layer",á {ČA,dz ns 1 2},{ã,{đp,dz ns 2 2}%(Ϥ+1)}] D v;show q G (.layer _ _) _ _ {A.L,Ġ,{Ĕ2,υ m,{Ĕ2,kp,υ y}},λb ob e n=>y _ _ (u b ob (m _ _ e) n)} Ń (.layer (uc _ _) (Kz g.pn h4) {bs.1,Ø} (J6 g.pn B) h4) (đZ y) {(),(),B} Ī
omit e
inductive ST(K:Zp)(vs:Ú)(H:Hp)(Q:VK)(_E:XK):Prop|mk(sc:Addr)(ns:ZA)(M:bJ)(A:HY)(c:Nat)(n:Int)(_:vs=[â sc,ĘB,ăk])(_:Cr K H sc ns M A c)(_:ĎT)(_:ĈK 0)(_:lz K ns M A H Q)
section
def BZ(T:ä):aT P w K mg base dw 5 a.jR.x a.jR.d ĚI (ST K):=by
 show T.jR.ok dL λc4 A outer s H vs Q E X h=>?_
 ·have(sc,ns,M,A,c,n,(),Z,a6,c6,q):=h;show{_,(ae (bd 3 dL.nd {Č,aK K (),ac (gx K (Y 1) ah) O}) (ae (bd 4 dL.nd (pc T.vS (u4 T) X (ac (Y 3) (ac (pc T.f8 (dO T) X (ac (Y 0) (ac ah (ac ah O)))) O)))) (ae (bd 5 dL.nd (gx K (gx K (Y 1) ah) (au bq (Y 2) {Č,aK K (),ac (gx K (Y 1) ah) O}))) (ae (bd 6 dL.nd (bh (du K ()) ĕ T.cX L2.bF (ac (ub oX [] [9] [9] (aj ou) (bW 9) (gO () T.jr (ac (au cu ah (au bq (au cj (Y 2) ah) ah)) O)) {ν,nO oX [] 9,pc T.vS (u4 T) X (ac (Y 9) (ac (pc T.f8 (dO T) X (ac (Y 0) (ac ah (ac ah O)))) O))}) O))) (ae (bd 7 dL.nd (a9 O)) (ae (bd 8 dL.nd (pc T.f8 (dO T) X (ac (Y 0) (ac (au cu ah (Y 3)) (ac ah O))))) (ae (gn oa () (gO () T.jr (ac (aD (xl ()) ĕ T.Nk L2.Bg (ac ah (ac (Y 3) O))) O)) (yD 9 dL.nd) (ai (aN (aE aQ (au bq (au cj (Y 8) (gx K (a9 (ac ah (ac ah (ac ah (ac ah (ac ah (ac ah (ac ah (ac ah O))))))))) (Y 9))) ah) ah (aG _)) (ai (aR {ăy,cg,K,(),dB,Y 7,ac (dy K (gx K (gx K (Y 1) ah) (au gp (au gp (Y 3) ah) (Y 9))) ah) O})) aF))) (ae (aR {ăy,cg,K,(),dB,gx K (Y 1) ah,ac (bo (ac (Y 4) (ac {Č,aK K (),ac (Y 6) O} O))) O}) (ai (az (bo (ac ak (ac (Y 4) (ac (Y 5) (ac (Y 6) (ac {Ďv,(FF T 3).mono ß,X,ac (au cj (Y 2) ah) (ac ah O)} (ac (bh (du K ()) ĕ T.cX L2.bF (ac (Y 7) O)) O))))))))))))))))),?_}
  have hP:=Z.pl;have c8:ėE:=b_ _;have b9:{đx,ě ka M}:=b_ _;have l4:=Z.ok.l4;have(us,av,ax):=hP.T;have a0:=ř ax;rw[b9]at a0;rw[ç,vF ĈT,! rX ĝs ād {_,M.trs.length,(),à {_,å av,Ź a0},aB (oE ?_)}];subst g;rw[ç,vF ĈT,! !{sc,ns,2,3,(),Z.sq,Z.len,Ϛ,Ϛ,čo,dz ns 2 3,(),λH1 s1=>aB (oE ?_)}];rw[ĎZ,vF ĈT];have u:=Z.same s1;have bl:=bS n {ĈP,û<ë Ĉ2,o'28 c6 c8};have(hm,cc,cf):=lc bl.1 bl.2;show ! rX (å u.pl.pl) ϥ (! ! rX (å u.pl.pl) ϥ {_,Ĉ2,(),à {_,å u.pl.L,Ź b_},_,!{(),{ē8,û<ë Ĉ2,o'28 c6 c8},A.L,_,_,!{(),å u.pl.L,cf,aB (oE ?_)}}});rw[ĎZ,vF ĈT];have b4:=bS (n/4) {Ĥ,û<4}
  (repeat(first|show ă|show r2 ?_|show zzA () ?_|show zzB (cd ()) ?_|show zzC (by first|decide|lia) ?_|show zzD ?_))
  show{Ø,Ø,čd};obtain⟨m,ci,a7,em⟩:∃m:Nat,1<=m/\m<=4/\1+n/4%4=ą1:={{āl,1,n/4%4},Ø,Ø,Ø};rw[em];have(al,a8,aw):=OQ ns a7;show {čB,K,0,m,λj aa H'=>ao H1 H'/\H' D=ò aa/\aa={Ž,Ċa iy ns m,j},{am đ hD,af,()},?_,?_}
  ·intro j aa H2 hj(s2,J,());rw[{ύ,û+Z8=Ď j}];rw[Ŏ,aB (ij (bE ?_)),! !{sc,ns,3,4,(),s2.seq u.sq,Z.len,Ϛ,Ϛ,Z8,dz ns 3 4,(),λH3 s3=>?_},{s3 _ _ J,by rw[b_,j2,gg];show so (XH _ _) (by rw[al];lia),lf hj {bw Ęe hD,af,?_}}];have e:(iy ns m)[j]?={Ù,df Z8 (dz ns 3 4)}:=by unfold iy;rw[g8,ģm hj];rfl
   rw[fk e,hE];rfl
  ·intro aa H2(s2,J,());rw[g6 (Yj al)]at J;show{D,!{ąv,J,λar ba=>aB (oE ?_)}};rw[ĎZ,vF ĈT];have s3:ao H1 {Ō,H2,ar,{Z_,iy ns m}}:=am s2 ba;have ad:aJ H2 ar {ň,{Z_,iy ns m}} ar=ĝ {Z_,iy ns m}:=af;generalize Ō H2 ar {Z_,iy ns m}=H3 at s3 ad⊢;clear J s2 ba hD;show{ls (),λsl a2=>aB (oE ?_)};rw[ĎZ,vF ĈT];have s4:=ăL ŀ s3 a2;have ag:=am (o:=ŀ) (č4 H3) a2 _ _ ad;have bb:=u.same s4;have an:H1 sl=none:=s3.free a2;have ap:aJ H3 sl ŀ sl=ąe:=af;generalize aJ H3 sl ŀ=H4 at s4 ag bb ap⊢;show ! ! r2 {sc,ns,5+čo,7,(),bb.sq,Z.len,ϻ,Ϛ,aB (oE ?_)};rw[ĎZ,vF ĈT];generalize dz ns (5+čo) 7=mr;obtain⟨kk,k8,kt,a3⟩:∃k:Nat,k<=8/\k<=M.trs.length/\(Ā3 čo 8 čo 8)=ë k:={min 8 M.trs.length,Nat.min_le_left _ _,XH _ _,ĐW};rw[Ģ,!{_,! !{by rw[a3];lia,by rw[a3];lia,?_}},a3];have nd:(Ĝz).Nodup:=List.pairwise_reverse.mpr (List.Pairwise.imp (λh=>m_ h) Z.ok.tn);have da:đx (Ĝz).length:=Ē XT b_
   show ēA HC 0 kk {ĘA,ao H1 H',H' ar=ĝ {Z_,iy ns m}/\∃(I:Zv),H' sl=Ăo I.map/\I.Sublist ((Δ).reverse.take i)/\∃v9,σ=[í sc,ĘF,āM n,āM M.trs.length,ĄX {ĉM,dz ns 2 3},ĄX hm,í ar,í sl,āM mr,v9]} {s4,ag,[],ap,ĥl _,_,()} ?_
   ·intro i σ H5 hi(S,l,I,hz,p,v9,())N R B hN;have i8:i<8:=j1 hi k8;have it:ĈN i:=j1 hi kt;rw[Ŏ,aB ?_,!{ls (),λl5 cn=>?_},nz cn λH6 y cx=>?_];have(d,hd,ha):=vM (ns:=[1,4,16,64,256,1024,4096,16384]) (i:=0+Ő) Ø {ĀQ,_<ë 8};have cy:=(ß:∀d∈[ϸ,4,16,64,256,1024,4096,16384],0<d/\čZ d) d hd;show !{l5,_,_,!{(),å cx,ha,_,!{(),cy,_,!{(),{Ĥ,û<4},(),ă}}}};have a5:ì Ĝz=Δ[Ė0 1-i]?:=Ē {Ģh,āo it} b_
    obtain⟨t,ht⟩:∃t,{ğI,Ė0 1-i}=ϒ:={_,fx (so (Nat.sub_le _ _) (Nat.sub_lt (Nat.zero_lt_of_lt it) Nat.one_pos))};rw[g8,ht]at a5;show {ϗ,kz,ĺ,hN _ _ {Ĕ7,y _ _ l,I,y _ _ hz,{Þ,fk a5,{ĎW,ģj _ _}},_,()}};have cG:=u.pl.same Ĕ7;have(v,hv,b,(),hb):=Ak ax (Ė0 1-i) ĢN (by unfold ka;rw[g8,ht];rfl);have G:={Ăh,Ĕ7} _ _ av;have bc:=y _ _ hz;have bi:=g_ p.length_le (z5 _ _);rw[Ŏ,!{à {(),_,å bc},! rX (å cG.pl) ād (! r2 (! r2 ?_))},rX (å G) {Þ,{ύ,čo-1-(0+Ő)={Ď,Ė0 1-i}},aq hv} (rX {þ,Ăh Ĕ7,hb} č ?_),rA bc (by rw[b_,gg];lia) (hN _ _ {bw Ĕ7 an,{Þ,(ay λz=>by rw[z,hz]at l;cases l),y _ _ l},I++[t.nm],by rewrite[af,hE];rfl,?_,_,()})];rw[ó,fk a5,p.append (Y0 _)]
   ·intro σ H5(S,l,I,hz,p,v9,());show oE ?_;rw[ĎZ,vF ĈT];have bt:=u.same S;have c0:={ĎW,X4 _ _}.nodup nd;have bi:=g_ (g_ p.length_le (z5 _ _)) k8;have W:={Ăh,S} _ _ av;have bz:=Ln.kp {υ,Ăh S} ax;rw[ç,! rX (å bt.pl.pl) ād {à {(),_,å W},! !{_,m,(),{ăp,Ł l,Ē b_ al},ls (),λb hb=>?_}},nz hb λH6 y c1=>?_];have G:=y _ _ W;show rA G (by rw[a0,gg];lia) (oE ?_);subst g;have bB:=(bt.pl.same y).addT G (Ln.kp (υ y) bz) (x:=({ĉM,dz ns 2 3},m)) (Ł c1);have kp:Kp H6 {ń,H6,A.T,us++ŝ b}:=ø G;have hk:∀d ob,H6 d=ū->d≠A.T->aJ H6 A.T {ø,us++ŝ b} d=ū:=λd ob e n=>{Þ,ay n,e}
    generalize {ń,H6,A.T,us++ŝ b}=H7 at bB kp hk⊢;have nT:∀{d:Addr},H1 d=none->d≠A.T:=λh z=>Ēm z u.pl.T.choose_spec.1 h
    have b0:=hk _ _ (y _ _ l) (λz=>by rw[z,W]at l;cases l);have c2:=hk _ _ (y _ _ hz) (nT an);rw[ç,! ! ! ! r2 {Ϛ,n/16,3,(),ß,ß,λr rv H8 s8 X ho hh hc=>?_},!{sl,!{ąv,s8 _ _ c2,λsh c3=>{ls (),λdv b8=>?_}}}];obtain⟨ra,rfl⟩:∃ra,rv=ďt:=ĕE X ĸ
    have s9:=š ĖJ H8 c3;have as:aJ H8 sh (ň ĖJ) sh=ĝ ĖJ:=af;generalize Ō H8 sh ĖJ=H9 at s9 as b8⊢;have sa:=š [Āl,á {ĉM,dz ns 2 3},á hm,â ar,ďt,â sh] H9 b8;show q dv (.trial {{ĉM,dz ns 2 3},hm,iy ns m,r,I,false,false,[]}) _ _ {A.T,āh,{Ĕ2,υ {è,Ăh S,y},Ĕ2 kp {υ,è ēP sa}},λd ob e n=>{è,ēP,sa} _ _ (hk d ob ({è,Ăh S,y} _ _ e) n)} Ń ?_ ?_ {ą,{ĆK,iy ns m=iy ns (ō iy ns m),al}} Ī
    ·show .trial {uc _ _,cc,Þ al ci,Þ al a7,a8,aw,ĀQ ąI,bi} (JJ Z.pn a6) {Ł,{è,ēP,sa} _ _ b0} {ė,č0 X.kp s9,sa} {ĀQ,r.cnt<=30} ho (λw hw=>Ls ((dk ():∀w∈WU,Ą Sn w) w hw)) ß {Ł,sa _ _ as} (λz hz=>XI.mp (L_ (p.subset hz))) c0 () () () a6
    ·have:=bB.same (è ēP sa);rw[ó,show xF M (.trial {{ĉM,dz ns 2 3},hm,iy ns m,r,I,false,false,[]})=ka M++[({ĉM,dz ns 2 3},m)]by rw[ēf,ka M++[(_,ō iy ns m)]=_,al],this]
omit e
inductive LR(K:Zp)(vs:Ú)(H:Hp)(Q:VK)(_E:XK):Prop|mk(sc:Addr)(ns:ZA)(M:bJ)(A:HY)(c:Nat)(k n:Int)(_:vs=[â sc,ĘB,Ąm,ăk])(_:Cr K H sc ns M A c)(_:(0<=k/\Ŭ k))(_:ĈN 0)(_:lz K ns M A H Q)
def Cr.tri(h:Cr K H j ns M A c)(h1:H A.T=āZ)(h2:{Đ,Ln K H,d,ka M})(n:Int)(h0:ĈN 0):∃(t:dS)(b:Addr),ăv/\Ci d (n%čD)=í b/\bj K H b [Ż,ã t.arms.length]:=by
 have a:=ř h2;rw[{ĜA,ě ka M,b_ _}]at a;have b:=bS n {ĈP,û<čD,o'28 h0 a};rw[Ą9,{ĈN,Ϟ n čD}]
 have(v,f,g,(),i):=Ak h2 (Ϟ n čD) _ (by unfold ka;rw[g8,fx e];rfl);show{_,g,Yc e,?_,i};rw[ĉy,aq f,{ύ,{Ď,Ϟ n čD}=n%čD}]
section
def Kj(T:ä):aT P w K mg base dw 3 a.xy.x a.xy.d ěD (LR K):=by
 show T.xy.ok qO λag A outer s H vs Q E hr h=>?_
 ·have(sc,ns,M,A,c,k,n,(),r,(k0,k1),h0,q):=h;show{_,(ae (bd 4 qO.nd (gx K (gx K (Y 1) ah) (au bq (Y 3) {Č,aK K (),ac (gx K (Y 1) ah) O}))) (ae (Ai (i:=5) qO.nd () āh (au cu (au cj (gx K (Y 1) ah) ah) ah)) (ae (aN (aE aQ (au bq (au cj (Y 3) ah) ah) ah (aG _)) (ae (bd 6 qO.nd (bh (du K ()) ĕ T.cX L2.bF (ac (ub qH ĖB [] [7] (aj uK) (bW 7) (gO () T.jr (ac (dy K (Y 4) ah) O)) {ν,nO qH ĖB 7,au cu ah (au bq (pc T.f8 (dO T) hr (ac (Y 0) (ac (Y 2) (ac (au cu ah (Y 7)) O)))) ah)}) O))) (ai (az (bo (ac ak (ac (dy K (Y 4) ah) (ac (au bq (pc T.f8 (dO T) hr (ac (Y 0) (ac (Y 2) (ac ah O)))) (au cu (gx K (Y 1) ah) ah)) (ac (Y 6) O)))))))) aF) (ai (az (bo (ac ak (ac (dy K (Y 4) ah) (ac (bh (du K ()) ĕ T.cX L2.bF (ac (ub qH ĖB [] [7] (aj uK) (bW 7) (gO () T.jr (ac (dy K (Y 4) ah) O)) {ν,nO qH ĖB 7,au bq (pc T.f8 (dO T) hr (ac (Y 0) (ac (Y 2) (ac (au cu ah (Y 7)) O)))) (Y 5)}) O)) O))))))))),?_}
  have J:=r.pl;have hp:=r.pn.pr.le;have al:=wg;have(us,L,Z):=J.T;have aa:=ř Z;rw[{ĜA,ě ka M,b_ _}]at aa;have(t,b,B,ad,hb):=r.tri L Z n h0;have a1:=(r.ok.tr t B).a1;have a4:=(r.ok.tr t B).a4;rw[ç,vF λu1 R=>?_,! rX Ğg ād (! ! rX Ğg ād {_,us.length,(),à {_,å L,()},_,!{(),{ē8,û<ë us.length,o'28 h0 aa},A.T,_,_,!{(),å L,ad,aB (oE ?_)}}})];subst R;rw[ç,vF λu1 R=>?_,! rX Ğg č (r2 {Ϛ,_,!{ą,aB (oE ?_)}})];subst R;show xh ?_ (λN hN=>?_)
  rotate_left
  ·(repeat(first|show ă|show r2 ?_|show zzA () ?_|show zzB (cd ()) ?_|show zzC (by first|decide|lia) ?_|show zzD ?_))
   rw[Će,ϗ kz ĺ hN,! rX hb ϕ (!{Ø,Ø,čd}),{čB,K,0,ĔP,λj g H'=>ao H H'/\H' D=ò g/\∃(e:ZA),g=Ć1/\ċy j/\∀x∈e,1<=x/\x<=9,{am đ hD,af,[],(),(),ģy},?_,?_}]
   ·rw[Ģ5,aB (ij (bE ?_))];have b9:=bS (dz ns k (11+(0+Z8))) {Ĥ,û<9};rw[ç,! ! ! r2 {sc,ns,k,11+(0+Z8),(),F.seq r.sq,r.len,ϻ,ϻ,_,!{(),{Ĥ,û<9},_,! āO}},{m,by rw[b_,gg];lia,lf hj {bw F hD,af,e++[1+dz ns k (11+(0+Z8))%9],by rw[hE];rfl,by rw[gV,u];rfl,Ğ8}}];rw[ĉj,l]
    ·show f x z
    ·rw[ĆD];lia
   ·rw[ĥN,{D,!{ąv,m,λG W=>aB ?_}}];have y:=ą8 Ć1 F W;have v:aJ S G (ň Ć1) G=ĝ Ć1:=af;generalize Ō S G Ć1=H3 at y v⊢;have bz:=bS (dz ns k 10) {ύ,û<Ϥ+1};show ! rX (þ y hb) č (! !{sc,ns,k,10,(),y.seq r.sq,r.len,ϻ,Ϛ,! rX {å,y _ _ J.pl} č (r2 (r2 {{ęB,û<Ϥ+1},!{ls (),λdv I=>?_}}))});have X:=š [á "deal",Ż,{ã,dz ns k 10%(Ϥ+1)},â G] H3 I;show q dv (.deal t _ e) _ _ (υ ęC) Ń (.deal B {bz.1,Ø} {Ł,X _ _ v} Ø λx l=>{(f x l).1,ļ (f x l).2}) (J.same ęC) {Ċ9,λx l=>(f x l).2} {ϳ,mu h0}
  ·rw[ĭ,! rX hb č (! rX hb ϕ (!{Ø,Ø,čd})),{čB,K,0,ĔP,λj g H'=>ao H H'/\H' D=ò g/\∃(e:ZA),g=Ć1/\ċy j/\∀x∈e,0<=x/\Ŭ x,{am đ hD,af,[],(),(),ģy},?_,?_}]
   ·rw[Ģ5,aB (ij (bE ?_))];have b9:=bS (dz ns k (11+(0+Z8))) {ύ,û<Ϥ/2+2};rw[ç,! ! ! r2 {sc,ns,k,11+(0+Z8),(),F.seq r.sq,r.len,ϻ,ϻ,! r2 {{ĀQ,û<Ϥ/2+2},?_}},{m,by rw[b_,gg];lia,lf hj {bw F hD,af,e++[dz ns k (11+(0+Z8))%(Ϥ/2+2)],by rw[hE];rfl,by rw[gV,u];rfl,Ğ8}}];rw[ĉj,l]
    ·show f x z
    rw[āW,z,{b9.1,Ø}]
   ·rw[ĥN,{D,!{ąv,m,λG W=>{ls (),λdv I=>?_}}}];have y:=ą8 Ć1 F W;have v:aJ S G (ň Ć1) G=ĝ Ć1:=af;generalize Ō S G Ć1=H3 at y v I⊢;have X:=š [á "share",Ż,â G] H3 I;show q dv (.share t e) _ _ (υ ęC) Ń (.share B {Ł,X _ _ v} Ø λx l=>(f x l).1) (J.same ęC) (λx l=>(f x l).2) {ϳ,mu h0}
omit e
def AY(F G:Prop)(hc:∀Q:ćE,(F->Q true H)->(G->Q false H)->c b H Q)(h1:F->∀N:Ų,ċk t N b H)(h2:G->u D b H):wm (JM c t xG) u D b H:=hc _ (λf=>bE (h1 f _)) λg=>ce (h2 g)
def HJ{c:Prop}[ăS c]{Q:ćE}{H:Hp}(h1:c->Q true H)(h2:¬c->Q false H):Q (Ċ c) H:=by
 by_cases e:c
 rw[Ĺ,ji e,h1 e]
 rw[ų,j_ e,h2 e]
def Xs{te:TE}{g:TG}{u:TS}{D:jx}{d:St}(h1:∀Q:VK,(∀b,Q Āw H)->te d H Q)(h2:∀b,g Āw d H (u D)):wm (Bw te g) u D d H:=h1 _ h2
inductive P0(K:Zp)(vs:Ú)(H:Hp)(Q:VK)(_E:XK):Prop|mk(sc:Addr)(ns:ZA)(M:bJ)(A:HY)(c:Nat)(k:Int)(_:vs=[â sc,ĘB,Ąm])(_:Cr K H sc ns M A c)(_:(0<=k/\Ŭ k))(_:lz K ns M A H Q)
section
def M8(T:ä):aT P w K mg base dw 6 a.Dq.x a.Dq.d ěZ (P0 K):=by
 show T.Dq.ok mP λal A outer s H vs Q E G h=>?_
 ·have(S,ns,M,A,c,k,(),y,(k0,k1),q0):=h;show{_,(ae (bd 3 mP.nd (pc T.f8 (dO T) G (ac (Y 0) (ac (Y 2) (ac ah O))))) (ae (bd 4 mP.nd (au cj (Y 3) ah)) (ae (bd 5 mP.nd (pc T.xB (Kl T) G (ac (au bq (Y 4) ah) (ac (pc T.f8 (dO T) G (ac (Y 0) (ac ah (ac ah O)))) O)))) {ZR,fe (aE aQ {Č,aK K (),ac (gx K (Y 1) ah) O} ah (aG _)) (dI {Ĕl,wF (aE aQ (au bq (Y 3) ah) ah (aG _)) (qQ (aE Fw {Č,aK K (),ac (gx K (Y 1) ah) O} (aD (xl ()) ĕ T.Nk L2.Bg (ac (au cu (gx K (Y 1) ah) ah) (ac ah O))) (aG _)))}),ai (az (pc T.jS (B0 T) G (ac (Y 0) (ac (Y 1) O)))),ae (bd 6 mP.nd (cV (bQ Fw (Y 2) ah (aG _)) (d9 (bQ Fw (au bq (Y 3) ah) ah (aG _))))) {ZR,fe (aE aQ {Č,aK K (),ac (gx K (Y 1) ah) O} ah (aG _)) (dI {Ĕl,wF (aE Fw {Č,aK K (),ac (gx K (Y 1) ah) O} ah (aG _)) (qQ {Ĕl,fe (aY K () (Y 6) Ī) (dI (aE aQ (au bq (Y 3) ah) ah (aG _)))})}),ai (az (pc T.jR (BZ T) G (ac (Y 0) (ac (Y 1) (ac (Y 4) O))))),ae (aN (aE Fw (au bq (Y 3) ah) ah (aG _)) (ai (az (pc T.xy (Kj T) G (ac (Y 0) (ac (Y 1) (ac (Y 2) (ac (Y 4) O))))))) aF) (ae (bd 7 mP.nd (dy K (gx K (gx K (Y 1) ah) (au bq (au cj (Y 4) ah) {Č,aK K (),ac (gx K (Y 1) ah) O})) ah)) (ae (aN (aE aQ (au bq (Y 3) ah) ah (aG _)) (ai (az (bo (ac ak (ac (gx K (gx K (Y 1) ah) (au bq (Y 4) {Č,aK K (),ac (gx K (Y 1) ah) O})) (ac (au bq (au cj (Y 4) ah) (au cu (au cj (gx K (Y 1) ah) ah) ah)) O)))))) aF) (ae (aN (aE aQ (au bq (Y 3) ah) ah (aG _)) (ai (az (bo (ac (gx K (a9 (ac ak (ac ak (ac ak O)))) (au bq (Y 4) ah)) (ac (Y 7) O))))) aF) (ae (aN (aE aQ (au bq (Y 3) ah) ah (aG _)) (ai (az (bo (ac (gx K (a9 (ac ak (ac ak (ac ak (ac ak O))))) (au bq (Y 4) ah)) (ac (Y 7) O))))) aF) (ae (aN (aE aQ (au bq (Y 3) ah) ah (aG _)) (ai (az (bo (ac ak (ac (Y 5) (ac (Y 7) O)))))) aF) (ai (az (bo (ac ak (ac (Y 5) (ac (pc T.xz (Kk T) G (ac (au cj (Y 4) ah) O)) O)))))))))))}}))),?_}
  rw[ç,vF ĖH,! !{S,ns,k,5,(),y.sq,y.len,ϻ,Ϛ,aB (oE ?_)}];subst n;show vF ĖH;have x0:=(QM ns k 5).1;generalize dz ns k 5=x at x0⊢;show ! r2 {Ϛ,aB (oE ?_)};subst n;rw[ç,vF ĖH,! r2 {{Ĥ,û<7},!{S,ns,4,6,(),y.sq,y.len,Ϛ,Ϛ,x/16%7,dz ns 4 6,(),λg H1 s1 hg=>aB (oE ?_)}}];subst n;have R:=y.same s1;have q:=q0.same s1;clear y q0 s1;have i:=R.pl;have hp:=R.pn.pr.le;have(us,D,W):=i.T;have aa:=ř W;rw[{ĜA,ě ka M,b_ _}]at aa;have X:ĈE {čg,fX M}:={āo,b_ _}
  show AY (ąW 4/\{ąW,M.p+1}) (ĈK 0) ĊM (λf N=>?_) ĉ0
  ·rw[Će,! rX ĄH ϥ {_,M.las.length,(),à {_,å i.L,X.symm},(),! kz (λe=>r ϻ) Ă7},! r2 {{Ĥ,û<16},(),!{ϗ,kz,ĺ,u Ø}},! rX ĄH ϥ {_,M.las.length,(),à {_,å i.L,X.symm},! rX ĄH č (r2 {Ϥ+1,4,(),r2 (!{ϗ,HJ,λf=>r ?_,u Ø})})}]
   split at f<;>lia
  ·show ! !{S,ns,M,A,c,(),R,f.1,f.2,q}
  show Xs (λQ h=>?_) (λeb=>aB ?_)
  ·rw[ö,! r2 (!{ϗ,oN,ĺ,h _}),! r2 {{Ĥ,û<16},_,!{ą,h _}}]
  show AY ĎT (ĈN 0) ĊM (λf N=>?_) (λF=>?_)
  ·show ! rX ĄH ād {_,us.length,(),à {_,å D,()},(),! kz (λe=>r Ø) Ă7};have g0:ĈN 0:=Ø
   show ! rX ĄH ād {_,us.length,(),à {_,å D,()},_,!{Čq,oN,Ă7,u g0}};have f:=r Ø;rw[ö,!{eb,(),yR (λ_=>f) ĺ},! r2 {{Ĥ,û<16},(),!{ϗ,HJ,λ_=>f,u g0}}]
  ·show ! ! !{S,ns,M,A,c,x/16,(),R,f,h0,q}
  show AY True True ĊM đm ĺ
  ·show ! r2 {{Ĥ,û<16},_,!{Čq,HJ,ĒO r,čV u}}
  ·show ! ! ! !{S,ns,M,A,c,k,x/16,(),R,(k0,k1,),F,q}
  have(t,b,B,ad,hb):=R.tri D W (x/16/7) F;rw[ç,vF ĖH,! rX ĄH ād (! r2 {Ϛ,! rX ĄH ād {_,us.length,(),à {_,å D,()},_,!{(),{ĀQ,û<ë us.length},A.T,_,_,!{(),å D,ad,rX hb č (aB (oE ?_))}}}})];subst n;show AY True True ĊM đm ĺ
  ·show ! r2 {{Ĥ,û<16},(),!{ϗ,HJ,ĒO r,čV u}}
  ·have an:ėE:=b_ _;have bl:=bS (x/16) {ĈP,û<ë Ĉ2,o'28 h0 an};have bz:=bS (x/16/4) {ύ,û<Ϥ/3+2};have(nm,ag,Z):=lc bl.1 bl.2;have(l,hl,()):=Ķ ag;rw[ç,! rX ĄH ϥ (! ! rX ĄH ϥ {_,Ĉ2,(),à {_,å i.L,Ź b_},_,!{(),{ē8,û<ë Ĉ2,o'28 h0 an},A.L,_,_,!{(),å i.L,Z,?_}}}),! r2 {Ϛ,! rX ĄH č (r2 {Ϛ,_,!{ą,r2 {{ĀQ,û<Ϥ/3+2},ls (),đQ}}})}];have j:=š [á "hold",ĒX,{ã,x/16/4%(Ϥ/3+2)}] H1 m;show q C (ĆX l _) _ _ (υ j) Ń (ĆX hl bz.1) (đZ j) {ĀQ,{Ŭ,x/16/4%(Ϥ/3+2)}} {ϳ,mu F}
  show AY True True ĊM đm ĺ
  ·show ! r2 {{Ĥ,û<16},(),!{ϗ,HJ,ĒO r,čV u}}
  ·rw[ç,{ls (),λl1 I=>?_},nz I λH2 v J=>?_];have bm:=bS (x/16) {Ĥ,û<3};have(z,hz,Z):=ēX ["pause","go","go"] bm.1 bm.2;show ! r2 {{Ĥ,û<3},l1,_,_,!{(),å J,Z,!{ls (),đQ}}};rw[Ģx,š [į,Ż] H2 m];have()||()||():=hz
   ·show q C (Ċ3 t true) _ _ Ďi Ń ęj Ďn trivial {ϳ,mu F}
   all_goals show q C (Ċ3 t false) _ _ Ďi Ń (.go B) Ďn trivial {ϳ,mu F}
  show AY True True ĊM đm ĺ
  ·show ! r2 {{Ĥ,û<16},(),!{ϗ,HJ,ĒO r,čV u}}
  ·rw[ç,{ls (),λl1 I=>?_},nz I λH2 v J=>?_];have bm:=bS (x/16) {Ĥ,û<4};have(z,hz,Z):=ēX ["close","pause","go","go"] bm.1 bm.2;show ! r2 {{Ĥ,û<4},l1,_,_,!{(),å J,Z,!{ls (),đQ}}};rw[Ģx,š [į,Ż] H2 m];have()||()||()||():=hz
   ·show q C ĘY _ _ Ďi Ń (ėX B) Ďn trivial {ϳ,mu F}
   ·show q C (Ċ3 t true) _ _ Ďi Ń ęj Ďn trivial {ϳ,mu F}
   all_goals show q C (Ċ3 t false) _ _ Ďi Ń (.go B) Ďn trivial {ϳ,mu F}
  show AY True True ĊM đm ĺ
  ·show ! r2 {{Ĥ,û<16},(),!{ϗ,HJ,ĒO r,čV u}}
  ·show ! !{ls (),đQ};have j:=š [á "bar",āt,Ż] H1 m;show q C (.bar g t) _ _ (υ j) Ń (.bar hg B) (đZ j) trivial {ϳ,mu F}
  show ! ! r2 {Ϛ,x/16/7,(),λmt ms H2 v hm h3 h4 h5=>{ls (),đQ}};have j:=š [ċa,āt,â mt] H2 m;show q C (.visit g _) _ _ Ďi Ń (.visit hg (ė hm.kp j) h3 h4 h5) Ďn trivial {ϳ,mu F}
omit e
theorem C5:∀b:ċ,Ą (ĈV).all qD|[]=>()|w::r=>by rw[kw,S_,C5 r];rfl
theorem IZ(w:Str):∀b:ċ,Ĉq ăg ĈV↔w∈b
 |[]=>by simp[mI]|u::r=>by
  have a:=IZ w r;unfold mI at a⊢;rw[kw,vl,XQ,a,q_];have:{ķ,O5,á u,ăg}↔w=u:={āJ,Ξ u w↔_,YP,(Eq.symm,Eq.symm,)}
  rw[this]
section
set_option tactic.hygienic true in
theorem uW(T:ä):∀n:Nat,aT P w K mg base dw (n+1) a.eh.x a.eh.d Ā5 (zr K n)
 |0=>by
  show T.eh.f.ok ul ĔT ĠH
  ·rw[ĕY,h]
  ·rw[Ĥ7,h]|n+1=>by
  rw[ęb,uW T n,T.eh.f.ok ul ĔT ĠH]
  ·rw[ĕY,h]
  ·have(r,G,(),hR,hh,h6,hf,q):=h;show{_,(ai (az {Ąw,cg,K,(),ik K (),ak,ac (ub Ā5 Ďf [] [1] (aj pL) (bW 1) (eE K () (Y 0)) {ν,nO Ā5 Ďf 1,qd (aY K () {Āc,dR K (),ac (Y 1) (ac (kj () T.cX L2.bF) O)} Ī) {ă7,ih,W,T.eh.m,T.eh.f.kp,T.eh.b,ac (Y 1) O} (bh eu ĕ T.lW L2.eO (ac (Y 1) O))}) O})),?_}
   have(t,hd,e,g,(),X,o,I,J,L,_):=Af hR hh h6 hf;have aa:=eJ I;have M:{Đ,Gr K H n,á hd::e,hd::g}:={ē,Ąh hd o,I};show{ĥ,é t {_,X} λD Z=>?_};rw[Ę5,∀c,ao H ČJ,λc=>am đ Z,{čJ,dH,K,t,á hd::e,{ćB,c=Đ7,ao H H'/\H' D=ąD},{by rw[oi];rfl,sD _,af},þ Ŗ X,?_}]
   ·intro i v c N hv((),p,j);rw[ā9,i<Ċ0,hv];have(l,R,hp):=lO M i v hv;have u:Đb Ĝ1 i:=by rw[b_,j2,gg,ig];lia
    have fin:∀k,ao N k->k D=ò Đ7/\Đb Ĝ1 i/\∃m',m'<Ċ0-i/\m'=Ċ0-(i+1)/\i+1<=Ċ0/\(Đ7++ĂC l={ĢD,i+1}/\ao H {Ċf,k,Đ7,ĂC l}/\aJ k D {ø,Đ7++ĂC l} D={ò,Đ7++ĂC l}):=λk y=>{y _ _ j,u,lf hi {jB R,bw (ĎW y) Z,af}}
    show aB (ij (bE ?_));cases hp with|str _ hz=>show !{ċh,_,_,false,(),à āu,eS Ý,false,(),ce (!{ďb,l,(),fin _ đ})}|num z hz=>show !{ċh,_,_,false,(),à ı,eS Ý,false,(),ce (! à {é,z,oF hz,fin _ đ})}|rule h1 h2 h3 h4=>rename_i q';have(pt,_,ad,_,(),S,_):=Af (ė h1.kp p) (n:=n) Ø h3 h4;show !{ąK,_,_,{pt,_,(),S,()},eS Ý,bE (!{q',_,(),ė h1.kp p,h2,h3,h4,λk y=>fin k y})}
   ·intro c N((),p,j);rw[g6 (by rw[ig,ig];lia)]at j;show{_,D,!{(),å j,Eg o (qR I) J,?_}};rw[π,L,q N p]
theorem u5(T:ä):∀n:Nat,aT P w K mg base dw (n+1) a.eA.x a.eA.d ĔJ (zr K n)
 |0=>by
  show T.eA.f.ok uv ģ3 Ġu
  ·rw[ĕB,h]
  ·rw[ģD,h]|n+1=>by
  rw[ęb,u5 T n,T.eA.f.ok uv ģ3 Ġu]
  ·rw[ĕB,h]
  ·have(r,rv,(),hR,hh,h6,hf,q):=h;show{_,(ae (aN (aE (qf K ()) (dy K (Y 0) ah) (a9 (ac ak (ac ak (ac ak O)))) ąV) (ai (az {Ąw,cg,K,(),ik K (),ak,ac (au eR (a9 (ac (dy K (Y 0) ah) O)) (ub j9 ĕm [] [1] (aj lM) (bW 1) (eE K () (cp (nX K ()) (Y 0) (cO ah) c9)) {ν,nO j9 ĕm 1,{ă7,ih,hr,T.eA.m,T.eA.f.kp,T.eA.b,ac (Y 1) O}})) O})) aF) (ai (az {Ąw,cg,K,(),ik K (),ak,ac (au eR (a9 (ac (dy K (Y 0) ah) O)) (ub j9 ĕm [] [1] (aj lM) (bW 1) (eE K () (cp (nX K ()) (Y 0) (cO ah) c9)) {ν,nO j9 ĕm 1,bh eu ĕ T.lW L2.eO (ac (Y 1) O)})) O}))),?_}
   have(t,hd,g,j,(),hT,ag,hP,al,an,Z):=Af hR hh h6 hf;have av:=eJ hP;have ax:ėj 2:=Ø
   rw[ç,! rX hT č ?_,{ls (),ĝp}];have s0:=ZI [ZW,ZC,ZB] H hl;have y:¬({Čy,đv g,Ą2}=0/\{Ćd,đv g,đv g,none}=đv g):=by unfold HT.ib;simp
   show{l,!{é,à Z4,C5 Ēx,ă}};generalize ĀE [ZW,ZC,ZB]=H0 at s0⊢;have ap:=IZ hd Ēx;have(hk,hq)||(hk,hq):=Z
   ·rw[Ŏ,yR ĺ (λe=>by rw[Ąk,{ć,mI (á hd) {Z_,(Ēx:Zv)}}];rw[Ā,ap.mpr hk,ăi e]),{ĥ,rX (þ s0 hT) č ?_},{ls (),λR aa=>?_}];have W:=ăL ėB s0 aa;have J:aJ H0 R ėB R=ò Čc:=af;generalize ń H0 R Čc=H1 at W J⊢;rw[Ģ,! !{t,!{þ W hT,y,čQ}},K5];have s2:=š g H1 hp;have B:aJ H1 p (ň g) p=ĝ g:=af;generalize Ō H1 p g=S at s2 B⊢;show Ĉr p {_,Ł B};rw[Ę5,∀c,ao S (ė9 S c),λc=>am đ hD,čJ dH K p g {ćB,c=Ąq,ao S H'/\H' D=ąD} {by rw[oi];rfl,sD _,af} {Ł,Ŗ _ _ B} ?_]
    ·rw[Ĥa,ĒG i,hv];have(I,L,_):=lO hP i v hv;have M:ęF i:=by rw[b_,j2,gg];lia
     have fin:∀G,ao H3 G->G D=ò Ąq/\ęF i/\∃m',m'<ĎU i/\m'={ĎU,i+1}/\i+1<=g.length/\(Ąq++Ċ2={ęU,i+1}/\ao S (Ċf G Ąq Ċ2)/\aJ G D {ø,Ąq++Ċ2} D={ò,Ąq++Ċ2}):=λG s6=>{s6 _ _ u,M,lf hi {jB L,bw (ċV s6) hD,af}}
     show aB (ij (bE ?_));have(q',h1,h2,h3,h4,()):=hq i v I hv L;have sH:={ēx,čO X};show !{q',_,(),ė h1.kp sH,h2,h3,h4,λG s6=>fin G s6}
    ·intro c H3((),X,u);rw[g6 (o'9 av)]at u;have N:=čO X;rw[ç,{R,D,Čc,ĕr,(),(),N _ _ J,u,by rw[b_,gg];simp;lia,λp2 ad=>?_},{_,p2,hd::j,(),(),Z4,Eg ag (qR hP) al,?_}];rw[π,an,q _ (am (ēx N) ad)]
   ·rw[Ŏ,yR (λe=>{ť,ap.mp e,hk}) ĺ,{ĥ,rX (þ s0 hT) č ?_},{ls (),λR aa=>?_}];have W:=ăL ėB s0 aa;have J:aJ H0 R ėB R=ò Čc:=af;generalize ń H0 R Čc=H1 at W J⊢;rw[Ģ,! !{t,!{þ W hT,y,čQ}},K5];have s2:=š g H1 hp;have B:aJ H1 p (ň g) p=ĝ g:=af;generalize Ō H1 p g=S at s2 B⊢;show Ĉr p {_,Ł B};rw[Ę5,∀c,ao S (ė9 S c),λc=>am đ hD,čJ dH K p g {ćB,c=Ąq,ao S H'/\H' D=ąD} {by rw[oi];rfl,sD _,af} {Ł,Ŗ _ _ B} ?_]
    ·rw[Ĥa,ĒG i,hv];have(I,L,_):=lO hP i v hv;have M:ęF i:=by rw[b_,j2,gg];lia
     have fin:∀G,ao H3 G->G D=ò Ąq/\ęF i/\∃m',m'<ĎU i/\m'={ĎU,i+1}/\i+1<=g.length/\(Ąq++Ċ2={ęU,i+1}/\ao S (Ċf G Ąq Ċ2)/\aJ G D {ø,Ąq++Ċ2} D={ò,Ąq++Ċ2}):=λG s6=>{s6 _ _ u,M,lf hi {jB L,bw (ċV s6) hD,af}}
     show aB (ij (bE ?_));have()||(z,(),hz,()):=hq i v I hv L
     ·show !{ďb,I,(),fin _ đ}
     ·show ! à {é,z,oF hz,fin _ đ}
    ·intro c H3((),X,u);rw[g6 (o'9 av)]at u;have N:=čO X;rw[ç,{R,D,Čc,ĕr,(),(),N _ _ J,u,by rw[b_,gg];simp;lia,λp2 ad=>?_},{_,p2,hd::j,(),(),Z4,Eg ag (qR hP) al,?_}];rw[π,an,q _ (am (ēx N) ad)]
omit e
inductive LX(K:Zp)(vs:Ú)(H:Hp)(Q:VK)(_E:XK):Prop|mk(p:Addr)(b:Bool)(xs:Ú)(ts:Zv)(_:vs=ſ)(_:RD K b H p xs)(_:Đ t9 xs ts)(_:Ğr 10)(_:{ϖ,ao H H',Q {á,bO ts} H'})
inductive ES(K:Zp)(vs:Ú)(H:Hp)(Q:VK)(_E:XK):Prop|mk(mv:V)(ms:Ũ)(_:vs=[mv])(_:rQ K H ms mv)(_:ĉ1 10)(_:(∀m∈ms,Gu m))(_:{ϖ,ao H H',Q {á,bO (ms.map sM)} H'})
inductive LP(K:Zp)(vs:Ú)(H:Hp)(Q:VK)(_E:XK):Prop|mk(p:Addr)(xs:Ú)(ts:Zv)(_:vs=ſ)(_:bj K H p xs)(_:{Đ,nK K H,xs,ts})(_:Ğr 10)(_:{ϖ,ao H H',Q {á,ğ ts} H'})
section
def jn(T:ä):aT P w K mg base dw 1 a.fT.x a.fT.d ăM (LX K):=by
 show T.fT.okc DC λH E G h=>?_
 ·have(p,b,j,f,(),k,l,s,q):=h;have m:=eJ l;show{_,(ae (aN (aE aQ {Č,aK K (),ac (Y 0) O} ah (aG _)) (ai (az ak)) aF) (ai (az {Ąw,cg,K,(),ik K (),ak,ac (ub ăM õ [] [1] (aj pM) (bW 1) (ML K () (Y 0)) {ν,nO ăM õ 1,bh eu ĕ T.lW L2.eO (ac (Y 1) O)}) O}))),?_}
  rw[ĭ,!{_,j.length,(),k.len,(),ă},kz ĉ0 ĉ0]
  ·have:f=[]:=Zg Ø;rw[ċo,q H đ]
  ·show ĥ {p,b,(),{_,k},λD u=>?_};have n:∀c,ao H ČJ:=λc=>am đ u;show Rm (K:=K) (b:=b) (a:=p) (xs:=j) {ćB,c=Ž f.take i,H'=ČJ} {œ,by rw[oi];rfl} {ěI,k.same (n _)} ?_ ?_
   ·intro i v c _ o((),());rw[ā9,i<j.length,o];have(y,g,A):=lO l i v o;have e:Đb f.take i:=by rw[b_,j2,gg];lia
    show aB (ij (bE ?_));have((),_)||(z,(),B,()):=A
    ·show ! æ {y,(),af,e,lf hi {jB g,ďV}}
    ·show ! à {z,(),wQ (j1 B Ý),af,e,lf hi {jB g,ďV}}
   ·intro c _((),());show{_,D,f,(),(),?_,OE l s,?_}
    rw[Ĺ,g6 (o'9 m),Z4]
    ·cases f with|nil=>rw[Ā,m,by simp only[E_];lia]|cons t r=>show q _ (n _)
def BR(T:ä):aT P w K mg base dw 2 a.jF.x a.jF.d ċe (ES K):=by
 show T.jF.okc BA λH g t h=>?_
 ·have(M,f,(),u,y,r,q):=h;have(p,g,(),s,z,j):=u;show{_,(ai (az (pc T.fT (jn T) t (ac (ub ċe Ĝj [] [1,2] (aj oh) (A3 _ 1 2) (eE K () (Y 0)) {ν,jk K () () (b7 (nO ċe Ĝj 1) (b7 (nO ċe Ĝj 2) jj)),IH (ox (IG (Y 1)) (ox ak (ox (IG (Y 2)) MH)))}) O)))),?_}
  show !{é,p,{_,s},λD A=>?_};have k:∀c,ao H ČJ:=λc=>am đ A;show {ČV,dH,K,p,g,{ćB,c={Ž,ĉY f.take,sM},H'=ČJ},{œ,by rw[oi];rfl},ěI {þ,k _,s}}
  ·intro i v c _ l((),());rw[ā9,ĒG i,l];have e:ì f={Ù,f[i]'(o'3 z hi)}:=fx (o'3 z hi);generalize f[i]'(o'3 z hi)=m at e;have(b,B,E):=j i m e;rw[B]at l;cases l;have n:=r m (e_ e);have hn:=lU n.2;have Q:=n.1;have F:ēD=1:=Ý
   have G:ę0:=gg.symm;have I:Ļ Str.empty m.1=Ęv m:=Ź rc
   have J:{Ļ,čk m.1,Ăn}=Ęv m+1:=ĀU cA I F
   have R:{Ļ,čk m.1++Ăn,bR m.2}=Ęv m+1+ě bR m.2:=Ē cA J
   have em:čk m.1++Ăn++bR m.2=sM m:=by rw[rc];rfl
   have o:{Ž,ĉY f.take,sM}++{ĂC,čk m.1++Ăn++bR m.2}=Ž {ś,f.take,i+1} sM:=by rw[em,pE e,hE];rfl
   rw[ç,{b,!{é,{þ,k _,E},_,! aB {_,! aB {ą,ij (bE ?_)}}}},! æ {m.1,(),Ø,m.1,(),Ø,!{Ċ9,! à {m.2,(),oF n.2,bR m.2,(),Ø,Ø,af,?_,lf hi {o,ďV}}}}];rw[b_,b_,j2,gg];lia
  ·intro c _((),());show{D,true,_,f.map sM,(),Z4,?_,āo y,λH' L=>q H' {è,k _,L}};rw[ý,g6 (o'9 z),rr,tH r]
def kR(T:ä):aT P w K mg base dw 2 a.fc.x a.fc.d ăM (LP K):=by
 show T.fc.okc zB λH S L h=>?_
 ·have(p,g,c,(),B,o,W,q):=h;have M:=eJ o;show{_,(ai (az {Ąw,cg,K,(),ik K (),ak,ac (ub ăM õ [] [1] (aj mh) (bW 1) (eE K () (Y 0)) {ν,nO ăM õ 1,qd (aY K () {Āc,dR K (),ac (Y 1) (ac (kj () T.cX L2.bF) O)} Ī) (pc T.fT (jn T) L (ac (Y 1) O)) (bh eu ĕ T.lW L2.eO (ac (Y 1) O))}) O})),?_}
  show{ĥ,é p {_,B} λD E=>?_};have N:∀b,ao H ēS:=λb=>am đ E;show {ČV,dH,K,p,g,{ċI,b=Đ2,ao H H'/\H' D=ăs},{by rw[oi];rfl,N _,af},ĐV Ŗ B}
  ·intro i v b r G((),m,e);rw[ā9,ĒG i,G];have(j,s,Q):=lO o i v G;have k:Đb c.take i:=by rw[b_,j2,gg];lia
   have fin:∀f,ao r f->f D=ò Đ2/\Đb c.take i/\∃I,I<ĎU i/\I={ĎU,i+1}/\i+1<=g.length/\(Đ2++ĂC j={ĔQ,i+1}/\ao H {Ċf,f,Đ2,ĂC j}/\aJ f D {ø,Đ2++ĂC j} D={ò,Đ2++ĂC j}):=λf n=>{n _ _ e,k,lf hi {jB s,bw (m.trans n) E,af}}
   show aB (ij (bE ?_));have t||(fs,t,()):=Q
   ·have((),_)||(z,(),R,()):=t
    ·show !{ċh,_,_,false,(),{à,á j},eS Ý,false,(),ce (!{ďb,j,(),fin _ đ})}
    ·show !{ċh,_,_,false,(),à ı,eS Ý,false,(),ce (! à {é,z,wQ (j1 R Ý),fin _ đ})}
   ·have(J,u,(),l,y,A):=ė t.kp m;show !{ąK,_,_,{J,! œ l},eS Ý,bE (!{J,false,u,fs,(),l,y,A,λf n=>fin f n})}
  ·intro b r((),m,e);rw[ą5,g6 (o'9 M),{_,D,c,(),(),å e,vI (kH o) Ø Ø,q r m}]
omit e
section
set_option tactic.hygienic true in
def DX(T:ä):aT P w K mg base dw 8 a.kF.x a.kF.d Ća (L1 K):=by
 show T.kF.okc DF λH vs A h=>?_
 ·have(dv,t,(),hD,q):=h;show{_,(ae (aN (aE aQ (dy K (Y 0) ah) ak (aG _)) (ai (az {Ąw,cg,K,(),ik K (),ak,ac (a9 (ac (pc T.fc (kR T) A (ac (cp (nX K ()) (Y 0) c9 (cO ah)) O)) (ac (pc T.fT (jn T) A (ac (dy K (Y 0) ah) O)) (ac {ă7,(uW T 6).mono ß,A,T.eh.m,T.eh.f.kp,T.eh.b,ac (dy K (Y 0) ah) O} O)))) O})) aF) (ae (aN (aE aQ (dy K (Y 0) ah) ak (aG _)) (ai (az {Ąw,cg,K,(),ik K (),ak,ac (a9 (ac (pc T.fc (kR T) A (ac (cp (nX K ()) (Y 0) c9 (cO ah)) O)) (ac (pc T.jF (BR T) A (ac (dy K (Y 0) ah) O)) O))) O})) aF) (ai (az (pc T.fc (kR T) A (ac (Y 0) O)))))),?_}
  cases hD with|plain h1 h2 h3 h4 s X=>rename_i p hd vs ts;rw[ϯ,! rX h1 č {ĥ,aV h2 ?_},! rX h1 č {ĥ,aV h3 ?_},!{p,_,hd::ts,(),h1,{ē,eD h4,s},by rw[ig];lia,q}]|trial h1 h2 h3 h4 s X J Z=>
   rename_i p n l E G L u C r;rw[ç,! rX h1 () Ť,{ĥ,!{p,!{h1,{Ĥ,¬(Čy 6 none=0/\{Ćd,6,6,Ù 4}=6)},λj v=>?_}}}];have B:={š,Ĉ5 [Āl,Z9,āu,E,G,L] 4,H,v};have i:aJ H j {ň,Ĉ5 [Āl,Z9,āu,E,G,L] 4} j=ĝ [Āl,Z9,āu,E]:=af;generalize {ĀF,j,Ĉ5 [Āl,Z9,āu,E,G,L] 4}=H1 at B i⊢;show{j,_,["trial",n,l,bO u],(),Ł i,{ē,eD Ý,{ē,eD Ø,{μ,eD Ø,{ďb,u,ė h4.kp B,()}}}},Ü,λH2 M=>?_};have c:=ċX M;have(sa,N,(),Q,R,S):=ė s.kp c;show ! rX (Ċd c) () {sa,false,N,C,(),Q,R,S,λH3 V=>?_};have y:=Ćn V;rw[ç,! rX (Ċd y) () {r,G,(),ė X.kp y,J,J,Z,λH4 s4=>?_},{ls (),λW z=>?_}];have e:ğ {ĝg,ğ ["trial",n,l,bO u],bO C}=ğ {Ċ4,n,l,bO u,bO C}:=qY " " "trial" [n,l,bO u] [bO C,r.txt];show{_,W,{ĝg,ğ ["trial",n,l,bO u],bO C},(),(),Z4,?_,?_}
   ·rw[đE,gQ " " ["trial",n,l,bO u],h4.len];have k3:=s.len;have k4:=Ēw Z J;have k5:ĖL=5:=Ý
    rw[aL,aL,aL,aL,eX,ym]at k1;simp only[ig,E_]at k1;show vI (n:=20000) ?_ ß Ü;rw[aL,aL,aL,eX];lia
   rw[ų,e,q _ (am (ģn s4) z)]|visit h1 h2 h3 h4 s=>
   rename_i p g I D;rw[Ŏ,! rX h1 () {ĥ,aV Ý ?_},! rX h1 () Ť,{ĥ,!{p,!{h1,{Ĥ,¬(Čy 3 none=0/\{Ćd,3,3,Ù 2}=3)},λj v=>?_}}}];have B:={š,Ĉ5 [ċa,āt,I] 2,H,v};have i:aJ H j {ň,Ĉ5 [ċa,āt,I] 2} j=ĝ [ċa,āt]:=af;generalize {ĀF,j,Ĉ5 [ċa,āt,I] 2}=H1 at B i⊢;show{j,_,Ę1 g,(),Ł i,{μ,eD Ý,eD Ø},Ü,λH2 M=>?_};have c:=ċX M;rw[ç,! rX (Ċd c) () {I,D,(),ė h3.kp c,h4,s,λH3 V=>?_},{ls (),λW z=>?_}];have e:ğ [{ğ,Ę1 g},bO (D.map sM)]=ğ {Ĕ3,g,bO (D.map sM)}:=qY " " "visit" [g] [bO (D.map sM)];show{_,W,[{ğ,Ę1 g},bO (D.map sM)],(),(),Z4,?_,?_}
   ·rw[đE,gQ " " (Ę1 g),oH s h4];have k5:ĝv=5:=Ý
    rw[aL,aL,eX,ym]at k1;simp only[ig,E_]at k1;show vI (n:=20000) ?_ ß Ü;rw[aL,aL,eX];lia
   rw[ų,e,q _ (am (Ćn V) z)]
omit e
noncomputable def vB(z:Str)(x:Str)(b:Zv):Str:=b.foldl (λr t=>r++z++t) x
def xj{z x:Str}{b:Zv}{i:Nat}{t:Str}(h:ϊ=ϒ):vB z x {Ĉ1,i+1}=vB z x (Ĉ1 i)++z++t:=by unfold vB;rw[ov,h,v_];rfl
theorem A4(z:Str):∀(b:Zv)(x:Str),{ĆS,vB z x b,{Ď5,ky b}+Ėn}|[],x=>by change x.length=_;simp[ky]|t::r,x=>by change{ĆS,vB z (x++z++t) r,_};rw[A4 z r,cA,cA,aL,ig,Nat.add_mul];lia
def CT(b:Zv)(i:Nat):ky (Ĉ1 i)<=ky b:=by induction b generalizing i with|nil=>simp[ky]|cons t r a=>cases i with|zero=>show ku _|succ i=>rw[List.take_succ_cons,aL,aL];rw[Š,a i]
theorem C2(z:Str):∀(b:Zv)(x:Str),vB z x b=ĆH x b|[],x=>()|t::r,x=>{āJ,vB z (x++z++t) r=_,C2 z r,qY z x [t] r}
def TY{b:Zv}(h:ú []):{ćP,vB "," Str.empty b,Ą2}=bO b:=by cases b with|nil=>rw[ąt,h]|cons t r=>have e:=KJ "," t r;change {ćP,(t::r).foldl (λr t=>r++","++t) Str.empty,Ą2}=_;rw[π,e,nW 44 _]
def MY{b:Zv}{i:Nat}(h:Ān 10):ě b.take i<=10:=by rw[j2];lia
section
def oB(T:ä):aT P w K mg base dw 1 a.kD.x a.kD.d ěg (LX K):=by
 show T.kD.okc n9 λH E F h=>?_
 ·have(p,b,m,f,(),o,r,u,q):=h;have g:=eJ r;have y:ę0:=gg.symm;show{_,(ae (aN (aE aQ {Č,aK K (),ac (Y 0) O} ah (aG _)) (ai (az ak)) aF) (ae (bd 1 n9.nd ak) (ae (gn oa () (ML K () (Y 0)) (yD 2 n9.nd) (ai (bd 1 n9.nd (au aC (au aC (Y 1) ak) (bh eu ĕ T.lW L2.eO (ac (Y 2) O)))))) (ai (az (cp wz (Y 1) (cO ah) c9)))))),?_}
  rw[ĭ,!{_,m.length,(),o.len,(),ă},kz ĉ0 ĉ0]
  ·have:f=[]:=Zg Ø;rw[ċo,q H đ]
  ·dsimp only[xG,wm];rw[ç,Lh ?_,!{p,b,(),{_,o},?_}];have c:∀i,{Œ,vB "," Str.empty (f.take i),1010}:=λi=>by rw[Ďk,CT f i,rb r,MY (i:=i) u];rw[A4,UA];rw[ĂX,0+_+_<=_]
   show Um (K:=K) (b:=b) (a:=p) (xs:=m) (λi n H'=>H'=H/\∃s,n=[í p,{ĄX,vB "," Str.empty (f.take i)},s]) {(),_,()} (λi n H' _ h=>ü▸o) ?_ ?_
   ·intro i v n _ A((),s,());have(B,j,t):=lO r i v A;have k:=c i;have C:{Ļ,vB "," Str.empty (f.take i),","}<=1020:=by rw[cA,UA];lia
    have l:=t.len;show aB (!{_,!{(),by rw[UA];lia,?_}});have((),_)||(z,(),D,()):=t
    ·show ! æ {é,B,_,!{(),Ø,(),_,by rw[xj j];rfl}}
    ·show ! à {z,(),wQ (j1 D Ý),_,!{(),by have l:{ϣ,ăP z}<=100:=l;lia,(),_,by rw[xj j];rfl}}
   ·intro n _((),s,());have k:=c m.length;rw[g6 (o'9 g)]at k⊢;rw[ϑ,! ! ! Ċ9 ?_,TY (λe=>by rw[e]at g;show h0 (by rw[g];rfl)),q _ đ]
omit e
def Jx(g m:Str):Ė6++g++ϔ++m={ğ,Ĕ3 g m}:=by
 have e:Ė6=Ę "visit"++ϔ:=Ý
 rw[e];rfl
section
set_option tactic.hygienic true in
def QC(T:ä):aT P w K mg base dw 8 a.Lk.x a.Lk.d ĚF (L1 K):=by
 show T.Lk.okc qP λH e L h=>?_
 ·have(dv,t,(),hD,q):=h;have M:ę0:=gg.symm;show{_,(ae (aN (aE aQ (dy K (Y 0) ah) ak (aG _)) (ae (bd 1 qP.nd (a9 (ac (dy K (Y 0) ah) (ac (dy K (Y 0) ah) (ac (dy K (Y 0) ah) (ac (pc T.kD (oB T) L (ac (dy K (Y 0) ah) O)) (ac (pc T.kD (oB T) L (ac (dy K (Y 0) ah) O)) (ac {ă7,(u5 T 6).mono ß,L,T.eA.m,T.eA.f.kp,T.eA.b,ac (dy K (Y 0) ah) O} O)))))))) (ai (az {Ąw,cg,K,(),ik K (),ak,ac (Y 1) O}))) aF) (ae (aN (aE aQ (dy K (Y 0) ah) ak (aG _)) (ai (az (au aC (au aC (au aC ak (dy K (Y 0) ah)) ak) (pc T.kD (oB T) L (ac (ub ED Ěk [] [4,5] (aj GU) (A3 _ 4 5) (eE K () (dy K (Y 0) ah)) {ν,jk K () () (b7 (nO ED Ěk 4) (b7 (nO ED Ěk 5) jj)),au aC (au aC (Y 4) ak) (bh eu ĕ T.lW L2.eO (ac (Y 5) O))}) O))))) aF) (ae (bd 2 qP.nd (dy K (Y 0) ah)) (ae (gn oa () (eE K () (cp (nX K ()) (Y 0) (cO ah) c9)) (yD 3 qP.nd) (ai (aN (aY K () {Āc,dR K (),ac (Y 3) (ac (kj () T.cX L2.bF) O)} Ī) (ai (bd 2 qP.nd (au aC (au aC (Y 2) ak) (pc T.kD (oB T) L (ac (Y 3) O))))) (ai (bd 2 qP.nd (au aC (au aC (Y 2) ak) (bh eu ĕ T.lW L2.eO (ac (Y 3) O)))))))) (ai (az (Y 2))))))),?_}
  cases hD with|plain h1 h2 h3 h4 u h6=>
   rename_i p hd e N;have a8:=eJ u;rw[Ŏ,! rX h1 č {ĥ,aV h2 ?_},! rX h1 č {ĥ,aV h3 ?_},! rX h1 č ?_];have j:¬(Čy Ċ0 Ą2=0/\Ćd Ċ0 Ċ0 none=Ċ0):=by unfold HT.ib;simp
   rw[Ģ,aB (! !{p,!{h1,j,λQ B=>?_}}),K5];have s1:=š e H B;have E:aJ H Q (ň e) Q=ĝ e:=af;generalize ĀF Q e=H1 at s1 E⊢;have R:∀i,{Œ,vB " " hd (N.take i),10000}:=λi=>by
    rw[đE,CT N i,kH u];have k3:ě N.take i<=5:=by rw[j2];lia
    rw[A4,ym];lia
   rw[Ąn,é Q {_,Ł E} ?_,Ej,K,Q,e,{ĘA,ao H1 H',Vb λv1 v3=>σ=[í p,v1,{ĄX,vB " " hd (N.take i)},v3]},{đ,_,_,()},λi σ H' _ h=>{þ,ü,Ł E}]
   ·intro i v σ H2 S(J,v1,v3,());have(tx,ag,y):=lO u i v S;have W:=R i;have X:{Ļ,vB " " hd (N.take i)," "}<=10010:=by rw[cA,ym];lia
    have Z:=y.len;have s:=Ăh J;have eg:=xj (z:=" ") (x:=hd) ag;show aB ?_;have y||(fs,y,()):=y
    ·have((),_)||(z,(),hz,()):=y
     ·rw[ö,!{ċh,_,_,false,(),{à,á tx},eS Ý,false,(),ce ?_},!{_,!{(),by rw[ym];lia,! æ {é,tx,_,!{(),Ø,J,_,_,by rw[eg];rfl}}}}]
     ·rw[ö,!{ċh,_,_,false,(),à ı,eS Ý,false,(),ce ?_},!{_,!{(),by rw[ym];lia,! à {z,(),wQ (j1 hz Ý),_,!{(),by have Z:{ϣ,ăP z}<=1010:=Z;lia,J,_,_,by rw[eg];rfl}}}}]
    ·have(t2,al,(),ad,B,X):=ė y.kp s;rw[ö,!{ąK,_,_,{t2,! œ ad},eS Ý,bE ?_},!{_,!{(),by rw[ym];lia,!{t2,false,al,fs,(),ad,B,X,λH6 s6=>{_,!{(),Ø,J.trans s6,_,_,by rw[eg];rfl}}}}}]
   ·intro σ H2(J,v1,v3,());rw[ý,g6 (o'9 a8),C2,! q H2 (Ăh J)]|trial h1 h2 h3 h4 u h6 h7 h8=>
   rename_i p n l av rv sv as ss r;show ! rX h1 () Ť;have(aa,an,(),ap,ax,a0):=id h4;show ! rX h1 () (! rX h1 () (! rX h1 () (! rX h1 () {aa,false,an,as,(),ap,ax,a0,λH2 s=>?_})));have(sa,a2,(),a3,a5,M):=ė u.kp s;show ! rX (Ċd s) () {sa,false,a2,ss,(),a3,a5,M,λH3 s3=>?_};have G:=ĎN s3;rw[Ŏ,! rX (Ċd G) () {r,rv,(),ė h6.kp G,h7,h7,h8,λH4 s4=>?_},{ls (),λl1 W=>aB ?_},ĥ {_,l1,{Ċ4,n,l,bO as,bO ss},(),(),Z4,?_,q _ (am (G.trans s4) W)}];have k2:=h4.len;have k3:=u.len;have k4:=Ēw h8 h7;have k5:ĖL=5:=Ý
   show vI (n:=20000) ?_ ß Ü;rw[aL,aL,aL,aL,aL,aL,eX];lia|visit h1 h2 h3 h4 u=>
   rename_i p g mv I;rw[ç,! rX h1 () {ĥ,aV Ý ?_},! rX h1 () Ť];have kv:ϣ "visit "=6:=Ý
   have kg:Ļ Ė6 g<=100:=by rw[cA];lia
   have kb:{Ļ,Ė6++g,ϔ}<=101:=by rw[cA,ym];lia
   show ! rX h1 () {_,!{(),Ø,_,!{(),by rw[ym];lia,?_}}};have(pm,e,(),hT,ba,a6):=h3;show ! rX h1 () {Ĉr,pm,{_,hT}};rw[Ę5,∀c,ao H ČJ,λc=>am đ hD,{ČV,dH,K,pm,e,{ćB,c={Ž,ĉY I.take,sM},H'=ČJ},{œ,by rw[oi];rfl},ěI {þ,sD _,hT}}]
   ·intro i v c _ S((),());rw[ā9,i<e.length,S];have A:ì I={Ù,I[i]'(o'3 ba hi)}:=fx (o'3 ba hi);generalize I[i]'(o'3 ba hi)=m at A;have(b,hb,hB):=a6 i m A;rw[hb]at S;cases S;have y:=u m (e_ A);have hn:{ϣ,ăP m.2}<=32:=lU ZH;have hw:=Ć;have he:ēD=1:=Ý
    have l1:Ļ m.1 Ăn=Ęv m+1:=Ē cA he
    have a7:{Ž,ĉY I.take,sM}++{ĂC,m.1++Ăn++{Ę,ăP m.2}}=Ž {ś,I.take,i+1} sM:=by rw[pE A,hE];rfl
    rw[ç,{b,!{é,{þ,sD _,hB},_,! aB {_,! aB {ą,ij (bE ?_)}}}},!{_,!{(),by rw[he];lia,! à {m.2,(),oF ZH,_,!{(),Ø,af,?_,lf hi {a7,ďV}}}}}];rw[b_,b_,j2,gg];lia
   ·intro c _((),());have km:=oH u h4;show{D,true,_,I.map sM,(),Z4,?_,āo h4,λH' s'=>{_,!{(),Ø,?_}}}
    ·rw[ý,g6 (o'9 ba),rr,tH u]
    rw[ų,Jx,q H' {è,sD _,s'}]
omit e
def AA(h:H b=Û)(n:H b=none):False:=by rw[h]at n;cases n
section
variable{H g:Hp}{M j:bJ}{Z p:ZS}{f:Ú}
def bY.ntup(h:bY P w K a H M Z)(N:gH M Z b):(∀f,H b≠ĝ f)/\∀x y,H b≠{Ù,.frz x y}:=by
 have lst:∀l f,H l=ò f->(∀v,H l≠ĝ v)/\∀x y,H l≠{Ù,.frz x y}:=λl f e=>Þ e {Ů,Ċu}
 have(r,O,())||(i,hi,x,k,e)||(x,k,e):=N
 ·have(o,q):=qV P w a Z O;rw[ē9,(h.imm (H':=λb=>{ď,b,āp,none,H b}) q λb o e n=>{āJ,{ď,b,āp,none,H b}=_,hF n,e}).kp,{λf e=>?_,λx y e=>?_}]
  ·rw[čU,im.tp _ _ e,hY ()]
  ·have(_,this):=im.fz _ _ {_,e};rw[hY ()]at this;rw[ćg]
 ·have(_,(m,q,_),_):=h.tabs i _ (fx hi);have(l,f,s,u):=q.ex x k;rw[ĄN,s,e,lst _ _ u]
 ·have(l,f,s,u):=h.came.ex x k;rw[ĄN,s,e,lst _ _ u]
def bY.stp(h:bY P w K a H M Z)(st:iF H M Z g j p):Kp H g:={λu f e=>st.fr _ _ e λz=>(h.ntup z).1 _ e,λu o⟨b,e⟩=>{b,st.fr _ _ e λz=>(h.ntup z).2 _ _ e}}
def iF.nf(st:iF H M Z g j p)(e:H b=Û)(n:¬gH M Z b):¬gH j p b:=λz=>(st.fp b z).elim n (AA e)
omit e
def uU{s:Str}{n:Nat}{x:Str}(h:oU s n x)(hn:n<=40):ā1 40:=g_ h.hi hn
def EM{z:Int}(h:-bg<=z/\z<=bg):t9 ı (bR z):=æ {é,z,j1 (ve h) Ý,()}
def sW{z:Int}(h:0<=z)(h1:Ŭ z):t9 ı (bR z):=EM {ČG,ČG}
def zp{b:Zv}(h:∀x∈b,Wd x):Ąg t9 ĈV:=by induction b with|nil=>rw[Z5]|cons x r a=>show {ē,{ćV,g_ (uU (h x f_) ß) ß},a λy c=>h y (fy _ c)}
def AW{b:ZA}(h:∀x∈b,-bg<=x/\x<=bg):{Đ,t9,ο b.map,Ϯ bR}:=by induction b with|nil=>rw[Z5]|cons x r a=>show {ē,EM (h x f_),a λy c=>h y (fy _ c)}
theorem fK.len{v:V}{t:Str}(h:fK K H v t):ćn 20000:=by
 cases h with|@plain p hd m b h1 h2 h3 h4 a c=>rw[đE,gQ " " (hd::b),kH a];rw[ym,aL,ig]at k1;lia|@trial p n l o q s d e r h1 h2 h3 h4 a c f i=>
  have:=gQ " " {Ċ4,n,l,bO d,bO e};have k2:=h4.len;have u:=a.len;have w:=Ēw i f;have j:ĖL=5:=Ý
  rw[ym,aL,aL,aL,aL,aL,aL,eX]at this;rw[čR]|@visit p g x k h1 h2 h3 h4 a=>
  have:=gQ " " {Ĕ3,g,bO (k.map sM)};have k2:=oH a h4;have j:ĝv=5:=Ý
  rw[ym,aL,aL,aL,eX]at this;rw[čR]
noncomputable def pk(p:Nat)(sa:Int):Str:=Đu++bR p++ϔ++bR sa
def lf1:ϣ "\n"=1:=Ý
structure qJ(K:Zp)(H:Hp)(M:bJ)(Z:ZS)(rs:Zv):Prop where
 rows:{Đ,fK K H,Z.ds,rs}
 len:rs.length<=63
 sa:0<=M.salt/\M.salt<=bg
theorem qJ.kp{M:bJ}{Z:ZS}{b:Zv}(h:qJ K H M Z b)(e:Kp H H'):qJ K H' M Z b:={{ăO,h.rows,q.kp e},h.len,h.sa}
def Ms{d:Ú}{b:Zv}(h:{Ąg,fK K H,d}):ky b<=Ďo 20000:=by induction h with|nil=>show eH _|cons r t a=>have:=r.len;rw[aL,ig];lia
def wG{p:Nat}(h:p<=997):-bg<=ë p/\ë p<=bg:={ČG,ČG}
def F5{p:Nat}{sa:Int}(h:p<=997)(b:0<=sa/\sa<=bg):{Ļ,Đu,bR p}<=40/\{Ļ,Đu++bR p,ϔ}<=41/\ō pk p sa<=80:=by
 have k1:ϣ "house "=6:=Ý
 have k2:=lU (wG h);have a:=lU (n:=sa) {ČG,b.2};unfold pk;simp only[cA,ym,k1];lia
def qJ.ok{M:bJ}{Z:ZS}{b:Zv}(h:qJ K H M Z b)(d:M.p<=997):{Ďl,"\n",ĉQ::b}:=by show vy ?_;rw[Ďk,Ms h.rows,h.len,(F5 d h.sa).2.2];rw[aL,lf1,ig];lia
inductive LS(P:Zu)(w:World)(K:Zp)(a:ja)(vs:Ú)(H:Hp)(Q:VK)(_E:XK):Prop|mk(M:bJ)(Z:ZS)(c:Nat)(_:vs=[Ϧ])(_:cK P w K a H M Z c)(_:Q ĉu H)
inductive PD(P:Zu)(w:World)(K:Zp)(a:ja)(vs:Ú)(H:Hp)(Q:VK)(_E:XK):Prop|mk(M:bJ)(Z:ZS)(c:Nat)(_:vs=[Ϧ])(_:cK P w K a H M Z c)(_:Q ĝt H)
inductive S8(P:Zu)(w:World)(K:Zp)(a:ja)(vs:Ú)(H:Hp)(Q:VK)(_E:XK):Prop|mk(M:bJ)(Z:ZS)(c:Nat)(_:vs=[Ϧ])(_:cK P w K a H M Z c)(_:{ğ1,ao H H',H' r=ĘE->Ă2})
inductive PX(P:Zu)(w:World)(K:Zp)(a:ja)(vs:Ú)(H:Hp)(Q:VK)(_E:XK):Prop|mk(M:bJ)(Z:ZS)(c:Nat)(rs:Zv)(_:vs=[Ϧ])(_:cK P w K a H M Z c)(_:qJ K H M Z rs)(_:{ϖ,ao H H',Q {á,{Āh,"\n",ĉQ::rs}} H'})
section
def qm(T:ä):aT P w K mg base dw 1 a.eP.x a.eP.d Āo (LS P w K a):=by
 show T.eP.okc zO ěP
 ·rw[ěw,h,{_,(ai (az (aO K () (Y 0)))),?_},jh b.g.house T.aH T.cC () () q]
def B4(T:ä):aT P w K mg base dw 1 a.iN.x a.iN.d Āo (PD P w K a):=by
 show T.iN.okc BI ěP
 ·rw[ěw,h,{_,(ai (az (aO K () (Y 0)))),?_},jh b.g.house T.aH T.jq () () q]
def B6(T:ä):aT P w K mg base dw 1 a.iP.x a.iP.d Āo (S8 P w K a):=by
 show T.iP.okc BJ λH f i h=>?_
 ·rw[ěw,h,{_,(ai (az (bh (tX K ()) ĕ T.D3 L2.rh (ac (aO K () (Y 0)) O)))),?_},jh b.g.house T.aH T.kW () () {ĄT,!{ċZ b.g.dees,λl e=>q l _ (am ϐ e) af}}]
def BS(T:ä):aT P w K mg base dw 10 a.jH.x a.jH.d Ğ3 (PX P w K a):=by
 show T.jH.okc l7 λH vs i h=>?_
 ·have(M,Z,c,t,(),n,j,q):=h;show{_,(ae (bd 1 l7.nd (ng (Y 0) T.aH T.eP.m (Ņ qm) i T.eP.b .nil bI)) (ae (bd 2 l7.nd (ng (Y 0) T.aH T.iN.m (Ņ B4) i T.iN.b .nil bI)) (ai (az {Ąw,cg,K,(),ik K (),ak,ac (au eR (a9 (ac (IH (ox ak (ox (IG (Y 1)) (ox ak (ox (IG (Y 2)) MH))))) O)) (ub oW Ća [] [3] (aj om) (bW 3) (eF K () (ng (Y 0) T.aH T.iP.m (Ņ B6) i T.iP.b .nil bI)) {ν,nO oW Ća 3,pc T.kF (DX T) i (ac (Y 3) O)})) O})))),?_}
  have u:=n.g.house;have y:=n.ok.p;have R:ę0:=gg.symm;(rw[ċi,mm u () () {M,Z,c,(),n,aB (oE ?_)}]);have hh:=F5 ZH j.sa;have z:-bg<=M.salt/\M.salt<=bg:={by rw[Čz,fQ,j.sa.1],j.sa.2};have l:ďZ=Đu:=rc _;have k0:ϣ "house "=6:=Ý
  show ĥ {by rw[l];lia,! à {é,M.p,oF (wG ZH),!{(?_:ĩ {Ļ,ďZ,bR M.p}),!{(?_:ĩ {Ļ,ďZ++bR M.p,ϔ}),! à {é,M.salt,oF z,!{(?_:ĩ {Ļ,ďZ++bR M.p++ϔ,bR M.salt}),(?_:ĩ {Ļ,ďZ++bR M.p++ϔ,bR M.salt}),?_}}}}}}
  ·rw[l];lia
  ·rw[l];lia
  ·rw[l];have:=hh.2.2;unfold pk at this;lia
  ·rw[l];have:=hh.2.2;unfold pk at this;lia
  rw[{Ĩ,ďZ++{Ę,ăP Ϥ}++ϔ++{Ę,ăP M.salt},ĉQ,by rw[l];rfl}];rw[Ŏ,{ls (),λS A=>?_},nz A λH1 s B=>?_,mm (s _ _ u) () () {M,Z,c,(),n.same s,λr W E i=>?_}];have X:=ř j.rows;have G:={ė,j.kp,ĎN E}.rows;have aa:=j.len;rw[Ąn,é r {_,å i} λD L=>?_,gU,K,r,Z.ds,λk e H'=>e=Ž t.take k/\ao W H'/\H' D=ò e,{by rw[oi];rfl,am đ L,af},λk e H' _ h=>{å,Ŗ _ _ i}]
  ·intro k v e H3 N((),o,f);have hk:=ŷ N;have(tx,I,hd):=ĂS G k v N;show aB (ij (bE (!{v,tx,(),ė hd.kp o,λH6 Q=>{Q _ _ f,by rw[b_,j2,gg];lia,lf hk {jB I,bw (đX Q) L,af}}})))
  ·intro e H3((),o,f);rw[g6 (o'9 X)]at f;rw[ö,{S,D,ψ ĉQ,Ş t.map,(),(),o _ _ (E _ _ B),f,by rw[b_,gg];simp;lia,λp2 J=>?_},{_,p2,ĉQ::t,(),(),Z4,j.ok ZH,q _ (am {è,ĎN E,o} J)}]
omit e
def Il{d:Type}{b:Ϸ}{x y:d}{i:Nat}(h:{ì,b++[x]}=ϵ):ϊ=ϵ\/(Ām i/\y=x):=by
 have z||z:=đe Yi i
 rw[Ř,{Ă,h,ĂU rl z}]
 ·rw[vu z]at h;have(a,c):=ąO h;have a:Ęm i<1:=a;obtain rfl:Ām i:=Ø
  simp only[Nat.sub_self,List.getElem_cons_zero]at c;rw[Ĉ,ą c.symm]
section
variable{ns:ZA}{M b:bJ}{d:Dd}
def Dd.na(h:ćm):yc M d=fX M/\xF M d=ka M:=by cases d<;>first|show Λ|cases h
def jA.keep(h:jA ns M)(e:b.p=M.p)(m:b.salt=M.salt)(f:b.las.map ėK=Đd ėK)(g:b.trs.map ėQ=Ĕg ėQ):jA ns b/\b.p=M.p/\b.salt=M.salt/\fX b=fX M/\ka b=ka M:=by
 have a1:∀N:bJ,fX N={ś,N.las.map,ėK} Prod.fst:=λN=>by rw[rr];rfl
 have a:∀N:bJ,ka N={ś,N.trs.map,ėQ} λx=>(ï,(ŕ).length):=λN=>by rw[rr];rfl
 have c:ĈE b.las.length:=by rw[ćh,đH m6 f,b_,b_];rw[ċO]
 show{{λi l k=>?_,λj t n=>?_,Ŝ c e h.lp,Þ e h.pr},e,m,ĀU a1 a1 f,ĀU a a g}
 ·have q:{ì,Đd ėK}=āe l.nm l.sl:=by rw[<-f,g8,k];rfl
  rw[g8]at q;have(o,h0,q):=āy q;rw[<-(J_ q).1,<-(J_ q).2,e];show h.ln i o h0
 ·have q:(Ĕg ėQ)[j]?=āe t.nm t.arms:=by rw[<-g,g8,n];rfl
  rw[g8]at q;have(r,h0,q):=āy q;rw[ĉb,(J_ q).1,(J_ q).2,h.tn j r h0]
def hU.nx(h:jA ns M)(n:hU M d b)(f:HX ns M d):jA ns b/\b.p=M.p/\b.salt=M.salt/\fX b=yc M d/\ka b=xF M d:=by cases n with
 |@layer nm sl=>
  have(g,k,m):=f;show{{λi l a=>?_,h.tn,?_,h.pr},(),(),hE,()}
  ·have a||((),()):=Il a
   ·show h.ln i l a
   ·show(g,k,)
  ·rw[ā5,ĘJ [_]<=M.p+1,gV,m]|@trial x=>
  show{{h.ln,λj t e=>?_,h.lp,h.pr},(),(),(),hE};have e||((),()):=Il e
  ·show h.tn j t e
  ·show f|share a hh hn=>show h.keep () () (fN a _ ()) ()|deal a hh hn=>show h.keep () () (fN a _ ()) ()|hold a=>show h.keep () () (fN a _ ()) ()|pause c=>show h.keep () () () (fN c _ ())|close c a hh=>show h.keep () () (fN a _ ()) (fN c _ ())|bar c a hh=>show h.keep () () (fN a _ ()) (fN c _ ())|visit o v=>show h.keep v.p v.salt (by rw[v.las,rr];rfl) (Ź v.trs)
omit e
structure Gy(P:Zu)(w:World)(K:Zp)(a:ja)(H0 H:Hp)(ns:ZA)(M:bJ)(Z:ZS)(A:HY)(c:Nat)(ls:Zv)(ts:Č9):Prop where
 z:cK P w K a H M Z c
 pl:t5 K H M.p M.salt ls ts A
 pn:jA ns M
 f1:¬gH M Z A.pl
 f2:¬gH M Z A.L
 f3:¬gH M Z A.T
 bs:{ê,H0 b=Û,H b=Û/\¬gH M Z b/\ú A.L/\ú A.T}
section
variable{f H j m:Hp}{M i:bJ}{Z t:ZS}{ns:ZA}{A:HY}{y:Addr}{c:Nat}{ls r:Zv}{u q:Č9}{d:Dd}
theorem Gy.same(h:Gy P w K a f H ns M Z A c ls u)(s:ao H j):Gy P w K a f j ns M Z A c ls u:={Ěf,h.z.same s,h.pl.same s,{s _ _ (h.bs b o e).1,(h.bs b o e).2}}
def Gy.dr(h:Gy P w K a f H ns M Z A c (fX M) (ka M))(sq:aZ K f y Ŷ)(l:ČM):Cr K H y ns M A c:={ao.seq {ċs,h.bs b o e} sq,l,h.pl,h.z.ok,h.pn,λj g=>ao.seq {ĆQ,g,_,_,(h.bs b o e).1,(h.bs b o e).2.2.1} sq}
def Gy.chg(h:Gy P w K a f H ns M Z A c ls u)(B:WL A H j)(n:t5 K j M.p M.salt r q A):Gy P w K a f j ns M Z A c r q:=by
 have(o,l,kp,k):=B;have()||():=l
 ·show Ěf {h.z with g:=h.z.g.out h.f2 kp k} n {k _ _ (h.bs b o e).1 (h.bs b o e).2.2.1,(h.bs b o e).2}
 ·show Ěf {h.z with g:=h.z.g.out h.f3 kp k} n {k _ _ (h.bs b o e).1 (h.bs b o e).2.2.2,(h.bs b o e).2}
def Gy.fin(h:Gy P w K a f H ns M Z A c (yc M d) (xF M d))(n:hU M d i)(st:iF H M Z m i t)(p:cK P w K a m i t (c+1))(B:HX ns M d):Gy P w K a f m ns i t A (c+1) (fX i) (ka i):=by
 have kp:=h.z.g.stp st;have(s,v,x,C,D):=n.nx h.pn B;have(E,k,l):=h.pl.T;show{p,?_,s,st.nf h.pl.pl h.f1,st.nf h.pl.L h.f2,st.nf k h.f3,čA}
 ·rw[v,x,C,D];show{st.fr _ _ h.pl.pl h.f1,st.fr _ _ h.pl.L h.f2,{E,st.fr _ _ k h.f3,Ln.kp kp l},h.pl.n1,h.pl.n2,h.pl.n3}
 ·have(b1,b2,b3):=h.bs b o e;show{st.fr _ _ b1 b2,st.nf b1 b2,b3}
def Gy.not(h:Gy P w K a f H ns M Z A c (yc M d) (xF M d))(hd:ćm)(s:ao H m):Gy P w K a f m ns M Z A (c+1) (fX M) (ka M):=by have(b,e):=Dd.na (M:=M) hd;rw[b,e]at h;show{h.same s with z:=(h.same s).z.mono (sT c)}
omit e
noncomputable def xi(p:Nat)(sa:Int):bJ:={p,sa,[],[],[]}
noncomputable def Hy(h ln tn b dl dx:Addr):ZS:={λr=>match r with|.hh=>h|.ln=>ln|.tn=>tn|.ci=>b|_=>dl,λ_=>dx,[],[],Ęz,Ęz,Ęz,λ_=>dx,λ_=> .non,λ_=>dx}
def AD{x y:Addr}{o b:HO}(d:H x=Û)(e:H y=ăr)(n:o≠b):x≠y:={ÿ,n,i_ (d.symm.trans {è,m6 H z,e})}
section
variable{H:Hp}{p:Nat}{sa:Int}{h ln tn d dl dx:Addr}
def Ra(b:2<=p/\p<=997):oY (xi p sa) 0:={b,.nil,.nil,λl c=>(nomatch c),Ģw,Ģp,ku _,ku _,ku _,Ģw}
def N1(hh:H h=Ār a.cf [{Ėz,ã p},{ėc,ã sa},ĥS ln,ĥT tn,ϱ "came_into" d,ϱ "deeds" dl])(m:H ln=Ą7)(n:H tn=Ą7)(u:H d=Ą7)(j:H dl=ąe)(n1:ln≠tn)(n2:ln≠d)(n3:tn≠d):bY P w K a H (xi p sa) (Hy h ln tn d dl dx):=by
 have at_:∀r o,cont P w a (xi p sa) (Hy h ln tn d dl dx) r=Û->H ((Hy h ln tn d dl dx).G r)=Û:=λr o e=>by cases r<;>first|(rw[Ι,i_,e];assumption)|cases e
 have iv:∀r o,cont P w a (xi p sa) (Hy h ln tn d dl dx) r=Û->(λb=>{ď,b,ln,Ro.ln,ď b tn .tn {ď,b,d,.ci,ď b dl .dl .hh}}) ((Hy h ln tn d dl dx).G r)=r:=λr o e=>by
  cases r
  ·show{ĎQ,hF (AD hh m āN),hF (AD hh n āN),{è,hF (AD hh u āN),hF (AD hh j āN)}}
  ·show hY ()
  ·show{è,hF n1.symm,hY ()}
  ·show{ĎQ,hF n2.symm,hF n3.symm,hY ()}
  ·show{ĎQ,hF (AD j m āN),hF (AD j n āN),{è,hF (AD j u āN),hY ()}}
  all_goals cases e
 show{λr k o s e v q=>by rw[<-iv r o e,q];show iv k s v,at_,ġN,λi t x=>(nomatch x),ġN,.nil}
def Oe(j:gH (xi p sa) (Hy h ln tn d dl dx) b):b=h\/b=ln\/b=tn\/b=d\/b=dl:=by
 have(r,a,e)||(i,hi,_)||(x,c,_):=j
 ·cases r
  rw[Ř,e]
  ·rw[Ĉ,ďD]
  ·show θ ďD
  ·show {θ,Ćk e}
  ·show {θ,θ e}
  all_goals cases a
 ·cases hi
 ·cases c
omit e
theorem wb:∀{l:Zv},ą9->ĀY t9 Ăe|[],_=> .nil|x::r,h=>{ē,{ćV,g_ (h x f_).hi ß},wb λy a=>h y (fy _ a)}
theorem Az:∀{l:ZA},UN l->Đ t9 ĂN Čb|[],_=> .nil|x::r,h=>{ē,æ {é,x,j1 (h x f_).2 Ý,()},Az λy a=>h y (fy _ a)}
def LA{f:Str}{t:Th}{v:V}(g:lB f t)(j:f≠"marks")(h:mB K H t v):nK K H v t.txt:=by
 have h0:=g;have(w,(),_)||(i,(),hi,_)||(l,(),b,hn,_)||(l,(),b,hn,_)||(l,(),b,hn,e):=g.kinds
 ·cases h;show eD ?_;cases h0 with|word c=>show g_ c.hi ß|guest c=>show g_ c.hi ß
 ·rw[ā,h,{à,æ {é,i,j1 hi Ý,()}}]
 ·have(a,(),d):=h;rw[Ĉ,{l,{a,!{d,wb b,hn}},()}]
 ·have(a,(),d):=h;rw[Ĉ,{Čb,{a,!{d,Az b,āo hn}},()}]
 ·rw[Ā,e,j]
theorem zm:∀{fs:Zv}{b:Μ}{d:Ú},Ąg lB fs->(∀f∈fs,f≠"marks")->{Đ,mB K H,b,d}->{Đ,nK K H,d,Ϯ Th.txt}|_,_,_,.nil,_,.nil=> .nil|_,_,_,.cons o t,h,.cons a r=>{ē,LA o (h _ f_) a,zm t (λf c=>h f (fy _ c)) r}
theorem KF.marks{k:Str}{fs:Zv}(h:KF k fs):(k="visit"/\fs=([Ę "guest",Ę "marks"]:Zv))\/(k≠"visit"/\∀f∈fs,f≠"marks"):=by cases h with|visit=>rw[ţ,Λ]|_=>rw[Ĉ,{Ý,Ý}]
def EH{f:Str}{l:Zv}{v:V}(b:lB f (.ws l))(h:mB K H (.ws l) v):vV K H v l:=by
 have c:ą9/\η 10:=by cases b with|arms h1 _ _ h2=>show{h1,Ø}|shuts h1 _ h2=>show{h1,Ø}
 have(a,(),d):=h;have(e,hn):=c;show{a,!{d,wb e,hn}}
set_option tactic.hygienic true in
def Ri{d:HW}{v:V}(i:O3 d)(h:Lj K H d v):fK K H v d.txt:=by
 cases i with|plain f a=>
  rename_i k fs j;have(k1,k2,u,w,x):=f.facts;have(p,y,(),c,b):=h;have z:=eJ a;have((),())||(kv,kf):=f.marks
  ·cases a with|cons l a=>cases a with|cons n a=>cases a;cases l with|guest hg=>cases n with|marks g A B=>cases b with|cons a1 b=>cases b with|cons e b=>rw[ą6,b,a1,.visit c (g_ hg.hi ß) e Ø (λm hm=>{g_ (g m hm).1.hi ß,(g m hm).2})]
  ·show .plain c k1 kv Ø (zm a kf b) (by rw[b_];lia)|trial o q r s hg=>have(p,C,D,E,(),c,a1,e,t):=h;show .trial c (g_ o.hi ß) (g_ q.hi ß) (EH r a1) (EH s e) t hg.hgt hg.fit
def JF(n l x y:Str)(r:Ru):{ğ,Ċ4 n l x y}=ğ {ēs,n::l::x::y::r.toks}:=by change {ğ,([đC,n,l,x,y]:Zv)++[r.txt]}={ğ,ģo ([đC,n,l,x,y]:Zv)};rw[nE " " Ü Ü,nE " " Ü r.toks_ne,<-r.txt_toks];rfl
def Sk.th:∀{f:Fo}{t:Th},Sk f t->lB f.s t|.word,.s _,h=> .word h|.guest,.s _,h=> .guest h|.count,.n _,h=> .count ü Ŕ|.total,.n _,h=> .total ü Ŕ|.arms,.ws _,h=> .arms ü Ŗ ĀA.1 ĀA.2|.shuts,.ws _,h=> .shuts ü Ŗ ĀA|.counts,.ns _,h=> .counts ü Ŗ ĀA|.weights,.ns _,h=> .weights ü Ŗ ĀA|.marks,.ms _,h=> .marks ü Ŗ ĀA
def rp.ok{fs:Ū}{xs:Zv}{b:Μ}(h:rp fs xs b):{Ąg,lB,fs.map Fo.s}:=by induction h with|nil=>rw[Z5]|cons h _ a=>show ē (ü).th a
def sV.kf{k:Str}{fs:Ū}(h:sV k fs):KF k (fs.map Fo.s):=by cases h with|layer=>show .layer|share=>show .share|deal=>show .deal|hold=>show .hold|pause=>show .pause|go=>show .go|close=>show .close|bar=>show .bar|visit=>show .visit
def Ru.Fm.ok{d:Zv}{r:Ru}:r.Fm->(ěS w d)->j8 d r:=by induction r with|any=>show λ_ _=> .any|has w=>show λ_ h=> .has (h w f_)|least w n=>show λf h=> .least (h w f_) f.2.1 f.2.2|not q e=>show λf h=> .not (e f h)|both q r b c=>show λf h=> .both (b f.1 λw a=>h w ėD) (c f.2 λw a=>h w (Čp a))|either q r b c=>show λf h=>{Či,b f.1 λw a=>h w ėD,c f.2 λw a=>h w (Čp a)}
def Ru.Fm.wd{r:Ru}:r.Fm->∀w∈r.words,Wd w:=by induction r with|any=>show λ_ w h=>nomatch h|has v=>intro f w h;rw[ó,Ň h,f]|least v n=>intro f w h;rw[ó,Ň h,f.1]|not q c=>show c|both q r a b=>show λf w h=>{Ăp,h} (a f.1 w) (b f.2 w)|either q r a b=>show λf w h=>{Ăp,h} (a f.1 w) (b f.2 w)
def xu.good{b:Zv}{r:Ru}(h:xu b r):Ez r.wset r:={Ŗ,ĀA.2.1,ĀA.1.ok λ_ a=>TR a,λw a=>ĀA.1.wd w (Ox a),ĀA.2.2}
theorem mH.ok{xs:Zv}{d:HW}(h:mH xs d):O3 d:=by cases h with|plain h t=>show Ϡ h.kf t.ok|trial t h=>have o:=t.ok;cases t with|cons a t=>cases t with|cons b t=>cases t with|cons c t=>cases t with|cons e t=>show .trial a.1 b.1 c.1.th e.1.th h.good
theorem xr.one{f:Fo}{x:Str}{t u:Th}(h:xr f x t)(k:xr f x u):t=u:=by have(h1,()):=h;have(k1,k2):=k;have q:=Vl.of k1;rw[Ăs,k2,(Vl.of h1).one q]
theorem rp.one{fs:Ū}{xs:Zv}{d:Μ}(h:rp fs xs d):∀{b:Μ},rp fs xs b->d=b:=by induction h with|nil=>intro b k;cases k;rfl|cons h _ a=>intro b k;cases k with|cons k1 k2=>rw[h.one k1,a k2]
theorem xu.nb{b:Zv}{r:Ru}(h:xu b r):r.Nb:=ĀA.1.nb
theorem mH.one{xs:Zv}{d e:HW}(h:mH xs d)(k:mH xs e):d=e:=by
 have(k1,y,(),_,f,g):=h.inv;have(k2,A,i,_,j,m):=k.inv;have((),()):=il i
 by_cases z:k1="trial"
 ·have(n,l,B,C,D,to,r,(),h1,h2,()):=g z;have(E,F,o,p,q,s,t,u,a,b,()):=m z;have((),()):=List.append_inj u (è ĞT a.len.1.symm);have:=h1.one a;cases this;have v:r.toks++[]=t.toks++[]:=by rw[<-h2.1,<-b.1]
  rw[(Ru.toks_inj h2.nb b.nb v).1]
 ·have(fs,w,f1,h1,()):=f z;have(x,c,f2,h2,()):=j z;obtain rfl:=f1.one f2 ();rw[h1.one h2]
noncomputable def Dd.rd:Dd->HW|.layer nm sl=>Ϡ "layer" [.s nm,.n sl]|.trial x=> .trial x.nm x.home x.arms x.shuts x.rule|.share t ns=>Ϡ "share" [.s t.nm,.ns ns]|.deal t z a=>Ϡ "deal" [.s t.nm,.n z,.ns a]|.hold l z=>Ϡ "hold" [.s l.nm,.n z]|.pause t b=>{Ϡ,if b then"pause"else"go",[.s t.nm]}|.close t=>Ϡ "close" [.s t.nm]|.bar g t=>Ϡ "bar" [.s g,.s t.nm]|.visit g c=>Ϡ "visit" [.s g,.ms c]
inductive Cn:Ĵ HW|plain{k:Str}{fs:Ū}{ts:Μ}(h:sV k fs)(t:rp fs (ts.map Th.txt) ts):Cn (Ϡ k ts)|trial{n l:Str}{as ss:Zv}{r:Ru}(t:rp Sy [n,l,bO as,bO ss] [.s n,.s l,.ws as,.ws ss])(h:xu r.toks r):Cn (.trial n l as ss r)
def GE{f:Fo}{t:Th}(h:Sk f t):xr f t.txt t:=œ h
def i9.rdok{M:bJ}{d:Dd}{m:Ú}{c:Nat}{ns:ZA}(h:i9 K H M d m)(b:oY M c)(j:HX ns M d):Cn d.rd:=by have a:∀{z:Int},0<=z->Ŭ z->Sk .count (.n z):=λh1 h2=>{h1,so {ύ,Ŭ _} Ý};have tw:∀{t:dS},ăv->xr .word t.nm (.s t.nm):=λh=>{ēJ,.s _,(b.tr _ h).wd};cases h with
 |layer h1 h2 h3=>show Ϡ .layer {μ,{ēJ,.s _,h1},GE (a h3.1 (ļ b.p.2))}|@trial x ar sh B C h1 h2 h3 h4 g k o q D r u hc hd E F=>
  show .trial {ē,{ēJ,.s _,h1.wd},{ē,{ēJ,.s _,?_},μ {ć7,.arms,.ws _,(h1.aw,h1.nd,h1.a1,h1.a4,)} {ć7,.shuts,.ws _,{λs v=>?_,u,h1.s8}}}} {(),h1.hg,k.fm o,g,g_ k.few q}
  ·have(l,w,e):=ğc;rw[π,e,(b.la l w).wd]
  ·have(t,y,e):={Ķ,r s v};rw[π,e,(b.tr t y).wd]|share h1 h2 h3 h4=>have:=b.tr _ h1;show Ϡ .share {μ,tw h1,{ć7,.counts,.ns _,{λi hi=>a (h4 i hi) (j i hi),Ĉg this.a1,Ĉg this.a4}}}|deal h1 A h2 h3 h4=>have:=b.tr _ h1;show Ϡ .deal {ē,tw h1,μ {ć7,.total,.n _,A} {ć7,.weights,.ns _,{h4,Ĉg this.a1,Ĉg this.a4}}}|hold h1 h2=>show Ϡ .hold {μ,{ēJ,.s _,(b.la _ h1).wd},GE (a h2 j)}|pause h1=>show Ϡ .pause {ϋ,tw h1}|go h1=>show Ϡ .go {ϋ,tw h1}|close h1=>show Ϡ .close {ϋ,tw h1}|bar h1 h2=>show Ϡ .bar {μ,{ć7,.guest,.s _,h1},tw h2}|visit h1 h2 h3 h4 g=>show {Ϡ,.visit,μ {ć7,.guest,.s _,h1} {ć7,.marks,.ms _,(h3,h4,g,)}}
theorem Cn.ok{d:HW}(h:Cn d):O3 d:=by cases h with|plain h t=>show Ϡ h.kf t.ok|trial t h=>show(mH.trial t h).ok
def Cn.is{d:HW}(h:Cn d):mH (ĊH d.txt) d:=by have b:=h.ok;cases h with
 |@plain k fs c h t=>cases b with|plain g i=>
  change mH {ĊH,{ğ,k::c.map Th.txt}} _;rw[kJ (l:=k::c.map Th.txt) vJ (nofun) Ğ4]
  ·show Ϡ h t
  ·have()||z:=Ű a
   ·show g.facts.2.1
   ·show Lz i p z
 |@trial n l e f r t h=>cases b with|trial j m o q hg=>
  change mH {ĊH,ğ {Ċ4,n,l,bO e,bO f}} _;rw[JF,kJ (l:={ēs,n::l::bO e::bO f::r.toks}) vJ (nofun) Ğ4]
  ·show .trial t h
  ·rw[ăU,a]
   ·show fO Ý
   rw[ăU,a]
   ·show j.free ß
   rw[ăU,a]
   ·show m.free ß
   rw[ăU,a]
   ·show o.free
   rw[ăU,a]
   ·show q.free
   show čW hg.wd hg.ok p a
def qS{b d:Type}{R:Ė b d}{x y:b}{e:Ϸ}(h:Đ R [x,y] e):∃u v,e=[u,v]/\R x u/\R y v:=by cases h with|cons h1 h=>cases h with|cons h2 h=>rw[ā,h,{_,_,(),h1,h2}]
def DR{b d:Type}{R:Ė b d}{x:b}{e:Ϸ}(h:Đ R [x] e):∃u,e=[u]/\R x u:=by cases h with|cons h1 h=>rw[ā,h,{_,(),h1}]
def i9.back{M:bJ}{d:Dd}{m:Ú}{v:V}(h:i9 K H M d m)(r:Lj K H' d.rd v):∃g i,v=č1/\bj K H' g i/\i9 K H' M d i:=by cases h with
 |layer h1 h2 h3 h4 f=>rw[ĚT,qS c];show{p,!{a,.layer h1 h2 h3 h4 f}}|trial h1 h2 h3 h4 f k l n A o s hc hd t u=>have(p,B,C,D,(),a,(b1,(),w),(b2,(),x),j):=r;have(b3,_,(),_):=j.tup;show{p,!{a,.trial h1 h2 w j f k l n x o s hc hd t u}}|share h1 h2 h3 h4=>rw[Đo];have(_,_,(),(),(b,(),q)):=qS c;show{p,!{a,.share h1 q h3 h4}}|deal h1 y h2 h3 h4=>rw[Đo];cases c with|cons z c=>have(_,_,(),(),(b,(),q)):=qS c;obtain rfl:=z;show{p,!{a,.deal h1 y q h3 h4}}
 |hold h1 h2=>rw[ĚT,qS c];show{p,!{a,ĆX h1 h2}}|pause h1=>rw[Ĝh,DR c];show{p,!{a,ĞQ h1}}|go h1=>rw[Ĝh,DR c];show{p,!{a,.go h1}}|close h1=>rw[Ĝh,DR c];show{p,!{a,ėX h1}}|bar h1 h2=>rw[ĚT,qS c];show{p,!{a,.bar h1 h2}}|visit h1 h2 h3 h4 f=>rw[Đo];have(_,_,(),(),q):=qS c;show{p,!{a,.visit h1 q h3 h4 f}}
def qa{X:Cx}{b:ă2}:yo X b ăD:=by unfold yo;intro a s c H D I h;rw[ēy]
def XB(K:Zp)(H:Hp)(d:Addr)(x:Str)(b:Bool):Prop:=(∃a:Ğ,H d=Į a/\Ēi a ũ=b)\/∃l:ċ,bj K H d Ăe/\mI ħ Ăe=b
inductive Ik(K:Zp)(U:Addr)(vs:Ú)(H:Hp)(Q:VK)(E:XK):Prop|mk(x:Str)(d:Addr)(b:Bool)(_:vs=[ħ,Āv])(_:Wd x)(_:XB K H d x b)(_:(î b->Āy))(_:(ć b->XC U H E))
inductive VC(N:Addr)(vs:Ú)(H:Hp)(Q:VK)(E:XK):Prop|mk(z p:Int)(_:vs=[ı,ã p])(_:0<=z)(_:p<=z)(_:XC N H E)
def Ug{z:Str}{b:Zv}(h:z∉b):{ć,mI į ĈV}:=by cases e:(mI į ĈV)with|false=>rfl|true=>unfold mI at e;have(v,c,e):=ĆB e;have(u,a,()):=Ķ c;rw[Ąk,Ξ u z];rw[ĀI e]at a;rw[Ā,a,h]
def lq(M:bJ)(t y:Str):Prop:=(Wd t/\t∉Δ)\/{ĕq,ĀD=ð,t=u.nm/\Wd y/\y∉u.arms}
def Gw(M:bJ)(t y:Str):Prop:={ĕq,ĀD=ð,t=u.nm/\y∈u.arms}
def Gg{U d:Addr}{Q:VK}{E:XK}{ns:Zv}{f:ĆW}{z:Str}(hd:H d={Į,lV ns f})(h1:Wd z)(h2:z∉ns)(q:XC U H E):Ik K U [į,Āv] H Q E:={z,d,false,(),h1,à {_,hd,by rw[ny h2];rfl},ģt,λ_=>q}
def OG{U d:Addr}{Q:VK}{E:XK}{ns:Zv}{f:ĆW}{x:Str}{u:V}(hd:H d={Į,lV ns f})(h:Wd x)(b:bM (lV ns f) ũ=ð)(q:Āy):Ik K U [ħ,Āv] H Q E:={x,d,true,(),h,à {_,hd,by rw[b];rfl},λ_=>q,ģt}
inductive LU(P:Zu)(w:World)(K:Zp)(a:ja)(vs:Ú)(H:Hp)(Q:VK)(E:XK):Prop|mk(M:bJ)(Z:ZS)(c:Nat)(l g:Str)(_:vs=[Ϧ,āu,āt])(_:cK P w K a H M Z c)(_:Wd l)(_:l∉ό)(_:XC a.bB H E)
inductive LV(P:Zu)(w:World)(K:Zp)(a:ja)(vs:Ú)(H:Hp)(Q:VK)(E:XK):Prop|mk(M:bJ)(Z:ZS)(c:Nat)(l:Str)(z:Int)(_:vs=[Ϧ,āu,ı])(_:cK P w K a H M Z c)(_:((Wd l/\l∉ό/\XC a.bB H E)\/∃(i:Nat)(u:cH),ī=ð/\l=u.nm/\0<=z/\Ϥ<=z/\XC a.cG H E))
inductive SR(P:Zu)(w:World)(K:Zp)(a:ja)(vs:Ú)(H:Hp)(Q:VK)(_E:XK):Prop|mk(M:bJ)(Z:ZS)(c i j:Nat)(l:cH)(t:dS)(z:Str)(_:vs=[Ϧ,Ż,į])(_:cK P w K a H M Z c)(_:ĀD=ϒ)(_:ī=Ĭ)(_:āD)(_:{ğ1,ao H H',H r=none->H' r=Z1 {ś,l.S.pl,eY t.nm z}->Ă2})
inductive JT(P:Zu)(w:World)(K:Zp)(a:ja)(vs:Ú)(H:Hp)(Q:VK)(E:XK):Prop|mk(M:bJ)(Z:ZS)(c:Nat)(t y:Str)(_:vs=[Ϧ,Ăx,ćU])(_:cK P w K a H M Z c)(_:((lq M t y/\XC a.bB H E)\/(Gw M t y/\{ğ1,ao H H',Ă2})))
inductive RP(P:Zu)(w:World)(K:Zp)(a:ja)(vs:Ú)(H:Hp)(Q:VK)(E:XK):Prop|mk(M:bJ)(Z:ZS)(c:Nat)(t:Str)(_:vs=[Ϧ,Ăx])(_:cK P w K a H M Z c)(_:Wd t)(_:t∉Δ)(_:XC a.bB H E)
inductive Vy(P:Zu)(w:World)(K:Zp)(a:ja)(vs:Ú)(H:Hp)(Q:VK)(E:XK):Prop|mk(M:bJ)(Z:ZS)(c:Nat)(t y:Str)(_:vs=[Ϧ,Ăx,ćU])(_:cK P w K a H M Z c)(_:lq M t y)(_:XC a.bB H E)
inductive PQ(P:Zu)(w:World)(K:Zp)(a:ja)(vs:Ú)(H:Hp)(Q:VK)(E:XK):Prop|mk(M:bJ)(Z:ZS)(c:Nat)(t y u z:Str)(_:vs=[Ϧ,Ăx,ćU,á u,į])(_:cK P w K a H M Z c)(_:(lq M t y\/(Gw M t y/\lq M u z)))(_:XC a.bB H E)
section
def et(T:ä):aT P w K mg base (lA P w) 3 a.bn.x a.bn.d ăH (Ik K a.bB):=by
 show T.bn.okEc zI λH j g h=>?_
 ·have(x,d,b,(),h1,h2,q,e):=h;rw[Ŏ,{_,(ai {ČC,fe (cI (aY K () (pc T.eM (gq T) g (ac (Y 0) O)) Ī)) (dI (pZ (Ke K () (c7 g) (Y 0) (Y 1)) ())),ai (qb T.HF () T.CQ () pY (ac ak O))}),?_},!{é,x,ļ h1.hi,.of h1 λi c=>(! ce ?_)},{_,(),_,(),?_}];have(f,h2,h3)||(l,h2,h3):=h2
  ·rw[Ģ,{à,rG (bM f ũ) {ĂJ,ũ,c _ _ h2} ă},h3];cases b with|true=>show ce (q () i c)|false=>show bE {ls (),e () _ c}
  ·rw[Ģ,æ {d,!{é,{æ,þ c h2},qM l,ă}},h3];cases b with|true=>show ce (q () i c)|false=>show bE {ls (),e () _ c}
def yG(T:ä):aT P w K mg base (lA P w) 3 a.fi.x a.fi.d ĕJ (VC a.cG):=by
 show T.fi.okEc zG ěQ
 ·have(z,p,(),h0,h1,q):=h;rw[Ŏ,{_,(ai {ČC,fe (cI (aY K () (pc T.fP (gr T) b (ac (Y 0) O)) Ī)) (dI (aE MW (Y 0) (Y 1) (aG _))),ai (qb T.F7 () T.AI () pY (ac ak O))}),?_},!{z,(),.of h0 λf c=>(! ce ?_)},! ! r2 ă];rw[ó,ji h1,bE {ls (),q _ c}]
def yK(T:ä):aT P w K mg base (lA P w) 4 a.gF.x a.gF.d ĈI (LU P w K a):=by
 show T.gF.okEc zP ĥJ
 ·have(M,Z,c,l,g,(),e,h1,h2,q):=h;show{_,(ae (aR {ďU,i,ac (Y 1) (ac (aO K () (Y 0)) O)}) qa),?_}
  have j:=e.g.house;show ! jh j T.aH T.be () () (Gg e.g.lays h1 h2 q)
def yL(T:ä):aT P w K mg base (lA P w) 4 a.gG.x a.gG.d ĕO (LV P w K a):=by
 show T.gG.okEc zQ λH r k h=>?_
 ·have(M,Z,c,l,z,(),e,h):=h;show{_,(ae (aR {ďU,k,ac (Y 1) (ac (aO K () (Y 0)) O)}) (ae (aR {ZD,Ņ yG,k,T.fi.m,T.fi.f.kp,T.fi.b,ac (Y 2) (ac (aO K () (Y 0)) O)}) qa)),?_}
  have j:=e.g.house;have(h1,h2,q)||(i,u,n,(),h0,h1,q):=h
  ·show ! jh j T.aH T.be () () (Gg e.g.lays h1 h2 q)
  ·show ! jh j T.aH T.be () () (OG e.g.lays (e.ok.la u (e_ n)).wd (āK e.ok.lget n) λs o=>(! jh (o _ _ j) T.aH T.cC () () {z,M.p,(),h0,h1,q.to o}))
def tG(T:ä):aT P w K mg base dw 2 a.dF.x a.dF.d ĈW (SR P w K a):=by
 show T.dF.okc sY λH R n h=>?_
 ·have(M,Z,c,i,j,l,t,z,(),e,F,y,hh,q):=h;show{_,(ai (az {Aa,bv,aO K () (gf (c7 n) (aO K () (Y 0)) (aO K () (gf (c7 n) (aO K () (Y 0)) (Y 1) Ϫ)) Ϫ),T.bP,T.bH.m,Ņ fw,n,T.bH.b,bI,ac (bo (ac (Y 1) (ac (Y 2) O))) O})),?_};have I:=e.g.house;have A:=e.g.trial F;have(m,f,B):=e.g.tab y;have(L,C):=f.ins;have s:=āK e.ok.lget y;rw[hh]at s;rw[Ŧ,jh I T.aH T.be () () ?_,jh I T.aH T.aW () () (! rG {Ţ,.tr j} {č2,āK e.ok.tget F,e.g.tris} ?_),rF A T.bG T.jZ () (rG {Ţ,.lo i} {Ă,s,ĈR t.home e.g.lays} ?_),rF (e.g.layer y) T.cT T.gu () (rM C () ?_)];show ! !{ls (),λu D=>?_};have v:=š [Ż,į] H D;have J:aJ H u {ň,[Ż,į]} u=ĝ [Ż,į]:=af;generalize ĀF u [Ż,į]=S at v J⊢;show{ĉo,Ćh,ĂZ,M.p,āq,ĀT,m,eY t.nm z,â u,(),ďq v,{u,(),Ł J},λr N Q n E=>q r N (ć6 Q) (v.free n) ?_};rw[π,B.1,E]
def gP(T:ä):aT P w K mg base (lA P w) 4 a.ck.x a.ck.d ĈW (JT P w K a):=by
 show T.ck.okEc yA λH V B h=>?_
 ·have(M,Z,c,t,y,(),n,h):=h;show{_,(ae (aR {ďU,B,ac (Y 1) (ac (aO K () (Y 0)) O)}) (ae (aR {ďU,B,ac (Y 2) (ac (aO K () (gf (c7 B) (aO K () (Y 0)) (Y 1) Ϫ)) O)}) (ai (az {ăl,Y 0,T.dF.m,tG,B,T.dF.b,ac (Y 1) (ac (Y 2) O)})))),?_}
  have C:=n.g.house;show ! jh C T.aH T.aW () () ?_;have A:∀(j:Nat)(u:dS),ĀD=ð->t=u.nm->∀{I:VK}{L:XK},(∀D,ao H D->Āt I D)->Ik K a.bB [Ăx,ēI] H I L:=λj u o e{_ _}g=>{Þ,e,OG n.g.tris (n.ok.tr u (e_ o)).wd (ĝ8 o) g}
  have((h1,h2)||(j,u,o,(),E,hn),q)||((j,u,o,(),E),q):=h
  ·show Gg n.g.tris h1 h2 q
  ·have F:=ĝ8 o;obtain⟨s,-,-⟩:=n.g.trs j u o;rw[ϯ,A j u o () λD p=>?_,! jh (p _ _ C) T.aH T.aW () () (! rG {Ţ,.tr j} {Ă,F,{ĈR,u.nm,p _ _ n.g.tris}} ?_),rF (p _ _ (n.g.trial o)) T.bG T.fS () {y,Z.ar j,false,(),E,{ăp,þ p s,Ug hn},ĈA,λ_=>q.to p}]
  ·have F:=ĝ8 o;have J:=n.ok.tr u (e_ o);have(l,N,hh):=Ķ J.hm;rw[ĄG,N];obtain⟨s,-,-⟩:=n.g.trs j u o;rw[Ŏ,A j u o () λD p=>?_,! jh (p _ _ C) T.aH T.aW () () (! rG {Ţ,.tr j} {Ă,F,{ĈR,u.nm,p _ _ n.g.tris}} ?_),rF (p _ _ (n.g.trial o)) T.bG T.fS () {y,Z.ar j,true,(),J.aw y E,{ăp,þ p s,F3 E},λ_ W Q=>?_,ĈA}];have v:=ĎW Q;show mm (v _ _ C) () () (! !{M,Z,c,i,j,l,u,y,(),n.same v,o,hi,hh,λr R S _ _=>q r R (ć6 S)})
def wN(T:ä):aT P w K mg base (lA P w) 4 a.fH.x a.fH.d ĈJ (RP P w K a):=by
 show T.fH.okEc yz ĥO
 ·rw[ĢA];show{_,(ae (aR {ďU,i,ac (Y 1) (ac (aO K () (Y 0)) O)}) qa),?_}
  show ! jh e.g.house T.aH T.aW () () (Gg e.g.tris h1 h2 q)
def B3(T:ä):aT P w K mg base (lA P w) 4 a.jT.x a.jT.d ĈJ (RP P w K a):=by
 show T.jT.okEc DK ĥO
 ·rw[ĢA];show{_,(ae (aR {ďU,i,ac (Y 1) (ac (aO K () (Y 0)) O)}) qa),?_}
  show ! jh e.g.house T.aH T.aW () () (Gg e.g.tris h1 h2 q)
def BP(T:ä):aT P w K mg base (lA P w) 5 a.iV.x a.iV.d ęn (Vy P w K a):=by
 show T.iV.okEc DB λH i e h=>?_
 ·have(M,Z,c,t,y,(),f,h1,q):=h;rw[ö,{_,(ai (az (au jl {Č,aK K (),ac {Ăz,Y 0,T.ck.m,gP,e,T.ck.b,ac (Y 1) (ac (Y 2) O)} O} (ng (Y 0) T.aH T.eP.m (Ņ qm) e T.eP.b .nil bI)))),?_},mm f.g.house () () (! !{M,Z,c,t,y,(),f,{à,Ċc q}})]
def tE(T:ä):aT P w K mg base (lA P w) 5 a.dh.x a.dh.d ["house","trial","arm","other","there"] (PQ P w K a):=by
 show T.dh.okEc jf λH k j h=>?_
 ·have(M,Z,c,t,y,u,z,(),e,h1,q):=h;show{_,(ae (bd 5 jf.nd {Ăz,Y 0,T.ck.m,gP,j,T.ck.b,ac (Y 1) (ac (Y 2) O)}) (ae (Ai (i:=6) jf.nd () āh {Ăz,Y 0,T.ck.m,gP,j,T.ck.b,ac (Y 3) (ac (Y 4) O)}) qa)),?_}
  show mm e.g.house () () (! !{M,Z,c,t,y,(),e,?_});have h1||(h1,h2):=h1
  rw[Ř,Ċc q]
  rw[ϛ,{h1,λr l f=>aB (mm (f _ _ e.g.house) () () (! !{M,Z,c,u,z,(),e.same f,à {h2,q.to f}}))}]
omit e
def Xx(x:ćD):Prop:=Œ ï 40/\Œ ąo 40/\Œ Āz 40
def Gz(M:bJ):Prop:=∀l∈M.las,∀x∈l.ins,Xx x
def J4(ds:ϰ):ě EX ds=ds.length:=by unfold EX;rw[ó,b_,(qT _ _).length_eq.trans n8]
def J3{ds:ϰ}{d:Zv}(h:d∈EX ds):d∈ds:=by have(i,hi,()):=Ķ h;have:=pa.mp ((qT _ _).mem_iff.mp hi);rw[ý,l6,fx this,Yc this]
def Gz.seat{M:bJ}{l:cH}{g:Str}{r:ąP}(h:Gz M)(b:l∈M.las)(e:fq l g=Ù r):Œ r.1 40/\Œ r.2 40:=by have(x,a,()):=āy e;show(h l b x (wh a)).2
def vZ.sh{M:bJ}{c:Nat}{g:Str}{o:Ũ}{ls:ČE}{d:İ}(h:vZ M g o ls d)(i:oY M c)(p:Gz M):(∀l∈ls,l∈M.las)->ėi ls.length/\∀r∈d,Xx r:=by
 have a:∀{x:Str},Wd x->ā1 40:=λh=>g_ h.hi ß
 induction h with|nil=>show λ_=>{eH _,λr j=>(nomatch j)}|skip h hn b k=>intro f;have(m,n):=k λl hm=>f l (nn _ hm);show{{Þ,gV,vr m},n}|@row ls d l r h j k=>
  intro f;have(m,n):=k λl hm=>f l (nn _ hm);have hm:=f l (lm _ ĉl);show{{Ŝ,gV,gV,r_ m},ĝi};have b||b:=Ă5 b
  ·show n x b
  ·rw[Ň b];show{a (i.la l hm).wd,?_};have e||(_,t,y,(),L):=j
   ·show p.seat hm e
   ·show{a (i.tr t L.mem).wd,a ((i.tr t L.mem).aw y L.arm)}
def Gz.set{M:bJ}{i:Nat}{l u:cH}(h:Gz M)(d:ī=Ĭ)(e:∀x∈u.ins,x∈l.ins):Gz (ČX i u):=λv a x b=>by
 have a||():=Q1 a
 ·show h v a x b
 ·show h l (e_ d) x (e x b)
def y6{ins:İ}{gs:Zv}:∀x∈dQ ins gs,x∈ins:=λ_ a=>(Ċb a).1
def hU.inw{M e:bJ}{d:Dd}{i:Ú}{c:Nat}(n:hU M d e)(j:i9 K H M d i)(m:oY M c)(h:Gz M):Gz e:=by
 cases n with|layer=>
  intro l a x b;have a||a:=Ă5 a
  ·show h l a x b
  ·rw[Ň a]at b;cases b|trial=>show h|share a hh hn=>show h.set a y6|deal a hh hn=>show h.set a y6|hold a=>show h.set a ĈZ|pause f=>show h|close f a hh=>show Gz.set (M:=(ZJ _ _)) h a y6|bar f a hh=>show Gz.set (M:=(ZJ _ _)) h a y6|@visit g w z _ k v=>
  intro l a x b;rw[v.las]at a;have(u,o,()):=ĀX;have b||b:=Ă5 b
  ·show h u o x b
  ·have(_,p):=k.sh m h λl q=>q;have hg:ėj 40:=by cases j with|visit h1=>show g_ h1.hi ß
   unfold Cj at b
   split at b
   ·cases b
   ·have(r,s,()):=Ķ b;have(y,t,()):={āy,Option.mem_toList.mp s};show{hg,(p y (wh t)).2}
def UI(b:ϰ):Prop:=Ān 63/\∀d∈b,ėi 3/\∀x∈d,ā1 40
def MT{ins:İ}{gs:Zv}(h:∀x∈ins,Xx x)(i:gs.length<=63)(hg:∀g∈gs,ėj 40):UI (Ao ins gs):=by
 show{by unfold Ao;rw[ý,J4,b_,i],ċ9};have hd:=J3 hd;show{Yj (Mv ins gs d hd),Ė5};have(g,b,()):=Ķ hd;have c:{Œ,ώ "",40}:=ß
 unfold xU at a;cases e:ins.find? {Ăm,ï=g}with
 |none=>
  rw[e]at a;rw[ăU,a]
  ·show hg _ b
  ·rw[ăU,a]
   ·show c
   rw[āW,a,c]|some y=>
  rw[e]at a;have f:=h y (wh e);rw[ăU,a]
  ·show hg _ b
  ·rw[ăU,a]
   ·show f.2.1
   rw[āW,a,f.2.2]
theorem vY.sh{M:bJ}{d:Dd}{xs:Ú}{c:Nat}{n:ϰ}(h:vY M d n)(o:i9 K H M d xs)(m:oY M c)(hc:c<=63)(f:Gz M):UI n:=by
 have nil:UI []:={ku _,λd hd=>(nomatch hd)};have out:∀{i:Nat}{l:cH}{b:ZA},ī=Ĭ->UI {Ĉ3,Eh M l b}:=λ{i l b}a=>by have hm:=e_ a;show MT (f l hm) (g_ (t_ _ _) {āo,g_ (m.la l hm).len hc}) ĖD;have(x,e,()):=Ķ (Ċb hg).1;show(f l hm x e).1
 cases h with
 |layer=>show nil|trial=>show nil|share a hh=>show out a|deal a hh=>show out a|hold=>show nil|pause=>show nil|close a hh=>show out a|@bar g t i l a hh=>
  show MT (f l (e_ a)) ?_ λz j=>?_
  ·unfold vK
   split
   ·show Nat.le_add_left 1 62
   ·show ku _
  ·have:z=g:=by unfold vK at j;split at j;show Ň j;cases j
   rw[this];cases o with|bar h1=>show g_ h1.hi ß
 |visit k=>
  have(h1,h2):=k.sh m f λl q=>q;show{{āo,g_ h1 (g_ m.l4 ß)},ċ9};have(r,p,()):=Ķ hd;have(s,u,v):=h2 r p;show{eH 3,λx e=>?_};have()||e:=Ű e
  ·show s
  ·have()||e:=Ű e
   ·show u
   rw[āW,e,v]
noncomputable def Mu(e:Str):ϰ->Str|[]=>e|r::a=>{ğ,(r::a).map λd=>Āh "/" d}
inductive LN(K:Zp)(vs:Ú)(H:Hp)(Q:VK)(_E:XK):Prop|mk(r:Addr)(e:Str)(us:Ú)(rs:ϰ)(_:vs=[ďi,á e])(_:aZ K H r us)(_:jw K H us rs)(_:UI rs)(_:{ϖ,ao H H',Q {á,Mu e rs} H'})
def FT{n:Nat}:∀{d:Zv},(∀x∈d,ā1 n)->ky d<=n*d.length:=by
 intro d
 induction d with|nil=>show λ_=>ku _|cons x r a=>intro h;rw[ăB,h x f_,a λy b=>h y (fy _ b)];rw[aL,ig,Nat.mul_succ];lia
def sl1:ϣ "/"=1:=Ý
def UI.row{b:ϰ}(h:UI b){d:Zv}(hd:d∈b):ky d+d.length*ϣ "/"<=123/\{Œ,Āh "/" d,123}:=by have(h1,h2):=Ŕ d hd;have h3:=FT h2;have h4:=gQ "/" d;rw[sl1]at h4⊢;lia
section
def qi(T:ä):aT P w K mg base dw 1 a.gk.x a.gk.d Ęw (LN K):=by
 show T.gk.okc zA λH L M h=>?_
 ·have(r,e,m,j,(),s,k,o,q):=h;show{_,(ae (aN (aE aQ {Č,aK K (),ac (Y 0) O} ah (aG _)) (ai (az (Y 1))) aF) (ai (az {Ąw,cg,K,(),ik K (),ak,ac (ub mD ["parts"] [] [2] (aj mf) (bW 2) (eF K () (Y 0)) {ν,nO mD ["parts"] 2,{Ąw,cg,K,(),Ks K (),ak,ac (Y 2) O}}) O}))),?_}
  have g:=ř k;show !{_,m.length,(),à {_,s,()},(),ă};cases k with|nil=>show bE {_,(),q H ϐ}|@cons u d m j h0 k=>
  have k:jw K H (u::m) (d::j):=ē h0 k;rw[Će,kz {ϳ,by rw[ig];lia} ĺ,{ĥ,é r {_,s} λD B=>?_},{čJ,gU,K,r,u::m,{ćB,c={Ž,{ĉY,ġi d j},λd=>Āh "/" d},ao H H'/\H' D=ąD},{(),am đ B,af},ao.seq Ŗ s,?_}]
  ·intro i v c E G((),p,f);rw[ĉk,G];have t:i<Ă8 d j:=Ă g hi
   obtain⟨y,l⟩:∃y,{ì,d::j}=ϵ:={_,fx t};have(Q,A,b,(),I):=Ak k i y l;cases G.symm.trans A;have hm:=e_ l;have k1:=(o.row hm).1;show aB (ij (bE {ĥ,{Ę "/",b,y,(),(),þ p I,Ø,f,?_,lf hi {?_,bw p B,af}}}))
   ·rw[b_,b_,j2,gg];rw[Š,o.1]
   ·rw[ov,l,hE,hE];rfl
  ·intro c E((),p,f);rw[g,g6 (eH _)]at f;show{ϔ,D,!{(),å f,vy ?_,q E p}};have k1:=FT (n:=123) (d:=(d::j).map λd=>Āh "/" d) λx J=>by have(y,l,()):=Ķ J;show(o.row l).2
   have k2:=o.1;rw[b_]at k1⊢;rw[ym];lia
omit e
def spF:Sp:=ģG
def Ll(a:ja)(H:Hp)(dk hh:Addr):Prop:=∃dx,H dk=Ār a.vW [ϱ "house" hh]
inductive vX(a:ja)(M:bJ):Str->Ė Ú Addr|place{l g:Str}(h:Wd l)(n:l∉ό):vX a M "place" [āu,āt] a.bB|owner{l:Str}{z:Int}(h:Wd l)(n:l∉ό):vX a M "owner" [āu,ı] a.bB|beyond{i:Nat}{u:cH}{z:Int}(h:ī=ð)(h0:0<=z)(h1:Ϥ<=z):vX a M "owner" [á u.nm,ı] a.cG|places{t y:Str}(h:lq M t y):vX a M "places" ĆU a.bB|shares{t:Str}(h:Wd t)(n:t∉Δ):vX a M "shares" (ψ t) a.bB|who{t:Str}(h:Wd t)(n:t∉Δ):vX a M "who" (ψ t) a.bB|points{t y:Str}(h:lq M t y):vX a M "points" ĆU a.bB|meet{t y u z:Str}(h:lq M t y\/(Gw M t y/\lq M u z)):vX a M "meet" [Ăx,ćU,á u,į] a.bB
inductive Qa(P:Zu)(w:World)(K:Zp)(a:ja)(vs:Ú)(H:Hp)(Q:VK)(E:XK):Prop|mk(dk tl:Addr)(M:bJ)(Z:ZS)(c:Nat)(k:Str)(us:Ú)(_:vs=[â dk,á k,â tl])(_:Ll a H dk āG)(_:cK P w K a H M Z c)(_:aZ K H tl us)(_:((∃C,vX a M k us C/\XC C H E)\/∃rs,k="text"/\qJ K H M Z rs/\{ϖ,ao H H',Q {á,{Āh,"\n",ĉQ::rs}} H'}))
section
def BQ(T:ä):aT P w K mg base dw 1 a.jD.x a.jD.d ĖZ spF:=by
 show T.jD.f.ok Bz ģ4 ĠI
 ·rw[ēy]
 ·rw[ēy]
def yE(T:ä):aT P w K mg base dw 1 a.gS.x a.gS.d Ā5 spF:=by
 show T.gS.f.ok yt ģ4 ĠI
 ·rw[ēy]
 ·rw[ēy]
def B7(T:ä):aT P w K mg base (lA P w) 12 a.iR.x a.iR.d ĞI (Qa P w K a):=by
 show T.iR.okEc r6 λH A j h=>?_
 ·have(dk,B,M,Z,c,k,D,(),(dx,r),o,e,h):=h;show{_,(ae (bd 3 r6.nd (aO K () (Y 0))) (ae (aN (aE aQ (Y 1) ak (aG _)) (ai (az (bh eu ĕ T.lW L2.eO (ac {Ăz,Y 3,T.gF.m,yK,j,T.gF.b,ac (gx K (Y 2) ah) (ac (gx K (Y 2) ah) O)} O)))) aF) (ae (aN (aE aQ (Y 1) ak (aG _)) (ai (az (pc T.jD (BQ T) j (ac {Ăz,Y 3,T.gG.m,yL,j,T.gG.b,ac (gx K (Y 2) ah) (ac (gx K (Y 2) ah) O)} O)))) aF) (ae (aN (aE aQ (Y 1) ak (aG _)) (ai (az (pc T.fT (jn T) j (ac {Ăz,Y 3,T.ck.m,gP,j,T.ck.b,ac (gx K (Y 2) ah) (ac (gx K (Y 2) ah) O)} O)))) aF) (ae (aN (aE aQ (Y 1) ak (aG _)) (ai (az (pc T.fT (jn T) j (ac {Ăz,Y 3,T.fH.m,wN,j,T.fH.b,ac (gx K (Y 2) ah) O} O)))) aF) (ae (aN (aE aQ (Y 1) ak (aG _)) (ai Aj) aF) (ae (aN (aE aQ (Y 1) ak (aG _)) (ai Aj) aF) (ae (aN (aE aQ (Y 1) ak (aG _)) (ai Aj) aF) (ae (aN (aE aQ (Y 1) ak (aG _)) (ai (az (pc T.gk (qi T) j (ac {Ăz,Y 3,T.jT.m,B3,j,T.jT.b,ac (gx K (Y 2) ah) O} (ac ak O))))) aF) (ae (aN (aE aQ (Y 1) ak (aG _)) (ai (az (bh eu ĕ T.lW L2.eO (ac {ZD,Ņ BP,j,T.iV.m,T.iV.f.kp,T.iV.b,ac (Y 3) (ac (gx K (Y 2) ah) (ac (gx K (Y 2) ah) O))} O)))) aF) (ae (aN (aE aQ (Y 1) ak (aG _)) (ai (az (bh eu ĕ T.lW L2.eO (ac {ZD,Ņ tE,j,T.dh.m,T.dh.f.kp,T.dh.b,ac (Y 3) (ac (gx K (Y 2) ah) (ac (gx K (Y 2) ah) (ac (gx K (Y 2) ah) (ac (gx K (Y 2) ah) O))))} O)))) aF) (ai (az (pc T.jH (BS T) j (ac (Y 3) O))))))))))))))),?_}
  have p:=o.g.house;show jh r T.j7 T.mx () () (aB ?_);have(C,h,q)||(s,(),v,q):=h
  ·cases h with|@place l g h n=>rw[ö,! Ť,mm p () () (! rX e č (! rX e ϕ {M,Z,c,l,g,(),o,h,n,q}))]|@owner l z h n=>rw[ϯ,!{ĥ,aV Ý ?_},! Ť,mm p () () (! rX e č (! rX e ϕ {M,Z,c,l,z,(),o,à (h,n,q,)}))]|@beyond i u z h h0 h1=>rw[ϯ,!{ĥ,aV Ý ?_},! Ť,mm p () () (! rX e č (! rX e ϕ {M,Z,c,u.nm,z,(),o,æ {i,u,h,(),h0,h1,q}}))]|@places t y h=>(rw[ċi,!{ĥ,aV Ý ?_}]);rw[ö,! Ť,mm p () () (! rX e č (! rX e ϕ {M,Z,c,t,y,(),o,à (h,q,)}))]|@shares t h n=>(rw[Ē8,!{ĥ,aV Ý ?_}]);rw[ö,! Ť,mm p () () (! rX e č {M,Z,c,t,(),o,h,n,q})]|@who t h n=>(iterate 7 show !{ĥ,aV Ý ?_});rw[ö,! Ť,mm p () () (! rX e č {M,Z,c,t,(),o,h,n,q})]|@points t y h=>(iterate 8 show !{ĥ,aV Ý ?_});rw[ö,! Ť,! ! rX e č (! rX e ϕ {M,Z,c,t,y,(),o,h,q})]|@meet t y u z h=>(iterate 9 show !{ĥ,aV Ý ?_});rw[ö,! Ť,! ! rX e č (! rX e ϕ (! rX e ϥ (! rX e ād {M,Z,c,t,y,u,z,(),o,h,q})))]
  ·(iterate 10 show !{ĥ,aV Ý ?_});show !{M,Z,c,s,(),o,v,q}
omit e
inductive Bu:ĀR Ū|place:Bu "place" (ĐI .guest)|owner:Bu "owner" ĉ2|places:Bu "places" ėb|shares:Bu "shares" ă0|stand:Bu "stand" ėv|ever:Bu "ever" ėv|would:Bu "would" đI|who:Bu "who" ă0|points:Bu "points" ėb|meet:Bu "meet" [.word,.word,.word,.word]|text:Bu "text" []
def Bu.at{mg:Zs}(T:ä){k:Str}{fs:Ū}(h:Bu k fs):∃t,ăZ k=Ϲ/\xC K t Ęb:=by cases h with|place=>show T.tL|owner=>show T.tM|places=>show T.rJ|shares=>show T.rE|stand=>show T.tK|ever=>show T.vm|would=>show T.tJ|who=>show T.wV|points=>show T.rH|meet=>show T.vk|text=>show T.vj
abbrev Ag:ċ:=["place","owner","places","shares","stand","ever","would","who","points","meet","text"]
def Bu.facts{k:Str}{fs:Ū}(h:Bu k fs):đy k/\ĖU 10:={ĕE,h,ĠK Ý}
def sV.quest{k:Str}{fs:Ū}(h:sV k fs):đy k/\k∉Ag:=ġx h
noncomputable def WT:Th->V|.s w=>ăg|.n i=>Ŵ|_=> .non
inductive UH:Ĵ Th|s{w:Str}:UH (.s w)|n{i:Int}:UH (.n i)
def Pg{b:Μ}{d:Ú}(h:{Đ,mB K H,b,d})(e:∀t∈b,UH t):d=Ϯ WT:=by induction h with|nil=>rfl|cons h _ a=>rw[kw,a λt c=>e t (fy _ c)];have:=e _ f_;cases this with|s=>rw[Ĩ _ _ h];rfl|n=>rw[Ĩ _ _ h];rfl
def RG(b:Zv):Prop:=∃k a,b=k::a/\((k="example"/\∀r,¬xu a r)\/(∃fs,Bu k fs/\∀c,¬rp fs a c)\/(đy k/\k∉Ag/\∀d,¬mH b d))
inductive Li(P:Zu)(w:World)(K:Zp)(a:ja)(H:Hp)(M:bJ)(Z:ZS)(c:Nat)(Q:VK)(E:XK):Ĵ Str|deed{d:Dd}{xs:Ú}(hD:i9 K H M d xs)(ok:Cn d.rd)(hI:Gz M)(q:Ēd->∀(rs:ϰ)(dv:Addr)(M':bJ)(Z':ZS)(H':Hp),vY M d rs->hU M d M'->iF H M Z H' M' Z'->cK P w K a H' M' Z' (c+1)->{ĒE,Z.ds++ŝ dv}->fK K H' Č7 d.rd.txt->Q {á,Mu "ok" rs} H')(qr:ćm->UJ M d->XC a.mC H E)(qc:Ēf->XC a.qK H E):Li P w K a H M Z c Q E d.rd.txt|text{rs:Zv}(h:qJ K H M Z rs)(q:{ϖ,ao H H',Q {á,{Āh,"\n",ĉQ::rs}} H'}):Li P w K a H M Z c Q E "text"|ask{x k:Str}{ws:Zv}{fs:Ū}{ts:Μ}{C:Addr}(e:āV=k::ws)(h:Bu k fs)(t:rp fs ws ts)(hs:∀t∈ts,UH t)(hA:vX a M k (ts.map WT) C)(q:XC C H E):Li P w K a H M Z c Q E x|bad{x:Str}(h:RG āV)(q:XC a.c8 H E):Li P w K a H M Z c Q E x
inductive Vw(P:Zu)(w:World)(K:Zp)(a:ja)(vs:Ú)(H:Hp)(Q:VK)(E:XK):Prop|mk(dk:Addr)(x:Str)(M:bJ)(Z:ZS)(c:Nat)(_:vs=[â dk,ħ])(_:ĄF)(_:Ll a H dk āG)(_:cK P w K a H M Z c)(_:c<=62)(_:Li P w K a H M Z c Q E x)
def mH.words{x k:Str}{b:Zv}{d:HW}(h:mH āV d)(e:āV=k::b):đy k/\k∉Ag:=by
 have(f,g,a,hm,_):=h.inv;rw[e]at a;have((),_):=il a;have()||(fs,c):=sV.of hm
 ·decide+kernel
 ·show c.quest
section
def lS(T:ä)(hw:ćt):aT P w K mg base (lA P w) 20 a.eZ.x a.eZ.d ĝy (Vw P w K a):=by
 show T.eZ.okE pK λa0 A outer s H vs Q E j h=>?_
 ·have(dk,x,M,Z,c,(),hx,(dx,S),hZ,hc,h):=h;show{_,(ae (bd 2 pK.nd {ěJ,cg,K,(),AG,Y 1,ac ak O}) (ae (bd 3 pK.nd (gx K (Y 2) ah)) (ae (aN (aE aQ (Y 3) ak (aG _)) (ai (az (pc T.gS (yE T) j (ac {ZD,Ņ kT,j,T.bT.m,T.bT.f.kp,T.bT.b,ac (cp (jc K ()) (Y 2) (cO ah) c9) O} O)))) aF) (ae (aN (pZ (MR K () (KG hw T.vw) () T.x9 (Y 3)) ()) (ai (az {Aa,bv,Y 0,T.j7,T.iR.m,Ņ B7,j,T.iR.b,aS,ac (Y 3) (ac {ZD,Ņ kS,j,T.cr.m,T.cr.f.kp,T.cr.b,ac (G3 K () (KG hw T.vw) () T.x9 (Y 3) Ϫ) (ac (cp (jc K ()) (Y 2) (cO ah) c9) O)} O)})) aF) (ai (az (pc T.gk (qi T) j (ac {ğU,aO K () (Y 0),T.lx.m,(FG T hw).mono ß,j,T.lx.b,aS,ac {ZD,(DV T hw).mono ß,j,T.iU.m,T.iU.f.kp,T.iU.b,ac (Y 1) O} O} (ac ak O))))))))),?_}
  have W:=nU (x:=x) (y:=" ") ym;have X:∀p∈āV,Ēl 10000:=λp hp=>{ļ,wu ym hp}
  obtain⟨k,n,e⟩:∃k n,āV=k::n:={ġU,pF x " "};rw[Ģ,!{(),x,ϔ,āV,(),(),Ý,Ø,(),λwl al=>aB ?_},e];rw[e]at W X;have hn:ēm n.length:=by rw[ig]at W;lia
  have aa:∀y∈n,ĝL:=λy hy=>X y (fy _ hy);show nz al λH0 R hW=>?_;have hW:H0 wl={ò,á k::Ş n.map}:=hW;show ! rX (å hW) č (aB (oE ?_));have l:=R _ _ S;have G:=hZ.same R;have cs:(k="example"/\(∀r,¬xu n r)/\XC a.c8 H E)\/(∃fs,Bu k fs/\(∀o u H',rp fs n o->ao H H'->{Đ,mB K H',o,u}->(∃C,vX a M k u C/\XC C H' E)\/∃B,k="text"/\qJ K H' M Z B/\∀H2,ao H' H2->Q {á,{Āh,"\n",ĉQ::B}} H2)/\((∀o,¬rp fs n o)->XC a.c8 H E))\/(đy k/\k∉Ag/\((∃(d:Dd)(xs:Ú),i9 K H M d xs/\Cn d.rd/\Gz M/\x=d.rd.txt/\(Ēd->∀(B:ϰ)(dv:Addr)(M':bJ)(Z':ZS)(H':Hp),vY M d B->hU M d M'->iF H M Z H' M' Z'->cK P w K a H' M' Z' (c+1)->{ĒE,Z.ds++ŝ dv}->fK K H' Č7 d.rd.txt->Q {á,Mu "ok" B} H')/\(ćm->UJ M d->XC a.mC H E)/\(Ēf->XC a.qK H E))\/((∀d,¬mH āV d)/\XC a.c8 H E))):=by
   cases h with|deed hD ok hI q qr qc=>have:=ok.is.words e;show θ {ĎX,Č4,à {_,_,hD,ok,hI,(),q,qr,qc}}|@text B h q=>
    have e0:ĊH "text"=[Ę "text"]:=Ý
    have((),()):=il (e0.symm.trans e);rw[Ĉ,à {_,.text,λo u H' _ s _=>æ {é,B,ė h.kp s,λH2 s2=>q H2 (ĎN s2)},λno=>{ť,rp.nil,no []}}]|ask e' h t hs hA q=>have((),()):=il (e'.symm.trans e);rw[Ĉ,à {_,h,λo u H' h2 s hP=>à {_,by rw[Pg hP {Ă,t.one h2,hs},<-t.one h2];show hA,q.to s},λno=>{ť,t,no _}}]|bad h q=>
    have(k',xs,e',h):=h;have((),()):=il (e'.symm.trans e);have(I,h)||(fs,h1,h2)||(h1,h2,h3):=h
    rw[Ř,(I,h,q,)]
    ·rw[Ĉ,à {fs,h1,λo u H' z _ _=>{ť,z,h2 o},λ_=>q}]
    ·show θ {h1,h2,æ (h3,q,)}
  clear h S hZ;have((),h,q)||(fs,hf,h1,h2)||(n1,n2,h):=cs
  ·rw[ç,! Ť,! !{wl,!{ăq,hW,λp hp=>nz hp λH1 D I=>?_}}];rw[K5]at I;show{p,n,(),å I,Ø,aa,λr v H' j _ _=>{ť,j,h r},λ_=>q.to (R.trans D)}
  ·show !{ĥ,aV hf.facts.1 (oE ?_)};have(ft,ad,an):=hf.at T;rw[Ŧ,!{k,í ft,(),ad,true,(),bE ?_},mm l () () ă,!{k,â ft,â ft,(),ad,(),?_},! !{wl,!{ăq,hW,λp hp=>nz hp λH1 D I=>?_}}];rw[K5]at I;have i:=R.trans D;show{ft,p,fs,n,(),an.sq _,å I,hf.facts.2,aa,{λo v H3 ht J hv=>?_,λno=>(h2 no).to i}};have(tl,u,(),hL,hP):=hv;show{dk,tl,M,Z,c,k,u,(),{_,(D.trans J) _ _ l},G.same (D.trans J),å hL,h1 o u H3 ht (ċW J) hP}
  ·rw[Ŏ,!{ĥ,aV n1 (oE ?_)},!{k,none,(),T.Ed.none n2,false,(),ce (oE ?_)},jh l T.j7 T.mx () () (rM G.g.house () (! é x hx ?_))];have(d,xs,hD,ok,hI,(),q,qr,qc)||(no,q):=h
   ·show{λd' v H1 hd D j=>?_,λno=>{ť,ok.is,no _}};rw[Ι,ok.is.one,hd];have(dv,ys,(),hT,ag):=hD.back j;have L:=G.same D;have i:=R.trans D;rw[ç,{M,Z,c,dv,d,ys,(),L,Ø,hT,ag,λN r u B M' Z' H2 nx aw st ap a2 as av=>?_,λha ax H' s'=>qr ha ax H' (ċW s'),λN H' s'=>qc N H' (ċW s')},{r,"ok",u,B,(),å as,aw.w,aw.a.sh ag L.ok Ø hI,λH3 J=>?_}];have kp:={è,L.g.stp st,υ J};show q N B dv M' Z' H3 aw.a nx {Ć4,Āb i,st,Āb J} (ap.same J) av (Ri ok.ok (j.kp kp))
   ·show{λd' v H1 hd _ _=>{ť,hd,no _},λ_=>q.to R}
omit e
section
open PySem.Spec PyProof.Rows PySem.W
def ON:∀{bs:ĂP}{d:Zt},bx Ć5 d->d=ĊJ:=by
 intro bs
 induction bs with|nil=>intro d r;cases r;rfl|cons b bs a=>intro d r;cases r with|cons h r=>rw[a r,Ĩ _ _ h];rfl
noncomputable def Ue:Ās Value|.bool b=>b|_=>false
def Sc{A:Around}{s:Shared}{bs:ĂP}{y:Value}(h:y∈ĊJ):SeqAt.EqAt A s y ăN (Ue y):=by
 have(b,_,()):=Ķ h;have:=SeqAt.EqAt.bool_bool (A:=A) (s:=s) b true
 rwa[show((b==true)=Ue ďd)by cases b<;>rfl]at this
def Sx(bs:ĂP):(ĊJ).countP Ue=bs.countP id:=by rw[List.countP_map];rfl
omit e
def IB(K:Zp):V->Ú->χ:=λx a H Q=>{ĐT,x=ł/\a=[Ā6]/\aZ K H p Ć5/\Q {ã,{ş,bs.countP id}} H}
def IA(K:Zp):V->Ú->χ:=λx a H Q=>∃(p:Addr)(bs:ĂP)(j:Nat),x=ł/\a=[Ā6]/\aZ K H p Ć5/\j<1000/\bs[j]?=ā8/\(∀m,m<j->bs[m]?=ĉd)/\Q {ã,ş j} H
section
open PySem.Spec PyProof.Rows PySem.W
def Ku{X:Cx}(m:ău<cLine):Jt X "list.count" (IB X.K):=by intro a s l H x o v t Q I d e h;have(p,bs,(),(),f,q):=h;cases d;have(u,(),g):=gZ e;cases g;have(i,r,pl,w):=ZF f;rw[Ι,ON,r];have((j,dd,b,sl),c,hc,n,hd):=id pl.isList;rw[Ģ6];show C_ PySem.F.slot_list_count {_,c,()} PySem.F.entry_list_count (PySem.F.args_list_count_2 _ _) (SeqAt.list_countAt p (ĊJ).toArray n dd sl ăN Ue) {c,λy k=>Sc (bs:=bs) ĚM,?_};rw[ý,ċB (ĊJ).toArray.toList ĊJ,Sx,{ã _,H,ź,ĸ,q}]
def Hh{X:Cx}(K:Zp)(b:X.K=K)(d:ău<cLine):Jt X "list.count" (IB K):={ďs,Ku d}
def Kt{X:Cx}(C:ău<cLine):Jt X "list.index" (IA X.K):=by
 intro f s D H x E v G Q I k l h;have(p,bs,j,(),(),o,J,a,b,q):=h;cases k;rw[Ėi,gZ l,t];have(w,r,pl,L):=ZF o;rw[Ι,ON,r];have((z,dd,g,sl),i,hc,n,hd):=id pl.isList;rw[Ģ6];have c:j<bs.length:=ŷ a;show C_ PySem.F.slot_list_index {_,i,()} PySem.F.entry_list_index (PySem.F.args_list_index_2 _ _) (SeqAt.list_indexAt p (ĊJ).toArray n dd sl ăN Ue j Ĉz Ø ?_ ?_) {i,λy B=>Sc (bs:=bs) ĐJ,{ã _,H,ź,ĸ,q}}
 ·have e:=(ąO a).2;simp[Ue,e]
 ·intro m hm d;have e:={ąO,b m d}.2;simp[Ue,e]
def Hg{X:Cx}(K:Zp)(b:X.K=K)(d:ău<cLine):Jt X "list.index" (IA K):={ďs,Kt d}
omit e
noncomputable def OF(a:ja):ĒW:=[a.c8,a.bB,a.cG]
structure On3(K:Zp)(a:ja)(C:Addr)(n:Nat):Prop where
 lt:n<3
 ei:L2.Lq K C
 un:vP K C a.gD
 k0:Āg ŋ ĄI={Ù,Ă4 0}k1:Āg ŋ ĄK={Ù,Ă4 1}k2:Āg ŋ ĄL={Ù,Ă4 2}kv:Āg ŋ ć3=ā8
def on3{mg:Zs}(T:ä){C:Addr}{n:Nat}(h:(OF a)[n]?=Ù C):On3 K a C n:=by match n,h with|0,h=>rw[ā,h,{ß,T.Op,T.rD,T.AT,T.xb,T.vo,T.rL}]|1,h=>rw[ā,h,{ß,T.HH,T.pq,T.xa,T.tN,T.rK,T.px}]|2,h=>rw[ā,h,{ß,T.F8,T.nQ,T.vp,T.rN,T.qz,T.oM}]
inductive oR(a:ja)(M:bJ)(x:Str):Ĵ Addr|ask{k:Str}{ws:Zv}{fs:Ū}{ts:Μ}{C:Addr}(e:āV=k::ws)(h:Bu k fs)(t:rp fs ws ts)(hs:∀t∈ts,UH t)(hA:vX a M k (ts.map WT) C):oR a M x C|bad(h:RG āV):oR a M x a.c8
def oR.say{M:bJ}{Z:ZS}{c:Nat}{Q:VK}{E:XK}{x:Str}{C:Addr}(h:oR a M x C)(q:XC C H E):Li P w K a H M Z c Q E x:=by cases h with|ask e h t b d=>show .ask e h t b d q|bad h=>show .bad h q
inductive SM(P:Zu)(w:World)(K:Zp)(a:ja)(vs:Ú)(H:Hp)(Q:VK)(_E:XK):Prop|mk(dk:Addr)(M:bJ)(Z:ZS)(c:Nat)(d:Dd)(xs:Ú)(_:vs=[â dk,á d.rd.txt])(_:Ll a H dk āG)(_:cK P w K a H M Z c)(_:c<=62)(_:i9 K H M d xs)(_:Cn d.rd)(_:Gz M)(_:ēm d.rd.txt.length)(_:(Ēd->∀(b:Bool)(dv:Addr)(M':bJ)(Z':ZS)(H':Hp),hU M d M'->iF H M Z H' M' Z'->cK P w K a H' M' Z' (c+1)->{ĒE,Z.ds++ŝ dv}->fK K H' Č7 d.rd.txt->Q Āw H'))(_:(ćm->{ϖ,ao H H',Q Ćf H'}))
inductive SX(P:Zu)(w:World)(K:Zp)(a:ja)(vs:Ú)(H:Hp)(Q:VK)(_E:XK):Prop|mk(dk:Addr)(x:Str)(M:bJ)(Z:ZS)(c n:Nat)(C:Addr)(_:vs=[â dk,ħ])(_:ĄF)(_:Ll a H dk āG)(_:cK P w K a H M Z c)(_:c<=62)(_:oR a M x C)(_:(OF a)[n]?=Ù C)(_:{ϖ,ao H H',Q {ã,ϩ+1} H'})
section
def M3(T:ä)(p:ćt):aT P w K mg base dw 21 a.Dm.x a.Dm.d ĊK (SM P w K a):=by
 show T.Dm.okc Mp λH B r h=>?_
 ·have(dk,M,Z,c,d,C,(),(dx,e),s,hc,t,ok,u,f,q,n):=h;show{_,(ae (Qm K () () () T.sP () T.vg (λE o D F f=>(Jg {Aa,IQ,Y 0,T.j7,T.eZ.m,(lS T p).mono ß,r,T.eZ.b,f,ac (Y 1) O})) (λG=>(ai (az g9)))) (ai (az g9))),?_}
  show mm e () () (!{dk,d.rd.txt,M,Z,c,(),f,{_,e},s,hc,.deed t ok u (λg I v y z H' _ nx st i j A=>?_) (λk _ H' l=>?_) λk H' l=>?_})
  ·show q g true v y z H' nx st i j A
  ·show !{T.pB,n k H' l}
  ·show !{T.pC,n (Dd.clo_adds k) H' l}
def M7(T:ä)(u:ćt):aT P w K mg base dw 21 a.Dp.x a.Dp.d ĊK (SX P w K a):=by
 show T.Dp.okc pJ λH S k h=>?_
 ·have(dk,x,M,Z,c,n,C,(),l,(dx,g),y,hc,z,A,q):=h;show{_,(ae (bd 2 pJ.nd tD) (ae (Qn 3 K () () () T.sP () T.vg pJ.nd (λE r W X l=>(MS (Jg {Aa,IQ,Y 0,T.j7,T.eZ.m,(lS T u).mono ß,k,T.eZ.b,l,ac (Y 1) O}))) (λf=>(ai (bd 2 pJ.nd (Y 3))))) (ae (bd 4 pJ.nd (a9 (ac {Āc,rf K (),ac (Y 2) (ac (bV (v:=ĄI) {_,T.IT,()} ()) O)} (ac {Āc,rf K (),ac (Y 2) (ac (bV (v:=ĄK) {_,T.CQ,()} ()) O)} (ac {Āc,rf K (),ac (Y 2) (ac (bV (v:=ĄL) {_,T.AI,()} ()) O)} O))))) {ZR,fe (aE Fv {č8,cg,K,(),PySem.F.slot_list_count,PySem.F.type_list_count,Hh K () (c7 k),Y 4,ac g9 O} ah (aG _)) (dI (cI (aY K () {Āc,rf K (),ac (Y 2) (ac (kj () T.D4 L2.yV) O)} Ī))),ai (az ah),ai (az (au cu {č8,cg,K,(),PySem.F.slot_list_index,PySem.F.type_list_index,Hg K () (c7 k),Y 4,ac g9 O} ah))}))),?_}
  have e:=on3 T A;rw[Ŧ,aB (oE ?_),mm g () () (!{dk,x,M,Z,c,(),l,{_,g},y,hc,z.say λH1 B=>{é,C,e.un,λf o=>nz o λH2 D i=>?_}}),{āk,(),aB (oE ?_)},{āk,(),f,C,ĄI,ĄI,_,(()),i,e.ei,Ąi (),e.k0,?_}];rw[Ŏ,{āk,(),f,C,ĄK,ĄK,_,(()),i,e.ei,Ąi (),e.k1,?_},{āk,(),f,C,ĄL,ĄL,_,(()),i,e.ei,Ąi (),e.k2,?_},{ls (),λL G=>nz G λs t I=>aB (oE ?_)}];have j:s L={ò,ČZ [Ă4 0,Ă4 1,Ă4 2].map}:=I;have p:={ċX,D.trans t};have J:∀n<3,[Ă4 0,Ă4 1,Ă4 2].countP id=1/\[Ă4 0,Ă4 1,Ă4 2][n]?=ā8/\∀m<n,[Ă4 0,Ă4 1,Ă4 2][m]?=ĉd:=ß
  have(N,Q,R):=J n e.lt;rw[Ģ,!{à {(),_,å j},L,!{(),å j,(),ă}},N];rw[ö,ce {āk,(),f,C,ĝ0 .ty,ć3,true,(()),t _ _ i,e.ei,à Λ,e.kv,true,(),ce (oE ?_)},!{à {(),_,å j},L,_,n,(),(),å j,ļ e.lt,Q,R,_,!{ą,q s p}}]
omit e
inductive Pc|s(x:Str)|l|t
noncomputable def Pc.v(l t:Str):Pc->Str|.s x=>x|.l=>l|.t=>t
noncomputable def Sb(l t:Str):Ĉ7->Str|[]=>{#[]}|p::r=>r.foldl (λa q=>a++q.v l t) (p.v l t)
inductive Tc|c(n:Nat)|l|t
noncomputable def Tc.v(l t:Str):Tc->ċK|.c n=>[n]|.l=>l.cps.toList|.t=>t.cps.toList
noncomputable def Pc.k:Pc->Ăv|.s x=>ĥm .c|.l=>[.l]|.t=>[.t]
noncomputable def rR(l t:Str)(b:Ăv):Str:={{ăW,b.flatMap,Tc.v l t}}
def wk{l t:Str}{b:Ăv}:{ĉm,rR l t b,{ěn,Tc.v l t}}:=rfl
def Ie{l t:Str}{xs b:Ăv}:rR l t (xs++b)=rR l t xs++rR l t b:=jU (by rw[bK,wk,wk,wk,List.flatMap_append])
def Pc.tc{l t:Str}:∀p:Pc,rR l t p.k=p.v l t|.s x=>jU (by
   change((ĥm Tc.c).flatMap (Tc.v l t))=x.cps.toList;generalize x.cps.toList=cs
   induction cs with|nil=>rfl|cons c r a=>rw[kw,I_,a];rfl)|.l=>jU (by change([Tc.l].flatMap (Tc.v l t))=l.cps.toList;rw[I_,Za,l_];rfl)|.t=>jU (by change([Tc.t].flatMap (Tc.v l t))=t.cps.toList;rw[I_,Za,l_];rfl)
def Uu{l t:Str}(d:Ĉ7):Sb l t d=rR l t (d.flatMap Pc.k):=by cases d with|nil=>rfl|cons p r=>
  have go:∀(r:Ĉ7)(a:Str)(b:Ăv),a=rR l t b->r.foldl (λa q=>a++q.v l t) a=rR l t (b++r.flatMap Pc.k):=by
   intro r
   induction r with|nil=>intro a b e;rw[ý,Za,l_,e]|cons q r c=>intro a b e;rw[rV,c _ (b++q.k) (ĀU Ie e q.tc),I_,me]
  rw[ó,I_,go r _ _ p.tc.symm]
noncomputable def NW:Ās Tc|.c n=>n==32|_=>false
noncomputable def O4:Ăv->ĉ Ăv|[]=>[[]]|x::r=>match O4 r with|w::a=>{Ě,NW x,[]::w::a,(x::w)::a}|[]=>[[x]]
def L4(b:Ăv):O4 b≠[]:=by cases b with|nil=>show nofun|cons x r=>unfold O4;cases O4 r with|nil=>show nofun|cons w a=>
   change{Ě,NW x,[]::w::a,(x::w)::a}≠[]
   split<;>show nofun
def J0{l t:Str}(m:iQ 32 l)(o:iQ 32 t)(d:Ăv):{ğ,{ś,O4,d} (rR l t)}=rR l t d/\∀w∈O4 d,iQ 32 (rR l t w):=by
 have one:∀(x:Tc)(w:Ăv),rR l t (x::w)=rR l t [x]++rR l t w:=λx w=>Ie (xs:=[x])
 induction d with|nil=>show{ą,λw g=>by rw[ęk,Ň g]}|cons x r p=>
  have(j,f):=p;have(w,b,e):={ġU,L4 r};unfold O4;rw[e]at j f⊢;change {ğ,{Ě,NW x,[]::w::b,(x::w)::b}.map (rR l t)}=_/\∀v∈{Ě,NW x,[]::w::b,(x::w)::b},_
  by_cases a:Ą NW x
  ·rw[hY a];show{?_,λw g=>{đY,g} (λz=>by rw[ęk,z]) (f w)};rw[kw,kh " " _ (by rw[ęk,kw]),j,one];have q:rR l t [x]=ϔ:=by cases x with|c n=>rw[{Ĩ,n,32,ĀI a},vJ];rfl|l=>cases a|t=>cases a
   rw[ó,q,jU (by rw[bK,bK];rfl)]
  ·rw[hF a];have s:iQ 32 (rR l t [x]):=by cases x with|c n=>show{ÿ,a,by rw[Ĩ n 32 {Ň,Ēo 32 [n] z}.symm];rfl}|l=>show(Pc.tc (l:=l) (t:=t) .l)▸m|t=>show(Pc.tc (l:=l) (t:=t) .t)▸o
   show{?_,λv h=>?_}
   ·rw[one,<-j];cases b with|nil=>rw[ż,rR l t (x::w)=_,one];rfl|cons u i=>have k:rR l t u::i.map (rR l t)≠[]:=nofun;change {ğ,rR l t (x::w)::(rR l t u::i.map (rR l t))}=_++{ğ,rR l t w::(rR l t u::i.map (rR l t))};rw[kh " " (rR l t (x::w)) k,kh " " (rR l t w) k,one x w];show fB _ _ _
   ·rw[Ćb,h]
    rw[Ĺ,one,qC s (f w f_)]
    ·show f v (fy _ h)
def K1{l t:Str}(d:iQ 32 l)(e:iQ 32 t)(b:Ĉ7):{ĊH,Sb l t b}={ś,O4,ĖT} (rR l t):=by have(j,f):=J0 d e ĖT;rw[Uu,<-j];show kJ vJ (λz=>L4 _ (YJ.mp z)) Ğ4;have(w,c,()):=ĀX;show f w c
inductive Wo|f(s:Str)|h|b
inductive Ey:Ė Wo Str|f{s:Str}:Ey (.f s) s|h{x:Str}:Ey .h x|b{x:Str}(h:10∈x.cps.toList):Ey .b x
noncomputable def zd:Ăv->ŭ ċK|[]=>Ù []|.c n::r=>{ś,zd,r} (n::·)|_::_=>none
noncomputable def Uf:Ās Tc|.c n=>n==10|_=>false
noncomputable def Sm(d:Ăv):Wo:=match zd d with|some cs=> .f ě3|none=>if d.any Uf then .b else .h
def HQ{l t:Str}:∀{b:Ăv}{cs:Zy},zd b=Ù cs->{ěn,Tc.v l t}=cs:=by
 intro b
 induction b with|nil=>intro cs e;cases e;rfl|cons x r a=>intro cs e;cases x with|c n=>have(ds,d,()):=āy e;rw[I_,a d];rfl|l=>cases e|t=>cases e
def O8{l t:Str}(d:Ăv):Ey (Sm d) (rR l t d):=by unfold Sm;cases e:zd d with|some cs=>rw[ó,{Ĩ,rR l t d,ě3,by unfold rR;rw[HQ e]},.f]|none=>
  change Ey {Ě,d.any Uf,Wo.b,Wo.h} _
  by_cases h:ęu Uf
  ·rw[hY h];show .b ?_;have(x,g,a):=ĆB h;show List.mem_flatMap.mpr {x,g,?_};cases x with|c n=>rw[ó,{Ĩ,n,10,ĀI a},ĉl]|l=>cases a|t=>cases a
  rw[ų,hF h,.h]
noncomputable def sC(s:Str)(m:Nat)(x:Str):Bool:=ĝW 1&&({Ċ,ā1 m}&&{ěm,λc=>{Ċ,ĕl c}})
def Fx{s:Str}{m:Nat}{x:Str}(h:oU s m x):{î,sC s m x}:=by unfold sC;rw[ji h.lo,ji h.hi,Bool.true_and,Bool.true_and];show Zb.mpr λc hc=>ji (h.cs c hc)
noncomputable def FI(x:Str)(p:ĉC):Bool:=match ĊN x with|some n=>(bR n==x)&&p n|none=>false
def y7{x:Str}{n:Int}{p:ĉC}(h:fj x n)(b:Ą p n):ķ FI x p:=by unfold FI;rw[h.reads];change{î,(bR n==x)&&p n};rw[ü,b,r4];rfl
noncomputable def DQ(x:Str):ċ:=if x=="-"then[]else āz x ","
def CJ(x:Str):DQ x=eU x:=by
 unfold DQ
 rw[ĆN,x,"-"]
 ·rw[hY {Þ,h,r4 _},h,kQ]
 ·rw[hF {ÿ,h,ĀI z},eI h]
noncomputable def RY:Fo->Ās Wo|.word,.f s=>{Ŀ,sC j5 12 s}|.guest,.f s=>{Ŀ,sC iJ 24 s}|.word,.b=>true|.guest,.b=>true|.count,.f s=>{Ŀ,FI s λn=>āg 0 n}|.total,.f s=>{Ŀ,FI s λn=>āg 0 n&&{Ċ,Ŭ n}}|.counts,.f s=>(DQ s).any λp=>{Ŀ,FI p λn=>āg 0 n}|.marks,.f s=>(DQ s).any λp=>{Ŀ,ϗ FI {đi,p,"="}.2.2 true}|_,_=>false
def Ng{s:Str}{m:Nat}{x:Str}(h:oU s m x)(b:{ĉv,ĕl 10}):10∉x.cps.toList:=λz=>by have:=h.cs 10 z;rw[ji this]at b;cases b
def II{b:Type}{R:ĀR b}{d:Zv}{l:ZO}(h:ĀY R d):∀p∈d,∃n∈l,R p n:=by induction h with|nil=>show Ģq|cons h _ c=>
  intro p a;rw[ăU,a]
  ·show{_,f_,h}
  ·have(n,hn,r):=c p a;show{n,fy _ hn,r}
def Nh{f:Fo}{w:Wo}{x:Str}{t:Th}(h:ķ RY f w)(o:Ey w x):¬xr f x t:=by intro(ok,());have d:=Vl.of ok;cases o with
 |h=>cases f<;>cases h|b j=>cases f with
  |word=>cases t with|s w=>show Ng ok Ý j|_=>show ok
  |guest=>cases t with|s w=>show Ng ok Ý j|_=>show ok
  |_=>cases h
 |f=>cases f with
 |word=>cases t with|s w=>rw[ĂD,î {Ŀ,sC j5 12 w}];rw[ĀO,Fx ok,h]|_=>show ok
  |guest=>cases t with|s w=>rw[ĂD,î {Ŀ,sC iJ 24 w}];rw[ĀO,Fx ok,h]|_=>show ok
  |count=>cases t with|n i=>rw[ĂD,î {Ŀ,FI (bR i) λn=>āg 0 n}];rw[ĀO,y7 (x:=bR i) (n:=i) (p:=λn=>āg 0 n) d (ji ok.1),h]|_=>show ok
  |total=>cases t with|n i=>rw[ĂD,î {Ŀ,FI (bR i) λn=>āg 0 n&&{Ċ,Ŭ n}}];rw[ĀO,y7 (x:=bR i) (n:=i) (p:=λn=>āg 0 n&&{Ċ,Ŭ n}) d (by change{î,āg 0 i&&{Ċ,Ŭ i}};rw[ji ok.1,ji ok.2];rfl),h]|_=>show ok
  |counts=>cases t with|ns l=>have(p,c,h):=ĆB h;rw[CJ]at c;have(n,hn,r):=II (show Đ9 _ from d) p c;rw[ĀO,y7 r (ji (ok.1 n hn).1),h]|_=>show ok
  |marks=>cases t with|ms l=>have(p,c,h):=ĆB h;rw[CJ]at c;have(m,hm,r):=II (show ĀY ii _ from d) p c;have(a,s,b,e,_,_,_,g):=wK p;rw[e]at h;rw[ĀO,y7 (g m r).2 (),h]|_=>show ok
  |_=>cases h
noncomputable def AC:Ū->ğh|[],[]=>false|f::fs,w::a=>RY f w||AC fs a|_,_=>true
def FK{fs:Ū}{b:ęs}{e:Zv}(f:Đ Ey b e):ķ AC fs b->∀d,¬rp fs e d:=by induction f generalizing fs with|nil=>intro h d k;cases k;cases h|cons h0 _ a=>intro h d k;cases k with|cons k1 k2=>
   rcases XQ _ _▸{Đp,_||_,h}with h|h
   ·show Nh h h0 k1
   ·show a h _ k2
noncomputable def m4:ĒY:=[("place",ĐI .guest),("owner",ĉ2),("places",ėb),("shares",ă0),("stand",ėv),("ever",ėv),("would",đI),("who",ă0),("points",ėb),("meet",[.word,.word,.word,.word]),("text",[])]
noncomputable def zb:ĒY:=[("layer",ĉ2),("share",ĜM),("deal",[.word,.total,.weights]),("hold",ĉ2),("pause",ă0),("go",ă0),("close",ă0),("bar",ĝD),("visit",đI)]
noncomputable def Bv(tab:ĒY)(k:Str):ŭ Ū:={ď5,tab.find?,λx=>ï==k}
def LD{tab:ĒY}{k:Str}{fs:Ū}(h:Bv tab k=Ù fs):(k,fs)∈tab:=by have(x,a,()):=āy h;have e:ï=k:=ĀI (Zm a:);rw[π,e,wh a]
def Wb{k:Str}{fs:Ū}(h:Bv m4 k=Ù fs):Bu k fs:=by have:=LD h;simp only[m4,q_,n6,E1,Prod.mk.injEq]at this;have((),())||((),())||((),())||((),())||((),())||((),())||((),())||((),())||((),())||((),())||((),()):=this<;>constructor
def T0:∀k∈Ag,{î,Āk Bv m4 k}:=Ý
def T6{k:Str}{fs:Ū}(h:sV k fs):Bv zb k=Ù fs:=Ĝ3 h
noncomputable def Xp:ğh|[]=>true|[.f s]=>{Ŀ,s=="any"}|[.f s,.f u]=>s=="any"|_=>false
def Ut{g:ęs}{i:Zv}(d:Đ Ey g i)(h:Ą Xp g):∀r,¬xu i r:=by intro r⟨e,_⟩;cases d with|nil=>show r.toks_ne e.symm|cons h0 d=>cases d with
 |nil=>cases h0 with
   |f=>rw[ĂD,î {Ŀ,_==Ę "any"}];cases r with|any=>rw[đJ,(il e).1,r4,h]|has w=>show nomatch(il e).2|least w n=>show nomatch(il e).2|not q=>show q.toks_ne (il e).2.symm|both q p=>show q.toks_ne (D_.mp (il e).2.symm).1|either q p=>show q.toks_ne (D_.mp (il e).2.symm).1
   |h=>cases h|b _=>cases h
  |cons h1 d=>cases d with
 |nil=>cases h0 with
    |f=>cases h1 with
     |f=>rw[ĂD,{Ξ,_,Ę "any"}];rw[ĀI h]at e;cases r with|any=>show nomatch(il e).2|has w=>rw[ăj,il e]|least w n=>rw[ăj,il e]|not q=>rw[ăj,il e]|both q p=>rw[ăj,il e]|either q p=>rw[ăj,il e]
     |h=>cases h|b _=>cases h
    |h=>cases h|b _=>cases h
   |cons h2 d=>cases h0<;>cases h1<;>cases h
noncomputable def WD:ğh
 |.f k::r=>if k=="example"then Xp r else {ĐE,Bv,m4,k,AC fs r,if k=="trial"then (āg r.length 4)else {ĐE,Bv,zb,k,AC fs r,true}}
 |_=>false
def Rt{g:ęs}{j:Zv}(i:Đ Ey g j)(h:Ą WD g):RG j:=by cases i with|nil=>cases h|@cons w k g j h0 i=>cases h0 with|h=>cases h|b _=>cases h|f=>
   have h:î {Ě,k==Ę "example",Xp g,{ĐE,Bv,m4,k,AC fs g,{Ě,k==đC,āg g.length 4,{ĐE,Bv,zb,k,AC fs g,true}}}}:=h
   show{k,j,(),?_}
   by_cases e:{Ξ,k,Ę "example"}
   ·rw[hY e]at h;rw[ţ,{ĀI e,Ut i h}]
   rw[hF e]at h;cases a:Bv m4 k with|some fs=>rw[a]at h;rw[Ĉ,à {fs,Wb a,FK i h}]|none=>
    rw[a]at h;have h:î {Ě,k==đC,āg g.length 4,{ĐE,Bv,zb,k,AC fs g,true}}:=h
    show θ {ÿ e {ąl,r4 _},{ę4,T0 k z,a},ċ9};have(x,A,c,_,m,o):=hd.inv;have((),()):=il c
    by_cases z:Ξ k đC
    ·rw[hY z]at h;have B:=kl h;have(n,l,C,D,E,toks,r,p,h1,h2,_):=o (ĀI z);have q:=ĞT;have F:0<toks.length:={Þ,h2.1,YK.mpr r.toks_ne}
     have s:=ř i;rw[p,gV,q]at s;have:Sy.length=4:=();lia
    ·rw[hF z]at h;have(fs,t,u,v,_):=m (λy=>z {Þ,y,r4 _});rw[Ą3,T6 u,FK i h _ v]
noncomputable def Fh:ĉ Ĉ7:=[[.s ""],[.s "text "],[.s " text"],[.s "text now"],[.s "Text"],[.s "help"],[.s "place ",.l],[.s "place ",.l,.s " Ann"],[.s "place  ann7"],[.s "place ",.l,.s " ann7 0"],[Čf,.l],[Čf,.l,.s " -1"],[Čf,.l,.s " 01"],[Čf,.l,.s " x"],[.s "places ",.t],[.s "places ",.t,.s " Arm"],[.s "shares"],[.s "shares ",.t,.s " "],[.s "stand Ann"],[.s "stand "],[.s "ever"],[.s "ever ann7 ann7"],[.s "would ann7"],[.s "would ann7 age"],[.s "would Ann -"],[.s "who"],[.s "who Soap"],[.s "points ",.t],[.s "points"],[.s "meet ",.t,.s " a ",.t],[.s "example"],[.s "example has"],[.s "example any any"],[.s "examples any"],[.s "would ann7 - "],[.s "wouldn ann7 -"],[.s "text\n"],[.s "who soap\n"],[.s "shares ",.t,.s "\n"],[.s "example any\n"],[.s "would ann7 -\n"],[Čf,.l,.s " 1_0"],[Čf,.l,.s " +1"],[Čf,.l,.s " 1 "],[.s "pause  ",.t],[.s "hold ",.l,.s " 01"],[.s "layer Aa 1"],[.s "visit ann7"],[.s "share ",.t,.s " 1,"],[.s "close ",.t,.s " "],[.s " bar ann7 ",.t],[.s "deal ",.t,.s " 1001 1"],[.s "go"],[.s "layer upper -1"],[.s "trial new ",.l,.s " a any"],[.s "bar Ann ",.t],[.s "Pause ",.t],[.s "visit ann7 age=01"]]
noncomputable def Xr(b:Ĉ7):Bool:=WD ({ś,O4,ĖT} Sm)
def Mt:∀b∈Fh,Ą Xr b:=Ý
def Qe{l t:Str}(d:Wd l)(e:Wd t){b:Ĉ7}(h:b∈Fh):RG {ĊH,Sb l t b}:=by
 rw[K1 (d.free ß) (e.free ß)];show Rt ?_ (Mt b h);generalize O4 ĖT=a
 induction a with|nil=>rw[Z5]|cons w a c=>show {ē,O8 w,c}
noncomputable def EI(x:Str):Bool:=Ą4 x "nosuchlayer"&&(Ą4 x "nosuchtrial"&&(Ą4 x "nosuch"&&Ą4 x "nosucharm"))
def J5:Čk 12 {Ą,EI,zu i}:=Ý
def QN:∀r∈ZT 4,{Čk,11,∀c∈ZT 26,{Ą,EI,Kv (EO r) Ő c}}:=Ý
def wc(k N:Int):{Ą,EI,df k N}:=by
 unfold df;rw[ė7,bS (k+N/80) {Ĥ,û<12},bS (k+N/80) {Ĥ,û<26}];have b3:=bS N {Ĥ,û<4};have b4:=HU N;have b5:=wq N
 split
 ·show J5 _ (by rw[pa];exact o'20 b1)
 ·rw[ĉy,QN (Ϟ N 4) (by rw[pa];exact o'21 b3) (Gx N).toNat (by rw[pa];lia) {ĆO,k+N/80} (by rw[pa];exact o'22 b2),{ύ,Ď (Gx N).toNat=Gx N}]
def lT{x:Str}{ns:Zv}(h:∀y∈ns,Ą EI y)(b:{ć,EI x}):x∉ns:=λz=>by rw[h x z]at b;cases b
def jA.la_odd{ns:ZA}{M:bJ}(h:jA ns M):∀x∈ό,Ą EI x:=λx a=>by have(l,hm,()):=ĀX;rw[ĄG,hm];rw[ó,(h.ln i l hi).1,wc _ _]
def jA.tr_odd{ns:ZA}{M:bJ}(h:jA ns M):∀x∈Δ,Ą EI x:=λx a=>by have(t,hm,()):=ĀX;rw[ĄG,hm];rw[ó,(h.tn i t hi).1,wc _ _]
def jA.arm_odd{ns:ZA}{M:bJ}(h:jA ns M){j:Nat}{t:dS}(b:ĀD=ϒ):∀x∈t.arms,Ą EI x:=λx a=>by rw[(h.tn j t b).2]at a;have(j,_,()):=ĀX;show wc _ _
structure LT(ns:ZA)(M:bJ)(c:Nat)(l t:Str):Prop where
 ok:oY M c
 pn:jA ns M
 l:∃(i:Nat)(u:cH),ī=ð/\l=u.nm
 t:{ĕq,ĀD=ð,t=u.nm}\/t="nosuch"
def EF{x:Str}(h:{î,sC j5 12 x}):Wd x:=by unfold sC at h;rw[k_,k_]at h;show{kl ü,kl Ŗ,λc hc=>kl (Zb.mp ĀA c hc)}
def gsD{x:Str}(h:{î,sC iJ 24 x}):Dr x:=by unfold sC at h;rw[k_,k_]at h;show{kl ü,kl Ŗ,λc hc=>kl (Zb.mp ĀA c hc)}
section
variable{ns:ZA}{M:bJ}{c:Nat}{l t:Str}
def LT.lw(h:LT ns M c l t):Wd l:=by have(i,u,hi,()):=h.l;show(h.ok.la u (e_ hi)).wd
def LT.tw(h:LT ns M c l t):Wd t:=by
 rw[ěi]
 ·show(h.ok.tr u (e_ a)).wd
 ·show EF Ý
def LT.noA(h:LT ns M c l t):lq M t "nosucharm":=by
 rw[ěi]
 ·rw[Ĉ,{j,u,a,(),EF Ý,lT (h.pn.arm_odd a) Ý}]
 ·rw[ţ,{EF Ý,đW lT Ý}]
def LT.noT(h:LT ns M c l t)(y:Str):lq M "nosuchtrial" y:=à {EF Ý,đW lT Ý}
def LT.arm(h:LT ns M c l t):lq M t (df 0 (dz ns 3 4))\/Gw M t (df 0 (dz ns 3 4)):=by
 rw[ěi]
 ·show æ {j,u,a,(),?_};have h1:=(h.ok.tr u (e_ a)).a1;rw[ó,(h.pn.tn j u a).2,ăa {0,pa.mpr h1,()}]
 ·rw[ţ,à {EF Ý,đW lT Ý}]
omit e
def Pf{x:Str}(h:Wd x):xr .word x (.s x):=œ h
def W4{x:Str}(h:Dr x):xr .guest x (.s x):=œ h
def SL{x:Str}{b:Zv}(e:x=ğ b)(d:ú [])(f:∀w∈b,iQ 32 w):āV=b:={Þ,e,kJ vJ d f}
def OP{M:bJ}{x k:Str}{fs:Ū}{b:Zv}{ts:Μ}{C:Addr}(e:x={ğ,k::b})(d:iQ 32 k)(h:Bu k fs)(t:rp fs b ts)(f:∀w∈b,iQ 32 w)(g:∀t∈ts,UH t)(i:vX a M k (ts.map WT) C):oR a M x C:= .ask (SL e (nofun) λw c=>{đY,c} (λz=>ąl d) (f w)) h t g i
def Wd.fr{x:Str}(h:Wd x):iQ 32 x:=h.free ß
section
variable{ns:ZA}{M:bJ}{c:Nat}{l t:Str}
def Qh(h:LT ns M c l t):oR a M "place nosuchlayer ann7" a.bB:= .ask (k:="place") (ws:=["nosuchlayer","ann7"]) (ts:=[.s "nosuchlayer",.s "ann7"]) Ý .place {μ,Pf (EF Ý),W4 (gsD Ý)} (λt b=>by have()||b:=Ű b;rw[ϑ,.s,Ň b,.s]) (.place (EF Ý) (lT h.pn.la_odd Ý))
def V0{i:Int}(h0:0<=i)(h1:Ąc):xr .count (bR i) (.n i):=œ (h0,h1,)
def Qi(h:LT ns M c l t):oR a M "owner nosuchlayer 999" a.bB:= .ask (k:="owner") (ws:=["nosuchlayer","999"]) (ts:=[.s "nosuchlayer",.n 999]) Ý .owner {μ,Pf (EF Ý),V0 ß Ý} (λt b=>by have()||b:=Ű b;rw[ϑ,.s,Ň b,.n]) (.owner (EF Ý) (lT h.pn.la_odd Ý))
def Fn(h:LT ns M c l t){x:Str}{i:Int}(e:x=ğ ["owner",l,bR i])(h0:Ϥ<=i)(h1:Ąc):oR a M x a.cG:=by
 have f:=h.lw;have(j,u,g,()):=h.l;show OP (ts:=[.s u.nm,.n i]) e (fO Ý) .owner {μ,Pf f,V0 Ø h1} (λw b=>?_) (λt d=>by have()||d:=Ű d;rw[ϑ,.s,Ň d,.n]) (.beyond g Ø h0);have()||b:=Ű b
 ·show f.fr
 rw[āW,b,nq ß ß]
def Vf{b:Zv}:∀t∈Ϯ Th.s,UH t:=λt a=>by have(w,_,()):=ĀX;show .s
def O9{b:Zv}(h:∀w∈b,Wd w):rp {Ϯ,λ_=>Fo.word} b (Ϯ Th.s):=by induction b with|nil=>rw[Z5]|cons w b a=>show {ē,Pf (h w f_),a λx d=>h x (fy _ d)}
def vN{x k:Str}{ws:Zv}{C:Addr}(e:x={ğ,k::ws})(d:{ĉv,32∈k.cps.toList})(h:Bu k (ws.map λ_=>Fo.word))(b:ĒB Wd w)(f:vX a M k (Ş ws.map) C):oR a M x C:=OP (ts:=ws.map Th.s) e (fO d) h (O9 b) (λw q=>(b w q).fr) Vf (Þ rr f)
def GA{x y:Str}(h:Wd x)(k:Wd y):∀w∈[x,y],Wd w:=λw a=>{đY,a} (λe=>e▸h) λe=>(Ň e)▸k
def VF(h:LT ns M c l t):oR a M "who nosuchtrial" a.bB:=vN (k:="who") (ws:=ģY) Ý Ý .who (λw b=>{Þ,Ň b,EF Ý}) (.who (EF Ý) (đW lT Ý))
def Mx(h:LT ns M c l t):oR a M "shares nosuchtrial" a.bB:=vN (k:="shares") (ws:=ģY) Ý Ý .shares (λw b=>{Þ,Ň b,EF Ý}) (.shares (EF Ý) (đW lT Ý))
def Fl{x y z:Str}(e:x=ğ ["places",y,z])(b:Wd y)(d:Wd z)(h:lq M y z):oR a M x a.bB:=vN (k:="places") (ws:=[y,z]) e Ý .places (GA b d) (.places h)
def Fk{x y z:Str}(e:x=ğ ["points",y,z])(b:Wd y)(d:Wd z)(h:lq M y z):oR a M x a.bB:=vN (k:="points") (ws:=[y,z]) e Ý .points (GA b d) (.points h)
def GY{x y z u v:Str}(e:x=ğ ["meet",y,z,u,v])(d:Wd y)(f:Wd z)(g:Wd u)(i:Wd v)(h:lq M y z\/(Gw M y z/\lq M u v)):oR a M x a.bB:=vN (k:="meet") (ws:=[y,z,u,v]) e Ý .meet (λw b=>by
  have()||b:=q_.mp b
  ·show d
  ·have()||b:=q_.mp b
   ·show f
   ·show GA g i w b) (.meet h)
omit e
def XD(G:Ăa V)(b:St)(te:TE):Prop:=∀(H:Hp)(Q:VK),(∀v H',ao H H'->G H' v->Q v H')->te b H Q
def yX(G:Ăa V)(b:St)(n:Nat)(d:TA):Prop:=∀(H:Hp)(Q:čN),(∀a H',ao H H'->a.length=n->(∀u∈a,G H' u)->Q a H')->d b H Q
def UR(G:Ăa V)(H:Hp)(n:Nat)(p:Addr):Prop:=∃a,H p=ò a/\a.length=n/\∀u∈a,G H u
def Xf{te:TE}{D:jx}{b:St}(h:te b H D.rt):Pk te D b H:=h
def tZ{te:TE}{i:Nat}{u:TS}{D:jx}{b:St}(h:te b H λx d=>u D (b.set i ù) d):wm (Bw te (k7 i)) u D b H:=h
section
variable{G:Ăa V}{σ:St}{te:TE}{ta:TA}{m n:Nat}{H:Hp}{Q:VK}
def yX.nil:yX G σ 0 zo:=λH Q h=>h [] H ϐ () Ů
def yX.cons(mono:∀{H H' v},ao H H'->G H v->G H' v)(h1:XD G σ te)(h2:yX G σ n ta):yX G σ (n+1) (kI te ta):=λH Q h=>h1 H _ λv b c o=>h2 b _ λd e a f g=>h (v::d) e (Ćn a) (Ē ig f) λu i=>by
 have()||z:=Ű i
 ·show mono a o
 ·show g u z
def Ob(mono:∀{H H' v},ao H H'->G H v->G H' v)(h:yX G σ n ta)(hn:n<=100)(q:∀p H',ao H H'->H p=none->UR G H' n p->Q ł H'):SF ta σ H Q:=h H _ λc g b d e=>{cP Ø,λp a=>q _ _ (am b a) (b.free a) {c,af,d,λu f=>mono (am đ a) (e u f)}}
def R9(mono:∀{H H' v},ao H H'->G H v->G H' v){i:Nat}{p:Addr}(g:UR G H m p)(e:ì σ=ĄB p)(h:yX G σ n ta)(hn:m+n<=100)(q:∀p H',ao H H'->H p=none->UR G H' (m+n) p->Q ł H'):JL VP (nS i) (SF ta) σ H Q:=by
 have(j,k,l,o):=g;show{_,e,Ob (G:=G) (n:=n) mono h Ø λb w a _ c=>?_};have(r,c,d,s):=c;show{p,b,j,r,(),(),a _ _ k,c,cP Ø,λx f=>q _ _ (am a f) (a.free f) {_,af,ĀU gV l d,λu t=>mono (am đ f) ?_}};rw[ĉj,t]
 ·show mono a (o u z)
 ·show s u z
def yW(σ:St)(te:TE)(x:Str)(n:Nat):Prop:=ā1 n/\∀(H:Hp)(Q:VK),Q ħ H->te σ H Q
def yW.c{x:Str}(h:{ēZ,ā1 60}):yW σ (tC ħ) x 60:={kl h,Ăd}
def yW.v{i:Nat}{x:Str}(e:ì σ=ZY ħ)(h:ā1 60):yW σ (nS i) x 60:={h,λ_ _ q=>{_,e,q}}
def yW.add{te b:TE}{x y:Str}{n k:Nat}(h1:yW σ te x n)(h2:yW σ b y k)(hn:{Ďq,n+k}):yW σ (JL {ĐP,x=á i/\y=á j/\{ĩ,i.length+j.length}/\Q {á,i++j} H} te b) (x++y) (n+k):={by rw[cA];rw[Čz,h1.1,h2.1],λH Q q=>h1.2 H _ (h2.2 H _ {_,_,(),(),by rw[ďB,h1.1,h2.1];have:=m3 hn;rw[gg];lia,q})}
def yW.num{i:Nat}{z:Int}(e:ì σ=ZY ı)(h:-bg<=z/\z<=bg):yW σ (Vs (λb H Q=>(∃i,b=[Ŵ]/\ėJ/\Q {á,ăP i} H)\/∃z,b=[į]/\Q į H) (kI (nS i) zo)) (bR z) 60:={g_ (lU h) ß,λH Q q=>{_,e,Or.inl (!{oF h,q})}}
def TL:Qg "9" (ăF 60)=bR (10^60-1):=Ý
def yW.nines:yW σ (JL Mz (tC {á,"9"}) (tC (ã 60))) (bR (10^60-1)) 60:={Ý,λH Q q=>(show Mz {á,"9"} (ã 60) H Q from{"9",60,(),(),ß,ß,Ý,Ý,Ý,āx TL})}
omit e
def Lm(l t:Str)(_:Hp)(v:V):Prop:=∃a,a∈Fh/\v={á,Sb l t a}/\{Œ,Sb l t a,1000}
def Lm.same{l t:Str}{v:V}(_:ao H H')(h:Lm l t H v):Lm l t H' v:=h
def yW.row{l t:Str}{d:St}{te:TE}{b:Ĉ7}{n:Nat}(i:Nat)(h:yW d te (Sb l t b) n)(e:ì Fh=ăr)(hn:Ďq n):XD (Lm l t) d te:=λH _ q=>Ŕ H _ (q _ H ϐ {b,e_ e,(),g_ ü (m3 hn)})
def ze(K:Zp)(a:ja)(M:bJ)(H:Hp)(v:V):Prop:=∃(b:Addr)(x:Str)(n:Nat)(C:Addr),v=ZM/\bj K H b [ħ,{ã,ϩ+1}]/\ā1 1000/\oR a M x C/\(OF a)[n]?=Ù C
def ze.kp{M:bJ}{v:V}(s:Kp H H')(h:ze K a M H v):ze K a M H' v:=by rw[ĤQ];show{b,x,n,C,h1,s.tq h2,h3}
def ze.same{M:bJ}{v:V}(s:ao H H')(h:ze K a M H v):ze K a M H' v:=by rw[ĤQ];show{b,x,n,C,h1,þ s h2,h3}
theorem yW.rw{M:bJ}{b:St}{te:TE}{x:Str}{k:Nat}{C:Addr}{z:Int}(n:Nat)(h:yW b te x k)(d:Ďq k)(e:z=ϩ+1)(f:oR a M x C)(g:(OF a)[n]?=Ù C):XD (ze K a M) b (Pj (kI te (kI (tC ı) zo))):=λH _ q=>Ŕ H _ {cP {Ĥ,2<=65536},λp c=>q _ _ (am ϐ c) {p,x,n,C,(),Ă e Ń,g_ ü (m3 d),f,g}}
inductive Vv(K:Zp)(a:ja)(vs:Ú)(H:Hp)(Q:VK)(_E:XK):Prop|mk(ns:ZA)(M:bJ)(c:Nat)(l t:Str)(_:vs=[āu,Ăx,ĉu])(_:LT ns M c l t)(_:∀(p:Addr)H',ao H H'->UR (ze K a M) H' 11 p->Q ł H')
inductive SQ(K:Zp)(a:ja)(vs:Ú)(H:Hp)(Q:VK)(_E:XK):Prop|mk(ns:ZA)(M:bJ)(c:Nat)(l t:Str)(_:vs=[āu,Ăx,ĉu])(_:LT ns M c l t)(_:∀(p:Addr)H',ao H H'->H p=none->UR (ze K a M) H' 69 p->Q ł H')
section
def wM(T:ä):aT P w K mg base dw 1 a.fW.x a.fW.d čM (Vv K a):=by
 show T.fW.ok gJ λZ A outer s H vs Q E hr h=>?_
 ·rw[Ĥc];show{_,(ae (bd 3 gJ.nd (a9 (ac (bo (ac ak (ac ah O))) (ac (bo (ac ak (ac ah O))) (ac (bo (ac (au aC (au aC (au aC ak (Y 0)) ak) (bh eu ĕ T.lW L2.eO (ac (Y 2) O))) (ac ah O))) O))))) (ae (bd 3 gJ.nd (au eR (Y 3) (a9 (ac (bo (ac (au aC (au aC (au aC ak (Y 0)) ak) (au Qx ak ah)) (ac ah O))) (ac (bo (ac ak (ac ah O))) (ac (bo (ac ak (ac ah O))) O)))))) (ae (bd 3 gJ.nd (au eR (Y 3) (a9 (ac (bo (ac ak (ac ah O))) (ac (bo (ac (au aC (au aC ak (Y 1)) ak) (ac ah O))) O))))) (ae (aR {ăy,cg,K,(),dB,Y 3,ac (bo (ac (au aC (au aC ak (Y 1)) ak) (ac ah O))) O}) (ai (az (au eR (Y 3) (a9 (ac (bo (ac ak (ac ah O))) (ac (bo (ac (au aC (au aC ak (Y 1)) ak) (ac ah O))) O)))))))))),?_}
  have hl:=h.lw;have r:=h.tw;have B:η 60:=g_ hl.hi ß;have D:ćn 60:=g_ r.hi ß;have hp:=h.ok.p;have N:∀{b:St},b[0]?=ZY āu->yW b (nS 0) l 60:=λe=> .v e B;have I:∀{b:St},b[1]?=ğf->yW b (nS 1) t 60:=λe=> .v e D;have tl:=λ{n:Nat}{f:TA}{b:St}{H:Hp}{Q:VK}=>Ob (G:=ze K a M) (n:=n) (ta:=f) (σ:=b) (H:=H) (Q:=Q) ze.same;have tc:=λ{m n:Nat}{f:TA}{b:St}{H:Hp}{Q:VK}{i:Nat}{p:Addr}=>{Ĥb,ze K a M,m,n,f,b,H,Q,ze.same,i,p};have c:∀{b:St}{te:TE}{f:TA}{n k:Nat}{x:Str}{C:Addr}{z:Int}(i:Nat),{ì,OF a}=Ù C->oR a M x C->yW b te x k->Ďq k->z=Ő+1->yX (ze K a M) b n f->yX (ze K a M) b (n+1) (kI (Pj (kI te (kI (tC ı) zo))) f):=λi hC hR h1 hk hz h2=> .cons ze.same (h1.rw i hk hz hR hC) h2;have pn:-bg<=Ϥ/\Ϥ<=bg:=wG hp.2;have j:Ę "owner "=Ę "owner"++ϔ:=Ý
  have e2:Ę "places "=Ę "places"++ϔ:=Ý
  have e3:Ę "points "=Ę "points"++ϔ:=Ý
  have R:Ĥd=ϔ++ĤR:=Ý
  have e6:Ę "meet nosuchtrial a "=Ę "meet"++ϔ++ģJ++ϔ++Ę "a"++ϔ:=Ý
  have e7:Ę " a"=ϔ++Ę "a":=Ý
  have J:Wd "nosuchtrial":=EF Ý;have S:Wd "nosucharm":=EF Ý;have y:Wd "a":=EF Ý;rw[Ŏ,tZ (tl (n:=3) (c 1 () (Qh h) (.c ()) () () (c 1 () (Qi h) (.c ()) () () (c 2 () (Fn h (i:=M.p) (by rw[j];rfl) (YH _) (j1 (ve pn) Ý)) {Ϗ,{Ă9,.c (),N ()},.c (),.num () pn} () () .nil))) ß ġO),tZ {Ăc,3,3,o1,(),c 2 () (Fn h (i:=10^60-1) (by rw[j];rfl) (Int.le_trans pn.2 Ý) Ý) {Ϗ,{Ă9,.c (),N ()},.c (),.nines} () () (c 1 () (VF h) (.c ()) () () (c 1 () (Mx h) (.c ()) () () .nil)),ß,Ģ7},tZ {Ăc,6,2,o2,(),c 1 () (Fl (x:="places nosuchtrial a") Ý J y (h.noT "a")) (.c ()) () () (c 1 () (Fl {Ŝ,e2,R,(fB _ _ _).symm} r S h.noA) {Ϗ,.c (),I (),.c ()} () () .nil),ß,λV H3 s3 n3 o3=>?_}];have(W,j,X,g1):=o3;rw[ç,!{à {(),_,å j},?_},(c (n:=0) 1 () (Fk {Ŝ,e3,R,(fB _ _ _).symm} r S h.noA) {Ϗ,.c (),I (),.c ()} () () .nil) H3 _ λws H4 L wl hw=>?_];have(v,()):=Yl.mp wl;have g:=L _ _ j;show rA g (by rw[X,gg];lia) (oE ?_);have o4:UR (ze K a M) {ń,H4,V,W++[v]} 9 V:={_,af,by rw[gV,X];rfl,λu hu=>{Ăp,hu} {ÿ,((g1 u z).same L).kp,ø g} λz=>{Þ,ĆD,(hw v f_).kp (ø g)}};have s5:=bw (o:={ø,W++[v]}) (s3.trans L) n3;show Xf {Ăc,9,2,o4,(),c 1 () (Fk (x:="points nosuchtrial a") Ý J y (h.noT "a")) (.c ()) () () (c 1 () (GY {Ŝ,e6,e7,(fB _ _ _).symm} J y r y {à,h.noT "a"}) {Ϗ,.c (),I (),.c ()} () () .nil),ß,λp H' s6 _ o=>q p H' {Ăh,čO ęh} o}
omit e
section
def M5(T:ä):aT P w K mg base dw 2 a.Dn.x a.Dn.d čM (SQ K a):=by
 show T.Dn.ok eW λa3 A outer s H vs Q E hr h=>?_
 ·rw[Ĥc];show{_,{ę3,ae,a9 (ac ak (ac ak (ac ak (ac ak (ac ak (ac ak (ac (au aC ak (Y 0)) (ac (au aC (au aC ak (Y 0)) ak) O)))))))),ae (aR {ăy,cg,K,(),dB,Y 3,ac ak O}) {ēV,ae,au eR (Y 3) (a9 (ac (au aC (au aC ak (Y 0)) ak) (ac (au aC ak (Y 0)) (ac (au aC (au aC ak (Y 0)) ak) (ac (au aC (au aC ak (Y 0)) ak) O))))),ae,au eR (Y 3) (a9 (ac (au aC (au aC ak (Y 0)) ak) (ac (au aC ak (Y 1)) (ac (au aC (au aC ak (Y 1)) ak) (ac ak O))))),{ēV,ae,au eR (Y 3) (a9 (ac (au aC (au aC ak (Y 1)) ak) (ac ak (ac ak (ac ak (ac ak (ac ak O))))))),ae,au eR (Y 3) (a9 (ac ak (ac ak (ac ak (ac ak O))))),{ēV,ae,au eR (Y 3) (a9 (ac (au aC ak (Y 1)) (ac ak (ac (au aC (au aC (au aC ak (Y 1)) ak) (Y 1)) (ac ak (ac ak O)))))),ae,au eR (Y 3) (a9 (ac ak (ac ak (ac ak (ac ak O))))),{ēV,ae,au eR (Y 3) (a9 (ac ak (ac ak (ac (au aC (au aC ak (Y 1)) ak) (ac ak (ac ak O)))))),ae,au eR (Y 3) (a9 (ac (au aC (au aC ak (Y 0)) ak) (ac (au aC (au aC ak (Y 0)) ak) (ac (au aC (au aC ak (Y 0)) ak) O)))),{ēV,ae,au eR (Y 3) (a9 (ac (au aC ak (Y 1)) (ac (au aC (au aC ak (Y 0)) ak) (ac ak (ac ak (ac (au aC (au aC ak (Y 1)) ak) O)))))),ae,au eR (Y 3) (a9 (ac (au aC (au aC ak (Y 1)) ak) (ac (au aC ak (Y 1)) (ac (au aC (au aC ak (Y 1)) ak) (ac ak (ac ak O)))))),{ę3,ae,au eR (Y 3) (a9 (ac (au aC (au aC ak (Y 0)) ak) (ac (au aC ak (Y 1)) (ac (au aC ak (Y 1)) (ac ak O))))),ai (az (au eR (ub EC ĢP [] [4] (aj DL) (bW 4) (eF K () (Y 3)) {ν,nO EC ĢP 4,bo (ac (Y 4) (ac ah O))}) (pc T.fW (wM T) hr (ac (Y 0) (ac (Y 1) (ac (Y 2) O))))))}}}}}}},?_}
  have hl:=h.lw;have ht:=h.tw;have B:∀{j:St},j[0]?=ZY āu->yW j (nS 0) l 60:=λe=> .v e (g_ hl.hi ß);have y:∀{j:St},j[1]?=ğf->yW j (nS 1) t 60:=λe=> .v e (g_ ht.hi ß);have c:∀{j:St}{te:TE}{R:TA}{n k:Nat}{ps:Ĉ7}(i:Nat),ì Fh=Ù ps->yW j te (Sb l t ps) k->Ďq k->yX (Lm l t) j n R->yX (Lm l t) j (n+1) (kI te R):=λi e h1 hk h2=> .cons Lm.same (h1.row i e hk) h2;have tl:=λ{n:Nat}{R:TA}{j:St}{H:Hp}{Q:VK}=>Ob (G:=Lm l t) (n:=n) (ta:=R) (σ:=j) (H:=H) (Q:=Q) Lm.same;have tc:=λ{m n:Nat}{R:TA}{j:St}{H:Hp}{Q:VK}{i:Nat}{p:Addr}=>{Ĥb,Lm l t,m,n,R,j,H,Q,Lm.same,i,p};show tZ (tl (n:=8) (c 0 () (.c ()) () (c 1 () (.c ()) () (c 2 () (.c ()) () (c 3 () (.c ()) () (c 4 () (.c ()) () (c 5 () (.c ()) () (c 6 () {Ă9,.c (),B ()} () (c 7 () {Ϗ,.c (),B (),.c ()} () .nil)))))))) ß ġO);have(V,e1,u1,g1):=o1;show !{à {(),_,å e1},rA e1 (by rw[u1,gg];lia) (oE ?_)};have o1:UR (Lm l t) {ń,H1,p1,V++ě7} 9 p1:={_,af,by rw[gV,u1];rfl,λu I=>{Ăp,I} (λz=>g1 u z) λz=>{_,e_ (i:=8) (),ĆD,{Ĥ,{Ŭ,ϣ "place  ann7"}}}};have s1:=bw (o:={ø,V++ě7}) s1 n1;generalize {ń,H1,p1,V++ě7}=H1 at s1 o1⊢;clear e1 u1 g1 n1;rw[Ŧ,tZ {Ăc,9,4,o1,(),c 9 () {Ϗ,.c (),B (),.c ()} () (c 10 () {Ă9,.c (),B ()} () (c 11 () {Ϗ,.c (),B (),.c ()} () (c 12 () {Ϗ,.c (),B (),.c ()} () .nil))),ß,Ģ7},tZ {Ăc,13,4,o2,(),c 13 () {Ϗ,.c (),B (),.c ()} () (c 14 () {Ă9,.c (),y ()} () (c 15 () {Ϗ,.c (),y (),.c ()} () (c 16 () (.c ()) () .nil))),ß,λp3 H3 s3 _ o3=>?_},tZ {Ăc,17,6,o3,(),c 17 () {Ϗ,.c (),y (),.c ()} () (c 18 () (.c ()) () (c 19 () (.c ()) () (c 20 () (.c ()) () (c 21 () (.c ()) () (c 22 () (.c ()) () .nil))))),ß,λp4 H4 s4 _ o4=>?_},tZ {Ăc,23,4,o4,(),c 23 () (.c ()) () (c 24 () (.c ()) () (c 25 () (.c ()) () (c 26 () (.c ()) () .nil))),ß,λp5 H5 s5 _ o5=>?_}];rw[Ŧ,tZ {Ăc,27,5,o5,(),c 27 () {Ă9,.c (),y ()} () (c 28 () (.c ()) () (c 29 () {Ϗ,{Ă9,.c (),y ()},.c (),y ()} () (c 30 () (.c ()) () (c 31 () (.c ()) () .nil)))),ß,λp6 H6 s6 _ o6=>?_},tZ {Ăc,32,4,o6,(),c 32 () (.c ()) () (c 33 () (.c ()) () (c 34 () (.c ()) () (c 35 () (.c ()) () .nil))),ß,λp7 H7 s7 _ o7=>?_},tZ {Ăc,36,5,o7,(),c 36 () (.c ()) () (c 37 () (.c ()) () (c 38 () {Ϗ,.c (),y (),.c ()} () (c 39 () (.c ()) () (c 40 () (.c ()) () .nil)))),ß,λp8 H8 s8 _ o8=>?_},tZ {Ăc,41,3,o8,(),c 41 () {Ϗ,.c (),B (),.c ()} () (c 42 () {Ϗ,.c (),B (),.c ()} () (c 43 () {Ϗ,.c (),B (),.c ()} () .nil)),ß,λp9 H9 s9 _ o9=>?_}];rw[Ŏ,tZ {Ăc,44,5,o9,(),c 44 () {Ă9,.c (),y ()} () (c 45 () {Ϗ,.c (),B (),.c ()} () (c 46 () (.c ()) () (c 47 () (.c ()) () (c 48 () {Ϗ,.c (),y (),.c ()} () .nil)))),ß,λa5 a6 ad _ ag=>?_},tZ {Ăc,49,5,ag,(),c 49 () {Ϗ,.c (),y (),.c ()} () (c 50 () {Ă9,.c (),y ()} () (c 51 () {Ϗ,.c (),y (),.c ()} () (c 52 () (.c ()) () (c 53 () (.c ()) () .nil)))),ß,λa7 a8 al _ an=>?_},tZ {Ăc,54,4,an,(),c 54 () {Ϗ,.c (),B (),.c ()} () (c 55 () {Ă9,.c (),y ()} () (c 56 () {Ă9,.c (),y ()} () (c 57 () (.c ()) () .nil))),ß,λW ap as _ av=>?_}];have s0:={Ć4,Ć4 {Ć4,Ć4 {Ć4,è s1 s2,s3,s4} s5 s6,s7,s8} s9 ad,al,as};have(V,eL,uL,gL):=av;rw[Ąn,! Ĉr W {_,å eL},gU,K,W,V,λi f H'=>ao ap H'/\H' D=ò f/\đh i/\∀u∈f,ze K a M H' u,{am đ hD,af,(),λu I=>nomatch I},λi f H' _ h=>ao.seq ü (å eL)]
  ·intro i v f ax hv(N,J,X,hg);rw[ĉk,hv];have(ps,a0,(),Z):=gL v (e_ hv);show aB (ij (bE (!{cP {Ĥ,2<=65536},λb hb=>nz hb λaa g a2=>?_})));have L:=g _ _ J;show{L,by rw[X,gg];lia,lf hi {bw (N.trans g) hD,af,by rw[gV,X];rfl,λu I=>?_}};have I||I:=Ă5 I
   ·show((hg u I).same g).kp (ø L)
   ·show ze.kp (ø L) {b,Sb l t ps,0,a.c8,Ň I,Ł a2,Z,.bad (Qe hl ht a0),()}
  ·intro f ax(N,J,X,hg);rw[ç,! ! !{ns,M,_,l,t,(),h,λp aa g⟨ws,ew,uw,gw⟩=>?_},{D,p,f,ws,(),(),g _ _ J,ew,by rw[X,uL,uw,gg];lia,λr hr=>?_}];have S:={ZI,f++ws,aa,hr};show q r _ (s0.trans (N.trans (g.trans S))) ((s0.trans (N.trans g)).free hr) {_,af,by rw[gV,X,uL,uw],λu I=>{Ăp,I} {ÿ,((hg u z).same g).same,S} {ÿ,(gw u z).same,S}}
omit e
def Co.pr(h:Co p)(i:Nat)(hi:2+Ő<ë p):ë p%(2+Ő)≠0:=λz=>by have h1:=(Ý:∀p∈[2,3,5,7,11,13,17,31,61,97],∀i,i<97->2+i<p->p%(2+i)≠0) p h i (ļ h.le) Ø;have e:{Ď,p%(2+i)}=ë p%{Ď,2+i}:=Zc _ _;rw[{ύ,{Ď,2+i}=2+Ő},z]at e;lia
inductive PZ(P:Zu)(w:World)(K:Zp)(a:ja)(vs:Ú)(H:Hp)(Q:VK)(_E:XK):Prop|mk(dk dx:Addr)(p:Nat)(sa:Int)(_:vs=[â dk,ã p,ã sa])(_:H dk=Ār a.vW [])(_:Co p)(_:(0<=sa/\sa<=bg))(_:∀(Z:ZS)H',cK P w K a H' (xi p sa) Z 0->Z.ds=[]->Ll a H' dk āG->{ê,H b=Û,ú dk->H' b=Û}->(∀b,gH (xi p sa) Z b->H b=none)->ćc Q)
section
def Ay(T:ä):aT P w K mg base dw 7 a.gI.x a.gI.d ĉ4 (PZ P w K a):=by
 show T.gI.okc zR λH N I h=>?_
 ·have(dk,dx,p,sa,(),G,pr,v,q):=h;show{_,(ai (cW K () (Y 0) {Aa,uT,T.Nv,Ņ yN,I,(),T.QX,T.fJ.b,bI,ac (Y 1) (ac (Y 2) O)})),?_};have Q:=pr.le;show ! ! λh c hh y J=>?_;have f2:ao H (aJ (Ĉm H c h) h (Ēj a.cf c)):={Ē7,ay (aI e hh),ay (aI e y),e}
  have f:aJ (Ĉm H c h) h (Ēj a.cf c) h=āA a.cf c []:=af;generalize aJ (Ĉm H c h) h (Ēj a.cf c)=R at f2 f⊢;show{h,c,ë p,sa,(),f,ϻ,pr.pr,v,λln tn L dl A g j k l B C D f3 E m r s t=>āO};have u:ao H A:={ĆQ,f3,b,o,f2 b o e,aI e hh};have F:=u _ _ G;rw[Ģ,!{dk,_,dx,!{F,T.j7,T.mx,Ü,oE ?_}},{ąA,i5 "house" (ϫ h) [],[ąU "house" h]}];have nd:∀{b:Addr},H b=none->ú dk:=λe z=>čb z G e
  have up:{Ĝc,H b=none,A b=Û->aJ A dk {ĄR,a.vW,[ϱ "house" h]} b=Û}:=λn e=>{Þ,ay (nd n),e}
  show q (Hy h ln tn L dl c) _ {N1 (up hh E) (up (ăX g) m) (up (ăX j) r) (up (ăX k) s) (up (ăX l) t) B C D,Ra ϻ,λi=>ku _,λi=>ku _,ku _} () (dx,af,) (λb o e M=>{Þ,ay M,u b o e}) đL;have()||()||()||()||():=Oe z
  ·show hh
  ·show ăX g
  ·show ăX j
  ·show ăX k
  ·show ăX l
omit e
def hU.las0{ns:ZA}{M b:bJ}{d:Dd}{c:Nat}(h:jA ns M)(n:hU M d b)(f:HX ns M d)(ok:oY b c)(h0:ĈK 0\/Ği):0<b.las.length:=by
 obtain⟨-,-,-,e,-⟩:=n.nx h f;have e:b.las.length=ō yc M d:={Ă,e,ĂU b_ _}
 have g:ėE:=b_ _;cases n with|layer=>rw[e];rw[ā5,0<{Ļ,fX M,[_]},gV,XU _]|@trial x=>have k:=(ok.tr x (lm _ f_)).hm;have(l,a,_):=Ķ k;show List.length_pos_of_mem a|_=>
  have z||z:=h0
  ·rw[e];rw[Ģm,0<Ĉ2,o'29 g z]
  ·cases z
def i9.rowT{M:bJ}{d:Dd}{j:Ú}{n:Addr}{c:Nat}{ns:ZA}(h:i9 K H M d j)(b:bj K H n j)(f:oY M c)(o:HX ns M d):fK K H (â n) d.rd.txt:=by have r:=fQ;have a:∀{x:Str},Wd x->ā1 40:=λh=>uU h ß;have i:∀{x:Str},Wd x->nK K H ħ x:=λh=>eD (g_ (a h) ß);have tw:∀{t:dS},ăv->nK K H Ż t.nm:=λh=>i (f.tr _ h).wd;cases h with
 |layer h1 h2 h3 h4 k=>show .plain b Ý Ý Ý {μ,i h1,{à,sW h3.1 (ļ f.p.2)}} (m3 ())|@trial x ar sh E F h1 h2 h3 h4 k u v G y z I hc hd J L=>
  show .trial b (a h1.wd) ?_ {ar,!{h3,zp h1.aw,ļ h1.a4}} {sh,!{y,zp λs A=>?_,ļ h1.s8}} h4 h1.hg (u.fit λw B=>g_ (a (v w B)) ß)
  ·have(l,C,e):=ğc;rw[π,e,a (f.la l C).wd]
  ·have(t,D,e):={Ķ,z s A};rw[π,e,(f.tr t D).wd]|share h1 h2 h3 h4=>show .plain b Ý Ý Ý {μ,tw h1,Ąi {_,!{h2,AW λx g=>{{ļ,h4 x g},{ļ,o x g}},by rw[b_,h3];rw[Š,(f.tr _ h1).a4]}}} (m3 ())|deal h1 q h2 h3 h4=>show .plain b Ý Ý Ý {ē,tw h1,{μ,{à,sW q.1 ņ},Ąi {_,!{h2,AW λx g=>{{ļ,h4 x g},(h4 x g).2},by rw[b_,h3];rw[Š,(f.tr _ h1).a4]}}}} (m3 ())|hold h1 h2=>show .plain b Ý Ý Ý {μ,i (f.la _ h1).wd,{à,sW h2 o}} (m3 ())|pause h1=>show .plain b Ý Ý Ý {ϋ,tw h1} (m3 ())|go h1=>show .plain b Ý Ý Ý {ϋ,tw h1} (m3 ())|close h1=>show .plain b Ý Ý Ý {ϋ,tw h1} (m3 ())|bar h1 h2=>show .plain b Ý Ý Ý {μ,eD (g_ (uU h1 ß) ß),tw h2} (m3 ())|visit h1 h2 h3 h4 k=>show .visit b (uU h1 ß) h2 Ø λm hm=>{a (h3 m hm).1,(h3 m hm).2}
def fK.len2{v:V}{t:Str}(h:fK K H v t):ćn 10000:=by
 cases h with|@plain p hd m b h1 h2 h3 h4 a c=>rw[đE,gQ " " (hd::b),kH a];rw[ym,aL,ig]at k1;lia|@trial p n l o q s d e r h1 h2 h3 h4 a c f i=>
  have:=gQ " " {Ċ4,n,l,bO d,bO e};have k2:=h4.len;have u:=a.len;have w:=Ēw i f;have j:ĖL=5:=Ý
  rw[ym,aL,aL,aL,aL,aL,aL,eX]at this;rw[čR]|@visit p g x k h1 h2 h3 h4 a=>
  have:=gQ " " {Ĕ3,g,bO (k.map sM)};have k2:=oH a h4;have j:ĝv=5:=Ý
  rw[ym,aL,aL,aL,eX]at this;rw[čR]
def NZ{p:Nat}{sa:Int}:Gz (xi p sa):=λl a=>nomatch a
def Xt{t:TS}{N:Ų}{R:VK}{B C:Ų}{b:St}(h:∀(R:VK)(B C:Ų),t (N,R,B,C,) b H):t (N,R,B,C,) b H:=h R B C
structure Id(P:Zu)(w:World)(K:Zp)(a:ja)(H0 H:Hp)(ns:ZA)(M:bJ)(Z:ZS)(A:HY)(dk:Addr)(rs:Zv)(c:Nat)(ls:Zv)(ts:Č9):Prop where
 L:Gy P w K a H0 H ns M Z A c ls ts
 D:(Ll a H dk āG)nd:¬gH M Z dk
 I:Gz M
 T:qJ K H M Z rs
 l:rs.length<=c
section
variable{f H m j:Hp}{M i:bJ}{Z u:ZS}{ns:ZA}{A:HY}{dk:Addr}{b:Zv}{c:Nat}{ls r:Zv}{y q:Č9}{d:Dd}{B:Addr}{C:Ú}{t:Str}
theorem Id.same(h:Id P w K a f H ns M Z A dk b c ls y)(s:ao H m):Id P w K a f m ns M Z A dk b c ls y:=by rw[ĔD];show{ďM s,{dx,s _ _ D},nd,I,ė T.kp s,l}
theorem Id.chg(h:Id P w K a f H ns M Z A dk b c ls y)(n:WL A H m)(E:t5 K m M.p M.salt r q A):Id P w K a f m ns M Z A dk b c r q:=by
 rw[ĔD];have L2:=L.chg n E;have(F,g,_):=L.pl.T;have k:dk≠A.L:=λz=>by rw[čF,L.pl.L,z,D];rw[ćg]
 have s:dk≠A.T:=λz=>by rw[<-z,D]at g;cases g
 have(o,v,kp,x):=n;show{L2,{dx,x _ _ D λz=>by have e||e:=v;rw[ö,k (z.trans e),s (z.trans e)]},nd,I,T.kp kp,l}
theorem Id.fin(h:Id P w K a f H ns M Z A dk b c (yc M d) (xF M d))(n:hU M d i)(st:iF H M Z j i u)(p:cK P w K a j i u (c+1))(o:HX ns M d)(E:i9 K H M d C)(e:u.ds=Z.ds++ŝ B)(F:fK K j (â B) t)(hc:c<=62):Id P w K a f j ns i u A dk (b++[t]) (c+1) (fX i) (ka i):=by rw[ĔD];have kp:=L.z.g.stp st;have(_,_,k,_):=n.nx L.pn o;rw[ϑ,{L.fin n st p o,{dx,{Þ,st.hh,st.fr _ _ D nd}},st.nf D nd,n.inw E L.z.ok I,{?_,by rw[gV];rw[ĂX,ćR<=63],Þ k T.sa},by rw[gV];rw[ĂX,ćR<=c+1]},e,ĄE (T.kp kp).rows F]
theorem Id.not(h:Id P w K a f H ns M Z A dk b c (yc M d) (xF M d))(hd:ćm)(s:ao H j):Id P w K a f j ns M Z A dk b (c+1) (fX M) (ka M):=by rw[ĔD];show{L.not hd s,{dx,s _ _ D},nd,I,ė T.kp s,vr l}
omit e
inductive J41(P:Zu)(w:World)(K:Zp)(a:ja)(H0:Hp)(ns:ZA)(A:HY)(sc dk:Addr)(i:Nat)(σ:St)(H':Hp):Prop|mk(M:bJ)(Z:ZS)(rs:Zv)(v3 v4 v5 v6 v7 v8 v9:ĀV)(h:Id P w K a H0 H' ns M Z A dk rs i (fX M) (ka M))(t:i=0->M.trs.length=0)(n:0<i->ĈK 0)(s:σ=[í sc,ĘF,í dk,v3,v4,v5,v6,v7,v8,v9]):J41 P w K a H0 ns A sc dk i σ H'
section
def TD(T:ä)(hw:ćt):aT P w K mg base dw 24 a.law.x a.law.d ĈB (EU K):=by
 show T.law.ok kM λd2 A outer s H vs Q E hr h=>?_
 ·have(sc,ns,(),hS,hl,q):=h;show{_,(ae (bd 1 kM.nd (pc T.Do (M6 T) hr (ac (Y 0) O))) (ae (bd 2 kM.nd {Aa,uT,T.QL,Ņ Ay,hr,(),T.TX,T.gI.b,bI,ac (gx K (Y 1) ah) (ac (gx K (Y 1) ah) O)}) (ae (gn oa () (gO () T.jr (ac (aD (xl ()) ĕ T.Nk L2.Bg (ac (au cu {Č,aK K (),ac (Y 0) O} ah) (ac ah O))) O)) (yD 3 kM.nd) (ae (aR (pc T.Dm (M3 T hw) hr (ac (Y 2) (ac (pc T.Lk (QC T) hr (ac (pc T.Dq (M8 T) hr (ac (Y 0) (ac (Y 1) (ac (Y 3) O)))) O)) O)))) (ae (bd 4 kM.nd ak) (ae (aN (aE qg {Č,aK K (),ac (gx K (Y 1) ah) O} ah (aG _)) (ai (bd 4 kM.nd (dy K (gx K (gx K (Y 1) ah) (au bq (Y 3) {Č,aK K (),ac (gx K (Y 1) ah) O})) ah))) aF) (ae (bd 5 kM.nd (pc T.Dn (M5 T) hr (ac (gx K (gx K (Y 1) ah) (au bq (Y 3) {Č,aK K (),ac (gx K (Y 1) ah) O})) (ac (Y 4) (ac (gx K (Y 1) ah) O))))) (ae (bd 6 kM.nd (pc T.vS (u4 T) hr (ac ah (ac (pc T.f8 (dO T) hr (ac (Y 0) (ac ah (ac ah O)))) O)))) (ae (aR {ăy,cg,K,(),dB,Y 5,ac (bo (ac (au aC (au aC (au aC (au aC (au aC (au aC ak (Y 4)) ak) (Y 6)) ak) (Y 4)) ak) (ac ah O))) O}) (ae (aR {ăy,cg,K,(),dB,Y 5,ac (bo (ac (au aC (au aC (au aC (au aC (au aC ak (Y 4)) ak) (Y 6)) ak) (Y 6)) (ac ah O))) O}) (ae (mn (gx K (Y 5) (au bq (pc T.f8 (dO T) hr (ac (Y 0) (ac (Y 3) (ac ah O)))) {Č,aK K (),ac (Y 5) O})) (jk K () () (b7 (yD 7 kM.nd) (b7 (yD 8 kM.nd) jj)))) (ae (bd 9 kM.nd {Aa,bv,Y 2,T.j7,T.eZ.m,(lS T hw).mono ß,hr,T.eZ.b,IJ,ac ak O}) (ai {ČC,fe (aE Fv (pc T.Dp (M7 T hw) hr (ac (Y 2) (ac (Y 7) O))) (Y 8) (aG _)) (dI (aE Fv {Aa,bv,Y 2,T.j7,T.eZ.m,(lS T hw).mono ß,hr,T.eZ.b,IJ,ac ak O} (Y 9) (aG _))),ai (az g9)}))))))))))) (ai (az g9))))),?_}
  show !{sc,ns,(),hS,hl,λA p sa H1 s1 d3 c4 c6 hP pr b8=>aB (oE ?_)};have hp:=pr.le;show ! rX ĝs č (! rX ĝs ϕ (λdk dx as b9 d4=>?_));have f2:ao H1 (aJ (Ĉm H1 dx dk) dk {ĄR,a.vW,[]}):={Ē7,ay (aI e as),ay (aI e b9),e}
  have ax:aJ (Ĉm H1 dx dk) dk {ĄR,a.vW,[]} dk=Ār a.vW []:=af;generalize aJ (Ĉm H1 dx dk) dk {ĄR,a.vW,[]}=H2 at f2 ax⊢;show{dk,dx,p,sa,(),ax,pr,b8,λZ0 H3 hZ cc hD f3 hf=>{ą,aB (oE ?_)}};have s3:ao H1 H3:={ĆQ,f3,b,o,f2 b o e,aI e as};have(r,S,cf):=hP.T;have ag:{ê,H1 b=Û,¬gH (xi p sa) Z0 b}:=λb o e z=>AA (f2 _ _ e) (hf b z);have hL:Gy P w K a H H3 ns (xi p sa) Z0 A 0 [] []:={hZ,hP.same s3,{λi l hl=>(nomatch hl),λj t ht=>(nomatch ht),ku _,pr},ag _ _ hP.pl,ag _ _ hP.L,ag _ _ S,λb o e=>{s3 _ _ (s1 _ _ e),ag _ _ (s1 _ _ e),aI e c4,aI e c6}};have nd:¬gH (xi p sa) Z0 dk:=λz=>AA ax (hf dk z);have hT:qJ K H3 (xi p sa) Z0 []:={Þ cc .nil,ku _,b8};have d0:H dk=none:=s1.free as;have G:Id P w K a H H3 ns (xi p sa) Z0 A dk [] 0 [] []:={hL,hD,nd,NZ,hT,eH _};have ci:aZ K H3 sc Ŷ:=ao.seq {ċs,hL.bs b o e} hS;clear f2 ax f3 hf as b9 ag S cf r cc hZ s3 hL hD nd hT;obtain⟨n,en,n0,n1⟩:∃n:Int,n={Ā3,ë 30,ć9+4,30,ć9+4}/\0<=n/\n<=30:=é _ ĐW ĐW;rw[ç,!{_,ns.length,(),à {_,ci,Ü},_,!{(),_,!{n,(Ź en),Ø,Ø,?_}}},{ēA,nI,0,n.toNat,J41 P w K a H ns A sc dk,{_,Z0,[],_,_,_,_,_,_,_,G,Ī,{ϳ,nk _},()},λJ H6 _=>q H6}];clear G ci;intro i J H6 hi(M,Z,rs,v3,v4,v5,v6,v7,v8,v9,G,ht,hn,());rw[{ύ,û+Ő=Ď i}];rw[ĭ,aB (Xt λR B C=>?_),WB (λJ H'=>Ex3 λM Z rs=>Id P w K a H H' ns M Z A dk rs (i+1) (fX M) (ka M)/\ĈK 0/\J=[í sc,ĘF,í dk,{āM,ş i},v4,v5,v6,v7,v8,v9]) ?A1 (λNn _ _ _ al=>?B1)]
  case B1=>
   show ! ! ! !{sc,ns,M,A,i,Ő,(),G.L.dr hS hl,{ĉA,Ø},λdv d xs H7 ch hT hD c8 a0 da=>?_};have hB:=G.chg ch c8;have hR:=hD.rowT hT hB.L.z.ok a0;show{Č7,d.rd.txt,(),hR,λH8 s8=>?_};have W:=hB.same s8;have a6:=ė hD.kp s8;have l0:ĈK 0\/Ği:=(ģU i).elim (λz=>{æ,da (ht z)}) λz=>{à,hn z};show{dk,M,Z,i,d,xs,(),W.D,W.L.z,Ø,a6,a6.rdok W.L.z.ok a0,W.I,hR.len2,λd5 b ea M' Z' H9 nx st cn dc di=>?_,λha H9 s9=>?_}
   ·show al _ _ {M',Z',_,W.fin nx st cn a0 a6 dc di Ø,nx.las0 W.L.pn a0 cn.ok l0,()}
   ·show al _ _ {M,Z,_,W.not ha s9,l0.resolve_right λz=>by rw[ha]at z;(cases z),()}
  clear G ht hn v3;intro J H7(M,Z,rs,G,hn,());show aB (oE ?_);have X:=G.L.pl.pl;have(r,S,a7):=G.L.pl.T;have a5:đx r.length:={Þ,ř a7,b_ _}
  show WB (λJ H'=>H'=H7/\∃t,({ĕq,ĀD=ð,t=u.nm}\/t="nosuch")/\J=[í sc,ĘF,í dk,{āM,ş i},ĄX t,v5,v6,v7,v8,v9]) ?A2 (λNn _ _ _ al=>?B2)
  case B2=>
   show ! rX ď2 ād {_,r.length,(),à {r,å S,()},_,!{ĥ,oN ĞY ĞY}}
   ·have c':0<r.length:=Ø
    have hk:Ő%ë r.length=Ď ēQ:=(Zc _ _).symm;have hj:ĈN ēQ:={Ă,a5,Yh _ c'}
    have(y,hy,b,e,hb):={ĂS,a7,ēQ,_,fx (Yh _ c')};have dt:y=(M.trs[ēQ].nm,M.trs[ēQ].arms.length):=by unfold ka at hy;rw[g8,fx hj]at hy;show ĆF hy
    subst dt;have hv:={è,fx (l:=r) (Yh i c'),m6 some e};rw[ö,! rX ď2 ād (! ! rX ď2 ād {_,r.length,(),à {r,å S,()},_,!{(),Ø,A.T,r,_,!{(),å S,{Þ,hk,aq hv},rX hb č (aB ?_)}}}),al _ _ {(),_,à {_,_,fx hj,()},()}]
   ·show al _ _ {(),_,āh,()}
  clear S a7 a5 r v4;intro J H'((),t,dK,());have hL:=G.L.pl.L;have cx:Ő%ë {čg,fX M}=Ď ēl:=Ŝ b_ {Ĩ,Ĉ2,M.las.length,b_ _} (Zc _ _).symm
  have dT:ĈE {čg,fX M}:={āo,b_ _}
  have cy:=Yh i hn;have a8:(Ž fX M)[ēl]?=ĄX M.las[ēl].nm:=by unfold fX;rw[g8,g8,fx cy];rfl
  have aa:LT ns M (i+1) M.las[ēl].nm t:={G.L.z.ok,G.L.pn,{_,_,fx cy,()},dK};generalize M.las[ēl].nm=l at a8 aa;rw[ç,! rX ď2 ϥ (! ! rX ď2 ϥ {_,{čg,fX M},(),à {_,å hL,()},_,!{(),Ø,rX (å hL) {Þ,cx,aq a8} ?_}}),! ! rX ď2 č {ns,M,i+1,l,t,(),aa,λf H8 s8 nr dV=>aB (oE ?_)}];have cG:aZ K H8 sc Ŷ:=ao.seq {ċs,(G.same s8).L.bs b o e} hS;show !{sc,ns,3,4,(),cG,hl,ß,ß,0,dz ns 3 4,(),λH9 s9=>aB (oE ?_)};have an:=aa.tw;have hA:Wd (df 0 (dz ns 3 4)):=uc _ _;have ad:=aa.arm;have wA:Wd "nosucharm":=EF Ý;have wT:Wd "nosuchtrial":=EF Ý;generalize df 0 (dz ns 3 4)=ar at hA ad⊢;have c0:ćn 60:=g_ an.hi ß;have c1:ar.length<=60:=g_ hA.hi ß;have tv:∀{J:St},J[4]?=ğf->yW J (nS 4) t 60:=λe=> .v e c0;have av:∀{J:St},J[6]?={ZY,á ar}->yW J (nS 6) ar 60:=λe=> .v e c1;have c:∀{J:St}{te:TE}{k:Nat}{x:Str},oR a M x a.bB->yW J te x k->Ďq k->yX (ze K a M) J 1 (kI (Pj (kI te (kI (tC (ã 2)) zo))) zo):=λhR h1 hk=> .cons ze.same (h1.rw 1 hk () hR ()) .nil;have e4:Ĥd=ϔ++ĤR:=Ý
  have e8:Ę "meet "=Ę "meet"++ϔ:=Ý
  have e9:Ę " nosuchtrial "=ϔ++ģJ++ϔ:=Ý
  have(N,q1,u1,q2):=dV;have e1:=s9 _ _ q1;have g1:∀u∈N,ze K a M H9 u:=λu hu=>(q2 u hu).same s9;have c2:=ēP;clear q1 q2 cG;rw[ç,!{à {(),_,å e1},?_},(c (GY {Ŝ,e8,e4,(fB _ _ _).symm} an hA an wA (ad.imp id λz=>(z,aa.noA,))) {Ϗ,{Ϗ,{Ϗ,.c (),tv (),.c ()},av (),.c ()},tv (),.c ()} ()) H9 _ λws ba a2 wl ap=>?_];have(v,()):=Yl.mp wl;have e2:=a2 _ _ e1;show rA e2 (by rw[u1,gg];lia) (oE ?_);have g2:∀u∈N++[v],ze K a M {ń,ba,f,N++[v]} u:=λu hu=>{Ăp,hu} {ÿ,((g1 u z).same a2).kp,ĘD} λz=>{Þ,ĆD,(ap v f_).kp ĘD}
  have u2:Ļ N [v]=70:=by rw[gV,u1];rfl
  have e3:aJ ba f {ø,N++[v]} f={ò,N++[v]}:=af;have bb:=bw (o:={ø,N++[v]}) (c2.trans a2) nr;generalize {ń,ba,f,N++[v]}=d1 at g2 e3 bb⊢;generalize N++[v]=g at g2 u2 e3;clear g1 u1 e1 e2 wl ap N v a2 s9 s8 c2;rw[ç,!{à {(),_,å e3},?_},(c (GY (by rw[e8,e9,<-fB,<-fB];rfl) an hA wT hA (ad.imp id λz=>{z,aa.noT ar})) {Ϗ,{Ϗ,{Ă9,.c (),tv ()},.c (),av ()},.c (),av ()} ()) d1 _ λws bc a3 wl ap=>?_];have(v,()):=Yl.mp wl;have e2:=a3 _ _ e3;show rA e2 (by rw[u2,gg];lia) (oE ?_);have g3:∀u∈g++[v],ze K a M {ń,bc,f,g++[v]} u:=λu hu=>{Ăp,hu} {ÿ,((g2 u z).same a3).kp,ĘD} λz=>{Þ,ĆD,(ap v f_).kp ĘD}
  have u3:Ļ g [v]=71:=by rw[gV,u2];rfl
  have e5:aJ bc f {ø,g++[v]} f={ò,g++[v]}:=af;have bi:=bw (o:={ø,g++[v]}) (bb.trans a3) nr;generalize {ń,bc,f,g++[v]}=eb at g3 e5 bi⊢;generalize g++[v]=N at g3 u3 e5;have G:=G.same bi;clear g2 u2 e3 e2 wl ap g v bb a3 bi nr c tv av hA ad X hL cx dT a8 aa e4 e8 e9 wA wT an c0 c1;have(v,hv,c3):=Bl (xs:=N) (i:=dz ns i 41%ë N.length) (F_ _ Ø) (Es _ Ø);have(b,x,n',C,(),hb,hx,hR,hC):=g3 v c3;rw[Ŧ,! ! !{sc,ns,i,41,(),ao.seq {ċs,G.L.bs b o e} hS,hl,{ĉA,Ø},ß,!{_,N.length,(),à {N,å e5,()},_,!{(),Ø,f,N,_,!{(),å e5,hv,?_}}}},Ğu b {[ħ,{ã,ë n'+1}],(),hb,(()),?_},Ğu ħ {[{ã,ë n'+1}],(()),aB ?_},Ğu {ã,ë n'+1} {[],(()),aB {ą,oE ?_}}];clear hv c3 g3 u3 e5 hb;have(L,(dx,D),nd,I,hT,l):=G;show mm D () () {dk,"text",M,Z,i+1,(),Ý,{_,D},L.z,{Ϭ,o'30 n1 hi},.text hT λec bt=>aB (oE ?_)};have L:=ďM bt;have D:=bt _ _ D;have hT:=ė hT.kp bt;show ! !{dk,x,M,Z,i+1,n',C,(),Ø,{_,D},L.z,{Ϭ,o'30 n1 hi},hR,hC,λed bz=>(!{ĥ,NV (by rw[ji ()];rfl) ?_})};have L:=ďM bz;have D:=bz _ _ D;have hT:=ė hT.kp bz;rw[ö,mm D () () {dk,"text",M,Z,i+1,(),Ý,{_,D},L.z,{Ϭ,o'30 n1 hi},.text hT λef b0=>(!{ĥ,NV (by rw[ji ()];rfl) ?_})},{M,Z,rs,_,_,_,_,_,_,_,{ďM b0,{dx,b0 _ _ D},nd,I,ė hT.kp b0,l},{ϳ,ĥk _},λ_=>hn,()}]
omit e
omit My
end
end

open PySem PySem.W PyProof.Rows
set_option maxRecDepth 100000 in
set_option maxHeartbeats 0 in
theorem PySem.Challenge.cw_layersplit_k41_desk_rows_refused_holds : PySem.Challenge.rw_layersplit_k41_desk_rows_refused.Holds := by
 w_on;refine hdξ ?_
 k_fill
 refine L2.Lv (l:=PySem.Challenge.rw_layersplit_k41_desk_rows_refused) (n:=63) (k:=24) (x:="_law_script") (CX:=L2.dw) (sp:=My.EU) rfl (by decide) rfl ⟨rfl,by decide,by decide⟩ (λw h Y=>PySem.W.kIn_of Y) ?F ?S ?C
 case F=>
  intro w mg fa h KX G hmg;have T:∃a:My.ja,My.Txt (L2.KOf KX) mg a/\w.params=a.pm:=by
   dsimp only[L2.KOf]
   refine'⟨My.ja.mk ..,?T,rfl⟩
   case T=>
   constructor
   all_goals try dsimp only
   iterate 23(exact L2.Ws KX G (by k_is))
   iterate 48(exact L2.Ou KX G (by k_is) (L2.A5 (by k_is) (by k_is) (by k_is)) (by first|exact L2.b1|exact L2.b2|exact L2.b3|exact L2.b4|exact L2.b5))
   iterate 37(exact L2.R4 (by k_is) (by k_is) (L2.A5 (by k_is) (by k_is) (by k_is)) (by first|exact L2.b1|exact L2.b2|exact L2.b3|exact L2.b4|exact L2.b5))
   iterate 22(exact L2.Ou KX G (by k_is) (L2.A5 (by k_is) (by k_is) (by k_is)) (by first|exact L2.b1|exact L2.b2|exact L2.b3|exact L2.b4|exact L2.b5))
   iterate 3(exact L2.R4 (by k_is) (by k_is) (L2.A5 (by k_is) (by k_is) (by k_is)) (by first|exact L2.b1|exact L2.b2|exact L2.b3|exact L2.b4|exact L2.b5))
   iterate 19(exact L2.Ou KX G (by k_is) (L2.A5 (by k_is) (by k_is) (by k_is)) (by first|exact L2.b1|exact L2.b2|exact L2.b3|exact L2.b4|exact L2.b5))
   iterate 2(exact L2.RR KX G (by k_is))
   iterate 12(exact L2.R6 KX G (by k_is))
   exact L2.RR KX G (by k_is);exact L2.R6 KX G (by k_is)
   iterate 2(exact⟨by k_is,by k_is,by k_is,by k_is⟩)
   iterate 3(exact L2.FM (by k_is))
   iterate 2(exact⟨by k_is,by k_is,by k_is,by k_is⟩)
   iterate 3(exact L2.FM (by k_is))
   iterate 2(exact⟨by k_is,by k_is,by k_is,by k_is⟩)
   iterate 7(exact L2.FM (by k_is))
   iterate 2(exact⟨by k_is,by k_is,by k_is,by k_is⟩)
   iterate 6(exact L2.FM (by k_is))
   iterate 2(exact⟨by k_is,by k_is,by k_is,by k_is⟩)
   exact L2.FM (by k_is)
   iterate 14(exact L2.Ol (by k_exc))
   exact⟨by decide,_,_,by k_is,by k_keys⟩
   iterate 10(exact⟨_,by k_is⟩)
   exact⟨by decide,_,_,by k_is,by k_keys⟩
   iterate 10(exact⟨_,by k_is,L2.NN (by k_is) (by(repeat(first|exact .nil|refine .cons ⟨_,rfl⟩ ?_))) rfl⟩)
   exact⟨_,_,by k_is,by(repeat(first|exact True.intro|refine And.intro ⟨_,rfl⟩ ?_))⟩;exact⟨by decide,_,_,by k_is,by k_keys⟩
   iterate 11(exact⟨_,by k_is,L2.NN (by k_is) (by(repeat(first|exact .nil|refine .cons ⟨_,rfl⟩ ?_))) rfl⟩)
   exact⟨_,_,by k_is,by(repeat(first|exact True.intro|refine And.intro ⟨_,rfl⟩ ?_))⟩;exact L2.NN (by k_is) (by(repeat(first|exact .nil|refine .cons ⟨_,rfl⟩ ?_))) rfl
   iterate 5(exact L2.Ve (L2.Ol (by k_exc)) (by k_is) rfl (by decide))
   iterate 3(exact⟨by k_is,by k_is,by k_is,by k_is,by k_is,by k_is,by k_is,L2.Ol (by k_exc)⟩)
   iterate 12(first|k_is|kit_is)
   iterate 20(exact L2.Vd KX G (by k_is))
  obtain⟨a,T,hw⟩:=T;have e0:=hmg.symm.trans T.law.m;cases e0;exact⟨a.law.d,My.KB T,λbase kb nb=>My.TF (λT hw=>My.TD T hw) ⟨_,w,_,mg,base,a⟩ T hw⟩
 case S=>exactλK H a ns hl hO hS=>My.KA hl hS
 case C=>exactλ_ _ _ _ z=>z
#print axioms PySem.Challenge.cw_layersplit_k41_desk_rows_refused_holds
