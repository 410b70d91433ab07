import PyProof.Rows.All
import Wide.All
import OpenK.AllK
import Wide.FinOn
import Lean
import PyProof.EqAt
import PyProof.EqKinds
import PyProof.TupleCall
import PyProof.SetScanFacts
import PyProof.Logic
import PyProof.FactsBase
import PyProof.TableTree
import PyProof.FactsTree
import PyProof.PlainAttrs
import PyProof.DictWalks
import PyProof.SetKind
import PyProof.ForAny
import PyProof.FactsAll.set_1
import PyProof.CollectWalk
import PyProof.WalkLemmas
import PyProof.FactsAll.set_2
import PyProof.Walk
import PyProof.Rows.SortStr
import KE.KRevIter
import KE.KDictList
import KE.KDictLaws
import PyProof.FString
import OpenK.KTop
import PyProof.StrLawsTight
import PyProof.Rows.StrLawsPart
import KE.KIntText
import PyProof.Rows.StrSplitJoin
import PyProof.ZipIter
import PyProof.WalksMore
import KE.IntTextLaws
import KE.KDictOf
import PyProof.AttrMissHeap
import PyProof.EnumMake
import PyProof.EnumFor
import PyProof.Draws
import PySem.Challenge.RW_layersplit_k19_shares_in_a_house
set_option Elab.async false
set_option linter.all false
set_option maxRecDepth 100000
namespace L2
open PySem PySem.Spec PyProof.Rows
abbrev Key:=Sum Int Str
def t4:Key→Value→Bool
 | .inl k,v=>Value.isInt k v
 | .inr x,v=>Value.isStrOf x v
def PM (w:World):Key→Int
 | .inl k=>hashInt k
 | .inr x=>hashStr w x
theorem cv: ∀{k:Key}{v:Value},t4 k v=true→(∃i t,k=Sum.inl i∧v=Value.int i t)∨(∃x t,k=Sum.inr x∧v=Value.str x t)
 | .inl i,v,h=>by
  obtain⟨t,e⟩:=Value.isInt_shape (k:=i) (v:=v) h
  exact .inl ⟨i,t,rfl,e⟩
 | .inr x,v,h=>by
  obtain⟨t,e⟩:=Value.isStrOf_shape (x:=x) (v:=v) h
  exact .inr ⟨x,t,rfl,e⟩
theorem By (i:Int) (t:Tok):t4 (.inl i) (.int i t)=true:=by simp[t4,Value.isInt]
theorem Bx (x:Str) (t:Tok):t4 (.inr x) (.str x t)=true:=by simp[t4,Value.isStrOf]
theorem NK (a b:Int):decide ((Sum.inl a:Key)=Sum.inl b)=(a==b):=by
 by_cases e:a=b
 ·subst e;simp
 ·have h: ¬(Sum.inl a:Key)=Sum.inl b:=fun q=>e (Sum.inl.inj q)
  rw[decide_eq_false h]
  exact(beq_eq_false_iff_ne.mpr e).symm
theorem NH (a b:Str):decide ((Sum.inr a:Key)=Sum.inr b)=decide (a=b):=by
 by_cases e:a=b
 ·subst e;simp
 ·have h: ¬(Sum.inr a:Key)=Sum.inr b:=fun q=>e (Sum.inr.inj q)
  rw[decide_eq_false h,decide_eq_false e]
theorem NJ (a:Int) (b:Str):decide ((Sum.inl a:Key)=Sum.inr b)=false:=decide_eq_false (fun q=>nomatch q)
theorem NI (a:Str) (b:Int):decide ((Sum.inr a:Key)=Sum.inl b)=false:=decide_eq_false (fun q=>nomatch q)
def aT (prog:Program) (w:World):PySem.KeyKind prog w Key where
 is:=t4
 hash:=PM w
 inj:=fun v a b ha hb=>by
  rcases cv ha with⟨i,t,rfl,rfl⟩ |⟨x,t,rfl,rfl⟩
  ·rcases cv hb with⟨j,u,rfl,e⟩ |⟨y,u,rfl,e⟩
   ·injection e with e1 _;rw[e1]
   ·exact nomatch e
  ·rcases cv hb with⟨j,u,rfl,e⟩ |⟨y,u,rfl,e⟩
   ·exact nomatch e
   ·injection e with e1 _;rw[e1]
 byValue:=fun k v h=>by
  rcases cv h with⟨i,t,rfl,rfl⟩ |⟨x,t,rfl,rfl⟩<;>rfl
 pyHash:=fun hv h=>by
  rcases cv hv with⟨i,t,rfl,rfl⟩ |⟨x,t,rfl,rfl⟩
  ·exact wpAny_pyHash_int h
  ·exact wpAny_pyHash_str h
 eqBool:=fun hu hv h=>by
  rcases cv hu with⟨i,t,rfl,rfl⟩ |⟨x,t,rfl,rfl⟩
  ·rcases cv hv with⟨j,u,rfl,rfl⟩ |⟨y,u,rfl,rfl⟩
   ·rw[NK] at h;exact wpAny_eqBool_int h
   ·rw[NJ] at h;exact SeqAt.EqAt.int_str i t y u _ _ _ _ h
  ·rcases cv hv with⟨j,u,rfl,rfl⟩ |⟨y,u,rfl,rfl⟩
   ·rw[NI] at h;exact SeqAt.EqAt.str_int x t j u _ _ _ _ h
   ·rw[NH] at h;exact wpAny_eqBool_str h
 «strs»:=fun k x t v h=>by
  rcases cv h with⟨i,u,rfl,e⟩ |⟨y,u,rfl,e⟩
  ·exact nomatch e
  ·injection e with e1 _
   subst e1
   cases v<;>rfl
theorem yW (prog:Program) (w:World) (k:Key) (v:Value):(aT prog w).is k v=t4 k v:=rfl
theorem Ey (prog:Program) (w:World) (i:Int) (t:Tok):(aT prog w).is (.inl i) (.int i t)=true:=By i t
theorem wn (prog:Program) (w:World) (x:Str) (t:Tok):(aT prog w).is (.inr x) (.str x t)=true:=Bx x t
end L2
namespace L2
open PySem PySem.Spec PyProof.Rows
inductive V where
 |non |bl (b:Bool) |int (i:Int) |str (x:Str) |byt (b:Array UInt8) |flt (b:UInt64) |ref (a:Addr) |ty (n:String)
 deriving DecidableEq
def aZ:V→Value→Prop
 | .non,u=>u=Value.none
 | .bl b,u=>u=Value.bool b
 | .int i,u=> ∃t,u=Value.int i t
 | .str x,u=> ∃t,u=Value.str x t
 | .byt b,u=> ∃t,u=Value.bytes b t
 | .flt b,u=> ∃t,u=Value.float b t
 | .ref a,u=>u=Value.ref a
 | .ty n,u=>u=Value.type n
abbrev a8:List V→List Value→Prop:=Paired aZ
theorem a8.length {xs:List V}{us:List Value}(r:a8 xs us):xs.length=us.length:=Paired.length r
theorem a8.get: ∀{xs:List V}{us:List Value}{i:Nat}{x:V},a8 xs us→xs[i]? =some x→ ∃u,us[i]? =some u∧aZ x u
 |_,_,_,_,.nil,e=>by simp at e
 |_,_,0,_,.cons r _,e=>by simp at e;subst e;exact⟨_,rfl,r⟩
 |_,_,i+1,x,.cons _ t,e=>by
  obtain⟨u,h1,h2⟩:=a8.get (i:=i) (x:=x) t (by simpa using e)
  exact⟨u,by simpa using h1,h2⟩
theorem a8.set {x:V}{u:Value}(r:aZ x u): ∀{xs:List V}{us:List Value}(i:Nat),a8 xs us→a8 (xs.set i x) (us.set i u)
 |_,_,_,.nil=> .nil
 |_,_,0,.cons _ t=> .cons r t
 |_,_,i+1,.cons q t=> .cons q (a8.set r i t)
theorem a8.append: ∀{xs ys:List V}{us ws:List Value},a8 xs us→a8 ys ws→a8 (xs++ys) (us++ws)
 |_,_,_,_,.nil,s=>s
 |_,_,_,_,.cons r t,s=> .cons r (a8.append t s)
theorem a8.take: ∀{xs:List V}{us:List Value}(n:Nat),a8 xs us→a8 (xs.take n) (us.take n)
 |_,_,0,_=> .nil
 |_,_,_+1,.nil=> .nil
 |_,_,n+1,.cons r t=> .cons r (a8.take n t)
theorem a8.drop: ∀{xs:List V}{us:List Value}(n:Nat),a8 xs us→a8 (xs.drop n) (us.drop n)
 |_,_,0,r=>r
 |_,_,_+1,.nil=> .nil
 |_,_,n+1,.cons _ t=>a8.drop n t
def mh:Option V→Option Value→Prop
 |some v,some u=>aZ v u
 |none,none=>True
 |_,_=>False
def KV {κ:Type}:List (κ×V)→List (κ×Value)→Prop:=Paired fun(p:κ×V) (q:κ×Value)=>p.1=q.1∧aZ p.2 q.2
def kV:Key→V
 | .inl i=> .int i
 | .inr x=> .str x
inductive HO where
 |lst (xs:List V)
 |tup (xs:List V)
 |dK (kvs:List (Key×V)) |dT (kvs:List (List Key×V))
 |set (S:Int→Bool) (n:Nat)
 |ins (C dx:Addr) (fs:List (Str×V))
 |own (x:Addr)
 |xd (fs:List (Str×V))
 |met (f x:Addr)
 |rng (lo hi:Int)
 |frz (o:Obj) (u:HO)
 |tbl (ps:Array Value)
 |ext (φ:Heap→Prop)
abbrev Hp:=Addr→Option HO
def upd (H:Hp) (a:Addr) (o:HO):Hp:=fun b=>if b=a then some o else H b
theorem ae {H:Hp}{a:Addr}{o:HO}:upd H a o a=some o:=by unfold upd;rw[if_pos rfl]
theorem aj {H:Hp}{a b:Addr}{o:HO}(h:b≠a):upd H a o b=H b:=by unfold upd;rw[if_neg h]
theorem jx {H:Hp}{a:Addr}{o u:HO}:upd (upd H a o) a u=upd H a u:=by
 funext b;unfold upd;split<;>rfl
theorem OV {H:Hp}{a b:Addr}{o u:HO}(h:H a=some o) (h':H b=some u) (d:o≠u):a≠b:=by
 intro e;subst e;rw[h] at h';exact d (Option.some.inj h')
theorem au {H:Hp}{a b:Addr}{o:HO}(h:H a=some o) (h':H b=none):a≠b:=by
 intro e;subst e;rw[h] at h';cases h'
section
variable (P:Program) (w:World)
def cp (H:Hp) (h:Heap) (a:Addr):HO→Prop
 | .lst xs=>xs.length≤sizeLine∧ ∃(its:List Value) (n:Nat),a8 xs its∧h.get? a=some {cls:=.type "list",data:=.seq its.toArray n}
 | .tup xs=>xs.length≤sizeLine∧ ∃its:List Value,a8 xs its∧IsTup h a its.toArray
 | .dK kvs=>kvs.length≤sizeLine∧(a==sysModules)=false∧ ∃vs,KV kvs vs∧h.DictOf (aT P w) a vs
 | .dT kvs=>kvs.length≤sizeLine∧(a==sysModules)=false∧ ∃xs:List (List Key×Addr×Value),
   Paired (fun(p:List Key×V) (q:List Key×Addr×Value)=>p.1=q.1∧H q.2.1=some (.tup (p.1.map kV))∧aZ p.2 q.2.2) kvs xs∧
   ∃o es ep,h.get? a=some o∧o.ExactDict∧o.data=.dict es ep∧es.toList=xs.map (entryOfKey (tupleKind (aT P w)))∧(xs.map (·.1)).Nodup
 | .set S n=>h.SetOf (intKind P w) a S n
 | .ins C dx fs=>H dx=some (.own a)∧fs.length≤1000∧dx≠a∧h.get? a=some (PySem.W.instObj C dx)∧
   ∃mA,h.Ns1 dx mA∧(∀f,mh (fs.lookup f) (mA f))∧PySem.Within mA (fs.map (·.1))
 | .own _=> ∃o,h.get? a=some o
 | .xd fs=> ∃mA,h.Ns1 a mA∧ ∀f,mh (fs.lookup f) (mA f)
 | .rng lo hi=> ∃t u v,h.get? a=some {cls:=.type "range",data:=.fields #[.int lo t,.int hi u,.int 1 v]}
 | .frz o u=>h.get? a=some o∧cp H h a u
 | .tbl ps=>h.get? a=some {cls:=.none,data:=.fields ps}
 | .met f x=>h.get? a=some (PySem.W.methodObj (.ref f) (.ref x))
 | .ext φ=>φ h∧(∃o,h.get? a=some o)∧ ∀h1 h2:Heap,φ h1→(∀o,h1.get? a=some o→h2.get? a=some o)→φ h2
def HOk (H:Hp) (h:Heap):Prop:= ∀a o,H a=some o→cp P w H h a o
end
section
variable {P:Program}{w:World}{H H':Hp}{h h':Heap}{a:Addr}{o:HO}
theorem cp.lt (x:cp P w H h a o):a<h.objs.size:=by
 cases o with
 |lst xs=>obtain⟨_,_,_,_,e⟩:=x;exact Heap.lt_size e
 |tup xs=>obtain⟨_,_,_,p⟩:=x;exact p.lt
 |dK kvs=>obtain⟨_,_,_,_,o,_,_,e,_⟩:=x;exact Heap.lt_size e
 |dT kvs=>obtain⟨_,_,_,_,o,_,_,e,_⟩:=x;exact Heap.lt_size e
 |set S n=>obtain⟨o,_,_,_,e,_⟩:=x;exact Heap.lt_size e
 |ins C dx fs=>obtain⟨_,_,_,e,_⟩:=x;exact Heap.lt_size e
 |own y=>obtain⟨_,e⟩:=x;exact Heap.lt_size e
 |xd fs=>obtain⟨_,⟨_,_,_,e,_⟩,_⟩:=x;exact Heap.lt_size e
 |rng lo hi=>obtain⟨_,_,_,e⟩:=x;exact Heap.lt_size e
 |frz ob u=>obtain⟨e,_⟩:=x;exact Heap.lt_size e
 |tbl ps=>exact Heap.lt_size (show h.get? a=some _ from x)
 |met f y=>exact Heap.lt_size (show h.get? a=some _ from x)
 |ext φ=>obtain⟨_,⟨_,e⟩,_⟩:=x;exact Heap.lt_size e
theorem Paired.mapP {α β:Type}{F G:α→β→Prop}: ∀{l₁:List α}{l₂:List β},Paired F l₁ l₂→(∀a b,F a b→G a b)→Paired G l₁ l₂
 |_,_,.nil,_=> .nil
 |_,_,.cons r t,f=> .cons (f _ _ r) (Paired.mapP t f)
theorem cp.stay (x:cp P w H h a o) (k: ∀b u,(b=a∨H b=some (.own a))→h.get? b=some u→h'.get? b=some u)
  (ho: ∀b,H b=some (.own a)→H' b=some (.own a)) (ht: ∀b xs,H b=some (.tup xs)→H' b=some (.tup xs)):cp P w H' h' a o:=by
 induction o with
 |lst xs=>obtain⟨z,its,n,r,e⟩:=x;exact⟨z,its,n,r,k _ _ (.inl rfl) e⟩
 |tup xs=>obtain⟨z,its,r,ob,e,c⟩:=x;exact⟨z,its,r,ob,k _ _ (.inl rfl) e,c⟩
 |dK kvs=>obtain⟨z,y,vs,r,ob,es,ep,e,c⟩:=x;exact⟨z,y,vs,r,ob,es,ep,k _ _ (.inl rfl) e,c⟩
 |dT kvs=>
  obtain⟨z,y,xs,r,ob,es,ep,e,c⟩:=x
  exact⟨z,y,xs,Paired.mapP r fun p q z=>⟨z.1,ht _ _ z.2.1,z.2.2⟩,ob,es,ep,k _ _ (.inl rfl) e,c⟩
 |set S n=>obtain⟨ob,es,ep,t,e,c⟩:=x;exact⟨ob,es,ep,t,k _ _ (.inl rfl) e,c⟩
 |ins C dx fs=>
  obtain⟨d,z,ne,e,mA,⟨od,es,ep,e2,c⟩,r⟩:=x
  exact⟨ho _ d,z,ne,k _ _ (.inl rfl) e,mA,⟨od,es,ep,k _ _ (.inr d) e2,c⟩,r⟩
 |own y=>obtain⟨ob,e⟩:=x;exact⟨ob,k _ _ (.inl rfl) e⟩
 |xd fs=>obtain⟨mA,⟨od,es,ep,e,c⟩,r⟩:=x;exact⟨mA,⟨od,es,ep,k _ _ (.inl rfl) e,c⟩,r⟩
 |rng lo hi=>obtain⟨t,u,v,e⟩:=x;exact⟨t,u,v,k _ _ (.inl rfl) e⟩
 |frz ob u ih=>obtain⟨e,q⟩:=x;exact⟨k _ _ (.inl rfl) e,ih q⟩
 |tbl ps=>
  have e:h.get? a=some {cls:=.none,data:=.fields ps}:=x
  show h'.get? a=some {cls:=.none,data:=.fields ps}
  exact k a _ (.inl rfl) e
 |met f y=>
  have e:h.get? a=some (PySem.W.methodObj (.ref f) (.ref y)):=x
  show h'.get? a=some (PySem.W.methodObj (.ref f) (.ref y))
  exact k a _ (.inl rfl) e
 |ext φ=>obtain⟨p,⟨o,e⟩,st⟩:=x;exact⟨st _ _ p fun o q=>k _ _ (.inl rfl) q,⟨o,k _ _ (.inl rfl) e⟩,st⟩
theorem HOk.lt (x:HOk P w H h) (e:H a=some o):a<h.objs.size:=(x a o e).lt
theorem HOk.fresh (x:HOk P w H h) (e:h.objs.size≤a):H a=none:=by
 cases q:H a with
 |none=>rfl
 |some u=>exact absurd (Nat.lt_of_lt_of_le (x.lt q) e) (Nat.lt_irrefl _)
theorem HOk.kept (x:HOk P w H h) (k: ∀b u,h.get? b=some u→h'.get? b=some u):HOk P w H h':=fun a o e=>
 (x a o e).stay (fun b u _ q=>k b u q) (fun _ q=>q) fun _ _ q=>q
theorem HOk.laid (x:HOk P w H h) (k: ∀b u,h.get? b=some u→h'.get? b=some u) (hp:h.objs.size≤a) (new:cp P w (upd H a o) h' a o):HOk P w (upd H a o) h':=fun b u e=>by
 have hn:=x.fresh hp
 by_cases hb:b=a
 ·subst hb;rw[ae] at e;cases e;exact new
 ·rw[aj hb] at e
  exact(x b u e).stay (fun c v _ q=>k c v q) (fun c q=>by rw[aj (au q hn)];exact q) fun c xs q=>by rw[aj (au q hn)];exact q
end
def Rd (H:Hp) (a:Addr) (u:HO):Prop:=H a=some u∨ ∃o,H a=some (.frz o u)
theorem Rd.ok {P:Program}{w:World}{H:Hp}{h:Heap}{a:Addr}{u:HO}(r:Rd H a u) (x:HOk P w H h):cp P w H h a u:=by
 rcases r with r |⟨o,r⟩
 ·exact x a u r
 ·obtain⟨_,q⟩:=x a _ r
  exact q
def Mut:Option HO→Prop
 |some (.lst _)=>True
 |some (.dK _)=>True
 |some (.dT _)=>True
 |some (.set _ _)=>True
 |some (.ins _ _ _)=>True
 |some (.ext _)=>True
 |_=>False
section
variable {P:Program}{w:World}{H:Hp}{h h':Heap}{x e:Addr}{o':HO}
theorem HOk.write (ok:HOk P w H h) (mu:Mut (H x)) (he:e=x∨H e=some (.own x)) (k: ∀b u,b≠e→h.get? b=some u→h'.get? b=some u) (heo: ∃u,h'.get? e=some u)
  (new:cp P w (upd H x o') h' x o'):HOk P w (upd H x o') h':=fun b u q=>by
 have nown: ∀c y,H c=some (.own y)→c≠x:=fun c y r z=>by subst z;rw[r] at mu;exact mu
 have ntup: ∀c xs,H c=some (.tup xs)→c≠x:=fun c xs r z=>by subst z;rw[r] at mu;exact mu
 by_cases hb:b=x
 ·subst hb;rw[ae] at q;cases q;exact new
 ·rw[aj hb] at q
  by_cases hbe:b=e
  ·have q':H b=some (.own x):=by
    rcases he with z |z
    ·exact absurd (hbe.trans z) hb
    ·rw[hbe];exact z
   rw[q] at q';cases q'
   obtain⟨v,hv⟩:=heo
   exact⟨v,by rw[hbe];exact hv⟩
  ·refine(ok b u q).stay (fun c v hc r=>k c v ?_ r) (fun c r=>by rw[aj (nown c b r)];exact r) fun c xs r=>by rw[aj (ntup c xs r)];exact r
   rcases hc with rfl |hc
   ·exact hbe
   ·rintro rfl
    rcases he with z |z
    ·exact nown c b hc z
    ·rw[hc] at z;cases z;exact hb rfl
end
structure Un (fs ex:List Addr) (H H':Hp) (h h':Heap):Prop where
 keep: ∀b o,h.get? b=some o→H b=none→b∉fs→b∉ex→h'.get? b=some o
 slot: ∀b o,h.get? b=some o→H b=none→b∈fs→b∉ex→ ∃sl,h'.get? b=some {o with slots:=sl}
 free: ∀b o,h.get? b=some o→H b=none→b∉ex→H' b=none
 there: ∀b o,h.get? b=some o→b∉ex→ ∃o',h'.get? b=some o'
 tups: ∀b xs,H b=some (.tup xs)→H' b=some (.tup xs)
 frzs: ∀b o u,H b=some (.frz o u)→H' b=some (.frz o u)
 tbls: ∀b ps,H b=some (.tbl ps)→ ∃more,H' b=some (.tbl (ps++more))
section
variable {fs fs' ex ex':List Addr}{H H1 H2:Hp}{h h1 h2 h':Heap}{a x e:Addr}{o:HO}
theorem Un.any (u:Un fs ex H H1 h h1) {b:Addr}{ob:Obj}(q:h.get? b=some ob) (n:H b=none) (hx:b∉ex): ∃sl,h1.get? b=some {ob with slots:=sl}:=by
 by_cases hb:b∈fs
 ·exact u.slot b ob q n hb hx
 ·exact⟨ob.slots,u.keep b ob q n hb hx⟩
theorem Un.kept (k: ∀b u,h.get? b=some u→h'.get? b=some u):Un fs ex H H h h':=
 ⟨fun b ob q _ _ _=>k b ob q,fun b ob q _ _ _=>⟨ob.slots,k b ob q⟩,fun _ _ _ n _=>n,fun b ob q _=>⟨ob,k b ob q⟩,fun _ _ q=>q,fun _ _ _ q=>q,fun _ ps q=>⟨#[],by rw[q];simp⟩⟩
theorem Un.refl:Un fs ex H H h h:=Un.kept fun _ _ q=>q
theorem Un.laid (k: ∀b u,h.get? b=some u→h'.get? b=some u) (hp:h.objs.size≤a) (hn:H a=none):Un fs ex H (upd H a o) h h' where
 keep:=fun b u q _ _ _=>k b u q
 slot:=fun b u q _ _ _=>⟨u.slots,k b u q⟩
 free:=fun b u q n _=>by rw[aj (Nat.ne_of_lt (Nat.lt_of_lt_of_le (Heap.lt_size q) hp))];exact n
 there:=fun b u q _=>⟨u,k b u q⟩
 tups:=fun b xs q=>by rw[aj (au q hn)];exact q
 frzs:=fun b u xs q=>by rw[aj (au q hn)];exact q
 tbls:=fun b ps q=>⟨#[],by rw[aj (au q hn),q];simp⟩
theorem Un.write (mu:Mut (H x)) (he:e=x∨H e=some (.own x)) (k: ∀b u,b≠e→h.get? b=some u→h'.get? b=some u) (heo: ∃u,h'.get? e=some u):Un fs ex H (upd H x o) h h':=by
 have hx: ∀b,H b=none→b≠x:=fun b n z=>by subst z;rw[n] at mu;exact mu
 have hb: ∀b,H b=none→b≠e:=fun b n z=>by
  subst z
  rcases he with r |r
  ·exact hx b n r
  ·rw[n] at r;cases r
 have hm: ∀b u,H b=some u→ ¬Mut (some u)→b≠x:=fun b u q nm z=>by subst z;rw[q] at mu;exact nm mu
 refine⟨fun b u q n _ _=>k b u (hb b n) q,fun b u q n _ _=>⟨u.slots,k b u (hb b n) q⟩,fun b u q n _=>by rw[aj (hx b n)];exact n,fun b u q _=> ?_,
  fun b xs q=>by rw[aj (hm b _ q fun z=>z)];exact q,fun b u xs q=>by rw[aj (hm b _ q fun z=>z)];exact q,fun b ps q=>⟨#[],by rw[aj (hm b _ q fun z=>z),q];simp⟩⟩
 by_cases hbe:b=e
 ·subst hbe;exact heo
 ·exact⟨u,k b u hbe q⟩
end
def trk (h:Heap) (H:Hp):List Addr:=(List.range h.objs.size).filter fun a=>(H a).isSome
def CY (h:Heap) (H:Hp):Heap:=PySem.W.hideAll h (trk h H)
theorem HM (h:Heap) (H:Hp):(CY h H).objs.size=h.objs.size:=PySem.W.hideAll_size _ _
theorem Ka {h:Heap}{H:Hp}{b:Addr}{o:Obj}(e:h.get? b=some o) (n:H b=none):(CY h H).get? b=some o:=
 PySem.W.hideAll_get _ e fun hm=>by
  have q:(H b).isSome=true:=(List.mem_filter.mp hm).2
  rw[n] at q;simp at q
theorem LM {h:Heap}{H:Hp}{b:Addr}{o:Obj}(e:(CY h H).get? b=some o):h.get? b=some o∧H b=none:=by
 have e':h.get? b=some o:=PySem.W.of_hideAll (trk h H) e
 refine⟨e',?_⟩
 cases q:H b with
 |none=>rfl
 |some x=>
  have hm:b∈trk h H:=List.mem_filter.mpr ⟨List.mem_range.mpr (Heap.lt_size e'),by simp[q]⟩
  have z:(CY h H).get? b=none:=PySem.W.hideAll_none (trk h H) hm
  rw[z] at e;cases e
def Me (g h:Heap) (L:Addr):List (Addr×Obj):=(List.range h.objs.size).filterMap fun a=>if a=L∨(g.get? a).isSome=true then none else(h.get? a).map fun o=>(a,o)
def tN (g h:Heap) (L d:Addr):List (Addr×Obj):=(Me g h L).filter fun p=>decide (p.1≠d)
end L2
namespace L2
open PySem PySem.Spec PyProof.Rows
structure Mod (K:PySem.W.Frag) (mg:Str→Option Value) (base:Heap):Prop where
 kin:K.In base
 glob:base.Ns mainGlobals mg
 blt: ∃mb,base.Ns builtinsNs mb∧ ∀x:Str,x≠"__name__"→mb x=bootBuiltins x
 nolimit:base.NoLimit
structure Cx where
 prog:Program
 w:World
 K:PySem.W.Frag
 mg:Str→Option Value
 base:Heap
 A:Around
 N:List Str
 s₀:Shared
 H₀:Hp
 env:Env
 outer:List Env
 stack:List Env
 ex:List Addr
 fn:Str→Bool
 calm:Bool
 pn:List (Addr×Obj)
 xe:Value→Shared→Prop
def frs (l:List Env):List Addr:=l.filterMap (·.frame)
abbrev Cx.fs (X:Cx):List Addr:=frs X.outer
def Vis (sc:Scope) (x:Str):Prop:=sc.names.lookup x=some .local ∨sc.names.lookup x=some .cell∨sc.names.lookup x=some .free
def Loc (sc:Scope) (x:Str):Prop:=sc.names.lookup x=some .local ∨sc.names.lookup x=some .cell
def PZ (env:Env) (h:Heap) (m:Str→Option Value) (x:Str) (u:Value):Prop:=
 (env.kindOf x=some .local ∧m x=some u)∨((env.kindOf x=some .cell∨env.kindOf x=some .free)∧ ∃c,env.cells.lookup x=some c∧h.IsCell c (some u))
structure Cx.Ok (X:Cx):Prop where
 mod:Mod X.K X.mg X.base
 kind:X.env.scope.kind=.function
 glob:X.env.globals=mainGlobals
 blt:X.env.builtins=builtinsNs
 above:X.s₀.heap.objs.size≤X.env.locals
 inj: ∀x y c,X.env.cells.lookup x=some c→X.env.cells.lookup y=some c→x=y
 has: ∀x,(X.env.kindOf x=some .cell∨X.env.kindOf x=some .free)→ ∃c,X.env.cells.lookup x=some c
 cab: ∀x c,X.fn x=true→X.env.cells.lookup x=some c→X.s₀.heap.objs.size≤c
 hd:X.calm=true→X.A.handled=none
 frames:X.A.frames=some X.stack
 stk:X.stack=X.outer∨(X.stack=X.env::X.outer∧X.env.frame=some X.env.locals)
 exf: ∀b∈X.ex,b≠X.env.locals∧ ∀x c,X.env.cells.lookup x=some c→c≠b
 bs: ∀b o,X.base.get? b=some o→X.s₀.heap.get? b=some o∧X.H₀ b=none
 bsz:X.base.objs.size≤X.s₀.heap.objs.size
 noex: ∀b o,X.base.get? b=some o→b∉X.ex
 exfs: ∀b∈X.ex,b∉X.fs
 funs:X.s₀.heap.FunFrames X.base X.outer
 frf: ∀b∈X.fs,X.H₀ b=none
structure Inv (X:Cx) (pins:List (Addr×Obj)) (σ:List (Option V)) (H:Hp) (s:Shared):Prop where
 ok:X.Ok
 os:s.os=X.s₀.os
 bare:AllBare s.gens
 base:Un X.fs X.ex X.H₀ H X.s₀.heap s.heap
 loc: ∃m,s.heap.Ns X.env.locals m∧ ∀(i:Nat) (x:Str) (v:V),X.N[i]? =some x→σ[i]? =some (some v)→Vis X.env.scope x→ ∃u,aZ v u∧PZ X.env s.heap m x u
 cell: ∀x c,X.env.cells.lookup x=some c→ ∃v,s.heap.IsCell c v
 free:H X.env.locals=none
 freeC: ∀x c,X.env.cells.lookup x=some c→H c=none
 pin: ∀p∈X.pn++pins,s.heap.get? p.1=some p.2∧H p.1=none∧p.1≠X.env.locals∧p.1∉X.fs∧ ∀v,p.2.data≠.cell v
 hok:HOk X.prog X.w H s.heap
 len:σ.length=X.N.length
section
variable {X:Cx}{pins:List (Addr×Obj)}{σ:List (Option V)}{H H':Hp}{s:Shared}{h':Heap}
theorem Cx.Ok.nofr (ok:X.Ok) {b:Addr}{o:Obj}(e:X.base.get? b=some o):b∉X.fs:=fun hb=>by
 have:=(ok.funs.mem hb).1
 rw[e] at this;cases this
theorem Inv.bs (I:Inv X pins σ H s): ∀b o,X.base.get? b=some o→s.heap.get? b=some o∧H b=none:=fun b o e=>
 ⟨I.base.keep b o (I.ok.bs b o e).1 (I.ok.bs b o e).2 (I.ok.nofr e) (I.ok.noex b o e),I.base.free b o (I.ok.bs b o e).1 (I.ok.bs b o e).2 (I.ok.noex b o e)⟩
theorem Inv.bk (I:Inv X pins σ H s): ∀b o,X.base.get? b=some o→s.heap.get? b=some o:=fun b o e=>(I.bs b o e).1
theorem Inv.mod (I:Inv X pins σ H s):Mod X.K X.mg X.base:=I.ok.mod
theorem Inv.kIn (I:Inv X pins σ H s):X.K.In s.heap:=I.ok.mod.kin.keeps I.bk
theorem Inv.fr (I:Inv X pins σ H s): ∃m,Fr X.base X.env.locals s.heap m:=
 let⟨m,hn,_⟩:=I.loc
 ⟨m,hn,I.bk,Nat.le_trans I.ok.bsz I.ok.above⟩
theorem Inv.lt (I:Inv X pins σ H s):X.env.locals<s.heap.objs.size:=let⟨_,hn,_⟩:=I.loc;hn.lt
theorem Inv.sz (I:Inv X pins σ H s):X.s₀.heap.objs.size≤s.heap.objs.size:=Nat.le_trans I.ok.above (Nat.le_of_lt I.lt)
theorem Inv.nofs (I:Inv X pins σ H s) {a:Addr}(h:s.heap.objs.size≤a):a∉X.fs:=fun hb=>by
 obtain⟨_,o,ho,_⟩:=I.ok.funs.mem hb
 exact absurd (Nat.lt_of_lt_of_le (Heap.lt_size ho) (Nat.le_trans I.sz h)) (Nat.lt_irrefl _)
theorem Inv.cne (I:Inv X pins σ H s): ∀x c,X.env.cells.lookup x=some c→c≠X.env.locals:=fun x c e z=>by
 obtain⟨v,o,ho,hd⟩:=I.cell x c e
 obtain⟨m,⟨o',es,ep,ho',hd',_⟩,_⟩:=I.loc
 rw[z,ho'] at ho;cases ho;rw[hd'] at hd;cases hd
theorem Inv.funs (I:Inv X pins σ H s):s.heap.FunFrames X.base X.outer:=by
 have all: ∀(l:List Env),(∀b∈frs l,b∈X.fs)→X.s₀.heap.FunFrames X.base l→s.heap.FunFrames X.base l:=by
  intro l
  induction l with
  |nil=>intro _ _;trivial
  |cons env r ih=>
   intro hs hl
   obtain⟨hk,⟨L,o,hf,hn,ho,hd⟩,hr⟩:=hl
   have hL:L∈X.fs:=hs L (by unfold frs;rw[List.filterMap_cons,hf];exact List.mem_cons_self)
   obtain⟨sl,e⟩:=I.base.slot L o ho (I.ok.frf L hL) hL fun z=>I.ok.exfs L z hL
   exact⟨hk,⟨L,_,hf,hn,e,hd⟩,ih (fun b hb=>hs b (by unfold frs;rw[List.filterMap_cons,hf];exact List.mem_cons_of_mem _ hb)) hr⟩
 exact all X.outer (fun _ hb=>hb) I.ok.funs
theorem Inv.stack (I:Inv X pins σ H s):s.heap.FunFrames X.base X.stack:=by
 rcases I.ok.stk with e |⟨e,hf⟩
 ·rw[e];exact I.funs
 ·rw[e]
  obtain⟨m,hn,_⟩:=I.loc
  refine .cons (by rw[I.ok.kind];decide) hf hn ?_ I.funs
  exact Heap.get?_none_of_le (Nat.le_trans I.ok.bsz I.ok.above)
theorem Inv.stkSub (I:Inv X pins σ H s): ∀b∈frs X.stack,b∈X.env.locals::X.fs:=fun b hb=>by
 rcases I.ok.stk with e |⟨e,hf⟩
 ·rw[e] at hb;exact List.mem_cons_of_mem _ hb
 ·rw[e] at hb
  unfold frs at hb
  rw[List.filterMap_cons,hf] at hb
  exact hb
theorem Inv.stkFree (I:Inv X pins σ H s): ∀b∈frs X.stack,H b=none:=fun b hb=>by
 rcases List.mem_cons.mp (I.stkSub b hb) with e |hb
 ·rw[e];exact I.free
 ·obtain⟨_,o,ho,_⟩:=I.ok.funs.mem hb
  exact I.base.free b o ho (I.ok.frf b hb) fun z=>I.ok.exfs b z hb
theorem Inv.step {g':Array GenState}{t':Nat}{d':Drawn}{ch:List Addr}(I:Inv X pins σ H s)
  (hch: ∀b∈ch,(b∈X.ex∨X.s₀.heap.objs.size≤b)∧b≠X.env.locals∧(∀x c,X.env.cells.lookup x=some c→c≠b)∧ ∀p∈X.pn++pins,p.1≠b)
  (keep: ∀b o,b≠X.env.locals→b∉X.fs→b∉ch→s.heap.get? b=some o→H b=none→h'.get? b=some o)
  (slot: ∀b o,b≠X.env.locals→b∈X.fs→b∉ch→s.heap.get? b=some o→H b=none→ ∃sl,h'.get? b=some {o with slots:=sl}) (free: ∀b o,b∉ch→s.heap.get? b=some o→H b=none→H' b=none)
  (there: ∀b o,b∉ch→s.heap.get? b=some o→ ∃o',h'.get? b=some o')
  (tups: ∀b xs,H b=some (.tup xs)→H' b=some (.tup xs)) (frzs: ∀b o u,H b=some (.frz o u)→H' b=some (.frz o u)) (tbls: ∀b ps,H b=some (.tbl ps)→ ∃more,H' b=some (.tbl (ps++more)))
  (ns: ∀m,s.heap.Ns X.env.locals m→h'.Ns X.env.locals m) (hok:HOk X.prog X.w H' h') (hg:AllBare g'):
  Inv X pins σ H' {s with heap:=h',gens:=g',drawn:=d',toks:=t'}:=by
 have neL: ∀b o,X.s₀.heap.get? b=some o→b≠X.env.locals:=fun b o e=>Nat.ne_of_lt (Nat.lt_of_lt_of_le (Heap.lt_size e) I.ok.above)
 have neC: ∀b o,X.s₀.heap.get? b=some o→b∉X.ex→b∉ch:=fun b o e hx hb=>by
  rcases(hch b hb).1 with z |z
  ·exact hx z
  ·exact absurd (Nat.lt_of_lt_of_le (Heap.lt_size e) z) (Nat.lt_irrefl _)
 have cellK: ∀x c,X.env.cells.lookup x=some c→ ∀v,s.heap.IsCell c v→h'.IsCell c v:=fun x c e v ⟨o,ho,hd⟩=>by
  have nch:c∉ch:=fun z=>(hch c z).2.2.1 x c e rfl
  by_cases hc:c∈X.fs
  ·obtain⟨sl,q⟩:=slot c o (I.cne x c e) hc nch ho (I.freeC x c e)
   exact⟨_,q,hd⟩
  ·exact⟨o,keep c o (I.cne x c e) hc nch ho (I.freeC x c e),hd⟩
 refine⟨I.ok,I.os,hg,⟨fun b o e n hb hx=> ?_,fun b o e n hb hx=> ?_,fun b o e n hx=> ?_,fun b o e hx=> ?_,fun b xs e=>tups b xs (I.base.tups b xs e),fun b o xs e=>frzs b o xs (I.base.frzs b o xs e),fun b ps e=> ?_⟩,?_,fun x c e=> ?_,?_,fun x c e=> ?_,fun p hp=> ?_,hok,I.len⟩
 ·exact keep b o (neL b o e) hb (neC b o e hx) (I.base.keep b o e n hb hx) (I.base.free b o e n hx)
 ·obtain⟨sl,e1⟩:=I.base.slot b o e n hb hx
  obtain⟨sl',e2⟩:=slot b _ (neL b o e) hb (neC b o e hx) e1 (I.base.free b o e n hx)
  exact⟨sl',e2⟩
 ·obtain⟨o',e1⟩:=I.base.there b o e hx
  exact free b o' (neC b o e hx) e1 (I.base.free b o e n hx)
 ·obtain⟨o',e1⟩:=I.base.there b o e hx
  exact there b o' (neC b o e hx) e1
 ·obtain⟨m1,e1⟩:=I.base.tbls b ps e
  obtain⟨m2,e2⟩:=tbls b _ e1
  exact⟨m1++m2,by rw[e2,Array.append_assoc]⟩
 ·obtain⟨m,hn,hl⟩:=I.loc
  refine⟨m,ns m hn,fun i x v e1 e2 e3=> ?_⟩
  obtain⟨u,r,l⟩:=hl i x v e1 e2 e3
  refine⟨u,r,?_⟩
  rcases l with l |⟨k,c,e,z⟩
  ·exact .inl l
  ·exact .inr ⟨k,c,e,cellK x c e _ z⟩
 ·obtain⟨v,z⟩:=I.cell x c e
  exact⟨v,cellK x c e v z⟩
 ·obtain⟨m,⟨o,_,_,ho,_⟩,_⟩:=I.loc
  exact free _ o (fun z=>(hch _ z).2.1 rfl) ho I.free
 ·obtain⟨v,o,ho,hd⟩:=I.cell x c e
  exact free c o (fun z=>(hch c z).2.2.1 x c e rfl) ho (I.freeC x c e)
 ·obtain⟨e,n,ne,nf,d⟩:=I.pin p hp
  have nch:p.1∉ch:=fun z=>(hch p.1 z).2.2.2 p hp rfl
  exact⟨keep p.1 p.2 ne nf nch e n,free p.1 p.2 nch e n,ne,nf,d⟩
theorem Inv.un {t':Nat}(I:Inv X pins σ H s) (u:Un X.fs [] H H' s.heap h') (hok:HOk X.prog X.w H' h'):Inv X pins σ H' {s with heap:=h',toks:=t'}:=by
 obtain⟨m,⟨o,es,ep,ho,r⟩,_⟩:=id I.loc
 obtain⟨sl,hL⟩:=u.any ho I.free (by simp)
 exact I.step (g':=s.gens) (d':=s.drawn) (ch:=[]) (fun _ z=>nomatch z) (fun b o _ hb _ e n=>u.keep b o e n hb (by simp)) (fun b o _ hb _ e n=>u.slot b o e n hb (by simp)) (fun b o _ e n=>u.free b o e n (by simp)) (fun b o _ e=>u.there b o e (by simp)) u.tups u.frzs u.tbls (fun m' hm=>by
  obtain⟨o',es',ep',ho',r'⟩:=hm
  rw[ho] at ho';cases ho'
  exact⟨_,es',ep',hL,r'⟩) hok I.bare
theorem Inv.call {g':Array GenState}{t':Nat}{d':Drawn}{ch:List Addr}(I:Inv X pins σ H s) (u:Un (frs X.stack) ch H H' s.heap h') (hok:HOk X.prog X.w H' h') (hg:AllBare g')
  (hch: ∀b∈ch,(b∈X.ex∨X.s₀.heap.objs.size≤b)∧b≠X.env.locals∧(∀x c,X.env.cells.lookup x=some c→c≠b)∧ ∀p∈X.pn++pins,p.1≠b):
  Inv X pins σ H' {s with heap:=h',gens:=g',drawn:=d',toks:=t'}:=by
 obtain⟨m,⟨o,es,ep,ho,r⟩,_⟩:=id I.loc
 obtain⟨sl,hL⟩:=u.any ho I.free fun z=>(hch _ z).2.1 rfl
 exact I.step (ch:=ch) hch (fun b o hL hb hc e n=>u.keep b o e n (fun z=>(List.mem_cons.mp (I.stkSub b z)).elim hL hb) hc) (fun b o _ _ hc e n=>u.any e n hc) (fun b o hc e n=>u.free b o e n hc) (fun b o hc e=>u.there b o e hc) u.tups u.frzs u.tbls (fun m' hm=>by
  obtain⟨o',es',ep',ho',r'⟩:=hm
  rw[ho] at ho';cases ho'
  exact⟨_,es',ep',hL,r'⟩) hok hg
theorem Inv.turned {t':Nat}{it:Addr}(I:Inv X pins σ H s) (k: ∀b o,b≠it→s.heap.get? b=some o→h'.get? b=some o) (hn:H it=none) (hL:it≠X.env.locals)
  (h1:it∈X.ex∨X.s₀.heap.objs.size≤it) (h2: ∀x c,X.env.cells.lookup x=some c→c≠it) (h3: ∀p∈X.pn++pins,p.1≠it):Inv X pins σ H {s with heap:=h',toks:=t'}:=by
 have nit: ∀b u,H b=some u→b≠it:=fun b u e z=>by rw[z,hn] at e;cases e
 refine I.step (g':=s.gens) (d':=s.drawn) (ch:=[it]) (fun b hb=> ?_) (fun b o _ _ hc e _=>k b o (fun z=>hc (by simp[z])) e) (fun b o _ _ hc e _=>⟨o.slots,k b o (fun z=>hc (by simp[z])) e⟩) (fun _ _ _ _ n=>n)
  (fun b o hc e=>⟨o,k b o (fun z=>hc (by simp[z])) e⟩) (fun _ _ e=>e) (fun _ _ _ e=>e) (fun b ps e=>⟨#[],by rw[e];simp⟩) (fun m hm=> ?_) (fun b u e=> ?_) I.bare
 ·have e:b=it:=by simpa using hb
  subst e
  exact⟨h1,hL,h2,h3⟩
 ·obtain⟨o,es,ep,ho,r⟩:=hm
  exact⟨o,es,ep,k _ o (Ne.symm hL) ho,r⟩
 ·refine(I.hok b u e).stay (fun c v hc q=>k c v ?_ q) (fun _ q=>q) fun _ _ q=>q
  rcases hc with z |z
  ·rw[z];exact nit b u e
  ·exact nit c _ z
theorem Inv.tok (I:Inv X pins σ H s) (t:Nat):Inv X pins σ H {s with toks:=t}:=I.un (h':=s.heap) (t':=t) Un.refl I.hok
theorem Inv.kept {t':Nat}(I:Inv X pins σ H s) (k: ∀b u,s.heap.get? b=some u→h'.get? b=some u):Inv X pins σ H {s with heap:=h',toks:=t'}:=I.un (Un.kept k) (I.hok.kept k)
theorem Inv.laid {a:Addr}{o:HO}{t':Nat}(I:Inv X pins σ H s) (k: ∀b u,s.heap.get? b=some u→h'.get? b=some u) (hp:s.heap.objs.size≤a) (new:cp X.prog X.w (upd H a o) h' a o):
  Inv X pins σ (upd H a o) {s with heap:=h',toks:=t'}:=I.un (Un.laid k hp (I.hok.fresh hp)) (I.hok.laid k hp new)
theorem Inv.write {x e:Addr}{o:HO}{t':Nat}(I:Inv X pins σ H s) (mu:Mut (H x)) (he:e=x∨H e=some (.own x)) (k: ∀b u,b≠e→s.heap.get? b=some u→h'.get? b=some u) (heo: ∃u,h'.get? e=some u)
  (new:cp X.prog X.w (upd H x o) h' x o):Inv X pins σ (upd H x o) {s with heap:=h',toks:=t'}:=I.un (Un.write mu he k heo) (I.hok.write mu he k heo new)
theorem Inv.weak {σ':List (Option V)}(I:Inv X pins σ H s) (hl:σ'.length=σ.length) (w: ∀(i:Nat) v,σ'[i]? =some (some v)→σ[i]? =some (some v)):Inv X pins σ' H s:=
 ⟨I.ok,I.os,I.bare,I.base,let⟨m,hn,hl'⟩:=I.loc;⟨m,hn,fun i x v e1 e2 e3=>hl' i x v e1 (w i v e2) e3⟩,I.cell,I.free,I.freeC,I.pin,I.hok,hl.trans I.len⟩
theorem Inv.pins_of {pins':List (Addr×Obj)}(I:Inv X pins σ H s) (h: ∀p∈pins',s.heap.get? p.1=some p.2∧H p.1=none∧p.1≠X.env.locals∧p.1∉X.fs∧ ∀v,p.2.data≠.cell v):Inv X pins' σ H s:=
 ⟨I.ok,I.os,I.bare,I.base,I.loc,I.cell,I.free,I.freeC,fun p hp=>(List.mem_append.mp hp).elim (fun z=>I.pin p (List.mem_append_left _ z)) (h p),I.hok,I.len⟩
theorem Eu {N:List Str}(hN:N.Nodup) {i j:Nat}{x:Str}(a:N[i]? =some x) (b:N[j]? =some x):i=j:=by
 obtain⟨h1,e1⟩:=List.getElem?_eq_some_iff.mp a
 obtain⟨h2,e2⟩:=List.getElem?_eq_some_iff.mp b
 exact(List.getElem_inj hN).mp (e1.trans e2.symm)
theorem Bp {M:Model}{A:Around}{E:Value→Shared→Prop}{i:Nat}{x:Str}{v:V}{u:Value}{Q:Unit→Shared→Prop}(I:Inv X pins σ H s) (hN:X.N.Nodup) (hi:X.N[i]? =some x) (hx:Loc X.env.scope x) (r:aZ v u)
  (h: ∀s',Inv X pins (σ.set i (some v)) H s'→(∃a,Heap.SameBut a s.heap s'.heap∧(a=X.env.locals∨X.env.cells.lookup x=some a))→Q () s') (hf:X.fn x=true∨X.env.scope.names.lookup x=some .local :=by first |exact .inl rfl |exact .inr rfl |assumption):wpAny M A (storeName X.env x u) Q E s:=by
 obtain⟨m,hn,hl⟩:=id I.loc
 have hcls:(X.env.scope.kind==.class ||(X.env.scope.kind==.module && X.env.locals !=X.env.globals))=false:=by rw[I.ok.kind];rfl
 have hiσ:i<σ.length:=by rw[I.len];exact(List.getElem?_eq_some_iff.mp hi).1
 have cne:=I.cne
 have tracked: ∀{a:Addr}{h':Heap},(∃o,s.heap.get? a=some o∧H a=none)→Heap.SameBut a s.heap h'→HOk X.prog X.w H h':=fun {a h'} ha hs b ob e=>by
  obtain⟨_,_,hfree⟩:=ha
  refine(I.hok b ob e).stay (fun c w' hc q=>(hs.2 c ?_).trans q) (fun _ q=>q) fun _ _ q=>q
  rintro rfl
  rcases hc with rfl |hc
  ·rw[hfree] at e;cases e
  ·rw[hfree] at hc;cases hc
 rcases hx with hk |hk
 ·refine wpAny_storeName_local hk hn (fun h' hn' hs=> ?_) hcls
  obtain⟨oL,_,_,hoL,_⟩:=id hn
  refine h _ ⟨I.ok,I.os,I.bare,⟨fun b o e n hb hx=> ?_,fun b o e n hb hx=> ?_,I.base.free,fun b o e hx=> ?_,I.base.tups,I.base.frzs,I.base.tbls⟩,⟨_,hn',fun j y v' e1 e2 e3=> ?_⟩,fun y c e=> ?_,I.free,I.freeC,fun p hp=> ?_,tracked ⟨oL,hoL,I.free⟩ hs,by simpa using I.len⟩ ⟨_,hs,.inl rfl⟩
  ·exact(hs.2 b (Nat.ne_of_lt (Nat.lt_of_lt_of_le (Heap.lt_size e) I.ok.above))).trans (I.base.keep b o e n hb hx)
  ·obtain⟨sl,e1⟩:=I.base.slot b o e n hb hx
   exact⟨sl,(hs.2 b (Nat.ne_of_lt (Nat.lt_of_lt_of_le (Heap.lt_size e) I.ok.above))).trans e1⟩
  ·obtain⟨o',e1⟩:=I.base.there b o e hx
   exact⟨o',(hs.2 b (Nat.ne_of_lt (Nat.lt_of_lt_of_le (Heap.lt_size e) I.ok.above))).trans e1⟩
  ·by_cases hj:j=i
   ·subst hj
    rw[hi] at e1;cases e1
    rw[List.getElem?_set_self hiσ] at e2
    cases e2
    exact⟨u,r,.inl ⟨hk,by simp⟩⟩
   ·rw[List.getElem?_set_ne (Ne.symm hj)] at e2
    obtain⟨u',r',q⟩:=hl j y v' e1 e2 e3
    refine⟨u',r',?_⟩
    rcases q with⟨k,e⟩ |⟨k,c,e,z⟩
    ·refine .inl ⟨k,?_⟩
     have:y≠x:=fun e=>hj (Eu hN e1 (e▸hi))
     simp[this,e]
    ·exact .inr ⟨k,c,e,z.sameBut hs (cne y c e)⟩
  ·obtain⟨w',z⟩:=I.cell y c e
   exact⟨w',z.sameBut hs (cne y c e)⟩
  ·obtain⟨e,n,ne,nf,d⟩:=I.pin p hp
   exact⟨(hs.2 p.1 ne).trans e,n,ne,nf,d⟩
 ·have hfn:X.fn x=true:=by
   rcases hf with z |z
   ·exact z
   ·rw[z] at hk;cases hk
  obtain⟨c,hc⟩:=I.ok.has x (.inl hk)
  obtain⟨w',z⟩:=I.cell x c hc
  refine wpAny_storeName_cell I.ok.kind hk hc z (fun h' hc' hs=> ?_)
  obtain⟨oc,hoc,hocd⟩:=id z
  refine h {s with heap:=h'} ⟨I.ok,I.os,I.bare,⟨fun b o e n hb hx=> ?_,fun b o e n hb hx=> ?_,I.base.free,fun b o e hx=> ?_,I.base.tups,I.base.frzs,I.base.tbls⟩,⟨m,hn.sameBut hs (Ne.symm (cne x c hc)),fun j y v' e1 e2 e3=> ?_⟩,fun y c' e=> ?_,I.free,I.freeC,fun p hp=> ?_,tracked ⟨oc,hoc,I.freeC x c hc⟩ hs,by simpa using I.len⟩ ⟨c,hs,.inr hc⟩
  ·exact(hs.2 b (Nat.ne_of_lt (Nat.lt_of_lt_of_le (Heap.lt_size e) (I.ok.cab x c hfn hc)))).trans (I.base.keep b o e n hb hx)
  ·obtain⟨sl,e1⟩:=I.base.slot b o e n hb hx
   exact⟨sl,(hs.2 b (Nat.ne_of_lt (Nat.lt_of_lt_of_le (Heap.lt_size e) (I.ok.cab x c hfn hc)))).trans e1⟩
  ·obtain⟨o',e1⟩:=I.base.there b o e hx
   exact⟨o',(hs.2 b (Nat.ne_of_lt (Nat.lt_of_lt_of_le (Heap.lt_size e) (I.ok.cab x c hfn hc)))).trans e1⟩
  ·by_cases hj:j=i
   ·subst hj
    rw[hi] at e1;cases e1
    rw[List.getElem?_set_self hiσ] at e2
    cases e2
    exact⟨u,r,.inr ⟨.inl hk,c,hc,hc'⟩⟩
   ·rw[List.getElem?_set_ne (Ne.symm hj)] at e2
    obtain⟨u',r',q⟩:=hl j y v' e1 e2 e3
    refine⟨u',r',?_⟩
    rcases q with q |⟨k,c',e,z'⟩
    ·exact .inl q
    ·refine .inr ⟨k,c',e,z'.sameBut hs ?_⟩
     rintro rfl
     exact hj (Eu hN e1 (I.ok.inj _ _ _ e hc▸hi))
  ·by_cases hcc:c'=c
   ·subst hcc;exact⟨_,hc'⟩
   ·obtain⟨w2,z2⟩:=I.cell y c' e
    exact⟨w2,z2.sameBut hs hcc⟩
  ·obtain⟨e,n,ne,nf,d⟩:=I.pin p hp
   refine⟨(hs.2 p.1 ?_).trans e,n,ne,nf,d⟩
   intro q
   rw[q,hoc] at e
   have q':oc=p.2:=Option.some.inj e
   exact d w' (by rw[←q'];exact hocd)
theorem xN {M:Model}{A:Around}{E:Value→Shared→Prop}{i:Nat}{x:Str}{v:V}{u:Value}{Q:Unit→Shared→Prop}(I:Inv X pins σ H s) (hN:X.N.Nodup) (hi:X.N[i]? =some x) (hx:Loc X.env.scope x) (r:aZ v u)
  (h: ∀s',Inv X pins (σ.set i (some v)) H s'→Q () s') (hf:X.fn x=true∨X.env.scope.names.lookup x=some .local :=by first |exact .inl rfl |exact .inr rfl |assumption):wpAny M A (storeName X.env x u) Q E s:=
 Bp I hN hi hx r (fun s' I' _=>h s' I') hf
theorem Inv.call' {s':Shared}{ch:List Addr}(I:Inv X pins σ H s) (ho:s'.os=s.os) (u:Un (frs X.stack) ch H H' s.heap s'.heap) (hok:HOk X.prog X.w H' s'.heap) (hg:AllBare s'.gens)
  (hch: ∀b∈ch,(b∈X.ex∨X.s₀.heap.objs.size≤b)∧b≠X.env.locals∧(∀x c,X.env.cells.lookup x=some c→c≠b)∧ ∀p∈X.pn++pins,p.1≠b):Inv X pins σ H' s':=by
 obtain⟨h',g',d',t',o'⟩:=s'
 have e:o'=s.os:=ho
 subst e
 exact I.call (g':=g') (t':=t') (d':=d') u hok hg hch
end
abbrev XK:=Value→Option Addr→Hp→Prop
abbrev St:=List (Option V)
abbrev VK:=V→Hp→Prop
abbrev TE:=St→Hp→VK→Prop
abbrev TT:=St→Hp→(Bool→Hp→Prop)→Prop
abbrev TA:=St→Hp→(List V→Hp→Prop)→Prop
structure sZ where
 nx:St→Hp→Prop
 rt:VK
 bk:St→Hp→Prop:=fun _ _=>False
 ct:St→Hp→Prop:=fun _ _=>False
abbrev TS:=sZ→St→Hp→Prop
def EP (X:Cx) (pins:List (Addr×Obj)) (σ:St) (Q:VK) (u:Value) (s':Shared):Prop:= ∃v H',Inv X pins σ H' s'∧aZ v u∧Q v H'
def TP (X:Cx) (pins:List (Addr×Obj)) (σ:St) (Q:Bool→Hp→Prop) (b:Bool) (s':Shared):Prop:= ∃H',Inv X pins σ H' s'∧Q b H'
def AP (X:Cx) (pins:List (Addr×Obj)) (σ:St) (Q:List V→Hp→Prop) (us:List Value) (s':Shared):Prop:= ∃vs H',Inv X pins σ H' s'∧a8 vs us∧Q vs H'
def SP (X:Cx) (pins:List (Addr×Obj)) (D:sZ) (f:Flow) (s':Shared):Prop:=
 match f with
 | .next=> ∃σ' H',Inv X pins σ' H' s'∧D.nx σ' H'
 | .brk=> ∃σ' H',Inv X pins σ' H' s'∧D.bk σ' H'
 | .cont=> ∃σ' H',Inv X pins σ' H' s'∧D.ct σ' H'
 | .ret u=> ∃v σ' H',Inv X pins σ' H' s'∧aZ v u∧D.rt v H'
def PE (X:Cx) (e:Expr) (t:TE):Prop:=
 ∀(pins:List (Addr×Obj)) (s:Shared) (σ:St) (H:Hp) (Q:VK),Inv X pins σ H s→t σ H Q→wpAny (model X.prog X.w) X.A (eval e X.env) (EP X pins σ Q) X.xe s
def PT (X:Cx) (e:Expr) (t:TT):Prop:=
 ∀(pins:List (Addr×Obj)) (s:Shared) (σ:St) (H:Hp) (Q:Bool→Hp→Prop),Inv X pins σ H s→t σ H Q→wpAny (model X.prog X.w) X.A (isTrue e X.env (eval e X.env)) (TP X pins σ Q) X.xe s
def PW (X:Cx) (e:Expr) (t:TT):Prop:=
 ∀(whole:Sem Value) (pins:List (Addr×Obj)) (s:Shared) (σ:St) (H:Hp) (Q:Bool→Hp→Prop),Inv X pins σ H s→t σ H Q→wpAny (model X.prog X.w) X.A (isTrue e X.env whole) (TP X pins σ Q) X.xe s
theorem PW.pt {X:Cx}{e:Expr}{t:TT}(h:PW X e t):PT X e t:=h _
def PA (X:Cx) (es:List Expr) (t:TA):Prop:=
 ∀(pos:Pos) (pins:List (Addr×Obj)) (s:Shared) (σ:St) (H:Hp) (Q:List V→Hp→Prop),Inv X pins σ H s→t σ H Q→wpAny (model X.prog X.w) X.A (spliced (backTo pos (starEach es X.env))) (AP X pins σ Q) X.xe s
def PS (X:Cx) (st:Stmt) (t:TS):Prop:=
 ∀(pins:List (Addr×Obj)) (s:Shared) (σ:St) (H:Hp) (D:sZ),Inv X pins σ H s→t D σ H→wpAny (model X.prog X.w) X.A (exec st X.env) (SP X pins D) X.xe s
def PSs (X:Cx) (st:List Stmt) (t:TS):Prop:=
 ∀(pins:List (Addr×Obj)) (s:Shared) (σ:St) (H:Hp) (D:sZ),Inv X pins σ H s→t D σ H→wpAny (model X.prog X.w) X.A (execs st X.env) (SP X pins D) X.xe s
theorem thn {α:Type}{t:Sem α}{Q Q':α→Shared→Prop}{M:Model}{A:Around}{E:Value→Shared→Prop}{s:Shared}(h:wpAny M A t Q E s) (hQ: ∀a s,Q a s→Q' a s):wpAny M A t Q' E s:=wpAny_mono h hQ fun _ _ x=>x
end L2
namespace L2
open PySem PySem.Spec PyProof.Rows
section
variable {X:Cx}
def ML (i:Nat):TE:=fun σ H Q=> ∃v,σ[i]? =some (some v)∧Q v H
def tC (v:V):TE:=fun _ H Q=>Q v H
theorem Nk {i:Nat}{x:Str}{pos:Pos}(hN:X.N[i]? =some x) (hv:Vis X.env.scope x) (hd:(x==("__debug__":Str))=false:=by decide) (hcd:(x==("__classdict__":Str))=false:=by decide):PE X (.Name x pos) (ML i):=by
 intro pins s σ H Q I h
 obtain⟨v,e,h⟩:=h
 obtain⟨m,hn,hl⟩:=I.loc
 obtain⟨u,r,l⟩:=hl i x v hN e hv
 have fin:EP X pins σ Q u s:=⟨v,H,I,r,h⟩
 rcases l with⟨hk,hm⟩ |⟨hk,c,hc,hcell⟩
 ·exact wpAny_Name (wpAny_loadName_local I.ok.kind hk hn hm fin) hd
 ·rcases hk with hk |hk
  ·exact wpAny_Name (wpAny_loadName_cell I.ok.kind hk hc hcell fin) hd
  ·exact wpAny_Name (wpAny_loadName_free I.ok.kind hk hc hcell fin hcd) hd
theorem ai {i j pos}:PE X (.Constant (.int i) j pos) (tC (.int i)):=fun _ _ _ H _ I h=>wpAny_Constant_int ⟨.int i,H,I.tok _,⟨_,rfl⟩,h⟩
theorem mx {b j pos}:PE X (.Constant (.bool b) j pos) (tC (.bl b)):=fun _ _ _ H _ I h=>Constant_bool ⟨.bl b,H,I,rfl,h⟩
theorem Ft {j pos}:PE X (.Constant .none j pos) (tC .non):=fun _ _ _ H _ I h=>Constant_none ⟨.non,H,I,rfl,h⟩
theorem aL {x j pos}:PE X (.Constant (.str x) j pos) (tC (.str x)):=fun _ _ _ H _ I h=>Calls.Constant_str ⟨.str x,H,I.tok _,⟨_,rfl⟩,h⟩
def Gl (X:Cx) (x:Str):Prop:=X.env.kindOf x=some .globalImplicit
theorem qy {E:Value→Shared→Prop}{pins:List (Addr×Obj)}{s:Shared}{σ:St}{H:Hp}{x:Str}{u:Value}{pos:Pos}{Q:Value→Shared→Prop}(I:Inv X pins σ H s) (hg:Gl X x) (hm:X.mg x=some u) (h:Q u s)
  (hd:(x==("__debug__":Str))=false:=by decide):wpAny (model X.prog X.w) X.A (eval (.Name x pos) X.env) Q E s:=
 Calls.Name_function_global I.ok.kind hg (Calls.loadGlobal_global (by rw[I.ok.glob];exact I.mod.glob.keeps I.bk) hm h) hd
theorem nJ {E:Value→Shared→Prop}{pins:List (Addr×Obj)}{s:Shared}{σ:St}{H:Hp}{x:Str}{u:Value}{pos:Pos}{Q:Value→Shared→Prop}(I:Inv X pins σ H s) (hg:Gl X x) (hm:X.mg x=none) (hv:bootBuiltins x=some u) (h:Q u s)
  (hn:x≠"__name__":=by decide) (hd:(x==("__debug__":Str))=false:=by decide):wpAny (model X.prog X.w) X.A (eval (.Name x pos) X.env) Q E s:=by
 obtain⟨mb,h1,h2⟩:=I.mod.blt
 exact Calls.Name_function_global I.ok.kind hg (Calls.loadGlobal_builtin (by rw[I.ok.glob];exact I.mod.glob.keeps I.bk) hm (by rw[I.ok.blt];exact h1.keeps I.bk) ((h2 x hn).trans hv) h) hd
theorem Gw {x:Str}{v:V}{u:Value}{pos:Pos}(hg:Gl X x) (hm:X.mg x=some u) (r:aZ v u) (hd:(x==("__debug__":Str))=false:=by decide):PE X (.Name x pos) (tC v):=
 fun _ _ _ H _ I h=>qy I hg hm ⟨v,H,I,r,h⟩ hd
theorem LJ {x:Str}{v:V}{u:Value}{pos:Pos}(hg:Gl X x) (hm:X.mg x=none) (hv:bootBuiltins x=some u) (r:aZ v u) (hn:x≠"__name__":=by decide) (hd:(x==("__debug__":Str))=false:=by decide):PE X (.Name x pos) (tC v):=
 fun _ _ _ H _ I h=>nJ I hg hm hv ⟨v,H,I,r,h⟩ hn hd
variable {a b:Expr}{ta tb:TE}{pos:Pos}
def PC (X:Cx) (op:CmpOp) (a b:Expr) (t:TE):Prop:=
 ∀(pins:List (Addr×Obj)) (s:Shared) (σ:St) (H:Hp) (Q:VK),Inv X pins σ H s→t σ H Q→
  wpAny (model X.prog X.w) X.A (eval a X.env) (fun v s₁=>wpAny (model X.prog X.w) X.A (eval b X.env) (fun u s₂=>wpAny (model X.prog X.w) X.A (compareOp op v u) (EP X pins σ Q) X.xe s₂) X.xe s₁) X.xe s
def tB (t:TE):TT:=fun σ H Q=>t σ H fun x H1=> ∃c,x=.bl c∧Q c H1
theorem x8 {op:CmpOp}{t:TE}(h:PC X op a b t) (h1:behindInMarks op b=false:=by first |exact nobehind _ (by decide) (by decide) |rfl):PT X (.Compare a [op] [b] pos) (tB t):=by
 intro pins s σ H Q I hw
 refine wpAny_isTrue_Compare1 (thn (h pins s σ H _ I hw) fun v s1 h1=>thn h1 fun u s2 h2=>thn h2 fun c s3 ⟨x,H1,I1,r1,q1⟩=> ?_) h1
 obtain⟨d,rfl,q⟩:=q1
 cases r1
 exact wpAny_truthy_bool ⟨H1,I1,q⟩
variable {tA tB':TT}{tN:List Expr}
def Py (t u:TT):TT:=fun σ H Q=>t σ H fun c H1=>if c=true then u σ H1 Q else Q false H1
def tOr (t u:TT):TT:=fun σ H Q=>t σ H fun c H1=>if c=true then Q true H1 else u σ H1 Q
def Ps (t:TT):TT:=fun σ H Q=>t σ H fun c H1=>Q (!c) H1
theorem Gu (ha:PT X a tA):PW X (.BoolOp .And [a] pos) tA:=by
 intro wh pins s σ H Q I h
 refine isTrue_and (thn (ha pins s σ H Q I h) fun c s1 e=> ?_)
 cases c with
 |true=>exact isTrue_and_nil e
 |false=>exact e
theorem gI (ha:PT X a tA):PW X (.BoolOp .Or [a] pos) tA:=by
 intro wh pins s σ H Q I h
 refine isTrue_or (thn (ha pins s σ H Q I h) fun c s1 e=> ?_)
 cases c with
 |false=>exact isTrue_or_nil e
 |true=>exact e
theorem Jw (ha:PT X a tA) (hb:PW X (.BoolOp .And (b::tN) pos) tB'):PW X (.BoolOp .And (a::b::tN) pos) (Py tA tB'):=by
 intro wh pins s σ H Q I h
 refine isTrue_and (thn (ha pins s σ H _ I h) fun c s1 ⟨H1,I1,q1⟩=> ?_)
 cases c with
 |true=>exact hb wh pins s1 σ H1 Q I1 q1
 |false=>exact⟨H1,I1,q1⟩
theorem kR (ha:PT X a tA) (hb:PW X (.BoolOp .Or (b::tN) pos) tB'):PW X (.BoolOp .Or (a::b::tN) pos) (tOr tA tB'):=by
 intro wh pins s σ H Q I h
 refine isTrue_or (thn (ha pins s σ H _ I h) fun c s1 ⟨H1,I1,q1⟩=> ?_)
 cases c with
 |true=>exact⟨H1,I1,q1⟩
 |false=>exact hb wh pins s1 σ H1 Q I1 q1
theorem b0 (ha:PT X a tA):PT X (.UnaryOp .Not a pos) (Ps tA):=by
 intro pins s σ H Q I h
 exact isTrue_not (ha pins s σ H (fun c H1=>Q (!c) H1) I h)
def OG (ta tb:TE):TE:=fun σ H Q=>ta σ H fun x H1=> ∃c,x=.bl c∧if c=true then tb σ H1 Q else Q (.bl false) H1
def Oy (ta:TE):TE:=fun σ H Q=>ta σ H fun x H1=> ∃c,x=.bl c∧Q (.bl (!c)) H1
theorem lE {op} {t:TE}(h:PE X a t):PE X (.BoolOp op [a] pos) t:=fun pins s σ H Q I hw=>BoolOp_one (h pins s σ H Q I hw)
theorem jb (ha:PE X a ta) (hb:PE X (.BoolOp .And (b::tN) pos) tb):PE X (.BoolOp .And (a::b::tN) pos) (OG ta tb):=by
 intro pins s σ H Q I h
 refine BoolOp_and (thn (ha pins s σ H _ I h) fun v s1 ⟨x,H1,I1,r1,q1⟩=> ?_)
 obtain⟨c,rfl,q1⟩:=q1
 cases r1
 refine wpAny_truthy_bool ?_
 cases c with
 |true=>exact hb pins s1 σ H1 Q I1 q1
 |false=>exact⟨.bl false,H1,I1,rfl,q1⟩
theorem Nl (ha:PE X a ta):PE X (.UnaryOp .Not a pos) (Oy ta):=by
 intro pins s σ H Q I h
 refine UnaryOp_ (thn (ha pins s σ H _ I h) fun v s1 ⟨x,H1,I1,r1,q1⟩=> ?_)
 obtain⟨c,rfl,q1⟩:=q1
 cases r1
 exact not_of (wpAny_truthy_bool ⟨.bl (!c),H1,I1,rfl,q1⟩)
end
end L2
namespace L2
open PySem PySem.Spec PyProof.Rows
def SqL (K:PySem.W.Frag) (H:Hp) (a:Addr) (xs:List V):Prop:=
 Rd H a (.lst xs)∨
  ∃(o:Obj) (its:Array Value) (n:Nat),K.lookup a=some o∧o.cls=.type "list"∧o.dict=none∧o.data=.seq its n∧its.size≤sizeLine∧a8 xs its.toList
def SqT (K:PySem.W.Frag) (H:Hp) (a:Addr) (xs:List V):Prop:=
 Rd H a (.tup xs)∨
  ∃(o:Obj) (its:Array Value) (n:Nat),K.lookup a=some o∧o.cls=.type "tuple"∧o.data=.seq its n∧its.size≤sizeLine∧a8 xs its.toList
def PX:Value→Option V
 | .none=>some .non
 | .bool b=>some (.bl b)
 | .int i _=>some (.int i)
 | .str x _=>some (.str x)
 | .bytes b _=>some (.byt b)
 | .float b _=>some (.flt b)
 | .ref a=>some (.ref a)
 | .type n=>some (.ty n)
 |_=>none
theorem aZ.abs {x:V}{u:Value}(r:aZ x u):PX u=some x:=by
 cases x with
 |non=>cases r;rfl
 |bl _=>cases r;rfl
 |int _=>obtain⟨t,rfl⟩:=r;rfl
 |str _=>obtain⟨t,rfl⟩:=r;rfl
 |byt _=>obtain⟨t,rfl⟩:=r;rfl
 |flt _=>obtain⟨t,rfl⟩:=r;rfl
 |ref _=>cases r;rfl
 |ty _=>cases r;rfl
theorem aZ.inj {x y:V}{u:Value}(r:aZ x u) (q:aZ y u):x=y:=Option.some.inj (r.abs.symm.trans q.abs)
theorem a8.inj: ∀{xs ys:List V}{us:List Value},a8 xs us→a8 ys us→xs=ys
 |_,_,_,.nil,.nil=>rfl
 |_,_,_,.cons r t,.cons r' t'=>by rw[r.inj r',a8.inj t t']
section
variable {X:Cx}{pins:List (Addr×Obj)}{σ:St}{H:Hp}{s:Shared}{a:Addr}{xs ys:List V}
theorem SqL.of {K:PySem.W.Frag}(h:H a=some (.lst xs)):SqL K H a xs:=.inl (.inl h)
theorem SqT.of {K:PySem.W.Frag}(h:H a=some (.tup xs)):SqT K H a xs:=.inl (.inl h)
theorem Inv.list (I:Inv X pins σ H s) (h:SqL X.K H a xs): ∃its:List Value,a8 xs its∧PlainL s.heap a its.toArray∧xs.length≤sizeLine:=by
 rcases h with h |⟨o,its,n,hk,hc,hd,hs,hz,r⟩
 ·obtain⟨z,its,n,r,e⟩:=h.ok I.hok
  exact⟨its,r,⟨_,n,e,rfl,rfl,rfl⟩,z⟩
 ·refine⟨its.toList,r,⟨o,n,I.kIn a o hk,hc,hd,by simpa using hs⟩,?_⟩
  have e:=r.length
  simp only[Array.length_toList] at e
  omega
theorem Inv.tuple (I:Inv X pins σ H s) (h:SqT X.K H a xs): ∃its:List Value,a8 xs its∧IsTup s.heap a its.toArray∧xs.length≤sizeLine:=by
 rcases h with h |⟨o,its,n,hk,hc,hs,hz,r⟩
 ·obtain⟨z,its,r,p⟩:=h.ok I.hok
  exact⟨its,r,p,z⟩
 ·refine⟨its.toList,r,⟨o,I.kIn a o hk,hc,n,by simpa using hs⟩,?_⟩
  have e:=r.length
  simp only[Array.length_toList] at e
  omega
theorem Inv.list_inj (I:Inv X pins σ H s) (h:SqL X.K H a xs) (h':SqL X.K H a ys):xs=ys:=by
 obtain⟨its,r,⟨o,n,e,_,_,d⟩,_⟩:=I.list h
 obtain⟨its',r',⟨o',n',e',_,_,d'⟩,_⟩:=I.list h'
 rw[e] at e';cases e'
 rw[d] at d'
 injection d' with d1 _
 have:its=its':=by simpa using congrArg Array.toList d1
 subst this
 exact r.inj r'
theorem Inv.tuple_inj (I:Inv X pins σ H s) (h:SqT X.K H a xs) (h':SqT X.K H a ys):xs=ys:=by
 obtain⟨its,r,⟨o,e,_,n,d⟩,_⟩:=I.tuple h
 obtain⟨its',r',⟨o',e',_,n',d'⟩,_⟩:=I.tuple h'
 rw[e] at e';cases e'
 rw[d] at d'
 injection d' with d1 _
 have:its=its':=by simpa using congrArg Array.toList d1
 subst this
 exact r.inj r'
end
abbrev Cx.wish (X:Cx) (E:Value→Shared→Prop):Cx:={X with xe:=E}
abbrev Cx.nox (X:Cx):Cx:=X.wish fun _ _=>False
theorem Cx.Ok.wish {X:Cx}(ok:X.Ok) (E:Value→Shared→Prop):(X.wish E).Ok:=
 ⟨ok.mod,ok.kind,ok.glob,ok.blt,ok.above,ok.inj,ok.has,ok.cab,ok.hd,ok.frames,ok.stk,ok.exf,ok.bs,ok.bsz,ok.noex,ok.exfs,ok.funs,ok.frf⟩
theorem Cx.Ok.unwish {X:Cx}{E:Value→Shared→Prop}(ok:(X.wish E).Ok):X.Ok:=
 ⟨ok.mod,ok.kind,ok.glob,ok.blt,ok.above,ok.inj,ok.has,ok.cab,ok.hd,ok.frames,ok.stk,ok.exf,ok.bs,ok.bsz,ok.noex,ok.exfs,ok.funs,ok.frf⟩
section
variable {X:Cx}{pins:List (Addr×Obj)}{σ:St}{H:Hp}{s:Shared}{E:Value→Shared→Prop}
theorem Inv.wish (I:Inv X pins σ H s) (E:Value→Shared→Prop):Inv (X.wish E) pins σ H s:=⟨I.ok.wish E,I.os,I.bare,I.base,I.loc,I.cell,I.free,I.freeC,I.pin,I.hok,I.len⟩
theorem Inv.unwish (I:Inv (X.wish E) pins σ H s):Inv X pins σ H s:=⟨I.ok.unwish,I.os,I.bare,I.base,I.loc,I.cell,I.free,I.freeC,I.pin,I.hok,I.len⟩
theorem SP.unwish {D:sZ}{f:Flow}{s':Shared}(h:SP (X.wish E) pins D f s'):SP X pins D f s':=by
 cases f with
 |next=>obtain⟨σ',H',I,q⟩:=h;exact⟨σ',H',I.unwish,q⟩
 |brk=>obtain⟨σ',H',I,q⟩:=h;exact⟨σ',H',I.unwish,q⟩
 |cont=>obtain⟨σ',H',I,q⟩:=h;exact⟨σ',H',I.unwish,q⟩
 |ret u=>obtain⟨v,σ',H',I,r,q⟩:=h;exact⟨v,σ',H',I.unwish,r,q⟩
theorem PSs.nox {st:List Stmt}{t:TS}(h:PSs X.nox st t):PSs X st t:=fun pins s σ H D I hw=>
 wpAny_mono (h pins s σ H D (I.wish _) hw) (fun _ _ q=>q.unwish) fun _ _ z=>False.elim z
end
section
variable {X:Cx}{st:Stmt}{tN:List Stmt}{t u:TS}{e:Expr}{te:TE}{pos:Pos}
def Mp:TS:=fun D σ H=>D.nx σ H
def Fh (t u:TS):TS:=fun D σ H=>t {D with nx:=u D} σ H
theorem aH:PSs X [] Mp:=fun _ _ σ H _ I h=>wpAny_execs_nil ⟨σ,H,I,h⟩
theorem ag (h1:PS X st t) (h2:PSs X tN u):PSs X (st::tN) (Fh t u):=by
 intro pins s σ H D I h
 refine wpAny_execs_cons (thn (h1 pins s σ H {D with nx:=u D} I h) fun f s1 q=> ?_)
 cases f with
 |next=>
  obtain⟨σ',H',I',q⟩:=q
  exact h2 pins s1 σ' H' D I' q
 |ret v=>exact q
 |brk=>exact q
 |cont=>exact q
theorem ah (h1:PS X st t):PSs X [st] t:=by
 intro pins s σ H D I h
 refine wpAny_execs_cons (thn (h1 pins s σ H D I h) fun f s1 q=> ?_)
 cases f with
 |next=>exact wpAny_execs_nil q
 |ret v=>exact q
 |brk=>exact q
 |cont=>exact q
theorem Inv.quiet {pins:List (Addr×Obj)}{σ:St}{H:Hp}{s:Shared}(I:Inv X pins σ H s):interactive X.env=false:=by simp[interactive,I.ok.kind]
def OC (te:TE):TS:=fun D σ H=>te σ H fun _ H1=>D.nx σ H1
theorem aX (he:PE X e te) (hs:swapsWith e none pos.line X.env=pure false:=by rfl):PS X (.Expr e pos) (OC te):=by
 intro pins s σ H D I h
 exact wpAny_Expr_any (thn (he pins s σ H _ I h) fun v s1 ⟨x,H1,I1,r1,q1⟩=>⟨σ,H1,I1,q1⟩) I.quiet hs
def Ow (te:TE):TS:=fun D σ H=>te σ H D.rt
theorem aI (he:PE X e te):PS X (.Return (some e) pos) (Ow te):=by
 intro pins s σ H D I h
 exact wpAny_Return_some (thn (he pins s σ H _ I h) fun v s1 ⟨x,H1,I1,r1,q1⟩=>⟨x,σ,H1,I1,r1,q1⟩)
def MR (c:TT) (t u:TS):TS:=fun D σ H=>c σ H fun b H1=>if b=true then t D σ H1 else u D σ H1
theorem a0 {c:Expr}{a b:List Stmt}{tc:TT}(hc:PT X c tc) (ha:PSs X a t) (hb:PSs X b u):PS X (.If c a b pos) (MR tc t u):=by
 intro pins s σ H D I h
 refine wpAny_If (thn (hc pins s σ H _ I h) fun d s1 ⟨H1,I1,q1⟩=> ?_)
 cases d with
 |true=>exact ha pins s1 σ H1 D I1 q1
 |false=>exact hb pins s1 σ H1 D I1 q1
def MO:TS:=fun _ _ _=>False
theorem bQ:PS X st MO:=fun _ _ _ _ _ _ h=>h.elim
end
abbrev TG:=V→St→Hp→(St→Hp→Prop)→Prop
abbrev TGs:=List V→St→Hp→(St→Hp→Prop)→Prop
def PG (X:Cx) (target:Expr) (t:TG):Prop:=
 ∀(pins:List (Addr×Obj)) (s:Shared) (σ:St) (H:Hp) (v:V) (u:Value) (Q:St→Hp→Prop),Inv X pins σ H s→aZ v u→t v σ H Q→
  wpAny (model X.prog X.w) X.A (assign target X.env u) (fun _ s'=> ∃σ' H',Inv X pins σ' H' s'∧Q σ' H') X.xe s
def PGs (X:Cx) (ts:List Expr) (t:TGs):Prop:=
 ∀(pins:List (Addr×Obj)) (s:Shared) (σ:St) (H:Hp) (vs:List V) (us:List Value) (Q:St→Hp→Prop),Inv X pins σ H s→a8 vs us→t vs σ H Q→
  wpAny (model X.prog X.w) X.A (assignInOrder ((assignEach ts X.env).map (·.2)) us) (fun _ s'=> ∃σ' H',Inv X pins σ' H' s'∧Q σ' H') X.xe s
abbrev KM:=V→V→V→Hp→(Hp→Prop)→Prop
def Mh (X:Cx) (t:KM):Prop:=
 ∀(pins:List (Addr×Obj)) (s:Shared) (σ:St) (H:Hp) (o i v:V) (ov iv u:Value) (Q:Hp→Prop),Inv X pins σ H s→aZ o ov→aZ i iv→aZ v u→t o i v H Q→
  wpAny (model X.prog X.w) X.A (setItem ov iv u) (fun _ s'=> ∃H',Inv X pins σ H' s'∧Q H') X.xe s
section
variable {X:Cx}{pos:Pos}
def t6 (i:Nat):TG:=fun v σ H Q=>Q (σ.set i (some v)) H
theorem aF {i:Nat}{x:Str}(hN:X.N.Nodup) (hi:X.N[i]? =some x) (hx:Loc X.env.scope x) (hf:X.fn x=true∨X.env.scope.names.lookup x=some .local :=by first |exact .inl rfl |exact .inr rfl |assumption):PG X (.Name x pos) (t6 i):=by
 intro pins s σ H v u Q I r h
 exact wpAny_assign_Name (xN I hN hi hx r (fun s' I'=>⟨_,H,I',h⟩) hf)
def Pf:TGs:=fun vs σ H Q=>vs=[]∧Q σ H
def Kd (t:TG) (u:TGs):TGs:=fun vs σ H Q=> ∃v r,vs=v::r∧t v σ H fun σ' H'=>u r σ' H' Q
theorem eW:PGs X [] Pf:=by
 intro pins s σ H vs us Q I r h
 obtain⟨e,h⟩:=h
 subst e
 cases r
 exact assignInOrder_nil ⟨σ,H,I,h⟩
theorem bo {e:Expr}{es:List Expr}{t:TG}{u:TGs}(h1:PG X e t) (h2:PGs X es u)
  (hs:(assignEach (e::es) X.env).map (·.2)=assign e X.env::(assignEach es X.env).map (·.2):=by rfl):PGs X (e::es) (Kd t u):=by
 intro pins s σ H vs us Q I r h
 obtain⟨v,vr,e1,h⟩:=h
 subst e1
 cases r with
 |cons r rr=>
  rw[hs]
  refine assignInOrder_cons (thn (h1 pins s σ H _ _ _ I r h) fun _ s1 ⟨σ1,H1,I1,q1⟩=> ?_)
  exact h2 pins s1 σ1 H1 _ _ Q I1 rr q1
def NQ (K:PySem.W.Frag) (n:Nat) (t:TGs):TG:=fun v σ H Q=> ∃a xs,v=.ref a∧SqT K H a xs∧xs.length=n∧t xs σ H Q
theorem Nj {es:List Expr}{k:Nat}{t:TGs}{n:Nat}(hc:X.calm=true) (h:PGs X es t)
  (hn:(assignEach es X.env).length=n:=by rfl) (hst:(assignEach es X.env).findIdx? (·.1)=none:=by rfl):PG X (.Tuple es k pos) (NQ X.K n t):=by
 intro pins s σ H v u Q I r hw
 obtain⟨a,xs,e1,hq,hl,hw⟩:=hw
 subst e1
 cases r
 obtain⟨its,rv,ht,hz⟩:=I.tuple hq
 refine assign_Tuple_tuple (I.ok.hd hc) ht (by simp[hn,←hl,rv.length]) hst fun h' hx=> ?_
 have I1:Inv X pins σ H {s with heap:=h'}:=I.kept (t':=s.toks) fun b o e=>hx b o (Nat.ne_of_lt (Heap.lt_size e)) e
 exact h pins _ σ H xs _ Q I1 (by simpa using rv) hw
def PR (to ti:TE) (t:KM):TG:=fun v σ H Q=>to σ H fun o H1=>ti σ H1 fun i H2=>t o i v H2 fun H3=>Q σ H3
theorem nH {o i:Expr}{to ti:TE}{t:KM}(ho:PE X o to) (hi:PE X i ti) (hs:Mh X t)
  (ha: ∀v,assign (.Subscript o i pos) X.env v=(do
   let ov ←holding [v] (eval o X.env)
   let iv ←holding [v,ov] (eval i X.env)
   standAt pos
   holding [v,ov,iv] (setItem ov iv v)
   release [v,ov,iv] []):=by intro _;rfl):PG X (.Subscript o i pos) (PR to ti t):=by
 intro pins s σ H v u Q I r h
 rw[ha]
 refine wpAny_bind (wpAny_holding (thn (ho pins s σ H _ I h) fun ov s1 ⟨x,H1,I1,r1,q1⟩=> ?_))
 refine wpAny_bind (wpAny_holding (thn (hi pins s1 σ H1 _ I1 q1) fun iv s2 ⟨y,H2,I2,r2,q2⟩=> ?_))
 refine wpAny_bind (wpAny_standAt (wpAny_bind (wpAny_holding (thn (hs pins s2 σ H2 x y v ov iv u _ I2 r1 r2 r q2) fun _ s3 ⟨H3,I3,q3⟩=> ?_))))
 exact wpAny_release ⟨σ,H3,I3,q3⟩
def IV (te:TE) (g:TG):TS:=fun D σ H=>te σ H fun x H1=>g x σ H1 D.nx
theorem lD {tg e:Expr}{te:TE}{g:TG}(he:PE X e te) (hg:PG X tg g) (hs:swapsWithSole [tg] e pos.line X.env=pure false:=by rfl) (hw:swappedStores [tg] e X.env=pure none:=by rfl)
  (h1:(assignEach [tg] X.env).map (·.2)=[assign tg X.env]:=by rfl):PS X (.Assign [tg] e pos) (IV te g):=by
 intro pins s σ H D I h
 refine wpAny_Assign_stores (thn (he pins s σ H _ I h) fun v s1 ⟨x,H1,I1,r1,q1⟩=> ?_) hs hw
 rw[h1]
 exact thn (hg pins s1 σ H1 x v _ I1 r1 q1) fun _ s2 q=>q
theorem aO {i:Nat}{x:Str}{e:Expr}{te:TE}{pos':Pos}(hN:X.N.Nodup) (hi:X.N[i]? =some x) (hx:Loc X.env.scope x) (he:PE X e te) (hs:swapsWith e (some (.Name x pos')) pos.line X.env=pure false:=by rfl) (hf:X.fn x=true∨X.env.scope.names.lookup x=some .local :=by first |exact .inl rfl |exact .inr rfl |assumption):
  PS X (.Assign [.Name x pos'] e pos) (IV te (t6 i)):=by
 intro pins s σ H D I h
 refine wpAny_Assign_Name (thn (he pins s σ H _ I h) fun v s1 ⟨y,H1,I1,r1,q1⟩=> ?_) hs
 exact xN I1 hN hi hx r1 (fun s2 I2=>⟨_,H1,I2,q1⟩) hf
end
section
variable {X:Cx}{pos:Pos}
def MK (c:TT) (tb:TS):TS:=fun D σ H=> ∃W:Nat→St→Hp→Prop,(∃m,W m σ H)∧ ∀m σ H,W m σ H→
 c σ H fun b H1=>if b=true then∃N:St→Hp→Prop,(∀σ' H',N σ' H'→ ∃m',m'<m∧W m' σ' H')∧tb {D with nx:=N,ct:=N,bk:=D.nx} σ H1 else D.nx σ H1
theorem x9 {c:Expr}{body:List Stmt}{tc:TT}{tb:TS}(hp:PassesOwn (model X.prog X.w) X.A X.env X.xe) (hc:PT X c tc) (hb:PSs X body tb):PS X (.While c body [] pos) (MK tc tb):=by
 intro pins s σ H D I h
 obtain⟨W,⟨m0,w0⟩,turn⟩:=h
 refine wpAny_While (codeAny_whileLoop (fun n s'=> ∃σ' H',Inv X pins σ' H' s'∧W n σ' H') ?_ m0 ⟨σ,H,I,w0⟩)
 rintro n s1 ⟨σ1,H1,I1,w1⟩
 refine wpAny_passesOwn hp (thn (hc pins s1 σ1 H1 _ I1 (turn n σ1 H1 w1)) fun b s2 ⟨H2,I2,q2⟩=> ?_)
 cases b with
 |true=>
  obtain⟨N,hN,q2⟩:=q2
  rw[if_pos rfl]
  refine wpAny_passesOwn hp (thn (hb pins s2 σ1 H2 _ I2 q2) fun f s3 q3=> ?_)
  cases f with
  |next=>
   obtain⟨σ3,H3,I3,n3⟩:=q3
   obtain⟨m',hm,w3⟩:=hN σ3 H3 n3
   exact⟨m',hm,σ3,H3,I3,w3⟩
  |cont=>
   obtain⟨σ3,H3,I3,n3⟩:=q3
   obtain⟨m',hm,w3⟩:=hN σ3 H3 n3
   exact⟨m',hm,σ3,H3,I3,w3⟩
  |brk=>exact q3
  |ret v=>exact q3
 |false=>
  rw[if_neg Bool.false_ne_true]
  exact wpAny_execs_nil ⟨σ1,H2,I2,q2⟩
end
structure It where
 go:Nat→Hp→Prop
 yld:Nat→Hp→V→Hp→Prop
 stop:Nat→Hp→Prop
def Ad (X:Cx) (pins:List (Addr×Obj)) (H:Hp) (b:Addr):Prop:=
 H b=none∧b≠X.env.locals∧b∉X.fs∧(b∈X.ex∨X.s₀.heap.objs.size≤b)∧(∀x c,X.env.cells.lookup x=some c→c≠b)∧ ∀p∈X.pn++pins,p.1≠b
theorem Inv.fpOk {X:Cx}{pins:List (Addr×Obj)}{σ:St}{H H':Hp}{s:Shared}{b:Addr}(I:Inv X pins σ H s) (hb:s.heap.objs.size≤b) (hn:H' b=none):Ad X pins H' b:=by
 refine⟨hn,Nat.ne_of_gt (Nat.lt_of_lt_of_le I.lt hb),I.nofs hb,.inr (Nat.le_trans I.sz hb),fun x c e z=> ?_,fun p hp z=> ?_⟩
 ·obtain⟨v,q⟩:=I.cell x c e
  exact absurd (Nat.lt_of_lt_of_le q.lt (by rw[z];exact hb)) (Nat.lt_irrefl _)
 ·exact absurd (Nat.lt_of_lt_of_le (Heap.lt_size (I.pin p hp).1) (by rw[z];exact hb)) (Nat.lt_irrefl _)
structure Bl (P:Program) (w:World) (K:PySem.W.Frag) (tg:Expr) (J:It) (fp:List Addr) (it:Addr) (tn:Nat→Heap→Prop):Prop where
 mem:it∈fp
 obj: ∀i h,tn i h→ ∀b∈fp,∃o,h.get? b=some o∧ ∀v,o.data≠.cell v
 keep: ∀i h h',tn i h→(∀b∈fp,∀o,h.get? b=some o→h'.get? b=some o)→tn i h'
 item: ∀(X:Cx),X.prog=P→X.w=w→X.K=K→X.calm=true→ ∀(i:Nat) (pins:List (Addr×Obj)) (s:Shared) (σ:St) (H:Hp) (E:Value→Shared→Prop),Inv X pins σ H s→(∀b∈fp,Ad X pins H b)→tn i s.heap→J.go i H→
  wpAny (model P w) X.A (pyNext (.ref it)) (fun r s1=> ∃u,r=some u∧
   wpAny (model P w) X.A (letOwnedTupleGo tg (.ref it) u) (fun _ s2=> ∃x H',Inv X pins σ H' s2∧aZ x u∧J.yld i H x H'∧tn (i+1) s2.heap∧ ∀b∈fp,H' b=none) E s1) E s
 done: ∀(X:Cx),X.prog=P→X.w=w→X.K=K→X.calm=true→ ∀(i:Nat) (pins:List (Addr×Obj)) (s:Shared) (σ:St) (H:Hp) (E:Value→Shared→Prop),Inv X pins σ H s→(∀b∈fp,Ad X pins H b)→tn i s.heap→J.stop i H→
  wpAny (model P w) X.A (pyNext (.ref it)) (fun r s1=>r=none∧Inv X pins σ H s1) E s
 self: ∀(A:Around) (i:Nat) (s:Shared) (Q:Value→Shared→Prop) (E:Value→Shared→Prop),tn i s.heap→Q (.ref it) s→wpAny (model P w) A (pyIter (.ref it)) Q E s
abbrev TI:=St→Hp→(It→Hp→Prop)→Prop
def PIE (X:Cx) (pins:List (Addr×Obj)) (σ:St) (tg:Expr) (R:It→Hp→Prop) (itv:Value) (s2:Shared):Prop:=
 ∃(it:Addr) (fp:List Addr) (tn:Nat→Heap→Prop) (J:It) (H':Hp),itv=.ref it∧Inv X pins σ H' s2∧Bl X.prog X.w X.K tg J fp it tn∧tn 0 s2.heap∧(∀b∈fp,Ad X pins H' b)∧R J H'
def PI (X:Cx) (tg iter:Expr) (wi:TI):Prop:=
 ∀(pins:List (Addr×Obj)) (s:Shared) (σ:St) (H:Hp) (R:It→Hp→Prop),Inv X pins σ H s→wi σ H R→
  wpAny (model X.prog X.w) X.A (eval iter X.env) (fun v s1=>wpAny (model X.prog X.w) X.A (pyIter v) (PIE X pins σ tg R) X.xe s1) X.xe s
theorem Bz {M:Model}{A:Around}{E:Value→Shared→Prop}{s:Shared}{tg:Expr}{it:Addr}{u:Value}{o:Obj}{n:String}{vs:Array Value}{Q:Unit→Shared→Prop}(ho:s.heap.get? it=some o) (hc:o.cls=.type n) (hd:o.data=.fields vs)
  (hn:["enumerate","zip","dict_itemiterator","dict_reverseitemiterator","odict_iterator","itertools.zip_longest","itertools.pairwise"].contains n=false) (hQ:Q () s):wpAny M A (letOwnedTupleGo tg (.ref it) u) Q E s:=by
 unfold letOwnedTupleGo
 cases tg<;>first
  |exact wpAny_pure hQ
  |(cases u<;>first
    |exact wpAny_pure hQ
    |(refine wpAny_bind (wpAny_load ho ?_)
      rw[hc,hd]
      show wpAny M A (if(["enumerate","zip","dict_itemiterator","dict_reverseitemiterator","odict_iterator","itertools.zip_longest","itertools.pairwise"].contains n && vs[0]? ==some (rawInt _))=true then _ else _) Q E s
      rw[if_neg (by intro h;rw[hn,Bool.false_and] at h;cases h)]
      exact wpAny_pure hQ))
def Itl (K:PySem.W.Frag) (a:Addr):It:=
 ⟨fun i H=> ∃xs x,SqL K H a xs∧xs[i]? =some x,fun i H x H'=>H'=H∧ ∀xs,SqL K H a xs→xs[i]? =some x,fun i H=> ∃xs,SqL K H a xs∧xs.length≤i⟩
def Itt (K:PySem.W.Frag) (a:Addr):It:=
 ⟨fun i H=> ∃xs x,SqT K H a xs∧xs[i]? =some x,fun i H x H'=>H'=H∧ ∀xs,SqT K H a xs→xs[i]? =some x,fun i H=> ∃xs,SqT K H a xs∧xs.length≤i⟩
def Itr (lo:Int) (n:Nat):It:=⟨fun i _=>i<n,fun i H x H'=>H'=H∧x=.int (lo+i),fun i _=>n≤i⟩
theorem G4 {P:Program}{w:World}{K:PySem.W.Frag}{tg:Expr}(a it:Addr):Bl P w K tg (Itl K a) [it] it (fun i h=>h.IsListIter it a i) where
 mem:=by simp
 obj:=fun i h st b hb=>by
  have e:b=it:=by simpa using hb
  subst e
  obtain⟨o,e,c,d⟩:=st
  exact⟨o,e,fun v z=>by rw[d] at z;cases z⟩
 keep:=fun i h h' st k=>st.at fun o e=>k it (by simp) o e
 item:=by
  intro X hP hw hK hc i pins s σ H E I hf st hg
  subst hP hw hK
  obtain⟨xs,x,hq,hx⟩:=hg
  obtain⟨its,rv,p,hz⟩:=I.list hq
  obtain⟨u,hu,ru⟩:=rv.get hx
  obtain⟨f0,f1,f2,f3,f4,f5⟩:=hf it (by simp)
  refine wpAny_pyNext_list_item st p.isList (x:=u) (by simpa using hu) fun h' st' sb=> ?_
  have I1:Inv X pins σ H {s with heap:=h'}:=I.turned (t':=s.toks) (fun b o hb e=>(sb.2 b hb).trans e) f0 f1 f3 f4 f5
  obtain⟨o,e,c,d⟩:=id st'
  exact⟨u,rfl,Bz (s:={s with heap:=h'}) e c d (by decide) ⟨x,H,I1,ru,⟨rfl,fun ys hy=>by rw[I.list_inj hy hq];exact hx⟩,st',fun b hb=>(hf b hb).1⟩⟩
 done:=by
  intro X hP hw hK hc i pins s σ H E I hf st hg
  subst hP hw hK
  obtain⟨xs,hq,hx⟩:=hg
  obtain⟨its,rv,p,hz⟩:=I.list hq
  obtain⟨f0,f1,f2,f3,f4,f5⟩:=hf it (by simp)
  have hl:=rv.length
  exact wpAny_pyNext_list_end (I.ok.hd hc) st p.isList (by simp;omega) fun h' eb=>⟨rfl,I.turned (t':=s.toks) (fun b o hb e=>eb b o hb e) f0 f1 f3 f4 f5⟩
 self:=fun _ _ _ _ _ st h=>wpAny_pyIter_listiter st h
theorem Fe {P:Program}{w:World}{K:PySem.W.Frag}{tg:Expr}(a it:Addr):Bl P w K tg (Itt K a) [it] it (fun i h=>h.IsTupleIter it a i) where
 mem:=by simp
 obj:=fun i h st b hb=>by
  have e:b=it:=by simpa using hb
  subst e
  obtain⟨o,e,c,d⟩:=st
  exact⟨o,e,fun v z=>by rw[d] at z;cases z⟩
 keep:=fun i h h' st k=>st.at fun o e=>k it (by simp) o e
 item:=by
  intro X hP hw hK hc i pins s σ H E I hf st hg
  subst hP hw hK
  obtain⟨xs,x,hq,hx⟩:=hg
  obtain⟨its,rv,p,hz⟩:=I.tuple hq
  obtain⟨u,hu,ru⟩:=rv.get hx
  obtain⟨f0,f1,f2,f3,f4,f5⟩:=hf it (by simp)
  refine wpAny_pyNext_tuple_item st (show s.heap.IsTuple a its.toArray from p) (x:=u) (by simpa using hu) fun h' st' sb=> ?_
  have I1:Inv X pins σ H {s with heap:=h'}:=I.turned (t':=s.toks) (fun b o hb e=>(sb.2 b hb).trans e) f0 f1 f3 f4 f5
  obtain⟨o,e,c,d⟩:=id st'
  exact⟨u,rfl,Bz (s:={s with heap:=h'}) e c d (by decide) ⟨x,H,I1,ru,⟨rfl,fun ys hy=>by rw[I.tuple_inj hy hq];exact hx⟩,st',fun b hb=>(hf b hb).1⟩⟩
 done:=by
  intro X hP hw hK hc i pins s σ H E I hf st hg
  subst hP hw hK
  obtain⟨xs,hq,hx⟩:=hg
  obtain⟨its,rv,p,hz⟩:=I.tuple hq
  obtain⟨f0,f1,f2,f3,f4,f5⟩:=hf it (by simp)
  have hl:=rv.length
  exact wpAny_pyNext_tuple_end (I.ok.hd hc) st (show s.heap.IsTuple a its.toArray from p) (by simp;omega) fun h' eb=>⟨rfl,I.turned (t':=s.toks) (fun b o hb e=>eb b o hb e) f0 f1 f3 f4 f5⟩
 self:=fun _ _ _ _ _ st h=>wpAny_pyIter_tupleiter st h
theorem Ff {P:Program}{w:World}{K:PySem.W.Frag}{tg:Expr}(it:Addr) (lo:Int) (n:Nat):Bl P w K tg (Itr lo n) [it] it (fun i h=>IsRangeIter h it (lo+(i:Nat)*1) ((n:Int)-(i:Nat)) 1) where
 mem:=by simp
 obj:=fun i h st b hb=>by
  have e:b=it:=by simpa using hb
  subst e
  exact⟨_,st,fun v z=>by
   have z':Data.fields _=Data.cell v:=z
   cases z'⟩
 keep:=fun i h h' st k=>k it (by simp) _ st
 item:=by
  intro X hP hw hK hc i pins s σ H E I hf st hg
  subst hP hw hK
  obtain⟨f0,f1,f2,f3,f4,f5⟩:=hf it (by simp)
  have W:=Walks.range (prog:=X.prog) (w:=X.w) (I.ok.hd hc) it lo 1 n
  refine W.item i s _ _ hg st fun v h' tk hv st' kk=> ?_
  obtain⟨t,rfl⟩:=hv
  have I1:Inv X pins σ H {s with heap:=h',toks:=tk}:=I.turned (fun b o hb e=>kk b o (by simpa using hb) e) f0 f1 f3 f4 f5
  refine⟨_,rfl,Bz (s:={s with heap:=h',toks:=tk}) (n:="range_iterator") st' rfl rfl (by decide) ⟨.int (lo+i),H,I1,⟨t,?_⟩,⟨rfl,rfl⟩,st',fun b hb=>(hf b hb).1⟩⟩
  rw[Int.mul_one]
 done:=by
  intro X hP hw hK hc i pins s σ H E I hf st hg
  subst hP hw hK
  obtain⟨f0,f1,f2,f3,f4,f5⟩:=hf it (by simp)
  exact wpAny_pyNext_range_end (I.ok.hd hc) st (by have:n≤i:=hg;omega) fun h' eb=>⟨rfl,I.turned (t':=s.toks) (fun b o hb e=>eb b o hb e) f0 f1 f3 f4 f5⟩
 self:=fun _ _ _ _ _ st h=>wpAny_pyIter_rangeiter st h
end L2
namespace L2
open PySem PySem.Spec PyProof.Rows
section
variable {X:Cx}{tg:Expr}
def Mz (K:PySem.W.Frag) (tl:TE):TI:=fun σ H R=>tl σ H fun x H1=> ∃a,x=.ref a∧(∃xs,SqL K H1 a xs)∧R (Itl K a) H1
def O9 (K:PySem.W.Frag) (tl:TE):TI:=fun σ H R=>tl σ H fun x H1=> ∃a,x=.ref a∧(∃xs,SqT K H1 a xs)∧R (Itt K a) H1
theorem LD {l:Expr}{tl:TE}(hl:PE X l tl):PI X tg l (Mz X.K tl):=by
 intro pins s σ H R I h
 refine thn (hl pins s σ H _ I h) fun v s1 ⟨x,H1,I1,r1,q1⟩=> ?_
 obtain⟨a,e,⟨xs,hq⟩,q⟩:=q1
 subst e
 cases r1
 obtain⟨its,rv,p,hz⟩:=I1.list hq
 refine wpAny_pyIter_list p.isList ?_
 refine⟨s1.heap.objs.size,[s1.heap.objs.size],_,_,H1,rfl,I1.kept (t':=s1.toks) fun b o e=>Heap.get?_push_of_some _ e,G4 a _,⟨_,Heap.get?_push_size _ rfl,rfl,rfl⟩,fun b hb=> ?_,q⟩
 have e:b=s1.heap.objs.size:=by simpa using hb
 subst e
 exact I1.fpOk (Nat.le_refl _) (I1.hok.fresh (Nat.le_refl _))
theorem Nh {l:Expr}{tl:TE}(hl:PE X l tl):PI X tg l (O9 X.K tl):=by
 intro pins s σ H R I h
 refine thn (hl pins s σ H _ I h) fun v s1 ⟨x,H1,I1,r1,q1⟩=> ?_
 obtain⟨a,e,⟨xs,hq⟩,q⟩:=q1
 subst e
 cases r1
 obtain⟨its,rv,p,hz⟩:=I1.tuple hq
 refine wpAny_pyIter_tuple (show s1.heap.IsTuple a its.toArray from p) ?_
 refine⟨s1.heap.objs.size,[s1.heap.objs.size],_,_,H1,rfl,I1.kept (t':=s1.toks) fun b o e=>Heap.get?_push_of_some _ e,Fe a _,⟨_,Heap.get?_push_size _ rfl,rfl,rfl⟩,fun b hb=> ?_,q⟩
 have e:b=s1.heap.objs.size:=by simpa using hb
 subst e
 exact I1.fpOk (Nat.le_refl _) (I1.hok.fresh (Nat.le_refl _))
theorem Ed {pins:List (Addr×Obj)}{σ:St}{H:Hp}{s:Shared}{R:It→Hp→Prop}{E:Value→Shared→Prop}{lo hi:Int}{t u v:Tok}{tk:Nat}(I:Inv X pins σ H s) (h1: -(2^62)≤lo) (h2:lo<2^62) (h3: -(2^62)≤hi) (h4:hi<2^62)
  (q:R (Itr lo (hi-lo).toNat) H):wpAny (model X.prog X.w) X.A (pyIter (.ref s.heap.objs.size)) (PIE X pins σ tg R) E {s with heap:=s.heap.push {cls:=.type "range",data:=.fields #[.int lo t,.int hi u,.int 1 v]},toks:=tk}:=by
 refine wpAny_pyIter_range (IsRange.new ..) (small_one h1 h2 h3 h4) ?_
 have I1:Inv X pins σ H {s with heap:=s.heap.push {cls:=.type "range",data:=.fields #[.int lo t,.int hi u,.int 1 v]},toks:=tk}:=I.kept fun b o e=>Heap.get?_push_of_some _ e
 refine⟨(s.heap.push {cls:=.type "range",data:=.fields #[.int lo t,.int hi u,.int 1 v]}).objs.size,[(s.heap.push {cls:=.type "range",data:=.fields #[.int lo t,.int hi u,.int 1 v]}).objs.size],_,_,H,rfl,
  I1.kept (t':=tk) fun b o e=>Heap.get?_push_of_some _ e,Ff _ lo (hi-lo).toNat,?_,fun b hb=> ?_,q⟩
 ·have e1:lo+((0:Nat):Int)*1=lo:=by simp
  have e2:(((hi-lo).toNat:Nat):Int)-((0:Nat):Int)=Builtin.Range.rangeSize lo hi 1:=by rw[rangeSize_one];split<;>omega
  show IsRangeIter _ _ (lo+((0:Nat):Int)*1) ((((hi-lo).toNat:Nat):Int)-((0:Nat):Int)) 1
  rw[e1,e2]
  exact Heap.get?_push_size _ rfl
 ·have e:b=(s.heap.push {cls:=.type "range",data:=.fields #[.int lo t,.int hi u,.int 1 v]}).objs.size:=by simpa using hb
  subst e
  exact I1.fpOk (Nat.le_refl _) (I1.hok.fresh (Nat.le_refl _))
def Pb (ta:TA):TI:=fun σ H R=>ta σ H fun vs H1=> ∃j:Int,vs=[.int j]∧ -(2^62)≤j∧j<2^62∧R (Itr 0 j.toNat) H1
def Pa (ta:TA):TI:=fun σ H R=>ta σ H fun vs H1=> ∃i j:Int,vs=[.int i,.int j]∧(-(2^62)≤i∧i<2^62∧ -(2^62)≤j∧j<2^62)∧R (Itr i (j-i).toNat) H1
theorem cK {a:Expr}{ta:TA}{p pos:Pos}(hg:Gl X "range") (hm:X.mg "range"=none) (ha:PA X [a] ta) (hs:starEach [a] X.env=[(false,eval a X.env)]:=by rfl):PI X tg (.Call (.Name "range" p) [a] [] pos) (Pb ta):=by
 intro pins s σ H R I h
 refine Call_ (nJ I hg hm boot_range (PyProof.Rows.callWith_type1 (thn (ha pos pins s σ H _ I h) fun us s1 ⟨vs,H1,I1,r1,q1⟩=> ?_) hs rfl))
 obtain⟨j,e,q1,q2,q⟩:=q1
 subst e
 cases r1 with
 |cons r rr=>
  cases rr
  obtain⟨t,rfl⟩:=r
  exact call_range_1 (Ed I1 (by omega) (by omega) q1 q2 (by simpa using q))
theorem Bu {a b:Expr}{ta:TA}{p pos:Pos}(hg:Gl X "range") (hm:X.mg "range"=none) (ha:PA X [a,b] ta) (hs:starEach [a,b] X.env=[(false,eval a X.env),(false,eval b X.env)]:=by rfl) (hs2:starEach [b] X.env=[(false,eval b X.env)]:=by rfl):
  PI X tg (.Call (.Name "range" p) [a,b] [] pos) (Pa ta):=by
 intro pins s σ H R I h
 refine Call_ (nJ I hg hm boot_range (PyProof.Rows.callWith_type1 (thn (ha pos pins s σ H _ I h) fun us s1 ⟨vs,H1,I1,r1,q1⟩=> ?_) (by rw[hs,hs2]) (by rw[hs2];rfl)))
 obtain⟨i,j,e,⟨q1,q2,q3,q4⟩,q⟩:=q1
 subst e
 cases r1 with
 |cons r rr=>
  cases rr with
  |cons r' rr=>
   cases rr
   obtain⟨t,rfl⟩:=r
   obtain⟨t',rfl⟩:=r'
   exact call_range_2 (Ed I1 q1 q2 q3 q4 q)
def Pw (wi:TI) (g:TG) (tb:TS):TS:=fun D σ H=>wi σ H fun J H1=> ∃W:Nat→Nat→St→Hp→Prop,(∃m,W 0 m σ H1)∧ ∀i m σ H,W i m σ H→
 (J.stop i H∧D.nx σ H)∨(J.go i H∧ ∃N:St→Hp→Prop,(∀σ' H',N σ' H'→ ∃m',m'<m∧W (i+1) m' σ' H')∧ ∀x H',J.yld i H x H'→g x σ H' fun σ2 H2=>tb {D with nx:=N,ct:=N,bk:=D.nx} σ2 H2)
def yb (fp:List Addr) (h:Heap):List (Addr×Obj):=fp.filterMap fun b=>(h.get? b).map fun o=>(b,o)
theorem nI {fp:List Addr}{h:Heap}{b:Addr}{o:Obj}(hb:b∈fp) (e:h.get? b=some o):(b,o)∈yb fp h:=List.mem_filterMap.mpr ⟨b,hb,by rw[e];rfl⟩
theorem Ht {fp:List Addr}{h:Heap}{p:Addr×Obj}(hp:p∈yb fp h):p.1∈fp∧h.get? p.1=some p.2:=by
 obtain⟨b,hb,e⟩:=List.mem_filterMap.mp hp
 cases q:h.get? b with
 |none=>rw[q] at e;cases e
 |some o=>
  rw[q] at e
  have e':(b,o)=p:=Option.some.inj e
  subst e'
  exact⟨hb,q⟩
theorem Inv.pinned {pins:List (Addr×Obj)}{σ:St}{H:Hp}{s:Shared}{fp:List Addr}(I:Inv X pins σ H s) (hf: ∀b∈fp,Ad X pins H b) (ho: ∀b∈fp,∃o,s.heap.get? b=some o∧ ∀v,o.data≠.cell v):Inv X (pins++yb fp s.heap) σ H s:=
 I.pins_of fun p hp=>(List.mem_append.mp hp).elim (fun z=>I.pin p (List.mem_append_right _ z)) fun z=>by
  obtain⟨hb,e⟩:=Ht z
  obtain⟨f0,f1,f2,_⟩:=hf p.1 hb
  obtain⟨o,e',d⟩:=ho p.1 hb
  rw[e] at e';cases e'
  exact⟨e,f0,f1,f2,d⟩
theorem Inv.unpinned {pins pl:List (Addr×Obj)}{σ:St}{H:Hp}{s:Shared}(I:Inv X (pins++pl) σ H s):Inv X pins σ H s:=I.pins_of fun p hp=>I.pin p (List.mem_append_right _ (List.mem_append_left _ hp))
theorem cV {iter:Expr}{body:List Stmt}{wi:TI}{g:TG}{tb:TS}{pos:Pos}(hp:PassesOwn (model X.prog X.w) X.A X.env X.xe) (hc:X.calm=true) (hi:PI X tg iter wi) (hg:PG X tg g) (hb:PSs X body tb)
  (hs: ∀x,foldedSetIterable iter X.env x=pure x:=by intro _;rfl):PS X (.For tg iter body [] pos) (Pw wi g tb):=by
 intro pins s σ H D I h
 refine wpAny_For (thn (hi pins s σ H _ I h) fun v s1 h1=>thn h1 fun itv s2 h2=> ?_) hs
 obtain⟨it,fp,tn,J,H2,e,I2,T,st2,f2,W,⟨m0,w0⟩,turn⟩:=h2
 subst e
 have stat: ∀{H':Hp},(∀b∈fp,H' b=none)→ ∀b∈fp,Ad X pins H' b:=fun hn b hb=>⟨hn b hb,(f2 b hb).2⟩
 refine codeAny_forLoop_any (fun n s'=> ∃i σ' H',Inv X pins σ' H' s'∧tn i s'.heap∧(∀b∈fp,H' b=none)∧W i n σ' H') ?_ m0 ⟨0,σ,H2,I2,st2,fun b hb=>(f2 b hb).1,w0⟩
 rintro n s3 ⟨i,σ3,H3,I3,st3,fr3,w3⟩
 rcases turn i n σ3 H3 w3 with⟨stop,qn⟩ |⟨go,N,hN,step⟩
 ·refine wpAny_passesOwn hp (thn (T.done X rfl rfl rfl hc i pins s3 σ3 H3 X.xe I3 (stat fr3) st3 stop) fun r s4 ⟨hr,I4⟩=> ?_)
  subst hr
  exact wpAny_execs_nil ⟨σ3,H3,I4,qn⟩
 ·refine wpAny_passesOwn hp (thn (T.item X rfl rfl rfl hc i pins s3 σ3 H3 X.xe I3 (stat fr3) st3 go) fun r s4 ⟨u,hr,h4⟩=> ?_)
  subst hr
  refine wpAny_passesOwn hp (thn h4 fun _ s5 ⟨x,H5,I5,r5,y5,st5,fr5⟩=> ?_)
  have I5':=I5.pinned (stat fr5) (T.obj _ _ st5)
  refine wpAny_passesOwn hp (thn (hg _ s5 σ3 H5 x u _ I5' r5 (step x H5 y5)) fun _ s6 ⟨σ6,H6,I6,q6⟩=> ?_)
  refine wpAny_passesOwn hp (thn (hb _ s6 σ6 H6 _ I6 q6) fun f s7 q7=> ?_)
  have again: ∀{σ7:St}{H7:Hp},Inv X (pins++yb fp s5.heap) σ7 H7 s7→N σ7 H7→ ∃m,m<n∧ ∃i σ' H',Inv X pins σ' H' s7∧tn i s7.heap∧(∀b∈fp,H' b=none)∧W i m σ' H':=fun {σ7 H7} I7 n7=>by
   obtain⟨m',hm,w7⟩:=hN σ7 H7 n7
   refine⟨m',hm,i+1,σ7,H7,I7.unpinned,T.keep _ _ _ st5 fun b hb o e=>(I7.pin (b,o) (List.mem_append_right _ (List.mem_append_right _ (nI hb e)))).1,fun b hb=> ?_,w7⟩
   obtain⟨o,e,d⟩:=T.obj _ _ st5 b hb
   exact(I7.pin (b,o) (List.mem_append_right _ (List.mem_append_right _ (nI hb e)))).2.1
  cases f with
  |next=>obtain⟨σ7,H7,I7,n7⟩:=q7;exact again I7 n7
  |cont=>obtain⟨σ7,H7,I7,n7⟩:=q7;exact again I7 n7
  |brk=>obtain⟨σ7,H7,I7,q7⟩:=q7;exact⟨σ7,H7,I7.unpinned,q7⟩
  |ret v=>obtain⟨x7,σ7,H7,I7,r7,q7⟩:=q7;exact⟨x7,σ7,H7,I7.unpinned,r7,q7⟩
end
theorem eC {K:PySem.W.Frag}{a:Addr}{xs:List V}{g:TG}{tb:TS}{D:sZ}{σ:St}{H:Hp}(Pv:Nat→St→Hp→Prop) (h0:Pv 0 σ H) (hl: ∀i σ H,i≤xs.length→Pv i σ H→SqL K H a xs)
  (hs: ∀i x σ H,xs[i]? =some x→Pv i σ H→g x σ H fun σ2 H2=>tb {D with nx:=Pv (i+1),ct:=Pv (i+1),bk:=D.nx} σ2 H2) (hd: ∀σ H,Pv xs.length σ H→D.nx σ H):
  ∃W:Nat→Nat→St→Hp→Prop,(∃m,W 0 m σ H)∧ ∀i m σ H,W i m σ H→
   ((Itl K a).stop i H∧D.nx σ H)∨((Itl K a).go i H∧ ∃N:St→Hp→Prop,(∀σ' H',N σ' H'→ ∃m',m'<m∧W (i+1) m' σ' H')∧ ∀x H',(Itl K a).yld i H x H'→g x σ H' fun σ2 H2=>tb {D with nx:=N,ct:=N,bk:=D.nx} σ2 H2):=by
 refine⟨fun i m σ H=>m=xs.length-i∧i≤xs.length∧Pv i σ H,⟨xs.length,by simp,Nat.zero_le _,h0⟩,?_⟩
 rintro i m σ H ⟨rfl,hi,p⟩
 have q:=hl i σ H hi p
 by_cases hlt:i<xs.length
 ·refine .inr ⟨⟨xs,xs[i],q,by simp[hlt]⟩,Pv (i+1),fun σ' H' p'=>⟨xs.length-(i+1),by omega,rfl,hlt,p'⟩,fun x H' y=> ?_⟩
  obtain⟨e,y⟩:=y
  subst e
  exact hs i x σ _ (y xs q) p
 ·have e:i=xs.length:=by omega
  subst e
  exact .inl ⟨⟨xs,q,Nat.le_refl _⟩,hd σ H p⟩
theorem fe {lo:Int}{n:Nat}{g:TG}{tb:TS}{D:sZ}{σ:St}{H:Hp}(Pv:Nat→St→Hp→Prop) (h0:Pv 0 σ H)
  (hs: ∀i σ H,i<n→Pv i σ H→g (.int (lo+i)) σ H fun σ2 H2=>tb {D with nx:=Pv (i+1),ct:=Pv (i+1),bk:=D.nx} σ2 H2) (hd: ∀σ H,Pv n σ H→D.nx σ H):
  ∃W:Nat→Nat→St→Hp→Prop,(∃m,W 0 m σ H)∧ ∀i m σ H,W i m σ H→
   ((Itr lo n).stop i H∧D.nx σ H)∨((Itr lo n).go i H∧ ∃N:St→Hp→Prop,(∀σ' H',N σ' H'→ ∃m',m'<m∧W (i+1) m' σ' H')∧ ∀x H',(Itr lo n).yld i H x H'→g x σ H' fun σ2 H2=>tb {D with nx:=N,ct:=N,bk:=D.nx} σ2 H2):=by
 refine⟨fun i m σ H=>m=n-i∧i≤n∧Pv i σ H,⟨n,by simp,Nat.zero_le _,h0⟩,?_⟩
 rintro i m σ H ⟨rfl,hi,p⟩
 by_cases hlt:i<n
 ·refine .inr ⟨hlt,Pv (i+1),fun σ' H' p'=>⟨n-(i+1),by omega,rfl,hlt,p'⟩,fun x H' y=> ?_⟩
  obtain⟨e,y⟩:=y
  subst e y
  exact hs i σ _ hlt p
 ·have e:i=n:=by omega
  subst e
  exact .inl ⟨Nat.le_refl _,hd σ H p⟩
end L2
namespace L2
open PySem PySem.Spec PyProof.Rows
abbrev R2:=V→V→Hp→VK→Prop
def OpR (X:Cx) (f:Value→Value→Sem Value) (r:R2):Prop:=
 ∀(pins:List (Addr×Obj)) (s:Shared) (σ:St) (H:Hp) (x y:V) (v u:Value) (Q:VK),Inv X pins σ H s→aZ x v→aZ y u→r x y H Q→
  wpAny (model X.prog X.w) X.A (f v u) (EP X pins σ Q) X.xe s
def UnR (X:Cx) (f:Value→Sem Value) (r:V→Hp→VK→Prop):Prop:=
 ∀(pins:List (Addr×Obj)) (s:Shared) (σ:St) (H:Hp) (x:V) (v:Value) (Q:VK),Inv X pins σ H s→aZ x v→r x H Q→
  wpAny (model X.prog X.w) X.A (f v) (EP X pins σ Q) X.xe s
def cQ (X:Cx) (f:Value) (r:List V→Hp→VK→Prop):Prop:=
 ∀(pins:List (Addr×Obj)) (s:Shared) (σ:St) (H:Hp) (xs:List V) (us:List Value) (Q:VK),Inv X pins σ H s→a8 xs us→r xs H Q→
  wpAny (model X.prog X.w) X.A (call f us) (EP X pins σ Q) X.xe s
def PY (X:Cx) (r:V→Hp→(Bool→Hp→Prop)→Prop):Prop:=
 ∀(pins:List (Addr×Obj)) (s:Shared) (σ:St) (H:Hp) (x:V) (v:Value) (Q:Bool→Hp→Prop),Inv X pins σ H s→aZ x v→r x H Q→
  wpAny (model X.prog X.w) X.A (truthy v) (TP X pins σ Q) X.xe s
def tOp (r:R2) (ta tb:TE):TE:=fun σ H Q=>ta σ H fun x H1=>tb σ H1 fun y H2=>r x y H2 Q
def tUn (r:V→Hp→VK→Prop) (ta:TE):TE:=fun σ H Q=>ta σ H fun x H1=>r x H1 Q
def rI (C:Int→Int→Prop) (g:Int→Int→V):R2:=fun x y H Q=> ∃i j,x=.int i∧y=.int j∧C i j∧Q (g i j) H
def rI0 (g:Int→Int→V):R2:=fun x y H Q=> ∃i j,x=.int i∧y=.int j∧Q (g i j) H
def rU (g:Int→V):V→Hp→VK→Prop:=fun x H Q=> ∃i,x=.int i∧Q (g i) H
section
variable {X:Cx}{a b c:Expr}{ta tb tc:TE}{pos:Pos}
theorem NZ (ha:PE X a ta) (hb:PE X b tb) {pins:List (Addr×Obj)}{s:Shared}{σ:St}{H:Hp}{R:V→V→Hp→Prop}(I:Inv X pins σ H s)
  (h:ta σ H fun x H1=>tb σ H1 fun y H2=>R x y H2) {Q:Value→Shared→Prop}{f:Value→Value→Sem Value}
  (hf: ∀v u s2 x y H2,Inv X pins σ H2 s2→aZ x v→aZ y u→R x y H2→wpAny (model X.prog X.w) X.A (f v u) Q X.xe s2):
  wpAny (model X.prog X.w) X.A (eval a X.env) (fun v s₁=>wpAny (model X.prog X.w) X.A (eval b X.env) (fun u s₂=>wpAny (model X.prog X.w) X.A (f v u) Q X.xe s₂) X.xe s₁) X.xe s:=by
 refine thn (ha pins s σ H _ I h) fun v s1 ⟨x,H1,I1,r1,q1⟩=> ?_
 refine thn (hb pins s1 σ H1 _ I1 q1) fun u s2 ⟨y,H2,I2,r2,q2⟩=> ?_
 exact hf v u s2 x y H2 I2 r1 r2 q2
theorem aA {op:Operator}{r:R2}(ho:OpR X (binaryOp op) r) (ha:PE X a ta) (hb:PE X b tb):PE X (.BinOp a op b pos) (tOp r ta tb):=by
 intro pins s σ H Q I h
 exact wpAny_BinOp (NZ ha hb I h fun v u s2 x y H2 I2 rx ry q=>ho pins s2 σ H2 x y v u Q I2 rx ry q)
theorem OS {op:UnaryOp}{r:V→Hp→VK→Prop}(ho:UnR X (unaryOp op) r) (ha:PE X a ta):PE X (.UnaryOp op a pos) (tUn r ta):=by
 intro pins s σ H Q I h
 exact UnaryOp_ (thn (ha pins s σ H _ I h) fun v s1 ⟨x,H1,I1,r1,q1⟩=>ho pins s1 σ H1 x v Q I1 r1 q1)
theorem opI {f:Value→Value→Sem Value}{C:Int→Int→Prop}{g:Int→Int→Int}
  (rule: ∀(i j:Int) (t u:Tok) (s:Shared) (Q:Value→Shared→Prop) (E:Value→Shared→Prop),C i j→Q (.int (g i j) s.toks) {s with toks:=s.toks+1}→wpAny (model X.prog X.w) X.A (f (.int i t) (.int j u)) Q E s):
  OpR X f (rI C fun i j=> .int (g i j)):=by
 intro pins s σ H x y v u Q I rx ry h
 obtain⟨i,j,rfl,rfl,hc,q⟩:=h
 obtain⟨t,rfl⟩:=rx
 obtain⟨t',rfl⟩:=ry
 exact rule i j t t' s _ _ hc ⟨.int (g i j),H,I.tok _,⟨_,rfl⟩,q⟩
theorem Nv {f:Value→Value→Sem Value}{g:Int→Int→Int}
  (rule: ∀(i j:Int) (t u:Tok) (s:Shared) (Q:Value→Shared→Prop) (E:Value→Shared→Prop),Q (.int (g i j) s.toks) {s with toks:=s.toks+1}→wpAny (model X.prog X.w) X.A (f (.int i t) (.int j u)) Q E s):
  OpR X f (rI0 fun i j=> .int (g i j)):=by
 intro pins s σ H x y v u Q I rx ry h
 obtain⟨i,j,rfl,rfl,q⟩:=h
 obtain⟨t,rfl⟩:=rx
 obtain⟨t',rfl⟩:=ry
 exact rule i j t t' s _ _ ⟨.int (g i j),H,I.tok _,⟨_,rfl⟩,q⟩
theorem LL {f:Value→Value→Sem Value}{g:Int→Int→Bool}
  (rule: ∀(i j:Int) (t u:Tok) (s:Shared) (Q:Value→Shared→Prop) (E:Value→Shared→Prop),Q (.bool (g i j)) s→wpAny (model X.prog X.w) X.A (f (.int i t) (.int j u)) Q E s):
  OpR X f (rI0 fun i j=> .bl (g i j)):=by
 intro pins s σ H x y v u Q I rx ry h
 obtain⟨i,j,rfl,rfl,q⟩:=h
 obtain⟨t,rfl⟩:=rx
 obtain⟨t',rfl⟩:=ry
 exact rule i j t t' s _ _ ⟨.bl (g i j),H,I,rfl,q⟩
def ph (i j:Int):Prop:=0<j∧j<1073741824
def P0 (i j:Int):Prop:=0≤j∧j≤1000000∧i.natAbs<2^64
def Og (i j:Int):Prop:=(-(2^64)<i∧i<2^64)∨(-(2^64)<j∧j<2^64)
theorem Og.ok {i j:Int}(h:Og i j):IntMulOk i j:=by
 rcases h with⟨h1,h2⟩ |⟨h1,h2⟩
 ·exact .of_left (intBits_le_64 h1 h2)
 ·exact .of_right (intBits_le_64 h1 h2)
theorem two_pow_nn (k:Nat):(0:Int)≤2^k:=by
 rw[two_pow_cast]
 exact Int.natCast_nonneg _
theorem bF:OpR X (binaryOp .Add) (rI0 fun i j=> .int (i+j)):=Nv fun _ _ _ _ _ _ _ q=>add_int q
theorem Cw:OpR X (binaryOp .Sub) (rI0 fun i j=> .int (i-j)):=Nv fun _ _ _ _ _ _ _ q=>sub_int q
theorem gJ:OpR X (binaryOp .Mult) (rI Og fun i j=> .int (i*j)):=opI fun _ _ _ _ _ _ _ hc q=>mul_int q hc.ok
theorem cH:OpR X (binaryOp .FloorDiv) (rI ph fun i j=> .int (i/j)):=opI fun i j _ _ _ _ _ hc q=>by
 have h1:(0:Int)<j:=hc.1
 have h2:j<1073741824:=hc.2
 exact floordiv_int (by omega) (by rw[Int.fdiv_eq_ediv_of_nonneg i (by omega)];exact q) (.inl (PyProof.noPylong_small (by omega)))
theorem bI:OpR X (binaryOp .Mod) (rI (fun _ j=>0<j) fun i j=> .int (i%j)):=opI fun i j _ _ _ _ _ hc q=>by
 have h1:(0:Int)<j:=hc
 exact mod_int' (by omega) (by rw[Int.fmod_eq_emod_of_nonneg i (by omega)];exact q)
theorem JG:OpR X (binaryOp .Pow) (rI P0 fun i j=> .int (i^j.toNat)):=opI fun _ _ _ _ _ _ _ hc q=>pow_int_small hc.1 hc.2.1 hc.2.2 q
theorem Nq:OpR X (binaryOp .RShift) (rI (fun _ j=>0≤j) fun i j=> .int (i/2^j.toNat)):=opI fun i j _ _ _ _ _ hc q=>
 rshift_int hc (by rw[Int.fdiv_eq_ediv_of_nonneg i (two_pow_nn _)];exact q)
theorem JK:OpR X (binaryOp .BitAnd) (rI0 fun i j=> .int (Builtin.bitAnd i j)):=Nv fun _ _ _ _ _ _ _ q=>and_int q
theorem unI {f:Value→Sem Value}{g:Int→Int}
  (rule: ∀(i:Int) (t:Tok) (s:Shared) (Q:Value→Shared→Prop) (E:Value→Shared→Prop),Q (.int (g i) s.toks) {s with toks:=s.toks+1}→wpAny (model X.prog X.w) X.A (f (.int i t)) Q E s):
  UnR X f (rU fun i=> .int (g i)):=by
 intro pins s σ H x v Q I rx h
 obtain⟨i,rfl,q⟩:=h
 obtain⟨t,rfl⟩:=rx
 exact rule i t s _ _ ⟨.int (g i),H,I.tok _,⟨_,rfl⟩,q⟩
theorem MH:UnR X (unaryOp .USub) (rU fun i=> .int (-i)):=unI fun _ _ _ _ _ q=>neg_int q
end
def m9:V→V→Bool
 | .non,.non=>true | .non,.int _=>true | .int _,.non=>true | .non,.bl _=>true | .bl _,.non=>true | .non,.str _=>true | .str _,.non=>true
 | .int _,.int _=>true | .bl _,.bl _=>true | .str _,.str _=>true | .byt _,.byt _=>true
 | .int _,.str _=>true | .str _,.int _=>true | .bl _,.str _=>true | .str _,.bl _=>true
 |_,_=>false
def rEq:R2:=fun x y H Q=>m9 x y=true∧Q (.bl (decide (x=y))) H
def rNe:R2:=fun x y H Q=>m9 x y=true∧Q (.bl (!decide (x=y))) H
theorem GI {i j:Int}:decide (V.int i=V.int j)=(i==j):=by
 rw[Bool.eq_iff_iff]
 simp
theorem Km {i j:Bool}:decide (V.bl i=V.bl j)=(i==j):=by
 rw[Bool.eq_iff_iff]
 simp
theorem GH {i j:Str}:decide (V.str i=V.str j)=(i==j):=by
 rw[Bool.eq_iff_iff]
 simp
theorem GJ {i j:Array UInt8}:decide (V.byt i=V.byt j)=(i.toList==j.toList):=by
 rw[Bool.eq_iff_iff]
 cases i
 cases j
 simp
section
variable {X:Cx}{a b c:Expr}{ta tb tc:TE}{pos:Pos}
theorem bB {pins:List (Addr×Obj)}{σ:St}{H:Hp}{s:Shared}{Q:VK}{k k':Bool}(I:Inv X pins σ H s) (q:Q (.bl k) H) (e:k=k'):EP X pins σ Q (.bool k') s:=by
 subst e
 exact⟨.bl k,H,I,rfl,q⟩
theorem bO:OpR X (compareOp .Eq) rEq:=by
 intro pins s σ H x y v u Q I rx ry h
 obtain⟨hs,q⟩:=h
 cases x with
 |non=>
  cases rx
  cases y with
  |non=>cases ry;exact PySem.EqNone.eq_none_none (bB I q (by simp))
  |bl j=>cases ry;exact PySem.EqNone.eq_none_bool (bB I q (by simp))
  |int j=>obtain⟨t',rfl⟩:=ry;exact PySem.EqNone.eq_none_int (bB I q (by simp))
  |str j=>obtain⟨t',rfl⟩:=ry;exact PySem.EqNone.eq_none_str (bB I q (by simp))
  |_=>exact absurd (show false=true from hs) Bool.false_ne_true
 |bl i=>
  cases rx
  cases y with
  |non=>cases ry;exact PySem.EqNone.eq_bool_none (bB I q (by simp))
  |bl j=>cases ry;exact eq_bool (bB I q Km)
  |str j=>obtain⟨t',rfl⟩:=ry;exact PySem.EqMixed.eq_bool_str (bB I q (by simp))
  |_=>exact absurd (show false=true from hs) Bool.false_ne_true
 |int i=>
  obtain⟨t,rfl⟩:=rx
  cases y with
  |non=>cases ry;exact PySem.EqNone.eq_int_none (bB I q (by simp))
  |int j=>obtain⟨t',rfl⟩:=ry;exact eq_int (bB I q GI)
  |str j=>obtain⟨t',rfl⟩:=ry;exact PySem.EqMixed.eq_int_str (bB I q (by simp))
  |_=>exact absurd (show false=true from hs) Bool.false_ne_true
 |str i=>
  obtain⟨t,rfl⟩:=rx
  cases y with
  |non=>cases ry;exact PySem.EqNone.eq_str_none (bB I q (by simp))
  |bl j=>cases ry;exact PySem.EqMixed.eq_str_bool (bB I q (by simp))
  |int j=>obtain⟨t',rfl⟩:=ry;exact PySem.EqMixed.eq_str_int (bB I q (by simp))
  |str j=>obtain⟨t',rfl⟩:=ry;exact eq_str (bB I q GH)
  |_=>exact absurd (show false=true from hs) Bool.false_ne_true
 |byt i=>
  obtain⟨t,rfl⟩:=rx
  cases y with
  |byt j=>obtain⟨t',rfl⟩:=ry;exact PySem.W.eq_bytes (bB I q GJ)
  |_=>exact absurd (show false=true from hs) Bool.false_ne_true
 |_=>cases y<;>exact absurd (show false=true from hs) Bool.false_ne_true
theorem JH:OpR X (compareOp .NotEq) rNe:=by
 intro pins s σ H x y v u Q I rx ry h
 obtain⟨hs,q⟩:=h
 cases x with
 |non=>
  cases rx
  cases y with
  |non=>cases ry;exact PySem.EqNone.ne_none_none (bB I q (by simp))
  |bl j=>cases ry;exact PySem.EqNone.ne_none_bool (bB I q (by simp))
  |int j=>obtain⟨t',rfl⟩:=ry;exact PySem.EqNone.ne_none_int (bB I q (by simp))
  |str j=>obtain⟨t',rfl⟩:=ry;exact PySem.EqNone.ne_none_str (bB I q (by simp))
  |_=>exact absurd (show false=true from hs) Bool.false_ne_true
 |bl i=>
  cases rx
  cases y with
  |non=>cases ry;exact PySem.EqNone.ne_bool_none (bB I q (by simp))
  |bl j=>cases ry;exact ne_bool (bB I q (congrArg not Km))
  |str j=>obtain⟨t',rfl⟩:=ry;exact PySem.EqMixed.ne_bool_str (bB I q (by simp))
  |_=>exact absurd (show false=true from hs) Bool.false_ne_true
 |int i=>
  obtain⟨t,rfl⟩:=rx
  cases y with
  |non=>cases ry;exact PySem.EqNone.ne_int_none (bB I q (by simp))
  |int j=>obtain⟨t',rfl⟩:=ry;exact ne_int (bB I q (congrArg not GI))
  |str j=>obtain⟨t',rfl⟩:=ry;exact PySem.EqMixed.ne_int_str (bB I q (by simp))
  |_=>exact absurd (show false=true from hs) Bool.false_ne_true
 |str i=>
  obtain⟨t,rfl⟩:=rx
  cases y with
  |non=>cases ry;exact PySem.EqNone.ne_str_none (bB I q (by simp))
  |bl j=>cases ry;exact PySem.EqMixed.ne_str_bool (bB I q (by simp))
  |int j=>obtain⟨t',rfl⟩:=ry;exact PySem.EqMixed.ne_str_int (bB I q (by simp))
  |str j=>obtain⟨t',rfl⟩:=ry;exact ne_str (bB I q (congrArg not GH))
  |_=>exact absurd (show false=true from hs) Bool.false_ne_true
 |byt i=>
  obtain⟨t,rfl⟩:=rx
  cases y with
  |byt j=>obtain⟨t',rfl⟩:=ry;exact PySem.W.ne_bytes (bB I q (congrArg not GJ))
  |_=>exact absurd (show false=true from hs) Bool.false_ne_true
 |_=>cases y<;>exact absurd (show false=true from hs) Bool.false_ne_true
theorem JI:OpR X (compareOp .Lt) (rI0 fun i j=> .bl (decide (i<j))):=LL fun _ _ _ _ _ _ _ q=>lt_int q
theorem o8:OpR X (compareOp .LtE) (rI0 fun i j=> .bl (decide (i≤j))):=LL fun _ _ _ _ _ _ _ q=>le_int q
theorem Bw:OpR X (compareOp .Gt) (rI0 fun i j=> .bl (decide (j<i))):=LL fun _ _ _ _ _ _ _ q=>gt_int q
theorem Ms:OpR X (compareOp .GtE) (rI0 fun i j=> .bl (decide (j≤i))):=LL fun _ _ _ _ _ _ _ q=>ge_int q
theorem Hn:OpR X (compareOp .In) (fun x y H Q=> ∃i j,x=.str i∧y=.str j∧Q (.bl (!(Builtin.Str.occurrences j i 0 j.length 1).isEmpty)) H):=by
 intro pins s σ H x y v u Q I rx ry h
 obtain⟨i,j,rfl,rfl,q⟩:=h
 obtain⟨t,rfl⟩:=rx
 obtain⟨t',rfl⟩:=ry
 exact in_str (bB I q rfl)
theorem Nt:OpR X (compareOp .Is) (fun x y H Q=>y=.non∧Q (.bl (decide (x=.non))) H):=by
 intro pins s σ H x y v u Q I rx ry h
 obtain⟨rfl,q⟩:=h
 cases ry
 refine is_none_gen (bB I q ?_)
 cases x<;>first
  |(cases rx;rfl)
  |(obtain⟨t,rfl⟩:=rx;rfl)
theorem aM (b:Expr) {op:CmpOp}(h:op≠.In:=by decide) (h2:op≠.NotIn:=by decide):behindInMarks op b=false:=by
 have e1:(op==CmpOp.In)=false:=by cases op<;>first |rfl |exact absurd rfl h
 have e2:(op==CmpOp.NotIn)=false:=by cases op<;>first |rfl |exact absurd rfl h2
 cases b<;>simp[behindInMarks,e1,e2]
theorem fH {op:CmpOp}{r:R2}(ho:OpR X (compareOp op) r) (ha:PE X a ta) (hb:PE X b tb) (hm:behindInMarks op b=false):PE X (.Compare a [op] [b] pos) (tOp r ta tb):=by
 intro pins s σ H Q I h
 exact wpAny_Compare1 (NZ ha hb I h fun v u s2 x y H2 I2 rx ry q=>ho pins s2 σ H2 x y v u Q I2 rx ry q) hm
def Mo (t:TE):TT:=fun σ H Q=>t σ H fun x H'=> ∃k,x=.bl k∧Q k H'
theorem aE {op:CmpOp}{r:R2}(ho:OpR X (compareOp op) r) (ha:PE X a ta) (hb:PE X b tb) (hm:behindInMarks op b=false):PT X (.Compare a [op] [b] pos) (Mo (tOp r ta tb)):=by
 intro pins s σ H Q I h
 refine wpAny_isTrue_Compare1 (thn (ha pins s σ H _ I h) fun v s1 ⟨x,H1,I1,r1,q1⟩=>thn (hb pins s1 σ H1 _ I1 q1) fun u s2 ⟨y,H2,I2,r2,q2⟩=>
  thn (ho pins s2 σ H2 x y v u _ I2 r1 r2 q2) fun c s3 ⟨z,H3,I3,r3,k,e,q3⟩=> ?_) hm
 subst e
 cases r3
 exact wpAny_truthy_bool ⟨H3,I3,q3⟩
def IU (r r':R2) (ta tb tc:TE):TE:=fun σ H Q=>ta σ H fun x H1=>tb σ H1 fun y H2=>r x y H2 fun z H3=> ∃k,z=.bl k∧
 (if k=true then tc σ H3 fun w' H4=>r' y w' H4 Q else Q (.bl false) H3)
theorem Ek {op op':CmpOp}{r r':R2}(ho:OpR X (compareOp op) r) (ho':OpR X (compareOp op') r') (ha:PE X a ta) (hb:PE X b tb) (hc:PE X c tc)
  (hm:lastMarks [op,op'] [b,c]=false:=by with_unfolding_all rfl):PE X (.Compare a [op,op'] [b,c] pos) (IU r r' ta tb tc):=by
 intro pins s σ H Q I h
 refine Compare_chain (thn (ha pins s σ H _ I h) fun v s1 ⟨x,H1,I1,r1,q1⟩=>chain_link (thn (hb pins s1 σ H1 _ I1 q1) fun u s2 ⟨y,H2,I2,r2,q2⟩=>
  thn (ho pins s2 σ H2 x y v u _ I2 r1 r2 q2) fun d s3 ⟨z,H3,I3,r3,k,e,q3⟩=> ?_)) hm
 subst e
 cases r3
 refine wpAny_truthy_bool ?_
 cases k with
 |false=>exact ite_ff ⟨.bl false,H3,I3,rfl,q3⟩
 |true=>exact ite_tt (chain_last (thn (hc pins s3 σ H3 _ I3 q3) fun w' s4 ⟨z',H4,I4,r4,q4⟩=>ho' pins s4 σ H4 y z' u w' Q I4 r2 r4 q4))
theorem Eg {op op':CmpOp}{r r':R2}(ho:OpR X (compareOp op) r) (ho':OpR X (compareOp op') r') (ha:PE X a ta) (hb:PE X b tb) (hc:PE X c tc)
  (hm:lastMarks [op,op'] [b,c]=false:=by with_unfolding_all rfl):PT X (.Compare a [op,op'] [b,c] pos) (Mo (IU r r' ta tb tc)):=by
 intro pins s σ H Q I h
 refine isTrue_chain (thn (ha pins s σ H _ I h) fun v s1 ⟨x,H1,I1,r1,q1⟩=>test_link (thn (hb pins s1 σ H1 _ I1 q1) fun u s2 ⟨y,H2,I2,r2,q2⟩=>
  thn (ho pins s2 σ H2 x y v u _ I2 r1 r2 q2) fun d s3 ⟨z,H3,I3,r3,k,e,q3⟩=> ?_)) hm
 subst e
 cases r3
 refine wpAny_truthy_bool ?_
 cases k with
 |false=>
  obtain⟨k',e',q'⟩:=q3
  cases e'
  exact ite_ff ⟨H3,I3,q'⟩
 |true=>
  refine ite_tt (test_last (thn (hc pins s3 σ H3 _ I3 q3) fun w' s4 ⟨z',H4,I4,r4,q4⟩=>thn (ho' pins s4 σ H4 y z' u w' _ I4 r2 r4 q4) fun d' s5 ⟨z2,H5,I5,r5,k2,e2,q5⟩=> ?_))
  subst e2
  cases r5
  exact wpAny_truthy_bool ⟨H5,I5,q5⟩
def Oc (K:PySem.W.Frag) (x:V) (H:Hp) (k:Bool):Prop:=
 match x with
 | .non=>k=false
 | .bl b=>k=b
 | .int i=>k=(i !=0)
 | .str y=>y.length≤sizeLine∧k=((y.length:Int) !=0)
 | .byt y=>y.size≤sizeLine∧k=((y.size:Int) !=0)
 | .ref p=>(∃xs,SqL K H p xs∧k=!xs.isEmpty)∨(∃xs,SqT K H p xs∧k=!xs.isEmpty)∨ ∃kvs,H p=some (.dK kvs)∧k=!kvs.isEmpty
 |_=>False
theorem FU {κ:Type}{kvs:List (κ×V)}{vs:List (κ×Value)}(r:KV kvs vs):(!vs.isEmpty)=!kvs.isEmpty:=by
 cases r<;>rfl
theorem zd {xs:List V}{its:List Value}(r:a8 xs its):(!its.toArray.isEmpty)=!xs.isEmpty:=by
 cases r<;>simp
theorem vj:(sizeLine:Nat)<2^63:=by rw[sizeLine_eq];decide
theorem MI:PY X (fun x H Q=> ∃k,Oc X.K x H k∧Q k H):=by
 intro pins s σ H x v Q I rx h
 obtain⟨k,e,q⟩:=h
 have hl:=vj
 have hs:sizeLine=16777216:=sizeLine_eq
 cases x with
 |non=>
  cases rx
  have e':k=false:=e
  subst e'
  exact truthy_none ⟨H,I,q⟩
 |bl b=>
  cases rx
  have e':k=b:=e
  subst e'
  exact wpAny_truthy_bool ⟨H,I,q⟩
 |int i=>
  obtain⟨t,rfl⟩:=rx
  have e':k=(i !=0):=e
  subst e'
  exact PySem.P.truthy_int ⟨H,I,q⟩
 |str y=>
  obtain⟨t,rfl⟩:=rx
  obtain⟨hy,e'⟩:y.length≤sizeLine∧k=((y.length:Int) !=0):=e
  subst e'
  exact PySem.P.truthy_str (by omega) ⟨H,I.tok _,q⟩
 |byt y=>
  obtain⟨t,rfl⟩:=rx
  obtain⟨hy,e'⟩:y.size≤sizeLine∧k=((y.size:Int) !=0):=e
  subst e'
  exact PySem.W.truthy_bytes (by omega) ⟨H,I.tok _,q⟩
 |ref p=>
  cases rx
  have e':(∃xs,SqL X.K H p xs∧k=!xs.isEmpty)∨(∃xs,SqT X.K H p xs∧k=!xs.isEmpty)∨ ∃kvs,H p=some (.dK kvs)∧k=!kvs.isEmpty:=e
  rcases e' with⟨xs,hx,e'⟩ |⟨xs,hx,e'⟩ |⟨kvs,hx,e'⟩
  ·subst e'
   obtain⟨its,r,pl,hz⟩:=I.list hx
   have hlen:=r.length
   exact wpAny_truthy_list pl.isList (by simp only[List.size_toArray];omega) ⟨H,I.tok _,by rw[zd r];exact q⟩
  ·subst e'
   obtain⟨its,r,pl,hz⟩:=I.tuple hx
   have hlen:=r.length
   exact truthy_tuple pl (by simp only[List.size_toArray];omega) ⟨H,I.tok _,by rw[zd r];exact q⟩
  ·subst e'
   obtain⟨hz,hS,vs,r,m⟩:kvs.length≤sizeLine∧(p==sysModules)=false∧ ∃vs,KV kvs vs∧s.heap.DictOf (aT X.prog X.w) p vs:=I.hok p _ hx
   have hlen:kvs.length=vs.length:=Paired.length r
   exact wpAny_truthy_dict hS m (by omega) ⟨H,I.tok _,by rw[FU r];exact q⟩
 |_=>exact(show False from e).elim
theorem Jx (ha:PE X a ta) (he: ∀whole,isTrue a X.env whole=(do let v ←whole;standAt a.pos;holding [v] (truthy v))):
  PT X a (fun σ H Q=>ta σ H fun x H'=> ∃k,Oc X.K x H' k∧Q k H'):=by
 intro pins s σ H Q I h
 exact isTrue_plain (thn (ha pins s σ H _ I h) fun v s1 ⟨x,H1,I1,r1,q1⟩=>MI pins s1 σ H1 x v Q I1 r1 q1) (he _)
theorem yH:OpR X (binaryOp .Add) (fun x y H Q=> ∃i j,x=.str i∧y=.str j∧i.length+j.length≤sizeLine∧Q (.str (i++j)) H):=by
 intro pins s σ H x y v u Q I rx ry h
 obtain⟨i,j,rfl,rfl,hz,q⟩:=h
 obtain⟨t,rfl⟩:=rx
 obtain⟨t',rfl⟩:=ry
 exact add_str (fun t' tk=>⟨.str (i++j),H,I.tok _,⟨_,rfl⟩,q⟩) hz
theorem o7 {x:V}{us:List Value}(r:a8 [x] us): ∃u,us=[u]∧aZ x u:=by
 cases r with
 |cons r1 r2=>cases r2;exact⟨_,rfl,r1⟩
theorem DN {x y:V}{us:List Value}(r:a8 [x,y] us): ∃u w',us=[u,w']∧aZ x u∧aZ y w':=by
 cases r with
 |cons r1 r2=>
  cases r2 with
  |cons r3 r4=>cases r4;exact⟨_,_,rfl,r1,r3⟩
theorem Ih (hc:X.calm=true):cQ X (.builtin "max") (fun xs H Q=> ∃i j,xs=[.int i,.int j]∧Q (.int (if j>i then j else i)) H):=by
 intro pins s σ H xs us Q I r h
 obtain⟨i,j,rfl,q⟩:=h
 obtain⟨u,w',rfl,⟨t,rfl⟩,⟨t',rfl⟩⟩:=DN r
 refine max_two_ints (I.ok.hd hc) fun h' tk k=>⟨_,H,I.kept k,?_,q⟩
 by_cases hj:j>i
 ·rw[if_pos hj,if_pos hj];exact⟨_,rfl⟩
 ·rw[if_neg hj,if_neg hj];exact⟨_,rfl⟩
theorem BN (hc:X.calm=true):cQ X (.builtin "min") (fun xs H Q=> ∃i j,xs=[.int i,.int j]∧Q (.int (if j<i then j else i)) H):=by
 intro pins s σ H xs us Q I r h
 obtain⟨i,j,rfl,q⟩:=h
 obtain⟨u,w',rfl,⟨t,rfl⟩,⟨t',rfl⟩⟩:=DN r
 refine min_two_ints (I.ok.hd hc) fun h' tk k=>⟨_,H,I.kept k,?_,q⟩
 by_cases hj:j<i
 ·rw[if_pos hj,if_pos hj];exact⟨_,rfl⟩
 ·rw[if_neg hj,if_neg hj];exact⟨_,rfl⟩
def Po (K:PySem.W.Frag) (x:V) (H:Hp) (n:Nat):Prop:=
 match x with
 | .str y=>y.length≤sizeLine∧n=y.length
 | .byt y=>y.size≤sizeLine∧n=y.size
 | .ref p=>(∃xs,SqL K H p xs∧n=xs.length)∨ ∃xs,SqT K H p xs∧n=xs.length
 |_=>False
theorem Kz:cQ X (.builtin "len") (fun xs H Q=> ∃x n,xs=[x]∧Po X.K x H n∧Q (.int n) H):=by
 intro pins s σ H xs us Q I r h
 obtain⟨x,n,rfl,e,q⟩:=h
 obtain⟨u,rfl,rx⟩:=o7 r
 have hl:=vj
 have hs:sizeLine=16777216:=sizeLine_eq
 cases x with
 |str y=>
  obtain⟨t,rfl⟩:=rx
  obtain⟨hy,e'⟩:y.length≤sizeLine∧n=y.length:=e
  subst e'
  exact len_str (by omega) ⟨.int _,H,I.tok _,⟨_,rfl⟩,q⟩
 |byt y=>
  obtain⟨t,rfl⟩:=rx
  obtain⟨hy,e'⟩:y.size≤sizeLine∧n=y.size:=e
  subst e'
  exact PySem.W.len_bytes (by omega) ⟨.int _,H,I.tok _,⟨_,rfl⟩,q⟩
 |ref p=>
  cases rx
  have e':(∃xs,SqL X.K H p xs∧n=xs.length)∨ ∃xs,SqT X.K H p xs∧n=xs.length:=e
  rcases e' with⟨xs,hx,e'⟩ |⟨xs,hx,e'⟩
  ·subst e'
   obtain⟨its,r',pl,hz⟩:=I.list hx
   have hlen:=r'.length
   exact Calls.call_len_list pl.isList (by simp only[List.size_toArray];omega) ⟨.int xs.length,H,I.tok _,⟨_,by simp only[List.size_toArray];rw[hlen]⟩,q⟩
  ·subst e'
   obtain⟨its,r',pl,hz⟩:=I.tuple hx
   have hlen:=r'.length
   exact len_tuple pl (by simp only[List.size_toArray];omega) ⟨.int xs.length,H,I.tok _,⟨_,by simp only[List.size_toArray];rw[hlen]⟩,q⟩
 |_=>exact(show False from e).elim
end
end L2
namespace L2
open PySem PySem.Spec PyProof.Rows
structure Gi (h:Heap) (x dx C:Addr) (mA:Str→Option Value):Prop where
 obj:h.get? x=some (PySem.W.instObj C dx)
 ns:h.Ns1 dx mA
 ne:dx≠x
theorem HE {h:Heap}{dx:Addr}{mA:Str→Option Value}(n:h.Ns1 dx mA): ∃od,h.get? dx=some od∧ ∀name,PySem.W.lookIn name od=some (mA name):=by
 obtain⟨o,es,ep,ho,hd,hk,_,hm⟩:=n
 refine⟨o,ho,fun name=> ?_⟩
 have e:=hm name
 unfold nsFind findBy at e
 rw[←Array.find?_toList] at e
 unfold PySem.W.lookIn
 rw[hd]
 dsimp only
 split
 ·rename_i y q
  rw[q] at e
  exact congrArg some e
 ·rename_i q
  rw[q] at e
  have a:es.toList.any (·.refKey)=false:=by
   rw[List.any_eq_false]
   intro y hy
   obtain⟨z,t,hkey⟩:=hk y (Array.mem_toList_iff.mp hy)
   simp[DictEntry.refKey,hkey]
  have a': ¬es.toList.any (·.refKey)=true:=by rw[a];exact Bool.false_ne_true
  rw[if_neg a']
  exact congrArg some e
theorem Gi.look {h:Heap}{x dx C:Addr}{mA:Str→Option Value}(I:Gi h x dx C mA): ∃od,PySem.W.InstAt h x (PySem.W.instObj C dx) C (some od)∧ ∀name,PySem.W.lookIn name od=some (mA name):=
 let⟨od,ho,hl⟩:=HE I.ns
 ⟨od,⟨I.obj,rfl,rfl,ho⟩,hl⟩
section
variable {prog:Program}{w:World}{A:Around}{E:Value→Shared→Prop}{s:Shared}{K:PySem.W.Frag}{x dx C f:Addr}{mA:Str→Option Value}{name:Str}{v:Value}
theorem L5 {expr:Bool}{Q:Value→Shared→Prop}(X:K.In s.heap) (I:Gi s.heap x dx C mA) (hg:PySem.W.plainGet K C name=true) (hh:PySem.W.hasDictIn K C=true)
  (ha:PySem.W.findIn K (.ref C) name=some none) (hv:mA name=some v) (hv':PySem.W.handedIn v=true) (h:Q v {s with toks:=s.toks+1}):
  wpAny (model prog w) A (getAttr (.ref x) name expr) Q E s:=by
 obtain⟨od,J,hl⟩:=I.look
 exact PySem.W.get_value X J (PySem.W.plainGet_of hg).1 (PySem.W.findObj_own hh ha rfl (by rw[hl,hv])) hv' h
theorem Kc {pl:Sem Bool}{Q:Value×List Value→Shared→Prop}(X:K.In s.heap) (I:Gi s.heap x dx C mA) (hg:PySem.W.plainGet K C name=true)
  (hf:PySem.W.findIn K (.ref C) name=some (some (.ref f))) (ht:PySem.W.isFn K (.ref f)=true) (hv:mA name=none) (h:Q (.ref f,[.ref x]) s):
  wpAny (model prog w) A (getMethod (.ref x) name pl) Q E s:=by
 obtain⟨od,J,hl⟩:=I.look
 exact PySem.W.method_fn X J (PySem.W.plainGet_of hg).1 (PySem.W.plainGet_of hg).2 hf (beq_iff_eq.mp ht) (by show(PySem.W.lookIn name od).map (·.isSome)=some false;rw[hl,hv];rfl) h
theorem Lx {ns:List Str}{Q:Unit→Shared→Prop}(X:K.In s.heap) (I:Gi s.heap x dx C mA)
  (hs:PySem.W.findIn K (.ref C) "__setattr__"=some (some (.builtin "object.__setattr__"))) (hp:PySem.W.plainOver K C=true) (ht:PySem.W.takerIn K C name=some none) (hh:PySem.W.hasDictIn K C=true)
  (hw:PySem.Within mA ns) (hsz:ns.length≤sizeLine)
  (h: ∀h',Gi h' x dx C (fun y=>if y=name then some v else mA y)→Heap.SameBut dx s.heap h'→Q () {s with heap:=h',toks:=s.toks+2}):
  wpAny (model prog w) A (setAttr (.ref x) name v) Q E s:=by
 obtain⟨od,J,hl⟩:=I.look
 refine PySem.W.set_plain X J hs (PySem.W.osa_open (s:={s with toks:=s.toks+1}) (r:=none) X J hp ht fun b=> ?_)
 obtain⟨cd,hc,hd'⟩:=PySem.W.any_some hh
 have hx:s.heap.get? x=some ⟨.ref C,some dx,.plain,#[]⟩:=I.obj
 refine wpAny_bind (wpAny_pure (wpAny_bind (wpAny_bind (wpAny_loadPart hx (wpAny_bind (PySem.W.Looks.here (s:={s with toks:=s.toks+1}) (PySem.W.looks_clsIn X hc) ?_))))))
 rw[hd']
 refine wpAny_pure (a:=some dx) (wpAny_bind (wpAny_pure (wpAny_bind ?_)))
 refine wpAny_nsSet1 (s:={s with toks:=s.toks+1}) I.ns fun h' hn2 hs2=> ?_
 obtain⟨oD,esD,epD,hoD,hdD,hcD⟩:=hn2.count (PySem.Within.cons name v hw)
 refine wpAny_bind (wpAny_lookBehind hoD (by rw[hdD];exact pastItsLine_dict (Nat.le_trans hcD (by rw[List.length_cons];omega))) ?_)
 exact wpAny_pure (h _ ⟨(hs2.2 _ (Ne.symm I.ne)).trans I.obj,hn2,I.ne⟩ hs2)
theorem JW {R:Result→Shared→Prop}{vs:List Value}{kw:List (Str×Value)}(X:K.In s.heap) (hm:PySem.W.makesIn K C=true)
  (hi:PySem.W.findIn K (.ref C) "__init__"=some (some (.ref f))) (hf:PySem.W.typeIn K (.ref f)=some (.type "function"))
  (h:codeAny (model prog w) (A.under (.builtin "type.__call__" ⟨.ref C::vs,kw⟩)) (.call (.ref f) ⟨.ref (s.heap.objs.size+1)::vs,kw⟩) (PySem.W.InitBack (s.heap.objs.size+1) R)
   {s with heap:=(s.heap.push PySem.W.emptyDict).push (PySem.W.instObj C s.heap.objs.size)}):
  codeAny (model prog w) A (.call (.ref C) ⟨vs,kw⟩) R s:=by
 obtain⟨hh,g,d,t,os⟩:=s
 exact PySem.W.make_core (PySem.W.makes_of X hm) (PySem.W.looks_findIn X hi) (fun self=>PySem.W.bind_fn X self hf) (.inl rfl) h
end
def dz (f:Str) (v:V):List (Str×V)→List (Str×V)
 | []=> [(f,v)]
 |(g,x)::r=>if g=f then(g,v)::r else(g,x)::dz f v r
theorem wp (f g:Str) (v:V): ∀fs:List (Str×V),(dz f v fs).lookup g=if g=f then some v else fs.lookup g
 | []=>by
  show List.lookup g [(f,v)]=_
  by_cases h:g=f
  ·have hb:(g==f)=true:=beq_iff_eq.mpr h
   simp only[List.lookup,hb,if_pos h]
  ·have hb:(g==f)=false:=beq_eq_false_iff_ne.mpr h
   simp only[List.lookup,hb,if_neg h]
 |(k,x)::r=>by
  have ih:=wp f g v r
  rw[show dz f v ((k,x)::r)=(if k=f then(k,v)::r else(k,x)::dz f v r) from rfl]
  by_cases hk:k=f
  ·rw[if_pos hk]
   by_cases h:g=k
   ·have hb:(g==k)=true:=beq_iff_eq.mpr h
    simp only[List.lookup,hb,if_pos (h.trans hk)]
   ·have hb:(g==k)=false:=beq_eq_false_iff_ne.mpr h
    simp only[List.lookup,hb,if_neg (fun e:g=f=>h (e.trans hk.symm))]
  ·rw[if_neg hk]
   by_cases h:g=k
   ·have hb:(g==k)=true:=beq_iff_eq.mpr h
    simp only[List.lookup,hb,if_neg (fun e:g=f=>hk (h.symm.trans e))]
   ·have hb:(g==k)=false:=beq_eq_false_iff_ne.mpr h
    simp only[List.lookup,hb]
    exact ih
theorem vz (f:Str) (v:V): ∀fs:List (Str×V),f∈(dz f v fs).map (·.1)∧ ∀g,g∈fs.map (·.1)→g∈(dz f v fs).map (·.1)
 | []=>⟨by simp[dz],fun g h=>by simp at h⟩
 |(k,x)::r=>by
  obtain⟨i1,i2⟩:=vz f v r
  rw[show dz f v ((k,x)::r)=(if k=f then(k,v)::r else(k,x)::dz f v r) from rfl]
  by_cases hk:k=f
  ·rw[if_pos hk]
   subst hk
   exact⟨by simp,fun g h=>by simpa using h⟩
  ·rw[if_neg hk]
   refine⟨?_,fun g h=> ?_⟩
   ·rw[List.map_cons]
    exact List.mem_cons_of_mem _ i1
   ·rw[List.map_cons] at h⊢
    rcases List.mem_cons.mp h with e |e
    ·exact List.mem_cons.mpr (.inl e)
    ·exact List.mem_cons_of_mem _ (i2 g e)
theorem wq (f:Str) (v:V): ∀fs:List (Str×V),(dz f v fs).length≤fs.length+1
 | []=>by simp[dz]
 |(k,x)::r=>by
  have ih:=wq f v r
  rw[show dz f v ((k,x)::r)=(if k=f then(k,v)::r else(k,x)::dz f v r) from rfl]
  by_cases hk:k=f
  ·rw[if_pos hk,List.length_cons,List.length_cons];omega
  ·rw[if_neg hk,List.length_cons,List.length_cons];omega
theorem mh.some_of {v:V}{o:Option Value}(r:mh (some v) o): ∃u,o=some u∧aZ v u:=by
 cases o with
 |none=>exact(show False from r).elim
 |some u=>exact⟨u,rfl,r⟩
theorem mh.none_of {o:Option Value}(r:mh none o):o=none:=by
 cases o with
 |none=>rfl
 |some u=>exact(show False from r).elim
theorem HN {v:V}{u:Value}(r:aZ v u):PySem.W.handedIn u=true:=by
 cases v with
 |non=>cases (show u=Value.none from r);rfl
 |bl b=>cases (show u=Value.bool b from r);rfl
 |int i=>obtain⟨t,e⟩:=(show∃t,u=Value.int i t from r);cases e;rfl
 |str x=>obtain⟨t,e⟩:=(show∃t,u=Value.str x t from r);cases e;rfl
 |byt b=>obtain⟨t,e⟩:=(show∃t,u=Value.bytes b t from r);cases e;rfl
 |flt b=>obtain⟨t,e⟩:=(show∃t,u=Value.float b t from r);cases e;rfl
 |ref a=>cases (show u=Value.ref a from r);rfl
 |ty n=>cases (show u=Value.type n from r);rfl
section
variable {P:Program}{w:World}{H H':Hp}{h h':Heap}{a C dx:Addr}{fs fs':List (Str×V)}
theorem xm (hok:HOk P w H h) (e:H a=some (.ins C dx fs)): ∃mA,Gi h a dx C mA∧(∀f,mh (fs.lookup f) (mA f))∧PySem.Within mA (fs.map (·.1))∧fs.length≤1000∧H dx=some (.own a):=by
 obtain⟨d,z,ne,ob,mA,n,r,q⟩:=(show cp P w H h a (.ins C dx fs) from hok a _ e)
 exact⟨mA,⟨ob,n,ne⟩,r,q,z,d⟩
end
structure Cls (K:PySem.W.Frag) (C:Addr):Prop where
 pg:PySem.W.plainGet K C Str.empty=true
 hd:PySem.W.hasDictIn K C=true
 po:PySem.W.plainOver K C=true
 sa:PySem.W.findIn K (.ref C) "__setattr__"=some (some (.builtin "object.__setattr__"))
theorem Cls.get {K:PySem.W.Frag}{C:Addr}(c:Cls K C) (f:Str):PySem.W.plainGet K C f=true:=c.pg
def bX (K:PySem.W.Frag) (C:Addr) (f:Str):Prop:=PySem.W.findIn K (.ref C) f=some none
theorem bX.taker {K:PySem.W.Frag}{C:Addr}{f:Str}(n:bX K C f):PySem.W.takerIn K C f=some none:=by
 unfold PySem.W.takerIn
 rw[show PySem.W.findIn K (.ref C) f=some none from n]
 rfl
structure iY (K:PySem.W.Frag) (C:Addr) (m:Str) (f:Addr):Prop where
 at_:PySem.W.findIn K (.ref C) m=some (some (.ref f))
 fn:PySem.W.isFn K (.ref f)=true
 kp:PySem.W.keepIn K (.ref f)=true
section
variable {X:Cx}{pins:List (Addr×Obj)}{σ:St}{H:Hp}{s:Shared}{a C dx:Addr}{fs:List (Str×V)}{f:Str}{v:V}{A:Around}{E:Value→Shared→Prop}
theorem FY {b:Bool}{Q:Value→Shared→Prop}(I:Inv X pins σ H s) (e:H a=some (.ins C dx fs)) (c:Cls X.K C) (n:bX X.K C f) (l:fs.lookup f=some v)
  (h: ∀u s',Inv X pins σ H s'→aZ v u→Q u s'):wpAny (model X.prog X.w) A (getAttr (.ref a) f b) Q E s:=by
 obtain⟨mA,O,r,_,_,_⟩:=xm I.hok e
 obtain⟨u,hu,ru⟩:=mh.some_of (v:=v) (o:=mA f) (by rw[←l];exact r f)
 exact L5 I.kIn O (c.get f) c.hd n hu (HN ru) (h u _ (I.tok _) ru)
theorem sj {m:Str}{g:Addr}{pl:Sem Bool}{Q:Value×List Value→Shared→Prop}(I:Inv X pins σ H s) (e:H a=some (.ins C dx fs)) (c:Cls X.K C) (k:iY X.K C m g) (l:fs.lookup m=none)
  (h:Q (.ref g,[.ref a]) s):wpAny (model X.prog X.w) A (getMethod (.ref a) m pl) Q E s:=by
 obtain⟨mA,O,r,_,_,_⟩:=xm I.hok e
 have hn:mA m=none:=mh.none_of (by rw[←l];exact r m)
 exact Kc I.kIn O (c.get m) k.at_ k.fn hn h
theorem Fk {y:V}{u:Value}{Q:Unit→Shared→Prop}(I:Inv X pins σ H s) (e:H a=some (.ins C dx fs)) (c:Cls X.K C) (n:bX X.K C f) (hl:fs.length<1000) (ry:aZ y u)
  (h: ∀s',Inv X pins σ (upd H a (.ins C dx (dz f y fs))) s'→Q () s'):wpAny (model X.prog X.w) A (setAttr (.ref a) f u) Q E s:=by
 obtain⟨mA,O,r,wi,_,ho⟩:=xm I.hok e
 have hz:(fs.map (·.1)).length≤sizeLine:=by rw[List.length_map,sizeLine_eq];omega
 refine Lx I.kIn O c.sa c.po n.taker c.hd wi hz fun h' O' sb=>h _ ?_
 have hd: ∃o,h'.get? dx=some o:=let⟨o,_,_,e',_⟩:=O'.ns;⟨o,e'⟩
 refine I.write (x:=a) (e:=dx) (by rw[e];exact True.intro) (.inr ho) (fun b q hb z=>(sb.2 b hb).trans z) hd ?_
 refine⟨by rw[aj O.ne];exact ho,?_,O.ne,O'.obj,_,O'.ns,fun g=> ?_,fun g hg=> ?_⟩
 ·have:=wq f y fs;omega
 ·show mh ((dz f y fs).lookup g) (if g=f then some u else mA g)
  rw[wp]
  by_cases q:g=f
  ·rw[if_pos q,if_pos q];exact ry
  ·rw[if_neg q,if_neg q];exact r g
 ·by_cases q:g=f
  ·rw[q];exact(vz f y fs).1
  ·refine(vz f y fs).2 g (wi g fun z=>hg ?_)
   show(if g=f then some u else mA g)=none
   rw[if_neg q];exact z
theorem Inv.made (I:Inv X pins σ H s):Inv X pins σ (upd (upd H s.heap.objs.size (.own (s.heap.objs.size+1))) (s.heap.objs.size+1) (.ins C s.heap.objs.size []))
  {s with heap:=(s.heap.push PySem.W.emptyDict).push (PySem.W.instObj C s.heap.objs.size)}:=by
 have e1:(s.heap.push PySem.W.emptyDict).get? s.heap.objs.size=some PySem.W.emptyDict:=Heap.get?_push_size s.heap rfl
 have e2:((s.heap.push PySem.W.emptyDict).push (PySem.W.instObj C s.heap.objs.size)).get? (s.heap.objs.size+1)=some (PySem.W.instObj C s.heap.objs.size):=by
  have:=Heap.get?_push_size (s.heap.push PySem.W.emptyDict) (o:=PySem.W.instObj C s.heap.objs.size) rfl
  rwa [Heap.size_push] at this
 have e3:(s.heap.push PySem.W.emptyDict).Ns s.heap.objs.size (fun _=>none):=⟨PySem.W.emptyDict,#[],_,e1,rfl,(fun e he=>absurd he (by simp)),fun _=>rfl⟩
 have I1:=I.laid (a:=s.heap.objs.size) (o:=.own (s.heap.objs.size+1)) (h':=s.heap.push PySem.W.emptyDict) (t':=s.toks) (fun b u q=>Heap.get?_push_of_some _ q) (Nat.le_refl _) ⟨_,e1⟩
 refine I1.laid (a:=s.heap.objs.size+1) (o:=.ins C s.heap.objs.size []) (t':=s.toks) (fun b u q=>Heap.get?_push_of_some _ q) (Nat.le_of_eq (Heap.size_push _ _)) ?_
 have ne:s.heap.objs.size≠s.heap.objs.size+1:=Nat.ne_of_lt (Nat.lt_succ_self _)
 refine⟨by rw[aj ne,ae],Nat.zero_le _,ne,e2,fun _=>none,(Heap.Ns1.of_empty e3).at fun o q=>Heap.get?_push_of_some _ q,fun _=>True.intro,fun y hy=>absurd rfl hy⟩
theorem Md {prog:Program}{w:World}{env:Env}{e:Expr}{f:Str}{pos:Pos}{s:Shared}{Q:Value→Shared→Prop}(hb:attributeBase e f env (eval e env)=eval e env)
  (h:wpAny (model prog w) A (eval e env) (fun o s₁=>wpAny (model prog w) A (getAttr o f true) Q E s₁) E s):wpAny (model prog w) A (eval (.Attribute e f pos) env) Q E s:=
 Attribute_any_ h (by rw[arm_eval_Attribute,hb])
end
def OB (K:PySem.W.Frag) (ta:TE) (f:Str):TE:=fun σ H Q=>ta σ H fun x H1=> ∃a C dx fs v,x=.ref a∧H1 a=some (.ins C dx fs)∧Cls K C∧bX K C f∧fs.lookup f=some v∧Q v H1
def OK (K:PySem.W.Frag) (ta tv:TE) (f:Str):TS:=fun D σ H=>tv σ H fun y H1=>ta σ H1 fun x H2=> ∃a C dx fs,x=.ref a∧H2 a=some (.ins C dx fs)∧Cls K C∧bX K C f∧fs.length<1000∧
 D.nx σ (upd H2 a (.ins C dx (dz f y fs)))
section
variable {X:Cx}{o e value:Expr}{f:Str}{pos pos' tpos:Pos}{ta tv:TE}
theorem Nm (he:PE X e ta) (hb:attributeBase e f X.env (eval e X.env)=eval e X.env):PE X (.Attribute e f pos) (OB X.K ta f):=by
 intro pins s σ H Q I h
 refine Md hb (thn (he pins s σ H _ I h) fun u s1 ⟨x,H1,I1,rx,a,C,dx,fs,v,ex,ea,c,n,l,q⟩=> ?_)
 subst ex
 obtain rfl:u=Value.ref a:=rx
 exact FY I1 ea c n l fun u' s2 I2 ru=>⟨v,H1,I2,ru,q⟩
theorem Nd (ha:PE X o ta) (hv:PE X value tv) (hs:swapsWith value (some (.Attribute o f pos')) pos.line X.env=pure false):PS X (.Assign [.Attribute o f pos'] value pos) (OK X.K ta tv f):=by
 intro pins s σ H D I h
 refine plainObj_wpAny_Assign_Attribute (thn (hv pins s σ H _ I h) fun u s1 ⟨y,H1,I1,ry,q⟩=>thn (ha pins s1 σ H1 _ I1 q) fun ov s2 ⟨x,H2,I2,rx,a,C,dx,fs,ex,ea,c,n,l,q2⟩=> ?_) hs
 subst ex
 obtain rfl:ov=Value.ref a:=rx
 exact Fk I2 ea c n l ry fun s3 I3=>⟨σ,_,I3,q2⟩
end
section
variable {X:Cx}{pins:List (Addr×Obj)}{σ:St}{H:Hp}{s:Shared}{A:Around}{E:Value→Shared→Prop}{Q:Value→Shared→Prop}{c:Value}{b:Bool}
inductive qB (K:PySem.W.Frag) (H:Hp):V→Value→Prop where
 |non:qB K H .non (.type "NoneType")
 |bl (x:Bool):qB K H (.bl x) (.type "bool")
 |int (i:Int):qB K H (.int i) (.type "int")
 |str (x:Str):qB K H (.str x) (.type "str")
 |flt (x:UInt64):qB K H (.flt x) (.type "float")
 |lst {a:Addr}{xs:List V}(e:H a=some (.lst xs)):qB K H (.ref a) (.type "list")
 |frz {a:Addr}{o:Obj}{xs:List V}(e:H a=some (.frz o (.lst xs))):qB K H (.ref a) (.type "list")
 |tup {a:Addr}{xs:List V}(e:H a=some (.tup xs)):qB K H (.ref a) (.type "tuple")
 |dK {a:Addr}{kvs:List (Key×V)}(e:H a=some (.dK kvs)):qB K H (.ref a) (.type "dict")
 |dT {a:Addr}{kvs:List (List Key×V)}(e:H a=some (.dT kvs)):qB K H (.ref a) (.type "dict")
 |ins {a C dx:Addr}{fs:List (Str×V)}(e:H a=some (.ins C dx fs)) (cl:Cls K C) (ha:PySem.W.findIn K (.ref C) "__class__"=some (some (.builtin "object.__class__")))
   (hn:PySem.W.specialIn K (.builtin "object.__class__") "__get__"=some (some (.builtin "getset_descriptor.__get__"))) (htk:PySem.W.takesIn K (.builtin "object.__class__")=some true)
   (hm:PySem.W.mroIn K C (.type "object")=some true):qB K H (.ref a) (.ref C)
theorem HK {x:V}{u t:Value}(I:Inv X pins σ H s) (rx:aZ x u) (ty:qB X.K H x t) (e:PySem.W.kitOne X.K t c=some b) (h: ∀tk,Q (.bool b) {s with toks:=tk}):
  wpAny (model X.prog X.w) A (call (.builtin "isinstance") [u,c]) Q E s:=by
 cases ty with
 |non=>cases (show u=Value.none from rx);exact PySem.W.kia_one PySem.W.kitx_none I.kIn True.intro e (fun z=>nomatch z) h
 |bl y=>cases (show u=Value.bool y from rx);exact PySem.W.kia_one PySem.W.kitx_bool I.kIn True.intro e (fun z=>nomatch z) h
 |int i=>obtain⟨t,q⟩:=(show∃t,u=Value.int i t from rx);cases q;exact PySem.W.kia_one PySem.W.kitx_int I.kIn True.intro e (fun z=>nomatch z) h
 |str y=>obtain⟨t,q⟩:=(show∃t,u=Value.str y t from rx);cases q;exact PySem.W.kia_one PySem.W.kitx_str I.kIn True.intro e (fun z=>nomatch z) h
 |flt y=>obtain⟨t,q⟩:=(show∃t,u=Value.float y t from rx);cases q;exact PySem.W.kia_one PySem.W.kitx_float I.kIn True.intro e (fun z=>nomatch z) h
 | @lst a xs ea=>
  cases (show u=Value.ref a from rx)
  obtain⟨_,_,n,_,h1⟩:=(show cp X.prog X.w H s.heap a (.lst xs) from I.hok a _ ea)
  exact PySem.W.kia_one PySem.W.kitx_list I.kIn ⟨_,h1,rfl⟩ e (fun z=>nomatch z) h
 | @frz a ob xs ea=>
  cases (show u=Value.ref a from rx)
  obtain⟨_,_,_,n,_,h1⟩:=(show cp X.prog X.w H s.heap a (.frz ob (.lst xs)) from I.hok a _ ea)
  exact PySem.W.kia_one PySem.W.kitx_list I.kIn ⟨_,h1,rfl⟩ e (fun z=>nomatch z) h
 | @tup a xs ea=>
  cases (show u=Value.ref a from rx)
  obtain⟨_,_,_,p⟩:=(show cp X.prog X.w H s.heap a (.tup xs) from I.hok a _ ea)
  obtain⟨o,h1,h2,_⟩:=p
  exact PySem.W.kia_one PySem.W.kitx_tuple I.kIn ⟨o,h1,h2⟩ e (fun z=>nomatch z) h
 | @dK a kvs ea=>
  cases (show u=Value.ref a from rx)
  obtain⟨_,_,vs,_,p⟩:=(show cp X.prog X.w H s.heap a (.dK kvs) from I.hok a _ ea)
  obtain⟨o,es,ep,h1,h2,_⟩:=p
  exact PySem.W.kia_one PySem.W.kitx_dict I.kIn ⟨o,h1,h2.1⟩ e (fun z=>nomatch z) h
 | @dT a kvs ea=>
  cases (show u=Value.ref a from rx)
  obtain⟨_,_,xs,_,o,es,ep,h1,h2,_⟩:=(show cp X.prog X.w H s.heap a (.dT kvs) from I.hok a _ ea)
  exact PySem.W.kia_one PySem.W.kitx_dict I.kIn ⟨o,h1,h2.1⟩ e (fun z=>nomatch z) h
 | @ins a C dx fs ea cl ha hn htk hm=>
  cases (show u=Value.ref a from rx)
  obtain⟨mA,O,_⟩:=xm I.hok ea
  obtain⟨od,J,_⟩:=O.look
  exact PySem.W.kia_one (PySem.W.kitx_own (cl.get _) cl.hd ha hn htk hm) I.kIn J e (fun z=>nomatch z) h
end
end L2
namespace L2
open PySem PySem.Spec PyProof.Rows
structure fj (k:Nat) (A:Around):Prop where
 hd:A.handled=none
 dp:A.depth+3*k+5<recursionLimit
 un:A.units+16*k+200<cLine
theorem fj.mono {j k:Nat}{A:Around}(r:fj k A) (h:j≤k):fj j A:=⟨r.hd,by have:=r.dp;omega,by have:=r.un;omega⟩
theorem fj.deeper {k:Nat}{A:Around}(r:fj (k+1) A) (env:Env):fj k (A.deeper env):=
 ⟨r.hd,by have:=r.dp;show A.depth+1+3*k+5<_;omega,by have:=r.un;show A.units+3+16*k+200<_;omega⟩
theorem FI {A:Around}{C:Addr}{us:List Value}{kw:List (Str×Value)}:(A.under (.builtin "type.__call__" ⟨.ref C::us,kw⟩)).depth=A.depth+1:=by
 first |rfl |simp[Around.under,Code.weight,Code.isCreation,Code.isGuard,Code.isCaller,Code.frames,Code.isFrame,guardIds]
theorem FH {A:Around}{C:Addr}{us:List Value}{kw:List (Str×Value)}:(A.under (.builtin "type.__call__" ⟨.ref C::us,kw⟩)).units=A.units+1:=by
 first |rfl |simp[Around.under,Code.cUnits,Code.frames,Code.isFrame]
theorem fj.make {k:Nat}{A:Around}(r:fj (k+1) A) (C:Addr) (us:List Value) (kw:List (Str×Value)):fj k (A.under (.builtin "type.__call__" ⟨.ref C::us,kw⟩)):=
 ⟨r.hd,by have:=r.dp;rw[FI];omega,by have:=r.un;rw[FH];omega⟩
theorem fj.depth {k:Nat}{A:Around}(r:fj k A):A.depth<recursionLimit:=by have:=r.dp;omega
theorem fj.units {k:Nat}{A:Around}(r:fj k A):A.units+64<cLine:=by have:=r.un;omega
def MN:TA:=fun _ H Q=>Q [] H
def IT (ta:TE) (tr:TA):TA:=fun σ H Q=>ta σ H fun x H1=>tr σ H1 fun xs H2=>Q (x::xs) H2
section
variable {X:Cx}{e:Expr}{es:List Expr}{te:TE}{t:TA}{pos:Pos}
theorem af:PA X [] MN:=fun _ _ _ _ H Q I h=>Calls.spliced_nil ⟨[],H,I,.nil,h⟩
theorem ad (ha:PE X e te) (hr:PA X es t) (hs:starEach (e::es) X.env=(false,eval e X.env)::starEach es X.env:=by rfl):PA X (e::es) (IT te t):=by
 intro pos pins s σ H Q I h
 rw[hs]
 show wpAny _ _ (spliced ((false,eval e X.env)::backTo pos (starEach es X.env))) _ _ s
 refine Calls.spliced_cons (thn (ha pins s σ H _ I h) fun u s1 ⟨x,H1,I1,r1,q1⟩=> ?_)
 exact thn (hr pos pins s1 σ H1 _ I1 q1) fun us s2 ⟨xs,H2,I2,r2,q2⟩=>⟨x::xs,H2,I2,.cons r1 r2,q2⟩
def Ot (t:TA):TE:=fun σ H Q=>t σ H fun xs H1=>xs.length≤sizeLine∧ ∀p,H1 p=none→Q (.ref p) (upd H1 p (.tup xs))
def Pu (t:TA):TE:=fun σ H Q=>t σ H fun xs H1=>xs.length≤sizeLine∧ ∀p,H1 p=none→Q (.ref p) (upd H1 p (.lst xs))
theorem cE {x1} (h:PA X es t):PE X (.Tuple es x1 pos) (Ot t):=by
 intro pins s σ H Q I hq
 refine wpAny_Tuple_spliced (thn (h pos pins s σ H _ I hq) fun us s1 ⟨xs,H1,I1,r,z,q⟩=>⟨by rw[←r.length];exact z,?_⟩)
 have hf:H1 s1.heap.objs.size=none:=I1.hok.fresh (Nat.le_refl _)
 refine⟨.ref s1.heap.objs.size,upd H1 s1.heap.objs.size (.tup xs),I1.laid (t':=s1.toks) (fun b u e=>Heap.get?_push_of_some _ e) (Nat.le_refl _) ?_,rfl,q _ hf⟩
 exact⟨z,us,r,⟨_,Heap.get?_push_size _ rfl,rfl,_,rfl⟩⟩
theorem b7 (h:PA X es t):PE X (.List es pos) (Pu t):=by
 intro pins s σ H Q I hq
 refine wpAny_List_spliced (thn (h pos pins s σ H _ I hq) fun us s1 ⟨xs,H1,I1,r,z,q⟩=>⟨by rw[←r.length];exact z,?_⟩)
 have hf:H1 s1.heap.objs.size=none:=I1.hok.fresh (Nat.le_refl _)
 refine⟨.ref s1.heap.objs.size,upd H1 s1.heap.objs.size (.lst xs),I1.laid (t':=s1.toks) (fun b u e=>Heap.get?_push_of_some _ e) (Nat.le_refl _) ?_,rfl,q _ hf⟩
 exact⟨z,us,0,r,Heap.get?_push_size _ rfl⟩
end
abbrev Sp:=List V→Hp→VK→XK→Prop
abbrev CXT:=List Env→Hp→Shared→XK→Value→Shared→Prop
structure Go (P:Program) (w:World) (K:PySem.W.Frag) (mg:Str→Option Value) (base:Heap) (A:Around) (outer:List Env) (s:Shared) (H:Hp):Prop where
 frames:A.frames=some outer
 mod:Mod K mg base
 bs: ∀b o,base.get? b=some o→s.heap.get? b=some o∧H b=none
 bsz:base.objs.size≤s.heap.objs.size
 funs:s.heap.FunFrames base outer
 frf: ∀b∈frs outer,H b=none
 hok:HOk P w H s.heap
 bare:AllBare s.gens
def CE (outer:List Env) (P:Program) (w:World) (H:Hp) (s:Shared) (Q:VK) (u:Value) (s':Shared):Prop:=
 ∃v H',s'.os=s.os∧AllBare s'.gens∧Un (frs outer) [] H H' s.heap s'.heap∧HOk P w H' s'.heap∧aZ v u∧Q v H'
def CR (CX:CXT) (outer:List Env) (P:Program) (w:World) (H:Hp) (s:Shared) (Q:VK) (E:XK) (r:Result) (s':Shared):Prop:=
 match r with
 | .ok (.ret u)=>CE outer P w H s Q u s'
 | .ok _=>False
 | .error e=>CX outer H s E e s'
structure bd (P:Program) (w:World) (K:PySem.W.Frag) (mg:Str→Option Value) (base:Heap) (CX:CXT) (k:Nat) (f:Addr) (fd:FuncData) (ps:List Str) (sp:Sp):Prop where
 len: ∀vs H Q E,sp vs H Q E→vs.length=ps.length
 run: ∀(A:Around) (outer:List Env) (s:Shared) (H:Hp) (args:Args) (us:List Value) (vs:List V) (Q:VK) (E:XK),fj k A→Go P w K mg base A outer s H→BindsTo s fd args (ps.zip us)→a8 vs us→sp vs H Q E→
  codeAny (model P w) A (.call (.ref f) args) (CR CX outer P w H s Q E) s
theorem bd.mono {P:Program}{w:World}{K:PySem.W.Frag}{mg:Str→Option Value}{base:Heap}{CX:CXT}{j k:Nat}{f:Addr}{fd:FuncData}{ps:List Str}{sp:Sp}(F:bd P w K mg base CX j f fd ps sp) (h:j≤k):
  bd P w K mg base CX k f fd ps sp:=⟨F.len,fun A outer s H args us vs Q E hr=>F.run A outer s H args us vs Q E (hr.mono h)⟩
theorem Go.make {P:Program}{w:World}{K:PySem.W.Frag}{mg:Str→Option Value}{base:Heap}{A:Around}{outer:List Env}{s:Shared}{H:Hp}(e:Go P w K mg base A outer s H) (C:Addr) (us:List Value) (kw:List (Str×Value)):
  Go P w K mg base (A.under (.builtin "type.__call__" ⟨.ref C::us,kw⟩)) outer s H:=⟨by first |exact e.frames |(simpa [Around.under,Code.envs,Code.isFrame,pushEnvs] using e.frames),e.mod,e.bs,e.bsz,e.funs,e.frf,e.hok,e.bare⟩
section
variable {X:Cx}{pins:List (Addr×Obj)}{σ:St}{H:Hp}{s s':Shared}
theorem Inv.env0 (I:Inv X pins σ H s):Go X.prog X.w X.K X.mg X.base X.A X.stack s H:=
 ⟨I.ok.frames,I.ok.mod,I.bs,Nat.le_trans I.ok.bsz I.sz,I.stack,I.stkFree,I.hok,I.bare⟩
theorem Inv.after {Q:VK}{u:Value}(I:Inv X pins σ H s) (h:CE X.stack X.prog X.w H s Q u s'):EP X pins σ Q u s':=by
 obtain⟨v,H',os,bare,un,hok,r,q⟩:=h
 obtain⟨hh,g,d,t,os'⟩:=s'
 obtain rfl:os'=s.os:=os
 exact⟨v,H',I.call (h':=hh) (g':=g) (d':=d) (t':=t) (ch:=[]) un hok bare (fun b z=>absurd z (by simp)),r,q⟩
end
def OE (sp:Sp) (dvs:List V) (E:XK) (t:TA):TE:=fun σ H Q=>t σ H fun vs H1=>sp (vs++dvs) H1 Q E
def IS (C:Addr) (m:Str) (sp:Sp) (dvs:List V) (E:XK) (ta:TE) (t:TA):TE:=fun σ H Q=>ta σ H fun x H1=> ∃a dx fs,x=.ref a∧H1 a=some (.ins C dx fs)∧fs.lookup m=none∧
 t σ H1 fun vs H2=>sp (x::(vs++dvs)) H2 Q E
def Oz (C:Addr) (sp:Sp) (dvs:List V) (E:XK) (t:TA):TE:=fun σ H Q=>t σ H fun vs H1=> ∀x dx,H1 x=none→H1 dx=none→dx≠x→
 sp (.ref x::(vs++dvs)) (upd (upd H1 dx (.own x)) x (.ins C dx [])) (fun v H2=>v=.non∧Q (.ref x) H2) E
def aN (K:PySem.W.Frag) (fd:FuncData) (ps:List Str) (ds:List Value):Prop:=
 ∀(s:Shared) (us:List Value),K.In s.heap→(us++ds).length=ps.length→BindsTo s fd ⟨us,[]⟩ (ps.zip (us++ds))
theorem aN.all {K:PySem.W.Frag}{fd:FuncData}{ps:List Str}(h: ∀us:List Value,us.length=ps.length→bindArgs fd ⟨us,[]⟩=pure (ps.zip us)):aN K fd ps []:=fun s us _ hl=>by
 rw[List.append_nil] at hl⊢
 exact .of_eq (h us hl)
def oT (CX:CXT) (X:Cx) (E:XK):Prop:= ∀(pins:List (Addr×Obj)) (σ:St) (H:Hp) (s:Shared) (e:Value) (s':Shared),Inv X pins σ H s→CX X.stack H s E e s'→X.xe e s'
section
variable {X:Cx}{CX:CXT}{k:Nat}{f C:Addr}{fd:FuncData}{ps:List Str}{sp:Sp}{dvs:List V}{ds:List Value}{E:XK}{x m:Str}{p pos apos:Pos}{e o:Expr}{es:List Expr}{ta:TE}{t:TA}
theorem Fo {pins:List (Addr×Obj)}{σ:St}{H:Hp}{s:Shared}{Q:VK}{us:List Value}{vs:List V}(F:bd X.prog X.w X.K X.mg X.base CX k f fd ps sp) (hr:fj k X.A) (hb:aN X.K fd ps ds) (hd:a8 dvs ds) (hx:oT CX X E)
  (I:Inv X pins σ H s) (r:a8 vs us) (h:sp (vs++dvs) H Q E):wpAny (model X.prog X.w) X.A (call (.ref f) us) (EP X pins σ Q) X.xe s:=by
 have r2:a8 (vs++dvs) (us++ds):=r.append hd
 have hl:(us++ds).length=ps.length:=by rw[←r2.length];exact F.len _ _ _ _ h
 refine wpAny_call (codeAny_mono (F.run X.A X.stack s H ⟨us,[]⟩ (us++ds) (vs++dvs) Q E hr I.env0 (hb s us I.kIn hl) r2 h) fun r s' hq=> ?_)
 cases r with
 |error e=>exact hx pins σ H s e s' I hq
 |ok fl=>
  cases fl with
  |ret u=>exact I.after hq
  |next=>exact False.elim hq
  |brk=>exact False.elim hq
  |cont=>exact False.elim hq
theorem av (F:bd X.prog X.w X.K X.mg X.base CX k f fd ps sp) (hr:fj k X.A) (hg:Gl X x) (hm:X.mg x=some (.ref f)) (hk:PySem.W.keepIn X.K (.ref f)=true) (hb:aN X.K fd ps ds) (hd:a8 dvs ds) (hx:oT CX X E)
  (ha:PA X (e::es) t) (hdb:(x==("__debug__":Str))=false:=by decide) (he:starEach (e::es) X.env=(false,eval e X.env)::starEach es X.env:=by rfl) (hpl:(backTo pos (starEach es X.env)).any (·.1)=false:=by rfl):
  PE X (.Call (.Name x p) (e::es) [] pos) (OE sp dvs E t):=by
 intro pins s σ H Q I h
 refine wpAny_Call_Name_kw (qy I hg hm ?_ hdb)
 refine PySem.W.callWith_K (h₀:=X.base) I.ok.mod.kin hk (thn (ha pos pins s σ H _ I h) fun us s1 ⟨vs,H1,I1,r,q⟩=>⟨I1.kIn,?_⟩) he hpl
 exact Fo F hr hb hd hx I1 r q
theorem bD {pl:Sem Bool}(he:PE X o ta) (c:Cls X.K C) (hm:iY X.K C m f) (F:bd X.prog X.w X.K X.mg X.base CX k f fd ps sp) (hr:fj k X.A) (hb:aN X.K fd ps ds) (hd:a8 dvs ds) (hx:oT CX X E) (ha:PA X (e::es) t)
  (hst:starEach (e::es) X.env=(false,eval e X.env)::starEach es X.env:=by rfl) (hpl:(backTo pos (starEach es X.env)).any (·.1)=false:=by rfl)
  (ht:eval (.Call (.Attribute o m apos) (e::es) [] pos) X.env=(do
   let ov ←eval o X.env
   standAt apos.atName
   let(f,first) ←holding [ov] (getMethod ov m pl)
   callWith pos f first (backTo pos (starEach (e::es) X.env)) (backToKw pos (keywordEach [] X.env))):=by rfl):
  PE X (.Call (.Attribute o m apos) (e::es) [] pos) (IS C m sp dvs E ta t):=by
 intro pins s σ H Q I h
 refine PySem.W.methodCall_KW (pl:=pl) (thn (he pins s σ H _ I h) fun u s1 ⟨x,H1,I1,rx,a,dx,fs,ex,ea,l,q⟩=> ?_) ht
 subst ex
 obtain rfl:u=Value.ref a:=rx
 refine sj I1 ea c hm l ?_
 refine PySem.W.callWith_K (first:=[.ref a]) (h₀:=X.base) I.ok.mod.kin hm.kp (thn (ha pos pins s1 σ H1 _ I1 q) fun us s2 ⟨vs,H2,I2,r,q2⟩=>⟨I2.kIn,?_⟩) hst hpl
 exact Fo (us:=.ref a::us) (vs:=.ref a::vs) F hr hb hd hx I2 (.cons rfl r) q2
theorem Ei {pl:Sem Bool}(he:PE X o ta) (c:Cls X.K C) (hm:iY X.K C m f) (F:bd X.prog X.w X.K X.mg X.base CX k f fd ps sp) (hr:fj k X.A) (hb:aN X.K fd ps ds) (hd:a8 dvs ds) (hx:oT CX X E)
  (ht:eval (.Call (.Attribute o m apos) [] [] pos) X.env=(do
   let ov ←eval o X.env
   standAt apos.atName
   let(f,first) ←holding [ov] (getMethod ov m pl)
   callWith pos f first (backTo pos (starEach [] X.env)) (backToKw pos (keywordEach [] X.env))):=by rfl):
  PE X (.Call (.Attribute o m apos) [] [] pos) (IS C m sp dvs E ta MN):=by
 intro pins s σ H Q I h
 refine PySem.W.methodCall_KW (pl:=pl) (thn (he pins s σ H _ I h) fun u s1 ⟨x,H1,I1,rx,a,dx,fs,ex,ea,l,q⟩=> ?_) ht
 subst ex
 obtain rfl:u=Value.ref a:=rx
 refine sj I1 ea c hm l ?_
 exact PySem.W.callWith_K0 (first:=[.ref a]) I1.kIn hm.kp (Fo (us:=[.ref a]) (vs:=[.ref a]) F hr hb hd hx I1 (.cons rfl .nil) q)
structure Mk (K:PySem.W.Frag) (C f:Addr):Prop where
 makes:PySem.W.makesIn K C=true
 init:PySem.W.findIn K (.ref C) "__init__"=some (some (.ref f))
 fn:PySem.W.isFn K (.ref f)=true
 kp:PySem.W.keepIn K (.ref C)=true
theorem Ju {pins:List (Addr×Obj)}{σ:St}{H:Hp}{s:Shared}{Q:VK}{us:List Value}{vs:List V}(M:Mk X.K C f) (F:bd X.prog X.w X.K X.mg X.base CX k f fd ps sp) (hr:fj (k+1) X.A) (hb:aN X.K fd ps ds) (hd:a8 dvs ds)
  (hx:oT CX X E) (I:Inv X pins σ H s) (r:a8 vs us)
  (h: ∀x dx,H x=none→H dx=none→dx≠x→sp (.ref x::(vs++dvs)) (upd (upd H dx (.own x)) x (.ins C dx [])) (fun v H2=>v=.non∧Q (.ref x) H2) E):
  wpAny (model X.prog X.w) X.A (call (.ref C) us) (EP X pins σ Q) X.xe s:=by
 have hq:=h (s.heap.objs.size+1) s.heap.objs.size (I.hok.fresh (Nat.le_succ _)) (I.hok.fresh (Nat.le_refl _)) (Nat.ne_of_lt (Nat.lt_succ_self _))
 have I2:=Inv.made (C:=C) I
 have r2:a8 (V.ref (s.heap.objs.size+1)::(vs++dvs)) (Value.ref (s.heap.objs.size+1)::(us++ds)):=.cons rfl (r.append hd)
 have hl:(Value.ref (s.heap.objs.size+1)::us++ds).length=ps.length:=by
  have e:=r2.length
  rw[F.len _ _ _ _ hq] at e
  exact e.symm
 refine wpAny_call (JW (f:=f) I.kIn M.makes M.init (beq_iff_eq.mp M.fn) (codeAny_mono (F.run _ X.stack _ _ ⟨Value.ref (s.heap.objs.size+1)::us,[]⟩ (Value.ref (s.heap.objs.size+1)::(us++ds)) _ _ E (hr.make C us [])
  (I2.env0.make C us []) (hb _ (Value.ref (s.heap.objs.size+1)::us) I2.kIn hl) r2 hq) fun r s' hq'=> ?_))
 cases r with
 |error e=>exact hx pins σ _ _ e s' I2 hq'
 |ok fl=>
  cases fl with
  |ret u=>
   obtain⟨v,H',I3,rv,ev,q3⟩:=I2.after hq'
   subst ev
   exact⟨rv,⟨V.ref (s.heap.objs.size+1),H',I3,rfl,q3⟩⟩
  |next=>exact False.elim hq'
  |brk=>exact False.elim hq'
  |cont=>exact False.elim hq'
theorem xk (M:Mk X.K C f) (F:bd X.prog X.w X.K X.mg X.base CX k f fd ps sp) (hr:fj (k+1) X.A) (hg:Gl X x) (hm:X.mg x=some (.ref C)) (hb:aN X.K fd ps ds) (hd:a8 dvs ds) (hx:oT CX X E)
  (ha:PA X (e::es) t) (hdb:(x==("__debug__":Str))=false:=by decide) (he:starEach (e::es) X.env=(false,eval e X.env)::starEach es X.env:=by rfl) (hpl:(backTo pos (starEach es X.env)).any (·.1)=false:=by rfl):
  PE X (.Call (.Name x p) (e::es) [] pos) (Oz C sp dvs E t):=by
 intro pins s σ H Q I h
 refine wpAny_Call_Name_kw (qy I hg hm ?_ hdb)
 refine PySem.W.callWith_K (h₀:=X.base) I.ok.mod.kin M.kp (thn (ha pos pins s σ H _ I h) fun us s1 ⟨vs,H1,I1,r,q⟩=>⟨I1.kIn,?_⟩) he hpl
 exact Ju M F hr hb hd hx I1 r q
end
section
variable {X:Cx}{CX:CXT}{k:Nat}{f C:Addr}{fd:FuncData}{ps ks:List Str}{sp:Sp}{E:XK}{x m:Str}{p pos apos kpos:Pos}{e o:Expr}{es:List Expr}{kws:List Keyword}{te ta:TE}{t tk:TA}{nm:Option Str}
variable {g:List Value→List Value→List Value}{gV:List V→List V→List V}
end
structure ax (N P:List Str) (sc:Scope):Prop where
 kind:sc.kind=.function
 co:sc.isCoroutine=false
 gen:sc.isGenerator=false
 nd:N.Nodup
 pre:N.take P.length=P
 par: ∀x∈P,sc.names.lookup x=some .local ∨sc.names.lookup x=some .cell
 nofree: ∀y∈sc.names,y.2≠.free
theorem BO {kindOf:Str→Option NameKind}{x:Str}: ∀{binds:List (Str×Value)}{m:Str→Option Value},(∀v,(x,v)∉binds)→bindL kindOf binds m x=m x
 | [],_,_=>rfl
 |(n,v)::r,m,h=>by
  unfold bindL
  rw[BO fun w hw=>h w (List.mem_cons_of_mem _ hw)]
  split
  ·have:x≠n:=by rintro rfl;exact h v List.mem_cons_self
   simp[this]
  ·rfl
theorem BQ {kindOf:Str→Option NameKind}{x:Str}: ∀{binds:List (Str×Value)}{m:Str→Option Value},(∀v,(x,v)∉binds)→bindC kindOf binds m x=m x
 | [],_,_=>rfl
 |(n,v)::r,m,h=>by
  unfold bindC
  rw[BQ fun w hw=>h w (List.mem_cons_of_mem _ hw)]
  split
  ·rfl
  ·have:x≠n:=by rintro rfl;exact h v List.mem_cons_self
   simp[this]
theorem BP {kindOf:Str→Option NameKind}{x:Str}{v:Value}: ∀{P:List Str}{vs:List Value}{i:Nat}{m:Str→Option Value},P.Nodup→P[i]? =some x→vs[i]? =some v→kindOf x=some .local →
  bindL kindOf (P.zip vs) m x=some v
 | [],_,_,_,_,h,_,_=>by simp at h
 |_::_,[],_,_,_,_,h,_=>by simp at h
 |p::P,w::vs,0,m,nd,h1,h2,hk=>by
  simp at h1 h2;subst h1;subst h2
  show bindL kindOf ((p,w)::P.zip vs) m p=_
  unfold bindL
  rw[BO fun v hv=>(List.nodup_cons.mp nd).1 (List.of_mem_zip hv).1,if_pos hk]
  simp
 |p::P,w::vs,i+1,m,nd,h1,h2,hk=>by
  show bindL kindOf ((p,w)::P.zip vs) m x=_
  unfold bindL
  exact BP (i:=i) (List.nodup_cons.mp nd).2 (by simpa using h1) (by simpa using h2) hk
theorem BR {kindOf:Str→Option NameKind}{x:Str}{v:Value}: ∀{P:List Str}{vs:List Value}{i:Nat}{m:Str→Option Value},P.Nodup→P[i]? =some x→vs[i]? =some v→kindOf x≠some .local →
  bindC kindOf (P.zip vs) m x=some v
 | [],_,_,_,_,h,_,_=>by simp at h
 |_::_,[],_,_,_,_,h,_=>by simp at h
 |p::P,w::vs,0,m,nd,h1,h2,hk=>by
  simp at h1 h2;subst h1;subst h2
  show bindC kindOf ((p,w)::P.zip vs) m p=_
  unfold bindC
  rw[BQ fun v hv=>(List.nodup_cons.mp nd).1 (List.of_mem_zip hv).1,if_neg hk]
  simp
 |p::P,w::vs,i+1,m,nd,h1,h2,hk=>by
  show bindC kindOf ((p,w)::P.zip vs) m x=_
  unfold bindC
  exact BR (i:=i) (List.nodup_cons.mp nd).2 (by simpa using h1) (by simpa using h2) hk
def px (N:List Str) (vs:List V):St:=vs.map some++List.replicate (N.length-vs.length) none
def Df (CX:CXT) (P:Program) (w:World) (K:PySem.W.Frag) (mg:Str→Option Value) (base:Heap) (N:List Str) (qual:Str) (scope:Scope) (f:Addr) (cd:Value) (A:Around) (outer:List Env) (s:Shared) (H:Hp) (E:XK):Cx where
 prog:=P
 w:=w
 K:=K
 mg:=mg
 base:=base
 A:=A.deeper (envOfC qual scope s.heap.objs.size f cd)
 N:=N
 s₀:=s
 H₀:=H
 env:=envOfC qual scope s.heap.objs.size f cd
 outer:=outer
 stack:=envOfC qual scope s.heap.objs.size f cd::outer
 ex:=[]
 calm:=true
 fn:=fun _=>true
 pn:=[]
 xe:=fun e s'=>wpAny (model P w) (A.deeper (envOfC qual scope s.heap.objs.size f cd)) (leaving (envOfC qual scope s.heap.objs.size f cd) e) (fun _ s''=>CX outer H s E e s'') (fun e' s''=>CX outer H s E e' s'') s'
theorem EU {sc:Scope}{n:Nat}{x:Str}(h:sc.names.lookup x=some .cell): ∃c,(cellsFrom n sc.names []).lookup x=some c:=by
 have q:=PySem.W.cellsFrom_some sc.names n [] (.inl h)
 exact Option.isSome_iff_exists.mp q
theorem HL {CX:CXT}{P:Program}{w:World}{K:PySem.W.Frag}{mg:Str→Option Value}{base:Heap}{N ps:List Str}{qual:Str}{scope:Scope}{f:Addr}{cd:Value}{A:Around}{outer:List Env}{s s1:Shared}{H:Hp}{E:XK}{us:List Value}{vs:List V}
  (S:ax N ps scope) (hd:A.handled=none) (e0:Go P w K mg base A outer s H) (hl:vs.length=ps.length) (r:a8 vs us)
  (x:InCallC s s.heap.objs.size (bindL (envOfC qual scope s.heap.objs.size f cd).kindOf (ps.zip us) fun _=>none) (cellsFrom (s.heap.objs.size+1) scope.names []) (bindC (envOfC qual scope s.heap.objs.size f cd).kindOf (ps.zip us) fun _=>none) s1):
  Inv (Df CX P w K mg base N qual scope f cd A outer s H E) [] (px N vs) H s1:=by
 have hpl:ps.length≤N.length:=by have:=congrArg List.length S.pre;rw[List.length_take] at this;omega
 obtain⟨h1,tk,rfl,hk⟩:=x.done
 have noA: ∀b:Addr,b∉(Df CX P w K mg base N qual scope f cd A outer s H E).ex:=fun b z=>absurd (show b∈([]:List Addr) from z) (by simp)
 refine⟨⟨e0.mod,S.kind,rfl,rfl,Nat.le_refl _,fun y z c h1 h2=> ?_,fun y hy=> ?_,fun y c _ h=> ?_,fun _=>hd,Around.frames_deeper e0.frames,.inr ⟨rfl,rfl⟩,fun b z=>absurd z (noA b),e0.bs,e0.bsz,fun b _ _=>noA b,fun b z=>absurd z (noA b),e0.funs,e0.frf⟩,
  rfl,e0.bare,Un.kept hk,⟨_,x.toInCall.ns,fun i y v h1 h2 h3=> ?_⟩,fun y c h=>⟨_,x.cell y c h⟩,e0.hok.fresh (Nat.le_refl _),fun y c h=> ?_,fun p hp=>absurd (show p∈([]:List (Addr×Obj)) from hp) (by simp),e0.hok.kept hk,?_⟩
 ·exact name_of_addr x.apart (PySem.mem_of_lookup h1) (PySem.mem_of_lookup h2)
 ·have hy:scope.names.lookup y=some .cell∨scope.names.lookup y=some .free:=hy
  rcases hy with hy |hy
  ·exact EU hy
  ·exact absurd rfl (S.nofree _ (PySem.mem_of_lookup hy))
 ·exact Nat.le_of_lt (x.above y c (PySem.mem_of_lookup h))
 ·have hi:i<vs.length:=by
   unfold px at h2
   by_cases hi:i<vs.length
   ·exact hi
   ·rw[List.getElem?_append_right (by simpa using hi)] at h2
    rw[List.getElem?_replicate] at h2
    split at h2<;>cases h2
  have ha:vs[i]? =some v:=by
   unfold px at h2
   rw[List.getElem?_append_left (by simpa using hi),List.getElem?_map] at h2
   cases e:vs[i]? with
   |none=>rw[e] at h2;cases h2
   |some a=>rw[e] at h2;cases h2;rfl
  obtain⟨u,hu,rv⟩:=r.get ha
  have hp:ps[i]? =some y:=by
   rw[←S.pre,List.getElem?_take_of_lt (by omega)];exact h1
  have ndP:ps.Nodup:=by rw[←S.pre];exact S.nd.sublist (List.take_sublist _ _)
  refine⟨u,rv,?_⟩
  rcases S.par y (List.mem_of_getElem? hp) with k |k
  ·exact .inl ⟨k,BP ndP hp hu k⟩
  ·obtain⟨c,e⟩:=EU (n:=s.heap.objs.size+1) k
   refine .inr ⟨.inl k,c,e,?_⟩
   have q:=x.cell y c e
   rw[BR ndP hp hu (by show scope.names.lookup y≠_;rw[k];decide)] at q
   exact q
 ·exact e0.hok.fresh (Nat.le_of_lt (x.above y c (PySem.mem_of_lookup h)))
 ·unfold px
  show _=N.length
  rw[List.length_append,List.length_map,List.length_replicate]
  omega
theorem MA {CX:CXT}{P:Program}{w:World}{K:PySem.W.Frag}{mg:Str→Option Value}{base:Heap}{k:Nat}{f:Addr}{name qual:Str}{params:Arguments}{body:List Stmt}{scope:Scope}{dV kV doc pm cdv ct oc:Value}{an od:Option Addr}
  {osl:Array (Option Value)}{N ps:List Str}{sp:Sp}(lk:K.lookup f=some ⟨oc,od,.func (PySem.W.fnOf name qual params body scope dV kV doc pm an cdv ct),osl⟩) (hcd:PySem.W.codeIn K cdv qual=true) (S:ax N ps scope)
  (len: ∀vs H Q E,sp vs H Q E→vs.length=ps.length)
  (hbody: ∀(A:Around) (outer:List Env) (s:Shared) (H:Hp) (vs:List V) (Q:VK) (E:XK),fj k (A.deeper (envOfC qual scope s.heap.objs.size f cdv))→sp vs H Q E→
   ∃t,PSs (Df CX P w K mg base N qual scope f cdv A outer s H E) body t∧t {nx:=fun _ H'=>Q .non H',rt:=Q} (px N vs) H):
  bd P w K mg base CX (k+1) f (PySem.W.fnOf name qual params body scope dV kV doc pm an cdv ct) ps sp:=by
 refine⟨len,fun A outer s H args us vs Q E hr e0 hb r hsp=> ?_⟩
 have hl:=len _ _ _ _ hsp
 have KX:K.In s.heap:=e0.mod.kin.keeps fun b o e=>(e0.bs b o e).1
 have lim:s.heap.NoLimit:=e0.mod.nolimit.keeps fun b o e=>(e0.bs b o e).1
 have hkind: ∀y∈ps.zip us,scope.names.lookup y.1=some .local ∨(scope.names.lookup y.1=some .cell∧((cellsFrom (s.heap.objs.size+1) scope.names []).lookup y.1).isSome=true):=fun⟨n,v⟩ hy=>by
  rcases S.par n (List.of_mem_zip hy).1 with q |q
  ·exact .inl q
  ·exact .inr ⟨q,PySem.W.cellsFrom_some _ _ _ (.inl q)⟩
 refine codeAny_call_function hr.depth (KX _ _ lk) rfl S.co S.gen rfl (PySem.W.codeRec_of KX hcd) (hb _ _ _ _ ?_)
 refine wpAny_newFunctionEnv_cells S.kind hkind fun env he s1 x=> ?_
 subst he
 refine⟨lim.keeps x.toInCall.keep,codeAny_func ?_⟩
 obtain⟨t,ht,hq⟩:=hbody A outer s H vs Q E (hr.deeper _) hsp
 have I:Inv (Df CX P w K mg base N qual scope f cdv A outer s H E) [] (px N vs) H s1:=HL S hr.hd e0 hl r x
 refine wpAny_mono (ht [] s1 (px N vs) H _ I hq) (fun fl s' hs=> ?_) fun e s' hs=>hs
 have fin: ∀{σ':St}{H':Hp}{v:V}{u:Value},Inv (Df CX P w K mg base N qual scope f cdv A outer s H E) [] σ' H' s'→aZ v u→Q v H'→CE outer P w H s Q u s':=
  fun {σ' H' v u} J rv q=>⟨v,H',J.os,J.bare,J.base,J.hok,rv,q⟩
 cases fl with
 |ret u=>
  obtain⟨v,σ',H',J,rv,q⟩:=hs
  exact fin J rv q
 |next=>
  obtain⟨σ',H',J,q⟩:=hs
  exact fin (v:=V.non) (u:=Value.none) J rfl q
 |brk=>
  obtain⟨_,_,_,q⟩:=hs
  exact False.elim q
 |cont=>
  obtain⟨_,_,_,q⟩:=hs
  exact False.elim q
end L2
namespace L2
open PySem PySem.Spec PyProof.Rows
section
variable {X:Cx}{x:Str}{p pos:Pos}{e:Expr}{es:List Expr}{t:TA}{id T:String}{r:List V→Hp→VK→Prop}
def tCB (r:List V→Hp→VK→Prop) (t:TA):TE:=fun σ H Q=>t σ H fun vs H1=>r vs H1 Q
theorem az (hc:cQ X (.builtin id) r) (hg:Gl X x) (hm:X.mg x=none) (hv:bootBuiltins x=some (.builtin id)) (ha:PA X (e::es) t) (hn:x≠"__name__":=by decide) (hdb:(x==("__debug__":Str))=false:=by decide)
  (he:starEach (e::es) X.env=(false,eval e X.env)::starEach es X.env:=by rfl) (hpl:(backTo pos (starEach es X.env)).any (·.1)=false:=by rfl):PE X (.Call (.Name x p) (e::es) [] pos) (tCB r t):=by
 intro pins s σ H Q I h
 refine wpAny_Call_Name_kw (nJ I hg hm hv ?_ hn hdb)
 exact PyProof.Rows.callWith_builtin1 (thn (ha pos pins s σ H _ I h) fun us s1 ⟨vs,H1,I1,r1,q1⟩=>hc pins s1 σ H1 vs us Q I1 r1 q1) he hpl
theorem d8 (hc:cQ X (.type T) r) (hg:Gl X x) (hm:X.mg x=none) (hv:bootBuiltins x=some (.type T)) (ha:PA X (e::es) t) (hn:x≠"__name__":=by decide) (hdb:(x==("__debug__":Str))=false:=by decide)
  (he:starEach (e::es) X.env=(false,eval e X.env)::starEach es X.env:=by rfl) (hpl:(backTo pos (starEach es X.env)).any (·.1)=false:=by rfl):PE X (.Call (.Name x p) (e::es) [] pos) (tCB r t):=by
 intro pins s σ H Q I h
 refine wpAny_Call_Name_kw (nJ I hg hm hv ?_ hn hdb)
 exact PyProof.Rows.callWith_type1 (thn (ha pos pins s σ H _ I h) fun us s1 ⟨vs,H1,I1,r1,q1⟩=>hc pins s1 σ H1 vs us Q I1 r1 q1) he hpl
end
end L2
namespace HT
open PySem PyProof.Rows
section
open PySem.SeqAt
open PySem.AutoSeq1 (wpAny_loadPart')
open PySem.MeetsSeq PySem.MeetsSeq2 PySem.MeetsSeq3
end
section
variable {prog:Program}{w:World}{A:Around}{E:Value→Shared→Prop}{s:Shared}
theorem L8 {t b:Addr}{vs ws:List Value}{Q:Value→Shared→Prop}(ht:IsTup s.heap t vs.toArray) (hb:IsTup s.heap b ws.toArray) (hv:vs≠ [])
  (h1:ws=[]→Q (.ref t) s) (h2:ws≠ []→Q (.ref s.heap.objs.size) {s with heap:=s.heap.push {cls:=.type "tuple",data:=.seq (vs++ws).toArray}})
  (hsz:vs.length+ws.length≤sizeLine):wpAny (model prog w) A (binaryOp .Add (.ref t) (.ref b)) Q E s:=by
 obtain⟨⟨cls,dd,data,sl⟩,ho,hc,n,hd⟩:=id ht
 obtain⟨⟨cls2,dd2,data2,sl2⟩,ho2,hc2,n2,hd2⟩:=id hb
 simp only at hc hd hc2 hd2
 subst hc hd hc2 hd2
 have e:vs.toArray++ws.toArray=(vs++ws).toArray:=by simp
 by_cases hw:ws=[]
 ·exact concat_meets ⟨_,ho,rfl⟩ ⟨_,ho2,rfl⟩ noFill_tuple_add seq_tuple_add PySem.F.slot_tuple_add PySem.F.entry_tuple_add (PySem.F.args_tuple_add_2 _ _)
   (tuple_addW1 t b vs.toArray ws.toArray n n2 dd dd2 sl sl2 (by simpa using hv) (by simp[hw])) ⟨ho,ho2,h1 hw⟩
 ·refine concat_meets ⟨_,ho,rfl⟩ ⟨_,ho2,rfl⟩ noFill_tuple_add seq_tuple_add PySem.F.slot_tuple_add PySem.F.entry_tuple_add (PySem.F.args_tuple_add_2 _ _)
   (tuple_addW2 t b vs.toArray ws.toArray n n2 dd dd2 sl sl2 (by simpa using hv) (by simpa using hw) (by rw[List.size_toArray,List.size_toArray];exact hsz)) ⟨ho,ho2,?_⟩
  rw[e]
  exact h2 hw
def sIx (n d:Nat):Option Int→Nat
 |none=>d
 |some v=>if v<0 then(v+(n:Int)).toNat else min v.toNat n
end
end HT
namespace L2
open PySem PySem.Spec PyProof.Rows
abbrev TO:=St→Hp→(Option Int→Hp→Prop)→Prop
def PO (X:Cx) (e:Option Expr) (t:TO):Prop:=
 ∀(pins:List (Addr×Obj)) (s:Shared) (σ:St) (H:Hp) (Q:Option Int→Hp→Prop),Inv X pins σ H s→t σ H Q→
  wpAny (model X.prog X.w) X.A (evalPart e X.env) (fun u s'=> ∃o H',Inv X pins σ H' s'∧IsPart u o∧Q o H') X.xe s
def K6:TO:=fun _ H Q=>Q none H
def Ox (t:TE):TO:=fun σ H Q=>t σ H fun x H1=> ∃i,x=.int i∧Q (some i) H1
theorem ze {ns:List Int}: ∀{us:List Value},a8 (ns.map V.int) us→IntsAre us ns:=by
 induction ns with
 |nil=>intro us r;rw[List.map_nil] at r;cases r;exact .nil
 |cons n ns ih=>
  intro us r
  rw[List.map_cons] at r
  cases r with
  |cons r1 r2=>
   obtain⟨t,e⟩:=r1
   subst e
   exact .cons n t (ih r2)
section
variable {X:Cx}{e:Expr}{te:TE}{lo hi:Option Expr}{tl th:TO}{pos p2:Pos}
theorem qw:PO X none K6:=by
 intro pins s σ H Q I h
 rw[evalPart_none]
 exact wpAny_pure ⟨none,H,I,.none,h⟩
theorem qv (h:PE X e te):PO X (some e) (Ox te):=by
 intro pins s σ H Q I hw
 rw[evalPart_some]
 refine thn (h pins s σ H _ I hw) fun u s1 ⟨x,H1,I1,r1,q1⟩=> ?_
 obtain⟨i,rfl,q⟩:=q1
 obtain⟨t,rfl⟩:=r1
 exact⟨some i,H1,I1,.int i t,q⟩
def SlR (X:Cx) (r:V→Option Int→Option Int→Hp→VK→Prop):Prop:=
 ∀(pins:List (Addr×Obj)) (s:Shared) (σ:St) (H:Hp) (x:V) (v vl vu:Value) (lo hi:Option Int) (sl:Addr) (Q:VK),Inv X pins σ H s→aZ x v→s.heap.IsSliceOf sl vl vu .none→IsPart vl lo→IsPart vu hi→r x lo hi H Q→
  ∃T id,typeLookup (.type T) "__getitem__"=pure (some (.builtin id))∧s.TypeIs v T∧wpAny (model X.prog X.w) X.A (getItem v (.ref sl)) (EP X pins σ Q) X.xe s
def tSl (r:V→Option Int→Option Int→Hp→VK→Prop) (te:TE) (tl th:TO):TE:=fun σ H Q=>te σ H fun x H1=>tl σ H1 fun l H2=>th σ H2 fun u H3=>r x l u H3 Q
theorem mw {r:V→Option Int→Option Int→Hp→VK→Prop}(hr:SlR X r) (he:PE X e te) (hl:PO X lo tl) (hu:PO X hi th):PE X (.Subscript e (.Slice lo hi none p2) pos) (tSl r te tl th):=by
 intro pins s σ H Q I h
 refine Subscript_ (thn (he pins s σ H _ I h) fun v s1 ⟨x,H1,I1,r1,q1⟩=> ?_)
 refine wpAny_Slice (thn (hl pins s1 σ H1 _ I1 q1) fun vl s2 ⟨l,H2,I2,pl,q2⟩=>thn (hu pins s2 σ H2 _ I2 q2) fun vu s3 ⟨u,H3,I3,pu,q3⟩=> ?_)
 rw[evalPart_none]
 refine wpAny_pure ?_
 have I4:Inv X pins σ H3 {s3 with heap:=s3.heap.push {cls:=.type "slice",data:=.fields #[vl,vu,.none]}}:=I3.kept (t':=s3.toks) fun b ob q=>Heap.get?_push_of_some _ q
 obtain⟨T,id,hT,ht,hg⟩:=hr pins {s3 with heap:=s3.heap.push {cls:=.type "slice",data:=.fields #[vl,vu,.none]}} σ H3 x v vl vu l u s3.heap.objs.size Q I4 r1 (Heap.IsSliceOf.new ..) pl pu q3
 show wpAny (model X.prog X.w) X.A (subscriptTail e (.Slice lo hi none p2) v (.ref s3.heap.objs.size)) (EP X pins σ Q) X.xe {s3 with heap:=s3.heap.push {cls:=.type "slice",data:=.fields #[vl,vu,.none]}}
 exact tail_any (ops:=[.ref s3.heap.objs.size,v]) ht hT hg (by with_unfolding_all rfl)
def HZ (xs:List V) (lo hi:Option Int):List V:=(xs.drop (HT.sIx xs.length 0 lo)).take (HT.sIx xs.length xs.length hi-HT.sIx xs.length 0 lo)
theorem ES (xs:List V) (lo hi:Option Int):(HZ xs lo hi).length≤xs.length:=by
 unfold HZ
 rw[List.length_take,List.length_drop]
 omega
def Mr (K:PySem.W.Frag):R2:=fun x y H Q=> ∃a b xs ys,x=.ref a∧y=.ref b∧SqT K H a xs∧SqT K H b ys∧xs≠ []∧xs.length+ys.length≤sizeLine∧
 (ys=[]→Q (.ref a) H)∧(ys≠ []→ ∀p,H p=none→Q (.ref p) (upd H p (.tup (xs++ys))))
theorem a8.nil_iff {xs:List V}{us:List Value}(r:a8 xs us):us=[]↔xs=[]:=by
 cases r with
 |nil=>simp
 |cons _ _=>simp
theorem LK:OpR X (binaryOp .Add) (Mr X.K):=by
 intro pins s σ H x y v u Q I rx ry h
 obtain⟨a,b,xs,ys,rfl,rfl,ha,hb,hx,hz,q1,q2⟩:=h
 cases rx
 cases ry
 obtain⟨its,r1,p1,_⟩:=I.tuple ha
 obtain⟨its2,r2,p2,_⟩:=I.tuple hb
 refine HT.L8 p1 p2 (fun z=>hx (r1.nil_iff.mp z)) (fun z=>⟨.ref a,H,I,rfl,q1 (r2.nil_iff.mp z)⟩) (fun z=> ?_) (by rw[←r1.length,←r2.length];exact hz)
 refine⟨.ref s.heap.objs.size,_,I.laid (t':=s.toks) (o:=.tup (xs++ys)) (fun b ob q=>Heap.get?_push_of_some _ q) (Nat.le_refl _) ?_,rfl,q2 (fun w=>z (r2.nil_iff.mpr w)) _ (I.hok.fresh (Nat.le_refl _))⟩
 exact⟨by rw[List.length_append];exact hz,_,r1.append r2,IsTup.new _ _⟩
end
end L2
namespace L2
open PySem PySem.Spec PyProof.Rows
def ixN (n:Nat) (i:Int):Option Nat:=if 0≤i then(if i<n then some i.toNat else none) else if -(n:Int)≤i then some (i+n).toNat else none
def atI {α:Type}(xs:List α) (i:Int):Option α:=(ixN xs.length i).bind fun j=>xs[j]?
theorem GD {n:Nat}{i:Int}{j:Nat}(h:ixN n i=some j):seqIndex? i n=some j∧j<n∧ -(n:Int)≤i∧i<n:=by
 unfold ixN at h
 by_cases h0:0≤i
 ·rw[if_pos h0] at h
  by_cases h1:i<n
  ·rw[if_pos h1] at h
   have e:i.toNat=j:=Option.some.inj h
   exact⟨by rw[seqIndex_of h0 h1,e],by omega,by omega,h1⟩
  ·rw[if_neg h1] at h;cases h
 ·rw[if_neg h0] at h
  by_cases h1: -(n:Int)≤i
  ·rw[if_pos h1] at h
   have e:(i+n).toNat=j:=Option.some.inj h
   exact⟨by rw[seqIndex_neg (by omega) h1,e],by omega,h1,by omega⟩
  ·rw[if_neg h1] at h;cases h
theorem Dy {α:Type}{xs:List α}{i:Int}{v:α}(h:atI xs i=some v): ∃j,seqIndex? i xs.length=some j∧xs[j]? =some v∧j<xs.length∧ -(xs.length:Int)≤i∧i<xs.length:=by
 unfold atI at h
 cases e:ixN xs.length i with
 |none=>rw[e] at h;cases h
 |some j=>
  rw[e] at h
  obtain⟨h1,h2,h3,h4⟩:=GD e
  exact⟨j,h1,h,h2,h3,h4⟩
theorem KK {α:Type}(xs:List α) (v:α):atI (xs++[v]) (-1)=some v:=by
 have hl:(xs++[v]).length=xs.length+1:=by simp
 have e:ixN (xs++[v]).length (-1)=some xs.length:=by
  unfold ixN
  rw[hl,if_neg (by decide),if_pos (by omega)]
  congr 1
  omega
 unfold atI
 rw[e]
 show(xs++[v])[xs.length]? =some v
 simp
def Mg (b:Expr):Prop:= ∀o i,subscripted b false o i=operate [o,i] (getItem o i)
def IxR (X:Cx) (r:R2):Prop:=
 ∀(value slice:Expr) (pins:List (Addr×Obj)) (s:Shared) (σ:St) (H:Hp) (x y:V) (v u:Value) (Q:VK),Inv X pins σ H s→aZ x v→aZ y u→r x y H Q→
  subscripted slice false v u=operate [v,u] (getItem v u)→wpAny (model X.prog X.w) X.A (subscriptTail value slice v u) (EP X pins σ Q) X.xe s
def MtR (X:Cx) (id:String) (r:V→List V→Hp→VK→Prop):Prop:=
 ∀(pins:List (Addr×Obj)) (s:Shared) (σ:St) (H:Hp) (x:V) (xs:List V) (v:Value) (us:List Value) (Q:VK),Inv X pins σ H s→aZ x v→a8 xs us→r x xs H Q→
  wpAny (model X.prog X.w) X.A (call (.builtin id) (v::us)) (EP X pins σ Q) X.xe s
section
variable {X:Cx}{a b:Expr}{ta tb:TE}{pos:Pos}
theorem aJ {r:R2}(hr:IxR X r) (ha:PE X a ta) (hb:PE X b tb) (hs:Mg b):PE X (.Subscript a b pos) (tOp r ta tb):=by
 intro pins s σ H Q I h
 exact Subscript_ (NZ ha hb I h fun v u s2 x y H2 I2 rx ry q=>hr a b pins s2 σ H2 x y v u Q I2 rx ry q (hs _ _))
def OR (K:PySem.W.Frag):R2:=fun x y H Q=> ∃p xs i v,x=.ref p∧y=.int i∧SqL K H p xs∧atI xs i=some v∧Q v H
def OQ (K:PySem.W.Frag):R2:=fun x y H Q=> ∃p xs i v,x=.ref p∧y=.int i∧SqT K H p xs∧atI xs i=some v∧Q v H
def PJ:R2:=fun x y H Q=> ∃z i c,x=.str z∧y=.int i∧z.length≤sizeLine∧atI z.cps.toList i=some c∧Q (.str ⟨#[c]⟩) H
theorem L3:IxR X (OR X.K):=by
 intro value slice pins s σ H x y v u Q I rx ry h hs
 obtain⟨p,xs,i,z,rfl,rfl,hq,he,q⟩:=h
 cases rx
 obtain⟨t,rfl⟩:=ry
 obtain⟨its,r,pl,hz⟩:=I.list hq
 obtain⟨j,h1,h2,h3,h4,h5⟩:=Dy he
 obtain⟨w,ew,rw'⟩:=r.get h2
 have hl:=r.length
 have hn:=vj
 have fin:EP X pins σ Q w s:=⟨z,H,I,rw',q⟩
 by_cases h0:0≤i
 ·have hj:i.toNat=j:=by
   rw[seqIndex_of h0 h5] at h1
   exact Option.some.inj h1
  exact item_listR pl.isList h0 (by omega) (by rw[hj];simpa using ew) fin hs
 ·have hj:(i+(its.toArray.size:Int)).toNat=j:=by
   rw[seqIndex_neg (by omega) h4] at h1
   rw[List.size_toArray,←hl]
   exact Option.some.inj h1
  exact subscriptTail_builtinR (x:=w) pl.isList.typeIs slot_list_getitem.lookup
   (wpAny_getItem_list_neg (Q:=fun r s'=>r=w∧EP X pins σ Q r s') pl.isList (by omega) (by rw[List.size_toArray]<;>omega) (by omega) (by rw[hj];simpa using ew) ⟨rfl,fin⟩) hs
theorem NL:IxR X (OQ X.K):=by
 intro value slice pins s σ H x y v u Q I rx ry h hs
 obtain⟨p,xs,i,z,rfl,rfl,hq,he,q⟩:=h
 cases rx
 obtain⟨t,rfl⟩:=ry
 obtain⟨its,r,pl,hz⟩:=I.tuple hq
 obtain⟨j,h1,h2,h3,h4,h5⟩:=Dy he
 obtain⟨w,ew,rw'⟩:=r.get h2
 have hl:=r.length
 have hn:=vj
 have fin:EP X pins σ Q w s:=⟨z,H,I,rw',q⟩
 exact subscriptTail_builtinR (x:=w) pl.typeIs slot_tuple_getitem.lookup
  (getItem_tuple (j:=j) (Q:=fun r s'=>r=w∧EP X pins σ Q r s') pl (by omega) (by omega) (by rw[List.size_toArray,←hl];exact h1) (by simpa using ew) ⟨rfl,fin⟩) hs
theorem NM:IxR X PJ:=by
 intro value slice pins s σ H x y v u Q I rx ry h hs
 obtain⟨z,i,c,rfl,rfl,hz,he,q⟩:=h
 obtain⟨t,rfl⟩:=rx
 obtain⟨t',rfl⟩:=ry
 obtain⟨j,h1,h2,h3,h4,h5⟩:=Dy he
 have hl:z.cps.toList.length=z.length:=by simp[Str.length]
 rw[hl] at h1 h4 h5
 have hn:=vj
 exact tail_any (typeIs_str s z t) slot_str_getitem.lookup (getItem_str (c:=c) (by
  have e1:decide (i< -(2^63:Int))=false:=decide_eq_false (by omega)
  have e2:decide (i≥2^63)=false:=decide_eq_false (by omega)
  rw[e1,e2,Bool.or_false]) (by rw[h1];simpa using h2) ⟨.str ⟨#[c]⟩,H,I.tok _,⟨_,rfl⟩,q⟩) hs
theorem FG (its:List Value) (n j:Nat) (u:Value):Obj.mapSeq (·.setIfInBounds j u) {cls:=.type "list",data:=.seq its.toArray n}={cls:=.type "list",data:=.seq (its.set j u).toArray n}:=by
 simp[Obj.mapSeq]
theorem Inv.lst {pins:List (Addr×Obj)}{σ:St}{H:Hp}{s:Shared}{p:Addr}{xs:List V}(I:Inv X pins σ H s) (h:H p=some (.lst xs)):
  ∃(its:List Value) (n:Nat),a8 xs its∧s.heap.get? p=some {cls:=.type "list",data:=.seq its.toArray n}∧xs.length≤sizeLine:=by
 obtain⟨z,its,n,r,e⟩:=I.hok p _ h
 exact⟨its,n,r,e,z⟩
theorem Inv.lstUpd {pins:List (Addr×Obj)}{σ:St}{H:Hp}{s:Shared}{p:Addr}{xs ys:List V}{its its':List Value}{n n':Nat}{f:Obj→Obj}(I:Inv X pins σ H s) (h:H p=some (.lst xs))
  (ho:s.heap.get? p=some {cls:=.type "list",data:=.seq its.toArray n}) (hf:f {cls:=.type "list",data:=.seq its.toArray n}={cls:=.type "list",data:=.seq its'.toArray n'}) (r:a8 ys its') (hz:ys.length≤sizeLine) (t:Nat):
  Inv X pins σ (upd H p (.lst ys)) {s with heap:=s.heap.update p f,toks:=t}:=by
 have e:(s.heap.update p f).get? p=some {cls:=.type "list",data:=.seq its'.toArray n'}:=by
  rw[Heap.get?_update_self f ho (by rw[hf]<;>rfl),hf]
 refine I.write (x:=p) (e:=p) (by rw[h];trivial) (.inl rfl) (fun b u hb q=>(Heap.get?_update_other _ _ (Ne.symm hb)).trans q) ⟨_,e⟩ ?_
 exact⟨hz,its',n',r,e⟩
def ON:V→V→V→Hp→(Hp→Prop)→Prop:=fun o i v H Q=> ∃p xs k j,o=.ref p∧i=.int k∧H p=some (.lst xs)∧ixN xs.length k=some j∧Q (upd H p (.lst (xs.set j v)))
theorem xO:Mh X ON:=by
 intro pins s σ H o i v ov iv u Q I ro ri rv h
 obtain⟨p,xs,k,j,rfl,rfl,hp,hj,q⟩:=h
 cases ro
 obtain⟨t,rfl⟩:=ri
 obtain⟨its,n,r,ho,hz⟩:=I.lst hp
 obtain⟨h1,h2,h3,h4⟩:=GD hj
 have hl:=r.length
 have hn:=vj
 have I':Inv X pins σ (upd H p (.lst (xs.set j v))) {s with heap:=s.heap.update p (Obj.mapSeq (·.setIfInBounds j u))}:=
  I.lstUpd hp ho (FG its n j u) (r.set rv j) (by rw[List.length_set];exact hz) s.toks
 by_cases h0:0≤k
 ·have hk:k.toNat=j:=by
   rw[seqIndex_of h0 h4] at h1
   exact Option.some.inj h1
  exact PySem.W.ki_setAt ho h0 (by omega) (by rw[List.size_toArray,←hl];exact h4) (by rw[hk];exact⟨_,I',q⟩)
 ·have hk:(k+(its.toArray.size:Int)).toNat=j:=by
   rw[seqIndex_neg (by omega) h3] at h1
   rw[List.size_toArray,←hl]
   exact Option.some.inj h1
  exact PySem.W.ki_setBack ho (by omega) (by rw[List.size_toArray,←hl];exact h3) (by omega) (by rw[hk];exact⟨_,I',q⟩)
theorem Ck (lo hi:Option Int) (n:Nat):(sliceBounds lo hi none n).1=((HT.sIx n 0 lo:Nat):Int)∧(sliceBounds lo hi none n).2.1=((HT.sIx n n hi:Nat):Int)∧(sliceBounds lo hi none n).2.2=1:=by
 refine⟨?_,?_,rfl⟩
 ·cases lo with
  |none=>simp[sliceBounds,HT.sIx]
  |some i=>
   simp only[sliceBounds,HT.sIx,Option.getD_none,show(1:Int)>0 by decide,if_true]
   by_cases h:i<0
   ·simp only[h,if_true]<;>omega
   ·simp only[h,if_false]<;>omega
 ·cases hi with
  |none=>simp[sliceBounds,HT.sIx]
  |some i=>
   simp only[sliceBounds,HT.sIx,Option.getD_none,show(1:Int)>0 by decide,if_true]
   by_cases h:i<0
   ·simp only[h,if_true]<;>omega
   ·simp only[h,if_false]<;>omega
theorem At (its:List Value) (lo hi:Option Int):slicePick its.toArray lo hi none=((its.drop (HT.sIx its.length 0 lo)).take (HT.sIx its.length its.length hi-HT.sIx its.length 0 lo)).toArray:=by
 obtain⟨h1,h2,h3⟩:=Ck lo hi its.toArray.size
 unfold slicePick
 rw[h1,h2,h3]
 simp only[sliceRange_one,pick_run,List.size_toArray]<;>rfl
def OL (K:PySem.W.Frag):V→Option Int→Option Int→Hp→VK→Prop:=fun x lo hi H Q=> ∃a xs,x=.ref a∧SqL K H a xs∧ ∀p,H p=none→Q (.ref p) (upd H p (.lst (HZ xs lo hi)))
theorem Lv:SlR X (OL X.K):=by
 intro pins s σ H x v vl vu lo hi sl Q I rx hs pl pu h
 obtain⟨a,xs,rfl,hx,q⟩:=h
 cases rx
 obtain⟨its,r,ht,hz⟩:=I.list hx
 have hlen:=r.length
 refine⟨"list",_,slot_list_getitem.lookup,ht.isList.typeIs,?_⟩
 refine wpAny_getItem_list_slice ht.isList hs pl pu .none (by simp) ?_ (by rw[List.size_toArray]<;>omega)
 rw[At,←hlen]
 refine⟨.ref s.heap.objs.size,_,I.laid (t':=s.toks) (o:=.lst (HZ xs lo hi)) (fun b ob q=>Heap.get?_push_of_some _ q) (Nat.le_refl _) ?_,rfl,q _ (I.hok.fresh (Nat.le_refl _))⟩
 exact⟨Nat.le_trans (ES xs lo hi) hz,_,0,(r.drop (HT.sIx xs.length 0 lo)).take (HT.sIx xs.length xs.length hi-HT.sIx xs.length 0 lo),Heap.get?_push_size _ rfl⟩
def t7:V→Bool
 | .non=>true
 | .bl _=>true
 | .int _=>true
 | .str _=>true
 |_=>false
def eqV:V→V→Bool
 | .non,.non=>true
 | .bl a,.bl b=>a==b
 | .bl a,.int b=>(if a then 1 else 0)==b
 | .int a,.bl b=>a==(if b then 1 else 0)
 | .int a,.int b=>a==b
 | .str a,.str b=>a==b
 |_,_=>false
theorem NV {A:Around}{s:Shared}{y x:V}{u v:Value}(ry:aZ y u) (rx:aZ x v) (fy:t7 y=true) (fx:t7 x=true):SeqAt.EqAt A s u v (eqV y x):=by
 cases y with
 |non=>
  cases ry
  cases x with
  |non=>cases rx;exact SeqAt.EqAt.same _
  |bl b=>cases rx;exact SeqAt.EqAt.none_bool b
  |int b=>obtain⟨t,rfl⟩:=rx;exact SeqAt.EqAt.none_int b t
  |str b=>obtain⟨t,rfl⟩:=rx;exact SeqAt.EqAt.none_str b t
  |_=>exact absurd (show false=true from fx) Bool.false_ne_true
 |bl a=>
  cases ry
  cases x with
  |non=>cases rx;exact SeqAt.EqAt.bool_none a
  |bl b=>cases rx;exact SeqAt.EqAt.bool_bool a b
  |int b=>obtain⟨t,rfl⟩:=rx;exact SeqAt.EqAt.bool_int a b t
  |str b=>obtain⟨t,rfl⟩:=rx;exact SeqAt.EqAt.bool_str a b t
  |_=>exact absurd (show false=true from fx) Bool.false_ne_true
 |int a=>
  obtain⟨t',rfl⟩:=ry
  cases x with
  |non=>cases rx;exact SeqAt.EqAt.int_none a t'
  |bl b=>cases rx;exact SeqAt.EqAt.int_bool a t' b
  |int b=>obtain⟨t,rfl⟩:=rx;exact SeqAt.EqAt.int_int a t' b t
  |str b=>obtain⟨t,rfl⟩:=rx;exact SeqAt.EqAt.int_str a t' b t
  |_=>exact absurd (show false=true from fx) Bool.false_ne_true
 |str a=>
  obtain⟨t',rfl⟩:=ry
  cases x with
  |non=>cases rx;exact SeqAt.EqAt.str_none a t'
  |bl b=>cases rx;exact SeqAt.EqAt.str_bool a t' b
  |int b=>obtain⟨t,rfl⟩:=rx;exact SeqAt.EqAt.str_int a t' b t
  |str b=>obtain⟨t,rfl⟩:=rx;exact SeqAt.EqAt.str_str a t' b t
  |_=>exact absurd (show false=true from fx) Bool.false_ne_true
 |_=>exact absurd (show false=true from fy) Bool.false_ne_true
def eqU (x:V) (u:Value):Bool:=match u with
 | .none=>eqV .non x
 | .bool b=>eqV (.bl b) x
 | .int i _=>eqV (.int i) x
 | .str z _=>eqV (.str z) x
 |_=>false
theorem Kg {x y:V}{u:Value}(r:aZ y u) (f:t7 y=true):eqU x u=eqV y x:=by
 cases y with
 |non=>cases r;rfl
 |bl b=>cases r;rfl
 |int i=>obtain⟨t,rfl⟩:=r;rfl
 |str z=>obtain⟨t,rfl⟩:=r;rfl
 |_=>exact absurd (show false=true from f) Bool.false_ne_true
theorem ut {x:V}: ∀{xs:List V}{us:List Value},a8 xs us→xs.all t7=true→us.any (eqU x)=xs.any fun y=>eqV y x
 |_,_,.nil,_=>rfl
 |y::xs,u::us,.cons r t,f=>by
  rw[List.all_cons,Bool.and_eq_true] at f
  rw[List.any_cons,List.any_cons,Kg r f.1,ut t f.2]
theorem pJ {A:Around}{s:Shared}{x:V}{v:Value}(rx:aZ x v) (fx:t7 x=true): ∀{xs:List V}{us:List Value},a8 xs us→xs.all t7=true→ ∀u∈us,SeqAt.EqAt A s u v (eqU x u)
 |_,_,.nil,_=>fun u hu=>by cases hu
 |y::xs,u::us,.cons r t,f=>fun u' hu=>by
  rw[List.all_cons,Bool.and_eq_true] at f
  rcases List.mem_cons.mp hu with rfl |hu
  ·rw[Kg r f.1];exact NV r rx f.1 fx
  ·exact pJ rx fx t f.2 u' hu
def inV (x:V) (xs:List V):Bool:=xs.any fun y=>eqV y x
def rIn (K:PySem.W.Frag) (neg:Bool):R2:=fun x y H Q=> ∃p xs,y=.ref p∧(SqL K H p xs∨SqT K H p xs)∧t7 x=true∧xs.all t7=true∧Q (.bl (if neg then !inV x xs else inV x xs)) H
theorem Ho:OpR X (compareOp .In) (rIn X.K false):=by
 intro pins s σ H x y v u Q I rx ry h
 obtain⟨p,xs,rfl,hq,fx,fs,q⟩:=h
 cases ry
 rcases hq with hq |hq
 ·obtain⟨its,r,pl,hz⟩:=I.list hq
  refine SeqAt.in_listAt (eqU x) pl.isList (fun w hw=>pJ rx fx r fs w (by simpa using hw)) ⟨.bl _,H,I,rfl,?_⟩
  rw[show its.toArray.any (eqU x)=its.any (eqU x) by simp,ut r fs]
  exact q
 ·obtain⟨its,r,pl,hz⟩:=I.tuple hq
  refine SeqAt.in_tupleAt (eqU x) pl (fun w hw=>pJ rx fx r fs w (by simpa using hw)) ⟨.bl _,H,I,rfl,?_⟩
  rw[show its.toArray.any (eqU x)=its.any (eqU x) by simp,ut r fs]
  exact q
theorem Cy:OpR X (compareOp .NotIn) (rIn X.K true):=by
 intro pins s σ H x y v u Q I rx ry h
 obtain⟨p,xs,rfl,hq,fx,fs,q⟩:=h
 cases ry
 rcases hq with hq |hq
 ·obtain⟨its,r,pl,hz⟩:=I.list hq
  refine SeqAt.notIn_listAt (eqU x) pl.isList (fun w hw=>pJ rx fx r fs w (by simpa using hw)) ⟨.bl _,H,I,rfl,?_⟩
  rw[show its.toArray.any (eqU x)=its.any (eqU x) by simp,ut r fs]
  exact q
 ·obtain⟨its,r,pl,hz⟩:=I.tuple hq
  refine SeqAt.notIn_tupleAt (eqU x) pl (fun w hw=>pJ rx fx r fs w (by simpa using hw)) ⟨.bl _,H,I,rfl,?_⟩
  rw[show its.toArray.any (eqU x)=its.any (eqU x) by simp,ut r fs]
  exact q
theorem Dj:cQ X (.type "list") (fun xs H Q=> ∃p ys,xs=[.ref p]∧(SqL X.K H p ys∨SqT X.K H p ys)∧ ∀l,H l=none→Q (.ref l) (upd H l (.lst ys))):=by
 intro pins s σ H xs us Q I r h
 obtain⟨p,ys,rfl,hq,q⟩:=h
 obtain⟨u,rfl,rx⟩:=o7 r
 cases rx
 have fin: ∀(its:List Value),a8 ys its→ys.length≤sizeLine→ ∀(h':Heap) (c':Nat),(∀b o',s.heap.get? b=some o'→h'.get? b=some o')→
   h'.get? s.heap.objs.size=some {cls:=.type "list",dict:=none,data:=.seq its.toArray c',slots:= #[]}→EP X pins σ Q (.ref s.heap.objs.size) {s with heap:=h'}:=fun its r' hz h' c' kp e=>
  ⟨.ref s.heap.objs.size,_,I.laid (t':=s.toks) kp (Nat.le_refl _) (show cp X.prog X.w _ h' _ (.lst ys) from⟨hz,its,c',r',e⟩),rfl,q _ (I.hok.fresh (Nat.le_refl _))⟩
 rcases hq with hq |hq
 ·obtain⟨its,r',pl,hz⟩:=I.list hq
  have hlen:=r'.length
  obtain⟨o,ho,hc,n,hd⟩:=pl.isList
  exact call_list_seq p (.inl rfl) ho hc hd (fun h' c' kp e=>fin its r' hz h' c' kp e) (by simp only[List.size_toArray]<;>omega)
 ·obtain⟨its,r',pl,hz⟩:=I.tuple hq
  have hlen:=r'.length
  obtain⟨o,ho,hc,n,hd⟩:=pl
  exact call_list_seq p (.inr rfl) ho hc hd (fun h' c' kp e=>fin its r' hz h' c' kp e) (by simp only[List.size_toArray]<;>omega)
theorem A9:cQ X (.type "tuple") (fun xs H Q=> ∃p ys,xs=[.ref p]∧((SqL X.K H p ys∧ ∀l,H l=none→Q (.ref l) (upd H l (.tup ys)))∨(SqT X.K H p ys∧Q (.ref p) H))):=by
 intro pins s σ H xs us Q I r h
 obtain⟨p,ys,rfl,h⟩:=h
 obtain⟨u,rfl,rx⟩:=o7 r
 cases rx
 rcases h with⟨hq,q⟩ |⟨hq,q⟩
 ·obtain⟨its,r',pl,hz⟩:=I.list hq
  have hlen:=r'.length
  refine call_tuple_list pl.isList (fun h' kp=> ?_) (by simp only[List.size_toArray]<;>omega)
  have I1:Inv X pins σ H {s with heap:=h'}:=I.kept (t':=s.toks) kp
  have I2:Inv X pins σ (upd H h'.objs.size (.tup ys)) {s with heap:=h'.push {cls:=.type "tuple",data:=.seq its.toArray}}:=
   I1.laid (t':=s.toks) (fun b o e=>Heap.get?_push_of_some _ e) (Nat.le_refl _) (show cp X.prog X.w _ _ _ (.tup ys) from⟨hz,its,r',IsTup.new _ _⟩)
  exact⟨.ref h'.objs.size,_,I2,rfl,q _ (I1.hok.fresh (Nat.le_refl _))⟩
 ·obtain⟨its,r',pl,hz⟩:=I.tuple hq
  exact call_tuple_same pl ⟨.ref p,H,I,rfl,q⟩
def tyV (K:PySem.W.Frag) (T:String) (x:V) (H:Hp):Prop:=match x with
 | .str _=>T="str"
 | .int _=>T="int"
 | .ref p=>(T="list"∧ ∃xs,SqL K H p xs)∨(T="tuple"∧ ∃o,K.lookup p=some o∧o.cls=.type "tuple"∧o.dict=none)∨
   (T="dict"∧((∃kvs,H p=some (.dK kvs))∨ ∃kvs,H p=some (.dT kvs)))∨(T="set"∧ ∃S n,H p=some (.set S n))
 |_=>False
theorem IM {pins:List (Addr×Obj)}{σ:St}{H:Hp}{s:Shared}{T:String}{x:V}{v:Value}(I:Inv X pins σ H s) (r:aZ x v) (ty:tyV X.K T x H):
  s.TypeIs v T∧ ∀a,v=.ref a→ ∃ob,s.heap.get? a=some ob∧ob.dict=none:=by
 cases x with
 |str z=>
  obtain⟨t,rfl⟩:=r
  cases (show T="str" from ty)
  exact⟨typeIs_str s z t,fun _ e=>nomatch e⟩
 |int i=>
  obtain⟨t,rfl⟩:=r
  cases (show T="int" from ty)
  exact⟨typeIs_int s i t,fun _ e=>nomatch e⟩
 |ref p=>
  cases r
  rcases ty with⟨rfl,xs,hq⟩ |⟨rfl,o,hk,hc,hd⟩ |⟨rfl,hk⟩ |⟨rfl,S,n,hk⟩
  ·obtain⟨its,_,pl,_⟩:=I.list hq
   refine⟨pl.isList.typeIs,fun a e=> ?_⟩
   cases e
   obtain⟨o,n,e,c,hd,_⟩:=pl
   exact⟨o,e,hd⟩
  ·refine⟨⟨o,I.kIn p o hk,hc⟩,fun a e=> ?_⟩
   cases e
   exact⟨o,I.kIn _ o hk,hd⟩
  ·have z: ∃o,s.heap.get? p=some o∧o.ExactDict:=by
    rcases hk with⟨kvs,hk⟩ |⟨kvs,hk⟩
    ·obtain⟨_,_,_,_,o,_,_,e,ex,_⟩:=I.hok p _ hk
     exact⟨o,e,ex⟩
    ·obtain⟨_,_,_,_,o,_,_,e,ex,_⟩:=I.hok p _ hk
     exact⟨o,e,ex⟩
   obtain⟨o,e,ex⟩:=z
   refine⟨⟨o,e,ex.1⟩,fun a e2=> ?_⟩
   cases e2
   exact⟨o,e,ex.2.1⟩
  ·obtain⟨o,_,_,_,e,ex,_⟩:=I.hok p _ hk
   refine⟨⟨o,e,ex.1⟩,fun a e2=> ?_⟩
   cases e2
   exact⟨o,e,ex.2.1⟩
 |_=>exact False.elim ty
def OF (K:PySem.W.Frag) (T:String) (r:V→List V→Hp→VK→Prop) (to:TE):TE:=fun σ H Q=>to σ H fun x H1=>tyV K T x H1∧r x [] H1 Q
def tBM (K:PySem.W.Frag) (T:String) (r:V→List V→Hp→VK→Prop) (to:TE) (t:TA):TE:=fun σ H Q=>to σ H fun x H1=>tyV K T x H1∧t σ H1 fun xs H2=>r x xs H2 Q
variable {o e:Expr}{es:List Expr}{to:TE}{t:TA}{name:Str}{apos cpos:Pos}{T id:String}{r:V→List V→Hp→VK→Prop}
theorem No (pa:PlainAttrs T) (slot:Slot T name id) (hty:typeOf (.builtin id)=pure (.type "method_descriptor")) (hm:MtR X id r) (ho:PE X o to)
  (hbase:attributeBase o name X.env (eval o X.env)=eval o X.env:=by rfl) (hline:(apos.endLine==cpos.line)=true:=by rfl):PE X (.Call (.Attribute o name apos) [] [] cpos) (OF X.K T r to):=by
 intro pins s σ H Q I h
 refine wpAny_Call_method0_late hbase hline (thn (ho pins s σ H _ I h) fun v s1 ⟨x,H1,I1,r1,ty,q1⟩=> ?_)
 obtain⟨h1,h2⟩:=IM I1 r1 ty
 exact⟨T,id,pa,slot,hty,h1,h2,Calls.callWith_builtin rfl (PySem.evalArgs_none (hm pins s1 σ H1 x [] v [] Q I1 r1 .nil q1))⟩
theorem OT (pa:PlainAttrs T) (slot:Slot T name id) (hty:typeOf (.builtin id)=pure (.type "method_descriptor")) (hm:MtR X id r) (ho:PE X o to) (ha:PA X (e::es) t)
  (hbase:attributeBase o name X.env (eval o X.env)=eval o X.env:=by rfl)
  (hfew:((backTo cpos (starEach (e::es) X.env)).all (fun x=> !x.1) && (backToKw cpos (keywordEach [] X.env)).all (fun x=>x.1.isSome)
   && decide ((e::es).length+([]:List Keyword).length+(if([]:List Keyword).isEmpty then 0 else 1)<30))=true:=by rfl)
  (hline:(apos.endLine==cpos.line)=true:=by rfl) (hs:starEach (e::es) X.env=(false,eval e X.env)::starEach es X.env:=by rfl) (hplain:(backTo cpos (starEach es X.env)).any (·.1)=false:=by rfl):
  PE X (.Call (.Attribute o name apos) (e::es) [] cpos) (tBM X.K T r to t):=by
 intro pins s σ H Q I h
 refine wpAny_Call_method_late hbase hfew hline rfl (thn (ho pins s σ H _ I h) fun v s1 ⟨x,H1,I1,r1,ty,q1⟩=> ?_)
 obtain⟨h1,h2⟩:=IM I1 r1 ty
 refine⟨T,id,pa,slot,hty,h1,h2,?_⟩
 have hA:=ha cpos pins s1 σ H1 _ I1 q1
 rw[hs] at hA⊢
 refine Calls.callWith_builtin (by show(false ||(backTo cpos (starEach es X.env)).any (·.1))=false;rw[hplain]<;>rfl) (Calls.evalArgs_plain ?_)
 exact thn hA fun us s2 ⟨vs,H2,I2,r2,q2⟩=>hm pins s2 σ H2 x vs v us Q I2 r1 r2 q2
end
end L2
namespace L2
open PySem PySem.Spec PyProof.Rows
def MtM (X:Cx) (id:String) (r:V→List V→Hp→VK→Prop):Prop:=
 ∀(pins:List (Addr×Obj)) (s:Shared) (σ:St) (H:Hp) (x:V) (xs:List V) (v:Value) (us:List Value) (Q:VK),Inv X pins σ H s→aZ x v→a8 xs us→r x xs H Q→
  wpAny (model X.prog X.w) X.A (call (.builtin id) (v::us)) (EP X pins σ Q) X.xe s
theorem a8.one: ∀{x:V}{us:List Value},a8 [x] us→ ∃u,us=[u]∧aZ x u
 |_,_,.cons r .nil=>⟨_,rfl,r⟩
theorem a8.zero: ∀{us:List Value},a8 [] us→us=[]
 |_,.nil=>rfl
theorem a8.dropLast {xs:List V}{us:List Value}(h:a8 xs us):a8 xs.dropLast us.dropLast:=by
 induction h with
 |nil=>exact .nil
 |cons r t ih=>
  cases t with
  |nil=>exact .nil
  |cons q t'=>exact .cons r ih
theorem a8.reverse {xs:List V}{us:List Value}(h:a8 xs us):a8 xs.reverse us.reverse:=by
 induction h with
 |nil=>exact .nil
 |cons r t ih=>rw[List.reverse_cons,List.reverse_cons];exact a8.append ih (.cons r .nil)
theorem a8.rep {xs:List V}{us:List Value}(h:a8 xs us): ∀k:Nat,a8 (List.replicate k xs).flatten (List.replicate k us).flatten
 |0=> .nil
 |k+1=>by
  rw[List.replicate_succ,List.replicate_succ,List.flatten_cons,List.flatten_cons]
  exact a8.append h (a8.rep h k)
theorem F2 {α:Type}(l:List α):l.eraseIdx (l.length-1)=l.dropLast:=by
 induction l with
 |nil=>rfl
 |cons a r ih=>
  cases r with
  |nil=>rfl
  |cons b r=>
   have e:(a::b::r).length-1=((b::r).length-1)+1:=by
    have h1:(a::b::r).length=r.length+2:=rfl
    have h2:(b::r).length=r.length+1:=rfl
    omega
   rw[e,List.eraseIdx_cons_succ,ih]
   all_goals rfl
theorem BC (its:List Value): ∀(k:Nat) (acc:List Value),
  List.foldl (fun x1 x2=>x1++x2) acc.toArray (List.replicate k its.toArray)=(acc++(List.replicate k its).flatten).toArray
 |0,acc=>by simp
 |k+1,acc=>by
  have e:acc.toArray++its.toArray=(acc++its).toArray:=by simp
  have e2:(acc++its)++(List.replicate k its).flatten=acc++(List.replicate (k+1) its).flatten:=by
   rw[List.replicate_succ,List.flatten_cons,List.append_assoc]
  rw[←e2,←BC its k (acc++its),←e,List.replicate_succ,List.foldl_cons]
section
variable {X:Cx}{pins:List (Addr×Obj)}{σ:St}{H:Hp}{s:Shared}{l b:Addr}{xs ys zs:List V}
theorem Inv.lset {its its':List Value}{n:Nat}{f:Array Value→Array Value}{t':Nat}(I:Inv X pins σ H s) (hH:H l=some (.lst xs))
  (e:s.heap.get? l=some {cls:=.type "list",data:=.seq its.toArray n}) (hf:f its.toArray=its'.toArray) (hv:a8 ys its') (hz:ys.length≤sizeLine):
  Inv X pins σ (upd H l (.lst ys)) {s with heap:=s.heap.update l (Obj.mapSeq f),toks:=t'}:=by
 have q:=PySem.IsL.update e f
 rw[hf] at q
 refine I.write (x:=l) (e:=l) (by rw[hH];exact trivial) (.inl rfl) (fun b' u hb hu=>(Heap.get?_update_other s.heap (Obj.mapSeq f) (Ne.symm hb)).trans hu) ⟨_,q⟩ ?_
 exact⟨hz,its',_,hv,q⟩
theorem Inv.lnew {its:List Value}{t':Nat}(I:Inv X pins σ H s) (hv:a8 ys its) (hz:ys.length≤sizeLine):
  Inv X pins σ (upd H s.heap.objs.size (.lst ys)) {s with heap:=s.heap.push {cls:=.type "list",data:=.seq its.toArray},toks:=t'}:=
 I.laid (fun _ _ q=>Heap.get?_push_of_some _ q) (Nat.le_refl _) ⟨hz,its,0,hv,Heap.get?_push_size _ rfl⟩
theorem Inv.fresh (I:Inv X pins σ H s):H s.heap.objs.size=none:=I.hok.fresh (Nat.le_refl _)
theorem Inv.lstM (I:Inv X pins σ H s) (hH:H l=some (.lst xs)):xs.length≤sizeLine∧ ∃(its:List Value) (n:Nat),a8 xs its∧xs.length=its.length∧s.heap.get? l=some {cls:=.type "list",data:=.seq its.toArray n}:=by
 obtain⟨z,its,n,r,e⟩:=I.hok l _ hH
 exact⟨z,its,n,r,r.length,e⟩
theorem Et {n:Nat}(h:n≤sizeLine):Builtin.List.listTooLong n=false:=by
 unfold Builtin.List.listTooLong
 exact decide_eq_false (by omega)
end
section
variable {X:Cx}
def Lz:V→List V→Hp→VK→Prop:=fun x vs H Q=> ∃l xs y,x=.ref l∧vs=[y]∧H l=some (.lst xs)∧xs.length<sizeLine∧Q .non (upd H l (.lst (xs++[y])))
theorem fc:MtM X "list.append" Lz:=by
 intro pins s σ H x vs v us Q I rx rv h
 obtain⟨l,xs,y,rfl,rfl,hH,hz,q⟩:=h
 cases rx
 obtain⟨u,rfl,ru⟩:=rv.one
 obtain⟨z,its,n,r,hl,e⟩:=I.lstM hH
 refine call_meets F.slot_list_append ⟨_,e,rfl⟩ F.entry_list_append (F.args_list_append_2 _ _) (PySem.list_append l its.toArray n u (by rw[List.size_toArray];omega)) ⟨e,?_⟩
 refine⟨.non,_,I.lset (its':=its++[u]) hH e (by simp) (r.append (.cons ru .nil)) ?_,rfl,q⟩
 rw[List.length_append,List.length_singleton]
 omega
def Ly:V→List V→Hp→VK→Prop:=fun x vs H Q=> ∃l b xs zs,x=.ref l∧vs=[.ref b]∧H l=some (.lst xs)∧H b=some (.lst zs)∧xs.length+zs.length≤sizeLine∧Q .non (upd H l (.lst (xs++zs)))
theorem Hu:MtM X "list.extend" Ly:=by
 intro pins s σ H x vs v us Q I rx rv h
 obtain⟨l,b,xs,zs,rfl,rfl,hH,hB,hz,q⟩:=h
 cases rx
 obtain⟨u,rfl,ru⟩:=rv.one
 cases ru
 obtain⟨z,its,n,r,hl,e⟩:=I.lstM hH
 obtain⟨z2,its2,n2,r2,hl2,e2⟩:=I.lstM hB
 have hsz:its.toArray.size+its2.toArray.size≤sizeLine:=by rw[List.size_toArray,List.size_toArray];omega
 have hlong: ¬(!its.toArray.isEmpty && Builtin.List.listTooLong (its.toArray.size+its2.toArray.size))=true:=by
  rw[Et hsz,Bool.and_false]
  exact Bool.false_ne_true
 refine call_meets F.slot_list_extend ⟨_,e,rfl⟩ F.entry_list_extend (F.args_list_extend_2 _ _)
  (AutoSeq1.list_extend_list_list_0 l its.toArray n b its2.toArray n2 hlong (by rw[List.size_toArray];omega) (by omega)) ⟨e,e2,?_⟩
 refine⟨.non,_,I.lset (its':=its++its2) hH e (by simp) (r.append r2) ?_,rfl,q⟩
 rw[List.length_append]
 omega
def PH:V→List V→Hp→VK→Prop:=fun x vs H Q=> ∃l xs y,x=.ref l∧vs=[]∧H l=some (.lst xs)∧xs[xs.length-1]? =some y∧Q y (upd H l (.lst xs.dropLast))
theorem Nz:MtM X "list.pop" PH:=by
 intro pins s σ H x vs v us Q I rx rv h
 obtain⟨l,xs,y,rfl,rfl,hH,hy,q⟩:=h
 cases rx
 have hus:=rv.zero
 subst hus
 obtain⟨z,its,n,r,hl,e⟩:=I.lstM hH
 obtain⟨u,hu,ru⟩:=r.get hy
 have hy':its.toArray[its.toArray.size-1]? =some u:=by
  show its.toArray[its.length-1]? =some u
  rw[←Array.getElem?_toList,←hl]
  exact hu
 refine call_meets F.slot_list_pop ⟨_,e,rfl⟩ F.entry_list_pop (F.args_list_pop_1 _) (MeetsSeq.list_pop_last l its.toArray n u hy' (by rw[List.size_toArray];omega)) ⟨e,?_⟩
 refine⟨y,_,I.lset (its':=its.dropLast) hH e ?_ r.dropLast ?_,ru,q⟩
 ·show its.toArray.eraseIdxIfInBounds (its.toArray.size-1)=its.dropLast.toArray
  rw[List.size_toArray,List.eraseIdxIfInBounds_toArray,F2]
 ·rw[List.length_dropLast]
  omega
def PK:R2:=fun x y H Q=> ∃l b xs zs,x=.ref l∧y=.ref b∧H l=some (.lst xs)∧H b=some (.lst zs)∧xs.length+zs.length≤sizeLine∧ ∀p,H p=none→Q (.ref p) (upd H p (.lst (xs++zs)))
theorem Nu:OpR X (binaryOp .Add) PK:=by
 intro pins s σ H x y v u Q I rx ry h
 obtain⟨l,b,xs,zs,rfl,rfl,hH,hB,hz,q⟩:=h
 cases rx
 cases ry
 obtain⟨z,its,n,r,hl,e⟩:=I.lstM hH
 obtain⟨z2,its2,n2,r2,hl2,e2⟩:=I.lstM hB
 refine PySem.P.add_list e e2 ?_ (by rw[List.size_toArray,List.size_toArray];omega)
 have ea:its.toArray++its2.toArray=(its++its2).toArray:=by simp
 rw[ea]
 exact⟨.ref _,_,I.lnew (t':=s.toks) (r.append r2) (by rw[List.length_append];omega),rfl,q _ I.fresh⟩
def PF:R2:=fun x y H Q=> ∃l k xs,x=.ref l∧y=.int k∧H l=some (.lst xs)∧ -(2^63)≤k∧k<2^63∧xs.length*k.toNat≤sizeLine∧
 ∀p,H p=none→Q (.ref p) (upd H p (.lst (List.replicate k.toNat xs).flatten))
theorem L0 {α:Type}(xs:List α) (k:Nat):(List.replicate k xs).flatten.length=k*xs.length:=by
 induction k with
 |zero=>simp
 |succ k ih=>rw[List.replicate_succ,List.flatten_cons,List.length_append,ih,Nat.succ_mul,Nat.add_comm]
theorem JF:OpR X (binaryOp .Mult) PF:=by
 intro pins s σ H x y v u Q I rx ry h
 obtain⟨l,k,xs,rfl,rfl,hH,h1,h2,hz,q⟩:=h
 cases rx
 obtain⟨t,rfl⟩:=ry
 obtain⟨z,its,n,r,hl,e⟩:=I.lstM hH
 have hlen:its.toArray.size*k.toNat≤sizeLine:=by rw[List.size_toArray,←hl];exact hz
 have hcap: ¬its.toArray.size*k.toNat>(2^63-1)/8:=by
  have:(sizeLine:Nat)≤(2^63-1)/8:=by decide
  omega
 have hfit: ¬(!Builtin.List.listFitsIndex k)=true:=by
  rw[fitsIndex_both h1 h2]
  exact Bool.false_ne_true
 have hlong: ¬Builtin.List.listTooLong (its.toArray.size*k.toNat)=true:=by
  rw[Et hlen]
  exact Bool.false_ne_true
 have hnew:List.foldl (fun x1 x2=>x1++x2) #[] (List.replicate (if its.toArray.isEmpty=true then 0 else k.toNat) its.toArray)=(List.replicate k.toNat its).flatten.toArray:=by
  have f0: ∀m:Nat,List.foldl (fun x1 x2=>x1++x2) #[] (List.replicate m its.toArray)=(List.replicate m its).flatten.toArray:=fun m=>by
   have:=BC its m []
   rw[List.nil_append] at this
   exact this
  rw[f0]
  cases its with
  |nil=>simp
  |cons a r'=>rw[if_neg (by simp)]
 refine wpAny_binaryOp_repeat_ref (T:="list") (U:="int") (by decide) ⟨_,e,rfl⟩ (fun s'=>typeIs_int s' k t) noFill_list_mul F.fills_int_mul F.slot_int_rmul repeat_list F.slot_int_index.lookup
  (call_meets F.slot_int_rmul (typeIs_int s k t) F.entry_int_rmul (F.args_int_rmul_2 _ _) (int___rmul___int_list k t l its.toArray n)
   ⟨e,rfl,⟨_,e,rfl⟩,call_meets F.slot_list_mul ⟨_,e,rfl⟩ F.entry_list_mul (F.args_list_mul_2 _ _) (AutoListH.list___mul___list_int_3 l its.toArray n k t hfit hcap hlong) ⟨e,?_⟩⟩)
 rw[hnew]
 exact⟨.ref _,_,I.lnew (t':=s.toks) (r.rep k.toNat) (by rw[L0,Nat.mul_comm];exact hz),rfl,q _ I.fresh⟩
end
section
variable {prog:Program}{w:World}{A:Around}{E:Value→Shared→Prop}{s:Shared}
end
section
variable {X:Cx}
end
end L2
namespace L2
open PySem PySem.Spec PyProof.Rows
section
variable {κ:Type} [DecidableEq κ]
def bh (kvs:List (κ×V)) (k:κ):Option V:=(kvs.find? fun kv=>decide (kv.1=k)).map (·.2)
def gv (kvs:List (κ×V)) (k:κ) (v:V):List (κ×V):=
 if(kvs.any fun kv=>decide (kv.1=k))=true then kvs.map (fun kv=>if kv.1=k then(kv.1,v) else kv) else kvs++[(k,v)]
def gx (kvs:List (κ×V)) (k:κ):List (κ×V):=kvs.filter fun kv=>decide (kv.1≠k)
theorem bw {p:κ×V}{r:List (κ×V)}{k:κ}(e:p.1=k):bh (p::r) k=some p.2:=by simp[bh,List.find?_cons,e]
theorem bP {p:κ×V}{r:List (κ×V)}{k:κ}(e: ¬p.1=k):bh (p::r) k=bh r k:=by simp[bh,List.find?_cons,e]
theorem iH (k:κ): ∀kvs:List (κ×V),(kvs.any fun kv=>decide (kv.1=k))=(bh kvs k).isSome
 | []=>rfl
 |p::r=>by
  rw[List.any_cons]
  by_cases e:p.1=k
  ·simp only[bw e,decide_eq_true e,Bool.true_or,Option.isSome_some]
  ·rw[bP e,decide_eq_false e,Bool.false_or];exact iH k r
theorem DP (k j:κ) (y:V): ∀kvs:List (κ×V),bh (kvs.map fun kv=>if kv.1=k then(kv.1,y) else kv) j=(bh kvs j).map fun x=>if j=k then y else x
 | []=>rfl
 |p::r=>by
  have ih:=DP k j y r
  rw[List.map_cons]
  by_cases h:p.1=k
  ·rw[if_pos h]
   by_cases e:p.1=j
   ·rw[bw (p:=(p.1,y)) e,bw e,Option.map_some,if_pos (e.symm.trans h)]
   ·rw[bP (p:=(p.1,y)) e,bP e,ih]
  ·rw[if_neg h]
   by_cases e:p.1=j
   ·rw[bw (p:=p) e,bw e,Option.map_some,if_neg (fun z=>h (e.trans z))]
   ·rw[bP (p:=p) e,bP e,ih]
theorem Bn (k j:κ) (y:V): ∀kvs:List (κ×V),bh kvs k=none→bh (kvs++[(k,y)]) j=if j=k then some y else bh kvs j
 | [],_=>by
  by_cases e:k=j
  ·rw[if_pos e.symm];exact bw (p:=(k,y)) e
  ·rw[if_neg (fun z=>e z.symm)];exact bP (p:=(k,y)) e
 |p::r,hn=>by
  rw[List.cons_append]
  have hk: ¬p.1=k:=fun z=>by rw[bw z] at hn;cases hn
  rw[bP hk] at hn
  have ih:=Bn k j y r hn
  by_cases e:p.1=j
  ·rw[bw e,bw e,if_neg (fun z=>hk (e.trans z))]
  ·rw[bP e,bP e,ih]
theorem tw (kvs:List (κ×V)) (k j:κ) (y:V):bh (gv kvs k y) j=if j=k then some y else bh kvs j:=by
 unfold gv
 by_cases a:(kvs.any fun kv=>decide (kv.1=k))=true
 ·rw[if_pos a,DP]
  rw[iH] at a
  by_cases e:j=k
  ·obtain⟨x,hx⟩:=Option.isSome_iff_exists.mp a
   rw[if_pos e,e,hx,Option.map_some,if_pos rfl]
  ·rw[if_neg e]
   cases bh kvs j with
   |none=>rfl
   |some x=>rw[Option.map_some,if_neg e]
 ·rw[if_neg a]
  refine Bn k j y kvs ?_
  rw[iH] at a
  cases q:bh kvs k with
  |none=>rfl
  |some x=>rw[q] at a;exact(a rfl).elim
theorem pL (kvs:List (κ×V)) (k:κ) (v:V):(gv kvs k v).length≤kvs.length+1:=by
 unfold gv
 split
 ·rw[List.length_map];omega
 ·rw[List.length_append,List.length_cons,List.length_nil];omega
theorem Ef {kvs:List (κ×V)}{k:κ}(v:V) (h:bh kvs k=none):gv kvs k v=kvs++[(k,v)]:=by
 unfold gv
 rw[iH,h]
 exact if_neg (by decide)
theorem mh.isSome_eq {o:Option V}{u:Option Value}(r:mh o u):o.isSome=u.isSome:=by
 cases o with
 |none=>cases u with
  |none=>rfl
  |some _=>exact(show False from r).elim
 |some _=>cases u with
  |none=>exact(show False from r).elim
  |some _=>rfl
theorem mh.getD {o:Option V}{u:Option Value}{d:V}{d':Value}(r:mh o u) (rd:aZ d d'):aZ (o.getD d) (u.getD d'):=by
 cases o with
 |none=>cases u with
  |none=>exact rd
  |some _=>exact(show False from r).elim
 |some _=>cases u with
  |none=>exact(show False from r).elim
  |some _=>exact r
theorem KV.val {kvs:List (κ×V)}{vs:List (κ×Value)}(r:KV kvs vs) (k:κ):mh (bh kvs k) (valueAt vs k):=by
 unfold KV at r
 induction r with
 |nil=>exact True.intro
 | @cons p q ps qs h t ih=>
  obtain⟨h1,h2⟩:=h
  by_cases e:p.1=k
  ·have e':q.1=k:=h1.symm.trans e
   have b:valueAt (q::qs) k=some q.2:=by simp[valueAt,List.find?_cons,e']
   rw[bw e,b];exact h2
  ·have e': ¬q.1=k:=fun z=>e (h1.trans z)
   have b:valueAt (q::qs) k=valueAt qs k:=by simp[valueAt,List.find?_cons,e']
   rw[bP e,b];exact ih
theorem KV.any {kvs:List (κ×V)}{vs:List (κ×Value)}(r:KV kvs vs) (k:κ):(kvs.any fun kv=>decide (kv.1=k))=vs.any fun kv=>decide (kv.1=k):=by
 unfold KV at r
 induction r with
 |nil=>rfl
 |cons h t ih=>rw[List.any_cons,List.any_cons,ih,h.1]
theorem KV.repl {kvs:List (κ×V)}{vs:List (κ×Value)}(r:KV kvs vs) (k:κ) {y:V}{u:Value}(ry:aZ y u):
  KV (kvs.map fun kv=>if kv.1=k then(kv.1,y) else kv) (vs.map fun kv=>if kv.1=k then(kv.1,u) else kv):=by
 unfold KV at r⊢
 induction r with
 |nil=>exact .nil
 | @cons p q ps qs h t ih=>
  rw[List.map_cons,List.map_cons]
  refine .cons ?_ ih
  obtain⟨h1,h2⟩:=h
  by_cases e:p.1=k
  ·rw[if_pos e,if_pos (h1.symm.trans e)];exact⟨h1,ry⟩
  ·rw[if_neg e,if_neg (fun z=>e (h1.trans z))];exact⟨h1,h2⟩
theorem KV.put {kvs:List (κ×V)}{vs:List (κ×Value)}(r:KV kvs vs) (k:κ) {y:V}{u:Value}(ry:aZ y u):KV (gv kvs k y) (stored vs k u):=by
 unfold gv stored
 rw[r.any k]
 by_cases e:(vs.any fun kv=>decide (kv.1=k))=true
 ·rw[if_pos e,if_pos e];exact r.repl k ry
 ·rw[if_neg e,if_neg e];exact Paired.snoc r ⟨rfl,ry⟩
theorem KV.drop {kvs:List (κ×V)}{vs:List (κ×Value)}(r:KV kvs vs) (k:κ):KV (gx kvs k) (without vs k):=by
 unfold KV at r⊢
 unfold gx without
 induction r with
 |nil=>exact .nil
 | @cons p q ps qs h t ih=>
  obtain⟨h1,h2⟩:=h
  rw[List.filter_cons,List.filter_cons]
  by_cases e:p.1=k
  ·have a: ¬decide (p.1≠k)=true:=by simp[e]
   have b: ¬decide (q.1≠k)=true:=by simp[h1.symm.trans e]
   rw[if_neg a,if_neg b];exact ih
  ·have e': ¬q.1=k:=fun z=>e (h1.trans z)
   have a:decide (p.1≠k)=true:=by simp[e]
   have b:decide (q.1≠k)=true:=by simp[e']
   rw[if_pos a,if_pos b];exact .cons ⟨h1,h2⟩ ih
theorem KV.length {kvs:List (κ×V)}{vs:List (κ×Value)}(r:KV kvs vs):kvs.length=vs.length:=Paired.length r
theorem EN (kvs:List (κ×V)) (k:κ):(gx kvs k).length≤kvs.length:=List.length_filter_le _ _
end
theorem t5 {P:Program}{w:World}{k:Key}{u:Value}(r:aZ (kV k) u):(aT P w).is k u=true:=by
 cases k with
 |inl i=>obtain⟨t,e⟩:=(show∃t,u=Value.int i t from r);subst e;exact Ey P w i t
 |inr x=>obtain⟨t,e⟩:=(show∃t,u=Value.str x t from r);subst e;exact wn P w x t
theorem vA {P:Program}{w:World}: ∀{ks:List Key}{us:List Value},a8 (ks.map kV) us→ItemsAre (aT P w) ks us
 | [],_,r=>by rw[List.map_nil] at r;cases r;exact .nil
 |k::ks,_,r=>by
  rw[List.map_cons] at r
  cases r with
  |cons h t=>exact .cons (t5 h) (vA t)
abbrev KT (H:Hp):List (List Key×V)→List (List Key×Addr×Value)→Prop:=Paired fun p q=>p.1=q.1∧H q.2.1=some (.tup (p.1.map kV))∧aZ p.2 q.2.2
theorem KT.val {H:Hp}{kvs:List (List Key×V)}{xs:List (List Key×Addr×Value)}(r:KT H kvs xs) (k:List Key):mh (bh kvs k) ((atKey xs k).map (·.2)):=by
 induction r with
 |nil=>exact True.intro
 | @cons p q ps qs h t ih=>
  obtain⟨h1,_,h2⟩:=h
  by_cases e:p.1=k
  ·have e':q.1=k:=h1.symm.trans e
   have b:atKey (q::qs) k=some q.2:=by simp[atKey,List.find?_cons,e']
   rw[bw e,b];exact h2
  ·have e': ¬q.1=k:=fun z=>e (h1.trans z)
   have b:atKey (q::qs) k=atKey qs k:=by simp[atKey,List.find?_cons,e']
   rw[bP e,b];exact ih
theorem KT.repl {H:Hp}{kvs:List (List Key×V)}{xs:List (List Key×Addr×Value)}(r:KT H kvs xs) (k:List Key) {y:V}{u:Value}(ry:aZ y u):
  KT H (kvs.map fun kv=>if kv.1=k then(kv.1,y) else kv) (xs.map (putAt k u)):=by
 induction r with
 |nil=>exact .nil
 | @cons p q ps qs h t ih=>
  rw[List.map_cons,List.map_cons]
  refine .cons ?_ ih
  obtain⟨h1,h2,h3⟩:=h
  unfold putAt
  by_cases e:p.1=k
  ·rw[if_pos e,if_pos (h1.symm.trans e)];exact⟨h1,h2,ry⟩
  ·rw[if_neg e,if_neg (fun z=>e (h1.trans z))];exact⟨h1,h2,h3⟩
theorem KT.put {H:Hp}{kvs:List (List Key×V)}{xs:List (List Key×Addr×Value)}(r:KT H kvs xs) (k:List Key) {b:Addr}{y:V}{u:Value}(hb:H b=some (.tup (k.map kV))) (ry:aZ y u):
  KT H (gv kvs k y) (storedH xs k b u):=by
 have e:(kvs.any fun kv=>decide (kv.1=k))=(atKey xs k).isSome:=by
  rw[iH,(r.val k).isSome_eq,Option.isSome_map]
 unfold gv storedH
 rw[e]
 by_cases q:(atKey xs k).isSome=true
 ·rw[if_pos q,if_pos q];exact r.repl k ry
 ·rw[if_neg q,if_neg q];exact Paired.snoc r ⟨rfl,hb,ry⟩
theorem KT.keeps {H H':Hp}{kvs:List (List Key×V)}{xs:List (List Key×Addr×Value)}(r:KT H kvs xs) (ht: ∀b ys,H b=some (.tup ys)→H' b=some (.tup ys)):KT H' kvs xs:=
 Paired.mapP r fun _ _ z=>⟨z.1,ht _ _ z.2.1,z.2.2⟩
section
variable {P:Program}{w:World}{H:Hp}{h:Heap}{a:Addr}
theorem Mq {u:HO}(ok:HOk P w H h) (e:Rd H a u):cp P w H h a u:=e.ok ok
theorem ui {kvs:List (Key×V)}(ok:HOk P w H h) (e:Rd H a (.dK kvs)):kvs.length≤sizeLine∧(a==sysModules)=false∧ ∃vs,KV kvs vs∧h.DictOf (aT P w) a vs:=
 show cp P w H h a (.dK kvs) from Mq ok e
theorem MD {kvs:List (Key×V)}(ok:HOk P w H h) (e:H a=some (.dK kvs)):kvs.length≤sizeLine∧(a==sysModules)=false∧ ∃vs,KV kvs vs∧h.DictOf (aT P w) a vs:=ui ok (.inl e)
theorem sd {ks:List Key}(ok:HOk P w H h) (e:H a=some (.tup (ks.map kV))):(tupleKind (aT P w)).is h ks a:=by
 obtain⟨_,its,r,o,h1,h2,n,h3⟩:=(show cp P w H h a (.tup (ks.map kV)) from ok a _ e)
 exact⟨o,its.toArray,n,h1,h2,h3,by simpa using vA r⟩
theorem ww {kvs:List (List Key×V)}(ok:HOk P w H h) (e:Rd H a (.dT kvs)):kvs.length≤sizeLine∧(a==sysModules)=false∧
  ∃xs,KT H kvs xs∧h.DictOfH (tupleKind (aT P w)) a xs:=by
 obtain⟨z,y,xs,r,o,es,ep,h1,h2,h3,h4,h5⟩:=(show cp P w H h a (.dT kvs) from Mq ok e)
 refine⟨z,y,xs,r,o,es,ep,h1,h2,h3,h4,fun x hx=> ?_,h5⟩
 have all: ∀{l:List (List Key×V)}{m:List (List Key×Addr×Value)},KT H l m→ ∀x∈m,(tupleKind (aT P w)).is h x.1 x.2.1:=by
  intro l m q
  induction q with
  |nil=>intro x hx;exact nomatch hx
  | @cons p q ps qs hq t ih=>
   intro x hx
   rcases List.mem_cons.mp hx with e |hx
   ·subst e
    exact sd ok (by rw[←hq.1];exact hq.2.1)
   ·exact ih x hx
 exact all r x hx
theorem Ph {kvs:List (List Key×V)}(ok:HOk P w H h) (e:H a=some (.dT kvs)):kvs.length≤sizeLine∧(a==sysModules)=false∧
  ∃xs,KT H kvs xs∧h.DictOfH (tupleKind (aT P w)) a xs:=ww ok (.inl e)
end
def e8 (H:Hp) (a:Addr) (y:V) (r:Option V):Prop:=
 (∃kvs k,Rd H a (.dK kvs)∧y=kV k∧r=bh kvs k)∨ ∃kvs k b,Rd H a (.dT kvs)∧y=.ref b∧H b=some (.tup (k.map kV))∧r=bh kvs k
def Ml (H:Hp) (a:Addr) (y v:V) (H':Hp):Prop:=
 (∃kvs k,H a=some (.dK kvs)∧y=kV k∧kvs.length<sizeLine∧H'=upd H a (.dK (gv kvs k v)))∨
 ∃kvs k b,H a=some (.dT kvs)∧y=.ref b∧H b=some (.tup (k.map kV))∧kvs.length<sizeLine∧H'=upd H a (.dT (gv kvs k v))
theorem e8.k {H:Hp}{a:Addr}{kvs:List (Key×V)}{k:Key}(e:H a=some (.dK kvs)):e8 H a (kV k) (bh kvs k):=.inl ⟨kvs,k,.inl e,rfl,rfl⟩
theorem Ml.k {H:Hp}{a:Addr}{kvs:List (Key×V)}{k:Key}{v:V}(e:H a=some (.dK kvs)) (hl:kvs.length<sizeLine):Ml H a (kV k) v (upd H a (.dK (gv kvs k v))):=.inl ⟨kvs,k,e,rfl,hl,rfl⟩
section
variable {X:Cx}{pins:List (Addr×Obj)}{σ:St}{H:Hp}{s:Shared}{a:Addr}{y v:V}{u r:Value}{o:Option V}{A:Around}{E:Value→Shared→Prop}
theorem Inv.big (I:Inv X pins σ H s):sysModules<s.heap.objs.size:=by
 have h:mainGlobals<s.heap.objs.size:=(I.mod.glob.keeps I.bk).lt
 exact Nat.lt_trans (by decide) h
theorem HY {Q:Value→Shared→Prop}(hu:A.units+1<cLine) (I:Inv X pins σ H s) (g:e8 H a y (some v)) (ry:aZ y u) (h: ∀w' s',Inv X pins σ H s'→aZ v w'→Q w' s'):
  wpAny (model X.prog X.w) A (getItem (.ref a) u) Q E s:=by
 rcases g with⟨kvs,k,e,ey,l⟩ |⟨kvs,k,b,e,ey,eb,l⟩
 ·subst ey
  obtain⟨z,hd,vs,rel,dd⟩:=ui I.hok e
  obtain⟨w',hw,rw'⟩:=mh.some_of (v:=v) (o:=valueAt vs k) (by rw[l];exact rel.val k)
  exact wpAny_getItem_of (t5 ry) dd.mapOf hw (h w' _ (I.tok _) rw')
 ·subst ey
  cases (show u=Value.ref b from ry)
  obtain⟨z,hd,xs,rel,dd⟩:=ww I.hok e
  obtain⟨w',hw,rw'⟩:=mh.some_of (v:=v) (o:=(atKey xs k).map (·.2)) (by rw[l];exact rel.val k)
  obtain⟨p,hp,hp2⟩:=Option.map_eq_some_iff.mp hw
  refine wpAny_getItem_heap (tupleKind_room_in1 hu) (sd I.hok eb) dd hp ?_
  rw[hp2]
  exact h w' _ (I.tok _) rw'
theorem PU {Q:Value→Shared→Prop}(hu:A.units+1<cLine) (I:Inv X pins σ H s) (g:e8 H a y o) (ry:aZ y u) (h: ∀s',Inv X pins σ H s'→Q (.bool o.isSome) s'):
  wpAny (model X.prog X.w) A (compareOp .In u (.ref a)) Q E s:=by
 rcases g with⟨kvs,k,e,ey,l⟩ |⟨kvs,k,b,e,ey,eb,l⟩
 ·subst ey
  obtain⟨z,hd,vs,rel,dd⟩:=ui I.hok e
  refine wpAny_in_of (t5 ry) hd dd.mapOf ?_
  rw[←(rel.val k).isSome_eq,←l]
  exact h _ (I.tok _)
 ·subst ey
  cases (show u=Value.ref b from ry)
  obtain⟨z,hd,xs,rel,dd⟩:=ww I.hok e
  refine wpAny_in_heap (tupleKind_room_in1 hu) (sd I.hok eb) hd dd ?_
  have q:=(rel.val k).isSome_eq
  rw[Option.isSome_map] at q
  rw[←q,←l]
  exact h _ (I.tok _)
theorem GL {Q:Value→Shared→Prop}(hu:A.units+1<cLine) (I:Inv X pins σ H s) (g:e8 H a y o) (ry:aZ y u) (h: ∀s',Inv X pins σ H s'→Q (.bool (!o.isSome)) s'):
  wpAny (model X.prog X.w) A (compareOp .NotIn u (.ref a)) Q E s:=by
 rcases g with⟨kvs,k,e,ey,l⟩ |⟨kvs,k,b,e,ey,eb,l⟩
 ·subst ey
  obtain⟨z,hd,vs,rel,dd⟩:=ui I.hok e
  refine wpAny_notIn_of (t5 ry) hd dd.mapOf ?_
  rw[←(rel.val k).isSome_eq,←l]
  exact h _ (I.tok _)
 ·subst ey
  cases (show u=Value.ref b from ry)
  obtain⟨z,hd,xs,rel,dd⟩:=ww I.hok e
  refine wpAny_notIn_heap (tupleKind_room_in1 hu) (sd I.hok eb) hd dd ?_
  have q:=(rel.val k).isSome_eq
  rw[Option.isSome_map] at q
  rw[←q,←l]
  exact h _ (I.tok _)
theorem uj {h':Heap}{t':Nat}{ob:HO}(I:Inv X pins σ H s) (mu:Mut (H a)) (hs:Heap.SameBut a s.heap h') (he: ∃q,h'.get? a=some q) (new:cp X.prog X.w (upd H a ob) h' a ob):
  Inv X pins σ (upd H a ob) {s with heap:=h',toks:=t'}:=
 I.write (x:=a) (e:=a) mu (.inl rfl) (fun b q hb z=>(hs.2 b hb).trans z) he new
theorem Kk {P:Program}{w:World}{H':Hp}{h':Heap}{kvs:List (Key×V)}{vs:List (Key×Value)}(z:kvs.length≤sizeLine) (hd:(a==sysModules)=false) (rel:KV kvs vs) (dd:h'.DictOf (aT P w) a vs):
  cp P w H' h' a (.dK kvs):=⟨z,hd,vs,rel,dd⟩
theorem HX {H':Hp}{Q:Unit→Shared→Prop}(hu:A.units+1<cLine) (I:Inv X pins σ H s) (g:Ml H a y v H') (ry:aZ y u) (rv:aZ v r) (h: ∀s',Inv X pins σ H' s'→Q () s'):
  wpAny (model X.prog X.w) A (setItem (.ref a) u r) Q E s:=by
 rcases g with⟨kvs,k,e,ey,l,eH⟩ |⟨kvs,k,b,e,ey,eb,l,eH⟩
 ·subst ey eH
  obtain⟨z,hd,vs,rel,dd⟩:=MD I.hok e
  have hz:vs.length≤sizeLine:=by rw[←rel.length];exact z
  have hl:(gv kvs k v).length≤sizeLine:=by have:=pL kvs k v;omega
  refine wpAny_setItem_pairs (hsz:=hz) (t5 ry) dd fun h' dd' hs=>h _ ?_
  have he: ∃q,h'.get? a=some q:=let⟨q,_,_,hq,_⟩:=dd';⟨q,hq⟩
  exact uj I (by rw[e];exact True.intro) hs he (Kk hl hd (rel.put k rv) dd')
 ·subst ey eH
  cases (show u=Value.ref b from ry)
  obtain⟨z,hd,xs,rel,dd⟩:=Ph I.hok e
  have hz:xs.length≤sizeLine:=by rw[←Paired.length rel];exact z
  have hl:(gv kvs k v).length≤sizeLine:=by have:=pL kvs k v;omega
  refine wpAny_setItem_heap (hsz:=hz) (tupleKind_room_in1 hu) (sd I.hok eb) dd fun h' dd' hs=>h _ ?_
  obtain⟨q,es,ep,hq,h2,h3,h4,_,h5⟩:=dd'
  refine uj I (by rw[e];exact True.intro) hs ⟨q,hq⟩ ⟨hl,hd,_,(rel.put k eb rv).keeps fun c ys ec=> ?_,q,es,ep,hq,h2,h3,h4,h5⟩
  rw[aj (OV ec e (fun z=>nomatch z))]
  exact ec
end
section
variable {X:Cx}{pins:List (Addr×Obj)}{σ:St}{H:Hp}{s:Shared}{a:Addr}{kvs:List (Key×V)}{k:Key}{u:Value}{A:Around}{E:Value→Shared→Prop}
theorem Pj {v:V}{more:List Value}{Q:Value→Shared→Prop}(I:Inv X pins σ H s) (e:H a=some (.dK kvs)) (ry:aZ (kV k) u) (l:bh kvs k=some v) (hm:more=[]∨ ∃x,more=[x])
  (h: ∀w' s',Inv X pins σ (upd H a (.dK (gx kvs k))) s'→aZ v w'→Q w' s'):wpAny (model X.prog X.w) A (call (.builtin "dict.pop") (.ref a::u::more)) Q E s:=by
 obtain⟨z,hd,vs,rel,dd⟩:=MD I.hok e
 obtain⟨w',hw,rw'⟩:=mh.some_of (v:=v) (o:=valueAt vs k) (by rw[←l];exact rel.val k)
 have hp:(keyPart u).isSome=true:=by
  cases k with
  |inl i=>obtain⟨t,q⟩:=(show∃t,u=Value.int i t from ry);subst q;rfl
  |inr x=>obtain⟨t,q⟩:=(show∃t,u=Value.str x t from ry);subst q;rfl
 have ha:argsOk "dict.pop" ⟨.ref a::u::more,[]⟩:=by
  rcases hm with q |⟨x,q⟩
  ·subst q;exact PySem.F.args_dict_pop_2 _ _
  ·subst q;exact PySem.F.args_dict_pop_3 _ _ _
 refine call_meetsIn PySem.F.slot_dict_pop dd.typeIs PySem.F.entry_dict_pop ha (meets_dict_pop_there (aT X.prog X.w) a (t5 ry) more hm hp)
  ⟨vs,w',dd,by rw[←rel.length];exact z,hw,fun h' dd' hs=>h w' _ ?_ rw'⟩
 have he: ∃q,h'.get? a=some q:=let⟨q,_,_,hq,_⟩:=dd';⟨q,hq⟩
 exact uj I (by rw[e];exact True.intro) hs he (Kk (Nat.le_trans (EN kvs k) z) hd (rel.drop k) dd')
theorem Pk {Q:Value→Shared→Prop}(I:Inv X pins σ H s) (e:Rd H a (.dK kvs)) (h: ∀t s',Inv X pins σ H s'→Q (.int kvs.length t) s'):wpAny (model X.prog X.w) A (call (.builtin "len") [.ref a]) Q E s:=by
 obtain⟨z,hd,vs,rel,dd⟩:=ui I.hok e
 refine call_len_dict hd dd (by rw[←rel.length];rw[sizeLine_eq] at z;omega) ?_
 rw[←rel.length]
 exact h _ _ (I.tok _)
end
def Od (i:Expr):Prop:= ∀ov iv,subscripted i false ov iv=operate [ov,iv] (getItem ov iv)
theorem Gp {prog:Program}{w:World}{A:Around}{E:Value→Shared→Prop}{s:Shared}{env:Env}{value slice:Expr}{pos:Pos}{T id:String}{Q:Value→Shared→Prop}
  (hl:typeLookup (.type T) "__getitem__"=pure (some (.builtin id))) (hs:Od slice)
  (h:wpAny (model prog w) A (eval value env) (fun o s₁=>wpAny (model prog w) A (eval slice env) (fun i s₂=>s₂.TypeIs o T∧wpAny (model prog w) A (getItem o i) Q E s₂) E s₁) E s):
  wpAny (model prog w) A (eval (.Subscript value slice pos) env) Q E s:=by
 refine Subscript_ (wpAny_mono h (fun o s₁ h₁=>wpAny_mono h₁ (fun i s₂ h₂=> ?_) fun _ _ x=>x) fun _ _ x=>x)
 obtain⟨hT,h₂⟩:=h₂
 unfold subscriptTail
 refine wpAny_bind ?_
 rw[getitemInPython_of_ne hT.not_modules]
 refine wpAny_bind (wpAny_specialOf hT hl ?_)
 have fin:wpAny (model prog w) A (subscripted slice false o i) (fun r s₃=>wpAny (model prog w) A (letTemporaryGo value o r>>=fun _=>pure r) Q E s₃) E s₂:=by
  rw[hs o i]
  exact wpAny_operating (wpAny_mono h₂ (fun r s₃ h₃=>wpAny_bind (wpAny_letTemporaryGo (wpAny_pure h₃))) fun _ _ x=>x)
 first
  |exact wpAny_pure (wpAny_bind fin)
  |exact wpAny_bind (wpAny_pure (wpAny_bind fin))
  |exact wpAny_bind fin
theorem EO {X:Cx}{pins:List (Addr×Obj)}{σ:St}{H:Hp}{s:Shared}{a:Addr}{y:V}{o:Option V}(I:Inv X pins σ H s) (g:e8 H a y o):s.TypeIs (.ref a) "dict":=by
 rcases g with⟨kvs,k,e,_,_⟩ |⟨kvs,k,b,e,_,_,_⟩
 ·obtain⟨_,_,vs,_,dd⟩:=ui I.hok e
  exact dd.typeIs
 ·obtain⟨_,_,xs,_,dd⟩:=ww I.hok e
  exact dd.typeIs
def OD (td ty:TE):TE:=fun σ H Q=>td σ H fun x H1=>ty σ H1 fun y H2=> ∃a v,x=.ref a∧e8 H2 a y (some v)∧Q v H2
def Px (ty td:TE):TE:=fun σ H Q=>ty σ H fun y H1=>td σ H1 fun x H2=> ∃a o,x=.ref a∧e8 H2 a y o∧Q (.bl o.isSome) H2
def K7 (ty td:TE):TE:=fun σ H Q=>ty σ H fun y H1=>td σ H1 fun x H2=> ∃a o,x=.ref a∧e8 H2 a y o∧Q (.bl (!o.isSome)) H2
section
variable {X:Cx}{o i e value:Expr}{pos pos' tpos:Pos}{td ty tv:TE}
theorem iC (hu:X.A.units+1<cLine) (ho:PE X o td) (hi:PE X i ty) (hs:Od i):PE X (.Subscript o i pos) (OD td ty):=by
 intro pins s σ H Q I h
 refine Gp PySem.F.slot_dict_getitem.lookup hs (thn (ho pins s σ H _ I h) fun u s1 ⟨x,H1,I1,rx,q1⟩=>thn (hi pins s1 σ H1 _ I1 q1) fun iv s2 ⟨y,H2,I2,ry,a,v,ex,g,q2⟩=> ?_)
 subst ex
 obtain rfl:u=Value.ref a:=rx
 exact⟨EO I2 g,HY hu I2 g ry fun w' s3 I3 rw'=>⟨v,H2,I3,rw',q2⟩⟩
theorem JD (hu:X.A.units+1<cLine) (hi:PE X i ty) (ho:PE X o td):PC X .In i o (Px ty td):=by
 intro pins s σ H Q I h
 refine thn (hi pins s σ H _ I h) fun iv s1 ⟨y,H1,I1,ry,q1⟩=>thn (ho pins s1 σ H1 _ I1 q1) fun u s2 ⟨x,H2,I2,rx,a,ov,ex,g,q2⟩=> ?_
 subst ex
 obtain rfl:u=Value.ref a:=rx
 exact PU hu I2 g ry fun s3 I3=>⟨.bl ov.isSome,H2,I3,rfl,q2⟩
theorem Bv (hu:X.A.units+1<cLine) (hi:PE X i ty) (ho:PE X o td):PC X .NotIn i o (K7 ty td):=by
 intro pins s σ H Q I h
 refine thn (hi pins s σ H _ I h) fun iv s1 ⟨y,H1,I1,ry,q1⟩=>thn (ho pins s1 σ H1 _ I1 q1) fun u s2 ⟨x,H2,I2,rx,a,ov,ex,g,q2⟩=> ?_
 subst ex
 obtain rfl:u=Value.ref a:=rx
 exact GL hu I2 g ry fun s3 I3=>⟨.bl (!ov.isSome),H2,I3,rfl,q2⟩
end
theorem Kl {P:Program}{w:World}{H:Hp}(h:Heap) (hb:sysModules<h.objs.size):cp P w H (h.push {cls:=.type "dict",data:=.dict #[]}) h.objs.size (.dK []):=
 ⟨Nat.zero_le _,beq_eq_false_iff_ne.mpr (Ne.symm (Nat.ne_of_lt hb)),[],.nil,Heap.DictOf.new h⟩
def MU:TE:=fun _ H Q=> ∀p,H p=none→Q (.ref p) (upd H p (.dK []))
section
variable {X:Cx}{pos:Pos}
theorem jU:PE X (.Dict [] [] pos) MU:=fun pins s σ H Q I h=>
 wpAny_Dict_empty ⟨.ref s.heap.objs.size,_,I.laid (a:=s.heap.objs.size) (o:=.dK []) (t':=s.toks) (fun _ _ q=>Heap.get?_push_of_some _ q) (Nat.le_refl _) (Kl s.heap I.big),rfl,h _ (I.hok.fresh (Nat.le_refl _))⟩
end
structure M1 (X:Cx) (o:Expr) (m:Str) (apos:Pos) (e:Expr) (cpos:Pos):Prop where
 base:attributeBase o m X.env (eval o X.env)=eval o X.env
 few:((backTo cpos (starEach [e] X.env)).all (fun x=> !x.1) && (backToKw cpos (keywordEach [] X.env)).all (fun x=>x.1.isSome)
  && decide (([e]:List Expr).length+([]:List Keyword).length+(if([]:List Keyword).isEmpty then 0 else 1)<30))=true
 line:(apos.endLine==cpos.line)=true
 trees:backTo cpos (starEach [e] X.env)=[(false,eval e X.env)]
structure M2 (X:Cx) (o:Expr) (m:Str) (apos:Pos) (e f:Expr) (cpos:Pos):Prop where
 base:attributeBase o m X.env (eval o X.env)=eval o X.env
 few:((backTo cpos (starEach [e,f] X.env)).all (fun x=> !x.1) && (backToKw cpos (keywordEach [] X.env)).all (fun x=>x.1.isSome)
  && decide (([e,f]:List Expr).length+([]:List Keyword).length+(if([]:List Keyword).isEmpty then 0 else 1)<30))=true
 line:(apos.endLine==cpos.line)=true
 trees:backTo cpos (starEach [e,f] X.env)=[(false,eval e X.env),(false,eval f X.env)]
def IsD (H:Hp) (a:Addr):Prop:=(∃kvs,Rd H a (.dK kvs))∨ ∃kvs,Rd H a (.dT kvs)
theorem FV {X:Cx}{pins:List (Addr×Obj)}{σ:St}{H:Hp}{s:Shared}{a:Addr}(I:Inv X pins σ H s) (d:IsD H a):
  s.TypeIs (.ref a) "dict"∧(∀b,Value.ref a=.ref b→ ∃ob,s.heap.get? b=some ob∧ob.dict=none)∧(a==sysModules)=false:=by
 rcases d with⟨kvs,e⟩ |⟨kvs,e⟩
 ·obtain⟨_,hd,vs,_,dd⟩:=ui I.hok e
  refine⟨dd.typeIs,fun b q=> ?_,hd⟩
  cases q
  obtain⟨ob,_,_,h1,h2,_⟩:=dd
  exact⟨ob,h1,h2.2.1⟩
 ·obtain⟨_,hd,xs,_,dd⟩:=ww I.hok e
  refine⟨dd.typeIs,fun b q=> ?_,hd⟩
  cases q
  obtain⟨ob,_,_,h1,h2,_⟩:=dd
  exact⟨ob,h1,h2.2.1⟩
section
variable {X:Cx}{pins:List (Addr×Obj)}{σ:St}{H:Hp}{s:Shared}{a:Addr}{y d:V}{u r:Value}{o:Option V}{A:Around}{E:Value→Shared→Prop}
theorem NY {Q:Value→Shared→Prop}(hu:A.units+1<cLine) (I:Inv X pins σ H s) (g:e8 H a y o) (ry:aZ y u) (h: ∀w' s',Inv X pins σ H s'→aZ (o.getD .non) w'→Q w' s'):
  wpAny (model X.prog X.w) A (call (.builtin "dict.get") [.ref a,u]) Q E s:=by
 rcases g with⟨kvs,k,e,ey,l⟩ |⟨kvs,k,b,e,ey,eb,l⟩
 ·subst ey
  obtain⟨z,hd,vs,rel,dd⟩:=ui I.hok e
  refine call_meetsIn PySem.F.slot_dict_get dd.typeIs PySem.F.entry_dict_get (PySem.F.args_dict_get_2 _ _) (meets_dict_get (aT X.prog X.w) a (t5 ry) hd) ⟨_,dd.mapOf,h _ _ (I.tok _) ?_⟩
  rw[l]
  exact(rel.val k).getD rfl
 ·subst ey
  cases (show u=Value.ref b from ry)
  obtain⟨z,hd,xs,rel,dd⟩:=ww I.hok e
  refine call_meetsIn PySem.F.slot_dict_get dd.typeIs PySem.F.entry_dict_get (PySem.F.args_dict_get_2 _ _) (meetsH_dict_get (tupleKind (aT X.prog X.w)) a b hd) ⟨tupleKind_room_in1 hu,k,xs,sd I.hok eb,dd,h _ _ (I.tok _) ?_⟩
  rw[l]
  exact(rel.val k).getD rfl
theorem NX {Q:Value→Shared→Prop}(hu:A.units+1<cLine) (I:Inv X pins σ H s) (g:e8 H a y o) (ry:aZ y u) (rd:aZ d r) (h: ∀w' s',Inv X pins σ H s'→aZ (o.getD d) w'→Q w' s'):
  wpAny (model X.prog X.w) A (call (.builtin "dict.get") [.ref a,u,r]) Q E s:=by
 rcases g with⟨kvs,k,e,ey,l⟩ |⟨kvs,k,b,e,ey,eb,l⟩
 ·subst ey
  obtain⟨z,hd,vs,rel,dd⟩:=ui I.hok e
  refine call_meetsIn PySem.F.slot_dict_get dd.typeIs PySem.F.entry_dict_get (PySem.F.args_dict_get_3 _ _ _) (meets_dict_get_default (aT X.prog X.w) a (t5 ry) hd r) ⟨_,dd.mapOf,h _ _ (I.tok _) ?_⟩
  rw[l]
  exact(rel.val k).getD rd
 ·subst ey
  cases (show u=Value.ref b from ry)
  obtain⟨z,hd,xs,rel,dd⟩:=ww I.hok e
  refine call_meetsIn PySem.F.slot_dict_get dd.typeIs PySem.F.entry_dict_get (PySem.F.args_dict_get_3 _ _ _) (meetsH_dict_get_default (tupleKind (aT X.prog X.w)) a b hd r) ⟨tupleKind_room_in1 hu,k,xs,sd I.hok eb,dd,h _ _ (I.tok _) ?_⟩
  rw[l]
  exact(rel.val k).getD rd
end
def MW (td ty:TE):TE:=fun σ H Q=>td σ H fun x H1=> ∃a,x=.ref a∧IsD H1 a∧ty σ H1 fun y H2=> ∃o,e8 H2 a y o∧Q (o.getD .non) H2
def MV (td ty tx:TE):TE:=fun σ H Q=>td σ H fun x H1=> ∃a,x=.ref a∧IsD H1 a∧ty σ H1 fun y H2=>tx σ H2 fun z H3=> ∃o,e8 H3 a y o∧Q (o.getD z) H3
def MS (td ty:TE):TE:=fun σ H Q=>td σ H fun x H1=> ∃a,x=.ref a∧IsD H1 a∧ty σ H1 fun y H2=> ∃kvs k v,H2 a=some (.dK kvs)∧y=kV k∧bh kvs k=some v∧Q v (upd H2 a (.dK (gx kvs k)))
section
variable {X:Cx}{o e f:Expr}{apos cpos:Pos}{td ty tx:TE}
theorem JC (hu:X.A.units+1<cLine) (ho:PE X o td) (he:PE X e ty) (m:M1 X o "get" apos e cpos):PE X (.Call (.Attribute o "get" apos) [e] [] cpos) (MW td ty):=by
 intro pins s σ H Q I h
 refine wpAny_Call_method m.base m.few m.line PySem.F.plainAttrs_dict PySem.F.slot_dict_get PySem.F.type_dict_get (thn (ho pins s σ H _ I h) fun u s1 ⟨x,H1,I1,rx,a,ex,d,q1⟩=> ?_)
 subst ex
 obtain rfl:u=Value.ref a:=rx
 obtain⟨t1,t2,_⟩:=FV I1 d
 refine⟨t1,t2,?_⟩
 rw[m.trees]
 refine Calls.callWith_builtin rfl (Calls.evalArgs_plain (Calls.spliced_cons (thn (he pins s1 σ H1 _ I1 q1) fun iv s2 ⟨y,H2,I2,ry,ov,g,q2⟩=>Calls.spliced_nil ?_)))
 exact NY hu I2 g ry fun w' s3 I3 rw'=>⟨_,H2,I3,rw',q2⟩
theorem JB (hu:X.A.units+1<cLine) (ho:PE X o td) (he:PE X e ty) (hf:PE X f tx) (m:M2 X o "get" apos e f cpos):PE X (.Call (.Attribute o "get" apos) [e,f] [] cpos) (MV td ty tx):=by
 intro pins s σ H Q I h
 refine wpAny_Call_method m.base m.few m.line PySem.F.plainAttrs_dict PySem.F.slot_dict_get PySem.F.type_dict_get (thn (ho pins s σ H _ I h) fun u s1 ⟨x,H1,I1,rx,a,ex,d,q1⟩=> ?_)
 subst ex
 obtain rfl:u=Value.ref a:=rx
 obtain⟨t1,t2,_⟩:=FV I1 d
 refine⟨t1,t2,?_⟩
 rw[m.trees]
 refine Calls.callWith_builtin rfl (Calls.evalArgs_plain (Calls.spliced_cons (thn (he pins s1 σ H1 _ I1 q1) fun iv s2 ⟨y,H2,I2,ry,q2⟩=>
  Calls.spliced_cons (thn (hf pins s2 σ H2 _ I2 q2) fun fv s3 ⟨z,H3,I3,rz,ov,g,q3⟩=>Calls.spliced_nil ?_))))
 exact NX hu I3 g ry rz fun w' s4 I4 rw'=>⟨_,H3,I4,rw',q3⟩
theorem yd (ho:PE X o td) (he:PE X e ty) (m:M1 X o "pop" apos e cpos):PE X (.Call (.Attribute o "pop" apos) [e] [] cpos) (MS td ty):=by
 intro pins s σ H Q I h
 refine wpAny_Call_method m.base m.few m.line PySem.F.plainAttrs_dict PySem.F.slot_dict_pop PySem.F.type_dict_pop (thn (ho pins s σ H _ I h) fun u s1 ⟨x,H1,I1,rx,a,ex,d,q1⟩=> ?_)
 subst ex
 obtain rfl:u=Value.ref a:=rx
 obtain⟨t1,t2,_⟩:=FV I1 d
 refine⟨t1,t2,?_⟩
 rw[m.trees]
 refine Calls.callWith_builtin rfl (Calls.evalArgs_plain (Calls.spliced_cons (thn (he pins s1 σ H1 _ I1 q1) fun iv s2 ⟨y,H2,I2,ry,kvs,k,v,ea,ey,l,q2⟩=>Calls.spliced_nil ?_)))
 subst ey
 exact Pj I2 ea ry l (.inl rfl) fun w' s3 I3 rw'=>⟨v,_,I3,rw',q2⟩
end
section
variable {X:Cx}{pins:List (Addr×Obj)}{σ:St}{H:Hp}{s:Shared}{a:Addr}{kvs:List (Key×V)}{A:Around}{E:Value→Shared→Prop}
end
section
variable {X:Cx}{pins:List (Addr×Obj)}{σ:St}{H:Hp}{s:Shared}{a:Addr}{y:V}{u:Value}{A:Around}{E:Value→Shared→Prop}
end
end L2
namespace Att
open PySem PySem.W PySem.Calls PyProof.Rows
theorem xa {P:Params}{h:Heap}: ∀(ns:List Int) (vs:List Value),WellAll P h vs (ns.map WData.int)→IntsAre vs ns:=by
 intro ns
 induction ns with
 |nil=>
  intro vs w
  rw[List.map_nil] at w
  cases w
  exact .nil
 |cons n ns ih=>
  intro vs w
  rw[List.map_cons] at w
  cases w with
  |cons a b=>
   cases a
   exact .cons _ _ (ih _ b)
theorem Hi {l:OpenLaw}{n:Nat}(hn:l.most=some n) {P:Params}{h:Heap}{args:List WData}{vals:List Value}
  (hpre:l.row.toRowW.claim.pre args=true) (hwl:WellAll P h vals args):
  ∃a vs ns,vals=[Value.ref a]∧args=[WData.list (ns.map WData.int)]∧h.get? a=some {cls:=.type "list",data:=.seq vs.toArray}∧IntsAre vs ns∧ns.length≤n:=by
 have hsh:WShape.hasAll [] args [.list .int]=true:=(pre_splitW hpre).1
 have hc:l.pre.holds [] {args:=args}=true:=(pre_splitW hpre).2
 obtain⟨d,r,rfl,h1,h2⟩:=hasAllW_cons hsh
 obtain rfl:=hasAllW_nil h2
 obtain⟨xs,rfl,h3⟩:=hasW_list h1
 obtain⟨ns,rfl⟩:=items_int h3
 have hlen:ns.length≤n:=by
  unfold OpenLaw.pre at hc
  have h4:(WTm.not (.lt (.lit (.int (n:Int))) (.len (.arg 0)))).holds [] {args:=[.list (ns.map .int)]}=true:=by
   have h4:=(holds_andW hc).1
   rw[hn] at h4
   exact h4
  have h5:=condW_of h4 (w_not (w_lt w_lit (w_len_list (w_arg rfl))))
  rw[List.length_map] at h5
  refine Nat.le_of_not_lt fun q=> ?_
  have q':(n:Int)<((ns.length:Nat):Int):=by omega
  first
   |(rw[decide_eq_true q'] at h5;exact absurd h5 (by decide))
   |(simp at h5;omega)
 cases hwl with
 |cons w1 w2=>
  cases w2
  cases w1 with
  |list ho hall=>exact⟨_,_,ns,rfl,rfl,ho,xa ns _ hall,hlen⟩
theorem Hk (l:OpenLaw) (args:List WData):l.row.toRowW.claim.post args (.bool true) args=true:=
 postW_of (r:=l.row.toRowW) (X:=(true==true))
  (show WShape.has [] (.bool true) .bool=true by first |rfl |decide |simp[WShape.has,WShape.arms,WShape.armsAll])
  (show(WTm.eq .res (.lit (.bool true))).value [] {args:=args,res:=some (.bool true),after:=args}=some (.bool (true==true)) from w_eq_bool (w_res rfl) w_lit) rfl
theorem E3 {l:OpenLaw}{n:Nat}{q:Program}{loose:List Str}{XP:(Str→Option Value)→Heap→Prop}{YP:World→Heap→Prop}{d:DefRec}
  (hn:l.most=some n) (hdf:d.params.defaults=[])
  (call: ∀(w:World) (s₀ s₁:Shared) (mg mb:Str→Option Value) (fa:Addr) (o:Obj) (pm cd doc:Value) (a:Addr) (vs:List Value) (ns:List Int),
   Ground q loose [] XP w s₀ mg mb s₁.heap→YP w s₁.heap→
   s₁.heap.get? fa=some o→o.data=.func (docDef d.name d.params d.body d.scope pm cd doc)→s₁.heap.CodeRec cd d.name→mg d.name=some (.ref fa)→
   s₁.heap.get? a=some {cls:=.type "list",data:=.seq vs.toArray}→IntsAre vs ns→ns.length≤n→s₁.gens= #[]→
   codeAny (model l.prog w) callerA (.call (.ref fa) ⟨[.ref a],[]⟩) (fun r s'=>r=.ok (.ret (.bool true))∧OldK s₁.heap s'.heap∧s'.os=s₁.os∧AllBare s'.gens) s₁):
  WalkO q loose XP YP l.row.toRowW d [] (fun f vs=>PySem.call f vs):=by
 intro w s₀ s₁ mg mb G Y fa o pm cd doc dV kV ho hd hcd hD hmg hg args vals as hpre hlay hrd hwl hlo
 obtain rfl:dV=.none:=Dflts.none hD hdf
 obtain rfl:kV=.none:=Dflts.noKw hD
 obtain⟨a,vs,ns,rfl,rfl,hobj,hints,hlen⟩:=Hi hn hpre hwl
 refine enter_call (codeAny_mono (call w s₀ s₁ mg mb fa o pm cd doc a vs ns G Y ho (fd_plain hd) hcd hmg hobj hints hlen hg) fun r s' hq=> ?_)
 obtain⟨rfl,h2,h3,h4⟩:=hq
 exact⟨.inl ⟨.bool true,.bool true,[],rfl,fun _=>rfl,.bool true,Hk l _,fun _=>⟨List.Pairwise.nil,fun _ hm=>(nomatch hm)⟩⟩,h2,h3,h4⟩
section
variable {prog:Program}{w:World}{A:Around}{E:Value→Shared→Prop}{s:Shared}{K:Frag}
end
end Att
namespace L2
open PySem PySem.Spec PyProof.Rows
theorem uO: ∀{vs:List Value}{ns:List Int},IntsAre vs ns→a8 (ns.map V.int) vs
 |_,_,.nil=> .nil
 |_,_,.cons n t h=> .cons ⟨t,rfl⟩ (uO h)
def Gh (H:Hp):Prop:= ∀b,H b=none∨ ∃o xs,H b=some (.frz o (.lst xs))
theorem J3 {P:Program}{w:World}{K:PySem.W.Frag}{mg mb:Str→Option Value}{CX:CXT}{k:Nat}{fa a:Addr}{fd:FuncData}{x:Str}{sp:Sp}{s₁:Shared}{vs:List Value}{ns:List Int}
  (KX:K.In s₁.heap) (hns:s₁.heap.Ns mainGlobals mg) (hb:s₁.heap.Ns builtinsNs mb) (hbb: ∀x:Str,x≠"__name__"→mb x=bootBuiltins x) (hlim:s₁.heap.NoLimit) (hg:s₁.gens= #[])
  (ha:s₁.heap.get? a=some {cls:=.type "list",data:=.seq vs.toArray}) (hi:IntsAre vs ns) (hl:ns.length≤sizeLine) (hr:fj k callerA)
  (F: ∀base:Heap,K.In base→base.Ns mainGlobals mg→bd P w K mg base CX k fa fd [x] sp) (hbind: ∀(s:Shared) (u:Value),BindsTo s fd ⟨[u],[]⟩ [(x,u)])
  (hsp: ∀H:Hp,Gh H→SqL K H a (ns.map V.int)→sp [.ref a] H (fun v _=>v=.bl true) fun _ _ _=>False)
  (hCX: ∀H e s',CX [] H s₁ (fun _ _ _=>False) e s'→False):
  codeAny (model P w) callerA (.call (.ref fa) ⟨[.ref a],[]⟩) (fun r s'=>r=.ok (.ret (.bool true))∧OldK s₁.heap s'.heap∧s'.os=s₁.os∧AllBare s'.gens) s₁:=by
 have rv:=uO hi
 have lenV:=hi.length
 have core: ∀H:Hp,Gh H→SqL K H a (ns.map V.int)→HOk P w H s₁.heap→(∀b,H b≠none→b=a)→(H a≠none→K.lookup a=none)→
   codeAny (model P w) callerA (.call (.ref fa) ⟨[.ref a],[]⟩) (fun r s'=>r=.ok (.ret (.bool true))∧OldK s₁.heap s'.heap∧s'.os=s₁.os∧AllBare s'.gens) s₁:=by
  intro H hO hS hok hA hK
  have base_of: ∀{b:Addr}{o:Obj},s₁.heap.get? b=some o→H b=none→(CY s₁.heap H).get? b=some o:=fun e n=>Ka e n
  have noA: ∀{b:Addr}{o:Obj}{es:Array DictEntry}{ep:Nat},s₁.heap.get? b=some o→o.data=.dict es ep→H b=none:=fun {b o es ep} e d=>by
   cases q:H b with
   |none=>rfl
   |some u=>
    have e':b=a:=hA b (by rw[q];simp)
    subst e'
    rw[ha] at e;cases e
    have d':Data.seq vs.toArray _=Data.dict es ep:=d
    cases d'
  have nsK: ∀{b:Addr}{m:Str→Option Value},s₁.heap.Ns b m→(CY s₁.heap H).Ns b m:=fun {b m} ⟨o,es,ep,e,d,r⟩=>⟨o,es,ep,base_of e (noA e d),d,r⟩
  have hKb:K.In (CY s₁.heap H):=fun b o e=>base_of (KX b o e) (by
   cases q:H b with
   |none=>rfl
   |some u=>
    have e':b=a:=hA b (by rw[q];simp)
    subst e'
    rw[hK (by rw[q];simp)] at e;cases e)
  have hM:Mod K mg (CY s₁.heap H):=⟨hKb,nsK hns,⟨mb,nsK hb,hbb⟩,let⟨mc,h1,h2⟩:=hlim;⟨mc,nsK h1,h2⟩⟩
  have e0:Go P w K mg (CY s₁.heap H) callerA [] s₁ H:=⟨rfl,hM,fun b o e=>LM e,Nat.le_of_eq (HM _ _),trivial,fun b hb=>absurd (show b∈([]:List Addr) from hb) (by simp),hok,.of_eq hg⟩
  refine codeAny_mono ((F _ hKb (nsK hns)).run callerA [] s₁ H ⟨[.ref a],[]⟩ [.ref a] [.ref a] _ _ hr e0 (hbind s₁ (.ref a)) (.cons rfl .nil) (hsp H hO hS)) fun r s' h=> ?_
  cases r with
  |error e=>exact(hCX H e s' h).elim
  |ok fl=>
   cases fl with
   |next=>exact False.elim h
   |brk=>exact False.elim h
   |cont=>exact False.elim h
   |ret u=>
    obtain⟨v,H',os,bare,un,hok',r',q⟩:=h
    have q':v=.bl true:=q
    subst q'
    obtain rfl:u=Value.bool true:=r'
    refine⟨rfl,OldK.of_keep fun b o e=> ?_,os,bare⟩
    cases q:H b with
    |none=>exact un.keep b o e q (by intro z;exact absurd (show b∈([]:List Addr) from z) (by simp)) (by simp)
    |some u=>
     rcases hO b with z |⟨ob,xs,z⟩
     ·rw[q] at z;cases z
     ·have z2:=un.frzs b ob _ z
      obtain⟨e1,_⟩:=hok b _ z
      obtain⟨e2,_⟩:=hok' b _ z2
      rw[e] at e1;cases e1
      exact e2
 cases hk:K.lookup a with
 |some o=>
  have e:=KX a o hk
  rw[ha] at e
  cases e
  refine core (fun _=>none) (fun _=> .inl rfl) (.inr ⟨_,vs.toArray,_,hk,rfl,rfl,rfl,by rw[List.size_toArray,lenV];exact hl,by simpa using rv⟩) (fun b u z=>by have z':(none:Option HO)=some u:=z;cases z') (fun b z=>absurd rfl z) fun z=>absurd rfl z
 |none=>
  refine core (fun b=>if b=a then some (.frz {cls:=.type "list",data:=.seq vs.toArray} (.lst (ns.map V.int))) else none) (fun b=> ?_) (.inl (.inr ⟨{cls:=.type "list",data:=.seq vs.toArray},if_pos rfl⟩)) (fun b u z=> ?_) (fun b z=> ?_) fun _=>hk
  ·by_cases hb:b=a
   ·exact .inr ⟨_,_,if_pos hb⟩
   ·exact .inl (if_neg hb)
  ·by_cases hb:b=a
   ·have z':=(if_pos hb).symm.trans z
    cases z'
    subst hb
    exact⟨ha,by rw[List.length_map];exact hl,vs,_,rv,ha⟩
   ·have z':=(if_neg hb).symm.trans z
    cases z'
  ·by_cases hb:b=a
   ·exact hb
   ·exact absurd (if_neg hb) z
end L2
namespace L2
open PySem PySem.Spec PyProof.Rows
abbrev KOf {K:PySem.W.Frag}{h:Heap}(_:K.In h):PySem.W.Frag:=K
theorem K2 {l:PySem.W.OpenLaw}{n k:Nat}{q:Program}{loose:List Str}{XP:(Str→Option Value)→Heap→Prop}{YP:World→Heap→Prop}{d:DefRec}{K:Params→PySem.W.Frag}{CX:World→CXT}{sp:World→Sp}{x:Str}
  (hn:l.most=some n) (hn2:n≤sizeLine) (hdf:d.params.defaults=[]) (hr:fj k callerA)
  (hY: ∀(w:World) (h:Heap),YP w h→(K w.params).In h)
  (F: ∀(w:World) (mg:Str→Option Value) (fa:Addr) (h:Heap),(K w.params).In h→h.Ns mainGlobals mg→mg d.name=some (.ref fa)→
   ∃fd:FuncData,(∀(s:Shared) (u:Value),BindsTo s fd ⟨[u],[]⟩ [(x,u)])∧
    ∀base:Heap,(K w.params).In base→base.Ns mainGlobals mg→bd l.prog w (K w.params) mg base (CX w) k fa fd [x] (sp w))
  (hsp: ∀(w:World) (H:Hp) (a:Addr) (ns:List Int),ns.length≤n→Gh H→SqL (K w.params) H a (ns.map V.int)→sp w [.ref a] H (fun v _=>v=.bl true) fun _ _ _=>False)
  (hCX: ∀(w:World) (H:Hp) (s:Shared) (e:Value) (s':Shared),CX w [] H s (fun _ _ _=>False) e s'→False):
  PySem.W.WalkO q loose XP YP l.row.toRowW d [] (fun f vs=>PySem.call f vs):=by
 refine Att.E3 hn hdf fun w s₀ s₁ mg mb fa o pm cd doc a vs ns G Y ho hd hcd hmg hobj hints hlen hg=> ?_
 have KX:=hY w _ Y
 obtain⟨fd,hb,hF⟩:=F w mg fa _ KX G.T.g hmg
 exact J3 KX G.T.g G.T.b G.T.builtins G.T.nolimit hg hobj hints (Nat.le_trans hlen hn2) hr hF hb (fun H hO hS=>hsp w H a ns hlen hO hS) fun H e s'=>hCX w H s₁ e s'
theorem IK {l:PySem.W.OpenLaw}{n k:Nat}{q:Program}{loose:List Str}{XP:(Str→Option Value)→Heap→Prop}{YP:World→Heap→Prop}{d:DefRec}{K:Params→PySem.W.Frag}{CX:CXT}{sp:PySem.W.Frag→Sp}{x:Str}
  (hn:l.most=some n) (hn2:n≤sizeLine) (hdf:d.params.defaults=[]) (hr:fj k callerA)
  (hY: ∀(w:World) (h:Heap),YP w h→(K w.params).In h)
  (F: ∀(w:World) (mg:Str→Option Value) (fa:Addr) (h:Heap),(K w.params).In h→h.Ns mainGlobals mg→mg d.name=some (.ref fa)→
   ∃fd:FuncData,(∀(s:Shared) (u:Value),BindsTo s fd ⟨[u],[]⟩ [(x,u)])∧
    ∀base:Heap,(K w.params).In base→base.Ns mainGlobals mg→bd l.prog w (K w.params) mg base CX k fa fd [x] (sp (K w.params)))
  (hsp: ∀(K:PySem.W.Frag) (H:Hp) (a:Addr) (ns:List Int),ns.length≤n→Gh H→SqL K H a (ns.map V.int)→sp K [.ref a] H (fun v _=>v=.bl true) fun _ _ _=>False)
  (hCX: ∀(H:Hp) (s:Shared) (e:Value) (s':Shared),CX [] H s (fun _ _ _=>False) e s'→False):
  PySem.W.WalkO q loose XP YP l.row.toRowW d [] (fun f vs=>PySem.call f vs):=
 K2 (K:=K) (CX:=fun _=>CX) (sp:=fun w=>sp (K w.params)) hn hn2 hdf hr hY F (fun w H a ns h1 h2 h3=>hsp (K w.params) H a ns h1 h2 h3) fun _ H s e s'=>hCX H s e s'
end L2
namespace L2
open PySem PySem.Spec PyProof.Rows
def xq (s:Stmt):Arguments:=match s with
 | .FunctionDef _ a _ _ _ _ _ _ _ _=>a
 |_=>{posonlyargs:=[],args:=[],vararg:=none,kwonlyargs:=[],kw_defaults:=[],kwarg:=none,defaults:=[]}
def qA (s:Stmt):List Stmt:=match s with
 | .FunctionDef _ _ b _ _ _ _ _ _ _=>b
 |_=> []
def ak (s:Stmt):Scope:=match s with
 | .FunctionDef _ _ _ _ _ _ sc _ _ _=>sc
 |_=>{kind:=.function,names:=[],isGenerator:=false,isCoroutine:=false}
abbrev CX0:CXT:=fun _ _ _ _ _ _=>False
abbrev E0:XK:=fun _ _ _=>False
theorem aD {X:Cx}:oT CX0 X E0:=fun _ _ _ _ _ _ _ h=>h.elim
structure Fun (K:PySem.W.Frag) (x qual:Str) (st:Stmt) (f:Addr) (fd:FuncData):Prop where
 ex: ∃(oc:Value) (od:Option Addr) (kV doc pm:Value) (an:Option Addr) (cdv ct:Value) (osl:Array (Option Value)),
  fd=PySem.W.fnOf x qual (xq st) (qA st) (ak st) .none kV doc pm an cdv ct∧K.lookup f=some ⟨oc,od,.func fd,osl⟩∧PySem.W.codeIn K cdv qual=true
 kp:PySem.W.keepIn K (.ref f)=true
section
variable {P:Program}{w:World}{K:PySem.W.Frag}{mg:Str→Option Value}{base:Heap}
theorem Fun.ok {x qual:Str}{st:Stmt}{f:Addr}{fd:FuncData}{N ps:List Str}{k:Nat}{sp:Sp}(F:Fun K x qual st f fd) (S:ax N ps (ak st)) (len: ∀vs H Q E,sp vs H Q E→vs.length=ps.length)
  (hbody: ∀(cdv:Value) (A:Around) (outer:List Env) (s:Shared) (H:Hp) (vs:List V) (Q:VK) (E:XK),fj k (A.deeper (envOfC qual (ak st) s.heap.objs.size f cdv))→sp vs H Q E→
   ∃t,PSs (Df CX0 P w K mg base N qual (ak st) f cdv A outer s H E).nox (qA st) t∧t {nx:=fun _ H'=>Q .non H',rt:=Q} (px N vs) H):bd P w K mg base CX0 (k+1) f fd ps sp:=by
 obtain⟨oc,od,kV,doc,pm,an,cdv,ct,osl,rfl,lk,hcd⟩:=F.ex
 refine MA lk hcd S len fun A outer s H vs Q E hr hsp=> ?_
 obtain⟨t,h,q⟩:=hbody cdv A outer s H vs Q E hr hsp
 exact⟨t,h.nox,q⟩
theorem Fun.binds {x qual:Str}{st:Stmt}{f:Addr}{fd:FuncData}{ps:List Str}(F:Fun K x qual st f fd)
  (h: ∀(kV doc pm:Value) (an:Option Addr) (cdv ct:Value) (us:List Value),us.length=ps.length→bindArgs (PySem.W.fnOf x qual (xq st) (qA st) (ak st) .none kV doc pm an cdv ct) ⟨us,[]⟩=pure (ps.zip us)):aN K fd ps []:=by
 obtain⟨oc,od,kV,doc,pm,an,cdv,ct,osl,rfl,lk,hcd⟩:=F.ex
 exact .all (h kV doc pm an cdv ct)
theorem aG {x qual:Str}{st:Stmt}{f:Addr}{oc:Value}{od an:Option Addr}{osl:Array (Option Value)}{kV doc pm cdv ct:Value}(l:K.lookup f=some ⟨oc,od,.func (PySem.W.fnOf x qual (xq st) (qA st) (ak st) .none kV doc pm an cdv ct),osl⟩)
  (c:PySem.W.codeIn K cdv qual=true) (k:PySem.W.keepIn K (.ref f)=true):Fun K x qual st f (PySem.W.fnOf x qual (xq st) (qA st) (ak st) .none kV doc pm an cdv ct):=⟨⟨oc,od,kV,doc,pm,an,cdv,ct,osl,rfl,l,c⟩,k⟩
end
theorem cw {A:Around}{k:Nat}(hr:fj k A):A.units+1<cLine:=Nat.lt_of_le_of_lt (Nat.add_le_add_left (by decide:1≤64) _) hr.units
section
variable {X:Cx}
theorem pv (i:Nat) {x:Str}{pos:Pos}(hN:X.N[i]? =some x:=by rfl) (hv:Vis X.env.scope x:=by first |exact Or.inl rfl |exact Or.inr (Or.inl rfl) |exact Or.inr (Or.inr rfl)) (hd:(x==("__debug__":Str))=false:=by decide)
  (hcd:(x==("__classdict__":Str))=false:=by decide):PE X (.Name x pos) (ML i):=Nk hN hv hd hcd
end
theorem bY {A B:Prop}(h:B):if false=true then A else B:=by
 rw[if_neg Bool.false_ne_true]
 exact h
theorem cL {A B:Prop}(h:A):if true=true then A else B:=by
 rw[if_pos rfl]
 exact h
def am (H H':Hp):Prop:= ∀b o,H b=some o→H' b=some o
theorem am.refl (H:Hp):am H H:=fun _ _ h=>h
theorem am.trans {H H1 H2:Hp}(a:am H H1) (b:am H1 H2):am H H2:=fun c o h=>b c o (a c o h)
theorem am.free {H H':Hp}(e:am H H') {l:Addr}(h:H' l=Option.none):H l=Option.none:=by
 cases q:H l with
 |none=>rfl
 |some o=>
  rw[e l o q] at h
  cases h
theorem am.seq {K:PySem.W.Frag}{H H':Hp}{a:Addr}{xs:List V}(e:am H H') (h:SqL K H a xs):SqL K H' a xs:=by
 rcases h with(h |⟨o,h⟩) |h
 ·exact .inl (.inl (e _ _ h))
 ·exact .inl (.inr ⟨o,e _ _ h⟩)
 ·exact .inr h
section
variable {κ:Type} [DecidableEq κ]
theorem HS {p:κ×V}{r:List (κ×V)}{k:κ}(e:p.1=k):gx (p::r) k=gx r k:=by
 unfold gx
 rw[List.filter_cons,if_neg (by simp[e])]
theorem HU {p:κ×V}{r:List (κ×V)}{k:κ}(e: ¬p.1=k):gx (p::r) k=p::gx r k:=by
 unfold gx
 rw[List.filter_cons,if_pos (by simp[e])]
end
end L2
set_option maxHeartbeats 4000000
namespace L2
open PySem PySem.Spec PyProof.Rows
section
variable {prog:Program}{w:World}{A:Around}{R:Result→Shared→Prop}{s:Shared}
theorem my {α:Type}{M:Model}{t:Sem α}{Q Q':α→Shared→Prop}{E:Value→Shared→Prop}(h:wpAny M A t Q (fun _ _=>False) s) (k: ∀a s,Q a s→Q' a s):wpAny M A t Q' E s:=
 wpAny_mono h k fun _ _ z=>z.elim
theorem ET {elt target iter:Expr}{ifs:List Expr}{scope:Scope}{pos:Pos}{it acc:Value}{env:Env}(J:Nat→Shared→Prop)
  (turn: ∀n s,J n s→wpAny (model prog w) A (pyNext it) (fun r s₁=>match r with
   |none=>R (.ok .next) s₁
   |some v=>wpAny (model prog w) A (letOwnedTupleGo target it v) (fun _ s₂=>wpAny (model prog w) A (assign target env v) (fun _ s₃=>
     wpAny (model prog w) A (forIn ifs true fun c r=>if r=true then do let ok ←isTrue c env (eval c env);pure (ForInStep.yield ok) else pure (ForInStep.yield r)) (fun ok s₄=>
      if ok=true then wpAny (model prog w) A (eval elt env) (fun x s₅=>
       wpAny (model prog w) A (call (.builtin "list.append") [acc,x]) (fun _ s₆=> ∃m,m<n∧J m s₆) (fun _ _=>False) s₅) (fun _ _=>False) s₄
      else∃m,m<n∧J m s₄) (fun _ _=>False) s₃) (fun _ _=>False) s₂) (fun _ _=>False) s₁) (fun _ _=>False) s)
  (n:Nat) (h:J n s):
  codeAny (model prog w) A (.compLoop (.ListComp elt [⟨target,iter,ifs,0⟩] scope pos) 0 it acc env) R s:=by
 refine codeAny_loop rfl J (fun n s hI=> ?_) n h
 show wpAny _ A ((compTurn (.ListComp elt [⟨target,iter,ifs,0⟩] scope pos) 0 it acc env).onRaise (fun x=>do noteFrame x env;theTreesLotGoes x)) _ _ s
 refine wpAny_noted ?_
 rw[compTurn_list]
 refine wpAny_bind (wpAny_standAt (wpAny_bind (my (turn n s hI) (fun r s₁ h₁=> ?_))))
 cases r with
 |none=>exact wpAny_pure h₁
 |some v=>
  refine wpAny_bind (my h₁ fun _ s₂ h₂=>wpAny_bind (my h₂ fun _ s₃ h₃=>wpAny_bind (my h₃ fun ok s₄ h₄=> ?_)))
  cases ok with
  |false=>exact wpAny_pure ⟨rfl,h₄⟩
  |true=>exact wpAny_bind (wpAny_bind (my h₄ fun x s₅ h₅=>wpAny_bind (my h₅ fun _ s₆ h₆=>wpAny_pure (wpAny_pure ⟨rfl,h₆⟩))))
end
theorem pb {f:Str→NameKind→NameKind}: ∀(l:List (Str×NameKind)) (x:Str),(l.map fun p=>(p.1,f p.1 p.2)).lookup x=(l.lookup x).map (f x)
 | [],_=>rfl
 |(n,k)::r,x=>by
  rw[List.map_cons,List.lookup_cons,List.lookup_cons]
  cases hx:x==n with
  |true=>
   have e:x=n:=by simpa using hx
   subst e
   rfl
  |false=>exact pb r x
def pC (env:Env) (n:Str) (k:NameKind):NameKind:=if(k==.free && env.scope.kind==.function && env.kindOf n==some .cell)=true then .cell else k
theorem jT (scope:Scope) (env:Env) (x:Str):(relabel scope env).names.lookup x=(scope.names.lookup x).map (pC env x):=by
 rw[←pb]
 unfold relabel
 congr 1
 show List.map _ scope.names=List.map _ scope.names
 congr 1
 funext p
 obtain⟨n,k⟩:=p
 show(if(k==NameKind.free && env.scope.kind==.function && env.kindOf n==some .cell)=true then(n,NameKind.cell) else(n,k))=(n,pC env n k)
 unfold pC
 split<;>rfl
theorem su {env:Env}{f:Str×NameKind→List (Str×Addr)→Sem (ForInStep (List (Str×Addr)))}
  (hf1: ∀n c r,cellOf env n=pure c→f (n,.free) r=pure (.yield ((n,c)::r))) (hf2: ∀n k r,k≠.free→f (n,k) r=pure (.yield r)):
  ∀(l:List (Str×NameKind)) (cs:List (Str×Addr)),(∀y∈l,y.2=.free→ ∃c,env.cells.lookup y.1=some c)→
  ∃cl:List (Str×Addr),forIn l cs f=pure cl∧
   (∀x c,cl.lookup x=some c→env.cells.lookup x=some c∨cs.lookup x=some c)∧(∀x,(∃c,cs.lookup x=some c)∨(x,NameKind.free)∈l→ ∃c,cl.lookup x=some c)
 | [],cs,_=>⟨cs,rfl,fun _ _ h=> .inr h,fun x h=>h.elim id fun z=>nomatch z⟩
 |(n,k)::r,cs,h=>by
  by_cases hk:k=.free
  ·subst hk
   obtain⟨c,hc⟩:=h (n,.free) List.mem_cons_self rfl
   obtain⟨cl,h1,h2,h3⟩:=su hf1 hf2 r ((n,c)::cs) fun y hy=>h y (List.mem_cons_of_mem _ hy)
   refine⟨cl,?_,fun x c' hx=> ?_,fun x hx=>h3 x ?_⟩
   ·rw[List.forIn_cons,hf1 n c cs (by unfold cellOf;rw[hc])]
    exact h1
   ·rcases h2 x c' hx with z |z
    ·exact .inl z
    ·rw[List.lookup_cons] at z
     cases hxn:x==n with
     |true=>
      rw[hxn] at z
      have e1:x=n:=by simpa using hxn
      have e2:c=c':=by simpa using z
      subst e1;subst e2
      exact .inl hc
     |false=>
      rw[hxn] at z
      exact .inr z
   ·rcases hx with⟨c',hx⟩ |hx
    ·refine .inl ?_
     rw[List.lookup_cons]
     cases hxn:x==n with
     |true=>exact⟨c,rfl⟩
     |false=>exact⟨c',hx⟩
    ·rcases List.mem_cons.mp hx with e |e
     ·injection e with e1 e2
      subst e1
      exact .inl ⟨c,by simp⟩
     ·exact .inr e
  ·obtain⟨cl,h1,h2,h3⟩:=su hf1 hf2 r cs fun y hy=>h y (List.mem_cons_of_mem _ hy)
   refine⟨cl,?_,h2,fun x hx=>h3 x ?_⟩
   ·rw[List.forIn_cons,hf2 n k cs hk]
    exact h1
   ·rcases hx with hx |hx
    ·exact .inl hx
    ·rcases List.mem_cons.mp hx with e |e
     ·injection e with e1 e2
      exact absurd e2.symm hk
     ·exact .inr e
theorem A8 {env:Env}{scope:Scope}(h: ∀y∈scope.names,y.2=.free→ ∃c,env.cells.lookup y.1=some c):
  ∃cl:List (Str×Addr),closureFor scope env=pure cl∧(∀x c,cl.lookup x=some c→env.cells.lookup x=some c)∧(∀x,(x,NameKind.free)∈scope.names→ ∃c,cl.lookup x=some c):=by
 simp only[closureFor]
 obtain⟨cl,h1,h2,h3⟩:=su (env:=env) (f:=fun(x:Str×NameKind) (r:List (Str×Addr))=>match x with
   |(name,kind)=>if(kind==NameKind.free)=true then(do let a ←cellOf env name;pure (ForInStep.yield ((name,a)::r))) else pure (ForInStep.yield r))
  (fun n c r e=>by
   show(if(NameKind.free==NameKind.free)=true then(do let a ←cellOf env n;pure (ForInStep.yield ((n,a)::r))) else pure (ForInStep.yield r):Sem _)=_
   rw[if_pos (by decide),e]
   rfl)
  (fun n k r e=>by
   show(if(k==NameKind.free)=true then(do let a ←cellOf env n;pure (ForInStep.yield ((n,a)::r))) else pure (ForInStep.yield r):Sem _)=_
   rw[if_neg (by simpa using e)]) scope.names [] h
 refine⟨cl,?_,fun x c e=>(h2 x c e).elim id fun z=>by simp at z,fun x hx=>h3 x (.inr hx)⟩
 rw[h1]
 rfl
def Cx.comp (X:Cx) (scope:Scope) (N':List Str) (cl:List (Str×Addr)) (C:Addr) (s₀:Shared) (H₀:Hp) (ex:List Addr):Cx:=
 {prog:=X.prog,w:=X.w,K:=X.K,mg:=X.mg,base:=X.base,A:=X.A,N:=N',s₀:=s₀,H₀:=H₀,env:=compEnvC scope cl C X.env,outer:=X.stack,stack:=X.stack,ex:=ex,fn:=fun _=>false,calm:=X.calm,pn:=X.pn,xe:=fun _ _=>False}
def gw (ds:List Nat) (k:Nat) (σ:St):St:=ds.foldl (fun σ i=>σ.set i none) σ++List.replicate k none
theorem sk (ds:List Nat): ∀σ:St,(ds.foldl (fun σ i=>σ.set i none) σ).length=σ.length:=by
 induction ds with
 |nil=>intro σ;rfl
 |cons d r ih=>intro σ;rw[List.foldl_cons,ih];simp
theorem F0 (ds:List Nat): ∀(σ:St) (i:Nat) (v:V),(ds.foldl (fun σ i=>σ.set i none) σ)[i]? =some (some v)→σ[i]? =some (some v)∧i∉ds:=by
 induction ds with
 |nil=>intro σ i v h;exact⟨h,by simp⟩
 |cons d r ih=>
  intro σ i v h
  rw[List.foldl_cons] at h
  obtain⟨h1,h2⟩:=ih _ i v h
  by_cases e:d=i
  ·subst e
   by_cases hl:d<σ.length
   ·rw[List.getElem?_set_self hl] at h1
    cases h1
   ·rw[List.getElem?_eq_none_iff.mpr (by rw[List.length_set];omega)] at h1
    cases h1
  ·rw[List.getElem?_set_ne e] at h1
   exact⟨h1,fun z=>(List.mem_cons.mp z).elim (fun q=>e q.symm) h2⟩
theorem ED {ds:List Nat}{k:Nat}{σ:St}{i:Nat}{v:V}(h:(gw ds k σ)[i]? =some (some v)):σ[i]? =some (some v)∧i∉ds∧i<σ.length:=by
 unfold gw at h
 by_cases hl:i<σ.length
 ·rw[List.getElem?_append_left (by rw[sk];exact hl)] at h
  obtain⟨h1,h2⟩:=F0 ds σ i v h
  exact⟨h1,h2,hl⟩
 ·rw[List.getElem?_append_right (by rw[sk];omega)] at h
  have:=List.getElem?_eq_some_iff.mp h
  obtain⟨h1,h2⟩:=this
  rw[List.getElem_replicate] at h2
  cases h2
def PTs (X:Cx) (ifs:List Expr) (t:TT):Prop:=
 ∀(pins:List (Addr×Obj)) (s:Shared) (σ:St) (H:Hp) (Q:Bool→Hp→Prop),Inv X pins σ H s→t σ H Q→
  wpAny (model X.prog X.w) X.A (forIn ifs true fun c r=>if r=true then do let ok ←isTrue c X.env (eval c X.env);pure (ForInStep.yield ok) else pure (ForInStep.yield r)) (TP X pins σ Q) X.xe s
def Os:TT:=fun _ H Q=>Q true H
theorem cm {X:Cx}:PTs X [] Os:=fun _ _ _ H _ I h=>wpAny_tests_nil ⟨H,I,h⟩
theorem xj {X:Cx}{c:Expr}{t:TT}(h:PT X c t):PTs X [c] t:=fun pins s σ H Q I q=>wpAny_tests_one (h pins s σ H Q I q)
def GK (g:TG) (js:List Nat):Prop:= ∀x σ H Q,g x σ H Q→g x σ H fun σ' H'=>Q σ' H'∧σ'.length=σ.length∧ ∀i,i∉js→σ'[i]? =σ[i]?
theorem b9 (j:Nat):GK (t6 j) [j]:=fun x σ H Q h=>by
 refine⟨h,by simp,fun i hi=> ?_⟩
 rw[List.getElem?_set_ne (fun e=>hi (by simp[e]))]
theorem FX (K:PySem.W.Frag) (i j:Nat):GK (NQ K 2 (Kd (t6 i) (Kd (t6 j) Pf))) [i,j]:=fun x σ H Q h=>by
 obtain⟨a,xs,e,hq,hl,v,r,e1,u,r2,e2,e3,q⟩:=h
 refine⟨a,xs,e,hq,hl,v,r,e1,u,r2,e2,e3,q,by simp,fun n hn=> ?_⟩
 have h1:n≠i:=fun z=>hn (by simp[z])
 have h2:n≠j:=fun z=>hn (by simp[z])
 rw[List.getElem?_set_ne (Ne.symm h2),List.getElem?_set_ne (Ne.symm h1)]
def DV (wi:TI) (g:TG) (ds:List Nat) (k:Nat) (tc:TT) (te:TE):TE:=fun σ H Q=>wi σ H fun J H1=> ∀D,H1 D=none→
 ∃W:Nat→Nat→List V→Hp→Prop,(∃m,W 0 m [] (upd H1 D (.lst [])))∧ ∀i m acc H2,W i m acc H2→
  (J.stop i H2∧Q (.ref D) H2)∨(J.go i H2∧ ∀x H3,J.yld i H2 x H3→g x (gw ds k σ) H3 fun σ4 H4=>tc σ4 H4 fun b H5=>if b=true then
   te σ4 H5 fun y H6=>H6 D=some (.lst acc)∧acc.length<sizeLine∧ ∃m',m'<m∧W (i+1) m' (acc++[y]) (upd H6 D (.lst (acc++[y])))
   else∃m',m'<m∧W (i+1) m' acc H5)
section
variable {X:Cx}
theorem Kv {scope:Scope}{N':List Str}{cl:List (Str×Addr)}{ds:List Nat}{k:Nat}{pins:List (Addr×Obj)}{σ:St}{H:Hp}{s:Shared}{fp:List Addr}{h₁:Heap}{tk:Nat}{m:Str→Option Value}{C:Addr}{news:List Str}
  (I:Inv X pins σ H s) (f: ∀b∈fp,Ad X pins H b) (fo: ∀b∈fp,∃o,s.heap.get? b=some o)
  (hkind:scope.kind=.function) (hcell: ∀y∈scope.names,y.2≠.cell)
  (hfree: ∀y∈scope.names,y.2=.free→X.env.scope.names.lookup y.1=some .cell∨X.env.scope.names.lookup y.1=some .free)
  (hcl: ∀x c,cl.lookup x=some c→X.env.cells.lookup x=some c) (hcl2: ∀x,(x,NameKind.free)∈scope.names→ ∃c,cl.lookup x=some c)
  (hN:N'=X.N++news) (hk:news.length=k) (hloc: ∀i x,X.N[i]? =some x→scope.names.lookup x=some .local →i∈ds)
  (hC:s.heap.objs.size<C) (keep: ∀b o,s.heap.get? b=some o→h₁.get? b=some o) (hns:h₁.Ns C m)
  (hD:h₁.get? s.heap.objs.size=some {cls:=.type "list",data:=.seq ([]:List Value).toArray 0}):
  Inv (X.comp scope N' cl C s H fp) pins (gw ds k σ) (upd H s.heap.objs.size (.lst [])) {s with heap:=h₁,toks:=tk}:=by
 have fresh:H s.heap.objs.size=none:=I.hok.fresh (Nat.le_refl _)
 have hok1:HOk X.prog X.w (upd H s.heap.objs.size (.lst [])) h₁:=I.hok.laid keep (Nat.le_refl _) ⟨Nat.zero_le _,[],0,.nil,hD⟩
 have lowfp: ∀b∈fp,b<s.heap.objs.size:=fun b hb=>let⟨_,e⟩:=fo b hb;Heap.lt_size e
 have stkne: ∀b,b∈frs X.stack→ ∀p∈X.pn++pins,p.1≠b:=fun b hb p hp e=>by
  obtain⟨_,_,n1,n2,_⟩:=I.pin p hp
  rcases List.mem_cons.mp (I.stkSub b hb) with z |z
  ·exact n1 (e.trans z)
  ·exact n2 (e▸z)
 have celllt: ∀x c,cl.lookup x=some c→c<s.heap.objs.size:=fun x c e=>by
  obtain⟨v,z⟩:=I.cell x c (hcl x c e)
  exact z.lt
 have kind_of: ∀x,(relabel scope X.env).names.lookup x=some .cell∨(relabel scope X.env).names.lookup x=some .free→scope.names.lookup x=some .free:=fun x h=>by
  rw[jT] at h
  cases e:scope.names.lookup x with
  |none=>rw[e] at h;simp at h
  |some q=>
   rw[e] at h
   have hm:=mem_of_lookup e
   have nc:q≠.cell:=hcell _ hm
   simp only[Option.map_some,Option.some.injEq] at h
   unfold pC at h
   split at h
   ·rename_i hc
    have:(q==NameKind.free)=true:=by
     cases hq:q==NameKind.free with
     |true=>rfl
     |false=>rw[hq] at hc;simp at hc
    have:q=.free:=by simpa using this
    rw[this]
   ·rcases h with h |h
    ·exact absurd h nc
    ·rw[h]
 refine⟨⟨I.ok.mod,?_,I.ok.glob,I.ok.blt,Nat.le_of_lt hC,?_,?_,?_,I.ok.hd,I.ok.frames,.inl rfl,?_,I.bs,Nat.le_trans I.ok.bsz I.sz,?_,?_,I.stack,I.stkFree⟩,rfl,I.bare,Un.laid keep (Nat.le_refl _) fresh,⟨m,hns,?_⟩,?_,?_,?_,?_,hok1,?_⟩
 ·exact hkind
 ·intro x y c hx hy
  exact I.ok.inj x y c (hcl x c hx) (hcl y c hy)
 ·intro x hx
  exact hcl2 x (mem_of_lookup (kind_of x hx))
 ·intro x c hf
  exact absurd hf (by simp[Cx.comp])
 ·intro b hb
  refine⟨Nat.ne_of_lt (Nat.lt_trans (lowfp b hb) hC),fun x c e z=> ?_⟩
  exact(f b hb).2.2.2.2.1 x c (hcl x c e) z
 ·intro b o e hb
  rcases(f b hb).2.2.2.1 with z |z
  ·exact I.ok.noex b o e z
  ·exact absurd (Nat.lt_of_lt_of_le (Heap.lt_size e) (Nat.le_trans I.ok.bsz z)) (Nat.lt_irrefl _)
 ·intro b hb hs
  rcases List.mem_cons.mp (I.stkSub b hs) with z |z
  ·exact(f b hb).2.1 z
  ·exact(f b hb).2.2.1 z
 ·intro i x v e1 e2 vis
  obtain⟨g1,g2,g3⟩:=ED e2
  have e1':X.N[i]? =some x:=by
   have e1:N'[i]? =some x:=e1
   rw[hN,List.getElem?_append_left (by rw[←I.len];exact g3)] at e1
   exact e1
  have hv:scope.names.lookup x=some .free:=by
   rcases vis with z |z |z
   ·exfalso
    have z:(relabel scope X.env).names.lookup x=some .local :=z
    rw[jT] at z
    cases e:scope.names.lookup x with
    |none=>rw[e] at z;simp at z
    |some q=>
     rw[e] at z
     simp only[Option.map_some,Option.some.injEq] at z
     unfold pC at z
     split at z
     ·cases z
     ·subst z
      exact g2 (hloc i x e1' e)
   ·exact kind_of x (.inl z)
   ·exact kind_of x (.inr z)
  have hm:=mem_of_lookup hv
  have hX:=hfree _ hm rfl
  obtain⟨mX,_,hl⟩:=I.loc
  have visX:Vis X.env.scope x:=by
   rcases hX with z |z
   ·exact .inr (.inl z)
   ·exact .inr (.inr z)
  obtain⟨u,r,l⟩:=hl i x v e1' g1 visX
  refine⟨u,r,.inr ⟨?_,?_⟩⟩
  ·show(relabel scope X.env).names.lookup x=some .cell∨(relabel scope X.env).names.lookup x=some .free
   rw[jT,hv]
   show some (pC X.env x .free)=some .cell∨some (pC X.env x .free)=some .free
   unfold pC
   split
   ·exact .inl rfl
   ·exact .inr rfl
  ·obtain⟨c,hc⟩:=hcl2 x hm
   have hc':=hcl x c hc
   refine⟨c,hc,?_⟩
   rcases l with⟨kl,_⟩ |⟨_,c',hc2,o,ho,hd⟩
   ·exfalso
    have kl:X.env.scope.names.lookup x=some .local :=kl
    rcases hX with z |z
    ·rw[kl] at z;cases z
    ·rw[kl] at z;cases z
   ·rw[hc'] at hc2
    cases hc2
    exact⟨o,keep c o ho,hd⟩
 ·intro x c e
  obtain⟨v,o,ho,hd⟩:=I.cell x c (hcl x c e)
  exact⟨v,o,keep c o ho,hd⟩
 ·show upd H s.heap.objs.size (.lst []) C=none
  rw[aj (Nat.ne_of_gt hC)]
  exact I.hok.fresh (Nat.le_of_lt hC)
 ·intro x c e
  rw[aj (Nat.ne_of_lt (celllt x c e))]
  exact I.freeC x c (hcl x c e)
 ·intro p hp
  obtain⟨e,n,n1,n2,d⟩:=I.pin p hp
  have lt:=Heap.lt_size e
  refine⟨keep _ _ e,?_,Nat.ne_of_lt (Nat.lt_trans lt hC),fun z=>stkne p.1 z p hp rfl,d⟩
  rw[aj (Nat.ne_of_lt lt)]
  exact n
 ·show(gw ds k σ).length=N'.length
  unfold gw
  rw[List.length_append,sk,I.len,hN,List.length_append,List.length_replicate,hk]
theorem Ku {scope:Scope}{N':List Str}{cl:List (Str×Addr)}{pins:List (Addr×Obj)}{σ σ':St}{H H':Hp}{s s':Shared}{fp:List Addr}{h':Heap}{C:Addr}
  (I:Inv X pins σ H s) (f: ∀b∈fp,Ad X pins H b) (I':Inv (X.comp scope N' cl C s H fp) pins σ' H' s') (hC:s.heap.objs.size<C) (sb:Heap.SameBut C s'.heap h'):Inv X pins σ H' {s' with heap:=h'}:=by
 have u:=I'.base
 have hfree:H' C=none:=I'.free
 have ne: ∀b o,s.heap.get? b=some o→b≠C:=fun b o e=>Nat.ne_of_lt (Nat.lt_trans (Heap.lt_size e) hC)
 have u':Un (frs X.stack) fp H H' s.heap h':=by
  refine⟨fun b o e n h1 h2=> ?_,fun b o e n h1 h2=> ?_,u.free,fun b o e h2=> ?_,u.tups,u.frzs,u.tbls⟩
  ·exact(sb.2 b (ne b o e)).trans (u.keep b o e n h1 h2)
  ·obtain⟨sl,q⟩:=u.slot b o e n h1 h2
   exact⟨sl,(sb.2 b (ne b o e)).trans q⟩
  ·obtain⟨o',q⟩:=u.there b o e h2
   exact⟨o',(sb.2 b (ne b o e)).trans q⟩
 have hok':HOk X.prog X.w H' h':=fun b ob e=>by
  refine(I'.hok b ob e).stay (fun c w' hc q=>(sb.2 c ?_).trans q) (fun _ q=>q) fun _ _ q=>q
  rintro rfl
  rcases hc with rfl |hc
  ·rw[hfree] at e;cases e
  ·rw[hfree] at hc;cases hc
 exact I.call' (s':={s' with heap:=h'}) I'.os u' hok' I'.bare fun b hb=>⟨(f b hb).2.2.2.1,(f b hb).2.1,(f b hb).2.2.2.2.1,(f b hb).2.2.2.2.2⟩
theorem Inv.block_gone {pins:List (Addr×Obj)}{σ:St}{H:Hp}{s:Shared}{C:Addr}{h':Heap}(I:Inv X pins σ H s) (hn:H C=none) (hL:C≠X.env.locals) (h1:X.s₀.heap.objs.size≤C)
  (h2: ∀x c,X.env.cells.lookup x=some c→c≠C) (h3: ∀p∈X.pn++pins,p.1≠C) (sb:Heap.SameBut C s.heap h'):Inv X pins σ H {s with heap:=h'}:=
 I.turned (t':=s.toks) (fun b o hb e=>(sb.2 b hb).trans e) hn hL (.inr h1) h2 h3
theorem BM (N':List Str) (ds:List Nat) (k:Nat) {news:List Str}{js:List Nat}{elt tg iter:Expr}{ifs:List Expr}{scope:Scope}{pos:Pos}{wi:TI}{g:TG}{tc:TT}{te:TE}
  {pins:List (Addr×Obj)}{s:Shared}{σ:St}{H:Hp}{Q:VK}{use:Option (Value→Sem Unit)}{QV:Value→Shared→Prop}
  (hc:X.calm=true) (hi:PI X tg iter wi)
  (hb: ∀cl C s₀ H₀ ex,PG (X.comp scope N' cl C s₀ H₀ ex) tg g∧PTs (X.comp scope N' cl C s₀ H₀ ex) ifs tc∧PE (X.comp scope N' cl C s₀ H₀ ex) elt te)
  (hg:GK g js) (hj: ∀σ:St,σ.length=X.N.length→ ∀j∈js,∀v,(gw ds k σ)[j]? ≠some (some v))
  (hkind:scope.kind=.function) (hcell: ∀y∈scope.names,y.2≠.cell)
  (hnames: ∀y∈scope.names,y.2=.local →scope.names.lookup y.1=some .local)
  (hfree: ∀y∈scope.names,y.2=.free→X.env.scope.names.lookup y.1=some .cell∨X.env.scope.names.lookup y.1=some .free)
  (hN:N'=X.N++news) (hk:news.length=k) (hloc: ∀i x,X.N[i]? =some x→scope.names.lookup x=some .local →i∈ds)
  (hs: ∀x,foldedSetIterable iter X.env x=pure x) (I:Inv X pins σ H s) (h:DV wi g ds k tc te σ H Q)
  (fin: ∀(D C:Addr) (H':Hp) (s':Shared) (m:Str→Option Value),Inv X pins σ H' s'→Q (.ref D) H'→s'.heap.Ns C m→H' C=none→C≠X.env.locals→X.s₀.heap.objs.size≤C→(∀x c,X.env.cells.lookup x=some c→c≠C)→(∀p∈X.pn++pins,p.1≠C)→
   compPost (model X.prog X.w) X.A X.xe use QV (.ref D) C (.ok .next) s'):
  wpAny (model X.prog X.w) X.A (comprehension (.ListComp elt [⟨tg,iter,ifs,0⟩] scope pos) scope X.env (firstIterPos [⟨tg,iter,ifs,0⟩] pos) (newList []) (firstAsync [⟨tg,iter,ifs,0⟩]) (firstIter [⟨tg,iter,ifs,0⟩] X.env) use) QV X.xe s:=by
 have hcells: ∀y∈scope.names,y.2=.free→ ∃c,X.env.cells.lookup y.1=some c:=fun y hy e=>I.ok.has y.1 (hfree y hy e)
 obtain⟨cl,hclos,hcl,hcl2⟩:=A8 hcells
 refine wpAny_comprehension_free (use:=use) rfl hs hclos hkind hnames (thn (hi pins s σ H _ I h) fun v s1 h1=>thn h1 fun itv s2 h2=> ?_)
 obtain⟨it,fp,tn,J,H2,e,I2,T,st2,f2,q⟩:=h2
 subst e
 have I20:=I2
 obtain⟨W,⟨m0,w0⟩,turn⟩:=q s2.heap.objs.size (I2.hok.fresh (Nat.le_refl _))
 refine wpAny_newObj_type (wpAny_newFunctionEnv hcell (by intro y hy;simp at hy) (fun h₁ hns₁ hsb₁=> ?_) hkind)
 dsimp only at hns₁ hsb₁⊢
 generalize hH2:s2.heap.push {cls:=.type "list",dict:=none,data:=.seq ([]:List Value).toArray}=G2 at hns₁ hsb₁⊢
 have hC:s2.heap.objs.size<G2.objs.size:=by rw[←hH2,Heap.size_push];exact Nat.lt_succ_self _
 have keep: ∀b o,s2.heap.get? b=some o→h₁.get? b=some o:=fun b o e=>
  hsb₁.extBut b o (Nat.ne_of_lt (Nat.lt_trans (Heap.lt_size e) hC)) (Heap.get?_push_of_some _ (hH2▸Heap.get?_push_of_some _ e))
 have hD:h₁.get? s2.heap.objs.size=some {cls:=.type "list",data:=.seq ([]:List Value).toArray 0}:=hsb₁.extBut _ _ (Nat.ne_of_lt hC) (Heap.get?_push_of_some _ (hH2▸Heap.get?_push_size _ rfl))
 have fo: ∀b∈fp,∃o,s2.heap.get? b=some o:=fun b hb=>let⟨o,e,_⟩:=T.obj _ _ st2 b hb;⟨o,e⟩
 obtain⟨hPG,hPT,hPE⟩:=hb cl G2.objs.size s2 H2 fp
 generalize hX':X.comp scope N' cl G2.objs.size s2 H2 fp=X' at hPG hPT hPE
 have xp:X'.prog=X.prog:=by rw[←hX'];rfl
 have xw:X'.w=X.w:=by rw[←hX'];rfl
 have xK:X'.K=X.K:=by rw[←hX'];rfl
 have xA:X'.A=X.A:=by rw[←hX'];rfl
 have xe:X'.xe=fun _ _=>False:=by rw[←hX'];rfl
 have xenv:X'.env=compEnvC scope cl G2.objs.size X.env:=by rw[←hX'];rfl
 have hc':X'.calm=true:=by rw[←hX'];exact hc
 have px:Inv X' pins (gw ds k σ) (upd H2 s2.heap.objs.size (.lst [])) {s2 with heap:=h₁,toks:=s2.toks+([]:List (Str×Value)).length}:=by
  rw[←hX']
  exact Kv I2 f2 fo hkind hcell hfree hcl hcl2 hN hk hloc hC keep hns₁ hD
 have st1:tn 0 h₁:=T.keep _ _ _ st2 fun b _ o e=>keep b o e
 have fpn: ∀b∈fp,upd H2 s2.heap.objs.size (.lst []) b=none:=fun b hb=>by
  obtain⟨o,e⟩:=fo b hb
  rw[aj (Nat.ne_of_lt (Heap.lt_size e))]
  exact(f2 b hb).1
 have stat: ∀{H':Hp},(∀b∈fp,H' b=none)→ ∀b∈fp,Ad X' pins H' b:=fun hn b hb=>by
  obtain⟨f0,f1,f3,f4,f5,f6⟩:=f2 b hb
  obtain⟨o,e⟩:=fo b hb
  refine⟨hn b hb,?_,?_,?_,?_,?_⟩
  ·rw[xenv];exact Nat.ne_of_lt (Nat.lt_trans (Heap.lt_size e) hC)
  ·intro z
   have z:b∈frs X.stack:=by rw[←hX'] at z;exact z
   rcases List.mem_cons.mp (I2.stkSub b z) with y |y
   ·exact f1 y
   ·exact f3 y
  ·rw[←hX'];exact .inl hb
  ·intro x c ec
   rw[xenv] at ec
   exact f5 x c (hcl x c ec)
  ·intro p hp
   rw[←hX'] at hp
   exact f6 p hp
 have loop:codeAny (model X.prog X.w) X.A (.compLoop (.ListComp elt [⟨tg,iter,ifs,0⟩] scope pos) 0 (.ref it) (.ref s2.heap.objs.size) (compEnvC scope cl G2.objs.size X.env))
   (compPost (model X.prog X.w) X.A X.xe use QV (.ref s2.heap.objs.size) G2.objs.size) {s2 with heap:=h₁,toks:=s2.toks+([]:List (Str×Value)).length}:=by
  refine ET (fun n s'=> ∃i acc H',Inv X' pins (gw ds k σ) H' s'∧tn i s'.heap∧(∀b∈fp,H' b=none)∧W i n acc H') ?_ m0 ⟨0,[],_,px,st1,fpn,w0⟩
  rintro n s3 ⟨i,acc,H3,I3,st3,fr3,w3⟩
  rcases turn i n acc H3 w3 with⟨stop,qn⟩ |⟨go,step⟩
  ·have td:=T.done X' xp xw xK hc' i pins s3 _ H3 (fun _ _=>False) I3 (stat fr3) st3 stop
   rw[xA] at td
   refine thn td fun r s4 ⟨hr,I4⟩=> ?_
   subst hr
   have I4':=I4
   rw[←hX'] at I4'
   obtain⟨m',hn',_⟩:=I4'.loc
   refine fin s2.heap.objs.size G2.objs.size H3 s4 m' (Ku (h':=s4.heap) I2 f2 I4' hC (.refl ..)) qn hn' I4'.free (Nat.ne_of_gt (Nat.lt_trans I2.lt hC)) (Nat.le_of_lt (Nat.lt_of_le_of_lt I2.sz hC)) (fun x c e z=> ?_) fun p hp z=> ?_
   ·obtain⟨v,q⟩:=I2.cell x c e
    exact absurd (Nat.lt_trans q.lt hC) (by rw[z];exact Nat.lt_irrefl _)
   ·exact absurd (Nat.lt_trans (Heap.lt_size (I2.pin p hp).1) hC) (by rw[z];exact Nat.lt_irrefl _)
  ·have ti:=T.item X' xp xw xK hc' i pins s3 _ H3 (fun _ _=>False) I3 (stat fr3) st3 go
   rw[xA] at ti
   refine thn ti fun r s4 ⟨u,hr,h4⟩=> ?_
   subst hr
   refine thn h4 fun _ s5 ⟨x,H5,I5,r5,y5,st5,fr5⟩=> ?_
   have I5':=I5.pinned (stat fr5) (T.obj _ _ st5)
   have pg:=hPG _ s5 _ H5 x u _ I5' r5 (hg x _ H5 _ (step x H5 y5))
   rw[xp,xw,xA,xenv,xe] at pg
   refine thn pg fun _ s6 ⟨σ6,H6,I6,⟨q6,len6,keep6⟩⟩=> ?_
   have again: ∀{H7:Hp}{s7:Shared},Inv X' (pins++yb fp s5.heap) σ6 H7 s7→Inv X' pins (gw ds k σ) H7 s7∧tn (i+1) s7.heap∧ ∀b∈fp,H7 b=none:=fun {H7 s7} I7=>by
    refine⟨I7.unpinned.weak len6.symm fun j v e=> ?_,T.keep _ _ _ st5 fun b hb o e=>(I7.pin (b,o) (List.mem_append_right _ (List.mem_append_right _ (nI hb e)))).1,fun b hb=> ?_⟩
    ·rw[keep6 j fun z=>hj σ I.len j z v e]
     exact e
    ·obtain⟨o,e,d⟩:=T.obj _ _ st5 b hb
     exact(I7.pin (b,o) (List.mem_append_right _ (List.mem_append_right _ (nI hb e)))).2.1
   have pt:=hPT _ s6 σ6 H6 _ I6 q6
   rw[xp,xw,xA,xenv,xe] at pt
   refine thn pt fun ok s7 ⟨H7,I7,q7⟩=> ?_
   cases ok with
   |false=>
    obtain⟨m',hm,w7⟩:=q7
    obtain⟨a1,a2,a3⟩:=again I7
    exact⟨m',hm,i+1,acc,H7,a1,a2,a3,w7⟩
   |true=>
    have pe:=hPE _ s7 σ6 H7 _ I7 q7
    rw[xp,xw,xA,xenv,xe] at pe
    refine thn pe fun yv s8 ⟨y,H8,I8,r8,hD8,hlen,m',hm,w8⟩=> ?_
    have ap:=fc (X:=X') _ s8 σ6 H8 (.ref s2.heap.objs.size) [y] _ [yv] (fun v H9=>H9=upd H8 s2.heap.objs.size (.lst (acc++[y]))) I8 rfl (.cons r8 .nil) ⟨_,acc,y,rfl,rfl,hD8,hlen,rfl⟩
    rw[xp,xw,xA,xe] at ap
    refine thn ap fun _ s9 ⟨_,H9,I9,_,e9⟩=> ?_
    subst e9
    obtain⟨a1,a2,a3⟩:=again I9
    exact⟨m',hm,i+1,acc++[y],_,a1,a2,a3,w8⟩
 exact codeAny_compStart_list loop (T.self _ 0 _ _ _ st1 loop)
theorem LH (N':List Str) (ds:List Nat) (k:Nat) {news:List Str}{js:List Nat}{elt tg iter:Expr}{ifs:List Expr}{scope:Scope}{pos:Pos}{wi:TI}{g:TG}{tc:TT}{te:TE}
  (hc:X.calm=true) (hi:PI X tg iter wi)
  (hb: ∀cl C s₀ H₀ ex,PG (X.comp scope N' cl C s₀ H₀ ex) tg g∧PTs (X.comp scope N' cl C s₀ H₀ ex) ifs tc∧PE (X.comp scope N' cl C s₀ H₀ ex) elt te)
  (hg:GK g js) (hj: ∀σ:St,σ.length=X.N.length→ ∀j∈js,∀v,(gw ds k σ)[j]? ≠some (some v))
  (hkind:scope.kind=.function) (hcell: ∀y∈scope.names,y.2≠.cell)
  (hnames: ∀y∈scope.names,y.2=.local →scope.names.lookup y.1=some .local)
  (hfree: ∀y∈scope.names,y.2=.free→X.env.scope.names.lookup y.1=some .cell∨X.env.scope.names.lookup y.1=some .free)
  (hN:N'=X.N++news) (hk:news.length=k) (hloc: ∀i x,X.N[i]? =some x→scope.names.lookup x=some .local →i∈ds)
  (hs: ∀x,foldedSetIterable iter X.env x=pure x:=by intro _;rfl):
  PE X (.ListComp elt [⟨tg,iter,ifs,0⟩] scope pos) (DV wi g ds k tc te):=by
 intro pins s σ H Q I h
 rw[eval_ListComp]
 refine BM N' ds k hc hi hb hg hj hkind hcell hnames hfree hN hk hloc hs I h fun D C H' s' m I' q hn n1 n2 n3 n4 n5=> ?_
 exact⟨m,hn,fun h' sb=>⟨.ref D,H',I'.block_gone n1 n2 n3 n4 n5 sb,rfl,q⟩⟩
theorem LB (N':List Str) (ds:List Nat) (k:Nat) {i:Nat}{x:Str}{pos' spos:Pos}{news:List Str}{js:List Nat}{elt tg iter:Expr}{ifs:List Expr}{scope:Scope}{pos:Pos}{wi:TI}{g:TG}{tc:TT}{te:TE}
  (hNd:X.N.Nodup) (hi':X.N[i]? =some x) (hx:Loc X.env.scope x) (hf:X.fn x=true∨X.env.scope.names.lookup x=some .local)
  (hsw:swapsWith (.ListComp elt [⟨tg,iter,ifs,0⟩] scope pos) (some (.Name x pos')) spos.line X.env=pure true)
  (hc:X.calm=true) (hi:PI X tg iter wi)
  (hb: ∀cl C s₀ H₀ ex,PG (X.comp scope N' cl C s₀ H₀ ex) tg g∧PTs (X.comp scope N' cl C s₀ H₀ ex) ifs tc∧PE (X.comp scope N' cl C s₀ H₀ ex) elt te)
  (hg:GK g js) (hj: ∀σ:St,σ.length=X.N.length→ ∀j∈js,∀v,(gw ds k σ)[j]? ≠some (some v))
  (hkind:scope.kind=.function) (hcell: ∀y∈scope.names,y.2≠.cell)
  (hnames: ∀y∈scope.names,y.2=.local →scope.names.lookup y.1=some .local)
  (hfree: ∀y∈scope.names,y.2=.free→X.env.scope.names.lookup y.1=some .cell∨X.env.scope.names.lookup y.1=some .free)
  (hN:N'=X.N++news) (hk:news.length=k) (hloc: ∀i x,X.N[i]? =some x→scope.names.lookup x=some .local →i∈ds)
  (hs: ∀x,foldedSetIterable iter X.env x=pure x:=by intro _;rfl):
  PS X (.Assign [.Name x pos'] (.ListComp elt [⟨tg,iter,ifs,0⟩] scope pos) spos) (IV (DV wi g ds k tc te) (t6 i)):=by
 intro pins s σ H D I h
 rw[exec_Assign_Name_used _ _ _ _ hsw]
 refine wpAny_bind (wpAny_standAt (wpAny_bind ?_))
 show wpAny _ X.A (do let _ ←comprehension (.ListComp elt [⟨tg,iter,ifs,0⟩] scope pos) scope X.env _ (newList []) false (eval iter X.env) (some (assign (.Name x pos') X.env))) _ _ s
 refine wpAny_bind (wpAny_mono (BM (QV:=fun _ s'=>SP X pins D .next s') (use:=some (assign (.Name x pos') X.env)) N' ds k hc hi hb hg hj hkind hcell hnames hfree hN hk hloc hs I h
  fun Da C H' s' m I' q hn n1 n2 n3 n4 n5=> ?_) (fun _ s' hq=>wpAny_pure (wpAny_pure hq)) fun _ _ e=>e)
 show wpAny _ X.A (assign (.Name x pos') X.env (.ref Da)) _ _ _
 refine wpAny_assign_Name (Bp I' hNd hi' hx (v:=.ref Da) rfl (fun s'' I'' ⟨a,sb,ha⟩=> ?_) hf)
 have hCa:C≠a:=by
  rcases ha with z |z
  ·rw[z];exact n2
  ·exact fun e=>n4 x a z e.symm
 exact⟨m,hn.sameBut sb hCa,fun h' sb'=>⟨_,H',I''.block_gone n1 n2 n3 n4 n5 sb',q⟩⟩
def Di (N0:List Str) (ds:List Nat) (sc0 scope:Scope):Bool:=
 scope.kind==.function && scope.names.all (fun y=> !(y.2==.cell) && (!(y.2==.local) ||scope.names.lookup y.1==some .local) && (!(y.2==.free) ||(sc0.names.lookup y.1==some .cell ||sc0.names.lookup y.1==some .free))) &&
  N0.zipIdx.all fun p=> !(scope.names.lookup p.1==some .local) ||ds.contains p.2
theorem zE {N0:List Str}{ds js:List Nat}{sc0 scope:Scope}{k:Nat}(ok:Di N0 ds sc0 scope=true) (hj:(js.all fun j=>ds.contains j ||decide (N0.length≤j))=true):
  (∀σ:St,σ.length=N0.length→ ∀j∈js,∀v,(gw ds k σ)[j]? ≠some (some v))∧scope.kind=.function∧(∀y∈scope.names,y.2≠.cell)∧(∀y∈scope.names,y.2=.local →scope.names.lookup y.1=some .local)∧
  (∀y∈scope.names,y.2=.free→sc0.names.lookup y.1=some .cell∨sc0.names.lookup y.1=some .free)∧(∀i x,N0[i]? =some x→scope.names.lookup x=some .local →i∈ds):=by
 unfold Di at ok
 rw[Bool.and_eq_true,Bool.and_eq_true] at ok
 obtain⟨⟨h1,h2⟩,h3⟩:=ok
 have h2:=List.all_eq_true.mp h2
 have h3:=List.all_eq_true.mp h3
 have hj:=List.all_eq_true.mp hj
 refine⟨?_,(by simpa using h1),?_,?_,?_,?_⟩
 ·intro σ hl j hm v e
  obtain⟨_,q2,q3⟩:=ED e
  have:=hj j hm
  rw[Bool.or_eq_true] at this
  rcases this with z |z
  ·exact q2 (by simpa using z)
  ·have:=of_decide_eq_true z
   omega
 ·intro y hy e
  have:=h2 y hy
  rw[Bool.and_eq_true,Bool.and_eq_true] at this
  have z:=this.1.1
  rw[e] at z
  exact absurd z (by decide)
 ·intro y hy e
  have:=h2 y hy
  rw[Bool.and_eq_true,Bool.and_eq_true] at this
  have z:=this.1.2
  rw[e] at z
  simpa using z
 ·intro y hy e
  have:=h2 y hy
  rw[Bool.and_eq_true,Bool.and_eq_true] at this
  have z:=this.2
  rw[e] at z
  simpa using z
 ·intro i x e1 e2
  have:=h3 (x,i) (by rw[List.mem_zipIdx_iff_getElem?];exact e1)
  rw[Bool.or_eq_true] at this
  rcases this with z |z
  ·rw[e2] at z
   exact absurd z (by decide)
  ·simpa using z
theorem dw (N0 news:List Str) (ds js:List Nat) (sc0:Scope) {elt tg iter:Expr}{ifs:List Expr}{scope:Scope}{pos:Pos}{wi:TI}{g:TG}{tc:TT}{te:TE}
  (hc:X.calm=true) (hN0:X.N=N0) (hsc:X.env.scope=sc0) (ok:Di N0 ds sc0 scope=true) (hj:(js.all fun j=>ds.contains j ||decide (N0.length≤j))=true) (hg:GK g js)
  (hi:PI X tg iter wi)
  (hb: ∀cl C s₀ H₀ ex,PG (X.comp scope (N0++news) cl C s₀ H₀ ex) tg g∧PTs (X.comp scope (N0++news) cl C s₀ H₀ ex) ifs tc∧PE (X.comp scope (N0++news) cl C s₀ H₀ ex) elt te)
  (hs: ∀x,foldedSetIterable iter X.env x=pure x:=by intro _;rfl):
  PE X (.ListComp elt [⟨tg,iter,ifs,0⟩] scope pos) (DV wi g ds news.length tc te):=by
 subst hN0
 subst hsc
 obtain⟨h1,h2,h3,h4,h5,h6⟩:=zE ok hj
 exact LH (X.N++news) ds news.length hc hi hb hg h1 h2 h3 h4 h5 rfl rfl h6 hs
theorem iW (N0 news:List Str) (ds js:List Nat) (sc0:Scope) {i:Nat}{x:Str}{pos' spos:Pos}{elt tg iter:Expr}{ifs:List Expr}{scope:Scope}{pos:Pos}{wi:TI}{g:TG}{tc:TT}{te:TE}
  (hc:X.calm=true) (hN0:X.N=N0) (hsc:X.env.scope=sc0) (ok:Di N0 ds sc0 scope=true) (hj:(js.all fun j=>ds.contains j ||decide (N0.length≤j))=true) (hg:GK g js)
  (hi:PI X tg iter wi)
  (hb: ∀cl C s₀ H₀ ex,PG (X.comp scope (N0++news) cl C s₀ H₀ ex) tg g∧PTs (X.comp scope (N0++news) cl C s₀ H₀ ex) ifs tc∧PE (X.comp scope (N0++news) cl C s₀ H₀ ex) elt te)
  (hNd:N0.Nodup) (hi':N0[i]? =some x:=by rfl) (hx:sc0.names.lookup x=some .local :=by rfl)
  (hsw:swapsWith (.ListComp elt [⟨tg,iter,ifs,0⟩] scope pos) (some (.Name x pos')) spos.line X.env=pure true:=by rfl)
  (hs: ∀x,foldedSetIterable iter X.env x=pure x:=by intro _;rfl):
  PS X (.Assign [.Name x pos'] (.ListComp elt [⟨tg,iter,ifs,0⟩] scope pos) spos) (IV (DV wi g ds news.length tc te) (t6 i)):=by
 subst hN0
 subst hsc
 obtain⟨h1,h2,h3,h4,h5,h6⟩:=zE ok hj
 exact LB (X.N++news) ds news.length hNd hi' (.inl hx) (.inr hx) hsw hc hi hb hg h1 h2 h3 h4 h5 rfl rfl h6 hs
end
end L2
namespace L2
open PySem PySem.Spec PyProof.Rows
section
variable {X:Cx}
theorem EV:cQ X (.builtin "isinstance") (fun xs H Q=> ∃x T t b,xs=[x,.ty T]∧qB X.K H x t∧PySem.W.kitOne X.K t (.type T)=some b∧Q (.bl b) H):=by
 intro pins s σ H xs us Q I r h
 obtain⟨x,T,t,b,rfl,ty,e,q⟩:=h
 obtain⟨u,w',rfl,rx,rt⟩:=DN r
 obtain rfl:w'=Value.type T:=rt
 exact HK I rx ty e fun tk=>⟨.bl b,H,I.tok tk,rfl,q⟩
theorem Io {bs:List Bool}{its:List Value}(r:a8 (bs.map V.bl) its) {i:Nat}{v:Value}(h:its[i]? =some v): ∃b,bs[i]? =some b∧v=.bool b:=by
 have hl:=r.length
 rw[List.length_map] at hl
 have hi:i<its.length:=(List.getElem?_eq_some_iff.mp h).1
 have hb:bs[i]? =some bs[i]:=by simp
 obtain⟨u,h1,h2⟩:=r.get (i:=i) (x:=.bl bs[i]) (by rw[List.getElem?_map,hb];rfl)
 rw[h] at h1
 cases h1
 exact⟨bs[i],hb,h2⟩
theorem Hj {bs:List Bool}:((List.range bs.length).all fun i=>bs.getD i true)=bs.all id:=by
 induction bs with
 |nil=>rfl
 |cons b r ih=>
  rw[List.length_cons,List.range_succ_eq_map,List.all_cons,List.all_map,List.all_cons]
  congr 1
theorem NO {A:Around}(h:A.handled=none):A.in1.handled=none:=h
theorem Ik (hc:X.calm=true):cQ X (.builtin "all") (fun xs H Q=> ∃(p:Addr) (bs:List Bool),xs=[.ref p]∧SqL X.K H p (bs.map V.bl)∧Q (.bl (bs.all id)) H):=by
 intro pins s σ H xs us Q I r h
 obtain⟨p,bs,rfl,hq,q⟩:=h
 obtain⟨u,rfl,r1⟩:=o7 r
 cases r1
 obtain⟨its,rv,pl,hz⟩:=I.list hq
 refine call_all_walk (wpAny_pyIter_list pl.isList ?_)
 have hne:p≠s.heap.objs.size:=Nat.ne_of_lt (by obtain⟨o,n,e,_⟩:=pl;exact Heap.lt_size e)
 have hl:=rv.length
 rw[List.length_map] at hl
 refine⟨s.heap.objs.size,_,_,_,_,_,fun i=>bs.getD i true,rfl,Walks.list (NO (I.ok.hd hc)) s.heap.objs.size p hne its.toArray,⟨⟨_,Heap.get?_push_size _ rfl,rfl,rfl⟩,?_⟩,?_,?_⟩
 ·exact pl.isList.push _
 ·intro i v s' Q' E' hP hQ
  have hP:its.toArray[i]? =some v:=hP
  obtain⟨b,hb,rfl⟩:=Io rv (i:=i) (v:=v) (by simpa using hP)
  refine wpAny_truthy_bool ?_
  have e:bs.getD i true=b:=by simp[List.getD,hb]
  have hQ:Q' (bs.getD i true) s':=hQ
  rw[e] at hQ
  exact hQ
 ·intro h' tk kk
  have e:((List.range its.toArray.size).all fun i=>bs.getD i true)=bs.all id:=by
   rw[List.size_toArray,←hl,Hj]
  rw[e]
  exact⟨.bl _,H,I.kept (h':=h') (t':=tk) fun b o e=>kk b o (by simp[Nat.ne_of_lt (Heap.lt_size e)]) (Heap.get?_push_of_some _ e),rfl,q⟩
def Its (x:Str):It:=⟨fun i _=>i<x.cps.size,fun i H y H'=>H'=H∧ ∃c,x.cps[i]? =some c∧y=.str ⟨#[c]⟩,fun i _=>x.cps.size≤i⟩
theorem IO {P:Program}{w:World}{K:PySem.W.Frag}{tg:Expr}(it:Addr) (x:Str) (t:Tok) (cls:String) (hn:["enumerate","zip","dict_itemiterator","dict_reverseitemiterator","odict_iterator","itertools.zip_longest","itertools.pairwise"].contains cls=false)
  (W: ∀A:Around,A.handled=none→Walks P w A it [it] [it] x.cps.size (SignAt x) (fun i h=>h.IsStrIter it cls x t i))
  (S: ∀(A:Around) (i:Nat) (s:Shared) (Q:Value→Shared→Prop) (E:Value→Shared→Prop),s.heap.IsStrIter it cls x t i→Q (.ref it) s→wpAny (model P w) A (pyIter (.ref it)) Q E s):Bl P w K tg (Its x) [it] it (fun i h=>i≤x.cps.size∧h.IsStrIter it cls x t i) where
 mem:=by simp
 obj:=fun i h st b hb=>by
  have e:b=it:=by simpa using hb
  subst e
  obtain⟨_,o,e,c,d⟩:=st
  exact⟨o,e,fun v z=>by rw[d] at z;cases z⟩
 keep:=fun i h h' st k=>by
  obtain⟨l,o,e,r⟩:=st
  exact⟨l,o,k it (by simp) o e,r⟩
 item:=by
  intro X hP hw hK hc i pins s σ H E I hf st hg
  subst hP hw hK
  obtain⟨f0,f1,f2,f3,f4,f5⟩:=hf it (by simp)
  refine(W X.A (I.ok.hd hc)).item i s _ _ hg st.2 fun v h' tk hv st' kk=> ?_
  obtain⟨c,u,hcx,rfl⟩:=hv
  have I1:Inv X pins σ H {s with heap:=h',toks:=tk}:=I.turned (fun b o hb e=>kk b o (by simpa using hb) e) f0 f1 f3 f4 f5
  obtain⟨o,e,c1,d⟩:=id st'
  have hlt:i<x.cps.size:=hg
  exact⟨_,rfl,Bz (s:={s with heap:=h',toks:=tk}) e c1 d hn ⟨.str ⟨#[c]⟩,H,I1,⟨u,rfl⟩,⟨rfl,c,hcx,rfl⟩,⟨by omega,st'⟩,fun b hb=>(hf b hb).1⟩⟩
 done:=by
  intro X hP hw hK hc i pins s σ H E I hf st hg
  subst hP hw hK
  obtain⟨f0,f1,f2,f3,f4,f5⟩:=hf it (by simp)
  have e:i=x.cps.size:=Nat.le_antisymm st.1 hg
  subst e
  exact(W X.A (I.ok.hd hc)).done s _ _ st.2 fun h' tk kk=>⟨rfl,I.turned (fun b o hb e=>kk b o (by simpa using hb) e) f0 f1 f3 f4 f5⟩
 self:=fun A i s Q E st h=>S A i s Q E st.2 h
def PQ (tl:TE):TI:=fun σ H R=>tl σ H fun v H1=> ∃x,v=.str x∧R (Its x) H1
theorem Ni {tg l:Expr}{tl:TE}(hl:PE X l tl):PI X tg l (PQ tl):=by
 intro pins s σ H R I h
 refine thn (hl pins s σ H _ I h) fun v s1 ⟨y,H1,I1,r1,q1⟩=> ?_
 obtain⟨x,e,q⟩:=q1
 subst e
 obtain⟨t,rfl⟩:=r1
 have fin: ∀(cls:String) (ob:Obj),(["enumerate","zip","dict_itemiterator","dict_reverseitemiterator","odict_iterator","itertools.zip_longest","itertools.pairwise"].contains cls=false)→
   (∀A:Around,A.handled=none→Walks X.prog X.w A s1.heap.objs.size [s1.heap.objs.size] [s1.heap.objs.size] x.cps.size (SignAt x) (fun i h=>h.IsStrIter s1.heap.objs.size cls x t i))→
   (∀(A:Around) (i:Nat) (s:Shared) (Q:Value→Shared→Prop) (E:Value→Shared→Prop),s.heap.IsStrIter s1.heap.objs.size cls x t i→Q (.ref s1.heap.objs.size) s→wpAny (model X.prog X.w) A (pyIter (.ref s1.heap.objs.size)) Q E s)→
   (s1.heap.push ob).IsStrIter s1.heap.objs.size cls x t 0→PIE X pins σ tg R (.ref s1.heap.objs.size) {s1 with heap:=s1.heap.push ob}:=fun cls ob h1 h2 h3 h4=>by
  refine⟨s1.heap.objs.size,[s1.heap.objs.size],_,Its x,H1,rfl,I1.kept (t':=s1.toks) fun b o e=>Heap.get?_push_of_some _ e,IO _ x t cls h1 h2 h3,⟨Nat.zero_le _,h4⟩,fun b hb=> ?_,q⟩
  have e:b=s1.heap.objs.size:=by simpa using hb
  subst e
  exact I1.fpOk (Nat.le_refl _) (I1.hok.fresh (Nat.le_refl _))
 cases ha:x.cps.all (· <128)
 ·exact wpAny_pyIter_wide ha (fin "str_iterator" _ (by decide) (fun A hA=>Walks.strWide hA _ x t) (fun A i s Q E st h=>wpAny_pyIter_striter_wide st h) ⟨_,Heap.get?_push_size _ rfl,rfl,rfl⟩)
 ·exact wpAny_pyIter_ascii ha (fin "str_ascii_iterator" _ (by decide) (fun A hA=>Walks.strAscii hA _ x t) (fun A i s Q E st h=>wpAny_pyIter_striter_ascii st h) ⟨_,Heap.get?_push_size _ rfl,rfl,rfl⟩)
end
end L2
namespace L2
open PySem PySem.Spec PyProof.Rows
section
variable {X:Cx}(K:PySem.W.Frag) (hK:X.K=K)
include hK
theorem aK:cQ X (.builtin "len") (fun xs H Q=> ∃x n,xs=[x]∧Po K x H n∧Q (.int n) H):=by subst hK;exact Kz
theorem mI:cQ X (.builtin "isinstance") (fun xs H Q=> ∃x T t b,xs=[x,.ty T]∧qB K H x t∧PySem.W.kitOne K t (.type T)=some b∧Q (.bl b) H):=by subst hK;exact EV
theorem mJ (hc:X.calm=true):cQ X (.builtin "all") (fun xs H Q=> ∃(p:Addr) (bs:List Bool),xs=[.ref p]∧SqL K H p (bs.map V.bl)∧Q (.bl (bs.all id)) H):=by subst hK;exact Ik hc
theorem bj:IxR X (OR K):=by subst hK;exact L3
theorem aB:IxR X (OQ K):=by subst hK;exact NL
theorem tE:SlR X (OL K):=by subst hK;exact Lv
theorem yG:OpR X (compareOp .In) (rIn K false):=by subst hK;exact Ho
theorem JJ:OpR X (binaryOp .Add) (Mr K):=by subst hK;exact LK
theorem F5:cQ X (.type "list") (fun xs H Q=> ∃p ys,xs=[.ref p]∧(SqL K H p ys∨SqT K H p ys)∧ ∀l,H l=none→Q (.ref l) (upd H l (.lst ys))):=by subst hK;exact Dj
theorem fg:cQ X (.type "tuple") (fun xs H Q=> ∃p ys,xs=[.ref p]∧((SqL K H p ys∧ ∀l,H l=none→Q (.ref l) (upd H l (.tup ys)))∨(SqT K H p ys∧Q (.ref p) H))):=by subst hK;exact A9
theorem ce {tg l:Expr}{tl:TE}(hl:PE X l tl):PI X tg l (Mz K tl):=by subst hK;exact LD hl
theorem nG {tg l:Expr}{tl:TE}(hl:PE X l tl):PI X tg l (O9 K tl):=by subst hK;exact Nh hl
theorem be {a:Expr}{ta:TE}(ha:PE X a ta) (he: ∀whole,isTrue a X.env whole=(do let v ←whole;standAt a.pos;holding [v] (truthy v))):
  PT X a (fun σ H Q=>ta σ H fun x H'=> ∃k,Oc K x H' k∧Q k H'):=by subst hK;exact Jx ha he
theorem eX {es:List Expr}{k:Nat}{pos:Pos}{t:TGs}{n:Nat}(hc:X.calm=true) (h:PGs X es t)
  (hn:(assignEach es X.env).length=n:=by rfl) (hst:(assignEach es X.env).findIdx? (·.1)=none:=by rfl):PG X (.Tuple es k pos) (NQ K n t):=by subst hK;exact Nj hc h hn hst
variable {o e:Expr}{es:List Expr}{to:TE}{t:TA}{name:Str}{apos cpos:Pos}{T id:String}{r:V→List V→Hp→VK→Prop}
theorem LI (pa:PlainAttrs T) (slot:Slot T name id) (hty:typeOf (.builtin id)=pure (.type "method_descriptor")) (hm:MtR X id r) (ho:PE X o to)
  (hbase:attributeBase o name X.env (eval o X.env)=eval o X.env:=by rfl) (hline:(apos.endLine==cpos.line)=true:=by rfl):PE X (.Call (.Attribute o name apos) [] [] cpos) (OF K T r to):=by
 subst hK;exact No pa slot hty hm ho hbase hline
theorem pE (pa:PlainAttrs T) (slot:Slot T name id) (hty:typeOf (.builtin id)=pure (.type "method_descriptor")) (hm:MtR X id r) (ho:PE X o to) (ha:PA X (e::es) t)
  (hbase:attributeBase o name X.env (eval o X.env)=eval o X.env:=by rfl)
  (hfew:((backTo cpos (starEach (e::es) X.env)).all (fun x=> !x.1) && (backToKw cpos (keywordEach [] X.env)).all (fun x=>x.1.isSome)
   && decide ((e::es).length+([]:List Keyword).length+(if([]:List Keyword).isEmpty then 0 else 1)<30))=true:=by rfl)
  (hline:(apos.endLine==cpos.line)=true:=by rfl) (hs:starEach (e::es) X.env=(false,eval e X.env)::starEach es X.env:=by rfl) (hplain:(backTo cpos (starEach es X.env)).any (·.1)=false:=by rfl):
  PE X (.Call (.Attribute o name apos) (e::es) [] cpos) (tBM K T r to t):=by
 subst hK;exact OT pa slot hty hm ho ha hbase hfew hline hs hplain
end
end L2
namespace L2
open PySem PySem.Spec PyProof.Rows
theorem aQ:bootBuiltins "len"=some (.builtin "len"):=by decide+kernel
theorem KC:bootBuiltins "max"=some (.builtin "max"):=by decide+kernel
theorem EZ:bootBuiltins "min"=some (.builtin "min"):=by decide+kernel
theorem bn:bootBuiltins "isinstance"=some (.builtin "isinstance"):=by decide+kernel
theorem qf:bootBuiltins "all"=some (.builtin "all"):=by decide+kernel
theorem wy:bootBuiltins "sorted"=some (.builtin "sorted"):=by decide+kernel
theorem KB:bootBuiltins "sum"=some (.builtin "sum"):=by decide+kernel
theorem KD:bootBuiltins "int"=some (.type "int"):=by decide+kernel
theorem EX:bootBuiltins "str"=some (.type "str"):=by decide+kernel
theorem Im:bootBuiltins "bool"=some (.type "bool"):=by decide+kernel
theorem vQ:bootBuiltins "list"=some (.type "list"):=by decide+kernel
theorem bW:bootBuiltins "tuple"=some (.type "tuple"):=by decide+kernel
theorem EY:bootBuiltins "set"=some (.type "set"):=by decide+kernel
theorem zH:bootBuiltins "enumerate"=some (.type "enumerate"):=by decide+kernel
theorem KA:bootBuiltins "zip"=some (.type "zip"):=by decide+kernel
theorem Bc:bootBuiltins "reversed"=some (.type "reversed"):=by decide+kernel
section
variable {X:Cx}
theorem pD {x:Str}{T:String}{pos:Pos}(hg:Gl X x) (hm:X.mg x=none) (hv:bootBuiltins x=some (.type T)) (hn:x≠"__name__":=by decide) (hd:(x==("__debug__":Str))=false:=by decide):PE X (.Name x pos) (tC (.ty T)):=
 LJ hg hm hv rfl hn hd
theorem dB {x:Str}{v:V}{pos:Pos}(hm: ∃u,X.mg x=some u∧aZ v u) (hg:Gl X x) (hd:(x==("__debug__":Str))=false:=by decide):PE X (.Name x pos) (tC v):=by
 obtain⟨u,h1,h2⟩:=hm
 exact Gw hg h1 h2 hd
end
theorem j7 {K:PySem.W.Frag}{A B:String}{b:Bool}(h:(if((Value.type A)==.type B)=true then some true else if PySem.W.kitMeta B=true then(fastBuiltinMro A).map (·.contains (.type B)) else none)=some b):PySem.W.kitOne K (.type A) (.type B)=some b:=h
theorem AZ {i j:Int}{A B:Prop}(h1:i=j→A) (h2:i≠j→B):if decide (V.int i=V.int j)=true then A else B:=by
 by_cases h:i=j
 ·subst h
  rw[decide_eq_true rfl]
  exact cL (h1 rfl)
 ·rw[decide_eq_false (fun e=>h (V.int.inj e))]
  exact bY (h2 h)
theorem se {c:Prop} [Decidable c] {A B:Prop}(h1:c→A) (h2: ¬c→B):if decide c=true then A else B:=by
 by_cases h:c
 ·rw[decide_eq_true h]
  exact cL (h1 h)
 ·rw[decide_eq_false h]
  exact bY (h2 h)
theorem PN {b:Bool}{A B:Prop}(h1:b=true→A) (h2:b=false→B):if b=true then A else B:=by
 cases b with
 |true=>exact cL (h1 rfl)
 |false=>exact bY (h2 rfl)
theorem aq {j:Nat}{x:V}{σ:St}{H:Hp}{F:St→Hp→Prop}(h:F (σ.set j (some x)) H):t6 j x σ H F:=h
theorem pj {σ:St}{H:Hp}{F:Bool→Hp→Prop}(h:F true H):Os σ H F:=h
theorem Nx {H:Hp}{a b:Addr}{o:HO}(h:upd H a o b=none):b≠a∧H b=none:=by
 by_cases e:b=a
 ·rw[e,ae] at h
  cases h
 ·rw[aj e] at h
  exact⟨e,h⟩
theorem bR (i:Int) {n:Int}(h:0<n):0≤i%n∧i%n<n:=⟨Int.emod_nonneg _ (by omega),Int.emod_lt_of_pos _ h⟩
theorem NB (x:Int):Builtin.bitAnd x 2147483647=x%2147483648:=PySem.W.kbt_mask x 31
end L2
namespace L2
open PySem PySem.Spec PyProof.Rows
section
variable {X:Cx}
def PD:V→Option Int→Option Int→Hp→VK→Prop:=fun x lo hi H Q=> ∃z,x=.str z∧z.length≤sizeLine∧Q (.str (Txt.slice z lo hi)) H
theorem Js:SlR X PD:=by
 intro pins s σ H x v vl vu lo hi sl Q I rx hs pl pu h
 obtain⟨z,rfl,hz,q⟩:=h
 obtain⟨t,rfl⟩:=rx
 refine⟨"str",_,F.slot_str_getitem.lookup,typeIs_str _ _ _,?_⟩
 have fin: ∀(t':Tok) (k:Nat),EP X pins σ Q (.str (Txt.slice z lo hi) t') {s with toks:=k}:=fun t' k=>⟨.str _,H,I.tok k,⟨_,rfl⟩,q⟩
 cases pl with
 |none=>
  cases pu with
  |none=>exact wpAny_getItem_str_slice (l:=none) (u:=none) (st:=none) hs rfl (post_val_or_str ⟨Nat.le_trans (Txt.slice_le z _ _) hz,fin⟩)
  |int j u=>exact wpAny_getItem_str_slice (l:=none) (u:=some (j,u)) (st:=none) hs rfl (post_val_or_str ⟨Nat.le_trans (Txt.slice_le z _ _) hz,fin⟩)
 |int i t1=>
  cases pu with
  |none=>exact wpAny_getItem_str_slice (l:=some (i,t1)) (u:=none) (st:=none) hs rfl (post_val_or_str ⟨Nat.le_trans (Txt.slice_le z _ _) hz,fin⟩)
  |int j u=>exact wpAny_getItem_str_slice (l:=some (i,t1)) (u:=some (j,u)) (st:=none) hs rfl (post_val_or_str ⟨Nat.le_trans (Txt.slice_le z _ _) hz,fin⟩)
end
end L2
namespace L2
open PySem PySem.Spec PyProof.Rows
theorem nx_ {D:sZ}{σ:St}{H:Hp}(h:D.nx σ H):Mp D σ H:=h
theorem al {H0 H:Hp}{a:Addr}{o:HO}(h:am H0 H) (hn:H a=none):am H0 (upd H a o):=fun b o' hb=>by
 have e:=h b o' hb
 rw[aj (au e hn)]
 exact e
theorem KJ {α:Type}{xs:List α}{i:Int}(h0:0≤i) (h1:i<xs.length): ∃c,atI xs i=some c∧c∈xs:=by
 refine⟨xs[i.toNat]'(by omega),?_,List.getElem_mem _⟩
 unfold atI ixN
 rw[if_pos h0,if_pos h1]
 show xs[i.toNat]? =_
 rw[List.getElem?_eq_getElem (by omega)]
theorem aC {n:Nat}(h:n≤65536):n≤sizeLine:=by rw[sizeLine_eq];omega
mutual
inductive IsP (K:PySem.W.Frag) (H:Hp):V→PyData→Prop
 |non:IsP K H .non .none
 |bl (b:Bool):IsP K H (.bl b) (.bool b)
 |int (i:Int):IsP K H (.int i) (.int i)
 |str (x:Str):IsP K H (.str x) (.str x)
 |lst {a:Addr}{xs:List V}{ds:List PyData}:SqL K H a xs→IsPs K H xs ds→IsP K H (.ref a) (.list ds)
 |tup {a:Addr}{xs:List V}{ds:List PyData}:SqT K H a xs→IsPs K H xs ds→IsP K H (.ref a) (.tuple ds)
inductive IsPs (K:PySem.W.Frag) (H:Hp):List V→List PyData→Prop
 |nil:IsPs K H [] []
 |cons {v:V}{d:PyData}{vs:List V}{ds:List PyData}:IsP K H v d→IsPs K H vs ds→IsPs K H (v::vs) (d::ds)
end
section
variable {X:Cx}{pins:List (Addr×Obj)}{σ:St}{H:Hp}{s:Shared}
mutual
theorem IsP.reads (I:Inv X pins σ H s): ∀{v:V}{d:PyData}{u:Value},IsP X.K H v d→aZ v u→ ∃as,Reads s.heap u d as
 |_,_,_,.non,r=>by
  obtain rfl:_=Value.none:=r
  exact⟨_,.none⟩
 |_,_,_,.bl b,r=>by
  obtain rfl:_=Value.bool b:=r
  exact⟨_,.bool b⟩
 |_,_,_,.int i,r=>by
  obtain⟨t,rfl⟩:=r
  exact⟨_,.int i t⟩
 |_,_,_,.str x,r=>by
  obtain⟨t,rfl⟩:=r
  exact⟨_,.str x t⟩
 |_,_,_,.lst (a:=a) h hs,r=>by
  obtain rfl:_=Value.ref a:=r
  obtain⟨its,rv,⟨o,n,e,hc,_,hd⟩,_⟩:=I.list h
  obtain⟨as,q⟩:=IsPs.reads I hs rv
  exact⟨_,.list e hc hd (by simpa using q)⟩
 |_,_,_,.tup (a:=a) h hs,r=>by
  obtain rfl:_=Value.ref a:=r
  obtain⟨its,rv,⟨o,e,hc,n,hd⟩,_⟩:=I.tuple h
  obtain⟨as,q⟩:=IsPs.reads I hs rv
  exact⟨_,.tuple e hc hd (by simpa using q)⟩
theorem IsPs.reads (I:Inv X pins σ H s): ∀{vs:List V}{ds:List PyData}{us:List Value},IsPs X.K H vs ds→a8 vs us→ ∃as,ReadsAll s.heap us ds as
 |_,_,_,.nil,r=>by
  cases r
  exact⟨_,.nil⟩
 |_,_,_,.cons h hs,r=>by
  cases r with
  |cons r1 r2=>
   obtain⟨as,q⟩:=IsP.reads I h r1
   obtain⟨bs,p⟩:=IsPs.reads I hs r2
   exact⟨_,.cons q p⟩
end
end
section
variable {X:Cx}
def OP (K:PySem.W.Frag):R2:=fun x y H Q=> ∃d e,IsP K H x d∧IsP K H y e∧SeqAt.shaped d=true∧SeqAt.shaped e=true∧Q (.bl (!PyData.eqv d e)) H
theorem Nr (hu:X.A.units+64<cLine):OpR X (compareOp .NotEq) (OP X.K):=by
 intro pins s σ H x y v u Q I rx ry h
 obtain⟨d,e,h1,h2,h3,h4,q⟩:=h
 obtain⟨as,r1⟩:=h1.reads I rx
 obtain⟨bs,r2⟩:=h2.reads I ry
 exact ne_dataH r1 r2 h3 h4 hu ⟨.bl _,H,I,rfl,q⟩
theorem L4 {A:Around}{k:Nat}(hr:fj k A):A.units+64<cLine:=by have:=hr.un;omega
theorem xl (K:PySem.W.Frag) (hK:X.K=K) (hu:X.A.units+64<cLine):OpR X (compareOp .NotEq) (OP K):=by subst hK;exact Nr hu
theorem Kx (hc:X.calm=true):cQ X (.builtin "sum") (fun xs H Q=> ∃(p:Addr) (ns:List Int),xs=[.ref p]∧(SqL X.K H p (ns.map V.int)∨SqT X.K H p (ns.map V.int))∧Q (.int ns.sum) H):=by
 intro pins s σ H xs us Q I r h
 obtain⟨p,ns,rfl,hq,q⟩:=h
 obtain⟨u,rfl,r1⟩:=o7 r
 cases r1
 have sm: ∀{its:List Value},a8 (ns.map V.int) its→ ∃xs:Array (Int×Tok),its.toArray=intItems xs∧preSum (numAt xs) xs.size=ns.sum:=fun rv=>by
  have hi:IntsAre _ ns:=ze rv
  obtain⟨xs,hx⟩:=hi.allInts.items
  refine⟨xs,hx,?_⟩
  have e1:ns=xs.toList.map (·.1):=by
   rw[←nums_intItems,←hx]
   exact hi.numsOf.symm
  rw[preSum_eq,List.take_of_length_le (by simp),e1]
 rcases hq with hq |hq
 ·obtain⟨its,rv,pl,hz⟩:=I.list hq
  obtain⟨xs,hx,e⟩:=sm rv
  refine sum_intListG (I.ok.hd hc) (xs:=xs) (hx▸pl.isList) fun h' tk t' hk=> ?_
  rw[e]
  exact⟨.int _,H,I.kept (h':=h') (t':=tk) hk,⟨_,rfl⟩,q⟩
 ·obtain⟨its,rv,pt,hz⟩:=I.tuple hq
  obtain⟨xs,hx,e⟩:=sm rv
  refine PySem.W.ktm_sumG (I.ok.hd hc) (xs:=xs) (hx▸pt) fun h' tk t' hk=> ?_
  rw[e]
  exact⟨.int _,H,I.kept (h':=h') (t':=tk) hk,⟨_,rfl⟩,q⟩
theorem Id (K:PySem.W.Frag) (hK:X.K=K) (hc:X.calm=true):cQ X (.builtin "sum") (fun xs H Q=> ∃(p:Addr) (ns:List Int),xs=[.ref p]∧(SqL K H p (ns.map V.int)∨SqT K H p (ns.map V.int))∧Q (.int ns.sum) H):=by subst hK;exact Kx hc
end
section
variable {X:Cx}
end
theorem br {H0 H:Hp}{a:Addr}{o:HO}(h:am H0 H) (hn:H0 a=none):am H0 (upd H a o):=fun b o' hb=>by
 have:b≠a:=fun e=>by rw[e,hn] at hb;cases hb
 rw[aj this]
 exact h b o' hb
theorem ao {α:Type}{xs:List α}{k:Nat}{v:α}(h:xs[k]? =some v):atI xs (k:Int)=some v:=by
 have hl:=(List.getElem?_eq_some_iff.mp h).1
 unfold atI ixN
 rw[if_pos (by omega),if_pos (by omega)]
 exact h
theorem gf {ns:List Int}{k:Int}(h0:0≤k) (h1:k<ns.length):atI (ns.map V.int) k=some (.int (ns.getD k.toNat 0)):=by
 obtain⟨n,rfl⟩: ∃n:Nat,k=n:=⟨k.toNat,by omega⟩
 refine ao ?_
 rw[List.getElem?_map,List.getElem?_eq_getElem (by omega)]
 simp only[Int.toNat_natCast,List.getD,List.getElem?_eq_getElem (show n<ns.length by omega)]
 rfl
theorem CS {n:Nat}{k:Int}(h0:0≤k) (h1:k<n):ixN n k=some k.toNat:=by
 unfold ixN
 rw[if_pos h0,if_pos h1]
theorem pK (ns:List Int) (j:Nat) (v:Int):(ns.map V.int).set j (.int v)=(ns.set j v).map V.int:=by rw[List.map_set]
theorem am.tseq {K:PySem.W.Frag}{H H':Hp}{a:Addr}{xs:List V}(e:am H H') (h:SqT K H a xs):SqT K H' a xs:=by
 rcases h with h |h
 ·rcases h with h |⟨o,h⟩
  ·exact .inl (.inl (e _ _ h))
  ·exact .inl (.inr ⟨o,e _ _ h⟩)
 ·exact .inr h
@[irreducible] def er:Int:=10^(30:Int).toNat
theorem DU:er=10^(30:Int).toNat:=by unfold er;rfl
theorem Bo:1000000000000000000<er:=by rw[DU];decide+kernel
section
variable {X:Cx}
theorem Cv:OpR X (binaryOp .Pow) (fun x y H Q=>x=.int 10∧y=.int 30∧Q (.int er) H):=by
 intro pins s σ H x y v u Q I rx ry h
 obtain⟨rfl,rfl,q⟩:=h
 rw[DU] at q
 exact JG pins s σ H _ _ v u Q I rx ry ⟨10,30,rfl,rfl,⟨by decide,by decide,by decide⟩,q⟩
end
theorem lf {n i:Nat}{P:Prop}(hi:i<n) (h:P): ∃m',m'<n-i∧m'=n-(i+1)∧i+1≤n∧P:=⟨_,by omega,rfl,hi,h⟩
theorem kr {K:PySem.W.Frag}{lo:Int}{n:Nat}{g:TG}{ds:List Nat}{k:Nat}{tc:TT}{te:TE}{σ:St}{H1:Hp}{D:Addr}{F:Hp→Prop}(Pv:Nat→List V→Hp→Prop) (h0:Pv 0 [] (upd H1 D (.lst [])))
  (hs: ∀i acc H2,i<n→Pv i acc H2→g (.int (lo+i)) (gw ds k σ) H2 fun σ4 H4=>tc σ4 H4 fun b H5=>if b=true then
   te σ4 H5 fun y H6=>H6 D=some (.lst acc)∧acc.length<sizeLine∧ ∃m',m'<n-i∧m'=n-(i+1)∧i+1≤n∧Pv (i+1) (acc++[y]) (upd H6 D (.lst (acc++[y])))
   else∃m',m'<n-i∧m'=n-(i+1)∧i+1≤n∧Pv (i+1) acc H5) (hd: ∀acc H2,Pv n acc H2→F H2):
  ∃W:Nat→Nat→List V→Hp→Prop,(∃m,W 0 m [] (upd H1 D (.lst [])))∧ ∀i m acc H2,W i m acc H2→
  ((Itr lo n).stop i H2∧F H2)∨((Itr lo n).go i H2∧ ∀x H3,(Itr lo n).yld i H2 x H3→g x (gw ds k σ) H3 fun σ4 H4=>tc σ4 H4 fun b H5=>if b=true then
   te σ4 H5 fun y H6=>H6 D=some (.lst acc)∧acc.length<sizeLine∧ ∃m',m'<m∧W (i+1) m' (acc++[y]) (upd H6 D (.lst (acc++[y])))
   else∃m',m'<m∧W (i+1) m' acc H5):=by
 refine⟨fun i m acc H2=>m=n-i∧i≤n∧Pv i acc H2,⟨_,rfl,Nat.zero_le _,h0⟩,?_⟩
 rintro i m acc H2 ⟨rfl,hi,p⟩
 by_cases hlt:i<n
 ·refine .inr ⟨hlt,fun x H3 y=> ?_⟩
  obtain⟨e,y⟩:=y
  subst e y
  exact hs i acc _ hlt p
 ·have e:i=n:=by omega
  subst e
  exact .inl ⟨Nat.le_refl _,hd acc H2 p⟩
theorem mH {K:PySem.W.Frag}{a:Addr}{xs:List V}{g:TG}{ds:List Nat}{k:Nat}{tc:TT}{te:TE}{σ:St}{H1:Hp}{D:Addr}{F:Hp→Prop}(Pv:Nat→List V→Hp→Prop) (h0:Pv 0 [] (upd H1 D (.lst [])))
  (hl: ∀i acc H2,i≤xs.length→Pv i acc H2→SqL K H2 a xs) (hs: ∀i x acc H2,xs[i]? =some x→Pv i acc H2→g x (gw ds k σ) H2 fun σ4 H4=>tc σ4 H4 fun b H5=>if b=true then
   te σ4 H5 fun y H6=>H6 D=some (.lst acc)∧acc.length<sizeLine∧ ∃m',m'<xs.length-i∧m'=xs.length-(i+1)∧i+1≤xs.length∧Pv (i+1) (acc++[y]) (upd H6 D (.lst (acc++[y])))
   else∃m',m'<xs.length-i∧m'=xs.length-(i+1)∧i+1≤xs.length∧Pv (i+1) acc H5) (hd: ∀acc H2,Pv xs.length acc H2→F H2):
  ∃W:Nat→Nat→List V→Hp→Prop,(∃m,W 0 m [] (upd H1 D (.lst [])))∧ ∀i m acc H2,W i m acc H2→
  ((Itl K a).stop i H2∧F H2)∨((Itl K a).go i H2∧ ∀x H3,(Itl K a).yld i H2 x H3→g x (gw ds k σ) H3 fun σ4 H4=>tc σ4 H4 fun b H5=>if b=true then
   te σ4 H5 fun y H6=>H6 D=some (.lst acc)∧acc.length<sizeLine∧ ∃m',m'<m∧W (i+1) m' (acc++[y]) (upd H6 D (.lst (acc++[y])))
   else∃m',m'<m∧W (i+1) m' acc H5):=by
 refine⟨fun i m acc H2=>m=xs.length-i∧i≤xs.length∧Pv i acc H2,⟨_,rfl,Nat.zero_le _,h0⟩,?_⟩
 rintro i m acc H2 ⟨rfl,hi,p⟩
 have q:=hl i acc H2 hi p
 by_cases hlt:i<xs.length
 ·refine .inr ⟨⟨xs,xs[i],q,by simp[hlt]⟩,fun x H3 y=> ?_⟩
  obtain⟨e,y⟩:=y
  subst e
  exact hs i x acc _ (y xs q) p
 ·have e:i=xs.length:=by omega
  subst e
  exact .inl ⟨⟨xs,q,Nat.le_refl _⟩,hd acc H2 p⟩
theorem kq {K:PySem.W.Frag}{a:Addr}{xs:List V}{g:TG}{ds:List Nat}{k:Nat}{tc:TT}{te:TE}{σ:St}{H1:Hp}{D:Addr}{F:Hp→Prop}(Pv:Nat→List V→Hp→Prop) (h0:Pv 0 [] (upd H1 D (.lst [])))
  (hl: ∀i acc H2,i≤xs.length→Pv i acc H2→SqT K H2 a xs) (hs: ∀i x acc H2,xs[i]? =some x→Pv i acc H2→g x (gw ds k σ) H2 fun σ4 H4=>tc σ4 H4 fun b H5=>if b=true then
   te σ4 H5 fun y H6=>H6 D=some (.lst acc)∧acc.length<sizeLine∧ ∃m',m'<xs.length-i∧m'=xs.length-(i+1)∧i+1≤xs.length∧Pv (i+1) (acc++[y]) (upd H6 D (.lst (acc++[y])))
   else∃m',m'<xs.length-i∧m'=xs.length-(i+1)∧i+1≤xs.length∧Pv (i+1) acc H5) (hd: ∀acc H2,Pv xs.length acc H2→F H2):
  ∃W:Nat→Nat→List V→Hp→Prop,(∃m,W 0 m [] (upd H1 D (.lst [])))∧ ∀i m acc H2,W i m acc H2→
  ((Itt K a).stop i H2∧F H2)∨((Itt K a).go i H2∧ ∀x H3,(Itt K a).yld i H2 x H3→g x (gw ds k σ) H3 fun σ4 H4=>tc σ4 H4 fun b H5=>if b=true then
   te σ4 H5 fun y H6=>H6 D=some (.lst acc)∧acc.length<sizeLine∧ ∃m',m'<m∧W (i+1) m' (acc++[y]) (upd H6 D (.lst (acc++[y])))
   else∃m',m'<m∧W (i+1) m' acc H5):=by
 refine⟨fun i m acc H2=>m=xs.length-i∧i≤xs.length∧Pv i acc H2,⟨_,rfl,Nat.zero_le _,h0⟩,?_⟩
 rintro i m acc H2 ⟨rfl,hi,p⟩
 have q:=hl i acc H2 hi p
 by_cases hlt:i<xs.length
 ·refine .inr ⟨⟨xs,xs[i],q,by simp[hlt]⟩,fun x H3 y=> ?_⟩
  obtain⟨e,y⟩:=y
  subst e
  exact hs i x acc _ (y xs q) p
 ·have e:i=xs.length:=by omega
  subst e
  exact .inl ⟨⟨xs,q,Nat.le_refl _⟩,hd acc H2 p⟩
theorem Kt {K:PySem.W.Frag}{z:Str}{g:TG}{ds:List Nat}{k:Nat}{tc:TT}{te:TE}{σ:St}{H1:Hp}{D:Addr}{F:Hp→Prop}(Pv:Nat→List V→Hp→Prop) (h0:Pv 0 [] (upd H1 D (.lst [])))
  (hs: ∀i c acc H2,z.cps.toList[i]? =some c→Pv i acc H2→g (.str ⟨#[c]⟩) (gw ds k σ) H2 fun σ4 H4=>tc σ4 H4 fun b H5=>if b=true then
   te σ4 H5 fun y H6=>H6 D=some (.lst acc)∧acc.length<sizeLine∧ ∃m',m'<z.cps.toList.length-i∧m'=z.cps.toList.length-(i+1)∧i+1≤z.cps.toList.length∧Pv (i+1) (acc++[y]) (upd H6 D (.lst (acc++[y])))
   else∃m',m'<z.cps.toList.length-i∧m'=z.cps.toList.length-(i+1)∧i+1≤z.cps.toList.length∧Pv (i+1) acc H5) (hd: ∀acc H2,Pv z.cps.toList.length acc H2→F H2):
  ∃W:Nat→Nat→List V→Hp→Prop,(∃m,W 0 m [] (upd H1 D (.lst [])))∧ ∀i m acc H2,W i m acc H2→
  ((Its z).stop i H2∧F H2)∨((Its z).go i H2∧ ∀x H3,(Its z).yld i H2 x H3→g x (gw ds k σ) H3 fun σ4 H4=>tc σ4 H4 fun b H5=>if b=true then
   te σ4 H5 fun y H6=>H6 D=some (.lst acc)∧acc.length<sizeLine∧ ∃m',m'<m∧W (i+1) m' (acc++[y]) (upd H6 D (.lst (acc++[y])))
   else∃m',m'<m∧W (i+1) m' acc H5):=by
 refine⟨fun i m acc H2=>m=z.cps.toList.length-i∧i≤z.cps.toList.length∧Pv i acc H2,⟨_,rfl,Nat.zero_le _,h0⟩,?_⟩
 rintro i m acc H2 ⟨rfl,hi,p⟩
 have hl:z.cps.toList.length=z.cps.size:=by simp
 by_cases hlt:i<z.cps.size
 ·refine .inr ⟨hlt,fun y H3 yl=> ?_⟩
  obtain⟨e,c,hc,rfl⟩:=yl
  subst e
  exact hs i c acc _ (by simpa using hc) p
 ·have e:i=z.cps.toList.length:=by omega
  subst e
  exact .inl ⟨by show z.cps.size≤_;omega,hd acc H2 p⟩
section
variable {X:Cx}
end
theorem NN {i j:Str}{A B:Prop}(h1:i=j→A) (h2:i≠j→B):if decide (V.str i=V.str j)=true then A else B:=by
 by_cases h:i=j
 ·subst h
  rw[decide_eq_true rfl]
  exact cL (h1 rfl)
 ·rw[decide_eq_false (fun e=>h (V.str.inj e))]
  exact bY (h2 h)
theorem Pi {i j:Str}:decide (V.str i=V.str j)=decide (i=j):=by
 by_cases h:i=j
 ·subst h
  rw[decide_eq_true rfl,decide_eq_true rfl]
 ·rw[decide_eq_false (fun e=>h (V.str.inj e)),decide_eq_false h]
theorem Kh {c:TT}{t u:TS}{D:sZ}{σ:St}{H:Hp}(hu:u D σ H) (h: ∀U:TS,U D σ H→MR c t U D σ H):MR c t u D σ H:=h u hu
end L2
namespace L2
open PySem PySem.Spec PyProof.Rows
abbrev bL (led:Bool):Obj:={cls:=.type "set",dict:=none,data:=.set #[] 0 (.fresh 0 0 led)}
def wZ {α:Type} [BEq α] (key:Nat→α) (i:Nat):List α:=((List.range i).map key).foldl step_dedup []
section
variable {α:Type} [DecidableEq α] [BEq α] [LawfulBEq α]
theorem ve (key:Nat→α) (i:Nat):wZ key (i+1)=step_dedup (wZ key i) (key i):=by
 show((List.range (i+1)).map key).foldl step_dedup []=_
 rw[List.range_succ,List.map_append,List.foldl_append];rfl
theorem JV (key:Nat→α) (i:Nat):(wZ key i).length≤i:=by
 induction i with
 |zero=>exact Nat.le_refl 0
 |succ i ih=>
  rw[ve]
  unfold step_dedup
  split
  ·exact Nat.le_succ_of_le ih
  ·rw[List.length_append];exact Nat.succ_le_succ ih
theorem HW (l:List α) (x y:α):(step_dedup l x).any (· ==y)=(l.any (· ==y) ||decide (y=x)):=by
 have hd:decide (y=x)=(x==y):=by
  by_cases e:y=x
  ·rw[decide_eq_true e,e,beq_self_eq_true]
  ·rw[decide_eq_false e];exact(beq_false_of_ne (Ne.symm e)).symm
 rw[hd]
 unfold step_dedup
 split
 ·rename_i h
  cases q:(x==y) with
  |false=>rw[Bool.or_false]
  |true=>rw[←eq_of_beq q,h];rfl
 ·rw[List.any_append];simp
theorem HV (l:List α) (x:α):(step_dedup l x).length=if l.any (· ==x) then l.length else l.length+1:=by
 unfold step_dedup
 by_cases h:l.any (· ==x)=true
 ·rw[if_pos h,if_pos h]
 ·rw[if_neg h,if_neg h,List.length_append];rfl
end
section
variable {prog:Program}{w:World}{A:Around}{R:Result→Shared→Prop}{α:Type} [DecidableEq α] [BEq α] [LawfulBEq α] {it a:Addr}{fp wr:List Addr}{G:Array GenState→Array GenState→Prop}{n:Nat}{P:Nat→Value→Prop}{St:Nat→Shared→Prop}
def kH (knd:PySem.KeyKind prog w α) (key:Nat→α) (a:Addr) (i:Nat) (h:Heap):Prop:=h.SetOf knd a (fun q=>(wZ key i).any (· ==q)) (wZ key i).length
theorem kH.keep {knd:PySem.KeyKind prog w α}{key:Nat→α}{i:Nat}{h h':Heap}(f:kH knd key a i h) (k: ∀o,h.get? a=some o→h'.get? a=some o):kH knd key a i h':=by
 obtain⟨o,es,ep,tb,e,r⟩:=f
 exact⟨o,es,ep,tb,k o e,r⟩
theorem D1 (knd:PySem.KeyKind prog w α) (Wk:WalksS prog w A.in1 it fp wr G n P St) (ha:a∉fp) (key:Nat→α) (hkey: ∀i v,P i v→knd.is (key i) v=true∧v.scannable=true) (room:n+1<scanBound):
  ∀(d i:Nat) (s:Shared),n-i=d→i≤n→St i s→kH knd key a i s.heap→(∀s',Moved (a::wr) G s s'→kH knd key a n s'.heap→R (.ok (.ret .none)) s')→
   codeAny (model prog w) A (.builtin "set.update.loop" ⟨[.ref a,.ref it],[]⟩) R s:=by
 have aw:a∉wr:=fun z=>ha (Wk.sub _ z)
 have up: ∀b∈wr,b∈a::wr:=fun b z=>List.mem_cons_of_mem _ z
 intro d
 induction d with
 |zero=>
  intro i s hd hi st f k
  obtain rfl:i=n:=by omega
  refine codeAny_builtin F.entry_set_update_loop ?_;rw[Around.under_plainId F.plain_set_update_loop _]
  refine wpAny_bind (m:=pyNext (.ref it)) (Wk.done s _ _ st fun s' mv=> ?_)
  exact wpAny_pure (k s' (mv.mono up) (f.keep fun o e=>mv.heap a o aw e))
 |succ d ih=>
  intro i s hd hi st f k
  have lt:i<n:=by omega
  refine codeAny_builtin F.entry_set_update_loop ?_;rw[Around.under_plainId F.plain_set_update_loop _]
  refine wpAny_bind (m:=pyNext (.ref it)) (Wk.item i s _ _ lt st fun v s' pv st' mv=> ?_)
  obtain⟨hv,hs⟩:=hkey i v pv
  have f':kH knd key a i s'.heap:=f.keep fun o e=>mv.heap a o aw e
  refine wpAny_bind (m:=holding [v] (setAdd a v)) (wpAny_holding ?_);unfold setAdd
  refine wpAny_holding (wpAny_bind (knd.pyHash (k:=key i) hv ?_))
  have rm:(wZ key i).length+1<scanBound:=by have:=JV key i;omega
  refine wpAny_setAddHashed_of (knd:=knd) (s:={s' with toks:=s'.toks+1}) hv hs f' rm fun h' sb f2=> ?_
  have f3:kH knd key a (i+1) h':=SetOf_congr f2 (fun q=>by rw[ve,HW]) (by rw[ve,HV])
  refine wpAny_pure ⟨plainId_quiet F.plain_set_update_loop _,ih (i+1) _ (by omega) lt (Wk.frame _ s' _ _ st' (Nat.le_succ _) fun b z o e=> ?_) f3 fun s'' mv' f4=> ?_⟩
  ·exact(sb.2 b fun z'=>ha (z'▸z)).trans e
  ·refine k s'' (Moved.trans Wk.gtrans ((mv.mono up).then_heap (Nat.le_succ _) fun b o z e=> ?_) mv') f4
   exact(sb.2 b fun z'=>z (z'▸List.mem_cons_self)).trans e
end
section
variable {prog:Program}{w:World}{A:Around}{E:Value→Shared→Prop}{s:Shared}{α:Type} [DecidableEq α] [BEq α] [LawfulBEq α]
set_option maxHeartbeats 3200000 in
theorem D0 (knd:PySem.KeyKind prog w α) {l:Addr}{its:Array Value}{key:Nat→α}{Q:Value→Shared→Prop}(hh:A.handled=none) (hl:s.heap.IsList l its) (hkey: ∀i v,its[i]? =some v→knd.is (key i) v=true∧v.scannable=true) (room:its.size+1<scanBound)
  (k: ∀(h':Heap) (tk:Nat),kH knd key s.heap.objs.size its.size h'→(∀b o,s.heap.get? b=some o→h'.get? b=some o)→Q (.ref s.heap.objs.size) {s with heap:=h',toks:=tk}):
  wpAny (model prog w) A (call (.type "set") [.ref l]) Q E s:=by
 obtain⟨c,tl,hmro⟩:=F.called_set.mro
 have made:=F.called_set.made;have sub:=F.called_set.sub;have nt:=F.called_set.notType;have cc:=F.called_set.canCreate;have tc:=F.typeCall_set_1 (.ref l)
 refine wpAny_call (codeAny_of_tree ?_);show wpAny _ _ (callAny (.type "set") _) _ _ _
 refine wpAny_pure ⟨Code.quiet_builtin _ (by decide+kernel),codeAny_builtin F.entry_type_call ?_⟩;rw[Around.under_plain (weight_type_call_type "set" [.ref l] []) rfl]
 (repeat (any_goals (first |assumption |wp_step)));skip
 refine codeAny_mono (code_set_new_1 (.ref l) (E:=E) (Q₁:=fun u s₁=> ∃led:Bool,u=.ref s.heap.objs.size∧s₁={s with heap:=s.heap.push (bL led)}) fun led=>⟨led,rfl,rfl⟩) fun r s₁ hr=> ?_
 cases r with
 |error e=>exact hr
 |ok fl=>
  cases fl with
  |ret u=>
   obtain⟨led,rfl,rfl⟩:=hr
   have nw:(s.heap.push (bL led)).get? s.heap.objs.size=some (bL led):=Heap.get?_push_size _ rfl
   have ty:Shared.TypeIs {s with heap:=s.heap.push (bL led)} (.ref s.heap.objs.size) "set":=⟨_,nw,rfl⟩
   have li:=F.called_set.init.lookup;have bi:=F.called_set.init.bind (.ref s.heap.objs.size)
   (repeat (any_goals (first |assumption |wp_step)));skip
   refine codeAny_mono (codeAny_call_builtin (R:=wants (fun r s₂=>r=.none∧ ∃h' tk,s₂={s with heap:=h',toks:=tk}∧kH knd key s.heap.objs.size its.size h'∧ ∀b o,s.heap.get? b=some o→h'.get? b=some o) E) F.called_set.init.plain F.entry_set_init (check_set_init_1 ty ?_)) fun r₂ s₂ hr₂=> ?_
   ·obtain⟨⟨cl,dc,dt,sl⟩,e,ec,nl,ed⟩:=id hl
    simp only at ec ed;subst ec;subst ed
    have e':(s.heap.push (bL led)).get? l=some {cls:=.type "list",dict:=dc,data:=.seq its nl,slots:=sl}:=Heap.get?_push_of_some _ e
    have s1:=F.sub_list_set;have s2:=F.sub_list_frozenset;have ne:(Value.type "list"==Value.type "dict")=false:=by decide
    have hl1:(s.heap.push (bL led)).IsList l its:=⟨_,e',rfl,nl,rfl⟩
    unfold Builtin.«set.__init__» noKeywords Builtin.Frozenset.updateFrom
    generalize hPI:pyIter=PI;wp_walk;subst hPI
    refine wpAny_pyIter_list hl1 ?_;refine wpAny_bind (wpAny_runValue ?_)
    have lt:l<s.heap.objs.size:=Heap.lt_size e
    have sz:(s.heap.push (bL led)).objs.size=s.heap.objs.size+1:=Heap.size_push ..
    refine D1 knd ((Walks.list (A:=A.in1.in1.in1) (by simp[hh]) _ l (by rw[sz];exact Nat.ne_of_lt (Nat.lt_succ_of_lt lt)) its).toS) (a:=s.heap.objs.size) (by rw[sz];simp only[List.mem_cons,List.not_mem_nil,or_false,not_or];exact⟨Nat.ne_of_lt (Nat.lt_succ_self _),Nat.ne_of_gt lt⟩) key hkey room (its.size-0) 0 _ (by omega) (Nat.zero_le _)
     ⟨⟨_,Heap.get?_push_size _ rfl,rfl,rfl⟩,hl1.push _⟩ ?f0 ?fR
    case f0=>
     have g:((s.heap.push (bL led)).push {cls:=.type "list_iterator",data:=.fields #[.ref l,.int 0 0]}).get? s.heap.objs.size=some (bL led):=Heap.get?_push_of_some _ nw
     exact SetOf_congr ((setObjOf_fresh (knd:=knd) led).setOf g (by unfold scanBound;omega)) (fun _=>rfl) rfl
    case fR=>
     rintro⟨h',g',d',tk',os'⟩ mv f
     obtain rfl:g'=s.gens:=mv.gens
     obtain rfl:d'=s.drawn:=mv.drawn
     obtain rfl:os'=s.os:=mv.os
     show wpAny _ _ _ _ _ _
     refine wpAny_pure (show wpAny _ _ (ret Value.none) _ _ _ from wpAny_pure ⟨rfl,h',tk',rfl,f,fun b o q=> ?_⟩)
     have b1:b<s.heap.objs.size:=Heap.lt_size q
     exact mv.heap b o (by rw[sz];simp only[List.mem_cons,List.not_mem_nil,or_false,not_or];exact⟨Nat.ne_of_lt b1,Nat.ne_of_lt (Nat.lt_succ_of_lt b1)⟩) (Heap.get?_push_of_some _ (Heap.get?_push_of_some _ q))
   ·cases r₂ with
    |error e=>exact hr₂
    |ok fl₂=>
     cases fl₂ with
     |ret r=>
      obtain⟨rfl,h',tk,rfl,f,kk⟩:=hr₂
      (repeat (any_goals (first |assumption |wp_step)));exact k _ _ f kk
     |_=>exact hr₂.elim
  |_=>exact hr.elim
end
end L2
namespace L2
open PySem PySem.Spec PyProof.Rows
instance (priority:=10000) keyBEq:BEq (Sum Int Str):=⟨fun a b=>decide (a=b)⟩
instance (priority:=10000) keyLaw:LawfulBEq (Sum Int Str) where
 eq_of_beq:=fun h=>of_decide_eq_true h
 rfl:=decide_eq_true rfl
def dd {α:Type} [BEq α] (ks:List α):List α:=ks.foldl step_dedup []
theorem Fq {α:Type}(ks:List α) (d:α):(List.range ks.length).map (fun i=>ks.getD i d)=ks:=by
 refine List.ext_getElem (by simp) fun i h1 h2=> ?_
 simp[List.getD,List.getElem?_eq_getElem h2]
theorem GA {α:Type} [BEq α] (ks:List α) (d:α):wZ (fun i=>ks.getD i d) ks.length=dd ks:=by
 unfold wZ dd
 rw[Fq]
abbrev Aw (P:Program) (w:World) (q:Addr) (S:Key→Bool) (n:Nat):HO:=.ext fun h=>h.SetOf (aT P w) q S n
section
variable {X:Cx}
theorem GC {k:Key}{v:Value}(r:aZ (kV k) v):t4 k v=true∧v.scannable=true:=by
 cases k with
 |inl i=>
  obtain⟨t,rfl⟩:=r
  exact⟨By i t,rfl⟩
 |inr x=>
  obtain⟨t,rfl⟩:=r
  exact⟨Bx x t,rfl⟩
theorem Ky (hc:X.calm=true):cQ X (.type "set") (fun xs H Q=> ∃(p:Addr) (ks:List Key),xs=[.ref p]∧SqL X.K H p (ks.map kV)∧ks.length<4000∧
  ∀q,H q=none→Q (.ref q) (upd H q (Aw X.prog X.w q (fun k=>(dd ks).any (· ==k)) (dd ks).length))):=by
 intro pins s σ H xs us Q I r h
 obtain⟨p,ks,rfl,hq,hlen,q⟩:=h
 obtain⟨u,rfl,r1⟩:=o7 r
 cases r1
 obtain⟨its,rv,pl,hz⟩:=I.list hq
 have hl:=rv.length
 rw[List.length_map] at hl
 refine D0 (aT X.prog X.w) (key:=fun i=>ks.getD i (.inl 0)) (I.ok.hd hc) pl.isList (fun i v hv=> ?_) (by rw[List.size_toArray];unfold scanBound;omega) fun h' tk f kk=> ?_
 ·have hv:its[i]? =some v:=by simpa using hv
  have hi:i<its.length:=(List.getElem?_eq_some_iff.mp hv).1
  obtain⟨u,h1,h2⟩:=rv.get (i:=i) (x:=kV (ks[i]'(by omega))) (by rw[List.getElem?_map,List.getElem?_eq_getElem (by omega)];rfl)
  rw[hv] at h1
  cases h1
  have e:ks.getD i (.inl 0)=ks[i]'(by omega):=by simp[List.getD,List.getElem?_eq_getElem (show i<ks.length by omega)]
  show(aT X.prog X.w).is (ks.getD i (.inl 0)) v=true∧_
  rw[e,yW]
  exact GC h2
 ·have f:h'.SetOf (aT X.prog X.w) s.heap.objs.size (fun k=>(dd ks).any (· ==k)) (dd ks).length:=by
   have f':h'.SetOf (aT X.prog X.w) s.heap.objs.size (fun k=>(wZ (fun i=>ks.getD i (.inl 0)) its.toArray.size).any (· ==k)) (wZ (fun i=>ks.getD i (.inl 0)) its.toArray.size).length:=f
   have ez:its.toArray.size=ks.length:=by rw[List.size_toArray];exact hl.symm
   rw[ez,GA] at f'
   exact f'
  refine⟨.ref s.heap.objs.size,_,I.laid (h':=h') (t':=tk) (o:=Aw X.prog X.w s.heap.objs.size (fun k=>(dd ks).any (· ==k)) (dd ks).length) kk (Nat.le_refl _) ⟨f,?_,fun h1 h2 g k2=> ?_⟩,rfl,q _ (I.hok.fresh (Nat.le_refl _))⟩
  ·obtain⟨o,_,_,_,e,_⟩:=f
   exact⟨o,e⟩
  ·obtain⟨o,es,ep,t,e,tN⟩:=g
   exact⟨o,es,ep,t,k2 o e,tN⟩
theorem Ii:cQ X (.builtin "len") (fun xs H Q=> ∃(p:Addr) (S:Key→Bool) (n:Nat),xs=[.ref p]∧H p=some (Aw X.prog X.w p S n)∧n≤4096∧Q (.int n) H):=by
 intro pins s σ H xs us Q I r h
 obtain⟨p,S,n,rfl,hp,hn,q⟩:=h
 obtain⟨u,rfl,r1⟩:=o7 r
 cases r1
 obtain⟨f,_,_⟩:=I.hok p _ hp
 obtain⟨o,es,ep,t,e,ex,hd,_,_,_,hf,rfl⟩:=f
 exact call_len_set e ex hd hf (by omega) ⟨.int _,H,I.tok _,⟨_,rfl⟩,q⟩
theorem Ig (K:PySem.W.Frag) (hK:X.K=K) (hc:X.calm=true) {P:Program}{w:World}(hP:X.prog=P:=by rfl) (hw:X.w=w:=by rfl):cQ X (.type "set") (fun xs H Q=> ∃(p:Addr) (ks:List Key),xs=[.ref p]∧SqL K H p (ks.map kV)∧ks.length<4000∧
  ∀q,H q=none→Q (.ref q) (upd H q (Aw P w q (fun k=>(dd ks).any (· ==k)) (dd ks).length))):=by subst hK;subst hP;subst hw;exact Ky hc
theorem F6 {P:Program}{w:World}(hP:X.prog=P:=by rfl) (hw:X.w=w:=by rfl):cQ X (.builtin "len") (fun xs H Q=> ∃(p:Addr) (S:Key→Bool) (n:Nat),xs=[.ref p]∧H p=some (Aw P w p S n)∧n≤4096∧Q (.int n) H):=by subst hP;subst hw;exact Ii
end
theorem BK {α:Type} [BEq α]: ∀(ks:List α) (acc:List α),(ks.foldl step_dedup acc).length≤acc.length+ks.length
 | [],acc=>Nat.le_refl _
 |k::r,acc=>by
  have:=BK r (step_dedup acc k)
  have h2:(step_dedup acc k).length≤acc.length+1:=by
   unfold step_dedup
   split
   ·exact Nat.le_succ _
   ·rw[List.length_append];exact Nat.le_refl _
  rw[List.foldl_cons,List.length_cons]
  omega
theorem ER {α:Type} [DecidableEq α] [BEq α] [LawfulBEq α]: ∀(ks acc:List α),acc.Nodup→((ks.foldl step_dedup acc).length=acc.length+ks.length↔(acc++ks).Nodup)
 | [],acc,h=>by simp[h]
 |k::r,acc,h=>by
  rw[List.foldl_cons]
  by_cases e:acc.any (· ==k)=true
  ·have e2:step_dedup acc k=acc:=by unfold step_dedup;rw[if_pos e]
   have hm:k∈acc:=by
    obtain⟨x,hx,q⟩:=List.any_eq_true.mp e
    rw[←eq_of_beq q]
    exact hx
   rw[e2]
   constructor
   ·intro q
    have:=BK r acc
    rw[List.length_cons] at q
    omega
   ·intro q
    rw[List.nodup_append] at q
    exact absurd rfl (q.2.2 k hm k (List.mem_cons_self))
  ·have e2:step_dedup acc k=acc++[k]:=by unfold step_dedup;rw[if_neg e]
   have hm:k∉acc:=fun hk=>e (List.any_eq_true.mpr ⟨k,hk,beq_self_eq_true k⟩)
   rw[e2]
   have ih:=ER r (acc++[k]) (by
    rw[List.nodup_append]
    exact⟨h,by simp,fun a ha b hb q=>hm (by rw[List.mem_singleton.mp hb] at q;exact q▸ha)⟩)
   rw[List.append_assoc] at ih
   rw[show acc++k::r=acc++([k]++r) by rfl,←ih,List.length_append,List.length_cons,List.length_singleton]
   constructor<;>intro q<;>omega
theorem NW {α:Type} [DecidableEq α] [BEq α] [LawfulBEq α] (ks:List α):(dd ks).length=ks.length↔ks.Nodup:=by
 have:=ER ks [] List.nodup_nil
 simp at this
 unfold dd
 exact this
end L2
namespace L2
open PySem
theorem zv {α:Type}{l:List α}{i:Nat}{x:α}(h:l[i]? =some x):(x::l.eraseIdx i).Perm l:=by
 have hlt:=(List.getElem?_eq_some_iff.mp h).1
 have hx:=(List.getElem?_eq_some_iff.mp h).2
 have e:l=l.take i++x::l.drop (i+1):=by
  rw[←hx,List.getElem_cons_drop,List.take_append_drop]
 rw[List.eraseIdx_eq_take_drop_succ]
 refine List.Perm.trans ?_ (List.Perm.of_eq e.symm)
 exact List.perm_middle.symm
theorem Hl {α:Type}(next:Nat→Nat) (xs:Array α):(pickOrder next xs).toList.Perm xs.toList:=by
 have go: ∀(fuel k:Nat) (left:List α) (out:Array α),left.length≤fuel→(pickOrder.go next fuel k left out).toList.Perm (out.toList++left):=by
  intro fuel
  induction fuel with
  |zero=>
   intro k left out h
   have:left=[]:=List.length_eq_zero_iff.mp (by omega)
   subst this
   unfold pickOrder.go
   rw[List.append_nil]
  |succ fuel ih=>
   intro k left out h
   unfold pickOrder.go
   cases hl:left[next k%left.length]? with
   |none=>
    have hn:left=[]:=by
     cases left with
     |nil=>rfl
     |cons y ys=>
      have:=List.getElem?_eq_none_iff.mp hl
      have:=Nat.mod_lt (next k) (show 0<(y::ys).length from Nat.succ_pos _)
      omega
    subst hn
    rw[List.append_nil]
   |some x=>
    have hlt:=(List.getElem?_eq_some_iff.mp hl).1
    have hx:=(List.getElem?_eq_some_iff.mp hl).2
    dsimp only
    refine(ih _ _ _ (by rw[List.length_eraseIdx];split<;>omega)).trans ?_
    rw[Array.toList_push,List.append_assoc]
    refine List.Perm.append_left _ ?_
    show(x::left.eraseIdx (next k%left.length)).Perm left
    exact zv hl
 have:=go xs.size 0 xs.toList #[] (by simp)
 unfold pickOrder
 simpa using this
end L2
namespace L2
open PySem
theorem tF:Slot "set_iterator" "__next__" "set_iterator.__next__":=
 .of (owner:="set_iterator") (n:="__next__") (by rw[typeLookup_type,builtinLookup_eq_fast];kernel_rfl) (by decide+kernel) (by decide+kernel) (by decide+kernel) (by first |exact .inl (by decide+kernel) |exact .inr (by decide+kernel)) (by rw[isSubtype_type];kernel_rfl)
theorem Gr:Slot "set_iterator" "__iter__" "set_iterator.__iter__":=
 .of (owner:="set_iterator") (n:="__iter__") (by rw[typeLookup_type,builtinLookup_eq_fast];kernel_rfl) (by decide+kernel) (by decide+kernel) (by decide+kernel) (by first |exact .inl (by decide+kernel) |exact .inr (by decide+kernel)) (by rw[isSubtype_type];kernel_rfl)
theorem DZ:Manifest.owners.lookup (String.ofList ['r','o','t','a','r','e','t','i','_','t','e','s'].reverse)=some Manifest.sig_set_iterator:=by kernel_rfl
theorem Cl (a:Value):argsOk "set_iterator.__next__" ⟨[a],[]⟩:=by
 unfold argsOk;rw[signature?_of (id:="set_iterator.__next__") (n:=['_','_','t','x','e','n','_','_']) (o:=['r','o','t','a','r','e','t','i','_','t','e','s']) (by kernel_rfl) DZ];kernel_rfl
theorem Cm (a:Value):argsOk "set_iterator.__iter__" ⟨[a],[]⟩:=by
 unfold argsOk;rw[signature?_of (id:="set_iterator.__iter__") (n:=['_','_','r','e','t','i','_','_']) (o:=['r','o','t','a','r','e','t','i','_','t','e','s']) (by kernel_rfl) DZ];kernel_rfl
theorem Au:entryFor table "set_iterator.__next__"=some Builtin.«set_iterator.__next__»:=entryFor_of_tree (by kernel_rfl)
theorem Av:entryFor table "set_iterator.__iter__"=some Builtin.«dict_keyiterator.__iter__»:=entryFor_alias (id':="dict_keyiterator.__iter__") (by kernel_rfl) rfl (by decide+kernel) (by kernel_rfl)
theorem xP:entryFor table "set.__iter__"=some Builtin.«frozenset.__iter__»:=entryFor_alias (id':="frozenset.__iter__") (by kernel_rfl) rfl (by decide+kernel) (by kernel_rfl)
abbrev wu (first:Value) (i:Nat) (a:Addr) (n ep:Nat):Obj:={cls:=.type "set_iterator",dict:=none,data:=.fields #[first,.int i 0,.ref a,.int n 0,.int ep 0],slots:= #[]}
abbrev DR (vs:List Value):Obj:={cls:=.type "tuple",dict:=none,data:=.seq vs.toArray}
structure kB (h:Heap) (a:Addr) (es:Array (Int×Value)) (ep:Nat) (t:SetTable):Prop where
 ob: ∃o,h.get? a=some o∧o.cls=.type "set"∧o.data=.set es ep t
 fits:t.fits es.size=true
theorem kB.keep {h h':Heap}{a:Addr}{es:Array (Int×Value)}{ep:Nat}{t:SetTable}(x:kB h a es ep t) (k: ∀o,h.get? a=some o→h'.get? a=some o):kB h' a es ep t:=
 ⟨let⟨o,e,r⟩:=x.ob;⟨o,k o e,r⟩,x.fits⟩
theorem kB.ty {s:Shared}{a:Addr}{es:Array (Int×Value)}{ep:Nat}{t:SetTable}(x:kB s.heap a es ep t):s.TypeIs (.ref a) "set":=
 let⟨o,e,c,_⟩:=x.ob;⟨o,e,c⟩
section
variable {prog:Program}{w:World}{A:Around}{E:Value→Shared→Prop}{s:Shared}
theorem zD {α:Type}: ∀(n:Nat) (xs:List α) (s:Shared) (Q:List α→Shared→Prop),xs.length≤n→(∀ys d',ys.Perm xs→Q ys {s with drawn:=d'})→wpAny (model prog w) A (drawOrder n xs) Q E s
 |0,xs,s,Q,hl,h=>by
  have:xs=[]:=List.length_eq_zero_iff.mp (by omega)
  subst this
  unfold drawOrder
  exact wpAny_pure (h [] s.drawn (List.Perm.refl _))
 |n+1,[],s,Q,hl,h=>by
  unfold drawOrder
  exact wpAny_pure (h [] s.drawn (List.Perm.refl _))
 |n+1,x::r,s,Q,hl,h=>by
  unfold drawOrder
  refine wpAny_bind (m:=choose .order (x::r).length) (fun Γ p hΓ=> ?_)
  unfold choose
  rw[Sem.wp_choose]
  refine⟨Nat.succ_ne_zero _,?_⟩
  have hi:w.draws .order (s.drawn.get .order)%(x::r).length<(x::r).length:=Nat.mod_lt _ (Nat.succ_pos _)
  have key:wpAny (model prog w) A (match (x::r)[w.draws .order (s.drawn.get .order)%(x::r).length]? with
   |some y=>do return y::(←drawOrder n ((x::r).eraseIdx (w.draws .order (s.drawn.get .order)%(x::r).length)))
   |none=>unsupported "internal:drawOrder") Q E {s with drawn:=s.drawn.bump .order}:=by
   generalize w.draws .order (s.drawn.get .order)%(x::r).length=i at hi⊢
   rw[List.getElem?_eq_getElem hi]
   refine wpAny_bind (zD n _ _ _ (by rw[List.length_eraseIdx,if_pos hi];omega) fun ys d' hp=> ?_)
   exact wpAny_pure (h _ _ ((List.Perm.cons _ hp).trans (zv (List.getElem?_eq_getElem hi))))
  exact key
set_option maxHeartbeats 4000000 in
theorem J7 {a:Addr}{es:Array (Int×Value)}{ep:Nat}{t:SetTable}{Q:Value→Shared→Prop}(hs:kB s.heap a es ep t) (hn:es.size≤sizeLine)
  (h1:(!w.params.followText "set-order" && (!t.plain && decide (es.size>1)))=false→Q (.ref s.heap.objs.size) {s with heap:=s.heap.push (wu (.int 0 0) 0 a es.size ep)})
  (h2:(!w.params.followText "set-order" && (!t.plain && decide (es.size>1)))=true→ ∀(ys:List Nat) (d':Drawn),ys.Perm (List.range es.size)→
   Q (.ref (s.heap.objs.size+1)) {s with heap:=(s.heap.push (DR (ys.map fun(i:Nat)=>Value.int (i:Int) 0))).push (wu (.ref s.heap.objs.size) 0 a es.size ep),drawn:=d'}):
  wpAny (model prog w) A (pyIter (.ref a)) Q E s:=by
 obtain⟨o,ho,hc,hd⟩:=hs.ob
 have hf:=hs.fits
 refine wpAny_pyIter_slot hs.ty F.slot_set_iter (wpAny_call_entry F.slot_set_iter hs.ty xP ?_ (F.args_set_iter_1 _))
 unfold Builtin.«frozenset.__iter__»
 refine wpAny_bind (m:=Builtin.Frozenset.slot0 "__iter__" _) (wpAny_bind (m:=slotArgs "__iter__" 0 _) (wpAny_pure (wpAny_pure ?_)))
 refine wpAny_bind (m:=Builtin.Frozenset.sizeOf a) (wpAny_bind (wpAny_setEntries_of ho hd hf (wpAny_pure ?_)))
 refine wpAny_bind (m:=setDrawn a) (wpAny_bind (wpAny_setState_of ho hd hf (wpAny_bind (wpAny_bind (wpAny_askSetting (wpAny_pure ?_))))))
 refine wpAny_pure ?_
 dsimp only
 show wpAny _ _ (if(!w.params.followText "set-order" && (!t.plain && decide (es.size>1)))=true then _ else _) _ _ s
 cases hc:(!w.params.followText "set-order" && (!t.plain && decide (es.size>1))) with
 |false=>
  rw[if_neg Bool.false_ne_true]
  refine wpAny_bind (wpAny_pure ?_)
  refine wpAny_bind (wpAny_setEpoch_of ho hd hf ?_)
  refine wpAny_bind (wpAny_newObj_type (wpAny_pure ⟨_,rfl,"set_iterator",_,⟨_,Heap.get?_push_size _ rfl,rfl⟩,tF.lookup,?_⟩))
  exact h1 hc
 |true=>
  rw[if_pos rfl]
  refine wpAny_bind (zD es.size (List.range es.size) s _ (by rw[List.length_range];exact Nat.le_refl _) fun ys d' hp=> ?_)
  have hl:ys.length=es.size:=by rw[hp.length_eq,List.length_range]
  refine wpAny_bind (wpAny_newObj_type ?_ (by show(ys.map fun(i:Nat)=>rawInt i).toArray.size≤sizeLine;rw[List.size_toArray,List.length_map,hl];exact hn))
  have ho2:(s.heap.push (DR (ys.map fun(i:Nat)=>Value.int (i:Int) 0))).get? a=some o:=Heap.get?_push_of_some _ ho
  refine wpAny_bind (wpAny_setEpoch_of (s:={s with heap:=s.heap.push (DR (ys.map fun(i:Nat)=>Value.int (i:Int) 0)),drawn:=d'}) ho2 hd hf ?_)
  refine wpAny_bind (wpAny_newObj_type (wpAny_pure ⟨_,rfl,"set_iterator",_,⟨_,Heap.get?_push_size _ rfl,rfl⟩,tF.lookup,?_⟩))
  have:=h2 hc ys d' hp
  rw[show s.heap.objs.size+1=(s.heap.push (DR (ys.map fun(i:Nat)=>Value.int (i:Int) 0))).objs.size from(Heap.size_push ..).symm] at this
  exact this
end
end L2
namespace L2
open PySem
section
variable {prog:Program}{w:World}{A:Around}{E:Value→Shared→Prop}{s:Shared}
theorem Cp {a:Addr}{es:Array (Int×Value)}{ep slot i:Nat}{t:SetTable}{Q:Option (Value×Nat)→Shared→Prop}(hs:kB s.heap a es ep t) (ht:w.params.followText "set-order"=true)
  (h:Q (((pickOrder (w.params.setOrder a ep) es)[i]?).map fun e=>(e.2,slot)) s):wpAny (model prog w) A (setNext a slot i ep) Q E s:=by
 obtain⟨o,ho,hc,hd⟩:=hs.ob
 unfold setNext
 refine wpAny_bind (wpAny_setState_of ho hd hs.fits ?_)
 dsimp only
 refine wpAny_bind (m:=setsByText) (wpAny_bind (wpAny_askSetting (wpAny_pure ?_)))
 show wpAny _ _ (if(w.params.followText "set-order")=true then _ else _) _ _ s
 rw[if_pos ht,if_neg (by simp)]
 refine wpAny_bind (m:=setWalk a) ?_
 unfold setWalk
 refine wpAny_bind (wpAny_setState_of ho hd hs.fits ?_)
 dsimp only
 refine wpAny_bind (m:=setsByText) (wpAny_bind (wpAny_askSetting (wpAny_pure ?_)))
 show wpAny _ _ (if(w.params.followText "set-order")=true then _ else _) _ _ s
 rw[if_pos ht]
 refine wpAny_bind (wpAny_askSetting (wpAny_pure ?_))
 exact wpAny_pure h
theorem JO {I a:Addr}{es:Array (Int×Value)}{ep i:Nat}{first:Value}{t:SetTable}{Q:Option Value→Shared→Prop}(hh:A.handled=none) (hI:s.heap.get? I=some (wu first i a es.size ep)) (hs:kB s.heap a es ep t)
  (hn:(∃slot:Nat,first=.int slot 0∧ ∀(A:Around) (Q':Option (Value×Nat)→Shared→Prop) (E:Value→Shared→Prop),Q' none s→wpAny (model prog w) A (setNext a slot i ep) Q' E s)∨
   ∃(T:Addr) (ys:List Nat),first=.ref T∧s.heap.get? T=some (DR (ys.map fun(i:Nat)=>Value.int (i:Int) 0))∧ys[i]? =none)
  (hQ: ∀h',(∀b o,b≠I→s.heap.get? b=some o→h'.get? b=some o)→Q none {s with heap:=h'}):wpAny (model prog w) A (pyNext (.ref I)) Q E s:=by
 obtain⟨o,ho,hc,hd⟩:=hs.ob
 have ty:s.TypeIs (.ref I) "set_iterator":=⟨_,hI,rfl⟩
 have fin: ∀(R:Fin→Shared→Prop) (h1:Heap),(∀b o,b≠I→s.heap.get? b=some o→h1.get? b=some o)→wpAny (model prog w) A.in1 (newExc (.type "StopIteration") []>>=fun e=>raiseNew e:Sem Fin) R (fun e s'=>wpAny (model prog w) A (do if←isInstance e (.type "StopIteration") then pure none else throw e) Q E s') {s with heap:=h1}:=by
  intro R h1 k1
  refine wpAny_bind ?_
  simp only[newExc,newTuple]
  refine wpAny_bind (wpAny_newObj_type ?_ (by size_fits))
  refine wpAny_bind (m:=firstArgMember _ _) (wpAny_of_eq (a:=Value.none) (by first |rfl |(simp only[firstArgMember];rfl)) ?_)
  refine wpAny_newObj_type ?_ (by size_fits)
  simp only[raiseNew]
  refine wpAny_bind (wpAny_handled ?_)
  rw[show A.in1.handled=none from hh]
  refine wpAny_bind (wpAny_pure (wpAny_throw ?_))
  refine wpAny_bind (wpAny_isInstance (T:="StopIteration") (b:=true) ⟨_,Heap.get?_push_size _ rfl,rfl⟩ isSubtype_stop ?_)
  exact wpAny_pure (hQ _ fun b o hb e=>Heap.get?_push_of_some _ (Heap.get?_push_of_some _ (k1 b o hb e)))
 unfold pyNext
 refine wpAny_bind (wpAny_attempt (wpAny_callSpecial?_slot (name:=Str.ofString "__next__") ty tF (wpAny_call_entry tF ty Au ?_ (Cl _))))
 unfold Builtin.«set_iterator.__next__»
 refine wpAny_bind (m:=slotArgs "__next__" 0 _) (wpAny_pure ?_)
 refine wpAny_bind (wpAny_fieldsOf hI rfl ?_)
 show wpAny _ _ (setEntries a>>=_) _ _ s
 refine wpAny_bind (wpAny_setEntries_of ho hd hs.fits ?_)
 rw[if_neg (by simp)]
 rcases hn with⟨slot,rfl,hn⟩ |⟨T,ys,rfl,hT,hj⟩
 ·refine wpAny_bind (m:=setNext a slot i ep) (hn _ _ _ ?_)
  refine wpAny_bind (wpAny_setField_rec hI (by simp) fun h1 g1 b1=> ?_)
  exact fin _ h1 fun b o hb e=>(b1.2 b hb).trans e
 ·show wpAny _ _ (seqItems? (.ref T)>>=_) _ _ s
  refine wpAny_bind (wpAny_seqItems hT rfl ?_)
  have hj':(ys.map fun(i:Nat)=>Value.int (i:Int) 0).toArray[(i:Int).toNat]? =none:=by
   rw[List.getElem?_toArray,List.getElem?_map,Int.toNat_natCast,hj];rfl
  show wpAny _ _ (match (ys.map fun(i:Nat)=>Value.int (i:Int) 0).toArray[(i:Int).toNat]? with |some (.int place _)=>_ |some _=>_ |none=>_) _ _ s
  rw[hj']
  refine wpAny_bind (wpAny_setField_rec hI (by simp) fun h1 g1 b1=> ?_)
  refine wpAny_bind (wpAny_setField_rec (s:={s with heap:=h1}) g1 (by simp) fun h2 g2 b2=> ?_)
  exact fin _ h2 fun b o hb e=>(b2.2 b hb).trans ((b1.2 b hb).trans e)
end
end L2
namespace L2
open PySem
section
variable {prog:Program}{w:World}{A:Around}{E:Value→Shared→Prop}{s:Shared}
theorem J8 {a:Addr}{Q:Bool→Shared→Prop}(ty:s.TypeIs (.ref a) "set") (h:Q false s):wpAny (model prog w) A (Builtin.List.listLengthHint (.ref a)) Q E s:=by
 unfold Builtin.List.listLengthHint
 refine wpAny_bind (wpAny_specialOf ty F.slot_set_len.lookup ?_)
 generalize hid:("set.__len__":String)=nm
 wp_delta
 rw[show splitId nm=some ("set","__len__") from by subst hid;decide+kernel]
 subst hid
 refine wpAny_bind (wpAny_isInstance (T:="set") (b:=true) ty (by rw[isSubtype_type];kernel_rfl) ?_)
 refine wpAny_ite_split (fun z=>absurd z (by decide)) (fun _=> ?_)
 refine wpAny_ite_split (fun _=> ?_) (fun z=>absurd (by decide+kernel) z)
 exact wpAny_bind (wpAny_typeOf ty (wpAny_pure h))
end
end L2
namespace L2
open PySem
end L2
namespace L2
open PySem
section
variable {prog:Program}{w:World}{α:Type} [DecidableEq α] (knd:PySem.KeyKind prog w α) (kOf:Value→α)
variable {knd kOf}
variable {A:Around}{E:Value→Shared→Prop}{s:Shared}
end
end L2
namespace L2
open PySem PySem.Spec PyProof.Rows
section
variable {prog:Program}{w:World}{A:Around}{E:Value→Shared→Prop}{s:Shared}
end
section
variable {prog:Program}{w:World}{A:Around}{R:Result→Shared→Prop}{α:Type} [DecidableEq α] [BEq α] [LawfulBEq α] {it a:Addr}{fp wr:List Addr}{G:Array GenState→Array GenState→Prop}{n:Nat}{P:Nat→Value→Prop}{St:Nat→Shared→Prop}
end
section
variable {prog:Program}{w:World}{A:Around}{E:Value→Shared→Prop}{s:Shared}{α:Type} [DecidableEq α] [BEq α] [LawfulBEq α]
end
end L2
namespace L2
open PySem PySem.Spec PyProof.Rows
section
variable {prog:Program}{w:World}{A:Around}{E:Value→Shared→Prop}{s:Shared}
theorem EG {h1:Heap}{vs:List Value}{out:Array Value}:(∀b o,h1.get? b=some o→(sortedHeap (h1.push (seqObj "list" vs.toArray 0)) h1.objs.size vs out).get? b=some o)∧ ∃e,(sortedHeap (h1.push (seqObj "list" vs.toArray 0)) h1.objs.size vs out).get? h1.objs.size=some (seqObj "list" out e):=by
 have g:(h1.push (seqObj "list" vs.toArray 0)).get? h1.objs.size=some (seqObj "list" vs.toArray 0):=Heap.get?_push_size _ rfl
 refine⟨fun b o e=> ?_,sortedHeap_at g⟩
 have hb:b<h1.objs.size:=Heap.lt_size e
 rw[sortedHeap_old (Nat.ne_of_lt hb) (by rw[Heap.size_push];exact Nat.lt_succ_of_lt hb)]
 exact Heap.get?_push_of_some _ e
end
end L2
namespace L2
open PySem PySem.Spec PyProof.Rows
def kOf:Value→Key
 | .int i _=> .inl i
 | .str x _=> .inr x
 |_=> .inl 0
section
variable {X:Cx}
variable {P:Program}{w:World}
end
end L2
namespace L2
open PySem PySem.Spec PyProof.Rows
section
variable {prog:Program}{w:World}{A:Around}{E:Value→Shared→Prop}{s:Shared}
end
section
variable {X:Cx}
end
section
variable {X:Cx}
end
end L2
namespace L2
open PySem PySem.W PyProof.Rows
def CXe (P:Program) (w:World):CXT:=fun outer H s E e s'=> ∃(ea:Addr) (C:Value) (B:Heap) (t:Addr) (H':Hp),e=.ref ea∧s'.os=s.os∧AllBare s'.gens∧Un (frs outer) [] H H' s.heap s'.heap∧HOk P w H' s'.heap∧
 Heap.FlyingW B outer ea C (.ref t) s'.heap∧(∀b o,H' b=some o→ ∃u,B.get? b=some u)∧(∀b o,s.heap.get? b=some o→b∉frs outer→ ∃u,B.get? b=some u)∧E C none H'
theorem EI {env:Env}{l:List Env}{L:Addr}(h:env.frame=some L):frs (env::l)=L::frs l:=by
 unfold frs
 rw[List.filterMap_cons,h]
theorem HOk.flown {P:Program}{w:World}{H:Hp}{h h' B:Heap}(x:HOk P w H h) (c: ∀b o,H b=some o→ ∃u,B.get? b=some u) (k:B.StaysIn h) (k':B.StaysIn h'):HOk P w H h':=fun a o e=>
 (x a o e).stay (fun b u hb q=>by
  obtain⟨o',ho'⟩: ∃o',H b=some o':=by
   rcases hb with rfl |hb
   ·exact⟨_,e⟩
   ·exact⟨_,hb⟩
  obtain⟨v,hv⟩:=c b o' ho'
  have q2:=k b v hv
  rw[q] at q2
  cases q2
  exact k' b _ hv) (fun _ q=>q) fun _ _ q=>q
section
variable {P:Program}{w:World}{K:PySem.W.Frag}{mg:Str→Option Value}{base:Heap}{N:List Str}{qual:Str}{scope:Scope}{f:Addr}{cd:Value}{A:Around}{outer:List Env}{s0:Shared}{H0:Hp}{E:XK}
theorem iD:oT (CXe P w) (Df (CXe P w) P w K mg base N qual scope f cd A outer s0 H0 E) E:=by
 rintro pins σ H s e s' I ⟨ea,C,B,t,H',rfl,os,bare,un,hok,fl,cov1,cov2,q⟩
 have hfr:(envOfC qual scope s0.heap.objs.size f cd).frame=some s0.heap.objs.size:=rfl
 have hst:frs (envOfC qual scope s0.heap.objs.size f cd::outer)=s0.heap.objs.size::frs outer:=EI hfr
 have u1:Un (frs outer) [] H0 H s0.heap s.heap:=I.base
 have un:Un (frs (envOfC qual scope s0.heap.objs.size f cd::outer)) [] H H' s.heap s'.heap:=un
 have cov2: ∀b o,s.heap.get? b=some o→b∉frs (envOfC qual scope s0.heap.objs.size f cd::outer)→ ∃u,B.get? b=some u:=cov2
 have fl:Heap.FlyingW B (envOfC qual scope s0.heap.objs.size f cd::outer) ea C (.ref t) s'.heap:=fl
 have nst: ∀b o,s0.heap.get? b=some o→b∉frs outer→b∉frs (envOfC qual scope s0.heap.objs.size f cd::outer):=fun b o e hb hm=>by
  rw[hst] at hm
  rcases List.mem_cons.mp hm with rfl |hm
  ·exact absurd (Heap.lt_size e) (Nat.lt_irrefl _)
  ·exact hb hm
 have cov: ∀b o,s0.heap.get? b=some o→b∉frs outer→ ∃u,B.get? b=some u:=fun b o e hb=>by
  obtain⟨o1,e1⟩:=u1.there b o e (by simp)
  exact cov2 b o1 e1 (nst b o e hb)
 show wpAny (model P w) (A.deeper (envOfC qual scope s0.heap.objs.size f cd)) (leaving (envOfC qual scope s0.heap.objs.size f cd) (.ref ea)) _ _ s'
 refine wpAny_leaves_onW (outer:=outer) I.ok.frames hfr fl fun h' fl' up=> ?_
 refine⟨ea,C,B,t,H',rfl,os.trans I.os,bare,?_,hok.flown cov1 fl.1 fl'.1,fl',cov1,cov,q⟩
 have slot: ∀b o,s0.heap.get? b=some o→H0 b=none→b∈frs outer→ ∃sl,h'.get? b=some {o with slots:=sl}:=fun b o e n hb=>by
  obtain⟨sl,e1⟩:=u1.slot b o e n hb (by simp)
  have n1:=u1.free b o e n (by simp)
  obtain⟨sl2,e2⟩:=un.slot b _ e1 n1 (by rw[hst];exact List.mem_cons_of_mem _ hb) (by simp)
  obtain⟨_,o',ho',hd⟩:=I.ok.funs.mem hb
  have:o'=o:=by
   have ho':s0.heap.get? b=some o':=ho'
   rw[e] at ho'
   exact(Option.some.inj ho').symm
  subst this
  obtain⟨sl3,e3⟩:=up b _ e2 hd
  exact⟨sl3,e3⟩
 refine⟨fun b o e n hb _=> ?_,fun b o e n hb _=>slot b o e n hb,fun b o e n _=> ?_,fun b o e _=> ?_,fun b xs e=>un.tups b xs (u1.tups b xs e),fun b o u e=>un.frzs b o u (u1.frzs b o u e),fun b ps e=> ?_⟩
 ·have e1:=u1.keep b o e n hb (by simp)
  have n1:=u1.free b o e n (by simp)
  have e2:=un.keep b o e1 n1 (nst b o e hb) (by simp)
  obtain⟨u,hu⟩:=cov b o e hb
  have e3:=fl.1 b u hu
  rw[e2] at e3
  cases e3
  exact fl'.1 b _ hu
 ·obtain⟨o1,e1⟩:=u1.there b o e (by simp)
  exact un.free b o1 e1 (u1.free b o e n (by simp)) (by simp)
 ·by_cases hb:b∈frs outer
  ·have n:H0 b=none:=I.ok.frf b hb
   obtain⟨sl,e1⟩:=slot b o e n hb
   exact⟨_,e1⟩
  ·obtain⟨u,hu⟩:=cov b o e hb
   exact⟨u,fl'.1 b u hu⟩
 ·obtain⟨m1,e1⟩:=u1.tbls b ps e
  obtain⟨m2,e2⟩:=un.tbls b _ e1
  exact⟨m1++m2,by rw[e2,Array.append_assoc]⟩
end
theorem cp.held {P:Program}{w:World}{H:Hp}{h:Heap}{a:Addr}{o:HO}(x:cp P w H h a o): ∃u,h.get? a=some u:=by
 cases o with
 |lst xs=>obtain⟨_,_,_,_,e⟩:=x;exact⟨_,e⟩
 |tup xs=>obtain⟨_,_,_,_,e,_⟩:=x;exact⟨_,e⟩
 |dK kvs=>obtain⟨_,_,_,_,o,_,_,e,_⟩:=x;exact⟨_,e⟩
 |dT kvs=>obtain⟨_,_,_,_,o,_,_,e,_⟩:=x;exact⟨_,e⟩
 |set S n=>obtain⟨o,_,_,_,e,_⟩:=x;exact⟨_,e⟩
 |ins C dx fs=>obtain⟨_,_,_,e,_⟩:=x;exact⟨_,e⟩
 |own y=>exact x
 |xd fs=>obtain⟨_,⟨_,_,_,e,_⟩,_⟩:=x;exact⟨_,e⟩
 |rng lo hi=>obtain⟨_,_,_,e⟩:=x;exact⟨_,e⟩
 |frz ob u=>exact⟨_,x.1⟩
 |tbl ps=>exact⟨_,(show h.get? a=some _ from x)⟩
 |met f y=>exact⟨_,(show h.get? a=some _ from x)⟩
 |ext φ=>exact x.2.1
def KN (X:Cx) (E:XK):Prop:= ∀(pins:List (Addr×Obj)) (σ:St) (H:Hp) (s:Shared) (C:Value) (vs:List Value) (h':Heap) (ea:Addr),Inv X pins σ H s→Heap.MadeExcOf s.heap h' ea C vs→E C none H→X.xe (.ref ea) {s with heap:=h'}
section
variable {P:Program}{w:World}{K:PySem.W.Frag}{mg:Str→Option Value}{base:Heap}{N:List Str}{qual:Str}{scope:Scope}{f:Addr}{cd:Value}{A:Around}{outer:List Env}{s0:Shared}{H0:Hp}{E:XK}
theorem Ee:KN (Df (CXe P w) P w K mg base N qual scope f cd A outer s0 H0 E) E:=by
 intro pins σ H s C vs h' ea I hx q
 have hfr:(envOfC qual scope s0.heap.objs.size f cd).frame=some s0.heap.objs.size:=rfl
 have hst:frs (envOfC qual scope s0.heap.objs.size f cd::outer)=s0.heap.objs.size::frs outer:=EI hfr
 have u1:Un (frs outer) [] H0 H s0.heap s.heap:=I.base
 have nst: ∀b o,s0.heap.get? b=some o→b∉frs outer→b∉frs (envOfC qual scope s0.heap.objs.size f cd::outer):=fun b o e hb hm=>by
  rw[hst] at hm
  rcases List.mem_cons.mp hm with rfl |hm
  ·exact absurd (Heap.lt_size e) (Nat.lt_irrefl _)
  ·exact hb hm
 generalize hB:hideAll s.heap (frs (envOfC qual scope s0.heap.objs.size f cd::outer))=B
 have inB: ∀{b o},s.heap.get? b=some o→b∉frs (envOfC qual scope s0.heap.objs.size f cd::outer)→B.get? b=some o:=fun e hb=>by rw[←hB];exact hideAll_get _ e hb
 have ofB:B.StaysIn s.heap:=fun b o e=>by rw[←hB] at e;exact of_hideAll _ e
 have fr:s.heap.FunFrames B (envOfC qual scope s0.heap.objs.size f cd::outer):=by
  rw[←hB]
  exact funFrames_hide (base:=base) I.stack fun env he b hb=>List.mem_filterMap.mpr ⟨env,he,hb⟩
 have cov: ∀b o,s0.heap.get? b=some o→b∉frs outer→ ∃u,B.get? b=some u:=fun b o e hb=>by
  obtain⟨o1,e1⟩:=u1.there b o e (by simp)
  exact⟨o1,inB e1 (nst b o e hb)⟩
 have cov1: ∀b o,H b=some o→ ∃u,B.get? b=some u:=fun b o e=>by
  obtain⟨u,hu⟩:=(I.hok b o e).held
  exact⟨u,inB hu fun hm=>by have n:H b=none:=I.stkFree b hm;rw[e] at n;cases n⟩
 show wpAny (model P w) (A.deeper (envOfC qual scope s0.heap.objs.size f cd)) (leaving (envOfC qual scope s0.heap.objs.size f cd) (.ref ea)) _ _ _
 refine wpAny_leaves_madeW (outer:=outer) (h:=s.heap) I.ok.frames hfr ofB fr hx fun h'' t fl tup _ up=> ?_
 refine⟨ea,C,B,t,H,rfl,I.os,I.bare,?_,I.hok.flown cov1 ofB fl.1,fl,cov1,cov,q⟩
 have slot: ∀b o,s0.heap.get? b=some o→H0 b=none→b∈frs outer→ ∃sl,h''.get? b=some {o with slots:=sl}:=fun b o e n hb=>by
  obtain⟨sl,e1⟩:=u1.slot b o e n hb (by simp)
  have e2:=hx.keeps _ _ e1
  obtain⟨_,o',ho',hd⟩:=I.ok.funs.mem hb
  have:o'=o:=by
   have ho':s0.heap.get? b=some o':=ho'
   rw[e] at ho'
   exact(Option.some.inj ho').symm
  subst this
  obtain⟨sl3,e3⟩:=up b _ e2 hd
  exact⟨sl3,e3⟩
 refine⟨fun b o e n hb _=> ?_,fun b o e n hb _=>slot b o e n hb,fun b o e n _=>u1.free b o e n (by simp),fun b o e _=> ?_,u1.tups,u1.frzs,u1.tbls⟩
 ·exact fl.1 b o (inB (u1.keep b o e n hb (by simp)) (nst b o e hb))
 ·by_cases hb:b∈frs outer
  ·obtain⟨sl,e1⟩:=slot b o e (I.ok.frf b hb) hb
   exact⟨_,e1⟩
  ·obtain⟨u,hu⟩:=cov b o e hb
   exact⟨u,fl.1 b u hu⟩
end
def Ci:List Value:=[.type "ValueError",.type "Exception",.type "BaseException",.type "object"]
def ExC (K:PySem.W.Frag) (C:Addr):Prop:=excIn K C Ci "ValueError.__new__"=true
theorem ExC.at {K:PySem.W.Frag}{C:Addr}{h:Heap}(kin:K.In h) (x:ExC K C): ∃bm N nm q bs hd sn sub ab col dd k0 k1 k2 k3 k5 mN,h.get? C=some (excClassObj nm q C N bs bm hd sn sub ab col dd k0 k1 k2 k3 k5 "ValueError.__new__")∧h.Ns N mN∧mN "__init__"=none∧OwnTail h Ci bm:=by
 unfold ExC excIn at x
 split at x
 ·rename_i dd c sl look
  split at x
  ·rename_i C2 tl s0 s1 s2 s3 nid s5 order slots
   simp only[Bool.and_eq_true,beq_iff_eq,Bool.not_eq_true'] at x
   obtain⟨⟨⟨⟨⟨e1,e2⟩,del⟩,tin⟩,nok⟩,noi⟩:=x
   subst e1 e2
   rcases c with⟨nm,bs,mro,ns,qn,hd,sn,sub,ab,col,dl⟩
   dsimp only at order del nok noi
   subst order
   subst del
   obtain rfl:sl= #[s0,s1,s2,s3,some (.builtin "ValueError.__new__"),s5]:=by
    rcases sl with⟨list⟩
    exact congrArg Array.mk slots
   exact⟨tl,ns,nm,qn,bs,hd,sn,sub,ab,col,dd,s0,s1,s2,s3,s5,_,kin _ _ look,.of_isNs (isNs_of_in kin nok),nsMap_none_of_in kin nok noi,tail_of_in kin tin⟩
  ·cases x
 ·cases x
def MM (C:Addr) (E:XK) (t:TA):TS:=fun _ σ H=>t σ H fun vs H1=>vs.length≤sizeLine∧E (.ref C) none H1
theorem Eh {X:Cx}{C:Addr}{E:XK}{x:Str}{np cpos pos:Pos}{e:Expr}{es:List Expr}{t:TA}(hx:ExC X.K C) (hg:Gl X x) (hm:X.mg x=some (.ref C)) (hc:X.calm=true) (hR:KN X E) (ha:PA X (e::es) t)
  (hdb:(x==("__debug__":Str))=false:=by decide) (he:starEach (e::es) X.env=(false,eval e X.env)::starEach es X.env:=by rfl) (hpl:(backTo cpos (starEach es X.env)).any (·.1)=false:=by rfl):
  PS X (.Raise (some (.Call (.Name x np) (e::es) [] cpos)) none pos) (MM C E t):=by
 intro pins s σ H D I h
 obtain⟨bm,N,nm,q,bs,hd,sn,sub,ab,col,dd,k0,k1,k2,k3,k5,mN,hC,hN,hni,T⟩:=hx.at I.mod.kin
 refine wpAny_Raise_call_subT (C:=C) (N:=N) (bm:=bm) (mN:=mN) (bmB:=Ci) (newId:="ValueError.__new__") (nm:=nm) (q:=q) (bs:=bs) (hdct:=hd) (sn:=sn) (sub:=sub) (ab:=ab) (col:=col) (dd:=dd) (k0:=k0) (k1:=k1) (k2:=k2) (k3:=k3) (k5:=k5) PySem.F.excBase_ValueError (T.hasType PySem.F.excBase_ValueError.hasBase) (I.ok.hd hc) ?_ hni (qy I hg hm ⟨rfl,?_⟩ hdb)
 ·rw[he]
  show(false ||(backTo cpos (starEach es X.env)).any (·.1))=false
  rw[hpl];rfl
 ·have ha':=ha cpos pins s σ H _ I h
  rw[he] at ha'⊢
  refine Calls.evalArgs_plain (thn ha' fun us s2 ⟨vs,H1,I1,r,z,q1⟩=> ?_)
  have kb: ∀b o,X.base.get? b=some o→s2.heap.get? b=some o:=I1.bk
  exact⟨rfl,by show us.length≤_;rw[←r.length];exact z,kb _ _ hC,hN.keeps kb,T.keeps kb,fun h' ea m=>hR pins σ H1 s2 (.ref C) us h' ea I1 m q1⟩
end L2
namespace L2
open PySem PySem.W PyProof.Rows
theorem Un.flown {fs:List Addr}{H H':Hp}{h1 h' h5 B:Heap}(un:Un fs [] H H' h1 h') (cov: ∀b o,h1.get? b=some o→b∉fs→ ∃u,B.get? b=some u) (k:B.StaysIn h') (k':B.StaysIn h5) (up:h'.UpToSlots h5)
  (fr: ∀b∈fs,H b=none∧ ∀o,h1.get? b=some o→ ∀vs,o.data≠.fields vs):Un fs [] H H' h1 h5:=by
 have slot: ∀b o,h1.get? b=some o→H b=none→b∈fs→ ∃sl,h5.get? b=some {o with slots:=sl}:=fun b o e n hb=>by
  obtain⟨sl,e1⟩:=un.slot b o e n hb (by simp)
  obtain⟨sl3,e3⟩:=up b _ e1 ((fr b hb).2 o e)
  exact⟨sl3,e3⟩
 refine⟨fun b o e n hb hx=> ?_,fun b o e n hb _=>slot b o e n hb,un.free,fun b o e _=> ?_,un.tups,un.frzs,un.tbls⟩
 ·have e2:=un.keep b o e n hb hx
  obtain⟨u,hu⟩:=cov b o e hb
  have e3:=k b u hu
  rw[e2] at e3
  cases e3
  exact k' b _ hu
 ·by_cases hb:b∈fs
  ·obtain⟨sl,e1⟩:=slot b o e (fr b hb).1 hb
   exact⟨_,e1⟩
  ·obtain⟨u,hu⟩:=cov b o e hb
   exact⟨u,k' b u hu⟩
abbrev Cx.inExc (X:Cx) (ea:Addr):Cx:={X with A:=X.A.mark (some (.ref ea)),calm:=false,xe:=fun _ _=>False}
section
variable {X:Cx}{pins:List (Addr×Obj)}{σ:St}{H:Hp}{s:Shared}{ea:Addr}
theorem Cx.Ok.inExc (ok:X.Ok) (ea:Addr):(X.inExc ea).Ok:=
 ⟨ok.mod,ok.kind,ok.glob,ok.blt,ok.above,ok.inj,ok.has,ok.cab,fun z=>absurd z (by simp),ok.frames,ok.stk,ok.exf,ok.bs,ok.bsz,ok.noex,ok.exfs,ok.funs,ok.frf⟩
theorem Inv.inExc (I:Inv X pins σ H s) (ea:Addr):Inv (X.inExc ea) pins σ H s:=⟨I.ok.inExc ea,I.os,I.bare,I.base,I.loc,I.cell,I.free,I.freeC,I.pin,I.hok,I.len⟩
theorem Inv.outExc (ok:X.Ok) (I:Inv (X.inExc ea) pins σ H s):Inv X pins σ H s:=⟨ok,I.os,I.bare,I.base,I.loc,I.cell,I.free,I.freeC,I.pin,I.hok,I.len⟩
theorem SP.outExc {D:sZ}{f:Flow}{s':Shared}(ok:X.Ok) (h:SP (X.inExc ea) pins D f s'):SP X pins D f s':=by
 cases f with
 |next=>obtain⟨σ',H',I,q⟩:=h;exact⟨σ',H',I.outExc ok,q⟩
 |brk=>obtain⟨σ',H',I,q⟩:=h;exact⟨σ',H',I.outExc ok,q⟩
 |cont=>obtain⟨σ',H',I,q⟩:=h;exact⟨σ',H',I.outExc ok,q⟩
 |ret u=>obtain⟨v,σ',H',I,r,q⟩:=h;exact⟨v,σ',H',I.outExc ok,r,q⟩
end
def uv (CX:CXT) (X:Cx) (E:XK) (pins:List (Addr×Obj)) (σ:St):Prop:= ∀(H:Hp) (s:Shared) (e:Value) (s':Shared),Inv X pins σ H s→CX X.stack H s E e s'→X.xe e s'
def Pn (X:Cx) (pins:List (Addr×Obj)) (σ:St) (e:Expr) (t:TE):Prop:= ∀(s:Shared) (H:Hp) (Q:VK),Inv X pins σ H s→t σ H Q→wpAny (model X.prog X.w) X.A (eval e X.env) (EP X pins σ Q) X.xe s
def Pm (X:Cx) (pins:List (Addr×Obj)) (σ:St) (st:Stmt) (t:TS):Prop:= ∀(s:Shared) (H:Hp) (D:sZ),Inv X pins σ H s→t D σ H→wpAny (model X.prog X.w) X.A (exec st X.env) (SP X pins D) X.xe s
section
variable {X:Cx}{CX:CXT}{k:Nat}{f C:Addr}{fd:FuncData}{ps:List Str}{sp:Sp}{dvs:List V}{ds:List Value}{E:XK}{x m:Str}{p pos apos:Pos}{e o:Expr}{es:List Expr}{ta:TE}{t:TA}{pins:List (Addr×Obj)}{σ:St}
theorem Nc {H:Hp}{s:Shared}{Q:VK}{us:List Value}{vs:List V}(F:bd X.prog X.w X.K X.mg X.base CX k f fd ps sp) (hr:fj k X.A) (hb:aN X.K fd ps ds) (hd:a8 dvs ds) (hx:uv CX X E pins σ)
  (I:Inv X pins σ H s) (r:a8 vs us) (h:sp (vs++dvs) H Q E):wpAny (model X.prog X.w) X.A (call (.ref f) us) (EP X pins σ Q) X.xe s:=by
 have both:a8 (vs++dvs) (us++ds):=r.append hd
 have len:(us++ds).length=ps.length:=both.length▸F.len _ _ _ _ h
 refine wpAny_call (codeAny_mono (F.run X.A X.stack s H ⟨us,[]⟩ (us++ds) (vs++dvs) Q E hr I.env0 (hb s us I.kIn len) both h) fun res s' z=> ?_)
 rcases res with ex |fl
 ·exact hx H s ex s' I z
 ·cases fl with
  |ret u=>exact I.after z
  |next=>cases z
  |brk=>cases z
  |cont=>cases z
theorem LP {pl:Sem Bool}(he:PE X o ta) (c:Cls X.K C) (hm:iY X.K C m f) (F:bd X.prog X.w X.K X.mg X.base CX k f fd ps sp) (hr:fj k X.A) (hb:aN X.K fd ps ds) (hd:a8 dvs ds) (hx:uv CX X E pins σ) (ha:PA X (e::es) t)
  (hst:starEach (e::es) X.env=(false,eval e X.env)::starEach es X.env:=by rfl) (hpl:(backTo pos (starEach es X.env)).any (·.1)=false:=by rfl)
  (ht:eval (.Call (.Attribute o m apos) (e::es) [] pos) X.env=(do
   let obj ←eval o X.env
   standAt apos.atName
   let(g,first) ←holding [obj] (getMethod obj m pl)
   callWith pos g first (backTo pos (starEach (e::es) X.env)) (backToKw pos (keywordEach [] X.env))):=by rfl):
  Pn X pins σ (.Call (.Attribute o m apos) (e::es) [] pos) (IS C m sp dvs E ta t):=by
 intro s H Q I h
 refine PySem.W.methodCall_KW (pl:=pl) (thn (he pins s σ H _ I h) fun u s1 ⟨v,H1,I1,rv,a,dx,fs,ev,ea,l,q⟩=> ?_) ht
 subst ev
 cases (show u=Value.ref a from rv)
 refine sj I1 ea c hm l (PySem.W.callWith_K (first:=[.ref a]) (h₀:=X.base) I.ok.mod.kin hm.kp (thn (ha pos pins s1 σ H1 _ I1 q) fun us s2 ⟨vs,H2,I2,r,q2⟩=>⟨I2.kIn,?_⟩) hst hpl)
 exact Nc (us:=.ref a::us) (vs:=.ref a::vs) F hr hb hd hx I2 (.cons rfl r) q2
theorem Nb {i:Nat}{te:TE}{pos':Pos}(hN:X.N.Nodup) (hi:X.N[i]? =some x) (hx:Loc X.env.scope x) (he:Pn X pins σ e te) (hs:swapsWith e (some (.Name x pos')) pos.line X.env=pure false:=by rfl) (hf:X.fn x=true∨X.env.scope.names.lookup x=some .local :=by first |exact .inl rfl |exact .inr rfl |assumption):
  Pm X pins σ (.Assign [.Name x pos'] e pos) (IV te (t6 i)):=by
 intro s H D I h
 exact wpAny_Assign_Name (thn (he s H _ I h) fun v s1 ⟨y,H1,I1,r1,q1⟩=>xN I1 hN hi hx r1 (fun s2 I2=>⟨_,H1,I2,q1⟩) hf) hs
end
theorem PS.nox {X:Cx}{st:Stmt}{t:TS}(h:PS X.nox st t):PS X st t:=fun pins s σ H D I hw=>
 wpAny_mono (h pins s σ H D (I.wish _) hw) (fun _ _ q=>q.unwish) fun _ _ z=>False.elim z
section
variable {P:Program}{w:World}{K:PySem.W.Frag}{mg:Str→Option Value}{base:Heap}
theorem Fun.okE {x qual:Str}{st:Stmt}{f:Addr}{fd:FuncData}{N ps:List Str}{k:Nat}{sp:Sp}(F:Fun K x qual st f fd) (S:ax N ps (ak st)) (len: ∀vs H Q E,sp vs H Q E→vs.length=ps.length)
  (hbody: ∀(cdv:Value) (A:Around) (outer:List Env) (s:Shared) (H:Hp) (vs:List V) (Q:VK) (E:XK),fj k (A.deeper (envOfC qual (ak st) s.heap.objs.size f cdv))→sp vs H Q E→
   ∃t,PSs (Df (CXe P w) P w K mg base N qual (ak st) f cdv A outer s H E) (qA st) t∧t {nx:=fun _ H'=>Q .non H',rt:=Q} (px N vs) H):bd P w K mg base (CXe P w) (k+1) f fd ps sp:=by
 obtain⟨oc,od,kV,doc,pm,an,cdv,ct,osl,rfl,lk,hcd⟩:=F.ex
 exact MA lk hcd S len fun A outer s H vs Q E hr hsp=>hbody cdv A outer s H vs Q E hr hsp
end
def bJ (s:Stmt):List Stmt:=match s with
 | .ClassDef _ _ _ b _ _ _ _ _ _ _=>b
 |_=> []
end L2
namespace L2
open PySem PySem.W PyProof.Rows
abbrev bc:=Key ⊕ List Key
section
variable (P:Program) (w:World)
def iJ:bc→Int
 | .inl k=>(aT P w).hash k
 | .inr ks=>(tupleKind (aT P w)).hash ks
def dh:bc→Nat
 | .inl _=>1
 | .inr ks=>ks.length+1
def mIs (h:Heap) (k:bc) (v:Value):Prop:=match k with
 | .inl k=>(aT P w).is k v=true
 | .inr ks=> ∃a,v=.ref a∧(tupleKind (aT P w)).is h ks a
abbrev fk:=bc×Value×Value
def w5 (x:fk):DictEntry:=⟨iJ P w x.1,x.2.1,x.2.2⟩
end
section
variable {P:Program}{w:World}{A:Around}{E:Value→Shared→Prop}{s:Shared}
theorem mIs.flat {h:Heap}{k:Key}{v:Value}(x:mIs P w h (.inl k) v):(∃i t,v=.int i t∧k=.inl i)∨ ∃z t,v=.str z t∧k=.inr z:=by
 have x:t4 k v=true:=x
 cases k with
 |inl i=>
  have x:Value.isInt i v=true:=x
  cases v with
  |int j t=>
   simp[Value.isInt] at x
   exact .inl ⟨_,_,rfl,by rw[x]⟩
  |_=>cases x
 |inr z=>
  have x:Value.isStrOf z v=true:=x
  cases v with
  |str j t=>
   simp[Value.isStrOf] at x
   exact .inr ⟨_,_,rfl,by rw[x]⟩
  |_=>cases x
theorem FO {k:bc}{v:Value}{Q:Int→Shared→Prop}(hu:A.units<cLine) (hk:mIs P w s.heap k v) (q:Q (iJ P w k) {s with toks:=s.toks+dh k}):wpAny (model P w) A (pyHash v) Q E s:=by
 cases k with
 |inl k=>exact(aT P w).pyHash hk q
 |inr ks=>
  obtain⟨a,rfl,hk⟩:=hk
  exact(tupleKind (aT P w)).pyHash hu hk q
theorem LR {x y:bc}{u v:Value}{Q:Bool→Shared→Prop}(hu:A.units<cLine) (hx:mIs P w s.heap x u) (hy:mIs P w s.heap y v) (q:Q (decide (x=y)) s):wpAny (model P w) A (eqBool u v) Q E s:=by
 cases x with
 |inl x=>
  cases y with
  |inl y=>exact(aT P w).eqBool hx hy (by simpa using q)
  |inr ks=>
   obtain⟨a,rfl,o,its,n,ho,hc,hd,hi⟩:=hy
   rw[decide_eq_false (by intro z;cases z)] at q
   rcases hx.flat with⟨i,t,rfl,_⟩ |⟨z,t,rfl,_⟩
   ·exact SeqAt.EqAt.int_tuple i t ⟨_,ho,hc,_,hd⟩ hu P w E Q q
   ·exact SeqAt.EqAt.str_tuple z t ⟨_,ho,hc,_,hd⟩ hu P w E Q q
 |inr ks=>
  obtain⟨a,rfl,hk⟩:=hx
  cases y with
  |inl y=>
   obtain⟨o,its,n,ho,hc,hd,hi⟩:=hk
   rw[decide_eq_false (by intro z;cases z)] at q
   rcases mIs.flat hy with⟨i,t,rfl,_⟩ |⟨z,t,rfl,_⟩
   ·exact SeqAt.EqAt.tuple_int i t ⟨_,ho,hc,_,hd⟩ hu P w E Q q
   ·exact SeqAt.EqAt.tuple_str z t ⟨_,ho,hc,_,hd⟩ hu P w E Q q
  |inr ls=>
   obtain⟨b,rfl,hl⟩:=hy
   exact(tupleKind (aT P w)).eqBool hu hk hl (by simpa using q)
theorem GB {k:bc}{v:Value}{Q:Bool→Shared→Prop}(hk:mIs P w s.heap k v) (q:Q true s):wpAny (model P w) A (eqIsQuiet 8 v) Q E s:=by
 cases k with
 |inl k=>
  rcases hk.flat with⟨i,t,rfl,_⟩ |⟨z,t,rfl,_⟩
  ·exact wpAny_pure q
  ·exact wpAny_pure q
 |inr ks=>
  obtain⟨a,rfl,hk⟩:=hk
  exact(tupleKind (aT P w)).quiet hk q
theorem mIs.inj {h:Heap}{x y:bc}{v:Value}(hx:mIs P w h x v) (hy:mIs P w h y v):x=y:=by
 cases x with
 |inl x=>
  cases y with
  |inl y=>rw[(aT P w).inj v x y hx hy]
  |inr ks=>
   obtain⟨a,rfl,_⟩:=hy
   rcases hx.flat with⟨i,t,e,_⟩ |⟨z,t,e,_⟩<;>cases e
 |inr ks=>
  obtain⟨a,rfl,hk⟩:=hx
  cases y with
  |inl y=>rcases mIs.flat hy with⟨i,t,e,_⟩ |⟨z,t,e,_⟩<;>cases e
  |inr ls=>
   obtain⟨b,e,hl⟩:=hy
   cases e
   rw[(tupleKind (aT P w)).inj hk hl]
theorem LQ {k:bc}{v:Value}{st:List Value}{Q:Bool→Shared→Prop}(hk:mIs P w s.heap k v) (hs: ∀u∈st,∃k',mIs P w s.heap k' u) (q:Q false s):wpAny (model P w) A (tableMayTell v st) Q E s:=by
 unfold tableMayTell
 split
 ·exact wpAny_pure q
 ·refine wpAny_bind (GB hk ?_)
  simp only[Bool.not_true,Bool.false_eq_true,if_false]
  refine wpAny_bind (wpAny_forIn_list _ (fun left r s'=>s'=s∧r=(none,())∧ ∀u∈left,∃k',mIs P w s.heap k' u) _ ?_ ?_ _ _ ⟨rfl,rfl,hs⟩)
  ·rintro u left r s' ⟨rfl,rfl,hl⟩
   obtain⟨k',hu⟩:=hl u List.mem_cons_self
   refine wpAny_bind (GB hu ?_)
   simp only[Bool.not_true,Bool.false_eq_true,if_false]
   exact wpAny_pure ⟨rfl,rfl,fun z hz=>hl z (List.mem_cons_of_mem _ hz)⟩
  ·rintro r s' ⟨rfl,rfl,_⟩
   exact wpAny_pure q
theorem NE {es:Array DictEntry}{xs:List fk}(he:es.toList=xs.map (w5 P w)) (j:Nat):es[j]? =(xs[j]?).map (w5 P w):=by
 rw[←Array.getElem?_toList,he,List.getElem?_map]
theorem FK {es:Array DictEntry}{xs:List fk}(he:es.toList=xs.map (w5 P w)):es.size=xs.length:=by
 rw[←Array.length_toList,he,List.length_map]
theorem JX {xs:List fk}(hn:(xs.map (·.1)).Nodup) {i j:Nat}{k:bc}{p q:Value×Value}(hi:xs[i]? =some (k,p)) (hj:xs[j]? =some (k,q)):i=j:=by
 have e1:(xs.map (·.1))[i]? =some k:=by rw[List.getElem?_map,hi];rfl
 have e2:(xs.map (·.1))[j]? =some k:=by rw[List.getElem?_map,hj];rfl
 exact(List.getElem?_inj (List.getElem?_eq_some_iff.mp e1).1 hn).mp (e1.trans e2.symm)
theorem PP {c:Prop} [Decidable c] {t u:Sem (Option Nat)}{Q:Option Nat→Shared→Prop}(h1:c→wpAny (model P w) A t Q E s) (h2: ¬c→wpAny (model P w) A u Q E s):wpAny (model P w) A (if c then t else u) Q E s:=by
 by_cases h:c
 ·rw[if_pos h];exact h1 h
 ·rw[if_neg h];exact h2 h
def Of (xs:List fk) (k:bc) (s:Shared) (b:Option (Option Nat)×Option Nat) (s':Shared):Prop:=s'=s∧((∃j p,b=(some (some j),none)∧xs[j]? =some (k,p))∨(b.1=none∧((b.2=none∧ ∀(j:Nat) (p:Value×Value),xs[j]? ≠some (k,p))∨ ∃j p,b.2=some j∧xs[j]? =some (k,p))))
theorem NC {xs:List fk}{k:bc}{places:List Nat}(hn:(xs.map (·.1)).Nodup) (inP: ∀j p,xs[j]? =some (k,p)→j∈places) (ofP: ∀j∈places,∃y:fk,xs[j]? =some y∧iJ P w y.1=iJ P w k) (ndP:places.Nodup)
  (f:Nat→Option (Option Nat)×Option Nat→Sem (ForInStep (Option (Option Nat)×Option Nat)))
  (h1: ∀(x:Nat) (p:Value×Value) (R:ForInStep (Option (Option Nat)×Option Nat)→Shared→Prop),x∈places→xs[x]? =some (k,p)→R (.done (some (some x),none)) s→R (.yield (none,some x)) s→wpAny (model P w) A (f x (none,none)) R E s)
  (h2: ∀(x:Nat) (hit:Option Nat) (y:fk) (R:ForInStep (Option (Option Nat)×Option Nat)→Shared→Prop),x∈places→xs[x]? =some y→iJ P w y.1=iJ P w k→y.1≠k→R (.yield (none,hit)) s→wpAny (model P w) A (f x (none,hit)) R E s):
  wpAny (model P w) A (forIn places ((none,none):Option (Option Nat)×Option Nat) f) (Of xs k s) E s:=by
 refine wpAny_forIn_list f (fun left b s'=>s'=s∧b.1=none∧ ∃pre,places=pre++left∧((b.2=none∧ ∀j∈pre,∀p,xs[j]? ≠some (k,p))∨ ∃j p,b.2=some j∧j∈pre∧xs[j]? =some (k,p))) _ ?_ ?_ _ _ ⟨rfl,rfl,[],rfl,.inl ⟨rfl,by simp⟩⟩
 ·rintro x left ⟨b1,b2⟩ s' ⟨rfl,rfl,pre,hp,hb⟩
  have hxP:x∈places:=by rw[hp];simp
  have hxn:x∉pre:=fun z=>by
   rw[hp,List.nodup_append] at ndP
   exact ndP.2.2 x z x List.mem_cons_self rfl
  obtain⟨y,hy,hh⟩:=ofP x hxP
  have hp':places=(pre++[x])++left:=by rw[hp];simp
  by_cases e:y.1=k
  ·obtain⟨k',p⟩:=y
   have e:k'=k:=e
   subst e
   rcases hb with⟨rfl,hno⟩ |⟨j,q,rfl,hj,hjx⟩
   ·refine h1 x p _ hxP hy ⟨rfl,.inl ⟨x,p,rfl,hy⟩⟩ ⟨rfl,rfl,pre++[x],hp',.inr ⟨x,p,rfl,by simp,hy⟩⟩
   ·exact absurd (JX hn hjx hy▸hj) hxn
  ·refine h2 x b2 y _ hxP hy hh e ⟨rfl,rfl,pre++[x],hp',?_⟩
   rcases hb with⟨rfl,hno⟩ |⟨j,q,rfl,hj,hjx⟩
   ·refine .inl ⟨rfl,fun j hj p z=> ?_⟩
    rcases List.mem_append.mp hj with hj |hj
    ·exact hno j hj p z
    ·rw[List.mem_singleton.mp hj,hy] at z
     cases z
     exact e rfl
   ·exact .inr ⟨j,q,rfl,List.mem_append_left _ hj,hjx⟩
 ·rintro⟨b1,b2⟩ s' ⟨rfl,rfl,pre,hp,hb⟩
  refine⟨rfl,.inr ⟨rfl,?_⟩⟩
  rcases hb with⟨rfl,hno⟩ |⟨j,q,rfl,hj,hjx⟩
  ·refine .inl ⟨rfl,fun j p z=>hno j ?_ p z⟩
   have:=inP j p z
   rw[hp,List.append_nil] at this
   exact this
  ·exact .inr ⟨j,q,rfl,hjx⟩
theorem FQ {d:Addr}{o:Obj}{es:Array DictEntry}{ep:Nat}{xs:List fk}{k:bc}{key:Value}{Q:Option Nat→Shared→Prop}(hu:A.units<cLine) (hkey:mIs P w s.heap k key) (ho:s.heap.get? d=some o) (hd:o.data=.dict es ep)
  (he:es.toList=xs.map (w5 P w)) (his: ∀x∈xs,mIs P w s.heap x.1 x.2.1) (hn:(xs.map (·.1)).Nodup) (hnone:(∀(j:Nat) (p:Value×Value),xs[j]? ≠some (k,p))→Q none s) (hsome: ∀(j:Nat) (p:Value×Value),xs[j]? =some (k,p)→Q (some j) s):
  wpAny (model P w) A (dictFind d key (iJ P w k)) Q E s:=by
 have sz:=FK he
 have atE:=NE he
 generalize hpl:placesWithHash es.size (fun i=>es[i]?.map (·.hash)) (iJ P w k)=places
 have inP: ∀j p,xs[j]? =some (k,p)→j∈places:=fun j p hj=>by
  rw[←hpl]
  unfold placesWithHash
  refine List.mem_filter.mpr ⟨List.mem_range.mpr ?_,?_⟩
  ·rw[sz];exact(List.getElem?_eq_some_iff.mp hj).1
  ·show(es[j]?.map (·.hash)==some (iJ P w k))=true
   rw[atE j,hj];simp[w5]
 have ofP: ∀j∈places,∃y:fk,xs[j]? =some y∧iJ P w y.1=iJ P w k:=fun j hj=>by
  rw[←hpl] at hj
  unfold placesWithHash at hj
  obtain⟨h1,h2⟩:=List.mem_filter.mp hj
  have h1:=List.mem_range.mp h1
  rw[sz] at h1
  refine⟨xs[j],List.getElem?_eq_getElem h1,?_⟩
  have h2:(es[j]?.map (·.hash)==some (iJ P w k))=true:=h2
  rw[atE j,List.getElem?_eq_getElem h1] at h2
  simpa [w5] using h2
 have ndP:places.Nodup:=by
  rw[←hpl]
  exact List.filter_sublist.nodup List.nodup_range
 have plain:wpAny (model P w) A (dictWalkPlain d key (iJ P w k) es places) Q E s:=by
  unfold dictWalkPlain
  refine wpAny_bind (wpAny_forIn_list _ (fun left b s'=>s'=s∧b=(none,())∧ ∃pre,places=pre++left∧ ∀j∈pre,∀p,xs[j]? ≠some (k,p)) _ ?_ ?_ _ _ ⟨rfl,rfl,[],rfl,by simp⟩)
  ·rintro x left b s' ⟨rfl,rfl,pre,hp,hno⟩
   obtain⟨⟨k',kv,v'⟩,hx,hh⟩:=ofP x (by rw[hp];simp)
   have hex:es[x]? =some ⟨iJ P w k',kv,v'⟩:=by rw[atE x,hx];rfl
   rw[hex]
   dsimp only
   rw[if_pos (by rw[hh];simp)]
   refine wpAny_bind (wpAny_dictEpoch ho hd (wpAny_bind (LR (x:=k') (y:=k) hu (his _ (List.mem_of_getElem? hx)) hkey (wpAny_bind (wpAny_dictEpoch ho hd ?_)))))
   show wpAny (model P w) A (if(ep !=ep)=true then _ else _) _ E s'
   rw[if_neg (by simp)]
   by_cases hkk:k'=k
   ·rw[decide_eq_true hkk]
    subst hkk
    exact wpAny_bind (wpAny_rule (wpAny_pure (wpAny_pure (hsome x _ hx))))
   ·rw[decide_eq_false hkk]
    refine wpAny_bind (wpAny_rule (wpAny_pure ⟨rfl,rfl,pre++[x],by rw[hp];simp,fun j hj p z=> ?_⟩))
    rcases List.mem_append.mp hj with hj |hj
    ·exact hno j hj p z
    ·rw[List.mem_singleton.mp hj,hx] at z
     cases z
     exact hkk rfl
  ·rintro b s' ⟨rfl,rfl,pre,hp,hno⟩
   refine wpAny_pure (hnone fun j p z=>hno j ?_ p z)
   have:=inP j p z
   rw[hp,List.append_nil] at this
   exact this
 have hst: ∀v∈places.filterMap (fun i=>es[i]?.map (·.key)),∃k',mIs P w s.heap k' v:=fun v hv=>by
  obtain⟨i,hi,hv⟩:=List.mem_filterMap.mp hv
  obtain⟨y,hy,_⟩:=ofP i hi
  rw[atE i,hy] at hv
  cases hv
  exact⟨_,his y (List.mem_of_getElem? hy)⟩
 unfold dictFind
 with_reducible refine wpAny_holding ?_
 refine wpAny_bind (wpAny_dictEntries ho hd ?_)
 dsimp only
 rw[hpl]
 generalize hstd:places.filterMap (fun i=>es[i]?.map (·.key))=stored at hst⊢
 have byStr: ∀z t,key=.str z t→(es.all fun e=>isExactStrKey e.key)=true→wpAny (model P w) A (foundByValue d key es z) Q E s:=by
  rintro z t rfl -
  have ek:k=.inl (.inr z):=by
   cases k with
   |inl k=>
    rcases hkey.flat with⟨i,t',e,_⟩ |⟨z',t',e,e2⟩
    ·cases e
    ·cases e;rw[e2]
   |inr ks=>obtain⟨a,e,_⟩:=hkey;cases e
  have isk: ∀(j:Nat) (y:fk),xs[j]? =some y→y.2.1.isStr z=true→y.1=k:=fun j y hy hz=>by
   have h3:=his y (List.mem_of_getElem? hy)
   refine mIs.inj h3 ?_
   rw[ek]
   cases hv:y.2.1 with
   |str z' t'=>
    rw[hv] at hz
    have:z'=z:=by simpa [Value.isStr] using hz
    rw[this]
    exact wn P w z t'
   |_=>rw[hv] at hz;cases hz
  have kis: ∀(j:Nat) (p:Value×Value),xs[j]? =some (k,p)→p.1.isStr z=true:=fun j p hj=>by
   have h3:mIs P w s.heap k p.1:=his _ (List.mem_of_getElem? hj)
   rw[ek] at h3
   rcases h3.flat with⟨i,t',_,e⟩ |⟨z',t',e,e2⟩
   ·cases e
   ·cases e2
    rw[e]
    simp[Value.isStr]
  unfold foundByValue
  cases hf:es.findIdx? (fun e=>e.key.isStr z) with
  |none=>
   refine wpAny_pure (hnone fun j p hj=> ?_)
   have hall:=Array.findIdx?_eq_none_iff.mp hf
   have h4:es[j]? =some (w5 P w (k,p)):=by rw[atE j,hj];rfl
   have h5:=hall _ (Array.mem_of_getElem? h4)
   have h6:p.1.isStr z=false:=by simpa [w5] using h5
   rw[kis j p hj] at h6
   cases h6
  |some i=>
   obtain⟨hlt,hi,_⟩:=Array.findIdx?_eq_some_iff_getElem.mp hf
   have hx:xs[i]? =some (xs[i]'(by rw[←sz];exact hlt)):=List.getElem?_eq_getElem _
   generalize xs[i]'(by rw[←sz];exact hlt)=y at hx
   have hex:es[i]? =some (w5 P w y):=by rw[atE i,hx];rfl
   have hi2:y.2.1.isStr z=true:=by
    rw[Array.getElem?_eq_getElem hlt] at hex
    rw[Option.some.inj hex] at hi
    exact hi
   have hy:=isk i y hx hi2
   obtain⟨k',p⟩:=y
   have hy:k'=k:=hy
   subst hy
   dsimp only
   rw[hex]
   dsimp only
   refine wpAny_bind (wpAny_dictEpoch ho hd (wpAny_bind (LR (x:=k') (y:=k') hu (his _ (List.mem_of_getElem? hx)) hkey (wpAny_bind (wpAny_dictEpoch ho hd ?_)))))
   rw[if_neg (by simp),if_pos (decide_eq_true rfl)]
   exact wpAny_bind (wpAny_rule (wpAny_pure (hsome i p hx)))
 have notRef: ∀a,key=.ref a→ ¬(es.any fun e=>e.key==key && e.hash !=iJ P w k)=true:=by
  intro a ea
  rw[←Array.any_toList,he,List.any_eq_true]
  rintro⟨e,hin,hc⟩
  obtain⟨y,hy,rfl⟩:=List.mem_map.mp hin
  simp only[w5,Bool.and_eq_true,beq_iff_eq,bne_iff_ne,ne_eq] at hc
  have h3:=his y hy
  rw[hc.1] at h3
  exact hc.2 (by rw[h3.inj hkey])
 by_cases hall:((key::stored).all carriedByValue)=true
 ·rw[if_pos hall]
  split
  ·rename_i z t
   split
   ·rename_i hz
    exact byStr z t rfl hz
   ·exact plain
  ·exact plain
 ·rw[if_neg hall]
  have kinds:(∃i t,key=.int i t)∨(∃z t,key=.str z t)∨ ∃a,key=.ref a:=by
   cases k with
   |inl k=>
    rcases hkey.flat with⟨i,t,e,_⟩ |⟨z,t,e,_⟩
    ·exact .inl ⟨i,t,e⟩
    ·exact .inr (.inl ⟨z,t,e⟩)
   |inr ks=>
    obtain⟨a,e,_⟩:=hkey
    exact .inr (.inr ⟨a,e⟩)
  have same1: ∀(x:Nat) (p:Value×Value),xs[x]? =some (k,p)→ ∃e,es[x]? =some e∧e.hash=iJ P w k∧mIs P w s.heap k e.key:=fun x p hx=>⟨_,by rw[atE x,hx];rfl,rfl,his _ (List.mem_of_getElem? hx)⟩
  have same2: ∀(x:Nat) (y:fk),xs[x]? =some y→ ∃e,es[x]? =some e∧e.hash=iJ P w y.1∧mIs P w s.heap y.1 e.key:=fun x y hx=>⟨_,by rw[atE x,hx];rfl,rfl,his _ (List.mem_of_getElem? hx)⟩
  rcases kinds with⟨i,t,e⟩ |⟨z,t,e⟩ |⟨a,e⟩
  case' inl=>subst e;dsimp only
  case' inr.inl=>
   subst e;dsimp only
   by_cases hz:(es.all fun e=>isExactStrKey e.key)=true
   case pos=>rw[if_pos hz];exact byStr z t rfl hz
   case' neg=>rw[if_neg hz]
  case' inr.inr=>subst e;dsimp only;rw[if_neg (notRef a rfl)]
  all_goals
   refine PP (fun _=>wpAny_bind (wpAny_pure ?_)) (fun _=>wpAny_bind (LQ hkey hst ?_))
  all_goals
   rw[if_neg (by simp)]
   refine wpAny_bind (wpAny_mono (NC (P:=P) (w:=w) hn inP ofP ndP _ ?_ ?_) (fun b s' z=> ?_) fun _ _ z=>z)
  all_goals first
   |(obtain⟨b1,b2⟩:=b
     obtain⟨rfl,h⟩:=z
     rcases h with⟨j,p,e,hj⟩ |⟨e,h⟩
     ·cases e
      exact wpAny_pure (hsome j p hj)
     ·have e:b1=none:=e
      subst e
      rcases h with⟨e,h⟩ |⟨j,p,e,hj⟩<;>(have e:b2=_:=e;subst e)
      ·exact wpAny_pure (hnone h)
      ·exact wpAny_pure (hsome j p hj))
   |(intro x p R hxP hx r1 r2
     obtain⟨e,he1,he2,he3⟩:=same1 x p hx
     rw[he1];dsimp only
     rw[if_pos (by rw[he2];simp)]
     refine wpAny_bind (wpAny_dictEpoch ho hd (wpAny_bind (LR (x:=k) (y:=k) hu he3 hkey (wpAny_bind (wpAny_dictEpoch ho hd ?_)))))
     rw[if_neg (by simp),if_pos (decide_eq_true rfl),if_neg (by simp)]
     refine wpAny_bind (wpAny_rule ?_)
     split
     ·exact wpAny_pure r1
     ·exact wpAny_pure r2)
   |(intro x hit y R hxP hx hh hne r
     obtain⟨e,he1,he2,he3⟩:=same2 x y hx
     rw[he1];dsimp only
     rw[if_pos (by rw[he2,hh];simp)]
     refine wpAny_bind (wpAny_dictEpoch ho hd (wpAny_bind (LR (x:=y.1) (y:=k) hu he3 hkey (wpAny_bind (wpAny_dictEpoch ho hd ?_)))))
     rw[if_neg (by simp),if_neg (by simp[hne])]
     refine wpAny_bind (wpAny_rule ?_)
     rw[if_neg (by simp)]
     exact wpAny_pure r)
end
end L2
namespace L2
open PySem PySem.W PyProof.Rows
section
variable {P:Program}{w:World}{A:Around}{E:Value→Shared→Prop}{s:Shared}
theorem CF {β:Type}{xs:List (bc×β)}(hn:(xs.map (·.1)).Nodup) {j:Nat}{k:bc}{p:β}(hj:xs[j]? =some (k,p)):xs.find? (fun x=>decide (x.1=k))=some (k,p):=by
 rw[List.find?_eq_some_iff_append]
 obtain⟨hlt,e⟩:=List.getElem?_eq_some_iff.mp hj
 refine⟨decide_eq_true rfl,xs.take j,xs.drop (j+1),?_,fun y hy=> ?_⟩
 ·rw[←e,List.getElem_cons_drop,List.take_append_drop]
 ·obtain⟨i,hi⟩:=List.mem_iff_getElem?.mp hy
  have hij:i<j:=by
   have:=(List.getElem?_eq_some_iff.mp hi).1
   rw[List.length_take] at this;omega
  rw[List.getElem?_take_of_lt hij] at hi
  have:y.1≠k:=fun z=>by
   have e1:(xs.map (·.1))[i]? =some k:=by rw[List.getElem?_map,hi,←z];rfl
   have e2:(xs.map (·.1))[j]? =some k:=by rw[List.getElem?_map,hj];rfl
   have:=(List.getElem?_inj (List.getElem?_eq_some_iff.mp e1).1 hn).mp (e1.trans e2.symm)
   omega
  simp[this]
theorem vh {β:Type}{xs:List (bc×β)}{k:bc}(h: ∀(j:Nat) (p:β),xs[j]? ≠some (k,p)):xs.find? (fun x=>decide (x.1=k))=none:=by
 rw[List.find?_eq_none]
 intro x hx hk
 obtain⟨j,hj⟩:=List.mem_iff_getElem?.mp hx
 have hk:x.1=k:=of_decide_eq_true hk
 exact h j x.2 (by rw[hj,←hk])
structure fh (P:Program) (w:World) (h:Heap) (d:Addr) (ys:List fk):Prop where
 ok: ∃o es ep,h.get? d=some o∧o.ExactDict∧o.data=.dict es ep∧es.toList=ys.map (w5 P w)
 nd:(ys.map (·.1)).Nodup
def bu {β γ:Type}(ys:List (bc×β×γ)) (k:bc):Option γ:=(ys.find? fun y=>decide (y.1=k)).map (·.2.2)
def cn {β γ:Type}(ys:List (bc×β×γ)) (k:bc) (key:β) (v:γ):List (bc×β×γ):=
 if(bu ys k).isSome then ys.map fun y=>if y.1=k then(y.1,y.2.1,v) else y else ys++[(k,key,v)]
theorem Mx {d:Addr}{ys:List fk}{k:bc}{key:Value}{Q:Option Value→Shared→Prop}(hu:A.units<cLine) (hkey:mIs P w s.heap k key) (hm:fh P w s.heap d ys) (his: ∀x∈ys,mIs P w s.heap x.1 x.2.1)
  (q:Q (bu ys k) {s with toks:=s.toks+dh k}):wpAny (model P w) A (dictGet d key) Q E s:=by
 obtain⟨o,es,ep,ho,hc,hd,he⟩:=hm.ok
 unfold dictGet
 with_reducible refine wpAny_holding ?_
 refine wpAny_bind (FO hu hkey (wpAny_bind (FQ (s:={s with toks:=s.toks+dh k}) hu hkey ho hd he his hm.nd (fun no=> ?_) fun j p hj=> ?_)))
 ·unfold bu at q
  rw[vh no] at q
  exact wpAny_pure q
 ·unfold bu at q
  rw[CF hm.nd hj] at q
  refine wpAny_bind (wpAny_dictEntries (s:={s with toks:=s.toks+dh k}) ho hd ?_)
  rw[NE he j,hj]
  exact wpAny_pure q
theorem ND {β γ:Type}(ys:List (bc×β×γ)) (k:bc) (v:γ):(ys.map fun y=>if y.1=k then(y.1,y.2.1,v) else y).map (·.1)=ys.map (·.1):=by
 rw[List.map_map]
 refine List.map_congr_left fun y _=> ?_
 show(if y.1=k then(y.1,y.2.1,v) else y).1=y.1
 split<;>rfl
theorem OZ {d:Addr}{ys:List fk}{k:bc}{key v:Value}{Q:Unit→Shared→Prop}(hu:A.units<cLine) (hkey:mIs P w s.heap k key) (hm:fh P w s.heap d ys) (his: ∀x∈ys,mIs P w s.heap x.1 x.2.1) (hz:ys.length<sizeLine)
  (q: ∀h',fh P w h' d (cn ys k key v)→Heap.SameBut d s.heap h'→Q () {s with heap:=h',toks:=s.toks+dh k}):wpAny (model P w) A (dictSet d key v) Q E s:=by
 obtain⟨o,es,ep,ho,hc,hd,he⟩:=hm.ok
 unfold dictSet
 with_reducible refine wpAny_holding ?_
 refine wpAny_bind (FO hu hkey ?_)
 unfold dictSetHashed
 with_reducible refine wpAny_holding ?_
 refine wpAny_bind (FQ (s:={s with toks:=s.toks+dh k}) hu hkey ho hd he his hm.nd (fun no=> ?_) fun j p hj=> ?_)
 ·have e1:cn ys k key v=ys++[(k,key,v)]:=by
   unfold cn bu
   rw[vh no];rfl
  have nk:k∉ys.map (·.1):=fun z=>by
   obtain⟨y,hy,e⟩:=List.mem_map.mp z
   obtain⟨j,hj⟩:=List.mem_iff_getElem?.mp hy
   exact no j y.2 (by rw[hj,←e])
  rw[e1] at q
  refine wpAny_bind (wpAny_rule (wpAny_updateDictKeys (hz:=by have:=FK he;omega) (s:={s with toks:=s.toks+dh k}) ho hd (q _ ⟨⟨_,_,ep+1,Heap.get?_update_self _ ho (Obj.isFreed_of_dict (Obj.data_mapDictKeys hd _)),hc.mapDictKeys _,Obj.data_mapDictKeys hd _,?_⟩,?_⟩ (Heap.SameBut.update ..))))
  ·rw[Array.toList_push,he,List.map_append];rfl
  ·rw[List.map_append,List.nodup_append]
   refine⟨hm.nd,by simp,fun a ha b hb e=>nk ?_⟩
   have hb:b=k:=List.mem_singleton.mp hb
   rw[←hb,←e];exact ha
 ·have e1:cn ys k key v=ys.map fun y=>if y.1=k then(y.1,y.2.1,v) else y:=by
   unfold cn bu
   rw[CF hm.nd hj];rfl
  rw[e1] at q
  refine wpAny_bind (wpAny_rule (wpAny_bind (wpAny_updateDict (s:={s with toks:=s.toks+dh k}) ho hd (wpAny_point (q _ ⟨⟨_,_,ep,Heap.get?_update_self _ ho (Obj.isFreed_of_dict (Obj.data_mapDict hd _)),hc.mapDict _,Obj.data_mapDict hd _,?_⟩,by rw[ND];exact hm.nd⟩ (Heap.SameBut.update ..))))))
  rw[Array.toList_modify,he]
  refine List.ext_getElem? fun i=> ?_
  rw[List.getElem?_modify,List.getElem?_map,List.getElem?_map,List.getElem?_map]
  cases hi:ys[i]? with
  |none=>by_cases e:j=i<;>simp[e]
  |some y=>
   by_cases e:j=i
   ·subst e
    rw[hj] at hi
    cases hi
    simp[w5]
   ·have:y.1≠k:=fun z=>e (JX hm.nd hj (q:=y.2) (by rw[hi,←z]))
    simp[e,this]
theorem fh.type {d:Addr}{ys:List fk}(hm:fh P w s.heap d ys):s.TypeIs (.ref d) "dict":=let⟨o,_,_,ho,hc,_⟩:=hm.ok;⟨o,ho,hc.1⟩
theorem fh.bare {d:Addr}{ys:List fk}(hm:fh P w s.heap d ys): ∀b,Value.ref d=.ref b→ ∃ob,s.heap.get? b=some ob∧ob.dict=none:=fun b e=>by
 cases e
 obtain⟨o,_,_,ho,hc,_⟩:=hm.ok
 exact⟨o,ho,hc.2.1⟩
theorem FF (d:Addr) (key dflt:Value) (hd:(d==sysModules)=false):MeetsIn P w (Builtin.«dict.get» ⟨[.ref d,key,dflt],[]⟩)
  (fun A R s=>A.in1.units<cLine∧ ∃k ys,mIs P w s.heap k key∧fh P w s.heap d ys∧(∀x∈ys,mIs P w s.heap x.1 x.2.1)∧R (.ok (.ret ((bu ys k).getD dflt))) {s with toks:=s.toks+dh k}):=
 .of_wp fun A R s ⟨hu,k,ys,hk,hm,hi,h⟩=>by
  show wpAny (model P w) _ (dictGet d key>>=_) _ _ s
  refine wpAny_bind (Mx hu hk hm hi ?_)
  cases hv:bu ys k with
  |some v=>
   rw[hv] at h
   exact wpAny_pure ⟨v,rfl,h⟩
  |none=>
   rw[hv] at h
   exact wpAny_bind (wpAny_missed_other hd (wpAny_pure ⟨dflt,rfl,h⟩))
theorem Hw {d:Addr}{ys:List fk}{k:bc}{key v:Value}{Q:Unit→Shared→Prop}(hu:A.in1.units<cLine) (hkey:mIs P w s.heap k key) (hm:fh P w s.heap d ys) (his: ∀x∈ys,mIs P w s.heap x.1 x.2.1) (hz:ys.length<sizeLine)
  (q: ∀h',fh P w h' d (cn ys k key v)→Heap.SameBut d s.heap h'→Q () {s with heap:=h',toks:=s.toks+dh k}):wpAny (model P w) A (setItem (.ref d) key v) Q E s:=by
 unfold setItem
 with_reducible refine wpAny_holding ?_
 refine wpAny_bind (wpAny_sequenceKey hm.type (by decide) (wpAny_bind (wpAny_callSpecial?_slot (name:=Str.ofString "__setitem__") hm.type slot_dict_setitem (wpAny_call_entry slot_dict_setitem hm.type entry_dict_setitem ?_ (args_dict_setitem _ _ _)))))
 show wpAny (model P w) _ (Builtin.Dict.notOrdered "__setitem__" ⟨[.ref d,key,v],[]⟩>>=_) _ _ s
 refine wpAny_bind (wpAny_notOrdered_dict hm.type ?_)
 show wpAny (model P w) A.in1 (dictSet d key v>>=_) _ _ s
 exact wpAny_bind (OZ hu hkey hm his hz fun h' h1 h2=>wpAny_pure ⟨.none,rfl,wpAny_pure (q h' h1 h2)⟩)
end
abbrev aW:=bc×V×V
def wg (xs:List aW) (ys:List fk):Prop:=Paired (fun(p:aW) (q:fk)=>p.1=q.1∧aZ p.2.1 q.2.1∧aZ p.2.2 q.2.2) xs ys
abbrev dM (P:Program) (w:World) (d:Addr) (xs:List aW):HO:=.ext fun h=>(d==sysModules)=false∧ ∃ys,wg xs ys∧fh P w h d ys
def cq (K:PySem.W.Frag) (H:Hp) (k:bc) (v:V):Prop:=match k with
 | .inl k=>v=kV k
 | .inr ks=> ∃a,v=.ref a∧SqT K H a (ks.map kV)
def e7 (K:PySem.W.Frag) (H:Hp) (xs:List aW):Prop:= ∀x∈xs,cq K H x.1 x.2.1
theorem fh.keep {P:Program}{w:World}{h1 h2:Heap}{d:Addr}{ys:List fk}(m:fh P w h1 d ys) (k: ∀o,h1.get? d=some o→h2.get? d=some o):fh P w h2 d ys:=
 let⟨o,es,ep,e,r⟩:=m.ok;⟨⟨o,es,ep,k o e,r⟩,m.nd⟩
theorem Kj {P:Program}{w:World}{H:Hp}{h:Heap}{d:Addr}{xs:List aW}{ys:List fk}(hd:(d==sysModules)=false) (r:wg xs ys) (m:fh P w h d ys):cp P w H h d (dM P w d xs):=
 ⟨⟨hd,ys,r,m⟩,let⟨o,_,_,e,_⟩:=m.ok;⟨o,e⟩,fun _ _ ⟨h1,ys,h2,h3⟩ k=>⟨h1,ys,h2,h3.keep k⟩⟩
theorem cq.is {X:Cx}{pins:List (Addr×Obj)}{σ:St}{H:Hp}{s:Shared}(I:Inv X pins σ H s) {k:bc}{v:V}{u:Value}(h:cq X.K H k v) (r:aZ v u):mIs X.prog X.w s.heap k u:=by
 cases k with
 |inl k=>
  have h:v=kV k:=h
  subst h
  exact t5 r
 |inr ks=>
  obtain⟨a,rfl,hT⟩:=h
  cases r
  obtain⟨its,rv,⟨o,e,c,n,d⟩,_⟩:=I.tuple hT
  exact⟨a,rfl,o,_,n,e,c,d,vA rv⟩
theorem wg.keys {X:Cx}{pins:List (Addr×Obj)}{σ:St}{H:Hp}{s:Shared}(I:Inv X pins σ H s): ∀{xs:List aW}{ys:List fk},wg xs ys→e7 X.K H xs→ ∀y∈ys,mIs X.prog X.w s.heap y.1 y.2.1
 |_,_,.nil,_,y,hy=>nomatch hy
 |_,_,.cons (a:=p) r t,k,y,hy=>by
  rcases List.mem_cons.mp hy with rfl |hy
  ·rw[←r.1]
   exact(k p List.mem_cons_self).is I r.2.1
  ·exact wg.keys I t (fun x hx=>k x (List.mem_cons_of_mem _ hx)) y hy
theorem wg.val: ∀{xs:List aW}{ys:List fk},wg xs ys→ ∀k,mh (bu xs k) (bu ys k)
 |_,_,.nil,_=>True.intro
 |p::xs,q::ys,.cons r t,k=>by
  unfold bu
  rw[List.find?_cons,List.find?_cons,←r.1]
  by_cases e:p.1=k
  ·rw[decide_eq_true e]
   exact r.2.2
  ·rw[decide_eq_false e]
   exact wg.val t k
theorem wg.put {xs:List aW}{ys:List fk}(h:wg xs ys) {k:bc}{kv v:V}{ku u:Value}(rk:aZ kv ku) (rv:aZ v u):wg (cn xs k kv v) (cn ys k ku u):=by
 have hs:(bu xs k).isSome=(bu ys k).isSome:=(h.val k).isSome_eq
 unfold cn
 rw[hs]
 split
 ·rename_i hc
  clear hs hc
  induction h with
  |nil=>exact .nil
  | @cons p q ps qs r t ih=>
   refine .cons ?_ ih
   dsimp only
   rw[←r.1]
   by_cases e:p.1=k
   ·rw[if_pos e,if_pos e];exact⟨rfl,r.2.1,rv⟩
   ·rw[if_neg e,if_neg e];exact r
 ·rename_i hc
  clear hs hc
  induction h with
  |nil=>exact .cons ⟨rfl,rk,rv⟩ .nil
  |cons r t ih=>exact .cons r ih
theorem wg.len {xs:List aW}{ys:List fk}(h:wg xs ys):xs.length=ys.length:=Paired.length h
section
variable {X:Cx}{P:Program}{w:World}{o e f:Expr}{pos apos cpos:Pos}{td ty tx:TE}
def MT (P:Program) (w:World):TE:=fun _ H Q=> ∀p,H p=none→Q (.ref p) (upd H p (dM P w p []))
theorem Ej (hP:X.prog=P:=by rfl) (hw:X.w=w:=by rfl):PE X (.Dict [] [] pos) (MT P w):=fun pins s σ H Q I h=>by
 subst hP hw
 refine wpAny_Dict_empty ⟨.ref s.heap.objs.size,_,I.laid (a:=s.heap.objs.size) (o:=dM X.prog X.w s.heap.objs.size []) (t':=s.toks) (fun _ _ q=>Heap.get?_push_of_some _ q) (Nat.le_refl _) ?_,rfl,h _ (I.hok.fresh (Nat.le_refl _))⟩
 exact Kj (ys:=[]) (beq_eq_false_iff_ne.mpr fun z=>absurd (z▸I.big) (Nat.lt_irrefl _)) .nil ⟨⟨_,#[],0,Heap.get?_push_size _ rfl,⟨rfl,rfl,rfl⟩,rfl,rfl⟩,List.nodup_nil⟩
def MQ (K:PySem.W.Frag) (P:Program) (w:World) (td ty tx:TE):TE:=fun σ H Q=>td σ H fun x H1=> ∃a xs0,x=.ref a∧H1 a=some (dM P w a xs0)∧ty σ H1 fun y H2=>tx σ H2 fun z H3=> ∃xs k,H3 a=some (dM P w a xs)∧e7 K H3 xs∧cq K H3 k y∧Q ((bu xs k).getD z) H3
theorem yc (K:PySem.W.Frag) (hK:X.K=K) (hu:X.A.units+1<cLine) (ho:PE X o td) (he:PE X e ty) (hf:PE X f tx) (m:M2 X o "get" apos e f cpos) (hP:X.prog=P:=by rfl) (hw:X.w=w:=by rfl):
  PE X (.Call (.Attribute o "get" apos) [e,f] [] cpos) (MQ K P w td ty tx):=by
 subst hP hw hK
 intro pins s σ H Q I h
 refine wpAny_Call_method m.base m.few m.line PySem.F.plainAttrs_dict PySem.F.slot_dict_get PySem.F.type_dict_get (thn (ho pins s σ H _ I h) fun u s1 ⟨x,H1,I1,rx,a,xs0,ex,d,q1⟩=> ?_)
 subst ex
 cases (show u=Value.ref a from rx)
 obtain⟨⟨_,ys0,_,m0⟩,_⟩:=I1.hok a _ d
 refine⟨m0.type,m0.bare,?_⟩
 rw[m.trees]
 refine Calls.callWith_builtin rfl (Calls.evalArgs_plain (Calls.spliced_cons (thn (he pins s1 σ H1 _ I1 q1) fun iv s2 ⟨y,H2,I2,ry,q2⟩=>Calls.spliced_cons (thn (hf pins s2 σ H2 _ I2 q2) fun fv s3 ⟨z,H3,I3,rz,xs,k,d3,ks,hk,q3⟩=>Calls.spliced_nil ?_))))
 obtain⟨⟨hd,ys,rel,m3⟩,_⟩:=I3.hok a _ d3
 refine call_meetsIn PySem.F.slot_dict_get m3.type PySem.F.entry_dict_get (PySem.F.args_dict_get_3 _ _ _) (FF a iv fv hd) ⟨hu,k,ys,hk.is I3 ry,m3,rel.keys I3 ks,?_⟩
 exact⟨_,H3,I3.tok _,(rel.val k).getD rz,q3⟩
def OM (K:PySem.W.Frag) (P:Program) (w:World):KM:=fun o i v H Q=> ∃a xs k,o=.ref a∧H a=some (dM P w a xs)∧e7 K H xs∧cq K H k i∧xs.length<sizeLine∧Q (upd H a (dM P w a (cn xs k i v)))
theorem Jt (K:PySem.W.Frag) (hK:X.K=K) (hu:X.A.units+1<cLine) (hP:X.prog=P:=by rfl) (hw:X.w=w:=by rfl):Mh X (OM K P w):=by
 subst hP hw hK
 intro pins s σ H o i v ov iv u Q I ro ri rv h
 obtain⟨a,xs,k,rfl,d,ks,hk,hz,q⟩:=h
 cases ro
 obtain⟨⟨hd,ys,rel,m⟩,_⟩:=I.hok a _ d
 refine Hw hu (hk.is I ri) m (rel.keys I ks) (by rw[←rel.len];exact hz) fun h' m' sb=> ?_
 refine⟨_,uj I (by rw[d];exact True.intro) sb (let⟨o,_,_,e,_⟩:=m'.ok;⟨o,e⟩) ?_,q⟩
 exact Kj hd (rel.put ri rv) m'
end
end L2
namespace L2
open PySem PySem.W PyProof.Rows
section
variable {X:Cx}{o e value:Expr}{f:Str}{pos pos':Pos}{ta tv:TE}
theorem aU (K:PySem.W.Frag) (hK:X.K=K) (he:PE X e ta) (hb:attributeBase e f X.env (eval e X.env)=eval e X.env:=by rfl):PE X (.Attribute e f pos) (OB K ta f):=by subst hK;exact Nm he hb
theorem bV (K:PySem.W.Frag) (hK:X.K=K) (ha:PE X o ta) (hv:PE X value tv) (hs:swapsWith value (some (.Attribute o f pos')) pos.line X.env=pure false:=by rfl):PS X (.Assign [.Attribute o f pos'] value pos) (OK K ta tv f):=by
 subst hK;exact Nd ha hv hs
def OO:KM:=fun o i v H Q=> ∃a kvs k,o=.ref a∧i=kV k∧H a=some (.dK kvs)∧kvs.length<sizeLine∧Q (upd H a (.dK (gv kvs k v)))
theorem Co (hu:X.A.units+1<cLine):Mh X OO:=by
 intro pins s σ H o i v ov iv u Q I ro ri rv h
 obtain⟨a,kvs,k,rfl,rfl,d,hz,q⟩:=h
 cases ro
 exact HX hu I (Ml.k d hz) ri rv fun s' I'=>⟨_,I',q⟩
end
end L2
namespace L2
open PySem PySem.W PyProof.Rows
section
variable {P:Program}{w:World}{A:Around}{E:Value→Shared→Prop}{s:Shared}
theorem J9 {r:Addr}{Q:Bool→Shared→Prop}(ty:s.TypeIs (.ref r) "list_reverseiterator") (q:Q false s):wpAny (model P w) A (Builtin.List.listLengthHint (.ref r)) Q E s:=by
 unfold Builtin.List.listLengthHint
 refine wpAny_bind (wpAny_specialOf (r:=none) ty (by rw[typeLookup_type,builtinLookup_eq_fast];kernel_rfl) ?_)
 refine wpAny_ite_split (fun z=>absurd z (by decide+kernel)) (fun _=> ?_)
 refine wpAny_ite_split (fun z=>absurd z (by decide)) (fun _=> ?_)
 refine wpAny_bind (wpAny_specialOf (r:=some (.builtin "list_reverseiterator.__length_hint__")) ty (by rw[typeLookup_type,builtinLookup_eq_fast];kernel_rfl) ?_)
 generalize hid:("list_reverseiterator.__length_hint__":String)=nm
 wp_delta
 rw[show splitId nm=some ("list_reverseiterator","__length_hint__") from by subst hid;decide+kernel]
 subst hid
 refine wpAny_bind (wpAny_isInstance (T:="list_reverseiterator") (b:=true) ty (by rw[isSubtype_type];kernel_rfl) ?_)
 refine wpAny_ite_split (fun z=>absurd z (by decide)) (fun _=> ?_)
 refine wpAny_ite_split (fun _=> ?_) (fun z=>absurd (by decide+kernel) z)
 refine wpAny_ite_split (fun z=>absurd z (by decide+kernel)) (fun _=> ?_)
 exact wpAny_pure q
theorem Fp {r l S:Addr}{items:Array Value}{R:Result→Shared→Prop}(hh:A.handled=none) (it:s.heap.IsRevIter r l ((items.size:Int)-1)) (hl:s.heap.IsList l items) (hn:items.size≤sizeLine) (hlr:l≠r) (hSr:S≠r) (hSl:S≠l) (res:Value) (c0:Nat)
  (hS:s.heap.get? S=some {cls:=.type "list",data:=.seq #[] c0})
  (q: ∀h' tk acc c,(∀b o,b≠S→b≠r→s.heap.get? b=some o→h'.get? b=some o)→h'.get? S=some {cls:=.type "list",dict:=none,data:=.seq acc c,slots:= #[]}→ItemsOf (fun i v=>items[items.size-1-i]? =some v) acc items.size→R (.ok (.ret res)) {s with heap:=h',toks:=tk}):
  wpAny (model P w) A.in1 (Builtin.List.listExtendWith (.ref S) (.ref r) res) (fun fin s'=>match fin with | .done f=>R (.ok f) s' | .again c'=>c'.quiet=true∧codeAny (model P w) A c' R s') (fun e s'=>R (.error e) s') s:=by
 have W:=Walks.listRev (prog:=P) (w:=w) (A:=A.in1) hh r l hlr items
 have go: ∀(h:Heap) (c1 tk:Nat),h.IsRevIter r l ((items.size:Int)-1)→h.IsList l items→(∀b o,b≠S→s.heap.get? b=some o→h.get? b=some o)→h.get? S=some {cls:=.type "list",data:=.seq #[] c1}→
   codeAny (model P w) A (.builtin "list.extend.loop" ⟨[.ref S,.ref r,res],[]⟩) R {s with heap:=h,toks:=tk}:=by
  intro h c1 tk it1 l1 k1 s1
  refine codeAny_extend_loopS W.toS hn S (by simp[hSr,hSl]) res items.size 0 _ #[] c1 rfl (Nat.zero_le _) ⟨Nat.zero_le _,by simpa using it1,l1⟩ s1 (ItemsOf.nil _) fun s' acc c mv sS iA=> ?_
  rw[Moved.eq_with mv]
  refine q s'.heap s'.toks acc c (fun b o b1 b2 e=>mv.heap b o (fun m=> ?_) (k1 b o b1 e)) sS iA
  rcases List.mem_cons.mp m with z |z
  ·exact b1 z
  ·exact b2 (List.mem_singleton.mp z)
 unfold Builtin.List.listExtendWith
 refine wpAny_bind (wpAny_typeOf it.typeIs ?_)
 have ne:Builtin.List.listSameRef (.ref S) (.ref r)=false:=by simp[Builtin.List.listSameRef,hSr]
 have nl:(Value.type "list_reverseiterator"==Value.type "list")=false:=by decide
 have nt:(Value.type "list_reverseiterator"==Value.type "tuple")=false:=by decide
 simp only[ne,nl,nt,Bool.or_false,Bool.false_eq_true,if_false]
 refine wpAny_bind (wpAny_pyIter_revIter it (wpAny_bind (wpAny_holding (J9 it.typeIs ?_))))
 refine wpAny_ite_split (fun z=>absurd z (by decide+kernel)) (fun _=>wpAny_pure ⟨plainId_quiet PySem.F.plain_extend_loop _,go s.heap c0 s.toks it hl (fun _ _ _ e=>e) hS⟩)
theorem Jv {r l:Addr}{items:Array Value}{Q:Value→Shared→Prop}(hh:A.handled=none) (it:s.heap.IsRevIter r l ((items.size:Int)-1)) (hl:s.heap.IsList l items) (hn:items.size≤sizeLine) (hlr:l≠r)
  (q: ∀h' tk acc c,(∀b o,b≠r→s.heap.get? b=some o→h'.get? b=some o)→h'.get? s.heap.objs.size=some {cls:=.type "list",dict:=none,data:=.seq acc c,slots:= #[]}→ItemsOf (fun i v=>items[items.size-1-i]? =some v) acc items.size→Q (.ref s.heap.objs.size) {s with heap:=h',toks:=tk}):
  wpAny (model P w) A (call (.type "list") [.ref r]) Q E s:=by
 refine callType_codes (Q₁:=fun obj s1=>obj=.ref s.heap.objs.size∧s1={s with heap:=s.heap.push {cls:=.type "list",data:=.seq #[]}}) PySem.F.called_list (PySem.F.typeCall_list_1 _) PySem.F.entry_list_init (code_list_new _ ⟨rfl,rfl⟩) fun obj s1 z=> ?_
 obtain⟨rfl,rfl⟩:=z
 have new:(s.heap.push {cls:=.type "list",data:=.seq #[]}).get? s.heap.objs.size=some {cls:=.type "list",data:=.seq #[]}:=Heap.get?_push_size _ rfl
 obtain⟨oi,ei,ci,di⟩:=it
 have ir:s.heap.objs.size≠r:=Nat.ne_of_gt (Heap.lt_size ei)
 obtain⟨ol,el,cl,nl,dl⟩:=hl
 have il:s.heap.objs.size≠l:=Nat.ne_of_gt (Heap.lt_size el)
 refine⟨⟨_,new,rfl⟩,PySem.F.args_list_init_2 _ _,?_⟩
 show wpAny (model P w) _ (do let old ←Builtin.List.listItems (.ref s.heap.objs.size);Builtin.List.listUpdate (.ref s.heap.objs.size) (fun _=> #[]);letGo old.toList.reverse;Builtin.List.listExtendWith (.ref s.heap.objs.size) (.ref r) .none) _ _ _
 refine wpAny_bind ?_
 unfold Builtin.List.listItems
 refine wpAny_bind (wpAny_seqItems new rfl (wpAny_pure (wpAny_bind (wpAny_updateSeq new rfl (wpAny_bind (wpAny_letGo ?_))))))
 have new2:=Heap.get?_update_self (Obj.mapSeq (fun _=>(#[]:Array Value))) new rfl
 have keep: ∀b o,b≠s.heap.objs.size→s.heap.get? b=some o→((s.heap.push {cls:=.type "list",data:=.seq #[]}).update s.heap.objs.size (Obj.mapSeq (fun _=>(#[]:Array Value)))).get? b=some o:=fun b o hb e=>by
  rw[Heap.get?_update_other _ _ (Ne.symm hb)]
  exact Heap.get?_push_of_some _ e
 refine Fp (A:=A.in1) hh ⟨oi,keep _ _ (Ne.symm ir) ei,ci,di⟩ ⟨ol,keep _ _ (Ne.symm il) el,cl,nl,dl⟩ hn hlr ir il .none _ new2 fun h' tk acc c k2 sS iA=> ?_
 exact⟨rfl,q h' tk acc c (fun b o hb e=>k2 b o (Nat.ne_of_lt (Heap.lt_size e)) hb (keep b o (Nat.ne_of_lt (Heap.lt_size e)) e)) sS iA⟩
end
section
variable {X:Cx}{e:Expr}{te:TE}{p1 p2 pos1 pos2:Pos}
def Ov (K:PySem.W.Frag) (te:TE):TE:=fun σ H Q=>te σ H fun x H1=> ∃p xs,x=.ref p∧SqL K H1 p xs∧ ∀l,H1 l=none→Q (.ref l) (upd H1 l (.lst xs.reverse))
theorem Fs (K:PySem.W.Frag) (hK:X.K=K) (hc:X.calm=true) (g1:Gl X "list") (m1:X.mg "list"=none) (g2:Gl X "reversed") (m2:X.mg "reversed"=none) (he:PE X e te)
  (st1:starEach [.Call (.Name "reversed" p2) [e] [] pos2] X.env=[(false,eval (.Call (.Name "reversed" p2) [e] [] pos2) X.env)]:=by rfl) (st2:starEach [e] X.env=[(false,eval e X.env)]:=by rfl):
  PE X (.Call (.Name "list" p1) [.Call (.Name "reversed" p2) [e] [] pos2] [] pos1) (Ov K te):=by
 subst hK
 intro pins s σ H Q I h
 refine wpAny_Call_Name_kw (nJ I g1 m1 L2.vQ (callWith_type1 ?_ st1))
 rw[st1]
 show wpAny (model X.prog X.w) X.A (spliced [(false,eval (.Call (.Name "reversed" p2) [e] [] pos2) X.env)]) _ _ s
 refine Calls.spliced_cons (wpAny_Call_Name_kw (nJ I g2 m2 L2.Bc (callWith_type1 ?_ st2)))
 rw[st2]
 show wpAny (model X.prog X.w) X.A (spliced [(false,eval e X.env)]) _ _ s
 refine Calls.spliced_cons (thn (he pins s σ H _ I h) fun u s1 ⟨x,H1,I1,rx,p,xs,ex,hq,q⟩=>Calls.spliced_nil ?_)
 subst ex
 cases (show u=Value.ref p from rx)
 obtain⟨its,rv,⟨o,n,eo,co,dd,ds⟩,hz⟩:=I1.list hq
 have hl:s1.heap.IsList p its.toArray:=⟨o,eo,co,n,ds⟩
 refine call_reversed_list hl (Calls.spliced_nil ?_)
 have pr:p≠s1.heap.objs.size:=Nat.ne_of_lt (Heap.lt_size eo)
 have I2:Inv X pins σ H1 {s1 with heap:=s1.heap.push (revObj p ((its.toArray.size:Int)-1))}:=I1.kept (t':=s1.toks) fun b o e=>Heap.get?_push_of_some _ e
 refine Jv (r:=s1.heap.objs.size) (l:=p) (items:=its.toArray) (I.ok.hd hc) ⟨_,Heap.get?_push_size _ rfl,rfl,rfl⟩ ⟨o,Heap.get?_push_of_some _ eo,co,n,ds⟩ (by simpa [←rv.length] using hz) pr fun h' tk acc c kk sS iA=> ?_
 have hacc:acc.toList=its.reverse:=by
  refine List.ext_getElem? fun j=> ?_
  have hsz:acc.size=its.length:=by simpa using iA.1
  rcases Nat.lt_or_ge j its.length with hj |hj
  ·have e1:acc[j]? =some (acc[j]'(by omega)):=Array.getElem?_eq_getElem _
   have e2:=iA.2 j _ e1
   rw[Array.getElem?_toList,e1,List.getElem?_reverse hj]
   simpa using e2.symm
  ·rw[List.getElem?_eq_none (by simpa [hsz] using hj),List.getElem?_eq_none (by simpa using hj)]
 have I3:=I2.laid (a:=(s1.heap.push (revObj p ((its.toArray.size:Int)-1))).objs.size) (o:=.lst xs.reverse) (h':=(s1.heap.push (revObj p ((its.toArray.size:Int)-1))).push {cls:=.type "list",data:=.seq acc c}) (t':=tk) (fun b u e=>Heap.get?_push_of_some _ e) (Nat.le_refl _)
  ⟨by rw[List.length_reverse];exact hz,its.reverse,c,rv.reverse,by rw[←hacc];exact Heap.get?_push_size _ rfl⟩
 have hlt:s1.heap.objs.size<(s1.heap.push (revObj p ((its.toArray.size:Int)-1))).objs.size:=by rw[Heap.size_push];omega
 have I4:=I3.turned (it:=s1.heap.objs.size) (h':=h') (t':=tk) (fun b o hb e=> ?_) (by rw[aj (Nat.ne_of_lt hlt)];exact I1.hok.fresh (Nat.le_refl _)) (Nat.ne_of_gt I1.lt) (.inr I1.sz) (fun x c e z=>by
   obtain⟨v,o,ho,_⟩:=I1.cell x c e
   rw[z] at ho
   exact absurd (Heap.lt_size ho) (Nat.lt_irrefl _)) (fun pp hp z=>by
   have:=(I1.pin pp hp).1
   rw[z] at this
   exact absurd (Heap.lt_size this) (Nat.lt_irrefl _))
 ·exact⟨.ref (s1.heap.push (revObj p ((its.toArray.size:Int)-1))).objs.size,_,I4,rfl,q _ (I2.hok.fresh (Nat.le_refl _))⟩
 ·by_cases z:b=(s1.heap.push (revObj p ((its.toArray.size:Int)-1))).objs.size
  ·subst z
   rw[Heap.get?_push_size _ rfl] at e
   cases e
   exact sS
  ·rcases Heap.get?_push_cases e with⟨z2,_⟩ |e2
   ·exact absurd z2 z
   ·exact kk b o hb e2
end
end L2
namespace L2
open PySem PySem.W PyProof.Rows
section
variable {P:Program}{w:World}{A:Around}{E:Value→Shared→Prop}{s:Shared}
theorem CC {d:Addr}{ys:List fk}{k:bc}{key v:Value}{Q:Value→Shared→Prop}(hu:A.units<cLine) (hkey:mIs P w s.heap k key) (hm:fh P w s.heap d ys) (his: ∀x∈ys,mIs P w s.heap x.1 x.2.1) (hz:ys.length<sizeLine)
  (q0: ∀u,bu ys k=some u→Q u {s with toks:=s.toks+dh k})
  (q1:bu ys k=none→ ∀h',fh P w h' d (cn ys k key v)→Heap.SameBut d s.heap h'→Q v {s with heap:=h',toks:=s.toks+dh k}):wpAny (model P w) A (dictSetDefault d key v) Q E s:=by
 obtain⟨o,es,ep,ho,hc,hd,he⟩:=hm.ok
 unfold dictSetDefault
 with_reducible refine wpAny_holding ?_
 refine wpAny_bind (FO hu hkey ?_)
 refine wpAny_bind (FQ (s:={s with toks:=s.toks+dh k}) hu hkey ho hd he his hm.nd (fun no=> ?_) fun j p hj=> ?_)
 ·have e0:bu ys k=none:=by
   unfold bu
   rw[vh no];rfl
  have e1:cn ys k key v=ys++[(k,key,v)]:=by
   unfold cn
   rw[e0];rfl
  have nk:k∉ys.map (·.1):=fun z=>by
   obtain⟨y,hy,e⟩:=List.mem_map.mp z
   obtain⟨j,hj⟩:=List.mem_iff_getElem?.mp hy
   exact no j y.2 (by rw[hj,←e])
  have q1:=q1 e0
  rw[e1] at q1
  refine wpAny_bind (wpAny_rule (wpAny_bind (wpAny_updateDictKeys (hz:=by have:=FK he;omega) (s:={s with toks:=s.toks+dh k}) ho hd (wpAny_pure (q1 _ ⟨⟨_,_,ep+1,Heap.get?_update_self _ ho (Obj.isFreed_of_dict (Obj.data_mapDictKeys hd _)),hc.mapDictKeys _,Obj.data_mapDictKeys hd _,?_⟩,?_⟩ (Heap.SameBut.update ..))))))
  ·rw[Array.toList_push,he,List.map_append];rfl
  ·rw[List.map_append,List.nodup_append]
   refine⟨hm.nd,by simp,fun a ha b hb e=>nk ?_⟩
   have hb:b=k:=List.mem_singleton.mp hb
   rw[←hb,←e];exact ha
 ·have e0:bu ys k=some p.2:=by
   unfold bu
   rw[CF hm.nd hj];rfl
  refine wpAny_bind (wpAny_dictEntries (s:={s with toks:=s.toks+dh k}) ho hd ?_)
  rw[NE he j,hj]
  exact wpAny_bind (wpAny_rule (wpAny_pure (q0 _ e0)))
theorem FE (d:Addr) (key dflt:Value) (hd:(d==sysModules)=false):MeetsIn P w (Builtin.«dict.setdefault» ⟨[.ref d,key,dflt],[]⟩)
  (fun A R s=>A.in1.units<cLine∧ ∃k ys,mIs P w s.heap k key∧fh P w s.heap d ys∧(∀x∈ys,mIs P w s.heap x.1 x.2.1)∧ys.length<sizeLine∧
   (∀u,bu ys k=some u→R (.ok (.ret u)) {s with toks:=s.toks+dh k})∧
   (bu ys k=none→ ∀h',fh P w h' d (cn ys k key dflt)→Heap.SameBut d s.heap h'→R (.ok (.ret dflt)) {s with heap:=h',toks:=s.toks+dh k})):=
 .of_wp fun A R s ⟨hu,k,ys,hk,hm,hi,hz,h0,h1⟩=>by
  unfold Builtin.«dict.setdefault» Builtin.Dict.keyAndDefault
  refine wpAny_bind (wpAny_bind (wpAny_notOrdered_dict hm.type (show wpAny _ _ (pure (d,key,some dflt)) _ _ s from wpAny_pure ?_)))
  show wpAny _ _ (if(d==sysModules)=true then _ else(dictSetDefault d key dflt>>=fun r=>_)) _ _ s
  rw[hd,if_neg Bool.false_ne_true]
  exact wpAny_bind (CC hu hk hm hi hz (fun v hv=>wpAny_pure ⟨v,rfl,h0 v hv⟩) fun hn h' hm' hs'=>wpAny_pure ⟨dflt,rfl,h1 hn h' hm' hs'⟩)
theorem Hz {d:Addr}{ys:List fk}{k:bc}{key v:Value}{Q:Value→Shared→Prop}(hu:A.in1.units<cLine) (hkey:mIs P w s.heap k key) (hm:fh P w s.heap d ys) (his: ∀x∈ys,mIs P w s.heap x.1 x.2.1) (hv:bu ys k=some v)
  (q:Q v {s with toks:=s.toks+dh k}):wpAny (model P w) A (getItem (.ref d) key) Q E s:=by
 unfold getItem
 with_reducible refine wpAny_holding ?_
 refine wpAny_bind (wpAny_sequenceKey hm.type (by decide) (wpAny_bind (wpAny_callSpecial?_slot (name:=Str.ofString "__getitem__") hm.type slot_dict_getitem (wpAny_call_entry slot_dict_getitem hm.type entry_dict_getitem ?_ (args_dict_getitem _ _)))))
 show wpAny (model P w) A.in1 (dictGet d key>>=_) _ _ s
 refine wpAny_bind (Mx hu hkey hm his ?_)
 rw[hv]
 exact wpAny_pure ⟨v,rfl,wpAny_pure q⟩
end
section
variable {X:Cx}{P:Program}{w:World}{o e f i:Expr}{pos apos cpos:Pos}{td ty tx:TE}
def Pt (K:PySem.W.Frag) (P:Program) (w:World) (td ty:TE):TE:=fun σ H Q=>td σ H fun x H1=>ty σ H1 fun y H2=> ∃a xs k v,x=.ref a∧H2 a=some (dM P w a xs)∧e7 K H2 xs∧cq K H2 k y∧bu xs k=some v∧Q v H2
theorem JA (K:PySem.W.Frag) (hK:X.K=K) (hu:X.A.units+1<cLine) (ho:PE X o td) (hi:PE X i ty) (hs:Od i) (hP:X.prog=P:=by rfl) (hw:X.w=w:=by rfl):PE X (.Subscript o i pos) (Pt K P w td ty):=by
 subst hP hw hK
 intro pins s σ H Q I h
 refine Gp PySem.F.slot_dict_getitem.lookup hs (thn (ho pins s σ H _ I h) fun u s1 ⟨x,H1,I1,rx,q1⟩=>thn (hi pins s1 σ H1 _ I1 q1) fun iv s2 ⟨y,H2,I2,ry,a,xs,k,v,ex,d,ks,hk,hv,q2⟩=> ?_)
 subst ex
 obtain rfl:u=Value.ref a:=rx
 obtain⟨⟨hd,ys,rel,m⟩,_⟩:=I2.hok a _ d
 obtain⟨w',hw',rw'⟩:=mh.some_of (v:=v) (o:=bu ys k) (by rw[←hv];exact rel.val k)
 exact⟨m.type,Hz hu (hk.is I2 ry) m (rel.keys I2 ks) hw' ⟨v,H2,I2.tok _,rw',q2⟩⟩
def MP (K:PySem.W.Frag) (P:Program) (w:World) (td ty tx:TE):TE:=fun σ H Q=>td σ H fun x H1=> ∃a xs0,x=.ref a∧H1 a=some (dM P w a xs0)∧ty σ H1 fun y H2=>tx σ H2 fun z H3=> ∃xs k,H3 a=some (dM P w a xs)∧e7 K H3 xs∧cq K H3 k y∧xs.length<sizeLine∧
 (∀v,bu xs k=some v→Q v H3)∧(bu xs k=none→Q z (upd H3 a (dM P w a (cn xs k y z))))
theorem Jz (K:PySem.W.Frag) (hK:X.K=K) (hu:X.A.units+1<cLine) (ho:PE X o td) (he:PE X e ty) (hf:PE X f tx) (m:M2 X o "setdefault" apos e f cpos) (hP:X.prog=P:=by rfl) (hw:X.w=w:=by rfl):
  PE X (.Call (.Attribute o "setdefault" apos) [e,f] [] cpos) (MP K P w td ty tx):=by
 subst hP hw hK
 intro pins s σ H Q I h
 refine wpAny_Call_method m.base m.few m.line PySem.F.plainAttrs_dict PySem.F.slot_dict_setdefault PySem.F.type_dict_setdefault (thn (ho pins s σ H _ I h) fun u s1 ⟨x,H1,I1,rx,a,xs0,ex,d,q1⟩=> ?_)
 subst ex
 cases (show u=Value.ref a from rx)
 obtain⟨⟨_,ys0,_,m0⟩,_⟩:=I1.hok a _ d
 refine⟨m0.type,m0.bare,?_⟩
 rw[m.trees]
 refine Calls.callWith_builtin rfl (Calls.evalArgs_plain (Calls.spliced_cons (thn (he pins s1 σ H1 _ I1 q1) fun iv s2 ⟨y,H2,I2,ry,q2⟩=>Calls.spliced_cons (thn (hf pins s2 σ H2 _ I2 q2) fun fv s3 ⟨z,H3,I3,rz,xs,k,d3,ks,hk,hz,q3,q4⟩=>Calls.spliced_nil ?_))))
 obtain⟨⟨hd,ys,rel,m3⟩,_⟩:=I3.hok a _ d3
 refine call_meetsIn PySem.F.slot_dict_setdefault m3.type PySem.F.entry_dict_setdefault (PySem.F.args_dict_setdefault_3 _ _ _) (FE a iv fv hd) ⟨hu,k,ys,hk.is I3 ry,m3,rel.keys I3 ks,by rw[←rel.len];exact hz,fun u hu'=> ?_,fun hn h' m' sb=> ?_⟩
 ·have r:=rel.val k
  rw[hu'] at r
  cases hx:bu xs k with
  |none=>rw[hx] at r;exact r.elim
  |some v=>rw[hx] at r;exact⟨v,H3,I3.tok _,r,q3 v hx⟩
 ·have hx:bu xs k=none:=by
   have r:=rel.val k
   rw[hn] at r
   cases hx:bu xs k with
   |none=>rfl
   |some v=>rw[hx] at r;exact r.elim
  exact⟨z,_,uj I3 (by rw[d3];exact True.intro) sb (let⟨o,_,_,e,_⟩:=m'.ok;⟨o,e⟩) (Kj hd (rel.put ry rz) m'),rz,q4 hx⟩
end
end L2
namespace L2
open PySem
seal L2.PSs L2.PS L2.PE L2.PT L2.PA L2.PI L2.PG L2.PW L2.PGs L2.PO
section
variable {X:Cx}
end
section
variable {X:Cx}
theorem Ij:cQ X (.builtin "isinstance") (fun xs H Q=> ∃x T t b,xs=[x,.ty T]∧(qB X.K H x t∨ ∃p ys,x=.ref p∧SqT X.K H p ys∧t=.type "tuple")∧PySem.W.kitOne X.K t (.type T)=some b∧Q (.bl b) H):=by
 intro pins s σ H xs us Q I r h
 obtain⟨x,T,t,b,rfl,ty,e,q⟩:=h
 rcases ty with ty |⟨p,ys,rfl,hq,rfl⟩
 ·exact EV pins s σ H _ us Q I r ⟨x,T,t,b,rfl,ty,e,q⟩
 ·obtain⟨u,w',rfl,rx,rt⟩:=DN r
  obtain rfl:w'=Value.type T:=rt
  cases rx
  obtain⟨its,_,⟨o,h1,h2,_⟩,_⟩:=I.tuple hq
  exact PySem.W.kia_one PySem.W.kitx_tuple I.kIn ⟨o,h1,h2⟩ e (fun z=>nomatch z) fun tk=>⟨.bl b,H,I.tok tk,rfl,q⟩
theorem hV (K:PySem.W.Frag) (hK:X.K=K):cQ X (.builtin "isinstance") (fun xs H Q=> ∃x T t b,xs=[x,.ty T]∧(qB K H x t∨ ∃p ys,x=.ref p∧SqT K H p ys∧t=.type "tuple")∧PySem.W.kitOne K t (.type T)=some b∧Q (.bl b) H):=by subst hK;exact Ij
end
end L2
namespace L2
open PySem PySem.Spec PyProof.Rows
section
variable {X:Cx}{tg:Expr}
end
section
variable {X:Cx}
end
end L2
namespace L2
open PySem PySem.Spec PyProof.Rows
def Mj (K:PySem.W.Frag) (pm:Params) (a:Addr):Prop:=(a==sysModules)=false∧ ∃es n,K.lookup a=some ⟨.type "dict",none,.dict es n,#[]⟩∧PySem.W.KeysLit pm es.toList
def KTp (K:PySem.W.Frag) (t:Addr) (xs:List V):Prop:= ∃(o:Obj) (its:Array Value) (n:Nat),K.lookup t=some o∧o.cls=.type "tuple"∧o.data=.seq its n∧its.size≤sizeLine∧a8 xs its.toList
theorem KTp.sq {K:PySem.W.Frag}{t:Addr}{xs:List V}(h:KTp K t xs) (H:Hp):SqT K H t xs:=.inr h
section
variable {X:Cx}{o i:Expr}{pos:Pos}{td ty:TE}
end
end L2
namespace L2
open PySem PySem.Spec PyProof.Rows
section
variable {X:Cx}{o i:Expr}{pos:Pos}{td ty:TE}
end
end L2
namespace L2
open PySem PySem.Spec PyProof.Rows
section
variable {prog:Program}{w:World}{A:Around}{E:Value→Shared→Prop}{s:Shared}{α:Type} [DecidableEq α] [BEq α] [LawfulBEq α]
set_option maxHeartbeats 3200000 in
theorem Cn (knd:PySem.KeyKind prog w α) {l:Addr}{its:Array Value}{key:Nat→α}{Q:Value→Shared→Prop}(hh:A.handled=none) (hl:s.heap.IsTuple l its) (hkey: ∀i v,its[i]? =some v→knd.is (key i) v=true∧v.scannable=true) (room:its.size+1<scanBound)
  (k: ∀(h':Heap) (tk:Nat),kH knd key s.heap.objs.size its.size h'→(∀b o,s.heap.get? b=some o→h'.get? b=some o)→Q (.ref s.heap.objs.size) {s with heap:=h',toks:=tk}):
  wpAny (model prog w) A (call (.type "set") [.ref l]) Q E s:=by
 obtain⟨c,tl,hmro⟩:=F.called_set.mro
 have made:=F.called_set.made;have sub:=F.called_set.sub;have nt:=F.called_set.notType;have cc:=F.called_set.canCreate;have tc:=F.typeCall_set_1 (.ref l)
 refine wpAny_call (codeAny_of_tree ?_);show wpAny _ _ (callAny (.type "set") _) _ _ _
 refine wpAny_pure ⟨Code.quiet_builtin _ (by decide+kernel),codeAny_builtin F.entry_type_call ?_⟩;rw[Around.under_plain (weight_type_call_type "set" [.ref l] []) rfl]
 (repeat (any_goals (first |assumption |wp_step)));skip
 refine codeAny_mono (code_set_new_1 (.ref l) (E:=E) (Q₁:=fun u s₁=> ∃led:Bool,u=.ref s.heap.objs.size∧s₁={s with heap:=s.heap.push (bL led)}) fun led=>⟨led,rfl,rfl⟩) fun r s₁ hr=> ?_
 cases r with
 |error e=>exact hr
 |ok fl=>
  cases fl with
  |ret u=>
   obtain⟨led,rfl,rfl⟩:=hr
   have nw:(s.heap.push (bL led)).get? s.heap.objs.size=some (bL led):=Heap.get?_push_size _ rfl
   have ty:Shared.TypeIs {s with heap:=s.heap.push (bL led)} (.ref s.heap.objs.size) "set":=⟨_,nw,rfl⟩
   have li:=F.called_set.init.lookup;have bi:=F.called_set.init.bind (.ref s.heap.objs.size)
   (repeat (any_goals (first |assumption |wp_step)));skip
   refine codeAny_mono (codeAny_call_builtin (R:=wants (fun r s₂=>r=.none∧ ∃h' tk,s₂={s with heap:=h',toks:=tk}∧kH knd key s.heap.objs.size its.size h'∧ ∀b o,s.heap.get? b=some o→h'.get? b=some o) E) F.called_set.init.plain F.entry_set_init (check_set_init_1 ty ?_)) fun r₂ s₂ hr₂=> ?_
   ·obtain⟨⟨cl,dc,dt,sl⟩,e,ec,nl,ed⟩:=id hl
    simp only at ec ed;subst ec;subst ed
    have e':(s.heap.push (bL led)).get? l=some {cls:=.type "tuple",dict:=dc,data:=.seq its nl,slots:=sl}:=Heap.get?_push_of_some _ e
    have s1:=F.sub_tuple_set;have s2:=F.sub_tuple_frozenset;have ne:(Value.type "tuple"==Value.type "dict")=false:=by decide
    have hl1:(s.heap.push (bL led)).IsTuple l its:=⟨_,e',rfl,nl,rfl⟩
    unfold Builtin.«set.__init__» noKeywords Builtin.Frozenset.updateFrom
    generalize hPI:pyIter=PI;wp_walk;subst hPI
    refine wpAny_pyIter_tuple hl1 ?_;refine wpAny_bind (wpAny_runValue ?_)
    have lt:l<s.heap.objs.size:=Heap.lt_size e
    have sz:(s.heap.push (bL led)).objs.size=s.heap.objs.size+1:=Heap.size_push ..
    refine D1 knd ((Walks.tuple (A:=A.in1.in1.in1) (by simp[hh]) _ l (by rw[sz];exact Nat.ne_of_lt (Nat.lt_succ_of_lt lt)) its).toS) (a:=s.heap.objs.size) (by rw[sz];simp only[List.mem_cons,List.not_mem_nil,or_false,not_or];exact⟨Nat.ne_of_lt (Nat.lt_succ_self _),Nat.ne_of_gt lt⟩) key hkey room (its.size-0) 0 _ (by omega) (Nat.zero_le _)
     ⟨⟨_,Heap.get?_push_size _ rfl,rfl,rfl⟩,hl1.push _⟩ ?f0 ?fR
    case f0=>
     have g:((s.heap.push (bL led)).push {cls:=.type "tuple_iterator",data:=.fields #[.ref l,.int 0 0]}).get? s.heap.objs.size=some (bL led):=Heap.get?_push_of_some _ nw
     exact SetOf_congr ((setObjOf_fresh (knd:=knd) led).setOf g (by unfold scanBound;omega)) (fun _=>rfl) rfl
    case fR=>
     rintro⟨h',g',d',tk',os'⟩ mv f
     obtain rfl:g'=s.gens:=mv.gens
     obtain rfl:d'=s.drawn:=mv.drawn
     obtain rfl:os'=s.os:=mv.os
     show wpAny _ _ _ _ _ _
     refine wpAny_pure (show wpAny _ _ (ret Value.none) _ _ _ from wpAny_pure ⟨rfl,h',tk',rfl,f,fun b o q=> ?_⟩)
     have b1:b<s.heap.objs.size:=Heap.lt_size q
     exact mv.heap b o (by rw[sz];simp only[List.mem_cons,List.not_mem_nil,or_false,not_or];exact⟨Nat.ne_of_lt b1,Nat.ne_of_lt (Nat.lt_succ_of_lt b1)⟩) (Heap.get?_push_of_some _ (Heap.get?_push_of_some _ q))
   ·cases r₂ with
    |error e=>exact hr₂
    |ok fl₂=>
     cases fl₂ with
     |ret r=>
      obtain⟨rfl,h',tk,rfl,f,kk⟩:=hr₂
      (repeat (any_goals (first |assumption |wp_step)));exact k _ _ f kk
     |_=>exact hr₂.elim
  |_=>exact hr.elim
end
section
variable {X:Cx}
theorem Ie (hc:X.calm=true):cQ X (.type "set") (fun xs H Q=> ∃(p:Addr) (ks:List Key),xs=[.ref p]∧SqT X.K H p (ks.map kV)∧ks.length<4000∧
  ∀q,H q=none→Q (.ref q) (upd H q (Aw X.prog X.w q (fun k=>(dd ks).any (· ==k)) (dd ks).length))):=by
 intro pins s σ H xs us Q I r h
 obtain⟨p,ks,rfl,hq,hlen,q⟩:=h
 obtain⟨u,rfl,r1⟩:=o7 r
 cases r1
 obtain⟨its,rv,pl,hz⟩:=I.tuple hq
 have hl:=rv.length
 rw[List.length_map] at hl
 refine Cn (aT X.prog X.w) (key:=fun i=>ks.getD i (.inl 0)) (I.ok.hd hc) (show s.heap.IsTuple p its.toArray from pl) (fun i v hv=> ?_) (by rw[List.size_toArray];unfold scanBound;omega) fun h' tk f kk=> ?_
 ·have hv:its[i]? =some v:=by simpa using hv
  have hi:i<its.length:=(List.getElem?_eq_some_iff.mp hv).1
  obtain⟨u,h1,h2⟩:=rv.get (i:=i) (x:=kV (ks[i]'(by omega))) (by rw[List.getElem?_map,List.getElem?_eq_getElem (by omega)];rfl)
  rw[hv] at h1
  cases h1
  have e:ks.getD i (.inl 0)=ks[i]'(by omega):=by simp[List.getD,List.getElem?_eq_getElem (show i<ks.length by omega)]
  show(aT X.prog X.w).is (ks.getD i (.inl 0)) v=true∧_
  rw[e,yW]
  exact GC h2
 ·have f:h'.SetOf (aT X.prog X.w) s.heap.objs.size (fun k=>(dd ks).any (· ==k)) (dd ks).length:=by
   have f':h'.SetOf (aT X.prog X.w) s.heap.objs.size (fun k=>(wZ (fun i=>ks.getD i (.inl 0)) its.toArray.size).any (· ==k)) (wZ (fun i=>ks.getD i (.inl 0)) its.toArray.size).length:=f
   have ez:its.toArray.size=ks.length:=by rw[List.size_toArray];exact hl.symm
   rw[ez,GA] at f'
   exact f'
  refine⟨.ref s.heap.objs.size,_,I.laid (h':=h') (t':=tk) (o:=Aw X.prog X.w s.heap.objs.size (fun k=>(dd ks).any (· ==k)) (dd ks).length) kk (Nat.le_refl _) ⟨f,?_,fun h1 h2 g k2=> ?_⟩,rfl,q _ (I.hok.fresh (Nat.le_refl _))⟩
  ·obtain⟨o,_,_,_,e,_⟩:=f
   exact⟨o,e⟩
  ·obtain⟨o,es,ep,t,e,tN⟩:=g
   exact⟨o,es,ep,t,k2 o e,tN⟩
theorem F4 (K:PySem.W.Frag) (hK:X.K=K) (hc:X.calm=true) {P:Program}{w:World}(hP:X.prog=P:=by rfl) (hw:X.w=w:=by rfl):cQ X (.type "set") (fun xs H Q=> ∃(p:Addr) (ks:List Key),xs=[.ref p]∧SqT K H p (ks.map kV)∧ks.length<4000∧
  ∀q,H q=none→Q (.ref q) (upd H q (Aw P w q (fun k=>(dd ks).any (· ==k)) (dd ks).length))):=by subst hK;subst hP;subst hw;exact Ie hc
end
end L2
namespace L2
open PySem PySem.Spec PyProof.Rows
section
variable {P:Program}{w:World}{A:Around}{E:Value→Shared→Prop}{s:Shared}
theorem tz {j t:Addr}{k:Nat}{its:Array Value}{v:Value}{Q:Value→Shared→Prop}(ji:s.heap.IsTupleIter j t k) (tt:s.heap.IsTuple t its) (hv:its[k]? =some v)
  (q: ∀g,g.IsTupleIter j t (k+1)→Heap.SameBut j s.heap g→Q v {s with heap:=g}):wpAny (model P w) A (Builtin.SmallTypes.nextOf (.ref j)) Q E s:=by
 obtain⟨ob,e1,e2,e3⟩:=id ji
 obtain⟨ot,f1,_,nt,f3⟩:=tt
 unfold Builtin.SmallTypes.nextOf
 refine wpAny_bind (wpAny_callSpecial?_slot (name:=Str.ofString "__next__") ji.typeIs F.slot_tuple_iterator_next (wpAny_call_entry F.slot_tuple_iterator_next ji.typeIs F.entry_tuple_iterator_next ?_ (F.args_tuple_iterator_next_1 _)))
 refine(show wpAny _ _ (field (.ref j) 0>>=_) _ _ s from wpAny_bind (wpAny_field e1 e3 (x:=.ref t) rfl ?_))
 refine(show wpAny _ _ (if(Value.ref t==Value.none)=true then _ else(field (.ref j) 1>>=_)) _ _ s from ?_)
 rw[if_neg (show¬(Value.ref t==Value.none)=true from fun z=>Bool.false_ne_true z)]
 refine wpAny_bind (wpAny_field e1 e3 (x:=.int k 0) rfl ?_)
 refine(show wpAny _ _ (seqItems? (.ref t)>>=_) _ _ s from wpAny_bind (wpAny_seqItems f1 f3 ?_))
 simp only[Int.toNat_natCast,hv]
 refine wpAny_bind (wpAny_setField e1 e3 (by simp) (wpAny_pure ⟨v,rfl,wpAny_pure (q _ ⟨_,Heap.get?_update_self _ e1 (Obj.isFreed_of_fields (Obj.data_mapFields e3 _)),(Obj.cls_mapFields ..).trans e2,?_⟩ (Heap.SameBut.update ..))⟩))
 rw[Obj.data_mapFields e3]
 simp[rawInt]
theorem DQ {j t:Addr}{k:Nat}{its:Array Value}{Q:Value→Shared→Prop}(hh:A.handled=none) (ji:s.heap.IsTupleIter j t k) (tt:s.heap.IsTuple t its) (hv:its[k]? =none)
  (q: ∀g x,Heap.ExtBut j s.heap g→(∃ob,g.get? x=some ob∧ob.cls=.type "StopIteration")→E (.ref x) {s with heap:=g}):wpAny (model P w) A (Builtin.SmallTypes.nextOf (.ref j)) Q E s:=by
 obtain⟨ob,e1,e2,e3⟩:=id ji
 obtain⟨ot,f1,_,nt,f3⟩:=tt
 unfold Builtin.SmallTypes.nextOf
 refine wpAny_bind (wpAny_callSpecial?_slot (name:=Str.ofString "__next__") ji.typeIs F.slot_tuple_iterator_next (wpAny_call_entry F.slot_tuple_iterator_next ji.typeIs F.entry_tuple_iterator_next ?_ (F.args_tuple_iterator_next_1 _)))
 refine(show wpAny _ _ (field (.ref j) 0>>=_) _ _ s from wpAny_bind (wpAny_field e1 e3 (x:=.ref t) rfl ?_))
 refine(show wpAny _ _ (if(Value.ref t==Value.none)=true then _ else(field (.ref j) 1>>=_)) _ _ s from ?_)
 rw[if_neg (show¬(Value.ref t==Value.none)=true from fun z=>Bool.false_ne_true z)]
 refine wpAny_bind (wpAny_field e1 e3 (x:=.int k 0) rfl ?_)
 refine(show wpAny _ _ (seqItems? (.ref t)>>=_) _ _ s from wpAny_bind (wpAny_seqItems f1 f3 ?_))
 simp only[Int.toNat_natCast,hv]
 refine wpAny_bind (wpAny_rule (wpAny_bind (wpAny_setField e1 e3 (by simp) (show wpAny _ _ (newExc (.type "StopIteration") []>>=_) _ _ _ from wpAny_bind ?_))))
 simp only[newExc,newTuple]
 refine wpAny_bind (wpAny_newObj_type (wpAny_bind (m:=firstArgMember _ _) (wpAny_of_eq (a:=Value.none) (by first |rfl |(simp only[firstArgMember];rfl)) (wpAny_newObj_type ?_ (by size_fits)))) (by size_fits))
 simp only[raiseNew]
 refine wpAny_bind (wpAny_handled ?_)
 first |rw[show A.in1.handled=none from hh] |rw[hh]
 exact wpAny_bind (wpAny_pure (wpAny_throw (q _ _ (((Heap.SameBut.update ..).extBut.push _).push _) ⟨_,Heap.get?_push_size _ rfl,rfl⟩)))
def E4 (z o2 j1 j2:Addr) (h g:Heap):Prop:= ∀c ob,c≠z→c≠o2→c≠j1→c≠j2→h.get? c=some ob→g.get? c=some ob
theorem GY {z o1 o2 j1 j2 t l:Addr}{k1 k2:Nat}{xs ys:Array Value}{x y a b:Value}{Q:Value→Shared→Prop}(D:ZipApart z o1 o2 j1 j2 t l)
  (z0:IsZip s.heap z o1 o2 .none) (p1:IsPair s.heap o1 (.ref j1) (.ref j2)) (p2:IsPair s.heap o2 a b)
  (i1:s.heap.IsTupleIter j1 t k1) (i2:s.heap.IsListIter j2 l k2) (tt:s.heap.IsTuple t xs) (ll:s.heap.IsList l ys) (hx:xs[k1]? =some x) (hy:ys[k2]? =some y)
  (q: ∀g,IsZip g z o1 o2 (rawInt s.heap.objs.size)→IsPair g o2 x y→g.IsTupleIter j1 t (k1+1)→g.IsListIter j2 l (k2+1)→IsPair g s.heap.objs.size x y→g.objs.size=s.heap.objs.size+1→
   E4 z o2 j1 j2 s.heap g→Q (.ref s.heap.objs.size) {s with heap:=g}):
  wpAny (model P w) A (Builtin.«zip.__next__» ⟨[.ref z],[]⟩) (fun fin s'=> ∃v,fin=.done (.ret v)∧Q v s') E s:=by
 refine(show wpAny _ _ (field (.ref z) 2>>=_) _ _ _ from wpAny_bind (wpAny_field z0 rfl (x:=.bool false) rfl ?_))
 refine(show wpAny _ _ (field (.ref z) 3>>=_) _ _ _ from wpAny_bind (wpAny_field z0 rfl (x:=.ref o1) rfl (wpAny_bind (wpAny_seqItems p1 rfl ?_))))
 refine(show wpAny _ _ (Builtin.SmallTypes.ownedTupleIsFree (.ref z)>>=_) _ _ _ from wpAny_bind ?_)
 unfold Builtin.SmallTypes.ownedTupleIsFree
 refine wpAny_bind (wpAny_field z0 rfl (x:=.none) rfl (wpAny_pure ?_))
 simp only[if_true]
 refine wpAny_bind (wpAny_rule (wpAny_bind (wpAny_field z0 rfl (x:=.ref o2) rfl (wpAny_bind (wpAny_setField_rec z0 (by simp) fun g1 z1 s1=> ?_)))))
 replace z1:IsZip g1 z o1 o2 .ellipsis:=z1
 refine wpAny_bind ?_
 simp only[List.zipIdx_cons,List.zipIdx_nil,List.forIn_cons,List.forIn_nil]
 refine wpAny_bind (wpAny_bind (wpAny_onRaise (show wpAny _ _ (Builtin.SmallTypes.nextOf (.ref j1)>>=_) _ _ _ from wpAny_bind (tz (i1.extBut s1.extBut D.i1z) (tt.extBut s1.extBut D.l1z) hx fun g2 i12 s2=>wpAny_pure ?_))))
 have p22:IsPair g2 o2 a b:=s2.extBut _ _ D.TOi1 (s1.extBut _ _ D.TOz p2)
 refine wpAny_bind (wpAny_seqItems p22 rfl (wpAny_bind (wpAny_updateSeq_pair p22 fun g3 p23 s3=> ?_)))
 replace p23:IsPair g3 o2 x b:=p23
 refine wpAny_bind (wpAny_letGo (wpAny_pure (wpAny_bind (wpAny_bind (wpAny_onRaise ?_)))))
 refine(show wpAny _ _ (Builtin.SmallTypes.nextOf (.ref j2)>>=_) _ _ _ from wpAny_bind (wpAny_nextOf_list_item (((i2.extBut s1.extBut D.i2z).extBut s2.extBut D.i12.symm).extBut s3.extBut D.TOi2.symm)
  (((ll.extBut s1.extBut D.l2z).extBut s2.extBut D.l2i1).extBut s3.extBut D.l2TO) hy fun g4 i24 s4=>wpAny_pure ?_))
 have p24:IsPair g4 o2 x b:=s4.extBut _ _ D.TOi2 p23
 refine wpAny_bind (wpAny_seqItems p24 rfl (wpAny_bind (wpAny_updateSeq_pair p24 fun g5 p25 s5=> ?_)))
 replace p25:IsPair g5 o2 x y:=p25
 refine wpAny_bind (wpAny_letGo (wpAny_pure (wpAny_pure (wpAny_bind (wpAny_seqItems p25 rfl (wpAny_bind (wpAny_newTuple ?_)))))))
 have sz:g5.objs.size=s.heap.objs.size:=by rw[s5.1,s4.1,s3.1,s2.1,s1.1]
 have z5:IsZip g5 z o1 o2 .ellipsis:=s5.extBut _ _ D.TOz.symm (s4.extBut _ _ D.i2z.symm (s3.extBut _ _ D.TOz.symm (s2.extBut _ _ D.i1z.symm z1)))
 have k5:E4 z o2 j1 j2 s.heap g5:=fun c o c1 c2 c3 c4 e=>s5.extBut _ _ c2 (s4.extBut _ _ c4 (s3.extBut _ _ c2 (s2.extBut _ _ c3 (s1.extBut _ _ c1 e))))
 have i15:g5.IsTupleIter j1 t (k1+1):=((i12.extBut s3.extBut D.TOi1.symm).extBut s4.extBut D.i12).extBut s5.extBut D.TOi1.symm
 have i25:g5.IsListIter j2 l (k2+1):=i24.extBut s5.extBut D.TOi2.symm
 have zl:z<g5.objs.size:=Heap.lt_size z5
 refine(show wpAny _ _ (Builtin.SmallTypes.ownedTupleHandOut (.ref z) (.ref g5.objs.size)>>=_) _ _ _ from wpAny_bind ?_)
 unfold Builtin.SmallTypes.ownedTupleHandOut
 have z6:IsZip (g5.push {cls:=.type "tuple",data:=.seq #[x,y]}) z o1 o2 .ellipsis:=Heap.get?_push_of_some _ z5
 refine wpAny_bind (wpAny_setField_rec z6 (by simp) fun g7 z7 s7=> ?_)
 replace z7:IsZip g7 z o1 o2 (rawInt g5.objs.size):=z7
 refine wpAny_setField_rec z7 (by simp) fun g8 z8 s8=> ?_
 replace z8:IsZip g8 z o1 o2 (rawInt g5.objs.size):=z8
 have up: ∀c ob,c≠z→g5.get? c=some ob→g8.get? c=some ob:=fun c ob c1 e=>s8.extBut _ _ c1 (s7.extBut _ _ c1 (Heap.get?_push_of_some _ e))
 have pn:IsPair g8 g5.objs.size x y:=s8.extBut _ _ (Nat.ne_of_gt zl) (s7.extBut _ _ (Nat.ne_of_gt zl) (Heap.get?_push_size _ rfl))
 have sz8:g8.objs.size=g5.objs.size+1:=by rw[s8.1,s7.1,Heap.size_push]
 rw[sz] at z8 pn sz8
 refine wpAny_pure ⟨_,rfl,(show Q (.ref g5.objs.size) _ from ?_)⟩
 rw[sz]
 exact q g8 z8 (up _ _ D.TOz p25) (i15.at fun ob e=>up _ ob D.i1z e) (i25.at fun ob e=>up _ ob D.i2z e) pn sz8 fun c ob c1 c2 c3 c4 e=>up c ob c1 (k5 c ob c1 c2 c3 c4 e)
theorem GX {z o1 o2 j1 j2 t l:Addr}{k1:Nat}{xs:Array Value}{a b:Value}{Q:Fin→Shared→Prop}(hh:A.handled=none) (D:ZipApart z o1 o2 j1 j2 t l)
  (z0:IsZip s.heap z o1 o2 .none) (p1:IsPair s.heap o1 (.ref j1) (.ref j2)) (p2:IsPair s.heap o2 a b) (i1:s.heap.IsTupleIter j1 t k1) (tt:s.heap.IsTuple t xs) (hx:xs[k1]? =none)
  (q: ∀g e,E4 z o2 j1 j2 s.heap g→(∃ob,g.get? e=some ob∧ob.cls=.type "StopIteration")→E (.ref e) {s with heap:=g}):
  wpAny (model P w) A (Builtin.«zip.__next__» ⟨[.ref z],[]⟩) Q E s:=by
 refine(show wpAny _ _ (field (.ref z) 2>>=_) _ _ _ from wpAny_bind (wpAny_field z0 rfl (x:=.bool false) rfl ?_))
 refine(show wpAny _ _ (field (.ref z) 3>>=_) _ _ _ from wpAny_bind (wpAny_field z0 rfl (x:=.ref o1) rfl (wpAny_bind (wpAny_seqItems p1 rfl ?_))))
 refine(show wpAny _ _ (Builtin.SmallTypes.ownedTupleIsFree (.ref z)>>=_) _ _ _ from wpAny_bind ?_)
 unfold Builtin.SmallTypes.ownedTupleIsFree
 refine wpAny_bind (wpAny_field z0 rfl (x:=.none) rfl (wpAny_pure ?_))
 simp only[if_true]
 refine wpAny_bind (wpAny_rule (wpAny_bind (wpAny_field z0 rfl (x:=.ref o2) rfl (wpAny_bind (wpAny_setField_rec z0 (by simp) fun g1 z1 s1=> ?_)))))
 replace z1:IsZip g1 z o1 o2 .ellipsis:=z1
 refine wpAny_bind ?_
 simp only[List.zipIdx_cons,List.zipIdx_nil,List.forIn_cons,List.forIn_nil]
 refine wpAny_bind (wpAny_bind (wpAny_onRaise (show wpAny _ _ (Builtin.SmallTypes.nextOf (.ref j1)>>=_) _ _ _ from wpAny_bind (DQ hh (i1.extBut s1.extBut D.i1z) (tt.extBut s1.extBut D.l1z) hx fun g2 e s2 he=> ?_))))
 obtain⟨oe,he1,he2⟩:=he
 have z2:IsZip g2 z o1 o2 .ellipsis:=s2 _ _ D.i1z.symm z1
 have ez:e≠z:=fun c=>by subst c;rw[z2] at he1;cases he1;simp at he2
 exact wpAny_setField_rec z2 (by simp) fun g3 _ s3=>q g3 e (fun c ob c1 _ c3 _ d=>s3.extBut _ _ c1 (s2 _ _ c3 (s1.extBut _ _ c1 d))) ⟨oe,s3.extBut _ _ ez he1,he2⟩
theorem GZ {z o1 o2 j1 j2 t l:Addr}{k1 k2:Nat}{xs ys:Array Value}{x y a b:Value}{Q:Option Value→Shared→Prop}(D:ZipApart z o1 o2 j1 j2 t l)
  (z0:IsZip s.heap z o1 o2 .none) (p1:IsPair s.heap o1 (.ref j1) (.ref j2)) (p2:IsPair s.heap o2 a b)
  (i1:s.heap.IsTupleIter j1 t k1) (i2:s.heap.IsListIter j2 l k2) (tt:s.heap.IsTuple t xs) (ll:s.heap.IsList l ys) (hx:xs[k1]? =some x) (hy:ys[k2]? =some y)
  (q: ∀g,IsZip g z o1 o2 (rawInt s.heap.objs.size)→IsPair g o2 x y→g.IsTupleIter j1 t (k1+1)→g.IsListIter j2 l (k2+1)→IsPair g s.heap.objs.size x y→g.objs.size=s.heap.objs.size+1→
   E4 z o2 j1 j2 s.heap g→Q (some (.ref s.heap.objs.size)) {s with heap:=g}):wpAny (model P w) A (pyNext (.ref z)) Q E s:=by
 have ty:s.TypeIs (.ref z) "zip":=⟨_,z0,rfl⟩
 unfold pyNext
 refine wpAny_bind (wpAny_attempt (wpAny_callSpecial?_slot (name:=Str.ofString "__next__") ty F.slot_zip_next (wpAny_call_entry F.slot_zip_next ty F.entry_zip_next (GY D z0 p1 p2 i1 i2 tt ll hx hy fun g a1 a2 a3 a4 a5 a6 a7=> ?_) (F.args_zip_next_1 _))))
 exact wpAny_pure (q g a1 a2 a3 a4 a5 a6 a7)
theorem DK {z o1 o2 j1 j2 t l:Addr}{k1:Nat}{xs:Array Value}{a b:Value}{Q:Option Value→Shared→Prop}(hh:A.handled=none) (D:ZipApart z o1 o2 j1 j2 t l)
  (z0:IsZip s.heap z o1 o2 .none) (p1:IsPair s.heap o1 (.ref j1) (.ref j2)) (p2:IsPair s.heap o2 a b) (i1:s.heap.IsTupleIter j1 t k1) (tt:s.heap.IsTuple t xs) (hx:xs[k1]? =none)
  (q: ∀g,E4 z o2 j1 j2 s.heap g→Q none {s with heap:=g}):wpAny (model P w) A (pyNext (.ref z)) Q E s:=by
 have ty:s.TypeIs (.ref z) "zip":=⟨_,z0,rfl⟩
 unfold pyNext
 refine wpAny_bind (wpAny_attempt (wpAny_callSpecial?_slot (name:=Str.ofString "__next__") ty F.slot_zip_next (wpAny_call_entry F.slot_zip_next ty F.entry_zip_next (GX hh D z0 p1 p2 i1 tt hx fun g e hk he=> ?_) (F.args_zip_next_1 _))))
 obtain⟨ob,h1,h2⟩:=he
 exact wpAny_bind (wpAny_isInstance (T:="StopIteration") (b:=true) ⟨ob,h1,h2⟩ isSubtype_stop (wpAny_pure (q g hk)))
abbrev zT1 (h:Heap) (t:Addr):Heap:=h.push {cls:=.type "tuple_iterator",data:=.fields #[.ref t,.int 0 0]}
abbrev zT2 (h:Heap) (t l:Addr):Heap:=(zT1 h t).push {cls:=.type "list_iterator",data:=.fields #[.ref l,.int 0 0]}
abbrev zT3 (h:Heap) (t l:Addr):Heap:=(zT2 h t l).push {cls:=.type "tuple",data:=.seq #[.ref h.objs.size,.ref (zT1 h t).objs.size]}
abbrev zT4 (h:Heap) (t l:Addr):Heap:=(zT3 h t l).push {cls:=.type "tuple",data:=.seq #[.none,.none]}
abbrev zT5 (h:Heap) (t l:Addr):Heap:=(zT4 h t l).push {cls:=.type "zip",data:=.fields #[.none,.bool false,.bool false,.ref (zT2 h t l).objs.size,.ref (zT3 h t l).objs.size]}
theorem FD (t l:Addr) (xs ys:Array Value):
  Meets (Builtin.«zip.__new__» ⟨[.type "zip",.ref t,.ref l],[]⟩) (fun _ R s=>s.heap.IsTuple t xs∧s.heap.IsList l ys∧R (.ok (.ret (.ref (zT4 s.heap t l).objs.size))) {s with heap:=zT5 s.heap t l}):=
 .of_wp fun prog w A R s h=>by
  obtain⟨hp,g,d,tk,os⟩:=s;obtain⟨h1,h2,h⟩:=h
  have hsub:=sub_zip
  have e1:Heap.IsTuple (Shared.heap ⟨hp,g,d,tk,os⟩) t xs:=h1
  have e2:Heap.IsList (Shared.heap ⟨hp.push {cls:=.type "tuple_iterator",data:=.fields #[.ref t,.int 0 0]},g,d,tk,os⟩) l ys:=Heap.IsList.push h2 _
  wp_walk using wpAny_pyIter_tuple e1,wpAny_pyIter_list e2
  exact⟨_,rfl,h⟩
theorem Ic {t l:Addr}{xs ys:Array Value}{Q:Value→Shared→Prop}(h1:s.heap.IsTuple t xs) (h2:s.heap.IsList l ys)
  (q: ∀g,IsZip g (s.heap.objs.size+4) (s.heap.objs.size+2) (s.heap.objs.size+3) .none→IsPair g (s.heap.objs.size+2) (.ref s.heap.objs.size) (.ref (s.heap.objs.size+1))→
   IsPair g (s.heap.objs.size+3) .none .none→g.IsTupleIter s.heap.objs.size t 0→g.IsListIter (s.heap.objs.size+1) l 0→(∀c o,s.heap.get? c=some o→g.get? c=some o)→Q (.ref (s.heap.objs.size+4)) {s with heap:=g}):
  wpAny (model P w) A (call (.type "zip") [.ref t,.ref l]) Q E s:=by
 refine callType_new F.called_zip (by decide) (F.typeCall_zip_2 _ _) (F.newCall_zip_2 _ _) (fun ob=>F.args_object_init_3 ob _ _) F.entry_zip_new (FD t l xs ys) ⟨h1,h2,?_⟩
 have z1:(zT1 s.heap t).objs.size=s.heap.objs.size+1:=Heap.size_push ..
 have z2:(zT2 s.heap t l).objs.size=s.heap.objs.size+2:=by rw[Heap.size_push,z1]
 have z3:(zT3 s.heap t l).objs.size=s.heap.objs.size+3:=by rw[Heap.size_push,z2]
 have z4:(zT4 s.heap t l).objs.size=s.heap.objs.size+4:=by rw[Heap.size_push,z3]
 have g5:(zT5 s.heap t l).get? (zT4 s.heap t l).objs.size=some _:=Heap.get?_push_size _ rfl
 have g4:(zT5 s.heap t l).get? (zT3 s.heap t l).objs.size=some _:=Heap.get?_push_of_some _ (Heap.get?_push_size _ rfl)
 have g3:(zT5 s.heap t l).get? (zT2 s.heap t l).objs.size=some _:=Heap.get?_push_of_some _ (Heap.get?_push_of_some _ (Heap.get?_push_size _ rfl))
 have g2:(zT5 s.heap t l).get? (zT1 s.heap t).objs.size=some _:=Heap.get?_push_of_some _ (Heap.get?_push_of_some _ (Heap.get?_push_of_some _ (Heap.get?_push_size _ rfl)))
 have g1:(zT5 s.heap t l).get? s.heap.objs.size=some _:=Heap.get?_push_of_some _ (Heap.get?_push_of_some _ (Heap.get?_push_of_some _ (Heap.get?_push_of_some _ (Heap.get?_push_size _ rfl))))
 show _∧_
 rw[z2,z3,z4] at g5
 rw[z1,z2] at g3
 rw[z3] at g4
 rw[z1] at g2
 rw[z4]
 exact⟨⟨_,g5,rfl⟩,q _ g5 g3 g4 ⟨_,g1,rfl,rfl⟩ ⟨_,g2,rfl,rfl⟩ fun c ob d=>Heap.get?_push_of_some _ (Heap.get?_push_of_some _ (Heap.get?_push_of_some _ (Heap.get?_push_of_some _ (Heap.get?_push_of_some _ d))))⟩
end
theorem jI {X:Cx}{pins:List (Addr×Obj)}{σ:St}{H:Hp}{s:Shared}{h':Heap}{t':Nat}{ch:List Addr}(I:Inv X pins σ H s) (k: ∀b o,b∉ch→s.heap.get? b=some o→h'.get? b=some o) (hf: ∀b∈ch,Ad X pins H b):
  Inv X pins σ H {s with heap:=h',toks:=t'}:=by
 have nch: ∀b u,H b=some u→b∉ch:=fun b u e z=>by rw[(hf b z).1] at e;cases e
 refine I.step (g':=s.gens) (d':=s.drawn) (ch:=ch) (fun b hb=> ?_) (fun b o _ _ hc e _=>k b o hc e) (fun b o _ _ hc e _=>⟨o.slots,k b o hc e⟩) (fun _ _ _ _ n=>n)
  (fun b o hc e=>⟨o,k b o hc e⟩) (fun _ _ e=>e) (fun _ _ _ e=>e) (fun b ps e=>⟨#[],by rw[e];simp⟩) (fun m hm=> ?_) (fun b u e=> ?_) I.bare
 ·obtain⟨_,f1,_,f3,f4,f5⟩:=hf b hb
  exact⟨f3,f1,f4,f5⟩
 ·obtain⟨o,es,ep,ho,r⟩:=hm
  exact⟨o,es,ep,k _ o (fun z=>(hf _ z).2.1 rfl) ho,r⟩
 ·refine(I.hok b u e).stay (fun c v hc q=>k c v ?_ q) (fun _ q=>q) fun _ _ q=>q
  rcases hc with z |z
  ·rw[z];exact nch b u e
  ·exact nch c _ z
def Itz (K:PySem.W.Frag) (t l:Addr):It:=
 ⟨fun i H=> ∃xs ys x y,SqT K H t xs∧SqL K H l ys∧xs[i]? =some x∧ys[i]? =some y,
  fun i H v H'=> ∃T x y,H T=none∧v=.ref T∧H'=upd H T (.tup [x,y])∧ ∀xs ys,SqT K H t xs→SqL K H l ys→xs[i]? =some x∧ys[i]? =some y,
  fun i H=> ∃xs,SqT K H t xs∧xs.length≤i⟩
theorem IN {P:Program}{w:World}{K:PySem.W.Frag}{elts:List Expr}{x1:Nat}{pos:Pos}{z o1 o2 j1 j2 t l:Addr}(D:ZipApart z o1 o2 j1 j2 t l):
  Bl P w K (.Tuple elts x1 pos) (Itz K t l) [z,o1,o2,j1,j2] z (fun i h=>IsZip h z o1 o2 .none∧IsPair h o1 (.ref j1) (.ref j2)∧(∃a b,IsPair h o2 a b)∧h.IsTupleIter j1 t i∧h.IsListIter j2 l i) where
 mem:=by simp
 obj:=fun i h st b hb=>by
  obtain⟨a1,a2,⟨_,_,a3⟩,⟨ob4,a4,_,d4⟩,⟨ob5,a5,_,d5⟩⟩:=st
  simp only[List.mem_cons,List.not_mem_nil,or_false] at hb
  rcases hb with rfl |rfl |rfl |rfl |rfl
  ·exact⟨_,a1,fun v e=>by cases e⟩
  ·exact⟨_,a2,fun v e=>by cases e⟩
  ·exact⟨_,a3,fun v e=>by cases e⟩
  ·exact⟨_,a4,fun v e=>by rw[d4] at e;cases e⟩
  ·exact⟨_,a5,fun v e=>by rw[d5] at e;cases e⟩
 keep:=fun i h h' st k=>by
  obtain⟨a1,a2,⟨a,b,a3⟩,a4,a5⟩:=st
  exact⟨k z (by simp) _ a1,k o1 (by simp) _ a2,⟨a,b,k o2 (by simp) _ a3⟩,a4.at fun ob e=>k j1 (by simp) ob e,a5.at fun ob e=>k j2 (by simp) ob e⟩
 item:=by
  intro X hP hw hK hc i pins s σ H E I hf st hg
  subst hP hw hK
  obtain⟨xs,ys,x,y,hq1,hq2,hx,hy⟩:=hg
  obtain⟨its,rv,p,hz⟩:=I.tuple hq1
  obtain⟨its2,rv2,p2,hz2⟩:=I.list hq2
  obtain⟨u,hu,ru⟩:=rv.get hx
  obtain⟨u2,hu2,ru2⟩:=rv2.get hy
  obtain⟨a1,a2,⟨a,b,a3⟩,a4,a5⟩:=st
  refine GZ D a1 a2 a3 a4 a5 (show s.heap.IsTuple t its.toArray from p) p2.isList (x:=u) (y:=u2) (by simpa using hu) (by simpa using hu2) fun g b1 b2 b3 b4 b5 b6 off=> ?_
  refine⟨_,rfl,wpAny_letOwnedTupleGo_zip b1 fun g' c1 sb=> ?_⟩
  have lt: ∀c∈[z,o1,o2,j1,j2],c≠s.heap.objs.size:=fun c hc' e=>by
   have hs: ∃ob,s.heap.get? c=some ob:=by
    simp only[List.mem_cons,List.not_mem_nil,or_false] at hc'
    rcases hc' with rfl |rfl |rfl |rfl |rfl
    ·exact⟨_,a1⟩
    ·exact⟨_,a2⟩
    ·exact⟨_,a3⟩
    ·obtain⟨ob,e,_⟩:=a4;exact⟨ob,e⟩
    ·obtain⟨ob,e,_⟩:=a5;exact⟨ob,e⟩
   obtain⟨ob,h⟩:=hs
   rw[e] at h
   exact absurd (Heap.lt_size h) (Nat.lt_irrefl _)
  have fresh:H s.heap.objs.size=none:=I.hok.fresh (Nat.le_refl _)
  have I1:Inv X pins σ (upd H s.heap.objs.size (.tup [x,y])) {s with heap:=s.heap.push {cls:=.type "tuple",data:=.seq #[u,u2]},toks:=s.toks}:=
   I.laid (fun b o e=>Heap.get?_push_of_some _ e) (Nat.le_refl _) ⟨by rw[sizeLine_eq];simp,[u,u2],.cons ru (.cons ru2 .nil),⟨_,Heap.get?_push_size _ rfl,rfl,_,rfl⟩⟩
  have I2:=jI (h':=g') (t':=s.toks) (ch:=[z,o1,o2,j1,j2]) I1 (fun b o hb e=> ?_) (fun b hb=> ?_)
  ·refine⟨.ref s.heap.objs.size,_,I2,rfl,⟨_,x,y,fresh,rfl,rfl,fun xs' ys' h1 h2=>⟨by rw[I.tuple_inj h1 hq1];exact hx,by rw[I.list_inj h2 hq2];exact hy⟩⟩,⟨c1,sb.extBut _ _ D.TIz (off _ _ D.TIz D.TITO D.TIi1 D.TIi2 a2),⟨_,_,sb.extBut _ _ D.TOz b2⟩,b3.extBut sb.extBut D.i1z,b4.extBut sb.extBut D.i2z⟩,fun b hb=> ?_⟩
   rw[aj (lt b hb)]
   exact(hf b hb).1
  ·have nb:b≠z∧b≠o1∧b≠o2∧b≠j1∧b≠j2:=by simpa using hb
   by_cases eb:b=s.heap.objs.size
   ·subst eb
    rw[Heap.get?_push_size _ rfl] at e
    cases e
    exact sb.extBut _ _ nb.1 b5
   ·have e':s.heap.get? b=some o:=by
     rcases Heap.get?_push_cases e with⟨z2,_⟩ |e2
     ·exact absurd z2 eb
     ·exact e2
    exact sb.extBut _ _ nb.1 (off b o nb.1 nb.2.2.1 nb.2.2.2.1 nb.2.2.2.2 e')
  ·obtain⟨f0,f1⟩:=hf b hb
   exact⟨by rw[aj (lt b hb)];exact f0,f1⟩
 done:=by
  intro X hP hw hK hc i pins s σ H E I hf st hg
  subst hP hw hK
  obtain⟨xs,hq,hx⟩:=hg
  obtain⟨its,rv,p,hz⟩:=I.tuple hq
  have hl:=rv.length
  obtain⟨a1,a2,⟨a,b,a3⟩,a4,a5⟩:=st
  refine DK (I.ok.hd hc) D a1 a2 a3 a4 (show s.heap.IsTuple t its.toArray from p) (by simp;omega) fun g off=>⟨rfl,jI (t':=s.toks) (ch:=[z,o1,o2,j1,j2]) I (fun b o hb e=> ?_) hf⟩
  have nb:b≠z∧b≠o1∧b≠o2∧b≠j1∧b≠j2:=by simpa using hb
  exact off b o nb.1 nb.2.2.1 nb.2.2.2.1 nb.2.2.2.2 e
 self:=fun _ _ _ _ _ st h=>wpAny_pyIter_zip st.1 h
end L2
namespace L2
open PySem PySem.Spec PyProof.Rows PySem.W
section
variable {X:Cx}{tg:Expr}
theorem Ks {K:PySem.W.Frag}{a l:Addr}{xs ys:List V}{g:TG}{ds:List Nat}{k:Nat}{tc:TT}{te:TE}{σ:St}{H1:Hp}{D:Addr}{F:Hp→Prop}(Pv:Nat→List V→Hp→Prop) (h0:Pv 0 [] (upd H1 D (.lst []))) (hxy:xs.length=ys.length)
  (hl: ∀i acc H2,i≤xs.length→Pv i acc H2→SqT K H2 a xs∧SqL K H2 l ys) (hs: ∀i x y acc H2 T,xs[i]? =some x→ys[i]? =some y→Pv i acc H2→H2 T=none→g (.ref T) (gw ds k σ) (upd H2 T (.tup [x,y])) fun σ4 H4=>tc σ4 H4 fun b H5=>if b=true then
   te σ4 H5 fun y H6=>H6 D=some (.lst acc)∧acc.length<sizeLine∧ ∃m',m'<xs.length-i∧m'=xs.length-(i+1)∧i+1≤xs.length∧Pv (i+1) (acc++[y]) (upd H6 D (.lst (acc++[y])))
   else∃m',m'<xs.length-i∧m'=xs.length-(i+1)∧i+1≤xs.length∧Pv (i+1) acc H5) (hd: ∀acc H2,Pv xs.length acc H2→F H2):
  ∃W:Nat→Nat→List V→Hp→Prop,(∃m,W 0 m [] (upd H1 D (.lst [])))∧ ∀i m acc H2,W i m acc H2→
  ((Itz K a l).stop i H2∧F H2)∨((Itz K a l).go i H2∧ ∀x H3,(Itz K a l).yld i H2 x H3→g x (gw ds k σ) H3 fun σ4 H4=>tc σ4 H4 fun b H5=>if b=true then
   te σ4 H5 fun y H6=>H6 D=some (.lst acc)∧acc.length<sizeLine∧ ∃m',m'<m∧W (i+1) m' (acc++[y]) (upd H6 D (.lst (acc++[y])))
   else∃m',m'<m∧W (i+1) m' acc H5):=by
 refine⟨fun i m acc H2=>m=xs.length-i∧i≤xs.length∧Pv i acc H2,⟨_,rfl,Nat.zero_le _,h0⟩,?_⟩
 rintro i m acc H2 ⟨rfl,hi,p⟩
 obtain⟨q,q2⟩:=hl i acc H2 hi p
 by_cases hlt:i<xs.length
 ·have hlt2:i<ys.length:=by omega
  refine .inr ⟨⟨xs,ys,xs[i],ys[i],q,q2,by simp[hlt],by simp[hlt2]⟩,fun x H3 y=> ?_⟩
  obtain⟨T,x',y',hT,e,eH,y⟩:=y
  subst e eH
  obtain⟨y1,y2⟩:=y xs ys q q2
  exact hs i x' y' acc _ T y1 y2 p hT
 ·have e:i=xs.length:=by omega
  subst e
  exact .inl ⟨⟨xs,q,Nat.le_refl _⟩,hd acc H2 p⟩
theorem cb {st:Stmt}:PS X st (fun _ _ _=>False):=fun _ _ _ _ _ _ h=>h.elim
end
end L2
namespace L2
open PySem PySem.Spec PyProof.Rows PySem.W
theorem PL {K:PySem.W.Frag}{w:World}{pm:Params}{a:Addr}(h:w.params=pm) (k:Mj K pm a):Mj K w.params a:=h▸k
def gl (c:Nat):List (List Nat)→List Nat
 | []=> []
 | [x]=>x
 |x::y::r=>x++c::gl c (y::r)
end L2
namespace L2
open PySem PySem.Spec PyProof.Rows
section
variable {prog:Program}{w:World}{A:Around}{E:Value→Shared→Prop}{s:Shared}
end
section
variable {P:Program}{w:World}{A:Around}{R:Result→Shared→Prop}{h0:Heap}{l it d:Addr}{its:Array Value}{Es:List fk}
end
section
variable {P:Program}{w:World}{A:Around}{E:Value→Shared→Prop}{s:Shared}{l:Addr}{its:Array Value}{Es:List fk}{Q:Value→Shared→Prop}
end
section
variable {X:Cx}
end
end L2
namespace L2
open PySem PySem.Spec PyProof.Rows PySem.W
abbrev dE (P:Program) (w:World) (d:Addr) (kvs:List (Key×V)) (ep:Nat):HO:=.ext fun h=>((d==sysModules)=false∧kvs.length≤sizeLine)∧ ∃vs,KV kvs vs∧h.DictAt (aT P w) d vs ep
theorem FS: ∀{kvs:List (Key×V)}{vs:List (Key×Value)},KV kvs vs→ ∀(i:Nat) (k:Key) (v:V),kvs[i]? =some (k,v)→ ∃u,vs[i]? =some (k,u)∧aZ v u
 |_,_,.nil,i,k,v,h=>by simp at h
 |_,_,.cons (b:=q) ⟨e1,e2⟩ t,i,k,v,h=>by
  cases i with
  |zero=>
   simp at h
   subst h
   obtain⟨k',u⟩:=q
   have e1:k=k':=e1
   subst e1
   exact⟨u,rfl,e2⟩
  |succ i=>
   obtain⟨u,h1,h2⟩:=FS t i k v (by simpa using h)
   exact⟨u,by simpa using h1,h2⟩
theorem LN {P:Program}{w:World}{k:Key}{u:Value}(h:(aT P w).is k u=true):aZ (kV k) u:=by
 rcases mIs.flat (P:=P) (w:=w) (h:=default) (k:=k) (v:=u) h with⟨i,t,rfl,rfl⟩ |⟨z,t,rfl,rfl⟩
 ·exact⟨t,rfl⟩
 ·exact⟨t,rfl⟩
section
variable {X:Cx}{pins:List (Addr×Obj)}{σ:St}{H:Hp}{s:Shared}{d:Addr}{kvs:List (Key×V)}{ep:Nat}
theorem Inv.walk (I:Inv X pins σ H s) (h:H d=some (.dK kvs)): ∃ep vs,KV kvs vs∧s.heap.DictAt (aT X.prog X.w) d vs ep∧(d==sysModules)=false∧Inv X pins σ (upd H d (dE X.prog X.w d kvs ep)) s:=by
 obtain⟨hz,hs,vs,kv,dof⟩:=I.hok d _ h
 obtain⟨ep,da⟩:=dof.dictAt
 obtain⟨o,es,ho,_⟩:=id da
 refine⟨ep,vs,kv,da,hs,?_⟩
 have J:=I.write (h':=s.heap) (t':=s.toks) (x:=d) (e:=d) (o:=dE X.prog X.w d kvs ep) (by rw[h];exact True.intro) (.inl rfl) (fun _ _ _ e=>e) ⟨o,ho⟩ ⟨⟨⟨hs,hz⟩,vs,kv,da⟩,⟨o,ho⟩,fun _ _ ⟨a,vs,b,c⟩ k=>⟨a,vs,b,c.at' k⟩⟩
 exact J
theorem Inv.thaw (I:Inv X pins σ H s) (h:H d=some (dE X.prog X.w d kvs ep)):Inv X pins σ (upd H d (.dK kvs)) s:=by
 obtain⟨⟨⟨hs,hz⟩,vs,kv,da⟩,⟨o,ho⟩,_⟩:=I.hok d _ h
 have J:=I.write (h':=s.heap) (t':=s.toks) (x:=d) (e:=d) (o:=.dK kvs) (by rw[h];exact True.intro) (.inl rfl) (fun _ _ _ e=>e) ⟨o,ho⟩ ⟨hz,hs,vs,kv,da.dictOf⟩
 exact J
end
def Itk (P:Program) (w:World) (d:Addr) (kvs:List (Key×V)) (ep:Nat) (f:Key×V→V):It:=⟨fun i H=>H d=some (dE P w d kvs ep)∧i<kvs.length,fun i H x H'=>H'=H∧kvs[i]?.map f=some x,fun i H=>H d=some (dE P w d kvs ep)∧kvs.length≤i⟩
theorem G5 {P:Program}{w:World}{K:PySem.W.Frag}{tg:Expr}(d it:Addr) (kvs:List (Key×V)) (ep:Nat):Bl P w K tg (Itk P w d kvs ep fun p=>kV p.1) [it] it (fun i h=>h.IsKeyIter it d i kvs.length ep) where
 mem:=by simp
 obj:=fun i h st b hb=>by
  have e:b=it:=by simpa using hb
  subst e
  obtain⟨o,e,c,dt⟩:=st
  exact⟨o,e,fun v z=>by rw[dt] at z;cases z⟩
 keep:=fun i h h' ⟨o,e,r⟩ k=>⟨o,k it (by simp) o e,r⟩
 item:=by
  intro X hP hw hK hc i pins s σ H E I hf st hg
  subst hP hw hK
  obtain⟨hd,hi⟩:=hg
  obtain⟨⟨_,vs,kv,da⟩,_⟩:=I.hok d _ hd
  have hlen:kvs.length=vs.length:=Paired.length kv
  obtain⟨f0,f1,f2,f3,f4,f5⟩:=hf it (by simp)
  have hx:kvs[i]? =some kvs[i]:=List.getElem?_eq_getElem hi
  obtain⟨u,hu,ru⟩:=FS kv i kvs[i].1 kvs[i].2 hx
  have st:s.heap.IsKeyIter it d i kvs.length ep:=st
  rw[hlen] at st
  refine wpAny_pyNext_dict_item st da hu fun key h' hk st' sb=> ?_
  have I1:Inv X pins σ H {s with heap:=h'}:=I.turned (t':=s.toks) (fun b o hb e=>(sb.2 b hb).trans e) f0 f1 f3 f4 f5
  obtain⟨o,e,c,dt⟩:=id st'
  rw[←hlen] at st'
  exact⟨key,rfl,Bz (s:={s with heap:=h'}) e c dt (by decide) ⟨kV kvs[i].1,H,I1,LN hk,⟨rfl,by rw[hx];rfl⟩,st',fun b hb=>(hf b hb).1⟩⟩
 done:=by
  intro X hP hw hK hc i pins s σ H E I hf st hg
  subst hP hw hK
  obtain⟨hd,hi⟩:=hg
  obtain⟨⟨_,vs,kv,da⟩,_⟩:=I.hok d _ hd
  have hlen:kvs.length=vs.length:=Paired.length kv
  obtain⟨f0,f1,f2,f3,f4,f5⟩:=hf it (by simp)
  have st:s.heap.IsKeyIter it d i kvs.length ep:=st
  rw[hlen] at st
  exact wpAny_pyNext_dict_end (I.ok.hd hc) st da (List.getElem?_eq_none (by omega)) fun h' eb=>⟨rfl,I.turned (t':=s.toks) (fun b o hb e=>eb b o hb e) f0 f1 f3 f4 f5⟩
 self:=fun _ _ _ _ _ st h=>wpAny_pyIter_keyiter st h
theorem G3 {P:Program}{w:World}{K:PySem.W.Frag}{tg:Expr}(d it:Addr) (kvs:List (Key×V)) (ep:Nat):Bl P w K tg (Itk P w d kvs ep fun p=>p.2) [it] it (fun i h=>h.IsValIter it d i kvs.length ep) where
 mem:=by simp
 obj:=fun i h st b hb=>by
  have e:b=it:=by simpa using hb
  subst e
  obtain⟨o,e,c,dt⟩:=st
  exact⟨o,e,fun v z=>by rw[dt] at z;cases z⟩
 keep:=fun i h h' ⟨o,e,r⟩ k=>⟨o,k it (by simp) o e,r⟩
 item:=by
  intro X hP hw hK hc i pins s σ H E I hf st hg
  subst hP hw hK
  obtain⟨hd,hi⟩:=hg
  obtain⟨⟨_,vs,kv,da⟩,_⟩:=I.hok d _ hd
  have hlen:kvs.length=vs.length:=Paired.length kv
  obtain⟨f0,f1,f2,f3,f4,f5⟩:=hf it (by simp)
  have hx:kvs[i]? =some kvs[i]:=List.getElem?_eq_getElem hi
  obtain⟨u,hu,ru⟩:=FS kv i kvs[i].1 kvs[i].2 hx
  have st:s.heap.IsValIter it d i kvs.length ep:=st
  rw[hlen] at st
  refine wpAny_pyNext_values_item st da hu fun h' st' sb=> ?_
  have I1:Inv X pins σ H {s with heap:=h'}:=I.turned (t':=s.toks) (fun b o hb e=>(sb.2 b hb).trans e) f0 f1 f3 f4 f5
  obtain⟨o,e,c,dt⟩:=id st'
  rw[←hlen] at st'
  exact⟨u,rfl,Bz (s:={s with heap:=h'}) e c dt (by decide) ⟨kvs[i].2,H,I1,ru,⟨rfl,by rw[hx];rfl⟩,st',fun b hb=>(hf b hb).1⟩⟩
 done:=by
  intro X hP hw hK hc i pins s σ H E I hf st hg
  subst hP hw hK
  obtain⟨hd,hi⟩:=hg
  obtain⟨⟨_,vs,kv,da⟩,_⟩:=I.hok d _ hd
  have hlen:kvs.length=vs.length:=Paired.length kv
  obtain⟨f0,f1,f2,f3,f4,f5⟩:=hf it (by simp)
  have st:s.heap.IsValIter it d i kvs.length ep:=st
  rw[hlen] at st
  exact wpAny_pyNext_values_end (I.ok.hd hc) st da (List.getElem?_eq_none (by omega)) fun h' eb=>⟨rfl,I.turned (t':=s.toks) (fun b o hb e=>eb b o hb e) f0 f1 f3 f4 f5⟩
 self:=fun _ _ _ _ _ st h=>wpAny_pyIter_valiter st h
section
variable {X:Cx}{P:Program}{w:World}{tg l o e:Expr}{tl td te:TE}{apos cpos:Pos}
def Pd (P:Program) (w:World) (tl:TE):TI:=fun σ H R=>tl σ H fun x H1=> ∃d kvs,x=.ref d∧H1 d=some (.dK kvs)∧ ∀ep,R (Itk P w d kvs ep fun p=>kV p.1) (upd H1 d (dE P w d kvs ep))
theorem LE (hl:PE X l tl) (hP:X.prog=P:=by rfl) (hw:X.w=w:=by rfl):PI X tg l (Pd P w tl):=by
 subst hP hw
 intro pins s σ H R I h
 refine thn (hl pins s σ H _ I h) fun v s1 ⟨x,H1,I1,r1,d,kvs,e,hd,q⟩=> ?_
 subst e
 obtain rfl:v=Value.ref d:=r1
 obtain⟨ep,vs,kv,da,hs,I2⟩:=I1.walk hd
 have hlen:kvs.length=vs.length:=Paired.length kv
 refine wpAny_pyIter_dict hs da ?_
 refine⟨s1.heap.objs.size,[s1.heap.objs.size],_,_,_,rfl,I2.kept (t':=s1.toks) fun b o e=>Heap.get?_push_of_some _ e,G5 d _ kvs ep,⟨_,Heap.get?_push_size _ rfl,rfl,by rw[hlen];rfl⟩,fun b hb=> ?_,q ep⟩
 have e:b=s1.heap.objs.size:=by simpa using hb
 subst e
 exact I2.fpOk (Nat.le_refl _) (I2.hok.fresh (Nat.le_refl _))
def O8 (P:Program) (w:World) (td:TE):TI:=fun σ H R=>td σ H fun x H1=> ∃d kvs,x=.ref d∧H1 d=some (.dK kvs)∧ ∀ep,R (Itk P w d kvs ep fun p=>p.2) (upd H1 d (dE P w d kvs ep))
def Pz (P:Program) (w:World) (t:TE):TE:=fun σ H Q=>t σ H fun v H1=> ∃d kvs ep,H1 d=some (dE P w d kvs ep)∧Q v (upd H1 d (.dK kvs))
theorem Np (h:PE X e te) (hP:X.prog=P:=by rfl) (hw:X.w=w:=by rfl):PE X e (Pz P w te):=by
 subst hP hw
 intro pins s σ H Q I hq
 refine thn (h pins s σ H _ I hq) fun u s1 ⟨v,H1,I1,r,d,kvs,ep,hd,q⟩=> ?_
 exact⟨v,_,I1.thaw hd,r,q⟩
def OH (P:Program) (w:World) (t:TS):TS:=fun D σ H=>t {D with nx:=fun σ' H1=> ∃d kvs ep,H1 d=some (dE P w d kvs ep)∧D.nx σ' (upd H1 d (.dK kvs))} σ H
theorem Nf {st:Stmt}{t:TS}(h:PS X st t) (hP:X.prog=P:=by rfl) (hw:X.w=w:=by rfl):PS X st (OH P w t):=by
 subst hP hw
 intro pins s σ H D I hq
 refine wpAny_mono (h pins s σ H _ I hq) (fun f s1 z=> ?_) fun _ _ z=>z
 cases f with
 |next=>obtain⟨σ',H',I',d,kvs,ep,hd,q⟩:=z;exact⟨σ',_,I'.thaw hd,q⟩
 |brk=>exact z
 |cont=>exact z
 |ret u=>exact z
end
end L2
namespace L2
open PySem PySem.Spec PyProof.Rows PySem.W
section
variable {X:Cx}{P:Program}{w:World}{tg l o e:Expr}{tl td te ty:TE}{apos cpos pos:Pos}
theorem LC (ho:PE X o td) (hP:X.prog=P:=by rfl) (hw:X.w=w:=by rfl) (hbase:attributeBase o "values" X.env (eval o X.env)=eval o X.env:=by rfl) (hline:(apos.endLine==cpos.line)=true:=by rfl):PI X tg (.Call (.Attribute o "values" apos) [] [] cpos) (O8 P w td):=by
 subst hP hw
 intro pins s σ H R I h
 refine wpAny_Call_method0_late hbase hline (thn (ho pins s σ H _ I h) fun v s1 ⟨x,H1,I1,r1,d,kvs,e,hd,q⟩=> ?_)
 subst e
 obtain rfl:v=Value.ref d:=r1
 obtain⟨ep,vs,kv,da,hs,I2⟩:=I1.walk hd
 have hlen:kvs.length=vs.length:=Paired.length kv
 obtain⟨ob,es,ho1,hx,_⟩:=id da
 refine⟨"dict","dict.values",PySem.F.plainAttrs_dict,PySem.F.slot_dict_values,PySem.F.type_dict_values,da.dictOf.typeIs,?_,Calls.callWith_builtin rfl (PySem.evalArgs_none (call_meetsIn PySem.F.slot_dict_values da.dictOf.typeIs PySem.F.entry_dict_values (PySem.F.args_dict_values_1 _) (meets_dict_values (aT X.prog X.w) d hs) ⟨⟨vs,da.dictOf⟩,?_⟩))⟩
 ·intro b z
  cases z
  exact⟨ob,ho1,hx.2.1⟩
 ·have hv:(s1.heap.push {cls:=.type "dict_values",data:=.fields #[.ref d]}).IsValuesView s1.heap.objs.size d:=⟨_,Heap.get?_push_size _ rfl,rfl,rfl⟩
  show wpAny _ _ (pyIter (.ref s1.heap.objs.size)) _ _ _
  have I3:=I2.kept (h':=s1.heap.push {cls:=.type "dict_values",data:=.fields #[.ref d]}) (t':=s1.toks) fun b o e=>Heap.get?_push_of_some _ e
  refine wpAny_pyIter_values (s:={s1 with heap:=s1.heap.push {cls:=.type "dict_values",data:=.fields #[.ref d]}}) hv (da.push _) ?_
  refine⟨_,[(s1.heap.push {cls:=.type "dict_values",data:=.fields #[.ref d]}).objs.size],_,_,_,rfl,I3.kept (t':=s1.toks) fun b o e=>Heap.get?_push_of_some _ e,G3 d _ kvs ep,⟨_,Heap.get?_push_size _ rfl,rfl,by rw[hlen];rfl⟩,fun b hb=> ?_,q ep⟩
  have e:b=(s1.heap.push {cls:=.type "dict_values",data:=.fields #[.ref d]}).objs.size:=by simpa using hb
  subst e
  exact I3.fpOk (Nat.le_refl _) (I3.hok.fresh (Nat.le_refl _))
def K5 (K:PySem.W.Frag) (ty td:TE):TE:=fun σ H Q=>ty σ H fun y H1=>td σ H1 fun x H2=>(∃a o,x=.ref a∧e8 H2 a y o∧Q (.bl (!o.isSome)) H2)∨rIn K true y x H2 Q
theorem Hm {i:Expr}(K:PySem.W.Frag) (hK:X.K=K) (hu:X.A.units+1<cLine) (hi:PE X i ty) (ho:PE X o td):PC X .NotIn i o (K5 K ty td):=by
 subst hK
 intro pins s σ H Q I h
 refine thn (hi pins s σ H _ I h) fun iv s1 ⟨y,H1,I1,ry,q1⟩=> ?_
 refine thn (ho pins s1 σ H1 _ I1 q1) fun ov s2 ⟨x,H2,I2,rx,q2⟩=> ?_
 rcases q2 with⟨a,r,e,g,q⟩ |q
 ·subst e
  obtain rfl:ov=Value.ref a:=rx
  exact GL hu I2 g ry fun s3 I3=>⟨.bl (!r.isSome),H2,I3,rfl,q⟩
 ·exact Cy pins s2 σ H2 y x iv ov Q I2 ry rx q
def OA (K:PySem.W.Frag) (a:Addr) (ty:TE):TE:=fun σ H Q=>ty σ H fun y H1=> ∃x r,y=.str x∧PySem.W.nsIn K a x=some r∧((r=none∧Q .non H1)∨ ∃u v,r=some u∧aZ v u∧Q v H1)
theorem LG {x:Str}{npos:Pos}{a:Addr}(K:PySem.W.Frag) (hK:X.K=K) (hd:Mj K X.w.params a) (hg:Gl X x) (hm:X.mg x=some (.ref a)) (he:PE X e ty) (m:M1 X (.Name x npos) "get" apos e cpos) (hdb:(x==("__debug__":Str))=false:=by decide):PE X (.Call (.Attribute (.Name x npos) "get" apos) [e] [] cpos) (OA K a ty):=by
 subst hK
 intro pins s σ H Q I h
 obtain⟨lo,es,n,hl,hk⟩:=hd
 have hn:PE X (.Name x npos) (tC (.ref a)):=Gw hg hm rfl hdb
 refine wpAny_Call_method m.base m.few m.line PySem.F.plainAttrs_dict PySem.F.slot_dict_get PySem.F.type_dict_get (thn (hn pins s σ H (fun v H'=>v=.ref a∧H'=H) I ⟨rfl,rfl⟩) fun u s1 ⟨z,H1,I1,rx,ez,eH⟩=> ?_)
 subst ez eH
 obtain rfl:u=Value.ref a:=rx
 have hm1:=PySem.W.mapOf_K (prog:=X.prog) (w:=X.w) I1.kIn hl hk
 refine⟨hm1.typeIs,fun b z=>by cases z;exact⟨_,I1.kIn _ _ hl,rfl⟩,?_⟩
 rw[m.trees]
 refine Calls.callWith_builtin rfl (Calls.evalArgs_plain (Calls.spliced_cons (thn (he pins s1 σ H1 _ I1 h) fun iv s2 ⟨y,H2,I2,ry,x',r,ey,hu,q2⟩=>Calls.spliced_nil ?_)))
 subst ey
 obtain⟨tk,rfl⟩:=ry
 have hm2:=PySem.W.mapOf_K (prog:=X.prog) (w:=X.w) I2.kIn hl hk
 refine call_meetsIn PySem.F.slot_dict_get hm2.typeIs PySem.F.entry_dict_get (PySem.F.args_dict_get_2 _ _) (meets_dict_get (strKind X.prog X.w) a (PySem.strKind_is X.prog X.w x' tk) lo) ⟨_,hm2,?_⟩
 rw[PySem.W.find_K hl hu]
 rcases q2 with⟨rfl,q⟩ |⟨u',v',rfl,rv,q⟩
 ·exact⟨.non,H2,I2.tok _,rfl,q⟩
 ·exact⟨v',H2,I2.tok _,rv,q⟩
theorem Ba (K:PySem.W.Frag) (hK:X.K=K):cQ X (.builtin "sorted") (fun xs H Q=> ∃(p:Addr) (ks:List Int),xs=[.ref p]∧SqL K H p (ks.map V.int)∧ks.length<64∧ ∀(q:Addr) (ns:List Int),H q=none→ns.Perm ks→ns.Pairwise (· ≤ ·)→Q (.ref q) (upd H q (.lst (ns.map V.int)))):=by
 subst hK
 intro pins s σ H xs us Q I r h
 obtain⟨p,ks,rfl,hp,hn,q⟩:=h
 obtain⟨u,rfl,r1⟩:=o7 r
 obtain rfl:u=Value.ref p:=r1
 obtain⟨its,rv,⟨o,n,e1,e2,e3,e4⟩,_⟩:=I.list hp
 have hlen:=rv.length
 rw[List.length_map] at hlen
 refine sorted_ints (vs:=its) ⟨o,e1,e2,n,e4⟩ (ze rv) (by omega) fun out ns' a1 a2 a3=> ?_
 obtain⟨ep,hat⟩:=sortedAll_at s.heap its out
 have hol:=a2.length_eq
 refine⟨.ref (s.heap.objs.size+1),_,I.laid (h':=sortedAll s.heap its out) (t':=s.toks) (o:=.lst (ns'.map V.int)) (fun _ _=>sortedAll_old) (Nat.le_succ _) ⟨?_,out.toList,ep,uO a1,by rw[Array.toArray_toList];exact hat⟩,rfl,q _ ns' (I.hok.fresh (Nat.le_succ _)) a2 a3⟩
 rw[List.length_map,sizeLine_eq]
 omega
end
end L2
namespace L2
open PySem PySem.W PyProof.Rows
section
variable {M:Model}{A:Around}{E:Value→Shared→Prop}
theorem Hv {C D N N':Addr}{nm q nm' q':Str}{bs bs' bm bm':List Value}{hd sn sub ab col hd' sn' sub' ab' col'} {dd dd':Option Addr}{k0 k1 k2 k3 k5 k0' k1' k2' k3' k5':Option Value}{id id':String}{s:Shared}{e:Addr}{oe:Obj}{Q:Bool→Shared→Prop}
  (hC:s.heap.get? C=some (excClassObj nm q C N bs bm hd sn sub ab col dd k0 k1 k2 k3 k5 id)) (hD:s.heap.get? D=some (excClassObj nm' q' D N' bs' bm' hd' sn' sub' ab' col' dd' k0' k1' k2' k3' k5' id')) (he:s.heap.get? e=some oe) (hcls:oe.cls=.ref C)
  (hb:bm'.contains (.type "BaseException")=true) (hq:Q ((Value.ref C::bm).contains (.ref D)) s):wpAny M A (excMatches (.ref e) (.ref D)) Q E s:=by
 obtain⟨h,g,d,t,os⟩:=s
 have hcB:(Value.ref D::bm').contains (.type "BaseException")=true:=by rw[List.contains_cons,hb,Bool.or_true]
 have f:=tc_notTuple
 unfold excMatches
 repeat (first |(with_reducible refine wpAny_loadPart_at he ?_;rw[hcls]) |with_reducible refine wpAny_loadPart_at hD ?_ |(with_reducible refine wpAny_isSubtype_exc hD ?_;rw[hcB]) |(with_reducible refine wpAny_isSubtype_exc hC ?_) |wp_step)
 cases hc:(Value.ref C::bm).contains (Value.ref D) with
 |true=>
  rw[hc] at hq
  rw[if_pos rfl]
  exact wpAny_pure (wpAny_pure (wpAny_pure hq))
 |false=>
  rw[hc] at hq
  rw[if_neg Bool.false_ne_true]
  exact wpAny_pure (wpAny_pure (wpAny_pure hq))
end
def Oe (K:PySem.W.Frag) (C:Addr) (bm:List Value):Prop:= ∃c0 dd cd sl,K.lookup C=some ⟨c0,dd,.cls cd,sl⟩∧cd.mro=.ref C::bm
theorem Oe.is {K:PySem.W.Frag}{C:Addr}{bm bm':List Value}{h:Heap}{o:Obj}{cd':ClassData}(m:Oe K C bm) (kin:K.In h) (e:h.get? C=some o) (hd:o.data=.cls cd') (hm:cd'.mro=.ref C::bm'):bm'=bm:=by
 obtain⟨c0,dd,cd,sl,l,r⟩:=m
 have e2:=kin _ _ l
 rw[e] at e2
 cases e2
 have hd:Data.cls cd=Data.cls cd':=hd
 cases hd
 rw[hm] at r
 exact(List.cons.inj r).2
def MG (K:PySem.W.Frag) (C D:Addr):Prop:= ∃bm,Oe K C bm∧(Value.ref C::bm).contains (.ref D)=false
def Ou (tb:XK→TS) (C1:Addr) (th1:TS) (C2:Addr) (th2:TS):TS:=fun D σ H=>tb (fun C' _ H'=>(C'=.ref C1∧th1 D σ H')∨(C'=.ref C2∧th2 D σ H')) D σ H
theorem LA {X:Cx}{st b1 b2:Stmt}{suite1 suite2:List Stmt}{tb:XK→TS}{th1 th2:TS}{C1 C2:Addr}{x1 x2:Str}{np1 hp1 np2 hp2 pos:Pos}(hst:X.stack=X.env::X.outer) (hf:X.env.frame=some X.env.locals) (hC1:ExC X.K C1) (hg1:Gl X x1) (hm1:X.mg x1=some (.ref C1)) (hC2:ExC X.K C2) (hg2:Gl X x2) (hm2:X.mg x2=some (.ref C2)) (mr:MG X.K C2 C1)
  (hb: ∀(E:XK) (pins:List (Addr×Obj)) (σ:St) (Xe:Value→Shared→Prop),uv (CXe X.prog X.w) (X.wish Xe) E pins σ→Pm (X.wish Xe) pins σ st (tb E)) (hh1: ∀ea,PSs (X.inExc ea) (b1::suite1) th1) (hh2: ∀ea,PSs (X.inExc ea) (b2::suite2) th2)
  (hdb1:(x1==("__debug__":Str))=false:=by decide) (hdb2:(x2==("__debug__":Str))=false:=by decide):PS X (.Try [st] [.ExceptHandler (some (.Name x1 np1)) none (b1::suite1) hp1,.ExceptHandler (some (.Name x2 np2)) none (b2::suite2) hp2] [] [] pos) (Ou tb C1 th1 C2 th2):=by
 intro pins s σ H D I h
 obtain⟨bm2,mr,hno⟩:=mr
 refine wpAny_Try_except ?_
 have hp:uv (CXe X.prog X.w) (X.wish fun e s₁=>wpAny (model X.prog X.w) X.A (noteFrame e X.env) (fun _ s₂=>wpAny (model X.prog X.w) X.A (setFlight e none) (fun _ s₃=>wpAny (model X.prog X.w) X.A (handleBy e X.env [.ExceptHandler (some (.Name x1 np1)) none (b1::suite1) hp1,.ExceptHandler (some (.Name x2 np2)) none (b2::suite2) hp2]) (SP X pins D) X.xe s₃) X.xe s₂) X.xe s₁)
   (fun C' _ H'=>(C'=.ref C1∧th1 D σ H')∨(C'=.ref C2∧th2 D σ H')) pins σ:=by
  rintro H1 s1 e s' I1 ⟨ea,C',B,t,H',rfl,os,bare,un,hok,fl,cov1,cov2,hth⟩
  have I1:=I1.unwish
  have un:Un (frs X.stack) [] H1 H' s1.heap s'.heap:=un
  have fl:Heap.FlyingW B X.stack ea C' (.ref t) s'.heap:=fl
  have cov2: ∀b o,s1.heap.get? b=some o→b∉frs X.stack→ ∃u,B.get? b=some u:=cov2
  have frn: ∀b∈frs X.stack,H1 b=none∧ ∀o,s1.heap.get? b=some o→ ∀vs,o.data≠.fields vs:=fun b hb=>by
   refine⟨I1.stkFree b hb,fun o e=> ?_⟩
   obtain⟨_,o',ho',hd⟩:=I1.stack.mem hb
   rw[e] at ho'
   cases ho'
   exact hd
  have land: ∀h5,B.StaysIn h5→s'.heap.UpToSlots h5→Inv X pins σ H' {s' with heap:=h5}:=fun h5 k up=>
   I1.call' (s':={s' with heap:=h5}) (ch:=[]) os (un.flown cov2 fl.1 k up frn) (hok.flown cov1 fl.1 k) bare fun b z=>absurd z (by simp)
  show wpAny (model X.prog X.w) X.A (noteFrame (.ref ea) X.env) _ X.xe s'
  have fl0:=fl
  rw[hst] at fl0
  refine wpAny_looks_onW (outer:=X.outer) (by rw[I.ok.frames,hst]) hf fl0 fun h4 held4 up4=> ?_
  refine wpAny_landsW held4 fun h5 fl5 up5=> ?_
  have I5:=land h5 fl5.1 (up4.trans up5)
  obtain⟨bm,N,nm,q,bs,hd,sn,sub,ab,col,dd,k0,k1,k2,k3,k5,mN,hCo,hN,hni,T⟩:=hC1.at I.mod.kin
  obtain⟨bm',N',nm',q',bs',hd',sn',sub',ab',col',dd',k0',k1',k2',k3',k5',mN',hCo',hN',hni',T'⟩:=hC2.at I.mod.kin
  obtain⟨ob,hob,hobc⟩:=fl5.there
  refine wpAny_handleBy_cons (codeAny_handlers_test (qy (I5.inExc ea) hg1 hm1 ?_ hdb1)) (by intro z;cases z)
  rcases hth with⟨rfl,hth⟩ |⟨rfl,hth⟩
  ·refine wpAny_excMatches_sub_self (I5.bk _ _ hCo) hob hobc (T.hasType PySem.F.excBase_ValueError.hasBase) (codeAny_handlers_suite ?_)
   refine lands_againW fl5 fun h6 fl6 up6=> ?_
   have I6:=land h6 fl6.1 ((up4.trans up5).trans up6)
   exact wpAny_mono (hh1 ea pins _ σ H' D (I6.inExc ea) hth) (fun f s2 z=>z.outExc I.ok) fun _ _ z=>z.elim
  ·refine Hv (I5.bk _ _ hCo') (I5.bk _ _ hCo) hob hobc (T.hasType PySem.F.excBase_ValueError.hasBase) ?_
   obtain rfl:bm'=bm2:=mr.is I.mod.kin hCo' rfl rfl
   rw[hno]
   refine wpAny_handleBy_cons (codeAny_handlers_test (qy (I5.inExc ea) hg2 hm2 ?_ hdb2)) (by intro z;cases z)
   refine wpAny_excMatches_sub_self (I5.bk _ _ hCo') hob hobc (T'.hasType PySem.F.excBase_ValueError.hasBase) (codeAny_handlers_suite ?_)
   refine lands_againW fl5 fun h6 fl6 up6=> ?_
   have I6:=land h6 fl6.1 ((up4.trans up5).trans up6)
   exact wpAny_mono (hh2 ea pins _ σ H' D (I6.inExc ea) hth) (fun f s2 z=>z.outExc I.ok) fun _ _ z=>z.elim
 have b:=hb _ pins σ _ hp s H D (I.wish _) h
 refine wpAny_execs_cons (wpAny_mono b (fun f s1 z=> ?_) fun _ _ z=>z)
 have z:=z.unwish
 cases f with
 |next=>exact wpAny_execs_nil (wpAny_execs_nil z)
 |ret v=>exact z
 |brk=>exact z
 |cont=>exact z
end L2
namespace L2
open PySem PySem.Spec PyProof.Rows PySem.W
section
variable {P:Program}{w:World}{A:Around}{E:Value→Shared→Prop}{s:Shared}
theorem GV {z o1 o2 j1 j2 t l:Addr}{k1 k2:Nat}{xs ys:Array Value}{x y a b:Value}{Q:Value→Shared→Prop}(D:ZipApart z o1 o2 j1 j2 t l)
  (z0:IsZip s.heap z o1 o2 .none) (p1:IsPair s.heap o1 (.ref j1) (.ref j2)) (p2:IsPair s.heap o2 a b)
  (i1:s.heap.IsTupleIter j1 t k1) (i2:s.heap.IsTupleIter j2 l k2) (tt:s.heap.IsTuple t xs) (ll:s.heap.IsTuple l ys) (hx:xs[k1]? =some x) (hy:ys[k2]? =some y)
  (q: ∀g,IsZip g z o1 o2 (rawInt s.heap.objs.size)→IsPair g o2 x y→g.IsTupleIter j1 t (k1+1)→g.IsTupleIter j2 l (k2+1)→IsPair g s.heap.objs.size x y→g.objs.size=s.heap.objs.size+1→
   E4 z o2 j1 j2 s.heap g→Q (.ref s.heap.objs.size) {s with heap:=g}):
  wpAny (model P w) A (Builtin.«zip.__next__» ⟨[.ref z],[]⟩) (fun fin s'=> ∃v,fin=.done (.ret v)∧Q v s') E s:=by
 refine(show wpAny _ _ (field (.ref z) 2>>=_) _ _ _ from wpAny_bind (wpAny_field z0 rfl (x:=.bool false) rfl ?_))
 refine(show wpAny _ _ (field (.ref z) 3>>=_) _ _ _ from wpAny_bind (wpAny_field z0 rfl (x:=.ref o1) rfl (wpAny_bind (wpAny_seqItems p1 rfl ?_))))
 refine(show wpAny _ _ (Builtin.SmallTypes.ownedTupleIsFree (.ref z)>>=_) _ _ _ from wpAny_bind ?_)
 unfold Builtin.SmallTypes.ownedTupleIsFree
 refine wpAny_bind (wpAny_field z0 rfl (x:=.none) rfl (wpAny_pure ?_))
 simp only[if_true]
 refine wpAny_bind (wpAny_rule (wpAny_bind (wpAny_field z0 rfl (x:=.ref o2) rfl (wpAny_bind (wpAny_setField_rec z0 (by simp) fun g1 z1 s1=> ?_)))))
 replace z1:IsZip g1 z o1 o2 .ellipsis:=z1
 refine wpAny_bind ?_
 simp only[List.zipIdx_cons,List.zipIdx_nil,List.forIn_cons,List.forIn_nil]
 refine wpAny_bind (wpAny_bind (wpAny_onRaise (show wpAny _ _ (Builtin.SmallTypes.nextOf (.ref j1)>>=_) _ _ _ from wpAny_bind (tz (i1.extBut s1.extBut D.i1z) (tt.extBut s1.extBut D.l1z) hx fun g2 i12 s2=>wpAny_pure ?_))))
 have p22:IsPair g2 o2 a b:=s2.extBut _ _ D.TOi1 (s1.extBut _ _ D.TOz p2)
 refine wpAny_bind (wpAny_seqItems p22 rfl (wpAny_bind (wpAny_updateSeq_pair p22 fun g3 p23 s3=> ?_)))
 replace p23:IsPair g3 o2 x b:=p23
 refine wpAny_bind (wpAny_letGo (wpAny_pure (wpAny_bind (wpAny_bind (wpAny_onRaise ?_)))))
 refine(show wpAny _ _ (Builtin.SmallTypes.nextOf (.ref j2)>>=_) _ _ _ from wpAny_bind (tz (((i2.extBut s1.extBut D.i2z).extBut s2.extBut D.i12.symm).extBut s3.extBut D.TOi2.symm)
  (((ll.extBut s1.extBut D.l2z).extBut s2.extBut D.l2i1).extBut s3.extBut D.l2TO) hy fun g4 i24 s4=>wpAny_pure ?_))
 have p24:IsPair g4 o2 x b:=s4.extBut _ _ D.TOi2 p23
 refine wpAny_bind (wpAny_seqItems p24 rfl (wpAny_bind (wpAny_updateSeq_pair p24 fun g5 p25 s5=> ?_)))
 replace p25:IsPair g5 o2 x y:=p25
 refine wpAny_bind (wpAny_letGo (wpAny_pure (wpAny_pure (wpAny_bind (wpAny_seqItems p25 rfl (wpAny_bind (wpAny_newTuple ?_)))))))
 have sz:g5.objs.size=s.heap.objs.size:=by rw[s5.1,s4.1,s3.1,s2.1,s1.1]
 have z5:IsZip g5 z o1 o2 .ellipsis:=s5.extBut _ _ D.TOz.symm (s4.extBut _ _ D.i2z.symm (s3.extBut _ _ D.TOz.symm (s2.extBut _ _ D.i1z.symm z1)))
 have k5:E4 z o2 j1 j2 s.heap g5:=fun c o c1 c2 c3 c4 e=>s5.extBut _ _ c2 (s4.extBut _ _ c4 (s3.extBut _ _ c2 (s2.extBut _ _ c3 (s1.extBut _ _ c1 e))))
 have i15:g5.IsTupleIter j1 t (k1+1):=((i12.extBut s3.extBut D.TOi1.symm).extBut s4.extBut D.i12).extBut s5.extBut D.TOi1.symm
 have i25:g5.IsTupleIter j2 l (k2+1):=i24.extBut s5.extBut D.TOi2.symm
 have zl:z<g5.objs.size:=Heap.lt_size z5
 refine(show wpAny _ _ (Builtin.SmallTypes.ownedTupleHandOut (.ref z) (.ref g5.objs.size)>>=_) _ _ _ from wpAny_bind ?_)
 unfold Builtin.SmallTypes.ownedTupleHandOut
 have z6:IsZip (g5.push {cls:=.type "tuple",data:=.seq #[x,y]}) z o1 o2 .ellipsis:=Heap.get?_push_of_some _ z5
 refine wpAny_bind (wpAny_setField_rec z6 (by simp) fun g7 z7 s7=> ?_)
 replace z7:IsZip g7 z o1 o2 (rawInt g5.objs.size):=z7
 refine wpAny_setField_rec z7 (by simp) fun g8 z8 s8=> ?_
 replace z8:IsZip g8 z o1 o2 (rawInt g5.objs.size):=z8
 have up: ∀c ob,c≠z→g5.get? c=some ob→g8.get? c=some ob:=fun c ob c1 e=>s8.extBut _ _ c1 (s7.extBut _ _ c1 (Heap.get?_push_of_some _ e))
 have pn:IsPair g8 g5.objs.size x y:=s8.extBut _ _ (Nat.ne_of_gt zl) (s7.extBut _ _ (Nat.ne_of_gt zl) (Heap.get?_push_size _ rfl))
 have sz8:g8.objs.size=g5.objs.size+1:=by rw[s8.1,s7.1,Heap.size_push]
 rw[sz] at z8 pn sz8
 refine wpAny_pure ⟨_,rfl,(show Q (.ref g5.objs.size) _ from ?_)⟩
 rw[sz]
 exact q g8 z8 (up _ _ D.TOz p25) (i15.at fun ob e=>up _ ob D.i1z e) (i25.at fun ob e=>up _ ob D.i2z e) pn sz8 fun c ob c1 c2 c3 c4 e=>up c ob c1 (k5 c ob c1 c2 c3 c4 e)
theorem GW {z o1 o2 j1 j2 t l:Addr}{k1 k2:Nat}{xs ys:Array Value}{x y a b:Value}{Q:Option Value→Shared→Prop}(D:ZipApart z o1 o2 j1 j2 t l)
  (z0:IsZip s.heap z o1 o2 .none) (p1:IsPair s.heap o1 (.ref j1) (.ref j2)) (p2:IsPair s.heap o2 a b)
  (i1:s.heap.IsTupleIter j1 t k1) (i2:s.heap.IsTupleIter j2 l k2) (tt:s.heap.IsTuple t xs) (ll:s.heap.IsTuple l ys) (hx:xs[k1]? =some x) (hy:ys[k2]? =some y)
  (q: ∀g,IsZip g z o1 o2 (rawInt s.heap.objs.size)→IsPair g o2 x y→g.IsTupleIter j1 t (k1+1)→g.IsTupleIter j2 l (k2+1)→IsPair g s.heap.objs.size x y→g.objs.size=s.heap.objs.size+1→
   E4 z o2 j1 j2 s.heap g→Q (some (.ref s.heap.objs.size)) {s with heap:=g}):wpAny (model P w) A (pyNext (.ref z)) Q E s:=by
 have ty:s.TypeIs (.ref z) "zip":=⟨_,z0,rfl⟩
 unfold pyNext
 refine wpAny_bind (wpAny_attempt (wpAny_callSpecial?_slot (name:=Str.ofString "__next__") ty F.slot_zip_next (wpAny_call_entry F.slot_zip_next ty F.entry_zip_next (GV D z0 p1 p2 i1 i2 tt ll hx hy fun g a1 a2 a3 a4 a5 a6 a7=> ?_) (F.args_zip_next_1 _))))
 exact wpAny_pure (q g a1 a2 a3 a4 a5 a6 a7)
abbrev zU1 (h:Heap) (t:Addr):Heap:=h.push {cls:=.type "tuple_iterator",data:=.fields #[.ref t,.int 0 0]}
abbrev zU2 (h:Heap) (t l:Addr):Heap:=(zU1 h t).push {cls:=.type "tuple_iterator",data:=.fields #[.ref l,.int 0 0]}
abbrev zU3 (h:Heap) (t l:Addr):Heap:=(zU2 h t l).push {cls:=.type "tuple",data:=.seq #[.ref h.objs.size,.ref (zU1 h t).objs.size]}
abbrev zU4 (h:Heap) (t l:Addr):Heap:=(zU3 h t l).push {cls:=.type "tuple",data:=.seq #[.none,.none]}
abbrev zU5 (h:Heap) (t l:Addr):Heap:=(zU4 h t l).push {cls:=.type "zip",data:=.fields #[.none,.bool false,.bool false,.ref (zU2 h t l).objs.size,.ref (zU3 h t l).objs.size]}
theorem FC (t l:Addr) (xs ys:Array Value):
  Meets (Builtin.«zip.__new__» ⟨[.type "zip",.ref t,.ref l],[]⟩) (fun _ R s=>s.heap.IsTuple t xs∧s.heap.IsTuple l ys∧R (.ok (.ret (.ref (zU4 s.heap t l).objs.size))) {s with heap:=zU5 s.heap t l}):=
 .of_wp fun prog w A R s h=>by
  obtain⟨hp,g,d,tk,os⟩:=s;obtain⟨h1,h2,h⟩:=h
  have hsub:=sub_zip
  have e1:Heap.IsTuple (Shared.heap ⟨hp,g,d,tk,os⟩) t xs:=h1
  have e2:Heap.IsTuple (Shared.heap ⟨hp.push {cls:=.type "tuple_iterator",data:=.fields #[.ref t,.int 0 0]},g,d,tk,os⟩) l ys:=Heap.IsTuple.push h2 _
  wp_walk using wpAny_pyIter_tuple e1,wpAny_pyIter_tuple e2
  exact⟨_,rfl,h⟩
theorem Ib {t l:Addr}{xs ys:Array Value}{Q:Value→Shared→Prop}(h1:s.heap.IsTuple t xs) (h2:s.heap.IsTuple l ys)
  (q: ∀g,IsZip g (s.heap.objs.size+4) (s.heap.objs.size+2) (s.heap.objs.size+3) .none→IsPair g (s.heap.objs.size+2) (.ref s.heap.objs.size) (.ref (s.heap.objs.size+1))→
   IsPair g (s.heap.objs.size+3) .none .none→g.IsTupleIter s.heap.objs.size t 0→g.IsTupleIter (s.heap.objs.size+1) l 0→(∀c o,s.heap.get? c=some o→g.get? c=some o)→Q (.ref (s.heap.objs.size+4)) {s with heap:=g}):
  wpAny (model P w) A (call (.type "zip") [.ref t,.ref l]) Q E s:=by
 refine callType_new F.called_zip (by decide) (F.typeCall_zip_2 _ _) (F.newCall_zip_2 _ _) (fun ob=>F.args_object_init_3 ob _ _) F.entry_zip_new (FC t l xs ys) ⟨h1,h2,?_⟩
 have z1:(zU1 s.heap t).objs.size=s.heap.objs.size+1:=Heap.size_push ..
 have z2:(zU2 s.heap t l).objs.size=s.heap.objs.size+2:=by rw[Heap.size_push,z1]
 have z3:(zU3 s.heap t l).objs.size=s.heap.objs.size+3:=by rw[Heap.size_push,z2]
 have z4:(zU4 s.heap t l).objs.size=s.heap.objs.size+4:=by rw[Heap.size_push,z3]
 have g5:(zU5 s.heap t l).get? (zU4 s.heap t l).objs.size=some _:=Heap.get?_push_size _ rfl
 have g4:(zU5 s.heap t l).get? (zU3 s.heap t l).objs.size=some _:=Heap.get?_push_of_some _ (Heap.get?_push_size _ rfl)
 have g3:(zU5 s.heap t l).get? (zU2 s.heap t l).objs.size=some _:=Heap.get?_push_of_some _ (Heap.get?_push_of_some _ (Heap.get?_push_size _ rfl))
 have g2:(zU5 s.heap t l).get? (zU1 s.heap t).objs.size=some _:=Heap.get?_push_of_some _ (Heap.get?_push_of_some _ (Heap.get?_push_of_some _ (Heap.get?_push_size _ rfl)))
 have g1:(zU5 s.heap t l).get? s.heap.objs.size=some _:=Heap.get?_push_of_some _ (Heap.get?_push_of_some _ (Heap.get?_push_of_some _ (Heap.get?_push_of_some _ (Heap.get?_push_size _ rfl))))
 show _∧_
 rw[z2,z3,z4] at g5
 rw[z1,z2] at g3
 rw[z3] at g4
 rw[z1] at g2
 rw[z4]
 exact⟨⟨_,g5,rfl⟩,q _ g5 g3 g4 ⟨_,g1,rfl,rfl⟩ ⟨_,g2,rfl,rfl⟩ fun c ob d=>Heap.get?_push_of_some _ (Heap.get?_push_of_some _ (Heap.get?_push_of_some _ (Heap.get?_push_of_some _ (Heap.get?_push_of_some _ d))))⟩
end
def Itu (K:PySem.W.Frag) (t l:Addr):It:=
 ⟨fun i H=> ∃xs ys x y,SqT K H t xs∧SqT K H l ys∧xs[i]? =some x∧ys[i]? =some y,
  fun i H v H'=> ∃T x y,H T=none∧v=.ref T∧H'=upd H T (.tup [x,y])∧ ∀xs ys,SqT K H t xs→SqT K H l ys→xs[i]? =some x∧ys[i]? =some y,
  fun i H=> ∃xs,SqT K H t xs∧xs.length≤i⟩
theorem G1 {P:Program}{w:World}{K:PySem.W.Frag}{elts:List Expr}{x1:Nat}{pos:Pos}{z o1 o2 j1 j2 t l:Addr}(D:ZipApart z o1 o2 j1 j2 t l):
  Bl P w K (.Tuple elts x1 pos) (Itu K t l) [z,o1,o2,j1,j2] z (fun i h=>IsZip h z o1 o2 .none∧IsPair h o1 (.ref j1) (.ref j2)∧(∃a b,IsPair h o2 a b)∧h.IsTupleIter j1 t i∧h.IsTupleIter j2 l i) where
 mem:=by simp
 obj:=fun i h st b hb=>by
  obtain⟨a1,a2,⟨_,_,a3⟩,⟨ob4,a4,_,d4⟩,⟨ob5,a5,_,d5⟩⟩:=st
  simp only[List.mem_cons,List.not_mem_nil,or_false] at hb
  rcases hb with rfl |rfl |rfl |rfl |rfl
  ·exact⟨_,a1,fun v e=>by cases e⟩
  ·exact⟨_,a2,fun v e=>by cases e⟩
  ·exact⟨_,a3,fun v e=>by cases e⟩
  ·exact⟨_,a4,fun v e=>by rw[d4] at e;cases e⟩
  ·exact⟨_,a5,fun v e=>by rw[d5] at e;cases e⟩
 keep:=fun i h h' st k=>by
  obtain⟨a1,a2,⟨a,b,a3⟩,a4,a5⟩:=st
  exact⟨k z (by simp) _ a1,k o1 (by simp) _ a2,⟨a,b,k o2 (by simp) _ a3⟩,a4.at fun ob e=>k j1 (by simp) ob e,a5.at fun ob e=>k j2 (by simp) ob e⟩
 item:=by
  intro X hP hw hK hc i pins s σ H E I hf st hg
  subst hP hw hK
  obtain⟨xs,ys,x,y,hq1,hq2,hx,hy⟩:=hg
  obtain⟨its,rv,p,hz⟩:=I.tuple hq1
  obtain⟨its2,rv2,p2,hz2⟩:=I.tuple hq2
  obtain⟨u,hu,ru⟩:=rv.get hx
  obtain⟨u2,hu2,ru2⟩:=rv2.get hy
  obtain⟨a1,a2,⟨a,b,a3⟩,a4,a5⟩:=st
  refine GW D a1 a2 a3 a4 a5 (show s.heap.IsTuple t its.toArray from p) (show s.heap.IsTuple l its2.toArray from p2) (x:=u) (y:=u2) (by simpa using hu) (by simpa using hu2) fun g b1 b2 b3 b4 b5 b6 off=> ?_
  refine⟨_,rfl,wpAny_letOwnedTupleGo_zip b1 fun g' c1 sb=> ?_⟩
  have lt: ∀c∈[z,o1,o2,j1,j2],c≠s.heap.objs.size:=fun c hc' e=>by
   have hs: ∃ob,s.heap.get? c=some ob:=by
    simp only[List.mem_cons,List.not_mem_nil,or_false] at hc'
    rcases hc' with rfl |rfl |rfl |rfl |rfl
    ·exact⟨_,a1⟩
    ·exact⟨_,a2⟩
    ·exact⟨_,a3⟩
    ·obtain⟨ob,e,_⟩:=a4;exact⟨ob,e⟩
    ·obtain⟨ob,e,_⟩:=a5;exact⟨ob,e⟩
   obtain⟨ob,h⟩:=hs
   rw[e] at h
   exact absurd (Heap.lt_size h) (Nat.lt_irrefl _)
  have fresh:H s.heap.objs.size=none:=I.hok.fresh (Nat.le_refl _)
  have I1:Inv X pins σ (upd H s.heap.objs.size (.tup [x,y])) {s with heap:=s.heap.push {cls:=.type "tuple",data:=.seq #[u,u2]},toks:=s.toks}:=
   I.laid (fun b o e=>Heap.get?_push_of_some _ e) (Nat.le_refl _) ⟨by rw[sizeLine_eq];simp,[u,u2],.cons ru (.cons ru2 .nil),⟨_,Heap.get?_push_size _ rfl,rfl,_,rfl⟩⟩
  have I2:=jI (h':=g') (t':=s.toks) (ch:=[z,o1,o2,j1,j2]) I1 (fun b o hb e=> ?_) (fun b hb=> ?_)
  ·refine⟨.ref s.heap.objs.size,_,I2,rfl,⟨_,x,y,fresh,rfl,rfl,fun xs' ys' h1 h2=>⟨by rw[I.tuple_inj h1 hq1];exact hx,by rw[I.tuple_inj h2 hq2];exact hy⟩⟩,⟨c1,sb.extBut _ _ D.TIz (off _ _ D.TIz D.TITO D.TIi1 D.TIi2 a2),⟨_,_,sb.extBut _ _ D.TOz b2⟩,b3.extBut sb.extBut D.i1z,b4.extBut sb.extBut D.i2z⟩,fun b hb=> ?_⟩
   rw[aj (lt b hb)]
   exact(hf b hb).1
  ·have nb:b≠z∧b≠o1∧b≠o2∧b≠j1∧b≠j2:=by simpa using hb
   by_cases eb:b=s.heap.objs.size
   ·subst eb
    rw[Heap.get?_push_size _ rfl] at e
    cases e
    exact sb.extBut _ _ nb.1 b5
   ·have e':s.heap.get? b=some o:=by
     rcases Heap.get?_push_cases e with⟨z2,_⟩ |e2
     ·exact absurd z2 eb
     ·exact e2
    exact sb.extBut _ _ nb.1 (off b o nb.1 nb.2.2.1 nb.2.2.2.1 nb.2.2.2.2 e')
  ·obtain⟨f0,f1⟩:=hf b hb
   exact⟨by rw[aj (lt b hb)];exact f0,f1⟩
 done:=by
  intro X hP hw hK hc i pins s σ H E I hf st hg
  subst hP hw hK
  obtain⟨xs,hq,hx⟩:=hg
  obtain⟨its,rv,p,hz⟩:=I.tuple hq
  have hl:=rv.length
  obtain⟨a1,a2,⟨a,b,a3⟩,a4,a5⟩:=st
  refine DK (I.ok.hd hc) D a1 a2 a3 a4 (show s.heap.IsTuple t its.toArray from p) (by simp;omega) fun g off=>⟨rfl,jI (t':=s.toks) (ch:=[z,o1,o2,j1,j2]) I (fun b o hb e=> ?_) hf⟩
  have nb:b≠z∧b≠o1∧b≠o2∧b≠j1∧b≠j2:=by simpa using hb
  exact off b o nb.1 nb.2.2.1 nb.2.2.2.1 nb.2.2.2.2 e
 self:=fun _ _ _ _ _ st h=>wpAny_pyIter_zip st.1 h
section
variable {X:Cx}{tg:Expr}
def O7 (K:PySem.W.Frag) (ta:TA):TI:=fun σ H R=>ta σ H fun vs H1=> ∃t l xs ys,vs=[.ref t,.ref l]∧SqT K H1 t xs∧((SqL K H1 l ys∧R (Itz K t l) H1)∨(SqT K H1 l ys∧R (Itu K t l) H1))
theorem Gv (K:PySem.W.Frag) (hK:X.K=K) {elts:List Expr}{x1:Nat}{tpos:Pos}{a b:Expr}{ta:TA}{p pos:Pos}(hg:Gl X "zip") (hm:X.mg "zip"=none) (ha:PA X [a,b] ta) (hs:starEach [a,b] X.env=[(false,eval a X.env),(false,eval b X.env)]:=by rfl) (hs2:starEach [b] X.env=[(false,eval b X.env)]:=by rfl):
  PI X (.Tuple elts x1 tpos) (.Call (.Name "zip" p) [a,b] [] pos) (O7 K ta):=by
 subst hK
 intro pins s σ H R I h
 refine wpAny_Call_Name_kw (nJ I hg hm KA (PyProof.Rows.callWith_type1 (thn (ha pos pins s σ H _ I h) fun us s1 ⟨vs,H1,I1,r1,q1⟩=> ?_) (by rw[hs,hs2]) (by rw[hs2];rfl)))
 obtain⟨t,l,xs,ys,e,hq1,q1⟩:=q1
 subst e
 obtain⟨u,v,rfl,rt,rl⟩:=DN r1
 obtain rfl:u=Value.ref t:=rt
 obtain rfl:v=Value.ref l:=rl
 obtain⟨its,rv,pl,hz⟩:=I1.tuple hq1
 obtain⟨o1,e1,_⟩:=id pl
 have fp: ∀b∈[s1.heap.objs.size+4,s1.heap.objs.size+2,s1.heap.objs.size+3,s1.heap.objs.size,s1.heap.objs.size+1],Ad X pins H1 b:=fun b hb=>by
  have hb2:s1.heap.objs.size≤b:=by
   simp only[List.mem_cons,List.not_mem_nil,or_false] at hb
   rcases hb with rfl |rfl |rfl |rfl |rfl
   ·exact Nat.le_add_right _ _
   ·exact Nat.le_add_right _ _
   ·exact Nat.le_add_right _ _
   ·exact Nat.le_refl _
   ·exact Nat.le_add_right _ _
  exact I1.fpOk hb2 (I1.hok.fresh hb2)
 rcases q1 with⟨hq2,q⟩ |⟨hq2,q⟩
 ·obtain⟨its2,rv2,pl2,hz2⟩:=I1.list hq2
  obtain⟨o2,n2,e2,_⟩:=id pl2
  have D:=ktu_apart s1.heap.objs.size t l (Heap.lt_size e1) (Heap.lt_size e2)
  refine Ic (show s1.heap.IsTuple t its.toArray from pl) pl2.isList fun g z1 z2 z3 z4 z5 kk=> ?_
  exact wpAny_pyIter_zip z1 ⟨_,[s1.heap.objs.size+4,s1.heap.objs.size+2,s1.heap.objs.size+3,s1.heap.objs.size,s1.heap.objs.size+1],_,_,H1,rfl,I1.kept (t':=s1.toks) kk,IN D,⟨z1,z2,⟨_,_,z3⟩,z4,z5⟩,fp,q⟩
 ·obtain⟨its2,rv2,pl2,hz2⟩:=I1.tuple hq2
  obtain⟨o2,e2,_⟩:=id pl2
  have D:=ktu_apart s1.heap.objs.size t l (Heap.lt_size e1) (Heap.lt_size e2)
  refine Ib (show s1.heap.IsTuple t its.toArray from pl) (show s1.heap.IsTuple l its2.toArray from pl2) fun g z1 z2 z3 z4 z5 kk=> ?_
  exact wpAny_pyIter_zip z1 ⟨_,[s1.heap.objs.size+4,s1.heap.objs.size+2,s1.heap.objs.size+3,s1.heap.objs.size,s1.heap.objs.size+1],_,_,H1,rfl,I1.kept (t':=s1.toks) kk,G1 D,⟨z1,z2,⟨_,_,z3⟩,z4,z5⟩,fp,q⟩
theorem Ia {K:PySem.W.Frag}{a l:Addr}{xs ys:List V}{g:TG}{ds:List Nat}{k:Nat}{tc:TT}{te:TE}{σ:St}{H1:Hp}{D:Addr}{F:Hp→Prop}(Pv:Nat→List V→Hp→Prop) (h0:Pv 0 [] (upd H1 D (.lst []))) (hxy:xs.length=ys.length)
  (hl: ∀i acc H2,i≤xs.length→Pv i acc H2→SqT K H2 a xs∧SqT K H2 l ys) (hs: ∀i x y acc H2 T,xs[i]? =some x→ys[i]? =some y→Pv i acc H2→H2 T=none→g (.ref T) (gw ds k σ) (upd H2 T (.tup [x,y])) fun σ4 H4=>tc σ4 H4 fun b H5=>if b=true then
   te σ4 H5 fun y H6=>H6 D=some (.lst acc)∧acc.length<sizeLine∧ ∃m',m'<xs.length-i∧m'=xs.length-(i+1)∧i+1≤xs.length∧Pv (i+1) (acc++[y]) (upd H6 D (.lst (acc++[y])))
   else∃m',m'<xs.length-i∧m'=xs.length-(i+1)∧i+1≤xs.length∧Pv (i+1) acc H5) (hd: ∀acc H2,Pv xs.length acc H2→F H2):
  ∃W:Nat→Nat→List V→Hp→Prop,(∃m,W 0 m [] (upd H1 D (.lst [])))∧ ∀i m acc H2,W i m acc H2→
  ((Itu K a l).stop i H2∧F H2)∨((Itu K a l).go i H2∧ ∀x H3,(Itu K a l).yld i H2 x H3→g x (gw ds k σ) H3 fun σ4 H4=>tc σ4 H4 fun b H5=>if b=true then
   te σ4 H5 fun y H6=>H6 D=some (.lst acc)∧acc.length<sizeLine∧ ∃m',m'<m∧W (i+1) m' (acc++[y]) (upd H6 D (.lst (acc++[y])))
   else∃m',m'<m∧W (i+1) m' acc H5):=by
 refine⟨fun i m acc H2=>m=xs.length-i∧i≤xs.length∧Pv i acc H2,⟨_,rfl,Nat.zero_le _,h0⟩,?_⟩
 rintro i m acc H2 ⟨rfl,hi,p⟩
 obtain⟨q,q2⟩:=hl i acc H2 hi p
 by_cases hlt:i<xs.length
 ·have hlt2:i<ys.length:=by omega
  refine .inr ⟨⟨xs,ys,xs[i],ys[i],q,q2,by simp[hlt],by simp[hlt2]⟩,fun x H3 y=> ?_⟩
  obtain⟨T,x',y',hT,e,eH,y⟩:=y
  subst e eH
  obtain⟨y1,y2⟩:=y xs ys q q2
  exact hs i x' y' acc _ T y1 y2 p hT
 ·have e:i=xs.length:=by omega
  subst e
  exact .inl ⟨⟨xs,q,Nat.le_refl _⟩,hd acc H2 p⟩
end
end L2
namespace L2
open PySem PySem.Spec PyProof.Rows PySem.W
theorem Ki {P:Program}{w:World}{A:Around}(hh:A.handled=none) (it t:Addr) (ne:t≠it) (its:Array Value):Draws P w A it [it,t] its.size (fun i v=>its[i]? =some v) (fun i h=>h.IsTupleIter it t i∧h.IsTuple t its) where
 live:=fun _ _ st=>let⟨o,e,_⟩:=st.1;⟨o,e⟩
 frame:=fun _ _ _ st k=>⟨st.1.at fun o e=>k it (by simp) o e,st.2.at fun o e=>k t (by simp) o e⟩
 item:=fun i s Q E hi st q=>tz st.1 st.2 (v:=its[i]) (by simp[hi]) fun g ig sb=>q _ g s.toks (by simp[hi]) ⟨ig,st.2.extBut sb.extBut ne⟩ sb
 done:=fun s Q E st q=>DQ hh st.1 st.2 (by simp) q
theorem Ez (t:Addr) (its:Array Value) (n:Nat) (dc:Option Addr) (sl:Array (Option Value)):
  Meets (Builtin.«enumerate.__new__» ⟨[.type "enumerate",.ref t],[]⟩) (fun _ R s=>s.heap.get? t=some {cls:=.type "tuple",dict:=dc,data:=.seq its n,slots:=sl}∧
   R (.ok (.ret (.ref (zT1 s.heap t).objs.size))) {s with heap:=(zT1 s.heap t).push {cls:=.type "enumerate",data:=.fields #[.none,.bool false,.ref s.heap.objs.size,rawInt 0,.none,.none]}}):=
 .of_wp fun prog w A R s h=>by
  obtain⟨hp,g,d,tk,os⟩:=s;obtain⟨ht,h⟩:=h
  have f1:=sub_enumerate
  have hT:Heap.IsTuple (Shared.heap ⟨hp,g,d,tk,os⟩) t its:=⟨_,ht,rfl,n,rfl⟩
  wp_walk using AutoSeq1.wpAny_loadPart' ht
  refine wpAny_stack_any fun st=>wpAny_pure ?_
  split
  ·rename_i c _ _ _ _ _
   cases (c==Value.type "enumerate")<;>(wp_walk using AutoSeq1.wpAny_loadPart' ht,wpAny_pyIter_tuple hT)<;>exact⟨_,rfl,h⟩
  ·wp_walk using AutoSeq1.wpAny_loadPart' ht,wpAny_pyIter_tuple hT
   exact⟨_,rfl,h⟩
theorem F8 {P:Program}{w:World}{A:Around}{E:Value→Shared→Prop}{s:Shared}{t:Addr}{its:Array Value}{Q:Value→Shared→Prop}(hT:s.heap.IsTuple t its)
  (q: ∀g,IsEnum g (s.heap.objs.size+1) s.heap.objs.size 0 .none→g.IsTupleIter s.heap.objs.size t 0→(∀b o,s.heap.get? b=some o→g.get? b=some o)→Q (.ref (s.heap.objs.size+1)) {s with heap:=g}):
  wpAny (model P w) A (call (.type "enumerate") [.ref t]) Q E s:=by
 obtain⟨⟨c,dc,dt,sl⟩,ht,e1,n,e2⟩:=hT
 simp only at e1 e2
 subst e1 e2
 refine callType_new F.called_enumerate (by decide) (F.typeCall_enumerate_1 _) (F.newCall_enumerate_1 _) (fun ob=>F.args_object_init_2 ob _) F.entry_enumerate_new (Ez t its n dc sl) ⟨ht,?_⟩
 have z1:(zT1 s.heap t).objs.size=s.heap.objs.size+1:=Heap.size_push ..
 show _∧_
 rw[z1]
 have he:IsEnum ((zT1 s.heap t).push {cls:=.type "enumerate",data:=.fields #[.none,.bool false,.ref s.heap.objs.size,rawInt 0,.none,.none]}) (s.heap.objs.size+1) s.heap.objs.size 0 .none:=by
  have z:=Heap.get?_push_size (zT1 s.heap t) (o:={cls:=.type "enumerate",data:=.fields #[.none,.bool false,.ref s.heap.objs.size,rawInt 0,.none,.none]}) rfl
  rw[z1] at z
  exact z
 exact⟨⟨_,he,rfl⟩,q _ he ⟨_,Heap.get?_push_of_some _ (Heap.get?_push_size _ rfl),rfl,rfl⟩ fun b o x=>Heap.get?_push_of_some _ (Heap.get?_push_of_some _ x)⟩
def Ite (K:PySem.W.Frag) (t:Addr):It:=
 ⟨fun i H=> ∃xs x,SqT K H t xs∧xs[i]? =some x,fun i H v H'=> ∃T x,H T=none∧v=.ref T∧H'=upd H T (.tup [.int i,x])∧ ∀xs,SqT K H t xs→xs[i]? =some x,fun i H=> ∃xs,SqT K H t xs∧xs.length=i⟩
theorem G6 {P:Program}{w:World}{K:PySem.W.Frag}{elts:List Expr}{x1:Nat}{pos:Pos}{e it t:Addr}(n1:e≠it) (n2:t≠it) (n3:t≠e):
  Bl P w K (.Tuple elts x1 pos) (Ite K t) [e,it] e (fun i h=>(∃old,IsEnum h e it i old)∧h.IsTupleIter it t i) where
 mem:=by simp
 obj:=fun i h st b hb=>by
  obtain⟨⟨_,a1⟩,ob,a2,_,d2⟩:=st
  simp only[List.mem_cons,List.not_mem_nil,or_false] at hb
  rcases hb with rfl |rfl
  ·exact⟨_,a1,fun v z=>by cases z⟩
  ·exact⟨_,a2,fun v z=>by rw[d2] at z;cases z⟩
 keep:=fun i h h' st k=>by
  obtain⟨⟨old,a1⟩,a2⟩:=st
  exact⟨⟨old,k e (by simp) _ a1⟩,a2.at fun ob z=>k it (by simp) ob z⟩
 item:=by
  intro X hP hw hK hc i pins s σ H E I hf st hg
  subst hP hw hK
  obtain⟨xs,x,hq,hx⟩:=hg
  obtain⟨its,rv,p,hz⟩:=I.tuple hq
  obtain⟨u,hu,ru⟩:=rv.get hx
  obtain⟨⟨old,a1⟩,a2⟩:=st
  have hi:i<its.toArray.size:=by rw[List.size_toArray];exact(List.getElem?_eq_some_iff.mp hu).1
  have hhd:X.A.in1.handled=none:=by simp[I.ok.hd hc]
  refine wpAny_pyNext_enum_itemD (Ki hhd it t n2 its.toArray) a1 ⟨a2,p⟩ hi n1 (by simp[n1,Ne.symm n3]) fun v g tk hv b1 b2 b3 b4 off=> ?_
  have ev:v=u:=by
   have hv:its.toArray[i]? =some v:=hv
   rw[List.getElem?_toArray,hu] at hv
   exact(Option.some.inj hv).symm
  subst ev
  refine⟨_,rfl,wpAny_letOwnedTupleGo_enum b1 fun g' c1 sb=> ?_⟩
  have lt: ∀c∈[e,it],c≠s.heap.objs.size:=fun c hc' z=>by
   have hs: ∃ob,s.heap.get? c=some ob:=by
    simp only[List.mem_cons,List.not_mem_nil,or_false] at hc'
    rcases hc' with rfl |rfl
    ·exact⟨_,a1⟩
    ·obtain⟨ob,z,_⟩:=a2;exact⟨ob,z⟩
   obtain⟨ob,h⟩:=hs
   rw[z] at h
   exact absurd (Heap.lt_size h) (Nat.lt_irrefl _)
  have fresh:H s.heap.objs.size=none:=I.hok.fresh (Nat.le_refl _)
  have I1:Inv X pins σ (upd H s.heap.objs.size (.tup [.int i,x])) {s with heap:=s.heap.push {cls:=.type "tuple",data:=.seq #[.int i tk,v]},toks:=tk+1}:=
   I.laid (fun b o z=>Heap.get?_push_of_some _ z) (Nat.le_refl _) ⟨by rw[sizeLine_eq];simp,[.int i tk,v],.cons ⟨tk,rfl⟩ (.cons ru .nil),⟨_,Heap.get?_push_size _ rfl,rfl,_,rfl⟩⟩
  have I2:=jI (h':=g') (t':=tk+1) (ch:=[e,it]) I1 (fun b o hb z=> ?_) (fun b hb=> ?_)
  ·refine⟨.ref s.heap.objs.size,_,I2,rfl,⟨_,x,fresh,rfl,rfl,fun xs' h1=>by rw[I.tuple_inj h1 hq];exact hx⟩,⟨⟨_,by simpa using c1⟩,b2.1.extBut sb.extBut (Ne.symm n1)⟩,fun b hb=> ?_⟩
   rw[aj (lt b hb)]
   exact(hf b hb).1
  ·have nb:b≠e∧b≠it:=by simpa using hb
   by_cases eb:b=s.heap.objs.size
   ·subst eb
    rw[Heap.get?_push_size _ rfl] at z
    cases z
    exact sb.extBut _ _ nb.1 b3
   ·have z':s.heap.get? b=some o:=by
     rcases Heap.get?_push_cases z with⟨z2,_⟩ |z2
     ·exact absurd z2 eb
     ·exact z2
    exact sb.extBut _ _ nb.1 (off b o nb.1 nb.2 z')
  ·obtain⟨f0,f1⟩:=hf b hb
   exact⟨by rw[aj (lt b hb)];exact f0,f1⟩
 done:=by
  intro X hP hw hK hc i pins s σ H E I hf st hg
  subst hP hw hK
  obtain⟨xs,hq,rfl⟩:=hg
  obtain⟨its,rv,p,hz⟩:=I.tuple hq
  have hl:=rv.length
  obtain⟨⟨old,a1⟩,a2⟩:=st
  have hhd:X.A.in1.handled=none:=by simp[I.ok.hd hc]
  have a2':s.heap.IsTupleIter it t its.toArray.size:=by rw[List.size_toArray,←hl];exact a2
  refine wpAny_pyNext_enum_endD (Ki hhd it t n2 its.toArray) a1 ⟨a2',p⟩ fun g off=>⟨rfl,jI (t':=s.toks) (ch:=[e,it]) I (fun b o hb z=> ?_) hf⟩
  have nb:b≠e∧b≠it:=by simpa using hb
  exact off b o nb.2 z
 self:=fun _ _ _ _ _ st h=>by
  obtain⟨⟨old,a1⟩,_⟩:=st
  exact wpAny_pyIter_enum a1 h
section
variable {X:Cx}
def Pe (K:PySem.W.Frag) (ta:TA):TI:=fun σ H R=>ta σ H fun vs H1=> ∃t xs,vs=[.ref t]∧SqT K H1 t xs∧R (Ite K t) H1
theorem LF (K:PySem.W.Frag) (hK:X.K=K) {elts:List Expr}{x1:Nat}{tpos:Pos}{a:Expr}{ta:TA}{p pos:Pos}(hg:Gl X "enumerate") (hm:X.mg "enumerate"=none) (ha:PA X [a] ta) (hs:starEach [a] X.env=[(false,eval a X.env)]:=by rfl):
  PI X (.Tuple elts x1 tpos) (.Call (.Name "enumerate" p) [a] [] pos) (Pe K ta):=by
 subst hK
 intro pins s σ H R I h
 refine wpAny_Call_Name_kw (nJ I hg hm L2.zH (PyProof.Rows.callWith_type1 (thn (ha pos pins s σ H _ I h) fun us s1 ⟨vs,H1,I1,r1,q1⟩=> ?_) (by rw[hs];rfl) (by rfl)))
 obtain⟨t,xs,e,hq,q⟩:=q1
 subst e
 obtain⟨u,rfl,rt⟩:=o7 r1
 obtain rfl:u=Value.ref t:=rt
 obtain⟨its,rv,pl,hz⟩:=I1.tuple hq
 obtain⟨o1,e1,_⟩:=id pl
 have lt:=Heap.lt_size e1
 refine F8 (show s1.heap.IsTuple t its.toArray from pl) fun g z1 z2 kk=> ?_
 refine wpAny_pyIter_enum z1 ⟨_,[s1.heap.objs.size+1,s1.heap.objs.size],_,_,H1,rfl,I1.kept (t':=s1.toks) kk,G6 (t:=t) (Nat.ne_of_gt (Nat.lt_succ_self _)) (Nat.ne_of_lt lt) (Nat.ne_of_lt (Nat.lt_succ_of_lt lt)),⟨⟨_,z1⟩,z2⟩,fun b hb=> ?_,q⟩
 have hb2:s1.heap.objs.size≤b:=by
  simp only[List.mem_cons,List.not_mem_nil,or_false] at hb
  rcases hb with rfl |rfl
  ·exact Nat.le_add_right _ _
  ·exact Nat.le_refl _
 exact I1.fpOk hb2 (I1.hok.fresh hb2)
end
end L2
namespace L2
open PySem PySem.Spec PyProof.Rows PySem.W
section
variable {X:Cx}
theorem Gx {P:Program}{w:World}:oT (CXe P w) X (fun _ _ _=>False):=fun _ _ _ _ _ _ _ h=>by
 obtain⟨_,_,_,_,_,_,_,_,_,_,_,_,_,q⟩:=h
 exact q.elim
theorem F7:cQ X (.builtin "len") (fun xs H Q=> ∃d kvs,xs=[V.ref d]∧H d=some (.dK kvs)∧Q (.int (kvs.length:Nat)) H):=by
 rintro pins s σ H xs us Q I r ⟨d,kvs,rfl,hd,hq⟩
 obtain⟨u,rfl,ru⟩:=o7 r
 cases ru
 refine Pk I (.inl hd) fun tk s2 I2=> ?_
 exact⟨.int kvs.length,H,I2,⟨tk,rfl⟩,hq⟩
theorem Jy {e:Expr}:PT X e (fun _ _ _=>False):=fun _ _ _ _ _ _ h=>h.elim
end
theorem BL {K:PySem.W.Frag}{a l:Addr}{xs ys:List V}{g:TG}{ds:List Nat}{k:Nat}{tc:TT}{te:TE}{σ:St}{H1:Hp}{F:Addr→Hp→Prop}(Pv:Addr→Nat→List V→Hp→Prop) (hy:SqL K H1 l ys∨SqT K H1 l ys) (h0: ∀D,H1 D=none→Pv D 0 [] (upd H1 D (.lst []))) (hxy:xs.length=ys.length)
  (hl: ∀D i acc H2,Pv D i acc H2→SqT K H2 a xs∧am H1 H2) (hs: ∀D i x y acc H2 T,H1 D=none→xs[i]? =some x→ys[i]? =some y→Pv D i acc H2→H2 T=none→g (.ref T) (gw ds k σ) (upd H2 T (.tup [x,y])) fun σ4 H4=>tc σ4 H4 fun b H5=>if b=true then
   te σ4 H5 fun y H6=>H6 D=some (.lst acc)∧acc.length<sizeLine∧ ∃m',m'<xs.length-i∧m'=xs.length-(i+1)∧i+1≤xs.length∧Pv D (i+1) (acc++[y]) (upd H6 D (.lst (acc++[y])))
   else∃m',m'<xs.length-i∧m'=xs.length-(i+1)∧i+1≤xs.length∧Pv D (i+1) acc H5) (hd: ∀D acc H2,H1 D=none→Pv D xs.length acc H2→F D H2):
  (SqL K H1 l ys∧ ∀D,H1 D=none→ ∃W:Nat→Nat→List V→Hp→Prop,(∃m,W 0 m [] (upd H1 D (.lst [])))∧ ∀i m acc H2,W i m acc H2→
  ((Itz K a l).stop i H2∧F D H2)∨((Itz K a l).go i H2∧ ∀x H3,(Itz K a l).yld i H2 x H3→g x (gw ds k σ) H3 fun σ4 H4=>tc σ4 H4 fun b H5=>if b=true then
   te σ4 H5 fun y H6=>H6 D=some (.lst acc)∧acc.length<sizeLine∧ ∃m',m'<m∧W (i+1) m' (acc++[y]) (upd H6 D (.lst (acc++[y])))
   else∃m',m'<m∧W (i+1) m' acc H5))∨
  (SqT K H1 l ys∧ ∀D,H1 D=none→ ∃W:Nat→Nat→List V→Hp→Prop,(∃m,W 0 m [] (upd H1 D (.lst [])))∧ ∀i m acc H2,W i m acc H2→
  ((Itu K a l).stop i H2∧F D H2)∨((Itu K a l).go i H2∧ ∀x H3,(Itu K a l).yld i H2 x H3→g x (gw ds k σ) H3 fun σ4 H4=>tc σ4 H4 fun b H5=>if b=true then
   te σ4 H5 fun y H6=>H6 D=some (.lst acc)∧acc.length<sizeLine∧ ∃m',m'<m∧W (i+1) m' (acc++[y]) (upd H6 D (.lst (acc++[y])))
   else∃m',m'<m∧W (i+1) m' acc H5)):=by
 rcases hy with hy |hy
 ·exact .inl ⟨hy,fun D hD=>Ks (Pv D) (h0 D hD) hxy (fun i acc H2 _ p=>⟨(hl D i acc H2 p).1,(hl D i acc H2 p).2.seq hy⟩) (fun i x y acc H2 T e1 e2 p hT=>hs D i x y acc H2 T hD e1 e2 p hT) fun acc H2 p=>hd D acc H2 hD p⟩
 ·exact .inr ⟨hy,fun D hD=>Ia (Pv D) (h0 D hD) hxy (fun i acc H2 _ p=>⟨(hl D i acc H2 p).1,am.tseq (hl D i acc H2 p).2 hy⟩) (fun i x y acc H2 T e1 e2 p hT=>hs D i x y acc H2 T hD e1 e2 p hT) fun acc H2 p=>hd D acc H2 hD p⟩
@[irreducible] def pw:Int:=10^(50:Int).toNat
theorem DT:pw=10^(50:Int).toNat:=by unfold pw;rfl
theorem G7:1000000000000000000<pw:=by rw[DT];decide+kernel
theorem JE {X:Cx}:OpR X (binaryOp .Pow) (fun x y H Q=>x=.int 10∧y=.int 50∧Q (.int pw) H):=by
 rintro pins s σ H x y v u Q I rx ry ⟨rfl,rfl,q⟩
 rw[DT] at q
 exact JG pins s σ H _ _ v u Q I rx ry ⟨10,50,rfl,rfl,⟨by decide,by decide,by decide⟩,q⟩
end L2
namespace L2
open PySem PySem.Spec PyProof.Rows
section
variable {prog:Program}{w:World}{A:Around}{E:Value→Shared→Prop}{s:Shared}
theorem O6 {a:Addr}{ep:Nat}{t:SetTable}{Q:Value→Shared→Prop}(hs:kB s.heap a #[] ep t) (h1:Q (.ref s.heap.objs.size) {s with heap:=s.heap.push (wu (.int 0 0) 0 a 0 ep)}):wpAny (model prog w) A (pyIter (.ref a)) Q E s:=by
 refine J7 hs (by simp) (fun _=>h1) (fun hc=> ?_)
 simp at hc
theorem OU {a:Addr}{ep:Nat}{t:SetTable}{Q:Option (Value×Nat)→Shared→Prop}(hs:kB s.heap a #[] ep t) (h:Q none s):wpAny (model prog w) A (setNext a 0 0 ep) Q E s:=by
 cases ht:w.params.followText "set-order" with
 |true=>
  refine Cp hs ht ?_
  have e:(pickOrder (w.params.setOrder a ep) (#[]:Array (Int×Value)))[0]? =none:=by
   have:=(Hl (w.params.setOrder a ep) (#[]:Array (Int×Value))).length_eq
   rw[Array.getElem?_eq_none_iff,←Array.length_toList,this]
   exact Nat.zero_le _
  rw[e]
  exact h
 |false=>
  obtain⟨o,ho,hc,hd⟩:=hs.ob
  unfold setNext
  refine wpAny_bind (wpAny_setState_of ho hd hs.fits ?_)
  dsimp only
  refine wpAny_bind (m:=setsByText) (wpAny_bind (wpAny_askSetting (wpAny_pure ?_)))
  show wpAny _ _ (if(w.params.followText "set-order")=true then _ else _) _ _ s
  rw[if_neg (by rw[ht];exact Bool.false_ne_true)]
  show wpAny _ _ (if(!t.plain && decide ((#[]:Array (Int×Value)).size>1))=true then _ else _) _ _ s
  rw[if_neg (by simp)]
  refine wpAny_bind ?_
  show wpAny _ _ (if(!t.led && !(#[]:Array (Int×Value)).isEmpty)=true then _ else _) _ _ s
  rw[if_neg (by simp)]
  refine wpAny_pure (wpAny_pure ?_)
  simp only[Array.getElem?_empty]
  exact h
theorem Oq {a:Addr}{ep:Nat}{t:SetTable}{Q:Value→Shared→Prop}(hh:A.handled=none) (hs:kB s.heap a #[] ep t)
  (h: ∀(I:Addr) (h':Heap) (fp:List Addr) (St:Nat→Heap→Prop),(∀b o,s.heap.get? b=some o→h'.get? b=some o)→s.heap.objs.size≤I→I<h'.objs.size→
   (∀b∈fp,b=a∨s.heap.objs.size≤b)→Walks prog w A I fp [I] 0 (fun _ _=>False) St→St 0 h'→Q (.ref I) {s with heap:=h'}):
  wpAny (model prog w) A (pyIter (.ref a)) Q E s:=by
 have hk: ∀b o,s.heap.get? b=some o→(s.heap.push (wu (.int 0 0) 0 a 0 ep)).get? b=some o:=fun b o e=>Heap.get?_push_of_some _ e
 have hg:(s.heap.push (wu (.int 0 0) 0 a 0 ep)).get? s.heap.objs.size=some (wu (.int 0 0) 0 a 0 ep):=Heap.get?_push_size _ rfl
 refine O6 hs (h s.heap.objs.size _ [s.heap.objs.size,a] (fun _ h'=>h'.get? s.heap.objs.size=some (wu (.int 0 0) 0 a 0 ep)∧kB h' a #[] ep t) hk (Nat.le_refl _) (by rw[Heap.size_push];exact Nat.lt_succ_self _) ?_ ?_ ⟨hg,hs.keep fun o e=>hk _ _ e⟩)
 ·intro b hb
  simp only[List.mem_cons,List.not_mem_nil,or_false] at hb
  rcases hb with rfl |rfl
  ·exact .inr (Nat.le_refl _)
  ·exact .inl rfl
 ·refine {sub:=fun b hb=> ?_,frame:=fun i h1 h2 st k=> ?_,item:=fun i s1 Q1 E1 hi1 st q=>absurd hi1 (Nat.not_lt_zero _),done:=fun s1 Q1 E1 st q=> ?_,self:=fun i s1 Q1 E1 st q=> ?_}
  ·rw[List.mem_singleton.mp hb];exact List.mem_cons_self
  ·exact⟨k _ List.mem_cons_self _ st.1,st.2.keep fun o e=>k _ (List.mem_cons_of_mem _ List.mem_cons_self) _ e⟩
  ·refine JO (es:= #[]) hh st.1 st.2 (.inl ⟨0,rfl,fun A' Q' E' z=>OU st.2 z⟩) fun h2 k2=> ?_
   exact q h2 s1.toks fun b o hb e=>k2 b o (fun z=>hb (by rw[z];exact List.mem_singleton.mpr rfl)) e
  ·have ty:s1.TypeIs (.ref s.heap.objs.size) "set_iterator":=⟨_,st.1,rfl⟩
   refine wpAny_pyIter_slot ty Gr (wpAny_call_entry Gr ty Av ?_ (Cm _))
   exact wpAny_pure ⟨_,rfl,"set_iterator",_,ty,tF.lookup,q⟩
theorem Kw {a:Addr}{ep:Nat}{t:SetTable}{R:List Value→Shared→Prop}(hh:A.handled=none) (hs:kB s.heap a #[] ep t)
  (h: ∀(h':Heap) (tk:Nat) (vs:List Value),vs=[]→(∀b o,s.heap.get? b=some o→h'.get? b=some o)→s.heap.objs.size≤h'.objs.size→R vs {s with heap:=h',toks:=tk}):
  wpAny (model prog w) A (collect (.ref a)) R E s:=by
 have ha:a<s.heap.objs.size:=let⟨o,e,_⟩:=hs.ob;Heap.lt_size e
 unfold collect
 refine wpAny_bind (wpAny_runValue (codeAny_builtin F.entry_proto_collect ?_))
 rw[Around.under_plainId F.plain_proto_collect _]
 refine wpAny_bind (m:=newList []) (wpAny_newObj_type ?_)
 refine wpAny_pure ⟨plainId_quiet F.plain_list_iadd _,codeAny_builtin F.entry_list_iadd ?_⟩
 rw[Around.under_plainId F.plain_list_iadd _]
 have g0:(s.heap.push {cls:=.type "list",data:=.seq ([]:List Value).toArray}).get? s.heap.objs.size=some {cls:=.type "list",data:=.seq #[]}:=Heap.get?_push_size _ rfl
 have hs0:kB (s.heap.push {cls:=.type "list",data:=.seq ([]:List Value).toArray}) a #[] ep t:=hs.keep fun o e=>Heap.get?_push_of_some _ e
 have sz0:(s.heap.push {cls:=.type "list",data:=.seq ([]:List Value).toArray}).objs.size=s.heap.objs.size+1:=Heap.size_push ..
 have k0: ∀b o,s.heap.get? b=some o→(s.heap.push {cls:=.type "list",data:=.seq ([]:List Value).toArray}).get? b=some o:=fun b o e=>Heap.get?_push_of_some _ e
 generalize s.heap.push {cls:=.type "list",data:=.seq ([]:List Value).toArray}=h0 at g0 hs0 sz0 k0⊢
 show wpAny _ A.in1 (Builtin.List.listExtendWith (.ref s.heap.objs.size) (.ref a) (.ref s.heap.objs.size)) _ _ {s with heap:=h0}
 unfold Builtin.List.listExtendWith
 refine wpAny_bind (wpAny_typeOf (T:="set") (s:={s with heap:=h0}) hs0.ty ?_)
 have ne:Builtin.List.listSameRef (.ref s.heap.objs.size) (.ref a)=false:=by
  simp[Builtin.List.listSameRef,Nat.ne_of_gt ha]
 rw[if_neg (by rw[ne];decide)]
 refine wpAny_bind (Oq (s:={s with heap:=h0}) (A:=A.in1) hh hs0 fun I h1 fp St k1 hI hI2 hfp W st=> ?_)
 refine wpAny_bind (wpAny_holding (J8 (s:={s with heap:=h1}) (hs0.keep fun o e=>k1 _ _ e).ty ?_))
 have g1:=k1 _ _ g0
 have main: ∀(h2:Heap) (c:Nat),St 0 h2→(∀b o,s.heap.get? b=some o→h2.get? b=some o)→h2.get? s.heap.objs.size=some {cls:=.type "list",dict:=none,data:=.seq #[] c,slots:= #[]}→
   codeAny (model prog w) A (.builtin "list.extend.loop" ⟨[.ref s.heap.objs.size,.ref I,.ref s.heap.objs.size],[]⟩) (fun r s'=> ∃v,r=.ok (.ret v)∧v=.ref s.heap.objs.size∧ ∃(h':Heap) (tk:Nat) (acc:Array Value) (c':Nat),s'={s with heap:=h',toks:=tk}∧
    (∀b o,s.heap.get? b=some o→h'.get? b=some o)∧h'.get? s.heap.objs.size=some {cls:=.type "list",dict:=none,data:=.seq acc c',slots:= #[]}∧acc.toList=[]) {s with heap:=h2}:=by
  intro h2 c st2 k2 g2
  refine codeAny_extend_loopS W.toS (by simp) s.heap.objs.size (fun hm=> ?_) _ 0 0 _ #[] c rfl (Nat.zero_le _) st2 g2 (ItemsOf.nil _) fun s' acc' c' mv g' it=> ?_
  ·rcases hfp _ hm with e |e
   ·exact absurd e (Nat.ne_of_gt ha)
   ·have:h0.objs.size≤s.heap.objs.size:=e
    rw[sz0] at this
    exact absurd this (Nat.not_succ_le_self _)
  ·obtain⟨h3,g3,d3,t3,o3⟩:=s'
   obtain rfl:g3=s.gens:=mv.gens
   obtain rfl:d3=s.drawn:=mv.drawn
   obtain rfl:o3=s.os:=mv.os
   refine⟨_,rfl,rfl,h3,t3,acc',c',rfl,fun b o e=> ?_,g',?_⟩
   ·refine mv.heap b o (fun hm=> ?_) (k2 b o e)
    have hb:b<s.heap.objs.size:=Heap.lt_size e
    rcases List.mem_cons.mp hm with z |z
    ·exact absurd z (Nat.ne_of_lt hb)
    ·rw[List.mem_singleton.mp z] at hb
     have:h0.objs.size≤I:=hI
     rw[sz0] at this
     exact absurd (Nat.lt_trans hb (Nat.lt_of_succ_le this)) (Nat.lt_irrefl _)
   ·exact List.eq_nil_of_length_eq_zero (by rw[Array.length_toList];exact it.1)
 refine wpAny_ite_split (fun _=> ?_) (fun _=>wpAny_pure ⟨plainId_quiet F.plain_extend_loop _,codeAny_mono (main h1 0 st (fun b o e=>k1 _ _ (k0 _ _ e)) g1) fun r s' hr=> ?_⟩)
 case refine_2=>
  obtain⟨v,rfl,rfl,h',tk,acc,c',rfl,kk,gg,pp⟩:=hr
  exact wpAny_bind (wpAny_load gg (wpAny_pure (h h' tk acc.toList pp kk (Nat.le_of_lt (Heap.lt_size gg)))))
 refine wpAny_bind (wpAny_rule (wpAny_bind ?_))
 show wpAny _ _ (updateSeq s.heap.objs.size (·.push .none)>>=fun _=>updateSeq s.heap.objs.size (·.pop)) _ _ _
 refine wpAny_bind (wpAny_updateSeq g1 rfl ?_)
 have g2:=Heap.get?_update_self (Obj.mapSeq (·.push Value.none)) g1 rfl
 refine wpAny_updateSeq (hz:=by seq_fits) g2 rfl ?_
 have g3:=Heap.get?_update_self (Obj.mapSeq (·.pop)) g2 rfl
 refine wpAny_pure ⟨plainId_quiet F.plain_extend_loop _,codeAny_mono (main _ _ (W.frame 0 _ _ st fun b hb o e=> ?_) (fun b o e=> ?_) g3) fun r s' hr=> ?_⟩
 ·have nb:b≠s.heap.objs.size:=fun z=>by
   rcases hfp _ hb with q |q
   ·exact absurd (z.symm.trans q) (Nat.ne_of_gt ha)
   ·have:h0.objs.size≤b:=q
    rw[sz0,z] at this
    exact absurd this (Nat.not_succ_le_self _)
  exact(Heap.get?_update_other _ _ (Ne.symm nb)).trans ((Heap.get?_update_other _ _ (Ne.symm nb)).trans e)
 ·have nb:b≠s.heap.objs.size:=Nat.ne_of_lt (Heap.lt_size e)
  exact(Heap.get?_update_other _ _ (Ne.symm nb)).trans ((Heap.get?_update_other _ _ (Ne.symm nb)).trans (k1 _ _ (k0 _ _ e)))
 ·obtain⟨v,rfl,rfl,h',tk,acc,c',rfl,kk,gg,pp⟩:=hr
  exact wpAny_bind (wpAny_load gg (wpAny_pure (h h' tk acc.toList pp kk (Nat.le_of_lt (Heap.lt_size gg)))))
theorem OJ {a:Addr}{ep:Nat}{t:SetTable}{Q:Value→Shared→Prop}(hh:A.handled=none) (hs:kB s.heap a #[] ep t)
  (h: ∀(D:Addr) (h':Heap) (tk e:Nat),s.heap.objs.size≤D→(∀b o,s.heap.get? b=some o→h'.get? b=some o)→h'.get? D=some (seqObj "list" #[] e)→Q (.ref D) {s with heap:=h',toks:=tk}):
  wpAny (model prog w) A (call (.builtin "sorted") [.ref a]) Q E s:=by
 refine Calls.call_function_entry kind_sorted plain_sorted entry_sorted (args_sorted1 _) ?_
 unfold Builtin.«sorted»
 refine wpAny_bind (m:=checkCount "sorted" 1 1 _) (wpAny_pure ?_)
 refine wpAny_bind (Kw (A:=A.in1) hh hs fun h1 tk vs hv k1 z1=> ?_)
 subst hv
 refine wpAny_bind (wpAny_newList ?_ (by simp))
 have g:(h1.push (seqObj "list" ([]:List Value).toArray 0)).get? h1.objs.size=some (seqObj "list" ([]:List Value).toArray 0):=Heap.get?_push_size _ rfl
 refine wpAny_bind (wpAny_holding (wpAny_call_entry slot_list_sort (s:={s with heap:=h1.push (seqObj "list" ([]:List Value).toArray 0),toks:=tk}) ⟨_,g,rfl⟩ entry_list_sort (list_sort_tree g (vs:=[]) .nil (by simp) fun out ns q1 q2 q3=>⟨_,rfl,wpAny_pure ⟨_,rfl,?_⟩⟩) (args_list_sort _)))
 obtain⟨kk,e,ge⟩:=EG (h1:=h1) (vs:=[]) (out:=out)
 have eo:out= #[]:=by
  have h0:ns=[]:=List.perm_nil.mp q2
  rw[h0] at q1
  have:out.toList=[]:=by
   cases hq:out.toList with
   |nil=>rfl
   |cons x r=>rw[hq] at q1;cases q1
  exact Array.toList_eq_nil_iff.mp this
 subst eo
 exact h h1.objs.size _ _ e z1 (fun b o z=>kk b o (k1 b o z)) ge
end
section
variable {X:Cx}
theorem F3 {P:Program}{w:World}(hc:X.calm=true) (hP:X.prog=P:=by rfl) (hw:X.w=w:=by rfl):cQ X (.builtin "sorted") (fun xs H Q=> ∃(p:Addr) (S:Key→Bool),xs=[.ref p]∧H p=some (Aw P w p S 0)∧ ∀q,H q=none→Q (.ref q) (upd H q (.lst []))):=by
 subst hP
 subst hw
 intro pins s σ H xs us Q I r h
 obtain⟨p,S,rfl,hp,q⟩:=h
 obtain⟨u,rfl,r1⟩:=o7 r
 cases r1
 obtain⟨f,_,_⟩:=I.hok p _ hp
 obtain⟨o,es,ep,t,e,ex,hd,_,_,_,hf,hz⟩:=f
 obtain rfl:es= #[]:=Array.eq_empty_of_size_eq_zero hz
 refine OJ (I.ok.hd hc) ⟨⟨o,e,ex.1,hd⟩,hf⟩ fun D h' tk e hD kk g=> ?_
 exact⟨.ref D,_,I.laid (h':=h') (t':=tk) (o:=.lst []) kk hD ⟨by simp,[],e,.nil,g⟩,rfl,q D (I.hok.fresh hD)⟩
end
end L2
namespace My
open PySem L2
seal L2.PSs L2.PS L2.PE L2.PT L2.PA L2.PI L2.PG L2.PW L2.PGs L2.PO
def top (i:Nat):Stmt:=PySem.Challenge.pw_layersplit_k19_shares_in_a_house.main.body.getD i (.Pass ⟨0,0,0,0⟩)
abbrev rD:Stmt:=top 20
abbrev jz:Stmt:=top 21
abbrev u0:Stmt:=top 22
abbrev nj:Stmt:=top 28
abbrev rG:Stmt:=top 38
abbrev nD:Stmt:=top 39
abbrev ni:Stmt:=top 40
abbrev u4:Stmt:=top 41
abbrev rF:Stmt:=top 48
abbrev u3:Stmt:=top 49
abbrev rE:Stmt:=top 50
abbrev pz:Stmt:=top 51
abbrev jA:Stmt:=top 52
abbrev iB:Stmt:=top 53
abbrev nC:Stmt:=top 54
abbrev lA:Stmt:=top 55
abbrev nq:Stmt:=top 56
abbrev nr:Stmt:=top 59
abbrev pA:Stmt:=top 60
abbrev gD:Stmt:=top 61
abbrev lz:Stmt:=top 62
abbrev lx:Stmt:=top 63
abbrev iz:Stmt:=top 64
abbrev nB:Stmt:=top 65
abbrev lw:Stmt:=top 66
abbrev lB:Stmt:=top 67
abbrev jN:Stmt:=top 68
abbrev i8:Stmt:=top 69
abbrev nz:Stmt:=top 70
abbrev lr:Stmt:=top 71
abbrev ny:Stmt:=top 72
abbrev nA:Stmt:=top 73
abbrev rC:Stmt:=top 75
abbrev Cs:Stmt:=top 76
abbrev jP:Stmt:=(bJ (top 80)).getD 0 (.Pass ⟨0,0,0,0⟩)
abbrev gE:Stmt:=(bJ (top 80)).getD 1 (.Pass ⟨0,0,0,0⟩)
abbrev fD:Stmt:=(bJ (top 80)).getD 2 (.Pass ⟨0,0,0,0⟩)
abbrev jC:Stmt:=(bJ (top 80)).getD 3 (.Pass ⟨0,0,0,0⟩)
abbrev jB:Stmt:=(bJ (top 80)).getD 4 (.Pass ⟨0,0,0,0⟩)
abbrev fE:Stmt:=(bJ (top 80)).getD 5 (.Pass ⟨0,0,0,0⟩)
abbrev nE:Stmt:=(bJ (top 80)).getD 6 (.Pass ⟨0,0,0,0⟩)
abbrev jQ:Stmt:=(bJ (top 83)).getD 0 (.Pass ⟨0,0,0,0⟩)
abbrev jO:Stmt:=(bJ (top 84)).getD 0 (.Pass ⟨0,0,0,0⟩)
abbrev jS:Stmt:=(bJ (top 85)).getD 0 (.Pass ⟨0,0,0,0⟩)
abbrev rJ:Stmt:=(bJ (top 85)).getD 1 (.Pass ⟨0,0,0,0⟩)
abbrev nF:Stmt:=(bJ (top 85)).getD 2 (.Pass ⟨0,0,0,0⟩)
abbrev gG:Stmt:=(bJ (top 85)).getD 3 (.Pass ⟨0,0,0,0⟩)
abbrev gF:Stmt:=(bJ (top 85)).getD 4 (.Pass ⟨0,0,0,0⟩)
abbrev cJ:Stmt:=(bJ (top 85)).getD 5 (.Pass ⟨0,0,0,0⟩)
abbrev ja:Stmt:=(bJ (top 85)).getD 6 (.Pass ⟨0,0,0,0⟩)
abbrev gH:Stmt:=(bJ (top 85)).getD 8 (.Pass ⟨0,0,0,0⟩)
abbrev i9:Stmt:=(bJ (top 85)).getD 11 (.Pass ⟨0,0,0,0⟩)
abbrev lC:Stmt:=(bJ (top 85)).getD 16 (.Pass ⟨0,0,0,0⟩)
abbrev fG:Stmt:=(bJ (top 85)).getD 17 (.Pass ⟨0,0,0,0⟩)
abbrev jR:Stmt:=(bJ (top 85)).getD 18 (.Pass ⟨0,0,0,0⟩)
abbrev fF:Stmt:=(bJ (top 85)).getD 19 (.Pass ⟨0,0,0,0⟩)
abbrev rH:Stmt:=top 87
abbrev xY:Stmt:=top 88
abbrev Ct:Stmt:=top 89
abbrev xZ:Stmt:=top 90
abbrev tM:Stmt:=top 91
abbrev Cu:Stmt:=top 92
abbrev qt:Stmt:=top 93
abbrev qu:Stmt:=top 94
abbrev mt:Stmt:=top 95
abbrev pB:Stmt:=top 96
abbrev Gs:Stmt:=top 97
set_option genInjectivity false in
set_option genSizeOf false in
structure Adr where
 y9:Addr
 iM:FuncData
 sf:Addr
 eD:FuncData
 CU:Addr
 kd:FuncData
 zb:Addr
 iO:FuncData
 zf:Addr
 iQ:FuncData
 sH:Addr
 eM:FuncData
 xF:Addr
 iK:FuncData
 CW:Addr
 kf:FuncData
 zc:Addr
 iP:FuncData
 CV:Addr
 ke:FuncData
 za:Addr
 iN:FuncData
 vB:Addr
 f8:FuncData
 sG:Addr
 eL:FuncData
 qg:Addr
 dP:FuncData
 zP:Addr
 iR:FuncData
 qb:Addr
 dN:FuncData
 sv:Addr
 eE:FuncData
 sw:Addr
 eF:FuncData
 vO:Addr
 f9:FuncData
 kt:Addr
 cx:FuncData
 qa:Addr
 dL:FuncData
 pZ:Addr
 dJ:FuncData
 pX:Addr
 dH:FuncData
 sB:Addr
 eK:FuncData
 pY:Addr
 dI:FuncData
 qd:Addr
 dO:FuncData
 oC:Addr
 c6:FuncData
 lX:Addr
 cM:FuncData
 sy:Addr
 eI:FuncData
 pW:Addr
 dG:FuncData
 sx:Addr
 eG:FuncData
 sA:Addr
 eJ:FuncData
 yV:Addr
 iL:FuncData
 Kn:Addr
 pQ:FuncData
 jF:Addr
 c8:FuncData
 kA:Addr
 cy:FuncData
 jm:Addr
 cf:FuncData
 sW:Addr
 eP:FuncData
 sU:Addr
 eN:FuncData
 jn:Addr
 cg:FuncData
 sV:Addr
 eO:FuncData
 jG:Addr
 c9:FuncData
 jE:Addr
 c7:FuncData
 jH:Addr
 df:FuncData
 Ac:Addr
 iU:FuncData
 sX:Addr
 eQ:FuncData
 kE:Addr
 cB:FuncData
 kC:Addr
 cz:FuncData
 kD:Addr
 cA:FuncData
 mj:Addr
 cO:FuncData
 kF:Addr
 cC:FuncData
 mi:Addr
 cN:FuncData
 ql:Addr
 dQ:FuncData
 jo:Addr
 cj:FuncData
 oW:Addr
 de:FuncData
 oV:Addr
 db:FuncData
 Ab:Addr
 iS:FuncData
 Gk:Addr
 mE:FuncData
 KU:Addr
 pR:FuncData
 Gm:Addr
 mF:FuncData
 Gj:Addr
 mD:FuncData
 KW:Addr
 pS:FuncData
 DJ:Addr
 kh:FuncData
 KY:Addr
 pT:FuncData
 DI:Addr
 kg:FuncData
 Gn:Addr
 mG:FuncData
 law:Addr
 so:FuncData
 bE:Addr
 et:Addr
 bT:Addr
 bp:Addr
 z9:Addr
 GP:Addr
 KR:Addr
 KP:Addr
 ME:Addr
 GM:Addr
 KS:Addr
 KQ:Addr
 GN:Addr
 E5:Addr
 GO:Addr
 tf:Addr
 oU:Addr
 pm:Params
 eh:Addr
 Bm:Addr
structure Txt (K:PySem.W.Frag) (mg:Str→Option Value) (a:Adr):Prop where
 on:Fun K "is_whole" "is_whole" rD a.y9 a.iM
 rO:mg "is_whole"=some (.ref a.y9)
 sC:aN K a.iM ["thing"] []
 t8:Fun K "is_text_of" "is_text_of" jz a.sf a.eD
 CD:mg "is_text_of"=some (.ref a.sf)
 Do:aN K a.eD ["thing","signs","longest"] []
 qz:Fun K "is_word" "is_word" u0 a.CU a.kd
 vi:mg "is_word"=some (.ref a.CU)
 vR:aN K a.kd ["thing"] []
 zk:Fun K "is_prime" "is_prime" nj a.zb a.iO
 FN:mg "is_prime"=some (.ref a.zb)
 Gc:aN K a.iO ["thing"] []
 zm:Fun K "has_form" "has_form" rG a.zf a.iQ
 FP:mg "has_form"=some (.ref a.zf)
 Gd:aN K a.iQ ["thing","depth"] []
 oq:Fun K "all_within" "all_within" nD a.sH a.eM
 tZ:mg "all_within"=some (.ref a.sH)
 um:aN K a.eM ["rule"] []
 zh:Fun K "words_of" "words_of" ni a.xF a.iK
 FJ:mg "words_of"=some (.ref a.xF)
 F9:aN K a.iK ["rule"] []
 BF:Fun K "is_rule" "is_rule" u4 a.CW a.kf
 Hy:mg "is_rule"=some (.ref a.CW)
 Iq:aN K a.kf ["thing"] []
 eZ:Fun K "is_count" "is_count" rF a.zc a.iP
 gN:mg "is_count"=some (.ref a.zc)
 hZ:aN K a.iP ["thing"] []
 BE:Fun K "is_salt" "is_salt" u3 a.CV a.ke
 Hx:mg "is_salt"=some (.ref a.CV)
 Ip:aN K a.ke ["thing"] []
 zj:Fun K "is_total" "is_total" rE a.za a.iN
 FM:mg "is_total"=some (.ref a.za)
 Gb:aN K a.iN ["thing"] []
 wv:Fun K "is_weight" "is_weight" pz a.vB a.f8
 EA:mg "is_weight"=some (.ref a.vB)
 E2:aN K a.f8 ["thing"] []
 ue:Fun K "are_counts" "are_counts" jA a.sG a.eL
 CL:mg "are_counts"=some (.ref a.sG)
 Du:aN K a.eL ["thing","many"] []
 qT:Fun K "are_weights" "are_weights" iB a.qg a.dP
 AY:mg "are_weights"=some (.ref a.qg)
 Bj:aN K a.dP ["thing","many"] []
 zn:Fun K "are_arms" "are_arms" nC a.zP a.iR
 FR:mg "are_arms"=some (.ref a.zP)
 Ge:aN K a.iR ["thing"] []
 qR:Fun K "check_house" "check_house" lA a.qb a.dN
 AW:mg "check_house"=some (.ref a.qb)
 Bh:aN K a.dN ["prime","salt"] []
 oo:Fun K "check_word" "check_word" nq a.sv a.eE
 tY:mg "check_word"=some (.ref a.sv)
 ul:aN K a.eE ["thing"] []
 t9:Fun K "check_rule" "check_rule" nr a.sw a.eF
 CG:mg "check_rule"=some (.ref a.sw)
 Dp:aN K a.eF ["thing"] []
 pV:Fun K "check_new" "check_new" pA a.vO a.f9
 wo:mg "check_new"=some (.ref a.vO)
 wA:aN K a.f9 ["thing","names"] []
 cP:Fun K "check_standing" "check_standing" gD a.kt a.cx
 ef:mg "check_standing"=some (.ref a.kt)
 eg:aN K a.cx ["thing","names"] []
 eR:Fun K "check_known" "check_known" lz a.qa a.dL
 iE:mg "check_known"=some (.ref a.qa)
 iG:aN K a.dL ["thing","names"] []
 qQ:Fun K "check_place" "check_place" lx a.pZ a.dJ
 AV:mg "check_place"=some (.ref a.pZ)
 Bg:aN K a.dJ ["thing","prime"] []
 qO:Fun K "check_slope" "check_slope" iz a.pX a.dH
 AT:mg "check_slope"=some (.ref a.pX)
 Be:aN K a.dH ["thing","prime","layers"] []
 ud:Fun K "check_arms" "check_arms" nB a.sB a.eK
 CK:mg "check_arms"=some (.ref a.sB)
 Dt:aN K a.eK ["thing"] []
 qP:Fun K "check_shuts" "check_shuts" lw a.pY a.dI
 AU:mg "check_shuts"=some (.ref a.pY)
 Bf:aN K a.dI ["thing","trials"] []
 qS:Fun K "check_count" "check_count" lB a.qd a.dO
 AX:mg "check_count"=some (.ref a.qd)
 Bi:aN K a.dO ["thing"] []
 pU:Fun K "check_shares" "check_shares" jN a.oC a.c6
 yX:mg "check_shares"=some (.ref a.oC)
 zI:aN K a.c6 ["thing","many"] []
 pc:Fun K "check_dealing" "check_dealing" i8 a.lX a.cM
 w4:mg "check_dealing"=some (.ref a.lX)
 xg:aN K a.cM ["total","weights","many"] []
 ub:Fun K "check_form" "check_form" nz a.sy a.eI
 CI:mg "check_form"=some (.ref a.sy)
 Dr:aN K a.eI ["deed"] []
 qN:Fun K "check_trial" "check_trial" lr a.pW a.dG
 AR:mg "check_trial"=some (.ref a.pW)
 Bd:aN K a.dG ["deed","layers","trials"] []
 ua:Fun K "check_open" "check_open" ny a.sx a.eG
 CH:mg "check_open"=some (.ref a.sx)
 Dq:aN K a.eG ["deed","trials"] []
 uc:Fun K "check_deed" "check_deed" nA a.sA a.eJ
 CJ:mg "check_deed"=some (.ref a.sA)
 Ds:aN K a.eJ ["deed","prime","layers","trials"] []
 zi:Fun K "most_due" "most_due" rC a.yV a.iL
 FL:mg "most_due"=some (.ref a.yV)
 Ga:aN K a.iL ["weights","given"] []
 GE:Fun K "dealt" "dealt" Cs a.Kn a.pQ
 LS:mg "dealt"=some (.ref a.Kn)
 Ma:aN K a.pQ ["total","weights"] []
 zp:Fun K "__init__" "Table.__init__" jP a.jF a.c8
 Iw:iY K a.bE "__init__" a.jF
 zK:aN K a.c8 ["self","many"] []
 vE:Fun K "owner_of" "Table.owner_of" gE a.kA a.cy
 tU:iY K a.bE "owner_of" a.kA
 vS:aN K a.cy ["self","place"] []
 uf:Fun K "places_of" "Table.places_of" fD a.jm a.cf
 cX:iY K a.bE "places_of" a.jm
 dy:aN K a.cf ["self","owner"] []
 Dc:Fun K "free" "Table.free" jC a.sW a.eP
 qM:iY K a.bE "free" a.sW
 ur:aN K a.eP ["self"] []
 C0:Fun K "told" "Table.told" jB a.sU a.eN
 qL:iY K a.bE "told" a.sU
 uo:aN K a.eN ["self","wanted"] []
 ug:Fun K "give_back" "Table.give_back" fE a.jn a.cg
 rN:iY K a.bE "give_back" a.jn
 uq:aN K a.cg ["self","owner","number"] []
 Db:Fun K "take" "Table.take" nE a.sV a.eO
 AO:iY K a.bE "take" a.sV
 Dv:aN K a.eO ["self","owner","number"] []
 zq:Fun K "__init__" "Layer.__init__" jQ a.jG a.c9
 Ix:iY K a.et "__init__" a.jG
 zL:aN K a.c9 ["self","slope","many"] []
 zo:Fun K "__init__" "Trial.__init__" jO a.jE a.c7
 Iv:iY K a.bT "__init__" a.jE
 zJ:aN K a.c7 ["self","home","arms","rule","shuts"] []
 zu:Fun K "__init__" "House.__init__" jS a.jH a.df
 Iy:iY K a.bp "__init__" a.jH
 zO:aN K a.df ["self","prime","salt"] []
 F1:Fun K "do" "House.do" rJ a.Ac a.iU
 pI:iY K a.bp "do" a.Ac
 sF:aN K a.iU ["self","deed"] []
 Dd:Fun K "done" "House.done" nF a.sX a.eQ
 AQ:iY K a.bp "done" a.sX
 Dx:aN K a.eQ ["self","deed"] []
 vH:Fun K "do_layer" "House.do_layer" gG a.kE a.cB
 tW:iY K a.bp "do_layer" a.kE
 vU:aN K a.cB ["self","name","slope"] []
 vF:Fun K "do_trial" "House.do_trial" gF a.kC a.cz
 tV:iY K a.bp "do_trial" a.kC
 vT:aN K a.cz ["self","name","trial"] []
 vG:Fun K "do_share" "House.do_share" cJ a.kD a.cA
 fM:iY K a.bp "do_share" a.kD
 ia:aN K a.cA ["self","name","numbers"] []
 xf:Fun K "do_hold" "House.do_hold" ja a.mj a.cO
 vc:iY K a.bp "do_hold" a.mj
 xi:aN K a.cO ["self","name","number"] []
 vI:Fun K "do_close" "House.do_close" gH a.kF a.cC
 tX:iY K a.bp "do_close" a.kF
 vV:aN K a.cC ["self","name"] []
 xc:Fun K "put_out" "House.put_out" i9 a.mi a.cN
 vb:iY K a.bp "put_out" a.mi
 xh:aN K a.cN ["self","layer","guests"] []
 A7:Fun K "owner" "House.owner" lC a.ql a.dQ
 yU:iY K a.bp "owner" a.ql
 Bk:aN K a.dQ ["self","layer","place"] []
 uh:Fun K "places_in" "House.places_in" fG a.jo a.cj
 jX:iY K a.bp "places_in" a.jo
 kU:aN K a.cj ["self","trial","arm"] []
 zt:Fun K "places" "House.places" jR a.oW a.de
 wY:iY K a.bp "places" a.oW
 zN:aN K a.de ["self","trial","arm"] []
 zr:Fun K "shares" "House.shares" fF a.oV a.db
 wX:iY K a.bp "shares" a.oV
 zM:aN K a.db ["self","trial"] []
 oA:Fun K "_law_cell_at" "_law_cell_at" rH a.Ab a.iS
 rP:mg "_law_cell_at"=some (.ref a.Ab)
 sE:aN K a.iS ["_law_script","_law_k"] []
 eS:Fun K "_law_mixed" "_law_mixed" xY a.Gk a.mE
 fN:mg "_law_mixed"=some (.ref a.Gk)
 gc:aN K a.mE ["_law_script","_law_k","_law_salt"] []
 xo:Fun K "_law_word" "_law_word" Ct a.KU a.pR
 CM:mg "_law_word"=some (.ref a.KU)
 Dw:aN K a.pR ["_law_k","_law_number"] []
 EL:Fun K "_law_given" "_law_given" xZ a.Gm a.mF
 JZ:mg "_law_given"=some (.ref a.Gm)
 KG:aN K a.mF ["_law_floor","_law_wanted_here","_law_prime"] []
 EK:Fun K "_law_parts" "_law_parts" tM a.Gj a.mD
 JY:mg "_law_parts"=some (.ref a.Gj)
 KF:aN K a.mD ["_law_total","_law_weights"] []
 GF:Fun K "_law_told" "_law_told" Cu a.KW a.pS
 LW:mg "_law_told"=some (.ref a.KW)
 Mb:aN K a.pS ["_law_house","_law_deed_here"] []
 BH:Fun K "_law_trials" "_law_trials" qt a.DJ a.kh
 HC:mg "_law_trials"=some (.ref a.DJ)
 Iu:aN K a.kh ["_law_script"] []
 GG:Fun K "_law_deed" "_law_deed" qu a.KY a.pT
 LX:mg "_law_deed"=some (.ref a.KY)
 Mc:aN K a.pT ["_law_script","_law_k","_law_prime","_law_layer","_law_trials_here"] []
 BG:Fun K "_law_wanted" "_law_wanted" mt a.DI a.kg
 HB:mg "_law_wanted"=some (.ref a.DI)
 Ir:aN K a.kg ["_law_deed_here","_law_arms"] []
 EM:Fun K "_law_alike" "_law_alike" pB a.Gn a.mG
 J0:mg "_law_alike"=some (.ref a.Gn)
 KH:aN K a.mG ["_law_house","_law_layer","_law_trials_here","_law_floor","_law_prime"] []
 MB:Fun K "law" "law" Gs a.law a.so
 O0:mg "law"=some (.ref a.law)
 P2:aN K a.so ["_law_script"] []
 Il: ∃u,mg "LETTERS"=some u∧aZ (.str "abcdefghijklmnopqrstuvwxyz") u
 K1: ∃u,mg "GUEST_SIGNS"=some u∧aZ (.str "abcdefghijklmnopqrstuvwxyz0123456789") u
 zF: ∃u,mg "LONGEST_WORD"=some u∧aZ (.int 12) u
 Iz: ∃u,mg "LONGEST_GUEST"=some u∧aZ (.int 24) u
 Bb: ∃u,mg "LEAST_PRIME"=some u∧aZ (.int 2) u
 vP: ∃u,mg "GREATEST_PRIME"=some u∧aZ (.int 997) u
 Pr: ∃u,mg "MIXER"=some u∧aZ (.int 1009) u
 L9: ∃u,mg "MOST_MARKS"=some u∧aZ (.int 8) u
 zG: ∃u,mg "DEEPEST_RULE"=some u∧aZ (.int 6) u
 Dn: ∃u,mg "MOST_RULES"=some u∧aZ (.int 30) u
 Dk: ∃u,mg "MOST_WORDS"=some u∧aZ (.int 3) u
 EW: ∃u,mg "MOST_ARMS"=some u∧aZ (.int 4) u
 Dm: ∃u,mg "MOST_SHUTS"=some u∧aZ (.int 8) u
 Dl: ∃u,mg "MOST_TOTAL"=some u∧aZ (.int 1000) u
 LU:mg "Table"=some (.ref a.bE)
 bg:Cls K a.bE
 JR:L2.Mk K a.bE a.jF
 qK:bX K a.bE "many"
 c5:bX K a.bE "owners"
 fK:bX K a.bE "taken"
 LY:mg "Layer"=some (.ref a.et)
 ff:Cls K a.et
 JS:L2.Mk K a.et a.jG
 yT:bX K a.et "slope"
 dF:bX K a.et "table"
 o9:bX K a.et "inside"
 LT:mg "Trial"=some (.ref a.bT)
 bv:Cls K a.bT
 JQ:L2.Mk K a.bT a.jE
 lF:bX K a.bT "home"
 dg:bX K a.bT "arms"
 AN:bX K a.bT "rule"
 yS:bX K a.bT "shuts"
 wV:bX K a.bT "paused"
 cZ:bX K a.bT "closed"
 wW:bX K a.bT "barred"
 LZ:mg "House"=some (.ref a.bp)
 ay:Cls K a.bp
 JT:L2.Mk K a.bp a.jH
 bM:bX K a.bp "own_prime"
 tT:bX K a.bp "own_salt"
 aY:bX K a.bp "layer_named"
 aP:bX K a.bp "trial_named"
 rM:bX K a.bp "came_into"
 fL:bX K a.bp "deeds"
 LV:mg "SplitError"=some (.ref a.z9)
 K0:ExC K a.z9
 Ol:mg "NoHouse"=some (.ref a.GP)
 NU:ExC K a.GP
 O3:mg "NoDeed"=some (.ref a.KR)
 Oo:ExC K a.KR
 O1:mg "NoWord"=some (.ref a.KP)
 Om:ExC K a.KP
 Pq:mg "Taken"=some (.ref a.ME)
 Pg:ExC K a.ME
 Oh:mg "Unknown"=some (.ref a.GM)
 NR:ExC K a.GM
 O4:mg "NoArms"=some (.ref a.KS)
 Op:ExC K a.KS
 O2:mg "NoRule"=some (.ref a.KQ)
 On:ExC K a.KQ
 Oi:mg "NoShuts"=some (.ref a.GN)
 NS:ExC K a.GN
 NF:mg "NoNumber"=some (.ref a.E5)
 MC:ExC K a.E5
 Oj:mg "NoMarks"=some (.ref a.GO)
 NT:ExC K a.GO
 EC:mg "Closed"=some (.ref a.tf)
 BJ:ExC K a.tf
 EB:mg "NoRoom"=some (.ref a.oU)
 BI:ExC K a.oU
 HD:mg "LENGTHS"=some (.ref a.eh)
 FT:L2.Mj K a.pm a.eh
 vx: ∃tk,PySem.W.nsIn K a.eh "layer"=some (some (.int 3 tk))
 vv: ∃tk,PySem.W.nsIn K a.eh "trial"=some (some (.int 6 tk))
 vw: ∃tk,PySem.W.nsIn K a.eh "share"=some (some (.int 3 tk))
 w9: ∃tk,PySem.W.nsIn K a.eh "deal"=some (some (.int 4 tk))
 w6: ∃tk,PySem.W.nsIn K a.eh "hold"=some (some (.int 3 tk))
 HI: ∃tk,PySem.W.nsIn K a.eh "pause"=some (some (.int 2 tk))
 KZ: ∃tk,PySem.W.nsIn K a.eh "go"=some (some (.int 2 tk))
 vy: ∃tk,PySem.W.nsIn K a.eh "close"=some (some (.int 2 tk))
 J5: ∃tk,PySem.W.nsIn K a.eh "bar"=some (some (.int 3 tk))
 HH: ∃tk,PySem.W.nsIn K a.eh "visit"=some (some (.int 3 tk))
 NG:mg "HELD"=some (.ref a.Bm)
 L1:L2.KTp K a.Bm [.str "",.str ""]
 vW:L2.MG K a.tf a.oU
 Ex:mg "all"=none
 Ny:mg "bool"=none
 Ew:mg "enumerate"=none
 OY:mg "int"=none
 bG:mg "isinstance"=none
 bK:mg "len"=none
 FB:mg "list"=none
 OX:mg "max"=none
 Mw:mg "min"=none
 ee:mg "range"=none
 FA:mg "reversed"=none
 Mv:mg "set"=none
 Ev:mg "sorted"=none
 Mu:mg "str"=none
 OW:mg "sum"=none
 eY:mg "tuple"=none
 Mt:mg "zip"=none
theorem fsc {N P:List Str}{sc:Scope}(a:sc.kind=.function:=by rfl) (b:sc.isCoroutine=false:=by rfl) (c:sc.isGenerator=false:=by rfl) (d:N.Nodup:=by decide+kernel) (e:N.take P.length=P:=by rfl) (f: ∀x∈P,sc.names.lookup x=some .local ∨sc.names.lookup x=some .cell:=by decide+kernel) (g: ∀y∈sc.names,y.2≠.free:=by decide+kernel):ax N P sc:=⟨a,b,c,d,e,f,g⟩
theorem D5:ax ["thing"] ["thing"] (ak rD):=fsc
theorem Ax:ax ["thing","signs","longest"] ["thing","signs","longest"] (ak jz):=fsc
theorem Fl:ax ["thing"] ["thing"] (ak u0):=fsc
theorem D7:ax ["thing"] ["thing"] (ak nj):=fsc
theorem wk:ax ["thing","depth","kind"] ["thing","depth"] (ak rG):=fsc
theorem qE:ax ["rule","found","inner"] ["rule"] (ak nD):=fsc
theorem D2:ax ["rule"] ["rule"] (ak ni):=fsc
theorem Fn:ax ["thing"] ["thing"] (ak u4):=fsc
theorem D8:ax ["thing"] ["thing"] (ak rF):=fsc
theorem Fm:ax ["thing"] ["thing"] (ak u3):=fsc
theorem D6:ax ["thing"] ["thing"] (ak rE):=fsc
theorem Cq:ax ["thing"] ["thing"] (ak pz):=fsc
theorem AC:ax ["thing","many"] ["thing","many"] (ak jA):=fsc
theorem xW:ax ["thing","many"] ["thing","many"] (ak iB):=fsc
theorem D9:ax ["thing"] ["thing"] (ak nC):=fsc
theorem xU:ax ["prime","salt"] ["prime","salt"] (ak lA):=fsc
theorem Ay:ax ["thing"] ["thing"] (ak nq):=fsc
theorem Az:ax ["thing"] ["thing"] (ak nr):=fsc
theorem Cr:ax ["thing","names"] ["thing","names"] (ak pA):=fsc
theorem tH:ax ["thing","names"] ["thing","names"] (ak gD):=fsc
theorem xT:ax ["thing","names"] ["thing","names"] (ak lz):=fsc
theorem xS:ax ["thing","prime"] ["thing","prime"] (ak lx):=fsc
theorem xR:ax ["thing","prime","layers"] ["thing","prime","layers"] (ak iz):=fsc
theorem AB:ax ["thing"] ["thing"] (ak nB):=fsc
theorem jM:ax ["thing","trials","k","name"] ["thing","trials"] (ak lw):=fsc
theorem xV:ax ["thing"] ["thing"] (ak lB):=fsc
theorem wH:ax ["thing","many"] ["thing","many"] (ak jN):=fsc
theorem uY:ax ["total","weights","many"] ["total","weights","many"] (ak i8):=fsc
theorem AA:ax ["deed"] ["deed"] (ak nz):=fsc
theorem xQ:ax ["deed","layers","trials"] ["deed","layers","trials"] (ak lr):=fsc
theorem lq:ax ["deed","trials","trial","many"] ["deed","trials"] (ak ny):=fsc
theorem qD:ax ["deed","prime","layers","trials","kind"] ["deed","prime","layers","trials"] (ak nA):=fsc
theorem kP:ax ["weights","given","best","k"] ["weights","given"] (ak rC):=fsc
theorem tG:ax ["total","weights","given","turn","k"] ["total","weights"] (ak Cs):=fsc
theorem wJ:ax ["self","many"] ["self","many"] (ak jP):=fsc
theorem tI:ax ["self","place"] ["self","place"] (ak gE):=fsc
theorem rA:ax ["self","owner"] ["self","owner"] (ak fD):=fsc
theorem AD:ax ["self"] ["self"] (ak jC):=fsc
theorem cD:ax ["self","wanted","more","back","owner","number"] ["self","wanted"] (ak jB):=fsc
theorem cU:ax ["self","owner","number","places","back","place"] ["self","owner","number"] (ak fE):=fsc
theorem iy:ax ["self","owner","number","places","more","place"] ["self","owner","number"] (ak nE):=fsc
theorem wK:ax ["self","slope","many"] ["self","slope","many"] (ak jQ):=fsc
theorem wI:ax ["self","home","arms","rule","shuts"] ["self","home","arms","rule","shuts"] (ak jO):=fsc
theorem wN:ax ["self","prime","salt"] ["self","prime","salt"] (ak jS):=fsc
theorem wm:ax ["self","deed","answer"] ["self","deed"] (ak rJ):=fsc
theorem qF:ax ["self","deed","kind"] ["self","deed"] (ak nF):=fsc
theorem tL:ax ["self","name","slope"] ["self","name","slope"] (ak gG):=fsc
theorem tK:ax ["self","name","trial"] ["self","name","trial"] (ak gF):=fsc
theorem cu:ax ["self","name","numbers","trial","layer","back","guests"] ["self","name","numbers"] (ak cJ):=fsc
theorem uZ:ax ["self","name","number"] ["self","name","number"] (ak ja):=fsc
theorem kQ:ax ["self","name","trial"] ["self","name"] (ak gH):=fsc
theorem d0:ax ["self","layer","guests","out","guest","seat"] ["self","layer","guests"] (ak i9):=fsc
theorem xX:ax ["self","layer","place"] ["self","layer","place"] (ak lC):=fsc
theorem rB:ax ["self","trial","arm"] ["self","trial","arm"] (ak fG):=fsc
theorem wM:ax ["self","trial","arm"] ["self","trial","arm"] (ak jR):=fsc
theorem wL:ax ["self","trial"] ["self","trial"] (ak fF):=fsc
theorem Eb:ax ["_law_script","_law_k"] ["_law_script","_law_k"] (ak rH):=fsc
theorem ms:ax ["_law_script","_law_k","_law_salt","_law_cell","_law_lap","_law_near"] ["_law_script","_law_k","_law_salt"] (ak xY):=fsc
theorem tJ:ax ["_law_k","_law_number","_law_some","_law_stem","_law_at"] ["_law_k","_law_number"] (ak Ct):=fsc
theorem ca:ax ["_law_floor","_law_wanted_here","_law_prime","_law_spare","_law_owner","_law_number","_law_given_here","_law_row","_law_at"] ["_law_floor","_law_wanted_here","_law_prime"] (ak xZ):=fsc
theorem gB:ax ["_law_total","_law_weights","_law_parts_here","_law_turn","_law_best","_law_k","_law_mine"] ["_law_total","_law_weights"] (ak tM):=fsc
theorem Ea:ax ["_law_house","_law_deed_here","_law_found"] ["_law_house","_law_deed_here"] (ak Cu):=fsc
theorem ng:ax ["_law_script","_law_trials_here","_law_k","_law_arms"] ["_law_script"] (ak qt):=fsc
theorem iI:ax ["_law_script","_law_k","_law_prime","_law_layer","_law_trials_here","_law_number","_law_name","_law_arms","_law_great","_law_weights","_law_numbers"] ["_law_script","_law_k","_law_prime","_law_layer","_law_trials_here"] (ak qu):=fsc
theorem na:ax ["_law_deed_here","_law_arms","_law_numbers"] ["_law_deed_here","_law_arms"] (ak mt):=fsc
theorem gC:ax ["_law_house","_law_layer","_law_trials_here","_law_floor","_law_prime","_law_name","_law_arms","_law_rows","_law_k","_law_found","_law_place"] ["_law_house","_law_layer","_law_trials_here","_law_floor","_law_prime"] (ak pB):=fsc
theorem dA:ax ["_law_script","_law_number","_law_prime","_law_house","_law_layer","_law_trials_here","_law_name","_law_arms","_law_floor","_law_closed","_law_k","_law_deed_here","_law_due","_law_wanted_here"] ["_law_script"] (ak Gs):=fsc
inductive Ex2 {A0 A1:Type}(p:A0→A1→Prop):Prop
 |mk (x0:A0) (x1:A1) (h:p x0 x1)
inductive Ex3 {A0 A1 A2:Type}(p:A0→A1→A2→Prop):Prop
 |mk (x0:A0) (x1:A1) (x2:A2) (h:p x0 x1 x2)
inductive Ex4 {A0 A1 A2 A3:Type}(p:A0→A1→A2→A3→Prop):Prop
 |mk (x0:A0) (x1:A1) (x2:A2) (x3:A3) (h:p x0 x1 x2 x3)
inductive Ex5 {A0 A1 A2 A3 A4:Type}(p:A0→A1→A2→A3→A4→Prop):Prop
 |mk (x0:A0) (x1:A1) (x2:A2) (x3:A3) (x4:A4) (h:p x0 x1 x2 x3 x4)
inductive Ex6 {A0 A1 A2 A3 A4 A5:Type}(p:A0→A1→A2→A3→A4→A5→Prop):Prop
 |mk (x0:A0) (x1:A1) (x2:A2) (x3:A3) (x4:A4) (x5:A5) (h:p x0 x1 x2 x3 x4 x5)
inductive Ex7 {A0 A1 A2 A3 A4 A5 A6:Type}(p:A0→A1→A2→A3→A4→A5→A6→Prop):Prop
 |mk (x0:A0) (x1:A1) (x2:A2) (x3:A3) (x4:A4) (x5:A5) (x6:A6) (h:p x0 x1 x2 x3 x4 x5 x6)
structure An5 (p0 p1 p2 p3 p4:Prop):Prop where
 h0:p0
 h1:p1
 h2:p2
 h3:p3
 h4:p4
structure An6 (p0 p1 p2 p3 p4 p5:Prop):Prop where
 h0:p0
 h1:p1
 h2:p2
 h3:p3
 h4:p4
 h5:p5
structure An7 (p0 p1 p2 p3 p4 p5 p6:Prop):Prop where
 h0:p0
 h1:p1
 h2:p2
 h3:p3
 h4:p4
 h5:p5
 h6:p6
structure An8 (p0 p1 p2 p3 p4 p5 p6 p7:Prop):Prop where
 h0:p0
 h1:p1
 h2:p2
 h3:p3
 h4:p4
 h5:p5
 h6:p6
 h7:p7
structure An9 (p0 p1 p2 p3 p4 p5 p6 p7 p8:Prop):Prop where
 h0:p0
 h1:p1
 h2:p2
 h3:p3
 h4:p4
 h5:p5
 h6:p6
 h7:p7
 h8:p8
structure Pp (p0 p1 p2 p3 p4 p5 p6 p7 p8 p9:Prop):Prop where
 h0:p0
 h1:p1
 h2:p2
 h3:p3
 h4:p4
 h5:p5
 h6:p6
 h7:p7
 h8:p8
 h9:p9
structure P1 (p0 p1 p2 p3 p4 p5 p6 p7 p8 p9 p10 p11:Prop):Prop where
 h0:p0
 h1:p1
 h2:p2
 h3:p3
 h4:p4
 h5:p5
 h6:p6
 h7:p7
 h8:p8
 h9:p9
 h10:p10
 h11:p11
@[irreducible] def wx (ns:List Int) (k:Int):Int:=if ns.length=0 then 0 else ns.getD (k%(ns.length:Int)).toNat 0
def O5 (ns:List Int) (k:Int):Int:=k/(if(ns.length:Int)>1 then(ns.length:Int) else 1)
def JP (ns:List Int) (k m:Int):Int:=(Builtin.bitAnd (wx ns k) 2147483647+1009*k*k+7919*m*m+12)*48271%2147483647
@[irreducible] def cR (ns:List Int) (k m:Int):Int:=(wx ns k/2^(31*(m+128*O5 ns k)).toNat+JP ns k m*JP ns k m%2147483629)%2147483648
theorem CA (ns:List Int) (k m:Int):0≤cR ns k m∧cR ns k m<2147483648:=by
 unfold cR
 exact bR _ (by decide)
inductive M8 (K:PySem.W.Frag) (vs:List V) (H:Hp) (Q:VK) (_E:XK):Prop
 |mk (a:Addr) (ns:List Int) (k:Int) (_:vs=[.ref a,.int k]) (_:SqL K H a (ns.map V.int)) (_:ns.length≤63) (_:Q (.int (wx ns k)) H)
inductive Le (K:PySem.W.Frag) (vs:List V) (H:Hp) (Q:VK) (_E:XK):Prop
 |mk (a:Addr) (ns:List Int) (k m:Int) (_:vs=[.ref a,.int k,.int m]) (_:SqL K H a (ns.map V.int)) (_:ns.length≤63) (_:(0≤k∧k≤1000000)) (_:(0≤m∧m≤1000000)) (_:Q (.int (cR ns k m)) H)
inductive Jd (K:PySem.W.Frag) (vs:List V) (H:Hp) (Q:VK) (_E:XK):Prop
 |mk (a:Addr) (ns:List Int) (_:vs=[.ref a]) (_:SqL K H a (ns.map V.int)) (_:ns.length≤63) (_: ∀H',Q (.bl true) H')
section
variable {P:Program}{w:World}{K:PySem.W.Frag}{mg:Str→Option Value}{base:Heap}{a:Adr}
theorem pG (T:Txt K mg a):bd P w K mg base CX0 1 a.Ab a.iS ["_law_script","_law_k"] (M8 K):=by
 refine T.oA.ok Eb (fun vs H Q E h=> ?_) (fun cdv A outer s H vs Q E hr h=> ?_)
 ·obtain⟨p,ns,k,rfl,_⟩:=h
  rfl
 ·obtain⟨p,ns,k,rfl,hS,hl,q⟩:=h
  refine⟨_,(ag (a0 (aE bO (az (aK K rfl) (by rfl) T.bK L2.aQ (ad (pv 0) af)) ai (aM _)) (ah (aI ai)) aH)
 (ah (aI (aJ (bj K rfl) (pv 0) (aA bI (pv 1) (az (aK K rfl) (by rfl) T.bK L2.aQ (ad (pv 0) af))) (fun _ _=>rfl))))),?_⟩
  refine⟨_,rfl,_,ns.length,rfl,.inl ⟨_,hS,by simp⟩,rfl,_,rfl,?_⟩
  unfold wx at q
  refine AZ (fun h0=> ?_) (fun h0=> ?_)
  ·rw[if_pos (by omega)] at q
   exact q
  have hp:(0:Int)<(ns.length:Int):=by omega
  have hm:=bR k hp
  rw[if_neg (by omega)] at q
  exact⟨_,rfl,_,rfl,_,rfl,_,ns.length,rfl,.inl ⟨_,hS,by simp⟩,_,_,rfl,rfl,hp,p,_,_,_,rfl,rfl,hS,gf hm.1 hm.2,q⟩
theorem d9 (T:Txt K mg a):bd P w K mg base CX0 2 a.Gk a.mE ["_law_script","_law_k","_law_salt"] (Le K):=by
 refine T.eS.ok ms (fun vs H Q E h=> ?_) (fun cdv A outer s H vs Q E hr h=> ?_)
 ·obtain⟨p,ns,k,m,rfl,_⟩:=h
  rfl
 ·obtain⟨p,ns,k,m,rfl,hS,hl,⟨k0,k1⟩,⟨m0,m1⟩,q⟩:=h
  refine⟨_,(ag (aO (i:=3) ms.nd rfl (.inl rfl) (av ((pG T).mono (by decide)) hr rfl T.rP T.oA.kp T.sE .nil aD (ad (pv 0) (ad (pv 1) af))))
 (ag (aO (i:=4) ms.nd rfl (.inl rfl) (aA cH (pv 1) (az (Ih rfl) (by rfl) T.OX L2.KC (ad ai (ad (az (aK K rfl) (by rfl) T.bK L2.aQ (ad (pv 0) af)) af)))))
 (ag (aO (i:=5) ms.nd rfl (.inl rfl) (aA bF (aA bF (aA bF (aA JK (pv 3) ai) (aA gJ (aA gJ ai (pv 1)) (pv 1))) (aA gJ (aA gJ ai (pv 2)) (pv 2))) ai))
 (ag (aO (i:=5) ms.nd rfl (.inl rfl) (aA bI (aA gJ (pv 5) ai) ai))
 (ah (aI (aA JK (aA bF (aA Nq (pv 3) (aA gJ ai (aA bF (pv 2) (aA gJ ai (pv 4))))) (aA bI (aA gJ (pv 5) (pv 5)) ai)) ai))))))),?_⟩
  unfold cR JP O5 at q
  refine⟨_,rfl,_,rfl,p,ns,k,rfl,hS,hl,?_⟩
  generalize wx ns k=c at q⊢
  have hn: ∃n:Int,n=(if(ns.length:Int)>1 then(ns.length:Int) else 1)∧0<n∧n<1073741824:=⟨_,rfl,by split<;>omega,by split<;>omega⟩
  obtain⟨n,en,n0,n1⟩:=hn
  rw[←en] at q
  refine⟨_,rfl,_,rfl,_,ns.length,rfl,.inl ⟨_,hS,by simp⟩,_,_,rfl,_,n,rfl,by rw[en],⟨n0,n1⟩,?_⟩
  have l0:0≤k/n:=Int.ediv_nonneg k0 (by omega)
  try dsimp only
  generalize k/n=lap at l0 q⊢
  refine⟨_,rfl,_,_,rfl,rfl,_,rfl,_,_,rfl,rfl,.inl ⟨by decide,by decide⟩,_,rfl,_,_,rfl,rfl,.inr ⟨by omega,by omega⟩,_,_,rfl,rfl,_,rfl,_,_,rfl,rfl,.inl ⟨by decide,by decide⟩,_,rfl,_,_,rfl,rfl,.inr ⟨by omega,by omega⟩,_,_,rfl,rfl,_,_,rfl,rfl,?_⟩
  refine⟨_,rfl,_,_,rfl,rfl,.inr ⟨by decide,by decide⟩,_,_,rfl,rfl,(by show(0:Int)<_;first |decide |omega),?_⟩
  have hr0:=bR ((Builtin.bitAnd c 2147483647+1009*k*k+7919*m*m+12)*48271) (show(0:Int)<2147483647 by decide)
  try dsimp only
  generalize (Builtin.bitAnd c 2147483647+1009*k*k+7919*m*m+12)*48271%2147483647=near at hr0 q⊢
  refine⟨_,rfl,_,rfl,_,rfl,_,_,rfl,rfl,.inl ⟨by decide,by decide⟩,_,_,rfl,rfl,_,_,rfl,rfl,.inl ⟨by decide,by decide⟩,_,_,rfl,rfl,(by show(0:Int)≤_;omega),_,rfl,_,rfl,_,_,rfl,rfl,.inl ⟨by omega,by omega⟩,_,_,rfl,rfl,(by show(0:Int)<_;first |decide |omega),_,_,rfl,rfl,_,_,rfl,rfl,?_⟩
  try dsimp only
  rw[NB]
  exact q
theorem HG (T:Txt K mg a) (s:Shared) (u:Value):BindsTo s a.so ⟨[u],[]⟩ [("_law_script",u)]:=by
 obtain⟨oc,od,kV,doc,pm,an,cdv,ct,osl,e,lk,hcd⟩:=T.MB.ex
 rw[e]
 exact .of_eq rfl
theorem HF {H:Hp}{p:Addr}{ns:List Int}(hl:ns.length≤63) (hS:SqL K H p (ns.map V.int)):Jd K [.ref p] H (fun v _=>v=.bl true) fun _ _ _=>False:=⟨p,ns,rfl,hS,hl,fun _=>rfl⟩
end
structure Gh (s:Str) (m:Nat) (x:Str):Prop where
 lo:1≤x.length
 hi:x.length≤m
 cs: ∀c∈x.cps.toList,c∈s.cps.toList
abbrev y3:Str:="abcdefghijklmnopqrstuvwxyz"
abbrev Wd:Str→Prop:=Gh y3 12
theorem J2 (x:Str):x.cps.toList.length=x.length:=by
 show x.cps.toList.length=x.cps.size
 simp
def Jr:List Str:=["ab","ba","b","a","aab","abab","bab","aa","abb","baa","bb","soap"]
def Gq:Nat→Str
 |0=> ""
 |1=> "soap"
 |2=> "upperlayer"
 |_=> "z"
def kO (N:Int):Str:=Gq (N%4).toNat
def atW (N:Int):Int:=N/4%(((kO N).length:Int)+1)
def t0 (k:Nat):Str:=⟨#[97+k]⟩
def Br (i:Nat):Str:=(Jr[i]?).getD "a"
def JU (z:Str) (i:Int) (c:Nat):Str:=Txt.slice z none (some i)++t0 c++Txt.slice z (some i) none
def fB (k N:Int):Str:=if N/40%2=1 then Br ((k+N/80)%12).toNat else JU (kO N) (atW N) ((k+N/80)%26).toNat
def wdB (x:Str):Bool:=decide (1≤x.length) && decide (x.length≤12) && x.cps.toList.all fun c=>decide (c∈y3.cps.toList)
theorem Mn {x:Str}(h:wdB x=true):Wd x:=by
 unfold wdB at h
 rw[Bool.and_eq_true,Bool.and_eq_true] at h
 exact⟨of_decide_eq_true h.1.1,of_decide_eq_true h.1.2,fun c hc=>of_decide_eq_true (List.all_eq_true.mp h.2 c hc)⟩
theorem Lu: ∀i∈List.range 12,wdB (Br i)=true:=by decide+kernel
theorem Jp: ∀i∈List.range 12,∀j∈List.range 12,Br i=Br j→i=j:=by decide+kernel
theorem NA: ∀r∈List.range 4,∀i∈List.range 11,∀c∈List.range 26,wdB (JU (Gq r) (i:Int) c)=true:=by decide+kernel
theorem G8 (r:Nat):(Gq r).length≤10:=by
 unfold Gq
 split<;>decide+kernel
theorem Bq (N:Int):(kO N).length≤10:=G8 _
theorem KI (N:Int):0≤atW N∧atW N<((kO N).length:Int)+1:=⟨Int.emod_nonneg _ (by omega),Int.emod_lt_of_pos _ (by omega)⟩
theorem xG (k N:Int):Wd (fB k N):=by
 unfold fB
 have b1:=bR (k+N/80) (show(0:Int)<12 by decide)
 have b2:=bR (k+N/80) (show(0:Int)<26 by decide)
 have b3:=bR N (show(0:Int)<4 by decide)
 have b4:=KI N
 have b5:=Bq N
 split
 ·exact Mn (Lu _ (by rw[List.mem_range];omega))
 ·have:=NA (N%4).toNat (by rw[List.mem_range];omega) (atW N).toNat (by rw[List.mem_range];omega) ((k+N/80)%26).toNat (by rw[List.mem_range];omega)
  rw[show(((atW N).toNat:Nat):Int)=atW N by omega] at this
  exact Mn this
theorem LO {z:Str}{i:Int}{c d:Nat}(h:JU z i c=JU z i d):c=d:=by
 have h:((Txt.slice z none (some i)).cps++ #[97+c]++(Txt.slice z (some i) none).cps)=((Txt.slice z none (some i)).cps++ #[97+d]++(Txt.slice z (some i) none).cps):=congrArg Str.cps h
 have h2:=congrArg Array.toList h
 simp at h2
 exact h2
theorem G0 {i j N:Int}(hi:0≤i∧i<12) (hj:0≤j∧j<12) (h:fB i N=fB j N):i=j:=by
 unfold fB at h
 split at h
 ·have:=Jp _ (by rw[List.mem_range];omega) _ (by rw[List.mem_range];omega) h
  omega
 ·have:=LO h
  omega
theorem J1: ∀c∈List.range 26,atI ("abcdefghijklmnopqrstuvwxyz":Str).cps.toList (c:Int)=some (97+c):=by decide+kernel
theorem IW {N:Int}:atI [V.str "",V.str "soap",V.str "upperlayer",V.str "z"] (N%4)=some (V.str (kO N)):=by
 have h1:0≤N%4:=Int.emod_nonneg _ (by decide)
 have h2:N%4<4:=Int.emod_lt_of_pos _ (by decide)
 unfold kO
 rcases(by omega:N%4=0∨N%4=1∨N%4=2∨N%4=3) with e |e |e |e<;>rw[e]<;>rfl
theorem Jq: ∀i∈List.range 12,atI (Jr.map V.str) (i:Int)=some (V.str (Br i)):=by
 intro i hi
 rw[List.mem_range] at hi
 rcases(by omega:i=0∨i=1∨i=2∨i=3∨i=4∨i=5∨i=6∨i=7∨i=8∨i=9∨i=10∨i=11) with rfl |rfl |rfl |rfl |rfl |rfl |rfl |rfl |rfl |rfl |rfl |rfl<;>rfl
inductive K8 (vs:List V) (H:Hp) (Q:VK) (_E:XK):Prop
 |mk (k N:Int) (_:vs=[.int k,.int N]) (_: ∀H',am H H'→Q (.str (fB k N)) H')
section
variable {P:Program}{w:World}{K:PySem.W.Frag}{mg:Str→Option Value}{base:Heap}{a:Adr}
theorem yP (T:Txt K mg a):bd P w K mg base CX0 1 a.KU a.pR ["_law_k","_law_number"] K8:=by
 refine T.xo.ok tJ (fun vs H Q E h=> ?_) (fun cdv A outer s H vs Q E hr h=> ?_)
 ·obtain⟨k,N,rfl,_⟩:=h
  rfl
 ·obtain⟨k,N,rfl,q⟩:=h
  refine⟨_,(ag (a0 (aE bO (aA bI (aA cH (pv 1) ai) ai) ai (aM _)) (ag (aO (i:=2) tJ.nd rfl (.inl rfl) (b7 (ad aL (ad aL (ad aL (ad aL (ad aL (ad aL (ad aL (ad aL (ad aL (ad aL (ad aL (ad aL af))))))))))))))
 (ah (aI (aJ (bj K rfl) (pv 2) (aA bI (aA bF (pv 0) (aA cH (pv 1) ai)) ai) (fun _ _=>rfl))))) aH)
 (ag (aO (i:=3) tJ.nd rfl (.inl rfl) (aJ (bj K rfl) (b7 (ad aL (ad aL (ad aL (ad aL af))))) (aA bI (pv 1) ai) (fun _ _=>rfl)))
 (ag (aO (i:=4) tJ.nd rfl (.inl rfl) (aA bI (aA cH (pv 1) ai) (aA bF (az (aK K rfl) (by rfl) T.bK L2.aQ (ad (pv 3) af)) ai)))
 (ah (aI (aA yH (aA yH (mw Js (pv 3) qw (qv (pv 4))) (aJ NM aL (aA bI (aA bF (pv 0) (aA cH (pv 1) ai)) ai) (fun _ _=>rfl))) (mw Js (pv 3) (qv (pv 4)) qw))))))),?_⟩
  have b1:=bR (k+N/80) (show(0:Int)<12 by decide)
  have b2:=bR (k+N/80) (show(0:Int)<26 by decide)
  have hsl:=Bq N
  (repeat (first |refine⟨_,rfl,?_⟩ |refine⟨_,_,rfl,rfl,?_⟩ |refine⟨(rfl:m9 _ _=true),?_⟩ |refine⟨(show ph _ _ from⟨by decide,by decide⟩),?_⟩ |refine⟨(show(0:Int)<_ by first |omega |decide),?_⟩ |refine⟨(rfl:V.int 10=V.int 10),rfl,?_⟩))
  refine AZ (fun e1=> ?_) (fun e1=> ?_)
  ·have ew:fB k N=Br ((k+N/80)%12).toNat:=if_pos e1
   refine⟨aC (show _≤65536 by simp),fun l hl=> ?_⟩
   (repeat (first |refine⟨_,rfl,?_⟩ |refine⟨_,_,rfl,rfl,?_⟩ |refine⟨(rfl:m9 _ _=true),?_⟩ |refine⟨(show ph _ _ from⟨by decide,by decide⟩),?_⟩ |refine⟨(show(0:Int)<_ by first |omega |decide),?_⟩ |refine⟨(rfl:V.int 10=V.int 10),rfl,?_⟩))
   have ha:=Jq ((k+N/80)%12).toNat (by rw[List.mem_range];omega)
   rw[show((((k+N/80)%12).toNat:Nat):Int)=(k+N/80)%12 by omega] at ha
   refine⟨l,_,_,_,rfl,rfl,SqL.of ae,ha,?_⟩
   rw[←ew]
   exact q _ (al (am.refl H) hl)
  ·have ew:fB k N=JU (kO N) (atW N) ((k+N/80)%26).toNat:=if_neg e1
   refine⟨aC (show _≤65536 by simp),fun l hl=> ?_⟩
   have s0:=al (o:=.lst [V.str "",V.str "soap",V.str "upperlayer",V.str "z"]) (am.refl H) hl
   have hl':upd H l (.lst [V.str "",V.str "soap",V.str "upperlayer",V.str "z"]) l=some (.lst [V.str "",V.str "soap",V.str "upperlayer",V.str "z"]):=ae
   generalize upd H l (.lst [V.str "",V.str "soap",V.str "upperlayer",V.str "z"])=H0 at s0 hl'⊢
   (repeat (first |refine⟨_,rfl,?_⟩ |refine⟨_,_,rfl,rfl,?_⟩ |refine⟨(rfl:m9 _ _=true),?_⟩ |refine⟨(show ph _ _ from⟨by decide,by decide⟩),?_⟩ |refine⟨(show(0:Int)<_ by first |omega |decide),?_⟩ |refine⟨(rfl:V.int 10=V.int 10),rfl,?_⟩))
   refine⟨l,_,_,_,rfl,rfl,SqL.of hl',IW,aq ?_⟩
   have hat:=KI N
   have hs1:=Txt.slice_le (kO N) none (some (atW N))
   have hs2:=Txt.slice_le (kO N) (some (atW N)) none
   (repeat (first |refine⟨_,rfl,?_⟩ |refine⟨_,_,rfl,rfl,?_⟩ |refine⟨(rfl:m9 _ _=true),?_⟩ |refine⟨(show ph _ _ from⟨by decide,by decide⟩),?_⟩ |refine⟨(show(0:Int)<_ by first |omega |decide),?_⟩ |refine⟨(rfl:V.int 10=V.int 10),rfl,?_⟩))
   refine⟨_,(kO N).length,rfl,⟨aC (by omega),rfl⟩,_,_,rfl,rfl,_,_,rfl,rfl,(by show(0:Int)<_;omega),aq ?_⟩
   have hap: ∀a b:Str,(a++b).length=a.length+b.length:=fun a b=>by
    show(a.cps++b.cps).size=a.cps.size+b.cps.size
    exact Array.size_append
   have hlt:(t0 ((k+N/80)%26).toNat).length=1:=rfl
   have ha:=J1 ((k+N/80)%26).toNat (by rw[List.mem_range];omega)
   rw[show((((k+N/80)%26).toNat:Nat):Int)=(k+N/80)%26 by omega] at ha
   refine⟨_,rfl,_,rfl,atW N,rfl,kO N,rfl,aC (by omega),?_⟩
   (repeat (first |refine⟨_,rfl,?_⟩ |refine⟨_,_,rfl,rfl,?_⟩ |refine⟨(rfl:m9 _ _=true),?_⟩ |refine⟨(show ph _ _ from⟨by decide,by decide⟩),?_⟩ |refine⟨(show(0:Int)<_ by first |omega |decide),?_⟩ |refine⟨(rfl:V.int 10=V.int 10),rfl,?_⟩))
   refine⟨"abcdefghijklmnopqrstuvwxyz",_,97+((k+N/80)%26).toNat,rfl,rfl,aC (by decide+kernel),ha,_,t0 ((k+N/80)%26).toNat,rfl,rfl,aC (by omega),_,rfl,_,rfl,atW N,rfl,kO N,rfl,aC (by omega),_,_,rfl,rfl,aC (by rw[hap];omega),?_⟩
   have hnm:Txt.slice (kO N) none (some (atW N))++t0 ((k+N/80)%26).toNat++Txt.slice (kO N) (some (atW N)) none=fB k N:=by rw[ew];rfl
   rw[hnm]
   exact q _ s0
end
inductive K9 (K:PySem.W.Frag) (vs:List V) (H:Hp) (Q:VK) (_E:XK):Prop
 |mk (z:_) (_:vs=[.int z]) (_:Q (.bl true) H)
inductive Ja (vs:List V) (H:Hp) (Q:VK) (_E:XK):Prop
 |mk (x s:Str) (m:Nat) (_:vs=[.str x,.str s,.int m]) (_:Gh s m x) (_:m≤60) (_: ∀H',am H H'→Q (.bl true) H')
inductive PB (vs:List V) (H:Hp) (Q:VK) (_E:XK):Prop
 |mk (x:_) (_:vs=[.str x]) (_:Wd x) (_: ∀H',am H H'→Q (.bl true) H')
inductive Lj (vs:List V) (H:Hp) (Q:VK) (_E:XK):Prop
 |mk (z:_) (_:vs=[.int z]) (_:0≤z) (_:Q (.bl true) H)
inductive La (vs:List V) (H:Hp) (Q:VK) (_E:XK):Prop
 |mk (z:_) (_:vs=[.int z]) (_:(0≤z∧z≤1000)) (_:Q (.bl true) H)
inductive IX (vs:List V) (H:Hp) (Q:VK) (_E:XK):Prop
 |mk (z:_) (_:vs=[.int z]) (_:(1≤z∧z≤er)) (_:Q (.bl true) H)
theorem qq {Q:VK}{p:Prop} [Decidable p] {H:Hp}(h:p) (q:Q (.bl true) H):Q (.bl (decide p)) H:=by rw[decide_eq_true h];exact q
section
variable {P:Program}{w:World}{K:PySem.W.Frag}{mg:Str→Option Value}{base:Heap}{a:Adr}
theorem pF (T:Txt K mg a):bd P w K mg base CX0 1 a.y9 a.iM ["thing"] (K9 K):=by
 refine T.on.ok D5 (fun vs H Q E h=> ?_) (fun cdv A outer s H vs Q E hr h=> ?_)
 ·obtain⟨x,rfl,_⟩:=h
  rfl
 ·obtain⟨z,rfl,k⟩:=h
  refine⟨_,(ah (aI (jb (az (mI K rfl) (by rfl) T.bG L2.bn (ad (pv 0) (ad (pD rfl T.OY L2.KD) af))) (lE (Nl (az (mI K rfl) (by rfl) T.bG L2.bn (ad (pv 0) (ad (pD rfl T.Ny L2.Im) af)))))))),?_⟩
  refine⟨_,rfl,_,"int",_,true,rfl,.int z,j7 (by decide+kernel),true,rfl,cL ?_⟩
  exact⟨_,rfl,_,"bool",_,false,rfl,.int z,j7 (by decide+kernel),false,rfl,k⟩
theorem AE (T:Txt K mg a):bd P w K mg base CX0 1 a.sf a.eD ["thing","signs","longest"] Ja:=by
 refine T.t8.ok Ax (fun vs H Q E h=> ?_) (fun cdv A outer s H vs Q E hr h=> ?_)
 ·obtain⟨x,sg,m,rfl,_⟩:=h
  rfl
 ·obtain⟨x,sg,m,rfl,ho,hm,q⟩:=h
  have hx:=ho.hi
  have hx1:=ho.lo
  refine⟨_,(ag (a0 (b0 (be K rfl (az (mI K rfl) (by rfl) T.bG L2.bn (ad (pv 0) (ad (pD rfl T.Mu L2.EX) af))) (fun _=>rfl))) (ah (aI mx)) aH)
 (ah (aI (jb (Ek o8 o8 ai (az (aK K rfl) (by rfl) T.bK L2.aQ (ad (pv 0) af)) (pv 2)) (lE (az (mJ K rfl rfl) (by rfl) T.Ex L2.qf (ad (dw ["thing","signs","longest"] ["sign"] [] [3] (ak jz) rfl rfl rfl (by decide+kernel) (by decide+kernel) (b9 3)
  (Ni (pv 0)) (fun cl C s₀ H₀ ex=>⟨(aF (i:=3) (show List.Nodup ((["thing","signs","longest"]:List PySem.Str)++(["sign"]:List PySem.Str)) by decide+kernel) rfl (by first |exact Or.inl rfl |exact Or.inr rfl)),cm,(fH Hn (pv 3) (pv 1) (by with_unfolding_all rfl))⟩)) af))))))),?_⟩
  refine⟨_,rfl,_,"str",_,true,rfl,.str x,j7 (by decide+kernel),true,rfl,bY ?_⟩
  refine⟨_,rfl,_,x.length,rfl,⟨by rw[sizeLine_eq];omega,rfl⟩,_,_,rfl,rfl,_,rfl,?_⟩
  refine se (fun h1=> ?_) (fun h1=>absurd (by omega) h1)
  refine⟨_,rfl,_,_,rfl,rfl,_,rfl,?_⟩
  refine se (fun h2=> ?_) (fun h2=>absurd (by omega) h2)
  refine⟨_,rfl,x,rfl,fun D hD=> ?_⟩
  have hl:=J2 x
  refine Kt (K:=K) (z:=x) (fun i acc H2=>acc=(List.replicate i true).map V.bl∧H2=upd H D (.lst acc)) ⟨rfl,rfl⟩ ?_ ?_
  ·rintro i c acc H2 hc ⟨rfl,rfl⟩
   have hi:i<x.cps.toList.length:=(List.getElem?_eq_some_iff.mp hc).1
   refine aq (pj (cL ?_))
   refine⟨_,rfl,_,rfl,_,_,rfl,rfl,ae,?_,lf hi ⟨?_,?_⟩⟩
   ·rw[List.length_map,List.length_replicate,sizeLine_eq]
    omega
   ·rw[StrLaws.found_one,decide_eq_true (ho.cs c (List.mem_of_getElem? hc)),List.replicate_succ',List.map_append]
    rfl
   ·rw[jx]
  ·rintro acc H2 ⟨rfl,rfl⟩
   refine⟨D,_,rfl,SqL.of ae,?_⟩
   have e:(List.replicate x.cps.toList.length true).all id=true:=by simp
   rw[e]
   exact q _ (al (am.refl _) hD)
theorem rK (T:Txt K mg a):bd P w K mg base CX0 2 a.CU a.kd ["thing"] PB:=by
 refine T.qz.ok Fl (fun vs H Q E h=> ?_) (fun cdv A outer s H vs Q E hr h=> ?_)
 ·obtain⟨x,rfl,_⟩:=h
  rfl
 ·obtain⟨x,rfl,ho,q⟩:=h
  refine⟨_,(ah (aI (av ((AE T).mono (by decide)) hr rfl T.CD T.t8.kp T.Do .nil aD (ad (pv 0) (ad (dB T.Il rfl) (ad (dB T.zF rfl) af)))))),?_⟩
  exact⟨_,rfl,x,_,12,rfl,ho,by decide,q⟩
theorem fb (T:Txt K mg a):bd P w K mg base CX0 2 a.zc a.iP ["thing"] Lj:=by
 refine T.eZ.ok D8 (fun vs H Q E h=> ?_) (fun cdv A outer s H vs Q E hr h=> ?_)
 ·obtain⟨x,rfl,_⟩:=h
  rfl
 ·obtain⟨z,rfl,h1,q⟩:=h
  refine⟨_,(ah (aI (jb (av ((pF T).mono (by decide)) hr rfl T.rO T.on.kp T.sC .nil aD (ad (pv 0) af)) (lE (fH Ms (pv 0) ai (aM _)))))),?_⟩
  refine⟨_,rfl,z,rfl,_,rfl,cL ?_⟩
  (repeat (first |refine⟨_,rfl,?_⟩ |refine⟨_,_,rfl,rfl,?_⟩ |refine⟨(rfl:m9 _ _=true),?_⟩ |refine⟨(show ph _ _ from⟨by decide,by decide⟩),?_⟩ |refine⟨(show(0:Int)<_ by first |omega |decide),?_⟩ |refine⟨(rfl:V.int 10=V.int 10),rfl,?_⟩))
  exact qq h1 q
theorem En (T:Txt K mg a):bd P w K mg base CX0 3 a.za a.iN ["thing"] La:=by
 refine T.zj.ok D6 (fun vs H Q E h=> ?_) (fun cdv A outer s H vs Q E hr h=> ?_)
 ·obtain⟨x,rfl,_⟩:=h
  rfl
 ·obtain⟨z,rfl,⟨h1,h2⟩,q⟩:=h
  refine⟨_,(ah (aI (jb (av ((fb T).mono (by decide)) hr rfl T.gN T.eZ.kp T.hZ .nil aD (ad (pv 0) af)) (lE (fH o8 (pv 0) (dB T.Dl rfl) (aM _)))))),?_⟩
  refine⟨_,rfl,z,rfl,h1,_,rfl,cL ?_⟩
  (repeat (first |refine⟨_,rfl,?_⟩ |refine⟨_,_,rfl,rfl,?_⟩ |refine⟨(rfl:m9 _ _=true),?_⟩ |refine⟨(show ph _ _ from⟨by decide,by decide⟩),?_⟩ |refine⟨(show(0:Int)<_ by first |omega |decide),?_⟩ |refine⟨(rfl:V.int 10=V.int 10),rfl,?_⟩))
  exact qq h2 q
theorem Cz (T:Txt K mg a):bd P w K mg base CX0 2 a.vB a.f8 ["thing"] IX:=by
 refine T.wv.ok Cq (fun vs H Q E h=> ?_) (fun cdv A outer s H vs Q E hr h=> ?_)
 ·obtain⟨x,rfl,_⟩:=h
  rfl
 ·obtain⟨z,rfl,⟨h1,h2⟩,q⟩:=h
  refine⟨_,(ah (aI (jb (av ((pF T).mono (by decide)) hr rfl T.rO T.on.kp T.sC .nil aD (ad (pv 0) af)) (lE (Ek o8 o8 ai (pv 0) (aA Cv ai ai)))))),?_⟩
  refine⟨_,rfl,z,rfl,_,rfl,cL ?_⟩
  (repeat (first |refine⟨_,rfl,?_⟩ |refine⟨_,_,rfl,rfl,?_⟩ |refine⟨(rfl:m9 _ _=true),?_⟩ |refine⟨(show ph _ _ from⟨by decide,by decide⟩),?_⟩ |refine⟨(show(0:Int)<_ by first |omega |decide),?_⟩ |refine⟨(rfl:V.int 10=V.int 10),rfl,?_⟩))
  refine se (fun _=> ?_) (fun h=>absurd h1 h)
  (repeat (first |refine⟨_,rfl,?_⟩ |refine⟨_,_,rfl,rfl,?_⟩ |refine⟨(rfl:m9 _ _=true),?_⟩ |refine⟨(show ph _ _ from⟨by decide,by decide⟩),?_⟩ |refine⟨(show(0:Int)<_ by first |omega |decide),?_⟩ |refine⟨(rfl:V.int 10=V.int 10),rfl,?_⟩))
  exact qq h2 q
end
inductive Jg (K:PySem.W.Frag) (vs:List V) (H:Hp) (Q:VK) (_E:XK):Prop
 |mk (p:Addr) (l:List Int) (_:vs=[.ref p,.int (l.length:Nat)]) (_:SqT K H p (l.map V.int)) (_:(∀i∈l,0≤i)) (_:l.length≤100) (_: ∀H',am H H'→Q (.bl true) H')
inductive G9 (K:PySem.W.Frag) (vs:List V) (H:Hp) (Q:VK) (_E:XK):Prop
 |mk (p:Addr) (l:List Int) (_:vs=[.ref p,.int (l.length:Nat)]) (_:SqT K H p (l.map V.int)) (_:(∀i∈l,1≤i∧i≤er)) (_:l.length≤100) (_: ∀H',am H H'→Q (.bl true) H')
inductive Na (K:PySem.W.Frag) (vs:List V) (H:Hp) (Q:VK) (_E:XK):Prop
 |mk (p:Addr) (l:List Str) (_:vs=[.ref p]) (_:SqT K H p (l.map V.str)) (_:(∀w∈l,Wd w)) (_:l.Nodup) (_:1≤l.length) (_:l.length≤4) (_: ∀H',am H H'→Q (.bl true) H')
theorem m4 (i:Nat):(List.replicate i true).map V.bl++[V.bl true]=(List.replicate (i+1) true).map V.bl:=by
 rw[List.replicate_succ',List.map_append]
 rfl
theorem qp (n:Nat):(List.replicate n true).all id=true:=by simp
theorem qo (i:Nat) (h:i≤1000):((List.replicate i true).map V.bl).length<sizeLine:=by
 rw[List.length_map,List.length_replicate,sizeLine_eq]
 omega
theorem CB {α β:Type}{f:α→β}{l:List α}{i:Nat}{v:β}(h:(l.map f)[i]? =some v): ∃x,l[i]? =some x∧v=f x∧x∈l:=by
 rw[List.getElem?_map] at h
 cases e:l[i]? with
 |none=>rw[e] at h;cases h
 |some x=>rw[e] at h;cases h;exact⟨x,rfl,rfl,List.mem_of_getElem? e⟩
theorem HJ (l:List Str):(l.map (Sum.inr:Str→Key)).map kV=l.map V.str:=by
 rw[List.map_map]
 rfl
theorem J6 {l:List Str}(h:l.Nodup):(dd (l.map (Sum.inr:Str→Key))).length=l.length:=by
 have:=(NW (l.map (Sum.inr:Str→Key))).mpr (h.map _ (fun a b h e=>h (Sum.inr.inj e)))
 rw[this,List.length_map]
section
variable {P:Program}{w:World}{K:PySem.W.Frag}{mg:Str→Option Value}{base:Heap}{a:Adr}
theorem AK (T:Txt K mg a):bd P w K mg base CX0 3 a.sG a.eL ["thing","many"] (Jg K):=by
 refine T.ue.ok AC (fun vs H Q E h=> ?_) (fun cdv A outer s H vs Q E hr h=> ?_)
 ·obtain⟨v,l,rfl,_⟩:=h
  rfl
 ·obtain⟨p,l,rfl,hT,h1,h2,q⟩:=h
  refine⟨_,(ah (aI (jb (az (hV K rfl) (by rfl) T.bG L2.bn (ad (pv 0) (ad (pD rfl T.eY L2.bW) af))) (jb (fH bO (az (aK K rfl) (by rfl) T.bK L2.aQ (ad (pv 0) af)) (pv 1) (aM _)) (lE (az (mJ K rfl rfl) (by rfl) T.Ex L2.qf (ad (dw ["thing","many"] ["number"] [] [2] (ak jA) rfl rfl rfl (by decide+kernel) (by decide+kernel) (b9 2)
  (nG K rfl (pv 0)) (fun cl C s₀ H₀ ex=>⟨(aF (i:=2) (show List.Nodup ((["thing","many"]:List PySem.Str)++(["number"]:List PySem.Str)) by decide+kernel) rfl (by first |exact Or.inl rfl |exact Or.inr rfl)),cm,(av ((fb T).mono (by decide)) hr rfl T.gN T.eZ.kp T.hZ .nil aD (ad (pv 2) af))⟩)) af))))))),?_⟩
  refine⟨_,rfl,_,"tuple",_,true,rfl,.inr ⟨p,_,rfl,hT,rfl⟩,j7 (by decide+kernel),true,rfl,cL ?_⟩
  refine⟨_,rfl,_,l.length,rfl,.inr ⟨_,hT,by simp⟩,_,rfl,rfl,_,rfl,?_⟩
  rw[decide_eq_true rfl]
  refine cL ⟨_,rfl,p,rfl,⟨_,hT⟩,fun D hD=> ?_⟩
  refine kq (K:=K) (a:=p) (xs:=l.map V.int) (fun i acc H'=>acc=(List.replicate i true).map V.bl∧am H H'∧H' D=some (.lst acc)) ⟨rfl,al (am.refl _) hD,ae⟩ (fun i acc H' _ h=>am.tseq h.2.1 hT) ?_ ?_
  ·rintro i v acc H1 hv ⟨rfl,s1,hD1⟩
   have hi:=(List.getElem?_eq_some_iff.mp hv).1
   obtain⟨z,_,rfl,hz⟩:=CB hv
   have hi2:i<l.length:=by simpa using hi
   exact aq (pj (cL ⟨_,rfl,z,rfl,h1 z hz,hD1,qo i (by omega),lf hi ⟨m4 i,br s1 hD,ae⟩⟩))
  ·rintro acc H1 ⟨rfl,s1,hD1⟩
   refine⟨D,_,rfl,SqL.of hD1,?_⟩
   rw[qp]
   exact q _ s1
theorem yO (T:Txt K mg a):bd P w K mg base CX0 3 a.qg a.dP ["thing","many"] (G9 K):=by
 refine T.qT.ok xW (fun vs H Q E h=> ?_) (fun cdv A outer s H vs Q E hr h=> ?_)
 ·obtain⟨v,l,rfl,_⟩:=h
  rfl
 ·obtain⟨p,l,rfl,hT,h1,h2,q⟩:=h
  refine⟨_,(ah (aI (jb (az (hV K rfl) (by rfl) T.bG L2.bn (ad (pv 0) (ad (pD rfl T.eY L2.bW) af))) (jb (fH bO (az (aK K rfl) (by rfl) T.bK L2.aQ (ad (pv 0) af)) (pv 1) (aM _)) (lE (az (mJ K rfl rfl) (by rfl) T.Ex L2.qf (ad (dw ["thing","many"] ["number"] [] [2] (ak iB) rfl rfl rfl (by decide+kernel) (by decide+kernel) (b9 2)
  (nG K rfl (pv 0)) (fun cl C s₀ H₀ ex=>⟨(aF (i:=2) (show List.Nodup ((["thing","many"]:List PySem.Str)++(["number"]:List PySem.Str)) by decide+kernel) rfl (by first |exact Or.inl rfl |exact Or.inr rfl)),cm,(av ((Cz T).mono (by decide)) hr rfl T.EA T.wv.kp T.E2 .nil aD (ad (pv 2) af))⟩)) af))))))),?_⟩
  refine⟨_,rfl,_,"tuple",_,true,rfl,.inr ⟨p,_,rfl,hT,rfl⟩,j7 (by decide+kernel),true,rfl,cL ?_⟩
  refine⟨_,rfl,_,l.length,rfl,.inr ⟨_,hT,by simp⟩,_,rfl,rfl,_,rfl,?_⟩
  rw[decide_eq_true rfl]
  refine cL ⟨_,rfl,p,rfl,⟨_,hT⟩,fun D hD=> ?_⟩
  refine kq (K:=K) (a:=p) (xs:=l.map V.int) (fun i acc H'=>acc=(List.replicate i true).map V.bl∧am H H'∧H' D=some (.lst acc)) ⟨rfl,al (am.refl _) hD,ae⟩ (fun i acc H' _ h=>am.tseq h.2.1 hT) ?_ ?_
  ·rintro i v acc H1 hv ⟨rfl,s1,hD1⟩
   have hi:=(List.getElem?_eq_some_iff.mp hv).1
   obtain⟨z,_,rfl,hz⟩:=CB hv
   have hi2:i<l.length:=by simpa using hi
   exact aq (pj (cL ⟨_,rfl,z,rfl,h1 z hz,hD1,qo i (by omega),lf hi ⟨m4 i,br s1 hD,ae⟩⟩))
  ·rintro acc H1 ⟨rfl,s1,hD1⟩
   refine⟨D,_,rfl,SqL.of hD1,?_⟩
   rw[qp]
   exact q _ s1
theorem Er (T:Txt K mg a):bd P w K mg base CX0 3 a.zP a.iR ["thing"] (Na K):=by
 refine T.zn.ok D9 (fun vs H Q E h=> ?_) (fun cdv A outer s H vs Q E hr h=> ?_)
 ·obtain⟨p,l,rfl,_⟩:=h
  rfl
 ·obtain⟨p,l,rfl,hT,h1,h2,h3,h4,q⟩:=h
  refine⟨_,(ag (a0 (PW.pt (kR (b0 (be K rfl (az (hV K rfl) (by rfl) T.bG L2.bn (ad (pv 0) (ad (pD rfl T.eY L2.bW) af))) (fun _=>rfl))) (gI (b0 (Eg o8 o8 ai (az (aK K rfl) (by rfl) T.bK L2.aQ (ad (pv 0) af)) (dB T.EW rfl)))))) (ah (aI mx)) aH)
 (ah (aI (jb (az (mJ K rfl rfl) (by rfl) T.Ex L2.qf (ad (dw ["thing"] ["arm"] [] [1] (ak nC) rfl rfl rfl (by decide+kernel) (by decide+kernel) (b9 1)
  (nG K rfl (pv 0)) (fun cl C s₀ H₀ ex=>⟨(aF (i:=1) (show List.Nodup ((["thing"]:List PySem.Str)++(["arm"]:List PySem.Str)) by decide+kernel) rfl (by first |exact Or.inl rfl |exact Or.inr rfl)),cm,(av ((rK T).mono (by decide)) hr rfl T.vi T.qz.kp T.vR .nil aD (ad (pv 1) af))⟩)) af)) (lE (fH bO (az (F6 (P:=P) (w:=w)) (by rfl) T.bK L2.aQ (ad (d8 (F4 (P:=P) (w:=w) K rfl rfl) (by rfl) T.Mv L2.EY (ad (pv 0) af)) af)) (az (aK K rfl) (by rfl) T.bK L2.aQ (ad (pv 0) af)) (aM _))))))),?_⟩
  refine⟨_,rfl,_,"tuple",_,true,rfl,.inr ⟨p,_,rfl,hT,rfl⟩,j7 (by decide+kernel),true,rfl,bY ?_⟩
  have hll:l.length=(l.map V.str).length:=by simp
  refine⟨_,rfl,_,l.length,rfl,.inr ⟨_,hT,hll⟩,_,_,rfl,rfl,_,rfl,se (fun _=> ?_) (fun h=>absurd (by omega) h)⟩
  refine⟨_,_,rfl,rfl,_,rfl,?_⟩
  show if(!decide ((l.length:Int)≤4))=true then _ else _
  rw[decide_eq_true (show(l.length:Int)≤4 by omega)]
  refine bY ?_
  refine⟨_,rfl,p,rfl,⟨_,hT⟩,fun D hD=> ?_⟩
  refine kq (K:=K) (a:=p) (xs:=l.map V.str) (fun i acc H'=>acc=(List.replicate i true).map V.bl∧am H H'∧H' D=some (.lst acc)) ⟨rfl,al (am.refl _) hD,ae⟩ (fun i acc H' _ h=>am.tseq h.2.1 hT) ?_ ?_
  ·rintro i v acc H1 hv ⟨rfl,s1,hD1⟩
   have hi:=(List.getElem?_eq_some_iff.mp hv).1
   obtain⟨z,_,rfl,hz⟩:=CB hv
   have hi2:i<l.length:=by simpa using hi
   exact aq (pj (cL ⟨_,rfl,z,rfl,h1 z hz,fun H2 s2=>⟨s2 _ _ hD1,qo i (by omega),lf hi ⟨m4 i,br (s1.trans s2) hD,ae⟩⟩⟩))
  ·rintro acc H1 ⟨rfl,s1,hD1⟩
   refine⟨D,_,rfl,SqL.of hD1,_,rfl,?_⟩
   rw[qp]
   have hkl:=J6 h2
   refine cL ⟨_,rfl,p,l.map Sum.inr,rfl,by rw[HJ];exact am.tseq s1 hT,by rw[List.length_map];omega,fun q1 hq1=> ?_⟩
   refine⟨q1,_,_,rfl,ae,by rw[hkl];omega,?_⟩
   have s3: ∀o,am H (upd H1 q1 o):=fun o=>al s1 hq1
   refine⟨_,rfl,_,l.length,rfl,.inr ⟨_,am.tseq (s3 _) hT,hll⟩,rfl,?_⟩
   rw[hkl,decide_eq_true rfl]
   exact q _ (s3 _)
end
inductive Hg (K:PySem.W.Frag) (vs:List V) (H:Hp) (Q:VK) (_E:XK):Prop
 |mk (t:_) (_:vs=[.ref t,.int 6]) (_:SqT K H t [.str "any"]) (_:Q (.bl true) H)
inductive Lr (K:PySem.W.Frag) (vs:List V) (H:Hp) (Q:VK) (_E:XK):Prop
 |mk (t:_) (_:vs=[.ref t]) (_:SqT K H t [.str "any"]) (_: ∀l H',am H H'→H' l=some (.lst [.ref t])→Q (.ref l) H')
inductive Fj (K:PySem.W.Frag) (vs:List V) (H:Hp) (Q:VK) (_E:XK):Prop
 |mk (t:_) (_:vs=[.ref t]) (_:SqT K H t [.str "any"]) (_: ∀l H',am H H'→H' l=some (.lst [])→Q (.ref l) H')
inductive Hf (K:PySem.W.Frag) (vs:List V) (H:Hp) (Q:VK) (_E:XK):Prop
 |mk (t:_) (_:vs=[.ref t]) (_:SqT K H t [.str "any"]) (_: ∀H',am H H'→Q (.bl true) H')
section
variable {P:Program}{w:World}{K:PySem.W.Frag}{mg:Str→Option Value}{base:Heap}{a:Adr}
theorem Ep (T:Txt K mg a):bd P w K mg base CX0 1 a.zf a.iQ ["thing","depth"] (Hg K):=by
 refine T.zm.ok wk (fun vs H Q E h=> ?_) (fun cdv A outer s H vs Q E hr h=> ?_)
 ·obtain⟨t,rfl,_⟩:=h
  rfl
 ·obtain⟨t,rfl,hT,q⟩:=h
  refine⟨_,(ag (a0 (PW.pt (kR (aE bO (pv 1) ai (aM _)) (kR (b0 (be K rfl (az (hV K rfl) (by rfl) T.bG L2.bn (ad (pv 0) (ad (pD rfl T.eY L2.bW) af))) (fun _=>rfl))) (gI (aE bO (az (aK K rfl) (by rfl) T.bK L2.aQ (ad (pv 0) af)) ai (aM _)))))) (ah cb) aH)
 (ag (aO (i:=2) wk.nd rfl (.inl rfl) (aJ (aB K rfl) (pv 0) ai (fun _ _=>rfl)))
 (ag (a0 (aE bO (pv 2) aL (aM _)) (ah (aI (fH bO (az (aK K rfl) (by rfl) T.bK L2.aQ (ad (pv 0) af)) ai (aM _)))) aH)
 (ag cb
 (ag cb
 (ag cb
 (ag cb
 (ah cb)))))))),?_⟩
  refine⟨_,rfl,rfl,_,rfl,AZ (fun h=>absurd h (by decide)) (fun _=> ?_)⟩
  refine⟨_,rfl,_,"tuple",_,true,rfl,.inr ⟨t,_,rfl,hT,rfl⟩,j7 (by decide+kernel),true,rfl,bY ?_⟩
  refine⟨_,rfl,_,_,rfl,.inr ⟨_,hT,rfl⟩,rfl,_,rfl,AZ (fun h=>absurd h (by decide)) (fun _=> ?_)⟩
  refine⟨_,rfl,t,_,0,_,rfl,rfl,hT,ao (k:=0) rfl,?_⟩
  refine aq ?_
  refine⟨_,rfl,rfl,_,rfl,cL ?_⟩
  refine⟨_,rfl,_,_,rfl,.inr ⟨_,hT,rfl⟩,rfl,?_⟩
  exact qq (p:=V.int 1=V.int 1) rfl q
theorem qH (T:Txt K mg a):bd P w K mg base CX0 1 a.sH a.eM ["rule"] (Lr K):=by
 refine T.oq.ok qE (fun vs H Q E h=> ?_) (fun cdv A outer s H vs Q E hr h=> ?_)
 ·obtain⟨t,rfl,_⟩:=h
  rfl
 ·obtain⟨t,rfl,hT,q⟩:=h
  refine⟨_,(ag (aO (i:=1) qE.nd rfl (.inl rfl) (b7 (ad (pv 0) af)))
 (ag (a0 (aE (yG K rfl) (aJ (aB K rfl) (pv 0) ai (fun _ _=>rfl)) (cE (ad aL (ad aL (ad aL af)))) (by with_unfolding_all rfl)) (ah cb) aH)
 (ah (aI (pv 1))))),?_⟩
  refine⟨_,rfl,aC (show _≤65536 by simp),fun l hl=> ?_⟩
  have s1:=al (o:=.lst [.ref t]) (am.refl H) hl
  have e1:upd H l (.lst [.ref t]) l=some (.lst [.ref t]):=ae
  generalize upd H l (.lst [.ref t])=H1 at s1 e1⊢
  refine aq ⟨_,rfl,t,_,0,_,rfl,rfl,am.tseq s1 hT,ao (k:=0) rfl,aC (show _≤65536 by simp),fun t2 ht2=> ?_⟩
  have s2:=al (o:=.tup [.str "not",.str "both",.str "either"]) (am.refl H1) ht2
  refine⟨t2,_,rfl,.inr (SqT.of ae),rfl,rfl,_,rfl,bY ?_⟩
  exact⟨_,rfl,q l _ (s1.trans s2) (s2 _ _ e1)⟩
theorem El (T:Txt K mg a):bd P w K mg base CX0 2 a.xF a.iK ["rule"] (Fj K):=by
 refine T.zh.ok D2 (fun vs H Q E h=> ?_) (fun cdv A outer s H vs Q E hr h=> ?_)
 ·obtain⟨t,rfl,_⟩:=h
  rfl
 ·obtain⟨t,rfl,hT,q⟩:=h
  refine⟨_,(ah (aI (az (F3 (P:=P) (w:=w) rfl) (by rfl) T.Ev L2.wy (ad (d8 (Ig (P:=P) (w:=w) K rfl rfl) (by rfl) T.Mv L2.EY (ad (dw ["rule"] ["inner"] [] [1] (ak ni) rfl rfl rfl (by decide+kernel) (by decide+kernel) (b9 1)
  (ce K rfl (av ((qH T).mono (by decide)) hr rfl T.tZ T.oq.kp T.um .nil aD (ad (pv 0) af))) (fun cl C s₀ H₀ ex=>⟨(aF (i:=1) (show List.Nodup ((["rule"]:List PySem.Str)++(["inner"]:List PySem.Str)) by decide+kernel) rfl (by first |exact Or.inl rfl |exact Or.inr rfl)),(xj (aE (yG K rfl) (aJ (aB K rfl) (pv 1) ai (fun _ _=>rfl)) (cE (ad aL (ad aL af))) (by with_unfolding_all rfl))),(aJ (aB K rfl) (pv 1) ai (fun _ _=>rfl))⟩)) af)) af)))),?_⟩
  refine⟨_,rfl,t,rfl,hT,fun l H1 s1 hL1=> ?_⟩
  refine⟨l,rfl,⟨_,SqL.of hL1⟩,fun D hD=> ?_⟩
  refine mH (K:=K) (a:=l) (xs:=[.ref t]) (fun i acc H'=>acc=[]∧am H1 H'∧H' D=some (.lst acc)) ⟨rfl,al (am.refl _) hD,ae⟩ (fun i acc H' _ h=>SqL.of (h.2.1 _ _ hL1)) ?_ ?_
  ·rintro i v acc H2 hv ⟨rfl,s2,hD2⟩
   have hi:i<1:=(List.getElem?_eq_some_iff.mp hv).1
   obtain rfl:i=0:=by omega
   cases hv
   refine aq ⟨_,rfl,t,_,0,_,rfl,rfl,am.tseq (s1.trans s2) hT,ao (k:=0) rfl,aC (show _≤65536 by simp),fun t2 ht2=> ?_⟩
   have s3:=al (o:=.tup [.str "has",.str "least"]) (am.refl H2) ht2
   refine⟨t2,_,rfl,.inr (SqT.of ae),rfl,rfl,_,rfl,bY (lf hi ⟨rfl,s2.trans s3,s3 _ _ hD2⟩)⟩
  ·rintro acc H2 ⟨rfl,s2,hD2⟩
   refine⟨D,[],rfl,SqL.of hD2,by simp,fun q1 hq1=> ?_⟩
   have s3:=al (o:=Aw P w q1 (fun k=>(dd ([]:List Key)).any (· ==k)) (dd ([]:List Key)).length) (am.refl H2) hq1
   refine⟨q1,_,rfl,ae,fun q2 hq2=> ?_⟩
   have s4:=al (o:=.lst []) s3 hq2
   exact q q2 _ ((s1.trans s2).trans s4) ae
theorem Fw (T:Txt K mg a):bd P w K mg base CX0 3 a.CW a.kf ["thing"] (Hf K):=by
 refine T.BF.ok Fn (fun vs H Q E h=> ?_) (fun cdv A outer s H vs Q E hr h=> ?_)
 ·obtain⟨t,rfl,_⟩:=h
  rfl
 ·obtain⟨t,rfl,hT,q⟩:=h
  refine⟨_,(ag (a0 (b0 (be K rfl (av ((Ep T).mono (by decide)) hr rfl T.FP T.zm.kp T.Gd .nil aD (ad (pv 0) (ad (dB T.zG rfl) af))) (fun _=>rfl))) (ah (aI mx)) aH)
 (ah (aI (jb (fH o8 (az (aK K rfl) (by rfl) T.bK L2.aQ (ad (av ((qH T).mono (by decide)) hr rfl T.tZ T.oq.kp T.um .nil aD (ad (pv 0) af)) af)) (dB T.Dn rfl) (aM _)) (lE (fH o8 (az (aK K rfl) (by rfl) T.bK L2.aQ (ad (av ((El T).mono (by decide)) hr rfl T.FJ T.zh.kp T.F9 .nil aD (ad (pv 0) af)) af)) (dB T.Dk rfl) (aM _))))))),?_⟩
  refine⟨_,rfl,t,rfl,hT,_,rfl,bY ?_⟩
  refine⟨_,rfl,t,rfl,hT,fun l H1 s1 hL1=> ?_⟩
  refine⟨_,1,rfl,.inl ⟨_,SqL.of hL1,rfl⟩,_,_,rfl,rfl,_,rfl,se (fun _=> ?_) (fun h=>absurd (by decide) h)⟩
  refine⟨_,rfl,t,rfl,am.tseq s1 hT,fun l2 H2 s2 hL2=> ?_⟩
  refine⟨_,0,rfl,.inl ⟨_,SqL.of hL2,rfl⟩,_,_,rfl,rfl,?_⟩
  exact qq (show((0:Nat):Int)≤3 by decide) (q H2 (s1.trans s2))
end
inductive Ll (vs:List V) (H:Hp) (Q:VK) (_E:XK):Prop
 |mk (x:_) (_:vs=[.str x]) (_:Wd x) (_: ∀H',am H H'→Q .non H')
inductive Lq (K:PySem.W.Frag) (vs:List V) (H:Hp) (Q:VK) (_E:XK):Prop
 |mk (p:Addr) (l:List Str) (_:vs=[.ref p]) (_:SqT K H p (l.map V.str)) (_:(∀w∈l,Wd w)) (_:l.Nodup) (_:1≤l.length) (_:l.length≤4) (_: ∀H',am H H'→Q .non H')
inductive Lm (K:PySem.W.Frag) (vs:List V) (H:Hp) (Q:VK) (_E:XK):Prop
 |mk (t:_) (_:vs=[.ref t]) (_:SqT K H t [.str "any"]) (_: ∀H',am H H'→Q .non H')
inductive Jo (vs:List V) (H:Hp) (Q:VK) (_E:XK):Prop
 |mk (z:_) (_:vs=[.int z]) (_:0≤z) (_:Q .non H)
inductive He (K:PySem.W.Frag) (vs:List V) (H:Hp) (Q:VK) (_E:XK):Prop
 |mk (p:Addr) (l:List Int) (_:vs=[.ref p,.int (l.length:Nat)]) (_:SqT K H p (l.map V.int)) (_:(∀i∈l,0≤i)) (_:l.length≤100) (_: ∀H',am H H'→Q .non H')
inductive Lp (K:PySem.W.Frag) (vs:List V) (H:Hp) (Q:VK) (_E:XK):Prop
 |mk (z:Int) (p:Addr) (l:List Int) (_:vs=[.int z,.ref p,.int (l.length:Nat)]) (_:(0≤z∧z≤1000)) (_:SqT K H p (l.map V.int)) (_:(∀i∈l,1≤i∧i≤er)) (_:l.length≤100) (_: ∀H',am H H'→Q .non H')
section
variable {P:Program}{w:World}{K:PySem.W.Frag}{mg:Str→Option Value}{base:Heap}{a:Adr}
theorem qG (T:Txt K mg a):bd P w K mg base CX0 3 a.sv a.eE ["thing"] Ll:=by
 refine T.oo.ok Ay (fun vs H Q E h=> ?_) (fun cdv A outer s H vs Q E hr h=> ?_)
 ·obtain⟨x,rfl,_⟩:=h
  rfl
 ·obtain⟨x,rfl,ho,q⟩:=h
  refine⟨_,(ah (a0 (b0 (be K rfl (av ((rK T).mono (by decide)) hr rfl T.vi T.qz.kp T.vR .nil aD (ad (pv 0) af)) (fun _=>rfl))) (ah bQ) aH)),?_⟩
  exact⟨_,rfl,x,rfl,ho,fun H1 s1=>⟨_,rfl,bY (q H1 s1)⟩⟩
theorem AJ (T:Txt K mg a):bd P w K mg base CX0 4 a.sB a.eK ["thing"] (Lq K):=by
 refine T.ud.ok AB (fun vs H Q E h=> ?_) (fun cdv A outer s H vs Q E hr h=> ?_)
 ·obtain⟨p,l,rfl,_⟩:=h
  rfl
 ·obtain⟨p,l,rfl,h1,h2,h3,h4,h5,q⟩:=h
  refine⟨_,(ah (a0 (b0 (be K rfl (av ((Er T).mono (by decide)) hr rfl T.FR T.zn.kp T.Ge .nil aD (ad (pv 0) af)) (fun _=>rfl))) (ah bQ) aH)),?_⟩
  exact⟨_,rfl,p,l,rfl,h1,h2,h3,h4,h5,fun H1 s1=>⟨_,rfl,bY (q H1 s1)⟩⟩
theorem AF (T:Txt K mg a):bd P w K mg base CX0 4 a.sw a.eF ["thing"] (Lm K):=by
 refine T.t9.ok Az (fun vs H Q E h=> ?_) (fun cdv A outer s H vs Q E hr h=> ?_)
 ·obtain⟨t,rfl,_⟩:=h
  rfl
 ·obtain⟨t,rfl,hT,q⟩:=h
  refine⟨_,(ah (a0 (b0 (be K rfl (av ((Fw T).mono (by decide)) hr rfl T.Hy T.BF.kp T.Iq .nil aD (ad (pv 0) af)) (fun _=>rfl))) (ah bQ) aH)),?_⟩
  exact⟨_,rfl,t,rfl,hT,fun H1 s1=>⟨_,rfl,bY (q H1 s1)⟩⟩
theorem yN (T:Txt K mg a):bd P w K mg base CX0 3 a.qd a.dO ["thing"] Jo:=by
 refine T.qS.ok xV (fun vs H Q E h=> ?_) (fun cdv A outer s H vs Q E hr h=> ?_)
 ·obtain⟨z,rfl,_⟩:=h
  rfl
 ·obtain⟨z,rfl,h0,q⟩:=h
  refine⟨_,(ah (a0 (b0 (be K rfl (av ((fb T).mono (by decide)) hr rfl T.gN T.eZ.kp T.hZ .nil aD (ad (pv 0) af)) (fun _=>rfl))) (ah bQ) aH)),?_⟩
  exact⟨_,rfl,z,rfl,h0,_,rfl,bY q⟩
theorem wO (T:Txt K mg a):bd P w K mg base CX0 4 a.oC a.c6 ["thing","many"] (He K):=by
 refine T.pU.ok wH (fun vs H Q E h=> ?_) (fun cdv A outer s H vs Q E hr h=> ?_)
 ·obtain⟨p,l,rfl,_⟩:=h
  rfl
 ·obtain⟨p,l,rfl,h1,h2,h3,q⟩:=h
  refine⟨_,(ah (a0 (b0 (be K rfl (av ((AK T).mono (by decide)) hr rfl T.CL T.ue.kp T.Du .nil aD (ad (pv 0) (ad (pv 1) af))) (fun _=>rfl))) (ah bQ) aH)),?_⟩
  exact⟨_,rfl,_,rfl,p,l,rfl,h1,h2,h3,fun H1 s1=>⟨_,rfl,bY (q H1 s1)⟩⟩
theorem u5 (T:Txt K mg a):bd P w K mg base CX0 4 a.lX a.cM ["total","weights","many"] (Lp K):=by
 refine T.pc.ok uY (fun vs H Q E h=> ?_) (fun cdv A outer s H vs Q E hr h=> ?_)
 ·obtain⟨z,p,l,rfl,_⟩:=h
  rfl
 ·obtain⟨z,p,l,rfl,hz,h1,h2,h3,q⟩:=h
  refine⟨_,(ah (a0 (PW.pt (kR (b0 (be K rfl (av ((En T).mono (by decide)) hr rfl T.FM T.zj.kp T.Gb .nil aD (ad (pv 0) af)) (fun _=>rfl))) (gI (b0 (be K rfl (av ((yO T).mono (by decide)) hr rfl T.AY T.qT.kp T.Bj .nil aD (ad (pv 1) (ad (pv 2) af))) (fun _=>rfl)))))) (ah bQ) aH)),?_⟩
  refine⟨_,rfl,z,rfl,hz,_,rfl,bY ?_⟩
  exact⟨_,rfl,_,rfl,p,l,rfl,h1,h2,h3,fun H1 s1=>⟨_,rfl,bY (q H1 s1)⟩⟩
end
inductive Hb (vs:List V) (H:Hp) (Q:VK) (_E:XK):Prop
 |mk (z:Int) (_:vs=[.int z]) (_:(2≤z∧z≤997)) (_:(∀i:Nat,2+(i:Int)<z→z%(2+(i:Int))≠0)) (_: ∀H',am H H'→Q (.bl true) H')
inductive Je (vs:List V) (H:Hp) (Q:VK) (_E:XK):Prop
 |mk (z:_) (_:vs=[.int z]) (_:(0≤z∧z≤er)) (_:Q (.bl true) H)
inductive Jn (vs:List V) (H:Hp) (Q:VK) (_E:XK):Prop
 |mk (z s:Int) (_:vs=[.int z,.int s]) (_:(2≤z∧z≤997)) (_:(∀i:Nat,2+(i:Int)<z→z%(2+(i:Int))≠0)) (_:(0≤s∧s≤er)) (_: ∀H',am H H'→Q .non H')
inductive M9 (vs:List V) (H:Hp) (Q:VK) (_E:XK):Prop
 |mk (x:Str) (d:Addr) (kvs:List (Key×V)) (_:vs=[.str x,.ref d]) (_:Wd x) (_:H d=some (.dK kvs)) (_:bh kvs (.inr x)=none) (_: ∀H',am H H'→Q .non H')
inductive Ji (vs:List V) (H:Hp) (Q:VK) (_E:XK):Prop
 |mk (x:Str) (d:Addr) (kvs:List (Key×V)) (_:vs=[.str x,.ref d]) (_:Wd x) (_:H d=some (.dK kvs)) (_:(bh kvs (.inr x)).isSome=true) (_: ∀H',am H H'→Q .non H')
inductive Jm (K:PySem.W.Frag) (vs:List V) (H:Hp) (Q:VK) (_E:XK):Prop
 |mk (x:Str) (d:Addr) (_:vs=[.str x,.ref d]) (_:Wd x) (_:((∃kvs:List (Key×V),H d=some (.dK kvs)∧(bh kvs (.inr x)).isSome=true)∨ ∃l:List Str,SqT K H d (l.map V.str)∧x∈l)) (_: ∀H',am H H'→Q .non H')
theorem qr: ∀ws:List Str,(ws.map V.str).all t7=true
 | []=>rfl
 |w::r=>by rw[List.map_cons,List.all_cons,qr r];rfl
theorem EE {w:Str}{ws:List Str}(h:w∈ws):inV (.str w) (ws.map V.str)=true:=by
 unfold inV
 rw[List.any_eq_true]
 exact⟨.str w,List.mem_map.mpr ⟨w,h,rfl⟩,by show(w==w)=true;exact beq_self_eq_true w⟩
section
variable {P:Program}{w:World}{K:PySem.W.Frag}{mg:Str→Option Value}{base:Heap}{a:Adr}
theorem Eo (T:Txt K mg a):bd P w K mg base CX0 2 a.zb a.iO ["thing"] Hb:=by
 refine T.zk.ok D7 (fun vs H Q E h=> ?_) (fun cdv A outer s H vs Q E hr h=> ?_)
 ·obtain⟨z,rfl,_⟩:=h
  rfl
 ·obtain⟨z,rfl,⟨h1,h2⟩,hd,q⟩:=h
  refine⟨_,(ag (a0 (PW.pt (kR (b0 (be K rfl (av ((pF T).mono (by decide)) hr rfl T.rO T.on.kp T.sC .nil aD (ad (pv 0) af)) (fun _=>rfl))) (gI (b0 (Eg o8 o8 (dB T.Bb rfl) (pv 0) (dB T.vP rfl)))))) (ah (aI mx)) aH)
 (ah (aI (az (mJ K rfl rfl) (by rfl) T.Ex L2.qf (ad (dw ["thing"] ["divisor"] [] [1] (ak nj) rfl rfl rfl (by decide+kernel) (by decide+kernel) (b9 1)
  (Bu rfl T.ee (ad ai (ad (pv 0) af))) (fun cl C s₀ H₀ ex=>⟨(aF (i:=1) (show List.Nodup ((["thing"]:List PySem.Str)++(["divisor"]:List PySem.Str)) by decide+kernel) rfl (by first |exact Or.inl rfl |exact Or.inr rfl)),cm,(fH JH (aA bI (pv 0) (pv 1)) ai (aM _))⟩)) af))))),?_⟩
  refine⟨_,rfl,z,rfl,_,rfl,bY ?_⟩
  refine⟨_,rfl,_,_,rfl,rfl,_,rfl,?_⟩
  refine se (fun _=> ?_) (fun h=>absurd h1 h)
  refine⟨_,_,rfl,rfl,_,rfl,?_⟩
  rw[decide_eq_true h2]
  refine bY ?_
  refine⟨_,rfl,_,_,rfl,⟨by decide,by decide,by omega,by omega⟩,fun D hD=> ?_⟩
  refine kr (K:=K) (lo:=2) (n:=(z-2).toNat) (fun i acc H2=>acc=(List.replicate i true).map V.bl∧H2=upd H D (.lst acc)) ⟨rfl,rfl⟩ ?_ ?_
  ·rintro i acc H2 hi ⟨rfl,rfl⟩
   refine aq (pj (cL ⟨_,rfl,_,rfl,_,_,rfl,rfl,(by show(0:Int)<_;first |decide |omega),rfl,?_⟩))
   refine⟨ae,qo i (by omega),lf hi ⟨?_,by rw[jx]⟩⟩
   have hn:=hd i (by omega)
   rw[←m4]
   congr 2
   simp[hn]
  ·rintro acc H2 ⟨rfl,rfl⟩
   refine⟨D,_,rfl,SqL.of ae,?_⟩
   rw[qp]
   exact q _ (al (am.refl _) hD)
theorem Fv (T:Txt K mg a):bd P w K mg base CX0 3 a.CV a.ke ["thing"] Je:=by
 refine T.BE.ok Fm (fun vs H Q E h=> ?_) (fun cdv A outer s H vs Q E hr h=> ?_)
 ·obtain⟨z,rfl,_⟩:=h
  rfl
 ·obtain⟨z,rfl,⟨h1,h2⟩,q⟩:=h
  refine⟨_,(ah (aI (jb (av ((fb T).mono (by decide)) hr rfl T.gN T.eZ.kp T.hZ .nil aD (ad (pv 0) af)) (lE (fH o8 (pv 0) (aA Cv ai ai) (aM _)))))),?_⟩
  refine⟨_,rfl,z,rfl,h1,_,rfl,cL ?_⟩
  (repeat (first |refine⟨_,rfl,?_⟩ |refine⟨_,_,rfl,rfl,?_⟩ |refine⟨(rfl:m9 _ _=true),?_⟩ |refine⟨(show ph _ _ from⟨by decide,by decide⟩),?_⟩ |refine⟨(show(0:Int)<_ by first |omega |decide),?_⟩ |refine⟨(rfl:V.int 10=V.int 10),rfl,?_⟩))
  exact qq h2 q
theorem yM (T:Txt K mg a):bd P w K mg base CX0 4 a.qb a.dN ["prime","salt"] Jn:=by
 refine T.qR.ok xU (fun vs H Q E h=> ?_) (fun cdv A outer s H vs Q E hr h=> ?_)
 ·obtain⟨z,s,rfl,_⟩:=h
  rfl
 ·obtain⟨z,sa,rfl,h1,h2,h3,q⟩:=h
  refine⟨_,(ah (a0 (PW.pt (kR (b0 (be K rfl (av ((Eo T).mono (by decide)) hr rfl T.FN T.zk.kp T.Gc .nil aD (ad (pv 0) af)) (fun _=>rfl))) (gI (b0 (be K rfl (av ((Fv T).mono (by decide)) hr rfl T.Hx T.BE.kp T.Ip .nil aD (ad (pv 1) af)) (fun _=>rfl)))))) (ah bQ) aH)),?_⟩
  refine⟨_,rfl,z,rfl,h1,h2,fun H1 s1=>⟨_,rfl,bY ?_⟩⟩
  exact⟨_,rfl,sa,rfl,h3,_,rfl,bY (q H1 s1)⟩
theorem tO (T:Txt K mg a):bd P w K mg base CX0 4 a.vO a.f9 ["thing","names"] M9:=by
 refine T.pV.ok Cr (fun vs H Q E h=> ?_) (fun cdv A outer s H vs Q E hr h=> ?_)
 ·obtain⟨x,d,kvs,rfl,_⟩:=h
  rfl
 ·obtain⟨x,d,kvs,rfl,h1,h2,h3,q⟩:=h
  refine⟨_,(ag (aX (av ((qG T).mono (by decide)) hr rfl T.tY T.oo.kp T.ul .nil aD (ad (pv 0) af)))
 (ah (a0 (x8 (JD (cw hr) (pv 0) (pv 1)) rfl) (ah bQ) aH))),?_⟩
  refine⟨_,rfl,x,rfl,h1,fun H1 s1=> ?_⟩
  refine⟨_,rfl,_,rfl,d,none,rfl,by rw[←h3];exact e8.k (k:=.inr x) (s1 _ _ h2),_,rfl,bY (q H1 s1)⟩
theorem du (T:Txt K mg a):bd P w K mg base CX0 4 a.kt a.cx ["thing","names"] Ji:=by
 refine T.cP.ok tH (fun vs H Q E h=> ?_) (fun cdv A outer s H vs Q E hr h=> ?_)
 ·obtain⟨x,d,kvs,rfl,_⟩:=h
  rfl
 ·obtain⟨x,d,kvs,rfl,h1,h2,h3,q⟩:=h
  refine⟨_,(ag (aX (av ((qG T).mono (by decide)) hr rfl T.tY T.oo.kp T.ul .nil aD (ad (pv 0) af)))
 (ah (a0 (x8 (Bv (cw hr) (pv 0) (pv 1)) rfl) (ah bQ) aH))),?_⟩
  refine⟨_,rfl,x,rfl,h1,fun H1 s1=> ?_⟩
  refine⟨_,rfl,_,rfl,d,bh kvs (.inr x),rfl,e8.k (k:=.inr x) (s1 _ _ h2),_,rfl,?_⟩
  rw[h3]
  exact bY (q H1 s1)
theorem fI (T:Txt K mg a):bd P w K mg base CX0 3 a.qa a.dL ["thing","names"] (Jm K):=by
 refine T.eR.ok xT (fun vs H Q E h=> ?_) (fun cdv A outer s H vs Q E hr h=> ?_)
 ·obtain⟨x,d,rfl,_⟩:=h
  rfl
 ·obtain⟨x,d,rfl,h1,h2,q⟩:=h
  refine⟨_,(ah (a0 (PW.pt (kR (b0 (be K rfl (av ((rK T).mono (by decide)) hr rfl T.vi T.qz.kp T.vR .nil aD (ad (pv 0) af)) (fun _=>rfl))) (gI (x8 (Hm K rfl (cw hr) (pv 0) (pv 1)) rfl)))) (ah bQ) aH)),?_⟩
  refine⟨_,rfl,x,rfl,h1,fun H1 s1=>⟨_,rfl,bY ?_⟩⟩
  refine⟨_,rfl,_,rfl,?_⟩
  rcases h2 with⟨kvs,h2,h3⟩ |⟨l,h2,h3⟩
  ·refine .inl ⟨d,bh kvs (.inr x),rfl,e8.k (k:=.inr x) (s1 _ _ h2),_,rfl,?_⟩
   rw[h3]
   exact bY (q H1 s1)
  ·refine .inr ⟨d,_,rfl,.inr (am.tseq s1 h2),rfl,qr l,_,rfl,?_⟩
   rw[EE h3]
   exact bY (q H1 s1)
end
inductive Jl (vs:List V) (H:Hp) (Q:VK) (_E:XK):Prop
 |mk (z p:Int) (_:vs=[.int z,.int p]) (_:0≤z) (_:z<p) (_:Q .non H)
inductive Ln (K:PySem.W.Frag) (g:Addr) (vs:List V) (H:Hp) (Q:VK) (_E:XK):Prop
 |mk (d:Addr) (k:Str) (xs:List V) (_:vs=[.ref d]) (_:SqT K H d (.str k::xs)) (_:(∃tk,PySem.W.nsIn K g k=some (some (.int ((xs.length:Int)+1) tk)))) (_:Q .non H)
inductive Jk (K:PySem.W.Frag) (vs:List V) (H:Hp) (Q:VK) (_E:XK):Prop
 |mk (t d:Addr) (_:vs=[.ref t,.ref d]) (_:SqT K H t []) (_:Q .non H)
inductive Jj (vs:List V) (H:Hp) (Q:VK) (_E:XK):Prop
 |mk (z p:Int) (d:Addr) (_:vs=[.int z,.int p,.ref d]) (_:0≤z) (_:z≤p) (_:H d=some (.dK [])) (_: ∀H',am H H'→Q .non H')
inductive Jh (K:PySem.W.Frag) (vs:List V) (H:Hp) (Q:VK) (_E:XK):Prop
 |mk (d ly tr ar ru sh:Addr) (x y:Str) (l:List Str) (lk tk:List (Key×V)) (_:vs=[.ref d,.ref ly,.ref tr]) (_:SqT K H d [.str "trial",.str x,.str y,.ref ar,.ref ru,.ref sh]) (_:Wd x) (_:Wd y) (_:H ly=some (.dK lk)) (_:H tr=some (.dK tk)) (_:bh tk (.inr x)=none) (_:(bh lk (.inr y)).isSome=true) (_:SqT K H ar (l.map V.str)) (_:(∀w∈l,Wd w)) (_:l.Nodup) (_:1≤l.length) (_:l.length≤4) (_:SqT K H ru [.str "any"]) (_:SqT K H sh []) (_: ∀H',am H H'→Q .non H')
section
variable {P:Program}{w:World}{K:PySem.W.Frag}{mg:Str→Option Value}{base:Heap}{a:Adr}
theorem yL (T:Txt K mg a):bd P w K mg base CX0 3 a.pZ a.dJ ["thing","prime"] Jl:=by
 refine T.qQ.ok xS (fun vs H Q E h=> ?_) (fun cdv A outer s H vs Q E hr h=> ?_)
 ·obtain⟨z,p,rfl,_⟩:=h
  rfl
 ·obtain⟨z,p,rfl,h0,h1,q⟩:=h
  refine⟨_,(ah (a0 (PW.pt (kR (b0 (be K rfl (av ((fb T).mono (by decide)) hr rfl T.gN T.eZ.kp T.hZ .nil aD (ad (pv 0) af)) (fun _=>rfl))) (gI (aE Ms (pv 0) (pv 1) (aM _))))) (ah bQ) aH)),?_⟩
  refine⟨_,rfl,z,rfl,h0,_,rfl,bY ?_⟩
  refine⟨_,rfl,_,rfl,z,p,rfl,rfl,_,rfl,se (fun h=>absurd h (by omega)) (fun _=>q)⟩
theorem AH (T:Txt K mg a) (hw:w.params=a.pm):bd P w K mg base CX0 1 a.sy a.eI ["deed"] (Ln K a.eh):=by
 refine T.ub.ok AA (fun vs H Q E h=> ?_) (fun cdv A outer s H vs Q E hr h=> ?_)
 ·obtain⟨d,k,xs,rfl,_⟩:=h
  rfl
 ·obtain⟨d,k,xs,rfl,hT,⟨tk,hk⟩,q⟩:=h
  refine⟨_,(ag (a0 (PW.pt (kR (b0 (be K rfl (az (hV K rfl) (by rfl) T.bG L2.bn (ad (pv 0) (ad (pD rfl T.eY L2.bW) af))) (fun _=>rfl))) (gI (aE bO (az (aK K rfl) (by rfl) T.bK L2.aQ (ad (pv 0) af)) ai (aM _))))) (ah bQ) aH)
 (ah (a0 (PW.pt (kR (b0 (be K rfl (az (mI K rfl) (by rfl) T.bG L2.bn (ad (aJ (aB K rfl) (pv 0) ai (fun _ _=>rfl)) (ad (pD rfl T.Mu L2.EX) af))) (fun _=>rfl))) (gI (aE JH (LG K rfl (PL hw T.FT) rfl T.HD (aJ (aB K rfl) (pv 0) ai (fun _ _=>rfl)) ⟨rfl,rfl,rfl,rfl⟩) (az (aK K rfl) (by rfl) T.bK L2.aQ (ad (pv 0) af)) (aM _))))) (ah bQ) aH))),?_⟩
  refine⟨_,rfl,_,"tuple",_,true,rfl,.inr ⟨d,_,rfl,hT,rfl⟩,j7 (by decide+kernel),true,rfl,bY ?_⟩
  refine⟨_,rfl,_,_,rfl,.inr ⟨_,hT,rfl⟩,rfl,_,rfl,AZ (fun h=>absurd h (by rw[List.length_cons];omega)) (fun _=> ?_)⟩
  refine⟨_,rfl,d,_,0,_,rfl,rfl,hT,ao (k:=0) rfl,?_⟩
  refine⟨_,"str",_,true,rfl,.str k,j7 (by decide+kernel),true,rfl,bY ?_⟩
  refine⟨_,rfl,d,_,0,_,rfl,rfl,hT,ao (k:=0) rfl,k,_,rfl,hk,.inr ⟨_,.int ((xs.length:Int)+1),rfl,⟨tk,rfl⟩,?_⟩⟩
  refine⟨_,rfl,_,_,rfl,.inr ⟨_,hT,rfl⟩,rfl,_,rfl,?_⟩
  have e:decide (V.int ((xs.length:Int)+1)=V.int (((V.str k::xs).length:Nat):Int))=true:=decide_eq_true (by simp)
  rw[e]
  exact q
theorem yK (T:Txt K mg a):bd P w K mg base CX0 5 a.pY a.dI ["thing","trials"] (Jk K):=by
 refine T.qP.ok jM (fun vs H Q E h=> ?_) (fun cdv A outer s H vs Q E hr h=> ?_)
 ·obtain⟨t,d,rfl,_⟩:=h
  rfl
 ·obtain⟨t,d,rfl,hT,q⟩:=h
  refine⟨_,(ag (a0 (PW.pt (kR (b0 (be K rfl (az (hV K rfl) (by rfl) T.bG L2.bn (ad (pv 0) (ad (pD rfl T.eY L2.bW) af))) (fun _=>rfl))) (gI (aE Bw (az (aK K rfl) (by rfl) T.bK L2.aQ (ad (pv 0) af)) (dB T.Dm rfl) (aM _))))) (ah bQ) aH)
 (ah (cV PassesOwn.never rfl (LF K rfl rfl T.Ew (ad (pv 0) af)) (eX K rfl rfl (bo (aF (i:=2) jM.nd rfl (.inl rfl)) (bo (aF (i:=3) jM.nd rfl (.inl rfl)) eW)))
 (ag (aX (av ((du T).mono (by decide)) hr rfl T.ef T.cP.kp T.eg .nil aD (ad (pv 3) (ad (pv 1) af))))
 (ah (a0 (aE (yG K rfl) (pv 3) (mw (tE K rfl) (pv 0) qw (qv (pv 2))) (by with_unfolding_all rfl)) (ah bQ) aH)))))),?_⟩
  refine⟨_,rfl,_,"tuple",_,true,rfl,.inr ⟨t,_,rfl,hT,rfl⟩,j7 (by decide+kernel),true,rfl,bY ?_⟩
  refine⟨_,rfl,_,0,rfl,.inr ⟨_,hT,rfl⟩,_,_,rfl,rfl,_,rfl,se (fun h=>absurd h (by decide)) (fun _=> ?_)⟩
  refine⟨_,rfl,t,_,rfl,hT,?_⟩
  refine⟨fun i m σ' H'=>i=0∧H'=H,⟨0,rfl,rfl⟩,?_⟩
  rintro i m σ' H' ⟨rfl,rfl⟩
  exact .inl ⟨⟨_,hT,rfl⟩,q⟩
theorem yJ (T:Txt K mg a):bd P w K mg base CX0 3 a.pX a.dH ["thing","prime","layers"] Jj:=by
 refine T.qO.ok xR (fun vs H Q E h=> ?_) (fun cdv A outer s H vs Q E hr h=> ?_)
 ·obtain⟨z,p,d,rfl,_⟩:=h
  rfl
 ·obtain⟨z,p,d,rfl,h0,h1,hd,q⟩:=h
  refine⟨_,(ag (a0 (PW.pt (kR (b0 (be K rfl (av ((fb T).mono (by decide)) hr rfl T.gN T.eZ.kp T.hZ .nil aD (ad (pv 0) af)) (fun _=>rfl))) (gI (aE Bw (pv 0) (pv 1) (aM _))))) (ah bQ) aH)
 (ah (a0 (aE (yG K rfl) (pv 0) (Np (P:=P) (w:=w) (dw ["thing","prime","layers"] ["layer"] [] [3] (ak iz) rfl rfl rfl (by decide+kernel) (by decide+kernel) (b9 3)
  (LC (P:=P) (w:=w) (pv 2)) (fun cl C s₀ H₀ ex=>⟨(aF (i:=3) (show List.Nodup ((["thing","prime","layers"]:List PySem.Str)++(["layer"]:List PySem.Str)) by decide+kernel) rfl (by first |exact Or.inl rfl |exact Or.inr rfl)),cm,(aU K rfl (pv 3))⟩))) (by with_unfolding_all rfl)) (ah bQ) aH))),?_⟩
  refine⟨_,rfl,z,rfl,h0,_,rfl,bY ?_⟩
  refine⟨_,rfl,_,rfl,z,p,rfl,rfl,_,rfl,se (fun h=>absurd h (by omega)) (fun _=> ?_)⟩
  refine⟨_,rfl,_,rfl,d,_,rfl,hd,fun ep=> ?_⟩
  refine fun D hD=> ?_
  refine⟨fun i m acc H2=>i=0∧acc=[]∧H2=upd (upd H d (dE P w d [] ep)) D (.lst []),⟨0,rfl,rfl,rfl⟩,?_⟩
  rintro i m acc H2 ⟨rfl,rfl,rfl⟩
  have nd:d≠D:=fun z=>by rw[←z,ae] at hD;cases hD
  have e1:upd (upd H d (dE P w d [] ep)) D (.lst []) d=some (dE P w d [] ep):=by rw[aj nd,ae]
  refine .inl ⟨⟨e1,Nat.le_refl _⟩,d,[],ep,e1,D,_,rfl,.inl (SqL.of (by rw[aj (Ne.symm nd)];exact ae)),rfl,rfl,_,rfl,?_⟩
  show Q .non _
  have hD0:H D=none:=by rw[aj (Ne.symm nd)] at hD;exact hD
  refine q _ fun b o hb=> ?_
  by_cases e:b=d
  ·subst e
   rw[ae]
   rw[hd] at hb
   exact hb
  ·rw[aj e,aj (au hb hD0),aj e]
   exact hb
theorem yI (T:Txt K mg a):bd P w K mg base CX0 6 a.pW a.dG ["deed","layers","trials"] (Jh K):=by
 refine T.qN.ok xQ (fun vs H Q E h=> ?_) (fun cdv A outer s H vs Q E hr h=> ?_)
 ·obtain⟨d,ly,tr,ar,ru,sh,x,y,l,lk,tk,rfl,_⟩:=h
  rfl
 ·obtain⟨d,ly,tr,ar,ru,sh,x,y,l,lk,tk,rfl,hT,hx,hy,hly,htr,hnew,hst,har,h1,h2,h3,h4,hru,hsh,q⟩:=h
  refine⟨_,(ag (aX (av ((tO T).mono (by decide)) hr rfl T.wo T.pV.kp T.wA .nil aD (ad (aJ (aB K rfl) (pv 0) ai (fun _ _=>rfl)) (ad (pv 2) af))))
 (ag (aX (av ((du T).mono (by decide)) hr rfl T.ef T.cP.kp T.eg .nil aD (ad (aJ (aB K rfl) (pv 0) ai (fun _ _=>rfl)) (ad (pv 1) af))))
 (ag (aX (av ((AJ T).mono (by decide)) hr rfl T.CK T.ud.kp T.Dt .nil aD (ad (aJ (aB K rfl) (pv 0) ai (fun _ _=>rfl)) af)))
 (ag (aX (av ((AF T).mono (by decide)) hr rfl T.CG T.t9.kp T.Dp .nil aD (ad (aJ (aB K rfl) (pv 0) ai (fun _ _=>rfl)) af)))
 (ah (aX (av ((yK T).mono (by decide)) hr rfl T.AU T.qP.kp T.Bf .nil aD (ad (aJ (aB K rfl) (pv 0) ai (fun _ _=>rfl)) (ad (pv 2) af))))))))),?_⟩
  refine⟨_,rfl,d,_,1,_,rfl,rfl,hT,rfl,_,rfl,x,tr,tk,rfl,hx,htr,hnew,fun H1 s1=> ?_⟩
  refine⟨_,rfl,d,_,2,_,rfl,rfl,am.tseq s1 hT,rfl,_,rfl,y,ly,lk,rfl,hy,s1 _ _ hly,hst,fun H2 s2=> ?_⟩
  have s12:=s1.trans s2
  refine⟨_,rfl,d,_,3,_,rfl,rfl,am.tseq s12 hT,rfl,ar,l,rfl,am.tseq s12 har,h1,h2,h3,h4,fun H3 s3=> ?_⟩
  have s13:=s12.trans s3
  refine⟨_,rfl,d,_,4,_,rfl,rfl,am.tseq s13 hT,rfl,ru,rfl,am.tseq s13 hru,fun H4 s4=> ?_⟩
  have s14:=s13.trans s4
  exact⟨_,rfl,d,_,5,_,rfl,rfl,am.tseq s14 hT,rfl,_,rfl,sh,tr,rfl,am.tseq s14 hsh,q H4 s14⟩
end
theorem aR {A B:Prop}{x y:Str}(h:x≠y) (b:B):if decide (V.str x=V.str y)=true then A else B:=NN (fun e=>absurd e h) (fun _=>b)
theorem cT {A B:Prop}{x:Str}(a:A):if decide (V.str x=V.str x)=true then A else B:=NN (fun _=>a) (fun h=>absurd rfl h)
def pd (K:PySem.W.Frag) (C:Addr) (H:Hp) (t:Addr) (hm:Str) (ar:Addr) (arms:List Str) (cl:Bool):Prop:= ∃dx ru sh pa ba,H t=some (.ins C dx [("home",.str hm),("arms",.ref ar),("rule",ru),("shuts",sh),("paused",pa),("closed",.bl cl),("barred",ba)])∧SqT K H ar (arms.map V.str)
theorem pd.same {K:PySem.W.Frag}{C:Addr}{H H':Hp}{t ar:Addr}{hm:Str}{arms:List Str}{cl:Bool}(e:am H H') (h:pd K C H t hm ar arms cl):pd K C H' t hm ar arms cl:=
 let⟨dx,ru,sh,pa,ba,h1,h2⟩:=h
 ⟨dx,ru,sh,pa,ba,e _ _ h1,am.tseq e h2⟩
inductive Aa (K:PySem.W.Frag) (H:Hp) (many:Nat):Str→List V→Prop
 |share {p:Addr}{l:List Int}(h1:SqT K H p (l.map V.int)) (h2: ∀i∈l,0≤i) (h3:l.length=many):Aa K H many "share" [.ref p]
 |deal {z:Int}{p:Addr}{l:List Int}(hz:0≤z∧z≤1000) (h1:SqT K H p (l.map V.int)) (h2: ∀i∈l,1≤i∧i≤er) (h3:l.length=many):Aa K H many "deal" [.int z,.ref p]
 |close:Aa K H many "close" []
inductive MZ (K:PySem.W.Frag) (C N:Addr) (vs:List V) (H:Hp) (Q:VK) (E:XK):Prop
 |mk (d tr t ar:Addr) (k x hm:Str) (xs:List V) (tk:List (Key×V)) (arms:List Str) (cl:Bool) (_:vs=[.ref d,.ref tr]) (_:SqT K H d (.str k::.str x::xs)) (_:Wd x) (_:H tr=some (.dK tk)) (_:bh tk (.inr x)=some (.ref t)) (_:pd K C H t hm ar arms cl) (_:arms.length≤4) (_:Aa K H arms.length k xs) (_:(cl=false→ ∀H',am H H'→Q .non H')) (_:(cl=true→ ∀H',am H H'→E (.ref N) none H'))
section
variable {P:Program}{w:World}{K:PySem.W.Frag}{mg:Str→Option Value}{base:Heap}{a:Adr}
theorem AG (T:Txt K mg a):bd P w K mg base (CXe P w) 5 a.sx a.eG ["deed","trials"] (MZ K a.bT a.tf):=by
 refine T.ua.okE lq (fun vs H Q E h=> ?_) (fun cdv A outer s H vs Q E hr h=> ?_)
 ·obtain⟨d,tr,t,ar,k,x,hm,xs,tk,arms,cl,rfl,_⟩:=h
  rfl
 ·obtain⟨d,tr,t,ar,k,x,hm,xs,tk,arms,cl,rfl,hT,hx,htr,hv,hA,hal,hO,q,qe⟩:=h
  refine⟨_,(ag (aX (av ((du T).mono (by decide)) hr rfl T.ef T.cP.kp T.eg .nil aD (ad (aJ (aB K rfl) (pv 0) ai (fun _ _=>rfl)) (ad (pv 1) af))))
 (ag (aO (i:=2) lq.nd rfl (.inl rfl) (iC (cw hr) (pv 1) (aJ (aB K rfl) (pv 0) ai (fun _ _=>rfl)) (fun _ _=>rfl)))
 (ag (aO (i:=3) lq.nd rfl (.inl rfl) (az (aK K rfl) (by rfl) T.bK L2.aQ (ad (aU K rfl (pv 2)) af)))
 (ag (a0 (aE bO (aJ (aB K rfl) (pv 0) ai (fun _ _=>rfl)) aL (aM _)) (ah (aX (av ((wO T).mono (by decide)) hr rfl T.yX T.pU.kp T.zI .nil aD (ad (aJ (aB K rfl) (pv 0) ai (fun _ _=>rfl)) (ad (pv 3) af))))) (ah (a0 (aE bO (aJ (aB K rfl) (pv 0) ai (fun _ _=>rfl)) aL (aM _)) (ah (aX (av ((u5 T).mono (by decide)) hr rfl T.w4 T.pc.kp T.xg .nil aD (ad (aJ (aB K rfl) (pv 0) ai (fun _ _=>rfl)) (ad (aJ (aB K rfl) (pv 0) ai (fun _ _=>rfl)) (ad (pv 3) af)))))) aH)))
 (ah (a0 (be K rfl (aU K rfl (pv 2)) (fun _=>rfl)) (ah (Eh T.BJ rfl T.EC rfl Ee (ad aL af))) aH)))))),?_⟩
  refine⟨_,rfl,d,_,1,_,rfl,rfl,hT,ao (k:=1) rfl,_,rfl,x,tr,tk,rfl,hx,htr,by rw[hv];rfl,fun H1 s1=> ?_⟩
  obtain⟨dx,ru,sh,pa,ba,hI,har⟩:=hA.same s1
  refine⟨_,rfl,_,rfl,d,_,1,_,rfl,rfl,am.tseq s1 hT,ao (k:=1) rfl,tr,.ref t,rfl,by rw[←hv];exact e8.k (k:=.inr x) (s1 _ _ htr),aq ?_⟩
  refine⟨_,rfl,t,_,dx,_,_,rfl,hI,T.bv,T.dg,rfl,_,arms.length,rfl,.inr ⟨_,har,by simp⟩,aq ?_⟩
  refine⟨_,rfl,d,_,0,_,rfl,rfl,am.tseq s1 hT,ao (k:=0) rfl,rfl,_,rfl,?_⟩
  have hT1:=am.tseq s1 hT
  cases hO with
  |share h1 h2 h3=>
   refine cT ?_
   refine⟨_,rfl,d,_,2,_,rfl,rfl,hT1,ao (k:=2) rfl,_,rfl,_,_,by rw[h3];rfl,am.tseq s1 h1,h2,by omega,fun H2 s2=> ?_⟩
   refine⟨_,rfl,t,_,dx,_,_,rfl,s2 _ _ hI,T.bv,T.cZ,rfl,cl,rfl,?_⟩
   cases cl
   ·exact bY (q rfl H2 (s1.trans s2))
   ·exact cL ⟨aC (show _≤65536 by simp),qe rfl H2 (s1.trans s2)⟩
  |deal hz h1 h2 h3=>
   refine aR (show(Str.ofString "deal")≠Str.ofString "share" by decide+kernel) ?_
   refine⟨_,rfl,d,_,0,_,rfl,rfl,hT1,ao (k:=0) rfl,rfl,_,rfl,cT ?_⟩
   refine⟨_,rfl,d,_,2,_,rfl,rfl,hT1,ao (k:=2) rfl,_,rfl,d,_,3,_,rfl,rfl,hT1,ao (k:=3) rfl,_,rfl,_,_,_,by rw[h3];rfl,hz,am.tseq s1 h1,h2,by omega,fun H2 s2=> ?_⟩
   refine⟨_,rfl,t,_,dx,_,_,rfl,s2 _ _ hI,T.bv,T.cZ,rfl,cl,rfl,?_⟩
   cases cl
   ·exact bY (q rfl H2 (s1.trans s2))
   ·exact cL ⟨aC (show _≤65536 by simp),qe rfl H2 (s1.trans s2)⟩
  |close=>
   refine aR (show(Str.ofString "close")≠Str.ofString "share" by decide+kernel) ?_
   refine⟨_,rfl,d,_,0,_,rfl,rfl,hT1,ao (k:=0) rfl,rfl,_,rfl,aR (show(Str.ofString "close")≠Str.ofString "deal" by decide+kernel) ?_⟩
   refine⟨_,rfl,t,_,dx,_,_,rfl,hI,T.bv,T.cZ,rfl,cl,rfl,?_⟩
   cases cl
   ·exact bY (q rfl H1 s1)
   ·exact cL ⟨aC (show _≤65536 by simp),qe rfl H1 s1⟩
end
inductive wj (K:PySem.W.Frag) (C:Addr) (H:Hp) (p:Int) (ly tr:Addr):List V→Bool→Prop
 |layer {x:Str}{z:Int}(h1:Wd x) (h2:0≤z∧z≤p) (h3:H ly=some (.dK [])):wj K C H p ly tr [.str "layer",.str x,.int z] false
 |trial {x y:Str}{ar ru sh:Addr}{l:List Str}{lk tk:List (Key×V)}(h1:Wd x) (h2:Wd y) (h3:H ly=some (.dK lk)) (h4:H tr=some (.dK tk)) (h5:bh tk (.inr x)=none) (h6:(bh lk (.inr y)).isSome=true) (h7:SqT K H ar (l.map V.str)) (h8: ∀w∈l,Wd w) (h9:l.Nodup) (ha:1≤l.length) (hb:l.length≤4) (hc:SqT K H ru [.str "any"]) (hd:SqT K H sh []):wj K C H p ly tr [.str "trial",.str x,.str y,.ref ar,.ref ru,.ref sh] false
 |hold {x:Str}{z:Int}{lk:List (Key×V)}(h1:Wd x) (h2:0≤z) (h3:H ly=some (.dK lk)) (h4:(bh lk (.inr x)).isSome=true):wj K C H p ly tr [.str "hold",.str x,.int z] false
 |opn {k x hm:Str}{t ar:Addr}{xs:List V}{tk:List (Key×V)}{arms:List Str}{cl:Bool}(h1:Wd x) (h2:H tr=some (.dK tk)) (h3:bh tk (.inr x)=some (.ref t)) (h4:pd K C H t hm ar arms cl) (h5:arms.length≤4) (h6:Aa K H arms.length k xs):wj K C H p ly tr (.str k::.str x::xs) cl
inductive Lo (K:PySem.W.Frag) (C N:Addr) (vs:List V) (H:Hp) (Q:VK) (E:XK):Prop
 |mk (d ly tr:Addr) (p:Int) (xs:List V) (cl:Bool) (_:vs=[.ref d,.int p,.ref ly,.ref tr]) (_:SqT K H d xs) (_:wj K C H p ly tr xs cl) (_:(cl=false→ ∀H',am H H'→Q .non H')) (_:(cl=true→ ∀H',am H H'→E (.ref N) none H'))
section
variable {P:Program}{w:World}{K:PySem.W.Frag}{mg:Str→Option Value}{base:Heap}{a:Adr}
theorem AI (T:Txt K mg a) (hw:w.params=a.pm):bd P w K mg base (CXe P w) 7 a.sA a.eJ ["deed","prime","layers","trials"] (Lo K a.bT a.tf):=by
 refine T.uc.okE qD (fun vs H Q E h=> ?_) (fun cdv A outer s H vs Q E hr h=> ?_)
 ·obtain⟨d,ly,tr,p,xs,cl,rfl,_⟩:=h
  rfl
 ·obtain⟨d,ly,tr,p,xs,cl,rfl,hT,hD,q,qe⟩:=h
  refine⟨_,(ag (aX (av ((AH T hw).mono (by decide)) hr rfl T.CI T.ub.kp T.Dr .nil aD (ad (pv 0) af)))
 (ag (aO (i:=4) qD.nd rfl (.inl rfl) (aJ (aB K rfl) (pv 0) ai (fun _ _=>rfl)))
 (ah (a0 (aE bO (pv 4) aL (aM _)) (ag (aX (av ((tO T).mono (by decide)) hr rfl T.wo T.pV.kp T.wA .nil aD (ad (aJ (aB K rfl) (pv 0) ai (fun _ _=>rfl)) (ad (pv 2) af))))
 (ah (aX (av ((yJ T).mono (by decide)) hr rfl T.AT T.qO.kp T.Be .nil aD (ad (aJ (aB K rfl) (pv 0) ai (fun _ _=>rfl)) (ad (pv 1) (ad (pv 2) af))))))) (ah (a0 (aE bO (pv 4) aL (aM _)) (ah (aX (av ((yI T).mono (by decide)) hr rfl T.AR T.qN.kp T.Bd .nil aD (ad (pv 0) (ad (pv 2) (ad (pv 3) af)))))) (ah (a0 (aE bO (pv 4) aL (aM _)) (ag (aX (av ((du T).mono (by decide)) hr rfl T.ef T.cP.kp T.eg .nil aD (ad (aJ (aB K rfl) (pv 0) ai (fun _ _=>rfl)) (ad (pv 2) af))))
 (ah (aX (av ((yN T).mono (by decide)) hr rfl T.AX T.qS.kp T.Bi .nil aD (ad (aJ (aB K rfl) (pv 0) ai (fun _ _=>rfl)) af))))) (ah (a0 (aE bO (pv 4) aL (aM _)) (ag cb
 (ah cb)) (ah (a0 (aE bO (pv 4) aL (aM _)) (ag cb
 (ah cb)) (ah (aX (av ((AG T).mono (by decide)) hr rfl T.CH T.ua.kp T.Dq .nil iD (ad (pv 0) (ad (pv 3) af))))))))))))))))),?_⟩
  cases hD with
  |layer h1 h2 h3=>
   refine⟨_,rfl,d,_,_,rfl,hT,T.vx,?_⟩
   refine⟨_,rfl,d,_,0,_,rfl,rfl,hT,ao (k:=0) rfl,aq ?_⟩
   refine⟨_,rfl,rfl,_,rfl,cT ?_⟩
   refine⟨_,rfl,d,_,1,_,rfl,rfl,hT,ao (k:=1) rfl,_,rfl,_,ly,[],rfl,h1,h3,rfl,fun H1 s1=> ?_⟩
   exact⟨_,rfl,d,_,2,_,rfl,rfl,am.tseq s1 hT,ao (k:=2) rfl,_,rfl,_,rfl,_,p,ly,rfl,h2.1,h2.2,s1 _ _ h3,fun H2 s2=>q rfl H2 (s1.trans s2)⟩
  |trial h1 h2 h3 h4 h5 h6 h7 h8 h9 ha hb hc hd=>
   refine⟨_,rfl,d,_,_,rfl,hT,T.vv,?_⟩
   refine⟨_,rfl,d,_,0,_,rfl,rfl,hT,ao (k:=0) rfl,aq ?_⟩
   refine⟨_,rfl,rfl,_,rfl,aR (show(Str.ofString "trial")≠Str.ofString "layer" by decide+kernel) ?_⟩
   refine⟨_,rfl,rfl,_,rfl,cT ?_⟩
   exact⟨_,rfl,_,rfl,_,rfl,d,ly,tr,_,_,_,_,_,_,_,_,rfl,hT,h1,h2,h3,h4,h5,h6,h7,h8,h9,ha,hb,hc,hd,q rfl⟩
  |hold h1 h2 h3 h4=>
   refine⟨_,rfl,d,_,_,rfl,hT,T.w6,?_⟩
   refine⟨_,rfl,d,_,0,_,rfl,rfl,hT,ao (k:=0) rfl,aq ?_⟩
   refine⟨_,rfl,rfl,_,rfl,aR (show(Str.ofString "hold")≠Str.ofString "layer" by decide+kernel) ?_⟩
   refine⟨_,rfl,rfl,_,rfl,aR (show(Str.ofString "hold")≠Str.ofString "trial" by decide+kernel) ?_⟩
   refine⟨_,rfl,rfl,_,rfl,cT ?_⟩
   refine⟨_,rfl,d,_,1,_,rfl,rfl,hT,ao (k:=1) rfl,_,rfl,_,ly,_,rfl,h1,h3,h4,fun H1 s1=> ?_⟩
   exact⟨_,rfl,d,_,2,_,rfl,rfl,am.tseq s1 hT,ao (k:=2) rfl,_,rfl,h2,q rfl H1 s1⟩
  |opn h1 h2 h3 h4 h5 h6=>
   have h6':=h6
   cases h6 with
   |share _ _ _=>
    refine⟨_,rfl,d,_,_,rfl,hT,T.vw,?_⟩
    refine⟨_,rfl,d,_,0,_,rfl,rfl,hT,ao (k:=0) rfl,aq ?_⟩
    refine⟨_,rfl,rfl,_,rfl,aR (show(Str.ofString "share")≠Str.ofString "layer" by decide+kernel) ?_⟩
    refine⟨_,rfl,rfl,_,rfl,aR (show(Str.ofString "share")≠Str.ofString "trial" by decide+kernel) ?_⟩
    refine⟨_,rfl,rfl,_,rfl,aR (show(Str.ofString "share")≠Str.ofString "hold" by decide+kernel) ?_⟩
    refine⟨_,rfl,rfl,_,rfl,aR (show(Str.ofString "share")≠Str.ofString "bar" by decide+kernel) ?_⟩
    refine⟨_,rfl,rfl,_,rfl,aR (show(Str.ofString "share")≠Str.ofString "visit" by decide+kernel) ?_⟩
    exact⟨_,rfl,_,rfl,d,tr,_,_,_,_,_,_,_,_,_,rfl,hT,h1,h2,h3,h4,h5,h6',q,qe⟩
   |deal _ _ _ _=>
    refine⟨_,rfl,d,_,_,rfl,hT,T.w9,?_⟩
    refine⟨_,rfl,d,_,0,_,rfl,rfl,hT,ao (k:=0) rfl,aq ?_⟩
    refine⟨_,rfl,rfl,_,rfl,aR (show(Str.ofString "deal")≠Str.ofString "layer" by decide+kernel) ?_⟩
    refine⟨_,rfl,rfl,_,rfl,aR (show(Str.ofString "deal")≠Str.ofString "trial" by decide+kernel) ?_⟩
    refine⟨_,rfl,rfl,_,rfl,aR (show(Str.ofString "deal")≠Str.ofString "hold" by decide+kernel) ?_⟩
    refine⟨_,rfl,rfl,_,rfl,aR (show(Str.ofString "deal")≠Str.ofString "bar" by decide+kernel) ?_⟩
    refine⟨_,rfl,rfl,_,rfl,aR (show(Str.ofString "deal")≠Str.ofString "visit" by decide+kernel) ?_⟩
    exact⟨_,rfl,_,rfl,d,tr,_,_,_,_,_,_,_,_,_,rfl,hT,h1,h2,h3,h4,h5,h6',q,qe⟩
   |close=>
    refine⟨_,rfl,d,_,_,rfl,hT,T.vy,?_⟩
    refine⟨_,rfl,d,_,0,_,rfl,rfl,hT,ao (k:=0) rfl,aq ?_⟩
    refine⟨_,rfl,rfl,_,rfl,aR (show(Str.ofString "close")≠Str.ofString "layer" by decide+kernel) ?_⟩
    refine⟨_,rfl,rfl,_,rfl,aR (show(Str.ofString "close")≠Str.ofString "trial" by decide+kernel) ?_⟩
    refine⟨_,rfl,rfl,_,rfl,aR (show(Str.ofString "close")≠Str.ofString "hold" by decide+kernel) ?_⟩
    refine⟨_,rfl,rfl,_,rfl,aR (show(Str.ofString "close")≠Str.ofString "bar" by decide+kernel) ?_⟩
    refine⟨_,rfl,rfl,_,rfl,aR (show(Str.ofString "close")≠Str.ofString "visit" by decide+kernel) ?_⟩
    exact⟨_,rfl,_,rfl,d,tr,_,_,_,_,_,_,_,_,_,rfl,hT,h1,h2,h3,h4,h5,h6',q,qe⟩
end
abbrev Pl:=bc×V×List Int
def cF (H:Hp) (tk:List aW) (m:List Pl):Prop:=Paired (fun(x:aW) (y:Pl)=>x.1=y.1∧x.2.1=y.2.1∧ ∃l,x.2.2=.ref l∧H l=some (.lst (y.2.2.map V.int))) tk m
structure dR (P:Program) (w:World) (K:PySem.W.Frag) (C:Addr) (H:Hp) (t od td:Addr) (n:Nat) (ow:List (Key×V)) (tk:List aW) (m:List Pl):Prop where
 ins: ∃dx,H t=some (.ins C dx [("many",.int n),("owners",.ref od),("taken",.ref td)])
 own:H od=some (.dK ow)
 tak:H td=some (dM P w td tk)
 keys:e7 K H tk
 lsts:cF H tk m
theorem cF.same {H H':Hp}(e:am H H'): ∀{tk:List aW}{m:List Pl},cF H tk m→cF H' tk m
 |_,_,.nil=> .nil
 |_,_,.cons ⟨h1,h2,l,h3,h4⟩ t=> .cons ⟨h1,h2,l,h3,e _ _ h4⟩ (cF.same e t)
theorem bN {K:PySem.W.Frag}{H H':Hp}(e:am H H') {k:bc}{v:V}(h:cq K H k v):cq K H' k v:=by
 cases k with
 |inl k=>exact h
 |inr ks=>obtain⟨a,h1,h2⟩:=h;exact⟨a,h1,am.tseq e h2⟩
theorem dR.same {P:Program}{w:World}{K:PySem.W.Frag}{C:Addr}{H H':Hp}{t od td:Addr}{n:Nat}{ow:List (Key×V)}{tk:List aW}{m:List Pl}(e:am H H') (h:dR P w K C H t od td n ow tk m):dR P w K C H' t od td n ow tk m:=
 ⟨let⟨dx,i⟩:=h.ins;⟨dx,e _ _ i⟩,e _ _ h.own,e _ _ h.tak,fun x hx=>bN e (h.keys x hx),h.lsts.same e⟩
theorem cF.val {H:Hp}: ∀{tk:List aW}{m:List Pl},cF H tk m→ ∀k,(∃l ps,bu tk k=some (.ref l)∧bu m k=some ps∧H l=some (.lst (ps.map V.int)))∨(bu tk k=none∧bu m k=none)
 |_,_,.nil,k=> .inr ⟨rfl,rfl⟩
 |x::tk,y::m,.cons ⟨h1,h2,l,h3,h4⟩ t,k=>by
  unfold bu
  rw[List.find?_cons,List.find?_cons,←h1]
  by_cases e:x.1=k
  ·rw[decide_eq_true e]
   exact .inl ⟨l,y.2.2,congrArg some h3,rfl,h4⟩
  ·rw[decide_eq_false e]
   exact cF.val t k
def a9 (m:List Pl) (k:bc):List Int:=(bu m k).getD []
def fZ (n:Nat) (ow:List (Key×V)):List Int:=((List.range n).filter fun(i:Nat)=>(bh ow (.inl (i:Int))).isNone).map fun(i:Nat)=>(i:Int)
inductive M3 (P:Program) (w:World) (K:PySem.W.Frag) (C:Addr) (vs:List V) (H:Hp) (Q:VK) (_E:XK):Prop
 |mk (t dx:Addr) (n:Nat) (_:vs=[.ref t,.int n]) (_:H t=some (.ins C dx [])) (_:H dx=some (.own t)) (_: ∀(od td:Addr) H',H od=none→H td=none→(∀b o,H b=some o→b≠t→H' b=some o)→dR P w K C H' t od td n [] [] []→Q .non H')
inductive Ha (P:Program) (w:World) (K:PySem.W.Frag) (C:Addr) (vs:List V) (H:Hp) (Q:VK) (_E:XK):Prop
 |mk (t od td:Addr) (n:Nat) (ow:List (Key×V)) (tk:List aW) (m:List Pl) (p:Int) (_:vs=[.ref t,.int p]) (_:dR P w K C H t od td n ow tk m) (_:Q ((bh ow (.inl p)).getD .non) H)
inductive Fi (P:Program) (w:World) (K:PySem.W.Frag) (C:Addr) (vs:List V) (H:Hp) (Q:VK) (_E:XK):Prop
 |mk (t od td:Addr) (n:Nat) (ow:List (Key×V)) (tk:List aW) (m:List Pl) (k:bc) (kv:V) (_:vs=[.ref t,kv]) (_:dR P w K C H t od td n ow tk m) (_:cq K H k kv) (_: ∀(l:Addr) H',am H H'→H l=none→H' l=some (.lst ((a9 m k).map V.int))→Q (.ref l) H')
inductive M6 (P:Program) (w:World) (K:PySem.W.Frag) (C:Addr) (vs:List V) (H:Hp) (Q:VK) (_E:XK):Prop
 |mk (t od td:Addr) (n:Nat) (ow:List (Key×V)) (tk:List aW) (m:List Pl) (_:vs=[.ref t]) (_:dR P w K C H t od td n ow tk m) (_:n≤1000) (_: ∀(l:Addr) H',am H H'→H l=none→H' l=some (.lst ((fZ n ow).map V.int))→Q (.ref l) H')
section
variable {P:Program}{w:World}{K:PySem.W.Frag}{mg:Str→Option Value}{base:Heap}{a:Adr}
theorem wQ (T:Txt K mg a):bd P w K mg base CX0 1 a.jF a.c8 ["self","many"] (M3 P w K a.bE):=by
 refine T.zp.ok wJ (fun vs H Q E h=> ?_) (fun cdv A outer s H vs Q E hr h=> ?_)
 ·obtain⟨t,dx,n,rfl,_⟩:=h
  rfl
 ·obtain⟨t,dx,n,rfl,hT,hX,q⟩:=h
  refine⟨_,(ag (bV K rfl (pv 0) (pv 1))
 (ag (bV K rfl (pv 0) jU)
 (ah (bV K rfl (pv 0) (Ej (P:=P) (w:=w)))))),?_⟩
  refine⟨_,rfl,_,rfl,t,_,dx,_,rfl,hT,T.bg,T.qK,by decide,?_⟩
  have hp1:dz "many" (V.int n) []=([("many",V.int n)]:List (Str×V)):=rfl
  rw[hp1]
  have hT1:upd H t (.ins a.bE dx [("many",V.int n)]) t=some (.ins a.bE dx [("many",V.int n)]):=ae
  have f1: ∀b o,H b=some o→b≠t→upd H t (.ins a.bE dx [("many",V.int n)]) b=some o:=fun b o e hb=>by rw[aj hb];exact e
  generalize upd H t (.ins a.bE dx [("many",V.int n)])=H1 at hT1 f1⊢
  refine fun od hod=>⟨_,rfl,t,_,dx,_,rfl,by rw[aj (au hT1 hod)];exact hT1,T.bg,T.c5,by simp,?_⟩
  have hp2:dz "owners" (V.ref od) [("many",V.int n)]=([("many",V.int n),("owners",V.ref od)]:List (Str×V)):=rfl
  rw[hp2]
  have ot:od≠t:=fun z=>by rw[z,hT1] at hod;cases hod
  have hT2:upd (upd H1 od (.dK [])) t (.ins a.bE dx [("many",V.int n),("owners",V.ref od)]) t=some (.ins a.bE dx [("many",V.int n),("owners",V.ref od)]):=ae
  have hO2:upd (upd H1 od (.dK [])) t (.ins a.bE dx [("many",V.int n),("owners",V.ref od)]) od=some (.dK []):=by rw[aj ot];exact ae
  have f2: ∀b o,H b=some o→b≠t→upd (upd H1 od (.dK [])) t (.ins a.bE dx [("many",V.int n),("owners",V.ref od)]) b=some o:=fun b o e hb=>by
   rw[aj hb,aj (fun z=>by rw[←z,f1 b o e hb] at hod;cases hod)]
   exact f1 b o e hb
  generalize upd (upd H1 od (.dK [])) t (.ins a.bE dx [("many",V.int n),("owners",V.ref od)])=H2 at hT2 hO2 f2⊢
  refine fun td htd=>⟨_,rfl,t,_,dx,_,rfl,by rw[aj (au hT2 htd)];exact hT2,T.bg,T.fK,by simp,?_⟩
  have hp3:dz "taken" (V.ref td) [("many",V.int n),("owners",V.ref od)]=([("many",V.int n),("owners",V.ref od),("taken",V.ref td)]:List (Str×V)):=rfl
  rw[hp3]
  have tt:td≠t:=fun z=>by rw[z,hT2] at htd;cases htd
  have dt:od≠td:=fun z=>by rw[←z,hO2] at htd;cases htd
  have hodn:H od=none:=by
   cases z:H od with
   |none=>rfl
   |some o=>rw[f1 od o z ot] at hod;cases hod
  have htdn:H td=none:=by
   cases z:H td with
   |none=>rfl
   |some o=>rw[f2 td o z tt] at htd;cases htd
  refine q od td _ hodn htdn (fun b o e hb=> ?_) ⟨⟨dx,ae⟩,by rw[aj ot,aj dt];exact hO2,by rw[aj tt];exact ae,fun x hx=>(by cases hx),.nil⟩
  rw[aj hb,aj (fun z=>by rw[←z,f2 b o e hb] at htd;cases htd)]
  exact f2 b o e hb
theorem cW (T:Txt K mg a):bd P w K mg base CX0 1 a.jm a.cf ["self","owner"] (Fi P w K a.bE):=by
 refine T.uf.ok rA (fun vs H Q E h=> ?_) (fun cdv A outer s H vs Q E hr h=> ?_)
 ·obtain⟨t,od,td,n,ow,tk,m,k,kv,rfl,_⟩:=h
  rfl
 ·obtain⟨t,od,td,n,ow,tk,m,k,kv,rfl,hT,hk,q⟩:=h
  refine⟨_,(ah (aI (d8 (F5 K rfl) (by rfl) T.FB L2.vQ (ad (yc (P:=P) (w:=w) K rfl (cw hr) (aU K rfl (pv 0)) (pv 1) (b7 af) ⟨rfl,rfl,rfl,rfl⟩) af)))),?_⟩
  obtain⟨dx,hI⟩:=hT.ins
  refine⟨_,rfl,t,_,dx,_,_,rfl,hI,T.bg,T.fK,rfl,td,tk,rfl,hT.tak,_,rfl,aC (show _≤65536 by simp),fun l0 hl0=> ?_⟩
  have s0:=al (o:=.lst []) (am.refl H) hl0
  have hl0':upd H l0 (.lst []) l0=some (.lst []):=ae
  generalize upd H l0 (.lst [])=H0 at s0 hl0'⊢
  have hT0:=hT.same s0
  refine⟨tk,k,hT0.tak,hT0.keys,bN s0 hk,?_⟩
  rcases hT0.lsts.val k with⟨l,ps,e1,e2,e3⟩ |⟨e1,e2⟩
  ·rw[e1]
   refine⟨l,_,rfl,.inl (SqL.of e3),fun l1 hl1=>q l1 _ (al s0 hl1) (s0.free hl1) ?_⟩
   unfold a9
   rw[e2]
   exact ae
  ·rw[e1]
   refine⟨l0,_,rfl,.inl (SqL.of hl0'),fun l1 hl1=>q l1 _ (al s0 hl1) (s0.free hl1) ?_⟩
   unfold a9
   rw[e2]
   exact ae
theorem qJ (T:Txt K mg a):bd P w K mg base CX0 1 a.sW a.eP ["self"] (M6 P w K a.bE):=by
 refine T.Dc.ok AD (fun vs H Q E h=> ?_) (fun cdv A outer s H vs Q E hr h=> ?_)
 ·obtain⟨t,od,td,n,ow,tk,m,rfl,_⟩:=h
  rfl
 ·obtain⟨t,od,td,n,ow,tk,m,rfl,hT,hn,q⟩:=h
  refine⟨_,(ah (aI (dw ["self"] ["place"] [] [1] (ak jC) rfl rfl rfl (by decide+kernel) (by decide+kernel) (b9 1)
  (cK rfl T.ee (ad (aU K rfl (pv 0)) af)) (fun cl C s₀ H₀ ex=>⟨(aF (i:=1) (show List.Nodup ((["self"]:List PySem.Str)++(["place"]:List PySem.Str)) by decide+kernel) rfl (by first |exact Or.inl rfl |exact Or.inr rfl)),(xj (x8 (Bv (cw hr) (pv 1) (aU K rfl (pv 0))) rfl)),(pv 1)⟩)))),?_⟩
  obtain⟨dx,hI⟩:=hT.ins
  refine⟨_,rfl,t,_,dx,_,_,rfl,hI,T.bg,T.qK,rfl,(n:Int),rfl,by omega,by omega,fun D hD=> ?_⟩
  have sD: ∀acc,am H (upd H D (.lst acc)):=fun acc=>al (am.refl _) hD
  refine kr (K:=K) (lo:=0) (n:=(n:Int).toNat) (fun i acc H'=>acc=(fZ i ow).map V.int∧H'=upd H D (.lst acc)) ⟨rfl,rfl⟩ ?_ ?_
  ·rintro i acc _ hi ⟨rfl,rfl⟩
   have hfl:((fZ i ow).map V.int).length≤i:=by
    unfold fZ
    rw[List.length_map,List.length_map]
    exact Nat.le_trans (List.length_filter_le _ _) (by rw[List.length_range];exact Nat.le_refl _)
   have hnext:fZ (i+1) ow=fZ i ow++if(bh ow (.inl (i:Int))).isNone=true then [(i:Int)] else []:=by
    unfold fZ
    rw[List.range_succ,List.filter_append,List.map_append]
    congr 1
    by_cases e:(bh ow (.inl (i:Int))).isNone=true
    ·simp[e]
    ·simp[e]
   rw[show(0:Int)+(i:Int)=((i:Nat):Int) by omega]
   refine aq ⟨_,rfl,_,rfl,t,_,dx,_,_,rfl,sD _ _ _ hI,T.bg,T.c5,rfl,od,_,rfl,e8.k (k:=.inl (i:Int)) (sD _ _ _ hT.own),_,rfl,?_⟩
   have hlf:i<(n:Int).toNat:=hi
   cases e:bh ow (.inl (i:Int)) with
   |none=>
    refine cL ⟨_,rfl,ae,by rw[sizeLine_eq];omega,lf hlf ⟨?_,by rw[jx]⟩⟩
    rw[hnext,e,List.map_append]
    rfl
   |some v=>
    refine bY (lf hlf ⟨?_,rfl⟩)
    rw[hnext,e,List.map_append]
    exact(List.append_nil _).symm
  ·rintro acc _ ⟨rfl,rfl⟩
   have e:(n:Int).toNat=n:=by omega
   rw[e]
   exact q D _ (sD _) hD ae
end
def Ob (H H':Hp):Prop:= ∀u xs,H u=some (.tup xs)→H' u=some (.tup xs)
theorem Ob.sq {K:PySem.W.Frag}{H H':Hp}{a:Addr}{xs:List V}(e:Ob H H') (hs: ∀u o,(∃o',H u=some (.frz o' o))→ ∃o',H' u=some (.frz o' o)) (h:SqT K H a xs):SqT K H' a xs:=by
 rcases h with h |h
 ·rcases h with h |h
  ·exact .inl (.inl (e _ _ h))
  ·exact .inl (.inr (hs _ _ h))
 ·exact .inr h
structure Kp (H H':Hp):Prop where
 tp:Ob H H'
 fz: ∀u o,(∃o',H u=some (.frz o' o))→ ∃o',H' u=some (.frz o' o)
theorem Kp.of {H H':Hp}(h:am H H'):Kp H H':=⟨fun u xs e=>h u _ e,fun u o ⟨o',e⟩=>⟨o',h u _ e⟩⟩
theorem Kp.lst {H:Hp}{a:Addr}{o:HO}{ys:List V}(hl:H a=some (.lst ys)):Kp H (upd H a o):=
 ⟨fun u xs h=>by rw[aj (fun e=>by rw[e,hl] at h;cases h)];exact h,fun u o ⟨o',h⟩=>⟨o',by rw[aj (fun e=>by rw[e,hl] at h;cases h)];exact h⟩⟩
theorem Kp.tq {K:PySem.W.Frag}{H H':Hp}{a:Addr}{xs:List V}(e:Kp H H') (h:SqT K H a xs):SqT K H' a xs:=e.tp.sq e.fz h
theorem Kq (xs:List V) {i:Int}(h:0≤i):HZ xs (some i) none=xs.drop i.toNat:=by
 show(xs.drop (if i<0 then(i+(xs.length:Int)).toNat else min i.toNat xs.length)).take (xs.length-(if i<0 then(i+(xs.length:Int)).toNat else min i.toNat xs.length))=xs.drop i.toNat
 rw[if_neg (by omega)]
 rcases Nat.le_total i.toNat xs.length with hle |hle
 ·rw[Nat.min_eq_left hle,List.take_of_length_le (by rw[List.length_drop];omega)]
 ·rw[Nat.min_eq_right hle,List.drop_eq_nil_of_le (Nat.le_refl _),List.drop_eq_nil_of_le hle,List.take_nil]
theorem Ko (xs:List V) {i:Int}(h:0≤i):HZ xs none (some i)=xs.take i.toNat:=by
 show(xs.drop 0).take ((if i<0 then(i+(xs.length:Int)).toNat else min i.toNat xs.length)-0)=xs.take i.toNat
 rw[if_neg (by omega),List.drop_zero,Nat.sub_zero]
 rcases Nat.le_total i.toNat xs.length with hle |hle
 ·rw[Nat.min_eq_left hle]
 ·rw[Nat.min_eq_right hle,List.take_of_length_le (Nat.le_refl _),List.take_of_length_le hle]
theorem uQ (kvs:List (Key×V)) (k j:Key):bh (gx kvs k) j=if j=k then none else bh kvs j:=by
 induction kvs with
 |nil=>split<;>rfl
 |cons p r ih=>
  by_cases e:p.1=k
  ·rw[HS e,ih]
   by_cases e2:j=k
   ·rw[if_pos e2,if_pos e2]
   ·rw[if_neg e2,if_neg e2,bP (fun z=>e2 (z.symm.trans e))]
  ·rw[HU e]
   by_cases e3:p.1=j
   ·rw[bw e3,if_neg (fun z=>e (e3.trans z)),bw e3]
   ·rw[bP e3,ih,bP e3]
def xb (ow:List (Key×V)) (ps:List Int):List (Key×V):=ps.foldl (fun o p=>gx o (.inl p)) ow
theorem uP (ps:List Int): ∀(ow:List (Key×V)) (j:Int),bh (xb ow ps) (.inl j)=if j∈ps then none else bh ow (.inl j):=by
 induction ps with
 |nil=>intro ow j;rw[if_neg (by simp)];rfl
 |cons p r ih=>
  intro ow j
  show bh (xb (gx ow (.inl p)) r) (.inl j)=_
  rw[ih,uQ]
  by_cases h1:j∈r
  ·rw[if_pos h1,if_pos (List.mem_cons_of_mem _ h1)]
  ·rw[if_neg h1]
   by_cases h2:j=p
   ·rw[if_pos (by rw[h2]),if_pos (by rw[h2];exact List.mem_cons_self)]
   ·rw[if_neg (fun z=>h2 (Sum.inl.inj z)),if_neg (fun z=>(List.mem_cons.mp z).elim h2 h1)]
def Off (od td:Addr) (H H':Hp):Prop:= ∀b o,H b=some o→b≠od→b≠td→H' b=some o
theorem Off.of {od td:Addr}{H H':Hp}(h:am H H'):Off od td H H':=fun b o e _ _=>h b o e
theorem Off.trans {od td:Addr}{H H1 H2:Hp}(a:Off od td H H1) (b:Off od td H1 H2):Off od td H H2:=fun c o h h1 h2=>b c o (a c o h h1 h2) h1 h2
theorem Off.tp {od td:Addr}{H H':Hp}{kvs:List (Key×V)}{φ:Heap→Prop}(h:Off od td H H') (h1:H od=some (.dK kvs)) (h2:H td=some (.ext φ)) {b:Addr}{xs:List V}(e:H b=some (.tup xs)):H' b=some (.tup xs):=
 h b _ e (fun z=>by rw[z,h1] at e;cases e) (fun z=>by rw[z,h2] at e;cases e)
theorem cr {K:PySem.W.Frag}{od td:Addr}{H H':Hp}{kvs:List (Key×V)}{φ:Heap→Prop}(h:Off od td H H') (h1:H od=some (.dK kvs)) (h2:H td=some (.ext φ)) {k:bc}{v:V}(hk:cq K H k v):cq K H' k v:=by
 cases k with
 |inl k=>exact hk
 |inr ks=>
  obtain⟨a,e1,e2⟩:=hk
  have kp:Kp H H':=⟨fun u xs e=>h.tp h1 h2 e,fun u o ⟨o',e⟩=>⟨o',h u _ e (fun z=>by rw[z,h1] at e;cases e) (fun z=>by rw[z,h2] at e;cases e)⟩⟩
  exact⟨a,e1,kp.tq e2⟩
theorem cF.off {od td:Addr}{H H':Hp}{kvs:List (Key×V)}{φ:Heap→Prop}(h:Off od td H H') (h1:H od=some (.dK kvs)) (h2:H td=some (.ext φ)): ∀{tk:List aW}{m:List Pl},cF H tk m→cF H' tk m
 |_,_,.nil=> .nil
 |_,_,.cons ⟨e1,e2,l,e3,e4⟩ t=> .cons ⟨e1,e2,l,e3,h _ _ e4 (fun z=>by rw[z,h1] at e4;cases e4) (fun z=>by rw[z,h2] at e4;cases e4)⟩ (cF.off h h1 h2 t)
theorem cF.put {H:Hp}{l:Addr}{ps:List Int}(hl:H l=some (.lst (ps.map V.int))) {k:bc}{kv:V}: ∀{tk:List aW}{m:List Pl},cF H tk m→cF H (cn tk k kv (.ref l)) (cn m k kv ps):=by
 intro tk m h
 have hs:(bu tk k).isSome=(bu m k).isSome:=by
  rcases h.val k with⟨l,ps,e1,e2,_⟩ |⟨e1,e2⟩<;>rw[e1,e2]<;>rfl
 unfold cn
 rw[hs]
 split
 ·rename_i hc
  clear hs hc
  induction h with
  |nil=>exact .nil
  | @cons x y xs ys r t ih=>
   refine .cons ?_ ih
   dsimp only
   rw[←r.1]
   by_cases e:x.1=k
   ·rw[if_pos e,if_pos e];exact⟨rfl,r.2.1,l,rfl,hl⟩
   ·rw[if_neg e,if_neg e];exact r
 ·rename_i hc
  clear hs hc
  induction h with
  |nil=>exact .cons ⟨rfl,rfl,l,rfl,hl⟩ .nil
  |cons r t ih=>exact .cons r ih
def bC (H:Hp) (tk tk':List aW):Prop:= ∀x∈tk',(∃y∈tk,y.2.2=x.2.2)∨ ∃l,x.2.2=.ref l∧H l=none
theorem bC.put {H:Hp}{tk:List aW}{k:bc}{kv:V}{l:Addr}(hl:H l=none):bC H tk (cn tk k kv (.ref l)):=by
 intro x hx
 unfold cn at hx
 split at hx
 ·obtain⟨y,hy,rfl⟩:=List.mem_map.mp hx
  split
  ·exact .inr ⟨l,rfl,hl⟩
  ·exact .inl ⟨y,hy,rfl⟩
 ·rcases List.mem_append.mp hx with hx |hx
  ·exact .inl ⟨x,hx,rfl⟩
  ·rw[List.mem_singleton.mp hx];exact .inr ⟨l,rfl,hl⟩
theorem jW {od td:Addr}{H H':Hp}{b:Addr}(h:Off od td H H') (h1:H' od≠none) (h2:H' td≠none) (e:H' b=none):H b=none:=by
 cases z:H b with
 |none=>rfl
 |some o=>
  have:=h b o z (fun q=>h1 (by rw[←q];exact e)) (fun q=>h2 (by rw[←q];exact e))
  rw[e] at this
  cases this
inductive M5 (P:Program) (w:World) (K:PySem.W.Frag) (C:Addr) (vs:List V) (H:Hp) (Q:VK) (_E:XK):Prop
 |mk (t od td:Addr) (n:Nat) (ow:List (Key×V)) (tk:List aW) (m:List Pl) (k:bc) (kv:V) (num:Int) (_:vs=[.ref t,kv,.int num]) (_:dR P w K C H t od td n ow tk m) (_:cq K H k kv) (_:0≤num) (_:tk.length<100000) (_:(∀p∈(a9 m k).drop num.toNat,(bh ow (.inl p)).isSome=true)) (_:(a9 m k).Nodup) (_: ∀(l:Addr) (tk':List aW) H',Off od td H H'→H l=none→H' l=some (.lst (((a9 m k).drop num.toNat).reverse.map V.int))→tk'.length≤tk.length+1→bC H tk tk'→dR P w K C H' t od td n (xb ow ((a9 m k).drop num.toNat).reverse) tk' (cn m k kv ((a9 m k).take num.toNat))→Q (.ref l) H')
theorem yZ {β γ:Type}(ys:List (bc×β×γ)) (k:bc) (b:β) (v:γ):(cn ys k b v).length≤ys.length+1:=by
 unfold cn
 split
 ·rw[List.length_map];omega
 ·rw[List.length_append];simp
theorem e7.put {K:PySem.W.Frag}{H:Hp}{tk:List aW}{k:bc}{kv v:V}(h:e7 K H tk) (hk:cq K H k kv):e7 K H (cn tk k kv v):=by
 unfold cn
 split
 ·intro x hx
  obtain⟨y,hy,rfl⟩:=List.mem_map.mp hx
  split
  ·exact h y hy
  ·exact h y hy
 ·intro x hx
  rcases List.mem_append.mp hx with hx |hx
  ·exact h x hx
  ·rw[List.mem_singleton.mp hx];exact hk
section
variable {P:Program}{w:World}{K:PySem.W.Frag}{mg:Str→Option Value}{base:Heap}{a:Adr}
theorem rL (T:Txt K mg a):bd P w K mg base CX0 2 a.jn a.cg ["self","owner","number"] (M5 P w K a.bE):=by
 refine T.ug.ok cU (fun vs H Q E h=> ?_) (fun cdv A outer s H vs Q E hr h=> ?_)
 ·obtain⟨t,od,td,n,ow,tk,m,k,kv,num,rfl,_⟩:=h
  rfl
 ·obtain⟨t,od,td,n,ow,tk,m,k,kv,num,rfl,hT,hk,hnum,htk,hown,hnd,q⟩:=h
  refine⟨_,(ag (aO (i:=3) cU.nd rfl (.inl rfl) (bD (pv 0) T.bg T.cX ((cW (P:=P) (w:=w) T).mono (by decide)) hr T.dy .nil aD (ad (pv 1) af)))
 (ag (aO (i:=4) cU.nd rfl (.inl rfl) (Fs K rfl rfl (by rfl) T.FB (by rfl) T.FA (mw (tE K rfl) (pv 3) (qv (pv 2)) qw)))
 (ag (cV PassesOwn.never rfl (ce K rfl (pv 4)) (aF (i:=5) cU.nd rfl (.inl rfl))
 (ah (aX (yd (aU K rfl (pv 0)) (pv 5) ⟨rfl,rfl,rfl,rfl⟩))))
 (ag (lD (mw (tE K rfl) (pv 3) qw (qv (pv 2))) (nH (aU K rfl (pv 0)) (pv 1) (Jt (P:=P) (w:=w) K rfl (cw hr))))
 (ah (aI (pv 4))))))),?_⟩
  obtain⟨dx,hI⟩:=hT.ins
  refine⟨_,rfl,t,dx,_,rfl,hI,rfl,_,rfl,t,od,td,n,ow,tk,m,k,kv,rfl,hT,hk,fun lp H1 s1 lpn hlp=>aq ?_⟩
  have hT1:=hT.same s1
  generalize a9 m k=ps at hown hnd q hlp⊢
  refine⟨_,rfl,_,rfl,num,rfl,lp,_,rfl,SqL.of hlp,fun l2 hl2=> ?_⟩
  rw[Kq _ hnum,←List.map_drop]
  have s2:=al (o:=.lst ((ps.drop num.toNat).map V.int)) s1 hl2
  have hl2':upd H1 l2 (.lst ((ps.drop num.toNat).map V.int)) l2=some (.lst ((ps.drop num.toNat).map V.int)):=ae
  have hlp2:upd H1 l2 (.lst ((ps.drop num.toNat).map V.int)) lp=some (.lst (ps.map V.int)):=by rw[aj (au hlp hl2)];exact hlp
  generalize upd H1 l2 (.lst ((ps.drop num.toNat).map V.int))=H2 at s2 hl2' hlp2⊢
  refine⟨l2,_,rfl,SqL.of hl2',fun lb hlb=>aq ?_⟩
  rw[←List.map_reverse]
  generalize hbk:(ps.drop num.toNat).reverse=bk at q⊢
  have s3:=al (o:=.lst (bk.map V.int)) s2 hlb
  have hlb3:upd H2 lb (.lst (bk.map V.int)) lb=some (.lst (bk.map V.int)):=ae
  have hlp3:upd H2 lb (.lst (bk.map V.int)) lp=some (.lst (ps.map V.int)):=by rw[aj (au hlp2 hlb)];exact hlp2
  generalize upd H2 lb (.lst (bk.map V.int))=H3 at s3 hlb3 hlp3⊢
  have hT3:=hT.same s3
  obtain⟨dx3,hI3⟩:=hT3.ins
  have lbn:H lb=none:=s2.free hlb
  have hbn:bk.Nodup:=by rw[←hbk];exact(List.reverse_perm _).nodup_iff.mpr ((List.drop_sublist _ _).nodup hnd)
  have hbo: ∀p∈bk,(bh ow (.inl p)).isSome=true:=fun p hp=>hown p (by rw[←hbk] at hp;exact List.mem_reverse.mp hp)
  have ne: ∀{b:Addr}{o:HO},H3 b=some o→(∀kvs,o≠.dK kvs)→(∀φ,o≠.ext φ)→b≠od∧b≠td:=fun e h1 h2=>⟨fun z=>by rw[z,hT3.own] at e;cases e;exact h1 _ rfl,fun z=>by rw[z,hT3.tak] at e;cases e;exact h2 _ rfl⟩
  have nlb:=ne hlb3 (fun _ z=>nomatch z) (fun _ z=>nomatch z)
  have nlp:=ne hlp3 (fun _ z=>nomatch z) (fun _ z=>nomatch z)
  have nt:=ne hI3 (fun _ z=>nomatch z) (fun _ z=>nomatch z)
  have nod:td≠od:=fun z=>by have e:=hT3.tak;rw[z,hT3.own] at e;cases e
  refine⟨_,rfl,lb,rfl,⟨_,SqL.of hlb3⟩,?_⟩
  refine eC (xs:=bk.map V.int) (fun i σ H'=>Off od td H3 H'∧H' od=some (.dK (xb ow (bk.take i)))∧H' td=some (dM P w td tk)∧ ∃v5,σ=[some (.ref t),some kv,some (.int num),some (.ref lp),some (.ref lb),v5])
   ⟨.of (am.refl _),hT3.own,hT3.tak,_,rfl⟩ (fun i σ H' _ h=>SqL.of (h.1 _ _ hlb3 nlb.1 nlb.2)) ?_ ?_
  ·rintro i x σ H4 hx ⟨o4,hod4,htd4,v5,rfl⟩
   have hi:i<bk.length:=by simpa using(List.getElem?_eq_some_iff.mp hx).1
   have hp:bk[i]? =some bk[i]:=List.getElem?_eq_getElem hi
   rw[List.getElem?_map,hp] at hx
   generalize bk[i]=p at hx hp
   cases hx
   have hnp:p∉bk.take i:=fun z=>by
    obtain⟨j,hj⟩:=List.mem_iff_getElem?.mp z
    have hji:j<i:=by have:=(List.getElem?_eq_some_iff.mp hj).1;rw[List.length_take] at this;omega
    rw[List.getElem?_take_of_lt hji] at hj
    have:=(List.getElem?_inj (List.getElem?_eq_some_iff.mp hj).1 hbn).mp (hj.trans hp.symm)
    omega
   obtain⟨v,hv⟩:=Option.isSome_iff_exists.mp (hbo p (List.mem_of_getElem? hp))
   have hv2:bh (xb ow (bk.take i)) (.inl p)=some v:=by rw[uP,if_neg hnp];exact hv
   have hg:xb ow (bk.take (i+1))=gx (xb ow (bk.take i)) (.inl p):=by
    unfold xb
    rw[List.take_add_one,hp,List.foldl_append];rfl
   refine aq ⟨_,rfl,t,_,dx3,_,_,rfl,o4 _ _ hI3 nt.1 nt.2,T.bg,T.c5,rfl,od,rfl,.inl ⟨_,.inl hod4⟩,_,rfl,_,.inl p,v,hod4,rfl,hv2,?_⟩
   refine⟨fun b o e h1 h2=>by rw[aj h1];exact o4 b o e h1 h2,by rw[hg];exact ae,by rw[aj nod];exact htd4,_,rfl⟩
  ·rintro σ H4 ⟨o4,hod4,htd4,v5,rfl⟩
   rw[List.length_map,List.take_of_length_le (Nat.le_refl _)] at hod4
   have hlp4:=o4 _ _ hlp3 nlp.1 nlp.2
   refine⟨_,rfl,_,rfl,num,rfl,lp,_,rfl,SqL.of hlp4,fun l5 hl5=> ?_⟩
   rw[Ko _ hnum,←List.map_take]
   have s5:=al (o:=.lst ((ps.take num.toNat).map V.int)) (am.refl H4) hl5
   have hl5':upd H4 l5 (.lst ((ps.take num.toNat).map V.int)) l5=some (.lst ((ps.take num.toNat).map V.int)):=ae
   generalize upd H4 l5 (.lst ((ps.take num.toNat).map V.int))=H5 at s5 hl5'⊢
   have o5:Off od td H H5:=(Off.of s3).trans (o4.trans (.of s5))
   have htd5:=s5 _ _ htd4
   have hk5:=cr o5 hT.own hT.tak hk
   have hks5:e7 K H5 tk:=fun x hx=>cr o5 hT.own hT.tak (hT.keys x hx)
   have n5:l5≠td:=fun z=>by rw[z,htd5] at hl5';cases hl5'
   refine⟨_,rfl,t,_,dx3,_,_,rfl,s5 _ _ (o4 _ _ hI3 nt.1 nt.2),T.bg,T.fK,rfl,_,rfl,td,tk,k,rfl,htd5,hks5,hk5,by rw[sizeLine_eq];omega,_,rfl,?_⟩
   have o6:Off od td H (upd H5 td (dM P w td (cn tk k kv (.ref l5)))):=fun b o e h1 h2=>by rw[aj h2];exact o5 b o e h1 h2
   have hl6:upd H5 td (dM P w td (cn tk k kv (.ref l5))) l5=some (.lst ((ps.take num.toNat).map V.int)):=by rw[aj n5];exact hl5'
   have hl5n:H l5=none:=jW ((Off.of s3).trans o4) (by rw[hod4];simp) (by rw[htd4];simp) hl5
   refine q lb _ _ o6 lbn (by rw[aj nlb.2];exact s5 _ _ (o4 _ _ hlb3 nlb.1 nlb.2)) (yZ _ _ _ _) (bC.put hl5n) ⟨⟨dx3,by rw[aj nt.2];exact s5 _ _ (o4 _ _ hI3 nt.1 nt.2)⟩,by rw[aj (Ne.symm nod)];exact s5 _ _ hod4,ae,?_,?_⟩
   ·exact e7.put (fun x hx=>cr o6 hT.own hT.tak (hT.keys x hx)) (cr o6 hT.own hT.tak hk)
   ·exact cF.put hl6 (hT.lsts.off o6 hT.own hT.tak)
end
def pO (ow:List (Key×V)) (kv:V) (ps:List Int):List (Key×V):=ps.foldl (fun o p=>gv o (.inl p) kv) ow
theorem xH (kv:V) (ps:List Int): ∀(ow:List (Key×V)) (j:Int),bh (pO ow kv ps) (.inl j)=if j∈ps then some kv else bh ow (.inl j):=by
 induction ps with
 |nil=>intro ow j;rw[if_neg (by simp)];rfl
 |cons p r ih=>
  intro ow j
  show bh (pO (gv ow (.inl p) kv) kv r) (.inl j)=_
  rw[ih,tw]
  by_cases h1:j∈r
  ·rw[if_pos h1,if_pos (List.mem_cons_of_mem _ h1)]
  ·rw[if_neg h1]
   by_cases h2:j=p
   ·rw[if_pos (by rw[h2]),if_pos (by rw[h2];exact List.mem_cons_self)]
   ·rw[if_neg (fun z=>h2 (Sum.inl.inj z)),if_neg (fun z=>(List.mem_cons.mp z).elim h2 h1)]
theorem BA (kv:V) (ps:List Int): ∀(ow:List (Key×V)),(pO ow kv ps).length≤ow.length+ps.length:=by
 induction ps with
 |nil=>intro ow;exact Nat.le_refl _
 |cons p r ih=>
  intro ow
  have h1:=ih (gv ow (.inl p) kv)
  have h2:=pL ow (.inl p) kv
  show(pO (gv ow (.inl p) kv) kv r).length≤_
  rw[List.length_cons]
  omega
theorem FZ (n:Nat) (ow:List (Key×V)):(fZ n ow).length≤n:=by
 unfold fZ
 rw[List.length_map]
 exact Nat.le_trans (List.length_filter_le _ _) (by rw[List.length_range];exact Nat.le_refl _)
inductive MX (P:Program) (w:World) (K:PySem.W.Frag) (C:Addr) (vs:List V) (H:Hp) (Q:VK) (_E:XK):Prop
 |mk (t od td:Addr) (n:Nat) (ow:List (Key×V)) (tk:List aW) (m:List Pl) (k:bc) (kv:V) (num:Int) (_:vs=[.ref t,kv,.int num]) (_:dR P w K C H t od td n ow tk m) (_:cq K H k kv) (_:n≤1000) (_:((a9 m k).length:Int)≤num) (_:(a9 m k).length≤1000000) (_:tk.length<100000) (_:ow.length<1000000) (_: ∀(tk':List aW) H',Off od td H H'→tk'.length≤tk.length+1→bC H tk tk'→dR P w K C H' t od td n (pO ow kv ((fZ n ow).take (num-(a9 m k).length).toNat)) tk' (cn m k kv (a9 m k++(fZ n ow).take (num-(a9 m k).length).toNat))→Q .non H')
section
variable {P:Program}{w:World}{K:PySem.W.Frag}{mg:Str→Option Value}{base:Heap}{a:Adr}
theorem AL (T:Txt K mg a):bd P w K mg base CX0 2 a.sV a.eO ["self","owner","number"] (MX P w K a.bE):=by
 refine T.Db.ok iy (fun vs H Q E h=> ?_) (fun cdv A outer s H vs Q E hr h=> ?_)
 ·obtain⟨t,od,td,n,ow,tk,m,k,kv,num,rfl,_⟩:=h
  rfl
 ·obtain⟨t,od,td,n,ow,tk,m,k,kv,num,rfl,hT,hk,hn,hnum,hpl,htk,hol,q⟩:=h
  refine⟨_,(ag (aO (i:=3) iy.nd rfl (.inl rfl) (bD (pv 0) T.bg T.cX ((cW (P:=P) (w:=w) T).mono (by decide)) hr T.dy .nil aD (ad (pv 1) af)))
 (ag (aO (i:=4) iy.nd rfl (.inl rfl) (mw (tE K rfl) (Ei (pv 0) T.bg T.qM ((qJ (P:=P) (w:=w) T).mono (by decide)) hr T.ur .nil aD) qw (qv (aA Cw (pv 2) (az (aK K rfl) (by rfl) T.bK L2.aQ (ad (pv 3) af))))))
 (ag (cV PassesOwn.never rfl (ce K rfl (pv 4)) (aF (i:=5) iy.nd rfl (.inl rfl))
 (ah (lD (pv 1) (nH (aU K rfl (pv 0)) (pv 5) (Co (cw hr))))))
 (ah (lD (aA Nu (pv 3) (pv 4)) (nH (aU K rfl (pv 0)) (pv 1) (Jt (P:=P) (w:=w) K rfl (cw hr)))))))),?_⟩
  obtain⟨dx,hI⟩:=hT.ins
  refine⟨_,rfl,t,dx,_,rfl,hI,rfl,_,rfl,t,od,td,n,ow,tk,m,k,kv,rfl,hT,hk,fun lp H1 s1 lpn hlp=>aq ?_⟩
  have hT1:=hT.same s1
  generalize a9 m k=ps at hnum hpl q hlp⊢
  refine⟨_,rfl,t,dx,_,rfl,s1 _ _ hI,rfl,t,od,td,n,ow,tk,m,rfl,hT1,hn,fun lf0 H2 s2 lfn hlf=> ?_⟩
  have hfl:=FZ n ow
  generalize fZ n ow=fs at hfl hlf q
  have hlp2:=s2 _ _ hlp
  refine⟨_,rfl,_,rfl,_,ps.length,rfl,.inl ⟨_,SqL.of hlp2,by rw[List.length_map]⟩,num,(ps.length:Int),rfl,rfl,num-(ps.length:Int),rfl,lf0,_,rfl,SqL.of hlf,fun lm hlm=>aq ?_⟩
  rw[Ko _ (by omega),←List.map_take]
  generalize hmo:fs.take (num-(ps.length:Int)).toNat=mo at q⊢
  have hml:mo.length≤1000:=by rw[←hmo,List.length_take];omega
  have s3:=al (o:=.lst (mo.map V.int)) (s1.trans s2) hlm
  have hlm3:upd H2 lm (.lst (mo.map V.int)) lm=some (.lst (mo.map V.int)):=ae
  have hlp3:upd H2 lm (.lst (mo.map V.int)) lp=some (.lst (ps.map V.int)):=by rw[aj (au hlp2 hlm)];exact hlp2
  generalize upd H2 lm (.lst (mo.map V.int))=H3 at s3 hlm3 hlp3⊢
  have hT3:=hT.same s3
  obtain⟨dx3,hI3⟩:=hT3.ins
  have ne: ∀{b:Addr}{o:HO},H3 b=some o→(∀kvs,o≠.dK kvs)→(∀φ,o≠.ext φ)→b≠od∧b≠td:=fun e h1 h2=>⟨fun z=>by rw[z,hT3.own] at e;cases e;exact h1 _ rfl,fun z=>by rw[z,hT3.tak] at e;cases e;exact h2 _ rfl⟩
  have nlm:=ne hlm3 (fun _ z=>nomatch z) (fun _ z=>nomatch z)
  have nlp:=ne hlp3 (fun _ z=>nomatch z) (fun _ z=>nomatch z)
  have nt:=ne hI3 (fun _ z=>nomatch z) (fun _ z=>nomatch z)
  have nod:td≠od:=fun z=>by have e:=hT3.tak;rw[z,hT3.own] at e;cases e
  refine⟨_,rfl,lm,rfl,⟨_,SqL.of hlm3⟩,?_⟩
  refine eC (xs:=mo.map V.int) (fun i σ H'=>Off od td H3 H'∧H' od=some (.dK (pO ow kv (mo.take i)))∧H' td=some (dM P w td tk)∧ ∃v5,σ=[some (.ref t),some kv,some (.int num),some (.ref lp),some (.ref lm),v5])
   ⟨.of (am.refl _),hT3.own,hT3.tak,_,rfl⟩ (fun i σ H' _ h=>SqL.of (h.1 _ _ hlm3 nlm.1 nlm.2)) ?_ ?_
  ·rintro i x σ H4 hx ⟨o4,hod4,htd4,v5,rfl⟩
   have hi:i<mo.length:=by simpa using(List.getElem?_eq_some_iff.mp hx).1
   have hp:mo[i]? =some mo[i]:=List.getElem?_eq_getElem hi
   rw[List.getElem?_map,hp] at hx
   generalize mo[i]=p at hx hp
   cases hx
   have hg:pO ow kv (mo.take (i+1))=gv (pO ow kv (mo.take i)) (.inl p) kv:=by
    unfold pO
    rw[List.take_add_one,hp,List.foldl_append];rfl
   have hgl:=BA kv (mo.take i) ow
   have htl:=List.length_take_le i mo
   refine aq ⟨_,rfl,_,rfl,t,_,dx3,_,_,rfl,o4 _ _ hI3 nt.1 nt.2,T.bg,T.c5,rfl,_,rfl,od,_,.inl p,rfl,rfl,hod4,by rw[sizeLine_eq];omega,?_⟩
   refine⟨fun b o e h1 h2=>by rw[aj h1];exact o4 b o e h1 h2,by rw[hg];exact ae,by rw[aj nod];exact htd4,_,rfl⟩
  ·rintro σ H4 ⟨o4,hod4,htd4,v5,rfl⟩
   rw[List.length_map,List.take_of_length_le (Nat.le_refl _)] at hod4
   have hlp4:=o4 _ _ hlp3 nlp.1 nlp.2
   have hlm4:=o4 _ _ hlm3 nlm.1 nlm.2
   refine⟨_,rfl,_,rfl,lp,lm,_,_,rfl,rfl,hlp4,hlm4,by rw[List.length_map,List.length_map,sizeLine_eq];omega,fun l5 hl5=> ?_⟩
   rw[←List.map_append]
   have s5:=al (o:=.lst ((ps++mo).map V.int)) (am.refl H4) hl5
   have hl5':upd H4 l5 (.lst ((ps++mo).map V.int)) l5=some (.lst ((ps++mo).map V.int)):=ae
   generalize upd H4 l5 (.lst ((ps++mo).map V.int))=H5 at s5 hl5'⊢
   have o5:Off od td H H5:=(Off.of s3).trans (o4.trans (.of s5))
   have htd5:=s5 _ _ htd4
   have hk5:=cr o5 hT.own hT.tak hk
   have hks5:e7 K H5 tk:=fun x hx=>cr o5 hT.own hT.tak (hT.keys x hx)
   have n5:l5≠td:=fun z=>by rw[z,htd5] at hl5';cases hl5'
   refine⟨_,rfl,t,_,dx3,_,_,rfl,s5 _ _ (o4 _ _ hI3 nt.1 nt.2),T.bg,T.fK,rfl,_,rfl,td,tk,k,rfl,htd5,hks5,hk5,by rw[sizeLine_eq];omega,?_⟩
   have o6:Off od td H (upd H5 td (dM P w td (cn tk k kv (.ref l5)))):=fun b o e h1 h2=>by rw[aj h2];exact o5 b o e h1 h2
   have hl6:upd H5 td (dM P w td (cn tk k kv (.ref l5))) l5=some (.lst ((ps++mo).map V.int)):=by rw[aj n5];exact hl5'
   have hl5n:H l5=none:=jW ((Off.of s3).trans o4) (by rw[hod4];simp) (by rw[htd4];simp) hl5
   refine q _ _ o6 (yZ _ _ _ _) (bC.put hl5n) ⟨⟨dx3,by rw[aj nt.2];exact s5 _ _ (o4 _ _ hI3 nt.1 nt.2)⟩,by rw[aj (Ne.symm nod)];exact s5 _ _ hod4,ae,?_,?_⟩
   ·exact e7.put (fun x hx=>cr o6 hT.own hT.tak (hT.keys x hx)) (cr o6 hT.own hT.tak hk)
   ·exact cF.put hl6 (hT.lsts.off o6 hT.own hT.tak)
end
theorem Gz {α:Type} [BEq α] [LawfulBEq α]: ∀{l m:List α},l.Nodup→(∀x∈l,x∈m)→l.length≤m.length
 | [],m,_,_=>Nat.zero_le _
 |a::l,m,h,g=>by
  obtain⟨h1,h2⟩:=List.nodup_cons.mp h
  have p:=List.perm_cons_erase (g a List.mem_cons_self)
  have:=Gz (m:=m.erase a) h2 fun x hx=>by
   rcases List.mem_cons.mp (p.mem_iff.mp (g x (List.mem_cons_of_mem _ hx))) with rfl |q
   ·exact absurd hx h1
   ·exact q
  have e:=p.length_eq
  rw[List.length_cons] at e⊢
  omega
structure AS where
 pl:bc→List Int
 oc:Int→Bool
def frl (n:Nat) (oc:Int→Bool):List Int:=((List.range n).filter fun(i:Nat)=> !oc (i:Int)).map fun(i:Nat)=>(i:Int)
def AS.give (s:AS) (k:bc) (c:Nat):AS:=⟨fun j=>if j=k then(s.pl k).take c else s.pl j,fun p=>if p∈(s.pl k).drop c then false else s.oc p⟩
def AS.took (s:AS) (n:Nat) (k:bc) (c:Nat):AS:=⟨fun j=>if j=k then s.pl k++(frl n s.oc).take (c-(s.pl k).length) else s.pl j,fun p=>if p∈(frl n s.oc).take (c-(s.pl k).length) then true else s.oc p⟩
structure AS.Ok (n:Nat) (s:AS):Prop where
 in_: ∀k p,p∈s.pl k→0≤p∧p<n∧s.oc p=true
 dj: ∀k j p,p∈s.pl k→p∈s.pl j→k=j
 nd: ∀k,(s.pl k).Nodup
def AS.new:AS:=⟨fun _=> [],fun _=>false⟩
theorem AS.new_ok (n:Nat):AS.new.Ok n:=⟨fun _ _ h=>(nomatch h),fun _ _ _ h=>(nomatch h),fun _=>List.nodup_nil⟩
theorem jD {n:Nat}{oc:Int→Bool}{p:Int}:p∈frl n oc↔0≤p∧p<n∧oc p=false:=by
 unfold frl
 rw[List.mem_map]
 constructor
 ·rintro⟨i,hi,rfl⟩
  obtain⟨h1,h2⟩:=List.mem_filter.mp hi
  have:=List.mem_range.mp h1
  exact⟨by omega,by omega,by simpa using h2⟩
 ·rintro⟨h1,h2,h3⟩
  refine⟨p.toNat,List.mem_filter.mpr ⟨List.mem_range.mpr (by omega),?_⟩,by omega⟩
  rw[show((p.toNat:Nat):Int)=p by omega,h3]
  rfl
theorem vD (n:Nat) (oc:Int→Bool):(frl n oc).Nodup:=by
 unfold frl
 rw[List.nodup_iff_pairwise_ne,List.pairwise_map]
 exact(List.nodup_iff_pairwise_ne.mp (List.filter_sublist.nodup List.nodup_range)).imp fun h=>by omega
theorem Kf (n:Nat) (oc:Int→Bool):(frl n oc).length≤n:=by
 unfold frl
 rw[List.length_map]
 exact Nat.le_trans (List.length_filter_le _ _) (by rw[List.length_range];exact Nat.le_refl _)
theorem Ec {l m:List Int}(h1:l.Nodup) (h2:m.Nodup) (h: ∀x,x∈l↔x∈m):l.length=m.length:=
 Nat.le_antisymm (Gz h1 fun x hx=>(h x).mp hx) (Gz h2 fun x hx=>(h x).mpr hx)
theorem Ke {n:Nat}{oc:Int→Bool}{ps:List Int}(hn:ps.Nodup) (hp: ∀p∈ps,0≤p∧p<n∧oc p=true):(frl n fun p=>if p∈ps then false else oc p).length=(frl n oc).length+ps.length:=by
 rw[←List.length_append]
 refine Ec (vD _ _) ?_ fun x=> ?_
 ·rw[List.nodup_append]
  refine⟨vD _ _,hn,fun a ha b hb e=> ?_⟩
  subst e
  have h1:=(jD.mp ha).2.2
  rw[(hp a hb).2.2] at h1
  cases h1
 ·rw[jD,List.mem_append,jD]
  by_cases hx:x∈ps
  ·rw[if_pos hx]
   have:=hp x hx
   exact⟨fun _=> .inr hx,fun _=>⟨this.1,this.2.1,rfl⟩⟩
  ·rw[if_neg hx]
   exact⟨fun h=> .inl h,fun h=>h.resolve_right hx⟩
theorem EJ {l:List Int}(h:l.Nodup) (i:Nat):l.filter (fun x=>decide (x∉l.take i))=l.drop i:=by
 have e:l.filter (fun x=>decide (x∉l.take i))=(l.take i++l.drop i).filter (fun x=>decide (x∉l.take i)):=by rw[List.take_append_drop]
 rw[e,List.filter_append]
 have h1:(l.take i).filter (fun x=>decide (x∉l.take i))=[]:=by
  rw[List.filter_eq_nil_iff]
  intro x hx
  simp[hx]
 have h2:(l.drop i).filter (fun x=>decide (x∉l.take i))=l.drop i:=by
  rw[List.filter_eq_self]
  intro x hx
  have h:=h
  rw[←List.take_append_drop i l,List.nodup_append] at h
  exact decide_eq_true fun z=>h.2.2 x z x hx rfl
 rw[h1,h2]
 rfl
theorem BB (n:Nat) (oc:Int→Bool) (i:Nat):(frl n fun p=>if p∈(frl n oc).take i then true else oc p)=(frl n oc).drop i:=by
 have e:(frl n fun p=>if p∈(frl n oc).take i then true else oc p)=(frl n oc).filter (fun x=>decide (x∉(frl n oc).take i)):=by
  generalize (frl n oc).take i=ts
  unfold frl
  rw[List.filter_map,List.filter_filter]
  congr 1
  refine List.filter_congr fun j _=> ?_
  show(!if(j:Int)∈ts then true else oc j)=(decide ((j:Int)∉ts) && !oc j)
  by_cases hj:(j:Int)∈ts
  ·rw[if_pos hj];simp[hj]
  ·rw[if_neg hj];simp[hj]
 rw[e]
 exact EJ (vD _ _) i
theorem HR {n:Nat}{oc:Int→Bool}{p:Int}{r:List Int}(h:frl n oc=p::r):0≤p∧p<n∧oc p=false∧ ∀q,0≤q→q<p→oc q=true:=by
 have hp:=jD.mp (show p∈frl n oc by rw[h];exact List.mem_cons_self)
 refine⟨hp.1,hp.2.1,hp.2.2,fun q q0 q1=> ?_⟩
 cases hq:oc q with
 |true=>rfl
 |false=>
  have hm:=jD.mpr ⟨q0,Int.lt_trans q1 hp.2.1,hq⟩
  have hs:(frl n oc).Pairwise (· < ·):=by
   unfold frl
   rw[List.pairwise_map]
   exact(List.pairwise_lt_range.sublist List.filter_sublist).imp fun h=>by omega
  rw[h] at hs hm
  rcases List.mem_cons.mp hm with e |e
  ·omega
  ·have:=(List.pairwise_cons.mp hs).1 q e
   omega
theorem AS.Ok.give {n:Nat}{s:AS}(h:s.Ok n) (k:bc) (c:Nat):(s.give k c).Ok n:=by
 have apart: ∀p,p∈(s.pl k).take c→p∉(s.pl k).drop c:=fun p h1 h2=>by
  have:=h.nd k
  rw[←List.take_append_drop c (s.pl k),List.nodup_append] at this
  exact this.2.2 p h1 p h2 rfl
 have sub: ∀j p,p∈(s.give k c).pl j→p∈s.pl j:=fun j p hp=>by
  have hp:p∈(if j=k then(s.pl k).take c else s.pl j):=hp
  split at hp
  ·rename_i e;rw[e];exact List.mem_of_mem_take hp
  ·exact hp
 refine⟨fun j p hp=> ?_,fun j i p h1 h2=>h.dj j i p (sub j p h1) (sub i p h2),fun j=> ?_⟩
 ·obtain⟨a,b,e⟩:=h.in_ j p (sub j p hp)
  refine⟨a,b,?_⟩
  show(if p∈(s.pl k).drop c then false else s.oc p)=true
  rw[if_neg,e]
  intro z
  have hp:p∈(if j=k then(s.pl k).take c else s.pl j):=hp
  split at hp
  ·exact apart p hp z
  ·rename_i e2;exact e2 (h.dj j k p hp (List.mem_of_mem_drop z))
 ·show(if j=k then(s.pl k).take c else s.pl j).Nodup
  split
  ·exact(List.take_sublist _ _).nodup (h.nd k)
  ·exact h.nd j
theorem AS.Ok.took {n:Nat}{s:AS}(h:s.Ok n) (k:bc) (c:Nat):(s.took n k c).Ok n:=by
 have fr: ∀p∈(frl n s.oc).take (c-(s.pl k).length),0≤p∧p<n∧s.oc p=false:=fun p hp=>jD.mp (List.mem_of_mem_take hp)
 have fnd:((frl n s.oc).take (c-(s.pl k).length)).Nodup:=(List.take_sublist _ _).nodup (vD _ _)
 unfold AS.took
 generalize (frl n s.oc).take (c-(s.pl k).length)=mo at fr fnd
 have cases_: ∀j p,p∈(if j=k then s.pl k++mo else s.pl j)→p∈s.pl j∨(j=k∧p∈mo):=fun j p hp=>by
  split at hp
  ·rename_i e
   rcases List.mem_append.mp hp with z |z
   ·rw[e];exact .inl z
   ·exact .inr ⟨e,z⟩
  ·exact .inl hp
 refine⟨fun j p hp=> ?_,fun j i p h1 h2=> ?_,fun j=> ?_⟩
 ·show 0≤p∧p<n∧(if p∈mo then true else s.oc p)=true
  rcases cases_ j p hp with z |⟨_,z⟩
  ·obtain⟨a,b,e⟩:=h.in_ j p z
   refine⟨a,b,?_⟩
   split
   ·rfl
   ·exact e
  ·exact⟨(fr p z).1,(fr p z).2.1,by rw[if_pos z]⟩
 ·rcases cases_ j p h1 with z |⟨e1,z⟩<;>rcases cases_ i p h2 with y |⟨e2,y⟩
  ·exact h.dj j i p z y
  ·have:=(h.in_ j p z).2.2;rw[(fr p y).2.2] at this;cases this
  ·have:=(h.in_ i p y).2.2;rw[(fr p z).2.2] at this;cases this
  ·rw[e1,e2]
 ·show(if j=k then s.pl k++mo else s.pl j).Nodup
  split
  ·rw[List.nodup_append]
   refine⟨h.nd k,fnd,fun a ha b hb z=> ?_⟩
   subst z
   have h1:=(h.in_ k a ha).2.2
   rw[(fr a hb).2.2] at h1
   cases h1
  ·exact h.nd j
abbrev Wl:=List (bc×Int)
def aV (s:AS) (W:Wl):AS:=W.foldl (fun s x=>s.give x.1 x.2.toNat) s
def iF:AS→Wl→List Int
 |_,[]=> []
 |s,x::r=>((s.pl x.1).drop x.2.toNat).reverse++iF (s.give x.1 x.2.toNat) r
def aS (n:Nat) (s:AS) (W:Wl):AS:=W.foldl (fun s x=>s.took n x.1 x.2.toNat) s
def bf (s:AS) (W:Wl):Int:=(W.map fun x=>x.2-((s.pl x.1).length:Int)).sum
theorem n9 (s:AS) (W:Wl) (x:bc×Int):aV s (W++[x])=(aV s W).give x.1 x.2.toNat:=by
 unfold aV
 rw[List.foldl_append]
 rfl
theorem uk: ∀(W:Wl) (s:AS) (x:bc×Int),iF s (W++[x])=iF s W++(((aV s W).pl x.1).drop x.2.toNat).reverse
 | [],s,x=>by show _++[]=[]++_;rw[List.append_nil,List.nil_append];rfl
 |y::r,s,x=>by
  show _++iF _ (r++[x])=(_++iF _ r)++_
  rw[uk r,List.append_assoc]
  rfl
theorem m6 (n:Nat) (s:AS) (W:Wl) (x:bc×Int):aS n s (W++[x])=(aS n s W).took n x.1 x.2.toNat:=by
 unfold aS
 rw[List.foldl_append]
 rfl
theorem cY {n:Nat}: ∀(W:Wl) {s:AS},s.Ok n→(aV s W).Ok n
 | [],_,h=>h
 |x::r,_,h=>cY r (h.give x.1 x.2.toNat)
theorem gz {n:Nat}: ∀(W:Wl) {s:AS},s.Ok n→(aS n s W).Ok n
 | [],_,h=>h
 |x::r,_,h=>gz r (h.took x.1 x.2.toNat)
theorem kS {s s':AS}: ∀{W:Wl},(∀x∈W,s'.pl x.1=s.pl x.1)→bf s' W=bf s W
 | [],_=>rfl
 |x::r,h=>by
  have ih:=kS (s:=s) (s':=s') (W:=r) fun y hy=>h y (List.mem_cons_of_mem _ hy)
  unfold bf at ih⊢
  rw[List.map_cons,List.sum_cons,List.map_cons,List.sum_cons,ih,h x List.mem_cons_self]
theorem va (s:AS) (V W:Wl):bf s (V++W)=bf s V+bf s W:=by
 unfold bf
 rw[List.map_append,List.sum_append]
theorem dD (s:AS) (x:bc×Int) (W:Wl):bf s (x::W)=(x.2-((s.pl x.1).length:Int))+bf s W:=by
 unfold bf
 rw[List.map_cons,List.sum_cons]
theorem HP {n:Nat}{s:AS}(h:s.Ok n) {V W:Wl}{x:bc×Int}(hx:0≤x.2) (hn:((V++x::W).map (·.1)).Nodup):
  bf (s.give x.1 x.2.toNat) (V++x::W)=bf s (V++x::W)+(((s.pl x.1).drop x.2.toNat).length:Int)∧
  (frl n (s.give x.1 x.2.toNat).oc).length=(frl n s.oc).length+((s.pl x.1).drop x.2.toNat).length:=by
 constructor
 ·rw[va,va,dD,dD]
  rw[List.map_append,List.map_cons,List.nodup_append] at hn
  have h1:bf (s.give x.1 x.2.toNat) V=bf s V:=kS fun y hy=>by
   show(if y.1=x.1 then _ else s.pl y.1)=_
   rw[if_neg fun z=>hn.2.2 y.1 (List.mem_map_of_mem hy) x.1 List.mem_cons_self z]
  have h2:bf (s.give x.1 x.2.toNat) W=bf s W:=kS fun y hy=>by
   show(if y.1=x.1 then _ else s.pl y.1)=_
   rw[if_neg fun(z:y.1=x.1)=>(List.nodup_cons.mp hn.2.1).1 (z▸List.mem_map.mpr ⟨y,hy,rfl⟩)]
  have h3:(s.give x.1 x.2.toNat).pl x.1=(s.pl x.1).take x.2.toNat:=if_pos rfl
  rw[h1,h2,h3,List.length_take,List.length_drop]
  omega
 ·exact Ke ((List.drop_sublist _ _).nodup (h.nd x.1)) fun p hp=>h.in_ x.1 p (List.mem_of_mem_drop hp)
theorem EH {n:Nat}{s:AS}(h:s.Ok n) {W:Wl}(hn:(W.map (·.1)).Nodup) (h0: ∀x∈W,0≤x.2): ∀i,i≤W.length→
  bf (aV s (W.take i)) W+((frl n s.oc).length:Int)=bf s W+((frl n (aV s (W.take i)).oc).length:Int)∧ ∀x∈W.take i,(((aV s (W.take i)).pl x.1).length:Int)≤x.2
 |0,_=>⟨rfl,fun x hx=>(nomatch hx)⟩
 |i+1,hi=>by
  obtain⟨e,le⟩:=EH h hn h0 i (by omega)
  have hx:W[i]? =some (W[i]'(by omega)):=List.getElem?_eq_getElem (by omega)
  have hsp:W=W.take i++W[i]'(by omega)::W.drop (i+1):=by
   have:=List.take_append_drop i W
   rw[List.drop_eq_getElem_cons (by omega)] at this
   exact this.symm
  have hm:=List.mem_of_getElem? hx
  generalize W[i]'(by omega)=x at hx hsp hm
  have etk:W.take (i+1)=W.take i++[x]:=by rw[List.take_add_one,hx];rfl
  have hst:=HP (cY (W.take i) h) (V:=W.take i) (x:=x) (W:=W.drop (i+1)) (h0 x hm) (by rw[←hsp];exact hn)
  rw[←hsp] at hst
  rw[etk,n9]
  refine⟨by omega,fun y hy=> ?_⟩
  show(((if y.1=x.1 then((aV s (W.take i)).pl x.1).take x.2.toNat else(aV s (W.take i)).pl y.1)).length:Int)≤y.2
  rcases List.mem_append.mp hy with z |z
  ·have hne:y.1≠x.1:=fun q=>by
    rw[hsp,List.map_append,List.map_cons,List.nodup_append] at hn
    exact hn.2.2 y.1 (List.mem_map.mpr ⟨y,z,rfl⟩) x.1 List.mem_cons_self q
   rw[if_neg hne]
   exact le y z
  ·rw[List.mem_singleton.mp z,if_pos rfl,List.length_take]
   have:=h0 x hm
   omega
theorem IQ {n:Nat}{s:AS}{k:bc}{c:Nat}(h:c-(s.pl k).length≤(frl n s.oc).length):(frl n (s.took n k c).oc).length=(frl n s.oc).length-(c-(s.pl k).length):=by
 show(frl n fun p=>if p∈(frl n s.oc).take (c-(s.pl k).length) then true else s.oc p).length=_
 rw[BB,List.length_drop]
theorem DS {n:Nat}{s:AS}{W:Wl}(hn:(W.map (·.1)).Nodup) (h0: ∀x∈W,((s.pl x.1).length:Int)≤x.2) (hf:bf s W≤((frl n s.oc).length:Int)): ∀i,i≤W.length→
  bf (aS n s (W.take i)) (W.drop i)≤((frl n (aS n s (W.take i)).oc).length:Int)∧ ∀x∈W.drop i,(aS n s (W.take i)).pl x.1=s.pl x.1
 |0,_=>⟨hf,fun _ _=>rfl⟩
 |i+1,hi=>by
  obtain⟨e,le⟩:=DS hn h0 hf i (by omega)
  have hx:W[i]? =some (W[i]'(by omega)):=List.getElem?_eq_getElem (by omega)
  have hd:W.drop i=W[i]'(by omega)::W.drop (i+1):=List.drop_eq_getElem_cons (by omega)
  have hm:=List.mem_of_getElem? hx
  generalize W[i]'(by omega)=x at hx hd hm
  have etk:W.take (i+1)=W.take i++[x]:=by rw[List.take_add_one,hx];rfl
  rw[hd] at e le
  rw[etk,m6]
  have hnd:(x.1::(W.drop (i+1)).map (·.1)).Nodup:=by
   have:=(List.drop_sublist i (W.map (·.1))).nodup hn
   rw[←List.map_drop,hd,List.map_cons] at this
   exact this
  have oth: ∀y∈W.drop (i+1),((aS n s (W.take i)).took n x.1 x.2.toNat).pl y.1=(aS n s (W.take i)).pl y.1:=fun y hy=>
   if_neg fun(z:y.1=x.1)=>(List.nodup_cons.mp hnd).1 (z▸List.mem_map.mpr ⟨y,hy,rfl⟩)
  have h1:=le x List.mem_cons_self
  have h2:=h0 x hm
  have hge:0≤bf (aS n s (W.take i)) (W.drop (i+1)):=by
   have: ∀U:Wl,(∀y∈U,y∈W∧(aS n s (W.take i)).pl y.1=s.pl y.1)→0≤bf (aS n s (W.take i)) U:=by
    intro U
    induction U with
    |nil=>intro _;exact Int.le_refl _
    |cons y r ih=>
     intro hU
     rw[dD]
     have a:=ih fun z hz=>hU z (List.mem_cons_of_mem _ hz)
     obtain⟨b,c⟩:=hU y List.mem_cons_self
     have d:=h0 y b
     rw[c]
     omega
   exact this _ fun y hy=>⟨List.mem_of_mem_drop hy,le y (List.mem_cons_of_mem _ hy)⟩
  rw[dD,h1] at e
  refine⟨?_,fun y hy=>by rw[oth y hy];exact le y (List.mem_cons_of_mem _ hy)⟩
  rw[kS oth,IQ (by rw[h1];omega),h1]
  omega
theorem HQ {s:AS}{k:bc}{c d:Nat}(h1:(s.pl k).length≤c) (h2:(s.pl k).length≤d):s.give k c=s.give k d:=by
 unfold AS.give
 rw[List.take_of_length_le h1,List.take_of_length_le h2,List.drop_eq_nil_of_le h1,List.drop_eq_nil_of_le h2]
theorem qx {n:Nat}{ps:List Int}(h:ps.Nodup) (hb: ∀p∈ps,0≤p∧p<n):ps.length≤n:=by
 have:=Gz (l:=ps) (m:=(List.range n).map fun(i:Nat)=>(i:Int)) h fun p hp=>by
  obtain⟨h1,h2⟩:=hb p hp
  exact List.mem_map.mpr ⟨p.toNat,List.mem_range.mpr (by omega),by omega⟩
 rw[List.length_map,List.length_range] at this
 exact this
def WAt (K:PySem.W.Frag) (H:Hp) (ts:List V) (W:Wl):Prop:=Paired (fun(v:V) (x:bc×Int)=> ∃b kv,v=.ref b∧SqT K H b [kv,.int x.2]∧cq K H x.1 kv) ts W
theorem WAt.get {K:PySem.W.Frag}{H:Hp}: ∀{ts:List V}{W:Wl},WAt K H ts W→ ∀(i:Nat) (v:V),ts[i]? =some v→ ∃x,W[i]? =some x∧ ∃b kv,v=.ref b∧SqT K H b [kv,.int x.2]∧cq K H x.1 kv
 |_,_,.nil,i,v,h=>by simp at h
 |_,_,.cons h t,0,v,e=>by
  simp at e
  subst e
  exact⟨_,rfl,h⟩
 |_,_,.cons h t,i+1,v,e=>by
  obtain⟨x,h1,h2⟩:=WAt.get t i v (by simpa using e)
  exact⟨x,by simpa using h1,h2⟩
theorem Fz {K:PySem.W.Frag}{od td:Addr}{H H':Hp}{kvs:List (Key×V)}{φ:Heap→Prop}(h:Off od td H H') (h1:H od=some (.dK kvs)) (h2:H td=some (.ext φ)) {b:Addr}{xs:List V}(e:SqT K H b xs):SqT K H' b xs:=by
 have kp:Kp H H':=⟨fun u xs e=>h.tp h1 h2 e,fun u o ⟨o',e⟩=>⟨o',h u _ e (fun z=>by rw[z,h1] at e;cases e) (fun z=>by rw[z,h2] at e;cases e)⟩⟩
 exact kp.tq e
theorem dR.list {P:Program}{w:World}{K:PySem.W.Frag}{C:Addr}{H:Hp}{t od td lb:Addr}{n:Nat}{ow:List (Key×V)}{tk:List aW}{m:List Pl}{bs cs:List V}(h:dR P w K C H t od td n ow tk m) (hl:H lb=some (.lst bs)) (nl: ∀x∈tk,x.2.2≠.ref lb):dR P w K C (upd H lb (.lst cs)) t od td n ow tk m:=by
 obtain⟨dx,hI⟩:=h.ins
 have kp:Kp H (upd H lb (.lst cs)):=.lst hl
 refine⟨⟨dx,by rw[aj (fun z=>by rw[z,hl] at hI;cases hI)];exact hI⟩,by rw[aj (fun z=>by have e:=h.own;rw[z,hl] at e;cases e)];exact h.own,by rw[aj (fun z=>by have e:=h.tak;rw[z,hl] at e;cases e)];exact h.tak,fun x hx=> ?_,?_⟩
 ·have:=h.keys x hx
  cases e:x.1 with
  |inl k=>rw[e] at this;exact this
  |inr ks=>rw[e] at this;obtain⟨b,h1,h2⟩:=this;exact⟨b,h1,kp.tq h2⟩
 ·have go: ∀{tk:List aW}{m:List Pl},cF H tk m→(∀x∈tk,x.2.2≠.ref lb)→cF (upd H lb (.lst cs)) tk m:=by
   intro tk m h nl
   induction h with
   |nil=>exact .nil
   | @cons x y xs ys r t ih=>
    obtain⟨e1,e2,l,e3,e4⟩:=r
    refine .cons ⟨e1,e2,l,e3,?_⟩ (ih fun z hz=>nl z (List.mem_cons_of_mem _ hz))
    rw[aj (fun z=>nl x List.mem_cons_self (by rw[e3,z]))]
    exact e4
  exact go h.lsts nl
theorem cF.at_ {H:Hp}: ∀{tk:List aW}{m:List Pl},cF H tk m→ ∀(i:Nat) (x:aW),tk[i]? =some x→ ∃y:Pl,m[i]? =some y∧ ∃l,x.2.2=.ref l∧H l=some (.lst (y.2.2.map V.int))
 |_,_,.nil,i,x,h=>by simp at h
 |_,_,.cons h t,0,x,e=>by
  simp at e
  subst e
  exact⟨_,rfl,h.2.2⟩
 |_,_,.cons h t,i+1,x,e=>by
  obtain⟨y,h1,h2⟩:=cF.at_ t i x (by simpa using e)
  exact⟨y,by simpa using h1,h2⟩
theorem Kb (ps:List Int): ∀(ow:List (Key×V)),(xb ow ps).length≤ow.length:=by
 induction ps with
 |nil=>intro ow;exact Nat.le_refl _
 |cons p r ih=>intro ow;exact Nat.le_trans (ih _) (EN ow (.inl p))
theorem yY {β γ:Type}(ys:List (bc×β×γ)) (k j:bc) (b:β) (v:γ):bu (cn ys k b v) j=if j=k then some v else bu ys j:=by
 have hmap: ∀zs:List (bc×β×γ),bu (zs.map fun y=>if y.1=k then(y.1,y.2.1,v) else y) j=(bu zs j).map fun x=>if j=k then v else x:=by
  intro zs
  induction zs with
  |nil=>rfl
  |cons z r ih=>
   unfold bu at ih⊢
   rw[List.map_cons,List.find?_cons,List.find?_cons]
   have hz:(if z.1=k then(z.1,z.2.1,v) else z).1=z.1:=by split<;>rfl
   rw[hz]
   by_cases e:z.1=j
   ·rw[decide_eq_true e]
    show some (if z.1=k then(z.1,z.2.1,v) else z).2.2=some (if j=k then v else z.2.2)
    rw[e]
    split<;>rfl
   ·rw[decide_eq_false e];exact ih
 have hsn: ∀zs:List (bc×β×γ),bu zs k=none→bu (zs++[(k,b,v)]) j=if j=k then some v else bu zs j:=by
  intro zs hz
  unfold bu at hz⊢
  rw[List.find?_append]
  by_cases e:j=k
  ·subst e
   rw[if_pos rfl,Option.map_eq_none_iff.mp hz]
   simp
  ·rw[if_neg e]
   have:List.find? (fun y:bc×β×γ=>decide (y.1=j)) [(k,b,v)]=none:=by simp[Ne.symm e]
   rw[this,Option.or_none]
 unfold cn
 by_cases hc:(bu ys k).isSome=true
 ·rw[if_pos hc,hmap]
  by_cases e:j=k
  ·subst e
   obtain⟨x,hx⟩:=Option.isSome_iff_exists.mp hc
   rw[hx,if_pos rfl]
   simp
  ·rw[if_neg e]
   simp[e]
 ·rw[if_neg hc]
  exact hsn ys (by simpa using hc)
def uu (n:Nat) (s:AS) (ow:List (Key×V)) (m:List Pl):Prop:=(∀k,a9 m k=s.pl k)∧ ∀p:Int,0≤p→p<n→(bh ow (.inl p)).isSome=s.oc p
theorem d6 (m:List Pl) (k j:bc) (kv:V) (ps:List Int):a9 (cn m k kv ps) j=if j=k then ps else a9 m j:=by
 unfold a9
 rw[yY]
 split<;>rfl
theorem uu.free {n:Nat}{s:AS}{ow:List (Key×V)}{m:List Pl}(h:uu n s ow m):fZ n ow=frl n s.oc:=by
 unfold fZ frl
 congr 1
 refine List.filter_congr fun i hi=> ?_
 have:=List.mem_range.mp hi
 rw[←h.2 i (by omega) (by omega)]
 cases bh ow (.inl (i:Int))<;>rfl
theorem uu.give {n:Nat}{s:AS}{ow:List (Key×V)}{m:List Pl}(h:uu n s ow m) (k:bc) (kv:V) (c:Nat):uu n (s.give k c) (xb ow ((s.pl k).drop c).reverse) (cn m k kv ((s.pl k).take c)):=by
 refine⟨fun j=> ?_,fun p p0 p1=> ?_⟩
 ·rw[d6,h.1]
  rfl
 ·rw[uP]
  show _=if p∈(s.pl k).drop c then false else s.oc p
  by_cases hp:p∈(s.pl k).drop c
  ·rw[if_pos hp,if_pos (List.mem_reverse.mpr hp)];rfl
  ·rw[if_neg hp,if_neg (fun z=>hp (List.mem_reverse.mp z))];exact h.2 p p0 p1
theorem uu.took {n:Nat}{s:AS}{ow:List (Key×V)}{m:List Pl}(h:uu n s ow m) (k:bc) (kv:V) (c:Nat):uu n (s.took n k c) (pO ow kv ((frl n s.oc).take (c-(s.pl k).length))) (cn m k kv (s.pl k++(frl n s.oc).take (c-(s.pl k).length))):=by
 refine⟨fun j=> ?_,fun p p0 p1=> ?_⟩
 ·rw[d6,h.1]
  rfl
 ·rw[xH]
  show _=if p∈(frl n s.oc).take (c-(s.pl k).length) then true else s.oc p
  split
  ·rfl
  ·exact h.2 p p0 p1
theorem bC.refl (H:Hp) (tk:List aW):bC H tk tk:=fun x hx=> .inl ⟨x,hx,rfl⟩
theorem bC.trans {H H1:Hp}{tk tk1 tk2:List aW}(a:bC H tk tk1) (b:bC H1 tk1 tk2) (h: ∀l,H1 l=none→H l=none):bC H tk tk2:=fun x hx=>by
 rcases b x hx with⟨y,hy,e⟩ |⟨l,e,hl⟩
 ·rcases a y hy with⟨z,hz,e2⟩ |⟨l,e2,hl⟩
  ·exact .inl ⟨z,hz,e2.trans e⟩
  ·exact .inr ⟨l,e▸e2,hl⟩
 ·exact .inr ⟨l,e,h l hl⟩
theorem dr {α:Type}{l:List α}{i:Nat}{x:α}(h:l[i]? =some x):l.take (i+1)=l.take i++[x]:=by
 rw[List.take_add_one,h]
 rfl
theorem wz {n:Nat}: ∀(W:Wl) {s:AS},s.Ok n→(iF s W).length≤n*W.length
 | [],_,_=>Nat.zero_le _
 |x::r,s,h=>by
  show(_++iF _ r).length≤n*(r.length+1)
  have ih:=wz r (h.give x.1 x.2.toNat)
  have h1:=qx (h.nd x.1) fun p hp=>⟨(h.in_ x.1 p hp).1,(h.in_ x.1 p hp).2.1⟩
  rw[List.length_append,List.length_reverse,List.length_drop,Nat.mul_add,Nat.mul_one]
  omega
def OwS (R:bc→V→Prop) (n:Nat) (s:AS) (ow:List (Key×V)):Prop:= ∀(p:Int) (v:V),0≤p→p<n→bh ow (.inl p)=some v→ ∃k,p∈s.pl k∧R k v
theorem OwS.give {R:bc→V→Prop}{n:Nat}{s:AS}{ow:List (Key×V)}(h:OwS R n s ow) (k:bc) (c:Nat):OwS R n (s.give k c) (xb ow ((s.pl k).drop c).reverse):=by
 intro p v p0 p1 e
 rw[uP] at e
 split at e
 ·cases e
 ·rename_i hp
  obtain⟨j,hj,r⟩:=h p v p0 p1 e
  refine⟨j,?_,r⟩
  show p∈if j=k then(s.pl k).take c else s.pl j
  split
  ·rename_i ej
   rw[ej,←List.take_append_drop c (s.pl k),List.mem_append] at hj
   exact hj.resolve_right fun z=>hp (List.mem_reverse.mpr z)
  ·exact hj
theorem OwS.took {R:bc→V→Prop}{n:Nat}{s:AS}{ow:List (Key×V)}(h:OwS R n s ow) (k:bc) {kv:V}(hk:R k kv) (c:Nat):OwS R n (s.took n k c) (pO ow kv ((frl n s.oc).take (c-(s.pl k).length))):=by
 intro p v p0 p1 e
 rw[xH] at e
 split at e
 ·rename_i hp
  cases e
  refine⟨k,?_,hk⟩
  show p∈if k=k then s.pl k++(frl n s.oc).take (c-(s.pl k).length) else s.pl k
  rw[if_pos rfl]
  exact List.mem_append_right _ hp
 ·obtain⟨j,hj,r⟩:=h p v p0 p1 e
  refine⟨j,?_,r⟩
  show p∈if j=k then s.pl k++(frl n s.oc).take (c-(s.pl k).length) else s.pl j
  split
  ·rename_i ej
   rw[ej] at hj
   exact List.mem_append_left _ hj
  ·exact hj
theorem OwS.mono {R R':bc→V→Prop}{n:Nat}{s:AS}{ow:List (Key×V)}(h:OwS R n s ow) (f: ∀k v,R k v→R' k v):OwS R' n s ow:=fun p v p0 p1 e=>let⟨k,h1,h2⟩:=h p v p0 p1 e;⟨k,h1,f k v h2⟩
inductive I0 (P:Program) (w:World) (K:PySem.W.Frag) (C N:Addr) (vs:List V) (H:Hp) (Q:VK) (E:XK):Prop
 |mk (t od td wl:Addr) (n:Nat) (ow:List (Key×V)) (tk:List aW) (m:List Pl) (S:AS) (W:Wl) (ts:List V) (_:vs=[.ref t,.ref wl]) (_:dR P w K C H t od td n ow tk m) (_:uu n S ow m) (_:OwS (cq K H) n S ow) (_:S.Ok n) (_:H wl=some (.lst ts)) (_:WAt K H ts W) (_:(∀x∈W,0≤x.2)) (_:(W.map (·.1)).Nodup) (_:W.length≤5) (_:n≤1000) (_:tk.length≤5000) (_:ow.length≤500000) (_:(bf S W≤((frl n S.oc).length:Int)→ ∀(l:Addr) (ow':List (Key×V)) (tk':List aW) (m':List Pl) H',Off od td H H'→dR P w K C H' t od td n ow' tk' m'→uu n (aS n (aV S W) W) ow' m'→OwS (cq K H) n (aS n (aV S W) W) ow'→H l=none→H' l=some (.lst ((iF S W).map V.int))→bC H tk tk'→(∀x∈tk',x.2.2≠.ref l)→tk'.length≤tk.length+10→ow'.length≤ow.length+5000→Q (.ref l) H')) (_:(((frl n S.oc).length:Int)<bf S W→ ∀H',am H H'→E (.ref N) none H'))
section
variable {P:Program}{w:World}{K:PySem.W.Frag}{mg:Str→Option Value}{base:Heap}{a:Adr}
theorem qI (T:Txt K mg a):bd P w K mg base (CXe P w) 3 a.sU a.eN ["self","wanted"] (I0 P w K a.bE a.oU):=by
 refine T.C0.okE cD (fun vs H Q E h=> ?_) (fun cdv A outer s H vs Q E hr h=> ?_)
 ·obtain⟨t,od,td,wl,n,ow,tk,m,S,W,ts,rfl,_⟩:=h
  rfl
 ·obtain⟨t,od,td,wl,n,ow,tk,m,S,W,ts,rfl,hT,hS,hR,hO,hwl,hW,hW0,hWn,hW5,hn,htk,hol,q,qe⟩:=h
  refine⟨_,(ag (aO (i:=2) cD.nd rfl (.inl rfl) (az (Id K rfl rfl) (by rfl) T.OW L2.KB (ad (dw ["self","wanted","more","back","owner","number"] [] [4,5] [4,5] (ak jB) rfl rfl rfl (by decide+kernel) (by decide+kernel) (FX _ 4 5)
  (ce K rfl (pv 1)) (fun cl C s₀ H₀ ex=>⟨(eX K rfl rfl (bo (aF (i:=4) (show List.Nodup ((["self","wanted","more","back","owner","number"]:List PySem.Str)++([]:List PySem.Str)) by decide+kernel) rfl (.inl rfl)) (bo (aF (i:=5) (show List.Nodup ((["self","wanted","more","back","owner","number"]:List PySem.Str)++([]:List PySem.Str)) by decide+kernel) rfl (.inl rfl)) eW))),cm,(aA Cw (pv 5) (az (aK K rfl) (by rfl) T.bK L2.aQ (ad (bD (pv 0) T.bg T.cX ((cW (P:=P) (w:=w) T).mono (by decide)) hr T.dy .nil aD (ad (pv 4) af)) af)))⟩)) af)))
 (ag (a0 (aE Bw (pv 2) (az (aK K rfl) (by rfl) T.bK L2.aQ (ad (Ei (pv 0) T.bg T.qM ((qJ (P:=P) (w:=w) T).mono (by decide)) hr T.ur .nil aD) af)) (aM _)) (ah (Eh T.BI rfl T.EB rfl Ee (ad aL af))) aH)
 (ag (aO (i:=3) cD.nd rfl (.inl rfl) (b7 af))
 (ag (PS.nox (cV PassesOwn.never rfl (ce K rfl (pv 1)) (eX K rfl rfl (bo (aF (i:=4) cD.nd rfl (.inl rfl)) (bo (aF (i:=5) cD.nd rfl (.inl rfl)) eW)))
 (ah (aX (pE K rfl PySem.F.plainAttrs_list PySem.F.slot_list_extend PySem.F.type_list_extend Hu (pv 3) (ad (bD (pv 0) T.bg T.rN ((rL (P:=P) (w:=w) T).mono (by decide)) hr T.uq .nil aD (ad (pv 4) (ad (pv 5) af))) af))))))
 (ag (PS.nox (cV PassesOwn.never rfl (ce K rfl (pv 1)) (eX K rfl rfl (bo (aF (i:=4) cD.nd rfl (.inl rfl)) (bo (aF (i:=5) cD.nd rfl (.inl rfl)) eW)))
 (ah (aX (bD (pv 0) T.bg T.AO ((AL (P:=P) (w:=w) T).mono (by decide)) hr T.Dv .nil aD (ad (pv 4) (ad (pv 5) af)))))))
 (ah (aI (pv 3)))))))),?_⟩
  obtain⟨dx,hI⟩:=hT.ins
  have htl:ts.length=W.length:=Paired.length hW
  refine⟨_,rfl,wl,rfl,⟨_,SqL.of hwl⟩,fun D hD=> ?_⟩
  refine mH (K:=K) (a:=wl) (xs:=ts) (fun i acc H'=>am H H'∧H' D=some (.lst acc)∧acc=((W.take i).map fun x=>x.2-((S.pl x.1).length:Int)).map V.int) ⟨al (am.refl _) hD,ae,rfl⟩ (fun i acc H' _ h=>SqL.of (h.1 _ _ hwl)) ?_ ?_
  ·rintro i v acc H1 hv ⟨s1,hD1,rfl⟩
   have hi:i<ts.length:=(List.getElem?_eq_some_iff.mp hv).1
   obtain⟨x,hx,b,kv,rfl,hb,hk⟩:=hW.get i v hv
   refine⟨b,_,rfl,am.tseq s1 hb,rfl,_,_,rfl,aq ⟨_,_,rfl,aq ⟨rfl,pj (cL ?_)⟩⟩⟩
   refine⟨_,rfl,_,rfl,t,dx,_,rfl,s1 _ _ hI,rfl,_,rfl,t,od,td,n,ow,tk,m,x.1,kv,rfl,hT.same s1,bN s1 hk,fun lp H2 s2 lpn hlp=> ?_⟩
   refine⟨_,_,rfl,.inl ⟨_,SqL.of hlp,rfl⟩,_,_,rfl,rfl,s2 _ _ hD1,by rw[List.length_map,List.length_map,List.length_take,sizeLine_eq];omega,lf hi ⟨br (s1.trans s2) hD,ae,?_⟩⟩
   rw[dr hx,List.map_append,List.map_append,hS.1,List.length_map]
   rfl
  ·rintro acc H1 ⟨s1,hD1,rfl⟩
   rw[List.take_of_length_le (by omega)] at hD1
   refine⟨D,_,rfl,.inl (SqL.of hD1),aq ?_⟩
   have hT1:=hT.same s1
   refine⟨_,rfl,_,rfl,t,dx,_,rfl,s1 _ _ hI,rfl,t,od,td,n,ow,tk,m,rfl,hT1,hn,fun lf0 H2 s2 lfn hlf=> ?_⟩
   rw[hS.free] at hlf
   refine⟨_,_,rfl,.inl ⟨_,SqL.of hlf,rfl⟩,_,_,rfl,rfl,_,rfl,?_⟩
   have s12:=s1.trans s2
   rw[List.length_map]
   refine PN (fun e=>⟨aC (show _≤65536 by simp),qe (of_decide_eq_true e) H2 s12⟩) (fun e=>nx_ ⟨aC (show _≤65536 by simp),fun lb hlb=>aq ?_⟩)
   have q:=q (Int.not_lt.mp (of_decide_eq_false e))
   clear e qe
   have hT2:=hT.same s12
   have s3:=al (o:=.lst []) (am.refl H2) hlb
   have hlb3:upd H2 lb (.lst []) lb=some (.lst []):=ae
   have hlbn:H lb=none:=s12.free hlb
   generalize upd H2 lb (.lst [])=H3 at s3 hlb3⊢
   have hwl2:=s12 _ _ hwl
   refine⟨_,rfl,wl,rfl,⟨_,SqL.of (s3 _ _ hwl2)⟩,?_⟩
   have hlbod:lb≠od:=fun z=>by have e:=hT2.own;rw[←z,hlb] at e;cases e
   have hlbtd:lb≠td:=fun z=>by have e:=hT2.tak;rw[←z,hlb] at e;cases e
   have nwl1:wl≠od:=fun z=>by have e:=hT2.own;rw[←z,hwl2] at e;cases e
   have nwl2:wl≠td:=fun z=>by have e:=hT2.tak;rw[←z,hwl2] at e;cases e
   have nwl:wl≠od∧wl≠td:=⟨nwl1,nwl2⟩
   have hnl0: ∀x∈tk,x.2.2≠.ref lb:=fun x hx z=>by
    obtain⟨i,hi⟩:=List.mem_iff_getElem?.mp hx
    obtain⟨y,_,l,e3,e4⟩:=cF.at_ hT2.lsts i x hi
    rw[e3] at z
    cases z
    rw[hlb] at e4
    cases e4
   have new0:bC H2 tk tk:=bC.refl _ _
   have fresh: ∀H',Off od td H2 H'→H' od≠none→H' td≠none→ ∀l,H' l=none→H2 l=none:=fun H' o h1 h2 l hl=>jW o h1 h2 hl
   refine eC (xs:=ts) (fun i σ H'=>Ex3 fun ow' tk' m'=>Pp (Off od td H2 H') (dR P w K a.bE H' t od td n ow' tk' m') ((uu n (aV S (W.take i)) ow' m'∧OwS (cq K H) n (aV S (W.take i)) ow')) (bC H2 tk tk') (tk'.length≤tk.length+i) (ow'.length≤ow.length) ((∀x∈tk',x.2.2≠.ref lb)) (H' lb=some (.lst ((iF S (W.take i)).map V.int))) ((∀j x,j<i→W[j]? =some x→((a9 m' x.1).length:Int)≤x.2)) (Ex3 fun v2 v4 v5=>σ=[some (.ref t),some (.ref wl),v2,some (.ref lb),v4,v5]))
    ⟨ow,tk,m,.of s3,hT2.same s3,⟨hS,hR⟩,new0,Nat.le_refl _,Nat.le_refl _,hnl0,hlb3,fun j x hj=>absurd hj (Nat.not_lt_zero _),_,_,_,rfl⟩ (fun i σ H' _ h=>by obtain⟨_,_,_,o,_⟩:=h;exact SqL.of (o _ _ hwl2 nwl.1 nwl.2)) ?_ ?_
   ·rintro i v σ H4 hv ⟨ow',tk',m',o4,hT4,⟨hS4,hR4⟩,new4,htk4,how4,hnl4,hbs4,hle4,v2,v4,v5,rfl⟩
    have hi:i<ts.length:=(List.getElem?_eq_some_iff.mp hv).1
    obtain⟨x,hx,b,kv,rfl,hb,hk⟩:=hW.get i v hv
    have hx0:=hW0 x (List.mem_of_getElem? hx)
    obtain⟨dx4,hI4⟩:=hT4.ins
    have oH4:Off od td H H4:=(Off.of s12).trans o4
    have hO4:=cY (W.take i) hO
    have etk:=dr hx
    have epl:=hS4.1 x.1
    have hpl:(a9 m' x.1).length≤n:=by rw[epl];exact qx (hO4.nd x.1) fun p hp=>⟨(hO4.in_ x.1 p hp).1,(hO4.in_ x.1 p hp).2.1⟩
    have hbl:=wz (W.take i) hO
    have hbl2:n*(W.take i).length≤1000*5:=Nat.mul_le_mul hn (by rw[List.length_take];omega)
    refine⟨b,_,rfl,Fz oH4 hT.own hT.tak hb,rfl,_,_,rfl,aq ⟨_,_,rfl,aq ⟨rfl,?_⟩⟩⟩
    refine⟨_,rfl,.inl ⟨rfl,_,SqL.of hbs4⟩,_,rfl,t,dx4,_,rfl,hI4,rfl,_,rfl,_,rfl,t,od,td,n,ow',tk',m',x.1,kv,x.2,rfl,hT4,cr oH4 hT.own hT.tak hk,hx0,by omega,fun p hp=> ?_,by rw[epl];exact hO4.nd x.1,fun l tk5 H5 o5 ln5 hl5 htk5 new5 hT5=> ?_⟩
    ·rw[epl] at hp
     obtain⟨p0,p1,p2⟩:=hO4.in_ x.1 p (List.mem_of_mem_drop hp)
     rw[hS4.2 p p0 p1];exact p2
    ·have hlb5:=o5 _ _ hbs4 hlbod hlbtd
     have hnl5: ∀y∈tk5,y.2.2≠.ref lb:=fun y hy z=>by
      rcases new5 y hy with⟨y',hy',e⟩ |⟨l',e,hn'⟩
      ·exact hnl4 y' hy' (e.trans z)
      ·rw[e] at z
       cases z
       rw[hbs4] at hn'
       cases hn'
     have hgl:(xb ow' ((a9 m' x.1).drop x.2.toNat).reverse).length≤ow'.length:=Kb _ _
     have new45:bC H2 tk tk5:=new4.trans new5 (fresh H4 o4 (by rw[hT4.own];simp) (by rw[hT4.tak];simp))
     have hS5:=hS4.give x.1 kv x.2.toNat
     rw[epl] at hl5 hT5 hgl
     refine⟨lb,l,_,_,rfl,rfl,hlb5,hl5,by rw[List.length_map,List.length_map,List.length_reverse,List.length_drop,sizeLine_eq];rw[epl] at hpl;omega,?_⟩
     refine⟨_,tk5,_,fun c o e h1 h2=> ?_,hT5.list hlb5 hnl5,by rw[etk,n9];exact⟨hS5,hR4.give x.1 x.2.toNat⟩,new45,by omega,by omega,hnl5,?_,fun j y hj hy=> ?_,_,_,_,rfl⟩
     ·rw[aj (fun z=>by rw[z,hlb] at e;cases e)]
      exact o5 _ _ (o4 c o e h1 h2) h1 h2
     ·rw[etk,uk,List.map_append]
      exact ae
     ·rw[d6]
      split
      ·rename_i e
       rcases Nat.lt_or_ge j i with hji |hji
       ·have h1:=hle4 j y hji hy
        rw[e,epl] at h1
        rw[List.length_take]
        omega
       ·have:j=i:=by omega
        subst this
        rw[hx] at hy
        cases hy
        rw[List.length_take]
        omega
      ·rename_i e
       rcases Nat.lt_or_ge j i with hji |hji
       ·exact hle4 j y hji hy
       ·have:j=i:=by omega
        subst this
        rw[hx] at hy
        cases hy
        exact absurd rfl e
   ·rintro σ H4 ⟨ow',tk',m',o4,hT4,⟨hS4,hR4⟩,new4,htk4,how4,hnl4,hbs4,hle4,v2,v4,v5,rfl⟩
    rw[List.take_of_length_le (by omega)] at hS4 hR4 hbs4
    have hO4:=cY W hO
    refine⟨_,rfl,wl,rfl,⟨_,SqL.of (o4 _ _ hwl2 nwl.1 nwl.2)⟩,?_⟩
    refine eC (xs:=ts) (fun i σ H'=>Ex3 fun ow5 tk5 m5=>Pp (Off od td H2 H') (dR P w K a.bE H' t od td n ow5 tk5 m5) ((uu n (aS n (aV S W) (W.take i)) ow5 m5∧OwS (cq K H) n (aS n (aV S W) (W.take i)) ow5)) (bC H2 tk tk5) ((∀x∈tk5,x.2.2≠.ref lb)) (H' lb=some (.lst ((iF S W).map V.int))) (tk5.length≤tk'.length+i) (ow5.length≤ow'.length+1000*i) ((∀j x,i≤j→W[j]? =some x→((a9 m5 x.1).length:Int)≤x.2)) (Ex2 fun v4 v5=>σ=[some (.ref t),some (.ref wl),v2,some (.ref lb),v4,v5]))
     ⟨ow',tk',m',o4,hT4,⟨hS4,hR4⟩,new4,hnl4,hbs4,Nat.le_refl _,Nat.le_refl _,fun j x _ hx=>hle4 j x (by rw[htl];exact(List.getElem?_eq_some_iff.mp hx).1) hx,_,_,rfl⟩ (fun i σ H' _ h=>by obtain⟨_,_,_,o,_⟩:=h;exact SqL.of (o _ _ hwl2 nwl.1 nwl.2)) ?_ ?_
    ·rintro i v σ H5 hv ⟨ow5,tk5,m5,o5,hT5,⟨hS5,hR5⟩,new5,hnl5,hbs5,htk5,how5,hle5,v4,v5,rfl⟩
     have hi:i<ts.length:=(List.getElem?_eq_some_iff.mp hv).1
     obtain⟨x,hx,b,kv,rfl,hb,hk⟩:=hW.get i v hv
     have hx0:=hW0 x (List.mem_of_getElem? hx)
     obtain⟨dx5,hI5⟩:=hT5.ins
     have oH5:Off od td H H5:=(Off.of s12).trans o5
     have hO5:=gz (W.take i) hO4
     have etk:=dr hx
     have epl:=hS5.1 x.1
     have hpl:(a9 m5 x.1).length≤n:=by rw[epl];exact qx (hO5.nd x.1) fun p hp=>⟨(hO5.in_ x.1 p hp).1,(hO5.in_ x.1 p hp).2.1⟩
     have hle5i:=hle5 i x (Nat.le_refl _) hx
     refine⟨b,_,rfl,Fz oH5 hT.own hT.tak hb,rfl,_,_,rfl,aq ⟨_,_,rfl,aq ⟨rfl,?_⟩⟩⟩
     refine⟨_,rfl,t,dx5,_,rfl,hI5,rfl,_,rfl,_,rfl,t,od,td,n,ow5,tk5,m5,x.1,kv,x.2,rfl,hT5,cr oH5 hT.own hT.tak hk,hn,hle5i,by omega,by omega,by omega,fun tk6 H6 o6 htk6 new6 hT6=> ?_⟩
     have eq6:(x.2-((a9 m5 x.1).length:Int)).toNat=x.2.toNat-(((aS n (aV S W) (W.take i)).pl x.1).length):=by rw[←epl];omega
     rw[eq6,hS5.free,epl] at hT6
     have hgl:=BA kv ((frl n (aS n (aV S W) (W.take i)).oc).take (x.2.toNat-(((aS n (aV S W) (W.take i)).pl x.1).length))) ow5
     have htl3:((frl n (aS n (aV S W) (W.take i)).oc).take (x.2.toNat-(((aS n (aV S W) (W.take i)).pl x.1).length))).length≤1000:=by
      have:=Kf n (aS n (aV S W) (W.take i)).oc
      rw[List.length_take];omega
     have hS6:=hS5.took x.1 kv x.2.toNat
     have hnl6: ∀y∈tk6,y.2.2≠.ref lb:=fun y hy z=>by
      rcases new6 y hy with⟨y',hy',e⟩ |⟨l',e,hn'⟩
      ·exact hnl5 y' hy' (e.trans z)
      ·rw[e] at z
       cases z
       rw[hbs5] at hn'
       cases hn'
     refine⟨_,tk6,_,o5.trans o6,hT6,by rw[etk,m6];exact⟨hS6,hR5.took x.1 hk x.2.toNat⟩,new5.trans new6 (fresh H5 o5 (by rw[hT5.own];simp) (by rw[hT5.tak];simp)),hnl6,o6 _ _ hbs5 hlbod hlbtd,by omega,by omega,fun j y hj hy=> ?_,_,_,rfl⟩
     rw[d6,if_neg (fun z=> ?_)]
     ·exact hle5 j y (by omega) hy
     ·have e1:(W.map (·.1))[j]? =some x.1:=by rw[List.getElem?_map,hy,←z];rfl
      have e2:(W.map (·.1))[i]? =some x.1:=by rw[List.getElem?_map,hx];rfl
      have:=(List.getElem?_inj (List.getElem?_eq_some_iff.mp e1).1 hWn).mp (e1.trans e2.symm)
      omega
    ·rintro σ H5 ⟨ow5,tk5,m5,o5,hT5,⟨hS5,hR5⟩,new5,hnl5,hbs5,htk5,how5,_,v4,v5,rfl⟩
     rw[List.take_of_length_le (by omega)] at hS5 hR5
     exact⟨_,rfl,q lb ow5 tk5 m5 H5 ((Off.of s12).trans o5) hT5 hS5 hR5 hlbn hbs5 (bC.trans (bC.refl H tk) new5 fun l hl=>s12.free hl) hnl5 (by omega) (by omega)⟩
end
abbrev gd (ns:List Int) (k:Nat):Int:=ns.getD k 0
def due (ws gs:List Int):Nat→Nat
 |0=>0
 |n+1=>if gd ws (n+1)*(gd gs (due ws gs n)+1)>gd ws (due ws gs n)*(gd gs (n+1)+1) then n+1 else due ws gs n
theorem vN (ws gs:List Int): ∀n,due ws gs n≤n
 |0=>Nat.le_refl _
 |n+1=>by
  have:=vN ws gs n
  unfold due
  split<;>omega
def deal (ws:List Int):Nat→List Int
 |0=>List.replicate ws.length 0
 |n+1=>(deal ws n).set (due ws (deal ws n) (ws.length-1)) (gd (deal ws n) (due ws (deal ws n) (ws.length-1))+1)
theorem iV (ws:List Int): ∀n,(deal ws n).length=ws.length
 |0=>by simp[deal]
 |n+1=>by rw[deal,List.length_set,iV ws n]
theorem NP (ns:List Int) (i j:Nat) (v:Int) (h:i<ns.length):gd (ns.set i v) j=if i=j then v else gd ns j:=by
 unfold gd
 rw[List.getD_eq_getElem?_getD,List.getD_eq_getElem?_getD,List.getElem?_set]
 by_cases e:i=j
 ·rw[if_pos e,if_pos e]
  simp[h]
 ·rw[if_neg e,if_neg e]
theorem xr (ws:List Int): ∀n k,0≤gd (deal ws n) k∧gd (deal ws n) k≤n
 |0,k=>by
  have e:gd (deal ws 0) k=0:=by
   unfold gd deal
   rw[List.getD_eq_getElem?_getD,List.getElem?_replicate]
   split<;>rfl
  rw[e]
  exact⟨Int.le_refl _,by omega⟩
 |n+1,k=>by
  have ih:=xr ws n
  by_cases h0:ws.length=0
  ·have:(deal ws (n+1)).length=0:=by rw[iV,h0]
   have e:=List.length_eq_zero_iff.mp this
   rw[e]
   exact⟨Int.le_refl _,by show(0:Int)≤_;omega⟩
  ·have hl:=vN ws (deal ws n) (ws.length-1)
   rw[deal,NP _ _ _ _ (by rw[iV];omega)]
   split
   ·have:=ih (due ws (deal ws n) (ws.length-1))
    omega
   ·have:=ih k
    omega
inductive M0 (K:PySem.W.Frag) (vs:List V) (H:Hp) (Q:VK) (_E:XK):Prop
 |mk (wt gl:Addr) (ws gs:List Int) (_:vs=[.ref wt,.ref gl]) (_:SqT K H wt (ws.map V.int)) (_:SqL K H gl (gs.map V.int)) (_:gs.length=ws.length) (_:0<ws.length) (_:ws.length≤4) (_:(∀k,0≤gd gs k∧gd gs k≤2000)) (_:Q (.int (due ws gs (ws.length-1):Nat)) H)
inductive Li (K:PySem.W.Frag) (vs:List V) (H:Hp) (Q:VK) (_E:XK):Prop
 |mk (n:Nat) (wt:Addr) (ws:List Int) (_:vs=[.int n,.ref wt]) (_:n≤2000) (_:SqT K H wt (ws.map V.int)) (_:0<ws.length) (_:ws.length≤4) (_: ∀t H',am H H'→H' t=some (.tup ((deal ws n).map V.int))→Q (.ref t) H')
section
variable {P:Program}{w:World}{K:PySem.W.Frag}{mg:Str→Option Value}{base:Heap}{a:Adr}
theorem Em (T:Txt K mg a):bd P w K mg base CX0 1 a.yV a.iL ["weights","given"] (M0 K):=by
 refine T.zi.ok kP (fun vs H Q E h=> ?_) (fun cdv A outer s H vs Q E hr h=> ?_)
 ·obtain⟨wt,gl,ws,gs,rfl,_⟩:=h
  rfl
 ·obtain⟨wt,gl,ws,gs,rfl,hW,hG,hlen,l0,l4,hb,q⟩:=h
  refine⟨_,(ag (aO (i:=2) kP.nd rfl (.inl rfl) ai)
 (ag (cV PassesOwn.never rfl (Bu rfl T.ee (ad ai (ad (az (aK K rfl) (by rfl) T.bK L2.aQ (ad (pv 0) af)) af))) (aF (i:=3) kP.nd rfl (.inl rfl))
 (ah (a0 (aE Bw (aA gJ (aJ (aB K rfl) (pv 0) (pv 3) (fun _ _=>rfl)) (aA bF (aJ (bj K rfl) (pv 1) (pv 2) (fun _ _=>rfl)) ai)) (aA gJ (aJ (aB K rfl) (pv 0) (pv 2) (fun _ _=>rfl)) (aA bF (aJ (bj K rfl) (pv 1) (pv 3) (fun _ _=>rfl)) ai)) (aM _)) (ah (aO (i:=2) kP.nd rfl (.inl rfl) (pv 3))) aH)))
 (ah (aI (pv 2))))),?_⟩
  refine⟨_,rfl,_,ws.length,rfl,.inr ⟨_,hW,by simp⟩,_,_,rfl,⟨by decide,by decide,by omega,by omega⟩,?_⟩
  refine fe (lo:=1) (n:=((ws.length:Int)-1).toNat) (fun i σ H'=>H=H'∧ ∃v,σ=[some (.ref wt),some (.ref gl),some (.int (due ws gs i:Nat)),v]) ⟨rfl,_,rfl⟩ ?_ ?_
  ·rintro i σ _ hi ⟨rfl,v,rfl⟩
   have hd:=vN ws gs i
   have hb1:0≤gs.getD (due ws gs i) 0∧gs.getD (due ws gs i) 0≤2000:=hb (due ws gs i)
   have hb2:0≤gs.getD (i+1) 0∧gs.getD (i+1) 0≤2000:=hb (i+1)
   have ei:((1:Int)+(i:Int))=((i+1:Nat):Int):=by omega
   refine⟨_,rfl,_,rfl,wt,_,_,_,rfl,rfl,hW,gf (by omega) (by omega),_,rfl,_,rfl,gl,_,_,_,rfl,rfl,hG,gf (by omega) (by omega),_,_,rfl,rfl,_,_,rfl,rfl,?_⟩
   refine⟨.inr ⟨?_,?_⟩,?_⟩
   ·simp only[Int.toNat_natCast];omega
   ·simp only[Int.toNat_natCast];omega
   refine⟨_,rfl,_,rfl,wt,_,_,_,rfl,rfl,hW,gf (by omega) (by omega),_,rfl,_,rfl,gl,_,_,_,rfl,rfl,hG,gf (by omega) (by omega),_,_,rfl,rfl,_,_,rfl,rfl,?_⟩
   rw[ei]
   refine⟨.inr ⟨?_,?_⟩,?_⟩
   ·simp only[Int.toNat_natCast];omega
   ·simp only[Int.toNat_natCast];omega
   refine⟨_,_,rfl,rfl,_,rfl,?_⟩
   simp only[Int.toNat_natCast]
   refine se (fun h=> ?_) (fun h=> ?_)
   ·refine⟨_,rfl,rfl,some (.int ((i+1:Nat):Int)),?_⟩
    rw[due,if_pos h]
    rfl
   ·refine⟨rfl,some (.int ((i+1:Nat):Int)),?_⟩
    rw[due,if_neg h]
    rfl
  ·rintro σ _ ⟨rfl,v,rfl⟩
   have e:((ws.length:Int)-1).toNat=ws.length-1:=by omega
   rw[e]
   exact⟨_,rfl,q⟩
theorem JL (T:Txt K mg a):bd P w K mg base CX0 2 a.Kn a.pQ ["total","weights"] (Li K):=by
 refine T.GE.ok tG (fun vs H Q E h=> ?_) (fun cdv A outer s H vs Q E hr h=> ?_)
 ·obtain⟨n,wt,ws,rfl,_⟩:=h
  rfl
 ·obtain⟨n,wt,ws,rfl,hn,hW,l0,l4,q⟩:=h
  refine⟨_,(ag (aO (i:=2) tG.nd rfl (.inl rfl) (aA JF (b7 (ad ai af)) (az (aK K rfl) (by rfl) T.bK L2.aQ (ad (pv 1) af))))
 (ag (cV PassesOwn.never rfl (cK rfl T.ee (ad (pv 0) af)) (aF (i:=3) tG.nd rfl (.inl rfl))
 (ag (aO (i:=4) tG.nd rfl (.inl rfl) (av ((Em T).mono (by decide)) hr rfl T.FL T.zi.kp T.Ga .nil aD (ad (pv 1) (ad (pv 2) af))))
 (ah (lD (aA bF (aJ (bj K rfl) (pv 2) (pv 4) (fun _ _=>rfl)) ai) (nH (pv 2) (pv 4) xO)))))
 (ah (aI (d8 (fg K rfl) (by rfl) T.eY L2.bW (ad (pv 2) af)))))),?_⟩
  refine⟨aC (show _≤65536 by simp),fun l hl=> ?_⟩
  have hW1:SqT K (upd H l (.lst [.int 0])) wt (ws.map V.int):=am.tseq (al (am.refl H) hl) hW
  refine⟨_,rfl,_,ws.length,rfl,.inr ⟨_,hW1,by simp⟩,l,_,_,rfl,rfl,ae,by omega,by omega,aC (by simp;omega),fun g hg=> ?_⟩
  have s0:am H (upd (upd H l (.lst [.int 0])) g (.lst (List.replicate (ws.length:Int).toNat [V.int 0]).flatten)):=al (al (am.refl H) hl) hg
  have e0:(List.replicate (ws.length:Int).toNat [V.int 0]).flatten=(deal ws 0).map V.int:=by
   rw[Int.toNat_natCast,deal,List.map_replicate]
   generalize ws.length=m
   induction m with
   |zero=>rfl
   |succ m ih=>rw[List.replicate_succ,List.flatten_cons,ih,List.replicate_succ];rfl
  have hgH:H g=none:=(Nx hg).2
  refine⟨_,rfl,(n:Int),rfl,by omega,by omega,?_⟩
  refine fe (lo:=0) (n:=(n:Int).toNat) (fun i σ H'=>am H H'∧H' g=some (.lst ((deal ws i).map V.int))∧(Ex2 fun v3 v4=>σ=[some (.int n),some (.ref wt),some (.ref g),v3,v4])) ⟨s0,by rw[ae,e0],_,_,rfl⟩ ?_ ?_
  ·rintro i σ H1 hi ⟨s1,hG,v3,v4,rfl⟩
   have nn:=xr ws i
   have hd:=vN ws (deal ws i) (ws.length-1)
   have hln:=iV ws i
   refine⟨_,rfl,_,rfl,wt,g,ws,deal ws i,rfl,am.tseq s1 hW,SqL.of hG,hln,l0,l4,fun k=>⟨(nn k).1,by have:=(nn k).2;omega⟩,?_⟩
   refine⟨_,rfl,_,rfl,g,_,_,_,rfl,rfl,SqL.of hG,gf (by omega) (by omega),_,_,rfl,rfl,?_⟩
   refine⟨_,rfl,_,rfl,g,_,_,_,rfl,rfl,hG,CS (by omega) (by simp;omega),?_⟩
   refine⟨br s1 hgH,?_,_,_,rfl⟩
   rw[ae]
   simp only[Int.toNat_natCast]
   rw[pK]
   rfl
  ·rintro σ H1 ⟨s1,hG,v3,v4,rfl⟩
   refine⟨_,rfl,g,_,rfl,.inl ⟨SqL.of hG,fun t ht=> ?_⟩⟩
   exact q t _ (al s1 ht) ae
end
inductive DW (C:Addr) (vs:List V) (H:Hp) (Q:VK) (_E:XK):Prop
 |mk (t dx ar ru sh:Addr) (hm:Str) (_:vs=[.ref t,.str hm,.ref ar,.ref ru,.ref sh]) (_:H t=some (.ins C dx [])) (_: ∀(ba:Addr) H',H ba=none→(∀b o,H b=some o→b≠t→H' b=some o)→H' t=some (.ins C dx [("home",.str hm),("arms",.ref ar),("rule",.ref ru),("shuts",.ref sh),("paused",.bl false),("closed",.bl false),("barred",.ref ba)])→H' ba=some (.dK [])→Q .non H')
section
variable {P:Program}{w:World}{K:PySem.W.Frag}{mg:Str→Option Value}{base:Heap}{a:Adr}
theorem wP (T:Txt K mg a):bd P w K mg base CX0 1 a.jE a.c7 ["self","home","arms","rule","shuts"] (DW a.bT):=by
 refine T.zo.ok wI (fun vs H Q E h=> ?_) (fun cdv A outer s H vs Q E hr h=> ?_)
 ·obtain⟨t,dx,ar,ru,sh,hm,rfl,_⟩:=h
  rfl
 ·obtain⟨t,dx,ar,ru,sh,hm,rfl,hT,q⟩:=h
  refine⟨_,(ag (bV K rfl (pv 0) (pv 1))
 (ag (bV K rfl (pv 0) (pv 2))
 (ag (bV K rfl (pv 0) (pv 3))
 (ag (bV K rfl (pv 0) (pv 4))
 (ag (bV K rfl (pv 0) mx)
 (ag (bV K rfl (pv 0) mx)
 (ah (bV K rfl (pv 0) jU)))))))),?_⟩
  refine⟨_,rfl,_,rfl,t,_,dx,_,rfl,hT,T.bv,T.lF,by simp,?_⟩
  rw[show dz "home" (V.str hm) []=([("home",V.str hm)]:List (Str×V)) from rfl]
  refine⟨_,rfl,_,rfl,t,_,dx,_,rfl,ae,T.bv,T.dg,by simp,?_⟩
  rw[jx,show dz "arms" (V.ref ar) [("home",V.str hm)]=([("home",V.str hm),("arms",V.ref ar)]:List (Str×V)) from rfl]
  refine⟨_,rfl,_,rfl,t,_,dx,_,rfl,ae,T.bv,T.AN,by simp,?_⟩
  rw[jx,show dz "rule" (V.ref ru) [("home",V.str hm),("arms",V.ref ar)]=([("home",V.str hm),("arms",V.ref ar),("rule",V.ref ru)]:List (Str×V)) from rfl]
  refine⟨_,rfl,_,rfl,t,_,dx,_,rfl,ae,T.bv,T.yS,by simp,?_⟩
  rw[jx,show dz "shuts" (V.ref sh) [("home",V.str hm),("arms",V.ref ar),("rule",V.ref ru)]=([("home",V.str hm),("arms",V.ref ar),("rule",V.ref ru),("shuts",V.ref sh)]:List (Str×V)) from rfl]
  refine⟨_,rfl,t,_,dx,_,rfl,ae,T.bv,T.wV,by simp,?_⟩
  rw[jx,show dz "paused" (V.bl false) [("home",V.str hm),("arms",V.ref ar),("rule",V.ref ru),("shuts",V.ref sh)]=([("home",V.str hm),("arms",V.ref ar),("rule",V.ref ru),("shuts",V.ref sh),("paused",V.bl false)]:List (Str×V)) from rfl]
  refine⟨_,rfl,t,_,dx,_,rfl,ae,T.bv,T.cZ,by simp,?_⟩
  rw[jx,show dz "closed" (V.bl false) [("home",V.str hm),("arms",V.ref ar),("rule",V.ref ru),("shuts",V.ref sh),("paused",V.bl false)]=([("home",V.str hm),("arms",V.ref ar),("rule",V.ref ru),("shuts",V.ref sh),("paused",V.bl false),("closed",V.bl false)]:List (Str×V)) from rfl]
  refine fun ba hba=> ?_
  have bt:t≠ba:=fun z=>by rw[←z,ae] at hba;cases hba
  refine⟨_,rfl,t,_,dx,_,rfl,by rw[aj bt];exact ae,T.bv,T.wW,by simp,?_⟩
  rw[show dz "barred" (V.ref ba) [("home",V.str hm),("arms",V.ref ar),("rule",V.ref ru),("shuts",V.ref sh),("paused",V.bl false),("closed",V.bl false)]=([("home",V.str hm),("arms",V.ref ar),("rule",V.ref ru),("shuts",V.ref sh),("paused",V.bl false),("closed",V.bl false),("barred",V.ref ba)]:List (Str×V)) from rfl]
  have hb0:H ba=none:=by rw[aj (Ne.symm bt)] at hba;exact hba
  refine q ba _ hb0 (fun b o e hb=> ?_) ae (by rw[aj (Ne.symm bt)];exact ae)
  rw[aj hb,aj (au e hb0),aj hb]
  exact e
end
inductive DX (P:Program) (w:World) (K:PySem.W.Frag) (C D:Addr) (vs:List V) (H:Hp) (Q:VK) (_E:XK):Prop
 |mk (t dx:Addr) (z:Int) (n:Nat) (_:vs=[.ref t,.int z,.int n]) (_:H t=some (.ins C dx [])) (_: ∀(tb od td iu:Addr) H',H tb=none→H od=none→H td=none→H iu=none→od≠iu→(∀b o,H b=some o→b≠t→H' b=some o)→H' t=some (.ins C dx [("slope",.int z),("table",.ref tb),("inside",.ref iu)])→dR P w K D H' tb od td n [] [] []→H' iu=some (.dK [])→Q .non H')
section
variable {P:Program}{w:World}{K:PySem.W.Frag}{mg:Str→Option Value}{base:Heap}{a:Adr}
theorem wR (T:Txt K mg a):bd P w K mg base CX0 3 a.jG a.c9 ["self","slope","many"] (DX P w K a.et a.bE):=by
 refine T.zq.ok wK (fun vs H Q E h=> ?_) (fun cdv A outer s H vs Q E hr h=> ?_)
 ·obtain⟨t,dx,z,n,rfl,_⟩:=h
  rfl
 ·obtain⟨t,dx,z,n,rfl,hT,q⟩:=h
  refine⟨_,(ag (bV K rfl (pv 0) (pv 1))
 (ag (bV K rfl (pv 0) (xk T.JR ((wQ (P:=P) (w:=w) T).mono (by decide)) hr rfl T.LU T.zK .nil aD (ad (pv 2) af)))
 (ah (bV K rfl (pv 0) jU)))),?_⟩
  refine⟨_,rfl,_,rfl,t,_,dx,_,rfl,hT,T.ff,T.yT,by simp,?_⟩
  rw[show dz "slope" (V.int z) []=([("slope",V.int z)]:List (Str×V)) from rfl]
  have f1: ∀b o,H b=some o→b≠t→upd H t (.ins a.et dx [("slope",V.int z)]) b=some o:=fun b o e hb=>by rw[aj hb];exact e
  have hT1:upd H t (.ins a.et dx [("slope",V.int z)]) t=some (.ins a.et dx [("slope",V.int z)]):=ae
  have g1: ∀b,upd H t (.ins a.et dx [("slope",V.int z)]) b=none→H b=none:=fun b e=>by
   by_cases h:b=t
   ·rw[h,ae] at e;cases e
   ·rw[aj h] at e;exact e
  generalize upd H t (.ins a.et dx [("slope",V.int z)])=H1 at f1 hT1 g1⊢
  refine⟨_,rfl,fun tb ty htb hty hne=> ?_⟩
  have f2: ∀b o,H1 b=some o→upd (upd H1 ty (.own tb)) tb (.ins a.bE ty []) b=some o:=fun b o e=>by rw[aj (au e htb),aj (au e hty)];exact e
  have hb2:upd (upd H1 ty (.own tb)) tb (.ins a.bE ty []) tb=some (.ins a.bE ty []):=ae
  have hy2:upd (upd H1 ty (.own tb)) tb (.ins a.bE ty []) ty=some (.own tb):=by rw[aj hne];exact ae
  generalize upd (upd H1 ty (.own tb)) tb (.ins a.bE ty [])=H2 at f2 hb2 hy2⊢
  refine⟨tb,ty,n,rfl,hb2,hy2,fun od td H3 hod htd f3 hTab=>⟨rfl,?_⟩⟩
  have n1: ∀b,H2 b=none→H1 b=none:=fun b e=>by
   cases z:H1 b with
   |none=>rfl
   |some o=>rw[f2 b o z] at e;cases e
  have f13: ∀b o,H1 b=some o→H3 b=some o:=fun b o e=>f3 b o (f2 b o e) (au e htb)
  have hT3:=f13 _ _ hT1
  refine⟨_,rfl,t,_,dx,_,rfl,hT3,T.ff,T.dF,by simp,?_⟩
  rw[show dz "table" (V.ref tb) [("slope",V.int z)]=([("slope",V.int z),("table",V.ref tb)]:List (Str×V)) from rfl]
  refine fun iu hiu=> ?_
  have it:t≠iu:=fun z=>by rw[←z,ae] at hiu;cases hiu
  have hiu3:H3 iu=none:=by rw[aj (Ne.symm it)] at hiu;exact hiu
  refine⟨_,rfl,t,_,dx,_,rfl,by rw[aj it];exact ae,T.ff,T.o9,by simp,?_⟩
  rw[show dz "inside" (V.ref iu) [("slope",V.int z),("table",V.ref tb)]=([("slope",V.int z),("table",V.ref tb),("inside",V.ref iu)]:List (Str×V)) from rfl]
  have n3: ∀b,H3 b=none→H1 b=none:=fun b e=>by
   cases z:H1 b with
   |none=>rfl
   |some o=>rw[f13 b o z] at e;cases e
  have k4: ∀b o,H3 b=some o→b≠t→upd (upd (upd H3 t (.ins a.et dx [("slope",V.int z),("table",V.ref tb)])) iu (.dK [])) t (.ins a.et dx [("slope",V.int z),("table",V.ref tb),("inside",V.ref iu)]) b=some o:=fun b o e hb=>by
   rw[aj hb,aj (au e hiu3),aj hb]
   exact e
  have tbt:tb≠t:=fun z=>by rw[z,hT1] at htb;cases htb
  have odt:od≠t:=fun z=>by rw[z,f2 _ _ hT1] at hod;cases hod
  have tdt:td≠t:=fun z=>by rw[z,f2 _ _ hT1] at htd;cases htd
  refine q tb od td iu _ (g1 _ htb) (g1 _ (n1 _ hod)) (g1 _ (n1 _ htd)) (g1 _ (n3 _ hiu3)) (au hTab.own hiu3) (fun b o e hb=>k4 b o (f13 b o (f1 b o e hb)) hb) ae ?_ (by rw[aj (Ne.symm it)];exact ae)
  obtain⟨ty',hI⟩:=hTab.ins
  exact⟨⟨ty',k4 _ _ hI tbt⟩,k4 _ _ hTab.own odt,k4 _ _ hTab.tak tdt,fun x hx=>(by cases hx),.nil⟩
end
theorem xn {H:Hp}{t x:Addr}{o1 o2 o3:HO}(ht:H t=some o1) (hx:H x=none):(∀b o,H b=some o→b≠t→upd (upd H x o2) t o3 b=some o)∧upd (upd H x o2) t o3 t=some o3∧upd (upd H x o2) t o3 x=some o2∧x≠t:=by
 have n:x≠t:=fun z=>by rw[z,ht] at hx;cases hx
 exact⟨fun b o e hb=>by rw[aj hb,aj (au e hx)];exact e,ae,by rw[aj n];exact ae,n⟩
inductive DY (C:Addr) (vs:List V) (H:Hp) (Q:VK) (_E:XK):Prop
 |mk (t dx:Addr) (z sa:Int) (_:vs=[.ref t,.int z,.int sa]) (_:H t=some (.ins C dx [])) (_:(2≤z∧z≤997)) (_:(∀i:Nat,2+(i:Int)<z→z%(2+(i:Int))≠0)) (_:(0≤sa∧sa≤er)) (_: ∀(ln tn ci dl:Addr) H',H ln=none→H tn=none→H ci=none→H dl=none→ln≠tn→ln≠ci→tn≠ci→(∀b o,H b=some o→b≠t→H' b=some o)→H' t=some (.ins C dx [("own_prime",.int z),("own_salt",.int sa),("layer_named",.ref ln),("trial_named",.ref tn),("came_into",.ref ci),("deeds",.ref dl)])→H' ln=some (.dK [])→H' tn=some (.dK [])→H' ci=some (.dK [])→H' dl=some (.lst [])→Q .non H')
section
variable {P:Program}{w:World}{K:PySem.W.Frag}{mg:Str→Option Value}{base:Heap}{a:Adr}
theorem wU (T:Txt K mg a):bd P w K mg base CX0 5 a.jH a.df ["self","prime","salt"] (DY a.bp):=by
 refine T.zu.ok wN (fun vs H Q E h=> ?_) (fun cdv A outer s H vs Q E hr h=> ?_)
 ·obtain⟨t,dx,z,sa,rfl,_⟩:=h
  rfl
 ·obtain⟨t,dx,z,sa,rfl,hT0,h1,h2,h3,q⟩:=h
  refine⟨_,(ag (aX (av ((yM T).mono (by decide)) hr rfl T.AW T.qR.kp T.Bh .nil aD (ad (pv 1) (ad (pv 2) af))))
 (ag (bV K rfl (pv 0) (pv 1))
 (ag (bV K rfl (pv 0) (pv 2))
 (ag (bV K rfl (pv 0) jU)
 (ag (bV K rfl (pv 0) jU)
 (ag (bV K rfl (pv 0) jU)
 (ah (bV K rfl (pv 0) (b7 af))))))))),?_⟩
  refine⟨_,rfl,_,rfl,z,sa,rfl,h1,h2,h3,fun H0 s0=> ?_⟩
  have hT:=s0 _ _ hT0
  refine⟨_,rfl,_,rfl,t,_,dx,_,rfl,hT,T.ay,T.bM,by simp,?_⟩
  rw[show dz "own_prime" (V.int z) []=([("own_prime",V.int z)]:List (Str×V)) from rfl]
  refine⟨_,rfl,_,rfl,t,_,dx,_,rfl,ae,T.ay,T.tT,by simp,?_⟩
  rw[jx,show dz "own_salt" (V.int sa) [("own_prime",V.int z)]=([("own_prime",V.int z),("own_salt",V.int sa)]:List (Str×V)) from rfl]
  have f1: ∀b o,H b=some o→b≠t→upd H0 t (.ins a.bp dx [("own_prime",V.int z),("own_salt",V.int sa)]) b=some o:=fun b o e hb=>by rw[aj hb];exact s0 _ _ e
  have hT1:upd H0 t (.ins a.bp dx [("own_prime",V.int z),("own_salt",V.int sa)]) t=some (.ins a.bp dx [("own_prime",V.int z),("own_salt",V.int sa)]):=ae
  generalize upd H0 t (.ins a.bp dx [("own_prime",V.int z),("own_salt",V.int sa)])=H1 at f1 hT1⊢
  refine fun ln hln=> ?_
  obtain⟨g2,hT2,hln2,ntln⟩:=xn (o2:=.dK []) (o3:=.ins a.bp dx [("own_prime",V.int z),("own_salt",V.int sa),("layer_named",V.ref ln)]) hT1 hln
  refine⟨_,rfl,t,_,dx,_,rfl,by rw[aj (Ne.symm ntln)];exact hT1,T.ay,T.aY,by simp,?_⟩
  rw[show dz "layer_named" (V.ref ln) [("own_prime",V.int z),("own_salt",V.int sa)]=([("own_prime",V.int z),("own_salt",V.int sa),("layer_named",V.ref ln)]:List (Str×V)) from rfl]
  have f2: ∀b o,H b=some o→b≠t→upd (upd H1 ln (.dK [])) t (.ins a.bp dx [("own_prime",V.int z),("own_salt",V.int sa),("layer_named",V.ref ln)]) b=some o:=fun b o e hb=>g2 b o (f1 b o e hb) hb
  have eln:H ln=none:=by
   cases zz:H ln with
   |none=>rfl
   |some o=>rw[f1 ln o zz ntln] at hln;cases hln
  generalize upd (upd H1 ln (.dK [])) t (.ins a.bp dx [("own_prime",V.int z),("own_salt",V.int sa),("layer_named",V.ref ln)])=H2 at f2 g2 hT2 hln2⊢
  refine fun tn htn=> ?_
  obtain⟨g3,hT3,htn3,nttn⟩:=xn (o2:=.dK []) (o3:=.ins a.bp dx [("own_prime",V.int z),("own_salt",V.int sa),("layer_named",V.ref ln),("trial_named",V.ref tn)]) hT2 htn
  refine⟨_,rfl,t,_,dx,_,rfl,by rw[aj (Ne.symm nttn)];exact hT2,T.ay,T.aP,by simp,?_⟩
  rw[show dz "trial_named" (V.ref tn) [("own_prime",V.int z),("own_salt",V.int sa),("layer_named",V.ref ln)]=([("own_prime",V.int z),("own_salt",V.int sa),("layer_named",V.ref ln),("trial_named",V.ref tn)]:List (Str×V)) from rfl]
  have f3: ∀b o,H b=some o→b≠t→upd (upd H2 tn (.dK [])) t (.ins a.bp dx [("own_prime",V.int z),("own_salt",V.int sa),("layer_named",V.ref ln),("trial_named",V.ref tn)]) b=some o:=fun b o e hb=>g3 b o (f2 b o e hb) hb
  have hln3:=g3 _ _ hln2 ntln
  have nelntn:ln≠tn:=au hln2 htn
  have etn:H tn=none:=by
   cases zz:H tn with
   |none=>rfl
   |some o=>rw[f2 tn o zz nttn] at htn;cases htn
  generalize upd (upd H2 tn (.dK [])) t (.ins a.bp dx [("own_prime",V.int z),("own_salt",V.int sa),("layer_named",V.ref ln),("trial_named",V.ref tn)])=H3 at f3 g3 hT3 htn3 hln3⊢
  refine fun ci hci=> ?_
  obtain⟨g4,hT4,hci4,ntci⟩:=xn (o2:=.dK []) (o3:=.ins a.bp dx [("own_prime",V.int z),("own_salt",V.int sa),("layer_named",V.ref ln),("trial_named",V.ref tn),("came_into",V.ref ci)]) hT3 hci
  refine⟨_,rfl,t,_,dx,_,rfl,by rw[aj (Ne.symm ntci)];exact hT3,T.ay,T.rM,by simp,?_⟩
  rw[show dz "came_into" (V.ref ci) [("own_prime",V.int z),("own_salt",V.int sa),("layer_named",V.ref ln),("trial_named",V.ref tn)]=([("own_prime",V.int z),("own_salt",V.int sa),("layer_named",V.ref ln),("trial_named",V.ref tn),("came_into",V.ref ci)]:List (Str×V)) from rfl]
  have f4: ∀b o,H b=some o→b≠t→upd (upd H3 ci (.dK [])) t (.ins a.bp dx [("own_prime",V.int z),("own_salt",V.int sa),("layer_named",V.ref ln),("trial_named",V.ref tn),("came_into",V.ref ci)]) b=some o:=fun b o e hb=>g4 b o (f3 b o e hb) hb
  have hln4:=g4 _ _ hln3 ntln
  have nelnci:ln≠ci:=au hln3 hci
  have htn4:=g4 _ _ htn3 nttn
  have netnci:tn≠ci:=au htn3 hci
  have eci:H ci=none:=by
   cases zz:H ci with
   |none=>rfl
   |some o=>rw[f3 ci o zz ntci] at hci;cases hci
  generalize upd (upd H3 ci (.dK [])) t (.ins a.bp dx [("own_prime",V.int z),("own_salt",V.int sa),("layer_named",V.ref ln),("trial_named",V.ref tn),("came_into",V.ref ci)])=H4 at f4 g4 hT4 hci4 hln4 htn4⊢
  refine⟨aC (show _≤65536 by simp),fun dl hdl=> ?_⟩
  obtain⟨g5,hT5,hdl5,ntdl⟩:=xn (o2:=.lst []) (o3:=.ins a.bp dx [("own_prime",V.int z),("own_salt",V.int sa),("layer_named",V.ref ln),("trial_named",V.ref tn),("came_into",V.ref ci),("deeds",V.ref dl)]) hT4 hdl
  refine⟨_,rfl,t,_,dx,_,rfl,by rw[aj (Ne.symm ntdl)];exact hT4,T.ay,T.fL,by simp,?_⟩
  rw[show dz "deeds" (V.ref dl) [("own_prime",V.int z),("own_salt",V.int sa),("layer_named",V.ref ln),("trial_named",V.ref tn),("came_into",V.ref ci)]=([("own_prime",V.int z),("own_salt",V.int sa),("layer_named",V.ref ln),("trial_named",V.ref tn),("came_into",V.ref ci),("deeds",V.ref dl)]:List (Str×V)) from rfl]
  have f5: ∀b o,H b=some o→b≠t→upd (upd H4 dl (.lst [])) t (.ins a.bp dx [("own_prime",V.int z),("own_salt",V.int sa),("layer_named",V.ref ln),("trial_named",V.ref tn),("came_into",V.ref ci),("deeds",V.ref dl)]) b=some o:=fun b o e hb=>g5 b o (f4 b o e hb) hb
  have hln5:=g5 _ _ hln4 ntln
  have nelndl:ln≠dl:=au hln4 hdl
  have htn5:=g5 _ _ htn4 nttn
  have netndl:tn≠dl:=au htn4 hdl
  have hci5:=g5 _ _ hci4 ntci
  have necidl:ci≠dl:=au hci4 hdl
  have edl:H dl=none:=by
   cases zz:H dl with
   |none=>rfl
   |some o=>rw[f4 dl o zz ntdl] at hdl;cases hdl
  generalize upd (upd H4 dl (.lst [])) t (.ins a.bp dx [("own_prime",V.int z),("own_salt",V.int sa),("layer_named",V.ref ln),("trial_named",V.ref tn),("came_into",V.ref ci),("deeds",V.ref dl)])=H5 at f5 g5 hT5 hdl5 hln5 htn5 hci5⊢
  exact q ln tn ci dl _ eln etn eci edl nelntn nelnci netnci f5 hT5 hln5 htn5 hci5 hdl5
end
section
variable {P:Program}{w:World}{K:PySem.W.Frag}{mg:Str→Option Value}{base:Heap}{a:Adr}
theorem tP (T:Txt K mg a):bd P w K mg base CX0 1 a.kA a.cy ["self","place"] (Ha P w K a.bE):=by
 refine T.vE.ok tI (fun vs H Q E h=> ?_) (fun cdv A outer s H vs Q E hr h=> ?_)
 ·obtain⟨t,od,td,n,ow,tk,m,p,rfl,_⟩:=h
  rfl
 ·obtain⟨t,od,td,n,ow,tk,m,p,rfl,hT,q⟩:=h
  refine⟨_,(ah (aI (JC (cw hr) (aU K rfl (pv 0)) (pv 1) ⟨rfl,rfl,rfl,rfl⟩))),?_⟩
  obtain⟨dx,hI⟩:=hT.ins
  exact⟨_,rfl,t,_,dx,_,_,rfl,hI,T.bg,T.c5,rfl,od,rfl,.inl ⟨_,.inl hT.own⟩,_,rfl,_,e8.k (k:=.inl p) hT.own,q⟩
end
structure TrS where
 nm:Str
 arms:List Str
 cl:Bool
def cS (K:PySem.W.Frag) (C:Addr) (H:Hp) (ly:Str) (tv:List (Key×V)) (trs:List TrS):Prop:=Paired (fun(x:Key×V) (y:TrS)=>x.1=.inr y.nm∧ ∃t ar,x.2=.ref t∧pd K C H t ly ar y.arms y.cl) tv trs
structure HA where
 h:Addr
 ln:Addr
 tn:Addr
 dl:Addr
 lo:Addr
 iu:Addr
 t:Addr
 od:Addr
 td:Addr
structure kG (P:Program) (w:World) (K:PySem.W.Frag) (a:Adr) (H:Hp) (A:HA) (n:Nat) (ly:Str) (tv:List (Key×V)) (trs:List TrS) (ow:List (Key×V)) (tk:List aW) (m:List Pl) (ds:List V):Prop where
 ins: ∃dx sa ci,H A.h=some (.ins a.bp dx [("own_prime",.int n),("own_salt",sa),("layer_named",.ref A.ln),("trial_named",.ref A.tn),("came_into",ci),("deeds",.ref A.dl)])
 lay:H A.ln=some (.dK [(.inr ly,.ref A.lo)])
 lob: ∃dx z,H A.lo=some (.ins a.et dx [("slope",z),("table",.ref A.t),("inside",.ref A.iu)])
 isd:H A.iu=some (.dK [])
 tab:dR P w K a.bE H A.t A.od A.td n ow tk m
 trd:H A.tn=some (.dK tv)
 tra:cS K a.bT H ly tv trs
 apt:(tv.map (·.2)).Nodup
 nms:(trs.map (·.nm)).Nodup
 dee:H A.dl=some (.lst ds)
 n1:A.iu≠A.od
 n2:A.ln≠A.od
 n3:A.tn≠A.od
 n4: ∀x∈tk,x.2.2≠.ref A.dl
 n5:A.tn≠A.iu
 n6:A.tn≠A.ln
section
variable {P:Program}{w:World}{K:PySem.W.Frag}{a:Adr}{H H':Hp}{A:HA}{n:Nat}{ly:Str}{tv:List (Key×V)}{trs:List TrS}{ow ow':List (Key×V)}{tk tk':List aW}{m m':List Pl}{ds:List V}
theorem cS.mono {C:Addr}(f: ∀t ar hm arms cl,pd K C H t hm ar arms cl→pd K C H' t hm ar arms cl): ∀{tv:List (Key×V)}{trs:List TrS},cS K C H ly tv trs→cS K C H' ly tv trs
 |_,_,.nil=> .nil
 |_,_,.cons ⟨h1,t,ar,h2,h3⟩ r=> .cons ⟨h1,t,ar,h2,f _ _ _ _ _ h3⟩ (cS.mono f r)
theorem kG.same (h:kG P w K a H A n ly tv trs ow tk m ds) (e:am H H'):kG P w K a H' A n ly tv trs ow tk m ds:=
 {h with
  ins:=let⟨dx,sa,ci,i⟩:=h.ins;⟨dx,sa,ci,e _ _ i⟩
  lay:=e _ _ h.lay
  lob:=let⟨dx,z,i⟩:=h.lob;⟨dx,z,e _ _ i⟩
  isd:=e _ _ h.isd
  tab:=h.tab.same e
  trd:=e _ _ h.trd
  tra:=h.tra.mono fun _ _ _ _ _ x=>x.same e
  dee:=e _ _ h.dee}
theorem kG.off (h:kG P w K a H A n ly tv trs ow tk m ds) (o:Off A.od A.td H H') (ht:dR P w K a.bE H' A.t A.od A.td n ow' tk' m') (nw:bC H tk tk'):kG P w K a H' A n ly tv trs ow' tk' m' ds:=by
 have go: ∀b ob,H b=some ob→(∀kvs,ob≠.dK kvs)→(∀φ,ob≠.ext φ)→H' b=some ob:=fun b ob e h1 h2=>
  o b ob e (fun z=>by rw[z,h.tab.own] at e;cases e;exact h1 _ rfl) (fun z=>by rw[z,h.tab.tak] at e;cases e;exact h2 _ rfl)
 have gd: ∀b kvs,H b=some (.dK kvs)→b≠A.od→H' b=some (.dK kvs):=fun b kvs e h1=>o b _ e h1 (fun z=>by rw[z,h.tab.tak] at e;cases e)
 refine {h with ins:=?_,lay:=gd _ _ h.lay h.n2,lob:=?_,isd:=gd _ _ h.isd h.n1,tab:=ht,trd:=gd _ _ h.trd h.n3,tra:=?_,dee:=go _ _ h.dee (fun _ z=>nomatch z) (fun _ z=>nomatch z),n4:=fun x hx z=> ?_}
 ·obtain⟨dx,sa,ci,i⟩:=h.ins
  exact⟨dx,sa,ci,go _ _ i (fun _ z=>nomatch z) (fun _ z=>nomatch z)⟩
 ·obtain⟨dx,z,i⟩:=h.lob
  exact⟨dx,z,go _ _ i (fun _ z=>nomatch z) (fun _ z=>nomatch z)⟩
 ·refine h.tra.mono fun t ar hm arms cl ht=> ?_
  obtain⟨dx,ru,sh,pa,ba,h1,h2⟩:=ht
  exact⟨dx,ru,sh,pa,ba,go _ _ h1 (fun _ z=>nomatch z) (fun _ z=>nomatch z),Fz o h.tab.own h.tab.tak h2⟩
 ·rcases nw x hx with⟨y,hy,e⟩ |⟨l,e,hl⟩
  ·exact h.n4 y hy (e.trans z)
  ·rw[e] at z
   cases z
   rw[h.dee] at hl
   cases hl
theorem kG.deed {d:V}(h:kG P w K a H A n ly tv trs ow tk m ds):kG P w K a (upd H A.dl (.lst (ds++[d]))) A n ly tv trs ow tk m (ds++[d]):=by
 have go: ∀b ob,H b=some ob→(∀xs,ob≠.lst xs)→upd H A.dl (.lst (ds++[d])) b=some ob:=fun b ob e h1=>by
  rw[aj (fun z=>by rw[z,h.dee] at e;cases e;exact h1 _ rfl)]
  exact e
 have kp:Kp H (upd H A.dl (.lst (ds++[d]))):=.lst h.dee
 refine {h with ins:=?_,lay:=go _ _ h.lay (fun _ z=>nomatch z),lob:=?_,isd:=go _ _ h.isd (fun _ z=>nomatch z),tab:=h.tab.list h.dee h.n4,trd:=go _ _ h.trd (fun _ z=>nomatch z),tra:=?_,dee:=ae}
 ·obtain⟨dx,sa,ci,i⟩:=h.ins
  exact⟨dx,sa,ci,go _ _ i (fun _ z=>nomatch z)⟩
 ·obtain⟨dx,z,i⟩:=h.lob
  exact⟨dx,z,go _ _ i (fun _ z=>nomatch z)⟩
 ·refine h.tra.mono fun t ar hm arms cl ht=> ?_
  obtain⟨dx,ru,sh,pa,ba,h1,h2⟩:=ht
  exact⟨dx,ru,sh,pa,ba,go _ _ h1 (fun _ z=>nomatch z),kp.tq h2⟩
theorem cS.find {C:Addr}: ∀{tv:List (Key×V)}{trs:List TrS},cS K C H ly tv trs→(trs.map (·.nm)).Nodup→ ∀y∈trs,∃t ar,bh tv (.inr y.nm)=some (.ref t)∧pd K C H t ly ar y.arms y.cl
 |_,_,.nil,_,y,hy=>nomatch hy
 |_,_,.cons (b:=z) ⟨h1,t,ar,h2,h3⟩ r,hn,y,hy=>by
  rw[List.map_cons,List.nodup_cons] at hn
  rcases List.mem_cons.mp hy with e |hy
  ·subst e
   exact⟨t,ar,by rw[bw h1,h2],h3⟩
  ·obtain⟨t',ar',e1,e2⟩:=cS.find r hn.2 y hy
   refine⟨t',ar',?_,e2⟩
   rw[bP,e1]
   intro e
   rw[h1] at e
   exact hn.1 (by rw[show z.nm=y.nm from Sum.inr.inj e];exact List.mem_map.mpr ⟨y,hy,rfl⟩)
end
theorem bA {K:PySem.W.Frag}{H H':Hp}(e:Kp H H') {k:bc}{v:V}(h:cq K H k v):cq K H' k v:=by
 cases k with
 |inl k=>exact h
 |inr ks=>obtain⟨b,h1,h2⟩:=h;exact⟨b,h1,e.tq h2⟩
theorem WAt.kp {K:PySem.W.Frag}{H H':Hp}(e:Kp H H'): ∀{ts:List V}{W:Wl},WAt K H ts W→WAt K H' ts W
 |_,_,.nil=> .nil
 |_,_,.cons ⟨b,kv,h1,h2,h3⟩ t=> .cons ⟨b,kv,h1,e.tq h2,bA e h3⟩ (WAt.kp e t)
abbrev bS (x y:Str):bc:=.inr [.inr x,.inr y]
def wOf (x:Str) (arms:List Str) (l:List Int):Wl:=(arms.zip l).map fun p=>(bS x p.1,p.2)
theorem tu {x:Str}{arms:List Str}{l:List Int}(h:l.length=arms.length):(wOf x arms l).length=arms.length:=by
 unfold wOf
 rw[List.length_map,List.length_zip,h,Nat.min_self]
theorem IL {x:Str}{arms:List Str}{l:List Int}{i:Nat}{y:Str}{z:Int}(h1:arms[i]? =some y) (h2:l[i]? =some z):(wOf x arms l)[i]? =some (bS x y,z):=by
 unfold wOf
 rw[List.getElem?_map,List.getElem?_zip_eq_some (z:=(y,z)) |>.mpr ⟨h1,h2⟩]
 rfl
theorem DM {x:Str}: ∀{arms:List Str}{l:List Int},l.length=arms.length→(wOf x arms l).map (·.1)=arms.map (bS x)
 | [],_,_=>rfl
 |y::r,[],h=>nomatch h
 |y::r,z::l,h=>by
  show bS x y::(wOf x r l).map (·.1)=bS x y::r.map (bS x)
  rw[DM (by simpa using h)]
theorem Gf {x y z u:Str}(h:bS x y=bS z u):x=z∧y=u:=by
 have h:=Sum.inr.inj h
 rw[List.cons.injEq,List.cons.injEq] at h
 exact⟨Sum.inr.inj h.1,Sum.inr.inj h.2.1⟩
theorem Ch {x:Str}{arms:List Str}{l:List Int}(h:l.length=arms.length) (hn:arms.Nodup):((wOf x arms l).map (·.1)).Nodup:=by
 rw[DM h,List.nodup_iff_pairwise_ne,List.pairwise_map]
 exact(List.nodup_iff_pairwise_ne.mp hn).imp fun h e=>h (Gf e).2
theorem Cg {x:Str}{arms:List Str}{l:List Int}(h: ∀i∈l,0≤i): ∀y∈wOf x arms l,0≤y.2:=fun y hy=>by
 obtain⟨p,hp,rfl⟩:=List.mem_map.mp hy
 exact h _ (List.of_mem_zip hp).2
inductive bH (P:Program) (w:World) (K:PySem.W.Frag) (a:Adr) (H:Hp) (A:HA) (n:Nat) (ly:Str) (tv:List (Key×V)) (trs:List TrS) (tk:List aW) (ds:List V) (S:AS) (c:Nat):Prop
 |mk (ow:_) (m:_) (_:kG P w K a H A n ly tv trs ow tk m ds) (_:uu n S ow m) (_:OwS (cq K H) n S ow) (_:S.Ok n) (_:n≤1000) (_:tk.length≤10*c) (_:ow.length≤5000*c)
theorem bH.same {P:Program}{w:World}{K:PySem.W.Frag}{a:Adr}{H H':Hp}{A:HA}{n:Nat}{ly:Str}{tv:List (Key×V)}{trs:List TrS}{tk:List aW}{ds:List V}{S:AS}{c:Nat}(h:bH P w K a H A n ly tv trs tk ds S c) (e:am H H'):bH P w K a H' A n ly tv trs tk ds S c:=
 let⟨ow,m,h1,h2,h3,h4,h5,h6,h7⟩:=h
 ⟨ow,m,h1.same e,h2,h3.mono fun _ _ x=>bN e x,h4,h5,h6,h7⟩
theorem bH.ih {P:Program}{w:World}{K:PySem.W.Frag}{a:Adr}{H:Hp}{A:HA}{n:Nat}{ly:Str}{tv:List (Key×V)}{trs:List TrS}{tk:List aW}{ds:List V}{S:AS}{c:Nat}(h:bH P w K a H A n ly tv trs tk ds S c): ∃dx sa ci,H A.h=some (.ins a.bp dx [("own_prime",.int n),("own_salt",sa),("layer_named",.ref A.ln),("trial_named",.ref A.tn),("came_into",ci),("deeds",.ref A.dl)]):=by
 obtain⟨_,_,h,_⟩:=h
 exact h.ins
theorem bH.ok {P:Program}{w:World}{K:PySem.W.Frag}{a:Adr}{H:Hp}{A:HA}{n:Nat}{ly:Str}{tv:List (Key×V)}{trs:List TrS}{tk:List aW}{ds:List V}{S:AS}{c:Nat}(h:bH P w K a H A n ly tv trs tk ds S c):S.Ok n:=by
 obtain⟨_,_,_,_,_,h,_⟩:=h
 exact h
inductive OI (vs:List V) (H:Hp) (Q:VK) (_E:XK):Prop
 |mk (h lo g:Addr) (_:vs=[.ref h,.ref lo,.ref g]) (_:H g=some (.lst [])) (_: ∀r H',am H H'→H r=none→H' r=some (.lst [])→Q (.ref r) H')
inductive Lb (P:Program) (w:World) (K:PySem.W.Frag) (a:Adr) (vs:List V) (H:Hp) (Q:VK) (E:XK):Prop
 |mk (A:HA) (n:Nat) (ly:Str) (tv:List (Key×V)) (trs:List TrS) (tk:List aW) (ds:List V) (S:AS) (c:Nat) (y:TrS) (nv:Addr) (l:List Int) (_:vs=[.ref A.h,.str y.nm,.ref nv]) (_:bH P w K a H A n ly tv trs tk ds S c) (_:c≤99) (_:y∈trs) (_:(SqL K H nv (l.map V.int)∨SqT K H nv (l.map V.int))) (_:l.length=y.arms.length) (_:y.arms.length≤4) (_:y.arms.Nodup) (_:(∀i∈l,0≤i)) (_:(bf S (wOf y.nm y.arms l)≤((frl n S.oc).length:Int)→ ∀(r:Addr) (tk':List aW) H',Off A.od A.td H H'→bH P w K a H' A n ly tv trs tk' ds (aS n (aV S (wOf y.nm y.arms l)) (wOf y.nm y.arms l)) (c+1)→bC H tk tk'→H r=none→H' r=some (.lst [])→Q (.ref r) H')) (_:(((frl n S.oc).length:Int)<bf S (wOf y.nm y.arms l)→ ∀H',am H H'→E (.ref a.oU) none H'))
section
variable {P:Program}{w:World}{K:PySem.W.Frag}{mg:Str→Option Value}{base:Heap}{a:Adr}
theorem u6 (T:Txt K mg a):bd P w K mg base CX0 1 a.mi a.cN ["self","layer","guests"] OI:=by
 refine T.xc.ok d0 (fun vs H Q E h=> ?_) (fun cdv A outer s H vs Q E hr h=> ?_)
 ·obtain⟨h,lo,g,rfl,_⟩:=h
  rfl
 ·obtain⟨h,lo,g,rfl,hg,q⟩:=h
  refine⟨_,(ag (aO (i:=3) d0.nd rfl (.inl rfl) (b7 af))
 (ag (cV PassesOwn.never rfl (ce K rfl (pv 2)) (aF (i:=4) d0.nd rfl (.inl rfl))
 (ag (aO (i:=5) d0.nd rfl (.inl rfl) (yd (aU K rfl (pv 1)) (pv 4) ⟨rfl,rfl,rfl,rfl⟩))
 (ah (aX (pE K rfl PySem.F.plainAttrs_list PySem.F.slot_list_append PySem.F.type_list_append fc (pv 3) (ad (aA (JJ K rfl) (cE (ad (pv 4) af)) (pv 5)) af))))))
 (ah (aI (az (Ba K rfl) (by rfl) T.Ev L2.wy (ad (pv 3) af)))))),?_⟩
  refine⟨aC (show _≤65536 by simp),fun o ho=>aq ?_⟩
  have s1:=al (o:=.lst []) (am.refl H) ho
  have ho1:upd H o (.lst []) o=some (.lst []):=ae
  generalize upd H o (.lst [])=H1 at s1 ho1⊢
  refine⟨_,rfl,g,rfl,⟨_,SqL.of (s1 _ _ hg)⟩,?_⟩
  refine eC (xs:=[]) (fun i σ H'=>H'=H1∧σ=[some (.ref h),some (.ref lo),some (.ref g),some (.ref o),none,none]) ⟨rfl,rfl⟩ (fun i σ H' _ h=>by rw[h.1];exact SqL.of (s1 _ _ hg)) ?_ ?_
  ·rintro i v σ H' hv
   simp at hv
  ·rintro σ _ ⟨rfl,rfl⟩
   refine⟨_,rfl,o,[],rfl,SqL.of ho1,by simp,fun r ns hr hp _=> ?_⟩
   rw[List.perm_nil.mp hp]
   exact q r _ (al s1 hr) (s1.free hr) ae
theorem fJ (T:Txt K mg a):bd P w K mg base (CXe P w) 4 a.kD a.cA ["self","name","numbers"] (Lb P w K a):=by
 refine T.vG.okE cu (fun vs H Q E h=> ?_) (fun cdv A outer s H vs Q E hr h=> ?_)
 ·obtain⟨A,n,ly,tv,trs,tk,ds,S,c,y,nv,l,rfl,_⟩:=h
  rfl
 ·obtain⟨A,n,ly,tv,trs,tk,ds,S,c,y,nv,l,rfl,hS,hc,hy,hnv,hl,h4,hnd,hl0,q,qe⟩:=h
  refine⟨_,(ag (aO (i:=3) cu.nd rfl (.inl rfl) (iC (cw hr) (aU K rfl (pv 0)) (pv 1) (fun _ _=>rfl)))
 (ag (aO (i:=4) cu.nd rfl (.inr rfl) (iC (cw hr) (aU K rfl (pv 0)) (aU K rfl (pv 3)) (fun _ _=>rfl)))
 (ag (aO (i:=5) cu.nd rfl (.inr rfl) (bD (aU K rfl (pv 4)) T.bg T.qL ((qI (P:=P) (w:=w) T).mono (by decide)) hr T.uo .nil iD (ad (dw ["self","name","numbers","trial","layer","back","guests"] ["arm","number"] [] [7,8] (ak cJ) rfl rfl rfl (by decide+kernel) (by decide+kernel) (FX _ 7 8)
  (Gv K rfl rfl T.Mt (ad (aU K rfl (pv 3)) (ad (pv 2) af))) (fun cl C s₀ H₀ ex=>⟨(eX K rfl rfl (bo (aF (i:=7) (show List.Nodup ((["self","name","numbers","trial","layer","back","guests"]:List PySem.Str)++(["arm","number"]:List PySem.Str)) by decide+kernel) rfl (by first |exact Or.inl rfl |exact Or.inr rfl)) (bo (aF (i:=8) (show List.Nodup ((["self","name","numbers","trial","layer","back","guests"]:List PySem.Str)++(["arm","number"]:List PySem.Str)) by decide+kernel) rfl (by first |exact Or.inl rfl |exact Or.inr rfl)) eW))),cm,(cE (ad (cE (ad (pv 1) (ad (pv 7) af))) (ad (pv 8) af)))⟩)) af)))
 (ag (Nf (P:=P) (w:=w) (iW (i:=6) ["self","name","numbers","trial","layer","back","guests"] ["guest"] [] [7] (ak cJ) rfl rfl rfl (by decide+kernel) (by decide+kernel) (b9 7)
  (LE (P:=P) (w:=w) (aU K rfl (pv 4))) (fun cl C s₀ H₀ ex=>⟨(aF (i:=7) (show List.Nodup ((["self","name","numbers","trial","layer","back","guests"]:List PySem.Str)++(["guest"]:List PySem.Str)) by decide+kernel) rfl (by first |exact Or.inl rfl |exact Or.inr rfl)),(xj Jy),(pv 7)⟩) cu.nd))
 (ah (aI (bD (pv 0) T.ay T.vb ((u6 (P:=P) (w:=w) T).mono (by decide)) hr T.xh .nil aD (ad (pv 4) (ad (pv 6) af))))))))),?_⟩
  obtain⟨ow,m,hH,hTS,hR,hO,hn,htk,how⟩:=hS
  obtain⟨dx,sa,ci,hI⟩:=hH.ins
  obtain⟨t,ar,hv,hA⟩:=hH.tra.find hH.nms y hy
  obtain⟨dxt,ru,sh,pa,ba,hTr,har⟩:=hA
  obtain⟨dxl,z,hL⟩:=hH.lob
  refine⟨_,rfl,A.h,_,dx,_,_,rfl,hI,T.ay,T.aP,rfl,_,rfl,A.tn,.ref t,rfl,by rw[←hv];exact e8.k (k:=.inr y.nm) hH.trd,aq ?_⟩
  have hvl:bh [((.inr ly:Key),V.ref A.lo)] (.inr ly)=some (.ref A.lo):=bw rfl
  refine⟨_,rfl,A.h,_,dx,_,_,rfl,hI,T.ay,T.aY,rfl,_,rfl,t,_,dxt,_,_,rfl,hTr,T.bv,T.lF,rfl,A.ln,.ref A.lo,rfl,by rw[←hvl];exact e8.k (k:=.inr ly) hH.lay,aq ?_⟩
  obtain⟨dxT,hIT⟩:=hH.tab.ins
  refine⟨_,rfl,A.lo,_,dxl,_,_,rfl,hL,T.ff,T.dF,rfl,A.t,dxT,_,rfl,hIT,rfl,?_⟩
  refine⟨_,rfl,t,_,dxt,_,_,rfl,hTr,T.bv,T.dg,rfl,_,rfl,ar,nv,y.arms.map V.str,l.map V.int,rfl,har,?_⟩
  have hWl:(wOf y.nm y.arms l).length=y.arms.length:=tu hl
  refine BL (K:=K) (a:=ar) (l:=nv) (xs:=y.arms.map V.str) (ys:=l.map V.int) (fun D i acc H'=>am H H'∧H' D=some (.lst acc)∧WAt K H' acc ((wOf y.nm y.arms l).take i)) hnv (fun D hD=>⟨al (am.refl _) hD,ae,.nil⟩) (by rw[List.length_map,List.length_map,hl]) (fun D i acc H' h=>⟨am.tseq h.1 har,h.1⟩) ?_ ?_
  ·rintro D i x1 x2 acc H2 T1 hD hx1 hx2 ⟨s2,hD2,hW2⟩ hT1
   have hi:i<(y.arms.map V.str).length:=(List.getElem?_eq_some_iff.mp hx1).1
   rw[List.getElem?_map] at hx1 hx2
   obtain⟨ya,hya,rfl⟩:=Option.map_eq_some_iff.mp hx1
   obtain⟨z2,hz2,rfl⟩:=Option.map_eq_some_iff.mp hx2
   have s3:=al (o:=.tup [V.str ya,V.int z2]) (am.refl H2) hT1
   have hT3:upd H2 T1 (.tup [V.str ya,V.int z2]) T1=some (.tup [V.str ya,V.int z2]):=ae
   generalize upd H2 T1 (.tup [V.str ya,V.int z2])=H3 at s3 hT3⊢
   refine⟨T1,_,rfl,SqT.of hT3,rfl,_,_,rfl,aq ⟨_,_,rfl,aq ⟨rfl,pj (cL ?_)⟩⟩⟩
   refine⟨_,rfl,_,rfl,aC (show _≤65536 by simp),fun T4 hT4=>⟨_,rfl,aC (show _≤65536 by simp),fun T5 hT5=> ?_⟩⟩
   have s5:=al (o:=.tup [.ref T4,.int z2]) (al (o:=.tup [.str y.nm,.str ya]) s3 hT4) hT5
   have e5:upd (upd H3 T4 (.tup [.str y.nm,.str ya])) T5 (.tup [.ref T4,.int z2]) T5=some (.tup [.ref T4,.int z2]):=ae
   have e4:upd (upd H3 T4 (.tup [.str y.nm,.str ya])) T5 (.tup [.ref T4,.int z2]) T4=some (.tup [.str y.nm,.str ya]):=by rw[aj (au ae hT5)];exact ae
   have hal:acc.length≤4:=by have:=Paired.length hW2;rw[List.length_take] at this;omega
   show upd (upd H3 T4 (.tup [.str y.nm,.str ya])) T5 (.tup [.ref T4,.int z2]) D=some (.lst acc)∧_
   generalize upd (upd H3 T4 (.tup [.str y.nm,.str ya])) T5 (.tup [.ref T4,.int z2])=H5 at s5 e4 e5⊢
   have hD5:=s5 _ _ hD2
   have kp:Kp H5 (upd H5 D (.lst (acc++[.ref T5]))):=.lst hD5
   refine⟨hD5,by rw[sizeLine_eq];omega,lf hi ⟨br (s2.trans s5) hD,ae,?_⟩⟩
   rw[dr (IL hya hz2)]
   exact Paired.snoc ((hW2.kp (.of s5)).kp kp) ⟨T5,.ref T4,rfl,kp.tq (SqT.of e5),T4,rfl,kp.tq (SqT.of e4)⟩
  ·rintro D acc H2 hD ⟨s2,hD2,hW2⟩
   rw[List.length_map,List.take_of_length_le (by omega)] at hW2
   have hH2:=hH.same s2
   refine⟨A.t,A.od,A.td,D,n,ow,tk,m,S,wOf y.nm y.arms l,acc,rfl,hH2.tab,hTS,hR.mono fun _ _ x=>bN s2 x,hO,hD2,hW2,Cg hl0,Ch hl hnd,by omega,hn,by omega,by omega,fun hle lb ow' tk' m' H3 off hT3 hS3 hR3 hlb hlb3 nw nl b1 b2=>aq ?_,fun hlt H3 s3=>qe hlt H3 (s2.trans s3)⟩
   have hH3:=hH2.off off hT3 nw
   obtain⟨dx3,sa3,ci3,hI3⟩:=hH3.ins
   obtain⟨dxl3,z3,hL3⟩:=hH3.lob
   refine⟨_,rfl,A.lo,_,dxl3,_,_,rfl,hL3,T.ff,T.o9,rfl,A.iu,[],rfl,hH3.isd,fun ep=>fun Dg hDg=> ?_⟩
   refine⟨fun i m acc H2=>i=0∧acc=[]∧H2=upd (upd H3 A.iu (dE P w A.iu [] ep)) Dg (.lst []),⟨0,rfl,rfl,rfl⟩,?_⟩
   rintro i m acc H2 ⟨rfl,rfl,rfl⟩
   have nd:A.iu≠Dg:=fun z=>by rw[←z,ae] at hDg;cases hDg
   have hDg3:H3 Dg=none:=by rw[aj (Ne.symm nd)] at hDg;exact hDg
   have e1:upd (upd H3 A.iu (dE P w A.iu [] ep)) Dg (.lst []) A.iu=some (dE P w A.iu [] ep):=by rw[aj nd,ae]
   have s4:am H3 (upd (upd (upd H3 A.iu (dE P w A.iu [] ep)) Dg (.lst [])) A.iu (.dK [])):=fun b o hb=>by
    by_cases e:b=A.iu
    ·rw[e,ae]
     rw[e,hH3.isd] at hb
     exact hb
    ·rw[aj e,aj (au hb hDg3),aj e]
     exact hb
   have e4:upd (upd (upd H3 A.iu (dE P w A.iu [] ep)) Dg (.lst [])) A.iu (.dK []) Dg=some (.lst []):=by rw[aj (Ne.symm nd)];exact ae
   refine .inl ⟨⟨e1,Nat.le_refl _⟩,aq ⟨A.iu,[],ep,e1,?_⟩⟩
   generalize upd (upd (upd H3 A.iu (dE P w A.iu [] ep)) Dg (.lst [])) A.iu (.dK [])=H4 at s4 e4⊢
   refine⟨_,rfl,A.h,dx3,_,rfl,s4 _ _ hI3,rfl,_,rfl,_,rfl,A.h,A.lo,Dg,rfl,e4,fun r H5 s5 hr hr5=> ?_⟩
   have o3:Off A.od A.td H H3:=(Off.of s2).trans off
   have o5:Off A.od A.td H H5:=o3.trans (.of (s4.trans s5))
   refine q hle r tk' H5 o5 ⟨ow',m',hH3.same (s4.trans s5),hS3,hR3.mono fun _ _ x=>bN (s4.trans s5) (cr off hH2.tab.own hH2.tab.tak x),gz _ (cY _ hO),hn,by omega,by omega⟩ (bC.trans (bC.refl H tk) nw fun l h=>s2.free h) (jW o3 (by rw[hT3.own];simp) (by rw[hT3.tak];simp) (s4.free hr)) hr5
end
def fC (x:Str) (trs:List TrS):List TrS:=trs.map fun z=>if z.nm=x then {z with cl:=true} else z
theorem Bt (x:Str): ∀trs:List TrS,(fC x trs).map (·.nm)=trs.map (·.nm)
 | []=>rfl
 |z::r=>by
  show(if z.nm=x then {z with cl:=true} else z).nm::(fC x r).map (·.nm)=z.nm::r.map (·.nm)
  rw[Bt x r]
  split<;>rfl
theorem Kp.ins {H:Hp}{b C dx:Addr}{o:HO}{fs:List (Str×V)}(h:H b=some (.ins C dx fs)):Kp H (upd H b o):=
 ⟨fun u xs e=>by rw[aj (fun z=>by rw[z,h] at e;cases e)];exact e,fun u o ⟨o',e⟩=>⟨o',by rw[aj (fun z=>by rw[z,h] at e;cases e)];exact e⟩⟩
theorem cS.frame {K:PySem.W.Frag}{C t C' dx:Addr}{H:Hp}{ly:Str}{o:HO}{fs:List (Str×V)}(ht:H t=some (.ins C' dx fs)): ∀{tv:List (Key×V)}{trs:List TrS},cS K C H ly tv trs→(∀x∈tv,x.2≠.ref t)→cS K C (upd H t o) ly tv trs
 |_,_,.nil,_=> .nil
 |_,_,.cons ⟨h1,t',ar,h2,dx',ru,sh,pa,ba,h3,h4⟩ r,hn=> .cons ⟨h1,t',ar,h2,dx',ru,sh,pa,ba,by rw[aj (fun z=>hn _ List.mem_cons_self (by rw[h2,z]))];exact h3,(Kp.ins ht).tq h4⟩ (cS.frame ht r fun x hx=>hn x (List.mem_cons_of_mem _ hx))
theorem cS.noone {K:PySem.W.Frag}{C:Addr}{H:Hp}{ly x:Str}: ∀{tv:List (Key×V)}{trs:List TrS},cS K C H ly tv trs→x∉trs.map (·.nm)→fC x trs=trs
 |_,_,.nil,_=>rfl
 |_,_,.cons (b:=z) _ r,hn=>by
  rw[List.map_cons,List.mem_cons,not_or] at hn
  unfold fC
  rw[List.map_cons,if_neg (fun e=>hn.1 e.symm)]
  exact congrArg _ (cS.noone r hn.2)
theorem DO {tv:List (Key×V)}{k:Key}{v:V}(h:bh tv k=some v):v∈tv.map (·.2):=by
 unfold bh at h
 obtain⟨x,hx,e⟩:=Option.map_eq_some_iff.mp h
 exact List.mem_map.mpr ⟨x,List.mem_of_find?_eq_some hx,e⟩
theorem cS.close {K:PySem.W.Frag}{C t ar dx:Addr}{H:Hp}{ly hm x:Str}{ru sh pa ba:V}{cl:Bool}(ht:H t=some (.ins C dx [("home",.str hm),("arms",.ref ar),("rule",ru),("shuts",sh),("paused",pa),("closed",.bl cl),("barred",ba)])): ∀{tv:List (Key×V)}{trs:List TrS},cS K C H ly tv trs→(trs.map (·.nm)).Nodup→(tv.map (·.2)).Nodup→bh tv (.inr x)=some (.ref t)→
  cS K C (upd H t (.ins C dx [("home",.str hm),("arms",.ref ar),("rule",ru),("shuts",sh),("paused",pa),("closed",.bl true),("barred",ba)])) ly tv (fC x trs)
 |_,_,.nil,_,_,hv=>nomatch hv
 |p::tv,z::trs,.cons ⟨h1,t',ar',h2,dx',ru',sh',pa',ba',h3,h4⟩ r,hn,ha,hv=>by
  rw[List.map_cons,List.nodup_cons] at hn ha
  by_cases e:p.1=.inr x
  ·have hzx:z.nm=x:=Sum.inr.inj (h1.symm.trans e)
   rw[bw e,h2] at hv
   cases hv
   rw[h3] at ht
   cases ht
   have e2:fC x (z::trs)={z with cl:=true}::fC x trs:=by
    unfold fC
    rw[List.map_cons,if_pos hzx]
   rw[e2,cS.noone r (by rw[←hzx];exact hn.1)]
   refine .cons ⟨h1,t,ar,h2,dx,ru,sh,pa,ba,ae,(Kp.ins h3).tq h4⟩ (cS.frame h3 r fun y hy ey=>ha.1 ?_)
   rw[h2,←ey]
   exact List.mem_map.mpr ⟨y,hy,rfl⟩
  ·have hzx: ¬z.nm=x:=fun q=>e (by rw[h1,q])
   rw[bP e] at hv
   have e2:fC x (z::trs)=z::fC x trs:=by
    unfold fC
    rw[List.map_cons,if_neg hzx]
   rw[e2]
   refine .cons ⟨h1,t',ar',h2,dx',ru',sh',pa',ba',?_,(Kp.ins ht).tq h4⟩ (cS.close ht r hn.2 ha.2 hv)
   rw[aj (fun q=>ha.1 ?_)]
   ·exact h3
   ·rw[h2,q]
    exact DO hv
theorem FW {H:Hp}{b c C C' dx dx':Addr}{f g:Str}{u v:V}{fs gs:List (Str×V)}(h1:H b=some (.ins C dx ((f,u)::fs))) (h2:H c=some (.ins C' dx' ((g,v)::gs))) (hn:f≠g):b≠c:=fun z=>by
 rw[z,h2] at h1
 have h1:=(HO.ins.inj (Option.some.inj h1)).2.2
 exact hn (Prod.mk.inj (List.cons.inj h1).1).1.symm
theorem dC {H:Hp}{a b:Addr}{o:HO}(h:upd H a o b=none):H b=none:=by
 by_cases e:b=a
 ·subst e
  rw[ae] at h
  cases h
 ·rw[aj e] at h
  exact h
structure Dfr (A:HA) (tv:List (Key×V)) (H H':Hp):Prop where
 fr: ∀b o,H b=some o→b≠A.od→b≠A.td→b≠A.dl→(∀x∈tv,x.2≠.ref b)→H' b=some o
 dm: ∀b,H' b=none→H b=none
theorem kG.close {P:Program}{w:World}{K:PySem.W.Frag}{a:Adr}{H:Hp}{A:HA}{n:Nat}{ly:Str}{tv:List (Key×V)}{trs:List TrS}{ow:List (Key×V)}{tk:List aW}{m:List Pl}{ds:List V}{t ar dx:Addr}{hm x:Str}{ru sh pa ba:V}{cl:Bool}(h:kG P w K a H A n ly tv trs ow tk m ds)
  (ht:H t=some (.ins a.bT dx [("home",.str hm),("arms",.ref ar),("rule",ru),("shuts",sh),("paused",pa),("closed",.bl cl),("barred",ba)])) (hv:bh tv (.inr x)=some (.ref t)):
  kG P w K a (upd H t (.ins a.bT dx [("home",.str hm),("arms",.ref ar),("rule",ru),("shuts",sh),("paused",pa),("closed",.bl true),("barred",ba)])) A n ly tv (fC x trs) ow tk m ds:=by
 have hc:=h.tra.close ht h.nms h.apt hv
 have kp:Kp H (upd H t (.ins a.bT dx [("home",.str hm),("arms",.ref ar),("rule",ru),("shuts",sh),("paused",pa),("closed",.bl true),("barred",ba)])):=.ins ht
 generalize (HO.ins a.bT dx [("home",.str hm),("arms",.ref ar),("rule",ru),("shuts",sh),("paused",pa),("closed",.bl true),("barred",ba)])=o at hc kp⊢
 have go: ∀b ob,H b=some ob→(∀C dx fs,ob≠.ins C dx fs)→upd H t o b=some ob:=fun b ob e h1=>by
  rw[aj (fun z=>by rw[z,ht] at e;cases e;exact h1 _ _ _ rfl)]
  exact e
 obtain⟨dxT,hT⟩:=h.tab.ins
 refine {h with ins:=?_,lay:=go _ _ h.lay (fun _ _ _ z=>nomatch z),lob:=?_,isd:=go _ _ h.isd (fun _ _ _ z=>nomatch z),tab:=⟨⟨dxT,?_⟩,go _ _ h.tab.own (fun _ _ _ z=>nomatch z),go _ _ h.tab.tak (fun _ _ _ z=>nomatch z),fun x hx=>bA kp (h.tab.keys x hx),?_⟩,trd:=go _ _ h.trd (fun _ _ _ z=>nomatch z),tra:=hc,nms:=by rw[Bt];exact h.nms,dee:=go _ _ h.dee (fun _ _ _ z=>nomatch z)}
 ·obtain⟨dx,sa,ci,i⟩:=h.ins
  exact⟨dx,sa,ci,by rw[aj (FW i ht (by decide+kernel))];exact i⟩
 ·obtain⟨dx,z,i⟩:=h.lob
  exact⟨dx,z,by rw[aj (FW i ht (by decide+kernel))];exact i⟩
 ·rw[aj (FW hT ht (by decide+kernel))]
  exact hT
 ·have walk: ∀{tk':List aW}{m':List Pl},cF H tk' m'→cF (upd H t o) tk' m':=by
   intro tk' m' h
   induction h with
   |nil=>exact .nil
   |cons r t ih=>
    obtain⟨e1,e2,l,e3,e4⟩:=r
    exact .cons ⟨e1,e2,l,e3,go _ _ e4 (fun _ _ _ z=>nomatch z)⟩ ih
  exact walk h.tab.lsts
theorem u9 {S:AS}: ∀{W:Wl},(∀x∈W,x.2=0)→bf S W≤0
 | [],_=>Int.le_refl _
 |x::r,h=>by
  rw[dD,h x List.mem_cons_self]
  have:=u9 (S:=S) (W:=r) fun y hy=>h y (List.mem_cons_of_mem _ hy)
  omega
def kT:bc:=bS "" ""
inductive M4 (P:Program) (w:World) (K:PySem.W.Frag) (a:Adr) (vs:List V) (H:Hp) (Q:VK) (E:XK):Prop
 |mk (A:HA) (n:Nat) (ly:Str) (tv:List (Key×V)) (trs:List TrS) (tk:List aW) (ds:List V) (S:AS) (c:Nat) (z:Int) (_:vs=[.ref A.h,.str ly,.int z]) (_:bH P w K a H A n ly tv trs tk ds S c) (_:c≤99) (_:0≤z) (_:(bf S [(kT,z)]≤((frl n S.oc).length:Int)→ ∀(r:Addr) (tk':List aW) H',Off A.od A.td H H'→bH P w K a H' A n ly tv trs tk' ds (aS n (aV S [(kT,z)]) [(kT,z)]) (c+1)→bC H tk tk'→H r=none→H' r=some (.lst [])→Q (.ref r) H')) (_:(((frl n S.oc).length:Int)<bf S [(kT,z)]→ ∀H',am H H'→E (.ref a.oU) none H'))
inductive Lk (P:Program) (w:World) (K:PySem.W.Frag) (a:Adr) (vs:List V) (H:Hp) (Q:VK) (E:XK):Prop
 |mk (A:HA) (n:Nat) (ly:Str) (tv:List (Key×V)) (trs:List TrS) (tk:List aW) (ds:List V) (S:AS) (c:Nat) (y:TrS) (_:vs=[.ref A.h,.str y.nm]) (_:bH P w K a H A n ly tv trs tk ds S c) (_:c≤99) (_:y∈trs) (_:y.arms.length≤4) (_:y.arms.Nodup) (_: ∀(r:Addr) (tk':List aW) H',Dfr A tv H H'→bH P w K a H' A n ly tv (fC y.nm trs) tk' ds (aS n (aV S (wOf y.nm y.arms (List.replicate y.arms.length 0))) (wOf y.nm y.arms (List.replicate y.arms.length 0))) (c+1)→bC H tk tk'→H r=none→H' r=some (.lst [])→Q (.ref r) H')
section
variable {P:Program}{w:World}{K:PySem.W.Frag}{mg:Str→Option Value}{base:Heap}{a:Adr}
theorem u7 (T:Txt K mg a):bd P w K mg base (CXe P w) 4 a.mj a.cO ["self","name","number"] (M4 P w K a):=by
 refine T.xf.okE uZ (fun vs H Q E h=> ?_) (fun cdv A outer s H vs Q E hr h=> ?_)
 ·obtain⟨A,n,ly,tv,trs,tk,ds,S,c,z,rfl,_⟩:=h
  rfl
 ·obtain⟨A,n,ly,tv,trs,tk,ds,S,c,z,rfl,hS,hc,hz,q,qe⟩:=h
  refine⟨_,(ag (aX (bD (aU K rfl (iC (cw hr) (aU K rfl (pv 0)) (pv 1) (fun _ _=>rfl))) T.bg T.qL ((qI (P:=P) (w:=w) T).mono (by decide)) hr T.uo .nil iD (ad (b7 (ad (cE (ad (dB (v:=.ref a.Bm) ⟨_,T.NG,rfl⟩ rfl) (ad (pv 2) af))) af)) af)))
 (ah (aI (b7 af)))),?_⟩
  obtain⟨ow,m,hH,hTS,hR,hO,hn,htk,how⟩:=hS
  obtain⟨dx,sa,ci,hI⟩:=hH.ins
  obtain⟨dxl,zl,hL⟩:=hH.lob
  obtain⟨dxT,hIT⟩:=hH.tab.ins
  have hvl:bh [((.inr ly:Key),V.ref A.lo)] (.inr ly)=some (.ref A.lo):=bw rfl
  refine⟨_,rfl,A.h,_,dx,_,_,rfl,hI,T.ay,T.aY,rfl,_,rfl,A.ln,.ref A.lo,rfl,by rw[←hvl];exact e8.k (k:=.inr ly) hH.lay,?_⟩
  refine⟨A.lo,_,dxl,_,_,rfl,hL,T.ff,T.dF,rfl,A.t,dxT,_,rfl,hIT,rfl,?_⟩
  refine⟨_,rfl,aC (show _≤65536 by simp),fun T4 hT4=>⟨aC (show _≤65536 by simp),fun D hD=> ?_⟩⟩
  have s2:=al (o:=.lst [.ref T4]) (al (o:=.tup [.ref a.Bm,.int z]) (am.refl H) hT4) hD
  have e5:upd (upd H T4 (.tup [.ref a.Bm,.int z])) D (.lst [.ref T4]) D=some (.lst [.ref T4]):=ae
  have e4:upd (upd H T4 (.tup [.ref a.Bm,.int z])) D (.lst [.ref T4]) T4=some (.tup [.ref a.Bm,.int z]):=by rw[aj (au ae hD)];exact ae
  generalize upd (upd H T4 (.tup [.ref a.Bm,.int z])) D (.lst [.ref T4])=H2 at s2 e4 e5⊢
  have hH2:=hH.same s2
  refine⟨A.t,A.od,A.td,D,n,ow,tk,m,S,[(kT,z)],[.ref T4],rfl,hH2.tab,hTS,hR.mono fun _ _ x=>bN s2 x,hO,e5,.cons ⟨T4,.ref a.Bm,rfl,SqT.of e4,a.Bm,rfl,T.L1.sq _⟩ .nil,fun x hx=>by rw[List.mem_singleton.mp hx];exact hz,by simp,by simp,hn,by omega,by omega,fun hle lb ow' tk' m' H3 off hT3 hS3 hR3 hlb hlb3 nw nl b1 b2=> ?_,fun hlt H3 s3=>qe hlt H3 (s2.trans s3)⟩
  have hH3:=hH2.off off hT3 nw
  refine⟨aC (show _≤65536 by simp),fun r hr=> ?_⟩
  have s4:=al (o:=.lst []) (am.refl H3) hr
  have o3:Off A.od A.td H H3:=(Off.of s2).trans off
  exact q hle r tk' _ (o3.trans (.of s4)) ⟨ow',m',hH3.same s4,hS3,hR3.mono fun _ _ x=>bN s4 (cr off hH2.tab.own hH2.tab.tak x),gz _ (cY _ hO),hn,by omega,by omega⟩ (bC.trans (bC.refl H tk) nw fun l h=>s2.free h) (jW o3 (by rw[hT3.own];simp) (by rw[hT3.tak];simp) hr) ae
theorem tS (T:Txt K mg a):bd P w K mg base (CXe P w) 5 a.kF a.cC ["self","name"] (Lk P w K a):=by
 refine T.vI.okE kQ (fun vs H Q E h=> ?_) (fun cdv A outer s H vs Q E hr h=> ?_)
 ·obtain⟨A,n,ly,tv,trs,tk,ds,S,c,y,rfl,_⟩:=h
  rfl
 ·obtain⟨A,n,ly,tv,trs,tk,ds,S,c,y,rfl,hS,hc,hy,h4,hnd,q⟩:=h
  refine⟨_,(ag (aO (i:=2) kQ.nd rfl (.inl rfl) (iC (cw hr) (aU K rfl (pv 0)) (pv 1) (fun _ _=>rfl)))
 (ag (bV K rfl (pv 2) mx)
 (ah (aI (bD (pv 0) T.ay T.fM ((fJ (P:=P) (w:=w) T).mono (by decide)) hr T.ia .nil iD (ad (pv 1) (ad (aA JF (b7 (ad ai af)) (az (aK K rfl) (by rfl) T.bK L2.aQ (ad (aU K rfl (pv 2)) af))) af))))))),?_⟩
  obtain⟨ow,m,hH,hTS,hR,hO,hn,htk,how⟩:=hS
  obtain⟨dx,sa,ci,hI⟩:=hH.ins
  obtain⟨t,ar,hv,hA⟩:=hH.tra.find hH.nms y hy
  obtain⟨dxt,ru,sh,pa,ba,hTr,har⟩:=hA
  refine⟨_,rfl,A.h,_,dx,_,_,rfl,hI,T.ay,T.aP,rfl,_,rfl,A.tn,.ref t,rfl,by rw[←hv];exact e8.k (k:=.inr y.nm) hH.trd,aq ?_⟩
  refine⟨_,rfl,t,_,dxt,_,rfl,hTr,T.bv,T.cZ,by simp,?_⟩
  rw[show dz "closed" (V.bl true) [("home",V.str ly),("arms",V.ref ar),("rule",ru),("shuts",sh),("paused",pa),("closed",V.bl y.cl),("barred",ba)]=([("home",V.str ly),("arms",V.ref ar),("rule",ru),("shuts",sh),("paused",pa),("closed",V.bl true),("barred",ba)]:List (Str×V)) from rfl]
  have hH1:=hH.close hTr hv
  have kp1:=Kp.ins (o:=.ins a.bT dxt [("home",V.str ly),("arms",V.ref ar),("rule",ru),("shuts",sh),("paused",pa),("closed",V.bl true),("barred",ba)]) hTr
  have hT1:upd H t (.ins a.bT dxt [("home",V.str ly),("arms",V.ref ar),("rule",ru),("shuts",sh),("paused",pa),("closed",V.bl true),("barred",ba)]) t=some (.ins a.bT dxt [("home",V.str ly),("arms",V.ref ar),("rule",ru),("shuts",sh),("paused",pa),("closed",V.bl true),("barred",ba)]):=ae
  have f1: ∀b o,H b=some o→b≠t→upd H t (.ins a.bT dxt [("home",V.str ly),("arms",V.ref ar),("rule",ru),("shuts",sh),("paused",pa),("closed",V.bl true),("barred",ba)]) b=some o:=fun b o e hb=>by rw[aj hb];exact e
  have d1: ∀b,upd H t (.ins a.bT dxt [("home",V.str ly),("arms",V.ref ar),("rule",ru),("shuts",sh),("paused",pa),("closed",V.bl true),("barred",ba)]) b=none→H b=none:=fun b e=>by
   by_cases z:b=t
   ·rw[z,ae] at e;cases e
   ·rw[aj z] at e;exact e
  generalize upd H t (.ins a.bT dxt [("home",V.str ly),("arms",V.ref ar),("rule",ru),("shuts",sh),("paused",pa),("closed",V.bl true),("barred",ba)])=H1 at hH1 kp1 hT1 f1 d1⊢
  obtain⟨dx1,sa1,ci1,hI1⟩:=hH1.ins
  have har1:=kp1.tq har
  refine⟨_,rfl,A.h,dx1,_,rfl,hI1,rfl,_,rfl,aC (show _≤65536 by simp),fun l0 hl0=> ?_⟩
  have s2:=al (o:=.lst [.int 0]) (am.refl H1) hl0
  have e2:upd H1 l0 (.lst [.int 0]) l0=some (.lst [.int 0]):=ae
  generalize upd H1 l0 (.lst [.int 0])=H2 at s2 e2⊢
  refine⟨_,rfl,t,_,dxt,_,_,rfl,s2 _ _ hT1,T.bv,T.dg,rfl,_,y.arms.length,rfl,.inr ⟨_,am.tseq s2 har1,by simp⟩,l0,_,_,rfl,rfl,e2,by omega,by omega,aC (by simp;omega),fun g hg=> ?_⟩
  have s3:=al (o:=.lst (List.replicate (y.arms.length:Int).toNat [V.int 0]).flatten) s2 hg
  have e0:(List.replicate (y.arms.length:Int).toNat [V.int 0]).flatten=(List.replicate y.arms.length (0:Int)).map V.int:=by
   rw[Int.toNat_natCast,List.map_replicate]
   generalize y.arms.length=j
   induction j with
   |zero=>rfl
   |succ j ih=>rw[List.replicate_succ,List.flatten_cons,ih,List.replicate_succ];rfl
  have e3:upd H2 g (.lst (List.replicate (y.arms.length:Int).toNat [V.int 0]).flatten) g=some (.lst ((List.replicate y.arms.length (0:Int)).map V.int)):=by rw[ae,e0]
  generalize upd H2 g (.lst (List.replicate (y.arms.length:Int).toNat [V.int 0]).flatten)=H3 at s3 e3⊢
  have hy2:({y with cl:=true}:TrS)∈fC y.nm trs:=List.mem_map.mpr ⟨y,hy,by rw[if_pos rfl]⟩
  have hS3:bH P w K a H3 A n ly tv (fC y.nm trs) tk ds S c:=⟨ow,m,hH1.same s3,hTS,hR.mono fun _ _ x=>bN s3 (bA kp1 x),hO,hn,htk,how⟩
  have hz0: ∀x∈wOf y.nm y.arms (List.replicate y.arms.length 0),x.2=0:=fun x hx=>by
   obtain⟨p,hp,rfl⟩:=List.mem_map.mp hx
   exact List.eq_of_mem_replicate (List.of_mem_zip hp).2
  have hne:=u9 (S:=S) hz0
  refine⟨A,n,ly,tv,fC y.nm trs,tk,ds,S,c,{y with cl:=true},g,List.replicate y.arms.length 0,rfl,hS3,hc,hy2,.inl (SqL.of e3),List.length_replicate,h4,hnd,fun i hi=>by rw[List.eq_of_mem_replicate hi];exact Int.le_refl _,fun hle r tk' H4 off hS4 nw hr hr4=> ?_,fun hlt=>absurd hne (by show¬bf S (wOf y.nm y.arms (List.replicate y.arms.length 0))≤0;have:bf S (wOf y.nm y.arms (List.replicate y.arms.length 0))>_:=hlt;omega)⟩
  have tm:V.ref t∈tv.map (·.2):=DO hv
  obtain⟨xt,hxt,ext⟩:=List.mem_map.mp tm
  have hno: ∀b,H4 b=none→H3 b=none:=fun b e=>by
   obtain⟨_,_,h4,_⟩:=hS4
   exact jW off (by rw[h4.tab.own];simp) (by rw[h4.tab.tak];simp) e
  refine q r tk' H4 ⟨fun b o e h1 h2 h3 h5=>off b o (s3 _ _ (f1 b o e fun z=>h5 xt hxt (by rw[ext,z]))) h1 h2,fun b e=>d1 b (s3.free (hno b e))⟩ hS4 (bC.trans (bC.refl H tk) nw fun l h=>d1 l (s3.free h)) (d1 r (s3.free hr)) hr4
end
structure qj (y:TrS):Prop where
 wd:Wd y.nm
 a1:1≤y.arms.length
 a4:y.arms.length≤4
 nd:y.arms.Nodup
 aw: ∀z∈y.arms,Wd z
inductive gu (K:PySem.W.Frag) (H:Hp) (ly:Str) (trs:List TrS):List V→Wl→Bool→List TrS→Prop
 |share {y:TrS}{nv:Addr}{l:List Int}(hy:y∈trs) (h1:SqT K H nv (l.map V.int)) (h2:l.length=y.arms.length) (h3: ∀i∈l,0≤i):gu K H ly trs [.str "share",.str y.nm,.ref nv] (wOf y.nm y.arms l) y.cl trs
 |deal {y:TrS}{z:Int}{wt:Addr}{ws:List Int}(hy:y∈trs) (hz:0≤z∧z≤1000) (h1:SqT K H wt (ws.map V.int)) (h2:ws.length=y.arms.length) (h3: ∀i∈ws,1≤i∧i≤er):gu K H ly trs [.str "deal",.str y.nm,.int z,.ref wt] (wOf y.nm y.arms (deal ws z.toNat)) y.cl trs
 |hold {z:Int}(hz:0≤z):gu K H ly trs [.str "hold",.str ly,.int z] [(kT,z)] false trs
 |close {y:TrS}(hy:y∈trs):gu K H ly trs [.str "close",.str y.nm] (wOf y.nm y.arms (List.replicate y.arms.length 0)) y.cl (fC y.nm trs)
theorem gu.same {K:PySem.W.Frag}{H H':Hp}{ly:Str}{trs trs':List TrS}{xs:List V}{W:Wl}{cl:Bool}(e:am H H') (h:gu K H ly trs xs W cl trs'):gu K H' ly trs xs W cl trs':=by
 cases h with
 |share hy h1 h2 h3=>exact .share hy (am.tseq e h1) h2 h3
 |deal hy hz h1 h2 h3=>exact .deal hy hz (am.tseq e h1) h2 h3
 |hold hz=>exact .hold hz
 |close hy=>exact .close hy
theorem EQ (ws:List Int) (n:Nat): ∀i∈deal ws n,0≤i:=fun i hi=>by
 obtain⟨k,hk⟩:=List.mem_iff_getElem?.mp hi
 have:=(xr ws n k).1
 unfold gd at this
 rw[List.getD_eq_getElem?_getD,hk] at this
 exact this
inductive Mi (K:PySem.W.Frag) (P:Program) (w:World) (a:Adr) (h d:Addr) (H:Hp) (Q:VK):Prop
 |mk (x:Str) (z:Int) (dx ln tn dl:Addr) (sa ci:V) (n:Nat) (_:SqT K H d [.str "layer",.str x,.int z]) (_:H h=some (.ins a.bp dx [("own_prime",.int n),("own_salt",sa),("layer_named",.ref ln),("trial_named",.ref tn),("came_into",ci),("deeds",.ref dl)])) (_:H ln=some (.dK [])) (_: ∀(lo t od td iu r:Addr) (H':Hp),H lo=none→H t=none→H od=none→H td=none→H iu=none→od≠iu→(∀b o,H b=some o→b≠ln→H' b=some o)→H' ln=some (.dK [(.inr x,.ref lo)])→(∃dx,H' lo=some (.ins a.et dx [("slope",.int z),("table",.ref t),("inside",.ref iu)]))→dR P w K a.bE H' t od td n [] [] []→H' iu=some (.dK [])→H' r=some (.lst [])→Q (.ref r) H')
inductive Mf (K:PySem.W.Frag) (P:Program) (w:World) (a:Adr) (h d:Addr) (H:Hp) (Q:VK):Prop
 |mk (A:HA) (n:Nat) (ly:Str) (tv:List (Key×V)) (trs:List TrS) (tk:List aW) (ds:List V) (S:AS) (c:Nat) (x:Str) (ar ru sh:Addr) (arms:List Str) (_:A.h=h) (_:SqT K H d [.str "trial",.str x,.str ly,.ref ar,.ref ru,.ref sh]) (_:bH P w K a H A n ly tv trs tk ds S c) (_:SqT K H ar (arms.map V.str)) (_:x∉trs.map (·.nm)) (_:tv.length<1000) (_: ∀(t r:Addr) (H':Hp),H t=none→(∀b o,H b=some o→b≠A.tn→H' b=some o)→bH P w K a H' A n ly (tv++[(.inr x,.ref t)]) (trs++[⟨x,arms,false⟩]) tk ds S c→H' r=some (.lst [])→Q (.ref r) H')
inductive WSp (K:PySem.W.Frag) (P:Program) (w:World) (a:Adr) (h d:Addr) (H:Hp) (Q:VK) (E:XK):Prop
 |mk (A:HA) (n:Nat) (ly:Str) (tv:List (Key×V)) (trs trs':List TrS) (tk:List aW) (ds:List V) (S:AS) (c:Nat) (xs:List V) (W:Wl) (cl:Bool) (_:A.h=h) (_:SqT K H d xs) (_:bH P w K a H A n ly tv trs tk ds S c) (_:c≤99) (_:(∀y∈trs,qj y)) (_:gu K H ly trs xs W cl trs') (_:(bf S W≤((frl n S.oc).length:Int)→ ∀(r:Addr) (tk':List aW) H',Dfr A tv H H'→bH P w K a H' A n ly tv trs' tk' ds (aS n (aV S W) W) (c+1)→bC H tk tk'→H r=none→H' r=some (.lst [])→Q (.ref r) H')) (_:(((frl n S.oc).length:Int)<bf S W→ ∀H',am H H'→E (.ref a.oU) none H'))
inductive M7 (P:Program) (w:World) (K:PySem.W.Frag) (a:Adr) (vs:List V) (H:Hp) (Q:VK) (E:XK):Prop
 |mk (h:_) (d:_) (_:vs=[.ref h,.ref d]) (_:(Mi K P w a h d H Q∨Mf K P w a h d H Q∨WSp K P w a h d H Q E))
inductive Hd (P:Program) (w:World) (K:PySem.W.Frag) (a:Adr) (vs:List V) (H:Hp) (Q:VK) (_E:XK):Prop
 |mk (h:Addr) (x:Str) (z:Int) (dx ln tn dl:Addr) (sa ci:V) (n:Nat) (_:vs=[.ref h,.str x,.int z]) (_:H h=some (.ins a.bp dx [("own_prime",.int n),("own_salt",sa),("layer_named",.ref ln),("trial_named",.ref tn),("came_into",ci),("deeds",.ref dl)])) (_:H ln=some (.dK [])) (_: ∀(lo t od td iu r:Addr) (H':Hp),H lo=none→H t=none→H od=none→H td=none→H iu=none→od≠iu→(∀b o,H b=some o→b≠ln→H' b=some o)→H' ln=some (.dK [(.inr x,.ref lo)])→(∃dx,H' lo=some (.ins a.et dx [("slope",.int z),("table",.ref t),("inside",.ref iu)]))→dR P w K a.bE H' t od td n [] [] []→H' iu=some (.dK [])→H' r=some (.lst [])→Q (.ref r) H')
inductive Hc (P:Program) (w:World) (K:PySem.W.Frag) (a:Adr) (vs:List V) (H:Hp) (Q:VK) (_E:XK):Prop
 |mk (A:HA) (n:Nat) (ly:Str) (tv:List (Key×V)) (trs:List TrS) (tk:List aW) (ds:List V) (S:AS) (c:Nat) (x:Str) (t ar:Addr) (arms:List Str) (_:vs=[.ref A.h,.str x,.ref t]) (_:bH P w K a H A n ly tv trs tk ds S c) (_:pd K a.bT H t ly ar arms false) (_:x∉trs.map (·.nm)) (_:(∀y∈tv,y.2≠.ref t)) (_:tv.length<1000) (_: ∀(r:Addr) (H':Hp),(∀b o,H b=some o→b≠A.tn→H' b=some o)→bH P w K a H' A n ly (tv++[(.inr x,.ref t)]) (trs++[⟨x,arms,false⟩]) tk ds S c→H' r=some (.lst [])→Q (.ref r) H')
theorem cS.none {K:PySem.W.Frag}{C:Addr}{H:Hp}{ly x:Str}: ∀{tv:List (Key×V)}{trs:List TrS},cS K C H ly tv trs→x∉trs.map (·.nm)→bh tv (.inr x)=none
 |_,_,.nil,_=>rfl
 |_,_,.cons ⟨h1,_⟩ r,hn=>by
  rw[List.map_cons,List.mem_cons,not_or] at hn
  rw[bP (fun e=>hn.1 (by rw[h1] at e;exact(Sum.inr.inj e).symm))]
  exact cS.none r hn.2
section
variable {P:Program}{w:World}{K:PySem.W.Frag}{mg:Str→Option Value}{base:Heap}{a:Adr}
theorem tR (T:Txt K mg a):bd P w K mg base CX0 5 a.kE a.cB ["self","name","slope"] (Hd P w K a):=by
 refine T.vH.ok tL (fun vs H Q E h=> ?_) (fun cdv A outer s H vs Q E hr h=> ?_)
 ·obtain⟨h,x,z,dx,ln,tn,dl,sa,ci,n,rfl,_⟩:=h
  rfl
 ·obtain⟨h,x,z,dx,ln,tn,dl,sa,ci,n,rfl,hI,hln,q⟩:=h
  refine⟨_,(ag (lD (xk T.JS ((wR (P:=P) (w:=w) T).mono (by decide)) hr rfl T.LY T.zL .nil aD (ad (pv 2) (ad (aU K rfl (pv 0)) af))) (nH (aU K rfl (pv 0)) (pv 1) (Co (cw hr))))
 (ah (aI (b7 af)))),?_⟩
  refine⟨_,rfl,_,rfl,h,_,dx,_,_,rfl,hI,T.ay,T.bM,rfl,fun lo ty hlo hty hne=> ?_⟩
  have f2: ∀b o,H b=some o→upd (upd H ty (.own lo)) lo (.ins a.et ty []) b=some o:=fun b o e=>by rw[aj (au e hlo),aj (au e hty)];exact e
  have hb2:upd (upd H ty (.own lo)) lo (.ins a.et ty []) lo=some (.ins a.et ty []):=ae
  generalize upd (upd H ty (.own lo)) lo (.ins a.et ty [])=H2 at f2 hb2⊢
  have n2: ∀b,H2 b=none→H b=none:=fun b e=>by
   cases z:H b with
   |none=>rfl
   |some o=>rw[f2 b o z] at e;cases e
  refine⟨lo,ty,z,n,rfl,hb2,fun tb od td iu H3 htb hod htd hiu hoi f3 hL hT hu=>⟨rfl,?_⟩⟩
  have f13: ∀b o,H b=some o→H3 b=some o:=fun b o e=>f3 b o (f2 b o e) (au e hlo)
  refine⟨_,rfl,h,_,dx,_,_,rfl,f13 _ _ hI,T.ay,T.aY,rfl,_,rfl,ln,[],.inr x,rfl,rfl,f13 _ _ hln,by rw[sizeLine_eq];decide,?_⟩
  rw[show gv ([]:List (Key×V)) (.inr x) (.ref lo)=[(.inr x,.ref lo)] from rfl]
  have nlo:lo≠ln:=fun z=>by rw[z,hln] at hlo;cases hlo
  have nu:iu≠ln:=fun z=>by rw[z,f2 _ _ hln] at hiu;cases hiu
  have nod:od≠ln:=fun z=>by rw[z,f2 _ _ hln] at hod;cases hod
  have ntd:td≠ln:=fun z=>by rw[z,f2 _ _ hln] at htd;cases htd
  have ntb:tb≠ln:=fun z=>by rw[z,f2 _ _ hln] at htb;cases htb
  obtain⟨dT,iT⟩:=hT.ins
  refine⟨aC (show _≤65536 by simp),fun r hr=> ?_⟩
  have s5:=al (o:=.lst []) (am.refl (upd H3 ln (.dK [(.inr x,.ref lo)]))) hr
  refine q lo tb od td iu r _ hlo (n2 _ htb) (n2 _ hod) (n2 _ htd) (n2 _ hiu) hoi (fun b o e hb=>s5 _ _ (by rw[aj hb];exact f13 b o e)) (s5 _ _ ae) ⟨_,s5 _ _ (by rw[aj nlo];exact hL)⟩ ⟨⟨dT,s5 _ _ (by rw[aj ntb];exact iT)⟩,s5 _ _ (by rw[aj nod];exact hT.own),s5 _ _ (by rw[aj ntd];exact hT.tak),fun x hx=>(nomatch hx),.nil⟩ (s5 _ _ (by rw[aj nu];exact hu)) ae
theorem tQ (T:Txt K mg a):bd P w K mg base CX0 4 a.kC a.cz ["self","name","trial"] (Hc P w K a):=by
 refine T.vF.ok tK (fun vs H Q E h=> ?_) (fun cdv A outer s H vs Q E hr h=> ?_)
 ·obtain⟨A,n,ly,tv,trs,tk,ds,S,c,x,t,ar,arms,rfl,_⟩:=h
  rfl
 ·obtain⟨A,n,ly,tv,trs,tk,ds,S,c,x,t,ar,arms,rfl,hS,hA,hx,hnt,htl,q⟩:=h
  refine⟨_,(ag (lD (pv 2) (nH (aU K rfl (pv 0)) (pv 1) (Co (cw hr))))
 (ah (aI (b7 af)))),?_⟩
  obtain⟨ow,m,hH,hTS,hR,hO,hn,htk,how⟩:=hS
  obtain⟨dx,sa,ci,hI⟩:=hH.ins
  refine⟨_,rfl,_,rfl,A.h,_,dx,_,_,rfl,hI,T.ay,T.aP,rfl,_,rfl,A.tn,tv,.inr x,rfl,rfl,hH.trd,by rw[sizeLine_eq];omega,?_⟩
  rw[Ef _ (hH.tra.none hx)]
  refine⟨aC (show _≤65536 by simp),fun r hr=> ?_⟩
  have s5:=al (o:=.lst []) (am.refl (upd H A.tn (.dK (tv++[(.inr x,.ref t)])))) hr
  have f: ∀b o,H b=some o→b≠A.tn→upd H A.tn (.dK (tv++[(.inr x,.ref t)])) b=some o:=fun b o e hb=>by rw[aj hb];exact e
  have htn:upd H A.tn (.dK (tv++[(.inr x,.ref t)])) A.tn=some (.dK (tv++[(.inr x,.ref t)])):=ae
  have kp:Kp H (upd H A.tn (.dK (tv++[(.inr x,.ref t)]))):=⟨fun u xs e=>f u _ e (fun z=>by rw[z,hH.trd] at e;cases e),fun u o ⟨o',e⟩=>⟨o',f u _ e (fun z=>by rw[z,hH.trd] at e;cases e)⟩⟩
  generalize upd H A.tn (.dK (tv++[(.inr x,.ref t)]))=H2 at s5 f htn kp⊢
  have go: ∀b ob,H b=some ob→(∀kvs,ob≠.dK kvs)→H2 b=some ob:=fun b ob e h1=>f b ob e (fun z=>by rw[z,hH.trd] at e;cases e;exact h1 _ rfl)
  have hH2:kG P w K a H2 A n ly (tv++[(.inr x,.ref t)]) (trs++[⟨x,arms,false⟩]) ow tk m ds:=by
   obtain⟨dxT,hT⟩:=hH.tab.ins
   refine {hH with ins:=⟨dx,sa,ci,go _ _ hI (fun _ z=>nomatch z)⟩,lay:=f _ _ hH.lay (Ne.symm hH.n6),lob:=?_,isd:=f _ _ hH.isd (Ne.symm hH.n5),tab:=⟨⟨dxT,go _ _ hT (fun _ z=>nomatch z)⟩,f _ _ hH.tab.own (Ne.symm hH.n3),go _ _ hH.tab.tak (fun _ z=>nomatch z),fun x hx=>bA kp (hH.tab.keys x hx),?_⟩,trd:=htn,tra:=?_,apt:=?_,nms:=?_,dee:=go _ _ hH.dee (fun _ z=>nomatch z)}
   ·obtain⟨dx,z,i⟩:=hH.lob
    exact⟨dx,z,go _ _ i (fun _ z=>nomatch z)⟩
   ·have walk: ∀{tk':List aW}{m':List Pl},cF H tk' m'→cF H2 tk' m':=by
     intro tk' m' h
     induction h with
     |nil=>exact .nil
     |cons r t ih=>
      obtain⟨e1,e2,l,e3,e4⟩:=r
      exact .cons ⟨e1,e2,l,e3,go _ _ e4 (fun _ z=>nomatch z)⟩ ih
    exact walk hH.tab.lsts
   ·have tm: ∀t ar hm arms cl,pd K a.bT H t hm ar arms cl→pd K a.bT H2 t hm ar arms cl:=by
     rintro t ar hm arms cl ⟨dx,ru,sh,pa,ba,h1,h2⟩
     exact⟨dx,ru,sh,pa,ba,go _ _ h1 (fun _ z=>nomatch z),kp.tq h2⟩
    exact Paired.snoc (hH.tra.mono tm) ⟨rfl,t,ar,rfl,tm _ _ _ _ _ hA⟩
   ·rw[List.map_append,List.nodup_append]
    refine⟨hH.apt,by simp,fun u hu v hv e=> ?_⟩
    obtain⟨y,hy,rfl⟩:=List.mem_map.mp hu
    rw[List.map_cons,List.map_nil,List.mem_singleton] at hv
    exact hnt y hy (e.trans hv)
   ·rw[List.map_append,List.nodup_append]
    refine⟨hH.nms,by simp,fun u hu v hv e=> ?_⟩
    rw[List.map_cons,List.map_nil,List.mem_singleton] at hv
    have hv:v=x:=hv
    exact hx (by rw[←hv,←e];exact hu)
  exact q r _ (fun b o e hb=>s5 _ _ (f b o e hb)) (bH.same ⟨ow,m,hH2,hTS,hR.mono fun _ _ x=>bA kp x,hO,hn,htk,how⟩ s5) ae
theorem AM (T:Txt K mg a):bd P w K mg base (CXe P w) 6 a.sX a.eQ ["self","deed"] (M7 P w K a):=by
 refine T.Dd.okE qF (fun vs H Q E h=> ?_) (fun cdv A outer s H vs Q E hr h=> ?_)
 ·obtain⟨h,d,rfl,_⟩:=h
  rfl
 ·obtain⟨h,d,rfl,hc⟩:=h
  refine⟨_,(ag (aO (i:=2) qF.nd rfl (.inl rfl) (aJ (aB K rfl) (pv 1) ai (fun _ _=>rfl)))
 (ag (a0 (aE bO (pv 2) aL (aM _)) (ah (aI (bD (pv 0) T.ay T.tW ((tR (P:=P) (w:=w) T).mono (by decide)) hr T.vU .nil aD (ad (aJ (aB K rfl) (pv 1) ai (fun _ _=>rfl)) (ad (aJ (aB K rfl) (pv 1) ai (fun _ _=>rfl)) af))))) aH)
 (ag (a0 (aE bO (pv 2) aL (aM _)) (ah (aI (bD (pv 0) T.ay T.tV ((tQ (P:=P) (w:=w) T).mono (by decide)) hr T.vT .nil aD (ad (aJ (aB K rfl) (pv 1) ai (fun _ _=>rfl)) (ad (xk T.JQ ((wP (P:=P) (w:=w) T).mono (by decide)) hr rfl T.LT T.zJ .nil aD (ad (aJ (aB K rfl) (pv 1) ai (fun _ _=>rfl)) (ad (aJ (aB K rfl) (pv 1) ai (fun _ _=>rfl)) (ad (aJ (aB K rfl) (pv 1) ai (fun _ _=>rfl)) (ad (aJ (aB K rfl) (pv 1) ai (fun _ _=>rfl)) af))))) af))))) aH)
 (ag (a0 (aE bO (pv 2) aL (aM _)) (ah (aI (bD (pv 0) T.ay T.fM ((fJ (P:=P) (w:=w) T).mono (by decide)) hr T.ia .nil iD (ad (aJ (aB K rfl) (pv 1) ai (fun _ _=>rfl)) (ad (aJ (aB K rfl) (pv 1) ai (fun _ _=>rfl)) af))))) aH)
 (ag (a0 (aE bO (pv 2) aL (aM _)) (ah (aI (bD (pv 0) T.ay T.fM ((fJ (P:=P) (w:=w) T).mono (by decide)) hr T.ia .nil iD (ad (aJ (aB K rfl) (pv 1) ai (fun _ _=>rfl)) (ad (av ((JL T).mono (by decide)) hr rfl T.LS T.GE.kp T.Ma .nil aD (ad (aJ (aB K rfl) (pv 1) ai (fun _ _=>rfl)) (ad (aJ (aB K rfl) (pv 1) ai (fun _ _=>rfl)) af))) af))))) aH)
 (ag (a0 (aE bO (pv 2) aL (aM _)) (ah (aI (bD (pv 0) T.ay T.vc ((u7 (P:=P) (w:=w) T).mono (by decide)) hr T.xi .nil iD (ad (aJ (aB K rfl) (pv 1) ai (fun _ _=>rfl)) (ad (aJ (aB K rfl) (pv 1) ai (fun _ _=>rfl)) af))))) aH)
 (ag (a0 (aE bO (pv 2) aL (aM _)) (ah cb) aH)
 (ag (a0 (aE bO (pv 2) aL (aM _)) (ah cb) aH)
 (ag (a0 (aE bO (pv 2) aL (aM _)) (ah (aI (bD (pv 0) T.ay T.tX ((tS (P:=P) (w:=w) T).mono (by decide)) hr T.vV .nil iD (ad (aJ (aB K rfl) (pv 1) ai (fun _ _=>rfl)) af)))) aH)
 (ag (a0 (aE bO (pv 2) aL (aM _)) (ah cb) aH)
 (ah cb))))))))))),?_⟩
  rcases hc with hc |hc |hc
  ·obtain⟨x,z,dx,ln,tn,dl,sa,ci,n,hT,hI,hln,q⟩:=hc
   refine⟨_,rfl,d,_,0,_,rfl,rfl,hT,ao (k:=0) rfl,aq ?_⟩
   refine⟨_,rfl,rfl,_,rfl,cT ?_⟩
   exact⟨_,rfl,h,dx,_,rfl,hI,rfl,_,rfl,d,_,1,_,rfl,rfl,hT,ao (k:=1) rfl,_,rfl,d,_,2,_,rfl,rfl,hT,ao (k:=2) rfl,h,x,z,dx,ln,tn,dl,sa,ci,n,rfl,hI,hln,q⟩
  ·obtain⟨A,n,ly,tv,trs,tk,ds,S,c,x,ar,ru,sh,arms,rfl,hT,hS,har,hx,htl,q⟩:=hc
   refine⟨_,rfl,d,_,0,_,rfl,rfl,hT,ao (k:=0) rfl,aq ?_⟩
   refine⟨_,rfl,rfl,_,rfl,aR (show(Str.ofString "trial")≠Str.ofString "layer" by decide+kernel) ?_⟩
   refine⟨_,rfl,rfl,_,rfl,cT ?_⟩
   obtain⟨ow,m,hH,hrest⟩:=id hS
   obtain⟨dx,sa,ci,hI⟩:=hH.ins
   refine⟨_,rfl,A.h,dx,_,rfl,hI,rfl,_,rfl,d,_,1,_,rfl,rfl,hT,ao (k:=1) rfl,?_⟩
   refine⟨_,rfl,d,_,2,_,rfl,rfl,hT,ao (k:=2) rfl,_,rfl,d,_,3,_,rfl,rfl,hT,ao (k:=3) rfl,_,rfl,d,_,4,_,rfl,rfl,hT,ao (k:=4) rfl,_,rfl,d,_,5,_,rfl,rfl,hT,ao (k:=5) rfl,fun t ty ht hty hne=> ?_⟩
   have s2:am H (upd (upd H ty (.own t)) t (.ins a.bT ty [])):=fun b o e=>by rw[aj (au e ht),aj (au e hty)];exact e
   have hb2:upd (upd H ty (.own t)) t (.ins a.bT ty []) t=some (.ins a.bT ty []):=ae
   generalize upd (upd H ty (.own t)) t (.ins a.bT ty [])=H2 at s2 hb2⊢
   refine⟨t,ty,ar,ru,sh,ly,rfl,hb2,fun ba H3 hba f3 ht3 hb3=>⟨rfl,?_⟩⟩
   have s3:am H H3:=fun b o e=>f3 b o (s2 b o e) (au e ht)
   refine⟨A,n,ly,tv,trs,tk,ds,S,c,x,t,ar,arms,rfl,hS.same s3,⟨ty,.ref ru,.ref sh,.bl false,.ref ba,ht3,am.tseq s3 har⟩,hx,fun y hy e=> ?_,htl,fun r H4 f4 hS4 hr4=>q t r H4 ht (fun b o e hb=>f4 b o (s3 b o e) hb) hS4 hr4⟩
   have go: ∀{tv:List (Key×V)}{trs:List TrS},cS K a.bT H ly tv trs→ ∀y∈tv,∃t',y.2=.ref t'∧H t'≠none:=by
    intro tv trs h
    induction h with
    |nil=>intro y hy;cases hy
    |cons r _ ih=>
     intro y hy
     rcases List.mem_cons.mp hy with e |hy
     ·obtain⟨_,t',_,e2,_,_,_,_,_,e3,_⟩:=r
      exact⟨t',by rw[e];exact e2,by rw[e3];simp⟩
     ·exact ih y hy
   obtain⟨t',e1,e2⟩:=go hH.tra y hy
   rw[e1] at e
   cases e
   exact e2 ht
  ·obtain⟨A,n,ly,tv,trs,trs',tk,ds,S,c,xs,W,cl,rfl,hT,hS,hc,hok,hD,q,qe⟩:=hc
   obtain⟨ow,m,hH,hrest⟩:=id hS
   obtain⟨dx,sa,ci,hI⟩:=hH.ins
   have off: ∀{H'},Off A.od A.td H H'→H' A.od≠none→H' A.td≠none→Dfr A tv H H':=fun {H'} o h1 h2=>⟨fun b ob e z1 z2 _ _=>o b ob e z1 z2,fun b e=>jW o h1 h2 e⟩
   have some': ∀{H':Hp}{trs':List TrS}{tk':List aW}{S':AS}{c':Nat},bH P w K a H' A n ly tv trs' tk' ds S' c'→H' A.od≠none∧H' A.td≠none:=fun h=>by
    obtain⟨_,_,h,_⟩:=h
    exact⟨by rw[h.tab.own];simp,by rw[h.tab.tak];simp⟩
   cases hD with
   | @share y nv l hy h1 h2 h3=>
    have ho:=hok y hy
    refine⟨_,rfl,d,_,0,_,rfl,rfl,hT,ao (k:=0) rfl,aq ?_⟩
    refine⟨_,rfl,rfl,_,rfl,aR (show(Str.ofString "share")≠Str.ofString "layer" by decide+kernel) ?_⟩
    refine⟨_,rfl,rfl,_,rfl,aR (show(Str.ofString "share")≠Str.ofString "trial" by decide+kernel) ?_⟩
    refine⟨_,rfl,rfl,_,rfl,cT ?_⟩
    exact⟨_,rfl,A.h,dx,_,rfl,hI,rfl,_,rfl,d,_,1,_,rfl,rfl,hT,ao (k:=1) rfl,_,rfl,d,_,2,_,rfl,rfl,hT,ao (k:=2) rfl,A,n,ly,tv,trs,tk,ds,S,c,y,nv,l,rfl,hS,hc,hy,.inr h1,h2,ho.a4,ho.nd,h3,fun hle r tk' H' o hS' nw hr hr'=>q hle r tk' H' (off o (some' hS').1 (some' hS').2) hS' nw hr hr',qe⟩
   | @deal y z wt ws hy hz h1 h2 h3=>
    have ho:=hok y hy
    have a1:=ho.a1
    have a4:=ho.a4
    refine⟨_,rfl,d,_,0,_,rfl,rfl,hT,ao (k:=0) rfl,aq ?_⟩
    refine⟨_,rfl,rfl,_,rfl,aR (show(Str.ofString "deal")≠Str.ofString "layer" by decide+kernel) ?_⟩
    refine⟨_,rfl,rfl,_,rfl,aR (show(Str.ofString "deal")≠Str.ofString "trial" by decide+kernel) ?_⟩
    refine⟨_,rfl,rfl,_,rfl,aR (show(Str.ofString "deal")≠Str.ofString "share" by decide+kernel) ?_⟩
    refine⟨_,rfl,rfl,_,rfl,cT ?_⟩
    refine⟨_,rfl,A.h,dx,_,rfl,hI,rfl,_,rfl,d,_,1,_,rfl,rfl,hT,ao (k:=1) rfl,_,rfl,d,_,2,_,rfl,rfl,hT,ao (k:=2) rfl,_,rfl,d,_,3,_,rfl,rfl,hT,ao (k:=3) rfl,z.toNat,wt,ws,by rw[show((z.toNat:Nat):Int)=z by omega];rfl,by omega,h1,by omega,by omega,fun t H1 s1 ht=> ?_⟩
    have hdl:(deal ws z.toNat).length=y.arms.length:=by rw[iV];exact h2
    refine⟨A,n,ly,tv,trs,tk,ds,S,c,y,t,deal ws z.toNat,rfl,hS.same s1,hc,hy,.inr (SqT.of ht),hdl,ho.a4,ho.nd,EQ ws z.toNat,fun hle r tk' H' o hS' nw hr hr'=> ?_,fun hlt H' s'=>qe hlt H' (s1.trans s')⟩
    have hd:=off ((Off.of s1).trans o) (some' hS').1 (some' hS').2
    exact q hle r tk' H' hd hS' (bC.trans (bC.refl H tk) nw fun l h=>s1.free h) (s1.free hr) hr'
   | @hold z hz=>
    refine⟨_,rfl,d,_,0,_,rfl,rfl,hT,ao (k:=0) rfl,aq ?_⟩
    refine⟨_,rfl,rfl,_,rfl,aR (show(Str.ofString "hold")≠Str.ofString "layer" by decide+kernel) ?_⟩
    refine⟨_,rfl,rfl,_,rfl,aR (show(Str.ofString "hold")≠Str.ofString "trial" by decide+kernel) ?_⟩
    refine⟨_,rfl,rfl,_,rfl,aR (show(Str.ofString "hold")≠Str.ofString "share" by decide+kernel) ?_⟩
    refine⟨_,rfl,rfl,_,rfl,aR (show(Str.ofString "hold")≠Str.ofString "deal" by decide+kernel) ?_⟩
    refine⟨_,rfl,rfl,_,rfl,cT ?_⟩
    exact⟨_,rfl,A.h,dx,_,rfl,hI,rfl,_,rfl,d,_,1,_,rfl,rfl,hT,ao (k:=1) rfl,_,rfl,d,_,2,_,rfl,rfl,hT,ao (k:=2) rfl,A,n,ly,tv,trs,tk,ds,S,c,z,rfl,hS,hc,hz,fun hle r tk' H' o hS' nw hr hr'=>q hle r tk' H' (off o (some' hS').1 (some' hS').2) hS' nw hr hr',qe⟩
   | @close y hy=>
    have ho:=hok y hy
    refine⟨_,rfl,d,_,0,_,rfl,rfl,hT,ao (k:=0) rfl,aq ?_⟩
    refine⟨_,rfl,rfl,_,rfl,aR (show(Str.ofString "close")≠Str.ofString "layer" by decide+kernel) ?_⟩
    refine⟨_,rfl,rfl,_,rfl,aR (show(Str.ofString "close")≠Str.ofString "trial" by decide+kernel) ?_⟩
    refine⟨_,rfl,rfl,_,rfl,aR (show(Str.ofString "close")≠Str.ofString "share" by decide+kernel) ?_⟩
    refine⟨_,rfl,rfl,_,rfl,aR (show(Str.ofString "close")≠Str.ofString "deal" by decide+kernel) ?_⟩
    refine⟨_,rfl,rfl,_,rfl,aR (show(Str.ofString "close")≠Str.ofString "hold" by decide+kernel) ?_⟩
    refine⟨_,rfl,rfl,_,rfl,aR (show(Str.ofString "close")≠Str.ofString "pause" by decide+kernel) ?_⟩
    refine⟨_,rfl,rfl,_,rfl,aR (show(Str.ofString "close")≠Str.ofString "go" by decide+kernel) ?_⟩
    refine⟨_,rfl,rfl,_,rfl,cT ?_⟩
    have hz0: ∀x∈wOf y.nm y.arms (List.replicate y.arms.length 0),x.2=0:=fun x hx=>by
     obtain⟨p,hp,rfl⟩:=List.mem_map.mp hx
     exact List.eq_of_mem_replicate (List.of_mem_zip hp).2
    have hne:=u9 (S:=S) hz0
    exact⟨_,rfl,A.h,dx,_,rfl,hI,rfl,_,rfl,d,_,1,_,rfl,rfl,hT,ao (k:=1) rfl,A,n,ly,tv,trs,tk,ds,S,c,y,rfl,hS,hc,hy,ho.a4,ho.nd,fun r tk' H' o hS' nw hr hr'=>q (by omega) r tk' H' o hS' nw hr hr'⟩
end
theorem bH.deed {P:Program}{w:World}{K:PySem.W.Frag}{a:Adr}{H:Hp}{A:HA}{n:Nat}{ly:Str}{tv:List (Key×V)}{trs:List TrS}{tk:List aW}{ds:List V}{S:AS}{c:Nat}{d:V}(h:bH P w K a H A n ly tv trs tk ds S c):H A.dl=some (.lst ds)∧bH P w K a (upd H A.dl (.lst (ds++[d]))) A n ly tv trs tk (ds++[d]) S c:=
 let⟨ow,m,h1,h2,h3,h4,h5,h6,h7⟩:=h
 ⟨h1.dee,ow,m,h1.deed,h2,h3.mono fun _ _ x=>bA (.lst h1.dee) x,h4,h5,h6,h7⟩
theorem gu.ok {P:Program}{w:World}{K:PySem.W.Frag}{a:Adr}{H:Hp}{A:HA}{n:Nat}{ly:Str}{tv:List (Key×V)}{trs trs':List TrS}{ow:List (Key×V)}{tk:List aW}{m:List Pl}{ds xs:List V}{W:Wl}{cl:Bool}(h:gu K H ly trs xs W cl trs') (hH:kG P w K a H A n ly tv trs ow tk m ds) (hok: ∀y∈trs,qj y) (hly:Wd ly):wj K a.bT H (n:Int) A.ln A.tn xs cl:=by
 cases h with
 | @share y nv l hy h1 h2 h3=>
  obtain⟨t,ar,hv,hA⟩:=hH.tra.find hH.nms y hy
  exact .opn (hok y hy).wd hH.trd hv hA (hok y hy).a4 (.share h1 h3 h2)
 | @deal y z wt ws hy hz h1 h2 h3=>
  obtain⟨t,ar,hv,hA⟩:=hH.tra.find hH.nms y hy
  exact .opn (hok y hy).wd hH.trd hv hA (hok y hy).a4 (.deal hz h1 h3 h2)
 |hold hz=>exact .hold hly hz hH.lay (by rw[bw rfl];rfl)
 | @close y hy=>
  obtain⟨t,ar,hv,hA⟩:=hH.tra.find hH.nms y hy
  exact .opn (hok y hy).wd hH.trd hv hA (hok y hy).a4 .close
inductive DoL (K:PySem.W.Frag) (P:Program) (w:World) (a:Adr) (h d:Addr) (H:Hp) (Q:VK):Prop
 |mk (x:Str) (z:Int) (dx ln tn dl:Addr) (sa ci:V) (n:Nat) (ds:List V) (_:SqT K H d [.str "layer",.str x,.int z]) (_:H h=some (.ins a.bp dx [("own_prime",.int n),("own_salt",sa),("layer_named",.ref ln),("trial_named",.ref tn),("came_into",ci),("deeds",.ref dl)])) (_:H ln=some (.dK [])) (_:H tn=some (.dK [])) (_:ln≠tn) (_:H dl=some (.lst ds)) (_:ds.length<1000) (_:Wd x) (_:(0≤z∧z≤n)) (_:n≤1000) (_: ∀(A:HA) (r:Addr) (H':Hp),A.h=h→(A.ln=ln∧A.tn=tn∧A.dl=dl∧H A.od=none∧H A.td=none∧H A.iu=none)→(∀b o,H b=some o→b≠ln→b≠dl→H' b=some o)→bH P w K a H' A n x [] [] [] (ds++[.ref d]) AS.new 0→Q (.ref r) H')
inductive DoT (K:PySem.W.Frag) (P:Program) (w:World) (a:Adr) (h d:Addr) (H:Hp) (Q:VK):Prop
 |mk (A:HA) (n:Nat) (ly:Str) (tv:List (Key×V)) (trs:List TrS) (tk:List aW) (ds:List V) (S:AS) (c:Nat) (x:Str) (ar ru sh:Addr) (arms:List Str) (_:A.h=h) (_:SqT K H d [.str "trial",.str x,.str ly,.ref ar,.ref ru,.ref sh]) (_:bH P w K a H A n ly tv trs tk ds S c) (_:Wd x) (_:Wd ly) (_:SqT K H ar (arms.map V.str)) (_:(∀w∈arms,Wd w)) (_:arms.Nodup) (_:1≤arms.length) (_:arms.length≤4) (_:SqT K H ru [.str "any"]) (_:SqT K H sh []) (_:x∉trs.map (·.nm)) (_:tv.length<1000) (_:ds.length<1000) (_: ∀(t r:Addr) (H':Hp),H t=none→(∀b o,H b=some o→b≠A.tn→b≠A.dl→H' b=some o)→bH P w K a H' A n ly (tv++[(.inr x,.ref t)]) (trs++[⟨x,arms,false⟩]) tk (ds++[.ref d]) S c→Q (.ref r) H')
inductive DoW (K:PySem.W.Frag) (P:Program) (w:World) (a:Adr) (h d:Addr) (H:Hp) (Q:VK) (E:XK):Prop
 |mk (A:HA) (n:Nat) (ly:Str) (tv:List (Key×V)) (trs trs':List TrS) (tk:List aW) (ds:List V) (S:AS) (c:Nat) (xs:List V) (W:Wl) (cl:Bool) (_:A.h=h) (_:SqT K H d xs) (_:bH P w K a H A n ly tv trs tk ds S c) (_:c≤99) (_:(∀y∈trs,qj y)) (_:gu K H ly trs xs W cl trs') (_:Wd ly) (_:ds.length<1000) (_:(cl=true→ ∀H',am H H'→E (.ref a.tf) none H')) (_:(cl=false→bf S W≤((frl n S.oc).length:Int)→ ∀(r:Addr) (tk':List aW) H',Dfr A tv H H'→bH P w K a H' A n ly tv trs' tk' (ds++[.ref d]) (aS n (aV S W) W) (c+1)→bC H tk tk'→H r=none→H' r=some (.lst [])→Q (.ref r) H')) (_:(cl=false→((frl n S.oc).length:Int)<bf S W→ ∀H',am H H'→E (.ref a.oU) none H'))
inductive Jf (P:Program) (w:World) (K:PySem.W.Frag) (a:Adr) (vs:List V) (H:Hp) (Q:VK) (E:XK):Prop
 |mk (h:_) (d:_) (_:vs=[.ref h,.ref d]) (_:(DoL K P w a h d H Q∨DoT K P w a h d H Q∨DoW K P w a h d H Q E))
section
variable {P:Program}{w:World}{K:PySem.W.Frag}{mg:Str→Option Value}{base:Heap}{a:Adr}
theorem pH (T:Txt K mg a) (hw:w.params=a.pm):bd P w K mg base (CXe P w) 8 a.Ac a.iU ["self","deed"] (Jf P w K a):=by
 refine T.F1.okE wm (fun vs H Q E h=> ?_) (fun cdv A outer s H vs Q E hr h=> ?_)
 ·obtain⟨h,d,rfl,_⟩:=h
  rfl
 ·obtain⟨h,d,rfl,hc⟩:=h
  refine⟨_,(ag (aX (av ((AI T hw).mono (by decide)) hr rfl T.CJ T.uc.kp T.Ds .nil iD (ad (pv 1) (ad (aU K rfl (pv 0)) (ad (aU K rfl (pv 0)) (ad (aU K rfl (pv 0)) af))))))
 (ag (aO (i:=2) wm.nd rfl (.inl rfl) (bD (pv 0) T.ay T.AQ ((AM (P:=P) (w:=w) T).mono (by decide)) hr T.Dx .nil iD (ad (pv 1) af)))
 (ag (aX (pE K rfl PySem.F.plainAttrs_list PySem.F.slot_list_append PySem.F.type_list_append fc (aU K rfl (pv 0)) (ad (pv 1) af)))
 (ah (aI (pv 2)))))),?_⟩
  rcases hc with hc |hc |hc
  ·obtain⟨x,z,dx,ln,tn,dl,sa,ci,n,ds,hT,hI,hln,htn,hlt,hdl,hdsl,hx,hz,hn,q⟩:=hc
   refine⟨_,rfl,_,rfl,h,_,dx,_,_,rfl,hI,T.ay,T.bM,rfl,_,rfl,h,_,dx,_,_,rfl,hI,T.ay,T.aY,rfl,_,rfl,h,_,dx,_,_,rfl,hI,T.ay,T.aP,rfl,?_⟩
   refine⟨d,ln,tn,n,_,false,rfl,hT,.layer hx hz hln,fun _ H1 s1=> ?_,fun h=>nomatch h⟩
   refine⟨_,rfl,h,dx,_,rfl,s1 _ _ hI,rfl,_,rfl,h,d,rfl,.inl ⟨x,z,dx,ln,tn,dl,sa,ci,n,am.tseq s1 hT,s1 _ _ hI,s1 _ _ hln,?_⟩⟩
   intro lo t od td iu r H2 hlo ht hod htd hiu hoi f2 hln2 hL2 hT2 hu2 hr2
   have ndl:dl≠ln:=fun z=>by rw[z,hln] at hdl;cases hdl
   have hI2:=f2 _ _ (s1 _ _ hI) (fun z=>by rw[z,hln] at hI;cases hI)
   have hdl2:=f2 _ _ (s1 _ _ hdl) ndl
   refine aq ⟨_,rfl,h,_,dx,_,_,rfl,hI2,T.ay,T.fL,rfl,.inl ⟨rfl,_,SqL.of hdl2⟩,_,rfl,dl,_,_,rfl,rfl,hdl2,by rw[sizeLine_eq];omega,?_⟩
   obtain⟨dxL,hL2⟩:=hL2
   have nh:h≠dl:=fun z=>by rw[z,hdl2] at hI2;cases hI2
   have ne: ∀{b:Addr}{o:HO},H1 b=none→H2 b=some o→b≠dl:=fun e _ z=>by rw[z,s1 _ _ hdl] at e;cases e
   have go: ∀b ob,H2 b=some ob→b≠dl→upd H2 dl (.lst (ds++[.ref d])) b=some ob:=fun b ob e hb=>by rw[aj hb];exact e
   have htn2:=f2 _ _ (s1 _ _ htn) (Ne.symm hlt)
   have cd: ∀{b:Addr}{kvs:List (Key×V)},H2 b=some (.dK kvs)→b≠dl:=fun e z=>by rw[z,hdl2] at e;cases e
   have old: ∀{b c:Addr}{o:HO},H b=some o→H1 c=none→b≠c:=fun e1 e2 z=>by rw[←z,s1 _ _ e1] at e2;cases e2
   obtain⟨dT,iT⟩:=hT2.ins
   refine⟨_,rfl,q ⟨h,ln,tn,dl,lo,iu,t,od,td⟩ r _ rfl ⟨rfl,rfl,rfl,s1.free hod,s1.free htd,s1.free hiu⟩ (fun b o e h1 h2=>by rw[aj h2];exact f2 b o (s1 b o e) h1) ⟨[],[],⟨⟨dx,sa,ci,go _ _ hI2 nh⟩,go _ _ hln2 (cd hln2),⟨dxL,_,go _ _ hL2 (ne hlo hL2)⟩,go _ _ hu2 (cd hu2),⟨⟨dT,go _ _ iT (ne ht iT)⟩,go _ _ hT2.own (cd hT2.own),go _ _ hT2.tak (ne htd hT2.tak),fun x hx=>(nomatch hx),.nil⟩,go _ _ htn2 (cd htn2),.nil,List.nodup_nil,List.nodup_nil,ae,Ne.symm hoi,old hln hod,old htn hod,fun x hx=>(nomatch hx),old htn hiu,Ne.symm hlt⟩,⟨fun k=>rfl,fun p _ _=>rfl⟩,fun p v _ _ e=>(nomatch e),AS.new_ok n,hn,Nat.zero_le _,Nat.zero_le _⟩⟩
  ·obtain⟨A,n,ly,tv,trs,tk,ds,S,c,x,ar,ru,sh,arms,rfl,hT,hS,hx,hly,har,haw,hand,ha1,ha4,hru,hsh,hnew,htvl,hdsl,q⟩:=hc
   obtain⟨ow,m,hH,hrest⟩:=id hS
   obtain⟨dx,sa,ci,hI⟩:=hH.ins
   refine⟨_,rfl,_,rfl,A.h,_,dx,_,_,rfl,hI,T.ay,T.bM,rfl,_,rfl,A.h,_,dx,_,_,rfl,hI,T.ay,T.aY,rfl,_,rfl,A.h,_,dx,_,_,rfl,hI,T.ay,T.aP,rfl,?_⟩
   refine⟨d,A.ln,A.tn,n,_,false,rfl,hT,.trial hx hly hH.lay hH.trd (hH.tra.none hnew) (by rw[bw rfl];rfl) har haw hand ha1 ha4 hru hsh,fun _ H1 s1=> ?_,fun h=>nomatch h⟩
   refine⟨_,rfl,A.h,dx,_,rfl,s1 _ _ hI,rfl,_,rfl,A.h,d,rfl,.inr (.inl ⟨A,n,ly,tv,trs,tk,ds,S,c,x,ar,ru,sh,arms,rfl,am.tseq s1 hT,hS.same s1,am.tseq s1 har,hnew,htvl,fun t r H2 ht f2 hS2 hr2=> ?_⟩)⟩
   obtain⟨hdl2,hS3⟩:=hS2.deed (d:=.ref d)
   have hI2:=f2 _ _ (s1 _ _ hI) (fun z=>by have e:=hH.trd;rw[←z,hI] at e;cases e)
   refine aq ⟨_,rfl,A.h,_,dx,_,_,rfl,hI2,T.ay,T.fL,rfl,.inl ⟨rfl,_,SqL.of hdl2⟩,_,rfl,A.dl,_,_,rfl,rfl,hdl2,by rw[sizeLine_eq];omega,?_⟩
   exact⟨_,rfl,q t r _ (s1.free ht) (fun b o e h1 h2=>by rw[aj h2];exact f2 b o (s1 b o e) h1) hS3⟩
  ·obtain⟨A,n,ly,tv,trs,trs',tk,ds,S,c,xs,W,cl,rfl,hT,hS,hc,hok,hD,hly,hdsl,qc,q,qe⟩:=hc
   obtain⟨ow,m,hH,hrest⟩:=id hS
   obtain⟨dx,sa,ci,hI⟩:=hH.ins
   refine⟨_,rfl,_,rfl,A.h,_,dx,_,_,rfl,hI,T.ay,T.bM,rfl,_,rfl,A.h,_,dx,_,_,rfl,hI,T.ay,T.aY,rfl,_,rfl,A.h,_,dx,_,_,rfl,hI,T.ay,T.aP,rfl,?_⟩
   refine⟨d,A.ln,A.tn,n,xs,cl,rfl,hT,hD.ok hH hok hly,fun hcl H1 s1=> ?_,qc⟩
   refine⟨_,rfl,A.h,dx,_,rfl,s1 _ _ hI,rfl,_,rfl,A.h,d,rfl,.inr (.inr ⟨A,n,ly,tv,trs,trs',tk,ds,S,c,xs,W,cl,rfl,am.tseq s1 hT,hS.same s1,hc,hok,hD.same s1,fun hle r tk' H2 o2 hS2 nw hr hr2=> ?_,fun hlt H2 s2=>qe hcl hlt H2 (s1.trans s2)⟩)⟩
   obtain⟨hdl2,hS3⟩:=hS2.deed (d:=.ref d)
   obtain⟨dx2,sa2,ci2,hI2⟩:=hS2.ih
   refine aq ⟨_,rfl,A.h,_,dx2,_,_,rfl,hI2,T.ay,T.fL,rfl,.inl ⟨rfl,_,SqL.of hdl2⟩,_,rfl,A.dl,_,_,rfl,rfl,hdl2,by rw[sizeLine_eq];omega,?_⟩
   refine⟨_,rfl,q hcl hle r tk' _ ⟨fun b o e h1 h2 h3 h4=>by rw[aj h3];exact o2.fr b o (s1 b o e) h1 h2 h3 h4,fun b e=>s1.free (o2.dm b (dC e))⟩ hS3 (bC.trans (bC.refl H tk) nw fun l h=>s1.free h) (s1.free hr) ?_⟩
   rw[aj (fun z=>by rw[z,s1 _ _ hH.dee] at hr;cases hr)]
   exact hr2
end
def KO (K:PySem.W.Frag) (H:Hp) (S:AS) (p:Int) (v:V):Prop:=(v=.non∧S.oc p=false)∨ ∃k,p∈S.pl k∧cq K H k v
inductive MY (P:Program) (w:World) (K:PySem.W.Frag) (a:Adr) (vs:List V) (H:Hp) (Q:VK) (_E:XK):Prop
 |mk (A:HA) (n:Nat) (ly:Str) (tv:List (Key×V)) (trs:List TrS) (tk:List aW) (ds:List V) (S:AS) (c:Nat) (y:TrS) (z:Str) (_:vs=[.ref A.h,.str y.nm,.str z]) (_:bH P w K a H A n ly tv trs tk ds S c) (_:y∈trs) (_: ∀(l:Addr) H',am H H'→H l=none→H' l=some (.lst ((S.pl (bS y.nm z)).map V.int))→Q (.ref l) H')
inductive Jc (P:Program) (w:World) (K:PySem.W.Frag) (a:Adr) (vs:List V) (H:Hp) (Q:VK) (_E:XK):Prop
 |mk (A:HA) (n:Nat) (ly:Str) (tv:List (Key×V)) (trs:List TrS) (tk:List aW) (ds:List V) (S:AS) (c:Nat) (y:TrS) (z:Str) (_:vs=[.ref A.h,.str y.nm,.str z]) (_:bH P w K a H A n ly tv trs tk ds S c) (_:y∈trs) (_:qj y) (_:z∈y.arms) (_: ∀(l:Addr) H',am H H'→H l=none→H' l=some (.lst ((S.pl (bS y.nm z)).map V.int))→Q (.ref l) H')
def cI (S:AS) (y:TrS):List Int:=y.arms.map fun z=>((S.pl (bS y.nm z)).length:Int)
inductive Jb (P:Program) (w:World) (K:PySem.W.Frag) (a:Adr) (vs:List V) (H:Hp) (Q:VK) (_E:XK):Prop
 |mk (A:HA) (n:Nat) (ly:Str) (tv:List (Key×V)) (trs:List TrS) (tk:List aW) (ds:List V) (S:AS) (c:Nat) (y:TrS) (_:vs=[.ref A.h,.str y.nm]) (_:bH P w K a H A n ly tv trs tk ds S c) (_:y∈trs) (_:qj y) (_: ∀(l:Addr) H',am H H'→H l=none→H' l=some (.tup ((cI S y).map V.int))→Q (.ref l) H')
inductive Ld (P:Program) (w:World) (K:PySem.W.Frag) (a:Adr) (vs:List V) (H:Hp) (Q:VK) (_E:XK):Prop
 |mk (A:HA) (n:Nat) (ly:Str) (tv:List (Key×V)) (trs:List TrS) (tk:List aW) (ds:List V) (S:AS) (c:Nat) (p:Int) (_:vs=[.ref A.h,.str ly,.int p]) (_:bH P w K a H A n ly tv trs tk ds S c) (_:Wd ly) (_:0≤p) (_:p<n) (_: ∀(v:V) H',am H H'→KO K H' S p v→Q v H')
inductive Lf (P:Program) (w:World) (K:PySem.W.Frag) (a:Adr) (vs:List V) (H:Hp) (Q:VK) (_E:XK):Prop
 |mk (h:_) (d:_) (_:vs=[.ref h,.ref d]) (_:DoW K P w a h d H Q (fun C _ H'=>(C=.ref a.oU∧Q (.str "room") H')∨(C=.ref a.tf∧Q (.str "closed") H')))
theorem OwS.own {K:PySem.W.Frag}{H:Hp}{n:Nat}{S:AS}{ow:List (Key×V)}{m:List Pl}{p:Int}(h:uu n S ow m) (r:OwS (cq K H) n S ow) (p0:0≤p) (p1:p<n):KO K H S p ((bh ow (.inl p)).getD .non):=by
 have e:=h.2 p p0 p1
 cases hv:bh ow (.inl p) with
 |none=>
  rw[hv] at e
  exact .inl ⟨rfl,e.symm⟩
 |some v=>exact .inr (r p v p0 p1 hv)
section
variable {P:Program}{w:World}{K:PySem.W.Frag}{mg:Str→Option Value}{base:Heap}{a:Adr}
theorem jV (T:Txt K mg a):bd P w K mg base CX0 2 a.jo a.cj ["self","trial","arm"] (MY P w K a):=by
 refine T.uh.ok rB (fun vs H Q E h=> ?_) (fun cdv A outer s H vs Q E hr h=> ?_)
 ·obtain⟨A,n,ly,tv,trs,tk,ds,S,c,y,z,rfl,_⟩:=h
  rfl
 ·obtain⟨A,n,ly,tv,trs,tk,ds,S,c,y,z,rfl,hS,hy,q⟩:=h
  refine⟨_,(ah (aI (bD (aU K rfl (iC (cw hr) (aU K rfl (pv 0)) (aU K rfl (iC (cw hr) (aU K rfl (pv 0)) (pv 1) (fun _ _=>rfl))) (fun _ _=>rfl))) T.bg T.cX ((cW (P:=P) (w:=w) T).mono (by decide)) hr T.dy .nil aD (ad (cE (ad (pv 1) (ad (pv 2) af))) af)))),?_⟩
  obtain⟨ow,m,hH,hTS,hR,hO,hn,htk,how⟩:=hS
  obtain⟨dx,sa,ci,hI⟩:=hH.ins
  obtain⟨t,ar,hv,hA⟩:=hH.tra.find hH.nms y hy
  obtain⟨dxt,ru,sh,pa,ba,hTr,har⟩:=hA
  obtain⟨dxl,zl,hL⟩:=hH.lob
  obtain⟨dxT,hIT⟩:=hH.tab.ins
  have hvl:bh [((.inr ly:Key),V.ref A.lo)] (.inr ly)=some (.ref A.lo):=bw rfl
  refine⟨_,rfl,A.h,_,dx,_,_,rfl,hI,T.ay,T.aY,rfl,?_⟩
  refine⟨_,rfl,A.h,_,dx,_,_,rfl,hI,T.ay,T.aP,rfl,_,rfl,A.tn,.ref t,rfl,by rw[←hv];exact e8.k (k:=.inr y.nm) hH.trd,?_⟩
  refine⟨t,_,dxt,_,_,rfl,hTr,T.bv,T.lF,rfl,A.ln,.ref A.lo,rfl,by rw[←hvl];exact e8.k (k:=.inr ly) hH.lay,?_⟩
  refine⟨A.lo,_,dxl,_,_,rfl,hL,T.ff,T.dF,rfl,A.t,dxT,_,rfl,hIT,rfl,?_⟩
  refine⟨_,rfl,_,rfl,aC (show _≤65536 by simp),fun T4 hT4=> ?_⟩
  have s4:=al (o:=.tup [.str y.nm,.str z]) (am.refl H) hT4
  have e4:upd H T4 (.tup [.str y.nm,.str z]) T4=some (.tup [.str y.nm,.str z]):=ae
  generalize upd H T4 (.tup [.str y.nm,.str z])=H4 at s4 e4⊢
  refine⟨A.t,A.od,A.td,n,ow,tk,m,bS y.nm z,.ref T4,rfl,hH.tab.same s4,⟨T4,rfl,SqT.of e4⟩,fun l H5 s5 hl hl5=>q l H5 (s4.trans s5) (s4.free hl) ?_⟩
  rw[←hTS.1]
  exact hl5
theorem wT (T:Txt K mg a):bd P w K mg base CX0 4 a.oW a.de ["self","trial","arm"] (Jc P w K a):=by
 refine T.zt.ok wM (fun vs H Q E h=> ?_) (fun cdv A outer s H vs Q E hr h=> ?_)
 ·obtain⟨A,n,ly,tv,trs,tk,ds,S,c,y,z,rfl,_⟩:=h
  rfl
 ·obtain⟨A,n,ly,tv,trs,tk,ds,S,c,y,z,rfl,hS,hy,ho,hz,q⟩:=h
  refine⟨_,(ag (aX (av ((fI T).mono (by decide)) hr rfl T.iE T.eR.kp T.iG .nil aD (ad (pv 1) (ad (aU K rfl (pv 0)) af))))
 (ag (aX (av ((fI T).mono (by decide)) hr rfl T.iE T.eR.kp T.iG .nil aD (ad (pv 2) (ad (aU K rfl (iC (cw hr) (aU K rfl (pv 0)) (pv 1) (fun _ _=>rfl))) af))))
 (ah (aI (bD (pv 0) T.ay T.jX ((jV (P:=P) (w:=w) T).mono (by decide)) hr T.kU .nil aD (ad (pv 1) (ad (pv 2) af))))))),?_⟩
  obtain⟨ow,m,hH,hrest⟩:=id hS
  obtain⟨dx,sa,ci,hI⟩:=hH.ins
  obtain⟨t,ar,hv,hA⟩:=hH.tra.find hH.nms y hy
  obtain⟨dxt,ru,sh,pa,ba,hTr,har⟩:=hA
  refine⟨_,rfl,_,rfl,A.h,_,dx,_,_,rfl,hI,T.ay,T.aP,rfl,y.nm,A.tn,rfl,ho.wd,.inl ⟨tv,hH.trd,by rw[hv];rfl⟩,fun H1 s1=> ?_⟩
  refine⟨_,rfl,_,rfl,A.h,_,dx,_,_,rfl,s1 _ _ hI,T.ay,T.aP,rfl,_,rfl,A.tn,.ref t,rfl,by rw[←hv];exact e8.k (k:=.inr y.nm) (s1 _ _ hH.trd),?_⟩
  refine⟨t,_,dxt,_,_,rfl,s1 _ _ hTr,T.bv,T.dg,rfl,z,ar,rfl,ho.aw z hz,.inr ⟨y.arms,am.tseq s1 har,hz⟩,fun H2 s2=> ?_⟩
  have s12:=s1.trans s2
  exact⟨_,rfl,A.h,dx,_,rfl,s12 _ _ hI,rfl,_,rfl,_,rfl,A,n,ly,tv,trs,tk,ds,S,c,y,z,rfl,hS.same s12,hy,fun l H3 s3 hl hl3=>q l H3 (s12.trans s3) (s12.free hl) hl3⟩
theorem wS (T:Txt K mg a):bd P w K mg base CX0 4 a.oV a.db ["self","trial"] (Jb P w K a):=by
 refine T.zr.ok wL (fun vs H Q E h=> ?_) (fun cdv A outer s H vs Q E hr h=> ?_)
 ·obtain⟨A,n,ly,tv,trs,tk,ds,S,c,y,rfl,_⟩:=h
  rfl
 ·obtain⟨A,n,ly,tv,trs,tk,ds,S,c,y,rfl,hS,hy,ho,q⟩:=h
  refine⟨_,(ag (aX (av ((fI T).mono (by decide)) hr rfl T.iE T.eR.kp T.iG .nil aD (ad (pv 1) (ad (aU K rfl (pv 0)) af))))
 (ah (aI (d8 (fg K rfl) (by rfl) T.eY L2.bW (ad (dw ["self","trial"] ["arm"] [] [2] (ak fF) rfl rfl rfl (by decide+kernel) (by decide+kernel) (b9 2)
  (nG K rfl (aU K rfl (iC (cw hr) (aU K rfl (pv 0)) (pv 1) (fun _ _=>rfl)))) (fun cl C s₀ H₀ ex=>⟨(aF (i:=2) (show List.Nodup ((["self","trial"]:List PySem.Str)++(["arm"]:List PySem.Str)) by decide+kernel) rfl (by first |exact Or.inl rfl |exact Or.inr rfl)),cm,(az (aK K rfl) (by rfl) T.bK L2.aQ (ad (bD (pv 0) T.ay T.jX ((jV (P:=P) (w:=w) T).mono (by decide)) hr T.kU .nil aD (ad (pv 1) (ad (pv 2) af))) af))⟩)) af))))),?_⟩
  obtain⟨ow,m,hH,hrest⟩:=id hS
  obtain⟨dx,sa,ci,hI⟩:=hH.ins
  obtain⟨t,ar,hv,hA⟩:=hH.tra.find hH.nms y hy
  obtain⟨dxt,ru,sh,pa,ba,hTr,har⟩:=hA
  have a4:=ho.a4
  refine⟨_,rfl,_,rfl,A.h,_,dx,_,_,rfl,hI,T.ay,T.aP,rfl,y.nm,A.tn,rfl,ho.wd,.inl ⟨tv,hH.trd,by rw[hv];rfl⟩,fun H1 s1=> ?_⟩
  refine⟨_,rfl,A.h,_,dx,_,_,rfl,s1 _ _ hI,T.ay,T.aP,rfl,_,rfl,A.tn,.ref t,rfl,by rw[←hv];exact e8.k (k:=.inr y.nm) (s1 _ _ hH.trd),?_⟩
  refine⟨t,_,dxt,_,_,rfl,s1 _ _ hTr,T.bv,T.dg,rfl,ar,rfl,⟨_,am.tseq s1 har⟩,fun D hD=> ?_⟩
  have hD0:H D=none:=s1.free hD
  refine kq (K:=K) (a:=ar) (xs:=y.arms.map V.str) (fun i acc H'=>am H H'∧H' D=some (.lst acc)∧acc=((cI S y).take i).map V.int) ⟨al s1 hD,ae,rfl⟩ (fun i acc H' _ h=>am.tseq h.1 har) ?_ ?_
  ·rintro i x acc H2 hx ⟨s2,hD2,rfl⟩
   have hi:i<(y.arms.map V.str).length:=(List.getElem?_eq_some_iff.mp hx).1
   rw[List.getElem?_map] at hx
   obtain⟨z,hz,rfl⟩:=Option.map_eq_some_iff.mp hx
   refine aq (pj (cL ?_))
   refine⟨_,rfl,A.h,dx,_,rfl,s2 _ _ hI,rfl,_,rfl,_,rfl,A,n,ly,tv,trs,tk,ds,S,c,y,z,rfl,hS.same s2,hy,fun l H3 s3 hl hl3=> ?_⟩
   refine⟨_,_,rfl,.inl ⟨_,SqL.of hl3,rfl⟩,s3 _ _ hD2,by rw[List.length_map,List.length_take,sizeLine_eq];rw[List.length_map] at hi;omega,lf hi ⟨br (s2.trans s3) hD0,ae,?_⟩⟩
   have e:(cI S y)[i]? =some ((S.pl (bS y.nm z)).length:Int):=by unfold cI;rw[List.getElem?_map,hz];rfl
   rw[dr e,List.map_append,List.length_map]
   rfl
  ·rintro acc H2 ⟨s2,hD2,rfl⟩
   rw[List.length_map,List.take_of_length_le (by unfold cI;rw[List.length_map];exact Nat.le_refl _)] at hD2
   exact⟨D,_,rfl,.inl ⟨SqL.of hD2,fun l hl=>q l _ (al s2 hl) (s2.free hl) ae⟩⟩
theorem yQ (T:Txt K mg a):bd P w K mg base CX0 4 a.ql a.dQ ["self","layer","place"] (Ld P w K a):=by
 refine T.A7.ok xX (fun vs H Q E h=> ?_) (fun cdv A outer s H vs Q E hr h=> ?_)
 ·obtain⟨A,n,ly,tv,trs,tk,ds,S,c,p,rfl,_⟩:=h
  rfl
 ·obtain⟨A,n,ly,tv,trs,tk,ds,S,c,p,rfl,hS,hly,p0,p1,q⟩:=h
  refine⟨_,(ag (aX (av ((fI T).mono (by decide)) hr rfl T.iE T.eR.kp T.iG .nil aD (ad (pv 1) (ad (aU K rfl (pv 0)) af))))
 (ag (aX (av ((yL T).mono (by decide)) hr rfl T.AV T.qQ.kp T.Bg .nil aD (ad (pv 2) (ad (aU K rfl (pv 0)) af))))
 (ah (aI (bD (aU K rfl (iC (cw hr) (aU K rfl (pv 0)) (pv 1) (fun _ _=>rfl))) T.bg T.tU ((tP (P:=P) (w:=w) T).mono (by decide)) hr T.vS .nil aD (ad (pv 2) af)))))),?_⟩
  obtain⟨ow,m,hH,hTS,hR,hO,hn,htk,how⟩:=hS
  obtain⟨dx,sa,ci,hI⟩:=hH.ins
  obtain⟨dxl,zl,hL⟩:=hH.lob
  obtain⟨dxT,hIT⟩:=hH.tab.ins
  have hvl:bh [((.inr ly:Key),V.ref A.lo)] (.inr ly)=some (.ref A.lo):=bw rfl
  refine⟨_,rfl,_,rfl,A.h,_,dx,_,_,rfl,hI,T.ay,T.aY,rfl,ly,A.ln,rfl,hly,.inl ⟨_,hH.lay,by rw[hvl];rfl⟩,fun H1 s1=> ?_⟩
  refine⟨_,rfl,_,rfl,A.h,_,dx,_,_,rfl,s1 _ _ hI,T.ay,T.bM,rfl,p,n,rfl,p0,p1,?_⟩
  refine⟨_,rfl,A.h,_,dx,_,_,rfl,s1 _ _ hI,T.ay,T.aY,rfl,_,rfl,A.ln,.ref A.lo,rfl,by rw[←hvl];exact e8.k (k:=.inr ly) (s1 _ _ hH.lay),?_⟩
  exact⟨A.lo,_,dxl,_,_,rfl,s1 _ _ hL,T.ff,T.dF,rfl,A.t,dxT,_,rfl,s1 _ _ hIT,rfl,_,rfl,A.t,A.od,A.td,n,ow,tk,m,p,rfl,hH.tab.same s1,q _ H1 s1 (OwS.own hTS (hR.mono fun _ _ x=>bN s1 x) p0 p1)⟩
theorem JM (T:Txt K mg a) (hw:w.params=a.pm):bd P w K mg base CX0 9 a.KW a.pS ["_law_house","_law_deed_here"] (Lf P w K a):=by
 refine T.GF.ok Ea (fun vs H Q E h=> ?_) (fun cdv A outer s H vs Q E hr h=> ?_)
 ·obtain⟨h,d,rfl,_⟩:=h
  rfl
 ·obtain⟨h,d,rfl,hc⟩:=h
  refine⟨_,(ag (LA rfl rfl T.BI rfl T.EB T.BJ rfl T.EC T.vW (fun E pins σ Xe hx=>(Nb (i:=2) Ea.nd rfl (by first |exact Or.inl rfl |exact Or.inr rfl) (LP (pv 0) T.ay T.pI ((pH (P:=P) (w:=w) T hw).mono (by decide)) hr T.sF .nil hx (ad (pv 1) af)))) (fun ea=>(ah (aI aL))) (fun ea=>(ah (aI aL))))
 (ah (aI (pv 2)))),?_⟩
  obtain⟨A,n,ly,tv,trs,trs',tk,ds,S,c,xs,W,cl,rfl,hT,hS,hc,hok,hD,hly,hdsl,qc,q,qe⟩:=hc
  obtain⟨dx,sa,ci,hI⟩:=hS.ih
  refine⟨_,rfl,A.h,dx,_,rfl,hI,rfl,_,rfl,A.h,d,rfl,.inr (.inr ⟨A,n,ly,tv,trs,trs',tk,ds,S,c,xs,W,cl,rfl,hT,hS,hc,hok,hD,hly,hdsl,fun hcl H' s'=> ?_,fun hcl hle r tk' H' o hS' nw hr hr'=>aq ⟨_,rfl,q hcl hle r tk' H' o hS' nw hr hr'⟩,fun hcl hlt H' s'=> ?_⟩)⟩
  ·rcases qc hcl H' s' with⟨e,q⟩ |⟨e,q⟩
   ·exact .inl ⟨e,q⟩
   ·exact .inr ⟨e,q⟩
  ·rcases qe hcl hlt H' s' with⟨e,q⟩ |⟨e,q⟩
   ·exact .inl ⟨e,q⟩
   ·exact .inr ⟨e,q⟩
end
structure bZ (P:Program) (w:World) (K:PySem.W.Frag) (H:Hp) (fl hl ld:Addr) (n:Nat) (lo:List (Key×V)) (lk:List aW) (lm:List Pl) (S:AS):Prop where
 fls:H fl=some (.lst [.int 0,.ref hl,.ref ld])
 hol:H hl=some (.dK lo)
 lon:(lo.map (·.1)).Nodup
 lor: ∀x∈lo,∃p:Int,x.1=.inl p∧0≤p∧p<n
 dct:H ld=some (dM P w ld lk)
 keys:e7 K H lk
 lsts:cF H lk lm
 apt:(lk.map (·.2.2)).Nodup
 knd:(lk.map (·.1)).Nodup
 nfl: ∀x∈lk,x.2.2≠.ref fl
 pls: ∀k,a9 lm k=S.pl k
 ocs: ∀p:Int,0≤p→p<n→(bh lo (.inl p)).isSome=S.oc p
 ows:OwS (cq K H) n S lo
structure Fr (hl ld:Addr) (lk:List aW) (H H':Hp):Prop where
 fr: ∀b o,H b=some o→b≠hl→b≠ld→(∀x∈lk,x.2.2≠.ref b)→H' b=some o
 dm: ∀b,H' b=none→H b=none
theorem Fr.of {hl ld:Addr}{lk:List aW}{H H':Hp}(h:am H H'):Fr hl ld lk H H':=⟨fun b o e _ _ _=>h b o e,fun _ e=>h.free e⟩
theorem Fr.new {hl ld l:Addr}{lk:List aW}{H H':Hp}{o:HO}(f:Fr hl ld lk H H') (hn:H l=none):Fr hl ld lk H (upd H' l o):=⟨fun b o' e h1 h2 h3=>by
 rw[aj (fun z=>by rw[z,hn] at e;cases e)]
 exact f.fr b o' e h1 h2 h3,fun b e=>f.dm b (dC e)⟩
theorem Fr.hl {hl ld:Addr}{lk:List aW}{H H':Hp}{o:HO}(f:Fr hl ld lk H H'):Fr hl ld lk H (upd H' hl o):=⟨fun b o' e h1 h2 h3=>by
 rw[aj h1]
 exact f.fr b o' e h1 h2 h3,fun b e=>f.dm b (dC e)⟩
theorem Fr.ld {hl ld:Addr}{lk:List aW}{H H':Hp}{o:HO}(f:Fr hl ld lk H H'):Fr hl ld lk H (upd H' ld o):=⟨fun b o' e h1 h2 h3=>by
 rw[aj h2]
 exact f.fr b o' e h1 h2 h3,fun b e=>f.dm b (dC e)⟩
theorem Fr.list {hl ld l:Addr}{lk lk':List aW}{H H':Hp}{o:HO}(f:Fr hl ld lk H H') (nw:bC H lk lk') {x:aW}(hx:x∈lk') (e:x.2.2=.ref l):Fr hl ld lk H (upd H' l o):=by
 refine⟨fun b o' eb h1 h2 h3=> ?_,fun b e=>f.dm b (dC e)⟩
 rw[aj (fun z=> ?_)]
 ·exact f.fr b o' eb h1 h2 h3
 ·rcases nw x hx with⟨y,hy,e2⟩ |⟨l',e2,hn⟩
  ·exact h3 y hy (by rw[e2,e,z])
  ·rw[e] at e2
   cases e2
   rw[z,hn] at eb
   cases eb
theorem Fr.same {hl ld:Addr}{lk:List aW}{H H' H2:Hp}(f:Fr hl ld lk H H') (h:am H' H2):Fr hl ld lk H H2:=⟨fun b o e h1 h2 h3=>h _ _ (f.fr b o e h1 h2 h3),fun b e=>f.dm b (h.free e)⟩
theorem u8 {α β:Type}{f:α→β}: ∀{l:List α},(l.map f).Nodup→ ∀{x y},x∈l→y∈l→f x=f y→x=y
 | [],_,_,_,hx,_,_=>nomatch hx
 |a::r,h,x,y,hx,hy,e=>by
  obtain⟨h1,h2⟩:=List.nodup_cons.mp h
  rcases List.mem_cons.mp hx with e1 |h3<;>rcases List.mem_cons.mp hy with e2 |h4
  ·rw[e1,e2]
  ·refine absurd ?_ h1
   rw[←e1,e]
   exact List.mem_map.mpr ⟨y,h4,rfl⟩
  ·refine absurd ?_ h1
   rw[←e2,←e]
   exact List.mem_map.mpr ⟨x,h3,rfl⟩
  ·exact u8 h2 h3 h4 e
section
variable {P:Program}{w:World}{K:PySem.W.Frag}{H H':Hp}{fl hl ld:Addr}{n:Nat}{lo:List (Key×V)}{lk:List aW}{lm:List Pl}{S S':AS}
theorem bZ.lst (L:bZ P w K H fl hl ld n lo lk lm S) {x:aW}(hx:x∈lk): ∃l ps,x.2.2=.ref l∧H l=some (.lst ps):=by
 obtain⟨i,hi⟩:=List.mem_iff_getElem?.mp hx
 obtain⟨y,_,l,e1,e2⟩:=cF.at_ L.lsts i x hi
 exact⟨l,_,e1,e2⟩
theorem bZ.kp (L:bZ P w K H fl hl ld n lo lk lm S) (f:Fr hl ld lk H H'):Kp H H':=by
 have go: ∀b o,H b=some o→(∀xs,o≠.lst xs)→(∀φ,o≠.ext φ)→(∀kvs,o≠.dK kvs)→H' b=some o:=fun b o e h1 h2 h3=>by
  refine f.fr b o e (fun z=> ?_) (fun z=> ?_) (fun x hx z=> ?_)
  ·rw[z,L.hol] at e;cases e;exact h3 _ rfl
  ·rw[z,L.dct] at e;cases e;exact h2 _ rfl
  ·obtain⟨l,ps,e1,e2⟩:=L.lst hx
   rw[e1] at z
   cases z
   rw[e2] at e;cases e;exact h1 _ rfl
 exact⟨fun u xs e=>go u _ e (fun _ z=>nomatch z) (fun _ z=>nomatch z) (fun _ z=>nomatch z),fun u o ⟨o',e⟩=>⟨o',go u _ e (fun _ z=>nomatch z) (fun _ z=>nomatch z) (fun _ z=>nomatch z)⟩⟩
theorem bZ.same (L:bZ P w K H fl hl ld n lo lk lm S) (e:am H H'):bZ P w K H' fl hl ld n lo lk lm S:=
 {L with fls:=e _ _ L.fls,hol:=e _ _ L.hol,dct:=e _ _ L.dct,keys:=fun x hx=>bN e (L.keys x hx),lsts:=L.lsts.same e,ows:=L.ows.mono fun _ _ x=>bN e x}
theorem bZ.congr (L:bZ P w K H fl hl ld n lo lk lm S) (h1: ∀j,S'.pl j=S.pl j) (h2: ∀p:Int,0≤p→p<n→S'.oc p=S.oc p):bZ P w K H fl hl ld n lo lk lm S':=
 {L with pls:=fun k=>by rw[h1];exact L.pls k,ocs:=fun p p0 p1=>by rw[h2 p p0 p1];exact L.ocs p p0 p1,ows:=fun p v p0 p1 e=>let⟨k,a,b⟩:=L.ows p v p0 p1 e;⟨k,by rw[h1];exact a,b⟩}
theorem bZ.at_ (L:bZ P w K H fl hl ld n lo lk lm S) (k:bc):(∃l,bu lk k=some (.ref l)∧H l=some (.lst ((S.pl k).map V.int))∧ ∃x∈lk,x.1=k∧x.2.2=.ref l)∨(bu lk k=none∧S.pl k=[]):=by
 rcases L.lsts.val k with⟨l,ps,e1,e2,e3⟩ |⟨e1,e2⟩
 ·refine .inl ⟨l,e1,?_,?_⟩
  ·rw[←L.pls k]
   unfold a9
   rw[e2]
   exact e3
  ·unfold bu at e1
   obtain⟨x,hx,e⟩:=Option.map_eq_some_iff.mp e1
   exact⟨x,List.mem_of_find?_eq_some hx,of_decide_eq_true (show decide (x.1=k)=true from List.find?_some (p:=fun(y:aW)=>decide (y.1=k)) hx),e⟩
 ·refine .inr ⟨e1,?_⟩
  rw[←L.pls k]
  unfold a9
  rw[e2]
  rfl
theorem bZ.got {e:Addr}(L:bZ P w K H fl hl ld n lo lk lm S) (k:bc) (hE:H e=some (.lst [])): ∃lv,(bu lk k).getD (.ref e)=.ref lv∧H lv=some (.lst ((S.pl k).map V.int)):=by
 rcases L.at_ k with⟨l,e1,e2,_⟩ |⟨e1,e2⟩
 ·exact⟨l,by rw[e1];rfl,e2⟩
 ·exact⟨e,by rw[e1];rfl,by rw[e2];exact hE⟩
theorem bZ.count (L:bZ P w K H fl hl ld n lo lk lm S):lo.length+(frl n S.oc).length=n:=by
 have key: ∀x∈lo,x.1=.inl (x.1.elim id fun _=>0):=fun x hx=>by
  obtain⟨p,e,_⟩:=L.lor x hx
  rw[e];rfl
 have e1:(lo.map fun x=>x.1.elim id fun _=>(0:Int)).length=lo.length:=List.length_map _
 rw[←e1,←List.length_append]
 have hr:((List.range n).map fun(i:Nat)=>(i:Int)).length=n:=by rw[List.length_map,List.length_range]
 rw[←hr]
 have memo: ∀p:Int,p∈(lo.map fun x=>x.1.elim id fun _=>(0:Int))↔0≤p∧p<n∧S.oc p=true:=fun p=>by
  constructor
  ·intro hp
   obtain⟨x,hx,rfl⟩:=List.mem_map.mp hp
   obtain⟨q,e,q0,q1⟩:=L.lor x hx
   have ev:(x.1.elim id fun _=>(0:Int))=q:=by rw[e];rfl
   rw[ev]
   refine⟨q0,q1,?_⟩
   rw[←L.ocs q q0 q1,←iH,List.any_eq_true]
   exact⟨x,hx,decide_eq_true e⟩
  ·rintro⟨p0,p1,e⟩
   rw[←L.ocs p p0 p1,←iH,List.any_eq_true] at e
   obtain⟨x,hx,e⟩:=e
   exact List.mem_map.mpr ⟨x,hx,by rw[of_decide_eq_true e];rfl⟩
 refine Ec ?_ ?_ fun p=> ?_
 ·rw[List.nodup_append]
  refine⟨?_,vD _ _,fun p hp q hq e=> ?_⟩
  ·have h:=L.lon
   rw[List.nodup_iff_pairwise_ne,List.pairwise_map] at h⊢
   refine List.Pairwise.imp_of_mem ?_ h
   intro x y hx hy hne e
   exact hne (by rw[key x hx,key y hy,e])
  ·subst e
   have h1:=((memo p).mp hp).2.2
   rw[(jD.mp hq).2.2] at h1
   cases h1
 ·rw[List.nodup_iff_pairwise_ne,List.pairwise_map]
  exact(List.nodup_iff_pairwise_ne.mp List.nodup_range).imp fun h=>by omega
 ·rw[List.mem_append,memo,jD,List.mem_map]
  constructor
  ·rintro(⟨a,b,_⟩ |⟨a,b,_⟩)<;>exact⟨p.toNat,List.mem_range.mpr (by omega),by omega⟩
  ·rintro⟨i,hi,rfl⟩
   have:=List.mem_range.mp hi
   cases e:S.oc (i:Int)
   ·exact .inr ⟨by omega,by omega,rfl⟩
   ·exact .inl ⟨by omega,by omega,rfl⟩
theorem bZ.put {k:bc}{l lb:Addr}{ps:List Int}{bs:List V}{lo':List (Key×V)}(L:bZ P w K H fl hl ld n lo lk lm S) (he: ∃x∈lk,x.1=k∧x.2.2=.ref l) (hlb:H lb=some (.lst bs)) (nb:lb≠fl) (nlb: ∀x∈lk,x.2.2=.ref lb→x.2.2=.ref l)
  (fr: ∀b o,H b=some o→b≠l→b≠hl→b≠lb→H' b=some o) (hl':H' l=some (.lst (ps.map V.int))) (hh':H' hl=some (.dK lo')) (h1: ∀j,S'.pl j=if j=k then ps else S.pl j)
  (h2:(lo'.map (·.1)).Nodup) (h3: ∀x∈lo',∃p:Int,x.1=.inl p∧0≤p∧p<n) (h4: ∀p:Int,0≤p→p<n→(bh lo' (.inl p)).isSome=S'.oc p) (h5:OwS (cq K H) n S' lo'):
  ∃lm',bZ P w K H' fl hl ld n lo' lk lm' S':=by
 obtain⟨x,hx,ex,el⟩:=he
 obtain⟨l',qs,e1,e2⟩:=L.lst hx
 rw[el] at e1
 cases e1
 have go: ∀b o,H b=some o→(∀xs,o≠.lst xs)→(∀kvs,o≠.dK kvs)→H' b=some o:=fun b o e z1 z2=>fr b o e (fun z=>by rw[z,e2] at e;cases e;exact z1 _ rfl) (fun z=>by rw[z,L.hol] at e;cases e;exact z2 _ rfl) (fun z=>by rw[z,hlb] at e;cases e;exact z1 _ rfl)
 have kp:Kp H H':=⟨fun u xs e=>go u _ e (fun _ z=>nomatch z) (fun _ z=>nomatch z),fun u o ⟨o',e⟩=>⟨o',go u _ e (fun _ z=>nomatch z) (fun _ z=>nomatch z)⟩⟩
 refine⟨lm.map fun y=>if y.1=k then(y.1,y.2.1,ps) else y,fr _ _ L.fls (fun z=>L.nfl x hx (by rw[el,z])) (fun z=>by have e:=L.fls;rw[z,L.hol] at e;cases e) (Ne.symm nb),hh',h2,h3,go _ _ L.dct (fun _ z=>nomatch z) (fun _ z=>nomatch z),fun y hy=>bA kp (L.keys y hy),?_,L.apt,L.knd,L.nfl,fun j=> ?_,h4,h5.mono fun _ _ x=>bA kp x⟩
 ·have walk: ∀{tk:List aW}{m:List Pl},cF H tk m→(∀y∈tk,y∈lk)→cF H' tk (m.map fun y=>if y.1=k then(y.1,y.2.1,ps) else y):=by
   intro tk m h sub
   induction h with
   |nil=>exact .nil
   | @cons u y us ys r t ih=>
    obtain⟨r1,r2,lu,r3,r4⟩:=r
    have hu:=sub u List.mem_cons_self
    refine .cons ?_ (ih fun z hz=>sub z (List.mem_cons_of_mem _ hz))
    dsimp only
    by_cases e:y.1=k
    ·have eu:u=x:=u8 L.knd hu hx (by rw[r1,e,ex])
     rw[if_pos e]
     refine⟨r1,r2,lu,r3,?_⟩
     rw[eu,el] at r3
     cases r3
     exact hl'
    ·rw[if_neg e]
     have nl:lu≠l:=fun z=>e (by
      have eu:u=x:=u8 L.apt hu hx (by rw[r3,el,z])
      rw[←r1,eu,ex])
     refine⟨r1,r2,lu,r3,fr _ _ r4 nl (fun z=>by rw[z,L.hol] at r4;cases r4) (fun z=>nl ?_)⟩
     have:=nlb u hu (by rw[r3,z])
     rw[r3] at this
     exact V.ref.inj this
  exact walk L.lsts fun _ h=>h
 ·have hs:(bu lm k).isSome=true:=by
   rcases L.lsts.val k with⟨_,_,_,e,_⟩ |⟨e,_⟩
   ·rw[e];rfl
   ·exfalso
    unfold bu at e
    have:=List.find?_eq_none.mp (Option.map_eq_none_iff.mp e) x hx
    exact this (decide_eq_true ex)
  have em:(lm.map fun y=>if y.1=k then(y.1,y.2.1,ps) else y)=cn lm k x.2.1 ps:=by
   unfold cn
   rw[if_pos hs]
  rw[em,d6,h1,L.pls]
theorem bZ.add {k:bc}{kv:V}{l:Addr}(L:bZ P w K H fl hl ld n lo lk lm S) (hm:bu lk k=none) (hkv:cq K H k kv) (hlst:H l=some (.lst [])) (n1:l≠fl) (n2: ∀x∈lk,x.2.2≠.ref l):
  ∃lm',bZ P w K (upd H ld (dM P w ld (cn lk k kv (.ref l)))) fl hl ld n lo (cn lk k kv (.ref l)) lm' S:=by
 have kp:Kp H (upd H ld (dM P w ld (cn lk k kv (.ref l)))):=⟨fun u xs e=>by rw[aj (fun z=>by rw[z,L.dct] at e;cases e)];exact e,fun u o ⟨o',e⟩=>⟨o',by rw[aj (fun z=>by rw[z,L.dct] at e;cases e)];exact e⟩⟩
 have lkp: ∀{b:Addr}{xs:List V},H b=some (.lst xs)→upd H ld (dM P w ld (cn lk k kv (.ref l))) b=some (.lst xs):=fun {b xs} e=>by rw[aj (fun z=>by rw[z,L.dct] at e;cases e)];exact e
 have em:cn lk k kv (.ref l)=lk++[(k,kv,.ref l)]:=by
  unfold cn
  rw[hm];rfl
 have nk:k∉lk.map (·.1):=fun z=>by
  obtain⟨y,hy,e⟩:=List.mem_map.mp z
  unfold bu at hm
  have:=List.find?_eq_none.mp (Option.map_eq_none_iff.mp hm) y hy
  exact this (decide_eq_true e)
 refine⟨cn lm k kv [],lkp L.fls,by rw[aj (fun z=>by have e:=L.hol;rw[z,L.dct] at e;cases e)];exact L.hol,L.lon,L.lor,ae,e7.put (fun x hx=>bA kp (L.keys x hx)) (bA kp hkv),?_,?_,?_,fun x hx=> ?_,fun j=> ?_,L.ocs,L.ows.mono fun _ _ x=>bA kp x⟩
 ·have t1:cF (upd H ld (dM P w ld (cn lk k kv (.ref l)))) lk lm:=by
   have go: ∀{tk:List aW}{m:List Pl},cF H tk m→cF (upd H ld (dM P w ld (cn lk k kv (.ref l)))) tk m:=by
    intro tk m h
    induction h with
    |nil=>exact .nil
    |cons r t ih=>obtain⟨e1,e2,l',e3,e4⟩:=r;exact .cons ⟨e1,e2,l',e3,lkp e4⟩ ih
   exact go L.lsts
  exact cF.put (ps:=[]) (lkp hlst) t1
 ·rw[em,List.map_append,List.nodup_append]
  refine⟨L.apt,by simp,fun a ha b hb e=> ?_⟩
  obtain⟨y,hy,rfl⟩:=List.mem_map.mp ha
  rw[List.mem_singleton.mp hb] at e
  exact n2 y hy e
 ·rw[em,List.map_append,List.nodup_append]
  refine⟨L.knd,by simp,fun a ha b hb e=> ?_⟩
  have hb:b=k:=List.mem_singleton.mp hb
  exact nk (by rw[←hb,←e];exact ha)
 ·rw[em] at hx
  rcases List.mem_append.mp hx with hx |hx
  ·exact L.nfl x hx
  ·rw[List.mem_singleton.mp hx]
   exact fun z=>n1 (V.ref.inj z)
 ·rw[d6]
  split
  ·rename_i e
   subst e
   rcases L.at_ j with⟨_,e,_⟩ |⟨_,e⟩
   ·rw[hm] at e;cases e
   ·exact e.symm
  ·exact L.pls j
theorem bZ.popped {k:bc}{l lb:Addr}{bs:List V}{m:Nat}{p:Int}(hO:S.Ok n) (L:bZ P w K H fl hl ld n lo lk lm (S.give k (m+1))) (he: ∃x∈lk,x.1=k∧x.2.2=.ref l) (hp:(S.pl k)[m]? =some p) (hlb:H lb=some (.lst bs)) (nb:lb≠fl) (nlb: ∀x∈lk,x.2.2≠.ref lb)
  (fr: ∀b o,H b=some o→b≠l→b≠hl→b≠lb→H' b=some o) (hl':H' l=some (.lst (((S.pl k).take m).map V.int))) (hh':H' hl=some (.dK (gx lo (.inl p)))): ∃lm',bZ P w K H' fl hl ld n (gx lo (.inl p)) lk lm' (S.give k m):=by
 have hd:(S.pl k).drop m=p::(S.pl k).drop (m+1):=by
  have hlt:=(List.getElem?_eq_some_iff.mp hp).1
  rw[List.drop_eq_getElem_cons hlt,(List.getElem?_eq_some_iff.mp hp).2]
 refine L.put he hlb nb (fun x hx e=>absurd e (nlb x hx)) fr hl' hh' (fun j=> ?_) ?_ (fun x hx=>L.lor x (List.mem_filter.mp hx).1) (fun q q0 q1=> ?_) (fun q v q0 q1 e=> ?_)
 ·show(if j=k then(S.pl k).take m else S.pl j)=if j=k then(S.pl k).take m else(if j=k then(S.pl k).take (m+1) else S.pl j)
  split<;>rfl
 ·exact(List.filter_sublist.map _).nodup L.lon
 ·rw[uQ]
  show _=if q∈(S.pl k).drop m then false else S.oc q
  have h0:(bh lo (.inl q)).isSome=if q∈(S.pl k).drop (m+1) then false else S.oc q:=L.ocs q q0 q1
  by_cases e:q=p
  ·rw[if_pos (by rw[e]),hd,if_pos (by rw[e];exact List.mem_cons_self)];rfl
  ·rw[if_neg (fun z=>e (Sum.inl.inj z)),h0,hd]
   by_cases hq:q∈(S.pl k).drop (m+1)
   ·rw[if_pos hq,if_pos (List.mem_cons_of_mem _ hq)]
   ·rw[if_neg hq,if_neg (fun z=>(List.mem_cons.mp z).elim e hq)]
 ·rw[uQ] at e
  split at e
  ·cases e
  ·rename_i hne
   obtain⟨j,hj,r⟩:=L.ows q v q0 q1 e
   refine⟨j,?_,r⟩
   have hj:q∈if j=k then(S.pl k).take (m+1) else S.pl j:=hj
   show q∈if j=k then(S.pl k).take m else S.pl j
   split at hj
   ·rename_i ej
    rw[if_pos ej]
    rw[List.take_add_one,hp,List.mem_append] at hj
    rcases hj with hj |hj
    ·exact hj
    ·exact absurd (congrArg Sum.inl (List.mem_singleton.mp hj)) hne
   ·rename_i ej
    rw[if_neg ej]
    exact hj
theorem bZ.pushed {k:bc}{l:Addr}{m:Nat}{p:Int}{kv:V}(L:bZ P w K H fl hl ld n lo lk lm (S.took n k ((S.pl k).length+m))) (he: ∃x∈lk,x.1=k∧x.2.2=.ref l) (hp:(frl n S.oc)[m]? =some p) (hkv:cq K H k kv)
  (fr: ∀b o,H b=some o→b≠l→b≠hl→H' b=some o) (hl':H' l=some (.lst ((S.pl k++(frl n S.oc).take (m+1)).map V.int))) (hh':H' hl=some (.dK (gv lo (.inl p) kv))): ∃lm',bZ P w K H' fl hl ld n (gv lo (.inl p) kv) lk lm' (S.took n k ((S.pl k).length+(m+1))):=by
 obtain⟨x,hx,ex,el⟩:=id he
 obtain⟨l',qs,e1,e2⟩:=L.lst hx
 rw[el] at e1
 cases e1
 have hpm:=jD.mp (List.mem_of_getElem? hp)
 have htk:(frl n S.oc).take (m+1)=(frl n S.oc).take m++[p]:=by rw[List.take_add_one,hp];rfl
 have hnv:bh lo (.inl p)=none:=by
  have h0:(bh lo (.inl p)).isSome=if p∈(frl n S.oc).take ((S.pl k).length+m-(S.pl k).length) then true else S.oc p:=L.ocs p hpm.1 hpm.2.1
  rw[Nat.add_sub_cancel_left,if_neg (fun z=> ?_),hpm.2.2] at h0
  ·cases hv:bh lo (.inl p) with
   |none=>rfl
   |some v=>rw[hv] at h0;cases h0
  ·have hnd:=vD n S.oc
   obtain⟨j,hj⟩:=List.mem_iff_getElem?.mp z
   have hji:j<m:=by have:=(List.getElem?_eq_some_iff.mp hj).1;rw[List.length_take] at this;omega
   rw[List.getElem?_take_of_lt hji] at hj
   have:=(List.getElem?_inj (List.getElem?_eq_some_iff.mp hj).1 hnd).mp (hj.trans hp.symm)
   omega
 have hput:gv lo (.inl p) kv=lo++[(.inl p,kv)]:=Ef _ hnv
 refine L.put (lb:=l) (bs:=qs) he e2 (fun z=>L.nfl x hx (by rw[el,z])) (fun x hx e=>e) (fun b o e h1 h2 _=>fr b o e h1 h2) hl' hh' (fun j=> ?_) ?_ (fun y hy=> ?_) (fun q q0 q1=> ?_) (fun q v q0 q1 e=> ?_)
 ·show(if j=k then S.pl k++(frl n S.oc).take ((S.pl k).length+(m+1)-(S.pl k).length) else S.pl j)=if j=k then S.pl k++(frl n S.oc).take (m+1) else(if j=k then _ else S.pl j)
  rw[Nat.add_sub_cancel_left]
  split<;>rfl
 ·rw[hput,List.map_append,List.nodup_append]
  refine⟨L.lon,by simp,fun u hu v hv e=> ?_⟩
  obtain⟨y,hy,rfl⟩:=List.mem_map.mp hu
  have hv:v=.inl p:=List.mem_singleton.mp hv
  have:(bh lo (.inl p)).isSome=true:=by rw[←iH,List.any_eq_true];exact⟨y,hy,decide_eq_true (e.trans hv)⟩
  rw[hnv] at this
  cases this
 ·rw[hput] at hy
  rcases List.mem_append.mp hy with hy |hy
  ·exact L.lor y hy
  ·rw[List.mem_singleton.mp hy];exact⟨p,rfl,hpm.1,hpm.2.1⟩
 ·rw[tw]
  show _=if q∈(frl n S.oc).take ((S.pl k).length+(m+1)-(S.pl k).length) then true else S.oc q
  have h0:(bh lo (.inl q)).isSome=if q∈(frl n S.oc).take ((S.pl k).length+m-(S.pl k).length) then true else S.oc q:=L.ocs q q0 q1
  rw[Nat.add_sub_cancel_left] at h0⊢
  rw[htk]
  by_cases e:q=p
  ·rw[if_pos (by rw[e]),if_pos (by rw[e];exact List.mem_append_right _ (List.mem_singleton.mpr rfl))];rfl
  ·rw[if_neg (fun z=>e (Sum.inl.inj z)),h0]
   by_cases hq:q∈(frl n S.oc).take m
   ·rw[if_pos hq,if_pos (List.mem_append_left _ hq)]
   ·rw[if_neg hq,if_neg (fun z=>(List.mem_append.mp z).elim hq (fun y=>e (List.mem_singleton.mp y)))]
 ·rw[tw] at e
  show∃j,q∈(if j=k then S.pl k++(frl n S.oc).take ((S.pl k).length+(m+1)-(S.pl k).length) else S.pl j)∧_
  rw[Nat.add_sub_cancel_left,htk]
  split at e
  ·rename_i eq
   cases e
   refine⟨k,?_,hkv⟩
   rw[if_pos rfl,Sum.inl.inj eq]
   exact List.mem_append_right _ (List.mem_append_right _ (List.mem_singleton.mpr rfl))
  ·obtain⟨j,hj,r⟩:=L.ows q v q0 q1 e
   refine⟨j,?_,r⟩
   have hj:q∈if j=k then S.pl k++(frl n S.oc).take ((S.pl k).length+m-(S.pl k).length) else S.pl j:=hj
   rw[Nat.add_sub_cancel_left] at hj
   split at hj
   ·rename_i ej
    rw[if_pos ej,←List.append_assoc]
    exact List.mem_append_left _ hj
   ·rename_i ej
    rw[if_neg ej]
    exact hj
end
theorem L7 {t u:TS}{D:sZ}{σ:St}{H:Hp}(J:St→Hp→Prop) (h1: ∀σ H,J σ H→u D σ H) (h2: ∀N:St→Hp→Prop,(∀σ H,J σ H→N σ H)→t {D with nx:=N} σ H):Fh t u D σ H:=h2 (u D) h1
theorem Kr {t u:TS}{D:sZ}{σ:St}{H:Hp}(J:St→Hp→Prop) (h1: ∀σ H,J σ H→u D σ H) (h2: ∀(N:St→Hp→Prop) (R:VK) (B C:St→Hp→Prop),(∀σ H,J σ H→N σ H)→t ⟨N,R,B,C⟩ σ H):Fh t u D σ H:=h2 (u D) D.rt D.bk D.ct h1
theorem Dh {t u:TS}{D:sZ}{σ:St}{H:Hp}(h: ∀(N:St→Hp→Prop) (R:VK) (B C:St→Hp→Prop),(∀σ H,u D σ H→N σ H)→(∀v H,D.rt v H→R v H)→t ⟨N,R,B,C⟩ σ H):Fh t u D σ H:=h (u D) D.rt D.bk D.ct (fun _ _ h=>h) fun _ _ h=>h
inductive Lh (P:Program) (w:World) (K:PySem.W.Frag) (vs:List V) (H:Hp) (Q:VK) (_E:XK):Prop
 |mk (fl hl ld wl:Addr) (n:Nat) (lo:List (Key×V)) (lk:List aW) (lm:List Pl) (S:AS) (W:Wl) (ts:List V) (_:vs=[.ref fl,.ref wl,.int n]) (_:bZ P w K H fl hl ld n lo lk lm S) (_:S.Ok n) (_:H wl=some (.lst ts)) (_:(∀x∈lk,x.2.2≠.ref wl)) (_:WAt K H ts W) (_:(∀x∈W,0≤x.2)) (_:(W.map (·.1)).Nodup) (_:W.length≤5) (_:n≤1000) (_:lk.length≤5000) (_:(bf S W≤((frl n S.oc).length:Int)→ ∀(l:Addr) (lo':List (Key×V)) (lk':List aW) (lm':List Pl) H',Fr hl ld lk H H'→bC H lk lk'→bZ P w K H' fl hl ld n lo' lk' lm' (aS n (aV S W) W)→lk'.length≤lk.length+5→Q (.ref l) H')) (_:(((frl n S.oc).length:Int)<bf S W→ ∀H',am H H'→Q .non H'))
theorem Hh {xs:List aW}{k:bc}{Q:VK}{z:V}{H3 H4:Hp}(Pc:V→Hp→Prop) (h0: ∀v H',Pc v H'→Q v H') (h1: ∀v,bu xs k=some v→Pc v H3) (h2:bu xs k=none→Pc z H4):(∀v,bu xs k=some v→Q v H3)∧(bu xs k=none→Q z H4):=
 ⟨fun v hv=>h0 _ _ (h1 v hv),fun hm=>h0 _ _ (h2 hm)⟩
section
variable {P:Program}{w:World}{K:PySem.W.Frag}{mg:Str→Option Value}{base:Heap}{a:Adr}
theorem Hr (T:Txt K mg a):bd P w K mg base CX0 1 a.Gm a.mF ["_law_floor","_law_wanted_here","_law_prime"] (Lh P w K):=by
 refine T.EL.ok ca (fun vs H Q E h=> ?_) (fun cdv A outer s H vs Q E hr h=> ?_)
 ·obtain⟨fl,hl,ld,wl,n,lo,lk,lm,S,W,ts,rfl,_⟩:=h
  rfl
 ·obtain⟨fl,hl,ld,wl,n,lo,lk,lm,S,W,ts,rfl,hL,hO,hwl,nwl,hW,hW0,hWn,hW5,hn,hlk,q,qn⟩:=h
  refine⟨_,(ag (aO (i:=3) ca.nd rfl (.inl rfl) (aA Cw (pv 2) (az F7 (by rfl) T.bK L2.aQ (ad (aJ (bj K rfl) (pv 0) ai (fun _ _=>rfl)) af))))
 (ag (cV PassesOwn.never rfl (ce K rfl (pv 1)) (eX K rfl rfl (bo (aF (i:=4) ca.nd rfl (.inl rfl)) (bo (aF (i:=5) ca.nd rfl (.inl rfl)) eW)))
 (ah (aO (i:=3) ca.nd rfl (.inl rfl) (aA Cw (aA bF (pv 3) (az (aK K rfl) (by rfl) T.bK L2.aQ (ad (yc (P:=P) (w:=w) K rfl (cw hr) (aJ (bj K rfl) (pv 0) ai (fun _ _=>rfl)) (pv 4) (b7 af) ⟨rfl,rfl,rfl,rfl⟩) af))) (pv 5)))))
 (ag (a0 (aE JI (pv 3) ai (aM _)) (ah (aI Ft)) aH)
 (ag (aO (i:=6) ca.nd rfl (.inl rfl) (b7 af))
 (ag (cV PassesOwn.never rfl (ce K rfl (pv 1)) (eX K rfl rfl (bo (aF (i:=4) ca.nd rfl (.inl rfl)) (bo (aF (i:=5) ca.nd rfl (.inl rfl)) eW)))
 (ag (aO (i:=7) ca.nd rfl (.inl rfl) (Jz (P:=P) (w:=w) K rfl (cw hr) (aJ (bj K rfl) (pv 0) ai (fun _ _=>rfl)) (pv 4) (b7 af) ⟨rfl,rfl,rfl,rfl⟩))
 (ah (x9 PassesOwn.never (aE Bw (az (aK K rfl) (by rfl) T.bK L2.aQ (ad (pv 7) af)) (pv 5) (aM _)) (ag (aX (pE K rfl PySem.F.plainAttrs_list PySem.F.slot_list_append PySem.F.type_list_append fc (pv 6) (ad (LI K rfl PySem.F.plainAttrs_list PySem.F.slot_list_pop PySem.F.type_list_pop Nz (pv 7)) af)))
 (ah (aX (yd (aJ (bj K rfl) (pv 0) ai (fun _ _=>rfl)) (aJ (bj K rfl) (pv 6) (OS MH ai) (fun _ _=>rfl)) ⟨rfl,rfl,rfl,rfl⟩))))))))
 (ag (aO (i:=8) ca.nd rfl (.inl rfl) ai)
 (ag (cV PassesOwn.never rfl (ce K rfl (pv 1)) (eX K rfl rfl (bo (aF (i:=4) ca.nd rfl (.inl rfl)) (bo (aF (i:=5) ca.nd rfl (.inl rfl)) eW)))
 (ah (x9 PassesOwn.never (aE JI (az (aK K rfl) (by rfl) T.bK L2.aQ (ad (JA (P:=P) (w:=w) K rfl (cw hr) (aJ (bj K rfl) (pv 0) ai (fun _ _=>rfl)) (pv 4) (fun _ _=>rfl)) af)) (pv 5) (aM _)) (ag (x9 PassesOwn.never (x8 (JD (cw hr) (pv 8) (aJ (bj K rfl) (pv 0) ai (fun _ _=>rfl))) rfl) (ah (aO (i:=8) ca.nd rfl (.inl rfl) (aA bF (pv 8) ai))))
 (ag (lD (pv 4) (nH (aJ (bj K rfl) (pv 0) ai (fun _ _=>rfl)) (pv 8) (Co (cw hr))))
 (ah (aX (pE K rfl PySem.F.plainAttrs_list PySem.F.slot_list_append PySem.F.type_list_append fc (JA (P:=P) (w:=w) K rfl (cw hr) (aJ (bj K rfl) (pv 0) ai (fun _ _=>rfl)) (pv 4) (fun _ _=>rfl)) (ad (pv 8) af)))))))))
 (ah (aI (pv 6)))))))))),?_⟩
  have htl:ts.length=W.length:=Paired.length hW
  have hcnt:=hL.count
  refine⟨_,rfl,_,rfl,fl,_,1,_,rfl,rfl,SqL.of hL.fls,ao (k:=1) rfl,hl,lo,rfl,hL.hol,_,_,rfl,rfl,aq ?_⟩
  refine⟨_,rfl,wl,rfl,⟨_,SqL.of hwl⟩,?_⟩
  refine eC (xs:=ts) (fun i σ H'=>am H H'∧(Ex2 fun v4 v5=>σ=[some (.ref fl),some (.ref wl),some (.int n),some (.int ((n:Int)-(lo.length:Int)-bf S (W.take i))),v4,v5,none,none,none])) ⟨am.refl _,_,_,by rw[show bf S (W.take 0)=0 from rfl,Int.sub_zero];rfl⟩ (fun i σ H' _ h=>SqL.of (h.1 _ _ hwl)) ?_ ?_
  ·rintro i v σ H1 hv ⟨s1,v4,v5,rfl⟩
   obtain⟨x,hx,b,kv,rfl,hb,hk⟩:=hW.get i v hv
   refine⟨b,_,rfl,am.tseq s1 hb,rfl,_,_,rfl,aq ⟨_,_,rfl,aq ⟨rfl,?_⟩⟩⟩
   have hL1:=hL.same s1
   refine⟨_,rfl,_,rfl,fl,_,2,_,rfl,rfl,SqL.of hL1.fls,ao (k:=2) rfl,ld,lk,rfl,hL1.dct,_,rfl,aC (show _≤65536 by simp),fun e he=> ?_⟩
   have s2:=al (o:=.lst []) s1 he
   have hE:upd H1 e (.lst []) e=some (.lst []):=ae
   generalize upd H1 e (.lst [])=H2 at s2 hE⊢
   have hL2:=hL.same s2
   refine⟨lk,x.1,hL2.dct,hL2.keys,bN s2 hk,?_⟩
   obtain⟨lv,elv,hlv⟩:=hL2.got x.1 hE
   rw[elv]
   refine⟨_,_,rfl,.inl ⟨_,SqL.of hlv,rfl⟩,_,_,rfl,rfl,_,rfl,_,_,rfl,rfl,s2,some kv,some (.int x.2),?_⟩
   rw[dr hx,va,dD,List.length_map]
   have e:(n:Int)-(lo.length:Int)-bf S (W.take i)+((S.pl x.1).length:Int)-x.2=(n:Int)-(lo.length:Int)-(bf S (W.take i)+(x.2-((S.pl x.1).length:Int)+bf S [])):=by
    show _=(n:Int)-(lo.length:Int)-(bf S (W.take i)+(_+0))
    omega
   rw[←e]
   rfl
  ·rintro σ H1 ⟨s1,v4,v5,rfl⟩
   rw[List.take_of_length_le (by omega)]
   have hL1:=hL.same s1
   refine⟨_,rfl,_,_,rfl,rfl,_,rfl,?_⟩
   refine se (fun hgt=>qn (by omega) H1 s1) (fun hgt=> ?_)
   have q:=q (by omega)
   clear qn
   refine nx_ ⟨aC (show _≤65536 by simp),fun lb hlb=>aq ?_⟩
   have s2:=al (o:=.lst []) s1 hlb
   have hlb2:upd H1 lb (.lst []) lb=some (.lst []):=ae
   have hlbn:H lb=none:=s1.free hlb
   generalize upd H1 lb (.lst [])=H2 at s2 hlb2⊢
   have hL2:=hL.same s2
   have nlb1:lb≠fl:=fun z=>by have e:=hL.fls;rw[←z,hlbn] at e;cases e
   have nlb2: ∀x∈lk,x.2.2≠.ref lb:=fun x hx z=>by
    obtain⟨l,ps,e1,e2⟩:=hL.lst hx
    rw[e1] at z
    cases z
    rw[hlbn] at e2
    cases e2
   have nwd:wl≠ld:=fun z=>by have e:=hL.dct;rw[←z,hwl] at e;cases e
   have nwh:wl≠hl:=fun z=>by have e:=hL.hol;rw[←z,hwl] at e;cases e
   have hpf:=EH hO hWn hW0 W.length (Nat.le_refl _)
   rw[List.take_of_length_le (Nat.le_refl _)] at hpf
   refine⟨_,rfl,wl,rfl,⟨_,SqL.of (s2 _ _ hwl)⟩,?_⟩
   refine eC (xs:=ts) (fun i σ H'=>Ex4 fun lo' lk' lm' bs=>An9 (bZ P w K H' fl hl ld n lo' lk' lm' (aV S (W.take i))) (Fr hl ld lk H H') (bC H lk lk') (lk'.length≤lk.length+i) ((∀j x,j<i→W[j]? =some x→(bu lk' x.1).isSome=true)) ((∀x∈lk',x.2.2≠.ref lb)) (H' lb=some (.lst bs)) (bs.length≤1000*i) (Ex3 fun v4 v5 v7=>σ=[some (.ref fl),some (.ref wl),some (.int n),some (.int ((n:Int)-(lo.length:Int)-bf S W)),v4,v5,some (.ref lb),v7,none]))
    ⟨lo,lk,lm,[],hL2,.of s2,bC.refl _ _,Nat.le_refl _,fun j x hj=>absurd hj (Nat.not_lt_zero _),nlb2,hlb2,Nat.le_refl _,_,_,_,rfl⟩ (fun i σ H' _ h=>by obtain⟨_,_,_,_,_,f,_⟩:=h;exact SqL.of (f.fr _ _ hwl nwh nwd nwl)) ?_ ?_
   ·rintro i v σ H3 hv ⟨lo3,lk3,lm3,bs3,hL3,f3,nw3,hll3,his3,nlb3,hlb3,hbl3,v4,v5,v7,rfl⟩
    obtain⟨x,hx,b,kv,rfl,hb,hk⟩:=hW.get i v hv
    have hi:i<ts.length:=(List.getElem?_eq_some_iff.mp hv).1
    have hx0:=hW0 x (List.mem_of_getElem? hx)
    have hO3:=cY (W.take i) hO
    have e1:aV S (W.take (i+1))=(aV S (W.take i)).give x.1 x.2.toNat:=by rw[dr hx,n9]
    refine⟨b,_,rfl,(hL.kp f3).tq hb,rfl,_,_,rfl,aq ⟨_,_,rfl,aq ⟨rfl,?_⟩⟩⟩
    rw[e1]
    generalize aV S (W.take i)=S0 at hL3 hO3
    have hlen:(S0.pl x.1).length≤n:=qx (hO3.nd x.1) fun p hp=>⟨(hO3.in_ x.1 p hp).1,(hO3.in_ x.1 p hp).2.1⟩
    refine⟨_,rfl,fl,_,2,_,rfl,rfl,SqL.of hL3.fls,ao (k:=2) rfl,ld,lk3,rfl,hL3.dct,_,rfl,aC (show _≤65536 by simp),fun e he=> ?_⟩
    have s6:=al (o:=.lst []) (am.refl H3) he
    have hE:upd H3 e (.lst []) e=some (.lst []):=ae
    generalize upd H3 e (.lst [])=H6 at s6 hE⊢
    have hL6:=hL3.same s6
    have f6:=f3.same s6
    have hk6:=bA (hL.kp f6) hk
    have hen:e≠fl:=fun z=>by have h:=hL3.fls;rw[←z,he] at h;cases h
    have hel: ∀y∈lk3,y.2.2≠.ref e:=fun y hy z=>by
     obtain⟨l',ps,e1,e2⟩:=hL3.lst hy
     rw[e1] at z
     cases z
     rw[he] at e2
     cases e2
    refine⟨lk3,x.1,hL6.dct,hL6.keys,hk6,by rw[sizeLine_eq];omega,?_⟩
    refine Hh (fun v H7=> ∃l7 lk7 lm7,v=.ref l7∧bZ P w K H7 fl hl ld n lo3 lk7 lm7 S0∧bu lk7 x.1=some (.ref l7)∧Fr hl ld lk H H7∧bC H lk lk7∧H7 lb=some (.lst bs3)∧(∀y∈lk7,y.2.2≠.ref lb)∧lk7.length≤lk.length+(i+1)∧ ∀k,(bu lk3 k).isSome=true→(bu lk7 k).isSome=true) ?h0 ?h1 ?h2
    case h1=>
     intro v hv
     rcases hL6.at_ x.1 with⟨l,hm,hl6,hen6⟩ |⟨hm,_⟩
     ·rw[hm] at hv
      cases hv
      exact⟨l,lk3,lm3,rfl,hL6,hm,f6,nw3,s6 _ _ hlb3,nlb3,by omega,fun _ h=>h⟩
     ·rw[hm] at hv
      cases hv
    case h2=>
     intro hm
     obtain⟨lm7,hL7⟩:=hL6.add (k:=x.1) (kv:=kv) (l:=e) hm hk6 hE hen hel
     refine⟨e,_,lm7,rfl,hL7,by rw[yY,if_pos rfl],f6.ld,nw3.trans (bC.put he) f3.dm,?_,fun y hy=> ?_,?_,fun k hk=> ?_⟩
     ·rw[aj (fun z=>by have h:=hL6.dct;rw[←z,s6 _ _ hlb3] at h;cases h)]
      exact s6 _ _ hlb3
     ·rcases bC.put (H:=H3) (tk:=lk3) (k:=x.1) (kv:=kv) he y hy with⟨y',hy',ey⟩ |⟨l',ey,hl'⟩
      ·rw[←ey];exact nlb3 y' hy'
      ·rw[ey]
       exact fun z=>by cases z;rw[hlb3] at hl';cases hl'
     ·have:=yZ lk3 x.1 kv (V.ref e)
      omega
     ·rw[yY]
      split
      ·rfl
      ·exact hk
    case h0=>
     rintro v H7 ⟨l7,lk7,lm7,rfl,hL7,hm7,f7,nw7,hlb7,nlb7,hll7,his7⟩
     refine aq ?_
     have his: ∀j y,j<i+1→W[j]? =some y→(bu lk7 y.1).isSome=true:=fun j y hj hy=>by
      rcases Nat.lt_or_ge j i with h |h
      ·exact his7 _ (his3 j y h hy)
      ·have:j=i:=by omega
       subst this
       rw[hx] at hy
       cases hy
       rw[hm7];rfl
     refine⟨fun m σ H'=> ∃j,j≤(S0.pl x.1).length∧(x.2.toNat≤j∨j=(S0.pl x.1).length)∧m=j∧(Ex3 fun lo' lm' bs=>An5 (bZ P w K H' fl hl ld n lo' lk7 lm' (S0.give x.1 j)) (Fr hl ld lk H H') (H' lb=some (.lst bs)) (bs.length+j≤1000*i+(S0.pl x.1).length) (σ=[some (.ref fl),some (.ref wl),some (.int n),some (.int ((n:Int)-(lo.length:Int)-bf S W)),some kv,some (.int x.2),some (.ref lb),some (.ref l7),none])),
      ⟨_,(S0.pl x.1).length,Nat.le_refl _,.inr rfl,rfl,lo3,lm7,bs3,hL7.congr (fun j=> ?_) (fun p _ _=> ?_),f7,hlb7,by omega,rfl⟩,?_⟩
     ·show(if j=x.1 then(S0.pl x.1).take (S0.pl x.1).length else S0.pl j)=S0.pl j
      rw[List.take_of_length_le (Nat.le_refl _)]
      split
      ·rename_i e;rw[e]
      ·rfl
     ·show(if(p:Int)∈(S0.pl x.1).drop (S0.pl x.1).length then false else S0.oc p)=S0.oc p
      rw[List.drop_eq_nil_of_le (Nat.le_refl _),if_neg (by simp)]
     ·rintro m σ H4 ⟨j,hj,hjc,hmj,lo4,lm4,bs4,hL4,f4,hlb4,hbl4,rfl⟩
      rcases hL4.at_ x.1 with⟨l,hm,hl4,hen4⟩ |⟨hm,_⟩
      case inr=>rw[hm7] at hm;cases hm
      rw[hm7] at hm
      cases hm
      have hpk:(S0.give x.1 j).pl x.1=(S0.pl x.1).take j:=if_pos rfl
      rw[hpk] at hl4
      refine⟨_,rfl,_,_,rfl,.inl ⟨_,SqL.of hl4,rfl⟩,_,rfl,_,_,rfl,rfl,_,rfl,?_⟩
      rw[List.length_map,List.length_take,Nat.min_eq_left hj]
      refine se (fun hgt=> ?_) (fun hgt=> ?_)
      ·obtain⟨j',rfl⟩: ∃j',j=j'+1:=⟨j-1,by omega⟩
       have hp:(S0.pl x.1)[j']? =some ((S0.pl x.1)[j']'(by omega)):=List.getElem?_eq_getElem (by omega)
       generalize (S0.pl x.1)[j']'(by omega)=p at hp
       have hdl:((S0.pl x.1).take (j'+1)).map V.int=((S0.pl x.1).take j').map V.int++[V.int p]:=by rw[List.take_add_one,hp,List.map_append];rfl
       obtain⟨y,hy,ey1,ey2⟩:=id hen4
       have nlb8:lb≠l7:=fun z=>nlb7 y hy (by rw[ey2,z])
       obtain⟨p0,p1,p2⟩:=(hO3.give x.1 (j'+1)).in_ x.1 p (by rw[hpk,List.take_add_one,hp];exact List.mem_append_right _ (List.mem_singleton.mpr rfl))
       have hvs:=hL4.ocs p p0 p1
       rw[p2] at hvs
       obtain⟨pv,hpv⟩:=Option.isSome_iff_exists.mp hvs
       have nhl:hl≠l7:=fun z=>by have h:=hL4.hol;rw[z,hl4] at h;cases h
       have nhb:hl≠lb:=fun z=>by have h:=hL4.hol;rw[z,hlb4] at h;cases h
       have nfl7:fl≠l7:=fun z=>hL4.nfl y hy (by rw[ey2,z])
       refine⟨fun σ' H'=>Ex3 fun lo' lm' bs=>An5 (bZ P w K H' fl hl ld n lo' lk7 lm' (S0.give x.1 j')) (Fr hl ld lk H H') (H' lb=some (.lst bs)) (bs.length+j'≤1000*i+(S0.pl x.1).length) (σ'=[some (.ref fl),some (.ref wl),some (.int n),some (.int ((n:Int)-(lo.length:Int)-bf S W)),some kv,some (.int x.2),some (.ref lb),some (.ref l7),none]),fun σ' H' h=>⟨j',by omega,j',by omega,.inl (by omega),rfl,h⟩,?_⟩
       refine⟨_,rfl,.inl ⟨rfl,_,SqL.of hlb4⟩,_,rfl,.inl ⟨rfl,_,SqL.of hl4⟩,l7,_,.int p,rfl,rfl,hl4,?_,?_⟩
       ·rw[hdl,List.length_append,List.length_singleton,Nat.add_sub_cancel,List.getElem?_append_right (Nat.le_refl _),Nat.sub_self]
        rfl
       rw[hdl,List.dropLast_concat]
       have hlb5:upd H4 l7 (.lst (((S0.pl x.1).take j').map V.int)) lb=some (.lst bs4):=by rw[aj nlb8];exact hlb4
       refine⟨lb,bs4,_,rfl,rfl,hlb5,by rw[sizeLine_eq];omega,?_⟩
       have e5:upd (upd H4 l7 (.lst (((S0.pl x.1).take j').map V.int))) lb (.lst (bs4++[.int p])) hl=some (.dK lo4):=by rw[aj nhb,aj nhl];exact hL4.hol
       have e6:upd (upd H4 l7 (.lst (((S0.pl x.1).take j').map V.int))) lb (.lst (bs4++[.int p])) fl=some (.lst [.int 0,.ref hl,.ref ld]):=by rw[aj (Ne.symm nlb1),aj nfl7];exact hL4.fls
       refine⟨_,rfl,fl,_,1,_,rfl,rfl,SqL.of e6,ao (k:=1) rfl,hl,rfl,.inl ⟨_,.inl e5⟩,_,rfl,?_⟩
       have hlb7':upd (upd H4 l7 (.lst (((S0.pl x.1).take j').map V.int))) lb (.lst (bs4++[.int p])) lb=some (.lst (bs4++[.int p])):=ae
       refine⟨1,rfl,lb,_,-1,.int p,rfl,rfl,SqL.of hlb7',KK bs4 (.int p),lo4,.inl p,pv,e5,rfl,hpv,?_⟩
       have fr8: ∀b o,H4 b=some o→b≠l7→b≠hl→b≠lb→upd (upd (upd H4 l7 (.lst (((S0.pl x.1).take j').map V.int))) lb (.lst (bs4++[.int p]))) hl (.dK (gx lo4 (.inl p))) b=some o:=fun b o e z1 z2 z3=>by rw[aj z2,aj z3,aj z1];exact e
       obtain⟨lm8,hL8⟩:=hL4.popped hO3 hen4 hp hlb4 nlb1 nlb7 fr8 (by rw[aj (Ne.symm nhl),aj (Ne.symm nlb8)];exact ae) ae
       refine⟨_,lm8,bs4++[.int p],hL8,((f4.list nw7 hy ey2).new hlbn).hl,by rw[aj (Ne.symm nhb)];exact hlb7',by rw[List.length_append,List.length_singleton];omega,rfl⟩
      ·have ej:S0.give x.1 j=S0.give x.1 x.2.toNat:=by
        rcases hjc with h |h
        ·rw[show j=x.2.toNat by omega]
        ·exact HQ (by omega) (by omega)
       rw[ej] at hL4
       exact⟨lo4,lk7,lm4,bs4,hL4,f4,nw7,hll7,his,nlb7,hlb4,by omega,_,_,_,rfl⟩
   ·rintro σ H3 ⟨lo3,lk3,lm3,bs3,hL3,f3,nw3,hll3,his3,nlb3,hlb3,hbl3,v4,v5,v7,rfl⟩
    rw[List.take_of_length_le (by omega)] at hL3
    have hO1:=cY W hO
    have hta:=DS (n:=n) (s:=aV S W) hWn hpf.2 (by omega)
    have his: ∀(j:Nat) (y:bc×Int),W[j]? =some y→(bu lk3 y.1).isSome=true:=fun j y hy=>his3 j y (by rw[htl];exact(List.getElem?_eq_some_iff.mp hy).1) hy
    generalize aV S W=S1 at hL3 hO1 hta q hpf
    refine⟨_,rfl,wl,rfl,⟨_,SqL.of (f3.fr _ _ hwl nwh nwd nwl)⟩,?_⟩
    refine eC (xs:=ts) (fun i σ H'=>Ex3 fun lo' lm' at'=>An5 (bZ P w K H' fl hl ld n lo' lk3 lm' (aS n S1 (W.take i))) (Fr hl ld lk H H') (0≤at') ((∀p,0≤p→p<at'→(bh lo' (.inl p)).isSome=true)) (Ex3 fun v4 v5 v7=>σ=[some (.ref fl),some (.ref wl),some (.int n),some (.int ((n:Int)-(lo.length:Int)-bf S W)),v4,v5,some (.ref lb),v7,some (.int at')]))
     ⟨lo3,lm3,0,hL3,f3,Int.le_refl _,fun p h1 h2=>absurd h2 (by omega),_,_,_,rfl⟩ (fun i σ H' _ h=>by obtain⟨_,_,_,_,f,_⟩:=h;exact SqL.of (f.fr _ _ hwl nwh nwd nwl)) ?_ ?_
    ·rintro i v σ H4 hv ⟨lo4,lm4,at4,hL4,f4,at0,hat4,v4,v5,v7,rfl⟩
     obtain⟨x,hx,b,kv,rfl,hb,hk⟩:=hW.get i v hv
     have hi:i<ts.length:=(List.getElem?_eq_some_iff.mp hv).1
     have hx0:=hW0 x (List.mem_of_getElem? hx)
     have hO4:=gz (W.take i) hO1
     have e1:aS n S1 (W.take (i+1))=(aS n S1 (W.take i)).took n x.1 x.2.toNat:=by rw[dr hx,m6]
     have hd:W.drop i=x::W.drop (i+1):=by
      have hlt:=(List.getElem?_eq_some_iff.mp hx).1
      rw[List.drop_eq_getElem_cons hlt,(List.getElem?_eq_some_iff.mp hx).2]
     obtain⟨hfr,hsame⟩:=hta i (by omega)
     have hpl:=hsame x (by rw[hd];exact List.mem_cons_self)
     have hle:=hpf.2 x (List.mem_of_getElem? hx)
     have hfree:x.2.toNat-((aS n S1 (W.take i)).pl x.1).length≤(frl n (aS n S1 (W.take i)).oc).length:=by
      have hge: ∀U:Wl,(∀y∈U,y∈W∧(aS n S1 (W.take i)).pl y.1=S1.pl y.1)→0≤bf (aS n S1 (W.take i)) U:=by
       intro U
       induction U with
       |nil=>intro _;exact Int.le_refl _
       |cons y r ih=>
        intro hU
        rw[dD]
        have a1:=ih fun z hz=>hU z (List.mem_cons_of_mem _ hz)
        obtain⟨a2,a3⟩:=hU y List.mem_cons_self
        have a4:=hpf.2 y a2
        rw[a3]
        omega
      have h1:=hge (W.drop (i+1)) fun y hy=>⟨List.mem_of_mem_drop hy,hsame y (by rw[hd];exact List.mem_cons_of_mem _ hy)⟩
      rw[hd,dD] at hfr
      rw[hpl] at hfr⊢
      omega
     have hle2:((aS n S1 (W.take i)).pl x.1).length≤x.2.toNat:=by rw[hpl];omega
     refine⟨b,_,rfl,(hL.kp f4).tq hb,rfl,_,_,rfl,aq ⟨_,_,rfl,aq ⟨rfl,?_⟩⟩⟩
     rw[e1]
     clear hfr hsame hpl hta
     generalize aS n S1 (W.take i)=S0 at hL4 hO4 hfree hle2
     have hlen:(S0.pl x.1).length≤n:=qx (hO4.nd x.1) fun p hp=>⟨(hO4.in_ x.1 p hp).1,(hO4.in_ x.1 p hp).2.1⟩
     have hfl:=Kf n S0.oc
     obtain⟨vm,hvm⟩:=Option.isSome_iff_exists.mp (his i x hx)
     refine⟨fun m σ H'=> ∃j,(S0.pl x.1).length+j≤x.2.toNat∧m+(S0.pl x.1).length+j=x.2.toNat∧(Ex3 fun lo' lm' at'=>An5 (bZ P w K H' fl hl ld n lo' lk3 lm' (S0.took n x.1 ((S0.pl x.1).length+j))) (Fr hl ld lk H H') (0≤at') ((∀p,0≤p→p<at'→(bh lo' (.inl p)).isSome=true)) (σ=[some (.ref fl),some (.ref wl),some (.int n),some (.int ((n:Int)-(lo.length:Int)-bf S W)),some kv,some (.int x.2),some (.ref lb),v7,some (.int at')])),
      ⟨x.2.toNat-(S0.pl x.1).length,0,by omega,by omega,lo4,lm4,at4,hL4.congr (fun j=> ?_) (fun p _ _=> ?_),f4,at0,hat4,rfl⟩,?_⟩
     ·show(if j=x.1 then S0.pl x.1++(frl n S0.oc).take ((S0.pl x.1).length+0-(S0.pl x.1).length) else S0.pl j)=S0.pl j
      rw[Nat.add_zero,Nat.sub_self,List.take_zero,List.append_nil]
      split
      ·rename_i e;rw[e]
      ·rfl
     ·show(if(p:Int)∈(frl n S0.oc).take ((S0.pl x.1).length+0-(S0.pl x.1).length) then true else S0.oc p)=S0.oc p
      rw[Nat.add_zero,Nat.sub_self,List.take_zero,if_neg (by simp)]
     ·rintro m σ H5 ⟨j,hj,hmj,lo5,lm5,at5,hL5,f5,at50,hat5,rfl⟩
      have hk5:=bA (hL.kp f5) hk
      rcases hL5.at_ x.1 with⟨l7,hm7,hl7,hen7⟩ |⟨hm,_⟩
      case inr=>rw[hvm] at hm;cases hm
      have hpk:(S0.took n x.1 ((S0.pl x.1).length+j)).pl x.1=S0.pl x.1++(frl n S0.oc).take j:=by
       show(if x.1=x.1 then _ else _)=_
       rw[if_pos rfl,Nat.add_sub_cancel_left]
      rw[hpk] at hl7
      have hjl:((frl n S0.oc).take j).length=j:=by rw[List.length_take];omega
      refine⟨_,rfl,fl,_,2,_,rfl,rfl,SqL.of hL5.fls,ao (k:=2) rfl,_,rfl,ld,lk3,x.1,_,rfl,hL5.dct,hL5.keys,hk5,hm7,_,_,rfl,.inl ⟨_,SqL.of hl7,rfl⟩,_,rfl,_,_,rfl,rfl,_,rfl,?_⟩
      rw[List.length_map,List.length_append,hjl]
      refine se (fun hlt=> ?_) (fun hlt=> ?_)
      ·have hp:(frl n S0.oc)[j]? =some ((frl n S0.oc)[j]'(by omega)):=List.getElem?_eq_getElem (by omega)
       generalize (frl n S0.oc)[j]'(by omega)=p at hp
       have hf:frl n (S0.took n x.1 ((S0.pl x.1).length+j)).oc=p::(frl n S0.oc).drop (j+1):=by
        show(frl n fun q=>if q∈(frl n S0.oc).take ((S0.pl x.1).length+j-(S0.pl x.1).length) then true else S0.oc q)=_
        rw[Nat.add_sub_cancel_left,BB]
        have hlt:=(List.getElem?_eq_some_iff.mp hp).1
        rw[List.drop_eq_getElem_cons hlt,(List.getElem?_eq_some_iff.mp hp).2]
       obtain⟨p0,p1,p2,p3⟩:=HR hf
       have hvp:=hL5.ocs p p0 p1
       rw[p2] at hvp
       have hap:at5≤p:=Int.not_lt.mp fun z=>by
        have:=hat5 p p0 z
        rw[hvp] at this
        cases this
       have hc5:=hL5.count
       obtain⟨y,hy,ey1,ey2⟩:=id hen7
       have nhl:hl≠l7:=fun z=>by have h:=hL5.hol;rw[z,hl7] at h;cases h
       have nhd:ld≠hl:=fun z=>by have h:=hL5.dct;rw[z,hL5.hol] at h;cases h
       have nhf:fl≠hl:=fun z=>by have h:=hL5.fls;rw[z,hL5.hol] at h;cases h
       refine⟨fun σ' H'=>Ex3 fun lo' lm' at'=>An5 (bZ P w K H' fl hl ld n lo' lk3 lm' (S0.took n x.1 ((S0.pl x.1).length+(j+1)))) (Fr hl ld lk H H') (0≤at') ((∀p,0≤p→p<at'→(bh lo' (.inl p)).isSome=true)) (σ'=[some (.ref fl),some (.ref wl),some (.int n),some (.int ((n:Int)-(lo.length:Int)-bf S W)),some kv,some (.int x.2),some (.ref lb),v7,some (.int at')]),fun σ' H' h=>⟨m-1,by omega,j+1,by omega,by omega,h⟩,?_⟩
       refine⟨fun m σ H'=>H5=H'∧ ∃at',at5≤at'∧at'≤p∧(m:Int)=p-at'∧σ=[some (.ref fl),some (.ref wl),some (.int n),some (.int ((n:Int)-(lo.length:Int)-bf S W)),some kv,some (.int x.2),some (.ref lb),v7,some (.int at')],⟨(p-at5).toNat,rfl,at5,Int.le_refl _,hap,by omega,rfl⟩,?_⟩
       rintro m2 σ _ ⟨rfl,at6,ha6,hb6,hm6,rfl⟩
       refine⟨_,rfl,_,rfl,fl,_,1,_,rfl,rfl,SqL.of hL5.fls,ao (k:=1) rfl,hl,_,rfl,e8.k (k:=.inl at6) hL5.hol,_,rfl,?_⟩
       by_cases e6:at6=p
       ·subst e6
        rw[hvp]
        refine bY ?_
        have hl8:upd H5 hl (.dK (gv lo5 (.inl at6) kv)) l7=some (.lst ((S0.pl x.1++(frl n S0.oc).take j).map V.int)):=by rw[aj (Ne.symm nhl)];exact hl7
        have kp8:Kp H5 (upd H5 hl (.dK (gv lo5 (.inl at6) kv))):=⟨fun u xs e=>by rw[aj (fun z=>by rw[z,hL5.hol] at e;cases e)];exact e,fun u o ⟨o',e⟩=>⟨o',by rw[aj (fun z=>by rw[z,hL5.hol] at e;cases e)];exact e⟩⟩
        refine⟨_,rfl,_,rfl,fl,_,1,_,rfl,rfl,SqL.of hL5.fls,ao (k:=1) rfl,_,rfl,hl,lo5,.inl at6,rfl,rfl,hL5.hol,by rw[sizeLine_eq];omega,?_⟩
        refine⟨_,rfl,fl,_,2,_,rfl,rfl,SqL.of (by rw[aj nhf];exact hL5.fls),ao (k:=2) rfl,_,rfl,ld,lk3,x.1,_,rfl,by rw[aj nhd];exact hL5.dct,fun y hy=>bA kp8 (hL5.keys y hy),bA kp8 hk5,hm7,.inl ⟨rfl,_,SqL.of hl8⟩,_,rfl,l7,_,_,rfl,rfl,hl8,by rw[List.length_map,List.length_append,hjl,sizeLine_eq];omega,?_⟩
        have el8:(S0.pl x.1++(frl n S0.oc).take j).map V.int++[V.int at6]=(S0.pl x.1++(frl n S0.oc).take (j+1)).map V.int:=by
         rw[List.take_add_one,hp,List.map_append,List.map_append,List.map_append,List.append_assoc]
         rfl
        rw[el8]
        obtain⟨lm8,hL8⟩:=hL5.pushed (H':=upd (upd H5 hl (.dK (gv lo5 (.inl at6) kv))) l7 (.lst ((S0.pl x.1++(frl n S0.oc).take (j+1)).map V.int))) hen7 hp hk5 (fun b o e z1 z2=>by rw[aj z1,aj z2];exact e) ae (by rw[aj nhl];exact ae)
        refine⟨_,lm8,at6,hL8,f5.hl.list nw3 hy ey2,p0,fun q q0 q1=> ?_,rfl⟩
        rw[tw]
        split
        ·rfl
        ·rw[hL5.ocs q q0 (by omega)];exact p3 q q0 q1
       ·have hvq:=hL5.ocs at6 (by omega) (by omega)
        rw[p3 at6 (by omega) (by omega)] at hvq
        rw[hvq]
        refine cL ?_
        refine⟨fun σ' H'=>H5=H'∧σ'=[some (.ref fl),some (.ref wl),some (.int n),some (.int ((n:Int)-(lo.length:Int)-bf S W)),some kv,some (.int x.2),some (.ref lb),v7,some (.int (at6+1))],fun σ' H' h=>⟨m2-1,by omega,h.1,at6+1,by omega,by omega,by omega,h.2⟩,?_⟩
        exact⟨_,rfl,_,_,rfl,rfl,rfl,rfl⟩
      ·have ej:(S0.pl x.1).length+j=x.2.toNat:=by omega
       rw[ej] at hL5
       exact⟨lo5,lm5,at5,hL5,f5,at50,hat5,_,_,_,rfl⟩
    ·rintro σ H4 ⟨lo4,lm4,at4,hL4,f4,_,_,v4,v5,v7,rfl⟩
     rw[List.take_of_length_le (by omega)] at hL4
     exact⟨_,rfl,q lb lo4 lk3 lm4 H4 f4 nw3 hL4 (by omega)⟩
end
inductive Lc (K:PySem.W.Frag) (vs:List V) (H:Hp) (Q:VK) (_E:XK):Prop
 |mk (n:Nat) (wt:Addr) (ws:List Int) (_:vs=[.int n,.ref wt]) (_:n≤2000) (_:SqT K H wt (ws.map V.int)) (_:0<ws.length) (_:ws.length≤4) (_: ∀t H',am H H'→H t=none→H' t=some (.lst ((deal ws n).map V.int))→Q (.ref t) H')
section
variable {P:Program}{w:World}{K:PySem.W.Frag}{mg:Str→Option Value}{base:Heap}{a:Adr}
theorem Hq (T:Txt K mg a):bd P w K mg base CX0 1 a.Gj a.mD ["_law_total","_law_weights"] (Lc K):=by
 refine T.EK.ok gB (fun vs H Q E h=> ?_) (fun cdv A outer s H vs Q E hr h=> ?_)
 ·obtain⟨n,wt,ws,rfl,_⟩:=h
  rfl
 ·obtain⟨n,wt,ws,rfl,hn,hW,l0,l4,q⟩:=h
  refine⟨_,(ag (iW (i:=2) ["_law_total","_law_weights","_law_parts_here","_law_turn","_law_best","_law_k","_law_mine"] ["_law_weight"] [] [7] (ak tM) rfl rfl rfl (by decide+kernel) (by decide+kernel) (b9 7)
  (nG K rfl (pv 1)) (fun cl C s₀ H₀ ex=>⟨(aF (i:=7) (show List.Nodup ((["_law_total","_law_weights","_law_parts_here","_law_turn","_law_best","_law_k","_law_mine"]:List PySem.Str)++(["_law_weight"]:List PySem.Str)) by decide+kernel) rfl (by first |exact Or.inl rfl |exact Or.inr rfl)),cm,ai⟩) gB.nd)
 (ag (cV PassesOwn.never rfl (cK rfl T.ee (ad (pv 0) af)) (aF (i:=3) gB.nd rfl (.inl rfl))
 (ag (aO (i:=4) gB.nd rfl (.inl rfl) ai)
 (ag (cV PassesOwn.never rfl (cK rfl T.ee (ad (az (aK K rfl) (by rfl) T.bK L2.aQ (ad (pv 1) af)) af)) (aF (i:=5) gB.nd rfl (.inl rfl))
 (ag (aO (i:=6) gB.nd rfl (.inl rfl) (aA gJ (aJ (aB K rfl) (pv 1) (pv 5) (fun _ _=>rfl)) (aA bF (aJ (bj K rfl) (pv 2) (pv 4) (fun _ _=>rfl)) ai)))
 (ah (a0 (aE Bw (pv 6) (aA gJ (aJ (aB K rfl) (pv 1) (pv 4) (fun _ _=>rfl)) (aA bF (aJ (bj K rfl) (pv 2) (pv 5) (fun _ _=>rfl)) ai)) (aM _)) (ah (aO (i:=4) gB.nd rfl (.inl rfl) (pv 5))) aH))))
 (ah (lD (aA bF (aJ (bj K rfl) (pv 2) (pv 4) (fun _ _=>rfl)) ai) (nH (pv 2) (pv 4) xO))))))
 (ah (aI (pv 2))))),?_⟩
  refine⟨_,rfl,wt,rfl,⟨_,hW⟩,fun g hg=> ?_⟩
  refine kq (K:=K) (a:=wt) (xs:=ws.map V.int) (fun i acc H'=>am H H'∧H' g=some (.lst acc)∧acc=(List.replicate i (0:Int)).map V.int) ⟨al (am.refl _) hg,ae,rfl⟩ (fun i acc H' _ h=>am.tseq h.1 hW) ?_ ?_
  ·rintro i x acc H2 hx ⟨s2,hD2,rfl⟩
   have hi:i<(ws.map V.int).length:=(List.getElem?_eq_some_iff.mp hx).1
   refine aq (pj (cL ⟨hD2,by rw[List.length_map,List.length_replicate,sizeLine_eq];rw[List.length_map] at hi;omega,lf hi ⟨br s2 hg,ae,?_⟩⟩))
   rw[List.replicate_succ',List.map_append]
   rfl
  ·rintro acc H2 ⟨s2,hg2,rfl⟩
   have e0:List.replicate (ws.map V.int).length (0:Int)=deal ws 0:=by rw[List.length_map];rfl
   rw[e0] at hg2
   refine aq ⟨_,rfl,(n:Int),rfl,by omega,by omega,?_⟩
   refine fe (lo:=0) (n:=(n:Int).toNat) (fun i σ H'=>am H H'∧H' g=some (.lst ((deal ws i).map V.int))∧(Ex4 fun v3 v4 v5 v6=>σ=[some (.int n),some (.ref wt),some (.ref g),v3,v4,v5,v6])) ⟨s2,hg2,_,_,_,_,rfl⟩ ?_ ?_
   ·rintro i σ H1 hi ⟨s1,hG,v3,v4,v5,v6,rfl⟩
    have nn:=xr ws i
    have hln:=iV ws i
    have hW1:=am.tseq s1 hW
    have hb: ∀k,0≤gd (deal ws i) k∧gd (deal ws i) k≤2000:=fun k=>⟨(nn k).1,by have:=(nn k).2;omega⟩
    have hdd:deal ws (i+1)=(deal ws i).set (due ws (deal ws i) (ws.length-1)) (gd (deal ws i) (due ws (deal ws i) (ws.length-1))+1):=rfl
    rw[hdd]
    generalize deal ws i=gs at hG hln hb nn
    refine⟨_,rfl,_,ws.length,rfl,.inr ⟨_,hW1,by simp⟩,_,rfl,by omega,by omega,?_⟩
    refine fe (lo:=0) (n:=((ws.length:Nat):Int).toNat) (fun j σ H'=>H1=H'∧(Ex2 fun v5 v6=>σ=[some (.int n),some (.ref wt),some (.ref g),some (.int (0+(i:Int))),some (.int (due ws gs (j-1):Nat)),v5,v6])) ⟨rfl,_,_,rfl⟩ ?_ ?_
    ·rintro j σ _ hj ⟨rfl,v5,v6,rfl⟩
     have hd:=vN ws gs (j-1)
     have hb1:0≤gs.getD (due ws gs (j-1)) 0∧gs.getD (due ws gs (j-1)) 0≤2000:=hb (due ws gs (j-1))
     have hb2:0≤gs.getD j 0∧gs.getD j 0≤2000:=hb j
     rw[show(0:Int)+(j:Int)=((j:Nat):Int) by omega]
     refine aq ⟨_,rfl,_,rfl,wt,_,_,_,rfl,rfl,hW1,gf (by omega) (by omega),_,rfl,_,rfl,g,_,_,_,rfl,rfl,SqL.of hG,gf (by omega) (by omega),_,_,rfl,rfl,_,_,rfl,rfl,?_⟩
     refine⟨.inr ⟨?_,?_⟩,?_⟩
     ·simp only[Int.toNat_natCast];omega
     ·simp only[Int.toNat_natCast];omega
     refine aq ⟨_,rfl,_,rfl,_,rfl,wt,_,_,_,rfl,rfl,hW1,gf (by omega) (by omega),_,rfl,_,rfl,g,_,_,_,rfl,rfl,SqL.of hG,gf (by omega) (by omega),_,_,rfl,rfl,_,_,rfl,rfl,?_⟩
     refine⟨.inr ⟨?_,?_⟩,?_⟩
     ·simp only[Int.toNat_natCast];omega
     ·simp only[Int.toNat_natCast];omega
     refine⟨_,_,rfl,rfl,_,rfl,?_⟩
     simp only[Int.toNat_natCast]
     have ed:due ws gs (j+1-1)=if gd ws j*(gd gs (due ws gs (j-1))+1)>gd ws (due ws gs (j-1))*(gd gs j+1) then j else due ws gs (j-1):=by
      cases j with
      |zero=>
       show due ws gs 0=if gd ws 0*(gd gs (due ws gs 0)+1)>gd ws (due ws gs 0)*(gd gs 0+1) then 0 else due ws gs 0
       split<;>rfl
      |succ j=>rfl
     refine se (fun h=> ?_) (fun h=> ?_)
     ·refine⟨_,rfl,rfl,some (.int (j:Int)),some (.int (ws.getD j 0*(gs.getD (due ws gs (j-1)) 0+1))),?_⟩
      rw[ed,if_pos h]
      rfl
     ·refine⟨rfl,some (.int (j:Int)),some (.int (ws.getD j 0*(gs.getD (due ws gs (j-1)) 0+1))),?_⟩
      rw[ed,if_neg h]
      rfl
    ·rintro σ _ ⟨rfl,v5,v6,rfl⟩
     rw[Int.toNat_natCast]
     have hd:=vN ws gs (ws.length-1)
     refine⟨_,rfl,_,rfl,g,_,_,_,rfl,rfl,SqL.of hG,gf (by omega) (by omega),_,_,rfl,rfl,?_⟩
     refine⟨_,rfl,_,rfl,g,_,_,_,rfl,rfl,hG,CS (by omega) (by simp;omega),?_⟩
     refine⟨br s1 hg,?_,_,_,_,_,rfl⟩
     rw[ae]
     simp only[Int.toNat_natCast]
     rw[pK]
   ·rintro σ H1 ⟨s1,hG,v3,v4,v5,v6,rfl⟩
    exact⟨_,rfl,q g H1 s1 hg hG⟩
end
theorem PV {t u v:TS}{D:sZ}{σ:St}{H:Hp}(J:St→Hp→Prop) (h1: ∀σ H,J σ H→v D σ H) (h2: ∀N:St→Hp→Prop,(∀σ H,J σ H→N σ H)→Fh t u {D with nx:=N} σ H):Fh t (Fh u v) D σ H:=h2 (v D) h1
inductive jr (K:PySem.W.Frag) (H:Hp) (y:TrS):List V→Wl→Prop
 |share {nv:Addr}{l:List Int}(h1:SqT K H nv (l.map V.int)) (h2:l.length=y.arms.length) (h3: ∀i∈l,0≤i):jr K H y [.str "share",.str y.nm,.ref nv] (wOf y.nm y.arms l)
 |deal {z:Int}{wt:Addr}{ws:List Int}(hz:0≤z∧z≤1000) (h1:SqT K H wt (ws.map V.int)) (h2:ws.length=y.arms.length) (h3: ∀i∈ws,1≤i∧i≤er):jr K H y [.str "deal",.str y.nm,.int z,.ref wt] (wOf y.nm y.arms (deal ws z.toNat))
 |close:jr K H y [.str "close",.str y.nm] (wOf y.nm y.arms (List.replicate y.arms.length 0))
theorem jr.name {K:PySem.W.Frag}{H:Hp}{y:TrS}{xs:List V}{W:Wl}(h:jr K H y xs W): ∃k r,xs=.str k::.str y.nm::r∧k≠"hold":=by
 cases h with
 |share h1 h2 h3=>exact⟨_,_,rfl,by decide+kernel⟩
 |deal hz h1 h2 h3=>exact⟨_,_,rfl,by decide+kernel⟩
 |close=>exact⟨_,_,rfl,by decide+kernel⟩
inductive IY (K:PySem.W.Frag) (vs:List V) (H:Hp) (Q:VK) (_E:XK):Prop
 |mk (d ar:Addr) (y:TrS) (xs:List V) (W:Wl) (_:vs=[.ref d,.ref ar]) (_:SqT K H d xs) (_:SqT K H ar (y.arms.map V.str)) (_:qj y) (_:jr K H y xs W) (_: ∀(l:Addr) (ts:List V) H',am H H'→H l=none→H' l=some (.lst ts)→WAt K H' ts W→Q (.ref l) H')
section
variable {P:Program}{w:World}{K:PySem.W.Frag}{mg:Str→Option Value}{base:Heap}{a:Adr}
theorem Fx (T:Txt K mg a):bd P w K mg base CX0 2 a.DI a.kg ["_law_deed_here","_law_arms"] (IY K):=by
 refine T.BG.ok na (fun vs H Q E h=> ?_) (fun cdv A outer s H vs Q E hr h=> ?_)
 ·obtain⟨d,ar,y,xs,W,rfl,_⟩:=h
  rfl
 ·obtain⟨d,ar,y,xs,W,rfl,hT,har,ho,hK,q⟩:=h
  refine⟨_,(ag (iW (i:=2) ["_law_deed_here","_law_arms","_law_numbers"] ["_law_arm"] [] [3] (ak mt) rfl rfl rfl (by decide+kernel) (by decide+kernel) (b9 3)
  (nG K rfl (pv 1)) (fun cl C s₀ H₀ ex=>⟨(aF (i:=3) (show List.Nodup ((["_law_deed_here","_law_arms","_law_numbers"]:List PySem.Str)++(["_law_arm"]:List PySem.Str)) by decide+kernel) rfl (by first |exact Or.inl rfl |exact Or.inr rfl)),cm,ai⟩) na.nd)
 (ag (a0 (aE bO (aJ (aB K rfl) (pv 0) ai (fun _ _=>rfl)) aL (aM _)) (ah (aO (i:=2) na.nd rfl (.inl rfl) (aJ (aB K rfl) (pv 0) ai (fun _ _=>rfl)))) aH)
 (ag (a0 (aE bO (aJ (aB K rfl) (pv 0) ai (fun _ _=>rfl)) aL (aM _)) (ah (aO (i:=2) na.nd rfl (.inl rfl) (av ((Hq T).mono (by decide)) hr rfl T.JY T.EK.kp T.KF .nil aD (ad (aJ (aB K rfl) (pv 0) ai (fun _ _=>rfl)) (ad (aJ (aB K rfl) (pv 0) ai (fun _ _=>rfl)) af))))) aH)
 (ah (aI (dw ["_law_deed_here","_law_arms","_law_numbers"] ["_law_arm","_law_number"] [] [3,4] (ak mt) rfl rfl rfl (by decide+kernel) (by decide+kernel) (FX _ 3 4)
  (Gv K rfl rfl T.Mt (ad (pv 1) (ad (pv 2) af))) (fun cl C s₀ H₀ ex=>⟨(eX K rfl rfl (bo (aF (i:=3) (show List.Nodup ((["_law_deed_here","_law_arms","_law_numbers"]:List PySem.Str)++(["_law_arm","_law_number"]:List PySem.Str)) by decide+kernel) rfl (by first |exact Or.inl rfl |exact Or.inr rfl)) (bo (aF (i:=4) (show List.Nodup ((["_law_deed_here","_law_arms","_law_numbers"]:List PySem.Str)++(["_law_arm","_law_number"]:List PySem.Str)) by decide+kernel) rfl (by first |exact Or.inl rfl |exact Or.inr rfl)) eW))),cm,(cE (ad (cE (ad (aJ (aB K rfl) (pv 0) ai (fun _ _=>rfl)) (ad (pv 3) af))) (ad (pv 4) af)))⟩))))))),?_⟩
  have a1:=ho.a1
  have a4:=ho.a4
  refine⟨_,rfl,ar,rfl,⟨_,har⟩,fun g hg=> ?_⟩
  refine kq (K:=K) (a:=ar) (xs:=y.arms.map V.str) (fun i acc H'=>am H H'∧H' g=some (.lst acc)∧acc=(List.replicate i (0:Int)).map V.int) ⟨al (am.refl _) hg,ae,rfl⟩ (fun i acc H' _ h=>am.tseq h.1 har) ?_ ?_
  ·rintro i x acc H2 hx ⟨s2,hD2,rfl⟩
   have hi:i<(y.arms.map V.str).length:=(List.getElem?_eq_some_iff.mp hx).1
   refine aq (pj (cL ⟨hD2,by rw[List.length_map,List.length_replicate,sizeLine_eq];rw[List.length_map] at hi;omega,lf hi ⟨br s2 hg,ae,?_⟩⟩))
   rw[List.replicate_succ',List.map_append]
   rfl
  ·rintro acc H2 ⟨s2,hg2,rfl⟩
   rw[List.length_map] at hg2
   refine aq ?_
   dsimp only
   refine PV (fun σ H'=>am H H'∧(Ex2 fun nv l=>(SqL K H' nv (l.map V.int)∨SqT K H' nv (l.map V.int))∧l.length=y.arms.length∧W=wOf y.nm y.arms l∧σ=[some (.ref d),some (.ref ar),some (.ref nv)])) ?A (fun Nn hJ=> ?B)
   case B=>
    have hT2:=am.tseq s2 hT
    cases hK with
    | @share nv l h1 h2 h3=>
     refine⟨_,rfl,d,_,0,_,rfl,rfl,hT2,ao (k:=0) rfl,rfl,_,rfl,cT ?_⟩
     refine⟨_,rfl,d,_,2,_,rfl,rfl,hT2,ao (k:=2) rfl,aq ?_⟩
     refine⟨_,rfl,d,_,0,_,rfl,rfl,hT2,ao (k:=0) rfl,rfl,_,rfl,aR (show(Str.ofString "share")≠Str.ofString "deal" by decide+kernel) ?_⟩
     exact hJ _ _ ⟨s2,nv,l,.inr (am.tseq s2 h1),h2,rfl,rfl⟩
    | @deal z wt ws hz h1 h2 h3=>
     refine⟨_,rfl,d,_,0,_,rfl,rfl,hT2,ao (k:=0) rfl,rfl,_,rfl,aR (show(Str.ofString "deal")≠Str.ofString "share" by decide+kernel) ?_⟩
     refine⟨_,rfl,d,_,0,_,rfl,rfl,hT2,ao (k:=0) rfl,rfl,_,rfl,cT ?_⟩
     refine⟨_,rfl,d,_,2,_,rfl,rfl,hT2,ao (k:=2) rfl,_,rfl,d,_,3,_,rfl,rfl,hT2,ao (k:=3) rfl,z.toNat,wt,ws,by rw[show((z.toNat:Nat):Int)=z by omega];rfl,by omega,am.tseq s2 h1,by omega,by omega,fun t H3 s3 ht ht3=>aq (hJ _ _ ⟨s2.trans s3,t,deal ws z.toNat,.inl (SqL.of ht3),by rw[iV];exact h2,rfl,rfl⟩)⟩
    |close=>
     refine⟨_,rfl,d,_,0,_,rfl,rfl,hT2,ao (k:=0) rfl,rfl,_,rfl,aR (show(Str.ofString "close")≠Str.ofString "share" by decide+kernel) ?_⟩
     refine⟨_,rfl,d,_,0,_,rfl,rfl,hT2,ao (k:=0) rfl,rfl,_,rfl,aR (show(Str.ofString "close")≠Str.ofString "deal" by decide+kernel) ?_⟩
     exact hJ _ _ ⟨s2,g,List.replicate y.arms.length 0,.inl (SqL.of hg2),List.length_replicate,rfl,rfl⟩
   case A=>
   clear hg2 s2
   rintro σ H2 ⟨s2,nv,l,hnv,hl,rfl,rfl⟩
   have har2:=am.tseq s2 har
   have hT2:=am.tseq s2 hT
   obtain⟨k,r,rfl,_⟩:=hK.name
   refine⟨_,rfl,_,rfl,ar,nv,y.arms.map V.str,l.map V.int,rfl,har2,?_⟩
   have hWl:(wOf y.nm y.arms l).length=y.arms.length:=tu hl
   refine BL (K:=K) (a:=ar) (l:=nv) (xs:=y.arms.map V.str) (ys:=l.map V.int) (fun D i acc H'=>am H2 H'∧H' D=some (.lst acc)∧WAt K H' acc ((wOf y.nm y.arms l).take i)) hnv (fun D hD=>⟨al (am.refl _) hD,ae,.nil⟩) (by rw[List.length_map,List.length_map,hl]) (fun D i acc H' h=>⟨am.tseq h.1 har2,h.1⟩) ?_ ?_
   ·rintro D i x1 x2 acc H3 T1 hD hx1 hx2 ⟨s3,hD2,hW2⟩ hT1
    have hi:i<(y.arms.map V.str).length:=(List.getElem?_eq_some_iff.mp hx1).1
    rw[List.getElem?_map] at hx1 hx2
    obtain⟨ya,hya,rfl⟩:=Option.map_eq_some_iff.mp hx1
    obtain⟨z2,hz2,rfl⟩:=Option.map_eq_some_iff.mp hx2
    have s4:=al (o:=.tup [V.str ya,V.int z2]) (am.refl H3) hT1
    have hT3:upd H3 T1 (.tup [V.str ya,V.int z2]) T1=some (.tup [V.str ya,V.int z2]):=ae
    generalize upd H3 T1 (.tup [V.str ya,V.int z2])=H4 at s4 hT3⊢
    refine⟨T1,_,rfl,SqT.of hT3,rfl,_,_,rfl,aq ⟨_,_,rfl,aq ⟨rfl,pj (cL ?_)⟩⟩⟩
    refine⟨_,rfl,d,_,1,_,rfl,rfl,am.tseq (s3.trans s4) hT2,ao (k:=1) rfl,_,rfl,aC (show _≤65536 by simp),fun T4 hT4=>⟨_,rfl,aC (show _≤65536 by simp),fun T5 hT5=> ?_⟩⟩
    have s5:=al (o:=.tup [.ref T4,.int z2]) (al (o:=.tup [.str y.nm,.str ya]) s4 hT4) hT5
    have e5:upd (upd H4 T4 (.tup [.str y.nm,.str ya])) T5 (.tup [.ref T4,.int z2]) T5=some (.tup [.ref T4,.int z2]):=ae
    have e4:upd (upd H4 T4 (.tup [.str y.nm,.str ya])) T5 (.tup [.ref T4,.int z2]) T4=some (.tup [.str y.nm,.str ya]):=by rw[aj (au ae hT5)];exact ae
    have hal:acc.length≤4:=by have:=Paired.length hW2;rw[List.length_take] at this;omega
    show upd (upd H4 T4 (.tup [.str y.nm,.str ya])) T5 (.tup [.ref T4,.int z2]) D=some (.lst acc)∧_
    generalize upd (upd H4 T4 (.tup [.str y.nm,.str ya])) T5 (.tup [.ref T4,.int z2])=H5 at s5 e4 e5⊢
    have hD5:=s5 _ _ hD2
    have kp:Kp H5 (upd H5 D (.lst (acc++[.ref T5]))):=.lst hD5
    refine⟨hD5,by rw[sizeLine_eq];omega,lf hi ⟨br (s3.trans s5) hD,ae,?_⟩⟩
    rw[dr (IL hya hz2)]
    exact Paired.snoc ((hW2.kp (.of s5)).kp kp) ⟨T5,.ref T4,rfl,kp.tq (SqT.of e5),T4,rfl,kp.tq (SqT.of e4)⟩
   ·rintro D acc H3 hD ⟨s3,hD2,hW2⟩
    rw[List.length_map,List.take_of_length_le (by omega)] at hW2
    exact q D acc H3 (s2.trans s3) (s2.free hD) hD2 hW2
end
def iX (ns:List Int) (i:Nat):List Str:=(List.range (1+cR ns i 5%4).toNat).map fun(j:Nat)=>fB (j:Int) (cR ns 2 4)
def trN (ns:List Int) (i:Nat):TrS:=⟨fB (i:Int) (cR ns 1 4),iX ns i,false⟩
def rs (ns:List Int):List TrS:=(List.range (1+cR ns 0 3%3).toNat).map (trN ns)
theorem BS (ns:List Int) (i:Nat):(iX ns i).length=(1+cR ns i 5%4).toNat∧1≤(iX ns i).length∧(iX ns i).length≤4:=by
 have e:(iX ns i).length=(1+cR ns i 5%4).toNat:=by unfold iX;rw[List.length_map,List.length_range]
 have:=bR (cR ns i 5) (show(0:Int)<4 by decide)
 exact⟨e,by omega,by omega⟩
theorem DL {N:Int}{m:Nat}(h:m≤12):((List.range m).map fun(j:Nat)=>fB (j:Int) N).Nodup:=by
 rw[List.nodup_iff_pairwise_ne,List.pairwise_map]
 refine List.Pairwise.imp_of_mem ?_ (List.nodup_iff_pairwise_ne.mp List.nodup_range)
 intro i j hi hj hne e
 have h1:=List.mem_range.mp hi
 have h2:=List.mem_range.mp hj
 have:=G0 ⟨by omega,by omega⟩ ⟨by omega,by omega⟩ e
 omega
theorem MJ (ns:List Int) (i:Nat):qj (trN ns i):=by
 obtain⟨e,h1,h2⟩:=BS ns i
 refine⟨xG _ _,h1,h2,?_,fun z hz=> ?_⟩
 ·show(iX ns i).Nodup
  unfold iX
  exact DL (N:=cR ns 2 4) (m:=(1+cR ns i 5%4).toNat) (by omega)
 ·obtain⟨j,_,rfl⟩:=List.mem_map.mp (show z∈iX ns i from hz)
  exact xG _ _
theorem xI (ns:List Int):(rs ns).length=(1+cR ns 0 3%3).toNat∧1≤(rs ns).length∧(rs ns).length≤3:=by
 have e:(rs ns).length=(1+cR ns 0 3%3).toNat:=by unfold rs;rw[List.length_map,List.length_range]
 have:=bR (cR ns 0 3) (show(0:Int)<3 by decide)
 exact⟨e,by omega,by omega⟩
theorem K3 (ns:List Int):((rs ns).map (·.nm)).Nodup:=by
 unfold rs
 rw[List.map_map]
 have:=bR (cR ns 0 3) (show(0:Int)<3 by decide)
 exact DL (N:=cR ns 1 4) (m:=(1+cR ns 0 3%3).toNat) (by omega)
theorem K4 {ns:List Int}{i:Nat}(h:i<(rs ns).length):(rs ns)[i]? =some (trN ns i):=by
 have e:=(xI ns).1
 unfold rs
 rw[List.getElem?_map,List.getElem?_range (by omega)]
 rfl
theorem IP {ns:List Int}{y:TrS}(h:y∈rs ns):qj y∧y.cl=false:=by
 obtain⟨i,_,rfl⟩:=List.mem_map.mp h
 exact⟨MJ ns i,rfl⟩
def qC (K:PySem.W.Frag) (H:Hp) (ts:List V) (trs:List TrS):Prop:=Paired (fun(v:V) (y:TrS)=> ∃b ar,v=.ref b∧SqT K H b [.str y.nm,.ref ar]∧SqT K H ar (y.arms.map V.str)) ts trs
theorem qC.kp {K:PySem.W.Frag}{H H':Hp}(e:Kp H H'): ∀{ts:List V}{trs:List TrS},qC K H ts trs→qC K H' ts trs
 |_,_,.nil=> .nil
 |_,_,.cons ⟨b,ar,h1,h2,h3⟩ t=> .cons ⟨b,ar,h1,e.tq h2,e.tq h3⟩ (qC.kp e t)
theorem qC.get {K:PySem.W.Frag}{H:Hp}: ∀{ts:List V}{trs:List TrS},qC K H ts trs→ ∀(i:Nat) (v:V),ts[i]? =some v→ ∃y,trs[i]? =some y∧ ∃b ar,v=.ref b∧SqT K H b [.str y.nm,.ref ar]∧SqT K H ar (y.arms.map V.str)
 |_,_,.nil,i,v,h=>by simp at h
 |_,_,.cons h t,0,v,e=>by
  simp at e
  subst e
  exact⟨_,rfl,h⟩
 |_,_,.cons h t,i+1,v,e=>by
  obtain⟨x,h1,h2⟩:=qC.get t i v (by simpa using e)
  exact⟨x,by simpa using h1,h2⟩
inductive IZ (K:PySem.W.Frag) (vs:List V) (H:Hp) (Q:VK) (_E:XK):Prop
 |mk (sc:Addr) (ns:List Int) (_:vs=[.ref sc]) (_:SqL K H sc (ns.map V.int)) (_:ns.length≤63) (_: ∀(l:Addr) (ts:List V) H',am H H'→H l=none→H' l=some (.lst ts)→qC K H' ts (rs ns)→Q (.ref l) H')
section
variable {P:Program}{w:World}{K:PySem.W.Frag}{mg:Str→Option Value}{base:Heap}{a:Adr}
theorem Fy (T:Txt K mg a):bd P w K mg base CX0 3 a.DJ a.kh ["_law_script"] (IZ K):=by
 refine T.BH.ok ng (fun vs H Q E h=> ?_) (fun cdv A outer s H vs Q E hr h=> ?_)
 ·obtain⟨sc,ns,rfl,_⟩:=h
  rfl
 ·obtain⟨sc,ns,rfl,hS,hl,q⟩:=h
  refine⟨_,(ag (aO (i:=1) ng.nd rfl (.inl rfl) (b7 af))
 (ag (cV PassesOwn.never rfl (cK rfl T.ee (ad (aA bF ai (aA bI (av ((d9 T).mono (by decide)) hr rfl T.fN T.eS.kp T.gc .nil aD (ad (pv 0) (ad ai (ad ai af)))) ai)) af)) (aF (i:=2) ng.nd rfl (.inl rfl))
 (ag (iW (i:=3) ["_law_script","_law_trials_here","_law_k","_law_arms"] ["_law_j"] [] [4] (ak qt) rfl rfl rfl (by decide+kernel) (by decide+kernel) (b9 4)
  (cK rfl T.ee (ad (aA bF ai (aA bI (av ((d9 T).mono (by decide)) hr rfl T.fN T.eS.kp T.gc .nil aD (ad (pv 0) (ad (pv 2) (ad ai af)))) ai)) af)) (fun cl C s₀ H₀ ex=>⟨(aF (i:=4) (show List.Nodup ((["_law_script","_law_trials_here","_law_k","_law_arms"]:List PySem.Str)++(["_law_j"]:List PySem.Str)) by decide+kernel) rfl (by first |exact Or.inl rfl |exact Or.inr rfl)),cm,(av ((yP T).mono (by decide)) hr rfl T.CM T.xo.kp T.Dw .nil aD (ad (pv 4) (ad (av ((d9 T).mono (by decide)) hr rfl T.fN T.eS.kp T.gc .nil aD (ad (pv 0) (ad ai (ad ai af)))) af)))⟩) ng.nd)
 (ah (aX (pE K rfl PySem.F.plainAttrs_list PySem.F.slot_list_append PySem.F.type_list_append fc (pv 1) (ad (cE (ad (av ((yP T).mono (by decide)) hr rfl T.CM T.xo.kp T.Dw .nil aD (ad (pv 2) (ad (av ((d9 T).mono (by decide)) hr rfl T.fN T.eS.kp T.gc .nil aD (ad (pv 0) (ad ai (ad ai af)))) af))) (ad (d8 (fg K rfl) (by rfl) T.eY L2.bW (ad (pv 3) af)) af))) af))))))
 (ah (aI (pv 1))))),?_⟩
  refine⟨aC (show _≤65536 by simp),fun l hln=>aq ?_⟩
  have s0:=al (o:=.lst []) (am.refl H) hln
  have hl0:upd H l (.lst []) l=some (.lst []):=ae
  generalize upd H l (.lst [])=H0 at s0 hl0⊢
  have b3:=bR (cR ns 0 3) (show(0:Int)<3 by decide)
  obtain⟨elen,l1,l3⟩:=xI ns
  refine⟨_,rfl,sc,ns,0,3,rfl,s0.seq hS,hl,⟨by decide,by decide⟩,⟨by decide,by decide⟩,_,_,rfl,rfl,(by show(0:Int)<_;first |decide |omega),_,_,rfl,rfl,_,rfl,by omega,by omega,?_⟩
  refine fe (lo:=0) (n:=(1+cR ns 0 3%3).toNat) (fun i σ H'=>am H H'∧ ∃ts,H' l=some (.lst ts)∧qC K H' ts ((rs ns).take i)∧(Ex2 fun v2 v3=>σ=[some (.ref sc),some (.ref l),v2,v3])) ⟨s0,[],hl0,.nil,_,_,rfl⟩ ?_ ?_
  ·rintro i σ H1 hi ⟨s1,ts,hl1,hts,v2,v3,rfl⟩
   rw[show(0:Int)+(i:Int)=((i:Nat):Int) by omega]
   have b4:=bR (cR ns i 5) (show(0:Int)<4 by decide)
   obtain⟨ealen,al1,al4⟩:=BS ns i
   refine aq ⟨_,rfl,_,rfl,sc,ns,(i:Int),5,rfl,s1.seq hS,hl,⟨by omega,by omega⟩,⟨by decide,by decide⟩,_,_,rfl,rfl,(by show(0:Int)<_;first |decide |omega),_,_,rfl,rfl,_,rfl,by omega,by omega,fun D hD=> ?_⟩
   have hD0:H D=none:=s1.free hD
   refine kr (K:=K) (lo:=0) (n:=(1+cR ns i 5%4).toNat) (fun j acc H'=>am H1 H'∧H' D=some (.lst acc)∧acc=((iX ns i).take j).map V.str) ⟨al (am.refl _) hD,ae,rfl⟩ ?_ ?_
   ·rintro j acc H2 hj ⟨s2,hD2,rfl⟩
    rw[show(0:Int)+(j:Int)=((j:Nat):Int) by omega]
    refine aq (pj (cL ?_))
    refine⟨_,rfl,_,rfl,sc,ns,2,4,rfl,(s1.trans s2).seq hS,hl,⟨by decide,by decide⟩,⟨by decide,by decide⟩,(j:Int),cR ns 2 4,rfl,fun H3 s3=> ?_⟩
    refine⟨s3 _ _ hD2,by rw[List.length_map,List.length_take,sizeLine_eq];omega,lf hj ⟨br (s2.trans s3) hD,ae,?_⟩⟩
    have e:(iX ns i)[j]? =some (fB (j:Int) (cR ns 2 4)):=by unfold iX;rw[List.getElem?_map,List.getElem?_range hj];rfl
    rw[dr e,List.map_append]
    rfl
   ·rintro acc H2 ⟨s2,hD2,rfl⟩
    rw[←ealen,List.take_of_length_le (Nat.le_refl _)] at hD2
    have s12:=s1.trans s2
    have hl2:=s2 _ _ hl1
    have nlD:l≠D:=fun z=>by rw[z,hD] at hl1;cases hl1
    refine aq ⟨_,rfl,.inl ⟨rfl,_,SqL.of hl2⟩,?_⟩
    refine⟨_,rfl,_,rfl,sc,ns,1,4,rfl,s12.seq hS,hl,⟨by decide,by decide⟩,⟨by decide,by decide⟩,(i:Int),cR ns 1 4,rfl,fun H3 s3=> ?_⟩
    refine⟨_,rfl,D,_,rfl,.inl ⟨SqL.of (s3 _ _ hD2),fun ar har=>⟨aC (show _≤65536 by simp),fun b hb=> ?_⟩⟩⟩
    have s5:=al (o:=.tup [.str (fB (i:Int) (cR ns 1 4)),.ref ar]) (al (o:=.tup ((iX ns i).map V.str)) s3 har) hb
    have e5:upd (upd H3 ar (.tup ((iX ns i).map V.str))) b (.tup [.str (fB (i:Int) (cR ns 1 4)),.ref ar]) b=some (.tup [.str (fB (i:Int) (cR ns 1 4)),.ref ar]):=ae
    have e4:upd (upd H3 ar (.tup ((iX ns i).map V.str))) b (.tup [.str (fB (i:Int) (cR ns 1 4)),.ref ar]) ar=some (.tup ((iX ns i).map V.str)):=by rw[aj (au ae hb)];exact ae
    generalize upd (upd H3 ar (.tup ((iX ns i).map V.str))) b (.tup [.str (fB (i:Int) (cR ns 1 4)),.ref ar])=H5 at s5 e4 e5⊢
    have hl5:=s5 _ _ hl2
    have hal:ts.length≤3:=by have:=Paired.length hts;rw[List.length_take] at this;omega
    have kp:Kp H5 (upd H5 l (.lst (ts++[.ref b]))):=.lst hl5
    refine⟨l,ts,_,rfl,rfl,hl5,by rw[sizeLine_eq];omega,br (s12.trans s5) hln,ts++[.ref b],ae,?_,_,_,rfl⟩
    rw[dr (K4 (by omega))]
    exact Paired.snoc (((hts.kp (.of s2)).kp (.of s5)).kp kp) ⟨b,ar,rfl,kp.tq (SqT.of e5),kp.tq (SqT.of e4)⟩
  ·rintro σ H1 ⟨s1,ts,hl1,hts,v2,v3,rfl⟩
   rw[←elen,List.take_of_length_le (Nat.le_refl _)] at hts
   exact⟨_,rfl,q l ts H1 s1 hln hl1 hts⟩
end
inductive Lg (K:PySem.W.Frag) (vs:List V) (H:Hp) (Q:VK) (_E:XK):Prop
 |mk (sc tl:Addr) (ns:List Int) (k n:Nat) (ly:Str) (ts:List V) (trs:List TrS) (_:vs=[.ref sc,.int k,.int n,.str ly,.ref tl]) (_:SqL K H sc (ns.map V.int)) (_:ns.length≤63) (_:k≤1000) (_:(2≤n∧n≤997)) (_:H tl=some (.lst ts)) (_:qC K H ts trs) (_:(∀y∈trs,qj y)) (_:1≤trs.length) (_:trs.length≤3) (_: ∀(d:Addr) (xs:List V) H',am H H'→SqT K H' d xs→((∃z,xs=[.str "hold",.str ly,.int z]∧0≤z)∨ ∃y∈trs,∃W,jr K H' y xs W)→Q (.ref d) H')
section
variable {P:Program}{w:World}{K:PySem.W.Frag}{mg:Str→Option Value}{base:Heap}{a:Adr}
theorem JN (T:Txt K mg a):bd P w K mg base CX0 3 a.KY a.pT ["_law_script","_law_k","_law_prime","_law_layer","_law_trials_here"] (Lg K):=by
 refine T.GG.ok iI (fun vs H Q E h=> ?_) (fun cdv A outer s H vs Q E hr h=> ?_)
 ·obtain⟨sc,tl,ns,k,n,ly,ts,trs,rfl,_⟩:=h
  rfl
 ·obtain⟨sc,tl,ns,k,n,ly,ts,trs,rfl,hS,hl,hk,hn,htl,hts,hok,t1,t3,q⟩:=h
  have t30:=Bo
  have t50:=G7
  refine⟨_,(ag (aO (i:=5) iI.nd rfl (.inl rfl) (av ((d9 T).mono (by decide)) hr rfl T.fN T.eS.kp T.gc .nil aD (ad (pv 0) (ad (pv 1) (ad ai af)))))
 (ag (lD (aJ (bj K rfl) (pv 4) (aA bI (aA cH (pv 5) ai) (az (aK K rfl) (by rfl) T.bK L2.aQ (ad (pv 4) af))) (fun _ _=>rfl)) (eX K rfl rfl (bo (aF (i:=6) iI.nd rfl (.inl rfl)) (bo (aF (i:=7) iI.nd rfl (.inl rfl)) eW))))
 (ag (a0 (aE bO (aA bI (pv 5) ai) ai (aM _)) (ah (aI (cE (ad aL (ad (pv 3) (ad (aA bI (aA cH (pv 5) ai) (aA bF (aA cH (pv 2) ai) ai)) af)))))) aH)
 (ag (a0 (PW.pt (Jw (aE bO (aA bI (pv 5) ai) ai (aM _)) (Gu (aE bO (aA bI (aA cH (pv 5) ai) ai) ai (aM _))))) (ah (aI (cE (ad aL (ad (pv 6) af))))) aH)
 (ag (a0 (aE JI (aA bI (pv 5) ai) ai (aM _)) (ag (aO (i:=8) iI.nd rfl (.inr rfl) (av ((pG T).mono (by decide)) hr rfl T.rP T.oA.kp T.sE .nil aD (ad (pv 0) (ad (pv 1) af))))
 (ag (iW (i:=9) ["_law_script","_law_k","_law_prime","_law_layer","_law_trials_here","_law_number","_law_name","_law_arms","_law_great","_law_weights","_law_numbers"] ["_law_j"] [] [11] (ak qu) rfl rfl rfl (by decide+kernel) (by decide+kernel) (b9 11)
  (cK rfl T.ee (ad (az (aK K rfl) (by rfl) T.bK L2.aQ (ad (pv 7) af)) af)) (fun cl C s₀ H₀ ex=>⟨(aF (i:=11) (show List.Nodup ((["_law_script","_law_k","_law_prime","_law_layer","_law_trials_here","_law_number","_law_name","_law_arms","_law_great","_law_weights","_law_numbers"]:List PySem.Str)++(["_law_j"]:List PySem.Str)) by decide+kernel) rfl (by first |exact Or.inl rfl |exact Or.inr rfl)),cm,(aA bF ai (aA bI (aA bF (pv 8) (aA gJ ai (av ((d9 T).mono (by decide)) hr rfl T.fN T.eS.kp T.gc .nil aD (ad (pv 0) (ad (pv 1) (ad (aA bF ai (pv 11)) af)))))) (aA Cv ai ai)))⟩) iI.nd)
 (ag (a0 (aE bO (aA bI (aA cH (pv 5) ai) ai) ai (aM _)) (ah (iW (i:=9) ["_law_script","_law_k","_law_prime","_law_layer","_law_trials_here","_law_number","_law_name","_law_arms","_law_great","_law_weights","_law_numbers"] ["_law_weight"] [] [11] (ak qu) rfl rfl rfl (by decide+kernel) (by decide+kernel) (b9 11)
  (ce K rfl (pv 9)) (fun cl C s₀ H₀ ex=>⟨(aF (i:=11) (show List.Nodup ((["_law_script","_law_k","_law_prime","_law_layer","_law_trials_here","_law_number","_law_name","_law_arms","_law_great","_law_weights","_law_numbers"]:List PySem.Str)++(["_law_weight"]:List PySem.Str)) by decide+kernel) rfl (by first |exact Or.inl rfl |exact Or.inr rfl)),cm,(aA bF ai (aA bI (pv 11) ai))⟩) iI.nd)) aH)
 (ah (aI (cE (ad aL (ad (pv 6) (ad (aA bI (aA cH (pv 5) ai) (az (BN rfl) (by rfl) T.Mw L2.EZ (ad (aA bF (pv 2) ai) (ad ai af)))) (ad (d8 (fg K rfl) (by rfl) T.eY L2.bW (ad (pv 9) af)) af)))))))))) aH)
 (ag (iW (i:=10) ["_law_script","_law_k","_law_prime","_law_layer","_law_trials_here","_law_number","_law_name","_law_arms","_law_great","_law_weights","_law_numbers"] ["_law_j"] [] [11] (ak qu) rfl rfl rfl (by decide+kernel) (by decide+kernel) (b9 11)
  (cK rfl T.ee (ad (az (aK K rfl) (by rfl) T.bK L2.aQ (ad (pv 7) af)) af)) (fun cl C s₀ H₀ ex=>⟨(aF (i:=11) (show List.Nodup ((["_law_script","_law_k","_law_prime","_law_layer","_law_trials_here","_law_number","_law_name","_law_arms","_law_great","_law_weights","_law_numbers"]:List PySem.Str)++(["_law_j"]:List PySem.Str)) by decide+kernel) rfl (by first |exact Or.inl rfl |exact Or.inr rfl)),cm,(aA bI (av ((d9 T).mono (by decide)) hr rfl T.fN T.eS.kp T.gc .nil aD (ad (pv 0) (ad (pv 1) (ad (aA bF ai (pv 11)) af)))) (aA bF (aA cH (pv 2) ai) ai))⟩) iI.nd)
 (ag (a0 (aE bO (aA bI (aA cH (pv 5) ai) ai) ai (aM _)) (ah (lD (aJ (bj K rfl) (b7 (ad (aA bF (pv 2) ai) (ad (aA JE ai ai) (ad (pv 2) af)))) (aA bI (aA cH (pv 5) ai) ai) (fun _ _=>rfl)) (nH (pv 10) (aA bI (aA cH (pv 5) ai) (az (aK K rfl) (by rfl) T.bK L2.aQ (ad (pv 10) af))) xO))) aH)
 (ah (aI (cE (ad aL (ad (pv 6) (ad (d8 (fg K rfl) (by rfl) T.eY L2.bW (ad (pv 10) af)) af))))))))))))),?_⟩
  refine⟨_,rfl,_,rfl,sc,ns,(k:Int),6,rfl,hS,hl,⟨by omega,by omega⟩,⟨by decide,by decide⟩,aq ?_⟩
  obtain⟨x,hx⟩: ∃x,x=cR ns k 6:=⟨_,rfl⟩
  have hx0:=(CA ns k 6).1
  rw[←hx] at hx0⊢
  have etl:ts.length=trs.length:=Paired.length hts
  have bm:=bR (x/16) (show(0:Int)<(ts.length:Int) by omega)
  obtain⟨v,hv,hvm⟩:=KJ (xs:=ts) bm.1 bm.2
  obtain⟨i,hi⟩:=List.mem_iff_getElem?.mp hvm
  obtain⟨y,hy,b,ar,rfl,hb,har⟩:=hts.get i v hi
  have hym:=List.mem_of_getElem? hy
  have ho:=hok y hym
  have a1:=ho.a1
  have a4:=ho.a4
  refine⟨_,rfl,_,rfl,_,_,rfl,rfl,⟨by decide,by decide⟩,_,rfl,_,_,rfl,.inl ⟨_,SqL.of htl,rfl⟩,_,_,rfl,rfl,by show(0:Int)<(ts.length:Int);omega,tl,_,_,_,rfl,rfl,SqL.of htl,hv,?_⟩
  refine⟨b,_,rfl,hb,rfl,_,_,rfl,aq ⟨_,_,rfl,aq ⟨rfl,?_⟩⟩⟩
  dsimp only
  (repeat (first |refine⟨_,rfl,?_⟩ |refine⟨_,_,rfl,rfl,?_⟩ |refine⟨(rfl:m9 _ _=true),?_⟩ |refine⟨(show ph _ _ from⟨by decide,by decide⟩),?_⟩ |refine⟨(show(0:Int)<_ by first |omega |decide),?_⟩ |refine⟨(rfl:V.int 10=V.int 10),rfl,?_⟩))
  refine AZ (fun e0=> ?_) (fun e0=>nx_ ?_)
  ·have bz:=bR (x/64) (show(0:Int)<(n:Int)/2+2 by omega)
   (repeat (first |refine⟨_,rfl,?_⟩ |refine⟨_,_,rfl,rfl,?_⟩ |refine⟨(rfl:m9 _ _=true),?_⟩ |refine⟨(show ph _ _ from⟨by decide,by decide⟩),?_⟩ |refine⟨(show(0:Int)<_ by first |omega |decide),?_⟩ |refine⟨(rfl:V.int 10=V.int 10),rfl,?_⟩))
   exact⟨aC (show _≤65536 by simp),fun d hd=>q d _ _ (al (am.refl H) hd) (SqT.of ae) (.inl ⟨_,rfl,bz.1⟩)⟩
  dsimp only
  refine L7 (fun σ H'=>H=H'∧σ=[some (.ref sc),some (.int k),some (.int n),some (.str ly),some (.ref tl),some (.int x),some (.str y.nm),some (.ref ar),none,none,none]) ?A0 (fun Nn hJ=> ?B0)
  case B0=>
   (repeat (first |refine⟨_,rfl,?_⟩ |refine⟨_,_,rfl,rfl,?_⟩ |refine⟨(rfl:m9 _ _=true),?_⟩ |refine⟨(show ph _ _ from⟨by decide,by decide⟩),?_⟩ |refine⟨(show(0:Int)<_ by first |omega |decide),?_⟩ |refine⟨(rfl:V.int 10=V.int 10),rfl,?_⟩))
   have hcl:Ow (Ot (IT (tC (V.str (Str.ofString "close"))) (IT (ML 6) MN))) {nx:=Nn,rt:=Q} [some (.ref sc),some (.int k),some (.int n),some (.str ly),some (.ref tl),some (.int x),some (.str y.nm),some (.ref ar),none,none,none] H:=⟨_,rfl,aC (show _≤65536 by simp),fun d hd=>q d _ _ (al (am.refl H) hd) (SqT.of ae) (.inr ⟨y,hym,_,.close⟩)⟩
   refine AZ (fun e1=> ?_) (fun e1=> ?_)
   ·(repeat (first |refine⟨_,rfl,?_⟩ |refine⟨_,_,rfl,rfl,?_⟩ |refine⟨(rfl:m9 _ _=true),?_⟩ |refine⟨(show ph _ _ from⟨by decide,by decide⟩),?_⟩ |refine⟨(show(0:Int)<_ by first |omega |decide),?_⟩ |refine⟨(rfl:V.int 10=V.int 10),rfl,?_⟩))
    exact AZ (fun e2=>hcl) (fun e2=>hJ _ _ ⟨rfl,rfl⟩)
   ·exact hJ _ _ ⟨rfl,rfl⟩
  case A0=>
  rintro σ _ ⟨rfl,rfl⟩
  refine L7 (fun σ H'=>H=H'∧σ=[some (.ref sc),some (.int k),some (.int n),some (.str ly),some (.ref tl),some (.int x),some (.str y.nm),some (.ref ar),none,none,none]) ?A1 (fun Nn hJ=> ?B1)
  case B1=>
   (repeat (first |refine⟨_,rfl,?_⟩ |refine⟨_,_,rfl,rfl,?_⟩ |refine⟨(rfl:m9 _ _=true),?_⟩ |refine⟨(show ph _ _ from⟨by decide,by decide⟩),?_⟩ |refine⟨(show(0:Int)<_ by first |omega |decide),?_⟩ |refine⟨(rfl:V.int 10=V.int 10),rfl,?_⟩))
   refine se (fun e1=> ?_) (fun e1=>hJ _ _ ⟨rfl,rfl⟩)
   refine⟨_,rfl,_,rfl,sc,ns,(k:Int),rfl,hS,hl,aq ?_⟩
   generalize wx ns k=c
   refine⟨_,rfl,_,y.arms.length,rfl,.inr ⟨_,har,by simp⟩,_,rfl,by omega,by omega,fun D hD=> ?_⟩
   refine kr (K:=K) (lo:=0) (n:=((y.arms.length:Nat):Int).toNat) (fun j acc H'=>am H H'∧H' D=some (.lst acc)∧ ∃(ws:List Int),acc=ws.map V.int∧ws.length=j∧ ∀i∈ws,1≤i∧i≤er) ⟨al (am.refl _) hD,ae,[],rfl,rfl,fun i hi=>nomatch hi⟩ ?_ ?_
   ·rintro j acc H2 hj ⟨s2,hD2,ws,rfl,hwl,hws⟩
    rw[show(0:Int)+(j:Int)=((j:Nat):Int) by omega]
    refine aq (pj (cL ?_))
    refine⟨_,rfl,_,rfl,_,rfl,_,rfl,_,_,rfl,rfl,sc,ns,(k:Int),20+(j:Int),rfl,s2.seq hS,hl,⟨by omega,by omega⟩,⟨by omega,by omega⟩,?_⟩
    have bx:=CA ns k (20+(j:Int))
    have bt:=bR (c+7*cR ns k (20+(j:Int))) (show(0:Int)<er by omega)
    refine⟨_,_,rfl,rfl,.inl ⟨by decide,by decide⟩,_,_,rfl,rfl,rfl,rfl,_,_,rfl,rfl,by show(0:Int)<er;omega,_,_,rfl,rfl,?_⟩
    refine⟨hD2,by rw[List.length_map,sizeLine_eq];omega,lf hj ⟨br s2 hD,ae,ws++[1+(c+7*cR ns k (20+(j:Int)))%er],by rw[List.map_append];rfl,by rw[List.length_append,hwl];rfl,fun i hi=> ?_⟩⟩
    rcases List.mem_append.mp hi with hi |hi
    ·exact hws i hi
    ·rw[List.mem_singleton.mp hi];omega
   ·rintro acc H2 ⟨s2,hD2,ws,rfl,hwl,hws⟩
    rw[Int.toNat_natCast] at hwl
    refine aq ?_
    dsimp only
    refine L7 (fun σ H'=>am H H'∧(Ex2 fun(D':Addr) (ws:List Int)=>H' D'=some (.lst (ws.map V.int))∧ws.length=y.arms.length∧(∀i∈ws,1≤i∧i≤er)∧ ∃v8,σ=[some (.ref sc),some (.int k),some (.int n),some (.str ly),some (.ref tl),some (.int x),some (.str y.nm),some (.ref ar),v8,some (.ref D'),none])) ?A2 (fun N2 hJ2=> ?B2)
    case B2=>
     (repeat (first |refine⟨_,rfl,?_⟩ |refine⟨_,_,rfl,rfl,?_⟩ |refine⟨(rfl:m9 _ _=true),?_⟩ |refine⟨(show ph _ _ from⟨by decide,by decide⟩),?_⟩ |refine⟨(show(0:Int)<_ by first |omega |decide),?_⟩ |refine⟨(rfl:V.int 10=V.int 10),rfl,?_⟩))
     refine AZ (fun e2=> ?_) (fun e2=>hJ2 _ _ ⟨s2,D,ws,hD2,hwl,hws,_,rfl⟩)
     refine⟨_,rfl,D,rfl,⟨_,SqL.of hD2⟩,fun D3 hD3=> ?_⟩
     refine mH (K:=K) (a:=D) (xs:=ws.map V.int) (fun j acc H'=>am H2 H'∧H' D3=some (.lst acc)∧ ∃(us:List Int),acc=us.map V.int∧us.length=j∧ ∀i∈us,1≤i∧i≤er) ⟨al (am.refl _) hD3,ae,[],rfl,rfl,fun i hi=>nomatch hi⟩ (fun i acc H' _ h=>SqL.of (h.1 _ _ hD2)) ?_ ?_
     ·rintro j v acc H4 hv ⟨s4,hD4,us,rfl,hul,hus⟩
      have hj:j<(ws.map V.int).length:=(List.getElem?_eq_some_iff.mp hv).1
      rw[List.getElem?_map] at hv
      obtain⟨u,hu,rfl⟩:=Option.map_eq_some_iff.mp hv
      have b4:=bR u (show(0:Int)<4 by decide)
      refine aq (pj (cL ⟨_,rfl,_,_,rfl,rfl,(by show(0:Int)<_;first |decide |omega),_,_,rfl,rfl,hD4,by rw[List.length_map,sizeLine_eq];rw[List.length_map] at hj;omega,lf hj ⟨br s4 hD3,ae,us++[1+u%4],by rw[List.map_append];rfl,by rw[List.length_append,hul];rfl,fun i hi=> ?_⟩⟩))
      rcases List.mem_append.mp hi with hi |hi
      ·exact hus i hi
      ·rw[List.mem_singleton.mp hi];omega
     ·rintro acc H4 ⟨s4,hD4,us,rfl,hul,hus⟩
      rw[List.length_map] at hul
      exact aq (hJ2 _ _ ⟨s2.trans s4,D3,us,hD4,hul.trans hwl,hus,_,rfl⟩)
    case A2=>
    clear hws hwl hD2 s2
    rintro σ H4 ⟨s4,D4,us,hD4,hul,hus,v8,rfl⟩
    obtain⟨mn,emn,m0,m40⟩: ∃mn:Int,mn=(if(40:Int)<(n:Int)+2 then 40 else(n:Int)+2)∧0<mn∧mn≤40:=⟨_,rfl,by split<;>omega,by split<;>omega⟩
    have bz:=bR (x/128) m0
    refine⟨_,rfl,_,rfl,_,_,rfl,rfl,⟨by decide,by decide⟩,_,rfl,_,_,rfl,rfl,_,_,rfl,?_⟩
    rw[←emn]
    refine⟨_,_,rfl,rfl,m0,_,rfl,D4,_,rfl,.inl ⟨SqL.of hD4,fun wt hwt=>⟨aC (show _≤65536 by simp),fun d hd=> ?_⟩⟩⟩
    have s5:=al (o:=.tup [.str "deal",.str y.nm,.int (x/128%mn),.ref wt]) (al (o:=.tup (us.map V.int)) s4 hwt) hd
    refine q d _ _ s5 (SqT.of ae) (.inr ⟨y,hym,_,.deal (ws:=us) ⟨by omega,by omega⟩ (SqT.of (by rw[aj (au ae hd)];exact ae)) hul hus⟩)
  case A1=>
  rintro σ _ ⟨rfl,rfl⟩
  refine⟨_,rfl,_,y.arms.length,rfl,.inr ⟨_,har,by simp⟩,_,rfl,by omega,by omega,fun D hD=> ?_⟩
  refine kr (K:=K) (lo:=0) (n:=((y.arms.length:Nat):Int).toNat) (fun j acc H'=>am H H'∧H' D=some (.lst acc)∧ ∃(ws:List Int),acc=ws.map V.int∧ws.length=j∧ ∀i∈ws,0≤i) ⟨al (am.refl _) hD,ae,[],rfl,rfl,fun i hi=>nomatch hi⟩ ?_ ?_
  ·rintro j acc H2 hj ⟨s2,hD2,ws,rfl,hwl,hws⟩
   rw[show(0:Int)+(j:Int)=((j:Nat):Int) by omega]
   refine aq (pj (cL ?_))
   refine⟨_,rfl,_,rfl,_,rfl,_,_,rfl,rfl,sc,ns,(k:Int),30+(j:Int),rfl,s2.seq hS,hl,⟨by omega,by omega⟩,⟨by omega,by omega⟩,?_⟩
   have bt:=bR (cR ns k (30+(j:Int))) (show(0:Int)<(n:Int)/2+2 by omega)
   refine⟨_,rfl,_,_,rfl,rfl,⟨by decide,by decide⟩,_,_,rfl,rfl,_,_,rfl,rfl,by show(0:Int)<(n:Int)/2+2;omega,?_⟩
   refine⟨hD2,by rw[List.length_map,sizeLine_eq];omega,lf hj ⟨br s2 hD,ae,ws++[cR ns k (30+(j:Int))%((n:Int)/2+2)],by rw[List.map_append];rfl,by rw[List.length_append,hwl];rfl,fun i hi=> ?_⟩⟩
   rcases List.mem_append.mp hi with hi |hi
   ·exact hws i hi
   ·rw[List.mem_singleton.mp hi];omega
  ·rintro acc H2 ⟨s2,hD2,ws,rfl,hwl,hws⟩
   rw[Int.toNat_natCast] at hwl
   refine aq ?_
   dsimp only
   refine L7 (fun σ H'=>am H H'∧ ∃(us:List Int),H' D=some (.lst (us.map V.int))∧us.length=y.arms.length∧(∀i∈us,0≤i)∧σ=[some (.ref sc),some (.int k),some (.int n),some (.str ly),some (.ref tl),some (.int x),some (.str y.nm),some (.ref ar),none,none,some (.ref D)]) ?A3 (fun N3 hJ3=> ?B3)
   case B3=>
    (repeat (first |refine⟨_,rfl,?_⟩ |refine⟨_,_,rfl,rfl,?_⟩ |refine⟨(rfl:m9 _ _=true),?_⟩ |refine⟨(show ph _ _ from⟨by decide,by decide⟩),?_⟩ |refine⟨(show(0:Int)<_ by first |omega |decide),?_⟩ |refine⟨(rfl:V.int 10=V.int 10),rfl,?_⟩))
    refine AZ (fun e2=> ?_) (fun e2=>hJ3 _ _ ⟨s2,ws,hD2,hwl,hws,rfl⟩)
    have b3:=bR (x/4096) (show(0:Int)<3 by decide)
    have bl:=bR (x/512) (show(0:Int)<(ws.length:Int) by omega)
    have hat: ∃z:Int,atI [V.int ((n:Int)+1),V.int pw,V.int n] (x/4096%3)=some (.int z)∧0≤z:=by
     rcases(by omega:x/4096%3=0∨x/4096%3=1∨x/4096%3=2) with e |e |e<;>rw[e]
     ·exact⟨(n:Int)+1,rfl,by omega⟩
     ·exact⟨pw,rfl,by omega⟩
     ·exact⟨n,rfl,by omega⟩
    obtain⟨z,hz,z0⟩:=hat
    refine⟨_,rfl,_,_,rfl,rfl,rfl,rfl,_,rfl,aC (show _≤65536 by simp),fun l4 hl4=> ?_⟩
    have s4:=al (o:=.lst [V.int ((n:Int)+1),V.int pw,V.int n]) s2 hl4
    have e4:upd H2 l4 (.lst [V.int ((n:Int)+1),V.int pw,V.int n]) l4=some (.lst [V.int ((n:Int)+1),V.int pw,V.int n]):=ae
    have hD4:upd H2 l4 (.lst [V.int ((n:Int)+1),V.int pw,V.int n]) D=some (.lst (ws.map V.int)):=by rw[aj (au hD2 hl4)];exact hD2
    generalize upd H2 l4 (.lst [V.int ((n:Int)+1),V.int pw,V.int n])=H4 at s4 e4 hD4⊢
    refine⟨_,rfl,_,_,rfl,rfl,⟨by decide,by decide⟩,_,_,rfl,rfl,(by show(0:Int)<_;first |decide |omega),l4,_,_,_,rfl,rfl,SqL.of e4,hz,?_⟩
    refine⟨_,rfl,_,rfl,_,_,rfl,rfl,⟨by decide,by decide⟩,_,rfl,_,ws.length,rfl,.inl ⟨_,SqL.of hD4,by simp⟩,_,_,rfl,rfl,by show(0:Int)<(ws.length:Int);omega,D,_,_,_,rfl,rfl,hD4,CS (by omega) (by rw[List.length_map];omega),?_⟩
    refine hJ3 _ _ ⟨br s4 hD,ws.set (x/512%(ws.length:Int)).toNat z,by rw[ae,pK],by rw[List.length_set];exact hwl,fun i hi=> ?_,rfl⟩
    rcases List.mem_or_eq_of_mem_set hi with h |h
    ·exact hws i h
    ·rw[h];exact z0
   case A3=>
   clear hws hwl hD2 s2
   rintro σ H4 ⟨s4,us,hD4,hul,hus,rfl⟩
   refine⟨_,rfl,_,rfl,D,_,rfl,.inl ⟨SqL.of hD4,fun wt hwt=>⟨aC (show _≤65536 by simp),fun d hd=> ?_⟩⟩⟩
   have s5:=al (o:=.tup [.str "share",.str y.nm,.ref wt]) (al (o:=.tup (us.map V.int)) s4 hwt) hd
   exact q d _ _ s5 (SqT.of ae) (.inr ⟨y,hym,_,.share (l:=us) (SqT.of (by rw[aj (au ae hd)];exact ae)) hul hus⟩)
end
theorem mC {K:PySem.W.Frag}{H:Hp}: ∀ns:List Int,IsPs K H (ns.map V.int) (ns.map PyData.int)
 | []=> .nil
 |n::r=> .cons (.int n) (mC r)
theorem py (ns:List Int):SeqAt.shaped (.list (ns.map PyData.int))=true:=by
 have h2:PyData.depthAll (ns.map PyData.int)=0:=by
  induction ns with
  |nil=>simp[PyData.depthAll]
  |cons n r ih=>simp[PyData.depthAll,PyData.depth,ih]
 have h1:PyData.canLayAll0 (ns.map PyData.int)=true:=by
  clear h2
  induction ns with
  |nil=>simp[PyData.canLayAll0]
  |cons n r ih=>simp[PyData.canLayAll0,PyData.canLay0,ih]
 unfold SeqAt.shaped
 have h3:PyData.canLay0 (.list (ns.map PyData.int))=true:=h1
 have h4:PyData.depth (.list (ns.map PyData.int))≤64:=by
  show PyData.depthAll (ns.map PyData.int)+1≤64
  rw[h2];decide
 rw[h3,decide_eq_true h4]
 rfl
theorem gA {d:PyData}(h:SeqAt.shaped d=true):PyData.eqv d d=true:=by
 unfold SeqAt.shaped at h
 rw[Bool.and_eq_true] at h
 exact SeqAt.eqv_refl d h.1
theorem Mm {x:Str}(h:Wd x):PyData.strOk x=true:=by
 obtain⟨_,_,h⟩:=h
 unfold PyData.strOk
 rw[←Array.all_toList,List.all_eq_true]
 intro c hc
 have key: ∀c∈y3.cps.toList,decide (c<1114112)=true:=by decide+kernel
 have:=of_decide_eq_true (key c (h c hc))
 simp
 omega
def dS (S:AS):Prop:= ∀k p,p∈S.pl k→ ∃x y,k=bS x y∧PyData.strOk x=true∧PyData.strOk y=true
def GQ (W:Wl):Prop:= ∀z∈W,∃x y,z.1=bS x y∧PyData.strOk x=true∧PyData.strOk y=true
theorem dS.new:dS AS.new:=fun k p h=>nomatch h
theorem dS.give {S:AS}(h:dS S) (k:bc) (c:Nat):dS (S.give k c):=fun j p hp=>by
 have hp:p∈if j=k then(S.pl k).take c else S.pl j:=hp
 split at hp
 ·rename_i e;rw[e];exact h k p (List.mem_of_mem_take hp)
 ·exact h j p hp
theorem dS.took {S:AS}{n:Nat}(h:dS S) {k:bc}(hk: ∃x y,k=bS x y∧PyData.strOk x=true∧PyData.strOk y=true) (c:Nat):dS (S.took n k c):=fun j p hp=>by
 have hp:p∈if j=k then S.pl k++(frl n S.oc).take (c-(S.pl k).length) else S.pl j:=hp
 split at hp
 ·rename_i e;rw[e];exact hk
 ·exact h j p hp
theorem dS.gives: ∀(W:Wl) {S:AS},dS S→dS (aV S W)
 | [],_,h=>h
 |x::r,_,h=>dS.gives r (h.give x.1 x.2.toNat)
theorem dS.tooks {n:Nat}: ∀(W:Wl) {S:AS},GQ W→dS S→dS (aS n S W)
 | [],_,_,h=>h
 |x::r,_,hW,h=>dS.tooks r (fun z hz=>hW z (List.mem_cons_of_mem _ hz)) (h.took (hW x List.mem_cons_self) x.2.toNat)
theorem zg {y:TrS}{l:List Int}(h:qj y):GQ (wOf y.nm y.arms l):=fun z hz=>by
 obtain⟨p,hp,rfl⟩:=List.mem_map.mp hz
 exact⟨y.nm,p.1,rfl,Mm h.wd,Mm (h.aw _ (List.of_mem_zip hp).1)⟩
theorem Fu {K:PySem.W.Frag}{H:Hp}{S:AS}{n:Nat}{p:Int}{u v:V}(hG:dS S) (hO:S.Ok n) (h1:KO K H S p u) (h2:KO K H S p v): ∃d,IsP K H u d∧IsP K H v d∧SeqAt.shaped d=true:=by
 rcases h1 with⟨rfl,e1⟩ |⟨k,hk,k1⟩<;>rcases h2 with⟨rfl,e2⟩ |⟨j,hj,j1⟩
 ·exact⟨.none,.non,.non,by decide+kernel⟩
 ·have:=(hO.in_ j p hj).2.2;rw[e1] at this;cases this
 ·have:=(hO.in_ k p hk).2.2;rw[e2] at this;cases this
 ·have e:=hO.dj k j p hk hj
  subst e
  obtain⟨x,y,rfl,s1,s2⟩:=hG k p hk
  obtain⟨b1,rfl,q1⟩:=k1
  obtain⟨b2,rfl,q2⟩:=j1
  refine⟨.tuple [.str x,.str y],.tup q1 (.cons (.str x) (.cons (.str y) .nil)),.tup q2 (.cons (.str x) (.cons (.str y) .nil)),?_⟩
  unfold SeqAt.shaped
  simp[PyData.canLay0,PyData.canLayAll0,PyData.depth,PyData.depthAll,s1,s2]
theorem bZ.own {P:Program}{w:World}{K:PySem.W.Frag}{H:Hp}{fl hl ld:Addr}{n:Nat}{lo:List (Key×V)}{lk:List aW}{lm:List Pl}{S:AS}{p:Int}(L:bZ P w K H fl hl ld n lo lk lm S) (p0:0≤p) (p1:p<n):KO K H S p ((bh lo (.inl p)).getD .non):=by
 have e:=L.ocs p p0 p1
 cases hv:bh lo (.inl p) with
 |none=>
  rw[hv] at e
  exact .inl ⟨rfl,e.symm⟩
 |some v=>exact .inr (L.ows p v p0 p1 hv)
def qk (H:Hp) (D:Addr) (S:AS) (x:Str) (acc:List V) (arms:List Str):Prop:=Paired (fun(v:V) (z:Str)=> ∃l,v=.ref l∧l≠D∧H l=some (.lst ((S.pl (bS x z)).map V.int))) acc arms
theorem qk.mono {H H':Hp}{D:Addr}{S:AS}{x:Str}(e: ∀l xs,l≠D→H l=some (.lst xs)→H' l=some (.lst xs)): ∀{acc:List V}{arms:List Str},qk H D S x acc arms→qk H' D S x acc arms
 |_,_,.nil=> .nil
 |_,_,.cons ⟨l,h1,h2,h3⟩ t=> .cons ⟨l,h1,h2,e _ _ h2 h3⟩ (qk.mono e t)
theorem qk.get {H:Hp}{D:Addr}{S:AS}{x:Str}: ∀{acc:List V}{arms:List Str},qk H D S x acc arms→ ∀(i:Nat) (v:V),acc[i]? =some v→ ∃z,arms[i]? =some z∧ ∃l,v=.ref l∧l≠D∧H l=some (.lst ((S.pl (bS x z)).map V.int))
 |_,_,.nil,i,v,h=>by simp at h
 |_,_,.cons h t,0,v,e=>by
  simp at e
  subst e
  exact⟨_,rfl,h⟩
 |_,_,.cons h t,i+1,v,e=>by
  obtain⟨z,h1,h2⟩:=qk.get t i v (by simpa using e)
  exact⟨z,by simpa using h1,h2⟩
theorem m7 (ns:List Int):SeqAt.shaped (.tuple (ns.map PyData.int))=true:=by
 have lay: ∀ns:List Int,PyData.canLayAll0 (ns.map PyData.int)=true∧PyData.depthAll (ns.map PyData.int)=0:=by
  intro ns
  induction ns with
  |nil=>exact⟨rfl,rfl⟩
  |cons n r ih=>simp[PyData.canLayAll0,PyData.canLay0,PyData.depthAll,PyData.depth,ih.1,ih.2]
 have:=lay ns
 simp[SeqAt.shaped,PyData.canLay0,PyData.depth,this.1,this.2]
inductive Ls (P:Program) (w:World) (K:PySem.W.Frag) (a:Adr) (vs:List V) (H:Hp) (Q:VK) (_E:XK):Prop
 |mk (A:HA) (tl fl hl ld:Addr) (n:Nat) (ly:Str) (tv:List (Key×V)) (trs trs0:List TrS) (tk:List aW) (ds ts:List V) (S:AS) (c:Nat) (lo:List (Key×V)) (lk:List aW) (lm:List Pl) (_:vs=[.ref A.h,.str ly,.ref tl,.ref fl,.int n]) (_:bH P w K a H A n ly tv trs tk ds S c) (_:bZ P w K H fl hl ld n lo lk lm S) (_:S.Ok n) (_:dS S) (_:H tl=some (.lst ts)) (_:qC K H ts trs0) (_:(∀y∈trs0,qj y∧ ∃y'∈trs,y'.nm=y.nm∧y'.arms=y.arms)) (_:Wd ly) (_:n≤997) (_: ∀H',am H H'→Q (.bl true) H')
section
variable {P:Program}{w:World}{K:PySem.W.Frag}{mg:Str→Option Value}{base:Heap}{a:Adr}
theorem Hs (T:Txt K mg a):bd P w K mg base CX0 5 a.Gn a.mG ["_law_house","_law_layer","_law_trials_here","_law_floor","_law_prime"] (Ls P w K a):=by
 refine T.EM.ok gC (fun vs H Q E h=> ?_) (fun cdv A outer s H vs Q E hr h=> ?_)
 ·obtain⟨A,tl,fl,hl,ld,n,ly,tv,trs,trs0,tk,ds,ts,S,c,lo,lk,lm,rfl,_⟩:=h
  rfl
 ·obtain⟨A,tl,fl,hl,ld,n,ly,tv,trs,trs0,tk,ds,ts,S,c,lo,lk,lm,rfl,hS,hL,hO,hG,htl,hts,hok,hly,hn,q⟩:=h
  refine⟨_,(ag (cV PassesOwn.never rfl (ce K rfl (pv 2)) (eX K rfl rfl (bo (aF (i:=5) gC.nd rfl (.inr rfl)) (bo (aF (i:=6) gC.nd rfl (.inl rfl)) eW)))
 (ag (iW (i:=7) ["_law_house","_law_layer","_law_trials_here","_law_floor","_law_prime","_law_name","_law_arms","_law_rows","_law_k","_law_found","_law_place"] ["_law_arm"] [] [11] (ak pB) rfl rfl rfl (by decide+kernel) (by decide+kernel) (b9 11)
  (nG K rfl (pv 6)) (fun cl C s₀ H₀ ex=>⟨(aF (i:=11) (show List.Nodup ((["_law_house","_law_layer","_law_trials_here","_law_floor","_law_prime","_law_name","_law_arms","_law_rows","_law_k","_law_found","_law_place"]:List PySem.Str)++(["_law_arm"]:List PySem.Str)) by decide+kernel) rfl (by first |exact Or.inl rfl |exact Or.inr rfl)),cm,(yc (P:=P) (w:=w) K rfl (cw hr) (aJ (bj K rfl) (pv 3) ai (fun _ _=>rfl)) (cE (ad (pv 5) (ad (pv 11) af))) (b7 af) ⟨rfl,rfl,rfl,rfl⟩)⟩) gC.nd)
 (ag (a0 (aE (xl K rfl (L4 hr)) (bD (pv 0) T.ay T.wX ((wS (P:=P) (w:=w) T).mono (by decide)) hr T.zM .nil aD (ad (pv 5) af)) (d8 (fg K rfl) (by rfl) T.eY L2.bW (ad (dw ["_law_house","_law_layer","_law_trials_here","_law_floor","_law_prime","_law_name","_law_arms","_law_rows","_law_k","_law_found","_law_place"] ["_law_row"] [] [11] (ak pB) rfl rfl rfl (by decide+kernel) (by decide+kernel) (b9 11)
  (ce K rfl (pv 7)) (fun cl C s₀ H₀ ex=>⟨(aF (i:=11) (show List.Nodup ((["_law_house","_law_layer","_law_trials_here","_law_floor","_law_prime","_law_name","_law_arms","_law_rows","_law_k","_law_found","_law_place"]:List PySem.Str)++(["_law_row"]:List PySem.Str)) by decide+kernel) rfl (by first |exact Or.inl rfl |exact Or.inr rfl)),cm,(az (aK K rfl) (by rfl) T.bK L2.aQ (ad (pv 11) af))⟩)) af)) (aM _)) (ah (aI mx)) aH)
 (ah (cV PassesOwn.never rfl (cK rfl T.ee (ad (az (aK K rfl) (by rfl) T.bK L2.aQ (ad (pv 6) af)) af)) (aF (i:=8) gC.nd rfl (.inl rfl))
 (ag (aO (i:=9) gC.nd rfl (.inl rfl) (bD (pv 0) T.ay T.wY ((wT (P:=P) (w:=w) T).mono (by decide)) hr T.zN .nil aD (ad (pv 5) (ad (aJ (aB K rfl) (pv 6) (pv 8) (fun _ _=>rfl)) af))))
 (ag (a0 (PW.pt (kR (b0 (be K rfl (az (mI K rfl) (by rfl) T.bG L2.bn (ad (pv 9) (ad (pD rfl T.FB L2.vQ) af))) (fun _=>rfl))) (gI (aE (xl K rfl (L4 hr)) (pv 9) (aJ (bj K rfl) (pv 7) (pv 8) (fun _ _=>rfl)) (aM _))))) (ah (aI mx)) aH)
 (ah (aX (pE K rfl PySem.F.plainAttrs_list PySem.F.slot_list_append PySem.F.type_list_append fc (pv 9) (ad ai af)))))))))))
 (ag (cV PassesOwn.never rfl (cK rfl T.ee (ad (pv 4) af)) (aF (i:=10) gC.nd rfl (.inl rfl))
 (ah (a0 (aE (xl K rfl (L4 hr)) (bD (pv 0) T.ay T.yU ((yQ (P:=P) (w:=w) T).mono (by decide)) hr T.Bk .nil aD (ad (pv 1) (ad (pv 10) af))) (JB (cw hr) (aJ (bj K rfl) (pv 3) ai (fun _ _=>rfl)) (pv 10) Ft ⟨rfl,rfl,rfl,rfl⟩) (aM _)) (ah (aI mx)) aH)))
 (ah (aI mx)))),?_⟩
  obtain⟨ow,m,hH,hrest⟩:=id hS
  obtain⟨dx,sa,ci,hI⟩:=hH.ins
  refine⟨_,rfl,tl,rfl,⟨_,SqL.of htl⟩,?_⟩
  refine eC (xs:=ts) (fun i σ H'=>am H H'∧(Ex5 fun v5 v6 v7 v8 v9=>σ=[some (.ref A.h),some (.str ly),some (.ref tl),some (.ref fl),some (.int n),v5,v6,v7,v8,v9,none])) ⟨am.refl _,_,_,_,_,_,rfl⟩ (fun i σ H' _ h=>SqL.of (h.1 _ _ htl)) ?_ ?_
  ·rintro i v σ H1 hv ⟨s1,v5,v6,v7,v8,v9,rfl⟩
   obtain⟨y0,hy0,b,ar,rfl,hb,har⟩:=hts.get i v hv
   obtain⟨ho,y,hy,eny,eay⟩:=hok y0 (List.mem_of_getElem? hy0)
   have a4:=ho.a4
   have ho':qj y:=⟨by rw[eny];exact ho.wd,by rw[eay];exact ho.a1,by rw[eay];exact ho.a4,by rw[eay];exact ho.nd,by rw[eay];exact ho.aw⟩
   have har1:SqT K H ar (y.arms.map V.str):=by rw[eay];exact har
   have hb1:SqT K H b [.str y.nm,.ref ar]:=by rw[eny];exact hb
   rw[←eay] at a4
   clear ho hb har eny eay hy0
   refine⟨b,_,rfl,am.tseq s1 hb1,rfl,_,_,rfl,aq ⟨_,_,rfl,aq ⟨rfl,?_⟩⟩⟩
   refine⟨_,rfl,ar,rfl,⟨_,am.tseq s1 har1⟩,fun D hD=> ?_⟩
   have hD0:H D=none:=s1.free hD
   refine kq (K:=K) (a:=ar) (xs:=y.arms.map V.str) (fun i acc H'=>am H H'∧H' D=some (.lst acc)∧qk H' D S y.nm acc (y.arms.take i)) ⟨al s1 hD,ae,.nil⟩ (fun i acc H' _ h=>am.tseq h.1 har1) ?_ ?_
   ·rintro j x acc H2 hx ⟨s2,hD2,hR2⟩
    have hj:j<(y.arms.map V.str).length:=(List.getElem?_eq_some_iff.mp hx).1
    rw[List.getElem?_map] at hx
    obtain⟨z,hz,rfl⟩:=Option.map_eq_some_iff.mp hx
    refine aq (pj (cL ?_))
    have hL2:=hL.same s2
    refine⟨_,rfl,fl,_,2,_,rfl,rfl,SqL.of hL2.fls,ao (k:=2) rfl,ld,lk,rfl,hL2.dct,_,rfl,_,rfl,aC (show _≤65536 by simp),fun T3 hT3=>⟨aC (show _≤65536 by simp),fun e he=> ?_⟩⟩
    have s4:=al (o:=.lst []) (al (o:=.tup [.str y.nm,.str z]) (am.refl H2) hT3) he
    have hE:upd (upd H2 T3 (.tup [.str y.nm,.str z])) e (.lst []) e=some (.lst []):=ae
    have e3:upd (upd H2 T3 (.tup [.str y.nm,.str z])) e (.lst []) T3=some (.tup [.str y.nm,.str z]):=by rw[aj (au ae he)];exact ae
    have he2:H2 e=none:=dC he
    generalize upd (upd H2 T3 (.tup [.str y.nm,.str z])) e (.lst [])=H4 at s4 hE e3⊢
    have hL4:=hL2.same s4
    refine⟨lk,bS y.nm z,hL4.dct,hL4.keys,⟨T3,rfl,SqT.of e3⟩,?_⟩
    obtain⟨lv,elv,hlv⟩:=hL4.got (bS y.nm z) hE
    have nlv:lv≠D:=by
     rcases hL.at_ (bS y.nm z) with⟨l,e1,e2,_⟩ |⟨e1,_⟩
     ·rw[e1] at elv
      cases elv
      exact fun z=>by rw[z,hD0] at e2;cases e2
     ·rw[e1] at elv
      cases elv
      exact fun z=>by rw[z,hD2] at he2;cases he2
    rw[elv]
    have hal:acc.length≤4:=by have:=Paired.length hR2;rw[List.length_take] at this;omega
    refine⟨s4 _ _ hD2,by rw[sizeLine_eq];omega,lf hj ⟨br (s2.trans s4) hD0,ae,?_⟩⟩
    rw[dr hz]
    refine Paired.snoc (hR2.mono fun l xs h1 h2=> ?_) ⟨lv,rfl,nlv,?_⟩
    ·rw[aj h1];exact s4 _ _ h2
    ·rw[aj nlv];exact hlv
   ·rintro acc H2 ⟨s2,hD2,hR2⟩
    rw[List.length_map,List.take_of_length_le (Nat.le_refl _)] at hR2
    have hal:acc.length=y.arms.length:=Paired.length hR2
    refine aq ?_
    dsimp only
    refine Kr (fun σ H'=>am H2 H'∧σ=[some (.ref A.h),some (.str ly),some (.ref tl),some (.ref fl),some (.int n),some (.str y.nm),some (.ref ar),some (.ref D),v8,v9,none]) ?A0 (fun Nn _ _ _ hJ=> ?B0)
    case B0=>
     refine⟨_,rfl,A.h,dx,_,rfl,s2 _ _ hI,rfl,_,rfl,A,n,ly,tv,trs,tk,ds,S,c,y,rfl,hS.same s2,hy,ho',fun l H3 s3 hl3 hl3'=> ?_⟩
     refine⟨_,rfl,D,rfl,⟨_,SqL.of (s3 _ _ hD2)⟩,fun D4 hD4=> ?_⟩
     have hD42:H2 D4=none:=s3.free hD4
     refine mH (K:=K) (a:=D) (xs:=acc) (fun i ac H'=>am H3 H'∧H' D4=some (.lst ac)∧ac=((cI S y).take i).map V.int) ⟨al (am.refl _) hD4,ae,rfl⟩ (fun i ac H' _ h=>SqL.of (h.1 _ _ (s3 _ _ hD2))) ?_ ?_
     ·rintro j v ac H4 hv ⟨s4,hD4',rfl⟩
      have hj:j<acc.length:=(List.getElem?_eq_some_iff.mp hv).1
      obtain⟨z,hz,l2,rfl,_,hl2⟩:=hR2.get j v hv
      have e:(cI S y)[j]? =some ((S.pl (bS y.nm z)).length:Int):=by unfold cI;rw[List.getElem?_map,hz];rfl
      refine aq (pj (cL ⟨_,rfl,_,_,rfl,.inl ⟨_,SqL.of (s4 _ _ (s3 _ _ hl2)),rfl⟩,hD4',by rw[List.length_map,List.length_take,sizeLine_eq];omega,lf hj ⟨br s4 hD4,ae,?_⟩⟩))
      rw[dr e,List.map_append,List.length_map]
      rfl
     ·rintro ac H4 ⟨s4,hD4',rfl⟩
      have hsl:(cI S y).length=y.arms.length:=by unfold cI;rw[List.length_map]
      rw[List.take_of_length_le (by omega)] at hD4'
      refine⟨D4,_,rfl,.inl ⟨SqL.of hD4',fun l5 hl5=> ?_⟩⟩
      have s5:=al (o:=.tup ((cI S y).map V.int)) s4 hl5
      refine⟨.tuple ((cI S y).map PyData.int),.tuple ((cI S y).map PyData.int),.tup (SqT.of (s5 _ _ hl3')) (mC _),.tup (SqT.of ae) (mC _),m7 _,m7 _,_,rfl,?_⟩
      rw[gA (m7 _)]
      exact bY (hJ _ _ ⟨s3.trans s5,rfl⟩)
    case A0=>
    rintro σ H3 ⟨s3,rfl⟩
    have s03:=s2.trans s3
    refine⟨_,rfl,_,y.arms.length,rfl,.inr ⟨_,am.tseq s03 har1,by simp⟩,_,rfl,by omega,by omega,?_⟩
    refine fe (lo:=0) (n:=((y.arms.length:Nat):Int).toNat) (fun i σ H'=>am H3 H'∧(Ex2 fun v8 v9=>σ=[some (.ref A.h),some (.str ly),some (.ref tl),some (.ref fl),some (.int n),some (.str y.nm),some (.ref ar),some (.ref D),v8,v9,none])) ⟨am.refl _,_,_,rfl⟩ ?_ ?_
    ·rintro j σ H4 hj ⟨s4,v8,v9,rfl⟩
     rw[show(0:Int)+(j:Int)=((j:Nat):Int) by omega]
     rw[Int.toNat_natCast] at hj
     have s04:=s03.trans s4
     obtain⟨z,hz⟩: ∃z,y.arms[j]? =some z:=⟨_,List.getElem?_eq_getElem hj⟩
     obtain⟨v,hv⟩: ∃v,acc[j]? =some v:=⟨_,List.getElem?_eq_getElem (by omega)⟩
     obtain⟨z',hz',l2,rfl,_,hl2⟩:=hR2.get j v hv
     rw[hz] at hz'
     cases hz'
     refine aq ⟨_,rfl,A.h,dx,_,rfl,s04 _ _ hI,rfl,_,rfl,_,rfl,_,rfl,ar,_,_,_,rfl,rfl,am.tseq s04 har1,ao (k:=j) (by rw[List.getElem?_map,hz];rfl),A,n,ly,tv,trs,tk,ds,S,c,y,z,rfl,hS.same s04,hy,ho',List.mem_of_getElem? hz,fun l H5 s5 hl5 hl5'=> ?_⟩
     refine aq ?_
     have hl52:=(s3.trans (s4.trans s5)) _ _ hl2
     have hlen:(S.pl (bS y.nm z)).length≤n:=qx (hO.nd _) fun p hp=>⟨(hO.in_ _ p hp).1,(hO.in_ _ p hp).2.1⟩
     refine⟨_,rfl,_,"list",_,true,rfl,.lst hl5',j7 (by decide+kernel),true,rfl,bY ?_⟩
     refine⟨_,rfl,_,rfl,_,rfl,D,_,_,_,rfl,rfl,SqL.of ((s3.trans (s4.trans s5)) _ _ hD2),ao (k:=j) hv,.list ((S.pl (bS y.nm z)).map PyData.int),.list ((S.pl (bS y.nm z)).map PyData.int),.lst (SqL.of hl5') (mC _),.lst (SqL.of hl52) (mC _),py _,py _,_,rfl,?_⟩
     rw[gA (py _)]
     refine bY (nx_ ⟨_,rfl,.inl ⟨rfl,_,SqL.of hl5'⟩,l,_,_,rfl,rfl,hl5',by rw[List.length_map,sizeLine_eq];omega,br (s4.trans s5) (s4.free hl5),_,_,rfl⟩)
    ·rintro σ H4 ⟨s4,v8,v9,rfl⟩
     exact⟨s03.trans s4,_,_,_,_,_,rfl⟩
  ·rintro σ H1 ⟨s1,v5,v6,v7,v8,v9,rfl⟩
   refine⟨_,rfl,(n:Int),rfl,by omega,by omega,?_⟩
   refine fe (lo:=0) (n:=((n:Nat):Int).toNat) (fun i σ H'=>am H H'∧ ∃v10,σ=[some (.ref A.h),some (.str ly),some (.ref tl),some (.ref fl),some (.int n),v5,v6,v7,v8,v9,v10]) ⟨s1,_,rfl⟩ ?_ ?_
   ·rintro j σ H4 hj ⟨s4,v10,rfl⟩
    rw[show(0:Int)+(j:Int)=((j:Nat):Int) by omega]
    rw[Int.toNat_natCast] at hj
    refine aq ⟨_,rfl,A.h,dx,_,rfl,s4 _ _ hI,rfl,_,rfl,_,rfl,A,n,ly,tv,trs,tk,ds,S,c,(j:Int),rfl,hS.same s4,hly,by omega,by omega,fun v H5 s5 hv=> ?_⟩
    have hL5:=hL.same (s4.trans s5)
    refine⟨_,rfl,fl,_,1,_,rfl,rfl,SqL.of hL5.fls,ao (k:=1) rfl,hl,rfl,.inl ⟨_,.inl hL5.hol⟩,_,rfl,?_⟩
    obtain⟨d,d1,d2,d3⟩:=Fu hG hO hv (hL5.own (p:=(j:Int)) (by omega) (by omega))
    refine⟨_,e8.k (k:=.inl (j:Int)) hL5.hol,d,d,d1,d2,d3,d3,_,rfl,?_⟩
    rw[gA d3]
    exact bY ⟨s4.trans s5,_,rfl⟩
   ·rintro σ H4 ⟨s4,v10,rfl⟩
    exact q H4 s4
end
theorem Dfr.kp {P:Program}{w:World}{K:PySem.W.Frag}{a:Adr}{H H':Hp}{A:HA}{n:Nat}{ly:Str}{tv:List (Key×V)}{trs:List TrS}{tk:List aW}{ds:List V}{S:AS}{c:Nat}(h:bH P w K a H A n ly tv trs tk ds S c) (f:Dfr A tv H H'):(∀b o,H b=some o→(∀kvs,o≠.dK kvs)→(∀φ,o≠.ext φ)→(∀xs,o≠.lst xs)→(∀C dx fs,o≠.ins C dx fs)→H' b=some o)∧ ∀x∈tv,∀b,x.2=.ref b→ ∃C dx fs,H b=some (.ins C dx fs):=by
 obtain⟨ow,m,h,_⟩:=h
 have tr: ∀{tv:List (Key×V)}{trs:List TrS},cS K a.bT H ly tv trs→ ∀x∈tv,∀b,x.2=.ref b→ ∃C dx fs,H b=some (.ins C dx fs):=by
  intro tv trs h
  induction h with
  |nil=>intro x hx;cases hx
  |cons r _ ih=>
   intro x hx b e
   rcases List.mem_cons.mp hx with ex |hx
   ·obtain⟨_,t',_,e2,_,_,_,_,_,e3,_⟩:=r
    rw[ex,e2] at e
    cases e
    exact⟨_,_,_,e3⟩
   ·exact ih x hx b e
 refine⟨fun b o e h1 h2 h3 h4=>f.fr b o e (fun z=> ?_) (fun z=> ?_) (fun z=> ?_) (fun x hx z=> ?_),tr h.tra⟩
 ·rw[z,h.tab.own] at e;cases e;exact h1 _ rfl
 ·rw[z,h.tab.tak] at e;cases e;exact h2 _ rfl
 ·rw[z,h.dee] at e;cases e;exact h3 _ rfl
 ·obtain⟨C,dx,fs,e2⟩:=tr h.tra x hx b z
  rw[e2] at e;cases e;exact h4 _ _ _ rfl
theorem Dfr.kpp {P:Program}{w:World}{K:PySem.W.Frag}{a:Adr}{H H':Hp}{A:HA}{n:Nat}{ly:Str}{tv:List (Key×V)}{trs:List TrS}{tk:List aW}{ds:List V}{S:AS}{c:Nat}(h:bH P w K a H A n ly tv trs tk ds S c) (f:Dfr A tv H H'):Kp H H':=
 ⟨fun u xs e=>(f.kp h).1 u _ e (fun _ z=>nomatch z) (fun _ z=>nomatch z) (fun _ z=>nomatch z) (fun _ _ _ z=>nomatch z),fun u o ⟨o',e⟩=>⟨o',(f.kp h).1 u _ e (fun _ z=>nomatch z) (fun _ z=>nomatch z) (fun _ z=>nomatch z) (fun _ _ _ z=>nomatch z)⟩⟩
theorem Dfr.lst {P:Program}{w:World}{K:PySem.W.Frag}{a:Adr}{H H':Hp}{A:HA}{n:Nat}{ly:Str}{tv:List (Key×V)}{trs:List TrS}{tk:List aW}{ds:List V}{S:AS}{c:Nat}(h:bH P w K a H A n ly tv trs tk ds S c) (f:Dfr A tv H H') {b:Addr}{xs:List V}(e:H b=some (.lst xs)) (hb:b≠A.dl):H' b=some (.lst xs):=by
 have tr:=(f.kp h).2
 obtain⟨ow,m,h,_⟩:=h
 refine f.fr b _ e (fun z=> ?_) (fun z=> ?_) hb (fun x hx z=> ?_)
 ·rw[z,h.tab.own] at e;cases e
 ·rw[z,h.tab.tak] at e;cases e
 ·obtain⟨C,dx,fs,e2⟩:=tr x hx b z
  rw[e2] at e;cases e
theorem bZ.dfr {P:Program}{w:World}{K:PySem.W.Frag}{a:Adr}{H H':Hp}{A:HA}{n:Nat}{ly:Str}{tv:List (Key×V)}{trs:List TrS}{tk:List aW}{ds:List V}{S S':AS}{c:Nat}{fl hl ld:Addr}{lo:List (Key×V)}{lk:List aW}{lm:List Pl}(L:bZ P w K H fl hl ld n lo lk lm S') (h:bH P w K a H A n ly tv trs tk ds S c) (f:Dfr A tv H H') (n1:fl≠A.dl) (n2:hl≠A.od) (n3:ld≠A.td) (n4: ∀x∈lk,x.2.2≠.ref A.dl):bZ P w K H' fl hl ld n lo lk lm S':=by
 have kp:=f.kpp h
 have tr:=(f.kp h).2
 have ls: ∀{b:Addr}{xs:List V},H b=some (.lst xs)→b≠A.dl→H' b=some (.lst xs):=fun e hb=>f.lst h e hb
 obtain⟨ow,m,h,_⟩:=h
 refine {L with fls:=ls L.fls n1,hol:=f.fr _ _ L.hol n2 (fun z=> ?_) (fun z=> ?_) (fun x hx z=> ?_),dct:=f.fr _ _ L.dct (fun z=> ?_) n3 (fun z=> ?_) (fun x hx z=> ?_),keys:=fun x hx=>bA kp (L.keys x hx),lsts:=?_,ows:=L.ows.mono fun _ _ x=>bA kp x}
 ·have e:=L.hol;rw[z,h.tab.tak] at e;cases e
 ·have e:=L.hol;rw[z,h.dee] at e;cases e
 ·obtain⟨C,dx,fs,e2⟩:=tr x hx _ z
  have e:=L.hol;rw[e2] at e;cases e
 ·have e:=L.dct;rw[z,h.tab.own] at e;cases e
 ·have e:=L.dct;rw[z,h.dee] at e;cases e
 ·obtain⟨C,dx,fs,e2⟩:=tr x hx _ z
  have e:=L.dct;rw[e2] at e;cases e
 ·have walk: ∀{tk':List aW}{m':List Pl},cF H tk' m'→(∀x∈tk',x.2.2≠.ref A.dl)→cF H' tk' m':=by
   intro tk' m' h hn
   induction h with
   |nil=>exact .nil
   |cons r t ih=>
    obtain⟨e1,e2,l,e3,e4⟩:=r
    exact .cons ⟨e1,e2,l,e3,ls e4 (fun z=>hn _ List.mem_cons_self (by rw[e3,z]))⟩ (ih fun x hx=>hn x (List.mem_cons_of_mem _ hx))
  exact walk L.lsts n4
theorem bH.keep {P:Program}{w:World}{K:PySem.W.Frag}{a:Adr}{H H':Hp}{A:HA}{n:Nat}{ly:Str}{tv:List (Key×V)}{trs:List TrS}{tk:List aW}{ds:List V}{S:AS}{c:Nat}(h:bH P w K a H A n ly tv trs tk ds S c) (kp:Kp H H') (go: ∀b o,H b=some o→(∀kvs,o≠.dK kvs)→(∀φ,o≠.ext φ)→(∀xs,o≠.lst xs)→H' b=some o)
  (gd: ∀b kvs,H b=some (.dK kvs)→b=A.ln∨b=A.iu∨b=A.tn∨b=A.od→H' b=some (.dK kvs)) (ge: ∀o,H A.td=some o→H' A.td=some o) (gl: ∀b xs,H b=some (.lst xs)→b=A.dl∨(∃x∈tk,x.2.2=.ref b)→H' b=some (.lst xs)):bH P w K a H' A n ly tv trs tk ds S c:=by
 obtain⟨ow,m,h,hS,hR,r1,r2,r3,r4⟩:=h
 refine⟨ow,m,?_,hS,hR.mono fun _ _ x=>bA kp x,r1,r2,r3,r4⟩
 obtain⟨dxT,hT⟩:=h.tab.ins
 refine {h with ins:=?_,lay:=gd _ _ h.lay (.inl rfl),lob:=?_,isd:=gd _ _ h.isd (.inr (.inl rfl)),tab:=⟨⟨dxT,go _ _ hT (fun _ z=>nomatch z) (fun _ z=>nomatch z) (fun _ z=>nomatch z)⟩,gd _ _ h.tab.own (.inr (.inr (.inr rfl))),ge _ h.tab.tak,fun x hx=>bA kp (h.tab.keys x hx),?_⟩,trd:=gd _ _ h.trd (.inr (.inr (.inl rfl))),tra:=?_,dee:=gl _ _ h.dee (.inl rfl)}
 ·obtain⟨dx,sa,ci,i⟩:=h.ins
  exact⟨dx,sa,ci,go _ _ i (fun _ z=>nomatch z) (fun _ z=>nomatch z) (fun _ z=>nomatch z)⟩
 ·obtain⟨dx,z,i⟩:=h.lob
  exact⟨dx,z,go _ _ i (fun _ z=>nomatch z) (fun _ z=>nomatch z) (fun _ z=>nomatch z)⟩
 ·have walk: ∀{tk':List aW}{m':List Pl},cF H tk' m'→(∀x∈tk',x∈tk)→cF H' tk' m':=by
   intro tk' m' h sub
   induction h with
   |nil=>exact .nil
   | @cons x y xs ys r t ih=>
    obtain⟨e1,e2,l,e3,e4⟩:=r
    exact .cons ⟨e1,e2,l,e3,gl _ _ e4 (.inr ⟨x,sub x List.mem_cons_self,e3⟩)⟩ (ih fun z hz=>sub z (List.mem_cons_of_mem _ hz))
  exact walk h.tab.lsts fun _ hx=>hx
 ·refine h.tra.mono fun t ar hm arms cl ht=> ?_
  obtain⟨dx,ru,sh,pa,ba,h1,h2⟩:=ht
  exact⟨dx,ru,sh,pa,ba,go _ _ h1 (fun _ z=>nomatch z) (fun _ z=>nomatch z) (fun _ z=>nomatch z),kp.tq h2⟩
theorem bH.fr {P:Program}{w:World}{K:PySem.W.Frag}{a:Adr}{H H':Hp}{A:HA}{n:Nat}{ly:Str}{tv:List (Key×V)}{trs:List TrS}{tk:List aW}{ds:List V}{S S':AS}{c:Nat}{fl hl ld:Addr}{lo:List (Key×V)}{lk:List aW}{lm:List Pl}(h:bH P w K a H A n ly tv trs tk ds S c) (L:bZ P w K H fl hl ld n lo lk lm S') (f:Fr hl ld lk H H') (n1: ∀b,b=A.ln∨b=A.iu∨b=A.tn∨b=A.od→b≠hl) (n2:A.td≠ld) (n3: ∀x∈lk,x.2.2≠.ref A.dl) (n4: ∀y∈tk,∀x∈lk,x.2.2≠y.2.2):bH P w K a H' A n ly tv trs tk ds S c:=by
 refine h.keep (L.kp f) (fun b o e h1 h2 h3=>f.fr b o e (fun z=> ?_) (fun z=> ?_) (fun x hx z=> ?_)) (fun b kvs e hb=>f.fr b _ e (n1 b hb) (fun z=> ?_) (fun x hx z=> ?_)) (fun o e=>f.fr _ _ e (fun z=> ?_) n2 (fun x hx z=> ?_)) (fun b xs e hb=>f.fr b _ e (fun z=> ?_) (fun z=> ?_) (fun x hx z=> ?_))
 ·rw[z,L.hol] at e;cases e;exact h1 _ rfl
 ·rw[z,L.dct] at e;cases e;exact h2 _ rfl
 ·obtain⟨l,ps,e1,e2⟩:=L.lst hx
  rw[e1] at z;cases z;rw[e2] at e;cases e;exact h3 _ rfl
 ·rw[z,L.dct] at e;cases e
 ·obtain⟨l,ps,e1,e2⟩:=L.lst hx
  rw[e1] at z;cases z;rw[e2] at e;cases e
 ·obtain⟨_,_,h,_⟩:=h
  have e:=h.tab.tak;rw[z,L.hol] at e;cases e
 ·obtain⟨_,_,h,_⟩:=h
  obtain⟨l,ps,e1,e2⟩:=L.lst hx
  have e:=h.tab.tak
  rw[e1] at z;cases z;rw[e2] at e;cases e
 ·rw[z,L.hol] at e;cases e
 ·rw[z,L.dct] at e;cases e
 ·rcases hb with rfl |⟨y,hy,ey⟩
  ·exact n3 x hx z
  ·exact n4 y hy x hx (z.trans ey.symm)
theorem bH.list {P:Program}{w:World}{K:PySem.W.Frag}{a:Adr}{H:Hp}{A:HA}{n:Nat}{ly:Str}{tv:List (Key×V)}{trs:List TrS}{tk:List aW}{ds:List V}{S:AS}{c:Nat}{b:Addr}{xs ys:List V}(h:bH P w K a H A n ly tv trs tk ds S c) (e:H b=some (.lst xs)) (n1:b≠A.dl) (n2: ∀y∈tk,y.2.2≠.ref b):bH P w K a (upd H b (.lst ys)) A n ly tv trs tk ds S c:=by
 have go: ∀c o,H c=some o→c≠b→upd H b (.lst ys) c=some o:=fun c o e hc=>by rw[aj hc];exact e
 refine h.keep (.lst e) (fun c o e2 h1 h2 h3=>go c o e2 (fun z=>by rw[z,e] at e2;cases e2;exact h3 _ rfl)) (fun c kvs e2 _=>go c _ e2 (fun z=>by rw[z,e] at e2;cases e2)) (fun o e2=>go _ _ e2 (fun z=> ?_)) (fun c zs e2 hc=>go c _ e2 (fun z=> ?_))
 ·obtain⟨_,_,h,_⟩:=h
  have e3:=h.tab.tak;rw[z,e] at e3;cases e3
 ·rcases hc with hc |⟨y,hy,ey⟩
  ·exact n1 (by rw[←z,hc])
  ·exact n2 y hy (by rw[ey,z])
theorem bZ.list {P:Program}{w:World}{K:PySem.W.Frag}{H:Hp}{fl hl ld b:Addr}{n:Nat}{lo:List (Key×V)}{lk:List aW}{lm:List Pl}{S:AS}{xs ys:List V}(L:bZ P w K H fl hl ld n lo lk lm S) (e:H b=some (.lst xs)) (n1:b≠fl) (n2: ∀x∈lk,x.2.2≠.ref b):bZ P w K (upd H b (.lst ys)) fl hl ld n lo lk lm S:=by
 have kp:Kp H (upd H b (.lst ys)):=.lst e
 refine {L with fls:=by rw[aj (Ne.symm n1)];exact L.fls,hol:=by rw[aj (fun z=>by have h:=L.hol;rw[z,e] at h;cases h)];exact L.hol,dct:=by rw[aj (fun z=>by have h:=L.dct;rw[z,e] at h;cases h)];exact L.dct,keys:=fun x hx=>bA kp (L.keys x hx),lsts:=?_,ows:=L.ows.mono fun _ _ x=>bA kp x}
 have walk: ∀{tk':List aW}{m':List Pl},cF H tk' m'→(∀x∈tk',x.2.2≠.ref b)→cF (upd H b (.lst ys)) tk' m':=by
  intro tk' m' h hn
  induction h with
  |nil=>exact .nil
  |cons r t ih=>
   obtain⟨e1,e2,l,e3,e4⟩:=r
   exact .cons ⟨e1,e2,l,e3,by rw[aj (fun z=>hn _ List.mem_cons_self (by rw[e3,z]))];exact e4⟩ (ih fun x hx=>hn x (List.mem_cons_of_mem _ hx))
 exact walk L.lsts n2
theorem EF (x:Str): ∀cs:List Str,inV (.str x) (cs.map V.str)=decide (x∈cs):=by
 intro cs
 by_cases h:x∈cs
 ·rw[EE h,decide_eq_true h]
 ·rw[decide_eq_false h]
  unfold inV
  rw[List.any_eq_false]
  intro v hv
  obtain⟨z,hz,rfl⟩:=List.mem_map.mp hv
  intro e
  have e:(x==z)=true∨(z==x)=true:=by
   first |exact .inl e |exact .inr e
  rcases e with e |e
  ·rw[eq_of_beq e] at h;exact h hz
  ·rw[←eq_of_beq e] at h;exact h hz
theorem Ng {r:Int}(h0:0≤r) (h1:r<8): ∃p:Nat,atI [V.int 2,V.int 3,V.int 5,V.int 7,V.int 11,V.int 13,V.int 7,V.int 97] r=some (.int p)∧2≤p∧p≤97∧ ∀i:Nat,2+(i:Int)<p→(p:Int)%(2+(i:Int))≠0:=by
 have key: ∀p∈[2,3,5,7,11,13,97],∀i∈List.range 95,2+(i:Int)<(p:Nat)→((p:Nat):Int)%(2+(i:Int))≠0:=by decide+kernel
 have go: ∀p∈[2,3,5,7,11,13,97],∀i:Nat,2+(i:Int)<(p:Nat)→((p:Nat):Int)%(2+(i:Int))≠0:=fun p hp i hi=>by
  refine key p hp i (List.mem_range.mpr ?_) hi
  simp at hp
  omega
 rcases(by omega:r=0∨r=1∨r=2∨r=3∨r=4∨r=5∨r=6∨r=7) with rfl |rfl |rfl |rfl |rfl |rfl |rfl |rfl
 ·exact⟨2,rfl,by decide,by decide,go 2 (by simp)⟩
 ·exact⟨3,rfl,by decide,by decide,go 3 (by simp)⟩
 ·exact⟨5,rfl,by decide,by decide,go 5 (by simp)⟩
 ·exact⟨7,rfl,by decide,by decide,go 7 (by simp)⟩
 ·exact⟨11,rfl,by decide,by decide,go 11 (by simp)⟩
 ·exact⟨13,rfl,by decide,by decide,go 13 (by simp)⟩
 ·exact⟨7,rfl,by decide,by decide,go 7 (by simp)⟩
 ·exact⟨97,rfl,by decide,by decide,go 97 (by simp)⟩
def fi (cs:List Str) (y:TrS):TrS:=⟨y.nm,y.arms,decide (y.nm∈cs)⟩
theorem BD: ∀{trs:List TrS},(∀y∈trs,qj y∧y.cl=false)→trs.map (fi [])=trs
 | [],_=>rfl
 |y::r,h=>by
  rw[List.map_cons,BD fun z hz=>h z (List.mem_cons_of_mem _ hz)]
  have e:fi [] y=y:=by
   have hc:=(h y List.mem_cons_self).2
   unfold fi
   cases y
   cases hc
   simp
  rw[e]
theorem Bs (x:Str) (cs:List Str): ∀trs:List TrS,fC x (trs.map (fi cs))=trs.map (fi (cs++[x]))
 | []=>rfl
 |y::r=>by
  have ih:=Bs x cs r
  unfold fC at ih⊢
  rw[List.map_cons,List.map_cons,List.map_cons,ih]
  congr 1
  unfold fi
  by_cases e:y.nm=x
  ·rw[if_pos e]
   have:y.nm∈cs++[x]:=List.mem_append_right _ (by rw[e];exact List.mem_singleton.mpr rfl)
   rw[decide_eq_true this]
  ·rw[if_neg e]
   have:y.nm∈cs++[x]↔y.nm∈cs:=by rw[List.mem_append,List.mem_singleton];exact⟨fun h=>h.resolve_right e,.inl⟩
   simp only[this]
theorem jr.kp {K:PySem.W.Frag}{H H':Hp}{y:TrS}{xs:List V}{W:Wl}(e:Kp H H') (h:jr K H y xs W):jr K H' y xs W:=by
 cases h with
 |share h1 h2 h3=>exact .share (e.tq h1) h2 h3
 |deal hz h1 h2 h3=>exact .deal hz (e.tq h1) h2 h3
 |close=>exact .close
theorem jr.w {K:PySem.W.Frag}{H:Hp}{y:TrS}{xs:List V}{W:Wl}(ho:qj y) (h:jr K H y xs W):GQ W∧(∀z∈W,0≤z.2)∧(W.map (·.1)).Nodup∧W.length≤5:=by
 have a4:=ho.a4
 cases h with
 |share h1 h2 h3=>exact⟨zg ho,Cg h3,Ch h2 ho.nd,by rw[tu h2];omega⟩
 | @deal z wt ws hz h1 h2 h3=>
  have e:(My.deal ws z.toNat).length=y.arms.length:=by rw[iV];exact h2
  exact⟨zg ho,Cg (EQ ws _),Ch e ho.nd,by rw[tu e];omega⟩
 |close=>exact⟨zg ho,Cg fun i hi=>by rw[List.eq_of_mem_replicate hi];exact Int.le_refl _,Ch List.length_replicate ho.nd,by rw[tu List.length_replicate];omega⟩
theorem gu.kp {K:PySem.W.Frag}{H H':Hp}{ly:Str}{trs trs':List TrS}{xs:List V}{W:Wl}{cl:Bool}(e:Kp H H') (h:gu K H ly trs xs W cl trs'):gu K H' ly trs xs W cl trs':=by
 cases h with
 |share hy h1 h2 h3=>exact .share hy (e.tq h1) h2 h3
 |deal hy hz h1 h2 h3=>exact .deal hy hz (e.tq h1) h2 h3
 |hold hz=>exact .hold hz
 |close hy=>exact .close hy
theorem jr.deedW {K:PySem.W.Frag}{H:Hp}{ly:Str}{trs:List TrS}{cs:List Str}{y:TrS}{xs:List V}{W:Wl}(hy:y∈trs) (h:jr K H y xs W):(∃k r,xs=.str k::.str y.nm::r∧k≠"hold"∧k≠"close"∧gu K H ly (trs.map (fi cs)) xs W (decide (y.nm∈cs)) (trs.map (fi cs)))∨(xs=[.str "close",.str y.nm]∧gu K H ly (trs.map (fi cs)) xs W (decide (y.nm∈cs)) (trs.map (fi (cs++[y.nm])))):=by
 have hm:fi cs y∈trs.map (fi cs):=List.mem_map.mpr ⟨y,hy,rfl⟩
 cases h with
 |share h1 h2 h3=>exact .inl ⟨_,_,rfl,by decide+kernel,by decide+kernel,.share hm h1 h2 h3⟩
 |deal hz h1 h2 h3=>exact .inl ⟨_,_,rfl,by decide+kernel,by decide+kernel,.deal hm hz h1 h2 h3⟩
 |close=>
  refine .inr ⟨rfl,?_⟩
  rw[←Bs]
  exact .close hm
theorem bH.mono {P:Program}{w:World}{K:PySem.W.Frag}{a:Adr}{H:Hp}{A:HA}{n:Nat}{ly:Str}{tv:List (Key×V)}{trs:List TrS}{tk:List aW}{ds:List V}{S:AS}{c d:Nat}(h:bH P w K a H A n ly tv trs tk ds S c) (hcd:c≤d):bH P w K a H A n ly tv trs tk ds S d:=
 let⟨ow,m,h1,h2,h3,h4,h5,h6,h7⟩:=h
 ⟨ow,m,h1,h2,h3,h4,h5,by omega,by omega⟩
section
variable {P:Program}{w:World}{K:PySem.W.Frag}{mg:Str→Option Value}{base:Heap}{a:Adr}
theorem Nw (T:Txt K mg a) (hw:w.params=a.pm):bd P w K mg base CX0 10 a.law a.so ["_law_script"] (Jd K):=by
 refine T.MB.ok dA (fun vs H Q E h=> ?_) (fun cdv A outer s H vs Q E hr h=> ?_)
 ·obtain⟨p,ns,rfl,_⟩:=h
  rfl
 ·obtain⟨sc,ns,rfl,hS,hl,q⟩:=h
  have t30:=Bo
  refine⟨_,(ag (aO (i:=1) dA.nd rfl (.inl rfl) (av ((d9 T).mono (by decide)) hr rfl T.fN T.eS.kp T.gc .nil aD (ad (pv 0) (ad ai (ad ai af)))))
 (ag (aO (i:=2) dA.nd rfl (.inl rfl) (aJ (bj K rfl) (b7 (ad ai (ad ai (ad ai (ad ai (ad ai (ad ai (ad ai (ad ai af))))))))) (aA bI (pv 1) ai) (fun _ _=>rfl)))
 (ag (aO (i:=3) dA.nd rfl (.inl rfl) (xk T.JT ((wU (P:=P) (w:=w) T).mono (by decide)) hr rfl T.LZ T.zO .nil aD (ad (pv 2) (ad (aA bI (av ((pG T).mono (by decide)) hr rfl T.rP T.oA.kp T.sE .nil aD (ad (pv 0) (ad ai af))) (aA bF (aA Cv ai ai) ai)) af))))
 (ag (aO (i:=4) dA.nd rfl (.inl rfl) (av ((yP T).mono (by decide)) hr rfl T.CM T.xo.kp T.Dw .nil aD (ad ai (ad (av ((d9 T).mono (by decide)) hr rfl T.fN T.eS.kp T.gc .nil aD (ad (pv 0) (ad ai (ad ai af)))) af))))
 (ag (aO (i:=5) dA.nd rfl (.inl rfl) (av ((Fy T).mono (by decide)) hr rfl T.HC T.BH.kp T.Iu .nil aD (ad (pv 0) af)))
 (ag (aX (bD (pv 3) T.ay T.pI ((pH (P:=P) (w:=w) T hw).mono (by decide)) hr T.sF .nil Gx (ad (cE (ad aL (ad (pv 4) (ad (aA bI (aA cH (pv 1) ai) (aA bF (pv 2) ai)) af)))) af)))
 (ag (cV PassesOwn.never rfl (ce K rfl (pv 5)) (eX K rfl rfl (bo (aF (i:=6) dA.nd rfl (.inl rfl)) (bo (aF (i:=7) dA.nd rfl (.inl rfl)) eW)))
 (ah (aX (bD (pv 3) T.ay T.pI ((pH (P:=P) (w:=w) T hw).mono (by decide)) hr T.sF .nil Gx (ad (cE (ad aL (ad (pv 6) (ad (pv 4) (ad (pv 7) (ad (cE (ad aL af)) (ad (cE af) af))))))) af)))))
 (ag (aO (i:=8) dA.nd rfl (.inl rfl) (b7 (ad ai (ad jU (ad (Ej (P:=P) (w:=w)) af)))))
 (ag (aO (i:=9) dA.nd rfl (.inl rfl) (b7 af))
 (ag (cV PassesOwn.never rfl (cK rfl T.ee (ad (az (BN rfl) (by rfl) T.Mw L2.EZ (ad (aA bF (az (aK K rfl) (by rfl) T.bK L2.aQ (ad (pv 0) af)) ai) (ad ai af))) af)) (aF (i:=10) dA.nd rfl (.inl rfl))
 (ag (aO (i:=11) dA.nd rfl (.inr rfl) (av ((JN T).mono (by decide)) hr rfl T.LX T.GG.kp T.Mc .nil aD (ad (pv 0) (ad (pv 10) (ad (pv 2) (ad (pv 4) (ad (pv 5) af)))))))
 (ag (aO (i:=12) dA.nd rfl (.inl rfl) (b7 af))
 (ag (a0 (aE bO (aJ (aB K rfl) (pv 11) ai (fun _ _=>rfl)) aL (aM _)) (ah (aO (i:=13) dA.nd rfl (.inl rfl) (b7 (ad (cE (ad (cE (ad aL (ad aL af))) (ad (aJ (aB K rfl) (pv 11) ai (fun _ _=>rfl)) af))) af)))) (ah (aO (i:=13) dA.nd rfl (.inl rfl) (av ((Fx T).mono (by decide)) hr rfl T.HB T.BG.kp T.Ir .nil aD (ad (pv 11) (ad (aJ (bj K rfl) (dw ["_law_script","_law_number","_law_prime","_law_house","_law_layer","_law_trials_here","_law_name","_law_arms","_law_floor","_law_closed","_law_k","_law_deed_here","_law_due","_law_wanted_here"] ["_law_one"] [] [14] (ak Gs) rfl rfl rfl (by decide+kernel) (by decide+kernel) (b9 14)
  (ce K rfl (pv 5)) (fun cl C s₀ H₀ ex=>⟨(aF (i:=14) (show List.Nodup ((["_law_script","_law_number","_law_prime","_law_house","_law_layer","_law_trials_here","_law_name","_law_arms","_law_floor","_law_closed","_law_k","_law_deed_here","_law_due","_law_wanted_here"]:List PySem.Str)++(["_law_one"]:List PySem.Str)) by decide+kernel) rfl (by first |exact Or.inl rfl |exact Or.inr rfl)),(xj (aE bO (aJ (aB K rfl) (pv 14) ai (fun _ _=>rfl)) (aJ (aB K rfl) (pv 11) ai (fun _ _=>rfl)) (aM _))),(aJ (aB K rfl) (pv 14) ai (fun _ _=>rfl))⟩)) ai (fun _ _=>rfl)) af))))))
 (ag (a0 (PW.pt (Jw (aE (yG K rfl) (aJ (aB K rfl) (pv 11) ai (fun _ _=>rfl)) (pv 9) (by with_unfolding_all rfl)) (Gu (aE JH (aJ (aB K rfl) (pv 11) ai (fun _ _=>rfl)) aL (aM _))))) (ah (aO (i:=12) dA.nd rfl (.inl rfl) aL)) (ah (a0 (aE Nt (av ((Hr T).mono (by decide)) hr rfl T.JZ T.EL.kp T.KG .nil aD (ad (pv 8) (ad (pv 13) (ad (pv 2) af)))) Ft (aM _)) (ah (aO (i:=12) dA.nd rfl (.inl rfl) aL)) (ah (a0 (aE bO (aJ (aB K rfl) (pv 11) ai (fun _ _=>rfl)) aL (aM _)) (ah (aX (pE K rfl PySem.F.plainAttrs_list PySem.F.slot_list_append PySem.F.type_list_append fc (pv 9) (ad (aJ (aB K rfl) (pv 11) ai (fun _ _=>rfl)) af)))) aH)))))
 (ah (a0 (PW.pt (kR (aE (xl K rfl (L4 hr)) (av ((JM T hw).mono (by decide)) hr rfl T.LW T.GF.kp T.Mb .nil aD (ad (pv 3) (ad (pv 11) af))) (pv 12) (aM _)) (gI (b0 (be K rfl (av ((Hs T).mono (by decide)) hr rfl T.J0 T.EM.kp T.KH .nil aD (ad (pv 3) (ad (pv 4) (ad (pv 5) (ad (pv 8) (ad (pv 2) af)))))) (fun _=>rfl)))))) (ah (aI mx)) aH)))))))
 (ah (aI mx)))))))))))),?_⟩
  refine Dh fun N1 R1 B1 C1 k1 _=> ?_
  refine⟨_,rfl,sc,ns,0,1,rfl,hS,hl,⟨by decide,by decide⟩,⟨by decide,by decide⟩,aq (k1 _ _ ?_)⟩
  obtain⟨x,hx⟩: ∃x,x=cR ns 0 1:=⟨_,rfl⟩
  have hx0:=(CA ns 0 1).1
  rw[←hx] at hx0⊢
  have b8:=bR x (show(0:Int)<8 by decide)
  obtain⟨n,hat,n2,n97,npr⟩:=Ng b8.1 b8.2
  refine Dh fun N2 R2 B2 C2 k2 _=> ?_
  refine⟨aC (show _≤65536 by simp),fun l1 hl1=> ?_⟩
  have s1:=al (o:=.lst [V.int 2,V.int 3,V.int 5,V.int 7,V.int 11,V.int 13,V.int 7,V.int 97]) (am.refl H) hl1
  have e1:upd H l1 (.lst [V.int 2,V.int 3,V.int 5,V.int 7,V.int 11,V.int 13,V.int 7,V.int 97]) l1=some (.lst [V.int 2,V.int 3,V.int 5,V.int 7,V.int 11,V.int 13,V.int 7,V.int 97]):=ae
  generalize upd H l1 (.lst [V.int 2,V.int 3,V.int 5,V.int 7,V.int 11,V.int 13,V.int 7,V.int 97])=H1 at s1 e1⊢
  refine⟨_,rfl,_,_,rfl,rfl,(by show(0:Int)<_;first |decide |omega),l1,_,_,_,rfl,rfl,SqL.of e1,hat,aq (k2 _ _ ?_)⟩
  have bsa:=bR (wx ns 1) (show(0:Int)<er+1 by omega)
  refine Dh fun N3 R3 B3 C3 k3 _=> ?_
  refine⟨_,rfl,_,rfl,sc,ns,1,rfl,s1.seq hS,hl,rfl,rfl,_,_,rfl,rfl,_,_,rfl,rfl,by show(0:Int)<er+1;omega,fun h dx hh hdx hne=> ?_⟩
  have f2:am H (upd (upd H1 dx (.own h)) h (.ins a.bp dx [])):=fun b o e=>by rw[aj (au (s1 _ _ e) hh),aj (au (s1 _ _ e) hdx)];exact s1 _ _ e
  have hb2:upd (upd H1 dx (.own h)) h (.ins a.bp dx []) h=some (.ins a.bp dx []):=ae
  have nhh:H h=none:=s1.free hh
  generalize upd (upd H1 dx (.own h)) h (.ins a.bp dx [])=H2 at f2 hb2⊢
  refine⟨h,dx,(n:Int),wx ns 1%(er+1),rfl,hb2,⟨by omega,by omega⟩,npr,⟨by omega,by omega⟩,fun ln tn ci dl H3 hln htn hci hdl nlt nlc ntc f3 hI3 hln3 htn3 hci3 hdl3=>⟨rfl,aq (k3 _ _ ?_)⟩⟩
  have s3:am H H3:=fun b o e=>f3 b o (f2 b o e) (fun z=>by rw[z,nhh] at e;cases e)
  have Nln:=f2.free hln
  have Ntn:=f2.free htn
  have Ndl:=f2.free hdl
  refine Dh fun N4 R4 B4 C4 k4 _=> ?_
  refine⟨_,rfl,sc,ns,1,2,rfl,s3.seq hS,hl,⟨by decide,by decide⟩,⟨by decide,by decide⟩,3,cR ns 1 2,rfl,fun H4 s4=>aq (k4 _ _ ?_)⟩
  obtain⟨ly,ely⟩: ∃ly,ly=fB 3 (cR ns 1 2):=⟨_,rfl⟩
  have hly:Wd ly:=by rw[ely];exact xG _ _
  rw[←ely]
  refine Dh fun N5 R5 B5 C5 k5 _=> ?_
  refine⟨_,rfl,sc,ns,rfl,(s3.trans s4).seq hS,hl,fun tl ts H5 s5 htl htl5 hts5=>aq (k5 _ _ ?_)⟩
  have s45:=s4.trans s5
  have s05:=s3.trans s45
  have Ntl:tl≠dl:=fun z=>by rw[z,s4 _ _ hdl3] at htl;cases htl
  have bz:=bR (x/8) (show(0:Int)<(n:Int)+1 by omega)
  obtain⟨tlen,tl1,tl3⟩:=xI ns
  have tnd:=K3 ns
  have tmem: ∀y∈rs ns,qj y∧y.cl=false:=fun y hy=>IP hy
  generalize rs ns=trs0 at hts5 tlen tl1 tl3 tnd tmem
  clear tlen
  have etl:ts.length=trs0.length:=Paired.length hts5
  dsimp only
  refine Kr (fun σ H'=>am H H'∧(Ex3 fun(A:HA) (r:Addr) (d:V)=>An9 (A.h=h) (A.tn=tn) (A.dl=dl) (H A.od=none) (H A.td=none) (H' tl=some (.lst ts)) (qC K H' ts trs0) (bH P w K a H' A n ly [] [] [] [d] AS.new 0) (σ=[some (.ref sc),some (.int x),some (.int n),some (.ref h),some (.str ly),some (.ref tl),none,none,none,none,none,none,none,none]))) ?A0 (fun Nn _ _ _ hJ=> ?B0)
  case B0=>
   refine⟨_,rfl,h,dx,_,rfl,s45 _ _ hI3,rfl,_,rfl,_,rfl,_,_,rfl,rfl,⟨by decide,by decide⟩,_,rfl,_,_,rfl,rfl,_,_,rfl,rfl,by show(0:Int)<(n:Int)+1;omega,aC (show _≤65536 by simp),fun d hd=> ?_⟩
   have s6:=al (o:=.tup [.str "layer",.str ly,.int (x/8%((n:Int)+1))]) s45 hd
   have e6:upd H5 d (.tup [.str "layer",.str ly,.int (x/8%((n:Int)+1))]) d=some (.tup [.str "layer",.str ly,.int (x/8%((n:Int)+1))]):=ae
   have s56:=al (o:=.tup [.str "layer",.str ly,.int (x/8%((n:Int)+1))]) (am.refl H5) hd
   show Jf P w K a [.ref h,.ref d] (upd H5 d (.tup [.str "layer",.str ly,.int (x/8%((n:Int)+1))])) _ _
   generalize upd H5 d (.tup [.str "layer",.str ly,.int (x/8%((n:Int)+1))])=H6 at s6 e6 s56⊢
   refine⟨h,d,rfl,.inl ⟨ly,_,dx,ln,tn,dl,_,_,n,[],SqT.of e6,s6 _ _ hI3,s6 _ _ hln3,s6 _ _ htn3,nlt,s6 _ _ hdl3,by decide,hly,⟨bz.1,by omega⟩,by omega,fun A r H7 hA hAs f7 hS7=> ?_⟩⟩
   obtain⟨a1,a2,a3,a4,a5,a6⟩:=hAs
   have s06:=s3.trans s6
   have s07:am H H7:=fun b o e=>f7 b o (s06 b o e) (fun z=>by rw[z,Nln] at e;cases e) (fun z=>by rw[z,Ndl] at e;cases e)
   have kp7:Kp H6 H7:=⟨fun u xs e=>f7 u _ e (fun z=>by rw[z,s6 _ _ hln3] at e;cases e) (fun z=>by rw[z,s6 _ _ hdl3] at e;cases e),fun u o ⟨o',e⟩=>⟨o',f7 u _ e (fun z=>by rw[z,s6 _ _ hln3] at e;cases e) (fun z=>by rw[z,s6 _ _ hdl3] at e;cases e)⟩⟩
   exact hJ _ _ ⟨s07,A,r,.ref d,hA,a2,a3,s06.free a4,s06.free a5,f7 _ _ (s56 _ _ htl5) (fun z=>by rw[z,s45 _ _ hln3] at htl5;cases htl5) Ntl,(hts5.kp (.of s56)).kp kp7,hS7,rfl⟩
  case A0=>
  rintro σ H7 ⟨s7,A,r7,d7,rfl,rfl,rfl,Nod,Ntd,htl7,hts7,hS7,rfl⟩
  refine Kr (fun σ H'=>am H H'∧(Ex2 fun(tv:List (Key×V)) (ds:List V)=>An6 (H' tl=some (.lst ts)) (qC K H' ts trs0) (bH P w K a H' A n ly tv trs0 [] ds AS.new 0) (ds.length≤4) ((∀y∈tv,∀b,y.2=.ref b→H b=none)) (Ex2 fun v6 v7=>σ=[some (.ref sc),some (.int x),some (.int n),some (.ref A.h),some (.str ly),some (.ref tl),v6,v7,none,none,none,none,none,none]))) ?A1 (fun Nn _ _ _ hJ=> ?B1)
  case B1=>
   refine⟨_,rfl,tl,rfl,⟨_,SqL.of htl7⟩,?_⟩
   refine eC (xs:=ts) (fun i σ H'=>am H H'∧(Ex2 fun(tv:List (Key×V)) (ds:List V)=>An7 (H' tl=some (.lst ts)) (qC K H' ts trs0) (bH P w K a H' A n ly tv (trs0.take i) [] ds AS.new 0) (tv.length=i) (ds.length=i+1) ((∀y∈tv,∀b,y.2=.ref b→H b=none)) (Ex2 fun v6 v7=>σ=[some (.ref sc),some (.int x),some (.int n),some (.ref A.h),some (.str ly),some (.ref tl),v6,v7,none,none,none,none,none,none])))
    ⟨s7,[],[d7],htl7,hts7,hS7,rfl,rfl,fun y hy=>(nomatch hy),_,_,rfl⟩ (fun i σ H' _ h=>by obtain⟨_,_,_,h,_⟩:=h;exact SqL.of h) ?_ ?_
   ·rintro i v σ H8 hv ⟨s8,tv,ds,htl8,hts8,hS8,htvl,hdsl,hnew,v6,v7,rfl⟩
    obtain⟨y,hy,b,ar,rfl,hb,har⟩:=hts8.get i v hv
    have hi:i<ts.length:=(List.getElem?_eq_some_iff.mp hv).1
    obtain⟨ho,hcl⟩:=tmem y (List.mem_of_getElem? hy)
    obtain⟨dx8,sa8,ci8,hI8⟩:=hS8.ih
    refine⟨b,_,rfl,hb,rfl,_,_,rfl,aq ⟨_,_,rfl,aq ⟨rfl,?_⟩⟩⟩
    refine⟨_,rfl,A.h,dx8,_,rfl,hI8,rfl,_,rfl,_,rfl,_,rfl,?_⟩
    refine⟨aC (show _≤65536 by simp),fun ru hru=>⟨aC (show _≤65536 by simp),fun sh hsh=>⟨aC (show _≤65536 by simp),fun d hd=> ?_⟩⟩⟩
    have s9:=al (o:=.tup [.str "trial",.str y.nm,.str ly,.ref ar,.ref ru,.ref sh]) (al (o:=.tup []) (al (o:=.tup [.str "any"]) (am.refl H8) hru) hsh) hd
    have e9:upd (upd (upd H8 ru (.tup [.str "any"])) sh (.tup [])) d (.tup [.str "trial",.str y.nm,.str ly,.ref ar,.ref ru,.ref sh]) d=some (.tup [.str "trial",.str y.nm,.str ly,.ref ar,.ref ru,.ref sh]):=ae
    have esh:upd (upd (upd H8 ru (.tup [.str "any"])) sh (.tup [])) d (.tup [.str "trial",.str y.nm,.str ly,.ref ar,.ref ru,.ref sh]) sh=some (.tup []):=by rw[aj (au ae hd)];exact ae
    have eru:upd (upd (upd H8 ru (.tup [.str "any"])) sh (.tup [])) d (.tup [.str "trial",.str y.nm,.str ly,.ref ar,.ref ru,.ref sh]) ru=some (.tup [.str "any"]):=by
     have h1:upd (upd H8 ru (.tup [.str "any"])) sh (.tup []) ru=some (.tup [.str "any"]):=by rw[aj (au ae hsh)];exact ae
     rw[aj (au h1 hd)];exact h1
    show Jf P w K a [.ref A.h,.ref d] (upd (upd (upd H8 ru (.tup [.str "any"])) sh (.tup [])) d (.tup [.str "trial",.str y.nm,.str ly,.ref ar,.ref ru,.ref sh])) _ _
    generalize upd (upd (upd H8 ru (.tup [.str "any"])) sh (.tup [])) d (.tup [.str "trial",.str y.nm,.str ly,.ref ar,.ref ru,.ref sh])=H9 at s9 e9 esh eru⊢
    have hnot:y.nm∉(trs0.take i).map (·.nm):=fun z=>by
     rw[List.map_take] at z
     obtain⟨j,hj⟩:=List.mem_iff_getElem?.mp z
     have hji:j<i:=by have:=(List.getElem?_eq_some_iff.mp hj).1;rw[List.length_take] at this;omega
     rw[List.getElem?_take_of_lt hji] at hj
     have hi2:(trs0.map (·.nm))[i]? =some y.nm:=by rw[List.getElem?_map,hy];rfl
     have:=(List.getElem?_inj (List.getElem?_eq_some_iff.mp hj).1 tnd).mp (hj.trans hi2.symm)
     omega
    refine⟨A.h,d,rfl,.inr (.inl ⟨A,n,ly,tv,trs0.take i,[],ds,AS.new,0,y.nm,ar,ru,sh,y.arms,rfl,SqT.of e9,hS8.same s9,ho.wd,hly,am.tseq s9 har,ho.aw,ho.nd,ho.a1,ho.a4,SqT.of eru,SqT.of esh,hnot,by omega,by omega,fun t r H10 ht f10 hS10=> ?_⟩)⟩
    have s09:=s8.trans s9
    obtain⟨_,_,hH9,_⟩:=hS8.same s9
    have kp10:Kp H9 H10:=⟨fun u xs e=>f10 u _ e (fun z=>by rw[z,hH9.trd] at e;cases e) (fun z=>by rw[z,hH9.dee] at e;cases e),fun u o ⟨o',e⟩=>⟨o',f10 u _ e (fun z=>by rw[z,hH9.trd] at e;cases e) (fun z=>by rw[z,hH9.dee] at e;cases e)⟩⟩
    have ey:(⟨y.nm,y.arms,false⟩:TrS)=y:=by cases y;cases hcl;rfl
    rw[ey,←dr hy] at hS10
    refine⟨fun b o e=>f10 b o (s09 b o e) (fun z=>by rw[z,Ntn] at e;cases e) (fun z=>by rw[z,Ndl] at e;cases e),tv++[(.inr y.nm,.ref t)],ds++[.ref d],f10 _ _ (s9 _ _ htl8) (fun z=>by rw[z] at htl8;have e:=s9 _ _ htl8;rw[hH9.trd] at e;cases e) Ntl,(hts8.kp (.of s9)).kp kp10,hS10,by rw[List.length_append,htvl];rfl,by rw[List.length_append,hdsl];rfl,fun z hz b e=> ?_,_,_,rfl⟩
    rcases List.mem_append.mp hz with hz |hz
    ·exact hnew z hz b e
    ·rw[List.mem_singleton.mp hz] at e
     cases e
     exact s09.free ht
   ·rintro σ H8 ⟨s8,tv,ds,htl8,hts8,hS8,htvl,hdsl,hnew,v6,v7,rfl⟩
    rw[etl,List.take_of_length_le (Nat.le_refl _)] at hS8
    exact hJ _ _ ⟨s8,tv,ds,htl8,hts8,hS8,by omega,hnew,_,_,rfl⟩
  case A1=>
  rintro σ H8 ⟨s8,tv,ds0,htl8,hts8,hS8,hdsl,hnew,v6,v7,rfl⟩
  refine Dh fun N6 R6 B6 C6 k6 _=> ?_
  refine fun hd1 hhd1=>fun hd2 hhd2=>⟨aC (show _≤65536 by simp),fun fl hfl=>aq (k6 _ _ ?_)⟩
  have s9:=al (o:=.lst [.int 0,.ref hd1,.ref hd2]) (al (o:=dM P w hd2 []) (al (o:=.dK []) (am.refl H8) hhd1) hhd2) hfl
  have e9f:upd (upd (upd H8 hd1 (.dK [])) hd2 (dM P w hd2 [])) fl (.lst [.int 0,.ref hd1,.ref hd2]) fl=some (.lst [.int 0,.ref hd1,.ref hd2]):=ae
  have e92:upd (upd (upd H8 hd1 (.dK [])) hd2 (dM P w hd2 [])) fl (.lst [.int 0,.ref hd1,.ref hd2]) hd2=some (dM P w hd2 []):=by rw[aj (au ae hfl)];exact ae
  have e91:upd (upd (upd H8 hd1 (.dK [])) hd2 (dM P w hd2 [])) fl (.lst [.int 0,.ref hd1,.ref hd2]) hd1=some (.dK []):=by
   have h1:upd (upd H8 hd1 (.dK [])) hd2 (dM P w hd2 []) hd1=some (.dK []):=by rw[aj (au ae hhd2)];exact ae
   rw[aj (au h1 hfl)];exact h1
  have Nhd2:H8 hd2=none:=dC hhd2
  have Nfl:H8 fl=none:=dC (dC hfl)
  generalize upd (upd (upd H8 hd1 (.dK [])) hd2 (dM P w hd2 [])) fl (.lst [.int 0,.ref hd1,.ref hd2])=H9 at s9 e9f e92 e91⊢
  refine Dh fun N7 R7 B7 C7 k7 _=> ?_
  refine⟨aC (show _≤65536 by simp),fun cl hcl=>aq (k7 _ _ ?_)⟩
  have s10:=al (o:=.lst []) (am.refl H9) hcl
  have ecl:upd H9 cl (.lst []) cl=some (.lst []):=ae
  have Ncl:H8 cl=none:=s9.free hcl
  have ncf:cl≠fl:=fun z=>by rw[z,e9f] at hcl;cases hcl
  generalize upd H9 cl (.lst [])=H10 at s10 ecl⊢
  have s8a:=s9.trans s10
  have hL10:bZ P w K H10 fl hd1 hd2 n [] [] [] AS.new:=⟨s10 _ _ e9f,s10 _ _ e91,List.nodup_nil,fun x hx=>(nomatch hx),s10 _ _ e92,fun x hx=>(nomatch hx),.nil,List.nodup_nil,List.nodup_nil,fun x hx=>(nomatch hx),fun k=>rfl,fun p _ _=>rfl,fun p v _ _ e=>(nomatch e)⟩
  obtain⟨ow8,m8,hH8,_⟩:=id hS8
  have some8: ∀{b c:Addr}{o:HO},H8 b=some o→H8 c=none→b≠c:=fun e1 e2 z=>by rw[z,e2] at e1;cases e1
  have hsc:=(s8.trans s8a).seq hS
  obtain⟨mm,emm,mm0,mm50⟩: ∃mm:Int,mm=(if(50:Int)<(ns.length:Int)+4 then 50 else(ns.length:Int)+4)∧0≤mm∧mm≤50:=⟨_,rfl,by split<;>omega,by split<;>omega⟩
  refine⟨_,rfl,_,ns.length,rfl,.inl ⟨_,hsc,by simp⟩,_,_,rfl,rfl,_,_,rfl,?_⟩
  rw[←emm]
  refine⟨_,rfl,by omega,by omega,?_⟩
  refine fe (lo:=0) (n:=mm.toNat) (fun i σ H'=>(am H H'∧ ∀b,H' b=none→H8 b=none)∧(Ex7 fun(tk:List aW) (ds:List V) (S:AS) (lo:List (Key×V)) (lk:List aW) (lm:List Pl) (cs:List Str)=>P1 (bH P w K a H' A n ly tv (trs0.map (fi cs)) tk ds S i) (bZ P w K H' fl hd1 hd2 n lo lk lm S) (dS S) (H' tl=some (.lst ts)) (qC K H' ts trs0) (H' cl=some (.lst (cs.map V.str))) ((∀x∈lk,∀l,x.2.2=.ref l→H8 l=none∧l≠cl)) ((∀y∈tk,y.2.2≠.ref cl∧ ∀x∈lk,x.2.2≠y.2.2)) (lk.length≤5*i) (cs.length≤i) (ds.length≤4+i) (Ex6 fun v6 v7 v10 v11 v12 v13=>σ=[some (.ref sc),some (.int x),some (.int n),some (.ref A.h),some (.str ly),some (.ref tl),v6,v7,some (.ref fl),some (.ref cl),v10,v11,v12,v13])))
   ⟨⟨s8.trans s8a,fun b e=>s8a.free e⟩,[],ds0,AS.new,[],[],[],[],by rw[BD tmem];exact hS8.same s8a,hL10,dS.new,s8a _ _ htl8,hts8.kp (.of s8a),ecl,fun x hx=>(nomatch hx),fun y hy=>(nomatch hy),Nat.le_refl _,Nat.le_refl _,hdsl,_,_,_,_,_,_,rfl⟩ ?_ ?_
  ·rintro i σ H11 hi ⟨⟨s11,dm11⟩,tk,ds,S,lo,lk,lm,cs,hS11,hL11,hG,htl11,hts11,hcl11,hlkN,hsep,hlkl,hcsl,hdsl2,v6,v7,v10,v11,v12,v13,rfl⟩
   rw[show(0:Int)+(i:Int)=((i:Nat):Int) by omega]
   have hi50:i<50:=by omega
   refine aq (Dh fun N8 R8 B8 C8 k8 _=> ?_)
   refine⟨_,rfl,_,rfl,_,rfl,_,rfl,_,rfl,sc,tl,ns,i,n,ly,ts,trs0,rfl,s11.seq hS,hl,by omega,⟨n2,by omega⟩,htl11,hts11,fun y hy=>(tmem y hy).1,tl1,tl3,fun d xs H12 s12 hd hcase=>aq (k8 _ _ ?_)⟩
   refine Dh fun N9 R9 B9 C9 k9 _=> ?_
   refine⟨aC (show _≤65536 by simp),fun e0 he0=>aq (k9 _ _ ?_)⟩
   have s13:=al (o:=.lst []) s12 he0
   have s123:=al (o:=.lst []) (am.refl H12) he0
   have ee0:upd H12 e0 (.lst []) e0=some (.lst []):=ae
   have Ne0:H11 e0=none:=s12.free he0
   generalize upd H12 e0 (.lst [])=H13 at s13 s123 ee0⊢
   have hd13:=am.tseq s123 hd
   have hc13:(∃z,xs=[.str "hold",.str ly,.int z]∧0≤z)∨ ∃y∈trs0,∃W,jr K H13 y xs W:=by
    rcases hcase with h |⟨y,hy,W,h⟩
    ·exact .inl h
    ·exact .inr ⟨y,hy,W,h.kp (.of s123)⟩
   clear hcase
   dsimp only
   refine Kr (fun σ H'=>am H13 H'∧(Ex3 fun(wl:Addr) (ws:List V) (W:Wl)=>An5 (H13 wl=none) (H' wl=some (.lst ws)) (WAt K H' ws W) (((∃z,xs=[.str "hold",.str ly,.int z]∧0≤z∧W=[(kT,z)])∨ ∃y∈trs0,jr K H13 y xs W)) (σ=[some (.ref sc),some (.int x),some (.int n),some (.ref A.h),some (.str ly),some (.ref tl),v6,v7,some (.ref fl),some (.ref cl),some (.int i),some (.ref d),some (.ref e0),some (.ref wl)]))) ?A2 (fun N2 _ _ _ hJ2=> ?B2)
   case B2=>
    rcases hc13 with⟨z,rfl,z0⟩ |⟨y,hy,W,hWK⟩
    ·refine⟨_,rfl,d,_,0,_,rfl,rfl,hd13,ao (k:=0) rfl,rfl,_,rfl,cT ?_⟩
     refine⟨aC (show _≤65536 by simp),fun T1 hT1=> ?_⟩
     have s14:=al (o:=.tup [.str "",.str ""]) (am.refl H13) hT1
     have e1:upd H13 T1 (.tup [.str "",.str ""]) T1=some (.tup [.str "",.str ""]):=ae
     generalize upd H13 T1 (.tup [.str "",.str ""])=H14 at s14 e1⊢
     refine⟨_,rfl,d,_,2,_,rfl,rfl,am.tseq s14 hd13,ao (k:=2) rfl,aC (show _≤65536 by simp),fun T2 hT2=>⟨aC (show _≤65536 by simp),fun wl hwl=>aq ?_⟩⟩
     have s16:=al (o:=.lst [.ref T2]) (al (o:=.tup [.ref T1,.int z]) (am.refl H14) hT2) hwl
     have e2:upd (upd H14 T2 (.tup [.ref T1,.int z])) wl (.lst [.ref T2]) T2=some (.tup [.ref T1,.int z]):=by rw[aj (au ae hwl)];exact ae
     exact hJ2 _ _ ⟨s14.trans s16,wl,[.ref T2],[(kT,z)],s14.free (dC hwl),ae,.cons ⟨T2,.ref T1,rfl,SqT.of e2,T1,rfl,SqT.of (s16 _ _ e1)⟩ .nil,.inl ⟨z,rfl,z0,rfl⟩,rfl⟩
    ·obtain⟨kk,rr,rfl,hkk⟩:=hWK.name
     refine⟨_,rfl,d,_,0,_,rfl,rfl,hd13,ao (k:=0) rfl,rfl,_,rfl,aR hkk ?_⟩
     have htl13:=s13 _ _ htl11
     have hts13:=hts11.kp (.of s13)
     obtain⟨jy,hjy⟩:=List.mem_iff_getElem?.mp hy
     have hjl:=(List.getElem?_eq_some_iff.mp hjy).1
     refine⟨_,rfl,_,rfl,tl,rfl,⟨_,SqL.of htl13⟩,fun D hD=> ?_⟩
     refine mH (K:=K) (a:=tl) (xs:=ts) (fun j acc H'=>am H13 H'∧H' D=some (.lst acc)∧((j≤jy∧acc=[])∨(jy<j∧ ∃ar,acc=[.ref ar]∧SqT K H13 ar (y.arms.map V.str)))) ⟨al (am.refl _) hD,ae,.inl ⟨Nat.zero_le _,rfl⟩⟩ (fun j acc H' _ h=>SqL.of (h.1 _ _ htl13)) ?_ ?_
     ·rintro j v acc H14 hv ⟨s14,hD14,hacc⟩
      have hj:j<ts.length:=(List.getElem?_eq_some_iff.mp hv).1
      obtain⟨yj,hyj,b,ar,rfl,hb,har⟩:=hts13.get j v hv
      have hd14:=am.tseq s14 hd13
      refine aq ⟨_,rfl,b,_,0,_,rfl,rfl,am.tseq s14 hb,ao (k:=0) rfl,_,rfl,d,_,1,_,rfl,rfl,hd14,ao (k:=1) rfl,rfl,_,rfl,?_⟩
      have hacl:acc.length≤1:=by rcases hacc with⟨_,rfl⟩ |⟨_,_,rfl,_⟩<;>simp
      refine NN (fun e=> ?_) (fun e=> ?_)
      ·have ej:j=jy:=by
        have h1:(trs0.map (·.nm))[j]? =some y.nm:=by rw[List.getElem?_map,hyj,←e];rfl
        have h2:(trs0.map (·.nm))[jy]? =some y.nm:=by rw[List.getElem?_map,hjy];rfl
        exact(List.getElem?_inj (List.getElem?_eq_some_iff.mp h1).1 tnd).mp (h1.trans h2.symm)
       subst ej
       rw[hjy] at hyj
       cases hyj
       rcases hacc with⟨_,rfl⟩ |⟨h,_⟩
       case inr=>omega
       exact⟨_,rfl,b,_,1,_,rfl,rfl,am.tseq s14 hb,ao (k:=1) rfl,hD14,by rw[sizeLine_eq];decide,lf hj ⟨br s14 hD,ae,.inr ⟨by omega,ar,rfl,har⟩⟩⟩
      ·refine lf hj ⟨s14,hD14,?_⟩
       have ej:j≠jy:=fun z=>by
        subst z
        rw[hjy] at hyj
        cases hyj
        exact e rfl
       rcases hacc with⟨h,rfl⟩ |⟨h,h2⟩
       ·exact .inl ⟨by omega,rfl⟩
       ·exact .inr ⟨by omega,h2⟩
     ·rintro acc H14 ⟨s14,hD14,hacc⟩
      rcases hacc with⟨h,_⟩ |⟨_,ar,rfl,har⟩
      case inl=>omega
      refine⟨D,_,0,_,rfl,rfl,SqL.of hD14,ao (k:=0) rfl,d,ar,y,_,W,rfl,am.tseq s14 hd13,am.tseq s14 har,(tmem y hy).1,hWK.kp (.of s14),fun wl ws H15 s15 hwl hwl15 hws=>aq (hJ2 _ _ ⟨s14.trans s15,wl,ws,W,s14.free hwl,hwl15,hws,.inr ⟨y,hy,hWK⟩,rfl⟩)⟩
   case A2=>
   clear hc13
   rintro σ H14 ⟨s14,wl,ws,W,Nwl,hwl14,hws,hWc,rfl⟩
   have s1114:=s13.trans s14
   have hS14:=hS11.same s1114
   have hL14:=hL11.same s1114
   have hcl14:=s1114 _ _ hcl11
   have hd14:=am.tseq s14 hd13
   have he14:=s14 _ _ ee0
   have htl14:=s1114 _ _ htl11
   have hts14:=hts11.kp (.of s1114)
   have hOk:S.Ok n:=hS14.ok
   have hWg:GQ W∧(∀z∈W,0≤z.2)∧(W.map (·.1)).Nodup∧W.length≤5:=by
    rcases hWc with⟨z,_,z0,rfl⟩ |⟨y,hy,h⟩
    ·exact⟨fun u hu=>by rw[List.mem_singleton.mp hu];exact⟨"","",rfl,by decide+kernel,by decide+kernel⟩,fun u hu=>by rw[List.mem_singleton.mp hu];exact z0,by simp,by simp⟩
    ·exact h.w (tmem y hy).1
   obtain⟨hWG,hW0,hWn,hW5⟩:=hWg
   have nlkw: ∀x∈lk,x.2.2≠.ref wl:=fun z hz e=>by
    obtain⟨l,ps,e1,e2⟩:=(hL11.same s13).lst hz
    rw[e1] at e
    cases e
    rw[Nwl] at e2
    cases e2
   have hDW: ∃(k0 nmx:Str) (r:List V) (b:Bool) (cs1:List Str),xs=.str k0::.str nmx::r∧gu K H14 ly (trs0.map (fi cs)) xs W b (trs0.map (fi cs1))∧(b=true↔(nmx∈cs∧k0≠"hold"))∧((k0≠"close"∧cs1=cs)∨(k0="close"∧cs1=cs++[nmx])):=by
    rcases hWc with⟨z,rfl,z0,rfl⟩ |⟨y,hy,h⟩
    ·exact⟨"hold",ly,_,false,cs,rfl,.hold z0,⟨fun h=>(nomatch h),fun h=>absurd rfl h.2⟩,.inl ⟨by decide+kernel,rfl⟩⟩
    ·rcases(h.kp (.of s14)).deedW (ly:=ly) (cs:=cs) hy with⟨k0,r,rfl,h1,h2,h3⟩ |⟨rfl,h3⟩
     ·exact⟨k0,y.nm,r,_,cs,rfl,h3,⟨fun h=>⟨of_decide_eq_true h,h1⟩,fun h=>decide_eq_true h.1⟩,.inl ⟨h2,rfl⟩⟩
     ·exact⟨"close",y.nm,[],_,cs++[y.nm],rfl,h3,⟨fun h=>⟨of_decide_eq_true h,by decide+kernel⟩,fun h=>decide_eq_true h.1⟩,.inr ⟨rfl,rfl⟩⟩
   obtain⟨k0,nmx,rr,b,cs1,rfl,hDW,hb,hk0⟩:=hDW
   clear hWc
   refine Kr (fun σ H'=>An8 ((am H H'∧ ∀b,H' b=none→H8 b=none)) (bH P w K a H' A n ly tv (trs0.map (fi cs)) tk ds S i) (H' tl=some (.lst ts)) (qC K H' ts trs0) (H' e0=some (.lst [])) (SqT K H' d (.str k0::.str nmx::rr)) (gu K H' ly (trs0.map (fi cs)) (.str k0::.str nmx::rr) W b (trs0.map (fi cs1))) (Ex6 fun(S':AS) (lo':List (Key×V)) (lk':List aW) (lm':List Pl) (cs':List Str) (dv:V)=>An8 (bZ P w K H' fl hd1 hd2 n lo' lk' lm' S') (H' cl=some (.lst (cs'.map V.str))) ((∀x∈lk',∀l,x.2.2=.ref l→H8 l=none∧l≠cl)) ((∀y∈tk,∀x∈lk',x.2.2≠y.2.2)) (lk'.length≤5*(i+1)) (cs'.length≤i+1) (((b=true∧S'=S∧cs'=cs∧dv=.str "closed")∨(b=false∧((frl n S.oc).length:Int)<bf S W∧S'=S∧cs'=cs∧dv=.str "room")∨(b=false∧bf S W≤((frl n S.oc).length:Int)∧S'=aS n (aV S W) W∧cs'=cs1∧dv=.ref e0))) (σ=[some (.ref sc),some (.int x),some (.int n),some (.ref A.h),some (.str ly),some (.ref tl),v6,v7,some (.ref fl),some (.ref cl),some (.int i),some (.ref d),some dv,some (.ref wl)]))) ?A3 (fun N3 _ _ _ hJ3=> ?B3)
   case B3=>
    have s014:=s11.trans s1114
    have dm14: ∀b,H14 b=none→H8 b=none:=fun b e=>dm11 b (s1114.free e)
    cases b with
    |true=>
     obtain⟨hm,hk⟩:=hb.mp rfl
     refine⟨_,rfl,d,_,1,_,rfl,rfl,hd14,ao (k:=1) rfl,_,rfl,cl,_,rfl,.inl (SqL.of hcl14),rfl,qr cs,_,rfl,?_⟩
     rw[EF,decide_eq_true hm]
     refine cL ⟨_,rfl,d,_,0,_,rfl,rfl,hd14,ao (k:=0) rfl,rfl,_,rfl,?_⟩
     rw[Pi,decide_eq_false hk]
     refine cL ?_
     exact hJ3 _ _ ⟨⟨s014,dm14⟩,hS14,htl14,hts14,he14,hd14,hDW,S,lo,lk,lm,cs,.str "closed",hL14,hcl14,hlkN,fun y hy=>(hsep y hy).2,by omega,by omega,.inl ⟨rfl,rfl,rfl,rfl⟩,rfl⟩
    |false=>
     have hnb: ¬(nmx∈cs∧k0≠"hold"):=fun h=>(nomatch hb.mpr h)
     refine Kh ?els (fun U hU=> ?tst)
     case tst=>
      refine⟨_,rfl,d,_,1,_,rfl,rfl,hd14,ao (k:=1) rfl,_,rfl,cl,_,rfl,.inl (SqL.of hcl14),rfl,qr cs,_,rfl,?_⟩
      rw[EF]
      by_cases hm:nmx∈cs
      ·rw[decide_eq_true hm]
       have hk:k0="hold":=Classical.byContradiction fun z=>hnb ⟨hm,z⟩
       refine cL ⟨_,rfl,d,_,0,_,rfl,rfl,hd14,ao (k:=0) rfl,rfl,_,rfl,?_⟩
       rw[Pi,decide_eq_true hk]
       exact bY hU
      ·rw[decide_eq_false hm]
       exact bY hU
     case els=>
     refine⟨_,rfl,_,rfl,_,rfl,fl,hd1,hd2,wl,n,lo,lk,lm,S,W,ws,rfl,hL14,hOk,hwl14,nlkw,hws,hW0,hWn,hW5,by omega,by omega,fun hle l lo' lk' lm' H15 f15 nw15 hL15 hlen=> ?_,fun hlt H15 s15=> ?_⟩
     ·refine⟨rfl,_,rfl,bY ?_⟩
      have Nhd1:H8 hd1=none:=hhd1
      obtain⟨ow14,m14,hH14,_⟩:=id hS14
      have lks: ∀{b:Addr}{xs:List V},H14 b=some (.lst xs)→(∀x∈lk,x.2.2≠.ref b)→H15 b=some (.lst xs):=fun {b xs} e hb=>f15.fr b _ e (fun z=>by rw[z,hL14.hol] at e;cases e) (fun z=>by rw[z,hL14.dct] at e;cases e) hb
      have hS15:bH P w K a H15 A n ly tv (trs0.map (fi cs)) tk ds S i:=by
       refine hS14.fr hL14 f15 (fun b hb=> ?_) (some8 hH8.tab.tak Nhd2) (fun z hz e=> ?_) (fun y hy z hz=>(hsep y hy).2 z hz)
       ·rcases hb with rfl |rfl |rfl |rfl
        ·exact some8 hH8.lay Nhd1
        ·exact some8 hH8.isd Nhd1
        ·exact some8 hH8.trd Nhd1
        ·exact some8 hH8.tab.own Nhd1
       ·have:=(hlkN z hz _ e).1
        rw[hH8.dee] at this
        cases this
      have htl15:=lks htl14 fun z hz e=>by
       have:=(hlkN z hz _ e).1
       rw[htl8] at this
       cases this
      have hcl15:=lks hcl14 fun z hz e=>(hlkN z hz _ e).2 rfl
      have he15:=lks he14 fun z hz e=>by
       obtain⟨l,ps,e1,e2⟩:=hL11.lst hz
       rw[e1] at e
       cases e
       rw[Ne0] at e2
       cases e2
      have kp15:=hL14.kp f15
      have s015:am H H15:=fun b o e=>f15.fr b o (s014 b o e) (fun z=>by rw[z,s8.free Nhd1] at e;cases e) (fun z=>by rw[z,s8.free Nhd2] at e;cases e) (fun z hz e2=>by
       have:=s8.free (hlkN z hz _ e2).1
       rw[this] at e
       cases e)
      have dm15: ∀b,H15 b=none→H8 b=none:=fun b e=>dm14 b (f15.dm b e)
      have hD15:gu K H15 ly (trs0.map (fi cs)) (.str k0::.str nmx::rr) W false (trs0.map (fi cs1)):=hDW.kp kp15
      have hlkN15: ∀x∈lk',∀l,x.2.2=.ref l→H8 l=none∧l≠cl:=fun z hz l e=>by
       rcases nw15 z hz with⟨z',hz',e'⟩ |⟨l',e',hn'⟩
       ·exact hlkN z' hz' l (e'.trans e)
       ·rw[e] at e'
        cases e'
        exact⟨dm14 l hn',fun q=>by rw[q,hcl14] at hn';cases hn'⟩
      have hsep15: ∀y∈tk,∀x∈lk',x.2.2≠y.2.2:=fun y hy z hz e=>by
       rcases nw15 z hz with⟨z',hz',e'⟩ |⟨l',e',hn'⟩
       ·exact(hsep y hy).2 z' hz' (e'.trans e)
       ·obtain⟨j,hj⟩:=List.mem_iff_getElem?.mp hy
        obtain⟨_,_,l2,e3,e4⟩:=cF.at_ hH14.tab.lsts j y hj
        rw[e',e3] at e
        cases e
        rw[hn'] at e4
        cases e4
      refine⟨_,rfl,d,_,0,_,rfl,rfl,kp15.tq hd14,ao (k:=0) rfl,rfl,_,rfl,?_⟩
      rcases hk0 with⟨hk,rfl⟩ |⟨rfl,rfl⟩
      ·refine aR hk ?_
       exact hJ3 _ _ ⟨⟨s015,dm15⟩,hS15,htl15,hts14.kp kp15,he15,kp15.tq hd14,hD15,_,lo',lk',lm',cs1,.ref e0,hL15,hcl15,hlkN15,hsep15,by omega,by omega,.inr (.inr ⟨rfl,hle,rfl,rfl,rfl⟩),rfl⟩
      ·refine cT ?_
       refine⟨_,rfl,.inl ⟨rfl,_,SqL.of hcl15⟩,_,rfl,d,_,1,_,rfl,rfl,kp15.tq hd14,ao (k:=1) rfl,cl,_,_,rfl,rfl,hcl15,by rw[List.length_map,sizeLine_eq];omega,?_⟩
       have kp16:Kp H15 (upd H15 cl (.lst (cs.map V.str++[.str nmx]))):=.lst hcl15
       have ncd:cl≠A.dl:=fun z=>by rw[z,hH8.dee] at Ncl;cases Ncl
       have nct:cl≠tl:=fun z=>by rw[z,htl8] at Ncl;cases Ncl
       have nce:e0≠cl:=fun z=>by rw[z,hcl11] at Ne0;cases Ne0
       have hS16:=hS15.list (ys:=cs.map V.str++[.str nmx]) hcl15 ncd fun y hy=>(hsep y hy).1
       have hL16:=hL15.list (ys:=cs.map V.str++[.str nmx]) hcl15 ncf fun z hz e=>(hlkN15 z hz _ e).2 rfl
       refine hJ3 _ _ ⟨⟨br s015 (s8.free Ncl),fun b e=>dm15 b (dC e)⟩,hS16,by rw[aj (Ne.symm nct)];exact htl15,(hts14.kp kp15).kp kp16,by rw[aj nce];exact he15,kp16.tq (kp15.tq hd14),hD15.kp kp16,_,lo',lk',lm',cs++[nmx],.ref e0,hL16,by rw[ae,List.map_append];rfl,hlkN15,hsep15,by omega,by rw[List.length_append,List.length_singleton];omega,.inr (.inr ⟨rfl,hle,rfl,rfl,rfl⟩),rfl⟩
     ·refine⟨rfl,_,rfl,cL ?_⟩
      exact hJ3 _ _ ⟨⟨s014.trans s15,fun b e=>dm14 b (s15.free e)⟩,hS14.same s15,s15 _ _ htl14,hts14.kp (.of s15),s15 _ _ he14,am.tseq s15 hd14,hDW.same s15,S,lo,lk,lm,cs,.str "room",hL14.same s15,s15 _ _ hcl14,hlkN,fun y hy=>(hsep y hy).2,by omega,by omega,.inr (.inl ⟨rfl,hlt,rfl,rfl,rfl⟩),rfl⟩
   case A3=>
   clear hcl14 hd14 he14 htl14 hts14 hL14 hS14 hb hDW hwl14 hws
   rintro σ H15 ⟨⟨s15,dm15⟩,hS15,htl15,hts15,he15,hd15,hDW,S',lo',lk',lm',cs',dv,hL15,hcl15,hlkN15,hsep15,hlkl15,hcsl15,hcs15,rfl⟩
   obtain⟨dx15,sa15,ci15,hI15⟩:=hS15.ih
   have hokF: ∀(cs:List Str),∀y∈trs0.map (fi cs),qj y:=fun cs y hy=>by
    obtain⟨y0,hy0,rfl⟩:=List.mem_map.mp hy
    have h:=(tmem y0 hy0).1
    exact⟨h.wd,h.a1,h.a4,h.nd,h.aw⟩
   have hokA: ∀(cs:List Str),∀y∈trs0,qj y∧ ∃y'∈trs0.map (fi cs),y'.nm=y.nm∧y'.arms=y.arms:=fun cs y hy=>⟨(tmem y hy).1,fi cs y,List.mem_map.mpr ⟨y,hy,rfl⟩,rfl,rfl⟩
   have ntl:tl≠A.dl:=Ntl
   have shE:SeqAt.shaped (.list [])=true:=by decide+kernel
   have shR:SeqAt.shaped (.str "room")=true:=by decide+kernel
   have shC:SeqAt.shaped (.str "closed")=true:=by decide+kernel
   refine⟨_,rfl,_,rfl,A.h,d,rfl,A,n,ly,tv,trs0.map (fi cs),trs0.map (fi cs1),tk,ds,S,i,_,W,b,rfl,hd15,hS15,by omega,hokF cs,hDW,hly,by omega,fun hbt H16 s16=> ?_,fun hbf hle r tk' H16 f16 hS16 nw16 hr hr16=> ?_,fun hbf hlt H16 s16=> ?_⟩
   ·rcases hcs15 with⟨_,rfl,rfl,rfl⟩ |⟨h,_⟩ |⟨h,_⟩
    case inr.inl=>rw[hbt] at h;cases h
    case inr.inr=>rw[hbt] at h;cases h
    refine .inr ⟨rfl,?_⟩
    have hS17:=(hS15.same s16).mono (Nat.le_succ i)
    have hL17:=hL15.same s16
    have hO17:=hOk
    have hG17:=hG
    have htl17:=s16 _ _ htl15
    have hts17:=hts15.kp (.of s16)
    have hcl17:=s16 _ _ hcl15
    have s017:=s15.trans s16
    have dm17: ∀b,H16 b=none→H8 b=none:=fun b e=>dm15 b (s16.free e)
    have hsep17: ∀y∈tk,y.2.2≠.ref cl∧ ∀x∈lk',x.2.2≠y.2.2:=fun y hy=>⟨(hsep y hy).1,hsep15 y hy⟩
    refine⟨_,rfl,.str "closed",.str "closed",.str _,.str _,shC,shC,_,rfl,?_⟩
    rw[gA shC]
    refine bY ⟨_,rfl,_,rfl,_,rfl,_,rfl,_,rfl,A,tl,fl,hd1,hd2,n,ly,tv,trs0.map (fi cs'),trs0,tk,ds,ts,S',i+1,lo',lk',lm',rfl,hS17,hL17,hO17,hG17,htl17,hts17,hokA cs',hly,by omega,fun H18 s18=>⟨true,rfl,bY ⟨⟨s017.trans s18,fun b e=>dm17 b (s18.free e)⟩,tk,ds,S',lo',lk',lm',cs',hS17.same s18,hL17.same s18,hG17,s18 _ _ htl17,hts17.kp (.of s18),s18 _ _ hcl17,hlkN15,hsep17,by omega,by omega,by omega,_,_,_,_,_,_,rfl⟩⟩⟩
   ·rcases hcs15 with⟨h,_⟩ |⟨_,h,_⟩ |⟨_,_,rfl,rfl,rfl⟩
    case inl=>rw[hbf] at h;cases h
    case inr.inl=>omega
    have hS17:bH P w K a H16 A n ly tv (trs0.map (fi cs')) tk' (ds++[V.ref d]) (aS n (aV S W) W) (i+1):=hS16
    have nfd:fl≠A.dl:=fun z=>by rw[z,hH8.dee] at Nfl;cases Nfl
    have ncd:cl≠A.dl:=fun z=>by rw[z,hH8.dee] at Ncl;cases Ncl
    have hL17:=hL15.dfr hS15 f16 nfd (fun z=>by rw[z,hH8.tab.own] at hhd1;cases hhd1) (fun z=>by rw[z,hH8.tab.tak] at Nhd2;cases Nhd2) (fun z hz e=>by
     have:=(hlkN15 z hz _ e).1
     rw[hH8.dee] at this
     cases this)
    have hO17:(aS n (aV S W) W).Ok n:=gz _ (cY _ hOk)
    have hG17:dS (aS n (aV S W) W):=dS.tooks W hWG (dS.gives W hG)
    have kp16:=f16.kpp hS15
    have htl17:=f16.lst hS15 htl15 ntl
    have hts17:=hts15.kp kp16
    have hcl17:=f16.lst hS15 hcl15 ncd
    have he17:=f16.lst hS15 he15 (fun z=>by
     obtain⟨_,_,h,_⟩:=hS11
     have e:=h.dee
     rw[←z,Ne0] at e
     cases e)
    have dm17: ∀b,H16 b=none→H8 b=none:=fun b e=>dm15 b (f16.dm b e)
    have s017:am H H16:=fun b o e=>f16.fr b o (s15 b o e) (fun z=>by rw[z,Nod] at e;cases e) (fun z=>by rw[z,Ntd] at e;cases e) (fun z=>by rw[z,Ndl] at e;cases e) (fun z hz e2=>by
     have:=hnew z hz b e2
     rw[this] at e
     cases e)
    have hsep17: ∀y∈tk',y.2.2≠.ref cl∧ ∀x∈lk',x.2.2≠y.2.2:=fun y hy=>by
     rcases nw16 y hy with⟨y',hy',e'⟩ |⟨l',e',hn'⟩
     ·rw[←e']
      exact⟨(hsep y' hy').1,hsep15 y' hy'⟩
     ·rw[e']
      refine⟨fun z=>(by cases z;rw[hcl15] at hn';cases hn'),fun z hz e=> ?_⟩
      obtain⟨l2,ps,e1,e2⟩:=hL15.lst hz
      rw[e1] at e
      cases e
      rw[hn'] at e2
      cases e2
    refine⟨_,rfl,.list [],.list [],.lst (SqL.of hr16) .nil,.lst (SqL.of he17) .nil,shE,shE,_,rfl,?_⟩
    rw[gA shE]
    refine bY ⟨_,rfl,_,rfl,_,rfl,_,rfl,_,rfl,A,tl,fl,hd1,hd2,n,ly,tv,trs0.map (fi cs'),trs0,tk',(ds++[V.ref d]),ts,(aS n (aV S W) W),i+1,lo',lk',lm',rfl,hS17,hL17,hO17,hG17,htl17,hts17,hokA cs',hly,by omega,fun H18 s18=>⟨true,rfl,bY ⟨⟨s017.trans s18,fun b e=>dm17 b (s18.free e)⟩,tk',(ds++[V.ref d]),(aS n (aV S W) W),lo',lk',lm',cs',hS17.same s18,hL17.same s18,hG17,s18 _ _ htl17,hts17.kp (.of s18),s18 _ _ hcl17,hlkN15,hsep17,by omega,by omega,by rw[List.length_append,List.length_singleton];omega,_,_,_,_,_,_,rfl⟩⟩⟩
   ·rcases hcs15 with⟨h,_⟩ |⟨_,_,rfl,rfl,rfl⟩ |⟨_,h,_⟩
    case inl=>rw[hbf] at h;cases h
    case inr.inr=>omega
    refine .inl ⟨rfl,?_⟩
    have hS17:=(hS15.same s16).mono (Nat.le_succ i)
    have hL17:=hL15.same s16
    have hO17:=hOk
    have hG17:=hG
    have htl17:=s16 _ _ htl15
    have hts17:=hts15.kp (.of s16)
    have hcl17:=s16 _ _ hcl15
    have s017:=s15.trans s16
    have dm17: ∀b,H16 b=none→H8 b=none:=fun b e=>dm15 b (s16.free e)
    have hsep17: ∀y∈tk,y.2.2≠.ref cl∧ ∀x∈lk',x.2.2≠y.2.2:=fun y hy=>⟨(hsep y hy).1,hsep15 y hy⟩
    refine⟨_,rfl,.str "room",.str "room",.str _,.str _,shR,shR,_,rfl,?_⟩
    rw[gA shR]
    refine bY ⟨_,rfl,_,rfl,_,rfl,_,rfl,_,rfl,A,tl,fl,hd1,hd2,n,ly,tv,trs0.map (fi cs'),trs0,tk,ds,ts,S',i+1,lo',lk',lm',rfl,hS17,hL17,hO17,hG17,htl17,hts17,hokA cs',hly,by omega,fun H18 s18=>⟨true,rfl,bY ⟨⟨s017.trans s18,fun b e=>dm17 b (s18.free e)⟩,tk,ds,S',lo',lk',lm',cs',hS17.same s18,hL17.same s18,hG17,s18 _ _ htl17,hts17.kp (.of s18),s18 _ _ hcl17,hlkN15,hsep17,by omega,by omega,by omega,_,_,_,_,_,_,rfl⟩⟩⟩
  ·rintro σ H11 _
   exact q H11
end
theorem Oa {K:PySem.W.Frag}{h:Heap}{mg:Str→Option Value}{ck:Addr}
  {eT:Addr}
  {cG:Addr}
  {bq:Addr}
  {mW:Addr}
  {uL:Addr}
  {xy:Addr}
  {xv:Addr}
  {Cc:Addr}
  {uI:Addr}
  {xz:Addr}
  {xx:Addr}
  {uJ:Addr}
  {rp:Addr}
  {uK:Addr}
  {mq:Addr}
  {tj:Addr}
  {re:Addr}
  {mM:Addr}
  {uF:Addr}
  {rg:Addr}
  {rj:Addr}
  {mV:Addr}
  {rb:Addr}
  {uH:Addr}
  {rh:Addr}
  {uG:Addr}
  {rf:Addr}
  {pk:Addr}
  {mU:Addr}
  {lh:Addr}
  {rn:Addr}
  {lc:Addr}
  {mO:Addr}
  {mP:Addr}
  {pq:Addr}
  {gy:Addr}
  {la:Addr}
  {kZ:Addr}
  {kX:Addr}
  {mT:Addr}
  {kY:Addr}
  {lg:Addr}
  {jJ:Addr}
  {iZ:Addr}
  {mR:Addr}
  {kW:Addr}
  {mQ:Addr}
  {mS:Addr}
  {rc:Addr}
  {Cb:Addr}
  {fq:Addr}
  {dU:Addr}
  {dk:Addr}
  {jv:Addr}
  {jt:Addr}
  {dn:Addr}
  {ju:Addr}
  {ft:Addr}
  {fm:Addr}
  {fA:Addr}
  {mY:Addr}
  {jw:Addr}
  {dY:Addr}
  {dW:Addr}
  {dX:Addr}
  {eV:Addr}
  {dZ:Addr}
  {eU:Addr}
  {ix:Addr}
  {dq:Addr}
  {fw:Addr}
  {fu:Addr}
  {rq:Addr}
  {xC:Addr}
  {Cd:Addr}
  {xD:Addr}
  {xB:Addr}
  {Ce:Addr}
  {uN:Addr}
  {Cf:Addr}
  {uM:Addr}
  {xE:Addr}
  {IJ:Addr}
  {Fg:Tok}
  {xM:Tok}
  {wD:Tok}
  {uR:Tok}
  {xL:Tok}
  {tD:Tok}
  {IR:Tok}
  {Ar:Tok}
  {wG:Tok}
  {Aq:Tok}
  {An:Tok}
  {Cj:Tok}
  {Ap:Tok}
  {Ao:Tok}
  {bU:Addr}{pm:Params}{sr:Array DictEntry}{yR:Nat}
  {uW:Tok}
  {uT:Tok}
  {uU:Tok}
  {wF:Tok}
  {wE:Tok}
  {uV:Tok}
  {As:Tok}
  {uX:Tok}
  {xJ:Tok}
  {uS:Tok}
  {Fc:Addr}{L6:Option Addr}{CT:Array Value}{Gy:Nat}{Lw:Array (Option Value)}
  {vg:Value}{vf:Option Addr}{mz:ClassData}{vd:Array (Option Value)}{mB:List Value}(X:K.In h) (G:h.Ns mainGlobals mg)
  (DC:PySem.W.nsIn K mainGlobals "Table"=some (some (.ref ck)))
  (DG:PySem.W.nsIn K mainGlobals "Layer"=some (some (.ref eT)))
  (DA:PySem.W.nsIn K mainGlobals "Trial"=some (some (.ref cG)))
  (DH:PySem.W.nsIn K mainGlobals "House"=some (some (.ref bq)))
  (oR:PySem.W.nsIn K mainGlobals "SplitError"=some (some (.ref mW)))
  (wb:PySem.W.nsIn K mainGlobals "NoHouse"=some (some (.ref uL)))
  (zT:PySem.W.nsIn K mainGlobals "NoDeed"=some (some (.ref xy)))
  (zQ:PySem.W.nsIn K mainGlobals "NoWord"=some (some (.ref xv)))
  (DB:PySem.W.nsIn K mainGlobals "Taken"=some (some (.ref Cc)))
  (v0:PySem.W.nsIn K mainGlobals "Unknown"=some (some (.ref uI)))
  (zU:PySem.W.nsIn K mainGlobals "NoArms"=some (some (.ref xz)))
  (zR:PySem.W.nsIn K mainGlobals "NoRule"=some (some (.ref xx)))
  (v1:PySem.W.nsIn K mainGlobals "NoShuts"=some (some (.ref uJ)))
  (sQ:PySem.W.nsIn K mainGlobals "NoNumber"=some (some (.ref rp)))
  (wa:PySem.W.nsIn K mainGlobals "NoMarks"=some (some (.ref uK)))
  (zZ:PySem.W.nsIn K mainGlobals "Closed"=some (some (.ref mq)))
  (zS:PySem.W.nsIn K mainGlobals "NoRoom"=some (some (.ref tj)))
  (yD:PySem.W.plainGet K ck Str.empty=true)
  (yz:PySem.W.hasDictIn K ck=true)
  (yu:PySem.W.plainOver K ck=true)
  (yp:PySem.W.findIn K (.ref ck) "__setattr__"=some (some (.builtin "object.__setattr__")))
  (yk:PySem.W.makesIn K ck=true)
  (yf:PySem.W.keepIn K (.ref ck)=true)
  (oz:PySem.W.findIn K (.ref ck) "many"=some none)
  (kn:PySem.W.findIn K (.ref ck) "owners"=some none)
  (lT:PySem.W.findIn K (.ref ck) "taken"=some none)
  (yE:PySem.W.plainGet K eT Str.empty=true)
  (yA:PySem.W.hasDictIn K eT=true)
  (yw:PySem.W.plainOver K eT=true)
  (yq:PySem.W.findIn K (.ref eT) "__setattr__"=some (some (.builtin "object.__setattr__")))
  (ym:PySem.W.makesIn K eT=true)
  (yg:PySem.W.keepIn K (.ref eT)=true)
  (lV:PySem.W.findIn K (.ref eT) "slope"=some none)
  (lU:PySem.W.findIn K (.ref eT) "table"=some none)
  (ko:PySem.W.findIn K (.ref eT) "inside"=some none)
  (yC:PySem.W.plainGet K cG Str.empty=true)
  (yy:PySem.W.hasDictIn K cG=true)
  (yt:PySem.W.plainOver K cG=true)
  (yo:PySem.W.findIn K (.ref cG) "__setattr__"=some (some (.builtin "object.__setattr__")))
  (yi:PySem.W.makesIn K cG=true)
  (ye:PySem.W.keepIn K (.ref cG)=true)
  (ox:PySem.W.findIn K (.ref cG) "home"=some none)
  (oy:PySem.W.findIn K (.ref cG) "arms"=some none)
  (ou:PySem.W.findIn K (.ref cG) "rule"=some none)
  (lS:PySem.W.findIn K (.ref cG) "shuts"=some none)
  (ki:PySem.W.findIn K (.ref cG) "paused"=some none)
  (kj:PySem.W.findIn K (.ref cG) "closed"=some none)
  (km:PySem.W.findIn K (.ref cG) "barred"=some none)
  (yF:PySem.W.plainGet K bq Str.empty=true)
  (yB:PySem.W.hasDictIn K bq=true)
  (yx:PySem.W.plainOver K bq=true)
  (yr:PySem.W.findIn K (.ref bq) "__setattr__"=some (some (.builtin "object.__setattr__")))
  (yn:PySem.W.makesIn K bq=true)
  (yh:PySem.W.keepIn K (.ref bq)=true)
  (ga:PySem.W.findIn K (.ref bq) "own_prime"=some none)
  (g9:PySem.W.findIn K (.ref bq) "own_salt"=some none)
  (eB:PySem.W.findIn K (.ref bq) "layer_named"=some none)
  (eA:PySem.W.findIn K (.ref bq) "trial_named"=some none)
  (gb:PySem.W.findIn K (.ref bq) "came_into"=some none)
  (lW:PySem.W.findIn K (.ref bq) "deeds"=some none)
  (oB:PySem.W.excIn K mW [.type "ValueError",.type "Exception",.type "BaseException",.type "object"] "ValueError.__new__"=true)
  (vM:PySem.W.excIn K uL [.type "ValueError",.type "Exception",.type "BaseException",.type "object"] "ValueError.__new__"=true)
  (zA:PySem.W.excIn K xy [.type "ValueError",.type "Exception",.type "BaseException",.type "object"] "ValueError.__new__"=true)
  (zw:PySem.W.excIn K xv [.type "ValueError",.type "Exception",.type "BaseException",.type "object"] "ValueError.__new__"=true)
  (De:PySem.W.excIn K Cc [.type "ValueError",.type "Exception",.type "BaseException",.type "object"] "ValueError.__new__"=true)
  (vJ:PySem.W.excIn K uI [.type "ValueError",.type "Exception",.type "BaseException",.type "object"] "ValueError.__new__"=true)
  (zB:PySem.W.excIn K xz [.type "ValueError",.type "Exception",.type "BaseException",.type "object"] "ValueError.__new__"=true)
  (zx:PySem.W.excIn K xx [.type "ValueError",.type "Exception",.type "BaseException",.type "object"] "ValueError.__new__"=true)
  (vK:PySem.W.excIn K uJ [.type "ValueError",.type "Exception",.type "BaseException",.type "object"] "ValueError.__new__"=true)
  (ss:PySem.W.excIn K rp [.type "ValueError",.type "Exception",.type "BaseException",.type "object"] "ValueError.__new__"=true)
  (vL:PySem.W.excIn K uK [.type "ValueError",.type "Exception",.type "BaseException",.type "object"] "ValueError.__new__"=true)
  (zC:PySem.W.excIn K mq [.type "ValueError",.type "Exception",.type "BaseException",.type "object"] "ValueError.__new__"=true)
  (zy:PySem.W.excIn K tj [.type "ValueError",.type "Exception",.type "BaseException",.type "object"] "ValueError.__new__"=true)
  (sK:PySem.W.nsIn K mainGlobals "is_whole"=some (some (.ref re)))
  (rS: ∃fd,Fun K "is_whole" "is_whole" rD re fd)
  (oE:PySem.W.nsIn K mainGlobals "is_text_of"=some (some (.ref mM)))
  (nK: ∃fd,Fun K "is_text_of" "is_text_of" jz mM fd)
  (vX:PySem.W.nsIn K mainGlobals "is_word"=some (some (.ref uF)))
  (vk: ∃fd,Fun K "is_word" "is_word" u0 uF fd)
  (sM:PySem.W.nsIn K mainGlobals "is_prime"=some (some (.ref rg)))
  (rV: ∃fd,Fun K "is_prime" "is_prime" nj rg fd)
  (sO:PySem.W.nsIn K mainGlobals "has_form"=some (some (.ref rj)))
  (rX: ∃fd,Fun K "has_form" "has_form" rG rj fd)
  (oN:PySem.W.nsIn K mainGlobals "all_within"=some (some (.ref mV)))
  (nS: ∃fd,Fun K "all_within" "all_within" nD mV fd)
  (sI:PySem.W.nsIn K mainGlobals "words_of"=some (some (.ref rb)))
  (rQ: ∃fd,Fun K "words_of" "words_of" ni rb fd)
  (vZ:PySem.W.nsIn K mainGlobals "is_rule"=some (some (.ref uH)))
  (vo: ∃fd,Fun K "is_rule" "is_rule" u4 uH fd)
  (sN:PySem.W.nsIn K mainGlobals "is_count"=some (some (.ref rh)))
  (rW: ∃fd,Fun K "is_count" "is_count" rF rh fd)
  (vY:PySem.W.nsIn K mainGlobals "is_salt"=some (some (.ref uG)))
  (vn: ∃fd,Fun K "is_salt" "is_salt" u3 uG fd)
  (sL:PySem.W.nsIn K mainGlobals "is_total"=some (some (.ref rf)))
  (rT: ∃fd,Fun K "is_total" "is_total" rE rf fd)
  (qh:PySem.W.nsIn K mainGlobals "is_weight"=some (some (.ref pk)))
  (pM: ∃fd,Fun K "is_weight" "is_weight" pz pk fd)
  (oM:PySem.W.nsIn K mainGlobals "are_counts"=some (some (.ref mU)))
  (nR: ∃fd,Fun K "are_counts" "are_counts" jA mU fd)
  (me:PySem.W.nsIn K mainGlobals "are_weights"=some (some (.ref lh)))
  (lN: ∃fd,Fun K "are_weights" "are_weights" iB lh fd)
  (sP:PySem.W.nsIn K mainGlobals "are_arms"=some (some (.ref rn)))
  (rY: ∃fd,Fun K "are_arms" "are_arms" nC rn fd)
  (ma:PySem.W.nsIn K mainGlobals "check_house"=some (some (.ref lc)))
  (lL: ∃fd,Fun K "check_house" "check_house" lA lc fd)
  (oF:PySem.W.nsIn K mainGlobals "check_word"=some (some (.ref mO)))
  (nL: ∃fd,Fun K "check_word" "check_word" nq mO fd)
  (oG:PySem.W.nsIn K mainGlobals "check_rule"=some (some (.ref mP)))
  (nM: ∃fd,Fun K "check_rule" "check_rule" nr mP fd)
  (qi:PySem.W.nsIn K mainGlobals "check_new"=some (some (.ref pq)))
  (pN: ∃fd,Fun K "check_new" "check_new" pA pq fd)
  (ib:PySem.W.nsIn K mainGlobals "check_standing"=some (some (.ref gy)))
  (gO: ∃fd,Fun K "check_standing" "check_standing" gD gy fd)
  (l9:PySem.W.nsIn K mainGlobals "check_known"=some (some (.ref la)))
  (lK: ∃fd,Fun K "check_known" "check_known" lz la fd)
  (l8:PySem.W.nsIn K mainGlobals "check_place"=some (some (.ref kZ)))
  (lJ: ∃fd,Fun K "check_place" "check_place" lx kZ fd)
  (lZ:PySem.W.nsIn K mainGlobals "check_slope"=some (some (.ref kX)))
  (lH: ∃fd,Fun K "check_slope" "check_slope" iz kX fd)
  (oK:PySem.W.nsIn K mainGlobals "check_arms"=some (some (.ref mT)))
  (nQ: ∃fd,Fun K "check_arms" "check_arms" nB mT fd)
  (l6:PySem.W.nsIn K mainGlobals "check_shuts"=some (some (.ref kY)))
  (lI: ∃fd,Fun K "check_shuts" "check_shuts" lw kY fd)
  (md:PySem.W.nsIn K mainGlobals "check_count"=some (some (.ref lg)))
  (lM: ∃fd,Fun K "check_count" "check_count" lB lg fd)
  (kx:PySem.W.nsIn K mainGlobals "check_shares"=some (some (.ref jJ)))
  (jY: ∃fd,Fun K "check_shares" "check_shares" jN jJ fd)
  (jj:PySem.W.nsIn K mainGlobals "check_dealing"=some (some (.ref iZ)))
  (jc: ∃fd,Fun K "check_dealing" "check_dealing" i8 iZ fd)
  (oI:PySem.W.nsIn K mainGlobals "check_form"=some (some (.ref mR)))
  (nO: ∃fd,Fun K "check_form" "check_form" nz mR fd)
  (lY:PySem.W.nsIn K mainGlobals "check_trial"=some (some (.ref kW)))
  (lG: ∃fd,Fun K "check_trial" "check_trial" lr kW fd)
  (oH:PySem.W.nsIn K mainGlobals "check_open"=some (some (.ref mQ)))
  (nN: ∃fd,Fun K "check_open" "check_open" ny mQ fd)
  (oJ:PySem.W.nsIn K mainGlobals "check_deed"=some (some (.ref mS)))
  (nP: ∃fd,Fun K "check_deed" "check_deed" nA mS fd)
  (sJ:PySem.W.nsIn K mainGlobals "most_due"=some (some (.ref rc)))
  (rR: ∃fd,Fun K "most_due" "most_due" rC rc fd)
  (Dz:PySem.W.nsIn K mainGlobals "dealt"=some (some (.ref Cb)))
  (CN: ∃fd,Fun K "dealt" "dealt" Cs Cb fd)
  (gk:PySem.W.findIn K (.ref ck) "__init__"=some (some (.ref fq)))
  (fV:PySem.W.isFn K (.ref fq)=true)
  (j0: ∃fd,Fun K "__init__" "Table.__init__" jP fq fd)
  (ic:PySem.W.findIn K (.ref ck) "owner_of"=some (some (.ref dU)))
  (gU:PySem.W.isFn K (.ref dU)=true)
  (gP: ∃fd,Fun K "owner_of" "Table.owner_of" gE dU fd)
  (gi:PySem.W.findIn K (.ref ck) "places_of"=some (some (.ref dk)))
  (fT:PySem.W.isFn K (.ref dk)=true)
  (fO: ∃fd,Fun K "places_of" "Table.places_of" fD dk fd)
  (oQ:PySem.W.findIn K (.ref ck) "free"=some (some (.ref jv)))
  (nZ:PySem.W.isFn K (.ref jv)=true)
  (nV: ∃fd,Fun K "free" "Table.free" jC jv fd)
  (oO:PySem.W.findIn K (.ref ck) "told"=some (some (.ref jt)))
  (nX:PySem.W.isFn K (.ref jt)=true)
  (nT: ∃fd,Fun K "told" "Table.told" jB jt fd)
  (gj:PySem.W.findIn K (.ref ck) "give_back"=some (some (.ref dn)))
  (fU:PySem.W.isFn K (.ref dn)=true)
  (fP: ∃fd,Fun K "give_back" "Table.give_back" fE dn fd)
  (oP:PySem.W.findIn K (.ref ck) "take"=some (some (.ref ju)))
  (nY:PySem.W.isFn K (.ref ju)=true)
  (nU: ∃fd,Fun K "take" "Table.take" nE ju fd)
  (gm:PySem.W.findIn K (.ref eT) "__init__"=some (some (.ref ft)))
  (fW:PySem.W.isFn K (.ref ft)=true)
  (j3: ∃fd,Fun K "__init__" "Layer.__init__" jQ ft fd)
  (gh:PySem.W.findIn K (.ref cG) "__init__"=some (some (.ref fm)))
  (fS:PySem.W.isFn K (.ref fm)=true)
  (jZ: ∃fd,Fun K "__init__" "Trial.__init__" jO fm fd)
  (gp:PySem.W.findIn K (.ref bq) "__init__"=some (some (.ref fA)))
  (fY:PySem.W.isFn K (.ref fA)=true)
  (j6: ∃fd,Fun K "__init__" "House.__init__" jS fA fd)
  (sT:PySem.W.findIn K (.ref bq) "do"=some (some (.ref mY)))
  (si:PySem.W.isFn K (.ref mY)=true)
  (r0: ∃fd,Fun K "do" "House.do" rJ mY fd)
  (oS:PySem.W.findIn K (.ref bq) "done"=some (some (.ref jw)))
  (n8:PySem.W.isFn K (.ref jw)=true)
  (nW: ∃fd,Fun K "done" "House.done" nF jw fd)
  (ij:PySem.W.findIn K (.ref bq) "do_layer"=some (some (.ref dY)))
  (gY:PySem.W.isFn K (.ref dY)=true)
  (gS: ∃fd,Fun K "do_layer" "House.do_layer" gG dY fd)
  (ie:PySem.W.findIn K (.ref bq) "do_trial"=some (some (.ref dW)))
  (gW:PySem.W.isFn K (.ref dW)=true)
  (gQ: ∃fd,Fun K "do_trial" "House.do_trial" gF dW fd)
  (ii:PySem.W.findIn K (.ref bq) "do_share"=some (some (.ref dX)))
  (gX:PySem.W.isFn K (.ref dX)=true)
  (gR: ∃fd,Fun K "do_share" "House.do_share" cJ dX fd)
  (jl:PySem.W.findIn K (.ref bq) "do_hold"=some (some (.ref eV)))
  (jg:PySem.W.isFn K (.ref eV)=true)
  (je: ∃fd,Fun K "do_hold" "House.do_hold" ja eV fd)
  (ik:PySem.W.findIn K (.ref bq) "do_close"=some (some (.ref dZ)))
  (gZ:PySem.W.isFn K (.ref dZ)=true)
  (gT: ∃fd,Fun K "do_close" "House.do_close" gH dZ fd)
  (jk:PySem.W.findIn K (.ref bq) "put_out"=some (some (.ref eU)))
  (jf:PySem.W.isFn K (.ref eU)=true)
  (jd: ∃fd,Fun K "put_out" "House.put_out" i9 eU fd)
  (mf:PySem.W.findIn K (.ref bq) "owner"=some (some (.ref ix)))
  (lP:PySem.W.isFn K (.ref ix)=true)
  (lO: ∃fd,Fun K "owner" "House.owner" lC ix fd)
  (gn:PySem.W.findIn K (.ref bq) "places_in"=some (some (.ref dq)))
  (fX:PySem.W.isFn K (.ref dq)=true)
  (fQ: ∃fd,Fun K "places_in" "House.places_in" fG dq fd)
  (kz:PySem.W.findIn K (.ref bq) "places"=some (some (.ref fw)))
  (j9:PySem.W.isFn K (.ref fw)=true)
  (j5: ∃fd,Fun K "places" "House.places" jR fw fd)
  (ky:PySem.W.findIn K (.ref bq) "shares"=some (some (.ref fu)))
  (j8:PySem.W.isFn K (.ref fu)=true)
  (j4: ∃fd,Fun K "shares" "House.shares" fF fu fd)
  (sR:PySem.W.nsIn K mainGlobals "_law_cell_at"=some (some (.ref rq)))
  (rZ: ∃fd,Fun K "_law_cell_at" "_law_cell_at" rH rq fd)
  (zW:PySem.W.nsIn K mainGlobals "_law_mixed"=some (some (.ref xC)))
  (y6: ∃fd,Fun K "_law_mixed" "_law_mixed" xY xC fd)
  (DD:PySem.W.nsIn K mainGlobals "_law_word"=some (some (.ref Cd)))
  (CO: ∃fd,Fun K "_law_word" "_law_word" Ct Cd fd)
  (zX:PySem.W.nsIn K mainGlobals "_law_given"=some (some (.ref xD)))
  (y7: ∃fd,Fun K "_law_given" "_law_given" xZ xD fd)
  (zV:PySem.W.nsIn K mainGlobals "_law_parts"=some (some (.ref xB)))
  (y4: ∃fd,Fun K "_law_parts" "_law_parts" tM xB fd)
  (DE:PySem.W.nsIn K mainGlobals "_law_told"=some (some (.ref Ce)))
  (CP: ∃fd,Fun K "_law_told" "_law_told" Cu Ce fd)
  (we:PySem.W.nsIn K mainGlobals "_law_trials"=some (some (.ref uN)))
  (vq: ∃fd,Fun K "_law_trials" "_law_trials" qt uN fd)
  (DF:PySem.W.nsIn K mainGlobals "_law_deed"=some (some (.ref Cf)))
  (CQ: ∃fd,Fun K "_law_deed" "_law_deed" qu Cf fd)
  (wc:PySem.W.nsIn K mainGlobals "_law_wanted"=some (some (.ref uM)))
  (vp: ∃fd,Fun K "_law_wanted" "_law_wanted" mt uM fd)
  (zY:PySem.W.nsIn K mainGlobals "_law_alike"=some (some (.ref xE)))
  (y8: ∃fd,Fun K "_law_alike" "_law_alike" pB xE fd)
  (KL:PySem.W.nsIn K mainGlobals "law"=some (some (.ref IJ)))
  (J4: ∃fd,Fun K "law" "law" Gs IJ fd)
  (vC:PySem.W.nsIn K mainGlobals "LETTERS"=some (some (.str "abcdefghijklmnopqrstuvwxyz" Fg)))
  (lR:PySem.W.nsIn K mainGlobals "GUEST_SIGNS"=some (some (.str "abcdefghijklmnopqrstuvwxyz0123456789" xM)))
  (ka:PySem.W.nsIn K mainGlobals "LONGEST_WORD"=some (some (.int 12 wD)))
  (jh:PySem.W.nsIn K mainGlobals "LONGEST_GUEST"=some (some (.int 24 uR)))
  (lQ:PySem.W.nsIn K mainGlobals "LEAST_PRIME"=some (some (.int 2 xL)))
  (g6:PySem.W.nsIn K mainGlobals "GREATEST_PRIME"=some (some (.int 997 tD)))
  (CZ:PySem.W.nsIn K mainGlobals "MIXER"=some (some (.int 1009 IR)))
  (om:PySem.W.nsIn K mainGlobals "MOST_MARKS"=some (some (.int 8 Ar)))
  (kc:PySem.W.nsIn K mainGlobals "DEEPEST_RULE"=some (some (.int 6 wG)))
  (oj:PySem.W.nsIn K mainGlobals "MOST_RULES"=some (some (.int 30 Aq)))
  (oa:PySem.W.nsIn K mainGlobals "MOST_WORDS"=some (some (.int 3 An)))
  (pP:PySem.W.nsIn K mainGlobals "MOST_ARMS"=some (some (.int 4 Cj)))
  (oh:PySem.W.nsIn K mainGlobals "MOST_SHUTS"=some (some (.int 8 Ap)))
  (og:PySem.W.nsIn K mainGlobals "MOST_TOTAL"=some (some (.int 1000 Ao)))
  (wf:PySem.W.nsIn K mainGlobals "LENGTHS"=some (some (.ref bU)))
  (vt:K.lookup bU=some ⟨.type "dict",none,.dict sr yR,#[]⟩)
  (r9:PySem.W.KeysLit pm sr.toList)
  (r6:(bU==sysModules)=false)
  (i6:PySem.W.nsIn K bU "layer"=some (some (.int 3 uW)))
  (i3:PySem.W.nsIn K bU "trial"=some (some (.int 6 uT)))
  (i4:PySem.W.nsIn K bU "share"=some (some (.int 3 uU)))
  (jL:PySem.W.nsIn K bU "deal"=some (some (.int 4 wF)))
  (jK:PySem.W.nsIn K bU "hold"=some (some (.int 3 wE)))
  (i5:PySem.W.nsIn K bU "pause"=some (some (.int 2 uV)))
  (mZ:PySem.W.nsIn K bU "go"=some (some (.int 2 As)))
  (i7:PySem.W.nsIn K bU "close"=some (some (.int 2 uX)))
  (lj:PySem.W.nsIn K bU "bar"=some (some (.int 3 xJ)))
  (i0:PySem.W.nsIn K bU "visit"=some (some (.int 3 uS)))
  (Gg:PySem.W.nsIn K mainGlobals "HELD"=some (some (.ref Fc)))
  (Fd:K.lookup Fc=some ⟨.type "tuple",L6,.seq CT Gy,Lw⟩)
  (Ca:a8 [.str "",.str ""] CT.toList)
  (gM:K.lookup mq=some ⟨vg,vf,.cls mz,vd⟩)
  (gK:mz.mro=.ref mq::mB)
  (gL:(Value.ref mq::mB).contains (.ref tj)=false)
  (II:PySem.W.nsIn K mainGlobals "all"=some none)
  (Fb:PySem.W.nsIn K mainGlobals "bool"=some none)
  (pi:PySem.W.nsIn K mainGlobals "enumerate"=some none)
  (IH:PySem.W.nsIn K mainGlobals "int"=some none)
  (mL:PySem.W.nsIn K mainGlobals "isinstance"=some none)
  (IG:PySem.W.nsIn K mainGlobals "len"=some none)
  (Fa:PySem.W.nsIn K mainGlobals "list"=some none)
  (IF:PySem.W.nsIn K mainGlobals "max"=some none)
  (IE:PySem.W.nsIn K mainGlobals "min"=some none)
  (BZ:PySem.W.nsIn K mainGlobals "range"=some none)
  (ra:PySem.W.nsIn K mainGlobals "reversed"=some none)
  (ID:PySem.W.nsIn K mainGlobals "set"=some none)
  (xu:PySem.W.nsIn K mainGlobals "sorted"=some none)
  (IC:PySem.W.nsIn K mainGlobals "str"=some none)
  (IB:PySem.W.nsIn K mainGlobals "sum"=some none)
  (BY:PySem.W.nsIn K mainGlobals "tuple"=some none)
  (IA:PySem.W.nsIn K mainGlobals "zip"=some none):
  ∃a:Adr,Txt K mg a∧pm=a.pm:=by
 obtain⟨iM,Ag⟩:=rS
 obtain⟨eD,uw⟩:=nK
 obtain⟨kd,BT⟩:=vk
 obtain⟨iO,Ai⟩:=rV
 obtain⟨iQ,Ak⟩:=rX
 obtain⟨eM,uE⟩:=nS
 obtain⟨iK,Ae⟩:=rQ
 obtain⟨kf,BV⟩:=vo
 obtain⟨iP,Aj⟩:=rW
 obtain⟨ke,BU⟩:=vn
 obtain⟨iN,Ah⟩:=rT
 obtain⟨f8,wB⟩:=pM
 obtain⟨eL,uD⟩:=nR
 obtain⟨dP,q9⟩:=lN
 obtain⟨iR,Al⟩:=rY
 obtain⟨dN,qZ⟩:=lL
 obtain⟨eE,ux⟩:=nL
 obtain⟨eF,uy⟩:=nM
 obtain⟨f9,wC⟩:=pN
 obtain⟨cx,mK⟩:=gO
 obtain⟨dL,qY⟩:=lK
 obtain⟨dJ,qX⟩:=lJ
 obtain⟨dH,qV⟩:=lH
 obtain⟨eK,uC⟩:=nQ
 obtain⟨dI,qW⟩:=lI
 obtain⟨dO,q8⟩:=lM
 obtain⟨c6,qm⟩:=jY
 obtain⟨cM,pf⟩:=jc
 obtain⟨eI,uA⟩:=nO
 obtain⟨dG,qU⟩:=lG
 obtain⟨eG,uz⟩:=nN
 obtain⟨eJ,uB⟩:=nP
 obtain⟨iL,Af⟩:=rR
 obtain⟨pQ,GR⟩:=CN
 obtain⟨c8,kJ⟩:=j0
 obtain⟨cy,im⟩:=gP
 obtain⟨cf,gq⟩:=fO
 obtain⟨eP,oZ⟩:=nV
 obtain⟨eN,oX⟩:=nT
 obtain⟨cg,gr⟩:=fP
 obtain⟨eO,oY⟩:=nU
 obtain⟨c9,kK⟩:=j3
 obtain⟨c7,kI⟩:=jZ
 obtain⟨df,kN⟩:=j6
 obtain⟨iU,sY⟩:=r0
 obtain⟨eQ,o0⟩:=nW
 obtain⟨cB,iq⟩:=gS
 obtain⟨cz,io⟩:=gQ
 obtain⟨cA,ip⟩:=gR
 obtain⟨cO,jq⟩:=je
 obtain⟨cC,iw⟩:=gT
 obtain⟨cN,jp⟩:=jd
 obtain⟨dQ,ml⟩:=lO
 obtain⟨cj,gt⟩:=fQ
 obtain⟨de,kM⟩:=j5
 obtain⟨db,kL⟩:=j4
 obtain⟨iS,Am⟩:=rZ
 obtain⟨mE,E7⟩:=y6
 obtain⟨pR,GS⟩:=CO
 obtain⟨mF,E8⟩:=y7
 obtain⟨mD,E6⟩:=y4
 obtain⟨pS,GT⟩:=CP
 obtain⟨kh,BX⟩:=vq
 obtain⟨pT,GU⟩:=CQ
 obtain⟨kg,BW⟩:=vp
 obtain⟨mG,E9⟩:=y8
 obtain⟨so,MF⟩:=J4
 exact⟨⟨re,iM,
   mM,eD,
   uF,kd,
   rg,iO,
   rj,iQ,
   mV,eM,
   rb,iK,
   uH,kf,
   rh,iP,
   uG,ke,
   rf,iN,
   pk,f8,
   mU,eL,
   lh,dP,
   rn,iR,
   lc,dN,
   mO,eE,
   mP,eF,
   pq,f9,
   gy,cx,
   la,dL,
   kZ,dJ,
   kX,dH,
   mT,eK,
   kY,dI,
   lg,dO,
   jJ,c6,
   iZ,cM,
   mR,eI,
   kW,dG,
   mQ,eG,
   mS,eJ,
   rc,iL,
   Cb,pQ,
   fq,c8,
   dU,cy,
   dk,cf,
   jv,eP,
   jt,eN,
   dn,cg,
   ju,eO,
   ft,c9,
   fm,c7,
   fA,df,
   mY,iU,
   jw,eQ,
   dY,cB,
   dW,cz,
   dX,cA,
   eV,cO,
   dZ,cC,
   eU,cN,
   ix,dQ,
   dq,cj,
   fw,de,
   fu,db,
   rq,iS,
   xC,mE,
   Cd,pR,
   xD,mF,
   xB,mD,
   Ce,pS,
   uN,kh,
   Cf,pT,
   uM,kg,
   xE,mG,
   IJ,so,
   ck,
   eT,
   cG,
   bq,
   mW,
   uL,
   xy,
   xv,
   Cc,
   uI,
   xz,
   xx,
   uJ,
   rp,
   uK,
   mq,
   tj,
   pm,
   bU,
   Fc⟩,
  ⟨Ag,PySem.W.mg_of X G sK,Ag.binds (ps:=["thing"]) fun _ _ _ _ _ _ us hl=>match us,hl with | [_],_=>rfl,
   uw,PySem.W.mg_of X G oE,uw.binds (ps:=["thing","signs","longest"]) fun _ _ _ _ _ _ us hl=>match us,hl with | [_,_,_],_=>rfl,
   BT,PySem.W.mg_of X G vX,BT.binds (ps:=["thing"]) fun _ _ _ _ _ _ us hl=>match us,hl with | [_],_=>rfl,
   Ai,PySem.W.mg_of X G sM,Ai.binds (ps:=["thing"]) fun _ _ _ _ _ _ us hl=>match us,hl with | [_],_=>rfl,
   Ak,PySem.W.mg_of X G sO,Ak.binds (ps:=["thing","depth"]) fun _ _ _ _ _ _ us hl=>match us,hl with | [_,_],_=>rfl,
   uE,PySem.W.mg_of X G oN,uE.binds (ps:=["rule"]) fun _ _ _ _ _ _ us hl=>match us,hl with | [_],_=>rfl,
   Ae,PySem.W.mg_of X G sI,Ae.binds (ps:=["rule"]) fun _ _ _ _ _ _ us hl=>match us,hl with | [_],_=>rfl,
   BV,PySem.W.mg_of X G vZ,BV.binds (ps:=["thing"]) fun _ _ _ _ _ _ us hl=>match us,hl with | [_],_=>rfl,
   Aj,PySem.W.mg_of X G sN,Aj.binds (ps:=["thing"]) fun _ _ _ _ _ _ us hl=>match us,hl with | [_],_=>rfl,
   BU,PySem.W.mg_of X G vY,BU.binds (ps:=["thing"]) fun _ _ _ _ _ _ us hl=>match us,hl with | [_],_=>rfl,
   Ah,PySem.W.mg_of X G sL,Ah.binds (ps:=["thing"]) fun _ _ _ _ _ _ us hl=>match us,hl with | [_],_=>rfl,
   wB,PySem.W.mg_of X G qh,wB.binds (ps:=["thing"]) fun _ _ _ _ _ _ us hl=>match us,hl with | [_],_=>rfl,
   uD,PySem.W.mg_of X G oM,uD.binds (ps:=["thing","many"]) fun _ _ _ _ _ _ us hl=>match us,hl with | [_,_],_=>rfl,
   q9,PySem.W.mg_of X G me,q9.binds (ps:=["thing","many"]) fun _ _ _ _ _ _ us hl=>match us,hl with | [_,_],_=>rfl,
   Al,PySem.W.mg_of X G sP,Al.binds (ps:=["thing"]) fun _ _ _ _ _ _ us hl=>match us,hl with | [_],_=>rfl,
   qZ,PySem.W.mg_of X G ma,qZ.binds (ps:=["prime","salt"]) fun _ _ _ _ _ _ us hl=>match us,hl with | [_,_],_=>rfl,
   ux,PySem.W.mg_of X G oF,ux.binds (ps:=["thing"]) fun _ _ _ _ _ _ us hl=>match us,hl with | [_],_=>rfl,
   uy,PySem.W.mg_of X G oG,uy.binds (ps:=["thing"]) fun _ _ _ _ _ _ us hl=>match us,hl with | [_],_=>rfl,
   wC,PySem.W.mg_of X G qi,wC.binds (ps:=["thing","names"]) fun _ _ _ _ _ _ us hl=>match us,hl with | [_,_],_=>rfl,
   mK,PySem.W.mg_of X G ib,mK.binds (ps:=["thing","names"]) fun _ _ _ _ _ _ us hl=>match us,hl with | [_,_],_=>rfl,
   qY,PySem.W.mg_of X G l9,qY.binds (ps:=["thing","names"]) fun _ _ _ _ _ _ us hl=>match us,hl with | [_,_],_=>rfl,
   qX,PySem.W.mg_of X G l8,qX.binds (ps:=["thing","prime"]) fun _ _ _ _ _ _ us hl=>match us,hl with | [_,_],_=>rfl,
   qV,PySem.W.mg_of X G lZ,qV.binds (ps:=["thing","prime","layers"]) fun _ _ _ _ _ _ us hl=>match us,hl with | [_,_,_],_=>rfl,
   uC,PySem.W.mg_of X G oK,uC.binds (ps:=["thing"]) fun _ _ _ _ _ _ us hl=>match us,hl with | [_],_=>rfl,
   qW,PySem.W.mg_of X G l6,qW.binds (ps:=["thing","trials"]) fun _ _ _ _ _ _ us hl=>match us,hl with | [_,_],_=>rfl,
   q8,PySem.W.mg_of X G md,q8.binds (ps:=["thing"]) fun _ _ _ _ _ _ us hl=>match us,hl with | [_],_=>rfl,
   qm,PySem.W.mg_of X G kx,qm.binds (ps:=["thing","many"]) fun _ _ _ _ _ _ us hl=>match us,hl with | [_,_],_=>rfl,
   pf,PySem.W.mg_of X G jj,pf.binds (ps:=["total","weights","many"]) fun _ _ _ _ _ _ us hl=>match us,hl with | [_,_,_],_=>rfl,
   uA,PySem.W.mg_of X G oI,uA.binds (ps:=["deed"]) fun _ _ _ _ _ _ us hl=>match us,hl with | [_],_=>rfl,
   qU,PySem.W.mg_of X G lY,qU.binds (ps:=["deed","layers","trials"]) fun _ _ _ _ _ _ us hl=>match us,hl with | [_,_,_],_=>rfl,
   uz,PySem.W.mg_of X G oH,uz.binds (ps:=["deed","trials"]) fun _ _ _ _ _ _ us hl=>match us,hl with | [_,_],_=>rfl,
   uB,PySem.W.mg_of X G oJ,uB.binds (ps:=["deed","prime","layers","trials"]) fun _ _ _ _ _ _ us hl=>match us,hl with | [_,_,_,_],_=>rfl,
   Af,PySem.W.mg_of X G sJ,Af.binds (ps:=["weights","given"]) fun _ _ _ _ _ _ us hl=>match us,hl with | [_,_],_=>rfl,
   GR,PySem.W.mg_of X G Dz,GR.binds (ps:=["total","weights"]) fun _ _ _ _ _ _ us hl=>match us,hl with | [_,_],_=>rfl,
   kJ,⟨gk,fV,kJ.kp⟩,kJ.binds (ps:=["self","many"]) fun _ _ _ _ _ _ us hl=>match us,hl with | [_,_],_=>rfl,
   im,⟨ic,gU,im.kp⟩,im.binds (ps:=["self","place"]) fun _ _ _ _ _ _ us hl=>match us,hl with | [_,_],_=>rfl,
   gq,⟨gi,fT,gq.kp⟩,gq.binds (ps:=["self","owner"]) fun _ _ _ _ _ _ us hl=>match us,hl with | [_,_],_=>rfl,
   oZ,⟨oQ,nZ,oZ.kp⟩,oZ.binds (ps:=["self"]) fun _ _ _ _ _ _ us hl=>match us,hl with | [_],_=>rfl,
   oX,⟨oO,nX,oX.kp⟩,oX.binds (ps:=["self","wanted"]) fun _ _ _ _ _ _ us hl=>match us,hl with | [_,_],_=>rfl,
   gr,⟨gj,fU,gr.kp⟩,gr.binds (ps:=["self","owner","number"]) fun _ _ _ _ _ _ us hl=>match us,hl with | [_,_,_],_=>rfl,
   oY,⟨oP,nY,oY.kp⟩,oY.binds (ps:=["self","owner","number"]) fun _ _ _ _ _ _ us hl=>match us,hl with | [_,_,_],_=>rfl,
   kK,⟨gm,fW,kK.kp⟩,kK.binds (ps:=["self","slope","many"]) fun _ _ _ _ _ _ us hl=>match us,hl with | [_,_,_],_=>rfl,
   kI,⟨gh,fS,kI.kp⟩,kI.binds (ps:=["self","home","arms","rule","shuts"]) fun _ _ _ _ _ _ us hl=>match us,hl with | [_,_,_,_,_],_=>rfl,
   kN,⟨gp,fY,kN.kp⟩,kN.binds (ps:=["self","prime","salt"]) fun _ _ _ _ _ _ us hl=>match us,hl with | [_,_,_],_=>rfl,
   sY,⟨sT,si,sY.kp⟩,sY.binds (ps:=["self","deed"]) fun _ _ _ _ _ _ us hl=>match us,hl with | [_,_],_=>rfl,
   o0,⟨oS,n8,o0.kp⟩,o0.binds (ps:=["self","deed"]) fun _ _ _ _ _ _ us hl=>match us,hl with | [_,_],_=>rfl,
   iq,⟨ij,gY,iq.kp⟩,iq.binds (ps:=["self","name","slope"]) fun _ _ _ _ _ _ us hl=>match us,hl with | [_,_,_],_=>rfl,
   io,⟨ie,gW,io.kp⟩,io.binds (ps:=["self","name","trial"]) fun _ _ _ _ _ _ us hl=>match us,hl with | [_,_,_],_=>rfl,
   ip,⟨ii,gX,ip.kp⟩,ip.binds (ps:=["self","name","numbers"]) fun _ _ _ _ _ _ us hl=>match us,hl with | [_,_,_],_=>rfl,
   jq,⟨jl,jg,jq.kp⟩,jq.binds (ps:=["self","name","number"]) fun _ _ _ _ _ _ us hl=>match us,hl with | [_,_,_],_=>rfl,
   iw,⟨ik,gZ,iw.kp⟩,iw.binds (ps:=["self","name"]) fun _ _ _ _ _ _ us hl=>match us,hl with | [_,_],_=>rfl,
   jp,⟨jk,jf,jp.kp⟩,jp.binds (ps:=["self","layer","guests"]) fun _ _ _ _ _ _ us hl=>match us,hl with | [_,_,_],_=>rfl,
   ml,⟨mf,lP,ml.kp⟩,ml.binds (ps:=["self","layer","place"]) fun _ _ _ _ _ _ us hl=>match us,hl with | [_,_,_],_=>rfl,
   gt,⟨gn,fX,gt.kp⟩,gt.binds (ps:=["self","trial","arm"]) fun _ _ _ _ _ _ us hl=>match us,hl with | [_,_,_],_=>rfl,
   kM,⟨kz,j9,kM.kp⟩,kM.binds (ps:=["self","trial","arm"]) fun _ _ _ _ _ _ us hl=>match us,hl with | [_,_,_],_=>rfl,
   kL,⟨ky,j8,kL.kp⟩,kL.binds (ps:=["self","trial"]) fun _ _ _ _ _ _ us hl=>match us,hl with | [_,_],_=>rfl,
   Am,PySem.W.mg_of X G sR,Am.binds (ps:=["_law_script","_law_k"]) fun _ _ _ _ _ _ us hl=>match us,hl with | [_,_],_=>rfl,
   E7,PySem.W.mg_of X G zW,E7.binds (ps:=["_law_script","_law_k","_law_salt"]) fun _ _ _ _ _ _ us hl=>match us,hl with | [_,_,_],_=>rfl,
   GS,PySem.W.mg_of X G DD,GS.binds (ps:=["_law_k","_law_number"]) fun _ _ _ _ _ _ us hl=>match us,hl with | [_,_],_=>rfl,
   E8,PySem.W.mg_of X G zX,E8.binds (ps:=["_law_floor","_law_wanted_here","_law_prime"]) fun _ _ _ _ _ _ us hl=>match us,hl with | [_,_,_],_=>rfl,
   E6,PySem.W.mg_of X G zV,E6.binds (ps:=["_law_total","_law_weights"]) fun _ _ _ _ _ _ us hl=>match us,hl with | [_,_],_=>rfl,
   GT,PySem.W.mg_of X G DE,GT.binds (ps:=["_law_house","_law_deed_here"]) fun _ _ _ _ _ _ us hl=>match us,hl with | [_,_],_=>rfl,
   BX,PySem.W.mg_of X G we,BX.binds (ps:=["_law_script"]) fun _ _ _ _ _ _ us hl=>match us,hl with | [_],_=>rfl,
   GU,PySem.W.mg_of X G DF,GU.binds (ps:=["_law_script","_law_k","_law_prime","_law_layer","_law_trials_here"]) fun _ _ _ _ _ _ us hl=>match us,hl with | [_,_,_,_,_],_=>rfl,
   BW,PySem.W.mg_of X G wc,BW.binds (ps:=["_law_deed_here","_law_arms"]) fun _ _ _ _ _ _ us hl=>match us,hl with | [_,_],_=>rfl,
   E9,PySem.W.mg_of X G zY,E9.binds (ps:=["_law_house","_law_layer","_law_trials_here","_law_floor","_law_prime"]) fun _ _ _ _ _ _ us hl=>match us,hl with | [_,_,_,_,_],_=>rfl,
   MF,PySem.W.mg_of X G KL,MF.binds (ps:=["_law_script"]) fun _ _ _ _ _ _ us hl=>match us,hl with | [_],_=>rfl,
   ⟨_,PySem.W.mg_of X G vC,_,rfl⟩,
   ⟨_,PySem.W.mg_of X G lR,_,rfl⟩,
   ⟨_,PySem.W.mg_of X G ka,_,rfl⟩,
   ⟨_,PySem.W.mg_of X G jh,_,rfl⟩,
   ⟨_,PySem.W.mg_of X G lQ,_,rfl⟩,
   ⟨_,PySem.W.mg_of X G g6,_,rfl⟩,
   ⟨_,PySem.W.mg_of X G CZ,_,rfl⟩,
   ⟨_,PySem.W.mg_of X G om,_,rfl⟩,
   ⟨_,PySem.W.mg_of X G kc,_,rfl⟩,
   ⟨_,PySem.W.mg_of X G oj,_,rfl⟩,
   ⟨_,PySem.W.mg_of X G oa,_,rfl⟩,
   ⟨_,PySem.W.mg_of X G pP,_,rfl⟩,
   ⟨_,PySem.W.mg_of X G oh,_,rfl⟩,
   ⟨_,PySem.W.mg_of X G og,_,rfl⟩,
   PySem.W.mg_of X G DC,⟨yD,yz,yu,yp⟩,⟨yk,gk,fV,yf⟩,
   oz,
   kn,
   lT,
   PySem.W.mg_of X G DG,⟨yE,yA,yw,yq⟩,⟨ym,gm,fW,yg⟩,
   lV,
   lU,
   ko,
   PySem.W.mg_of X G DA,⟨yC,yy,yt,yo⟩,⟨yi,gh,fS,ye⟩,
   ox,
   oy,
   ou,
   lS,
   ki,
   kj,
   km,
   PySem.W.mg_of X G DH,⟨yF,yB,yx,yr⟩,⟨yn,gp,fY,yh⟩,
   ga,
   g9,
   eB,
   eA,
   gb,
   lW,
   PySem.W.mg_of X G oR,oB,
   PySem.W.mg_of X G wb,vM,
   PySem.W.mg_of X G zT,zA,
   PySem.W.mg_of X G zQ,zw,
   PySem.W.mg_of X G DB,De,
   PySem.W.mg_of X G v0,vJ,
   PySem.W.mg_of X G zU,zB,
   PySem.W.mg_of X G zR,zx,
   PySem.W.mg_of X G v1,vK,
   PySem.W.mg_of X G sQ,ss,
   PySem.W.mg_of X G wa,vL,
   PySem.W.mg_of X G zZ,zC,
   PySem.W.mg_of X G zS,zy,
   PySem.W.mg_of X G wf,⟨r6,sr,yR,vt,r9⟩,
   ⟨_,i6⟩,
   ⟨_,i3⟩,
   ⟨_,i4⟩,
   ⟨_,jL⟩,
   ⟨_,jK⟩,
   ⟨_,i5⟩,
   ⟨_,mZ⟩,
   ⟨_,i7⟩,
   ⟨_,lj⟩,
   ⟨_,i0⟩,
   PySem.W.mg_of X G Gg,⟨_,CT,Gy,Fd,rfl,rfl,by rw[←Array.length_toList,←Ca.length,sizeLine_eq];simp,Ca⟩,
   ⟨_,⟨_,_,_,_,gM,gK⟩,gL⟩,
   PySem.W.mg_none_of X G II,
   PySem.W.mg_none_of X G Fb,
   PySem.W.mg_none_of X G pi,
   PySem.W.mg_none_of X G IH,
   PySem.W.mg_none_of X G mL,
   PySem.W.mg_none_of X G IG,
   PySem.W.mg_none_of X G Fa,
   PySem.W.mg_none_of X G IF,
   PySem.W.mg_none_of X G IE,
   PySem.W.mg_none_of X G BZ,
   PySem.W.mg_none_of X G ra,
   PySem.W.mg_none_of X G ID,
   PySem.W.mg_none_of X G xu,
   PySem.W.mg_none_of X G IC,
   PySem.W.mg_none_of X G IB,
   PySem.W.mg_none_of X G BY,
   PySem.W.mg_none_of X G IA⟩,rfl⟩
end My
namespace PySem.W.Fast
def tw14009548254246876314:=()
def tw10927463288505794469:=()
def tw9791764609706893545:=()
def tw12377422996547747656:=()
def tw11268950707939129909:=()
def tw16308096898359302710:=()
def tw15450372209513662594:=()
def tw7301655508826088516:=()
def tw13277959080015526894:=()
def tw3282341724545058838:=()
def tw7756920555822474655:=()
def tw359637787838385487:=()
def tw10520437437830078076:=()
def tw3763454674239171144:=()
def tw17033517251024055274:=()
def tw2122767461297477634:=()
def tw14220854073143786486:=()
def tw13918145315749239053:=()
def tw345623989110922160:=()
def tw11266951898936601631:=()
def tw6389045943765840553:=()
def tw2476882251508781249:=()
def tw1225175024904520485:=()
def tw13267477802195822525:=()
def tw12741391564524529583:=()
def tw5718820447595001890:=()
def tw17593722488857218979:=()
def tw2528182495716519176:=()
def tw9294700328266645901:=()
def tw11522770198402918207:=()
def tw10860174977492101831:=()
def tw15921717731956001138:=()
def tw17836720921714319749:=()
def tw781254167989392429:=()
def tw5441762704903558056:=()
def tw16394667439572220447:=()
def tw11949219889687470672:=()
def tw11642184181261546036:=()
def tw13556162196193728244:=()
def tw15035657570476478100:=()
def tw910840660265231662:=()
def tw12949500248445189133:=()
def tw5390325137654601181:=()
def tw7871379705268524153:=()
def tw14271451955942416072:=()
def tw14426978934550877503:=()
def tw9727422389906845631:=()
def tw10711967935260076219:=()
def tw8895952762898846454:=()
def tw16568192125208588499:=()
def tw3561587309191196748:=()
def tw11912900962259991043:=()
def tw6597312416987215978:=()
def tw13874376607378104504:=()
def tw17665956548442218192:=()
def tw4757230851123269310:=()
def tw16909410468030363101:=()
def tw5763367865328275307:=()
def tw6336724154906026527:=()
def tw15437060616601652222:=()
def tw8930923839661520646:=()
def tw15422407931528319016:=()
def tw8223842750482696502:=()
def tw865172413062063128:=()
def tw1767788474136873295:=()
def tw9332371102902802354:=()
def tw10070847267028840969:=()
def tw12491535586034664356:=()
def tw11116658245449795349:=()
def tw2063941666433439471:=()
def tw14015332198353955332:=()
def tw756060943708242262:=()
def tw2778470633816650033:=()
def tw9222077971971526964:=()
def tw5992025763853582932:=()
def tw12404975595231338611:=()
def tw5454169136978997355:=()
def tw6246570090784368803:=()
def tw12530846771005497764:=()
def tw25716450992624946:=()
def tw9369641646352893962:=()
def tw14349897654342562601:=()
def tw15058922816176993401:=()
def tw5713975239715539317:=()
def tw11000756972725204220:=()
def tw8220900223732375205:=()
def tw557185338157735538:=()
def tw2665814275071003523:=()
def tw14585541792095270826:=()
def tw5852257622032201889:=()
def tw10076888249119263417:=()
def tw16946427228419568608:=()
def tw15319098724197711525:=()
def tw3805512973429091111:=()
def tw1383695157956036341:=()
def tw10762184051998904831:=()
def tw6603928433621567545:=()
def tw13127804228164991060:=()
def tw7707058037675409904:=()
def tw9043314105947636580:=()
def tw7746148367429961596:=()
def tw3009051398781552816:=()
def tw461414906559481353:=()
def tw14007558186695842960:=()
def tw14172416220623742328:=()
def tw981806388435982895:=()
def tw3871342006647181229:=()
def tw11199001774007323489:=()
def tw9741902138124066577:=()
def tw4005392454986986889:=()
def tw2083631639669097981:=()
def tw2044529435849570323:=()
def tw2449839457402950337:=()
def tw17594239022273732416:=()
def tw76857364750319215:=()
def tw1872154941322770287:=()
def tw12683150080294364690:=()
def tw13873871189133336093:=()
def tw9325028598044030103:=()
def tw11008900285879698481:=()
def tw9374409277319659906:=()
def tw5549035467660463937:=()
def tw4252847298016164256:=()
def tw17104430667928988818:=()
def tw10529696436276474814:=()
def tw996224244737879200:=()
def tw4301028019362778118:=()
def tw14301847739477702744:=()
def tw14129297571463616097:=()
def tw17488519145107243642:=()
def tw12237451422914966108:=()
def tw12312431273376500991:=()
def tw644300210634775855:=()
def tw8037913117244346387:=()
def tw11284319985472756482:=()
def tw646214997750591030:=()
def tw5375122695451446230:=()
def tw5379517051278850961:=()
def tw2941314080783091544:=()
def tw3259542672197751104:=()
def tw18365764877035420598:=()
def tw2756587063431633477:=()
def tw10656548158253908237:=()
def tw14394036828010904821:=()
def tw2365219486685733141:=()
def tw1916952108637573305:=()
def tw6094417249240823276:=()
def tw17649274050625932450:=()
def tw4968976776450076841:=()
def tw2469715898793224637:=()
def tw1584186088068888999:=()
def tw3085377349120472897:=()
def tw2209482521557078708:=()
def tw5926887129756225356:=()
def tw6654944905015834261:=()
def tw16506707512214597034:=()
def tw12790510414485451648:=()
def tw12525532239592575073:=()
def tw10538835499716064040:=()
def tw13069301072079911363:=()
def tw7160177884948664130:=()
def tw7763811996265256511:=()
def tw1987854302382617197:=()
def tw8525103232839319566:=()
def tw8306184175185901589:=()
def tw5159259164383956554:=()
def tw2732500291222767640:=()
def tw17221416328042271941:=()
def tw1111810504147284663:=()
def tw5220777205652232344:=()
def tw5074863063473921525:=()
def tw9539430608559096069:=()
def tw8718203971945207893:=()
def tw9007540809647855564:=()
def tw8441113771279346956:=()
def tw8238917420649525818:=()
def tw2933862981178839790:=()
def tw517727325676909692:=()
def tw18299660575879911211:=()
def tw13395645380336331986:=()
def tw11608962220406211518:=()
def tw6540705128174576248:=()
def tw17615502118322474580:=()
def tw9580147875422522194:=()
def tw556741225893811860:=()
def tw4056746071255234846:=()
def tw8085746264615798420:=()
def tw9975375039899802437:=()
def tw12006186701220826068:=()
def tw10163729093898122788:=()
def tw13049270518738932434:=()
def tw1198578431792861820:=()
def tw4846632709031902301:=()
def tw3254166198568202464:=()
def tw13408663709230741711:=()
def tw9824271940937218951:=()
def tw11133154600999726422:=()
def tw13777535225618537442:=()
def tw4695669049620704955:=()
def tw16799434624123907349:=()
def tw274466548027291019:=()
def tw451851466197208777:=()
def tw1384073877571568997:=()
def tw6997636126566866074:=()
def tw11459756790249983098:=()
def tw2396331418652172316:=()
def tw458402826655993847:=()
def tw12384486249136909686:=()
def tw11844329945135350498:=()
def tw1658243252282717465:=()
def tw7382255257183091902:=()
def tw6649159307389560516:=()
def tw8818187422965150002:=()
def tw6563297165133409333:=()
def tw3480643198279205785:=()
def tw4776468441596608581:=()
def tw3811912300514010701:=()
def tw10873732762811276419:=()
def tw1330016621657852372:=()
def tw16177297125460575284:=()
def tw15461635266790663755:=()
def tw14282229569554519488:=()
def tw3380669171629661723:=()
def tw10881895208399067008:=()
def tw11052127784891409764:=()
def tw1590780369527750223:=()
def tw8395315687881798505:=()
def tw2110772134522921374:=()
def tw9191089833782904186:=()
def tw8686235196511533362:=()
def tw14985833544625289175:=()
def tw11411279970085743771:=()
def tw12908118356888307872:=()
def tw13958692591286070063:=()
def tw15573670578049489683:=()
def tw17860016768122911864:=()
def tw18388504307633425893:=()
def tw3355705009116477265:=()
def tw9109416033024475955:=()
def tw5598138977868151376:=()
def tw4328454826641669183:=()
def tw3254356190620960262:=()
def tw4870833703016430413:=()
def tw15426663423181516905:=()
def tw14034153748933889751:=()
def tw10812050280821995855:=()
def tw7749659137986254796:=()
def tw10808193673329444382:=()
def tw16779182256238790187:=()
def tw9153067358360702602:=()
def tw16342138405034954953:=()
def tw9648631289802599997:=()
def tw10933993571584189811:=()
def tw7950747847488131825:=()
def tw17822978130647148045:=()
def tw9975667068500743693:=()
def tw9412073089245321983:=()
def tw1330825955604541552:=()
def tw16361600455670005720:=()
def tw14768700329638268628:=()
def tw9391503629922462347:=()
def tw4328053580658390004:=()
def tw8277312392381605339:=()
def tw13273230027298669542:=()
def tw15849984694797122342:=()
def tw17027280141092958242:=()
def tw5005578392441331698:=()
def tw411153758545531873:=()
def tw5678468792380206612:=()
def tw17989663405681450603:=()
def tw6248728811617867210:=()
def tw15975594580505800109:=()
def tw15687975991961262729:=()
def tw17472674421377392621:=()
def tw11481097273128624660:=()
def tw9657573357277998180:=()
def tw14259082151507330011:=()
def tw17045174912454822556:=()
def tw7555256014897277238:=()
def tw9196139141954234454:=()
def tw12108663345992362038:=()
def tw12477401875173550423:=()
end PySem.W.Fast
open PySem PySem.W PyProof.Rows
set_option maxRecDepth 100000 in
set_option maxHeartbeats 0 in
theorem PySem.Challenge.cw_layersplit_k19_shares_in_a_house_holds : PySem.Challenge.rw_layersplit_k19_shares_in_a_house.Holds := by
 w_on;o_law;k_head;(case hw=>w_witness2)
 k_fill
 refine L2.IK (l:=PySem.Challenge.rw_layersplit_k19_shares_in_a_house) (n:=63) (k:=10) (x:="_law_script") (CX:=L2.CX0) (sp:=My.Jd) rfl (by decide) rfl ⟨rfl,by decide,by decide⟩ (fun w h Y=>PySem.W.kIn_of Y) ?F ?S ?C
 case F=>
  intro w mg fa h KX G hmg
  have T: ∃a:My.Adr,My.Txt (L2.KOf KX) mg a∧w.params=a.pm:=by
   dsimp only[L2.KOf]
   refine' My.Oa KX G ?DC ?DG ?DA ?DH ?oR ?wb ?zT ?zQ ?DB ?v0 ?zU ?zR ?v1 ?sQ ?wa ?zZ ?zS ?yD ?yz ?yu ?yp ?yk ?yf ?oz ?kn ?lT ?yE ?yA ?yw ?yq ?ym ?yg ?lV ?lU ?ko ?yC ?yy ?yt ?yo ?yi ?ye ?ox ?oy ?ou ?lS ?ki ?kj ?km ?yF ?yB ?yx ?yr ?yn ?yh ?ga ?g9 ?eB ?eA ?gb ?lW ?oB ?vM ?zA ?zw ?De ?vJ ?zB ?zx ?vK ?ss ?vL ?zC ?zy ?sK ?rS ?oE ?nK ?vX ?vk ?sM ?rV ?sO ?rX ?oN ?nS ?sI ?rQ ?vZ ?vo ?sN ?rW ?vY ?vn ?sL ?rT ?qh ?pM ?oM ?nR ?me ?lN ?sP ?rY ?ma ?lL ?oF ?nL ?oG ?nM ?qi ?pN ?ib ?gO ?l9 ?lK ?l8 ?lJ ?lZ ?lH ?oK ?nQ ?l6 ?lI ?md ?lM ?kx ?jY ?jj ?jc ?oI ?nO ?lY ?lG ?oH ?nN ?oJ ?nP ?sJ ?rR ?Dz ?CN ?gk ?fV ?j0 ?ic ?gU ?gP ?gi ?fT ?fO ?oQ ?nZ ?nV ?oO ?nX ?nT ?gj ?fU ?fP ?oP ?nY ?nU ?gm ?fW ?j3 ?gh ?fS ?jZ ?gp ?fY ?j6 ?sT ?si ?r0 ?oS ?n8 ?nW ?ij ?gY ?gS ?ie ?gW ?gQ ?ii ?gX ?gR ?jl ?jg ?je ?ik ?gZ ?gT ?jk ?jf ?jd ?mf ?lP ?lO ?gn ?fX ?fQ ?kz ?j9 ?j5 ?ky ?j8 ?j4 ?sR ?rZ ?zW ?y6 ?DD ?CO ?zX ?y7 ?zV ?y4 ?DE ?CP ?we ?vq ?DF ?CQ ?wc ?vp ?zY ?y8 ?KL ?J4 ?vC ?lR ?ka ?jh ?lQ ?g6 ?CZ ?om ?kc ?oj ?oa ?pP ?oh ?og ?wf ?vt ?r9 ?r6 ?i6 ?i3 ?i4 ?jL ?jK ?i5 ?mZ ?i7 ?lj ?i0 ?Gg ?Fd ?Ca ?gM ?gK ?gL ?II ?Fb ?pi ?IH ?mL ?IG ?Fa ?IF ?IE ?BZ ?ra ?ID ?xu ?IC ?IB ?BY ?IA
   (case DC=>k_is);(case DG=>k_is);(case DA=>k_is);(case DH=>k_is);(case oR=>k_is);(case wb=>k_is);(case zT=>k_is);(case zQ=>k_is)
   (case DB=>k_is);(case v0=>k_is);(case zU=>k_is);(case zR=>k_is);(case v1=>k_is);(case sQ=>k_is);(case wa=>k_is);(case zZ=>k_is)
   (case zS=>k_is);(case yD=>k_is);(case yz=>k_is);(case yu=>k_is);(case yp=>k_is);(case yk=>k_is);(case yf=>k_is);(case oz=>k_is)
   (case kn=>k_is);(case lT=>k_is);(case yE=>k_is);(case yA=>k_is);(case yw=>k_is);(case yq=>k_is);(case ym=>k_is);(case yg=>k_is)
   (case lV=>k_is);(case lU=>k_is);(case ko=>k_is);(case yC=>k_is);(case yy=>k_is);(case yt=>k_is);(case yo=>k_is);(case yi=>k_is)
   (case ye=>k_is);(case ox=>k_is);(case oy=>k_is);(case ou=>k_is);(case lS=>k_is);(case ki=>k_is);(case kj=>k_is);(case km=>k_is)
   (case yF=>k_is);(case yB=>k_is);(case yx=>k_is);(case yr=>k_is);(case yn=>k_is);(case yh=>k_is);(case ga=>k_is);(case g9=>k_is)
   (case eB=>k_is);(case eA=>k_is);(case gb=>k_is);(case lW=>k_is);(case oB=>k_exc);(case vM=>k_exc);(case zA=>k_exc);(case zw=>k_exc)
   (case De=>k_exc);(case vJ=>k_exc);(case zB=>k_exc);(case zx=>k_exc);(case vK=>k_exc);(case ss=>k_exc);(case vL=>k_exc);(case zC=>k_exc)
   (case zy=>k_exc);(case sK=>k_is);(case rS=>exact⟨_,L2.aG (by k_is) (by k_is) (by k_is)⟩);(case oE=>k_is);(case nK=>exact⟨_,L2.aG (by k_is) (by k_is) (by k_is)⟩);(case vX=>k_is);(case vk=>exact⟨_,L2.aG (by k_is) (by k_is) (by k_is)⟩);(case sM=>k_is)
   (case rV=>exact⟨_,L2.aG (by k_is) (by k_is) (by k_is)⟩);(case sO=>k_is);(case rX=>exact⟨_,L2.aG (by k_is) (by k_is) (by k_is)⟩);(case oN=>k_is);(case nS=>exact⟨_,L2.aG (by k_is) (by k_is) (by k_is)⟩);(case sI=>k_is);(case rQ=>exact⟨_,L2.aG (by k_is) (by k_is) (by k_is)⟩);(case vZ=>k_is)
   (case vo=>exact⟨_,L2.aG (by k_is) (by k_is) (by k_is)⟩);(case sN=>k_is);(case rW=>exact⟨_,L2.aG (by k_is) (by k_is) (by k_is)⟩);(case vY=>k_is);(case vn=>exact⟨_,L2.aG (by k_is) (by k_is) (by k_is)⟩);(case sL=>k_is);(case rT=>exact⟨_,L2.aG (by k_is) (by k_is) (by k_is)⟩);(case qh=>k_is)
   (case pM=>exact⟨_,L2.aG (by k_is) (by k_is) (by k_is)⟩);(case oM=>k_is);(case nR=>exact⟨_,L2.aG (by k_is) (by k_is) (by k_is)⟩);(case me=>k_is);(case lN=>exact⟨_,L2.aG (by k_is) (by k_is) (by k_is)⟩);(case sP=>k_is);(case rY=>exact⟨_,L2.aG (by k_is) (by k_is) (by k_is)⟩);(case ma=>k_is)
   (case lL=>exact⟨_,L2.aG (by k_is) (by k_is) (by k_is)⟩);(case oF=>k_is);(case nL=>exact⟨_,L2.aG (by k_is) (by k_is) (by k_is)⟩);(case oG=>k_is);(case nM=>exact⟨_,L2.aG (by k_is) (by k_is) (by k_is)⟩);(case qi=>k_is);(case pN=>exact⟨_,L2.aG (by k_is) (by k_is) (by k_is)⟩);(case ib=>k_is)
   (case gO=>exact⟨_,L2.aG (by k_is) (by k_is) (by k_is)⟩);(case l9=>k_is);(case lK=>exact⟨_,L2.aG (by k_is) (by k_is) (by k_is)⟩);(case l8=>k_is);(case lJ=>exact⟨_,L2.aG (by k_is) (by k_is) (by k_is)⟩);(case lZ=>k_is);(case lH=>exact⟨_,L2.aG (by k_is) (by k_is) (by k_is)⟩);(case oK=>k_is)
   (case nQ=>exact⟨_,L2.aG (by k_is) (by k_is) (by k_is)⟩);(case l6=>k_is);(case lI=>exact⟨_,L2.aG (by k_is) (by k_is) (by k_is)⟩);(case md=>k_is);(case lM=>exact⟨_,L2.aG (by k_is) (by k_is) (by k_is)⟩);(case kx=>k_is);(case jY=>exact⟨_,L2.aG (by k_is) (by k_is) (by k_is)⟩);(case jj=>k_is)
   (case jc=>exact⟨_,L2.aG (by k_is) (by k_is) (by k_is)⟩);(case oI=>k_is);(case nO=>exact⟨_,L2.aG (by k_is) (by k_is) (by k_is)⟩);(case lY=>k_is);(case lG=>exact⟨_,L2.aG (by k_is) (by k_is) (by k_is)⟩);(case oH=>k_is);(case nN=>exact⟨_,L2.aG (by k_is) (by k_is) (by k_is)⟩);(case oJ=>k_is)
   (case nP=>exact⟨_,L2.aG (by k_is) (by k_is) (by k_is)⟩);(case sJ=>k_is);(case rR=>exact⟨_,L2.aG (by k_is) (by k_is) (by k_is)⟩);(case Dz=>k_is);(case CN=>exact⟨_,L2.aG (by k_is) (by k_is) (by k_is)⟩);(case gk=>k_is);(case fV=>k_is);(case j0=>exact⟨_,L2.aG (by k_is) (by k_is) (by k_is)⟩)
   (case ic=>k_is);(case gU=>k_is);(case gP=>exact⟨_,L2.aG (by k_is) (by k_is) (by k_is)⟩);(case gi=>k_is);(case fT=>k_is);(case fO=>exact⟨_,L2.aG (by k_is) (by k_is) (by k_is)⟩);(case oQ=>k_is);(case nZ=>k_is)
   (case nV=>exact⟨_,L2.aG (by k_is) (by k_is) (by k_is)⟩);(case oO=>k_is);(case nX=>k_is);(case nT=>exact⟨_,L2.aG (by k_is) (by k_is) (by k_is)⟩);(case gj=>k_is);(case fU=>k_is);(case fP=>exact⟨_,L2.aG (by k_is) (by k_is) (by k_is)⟩);(case oP=>k_is)
   (case nY=>k_is);(case nU=>exact⟨_,L2.aG (by k_is) (by k_is) (by k_is)⟩);(case gm=>k_is);(case fW=>k_is);(case j3=>exact⟨_,L2.aG (by k_is) (by k_is) (by k_is)⟩);(case gh=>k_is);(case fS=>k_is);(case jZ=>exact⟨_,L2.aG (by k_is) (by k_is) (by k_is)⟩)
   (case gp=>k_is);(case fY=>k_is);(case j6=>exact⟨_,L2.aG (by k_is) (by k_is) (by k_is)⟩);(case sT=>k_is);(case si=>k_is);(case r0=>exact⟨_,L2.aG (by k_is) (by k_is) (by k_is)⟩);(case oS=>k_is);(case n8=>k_is)
   (case nW=>exact⟨_,L2.aG (by k_is) (by k_is) (by k_is)⟩);(case ij=>k_is);(case gY=>k_is);(case gS=>exact⟨_,L2.aG (by k_is) (by k_is) (by k_is)⟩);(case ie=>k_is);(case gW=>k_is);(case gQ=>exact⟨_,L2.aG (by k_is) (by k_is) (by k_is)⟩);(case ii=>k_is)
   (case gX=>k_is);(case gR=>exact⟨_,L2.aG (by k_is) (by k_is) (by k_is)⟩);(case jl=>k_is);(case jg=>k_is);(case je=>exact⟨_,L2.aG (by k_is) (by k_is) (by k_is)⟩);(case ik=>k_is);(case gZ=>k_is);(case gT=>exact⟨_,L2.aG (by k_is) (by k_is) (by k_is)⟩)
   (case jk=>k_is);(case jf=>k_is);(case jd=>exact⟨_,L2.aG (by k_is) (by k_is) (by k_is)⟩);(case mf=>k_is);(case lP=>k_is);(case lO=>exact⟨_,L2.aG (by k_is) (by k_is) (by k_is)⟩);(case gn=>k_is);(case fX=>k_is)
   (case fQ=>exact⟨_,L2.aG (by k_is) (by k_is) (by k_is)⟩);(case kz=>k_is);(case j9=>k_is);(case j5=>exact⟨_,L2.aG (by k_is) (by k_is) (by k_is)⟩);(case ky=>k_is);(case j8=>k_is);(case j4=>exact⟨_,L2.aG (by k_is) (by k_is) (by k_is)⟩);(case sR=>k_is)
   (case rZ=>exact⟨_,L2.aG (by k_is) (by k_is) (by k_is)⟩);(case zW=>k_is);(case y6=>exact⟨_,L2.aG (by k_is) (by k_is) (by k_is)⟩);(case DD=>k_is);(case CO=>exact⟨_,L2.aG (by k_is) (by k_is) (by k_is)⟩);(case zX=>k_is);(case y7=>exact⟨_,L2.aG (by k_is) (by k_is) (by k_is)⟩);(case zV=>k_is)
   (case y4=>exact⟨_,L2.aG (by k_is) (by k_is) (by k_is)⟩);(case DE=>k_is);(case CP=>exact⟨_,L2.aG (by k_is) (by k_is) (by k_is)⟩);(case we=>k_is);(case vq=>exact⟨_,L2.aG (by k_is) (by k_is) (by k_is)⟩);(case DF=>k_is);(case CQ=>exact⟨_,L2.aG (by k_is) (by k_is) (by k_is)⟩);(case wc=>k_is)
   (case vp=>exact⟨_,L2.aG (by k_is) (by k_is) (by k_is)⟩);(case zY=>k_is);(case y8=>exact⟨_,L2.aG (by k_is) (by k_is) (by k_is)⟩);(case KL=>k_is);(case J4=>exact⟨_,L2.aG (by k_is) (by k_is) (by k_is)⟩);(case vC=>k_is);(case lR=>k_is);(case ka=>k_is)
   (case jh=>k_is);(case lQ=>k_is);(case g6=>k_is);(case CZ=>k_is);(case om=>k_is);(case kc=>k_is);(case oj=>k_is);(case oa=>k_is)
   (case pP=>k_is);(case oh=>k_is);(case og=>k_is);(case wf=>k_is);(case vt=>k_is);(case r9=>k_keys);(case r6=>decide);(case i6=>k_is)
   (case i3=>k_is);(case i4=>k_is);(case jL=>k_is);(case jK=>k_is);(case i5=>k_is);(case mZ=>k_is);(case i7=>k_is);(case lj=>k_is)
   (case i0=>k_is);(case Gg=>k_is);(case Fd=>k_is);(case Ca=>(repeat (first |exact .nil |refine .cons ⟨_,rfl⟩ ?_)));(case gM=>k_is);(case gK=>rfl);(case gL=>decide);(case II=>k_is)
   (case Fb=>k_is);(case pi=>k_is);(case IH=>k_is);(case mL=>k_is);(case IG=>k_is);(case Fa=>k_is);(case IF=>k_is);(case IE=>k_is)
   (case BZ=>k_is);(case ra=>k_is);(case ID=>k_is);(case xu=>k_is);(case IC=>k_is);(case IB=>k_is);(case BY=>k_is);(case IA=>k_is)
  obtain⟨a,T,hw⟩:=T
  have e0:=hmg.symm.trans T.O0
  cases e0
  exact⟨a.so,My.HG T,fun base kb nb=>My.Nw T hw⟩
 case S=>exact fun K H a ns hl hO hS=>My.HF hl hS
 case C=>exact fun _ _ _ _ z=>z
#print axioms PySem.Challenge.cw_layersplit_k19_shares_in_a_house_holds
