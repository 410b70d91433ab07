import PyProof.Rows.All
import Wide.All
import OpenK.AllK
import Wide.FinOn
import Lean
import PyProof.EqAt
import PyProof.EqKinds
import PyProof.TupleCall
import KE.KRevIter
import KE.KDictList
import KE.KDictLaws
import KE.KDictOf
import PyProof.AttrMissHeap
import PyProof.Rows.SortRuns
import KE.KSortTup
import PySem.Challenge.RW_layersplit_k12_places_stay_while_growing
set_option Elab.async false
set_option linter.all false
set_option maxRecDepth 100000
namespace L2
open PySem PySem.Spec PyProof.Rows
abbrev Key := Sum Int Str
def keyIs : Key → Value → Bool
  | .inl k, v => Value.isInt k v
  | .inr x, v => Value.isStrOf x v
def keyH (w : World) : Key → Int
  | .inl k => hashInt k
  | .inr x => hashStr w x
theorem keyIs_shape : ∀ {k : Key} {v : Value}, keyIs k v = true → (∃ i t, k = Sum.inl i ∧ v = Value.int i t) ∨ (∃ x t, k = Sum.inr x ∧ v = Value.str x t)
  | .inl i, v, h => by
    obtain ⟨t, e⟩ := Value.isInt_shape (k := i) (v := v) h
    exact .inl ⟨i, t, rfl, e⟩
  | .inr x, v, h => by
    obtain ⟨t, e⟩ := Value.isStrOf_shape (x := x) (v := v) h
    exact .inr ⟨x, t, rfl, e⟩
theorem keyIs_int (i : Int) (t : Tok) : keyIs (.inl i) (.int i t) = true := by simp [keyIs, Value.isInt]
theorem keyIs_str (x : Str) (t : Tok) : keyIs (.inr x) (.str x t) = true := by simp [keyIs, Value.isStrOf]
theorem key_ll (a b : Int) : decide ((Sum.inl a : Key) = Sum.inl b) = (a == b) := by
  by_cases e : a = b
  · subst e; simp
  · have h : ¬ (Sum.inl a : Key) = Sum.inl b := fun q => e (Sum.inl.inj q)
    rw [decide_eq_false h]
    exact (beq_eq_false_iff_ne.mpr e).symm
theorem key_rr (a b : Str) : decide ((Sum.inr a : Key) = Sum.inr b) = decide (a = b) := by
  by_cases e : a = b
  · subst e; simp
  · have h : ¬ (Sum.inr a : Key) = Sum.inr b := fun q => e (Sum.inr.inj q)
    rw [decide_eq_false h, decide_eq_false e]
theorem key_lr (a : Int) (b : Str) : decide ((Sum.inl a : Key) = Sum.inr b) = false := decide_eq_false (fun q => nomatch q)
theorem key_rl (a : Str) (b : Int) : decide ((Sum.inr a : Key) = Sum.inl b) = false := decide_eq_false (fun q => nomatch q)
def mixKind (prog : Program) (w : World) : PySem.KeyKind prog w Key where
  is := keyIs
  hash := keyH w
  inj := fun v a b ha hb => by
    rcases keyIs_shape ha with ⟨i, t, rfl, rfl⟩ | ⟨x, t, rfl, rfl⟩
    · rcases keyIs_shape hb with ⟨j, u, rfl, e⟩ | ⟨y, u, rfl, e⟩
      · injection e with e1 _; rw [e1]
      · exact nomatch e
    · rcases keyIs_shape hb with ⟨j, u, rfl, e⟩ | ⟨y, u, rfl, e⟩
      · exact nomatch e
      · injection e with e1 _; rw [e1]
  byValue := fun k v h => by
    rcases keyIs_shape h with ⟨i, t, rfl, rfl⟩ | ⟨x, t, rfl, rfl⟩ <;> rfl
  pyHash := fun hv h => by
    rcases keyIs_shape hv with ⟨i, t, rfl, rfl⟩ | ⟨x, t, rfl, rfl⟩
    · exact wpAny_pyHash_int h
    · exact wpAny_pyHash_str h
  eqBool := fun hu hv h => by
    rcases keyIs_shape hu with ⟨i, t, rfl, rfl⟩ | ⟨x, t, rfl, rfl⟩
    · rcases keyIs_shape hv with ⟨j, u, rfl, rfl⟩ | ⟨y, u, rfl, rfl⟩
      · rw [key_ll] at h; exact wpAny_eqBool_int h
      · rw [key_lr] at h; exact SeqAt.EqAt.int_str i t y u _ _ _ _ h
    · rcases keyIs_shape hv with ⟨j, u, rfl, rfl⟩ | ⟨y, u, rfl, rfl⟩
      · rw [key_rl] at h; exact SeqAt.EqAt.str_int x t j u _ _ _ _ h
      · rw [key_rr] at h; exact wpAny_eqBool_str h
  «strs» := fun k x t v h => by
    rcases keyIs_shape h with ⟨i, u, rfl, e⟩ | ⟨y, u, rfl, e⟩
    · exact nomatch e
    · injection e with e1 _
      subst e1
      cases v <;> rfl
theorem mixKind_int (prog : Program) (w : World) (i : Int) (t : Tok) : (mixKind prog w).is (.inl i) (.int i t) = true := keyIs_int i t
theorem mixKind_str (prog : Program) (w : World) (x : Str) (t : Tok) : (mixKind prog w).is (.inr x) (.str x t) = true := keyIs_str x t
end L2
namespace L2
open PySem PySem.Spec PyProof.Rows
inductive V where
  | non | bl (b : Bool) | int (i : Int) | str (x : Str) | byt (b : Array UInt8) | flt (b : UInt64) | ref (a : Addr) | ty (n : String)
  deriving DecidableEq
def RelV : V → Value → Prop
  | .non, u => u = Value.none
  | .bl b, u => u = Value.bool b
  | .int i, u => ∃ t, u = Value.int i t
  | .str x, u => ∃ t, u = Value.str x t
  | .byt b, u => ∃ t, u = Value.bytes b t
  | .flt b, u => ∃ t, u = Value.float b t
  | .ref a, u => u = Value.ref a
  | .ty n, u => u = Value.type n
abbrev Vals : List V → List Value → Prop := Paired RelV
theorem Vals.length {xs : List V} {us : List Value} (r : Vals xs us) : xs.length = us.length := Paired.length r
theorem Vals.get : ∀ {xs : List V} {us : List Value} {i : Nat} {x : V}, Vals xs us → xs[i]? = some x → ∃ u, us[i]? = some u ∧ RelV x u
  | _, _, _, _, .nil, e => by simp at e
  | _, _, 0, _, .cons r _, e => by simp at e; subst e; exact ⟨_, rfl, r⟩
  | _, _, i + 1, x, .cons _ t, e => by
    obtain ⟨u, h1, h2⟩ := Vals.get (i := i) (x := x) t (by simpa using e)
    exact ⟨u, by simpa using h1, h2⟩
theorem Vals.set {x : V} {u : Value} (r : RelV x u) : ∀ {xs : List V} {us : List Value} (i : Nat), Vals xs us → Vals (xs.set i x) (us.set i u)
  | _, _, _, .nil => .nil
  | _, _, 0, .cons _ t => .cons r t
  | _, _, i + 1, .cons q t => .cons q (Vals.set r i t)
theorem Vals.append : ∀ {xs ys : List V} {us ws : List Value}, Vals xs us → Vals ys ws → Vals (xs ++ ys) (us ++ ws)
  | _, _, _, _, .nil, s => s
  | _, _, _, _, .cons r t, s => .cons r (Vals.append t s)
theorem Vals.take : ∀ {xs : List V} {us : List Value} (n : Nat), Vals xs us → Vals (xs.take n) (us.take n)
  | _, _, 0, _ => .nil
  | _, _, _ + 1, .nil => .nil
  | _, _, n + 1, .cons r t => .cons r (Vals.take n t)
theorem Vals.drop : ∀ {xs : List V} {us : List Value} (n : Nat), Vals xs us → Vals (xs.drop n) (us.drop n)
  | _, _, 0, r => r
  | _, _, _ + 1, .nil => .nil
  | _, _, n + 1, .cons _ t => Vals.drop n t
theorem Vals.none_of : ∀ {xs : List V} {us : List Value} {i : Nat}, Vals xs us → xs[i]? = none → us[i]? = none := fun {xs us i} r e => by
  have h1 := r.length
  have h2 : xs.length ≤ i := List.getElem?_eq_none_iff.mp e
  exact List.getElem?_eq_none_iff.mpr (by omega)
def RelO : Option V → Option Value → Prop
  | some v, some u => RelV v u
  | none, none => True
  | _, _ => False
def KV {κ : Type} : List (κ × V) → List (κ × Value) → Prop := Paired fun (p : κ × V) (q : κ × Value) => p.1 = q.1 ∧ RelV p.2 q.2
def kV : Key → V
  | .inl i => .int i
  | .inr x => .str x
inductive HO where
  | lst (xs : List V)
  | tup (xs : List V)
  | dK (kvs : List (Key × V)) | dT (kvs : List (List Key × V))
  | set (S : Int → Bool) (n : Nat)
  | ins (C dx : Addr) (fs : List (Str × V))
  | own (x : Addr)
  | xd (fs : List (Str × V))
  | met (f x : Addr)
  | rng (lo hi : Int)
  | frz (o : Obj) (u : HO)
  | tbl (ps : Array Value)
  | ext (φ : Heap → Prop)
abbrev Hp := Addr → Option HO
def upd (H : Hp) (a : Addr) (o : HO) : Hp := fun b => if b = a then some o else H b
theorem upd_same {H : Hp} {a : Addr} {o : HO} : upd H a o a = some o := by unfold upd; rw [if_pos rfl]
theorem upd_ne {H : Hp} {a b : Addr} {o : HO} (h : b ≠ a) : upd H a o b = H b := by unfold upd; rw [if_neg h]
theorem upd_upd {H : Hp} {a : Addr} {o u : HO} : upd (upd H a o) a u = upd H a u := by
  funext b; unfold upd; split <;> rfl
theorem ne_of {H : Hp} {a b : Addr} {o u : HO} (h : H a = some o) (h' : H b = some u) (d : o ≠ u) : a ≠ b := by
  intro e; subst e; rw [h] at h'; exact d (Option.some.inj h')
theorem ne_of_none {H : Hp} {a b : Addr} {o : HO} (h : H a = some o) (h' : H b = none) : a ≠ b := by
  intro e; subst e; rw [h] at h'; cases h'
section
variable (P : Program) (w : World)
def ObjOk (H : Hp) (h : Heap) (a : Addr) : HO → Prop
  | .lst xs => xs.length ≤ sizeLine ∧ ∃ (its : List Value) (n : Nat), Vals xs its ∧ h.get? a = some { cls := .type "list", data := .seq its.toArray n }
  | .tup xs => xs.length ≤ sizeLine ∧ ∃ its : List Value, Vals xs its ∧ IsTup h a its.toArray
  | .dK kvs => kvs.length ≤ sizeLine ∧ (a == sysModules) = false ∧ ∃ vs, KV kvs vs ∧ h.DictOf (mixKind P w) a vs
  | .dT kvs => kvs.length ≤ sizeLine ∧ (a == sysModules) = false ∧ ∃ xs : List (List Key × Addr × Value),
      Paired (fun (p : List Key × V) (q : List Key × Addr × Value) => p.1 = q.1 ∧ H q.2.1 = some (.tup (p.1.map kV)) ∧ RelV p.2 q.2.2) kvs xs ∧
      ∃ o es ep, h.get? a = some o ∧ o.ExactDict ∧ o.data = .dict es ep ∧ es.toList = xs.map (entryOfKey (tupleKind (mixKind P w))) ∧ (xs.map (·.1)).Nodup
  | .set S n => h.SetOf (intKind P w) a S n
  | .ins C dx fs => H dx = some (.own a) ∧ fs.length ≤ 1000 ∧ dx ≠ a ∧ h.get? a = some (PySem.W.instObj C dx) ∧
      ∃ mA, h.Ns1 dx mA ∧ (∀ f, RelO (fs.lookup f) (mA f)) ∧ PySem.Within mA (fs.map (·.1))
  | .own _ => ∃ o, h.get? a = some o
  | .xd fs => ∃ mA, h.Ns1 a mA ∧ ∀ f, RelO (fs.lookup f) (mA f)
  | .rng lo hi => ∃ t u v, h.get? a = some { cls := .type "range", data := .fields #[.int lo t, .int hi u, .int 1 v] }
  | .frz o u => h.get? a = some o ∧ ObjOk H h a u
  | .tbl ps => h.get? a = some { cls := .none, data := .fields ps }
  | .met f x => h.get? a = some (PySem.W.methodObj (.ref f) (.ref x))
  | .ext φ => φ h ∧ (∃ o, h.get? a = some o) ∧ ∀ h1 h2 : Heap, φ h1 → (∀ o, h1.get? a = some o → h2.get? a = some o) → φ h2
def HOk (H : Hp) (h : Heap) : Prop := ∀ a o, H a = some o → ObjOk P w H h a o
end
section
variable {P : Program} {w : World} {H H' : Hp} {h h' : Heap} {a : Addr} {o : HO}
theorem ObjOk.lt (x : ObjOk P w H h a o) : a < h.objs.size := by
  cases o with
  | lst xs => obtain ⟨_, _, _, _, e⟩ := x; exact Heap.lt_size e
  | tup xs => obtain ⟨_, _, _, p⟩ := x; exact p.lt
  | dK kvs => obtain ⟨_, _, _, _, o, _, _, e, _⟩ := x; exact Heap.lt_size e
  | dT kvs => obtain ⟨_, _, _, _, o, _, _, e, _⟩ := x; exact Heap.lt_size e
  | set S n => obtain ⟨o, _, _, _, e, _⟩ := x; exact Heap.lt_size e
  | ins C dx fs => obtain ⟨_, _, _, e, _⟩ := x; exact Heap.lt_size e
  | own y => obtain ⟨_, e⟩ := x; exact Heap.lt_size e
  | xd fs => obtain ⟨_, ⟨_, _, _, e, _⟩, _⟩ := x; exact Heap.lt_size e
  | rng lo hi => obtain ⟨_, _, _, e⟩ := x; exact Heap.lt_size e
  | frz ob u => obtain ⟨e, _⟩ := x; exact Heap.lt_size e
  | tbl ps => exact Heap.lt_size (show h.get? a = some _ from x)
  | met f y => exact Heap.lt_size (show h.get? a = some _ from x)
  | ext φ => obtain ⟨_, ⟨_, e⟩, _⟩ := x; exact Heap.lt_size e
theorem Paired.mapP {α β : Type} {F G : α → β → Prop} : ∀ {l₁ : List α} {l₂ : List β}, Paired F l₁ l₂ → (∀ a b, F a b → G a b) → Paired G l₁ l₂
  | _, _, .nil, _ => .nil
  | _, _, .cons r t, f => .cons (f _ _ r) (Paired.mapP t f)
theorem ObjOk.stay (x : ObjOk P w H h a o) (k : ∀ b u, (b = a ∨ H b = some (.own a)) → h.get? b = some u → h'.get? b = some u)
    (ho : ∀ b, H b = some (.own a) → H' b = some (.own a)) (ht : ∀ b xs, H b = some (.tup xs) → H' b = some (.tup xs)) : ObjOk P w H' h' a o := by
  induction o with
  | lst xs => obtain ⟨z, its, n, r, e⟩ := x; exact ⟨z, its, n, r, k _ _ (.inl rfl) e⟩
  | tup xs => obtain ⟨z, its, r, ob, e, c⟩ := x; exact ⟨z, its, r, ob, k _ _ (.inl rfl) e, c⟩
  | dK kvs => obtain ⟨z, y, vs, r, ob, es, ep, e, c⟩ := x; exact ⟨z, y, vs, r, ob, es, ep, k _ _ (.inl rfl) e, c⟩
  | dT kvs =>
    obtain ⟨z, y, xs, r, ob, es, ep, e, c⟩ := x
    exact ⟨z, y, xs, Paired.mapP r fun p q z => ⟨z.1, ht _ _ z.2.1, z.2.2⟩, ob, es, ep, k _ _ (.inl rfl) e, c⟩
  | set S n => obtain ⟨ob, es, ep, t, e, c⟩ := x; exact ⟨ob, es, ep, t, k _ _ (.inl rfl) e, c⟩
  | ins C dx fs =>
    obtain ⟨d, z, ne, e, mA, ⟨od, es, ep, e2, c⟩, r⟩ := x
    exact ⟨ho _ d, z, ne, k _ _ (.inl rfl) e, mA, ⟨od, es, ep, k _ _ (.inr d) e2, c⟩, r⟩
  | own y => obtain ⟨ob, e⟩ := x; exact ⟨ob, k _ _ (.inl rfl) e⟩
  | xd fs => obtain ⟨mA, ⟨od, es, ep, e, c⟩, r⟩ := x; exact ⟨mA, ⟨od, es, ep, k _ _ (.inl rfl) e, c⟩, r⟩
  | rng lo hi => obtain ⟨t, u, v, e⟩ := x; exact ⟨t, u, v, k _ _ (.inl rfl) e⟩
  | frz ob u ih => obtain ⟨e, q⟩ := x; exact ⟨k _ _ (.inl rfl) e, ih q⟩
  | tbl ps =>
    have e : h.get? a = some { cls := .none, data := .fields ps } := x
    show h'.get? a = some { cls := .none, data := .fields ps }
    exact k a _ (.inl rfl) e
  | met f y =>
    have e : h.get? a = some (PySem.W.methodObj (.ref f) (.ref y)) := x
    show h'.get? a = some (PySem.W.methodObj (.ref f) (.ref y))
    exact k a _ (.inl rfl) e
  | ext φ => obtain ⟨p, ⟨o, e⟩, st⟩ := x; exact ⟨st _ _ p fun o q => k _ _ (.inl rfl) q, ⟨o, k _ _ (.inl rfl) e⟩, st⟩
theorem HOk.lt (x : HOk P w H h) (e : H a = some o) : a < h.objs.size := (x a o e).lt
theorem HOk.fresh (x : HOk P w H h) (e : h.objs.size ≤ a) : H a = none := by
  cases q : H a with
  | none => rfl
  | some u => exact absurd (Nat.lt_of_lt_of_le (x.lt q) e) (Nat.lt_irrefl _)
theorem HOk.kept (x : HOk P w H h) (k : ∀ b u, h.get? b = some u → h'.get? b = some u) : HOk P w H h' := fun a o e =>
  (x a o e).stay (fun b u _ q => k b u q) (fun _ q => q) fun _ _ q => q
theorem HOk.laid (x : HOk P w H h) (k : ∀ b u, h.get? b = some u → h'.get? b = some u) (hp : h.objs.size ≤ a) (new : ObjOk P w (upd H a o) h' a o) : HOk P w (upd H a o) h' := fun b u e => by
  have hn := x.fresh hp
  by_cases hb : b = a
  · subst hb; rw [upd_same] at e; cases e; exact new
  · rw [upd_ne hb] at e
    exact (x b u e).stay (fun c v _ q => k c v q) (fun c q => by rw [upd_ne (ne_of_none q hn)]; exact q) fun c xs q => by rw [upd_ne (ne_of_none q hn)]; exact q
end
def Rd (H : Hp) (a : Addr) (u : HO) : Prop := H a = some u ∨ ∃ o, H a = some (.frz o u)
theorem Rd.of {H : Hp} {a : Addr} {u : HO} (h : H a = some u) : Rd H a u := .inl h
theorem Rd.ok {P : Program} {w : World} {H : Hp} {h : Heap} {a : Addr} {u : HO} (r : Rd H a u) (x : HOk P w H h) : ObjOk P w H h a u := by
  rcases r with r | ⟨o, r⟩
  · exact x a u r
  · obtain ⟨_, q⟩ := x a _ r
    exact q
def Mut : Option HO → Prop
  | some (.lst _) => True
  | some (.dK _) => True
  | some (.dT _) => True
  | some (.set _ _) => True
  | some (.ins _ _ _) => True
  | some (.ext _) => True
  | _ => False
section
variable {P : Program} {w : World} {H : Hp} {h h' : Heap} {x e : Addr} {o' : HO}
theorem HOk.write (ok : HOk P w H h) (mu : Mut (H x)) (he : e = x ∨ H e = some (.own x)) (k : ∀ b u, b ≠ e → h.get? b = some u → h'.get? b = some u) (heo : ∃ u, h'.get? e = some u)
    (new : ObjOk P w (upd H x o') h' x o') : HOk P w (upd H x o') h' := fun b u q => by
  have nown : ∀ c y, H c = some (.own y) → c ≠ x := fun c y r z => by subst z; rw [r] at mu; exact mu
  have ntup : ∀ c xs, H c = some (.tup xs) → c ≠ x := fun c xs r z => by subst z; rw [r] at mu; exact mu
  by_cases hb : b = x
  · subst hb; rw [upd_same] at q; cases q; exact new
  · rw [upd_ne hb] at q
    by_cases hbe : b = e
    · have q' : H b = some (.own x) := by
        rcases he with z | z
        · exact absurd (hbe.trans z) hb
        · rw [hbe]; exact z
      rw [q] at q'; cases q'
      obtain ⟨v, hv⟩ := heo
      exact ⟨v, by rw [hbe]; exact hv⟩
    · refine (ok b u q).stay (fun c v hc r => k c v ?_ r) (fun c r => by rw [upd_ne (nown c b r)]; exact r) fun c xs r => by rw [upd_ne (ntup c xs r)]; exact r
      rcases hc with rfl | hc
      · exact hbe
      · rintro rfl
        rcases he with z | z
        · exact nown c b hc z
        · rw [hc] at z; cases z; exact hb rfl
end
structure Un (fs ex : List Addr) (H H' : Hp) (h h' : Heap) : Prop where
  keep : ∀ b o, h.get? b = some o → H b = none → b ∉ fs → b ∉ ex → h'.get? b = some o
  slot : ∀ b o, h.get? b = some o → H b = none → b ∈ fs → b ∉ ex → ∃ sl, h'.get? b = some { o with slots := sl }
  free : ∀ b o, h.get? b = some o → H b = none → b ∉ ex → H' b = none
  there : ∀ b o, h.get? b = some o → b ∉ ex → ∃ o', h'.get? b = some o'
  tups : ∀ b xs, H b = some (.tup xs) → H' b = some (.tup xs)
  frzs : ∀ b o u, H b = some (.frz o u) → H' b = some (.frz o u)
  tbls : ∀ b ps, H b = some (.tbl ps) → ∃ more, H' b = some (.tbl (ps ++ more))
section
variable {fs fs' ex ex' : List Addr} {H H1 H2 : Hp} {h h1 h2 h' : Heap} {a x e : Addr} {o : HO}
theorem Un.any (u : Un fs ex H H1 h h1) {b : Addr} {ob : Obj} (q : h.get? b = some ob) (n : H b = none) (hx : b ∉ ex) : ∃ sl, h1.get? b = some { ob with slots := sl } := by
  by_cases hb : b ∈ fs
  · exact u.slot b ob q n hb hx
  · exact ⟨ob.slots, u.keep b ob q n hb hx⟩
theorem Un.trans (a : Un fs ex H H1 h h1) (b : Un fs ex H1 H2 h1 h2) : Un fs ex H H2 h h2 where
  keep := fun c ob q n hc hx => b.keep c ob (a.keep c ob q n hc hx) (a.free c ob q n hx) hc hx
  slot := fun c ob q n hc hx => by
    obtain ⟨sl, e1⟩ := a.slot c ob q n hc hx
    obtain ⟨sl', e2⟩ := b.slot c _ e1 (a.free c ob q n hx) hc hx
    exact ⟨sl', e2⟩
  free := fun c ob q n hx => by
    obtain ⟨o', e1⟩ := a.there c ob q hx
    exact b.free c o' e1 (a.free c ob q n hx) hx
  there := fun c ob q hx => by
    obtain ⟨o', e1⟩ := a.there c ob q hx
    exact b.there c o' e1 hx
  tups := fun c xs q => b.tups c xs (a.tups c xs q)
  frzs := fun c ob xs q => b.frzs c ob xs (a.frzs c ob xs q)
  tbls := fun c ps q => by
    obtain ⟨m1, e1⟩ := a.tbls c ps q
    obtain ⟨m2, e2⟩ := b.tbls c _ e1
    exact ⟨m1 ++ m2, by rw [e2, Array.append_assoc]⟩
theorem Un.kept (k : ∀ b u, h.get? b = some u → h'.get? b = some u) : Un fs ex H H h h' :=
  ⟨fun b ob q _ _ _ => k b ob q, fun b ob q _ _ _ => ⟨ob.slots, k b ob q⟩, fun _ _ _ n _ => n, fun b ob q _ => ⟨ob, k b ob q⟩, fun _ _ q => q, fun _ _ _ q => q, fun _ ps q => ⟨#[], by rw [q]; simp⟩⟩
theorem Un.refl : Un fs ex H H h h := Un.kept fun _ _ q => q
theorem Un.laid (k : ∀ b u, h.get? b = some u → h'.get? b = some u) (hp : h.objs.size ≤ a) (hn : H a = none) : Un fs ex H (upd H a o) h h' where
  keep := fun b u q _ _ _ => k b u q
  slot := fun b u q _ _ _ => ⟨u.slots, k b u q⟩
  free := fun b u q n _ => by rw [upd_ne (Nat.ne_of_lt (Nat.lt_of_lt_of_le (Heap.lt_size q) hp))]; exact n
  there := fun b u q _ => ⟨u, k b u q⟩
  tups := fun b xs q => by rw [upd_ne (ne_of_none q hn)]; exact q
  frzs := fun b u xs q => by rw [upd_ne (ne_of_none q hn)]; exact q
  tbls := fun b ps q => ⟨#[], by rw [upd_ne (ne_of_none q hn), q]; simp⟩
theorem Un.write (mu : Mut (H x)) (he : e = x ∨ H e = some (.own x)) (k : ∀ b u, b ≠ e → h.get? b = some u → h'.get? b = some u) (heo : ∃ u, h'.get? e = some u) : Un fs ex H (upd H x o) h h' := by
  have hx : ∀ b, H b = none → b ≠ x := fun b n z => by subst z; rw [n] at mu; exact mu
  have hb : ∀ b, H b = none → b ≠ e := fun b n z => by
    subst z
    rcases he with r | r
    · exact hx b n r
    · rw [n] at r; cases r
  have hm : ∀ b u, H b = some u → ¬ Mut (some u) → b ≠ x := fun b u q nm z => by subst z; rw [q] at mu; exact nm mu
  refine ⟨fun b u q n _ _ => k b u (hb b n) q, fun b u q n _ _ => ⟨u.slots, k b u (hb b n) q⟩, fun b u q n _ => by rw [upd_ne (hx b n)]; exact n, fun b u q _ => ?_,
    fun b xs q => by rw [upd_ne (hm b _ q fun z => z)]; exact q, fun b u xs q => by rw [upd_ne (hm b _ q fun z => z)]; exact q, fun b ps q => ⟨#[], by rw [upd_ne (hm b _ q fun z => z), q]; simp⟩⟩
  by_cases hbe : b = e
  · subst hbe; exact heo
  · exact ⟨u, k b u hbe q⟩
theorem Un.mono (u : Un fs ex H H1 h h1) (hs : ∀ b ∈ fs, b ∈ fs') (hx : ∀ b ∈ ex, b ∈ ex') : Un fs' ex' H H1 h h1 :=
  ⟨fun b ob q n hb he => u.keep b ob q n (fun z => hb (hs b z)) fun z => he (hx b z), fun _ _ q n _ he => u.any q n fun z => he (hx _ z), fun b ob q n he => u.free b ob q n fun z => he (hx b z), fun b ob q he => u.there b ob q fun z => he (hx b z), u.tups, u.frzs, u.tbls⟩
end
def trk (h : Heap) (H : Hp) : List Addr := (List.range h.objs.size).filter fun a => (H a).isSome
def hidT (h : Heap) (H : Hp) : Heap := PySem.W.hideAll h (trk h H)
theorem hidT_size (h : Heap) (H : Hp) : (hidT h H).objs.size = h.objs.size := PySem.W.hideAll_size _ _
theorem hidT_get {h : Heap} {H : Hp} {b : Addr} {o : Obj} (e : h.get? b = some o) (n : H b = none) : (hidT h H).get? b = some o :=
  PySem.W.hideAll_get _ e fun hm => by
    have q : (H b).isSome = true := (List.mem_filter.mp hm).2
    rw [n] at q; simp at q
theorem of_hidT {h : Heap} {H : Hp} {b : Addr} {o : Obj} (e : (hidT h H).get? b = some o) : h.get? b = some o ∧ H b = none := by
  have e' : h.get? b = some o := PySem.W.of_hideAll (trk h H) e
  refine ⟨e', ?_⟩
  cases q : H b with
  | none => rfl
  | some x =>
    have hm : b ∈ trk h H := List.mem_filter.mpr ⟨List.mem_range.mpr (Heap.lt_size e'), by simp [q]⟩
    have z : (hidT h H).get? b = none := PySem.W.hideAll_none (trk h H) hm
    rw [z] at e; cases e
def allNews (g h : Heap) (L : Addr) : List (Addr × Obj) := (List.range h.objs.size).filterMap fun a => if a = L ∨ (g.get? a).isSome = true then none else (h.get? a).map fun o => (a, o)
def rest (g h : Heap) (L d : Addr) : List (Addr × Obj) := (allNews g h L).filter fun p => decide (p.1 ≠ d)
end L2
namespace L2
open PySem PySem.Spec PyProof.Rows
structure Mod (K : PySem.W.Frag) (mg : Str → Option Value) (base : Heap) : Prop where
  kin : K.In base
  glob : base.Ns mainGlobals mg
  blt : ∃ mb, base.Ns builtinsNs mb ∧ ∀ x : Str, x ≠ "__name__" → mb x = bootBuiltins x
  nolimit : base.NoLimit
structure Cx where
  prog : Program
  w : World
  K : PySem.W.Frag
  mg : Str → Option Value
  base : Heap
  A : Around
  N : List Str
  s₀ : Shared
  H₀ : Hp
  env : Env
  outer : List Env
  stack : List Env
  ex : List Addr
  fn : Str → Bool
  calm : Bool
  pn : List (Addr × Obj)
  xe : Value → Shared → Prop
def frs (l : List Env) : List Addr := l.filterMap (·.frame)
abbrev Cx.fs (X : Cx) : List Addr := frs X.outer
def Vis (sc : Scope) (x : Str) : Prop := sc.names.lookup x = some .local ∨ sc.names.lookup x = some .cell ∨ sc.names.lookup x = some .free
def Loc (sc : Scope) (x : Str) : Prop := sc.names.lookup x = some .local ∨ sc.names.lookup x = some .cell
def Look (env : Env) (h : Heap) (m : Str → Option Value) (x : Str) (u : Value) : Prop :=
  (env.kindOf x = some .local ∧ m x = some u) ∨ ((env.kindOf x = some .cell ∨ env.kindOf x = some .free) ∧ ∃ c, env.cells.lookup x = some c ∧ h.IsCell c (some u))
structure Cx.Ok (X : Cx) : Prop where
  mod : Mod X.K X.mg X.base
  kind : X.env.scope.kind = .function
  glob : X.env.globals = mainGlobals
  blt : X.env.builtins = builtinsNs
  above : X.s₀.heap.objs.size ≤ X.env.locals
  inj : ∀ x y c, X.env.cells.lookup x = some c → X.env.cells.lookup y = some c → x = y
  has : ∀ x, (X.env.kindOf x = some .cell ∨ X.env.kindOf x = some .free) → ∃ c, X.env.cells.lookup x = some c
  cab : ∀ x c, X.fn x = true → X.env.cells.lookup x = some c → X.s₀.heap.objs.size ≤ c
  hd : X.calm = true → X.A.handled = none
  frames : X.A.frames = some X.stack
  stk : X.stack = X.outer ∨ (X.stack = X.env :: X.outer ∧ X.env.frame = some X.env.locals)
  exf : ∀ b ∈ X.ex, b ≠ X.env.locals ∧ ∀ x c, X.env.cells.lookup x = some c → c ≠ b
  bs : ∀ b o, X.base.get? b = some o → X.s₀.heap.get? b = some o ∧ X.H₀ b = none
  bsz : X.base.objs.size ≤ X.s₀.heap.objs.size
  noex : ∀ b o, X.base.get? b = some o → b ∉ X.ex
  exfs : ∀ b ∈ X.ex, b ∉ X.fs
  funs : X.s₀.heap.FunFrames X.base X.outer
  frf : ∀ b ∈ X.fs, X.H₀ b = none
structure Inv (X : Cx) (pins : List (Addr × Obj)) (σ : List (Option V)) (H : Hp) (s : Shared) : Prop where
  ok : X.Ok
  os : s.os = X.s₀.os
  bare : AllBare s.gens
  base : Un X.fs X.ex X.H₀ H X.s₀.heap s.heap
  loc : ∃ m, s.heap.Ns X.env.locals m ∧ ∀ (i : Nat) (x : Str) (v : V), X.N[i]? = some x → σ[i]? = some (some v) → Vis X.env.scope x → ∃ u, RelV v u ∧ Look X.env s.heap m x u
  cell : ∀ x c, X.env.cells.lookup x = some c → ∃ v, s.heap.IsCell c v
  free : H X.env.locals = none
  freeC : ∀ x c, X.env.cells.lookup x = some c → H c = none
  pin : ∀ p ∈ X.pn ++ pins, s.heap.get? p.1 = some p.2 ∧ H p.1 = none ∧ p.1 ≠ X.env.locals ∧ p.1 ∉ X.fs ∧ ∀ v, p.2.data ≠ .cell v
  hok : HOk X.prog X.w H s.heap
  len : σ.length = X.N.length
section
variable {X : Cx} {pins : List (Addr × Obj)} {σ : List (Option V)} {H H' : Hp} {s : Shared} {h' : Heap}
theorem Cx.Ok.nofr (ok : X.Ok) {b : Addr} {o : Obj} (e : X.base.get? b = some o) : b ∉ X.fs := fun hb => by
  have := (ok.funs.mem hb).1
  rw [e] at this; cases this
theorem Inv.bs (I : Inv X pins σ H s) : ∀ b o, X.base.get? b = some o → s.heap.get? b = some o ∧ H b = none := fun b o e =>
  ⟨I.base.keep b o (I.ok.bs b o e).1 (I.ok.bs b o e).2 (I.ok.nofr e) (I.ok.noex b o e), I.base.free b o (I.ok.bs b o e).1 (I.ok.bs b o e).2 (I.ok.noex b o e)⟩
theorem Inv.bk (I : Inv X pins σ H s) : ∀ b o, X.base.get? b = some o → s.heap.get? b = some o := fun b o e => (I.bs b o e).1
theorem Inv.mod (I : Inv X pins σ H s) : Mod X.K X.mg X.base := I.ok.mod
theorem Inv.kIn (I : Inv X pins σ H s) : X.K.In s.heap := I.ok.mod.kin.keeps I.bk
theorem Inv.nolimit (I : Inv X pins σ H s) : s.heap.NoLimit := I.ok.mod.nolimit.keeps I.bk
theorem Inv.fr (I : Inv X pins σ H s) : ∃ m, Fr X.base X.env.locals s.heap m :=
  let ⟨m, hn, _⟩ := I.loc
  ⟨m, hn, I.bk, Nat.le_trans I.ok.bsz I.ok.above⟩
theorem Inv.lt (I : Inv X pins σ H s) : X.env.locals < s.heap.objs.size := let ⟨_, hn, _⟩ := I.loc; hn.lt
theorem Inv.sz (I : Inv X pins σ H s) : X.s₀.heap.objs.size ≤ s.heap.objs.size := Nat.le_trans I.ok.above (Nat.le_of_lt I.lt)
theorem Inv.nofs (I : Inv X pins σ H s) {a : Addr} (h : s.heap.objs.size ≤ a) : a ∉ X.fs := fun hb => by
  obtain ⟨_, o, ho, _⟩ := I.ok.funs.mem hb
  exact absurd (Nat.lt_of_lt_of_le (Heap.lt_size ho) (Nat.le_trans I.sz h)) (Nat.lt_irrefl _)
theorem Inv.cne (I : Inv X pins σ H s) : ∀ x c, X.env.cells.lookup x = some c → c ≠ X.env.locals := fun x c e z => by
  obtain ⟨v, o, ho, hd⟩ := I.cell x c e
  obtain ⟨m, ⟨o', es, ep, ho', hd', _⟩, _⟩ := I.loc
  rw [z, ho'] at ho; cases ho; rw [hd'] at hd; cases hd
theorem Inv.funs (I : Inv X pins σ H s) : s.heap.FunFrames X.base X.outer := by
  have all : ∀ (l : List Env), (∀ b ∈ frs l, b ∈ X.fs) → X.s₀.heap.FunFrames X.base l → s.heap.FunFrames X.base l := by
    intro l
    induction l with
    | nil => intro _ _; trivial
    | cons env r ih =>
      intro hs hl
      obtain ⟨hk, ⟨L, o, hf, hn, ho, hd⟩, hr⟩ := hl
      have hL : L ∈ X.fs := hs L (by unfold frs; rw [List.filterMap_cons, hf]; exact List.mem_cons_self)
      obtain ⟨sl, e⟩ := I.base.slot L o ho (I.ok.frf L hL) hL fun z => I.ok.exfs L z hL
      exact ⟨hk, ⟨L, _, hf, hn, e, hd⟩, ih (fun b hb => hs b (by unfold frs; rw [List.filterMap_cons, hf]; exact List.mem_cons_of_mem _ hb)) hr⟩
  exact all X.outer (fun _ hb => hb) I.ok.funs
theorem Inv.stack (I : Inv X pins σ H s) : s.heap.FunFrames X.base X.stack := by
  rcases I.ok.stk with e | ⟨e, hf⟩
  · rw [e]; exact I.funs
  · rw [e]
    obtain ⟨m, hn, _⟩ := I.loc
    refine .cons (by rw [I.ok.kind]; decide) hf hn ?_ I.funs
    exact Heap.get?_none_of_le (Nat.le_trans I.ok.bsz I.ok.above)
theorem Inv.stkSub (I : Inv X pins σ H s) : ∀ b ∈ frs X.stack, b ∈ X.env.locals :: X.fs := fun b hb => by
  rcases I.ok.stk with e | ⟨e, hf⟩
  · rw [e] at hb; exact List.mem_cons_of_mem _ hb
  · rw [e] at hb
    unfold frs at hb
    rw [List.filterMap_cons, hf] at hb
    exact hb
theorem Inv.stkFree (I : Inv X pins σ H s) : ∀ b ∈ frs X.stack, H b = none := fun b hb => by
  rcases List.mem_cons.mp (I.stkSub b hb) with e | hb
  · rw [e]; exact I.free
  · obtain ⟨_, o, ho, _⟩ := I.ok.funs.mem hb
    exact I.base.free b o ho (I.ok.frf b hb) fun z => I.ok.exfs b z hb
theorem Inv.step {g' : Array GenState} {t' : Nat} {d' : Drawn} {ch : List Addr} (I : Inv X pins σ H s)
    (hch : ∀ b ∈ ch, (b ∈ X.ex ∨ X.s₀.heap.objs.size ≤ b) ∧ b ≠ X.env.locals ∧ (∀ x c, X.env.cells.lookup x = some c → c ≠ b) ∧ ∀ p ∈ X.pn ++ pins, p.1 ≠ b)
    (keep : ∀ b o, b ≠ X.env.locals → b ∉ X.fs → b ∉ ch → s.heap.get? b = some o → H b = none → h'.get? b = some o)
    (slot : ∀ b o, b ≠ X.env.locals → b ∈ X.fs → b ∉ ch → s.heap.get? b = some o → H b = none → ∃ sl, h'.get? b = some { o with slots := sl }) (free : ∀ b o, b ∉ ch → s.heap.get? b = some o → H b = none → H' b = none)
    (there : ∀ b o, b ∉ ch → s.heap.get? b = some o → ∃ o', h'.get? b = some o')
    (tups : ∀ b xs, H b = some (.tup xs) → H' b = some (.tup xs)) (frzs : ∀ b o u, H b = some (.frz o u) → H' b = some (.frz o u)) (tbls : ∀ b ps, H b = some (.tbl ps) → ∃ more, H' b = some (.tbl (ps ++ more)))
    (ns : ∀ m, s.heap.Ns X.env.locals m → h'.Ns X.env.locals m) (hok : HOk X.prog X.w H' h') (hg : AllBare g') :
    Inv X pins σ H' { s with heap := h', gens := g', drawn := d', toks := t' } := by
  have neL : ∀ b o, X.s₀.heap.get? b = some o → b ≠ X.env.locals := fun b o e => Nat.ne_of_lt (Nat.lt_of_lt_of_le (Heap.lt_size e) I.ok.above)
  have neC : ∀ b o, X.s₀.heap.get? b = some o → b ∉ X.ex → b ∉ ch := fun b o e hx hb => by
    rcases (hch b hb).1 with z | z
    · exact hx z
    · exact absurd (Nat.lt_of_lt_of_le (Heap.lt_size e) z) (Nat.lt_irrefl _)
  have cellK : ∀ x c, X.env.cells.lookup x = some c → ∀ v, s.heap.IsCell c v → h'.IsCell c v := fun x c e v ⟨o, ho, hd⟩ => by
    have nch : c ∉ ch := fun z => (hch c z).2.2.1 x c e rfl
    by_cases hc : c ∈ X.fs
    · obtain ⟨sl, q⟩ := slot c o (I.cne x c e) hc nch ho (I.freeC x c e)
      exact ⟨_, q, hd⟩
    · exact ⟨o, keep c o (I.cne x c e) hc nch ho (I.freeC x c e), hd⟩
  refine ⟨I.ok, I.os, hg, ⟨fun b o e n hb hx => ?_, fun b o e n hb hx => ?_, fun b o e n hx => ?_, fun b o e hx => ?_, fun b xs e => tups b xs (I.base.tups b xs e), fun b o xs e => frzs b o xs (I.base.frzs b o xs e), fun b ps e => ?_⟩, ?_, fun x c e => ?_, ?_, fun x c e => ?_, fun p hp => ?_, hok, I.len⟩
  · exact keep b o (neL b o e) hb (neC b o e hx) (I.base.keep b o e n hb hx) (I.base.free b o e n hx)
  · obtain ⟨sl, e1⟩ := I.base.slot b o e n hb hx
    obtain ⟨sl', e2⟩ := slot b _ (neL b o e) hb (neC b o e hx) e1 (I.base.free b o e n hx)
    exact ⟨sl', e2⟩
  · obtain ⟨o', e1⟩ := I.base.there b o e hx
    exact free b o' (neC b o e hx) e1 (I.base.free b o e n hx)
  · obtain ⟨o', e1⟩ := I.base.there b o e hx
    exact there b o' (neC b o e hx) e1
  · obtain ⟨m1, e1⟩ := I.base.tbls b ps e
    obtain ⟨m2, e2⟩ := tbls b _ e1
    exact ⟨m1 ++ m2, by rw [e2, Array.append_assoc]⟩
  · obtain ⟨m, hn, hl⟩ := I.loc
    refine ⟨m, ns m hn, fun i x v e1 e2 e3 => ?_⟩
    obtain ⟨u, r, l⟩ := hl i x v e1 e2 e3
    refine ⟨u, r, ?_⟩
    rcases l with l | ⟨k, c, e, z⟩
    · exact .inl l
    · exact .inr ⟨k, c, e, cellK x c e _ z⟩
  · obtain ⟨v, z⟩ := I.cell x c e
    exact ⟨v, cellK x c e v z⟩
  · obtain ⟨m, ⟨o, _, _, ho, _⟩, _⟩ := I.loc
    exact free _ o (fun z => (hch _ z).2.1 rfl) ho I.free
  · obtain ⟨v, o, ho, hd⟩ := I.cell x c e
    exact free c o (fun z => (hch c z).2.2.1 x c e rfl) ho (I.freeC x c e)
  · obtain ⟨e, n, ne, nf, d⟩ := I.pin p hp
    have nch : p.1 ∉ ch := fun z => (hch p.1 z).2.2.2 p hp rfl
    exact ⟨keep p.1 p.2 ne nf nch e n, free p.1 p.2 nch e n, ne, nf, d⟩
theorem Inv.un {t' : Nat} (I : Inv X pins σ H s) (u : Un X.fs [] H H' s.heap h') (hok : HOk X.prog X.w H' h') : Inv X pins σ H' { s with heap := h', toks := t' } := by
  obtain ⟨m, ⟨o, es, ep, ho, r⟩, _⟩ := id I.loc
  obtain ⟨sl, hL⟩ := u.any ho I.free (by simp)
  exact I.step (g' := s.gens) (d' := s.drawn) (ch := []) (fun _ z => nomatch z) (fun b o _ hb _ e n => u.keep b o e n hb (by simp)) (fun b o _ hb _ e n => u.slot b o e n hb (by simp)) (fun b o _ e n => u.free b o e n (by simp)) (fun b o _ e => u.there b o e (by simp)) u.tups u.frzs u.tbls (fun m' hm => by
    obtain ⟨o', es', ep', ho', r'⟩ := hm
    rw [ho] at ho'; cases ho'
    exact ⟨_, es', ep', hL, r'⟩) hok I.bare
theorem Inv.call {g' : Array GenState} {t' : Nat} {d' : Drawn} {ch : List Addr} (I : Inv X pins σ H s) (u : Un (frs X.stack) ch H H' s.heap h') (hok : HOk X.prog X.w H' h') (hg : AllBare g')
    (hch : ∀ b ∈ ch, (b ∈ X.ex ∨ X.s₀.heap.objs.size ≤ b) ∧ b ≠ X.env.locals ∧ (∀ x c, X.env.cells.lookup x = some c → c ≠ b) ∧ ∀ p ∈ X.pn ++ pins, p.1 ≠ b) :
    Inv X pins σ H' { s with heap := h', gens := g', drawn := d', toks := t' } := by
  obtain ⟨m, ⟨o, es, ep, ho, r⟩, _⟩ := id I.loc
  obtain ⟨sl, hL⟩ := u.any ho I.free fun z => (hch _ z).2.1 rfl
  exact I.step (ch := ch) hch (fun b o hL hb hc e n => u.keep b o e n (fun z => (List.mem_cons.mp (I.stkSub b z)).elim hL hb) hc) (fun b o _ _ hc e n => u.any e n hc) (fun b o hc e n => u.free b o e n hc) (fun b o hc e => u.there b o e hc) u.tups u.frzs u.tbls (fun m' hm => by
    obtain ⟨o', es', ep', ho', r'⟩ := hm
    rw [ho] at ho'; cases ho'
    exact ⟨_, es', ep', hL, r'⟩) hok hg
theorem Inv.turned {t' : Nat} {it : Addr} (I : Inv X pins σ H s) (k : ∀ b o, b ≠ it → s.heap.get? b = some o → h'.get? b = some o) (hn : H it = none) (hL : it ≠ X.env.locals)
    (h1 : it ∈ X.ex ∨ X.s₀.heap.objs.size ≤ it) (h2 : ∀ x c, X.env.cells.lookup x = some c → c ≠ it) (h3 : ∀ p ∈ X.pn ++ pins, p.1 ≠ it) : Inv X pins σ H { s with heap := h', toks := t' } := by
  have nit : ∀ b u, H b = some u → b ≠ it := fun b u e z => by rw [z, hn] at e; cases e
  refine I.step (g' := s.gens) (d' := s.drawn) (ch := [it]) (fun b hb => ?_) (fun b o _ _ hc e _ => k b o (fun z => hc (by simp [z])) e) (fun b o _ _ hc e _ => ⟨o.slots, k b o (fun z => hc (by simp [z])) e⟩) (fun _ _ _ _ n => n)
    (fun b o hc e => ⟨o, k b o (fun z => hc (by simp [z])) e⟩) (fun _ _ e => e) (fun _ _ _ e => e) (fun b ps e => ⟨#[], by rw [e]; simp⟩) (fun m hm => ?_) (fun b u e => ?_) I.bare
  · have e : b = it := by simpa using hb
    subst e
    exact ⟨h1, hL, h2, h3⟩
  · obtain ⟨o, es, ep, ho, r⟩ := hm
    exact ⟨o, es, ep, k _ o (Ne.symm hL) ho, r⟩
  · refine (I.hok b u e).stay (fun c v hc q => k c v ?_ q) (fun _ q => q) fun _ _ q => q
    rcases hc with z | z
    · rw [z]; exact nit b u e
    · exact nit c _ z
theorem Inv.tok (I : Inv X pins σ H s) (t : Nat) : Inv X pins σ H { s with toks := t } := I.un (h' := s.heap) (t' := t) Un.refl I.hok
theorem Inv.kept {t' : Nat} (I : Inv X pins σ H s) (k : ∀ b u, s.heap.get? b = some u → h'.get? b = some u) : Inv X pins σ H { s with heap := h', toks := t' } := I.un (Un.kept k) (I.hok.kept k)
theorem Inv.laid {a : Addr} {o : HO} {t' : Nat} (I : Inv X pins σ H s) (k : ∀ b u, s.heap.get? b = some u → h'.get? b = some u) (hp : s.heap.objs.size ≤ a) (new : ObjOk X.prog X.w (upd H a o) h' a o) :
    Inv X pins σ (upd H a o) { s with heap := h', toks := t' } := I.un (Un.laid k hp (I.hok.fresh hp)) (I.hok.laid k hp new)
theorem Inv.write {x e : Addr} {o : HO} {t' : Nat} (I : Inv X pins σ H s) (mu : Mut (H x)) (he : e = x ∨ H e = some (.own x)) (k : ∀ b u, b ≠ e → s.heap.get? b = some u → h'.get? b = some u) (heo : ∃ u, h'.get? e = some u)
    (new : ObjOk X.prog X.w (upd H x o) h' x o) : Inv X pins σ (upd H x o) { s with heap := h', toks := t' } := I.un (Un.write mu he k heo) (I.hok.write mu he k heo new)
theorem Inv.weak {σ' : List (Option V)} (I : Inv X pins σ H s) (hl : σ'.length = σ.length) (w : ∀ (i : Nat) v, σ'[i]? = some (some v) → σ[i]? = some (some v)) : Inv X pins σ' H s :=
  ⟨I.ok, I.os, I.bare, I.base, let ⟨m, hn, hl'⟩ := I.loc; ⟨m, hn, fun i x v e1 e2 e3 => hl' i x v e1 (w i v e2) e3⟩, I.cell, I.free, I.freeC, I.pin, I.hok, hl.trans I.len⟩
theorem Inv.pins_of {pins' : List (Addr × Obj)} (I : Inv X pins σ H s) (h : ∀ p ∈ pins', s.heap.get? p.1 = some p.2 ∧ H p.1 = none ∧ p.1 ≠ X.env.locals ∧ p.1 ∉ X.fs ∧ ∀ v, p.2.data ≠ .cell v) : Inv X pins' σ H s :=
  ⟨I.ok, I.os, I.bare, I.base, I.loc, I.cell, I.free, I.freeC, fun p hp => (List.mem_append.mp hp).elim (fun z => I.pin p (List.mem_append_left _ z)) (h p), I.hok, I.len⟩
theorem nodup_ix {N : List Str} (hN : N.Nodup) {i j : Nat} {x : Str} (a : N[i]? = some x) (b : N[j]? = some x) : i = j := by
  obtain ⟨h1, e1⟩ := List.getElem?_eq_some_iff.mp a
  obtain ⟨h2, e2⟩ := List.getElem?_eq_some_iff.mp b
  exact (List.getElem_inj hN).mp (e1.trans e2.symm)
theorem store_ok2 {M : Model} {A : Around} {E : Value → Shared → Prop} {i : Nat} {x : Str} {v : V} {u : Value} {Q : Unit → Shared → Prop} (I : Inv X pins σ H s) (hN : X.N.Nodup) (hi : X.N[i]? = some x) (hx : Loc X.env.scope x) (r : RelV v u)
    (h : ∀ s', Inv X pins (σ.set i (some v)) H s' → (∃ a, Heap.SameBut a s.heap s'.heap ∧ (a = X.env.locals ∨ X.env.cells.lookup x = some a)) → Q () s') (hf : X.fn x = true ∨ X.env.scope.names.lookup x = some .local := by first | exact .inl rfl | exact .inr rfl | assumption) : wpAny M A (storeName X.env x u) Q E s := by
  obtain ⟨m, hn, hl⟩ := id I.loc
  have hcls : (X.env.scope.kind == .class || (X.env.scope.kind == .module && X.env.locals != X.env.globals)) = false := by rw [I.ok.kind]; rfl
  have hiσ : i < σ.length := by rw [I.len]; exact (List.getElem?_eq_some_iff.mp hi).1
  have cne := I.cne
  have tracked : ∀ {a : Addr} {h' : Heap}, (∃ o, s.heap.get? a = some o ∧ H a = none) → Heap.SameBut a s.heap h' → HOk X.prog X.w H h' := fun {a h'} ha hs b ob e => by
    obtain ⟨_, _, hfree⟩ := ha
    refine (I.hok b ob e).stay (fun c w' hc q => (hs.2 c ?_).trans q) (fun _ q => q) fun _ _ q => q
    rintro rfl
    rcases hc with rfl | hc
    · rw [hfree] at e; cases e
    · rw [hfree] at hc; cases hc
  rcases hx with hk | hk
  · refine wpAny_storeName_local hk hn (fun h' hn' hs => ?_) hcls
    obtain ⟨oL, _, _, hoL, _⟩ := id hn
    refine h _ ⟨I.ok, I.os, I.bare, ⟨fun b o e n hb hx => ?_, fun b o e n hb hx => ?_, I.base.free, fun b o e hx => ?_, I.base.tups, I.base.frzs, I.base.tbls⟩, ⟨_, hn', fun j y v' e1 e2 e3 => ?_⟩, fun y c e => ?_, I.free, I.freeC, fun p hp => ?_, tracked ⟨oL, hoL, I.free⟩ hs, by simpa using I.len⟩ ⟨_, hs, .inl rfl⟩
    · exact (hs.2 b (Nat.ne_of_lt (Nat.lt_of_lt_of_le (Heap.lt_size e) I.ok.above))).trans (I.base.keep b o e n hb hx)
    · obtain ⟨sl, e1⟩ := I.base.slot b o e n hb hx
      exact ⟨sl, (hs.2 b (Nat.ne_of_lt (Nat.lt_of_lt_of_le (Heap.lt_size e) I.ok.above))).trans e1⟩
    · obtain ⟨o', e1⟩ := I.base.there b o e hx
      exact ⟨o', (hs.2 b (Nat.ne_of_lt (Nat.lt_of_lt_of_le (Heap.lt_size e) I.ok.above))).trans e1⟩
    · by_cases hj : j = i
      · subst hj
        rw [hi] at e1; cases e1
        rw [List.getElem?_set_self hiσ] at e2
        cases e2
        exact ⟨u, r, .inl ⟨hk, by simp⟩⟩
      · rw [List.getElem?_set_ne (Ne.symm hj)] at e2
        obtain ⟨u', r', q⟩ := hl j y v' e1 e2 e3
        refine ⟨u', r', ?_⟩
        rcases q with ⟨k, e⟩ | ⟨k, c, e, z⟩
        · refine .inl ⟨k, ?_⟩
          have : y ≠ x := fun e => hj (nodup_ix hN e1 (e ▸ hi))
          simp [this, e]
        · exact .inr ⟨k, c, e, z.sameBut hs (cne y c e)⟩
    · obtain ⟨w', z⟩ := I.cell y c e
      exact ⟨w', z.sameBut hs (cne y c e)⟩
    · obtain ⟨e, n, ne, nf, d⟩ := I.pin p hp
      exact ⟨(hs.2 p.1 ne).trans e, n, ne, nf, d⟩
  · have hfn : X.fn x = true := by
      rcases hf with z | z
      · exact z
      · rw [z] at hk; cases hk
    obtain ⟨c, hc⟩ := I.ok.has x (.inl hk)
    obtain ⟨w', z⟩ := I.cell x c hc
    refine wpAny_storeName_cell I.ok.kind hk hc z (fun h' hc' hs => ?_)
    obtain ⟨oc, hoc, hocd⟩ := id z
    refine h { s with heap := h' } ⟨I.ok, I.os, I.bare, ⟨fun b o e n hb hx => ?_, fun b o e n hb hx => ?_, I.base.free, fun b o e hx => ?_, I.base.tups, I.base.frzs, I.base.tbls⟩, ⟨m, hn.sameBut hs (Ne.symm (cne x c hc)), fun j y v' e1 e2 e3 => ?_⟩, fun y c' e => ?_, I.free, I.freeC, fun p hp => ?_, tracked ⟨oc, hoc, I.freeC x c hc⟩ hs, by simpa using I.len⟩ ⟨c, hs, .inr hc⟩
    · exact (hs.2 b (Nat.ne_of_lt (Nat.lt_of_lt_of_le (Heap.lt_size e) (I.ok.cab x c hfn hc)))).trans (I.base.keep b o e n hb hx)
    · obtain ⟨sl, e1⟩ := I.base.slot b o e n hb hx
      exact ⟨sl, (hs.2 b (Nat.ne_of_lt (Nat.lt_of_lt_of_le (Heap.lt_size e) (I.ok.cab x c hfn hc)))).trans e1⟩
    · obtain ⟨o', e1⟩ := I.base.there b o e hx
      exact ⟨o', (hs.2 b (Nat.ne_of_lt (Nat.lt_of_lt_of_le (Heap.lt_size e) (I.ok.cab x c hfn hc)))).trans e1⟩
    · by_cases hj : j = i
      · subst hj
        rw [hi] at e1; cases e1
        rw [List.getElem?_set_self hiσ] at e2
        cases e2
        exact ⟨u, r, .inr ⟨.inl hk, c, hc, hc'⟩⟩
      · rw [List.getElem?_set_ne (Ne.symm hj)] at e2
        obtain ⟨u', r', q⟩ := hl j y v' e1 e2 e3
        refine ⟨u', r', ?_⟩
        rcases q with q | ⟨k, c', e, z'⟩
        · exact .inl q
        · refine .inr ⟨k, c', e, z'.sameBut hs ?_⟩
          rintro rfl
          exact hj (nodup_ix hN e1 (I.ok.inj _ _ _ e hc ▸ hi))
    · by_cases hcc : c' = c
      · subst hcc; exact ⟨_, hc'⟩
      · obtain ⟨w2, z2⟩ := I.cell y c' e
        exact ⟨w2, z2.sameBut hs hcc⟩
    · obtain ⟨e, n, ne, nf, d⟩ := I.pin p hp
      refine ⟨(hs.2 p.1 ?_).trans e, n, ne, nf, d⟩
      intro q
      rw [q, hoc] at e
      have q' : oc = p.2 := Option.some.inj e
      exact d w' (by rw [← q']; exact hocd)
theorem store_ok {M : Model} {A : Around} {E : Value → Shared → Prop} {i : Nat} {x : Str} {v : V} {u : Value} {Q : Unit → Shared → Prop} (I : Inv X pins σ H s) (hN : X.N.Nodup) (hi : X.N[i]? = some x) (hx : Loc X.env.scope x) (r : RelV v u)
    (h : ∀ s', Inv X pins (σ.set i (some v)) H s' → Q () s') (hf : X.fn x = true ∨ X.env.scope.names.lookup x = some .local := by first | exact .inl rfl | exact .inr rfl | assumption) : wpAny M A (storeName X.env x u) Q E s :=
  store_ok2 I hN hi hx r (fun s' I' _ => h s' I') hf
theorem Inv.call' {s' : Shared} {ch : List Addr} (I : Inv X pins σ H s) (ho : s'.os = s.os) (u : Un (frs X.stack) ch H H' s.heap s'.heap) (hok : HOk X.prog X.w H' s'.heap) (hg : AllBare s'.gens)
    (hch : ∀ b ∈ ch, (b ∈ X.ex ∨ X.s₀.heap.objs.size ≤ b) ∧ b ≠ X.env.locals ∧ (∀ x c, X.env.cells.lookup x = some c → c ≠ b) ∧ ∀ p ∈ X.pn ++ pins, p.1 ≠ b) : Inv X pins σ H' s' := by
  obtain ⟨h', g', d', t', o'⟩ := s'
  have e : o' = s.os := ho
  subst e
  exact I.call (g' := g') (t' := t') (d' := d') u hok hg hch
end
abbrev XK := Value → Option Addr → Hp → Prop
abbrev St := List (Option V)
abbrev VK := V → Hp → Prop
abbrev TE := St → Hp → VK → Prop
abbrev TT := St → Hp → (Bool → Hp → Prop) → Prop
abbrev TA := St → Hp → (List V → Hp → Prop) → Prop
structure Ends where
  nx : St → Hp → Prop
  rt : VK
  bk : St → Hp → Prop := fun _ _ => False
  ct : St → Hp → Prop := fun _ _ => False
abbrev TS := Ends → St → Hp → Prop
def EP (X : Cx) (pins : List (Addr × Obj)) (σ : St) (Q : VK) (u : Value) (s' : Shared) : Prop := ∃ v H', Inv X pins σ H' s' ∧ RelV v u ∧ Q v H'
def TP (X : Cx) (pins : List (Addr × Obj)) (σ : St) (Q : Bool → Hp → Prop) (b : Bool) (s' : Shared) : Prop := ∃ H', Inv X pins σ H' s' ∧ Q b H'
def AP (X : Cx) (pins : List (Addr × Obj)) (σ : St) (Q : List V → Hp → Prop) (us : List Value) (s' : Shared) : Prop := ∃ vs H', Inv X pins σ H' s' ∧ Vals vs us ∧ Q vs H'
def SP (X : Cx) (pins : List (Addr × Obj)) (D : Ends) (f : Flow) (s' : Shared) : Prop :=
  match f with
  | .next => ∃ σ' H', Inv X pins σ' H' s' ∧ D.nx σ' H'
  | .brk => ∃ σ' H', Inv X pins σ' H' s' ∧ D.bk σ' H'
  | .cont => ∃ σ' H', Inv X pins σ' H' s' ∧ D.ct σ' H'
  | .ret u => ∃ v σ' H', Inv X pins σ' H' s' ∧ RelV v u ∧ D.rt v H'
def PE (X : Cx) (e : Expr) (t : TE) : Prop :=
  ∀ (pins : List (Addr × Obj)) (s : Shared) (σ : St) (H : Hp) (Q : VK), Inv X pins σ H s → t σ H Q → wpAny (model X.prog X.w) X.A (eval e X.env) (EP X pins σ Q) X.xe s
def PT (X : Cx) (e : Expr) (t : TT) : Prop :=
  ∀ (pins : List (Addr × Obj)) (s : Shared) (σ : St) (H : Hp) (Q : Bool → Hp → Prop), Inv X pins σ H s → t σ H Q → wpAny (model X.prog X.w) X.A (isTrue e X.env (eval e X.env)) (TP X pins σ Q) X.xe s
def PW (X : Cx) (e : Expr) (t : TT) : Prop :=
  ∀ (whole : Sem Value) (pins : List (Addr × Obj)) (s : Shared) (σ : St) (H : Hp) (Q : Bool → Hp → Prop), Inv X pins σ H s → t σ H Q → wpAny (model X.prog X.w) X.A (isTrue e X.env whole) (TP X pins σ Q) X.xe s
theorem PW.pt {X : Cx} {e : Expr} {t : TT} (h : PW X e t) : PT X e t := h _
def PA (X : Cx) (es : List Expr) (t : TA) : Prop :=
  ∀ (pos : Pos) (pins : List (Addr × Obj)) (s : Shared) (σ : St) (H : Hp) (Q : List V → Hp → Prop), Inv X pins σ H s → t σ H Q → wpAny (model X.prog X.w) X.A (spliced (backTo pos (starEach es X.env))) (AP X pins σ Q) X.xe s
def PS (X : Cx) (st : Stmt) (t : TS) : Prop :=
  ∀ (pins : List (Addr × Obj)) (s : Shared) (σ : St) (H : Hp) (D : Ends), Inv X pins σ H s → t D σ H → wpAny (model X.prog X.w) X.A (exec st X.env) (SP X pins D) X.xe s
def PSs (X : Cx) (st : List Stmt) (t : TS) : Prop :=
  ∀ (pins : List (Addr × Obj)) (s : Shared) (σ : St) (H : Hp) (D : Ends), Inv X pins σ H s → t D σ H → wpAny (model X.prog X.w) X.A (execs st X.env) (SP X pins D) X.xe s
theorem thn {α : Type} {t : Sem α} {Q Q' : α → Shared → Prop} {M : Model} {A : Around} {E : Value → Shared → Prop} {s : Shared} (h : wpAny M A t Q E s) (hQ : ∀ a s, Q a s → Q' a s) : wpAny M A t Q' E s := wpAny_mono h hQ fun _ _ x => x
end L2
namespace L2
open PySem PySem.Spec PyProof.Rows
section
variable {X : Cx}
def tVar (i : Nat) : TE := fun σ H Q => ∃ v, σ[i]? = some (some v) ∧ Q v H
def tC (v : V) : TE := fun _ H Q => Q v H
theorem pe_var {i : Nat} {x : Str} {pos : Pos} (hN : X.N[i]? = some x) (hv : Vis X.env.scope x) (hd : (x == ("__debug__" : Str)) = false := by decide) (hcd : (x == ("__classdict__" : Str)) = false := by decide) : PE X (.Name x pos) (tVar i) := by
  intro pins s σ H Q I h
  obtain ⟨v, e, h⟩ := h
  obtain ⟨m, hn, hl⟩ := I.loc
  obtain ⟨u, r, l⟩ := hl i x v hN e hv
  have fin : EP X pins σ Q u s := ⟨v, H, I, r, h⟩
  rcases l with ⟨hk, hm⟩ | ⟨hk, c, hc, hcell⟩
  · exact wpAny_Name (wpAny_loadName_local I.ok.kind hk hn hm fin) hd
  · rcases hk with hk | hk
    · exact wpAny_Name (wpAny_loadName_cell I.ok.kind hk hc hcell fin) hd
    · exact wpAny_Name (wpAny_loadName_free I.ok.kind hk hc hcell fin hcd) hd
theorem pe_int {i j pos} : PE X (.Constant (.int i) j pos) (tC (.int i)) := fun _ _ _ H _ I h => wpAny_Constant_int ⟨.int i, H, I.tok _, ⟨_, rfl⟩, h⟩
theorem pe_bl {b j pos} : PE X (.Constant (.bool b) j pos) (tC (.bl b)) := fun _ _ _ H _ I h => Constant_bool ⟨.bl b, H, I, rfl, h⟩
theorem pe_non {j pos} : PE X (.Constant .none j pos) (tC .non) := fun _ _ _ H _ I h => Constant_none ⟨.non, H, I, rfl, h⟩
theorem pe_str {x j pos} : PE X (.Constant (.str x) j pos) (tC (.str x)) := fun _ _ _ H _ I h => Calls.Constant_str ⟨.str x, H, I.tok _, ⟨_, rfl⟩, h⟩
def Gl (X : Cx) (x : Str) : Prop := X.env.kindOf x = some .globalImplicit
theorem ld_glob {E : Value → Shared → Prop} {pins : List (Addr × Obj)} {s : Shared} {σ : St} {H : Hp} {x : Str} {u : Value} {pos : Pos} {Q : Value → Shared → Prop} (I : Inv X pins σ H s) (hg : Gl X x) (hm : X.mg x = some u) (h : Q u s)
    (hd : (x == ("__debug__" : Str)) = false := by decide) : wpAny (model X.prog X.w) X.A (eval (.Name x pos) X.env) Q E s :=
  Calls.Name_function_global I.ok.kind hg (Calls.loadGlobal_global (by rw [I.ok.glob]; exact I.mod.glob.keeps I.bk) hm h) hd
theorem ld_blt {E : Value → Shared → Prop} {pins : List (Addr × Obj)} {s : Shared} {σ : St} {H : Hp} {x : Str} {u : Value} {pos : Pos} {Q : Value → Shared → Prop} (I : Inv X pins σ H s) (hg : Gl X x) (hm : X.mg x = none) (hv : bootBuiltins x = some u) (h : Q u s)
    (hn : x ≠ "__name__" := by decide) (hd : (x == ("__debug__" : Str)) = false := by decide) : wpAny (model X.prog X.w) X.A (eval (.Name x pos) X.env) Q E s := by
  obtain ⟨mb, h1, h2⟩ := I.mod.blt
  exact Calls.Name_function_global I.ok.kind hg (Calls.loadGlobal_builtin (by rw [I.ok.glob]; exact I.mod.glob.keeps I.bk) hm (by rw [I.ok.blt]; exact h1.keeps I.bk) ((h2 x hn).trans hv) h) hd
theorem pe_bltn {x : Str} {v : V} {u : Value} {pos : Pos} (hg : Gl X x) (hm : X.mg x = none) (hv : bootBuiltins x = some u) (r : RelV v u) (hn : x ≠ "__name__" := by decide) (hd : (x == ("__debug__" : Str)) = false := by decide) : PE X (.Name x pos) (tC v) :=
  fun _ _ _ H _ I h => ld_blt I hg hm hv ⟨v, H, I, r, h⟩ hn hd
variable {a b : Expr} {ta tb : TE} {pos : Pos}
def PC (X : Cx) (op : CmpOp) (a b : Expr) (t : TE) : Prop :=
  ∀ (pins : List (Addr × Obj)) (s : Shared) (σ : St) (H : Hp) (Q : VK), Inv X pins σ H s → t σ H Q →
    wpAny (model X.prog X.w) X.A (eval a X.env) (fun v s₁ => wpAny (model X.prog X.w) X.A (eval b X.env) (fun u s₂ => wpAny (model X.prog X.w) X.A (compareOp op v u) (EP X pins σ Q) X.xe s₂) X.xe s₁) X.xe s
theorem nobehind (b : Expr) {op : CmpOp} (h : op ≠ .In) (h2 : op ≠ .NotIn) : behindInMarks op b = false := by
  have e1 : (op == CmpOp.In) = false := by cases op <;> first | rfl | exact absurd rfl h
  have e2 : (op == CmpOp.NotIn) = false := by cases op <;> first | rfl | exact absurd rfl h2
  cases b <;> simp [behindInMarks, e1, e2]
def tB (t : TE) : TT := fun σ H Q => t σ H fun x H1 => ∃ c, x = .bl c ∧ Q c H1
theorem pt_cmp {op : CmpOp} {t : TE} (h : PC X op a b t) (h1 : behindInMarks op b = false := by first | exact nobehind _ (by decide) (by decide) | rfl) : PT X (.Compare a [op] [b] pos) (tB t) := by
  intro pins s σ H Q I hw
  refine wpAny_isTrue_Compare1 (thn (h pins s σ H _ I hw) fun v s1 h1 => thn h1 fun u s2 h2 => thn h2 fun c s3 ⟨x, H1, I1, r1, q1⟩ => ?_) h1
  obtain ⟨d, rfl, q⟩ := q1
  cases r1
  exact wpAny_truthy_bool ⟨H1, I1, q⟩
variable {tA tB' : TT} {rest : List Expr}
def tAnd (t u : TT) : TT := fun σ H Q => t σ H fun c H1 => if c = true then u σ H1 Q else Q false H1
def tOr (t u : TT) : TT := fun σ H Q => t σ H fun c H1 => if c = true then Q true H1 else u σ H1 Q
def tNot (t : TT) : TT := fun σ H Q => t σ H fun c H1 => Q (!c) H1
theorem pw_and1 (ha : PT X a tA) : PW X (.BoolOp .And [a] pos) tA := by
  intro wh pins s σ H Q I h
  refine isTrue_and (thn (ha pins s σ H Q I h) fun c s1 e => ?_)
  cases c with
  | true => exact isTrue_and_nil e
  | false => exact e
theorem pw_or1 (ha : PT X a tA) : PW X (.BoolOp .Or [a] pos) tA := by
  intro wh pins s σ H Q I h
  refine isTrue_or (thn (ha pins s σ H Q I h) fun c s1 e => ?_)
  cases c with
  | false => exact isTrue_or_nil e
  | true => exact e
theorem pw_and (ha : PT X a tA) (hb : PW X (.BoolOp .And (b :: rest) pos) tB') : PW X (.BoolOp .And (a :: b :: rest) pos) (tAnd tA tB') := by
  intro wh pins s σ H Q I h
  refine isTrue_and (thn (ha pins s σ H _ I h) fun c s1 ⟨H1, I1, q1⟩ => ?_)
  cases c with
  | true => exact hb wh pins s1 σ H1 Q I1 q1
  | false => exact ⟨H1, I1, q1⟩
theorem pw_or (ha : PT X a tA) (hb : PW X (.BoolOp .Or (b :: rest) pos) tB') : PW X (.BoolOp .Or (a :: b :: rest) pos) (tOr tA tB') := by
  intro wh pins s σ H Q I h
  refine isTrue_or (thn (ha pins s σ H _ I h) fun c s1 ⟨H1, I1, q1⟩ => ?_)
  cases c with
  | true => exact ⟨H1, I1, q1⟩
  | false => exact hb wh pins s1 σ H1 Q I1 q1
theorem pt_not (ha : PT X a tA) : PT X (.UnaryOp .Not a pos) (tNot tA) := by
  intro pins s σ H Q I h
  exact isTrue_not (ha pins s σ H (fun c H1 => Q (!c) H1) I h)
def tAndV (ta tb : TE) : TE := fun σ H Q => ta σ H fun x H1 => ∃ c, x = .bl c ∧ if c = true then tb σ H1 Q else Q (.bl false) H1
def tNotV (ta : TE) : TE := fun σ H Q => ta σ H fun x H1 => ∃ c, x = .bl c ∧ Q (.bl (!c)) H1
theorem pe_one {op} {t : TE} (h : PE X a t) : PE X (.BoolOp op [a] pos) t := fun pins s σ H Q I hw => BoolOp_one (h pins s σ H Q I hw)
theorem pe_and (ha : PE X a ta) (hb : PE X (.BoolOp .And (b :: rest) pos) tb) : PE X (.BoolOp .And (a :: b :: rest) pos) (tAndV ta tb) := by
  intro pins s σ H Q I h
  refine BoolOp_and (thn (ha pins s σ H _ I h) fun v s1 ⟨x, H1, I1, r1, q1⟩ => ?_)
  obtain ⟨c, rfl, q1⟩ := q1
  cases r1
  refine wpAny_truthy_bool ?_
  cases c with
  | true => exact hb pins s1 σ H1 Q I1 q1
  | false => exact ⟨.bl false, H1, I1, rfl, q1⟩
theorem pe_not (ha : PE X a ta) : PE X (.UnaryOp .Not a pos) (tNotV ta) := by
  intro pins s σ H Q I h
  refine UnaryOp_ (thn (ha pins s σ H _ I h) fun v s1 ⟨x, H1, I1, r1, q1⟩ => ?_)
  obtain ⟨c, rfl, q1⟩ := q1
  cases r1
  exact not_of (wpAny_truthy_bool ⟨.bl (!c), H1, I1, rfl, q1⟩)
end
end L2
namespace L2
open PySem PySem.Spec PyProof.Rows
def SqL (K : PySem.W.Frag) (H : Hp) (a : Addr) (xs : List V) : Prop :=
  Rd H a (.lst xs) ∨
    ∃ (o : Obj) (its : Array Value) (n : Nat), K.lookup a = some o ∧ o.cls = .type "list" ∧ o.dict = none ∧ o.data = .seq its n ∧ its.size ≤ sizeLine ∧ Vals xs its.toList
def SqT (K : PySem.W.Frag) (H : Hp) (a : Addr) (xs : List V) : Prop :=
  Rd H a (.tup xs) ∨
    ∃ (o : Obj) (its : Array Value) (n : Nat), K.lookup a = some o ∧ o.cls = .type "tuple" ∧ o.data = .seq its n ∧ its.size ≤ sizeLine ∧ Vals xs its.toList
def absV : Value → Option V
  | .none => some .non
  | .bool b => some (.bl b)
  | .int i _ => some (.int i)
  | .str x _ => some (.str x)
  | .bytes b _ => some (.byt b)
  | .float b _ => some (.flt b)
  | .ref a => some (.ref a)
  | .type n => some (.ty n)
  | _ => none
theorem RelV.abs {x : V} {u : Value} (r : RelV x u) : absV u = some x := by
  cases x with
  | non => cases r; rfl
  | bl _ => cases r; rfl
  | int _ => obtain ⟨t, rfl⟩ := r; rfl
  | str _ => obtain ⟨t, rfl⟩ := r; rfl
  | byt _ => obtain ⟨t, rfl⟩ := r; rfl
  | flt _ => obtain ⟨t, rfl⟩ := r; rfl
  | ref _ => cases r; rfl
  | ty _ => cases r; rfl
theorem RelV.inj {x y : V} {u : Value} (r : RelV x u) (q : RelV y u) : x = y := Option.some.inj (r.abs.symm.trans q.abs)
theorem Vals.inj : ∀ {xs ys : List V} {us : List Value}, Vals xs us → Vals ys us → xs = ys
  | _, _, _, .nil, .nil => rfl
  | _, _, _, .cons r t, .cons r' t' => by rw [r.inj r', Vals.inj t t']
section
variable {X : Cx} {pins : List (Addr × Obj)} {σ : St} {H : Hp} {s : Shared} {a : Addr} {xs ys : List V}
theorem SqL.of {K : PySem.W.Frag} (h : H a = some (.lst xs)) : SqL K H a xs := .inl (.inl h)
theorem SqT.of {K : PySem.W.Frag} (h : H a = some (.tup xs)) : SqT K H a xs := .inl (.inl h)
theorem Inv.list (I : Inv X pins σ H s) (h : SqL X.K H a xs) : ∃ its : List Value, Vals xs its ∧ PlainL s.heap a its.toArray ∧ xs.length ≤ sizeLine := by
  rcases h with h | ⟨o, its, n, hk, hc, hd, hs, hz, r⟩
  · obtain ⟨z, its, n, r, e⟩ := h.ok I.hok
    exact ⟨its, r, ⟨_, n, e, rfl, rfl, rfl⟩, z⟩
  · refine ⟨its.toList, r, ⟨o, n, I.kIn a o hk, hc, hd, by simpa using hs⟩, ?_⟩
    have e := r.length
    simp only [Array.length_toList] at e
    omega
theorem Inv.tuple (I : Inv X pins σ H s) (h : SqT X.K H a xs) : ∃ its : List Value, Vals xs its ∧ IsTup s.heap a its.toArray ∧ xs.length ≤ sizeLine := by
  rcases h with h | ⟨o, its, n, hk, hc, hs, hz, r⟩
  · obtain ⟨z, its, r, p⟩ := h.ok I.hok
    exact ⟨its, r, p, z⟩
  · refine ⟨its.toList, r, ⟨o, I.kIn a o hk, hc, n, by simpa using hs⟩, ?_⟩
    have e := r.length
    simp only [Array.length_toList] at e
    omega
theorem Inv.list_inj (I : Inv X pins σ H s) (h : SqL X.K H a xs) (h' : SqL X.K H a ys) : xs = ys := by
  obtain ⟨its, r, ⟨o, n, e, _, _, d⟩, _⟩ := I.list h
  obtain ⟨its', r', ⟨o', n', e', _, _, d'⟩, _⟩ := I.list h'
  rw [e] at e'; cases e'
  rw [d] at d'
  injection d' with d1 _
  have : its = its' := by simpa using congrArg Array.toList d1
  subst this
  exact r.inj r'
end
abbrev Cx.wish (X : Cx) (E : Value → Shared → Prop) : Cx := { X with xe := E }
abbrev Cx.nox (X : Cx) : Cx := X.wish fun _ _ => False
theorem Cx.Ok.wish {X : Cx} (ok : X.Ok) (E : Value → Shared → Prop) : (X.wish E).Ok :=
  ⟨ok.mod, ok.kind, ok.glob, ok.blt, ok.above, ok.inj, ok.has, ok.cab, ok.hd, ok.frames, ok.stk, ok.exf, ok.bs, ok.bsz, ok.noex, ok.exfs, ok.funs, ok.frf⟩
theorem Cx.Ok.unwish {X : Cx} {E : Value → Shared → Prop} (ok : (X.wish E).Ok) : X.Ok :=
  ⟨ok.mod, ok.kind, ok.glob, ok.blt, ok.above, ok.inj, ok.has, ok.cab, ok.hd, ok.frames, ok.stk, ok.exf, ok.bs, ok.bsz, ok.noex, ok.exfs, ok.funs, ok.frf⟩
section
variable {X : Cx} {pins : List (Addr × Obj)} {σ : St} {H : Hp} {s : Shared} {E : Value → Shared → Prop}
theorem Inv.wish (I : Inv X pins σ H s) (E : Value → Shared → Prop) : Inv (X.wish E) pins σ H s := ⟨I.ok.wish E, I.os, I.bare, I.base, I.loc, I.cell, I.free, I.freeC, I.pin, I.hok, I.len⟩
theorem Inv.unwish (I : Inv (X.wish E) pins σ H s) : Inv X pins σ H s := ⟨I.ok.unwish, I.os, I.bare, I.base, I.loc, I.cell, I.free, I.freeC, I.pin, I.hok, I.len⟩
theorem SP.unwish {D : Ends} {f : Flow} {s' : Shared} (h : SP (X.wish E) pins D f s') : SP X pins D f s' := by
  cases f with
  | next => obtain ⟨σ', H', I, q⟩ := h; exact ⟨σ', H', I.unwish, q⟩
  | brk => obtain ⟨σ', H', I, q⟩ := h; exact ⟨σ', H', I.unwish, q⟩
  | cont => obtain ⟨σ', H', I, q⟩ := h; exact ⟨σ', H', I.unwish, q⟩
  | ret u => obtain ⟨v, σ', H', I, r, q⟩ := h; exact ⟨v, σ', H', I.unwish, r, q⟩
theorem PE.nox {e : Expr} {t : TE} (h : PE X.nox e t) : PE X e t := fun pins s σ H Q I hw =>
  wpAny_mono (h pins s σ H Q (I.wish _) hw) (fun _ _ ⟨v, H', I', r, q⟩ => ⟨v, H', I'.unwish, r, q⟩) fun _ _ z => False.elim z
theorem PT.nox {e : Expr} {t : TT} (h : PT X.nox e t) : PT X e t := fun pins s σ H Q I hw =>
  wpAny_mono (h pins s σ H Q (I.wish _) hw) (fun _ _ ⟨H', I', q⟩ => ⟨H', I'.unwish, q⟩) fun _ _ z => False.elim z
theorem PSs.nox {st : List Stmt} {t : TS} (h : PSs X.nox st t) : PSs X st t := fun pins s σ H D I hw =>
  wpAny_mono (h pins s σ H D (I.wish _) hw) (fun _ _ q => q.unwish) fun _ _ z => False.elim z
end
section
variable {X : Cx} {st : Stmt} {rest : List Stmt} {t u : TS} {e : Expr} {te : TE} {pos : Pos}
def tNext : TS := fun D σ H => D.nx σ H
def tSeq (t u : TS) : TS := fun D σ H => t { D with nx := u D } σ H
theorem pss_nil : PSs X [] tNext := fun _ _ σ H _ I h => wpAny_execs_nil ⟨σ, H, I, h⟩
theorem pss_cons (h1 : PS X st t) (h2 : PSs X rest u) : PSs X (st :: rest) (tSeq t u) := by
  intro pins s σ H D I h
  refine wpAny_execs_cons (thn (h1 pins s σ H { D with nx := u D } I h) fun f s1 q => ?_)
  cases f with
  | next =>
    obtain ⟨σ', H', I', q⟩ := q
    exact h2 pins s1 σ' H' D I' q
  | ret v => exact q
  | brk => exact q
  | cont => exact q
theorem pss_one (h1 : PS X st t) : PSs X [st] t := by
  intro pins s σ H D I h
  refine wpAny_execs_cons (thn (h1 pins s σ H D I h) fun f s1 q => ?_)
  cases f with
  | next => exact wpAny_execs_nil q
  | ret v => exact q
  | brk => exact q
  | cont => exact q
theorem Inv.quiet {pins : List (Addr × Obj)} {σ : St} {H : Hp} {s : Shared} (I : Inv X pins σ H s) : interactive X.env = false := by simp [interactive, I.ok.kind]
def tDrop (te : TE) : TS := fun D σ H => te σ H fun _ H1 => D.nx σ H1
theorem ps_expr (he : PE X e te) (hs : swapsWith e none pos.line X.env = pure false := by rfl) : PS X (.Expr e pos) (tDrop te) := by
  intro pins s σ H D I h
  exact wpAny_Expr_any (thn (he pins s σ H _ I h) fun v s1 ⟨x, H1, I1, r1, q1⟩ => ⟨σ, H1, I1, q1⟩) I.quiet hs
def tRet (te : TE) : TS := fun D σ H => te σ H D.rt
theorem ps_ret (he : PE X e te) : PS X (.Return (some e) pos) (tRet te) := by
  intro pins s σ H D I h
  exact wpAny_Return_some (thn (he pins s σ H _ I h) fun v s1 ⟨x, H1, I1, r1, q1⟩ => ⟨x, σ, H1, I1, r1, q1⟩)
def tIfS (c : TT) (t u : TS) : TS := fun D σ H => c σ H fun b H1 => if b = true then t D σ H1 else u D σ H1
theorem ps_if {c : Expr} {a b : List Stmt} {tc : TT} (hc : PT X c tc) (ha : PSs X a t) (hb : PSs X b u) : PS X (.If c a b pos) (tIfS tc t u) := by
  intro pins s σ H D I h
  refine wpAny_If (thn (hc pins s σ H _ I h) fun d s1 ⟨H1, I1, q1⟩ => ?_)
  cases d with
  | true => exact ha pins s1 σ H1 D I1 q1
  | false => exact hb pins s1 σ H1 D I1 q1
end
abbrev TG := V → St → Hp → (St → Hp → Prop) → Prop
abbrev TGs := List V → St → Hp → (St → Hp → Prop) → Prop
def PG (X : Cx) (target : Expr) (t : TG) : Prop :=
  ∀ (pins : List (Addr × Obj)) (s : Shared) (σ : St) (H : Hp) (v : V) (u : Value) (Q : St → Hp → Prop), Inv X pins σ H s → RelV v u → t v σ H Q →
    wpAny (model X.prog X.w) X.A (assign target X.env u) (fun _ s' => ∃ σ' H', Inv X pins σ' H' s' ∧ Q σ' H') X.xe s
def PGs (X : Cx) (ts : List Expr) (t : TGs) : Prop :=
  ∀ (pins : List (Addr × Obj)) (s : Shared) (σ : St) (H : Hp) (vs : List V) (us : List Value) (Q : St → Hp → Prop), Inv X pins σ H s → Vals vs us → t vs σ H Q →
    wpAny (model X.prog X.w) X.A (assignInOrder ((assignEach ts X.env).map (·.2)) us) (fun _ s' => ∃ σ' H', Inv X pins σ' H' s' ∧ Q σ' H') X.xe s
abbrev TSet := V → V → V → Hp → (Hp → Prop) → Prop
def PSet (X : Cx) (t : TSet) : Prop :=
  ∀ (pins : List (Addr × Obj)) (s : Shared) (σ : St) (H : Hp) (o i v : V) (ov iv u : Value) (Q : Hp → Prop), Inv X pins σ H s → RelV o ov → RelV i iv → RelV v u → t o i v H Q →
    wpAny (model X.prog X.w) X.A (setItem ov iv u) (fun _ s' => ∃ H', Inv X pins σ H' s' ∧ Q H') X.xe s
section
variable {X : Cx} {pos : Pos}
def gName (i : Nat) : TG := fun v σ H Q => Q (σ.set i (some v)) H
theorem pg_name {i : Nat} {x : Str} (hN : X.N.Nodup) (hi : X.N[i]? = some x) (hx : Loc X.env.scope x) (hf : X.fn x = true ∨ X.env.scope.names.lookup x = some .local := by first | exact .inl rfl | exact .inr rfl | assumption) : PG X (.Name x pos) (gName i) := by
  intro pins s σ H v u Q I r h
  exact wpAny_assign_Name (store_ok I hN hi hx r (fun s' I' => ⟨_, H, I', h⟩) hf)
def gNil : TGs := fun vs σ H Q => vs = [] ∧ Q σ H
def gCons (t : TG) (u : TGs) : TGs := fun vs σ H Q => ∃ v r, vs = v :: r ∧ t v σ H fun σ' H' => u r σ' H' Q
theorem pgs_nil : PGs X [] gNil := by
  intro pins s σ H vs us Q I r h
  obtain ⟨e, h⟩ := h
  subst e
  cases r
  exact assignInOrder_nil ⟨σ, H, I, h⟩
theorem pgs_cons {e : Expr} {es : List Expr} {t : TG} {u : TGs} (h1 : PG X e t) (h2 : PGs X es u)
    (hs : (assignEach (e :: es) X.env).map (·.2) = assign e X.env :: (assignEach es X.env).map (·.2) := by rfl) : PGs X (e :: es) (gCons t u) := by
  intro pins s σ H vs us Q I r h
  obtain ⟨v, vr, e1, h⟩ := h
  subst e1
  cases r with
  | cons r rr =>
    rw [hs]
    refine assignInOrder_cons (thn (h1 pins s σ H _ _ _ I r h) fun _ s1 ⟨σ1, H1, I1, q1⟩ => ?_)
    exact h2 pins s1 σ1 H1 _ _ Q I1 rr q1
def gTup (K : PySem.W.Frag) (n : Nat) (t : TGs) : TG := fun v σ H Q => ∃ a xs, v = .ref a ∧ SqT K H a xs ∧ xs.length = n ∧ t xs σ H Q
theorem pg_tup {es : List Expr} {k : Nat} {t : TGs} {n : Nat} (hc : X.calm = true) (h : PGs X es t)
    (hn : (assignEach es X.env).length = n := by rfl) (hst : (assignEach es X.env).findIdx? (·.1) = none := by rfl) : PG X (.Tuple es k pos) (gTup X.K n t) := by
  intro pins s σ H v u Q I r hw
  obtain ⟨a, xs, e1, hq, hl, hw⟩ := hw
  subst e1
  cases r
  obtain ⟨its, rv, ht, hz⟩ := I.tuple hq
  refine assign_Tuple_tuple (I.ok.hd hc) ht (by simp [hn, ← hl, rv.length]) hst fun h' hx => ?_
  have I1 : Inv X pins σ H { s with heap := h' } := I.kept (t' := s.toks) fun b o e => hx b o (Nat.ne_of_lt (Heap.lt_size e)) e
  exact h pins _ σ H xs _ Q I1 (by simpa using rv) hw
def gSub (to ti : TE) (t : TSet) : TG := fun v σ H Q => to σ H fun o H1 => ti σ H1 fun i H2 => t o i v H2 fun H3 => Q σ H3
theorem pg_sub {o i : Expr} {to ti : TE} {t : TSet} (ho : PE X o to) (hi : PE X i ti) (hs : PSet X t)
    (ha : ∀ v, assign (.Subscript o i pos) X.env v = (do
      let ov ← holding [v] (eval o X.env)
      let iv ← holding [v, ov] (eval i X.env)
      standAt pos
      holding [v, ov, iv] (setItem ov iv v)
      release [v, ov, iv] []) := by intro _; rfl) : PG X (.Subscript o i pos) (gSub to ti t) := by
  intro pins s σ H v u Q I r h
  rw [ha]
  refine wpAny_bind (wpAny_holding (thn (ho pins s σ H _ I h) fun ov s1 ⟨x, H1, I1, r1, q1⟩ => ?_))
  refine wpAny_bind (wpAny_holding (thn (hi pins s1 σ H1 _ I1 q1) fun iv s2 ⟨y, H2, I2, r2, q2⟩ => ?_))
  refine wpAny_bind (wpAny_standAt (wpAny_bind (wpAny_holding (thn (hs pins s2 σ H2 x y v ov iv u _ I2 r1 r2 r q2) fun _ s3 ⟨H3, I3, q3⟩ => ?_))))
  exact wpAny_release ⟨σ, H3, I3, q3⟩
def tAsg (te : TE) (g : TG) : TS := fun D σ H => te σ H fun x H1 => g x σ H1 D.nx
theorem ps_asg {tg e : Expr} {te : TE} {g : TG} (he : PE X e te) (hg : PG X tg g) (hs : swapsWithSole [tg] e pos.line X.env = pure false := by rfl) (hw : swappedStores [tg] e X.env = pure none := by rfl)
    (h1 : (assignEach [tg] X.env).map (·.2) = [assign tg X.env] := by rfl) : PS X (.Assign [tg] e pos) (tAsg te g) := by
  intro pins s σ H D I h
  refine wpAny_Assign_stores (thn (he pins s σ H _ I h) fun v s1 ⟨x, H1, I1, r1, q1⟩ => ?_) hs hw
  rw [h1]
  exact thn (hg pins s1 σ H1 x v _ I1 r1 q1) fun _ s2 q => q
theorem ps_set {i : Nat} {x : Str} {e : Expr} {te : TE} {pos' : Pos} (hN : X.N.Nodup) (hi : X.N[i]? = some x) (hx : Loc X.env.scope x) (he : PE X e te) (hs : swapsWith e (some (.Name x pos')) pos.line X.env = pure false := by rfl) (hf : X.fn x = true ∨ X.env.scope.names.lookup x = some .local := by first | exact .inl rfl | exact .inr rfl | assumption) :
    PS X (.Assign [.Name x pos'] e pos) (tAsg te (gName i)) := by
  intro pins s σ H D I h
  refine wpAny_Assign_Name (thn (he pins s σ H _ I h) fun v s1 ⟨y, H1, I1, r1, q1⟩ => ?_) hs
  exact store_ok I1 hN hi hx r1 (fun s2 I2 => ⟨_, H1, I2, q1⟩) hf
def PGet (X : Cx) (t : V → V → Hp → VK → Prop) : Prop :=
  ∀ (pins : List (Addr × Obj)) (s : Shared) (σ : St) (H : Hp) (o i : V) (ov iv : Value) (Q : VK), Inv X pins σ H s → RelV o ov → RelV i iv → t o i H Q →
    wpAny (model X.prog X.w) X.A (getItem ov iv) (EP X pins σ Q) X.xe s
end
section
variable {X : Cx} {pos : Pos}
end
structure It where
  go : Nat → Hp → Prop
  yld : Nat → Hp → V → Hp → Prop
  stop : Nat → Hp → Prop
def FpOk (X : Cx) (pins : List (Addr × Obj)) (H : Hp) (b : Addr) : Prop :=
  H b = none ∧ b ≠ X.env.locals ∧ b ∉ X.fs ∧ (b ∈ X.ex ∨ X.s₀.heap.objs.size ≤ b) ∧ (∀ x c, X.env.cells.lookup x = some c → c ≠ b) ∧ ∀ p ∈ X.pn ++ pins, p.1 ≠ b
theorem Inv.fpOk {X : Cx} {pins : List (Addr × Obj)} {σ : St} {H H' : Hp} {s : Shared} {b : Addr} (I : Inv X pins σ H s) (hb : s.heap.objs.size ≤ b) (hn : H' b = none) : FpOk X pins H' b := by
  refine ⟨hn, Nat.ne_of_gt (Nat.lt_of_lt_of_le I.lt hb), I.nofs hb, .inr (Nat.le_trans I.sz hb), fun x c e z => ?_, fun p hp z => ?_⟩
  · obtain ⟨v, q⟩ := I.cell x c e
    exact absurd (Nat.lt_of_lt_of_le q.lt (by rw [z]; exact hb)) (Nat.lt_irrefl _)
  · exact absurd (Nat.lt_of_lt_of_le (Heap.lt_size (I.pin p hp).1) (by rw [z]; exact hb)) (Nat.lt_irrefl _)
structure Turn (P : Program) (w : World) (K : PySem.W.Frag) (tg : Expr) (J : It) (fp : List Addr) (it : Addr) (tn : Nat → Heap → Prop) : Prop where
  mem : it ∈ fp
  obj : ∀ i h, tn i h → ∀ b ∈ fp, ∃ o, h.get? b = some o ∧ ∀ v, o.data ≠ .cell v
  keep : ∀ i h h', tn i h → (∀ b ∈ fp, ∀ o, h.get? b = some o → h'.get? b = some o) → tn i h'
  item : ∀ (X : Cx), X.prog = P → X.w = w → X.K = K → X.calm = true → ∀ (i : Nat) (pins : List (Addr × Obj)) (s : Shared) (σ : St) (H : Hp) (E : Value → Shared → Prop), Inv X pins σ H s → (∀ b ∈ fp, FpOk X pins H b) → tn i s.heap → J.go i H →
    wpAny (model P w) X.A (pyNext (.ref it)) (fun r s1 => ∃ u, r = some u ∧
      wpAny (model P w) X.A (letOwnedTupleGo tg (.ref it) u) (fun _ s2 => ∃ x H', Inv X pins σ H' s2 ∧ RelV x u ∧ J.yld i H x H' ∧ tn (i + 1) s2.heap ∧ ∀ b ∈ fp, H' b = none) E s1) E s
  done : ∀ (X : Cx), X.prog = P → X.w = w → X.K = K → X.calm = true → ∀ (i : Nat) (pins : List (Addr × Obj)) (s : Shared) (σ : St) (H : Hp) (E : Value → Shared → Prop), Inv X pins σ H s → (∀ b ∈ fp, FpOk X pins H b) → tn i s.heap → J.stop i H →
    wpAny (model P w) X.A (pyNext (.ref it)) (fun r s1 => r = none ∧ Inv X pins σ H s1) E s
  self : ∀ (A : Around) (i : Nat) (s : Shared) (Q : Value → Shared → Prop) (E : Value → Shared → Prop), tn i s.heap → Q (.ref it) s → wpAny (model P w) A (pyIter (.ref it)) Q E s
abbrev TI := St → Hp → (It → Hp → Prop) → Prop
def PIE (X : Cx) (pins : List (Addr × Obj)) (σ : St) (tg : Expr) (R : It → Hp → Prop) (itv : Value) (s2 : Shared) : Prop :=
  ∃ (it : Addr) (fp : List Addr) (tn : Nat → Heap → Prop) (J : It) (H' : Hp), itv = .ref it ∧ Inv X pins σ H' s2 ∧ Turn X.prog X.w X.K tg J fp it tn ∧ tn 0 s2.heap ∧ (∀ b ∈ fp, FpOk X pins H' b) ∧ R J H'
def PI (X : Cx) (tg iter : Expr) (wi : TI) : Prop :=
  ∀ (pins : List (Addr × Obj)) (s : Shared) (σ : St) (H : Hp) (R : It → Hp → Prop), Inv X pins σ H s → wi σ H R →
    wpAny (model X.prog X.w) X.A (eval iter X.env) (fun v s1 => wpAny (model X.prog X.w) X.A (pyIter v) (PIE X pins σ tg R) X.xe s1) X.xe s
theorem go_of {M : Model} {A : Around} {E : Value → Shared → Prop} {s : Shared} {tg : Expr} {it : Addr} {u : Value} {o : Obj} {n : String} {vs : Array Value} {Q : Unit → Shared → Prop} (ho : s.heap.get? it = some o) (hc : o.cls = .type n) (hd : o.data = .fields vs)
    (hn : ["enumerate", "zip", "dict_itemiterator", "dict_reverseitemiterator", "odict_iterator", "itertools.zip_longest", "itertools.pairwise"].contains n = false) (hQ : Q () s) : wpAny M A (letOwnedTupleGo tg (.ref it) u) Q E s := by
  unfold letOwnedTupleGo
  cases tg <;> first
    | exact wpAny_pure hQ
    | (cases u <;> first
        | exact wpAny_pure hQ
        | (refine wpAny_bind (wpAny_load ho ?_)
           rw [hc, hd]
           show wpAny M A (if (["enumerate", "zip", "dict_itemiterator", "dict_reverseitemiterator", "odict_iterator", "itertools.zip_longest", "itertools.pairwise"].contains n && vs[0]? == some (rawInt _)) = true then _ else _) Q E s
           rw [if_neg (by intro h; rw [hn, Bool.false_and] at h; cases h)]
           exact wpAny_pure hQ))
def Itl (K : PySem.W.Frag) (a : Addr) : It :=
  ⟨fun i H => ∃ xs x, SqL K H a xs ∧ xs[i]? = some x, fun i H x H' => H' = H ∧ ∀ xs, SqL K H a xs → xs[i]? = some x, fun i H => ∃ xs, SqL K H a xs ∧ xs.length ≤ i⟩
def Itr (lo : Int) (n : Nat) : It := ⟨fun i _ => i < n, fun i H x H' => H' = H ∧ x = .int (lo + i), fun i _ => n ≤ i⟩
theorem turn_list {P : Program} {w : World} {K : PySem.W.Frag} {tg : Expr} (a it : Addr) : Turn P w K tg (Itl K a) [it] it (fun i h => h.IsListIter it a i) where
  mem := by simp
  obj := fun i h st b hb => by
    have e : b = it := by simpa using hb
    subst e
    obtain ⟨o, e, c, d⟩ := st
    exact ⟨o, e, fun v z => by rw [d] at z; cases z⟩
  keep := fun i h h' st k => st.at fun o e => k it (by simp) o e
  item := by
    intro X hP hw hK hc i pins s σ H E I hf st hg
    subst hP hw hK
    obtain ⟨xs, x, hq, hx⟩ := hg
    obtain ⟨its, rv, p, hz⟩ := I.list hq
    obtain ⟨u, hu, ru⟩ := rv.get hx
    obtain ⟨f0, f1, f2, f3, f4, f5⟩ := hf it (by simp)
    refine wpAny_pyNext_list_item st p.isList (x := u) (by simpa using hu) fun h' st' sb => ?_
    have I1 : Inv X pins σ H { s with heap := h' } := I.turned (t' := s.toks) (fun b o hb e => (sb.2 b hb).trans e) f0 f1 f3 f4 f5
    obtain ⟨o, e, c, d⟩ := id st'
    exact ⟨u, rfl, go_of (s := { s with heap := h' }) e c d (by decide) ⟨x, H, I1, ru, ⟨rfl, fun ys hy => by rw [I.list_inj hy hq]; exact hx⟩, st', fun b hb => (hf b hb).1⟩⟩
  done := by
    intro X hP hw hK hc i pins s σ H E I hf st hg
    subst hP hw hK
    obtain ⟨xs, hq, hx⟩ := hg
    obtain ⟨its, rv, p, hz⟩ := I.list hq
    obtain ⟨f0, f1, f2, f3, f4, f5⟩ := hf it (by simp)
    have hl := rv.length
    exact wpAny_pyNext_list_end (I.ok.hd hc) st p.isList (by simp; omega) fun h' eb => ⟨rfl, I.turned (t' := s.toks) (fun b o hb e => eb b o hb e) f0 f1 f3 f4 f5⟩
  self := fun _ _ _ _ _ st h => wpAny_pyIter_listiter st h
theorem turn_range {P : Program} {w : World} {K : PySem.W.Frag} {tg : Expr} (it : Addr) (lo : Int) (n : Nat) : Turn P w K tg (Itr lo n) [it] it (fun i h => IsRangeIter h it (lo + (i : Nat) * 1) ((n : Int) - (i : Nat)) 1) where
  mem := by simp
  obj := fun i h st b hb => by
    have e : b = it := by simpa using hb
    subst e
    exact ⟨_, st, fun v z => by
      have z' : Data.fields _ = Data.cell v := z
      cases z'⟩
  keep := fun i h h' st k => k it (by simp) _ st
  item := by
    intro X hP hw hK hc i pins s σ H E I hf st hg
    subst hP hw hK
    obtain ⟨f0, f1, f2, f3, f4, f5⟩ := hf it (by simp)
    have W := Walks.range (prog := X.prog) (w := X.w) (I.ok.hd hc) it lo 1 n
    refine W.item i s _ _ hg st fun v h' tk hv st' kk => ?_
    obtain ⟨t, rfl⟩ := hv
    have I1 : Inv X pins σ H { s with heap := h', toks := tk } := I.turned (fun b o hb e => kk b o (by simpa using hb) e) f0 f1 f3 f4 f5
    refine ⟨_, rfl, go_of (s := { s with heap := h', toks := tk }) (n := "range_iterator") st' rfl rfl (by decide) ⟨.int (lo + i), H, I1, ⟨t, ?_⟩, ⟨rfl, rfl⟩, st', fun b hb => (hf b hb).1⟩⟩
    rw [Int.mul_one]
  done := by
    intro X hP hw hK hc i pins s σ H E I hf st hg
    subst hP hw hK
    obtain ⟨f0, f1, f2, f3, f4, f5⟩ := hf it (by simp)
    exact wpAny_pyNext_range_end (I.ok.hd hc) st (by have : n ≤ i := hg; omega) fun h' eb => ⟨rfl, I.turned (t' := s.toks) (fun b o hb e => eb b o hb e) f0 f1 f3 f4 f5⟩
  self := fun _ _ _ _ _ st h => wpAny_pyIter_rangeiter st h
end L2
namespace L2
open PySem PySem.Spec PyProof.Rows
section
variable {X : Cx} {tg : Expr}
def iList (K : PySem.W.Frag) (tl : TE) : TI := fun σ H R => tl σ H fun x H1 => ∃ a, x = .ref a ∧ (∃ xs, SqL K H1 a xs) ∧ R (Itl K a) H1
theorem pi_list {l : Expr} {tl : TE} (hl : PE X l tl) : PI X tg l (iList X.K tl) := by
  intro pins s σ H R I h
  refine thn (hl pins s σ H _ I h) fun v s1 ⟨x, H1, I1, r1, q1⟩ => ?_
  obtain ⟨a, e, ⟨xs, hq⟩, q⟩ := q1
  subst e
  cases r1
  obtain ⟨its, rv, p, hz⟩ := I1.list hq
  refine wpAny_pyIter_list p.isList ?_
  refine ⟨s1.heap.objs.size, [s1.heap.objs.size], _, _, H1, rfl, I1.kept (t' := s1.toks) fun b o e => Heap.get?_push_of_some _ e, turn_list a _, ⟨_, Heap.get?_push_size _ rfl, rfl, rfl⟩, fun b hb => ?_, q⟩
  have e : b = s1.heap.objs.size := by simpa using hb
  subst e
  exact I1.fpOk (Nat.le_refl _) (I1.hok.fresh (Nat.le_refl _))
theorem range_it {pins : List (Addr × Obj)} {σ : St} {H : Hp} {s : Shared} {R : It → Hp → Prop} {E : Value → Shared → Prop} {lo hi : Int} {t u v : Tok} {tk : Nat} (I : Inv X pins σ H s) (h1 : -(2 ^ 62) ≤ lo) (h2 : lo < 2 ^ 62) (h3 : -(2 ^ 62) ≤ hi) (h4 : hi < 2 ^ 62)
    (q : R (Itr lo (hi - lo).toNat) H) : wpAny (model X.prog X.w) X.A (pyIter (.ref s.heap.objs.size)) (PIE X pins σ tg R) E { s with heap := s.heap.push { cls := .type "range", data := .fields #[.int lo t, .int hi u, .int 1 v] }, toks := tk } := by
  refine wpAny_pyIter_range (IsRange.new ..) (small_one h1 h2 h3 h4) ?_
  have I1 : Inv X pins σ H { s with heap := s.heap.push { cls := .type "range", data := .fields #[.int lo t, .int hi u, .int 1 v] }, toks := tk } := I.kept fun b o e => Heap.get?_push_of_some _ e
  refine ⟨(s.heap.push { cls := .type "range", data := .fields #[.int lo t, .int hi u, .int 1 v] }).objs.size, [(s.heap.push { cls := .type "range", data := .fields #[.int lo t, .int hi u, .int 1 v] }).objs.size], _, _, H, rfl,
    I1.kept (t' := tk) fun b o e => Heap.get?_push_of_some _ e, turn_range _ lo (hi - lo).toNat, ?_, fun b hb => ?_, q⟩
  · have e1 : lo + ((0 : Nat) : Int) * 1 = lo := by simp
    have e2 : (((hi - lo).toNat : Nat) : Int) - ((0 : Nat) : Int) = Builtin.Range.rangeSize lo hi 1 := by rw [rangeSize_one]; split <;> omega
    show IsRangeIter _ _ (lo + ((0 : Nat) : Int) * 1) ((((hi - lo).toNat : Nat) : Int) - ((0 : Nat) : Int)) 1
    rw [e1, e2]
    exact Heap.get?_push_size _ rfl
  · have e : b = (s.heap.push { cls := .type "range", data := .fields #[.int lo t, .int hi u, .int 1 v] }).objs.size := by simpa using hb
    subst e
    exact I1.fpOk (Nat.le_refl _) (I1.hok.fresh (Nat.le_refl _))
def iRng1 (ta : TA) : TI := fun σ H R => ta σ H fun vs H1 => ∃ j : Int, vs = [.int j] ∧ -(2 ^ 62) ≤ j ∧ j < 2 ^ 62 ∧ R (Itr 0 j.toNat) H1
theorem pi_range1 {a : Expr} {ta : TA} {p pos : Pos} (hg : Gl X "range") (hm : X.mg "range" = none) (ha : PA X [a] ta) (hs : starEach [a] X.env = [(false, eval a X.env)] := by rfl) : PI X tg (.Call (.Name "range" p) [a] [] pos) (iRng1 ta) := by
  intro pins s σ H R I h
  refine Call_ (ld_blt I hg hm boot_range (PyProof.Rows.callWith_type1 (thn (ha pos pins s σ H _ I h) fun us s1 ⟨vs, H1, I1, r1, q1⟩ => ?_) hs rfl))
  obtain ⟨j, e, q1, q2, q⟩ := q1
  subst e
  cases r1 with
  | cons r rr =>
    cases rr
    obtain ⟨t, rfl⟩ := r
    exact call_range_1 (range_it I1 (by omega) (by omega) q1 q2 (by simpa using q))
def tFor (wi : TI) (g : TG) (tb : TS) : TS := fun D σ H => wi σ H fun J H1 => ∃ W : Nat → Nat → St → Hp → Prop, (∃ m, W 0 m σ H1) ∧ ∀ i m σ H, W i m σ H →
  (J.stop i H ∧ D.nx σ H) ∨ (J.go i H ∧ ∃ N : St → Hp → Prop, (∀ σ' H', N σ' H' → ∃ m', m' < m ∧ W (i + 1) m' σ' H') ∧ ∀ x H', J.yld i H x H' → g x σ H' fun σ2 H2 => tb { D with nx := N, ct := N, bk := D.nx } σ2 H2)
def pinsAt (fp : List Addr) (h : Heap) : List (Addr × Obj) := fp.filterMap fun b => (h.get? b).map fun o => (b, o)
theorem mem_pinsAt {fp : List Addr} {h : Heap} {b : Addr} {o : Obj} (hb : b ∈ fp) (e : h.get? b = some o) : (b, o) ∈ pinsAt fp h := List.mem_filterMap.mpr ⟨b, hb, by rw [e]; rfl⟩
theorem of_pinsAt {fp : List Addr} {h : Heap} {p : Addr × Obj} (hp : p ∈ pinsAt fp h) : p.1 ∈ fp ∧ h.get? p.1 = some p.2 := by
  obtain ⟨b, hb, e⟩ := List.mem_filterMap.mp hp
  cases q : h.get? b with
  | none => rw [q] at e; cases e
  | some o =>
    rw [q] at e
    have e' : (b, o) = p := Option.some.inj e
    subst e'
    exact ⟨hb, q⟩
theorem Inv.pinned {pins : List (Addr × Obj)} {σ : St} {H : Hp} {s : Shared} {fp : List Addr} (I : Inv X pins σ H s) (hf : ∀ b ∈ fp, FpOk X pins H b) (ho : ∀ b ∈ fp, ∃ o, s.heap.get? b = some o ∧ ∀ v, o.data ≠ .cell v) : Inv X (pins ++ pinsAt fp s.heap) σ H s :=
  I.pins_of fun p hp => (List.mem_append.mp hp).elim (fun z => I.pin p (List.mem_append_right _ z)) fun z => by
    obtain ⟨hb, e⟩ := of_pinsAt z
    obtain ⟨f0, f1, f2, _⟩ := hf p.1 hb
    obtain ⟨o, e', d⟩ := ho p.1 hb
    rw [e] at e'; cases e'
    exact ⟨e, f0, f1, f2, d⟩
theorem Inv.unpinned {pins pl : List (Addr × Obj)} {σ : St} {H : Hp} {s : Shared} (I : Inv X (pins ++ pl) σ H s) : Inv X pins σ H s := I.pins_of fun p hp => I.pin p (List.mem_append_right _ (List.mem_append_left _ hp))
theorem ps_for {iter : Expr} {body : List Stmt} {wi : TI} {g : TG} {tb : TS} {pos : Pos} (hp : PassesOwn (model X.prog X.w) X.A X.env X.xe) (hc : X.calm = true) (hi : PI X tg iter wi) (hg : PG X tg g) (hb : PSs X body tb)
    (hs : ∀ x, foldedSetIterable iter X.env x = pure x := by intro _; rfl) : PS X (.For tg iter body [] pos) (tFor wi g tb) := by
  intro pins s σ H D I h
  refine wpAny_For (thn (hi pins s σ H _ I h) fun v s1 h1 => thn h1 fun itv s2 h2 => ?_) hs
  obtain ⟨it, fp, tn, J, H2, e, I2, T, st2, f2, W, ⟨m0, w0⟩, turn⟩ := h2
  subst e
  have stat : ∀ {H' : Hp}, (∀ b ∈ fp, H' b = none) → ∀ b ∈ fp, FpOk X pins H' b := fun hn b hb => ⟨hn b hb, (f2 b hb).2⟩
  refine codeAny_forLoop_any (fun n s' => ∃ i σ' H', Inv X pins σ' H' s' ∧ tn i s'.heap ∧ (∀ b ∈ fp, H' b = none) ∧ W i n σ' H') ?_ m0 ⟨0, σ, H2, I2, st2, fun b hb => (f2 b hb).1, w0⟩
  rintro n s3 ⟨i, σ3, H3, I3, st3, fr3, w3⟩
  rcases turn i n σ3 H3 w3 with ⟨stop, qn⟩ | ⟨go, N, hN, step⟩
  · refine wpAny_passesOwn hp (thn (T.done X rfl rfl rfl hc i pins s3 σ3 H3 X.xe I3 (stat fr3) st3 stop) fun r s4 ⟨hr, I4⟩ => ?_)
    subst hr
    exact wpAny_execs_nil ⟨σ3, H3, I4, qn⟩
  · refine wpAny_passesOwn hp (thn (T.item X rfl rfl rfl hc i pins s3 σ3 H3 X.xe I3 (stat fr3) st3 go) fun r s4 ⟨u, hr, h4⟩ => ?_)
    subst hr
    refine wpAny_passesOwn hp (thn h4 fun _ s5 ⟨x, H5, I5, r5, y5, st5, fr5⟩ => ?_)
    have I5' := I5.pinned (stat fr5) (T.obj _ _ st5)
    refine wpAny_passesOwn hp (thn (hg _ s5 σ3 H5 x u _ I5' r5 (step x H5 y5)) fun _ s6 ⟨σ6, H6, I6, q6⟩ => ?_)
    refine wpAny_passesOwn hp (thn (hb _ s6 σ6 H6 _ I6 q6) fun f s7 q7 => ?_)
    have again : ∀ {σ7 : St} {H7 : Hp}, Inv X (pins ++ pinsAt fp s5.heap) σ7 H7 s7 → N σ7 H7 → ∃ m, m < n ∧ ∃ i σ' H', Inv X pins σ' H' s7 ∧ tn i s7.heap ∧ (∀ b ∈ fp, H' b = none) ∧ W i m σ' H' := fun {σ7 H7} I7 n7 => by
      obtain ⟨m', hm, w7⟩ := hN σ7 H7 n7
      refine ⟨m', hm, i + 1, σ7, H7, I7.unpinned, T.keep _ _ _ st5 fun b hb o e => (I7.pin (b, o) (List.mem_append_right _ (List.mem_append_right _ (mem_pinsAt hb e)))).1, fun b hb => ?_, w7⟩
      obtain ⟨o, e, d⟩ := T.obj _ _ st5 b hb
      exact (I7.pin (b, o) (List.mem_append_right _ (List.mem_append_right _ (mem_pinsAt hb e)))).2.1
    cases f with
    | next => obtain ⟨σ7, H7, I7, n7⟩ := q7; exact again I7 n7
    | cont => obtain ⟨σ7, H7, I7, n7⟩ := q7; exact again I7 n7
    | brk => obtain ⟨σ7, H7, I7, q7⟩ := q7; exact ⟨σ7, H7, I7.unpinned, q7⟩
    | ret v => obtain ⟨x7, σ7, H7, I7, r7, q7⟩ := q7; exact ⟨x7, σ7, H7, I7.unpinned, r7, q7⟩
end
theorem for_list {K : PySem.W.Frag} {a : Addr} {xs : List V} {g : TG} {tb : TS} {D : Ends} {σ : St} {H : Hp} (Pv : Nat → St → Hp → Prop) (h0 : Pv 0 σ H) (hl : ∀ i σ H, i ≤ xs.length → Pv i σ H → SqL K H a xs)
    (hs : ∀ i x σ H, xs[i]? = some x → Pv i σ H → g x σ H fun σ2 H2 => tb { D with nx := Pv (i + 1), ct := Pv (i + 1), bk := D.nx } σ2 H2) (hd : ∀ σ H, Pv xs.length σ H → D.nx σ H) :
    ∃ W : Nat → Nat → St → Hp → Prop, (∃ m, W 0 m σ H) ∧ ∀ i m σ H, W i m σ H →
      ((Itl K a).stop i H ∧ D.nx σ H) ∨ ((Itl K a).go i H ∧ ∃ N : St → Hp → Prop, (∀ σ' H', N σ' H' → ∃ m', m' < m ∧ W (i + 1) m' σ' H') ∧ ∀ x H', (Itl K a).yld i H x H' → g x σ H' fun σ2 H2 => tb { D with nx := N, ct := N, bk := D.nx } σ2 H2) := by
  refine ⟨fun i m σ H => m = xs.length - i ∧ i ≤ xs.length ∧ Pv i σ H, ⟨xs.length, by simp, Nat.zero_le _, h0⟩, ?_⟩
  rintro i m σ H ⟨rfl, hi, p⟩
  have q := hl i σ H hi p
  by_cases hlt : i < xs.length
  · refine .inr ⟨⟨xs, xs[i], q, by simp [hlt]⟩, Pv (i + 1), fun σ' H' p' => ⟨xs.length - (i + 1), by omega, rfl, hlt, p'⟩, fun x H' y => ?_⟩
    obtain ⟨e, y⟩ := y
    subst e
    exact hs i x σ _ (y xs q) p
  · have e : i = xs.length := by omega
    subst e
    exact .inl ⟨⟨xs, q, Nat.le_refl _⟩, hd σ H p⟩
theorem for_range {lo : Int} {n : Nat} {g : TG} {tb : TS} {D : Ends} {σ : St} {H : Hp} (Pv : Nat → St → Hp → Prop) (h0 : Pv 0 σ H)
    (hs : ∀ i σ H, i < n → Pv i σ H → g (.int (lo + i)) σ H fun σ2 H2 => tb { D with nx := Pv (i + 1), ct := Pv (i + 1), bk := D.nx } σ2 H2) (hd : ∀ σ H, Pv n σ H → D.nx σ H) :
    ∃ W : Nat → Nat → St → Hp → Prop, (∃ m, W 0 m σ H) ∧ ∀ i m σ H, W i m σ H →
      ((Itr lo n).stop i H ∧ D.nx σ H) ∨ ((Itr lo n).go i H ∧ ∃ N : St → Hp → Prop, (∀ σ' H', N σ' H' → ∃ m', m' < m ∧ W (i + 1) m' σ' H') ∧ ∀ x H', (Itr lo n).yld i H x H' → g x σ H' fun σ2 H2 => tb { D with nx := N, ct := N, bk := D.nx } σ2 H2) := by
  refine ⟨fun i m σ H => m = n - i ∧ i ≤ n ∧ Pv i σ H, ⟨n, by simp, Nat.zero_le _, h0⟩, ?_⟩
  rintro i m σ H ⟨rfl, hi, p⟩
  by_cases hlt : i < n
  · refine .inr ⟨hlt, Pv (i + 1), fun σ' H' p' => ⟨n - (i + 1), by omega, rfl, hlt, p'⟩, fun x H' y => ?_⟩
    obtain ⟨e, y⟩ := y
    subst e y
    exact hs i σ _ hlt p
  · have e : i = n := by omega
    subst e
    exact .inl ⟨Nat.le_refl _, hd σ H p⟩
end L2
namespace L2
open PySem PySem.Spec PyProof.Rows
abbrev R2 := V → V → Hp → VK → Prop
def OpR (X : Cx) (f : Value → Value → Sem Value) (r : R2) : Prop :=
  ∀ (pins : List (Addr × Obj)) (s : Shared) (σ : St) (H : Hp) (x y : V) (v u : Value) (Q : VK), Inv X pins σ H s → RelV x v → RelV y u → r x y H Q →
    wpAny (model X.prog X.w) X.A (f v u) (EP X pins σ Q) X.xe s
def CallR (X : Cx) (f : Value) (r : List V → Hp → VK → Prop) : Prop :=
  ∀ (pins : List (Addr × Obj)) (s : Shared) (σ : St) (H : Hp) (xs : List V) (us : List Value) (Q : VK), Inv X pins σ H s → Vals xs us → r xs H Q →
    wpAny (model X.prog X.w) X.A (call f us) (EP X pins σ Q) X.xe s
def TruR (X : Cx) (r : V → Hp → (Bool → Hp → Prop) → Prop) : Prop :=
  ∀ (pins : List (Addr × Obj)) (s : Shared) (σ : St) (H : Hp) (x : V) (v : Value) (Q : Bool → Hp → Prop), Inv X pins σ H s → RelV x v → r x H Q →
    wpAny (model X.prog X.w) X.A (truthy v) (TP X pins σ Q) X.xe s
def tOp (r : R2) (ta tb : TE) : TE := fun σ H Q => ta σ H fun x H1 => tb σ H1 fun y H2 => r x y H2 Q
def rI (C : Int → Int → Prop) (g : Int → Int → V) : R2 := fun x y H Q => ∃ i j, x = .int i ∧ y = .int j ∧ C i j ∧ Q (g i j) H
def rI0 (g : Int → Int → V) : R2 := fun x y H Q => ∃ i j, x = .int i ∧ y = .int j ∧ Q (g i j) H
section
variable {X : Cx} {a b c : Expr} {ta tb tc : TE} {pos : Pos}
theorem binT (ha : PE X a ta) (hb : PE X b tb) {pins : List (Addr × Obj)} {s : Shared} {σ : St} {H : Hp} {R : V → V → Hp → Prop} (I : Inv X pins σ H s)
    (h : ta σ H fun x H1 => tb σ H1 fun y H2 => R x y H2) {Q : Value → Shared → Prop} {f : Value → Value → Sem Value}
    (hf : ∀ v u s2 x y H2, Inv X pins σ H2 s2 → RelV x v → RelV y u → R x y H2 → wpAny (model X.prog X.w) X.A (f v u) Q X.xe s2) :
    wpAny (model X.prog X.w) X.A (eval a X.env) (fun v s₁ => wpAny (model X.prog X.w) X.A (eval b X.env) (fun u s₂ => wpAny (model X.prog X.w) X.A (f v u) Q X.xe s₂) X.xe s₁) X.xe s := by
  refine thn (ha pins s σ H _ I h) fun v s1 ⟨x, H1, I1, r1, q1⟩ => ?_
  refine thn (hb pins s1 σ H1 _ I1 q1) fun u s2 ⟨y, H2, I2, r2, q2⟩ => ?_
  exact hf v u s2 x y H2 I2 r1 r2 q2
theorem pe_op {op : Operator} {r : R2} (ho : OpR X (binaryOp op) r) (ha : PE X a ta) (hb : PE X b tb) : PE X (.BinOp a op b pos) (tOp r ta tb) := by
  intro pins s σ H Q I h
  exact wpAny_BinOp (binT ha hb I h fun v u s2 x y H2 I2 rx ry q => ho pins s2 σ H2 x y v u Q I2 rx ry q)
theorem opI {f : Value → Value → Sem Value} {C : Int → Int → Prop} {g : Int → Int → Int}
    (rule : ∀ (i j : Int) (t u : Tok) (s : Shared) (Q : Value → Shared → Prop) (E : Value → Shared → Prop), C i j → Q (.int (g i j) s.toks) { s with toks := s.toks + 1 } → wpAny (model X.prog X.w) X.A (f (.int i t) (.int j u)) Q E s) :
    OpR X f (rI C fun i j => .int (g i j)) := by
  intro pins s σ H x y v u Q I rx ry h
  obtain ⟨i, j, rfl, rfl, hc, q⟩ := h
  obtain ⟨t, rfl⟩ := rx
  obtain ⟨t', rfl⟩ := ry
  exact rule i j t t' s _ _ hc ⟨.int (g i j), H, I.tok _, ⟨_, rfl⟩, q⟩
theorem opI0 {f : Value → Value → Sem Value} {g : Int → Int → Int}
    (rule : ∀ (i j : Int) (t u : Tok) (s : Shared) (Q : Value → Shared → Prop) (E : Value → Shared → Prop), Q (.int (g i j) s.toks) { s with toks := s.toks + 1 } → wpAny (model X.prog X.w) X.A (f (.int i t) (.int j u)) Q E s) :
    OpR X f (rI0 fun i j => .int (g i j)) := by
  intro pins s σ H x y v u Q I rx ry h
  obtain ⟨i, j, rfl, rfl, q⟩ := h
  obtain ⟨t, rfl⟩ := rx
  obtain ⟨t', rfl⟩ := ry
  exact rule i j t t' s _ _ ⟨.int (g i j), H, I.tok _, ⟨_, rfl⟩, q⟩
theorem opB0 {f : Value → Value → Sem Value} {g : Int → Int → Bool}
    (rule : ∀ (i j : Int) (t u : Tok) (s : Shared) (Q : Value → Shared → Prop) (E : Value → Shared → Prop), Q (.bool (g i j)) s → wpAny (model X.prog X.w) X.A (f (.int i t) (.int j u)) Q E s) :
    OpR X f (rI0 fun i j => .bl (g i j)) := by
  intro pins s σ H x y v u Q I rx ry h
  obtain ⟨i, j, rfl, rfl, q⟩ := h
  obtain ⟨t, rfl⟩ := rx
  obtain ⟨t', rfl⟩ := ry
  exact rule i j t t' s _ _ ⟨.bl (g i j), H, I, rfl, q⟩
def CDiv (i j : Int) : Prop := 0 < j ∧ j < 1073741824
def CMul (i j : Int) : Prop := (-(2 ^ 64) < i ∧ i < 2 ^ 64) ∨ (-(2 ^ 64) < j ∧ j < 2 ^ 64)
theorem CMul.ok {i j : Int} (h : CMul i j) : IntMulOk i j := by
  rcases h with ⟨h1, h2⟩ | ⟨h1, h2⟩
  · exact .of_left (intBits_le_64 h1 h2)
  · exact .of_right (intBits_le_64 h1 h2)
theorem two_pow_nn (k : Nat) : (0 : Int) ≤ 2 ^ k := by
  rw [two_pow_cast]
  exact Int.natCast_nonneg _
theorem op_add : OpR X (binaryOp .Add) (rI0 fun i j => .int (i + j)) := opI0 fun _ _ _ _ _ _ _ q => add_int q
theorem op_sub : OpR X (binaryOp .Sub) (rI0 fun i j => .int (i - j)) := opI0 fun _ _ _ _ _ _ _ q => sub_int q
theorem op_mul : OpR X (binaryOp .Mult) (rI CMul fun i j => .int (i * j)) := opI fun _ _ _ _ _ _ _ hc q => mul_int q hc.ok
theorem op_fdiv : OpR X (binaryOp .FloorDiv) (rI CDiv fun i j => .int (i / j)) := opI fun i j _ _ _ _ _ hc q => by
  have h1 : (0 : Int) < j := hc.1
  have h2 : j < 1073741824 := hc.2
  exact floordiv_int (by omega) (by rw [Int.fdiv_eq_ediv_of_nonneg i (by omega)]; exact q) (.inl (PyProof.noPylong_small (by omega)))
theorem op_mod : OpR X (binaryOp .Mod) (rI (fun _ j => 0 < j) fun i j => .int (i % j)) := opI fun i j _ _ _ _ _ hc q => by
  have h1 : (0 : Int) < j := hc
  exact mod_int' (by omega) (by rw [Int.fmod_eq_emod_of_nonneg i (by omega)]; exact q)
theorem op_shr : OpR X (binaryOp .RShift) (rI (fun _ j => 0 ≤ j) fun i j => .int (i / 2 ^ j.toNat)) := opI fun i j _ _ _ _ _ hc q =>
  rshift_int hc (by rw [Int.fdiv_eq_ediv_of_nonneg i (two_pow_nn _)]; exact q)
theorem op_and : OpR X (binaryOp .BitAnd) (rI0 fun i j => .int (Builtin.bitAnd i j)) := opI0 fun _ _ _ _ _ _ _ q => and_int q
end
def scal : V → V → Bool
  | .non, .non => true | .non, .int _ => true | .int _, .non => true | .non, .bl _ => true | .bl _, .non => true | .non, .str _ => true | .str _, .non => true
  | .int _, .int _ => true | .bl _, .bl _ => true | .str _, .str _ => true | .byt _, .byt _ => true
  | .int _, .str _ => true | .str _, .int _ => true | .bl _, .str _ => true | .str _, .bl _ => true
  | _, _ => false
def rEq : R2 := fun x y H Q => scal x y = true ∧ Q (.bl (decide (x = y))) H
def rNe : R2 := fun x y H Q => scal x y = true ∧ Q (.bl (!decide (x = y))) H
theorem dec_int {i j : Int} : decide (V.int i = V.int j) = (i == j) := by
  rw [Bool.eq_iff_iff]
  simp
theorem dec_bl {i j : Bool} : decide (V.bl i = V.bl j) = (i == j) := by
  rw [Bool.eq_iff_iff]
  simp
theorem dec_str {i j : Str} : decide (V.str i = V.str j) = (i == j) := by
  rw [Bool.eq_iff_iff]
  simp
theorem dec_byt {i j : Array UInt8} : decide (V.byt i = V.byt j) = (i.toList == j.toList) := by
  rw [Bool.eq_iff_iff]
  cases i
  cases j
  simp
section
variable {X : Cx} {a b c : Expr} {ta tb tc : TE} {pos : Pos}
theorem fin_bl {pins : List (Addr × Obj)} {σ : St} {H : Hp} {s : Shared} {Q : VK} {k k' : Bool} (I : Inv X pins σ H s) (q : Q (.bl k) H) (e : k = k') : EP X pins σ Q (.bool k') s := by
  subst e
  exact ⟨.bl k, H, I, rfl, q⟩
theorem op_eq : OpR X (compareOp .Eq) rEq := by
  intro pins s σ H x y v u Q I rx ry h
  obtain ⟨hs, q⟩ := h
  cases x with
  | non =>
    cases rx
    cases y with
    | non => cases ry; exact PySem.EqNone.eq_none_none (fin_bl I q (by simp))
    | bl j => cases ry; exact PySem.EqNone.eq_none_bool (fin_bl I q (by simp))
    | int j => obtain ⟨t', rfl⟩ := ry; exact PySem.EqNone.eq_none_int (fin_bl I q (by simp))
    | str j => obtain ⟨t', rfl⟩ := ry; exact PySem.EqNone.eq_none_str (fin_bl I q (by simp))
    | _ => exact absurd (show false = true from hs) Bool.false_ne_true
  | bl i =>
    cases rx
    cases y with
    | non => cases ry; exact PySem.EqNone.eq_bool_none (fin_bl I q (by simp))
    | bl j => cases ry; exact eq_bool (fin_bl I q dec_bl)
    | str j => obtain ⟨t', rfl⟩ := ry; exact PySem.EqMixed.eq_bool_str (fin_bl I q (by simp))
    | _ => exact absurd (show false = true from hs) Bool.false_ne_true
  | int i =>
    obtain ⟨t, rfl⟩ := rx
    cases y with
    | non => cases ry; exact PySem.EqNone.eq_int_none (fin_bl I q (by simp))
    | int j => obtain ⟨t', rfl⟩ := ry; exact eq_int (fin_bl I q dec_int)
    | str j => obtain ⟨t', rfl⟩ := ry; exact PySem.EqMixed.eq_int_str (fin_bl I q (by simp))
    | _ => exact absurd (show false = true from hs) Bool.false_ne_true
  | str i =>
    obtain ⟨t, rfl⟩ := rx
    cases y with
    | non => cases ry; exact PySem.EqNone.eq_str_none (fin_bl I q (by simp))
    | bl j => cases ry; exact PySem.EqMixed.eq_str_bool (fin_bl I q (by simp))
    | int j => obtain ⟨t', rfl⟩ := ry; exact PySem.EqMixed.eq_str_int (fin_bl I q (by simp))
    | str j => obtain ⟨t', rfl⟩ := ry; exact eq_str (fin_bl I q dec_str)
    | _ => exact absurd (show false = true from hs) Bool.false_ne_true
  | byt i =>
    obtain ⟨t, rfl⟩ := rx
    cases y with
    | byt j => obtain ⟨t', rfl⟩ := ry; exact PySem.W.eq_bytes (fin_bl I q dec_byt)
    | _ => exact absurd (show false = true from hs) Bool.false_ne_true
  | _ => cases y <;> exact absurd (show false = true from hs) Bool.false_ne_true
theorem op_ne : OpR X (compareOp .NotEq) rNe := by
  intro pins s σ H x y v u Q I rx ry h
  obtain ⟨hs, q⟩ := h
  cases x with
  | non =>
    cases rx
    cases y with
    | non => cases ry; exact PySem.EqNone.ne_none_none (fin_bl I q (by simp))
    | bl j => cases ry; exact PySem.EqNone.ne_none_bool (fin_bl I q (by simp))
    | int j => obtain ⟨t', rfl⟩ := ry; exact PySem.EqNone.ne_none_int (fin_bl I q (by simp))
    | str j => obtain ⟨t', rfl⟩ := ry; exact PySem.EqNone.ne_none_str (fin_bl I q (by simp))
    | _ => exact absurd (show false = true from hs) Bool.false_ne_true
  | bl i =>
    cases rx
    cases y with
    | non => cases ry; exact PySem.EqNone.ne_bool_none (fin_bl I q (by simp))
    | bl j => cases ry; exact ne_bool (fin_bl I q (congrArg not dec_bl))
    | str j => obtain ⟨t', rfl⟩ := ry; exact PySem.EqMixed.ne_bool_str (fin_bl I q (by simp))
    | _ => exact absurd (show false = true from hs) Bool.false_ne_true
  | int i =>
    obtain ⟨t, rfl⟩ := rx
    cases y with
    | non => cases ry; exact PySem.EqNone.ne_int_none (fin_bl I q (by simp))
    | int j => obtain ⟨t', rfl⟩ := ry; exact ne_int (fin_bl I q (congrArg not dec_int))
    | str j => obtain ⟨t', rfl⟩ := ry; exact PySem.EqMixed.ne_int_str (fin_bl I q (by simp))
    | _ => exact absurd (show false = true from hs) Bool.false_ne_true
  | str i =>
    obtain ⟨t, rfl⟩ := rx
    cases y with
    | non => cases ry; exact PySem.EqNone.ne_str_none (fin_bl I q (by simp))
    | bl j => cases ry; exact PySem.EqMixed.ne_str_bool (fin_bl I q (by simp))
    | int j => obtain ⟨t', rfl⟩ := ry; exact PySem.EqMixed.ne_str_int (fin_bl I q (by simp))
    | str j => obtain ⟨t', rfl⟩ := ry; exact ne_str (fin_bl I q (congrArg not dec_str))
    | _ => exact absurd (show false = true from hs) Bool.false_ne_true
  | byt i =>
    obtain ⟨t, rfl⟩ := rx
    cases y with
    | byt j => obtain ⟨t', rfl⟩ := ry; exact PySem.W.ne_bytes (fin_bl I q (congrArg not dec_byt))
    | _ => exact absurd (show false = true from hs) Bool.false_ne_true
  | _ => cases y <;> exact absurd (show false = true from hs) Bool.false_ne_true
theorem op_lt : OpR X (compareOp .Lt) (rI0 fun i j => .bl (decide (i < j))) := opB0 fun _ _ _ _ _ _ _ q => lt_int q
theorem op_gt : OpR X (compareOp .Gt) (rI0 fun i j => .bl (decide (j < i))) := opB0 fun _ _ _ _ _ _ _ q => gt_int q
theorem op_isN : OpR X (compareOp .Is) (fun x y H Q => y = .non ∧ Q (.bl (decide (x = .non))) H) := by
  intro pins s σ H x y v u Q I rx ry h
  obtain ⟨rfl, q⟩ := h
  cases ry
  refine is_none_gen (fin_bl I q ?_)
  cases x <;> first
    | (cases rx; rfl)
    | (obtain ⟨t, rfl⟩ := rx; rfl)
theorem nomark (b : Expr) {op : CmpOp} (h : op ≠ .In := by decide) (h2 : op ≠ .NotIn := by decide) : behindInMarks op b = false := by
  have e1 : (op == CmpOp.In) = false := by cases op <;> first | rfl | exact absurd rfl h
  have e2 : (op == CmpOp.NotIn) = false := by cases op <;> first | rfl | exact absurd rfl h2
  cases b <;> simp [behindInMarks, e1, e2]
theorem pe_cmpR {op : CmpOp} {r : R2} (ho : OpR X (compareOp op) r) (ha : PE X a ta) (hb : PE X b tb) (hm : behindInMarks op b = false) : PE X (.Compare a [op] [b] pos) (tOp r ta tb) := by
  intro pins s σ H Q I h
  exact wpAny_Compare1 (binT ha hb I h fun v u s2 x y H2 I2 rx ry q => ho pins s2 σ H2 x y v u Q I2 rx ry q) hm
def tTest (t : TE) : TT := fun σ H Q => t σ H fun x H' => ∃ k, x = .bl k ∧ Q k H'
theorem pt_cmpR {op : CmpOp} {r : R2} (ho : OpR X (compareOp op) r) (ha : PE X a ta) (hb : PE X b tb) (hm : behindInMarks op b = false) : PT X (.Compare a [op] [b] pos) (tTest (tOp r ta tb)) := by
  intro pins s σ H Q I h
  refine wpAny_isTrue_Compare1 (thn (ha pins s σ H _ I h) fun v s1 ⟨x, H1, I1, r1, q1⟩ => thn (hb pins s1 σ H1 _ I1 q1) fun u s2 ⟨y, H2, I2, r2, q2⟩ =>
    thn (ho pins s2 σ H2 x y v u _ I2 r1 r2 q2) fun c s3 ⟨z, H3, I3, r3, k, e, q3⟩ => ?_) hm
  subst e
  cases r3
  exact wpAny_truthy_bool ⟨H3, I3, q3⟩
def TruV (K : PySem.W.Frag) (x : V) (H : Hp) (k : Bool) : Prop :=
  match x with
  | .non => k = false
  | .bl b => k = b
  | .int i => k = (i != 0)
  | .str y => y.length ≤ sizeLine ∧ k = ((y.length : Int) != 0)
  | .byt y => y.size ≤ sizeLine ∧ k = ((y.size : Int) != 0)
  | .ref p => (∃ xs, SqL K H p xs ∧ k = !xs.isEmpty) ∨ (∃ xs, SqT K H p xs ∧ k = !xs.isEmpty) ∨ ∃ kvs, H p = some (.dK kvs) ∧ k = !kvs.isEmpty
  | _ => False
theorem isEmpty_kv {κ : Type} {kvs : List (κ × V)} {vs : List (κ × Value)} (r : KV kvs vs) : (!vs.isEmpty) = !kvs.isEmpty := by
  cases r <;> rfl
theorem isEmpty_of {xs : List V} {its : List Value} (r : Vals xs its) : (!its.toArray.isEmpty) = !xs.isEmpty := by
  cases r <;> simp
theorem line63 : (sizeLine : Nat) < 2 ^ 63 := by rw [sizeLine_eq]; decide
theorem tru_ok : TruR X (fun x H Q => ∃ k, TruV X.K x H k ∧ Q k H) := by
  intro pins s σ H x v Q I rx h
  obtain ⟨k, e, q⟩ := h
  have hl := line63
  have hs : sizeLine = 16777216 := sizeLine_eq
  cases x with
  | non =>
    cases rx
    have e' : k = false := e
    subst e'
    exact truthy_none ⟨H, I, q⟩
  | bl b =>
    cases rx
    have e' : k = b := e
    subst e'
    exact wpAny_truthy_bool ⟨H, I, q⟩
  | int i =>
    obtain ⟨t, rfl⟩ := rx
    have e' : k = (i != 0) := e
    subst e'
    exact PySem.P.truthy_int ⟨H, I, q⟩
  | str y =>
    obtain ⟨t, rfl⟩ := rx
    obtain ⟨hy, e'⟩ : y.length ≤ sizeLine ∧ k = ((y.length : Int) != 0) := e
    subst e'
    exact PySem.P.truthy_str (by omega) ⟨H, I.tok _, q⟩
  | byt y =>
    obtain ⟨t, rfl⟩ := rx
    obtain ⟨hy, e'⟩ : y.size ≤ sizeLine ∧ k = ((y.size : Int) != 0) := e
    subst e'
    exact PySem.W.truthy_bytes (by omega) ⟨H, I.tok _, q⟩
  | ref p =>
    cases rx
    have e' : (∃ xs, SqL X.K H p xs ∧ k = !xs.isEmpty) ∨ (∃ xs, SqT X.K H p xs ∧ k = !xs.isEmpty) ∨ ∃ kvs, H p = some (.dK kvs) ∧ k = !kvs.isEmpty := e
    rcases e' with ⟨xs, hx, e'⟩ | ⟨xs, hx, e'⟩ | ⟨kvs, hx, e'⟩
    · subst e'
      obtain ⟨its, r, pl, hz⟩ := I.list hx
      have hlen := r.length
      exact wpAny_truthy_list pl.isList (by simp only [List.size_toArray]; omega) ⟨H, I.tok _, by rw [isEmpty_of r]; exact q⟩
    · subst e'
      obtain ⟨its, r, pl, hz⟩ := I.tuple hx
      have hlen := r.length
      exact truthy_tuple pl (by simp only [List.size_toArray]; omega) ⟨H, I.tok _, by rw [isEmpty_of r]; exact q⟩
    · subst e'
      obtain ⟨hz, hS, vs, r, m⟩ : kvs.length ≤ sizeLine ∧ (p == sysModules) = false ∧ ∃ vs, KV kvs vs ∧ s.heap.DictOf (mixKind X.prog X.w) p vs := I.hok p _ hx
      have hlen : kvs.length = vs.length := Paired.length r
      exact wpAny_truthy_dict hS m (by omega) ⟨H, I.tok _, by rw [isEmpty_kv r]; exact q⟩
  | _ => exact (show False from e).elim
theorem pt_truth (ha : PE X a ta) (he : ∀ whole, isTrue a X.env whole = (do let v ← whole; standAt a.pos; holding [v] (truthy v))) :
    PT X a (fun σ H Q => ta σ H fun x H' => ∃ k, TruV X.K x H' k ∧ Q k H') := by
  intro pins s σ H Q I h
  exact isTrue_plain (thn (ha pins s σ H _ I h) fun v s1 ⟨x, H1, I1, r1, q1⟩ => tru_ok pins s1 σ H1 x v Q I1 r1 q1) (he _)
theorem op_add_str : OpR X (binaryOp .Add) (fun x y H Q => ∃ i j, x = .str i ∧ y = .str j ∧ i.length + j.length ≤ sizeLine ∧ Q (.str (i ++ j)) H) := by
  intro pins s σ H x y v u Q I rx ry h
  obtain ⟨i, j, rfl, rfl, hz, q⟩ := h
  obtain ⟨t, rfl⟩ := rx
  obtain ⟨t', rfl⟩ := ry
  exact add_str (fun t' tk => ⟨.str (i ++ j), H, I.tok _, ⟨_, rfl⟩, q⟩) hz
theorem vals1 {x : V} {us : List Value} (r : Vals [x] us) : ∃ u, us = [u] ∧ RelV x u := by
  cases r with
  | cons r1 r2 => cases r2; exact ⟨_, rfl, r1⟩
theorem vals2 {x y : V} {us : List Value} (r : Vals [x, y] us) : ∃ u w', us = [u, w'] ∧ RelV x u ∧ RelV y w' := by
  cases r with
  | cons r1 r2 =>
    cases r2 with
    | cons r3 r4 => cases r4; exact ⟨_, _, rfl, r1, r3⟩
theorem call_max2 (hc : X.calm = true) : CallR X (.builtin "max") (fun xs H Q => ∃ i j, xs = [.int i, .int j] ∧ Q (.int (if j > i then j else i)) H) := by
  intro pins s σ H xs us Q I r h
  obtain ⟨i, j, rfl, q⟩ := h
  obtain ⟨u, w', rfl, ⟨t, rfl⟩, ⟨t', rfl⟩⟩ := vals2 r
  refine max_two_ints (I.ok.hd hc) fun h' tk k => ⟨_, H, I.kept k, ?_, q⟩
  by_cases hj : j > i
  · rw [if_pos hj, if_pos hj]; exact ⟨_, rfl⟩
  · rw [if_neg hj, if_neg hj]; exact ⟨_, rfl⟩
theorem call_min2 (hc : X.calm = true) : CallR X (.builtin "min") (fun xs H Q => ∃ i j, xs = [.int i, .int j] ∧ Q (.int (if j < i then j else i)) H) := by
  intro pins s σ H xs us Q I r h
  obtain ⟨i, j, rfl, q⟩ := h
  obtain ⟨u, w', rfl, ⟨t, rfl⟩, ⟨t', rfl⟩⟩ := vals2 r
  refine min_two_ints (I.ok.hd hc) fun h' tk k => ⟨_, H, I.kept k, ?_, q⟩
  by_cases hj : j < i
  · rw [if_pos hj, if_pos hj]; exact ⟨_, rfl⟩
  · rw [if_neg hj, if_neg hj]; exact ⟨_, rfl⟩
def LenV (K : PySem.W.Frag) (x : V) (H : Hp) (n : Nat) : Prop :=
  match x with
  | .str y => y.length ≤ sizeLine ∧ n = y.length
  | .byt y => y.size ≤ sizeLine ∧ n = y.size
  | .ref p => (∃ xs, SqL K H p xs ∧ n = xs.length) ∨ ∃ xs, SqT K H p xs ∧ n = xs.length
  | _ => False
theorem call_len : CallR X (.builtin "len") (fun xs H Q => ∃ x n, xs = [x] ∧ LenV X.K x H n ∧ Q (.int n) H) := by
  intro pins s σ H xs us Q I r h
  obtain ⟨x, n, rfl, e, q⟩ := h
  obtain ⟨u, rfl, rx⟩ := vals1 r
  have hl := line63
  have hs : sizeLine = 16777216 := sizeLine_eq
  cases x with
  | str y =>
    obtain ⟨t, rfl⟩ := rx
    obtain ⟨hy, e'⟩ : y.length ≤ sizeLine ∧ n = y.length := e
    subst e'
    exact len_str (by omega) ⟨.int _, H, I.tok _, ⟨_, rfl⟩, q⟩
  | byt y =>
    obtain ⟨t, rfl⟩ := rx
    obtain ⟨hy, e'⟩ : y.size ≤ sizeLine ∧ n = y.size := e
    subst e'
    exact PySem.W.len_bytes (by omega) ⟨.int _, H, I.tok _, ⟨_, rfl⟩, q⟩
  | ref p =>
    cases rx
    have e' : (∃ xs, SqL X.K H p xs ∧ n = xs.length) ∨ ∃ xs, SqT X.K H p xs ∧ n = xs.length := e
    rcases e' with ⟨xs, hx, e'⟩ | ⟨xs, hx, e'⟩
    · subst e'
      obtain ⟨its, r', pl, hz⟩ := I.list hx
      have hlen := r'.length
      exact Calls.call_len_list pl.isList (by simp only [List.size_toArray]; omega) ⟨.int xs.length, H, I.tok _, ⟨_, by simp only [List.size_toArray]; rw [hlen]⟩, q⟩
    · subst e'
      obtain ⟨its, r', pl, hz⟩ := I.tuple hx
      have hlen := r'.length
      exact len_tuple pl (by simp only [List.size_toArray]; omega) ⟨.int xs.length, H, I.tok _, ⟨_, by simp only [List.size_toArray]; rw [hlen]⟩, q⟩
  | _ => exact (show False from e).elim
end
end L2
namespace L2
open PySem PySem.Spec PyProof.Rows
structure ObjM (h : Heap) (x dx C : Addr) (mA : Str → Option Value) : Prop where
  obj : h.get? x = some (PySem.W.instObj C dx)
  ns : h.Ns1 dx mA
  ne : dx ≠ x
theorem lookIn_ns {h : Heap} {dx : Addr} {mA : Str → Option Value} (n : h.Ns1 dx mA) : ∃ od, h.get? dx = some od ∧ ∀ name, PySem.W.lookIn name od = some (mA name) := by
  obtain ⟨o, es, ep, ho, hd, hk, _, hm⟩ := n
  refine ⟨o, ho, fun name => ?_⟩
  have e := hm name
  unfold nsFind findBy at e
  rw [← Array.find?_toList] at e
  unfold PySem.W.lookIn
  rw [hd]
  dsimp only
  split
  · rename_i y q
    rw [q] at e
    exact congrArg some e
  · rename_i q
    rw [q] at e
    have a : es.toList.any (·.refKey) = false := by
      rw [List.any_eq_false]
      intro y hy
      obtain ⟨z, t, hkey⟩ := hk y (Array.mem_toList_iff.mp hy)
      simp [DictEntry.refKey, hkey]
    have a' : ¬ es.toList.any (·.refKey) = true := by rw [a]; exact Bool.false_ne_true
    rw [if_neg a']
    exact congrArg some e
theorem ObjM.look {h : Heap} {x dx C : Addr} {mA : Str → Option Value} (I : ObjM h x dx C mA) : ∃ od, PySem.W.InstAt h x (PySem.W.instObj C dx) C (some od) ∧ ∀ name, PySem.W.lookIn name od = some (mA name) :=
  let ⟨od, ho, hl⟩ := lookIn_ns I.ns
  ⟨od, ⟨I.obj, rfl, rfl, ho⟩, hl⟩
section
variable {prog : Program} {w : World} {A : Around} {E : Value → Shared → Prop} {s : Shared} {K : PySem.W.Frag} {x dx C f : Addr} {mA : Str → Option Value} {name : Str} {v : Value}
theorem get_map {expr : Bool} {Q : Value → Shared → Prop} (X : K.In s.heap) (I : ObjM s.heap x dx C mA) (hg : PySem.W.plainGet K C name = true) (hh : PySem.W.hasDictIn K C = true)
    (ha : PySem.W.findIn K (.ref C) name = some none) (hv : mA name = some v) (hv' : PySem.W.handedIn v = true) (h : Q v { s with toks := s.toks + 1 }) :
    wpAny (model prog w) A (getAttr (.ref x) name expr) Q E s := by
  obtain ⟨od, J, hl⟩ := I.look
  exact PySem.W.get_value X J (PySem.W.plainGet_of hg).1 (PySem.W.findObj_own hh ha rfl (by rw [hl, hv])) hv' h
theorem get_meth {pl : Sem Bool} {Q : Value × List Value → Shared → Prop} (X : K.In s.heap) (I : ObjM s.heap x dx C mA) (hg : PySem.W.plainGet K C name = true)
    (hf : PySem.W.findIn K (.ref C) name = some (some (.ref f))) (ht : PySem.W.isFn K (.ref f) = true) (hv : mA name = none) (h : Q (.ref f, [.ref x]) s) :
    wpAny (model prog w) A (getMethod (.ref x) name pl) Q E s := by
  obtain ⟨od, J, hl⟩ := I.look
  exact PySem.W.method_fn X J (PySem.W.plainGet_of hg).1 (PySem.W.plainGet_of hg).2 hf (beq_iff_eq.mp ht) (by show (PySem.W.lookIn name od).map (·.isSome) = some false; rw [hl, hv]; rfl) h
theorem set_map {ns : List Str} {Q : Unit → Shared → Prop} (X : K.In s.heap) (I : ObjM s.heap x dx C mA)
    (hs : PySem.W.findIn K (.ref C) "__setattr__" = some (some (.builtin "object.__setattr__"))) (hp : PySem.W.plainOver K C = true) (ht : PySem.W.takerIn K C name = some none) (hh : PySem.W.hasDictIn K C = true)
    (hw : PySem.Within mA ns) (hsz : ns.length ≤ sizeLine)
    (h : ∀ h', ObjM h' x dx C (fun y => if y = name then some v else mA y) → Heap.SameBut dx s.heap h' → Q () { s with heap := h', toks := s.toks + 2 }) :
    wpAny (model prog w) A (setAttr (.ref x) name v) Q E s := by
  obtain ⟨od, J, hl⟩ := I.look
  refine PySem.W.set_plain X J hs (PySem.W.osa_open (s := { s with toks := s.toks + 1 }) (r := none) X J hp ht fun b => ?_)
  obtain ⟨cd, hc, hd'⟩ := PySem.W.any_some hh
  have hx : s.heap.get? x = some ⟨.ref C, some dx, .plain, #[]⟩ := I.obj
  refine wpAny_bind (wpAny_pure (wpAny_bind (wpAny_bind (wpAny_loadPart hx (wpAny_bind (PySem.W.Looks.here (s := { s with toks := s.toks + 1 }) (PySem.W.looks_clsIn X hc) ?_))))))
  rw [hd']
  refine wpAny_pure (a := some dx) (wpAny_bind (wpAny_pure (wpAny_bind ?_)))
  refine wpAny_nsSet1 (s := { s with toks := s.toks + 1 }) I.ns fun h' hn2 hs2 => ?_
  obtain ⟨oD, esD, epD, hoD, hdD, hcD⟩ := hn2.count (PySem.Within.cons name v hw)
  refine wpAny_bind (wpAny_lookBehind hoD (by rw [hdD]; exact pastItsLine_dict (Nat.le_trans hcD (by rw [List.length_cons]; omega))) ?_)
  exact wpAny_pure (h _ ⟨(hs2.2 _ (Ne.symm I.ne)).trans I.obj, hn2, I.ne⟩ hs2)
theorem make_map {R : Result → Shared → Prop} {vs : List Value} {kw : List (Str × Value)} (X : K.In s.heap) (hm : PySem.W.makesIn K C = true)
    (hi : PySem.W.findIn K (.ref C) "__init__" = some (some (.ref f))) (hf : PySem.W.typeIn K (.ref f) = some (.type "function"))
    (h : codeAny (model prog w) (A.under (.builtin "type.__call__" ⟨.ref C :: vs, kw⟩)) (.call (.ref f) ⟨.ref (s.heap.objs.size + 1) :: vs, kw⟩) (PySem.W.InitBack (s.heap.objs.size + 1) R)
      { s with heap := (s.heap.push PySem.W.emptyDict).push (PySem.W.instObj C s.heap.objs.size) }) :
    codeAny (model prog w) A (.call (.ref C) ⟨vs, kw⟩) R s := by
  obtain ⟨hh, g, d, t, os⟩ := s
  exact PySem.W.make_core (PySem.W.makes_of X hm) (PySem.W.looks_findIn X hi) (fun self => PySem.W.bind_fn X self hf) (.inl rfl) h
end
def putF (f : Str) (v : V) : List (Str × V) → List (Str × V)
  | [] => [(f, v)]
  | (g, x) :: r => if g = f then (g, v) :: r else (g, x) :: putF f v r
theorem lookup_putF (f g : Str) (v : V) : ∀ fs : List (Str × V), (putF f v fs).lookup g = if g = f then some v else fs.lookup g
  | [] => by
    show List.lookup g [(f, v)] = _
    by_cases h : g = f
    · have hb : (g == f) = true := beq_iff_eq.mpr h
      simp only [List.lookup, hb, if_pos h]
    · have hb : (g == f) = false := beq_eq_false_iff_ne.mpr h
      simp only [List.lookup, hb, if_neg h]
  | (k, x) :: r => by
    have ih := lookup_putF f g v r
    rw [show putF f v ((k, x) :: r) = (if k = f then (k, v) :: r else (k, x) :: putF f v r) from rfl]
    by_cases hk : k = f
    · rw [if_pos hk]
      by_cases h : g = k
      · have hb : (g == k) = true := beq_iff_eq.mpr h
        simp only [List.lookup, hb, if_pos (h.trans hk)]
      · have hb : (g == k) = false := beq_eq_false_iff_ne.mpr h
        simp only [List.lookup, hb, if_neg (fun e : g = f => h (e.trans hk.symm))]
    · rw [if_neg hk]
      by_cases h : g = k
      · have hb : (g == k) = true := beq_iff_eq.mpr h
        simp only [List.lookup, hb, if_neg (fun e : g = f => hk (h.symm.trans e))]
      · have hb : (g == k) = false := beq_eq_false_iff_ne.mpr h
        simp only [List.lookup, hb]
        exact ih
theorem keys_putF (f : Str) (v : V) : ∀ fs : List (Str × V), f ∈ (putF f v fs).map (·.1) ∧ ∀ g, g ∈ fs.map (·.1) → g ∈ (putF f v fs).map (·.1)
  | [] => ⟨by simp [putF], fun g h => by simp at h⟩
  | (k, x) :: r => by
    obtain ⟨i1, i2⟩ := keys_putF f v r
    rw [show putF f v ((k, x) :: r) = (if k = f then (k, v) :: r else (k, x) :: putF f v r) from rfl]
    by_cases hk : k = f
    · rw [if_pos hk]
      subst hk
      exact ⟨by simp, fun g h => by simpa using h⟩
    · rw [if_neg hk]
      refine ⟨?_, fun g h => ?_⟩
      · rw [List.map_cons]
        exact List.mem_cons_of_mem _ i1
      · rw [List.map_cons] at h ⊢
        rcases List.mem_cons.mp h with e | e
        · exact List.mem_cons.mpr (.inl e)
        · exact List.mem_cons_of_mem _ (i2 g e)
theorem length_putF (f : Str) (v : V) : ∀ fs : List (Str × V), (putF f v fs).length ≤ fs.length + 1
  | [] => by simp [putF]
  | (k, x) :: r => by
    have ih := length_putF f v r
    rw [show putF f v ((k, x) :: r) = (if k = f then (k, v) :: r else (k, x) :: putF f v r) from rfl]
    by_cases hk : k = f
    · rw [if_pos hk, List.length_cons, List.length_cons]; omega
    · rw [if_neg hk, List.length_cons, List.length_cons]; omega
theorem RelO.some_of {v : V} {o : Option Value} (r : RelO (some v) o) : ∃ u, o = some u ∧ RelV v u := by
  cases o with
  | none => exact (show False from r).elim
  | some u => exact ⟨u, rfl, r⟩
theorem RelO.none_of {o : Option Value} (r : RelO none o) : o = none := by
  cases o with
  | none => rfl
  | some u => exact (show False from r).elim
theorem handed_of {v : V} {u : Value} (r : RelV v u) : PySem.W.handedIn u = true := by
  cases v with
  | non => cases (show u = Value.none from r); rfl
  | bl b => cases (show u = Value.bool b from r); rfl
  | int i => obtain ⟨t, e⟩ := (show ∃ t, u = Value.int i t from r); cases e; rfl
  | str x => obtain ⟨t, e⟩ := (show ∃ t, u = Value.str x t from r); cases e; rfl
  | byt b => obtain ⟨t, e⟩ := (show ∃ t, u = Value.bytes b t from r); cases e; rfl
  | flt b => obtain ⟨t, e⟩ := (show ∃ t, u = Value.float b t from r); cases e; rfl
  | ref a => cases (show u = Value.ref a from r); rfl
  | ty n => cases (show u = Value.type n from r); rfl
section
variable {P : Program} {w : World} {H H' : Hp} {h h' : Heap} {a C dx : Addr} {fs fs' : List (Str × V)}
theorem ins_get (hok : HOk P w H h) (e : H a = some (.ins C dx fs)) : ∃ mA, ObjM h a dx C mA ∧ (∀ f, RelO (fs.lookup f) (mA f)) ∧ PySem.Within mA (fs.map (·.1)) ∧ fs.length ≤ 1000 ∧ H dx = some (.own a) := by
  obtain ⟨d, z, ne, ob, mA, n, r, q⟩ := (show ObjOk P w H h a (.ins C dx fs) from hok a _ e)
  exact ⟨mA, ⟨ob, n, ne⟩, r, q, z, d⟩
end
structure Cls (K : PySem.W.Frag) (C : Addr) : Prop where
  pg : PySem.W.plainGet K C Str.empty = true
  hd : PySem.W.hasDictIn K C = true
  po : PySem.W.plainOver K C = true
  sa : PySem.W.findIn K (.ref C) "__setattr__" = some (some (.builtin "object.__setattr__"))
theorem Cls.get {K : PySem.W.Frag} {C : Addr} (c : Cls K C) (f : Str) : PySem.W.plainGet K C f = true := c.pg
def NoAttr (K : PySem.W.Frag) (C : Addr) (f : Str) : Prop := PySem.W.findIn K (.ref C) f = some none
theorem NoAttr.taker {K : PySem.W.Frag} {C : Addr} {f : Str} (n : NoAttr K C f) : PySem.W.takerIn K C f = some none := by
  unfold PySem.W.takerIn
  rw [show PySem.W.findIn K (.ref C) f = some none from n]
  rfl
structure Meth (K : PySem.W.Frag) (C : Addr) (m : Str) (f : Addr) : Prop where
  at_ : PySem.W.findIn K (.ref C) m = some (some (.ref f))
  fn : PySem.W.isFn K (.ref f) = true
  kp : PySem.W.keepIn K (.ref f) = true
section
variable {X : Cx} {pins : List (Addr × Obj)} {σ : St} {H : Hp} {s : Shared} {a C dx : Addr} {fs : List (Str × V)} {f : Str} {v : V} {A : Around} {E : Value → Shared → Prop}
theorem getattr_ok {b : Bool} {Q : Value → Shared → Prop} (I : Inv X pins σ H s) (e : H a = some (.ins C dx fs)) (c : Cls X.K C) (n : NoAttr X.K C f) (l : fs.lookup f = some v)
    (h : ∀ u s', Inv X pins σ H s' → RelV v u → Q u s') : wpAny (model X.prog X.w) A (getAttr (.ref a) f b) Q E s := by
  obtain ⟨mA, O, r, _, _, _⟩ := ins_get I.hok e
  obtain ⟨u, hu, ru⟩ := RelO.some_of (v := v) (o := mA f) (by rw [← l]; exact r f)
  exact get_map I.kIn O (c.get f) c.hd n hu (handed_of ru) (h u _ (I.tok _) ru)
theorem getmeth_ok {m : Str} {g : Addr} {pl : Sem Bool} {Q : Value × List Value → Shared → Prop} (I : Inv X pins σ H s) (e : H a = some (.ins C dx fs)) (c : Cls X.K C) (k : Meth X.K C m g) (l : fs.lookup m = none)
    (h : Q (.ref g, [.ref a]) s) : wpAny (model X.prog X.w) A (getMethod (.ref a) m pl) Q E s := by
  obtain ⟨mA, O, r, _, _, _⟩ := ins_get I.hok e
  have hn : mA m = none := RelO.none_of (by rw [← l]; exact r m)
  exact get_meth I.kIn O (c.get m) k.at_ k.fn hn h
theorem setattr_ok {y : V} {u : Value} {Q : Unit → Shared → Prop} (I : Inv X pins σ H s) (e : H a = some (.ins C dx fs)) (c : Cls X.K C) (n : NoAttr X.K C f) (hl : fs.length < 1000) (ry : RelV y u)
    (h : ∀ s', Inv X pins σ (upd H a (.ins C dx (putF f y fs))) s' → Q () s') : wpAny (model X.prog X.w) A (setAttr (.ref a) f u) Q E s := by
  obtain ⟨mA, O, r, wi, _, ho⟩ := ins_get I.hok e
  have hz : (fs.map (·.1)).length ≤ sizeLine := by rw [List.length_map, sizeLine_eq]; omega
  refine set_map I.kIn O c.sa c.po n.taker c.hd wi hz fun h' O' sb => h _ ?_
  have hd : ∃ o, h'.get? dx = some o := let ⟨o, _, _, e', _⟩ := O'.ns; ⟨o, e'⟩
  refine I.write (x := a) (e := dx) (by rw [e]; exact True.intro) (.inr ho) (fun b q hb z => (sb.2 b hb).trans z) hd ?_
  refine ⟨by rw [upd_ne O.ne]; exact ho, ?_, O.ne, O'.obj, _, O'.ns, fun g => ?_, fun g hg => ?_⟩
  · have := length_putF f y fs; omega
  · show RelO ((putF f y fs).lookup g) (if g = f then some u else mA g)
    rw [lookup_putF]
    by_cases q : g = f
    · rw [if_pos q, if_pos q]; exact ry
    · rw [if_neg q, if_neg q]; exact r g
  · by_cases q : g = f
    · rw [q]; exact (keys_putF f y fs).1
    · refine (keys_putF f y fs).2 g (wi g fun z => hg ?_)
      show (if g = f then some u else mA g) = none
      rw [if_neg q]; exact z
theorem Inv.made (I : Inv X pins σ H s) : Inv X pins σ (upd (upd H s.heap.objs.size (.own (s.heap.objs.size + 1))) (s.heap.objs.size + 1) (.ins C s.heap.objs.size []))
    { s with heap := (s.heap.push PySem.W.emptyDict).push (PySem.W.instObj C s.heap.objs.size) } := by
  have e1 : (s.heap.push PySem.W.emptyDict).get? s.heap.objs.size = some PySem.W.emptyDict := Heap.get?_push_size s.heap rfl
  have e2 : ((s.heap.push PySem.W.emptyDict).push (PySem.W.instObj C s.heap.objs.size)).get? (s.heap.objs.size + 1) = some (PySem.W.instObj C s.heap.objs.size) := by
    have := Heap.get?_push_size (s.heap.push PySem.W.emptyDict) (o := PySem.W.instObj C s.heap.objs.size) rfl
    rwa [Heap.size_push] at this
  have e3 : (s.heap.push PySem.W.emptyDict).Ns s.heap.objs.size (fun _ => none) := ⟨PySem.W.emptyDict, #[], _, e1, rfl, (fun e he => absurd he (by simp)), fun _ => rfl⟩
  have I1 := I.laid (a := s.heap.objs.size) (o := .own (s.heap.objs.size + 1)) (h' := s.heap.push PySem.W.emptyDict) (t' := s.toks) (fun b u q => Heap.get?_push_of_some _ q) (Nat.le_refl _) ⟨_, e1⟩
  refine I1.laid (a := s.heap.objs.size + 1) (o := .ins C s.heap.objs.size []) (t' := s.toks) (fun b u q => Heap.get?_push_of_some _ q) (Nat.le_of_eq (Heap.size_push _ _)) ?_
  have ne : s.heap.objs.size ≠ s.heap.objs.size + 1 := Nat.ne_of_lt (Nat.lt_succ_self _)
  refine ⟨by rw [upd_ne ne, upd_same], Nat.zero_le _, ne, e2, fun _ => none, (Heap.Ns1.of_empty e3).at fun o q => Heap.get?_push_of_some _ q, fun _ => True.intro, fun y hy => absurd rfl hy⟩
theorem attr_of {prog : Program} {w : World} {env : Env} {e : Expr} {f : Str} {pos : Pos} {s : Shared} {Q : Value → Shared → Prop} (hb : attributeBase e f env (eval e env) = eval e env)
    (h : wpAny (model prog w) A (eval e env) (fun o s₁ => wpAny (model prog w) A (getAttr o f true) Q E s₁) E s) : wpAny (model prog w) A (eval (.Attribute e f pos) env) Q E s :=
  Attribute_any_ h (by rw [arm_eval_Attribute, hb])
end
def tFld (K : PySem.W.Frag) (ta : TE) (f : Str) : TE := fun σ H Q => ta σ H fun x H1 => ∃ a C dx fs v, x = .ref a ∧ H1 a = some (.ins C dx fs) ∧ Cls K C ∧ NoAttr K C f ∧ fs.lookup f = some v ∧ Q v H1
def sFld (K : PySem.W.Frag) (ta tv : TE) (f : Str) : TS := fun D σ H => tv σ H fun y H1 => ta σ H1 fun x H2 => ∃ a C dx fs, x = .ref a ∧ H2 a = some (.ins C dx fs) ∧ Cls K C ∧ NoAttr K C f ∧ fs.length < 1000 ∧
  D.nx σ (upd H2 a (.ins C dx (putF f y fs)))
section
variable {X : Cx} {o e value : Expr} {f : Str} {pos pos' tpos : Pos} {ta tv : TE}
theorem pe_fld (he : PE X e ta) (hb : attributeBase e f X.env (eval e X.env) = eval e X.env) : PE X (.Attribute e f pos) (tFld X.K ta f) := by
  intro pins s σ H Q I h
  refine attr_of hb (thn (he pins s σ H _ I h) fun u s1 ⟨x, H1, I1, rx, a, C, dx, fs, v, ex, ea, c, n, l, q⟩ => ?_)
  subst ex
  obtain rfl : u = Value.ref a := rx
  exact getattr_ok I1 ea c n l fun u' s2 I2 ru => ⟨v, H1, I2, ru, q⟩
theorem ps_fld (ha : PE X o ta) (hv : PE X value tv) (hs : swapsWith value (some (.Attribute o f pos')) pos.line X.env = pure false) : PS X (.Assign [.Attribute o f pos'] value pos) (sFld X.K ta tv f) := by
  intro pins s σ H D I h
  refine plainObj_wpAny_Assign_Attribute (thn (hv pins s σ H _ I h) fun u s1 ⟨y, H1, I1, ry, q⟩ => thn (ha pins s1 σ H1 _ I1 q) fun ov s2 ⟨x, H2, I2, rx, a, C, dx, fs, ex, ea, c, n, l, q2⟩ => ?_) hs
  subst ex
  obtain rfl : ov = Value.ref a := rx
  exact setattr_ok I2 ea c n l ry fun s3 I3 => ⟨σ, _, I3, q2⟩
end
section
variable {X : Cx} {pins : List (Addr × Obj)} {σ : St} {H : Hp} {s : Shared} {A : Around} {E : Value → Shared → Prop} {Q : Value → Shared → Prop} {c : Value} {b : Bool}
inductive TyOf (K : PySem.W.Frag) (H : Hp) : V → Value → Prop where
  | non : TyOf K H .non (.type "NoneType")
  | bl (x : Bool) : TyOf K H (.bl x) (.type "bool")
  | int (i : Int) : TyOf K H (.int i) (.type "int")
  | str (x : Str) : TyOf K H (.str x) (.type "str")
  | flt (x : UInt64) : TyOf K H (.flt x) (.type "float")
  | lst {a : Addr} {xs : List V} (e : H a = some (.lst xs)) : TyOf K H (.ref a) (.type "list")
  | frz {a : Addr} {o : Obj} {xs : List V} (e : H a = some (.frz o (.lst xs))) : TyOf K H (.ref a) (.type "list")
  | tup {a : Addr} {xs : List V} (e : H a = some (.tup xs)) : TyOf K H (.ref a) (.type "tuple")
  | dK {a : Addr} {kvs : List (Key × V)} (e : H a = some (.dK kvs)) : TyOf K H (.ref a) (.type "dict")
  | dT {a : Addr} {kvs : List (List Key × V)} (e : H a = some (.dT kvs)) : TyOf K H (.ref a) (.type "dict")
  | ins {a C dx : Addr} {fs : List (Str × V)} (e : H a = some (.ins C dx fs)) (cl : Cls K C) (ha : PySem.W.findIn K (.ref C) "__class__" = some (some (.builtin "object.__class__")))
      (hn : PySem.W.specialIn K (.builtin "object.__class__") "__get__" = some (some (.builtin "getset_descriptor.__get__"))) (htk : PySem.W.takesIn K (.builtin "object.__class__") = some true)
      (hm : PySem.W.mroIn K C (.type "object") = some true) : TyOf K H (.ref a) (.ref C)
theorem isinst_ok {x : V} {u t : Value} (I : Inv X pins σ H s) (rx : RelV x u) (ty : TyOf X.K H x t) (e : PySem.W.kitOne X.K t c = some b) (h : ∀ tk, Q (.bool b) { s with toks := tk }) :
    wpAny (model X.prog X.w) A (call (.builtin "isinstance") [u, c]) Q E s := by
  cases ty with
  | non => cases (show u = Value.none from rx); exact PySem.W.kia_one PySem.W.kitx_none I.kIn True.intro e (fun z => nomatch z) h
  | bl y => cases (show u = Value.bool y from rx); exact PySem.W.kia_one PySem.W.kitx_bool I.kIn True.intro e (fun z => nomatch z) h
  | int i => obtain ⟨t, q⟩ := (show ∃ t, u = Value.int i t from rx); cases q; exact PySem.W.kia_one PySem.W.kitx_int I.kIn True.intro e (fun z => nomatch z) h
  | str y => obtain ⟨t, q⟩ := (show ∃ t, u = Value.str y t from rx); cases q; exact PySem.W.kia_one PySem.W.kitx_str I.kIn True.intro e (fun z => nomatch z) h
  | flt y => obtain ⟨t, q⟩ := (show ∃ t, u = Value.float y t from rx); cases q; exact PySem.W.kia_one PySem.W.kitx_float I.kIn True.intro e (fun z => nomatch z) h
  | @lst a xs ea =>
    cases (show u = Value.ref a from rx)
    obtain ⟨_, _, n, _, h1⟩ := (show ObjOk X.prog X.w H s.heap a (.lst xs) from I.hok a _ ea)
    exact PySem.W.kia_one PySem.W.kitx_list I.kIn ⟨_, h1, rfl⟩ e (fun z => nomatch z) h
  | @frz a ob xs ea =>
    cases (show u = Value.ref a from rx)
    obtain ⟨_, _, _, n, _, h1⟩ := (show ObjOk X.prog X.w H s.heap a (.frz ob (.lst xs)) from I.hok a _ ea)
    exact PySem.W.kia_one PySem.W.kitx_list I.kIn ⟨_, h1, rfl⟩ e (fun z => nomatch z) h
  | @tup a xs ea =>
    cases (show u = Value.ref a from rx)
    obtain ⟨_, _, _, p⟩ := (show ObjOk X.prog X.w H s.heap a (.tup xs) from I.hok a _ ea)
    obtain ⟨o, h1, h2, _⟩ := p
    exact PySem.W.kia_one PySem.W.kitx_tuple I.kIn ⟨o, h1, h2⟩ e (fun z => nomatch z) h
  | @dK a kvs ea =>
    cases (show u = Value.ref a from rx)
    obtain ⟨_, _, vs, _, p⟩ := (show ObjOk X.prog X.w H s.heap a (.dK kvs) from I.hok a _ ea)
    obtain ⟨o, es, ep, h1, h2, _⟩ := p
    exact PySem.W.kia_one PySem.W.kitx_dict I.kIn ⟨o, h1, h2.1⟩ e (fun z => nomatch z) h
  | @dT a kvs ea =>
    cases (show u = Value.ref a from rx)
    obtain ⟨_, _, xs, _, o, es, ep, h1, h2, _⟩ := (show ObjOk X.prog X.w H s.heap a (.dT kvs) from I.hok a _ ea)
    exact PySem.W.kia_one PySem.W.kitx_dict I.kIn ⟨o, h1, h2.1⟩ e (fun z => nomatch z) h
  | @ins a C dx fs ea cl ha hn htk hm =>
    cases (show u = Value.ref a from rx)
    obtain ⟨mA, O, _⟩ := ins_get I.hok ea
    obtain ⟨od, J, _⟩ := O.look
    exact PySem.W.kia_one (PySem.W.kitx_own (cl.get _) cl.hd ha hn htk hm) I.kIn J e (fun z => nomatch z) h
end
end L2
namespace L2
open PySem PySem.Spec PyProof.Rows
structure Room (k : Nat) (A : Around) : Prop where
  hd : A.handled = none
  dp : A.depth + 3 * k + 5 < recursionLimit
  un : A.units + 16 * k + 200 < cLine
theorem Room.mono {j k : Nat} {A : Around} (r : Room k A) (h : j ≤ k) : Room j A := ⟨r.hd, by have := r.dp; omega, by have := r.un; omega⟩
theorem Room.deeper {k : Nat} {A : Around} (r : Room (k + 1) A) (env : Env) : Room k (A.deeper env) :=
  ⟨r.hd, by have := r.dp; show A.depth + 1 + 3 * k + 5 < _; omega, by have := r.un; show A.units + 3 + 16 * k + 200 < _; omega⟩
theorem Room.in1 {k : Nat} {A : Around} (r : Room (k + 1) A) : Room k A.in1 :=
  ⟨r.hd, by have := r.dp; show A.depth + 3 * k + 5 < _; omega, by have := r.un; show A.units + 1 + 16 * k + 200 < _; omega⟩
theorem make_depth {A : Around} {C : Addr} {us : List Value} {kw : List (Str × Value)} : (A.under (.builtin "type.__call__" ⟨.ref C :: us, kw⟩)).depth = A.depth + 1 := by
  first | rfl | simp [Around.under, Code.weight, Code.isCreation, Code.isGuard, Code.isCaller, Code.frames, Code.isFrame, guardIds]
theorem make_units {A : Around} {C : Addr} {us : List Value} {kw : List (Str × Value)} : (A.under (.builtin "type.__call__" ⟨.ref C :: us, kw⟩)).units = A.units + 1 := by
  first | rfl | simp [Around.under, Code.cUnits, Code.frames, Code.isFrame]
theorem Room.make {k : Nat} {A : Around} (r : Room (k + 1) A) (C : Addr) (us : List Value) (kw : List (Str × Value)) : Room k (A.under (.builtin "type.__call__" ⟨.ref C :: us, kw⟩)) :=
  ⟨r.hd, by have := r.dp; rw [make_depth]; omega, by have := r.un; rw [make_units]; omega⟩
theorem Room.depth {k : Nat} {A : Around} (r : Room k A) : A.depth < recursionLimit := by have := r.dp; omega
theorem Room.units {k : Nat} {A : Around} (r : Room k A) : A.units + 64 < cLine := by have := r.un; omega
def tNil : TA := fun _ H Q => Q [] H
def tCons (ta : TE) (tr : TA) : TA := fun σ H Q => ta σ H fun x H1 => tr σ H1 fun xs H2 => Q (x :: xs) H2
section
variable {X : Cx} {e : Expr} {es : List Expr} {te : TE} {t : TA} {pos : Pos}
theorem pa_nil : PA X [] tNil := fun _ _ _ _ H Q I h => Calls.spliced_nil ⟨[], H, I, .nil, h⟩
theorem pa_cons (ha : PE X e te) (hr : PA X es t) (hs : starEach (e :: es) X.env = (false, eval e X.env) :: starEach es X.env := by rfl) : PA X (e :: es) (tCons te t) := by
  intro pos pins s σ H Q I h
  rw [hs]
  show wpAny _ _ (spliced ((false, eval e X.env) :: backTo pos (starEach es X.env))) _ _ s
  refine Calls.spliced_cons (thn (ha pins s σ H _ I h) fun u s1 ⟨x, H1, I1, r1, q1⟩ => ?_)
  exact thn (hr pos pins s1 σ H1 _ I1 q1) fun us s2 ⟨xs, H2, I2, r2, q2⟩ => ⟨x :: xs, H2, I2, .cons r1 r2, q2⟩
def tTup (t : TA) : TE := fun σ H Q => t σ H fun xs H1 => xs.length ≤ sizeLine ∧ ∀ p, H1 p = none → Q (.ref p) (upd H1 p (.tup xs))
def tLst (t : TA) : TE := fun σ H Q => t σ H fun xs H1 => xs.length ≤ sizeLine ∧ ∀ p, H1 p = none → Q (.ref p) (upd H1 p (.lst xs))
theorem pe_tup {x1} (h : PA X es t) : PE X (.Tuple es x1 pos) (tTup t) := by
  intro pins s σ H Q I hq
  refine wpAny_Tuple_spliced (thn (h pos pins s σ H _ I hq) fun us s1 ⟨xs, H1, I1, r, z, q⟩ => ⟨by rw [← r.length]; exact z, ?_⟩)
  have hf : H1 s1.heap.objs.size = none := I1.hok.fresh (Nat.le_refl _)
  refine ⟨.ref s1.heap.objs.size, upd H1 s1.heap.objs.size (.tup xs), I1.laid (t' := s1.toks) (fun b u e => Heap.get?_push_of_some _ e) (Nat.le_refl _) ?_, rfl, q _ hf⟩
  exact ⟨z, us, r, ⟨_, Heap.get?_push_size _ rfl, rfl, _, rfl⟩⟩
theorem pe_lst (h : PA X es t) : PE X (.List es pos) (tLst t) := by
  intro pins s σ H Q I hq
  refine wpAny_List_spliced (thn (h pos pins s σ H _ I hq) fun us s1 ⟨xs, H1, I1, r, z, q⟩ => ⟨by rw [← r.length]; exact z, ?_⟩)
  have hf : H1 s1.heap.objs.size = none := I1.hok.fresh (Nat.le_refl _)
  refine ⟨.ref s1.heap.objs.size, upd H1 s1.heap.objs.size (.lst xs), I1.laid (t' := s1.toks) (fun b u e => Heap.get?_push_of_some _ e) (Nat.le_refl _) ?_, rfl, q _ hf⟩
  exact ⟨z, us, 0, r, Heap.get?_push_size _ rfl⟩
end
abbrev Sp := List V → Hp → VK → XK → Prop
abbrev CXT := List Env → Hp → Shared → XK → Value → Shared → Prop
structure Env0 (P : Program) (w : World) (K : PySem.W.Frag) (mg : Str → Option Value) (base : Heap) (A : Around) (outer : List Env) (s : Shared) (H : Hp) : Prop where
  frames : A.frames = some outer
  mod : Mod K mg base
  bs : ∀ b o, base.get? b = some o → s.heap.get? b = some o ∧ H b = none
  bsz : base.objs.size ≤ s.heap.objs.size
  funs : s.heap.FunFrames base outer
  frf : ∀ b ∈ frs outer, H b = none
  hok : HOk P w H s.heap
  bare : AllBare s.gens
def CE (outer : List Env) (P : Program) (w : World) (H : Hp) (s : Shared) (Q : VK) (u : Value) (s' : Shared) : Prop :=
  ∃ v H', s'.os = s.os ∧ AllBare s'.gens ∧ Un (frs outer) [] H H' s.heap s'.heap ∧ HOk P w H' s'.heap ∧ RelV v u ∧ Q v H'
def CR (CX : CXT) (outer : List Env) (P : Program) (w : World) (H : Hp) (s : Shared) (Q : VK) (E : XK) (r : Result) (s' : Shared) : Prop :=
  match r with
  | .ok (.ret u) => CE outer P w H s Q u s'
  | .ok _ => False
  | .error e => CX outer H s E e s'
structure FnOk (P : Program) (w : World) (K : PySem.W.Frag) (mg : Str → Option Value) (base : Heap) (CX : CXT) (k : Nat) (f : Addr) (fd : FuncData) (ps : List Str) (sp : Sp) : Prop where
  len : ∀ vs H Q E, sp vs H Q E → vs.length = ps.length
  run : ∀ (A : Around) (outer : List Env) (s : Shared) (H : Hp) (args : Args) (us : List Value) (vs : List V) (Q : VK) (E : XK), Room k A → Env0 P w K mg base A outer s H → BindsTo s fd args (ps.zip us) → Vals vs us → sp vs H Q E →
    codeAny (model P w) A (.call (.ref f) args) (CR CX outer P w H s Q E) s
theorem FnOk.mono {P : Program} {w : World} {K : PySem.W.Frag} {mg : Str → Option Value} {base : Heap} {CX : CXT} {j k : Nat} {f : Addr} {fd : FuncData} {ps : List Str} {sp : Sp} (F : FnOk P w K mg base CX j f fd ps sp) (h : j ≤ k) :
    FnOk P w K mg base CX k f fd ps sp := ⟨F.len, fun A outer s H args us vs Q E hr => F.run A outer s H args us vs Q E (hr.mono h)⟩
theorem FnOk.imp {P : Program} {w : World} {K : PySem.W.Frag} {mg : Str → Option Value} {base : Heap} {CX : CXT} {k : Nat} {f : Addr} {fd : FuncData} {ps : List Str} {sp sp' : Sp} (F : FnOk P w K mg base CX k f fd ps sp)
    (h : ∀ vs H Q E, sp' vs H Q E → sp vs H Q E) : FnOk P w K mg base CX k f fd ps sp' :=
  ⟨fun vs H Q E q => F.len vs H Q E (h _ _ _ _ q), fun A outer s H args us vs Q E hr he hb hv hs => F.run A outer s H args us vs Q E hr he hb hv (h _ _ _ _ hs)⟩
theorem Env0.make {P : Program} {w : World} {K : PySem.W.Frag} {mg : Str → Option Value} {base : Heap} {A : Around} {outer : List Env} {s : Shared} {H : Hp} (e : Env0 P w K mg base A outer s H) (C : Addr) (us : List Value) (kw : List (Str × Value)) :
    Env0 P w K mg base (A.under (.builtin "type.__call__" ⟨.ref C :: us, kw⟩)) outer s H := ⟨by first | exact e.frames | (simpa [Around.under, Code.envs, Code.isFrame, pushEnvs] using e.frames), e.mod, e.bs, e.bsz, e.funs, e.frf, e.hok, e.bare⟩
theorem Env0.in1 {P : Program} {w : World} {K : PySem.W.Frag} {mg : Str → Option Value} {base : Heap} {A : Around} {outer : List Env} {s : Shared} {H : Hp} (e : Env0 P w K mg base A outer s H) :
    Env0 P w K mg base A.in1 outer s H := ⟨e.frames, e.mod, e.bs, e.bsz, e.funs, e.frf, e.hok, e.bare⟩
section
variable {X : Cx} {pins : List (Addr × Obj)} {σ : St} {H : Hp} {s s' : Shared}
theorem Inv.env0 (I : Inv X pins σ H s) : Env0 X.prog X.w X.K X.mg X.base X.A X.stack s H :=
  ⟨I.ok.frames, I.ok.mod, I.bs, Nat.le_trans I.ok.bsz I.sz, I.stack, I.stkFree, I.hok, I.bare⟩
theorem Inv.after {Q : VK} {u : Value} (I : Inv X pins σ H s) (h : CE X.stack X.prog X.w H s Q u s') : EP X pins σ Q u s' := by
  obtain ⟨v, H', os, bare, un, hok, r, q⟩ := h
  obtain ⟨hh, g, d, t, os'⟩ := s'
  obtain rfl : os' = s.os := os
  exact ⟨v, H', I.call (h' := hh) (g' := g) (d' := d) (t' := t) (ch := []) un hok bare (fun b z => absurd z (by simp)), r, q⟩
end
def tCall (sp : Sp) (dvs : List V) (E : XK) (t : TA) : TE := fun σ H Q => t σ H fun vs H1 => sp (vs ++ dvs) H1 Q E
def tMeth (C : Addr) (m : Str) (sp : Sp) (dvs : List V) (E : XK) (ta : TE) (t : TA) : TE := fun σ H Q => ta σ H fun x H1 => ∃ a dx fs, x = .ref a ∧ H1 a = some (.ins C dx fs) ∧ fs.lookup m = none ∧
  t σ H1 fun vs H2 => sp (x :: (vs ++ dvs)) H2 Q E
def tMake (C : Addr) (sp : Sp) (dvs : List V) (E : XK) (t : TA) : TE := fun σ H Q => t σ H fun vs H1 => ∀ x dx, H1 x = none → H1 dx = none → dx ≠ x →
  sp (.ref x :: (vs ++ dvs)) (upd (upd H1 dx (.own x)) x (.ins C dx [])) (fun v H2 => v = .non ∧ Q (.ref x) H2) E
def Binds (K : PySem.W.Frag) (fd : FuncData) (ps : List Str) (ds : List Value) : Prop :=
  ∀ (s : Shared) (us : List Value), K.In s.heap → (us ++ ds).length = ps.length → BindsTo s fd ⟨us, []⟩ (ps.zip (us ++ ds))
theorem Binds.all {K : PySem.W.Frag} {fd : FuncData} {ps : List Str} (h : ∀ us : List Value, us.length = ps.length → bindArgs fd ⟨us, []⟩ = pure (ps.zip us)) : Binds K fd ps [] := fun s us _ hl => by
  rw [List.append_nil] at hl ⊢
  exact .of_eq (h us hl)
def Passes (CX : CXT) (X : Cx) (E : XK) : Prop := ∀ (pins : List (Addr × Obj)) (σ : St) (H : Hp) (s : Shared) (e : Value) (s' : Shared), Inv X pins σ H s → CX X.stack H s E e s' → X.xe e s'
section
variable {X : Cx} {CX : CXT} {k : Nat} {f C : Addr} {fd : FuncData} {ps : List Str} {sp : Sp} {dvs : List V} {ds : List Value} {E : XK} {x m : Str} {p pos apos : Pos} {e o : Expr} {es : List Expr} {ta : TE} {t : TA}
theorem run_fn {pins : List (Addr × Obj)} {σ : St} {H : Hp} {s : Shared} {Q : VK} {us : List Value} {vs : List V} (F : FnOk X.prog X.w X.K X.mg X.base CX k f fd ps sp) (hr : Room k X.A) (hb : Binds X.K fd ps ds) (hd : Vals dvs ds) (hx : Passes CX X E)
    (I : Inv X pins σ H s) (r : Vals vs us) (h : sp (vs ++ dvs) H Q E) : wpAny (model X.prog X.w) X.A (call (.ref f) us) (EP X pins σ Q) X.xe s := by
  have r2 : Vals (vs ++ dvs) (us ++ ds) := r.append hd
  have hl : (us ++ ds).length = ps.length := by rw [← r2.length]; exact F.len _ _ _ _ h
  refine wpAny_call (codeAny_mono (F.run X.A X.stack s H ⟨us, []⟩ (us ++ ds) (vs ++ dvs) Q E hr I.env0 (hb s us I.kIn hl) r2 h) fun r s' hq => ?_)
  cases r with
  | error e => exact hx pins σ H s e s' I hq
  | ok fl =>
    cases fl with
    | ret u => exact I.after hq
    | next => exact False.elim hq
    | brk => exact False.elim hq
    | cont => exact False.elim hq
theorem pe_call (F : FnOk X.prog X.w X.K X.mg X.base CX k f fd ps sp) (hr : Room k X.A) (hg : Gl X x) (hm : X.mg x = some (.ref f)) (hk : PySem.W.keepIn X.K (.ref f) = true) (hb : Binds X.K fd ps ds) (hd : Vals dvs ds) (hx : Passes CX X E)
    (ha : PA X (e :: es) t) (hdb : (x == ("__debug__" : Str)) = false := by decide) (he : starEach (e :: es) X.env = (false, eval e X.env) :: starEach es X.env := by rfl) (hpl : (backTo pos (starEach es X.env)).any (·.1) = false := by rfl) :
    PE X (.Call (.Name x p) (e :: es) [] pos) (tCall sp dvs E t) := by
  intro pins s σ H Q I h
  refine wpAny_Call_Name_kw (ld_glob I hg hm ?_ hdb)
  refine PySem.W.callWith_K (h₀ := X.base) I.ok.mod.kin hk (thn (ha pos pins s σ H _ I h) fun us s1 ⟨vs, H1, I1, r, q⟩ => ⟨I1.kIn, ?_⟩) he hpl
  exact run_fn F hr hb hd hx I1 r q
theorem pe_meth {pl : Sem Bool} (he : PE X o ta) (c : Cls X.K C) (hm : Meth X.K C m f) (F : FnOk X.prog X.w X.K X.mg X.base CX k f fd ps sp) (hr : Room k X.A) (hb : Binds X.K fd ps ds) (hd : Vals dvs ds) (hx : Passes CX X E) (ha : PA X (e :: es) t)
    (hst : starEach (e :: es) X.env = (false, eval e X.env) :: starEach es X.env := by rfl) (hpl : (backTo pos (starEach es X.env)).any (·.1) = false := by rfl)
    (ht : eval (.Call (.Attribute o m apos) (e :: es) [] pos) X.env = (do
      let ov ← eval o X.env
      standAt apos.atName
      let (f, first) ← holding [ov] (getMethod ov m pl)
      callWith pos f first (backTo pos (starEach (e :: es) X.env)) (backToKw pos (keywordEach [] X.env))) := by rfl) :
    PE X (.Call (.Attribute o m apos) (e :: es) [] pos) (tMeth C m sp dvs E ta t) := by
  intro pins s σ H Q I h
  refine PySem.W.methodCall_KW (pl := pl) (thn (he pins s σ H _ I h) fun u s1 ⟨x, H1, I1, rx, a, dx, fs, ex, ea, l, q⟩ => ?_) ht
  subst ex
  obtain rfl : u = Value.ref a := rx
  refine getmeth_ok I1 ea c hm l ?_
  refine PySem.W.callWith_K (first := [.ref a]) (h₀ := X.base) I.ok.mod.kin hm.kp (thn (ha pos pins s1 σ H1 _ I1 q) fun us s2 ⟨vs, H2, I2, r, q2⟩ => ⟨I2.kIn, ?_⟩) hst hpl
  exact run_fn (us := .ref a :: us) (vs := .ref a :: vs) F hr hb hd hx I2 (.cons rfl r) q2
theorem pe_meth0 {pl : Sem Bool} (he : PE X o ta) (c : Cls X.K C) (hm : Meth X.K C m f) (F : FnOk X.prog X.w X.K X.mg X.base CX k f fd ps sp) (hr : Room k X.A) (hb : Binds X.K fd ps ds) (hd : Vals dvs ds) (hx : Passes CX X E)
    (ht : eval (.Call (.Attribute o m apos) [] [] pos) X.env = (do
      let ov ← eval o X.env
      standAt apos.atName
      let (f, first) ← holding [ov] (getMethod ov m pl)
      callWith pos f first (backTo pos (starEach [] X.env)) (backToKw pos (keywordEach [] X.env))) := by rfl) :
    PE X (.Call (.Attribute o m apos) [] [] pos) (tMeth C m sp dvs E ta tNil) := by
  intro pins s σ H Q I h
  refine PySem.W.methodCall_KW (pl := pl) (thn (he pins s σ H _ I h) fun u s1 ⟨x, H1, I1, rx, a, dx, fs, ex, ea, l, q⟩ => ?_) ht
  subst ex
  obtain rfl : u = Value.ref a := rx
  refine getmeth_ok I1 ea c hm l ?_
  exact PySem.W.callWith_K0 (first := [.ref a]) I1.kIn hm.kp (run_fn (us := [.ref a]) (vs := [.ref a]) F hr hb hd hx I1 (.cons rfl .nil) q)
structure Mk (K : PySem.W.Frag) (C f : Addr) : Prop where
  makes : PySem.W.makesIn K C = true
  init : PySem.W.findIn K (.ref C) "__init__" = some (some (.ref f))
  fn : PySem.W.isFn K (.ref f) = true
  kp : PySem.W.keepIn K (.ref C) = true
theorem run_make {pins : List (Addr × Obj)} {σ : St} {H : Hp} {s : Shared} {Q : VK} {us : List Value} {vs : List V} (M : Mk X.K C f) (F : FnOk X.prog X.w X.K X.mg X.base CX k f fd ps sp) (hr : Room (k + 1) X.A) (hb : Binds X.K fd ps ds) (hd : Vals dvs ds)
    (hx : Passes CX X E) (I : Inv X pins σ H s) (r : Vals vs us)
    (h : ∀ x dx, H x = none → H dx = none → dx ≠ x → sp (.ref x :: (vs ++ dvs)) (upd (upd H dx (.own x)) x (.ins C dx [])) (fun v H2 => v = .non ∧ Q (.ref x) H2) E) :
    wpAny (model X.prog X.w) X.A (call (.ref C) us) (EP X pins σ Q) X.xe s := by
  have hq := h (s.heap.objs.size + 1) s.heap.objs.size (I.hok.fresh (Nat.le_succ _)) (I.hok.fresh (Nat.le_refl _)) (Nat.ne_of_lt (Nat.lt_succ_self _))
  have I2 := Inv.made (C := C) I
  have r2 : Vals (V.ref (s.heap.objs.size + 1) :: (vs ++ dvs)) (Value.ref (s.heap.objs.size + 1) :: (us ++ ds)) := .cons rfl (r.append hd)
  have hl : (Value.ref (s.heap.objs.size + 1) :: us ++ ds).length = ps.length := by
    have e := r2.length
    rw [F.len _ _ _ _ hq] at e
    exact e.symm
  refine wpAny_call (make_map (f := f) I.kIn M.makes M.init (beq_iff_eq.mp M.fn) (codeAny_mono (F.run _ X.stack _ _ ⟨Value.ref (s.heap.objs.size + 1) :: us, []⟩ (Value.ref (s.heap.objs.size + 1) :: (us ++ ds)) _ _ E (hr.make C us [])
    (I2.env0.make C us []) (hb _ (Value.ref (s.heap.objs.size + 1) :: us) I2.kIn hl) r2 hq) fun r s' hq' => ?_))
  cases r with
  | error e => exact hx pins σ _ _ e s' I2 hq'
  | ok fl =>
    cases fl with
    | ret u =>
      obtain ⟨v, H', I3, rv, ev, q3⟩ := I2.after hq'
      subst ev
      exact ⟨rv, ⟨V.ref (s.heap.objs.size + 1), H', I3, rfl, q3⟩⟩
    | next => exact False.elim hq'
    | brk => exact False.elim hq'
    | cont => exact False.elim hq'
theorem pe_make (M : Mk X.K C f) (F : FnOk X.prog X.w X.K X.mg X.base CX k f fd ps sp) (hr : Room (k + 1) X.A) (hg : Gl X x) (hm : X.mg x = some (.ref C)) (hb : Binds X.K fd ps ds) (hd : Vals dvs ds) (hx : Passes CX X E)
    (ha : PA X (e :: es) t) (hdb : (x == ("__debug__" : Str)) = false := by decide) (he : starEach (e :: es) X.env = (false, eval e X.env) :: starEach es X.env := by rfl) (hpl : (backTo pos (starEach es X.env)).any (·.1) = false := by rfl) :
    PE X (.Call (.Name x p) (e :: es) [] pos) (tMake C sp dvs E t) := by
  intro pins s σ H Q I h
  refine wpAny_Call_Name_kw (ld_glob I hg hm ?_ hdb)
  refine PySem.W.callWith_K (h₀ := X.base) I.ok.mod.kin M.kp (thn (ha pos pins s σ H _ I h) fun us s1 ⟨vs, H1, I1, r, q⟩ => ⟨I1.kIn, ?_⟩) he hpl
  exact run_make M F hr hb hd hx I1 r q
end
section
variable {X : Cx} {CX : CXT} {k : Nat} {f C : Addr} {fd : FuncData} {ps ks : List Str} {sp : Sp} {E : XK} {x m : Str} {p pos apos kpos : Pos} {e o : Expr} {es : List Expr} {kws : List Keyword} {te ta : TE} {t tk : TA} {nm : Option Str}
variable {g : List Value → List Value → List Value} {gV : List V → List V → List V}
end
structure FnScope (N P : List Str) (sc : Scope) : Prop where
  kind : sc.kind = .function
  co : sc.isCoroutine = false
  gen : sc.isGenerator = false
  nd : N.Nodup
  pre : N.take P.length = P
  par : ∀ x ∈ P, sc.names.lookup x = some .local ∨ sc.names.lookup x = some .cell
  nofree : ∀ y ∈ sc.names, y.2 ≠ .free
theorem bindL_out {kindOf : Str → Option NameKind} {x : Str} : ∀ {binds : List (Str × Value)} {m : Str → Option Value}, (∀ v, (x, v) ∉ binds) → bindL kindOf binds m x = m x
  | [], _, _ => rfl
  | (n, v) :: r, m, h => by
    unfold bindL
    rw [bindL_out fun w hw => h w (List.mem_cons_of_mem _ hw)]
    split
    · have : x ≠ n := by rintro rfl; exact h v List.mem_cons_self
      simp [this]
    · rfl
theorem bindC_out {kindOf : Str → Option NameKind} {x : Str} : ∀ {binds : List (Str × Value)} {m : Str → Option Value}, (∀ v, (x, v) ∉ binds) → bindC kindOf binds m x = m x
  | [], _, _ => rfl
  | (n, v) :: r, m, h => by
    unfold bindC
    rw [bindC_out fun w hw => h w (List.mem_cons_of_mem _ hw)]
    split
    · rfl
    · have : x ≠ n := by rintro rfl; exact h v List.mem_cons_self
      simp [this]
theorem bindL_get {kindOf : Str → Option NameKind} {x : Str} {v : Value} : ∀ {P : List Str} {vs : List Value} {i : Nat} {m : Str → Option Value}, P.Nodup → P[i]? = some x → vs[i]? = some v → kindOf x = some .local →
    bindL kindOf (P.zip vs) m x = some v
  | [], _, _, _, _, h, _, _ => by simp at h
  | _ :: _, [], _, _, _, _, h, _ => by simp at h
  | p :: P, w :: vs, 0, m, nd, h1, h2, hk => by
    simp at h1 h2; subst h1; subst h2
    show bindL kindOf ((p, w) :: P.zip vs) m p = _
    unfold bindL
    rw [bindL_out fun v hv => (List.nodup_cons.mp nd).1 (List.of_mem_zip hv).1, if_pos hk]
    simp
  | p :: P, w :: vs, i + 1, m, nd, h1, h2, hk => by
    show bindL kindOf ((p, w) :: P.zip vs) m x = _
    unfold bindL
    exact bindL_get (i := i) (List.nodup_cons.mp nd).2 (by simpa using h1) (by simpa using h2) hk
theorem bindC_get {kindOf : Str → Option NameKind} {x : Str} {v : Value} : ∀ {P : List Str} {vs : List Value} {i : Nat} {m : Str → Option Value}, P.Nodup → P[i]? = some x → vs[i]? = some v → kindOf x ≠ some .local →
    bindC kindOf (P.zip vs) m x = some v
  | [], _, _, _, _, h, _, _ => by simp at h
  | _ :: _, [], _, _, _, _, h, _ => by simp at h
  | p :: P, w :: vs, 0, m, nd, h1, h2, hk => by
    simp at h1 h2; subst h1; subst h2
    show bindC kindOf ((p, w) :: P.zip vs) m p = _
    unfold bindC
    rw [bindC_out fun v hv => (List.nodup_cons.mp nd).1 (List.of_mem_zip hv).1, if_neg hk]
    simp
  | p :: P, w :: vs, i + 1, m, nd, h1, h2, hk => by
    show bindC kindOf ((p, w) :: P.zip vs) m x = _
    unfold bindC
    exact bindC_get (i := i) (List.nodup_cons.mp nd).2 (by simpa using h1) (by simpa using h2) hk
def start (N : List Str) (vs : List V) : St := vs.map some ++ List.replicate (N.length - vs.length) none
def cxOf (CX : CXT) (P : Program) (w : World) (K : PySem.W.Frag) (mg : Str → Option Value) (base : Heap) (N : List Str) (qual : Str) (scope : Scope) (f : Addr) (cd : Value) (A : Around) (outer : List Env) (s : Shared) (H : Hp) (E : XK) : Cx where
  prog := P
  w := w
  K := K
  mg := mg
  base := base
  A := A.deeper (envOfC qual scope s.heap.objs.size f cd)
  N := N
  s₀ := s
  H₀ := H
  env := envOfC qual scope s.heap.objs.size f cd
  outer := outer
  stack := envOfC qual scope s.heap.objs.size f cd :: outer
  ex := []
  calm := true
  fn := fun _ => true
  pn := []
  xe := fun e s' => wpAny (model P w) (A.deeper (envOfC qual scope s.heap.objs.size f cd)) (leaving (envOfC qual scope s.heap.objs.size f cd) e) (fun _ s'' => CX outer H s E e s'') (fun e' s'' => CX outer H s E e' s'') s'
theorem cell_has {sc : Scope} {n : Nat} {x : Str} (h : sc.names.lookup x = some .cell) : ∃ c, (cellsFrom n sc.names []).lookup x = some c := by
  have q := PySem.W.cellsFrom_some sc.names n [] (.inl h)
  exact Option.isSome_iff_exists.mp q
theorem inv_start {CX : CXT} {P : Program} {w : World} {K : PySem.W.Frag} {mg : Str → Option Value} {base : Heap} {N ps : List Str} {qual : Str} {scope : Scope} {f : Addr} {cd : Value} {A : Around} {outer : List Env} {s s1 : Shared} {H : Hp} {E : XK} {us : List Value} {vs : List V}
    (S : FnScope N ps scope) (hd : A.handled = none) (e0 : Env0 P w K mg base A outer s H) (hl : vs.length = ps.length) (r : Vals vs us)
    (x : InCallC s s.heap.objs.size (bindL (envOfC qual scope s.heap.objs.size f cd).kindOf (ps.zip us) fun _ => none) (cellsFrom (s.heap.objs.size + 1) scope.names []) (bindC (envOfC qual scope s.heap.objs.size f cd).kindOf (ps.zip us) fun _ => none) s1) :
    Inv (cxOf CX P w K mg base N qual scope f cd A outer s H E) [] (start N vs) H s1 := by
  have hpl : ps.length ≤ N.length := by have := congrArg List.length S.pre; rw [List.length_take] at this; omega
  obtain ⟨h1, tk, rfl, hk⟩ := x.done
  have noA : ∀ b : Addr, b ∉ (cxOf CX P w K mg base N qual scope f cd A outer s H E).ex := fun b z => absurd (show b ∈ ([] : List Addr) from z) (by simp)
  refine ⟨⟨e0.mod, S.kind, rfl, rfl, Nat.le_refl _, fun y z c h1 h2 => ?_, fun y hy => ?_, fun y c _ h => ?_, fun _ => hd, Around.frames_deeper e0.frames, .inr ⟨rfl, rfl⟩, fun b z => absurd z (noA b), e0.bs, e0.bsz, fun b _ _ => noA b, fun b z => absurd z (noA b), e0.funs, e0.frf⟩,
    rfl, e0.bare, Un.kept hk, ⟨_, x.toInCall.ns, fun i y v h1 h2 h3 => ?_⟩, fun y c h => ⟨_, x.cell y c h⟩, e0.hok.fresh (Nat.le_refl _), fun y c h => ?_, fun p hp => absurd (show p ∈ ([] : List (Addr × Obj)) from hp) (by simp), e0.hok.kept hk, ?_⟩
  · exact name_of_addr x.apart (PySem.mem_of_lookup h1) (PySem.mem_of_lookup h2)
  · have hy : scope.names.lookup y = some .cell ∨ scope.names.lookup y = some .free := hy
    rcases hy with hy | hy
    · exact cell_has hy
    · exact absurd rfl (S.nofree _ (PySem.mem_of_lookup hy))
  · exact Nat.le_of_lt (x.above y c (PySem.mem_of_lookup h))
  · have hi : i < vs.length := by
      unfold start at h2
      by_cases hi : i < vs.length
      · exact hi
      · rw [List.getElem?_append_right (by simpa using hi)] at h2
        rw [List.getElem?_replicate] at h2
        split at h2 <;> cases h2
    have ha : vs[i]? = some v := by
      unfold start at h2
      rw [List.getElem?_append_left (by simpa using hi), List.getElem?_map] at h2
      cases e : vs[i]? with
      | none => rw [e] at h2; cases h2
      | some a => rw [e] at h2; cases h2; rfl
    obtain ⟨u, hu, rv⟩ := r.get ha
    have hp : ps[i]? = some y := by
      rw [← S.pre, List.getElem?_take_of_lt (by omega)]; exact h1
    have ndP : ps.Nodup := by rw [← S.pre]; exact S.nd.sublist (List.take_sublist _ _)
    refine ⟨u, rv, ?_⟩
    rcases S.par y (List.mem_of_getElem? hp) with k | k
    · exact .inl ⟨k, bindL_get ndP hp hu k⟩
    · obtain ⟨c, e⟩ := cell_has (n := s.heap.objs.size + 1) k
      refine .inr ⟨.inl k, c, e, ?_⟩
      have q := x.cell y c e
      rw [bindC_get ndP hp hu (by show scope.names.lookup y ≠ _; rw [k]; decide)] at q
      exact q
  · exact e0.hok.fresh (Nat.le_of_lt (x.above y c (PySem.mem_of_lookup h)))
  · unfold start
    show _ = N.length
    rw [List.length_append, List.length_map, List.length_replicate]
    omega
theorem fn_of {CX : CXT} {P : Program} {w : World} {K : PySem.W.Frag} {mg : Str → Option Value} {base : Heap} {k : Nat} {f : Addr} {name qual : Str} {params : Arguments} {body : List Stmt} {scope : Scope} {dV kV doc pm cdv ct oc : Value} {an od : Option Addr}
    {osl : Array (Option Value)} {N ps : List Str} {sp : Sp} (lk : K.lookup f = some ⟨oc, od, .func (PySem.W.fnOf name qual params body scope dV kV doc pm an cdv ct), osl⟩) (hcd : PySem.W.codeIn K cdv qual = true) (S : FnScope N ps scope)
    (len : ∀ vs H Q E, sp vs H Q E → vs.length = ps.length)
    (hbody : ∀ (A : Around) (outer : List Env) (s : Shared) (H : Hp) (vs : List V) (Q : VK) (E : XK), Room k (A.deeper (envOfC qual scope s.heap.objs.size f cdv)) → sp vs H Q E →
      ∃ t, PSs (cxOf CX P w K mg base N qual scope f cdv A outer s H E) body t ∧ t { nx := fun _ H' => Q .non H', rt := Q } (start N vs) H) :
    FnOk P w K mg base CX (k + 1) f (PySem.W.fnOf name qual params body scope dV kV doc pm an cdv ct) ps sp := by
  refine ⟨len, fun A outer s H args us vs Q E hr e0 hb r hsp => ?_⟩
  have hl := len _ _ _ _ hsp
  have KX : K.In s.heap := e0.mod.kin.keeps fun b o e => (e0.bs b o e).1
  have lim : s.heap.NoLimit := e0.mod.nolimit.keeps fun b o e => (e0.bs b o e).1
  have hkind : ∀ y ∈ ps.zip us, scope.names.lookup y.1 = some .local ∨ (scope.names.lookup y.1 = some .cell ∧ ((cellsFrom (s.heap.objs.size + 1) scope.names []).lookup y.1).isSome = true) := fun ⟨n, v⟩ hy => by
    rcases S.par n (List.of_mem_zip hy).1 with q | q
    · exact .inl q
    · exact .inr ⟨q, PySem.W.cellsFrom_some _ _ _ (.inl q)⟩
  refine codeAny_call_function hr.depth (KX _ _ lk) rfl S.co S.gen rfl (PySem.W.codeRec_of KX hcd) (hb _ _ _ _ ?_)
  refine wpAny_newFunctionEnv_cells S.kind hkind fun env he s1 x => ?_
  subst he
  refine ⟨lim.keeps x.toInCall.keep, codeAny_func ?_⟩
  obtain ⟨t, ht, hq⟩ := hbody A outer s H vs Q E (hr.deeper _) hsp
  have I : Inv (cxOf CX P w K mg base N qual scope f cdv A outer s H E) [] (start N vs) H s1 := inv_start S hr.hd e0 hl r x
  refine wpAny_mono (ht [] s1 (start N vs) H _ I hq) (fun fl s' hs => ?_) fun e s' hs => hs
  have fin : ∀ {σ' : St} {H' : Hp} {v : V} {u : Value}, Inv (cxOf CX P w K mg base N qual scope f cdv A outer s H E) [] σ' H' s' → RelV v u → Q v H' → CE outer P w H s Q u s' :=
    fun {σ' H' v u} J rv q => ⟨v, H', J.os, J.bare, J.base, J.hok, rv, q⟩
  cases fl with
  | ret u =>
    obtain ⟨v, σ', H', J, rv, q⟩ := hs
    exact fin J rv q
  | next =>
    obtain ⟨σ', H', J, q⟩ := hs
    exact fin (v := V.non) (u := Value.none) J rfl q
  | brk =>
    obtain ⟨_, _, _, q⟩ := hs
    exact False.elim q
  | cont =>
    obtain ⟨_, _, _, q⟩ := hs
    exact False.elim q
end L2
namespace L2
open PySem PySem.Spec PyProof.Rows
section
variable {X : Cx} {x : Str} {p pos : Pos} {e : Expr} {es : List Expr} {t : TA} {id T : String} {r : List V → Hp → VK → Prop}
def tCB (r : List V → Hp → VK → Prop) (t : TA) : TE := fun σ H Q => t σ H fun vs H1 => r vs H1 Q
theorem pe_callB (hc : CallR X (.builtin id) r) (hg : Gl X x) (hm : X.mg x = none) (hv : bootBuiltins x = some (.builtin id)) (ha : PA X (e :: es) t) (hn : x ≠ "__name__" := by decide) (hdb : (x == ("__debug__" : Str)) = false := by decide)
    (he : starEach (e :: es) X.env = (false, eval e X.env) :: starEach es X.env := by rfl) (hpl : (backTo pos (starEach es X.env)).any (·.1) = false := by rfl) : PE X (.Call (.Name x p) (e :: es) [] pos) (tCB r t) := by
  intro pins s σ H Q I h
  refine wpAny_Call_Name_kw (ld_blt I hg hm hv ?_ hn hdb)
  exact PyProof.Rows.callWith_builtin1 (thn (ha pos pins s σ H _ I h) fun us s1 ⟨vs, H1, I1, r1, q1⟩ => hc pins s1 σ H1 vs us Q I1 r1 q1) he hpl
theorem pe_callTy (hc : CallR X (.type T) r) (hg : Gl X x) (hm : X.mg x = none) (hv : bootBuiltins x = some (.type T)) (ha : PA X (e :: es) t) (hn : x ≠ "__name__" := by decide) (hdb : (x == ("__debug__" : Str)) = false := by decide)
    (he : starEach (e :: es) X.env = (false, eval e X.env) :: starEach es X.env := by rfl) (hpl : (backTo pos (starEach es X.env)).any (·.1) = false := by rfl) : PE X (.Call (.Name x p) (e :: es) [] pos) (tCB r t) := by
  intro pins s σ H Q I h
  refine wpAny_Call_Name_kw (ld_blt I hg hm hv ?_ hn hdb)
  exact PyProof.Rows.callWith_type1 (thn (ha pos pins s σ H _ I h) fun us s1 ⟨vs, H1, I1, r1, q1⟩ => hc pins s1 σ H1 vs us Q I1 r1 q1) he hpl
end
end L2
namespace HT
open PySem PyProof.Rows
section
open PySem.SeqAt
open PySem.AutoSeq1 (wpAny_loadPart')
open PySem.MeetsSeq PySem.MeetsSeq2 PySem.MeetsSeq3
end
section
variable {prog : Program} {w : World} {A : Around} {E : Value → Shared → Prop} {s : Shared}
def sIx (n d : Nat) : Option Int → Nat
  | none => d
  | some v => if v < 0 then (v + (n : Int)).toNat else min v.toNat n
end
end HT
namespace L2
open PySem PySem.Spec PyProof.Rows
abbrev TO := St → Hp → (Option Int → Hp → Prop) → Prop
def PO (X : Cx) (e : Option Expr) (t : TO) : Prop :=
  ∀ (pins : List (Addr × Obj)) (s : Shared) (σ : St) (H : Hp) (Q : Option Int → Hp → Prop), Inv X pins σ H s → t σ H Q →
    wpAny (model X.prog X.w) X.A (evalPart e X.env) (fun u s' => ∃ o H', Inv X pins σ H' s' ∧ IsPart u o ∧ Q o H') X.xe s
def tNoPart : TO := fun _ H Q => Q none H
def tPart (t : TE) : TO := fun σ H Q => t σ H fun x H1 => ∃ i, x = .int i ∧ Q (some i) H1
theorem intsAre_of {ns : List Int} : ∀ {us : List Value}, Vals (ns.map V.int) us → IntsAre us ns := by
  induction ns with
  | nil => intro us r; rw [List.map_nil] at r; cases r; exact .nil
  | cons n ns ih =>
    intro us r
    rw [List.map_cons] at r
    cases r with
    | cons r1 r2 =>
      obtain ⟨t, e⟩ := r1
      subst e
      exact .cons n t (ih r2)
section
variable {X : Cx} {e : Expr} {te : TE} {lo hi : Option Expr} {tl th : TO} {pos p2 : Pos}
theorem po_none : PO X none tNoPart := by
  intro pins s σ H Q I h
  rw [evalPart_none]
  exact wpAny_pure ⟨none, H, I, .none, h⟩
theorem po_some (h : PE X e te) : PO X (some e) (tPart te) := by
  intro pins s σ H Q I hw
  rw [evalPart_some]
  refine thn (h pins s σ H _ I hw) fun u s1 ⟨x, H1, I1, r1, q1⟩ => ?_
  obtain ⟨i, rfl, q⟩ := q1
  obtain ⟨t, rfl⟩ := r1
  exact ⟨some i, H1, I1, .int i t, q⟩
def SlR (X : Cx) (r : V → Option Int → Option Int → Hp → VK → Prop) : Prop :=
  ∀ (pins : List (Addr × Obj)) (s : Shared) (σ : St) (H : Hp) (x : V) (v vl vu : Value) (lo hi : Option Int) (sl : Addr) (Q : VK), Inv X pins σ H s → RelV x v → s.heap.IsSliceOf sl vl vu .none → IsPart vl lo → IsPart vu hi → r x lo hi H Q →
    ∃ T id, typeLookup (.type T) "__getitem__" = pure (some (.builtin id)) ∧ s.TypeIs v T ∧ wpAny (model X.prog X.w) X.A (getItem v (.ref sl)) (EP X pins σ Q) X.xe s
def tSl (r : V → Option Int → Option Int → Hp → VK → Prop) (te : TE) (tl th : TO) : TE := fun σ H Q => te σ H fun x H1 => tl σ H1 fun l H2 => th σ H2 fun u H3 => r x l u H3 Q
theorem pe_slice {r : V → Option Int → Option Int → Hp → VK → Prop} (hr : SlR X r) (he : PE X e te) (hl : PO X lo tl) (hu : PO X hi th) : PE X (.Subscript e (.Slice lo hi none p2) pos) (tSl r te tl th) := by
  intro pins s σ H Q I h
  refine Subscript_ (thn (he pins s σ H _ I h) fun v s1 ⟨x, H1, I1, r1, q1⟩ => ?_)
  refine wpAny_Slice (thn (hl pins s1 σ H1 _ I1 q1) fun vl s2 ⟨l, H2, I2, pl, q2⟩ => thn (hu pins s2 σ H2 _ I2 q2) fun vu s3 ⟨u, H3, I3, pu, q3⟩ => ?_)
  rw [evalPart_none]
  refine wpAny_pure ?_
  have I4 : Inv X pins σ H3 { s3 with heap := s3.heap.push { cls := .type "slice", data := .fields #[vl, vu, .none] } } := I3.kept (t' := s3.toks) fun b ob q => Heap.get?_push_of_some _ q
  obtain ⟨T, id, hT, ht, hg⟩ := hr pins { s3 with heap := s3.heap.push { cls := .type "slice", data := .fields #[vl, vu, .none] } } σ H3 x v vl vu l u s3.heap.objs.size Q I4 r1 (Heap.IsSliceOf.new ..) pl pu q3
  show wpAny (model X.prog X.w) X.A (subscriptTail e (.Slice lo hi none p2) v (.ref s3.heap.objs.size)) (EP X pins σ Q) X.xe { s3 with heap := s3.heap.push { cls := .type "slice", data := .fields #[vl, vu, .none] } }
  exact tail_any (ops := [.ref s3.heap.objs.size, v]) ht hT hg (by with_unfolding_all rfl)
def cutV (xs : List V) (lo hi : Option Int) : List V := (xs.drop (HT.sIx xs.length 0 lo)).take (HT.sIx xs.length xs.length hi - HT.sIx xs.length 0 lo)
theorem cutV_length (xs : List V) (lo hi : Option Int) : (cutV xs lo hi).length ≤ xs.length := by
  unfold cutV
  rw [List.length_take, List.length_drop]
  omega
end
end L2
namespace L2
open PySem PySem.Spec PyProof.Rows
def ixN (n : Nat) (i : Int) : Option Nat := if 0 ≤ i then (if i < n then some i.toNat else none) else if -(n : Int) ≤ i then some (i + n).toNat else none
def atI {α : Type} (xs : List α) (i : Int) : Option α := (ixN xs.length i).bind fun j => xs[j]?
theorem ixN_seq {n : Nat} {i : Int} {j : Nat} (h : ixN n i = some j) : seqIndex? i n = some j ∧ j < n ∧ -(n : Int) ≤ i ∧ i < n := by
  unfold ixN at h
  by_cases h0 : 0 ≤ i
  · rw [if_pos h0] at h
    by_cases h1 : i < n
    · rw [if_pos h1] at h
      have e : i.toNat = j := Option.some.inj h
      exact ⟨by rw [seqIndex_of h0 h1, e], by omega, by omega, h1⟩
    · rw [if_neg h1] at h; cases h
  · rw [if_neg h0] at h
    by_cases h1 : -(n : Int) ≤ i
    · rw [if_pos h1] at h
      have e : (i + n).toNat = j := Option.some.inj h
      exact ⟨by rw [seqIndex_neg (by omega) h1, e], by omega, h1, by omega⟩
    · rw [if_neg h1] at h; cases h
theorem atI_get {α : Type} {xs : List α} {i : Int} {v : α} (h : atI xs i = some v) : ∃ j, seqIndex? i xs.length = some j ∧ xs[j]? = some v ∧ j < xs.length ∧ -(xs.length : Int) ≤ i ∧ i < xs.length := by
  unfold atI at h
  cases e : ixN xs.length i with
  | none => rw [e] at h; cases h
  | some j =>
    rw [e] at h
    obtain ⟨h1, h2, h3, h4⟩ := ixN_seq e
    exact ⟨j, h1, h, h2, h3, h4⟩
theorem atI_nat {α : Type} {xs : List α} {j : Nat} {v : α} (h : xs[j]? = some v) : atI xs (j : Int) = some v := by
  have hj : j < xs.length := (List.getElem?_eq_some_iff.mp h).1
  have e : ixN xs.length (j : Int) = some j := by
    unfold ixN
    rw [if_pos (by omega), if_pos (by omega)]; simp
  unfold atI; rw [e]; exact h
def PlainIx (b : Expr) : Prop := ∀ o i, subscripted b false o i = operate [o, i] (getItem o i)
def IxR (X : Cx) (r : R2) : Prop :=
  ∀ (value slice : Expr) (pins : List (Addr × Obj)) (s : Shared) (σ : St) (H : Hp) (x y : V) (v u : Value) (Q : VK), Inv X pins σ H s → RelV x v → RelV y u → r x y H Q →
    subscripted slice false v u = operate [v, u] (getItem v u) → wpAny (model X.prog X.w) X.A (subscriptTail value slice v u) (EP X pins σ Q) X.xe s
def MtR (X : Cx) (id : String) (r : V → List V → Hp → VK → Prop) : Prop :=
  ∀ (pins : List (Addr × Obj)) (s : Shared) (σ : St) (H : Hp) (x : V) (xs : List V) (v : Value) (us : List Value) (Q : VK), Inv X pins σ H s → RelV x v → Vals xs us → r x xs H Q →
    wpAny (model X.prog X.w) X.A (call (.builtin id) (v :: us)) (EP X pins σ Q) X.xe s
section
variable {X : Cx} {a b : Expr} {ta tb : TE} {pos : Pos}
theorem pe_ix {r : R2} (hr : IxR X r) (ha : PE X a ta) (hb : PE X b tb) (hs : PlainIx b) : PE X (.Subscript a b pos) (tOp r ta tb) := by
  intro pins s σ H Q I h
  exact Subscript_ (binT ha hb I h fun v u s2 x y H2 I2 rx ry q => hr a b pins s2 σ H2 x y v u Q I2 rx ry q (hs _ _))
def rIxL (K : PySem.W.Frag) : R2 := fun x y H Q => ∃ p xs i v, x = .ref p ∧ y = .int i ∧ SqL K H p xs ∧ atI xs i = some v ∧ Q v H
def rIxS : R2 := fun x y H Q => ∃ z i c, x = .str z ∧ y = .int i ∧ z.length ≤ sizeLine ∧ atI z.cps.toList i = some c ∧ Q (.str ⟨#[c]⟩) H
theorem ix_list : IxR X (rIxL X.K) := by
  intro value slice pins s σ H x y v u Q I rx ry h hs
  obtain ⟨p, xs, i, z, rfl, rfl, hq, he, q⟩ := h
  cases rx
  obtain ⟨t, rfl⟩ := ry
  obtain ⟨its, r, pl, hz⟩ := I.list hq
  obtain ⟨j, h1, h2, h3, h4, h5⟩ := atI_get he
  obtain ⟨w, ew, rw'⟩ := r.get h2
  have hl := r.length
  have hn := line63
  have fin : EP X pins σ Q w s := ⟨z, H, I, rw', q⟩
  by_cases h0 : 0 ≤ i
  · have hj : i.toNat = j := by
      rw [seqIndex_of h0 h5] at h1
      exact Option.some.inj h1
    exact item_listR pl.isList h0 (by omega) (by rw [hj]; simpa using ew) fin hs
  · have hj : (i + (its.toArray.size : Int)).toNat = j := by
      rw [seqIndex_neg (by omega) h4] at h1
      rw [List.size_toArray, ← hl]
      exact Option.some.inj h1
    exact subscriptTail_builtinR (x := w) pl.isList.typeIs slot_list_getitem.lookup
      (wpAny_getItem_list_neg (Q := fun r s' => r = w ∧ EP X pins σ Q r s') pl.isList (by omega) (by rw [List.size_toArray] <;> omega) (by omega) (by rw [hj]; simpa using ew) ⟨rfl, fin⟩) hs
theorem ix_str : IxR X rIxS := by
  intro value slice pins s σ H x y v u Q I rx ry h hs
  obtain ⟨z, i, c, rfl, rfl, hz, he, q⟩ := h
  obtain ⟨t, rfl⟩ := rx
  obtain ⟨t', rfl⟩ := ry
  obtain ⟨j, h1, h2, h3, h4, h5⟩ := atI_get he
  have hl : z.cps.toList.length = z.length := by simp [Str.length]
  rw [hl] at h1 h4 h5
  have hn := line63
  exact tail_any (typeIs_str s z t) slot_str_getitem.lookup (getItem_str (c := c) (by
    have e1 : decide (i < -(2 ^ 63 : Int)) = false := decide_eq_false (by omega)
    have e2 : decide (i ≥ 2 ^ 63) = false := decide_eq_false (by omega)
    rw [e1, e2, Bool.or_false]) (by rw [h1]; simpa using h2) ⟨.str ⟨#[c]⟩, H, I.tok _, ⟨_, rfl⟩, q⟩) hs
theorem Inv.lst {pins : List (Addr × Obj)} {σ : St} {H : Hp} {s : Shared} {p : Addr} {xs : List V} (I : Inv X pins σ H s) (h : H p = some (.lst xs)) :
    ∃ (its : List Value) (n : Nat), Vals xs its ∧ s.heap.get? p = some { cls := .type "list", data := .seq its.toArray n } ∧ xs.length ≤ sizeLine := by
  obtain ⟨z, its, n, r, e⟩ := I.hok p _ h
  exact ⟨its, n, r, e, z⟩
theorem slice_bounds (lo hi : Option Int) (n : Nat) : (sliceBounds lo hi none n).1 = ((HT.sIx n 0 lo : Nat) : Int) ∧ (sliceBounds lo hi none n).2.1 = ((HT.sIx n n hi : Nat) : Int) ∧ (sliceBounds lo hi none n).2.2 = 1 := by
  refine ⟨?_, ?_, rfl⟩
  · cases lo with
    | none => simp [sliceBounds, HT.sIx]
    | some i =>
      simp only [sliceBounds, HT.sIx, Option.getD_none, show (1 : Int) > 0 by decide, if_true]
      by_cases h : i < 0
      · simp only [h, if_true] <;> omega
      · simp only [h, if_false] <;> omega
  · cases hi with
    | none => simp [sliceBounds, HT.sIx]
    | some i =>
      simp only [sliceBounds, HT.sIx, Option.getD_none, show (1 : Int) > 0 by decide, if_true]
      by_cases h : i < 0
      · simp only [h, if_true] <;> omega
      · simp only [h, if_false] <;> omega
theorem slicePick_cut (its : List Value) (lo hi : Option Int) : slicePick its.toArray lo hi none = ((its.drop (HT.sIx its.length 0 lo)).take (HT.sIx its.length its.length hi - HT.sIx its.length 0 lo)).toArray := by
  obtain ⟨h1, h2, h3⟩ := slice_bounds lo hi its.toArray.size
  unfold slicePick
  rw [h1, h2, h3]
  simp only [sliceRange_one, pick_run, List.size_toArray] <;> rfl
def rSlL (K : PySem.W.Frag) : V → Option Int → Option Int → Hp → VK → Prop := fun x lo hi H Q => ∃ a xs, x = .ref a ∧ SqL K H a xs ∧ ∀ p, H p = none → Q (.ref p) (upd H p (.lst (cutV xs lo hi)))
theorem sl_list : SlR X (rSlL X.K) := by
  intro pins s σ H x v vl vu lo hi sl Q I rx hs pl pu h
  obtain ⟨a, xs, rfl, hx, q⟩ := h
  cases rx
  obtain ⟨its, r, ht, hz⟩ := I.list hx
  have hlen := r.length
  refine ⟨"list", _, slot_list_getitem.lookup, ht.isList.typeIs, ?_⟩
  refine wpAny_getItem_list_slice ht.isList hs pl pu .none (by simp) ?_ (by rw [List.size_toArray] <;> omega)
  rw [slicePick_cut, ← hlen]
  refine ⟨.ref s.heap.objs.size, _, I.laid (t' := s.toks) (o := .lst (cutV xs lo hi)) (fun b ob q => Heap.get?_push_of_some _ q) (Nat.le_refl _) ?_, rfl, q _ (I.hok.fresh (Nat.le_refl _))⟩
  exact ⟨Nat.le_trans (cutV_length xs lo hi) hz, _, 0, (r.drop (HT.sIx xs.length 0 lo)).take (HT.sIx xs.length xs.length hi - HT.sIx xs.length 0 lo), Heap.get?_push_size _ rfl⟩
def flatV : V → Bool
  | .non => true
  | .bl _ => true
  | .int _ => true
  | .str _ => true
  | _ => false
def eqV : V → V → Bool
  | .non, .non => true
  | .bl a, .bl b => a == b
  | .bl a, .int b => (if a then 1 else 0) == b
  | .int a, .bl b => a == (if b then 1 else 0)
  | .int a, .int b => a == b
  | .str a, .str b => a == b
  | _, _ => false
theorem eqAt_V {A : Around} {s : Shared} {y x : V} {u v : Value} (ry : RelV y u) (rx : RelV x v) (fy : flatV y = true) (fx : flatV x = true) : SeqAt.EqAt A s u v (eqV y x) := by
  cases y with
  | non =>
    cases ry
    cases x with
    | non => cases rx; exact SeqAt.EqAt.same _
    | bl b => cases rx; exact SeqAt.EqAt.none_bool b
    | int b => obtain ⟨t, rfl⟩ := rx; exact SeqAt.EqAt.none_int b t
    | str b => obtain ⟨t, rfl⟩ := rx; exact SeqAt.EqAt.none_str b t
    | _ => exact absurd (show false = true from fx) Bool.false_ne_true
  | bl a =>
    cases ry
    cases x with
    | non => cases rx; exact SeqAt.EqAt.bool_none a
    | bl b => cases rx; exact SeqAt.EqAt.bool_bool a b
    | int b => obtain ⟨t, rfl⟩ := rx; exact SeqAt.EqAt.bool_int a b t
    | str b => obtain ⟨t, rfl⟩ := rx; exact SeqAt.EqAt.bool_str a b t
    | _ => exact absurd (show false = true from fx) Bool.false_ne_true
  | int a =>
    obtain ⟨t', rfl⟩ := ry
    cases x with
    | non => cases rx; exact SeqAt.EqAt.int_none a t'
    | bl b => cases rx; exact SeqAt.EqAt.int_bool a t' b
    | int b => obtain ⟨t, rfl⟩ := rx; exact SeqAt.EqAt.int_int a t' b t
    | str b => obtain ⟨t, rfl⟩ := rx; exact SeqAt.EqAt.int_str a t' b t
    | _ => exact absurd (show false = true from fx) Bool.false_ne_true
  | str a =>
    obtain ⟨t', rfl⟩ := ry
    cases x with
    | non => cases rx; exact SeqAt.EqAt.str_none a t'
    | bl b => cases rx; exact SeqAt.EqAt.str_bool a t' b
    | int b => obtain ⟨t, rfl⟩ := rx; exact SeqAt.EqAt.str_int a t' b t
    | str b => obtain ⟨t, rfl⟩ := rx; exact SeqAt.EqAt.str_str a t' b t
    | _ => exact absurd (show false = true from fx) Bool.false_ne_true
  | _ => exact absurd (show false = true from fy) Bool.false_ne_true
def eqU (x : V) (u : Value) : Bool := match u with
  | .none => eqV .non x
  | .bool b => eqV (.bl b) x
  | .int i _ => eqV (.int i) x
  | .str z _ => eqV (.str z) x
  | _ => false
theorem eqU_of {x y : V} {u : Value} (r : RelV y u) (f : flatV y = true) : eqU x u = eqV y x := by
  cases y with
  | non => cases r; rfl
  | bl b => cases r; rfl
  | int i => obtain ⟨t, rfl⟩ := r; rfl
  | str z => obtain ⟨t, rfl⟩ := r; rfl
  | _ => exact absurd (show false = true from f) Bool.false_ne_true
theorem any_eqU {x : V} : ∀ {xs : List V} {us : List Value}, Vals xs us → xs.all flatV = true → us.any (eqU x) = xs.any fun y => eqV y x
  | _, _, .nil, _ => rfl
  | y :: xs, u :: us, .cons r t, f => by
    rw [List.all_cons, Bool.and_eq_true] at f
    rw [List.any_cons, List.any_cons, eqU_of r f.1, any_eqU t f.2]
theorem mem_eqAt {A : Around} {s : Shared} {x : V} {v : Value} (rx : RelV x v) (fx : flatV x = true) : ∀ {xs : List V} {us : List Value}, Vals xs us → xs.all flatV = true → ∀ u ∈ us, SeqAt.EqAt A s u v (eqU x u)
  | _, _, .nil, _ => fun u hu => by cases hu
  | y :: xs, u :: us, .cons r t, f => fun u' hu => by
    rw [List.all_cons, Bool.and_eq_true] at f
    rcases List.mem_cons.mp hu with rfl | hu
    · rw [eqU_of r f.1]; exact eqAt_V r rx f.1 fx
    · exact mem_eqAt rx fx t f.2 u' hu
def inV (x : V) (xs : List V) : Bool := xs.any fun y => eqV y x
def rIn (K : PySem.W.Frag) (neg : Bool) : R2 := fun x y H Q => ∃ p xs, y = .ref p ∧ (SqL K H p xs ∨ SqT K H p xs) ∧ flatV x = true ∧ xs.all flatV = true ∧ Q (.bl (if neg then !inV x xs else inV x xs)) H
theorem op_notIn_seq : OpR X (compareOp .NotIn) (rIn X.K true) := by
  intro pins s σ H x y v u Q I rx ry h
  obtain ⟨p, xs, rfl, hq, fx, fs, q⟩ := h
  cases ry
  rcases hq with hq | hq
  · obtain ⟨its, r, pl, hz⟩ := I.list hq
    refine SeqAt.notIn_listAt (eqU x) pl.isList (fun w hw => mem_eqAt rx fx r fs w (by simpa using hw)) ⟨.bl _, H, I, rfl, ?_⟩
    rw [show its.toArray.any (eqU x) = its.any (eqU x) by simp, any_eqU r fs]
    exact q
  · obtain ⟨its, r, pl, hz⟩ := I.tuple hq
    refine SeqAt.notIn_tupleAt (eqU x) pl (fun w hw => mem_eqAt rx fx r fs w (by simpa using hw)) ⟨.bl _, H, I, rfl, ?_⟩
    rw [show its.toArray.any (eqU x) = its.any (eqU x) by simp, any_eqU r fs]
    exact q
theorem call_list_of : CallR X (.type "list") (fun xs H Q => ∃ p ys, xs = [.ref p] ∧ (SqL X.K H p ys ∨ SqT X.K H p ys) ∧ ∀ l, H l = none → Q (.ref l) (upd H l (.lst ys))) := by
  intro pins s σ H xs us Q I r h
  obtain ⟨p, ys, rfl, hq, q⟩ := h
  obtain ⟨u, rfl, rx⟩ := vals1 r
  cases rx
  have fin : ∀ (its : List Value), Vals ys its → ys.length ≤ sizeLine → ∀ (h' : Heap) (c' : Nat), (∀ b o', s.heap.get? b = some o' → h'.get? b = some o') →
      h'.get? s.heap.objs.size = some { cls := .type "list", dict := none, data := .seq its.toArray c', slots := #[] } → EP X pins σ Q (.ref s.heap.objs.size) { s with heap := h' } := fun its r' hz h' c' kp e =>
    ⟨.ref s.heap.objs.size, _, I.laid (t' := s.toks) kp (Nat.le_refl _) (show ObjOk X.prog X.w _ h' _ (.lst ys) from ⟨hz, its, c', r', e⟩), rfl, q _ (I.hok.fresh (Nat.le_refl _))⟩
  rcases hq with hq | hq
  · obtain ⟨its, r', pl, hz⟩ := I.list hq
    have hlen := r'.length
    obtain ⟨o, ho, hc, n, hd⟩ := pl.isList
    exact call_list_seq p (.inl rfl) ho hc hd (fun h' c' kp e => fin its r' hz h' c' kp e) (by simp only [List.size_toArray] <;> omega)
  · obtain ⟨its, r', pl, hz⟩ := I.tuple hq
    have hlen := r'.length
    obtain ⟨o, ho, hc, n, hd⟩ := pl
    exact call_list_seq p (.inr rfl) ho hc hd (fun h' c' kp e => fin its r' hz h' c' kp e) (by simp only [List.size_toArray] <;> omega)
def tyV (K : PySem.W.Frag) (T : String) (x : V) (H : Hp) : Prop := match x with
  | .str _ => T = "str"
  | .int _ => T = "int"
  | .ref p => (T = "list" ∧ ∃ xs, SqL K H p xs) ∨ (T = "tuple" ∧ ∃ o, K.lookup p = some o ∧ o.cls = .type "tuple" ∧ o.dict = none) ∨
      (T = "dict" ∧ ((∃ kvs, H p = some (.dK kvs)) ∨ ∃ kvs, H p = some (.dT kvs))) ∨ (T = "set" ∧ ∃ S n, H p = some (.set S n))
  | _ => False
theorem tyV_is {pins : List (Addr × Obj)} {σ : St} {H : Hp} {s : Shared} {T : String} {x : V} {v : Value} (I : Inv X pins σ H s) (r : RelV x v) (ty : tyV X.K T x H) :
    s.TypeIs v T ∧ ∀ a, v = .ref a → ∃ ob, s.heap.get? a = some ob ∧ ob.dict = none := by
  cases x with
  | str z =>
    obtain ⟨t, rfl⟩ := r
    cases (show T = "str" from ty)
    exact ⟨typeIs_str s z t, fun _ e => nomatch e⟩
  | int i =>
    obtain ⟨t, rfl⟩ := r
    cases (show T = "int" from ty)
    exact ⟨typeIs_int s i t, fun _ e => nomatch e⟩
  | ref p =>
    cases r
    rcases ty with ⟨rfl, xs, hq⟩ | ⟨rfl, o, hk, hc, hd⟩ | ⟨rfl, hk⟩ | ⟨rfl, S, n, hk⟩
    · obtain ⟨its, _, pl, _⟩ := I.list hq
      refine ⟨pl.isList.typeIs, fun a e => ?_⟩
      cases e
      obtain ⟨o, n, e, c, hd, _⟩ := pl
      exact ⟨o, e, hd⟩
    · refine ⟨⟨o, I.kIn p o hk, hc⟩, fun a e => ?_⟩
      cases e
      exact ⟨o, I.kIn _ o hk, hd⟩
    · have z : ∃ o, s.heap.get? p = some o ∧ o.ExactDict := by
        rcases hk with ⟨kvs, hk⟩ | ⟨kvs, hk⟩
        · obtain ⟨_, _, _, _, o, _, _, e, ex, _⟩ := I.hok p _ hk
          exact ⟨o, e, ex⟩
        · obtain ⟨_, _, _, _, o, _, _, e, ex, _⟩ := I.hok p _ hk
          exact ⟨o, e, ex⟩
      obtain ⟨o, e, ex⟩ := z
      refine ⟨⟨o, e, ex.1⟩, fun a e2 => ?_⟩
      cases e2
      exact ⟨o, e, ex.2.1⟩
    · obtain ⟨o, _, _, _, e, ex, _⟩ := I.hok p _ hk
      refine ⟨⟨o, e, ex.1⟩, fun a e2 => ?_⟩
      cases e2
      exact ⟨o, e, ex.2.1⟩
  | _ => exact False.elim ty
def tBM (K : PySem.W.Frag) (T : String) (r : V → List V → Hp → VK → Prop) (to : TE) (t : TA) : TE := fun σ H Q => to σ H fun x H1 => tyV K T x H1 ∧ t σ H1 fun xs H2 => r x xs H2 Q
variable {o e : Expr} {es : List Expr} {to : TE} {t : TA} {name : Str} {apos cpos : Pos} {T id : String} {r : V → List V → Hp → VK → Prop}
theorem pe_bm (pa : PlainAttrs T) (slot : Slot T name id) (hty : typeOf (.builtin id) = pure (.type "method_descriptor")) (hm : MtR X id r) (ho : PE X o to) (ha : PA X (e :: es) t)
    (hbase : attributeBase o name X.env (eval o X.env) = eval o X.env := by rfl)
    (hfew : ((backTo cpos (starEach (e :: es) X.env)).all (fun x => !x.1) && (backToKw cpos (keywordEach [] X.env)).all (fun x => x.1.isSome)
      && decide ((e :: es).length + ([] : List Keyword).length + (if ([] : List Keyword).isEmpty then 0 else 1) < 30)) = true := by rfl)
    (hline : (apos.endLine == cpos.line) = true := by rfl) (hs : starEach (e :: es) X.env = (false, eval e X.env) :: starEach es X.env := by rfl) (hplain : (backTo cpos (starEach es X.env)).any (·.1) = false := by rfl) :
    PE X (.Call (.Attribute o name apos) (e :: es) [] cpos) (tBM X.K T r to t) := by
  intro pins s σ H Q I h
  refine wpAny_Call_method_late hbase hfew hline rfl (thn (ho pins s σ H _ I h) fun v s1 ⟨x, H1, I1, r1, ty, q1⟩ => ?_)
  obtain ⟨h1, h2⟩ := tyV_is I1 r1 ty
  refine ⟨T, id, pa, slot, hty, h1, h2, ?_⟩
  have hA := ha cpos pins s1 σ H1 _ I1 q1
  rw [hs] at hA ⊢
  refine Calls.callWith_builtin (by show (false || (backTo cpos (starEach es X.env)).any (·.1)) = false; rw [hplain] <;> rfl) (Calls.evalArgs_plain ?_)
  exact thn hA fun us s2 ⟨vs, H2, I2, r2, q2⟩ => hm pins s2 σ H2 x vs v us Q I2 r1 r2 q2
end
end L2
namespace L2
open PySem PySem.Spec PyProof.Rows
def MtM (X : Cx) (id : String) (r : V → List V → Hp → VK → Prop) : Prop :=
  ∀ (pins : List (Addr × Obj)) (s : Shared) (σ : St) (H : Hp) (x : V) (xs : List V) (v : Value) (us : List Value) (Q : VK), Inv X pins σ H s → RelV x v → Vals xs us → r x xs H Q →
    wpAny (model X.prog X.w) X.A (call (.builtin id) (v :: us)) (EP X pins σ Q) X.xe s
theorem Vals.one : ∀ {x : V} {us : List Value}, Vals [x] us → ∃ u, us = [u] ∧ RelV x u
  | _, _, .cons r .nil => ⟨_, rfl, r⟩
theorem Vals.two : ∀ {x y : V} {us : List Value}, Vals [x, y] us → ∃ u v, us = [u, v] ∧ RelV x u ∧ RelV y v
  | _, _, _, .cons r (.cons q .nil) => ⟨_, _, rfl, r, q⟩
theorem Vals.zero : ∀ {us : List Value}, Vals [] us → us = []
  | _, .nil => rfl
theorem Vals.eraseIdx : ∀ {xs : List V} {us : List Value} (i : Nat), Vals xs us → Vals (xs.eraseIdx i) (us.eraseIdx i)
  | _, _, _, .nil => .nil
  | _, _, 0, .cons _ t => t
  | _, _, i + 1, .cons r t => .cons r (Vals.eraseIdx i t)
theorem Vals.reverse {xs : List V} {us : List Value} (h : Vals xs us) : Vals xs.reverse us.reverse := by
  induction h with
  | nil => exact .nil
  | cons r t ih => rw [List.reverse_cons, List.reverse_cons]; exact Vals.append ih (.cons r .nil)
theorem len_erase {α : Type} : ∀ (l : List α) (i : Nat), (l.eraseIdx i).length ≤ l.length
  | [], _ => Nat.le_refl _
  | _ :: _, 0 => Nat.le_succ _
  | _ :: r, i + 1 => Nat.succ_le_succ (len_erase r i)
section
variable {X : Cx} {pins : List (Addr × Obj)} {σ : St} {H : Hp} {s : Shared} {l b : Addr} {xs ys zs : List V}
theorem Inv.lset {its its' : List Value} {n : Nat} {f : Array Value → Array Value} {t' : Nat} (I : Inv X pins σ H s) (hH : H l = some (.lst xs))
    (e : s.heap.get? l = some { cls := .type "list", data := .seq its.toArray n }) (hf : f its.toArray = its'.toArray) (hv : Vals ys its') (hz : ys.length ≤ sizeLine) :
    Inv X pins σ (upd H l (.lst ys)) { s with heap := s.heap.update l (Obj.mapSeq f), toks := t' } := by
  have q := PySem.IsL.update e f
  rw [hf] at q
  refine I.write (x := l) (e := l) (by rw [hH]; exact trivial) (.inl rfl) (fun b' u hb hu => (Heap.get?_update_other s.heap (Obj.mapSeq f) (Ne.symm hb)).trans hu) ⟨_, q⟩ ?_
  exact ⟨hz, its', _, hv, q⟩
theorem Inv.lnew {its : List Value} {t' : Nat} (I : Inv X pins σ H s) (hv : Vals ys its) (hz : ys.length ≤ sizeLine) :
    Inv X pins σ (upd H s.heap.objs.size (.lst ys)) { s with heap := s.heap.push { cls := .type "list", data := .seq its.toArray }, toks := t' } :=
  I.laid (fun _ _ q => Heap.get?_push_of_some _ q) (Nat.le_refl _) ⟨hz, its, 0, hv, Heap.get?_push_size _ rfl⟩
theorem Inv.fresh (I : Inv X pins σ H s) : H s.heap.objs.size = none := I.hok.fresh (Nat.le_refl _)
theorem Inv.lstM (I : Inv X pins σ H s) (hH : H l = some (.lst xs)) : xs.length ≤ sizeLine ∧ ∃ (its : List Value) (n : Nat), Vals xs its ∧ xs.length = its.length ∧ s.heap.get? l = some { cls := .type "list", data := .seq its.toArray n } := by
  obtain ⟨z, its, n, r, e⟩ := I.hok l _ hH
  exact ⟨z, its, n, r, r.length, e⟩
theorem notLongL {n : Nat} (h : n ≤ sizeLine) : Builtin.List.listTooLong n = false := by
  unfold Builtin.List.listTooLong
  exact decide_eq_false (by omega)
end
section
variable {X : Cx}
def rAppend : V → List V → Hp → VK → Prop := fun x vs H Q => ∃ l xs y, x = .ref l ∧ vs = [y] ∧ H l = some (.lst xs) ∧ xs.length < sizeLine ∧ Q .non (upd H l (.lst (xs ++ [y])))
theorem mt_append : MtM X "list.append" rAppend := by
  intro pins s σ H x vs v us Q I rx rv h
  obtain ⟨l, xs, y, rfl, rfl, hH, hz, q⟩ := h
  cases rx
  obtain ⟨u, rfl, ru⟩ := rv.one
  obtain ⟨z, its, n, r, hl, e⟩ := I.lstM hH
  refine call_meets F.slot_list_append ⟨_, e, rfl⟩ F.entry_list_append (F.args_list_append_2 _ _) (PySem.list_append l its.toArray n u (by rw [List.size_toArray]; omega)) ⟨e, ?_⟩
  refine ⟨.non, _, I.lset (its' := its ++ [u]) hH e (by simp) (r.append (.cons ru .nil)) ?_, rfl, q⟩
  rw [List.length_append, List.length_singleton]
  omega
def rExtend : V → List V → Hp → VK → Prop := fun x vs H Q => ∃ l b xs zs, x = .ref l ∧ vs = [.ref b] ∧ H l = some (.lst xs) ∧ H b = some (.lst zs) ∧ xs.length + zs.length ≤ sizeLine ∧ Q .non (upd H l (.lst (xs ++ zs)))
theorem mt_extend : MtM X "list.extend" rExtend := by
  intro pins s σ H x vs v us Q I rx rv h
  obtain ⟨l, b, xs, zs, rfl, rfl, hH, hB, hz, q⟩ := h
  cases rx
  obtain ⟨u, rfl, ru⟩ := rv.one
  cases ru
  obtain ⟨z, its, n, r, hl, e⟩ := I.lstM hH
  obtain ⟨z2, its2, n2, r2, hl2, e2⟩ := I.lstM hB
  have hsz : its.toArray.size + its2.toArray.size ≤ sizeLine := by rw [List.size_toArray, List.size_toArray]; omega
  have hlong : ¬ (!its.toArray.isEmpty && Builtin.List.listTooLong (its.toArray.size + its2.toArray.size)) = true := by
    rw [notLongL hsz, Bool.and_false]
    exact Bool.false_ne_true
  refine call_meets F.slot_list_extend ⟨_, e, rfl⟩ F.entry_list_extend (F.args_list_extend_2 _ _)
    (AutoSeq1.list_extend_list_list_0 l its.toArray n b its2.toArray n2 hlong (by rw [List.size_toArray]; omega) (by omega)) ⟨e, e2, ?_⟩
  refine ⟨.non, _, I.lset (its' := its ++ its2) hH e (by simp) (r.append r2) ?_, rfl, q⟩
  rw [List.length_append]
  omega
def rPopAt : V → List V → Hp → VK → Prop := fun x vs H Q => ∃ l xs i k y, x = .ref l ∧ vs = [.int i] ∧ H l = some (.lst xs) ∧ -(2 ^ 63) ≤ i ∧ i < 2 ^ 63 ∧ seqIndex? i xs.length = some k ∧ xs[k]? = some y ∧ Q y (upd H l (.lst (xs.eraseIdx k)))
theorem mt_popAt : MtM X "list.pop" rPopAt := by
  intro pins s σ H x vs v us Q I rx rv h
  obtain ⟨l, xs, i, k, y, rfl, rfl, hH, h1, h2, hk, hy, q⟩ := h
  cases rx
  obtain ⟨u, rfl, ru⟩ := rv.one
  obtain ⟨t, rfl⟩ := ru
  obtain ⟨z, its, n, r, hl, e⟩ := I.lstM hH
  obtain ⟨w, hw, rw'⟩ := r.get hy
  refine call_meets F.slot_list_pop ⟨_, e, rfl⟩ F.entry_list_pop (F.args_list_pop_2 _ _)
    (MeetsSeq.list_pop_at l its.toArray n i t k w (fitsIndex_both h1 h2) (by rw [List.size_toArray, ← hl]; exact hk) (by rw [← Array.getElem?_toList]; exact hw) (by rw [List.size_toArray]; omega)) ⟨e, ?_⟩
  refine ⟨y, _, I.lset (its' := its.eraseIdx k) hH e ?_ (r.eraseIdx k) ?_, rw', q⟩
  · show its.toArray.eraseIdxIfInBounds k = (its.eraseIdx k).toArray
    rw [List.eraseIdxIfInBounds_toArray]
  · have := len_erase xs k
    omega
def rCat : R2 := fun x y H Q => ∃ l b xs zs, x = .ref l ∧ y = .ref b ∧ H l = some (.lst xs) ∧ H b = some (.lst zs) ∧ xs.length + zs.length ≤ sizeLine ∧ ∀ p, H p = none → Q (.ref p) (upd H p (.lst (xs ++ zs)))
theorem op_cat : OpR X (binaryOp .Add) rCat := by
  intro pins s σ H x y v u Q I rx ry h
  obtain ⟨l, b, xs, zs, rfl, rfl, hH, hB, hz, q⟩ := h
  cases rx
  cases ry
  obtain ⟨z, its, n, r, hl, e⟩ := I.lstM hH
  obtain ⟨z2, its2, n2, r2, hl2, e2⟩ := I.lstM hB
  refine PySem.P.add_list e e2 ?_ (by rw [List.size_toArray, List.size_toArray]; omega)
  have ea : its.toArray ++ its2.toArray = (its ++ its2).toArray := by simp
  rw [ea]
  exact ⟨.ref _, _, I.lnew (t' := s.toks) (r.append r2) (by rw [List.length_append]; omega), rfl, q _ I.fresh⟩
end
section
variable {prog : Program} {w : World} {A : Around} {E : Value → Shared → Prop} {s : Shared}
end
section
variable {X : Cx}
end
end L2
namespace L2
open PySem PySem.Spec PyProof.Rows
section
variable {κ : Type} [DecidableEq κ]
def valV (kvs : List (κ × V)) (k : κ) : Option V := (kvs.find? fun kv => decide (kv.1 = k)).map (·.2)
def putK (kvs : List (κ × V)) (k : κ) (v : V) : List (κ × V) :=
  if (kvs.any fun kv => decide (kv.1 = k)) = true then kvs.map (fun kv => if kv.1 = k then (kv.1, v) else kv) else kvs ++ [(k, v)]
def dropK (kvs : List (κ × V)) (k : κ) : List (κ × V) := kvs.filter fun kv => decide (kv.1 ≠ k)
theorem valV_pos {p : κ × V} {r : List (κ × V)} {k : κ} (e : p.1 = k) : valV (p :: r) k = some p.2 := by simp [valV, List.find?_cons, e]
theorem valV_neg {p : κ × V} {r : List (κ × V)} {k : κ} (e : ¬ p.1 = k) : valV (p :: r) k = valV r k := by simp [valV, List.find?_cons, e]
theorem valV_any (k : κ) : ∀ kvs : List (κ × V), (kvs.any fun kv => decide (kv.1 = k)) = (valV kvs k).isSome
  | [] => rfl
  | p :: r => by
    rw [List.any_cons]
    by_cases e : p.1 = k
    · simp only [valV_pos e, decide_eq_true e, Bool.true_or, Option.isSome_some]
    · rw [valV_neg e, decide_eq_false e, Bool.false_or]; exact valV_any k r
theorem valV_map (k j : κ) (y : V) : ∀ kvs : List (κ × V), valV (kvs.map fun kv => if kv.1 = k then (kv.1, y) else kv) j = (valV kvs j).map fun x => if j = k then y else x
  | [] => rfl
  | p :: r => by
    have ih := valV_map k j y r
    rw [List.map_cons]
    by_cases h : p.1 = k
    · rw [if_pos h]
      by_cases e : p.1 = j
      · rw [valV_pos (p := (p.1, y)) e, valV_pos e, Option.map_some, if_pos (e.symm.trans h)]
      · rw [valV_neg (p := (p.1, y)) e, valV_neg e, ih]
    · rw [if_neg h]
      by_cases e : p.1 = j
      · rw [valV_pos (p := p) e, valV_pos e, Option.map_some, if_neg (fun z => h (e.trans z))]
      · rw [valV_neg (p := p) e, valV_neg e, ih]
theorem valV_snoc (k j : κ) (y : V) : ∀ kvs : List (κ × V), valV kvs k = none → valV (kvs ++ [(k, y)]) j = if j = k then some y else valV kvs j
  | [], _ => by
    by_cases e : k = j
    · rw [if_pos e.symm]; exact valV_pos (p := (k, y)) e
    · rw [if_neg (fun z => e z.symm)]; exact valV_neg (p := (k, y)) e
  | p :: r, hn => by
    rw [List.cons_append]
    have hk : ¬ p.1 = k := fun z => by rw [valV_pos z] at hn; cases hn
    rw [valV_neg hk] at hn
    have ih := valV_snoc k j y r hn
    by_cases e : p.1 = j
    · rw [valV_pos e, valV_pos e, if_neg (fun z => hk (e.trans z))]
    · rw [valV_neg e, valV_neg e, ih]
theorem valV_put (kvs : List (κ × V)) (k j : κ) (y : V) : valV (putK kvs k y) j = if j = k then some y else valV kvs j := by
  unfold putK
  by_cases a : (kvs.any fun kv => decide (kv.1 = k)) = true
  · rw [if_pos a, valV_map]
    rw [valV_any] at a
    by_cases e : j = k
    · obtain ⟨x, hx⟩ := Option.isSome_iff_exists.mp a
      rw [if_pos e, e, hx, Option.map_some, if_pos rfl]
    · rw [if_neg e]
      cases valV kvs j with
      | none => rfl
      | some x => rw [Option.map_some, if_neg e]
  · rw [if_neg a]
    refine valV_snoc k j y kvs ?_
    rw [valV_any] at a
    cases q : valV kvs k with
    | none => rfl
    | some x => rw [q] at a; exact (a rfl).elim
theorem length_putK (kvs : List (κ × V)) (k : κ) (v : V) : (putK kvs k v).length ≤ kvs.length + 1 := by
  unfold putK
  split
  · rw [List.length_map]; omega
  · rw [List.length_append, List.length_cons, List.length_nil]; omega
theorem RelO.isSome_eq {o : Option V} {u : Option Value} (r : RelO o u) : o.isSome = u.isSome := by
  cases o with
  | none => cases u with
    | none => rfl
    | some _ => exact (show False from r).elim
  | some _ => cases u with
    | none => exact (show False from r).elim
    | some _ => rfl
theorem RelO.getD {o : Option V} {u : Option Value} {d : V} {d' : Value} (r : RelO o u) (rd : RelV d d') : RelV (o.getD d) (u.getD d') := by
  cases o with
  | none => cases u with
    | none => exact rd
    | some _ => exact (show False from r).elim
  | some _ => cases u with
    | none => exact (show False from r).elim
    | some _ => exact r
theorem KV.val {kvs : List (κ × V)} {vs : List (κ × Value)} (r : KV kvs vs) (k : κ) : RelO (valV kvs k) (valueAt vs k) := by
  unfold KV at r
  induction r with
  | nil => exact True.intro
  | @cons p q ps qs h t ih =>
    obtain ⟨h1, h2⟩ := h
    by_cases e : p.1 = k
    · have e' : q.1 = k := h1.symm.trans e
      have b : valueAt (q :: qs) k = some q.2 := by simp [valueAt, List.find?_cons, e']
      rw [valV_pos e, b]; exact h2
    · have e' : ¬ q.1 = k := fun z => e (h1.trans z)
      have b : valueAt (q :: qs) k = valueAt qs k := by simp [valueAt, List.find?_cons, e']
      rw [valV_neg e, b]; exact ih
theorem KV.any {kvs : List (κ × V)} {vs : List (κ × Value)} (r : KV kvs vs) (k : κ) : (kvs.any fun kv => decide (kv.1 = k)) = vs.any fun kv => decide (kv.1 = k) := by
  unfold KV at r
  induction r with
  | nil => rfl
  | cons h t ih => rw [List.any_cons, List.any_cons, ih, h.1]
theorem KV.repl {kvs : List (κ × V)} {vs : List (κ × Value)} (r : KV kvs vs) (k : κ) {y : V} {u : Value} (ry : RelV y u) :
    KV (kvs.map fun kv => if kv.1 = k then (kv.1, y) else kv) (vs.map fun kv => if kv.1 = k then (kv.1, u) else kv) := by
  unfold KV at r ⊢
  induction r with
  | nil => exact .nil
  | @cons p q ps qs h t ih =>
    rw [List.map_cons, List.map_cons]
    refine .cons ?_ ih
    obtain ⟨h1, h2⟩ := h
    by_cases e : p.1 = k
    · rw [if_pos e, if_pos (h1.symm.trans e)]; exact ⟨h1, ry⟩
    · rw [if_neg e, if_neg (fun z => e (h1.trans z))]; exact ⟨h1, h2⟩
theorem KV.put {kvs : List (κ × V)} {vs : List (κ × Value)} (r : KV kvs vs) (k : κ) {y : V} {u : Value} (ry : RelV y u) : KV (putK kvs k y) (stored vs k u) := by
  unfold putK stored
  rw [r.any k]
  by_cases e : (vs.any fun kv => decide (kv.1 = k)) = true
  · rw [if_pos e, if_pos e]; exact r.repl k ry
  · rw [if_neg e, if_neg e]; exact Paired.snoc r ⟨rfl, ry⟩
theorem KV.drop {kvs : List (κ × V)} {vs : List (κ × Value)} (r : KV kvs vs) (k : κ) : KV (dropK kvs k) (without vs k) := by
  unfold KV at r ⊢
  unfold dropK without
  induction r with
  | nil => exact .nil
  | @cons p q ps qs h t ih =>
    obtain ⟨h1, h2⟩ := h
    rw [List.filter_cons, List.filter_cons]
    by_cases e : p.1 = k
    · have a : ¬ decide (p.1 ≠ k) = true := by simp [e]
      have b : ¬ decide (q.1 ≠ k) = true := by simp [h1.symm.trans e]
      rw [if_neg a, if_neg b]; exact ih
    · have e' : ¬ q.1 = k := fun z => e (h1.trans z)
      have a : decide (p.1 ≠ k) = true := by simp [e]
      have b : decide (q.1 ≠ k) = true := by simp [e']
      rw [if_pos a, if_pos b]; exact .cons ⟨h1, h2⟩ ih
theorem KV.keys {kvs : List (κ × V)} {vs : List (κ × Value)} (r : KV kvs vs) : kvs.map (·.1) = vs.map (·.1) := by
  unfold KV at r
  induction r with
  | nil => rfl
  | cons h t ih => rw [List.map_cons, List.map_cons, ih, h.1]
theorem KV.length {kvs : List (κ × V)} {vs : List (κ × Value)} (r : KV kvs vs) : kvs.length = vs.length := Paired.length r
theorem dropK_le (kvs : List (κ × V)) (k : κ) : (dropK kvs k).length ≤ kvs.length := List.length_filter_le _ _
end
theorem kV_is {P : Program} {w : World} {k : Key} {u : Value} (r : RelV (kV k) u) : (mixKind P w).is k u = true := by
  cases k with
  | inl i => obtain ⟨t, e⟩ := (show ∃ t, u = Value.int i t from r); subst e; exact mixKind_int P w i t
  | inr x => obtain ⟨t, e⟩ := (show ∃ t, u = Value.str x t from r); subst e; exact mixKind_str P w x t
theorem kV_inj {a b : Key} (e : kV a = kV b) : a = b := by
  cases a with
  | inl i => cases b with
    | inl j => have e' : V.int i = V.int j := e; injection e' with e'; rw [e']
    | inr y => exact nomatch (show V.int i = V.str y from e)
  | inr x => cases b with
    | inl j => exact nomatch (show V.str x = V.int j from e)
    | inr y => have e' : V.str x = V.str y := e; injection e' with e'; rw [e']
theorem items_are {P : Program} {w : World} : ∀ {ks : List Key} {us : List Value}, Vals (ks.map kV) us → ItemsAre (mixKind P w) ks us
  | [], _, r => by rw [List.map_nil] at r; cases r; exact .nil
  | k :: ks, _, r => by
    rw [List.map_cons] at r
    cases r with
    | cons h t => exact .cons (kV_is h) (items_are t)
abbrev KT (H : Hp) : List (List Key × V) → List (List Key × Addr × Value) → Prop := Paired fun p q => p.1 = q.1 ∧ H q.2.1 = some (.tup (p.1.map kV)) ∧ RelV p.2 q.2.2
theorem KT.val {H : Hp} {kvs : List (List Key × V)} {xs : List (List Key × Addr × Value)} (r : KT H kvs xs) (k : List Key) : RelO (valV kvs k) ((atKey xs k).map (·.2)) := by
  induction r with
  | nil => exact True.intro
  | @cons p q ps qs h t ih =>
    obtain ⟨h1, _, h2⟩ := h
    by_cases e : p.1 = k
    · have e' : q.1 = k := h1.symm.trans e
      have b : atKey (q :: qs) k = some q.2 := by simp [atKey, List.find?_cons, e']
      rw [valV_pos e, b]; exact h2
    · have e' : ¬ q.1 = k := fun z => e (h1.trans z)
      have b : atKey (q :: qs) k = atKey qs k := by simp [atKey, List.find?_cons, e']
      rw [valV_neg e, b]; exact ih
theorem KT.repl {H : Hp} {kvs : List (List Key × V)} {xs : List (List Key × Addr × Value)} (r : KT H kvs xs) (k : List Key) {y : V} {u : Value} (ry : RelV y u) :
    KT H (kvs.map fun kv => if kv.1 = k then (kv.1, y) else kv) (xs.map (putAt k u)) := by
  induction r with
  | nil => exact .nil
  | @cons p q ps qs h t ih =>
    rw [List.map_cons, List.map_cons]
    refine .cons ?_ ih
    obtain ⟨h1, h2, h3⟩ := h
    unfold putAt
    by_cases e : p.1 = k
    · rw [if_pos e, if_pos (h1.symm.trans e)]; exact ⟨h1, h2, ry⟩
    · rw [if_neg e, if_neg (fun z => e (h1.trans z))]; exact ⟨h1, h2, h3⟩
theorem KT.put {H : Hp} {kvs : List (List Key × V)} {xs : List (List Key × Addr × Value)} (r : KT H kvs xs) (k : List Key) {b : Addr} {y : V} {u : Value} (hb : H b = some (.tup (k.map kV))) (ry : RelV y u) :
    KT H (putK kvs k y) (storedH xs k b u) := by
  have e : (kvs.any fun kv => decide (kv.1 = k)) = (atKey xs k).isSome := by
    rw [valV_any, (r.val k).isSome_eq, Option.isSome_map]
  unfold putK storedH
  rw [e]
  by_cases q : (atKey xs k).isSome = true
  · rw [if_pos q, if_pos q]; exact r.repl k ry
  · rw [if_neg q, if_neg q]; exact Paired.snoc r ⟨rfl, hb, ry⟩
theorem KT.keeps {H H' : Hp} {kvs : List (List Key × V)} {xs : List (List Key × Addr × Value)} (r : KT H kvs xs) (ht : ∀ b ys, H b = some (.tup ys) → H' b = some (.tup ys)) : KT H' kvs xs :=
  Paired.mapP r fun _ _ z => ⟨z.1, ht _ _ z.2.1, z.2.2⟩
section
variable {P : Program} {w : World} {H : Hp} {h : Heap} {a : Addr}
theorem rd_of {u : HO} (ok : HOk P w H h) (e : Rd H a u) : ObjOk P w H h a u := e.ok ok
theorem dk_rd {kvs : List (Key × V)} (ok : HOk P w H h) (e : Rd H a (.dK kvs)) : kvs.length ≤ sizeLine ∧ (a == sysModules) = false ∧ ∃ vs, KV kvs vs ∧ h.DictOf (mixKind P w) a vs :=
  show ObjOk P w H h a (.dK kvs) from rd_of ok e
theorem dk_of {kvs : List (Key × V)} (ok : HOk P w H h) (e : H a = some (.dK kvs)) : kvs.length ≤ sizeLine ∧ (a == sysModules) = false ∧ ∃ vs, KV kvs vs ∧ h.DictOf (mixKind P w) a vs := dk_rd ok (.inl e)
theorem key_of {ks : List Key} (ok : HOk P w H h) (e : H a = some (.tup (ks.map kV))) : (tupleKind (mixKind P w)).is h ks a := by
  obtain ⟨_, its, r, o, h1, h2, n, h3⟩ := (show ObjOk P w H h a (.tup (ks.map kV)) from ok a _ e)
  exact ⟨o, its.toArray, n, h1, h2, h3, by simpa using items_are r⟩
theorem dt_rd {kvs : List (List Key × V)} (ok : HOk P w H h) (e : Rd H a (.dT kvs)) : kvs.length ≤ sizeLine ∧ (a == sysModules) = false ∧
    ∃ xs, KT H kvs xs ∧ h.DictOfH (tupleKind (mixKind P w)) a xs := by
  obtain ⟨z, y, xs, r, o, es, ep, h1, h2, h3, h4, h5⟩ := (show ObjOk P w H h a (.dT kvs) from rd_of ok e)
  refine ⟨z, y, xs, r, o, es, ep, h1, h2, h3, h4, fun x hx => ?_, h5⟩
  have all : ∀ {l : List (List Key × V)} {m : List (List Key × Addr × Value)}, KT H l m → ∀ x ∈ m, (tupleKind (mixKind P w)).is h x.1 x.2.1 := by
    intro l m q
    induction q with
    | nil => intro x hx; exact nomatch hx
    | @cons p q ps qs hq t ih =>
      intro x hx
      rcases List.mem_cons.mp hx with e | hx
      · subst e
        exact key_of ok (by rw [← hq.1]; exact hq.2.1)
      · exact ih x hx
  exact all r x hx
theorem dt_of {kvs : List (List Key × V)} (ok : HOk P w H h) (e : H a = some (.dT kvs)) : kvs.length ≤ sizeLine ∧ (a == sysModules) = false ∧
    ∃ xs, KT H kvs xs ∧ h.DictOfH (tupleKind (mixKind P w)) a xs := dt_rd ok (.inl e)
end
def DGet (H : Hp) (a : Addr) (y : V) (r : Option V) : Prop :=
  (∃ kvs k, Rd H a (.dK kvs) ∧ y = kV k ∧ r = valV kvs k) ∨ ∃ kvs k b, Rd H a (.dT kvs) ∧ y = .ref b ∧ H b = some (.tup (k.map kV)) ∧ r = valV kvs k
def DPut (H : Hp) (a : Addr) (y v : V) (H' : Hp) : Prop :=
  (∃ kvs k, H a = some (.dK kvs) ∧ y = kV k ∧ kvs.length < sizeLine ∧ H' = upd H a (.dK (putK kvs k v))) ∨
  ∃ kvs k b, H a = some (.dT kvs) ∧ y = .ref b ∧ H b = some (.tup (k.map kV)) ∧ kvs.length < sizeLine ∧ H' = upd H a (.dT (putK kvs k v))
theorem DGet.k {H : Hp} {a : Addr} {kvs : List (Key × V)} {k : Key} (e : H a = some (.dK kvs)) : DGet H a (kV k) (valV kvs k) := .inl ⟨kvs, k, .inl e, rfl, rfl⟩
theorem DGet.t {H : Hp} {a b : Addr} {kvs : List (List Key × V)} {k : List Key} (e : H a = some (.dT kvs)) (eb : H b = some (.tup (k.map kV))) : DGet H a (.ref b) (valV kvs k) := .inr ⟨kvs, k, b, .inl e, rfl, eb, rfl⟩
theorem DPut.k {H : Hp} {a : Addr} {kvs : List (Key × V)} {k : Key} {v : V} (e : H a = some (.dK kvs)) (hl : kvs.length < sizeLine) : DPut H a (kV k) v (upd H a (.dK (putK kvs k v))) := .inl ⟨kvs, k, e, rfl, hl, rfl⟩
theorem DPut.t {H : Hp} {a b : Addr} {kvs : List (List Key × V)} {k : List Key} {v : V} (e : H a = some (.dT kvs)) (eb : H b = some (.tup (k.map kV))) (hl : kvs.length < sizeLine) :
    DPut H a (.ref b) v (upd H a (.dT (putK kvs k v))) := .inr ⟨kvs, k, b, e, rfl, eb, hl, rfl⟩
section
variable {X : Cx} {pins : List (Addr × Obj)} {σ : St} {H : Hp} {s : Shared} {a : Addr} {y v : V} {u r : Value} {o : Option V} {A : Around} {E : Value → Shared → Prop}
theorem Inv.big (I : Inv X pins σ H s) : sysModules < s.heap.objs.size := by
  have h : mainGlobals < s.heap.objs.size := (I.mod.glob.keeps I.bk).lt
  exact Nat.lt_trans (by decide) h
theorem d_notIn {Q : Value → Shared → Prop} (hu : A.units + 1 < cLine) (I : Inv X pins σ H s) (g : DGet H a y o) (ry : RelV y u) (h : ∀ s', Inv X pins σ H s' → Q (.bool (!o.isSome)) s') :
    wpAny (model X.prog X.w) A (compareOp .NotIn u (.ref a)) Q E s := by
  rcases g with ⟨kvs, k, e, ey, l⟩ | ⟨kvs, k, b, e, ey, eb, l⟩
  · subst ey
    obtain ⟨z, hd, vs, rel, dd⟩ := dk_rd I.hok e
    refine wpAny_notIn_of (kV_is ry) hd dd.mapOf ?_
    rw [← (rel.val k).isSome_eq, ← l]
    exact h _ (I.tok _)
  · subst ey
    cases (show u = Value.ref b from ry)
    obtain ⟨z, hd, xs, rel, dd⟩ := dt_rd I.hok e
    refine wpAny_notIn_heap (tupleKind_room_in1 hu) (key_of I.hok eb) hd dd ?_
    have q := (rel.val k).isSome_eq
    rw [Option.isSome_map] at q
    rw [← q, ← l]
    exact h _ (I.tok _)
theorem d_write {h' : Heap} {t' : Nat} {ob : HO} (I : Inv X pins σ H s) (mu : Mut (H a)) (hs : Heap.SameBut a s.heap h') (he : ∃ q, h'.get? a = some q) (new : ObjOk X.prog X.w (upd H a ob) h' a ob) :
    Inv X pins σ (upd H a ob) { s with heap := h', toks := t' } :=
  I.write (x := a) (e := a) mu (.inl rfl) (fun b q hb z => (hs.2 b hb).trans z) he new
theorem dk_new {P : Program} {w : World} {H' : Hp} {h' : Heap} {kvs : List (Key × V)} {vs : List (Key × Value)} (z : kvs.length ≤ sizeLine) (hd : (a == sysModules) = false) (rel : KV kvs vs) (dd : h'.DictOf (mixKind P w) a vs) :
    ObjOk P w H' h' a (.dK kvs) := ⟨z, hd, vs, rel, dd⟩
theorem d_setItem {H' : Hp} {Q : Unit → Shared → Prop} (hu : A.units + 1 < cLine) (I : Inv X pins σ H s) (g : DPut H a y v H') (ry : RelV y u) (rv : RelV v r) (h : ∀ s', Inv X pins σ H' s' → Q () s') :
    wpAny (model X.prog X.w) A (setItem (.ref a) u r) Q E s := by
  rcases g with ⟨kvs, k, e, ey, l, eH⟩ | ⟨kvs, k, b, e, ey, eb, l, eH⟩
  · subst ey eH
    obtain ⟨z, hd, vs, rel, dd⟩ := dk_of I.hok e
    have hz : vs.length ≤ sizeLine := by rw [← rel.length]; exact z
    have hl : (putK kvs k v).length ≤ sizeLine := by have := length_putK kvs k v; omega
    refine wpAny_setItem_pairs (hsz := hz) (kV_is ry) dd fun h' dd' hs => h _ ?_
    have he : ∃ q, h'.get? a = some q := let ⟨q, _, _, hq, _⟩ := dd'; ⟨q, hq⟩
    exact d_write I (by rw [e]; exact True.intro) hs he (dk_new hl hd (rel.put k rv) dd')
  · subst ey eH
    cases (show u = Value.ref b from ry)
    obtain ⟨z, hd, xs, rel, dd⟩ := dt_of I.hok e
    have hz : xs.length ≤ sizeLine := by rw [← Paired.length rel]; exact z
    have hl : (putK kvs k v).length ≤ sizeLine := by have := length_putK kvs k v; omega
    refine wpAny_setItem_heap (hsz := hz) (tupleKind_room_in1 hu) (key_of I.hok eb) dd fun h' dd' hs => h _ ?_
    obtain ⟨q, es, ep, hq, h2, h3, h4, _, h5⟩ := dd'
    refine d_write I (by rw [e]; exact True.intro) hs ⟨q, hq⟩ ⟨hl, hd, _, (rel.put k eb rv).keeps fun c ys ec => ?_, q, es, ep, hq, h2, h3, h4, h5⟩
    rw [upd_ne (ne_of ec e (fun z => nomatch z))]
    exact ec
end
section
variable {X : Cx} {pins : List (Addr × Obj)} {σ : St} {H : Hp} {s : Shared} {a : Addr} {kvs : List (Key × V)} {k : Key} {u : Value} {A : Around} {E : Value → Shared → Prop}
theorem d_pop {v : V} {more : List Value} {Q : Value → Shared → Prop} (I : Inv X pins σ H s) (e : H a = some (.dK kvs)) (ry : RelV (kV k) u) (l : valV kvs k = some v) (hm : more = [] ∨ ∃ x, more = [x])
    (h : ∀ w' s', Inv X pins σ (upd H a (.dK (dropK kvs k))) s' → RelV v w' → Q w' s') : wpAny (model X.prog X.w) A (call (.builtin "dict.pop") (.ref a :: u :: more)) Q E s := by
  obtain ⟨z, hd, vs, rel, dd⟩ := dk_of I.hok e
  obtain ⟨w', hw, rw'⟩ := RelO.some_of (v := v) (o := valueAt vs k) (by rw [← l]; exact rel.val k)
  have hp : (keyPart u).isSome = true := by
    cases k with
    | inl i => obtain ⟨t, q⟩ := (show ∃ t, u = Value.int i t from ry); subst q; rfl
    | inr x => obtain ⟨t, q⟩ := (show ∃ t, u = Value.str x t from ry); subst q; rfl
  have ha : argsOk "dict.pop" ⟨.ref a :: u :: more, []⟩ := by
    rcases hm with q | ⟨x, q⟩
    · subst q; exact PySem.F.args_dict_pop_2 _ _
    · subst q; exact PySem.F.args_dict_pop_3 _ _ _
  refine call_meetsIn PySem.F.slot_dict_pop dd.typeIs PySem.F.entry_dict_pop ha (meets_dict_pop_there (mixKind X.prog X.w) a (kV_is ry) more hm hp)
    ⟨vs, w', dd, by rw [← rel.length]; exact z, hw, fun h' dd' hs => h w' _ ?_ rw'⟩
  have he : ∃ q, h'.get? a = some q := let ⟨q, _, _, hq, _⟩ := dd'; ⟨q, hq⟩
  exact d_write I (by rw [e]; exact True.intro) hs he (dk_new (Nat.le_trans (dropK_le kvs k) z) hd (rel.drop k) dd')
end
def NoSl (i : Expr) : Prop := ∀ ov iv, subscripted i false ov iv = operate [ov, iv] (getItem ov iv)
theorem subD_of {prog : Program} {w : World} {A : Around} {E : Value → Shared → Prop} {s : Shared} {env : Env} {value slice : Expr} {pos : Pos} {T id : String} {Q : Value → Shared → Prop}
    (hl : typeLookup (.type T) "__getitem__" = pure (some (.builtin id))) (hs : NoSl slice)
    (h : wpAny (model prog w) A (eval value env) (fun o s₁ => wpAny (model prog w) A (eval slice env) (fun i s₂ => s₂.TypeIs o T ∧ wpAny (model prog w) A (getItem o i) Q E s₂) E s₁) E s) :
    wpAny (model prog w) A (eval (.Subscript value slice pos) env) Q E s := by
  refine Subscript_ (wpAny_mono h (fun o s₁ h₁ => wpAny_mono h₁ (fun i s₂ h₂ => ?_) fun _ _ x => x) fun _ _ x => x)
  obtain ⟨hT, h₂⟩ := h₂
  unfold subscriptTail
  refine wpAny_bind ?_
  rw [getitemInPython_of_ne hT.not_modules]
  refine wpAny_bind (wpAny_specialOf hT hl ?_)
  have fin : wpAny (model prog w) A (subscripted slice false o i) (fun r s₃ => wpAny (model prog w) A (letTemporaryGo value o r >>= fun _ => pure r) Q E s₃) E s₂ := by
    rw [hs o i]
    exact wpAny_operating (wpAny_mono h₂ (fun r s₃ h₃ => wpAny_bind (wpAny_letTemporaryGo (wpAny_pure h₃))) fun _ _ x => x)
  first
    | exact wpAny_pure (wpAny_bind fin)
    | exact wpAny_bind (wpAny_pure (wpAny_bind fin))
    | exact wpAny_bind fin
def tDNotIn (ty td : TE) : TE := fun σ H Q => ty σ H fun y H1 => td σ H1 fun x H2 => ∃ a o, x = .ref a ∧ DGet H2 a y o ∧ Q (.bl (!o.isSome)) H2
section
variable {X : Cx} {o i e value : Expr} {pos pos' tpos : Pos} {td ty tv : TE}
theorem pc_dnotin (hu : X.A.units + 1 < cLine) (hi : PE X i ty) (ho : PE X o td) : PC X .NotIn i o (tDNotIn ty td) := by
  intro pins s σ H Q I h
  refine thn (hi pins s σ H _ I h) fun iv s1 ⟨y, H1, I1, ry, q1⟩ => thn (ho pins s1 σ H1 _ I1 q1) fun u s2 ⟨x, H2, I2, rx, a, ov, ex, g, q2⟩ => ?_
  subst ex
  obtain rfl : u = Value.ref a := rx
  exact d_notIn hu I2 g ry fun s3 I3 => ⟨.bl (!ov.isSome), H2, I3, rfl, q2⟩
end
theorem dk_empty {P : Program} {w : World} {H : Hp} (h : Heap) (hb : sysModules < h.objs.size) : ObjOk P w H (h.push { cls := .type "dict", data := .dict #[] }) h.objs.size (.dK []) :=
  ⟨Nat.zero_le _, beq_eq_false_iff_ne.mpr (Ne.symm (Nat.ne_of_lt hb)), [], .nil, Heap.DictOf.new h⟩
def tDNewK : TE := fun _ H Q => ∀ p, H p = none → Q (.ref p) (upd H p (.dK []))
section
variable {X : Cx} {pos : Pos}
theorem pe_dnewK : PE X (.Dict [] [] pos) tDNewK := fun pins s σ H Q I h =>
  wpAny_Dict_empty ⟨.ref s.heap.objs.size, _, I.laid (a := s.heap.objs.size) (o := .dK []) (t' := s.toks) (fun _ _ q => Heap.get?_push_of_some _ q) (Nat.le_refl _) (dk_empty s.heap I.big), rfl, h _ (I.hok.fresh (Nat.le_refl _))⟩
end
structure M1 (X : Cx) (o : Expr) (m : Str) (apos : Pos) (e : Expr) (cpos : Pos) : Prop where
  base : attributeBase o m X.env (eval o X.env) = eval o X.env
  few : ((backTo cpos (starEach [e] X.env)).all (fun x => !x.1) && (backToKw cpos (keywordEach [] X.env)).all (fun x => x.1.isSome)
    && decide (([e] : List Expr).length + ([] : List Keyword).length + (if ([] : List Keyword).isEmpty then 0 else 1) < 30)) = true
  line : (apos.endLine == cpos.line) = true
  trees : backTo cpos (starEach [e] X.env) = [(false, eval e X.env)]
structure M2 (X : Cx) (o : Expr) (m : Str) (apos : Pos) (e f : Expr) (cpos : Pos) : Prop where
  base : attributeBase o m X.env (eval o X.env) = eval o X.env
  few : ((backTo cpos (starEach [e, f] X.env)).all (fun x => !x.1) && (backToKw cpos (keywordEach [] X.env)).all (fun x => x.1.isSome)
    && decide (([e, f] : List Expr).length + ([] : List Keyword).length + (if ([] : List Keyword).isEmpty then 0 else 1) < 30)) = true
  line : (apos.endLine == cpos.line) = true
  trees : backTo cpos (starEach [e, f] X.env) = [(false, eval e X.env), (false, eval f X.env)]
def IsD (H : Hp) (a : Addr) : Prop := (∃ kvs, Rd H a (.dK kvs)) ∨ ∃ kvs, Rd H a (.dT kvs)
theorem isD_at {X : Cx} {pins : List (Addr × Obj)} {σ : St} {H : Hp} {s : Shared} {a : Addr} (I : Inv X pins σ H s) (d : IsD H a) :
    s.TypeIs (.ref a) "dict" ∧ (∀ b, Value.ref a = .ref b → ∃ ob, s.heap.get? b = some ob ∧ ob.dict = none) ∧ (a == sysModules) = false := by
  rcases d with ⟨kvs, e⟩ | ⟨kvs, e⟩
  · obtain ⟨_, hd, vs, _, dd⟩ := dk_rd I.hok e
    refine ⟨dd.typeIs, fun b q => ?_, hd⟩
    cases q
    obtain ⟨ob, _, _, h1, h2, _⟩ := dd
    exact ⟨ob, h1, h2.2.1⟩
  · obtain ⟨_, hd, xs, _, dd⟩ := dt_rd I.hok e
    refine ⟨dd.typeIs, fun b q => ?_, hd⟩
    cases q
    obtain ⟨ob, _, _, h1, h2, _⟩ := dd
    exact ⟨ob, h1, h2.2.1⟩
section
variable {X : Cx} {pins : List (Addr × Obj)} {σ : St} {H : Hp} {s : Shared} {a : Addr} {y d : V} {u r : Value} {o : Option V} {A : Around} {E : Value → Shared → Prop}
end
def tDPop1 (td ty : TE) : TE := fun σ H Q => td σ H fun x H1 => ∃ a, x = .ref a ∧ IsD H1 a ∧ ty σ H1 fun y H2 => ∃ kvs k v, H2 a = some (.dK kvs) ∧ y = kV k ∧ valV kvs k = some v ∧ Q v (upd H2 a (.dK (dropK kvs k)))
section
variable {X : Cx} {o e f : Expr} {apos cpos : Pos} {td ty tx : TE}
theorem pe_dpop1 (ho : PE X o td) (he : PE X e ty) (m : M1 X o "pop" apos e cpos) : PE X (.Call (.Attribute o "pop" apos) [e] [] cpos) (tDPop1 td ty) := by
  intro pins s σ H Q I h
  refine wpAny_Call_method m.base m.few m.line PySem.F.plainAttrs_dict PySem.F.slot_dict_pop PySem.F.type_dict_pop (thn (ho pins s σ H _ I h) fun u s1 ⟨x, H1, I1, rx, a, ex, d, q1⟩ => ?_)
  subst ex
  obtain rfl : u = Value.ref a := rx
  obtain ⟨t1, t2, _⟩ := isD_at I1 d
  refine ⟨t1, t2, ?_⟩
  rw [m.trees]
  refine Calls.callWith_builtin rfl (Calls.evalArgs_plain (Calls.spliced_cons (thn (he pins s1 σ H1 _ I1 q1) fun iv s2 ⟨y, H2, I2, ry, kvs, k, v, ea, ey, l, q2⟩ => Calls.spliced_nil ?_)))
  subst ey
  exact d_pop I2 ea ry l (.inl rfl) fun w' s3 I3 rw' => ⟨v, _, I3, rw', q2⟩
end
section
variable {X : Cx} {pins : List (Addr × Obj)} {σ : St} {H : Hp} {s : Shared} {a : Addr} {kvs : List (Key × V)} {A : Around} {E : Value → Shared → Prop}
end
section
variable {X : Cx} {pins : List (Addr × Obj)} {σ : St} {H : Hp} {s : Shared} {a : Addr} {y : V} {u : Value} {A : Around} {E : Value → Shared → Prop}
end
end L2
namespace Att
open PySem PySem.W PySem.Calls PyProof.Rows
theorem ints_of_wellAll {P : Params} {h : Heap} : ∀ (ns : List Int) (vs : List Value), WellAll P h vs (ns.map WData.int) → IntsAre vs ns := by
  intro ns
  induction ns with
  | nil =>
    intro vs w
    rw [List.map_nil] at w
    cases w
    exact .nil
  | cons n ns ih =>
    intro vs w
    rw [List.map_cons] at w
    cases w with
    | cons a b =>
      cases a
      exact .cons _ _ (ih _ b)
theorem script_of {l : OpenLaw} {n : Nat} (hn : l.most = some n) {P : Params} {h : Heap} {args : List WData} {vals : List Value}
    (hpre : l.row.toRowW.claim.pre args = true) (hwl : WellAll P h vals args) :
    ∃ a vs ns, vals = [Value.ref a] ∧ args = [WData.list (ns.map WData.int)] ∧ h.get? a = some { cls := .type "list", data := .seq vs.toArray } ∧ IntsAre vs ns ∧ ns.length ≤ n := by
  have hsh : WShape.hasAll [] args [.list .int] = true := (pre_splitW hpre).1
  have hc : l.pre.holds [] { args := args } = true := (pre_splitW hpre).2
  obtain ⟨d, r, rfl, h1, h2⟩ := hasAllW_cons hsh
  obtain rfl := hasAllW_nil h2
  obtain ⟨xs, rfl, h3⟩ := hasW_list h1
  obtain ⟨ns, rfl⟩ := items_int h3
  have hlen : ns.length ≤ n := by
    unfold OpenLaw.pre at hc
    have h4 : (WTm.not (.lt (.lit (.int (n : Int))) (.len (.arg 0)))).holds [] { args := [.list (ns.map .int)] } = true := by
      have h4 := (holds_andW hc).1
      rw [hn] at h4
      exact h4
    have h5 := condW_of h4 (w_not (w_lt w_lit (w_len_list (w_arg rfl))))
    rw [List.length_map] at h5
    refine Nat.le_of_not_lt fun q => ?_
    have q' : (n : Int) < ((ns.length : Nat) : Int) := by omega
    first
      | (rw [decide_eq_true q'] at h5; exact absurd h5 (by decide))
      | (simp at h5; omega)
  cases hwl with
  | cons w1 w2 =>
    cases w2
    cases w1 with
    | list ho hall => exact ⟨_, _, ns, rfl, rfl, ho, ints_of_wellAll ns _ hall, hlen⟩
theorem post_true (l : OpenLaw) (args : List WData) : l.row.toRowW.claim.post args (.bool true) args = true :=
  postW_of (r := l.row.toRowW) (X := (true == true))
    (show WShape.has [] (.bool true) .bool = true by first | rfl | decide | simp [WShape.has, WShape.arms, WShape.armsAll])
    (show (WTm.eq .res (.lit (.bool true))).value [] { args := args, res := some (.bool true), after := args } = some (.bool (true == true)) from w_eq_bool (w_res rfl) w_lit) rfl
theorem attach_call {l : OpenLaw} {n : Nat} {q : Program} {loose : List Str} {XP : (Str → Option Value) → Heap → Prop} {YP : World → Heap → Prop} {d : DefRec}
    (hn : l.most = some n) (hdf : d.params.defaults = [])
    (call : ∀ (w : World) (s₀ s₁ : Shared) (mg mb : Str → Option Value) (fa : Addr) (o : Obj) (pm cd doc : Value) (a : Addr) (vs : List Value) (ns : List Int),
      Ground q loose [] XP w s₀ mg mb s₁.heap → YP w s₁.heap →
      s₁.heap.get? fa = some o → o.data = .func (docDef d.name d.params d.body d.scope pm cd doc) → s₁.heap.CodeRec cd d.name → mg d.name = some (.ref fa) →
      s₁.heap.get? a = some { cls := .type "list", data := .seq vs.toArray } → IntsAre vs ns → ns.length ≤ n → s₁.gens = #[] →
      codeAny (model l.prog w) callerA (.call (.ref fa) ⟨[.ref a], []⟩) (fun r s' => r = .ok (.ret (.bool true)) ∧ OldK s₁.heap s'.heap ∧ s'.os = s₁.os ∧ AllBare s'.gens) s₁) :
    WalkO q loose XP YP l.row.toRowW d [] (fun f vs => PySem.call f vs) := by
  intro w s₀ s₁ mg mb G Y fa o pm cd doc dV kV ho hd hcd hD hmg hg args vals as hpre hlay hrd hwl hlo
  obtain rfl : dV = .none := Dflts.none hD hdf
  obtain rfl : kV = .none := Dflts.noKw hD
  obtain ⟨a, vs, ns, rfl, rfl, hobj, hints, hlen⟩ := script_of hn hpre hwl
  refine enter_call (codeAny_mono (call w s₀ s₁ mg mb fa o pm cd doc a vs ns G Y ho (fd_plain hd) hcd hmg hobj hints hlen hg) fun r s' hq => ?_)
  obtain ⟨rfl, h2, h3, h4⟩ := hq
  exact ⟨.inl ⟨.bool true, .bool true, [], rfl, fun _ => rfl, .bool true, post_true l _, fun _ => ⟨List.Pairwise.nil, fun _ hm => (nomatch hm)⟩⟩, h2, h3, h4⟩
section
variable {prog : Program} {w : World} {A : Around} {E : Value → Shared → Prop} {s : Shared} {K : Frag}
end
end Att
namespace L2
open PySem PySem.Spec PyProof.Rows
theorem vals_ints : ∀ {vs : List Value} {ns : List Int}, IntsAre vs ns → Vals (ns.map V.int) vs
  | _, _, .nil => .nil
  | _, _, .cons n t h => .cons ⟨t, rfl⟩ (vals_ints h)
def Only (H : Hp) : Prop := ∀ b, H b = none ∨ ∃ o xs, H b = some (.frz o (.lst xs))
theorem law_call {P : Program} {w : World} {K : PySem.W.Frag} {mg mb : Str → Option Value} {CX : CXT} {k : Nat} {fa a : Addr} {fd : FuncData} {x : Str} {sp : Sp} {s₁ : Shared} {vs : List Value} {ns : List Int}
    (KX : K.In s₁.heap) (hns : s₁.heap.Ns mainGlobals mg) (hb : s₁.heap.Ns builtinsNs mb) (hbb : ∀ x : Str, x ≠ "__name__" → mb x = bootBuiltins x) (hlim : s₁.heap.NoLimit) (hg : s₁.gens = #[])
    (ha : s₁.heap.get? a = some { cls := .type "list", data := .seq vs.toArray }) (hi : IntsAre vs ns) (hl : ns.length ≤ sizeLine) (hr : Room k callerA)
    (F : ∀ base : Heap, K.In base → base.Ns mainGlobals mg → FnOk P w K mg base CX k fa fd [x] sp) (hbind : ∀ (s : Shared) (u : Value), BindsTo s fd ⟨[u], []⟩ [(x, u)])
    (hsp : ∀ H : Hp, Only H → SqL K H a (ns.map V.int) → sp [.ref a] H (fun v _ => v = .bl true) fun _ _ _ => False)
    (hCX : ∀ H e s', CX [] H s₁ (fun _ _ _ => False) e s' → False) :
    codeAny (model P w) callerA (.call (.ref fa) ⟨[.ref a], []⟩) (fun r s' => r = .ok (.ret (.bool true)) ∧ OldK s₁.heap s'.heap ∧ s'.os = s₁.os ∧ AllBare s'.gens) s₁ := by
  have rv := vals_ints hi
  have lenV := hi.length
  have core : ∀ H : Hp, Only H → SqL K H a (ns.map V.int) → HOk P w H s₁.heap → (∀ b, H b ≠ none → b = a) → (H a ≠ none → K.lookup a = none) →
      codeAny (model P w) callerA (.call (.ref fa) ⟨[.ref a], []⟩) (fun r s' => r = .ok (.ret (.bool true)) ∧ OldK s₁.heap s'.heap ∧ s'.os = s₁.os ∧ AllBare s'.gens) s₁ := by
    intro H hO hS hok hA hK
    have base_of : ∀ {b : Addr} {o : Obj}, s₁.heap.get? b = some o → H b = none → (hidT s₁.heap H).get? b = some o := fun e n => hidT_get e n
    have noA : ∀ {b : Addr} {o : Obj} {es : Array DictEntry} {ep : Nat}, s₁.heap.get? b = some o → o.data = .dict es ep → H b = none := fun {b o es ep} e d => by
      cases q : H b with
      | none => rfl
      | some u =>
        have e' : b = a := hA b (by rw [q]; simp)
        subst e'
        rw [ha] at e; cases e
        have d' : Data.seq vs.toArray _ = Data.dict es ep := d
        cases d'
    have nsK : ∀ {b : Addr} {m : Str → Option Value}, s₁.heap.Ns b m → (hidT s₁.heap H).Ns b m := fun {b m} ⟨o, es, ep, e, d, r⟩ => ⟨o, es, ep, base_of e (noA e d), d, r⟩
    have hKb : K.In (hidT s₁.heap H) := fun b o e => base_of (KX b o e) (by
      cases q : H b with
      | none => rfl
      | some u =>
        have e' : b = a := hA b (by rw [q]; simp)
        subst e'
        rw [hK (by rw [q]; simp)] at e; cases e)
    have hM : Mod K mg (hidT s₁.heap H) := ⟨hKb, nsK hns, ⟨mb, nsK hb, hbb⟩, let ⟨mc, h1, h2⟩ := hlim; ⟨mc, nsK h1, h2⟩⟩
    have e0 : Env0 P w K mg (hidT s₁.heap H) callerA [] s₁ H := ⟨rfl, hM, fun b o e => of_hidT e, Nat.le_of_eq (hidT_size _ _), trivial, fun b hb => absurd (show b ∈ ([] : List Addr) from hb) (by simp), hok, .of_eq hg⟩
    refine codeAny_mono ((F _ hKb (nsK hns)).run callerA [] s₁ H ⟨[.ref a], []⟩ [.ref a] [.ref a] _ _ hr e0 (hbind s₁ (.ref a)) (.cons rfl .nil) (hsp H hO hS)) fun r s' h => ?_
    cases r with
    | error e => exact (hCX H e s' h).elim
    | ok fl =>
      cases fl with
      | next => exact False.elim h
      | brk => exact False.elim h
      | cont => exact False.elim h
      | ret u =>
        obtain ⟨v, H', os, bare, un, hok', r', q⟩ := h
        have q' : v = .bl true := q
        subst q'
        obtain rfl : u = Value.bool true := r'
        refine ⟨rfl, OldK.of_keep fun b o e => ?_, os, bare⟩
        cases q : H b with
        | none => exact un.keep b o e q (by intro z; exact absurd (show b ∈ ([] : List Addr) from z) (by simp)) (by simp)
        | some u =>
          rcases hO b with z | ⟨ob, xs, z⟩
          · rw [q] at z; cases z
          · have z2 := un.frzs b ob _ z
            obtain ⟨e1, _⟩ := hok b _ z
            obtain ⟨e2, _⟩ := hok' b _ z2
            rw [e] at e1; cases e1
            exact e2
  cases hk : K.lookup a with
  | some o =>
    have e := KX a o hk
    rw [ha] at e
    cases e
    refine core (fun _ => none) (fun _ => .inl rfl) (.inr ⟨_, vs.toArray, _, hk, rfl, rfl, rfl, by rw [List.size_toArray, lenV]; exact hl, by simpa using rv⟩) (fun b u z => by have z' : (none : Option HO) = some u := z; cases z') (fun b z => absurd rfl z) fun z => absurd rfl z
  | none =>
    refine core (fun b => if b = a then some (.frz { cls := .type "list", data := .seq vs.toArray } (.lst (ns.map V.int))) else none) (fun b => ?_) (.inl (.inr ⟨{ cls := .type "list", data := .seq vs.toArray }, if_pos rfl⟩)) (fun b u z => ?_) (fun b z => ?_) fun _ => hk
    · by_cases hb : b = a
      · exact .inr ⟨_, _, if_pos hb⟩
      · exact .inl (if_neg hb)
    · by_cases hb : b = a
      · have z' := (if_pos hb).symm.trans z
        cases z'
        subst hb
        exact ⟨ha, by rw [List.length_map]; exact hl, vs, _, rv, ha⟩
      · have z' := (if_neg hb).symm.trans z
        cases z'
    · by_cases hb : b = a
      · exact hb
      · exact absurd (if_neg hb) z
end L2
namespace L2
open PySem PySem.Spec PyProof.Rows
abbrev KOf {K : PySem.W.Frag} {h : Heap} (_ : K.In h) : PySem.W.Frag := K
theorem walk_of {l : PySem.W.OpenLaw} {n k : Nat} {q : Program} {loose : List Str} {XP : (Str → Option Value) → Heap → Prop} {YP : World → Heap → Prop} {d : DefRec} {K : Params → PySem.W.Frag} {CX : World → CXT} {sp : World → Sp} {x : Str}
    (hn : l.most = some n) (hn2 : n ≤ sizeLine) (hdf : d.params.defaults = []) (hr : Room k callerA)
    (hY : ∀ (w : World) (h : Heap), YP w h → (K w.params).In h)
    (F : ∀ (w : World) (mg : Str → Option Value) (fa : Addr) (h : Heap), (K w.params).In h → h.Ns mainGlobals mg → mg d.name = some (.ref fa) →
      ∃ fd : FuncData, (∀ (s : Shared) (u : Value), BindsTo s fd ⟨[u], []⟩ [(x, u)]) ∧
        ∀ base : Heap, (K w.params).In base → base.Ns mainGlobals mg → FnOk l.prog w (K w.params) mg base (CX w) k fa fd [x] (sp w))
    (hsp : ∀ (w : World) (H : Hp) (a : Addr) (ns : List Int), ns.length ≤ n → Only H → SqL (K w.params) H a (ns.map V.int) → sp w [.ref a] H (fun v _ => v = .bl true) fun _ _ _ => False)
    (hCX : ∀ (w : World) (H : Hp) (s : Shared) (e : Value) (s' : Shared), CX w [] H s (fun _ _ _ => False) e s' → False) :
    PySem.W.WalkO q loose XP YP l.row.toRowW d [] (fun f vs => PySem.call f vs) := by
  refine Att.attach_call hn hdf fun w s₀ s₁ mg mb fa o pm cd doc a vs ns G Y ho hd hcd hmg hobj hints hlen hg => ?_
  have KX := hY w _ Y
  obtain ⟨fd, hb, hF⟩ := F w mg fa _ KX G.T.g hmg
  exact law_call KX G.T.g G.T.b G.T.builtins G.T.nolimit hg hobj hints (Nat.le_trans hlen hn2) hr hF hb (fun H hO hS => hsp w H a ns hlen hO hS) fun H e s' => hCX w H s₁ e s'
theorem walk_ofK {l : PySem.W.OpenLaw} {n k : Nat} {q : Program} {loose : List Str} {XP : (Str → Option Value) → Heap → Prop} {YP : World → Heap → Prop} {d : DefRec} {K : Params → PySem.W.Frag} {CX : CXT} {sp : PySem.W.Frag → Sp} {x : Str}
    (hn : l.most = some n) (hn2 : n ≤ sizeLine) (hdf : d.params.defaults = []) (hr : Room k callerA)
    (hY : ∀ (w : World) (h : Heap), YP w h → (K w.params).In h)
    (F : ∀ (w : World) (mg : Str → Option Value) (fa : Addr) (h : Heap), (K w.params).In h → h.Ns mainGlobals mg → mg d.name = some (.ref fa) →
      ∃ fd : FuncData, (∀ (s : Shared) (u : Value), BindsTo s fd ⟨[u], []⟩ [(x, u)]) ∧
        ∀ base : Heap, (K w.params).In base → base.Ns mainGlobals mg → FnOk l.prog w (K w.params) mg base CX k fa fd [x] (sp (K w.params)))
    (hsp : ∀ (K : PySem.W.Frag) (H : Hp) (a : Addr) (ns : List Int), ns.length ≤ n → Only H → SqL K H a (ns.map V.int) → sp K [.ref a] H (fun v _ => v = .bl true) fun _ _ _ => False)
    (hCX : ∀ (H : Hp) (s : Shared) (e : Value) (s' : Shared), CX [] H s (fun _ _ _ => False) e s' → False) :
    PySem.W.WalkO q loose XP YP l.row.toRowW d [] (fun f vs => PySem.call f vs) :=
  walk_of (K := K) (CX := fun _ => CX) (sp := fun w => sp (K w.params)) hn hn2 hdf hr hY F (fun w H a ns h1 h2 h3 => hsp (K w.params) H a ns h1 h2 h3) fun _ H s e s' => hCX H s e s'
end L2
namespace L2
open PySem PySem.Spec PyProof.Rows
def defArgs (s : Stmt) : Arguments := match s with
  | .FunctionDef _ a _ _ _ _ _ _ _ _ => a
  | _ => { posonlyargs := [], args := [], vararg := none, kwonlyargs := [], kw_defaults := [], kwarg := none, defaults := [] }
def defBody (s : Stmt) : List Stmt := match s with
  | .FunctionDef _ _ b _ _ _ _ _ _ _ => b
  | _ => []
def defScope (s : Stmt) : Scope := match s with
  | .FunctionDef _ _ _ _ _ _ sc _ _ _ => sc
  | _ => { kind := .function, names := [], isGenerator := false, isCoroutine := false }
abbrev CX0 : CXT := fun _ _ _ _ _ _ => False
abbrev E0 : XK := fun _ _ _ => False
theorem pass0 {X : Cx} : Passes CX0 X E0 := fun _ _ _ _ _ _ _ h => h.elim
structure Fun (K : PySem.W.Frag) (x qual : Str) (st : Stmt) (f : Addr) (fd : FuncData) : Prop where
  ex : ∃ (oc : Value) (od : Option Addr) (kV doc pm : Value) (an : Option Addr) (cdv ct : Value) (osl : Array (Option Value)),
    fd = PySem.W.fnOf x qual (defArgs st) (defBody st) (defScope st) .none kV doc pm an cdv ct ∧ K.lookup f = some ⟨oc, od, .func fd, osl⟩ ∧ PySem.W.codeIn K cdv qual = true
  kp : PySem.W.keepIn K (.ref f) = true
section
variable {P : Program} {w : World} {K : PySem.W.Frag} {mg : Str → Option Value} {base : Heap}
theorem Fun.ok {x qual : Str} {st : Stmt} {f : Addr} {fd : FuncData} {N ps : List Str} {k : Nat} {sp : Sp} (F : Fun K x qual st f fd) (S : FnScope N ps (defScope st)) (len : ∀ vs H Q E, sp vs H Q E → vs.length = ps.length)
    (hbody : ∀ (cdv : Value) (A : Around) (outer : List Env) (s : Shared) (H : Hp) (vs : List V) (Q : VK) (E : XK), Room k (A.deeper (envOfC qual (defScope st) s.heap.objs.size f cdv)) → sp vs H Q E →
      ∃ t, PSs (cxOf CX0 P w K mg base N qual (defScope st) f cdv A outer s H E).nox (defBody st) t ∧ t { nx := fun _ H' => Q .non H', rt := Q } (start N vs) H) : FnOk P w K mg base CX0 (k + 1) f fd ps sp := by
  obtain ⟨oc, od, kV, doc, pm, an, cdv, ct, osl, rfl, lk, hcd⟩ := F.ex
  refine fn_of lk hcd S len fun A outer s H vs Q E hr hsp => ?_
  obtain ⟨t, h, q⟩ := hbody cdv A outer s H vs Q E hr hsp
  exact ⟨t, h.nox, q⟩
theorem Fun.binds {x qual : Str} {st : Stmt} {f : Addr} {fd : FuncData} {ps : List Str} (F : Fun K x qual st f fd)
    (h : ∀ (kV doc pm : Value) (an : Option Addr) (cdv ct : Value) (us : List Value), us.length = ps.length → bindArgs (PySem.W.fnOf x qual (defArgs st) (defBody st) (defScope st) .none kV doc pm an cdv ct) ⟨us, []⟩ = pure (ps.zip us)) : Binds K fd ps [] := by
  obtain ⟨oc, od, kV, doc, pm, an, cdv, ct, osl, rfl, lk, hcd⟩ := F.ex
  exact .all (h kV doc pm an cdv ct)
theorem fun_mk {x qual : Str} {st : Stmt} {f : Addr} {oc : Value} {od an : Option Addr} {osl : Array (Option Value)} {kV doc pm cdv ct : Value} (l : K.lookup f = some ⟨oc, od, .func (PySem.W.fnOf x qual (defArgs st) (defBody st) (defScope st) .none kV doc pm an cdv ct), osl⟩)
    (c : PySem.W.codeIn K cdv qual = true) (k : PySem.W.keepIn K (.ref f) = true) : Fun K x qual st f (PySem.W.fnOf x qual (defArgs st) (defBody st) (defScope st) .none kV doc pm an cdv ct) := ⟨⟨oc, od, kV, doc, pm, an, cdv, ct, osl, rfl, l, c⟩, k⟩
end
theorem hu_of {A : Around} {k : Nat} (hr : Room k A) : A.units + 1 < cLine := Nat.lt_of_le_of_lt (Nat.add_le_add_left (by decide : 1 ≤ 64) _) hr.units
section
variable {X : Cx}
theorem pv (i : Nat) {x : Str} {pos : Pos} (hN : X.N[i]? = some x := by rfl) (hv : Vis X.env.scope x := by first | exact Or.inl rfl | exact Or.inr (Or.inl rfl) | exact Or.inr (Or.inr rfl)) (hd : (x == ("__debug__" : Str)) = false := by decide)
    (hcd : (x == ("__classdict__" : Str)) = false := by decide) : PE X (.Name x pos) (tVar i) := pe_var hN hv hd hcd
end
theorem iteF {A B : Prop} (h : B) : if false = true then A else B := by
  rw [if_neg Bool.false_ne_true]
  exact h
theorem iteT {A B : Prop} (h : A) : if true = true then A else B := by
  rw [if_pos rfl]
  exact h
def Same (H H' : Hp) : Prop := ∀ b o, H b = some o → H' b = some o
theorem Same.refl (H : Hp) : Same H H := fun _ _ h => h
theorem Same.trans {H H1 H2 : Hp} (a : Same H H1) (b : Same H1 H2) : Same H H2 := fun c o h => b c o (a c o h)
theorem Same.free {H H' : Hp} (e : Same H H') {l : Addr} (h : H' l = Option.none) : H l = Option.none := by
  cases q : H l with
  | none => rfl
  | some o =>
    rw [e l o q] at h
    cases h
theorem Same.seq {K : PySem.W.Frag} {H H' : Hp} {a : Addr} {xs : List V} (e : Same H H') (h : SqL K H a xs) : SqL K H' a xs := by
  rcases h with (h | ⟨o, h⟩) | h
  · exact .inl (.inl (e _ _ h))
  · exact .inl (.inr ⟨o, e _ _ h⟩)
  · exact .inr h
section
variable {κ : Type} [DecidableEq κ]
theorem dropK_pos {p : κ × V} {r : List (κ × V)} {k : κ} (e : p.1 = k) : dropK (p :: r) k = dropK r k := by
  unfold dropK
  rw [List.filter_cons, if_neg (by simp [e])]
theorem dropK_neg {p : κ × V} {r : List (κ × V)} {k : κ} (e : ¬ p.1 = k) : dropK (p :: r) k = p :: dropK r k := by
  unfold dropK
  rw [List.filter_cons, if_pos (by simp [e])]
end
end L2
set_option maxHeartbeats 4000000
namespace L2
open PySem PySem.Spec PyProof.Rows
section
variable {prog : Program} {w : World} {A : Around} {R : Result → Shared → Prop} {s : Shared}
theorem nox_mono {α : Type} {M : Model} {t : Sem α} {Q Q' : α → Shared → Prop} {E : Value → Shared → Prop} (h : wpAny M A t Q (fun _ _ => False) s) (k : ∀ a s, Q a s → Q' a s) : wpAny M A t Q' E s :=
  wpAny_mono h k fun _ _ z => z.elim
theorem compLoop_tg {elt target iter : Expr} {ifs : List Expr} {scope : Scope} {pos : Pos} {it acc : Value} {env : Env} (J : Nat → Shared → Prop)
    (turn : ∀ n s, J n s → wpAny (model prog w) A (pyNext it) (fun r s₁ => match r with
      | none => R (.ok .next) s₁
      | some v => wpAny (model prog w) A (letOwnedTupleGo target it v) (fun _ s₂ => wpAny (model prog w) A (assign target env v) (fun _ s₃ =>
          wpAny (model prog w) A (forIn ifs true fun c r => if r = true then do let ok ← isTrue c env (eval c env); pure (ForInStep.yield ok) else pure (ForInStep.yield r)) (fun ok s₄ =>
            if ok = true then wpAny (model prog w) A (eval elt env) (fun x s₅ =>
              wpAny (model prog w) A (call (.builtin "list.append") [acc, x]) (fun _ s₆ => ∃ m, m < n ∧ J m s₆) (fun _ _ => False) s₅) (fun _ _ => False) s₄
            else ∃ m, m < n ∧ J m s₄) (fun _ _ => False) s₃) (fun _ _ => False) s₂) (fun _ _ => False) s₁) (fun _ _ => False) s)
    (n : Nat) (h : J n s) :
    codeAny (model prog w) A (.compLoop (.ListComp elt [⟨target, iter, ifs, 0⟩] scope pos) 0 it acc env) R s := by
  refine codeAny_loop rfl J (fun n s hI => ?_) n h
  show wpAny _ A ((compTurn (.ListComp elt [⟨target, iter, ifs, 0⟩] scope pos) 0 it acc env).onRaise (fun x => do noteFrame x env; theTreesLotGoes x)) _ _ s
  refine wpAny_noted ?_
  rw [compTurn_list]
  refine wpAny_bind (wpAny_standAt (wpAny_bind (nox_mono (turn n s hI) (fun r s₁ h₁ => ?_))))
  cases r with
  | none => exact wpAny_pure h₁
  | some v =>
    refine wpAny_bind (nox_mono h₁ fun _ s₂ h₂ => wpAny_bind (nox_mono h₂ fun _ s₃ h₃ => wpAny_bind (nox_mono h₃ fun ok s₄ h₄ => ?_)))
    cases ok with
    | false => exact wpAny_pure ⟨rfl, h₄⟩
    | true => exact wpAny_bind (wpAny_bind (nox_mono h₄ fun x s₅ h₅ => wpAny_bind (nox_mono h₅ fun _ s₆ h₆ => wpAny_pure (wpAny_pure ⟨rfl, h₆⟩))))
end
theorem lookup_map_kind {f : Str → NameKind → NameKind} : ∀ (l : List (Str × NameKind)) (x : Str), (l.map fun p => (p.1, f p.1 p.2)).lookup x = (l.lookup x).map (f x)
  | [], _ => rfl
  | (n, k) :: r, x => by
    rw [List.map_cons, List.lookup_cons, List.lookup_cons]
    cases hx : x == n with
    | true =>
      have e : x = n := by simpa using hx
      subst e
      rfl
    | false => exact lookup_map_kind r x
def reKind (env : Env) (n : Str) (k : NameKind) : NameKind := if (k == .free && env.scope.kind == .function && env.kindOf n == some .cell) = true then .cell else k
theorem relabel_lookup (scope : Scope) (env : Env) (x : Str) : (relabel scope env).names.lookup x = (scope.names.lookup x).map (reKind env x) := by
  rw [← lookup_map_kind]
  unfold relabel
  congr 1
  show List.map _ scope.names = List.map _ scope.names
  congr 1
  funext p
  obtain ⟨n, k⟩ := p
  show (if (k == NameKind.free && env.scope.kind == .function && env.kindOf n == some .cell) = true then (n, NameKind.cell) else (n, k)) = (n, reKind env n k)
  unfold reKind
  split <;> rfl
theorem closure_of {env : Env} {f : Str × NameKind → List (Str × Addr) → Sem (ForInStep (List (Str × Addr)))}
    (hf1 : ∀ n c r, cellOf env n = pure c → f (n, .free) r = pure (.yield ((n, c) :: r))) (hf2 : ∀ n k r, k ≠ .free → f (n, k) r = pure (.yield r)) :
    ∀ (l : List (Str × NameKind)) (cs : List (Str × Addr)), (∀ y ∈ l, y.2 = .free → ∃ c, env.cells.lookup y.1 = some c) →
    ∃ cl : List (Str × Addr), forIn l cs f = pure cl ∧
      (∀ x c, cl.lookup x = some c → env.cells.lookup x = some c ∨ cs.lookup x = some c) ∧ (∀ x, (∃ c, cs.lookup x = some c) ∨ (x, NameKind.free) ∈ l → ∃ c, cl.lookup x = some c)
  | [], cs, _ => ⟨cs, rfl, fun _ _ h => .inr h, fun x h => h.elim id fun z => nomatch z⟩
  | (n, k) :: r, cs, h => by
    by_cases hk : k = .free
    · subst hk
      obtain ⟨c, hc⟩ := h (n, .free) List.mem_cons_self rfl
      obtain ⟨cl, h1, h2, h3⟩ := closure_of hf1 hf2 r ((n, c) :: cs) fun y hy => h y (List.mem_cons_of_mem _ hy)
      refine ⟨cl, ?_, fun x c' hx => ?_, fun x hx => h3 x ?_⟩
      · rw [List.forIn_cons, hf1 n c cs (by unfold cellOf; rw [hc])]
        exact h1
      · rcases h2 x c' hx with z | z
        · exact .inl z
        · rw [List.lookup_cons] at z
          cases hxn : x == n with
          | true =>
            rw [hxn] at z
            have e1 : x = n := by simpa using hxn
            have e2 : c = c' := by simpa using z
            subst e1; subst e2
            exact .inl hc
          | false =>
            rw [hxn] at z
            exact .inr z
      · rcases hx with ⟨c', hx⟩ | hx
        · refine .inl ?_
          rw [List.lookup_cons]
          cases hxn : x == n with
          | true => exact ⟨c, rfl⟩
          | false => exact ⟨c', hx⟩
        · rcases List.mem_cons.mp hx with e | e
          · injection e with e1 e2
            subst e1
            exact .inl ⟨c, by simp⟩
          · exact .inr e
    · obtain ⟨cl, h1, h2, h3⟩ := closure_of hf1 hf2 r cs fun y hy => h y (List.mem_cons_of_mem _ hy)
      refine ⟨cl, ?_, h2, fun x hx => h3 x ?_⟩
      · rw [List.forIn_cons, hf2 n k cs hk]
        exact h1
      · rcases hx with hx | hx
        · exact .inl hx
        · rcases List.mem_cons.mp hx with e | e
          · injection e with e1 e2
            exact absurd e2.symm hk
          · exact .inr e
theorem closureFor_of {env : Env} {scope : Scope} (h : ∀ y ∈ scope.names, y.2 = .free → ∃ c, env.cells.lookup y.1 = some c) :
    ∃ cl : List (Str × Addr), closureFor scope env = pure cl ∧ (∀ x c, cl.lookup x = some c → env.cells.lookup x = some c) ∧ (∀ x, (x, NameKind.free) ∈ scope.names → ∃ c, cl.lookup x = some c) := by
  simp only [closureFor]
  obtain ⟨cl, h1, h2, h3⟩ := closure_of (env := env) (f := fun (x : Str × NameKind) (r : List (Str × Addr)) => match x with
      | (name, kind) => if (kind == NameKind.free) = true then (do let a ← cellOf env name; pure (ForInStep.yield ((name, a) :: r))) else pure (ForInStep.yield r))
    (fun n c r e => by
      show (if (NameKind.free == NameKind.free) = true then (do let a ← cellOf env n; pure (ForInStep.yield ((n, a) :: r))) else pure (ForInStep.yield r) : Sem _) = _
      rw [if_pos (by decide), e]
      rfl)
    (fun n k r e => by
      show (if (k == NameKind.free) = true then (do let a ← cellOf env n; pure (ForInStep.yield ((n, a) :: r))) else pure (ForInStep.yield r) : Sem _) = _
      rw [if_neg (by simpa using e)]) scope.names [] h
  refine ⟨cl, ?_, fun x c e => (h2 x c e).elim id fun z => by simp at z, fun x hx => h3 x (.inr hx)⟩
  rw [h1]
  rfl
def Cx.comp (X : Cx) (scope : Scope) (N' : List Str) (cl : List (Str × Addr)) (C : Addr) (s₀ : Shared) (H₀ : Hp) (ex : List Addr) : Cx :=
  { prog := X.prog, w := X.w, K := X.K, mg := X.mg, base := X.base, A := X.A, N := N', s₀ := s₀, H₀ := H₀, env := compEnvC scope cl C X.env, outer := X.stack, stack := X.stack, ex := ex, fn := fun _ => false, calm := X.calm, pn := X.pn, xe := fun _ _ => False }
def iniC (ds : List Nat) (k : Nat) (σ : St) : St := ds.foldl (fun σ i => σ.set i none) σ ++ List.replicate k none
theorem forget_len (ds : List Nat) : ∀ σ : St, (ds.foldl (fun σ i => σ.set i none) σ).length = σ.length := by
  induction ds with
  | nil => intro σ; rfl
  | cons d r ih => intro σ; rw [List.foldl_cons, ih]; simp
theorem forget_get (ds : List Nat) : ∀ (σ : St) (i : Nat) (v : V), (ds.foldl (fun σ i => σ.set i none) σ)[i]? = some (some v) → σ[i]? = some (some v) ∧ i ∉ ds := by
  induction ds with
  | nil => intro σ i v h; exact ⟨h, by simp⟩
  | cons d r ih =>
    intro σ i v h
    rw [List.foldl_cons] at h
    obtain ⟨h1, h2⟩ := ih _ i v h
    by_cases e : d = i
    · subst e
      by_cases hl : d < σ.length
      · rw [List.getElem?_set_self hl] at h1
        cases h1
      · rw [List.getElem?_eq_none_iff.mpr (by rw [List.length_set]; omega)] at h1
        cases h1
    · rw [List.getElem?_set_ne e] at h1
      exact ⟨h1, fun z => (List.mem_cons.mp z).elim (fun q => e q.symm) h2⟩
theorem iniC_get {ds : List Nat} {k : Nat} {σ : St} {i : Nat} {v : V} (h : (iniC ds k σ)[i]? = some (some v)) : σ[i]? = some (some v) ∧ i ∉ ds ∧ i < σ.length := by
  unfold iniC at h
  by_cases hl : i < σ.length
  · rw [List.getElem?_append_left (by rw [forget_len]; exact hl)] at h
    obtain ⟨h1, h2⟩ := forget_get ds σ i v h
    exact ⟨h1, h2, hl⟩
  · rw [List.getElem?_append_right (by rw [forget_len]; omega)] at h
    have := List.getElem?_eq_some_iff.mp h
    obtain ⟨h1, h2⟩ := this
    rw [List.getElem_replicate] at h2
    cases h2
def PTs (X : Cx) (ifs : List Expr) (t : TT) : Prop :=
  ∀ (pins : List (Addr × Obj)) (s : Shared) (σ : St) (H : Hp) (Q : Bool → Hp → Prop), Inv X pins σ H s → t σ H Q →
    wpAny (model X.prog X.w) X.A (forIn ifs true fun c r => if r = true then do let ok ← isTrue c X.env (eval c X.env); pure (ForInStep.yield ok) else pure (ForInStep.yield r)) (TP X pins σ Q) X.xe s
def tYes : TT := fun _ H Q => Q true H
theorem pts_nil {X : Cx} : PTs X [] tYes := fun _ _ _ H _ I h => wpAny_tests_nil ⟨H, I, h⟩
theorem pts_one {X : Cx} {c : Expr} {t : TT} (h : PT X c t) : PTs X [c] t := fun pins s σ H Q I q => wpAny_tests_one (h pins s σ H Q I q)
def GK (g : TG) (js : List Nat) : Prop := ∀ x σ H Q, g x σ H Q → g x σ H fun σ' H' => Q σ' H' ∧ σ'.length = σ.length ∧ ∀ i, i ∉ js → σ'[i]? = σ[i]?
theorem gk_name (j : Nat) : GK (gName j) [j] := fun x σ H Q h => by
  refine ⟨h, by simp, fun i hi => ?_⟩
  rw [List.getElem?_set_ne (fun e => hi (by simp [e]))]
theorem gk_two (K : PySem.W.Frag) (i j : Nat) : GK (gTup K 2 (gCons (gName i) (gCons (gName j) gNil))) [i, j] := fun x σ H Q h => by
  obtain ⟨a, xs, e, hq, hl, v, r, e1, u, r2, e2, e3, q⟩ := h
  refine ⟨a, xs, e, hq, hl, v, r, e1, u, r2, e2, e3, q, by simp, fun n hn => ?_⟩
  have h1 : n ≠ i := fun z => hn (by simp [z])
  have h2 : n ≠ j := fun z => hn (by simp [z])
  rw [List.getElem?_set_ne (Ne.symm h2), List.getElem?_set_ne (Ne.symm h1)]
def tComp (wi : TI) (g : TG) (ds : List Nat) (k : Nat) (tc : TT) (te : TE) : TE := fun σ H Q => wi σ H fun J H1 => ∀ D, H1 D = none →
  ∃ W : Nat → Nat → List V → Hp → Prop, (∃ m, W 0 m [] (upd H1 D (.lst []))) ∧ ∀ i m acc H2, W i m acc H2 →
    (J.stop i H2 ∧ Q (.ref D) H2) ∨ (J.go i H2 ∧ ∀ x H3, J.yld i H2 x H3 → g x (iniC ds k σ) H3 fun σ4 H4 => tc σ4 H4 fun b H5 => if b = true then
      te σ4 H5 fun y H6 => H6 D = some (.lst acc) ∧ acc.length < sizeLine ∧ ∃ m', m' < m ∧ W (i + 1) m' (acc ++ [y]) (upd H6 D (.lst (acc ++ [y])))
      else ∃ m', m' < m ∧ W (i + 1) m' acc H5)
section
variable {X : Cx}
theorem comp_inv {scope : Scope} {N' : List Str} {cl : List (Str × Addr)} {ds : List Nat} {k : Nat} {pins : List (Addr × Obj)} {σ : St} {H : Hp} {s : Shared} {fp : List Addr} {h₁ : Heap} {tk : Nat} {m : Str → Option Value} {C : Addr} {news : List Str}
    (I : Inv X pins σ H s) (f : ∀ b ∈ fp, FpOk X pins H b) (fo : ∀ b ∈ fp, ∃ o, s.heap.get? b = some o)
    (hkind : scope.kind = .function) (hcell : ∀ y ∈ scope.names, y.2 ≠ .cell)
    (hfree : ∀ y ∈ scope.names, y.2 = .free → X.env.scope.names.lookup y.1 = some .cell ∨ X.env.scope.names.lookup y.1 = some .free)
    (hcl : ∀ x c, cl.lookup x = some c → X.env.cells.lookup x = some c) (hcl2 : ∀ x, (x, NameKind.free) ∈ scope.names → ∃ c, cl.lookup x = some c)
    (hN : N' = X.N ++ news) (hk : news.length = k) (hloc : ∀ i x, X.N[i]? = some x → scope.names.lookup x = some .local → i ∈ ds)
    (hC : s.heap.objs.size < C) (keep : ∀ b o, s.heap.get? b = some o → h₁.get? b = some o) (hns : h₁.Ns C m)
    (hD : h₁.get? s.heap.objs.size = some { cls := .type "list", data := .seq ([] : List Value).toArray 0 }) :
    Inv (X.comp scope N' cl C s H fp) pins (iniC ds k σ) (upd H s.heap.objs.size (.lst [])) { s with heap := h₁, toks := tk } := by
  have fresh : H s.heap.objs.size = none := I.hok.fresh (Nat.le_refl _)
  have hok1 : HOk X.prog X.w (upd H s.heap.objs.size (.lst [])) h₁ := I.hok.laid keep (Nat.le_refl _) ⟨Nat.zero_le _, [], 0, .nil, hD⟩
  have lowfp : ∀ b ∈ fp, b < s.heap.objs.size := fun b hb => let ⟨_, e⟩ := fo b hb; Heap.lt_size e
  have stkne : ∀ b, b ∈ frs X.stack → ∀ p ∈ X.pn ++ pins, p.1 ≠ b := fun b hb p hp e => by
    obtain ⟨_, _, n1, n2, _⟩ := I.pin p hp
    rcases List.mem_cons.mp (I.stkSub b hb) with z | z
    · exact n1 (e.trans z)
    · exact n2 (e ▸ z)
  have celllt : ∀ x c, cl.lookup x = some c → c < s.heap.objs.size := fun x c e => by
    obtain ⟨v, z⟩ := I.cell x c (hcl x c e)
    exact z.lt
  have kind_of : ∀ x, (relabel scope X.env).names.lookup x = some .cell ∨ (relabel scope X.env).names.lookup x = some .free → scope.names.lookup x = some .free := fun x h => by
    rw [relabel_lookup] at h
    cases e : scope.names.lookup x with
    | none => rw [e] at h; simp at h
    | some q =>
      rw [e] at h
      have hm := mem_of_lookup e
      have nc : q ≠ .cell := hcell _ hm
      simp only [Option.map_some, Option.some.injEq] at h
      unfold reKind at h
      split at h
      · rename_i hc
        have : (q == NameKind.free) = true := by
          cases hq : q == NameKind.free with
          | true => rfl
          | false => rw [hq] at hc; simp at hc
        have : q = .free := by simpa using this
        rw [this]
      · rcases h with h | h
        · exact absurd h nc
        · rw [h]
  refine ⟨⟨I.ok.mod, ?_, I.ok.glob, I.ok.blt, Nat.le_of_lt hC, ?_, ?_, ?_, I.ok.hd, I.ok.frames, .inl rfl, ?_, I.bs, Nat.le_trans I.ok.bsz I.sz, ?_, ?_, I.stack, I.stkFree⟩, rfl, I.bare, Un.laid keep (Nat.le_refl _) fresh, ⟨m, hns, ?_⟩, ?_, ?_, ?_, ?_, hok1, ?_⟩
  · exact hkind
  · intro x y c hx hy
    exact I.ok.inj x y c (hcl x c hx) (hcl y c hy)
  · intro x hx
    exact hcl2 x (mem_of_lookup (kind_of x hx))
  · intro x c hf
    exact absurd hf (by simp [Cx.comp])
  · intro b hb
    refine ⟨Nat.ne_of_lt (Nat.lt_trans (lowfp b hb) hC), fun x c e z => ?_⟩
    exact (f b hb).2.2.2.2.1 x c (hcl x c e) z
  · intro b o e hb
    rcases (f b hb).2.2.2.1 with z | z
    · exact I.ok.noex b o e z
    · exact absurd (Nat.lt_of_lt_of_le (Heap.lt_size e) (Nat.le_trans I.ok.bsz z)) (Nat.lt_irrefl _)
  · intro b hb hs
    rcases List.mem_cons.mp (I.stkSub b hs) with z | z
    · exact (f b hb).2.1 z
    · exact (f b hb).2.2.1 z
  · intro i x v e1 e2 vis
    obtain ⟨g1, g2, g3⟩ := iniC_get e2
    have e1' : X.N[i]? = some x := by
      have e1 : N'[i]? = some x := e1
      rw [hN, List.getElem?_append_left (by rw [← I.len]; exact g3)] at e1
      exact e1
    have hv : scope.names.lookup x = some .free := by
      rcases vis with z | z | z
      · exfalso
        have z : (relabel scope X.env).names.lookup x = some .local := z
        rw [relabel_lookup] at z
        cases e : scope.names.lookup x with
        | none => rw [e] at z; simp at z
        | some q =>
          rw [e] at z
          simp only [Option.map_some, Option.some.injEq] at z
          unfold reKind at z
          split at z
          · cases z
          · subst z
            exact g2 (hloc i x e1' e)
      · exact kind_of x (.inl z)
      · exact kind_of x (.inr z)
    have hm := mem_of_lookup hv
    have hX := hfree _ hm rfl
    obtain ⟨mX, _, hl⟩ := I.loc
    have visX : Vis X.env.scope x := by
      rcases hX with z | z
      · exact .inr (.inl z)
      · exact .inr (.inr z)
    obtain ⟨u, r, l⟩ := hl i x v e1' g1 visX
    refine ⟨u, r, .inr ⟨?_, ?_⟩⟩
    · show (relabel scope X.env).names.lookup x = some .cell ∨ (relabel scope X.env).names.lookup x = some .free
      rw [relabel_lookup, hv]
      show some (reKind X.env x .free) = some .cell ∨ some (reKind X.env x .free) = some .free
      unfold reKind
      split
      · exact .inl rfl
      · exact .inr rfl
    · obtain ⟨c, hc⟩ := hcl2 x hm
      have hc' := hcl x c hc
      refine ⟨c, hc, ?_⟩
      rcases l with ⟨kl, _⟩ | ⟨_, c', hc2, o, ho, hd⟩
      · exfalso
        have kl : X.env.scope.names.lookup x = some .local := kl
        rcases hX with z | z
        · rw [kl] at z; cases z
        · rw [kl] at z; cases z
      · rw [hc'] at hc2
        cases hc2
        exact ⟨o, keep c o ho, hd⟩
  · intro x c e
    obtain ⟨v, o, ho, hd⟩ := I.cell x c (hcl x c e)
    exact ⟨v, o, keep c o ho, hd⟩
  · show upd H s.heap.objs.size (.lst []) C = none
    rw [upd_ne (Nat.ne_of_gt hC)]
    exact I.hok.fresh (Nat.le_of_lt hC)
  · intro x c e
    rw [upd_ne (Nat.ne_of_lt (celllt x c e))]
    exact I.freeC x c (hcl x c e)
  · intro p hp
    obtain ⟨e, n, n1, n2, d⟩ := I.pin p hp
    have lt := Heap.lt_size e
    refine ⟨keep _ _ e, ?_, Nat.ne_of_lt (Nat.lt_trans lt hC), fun z => stkne p.1 z p hp rfl, d⟩
    rw [upd_ne (Nat.ne_of_lt lt)]
    exact n
  · show (iniC ds k σ).length = N'.length
    unfold iniC
    rw [List.length_append, forget_len, I.len, hN, List.length_append, List.length_replicate, hk]
theorem comp_out {scope : Scope} {N' : List Str} {cl : List (Str × Addr)} {pins : List (Addr × Obj)} {σ σ' : St} {H H' : Hp} {s s' : Shared} {fp : List Addr} {h' : Heap} {C : Addr}
    (I : Inv X pins σ H s) (f : ∀ b ∈ fp, FpOk X pins H b) (I' : Inv (X.comp scope N' cl C s H fp) pins σ' H' s') (hC : s.heap.objs.size < C) (sb : Heap.SameBut C s'.heap h') : Inv X pins σ H' { s' with heap := h' } := by
  have u := I'.base
  have hfree : H' C = none := I'.free
  have ne : ∀ b o, s.heap.get? b = some o → b ≠ C := fun b o e => Nat.ne_of_lt (Nat.lt_trans (Heap.lt_size e) hC)
  have u' : Un (frs X.stack) fp H H' s.heap h' := by
    refine ⟨fun b o e n h1 h2 => ?_, fun b o e n h1 h2 => ?_, u.free, fun b o e h2 => ?_, u.tups, u.frzs, u.tbls⟩
    · exact (sb.2 b (ne b o e)).trans (u.keep b o e n h1 h2)
    · obtain ⟨sl, q⟩ := u.slot b o e n h1 h2
      exact ⟨sl, (sb.2 b (ne b o e)).trans q⟩
    · obtain ⟨o', q⟩ := u.there b o e h2
      exact ⟨o', (sb.2 b (ne b o e)).trans q⟩
  have hok' : HOk X.prog X.w H' h' := fun b ob e => by
    refine (I'.hok b ob e).stay (fun c w' hc q => (sb.2 c ?_).trans q) (fun _ q => q) fun _ _ q => q
    rintro rfl
    rcases hc with rfl | hc
    · rw [hfree] at e; cases e
    · rw [hfree] at hc; cases hc
  exact I.call' (s' := { s' with heap := h' }) I'.os u' hok' I'.bare fun b hb => ⟨(f b hb).2.2.2.1, (f b hb).2.1, (f b hb).2.2.2.2.1, (f b hb).2.2.2.2.2⟩
theorem Inv.block_gone {pins : List (Addr × Obj)} {σ : St} {H : Hp} {s : Shared} {C : Addr} {h' : Heap} (I : Inv X pins σ H s) (hn : H C = none) (hL : C ≠ X.env.locals) (h1 : X.s₀.heap.objs.size ≤ C)
    (h2 : ∀ x c, X.env.cells.lookup x = some c → c ≠ C) (h3 : ∀ p ∈ X.pn ++ pins, p.1 ≠ C) (sb : Heap.SameBut C s.heap h') : Inv X pins σ H { s with heap := h' } :=
  I.turned (t' := s.toks) (fun b o hb e => (sb.2 b hb).trans e) hn hL (.inr h1) h2 h3
theorem comp_core (N' : List Str) (ds : List Nat) (k : Nat) {news : List Str} {js : List Nat} {elt tg iter : Expr} {ifs : List Expr} {scope : Scope} {pos : Pos} {wi : TI} {g : TG} {tc : TT} {te : TE}
    {pins : List (Addr × Obj)} {s : Shared} {σ : St} {H : Hp} {Q : VK} {use : Option (Value → Sem Unit)} {QV : Value → Shared → Prop}
    (hc : X.calm = true) (hi : PI X tg iter wi)
    (hb : ∀ cl C s₀ H₀ ex, PG (X.comp scope N' cl C s₀ H₀ ex) tg g ∧ PTs (X.comp scope N' cl C s₀ H₀ ex) ifs tc ∧ PE (X.comp scope N' cl C s₀ H₀ ex) elt te)
    (hg : GK g js) (hj : ∀ σ : St, σ.length = X.N.length → ∀ j ∈ js, ∀ v, (iniC ds k σ)[j]? ≠ some (some v))
    (hkind : scope.kind = .function) (hcell : ∀ y ∈ scope.names, y.2 ≠ .cell)
    (hnames : ∀ y ∈ scope.names, y.2 = .local → scope.names.lookup y.1 = some .local)
    (hfree : ∀ y ∈ scope.names, y.2 = .free → X.env.scope.names.lookup y.1 = some .cell ∨ X.env.scope.names.lookup y.1 = some .free)
    (hN : N' = X.N ++ news) (hk : news.length = k) (hloc : ∀ i x, X.N[i]? = some x → scope.names.lookup x = some .local → i ∈ ds)
    (hs : ∀ x, foldedSetIterable iter X.env x = pure x) (I : Inv X pins σ H s) (h : tComp wi g ds k tc te σ H Q)
    (fin : ∀ (D C : Addr) (H' : Hp) (s' : Shared) (m : Str → Option Value), Inv X pins σ H' s' → Q (.ref D) H' → s'.heap.Ns C m → H' C = none → C ≠ X.env.locals → X.s₀.heap.objs.size ≤ C → (∀ x c, X.env.cells.lookup x = some c → c ≠ C) → (∀ p ∈ X.pn ++ pins, p.1 ≠ C) →
      compPost (model X.prog X.w) X.A X.xe use QV (.ref D) C (.ok .next) s') :
    wpAny (model X.prog X.w) X.A (comprehension (.ListComp elt [⟨tg, iter, ifs, 0⟩] scope pos) scope X.env (firstIterPos [⟨tg, iter, ifs, 0⟩] pos) (newList []) (firstAsync [⟨tg, iter, ifs, 0⟩]) (firstIter [⟨tg, iter, ifs, 0⟩] X.env) use) QV X.xe s := by
  have hcells : ∀ y ∈ scope.names, y.2 = .free → ∃ c, X.env.cells.lookup y.1 = some c := fun y hy e => I.ok.has y.1 (hfree y hy e)
  obtain ⟨cl, hclos, hcl, hcl2⟩ := closureFor_of hcells
  refine wpAny_comprehension_free (use := use) rfl hs hclos hkind hnames (thn (hi pins s σ H _ I h) fun v s1 h1 => thn h1 fun itv s2 h2 => ?_)
  obtain ⟨it, fp, tn, J, H2, e, I2, T, st2, f2, q⟩ := h2
  subst e
  have I20 := I2
  obtain ⟨W, ⟨m0, w0⟩, turn⟩ := q s2.heap.objs.size (I2.hok.fresh (Nat.le_refl _))
  refine wpAny_newObj_type (wpAny_newFunctionEnv hcell (by intro y hy; simp at hy) (fun h₁ hns₁ hsb₁ => ?_) hkind)
  dsimp only at hns₁ hsb₁ ⊢
  generalize hH2 : s2.heap.push { cls := .type "list", dict := none, data := .seq ([] : List Value).toArray } = G2 at hns₁ hsb₁ ⊢
  have hC : s2.heap.objs.size < G2.objs.size := by rw [← hH2, Heap.size_push]; exact Nat.lt_succ_self _
  have keep : ∀ b o, s2.heap.get? b = some o → h₁.get? b = some o := fun b o e =>
    hsb₁.extBut b o (Nat.ne_of_lt (Nat.lt_trans (Heap.lt_size e) hC)) (Heap.get?_push_of_some _ (hH2 ▸ Heap.get?_push_of_some _ e))
  have hD : h₁.get? s2.heap.objs.size = some { cls := .type "list", data := .seq ([] : List Value).toArray 0 } := hsb₁.extBut _ _ (Nat.ne_of_lt hC) (Heap.get?_push_of_some _ (hH2 ▸ Heap.get?_push_size _ rfl))
  have fo : ∀ b ∈ fp, ∃ o, s2.heap.get? b = some o := fun b hb => let ⟨o, e, _⟩ := T.obj _ _ st2 b hb; ⟨o, e⟩
  obtain ⟨hPG, hPT, hPE⟩ := hb cl G2.objs.size s2 H2 fp
  generalize hX' : X.comp scope N' cl G2.objs.size s2 H2 fp = X' at hPG hPT hPE
  have xp : X'.prog = X.prog := by rw [← hX']; rfl
  have xw : X'.w = X.w := by rw [← hX']; rfl
  have xK : X'.K = X.K := by rw [← hX']; rfl
  have xA : X'.A = X.A := by rw [← hX']; rfl
  have xe : X'.xe = fun _ _ => False := by rw [← hX']; rfl
  have xenv : X'.env = compEnvC scope cl G2.objs.size X.env := by rw [← hX']; rfl
  have hc' : X'.calm = true := by rw [← hX']; exact hc
  have start : Inv X' pins (iniC ds k σ) (upd H2 s2.heap.objs.size (.lst [])) { s2 with heap := h₁, toks := s2.toks + ([] : List (Str × Value)).length } := by
    rw [← hX']
    exact comp_inv I2 f2 fo hkind hcell hfree hcl hcl2 hN hk hloc hC keep hns₁ hD
  have st1 : tn 0 h₁ := T.keep _ _ _ st2 fun b _ o e => keep b o e
  have fpn : ∀ b ∈ fp, upd H2 s2.heap.objs.size (.lst []) b = none := fun b hb => by
    obtain ⟨o, e⟩ := fo b hb
    rw [upd_ne (Nat.ne_of_lt (Heap.lt_size e))]
    exact (f2 b hb).1
  have stat : ∀ {H' : Hp}, (∀ b ∈ fp, H' b = none) → ∀ b ∈ fp, FpOk X' pins H' b := fun hn b hb => by
    obtain ⟨f0, f1, f3, f4, f5, f6⟩ := f2 b hb
    obtain ⟨o, e⟩ := fo b hb
    refine ⟨hn b hb, ?_, ?_, ?_, ?_, ?_⟩
    · rw [xenv]; exact Nat.ne_of_lt (Nat.lt_trans (Heap.lt_size e) hC)
    · intro z
      have z : b ∈ frs X.stack := by rw [← hX'] at z; exact z
      rcases List.mem_cons.mp (I2.stkSub b z) with y | y
      · exact f1 y
      · exact f3 y
    · rw [← hX']; exact .inl hb
    · intro x c ec
      rw [xenv] at ec
      exact f5 x c (hcl x c ec)
    · intro p hp
      rw [← hX'] at hp
      exact f6 p hp
  have loop : codeAny (model X.prog X.w) X.A (.compLoop (.ListComp elt [⟨tg, iter, ifs, 0⟩] scope pos) 0 (.ref it) (.ref s2.heap.objs.size) (compEnvC scope cl G2.objs.size X.env))
      (compPost (model X.prog X.w) X.A X.xe use QV (.ref s2.heap.objs.size) G2.objs.size) { s2 with heap := h₁, toks := s2.toks + ([] : List (Str × Value)).length } := by
    refine compLoop_tg (fun n s' => ∃ i acc H', Inv X' pins (iniC ds k σ) H' s' ∧ tn i s'.heap ∧ (∀ b ∈ fp, H' b = none) ∧ W i n acc H') ?_ m0 ⟨0, [], _, start, st1, fpn, w0⟩
    rintro n s3 ⟨i, acc, H3, I3, st3, fr3, w3⟩
    rcases turn i n acc H3 w3 with ⟨stop, qn⟩ | ⟨go, step⟩
    · have td := T.done X' xp xw xK hc' i pins s3 _ H3 (fun _ _ => False) I3 (stat fr3) st3 stop
      rw [xA] at td
      refine thn td fun r s4 ⟨hr, I4⟩ => ?_
      subst hr
      have I4' := I4
      rw [← hX'] at I4'
      obtain ⟨m', hn', _⟩ := I4'.loc
      refine fin s2.heap.objs.size G2.objs.size H3 s4 m' (comp_out (h' := s4.heap) I2 f2 I4' hC (.refl ..)) qn hn' I4'.free (Nat.ne_of_gt (Nat.lt_trans I2.lt hC)) (Nat.le_of_lt (Nat.lt_of_le_of_lt I2.sz hC)) (fun x c e z => ?_) fun p hp z => ?_
      · obtain ⟨v, q⟩ := I2.cell x c e
        exact absurd (Nat.lt_trans q.lt hC) (by rw [z]; exact Nat.lt_irrefl _)
      · exact absurd (Nat.lt_trans (Heap.lt_size (I2.pin p hp).1) hC) (by rw [z]; exact Nat.lt_irrefl _)
    · have ti := T.item X' xp xw xK hc' i pins s3 _ H3 (fun _ _ => False) I3 (stat fr3) st3 go
      rw [xA] at ti
      refine thn ti fun r s4 ⟨u, hr, h4⟩ => ?_
      subst hr
      refine thn h4 fun _ s5 ⟨x, H5, I5, r5, y5, st5, fr5⟩ => ?_
      have I5' := I5.pinned (stat fr5) (T.obj _ _ st5)
      have pg := hPG _ s5 _ H5 x u _ I5' r5 (hg x _ H5 _ (step x H5 y5))
      rw [xp, xw, xA, xenv, xe] at pg
      refine thn pg fun _ s6 ⟨σ6, H6, I6, ⟨q6, len6, keep6⟩⟩ => ?_
      have again : ∀ {H7 : Hp} {s7 : Shared}, Inv X' (pins ++ pinsAt fp s5.heap) σ6 H7 s7 → Inv X' pins (iniC ds k σ) H7 s7 ∧ tn (i + 1) s7.heap ∧ ∀ b ∈ fp, H7 b = none := fun {H7 s7} I7 => by
        refine ⟨I7.unpinned.weak len6.symm fun j v e => ?_, T.keep _ _ _ st5 fun b hb o e => (I7.pin (b, o) (List.mem_append_right _ (List.mem_append_right _ (mem_pinsAt hb e)))).1, fun b hb => ?_⟩
        · rw [keep6 j fun z => hj σ I.len j z v e]
          exact e
        · obtain ⟨o, e, d⟩ := T.obj _ _ st5 b hb
          exact (I7.pin (b, o) (List.mem_append_right _ (List.mem_append_right _ (mem_pinsAt hb e)))).2.1
      have pt := hPT _ s6 σ6 H6 _ I6 q6
      rw [xp, xw, xA, xenv, xe] at pt
      refine thn pt fun ok s7 ⟨H7, I7, q7⟩ => ?_
      cases ok with
      | false =>
        obtain ⟨m', hm, w7⟩ := q7
        obtain ⟨a1, a2, a3⟩ := again I7
        exact ⟨m', hm, i + 1, acc, H7, a1, a2, a3, w7⟩
      | true =>
        have pe := hPE _ s7 σ6 H7 _ I7 q7
        rw [xp, xw, xA, xenv, xe] at pe
        refine thn pe fun yv s8 ⟨y, H8, I8, r8, hD8, hlen, m', hm, w8⟩ => ?_
        have ap := mt_append (X := X') _ s8 σ6 H8 (.ref s2.heap.objs.size) [y] _ [yv] (fun v H9 => H9 = upd H8 s2.heap.objs.size (.lst (acc ++ [y]))) I8 rfl (.cons r8 .nil) ⟨_, acc, y, rfl, rfl, hD8, hlen, rfl⟩
        rw [xp, xw, xA, xe] at ap
        refine thn ap fun _ s9 ⟨_, H9, I9, _, e9⟩ => ?_
        subst e9
        obtain ⟨a1, a2, a3⟩ := again I9
        exact ⟨m', hm, i + 1, acc ++ [y], _, a1, a2, a3, w8⟩
  exact codeAny_compStart_list loop (T.self _ 0 _ _ _ st1 loop)
theorem pe_comp (N' : List Str) (ds : List Nat) (k : Nat) {news : List Str} {js : List Nat} {elt tg iter : Expr} {ifs : List Expr} {scope : Scope} {pos : Pos} {wi : TI} {g : TG} {tc : TT} {te : TE}
    (hc : X.calm = true) (hi : PI X tg iter wi)
    (hb : ∀ cl C s₀ H₀ ex, PG (X.comp scope N' cl C s₀ H₀ ex) tg g ∧ PTs (X.comp scope N' cl C s₀ H₀ ex) ifs tc ∧ PE (X.comp scope N' cl C s₀ H₀ ex) elt te)
    (hg : GK g js) (hj : ∀ σ : St, σ.length = X.N.length → ∀ j ∈ js, ∀ v, (iniC ds k σ)[j]? ≠ some (some v))
    (hkind : scope.kind = .function) (hcell : ∀ y ∈ scope.names, y.2 ≠ .cell)
    (hnames : ∀ y ∈ scope.names, y.2 = .local → scope.names.lookup y.1 = some .local)
    (hfree : ∀ y ∈ scope.names, y.2 = .free → X.env.scope.names.lookup y.1 = some .cell ∨ X.env.scope.names.lookup y.1 = some .free)
    (hN : N' = X.N ++ news) (hk : news.length = k) (hloc : ∀ i x, X.N[i]? = some x → scope.names.lookup x = some .local → i ∈ ds)
    (hs : ∀ x, foldedSetIterable iter X.env x = pure x := by intro _; rfl) :
    PE X (.ListComp elt [⟨tg, iter, ifs, 0⟩] scope pos) (tComp wi g ds k tc te) := by
  intro pins s σ H Q I h
  rw [eval_ListComp]
  refine comp_core N' ds k hc hi hb hg hj hkind hcell hnames hfree hN hk hloc hs I h fun D C H' s' m I' q hn n1 n2 n3 n4 n5 => ?_
  exact ⟨m, hn, fun h' sb => ⟨.ref D, H', I'.block_gone n1 n2 n3 n4 n5 sb, rfl, q⟩⟩
theorem ps_comp (N' : List Str) (ds : List Nat) (k : Nat) {i : Nat} {x : Str} {pos' spos : Pos} {news : List Str} {js : List Nat} {elt tg iter : Expr} {ifs : List Expr} {scope : Scope} {pos : Pos} {wi : TI} {g : TG} {tc : TT} {te : TE}
    (hNd : X.N.Nodup) (hi' : X.N[i]? = some x) (hx : Loc X.env.scope x) (hf : X.fn x = true ∨ X.env.scope.names.lookup x = some .local)
    (hsw : swapsWith (.ListComp elt [⟨tg, iter, ifs, 0⟩] scope pos) (some (.Name x pos')) spos.line X.env = pure true)
    (hc : X.calm = true) (hi : PI X tg iter wi)
    (hb : ∀ cl C s₀ H₀ ex, PG (X.comp scope N' cl C s₀ H₀ ex) tg g ∧ PTs (X.comp scope N' cl C s₀ H₀ ex) ifs tc ∧ PE (X.comp scope N' cl C s₀ H₀ ex) elt te)
    (hg : GK g js) (hj : ∀ σ : St, σ.length = X.N.length → ∀ j ∈ js, ∀ v, (iniC ds k σ)[j]? ≠ some (some v))
    (hkind : scope.kind = .function) (hcell : ∀ y ∈ scope.names, y.2 ≠ .cell)
    (hnames : ∀ y ∈ scope.names, y.2 = .local → scope.names.lookup y.1 = some .local)
    (hfree : ∀ y ∈ scope.names, y.2 = .free → X.env.scope.names.lookup y.1 = some .cell ∨ X.env.scope.names.lookup y.1 = some .free)
    (hN : N' = X.N ++ news) (hk : news.length = k) (hloc : ∀ i x, X.N[i]? = some x → scope.names.lookup x = some .local → i ∈ ds)
    (hs : ∀ x, foldedSetIterable iter X.env x = pure x := by intro _; rfl) :
    PS X (.Assign [.Name x pos'] (.ListComp elt [⟨tg, iter, ifs, 0⟩] scope pos) spos) (tAsg (tComp wi g ds k tc te) (gName i)) := by
  intro pins s σ H D I h
  rw [exec_Assign_Name_used _ _ _ _ hsw]
  refine wpAny_bind (wpAny_standAt (wpAny_bind ?_))
  show wpAny _ X.A (do let _ ← comprehension (.ListComp elt [⟨tg, iter, ifs, 0⟩] scope pos) scope X.env _ (newList []) false (eval iter X.env) (some (assign (.Name x pos') X.env))) _ _ s
  refine wpAny_bind (wpAny_mono (comp_core (QV := fun _ s' => SP X pins D .next s') (use := some (assign (.Name x pos') X.env)) N' ds k hc hi hb hg hj hkind hcell hnames hfree hN hk hloc hs I h
    fun Da C H' s' m I' q hn n1 n2 n3 n4 n5 => ?_) (fun _ s' hq => wpAny_pure (wpAny_pure hq)) fun _ _ e => e)
  show wpAny _ X.A (assign (.Name x pos') X.env (.ref Da)) _ _ _
  refine wpAny_assign_Name (store_ok2 I' hNd hi' hx (v := .ref Da) rfl (fun s'' I'' ⟨a, sb, ha⟩ => ?_) hf)
  have hCa : C ≠ a := by
    rcases ha with z | z
    · rw [z]; exact n2
    · exact fun e => n4 x a z e.symm
  exact ⟨m, hn.sameBut sb hCa, fun h' sb' => ⟨_, H', I''.block_gone n1 n2 n3 n4 n5 sb', q⟩⟩
def compOk (N0 : List Str) (ds : List Nat) (sc0 scope : Scope) : Bool :=
  scope.kind == .function && scope.names.all (fun y => !(y.2 == .cell) && (!(y.2 == .local) || scope.names.lookup y.1 == some .local) && (!(y.2 == .free) || (sc0.names.lookup y.1 == some .cell || sc0.names.lookup y.1 == some .free))) &&
    N0.zipIdx.all fun p => !(scope.names.lookup p.1 == some .local) || ds.contains p.2
theorem comp_conds {N0 : List Str} {ds js : List Nat} {sc0 scope : Scope} {k : Nat} (ok : compOk N0 ds sc0 scope = true) (hj : (js.all fun j => ds.contains j || decide (N0.length ≤ j)) = true) :
    (∀ σ : St, σ.length = N0.length → ∀ j ∈ js, ∀ v, (iniC ds k σ)[j]? ≠ some (some v)) ∧ scope.kind = .function ∧ (∀ y ∈ scope.names, y.2 ≠ .cell) ∧ (∀ y ∈ scope.names, y.2 = .local → scope.names.lookup y.1 = some .local) ∧
    (∀ y ∈ scope.names, y.2 = .free → sc0.names.lookup y.1 = some .cell ∨ sc0.names.lookup y.1 = some .free) ∧ (∀ i x, N0[i]? = some x → scope.names.lookup x = some .local → i ∈ ds) := by
  unfold compOk at ok
  rw [Bool.and_eq_true, Bool.and_eq_true] at ok
  obtain ⟨⟨h1, h2⟩, h3⟩ := ok
  have h2 := List.all_eq_true.mp h2
  have h3 := List.all_eq_true.mp h3
  have hj := List.all_eq_true.mp hj
  refine ⟨?_, (by simpa using h1), ?_, ?_, ?_, ?_⟩
  · intro σ hl j hm v e
    obtain ⟨_, q2, q3⟩ := iniC_get e
    have := hj j hm
    rw [Bool.or_eq_true] at this
    rcases this with z | z
    · exact q2 (by simpa using z)
    · have := of_decide_eq_true z
      omega
  · intro y hy e
    have := h2 y hy
    rw [Bool.and_eq_true, Bool.and_eq_true] at this
    have z := this.1.1
    rw [e] at z
    exact absurd z (by decide)
  · intro y hy e
    have := h2 y hy
    rw [Bool.and_eq_true, Bool.and_eq_true] at this
    have z := this.1.2
    rw [e] at z
    simpa using z
  · intro y hy e
    have := h2 y hy
    rw [Bool.and_eq_true, Bool.and_eq_true] at this
    have z := this.2
    rw [e] at z
    simpa using z
  · intro i x e1 e2
    have := h3 (x, i) (by rw [List.mem_zipIdx_iff_getElem?]; exact e1)
    rw [Bool.or_eq_true] at this
    rcases this with z | z
    · rw [e2] at z
      exact absurd z (by decide)
    · simpa using z
theorem comp_of (N0 news : List Str) (ds js : List Nat) (sc0 : Scope) {elt tg iter : Expr} {ifs : List Expr} {scope : Scope} {pos : Pos} {wi : TI} {g : TG} {tc : TT} {te : TE}
    (hc : X.calm = true) (hN0 : X.N = N0) (hsc : X.env.scope = sc0) (ok : compOk N0 ds sc0 scope = true) (hj : (js.all fun j => ds.contains j || decide (N0.length ≤ j)) = true) (hg : GK g js)
    (hi : PI X tg iter wi)
    (hb : ∀ cl C s₀ H₀ ex, PG (X.comp scope (N0 ++ news) cl C s₀ H₀ ex) tg g ∧ PTs (X.comp scope (N0 ++ news) cl C s₀ H₀ ex) ifs tc ∧ PE (X.comp scope (N0 ++ news) cl C s₀ H₀ ex) elt te)
    (hs : ∀ x, foldedSetIterable iter X.env x = pure x := by intro _; rfl) :
    PE X (.ListComp elt [⟨tg, iter, ifs, 0⟩] scope pos) (tComp wi g ds news.length tc te) := by
  subst hN0
  subst hsc
  obtain ⟨h1, h2, h3, h4, h5, h6⟩ := comp_conds ok hj
  exact pe_comp (X.N ++ news) ds news.length hc hi hb hg h1 h2 h3 h4 h5 rfl rfl h6 hs
theorem comp_set (N0 news : List Str) (ds js : List Nat) (sc0 : Scope) {i : Nat} {x : Str} {pos' spos : Pos} {elt tg iter : Expr} {ifs : List Expr} {scope : Scope} {pos : Pos} {wi : TI} {g : TG} {tc : TT} {te : TE}
    (hc : X.calm = true) (hN0 : X.N = N0) (hsc : X.env.scope = sc0) (ok : compOk N0 ds sc0 scope = true) (hj : (js.all fun j => ds.contains j || decide (N0.length ≤ j)) = true) (hg : GK g js)
    (hi : PI X tg iter wi)
    (hb : ∀ cl C s₀ H₀ ex, PG (X.comp scope (N0 ++ news) cl C s₀ H₀ ex) tg g ∧ PTs (X.comp scope (N0 ++ news) cl C s₀ H₀ ex) ifs tc ∧ PE (X.comp scope (N0 ++ news) cl C s₀ H₀ ex) elt te)
    (hNd : N0.Nodup) (hi' : N0[i]? = some x := by rfl) (hx : sc0.names.lookup x = some .local := by rfl)
    (hsw : swapsWith (.ListComp elt [⟨tg, iter, ifs, 0⟩] scope pos) (some (.Name x pos')) spos.line X.env = pure true := by rfl)
    (hs : ∀ x, foldedSetIterable iter X.env x = pure x := by intro _; rfl) :
    PS X (.Assign [.Name x pos'] (.ListComp elt [⟨tg, iter, ifs, 0⟩] scope pos) spos) (tAsg (tComp wi g ds news.length tc te) (gName i)) := by
  subst hN0
  subst hsc
  obtain ⟨h1, h2, h3, h4, h5, h6⟩ := comp_conds ok hj
  exact ps_comp (X.N ++ news) ds news.length hNd hi' (.inl hx) (.inr hx) hsw hc hi hb hg h1 h2 h3 h4 h5 rfl rfl h6 hs
end
end L2
namespace L2
open PySem PySem.Spec PyProof.Rows
section
variable {X : Cx}
theorem call_isi : CallR X (.builtin "isinstance") (fun xs H Q => ∃ x T t b, xs = [x, .ty T] ∧ TyOf X.K H x t ∧ PySem.W.kitOne X.K t (.type T) = some b ∧ Q (.bl b) H) := by
  intro pins s σ H xs us Q I r h
  obtain ⟨x, T, t, b, rfl, ty, e, q⟩ := h
  obtain ⟨u, w', rfl, rx, rt⟩ := vals2 r
  obtain rfl : w' = Value.type T := rt
  exact isinst_ok I rx ty e fun tk => ⟨.bl b, H, I.tok tk, rfl, q⟩
end
end L2
namespace L2
open PySem PySem.Spec PyProof.Rows
section
variable {X : Cx} (K : PySem.W.Frag) (hK : X.K = K)
include hK
theorem call_lenK : CallR X (.builtin "len") (fun xs H Q => ∃ x n, xs = [x] ∧ LenV K x H n ∧ Q (.int n) H) := by subst hK; exact call_len
theorem call_isiK : CallR X (.builtin "isinstance") (fun xs H Q => ∃ x T t b, xs = [x, .ty T] ∧ TyOf K H x t ∧ PySem.W.kitOne K t (.type T) = some b ∧ Q (.bl b) H) := by subst hK; exact call_isi
theorem ix_listK : IxR X (rIxL K) := by subst hK; exact ix_list
theorem sl_listK : SlR X (rSlL K) := by subst hK; exact sl_list
theorem op_notInK : OpR X (compareOp .NotIn) (rIn K true) := by subst hK; exact op_notIn_seq
theorem call_listK : CallR X (.type "list") (fun xs H Q => ∃ p ys, xs = [.ref p] ∧ (SqL K H p ys ∨ SqT K H p ys) ∧ ∀ l, H l = none → Q (.ref l) (upd H l (.lst ys))) := by subst hK; exact call_list_of
theorem pi_listK {tg l : Expr} {tl : TE} (hl : PE X l tl) : PI X tg l (iList K tl) := by subst hK; exact pi_list hl
theorem pt_truthK {a : Expr} {ta : TE} (ha : PE X a ta) (he : ∀ whole, isTrue a X.env whole = (do let v ← whole; standAt a.pos; holding [v] (truthy v))) :
    PT X a (fun σ H Q => ta σ H fun x H' => ∃ k, TruV K x H' k ∧ Q k H') := by subst hK; exact pt_truth ha he
theorem pg_tupK {es : List Expr} {k : Nat} {pos : Pos} {t : TGs} {n : Nat} (hc : X.calm = true) (h : PGs X es t)
    (hn : (assignEach es X.env).length = n := by rfl) (hst : (assignEach es X.env).findIdx? (·.1) = none := by rfl) : PG X (.Tuple es k pos) (gTup K n t) := by subst hK; exact pg_tup hc h hn hst
variable {o e : Expr} {es : List Expr} {to : TE} {t : TA} {name : Str} {apos cpos : Pos} {T id : String} {r : V → List V → Hp → VK → Prop}
theorem pe_bmK (pa : PlainAttrs T) (slot : Slot T name id) (hty : typeOf (.builtin id) = pure (.type "method_descriptor")) (hm : MtR X id r) (ho : PE X o to) (ha : PA X (e :: es) t)
    (hbase : attributeBase o name X.env (eval o X.env) = eval o X.env := by rfl)
    (hfew : ((backTo cpos (starEach (e :: es) X.env)).all (fun x => !x.1) && (backToKw cpos (keywordEach [] X.env)).all (fun x => x.1.isSome)
      && decide ((e :: es).length + ([] : List Keyword).length + (if ([] : List Keyword).isEmpty then 0 else 1) < 30)) = true := by rfl)
    (hline : (apos.endLine == cpos.line) = true := by rfl) (hs : starEach (e :: es) X.env = (false, eval e X.env) :: starEach es X.env := by rfl) (hplain : (backTo cpos (starEach es X.env)).any (·.1) = false := by rfl) :
    PE X (.Call (.Attribute o name apos) (e :: es) [] cpos) (tBM K T r to t) := by
  subst hK; exact pe_bm pa slot hty hm ho ha hbase hfew hline hs hplain
end
end L2
namespace L2
open PySem PySem.Spec PyProof.Rows
theorem boot_len : bootBuiltins "len" = some (.builtin "len") := by decide +kernel
theorem boot_max : bootBuiltins "max" = some (.builtin "max") := by decide +kernel
theorem boot_min : bootBuiltins "min" = some (.builtin "min") := by decide +kernel
theorem boot_isinstance : bootBuiltins "isinstance" = some (.builtin "isinstance") := by decide +kernel
theorem boot_sorted : bootBuiltins "sorted" = some (.builtin "sorted") := by decide +kernel
theorem boot_sum : bootBuiltins "sum" = some (.builtin "sum") := by decide +kernel
theorem boot_int : bootBuiltins "int" = some (.type "int") := by decide +kernel
theorem boot_bool : bootBuiltins "bool" = some (.type "bool") := by decide +kernel
theorem boot_list : bootBuiltins "list" = some (.type "list") := by decide +kernel
theorem boot_dict : bootBuiltins "dict" = some (.type "dict") := by decide +kernel
theorem boot_range : bootBuiltins "range" = some (.type "range") := by decide +kernel
theorem boot_reversed : bootBuiltins "reversed" = some (.type "reversed") := by decide +kernel
section
variable {X : Cx}
theorem pe_ty {x : Str} {T : String} {pos : Pos} (hg : Gl X x) (hm : X.mg x = none) (hv : bootBuiltins x = some (.type T)) (hn : x ≠ "__name__" := by decide) (hd : (x == ("__debug__" : Str)) = false := by decide) : PE X (.Name x pos) (tC (.ty T)) :=
  pe_bltn hg hm hv rfl hn hd
end
theorem kit_tt {K : PySem.W.Frag} {A B : String} {b : Bool} (h : (if ((Value.type A) == .type B) = true then some true else if PySem.W.kitMeta B = true then (fastBuiltinMro A).map (·.contains (.type B)) else none) = some b) : PySem.W.kitOne K (.type A) (.type B) = some b := h
theorem iteI {i j : Int} {A B : Prop} (h1 : i = j → A) (h2 : i ≠ j → B) : if decide (V.int i = V.int j) = true then A else B := by
  by_cases h : i = j
  · subst h
    rw [decide_eq_true rfl]
    exact iteT (h1 rfl)
  · rw [decide_eq_false (fun e => h (V.int.inj e))]
    exact iteF (h2 h)
theorem iteNI {i j : Int} {A B : Prop} (h1 : i ≠ j → A) (h2 : i = j → B) : if (!decide (V.int i = V.int j)) = true then A else B := by
  by_cases h : i = j
  · subst h
    rw [decide_eq_true rfl]
    exact iteF (h2 rfl)
  · rw [decide_eq_false (fun e => h (V.int.inj e))]
    exact iteT (h1 h)
theorem iteB {b : Bool} {A B : Prop} (h1 : b = true → A) (h2 : b = false → B) : if b = true then A else B := by
  cases b with
  | true => exact iteT (h1 rfl)
  | false => exact iteF (h2 rfl)
theorem gName_ {j : Nat} {x : V} {σ : St} {H : Hp} {F : St → Hp → Prop} (h : F (σ.set j (some x)) H) : gName j x σ H F := h
theorem asg_const {i : Nat} {v : V} {D : Ends} {σ : St} {H : Hp} (h : D.nx (σ.set i (some v)) H) : tAsg (tC v) (gName i) D σ H := h
theorem yes_ {σ : St} {H : Hp} {F : Bool → Hp → Prop} (h : F true H) : tYes σ H F := h
theorem atI_ints {ns : List Int} {i : Int} (h0 : 0 ≤ i) (h1 : i < ns.length) : ∃ z, atI (ns.map V.int) i = some (.int z) := by
  refine ⟨ns[i.toNat]'(by omega), ?_⟩
  unfold atI ixN
  rw [if_pos h0, if_pos (by rw [List.length_map]; exact h1)]
  show (ns.map V.int)[i.toNat]? = _
  rw [List.getElem?_map, List.getElem?_eq_getElem (by omega)]
  rfl
theorem mod_lt (i : Int) {n : Int} (h : 0 < n) : 0 ≤ i % n ∧ i % n < n := ⟨Int.emod_nonneg _ (by omega), Int.emod_lt_of_pos _ h⟩
theorem mask31 (x : Int) : Builtin.bitAnd x 2147483647 = x % 2147483648 := PySem.W.kbt_mask x 31
end L2
namespace L2
open PySem PySem.Spec PyProof.Rows
section
variable {X : Cx}
def rSlS : V → Option Int → Option Int → Hp → VK → Prop := fun x lo hi H Q => ∃ z, x = .str z ∧ z.length ≤ sizeLine ∧ Q (.str (Txt.slice z lo hi)) H
theorem sl_str : SlR X rSlS := by
  intro pins s σ H x v vl vu lo hi sl Q I rx hs pl pu h
  obtain ⟨z, rfl, hz, q⟩ := h
  obtain ⟨t, rfl⟩ := rx
  refine ⟨"str", _, F.slot_str_getitem.lookup, typeIs_str _ _ _, ?_⟩
  have fin : ∀ (t' : Tok) (k : Nat), EP X pins σ Q (.str (Txt.slice z lo hi) t') { s with toks := k } := fun t' k => ⟨.str _, H, I.tok k, ⟨_, rfl⟩, q⟩
  cases pl with
  | none =>
    cases pu with
    | none => exact wpAny_getItem_str_slice (l := none) (u := none) (st := none) hs rfl (post_val_or_str ⟨Nat.le_trans (Txt.slice_le z _ _) hz, fin⟩)
    | int j u => exact wpAny_getItem_str_slice (l := none) (u := some (j, u)) (st := none) hs rfl (post_val_or_str ⟨Nat.le_trans (Txt.slice_le z _ _) hz, fin⟩)
  | int i t1 =>
    cases pu with
    | none => exact wpAny_getItem_str_slice (l := some (i, t1)) (u := none) (st := none) hs rfl (post_val_or_str ⟨Nat.le_trans (Txt.slice_le z _ _) hz, fin⟩)
    | int j u => exact wpAny_getItem_str_slice (l := some (i, t1)) (u := some (j, u)) (st := none) hs rfl (post_val_or_str ⟨Nat.le_trans (Txt.slice_le z _ _) hz, fin⟩)
end
end L2
namespace L2
open PySem PySem.Spec PyProof.Rows
theorem nx_ {D : Ends} {σ : St} {H : Hp} (h : D.nx σ H) : tNext D σ H := h
theorem same_new {H0 H : Hp} {a : Addr} {o : HO} (h : Same H0 H) (hn : H a = none) : Same H0 (upd H a o) := fun b o' hb => by
  have e := h b o' hb
  rw [upd_ne (ne_of_none e hn)]
  exact e
theorem Same.at {H0 H : Hp} {b : Addr} {o : HO} (h : Same H0 H) (e : H0 b = some o) : H b = some o := h b o e
theorem le_size {n : Nat} (h : n ≤ 65536) : n ≤ sizeLine := by rw [sizeLine_eq]; omega
mutual
inductive IsP (K : PySem.W.Frag) (H : Hp) : V → PyData → Prop
  | non : IsP K H .non .none
  | bl (b : Bool) : IsP K H (.bl b) (.bool b)
  | int (i : Int) : IsP K H (.int i) (.int i)
  | str (x : Str) : IsP K H (.str x) (.str x)
  | lst {a : Addr} {xs : List V} {ds : List PyData} : SqL K H a xs → IsPs K H xs ds → IsP K H (.ref a) (.list ds)
  | tup {a : Addr} {xs : List V} {ds : List PyData} : SqT K H a xs → IsPs K H xs ds → IsP K H (.ref a) (.tuple ds)
inductive IsPs (K : PySem.W.Frag) (H : Hp) : List V → List PyData → Prop
  | nil : IsPs K H [] []
  | cons {v : V} {d : PyData} {vs : List V} {ds : List PyData} : IsP K H v d → IsPs K H vs ds → IsPs K H (v :: vs) (d :: ds)
end
section
variable {X : Cx} {pins : List (Addr × Obj)} {σ : St} {H : Hp} {s : Shared}
mutual
theorem IsP.reads (I : Inv X pins σ H s) : ∀ {v : V} {d : PyData} {u : Value}, IsP X.K H v d → RelV v u → ∃ as, Reads s.heap u d as
  | _, _, _, .non, r => by
    obtain rfl : _ = Value.none := r
    exact ⟨_, .none⟩
  | _, _, _, .bl b, r => by
    obtain rfl : _ = Value.bool b := r
    exact ⟨_, .bool b⟩
  | _, _, _, .int i, r => by
    obtain ⟨t, rfl⟩ := r
    exact ⟨_, .int i t⟩
  | _, _, _, .str x, r => by
    obtain ⟨t, rfl⟩ := r
    exact ⟨_, .str x t⟩
  | _, _, _, .lst (a := a) h hs, r => by
    obtain rfl : _ = Value.ref a := r
    obtain ⟨its, rv, ⟨o, n, e, hc, _, hd⟩, _⟩ := I.list h
    obtain ⟨as, q⟩ := IsPs.reads I hs rv
    exact ⟨_, .list e hc hd (by simpa using q)⟩
  | _, _, _, .tup (a := a) h hs, r => by
    obtain rfl : _ = Value.ref a := r
    obtain ⟨its, rv, ⟨o, e, hc, n, hd⟩, _⟩ := I.tuple h
    obtain ⟨as, q⟩ := IsPs.reads I hs rv
    exact ⟨_, .tuple e hc hd (by simpa using q)⟩
theorem IsPs.reads (I : Inv X pins σ H s) : ∀ {vs : List V} {ds : List PyData} {us : List Value}, IsPs X.K H vs ds → Vals vs us → ∃ as, ReadsAll s.heap us ds as
  | _, _, _, .nil, r => by
    cases r
    exact ⟨_, .nil⟩
  | _, _, _, .cons h hs, r => by
    cases r with
    | cons r1 r2 =>
      obtain ⟨as, q⟩ := IsP.reads I h r1
      obtain ⟨bs, p⟩ := IsPs.reads I hs r2
      exact ⟨_, .cons q p⟩
end
end
section
variable {X : Cx}
def rEqP (K : PySem.W.Frag) : R2 := fun x y H Q => ∃ d e, IsP K H x d ∧ IsP K H y e ∧ SeqAt.shaped d = true ∧ SeqAt.shaped e = true ∧ Q (.bl (PyData.eqv d e)) H
def rNeP (K : PySem.W.Frag) : R2 := fun x y H Q => ∃ d e, IsP K H x d ∧ IsP K H y e ∧ SeqAt.shaped d = true ∧ SeqAt.shaped e = true ∧ Q (.bl (!PyData.eqv d e)) H
theorem op_eqP (hu : X.A.units + 64 < cLine) : OpR X (compareOp .Eq) (rEqP X.K) := by
  intro pins s σ H x y v u Q I rx ry h
  obtain ⟨d, e, h1, h2, h3, h4, q⟩ := h
  obtain ⟨as, r1⟩ := h1.reads I rx
  obtain ⟨bs, r2⟩ := h2.reads I ry
  exact eq_dataH r1 r2 h3 h4 hu ⟨.bl _, H, I, rfl, q⟩
theorem op_neP (hu : X.A.units + 64 < cLine) : OpR X (compareOp .NotEq) (rNeP X.K) := by
  intro pins s σ H x y v u Q I rx ry h
  obtain ⟨d, e, h1, h2, h3, h4, q⟩ := h
  obtain ⟨as, r1⟩ := h1.reads I rx
  obtain ⟨bs, r2⟩ := h2.reads I ry
  exact ne_dataH r1 r2 h3 h4 hu ⟨.bl _, H, I, rfl, q⟩
theorem hu64 {A : Around} {k : Nat} (hr : Room k A) : A.units + 64 < cLine := by have := hr.un; omega
theorem op_eqPK (K : PySem.W.Frag) (hK : X.K = K) (hu : X.A.units + 64 < cLine) : OpR X (compareOp .Eq) (rEqP K) := by subst hK; exact op_eqP hu
theorem op_nePK (K : PySem.W.Frag) (hK : X.K = K) (hu : X.A.units + 64 < cLine) : OpR X (compareOp .NotEq) (rNeP K) := by subst hK; exact op_neP hu
theorem call_sum (hc : X.calm = true) : CallR X (.builtin "sum") (fun xs H Q => ∃ (p : Addr) (ns : List Int), xs = [.ref p] ∧ (SqL X.K H p (ns.map V.int) ∨ SqT X.K H p (ns.map V.int)) ∧ Q (.int ns.sum) H) := by
  intro pins s σ H xs us Q I r h
  obtain ⟨p, ns, rfl, hq, q⟩ := h
  obtain ⟨u, rfl, r1⟩ := vals1 r
  cases r1
  have sm : ∀ {its : List Value}, Vals (ns.map V.int) its → ∃ xs : Array (Int × Tok), its.toArray = intItems xs ∧ preSum (numAt xs) xs.size = ns.sum := fun rv => by
    have hi : IntsAre _ ns := intsAre_of rv
    obtain ⟨xs, hx⟩ := hi.allInts.items
    refine ⟨xs, hx, ?_⟩
    have e1 : ns = xs.toList.map (·.1) := by
      rw [← nums_intItems, ← hx]
      exact hi.numsOf.symm
    rw [preSum_eq, List.take_of_length_le (by simp), e1]
  rcases hq with hq | hq
  · obtain ⟨its, rv, pl, hz⟩ := I.list hq
    obtain ⟨xs, hx, e⟩ := sm rv
    refine sum_intListG (I.ok.hd hc) (xs := xs) (hx ▸ pl.isList) fun h' tk t' hk => ?_
    rw [e]
    exact ⟨.int _, H, I.kept (h' := h') (t' := tk) hk, ⟨_, rfl⟩, q⟩
  · obtain ⟨its, rv, pt, hz⟩ := I.tuple hq
    obtain ⟨xs, hx, e⟩ := sm rv
    refine PySem.W.ktm_sumG (I.ok.hd hc) (xs := xs) (hx ▸ pt) fun h' tk t' hk => ?_
    rw [e]
    exact ⟨.int _, H, I.kept (h' := h') (t' := tk) hk, ⟨_, rfl⟩, q⟩
theorem call_sumK (K : PySem.W.Frag) (hK : X.K = K) (hc : X.calm = true) : CallR X (.builtin "sum") (fun xs H Q => ∃ (p : Addr) (ns : List Int), xs = [.ref p] ∧ (SqL K H p (ns.map V.int) ∨ SqT K H p (ns.map V.int)) ∧ Q (.int ns.sum) H) := by subst hK; exact call_sum hc
end
section
variable {X : Cx}
theorem get_list : PGet X (rIxL X.K) := by
  intro pins s σ H x y v u Q I rx ry h
  obtain ⟨p, xs, i, z, rfl, rfl, hq, he, q⟩ := h
  cases rx
  obtain ⟨t, rfl⟩ := ry
  obtain ⟨its, r, pl, hz⟩ := I.list hq
  obtain ⟨j, h1, h2, h3, h4, h5⟩ := atI_get he
  obtain ⟨w, ew, rw'⟩ := r.get h2
  have hl := r.length
  have hn := line63
  have fin : EP X pins σ Q w s := ⟨z, H, I, rw', q⟩
  by_cases h0 : 0 ≤ i
  · have hj : i.toNat = j := by
      rw [seqIndex_of h0 h5] at h1
      exact Option.some.inj h1
    exact wpAny_getItem_list pl.isList h0 (by omega) (by rw [hj]; simpa using ew) fin
  · have hj : (i + (its.toArray.size : Int)).toNat = j := by
      rw [seqIndex_neg (by omega) h4] at h1
      rw [List.size_toArray, ← hl]
      exact Option.some.inj h1
    exact wpAny_getItem_list_neg pl.isList (by omega) (by rw [List.size_toArray] <;> omega) (by omega) (by rw [hj]; simpa using ew) fin
end
theorem same_upd {H0 H : Hp} {a : Addr} {o : HO} (h : Same H0 H) (hn : H0 a = none) : Same H0 (upd H a o) := fun b o' hb => by
  have : b ≠ a := fun e => by rw [e, hn] at hb; cases hb
  rw [upd_ne this]
  exact h b o' hb
theorem atI_nat' {α : Type} {xs : List α} {k : Nat} {v : α} (h : xs[k]? = some v) : atI xs (k : Int) = some v := by
  have hl := (List.getElem?_eq_some_iff.mp h).1
  unfold atI ixN
  rw [if_pos (by omega), if_pos (by omega)]
  exact h
theorem Same.tseq {K : PySem.W.Frag} {H H' : Hp} {a : Addr} {xs : List V} (e : Same H H') (h : SqT K H a xs) : SqT K H' a xs := by
  rcases h with h | h
  · rcases h with h | ⟨o, h⟩
    · exact .inl (.inl (e _ _ h))
    · exact .inl (.inr ⟨o, e _ _ h⟩)
  · exact .inr h
section
variable {X : Cx}
end
theorem lf {n i : Nat} {P : Prop} (hi : i < n) (h : P) : ∃ m', m' < n - i ∧ m' = n - (i + 1) ∧ i + 1 ≤ n ∧ P := ⟨_, by omega, rfl, hi, h⟩
theorem comp_range {K : PySem.W.Frag} {lo : Int} {n : Nat} {g : TG} {ds : List Nat} {k : Nat} {tc : TT} {te : TE} {σ : St} {H1 : Hp} {D : Addr} {F : Hp → Prop} (Pv : Nat → List V → Hp → Prop) (h0 : Pv 0 [] (upd H1 D (.lst [])))
    (hs : ∀ i acc H2, i < n → Pv i acc H2 → g (.int (lo + i)) (iniC ds k σ) H2 fun σ4 H4 => tc σ4 H4 fun b H5 => if b = true then
      te σ4 H5 fun y H6 => H6 D = some (.lst acc) ∧ acc.length < sizeLine ∧ ∃ m', m' < n - i ∧ m' = n - (i + 1) ∧ i + 1 ≤ n ∧ Pv (i + 1) (acc ++ [y]) (upd H6 D (.lst (acc ++ [y])))
      else ∃ m', m' < n - i ∧ m' = n - (i + 1) ∧ i + 1 ≤ n ∧ Pv (i + 1) acc H5) (hd : ∀ acc H2, Pv n acc H2 → F H2) :
    ∃ W : Nat → Nat → List V → Hp → Prop, (∃ m, W 0 m [] (upd H1 D (.lst []))) ∧ ∀ i m acc H2, W i m acc H2 →
    ((Itr lo n).stop i H2 ∧ F H2) ∨ ((Itr lo n).go i H2 ∧ ∀ x H3, (Itr lo n).yld i H2 x H3 → g x (iniC ds k σ) H3 fun σ4 H4 => tc σ4 H4 fun b H5 => if b = true then
      te σ4 H5 fun y H6 => H6 D = some (.lst acc) ∧ acc.length < sizeLine ∧ ∃ m', m' < m ∧ W (i + 1) m' (acc ++ [y]) (upd H6 D (.lst (acc ++ [y])))
      else ∃ m', m' < m ∧ W (i + 1) m' acc H5) := by
  refine ⟨fun i m acc H2 => m = n - i ∧ i ≤ n ∧ Pv i acc H2, ⟨_, rfl, Nat.zero_le _, h0⟩, ?_⟩
  rintro i m acc H2 ⟨rfl, hi, p⟩
  by_cases hlt : i < n
  · refine .inr ⟨hlt, fun x H3 y => ?_⟩
    obtain ⟨e, y⟩ := y
    subst e y
    exact hs i acc _ hlt p
  · have e : i = n := by omega
    subst e
    exact .inl ⟨Nat.le_refl _, hd acc H2 p⟩
theorem comp_list {K : PySem.W.Frag} {a : Addr} {xs : List V} {g : TG} {ds : List Nat} {k : Nat} {tc : TT} {te : TE} {σ : St} {H1 : Hp} {D : Addr} {F : Hp → Prop} (Pv : Nat → List V → Hp → Prop) (h0 : Pv 0 [] (upd H1 D (.lst [])))
    (hl : ∀ i acc H2, i ≤ xs.length → Pv i acc H2 → SqL K H2 a xs) (hs : ∀ i x acc H2, xs[i]? = some x → Pv i acc H2 → g x (iniC ds k σ) H2 fun σ4 H4 => tc σ4 H4 fun b H5 => if b = true then
      te σ4 H5 fun y H6 => H6 D = some (.lst acc) ∧ acc.length < sizeLine ∧ ∃ m', m' < xs.length - i ∧ m' = xs.length - (i + 1) ∧ i + 1 ≤ xs.length ∧ Pv (i + 1) (acc ++ [y]) (upd H6 D (.lst (acc ++ [y])))
      else ∃ m', m' < xs.length - i ∧ m' = xs.length - (i + 1) ∧ i + 1 ≤ xs.length ∧ Pv (i + 1) acc H5) (hd : ∀ acc H2, Pv xs.length acc H2 → F H2) :
    ∃ W : Nat → Nat → List V → Hp → Prop, (∃ m, W 0 m [] (upd H1 D (.lst []))) ∧ ∀ i m acc H2, W i m acc H2 →
    ((Itl K a).stop i H2 ∧ F H2) ∨ ((Itl K a).go i H2 ∧ ∀ x H3, (Itl K a).yld i H2 x H3 → g x (iniC ds k σ) H3 fun σ4 H4 => tc σ4 H4 fun b H5 => if b = true then
      te σ4 H5 fun y H6 => H6 D = some (.lst acc) ∧ acc.length < sizeLine ∧ ∃ m', m' < m ∧ W (i + 1) m' (acc ++ [y]) (upd H6 D (.lst (acc ++ [y])))
      else ∃ m', m' < m ∧ W (i + 1) m' acc H5) := by
  refine ⟨fun i m acc H2 => m = xs.length - i ∧ i ≤ xs.length ∧ Pv i acc H2, ⟨_, rfl, Nat.zero_le _, h0⟩, ?_⟩
  rintro i m acc H2 ⟨rfl, hi, p⟩
  have q := hl i acc H2 hi p
  by_cases hlt : i < xs.length
  · refine .inr ⟨⟨xs, xs[i], q, by simp [hlt]⟩, fun x H3 y => ?_⟩
    obtain ⟨e, y⟩ := y
    subst e
    exact hs i x acc _ (y xs q) p
  · have e : i = xs.length := by omega
    subst e
    exact .inl ⟨⟨xs, q, Nat.le_refl _⟩, hd acc H2 p⟩
section
variable {X : Cx}
end
end L2
namespace L2
open PySem PySem.W PyProof.Rows
def CXe (P : Program) (w : World) : CXT := fun outer H s E e s' => ∃ (ea : Addr) (C : Value) (B : Heap) (t : Addr) (H' : Hp), e = .ref ea ∧ s'.os = s.os ∧ AllBare s'.gens ∧ Un (frs outer) [] H H' s.heap s'.heap ∧ HOk P w H' s'.heap ∧
  Heap.FlyingW B outer ea C (.ref t) s'.heap ∧ (∀ b o, H' b = some o → ∃ u, B.get? b = some u) ∧ (∀ b o, s.heap.get? b = some o → b ∉ frs outer → ∃ u, B.get? b = some u) ∧ E C none H'
theorem frs_cons {env : Env} {l : List Env} {L : Addr} (h : env.frame = some L) : frs (env :: l) = L :: frs l := by
  unfold frs
  rw [List.filterMap_cons, h]
theorem HOk.flown {P : Program} {w : World} {H : Hp} {h h' B : Heap} (x : HOk P w H h) (c : ∀ b o, H b = some o → ∃ u, B.get? b = some u) (k : B.StaysIn h) (k' : B.StaysIn h') : HOk P w H h' := fun a o e =>
  (x a o e).stay (fun b u hb q => by
    obtain ⟨o', ho'⟩ : ∃ o', H b = some o' := by
      rcases hb with rfl | hb
      · exact ⟨_, e⟩
      · exact ⟨_, hb⟩
    obtain ⟨v, hv⟩ := c b o' ho'
    have q2 := k b v hv
    rw [q] at q2
    cases q2
    exact k' b _ hv) (fun _ q => q) fun _ _ q => q
section
variable {P : Program} {w : World} {K : PySem.W.Frag} {mg : Str → Option Value} {base : Heap} {N : List Str} {qual : Str} {scope : Scope} {f : Addr} {cd : Value} {A : Around} {outer : List Env} {s0 : Shared} {H0 : Hp} {E : XK}
end
theorem ObjOk.held {P : Program} {w : World} {H : Hp} {h : Heap} {a : Addr} {o : HO} (x : ObjOk P w H h a o) : ∃ u, h.get? a = some u := by
  cases o with
  | lst xs => obtain ⟨_, _, _, _, e⟩ := x; exact ⟨_, e⟩
  | tup xs => obtain ⟨_, _, _, _, e, _⟩ := x; exact ⟨_, e⟩
  | dK kvs => obtain ⟨_, _, _, _, o, _, _, e, _⟩ := x; exact ⟨_, e⟩
  | dT kvs => obtain ⟨_, _, _, _, o, _, _, e, _⟩ := x; exact ⟨_, e⟩
  | set S n => obtain ⟨o, _, _, _, e, _⟩ := x; exact ⟨_, e⟩
  | ins C dx fs => obtain ⟨_, _, _, e, _⟩ := x; exact ⟨_, e⟩
  | own y => exact x
  | xd fs => obtain ⟨_, ⟨_, _, _, e, _⟩, _⟩ := x; exact ⟨_, e⟩
  | rng lo hi => obtain ⟨_, _, _, e⟩ := x; exact ⟨_, e⟩
  | frz ob u => exact ⟨_, x.1⟩
  | tbl ps => exact ⟨_, (show h.get? a = some _ from x)⟩
  | met f y => exact ⟨_, (show h.get? a = some _ from x)⟩
  | ext φ => exact x.2.1
def Raises (X : Cx) (E : XK) : Prop := ∀ (pins : List (Addr × Obj)) (σ : St) (H : Hp) (s : Shared) (C : Value) (vs : List Value) (h' : Heap) (ea : Addr), Inv X pins σ H s → Heap.MadeExcOf s.heap h' ea C vs → E C none H → X.xe (.ref ea) { s with heap := h' }
section
variable {P : Program} {w : World} {K : PySem.W.Frag} {mg : Str → Option Value} {base : Heap} {N : List Str} {qual : Str} {scope : Scope} {f : Addr} {cd : Value} {A : Around} {outer : List Env} {s0 : Shared} {H0 : Hp} {E : XK}
theorem raise_on : Raises (cxOf (CXe P w) P w K mg base N qual scope f cd A outer s0 H0 E) E := by
  intro pins σ H s C vs h' ea I hx q
  have hfr : (envOfC qual scope s0.heap.objs.size f cd).frame = some s0.heap.objs.size := rfl
  have hst : frs (envOfC qual scope s0.heap.objs.size f cd :: outer) = s0.heap.objs.size :: frs outer := frs_cons hfr
  have u1 : Un (frs outer) [] H0 H s0.heap s.heap := I.base
  have nst : ∀ b o, s0.heap.get? b = some o → b ∉ frs outer → b ∉ frs (envOfC qual scope s0.heap.objs.size f cd :: outer) := fun b o e hb hm => by
    rw [hst] at hm
    rcases List.mem_cons.mp hm with rfl | hm
    · exact absurd (Heap.lt_size e) (Nat.lt_irrefl _)
    · exact hb hm
  generalize hB : hideAll s.heap (frs (envOfC qual scope s0.heap.objs.size f cd :: outer)) = B
  have inB : ∀ {b o}, s.heap.get? b = some o → b ∉ frs (envOfC qual scope s0.heap.objs.size f cd :: outer) → B.get? b = some o := fun e hb => by rw [← hB]; exact hideAll_get _ e hb
  have ofB : B.StaysIn s.heap := fun b o e => by rw [← hB] at e; exact of_hideAll _ e
  have fr : s.heap.FunFrames B (envOfC qual scope s0.heap.objs.size f cd :: outer) := by
    rw [← hB]
    exact funFrames_hide (base := base) I.stack fun env he b hb => List.mem_filterMap.mpr ⟨env, he, hb⟩
  have cov : ∀ b o, s0.heap.get? b = some o → b ∉ frs outer → ∃ u, B.get? b = some u := fun b o e hb => by
    obtain ⟨o1, e1⟩ := u1.there b o e (by simp)
    exact ⟨o1, inB e1 (nst b o e hb)⟩
  have cov1 : ∀ b o, H b = some o → ∃ u, B.get? b = some u := fun b o e => by
    obtain ⟨u, hu⟩ := (I.hok b o e).held
    exact ⟨u, inB hu fun hm => by have n : H b = none := I.stkFree b hm; rw [e] at n; cases n⟩
  show wpAny (model P w) (A.deeper (envOfC qual scope s0.heap.objs.size f cd)) (leaving (envOfC qual scope s0.heap.objs.size f cd) (.ref ea)) _ _ _
  refine wpAny_leaves_madeW (outer := outer) (h := s.heap) I.ok.frames hfr ofB fr hx fun h'' t fl tup _ up => ?_
  refine ⟨ea, C, B, t, H, rfl, I.os, I.bare, ?_, I.hok.flown cov1 ofB fl.1, fl, cov1, cov, q⟩
  have slot : ∀ b o, s0.heap.get? b = some o → H0 b = none → b ∈ frs outer → ∃ sl, h''.get? b = some { o with slots := sl } := fun b o e n hb => by
    obtain ⟨sl, e1⟩ := u1.slot b o e n hb (by simp)
    have e2 := hx.keeps _ _ e1
    obtain ⟨_, o', ho', hd⟩ := I.ok.funs.mem hb
    have : o' = o := by
      have ho' : s0.heap.get? b = some o' := ho'
      rw [e] at ho'
      exact (Option.some.inj ho').symm
    subst this
    obtain ⟨sl3, e3⟩ := up b _ e2 hd
    exact ⟨sl3, e3⟩
  refine ⟨fun b o e n hb _ => ?_, fun b o e n hb _ => slot b o e n hb, fun b o e n _ => u1.free b o e n (by simp), fun b o e _ => ?_, u1.tups, u1.frzs, u1.tbls⟩
  · exact fl.1 b o (inB (u1.keep b o e n hb (by simp)) (nst b o e hb))
  · by_cases hb : b ∈ frs outer
    · obtain ⟨sl, e1⟩ := slot b o e (I.ok.frf b hb) hb
      exact ⟨_, e1⟩
    · obtain ⟨u, hu⟩ := cov b o e hb
      exact ⟨u, fl.1 b u hu⟩
end
def veBases : List Value := [.type "ValueError", .type "Exception", .type "BaseException", .type "object"]
def ExC (K : PySem.W.Frag) (C : Addr) : Prop := excIn K C veBases "ValueError.__new__" = true
theorem ExC.at {K : PySem.W.Frag} {C : Addr} {h : Heap} (kin : K.In h) (x : ExC K C) : ∃ bm N nm q bs hd sn sub ab col dd k0 k1 k2 k3 k5 mN, h.get? C = some (excClassObj nm q C N bs bm hd sn sub ab col dd k0 k1 k2 k3 k5 "ValueError.__new__") ∧ h.Ns N mN ∧ mN "__init__" = none ∧ OwnTail h veBases bm := by
  unfold ExC excIn at x
  split at x
  · rename_i dd c sl look
    split at x
    · rename_i C2 tl s0 s1 s2 s3 nid s5 order slots
      simp only [Bool.and_eq_true, beq_iff_eq, Bool.not_eq_true'] at x
      obtain ⟨⟨⟨⟨⟨e1, e2⟩, del⟩, tin⟩, nok⟩, noi⟩ := x
      subst e1 e2
      rcases c with ⟨nm, bs, mro, ns, qn, hd, sn, sub, ab, col, dl⟩
      dsimp only at order del nok noi
      subst order
      subst del
      obtain rfl : sl = #[s0, s1, s2, s3, some (.builtin "ValueError.__new__"), s5] := by
        rcases sl with ⟨list⟩
        exact congrArg Array.mk slots
      exact ⟨tl, ns, nm, qn, bs, hd, sn, sub, ab, col, dd, s0, s1, s2, s3, s5, _, kin _ _ look, .of_isNs (isNs_of_in kin nok), nsMap_none_of_in kin nok noi, tail_of_in kin tin⟩
    · cases x
  · cases x
def tRaise (C : Addr) (E : XK) (t : TA) : TS := fun _ σ H => t σ H fun vs H1 => vs.length ≤ sizeLine ∧ E (.ref C) none H1
theorem ps_raise {X : Cx} {C : Addr} {E : XK} {x : Str} {np cpos pos : Pos} {e : Expr} {es : List Expr} {t : TA} (hx : ExC X.K C) (hg : Gl X x) (hm : X.mg x = some (.ref C)) (hc : X.calm = true) (hR : Raises X E) (ha : PA X (e :: es) t)
    (hdb : (x == ("__debug__" : Str)) = false := by decide) (he : starEach (e :: es) X.env = (false, eval e X.env) :: starEach es X.env := by rfl) (hpl : (backTo cpos (starEach es X.env)).any (·.1) = false := by rfl) :
    PS X (.Raise (some (.Call (.Name x np) (e :: es) [] cpos)) none pos) (tRaise C E t) := by
  intro pins s σ H D I h
  obtain ⟨bm, N, nm, q, bs, hd, sn, sub, ab, col, dd, k0, k1, k2, k3, k5, mN, hC, hN, hni, T⟩ := hx.at I.mod.kin
  refine wpAny_Raise_call_subT (C := C) (N := N) (bm := bm) (mN := mN) (bmB := veBases) (newId := "ValueError.__new__") (nm := nm) (q := q) (bs := bs) (hdct := hd) (sn := sn) (sub := sub) (ab := ab) (col := col) (dd := dd) (k0 := k0) (k1 := k1) (k2 := k2) (k3 := k3) (k5 := k5) PySem.F.excBase_ValueError (T.hasType PySem.F.excBase_ValueError.hasBase) (I.ok.hd hc) ?_ hni (ld_glob I hg hm ⟨rfl, ?_⟩ hdb)
  · rw [he]
    show (false || (backTo cpos (starEach es X.env)).any (·.1)) = false
    rw [hpl]; rfl
  · have ha' := ha cpos pins s σ H _ I h
    rw [he] at ha' ⊢
    refine Calls.evalArgs_plain (thn ha' fun us s2 ⟨vs, H1, I1, r, z, q1⟩ => ?_)
    have kb : ∀ b o, X.base.get? b = some o → s2.heap.get? b = some o := I1.bk
    exact ⟨rfl, by show us.length ≤ _; rw [← r.length]; exact z, kb _ _ hC, hN.keeps kb, T.keeps kb, fun h' ea m => hR pins σ H1 s2 (.ref C) us h' ea I1 m q1⟩
end L2
namespace L2
open PySem PySem.W PyProof.Rows
theorem Un.flown {fs : List Addr} {H H' : Hp} {h1 h' h5 B : Heap} (un : Un fs [] H H' h1 h') (cov : ∀ b o, h1.get? b = some o → b ∉ fs → ∃ u, B.get? b = some u) (k : B.StaysIn h') (k' : B.StaysIn h5) (up : h'.UpToSlots h5)
    (fr : ∀ b ∈ fs, H b = none ∧ ∀ o, h1.get? b = some o → ∀ vs, o.data ≠ .fields vs) : Un fs [] H H' h1 h5 := by
  have slot : ∀ b o, h1.get? b = some o → H b = none → b ∈ fs → ∃ sl, h5.get? b = some { o with slots := sl } := fun b o e n hb => by
    obtain ⟨sl, e1⟩ := un.slot b o e n hb (by simp)
    obtain ⟨sl3, e3⟩ := up b _ e1 ((fr b hb).2 o e)
    exact ⟨sl3, e3⟩
  refine ⟨fun b o e n hb hx => ?_, fun b o e n hb _ => slot b o e n hb, un.free, fun b o e _ => ?_, un.tups, un.frzs, un.tbls⟩
  · have e2 := un.keep b o e n hb hx
    obtain ⟨u, hu⟩ := cov b o e hb
    have e3 := k b u hu
    rw [e2] at e3
    cases e3
    exact k' b _ hu
  · by_cases hb : b ∈ fs
    · obtain ⟨sl, e1⟩ := slot b o e (fr b hb).1 hb
      exact ⟨_, e1⟩
    · obtain ⟨u, hu⟩ := cov b o e hb
      exact ⟨u, k' b u hu⟩
abbrev Cx.inExc (X : Cx) (ea : Addr) : Cx := { X with A := X.A.mark (some (.ref ea)), calm := false, xe := fun _ _ => False }
section
variable {X : Cx} {pins : List (Addr × Obj)} {σ : St} {H : Hp} {s : Shared} {ea : Addr}
theorem Cx.Ok.inExc (ok : X.Ok) (ea : Addr) : (X.inExc ea).Ok :=
  ⟨ok.mod, ok.kind, ok.glob, ok.blt, ok.above, ok.inj, ok.has, ok.cab, fun z => absurd z (by simp), ok.frames, ok.stk, ok.exf, ok.bs, ok.bsz, ok.noex, ok.exfs, ok.funs, ok.frf⟩
theorem Inv.inExc (I : Inv X pins σ H s) (ea : Addr) : Inv (X.inExc ea) pins σ H s := ⟨I.ok.inExc ea, I.os, I.bare, I.base, I.loc, I.cell, I.free, I.freeC, I.pin, I.hok, I.len⟩
theorem Inv.outExc (ok : X.Ok) (I : Inv (X.inExc ea) pins σ H s) : Inv X pins σ H s := ⟨ok, I.os, I.bare, I.base, I.loc, I.cell, I.free, I.freeC, I.pin, I.hok, I.len⟩
theorem SP.outExc {D : Ends} {f : Flow} {s' : Shared} (ok : X.Ok) (h : SP (X.inExc ea) pins D f s') : SP X pins D f s' := by
  cases f with
  | next => obtain ⟨σ', H', I, q⟩ := h; exact ⟨σ', H', I.outExc ok, q⟩
  | brk => obtain ⟨σ', H', I, q⟩ := h; exact ⟨σ', H', I.outExc ok, q⟩
  | cont => obtain ⟨σ', H', I, q⟩ := h; exact ⟨σ', H', I.outExc ok, q⟩
  | ret u => obtain ⟨v, σ', H', I, r, q⟩ := h; exact ⟨v, σ', H', I.outExc ok, r, q⟩
end
def PassesAt (CX : CXT) (X : Cx) (E : XK) (pins : List (Addr × Obj)) (σ : St) : Prop := ∀ (H : Hp) (s : Shared) (e : Value) (s' : Shared), Inv X pins σ H s → CX X.stack H s E e s' → X.xe e s'
def PEat (X : Cx) (pins : List (Addr × Obj)) (σ : St) (e : Expr) (t : TE) : Prop := ∀ (s : Shared) (H : Hp) (Q : VK), Inv X pins σ H s → t σ H Q → wpAny (model X.prog X.w) X.A (eval e X.env) (EP X pins σ Q) X.xe s
def PSat (X : Cx) (pins : List (Addr × Obj)) (σ : St) (st : Stmt) (t : TS) : Prop := ∀ (s : Shared) (H : Hp) (D : Ends), Inv X pins σ H s → t D σ H → wpAny (model X.prog X.w) X.A (exec st X.env) (SP X pins D) X.xe s
def tTry (tb : XK → TS) (C : Addr) (th : TS) : TS := fun D σ H => tb (fun C' _ H' => C' = .ref C ∧ th D σ H') D σ H
theorem ps_try {X : Cx} {st b0 : Stmt} {suite : List Stmt} {tb : XK → TS} {th : TS} {C : Addr} {x : Str} {np hpos pos : Pos} (hst : X.stack = X.env :: X.outer) (hf : X.env.frame = some X.env.locals) (hC : ExC X.K C) (hg : Gl X x) (hm : X.mg x = some (.ref C))
    (hb : ∀ (E : XK) (pins : List (Addr × Obj)) (σ : St) (Xe : Value → Shared → Prop), PassesAt (CXe X.prog X.w) (X.wish Xe) E pins σ → PSat (X.wish Xe) pins σ st (tb E)) (hh : ∀ ea, PSs (X.inExc ea) (b0 :: suite) th)
    (hdb : (x == ("__debug__" : Str)) = false := by decide) : PS X (.Try [st] [.ExceptHandler (some (.Name x np)) none (b0 :: suite) hpos] [] [] pos) (tTry tb C th) := by
  intro pins s σ H D I h
  refine wpAny_Try_except ?_
  have hp : PassesAt (CXe X.prog X.w) (X.wish fun e s₁ => wpAny (model X.prog X.w) X.A (noteFrame e X.env) (fun _ s₂ => wpAny (model X.prog X.w) X.A (setFlight e none) (fun _ s₃ => wpAny (model X.prog X.w) X.A (handleBy e X.env [.ExceptHandler (some (.Name x np)) none (b0 :: suite) hpos]) (SP X pins D) X.xe s₃) X.xe s₂) X.xe s₁)
      (fun C' _ H' => C' = .ref C ∧ th D σ H') pins σ := by
    rintro H1 s1 e s' I1 ⟨ea, C', B, t, H', rfl, os, bare, un, hok, fl, cov1, cov2, rfl, hth⟩
    have I1 := I1.unwish
    have un : Un (frs X.stack) [] H1 H' s1.heap s'.heap := un
    have fl : Heap.FlyingW B X.stack ea (.ref C) (.ref t) s'.heap := fl
    have cov2 : ∀ b o, s1.heap.get? b = some o → b ∉ frs X.stack → ∃ u, B.get? b = some u := cov2
    have frn : ∀ b ∈ frs X.stack, H1 b = none ∧ ∀ o, s1.heap.get? b = some o → ∀ vs, o.data ≠ .fields vs := fun b hb => by
      refine ⟨I1.stkFree b hb, fun o e => ?_⟩
      obtain ⟨_, o', ho', hd⟩ := I1.stack.mem hb
      rw [e] at ho'
      cases ho'
      exact hd
    have land : ∀ h5, B.StaysIn h5 → s'.heap.UpToSlots h5 → Inv X pins σ H' { s' with heap := h5 } := fun h5 k up =>
      I1.call' (s' := { s' with heap := h5 }) (ch := []) os (un.flown cov2 fl.1 k up frn) (hok.flown cov1 fl.1 k) bare fun b z => absurd z (by simp)
    show wpAny (model X.prog X.w) X.A (noteFrame (.ref ea) X.env) _ X.xe s'
    have fl0 := fl
    rw [hst] at fl0
    refine wpAny_looks_onW (outer := X.outer) (by rw [I.ok.frames, hst]) hf fl0 fun h4 held4 up4 => ?_
    refine wpAny_landsW held4 fun h5 fl5 up5 => ?_
    have I5 := land h5 fl5.1 (up4.trans up5)
    refine wpAny_handleBy_cons (codeAny_handlers_test (ld_glob (I5.inExc ea) hg hm ?_ hdb)) (by intro z; cases z)
    obtain ⟨bm, N, nm, q, bs, hd, sn, sub, ab, col, dd, k0, k1, k2, k3, k5, mN, hCo, hN, hni, T⟩ := hC.at I.mod.kin
    obtain ⟨ob, hob, hobc⟩ := fl5.there
    refine wpAny_excMatches_sub_self (I5.bk _ _ hCo) hob hobc (T.hasType PySem.F.excBase_ValueError.hasBase) (codeAny_handlers_suite ?_)
    refine lands_againW fl5 fun h6 fl6 up6 => ?_
    have I6 := land h6 fl6.1 ((up4.trans up5).trans up6)
    exact wpAny_mono (hh ea pins _ σ H' D (I6.inExc ea) hth) (fun f s2 z => z.outExc I.ok) fun _ _ z => z.elim
  have b := hb _ pins σ _ hp s H D (I.wish _) h
  refine wpAny_execs_cons (wpAny_mono b (fun f s1 z => ?_) fun _ _ z => z)
  have z := z.unwish
  cases f with
  | next => exact wpAny_execs_nil (wpAny_execs_nil z)
  | ret v => exact z
  | brk => exact z
  | cont => exact z
section
variable {X : Cx} {CX : CXT} {k : Nat} {f C : Addr} {fd : FuncData} {ps : List Str} {sp : Sp} {dvs : List V} {ds : List Value} {E : XK} {x m : Str} {p pos apos : Pos} {e o : Expr} {es : List Expr} {ta : TE} {t : TA} {pins : List (Addr × Obj)} {σ : St}
theorem run_at {H : Hp} {s : Shared} {Q : VK} {us : List Value} {vs : List V} (F : FnOk X.prog X.w X.K X.mg X.base CX k f fd ps sp) (hr : Room k X.A) (hb : Binds X.K fd ps ds) (hd : Vals dvs ds) (hx : PassesAt CX X E pins σ)
    (I : Inv X pins σ H s) (r : Vals vs us) (h : sp (vs ++ dvs) H Q E) : wpAny (model X.prog X.w) X.A (call (.ref f) us) (EP X pins σ Q) X.xe s := by
  have both : Vals (vs ++ dvs) (us ++ ds) := r.append hd
  have len : (us ++ ds).length = ps.length := both.length ▸ F.len _ _ _ _ h
  refine wpAny_call (codeAny_mono (F.run X.A X.stack s H ⟨us, []⟩ (us ++ ds) (vs ++ dvs) Q E hr I.env0 (hb s us I.kIn len) both h) fun res s' z => ?_)
  rcases res with ex | fl
  · exact hx H s ex s' I z
  · cases fl with
    | ret u => exact I.after z
    | next => cases z
    | brk => cases z
    | cont => cases z
theorem meth_at {pl : Sem Bool} (he : PE X o ta) (c : Cls X.K C) (hm : Meth X.K C m f) (F : FnOk X.prog X.w X.K X.mg X.base CX k f fd ps sp) (hr : Room k X.A) (hb : Binds X.K fd ps ds) (hd : Vals dvs ds) (hx : PassesAt CX X E pins σ) (ha : PA X (e :: es) t)
    (hst : starEach (e :: es) X.env = (false, eval e X.env) :: starEach es X.env := by rfl) (hpl : (backTo pos (starEach es X.env)).any (·.1) = false := by rfl)
    (ht : eval (.Call (.Attribute o m apos) (e :: es) [] pos) X.env = (do
      let obj ← eval o X.env
      standAt apos.atName
      let (g, first) ← holding [obj] (getMethod obj m pl)
      callWith pos g first (backTo pos (starEach (e :: es) X.env)) (backToKw pos (keywordEach [] X.env))) := by rfl) :
    PEat X pins σ (.Call (.Attribute o m apos) (e :: es) [] pos) (tMeth C m sp dvs E ta t) := by
  intro s H Q I h
  refine PySem.W.methodCall_KW (pl := pl) (thn (he pins s σ H _ I h) fun u s1 ⟨v, H1, I1, rv, a, dx, fs, ev, ea, l, q⟩ => ?_) ht
  subst ev
  cases (show u = Value.ref a from rv)
  refine getmeth_ok I1 ea c hm l (PySem.W.callWith_K (first := [.ref a]) (h₀ := X.base) I.ok.mod.kin hm.kp (thn (ha pos pins s1 σ H1 _ I1 q) fun us s2 ⟨vs, H2, I2, r, q2⟩ => ⟨I2.kIn, ?_⟩) hst hpl)
  exact run_at (us := .ref a :: us) (vs := .ref a :: vs) F hr hb hd hx I2 (.cons rfl r) q2
theorem set_at {i : Nat} {te : TE} {pos' : Pos} (hN : X.N.Nodup) (hi : X.N[i]? = some x) (hx : Loc X.env.scope x) (he : PEat X pins σ e te) (hs : swapsWith e (some (.Name x pos')) pos.line X.env = pure false := by rfl) (hf : X.fn x = true ∨ X.env.scope.names.lookup x = some .local := by first | exact .inl rfl | exact .inr rfl | assumption) :
    PSat X pins σ (.Assign [.Name x pos'] e pos) (tAsg te (gName i)) := by
  intro s H D I h
  exact wpAny_Assign_Name (thn (he s H _ I h) fun v s1 ⟨y, H1, I1, r1, q1⟩ => store_ok I1 hN hi hx r1 (fun s2 I2 => ⟨_, H1, I2, q1⟩) hf) hs
end
theorem PS.nox {X : Cx} {st : Stmt} {t : TS} (h : PS X.nox st t) : PS X st t := fun pins s σ H D I hw =>
  wpAny_mono (h pins s σ H D (I.wish _) hw) (fun _ _ q => q.unwish) fun _ _ z => False.elim z
section
variable {P : Program} {w : World} {K : PySem.W.Frag} {mg : Str → Option Value} {base : Heap}
theorem Fun.okE {x qual : Str} {st : Stmt} {f : Addr} {fd : FuncData} {N ps : List Str} {k : Nat} {sp : Sp} (F : Fun K x qual st f fd) (S : FnScope N ps (defScope st)) (len : ∀ vs H Q E, sp vs H Q E → vs.length = ps.length)
    (hbody : ∀ (cdv : Value) (A : Around) (outer : List Env) (s : Shared) (H : Hp) (vs : List V) (Q : VK) (E : XK), Room k (A.deeper (envOfC qual (defScope st) s.heap.objs.size f cdv)) → sp vs H Q E →
      ∃ t, PSs (cxOf (CXe P w) P w K mg base N qual (defScope st) f cdv A outer s H E) (defBody st) t ∧ t { nx := fun _ H' => Q .non H', rt := Q } (start N vs) H) : FnOk P w K mg base (CXe P w) (k + 1) f fd ps sp := by
  obtain ⟨oc, od, kV, doc, pm, an, cdv, ct, osl, rfl, lk, hcd⟩ := F.ex
  exact fn_of lk hcd S len fun A outer s H vs Q E hr hsp => hbody cdv A outer s H vs Q E hr hsp
end
def clsBody (s : Stmt) : List Stmt := match s with
  | .ClassDef _ _ _ b _ _ _ _ _ _ _ => b
  | _ => []
end L2
namespace L2
open PySem PySem.W PyProof.Rows
abbrev MKey := Key ⊕ List Key
section
variable (P : Program) (w : World)
def mHash : MKey → Int
  | .inl k => (mixKind P w).hash k
  | .inr ks => (tupleKind (mixKind P w)).hash ks
def mDraws : MKey → Nat
  | .inl _ => 1
  | .inr ks => ks.length + 1
def mIs (h : Heap) (k : MKey) (v : Value) : Prop := match k with
  | .inl k => (mixKind P w).is k v = true
  | .inr ks => ∃ a, v = .ref a ∧ (tupleKind (mixKind P w)).is h ks a
abbrev MEnt := MKey × Value × Value
def mEnt (x : MEnt) : DictEntry := ⟨mHash P w x.1, x.2.1, x.2.2⟩
end
section
variable {P : Program} {w : World} {A : Around} {E : Value → Shared → Prop} {s : Shared}
theorem mIs.flat {h : Heap} {k : Key} {v : Value} (x : mIs P w h (.inl k) v) : (∃ i t, v = .int i t ∧ k = .inl i) ∨ ∃ z t, v = .str z t ∧ k = .inr z := by
  have x : keyIs k v = true := x
  cases k with
  | inl i =>
    have x : Value.isInt i v = true := x
    cases v with
    | int j t =>
      simp [Value.isInt] at x
      exact .inl ⟨_, _, rfl, by rw [x]⟩
    | _ => cases x
  | inr z =>
    have x : Value.isStrOf z v = true := x
    cases v with
    | str j t =>
      simp [Value.isStrOf] at x
      exact .inr ⟨_, _, rfl, by rw [x]⟩
    | _ => cases x
theorem m_hash {k : MKey} {v : Value} {Q : Int → Shared → Prop} (hu : A.units < cLine) (hk : mIs P w s.heap k v) (q : Q (mHash P w k) { s with toks := s.toks + mDraws k }) : wpAny (model P w) A (pyHash v) Q E s := by
  cases k with
  | inl k => exact (mixKind P w).pyHash hk q
  | inr ks =>
    obtain ⟨a, rfl, hk⟩ := hk
    exact (tupleKind (mixKind P w)).pyHash hu hk q
theorem m_eq {x y : MKey} {u v : Value} {Q : Bool → Shared → Prop} (hu : A.units < cLine) (hx : mIs P w s.heap x u) (hy : mIs P w s.heap y v) (q : Q (decide (x = y)) s) : wpAny (model P w) A (eqBool u v) Q E s := by
  cases x with
  | inl x =>
    cases y with
    | inl y => exact (mixKind P w).eqBool hx hy (by simpa using q)
    | inr ks =>
      obtain ⟨a, rfl, o, its, n, ho, hc, hd, hi⟩ := hy
      rw [decide_eq_false (by intro z; cases z)] at q
      rcases hx.flat with ⟨i, t, rfl, _⟩ | ⟨z, t, rfl, _⟩
      · exact SeqAt.EqAt.int_tuple i t ⟨_, ho, hc, _, hd⟩ hu P w E Q q
      · exact SeqAt.EqAt.str_tuple z t ⟨_, ho, hc, _, hd⟩ hu P w E Q q
  | inr ks =>
    obtain ⟨a, rfl, hk⟩ := hx
    cases y with
    | inl y =>
      obtain ⟨o, its, n, ho, hc, hd, hi⟩ := hk
      rw [decide_eq_false (by intro z; cases z)] at q
      rcases mIs.flat hy with ⟨i, t, rfl, _⟩ | ⟨z, t, rfl, _⟩
      · exact SeqAt.EqAt.tuple_int i t ⟨_, ho, hc, _, hd⟩ hu P w E Q q
      · exact SeqAt.EqAt.tuple_str z t ⟨_, ho, hc, _, hd⟩ hu P w E Q q
    | inr ls =>
      obtain ⟨b, rfl, hl⟩ := hy
      exact (tupleKind (mixKind P w)).eqBool hu hk hl (by simpa using q)
theorem m_quiet {k : MKey} {v : Value} {Q : Bool → Shared → Prop} (hk : mIs P w s.heap k v) (q : Q true s) : wpAny (model P w) A (eqIsQuiet 8 v) Q E s := by
  cases k with
  | inl k =>
    rcases hk.flat with ⟨i, t, rfl, _⟩ | ⟨z, t, rfl, _⟩
    · exact wpAny_pure q
    · exact wpAny_pure q
  | inr ks =>
    obtain ⟨a, rfl, hk⟩ := hk
    exact (tupleKind (mixKind P w)).quiet hk q
theorem mIs.inj {h : Heap} {x y : MKey} {v : Value} (hx : mIs P w h x v) (hy : mIs P w h y v) : x = y := by
  cases x with
  | inl x =>
    cases y with
    | inl y => rw [(mixKind P w).inj v x y hx hy]
    | inr ks =>
      obtain ⟨a, rfl, _⟩ := hy
      rcases hx.flat with ⟨i, t, e, _⟩ | ⟨z, t, e, _⟩ <;> cases e
  | inr ks =>
    obtain ⟨a, rfl, hk⟩ := hx
    cases y with
    | inl y => rcases mIs.flat hy with ⟨i, t, e, _⟩ | ⟨z, t, e, _⟩ <;> cases e
    | inr ls =>
      obtain ⟨b, e, hl⟩ := hy
      cases e
      rw [(tupleKind (mixKind P w)).inj hk hl]
theorem m_tells {k : MKey} {v : Value} {st : List Value} {Q : Bool → Shared → Prop} (hk : mIs P w s.heap k v) (hs : ∀ u ∈ st, ∃ k', mIs P w s.heap k' u) (q : Q false s) : wpAny (model P w) A (tableMayTell v st) Q E s := by
  unfold tableMayTell
  split
  · exact wpAny_pure q
  · refine wpAny_bind (m_quiet hk ?_)
    simp only [Bool.not_true, Bool.false_eq_true, if_false]
    refine wpAny_bind (wpAny_forIn_list _ (fun left r s' => s' = s ∧ r = (none, ()) ∧ ∀ u ∈ left, ∃ k', mIs P w s.heap k' u) _ ?_ ?_ _ _ ⟨rfl, rfl, hs⟩)
    · rintro u left r s' ⟨rfl, rfl, hl⟩
      obtain ⟨k', hu⟩ := hl u List.mem_cons_self
      refine wpAny_bind (m_quiet hu ?_)
      simp only [Bool.not_true, Bool.false_eq_true, if_false]
      exact wpAny_pure ⟨rfl, rfl, fun z hz => hl z (List.mem_cons_of_mem _ hz)⟩
    · rintro r s' ⟨rfl, rfl, _⟩
      exact wpAny_pure q
theorem m_at {es : Array DictEntry} {xs : List MEnt} (he : es.toList = xs.map (mEnt P w)) (j : Nat) : es[j]? = (xs[j]?).map (mEnt P w) := by
  rw [← Array.getElem?_toList, he, List.getElem?_map]
theorem m_size {es : Array DictEntry} {xs : List MEnt} (he : es.toList = xs.map (mEnt P w)) : es.size = xs.length := by
  rw [← Array.length_toList, he, List.length_map]
theorem m_once {xs : List MEnt} (hn : (xs.map (·.1)).Nodup) {i j : Nat} {k : MKey} {p q : Value × Value} (hi : xs[i]? = some (k, p)) (hj : xs[j]? = some (k, q)) : i = j := by
  have e1 : (xs.map (·.1))[i]? = some k := by rw [List.getElem?_map, hi]; rfl
  have e2 : (xs.map (·.1))[j]? = some k := by rw [List.getElem?_map, hj]; rfl
  exact (List.getElem?_inj (List.getElem?_eq_some_iff.mp e1).1 hn).mp (e1.trans e2.symm)
theorem iteA {c : Prop} [Decidable c] {t u : Sem (Option Nat)} {Q : Option Nat → Shared → Prop} (h1 : c → wpAny (model P w) A t Q E s) (h2 : ¬ c → wpAny (model P w) A u Q E s) : wpAny (model P w) A (if c then t else u) Q E s := by
  by_cases h : c
  · rw [if_pos h]; exact h1 h
  · rw [if_neg h]; exact h2 h
def MFound (xs : List MEnt) (k : MKey) (s : Shared) (b : Option (Option Nat) × Option Nat) (s' : Shared) : Prop := s' = s ∧ ((∃ j p, b = (some (some j), none) ∧ xs[j]? = some (k, p)) ∨ (b.1 = none ∧ ((b.2 = none ∧ ∀ (j : Nat) (p : Value × Value), xs[j]? ≠ some (k, p)) ∨ ∃ j p, b.2 = some j ∧ xs[j]? = some (k, p))))
theorem m_loop {xs : List MEnt} {k : MKey} {places : List Nat} (hn : (xs.map (·.1)).Nodup) (inP : ∀ j p, xs[j]? = some (k, p) → j ∈ places) (ofP : ∀ j ∈ places, ∃ y : MEnt, xs[j]? = some y ∧ mHash P w y.1 = mHash P w k) (ndP : places.Nodup)
    (f : Nat → Option (Option Nat) × Option Nat → Sem (ForInStep (Option (Option Nat) × Option Nat)))
    (h1 : ∀ (x : Nat) (p : Value × Value) (R : ForInStep (Option (Option Nat) × Option Nat) → Shared → Prop), x ∈ places → xs[x]? = some (k, p) → R (.done (some (some x), none)) s → R (.yield (none, some x)) s → wpAny (model P w) A (f x (none, none)) R E s)
    (h2 : ∀ (x : Nat) (hit : Option Nat) (y : MEnt) (R : ForInStep (Option (Option Nat) × Option Nat) → Shared → Prop), x ∈ places → xs[x]? = some y → mHash P w y.1 = mHash P w k → y.1 ≠ k → R (.yield (none, hit)) s → wpAny (model P w) A (f x (none, hit)) R E s) :
    wpAny (model P w) A (forIn places ((none, none) : Option (Option Nat) × Option Nat) f) (MFound xs k s) E s := by
  refine wpAny_forIn_list f (fun left b s' => s' = s ∧ b.1 = none ∧ ∃ pre, places = pre ++ left ∧ ((b.2 = none ∧ ∀ j ∈ pre, ∀ p, xs[j]? ≠ some (k, p)) ∨ ∃ j p, b.2 = some j ∧ j ∈ pre ∧ xs[j]? = some (k, p))) _ ?_ ?_ _ _ ⟨rfl, rfl, [], rfl, .inl ⟨rfl, by simp⟩⟩
  · rintro x left ⟨b1, b2⟩ s' ⟨rfl, rfl, pre, hp, hb⟩
    have hxP : x ∈ places := by rw [hp]; simp
    have hxn : x ∉ pre := fun z => by
      rw [hp, List.nodup_append] at ndP
      exact ndP.2.2 x z x List.mem_cons_self rfl
    obtain ⟨y, hy, hh⟩ := ofP x hxP
    have hp' : places = (pre ++ [x]) ++ left := by rw [hp]; simp
    by_cases e : y.1 = k
    · obtain ⟨k', p⟩ := y
      have e : k' = k := e
      subst e
      rcases hb with ⟨rfl, hno⟩ | ⟨j, q, rfl, hj, hjx⟩
      · refine h1 x p _ hxP hy ⟨rfl, .inl ⟨x, p, rfl, hy⟩⟩ ⟨rfl, rfl, pre ++ [x], hp', .inr ⟨x, p, rfl, by simp, hy⟩⟩
      · exact absurd (m_once hn hjx hy ▸ hj) hxn
    · refine h2 x b2 y _ hxP hy hh e ⟨rfl, rfl, pre ++ [x], hp', ?_⟩
      rcases hb with ⟨rfl, hno⟩ | ⟨j, q, rfl, hj, hjx⟩
      · refine .inl ⟨rfl, fun j hj p z => ?_⟩
        rcases List.mem_append.mp hj with hj | hj
        · exact hno j hj p z
        · rw [List.mem_singleton.mp hj, hy] at z
          cases z
          exact e rfl
      · exact .inr ⟨j, q, rfl, List.mem_append_left _ hj, hjx⟩
  · rintro ⟨b1, b2⟩ s' ⟨rfl, rfl, pre, hp, hb⟩
    refine ⟨rfl, .inr ⟨rfl, ?_⟩⟩
    rcases hb with ⟨rfl, hno⟩ | ⟨j, q, rfl, hj, hjx⟩
    · refine .inl ⟨rfl, fun j p z => hno j ?_ p z⟩
      have := inP j p z
      rw [hp, List.append_nil] at this
      exact this
    · exact .inr ⟨j, q, rfl, hjx⟩
theorem m_find {d : Addr} {o : Obj} {es : Array DictEntry} {ep : Nat} {xs : List MEnt} {k : MKey} {key : Value} {Q : Option Nat → Shared → Prop} (hu : A.units < cLine) (hkey : mIs P w s.heap k key) (ho : s.heap.get? d = some o) (hd : o.data = .dict es ep)
    (he : es.toList = xs.map (mEnt P w)) (his : ∀ x ∈ xs, mIs P w s.heap x.1 x.2.1) (hn : (xs.map (·.1)).Nodup) (hnone : (∀ (j : Nat) (p : Value × Value), xs[j]? ≠ some (k, p)) → Q none s) (hsome : ∀ (j : Nat) (p : Value × Value), xs[j]? = some (k, p) → Q (some j) s) :
    wpAny (model P w) A (dictFind d key (mHash P w k)) Q E s := by
  have sz := m_size he
  have atE := m_at he
  generalize hpl : placesWithHash es.size (fun i => es[i]?.map (·.hash)) (mHash P w k) = places
  have inP : ∀ j p, xs[j]? = some (k, p) → j ∈ places := fun j p hj => by
    rw [← hpl]
    unfold placesWithHash
    refine List.mem_filter.mpr ⟨List.mem_range.mpr ?_, ?_⟩
    · rw [sz]; exact (List.getElem?_eq_some_iff.mp hj).1
    · show (es[j]?.map (·.hash) == some (mHash P w k)) = true
      rw [atE j, hj]; simp [mEnt]
  have ofP : ∀ j ∈ places, ∃ y : MEnt, xs[j]? = some y ∧ mHash P w y.1 = mHash P w k := fun j hj => by
    rw [← hpl] at hj
    unfold placesWithHash at hj
    obtain ⟨h1, h2⟩ := List.mem_filter.mp hj
    have h1 := List.mem_range.mp h1
    rw [sz] at h1
    refine ⟨xs[j], List.getElem?_eq_getElem h1, ?_⟩
    have h2 : (es[j]?.map (·.hash) == some (mHash P w k)) = true := h2
    rw [atE j, List.getElem?_eq_getElem h1] at h2
    simpa [mEnt] using h2
  have ndP : places.Nodup := by
    rw [← hpl]
    exact List.filter_sublist.nodup List.nodup_range
  have plain : wpAny (model P w) A (dictWalkPlain d key (mHash P w k) es places) Q E s := by
    unfold dictWalkPlain
    refine wpAny_bind (wpAny_forIn_list _ (fun left b s' => s' = s ∧ b = (none, ()) ∧ ∃ pre, places = pre ++ left ∧ ∀ j ∈ pre, ∀ p, xs[j]? ≠ some (k, p)) _ ?_ ?_ _ _ ⟨rfl, rfl, [], rfl, by simp⟩)
    · rintro x left b s' ⟨rfl, rfl, pre, hp, hno⟩
      obtain ⟨⟨k', kv, v'⟩, hx, hh⟩ := ofP x (by rw [hp]; simp)
      have hex : es[x]? = some ⟨mHash P w k', kv, v'⟩ := by rw [atE x, hx]; rfl
      rw [hex]
      dsimp only
      rw [if_pos (by rw [hh]; simp)]
      refine wpAny_bind (wpAny_dictEpoch ho hd (wpAny_bind (m_eq (x := k') (y := k) hu (his _ (List.mem_of_getElem? hx)) hkey (wpAny_bind (wpAny_dictEpoch ho hd ?_)))))
      show wpAny (model P w) A (if (ep != ep) = true then _ else _) _ E s'
      rw [if_neg (by simp)]
      by_cases hkk : k' = k
      · rw [decide_eq_true hkk]
        subst hkk
        exact wpAny_bind (wpAny_rule (wpAny_pure (wpAny_pure (hsome x _ hx))))
      · rw [decide_eq_false hkk]
        refine wpAny_bind (wpAny_rule (wpAny_pure ⟨rfl, rfl, pre ++ [x], by rw [hp]; simp, fun j hj p z => ?_⟩))
        rcases List.mem_append.mp hj with hj | hj
        · exact hno j hj p z
        · rw [List.mem_singleton.mp hj, hx] at z
          cases z
          exact hkk rfl
    · rintro b s' ⟨rfl, rfl, pre, hp, hno⟩
      refine wpAny_pure (hnone fun j p z => hno j ?_ p z)
      have := inP j p z
      rw [hp, List.append_nil] at this
      exact this
  have hst : ∀ v ∈ places.filterMap (fun i => es[i]?.map (·.key)), ∃ k', mIs P w s.heap k' v := fun v hv => by
    obtain ⟨i, hi, hv⟩ := List.mem_filterMap.mp hv
    obtain ⟨y, hy, _⟩ := ofP i hi
    rw [atE i, hy] at hv
    cases hv
    exact ⟨_, his y (List.mem_of_getElem? hy)⟩
  unfold dictFind
  with_reducible refine wpAny_holding ?_
  refine wpAny_bind (wpAny_dictEntries ho hd ?_)
  dsimp only
  rw [hpl]
  generalize hstd : places.filterMap (fun i => es[i]?.map (·.key)) = stored at hst ⊢
  have byStr : ∀ z t, key = .str z t → (es.all fun e => isExactStrKey e.key) = true → wpAny (model P w) A (foundByValue d key es z) Q E s := by
    rintro z t rfl -
    have ek : k = .inl (.inr z) := by
      cases k with
      | inl k =>
        rcases hkey.flat with ⟨i, t', e, _⟩ | ⟨z', t', e, e2⟩
        · cases e
        · cases e; rw [e2]
      | inr ks => obtain ⟨a, e, _⟩ := hkey; cases e
    have isk : ∀ (j : Nat) (y : MEnt), xs[j]? = some y → y.2.1.isStr z = true → y.1 = k := fun j y hy hz => by
      have h3 := his y (List.mem_of_getElem? hy)
      refine mIs.inj h3 ?_
      rw [ek]
      cases hv : y.2.1 with
      | str z' t' =>
        rw [hv] at hz
        have : z' = z := by simpa [Value.isStr] using hz
        rw [this]
        exact mixKind_str P w z t'
      | _ => rw [hv] at hz; cases hz
    have kis : ∀ (j : Nat) (p : Value × Value), xs[j]? = some (k, p) → p.1.isStr z = true := fun j p hj => by
      have h3 : mIs P w s.heap k p.1 := his _ (List.mem_of_getElem? hj)
      rw [ek] at h3
      rcases h3.flat with ⟨i, t', _, e⟩ | ⟨z', t', e, e2⟩
      · cases e
      · cases e2
        rw [e]
        simp [Value.isStr]
    unfold foundByValue
    cases hf : es.findIdx? (fun e => e.key.isStr z) with
    | none =>
      refine wpAny_pure (hnone fun j p hj => ?_)
      have hall := Array.findIdx?_eq_none_iff.mp hf
      have h4 : es[j]? = some (mEnt P w (k, p)) := by rw [atE j, hj]; rfl
      have h5 := hall _ (Array.mem_of_getElem? h4)
      have h6 : p.1.isStr z = false := by simpa [mEnt] using h5
      rw [kis j p hj] at h6
      cases h6
    | some i =>
      obtain ⟨hlt, hi, _⟩ := Array.findIdx?_eq_some_iff_getElem.mp hf
      have hx : xs[i]? = some (xs[i]'(by rw [← sz]; exact hlt)) := List.getElem?_eq_getElem _
      generalize xs[i]'(by rw [← sz]; exact hlt) = y at hx
      have hex : es[i]? = some (mEnt P w y) := by rw [atE i, hx]; rfl
      have hi2 : y.2.1.isStr z = true := by
        rw [Array.getElem?_eq_getElem hlt] at hex
        rw [Option.some.inj hex] at hi
        exact hi
      have hy := isk i y hx hi2
      obtain ⟨k', p⟩ := y
      have hy : k' = k := hy
      subst hy
      dsimp only
      rw [hex]
      dsimp only
      refine wpAny_bind (wpAny_dictEpoch ho hd (wpAny_bind (m_eq (x := k') (y := k') hu (his _ (List.mem_of_getElem? hx)) hkey (wpAny_bind (wpAny_dictEpoch ho hd ?_)))))
      rw [if_neg (by simp), if_pos (decide_eq_true rfl)]
      exact wpAny_bind (wpAny_rule (wpAny_pure (hsome i p hx)))
  have notRef : ∀ a, key = .ref a → ¬ (es.any fun e => e.key == key && e.hash != mHash P w k) = true := by
    intro a ea
    rw [← Array.any_toList, he, List.any_eq_true]
    rintro ⟨e, hin, hc⟩
    obtain ⟨y, hy, rfl⟩ := List.mem_map.mp hin
    simp only [mEnt, Bool.and_eq_true, beq_iff_eq, bne_iff_ne, ne_eq] at hc
    have h3 := his y hy
    rw [hc.1] at h3
    exact hc.2 (by rw [h3.inj hkey])
  by_cases hall : ((key :: stored).all carriedByValue) = true
  · rw [if_pos hall]
    split
    · rename_i z t
      split
      · rename_i hz
        exact byStr z t rfl hz
      · exact plain
    · exact plain
  · rw [if_neg hall]
    have kinds : (∃ i t, key = .int i t) ∨ (∃ z t, key = .str z t) ∨ ∃ a, key = .ref a := by
      cases k with
      | inl k =>
        rcases hkey.flat with ⟨i, t, e, _⟩ | ⟨z, t, e, _⟩
        · exact .inl ⟨i, t, e⟩
        · exact .inr (.inl ⟨z, t, e⟩)
      | inr ks =>
        obtain ⟨a, e, _⟩ := hkey
        exact .inr (.inr ⟨a, e⟩)
    have same1 : ∀ (x : Nat) (p : Value × Value), xs[x]? = some (k, p) → ∃ e, es[x]? = some e ∧ e.hash = mHash P w k ∧ mIs P w s.heap k e.key := fun x p hx => ⟨_, by rw [atE x, hx]; rfl, rfl, his _ (List.mem_of_getElem? hx)⟩
    have same2 : ∀ (x : Nat) (y : MEnt), xs[x]? = some y → ∃ e, es[x]? = some e ∧ e.hash = mHash P w y.1 ∧ mIs P w s.heap y.1 e.key := fun x y hx => ⟨_, by rw [atE x, hx]; rfl, rfl, his _ (List.mem_of_getElem? hx)⟩
    rcases kinds with ⟨i, t, e⟩ | ⟨z, t, e⟩ | ⟨a, e⟩
    case' inl => subst e; dsimp only
    case' inr.inl =>
      subst e; dsimp only
      by_cases hz : (es.all fun e => isExactStrKey e.key) = true
      case pos => rw [if_pos hz]; exact byStr z t rfl hz
      case' neg => rw [if_neg hz]
    case' inr.inr => subst e; dsimp only; rw [if_neg (notRef a rfl)]
    all_goals
      refine iteA (fun _ => wpAny_bind (wpAny_pure ?_)) (fun _ => wpAny_bind (m_tells hkey hst ?_))
    all_goals
      rw [if_neg (by simp)]
      refine wpAny_bind (wpAny_mono (m_loop (P := P) (w := w) hn inP ofP ndP _ ?_ ?_) (fun b s' z => ?_) fun _ _ z => z)
    all_goals first
      | (obtain ⟨b1, b2⟩ := b
         obtain ⟨rfl, h⟩ := z
         rcases h with ⟨j, p, e, hj⟩ | ⟨e, h⟩
         · cases e
           exact wpAny_pure (hsome j p hj)
         · have e : b1 = none := e
           subst e
           rcases h with ⟨e, h⟩ | ⟨j, p, e, hj⟩ <;> (have e : b2 = _ := e; subst e)
           · exact wpAny_pure (hnone h)
           · exact wpAny_pure (hsome j p hj))
      | (intro x p R hxP hx r1 r2
         obtain ⟨e, he1, he2, he3⟩ := same1 x p hx
         rw [he1]; dsimp only
         rw [if_pos (by rw [he2]; simp)]
         refine wpAny_bind (wpAny_dictEpoch ho hd (wpAny_bind (m_eq (x := k) (y := k) hu he3 hkey (wpAny_bind (wpAny_dictEpoch ho hd ?_)))))
         rw [if_neg (by simp), if_pos (decide_eq_true rfl), if_neg (by simp)]
         refine wpAny_bind (wpAny_rule ?_)
         split
         · exact wpAny_pure r1
         · exact wpAny_pure r2)
      | (intro x hit y R hxP hx hh hne r
         obtain ⟨e, he1, he2, he3⟩ := same2 x y hx
         rw [he1]; dsimp only
         rw [if_pos (by rw [he2, hh]; simp)]
         refine wpAny_bind (wpAny_dictEpoch ho hd (wpAny_bind (m_eq (x := y.1) (y := k) hu he3 hkey (wpAny_bind (wpAny_dictEpoch ho hd ?_)))))
         rw [if_neg (by simp), if_neg (by simp [hne])]
         refine wpAny_bind (wpAny_rule ?_)
         rw [if_neg (by simp)]
         exact wpAny_pure r)
end
end L2
namespace L2
open PySem PySem.W PyProof.Rows
section
variable {P : Program} {w : World} {A : Around} {E : Value → Shared → Prop} {s : Shared}
theorem m_first {β : Type} {xs : List (MKey × β)} (hn : (xs.map (·.1)).Nodup) {j : Nat} {k : MKey} {p : β} (hj : xs[j]? = some (k, p)) : xs.find? (fun x => decide (x.1 = k)) = some (k, p) := by
  rw [List.find?_eq_some_iff_append]
  obtain ⟨hlt, e⟩ := List.getElem?_eq_some_iff.mp hj
  refine ⟨decide_eq_true rfl, xs.take j, xs.drop (j + 1), ?_, fun y hy => ?_⟩
  · rw [← e, List.getElem_cons_drop, List.take_append_drop]
  · obtain ⟨i, hi⟩ := List.mem_iff_getElem?.mp hy
    have hij : i < j := by
      have := (List.getElem?_eq_some_iff.mp hi).1
      rw [List.length_take] at this; omega
    rw [List.getElem?_take_of_lt hij] at hi
    have : y.1 ≠ k := fun z => by
      have e1 : (xs.map (·.1))[i]? = some k := by rw [List.getElem?_map, hi, ← z]; rfl
      have e2 : (xs.map (·.1))[j]? = some k := by rw [List.getElem?_map, hj]; rfl
      have := (List.getElem?_inj (List.getElem?_eq_some_iff.mp e1).1 hn).mp (e1.trans e2.symm)
      omega
    simp [this]
theorem m_nowhere {β : Type} {xs : List (MKey × β)} {k : MKey} (h : ∀ (j : Nat) (p : β), xs[j]? ≠ some (k, p)) : xs.find? (fun x => decide (x.1 = k)) = none := by
  rw [List.find?_eq_none]
  intro x hx hk
  obtain ⟨j, hj⟩ := List.mem_iff_getElem?.mp hx
  have hk : x.1 = k := of_decide_eq_true hk
  exact h j x.2 (by rw [hj, ← hk])
structure MDict (P : Program) (w : World) (h : Heap) (d : Addr) (ys : List MEnt) : Prop where
  ok : ∃ o es ep, h.get? d = some o ∧ o.ExactDict ∧ o.data = .dict es ep ∧ es.toList = ys.map (mEnt P w)
  nd : (ys.map (·.1)).Nodup
def mVal {β γ : Type} (ys : List (MKey × β × γ)) (k : MKey) : Option γ := (ys.find? fun y => decide (y.1 = k)).map (·.2.2)
def mPut {β γ : Type} (ys : List (MKey × β × γ)) (k : MKey) (key : β) (v : γ) : List (MKey × β × γ) :=
  if (mVal ys k).isSome then ys.map fun y => if y.1 = k then (y.1, y.2.1, v) else y else ys ++ [(k, key, v)]
theorem m_get {d : Addr} {ys : List MEnt} {k : MKey} {key : Value} {Q : Option Value → Shared → Prop} (hu : A.units < cLine) (hkey : mIs P w s.heap k key) (hm : MDict P w s.heap d ys) (his : ∀ x ∈ ys, mIs P w s.heap x.1 x.2.1)
    (q : Q (mVal ys k) { s with toks := s.toks + mDraws k }) : wpAny (model P w) A (dictGet d key) Q E s := by
  obtain ⟨o, es, ep, ho, hc, hd, he⟩ := hm.ok
  unfold dictGet
  with_reducible refine wpAny_holding ?_
  refine wpAny_bind (m_hash hu hkey (wpAny_bind (m_find (s := { s with toks := s.toks + mDraws k }) hu hkey ho hd he his hm.nd (fun no => ?_) fun j p hj => ?_)))
  · unfold mVal at q
    rw [m_nowhere no] at q
    exact wpAny_pure q
  · unfold mVal at q
    rw [m_first hm.nd hj] at q
    refine wpAny_bind (wpAny_dictEntries (s := { s with toks := s.toks + mDraws k }) ho hd ?_)
    rw [m_at he j, hj]
    exact wpAny_pure q
theorem m_keys {β γ : Type} (ys : List (MKey × β × γ)) (k : MKey) (v : γ) : (ys.map fun y => if y.1 = k then (y.1, y.2.1, v) else y).map (·.1) = ys.map (·.1) := by
  rw [List.map_map]
  refine List.map_congr_left fun y _ => ?_
  show (if y.1 = k then (y.1, y.2.1, v) else y).1 = y.1
  split <;> rfl
theorem m_set {d : Addr} {ys : List MEnt} {k : MKey} {key v : Value} {Q : Unit → Shared → Prop} (hu : A.units < cLine) (hkey : mIs P w s.heap k key) (hm : MDict P w s.heap d ys) (his : ∀ x ∈ ys, mIs P w s.heap x.1 x.2.1) (hz : ys.length < sizeLine)
    (q : ∀ h', MDict P w h' d (mPut ys k key v) → Heap.SameBut d s.heap h' → Q () { s with heap := h', toks := s.toks + mDraws k }) : wpAny (model P w) A (dictSet d key v) Q E s := by
  obtain ⟨o, es, ep, ho, hc, hd, he⟩ := hm.ok
  unfold dictSet
  with_reducible refine wpAny_holding ?_
  refine wpAny_bind (m_hash hu hkey ?_)
  unfold dictSetHashed
  with_reducible refine wpAny_holding ?_
  refine wpAny_bind (m_find (s := { s with toks := s.toks + mDraws k }) hu hkey ho hd he his hm.nd (fun no => ?_) fun j p hj => ?_)
  · have e1 : mPut ys k key v = ys ++ [(k, key, v)] := by
      unfold mPut mVal
      rw [m_nowhere no]; rfl
    have nk : k ∉ ys.map (·.1) := fun z => by
      obtain ⟨y, hy, e⟩ := List.mem_map.mp z
      obtain ⟨j, hj⟩ := List.mem_iff_getElem?.mp hy
      exact no j y.2 (by rw [hj, ← e])
    rw [e1] at q
    refine wpAny_bind (wpAny_rule (wpAny_updateDictKeys (hz := by have := m_size he; omega) (s := { s with toks := s.toks + mDraws k }) ho hd (q _ ⟨⟨_, _, ep + 1, Heap.get?_update_self _ ho (Obj.isFreed_of_dict (Obj.data_mapDictKeys hd _)), hc.mapDictKeys _, Obj.data_mapDictKeys hd _, ?_⟩, ?_⟩ (Heap.SameBut.update ..))))
    · rw [Array.toList_push, he, List.map_append]; rfl
    · rw [List.map_append, List.nodup_append]
      refine ⟨hm.nd, by simp, fun a ha b hb e => nk ?_⟩
      have hb : b = k := List.mem_singleton.mp hb
      rw [← hb, ← e]; exact ha
  · have e1 : mPut ys k key v = ys.map fun y => if y.1 = k then (y.1, y.2.1, v) else y := by
      unfold mPut mVal
      rw [m_first hm.nd hj]; rfl
    rw [e1] at q
    refine wpAny_bind (wpAny_rule (wpAny_bind (wpAny_updateDict (s := { s with toks := s.toks + mDraws k }) ho hd (wpAny_point (q _ ⟨⟨_, _, ep, Heap.get?_update_self _ ho (Obj.isFreed_of_dict (Obj.data_mapDict hd _)), hc.mapDict _, Obj.data_mapDict hd _, ?_⟩, by rw [m_keys]; exact hm.nd⟩ (Heap.SameBut.update ..))))))
    rw [Array.toList_modify, he]
    refine List.ext_getElem? fun i => ?_
    rw [List.getElem?_modify, List.getElem?_map, List.getElem?_map, List.getElem?_map]
    cases hi : ys[i]? with
    | none => by_cases e : j = i <;> simp [e]
    | some y =>
      by_cases e : j = i
      · subst e
        rw [hj] at hi
        cases hi
        simp [mEnt]
      · have : y.1 ≠ k := fun z => e (m_once hm.nd hj (q := y.2) (by rw [hi, ← z]))
        simp [e, this]
theorem MDict.type {d : Addr} {ys : List MEnt} (hm : MDict P w s.heap d ys) : s.TypeIs (.ref d) "dict" := let ⟨o, _, _, ho, hc, _⟩ := hm.ok; ⟨o, ho, hc.1⟩
theorem MDict.bare {d : Addr} {ys : List MEnt} (hm : MDict P w s.heap d ys) : ∀ b, Value.ref d = .ref b → ∃ ob, s.heap.get? b = some ob ∧ ob.dict = none := fun b e => by
  cases e
  obtain ⟨o, _, _, ho, hc, _⟩ := hm.ok
  exact ⟨o, ho, hc.2.1⟩
theorem meets_get2 (d : Addr) (key dflt : Value) (hd : (d == sysModules) = false) : MeetsIn P w (Builtin.«dict.get» ⟨[.ref d, key, dflt], []⟩)
    (fun A R s => A.in1.units < cLine ∧ ∃ k ys, mIs P w s.heap k key ∧ MDict P w s.heap d ys ∧ (∀ x ∈ ys, mIs P w s.heap x.1 x.2.1) ∧ R (.ok (.ret ((mVal ys k).getD dflt))) { s with toks := s.toks + mDraws k }) :=
  .of_wp fun A R s ⟨hu, k, ys, hk, hm, hi, h⟩ => by
    show wpAny (model P w) _ (dictGet d key >>= _) _ _ s
    refine wpAny_bind (m_get hu hk hm hi ?_)
    cases hv : mVal ys k with
    | some v =>
      rw [hv] at h
      exact wpAny_pure ⟨v, rfl, h⟩
    | none =>
      rw [hv] at h
      exact wpAny_bind (wpAny_missed_other hd (wpAny_pure ⟨dflt, rfl, h⟩))
theorem m_setItem {d : Addr} {ys : List MEnt} {k : MKey} {key v : Value} {Q : Unit → Shared → Prop} (hu : A.in1.units < cLine) (hkey : mIs P w s.heap k key) (hm : MDict P w s.heap d ys) (his : ∀ x ∈ ys, mIs P w s.heap x.1 x.2.1) (hz : ys.length < sizeLine)
    (q : ∀ h', MDict P w h' d (mPut ys k key v) → Heap.SameBut d s.heap h' → Q () { s with heap := h', toks := s.toks + mDraws k }) : wpAny (model P w) A (setItem (.ref d) key v) Q E s := by
  unfold setItem
  with_reducible refine wpAny_holding ?_
  refine wpAny_bind (wpAny_sequenceKey hm.type (by decide) (wpAny_bind (wpAny_callSpecial?_slot (name := Str.ofString "__setitem__") hm.type slot_dict_setitem (wpAny_call_entry slot_dict_setitem hm.type entry_dict_setitem ?_ (args_dict_setitem _ _ _)))))
  show wpAny (model P w) _ (Builtin.Dict.notOrdered "__setitem__" ⟨[.ref d, key, v], []⟩ >>= _) _ _ s
  refine wpAny_bind (wpAny_notOrdered_dict hm.type ?_)
  show wpAny (model P w) A.in1 (dictSet d key v >>= _) _ _ s
  exact wpAny_bind (m_set hu hkey hm his hz fun h' h1 h2 => wpAny_pure ⟨.none, rfl, wpAny_pure (q h' h1 h2)⟩)
end
abbrev MVal := MKey × V × V
def MRel (xs : List MVal) (ys : List MEnt) : Prop := Paired (fun (p : MVal) (q : MEnt) => p.1 = q.1 ∧ RelV p.2.1 q.2.1 ∧ RelV p.2.2 q.2.2) xs ys
abbrev dM (P : Program) (w : World) (d : Addr) (xs : List MVal) : HO := .ext fun h => (d == sysModules) = false ∧ ∃ ys, MRel xs ys ∧ MDict P w h d ys
def KeyAt (K : PySem.W.Frag) (H : Hp) (k : MKey) (v : V) : Prop := match k with
  | .inl k => v = kV k
  | .inr ks => ∃ a, v = .ref a ∧ SqT K H a (ks.map kV)
def KeysAt (K : PySem.W.Frag) (H : Hp) (xs : List MVal) : Prop := ∀ x ∈ xs, KeyAt K H x.1 x.2.1
theorem MDict.keep {P : Program} {w : World} {h1 h2 : Heap} {d : Addr} {ys : List MEnt} (m : MDict P w h1 d ys) (k : ∀ o, h1.get? d = some o → h2.get? d = some o) : MDict P w h2 d ys :=
  let ⟨o, es, ep, e, r⟩ := m.ok; ⟨⟨o, es, ep, k o e, r⟩, m.nd⟩
theorem dm_ok {P : Program} {w : World} {H : Hp} {h : Heap} {d : Addr} {xs : List MVal} {ys : List MEnt} (hd : (d == sysModules) = false) (r : MRel xs ys) (m : MDict P w h d ys) : ObjOk P w H h d (dM P w d xs) :=
  ⟨⟨hd, ys, r, m⟩, let ⟨o, _, _, e, _⟩ := m.ok; ⟨o, e⟩, fun _ _ ⟨h1, ys, h2, h3⟩ k => ⟨h1, ys, h2, h3.keep k⟩⟩
theorem KeyAt.is {X : Cx} {pins : List (Addr × Obj)} {σ : St} {H : Hp} {s : Shared} (I : Inv X pins σ H s) {k : MKey} {v : V} {u : Value} (h : KeyAt X.K H k v) (r : RelV v u) : mIs X.prog X.w s.heap k u := by
  cases k with
  | inl k =>
    have h : v = kV k := h
    subst h
    exact kV_is r
  | inr ks =>
    obtain ⟨a, rfl, hT⟩ := h
    cases r
    obtain ⟨its, rv, ⟨o, e, c, n, d⟩, _⟩ := I.tuple hT
    exact ⟨a, rfl, o, _, n, e, c, d, items_are rv⟩
theorem MRel.keys {X : Cx} {pins : List (Addr × Obj)} {σ : St} {H : Hp} {s : Shared} (I : Inv X pins σ H s) : ∀ {xs : List MVal} {ys : List MEnt}, MRel xs ys → KeysAt X.K H xs → ∀ y ∈ ys, mIs X.prog X.w s.heap y.1 y.2.1
  | _, _, .nil, _, y, hy => nomatch hy
  | _, _, .cons (a := p) r t, k, y, hy => by
    rcases List.mem_cons.mp hy with rfl | hy
    · rw [← r.1]
      exact (k p List.mem_cons_self).is I r.2.1
    · exact MRel.keys I t (fun x hx => k x (List.mem_cons_of_mem _ hx)) y hy
theorem MRel.val : ∀ {xs : List MVal} {ys : List MEnt}, MRel xs ys → ∀ k, RelO (mVal xs k) (mVal ys k)
  | _, _, .nil, _ => True.intro
  | p :: xs, q :: ys, .cons r t, k => by
    unfold mVal
    rw [List.find?_cons, List.find?_cons, ← r.1]
    by_cases e : p.1 = k
    · rw [decide_eq_true e]
      exact r.2.2
    · rw [decide_eq_false e]
      exact MRel.val t k
theorem MRel.put {xs : List MVal} {ys : List MEnt} (h : MRel xs ys) {k : MKey} {kv v : V} {ku u : Value} (rk : RelV kv ku) (rv : RelV v u) : MRel (mPut xs k kv v) (mPut ys k ku u) := by
  have hs : (mVal xs k).isSome = (mVal ys k).isSome := (h.val k).isSome_eq
  unfold mPut
  rw [hs]
  split
  · rename_i hc
    clear hs hc
    induction h with
    | nil => exact .nil
    | @cons p q ps qs r t ih =>
      refine .cons ?_ ih
      dsimp only
      rw [← r.1]
      by_cases e : p.1 = k
      · rw [if_pos e, if_pos e]; exact ⟨rfl, r.2.1, rv⟩
      · rw [if_neg e, if_neg e]; exact r
  · rename_i hc
    clear hs hc
    induction h with
    | nil => exact .cons ⟨rfl, rk, rv⟩ .nil
    | cons r t ih => exact .cons r ih
theorem MRel.len {xs : List MVal} {ys : List MEnt} (h : MRel xs ys) : xs.length = ys.length := Paired.length h
section
variable {X : Cx} {P : Program} {w : World} {o e f : Expr} {pos apos cpos : Pos} {td ty tx : TE}
def tDNewM (P : Program) (w : World) : TE := fun _ H Q => ∀ p, H p = none → Q (.ref p) (upd H p (dM P w p []))
theorem pe_dnewM (hP : X.prog = P := by rfl) (hw : X.w = w := by rfl) : PE X (.Dict [] [] pos) (tDNewM P w) := fun pins s σ H Q I h => by
  subst hP hw
  refine wpAny_Dict_empty ⟨.ref s.heap.objs.size, _, I.laid (a := s.heap.objs.size) (o := dM X.prog X.w s.heap.objs.size []) (t' := s.toks) (fun _ _ q => Heap.get?_push_of_some _ q) (Nat.le_refl _) ?_, rfl, h _ (I.hok.fresh (Nat.le_refl _))⟩
  exact dm_ok (ys := []) (beq_eq_false_iff_ne.mpr fun z => absurd (z ▸ I.big) (Nat.lt_irrefl _)) .nil ⟨⟨_, #[], 0, Heap.get?_push_size _ rfl, ⟨rfl, rfl, rfl⟩, rfl, rfl⟩, List.nodup_nil⟩
def tMGet2 (K : PySem.W.Frag) (P : Program) (w : World) (td ty tx : TE) : TE := fun σ H Q => td σ H fun x H1 => ∃ a xs0, x = .ref a ∧ H1 a = some (dM P w a xs0) ∧ ty σ H1 fun y H2 => tx σ H2 fun z H3 => ∃ xs k, H3 a = some (dM P w a xs) ∧ KeysAt K H3 xs ∧ KeyAt K H3 k y ∧ Q ((mVal xs k).getD z) H3
theorem pe_mget2 (K : PySem.W.Frag) (hK : X.K = K) (hu : X.A.units + 1 < cLine) (ho : PE X o td) (he : PE X e ty) (hf : PE X f tx) (m : M2 X o "get" apos e f cpos) (hP : X.prog = P := by rfl) (hw : X.w = w := by rfl) :
    PE X (.Call (.Attribute o "get" apos) [e, f] [] cpos) (tMGet2 K P w td ty tx) := by
  subst hP hw hK
  intro pins s σ H Q I h
  refine wpAny_Call_method m.base m.few m.line PySem.F.plainAttrs_dict PySem.F.slot_dict_get PySem.F.type_dict_get (thn (ho pins s σ H _ I h) fun u s1 ⟨x, H1, I1, rx, a, xs0, ex, d, q1⟩ => ?_)
  subst ex
  cases (show u = Value.ref a from rx)
  obtain ⟨⟨_, ys0, _, m0⟩, _⟩ := I1.hok a _ d
  refine ⟨m0.type, m0.bare, ?_⟩
  rw [m.trees]
  refine Calls.callWith_builtin rfl (Calls.evalArgs_plain (Calls.spliced_cons (thn (he pins s1 σ H1 _ I1 q1) fun iv s2 ⟨y, H2, I2, ry, q2⟩ => Calls.spliced_cons (thn (hf pins s2 σ H2 _ I2 q2) fun fv s3 ⟨z, H3, I3, rz, xs, k, d3, ks, hk, q3⟩ => Calls.spliced_nil ?_))))
  obtain ⟨⟨hd, ys, rel, m3⟩, _⟩ := I3.hok a _ d3
  refine call_meetsIn PySem.F.slot_dict_get m3.type PySem.F.entry_dict_get (PySem.F.args_dict_get_3 _ _ _) (meets_get2 a iv fv hd) ⟨hu, k, ys, hk.is I3 ry, m3, rel.keys I3 ks, ?_⟩
  exact ⟨_, H3, I3.tok _, (rel.val k).getD rz, q3⟩
def rSetM (K : PySem.W.Frag) (P : Program) (w : World) : TSet := fun o i v H Q => ∃ a xs k, o = .ref a ∧ H a = some (dM P w a xs) ∧ KeysAt K H xs ∧ KeyAt K H k i ∧ xs.length < sizeLine ∧ Q (upd H a (dM P w a (mPut xs k i v)))
theorem set_dM (K : PySem.W.Frag) (hK : X.K = K) (hu : X.A.units + 1 < cLine) (hP : X.prog = P := by rfl) (hw : X.w = w := by rfl) : PSet X (rSetM K P w) := by
  subst hP hw hK
  intro pins s σ H o i v ov iv u Q I ro ri rv h
  obtain ⟨a, xs, k, rfl, d, ks, hk, hz, q⟩ := h
  cases ro
  obtain ⟨⟨hd, ys, rel, m⟩, _⟩ := I.hok a _ d
  refine m_setItem hu (hk.is I ri) m (rel.keys I ks) (by rw [← rel.len]; exact hz) fun h' m' sb => ?_
  refine ⟨_, d_write I (by rw [d]; exact True.intro) sb (let ⟨o, _, _, e, _⟩ := m'.ok; ⟨o, e⟩) ?_, q⟩
  exact dm_ok hd (rel.put ri rv) m'
end
end L2
namespace L2
open PySem PySem.W PyProof.Rows
section
variable {X : Cx} {o e value : Expr} {f : Str} {pos pos' : Pos} {ta tv : TE}
theorem pe_fldK (K : PySem.W.Frag) (hK : X.K = K) (he : PE X e ta) (hb : attributeBase e f X.env (eval e X.env) = eval e X.env := by rfl) : PE X (.Attribute e f pos) (tFld K ta f) := by subst hK; exact pe_fld he hb
theorem ps_fldK (K : PySem.W.Frag) (hK : X.K = K) (ha : PE X o ta) (hv : PE X value tv) (hs : swapsWith value (some (.Attribute o f pos')) pos.line X.env = pure false := by rfl) : PS X (.Assign [.Attribute o f pos'] value pos) (sFld K ta tv f) := by
  subst hK; exact ps_fld ha hv hs
def rSetD : TSet := fun o i v H Q => ∃ a kvs k, o = .ref a ∧ i = kV k ∧ H a = some (.dK kvs) ∧ kvs.length < sizeLine ∧ Q (upd H a (.dK (putK kvs k v)))
theorem set_dK (hu : X.A.units + 1 < cLine) : PSet X rSetD := by
  intro pins s σ H o i v ov iv u Q I ro ri rv h
  obtain ⟨a, kvs, k, rfl, rfl, d, hz, q⟩ := h
  cases ro
  exact d_setItem hu I (DPut.k d hz) ri rv fun s' I' => ⟨_, I', q⟩
end
end L2
namespace L2
open PySem PySem.W PyProof.Rows
section
variable {P : Program} {w : World} {A : Around} {E : Value → Shared → Prop} {s : Shared}
theorem hint_rev {r : Addr} {Q : Bool → Shared → Prop} (ty : s.TypeIs (.ref r) "list_reverseiterator") (q : Q false s) : wpAny (model P w) A (Builtin.List.listLengthHint (.ref r)) Q E s := by
  unfold Builtin.List.listLengthHint
  refine wpAny_bind (wpAny_specialOf (r := none) ty (by rw [typeLookup_type, builtinLookup_eq_fast]; kernel_rfl) ?_)
  refine wpAny_ite_split (fun z => absurd z (by decide +kernel)) (fun _ => ?_)
  refine wpAny_ite_split (fun z => absurd z (by decide)) (fun _ => ?_)
  refine wpAny_bind (wpAny_specialOf (r := some (.builtin "list_reverseiterator.__length_hint__")) ty (by rw [typeLookup_type, builtinLookup_eq_fast]; kernel_rfl) ?_)
  generalize hid : ("list_reverseiterator.__length_hint__" : String) = nm
  wp_delta
  rw [show splitId nm = some ("list_reverseiterator", "__length_hint__") from by subst hid; decide +kernel]
  subst hid
  refine wpAny_bind (wpAny_isInstance (T := "list_reverseiterator") (b := true) ty (by rw [isSubtype_type]; kernel_rfl) ?_)
  refine wpAny_ite_split (fun z => absurd z (by decide)) (fun _ => ?_)
  refine wpAny_ite_split (fun _ => ?_) (fun z => absurd (by decide +kernel) z)
  refine wpAny_ite_split (fun z => absurd z (by decide +kernel)) (fun _ => ?_)
  exact wpAny_pure q
theorem rev_extend {r l S : Addr} {items : Array Value} {R : Result → Shared → Prop} (hh : A.handled = none) (it : s.heap.IsRevIter r l ((items.size : Int) - 1)) (hl : s.heap.IsList l items) (hn : items.size ≤ sizeLine) (hlr : l ≠ r) (hSr : S ≠ r) (hSl : S ≠ l) (res : Value) (c0 : Nat)
    (hS : s.heap.get? S = some { cls := .type "list", data := .seq #[] c0 })
    (q : ∀ h' tk acc c, (∀ b o, b ≠ S → b ≠ r → s.heap.get? b = some o → h'.get? b = some o) → h'.get? S = some { cls := .type "list", dict := none, data := .seq acc c, slots := #[] } → ItemsOf (fun i v => items[items.size - 1 - i]? = some v) acc items.size → R (.ok (.ret res)) { s with heap := h', toks := tk }) :
    wpAny (model P w) A.in1 (Builtin.List.listExtendWith (.ref S) (.ref r) res) (fun fin s' => match fin with | .done f => R (.ok f) s' | .again c' => c'.quiet = true ∧ codeAny (model P w) A c' R s') (fun e s' => R (.error e) s') s := by
  have W := Walks.listRev (prog := P) (w := w) (A := A.in1) hh r l hlr items
  have go : ∀ (h : Heap) (c1 tk : Nat), h.IsRevIter r l ((items.size : Int) - 1) → h.IsList l items → (∀ b o, b ≠ S → s.heap.get? b = some o → h.get? b = some o) → h.get? S = some { cls := .type "list", data := .seq #[] c1 } →
      codeAny (model P w) A (.builtin "list.extend.loop" ⟨[.ref S, .ref r, res], []⟩) R { s with heap := h, toks := tk } := by
    intro h c1 tk it1 l1 k1 s1
    refine codeAny_extend_loopS W.toS hn S (by simp [hSr, hSl]) res items.size 0 _ #[] c1 rfl (Nat.zero_le _) ⟨Nat.zero_le _, by simpa using it1, l1⟩ s1 (ItemsOf.nil _) fun s' acc c mv sS iA => ?_
    rw [Moved.eq_with mv]
    refine q s'.heap s'.toks acc c (fun b o b1 b2 e => mv.heap b o (fun m => ?_) (k1 b o b1 e)) sS iA
    rcases List.mem_cons.mp m with z | z
    · exact b1 z
    · exact b2 (List.mem_singleton.mp z)
  unfold Builtin.List.listExtendWith
  refine wpAny_bind (wpAny_typeOf it.typeIs ?_)
  have ne : Builtin.List.listSameRef (.ref S) (.ref r) = false := by simp [Builtin.List.listSameRef, hSr]
  have nl : (Value.type "list_reverseiterator" == Value.type "list") = false := by decide
  have nt : (Value.type "list_reverseiterator" == Value.type "tuple") = false := by decide
  simp only [ne, nl, nt, Bool.or_false, Bool.false_eq_true, if_false]
  refine wpAny_bind (wpAny_pyIter_revIter it (wpAny_bind (wpAny_holding (hint_rev it.typeIs ?_))))
  refine wpAny_ite_split (fun z => absurd z (by decide +kernel)) (fun _ => wpAny_pure ⟨plainId_quiet PySem.F.plain_extend_loop _, go s.heap c0 s.toks it hl (fun _ _ _ e => e) hS⟩)
theorem rev_list {r l : Addr} {items : Array Value} {Q : Value → Shared → Prop} (hh : A.handled = none) (it : s.heap.IsRevIter r l ((items.size : Int) - 1)) (hl : s.heap.IsList l items) (hn : items.size ≤ sizeLine) (hlr : l ≠ r)
    (q : ∀ h' tk acc c, (∀ b o, b ≠ r → s.heap.get? b = some o → h'.get? b = some o) → h'.get? s.heap.objs.size = some { cls := .type "list", dict := none, data := .seq acc c, slots := #[] } → ItemsOf (fun i v => items[items.size - 1 - i]? = some v) acc items.size → Q (.ref s.heap.objs.size) { s with heap := h', toks := tk }) :
    wpAny (model P w) A (call (.type "list") [.ref r]) Q E s := by
  refine callType_codes (Q₁ := fun obj s1 => obj = .ref s.heap.objs.size ∧ s1 = { s with heap := s.heap.push { cls := .type "list", data := .seq #[] } }) PySem.F.called_list (PySem.F.typeCall_list_1 _) PySem.F.entry_list_init (code_list_new _ ⟨rfl, rfl⟩) fun obj s1 z => ?_
  obtain ⟨rfl, rfl⟩ := z
  have new : (s.heap.push { cls := .type "list", data := .seq #[] }).get? s.heap.objs.size = some { cls := .type "list", data := .seq #[] } := Heap.get?_push_size _ rfl
  obtain ⟨oi, ei, ci, di⟩ := it
  have ir : s.heap.objs.size ≠ r := Nat.ne_of_gt (Heap.lt_size ei)
  obtain ⟨ol, el, cl, nl, dl⟩ := hl
  have il : s.heap.objs.size ≠ l := Nat.ne_of_gt (Heap.lt_size el)
  refine ⟨⟨_, new, rfl⟩, PySem.F.args_list_init_2 _ _, ?_⟩
  show wpAny (model P w) _ (do let old ← Builtin.List.listItems (.ref s.heap.objs.size); Builtin.List.listUpdate (.ref s.heap.objs.size) (fun _ => #[]); letGo old.toList.reverse; Builtin.List.listExtendWith (.ref s.heap.objs.size) (.ref r) .none) _ _ _
  refine wpAny_bind ?_
  unfold Builtin.List.listItems
  refine wpAny_bind (wpAny_seqItems new rfl (wpAny_pure (wpAny_bind (wpAny_updateSeq new rfl (wpAny_bind (wpAny_letGo ?_))))))
  have new2 := Heap.get?_update_self (Obj.mapSeq (fun _ => (#[] : Array Value))) new rfl
  have keep : ∀ b o, b ≠ s.heap.objs.size → s.heap.get? b = some o → ((s.heap.push { cls := .type "list", data := .seq #[] }).update s.heap.objs.size (Obj.mapSeq (fun _ => (#[] : Array Value)))).get? b = some o := fun b o hb e => by
    rw [Heap.get?_update_other _ _ (Ne.symm hb)]
    exact Heap.get?_push_of_some _ e
  refine rev_extend (A := A.in1) hh ⟨oi, keep _ _ (Ne.symm ir) ei, ci, di⟩ ⟨ol, keep _ _ (Ne.symm il) el, cl, nl, dl⟩ hn hlr ir il .none _ new2 fun h' tk acc c k2 sS iA => ?_
  exact ⟨rfl, q h' tk acc c (fun b o hb e => k2 b o (Nat.ne_of_lt (Heap.lt_size e)) hb (keep b o (Nat.ne_of_lt (Heap.lt_size e)) e)) sS iA⟩
end
section
variable {X : Cx} {e : Expr} {te : TE} {p1 p2 pos1 pos2 : Pos}
def tRevL (K : PySem.W.Frag) (te : TE) : TE := fun σ H Q => te σ H fun x H1 => ∃ p xs, x = .ref p ∧ SqL K H1 p xs ∧ ∀ l, H1 l = none → Q (.ref l) (upd H1 l (.lst xs.reverse))
theorem pe_revlist (K : PySem.W.Frag) (hK : X.K = K) (hc : X.calm = true) (g1 : Gl X "list") (m1 : X.mg "list" = none) (g2 : Gl X "reversed") (m2 : X.mg "reversed" = none) (he : PE X e te)
    (st1 : starEach [.Call (.Name "reversed" p2) [e] [] pos2] X.env = [(false, eval (.Call (.Name "reversed" p2) [e] [] pos2) X.env)] := by rfl) (st2 : starEach [e] X.env = [(false, eval e X.env)] := by rfl) :
    PE X (.Call (.Name "list" p1) [.Call (.Name "reversed" p2) [e] [] pos2] [] pos1) (tRevL K te) := by
  subst hK
  intro pins s σ H Q I h
  refine wpAny_Call_Name_kw (ld_blt I g1 m1 L2.boot_list (callWith_type1 ?_ st1))
  rw [st1]
  show wpAny (model X.prog X.w) X.A (spliced [(false, eval (.Call (.Name "reversed" p2) [e] [] pos2) X.env)]) _ _ s
  refine Calls.spliced_cons (wpAny_Call_Name_kw (ld_blt I g2 m2 L2.boot_reversed (callWith_type1 ?_ st2)))
  rw [st2]
  show wpAny (model X.prog X.w) X.A (spliced [(false, eval e X.env)]) _ _ s
  refine Calls.spliced_cons (thn (he pins s σ H _ I h) fun u s1 ⟨x, H1, I1, rx, p, xs, ex, hq, q⟩ => Calls.spliced_nil ?_)
  subst ex
  cases (show u = Value.ref p from rx)
  obtain ⟨its, rv, ⟨o, n, eo, co, dd, ds⟩, hz⟩ := I1.list hq
  have hl : s1.heap.IsList p its.toArray := ⟨o, eo, co, n, ds⟩
  refine call_reversed_list hl (Calls.spliced_nil ?_)
  have pr : p ≠ s1.heap.objs.size := Nat.ne_of_lt (Heap.lt_size eo)
  have I2 : Inv X pins σ H1 { s1 with heap := s1.heap.push (revObj p ((its.toArray.size : Int) - 1)) } := I1.kept (t' := s1.toks) fun b o e => Heap.get?_push_of_some _ e
  refine rev_list (r := s1.heap.objs.size) (l := p) (items := its.toArray) (I.ok.hd hc) ⟨_, Heap.get?_push_size _ rfl, rfl, rfl⟩ ⟨o, Heap.get?_push_of_some _ eo, co, n, ds⟩ (by simpa [← rv.length] using hz) pr fun h' tk acc c kk sS iA => ?_
  have hacc : acc.toList = its.reverse := by
    refine List.ext_getElem? fun j => ?_
    have hsz : acc.size = its.length := by simpa using iA.1
    rcases Nat.lt_or_ge j its.length with hj | hj
    · have e1 : acc[j]? = some (acc[j]'(by omega)) := Array.getElem?_eq_getElem _
      have e2 := iA.2 j _ e1
      rw [Array.getElem?_toList, e1, List.getElem?_reverse hj]
      simpa using e2.symm
    · rw [List.getElem?_eq_none (by simpa [hsz] using hj), List.getElem?_eq_none (by simpa using hj)]
  have I3 := I2.laid (a := (s1.heap.push (revObj p ((its.toArray.size : Int) - 1))).objs.size) (o := .lst xs.reverse) (h' := (s1.heap.push (revObj p ((its.toArray.size : Int) - 1))).push { cls := .type "list", data := .seq acc c }) (t' := tk) (fun b u e => Heap.get?_push_of_some _ e) (Nat.le_refl _)
    ⟨by rw [List.length_reverse]; exact hz, its.reverse, c, rv.reverse, by rw [← hacc]; exact Heap.get?_push_size _ rfl⟩
  have hlt : s1.heap.objs.size < (s1.heap.push (revObj p ((its.toArray.size : Int) - 1))).objs.size := by rw [Heap.size_push]; omega
  have I4 := I3.turned (it := s1.heap.objs.size) (h' := h') (t' := tk) (fun b o hb e => ?_) (by rw [upd_ne (Nat.ne_of_lt hlt)]; exact I1.hok.fresh (Nat.le_refl _)) (Nat.ne_of_gt I1.lt) (.inr I1.sz) (fun x c e z => by
      obtain ⟨v, o, ho, _⟩ := I1.cell x c e
      rw [z] at ho
      exact absurd (Heap.lt_size ho) (Nat.lt_irrefl _)) (fun pp hp z => by
      have := (I1.pin pp hp).1
      rw [z] at this
      exact absurd (Heap.lt_size this) (Nat.lt_irrefl _))
  · exact ⟨.ref (s1.heap.push (revObj p ((its.toArray.size : Int) - 1))).objs.size, _, I4, rfl, q _ (I2.hok.fresh (Nat.le_refl _))⟩
  · by_cases z : b = (s1.heap.push (revObj p ((its.toArray.size : Int) - 1))).objs.size
    · subst z
      rw [Heap.get?_push_size _ rfl] at e
      cases e
      exact sS
    · rcases Heap.get?_push_cases e with ⟨z2, _⟩ | e2
      · exact absurd z2 z
      · exact kk b o hb e2
end
end L2
namespace L2
open PySem PySem.W PyProof.Rows
section
variable {P : Program} {w : World} {A : Around} {E : Value → Shared → Prop} {s : Shared}
theorem m_getItem {d : Addr} {ys : List MEnt} {k : MKey} {key v : Value} {Q : Value → Shared → Prop} (hu : A.in1.units < cLine) (hkey : mIs P w s.heap k key) (hm : MDict P w s.heap d ys) (his : ∀ x ∈ ys, mIs P w s.heap x.1 x.2.1) (hv : mVal ys k = some v)
    (q : Q v { s with toks := s.toks + mDraws k }) : wpAny (model P w) A (getItem (.ref d) key) Q E s := by
  unfold getItem
  with_reducible refine wpAny_holding ?_
  refine wpAny_bind (wpAny_sequenceKey hm.type (by decide) (wpAny_bind (wpAny_callSpecial?_slot (name := Str.ofString "__getitem__") hm.type slot_dict_getitem (wpAny_call_entry slot_dict_getitem hm.type entry_dict_getitem ?_ (args_dict_getitem _ _)))))
  show wpAny (model P w) A.in1 (dictGet d key >>= _) _ _ s
  refine wpAny_bind (m_get hu hkey hm his ?_)
  rw [hv]
  exact wpAny_pure ⟨v, rfl, wpAny_pure q⟩
end
section
variable {X : Cx} {P : Program} {w : World} {o e f i : Expr} {pos apos cpos : Pos} {td ty tx : TE}
def tMIx (K : PySem.W.Frag) (P : Program) (w : World) (td ty : TE) : TE := fun σ H Q => td σ H fun x H1 => ty σ H1 fun y H2 => ∃ a xs k v, x = .ref a ∧ H2 a = some (dM P w a xs) ∧ KeysAt K H2 xs ∧ KeyAt K H2 k y ∧ mVal xs k = some v ∧ Q v H2
theorem pe_mix (K : PySem.W.Frag) (hK : X.K = K) (hu : X.A.units + 1 < cLine) (ho : PE X o td) (hi : PE X i ty) (hs : NoSl i) (hP : X.prog = P := by rfl) (hw : X.w = w := by rfl) : PE X (.Subscript o i pos) (tMIx K P w td ty) := by
  subst hP hw hK
  intro pins s σ H Q I h
  refine subD_of PySem.F.slot_dict_getitem.lookup hs (thn (ho pins s σ H _ I h) fun u s1 ⟨x, H1, I1, rx, q1⟩ => thn (hi pins s1 σ H1 _ I1 q1) fun iv s2 ⟨y, H2, I2, ry, a, xs, k, v, ex, d, ks, hk, hv, q2⟩ => ?_)
  subst ex
  obtain rfl : u = Value.ref a := rx
  obtain ⟨⟨hd, ys, rel, m⟩, _⟩ := I2.hok a _ d
  obtain ⟨w', hw', rw'⟩ := RelO.some_of (v := v) (o := mVal ys k) (by rw [← hv]; exact rel.val k)
  exact ⟨m.type, m_getItem hu (hk.is I2 ry) m (rel.keys I2 ks) hw' ⟨v, H2, I2.tok _, rw', q2⟩⟩
end
end L2
namespace L2
open PySem PySem.Spec PyProof.Rows
section
variable {prog : Program} {w : World} {A : Around} {E : Value → Shared → Prop} {s : Shared}
theorem keys_miss : typeLookup (.type "list") "keys" = pure none := am_miss_of_fast (by decide +kernel)
theorem list_no_keys {l : Addr} {ob : Obj} {its : Array Value} {n : Nat} {Q : Option Value → Shared → Prop} (he : s.heap.get? l = some ob) (e1 : ob.cls = .type "list") (e2 : ob.data = .seq its n) (e3 : ob.dict = none) (hA : A.handled = none)
    (q : ∀ h' tk, (∀ b o, s.heap.get? b = some o → h'.get? b = some o) → Q none { s with heap := h', toks := tk }) : wpAny (model prog w) A (getAttr? (.ref l) "keys") Q E s := by
  obtain ⟨cl, dc, dt, st⟩ := ob
  simp only at e1 e2 e3
  subst e1 e2 e3
  obtain ⟨h0, gn, dr, tk0, os0⟩ := s
  have ty : ∀ t, (⟨h0, gn, dr, t, os0⟩ : Shared).TypeIs (.ref l) "list" := fun _ => ⟨_, he, rfl⟩
  have g1 := sub_AttributeError
  have g2 := F.slot_list_getattribute.lookup
  have g3 := F.slot_list_getattribute.bind (.ref l)
  have g4 := am_list_getattr_none
  unfold getAttr? getAttrBy? getAttrBy
  repeat (any_goals (first | assumption | exact ty _ | ((with_reducible show wpAny _ _ (call (Value.builtin "list.__getattribute__") _ _) _ _ _)
                                                        refine call_meets F.slot_list_getattribute (ty _) am_entry_list_getattribute (F.args_list_getattribute_2 _ _) (meets_getattribute_miss_list l its n st "keys" _ keys_miss (by decide +kernel)) ⟨he, hA, fun h' tk' ex hx => ?_⟩) | wp_step))
  obtain ⟨t1, u1, hex⟩ := hx.there
  show wpAny _ _ (getattributeRaised _ _ _ _ _ _ _) _ _ _
  unfold getattributeRaised
  repeat (any_goals (first | assumption | wp_step))
  exact q _ _ hx.of.keeps
end
def mAll {β γ : Type} (ys : List (MKey × β × γ)) : List (MKey × β × γ) := ys.foldl (fun acc y => mPut acc y.1 y.2.1 y.2.2) []
theorem mAll_snoc {β γ : Type} (ys : List (MKey × β × γ)) (y : MKey × β × γ) : mAll (ys ++ [y]) = mPut (mAll ys) y.1 y.2.1 y.2.2 := by
  unfold mAll
  rw [List.foldl_append]
  rfl
theorem mPut_mem {β γ : Type} {xs : List (MKey × β × γ)} {k : MKey} {key : β} {v : γ} {x : MKey × β × γ} (h : x ∈ mPut xs k key v) : (∃ y ∈ xs, y.1 = x.1 ∧ y.2.1 = x.2.1) ∨ (k = x.1 ∧ key = x.2.1) := by
  unfold mPut at h
  split at h
  · obtain ⟨y, hy, e⟩ := List.mem_map.mp h
    refine .inl ⟨y, hy, ?_⟩
    split at e <;> subst e <;> exact ⟨rfl, rfl⟩
  · rcases List.mem_append.mp h with h | h
    · exact .inl ⟨x, h, rfl, rfl⟩
    · rw [List.mem_singleton.mp h]; exact .inr ⟨rfl, rfl⟩
theorem fold_mem {β γ : Type} {x : MKey × β × γ} : ∀ (ys acc : List (MKey × β × γ)), x ∈ ys.foldl (fun acc y => mPut acc y.1 y.2.1 y.2.2) acc → (∃ y ∈ acc, y.1 = x.1 ∧ y.2.1 = x.2.1) ∨ ∃ y ∈ ys, y.1 = x.1 ∧ y.2.1 = x.2.1
  | [], acc, h => .inl ⟨x, h, rfl, rfl⟩
  | y :: r, acc, h => by
    rcases fold_mem r _ h with ⟨z, hz, e1, e2⟩ | ⟨z, hz, e⟩
    · rcases mPut_mem hz with ⟨u, hu, f1, f2⟩ | ⟨f1, f2⟩
      · exact .inl ⟨u, hu, f1.trans e1, f2.trans e2⟩
      · exact .inr ⟨y, List.mem_cons_self, f1.trans e1, f2.trans e2⟩
    · exact .inr ⟨z, List.mem_cons_of_mem _ hz, e⟩
theorem mAll_mem {β γ : Type} {x : MKey × β × γ} {ys : List (MKey × β × γ)} (h : x ∈ mAll ys) : ∃ y ∈ ys, y.1 = x.1 ∧ y.2.1 = x.2.1 := by
  rcases fold_mem ys [] h with ⟨_, hy, _⟩ | h
  · cases hy
  · exact h
theorem fold_new {β γ : Type} : ∀ (ys acc : List (MKey × β × γ)), ((acc ++ ys).map (·.1)).Nodup → ys.foldl (fun acc y => mPut acc y.1 y.2.1 y.2.2) acc = acc ++ ys
  | [], acc, _ => (List.append_nil _).symm
  | y :: r, acc, h => by
    have e : mPut acc y.1 y.2.1 y.2.2 = acc ++ [y] := by
      unfold mPut mVal
      have : acc.find? (fun z => decide (z.1 = y.1)) = none := by
        rw [List.find?_eq_none]
        intro z hz c
        rw [List.map_append, List.map_cons, List.nodup_append] at h
        exact h.2.2 z.1 (List.mem_map.mpr ⟨z, hz, rfl⟩) y.1 List.mem_cons_self (of_decide_eq_true c)
      rw [this]
      rfl
    show r.foldl _ (mPut acc y.1 y.2.1 y.2.2) = _
    rw [e, fold_new r _ (by rw [List.append_assoc]; exact h), List.append_assoc]
    rfl
theorem mAll_new {β γ : Type} {ys : List (MKey × β × γ)} (h : (ys.map (·.1)).Nodup) : mAll ys = ys := fold_new ys [] h
theorem fold_len {β γ : Type} : ∀ (ys acc : List (MKey × β × γ)), (ys.foldl (fun acc y => mPut acc y.1 y.2.1 y.2.2) acc).length ≤ acc.length + ys.length
  | [], acc => Nat.le_refl _
  | y :: r, acc => by
    have h := fold_len r (mPut acc y.1 y.2.1 y.2.2)
    have : (mPut acc y.1 y.2.1 y.2.2).length ≤ acc.length + 1 := by
      unfold mPut
      split
      · rw [List.length_map]; omega
      · rw [List.length_append]; exact Nat.le_refl _
    show List.length (r.foldl _ (mPut acc y.1 y.2.1 y.2.2)) ≤ _
    rw [List.length_cons]
    omega
theorem mAll_len {β γ : Type} (ys : List (MKey × β × γ)) : (mAll ys).length ≤ ys.length := by
  have h := fold_len ys []
  rw [List.length_nil, Nat.zero_add] at h
  exact h
theorem fold_rel : ∀ {xs : List MVal} {ys : List MEnt} {ax : List MVal} {ay : List MEnt}, MRel xs ys → MRel ax ay → MRel (xs.foldl (fun acc y => mPut acc y.1 y.2.1 y.2.2) ax) (ys.foldl (fun acc y => mPut acc y.1 y.2.1 y.2.2) ay)
  | _, _, _, _, .nil, h => h
  | x :: xs, y :: ys, ax, ay, .cons ⟨e, r1, r2⟩ t, h => by
    show MRel (xs.foldl _ (mPut ax x.1 x.2.1 x.2.2)) (ys.foldl _ (mPut ay y.1 y.2.1 y.2.2))
    rw [← e]
    exact fold_rel t (h.put r1 r2)
theorem mAll_rel {xs : List MVal} {ys : List MEnt} (h : MRel xs ys) : MRel (mAll xs) (mAll ys) := fold_rel h .nil
theorem mIs.keep {P : Program} {w : World} {h h' : Heap} {k : MKey} {v : Value} (x : mIs P w h k v) (kp : ∀ b o, h.get? b = some o → h'.get? b = some o) : mIs P w h' k v := by
  cases k with
  | inl k => exact x
  | inr ks => obtain ⟨a, e, o, items, n, ho, r⟩ := x; exact ⟨a, e, o, items, n, kp _ _ ho, r⟩
theorem upd_loop_entry : entryFor table "dict.update.loop" = some Builtin.«dict.update.loop» := entryFor_of_tree (by kernel_rfl)
theorem upd_loop_plain : plainId "dict.update.loop" = true := by decide +kernel
section
variable {P : Program} {w : World} {A : Around} {R : Result → Shared → Prop} {h0 : Heap} {l it d : Addr} {its : Array Value} {Es : List MEnt}
theorem dict_fill (hh : A.handled = none) (hu : A.in1.units < cLine) (hl : h0.IsList l its) (hz : Es.length = its.size) (hz2 : Es.length ≤ 10000)
    (hp : ∀ (i : Nat) (x : MEnt), Es[i]? = some x → ∃ (b : Addr) (o : Obj) (n : Nat), its[i]? = some (.ref b) ∧ h0.get? b = some o ∧ o.cls = .type "tuple" ∧ o.data = .seq #[x.2.1, x.2.2] n) (hk : ∀ x ∈ Es, mIs P w h0 x.1 x.2.1) (hit : h0.get? it = none) (hd : h0.get? d = none) (hne : it ≠ d) :
    ∀ (m i : Nat) (s : Shared), its.size - i = m → i ≤ its.size → (∀ b o, h0.get? b = some o → s.heap.get? b = some o) → s.heap.IsListIter it l i → MDict P w s.heap d (mAll (Es.take i)) →
      (∀ h' tk, (∀ b o, h0.get? b = some o → h'.get? b = some o) → MDict P w h' d (mAll Es) → R (.ok (.ret .none)) { s with heap := h', toks := tk }) →
      codeAny (model P w) A (.builtin "dict.update.loop" ⟨[Value.ref d, Value.ref it, rawInt i, Value.none], []⟩) R s := by
  have ni : ∀ b o, h0.get? b = some o → b ≠ it := fun b o e z => by rw [z, hit] at e; cases e
  have nd : ∀ b o, h0.get? b = some o → b ≠ d := fun b o e z => by rw [z, hd] at e; cases e
  intro m
  induction m with
  | zero =>
    intro i s hm hi kp st md q
    obtain rfl : i = its.size := by omega
    refine codeAny_builtin upd_loop_entry ?_
    rw [Around.under_plainId upd_loop_plain _]
    have hl' : s.heap.IsList l its := by obtain ⟨o, e, r⟩ := hl; exact ⟨o, kp _ _ e, r⟩
    refine wpAny_bind (m := pyNext (.ref it)) (wpAny_pyNext_list_end (by simp [hh]) st hl' (by simp) fun h' eb => ?_)
    show wpAny _ _ (Builtin.Dict.addKeywords d [] >>= _) _ _ _
    refine wpAny_bind (wpAny_pure (wpAny_pure (q h' s.toks (fun b o e => eb b o (ni b o e) (kp b o e)) ?_)))
    rw [← hz, List.take_of_length_le (Nat.le_refl _)] at md
    exact md.keep fun o e => eb d o (Ne.symm hne) e
  | succ m ih =>
    intro i s hm hi kp st md q
    have lt : i < its.size := by omega
    refine codeAny_builtin upd_loop_entry ?_
    rw [Around.under_plainId upd_loop_plain _]
    have hl' : s.heap.IsList l its := by obtain ⟨o, e, r⟩ := hl; exact ⟨o, kp _ _ e, r⟩
    have hx : Es[i]? = some (Es[i]'(by omega)) := List.getElem?_eq_getElem (by omega)
    have hmem := List.mem_of_getElem? hx
    generalize Es[i]'(by omega) = x at hx hmem
    obtain ⟨b, o, n, e1, e2, e3, e4⟩ := hp i x hx
    refine wpAny_bind (m := pyNext (.ref it)) (wpAny_pyNext_list_item st hl' e1 fun h1 st1 sb1 => ?_)
    have kp1 : ∀ b o, h0.get? b = some o → h1.get? b = some o := fun b o e => (sb1.2 b (ni b o e)).trans (kp b o e)
    have md1 : MDict P w h1 d (mAll (Es.take i)) := md.keep fun o e => (sb1.2 d (Ne.symm hne)).trans e
    have hm1 : ∀ y ∈ mAll (Es.take i), mIs P w h1 y.1 y.2.1 := fun y hy => by
      obtain ⟨z, hz', f1, f2⟩ := mAll_mem hy
      rw [← f1, ← f2]
      exact (hk z (List.mem_of_mem_take hz')).keep kp1
    have hlen : (mAll (Es.take i)).length < sizeLine := by
      have := mAll_len (Es.take i)
      rw [List.length_take] at this
      rw [sizeLine_eq]
      omega
    refine wpAny_bind (m := holding [Value.ref b] _) (wpAny_holding (wpAny_bind (m := (Builtin.Dict.pairItems (Value.ref b)).tryCatch _) (wpAny_tryCatch ?_)))
    unfold Builtin.Dict.pairItems
    refine wpAny_bind (wpAny_typeOf (T := "tuple") ⟨o, kp1 _ _ e2, e3⟩ ?_)
    rw [if_pos (by decide)]
    refine wpAny_bind (wpAny_seqItems (kp1 _ _ e2) e4 (wpAny_pure ?_))
    show wpAny _ _ (holding [x.2.1, x.2.2] (dictSet d x.2.1 x.2.2)) _ _ _
    refine wpAny_holding (m_set hu ((hk x hmem).keep kp1) md1 hm1 hlen fun h2 md2 sb2 => ?_)
    have kp2 : ∀ b o, h0.get? b = some o → h2.get? b = some o := fun b o e => (sb2.2 b (nd b o e)).trans (kp1 b o e)
    refine wpAny_pure ⟨plainId_quiet upd_loop_plain _, ih (i + 1) _ (by omega) lt kp2 ?_ ?_ fun h' tk kp' md' => q h' tk kp' md'⟩
    · obtain ⟨oi, f1, f2, f3⟩ := st1
      exact ⟨oi, (sb2.2 it hne).trans f1, f2, f3⟩
    · rw [List.take_add_one, hx]
      show MDict P w h2 d (mAll (Es.take i ++ [x]))
      rw [mAll_snoc]
      exact md2
end
section
variable {P : Program} {w : World} {A : Around} {E : Value → Shared → Prop} {s : Shared} {l : Addr} {its : Array Value} {Es : List MEnt} {Q : Value → Shared → Prop}
theorem dict_pairs {ob : Obj} {nl : Nat} (hh : A.handled = none) (hu : A.units + 16 < cLine) (he : s.heap.get? l = some ob) (hc : ob.cls = .type "list") (hdt : ob.data = .seq its nl) (hdc : ob.dict = none) (hz : Es.length = its.size) (hz2 : Es.length ≤ 10000)
    (hp : ∀ (i : Nat) (x : MEnt), Es[i]? = some x → ∃ (b : Addr) (o : Obj) (n : Nat), its[i]? = some (.ref b) ∧ s.heap.get? b = some o ∧ o.cls = .type "tuple" ∧ o.data = .seq #[x.2.1, x.2.2] n) (hk : ∀ x ∈ Es, mIs P w s.heap x.1 x.2.1)
    (q : ∀ h' tk, (∀ b o, s.heap.get? b = some o → h'.get? b = some o) → MDict P w h' s.heap.objs.size (mAll Es) → Q (.ref s.heap.objs.size) { s with heap := h', toks := tk }) : wpAny (model P w) A (call (.type "dict") [.ref l]) Q E s := by
  refine callType_codes (Q₁ := fun obj s₁ => obj = .ref s.heap.objs.size ∧ s₁ = { s with heap := s.heap.push { cls := .type "dict", data := .dict #[] } }) F.kt_called_dict (F.kt_typeCall_dict_1 _) F.entry_dict_init (kt_code_dict_new _ ⟨rfl, rfl⟩) ?_
  rintro obj s₁ ⟨rfl, rfl⟩
  have hnew : (s.heap.push { cls := .type "dict", data := .dict #[] }).get? s.heap.objs.size = some { cls := .type "dict", data := .dict #[] } := Heap.get?_push_size _ rfl
  have k0 : ∀ b o, s.heap.get? b = some o → (s.heap.push { cls := .type "dict", data := .dict #[] }).get? b = some o := fun b o e => Heap.get?_push_of_some _ e
  have ty : Shared.TypeIs { s with heap := s.heap.push { cls := .type "dict", data := .dict #[] } } (.ref s.heap.objs.size) "dict" := ⟨_, hnew, rfl⟩
  have hl1 : (s.heap.push { cls := .type "dict", data := .dict #[] }).get? l = some ob := k0 _ _ he
  refine ⟨ty, F.args_dict_init_2 _ _, ?_⟩
  unfold Builtin.«dict.__init__»
  refine wpAny_bind ?_
  unfold Builtin.Dict.selfAndRest
  refine wpAny_bind (wpAny_notOrdered_dict ty ?_)
  refine wpAny_pure ?_
  show wpAny _ _ (Builtin.Dict.updateFrom "dict.__init__" s.heap.objs.size (.ref l) [] .none) _ _ _
  unfold Builtin.Dict.updateFrom
  refine wpAny_bind (wpAny_typeOf (T := "list") ⟨_, hl1, hc⟩ ?_)
  rw [if_pos (by decide)]
  refine wpAny_bind (list_no_keys (s := { s with heap := s.heap.push { cls := .type "dict", data := .dict #[] } }) hl1 hc hdt hdc (by simp [hh]) fun h1 tk1 k1 => ?_)
  rw [if_pos (by rfl)]
  refine wpAny_bind (wpAny_rule ?_)
  have hli : h1.IsList l its := ⟨_, k1 _ _ hl1, hc, nl, hdt⟩
  refine wpAny_bind (wpAny_pyIter_list (s := { s with heap := h1, toks := tk1 }) hli ?_)
  have hlt : s.heap.objs.size < h1.objs.size := Heap.lt_size (k1 _ _ hnew)
  have hnew2 := k1 _ _ hnew
  refine wpAny_pure ⟨plainId_quiet upd_loop_plain _, dict_fill (h0 := s.heap) (it := h1.objs.size) (d := s.heap.objs.size) (Es := Es) (by simp [hh]) (by show A.units + 1 + 1 < cLine; omega) ⟨_, he, hc, nl, hdt⟩ hz hz2 hp hk (Heap.get?_none_of_le (Nat.le_of_lt hlt)) (Heap.get?_none_of_le (Nat.le_refl _)) (Nat.ne_of_gt hlt) (its.size - 0) 0 _ rfl (Nat.zero_le _)
    (fun b o e => Heap.get?_push_of_some _ (k1 b o (k0 b o e))) ⟨_, Heap.get?_push_size _ rfl, rfl, rfl⟩ ⟨⟨_, #[], 0, Heap.get?_push_of_some _ hnew2, ⟨rfl, rfl, rfl⟩, rfl, rfl⟩, List.nodup_nil⟩ fun h' tk kp' md' => ?_⟩
  exact ⟨rfl, q h' tk kp' md'⟩
end
def PairsAt (K : PySem.W.Frag) (H : Hp) (ts : List V) (Es : List MVal) : Prop := Paired (fun (v : V) (x : MVal) => ∃ b, v = .ref b ∧ SqT K H b [x.2.1, x.2.2] ∧ KeyAt K H x.1 x.2.1) ts Es
section
variable {X : Cx}
theorem pairs_laid {pins : List (Addr × Obj)} {σ : St} {H : Hp} {s : Shared} (I : Inv X pins σ H s) : ∀ {ts : List V} {Es : List MVal} {its : List Value}, PairsAt X.K H ts Es → Vals ts its → ∃ Fs : List MEnt, MRel Es Fs ∧ Fs.length = its.length ∧
    (∀ (i : Nat) (x : MEnt), Fs[i]? = some x → ∃ (b : Addr) (o : Obj) (n : Nat), its[i]? = some (.ref b) ∧ s.heap.get? b = some o ∧ o.cls = .type "tuple" ∧ o.data = .seq #[x.2.1, x.2.2] n) ∧ ∀ x ∈ Fs, mIs X.prog X.w s.heap x.1 x.2.1
  | _, _, _, .nil, .nil => ⟨[], .nil, rfl, fun i x h => by simp at h, fun x h => nomatch h⟩
  | _, x :: Es, _, .cons ⟨b, e, h1, h2⟩ t, .cons (b := u) r rs => by
    subst e
    obtain rfl : u = Value.ref b := r
    obtain ⟨Fs, f1, f2, f3, f4⟩ := pairs_laid I t rs
    obtain ⟨its, rv, ⟨o, e1, e2, n, e3⟩, _⟩ := I.tuple h1
    obtain ⟨ku, vu, rfl, rk, rv'⟩ := vals2 rv
    refine ⟨(x.1, ku, vu) :: Fs, .cons ⟨rfl, rk, rv'⟩ f1, by rw [List.length_cons, List.length_cons, f2], fun i y hy => ?_, fun y hy => ?_⟩
    · cases i with
      | zero =>
        simp at hy
        subst hy
        exact ⟨b, o, n, rfl, e1, e2, e3⟩
      | succ i =>
        obtain ⟨b', o', n', g1, g2⟩ := f3 i y (by simpa using hy)
        exact ⟨b', o', n', by simpa using g1, g2⟩
    · rcases List.mem_cons.mp hy with rfl | hy
      · exact h2.is I rk
      · exact f4 y hy
theorem call_dictM (hc : X.calm = true) (hu : X.A.units + 16 < cLine) : CallR X (.type "dict") (fun xs H Q => ∃ (p : Addr) (ts : List V) (Es : List MVal), xs = [.ref p] ∧ SqL X.K H p ts ∧ PairsAt X.K H ts Es ∧ ts.length ≤ 10000 ∧ ∀ q, H q = none → Q (.ref q) (upd H q (dM X.prog X.w q (mAll Es)))) := by
  intro pins s σ H xs us Q I r h
  obtain ⟨p, ts, Es, rfl, hp, hE, hz, q⟩ := h
  obtain ⟨u, rfl, r1⟩ := vals1 r
  obtain rfl : u = Value.ref p := r1
  obtain ⟨its, rv, ⟨o, n, e1, e2, e3, e4⟩, _⟩ := I.list hp
  obtain ⟨Fs, f1, f2, f3, f4⟩ := pairs_laid I hE rv
  have hlen := rv.length
  refine dict_pairs (its := its.toArray) (Es := Fs) (I.ok.hd hc) hu e1 e2 e4 e3 (by rw [f2]; simp) (by omega) (fun i x hx => ?_) f4 fun h' tk kp md => ?_
  · obtain ⟨b, ob, m, g1, g2⟩ := f3 i x hx
    exact ⟨b, ob, m, by rw [List.getElem?_toArray]; exact g1, g2⟩
  · refine ⟨.ref s.heap.objs.size, _, I.laid (h' := h') (t' := tk) (a := s.heap.objs.size) (o := dM X.prog X.w s.heap.objs.size (mAll Es)) kp (Nat.le_refl _) ?_, rfl, q _ (I.hok.fresh (Nat.le_refl _))⟩
    exact dm_ok (beq_eq_false_iff_ne.mpr fun z => absurd (z ▸ I.big) (Nat.lt_irrefl _)) (mAll_rel f1) md
theorem call_dictMK {P : Program} {w : World} (K : PySem.W.Frag) (hK : X.K = K) (hc : X.calm = true) (hu : X.A.units + 64 < cLine) (hP : X.prog = P := by rfl) (hw : X.w = w := by rfl) : CallR X (.type "dict") (fun xs H Q => ∃ (p : Addr) (ts : List V) (Es : List MVal), xs = [.ref p] ∧ SqL K H p ts ∧ PairsAt K H ts Es ∧ ts.length ≤ 10000 ∧ ∀ q, H q = none → Q (.ref q) (upd H q (dM P w q (mAll Es)))) := by subst hK hP hw; exact call_dictM hc (by omega)
end
end L2
namespace L2z
open PySem PyProof.Rows
def gallopP : Bool → Keyed → Array Keyed → Nat → Nat → Nat → StateT SortSt Sem (Option Nat) := sortPriv% PySem.Builtin.gallop
def mergeLoP : Array Keyed → Array Keyed → StateT SortSt Sem (Array Keyed) := sortPriv% PySem.Builtin.mergeLo
def mergeHiP : Array Keyed → Array Keyed → StateT SortSt Sem (Array Keyed) := sortPriv% PySem.Builtin.mergeHi
abbrev kAt (xs : Array Keyed) (i : Nat) : Keyed := xs.getD i (Value.none, Value.none)
theorem kAt_get {xs : Array Keyed} {i : Nat} (h : i < xs.size) : xs[i]? = some (kAt xs i) := by
  simp [kAt, Array.getD, h]
structure Ord (prog : Program) (w : World) (A : Around) (E : Value → Shared → Prop) (s : Shared) (κ : SortKind) (Vd : Keyed → Prop) (rk : Keyed → Int) : Prop where
  lt : ∀ {x y : Keyed} {st : SortSt} {Q : Option Bool → SortSt → Prop}, Vd x → Vd y → kindOf st = κ → Q (some (decide (rk x < rk y))) st → wpS (model prog w) A E s (lt' x y) Q st
section
variable {prog : Program} {w : World} {A : Around} {E : Value → Shared → Prop} {s : Shared} {κ : SortKind} {Vd : Keyed → Prop} {rk : Keyed → Int}
theorem wpS_elem {arr : Array Keyed} {i : Nat} {st : SortSt} {Q : Keyed → SortSt → Prop} (h : i < arr.size) (q : Q (kAt arr i) st) : wpS (model prog w) A E s (elem' arr i) Q st := by
  rw [elem'_eq, kAt_get h]
  exact wpS_pure q
theorem wpS_rule {x : String} {st : SortSt} {Q : Unit → SortSt → Prop} (q : Q () st) : wpS (model prog w) A E s (liftM (rule x)) Q st := wpS_lift (wpAny_rule ⟨rfl, q⟩)
def bnd (rk : Keyed → Int) (left : Bool) (key : Keyed) : Int := if left = true then rk key else rk key + 1
theorem wpS_beyond (O : Ord prog w A E s κ Vd rk) {left : Bool} {key : Keyed} {arr : Array Keyed} {i : Nat} {st : SortSt} {Q : Option Bool → SortSt → Prop} (h : i < arr.size) (hv : Vd (kAt arr i)) (hk : Vd key) (hκ : kindOf st = κ)
    (q : Q (some (decide (rk (kAt arr i) < bnd rk left key))) st) :
    wpS (model prog w) A E s (do
      let x ← elem' arr i
      if left = true then lt' x key
      else do
        let r ← lt' key x
        pure (Option.map (fun x => !x) r)) Q st := by
  refine wpS_bind (wpS_elem h ?_)
  unfold bnd at q
  cases left with
  | true =>
    rw [if_pos rfl] at q ⊢
    exact O.lt hv hk hκ q
  | false =>
    rw [if_neg Bool.false_ne_true] at q ⊢
    refine wpS_bind (O.lt hk hv hκ (wpS_pure ?_))
    have e : (Option.map (fun x => !x) (some (decide (rk key < rk (kAt arr i))))) = some (decide (rk (kAt arr i) < rk key + 1)) := by
      show some (!decide (rk key < rk (kAt arr i))) = _
      congr 1
      by_cases z : rk key < rk (kAt arr i)
      · rw [decide_eq_true z, decide_eq_false (by omega)]; rfl
      · rw [decide_eq_false z, decide_eq_true (by omega)]; rfl
    rw [e]
    exact q
theorem search_loop {arr : Array Keyed} {base n : Nat} {t : Int} {st : SortSt} {Q : Option Nat → SortSt → Prop} {body : Nat → Option (Option Nat) × Nat × Nat → StateT SortSt Sem (ForInStep (Option (Option Nat) × Nat × Nat))} {C : Option (Option Nat) × Nat × Nat → StateT SortSt Sem (Option Nat)} {lo hi : Nat}
    (hstop : ∀ x lo hi P, lo ≥ hi → P (.done (none, lo, hi)) st → wpS (model prog w) A E s (body x (none, lo, hi)) P st)
    (hstep : ∀ x lo hi P, lo < hi → hi ≤ n → (rk (kAt arr (base + (lo + (hi - lo) / 2))) < t → P (.yield (none, lo + (hi - lo) / 2 + 1, hi)) st) → (t ≤ rk (kAt arr (base + (lo + (hi - lo) / 2))) → P (.yield (none, lo, lo + (hi - lo) / 2)) st) → wpS (model prog w) A E s (body x (none, lo, hi)) P st)
    (hC : ∀ lo hi, Q (some hi) st → wpS (model prog w) A E s (C (none, lo, hi)) Q st)
    (hs : ∀ i j, i ≤ j → j < n → rk (kAt arr (base + i)) ≤ rk (kAt arr (base + j)))
    (q : ∀ k, k ≤ n → (∀ i, i < k → rk (kAt arr (base + i)) < t) → (∀ i, k ≤ i → i < n → t ≤ rk (kAt arr (base + i))) → Q (some k) st)
    (h1 : lo ≤ hi) (h2 : hi ≤ n) (h3 : ∀ i, i < lo → rk (kAt arr (base + i)) < t) (h4 : ∀ i, hi ≤ i → i < n → t ≤ rk (kAt arr (base + i))) :
    wpS (model prog w) A E s (forIn [:n] ((none, lo, hi) : Option (Option Nat) × Nat × Nat) body >>= C) Q st := by
  refine wpS_bind (wpS_forRange (a := 0) (I := fun i c st' => st' = st ∧ ∃ lo hi, c = (none, lo, hi) ∧ lo ≤ hi ∧ hi ≤ n ∧ hi - lo + i ≤ n ∧ (∀ i, i < lo → rk (kAt arr (base + i)) < t) ∧ (∀ i, hi ≤ i → i < n → t ≤ rk (kAt arr (base + i)))) ?_ ?_ ⟨rfl, lo, hi, rfl, h1, h2, by omega, h3, h4⟩)
  · rintro i c st' _ hin ⟨hst, lo, hi, rfl, g1, g2, g3, g4, g5⟩
    subst hst
    by_cases hlh : lo ≥ hi
    · exact hstop i lo hi _ hlh (hC lo hi (q hi g2 (fun i h => g4 i (by omega)) g5))
    · refine hstep i lo hi _ (by omega) g2 (fun z => ⟨rfl, _, hi, rfl, by omega, g2, by omega, fun i h => ?_, g5⟩) (fun z => ⟨rfl, lo, _, rfl, by omega, by omega, by omega, g4, fun i h1 h2 => ?_⟩)
      · exact Int.lt_of_le_of_lt (hs i _ (by omega) (by omega)) z
      · have := hs _ i h1 h2
        omega
  · rintro c st' ⟨hst, lo, hi, rfl, g1, g2, g3, g4, g5⟩
    subst hst
    exact hC lo hi (q hi g2 (fun i h => g4 i (by omega)) g5)
theorem wpS_gallop (O : Ord prog w A E s κ Vd rk) {left : Bool} {key : Keyed} {arr : Array Keyed} {base n hint : Nat} {st : SortSt} {Q : Option Nat → SortSt → Prop} (hb : base + n ≤ arr.size) (hh : hint < n) (hv : ∀ i, i < n → Vd (kAt arr (base + i))) (hk : Vd key) (hκ : kindOf st = κ)
    (hs : ∀ i j, i ≤ j → j < n → rk (kAt arr (base + i)) ≤ rk (kAt arr (base + j)))
    (q : ∀ k, k ≤ n → (∀ i, i < k → rk (kAt arr (base + i)) < bnd rk left key) → (∀ i, k ≤ i → i < n → bnd rk left key ≤ rk (kAt arr (base + i))) → Q (some k) st) :
    wpS (model prog w) A E s (gallopP left key arr base n hint) Q st := by
  generalize ht : bnd rk left key = t at q
  have by' : ∀ {i : Nat} {Q : Option Bool → SortSt → Prop}, i < n → (rk (kAt arr (base + i)) < t → Q (some true) st) → (t ≤ rk (kAt arr (base + i)) → Q (some false) st) → wpS (model prog w) A E s (do
      let x ← elem' arr (base + i)
      if left = true then lt' x key
      else do
        let r ← lt' key x
        pure (Option.map (fun x => !x) r)) Q st := fun {i} {Q} hi h1 h2 => wpS_beyond O (by omega) (hv i hi) hk hκ (by
          rw [ht]
          by_cases z : rk (kAt arr (base + i)) < t
          · rw [decide_eq_true z]; exact h1 z
          · rw [decide_eq_false z]; exact h2 (by omega))
  refine wpS_bind (by' hh (fun z => ?_) (fun z => ?_))
  · dsimp only
    rw [if_pos rfl]
    refine wpS_bind (wpS_mono (wpS_forRange (a := 0) (Q := fun c st' => st' = st ∧ ∃ la ofs, c = (none, la, ofs) ∧ la < ofs ∧ la < n - hint ∧ rk (kAt arr (base + (hint + la))) < t ∧ (ofs < n - hint → t ≤ rk (kAt arr (base + (hint + ofs)))))
      (I := fun i c st' => st' = st ∧ ∃ la ofs, c = (none, la, ofs) ∧ la < ofs ∧ la < n - hint ∧ i + 1 ≤ ofs ∧ rk (kAt arr (base + (hint + la))) < t) ?_ ?_ ⟨rfl, 0, 1, rfl, by omega, by omega, by omega, z⟩) ?_)
    · rintro i c st' _ hin ⟨hst, la, ofs, rfl, g1, g2, g3, g4⟩
      subst hst
      dsimp only
      by_cases ho : ofs ≥ n - hint
      · rw [if_pos ho]
        exact wpS_pure ⟨rfl, la, ofs, rfl, g1, g2, g4, fun h => by omega⟩
      · rw [if_neg ho]
        refine wpS_bind (by' (i := hint + ofs) (by omega) (fun z2 => ?_) (fun z2 => ?_))
        · exact wpS_pure ⟨rfl, ofs, 2 * ofs + 1, rfl, by omega, by omega, by omega, z2⟩
        · exact wpS_pure ⟨rfl, la, ofs, rfl, g1, g2, g4, fun _ => z2⟩
    · rintro c st' ⟨hst, la, ofs, rfl, g1, g2, g3, g4⟩
      exact ⟨hst, la, ofs, rfl, g1, g2, g4, fun h => by omega⟩
    · rintro c st' ⟨hst, la, ofs, rfl, g1, g2, g3, g4⟩
      subst hst
      refine search_loop (arr := arr) (base := base) (t := t) (lo := hint + la + 1) (hi := hint + min ofs (n - hint)) ?_ ?_ ?_ hs q (by omega) (by omega) (fun i h => ?_) (fun i h1 h2 => ?_)
      · intro x lo hi P h p
        dsimp only
        rw [if_pos h]
        exact wpS_pure p
      · intro x lo hi P h hn p1 p2
        dsimp only
        rw [if_neg (by omega)]
        exact wpS_bind (by' (by omega) (fun z => wpS_pure (p1 z)) (fun z => wpS_pure (p2 z)))
      · exact fun lo hi h => wpS_pure h
      · exact Int.lt_of_le_of_lt (hs i (hint + la) (by omega) (by omega)) g3
      · have h3 := g4 (by omega)
        have := hs (hint + ofs) i (by omega) h2
        omega
  · dsimp only
    rw [if_neg Bool.false_ne_true]
    refine wpS_bind (wpS_mono (wpS_forRange (a := 0) (Q := fun c st' => st' = st ∧ ∃ la ofs, c = (none, la, ofs) ∧ la < ofs ∧ la ≤ hint ∧ t ≤ rk (kAt arr (base + (hint - la))) ∧ (ofs < hint + 1 → rk (kAt arr (base + (hint - ofs))) < t))
      (I := fun i c st' => st' = st ∧ ∃ la ofs, c = (none, la, ofs) ∧ la < ofs ∧ la ≤ hint ∧ i + 1 ≤ ofs ∧ t ≤ rk (kAt arr (base + (hint - la)))) ?_ ?_ ⟨rfl, 0, 1, rfl, by omega, by omega, by omega, by rw [Nat.sub_zero]; omega⟩) ?_)
    · rintro i c st' _ hin ⟨hst, la, ofs, rfl, g1, g2, g3, g4⟩
      subst hst
      dsimp only
      by_cases ho : ofs ≥ hint + 1
      · rw [if_pos ho]
        exact wpS_pure ⟨rfl, la, ofs, rfl, g1, g2, g4, fun h => by omega⟩
      · rw [if_neg ho]
        refine wpS_bind (by' (i := hint - ofs) (by omega) (fun z2 => ?_) (fun z2 => ?_))
        · exact wpS_pure ⟨rfl, la, ofs, rfl, g1, g2, g4, fun _ => z2⟩
        · exact wpS_pure ⟨rfl, ofs, 2 * ofs + 1, rfl, by omega, by omega, by omega, z2⟩
    · rintro c st' ⟨hst, la, ofs, rfl, g1, g2, g3, g4⟩
      exact ⟨hst, la, ofs, rfl, g1, g2, g4, fun h => by omega⟩
    · rintro c st' ⟨hst, la, ofs, rfl, g1, g2, g3, g4⟩
      subst hst
      refine search_loop (arr := arr) (base := base) (t := t) (lo := hint + 1 - min ofs (hint + 1)) (hi := hint - la) ?_ ?_ ?_ hs q (by omega) (by omega) (fun i h => ?_) (fun i h1 h2 => ?_)
      · intro x lo hi P h p
        dsimp only
        rw [if_pos h]
        exact wpS_pure p
      · intro x lo hi P h hn p1 p2
        dsimp only
        rw [if_neg (by omega)]
        exact wpS_bind (by' (by omega) (fun z => wpS_pure (p1 z)) (fun z => wpS_pure (p2 z)))
      · exact fun lo hi h => wpS_pure h
      · have h3 := g4 (by omega)
        exact Int.lt_of_le_of_lt (hs i (hint - ofs) (by omega) (by omega)) h3
      · have := hs (hint - la) i (by omega) h2
        omega
end
end L2z
namespace L2z
open PySem PyProof.Rows
section
variable {rk : Keyed → Int}
abbrev Asc (rk : Keyed → Int) (l : List Keyed) : Prop := l.Pairwise fun x y => rk x ≤ rk y
theorem get_list {xs : Array Keyed} {i : Nat} (h : i < xs.size) : xs.toList[i]? = some (kAt xs i) := by
  rw [Array.getElem?_toList]
  exact kAt_get h
theorem drop_at {xs : Array Keyed} {i : Nat} (h : i < xs.size) : xs.toList.drop i = kAt xs i :: xs.toList.drop (i + 1) := by
  have hl : i < xs.toList.length := by simpa using h
  rw [List.drop_eq_getElem_cons hl]
  have := get_list h
  rw [List.getElem?_eq_getElem hl] at this
  rw [Option.some.inj this]
theorem mem_drop {xs : Array Keyed} {i : Nat} {y : Keyed} (h : y ∈ xs.toList.drop i) : ∃ j, i ≤ j ∧ j < xs.size ∧ y = kAt xs j := by
  obtain ⟨j, hj⟩ := List.getElem?_of_mem h
  rw [List.getElem?_drop] at hj
  have hlt : i + j < xs.toList.length := (List.getElem?_eq_some_iff.mp hj).1
  have hlt : i + j < xs.size := by simpa using hlt
  refine ⟨i + j, by omega, hlt, ?_⟩
  rw [get_list hlt] at hj
  exact (Option.some.inj hj).symm
theorem mem_take {xs : Array Keyed} {i : Nat} {y : Keyed} (h : y ∈ xs.toList.take i) : ∃ j, j < i ∧ j < xs.size ∧ y = kAt xs j := by
  obtain ⟨j, hj⟩ := List.getElem?_of_mem h
  have hlt := (List.getElem?_eq_some_iff.mp hj).1
  rw [List.length_take] at hlt
  have hs : j < xs.size := by
    have : j < xs.toList.length := by omega
    simpa using this
  rw [List.getElem?_take_of_lt (by omega), get_list hs] at hj
  exact ⟨j, by omega, hs, (Option.some.inj hj).symm⟩
def AscI (rk : Keyed → Int) (xs : Array Keyed) (lo hi : Nat) : Prop := ∀ i j, lo ≤ i → i ≤ j → j < hi → rk (kAt xs i) ≤ rk (kAt xs j)
theorem asc_of {xs : Array Keyed} (h : AscI rk xs 0 xs.size) : Asc rk xs.toList := by
  refine List.pairwise_iff_getElem.mpr ?_
  intro i j hi hj hij
  have hi' : i < xs.size := by simpa using hi
  have hj' : j < xs.size := by simpa using hj
  have e1 := get_list hi'
  have e2 := get_list hj'
  rw [List.getElem?_eq_getElem hi] at e1
  rw [List.getElem?_eq_getElem hj] at e2
  rw [Option.some.inj e1, Option.some.inj e2]
  exact h i j (Nat.zero_le _) (by omega) hj'
theorem of_asc {xs : Array Keyed} (h : Asc rk xs.toList) : AscI rk xs 0 xs.size := by
  intro i j _ hij hj
  by_cases e : i = j
  · rw [e]; exact Int.le_refl _
  have hi : i < xs.toList.length := by simp; omega
  have hj' : j < xs.toList.length := by simp; omega
  have := (List.pairwise_iff_getElem.mp h) i j hi hj' (by omega)
  have e1 := get_list (show i < xs.size by omega)
  have e2 := get_list hj
  rw [List.getElem?_eq_getElem hi] at e1
  rw [List.getElem?_eq_getElem hj'] at e2
  rw [Option.some.inj e1, Option.some.inj e2] at this
  exact this
theorem asc_drop {xs : Array Keyed} (h : AscI rk xs 0 xs.size) (i : Nat) : Asc rk (xs.toList.drop i) := (asc_of h).sublist (List.drop_sublist _ _)
theorem asc_take {xs : Array Keyed} (h : AscI rk xs 0 xs.size) (i : Nat) : Asc rk (xs.toList.take i) := (asc_of h).sublist (List.take_sublist _ _)
theorem ext_list {xs : Array Keyed} {i j : Nat} : (xs.extract i j).toList = (xs.toList.drop i).take (j - i) := by
  rw [Array.toList_extract]
theorem ext_end {xs : Array Keyed} {i : Nat} : (xs.extract i xs.size).toList = xs.toList.drop i := by
  rw [ext_list]
  exact List.take_of_length_le (by simp)
theorem ext_head {xs : Array Keyed} {i : Nat} : (xs.extract 0 i).toList = xs.toList.take i := by
  rw [ext_list, List.drop_zero, Nat.sub_zero]
structure MJ (rk : Keyed → Int) (T out la lb : List Keyed) : Prop where
  perm : (out ++ (la ++ lb)).Perm T
  srt : Asc rk out
  le : ∀ x ∈ out, ∀ y ∈ la ++ lb, rk x ≤ rk y
theorem MJ.takeA {T out xs la lb : List Keyed} (h : MJ rk T out (xs ++ la) lb) (hs : Asc rk (xs ++ la)) (hx : ∀ x ∈ xs, ∀ y ∈ lb, rk x ≤ rk y) : MJ rk T (out ++ xs) la lb := by
  obtain ⟨h1, h2, h3⟩ := List.pairwise_append.mp hs
  refine ⟨?_, ?_, ?_⟩
  · have := h.perm
    rwa [List.append_assoc] at this ⊢
  · rw [Asc, List.pairwise_append]
    exact ⟨h.srt, h1, fun x hx y hy => h.le x hx y (by simp [hy])⟩
  · intro x hx' y hy
    rcases List.mem_append.mp hx' with q | q
    · exact h.le x q y (by
        rcases List.mem_append.mp hy with z | z
        · simp [z]
        · simp [z])
    · rcases List.mem_append.mp hy with z | z
      · exact h3 x q y z
      · exact hx x q y z
theorem MJ.takeB {T out xs la lb : List Keyed} (h : MJ rk T out la (xs ++ lb)) (hs : Asc rk (xs ++ lb)) (hx : ∀ x ∈ xs, ∀ y ∈ la, rk x ≤ rk y) : MJ rk T (out ++ xs) la lb := by
  obtain ⟨h1, h2, h3⟩ := List.pairwise_append.mp hs
  refine ⟨?_, ?_, ?_⟩
  · refine List.Perm.trans ?_ h.perm
    rw [List.append_assoc]
    refine List.Perm.append_left out ?_
    rw [← List.append_assoc, ← List.append_assoc]
    exact List.Perm.append_right lb List.perm_append_comm
  · rw [Asc, List.pairwise_append]
    exact ⟨h.srt, h1, fun x hx y hy => h.le x hx y (by simp [hy])⟩
  · intro x hx' y hy
    rcases List.mem_append.mp hx' with q | q
    · exact h.le x q y (by
        rcases List.mem_append.mp hy with z | z
        · simp [z]
        · simp [z])
    · rcases List.mem_append.mp hy with z | z
      · exact hx x q y z
      · exact h3 x q y z
def Mg (rk : Keyed → Int) (T : List Keyed) (r : Array Keyed) : Prop := r.toList.Perm T ∧ Asc rk r.toList
theorem MJ.fin {T out la lb : List Keyed} (h : MJ rk T out la lb) (ha : Asc rk la) (hb : Asc rk lb) (hx : ∀ x ∈ la, ∀ y ∈ lb, rk x ≤ rk y) : (out ++ la ++ lb).Perm T ∧ Asc rk (out ++ la ++ lb) := by
  refine ⟨by rw [List.append_assoc]; exact h.perm, ?_⟩
  rw [List.append_assoc, Asc, List.pairwise_append]
  exact ⟨h.srt, List.pairwise_append.mpr ⟨ha, hb, hx⟩, h.le⟩
theorem MJ.swap {T out la lb : List Keyed} (h : MJ rk T out la lb) : MJ rk T out lb la :=
  ⟨(List.Perm.append_left out List.perm_append_comm).trans h.perm, h.srt, fun x hx y hy => h.le x hx y (by
    rcases List.mem_append.mp hy with z | z
    · simp [z]
    · simp [z])⟩
structure Two (rk : Keyed → Int) (Vd : Keyed → Prop) (a b : Array Keyed) : Prop where
  sa : AscI rk a 0 a.size
  sb : AscI rk b 0 b.size
  va : ∀ i, i < a.size → Vd (kAt a i)
  vb : ∀ i, i < b.size → Vd (kAt b i)
  na : 0 < a.size
  nb : 0 < b.size
  first : rk (kAt b 0) < rk (kAt a 0)
  last : ∀ j, j < b.size → rk (kAt b j) < rk (kAt a (a.size - 1))
variable {Vd : Keyed → Prop} {a b : Array Keyed}
def JF (rk : Keyed → Int) (a b : Array Keyed) (out : Array Keyed) (ia ib : Nat) : Prop := MJ rk (a.toList ++ b.toList) out.toList (a.toList.drop ia) (b.toList.drop ib)
abbrev MgF (rk : Keyed → Int) (a b : Array Keyed) (r : Array Keyed) : Prop := Mg rk (a.toList ++ b.toList) r
theorem JF.pushA (D : Two rk Vd a b) {out : Array Keyed} {ia ib : Nat} (h : JF rk a b out ia ib) (hi : ia < a.size) (hx : ∀ j, ib ≤ j → j < b.size → rk (kAt a ia) ≤ rk (kAt b j)) : JF rk a b (out.push (kAt a ia)) (ia + 1) ib := by
  unfold JF at h ⊢
  rw [drop_at hi] at h
  rw [Array.toList_push]
  refine MJ.takeA (xs := [kAt a ia]) h ?_ fun x hx' y hy => ?_
  · have := asc_drop D.sa ia
    rwa [drop_at hi] at this
  · obtain ⟨j, h1, h2, rfl⟩ := mem_drop hy
    rw [List.mem_singleton.mp hx']
    exact hx j h1 h2
theorem JF.pushB (D : Two rk Vd a b) {out : Array Keyed} {ia ib : Nat} (h : JF rk a b out ia ib) (hi : ib < b.size) (hx : ∀ j, ia ≤ j → j < a.size → rk (kAt b ib) ≤ rk (kAt a j)) : JF rk a b (out.push (kAt b ib)) ia (ib + 1) := by
  unfold JF at h ⊢
  rw [drop_at hi] at h
  rw [Array.toList_push]
  refine MJ.takeB (xs := [kAt b ib]) h ?_ fun x hx' y hy => ?_
  · have := asc_drop D.sb ib
    rwa [drop_at hi] at this
  · obtain ⟨j, h1, h2, rfl⟩ := mem_drop hy
    rw [List.mem_singleton.mp hx']
    exact hx j h1 h2
theorem split_drop (xs : Array Keyed) (i k : Nat) : xs.toList.drop i = (xs.extract i (i + k)).toList ++ xs.toList.drop (i + k) := by
  rw [ext_list, show i + k - i = k by omega, ← List.drop_drop]
  exact (List.take_append_drop k _).symm
theorem mem_ext {xs : Array Keyed} {i k : Nat} {y : Keyed} (h : y ∈ (xs.extract i (i + k)).toList) : ∃ j, i ≤ j ∧ j < i + k ∧ j < xs.size ∧ y = kAt xs j := by
  obtain ⟨j, hj⟩ := List.getElem?_of_mem h
  rw [ext_list] at hj
  have hlt := (List.getElem?_eq_some_iff.mp hj).1
  rw [List.length_take] at hlt
  rw [List.getElem?_take_of_lt (by omega), List.getElem?_drop] at hj
  have hs : i + j < xs.size := by
    have : i + j < xs.toList.length := (List.getElem?_eq_some_iff.mp hj).1
    simpa using this
  rw [get_list hs] at hj
  exact ⟨i + j, by omega, by omega, hs, (Option.some.inj hj).symm⟩
theorem JF.moreA (D : Two rk Vd a b) {out : Array Keyed} {ia ib k : Nat} (h : JF rk a b out ia ib) (hx : ∀ i, ia ≤ i → i < ia + k → i < a.size → ∀ j, ib ≤ j → j < b.size → rk (kAt a i) ≤ rk (kAt b j)) : JF rk a b (out ++ a.extract ia (ia + k)) (ia + k) ib := by
  unfold JF at h ⊢
  rw [split_drop a ia k] at h
  rw [Array.toList_append]
  refine MJ.takeA h ?_ fun x hx' y hy => ?_
  · rw [← split_drop]; exact asc_drop D.sa ia
  · obtain ⟨i, i1, i2, i3, rfl⟩ := mem_ext hx'
    obtain ⟨j, h1, h2, rfl⟩ := mem_drop hy
    exact hx i i1 i2 i3 j h1 h2
theorem JF.moreB (D : Two rk Vd a b) {out : Array Keyed} {ia ib k : Nat} (h : JF rk a b out ia ib) (hx : ∀ i, ib ≤ i → i < ib + k → i < b.size → ∀ j, ia ≤ j → j < a.size → rk (kAt b i) ≤ rk (kAt a j)) : JF rk a b (out ++ b.extract ib (ib + k)) ia (ib + k) := by
  unfold JF at h ⊢
  rw [split_drop b ib k] at h
  rw [Array.toList_append]
  refine MJ.takeB h ?_ fun x hx' y hy => ?_
  · rw [← split_drop]; exact asc_drop D.sb ib
  · obtain ⟨i, i1, i2, i3, rfl⟩ := mem_ext hx'
    obtain ⟨j, h1, h2, rfl⟩ := mem_drop hy
    exact hx i i1 i2 i3 j h1 h2
theorem drop_nil {xs : Array Keyed} {i : Nat} (h : xs.size ≤ i) : xs.toList.drop i = [] := List.drop_eq_nil_of_le (by simpa using h)
theorem JF.done (D : Two rk Vd a b) {out : Array Keyed} {ia ib : Nat} (h : JF rk a b out ia ib) (hx : a.size ≤ ia ∨ b.size ≤ ib) : MgF rk a b (out ++ a.extract ia ++ b.extract ib) := by
  have := MJ.fin h (asc_drop D.sa ia) (asc_drop D.sb ib) (fun x hx' y hy => by
    rcases hx with z | z
    · rw [drop_nil z] at hx'; cases hx'
    · rw [drop_nil z] at hy; cases hy)
  unfold MgF Mg
  rw [Array.toList_append, Array.toList_append, ext_end, ext_end]
  exact this
theorem JF.last (D : Two rk Vd a b) {out : Array Keyed} {ia ib : Nat} (h : JF rk a b out ia ib) (hx : ia + 1 = a.size) : MgF rk a b (out ++ b.extract ib ++ a.extract ia) := by
  have := MJ.fin h.swap (asc_drop D.sb ib) (asc_drop D.sa ia) (fun x hx' y hy => by
    obtain ⟨i, i1, i2, rfl⟩ := mem_drop hx'
    obtain ⟨j, j1, j2, rfl⟩ := mem_drop hy
    have e : j = a.size - 1 := by omega
    rw [e]
    exact Int.le_of_lt (D.last i i2))
  unfold MgF Mg
  rw [Array.toList_append, Array.toList_append, ext_end, ext_end]
  exact this
theorem Two.start' (D : Two rk Vd a b) : JF rk a b #[kAt b 0] 0 1 := by
  have h0 : JF rk a b #[] 0 0 := ⟨by simp, List.Pairwise.nil, fun x h => nomatch h⟩
  have := h0.pushB D D.nb (fun j _ hj => by
    have := D.first
    have := D.sa 0 j (Nat.zero_le _) (Nat.zero_le _) hj
    omega)
  exact this
end
end L2z
namespace L2z
open PySem PyProof.Rows
section
variable {prog : Program} {w : World} {A : Around} {E : Value → Shared → Prop} {s : Shared} {κ : SortKind} {Vd : Keyed → Prop} {rk : Keyed → Int} {a b : Array Keyed}
def setG (st : SortSt) (g : Nat) : SortSt := SortSt.mk' (kindOf st) (arrOf st) (pendingOf st) g (failedOf st)
theorem wpS_ite {c : Prop} [Decidable c] {α : Type} {x y : StateT SortSt Sem α} {Q : α → SortSt → Prop} {st : SortSt} (h1 : c → wpS (model prog w) A E s x Q st) (h2 : ¬ c → wpS (model prog w) A E s y Q st) : wpS (model prog w) A E s (if c then x else y) Q st := by
  by_cases h : c
  · rw [if_pos h]; exact h1 h
  · rw [if_neg h]; exact h2 h
theorem wpS_beq {i j : Nat} {α : Type} {x y : StateT SortSt Sem α} {Q : α → SortSt → Prop} {st : SortSt} (h1 : i = j → wpS (model prog w) A E s x Q st) (h2 : i ≠ j → wpS (model prog w) A E s y Q st) : wpS (model prog w) A E s (if (i == j) = true then x else y) Q st :=
  wpS_ite (fun h => h1 (eq_of_beq h)) (fun h => h2 (fun e => h (by rw [e]; exact beq_self_eq_true _)))
theorem wpS_lt (O : Ord prog w A E s κ Vd rk) {x y : Keyed} {st : SortSt} {Q : Option Bool → SortSt → Prop} (hx : Vd x) (hy : Vd y) (hκ : kindOf st = κ) (h1 : rk x < rk y → Q (some true) st) (h2 : rk y ≤ rk x → Q (some false) st) : wpS (model prog w) A E s (lt' x y) Q st := by
  refine O.lt hx hy hκ ?_
  by_cases z : rk x < rk y
  · rw [decide_eq_true z]; exact h1 z
  · rw [decide_eq_false z]; exact h2 (by omega)
theorem wpS_setG {st : SortSt} {g : Nat} {Q : Unit → SortSt → Prop} (h : Q () (setG st g)) : wpS (model prog w) A E s ((sortPriv% PySem.Builtin.setMinGallop) g : StateT SortSt Sem Unit) Q st := wpS_modify h
theorem wpS_mergeLo (O : Ord prog w A E s κ Vd rk) (D : Two rk Vd a b) {st : SortSt} {Q : Array Keyed → SortSt → Prop} (hκ : kindOf st = κ) (q : ∀ r g, MgF rk a b r → Q r (setG st g)) : wpS (model prog w) A E s (mergeLoP a b) Q st := by
  have q0 : ∀ r, MgF rk a b r → Q r st := fun r h => q r (gallopOf st) h
  refine wpS_bind (wpS_rule ?_)
  refine wpS_bind (wpS_elem D.nb ?_)
  try dsimp only
  refine wpS_beq (fun h => wpS_pure (q0 _ (D.start'.done D (.inr (by omega))))) (fun hb => ?_)
  refine wpS_beq (fun h => wpS_pure (q0 _ (D.start'.last D (by omega)))) (fun ha => ?_)
  refine wpS_bind (wpS_get ?_)
  have hb1 : 1 < b.size := by have := D.nb; omega
  have ha1 : 0 + 1 < a.size := by have := D.na; omega
  refine wpS_bind (wpS_mono (wpS_forRange (a := 0) (Q := fun c st' => (∃ g, st' = setG st g) ∧ ∃ r, c.1 = some r ∧ MgF rk a b r)
    (I := fun i c st' => (∃ g, st' = setG st g) ∧ ∃ out ia ib mg, c = (none, out, ia, ib, mg) ∧ JF rk a b out ia ib ∧ ia + 1 < a.size ∧ ib < b.size ∧ i + 1 ≤ ia + ib) ?_ ?_ ⟨⟨gallopOf st, rfl⟩, _, 0, 1, _, rfl, D.start', ha1, hb1, by omega⟩) ?_)
  · rintro i c st' _ hin ⟨⟨g, rfl⟩, out, ia, ib, mg, rfl, hJ, ga, gb, gi⟩
    try dsimp only
    refine wpS_bind (wpS_mono (wpS_forRange (a := 0) (Q := fun c st' => (∃ g, st' = setG st g) ∧ ((∃ r, c.1 = some r ∧ MgF rk a b r) ∨ ∃ out ia ib ac bc, c = (none, out, ia, ib, ac, bc) ∧ JF rk a b out ia ib ∧ ia + 1 < a.size ∧ ib < b.size ∧ i + 2 ≤ ia + ib))
      (I := fun j c st' => (∃ g, st' = setG st g) ∧ ∃ out ia ib ac bc, c = (none, out, ia, ib, ac, bc) ∧ JF rk a b out ia ib ∧ ia + 1 < a.size ∧ ib < b.size ∧ i + j + 1 ≤ ia + ib) ?_ ?_ ⟨⟨g, rfl⟩, out, ia, ib, 0, 0, rfl, hJ, ga, gb, by omega⟩) ?_)
    · rintro j c st' _ hjn ⟨⟨g, rfl⟩, out, ia, ib, ac, bc, rfl, hJ, ga, gb, gi⟩
      try dsimp only
      refine wpS_bind (wpS_elem gb (wpS_bind (wpS_elem (by omega) (wpS_bind (wpS_lt O (D.vb _ gb) (D.va _ (by omega)) hκ (fun z => ?_) (fun z => ?_))))))
      · try dsimp only
        rw [if_pos rfl]
        refine wpS_bind (wpS_elem gb ?_)
        have hJ2 := hJ.pushB D gb (fun j h1 h2 => by have := D.sa ia j (Nat.zero_le _) h1 h2; omega)
        try dsimp only
        refine wpS_beq (fun h => wpS_pure ⟨⟨g, rfl⟩, .inl ⟨_, rfl, hJ2.done D (.inr (by omega))⟩⟩) (fun h => ?_)
        refine wpS_ite (fun _ => wpS_pure ⟨⟨g, rfl⟩, .inr ⟨_, _, _, _, _, rfl, hJ2, ga, by omega, by omega⟩⟩) (fun _ => wpS_pure ⟨⟨g, rfl⟩, _, _, _, _, _, rfl, hJ2, ga, by omega, by omega⟩)
      · try dsimp only
        rw [if_neg Bool.false_ne_true]
        refine wpS_bind (wpS_elem (by omega) ?_)
        have hJ2 := hJ.pushA D (by omega) (fun j h1 h2 => by have := D.sb ib j (Nat.zero_le _) h1 h2; omega)
        try dsimp only
        refine wpS_beq (fun h => wpS_pure ⟨⟨g, rfl⟩, .inl ⟨_, rfl, hJ2.last D (by omega)⟩⟩) (fun h => ?_)
        refine wpS_ite (fun _ => wpS_pure ⟨⟨g, rfl⟩, .inr ⟨_, _, _, _, _, rfl, hJ2, by omega, gb, by omega⟩⟩) (fun _ => wpS_pure ⟨⟨g, rfl⟩, _, _, _, _, _, rfl, hJ2, by omega, gb, by omega⟩)
    · rintro c st' ⟨hg, out, ia, ib, ac, bc, rfl, hJ, ga, gb, gi⟩
      exact ⟨hg, .inr ⟨out, ia, ib, ac, bc, rfl, hJ, ga, gb, by omega⟩⟩
    · rintro c st' ⟨⟨g, rfl⟩, hc⟩
      rcases hc with ⟨r, hr, hm⟩ | ⟨out, ia, ib, ac, bc, rfl, hJ, ga, gb, gi⟩
      · try dsimp only
        rw [hr]
        exact wpS_pure ⟨⟨g, rfl⟩, r, rfl, hm⟩
      · try dsimp only
        refine wpS_bind (wpS_rule ?_)
        try dsimp only
        refine wpS_bind (wpS_mono (wpS_forRange (a := 0) (Q := fun c st' => (∃ g, st' = setG st g) ∧ ((∃ r, c.1 = some r ∧ MgF rk a b r) ∨ ∃ out ia ib mg ac bc, c = (none, out, ia, ib, mg, ac, bc) ∧ JF rk a b out ia ib ∧ ia + 1 < a.size ∧ ib < b.size ∧ i + 2 ≤ ia + ib))
          (I := fun j c st' => (∃ g, st' = setG st g) ∧ ∃ out ia ib mg ac bc, c = (none, out, ia, ib, mg, ac, bc) ∧ JF rk a b out ia ib ∧ ia + 1 < a.size ∧ ib < b.size ∧ i + 2 ≤ ia + ib) ?_ ?_ ⟨⟨g, rfl⟩, out, ia, ib, _, ac, bc, rfl, hJ, ga, gb, gi⟩) ?_)
        · clear hJ ga gb gi
          rintro j c st' _ _ ⟨⟨g, rfl⟩, out, ia, ib, mg, ac, bc, rfl, hJ, ga, gb, gi⟩
          try dsimp only
          refine wpS_ite (fun _ => ?_) (fun _ => ?_)
          all_goals
            refine wpS_bind (wpS_setG ?_)
            refine wpS_bind (wpS_elem gb ?_)
            refine wpS_bind (wpS_gallop O (left := false) (by omega) (by omega) (fun i hi => D.va _ (by omega)) (D.vb _ gb) hκ (fun i j h1 h2 => D.sa _ _ (Nat.zero_le _) (by omega) (by omega)) (fun k k1 k2 k3 => ?_))
            have hlast := D.last ib gb
            have hk : ia + k < a.size := by
              rcases Nat.lt_or_ge (ia + k) a.size with z | z
              · exact z
              · have h3 := k2 (a.size - 1 - ia) (by omega)
                rw [show ia + (a.size - 1 - ia) = a.size - 1 by omega] at h3
                unfold bnd at h3
                rw [if_neg Bool.false_ne_true] at h3
                omega
            have hJ1 : JF rk a b (out ++ a.extract ia (ia + k)) (ia + k) ib := hJ.moreA D (fun x h1 h2 h3 y h4 h5 => by
              have h6 := k2 (x - ia) (by omega)
              rw [show ia + (x - ia) = x by omega] at h6
              unfold bnd at h6
              rw [if_neg Bool.false_ne_true] at h6
              have := D.sb ib y (Nat.zero_le _) h4 h5
              omega)
            have hB1 : ∀ j, ia + k ≤ j → j < a.size → rk (kAt b ib) < rk (kAt a j) := fun y h1 h2 => by
              have h6 := k3 (y - ia) (by omega) (by omega)
              rw [show ia + (y - ia) = y by omega] at h6
              unfold bnd at h6
              rw [if_neg Bool.false_ne_true] at h6
              omega
            have gi1 : i + 2 ≤ ia + k + ib := by omega
            try dsimp only
            refine wpS_ite (fun hk0 => wpS_beq (fun h => wpS_pure ⟨⟨_, rfl⟩, .inl ⟨_, rfl, hJ1.last D h⟩⟩) (fun h => wpS_beq (fun h => absurd h (by omega)) (fun _ => ?_))) (fun hk0 => ?_)
          all_goals
            first
              | (have hk0' : k > 0 := hk0
                 have ga1 : ia + k + 1 < a.size := by omega
                 generalize out ++ a.extract ia (ia + k) = o1 at hJ1 ⊢
                 generalize ia + k = i1 at hJ1 hB1 gi1 ga1 ⊢)
              | (have hk0' : k = 0 := by omega
                 clear hJ1
                 have hJ1 := hJ
                 rw [hk0', Nat.add_zero] at hB1 gi1
                 have ga1 := ga
                 clear hJ ga gi
                 generalize out = o1 at hJ1 ⊢
                 generalize ia = i1 at hJ1 hB1 gi1 ga1 ⊢)
            refine wpS_bind (wpS_elem gb ?_)
            have hJ2 := hJ1.pushB D gb (fun j h1 h2 => Int.le_of_lt (hB1 j h1 h2))
            try dsimp only
            refine wpS_beq (fun h => wpS_pure ⟨⟨_, rfl⟩, .inl ⟨_, rfl, hJ2.done D (.inr (by omega))⟩⟩) (fun h => ?_)
            refine wpS_bind (wpS_elem (by omega) ?_)
            refine wpS_bind (wpS_gallop O (left := true) (by omega) (by omega) (fun i hi => D.vb _ (by omega)) (D.va _ (by omega)) hκ (fun i j h1 h2 => D.sb _ _ (Nat.zero_le _) (by omega) (by omega)) (fun k' l1 l2 l3 => ?_))
            have hJ3 : JF rk a b (o1.push (kAt b ib) ++ b.extract (ib + 1) (ib + 1 + k')) i1 (ib + 1 + k') := hJ2.moreB D (fun x h1 h2 h3 y h4 h5 => by
              have h6 := l2 (x - (ib + 1)) (by omega)
              rw [show ib + 1 + (x - (ib + 1)) = x by omega] at h6
              unfold bnd at h6
              rw [if_pos rfl] at h6
              have := D.sa i1 y (Nat.zero_le _) h4 h5
              omega)
            have hA1 : ∀ j, ib + 1 + k' ≤ j → j < b.size → rk (kAt a i1) ≤ rk (kAt b j) := fun y h1 h2 => by
              have h6 := l3 (y - (ib + 1)) (by omega) (by omega)
              rw [show ib + 1 + (y - (ib + 1)) = y by omega] at h6
              unfold bnd at h6
              rw [if_pos rfl] at h6
              omega
            have gi2 : i + 2 ≤ i1 + (ib + 1 + k') := by omega
            try dsimp only
            refine wpS_ite (fun hk1 => wpS_beq (fun h => wpS_pure ⟨⟨_, rfl⟩, .inl ⟨_, rfl, hJ3.done D (.inr (by omega))⟩⟩) (fun h => ?_)) (fun hk1 => ?_)
          all_goals
            first
              | (have hk0' : k' > 0 := hk1
                 have gb1 : ib + 1 + k' < b.size := by omega
                 generalize o1.push (kAt b ib) ++ b.extract (ib + 1) (ib + 1 + k') = o2 at hJ3 ⊢
                 generalize ib + 1 + k' = i2 at hJ3 hA1 gi2 gb1 ⊢)
              | (have hk0' : k' = 0 := by omega
                 clear hJ3
                 have hJ3 := hJ2
                 rw [hk0', Nat.add_zero] at hA1 gi2
                 have gb1 : ib + 1 < b.size := by omega
                 clear hJ2
                 generalize o1.push (kAt b ib) = o2 at hJ3 ⊢
                 generalize ib + 1 = i2 at hJ3 hA1 gi2 gb1 ⊢)
            refine wpS_bind (wpS_elem (by omega) ?_)
            have hJ4 := hJ3.pushA D (by omega) hA1
            try dsimp only
            refine wpS_beq (fun h => wpS_pure ⟨⟨_, rfl⟩, .inl ⟨_, rfl, hJ4.last D h⟩⟩) (fun h => ?_)
            refine wpS_ite (fun _ => wpS_pure ⟨⟨_, rfl⟩, .inr ⟨_, _, _, _, _, _, rfl, hJ4, by omega, gb1, by omega⟩⟩) (fun _ => wpS_pure ⟨⟨_, rfl⟩, _, _, _, _, _, _, rfl, hJ4, by omega, gb1, by omega⟩)
        · rintro c st' ⟨hg, out, ia, ib, mg, ac, bc, rfl, hJ, ga, gb, gi⟩
          exact ⟨hg, .inr ⟨out, ia, ib, mg, ac, bc, rfl, hJ, ga, gb, gi⟩⟩
        · rintro c st' ⟨⟨g, rfl⟩, hc⟩
          rcases hc with ⟨r, hr, hm⟩ | ⟨out, ia, ib, mg, ac, bc, rfl, hJ, ga, gb, gi⟩
          · try dsimp only
            rw [hr]
            exact wpS_pure ⟨⟨g, rfl⟩, r, rfl, hm⟩
          · try dsimp only
            refine wpS_bind (wpS_setG ?_)
            exact wpS_pure ⟨⟨_, rfl⟩, out, ia, ib, _, rfl, hJ, ga, gb, by omega⟩
  · rintro c st' ⟨hg, out, ia, ib, mg, rfl, hJ, ga, gb, gi⟩
    exfalso
    omega
  · rintro c st' ⟨⟨g, rfl⟩, r, hr, hm⟩
    try dsimp only
    rw [hr]
    exact wpS_pure (q r g hm)
end
end L2z
namespace L2z
open PySem PyProof.Rows
section
variable {rk : Keyed → Int} {Vd : Keyed → Prop} {a b : Array Keyed}
structure MH (rk : Keyed → Int) (T out la lb : List Keyed) : Prop where
  perm : (la ++ lb ++ out).Perm T
  srt : Asc rk out.reverse
  le : ∀ x ∈ la ++ lb, ∀ y ∈ out, rk x ≤ rk y
theorem MH.takeA {T out xs la lb : List Keyed} (h : MH rk T out (la ++ xs) lb) (hs : Asc rk (la ++ xs)) (hx : ∀ x ∈ xs, ∀ y ∈ lb, rk y ≤ rk x) : MH rk T (out ++ xs.reverse) la lb := by
  obtain ⟨h1, h2, h3⟩ := List.pairwise_append.mp hs
  refine ⟨?_, ?_, ?_⟩
  · refine List.Perm.trans ?_ h.perm
    have p1 : (out ++ xs.reverse).Perm (xs ++ out) := (List.Perm.append_left out (List.reverse_perm xs)).trans List.perm_append_comm
    refine (List.Perm.append_left (la ++ lb) p1).trans ?_
    rw [List.append_assoc, List.append_assoc, List.append_assoc]
    refine List.Perm.append_left la ?_
    rw [← List.append_assoc, ← List.append_assoc]
    exact List.Perm.append_right out List.perm_append_comm
  · rw [List.reverse_append, List.reverse_reverse, Asc, List.pairwise_append]
    exact ⟨h2, h.srt, fun x hx y hy => h.le x (by simp [hx]) y (List.mem_reverse.mp hy)⟩
  · intro x hx' y hy
    rcases List.mem_append.mp hy with q | q
    · exact h.le x (by
        rcases List.mem_append.mp hx' with z | z
        · simp [z]
        · simp [z]) y q
    · have q := List.mem_reverse.mp q
      rcases List.mem_append.mp hx' with z | z
      · exact h3 x z y q
      · exact hx y q x z
theorem MH.swap {T out la lb : List Keyed} (h : MH rk T out la lb) : MH rk T out lb la :=
  ⟨(List.Perm.append_right out List.perm_append_comm).trans h.perm, h.srt, fun x hx y hy => h.le x (by
    rcases List.mem_append.mp hx with z | z
    · simp [z]
    · simp [z]) y hy⟩
theorem MH.takeB {T out xs la lb : List Keyed} (h : MH rk T out la (lb ++ xs)) (hs : Asc rk (lb ++ xs)) (hx : ∀ x ∈ xs, ∀ y ∈ la, rk y ≤ rk x) : MH rk T (out ++ xs.reverse) la lb := (h.swap.takeA hs hx).swap
theorem MH.fin {T out la lb : List Keyed} (h : MH rk T out la lb) (ha : Asc rk la) (hb : Asc rk lb) (hx : ∀ x ∈ la, ∀ y ∈ lb, rk x ≤ rk y) : (la ++ lb ++ out.reverse).Perm T ∧ Asc rk (la ++ lb ++ out.reverse) := by
  refine ⟨(List.Perm.append_left _ (List.reverse_perm out)).trans h.perm, ?_⟩
  rw [Asc, List.pairwise_append]
  exact ⟨List.pairwise_append.mpr ⟨ha, hb, hx⟩, h.srt, fun x hx y hy => h.le x hx y (List.mem_reverse.mp hy)⟩
def JH (rk : Keyed → Int) (a b : Array Keyed) (out : Array Keyed) (na nb : Nat) : Prop := MH rk (a.toList ++ b.toList) out.toList (a.toList.take na) (b.toList.take nb)
theorem take_at {xs : Array Keyed} {n : Nat} (h0 : 0 < n) (h : n ≤ xs.size) : xs.toList.take n = xs.toList.take (n - 1) ++ [kAt xs (n - 1)] := by
  obtain ⟨m, rfl⟩ : ∃ m, n = m + 1 := ⟨n - 1, by omega⟩
  rw [List.take_add_one, get_list (by omega)]
  rfl
theorem split_take (xs : Array Keyed) {i n : Nat} (h : i ≤ n) : xs.toList.take n = xs.toList.take i ++ (xs.extract i n).toList := by
  rw [ext_list]
  obtain ⟨k, rfl⟩ : ∃ k, n = i + k := ⟨n - i, by omega⟩
  rw [List.take_add, show i + k - i = k by omega]
theorem JH.pushA (D : Two rk Vd a b) {out : Array Keyed} {na nb : Nat} (h : JH rk a b out na nb) (h0 : 0 < na) (hn : na ≤ a.size) (hx : ∀ j, j < nb → j < b.size → rk (kAt b j) ≤ rk (kAt a (na - 1))) : JH rk a b (out.push (kAt a (na - 1))) (na - 1) nb := by
  unfold JH at h ⊢
  rw [take_at h0 hn] at h
  rw [Array.toList_push]
  refine MH.takeA (xs := [kAt a (na - 1)]) h ?_ fun x hx' y hy => ?_
  · rw [← take_at h0 hn]; exact asc_take D.sa na
  · obtain ⟨j, h1, h2, rfl⟩ := mem_take hy
    rw [List.mem_singleton.mp hx']
    exact hx j h1 h2
theorem JH.pushB (D : Two rk Vd a b) {out : Array Keyed} {na nb : Nat} (h : JH rk a b out na nb) (h0 : 0 < nb) (hn : nb ≤ b.size) (hx : ∀ j, j < na → j < a.size → rk (kAt a j) ≤ rk (kAt b (nb - 1))) : JH rk a b (out.push (kAt b (nb - 1))) na (nb - 1) := by
  unfold JH at h ⊢
  rw [take_at h0 hn] at h
  rw [Array.toList_push]
  refine MH.takeB (xs := [kAt b (nb - 1)]) h ?_ fun x hx' y hy => ?_
  · rw [← take_at h0 hn]; exact asc_take D.sb nb
  · obtain ⟨j, h1, h2, rfl⟩ := mem_take hy
    rw [List.mem_singleton.mp hx']
    exact hx j h1 h2
theorem mem_ext2 {xs : Array Keyed} {i n : Nat} {y : Keyed} (h : y ∈ (xs.extract i n).toList) : ∃ j, i ≤ j ∧ j < n ∧ j < xs.size ∧ y = kAt xs j := by
  rcases Nat.lt_or_ge n i with z | z
  · rw [ext_list, show n - i = 0 by omega, List.take_zero] at h; cases h
  · obtain ⟨k, rfl⟩ : ∃ k, n = i + k := ⟨n - i, by omega⟩
    exact mem_ext h
theorem JH.moreA (D : Two rk Vd a b) {out : Array Keyed} {i na nb : Nat} (h : JH rk a b out na nb) (hi : i ≤ na) (hx : ∀ x, i ≤ x → x < na → x < a.size → ∀ j, j < nb → j < b.size → rk (kAt b j) ≤ rk (kAt a x)) : JH rk a b (out ++ (a.extract i na).reverse) i nb := by
  unfold JH at h ⊢
  rw [split_take a hi] at h
  rw [Array.toList_append, Array.toList_reverse]
  refine MH.takeA h ?_ fun x hx' y hy => ?_
  · rw [← split_take a hi]; exact asc_take D.sa na
  · obtain ⟨x, i1, i2, i3, rfl⟩ := mem_ext2 hx'
    obtain ⟨j, h1, h2, rfl⟩ := mem_take hy
    exact hx x i1 i2 i3 j h1 h2
theorem JH.moreB (D : Two rk Vd a b) {out : Array Keyed} {i na nb : Nat} (h : JH rk a b out na nb) (hi : i ≤ nb) (hx : ∀ x, i ≤ x → x < nb → x < b.size → ∀ j, j < na → j < a.size → rk (kAt a j) ≤ rk (kAt b x)) : JH rk a b (out ++ (b.extract i nb).reverse) na i := by
  unfold JH at h ⊢
  rw [split_take b hi] at h
  rw [Array.toList_append, Array.toList_reverse]
  refine MH.takeB h ?_ fun x hx' y hy => ?_
  · rw [← split_take b hi]; exact asc_take D.sb nb
  · obtain ⟨x, i1, i2, i3, rfl⟩ := mem_ext2 hx'
    obtain ⟨j, h1, h2, rfl⟩ := mem_take hy
    exact hx x i1 i2 i3 j h1 h2
theorem JH.done (D : Two rk Vd a b) {out : Array Keyed} {na nb : Nat} (h : JH rk a b out na nb) (hx : na = 0 ∨ nb = 0) : MgF rk a b (a.extract 0 na ++ b.extract 0 nb ++ out.reverse) := by
  have := MH.fin h (asc_take D.sa na) (asc_take D.sb nb) (fun x hx' y hy => by
    rcases hx with z | z
    · rw [z, List.take_zero] at hx'; cases hx'
    · rw [z, List.take_zero] at hy; cases hy)
  unfold MgF Mg
  rw [Array.toList_append, Array.toList_append, Array.toList_reverse, ext_head, ext_head]
  exact this
theorem JH.first (D : Two rk Vd a b) {out : Array Keyed} {na nb : Nat} (h : JH rk a b out na nb) (hx : nb = 1) : MgF rk a b (b.extract 0 nb ++ a.extract 0 na ++ out.reverse) := by
  have := MH.fin h.swap (asc_take D.sb nb) (asc_take D.sa na) (fun x hx' y hy => by
    obtain ⟨i, i1, i2, rfl⟩ := mem_take hx'
    obtain ⟨j, j1, j2, rfl⟩ := mem_take hy
    have e : i = 0 := by omega
    rw [e]
    have := D.first
    have := D.sa 0 j (Nat.zero_le _) (Nat.zero_le _) j2
    omega)
  unfold MgF Mg
  rw [Array.toList_append, Array.toList_append, Array.toList_reverse, ext_head, ext_head]
  exact this
theorem Two.startH (D : Two rk Vd a b) : JH rk a b #[kAt a (a.size - 1)] (a.size - 1) b.size := by
  have h0 : JH rk a b #[] a.size b.size := ⟨by rw [List.take_of_length_le (by simp), List.take_of_length_le (by simp)]; simp, List.Pairwise.nil, fun x _ y h => nomatch h⟩
  exact h0.pushA D D.na (Nat.le_refl _) (fun j h _ => Int.le_of_lt (D.last j h))
end
section
variable {prog : Program} {w : World} {A : Around} {E : Value → Shared → Prop} {s : Shared} {κ : SortKind} {Vd : Keyed → Prop} {rk : Keyed → Int} {a b : Array Keyed}
theorem wpS_mergeHi (O : Ord prog w A E s κ Vd rk) (D : Two rk Vd a b) {st : SortSt} {Q : Array Keyed → SortSt → Prop} (hκ : kindOf st = κ) (q : ∀ r g, MgF rk a b r → Q r (setG st g)) : wpS (model prog w) A E s (mergeHiP a b) Q st := by
  have q0 : ∀ r, MgF rk a b r → Q r st := fun r h => q r (gallopOf st) h
  have hna := D.na
  have hnb := D.nb
  refine wpS_bind (wpS_rule ?_)
  refine wpS_bind (wpS_elem (by omega) ?_)
  try dsimp only
  refine wpS_beq (fun h => wpS_pure (q0 _ (D.startH.done D (.inl h)))) (fun ha => ?_)
  refine wpS_beq (fun h => wpS_pure (q0 _ (D.startH.first D h))) (fun hb => ?_)
  refine wpS_bind (wpS_get ?_)
  refine wpS_bind (wpS_mono (wpS_forRange (a := 0) (Q := fun c st' => (∃ g, st' = setG st g) ∧ ∃ r, c.1 = some r ∧ MgF rk a b r)
    (I := fun i c st' => (∃ g, st' = setG st g) ∧ ∃ na nb out mg, c = (none, na, nb, out, mg) ∧ JH rk a b out na nb ∧ 1 ≤ na ∧ 2 ≤ nb ∧ na ≤ a.size ∧ nb ≤ b.size ∧ na + nb + i + 1 ≤ a.size + b.size) ?_ ?_ ⟨⟨gallopOf st, rfl⟩, a.size - 1, b.size, _, _, rfl, D.startH, by omega, by omega, by omega, by omega, by omega⟩) ?_)
  · rintro i c st' _ hin ⟨⟨g, rfl⟩, na, nb, out, mg, rfl, hJ, ga, gb, g1, g2, gi⟩
    try dsimp only
    refine wpS_bind (wpS_mono (wpS_forRange (a := 0) (Q := fun c st' => (∃ g, st' = setG st g) ∧ ((∃ r, c.1 = some r ∧ MgF rk a b r) ∨ ∃ na nb out ac bc, c = (none, na, nb, out, ac, bc) ∧ JH rk a b out na nb ∧ 1 ≤ na ∧ 2 ≤ nb ∧ na ≤ a.size ∧ nb ≤ b.size ∧ na + nb + i + 2 ≤ a.size + b.size))
      (I := fun j c st' => (∃ g, st' = setG st g) ∧ ∃ na nb out ac bc, c = (none, na, nb, out, ac, bc) ∧ JH rk a b out na nb ∧ 1 ≤ na ∧ 2 ≤ nb ∧ na ≤ a.size ∧ nb ≤ b.size ∧ na + nb + i + j + 1 ≤ a.size + b.size) ?_ ?_ ⟨⟨g, rfl⟩, na, nb, out, 0, 0, rfl, hJ, ga, gb, g1, g2, by omega⟩) ?_)
    · clear hJ ga gb g1 g2 gi
      rintro j c st' _ hjn ⟨⟨g, rfl⟩, na, nb, out, ac, bc, rfl, hJ, ga, gb, g1, g2, gi⟩
      try dsimp only
      refine wpS_bind (wpS_elem (by omega) (wpS_bind (wpS_elem (by omega) (wpS_bind (wpS_lt O (D.vb _ (by omega)) (D.va _ (by omega)) hκ (fun z => ?_) (fun z => ?_))))))
      · try dsimp only
        rw [if_pos rfl]
        refine wpS_bind (wpS_elem (by omega) ?_)
        have hJ2 := hJ.pushA D (by omega) g1 (fun j h1 h2 => by have := D.sb j (nb - 1) (Nat.zero_le _) (by omega) (by omega); omega)
        try dsimp only
        refine wpS_beq (fun h => wpS_pure ⟨⟨g, rfl⟩, .inl ⟨_, rfl, hJ2.done D (.inl h)⟩⟩) (fun h => ?_)
        refine wpS_ite (fun _ => wpS_pure ⟨⟨g, rfl⟩, .inr ⟨_, _, _, _, _, rfl, hJ2, by omega, gb, by omega, g2, by omega⟩⟩) (fun _ => wpS_pure ⟨⟨g, rfl⟩, _, _, _, _, _, rfl, hJ2, by omega, gb, by omega, g2, by omega⟩)
      · try dsimp only
        rw [if_neg Bool.false_ne_true]
        refine wpS_bind (wpS_elem (by omega) ?_)
        have hJ2 := hJ.pushB D (by omega) g2 (fun j h1 h2 => by have := D.sa j (na - 1) (Nat.zero_le _) (by omega) (by omega); omega)
        try dsimp only
        refine wpS_beq (fun h => wpS_pure ⟨⟨g, rfl⟩, .inl ⟨_, rfl, hJ2.first D h⟩⟩) (fun h => ?_)
        refine wpS_ite (fun _ => wpS_pure ⟨⟨g, rfl⟩, .inr ⟨_, _, _, _, _, rfl, hJ2, ga, by omega, g1, by omega, by omega⟩⟩) (fun _ => wpS_pure ⟨⟨g, rfl⟩, _, _, _, _, _, rfl, hJ2, ga, by omega, g1, by omega, by omega⟩)
    · rintro c st' ⟨hg, na, nb, out, ac, bc, rfl, hJ, ga, gb, g1, g2, gi⟩
      exact ⟨hg, .inr ⟨na, nb, out, ac, bc, rfl, hJ, ga, gb, g1, g2, by omega⟩⟩
    · clear hJ ga gb g1 g2 gi
      rintro c st' ⟨⟨g, rfl⟩, hc⟩
      rcases hc with ⟨r, hr, hm⟩ | ⟨na, nb, out, ac, bc, rfl, hJ, ga, gb, g1, g2, gi⟩
      · try dsimp only
        rw [hr]
        exact wpS_pure ⟨⟨g, rfl⟩, r, rfl, hm⟩
      · try dsimp only
        refine wpS_bind (wpS_rule ?_)
        try dsimp only
        refine wpS_bind (wpS_mono (wpS_forRange (a := 0) (Q := fun c st' => (∃ g, st' = setG st g) ∧ ((∃ r, c.1 = some r ∧ MgF rk a b r) ∨ ∃ na nb out mg ac bc, c = (none, na, nb, out, mg, ac, bc) ∧ JH rk a b out na nb ∧ 1 ≤ na ∧ 2 ≤ nb ∧ na ≤ a.size ∧ nb ≤ b.size ∧ na + nb + i + 2 ≤ a.size + b.size))
          (I := fun j c st' => (∃ g, st' = setG st g) ∧ ∃ na nb out mg ac bc, c = (none, na, nb, out, mg, ac, bc) ∧ JH rk a b out na nb ∧ 1 ≤ na ∧ 2 ≤ nb ∧ na ≤ a.size ∧ nb ≤ b.size ∧ na + nb + i + 2 ≤ a.size + b.size) ?_ ?_ ⟨⟨g, rfl⟩, na, nb, out, _, ac, bc, rfl, hJ, ga, gb, g1, g2, gi⟩) ?_)
        · clear hJ ga gb g1 g2 gi
          rintro j c st' _ _ ⟨⟨g, rfl⟩, na, nb, out, mg, ac, bc, rfl, hJ, ga, gb, g1, g2, gi⟩
          try dsimp only
          refine wpS_ite (fun _ => ?_) (fun _ => ?_)
          all_goals
            refine wpS_bind (wpS_setG ?_)
            refine wpS_bind (wpS_elem (by omega) ?_)
            refine wpS_bind (wpS_gallop O (left := false) (by omega) (by omega) (fun i hi => D.va _ (by omega)) (D.vb _ (by omega)) hκ (fun i j h1 h2 => D.sa _ _ (Nat.zero_le _) (by omega) (by omega)) (fun k k1 k2 k3 => ?_))
            have hk2 : ∀ x, x < k → rk (kAt a x) ≤ rk (kAt b (nb - 1)) := fun x hx => by
              have h6 := k2 x hx
              rw [Nat.zero_add] at h6
              unfold bnd at h6
              rw [if_neg Bool.false_ne_true] at h6
              omega
            have hJ1 : JH rk a b (out ++ (a.extract k na).reverse) k nb := hJ.moreA D k1 (fun x h1 h2 h3 y h4 h5 => by
              have h6 := k3 x (by omega) (by omega)
              rw [Nat.zero_add] at h6
              unfold bnd at h6
              rw [if_neg Bool.false_ne_true] at h6
              have := D.sb y (nb - 1) (Nat.zero_le _) (by omega) (by omega)
              omega)
            try dsimp only
            refine wpS_ite (fun hk0 => wpS_beq (fun h => wpS_pure ⟨⟨_, rfl⟩, .inl ⟨_, rfl, hJ1.done D (.inl h)⟩⟩) (fun h => ?_)) (fun hk0 => ?_)
          all_goals
            first
              | (have hk0' : na - k > 0 := hk0
                 have ga1 : 1 ≤ k := by omega
                 have g11 : k ≤ a.size := by omega
                 have gi1 : k + nb + i + 2 ≤ a.size + b.size := by omega
                 generalize out ++ (a.extract k na).reverse = o1 at hJ1 ⊢
                 generalize k = i1 at hJ1 hk2 gi1 ga1 g11 ⊢)
              | (have hk0' : k = na := by omega
                 clear hJ1
                 have hJ1 := hJ
                 rw [hk0'] at hk2
                 have ga1 := ga
                 have g11 := g1
                 have gi1 := gi
                 clear hJ ga g1 gi
                 generalize out = o1 at hJ1 ⊢
                 generalize na = i1 at hJ1 hk2 gi1 ga1 g11 ⊢)
            refine wpS_bind (wpS_elem (by omega) ?_)
            have hJ2 := hJ1.pushB D (by omega) g2 (fun j h1 h2 => hk2 j h1)
            try dsimp only
            refine wpS_beq (fun h => wpS_pure ⟨⟨_, rfl⟩, .inl ⟨_, rfl, hJ2.first D h⟩⟩) (fun h => ?_)
            refine wpS_bind (wpS_elem (by omega) ?_)
            refine wpS_bind (wpS_gallop O (left := true) (by omega) (by omega) (fun i hi => D.vb _ (by omega)) (D.va _ (by omega)) hκ (fun i j h1 h2 => D.sb _ _ (Nat.zero_le _) (by omega) (by omega)) (fun k' l1 l2 l3 => ?_))
            have hl2 : ∀ x, x < k' → rk (kAt b x) ≤ rk (kAt a (i1 - 1)) := fun x hx => by
              have h6 := l2 x hx
              rw [Nat.zero_add] at h6
              unfold bnd at h6
              rw [if_pos rfl] at h6
              omega
            have hJ3 : JH rk a b (o1.push (kAt b (nb - 1)) ++ (b.extract k' (nb - 1)).reverse) i1 k' := hJ2.moreB D l1 (fun x h1 h2 h3 y h4 h5 => by
              have h6 := l3 x (by omega) (by omega)
              rw [Nat.zero_add] at h6
              unfold bnd at h6
              rw [if_pos rfl] at h6
              have := D.sa y (i1 - 1) (Nat.zero_le _) (by omega) (by omega)
              omega)
            try dsimp only
            refine wpS_ite (fun hk1 => wpS_beq (fun h => wpS_pure ⟨⟨_, rfl⟩, .inl ⟨_, rfl, hJ3.first D h⟩⟩) (fun h => wpS_beq (fun h => wpS_pure ⟨⟨_, rfl⟩, .inl ⟨_, rfl, hJ3.done D (.inr h)⟩⟩) (fun h => ?_))) (fun hk1 => ?_)
          all_goals
            first
              | (have hk0' : nb - 1 - k' > 0 := hk1
                 have gb1 : 2 ≤ k' := by omega
                 have g21 : k' ≤ b.size := by omega
                 have gi2 : i1 + k' + i + 2 ≤ a.size + b.size := by omega
                 generalize o1.push (kAt b (nb - 1)) ++ (b.extract k' (nb - 1)).reverse = o2 at hJ3 ⊢
                 generalize k' = i2 at hJ3 hl2 gi2 gb1 g21 ⊢)
              | (have hk0' : k' = nb - 1 := by omega
                 clear hJ3
                 have hJ3 := hJ2
                 rw [hk0'] at hl2
                 have gb1 : 2 ≤ nb - 1 := by omega
                 have g21 : nb - 1 ≤ b.size := by omega
                 have gi2 : i1 + (nb - 1) + i + 2 ≤ a.size + b.size := by omega
                 clear hJ2
                 generalize o1.push (kAt b (nb - 1)) = o2 at hJ3 ⊢
                 generalize nb - 1 = i2 at hJ3 hl2 gi2 gb1 g21 ⊢)
            refine wpS_bind (wpS_elem (by omega) ?_)
            have hJ4 := hJ3.pushA D (by omega) g11 (fun j h1 h2 => hl2 j h1)
            try dsimp only
            refine wpS_beq (fun h => wpS_pure ⟨⟨_, rfl⟩, .inl ⟨_, rfl, hJ4.done D (.inl h)⟩⟩) (fun h => ?_)
            refine wpS_ite (fun _ => wpS_pure ⟨⟨_, rfl⟩, .inr ⟨_, _, _, _, _, _, rfl, hJ4, by omega, gb1, by omega, g21, by omega⟩⟩) (fun _ => wpS_pure ⟨⟨_, rfl⟩, _, _, _, _, _, _, rfl, hJ4, by omega, gb1, by omega, g21, by omega⟩)
        · rintro c st' ⟨hg, na, nb, out, mg, ac, bc, rfl, hJ, ga, gb, g1, g2, gi⟩
          exact ⟨hg, .inr ⟨na, nb, out, mg, ac, bc, rfl, hJ, ga, gb, g1, g2, gi⟩⟩
        · clear hJ ga gb g1 g2 gi
          rintro c st' ⟨⟨g, rfl⟩, hc⟩
          rcases hc with ⟨r, hr, hm⟩ | ⟨na, nb, out, mg, ac, bc, rfl, hJ, ga, gb, g1, g2, gi⟩
          · try dsimp only
            rw [hr]
            exact wpS_pure ⟨⟨g, rfl⟩, r, rfl, hm⟩
          · try dsimp only
            refine wpS_bind (wpS_setG ?_)
            exact wpS_pure ⟨⟨_, rfl⟩, na, nb, out, _, rfl, hJ, ga, gb, g1, g2, by omega⟩
  · rintro c st' ⟨hg, na, nb, out, mg, rfl, hJ, ga, gb, g1, g2, gi⟩
    exfalso
    omega
  · rintro c st' ⟨⟨g, rfl⟩, r, hr, hm⟩
    try dsimp only
    rw [hr]
    exact wpS_pure (q r g hm)
end
end L2z
namespace L2z
open PySem PyProof.Rows
def laid (xs : Array Keyed) (lo : Nat) (r : Array Keyed) : Array Keyed := r.toList.zipIdx.foldl (fun a p => a.setIfInBounds (lo + p.2) p.1) xs
theorem laid_go (lo : Nat) : ∀ (l : List Keyed) (k : Nat) (xs : Array Keyed), lo + k + l.length ≤ xs.size →
    ((l.zipIdx k).foldl (fun a p => a.setIfInBounds (lo + p.2) p.1) xs).toList = xs.toList.take (lo + k) ++ l ++ xs.toList.drop (lo + k + l.length)
  | [], k, xs, h => by simp
  | x :: l, k, xs, h => by
    rw [List.length_cons] at h
    rw [List.zipIdx_cons, List.foldl_cons]
    have hsz : lo + (k + 1) + l.length ≤ (xs.setIfInBounds (lo + k) x).size := by rw [Array.size_setIfInBounds]; omega
    have ih := laid_go lo l (k + 1) (xs.setIfInBounds (lo + k) x) hsz
    show ((l.zipIdx (k + 1)).foldl _ (xs.setIfInBounds (lo + k) x)).toList = _
    rw [ih, Array.toList_setIfInBounds]
    have hl : lo + k < xs.toList.length := by simp; omega
    have e1 : (xs.toList.set (lo + k) x).take (lo + (k + 1)) = xs.toList.take (lo + k) ++ [x] := by
      rw [show lo + (k + 1) = lo + k + 1 by omega, List.take_add_one, List.take_set_of_le (Nat.le_refl _), List.getElem?_set_self hl]
      rfl
    have e2 : (xs.toList.set (lo + k) x).drop (lo + (k + 1) + l.length) = xs.toList.drop (lo + k + (x :: l).length) := by
      rw [List.drop_set_of_lt (by omega), List.length_cons, show lo + (k + 1) + l.length = lo + k + (l.length + 1) by omega]
    rw [e1, e2]
    simp
theorem laid_list {xs r : Array Keyed} {lo : Nat} (h : lo + r.size ≤ xs.size) : (laid xs lo r).toList = xs.toList.take lo ++ r.toList ++ xs.toList.drop (lo + r.size) := by
  have := laid_go lo r.toList 0 xs (by simpa using h)
  rw [Nat.add_zero, Array.length_toList] at this
  exact this
theorem laid_size {xs r : Array Keyed} {lo : Nat} (h : lo + r.size ≤ xs.size) : (laid xs lo r).size = xs.size := by
  have := congrArg List.length (laid_list h)
  rw [Array.length_toList] at this
  rw [this]
  simp
  omega
theorem kAt_of {xs : Array Keyed} {i : Nat} {v : Keyed} (h : xs.toList[i]? = some v) : kAt xs i = v := by
  have hl : i < xs.size := by simpa using (List.getElem?_eq_some_iff.mp h).1
  rw [get_list hl] at h
  exact Option.some.inj h
theorem laid_at {xs r : Array Keyed} {lo : Nat} (h : lo + r.size ≤ xs.size) {j : Nat} (hj : j < xs.size) : kAt (laid xs lo r) j = if lo ≤ j ∧ j < lo + r.size then kAt r (j - lo) else kAt xs j := by
  refine kAt_of ?_
  rw [laid_list h]
  have l1 : (xs.toList.take lo).length = lo := by simp; omega
  have l2 : (xs.toList.take lo ++ r.toList).length = lo + r.size := by simp; omega
  by_cases c1 : j < lo
  · rw [if_neg (by omega), List.append_assoc, List.getElem?_append_left (by omega), List.getElem?_take_of_lt c1, get_list hj]
  · by_cases c2 : j < lo + r.size
    · rw [if_pos ⟨by omega, c2⟩, List.getElem?_append_left (by omega), List.getElem?_append_right (by omega), l1, get_list (by omega)]
    · rw [if_neg (by omega), List.getElem?_append_right (by omega), l2, List.getElem?_drop, show lo + r.size + (j - (lo + r.size)) = j by omega, get_list hj]
theorem laid_perm {xs r : Array Keyed} {lo n : Nat} (h : lo + n ≤ xs.size) (hp : r.toList.Perm ((xs.toList.drop lo).take n)) : r.size = n ∧ (laid xs lo r).toList.Perm xs.toList := by
  have hn : r.size = n := by
    have := hp.length_eq
    rw [Array.length_toList, List.length_take, List.length_drop, Array.length_toList] at this
    omega
  refine ⟨hn, ?_⟩
  rw [laid_list (by omega), hn]
  have e : xs.toList = xs.toList.take lo ++ (xs.toList.drop lo).take n ++ xs.toList.drop (lo + n) := by
    rw [← List.drop_drop, List.append_assoc, List.take_append_drop, List.take_append_drop]
  conv => rhs; rw [e]
  exact List.Perm.append_right _ (List.Perm.append_left _ hp)
section
variable {rk : Keyed → Int}
theorem region {xs ys : Array Keyed} {lo m1 m2 hi : Nat} (h1 : ∀ j, j < m1 ∨ m2 ≤ j → j < hi → kAt ys j = kAt xs j) (h2 : ∀ j, m1 ≤ j → j < m2 → ∃ p, m1 ≤ p ∧ p < m2 ∧ kAt ys j = kAt xs p) (h3 : AscI rk ys m1 m2)
    (a1 : AscI rk xs lo m1) (a2 : AscI rk xs m2 hi) (c1 : ∀ i p, lo ≤ i → i < m1 → m1 ≤ p → p < m2 → rk (kAt xs i) ≤ rk (kAt xs p)) (c2 : ∀ p j, m1 ≤ p → p < m2 → m2 ≤ j → j < hi → rk (kAt xs p) ≤ rk (kAt xs j))
    (c3 : ∀ i j, lo ≤ i → i < m1 → m2 ≤ j → j < hi → rk (kAt xs i) ≤ rk (kAt xs j)) : AscI rk ys lo hi := by
  intro i j g1 g2 g3
  by_cases i1 : i < m1
  · rw [h1 i (.inl i1) (by omega)]
    by_cases j1 : j < m1
    · rw [h1 j (.inl j1) g3]; exact a1 i j g1 g2 j1
    · by_cases j2 : j < m2
      · obtain ⟨p, p1, p2, e⟩ := h2 j (by omega) j2
        rw [e]; exact c1 i p g1 i1 p1 p2
      · rw [h1 j (.inr (by omega)) g3]; exact c3 i j g1 i1 (by omega) g3
  · by_cases i2 : i < m2
    · by_cases j2 : j < m2
      · exact h3 i j (by omega) g2 j2
      · obtain ⟨p, p1, p2, e⟩ := h2 i (by omega) i2
        rw [e, h1 j (.inr (by omega)) g3]; exact c2 p j p1 p2 (by omega) g3
    · rw [h1 i (.inr (by omega)) (by omega), h1 j (.inr (by omega)) g3]
      exact a2 i j (by omega) g2 g3
theorem ext_size {xs : Array Keyed} {i j : Nat} (h : j ≤ xs.size) : (xs.extract i j).size = j - i := by
  rw [Array.size_extract]
  omega
theorem ext_at {xs : Array Keyed} {i j k : Nat} (h : j ≤ xs.size) (hk : k < j - i) : kAt (xs.extract i j) k = kAt xs (i + k) := by
  refine kAt_of ?_
  rw [ext_list, List.getElem?_take_of_lt hk, List.getElem?_drop, get_list (by omega)]
end
section
variable {prog : Program} {w : World} {A : Around} {E : Value → Shared → Prop} {s : Shared} {κ : SortKind} {Vd : Keyed → Prop} {rk : Keyed → Int}
theorem wpS_set {st st' : SortSt} {Q : PUnit → SortSt → Prop} (h : Q ⟨⟩ st') : wpS (model prog w) A E s (set st' : StateT SortSt Sem PUnit) Q st := by
  unfold wpS
  rw [StateT.run_set]
  exact wpAny_pure ⟨rfl, h⟩
theorem wpS_mergeAt (O : Ord prog w A E s κ Vd rk) {xs : Array Keyed} {pend : Array (Nat × Nat × Nat)} {g i sa na pw sb nb pw2 : Nat} {Q : Bool → SortSt → Prop} (hp1 : pend[i]? = some (sa, na, pw)) (hp2 : pend[i + 1]? = some (sb, nb, pw2)) (hsb : sb = sa + na) (hna : 1 ≤ na) (hnb : 1 ≤ nb) (hsz : sb + nb ≤ xs.size)
    (hV : ∀ j, j < xs.size → Vd (kAt xs j)) (h1 : AscI rk xs sa sb) (h2 : AscI rk xs sb (sb + nb))
    (q : ∀ ys g', ys.size = xs.size → ys.toList.Perm xs.toList → AscI rk ys sa (sb + nb) → (∀ j, j < sa ∨ sb + nb ≤ j → j < xs.size → kAt ys j = kAt xs j) → Q true (SortSt.mk' κ ys ((pend.setIfInBounds i (sa, na + nb, pw)).eraseIdxIfInBounds (i + 1)) g' none)) :
    wpS (model prog w) A E s (mergeAt' i) Q (SortSt.mk' κ xs pend g none) := by
  refine wpS_bind (wpS_get ?_)
  dsimp only
  rw [hp1, hp2]
  dsimp only
  refine wpS_bind (wpS_set ?_)
  refine wpS_bind (wpS_elem (by omega) ?_)
  refine wpS_bind (wpS_gallop O (left := false) (by omega) (by omega) (fun i hi => hV _ (by omega)) (hV _ (by omega)) rfl (fun i j g1 g2 => h1 _ _ (by omega) (by omega) (by omega)) (fun k k1 k2 k3 => ?_))
  have hk2 : ∀ x, sa ≤ x → x < sa + k → rk (kAt xs x) ≤ rk (kAt xs sb) := fun x hx1 hx2 => by
    have h6 := k2 (x - sa) (by omega)
    rw [show sa + (x - sa) = x by omega] at h6
    unfold bnd at h6
    rw [if_neg Bool.false_ne_true] at h6
    omega
  have hk3 : ∀ x, sa + k ≤ x → x < sb → rk (kAt xs sb) < rk (kAt xs x) := fun x hx1 hx2 => by
    have h6 := k3 (x - sa) (by omega) (by omega)
    rw [show sa + (x - sa) = x by omega] at h6
    unfold bnd at h6
    rw [if_neg Bool.false_ne_true] at h6
    omega
  clear k2 k3
  dsimp only
  refine wpS_beq (fun h => wpS_pure (q xs g rfl (List.Perm.refl _) ?_ (fun _ _ _ => rfl))) (fun hnk => ?_)
  · intro x y g1 g2 g3
    by_cases y1 : y < sb
    · exact h1 x y g1 g2 y1
    · by_cases x1 : x < sb
      · have := hk2 x g1 (by omega)
        have := h2 sb y (Nat.le_refl _) (by omega) g3
        omega
      · exact h2 x y (by omega) g2 g3
  refine wpS_bind (wpS_elem (by omega) ?_)
  rw [show sa + k + (na - k) - 1 = sb - 1 by omega]
  refine wpS_bind (wpS_gallop O (left := true) (by omega) (by omega) (fun i hi => hV _ (by omega)) (hV _ (by omega)) rfl (fun i j g1 g2 => h2 _ _ (by omega) (by omega) (by omega)) (fun nb' l1 l2 l3 => ?_))
  have hl2 : ∀ x, sb ≤ x → x < sb + nb' → rk (kAt xs x) < rk (kAt xs (sb - 1)) := fun x hx1 hx2 => by
    have h6 := l2 (x - sb) (by omega)
    rw [show sb + (x - sb) = x by omega] at h6
    unfold bnd at h6
    rw [if_pos rfl] at h6
    exact h6
  have hl3 : ∀ x, sb + nb' ≤ x → x < sb + nb → rk (kAt xs (sb - 1)) ≤ rk (kAt xs x) := fun x hx1 hx2 => by
    have h6 := l3 (x - sb) (by omega) (by omega)
    rw [show sb + (x - sb) = x by omega] at h6
    unfold bnd at h6
    rw [if_pos rfl] at h6
    exact h6
  clear l2 l3
  dsimp only
  refine wpS_beq (fun h => wpS_pure (q xs g rfl (List.Perm.refl _) ?_ (fun _ _ _ => rfl))) (fun hnb0 => ?_)
  · intro x y g1 g2 g3
    by_cases y1 : y < sb
    · exact h1 x y g1 g2 y1
    · by_cases x1 : x < sb
      · have := hl3 y (by omega) g3
        have := h1 x (sb - 1) g1 (by omega) (by omega)
        omega
      · exact h2 x y (by omega) g2 g3
  have zx : (xs.extract (sa + k) sb).size = na - k := by rw [ext_size (by omega)]; omega
  have zy : (xs.extract sb (sb + nb')).size = nb' := by rw [ext_size (by omega)]; omega
  have ax : ∀ j, j < na - k → kAt (xs.extract (sa + k) sb) j = kAt xs (sa + k + j) := fun j hj => ext_at (by omega) (by omega)
  have ay : ∀ j, j < nb' → kAt (xs.extract sb (sb + nb')) j = kAt xs (sb + j) := fun j hj => ext_at (by omega) (by omega)
  have D : Two rk Vd (xs.extract (sa + k) sb) (xs.extract sb (sb + nb')) := by
    refine ⟨fun i j _ g2 g3 => ?_, fun i j _ g2 g3 => ?_, fun i hi => ?_, fun i hi => ?_, by omega, by omega, ?_, fun j hj => ?_⟩
    · rw [ax i (by omega), ax j (by omega)]; exact h1 _ _ (by omega) (by omega) (by omega)
    · rw [ay i (by omega), ay j (by omega)]; exact h2 _ _ (by omega) (by omega) (by omega)
    · rw [ax i (by omega)]; exact hV _ (by omega)
    · rw [ay i (by omega)]; exact hV _ (by omega)
    · rw [ax 0 (by omega), ay 0 (by omega)]; exact hk3 _ (by omega) (by omega)
    · rw [ay j (by omega), zx, ax (na - k - 1) (by omega), show sa + k + (na - k - 1) = sb - 1 by omega]
      exact hl2 _ (by omega) (by omega)
  have et : (xs.extract (sa + k) sb).toList ++ (xs.extract sb (sb + nb')).toList = (xs.toList.drop (sa + k)).take (na - k + nb') := by
    rw [ext_list, ext_list, List.take_add, List.drop_drop, show sa + k + (na - k) = sb by omega, show sb - (sa + k) = na - k by omega, show sb + nb' - sb = nb' by omega]
  have fin : ∀ r g', MgF rk (xs.extract (sa + k) sb) (xs.extract sb (sb + nb')) r → Q true (SortSt.mk' κ (laid xs (sa + k) r) ((pend.setIfInBounds i (sa, na + nb, pw)).eraseIdxIfInBounds (i + 1)) g' none) := by
    rintro r g' ⟨hp, ha⟩
    have hp' := hp
    rw [et] at hp'
    obtain ⟨hn, hperm⟩ := laid_perm (by omega) hp'
    have hle : sa + k + r.size ≤ xs.size := by omega
    have far : ∀ j, j < sa + k ∨ sb + nb' ≤ j → j < xs.size → kAt (laid xs (sa + k) r) j = kAt xs j := fun j hj hx => by
      rw [laid_at hle hx, if_neg (by omega)]
    refine q _ g' (laid_size hle) hperm ?_ (fun j hj hx => far j (by omega) hx)
    refine region (xs := xs) (m1 := sa + k) (m2 := sb + nb') (fun j hj hx => far j hj (by omega)) (fun j j1 j2 => ?_) (fun x y g1 g2 g3 => ?_) (fun x y g1 g2 g3 => h1 x y g1 g2 (by omega)) (fun x y g1 g2 g3 => h2 x y (by omega) g2 g3) (fun x p g1 g2 g3 g4 => ?_) (fun p y g1 g2 g3 g4 => ?_) (fun x y g1 g2 g3 g4 => ?_)
    · rw [laid_at hle (by omega), if_pos ⟨j1, by omega⟩]
      have hm : kAt r (j - (sa + k)) ∈ r.toList := List.mem_of_getElem? (get_list (by omega))
      rcases List.mem_append.mp (hp.mem_iff.mp hm) with z | z
      · obtain ⟨p, p1, p2, p3, e⟩ := mem_ext2 z
        exact ⟨p, p1, by omega, e⟩
      · obtain ⟨p, p1, p2, p3, e⟩ := mem_ext2 z
        exact ⟨p, by omega, p2, e⟩
    · rw [laid_at hle (by omega), laid_at hle (by omega), if_pos ⟨g1, by omega⟩, if_pos ⟨by omega, by omega⟩]
      exact of_asc ha _ _ (Nat.zero_le _) (by omega) (by omega)
    · by_cases p1 : p < sb
      · exact h1 x p g1 (by omega) p1
      · have := hk2 x g1 g2
        have := h2 sb p (Nat.le_refl _) (by omega) (by omega)
        omega
    · by_cases p1 : p < sb
      · have := hl3 y g3 g4
        have := h1 p (sb - 1) (by omega) (by omega) (by omega)
        omega
      · exact h2 p y (by omega) (by omega) g4
    · have := hk2 x g1 g2
      have := h2 sb y (Nat.le_refl _) (by omega) g4
      omega
  refine wpS_ite (fun _ => ?_) (fun _ => ?_)
  · refine wpS_bind (wpS_mergeLo O D rfl (fun r g' hr => ?_))
    exact wpS_bind (wpS_modify (wpS_bind (wpS_get (wpS_pure (fin r g' hr)))))
  · refine wpS_bind (wpS_mergeHi O D rfl (fun r g' hr => ?_))
    exact wpS_bind (wpS_modify (wpS_bind (wpS_get (wpS_pure (fin r g' hr)))))
end
end L2z
namespace L2z
open PySem PyProof.Rows
structure Chg (lo hi : Nat) (xs ys : Array Keyed) : Prop where
  size : ys.size = xs.size
  perm : ys.toList.Perm xs.toList
  far : ∀ j, j < lo ∨ hi ≤ j → j < xs.size → kAt ys j = kAt xs j
theorem Chg.refl (lo hi : Nat) (xs : Array Keyed) : Chg lo hi xs xs := ⟨rfl, List.Perm.refl _, fun _ _ _ => rfl⟩
theorem Chg.trans {lo hi : Nat} {xs ys zs : Array Keyed} (a : Chg lo hi xs ys) (b : Chg lo hi ys zs) : Chg lo hi xs zs := ⟨b.size.trans a.size, b.perm.trans a.perm, fun j h hx => (b.far j h (by rw [a.size]; exact hx)).trans (a.far j h hx)⟩
theorem Chg.mono {lo hi lo' hi' : Nat} {xs ys : Array Keyed} (a : Chg lo hi xs ys) (h1 : lo' ≤ lo) (h2 : hi ≤ hi') : Chg lo' hi' xs ys := ⟨a.size, a.perm, fun j h hx => a.far j (by omega) hx⟩
theorem Chg.vd {Vd : Keyed → Prop} {lo hi : Nat} {xs ys : Array Keyed} (a : Chg lo hi xs ys) (h : ∀ j, j < xs.size → Vd (kAt xs j)) : ∀ j, j < ys.size → Vd (kAt ys j) := fun j hj => by
  have hm : kAt ys j ∈ ys.toList := List.mem_of_getElem? (get_list hj)
  obtain ⟨i, hi⟩ := List.getElem?_of_mem (a.perm.mem_iff.mp hm)
  have hl : i < xs.size := by simpa using (List.getElem?_eq_some_iff.mp hi).1
  rw [get_list hl] at hi
  rw [← Option.some.inj hi]
  exact h i hl
theorem mirror_at {xs : Array Keyed} {i j : Nat} (hj : j ≤ xs.size) {k : Nat} (hk : k < xs.size) : kAt (mirror xs i j ((j - i) / 2)) k = if i ≤ k ∧ k < j then kAt xs (i + j - 1 - k) else kAt xs k := by
  refine kAt_of ?_
  rw [Array.getElem?_toList, getElem?_mirror_all hj]
  by_cases c : i ≤ k ∧ k < j
  · rw [if_pos c, if_pos c]; exact kAt_get (by omega)
  · rw [if_neg c, if_neg c]; exact kAt_get hk
theorem mirror_chg {xs : Array Keyed} {i j : Nat} (hj : j ≤ xs.size) : Chg i j xs (mirror xs i j ((j - i) / 2)) :=
  ⟨mirror_size _ _ _ _, Array.perm_iff_toList_perm.mp (mirror_perm _ _ _ _), fun k h hk => by rw [mirror_at hj hk, if_neg (by omega)]⟩
theorem bubble_at {xs : Array Keyed} {src d : Nat} (hs : src < xs.size) (hd : d ≤ src) {k : Nat} (hk : k < xs.size) : kAt (bubble xs src d) k = if k = src - d then kAt xs src else if src - d < k ∧ k ≤ src then kAt xs (k - 1) else kAt xs k := by
  refine kAt_of ?_
  rw [Array.getElem?_toList, getElem?_bubble hs d hd]
  by_cases c : k = src - d
  · rw [if_pos c, if_pos c]; exact kAt_get hs
  · rw [if_neg c, if_neg c]
    by_cases c2 : src - d < k ∧ k ≤ src
    · rw [if_pos c2, if_pos c2]; exact kAt_get (by omega)
    · rw [if_neg c2, if_neg c2]; exact kAt_get hk
theorem bubble_chg {xs : Array Keyed} {src d : Nat} (hs : src < xs.size) (hd : d ≤ src) : Chg (src - d) (src + 1) xs (bubble xs src d) :=
  ⟨bubble_size _ _ _, Array.perm_iff_toList_perm.mp (bubble_perm _ _ _), fun k h hk => by rw [bubble_at hs hd hk, if_neg (by omega), if_neg (by omega)]⟩
section
variable {prog : Program} {w : World} {A : Around} {E : Value → Shared → Prop} {s : Shared} {κ : SortKind} {Vd : Keyed → Prop} {rk : Keyed → Int} {pend : Array (Nat × Nat × Nat)} {g : Nat}
theorem wpS_ltA (O : Ord prog w A E s κ Vd rk) {xs : Array Keyed} {i j : Nat} {Q : Option Bool → SortSt → Prop} (hi : i < xs.size) (hj : j < xs.size) (hV : ∀ j, j < xs.size → Vd (kAt xs j)) (h1 : rk (kAt xs i) < rk (kAt xs j) → Q (some true) (SortSt.mk' κ xs pend g none)) (h2 : rk (kAt xs j) ≤ rk (kAt xs i) → Q (some false) (SortSt.mk' κ xs pend g none)) :
    wpS (model prog w) A E s (ltAt' i j) Q (SortSt.mk' κ xs pend g none) := by
  rw [ltAt'_eq]
  refine wpS_bind (wpS_get ?_)
  exact wpS_bind (wpS_elem hi (wpS_bind (wpS_elem hj (wpS_lt O (hV i hi) (hV j hj) rfl h1 h2))))
theorem wpS_rev {xs : Array Keyed} {i j : Nat} {Q : Unit → SortSt → Prop} (h : Q () (SortSt.mk' κ (mirror xs i j ((j - i) / 2)) pend g none)) : wpS (model prog w) A E s (reverseSlice' i j) Q (SortSt.mk' κ xs pend g none) := wpS_modify h
theorem wpS_mv {xs : Array Keyed} {i j : Nat} {Q : Unit → SortSt → Prop} (h : Q () (SortSt.mk' κ (bubble xs i (i - j)) pend g none)) : wpS (model prog w) A E s (moveDown' i j) Q (SortSt.mk' κ xs pend g none) := wpS_modify h
theorem asc_loop {xs : Array Keyed} {lo nrem start : Nat} {st : SortSt} {body : Nat → Option (Option Nat) × Nat → StateT SortSt Sem (ForInStep (Option (Option Nat) × Nat))} {Q : Option (Option Nat) × Nat → SortSt → Prop}
    (hstep : ∀ x n P, 1 ≤ n → n < nrem → (rk (kAt xs (lo + n)) < rk (kAt xs (lo + n - 1)) → P (.done (none, n)) st) → (rk (kAt xs (lo + n - 1)) ≤ rk (kAt xs (lo + n)) → P (.yield (none, n + 1)) st) → wpS (model prog w) A E s (body x (none, n)) P st)
    (h1 : 1 ≤ start) (hs : start ≤ nrem) (ha : AscI rk xs lo (lo + start)) (q : ∀ n, start ≤ n → n ≤ nrem → AscI rk xs lo (lo + n) → (n < nrem → rk (kAt xs (lo + n)) < rk (kAt xs (lo + n - 1))) → Q (none, n) st) :
    wpS (model prog w) A E s (forIn [start:nrem] ((none, start) : Option (Option Nat) × Nat) body) Q st := by
  refine wpS_forRange (I := fun i c st' => st' = st ∧ c = (none, i) ∧ start ≤ i ∧ i ≤ nrem ∧ AscI rk xs lo (lo + i)) ?_ ?_ ⟨rfl, rfl, Nat.le_refl _, hs, ha⟩
  · rintro i c st' _ hin ⟨hst, rfl, g1, g2, g3⟩
    subst hst
    refine hstep i i _ (by omega) hin (fun z => q i g1 g2 g3 (fun _ => z)) (fun z => ⟨rfl, rfl, by omega, by omega, fun x y a1 a2 a3 => ?_⟩)
    by_cases y1 : y < lo + i
    · exact g3 x y a1 a2 y1
    · by_cases x1 : x = y
      · rw [x1]; exact Int.le_refl _
      · have e : y = lo + i := by omega
        have := g3 x (lo + i - 1) a1 (by omega) (by omega)
        rw [e]
        omega
  · rintro c st' ⟨hst, rfl, g1, g2, g3⟩
    subst hst
    refine q _ g1 g2 g3 (fun h => by omega)
def DescI (rk : Keyed → Int) (xs : Array Keyed) (lo hi : Nat) : Prop := ∀ i j, lo ≤ i → i ≤ j → j < hi → rk (kAt xs j) ≤ rk (kAt xs i)
theorem DescI.more {xs : Array Keyed} {lo hi : Nat} (h : DescI rk xs lo hi) (h1 : lo < hi) (h2 : rk (kAt xs hi) ≤ rk (kAt xs (hi - 1))) : DescI rk xs lo (hi + 1) := by
  intro x y a1 a2 a3
  by_cases y1 : y < hi
  · exact h x y a1 a2 y1
  · by_cases x1 : x = y
    · rw [x1]; exact Int.le_refl _
    · have e : y = hi := by omega
      have := h x (hi - 1) a1 (by omega) (by omega)
      rw [e]
      omega
theorem DescI.rev {xs : Array Keyed} {lo hi : Nat} (h : DescI rk xs lo hi) (hh : hi ≤ xs.size) : AscI rk (mirror xs lo hi ((hi - lo) / 2)) lo hi := by
  intro x y a1 a2 a3
  rw [mirror_at hh (by omega), mirror_at hh (by omega), if_pos ⟨a1, by omega⟩, if_pos ⟨by omega, a3⟩]
  exact h _ _ (by omega) (by omega) (by omega)
theorem same_rank {xs : Array Keyed} {i j : Nat} (hj : j ≤ xs.size) (he : ∀ x y, i ≤ x → x < j → i ≤ y → y < j → rk (kAt xs x) = rk (kAt xs y)) : ∀ k, k < xs.size → rk (kAt (mirror xs i j ((j - i) / 2)) k) = rk (kAt xs k) := by
  intro k hk
  rw [mirror_at hj hk]
  by_cases c : i ≤ k ∧ k < j
  · rw [if_pos c]; exact he _ _ (by omega) (by omega) c.1 c.2
  · rw [if_neg c]
end
end L2z
namespace L2z
open PySem PyProof.Rows
section
variable {prog : Program} {w : World} {A : Around} {E : Value → Shared → Prop} {s : Shared} {κ : SortKind} {Vd : Keyed → Prop} {rk : Keyed → Int} {pend : Array (Nat × Nat × Nat)} {g : Nat}
theorem wpS_run (O : Ord prog w A E s κ Vd rk) {xs : Array Keyed} {lo nrem : Nat} {Q : Option Nat → SortSt → Prop} (h1 : 1 ≤ nrem) (hz : lo + nrem ≤ xs.size) (hV : ∀ j, j < xs.size → Vd (kAt xs j))
    (q : ∀ n ys, 1 ≤ n → n ≤ nrem → Chg lo (lo + nrem) xs ys → AscI rk ys lo (lo + n) → Q (some n) (SortSt.mk' κ ys pend g none)) :
    wpS (model prog w) A E s (countRun' lo nrem) Q (SortSt.mk' κ xs pend g none) := by
  refine wpS_bind (asc_loop (xs := xs) (lo := lo) (start := 1) (rk := rk) ?_ (Nat.le_refl _) h1 ?_ ?_)
  · intro x n P g1 g2 p1 p2
    dsimp only
    refine wpS_bind (wpS_ltA O (by omega) (by omega) hV (fun z => ?_) (fun z => ?_))
    · exact wpS_pure (p1 z)
    · exact wpS_pure (p2 z)
  · intro i j a1 a2 a3
    have e : i = j := by omega
    rw [e]; exact Int.le_refl _
  · intro n n1 n2 hA hb
    dsimp only
    refine wpS_beq (fun h => wpS_pure (q n xs n1 n2 (.refl _ _ _) hA)) (fun hn => ?_)
    have hb := hb (by omega)
    have hlow : DescI rk xs lo (lo + n) → DescI rk xs lo (lo + n + 1) := fun h => h.more (by omega) (Int.le_of_lt hb)
    refine wpS_ite (fun n3 => wpS_bind (wpS_ltA O (by omega) (by omega) hV (fun z => wpS_pure (q n xs n1 n2 (.refl _ _ _) hA)) (fun z => wpS_bind (wpS_rev ?_)))) (fun n3 => ?_)
    all_goals
      first
        | (have he : ∀ x y, lo ≤ x → x < lo + n → lo ≤ y → y < lo + n → rk (kAt xs x) = rk (kAt xs y) := fun x y x1 x2 y1 y2 => by
             have a1 := hA lo x (Nat.le_refl _) x1 x2
             have a2 := hA x (lo + n - 1) x1 (by omega) (by omega)
             have b1 := hA lo y (Nat.le_refl _) y1 y2
             have b2 := hA y (lo + n - 1) y1 (by omega) (by omega)
             omega
           have hr := same_rank (rk := rk) (xs := xs) (i := lo) (j := lo + n) (by omega) he
           have hc : Chg lo (lo + nrem) xs (mirror xs lo (lo + n) ((lo + n - lo) / 2)) := (mirror_chg (by omega)).mono (Nat.le_refl _) (by omega)
           have hD : DescI rk (mirror xs lo (lo + n) ((lo + n - lo) / 2)) lo (lo + n + 1) := fun x y a1 a2 a3 => by
             rw [hr x (by omega), hr y (by omega)]
             exact hlow (fun x y a1 a2 a3 => by rw [he x y a1 (by omega) (by omega) a3]; exact Int.le_refl _) x y a1 a2 a3
           have hn3 : n > 1 := n3
           clear he hr
           generalize mirror xs lo (lo + n) ((lo + n - lo) / 2) = ys at hc hD ⊢)
        | (have hyy : ∃ ys, ys = xs ∧ Chg lo (lo + nrem) xs ys ∧ DescI rk ys lo (lo + n + 1) := ⟨xs, rfl, .refl _ _ _, hlow (fun x y a1 a2 a3 => by
             have e : x = y := by omega
             rw [e]; exact Int.le_refl _)⟩
           obtain ⟨ys, ey, hc, hD⟩ := hyy
           rw [← ey]
           clear ey)
      refine wpS_bind (wpS_rule ?_)
      refine wpS_bind (wpS_mono (wpS_forRange (Q := fun c st' => ∃ zs m neq, c = (none, m, neq) ∧ st' = SortSt.mk' κ zs pend g none ∧ Chg lo (lo + nrem) xs zs ∧ DescI rk zs lo (lo + m) ∧ 1 ≤ m ∧ m ≤ nrem ∧ neq < m ∧ ∀ x y, lo + m - (neq + 1) ≤ x → x < lo + m → lo + m - (neq + 1) ≤ y → y < lo + m → rk (kAt zs x) = rk (kAt zs y))
        (I := fun i c st' => ∃ zs neq, c = (none, i, neq) ∧ st' = SortSt.mk' κ zs pend g none ∧ Chg lo (lo + nrem) xs zs ∧ DescI rk zs lo (lo + i) ∧ 1 ≤ i ∧ i ≤ nrem ∧ neq < i ∧ ∀ x y, lo + i - (neq + 1) ≤ x → x < lo + i → lo + i - (neq + 1) ≤ y → y < lo + i → rk (kAt zs x) = rk (kAt zs y)) ?_ ?_
        ⟨ys, 0, rfl, rfl, hc, hD, by omega, by omega, by omega, fun x y a1 a2 a3 a4 => by rw [show x = y by omega]⟩) ?_)
      · clear hc hD
        rintro i c st' _ hin ⟨zs, neq, rfl, rfl, hc, hD, g1, g2, g3, g4⟩
        have hsz := hc.size
        have hVz := hc.vd hV
        dsimp only
        refine wpS_bind (wpS_ltA O (by omega) (by omega) hVz (fun z => ?_) (fun z => ?_))
        · dsimp only
          rw [if_pos rfl]
          refine wpS_ite (fun hq => wpS_bind (wpS_rev (wpS_pure ?_))) (fun hq => wpS_pure ⟨zs, 0, rfl, rfl, hc, hD.more (by omega) (Int.le_of_lt z), by omega, by omega, by omega, fun x y a1 a2 a3 a4 => by rw [show x = y by omega]⟩)
          have hr := same_rank (rk := rk) (xs := zs) (i := lo + i - (neq + 1)) (j := lo + i) (by omega) g4
          have hc2 : Chg lo (lo + nrem) xs (mirror zs (lo + i - (neq + 1)) (lo + i) ((lo + i - (lo + i - (neq + 1))) / 2)) := hc.trans ((mirror_chg (by omega)).mono (by omega) (by omega))
          refine ⟨_, 0, rfl, rfl, hc2, ?_, by omega, by omega, by omega, fun x y a1 a2 a3 a4 => by rw [show x = y by omega]⟩
          intro x y a1 a2 a3
          rw [hr x (by omega), hr y (by omega)]
          exact hD.more (by omega) (Int.le_of_lt z) x y a1 a2 a3
        · dsimp only
          rw [if_neg Bool.false_ne_true]
          refine wpS_bind (wpS_ltA O (by omega) (by omega) hVz (fun z2 => ?_) (fun z2 => ?_))
          · exact wpS_pure ⟨zs, i, neq, rfl, rfl, hc, hD, g1, g2, g3, g4⟩
          · have ee : rk (kAt zs (lo + i)) = rk (kAt zs (lo + i - 1)) := by omega
            refine wpS_pure ⟨zs, neq + 1, rfl, rfl, hc, hD.more (by omega) (by omega), by omega, by omega, by omega, fun x y a1 a2 a3 a4 => ?_⟩
            have key : ∀ x, lo + (i + 1) - (neq + 1 + 1) ≤ x → x < lo + (i + 1) → rk (kAt zs x) = rk (kAt zs (lo + i - 1)) := fun x b1 b2 => by
              by_cases x1 : x = lo + i
              · rw [x1, ee]
              · exact g4 x (lo + i - 1) (by omega) (by omega) (by omega) (by omega)
            rw [key x a1 a2, key y a3 a4]
      · rintro c st' ⟨zs, neq, rfl, rfl, r⟩
        exact ⟨zs, _, neq, rfl, rfl, r⟩
      · clear hc hD
        rintro c st' ⟨zs, m, neq, rfl, rfl, hc, hD, g1, g2, g3, g4⟩
        have hsz := hc.size
        dsimp only
        refine wpS_ite (fun hq => wpS_bind (wpS_rev ?_)) (fun hq => ?_)
        all_goals
          first
            | (have hq' : neq > 0 := hq
               have hr := same_rank (rk := rk) (xs := zs) (i := lo + m - (neq + 1)) (j := lo + m) (by omega) g4
               have hc2 : Chg lo (lo + nrem) xs (mirror zs (lo + m - (neq + 1)) (lo + m) ((lo + m - (lo + m - (neq + 1))) / 2)) := hc.trans ((mirror_chg (by omega)).mono (by omega) (by omega))
               have hD2 : DescI rk (mirror zs (lo + m - (neq + 1)) (lo + m) ((lo + m - (lo + m - (neq + 1))) / 2)) lo (lo + m) := fun x y a1 a2 a3 => by
                 rw [hr x (by omega), hr y (by omega)]
                 exact hD x y a1 a2 a3
               clear hr
               generalize mirror zs (lo + m - (neq + 1)) (lo + m) ((lo + m - (lo + m - (neq + 1))) / 2) = us at hc2 hD2 ⊢)
            | (have hyy : ∃ us, us = zs ∧ Chg lo (lo + nrem) xs us ∧ DescI rk us lo (lo + m) := ⟨zs, rfl, hc, hD⟩
               obtain ⟨us, ey, hc2, hD2⟩ := hyy
               rw [← ey]
               clear ey)
          refine wpS_bind (wpS_rev ?_)
          have hs2 := hc2.size
          have hc3 : Chg lo (lo + nrem) xs (mirror us lo (lo + m) ((lo + m - lo) / 2)) := hc2.trans ((mirror_chg (by omega)).mono (Nat.le_refl _) (by omega))
          have hA3 := hD2.rev (by omega)
          generalize mirror us lo (lo + m) ((lo + m - lo) / 2) = vs at hc3 hA3 ⊢
          have hs3 := hc3.size
          refine wpS_bind (asc_loop (xs := vs) (lo := lo) (start := m) (rk := rk) ?_ g1 g2 hA3 ?_)
          · intro x n P g1 g2 p1 p2
            dsimp only
            refine wpS_bind (wpS_ltA O (by omega) (by omega) (hc3.vd hV) (fun z => ?_) (fun z => ?_))
            · exact wpS_pure (p1 z)
            · exact wpS_pure (p2 z)
          · intro n n1 n2 hA hb
            exact wpS_pure (q n vs (by omega) n2 hc3 hA)
end
end L2z
namespace L2z
open PySem PyProof.Rows
section
variable {prog : Program} {w : World} {A : Around} {E : Value → Shared → Prop} {s : Shared} {κ : SortKind} {Vd : Keyed → Prop} {rk : Keyed → Int} {pend : Array (Nat × Nat × Nat)} {g : Nat}
theorem wpS_bin (O : Ord prog w A E s κ Vd rk) {xs : Array Keyed} {lo n ok : Nat} {Q : Bool → SortSt → Prop} (h1 : 1 ≤ ok) (hn : ok ≤ n) (hz : lo + n ≤ xs.size) (hV : ∀ j, j < xs.size → Vd (kAt xs j)) (hA : AscI rk xs lo (lo + ok))
    (q : ∀ ys, Chg lo (lo + n) xs ys → AscI rk ys lo (lo + n) → Q true (SortSt.mk' κ ys pend g none)) :
    wpS (model prog w) A E s (binarySort' lo n ok) Q (SortSt.mk' κ xs pend g none) := by
  have em : max ok 1 = ok := by omega
  refine wpS_bind (wpS_mono (wpS_forRange (Q := fun c st' => ∃ ys, c = (none, ()) ∧ st' = SortSt.mk' κ ys pend g none ∧ Chg lo (lo + n) xs ys ∧ AscI rk ys lo (lo + n))
    (I := fun k c st' => ∃ ys, c = (none, ()) ∧ st' = SortSt.mk' κ ys pend g none ∧ Chg lo (lo + n) xs ys ∧ AscI rk ys lo (lo + k) ∧ k ≤ n) ?_ ?_ ⟨xs, rfl, rfl, .refl _ _ _, by rw [em]; exact hA, by omega⟩) ?_)
  · rintro k c st' hk1 hkn ⟨ys, rfl, rfl, hc, hA, _⟩
    have hsz := hc.size
    have hVy := hc.vd hV
    dsimp only
    refine wpS_bind (wpS_mono (wpS_forRange (a := 0) (Q := fun c st' => ∃ l r, c = (none, l, r) ∧ st' = SortSt.mk' κ ys pend g none ∧ l ≤ k ∧ (∀ x, lo ≤ x → x < lo + l → rk (kAt ys x) ≤ rk (kAt ys (lo + k))) ∧ (∀ x, lo + l ≤ x → x < lo + k → rk (kAt ys (lo + k)) < rk (kAt ys x)))
      (I := fun i c st' => ∃ l r, c = (none, l, r) ∧ st' = SortSt.mk' κ ys pend g none ∧ l ≤ r ∧ r ≤ k ∧ r - l + i ≤ k ∧ (∀ x, lo ≤ x → x < lo + l → rk (kAt ys x) ≤ rk (kAt ys (lo + k))) ∧ (∀ x, lo + r ≤ x → x < lo + k → rk (kAt ys (lo + k)) < rk (kAt ys x))) ?_ ?_ ⟨0, k, rfl, rfl, by omega, Nat.le_refl _, by omega, fun x a1 a2 => by omega, fun x a1 a2 => by omega⟩) ?_)
    · rintro i c st' _ hi ⟨l, r, rfl, rfl, g1, g2, g3, g4, g5⟩
      dsimp only
      refine wpS_ite (fun h => wpS_pure ⟨l, r, rfl, rfl, by omega, g4, fun x a1 a2 => g5 x (by omega) a2⟩) (fun h => ?_)
      have hm : (l + r) / 2 < r := by omega
      have hm0 : l ≤ (l + r) / 2 := by omega
      generalize (l + r) / 2 = m at hm hm0 ⊢
      refine wpS_bind (wpS_ltA O (by omega) (by omega) hVy (fun z => ?_) (fun z => ?_))
      · refine wpS_pure ⟨l, m, rfl, rfl, hm0, by omega, by omega, g4, fun x a1 a2 => ?_⟩
        have := hA (lo + m) x (by omega) a1 a2
        omega
      · refine wpS_pure ⟨m + 1, r, rfl, rfl, by omega, g2, by omega, fun x a1 a2 => ?_, g5⟩
        have := hA x (lo + m) a1 (by omega) (by omega)
        omega
    · rintro c st' ⟨l, r, rfl, rfl, g1, g2, g3, g4, g5⟩
      exact ⟨l, r, rfl, rfl, by omega, g4, fun x a1 a2 => g5 x (by omega) a2⟩
    · rintro c st' ⟨l, r, rfl, rfl, g1, g4, g5⟩
      dsimp only
      refine wpS_bind (wpS_mv (wpS_pure ?_))
      have hd : lo + k - (lo + l) ≤ lo + k := by omega
      have hs : lo + k < ys.size := by omega
      refine ⟨_, rfl, rfl, hc.trans ((bubble_chg hs hd).mono (by omega) (by omega)), ?_, by omega⟩
      intro x y a1 a2 a3
      rw [bubble_at hs hd (by omega), bubble_at hs hd (by omega), show lo + k - (lo + k - (lo + l)) = lo + l by omega]
      by_cases x1 : x < lo + l
      · rw [if_neg (show ¬ x = lo + l by omega), if_neg (show ¬ (lo + l < x ∧ x ≤ lo + k) by omega)]
        by_cases y1 : y = lo + l
        · rw [if_pos y1]; exact g4 x a1 x1
        · rw [if_neg y1]
          by_cases y2 : lo + l < y ∧ y ≤ lo + k
          · rw [if_pos y2]; exact hA x (y - 1) a1 (by omega) (by omega)
          · rw [if_neg y2]; exact hA x y a1 a2 (by omega)
      · by_cases x2 : x = lo + l
        · rw [if_pos x2]
          by_cases y1 : y = lo + l
          · rw [if_pos y1]; exact Int.le_refl _
          · rw [if_neg y1, if_pos (show lo + l < y ∧ y ≤ lo + k by omega)]
            exact Int.le_of_lt (g5 (y - 1) (by omega) (by omega))
        · rw [if_neg x2, if_pos (show lo + l < x ∧ x ≤ lo + k by omega), if_neg (show ¬ y = lo + l by omega), if_pos (show lo + l < y ∧ y ≤ lo + k by omega)]
          exact hA (x - 1) (y - 1) (by omega) (by omega) (by omega)
  · rintro c st' ⟨ys, rfl, rfl, hc, hA, hk⟩
    rw [show max (max ok 1) n = n by omega] at hA
    exact ⟨ys, rfl, rfl, hc, hA⟩
  · rintro c st' ⟨ys, rfl, rfl, hc, hA⟩
    exact wpS_pure (q ys hc hA)
def prs (pend : Array (Nat × Nat × Nat)) : List (Nat × Nat) := pend.toList.map fun x => (x.1, x.2.1)
def Pd (rk : Keyed → Int) (xs : Array Keyed) : Nat → List (Nat × Nat) → Nat → Prop
  | a, [], e => a = e
  | a, (st, len) :: r, e => st = a ∧ 1 ≤ len ∧ AscI rk xs st (st + len) ∧ Pd rk xs (st + len) r e
theorem Pd.le {xs : Array Keyed} : ∀ {l : List (Nat × Nat)} {a e : Nat}, Pd rk xs a l e → a + l.length ≤ e
  | [], a, e, h => by cases h; exact Nat.le_refl _
  | (st, len) :: r, a, e, ⟨h1, h2, _, h3⟩ => by
    have := Pd.le h3
    rw [List.length_cons]
    omega
theorem Pd.split {xs : Array Keyed} : ∀ {l r : List (Nat × Nat)} {a e : Nat}, Pd rk xs a (l ++ r) e → ∃ m, Pd rk xs a l m ∧ Pd rk xs m r e
  | [], r, a, e, h => ⟨a, rfl, h⟩
  | (st, len) :: l, r, a, e, ⟨h1, h2, h3, h4⟩ => by
    obtain ⟨m, g1, g2⟩ := Pd.split h4
    exact ⟨m, ⟨h1, h2, h3, g1⟩, g2⟩
theorem Pd.app {xs : Array Keyed} : ∀ {l r : List (Nat × Nat)} {a m e : Nat}, Pd rk xs a l m → Pd rk xs m r e → Pd rk xs a (l ++ r) e
  | [], r, a, m, e, h, g => by cases h; exact g
  | (st, len) :: l, r, a, m, e, ⟨h1, h2, h3, h4⟩, g => ⟨h1, h2, h3, Pd.app h4 g⟩
theorem Pd.far {xs ys : Array Keyed} : ∀ {l : List (Nat × Nat)} {a e : Nat}, Pd rk xs a l e → (∀ j, a ≤ j → j < e → kAt ys j = kAt xs j) → Pd rk ys a l e
  | [], a, e, h, _ => h
  | (st, len) :: r, a, e, ⟨h1, h2, h3, h4⟩, hf => by
    have hl := Pd.le h4
    refine ⟨h1, h2, fun x y a1 a2 a3 => ?_, Pd.far h4 fun j j1 j2 => hf j (by omega) j2⟩
    rw [hf x (by omega) (by omega), hf y (by omega) (by omega)]
    exact h3 x y a1 a2 a3
theorem split2 {α : Type} {l : List α} {i : Nat} (h : i + 1 < l.length) : ∃ a x y r, l = a ++ x :: y :: r ∧ a.length = i := by
  refine ⟨l.take i, l[i], l[i + 1], l.drop (i + 2), ?_, by rw [List.length_take]; omega⟩
  rw [← List.drop_eq_getElem_cons, ← List.drop_eq_getElem_cons, List.take_append_drop]
theorem wpS_mergeP (O : Ord prog w A E s κ Vd rk) {xs : Array Keyed} {i lo : Nat} {Q : Bool → SortSt → Prop} (hp : Pd rk xs 0 (prs pend) lo) (hlo : lo ≤ xs.size) (hi : i + 1 < pend.size) (hV : ∀ j, j < xs.size → Vd (kAt xs j))
    (q : ∀ ys pend' g', Chg 0 lo xs ys → Pd rk ys 0 (prs pend') lo → pend'.size + 1 = pend.size → Q true (SortSt.mk' κ ys pend' g' none)) :
    wpS (model prog w) A E s (mergeAt' i) Q (SortSt.mk' κ xs pend g none) := by
  obtain ⟨l, x, y, r, el, hl⟩ := split2 (l := pend.toList) (i := i) (by simpa using hi)
  obtain ⟨sa, na, pw⟩ := x
  obtain ⟨sb, nb, pw2⟩ := y
  have e1 : pend[i]? = some (sa, na, pw) := by
    rw [← Array.getElem?_toList, el, List.getElem?_append_right (by omega), hl, Nat.sub_self]
    rfl
  have e2 : pend[i + 1]? = some (sb, nb, pw2) := by
    rw [← Array.getElem?_toList, el, List.getElem?_append_right (by omega), hl, show i + 1 - i = 1 by omega]
    rfl
  have ep : prs pend = l.map (fun x => (x.1, x.2.1)) ++ ((sa, na) :: (sb, nb) :: r.map (fun x => (x.1, x.2.1))) := by
    unfold prs
    rw [el, List.map_append]
    rfl
  rw [ep] at hp
  obtain ⟨m, p1, a1, a2, a3, b1, b2, b3, p2⟩ := Pd.split hp
  have hl2 := Pd.le p2
  have hl1 := Pd.le p1
  refine wpS_mergeAt O e1 e2 b1 a2 b2 (by omega) hV (by rw [b1]; exact a3) b3 (fun ys g' hs hperm hA hfar => ?_)
  have e3 : ((pend.setIfInBounds i (sa, na + nb, pw)).eraseIdxIfInBounds (i + 1)).toList = l ++ (sa, na + nb, pw) :: r := by
    have q1 : (pend.setIfInBounds i (sa, na + nb, pw)).toList = l ++ (sa, na + nb, pw) :: (sb, nb, pw2) :: r := by
      rw [Array.toList_setIfInBounds, el, ← hl, List.set_append_right _ _ (Nat.le_refl _), Nat.sub_self]
      rfl
    rw [Array.eraseIdxIfInBounds, dif_pos (by rw [Array.size_setIfInBounds]; exact hi), Array.toList_eraseIdx, q1, ← hl, List.eraseIdx_append_of_length_le (by omega), show l.length + 1 - l.length = 1 by omega]
    rfl
  refine q ys _ g' ⟨hs, hperm, fun j hj hx => hfar j (by omega) hx⟩ ?_ ?_
  · unfold prs
    rw [e3, List.map_append]
    have f1 : ∀ j, 0 ≤ j → j < m → kAt ys j = kAt xs j := fun j j1 j2 => hfar j (.inl (by omega)) (by omega)
    have f2 : ∀ j, sb + nb ≤ j → j < lo → kAt ys j = kAt xs j := fun j j1 j2 => hfar j (.inr (by omega)) (by omega)
    have p3 : Pd rk ys (sa + (na + nb)) (r.map fun x => (x.1, x.2.1)) lo := by
      rw [show sa + (na + nb) = sb + nb by omega]; exact Pd.far p2 f2
    refine Pd.app (m := m) (Pd.far p1 f1) ⟨a1, (show 1 ≤ na + nb by omega), ?_, p3⟩
    show AscI rk ys sa (sa + (na + nb))
    rw [show sa + (na + nb) = sb + nb by omega]; exact hA
  · have := congrArg List.length e3
    have h2 := congrArg List.length el
    simp only [List.length_append, List.length_cons, Array.length_toList] at this h2
    omega
end
end L2z
namespace L2z
open PySem PyProof.Rows
section
variable {prog : Program} {w : World} {A : Around} {E : Value → Shared → Prop} {s : Shared} {κ : SortKind} {Vd : Keyed → Prop} {rk : Keyed → Int}
theorem prs_push (pend : Array (Nat × Nat × Nat)) (x y z : Nat) : prs (pend.push (x, y, z)) = prs pend ++ [(x, y)] := by
  unfold prs
  rw [Array.toList_push, List.map_append]
  rfl
theorem prs_modify (pend : Array (Nat × Nat × Nat)) (i : Nat) (f : Nat × Nat × Nat → Nat × Nat × Nat) (hf : ∀ x, (f x).1 = x.1 ∧ (f x).2.1 = x.2.1) : prs (pend.modify i f) = prs pend := by
  unfold prs
  rw [Array.toList_modify]
  refine List.ext_getElem? fun j => ?_
  rw [List.getElem?_map, List.getElem?_map, List.getElem?_modify]
  cases pend.toList[j]? with
  | none => rfl
  | some x =>
    by_cases c : i = j
    · simp [c, (hf x).1, (hf x).2]
    · simp [c]
theorem wpS_sort (O : Ord prog w A E s κ Vd rk) {xs : Array Keyed} {Q : Unit → SortSt → Prop} (hV : ∀ j, j < xs.size → Vd (kAt xs j)) (h0 : 2 ≤ xs.size)
    (q : ∀ ys pend g, ys.toList.Perm xs.toList → AscI rk ys 0 ys.size → Q () (SortSt.mk' κ ys pend g none)) :
    wpS (model prog w) A E s sortRuns' Q (SortSt.mk' κ xs #[] 7 none) := by
  refine wpS_bind (wpS_get ?_)
  refine wpS_bind (wpS_mono (wpS_forRange (a := 0) (b := xs.size) (Q := fun c st' => ∃ ys pend g, c = (none, xs.size) ∧ st' = SortSt.mk' κ ys pend g none ∧ Chg 0 xs.size xs ys ∧ Pd rk ys 0 (prs pend) xs.size)
    (I := fun i c st' => ∃ ys pend g lo, c = (none, lo) ∧ st' = SortSt.mk' κ ys pend g none ∧ Chg 0 xs.size xs ys ∧ Pd rk ys 0 (prs pend) lo ∧ lo ≤ xs.size ∧ i ≤ lo) ?_ ?_ ⟨xs, #[], 7, 0, rfl, rfl, .refl _ _ _, rfl, Nat.zero_le _, Nat.le_refl _⟩) ?_)
  · rintro i c st' _ hin ⟨ys, pend, g, lo, rfl, rfl, hc, hp, hlo, hil⟩
    have hsz := hc.size
    have hVy := hc.vd hV
    refine wpS_ite (fun (h : lo ≥ xs.size) => wpS_pure ⟨ys, pend, g, by rw [show lo = xs.size by omega], rfl, hc, by rw [show xs.size = lo by omega]; exact hp⟩) (fun h => ?_)
    have h : ¬ lo ≥ xs.size := h
    refine wpS_bind (wpS_run O (nrem := xs.size - lo) (by omega) (by omega) hVy (fun n zs n1 n2 hc2 hA => ?_))
    have hc3 : Chg 0 xs.size xs zs := hc.trans (hc2.mono (Nat.zero_le _) (by omega))
    have hp2 : Pd rk zs 0 (prs pend) lo := Pd.far hp fun j _ j2 => hc2.far j (.inl j2) (by omega)
    have hn2 : lo + n ≤ xs.size := by omega
    clear hp hc hVy hsz hc2
    refine wpS_ite (fun hm => wpS_bind (wpS_rule (wpS_bind (wpS_bin O (ok := n) (n := min (xs.size - lo) (minRun' xs.size xs.size 0)) n1 ?_ ?_ (hc3.vd hV) hA (fun us hc4 hA4 => ?_))))) (fun hm => ?_)
    · have hm : n < minRun' xs.size xs.size 0 := hm
      omega
    · rw [hc3.size]; omega
    all_goals
      first
        | (have hm' : n < minRun' xs.size xs.size 0 := hm
           have hs3 := hc3.size
           have hf1 : 1 ≤ min (xs.size - lo) (minRun' xs.size xs.size 0) := by omega
           have hf2 : lo + min (xs.size - lo) (minRun' xs.size xs.size 0) ≤ xs.size := by omega
           have hf3 : i + 1 ≤ lo + min (xs.size - lo) (minRun' xs.size xs.size 0) := by omega
           have hc5 : Chg 0 xs.size xs us := hc3.trans (hc4.mono (Nat.zero_le _) hf2)
           have hp5 : Pd rk us 0 (prs pend) lo := Pd.far hp2 fun j _ j2 => hc4.far j (.inl j2) (by omega)
           have hA5 : AscI rk us lo (lo + min (xs.size - lo) (minRun' xs.size xs.size 0)) := hA4
           clear hc3 hp2 hA hc4 hn2 n1 n2 hm hm' hs3 hA4
           rw [if_neg (by decide)])
        | (have hf1 := n1
           have hf2 := hn2
           have hf3 : i + 1 ≤ lo + n := by omega
           obtain ⟨us, eu, hc5, hp5, hA5⟩ : ∃ us, us = zs ∧ Chg 0 xs.size xs us ∧ Pd rk us 0 (prs pend) lo ∧ AscI rk us lo (lo + n) := ⟨zs, rfl, hc3, hp2, hA⟩
           rw [← eu]
           clear hc3 hp2 hA hn2 n1 n2 hm eu)
      refine wpS_bind (wpS_get ?_)
      dsimp only
      cases hb : pend.back? with
      | none =>
        refine wpS_bind (wpS_modify (wpS_pure ⟨us, _, g, _, rfl, rfl, hc5, ?_, hf2, hf3⟩))
        rw [prs_push]
        exact Pd.app hp5 ⟨rfl, hf1, hA5, rfl⟩
      | some t =>
        obtain ⟨s1, n1, p1⟩ := t
        dsimp only
        refine wpS_bind (wpS_mono (wpS_forRange (a := 0) (b := xs.size) (Q := fun c st' => ∃ vs pend g, c = (none, ()) ∧ st' = SortSt.mk' κ vs pend g none ∧ Chg 0 lo us vs ∧ Pd rk vs 0 (prs pend) lo)
          (I := fun i c st' => ∃ vs pend g, c = (none, ()) ∧ st' = SortSt.mk' κ vs pend g none ∧ Chg 0 lo us vs ∧ Pd rk vs 0 (prs pend) lo) ?_ ?_ ⟨us, pend, g, rfl, rfl, .refl _ _ _, hp5⟩) ?_)
        · rintro i' c st' _ _ ⟨vs, pd, g', rfl, rfl, hc6, hp6⟩
          have hs5 := hc5.size
          have hs6 := hc6.size
          refine wpS_bind (wpS_get ?_)
          dsimp only
          by_cases hz : pd.size > 1
          · rw [if_pos hz]
            have e1 : pd[pd.size - 2]? = some (pd[pd.size - 2]'(by omega)) := Array.getElem?_eq_getElem (by omega)
            generalize pd[pd.size - 2]'(by omega) = t at e1
            obtain ⟨t1, t2, t3⟩ := t
            rw [e1]
            dsimp only
            refine wpS_ite (fun _ => wpS_pure ⟨vs, pd, g', rfl, rfl, hc6, hp6⟩) (fun _ => ?_)
            refine wpS_bind (wpS_mergeP O hp6 (by omega) (by omega) (hc6.vd (hc5.vd hV)) (fun ws pd2 g2 hc7 hp7 _ => ?_))
            exact wpS_pure ⟨ws, pd2, g2, rfl, rfl, hc6.trans hc7, hp7⟩
          · rw [if_neg hz]
            exact wpS_pure ⟨vs, pd, g', rfl, rfl, hc6, hp6⟩
        · exact fun c st' h => h
        · rintro c st' ⟨vs, pd, g', rfl, rfl, hc6, hp6⟩
          have hs5 := hc5.size
          refine wpS_bind (wpS_modify (wpS_bind (wpS_modify (wpS_pure ⟨vs, _, g', _, rfl, rfl, hc5.trans (hc6.mono (Nat.le_refl _) hlo), ?_, hf2, hf3⟩))))
          have hp8 : ∀ pw, Pd rk vs 0 (prs (pd.modify (pd.size - 1) fun x => (x.1, x.2.1, pw))) lo := fun pw => by
            rw [prs_modify pd (pd.size - 1) (fun x => (x.1, x.2.1, pw)) (fun x => ⟨rfl, rfl⟩)]
            exact hp6
          rw [prs_push]
          refine Pd.app (hp8 _) ⟨rfl, hf1, fun x y a1 a2 a3 => ?_, rfl⟩
          rw [hc6.far x (.inr a1) (by rw [hs5]; exact Nat.lt_of_lt_of_le (Nat.lt_of_le_of_lt a2 a3) hf2), hc6.far y (.inr (Nat.le_trans a1 a2)) (by rw [hs5]; exact Nat.lt_of_lt_of_le a3 hf2)]
          exact hA5 x y a1 a2 a3
  · rintro c st' ⟨ys, pend, g, lo, rfl, rfl, hc, hp, hlo, hil⟩
    have e : lo = xs.size := by omega
    subst e
    exact ⟨ys, pend, g, rfl, rfl, hc, hp⟩
  · rintro c st' ⟨ys, pend, g, rfl, rfl, hc, hp⟩
    have hle := Pd.le hp
    have hpl : (prs pend).length = pend.size := by unfold prs; simp
    dsimp only
    refine wpS_bind (wpS_mono (wpS_forRange (a := 0) (b := xs.size) (Q := fun c st' => ∃ vs pend g, c = (none, ()) ∧ st' = SortSt.mk' κ vs pend g none ∧ Chg 0 xs.size xs vs ∧ Pd rk vs 0 (prs pend) xs.size ∧ pend.size ≤ 1)
      (I := fun i c st' => ∃ vs pend g, c = (none, ()) ∧ st' = SortSt.mk' κ vs pend g none ∧ Chg 0 xs.size xs vs ∧ Pd rk vs 0 (prs pend) xs.size ∧ (pend.size ≤ 1 ∨ pend.size + i ≤ xs.size)) ?_ ?_ ⟨ys, pend, g, rfl, rfl, hc, hp, .inr (by omega)⟩) ?_)
    · rintro i c st' _ hin ⟨vs, pd, g', rfl, rfl, hc6, hp6, hi⟩
      have hs6 := hc6.size
      refine wpS_bind (wpS_get ?_)
      dsimp only
      refine wpS_ite (fun h => wpS_pure ⟨vs, pd, g', rfl, rfl, hc6, hp6, h⟩) (fun h => ?_)
      have h : ¬ pd.size ≤ 1 := h
      refine wpS_bind (wpS_mergeP O hp6 (by omega) ?_ (hc6.vd hV) (fun ws pd2 g2 hc7 hp7 hz => ?_))
      · have hx : ∀ (c : Prop) [Decidable c], (if c then pd.size - 2 - 1 else pd.size - 2) + 1 < pd.size := fun c _ => by split <;> omega
        exact hx _
      · exact wpS_pure ⟨ws, pd2, g2, rfl, rfl, hc6.trans hc7, hp7, by omega⟩
    · rintro c st' ⟨vs, pd, g', rfl, rfl, hc6, hp6, hi⟩
      refine ⟨vs, pd, g', rfl, rfl, hc6, hp6, ?_⟩
      rcases hi with h | h
      · exact h
      · rw [show max 0 xs.size = xs.size by omega] at h
        omega
    · rintro c st' ⟨vs, pd, g', rfl, rfl, hc6, hp6, hi⟩
      refine wpS_pure (q vs pd g' hc6.perm ?_)
      have hpl2 : (prs pd).length = pd.size := by unfold prs; simp
      rw [hc6.size]
      cases hz : prs pd with
      | nil =>
        rw [hz] at hp6
        have hp6 : 0 = xs.size := hp6
        omega
      | cons x r =>
        obtain ⟨st, len⟩ := x
        rw [hz] at hp6 hpl2
        have hr : r = [] := by
          cases r with
          | nil => rfl
          | cons _ _ => simp at hpl2; omega
        subst hr
        obtain ⟨a1, a2, a3, a4⟩ := hp6
        have a4 : st + len = xs.size := a4
        rw [← a4, a1]
        rw [a1] at a3
        exact a3
end
end L2z
namespace L2
open PySem PySem.Spec PyProof.Rows L2z
section
variable {prog : Program} {w : World} {A : Around} {E : Value → Shared → Prop} {s : Shared} {κ : SortKind} {Vd : Keyed → Prop} {rk : Keyed → Int}
theorem kAt_mem {xs : Array Keyed} {j : Nat} (h : j < xs.size) : kAt xs j ∈ xs.toList := by
  have e := kAt_get h
  rw [← Array.getElem?_toList] at e
  exact List.mem_of_getElem? e
theorem pairs_same {vs : List Value} {k : Keyed} (h : k ∈ (vs.toArray.zip vs.toArray).toList) : k.1 = k.2 ∧ k.2 ∈ vs := by
  have e : (vs.toArray.zip vs.toArray).toList = vs.zip vs := by simp
  rw [e] at h
  have := mem_zip_self h
  exact ⟨this.1, this.1 ▸ this.2⟩
theorem pairs_snd (vs : List Value) : (vs.toArray.zip vs.toArray).toList.map (·.2) = vs := by
  have e : (vs.toArray.zip vs.toArray).toList = vs.zip vs := by simp
  rw [e]
  exact List.map_snd_zip (Nat.le_refl _)
theorem sort_any {a : Addr} {vs : List Value} {n : Nat} {P : Fin → Shared → Prop} (ho : s.heap.get? a = some (seqObj "list" vs.toArray n)) (hz : vs.length ≤ 60000)
    (hO : ∀ s1 : Shared, (∀ b o, b ≠ a → s.heap.get? b = some o → s1.heap.get? b = some o) → Ord prog w A E s1 κ Vd rk)
    (hK : 2 ≤ vs.length → ∀ s1 : Shared, (∀ b o, b ≠ a → s.heap.get? b = some o → s1.heap.get? b = some o) → ∀ Q : SortKind → Shared → Prop, Q κ s1 → wpAny (model prog w) A (keyKind' vs.toArray) Q E s1)
    (hV : ∀ v ∈ vs, Vd (v, v))
    (h : ∀ ys : Array Keyed, ys.toList.Perm (vs.toArray.zip vs.toArray).toList → AscI rk ys 0 ys.size → P (.done (.ret .none)) { s with heap := sortedHeap s.heap a vs (ys.map (·.2)) }) :
    wpAny (model prog w) A (Builtin.«list.sort» ⟨[.ref a], []⟩) P E s := by
  rw [list_sort_plain]
  have ha : a < s.heap.objs.size := Heap.lt_size ho
  have hsz : vs.toArray.size = vs.length := by simp
  refine wpAny_bind (listItems_at ho rfl ?_)
  refine wpAny_bind (listUpdate_at ho rfl ?_ (by rw [hsz, sizeLine_eq]; omega) (Nat.zero_le _))
  obtain ⟨e1, ho1⟩ : ∃ e1, (s.heap.update a (Obj.mapSeq fun _ => #[])).get? a = some (seqObj "list" #[] e1) := ⟨_, get?_update_seq ho (fun _ => #[])⟩
  refine wpAny_bind (seqEpoch_at ho1 rfl ?_)
  refine wpAny_bind (wpAny_newTuple ?_ (by show vs.length ≤ _; rw [sizeLine_eq]; omega))
  refine wpAny_bind (wpAny_newList ?_ (Nat.zero_le _))
  refine wpAny_holding ?_
  have kept : ∀ b o, b ≠ a → s.heap.get? b = some o → (((s.heap.update a (Obj.mapSeq fun _ => #[])).push (seqObj "tuple" vs.toArray 0)).push (seqObj "list" #[] 0)).get? b = some o := fun b o hb q =>
    Heap.get?_push_of_some _ (Heap.get?_push_of_some _ ((Heap.get?_update_ne _ _ _ _ hb).trans q))
  have ho6 : (((s.heap.update a (Obj.mapSeq fun _ => #[])).push (seqObj "tuple" vs.toArray 0)).push (seqObj "list" #[] 0)).get? a = some (seqObj "list" #[] e1) := Heap.get?_push_of_some _ (Heap.get?_push_of_some _ ho1)
  show wpAny (model prog w) A _ P E { s with heap := ((s.heap.update a (Obj.mapSeq fun _ => #[])).push (seqObj "tuple" vs.toArray 0)).push (seqObj "list" #[] 0) }
  dsimp only
  have hzs : (vs.toArray.zip vs.toArray).size = vs.length := by simp
  by_cases h2 : vs.toArray.size < 2
  · rw [if_pos h2, if_pos h2]
    refine wpAny_bind (wpAny_pure ?_)
    rw [StateT.run_pure]
    refine wpAny_bind (wpAny_pure ?_)
    dsimp only
    refine wpAny_bind (seqEpoch_at ho6 rfl ?_)
    refine wpAny_bind (listUpdate_at ho6 rfl ?_ (Nat.zero_le _) (by refine Nat.le_trans (Nat.le_of_eq ((Array.size_map ..).trans hzs)) ?_; rw [sizeLine_eq]; omega))
    simp only [bne_self_eq_false, Bool.false_eq_true, if_false]
    refine wpAny_pure (h (vs.toArray.zip vs.toArray) (List.Perm.refl _) ?_)
    intro i j _ hij hj
    have : i = j := by rw [hzs] at hj; omega
    subst this; exact Int.le_refl _
  · rw [if_neg h2, if_neg h2]
    refine wpAny_bind (hK (by omega) _ kept _ ?_)
    refine wpAny_bind (wpAny_mono (wpS_sort (hO _ kept) (xs := vs.toArray.zip vs.toArray)
      (Q := fun _ st' => failedOf st' = none ∧ (arrOf st').toList.Perm (vs.toArray.zip vs.toArray).toList ∧ AscI rk (arrOf st') 0 (arrOf st').size)
      (fun j hj => ?_) (by omega) fun ys pend g a1 a2 => ⟨rfl, a1, a2⟩) ?_ fun _ _ e => e)
    · obtain ⟨q1, q2⟩ := pairs_same (kAt_mem hj)
      have := hV _ q2
      rw [show kAt (vs.toArray.zip vs.toArray) j = ((kAt (vs.toArray.zip vs.toArray) j).2, (kAt (vs.toArray.zip vs.toArray) j).2) from Prod.ext q1 rfl]
      exact this
    · rintro ⟨⟨⟩, st'⟩ s' ⟨rfl, hf, hp, hs⟩
      dsimp only
      refine wpAny_bind (seqEpoch_at ho6 rfl ?_)
      have hl := hp.length_eq
      rw [Array.length_toList, Array.length_toList, hzs] at hl
      refine wpAny_bind (listUpdate_at ho6 rfl ?_ (Nat.zero_le _) (by refine Nat.le_trans (Nat.le_of_eq ((Array.size_map ..).trans hl)) ?_; rw [sizeLine_eq]; omega))
      rw [hf]
      simp only [bne_self_eq_false, Bool.false_eq_true, if_false]
      exact wpAny_pure (h _ hp hs)
theorem sorted_list {l : Addr} {vs : List Value} {Q : Value → Shared → Prop} (hl : s.heap.IsList l vs.toArray) (hz : vs.length ≤ 60000)
    (hO : ∀ s1 : Shared, (∀ b o, s.heap.get? b = some o → s1.heap.get? b = some o) → Ord prog w A.in1.in1 E s1 κ Vd rk)
    (hK : 2 ≤ vs.length → ∀ s1 : Shared, (∀ b o, s.heap.get? b = some o → s1.heap.get? b = some o) → ∀ Q : SortKind → Shared → Prop, Q κ s1 → wpAny (model prog w) A.in1.in1 (keyKind' vs.toArray) Q E s1)
    (hV : ∀ v ∈ vs, Vd (v, v))
    (h : ∀ ys : Array Keyed, ys.toList.Perm (vs.toArray.zip vs.toArray).toList → AscI rk ys 0 ys.size → Q (.ref (s.heap.objs.size + 1)) { s with heap := sortedAll s.heap vs (ys.map (·.2)) }) :
    wpAny (model prog w) A (call (.builtin "sorted") [.ref l]) Q E s := by
  refine Calls.call_function_entry kind_sorted plain_sorted entry_sorted (args_sorted1 _) ?_
  unfold Builtin.«sorted»
  refine wpAny_bind (m := checkCount "sorted" 1 1 _) (wpAny_pure ?_)
  refine wpAny_bind (collect_list hl ?_ (by rw [sizeLine_eq]; omega))
  refine wpAny_bind (wpAny_newList ?_ (by rw [sizeLine_eq]; omega))
  have hsz : ((s.heap.push (seqObj "list" #[] 0)).update s.heap.objs.size (Obj.mapSeq (· ++ vs.toArray))).objs.size = s.heap.objs.size + 1 := by
    rw [Heap.size_update, size_push']
  have hoL : (((s.heap.push (seqObj "list" #[] 0)).update s.heap.objs.size (Obj.mapSeq (· ++ vs.toArray))).push (seqObj "list" vs.toArray 0)).get? (s.heap.objs.size + 1) = some (seqObj "list" vs.toArray 0) := by
    rw [← hsz]; exact Heap.get?_push_size _ rfl
  have keep : ∀ b o, s.heap.get? b = some o → b ≠ s.heap.objs.size + 1 ∧ (((s.heap.push (seqObj "list" #[] 0)).update s.heap.objs.size (Obj.mapSeq (· ++ vs.toArray))).push (seqObj "list" vs.toArray 0)).get? b = some o := fun b o q => by
    have hlt : b < s.heap.objs.size := Heap.lt_size q
    refine ⟨Nat.ne_of_lt (Nat.lt_succ_of_lt hlt), ?_⟩
    rw [Heap.get?_push_ne _ _ _ (by rw [hsz]; exact Nat.ne_of_lt (Nat.lt_succ_of_lt hlt)), Heap.get?_update_ne _ _ _ _ (Nat.ne_of_lt hlt), Heap.get?_push_ne _ _ _ (Nat.ne_of_lt hlt)]
    exact q
  show wpAny _ _ _ _ _ { s with heap := ((s.heap.push (seqObj "list" #[] 0)).update s.heap.objs.size (Obj.mapSeq (· ++ vs.toArray))).push (seqObj "list" vs.toArray 0) }
  rw [hsz]
  refine wpAny_bind (wpAny_holding (wpAny_call_entry slot_list_sort (s := { s with heap := ((s.heap.push (seqObj "list" #[] 0)).update s.heap.objs.size (Obj.mapSeq (· ++ vs.toArray))).push (seqObj "list" vs.toArray 0) }) ⟨_, hoL, rfl⟩ entry_list_sort
    (sort_any (κ := κ) (Vd := Vd) (rk := rk) hoL hz (fun s1 k1 => hO s1 fun b o q => k1 b o (keep b o q).1 (keep b o q).2) (fun h2 s1 k1 => hK h2 s1 fun b o q => k1 b o (keep b o q).1 (keep b o q).2) hV fun ys a1 a2 => ⟨_, rfl, ?_⟩) (args_list_sort _)))
  exact wpAny_pure ⟨_, rfl, h ys a1 a2⟩
theorem ord_by {κ : SortKind} (hc : ∀ {x y : Keyed} {Q : Bool → Shared → Prop}, Vd x → Vd y → Q (decide (rk x < rk y)) s → wpAny (model prog w) A (keyLt' κ x.1 y.1) Q (fun _ _ => False) s) : Ord prog w A E s κ Vd rk := by
  refine ⟨fun {x y st Q} hx hy hk q => ?_⟩
  rw [lt'_eq]
  refine wpS_bind (wpS_get ?_)
  rw [hk]
  refine wpS_bind (wpS_lift (wpAny_attempt (wpAny_mono (hc hx hy ⟨rfl, ?_⟩) (fun _ _ z => z) fun _ _ z => z.elim)))
  exact wpS_pure q
def intV : Value → Int
  | .int x _ => x
  | _ => 0
theorem ord_int : Ord prog w A E s oneType' (fun k => ∃ x t, k.1 = .int x t) (fun k => intV k.1) := ord_by fun {x y Q} hx hy q => by
  obtain ⟨a, t, ea⟩ := hx
  obtain ⟨b, u, eb⟩ := hy
  try dsimp only at q
  rw [ea, eb] at q ⊢
  rw [keyLt'_oneType]
  exact oneLt_int q
def PairAt (h : Heap) (a : Addr) (x y : Int) : Prop := ∃ o n t u, h.get? a = some o ∧ o.cls = .type "tuple" ∧ o.data = .seq #[.int x t, .int y u] n
theorem PairAt.kept {h h' : Heap} {a : Addr} {x y : Int} (p : PairAt h a x y) (k : ∀ b o, h.get? b = some o → h'.get? b = some o) : PairAt h' a x y := by
  obtain ⟨o, n, t, u, ho, hc, hd⟩ := p
  exact ⟨o, n, t, u, k _ _ ho, hc, hd⟩
end
end L2
namespace L2
open PySem PySem.Spec PyProof.Rows L2z
theorem sorted_out_rk {f : Value → Int} {vs : List Value} {ys : Array Keyed} (hp : ys.toList.Perm (vs.toArray.zip vs.toArray).toList) (ha : AscI (fun k => f k.1) ys 0 ys.size) :
    ∃ out : List Value, ys.map (·.2) = out.toArray ∧ out.Perm vs ∧ out.Pairwise fun u v => f u ≤ f v := by
  refine ⟨ys.toList.map (·.2), ?_, ?_, ?_⟩
  · apply Array.toList_inj.mp
    rw [Array.toList_map]
  · have := hp.map (·.2)
    rw [pairs_snd] at this
    exact this
  · rw [List.pairwise_map]
    refine (asc_of ha).imp_of_mem fun {x y} hx hy h => ?_
    have h1 := pairs_same (hp.mem_iff.mp hx)
    have h2 := pairs_same (hp.mem_iff.mp hy)
    rw [← h1.1, ← h2.1]
    exact h
theorem vals_are_ints : ∀ {ns : List Int} {us : List Value}, Vals (ns.map V.int) us → us.map intV = ns ∧ ∀ v ∈ us, ∃ x t, v = Value.int x t
  | [], _, .nil => ⟨rfl, fun v hv => nomatch hv⟩
  | n :: r, _, .cons h t => by
    obtain ⟨tk, rfl⟩ := h
    obtain ⟨e, a⟩ := vals_are_ints t
    refine ⟨by rw [List.map_cons, e]; rfl, fun v hv => ?_⟩
    rcases List.mem_cons.mp hv with rfl | hv
    · exact ⟨_, _, rfl⟩
    · exact a v hv
theorem ints_are_vals : ∀ {us : List Value}, (∀ v ∈ us, ∃ x t, v = Value.int x t) → Vals ((us.map intV).map V.int) us ∧ IntsAre us (us.map intV)
  | [], _ => ⟨.nil, .nil⟩
  | u :: r, h => by
    obtain ⟨x, t, rfl⟩ := h u (List.mem_cons_self ..)
    obtain ⟨h1, h2⟩ := ints_are_vals fun v hv => h v (List.mem_cons_of_mem _ hv)
    exact ⟨.cons ⟨t, rfl⟩ h1, .cons _ _ h2⟩
theorem two_of {vs : List Value} (h : 2 ≤ vs.length) : ∃ a b r, vs = a :: b :: r := by
  match vs, h with
  | a :: b :: r, _ => exact ⟨a, b, r, rfl⟩
section
variable {X : Cx}
theorem call_sortInts : CallR X (.builtin "sorted") (fun xs H Q => ∃ (p : Addr) (ks : List Int), xs = [.ref p] ∧ SqL X.K H p (ks.map V.int) ∧ ks.length ≤ 60000 ∧
    ∀ (q : Addr) (ns : List Int), H q = none → ns.Perm ks → ns.Pairwise (· ≤ ·) → Q (.ref q) (upd H q (.lst (ns.map V.int)))) := by
  intro pins s σ H xs us Q I r h
  obtain ⟨p, ks, rfl, hp, hn, q⟩ := h
  obtain ⟨u, rfl, r1⟩ := vals1 r
  obtain rfl : u = Value.ref p := r1
  obtain ⟨its, rv, ⟨o, n, e1, e2, e3, e4⟩, _⟩ := I.list hp
  have hlen := rv.length
  rw [List.length_map] at hlen
  obtain ⟨ek, ai⟩ := vals_are_ints rv
  refine sorted_list (κ := oneType') (Vd := fun k => ∃ x t, k.1 = .int x t) (rk := fun k => intV k.1) (vs := its) ⟨o, e1, e2, n, e4⟩ (by omega) (fun _ _ => ord_int) (fun h2 s1 _ Q' hq => ?_) (fun v hv => ai v hv) fun ys hp' ha => ?_
  · have hI := (ints_are_vals ai).2
    obtain ⟨a, b, c, rfl⟩ := two_of h2
    rw [keyKind_ints hI]
    exact wpAny_pure hq
  · obtain ⟨out, eo, hpm, hpw⟩ := sorted_out_rk (f := intV) hp' ha
    rw [eo]
    obtain ⟨ep, hat⟩ := sortedAll_at s.heap its out.toArray
    have ao : ∀ v ∈ out, ∃ x t, v = Value.int x t := fun v hv => ai v (hpm.mem_iff.mp hv)
    have hol := hpm.length_eq
    refine ⟨.ref (s.heap.objs.size + 1), _, I.laid (h' := sortedAll s.heap its out.toArray) (t' := s.toks) (o := .lst ((out.map intV).map V.int)) (fun _ _ => sortedAll_old) (Nat.le_succ _) ⟨?_, out, ep, (ints_are_vals ao).1, hat⟩, rfl, q _ _ (I.hok.fresh (Nat.le_succ _)) ?_ ?_⟩
    · rw [List.length_map, List.length_map, sizeLine_eq]; omega
    · rw [← ek]; exact hpm.map intV
    · exact List.pairwise_map.mpr hpw
theorem call_sortIntsK (K : PySem.W.Frag) (hK : X.K = K) : CallR X (.builtin "sorted") (fun xs H Q => ∃ (p : Addr) (ks : List Int), xs = [.ref p] ∧ SqL K H p (ks.map V.int) ∧ ks.length ≤ 60000 ∧
    ∀ (q : Addr) (ns : List Int), H q = none → ns.Perm ks → ns.Pairwise (· ≤ ·) → Q (.ref q) (upd H q (.lst (ns.map V.int)))) := by subst hK; exact call_sortInts
end
end L2
namespace L2
open PySem PySem.Spec PyProof.Rows L2z
section
variable {X : Cx}
end
end L2
namespace My
open PySem L2
seal L2.PSs L2.PS L2.PE L2.PT L2.PA L2.PI L2.PG L2.PW L2.PGs L2.PO
def top (i : Nat) : Stmt := PySem.Challenge.pw_layersplit_k12_places_stay_while_growing.main.body.getD i (.Pass ⟨0, 0, 0, 0⟩)
abbrev s_Table__init_ : Stmt := (clsBody (top 5)).getD 0 (.Pass ⟨0, 0, 0, 0⟩)
abbrev s_Table_places_of : Stmt := (clsBody (top 5)).getD 2 (.Pass ⟨0, 0, 0, 0⟩)
abbrev s_Table_free : Stmt := (clsBody (top 5)).getD 3 (.Pass ⟨0, 0, 0, 0⟩)
abbrev s_Table_told : Stmt := (clsBody (top 5)).getD 4 (.Pass ⟨0, 0, 0, 0⟩)
abbrev s_Table_give_back : Stmt := (clsBody (top 5)).getD 5 (.Pass ⟨0, 0, 0, 0⟩)
abbrev s_Table_take : Stmt := (clsBody (top 5)).getD 6 (.Pass ⟨0, 0, 0, 0⟩)
abbrev s_Lcell_at : Stmt := top 7
abbrev s_Lmixed : Stmt := top 8
abbrev s_Lwhole : Stmt := top 9
abbrev s_Lowner : Stmt := top 10
abbrev s_Lasked : Stmt := top 11
abbrev s_Lwanted : Stmt := top 12
abbrev s_Lstays : Stmt := top 13
abbrev s_Lright : Stmt := top 14
abbrev s_law : Stmt := top 15
structure Adr where
  Table__init_ : Addr
  fd_Table__init_ : FuncData
  Table_places_of : Addr
  fd_Table_places_of : FuncData
  Table_free : Addr
  fd_Table_free : FuncData
  Table_told : Addr
  fd_Table_told : FuncData
  Table_give_back : Addr
  fd_Table_give_back : FuncData
  Table_take : Addr
  fd_Table_take : FuncData
  Lcell_at : Addr
  fd_Lcell_at : FuncData
  Lmixed : Addr
  fd_Lmixed : FuncData
  Lwhole : Addr
  fd_Lwhole : FuncData
  Lowner : Addr
  fd_Lowner : FuncData
  Lasked : Addr
  fd_Lasked : FuncData
  Lwanted : Addr
  fd_Lwanted : FuncData
  Lstays : Addr
  fd_Lstays : FuncData
  Lright : Addr
  fd_Lright : FuncData
  law : Addr
  fd_law : FuncData
  Table : Addr
  SplitError : Addr
  NoRoom : Addr
structure Txt (K : PySem.W.Frag) (mg : Str → Option Value) (a : Adr) : Prop where
  f_Table__init_ : Fun K "__init__" "Table.__init__" s_Table__init_ a.Table__init_ a.fd_Table__init_
  mt_Table__init_ : Meth K a.Table "__init__" a.Table__init_
  b_Table__init_ : Binds K a.fd_Table__init_ ["self", "many"] []
  f_Table_places_of : Fun K "places_of" "Table.places_of" s_Table_places_of a.Table_places_of a.fd_Table_places_of
  mt_Table_places_of : Meth K a.Table "places_of" a.Table_places_of
  b_Table_places_of : Binds K a.fd_Table_places_of ["self", "owner"] []
  f_Table_free : Fun K "free" "Table.free" s_Table_free a.Table_free a.fd_Table_free
  mt_Table_free : Meth K a.Table "free" a.Table_free
  b_Table_free : Binds K a.fd_Table_free ["self"] []
  f_Table_told : Fun K "told" "Table.told" s_Table_told a.Table_told a.fd_Table_told
  mt_Table_told : Meth K a.Table "told" a.Table_told
  b_Table_told : Binds K a.fd_Table_told ["self", "wanted"] []
  f_Table_give_back : Fun K "give_back" "Table.give_back" s_Table_give_back a.Table_give_back a.fd_Table_give_back
  mt_Table_give_back : Meth K a.Table "give_back" a.Table_give_back
  b_Table_give_back : Binds K a.fd_Table_give_back ["self", "owner", "number"] []
  f_Table_take : Fun K "take" "Table.take" s_Table_take a.Table_take a.fd_Table_take
  mt_Table_take : Meth K a.Table "take" a.Table_take
  b_Table_take : Binds K a.fd_Table_take ["self", "owner", "number"] []
  f_Lcell_at : Fun K "_law_cell_at" "_law_cell_at" s_Lcell_at a.Lcell_at a.fd_Lcell_at
  m_Lcell_at : mg "_law_cell_at" = some (.ref a.Lcell_at)
  b_Lcell_at : Binds K a.fd_Lcell_at ["_law_script", "_law_k"] []
  f_Lmixed : Fun K "_law_mixed" "_law_mixed" s_Lmixed a.Lmixed a.fd_Lmixed
  m_Lmixed : mg "_law_mixed" = some (.ref a.Lmixed)
  b_Lmixed : Binds K a.fd_Lmixed ["_law_script", "_law_k", "_law_salt"] []
  f_Lwhole : Fun K "_law_whole" "_law_whole" s_Lwhole a.Lwhole a.fd_Lwhole
  m_Lwhole : mg "_law_whole" = some (.ref a.Lwhole)
  b_Lwhole : Binds K a.fd_Lwhole ["_law_found"] []
  f_Lowner : Fun K "_law_owner" "_law_owner" s_Lowner a.Lowner a.fd_Lowner
  m_Lowner : mg "_law_owner" = some (.ref a.Lowner)
  b_Lowner : Binds K a.fd_Lowner ["_law_number", "_law_k"] []
  f_Lasked : Fun K "_law_asked" "_law_asked" s_Lasked a.Lasked a.fd_Lasked
  m_Lasked : mg "_law_asked" = some (.ref a.Lasked)
  b_Lasked : Binds K a.fd_Lasked ["_law_table", "_law_wanted_here"] []
  f_Lwanted : Fun K "_law_wanted" "_law_wanted" s_Lwanted a.Lwanted a.fd_Lwanted
  m_Lwanted : mg "_law_wanted" = some (.ref a.Lwanted)
  b_Lwanted : Binds K a.fd_Lwanted ["_law_script", "_law_k", "_law_some", "_law_many"] []
  f_Lstays : Fun K "_law_stays" "_law_stays" s_Lstays a.Lstays a.fd_Lstays
  m_Lstays : mg "_law_stays" = some (.ref a.Lstays)
  b_Lstays : Binds K a.fd_Lstays ["_law_owner_here", "_law_ahead", "_law_behind", "_law_number", "_law_fresh"] []
  f_Lright : Fun K "_law_right" "_law_right" s_Lright a.Lright a.fd_Lright
  m_Lright : mg "_law_right" = some (.ref a.Lright)
  b_Lright : Binds K a.fd_Lright ["_law_table", "_law_some", "_law_wanted_here"] []
  f_law : Fun K "law" "law" s_law a.law a.fd_law
  m_law : mg "law" = some (.ref a.law)
  b_law : Binds K a.fd_law ["_law_script"] []
  m_Table : mg "Table" = some (.ref a.Table)
  cls_Table : Cls K a.Table
  mk_Table : L2.Mk K a.Table a.Table__init_
  na_Table_many : NoAttr K a.Table "many"
  na_Table_owners : NoAttr K a.Table "owners"
  na_Table_taken : NoAttr K a.Table "taken"
  m_SplitError : mg "SplitError" = some (.ref a.SplitError)
  ex_SplitError : ExC K a.SplitError
  m_NoRoom : mg "NoRoom" = some (.ref a.NoRoom)
  ex_NoRoom : ExC K a.NoRoom
  n_bool : mg "bool" = none
  n_dict : mg "dict" = none
  n_int : mg "int" = none
  n_isinstance : mg "isinstance" = none
  n_len : mg "len" = none
  n_list : mg "list" = none
  n_max : mg "max" = none
  n_min : mg "min" = none
  n_range : mg "range" = none
  n_reversed : mg "reversed" = none
  n_sorted : mg "sorted" = none
  n_sum : mg "sum" = none
theorem sc_Table__init_ : FnScope ["self", "many"] ["self", "many"] (defScope s_Table__init_) := ⟨rfl, rfl, rfl, by decide +kernel, rfl, by decide +kernel, by decide +kernel⟩
theorem sc_Table_places_of : FnScope ["self", "owner"] ["self", "owner"] (defScope s_Table_places_of) := ⟨rfl, rfl, rfl, by decide +kernel, rfl, by decide +kernel, by decide +kernel⟩
theorem sc_Table_free : FnScope ["self"] ["self"] (defScope s_Table_free) := ⟨rfl, rfl, rfl, by decide +kernel, rfl, by decide +kernel, by decide +kernel⟩
theorem sc_Table_told : FnScope ["self", "wanted", "more", "back", "owner", "number"] ["self", "wanted"] (defScope s_Table_told) := ⟨rfl, rfl, rfl, by decide +kernel, rfl, by decide +kernel, by decide +kernel⟩
theorem sc_Table_give_back : FnScope ["self", "owner", "number", "places", "back", "place"] ["self", "owner", "number"] (defScope s_Table_give_back) := ⟨rfl, rfl, rfl, by decide +kernel, rfl, by decide +kernel, by decide +kernel⟩
theorem sc_Table_take : FnScope ["self", "owner", "number", "places", "more", "place"] ["self", "owner", "number"] (defScope s_Table_take) := ⟨rfl, rfl, rfl, by decide +kernel, rfl, by decide +kernel, by decide +kernel⟩
theorem sc_Lcell_at : FnScope ["_law_script", "_law_k"] ["_law_script", "_law_k"] (defScope s_Lcell_at) := ⟨rfl, rfl, rfl, by decide +kernel, rfl, by decide +kernel, by decide +kernel⟩
theorem sc_Lmixed : FnScope ["_law_script", "_law_k", "_law_salt", "_law_cell", "_law_lap", "_law_near"] ["_law_script", "_law_k", "_law_salt"] (defScope s_Lmixed) := ⟨rfl, rfl, rfl, by decide +kernel, rfl, by decide +kernel, by decide +kernel⟩
theorem sc_Lwhole : FnScope ["_law_found"] ["_law_found"] (defScope s_Lwhole) := ⟨rfl, rfl, rfl, by decide +kernel, rfl, by decide +kernel, by decide +kernel⟩
theorem sc_Lowner : FnScope ["_law_number", "_law_k", "_law_stem", "_law_at", "_law_name"] ["_law_number", "_law_k"] (defScope s_Lowner) := ⟨rfl, rfl, rfl, by decide +kernel, rfl, by decide +kernel, by decide +kernel⟩
theorem sc_Lasked : FnScope ["_law_table", "_law_wanted_here", "_law_found", "_law_handed"] ["_law_table", "_law_wanted_here"] (defScope s_Lasked) := ⟨rfl, rfl, rfl, by decide +kernel, rfl, by decide +kernel, by decide +kernel⟩
theorem sc_Lwanted : FnScope ["_law_script", "_law_k", "_law_some", "_law_many", "_law_number", "_law_order", "_law_wanted_here", "_law_j", "_law_more", "_law_owner_here", "_law_count"] ["_law_script", "_law_k", "_law_some", "_law_many"] (defScope s_Lwanted) := ⟨rfl, rfl, rfl, by decide +kernel, rfl, by decide +kernel, by decide +kernel⟩
theorem sc_Lstays : FnScope ["_law_owner_here", "_law_ahead", "_law_behind", "_law_number", "_law_fresh", "_law_kept", "_law_place"] ["_law_owner_here", "_law_ahead", "_law_behind", "_law_number", "_law_fresh"] (defScope s_Lstays) := ⟨rfl, rfl, rfl, by decide +kernel, rfl, by decide +kernel, by decide +kernel⟩
theorem sc_Lright : FnScope ["_law_table", "_law_some", "_law_wanted_here", "_law_ahead", "_law_owner_here", "_law_fresh", "_law_back", "_law_gone", "_law_numbers", "_law_number"] ["_law_table", "_law_some", "_law_wanted_here"] (defScope s_Lright) := ⟨rfl, rfl, rfl, by decide +kernel, rfl, by decide +kernel, by decide +kernel⟩
theorem sc_law : FnScope ["_law_script", "_law_number", "_law_many", "_law_some", "_law_table", "_law_k"] ["_law_script"] (defScope s_law) := ⟨rfl, rfl, rfl, by decide +kernel, rfl, by decide +kernel, by decide +kernel⟩
def spCell (K : PySem.W.Frag) : Sp := fun vs H Q _ => ∃ (a : Addr) (ns : List Int) (k : Int), vs = [.ref a, .int k] ∧ SqL K H a (ns.map V.int) ∧ ns.length ≤ 63 ∧ ∀ z, Q (.int z) H
def spMixed (K : PySem.W.Frag) : Sp := fun vs H Q _ => ∃ (a : Addr) (ns : List Int) (k m : Int), vs = [.ref a, .int k, .int m] ∧ SqL K H a (ns.map V.int) ∧ ns.length ≤ 63 ∧ (0 ≤ k ∧ k ≤ 1000000) ∧ (0 ≤ m ∧ m ≤ 1000000) ∧ ∀ z, 0 ≤ z → z < 2147483648 → Q (.int z) H
def spLaw (K : PySem.W.Frag) : Sp := fun vs H Q _ => ∃ (a : Addr) (ns : List Int), vs = [.ref a] ∧ SqL K H a (ns.map V.int) ∧ ns.length ≤ 63 ∧ ∀ H', Q (.bl true) H'
section
variable {P : Program} {w : World} {K : PySem.W.Frag} {mg : Str → Option Value} {base : Heap} {a : Adr}
theorem ok_Lcell_at (T : Txt K mg a) : FnOk P w K mg base CX0 1 a.Lcell_at a.fd_Lcell_at ["_law_script", "_law_k"] (spCell K) := by
  refine T.f_Lcell_at.ok sc_Lcell_at (fun vs H Q E h => ?_) (fun cdv A outer s H vs Q E hr h => ?_)
  · obtain ⟨p, ns, k, rfl, _⟩ := h
    rfl
  · obtain ⟨p, ns, k, rfl, hS, hl, q⟩ := h
    refine ⟨_, (pss_cons (ps_if (pt_cmpR op_eq (pe_callB (call_lenK K rfl) (by rfl) T.n_len L2.boot_len (pa_cons (pv 0) pa_nil)) pe_int (nomark _)) (pss_one (ps_ret pe_int)) pss_nil)
  (pss_one (ps_ret (pe_ix (ix_listK K rfl) (pv 0) (pe_op op_mod (pv 1) (pe_callB (call_lenK K rfl) (by rfl) T.n_len L2.boot_len (pa_cons (pv 0) pa_nil))) (fun _ _ => rfl))))), ?_⟩
    refine ⟨_, rfl, _, ns.length, rfl, .inl ⟨_, hS, by simp⟩, rfl, _, rfl, ?_⟩
    refine iteI (fun h0 => q 0) (fun h0 => ?_)
    have hp : (0 : Int) < (ns.length : Int) := by omega
    have hm := mod_lt k hp
    obtain ⟨z, hz⟩ := atI_ints hm.1 hm.2
    exact ⟨_, rfl, _, rfl, _, rfl, _, ns.length, rfl, .inl ⟨_, hS, by simp⟩, _, _, rfl, rfl, hp, p, _, _, _, rfl, rfl, hS, hz, q z⟩
theorem ok_Lmixed (T : Txt K mg a) : FnOk P w K mg base CX0 2 a.Lmixed a.fd_Lmixed ["_law_script", "_law_k", "_law_salt"] (spMixed K) := by
  refine T.f_Lmixed.ok sc_Lmixed (fun vs H Q E h => ?_) (fun cdv A outer s H vs Q E hr h => ?_)
  · obtain ⟨p, ns, k, m, rfl, _⟩ := h
    rfl
  · obtain ⟨p, ns, k, m, rfl, hS, hl, ⟨k0, k1⟩, ⟨m0, m1⟩, q⟩ := h
    refine ⟨_, (pss_cons (ps_set (i := 3) sc_Lmixed.nd rfl (by first | exact Or.inl rfl | exact Or.inr rfl) (pe_call ((ok_Lcell_at T).mono (by first | decide | omega)) hr rfl T.m_Lcell_at T.f_Lcell_at.kp T.b_Lcell_at .nil pass0 (pa_cons (pv 0) (pa_cons (pv 1) pa_nil))))
  (pss_cons (ps_set (i := 4) sc_Lmixed.nd rfl (by first | exact Or.inl rfl | exact Or.inr rfl) (pe_op op_fdiv (pv 1) (pe_callB (call_max2 rfl) (by rfl) T.n_max L2.boot_max (pa_cons pe_int (pa_cons (pe_callB (call_lenK K rfl) (by rfl) T.n_len L2.boot_len (pa_cons (pv 0) pa_nil)) pa_nil)))))
  (pss_cons (ps_set (i := 5) sc_Lmixed.nd rfl (by first | exact Or.inl rfl | exact Or.inr rfl) (pe_op op_add (pe_op op_add (pe_op op_add (pe_op op_and (pv 3) pe_int) (pe_op op_mul (pe_op op_mul pe_int (pv 1)) (pv 1))) (pe_op op_mul (pe_op op_mul pe_int (pv 2)) (pv 2))) pe_int))
  (pss_cons (ps_set (i := 5) sc_Lmixed.nd rfl (by first | exact Or.inl rfl | exact Or.inr rfl) (pe_op op_mod (pe_op op_mul (pv 5) pe_int) pe_int))
  (pss_one (ps_ret (pe_op op_and (pe_op op_add (pe_op op_shr (pv 3) (pe_op op_mul pe_int (pe_op op_add (pv 2) (pe_op op_mul pe_int (pv 4))))) (pe_op op_mod (pe_op op_mul (pv 5) (pv 5)) pe_int)) pe_int))))))), ?_⟩
    refine ⟨_, rfl, _, rfl, p, ns, k, rfl, hS, hl, fun c => ?_⟩
    have hn : ∃ n : Int, n = (if (ns.length : Int) > 1 then (ns.length : Int) else 1) ∧ 0 < n ∧ n < 1073741824 := ⟨_, rfl, by split <;> omega, by split <;> omega⟩
    obtain ⟨n, en, n0, n1⟩ := hn
    refine ⟨_, rfl, _, rfl, _, ns.length, rfl, .inl ⟨_, hS, by simp⟩, _, _, rfl, _, n, rfl, by rw [en], ⟨n0, n1⟩, ?_⟩
    have l0 : 0 ≤ k / n := Int.ediv_nonneg k0 (by omega)
    try dsimp only
    generalize k / n = lap at l0
    refine ⟨_, rfl, _, _, rfl, rfl, _, rfl, _, _, rfl, rfl, .inl ⟨by decide, by decide⟩, _, rfl, _, _, rfl, rfl, .inr ⟨by omega, by omega⟩, _, _, rfl, rfl, _, rfl, _, _, rfl, rfl, .inl ⟨by decide, by decide⟩, _, rfl, _, _, rfl, rfl, .inr ⟨by omega, by omega⟩, _, _, rfl, rfl, _, _, rfl, rfl, ?_⟩
    refine ⟨_, rfl, _, _, rfl, rfl, .inr ⟨by decide, by decide⟩, _, _, rfl, rfl, (by show (0 : Int) < _; first | decide | omega), ?_⟩
    have hr0 := mod_lt ((Builtin.bitAnd c 2147483647 + 1009 * k * k + 7919 * m * m + 12) * 48271) (show (0 : Int) < 2147483647 by decide)
    try dsimp only
    generalize (Builtin.bitAnd c 2147483647 + 1009 * k * k + 7919 * m * m + 12) * 48271 % 2147483647 = near at hr0
    refine ⟨_, rfl, _, rfl, _, rfl, _, _, rfl, rfl, .inl ⟨by decide, by decide⟩, _, _, rfl, rfl, _, _, rfl, rfl, .inl ⟨by decide, by decide⟩, _, _, rfl, rfl, (by show (0 : Int) ≤ _; omega), _, rfl, _, rfl, _, _, rfl, rfl, .inl ⟨by omega, by omega⟩, _, _, rfl, rfl, (by show (0 : Int) < _; first | decide | omega), _, _, rfl, rfl, _, _, rfl, rfl, ?_⟩
    try dsimp only
    rw [mask31]
    have := mod_lt (c / 2 ^ (31 * (m + 128 * lap)).toNat + near * near % 2147483629) (show (0 : Int) < 2147483648 by decide)
    exact q _ this.1 this.2
theorem law_binds (T : Txt K mg a) (s : Shared) (u : Value) : BindsTo s a.fd_law ⟨[u], []⟩ [("_law_script", u)] := by
  obtain ⟨oc, od, kV, doc, pm, an, cdv, ct, osl, e, lk, hcd⟩ := T.f_law.ex
  rw [e]
  exact .of_eq rfl
theorem law_start {H : Hp} {p : Addr} {ns : List Int} (hl : ns.length ≤ 63) (hS : SqL K H p (ns.map V.int)) : spLaw K [.ref p] H (fun v _ => v = .bl true) fun _ _ _ => False := ⟨p, ns, rfl, hS, hl, fun _ => rfl⟩
end
abbrev Pl := MKey × V × List Int
def TkAt (H : Hp) (tk : List MVal) (m : List Pl) : Prop := Paired (fun (x : MVal) (y : Pl) => x.1 = y.1 ∧ x.2.1 = y.2.1 ∧ ∃ l, x.2.2 = .ref l ∧ H l = some (.lst (y.2.2.map V.int))) tk m
structure TabAt (P : Program) (w : World) (K : PySem.W.Frag) (C : Addr) (H : Hp) (t od td : Addr) (n : Nat) (ow : List (Key × V)) (tk : List MVal) (m : List Pl) : Prop where
  ins : ∃ dx, H t = some (.ins C dx [("many", .int n), ("owners", .ref od), ("taken", .ref td)])
  own : H od = some (.dK ow)
  tak : H td = some (dM P w td tk)
  keys : KeysAt K H tk
  lsts : TkAt H tk m
theorem TkAt.same {H H' : Hp} (e : Same H H') : ∀ {tk : List MVal} {m : List Pl}, TkAt H tk m → TkAt H' tk m
  | _, _, .nil => .nil
  | _, _, .cons ⟨h1, h2, l, h3, h4⟩ t => .cons ⟨h1, h2, l, h3, e _ _ h4⟩ (TkAt.same e t)
theorem keyAt_same {K : PySem.W.Frag} {H H' : Hp} (e : Same H H') {k : MKey} {v : V} (h : KeyAt K H k v) : KeyAt K H' k v := by
  cases k with
  | inl k => exact h
  | inr ks => obtain ⟨a, h1, h2⟩ := h; exact ⟨a, h1, Same.tseq e h2⟩
theorem TabAt.same {P : Program} {w : World} {K : PySem.W.Frag} {C : Addr} {H H' : Hp} {t od td : Addr} {n : Nat} {ow : List (Key × V)} {tk : List MVal} {m : List Pl} (e : Same H H') (h : TabAt P w K C H t od td n ow tk m) : TabAt P w K C H' t od td n ow tk m :=
  ⟨let ⟨dx, i⟩ := h.ins; ⟨dx, e _ _ i⟩, e _ _ h.own, e _ _ h.tak, fun x hx => keyAt_same e (h.keys x hx), h.lsts.same e⟩
theorem TkAt.val {H : Hp} : ∀ {tk : List MVal} {m : List Pl}, TkAt H tk m → ∀ k, (∃ l ps, mVal tk k = some (.ref l) ∧ mVal m k = some ps ∧ H l = some (.lst (ps.map V.int))) ∨ (mVal tk k = none ∧ mVal m k = none)
  | _, _, .nil, k => .inr ⟨rfl, rfl⟩
  | x :: tk, y :: m, .cons ⟨h1, h2, l, h3, h4⟩ t, k => by
    unfold mVal
    rw [List.find?_cons, List.find?_cons, ← h1]
    by_cases e : x.1 = k
    · rw [decide_eq_true e]
      exact .inl ⟨l, y.2.2, congrArg some h3, rfl, h4⟩
    · rw [decide_eq_false e]
      exact TkAt.val t k
def placesOf (m : List Pl) (k : MKey) : List Int := (mVal m k).getD []
def freeOf (n : Nat) (ow : List (Key × V)) : List Int := ((List.range n).filter fun (i : Nat) => (valV ow (.inl (i : Int))).isNone).map fun (i : Nat) => (i : Int)
def spInit (P : Program) (w : World) (K : PySem.W.Frag) (C : Addr) : Sp := fun vs H Q _ => ∃ (t dx : Addr) (n : Nat), vs = [.ref t, .int n] ∧ H t = some (.ins C dx []) ∧ H dx = some (.own t) ∧
  ∀ (od td : Addr) H', H od = none → H td = none → (∀ b o, H b = some o → b ≠ t → H' b = some o) → TabAt P w K C H' t od td n [] [] [] → Q .non H'
def spPlacesOf (P : Program) (w : World) (K : PySem.W.Frag) (C : Addr) : Sp := fun vs H Q _ => ∃ (t od td : Addr) (n : Nat) (ow : List (Key × V)) (tk : List MVal) (m : List Pl) (k : MKey) (kv : V), vs = [.ref t, kv] ∧ TabAt P w K C H t od td n ow tk m ∧ KeyAt K H k kv ∧
  ∀ (l : Addr) H', Same H H' → H l = none → H' l = some (.lst ((placesOf m k).map V.int)) → Q (.ref l) H'
def spFree (P : Program) (w : World) (K : PySem.W.Frag) (C : Addr) : Sp := fun vs H Q _ => ∃ (t od td : Addr) (n : Nat) (ow : List (Key × V)) (tk : List MVal) (m : List Pl), vs = [.ref t] ∧ TabAt P w K C H t od td n ow tk m ∧ n ≤ 1000 ∧
  ∀ (l : Addr) H', Same H H' → H l = none → H' l = some (.lst ((freeOf n ow).map V.int)) → Q (.ref l) H'
section
variable {P : Program} {w : World} {K : PySem.W.Frag} {mg : Str → Option Value} {base : Heap} {a : Adr}
theorem ok_Table__init_ (T : Txt K mg a) : FnOk P w K mg base CX0 1 a.Table__init_ a.fd_Table__init_ ["self", "many"] (spInit P w K a.Table) := by
  refine T.f_Table__init_.ok sc_Table__init_ (fun vs H Q E h => ?_) (fun cdv A outer s H vs Q E hr h => ?_)
  · obtain ⟨t, dx, n, rfl, _⟩ := h
    rfl
  · obtain ⟨t, dx, n, rfl, hT, hX, q⟩ := h
    refine ⟨_, (pss_cons (ps_fldK K rfl (pv 0) (pv 1))
  (pss_cons (ps_fldK K rfl (pv 0) pe_dnewK)
  (pss_one (ps_fldK K rfl (pv 0) (pe_dnewM (P := P) (w := w)))))), ?_⟩
    refine ⟨_, rfl, _, rfl, t, _, dx, _, rfl, hT, T.cls_Table, T.na_Table_many, by decide, ?_⟩
    have hp1 : putF "many" (V.int n) [] = ([("many", V.int n)] : List (Str × V)) := rfl
    rw [hp1]
    have hT1 : upd H t (.ins a.Table dx [("many", V.int n)]) t = some (.ins a.Table dx [("many", V.int n)]) := upd_same
    have f1 : ∀ b o, H b = some o → b ≠ t → upd H t (.ins a.Table dx [("many", V.int n)]) b = some o := fun b o e hb => by rw [upd_ne hb]; exact e
    generalize upd H t (.ins a.Table dx [("many", V.int n)]) = H1 at hT1 f1 ⊢
    refine fun od hod => ⟨_, rfl, t, _, dx, _, rfl, by rw [upd_ne (ne_of_none hT1 hod)]; exact hT1, T.cls_Table, T.na_Table_owners, by simp, ?_⟩
    have hp2 : putF "owners" (V.ref od) [("many", V.int n)] = ([("many", V.int n), ("owners", V.ref od)] : List (Str × V)) := rfl
    rw [hp2]
    have ot : od ≠ t := fun z => by rw [z, hT1] at hod; cases hod
    have hT2 : upd (upd H1 od (.dK [])) t (.ins a.Table dx [("many", V.int n), ("owners", V.ref od)]) t = some (.ins a.Table dx [("many", V.int n), ("owners", V.ref od)]) := upd_same
    have hO2 : upd (upd H1 od (.dK [])) t (.ins a.Table dx [("many", V.int n), ("owners", V.ref od)]) od = some (.dK []) := by rw [upd_ne ot]; exact upd_same
    have f2 : ∀ b o, H b = some o → b ≠ t → upd (upd H1 od (.dK [])) t (.ins a.Table dx [("many", V.int n), ("owners", V.ref od)]) b = some o := fun b o e hb => by
      rw [upd_ne hb, upd_ne (fun z => by rw [← z, f1 b o e hb] at hod; cases hod)]
      exact f1 b o e hb
    generalize upd (upd H1 od (.dK [])) t (.ins a.Table dx [("many", V.int n), ("owners", V.ref od)]) = H2 at hT2 hO2 f2 ⊢
    refine fun td htd => ⟨_, rfl, t, _, dx, _, rfl, by rw [upd_ne (ne_of_none hT2 htd)]; exact hT2, T.cls_Table, T.na_Table_taken, by simp, ?_⟩
    have hp3 : putF "taken" (V.ref td) [("many", V.int n), ("owners", V.ref od)] = ([("many", V.int n), ("owners", V.ref od), ("taken", V.ref td)] : List (Str × V)) := rfl
    rw [hp3]
    have tt : td ≠ t := fun z => by rw [z, hT2] at htd; cases htd
    have dt : od ≠ td := fun z => by rw [← z, hO2] at htd; cases htd
    have hodn : H od = none := by
      cases z : H od with
      | none => rfl
      | some o => rw [f1 od o z ot] at hod; cases hod
    have htdn : H td = none := by
      cases z : H td with
      | none => rfl
      | some o => rw [f2 td o z tt] at htd; cases htd
    refine q od td _ hodn htdn (fun b o e hb => ?_) ⟨⟨dx, upd_same⟩, by rw [upd_ne ot, upd_ne dt]; exact hO2, by rw [upd_ne tt]; exact upd_same, fun x hx => (by cases hx), .nil⟩
    rw [upd_ne hb, upd_ne (fun z => by rw [← z, f2 b o e hb] at htd; cases htd)]
    exact f2 b o e hb
theorem ok_Table_places_of (T : Txt K mg a) : FnOk P w K mg base CX0 1 a.Table_places_of a.fd_Table_places_of ["self", "owner"] (spPlacesOf P w K a.Table) := by
  refine T.f_Table_places_of.ok sc_Table_places_of (fun vs H Q E h => ?_) (fun cdv A outer s H vs Q E hr h => ?_)
  · obtain ⟨t, od, td, n, ow, tk, m, k, kv, rfl, _⟩ := h
    rfl
  · obtain ⟨t, od, td, n, ow, tk, m, k, kv, rfl, hT, hk, q⟩ := h
    refine ⟨_, (pss_one (ps_ret (pe_callTy (call_listK K rfl) (by rfl) T.n_list L2.boot_list (pa_cons (pe_mget2 (P := P) (w := w) K rfl (hu_of hr) (pe_fldK K rfl (pv 0)) (pv 1) (pe_lst pa_nil) ⟨rfl, rfl, rfl, rfl⟩) pa_nil)))), ?_⟩
    obtain ⟨dx, hI⟩ := hT.ins
    refine ⟨_, rfl, t, _, dx, _, _, rfl, hI, T.cls_Table, T.na_Table_taken, rfl, td, tk, rfl, hT.tak, _, rfl, le_size (show _ ≤ 65536 by simp), fun l0 hl0 => ?_⟩
    have s0 := same_new (o := .lst []) (Same.refl H) hl0
    have hl0' : upd H l0 (.lst []) l0 = some (.lst []) := upd_same
    generalize upd H l0 (.lst []) = H0 at s0 hl0' ⊢
    have hT0 := hT.same s0
    refine ⟨tk, k, hT0.tak, hT0.keys, keyAt_same s0 hk, ?_⟩
    rcases hT0.lsts.val k with ⟨l, ps, e1, e2, e3⟩ | ⟨e1, e2⟩
    · rw [e1]
      refine ⟨l, _, rfl, .inl (SqL.of e3), fun l1 hl1 => q l1 _ (same_new s0 hl1) (s0.free hl1) ?_⟩
      unfold placesOf
      rw [e2]
      exact upd_same
    · rw [e1]
      refine ⟨l0, _, rfl, .inl (SqL.of hl0'), fun l1 hl1 => q l1 _ (same_new s0 hl1) (s0.free hl1) ?_⟩
      unfold placesOf
      rw [e2]
      exact upd_same
theorem ok_Table_free (T : Txt K mg a) : FnOk P w K mg base CX0 1 a.Table_free a.fd_Table_free ["self"] (spFree P w K a.Table) := by
  refine T.f_Table_free.ok sc_Table_free (fun vs H Q E h => ?_) (fun cdv A outer s H vs Q E hr h => ?_)
  · obtain ⟨t, od, td, n, ow, tk, m, rfl, _⟩ := h
    rfl
  · obtain ⟨t, od, td, n, ow, tk, m, rfl, hT, hn, q⟩ := h
    refine ⟨_, (pss_one (ps_ret (comp_of ["self"] ["place"] [] [1] (defScope s_Table_free) rfl rfl rfl (by decide +kernel) (by decide +kernel) (gk_name 1)
    (pi_range1 rfl T.n_range (pa_cons (pe_fldK K rfl (pv 0)) pa_nil)) (fun cl C s₀ H₀ ex => ⟨(pg_name (i := 1) (show List.Nodup ((["self"] : List PySem.Str) ++ (["place"] : List PySem.Str)) by decide +kernel) rfl (by first | exact Or.inl rfl | exact Or.inr rfl)), (pts_one (pt_cmp (pc_dnotin (hu_of hr) (pv 1) (pe_fldK K rfl (pv 0))) rfl)), (pv 1)⟩)))), ?_⟩
    obtain ⟨dx, hI⟩ := hT.ins
    refine ⟨_, rfl, t, _, dx, _, _, rfl, hI, T.cls_Table, T.na_Table_many, rfl, (n : Int), rfl, by omega, by omega, fun D hD => ?_⟩
    have sD : ∀ acc, Same H (upd H D (.lst acc)) := fun acc => same_new (Same.refl _) hD
    refine comp_range (K := K) (lo := 0) (n := (n : Int).toNat) (fun i acc H' => acc = (freeOf i ow).map V.int ∧ H' = upd H D (.lst acc)) ⟨rfl, rfl⟩ ?_ ?_
    · rintro i acc _ hi ⟨rfl, rfl⟩
      have hfl : ((freeOf i ow).map V.int).length ≤ i := by
        unfold freeOf
        rw [List.length_map, List.length_map]
        exact Nat.le_trans (List.length_filter_le _ _) (by rw [List.length_range]; exact Nat.le_refl _)
      have hnext : freeOf (i + 1) ow = freeOf i ow ++ if (valV ow (.inl (i : Int))).isNone = true then [(i : Int)] else [] := by
        unfold freeOf
        rw [List.range_succ, List.filter_append, List.map_append]
        congr 1
        by_cases e : (valV ow (.inl (i : Int))).isNone = true
        · simp [e]
        · simp [e]
      rw [show (0 : Int) + (i : Int) = ((i : Nat) : Int) by omega]
      refine gName_ ⟨_, rfl, _, rfl, t, _, dx, _, _, rfl, sD _ _ _ hI, T.cls_Table, T.na_Table_owners, rfl, od, _, rfl, DGet.k (k := .inl (i : Int)) (sD _ _ _ hT.own), _, rfl, ?_⟩
      have hlf : i < (n : Int).toNat := hi
      cases e : valV ow (.inl (i : Int)) with
      | none =>
        refine iteT ⟨_, rfl, upd_same, by rw [sizeLine_eq]; omega, lf hlf ⟨?_, by rw [upd_upd]⟩⟩
        rw [hnext, e, List.map_append]
        rfl
      | some v =>
        refine iteF (lf hlf ⟨?_, rfl⟩)
        rw [hnext, e, List.map_append]
        exact (List.append_nil _).symm
    · rintro acc _ ⟨rfl, rfl⟩
      have e : (n : Int).toNat = n := by omega
      rw [e]
      exact q D _ (sD _) hD upd_same
end
def Tups (H H' : Hp) : Prop := ∀ u xs, H u = some (.tup xs) → H' u = some (.tup xs)
theorem Tups.sq {K : PySem.W.Frag} {H H' : Hp} {a : Addr} {xs : List V} (e : Tups H H') (hs : ∀ u o, (∃ o', H u = some (.frz o' o)) → ∃ o', H' u = some (.frz o' o)) (h : SqT K H a xs) : SqT K H' a xs := by
  rcases h with h | h
  · rcases h with h | h
    · exact .inl (.inl (e _ _ h))
    · exact .inl (.inr (hs _ _ h))
  · exact .inr h
structure Kp (H H' : Hp) : Prop where
  tp : Tups H H'
  fz : ∀ u o, (∃ o', H u = some (.frz o' o)) → ∃ o', H' u = some (.frz o' o)
theorem Kp.refl (H : Hp) : Kp H H := ⟨fun _ _ h => h, fun _ _ h => h⟩
theorem Kp.trans {H H1 H2 : Hp} (a : Kp H H1) (b : Kp H1 H2) : Kp H H2 := ⟨fun u xs h => b.tp u xs (a.tp u xs h), fun u o h => b.fz u o (a.fz u o h)⟩
theorem Kp.of {H H' : Hp} (h : Same H H') : Kp H H' := ⟨fun u xs e => h u _ e, fun u o ⟨o', e⟩ => ⟨o', h u _ e⟩⟩
theorem Kp.lst {H : Hp} {a : Addr} {o : HO} {ys : List V} (hl : H a = some (.lst ys)) : Kp H (upd H a o) :=
  ⟨fun u xs h => by rw [upd_ne (fun e => by rw [e, hl] at h; cases h)]; exact h, fun u o ⟨o', h⟩ => ⟨o', by rw [upd_ne (fun e => by rw [e, hl] at h; cases h)]; exact h⟩⟩
theorem Kp.new {H : Hp} {a : Addr} {o : HO} (hn : H a = none) : Kp H (upd H a o) := .of (same_new (Same.refl H) hn)
theorem Kp.tq {K : PySem.W.Frag} {H H' : Hp} {a : Addr} {xs : List V} (e : Kp H H') (h : SqT K H a xs) : SqT K H' a xs := e.tp.sq e.fz h
theorem cut_from (xs : List V) {i : Int} (h : 0 ≤ i) : cutV xs (some i) none = xs.drop i.toNat := by
  show (xs.drop (if i < 0 then (i + (xs.length : Int)).toNat else min i.toNat xs.length)).take (xs.length - (if i < 0 then (i + (xs.length : Int)).toNat else min i.toNat xs.length)) = xs.drop i.toNat
  rw [if_neg (by omega)]
  rcases Nat.le_total i.toNat xs.length with hle | hle
  · rw [Nat.min_eq_left hle, List.take_of_length_le (by rw [List.length_drop]; omega)]
  · rw [Nat.min_eq_right hle, List.drop_eq_nil_of_le (Nat.le_refl _), List.drop_eq_nil_of_le hle, List.take_nil]
theorem cut_to (xs : List V) {i : Int} (h : 0 ≤ i) : cutV xs none (some i) = xs.take i.toNat := by
  show (xs.drop 0).take ((if i < 0 then (i + (xs.length : Int)).toNat else min i.toNat xs.length) - 0) = xs.take i.toNat
  rw [if_neg (by omega), List.drop_zero, Nat.sub_zero]
  rcases Nat.le_total i.toNat xs.length with hle | hle
  · rw [Nat.min_eq_left hle]
  · rw [Nat.min_eq_right hle, List.take_of_length_le (Nat.le_refl _), List.take_of_length_le hle]
theorem valV_drop (kvs : List (Key × V)) (k j : Key) : valV (dropK kvs k) j = if j = k then none else valV kvs j := by
  induction kvs with
  | nil => split <;> rfl
  | cons p r ih =>
    by_cases e : p.1 = k
    · rw [dropK_pos e, ih]
      by_cases e2 : j = k
      · rw [if_pos e2, if_pos e2]
      · rw [if_neg e2, if_neg e2, valV_neg (fun z => e2 (z.symm.trans e))]
    · rw [dropK_neg e]
      by_cases e3 : p.1 = j
      · rw [valV_pos e3, if_neg (fun z => e (e3.trans z)), valV_pos e3]
      · rw [valV_neg e3, ih, valV_neg e3]
def gone (ow : List (Key × V)) (ps : List Int) : List (Key × V) := ps.foldl (fun o p => dropK o (.inl p)) ow
theorem valV_gone (ps : List Int) : ∀ (ow : List (Key × V)) (j : Int), valV (gone ow ps) (.inl j) = if j ∈ ps then none else valV ow (.inl j) := by
  induction ps with
  | nil => intro ow j; rw [if_neg (by simp)]; rfl
  | cons p r ih =>
    intro ow j
    show valV (gone (dropK ow (.inl p)) r) (.inl j) = _
    rw [ih, valV_drop]
    by_cases h1 : j ∈ r
    · rw [if_pos h1, if_pos (List.mem_cons_of_mem _ h1)]
    · rw [if_neg h1]
      by_cases h2 : j = p
      · rw [if_pos (by rw [h2]), if_pos (by rw [h2]; exact List.mem_cons_self)]
      · rw [if_neg (fun z => h2 (Sum.inl.inj z)), if_neg (fun z => (List.mem_cons.mp z).elim h2 h1)]
def Off (od td : Addr) (H H' : Hp) : Prop := ∀ b o, H b = some o → b ≠ od → b ≠ td → H' b = some o
theorem Off.of {od td : Addr} {H H' : Hp} (h : Same H H') : Off od td H H' := fun b o e _ _ => h b o e
theorem Off.trans {od td : Addr} {H H1 H2 : Hp} (a : Off od td H H1) (b : Off od td H1 H2) : Off od td H H2 := fun c o h h1 h2 => b c o (a c o h h1 h2) h1 h2
theorem Off.tp {od td : Addr} {H H' : Hp} {kvs : List (Key × V)} {φ : Heap → Prop} (h : Off od td H H') (h1 : H od = some (.dK kvs)) (h2 : H td = some (.ext φ)) {b : Addr} {xs : List V} (e : H b = some (.tup xs)) : H' b = some (.tup xs) :=
  h b _ e (fun z => by rw [z, h1] at e; cases e) (fun z => by rw [z, h2] at e; cases e)
theorem keyAt_off {K : PySem.W.Frag} {od td : Addr} {H H' : Hp} {kvs : List (Key × V)} {φ : Heap → Prop} (h : Off od td H H') (h1 : H od = some (.dK kvs)) (h2 : H td = some (.ext φ)) {k : MKey} {v : V} (hk : KeyAt K H k v) : KeyAt K H' k v := by
  cases k with
  | inl k => exact hk
  | inr ks =>
    obtain ⟨a, e1, e2⟩ := hk
    have kp : Kp H H' := ⟨fun u xs e => h.tp h1 h2 e, fun u o ⟨o', e⟩ => ⟨o', h u _ e (fun z => by rw [z, h1] at e; cases e) (fun z => by rw [z, h2] at e; cases e)⟩⟩
    exact ⟨a, e1, kp.tq e2⟩
theorem TkAt.off {od td : Addr} {H H' : Hp} {kvs : List (Key × V)} {φ : Heap → Prop} (h : Off od td H H') (h1 : H od = some (.dK kvs)) (h2 : H td = some (.ext φ)) : ∀ {tk : List MVal} {m : List Pl}, TkAt H tk m → TkAt H' tk m
  | _, _, .nil => .nil
  | _, _, .cons ⟨e1, e2, l, e3, e4⟩ t => .cons ⟨e1, e2, l, e3, h _ _ e4 (fun z => by rw [z, h1] at e4; cases e4) (fun z => by rw [z, h2] at e4; cases e4)⟩ (TkAt.off h h1 h2 t)
theorem TkAt.put {H : Hp} {l : Addr} {ps : List Int} (hl : H l = some (.lst (ps.map V.int))) {k : MKey} {kv : V} : ∀ {tk : List MVal} {m : List Pl}, TkAt H tk m → TkAt H (mPut tk k kv (.ref l)) (mPut m k kv ps) := by
  intro tk m h
  have hs : (mVal tk k).isSome = (mVal m k).isSome := by
    rcases h.val k with ⟨l, ps, e1, e2, _⟩ | ⟨e1, e2⟩ <;> rw [e1, e2] <;> rfl
  unfold mPut
  rw [hs]
  split
  · rename_i hc
    clear hs hc
    induction h with
    | nil => exact .nil
    | @cons x y xs ys r t ih =>
      refine .cons ?_ ih
      dsimp only
      rw [← r.1]
      by_cases e : x.1 = k
      · rw [if_pos e, if_pos e]; exact ⟨rfl, r.2.1, l, rfl, hl⟩
      · rw [if_neg e, if_neg e]; exact r
  · rename_i hc
    clear hs hc
    induction h with
    | nil => exact .cons ⟨rfl, rfl, l, rfl, hl⟩ .nil
    | cons r t ih => exact .cons r ih
def Newly (H : Hp) (tk tk' : List MVal) : Prop := ∀ x ∈ tk', (∃ y ∈ tk, y.2.2 = x.2.2) ∨ ∃ l, x.2.2 = .ref l ∧ H l = none
theorem Newly.put {H : Hp} {tk : List MVal} {k : MKey} {kv : V} {l : Addr} (hl : H l = none) : Newly H tk (mPut tk k kv (.ref l)) := by
  intro x hx
  unfold mPut at hx
  split at hx
  · obtain ⟨y, hy, rfl⟩ := List.mem_map.mp hx
    split
    · exact .inr ⟨l, rfl, hl⟩
    · exact .inl ⟨y, hy, rfl⟩
  · rcases List.mem_append.mp hx with hx | hx
    · exact .inl ⟨x, hx, rfl⟩
    · rw [List.mem_singleton.mp hx]; exact .inr ⟨l, rfl, hl⟩
theorem off_none {od td : Addr} {H H' : Hp} {b : Addr} (h : Off od td H H') (h1 : H' od ≠ none) (h2 : H' td ≠ none) (e : H' b = none) : H b = none := by
  cases z : H b with
  | none => rfl
  | some o =>
    have := h b o z (fun q => h1 (by rw [← q]; exact e)) (fun q => h2 (by rw [← q]; exact e))
    rw [e] at this
    cases this
def spGive (P : Program) (w : World) (K : PySem.W.Frag) (C : Addr) : Sp := fun vs H Q _ => ∃ (t od td : Addr) (n : Nat) (ow : List (Key × V)) (tk : List MVal) (m : List Pl) (k : MKey) (kv : V) (num : Int), vs = [.ref t, kv, .int num] ∧ TabAt P w K C H t od td n ow tk m ∧ KeyAt K H k kv ∧ 0 ≤ num ∧ tk.length < 100000 ∧
  (∀ p ∈ (placesOf m k).drop num.toNat, (valV ow (.inl p)).isSome = true) ∧ (placesOf m k).Nodup ∧
  ∀ (l : Addr) (tk' : List MVal) H', Off od td H H' → H l = none → H' l = some (.lst (((placesOf m k).drop num.toNat).reverse.map V.int)) → tk'.length ≤ tk.length + 1 → Newly H tk tk' → TabAt P w K C H' t od td n (gone ow ((placesOf m k).drop num.toNat).reverse) tk' (mPut m k kv ((placesOf m k).take num.toNat)) → Q (.ref l) H'
theorem mPut_len {β γ : Type} (ys : List (MKey × β × γ)) (k : MKey) (b : β) (v : γ) : (mPut ys k b v).length ≤ ys.length + 1 := by
  unfold mPut
  split
  · rw [List.length_map]; omega
  · rw [List.length_append]; simp
theorem KeysAt.put {K : PySem.W.Frag} {H : Hp} {tk : List MVal} {k : MKey} {kv v : V} (h : KeysAt K H tk) (hk : KeyAt K H k kv) : KeysAt K H (mPut tk k kv v) := by
  unfold mPut
  split
  · intro x hx
    obtain ⟨y, hy, rfl⟩ := List.mem_map.mp hx
    split
    · exact h y hy
    · exact h y hy
  · intro x hx
    rcases List.mem_append.mp hx with hx | hx
    · exact h x hx
    · rw [List.mem_singleton.mp hx]; exact hk
section
variable {P : Program} {w : World} {K : PySem.W.Frag} {mg : Str → Option Value} {base : Heap} {a : Adr}
theorem ok_Table_give_back (T : Txt K mg a) : FnOk P w K mg base CX0 2 a.Table_give_back a.fd_Table_give_back ["self", "owner", "number"] (spGive P w K a.Table) := by
  refine T.f_Table_give_back.ok sc_Table_give_back (fun vs H Q E h => ?_) (fun cdv A outer s H vs Q E hr h => ?_)
  · obtain ⟨t, od, td, n, ow, tk, m, k, kv, num, rfl, _⟩ := h
    rfl
  · obtain ⟨t, od, td, n, ow, tk, m, k, kv, num, rfl, hT, hk, hnum, htk, hown, hnd, q⟩ := h
    refine ⟨_, (pss_cons (ps_set (i := 3) sc_Table_give_back.nd rfl (by first | exact Or.inl rfl | exact Or.inr rfl) (pe_meth (pv 0) T.cls_Table T.mt_Table_places_of ((ok_Table_places_of (P := P) (w := w) T).mono (by first | decide | omega)) hr T.b_Table_places_of .nil pass0 (pa_cons (pv 1) pa_nil)))
  (pss_cons (ps_set (i := 4) sc_Table_give_back.nd rfl (by first | exact Or.inl rfl | exact Or.inr rfl) (pe_revlist K rfl rfl (by rfl) T.n_list (by rfl) T.n_reversed (pe_slice (sl_listK K rfl) (pv 3) (po_some (pv 2)) po_none)))
  (pss_cons (ps_for PassesOwn.never rfl (pi_listK K rfl (pv 4)) (pg_name (i := 5) sc_Table_give_back.nd rfl (by first | exact Or.inl rfl | exact Or.inr rfl))
  (pss_one (ps_expr (pe_dpop1 (pe_fldK K rfl (pv 0)) (pv 5) ⟨rfl, rfl, rfl, rfl⟩))))
  (pss_cons (ps_asg (pe_slice (sl_listK K rfl) (pv 3) po_none (po_some (pv 2))) (pg_sub (pe_fldK K rfl (pv 0)) (pv 1) (set_dM (P := P) (w := w) K rfl (hu_of hr))))
  (pss_one (ps_ret (pv 4))))))), ?_⟩
    obtain ⟨dx, hI⟩ := hT.ins
    refine ⟨_, rfl, t, dx, _, rfl, hI, rfl, _, rfl, t, od, td, n, ow, tk, m, k, kv, rfl, hT, hk, fun lp H1 s1 lpn hlp => gName_ ?_⟩
    have hT1 := hT.same s1
    generalize placesOf m k = ps at hown hnd q hlp ⊢
    refine ⟨_, rfl, _, rfl, num, rfl, lp, _, rfl, SqL.of hlp, fun l2 hl2 => ?_⟩
    rw [cut_from _ hnum, ← List.map_drop]
    have s2 := same_new (o := .lst ((ps.drop num.toNat).map V.int)) s1 hl2
    have hl2' : upd H1 l2 (.lst ((ps.drop num.toNat).map V.int)) l2 = some (.lst ((ps.drop num.toNat).map V.int)) := upd_same
    have hlp2 : upd H1 l2 (.lst ((ps.drop num.toNat).map V.int)) lp = some (.lst (ps.map V.int)) := by rw [upd_ne (ne_of_none hlp hl2)]; exact hlp
    generalize upd H1 l2 (.lst ((ps.drop num.toNat).map V.int)) = H2 at s2 hl2' hlp2 ⊢
    refine ⟨l2, _, rfl, SqL.of hl2', fun lb hlb => gName_ ?_⟩
    rw [← List.map_reverse]
    generalize hbk : (ps.drop num.toNat).reverse = bk at q ⊢
    have s3 := same_new (o := .lst (bk.map V.int)) s2 hlb
    have hlb3 : upd H2 lb (.lst (bk.map V.int)) lb = some (.lst (bk.map V.int)) := upd_same
    have hlp3 : upd H2 lb (.lst (bk.map V.int)) lp = some (.lst (ps.map V.int)) := by rw [upd_ne (ne_of_none hlp2 hlb)]; exact hlp2
    generalize upd H2 lb (.lst (bk.map V.int)) = H3 at s3 hlb3 hlp3 ⊢
    have hT3 := hT.same s3
    obtain ⟨dx3, hI3⟩ := hT3.ins
    have lbn : H lb = none := s2.free hlb
    have hbn : bk.Nodup := by rw [← hbk]; exact (List.reverse_perm _).nodup_iff.mpr ((List.drop_sublist _ _).nodup hnd)
    have hbo : ∀ p ∈ bk, (valV ow (.inl p)).isSome = true := fun p hp => hown p (by rw [← hbk] at hp; exact List.mem_reverse.mp hp)
    have ne : ∀ {b : Addr} {o : HO}, H3 b = some o → (∀ kvs, o ≠ .dK kvs) → (∀ φ, o ≠ .ext φ) → b ≠ od ∧ b ≠ td := fun e h1 h2 => ⟨fun z => by rw [z, hT3.own] at e; cases e; exact h1 _ rfl, fun z => by rw [z, hT3.tak] at e; cases e; exact h2 _ rfl⟩
    have nlb := ne hlb3 (fun _ z => nomatch z) (fun _ z => nomatch z)
    have nlp := ne hlp3 (fun _ z => nomatch z) (fun _ z => nomatch z)
    have nt := ne hI3 (fun _ z => nomatch z) (fun _ z => nomatch z)
    have nod : td ≠ od := fun z => by have e := hT3.tak; rw [z, hT3.own] at e; cases e
    refine ⟨_, rfl, lb, rfl, ⟨_, SqL.of hlb3⟩, ?_⟩
    refine for_list (xs := bk.map V.int) (fun i σ H' => Off od td H3 H' ∧ H' od = some (.dK (gone ow (bk.take i))) ∧ H' td = some (dM P w td tk) ∧ ∃ v5, σ = [some (.ref t), some kv, some (.int num), some (.ref lp), some (.ref lb), v5])
      ⟨.of (Same.refl _), hT3.own, hT3.tak, _, rfl⟩ (fun i σ H' _ h => SqL.of (h.1 _ _ hlb3 nlb.1 nlb.2)) ?_ ?_
    · rintro i x σ H4 hx ⟨o4, hod4, htd4, v5, rfl⟩
      have hi : i < bk.length := by simpa using (List.getElem?_eq_some_iff.mp hx).1
      have hp : bk[i]? = some bk[i] := List.getElem?_eq_getElem hi
      rw [List.getElem?_map, hp] at hx
      generalize bk[i] = p at hx hp
      cases hx
      have hnp : p ∉ bk.take i := fun z => by
        obtain ⟨j, hj⟩ := List.mem_iff_getElem?.mp z
        have hji : j < i := by have := (List.getElem?_eq_some_iff.mp hj).1; rw [List.length_take] at this; omega
        rw [List.getElem?_take_of_lt hji] at hj
        have := (List.getElem?_inj (List.getElem?_eq_some_iff.mp hj).1 hbn).mp (hj.trans hp.symm)
        omega
      obtain ⟨v, hv⟩ := Option.isSome_iff_exists.mp (hbo p (List.mem_of_getElem? hp))
      have hv2 : valV (gone ow (bk.take i)) (.inl p) = some v := by rw [valV_gone, if_neg hnp]; exact hv
      have hg : gone ow (bk.take (i + 1)) = dropK (gone ow (bk.take i)) (.inl p) := by
        unfold gone
        rw [List.take_add_one, hp, List.foldl_append]; rfl
      refine gName_ ⟨_, rfl, t, _, dx3, _, _, rfl, o4 _ _ hI3 nt.1 nt.2, T.cls_Table, T.na_Table_owners, rfl, od, rfl, .inl ⟨_, .inl hod4⟩, _, rfl, _, .inl p, v, hod4, rfl, hv2, ?_⟩
      refine ⟨fun b o e h1 h2 => by rw [upd_ne h1]; exact o4 b o e h1 h2, by rw [hg]; exact upd_same, by rw [upd_ne nod]; exact htd4, _, rfl⟩
    · rintro σ H4 ⟨o4, hod4, htd4, v5, rfl⟩
      rw [List.length_map, List.take_of_length_le (Nat.le_refl _)] at hod4
      have hlp4 := o4 _ _ hlp3 nlp.1 nlp.2
      refine ⟨_, rfl, _, rfl, num, rfl, lp, _, rfl, SqL.of hlp4, fun l5 hl5 => ?_⟩
      rw [cut_to _ hnum, ← List.map_take]
      have s5 := same_new (o := .lst ((ps.take num.toNat).map V.int)) (Same.refl H4) hl5
      have hl5' : upd H4 l5 (.lst ((ps.take num.toNat).map V.int)) l5 = some (.lst ((ps.take num.toNat).map V.int)) := upd_same
      generalize upd H4 l5 (.lst ((ps.take num.toNat).map V.int)) = H5 at s5 hl5' ⊢
      have o5 : Off od td H H5 := (Off.of s3).trans (o4.trans (.of s5))
      have htd5 := s5 _ _ htd4
      have hk5 := keyAt_off o5 hT.own hT.tak hk
      have hks5 : KeysAt K H5 tk := fun x hx => keyAt_off o5 hT.own hT.tak (hT.keys x hx)
      have n5 : l5 ≠ td := fun z => by rw [z, htd5] at hl5'; cases hl5'
      refine ⟨_, rfl, t, _, dx3, _, _, rfl, s5 _ _ (o4 _ _ hI3 nt.1 nt.2), T.cls_Table, T.na_Table_taken, rfl, _, rfl, td, tk, k, rfl, htd5, hks5, hk5, by rw [sizeLine_eq]; omega, _, rfl, ?_⟩
      have o6 : Off od td H (upd H5 td (dM P w td (mPut tk k kv (.ref l5)))) := fun b o e h1 h2 => by rw [upd_ne h2]; exact o5 b o e h1 h2
      have hl6 : upd H5 td (dM P w td (mPut tk k kv (.ref l5))) l5 = some (.lst ((ps.take num.toNat).map V.int)) := by rw [upd_ne n5]; exact hl5'
      have hl5n : H l5 = none := off_none ((Off.of s3).trans o4) (by rw [hod4]; simp) (by rw [htd4]; simp) hl5
      refine q lb _ _ o6 lbn (by rw [upd_ne nlb.2]; exact s5 _ _ (o4 _ _ hlb3 nlb.1 nlb.2)) (mPut_len _ _ _ _) (Newly.put hl5n) ⟨⟨dx3, by rw [upd_ne nt.2]; exact s5 _ _ (o4 _ _ hI3 nt.1 nt.2)⟩, by rw [upd_ne (Ne.symm nod)]; exact s5 _ _ hod4, upd_same, ?_, ?_⟩
      · exact KeysAt.put (fun x hx => keyAt_off o6 hT.own hT.tak (hT.keys x hx)) (keyAt_off o6 hT.own hT.tak hk)
      · exact TkAt.put hl6 (hT.lsts.off o6 hT.own hT.tak)
end
def given (ow : List (Key × V)) (kv : V) (ps : List Int) : List (Key × V) := ps.foldl (fun o p => putK o (.inl p) kv) ow
theorem valV_given (kv : V) (ps : List Int) : ∀ (ow : List (Key × V)) (j : Int), valV (given ow kv ps) (.inl j) = if j ∈ ps then some kv else valV ow (.inl j) := by
  induction ps with
  | nil => intro ow j; rw [if_neg (by simp)]; rfl
  | cons p r ih =>
    intro ow j
    show valV (given (putK ow (.inl p) kv) kv r) (.inl j) = _
    rw [ih, valV_put]
    by_cases h1 : j ∈ r
    · rw [if_pos h1, if_pos (List.mem_cons_of_mem _ h1)]
    · rw [if_neg h1]
      by_cases h2 : j = p
      · rw [if_pos (by rw [h2]), if_pos (by rw [h2]; exact List.mem_cons_self)]
      · rw [if_neg (fun z => h2 (Sum.inl.inj z)), if_neg (fun z => (List.mem_cons.mp z).elim h2 h1)]
theorem given_len (kv : V) (ps : List Int) : ∀ (ow : List (Key × V)), (given ow kv ps).length ≤ ow.length + ps.length := by
  induction ps with
  | nil => intro ow; exact Nat.le_refl _
  | cons p r ih =>
    intro ow
    have h1 := ih (putK ow (.inl p) kv)
    have h2 := length_putK ow (.inl p) kv
    show (given (putK ow (.inl p) kv) kv r).length ≤ _
    rw [List.length_cons]
    omega
theorem freeOf_len (n : Nat) (ow : List (Key × V)) : (freeOf n ow).length ≤ n := by
  unfold freeOf
  rw [List.length_map]
  exact Nat.le_trans (List.length_filter_le _ _) (by rw [List.length_range]; exact Nat.le_refl _)
def spTake (P : Program) (w : World) (K : PySem.W.Frag) (C : Addr) : Sp := fun vs H Q _ => ∃ (t od td : Addr) (n : Nat) (ow : List (Key × V)) (tk : List MVal) (m : List Pl) (k : MKey) (kv : V) (num : Int), vs = [.ref t, kv, .int num] ∧ TabAt P w K C H t od td n ow tk m ∧ KeyAt K H k kv ∧ n ≤ 1000 ∧ ((placesOf m k).length : Int) ≤ num ∧ (placesOf m k).length ≤ 1000000 ∧ tk.length < 100000 ∧ ow.length < 1000000 ∧
  ∀ (tk' : List MVal) H', Off od td H H' → tk'.length ≤ tk.length + 1 → Newly H tk tk' → TabAt P w K C H' t od td n (given ow kv ((freeOf n ow).take (num - (placesOf m k).length).toNat)) tk' (mPut m k kv (placesOf m k ++ (freeOf n ow).take (num - (placesOf m k).length).toNat)) → Q .non H'
section
variable {P : Program} {w : World} {K : PySem.W.Frag} {mg : Str → Option Value} {base : Heap} {a : Adr}
theorem ok_Table_take (T : Txt K mg a) : FnOk P w K mg base CX0 2 a.Table_take a.fd_Table_take ["self", "owner", "number"] (spTake P w K a.Table) := by
  refine T.f_Table_take.ok sc_Table_take (fun vs H Q E h => ?_) (fun cdv A outer s H vs Q E hr h => ?_)
  · obtain ⟨t, od, td, n, ow, tk, m, k, kv, num, rfl, _⟩ := h
    rfl
  · obtain ⟨t, od, td, n, ow, tk, m, k, kv, num, rfl, hT, hk, hn, hnum, hpl, htk, hol, q⟩ := h
    refine ⟨_, (pss_cons (ps_set (i := 3) sc_Table_take.nd rfl (by first | exact Or.inl rfl | exact Or.inr rfl) (pe_meth (pv 0) T.cls_Table T.mt_Table_places_of ((ok_Table_places_of (P := P) (w := w) T).mono (by first | decide | omega)) hr T.b_Table_places_of .nil pass0 (pa_cons (pv 1) pa_nil)))
  (pss_cons (ps_set (i := 4) sc_Table_take.nd rfl (by first | exact Or.inl rfl | exact Or.inr rfl) (pe_slice (sl_listK K rfl) (pe_meth0 (pv 0) T.cls_Table T.mt_Table_free ((ok_Table_free (P := P) (w := w) T).mono (by first | decide | omega)) hr T.b_Table_free .nil pass0) po_none (po_some (pe_op op_sub (pv 2) (pe_callB (call_lenK K rfl) (by rfl) T.n_len L2.boot_len (pa_cons (pv 3) pa_nil))))))
  (pss_cons (ps_for PassesOwn.never rfl (pi_listK K rfl (pv 4)) (pg_name (i := 5) sc_Table_take.nd rfl (by first | exact Or.inl rfl | exact Or.inr rfl))
  (pss_one (ps_asg (pv 1) (pg_sub (pe_fldK K rfl (pv 0)) (pv 5) (set_dK (hu_of hr))))))
  (pss_one (ps_asg (pe_op op_cat (pv 3) (pv 4)) (pg_sub (pe_fldK K rfl (pv 0)) (pv 1) (set_dM (P := P) (w := w) K rfl (hu_of hr)))))))), ?_⟩
    obtain ⟨dx, hI⟩ := hT.ins
    refine ⟨_, rfl, t, dx, _, rfl, hI, rfl, _, rfl, t, od, td, n, ow, tk, m, k, kv, rfl, hT, hk, fun lp H1 s1 lpn hlp => gName_ ?_⟩
    have hT1 := hT.same s1
    generalize placesOf m k = ps at hnum hpl q hlp ⊢
    refine ⟨_, rfl, t, dx, _, rfl, s1 _ _ hI, rfl, t, od, td, n, ow, tk, m, rfl, hT1, hn, fun lf0 H2 s2 lfn hlf => ?_⟩
    have hfl := freeOf_len n ow
    generalize freeOf n ow = fs at hfl hlf q
    have hlp2 := s2 _ _ hlp
    refine ⟨_, rfl, _, rfl, _, ps.length, rfl, .inl ⟨_, SqL.of hlp2, by rw [List.length_map]⟩, num, (ps.length : Int), rfl, rfl, num - (ps.length : Int), rfl, lf0, _, rfl, SqL.of hlf, fun lm hlm => gName_ ?_⟩
    rw [cut_to _ (by omega), ← List.map_take]
    generalize hmo : fs.take (num - (ps.length : Int)).toNat = mo at q ⊢
    have hml : mo.length ≤ 1000 := by rw [← hmo, List.length_take]; omega
    have s3 := same_new (o := .lst (mo.map V.int)) (s1.trans s2) hlm
    have hlm3 : upd H2 lm (.lst (mo.map V.int)) lm = some (.lst (mo.map V.int)) := upd_same
    have hlp3 : upd H2 lm (.lst (mo.map V.int)) lp = some (.lst (ps.map V.int)) := by rw [upd_ne (ne_of_none hlp2 hlm)]; exact hlp2
    generalize upd H2 lm (.lst (mo.map V.int)) = H3 at s3 hlm3 hlp3 ⊢
    have hT3 := hT.same s3
    obtain ⟨dx3, hI3⟩ := hT3.ins
    have ne : ∀ {b : Addr} {o : HO}, H3 b = some o → (∀ kvs, o ≠ .dK kvs) → (∀ φ, o ≠ .ext φ) → b ≠ od ∧ b ≠ td := fun e h1 h2 => ⟨fun z => by rw [z, hT3.own] at e; cases e; exact h1 _ rfl, fun z => by rw [z, hT3.tak] at e; cases e; exact h2 _ rfl⟩
    have nlm := ne hlm3 (fun _ z => nomatch z) (fun _ z => nomatch z)
    have nlp := ne hlp3 (fun _ z => nomatch z) (fun _ z => nomatch z)
    have nt := ne hI3 (fun _ z => nomatch z) (fun _ z => nomatch z)
    have nod : td ≠ od := fun z => by have e := hT3.tak; rw [z, hT3.own] at e; cases e
    refine ⟨_, rfl, lm, rfl, ⟨_, SqL.of hlm3⟩, ?_⟩
    refine for_list (xs := mo.map V.int) (fun i σ H' => Off od td H3 H' ∧ H' od = some (.dK (given ow kv (mo.take i))) ∧ H' td = some (dM P w td tk) ∧ ∃ v5, σ = [some (.ref t), some kv, some (.int num), some (.ref lp), some (.ref lm), v5])
      ⟨.of (Same.refl _), hT3.own, hT3.tak, _, rfl⟩ (fun i σ H' _ h => SqL.of (h.1 _ _ hlm3 nlm.1 nlm.2)) ?_ ?_
    · rintro i x σ H4 hx ⟨o4, hod4, htd4, v5, rfl⟩
      have hi : i < mo.length := by simpa using (List.getElem?_eq_some_iff.mp hx).1
      have hp : mo[i]? = some mo[i] := List.getElem?_eq_getElem hi
      rw [List.getElem?_map, hp] at hx
      generalize mo[i] = p at hx hp
      cases hx
      have hg : given ow kv (mo.take (i + 1)) = putK (given ow kv (mo.take i)) (.inl p) kv := by
        unfold given
        rw [List.take_add_one, hp, List.foldl_append]; rfl
      have hgl := given_len kv (mo.take i) ow
      have htl := List.length_take_le i mo
      refine gName_ ⟨_, rfl, _, rfl, t, _, dx3, _, _, rfl, o4 _ _ hI3 nt.1 nt.2, T.cls_Table, T.na_Table_owners, rfl, _, rfl, od, _, .inl p, rfl, rfl, hod4, by rw [sizeLine_eq]; omega, ?_⟩
      refine ⟨fun b o e h1 h2 => by rw [upd_ne h1]; exact o4 b o e h1 h2, by rw [hg]; exact upd_same, by rw [upd_ne nod]; exact htd4, _, rfl⟩
    · rintro σ H4 ⟨o4, hod4, htd4, v5, rfl⟩
      rw [List.length_map, List.take_of_length_le (Nat.le_refl _)] at hod4
      have hlp4 := o4 _ _ hlp3 nlp.1 nlp.2
      have hlm4 := o4 _ _ hlm3 nlm.1 nlm.2
      refine ⟨_, rfl, _, rfl, lp, lm, _, _, rfl, rfl, hlp4, hlm4, by rw [List.length_map, List.length_map, sizeLine_eq]; omega, fun l5 hl5 => ?_⟩
      rw [← List.map_append]
      have s5 := same_new (o := .lst ((ps ++ mo).map V.int)) (Same.refl H4) hl5
      have hl5' : upd H4 l5 (.lst ((ps ++ mo).map V.int)) l5 = some (.lst ((ps ++ mo).map V.int)) := upd_same
      generalize upd H4 l5 (.lst ((ps ++ mo).map V.int)) = H5 at s5 hl5' ⊢
      have o5 : Off od td H H5 := (Off.of s3).trans (o4.trans (.of s5))
      have htd5 := s5 _ _ htd4
      have hk5 := keyAt_off o5 hT.own hT.tak hk
      have hks5 : KeysAt K H5 tk := fun x hx => keyAt_off o5 hT.own hT.tak (hT.keys x hx)
      have n5 : l5 ≠ td := fun z => by rw [z, htd5] at hl5'; cases hl5'
      refine ⟨_, rfl, t, _, dx3, _, _, rfl, s5 _ _ (o4 _ _ hI3 nt.1 nt.2), T.cls_Table, T.na_Table_taken, rfl, _, rfl, td, tk, k, rfl, htd5, hks5, hk5, by rw [sizeLine_eq]; omega, ?_⟩
      have o6 : Off od td H (upd H5 td (dM P w td (mPut tk k kv (.ref l5)))) := fun b o e h1 h2 => by rw [upd_ne h2]; exact o5 b o e h1 h2
      have hl6 : upd H5 td (dM P w td (mPut tk k kv (.ref l5))) l5 = some (.lst ((ps ++ mo).map V.int)) := by rw [upd_ne n5]; exact hl5'
      have hl5n : H l5 = none := off_none ((Off.of s3).trans o4) (by rw [hod4]; simp) (by rw [htd4]; simp) hl5
      refine q _ _ o6 (mPut_len _ _ _ _) (Newly.put hl5n) ⟨⟨dx3, by rw [upd_ne nt.2]; exact s5 _ _ (o4 _ _ hI3 nt.1 nt.2)⟩, by rw [upd_ne (Ne.symm nod)]; exact s5 _ _ hod4, upd_same, ?_, ?_⟩
      · exact KeysAt.put (fun x hx => keyAt_off o6 hT.own hT.tak (hT.keys x hx)) (keyAt_off o6 hT.own hT.tak hk)
      · exact TkAt.put hl6 (hT.lsts.off o6 hT.own hT.tak)
end
theorem nd_le {α : Type} [BEq α] [LawfulBEq α] : ∀ {l m : List α}, l.Nodup → (∀ x ∈ l, x ∈ m) → l.length ≤ m.length
  | [], m, _, _ => Nat.zero_le _
  | a :: l, m, h, g => by
    obtain ⟨h1, h2⟩ := List.nodup_cons.mp h
    have p := List.perm_cons_erase (g a List.mem_cons_self)
    have := nd_le (m := m.erase a) h2 fun x hx => by
      rcases List.mem_cons.mp (p.mem_iff.mp (g x (List.mem_cons_of_mem _ hx))) with rfl | q
      · exact absurd hx h1
      · exact q
    have e := p.length_eq
    rw [List.length_cons] at e ⊢
    omega
structure AS where
  pl : MKey → List Int
  oc : Int → Bool
def frl (n : Nat) (oc : Int → Bool) : List Int := ((List.range n).filter fun (i : Nat) => !oc (i : Int)).map fun (i : Nat) => (i : Int)
def AS.give (s : AS) (k : MKey) (c : Nat) : AS := ⟨fun j => if j = k then (s.pl k).take c else s.pl j, fun p => if p ∈ (s.pl k).drop c then false else s.oc p⟩
def AS.took (s : AS) (n : Nat) (k : MKey) (c : Nat) : AS := ⟨fun j => if j = k then s.pl k ++ (frl n s.oc).take (c - (s.pl k).length) else s.pl j, fun p => if p ∈ (frl n s.oc).take (c - (s.pl k).length) then true else s.oc p⟩
structure AS.Ok (n : Nat) (s : AS) : Prop where
  in_ : ∀ k p, p ∈ s.pl k → 0 ≤ p ∧ p < n ∧ s.oc p = true
  dj : ∀ k j p, p ∈ s.pl k → p ∈ s.pl j → k = j
  nd : ∀ k, (s.pl k).Nodup
def AS.new : AS := ⟨fun _ => [], fun _ => false⟩
theorem AS.new_ok (n : Nat) : AS.new.Ok n := ⟨fun _ _ h => (nomatch h), fun _ _ _ h => (nomatch h), fun _ => List.nodup_nil⟩
theorem frl_mem {n : Nat} {oc : Int → Bool} {p : Int} : p ∈ frl n oc ↔ 0 ≤ p ∧ p < n ∧ oc p = false := by
  unfold frl
  rw [List.mem_map]
  constructor
  · rintro ⟨i, hi, rfl⟩
    obtain ⟨h1, h2⟩ := List.mem_filter.mp hi
    have := List.mem_range.mp h1
    exact ⟨by omega, by omega, by simpa using h2⟩
  · rintro ⟨h1, h2, h3⟩
    refine ⟨p.toNat, List.mem_filter.mpr ⟨List.mem_range.mpr (by omega), ?_⟩, by omega⟩
    rw [show ((p.toNat : Nat) : Int) = p by omega, h3]
    rfl
theorem frl_nd (n : Nat) (oc : Int → Bool) : (frl n oc).Nodup := by
  unfold frl
  rw [List.nodup_iff_pairwise_ne, List.pairwise_map]
  exact (List.nodup_iff_pairwise_ne.mp (List.filter_sublist.nodup List.nodup_range)).imp fun h => by omega
theorem frl_le (n : Nat) (oc : Int → Bool) : (frl n oc).length ≤ n := by
  unfold frl
  rw [List.length_map]
  exact Nat.le_trans (List.length_filter_le _ _) (by rw [List.length_range]; exact Nat.le_refl _)
theorem same_len {l m : List Int} (h1 : l.Nodup) (h2 : m.Nodup) (h : ∀ x, x ∈ l ↔ x ∈ m) : l.length = m.length :=
  Nat.le_antisymm (nd_le h1 fun x hx => (h x).mp hx) (nd_le h2 fun x hx => (h x).mpr hx)
theorem frl_more {n : Nat} {oc : Int → Bool} {ps : List Int} (hn : ps.Nodup) (hp : ∀ p ∈ ps, 0 ≤ p ∧ p < n ∧ oc p = true) : (frl n fun p => if p ∈ ps then false else oc p).length = (frl n oc).length + ps.length := by
  rw [← List.length_append]
  refine same_len (frl_nd _ _) ?_ fun x => ?_
  · rw [List.nodup_append]
    refine ⟨frl_nd _ _, hn, fun a ha b hb e => ?_⟩
    subst e
    have h1 := (frl_mem.mp ha).2.2
    rw [(hp a hb).2.2] at h1
    cases h1
  · rw [frl_mem, List.mem_append, frl_mem]
    by_cases hx : x ∈ ps
    · rw [if_pos hx]
      have := hp x hx
      exact ⟨fun _ => .inr hx, fun _ => ⟨this.1, this.2.1, rfl⟩⟩
    · rw [if_neg hx]
      exact ⟨fun h => .inl h, fun h => h.resolve_right hx⟩
theorem filter_drop {l : List Int} (h : l.Nodup) (i : Nat) : l.filter (fun x => decide (x ∉ l.take i)) = l.drop i := by
  have e : l.filter (fun x => decide (x ∉ l.take i)) = (l.take i ++ l.drop i).filter (fun x => decide (x ∉ l.take i)) := by rw [List.take_append_drop]
  rw [e, List.filter_append]
  have h1 : (l.take i).filter (fun x => decide (x ∉ l.take i)) = [] := by
    rw [List.filter_eq_nil_iff]
    intro x hx
    simp [hx]
  have h2 : (l.drop i).filter (fun x => decide (x ∉ l.take i)) = l.drop i := by
    rw [List.filter_eq_self]
    intro x hx
    have h := h
    rw [← List.take_append_drop i l, List.nodup_append] at h
    exact decide_eq_true fun z => h.2.2 x z x hx rfl
  rw [h1, h2]
  rfl
theorem frl_taken (n : Nat) (oc : Int → Bool) (i : Nat) : (frl n fun p => if p ∈ (frl n oc).take i then true else oc p) = (frl n oc).drop i := by
  have e : (frl n fun p => if p ∈ (frl n oc).take i then true else oc p) = (frl n oc).filter (fun x => decide (x ∉ (frl n oc).take i)) := by
    generalize (frl n oc).take i = ts
    unfold frl
    rw [List.filter_map, List.filter_filter]
    congr 1
    refine List.filter_congr fun j _ => ?_
    show (!if (j : Int) ∈ ts then true else oc j) = (decide ((j : Int) ∉ ts) && !oc j)
    by_cases hj : (j : Int) ∈ ts
    · rw [if_pos hj]; simp [hj]
    · rw [if_neg hj]; simp [hj]
  rw [e]
  exact filter_drop (frl_nd _ _) i
theorem AS.Ok.give {n : Nat} {s : AS} (h : s.Ok n) (k : MKey) (c : Nat) : (s.give k c).Ok n := by
  have apart : ∀ p, p ∈ (s.pl k).take c → p ∉ (s.pl k).drop c := fun p h1 h2 => by
    have := h.nd k
    rw [← List.take_append_drop c (s.pl k), List.nodup_append] at this
    exact this.2.2 p h1 p h2 rfl
  have sub : ∀ j p, p ∈ (s.give k c).pl j → p ∈ s.pl j := fun j p hp => by
    have hp : p ∈ (if j = k then (s.pl k).take c else s.pl j) := hp
    split at hp
    · rename_i e; rw [e]; exact List.mem_of_mem_take hp
    · exact hp
  refine ⟨fun j p hp => ?_, fun j i p h1 h2 => h.dj j i p (sub j p h1) (sub i p h2), fun j => ?_⟩
  · obtain ⟨a, b, e⟩ := h.in_ j p (sub j p hp)
    refine ⟨a, b, ?_⟩
    show (if p ∈ (s.pl k).drop c then false else s.oc p) = true
    rw [if_neg, e]
    intro z
    have hp : p ∈ (if j = k then (s.pl k).take c else s.pl j) := hp
    split at hp
    · exact apart p hp z
    · rename_i e2; exact e2 (h.dj j k p hp (List.mem_of_mem_drop z))
  · show (if j = k then (s.pl k).take c else s.pl j).Nodup
    split
    · exact (List.take_sublist _ _).nodup (h.nd k)
    · exact h.nd j
theorem AS.Ok.took {n : Nat} {s : AS} (h : s.Ok n) (k : MKey) (c : Nat) : (s.took n k c).Ok n := by
  have fr : ∀ p ∈ (frl n s.oc).take (c - (s.pl k).length), 0 ≤ p ∧ p < n ∧ s.oc p = false := fun p hp => frl_mem.mp (List.mem_of_mem_take hp)
  have fnd : ((frl n s.oc).take (c - (s.pl k).length)).Nodup := (List.take_sublist _ _).nodup (frl_nd _ _)
  unfold AS.took
  generalize (frl n s.oc).take (c - (s.pl k).length) = mo at fr fnd
  have cases_ : ∀ j p, p ∈ (if j = k then s.pl k ++ mo else s.pl j) → p ∈ s.pl j ∨ (j = k ∧ p ∈ mo) := fun j p hp => by
    split at hp
    · rename_i e
      rcases List.mem_append.mp hp with z | z
      · rw [e]; exact .inl z
      · exact .inr ⟨e, z⟩
    · exact .inl hp
  refine ⟨fun j p hp => ?_, fun j i p h1 h2 => ?_, fun j => ?_⟩
  · show 0 ≤ p ∧ p < n ∧ (if p ∈ mo then true else s.oc p) = true
    rcases cases_ j p hp with z | ⟨_, z⟩
    · obtain ⟨a, b, e⟩ := h.in_ j p z
      refine ⟨a, b, ?_⟩
      split
      · rfl
      · exact e
    · exact ⟨(fr p z).1, (fr p z).2.1, by rw [if_pos z]⟩
  · rcases cases_ j p h1 with z | ⟨e1, z⟩ <;> rcases cases_ i p h2 with y | ⟨e2, y⟩
    · exact h.dj j i p z y
    · have := (h.in_ j p z).2.2; rw [(fr p y).2.2] at this; cases this
    · have := (h.in_ i p y).2.2; rw [(fr p z).2.2] at this; cases this
    · rw [e1, e2]
  · show (if j = k then s.pl k ++ mo else s.pl j).Nodup
    split
    · rw [List.nodup_append]
      refine ⟨h.nd k, fnd, fun a ha b hb z => ?_⟩
      subst z
      have h1 := (h.in_ k a ha).2.2
      rw [(fr a hb).2.2] at h1
      cases h1
    · exact h.nd j
abbrev Wl := List (MKey × Int)
def giveAll (s : AS) (W : Wl) : AS := W.foldl (fun s x => s.give x.1 x.2.toNat) s
def backAll : AS → Wl → List Int
  | _, [] => []
  | s, x :: r => ((s.pl x.1).drop x.2.toNat).reverse ++ backAll (s.give x.1 x.2.toNat) r
def tookAll (n : Nat) (s : AS) (W : Wl) : AS := W.foldl (fun s x => s.took n x.1 x.2.toNat) s
def needS (s : AS) (W : Wl) : Int := (W.map fun x => x.2 - ((s.pl x.1).length : Int)).sum
theorem giveAll_snoc (s : AS) (W : Wl) (x : MKey × Int) : giveAll s (W ++ [x]) = (giveAll s W).give x.1 x.2.toNat := by
  unfold giveAll
  rw [List.foldl_append]
  rfl
theorem backAll_snoc : ∀ (W : Wl) (s : AS) (x : MKey × Int), backAll s (W ++ [x]) = backAll s W ++ (((giveAll s W).pl x.1).drop x.2.toNat).reverse
  | [], s, x => by show _ ++ [] = [] ++ _; rw [List.append_nil, List.nil_append]; rfl
  | y :: r, s, x => by
    show _ ++ backAll _ (r ++ [x]) = (_ ++ backAll _ r) ++ _
    rw [backAll_snoc r, List.append_assoc]
    rfl
theorem tookAll_snoc (n : Nat) (s : AS) (W : Wl) (x : MKey × Int) : tookAll n s (W ++ [x]) = (tookAll n s W).took n x.1 x.2.toNat := by
  unfold tookAll
  rw [List.foldl_append]
  rfl
theorem giveAll_ok {n : Nat} : ∀ (W : Wl) {s : AS}, s.Ok n → (giveAll s W).Ok n
  | [], _, h => h
  | x :: r, _, h => giveAll_ok r (h.give x.1 x.2.toNat)
theorem tookAll_ok {n : Nat} : ∀ (W : Wl) {s : AS}, s.Ok n → (tookAll n s W).Ok n
  | [], _, h => h
  | x :: r, _, h => tookAll_ok r (h.took x.1 x.2.toNat)
theorem needS_other {s s' : AS} : ∀ {W : Wl}, (∀ x ∈ W, s'.pl x.1 = s.pl x.1) → needS s' W = needS s W
  | [], _ => rfl
  | x :: r, h => by
    have ih := needS_other (s := s) (s' := s') (W := r) fun y hy => h y (List.mem_cons_of_mem _ hy)
    unfold needS at ih ⊢
    rw [List.map_cons, List.sum_cons, List.map_cons, List.sum_cons, ih, h x List.mem_cons_self]
theorem needS_app (s : AS) (V W : Wl) : needS s (V ++ W) = needS s V + needS s W := by
  unfold needS
  rw [List.map_append, List.sum_append]
theorem needS_cons (s : AS) (x : MKey × Int) (W : Wl) : needS s (x :: W) = (x.2 - ((s.pl x.1).length : Int)) + needS s W := by
  unfold needS
  rw [List.map_cons, List.sum_cons]
theorem give_step {n : Nat} {s : AS} (h : s.Ok n) {V W : Wl} {x : MKey × Int} (hx : 0 ≤ x.2) (hn : ((V ++ x :: W).map (·.1)).Nodup) :
    needS (s.give x.1 x.2.toNat) (V ++ x :: W) = needS s (V ++ x :: W) + (((s.pl x.1).drop x.2.toNat).length : Int) ∧
    (frl n (s.give x.1 x.2.toNat).oc).length = (frl n s.oc).length + ((s.pl x.1).drop x.2.toNat).length := by
  constructor
  · rw [needS_app, needS_app, needS_cons, needS_cons]
    rw [List.map_append, List.map_cons, List.nodup_append] at hn
    have h1 : needS (s.give x.1 x.2.toNat) V = needS s V := needS_other fun y hy => by
      show (if y.1 = x.1 then _ else s.pl y.1) = _
      rw [if_neg fun z => hn.2.2 y.1 (List.mem_map_of_mem hy) x.1 List.mem_cons_self z]
    have h2 : needS (s.give x.1 x.2.toNat) W = needS s W := needS_other fun y hy => by
      show (if y.1 = x.1 then _ else s.pl y.1) = _
      rw [if_neg fun (z : y.1 = x.1) => (List.nodup_cons.mp hn.2.1).1 (z ▸ List.mem_map.mpr ⟨y, hy, rfl⟩)]
    have h3 : (s.give x.1 x.2.toNat).pl x.1 = (s.pl x.1).take x.2.toNat := if_pos rfl
    rw [h1, h2, h3, List.length_take, List.length_drop]
    omega
  · exact frl_more ((List.drop_sublist _ _).nodup (h.nd x.1)) fun p hp => h.in_ x.1 p (List.mem_of_mem_drop hp)
theorem give_all {n : Nat} {s : AS} (h : s.Ok n) {W : Wl} (hn : (W.map (·.1)).Nodup) (h0 : ∀ x ∈ W, 0 ≤ x.2) : ∀ i, i ≤ W.length →
    needS (giveAll s (W.take i)) W + ((frl n s.oc).length : Int) = needS s W + ((frl n (giveAll s (W.take i)).oc).length : Int) ∧ ∀ x ∈ W.take i, (((giveAll s (W.take i)).pl x.1).length : Int) ≤ x.2
  | 0, _ => ⟨rfl, fun x hx => (nomatch hx)⟩
  | i + 1, hi => by
    obtain ⟨e, le⟩ := give_all h hn h0 i (by omega)
    have hx : W[i]? = some (W[i]'(by omega)) := List.getElem?_eq_getElem (by omega)
    have hsp : W = W.take i ++ W[i]'(by omega) :: W.drop (i + 1) := by
      have := List.take_append_drop i W
      rw [List.drop_eq_getElem_cons (by omega)] at this
      exact this.symm
    have hm := List.mem_of_getElem? hx
    generalize W[i]'(by omega) = x at hx hsp hm
    have etk : W.take (i + 1) = W.take i ++ [x] := by rw [List.take_add_one, hx]; rfl
    have hst := give_step (giveAll_ok (W.take i) h) (V := W.take i) (x := x) (W := W.drop (i + 1)) (h0 x hm) (by rw [← hsp]; exact hn)
    rw [← hsp] at hst
    rw [etk, giveAll_snoc]
    refine ⟨by omega, fun y hy => ?_⟩
    show (((if y.1 = x.1 then ((giveAll s (W.take i)).pl x.1).take x.2.toNat else (giveAll s (W.take i)).pl y.1)).length : Int) ≤ y.2
    rcases List.mem_append.mp hy with z | z
    · have hne : y.1 ≠ x.1 := fun q => by
        rw [hsp, List.map_append, List.map_cons, List.nodup_append] at hn
        exact hn.2.2 y.1 (List.mem_map.mpr ⟨y, z, rfl⟩) x.1 List.mem_cons_self q
      rw [if_neg hne]
      exact le y z
    · rw [List.mem_singleton.mp z, if_pos rfl, List.length_take]
      have := h0 x hm
      omega
theorem took_len {n : Nat} {s : AS} {k : MKey} {c : Nat} (h : c - (s.pl k).length ≤ (frl n s.oc).length) : (frl n (s.took n k c).oc).length = (frl n s.oc).length - (c - (s.pl k).length) := by
  show (frl n fun p => if p ∈ (frl n s.oc).take (c - (s.pl k).length) then true else s.oc p).length = _
  rw [frl_taken, List.length_drop]
theorem give_out : ∀ (W : Wl) (s : AS) (k : MKey), k ∉ W.map (·.1) → (giveAll s W).pl k = s.pl k
  | [], _, _, _ => rfl
  | x :: r, s, k, h => by
    rw [List.map_cons, List.mem_cons, not_or] at h
    show (giveAll (s.give x.1 x.2.toNat) r).pl k = _
    rw [give_out r _ k h.2]
    exact if_neg h.1
theorem give_in : ∀ (W : Wl) (s : AS), (W.map (·.1)).Nodup → ∀ x ∈ W, (giveAll s W).pl x.1 = (s.pl x.1).take x.2.toNat
  | y :: r, s, hn, x, hx => by
    rw [List.map_cons, List.nodup_cons] at hn
    show (giveAll (s.give y.1 y.2.toNat) r).pl x.1 = _
    rcases List.mem_cons.mp hx with rfl | hx
    · rw [give_out r _ _ hn.1]
      exact if_pos rfl
    · rw [give_in r _ hn.2 x hx]
      have : x.1 ≠ y.1 := fun e => hn.1 (e ▸ List.mem_map.mpr ⟨x, hx, rfl⟩)
      rw [show (s.give y.1 y.2.toNat).pl x.1 = s.pl x.1 from if_neg this]
theorem give_free : ∀ (W : Wl) (s : AS) (p : Int), (giveAll s W).oc p = false → s.oc p = false ∨ p ∈ backAll s W
  | [], _, _, h => .inl h
  | x :: r, s, p, h => by
    rcases give_free r (s.give x.1 x.2.toNat) p h with h | h
    · have h : (if p ∈ (s.pl x.1).drop x.2.toNat then false else s.oc p) = false := h
      by_cases hp : p ∈ (s.pl x.1).drop x.2.toNat
      · exact .inr (List.mem_append_left _ (List.mem_reverse.mpr hp))
      · rw [if_neg hp] at h
        exact .inl h
    · exact .inr (List.mem_append_right _ h)
theorem back_perm : ∀ (W : Wl) (s : AS), (W.map (·.1)).Nodup → (backAll s W).Perm (W.flatMap fun x => (s.pl x.1).drop x.2.toNat)
  | [], _, _ => List.Perm.refl _
  | y :: r, s, hn => by
    rw [List.map_cons, List.nodup_cons] at hn
    show (((s.pl y.1).drop y.2.toNat).reverse ++ backAll (s.give y.1 y.2.toNat) r).Perm _
    rw [List.flatMap_cons]
    refine (List.reverse_perm _).append ((back_perm r _ hn.2).trans (List.Perm.of_eq ?_))
    have : ∀ l : Wl, (∀ x ∈ l, x ∈ r) → (l.flatMap fun x => ((s.give y.1 y.2.toNat).pl x.1).drop x.2.toNat) = l.flatMap fun x => (s.pl x.1).drop x.2.toNat := by
      intro l
      induction l with
      | nil => intro _; rfl
      | cons x l ih =>
        intro hl
        rw [List.flatMap_cons, List.flatMap_cons, ih fun z hz => hl z (List.mem_cons_of_mem _ hz)]
        have ne : x.1 ≠ y.1 := fun e => hn.1 (e ▸ List.mem_map.mpr ⟨x, hl x List.mem_cons_self, rfl⟩)
        rw [show (s.give y.1 y.2.toNat).pl x.1 = s.pl x.1 from if_neg ne]
    exact this r fun _ h => h
theorem took_out (n : Nat) : ∀ (W : Wl) (s : AS) (k : MKey), k ∉ W.map (·.1) → (tookAll n s W).pl k = s.pl k
  | [], _, _, _ => rfl
  | x :: r, s, k, h => by
    rw [List.map_cons, List.mem_cons, not_or] at h
    show (tookAll n (s.took n x.1 x.2.toNat) r).pl k = _
    rw [took_out n r _ k h.2]
    exact if_neg h.1
theorem need_pos {s : AS} : ∀ {W : Wl}, (∀ x ∈ W, ((s.pl x.1).length : Int) ≤ x.2) → 0 ≤ needS s W
  | [], _ => Int.le_refl _
  | x :: r, h => by
    have h1 := need_pos (s := s) (W := r) fun y hy => h y (List.mem_cons_of_mem _ hy)
    have h2 := h x List.mem_cons_self
    rw [needS_cons]
    omega
theorem took_in (n : Nat) : ∀ (W : Wl) (s : AS), (W.map (·.1)).Nodup → (∀ x ∈ W, ((s.pl x.1).length : Int) ≤ x.2) → needS s W ≤ ((frl n s.oc).length : Int) →
    ∀ x ∈ W, ∃ F, (tookAll n s W).pl x.1 = s.pl x.1 ++ F ∧ F.length = x.2.toNat - (s.pl x.1).length ∧ ∀ p ∈ F, p ∈ frl n s.oc
  | y :: r, s, hn, hl, hf, x, hx => by
    rw [List.map_cons, List.nodup_cons] at hn
    rw [needS_cons] at hf
    have hy := hl y List.mem_cons_self
    have hr := need_pos (s := s) (W := r) fun z hz => hl z (List.mem_cons_of_mem _ hz)
    have oth : ∀ z ∈ r, (s.took n y.1 y.2.toNat).pl z.1 = s.pl z.1 := fun z hz => if_neg fun (e : z.1 = y.1) => hn.1 (e ▸ List.mem_map.mpr ⟨z, hz, rfl⟩)
    have hlen := took_len (n := n) (s := s) (k := y.1) (c := y.2.toNat) (by omega)
    show ∃ F, (tookAll n (s.took n y.1 y.2.toNat) r).pl x.1 = _ ∧ _
    rcases List.mem_cons.mp hx with rfl | hx
    · rw [took_out n r _ _ hn.1]
      refine ⟨(frl n s.oc).take (x.2.toNat - (s.pl x.1).length), if_pos rfl, ?_, fun p hp => List.mem_of_mem_take hp⟩
      rw [List.length_take]
      omega
    · obtain ⟨F, h1, h2, h3⟩ := took_in n r (s.took n y.1 y.2.toNat) hn.2 (fun z hz => by rw [oth z hz]; exact hl z (List.mem_cons_of_mem _ hz)) (by rw [needS_other oth]; omega) x hx
      rw [oth x hx] at h1 h2
      refine ⟨F, h1, h2, fun p hp => ?_⟩
      have := frl_mem.mp (h3 p hp)
      refine frl_mem.mpr ⟨this.1, this.2.1, ?_⟩
      have e : (if p ∈ (frl n s.oc).take (y.2.toNat - (s.pl y.1).length) then true else s.oc p) = false := this.2.2
      by_cases hq : p ∈ (frl n s.oc).take (y.2.toNat - (s.pl y.1).length)
      · rw [if_pos hq] at e; cases e
      · rw [if_neg hq] at e; exact e
theorem told_in {n : Nat} {S : AS} {W : Wl} (hO : S.Ok n) (hn : (W.map (·.1)).Nodup) (h0 : ∀ x ∈ W, 0 ≤ x.2) (hf : needS S W ≤ ((frl n S.oc).length : Int)) : ∀ x ∈ W,
    ∃ F, (tookAll n (giveAll S W) W).pl x.1 = (S.pl x.1).take x.2.toNat ++ F ∧ F.length = x.2.toNat - (S.pl x.1).length ∧ ∀ p ∈ F, p ∈ frl n S.oc ∨ p ∈ backAll S W := by
  intro x hx
  obtain ⟨e, le⟩ := give_all hO hn h0 W.length (Nat.le_refl _)
  rw [List.take_of_length_le (Nat.le_refl _)] at e le
  obtain ⟨F, h1, h2, h3⟩ := took_in n W (giveAll S W) hn le (by omega) x hx
  rw [give_in W S hn x hx] at h1 h2
  rw [List.length_take] at h2
  refine ⟨F, h1, by omega, fun p hp => ?_⟩
  have := frl_mem.mp (h3 p hp)
  rcases give_free W S p this.2.2 with h | h
  · exact .inl (frl_mem.mpr ⟨this.1, this.2.1, h⟩)
  · exact .inr h
theorem told_out {n : Nat} {S : AS} {W : Wl} {k : MKey} (h : k ∉ W.map (·.1)) : (tookAll n (giveAll S W) W).pl k = S.pl k := by
  rw [took_out n W _ k h, give_out W S k h]
def numOf (S : AS) (W : Wl) (k : MKey) : Nat := match W.find? (fun x => decide (x.1 = k)) with
  | some x => x.2.toNat
  | none => (S.pl k).length
theorem num_in {S : AS} {W : Wl} (hn : (W.map (·.1)).Nodup) {x : MKey × Int} (hx : x ∈ W) : W.find? (fun y => decide (y.1 = x.1)) = some x := by
  cases h : W.find? (fun y => decide (y.1 = x.1)) with
  | none => exact absurd (decide_eq_true rfl) (List.find?_eq_none.mp h x hx)
  | some y =>
    have e : y.1 = x.1 := by have := List.find?_some h; exact of_decide_eq_true this
    have hy := List.mem_of_find?_eq_some h
    have : ∀ l : Wl, (l.map (·.1)).Nodup → x ∈ l → y ∈ l → y = x := by
      intro l
      induction l with
      | nil => intro _ h; cases h
      | cons z l ih =>
        intro hn hx hy
        rw [List.map_cons, List.nodup_cons] at hn
        rcases List.mem_cons.mp hx with hx1 | hx1
        · rcases List.mem_cons.mp hy with hy1 | hy1
          · rw [hx1, hy1]
          · exact (hn.1 (List.mem_map.mpr ⟨y, hy1, by rw [e, hx1]⟩)).elim
        · rcases List.mem_cons.mp hy with hy1 | hy1
          · exact (hn.1 (List.mem_map.mpr ⟨x, hx1, by rw [← e, hy1]⟩)).elim
          · exact ih hn.2 hx1 hy1
    rw [this W hn hx hy]
theorem num_out {W : Wl} {k : MKey} (h : k ∉ W.map (·.1)) : W.find? (fun y => decide (y.1 = k)) = none := by
  rw [List.find?_eq_none]
  intro x hx e
  exact h (List.mem_map.mpr ⟨x, hx, of_decide_eq_true e⟩)
theorem told_all {n : Nat} {S : AS} {W : Wl} (hO : S.Ok n) (hn : (W.map (·.1)).Nodup) (h0 : ∀ x ∈ W, 0 ≤ x.2) (hf : needS S W ≤ ((frl n S.oc).length : Int)) (k : MKey) :
    ∃ F, (tookAll n (giveAll S W) W).pl k = (S.pl k).take (numOf S W k) ++ F ∧ F.length = numOf S W k - (S.pl k).length ∧ ∀ p ∈ F, p ∈ frl n S.oc ++ backAll S W := by
  by_cases h : k ∈ W.map (·.1)
  · obtain ⟨x, hx, rfl⟩ := List.mem_map.mp h
    obtain ⟨F, h1, h2, h3⟩ := told_in hO hn h0 hf x hx
    unfold numOf
    rw [num_in (S := S) hn hx]
    exact ⟨F, h1, h2, fun p hp => List.mem_append.mpr (h3 p hp)⟩
  · unfold numOf
    rw [num_out h, told_out h]
    exact ⟨[], by rw [List.take_of_length_le (Nat.le_refl _), List.append_nil], by simp, fun p hp => nomatch hp⟩
theorem nodup_perm {α : Type} : ∀ {l m : List α}, l.Nodup → m.Nodup → (∀ x, x ∈ l ↔ x ∈ m) → l.Perm m
  | [], [], _, _, _ => List.Perm.refl _
  | [], b :: m, _, _, h => absurd ((h b).mpr List.mem_cons_self) List.not_mem_nil
  | a :: l, m, h1, h2, h => by
    obtain ⟨s, t, rfl⟩ := List.append_of_mem ((h a).mp List.mem_cons_self)
    rw [List.nodup_cons] at h1
    have hp : (s ++ a :: t).Perm (a :: (s ++ t)) := List.perm_middle
    have h3 := hp.nodup_iff.mp h2
    rw [List.nodup_cons] at h3
    refine ((nodup_perm h1.2 h3.2 fun x => ?_).cons a).trans hp.symm
    have hx := (h x).trans hp.mem_iff
    rw [List.mem_cons, List.mem_cons] at hx
    constructor
    · intro z
      rcases hx.mp (.inr z) with rfl | q
      · exact absurd z h1.1
      · exact q
    · intro z
      rcases hx.mpr (.inr z) with rfl | q
      · exact absurd z h3.1
      · exact q
open Classical in
theorem gone_perm {S : AS} {W : Wl} {ks : List MKey} (hn : (W.map (·.1)).Nodup) (hk : ks.Nodup) (hs : ∀ x ∈ W, x.1 ∈ ks) : (backAll S W).Perm (ks.flatMap fun k => (S.pl k).drop (numOf S W k)) := by
  refine (back_perm W S hn).trans ?_
  have e1 : (W.flatMap fun x => (S.pl x.1).drop x.2.toNat) = (W.map (·.1)).flatMap fun k => (S.pl k).drop (numOf S W k) := by
    have : ∀ l : Wl, (∀ x ∈ l, x ∈ W) → (l.flatMap fun x => (S.pl x.1).drop x.2.toNat) = (l.map (·.1)).flatMap fun k => (S.pl k).drop (numOf S W k) := by
      intro l
      induction l with
      | nil => intro _; rfl
      | cons x l ih =>
        intro hl
        rw [List.flatMap_cons, List.map_cons, List.flatMap_cons, ih fun z hz => hl z (List.mem_cons_of_mem _ hz)]
        have : numOf S W x.1 = x.2.toNat := by unfold numOf; rw [num_in (S := S) hn (hl x List.mem_cons_self)]
        rw [this]
    exact this W fun _ h => h
  rw [e1]
  have pm : ks.Perm (W.map (·.1) ++ ks.filter fun k => decide (k ∉ W.map (·.1))) := by
    refine nodup_perm hk ?_ fun a => ?_
    · rw [List.nodup_append]
      refine ⟨hn, List.filter_sublist.nodup hk, fun a ha b hb e => ?_⟩
      subst e
      exact of_decide_eq_true (List.mem_filter.mp hb).2 ha
    · rw [List.mem_append, List.mem_filter]
      constructor
      · intro h
        by_cases hw : a ∈ W.map (·.1)
        · exact .inl hw
        · exact .inr ⟨h, decide_eq_true hw⟩
      · rintro (h | h)
        · obtain ⟨x, hx, rfl⟩ := List.mem_map.mp h
          exact hs x hx
        · exact h.1
  refine ((List.Perm.flatMap_right _ pm).trans (List.Perm.of_eq ?_)).symm
  rw [List.flatMap_append]
  have : ∀ l : List MKey, (∀ k ∈ l, k ∉ W.map (·.1)) → (l.flatMap fun k => (S.pl k).drop (numOf S W k)) = [] := by
    intro l
    induction l with
    | nil => intro _; rfl
    | cons k l ih =>
      intro hl
      rw [List.flatMap_cons, ih fun z hz => hl z (List.mem_cons_of_mem _ hz)]
      have : numOf S W k = (S.pl k).length := by unfold numOf; rw [num_out (hl k List.mem_cons_self)]
      rw [this, List.drop_of_length_le (Nat.le_refl _)]
      rfl
  rw [this _ fun k hk => of_decide_eq_true (List.mem_filter.mp hk).2, List.append_nil]
theorem nd_ints {n : Nat} {ps : List Int} (h : ps.Nodup) (hb : ∀ p ∈ ps, 0 ≤ p ∧ p < n) : ps.length ≤ n := by
  have := nd_le (l := ps) (m := (List.range n).map fun (i : Nat) => (i : Int)) h fun p hp => by
    obtain ⟨h1, h2⟩ := hb p hp
    exact List.mem_map.mpr ⟨p.toNat, List.mem_range.mpr (by omega), by omega⟩
  rw [List.length_map, List.length_range] at this
  exact this
def WAt (K : PySem.W.Frag) (H : Hp) (ts : List V) (W : Wl) : Prop := Paired (fun (v : V) (x : MKey × Int) => ∃ b kv, v = .ref b ∧ SqT K H b [kv, .int x.2] ∧ KeyAt K H x.1 kv) ts W
theorem WAt.get {K : PySem.W.Frag} {H : Hp} : ∀ {ts : List V} {W : Wl}, WAt K H ts W → ∀ (i : Nat) (v : V), ts[i]? = some v → ∃ x, W[i]? = some x ∧ ∃ b kv, v = .ref b ∧ SqT K H b [kv, .int x.2] ∧ KeyAt K H x.1 kv
  | _, _, .nil, i, v, h => by simp at h
  | _, _, .cons h t, 0, v, e => by
    simp at e
    subst e
    exact ⟨_, rfl, h⟩
  | _, _, .cons h t, i + 1, v, e => by
    obtain ⟨x, h1, h2⟩ := WAt.get t i v (by simpa using e)
    exact ⟨x, by simpa using h1, h2⟩
theorem off_tq {K : PySem.W.Frag} {od td : Addr} {H H' : Hp} {kvs : List (Key × V)} {φ : Heap → Prop} (h : Off od td H H') (h1 : H od = some (.dK kvs)) (h2 : H td = some (.ext φ)) {b : Addr} {xs : List V} (e : SqT K H b xs) : SqT K H' b xs := by
  have kp : Kp H H' := ⟨fun u xs e => h.tp h1 h2 e, fun u o ⟨o', e⟩ => ⟨o', h u _ e (fun z => by rw [z, h1] at e; cases e) (fun z => by rw [z, h2] at e; cases e)⟩⟩
  exact kp.tq e
theorem TabAt.list {P : Program} {w : World} {K : PySem.W.Frag} {C : Addr} {H : Hp} {t od td lb : Addr} {n : Nat} {ow : List (Key × V)} {tk : List MVal} {m : List Pl} {bs cs : List V} (h : TabAt P w K C H t od td n ow tk m) (hl : H lb = some (.lst bs)) (nl : ∀ x ∈ tk, x.2.2 ≠ .ref lb) : TabAt P w K C (upd H lb (.lst cs)) t od td n ow tk m := by
  obtain ⟨dx, hI⟩ := h.ins
  have kp : Kp H (upd H lb (.lst cs)) := .lst hl
  refine ⟨⟨dx, by rw [upd_ne (fun z => by rw [z, hl] at hI; cases hI)]; exact hI⟩, by rw [upd_ne (fun z => by have e := h.own; rw [z, hl] at e; cases e)]; exact h.own, by rw [upd_ne (fun z => by have e := h.tak; rw [z, hl] at e; cases e)]; exact h.tak, fun x hx => ?_, ?_⟩
  · have := h.keys x hx
    cases e : x.1 with
    | inl k => rw [e] at this; exact this
    | inr ks => rw [e] at this; obtain ⟨b, h1, h2⟩ := this; exact ⟨b, h1, kp.tq h2⟩
  · have go : ∀ {tk : List MVal} {m : List Pl}, TkAt H tk m → (∀ x ∈ tk, x.2.2 ≠ .ref lb) → TkAt (upd H lb (.lst cs)) tk m := by
      intro tk m h nl
      induction h with
      | nil => exact .nil
      | @cons x y xs ys r t ih =>
        obtain ⟨e1, e2, l, e3, e4⟩ := r
        refine .cons ⟨e1, e2, l, e3, ?_⟩ (ih fun z hz => nl z (List.mem_cons_of_mem _ hz))
        rw [upd_ne (fun z => nl x List.mem_cons_self (by rw [e3, z]))]
        exact e4
    exact go h.lsts nl
theorem TkAt.at_ {H : Hp} : ∀ {tk : List MVal} {m : List Pl}, TkAt H tk m → ∀ (i : Nat) (x : MVal), tk[i]? = some x → ∃ y : Pl, m[i]? = some y ∧ ∃ l, x.2.2 = .ref l ∧ H l = some (.lst (y.2.2.map V.int))
  | _, _, .nil, i, x, h => by simp at h
  | _, _, .cons h t, 0, x, e => by
    simp at e
    subst e
    exact ⟨_, rfl, h.2.2⟩
  | _, _, .cons h t, i + 1, x, e => by
    obtain ⟨y, h1, h2⟩ := TkAt.at_ t i x (by simpa using e)
    exact ⟨y, by simpa using h1, h2⟩
theorem gone_len (ps : List Int) : ∀ (ow : List (Key × V)), (gone ow ps).length ≤ ow.length := by
  induction ps with
  | nil => intro ow; exact Nat.le_refl _
  | cons p r ih => intro ow; exact Nat.le_trans (ih _) (dropK_le ow (.inl p))
theorem mVal_put {β γ : Type} (ys : List (MKey × β × γ)) (k j : MKey) (b : β) (v : γ) : mVal (mPut ys k b v) j = if j = k then some v else mVal ys j := by
  have hmap : ∀ zs : List (MKey × β × γ), mVal (zs.map fun y => if y.1 = k then (y.1, y.2.1, v) else y) j = (mVal zs j).map fun x => if j = k then v else x := by
    intro zs
    induction zs with
    | nil => rfl
    | cons z r ih =>
      unfold mVal at ih ⊢
      rw [List.map_cons, List.find?_cons, List.find?_cons]
      have hz : (if z.1 = k then (z.1, z.2.1, v) else z).1 = z.1 := by split <;> rfl
      rw [hz]
      by_cases e : z.1 = j
      · rw [decide_eq_true e]
        show some (if z.1 = k then (z.1, z.2.1, v) else z).2.2 = some (if j = k then v else z.2.2)
        rw [e]
        split <;> rfl
      · rw [decide_eq_false e]; exact ih
  have hsn : ∀ zs : List (MKey × β × γ), mVal zs k = none → mVal (zs ++ [(k, b, v)]) j = if j = k then some v else mVal zs j := by
    intro zs hz
    unfold mVal at hz ⊢
    rw [List.find?_append]
    by_cases e : j = k
    · subst e
      rw [if_pos rfl, Option.map_eq_none_iff.mp hz]
      simp
    · rw [if_neg e]
      have : List.find? (fun y : MKey × β × γ => decide (y.1 = j)) [(k, b, v)] = none := by simp [Ne.symm e]
      rw [this, Option.or_none]
  unfold mPut
  by_cases hc : (mVal ys k).isSome = true
  · rw [if_pos hc, hmap]
    by_cases e : j = k
    · subst e
      obtain ⟨x, hx⟩ := Option.isSome_iff_exists.mp hc
      rw [hx, if_pos rfl]
      simp
    · rw [if_neg e]
      simp [e]
  · rw [if_neg hc]
    exact hsn ys (by simpa using hc)
def TabS (n : Nat) (s : AS) (ow : List (Key × V)) (m : List Pl) : Prop := (∀ k, placesOf m k = s.pl k) ∧ ∀ p : Int, 0 ≤ p → p < n → (valV ow (.inl p)).isSome = s.oc p
theorem placesOf_put (m : List Pl) (k j : MKey) (kv : V) (ps : List Int) : placesOf (mPut m k kv ps) j = if j = k then ps else placesOf m j := by
  unfold placesOf
  rw [mVal_put]
  split <;> rfl
theorem TabS.free {n : Nat} {s : AS} {ow : List (Key × V)} {m : List Pl} (h : TabS n s ow m) : freeOf n ow = frl n s.oc := by
  unfold freeOf frl
  congr 1
  refine List.filter_congr fun i hi => ?_
  have := List.mem_range.mp hi
  rw [← h.2 i (by omega) (by omega)]
  cases valV ow (.inl (i : Int)) <;> rfl
theorem TabS.give {n : Nat} {s : AS} {ow : List (Key × V)} {m : List Pl} (h : TabS n s ow m) (k : MKey) (kv : V) (c : Nat) : TabS n (s.give k c) (gone ow ((s.pl k).drop c).reverse) (mPut m k kv ((s.pl k).take c)) := by
  refine ⟨fun j => ?_, fun p p0 p1 => ?_⟩
  · rw [placesOf_put, h.1]
    rfl
  · rw [valV_gone]
    show _ = if p ∈ (s.pl k).drop c then false else s.oc p
    by_cases hp : p ∈ (s.pl k).drop c
    · rw [if_pos hp, if_pos (List.mem_reverse.mpr hp)]; rfl
    · rw [if_neg hp, if_neg (fun z => hp (List.mem_reverse.mp z))]; exact h.2 p p0 p1
theorem TabS.took {n : Nat} {s : AS} {ow : List (Key × V)} {m : List Pl} (h : TabS n s ow m) (k : MKey) (kv : V) (c : Nat) : TabS n (s.took n k c) (given ow kv ((frl n s.oc).take (c - (s.pl k).length))) (mPut m k kv (s.pl k ++ (frl n s.oc).take (c - (s.pl k).length))) := by
  refine ⟨fun j => ?_, fun p p0 p1 => ?_⟩
  · rw [placesOf_put, h.1]
    rfl
  · rw [valV_given]
    show _ = if p ∈ (frl n s.oc).take (c - (s.pl k).length) then true else s.oc p
    split
    · rfl
    · exact h.2 p p0 p1
theorem Newly.refl (H : Hp) (tk : List MVal) : Newly H tk tk := fun x hx => .inl ⟨x, hx, rfl⟩
theorem Newly.trans {H H1 : Hp} {tk tk1 tk2 : List MVal} (a : Newly H tk tk1) (b : Newly H1 tk1 tk2) (h : ∀ l, H1 l = none → H l = none) : Newly H tk tk2 := fun x hx => by
  rcases b x hx with ⟨y, hy, e⟩ | ⟨l, e, hl⟩
  · rcases a y hy with ⟨z, hz, e2⟩ | ⟨l, e2, hl⟩
    · exact .inl ⟨z, hz, e2.trans e⟩
    · exact .inr ⟨l, e ▸ e2, hl⟩
  · exact .inr ⟨l, e, h l hl⟩
def spTold (P : Program) (w : World) (K : PySem.W.Frag) (C N : Addr) : Sp := fun vs H Q E => ∃ (t od td wl : Addr) (n : Nat) (ow : List (Key × V)) (tk : List MVal) (m : List Pl) (S : AS) (W : Wl) (ts : List V), vs = [.ref t, .ref wl] ∧ TabAt P w K C H t od td n ow tk m ∧ TabS n S ow m ∧ S.Ok n ∧
  H wl = some (.lst ts) ∧ WAt K H ts W ∧ (∀ x ∈ W, 0 ≤ x.2) ∧ (W.map (·.1)).Nodup ∧ W.length ≤ 5 ∧ n ≤ 1000 ∧ tk.length ≤ 5000 ∧ ow.length ≤ 500000 ∧
  (needS S W ≤ ((frl n S.oc).length : Int) → ∀ (l : Addr) (ow' : List (Key × V)) (tk' : List MVal) (m' : List Pl) H', Off od td H H' → TabAt P w K C H' t od td n ow' tk' m' → TabS n (tookAll n (giveAll S W) W) ow' m' → H l = none → H' l = some (.lst ((backAll S W).map V.int)) → Newly H tk tk' → (∀ x ∈ tk', x.2.2 ≠ .ref l) → tk'.length ≤ tk.length + 10 → ow'.length ≤ ow.length + 5000 → Q (.ref l) H') ∧
  (((frl n S.oc).length : Int) < needS S W → ∀ H', Same H H' → E (.ref N) none H')
theorem take_nx {α : Type} {l : List α} {i : Nat} {x : α} (h : l[i]? = some x) : l.take (i + 1) = l.take i ++ [x] := by
  rw [List.take_add_one, h]
  rfl
theorem backAll_len {n : Nat} : ∀ (W : Wl) {s : AS}, s.Ok n → (backAll s W).length ≤ n * W.length
  | [], _, _ => Nat.zero_le _
  | x :: r, s, h => by
    show (_ ++ backAll _ r).length ≤ n * (r.length + 1)
    have ih := backAll_len r (h.give x.1 x.2.toNat)
    have h1 := nd_ints (h.nd x.1) fun p hp => ⟨(h.in_ x.1 p hp).1, (h.in_ x.1 p hp).2.1⟩
    rw [List.length_append, List.length_reverse, List.length_drop, Nat.mul_add, Nat.mul_one]
    omega
section
variable {P : Program} {w : World} {K : PySem.W.Frag} {mg : Str → Option Value} {base : Heap} {a : Adr}
theorem ok_Table_told (T : Txt K mg a) : FnOk P w K mg base (CXe P w) 3 a.Table_told a.fd_Table_told ["self", "wanted"] (spTold P w K a.Table a.NoRoom) := by
  refine T.f_Table_told.okE sc_Table_told (fun vs H Q E h => ?_) (fun cdv A outer s H vs Q E hr h => ?_)
  · obtain ⟨t, od, td, wl, n, ow, tk, m, S, W, ts, rfl, _⟩ := h
    rfl
  · obtain ⟨t, od, td, wl, n, ow, tk, m, S, W, ts, rfl, hT, hS, hO, hwl, hW, hW0, hWn, hW5, hn, htk, hol, q, qe⟩ := h
    refine ⟨_, (pss_cons (ps_set (i := 2) sc_Table_told.nd rfl (by first | exact Or.inl rfl | exact Or.inr rfl) (pe_callB (call_sumK K rfl rfl) (by rfl) T.n_sum L2.boot_sum (pa_cons (comp_of ["self", "wanted", "more", "back", "owner", "number"] [] [4, 5] [4, 5] (defScope s_Table_told) rfl rfl rfl (by decide +kernel) (by decide +kernel) (gk_two _ 4 5)
    (pi_listK K rfl (pv 1)) (fun cl C s₀ H₀ ex => ⟨(pg_tupK K rfl rfl (pgs_cons (pg_name (i := 4) (show List.Nodup ((["self", "wanted", "more", "back", "owner", "number"] : List PySem.Str) ++ ([] : List PySem.Str)) by decide +kernel) rfl (by first | exact Or.inl rfl | exact Or.inr rfl)) (pgs_cons (pg_name (i := 5) (show List.Nodup ((["self", "wanted", "more", "back", "owner", "number"] : List PySem.Str) ++ ([] : List PySem.Str)) by decide +kernel) rfl (by first | exact Or.inl rfl | exact Or.inr rfl)) pgs_nil))), pts_nil, (pe_op op_sub (pv 5) (pe_callB (call_lenK K rfl) (by rfl) T.n_len L2.boot_len (pa_cons (pe_meth (pv 0) T.cls_Table T.mt_Table_places_of ((ok_Table_places_of (P := P) (w := w) T).mono (by first | decide | omega)) hr T.b_Table_places_of .nil pass0 (pa_cons (pv 4) pa_nil)) pa_nil)))⟩)) pa_nil)))
  (pss_cons (ps_if (pt_cmpR op_gt (pv 2) (pe_callB (call_lenK K rfl) (by rfl) T.n_len L2.boot_len (pa_cons (pe_meth0 (pv 0) T.cls_Table T.mt_Table_free ((ok_Table_free (P := P) (w := w) T).mono (by first | decide | omega)) hr T.b_Table_free .nil pass0) pa_nil)) (nomark _)) (pss_one (ps_raise T.ex_NoRoom rfl T.m_NoRoom rfl raise_on (pa_cons pe_str pa_nil))) pss_nil)
  (pss_cons (ps_set (i := 3) sc_Table_told.nd rfl (by first | exact Or.inl rfl | exact Or.inr rfl) (pe_lst pa_nil))
  (pss_cons (PS.nox (ps_for PassesOwn.never rfl (pi_listK K rfl (pv 1)) (pg_tupK K rfl rfl (pgs_cons (pg_name (i := 4) sc_Table_told.nd rfl (by first | exact Or.inl rfl | exact Or.inr rfl)) (pgs_cons (pg_name (i := 5) sc_Table_told.nd rfl (by first | exact Or.inl rfl | exact Or.inr rfl)) pgs_nil)))
  (pss_one (ps_expr (pe_bmK K rfl PySem.F.plainAttrs_list PySem.F.slot_list_extend PySem.F.type_list_extend mt_extend (pv 3) (pa_cons (pe_meth (pv 0) T.cls_Table T.mt_Table_give_back ((ok_Table_give_back (P := P) (w := w) T).mono (by first | decide | omega)) hr T.b_Table_give_back .nil pass0 (pa_cons (pv 4) (pa_cons (pv 5) pa_nil))) pa_nil))))))
  (pss_cons (PS.nox (ps_for PassesOwn.never rfl (pi_listK K rfl (pv 1)) (pg_tupK K rfl rfl (pgs_cons (pg_name (i := 4) sc_Table_told.nd rfl (by first | exact Or.inl rfl | exact Or.inr rfl)) (pgs_cons (pg_name (i := 5) sc_Table_told.nd rfl (by first | exact Or.inl rfl | exact Or.inr rfl)) pgs_nil)))
  (pss_one (ps_expr (pe_meth (pv 0) T.cls_Table T.mt_Table_take ((ok_Table_take (P := P) (w := w) T).mono (by first | decide | omega)) hr T.b_Table_take .nil pass0 (pa_cons (pv 4) (pa_cons (pv 5) pa_nil)))))))
  (pss_one (ps_ret (pv 3)))))))), ?_⟩
    obtain ⟨dx, hI⟩ := hT.ins
    have htl : ts.length = W.length := Paired.length hW
    refine ⟨_, rfl, wl, rfl, ⟨_, SqL.of hwl⟩, fun D hD => ?_⟩
    refine comp_list (K := K) (a := wl) (xs := ts) (fun i acc H' => Same H H' ∧ H' D = some (.lst acc) ∧ acc = ((W.take i).map fun x => x.2 - ((S.pl x.1).length : Int)).map V.int) ⟨same_new (Same.refl _) hD, upd_same, rfl⟩ (fun i acc H' _ h => SqL.of (h.1 _ _ hwl)) ?_ ?_
    · rintro i v acc H1 hv ⟨s1, hD1, rfl⟩
      have hi : i < ts.length := (List.getElem?_eq_some_iff.mp hv).1
      obtain ⟨x, hx, b, kv, rfl, hb, hk⟩ := hW.get i v hv
      refine ⟨b, _, rfl, Same.tseq s1 hb, rfl, _, _, rfl, gName_ ⟨_, _, rfl, gName_ ⟨rfl, yes_ (iteT ?_)⟩⟩⟩
      refine ⟨_, rfl, _, rfl, t, dx, _, rfl, s1 _ _ hI, rfl, _, rfl, t, od, td, n, ow, tk, m, x.1, kv, rfl, hT.same s1, keyAt_same s1 hk, fun lp H2 s2 lpn hlp => ?_⟩
      refine ⟨_, _, rfl, .inl ⟨_, SqL.of hlp, rfl⟩, _, _, rfl, rfl, s2 _ _ hD1, by rw [List.length_map, List.length_map, List.length_take, sizeLine_eq]; omega, lf hi ⟨same_upd (s1.trans s2) hD, upd_same, ?_⟩⟩
      rw [take_nx hx, List.map_append, List.map_append, hS.1, List.length_map]
      rfl
    · rintro acc H1 ⟨s1, hD1, rfl⟩
      rw [List.take_of_length_le (by omega)] at hD1
      refine ⟨D, _, rfl, .inl (SqL.of hD1), gName_ ?_⟩
      have hT1 := hT.same s1
      refine ⟨_, rfl, _, rfl, t, dx, _, rfl, s1 _ _ hI, rfl, t, od, td, n, ow, tk, m, rfl, hT1, hn, fun lf0 H2 s2 lfn hlf => ?_⟩
      rw [hS.free] at hlf
      refine ⟨_, _, rfl, .inl ⟨_, SqL.of hlf, rfl⟩, _, _, rfl, rfl, _, rfl, ?_⟩
      have s12 := s1.trans s2
      rw [List.length_map]
      refine iteB (fun e => ⟨le_size (show _ ≤ 65536 by simp), qe (of_decide_eq_true e) H2 s12⟩) (fun e => nx_ ⟨le_size (show _ ≤ 65536 by simp), fun lb hlb => gName_ ?_⟩)
      have q := q (Int.not_lt.mp (of_decide_eq_false e))
      clear e qe
      have hT2 := hT.same s12
      have s3 := same_new (o := .lst []) (Same.refl H2) hlb
      have hlb3 : upd H2 lb (.lst []) lb = some (.lst []) := upd_same
      have hlbn : H lb = none := s12.free hlb
      generalize upd H2 lb (.lst []) = H3 at s3 hlb3 ⊢
      have hwl2 := s12 _ _ hwl
      refine ⟨_, rfl, wl, rfl, ⟨_, SqL.of (s3 _ _ hwl2)⟩, ?_⟩
      have hlbod : lb ≠ od := fun z => by have e := hT2.own; rw [← z, hlb] at e; cases e
      have hlbtd : lb ≠ td := fun z => by have e := hT2.tak; rw [← z, hlb] at e; cases e
      have nwl1 : wl ≠ od := fun z => by have e := hT2.own; rw [← z, hwl2] at e; cases e
      have nwl2 : wl ≠ td := fun z => by have e := hT2.tak; rw [← z, hwl2] at e; cases e
      have nwl : wl ≠ od ∧ wl ≠ td := ⟨nwl1, nwl2⟩
      have hnl0 : ∀ x ∈ tk, x.2.2 ≠ .ref lb := fun x hx z => by
        obtain ⟨i, hi⟩ := List.mem_iff_getElem?.mp hx
        obtain ⟨y, _, l, e3, e4⟩ := TkAt.at_ hT2.lsts i x hi
        rw [e3] at z
        cases z
        rw [hlb] at e4
        cases e4
      have new0 : Newly H2 tk tk := Newly.refl _ _
      have fresh : ∀ H', Off od td H2 H' → H' od ≠ none → H' td ≠ none → ∀ l, H' l = none → H2 l = none := fun H' o h1 h2 l hl => off_none o h1 h2 hl
      refine for_list (xs := ts) (fun i σ H' => ∃ ow' tk' m', Off od td H2 H' ∧ TabAt P w K a.Table H' t od td n ow' tk' m' ∧ TabS n (giveAll S (W.take i)) ow' m' ∧ Newly H2 tk tk' ∧ tk'.length ≤ tk.length + i ∧ ow'.length ≤ ow.length ∧ (∀ x ∈ tk', x.2.2 ≠ .ref lb) ∧ H' lb = some (.lst ((backAll S (W.take i)).map V.int)) ∧
          (∀ j x, j < i → W[j]? = some x → ((placesOf m' x.1).length : Int) ≤ x.2) ∧ ∃ v2 v4 v5, σ = [some (.ref t), some (.ref wl), v2, some (.ref lb), v4, v5])
        ⟨ow, tk, m, .of s3, hT2.same s3, hS, new0, Nat.le_refl _, Nat.le_refl _, hnl0, hlb3, fun j x hj => absurd hj (Nat.not_lt_zero _), _, _, _, rfl⟩ (fun i σ H' _ h => by obtain ⟨_, _, _, o, _⟩ := h; exact SqL.of (o _ _ hwl2 nwl.1 nwl.2)) ?_ ?_
      · rintro i v σ H4 hv ⟨ow', tk', m', o4, hT4, hS4, new4, htk4, how4, hnl4, hbs4, hle4, v2, v4, v5, rfl⟩
        have hi : i < ts.length := (List.getElem?_eq_some_iff.mp hv).1
        obtain ⟨x, hx, b, kv, rfl, hb, hk⟩ := hW.get i v hv
        have hx0 := hW0 x (List.mem_of_getElem? hx)
        obtain ⟨dx4, hI4⟩ := hT4.ins
        have oH4 : Off od td H H4 := (Off.of s12).trans o4
        have hO4 := giveAll_ok (W.take i) hO
        have etk := take_nx hx
        have epl := hS4.1 x.1
        have hpl : (placesOf m' x.1).length ≤ n := by rw [epl]; exact nd_ints (hO4.nd x.1) fun p hp => ⟨(hO4.in_ x.1 p hp).1, (hO4.in_ x.1 p hp).2.1⟩
        have hbl := backAll_len (W.take i) hO
        have hbl2 : n * (W.take i).length ≤ 1000 * 5 := Nat.mul_le_mul hn (by rw [List.length_take]; omega)
        refine ⟨b, _, rfl, off_tq oH4 hT.own hT.tak hb, rfl, _, _, rfl, gName_ ⟨_, _, rfl, gName_ ⟨rfl, ?_⟩⟩⟩
        refine ⟨_, rfl, .inl ⟨rfl, _, SqL.of hbs4⟩, _, rfl, t, dx4, _, rfl, hI4, rfl, _, rfl, _, rfl, t, od, td, n, ow', tk', m', x.1, kv, x.2, rfl, hT4, keyAt_off oH4 hT.own hT.tak hk, hx0, by omega, fun p hp => ?_, by rw [epl]; exact hO4.nd x.1, fun l tk5 H5 o5 ln5 hl5 htk5 new5 hT5 => ?_⟩
        · rw [epl] at hp
          obtain ⟨p0, p1, p2⟩ := hO4.in_ x.1 p (List.mem_of_mem_drop hp)
          rw [hS4.2 p p0 p1]; exact p2
        · have hlb5 := o5 _ _ hbs4 hlbod hlbtd
          have hnl5 : ∀ y ∈ tk5, y.2.2 ≠ .ref lb := fun y hy z => by
            rcases new5 y hy with ⟨y', hy', e⟩ | ⟨l', e, hn'⟩
            · exact hnl4 y' hy' (e.trans z)
            · rw [e] at z
              cases z
              rw [hbs4] at hn'
              cases hn'
          have hgl : (gone ow' ((placesOf m' x.1).drop x.2.toNat).reverse).length ≤ ow'.length := gone_len _ _
          have new45 : Newly H2 tk tk5 := new4.trans new5 (fresh H4 o4 (by rw [hT4.own]; simp) (by rw [hT4.tak]; simp))
          have hS5 := hS4.give x.1 kv x.2.toNat
          rw [epl] at hl5 hT5 hgl
          refine ⟨lb, l, _, _, rfl, rfl, hlb5, hl5, by rw [List.length_map, List.length_map, List.length_reverse, List.length_drop, sizeLine_eq]; rw [epl] at hpl; omega, ?_⟩
          refine ⟨_, tk5, _, fun c o e h1 h2 => ?_, hT5.list hlb5 hnl5, by rw [etk, giveAll_snoc]; exact hS5, new45, by omega, by omega, hnl5, ?_, fun j y hj hy => ?_, _, _, _, rfl⟩
          · rw [upd_ne (fun z => by rw [z, hlb] at e; cases e)]
            exact o5 _ _ (o4 c o e h1 h2) h1 h2
          · rw [etk, backAll_snoc, List.map_append]
            exact upd_same
          · rw [placesOf_put]
            split
            · rename_i e
              rcases Nat.lt_or_ge j i with hji | hji
              · have h1 := hle4 j y hji hy
                rw [e, epl] at h1
                rw [List.length_take]
                omega
              · have : j = i := by omega
                subst this
                rw [hx] at hy
                cases hy
                rw [List.length_take]
                omega
            · rename_i e
              rcases Nat.lt_or_ge j i with hji | hji
              · exact hle4 j y hji hy
              · have : j = i := by omega
                subst this
                rw [hx] at hy
                cases hy
                exact absurd rfl e
      · rintro σ H4 ⟨ow', tk', m', o4, hT4, hS4, new4, htk4, how4, hnl4, hbs4, hle4, v2, v4, v5, rfl⟩
        rw [List.take_of_length_le (by omega)] at hS4 hbs4
        have hO4 := giveAll_ok W hO
        refine ⟨_, rfl, wl, rfl, ⟨_, SqL.of (o4 _ _ hwl2 nwl.1 nwl.2)⟩, ?_⟩
        refine for_list (xs := ts) (fun i σ H' => ∃ ow5 tk5 m5, Off od td H2 H' ∧ TabAt P w K a.Table H' t od td n ow5 tk5 m5 ∧ TabS n (tookAll n (giveAll S W) (W.take i)) ow5 m5 ∧ Newly H2 tk tk5 ∧ (∀ x ∈ tk5, x.2.2 ≠ .ref lb) ∧ H' lb = some (.lst ((backAll S W).map V.int)) ∧ tk5.length ≤ tk'.length + i ∧ ow5.length ≤ ow'.length + 1000 * i ∧ (∀ j x, i ≤ j → W[j]? = some x → ((placesOf m5 x.1).length : Int) ≤ x.2) ∧ ∃ v4 v5, σ = [some (.ref t), some (.ref wl), v2, some (.ref lb), v4, v5])
          ⟨ow', tk', m', o4, hT4, hS4, new4, hnl4, hbs4, Nat.le_refl _, Nat.le_refl _, fun j x _ hx => hle4 j x (by rw [htl]; exact (List.getElem?_eq_some_iff.mp hx).1) hx, _, _, rfl⟩ (fun i σ H' _ h => by obtain ⟨_, _, _, o, _⟩ := h; exact SqL.of (o _ _ hwl2 nwl.1 nwl.2)) ?_ ?_
        · rintro i v σ H5 hv ⟨ow5, tk5, m5, o5, hT5, hS5, new5, hnl5, hbs5, htk5, how5, hle5, v4, v5, rfl⟩
          have hi : i < ts.length := (List.getElem?_eq_some_iff.mp hv).1
          obtain ⟨x, hx, b, kv, rfl, hb, hk⟩ := hW.get i v hv
          have hx0 := hW0 x (List.mem_of_getElem? hx)
          obtain ⟨dx5, hI5⟩ := hT5.ins
          have oH5 : Off od td H H5 := (Off.of s12).trans o5
          have hO5 := tookAll_ok (W.take i) hO4
          have etk := take_nx hx
          have epl := hS5.1 x.1
          have hpl : (placesOf m5 x.1).length ≤ n := by rw [epl]; exact nd_ints (hO5.nd x.1) fun p hp => ⟨(hO5.in_ x.1 p hp).1, (hO5.in_ x.1 p hp).2.1⟩
          have hle5i := hle5 i x (Nat.le_refl _) hx
          refine ⟨b, _, rfl, off_tq oH5 hT.own hT.tak hb, rfl, _, _, rfl, gName_ ⟨_, _, rfl, gName_ ⟨rfl, ?_⟩⟩⟩
          refine ⟨_, rfl, t, dx5, _, rfl, hI5, rfl, _, rfl, _, rfl, t, od, td, n, ow5, tk5, m5, x.1, kv, x.2, rfl, hT5, keyAt_off oH5 hT.own hT.tak hk, hn, hle5i, by omega, by omega, by omega, fun tk6 H6 o6 htk6 new6 hT6 => ?_⟩
          have eq6 : (x.2 - ((placesOf m5 x.1).length : Int)).toNat = x.2.toNat - (((tookAll n (giveAll S W) (W.take i)).pl x.1).length) := by rw [← epl]; omega
          rw [eq6, hS5.free, epl] at hT6
          have hgl := given_len kv ((frl n (tookAll n (giveAll S W) (W.take i)).oc).take (x.2.toNat - (((tookAll n (giveAll S W) (W.take i)).pl x.1).length))) ow5
          have htl3 : ((frl n (tookAll n (giveAll S W) (W.take i)).oc).take (x.2.toNat - (((tookAll n (giveAll S W) (W.take i)).pl x.1).length))).length ≤ 1000 := by
            have := frl_le n (tookAll n (giveAll S W) (W.take i)).oc
            rw [List.length_take]; omega
          have hS6 := hS5.took x.1 kv x.2.toNat
          have hnl6 : ∀ y ∈ tk6, y.2.2 ≠ .ref lb := fun y hy z => by
            rcases new6 y hy with ⟨y', hy', e⟩ | ⟨l', e, hn'⟩
            · exact hnl5 y' hy' (e.trans z)
            · rw [e] at z
              cases z
              rw [hbs5] at hn'
              cases hn'
          refine ⟨_, tk6, _, o5.trans o6, hT6, by rw [etk, tookAll_snoc]; exact hS6, new5.trans new6 (fresh H5 o5 (by rw [hT5.own]; simp) (by rw [hT5.tak]; simp)), hnl6, o6 _ _ hbs5 hlbod hlbtd, by omega, by omega, fun j y hj hy => ?_, _, _, rfl⟩
          rw [placesOf_put, if_neg (fun z => ?_)]
          · exact hle5 j y (by omega) hy
          · have e1 : (W.map (·.1))[j]? = some x.1 := by rw [List.getElem?_map, hy, ← z]; rfl
            have e2 : (W.map (·.1))[i]? = some x.1 := by rw [List.getElem?_map, hx]; rfl
            have := (List.getElem?_inj (List.getElem?_eq_some_iff.mp e1).1 hWn).mp (e1.trans e2.symm)
            omega
        · rintro σ H5 ⟨ow5, tk5, m5, o5, hT5, hS5, new5, hnl5, hbs5, htk5, how5, _, v4, v5, rfl⟩
          rw [List.take_of_length_le (by omega)] at hS5
          exact ⟨_, rfl, q lb ow5 tk5 m5 H5 ((Off.of s12).trans o5) hT5 hS5 hlbn hbs5 (Newly.trans (Newly.refl H tk) new5 fun l hl => s12.free hl) hnl5 (by omega) (by omega)⟩
end
def spWhole (K : PySem.W.Frag) : Sp := fun vs H Q _ => ∃ z, vs = [.int z] ∧ Q (.bl true) H
section
variable {P : Program} {w : World} {K : PySem.W.Frag} {mg : Str → Option Value} {base : Heap} {a : Adr}
theorem ok_Lwhole (T : Txt K mg a) : FnOk P w K mg base CX0 1 a.Lwhole a.fd_Lwhole ["_law_found"] (spWhole K) := by
  refine T.f_Lwhole.ok sc_Lwhole (fun vs H Q E h => ?_) (fun cdv A outer s H vs Q E hr h => ?_)
  · obtain ⟨x, rfl, _⟩ := h
    rfl
  · obtain ⟨z, rfl, k⟩ := h
    refine ⟨_, (pss_one (ps_ret (pe_and (pe_callB (call_isiK K rfl) (by rfl) T.n_isinstance L2.boot_isinstance (pa_cons (pv 0) (pa_cons (pe_ty rfl T.n_int L2.boot_int) pa_nil))) (pe_one (pe_not (pe_callB (call_isiK K rfl) (by rfl) T.n_isinstance L2.boot_isinstance (pa_cons (pv 0) (pa_cons (pe_ty rfl T.n_bool L2.boot_bool) pa_nil)))))))), ?_⟩
    refine ⟨_, rfl, _, "int", _, true, rfl, .int z, kit_tt (by decide +kernel), true, rfl, iteT ?_⟩
    exact ⟨_, rfl, _, "bool", _, false, rfl, .int z, kit_tt (by decide +kernel), false, rfl, k⟩
end
theorem cutQ {t u : TS} {D : Ends} {σ : St} {H : Hp} (J : St → Hp → Prop) (h1 : ∀ σ H, J σ H → u D σ H) (h2 : ∀ N : St → Hp → Prop, (∀ σ H, J σ H → N σ H) → t { D with nx := N } σ H) : tSeq t u D σ H := h2 (u D) h1
theorem keyAt_kp {K : PySem.W.Frag} {H H' : Hp} (e : Kp H H') {k : MKey} {v : V} (h : KeyAt K H k v) : KeyAt K H' k v := by
  cases k with
  | inl k => exact h
  | inr ks => obtain ⟨b, h1, h2⟩ := h; exact ⟨b, h1, e.tq h2⟩
theorem WAt.kp {K : PySem.W.Frag} {H H' : Hp} (e : Kp H H') : ∀ {ts : List V} {W : Wl}, WAt K H ts W → WAt K H' ts W
  | _, _, .nil => .nil
  | _, _, .cons ⟨b, kv, h1, h2, h3⟩ t => .cons ⟨b, kv, h1, e.tq h2, keyAt_kp e h3⟩ (WAt.kp e t)
def spAsked (P : Program) (w : World) (K : PySem.W.Frag) (C : Addr) : Sp := fun vs H Q _ => ∃ (t od td wl : Addr) (n : Nat) (ow : List (Key × V)) (tk : List MVal) (m : List Pl) (S : AS) (W : Wl) (ts : List V) (ds : List PyData), vs = [.ref t, .ref wl] ∧ TabAt P w K C H t od td n ow tk m ∧ TabS n S ow m ∧ S.Ok n ∧
  H wl = some (.lst ts) ∧ WAt K H ts W ∧ (∀ x ∈ W, 0 ≤ x.2) ∧ (W.map (·.1)).Nodup ∧ W.length ≤ 5 ∧ n ≤ 1000 ∧ tk.length ≤ 5000 ∧ ow.length ≤ 500000 ∧ (∀ H', Kp H H' → IsPs K H' ts ds) ∧ SeqAt.shaped (.list ds) = true ∧
  (needS S W ≤ ((frl n S.oc).length : Int) → ∀ (l : Addr) (ow' : List (Key × V)) (tk' : List MVal) (m' : List Pl) H', Off od td H H' → TabAt P w K C H' t od td n ow' tk' m' → TabS n (tookAll n (giveAll S W) W) ow' m' → H l = none → H' l = some (.lst ((backAll S W).map V.int)) → Newly H tk tk' → (∀ x ∈ tk', x.2.2 ≠ .ref l) → tk'.length ≤ tk.length + 10 → ow'.length ≤ ow.length + 5000 → Q (.ref l) H') ∧
  (((frl n S.oc).length : Int) < needS S W → ∀ H', Same H H' → Q .non H')
theorem shaped_eqv {d : PyData} (h : SeqAt.shaped d = true) : PyData.eqv d d = true := by
  unfold SeqAt.shaped at h
  rw [Bool.and_eq_true] at h
  exact SeqAt.eqv_refl d h.1
section
variable {P : Program} {w : World} {K : PySem.W.Frag} {mg : Str → Option Value} {base : Heap} {a : Adr}
theorem ok_Lasked (T : Txt K mg a) : FnOk P w K mg base CX0 4 a.Lasked a.fd_Lasked ["_law_table", "_law_wanted_here"] (spAsked P w K a.Table) := by
  refine T.f_Lasked.ok sc_Lasked (fun vs H Q E h => ?_) (fun cdv A outer s H vs Q E hr h => ?_)
  · obtain ⟨t, od, td, wl, n, ow, tk, m, S, W, ts, ds, rfl, _⟩ := h
    rfl
  · obtain ⟨t, od, td, wl, n, ow, tk, m, S, W, ts, ds, rfl, hT, hS, hO, hwl, hW, hW0, hWn, hW5, hn, htk, hol, hD, hsh, q, qn⟩ := h
    refine ⟨_, (pss_cons (ps_set (i := 2) sc_Lasked.nd rfl (by first | exact Or.inl rfl | exact Or.inr rfl) pe_non)
  (pss_cons (ps_set (i := 3) sc_Lasked.nd rfl (by first | exact Or.inl rfl | exact Or.inr rfl) (pe_callTy (call_listK K rfl) (by rfl) T.n_list L2.boot_list (pa_cons (pv 1) pa_nil)))
  (pss_cons (ps_try rfl rfl T.ex_NoRoom rfl T.m_NoRoom (fun E pins σ Xe hx => (set_at (i := 2) sc_Lasked.nd rfl (by first | exact Or.inl rfl | exact Or.inr rfl) (meth_at (pv 0) T.cls_Table T.mt_Table_told ((ok_Table_told (P := P) (w := w) T).mono (by first | decide | omega)) hr T.b_Table_told .nil hx (pa_cons (pv 3) pa_nil)))) (fun ea => (pss_one (ps_set (i := 2) sc_Lasked.nd rfl (by first | exact Or.inl rfl | exact Or.inr rfl) pe_non))))
  (pss_cons (ps_if (pt_cmpR (op_nePK K rfl (hu64 hr)) (pv 3) (pv 1) (nomark _)) (pss_one (ps_ret pe_str)) pss_nil)
  (pss_one (ps_ret (pv 2))))))), ?_⟩
    dsimp only [tSeq]
    refine asg_const ?_
    refine ⟨_, rfl, wl, ts, rfl, .inl (SqL.of hwl), fun lh hlh => gName_ ?_⟩
    have s1 := same_new (o := .lst ts) (Same.refl H) hlh
    have hlh1 : upd H lh (.lst ts) lh = some (.lst ts) := upd_same
    generalize upd H lh (.lst ts) = H1 at s1 hlh1 ⊢
    have hT1 := hT.same s1
    obtain ⟨dx1, hI1⟩ := hT1.ins
    have nlh : lh ≠ od ∧ lh ≠ td := ⟨fun z => (by have e := hT1.own; rw [← z, hlh1] at e; cases e), fun z => (by have e := hT1.tak; rw [← z, hlh1] at e; cases e)⟩
    have nwl : wl ≠ od ∧ wl ≠ td := ⟨fun z => (by have e := hT.own; rw [← z, hwl] at e; cases e), fun z => (by have e := hT.tak; rw [← z, hwl] at e; cases e)⟩
    have okp : ∀ {H'}, Off od td H1 H' → Kp H H' := fun {H'} o => (Kp.of s1).trans ⟨fun u xs e => o.tp hT1.own hT1.tak e, fun u ob ⟨o', e⟩ => ⟨o', o u _ e (fun z => by rw [z, hT1.own] at e; cases e) (fun z => by rw [z, hT1.tak] at e; cases e)⟩⟩
    dsimp only
    refine cutQ (fun σ H' => Off od td H1 H' ∧ ((needS S W ≤ ((frl n S.oc).length : Int) ∧ ∃ (l : Addr) (ow' : List (Key × V)) (tk' : List MVal) (m' : List Pl), TabAt P w K a.Table H' t od td n ow' tk' m' ∧ TabS n (tookAll n (giveAll S W) W) ow' m' ∧ H1 l = none ∧ H' l = some (.lst ((backAll S W).map V.int)) ∧ Newly H1 tk tk' ∧ (∀ x ∈ tk', x.2.2 ≠ .ref l) ∧ tk'.length ≤ tk.length + 10 ∧ ow'.length ≤ ow.length + 5000 ∧ σ = [some (.ref t), some (.ref wl), some (.ref l), some (.ref lh)]) ∨
      (((frl n S.oc).length : Int) < needS S W ∧ Same H1 H' ∧ σ = [some (.ref t), some (.ref wl), some .non, some (.ref lh)]))) ?A (fun Nn hJ => ?B)
    case B =>
      refine ⟨_, rfl, t, dx1, _, rfl, hI1, rfl, _, rfl, t, od, td, lh, n, ow, tk, m, S, W, ts, rfl, hT1, hS, hO, hlh1, hW.kp (.of s1), hW0, hWn, hW5, hn, htk, hol, fun hle l ow' tk' m' H2 off hT2 hS2 hl hl2 nw nl b1 b2 => hJ _ _ ⟨off, .inl ⟨hle, l, ow', tk', m', hT2, hS2, hl, hl2, nw, nl, b1, b2, rfl⟩⟩, fun hlt H2 s2 => ⟨rfl, gName_ (hJ _ _ ⟨.of s2, .inr ⟨hlt, s2, rfl⟩⟩)⟩⟩
    case A =>
      rintro σ H2 ⟨off, hc⟩
      have hlh2 := off _ _ hlh1 nlh.1 nlh.2
      have hwl2 := off _ _ (s1 _ _ hwl) nwl.1 nwl.2
      have hps := hD _ (okp off)
      rcases hc with ⟨hle, l, ow', tk', m', hT2, hS2, hl, hl2, nw, nl, b1, b2, rfl⟩ | ⟨hlt, s2, rfl⟩
      · refine ⟨_, rfl, _, rfl, .list ds, .list ds, .lst (SqL.of hlh2) hps, .lst (SqL.of hwl2) hps, hsh, hsh, _, rfl, ?_⟩
        rw [shaped_eqv hsh]
        exact iteF (nx_ ⟨_, rfl, q hle l ow' tk' m' H2 ((Off.of s1).trans off) hT2 hS2 (s1.free hl) hl2 (Newly.trans (Newly.refl H tk) nw fun l h => s1.free h) nl b1 b2⟩)
      · refine ⟨_, rfl, _, rfl, .list ds, .list ds, .lst (SqL.of hlh2) hps, .lst (SqL.of hwl2) hps, hsh, hsh, _, rfl, ?_⟩
        rw [shaped_eqv hsh]
        exact iteF (nx_ ⟨_, rfl, qn hlt H2 (s1.trans s2)⟩)
end
def stemOf (N : Int) : Str := match (N % 4).toNat with
  | 0 => ""
  | 1 => "soap"
  | 2 => "aaaaaaaa"
  | _ => "two words"
def letterOf (k : Nat) : Str := ⟨#[97 + k]⟩
def atOf (N : Int) : Int := N / 4 % (((stemOf N).length : Int) + 1)
def oName (N : Int) (k : Nat) : Str := Txt.slice (stemOf N) none (some (atOf N)) ++ letterOf k ++ Txt.slice (stemOf N) (some (atOf N)) none
def oKey (N : Int) (k : Nat) : MKey := if N / 160 % 4 = 0 ∧ k < 2 then (if k = 0 then .inl (.inr "") else .inr []) else match (N / 40 % 4).toNat with
  | 0 => .inl (.inr (oName N k))
  | 1 => .inr [.inr (oName N k), .inr "old"]
  | 2 => .inr [.inr "old", .inr (oName N k)]
  | _ => .inr [.inr "old", .inr (stemOf N), .inr (oName N k)]
def KeyH (H : Hp) (k : MKey) (v : V) : Prop := match k with
  | .inl k => v = kV k
  | .inr ks => ∃ a, v = .ref a ∧ H a = some (.tup (ks.map kV))
theorem stem_len (N : Int) : (stemOf N).length ≤ 9 := by
  unfold stemOf
  split <;> decide +kernel
theorem letter_at {k : Nat} (h : k < 8) : atI ("abcdefgh" : Str).cps.toList (k : Int) = some (97 + k) := by
  rcases (by omega : k = 0 ∨ k = 1 ∨ k = 2 ∨ k = 3 ∨ k = 4 ∨ k = 5 ∨ k = 6 ∨ k = 7) with rfl | rfl | rfl | rfl | rfl | rfl | rfl | rfl <;> decide +kernel
theorem stem_at {N : Int} : atI [V.str "", V.str "soap", V.str "aaaaaaaa", V.str "two words"] (N % 4) = some (V.str (stemOf N)) := by
  have h1 : 0 ≤ N % 4 := Int.emod_nonneg _ (by decide)
  have h2 : N % 4 < 4 := Int.emod_lt_of_pos _ (by decide)
  unfold stemOf
  rcases (by omega : N % 4 = 0 ∨ N % 4 = 1 ∨ N % 4 = 2 ∨ N % 4 = 3) with e | e | e | e <;> rw [e] <;> rfl
def spOwner : Sp := fun vs H Q _ => ∃ (N : Int) (k : Nat), vs = [.int N, .int k] ∧ 0 ≤ N ∧ N < 2147483648 ∧ k < 8 ∧ ∀ v H', Same H H' → KeyH H' (oKey N k) v → Q v H'
theorem name_inj {N : Int} {i j : Nat} (h : oName N i = oName N j) : i = j := by
  have h : ((Txt.slice (stemOf N) none (some (atOf N))).cps ++ #[97 + i] ++ (Txt.slice (stemOf N) (some (atOf N)) none).cps) = ((Txt.slice (stemOf N) none (some (atOf N))).cps ++ #[97 + j] ++ (Txt.slice (stemOf N) (some (atOf N)) none).cps) := congrArg Str.cps h
  have h2 := congrArg Array.toList h
  simp at h2
  exact h2
theorem name_ne (N : Int) (i : Nat) : oName N i ≠ "" := fun h => by
  have h : ((Txt.slice (stemOf N) none (some (atOf N))).cps ++ #[97 + i] ++ (Txt.slice (stemOf N) (some (atOf N)) none).cps) = (#[] : Array Nat) := congrArg Str.cps h
  have h2 := congrArg Array.size h
  simp at h2
theorem oKey_inj {N : Int} {i j : Nat} (h : oKey N i = oKey N j) : i = j := by
  unfold oKey at h
  have hm0 : 0 ≤ N / 40 % 4 := Int.emod_nonneg _ (by decide)
  have hm4 : N / 40 % 4 < 4 := Int.emod_lt_of_pos _ (by decide)
  have nn := name_ne N
  by_cases ci : N / 160 % 4 = 0 ∧ i < 2
  · rw [if_pos ci] at h
    by_cases cj : N / 160 % 4 = 0 ∧ j < 2
    · rw [if_pos cj] at h
      by_cases i0 : i = 0
      · rw [if_pos i0] at h
        by_cases j0 : j = 0
        · omega
        · rw [if_neg j0] at h; cases h
      · rw [if_neg i0] at h
        by_cases j0 : j = 0
        · rw [if_pos j0] at h; cases h
        · omega
    · rw [if_neg cj] at h
      exfalso
      rcases (by omega : N / 40 % 4 = 0 ∨ N / 40 % 4 = 1 ∨ N / 40 % 4 = 2 ∨ N / 40 % 4 = 3) with em | em | em | em <;> rw [em] at h <;> (split at h) <;> simp at h
      exact nn j h.symm
  · rw [if_neg ci] at h
    by_cases cj : N / 160 % 4 = 0 ∧ j < 2
    · rw [if_pos cj] at h
      exfalso
      rcases (by omega : N / 40 % 4 = 0 ∨ N / 40 % 4 = 1 ∨ N / 40 % 4 = 2 ∨ N / 40 % 4 = 3) with em | em | em | em <;> rw [em] at h <;> (by_cases j0 : j = 0 <;> simp [j0] at h)
      exact nn i h
    · rw [if_neg cj] at h
      rcases (by omega : N / 40 % 4 = 0 ∨ N / 40 % 4 = 1 ∨ N / 40 % 4 = 2 ∨ N / 40 % 4 = 3) with em | em | em | em <;> rw [em] at h <;> simp at h <;> exact name_inj h
section
variable {P : Program} {w : World} {K : PySem.W.Frag} {mg : Str → Option Value} {base : Heap} {a : Adr}
theorem ok_Lowner (T : Txt K mg a) : FnOk P w K mg base CX0 1 a.Lowner a.fd_Lowner ["_law_number", "_law_k"] spOwner := by
  refine T.f_Lowner.ok sc_Lowner (fun vs H Q E h => ?_) (fun cdv A outer s H vs Q E hr h => ?_)
  · obtain ⟨N, k, rfl, _⟩ := h
    rfl
  · obtain ⟨N, k, rfl, hN, hN2, hk8, q⟩ := h
    refine ⟨_, (pss_cons (ps_if (PW.pt (pw_and (pt_cmpR op_eq (pe_op op_mod (pe_op op_fdiv (pv 0) pe_int) pe_int) pe_int (nomark _)) (pw_and1 (pt_cmpR op_lt (pv 1) pe_int (nomark _))))) (pss_one (ps_ret (pe_ix (ix_listK K rfl) (pe_lst (pa_cons pe_str (pa_cons (pe_tup pa_nil) pa_nil))) (pv 1) (fun _ _ => rfl)))) pss_nil)
  (pss_cons (ps_set (i := 2) sc_Lowner.nd rfl (by first | exact Or.inl rfl | exact Or.inr rfl) (pe_ix (ix_listK K rfl) (pe_lst (pa_cons pe_str (pa_cons pe_str (pa_cons pe_str (pa_cons pe_str pa_nil))))) (pe_op op_mod (pv 0) pe_int) (fun _ _ => rfl)))
  (pss_cons (ps_set (i := 3) sc_Lowner.nd rfl (by first | exact Or.inl rfl | exact Or.inr rfl) (pe_op op_mod (pe_op op_fdiv (pv 0) pe_int) (pe_op op_add (pe_callB (call_lenK K rfl) (by rfl) T.n_len L2.boot_len (pa_cons (pv 2) pa_nil)) pe_int)))
  (pss_cons (ps_set (i := 4) sc_Lowner.nd rfl (by first | exact Or.inl rfl | exact Or.inr rfl) (pe_op op_add_str (pe_op op_add_str (pe_slice sl_str (pv 2) po_none (po_some (pv 3))) (pe_ix ix_str pe_str (pv 1) (fun _ _ => rfl))) (pe_slice sl_str (pv 2) (po_some (pv 3)) po_none)))
  (pss_one (ps_ret (pe_ix (ix_listK K rfl) (pe_lst (pa_cons (pv 4) (pa_cons (pe_tup (pa_cons (pv 4) (pa_cons pe_str pa_nil))) (pa_cons (pe_tup (pa_cons pe_str (pa_cons (pv 4) pa_nil))) (pa_cons (pe_tup (pa_cons pe_str (pa_cons (pv 2) (pa_cons (pv 4) pa_nil)))) pa_nil))))) (pe_op op_mod (pe_op op_fdiv (pv 0) pe_int) pe_int) (fun _ _ => rfl)))))))), ?_⟩
    have hsl := stem_len N
    refine cutQ (fun σ H' => H = H' ∧ σ = [some (.int N), some (.int k), none, none, none] ∧ ¬ (N / 160 % 4 = 0 ∧ k < 2)) ?A1 (fun Nn hJ => ?B1)
    case B1 =>
      (repeat (first | refine ⟨_, rfl, ?_⟩ | refine ⟨_, _, rfl, rfl, ?_⟩ | refine ⟨(rfl : scal _ _ = true), ?_⟩ | refine ⟨(show CMul _ _ by first | exact .inl ⟨by decide, by decide⟩ | exact .inr ⟨by decide, by decide⟩ | exact .inl ⟨by omega, by omega⟩ | exact .inr ⟨by omega, by omega⟩), ?_⟩ | refine ⟨(show CDiv _ _ by first | exact ⟨by decide, by decide⟩ | exact ⟨by omega, by omega⟩), ?_⟩ | refine ⟨(show (0 : Int) < _ by first | omega | decide), ?_⟩ | refine ⟨(rfl : V.int 10 = V.int 10), (rfl : V.int 30 = V.int 30), ?_⟩))
      refine iteI (fun e1 => ?_) (fun e1 => iteF (hJ _ _ ⟨rfl, rfl, fun z => e1 z.1⟩))
      refine ⟨_, rfl, (k : Int), 2, rfl, rfl, _, rfl, ?_⟩
      by_cases e2 : k < 2
      · rw [decide_eq_true (show (k : Int) < 2 by omega)]
        refine iteT ⟨le_size (show _ ≤ 65536 by simp), fun t0 ht0 => ⟨le_size (show _ ≤ 65536 by simp), fun l hl => ?_⟩⟩
        have ht0' : upd H t0 (.tup []) t0 = some (.tup []) := upd_same
        have s1 := same_new (o := .lst [.str "", .ref t0]) (same_new (o := .tup []) (Same.refl H) ht0) hl
        have ht1 : upd (upd H t0 (.tup [])) l (.lst [.str "", .ref t0]) t0 = some (.tup []) := by rw [upd_ne (ne_of_none ht0' hl)]; exact ht0'
        have hl1 : upd (upd H t0 (.tup [])) l (.lst [.str "", .ref t0]) l = some (.lst [.str "", .ref t0]) := upd_same
        generalize upd (upd H t0 (.tup [])) l (.lst [.str "", .ref t0]) = H1 at s1 ht1 hl1 ⊢
        rcases (by omega : k = 0 ∨ k = 1) with rfl | rfl
        · refine ⟨_, rfl, l, _, 0, _, rfl, rfl, SqL.of hl1, atI_nat' (k := 0) rfl, q _ _ s1 ?_⟩
          unfold oKey
          rw [if_pos ⟨e1, by decide⟩, if_pos rfl]
          exact rfl
        · refine ⟨_, rfl, l, _, 1, _, rfl, rfl, SqL.of hl1, atI_nat' (k := 1) rfl, q _ _ s1 ?_⟩
          unfold oKey
          rw [if_pos ⟨e1, by decide⟩, if_neg (by decide)]
          exact ⟨t0, rfl, ht1⟩
      · rw [decide_eq_false (show ¬ (k : Int) < 2 by omega)]
        exact iteF (hJ _ _ ⟨rfl, rfl, fun z => e2 z.2⟩)
    case A1 =>
      rintro σ _ ⟨rfl, rfl, hno⟩
      refine ⟨le_size (show _ ≤ 65536 by simp), fun l0 hl0 => ?_⟩
      have s0 := same_new (o := .lst [V.str "", V.str "soap", V.str "aaaaaaaa", V.str "two words"]) (Same.refl H) hl0
      have hl0' : upd H l0 (.lst [V.str "", V.str "soap", V.str "aaaaaaaa", V.str "two words"]) l0 = some (.lst [V.str "", V.str "soap", V.str "aaaaaaaa", V.str "two words"]) := upd_same
      generalize upd H l0 (.lst [V.str "", V.str "soap", V.str "aaaaaaaa", V.str "two words"]) = H0 at s0 hl0' ⊢
      (repeat (first | refine ⟨_, rfl, ?_⟩ | refine ⟨_, _, rfl, rfl, ?_⟩ | refine ⟨(rfl : scal _ _ = true), ?_⟩ | refine ⟨(show CMul _ _ by first | exact .inl ⟨by decide, by decide⟩ | exact .inr ⟨by decide, by decide⟩ | exact .inl ⟨by omega, by omega⟩ | exact .inr ⟨by omega, by omega⟩), ?_⟩ | refine ⟨(show CDiv _ _ by first | exact ⟨by decide, by decide⟩ | exact ⟨by omega, by omega⟩), ?_⟩ | refine ⟨(show (0 : Int) < _ by first | omega | decide), ?_⟩ | refine ⟨(rfl : V.int 10 = V.int 10), (rfl : V.int 30 = V.int 30), ?_⟩))
      refine ⟨l0, _, _, _, rfl, rfl, SqL.of hl0', stem_at, gName_ ?_⟩
      have hat0 : 0 ≤ atOf N := Int.emod_nonneg _ (by omega)
      have hat1 : atOf N < ((stemOf N).length : Int) + 1 := Int.emod_lt_of_pos _ (by omega)
      have hs1 := Txt.slice_le (stemOf N) none (some (atOf N))
      have hs2 := Txt.slice_le (stemOf N) (some (atOf N)) none
      (repeat (first | refine ⟨_, rfl, ?_⟩ | refine ⟨_, _, rfl, rfl, ?_⟩ | refine ⟨(rfl : scal _ _ = true), ?_⟩ | refine ⟨(show CMul _ _ by first | exact .inl ⟨by decide, by decide⟩ | exact .inr ⟨by decide, by decide⟩ | exact .inl ⟨by omega, by omega⟩ | exact .inr ⟨by omega, by omega⟩), ?_⟩ | refine ⟨(show CDiv _ _ by first | exact ⟨by decide, by decide⟩ | exact ⟨by omega, by omega⟩), ?_⟩ | refine ⟨(show (0 : Int) < _ by first | omega | decide), ?_⟩ | refine ⟨(rfl : V.int 10 = V.int 10), (rfl : V.int 30 = V.int 30), ?_⟩))
      refine ⟨_, (stemOf N).length, rfl, ⟨le_size (by omega), rfl⟩, _, _, rfl, rfl, _, _, rfl, rfl, (by show (0 : Int) < _; omega), gName_ ?_⟩
      have hap : ∀ a b : Str, (a ++ b).length = a.length + b.length := fun a b => by
        show (a.cps ++ b.cps).size = a.cps.size + b.cps.size
        exact Array.size_append
      have hlt : (letterOf k).length = 1 := rfl
      refine ⟨_, rfl, _, rfl, atOf N, rfl, stemOf N, rfl, le_size (by omega), _, rfl, "abcdefgh", k, 97 + k, rfl, rfl, le_size (by decide +kernel), letter_at hk8, _, letterOf k, rfl, rfl, le_size (by omega), _, rfl, _, rfl, atOf N, rfl, stemOf N, rfl, le_size (by omega), _, _, rfl, rfl, le_size (by rw [hap]; omega), gName_ ?_⟩
      have hnm : Txt.slice (stemOf N) none (some (atOf N)) ++ letterOf k ++ Txt.slice (stemOf N) (some (atOf N)) none = oName N k := rfl
      rw [hnm]
      refine ⟨_, rfl, _, rfl, le_size (show _ ≤ 65536 by simp), fun t1 ht1 => ⟨_, rfl, le_size (show _ ≤ 65536 by simp), fun t2 ht2 => ⟨_, rfl, _, rfl, le_size (show _ ≤ 65536 by simp), fun t3 ht3 => ⟨le_size (show _ ≤ 65536 by simp), fun lr hlr => ?_⟩⟩⟩⟩
      have s1 := same_new (o := .tup [V.str (oName N k), V.str "old"]) s0 ht1
      have e1 : upd H0 t1 (.tup [V.str (oName N k), V.str "old"]) t1 = some (.tup [V.str (oName N k), V.str "old"]) := upd_same
      generalize upd H0 t1 (.tup [V.str (oName N k), V.str "old"]) = H1 at s1 e1 ht2 ht3 hlr ⊢
      have s2 := same_new (o := .tup [V.str "old", V.str (oName N k)]) (Same.refl H1) ht2
      have e2 : upd H1 t2 (.tup [V.str "old", V.str (oName N k)]) t2 = some (.tup [V.str "old", V.str (oName N k)]) := upd_same
      generalize upd H1 t2 (.tup [V.str "old", V.str (oName N k)]) = H2 at s2 e2 ht3 hlr ⊢
      have s3 := same_new (o := .tup [V.str "old", V.str (stemOf N), V.str (oName N k)]) (Same.refl H2) ht3
      have e3 : upd H2 t3 (.tup [V.str "old", V.str (stemOf N), V.str (oName N k)]) t3 = some (.tup [V.str "old", V.str (stemOf N), V.str (oName N k)]) := upd_same
      generalize upd H2 t3 (.tup [V.str "old", V.str (stemOf N), V.str (oName N k)]) = H3 at s3 e3 hlr ⊢
      have s4 := same_new (o := .lst [V.str (oName N k), V.ref t1, V.ref t2, V.ref t3]) (Same.refl H3) hlr
      have e4 : upd H3 lr (.lst [V.str (oName N k), V.ref t1, V.ref t2, V.ref t3]) lr = some (.lst [V.str (oName N k), V.ref t1, V.ref t2, V.ref t3]) := upd_same
      generalize upd H3 lr (.lst [V.str (oName N k), V.ref t1, V.ref t2, V.ref t3]) = H4 at s4 e4 ⊢
      have sA := ((s1.trans s2).trans s3).trans s4
      (repeat (first | refine ⟨_, rfl, ?_⟩ | refine ⟨_, _, rfl, rfl, ?_⟩ | refine ⟨(rfl : scal _ _ = true), ?_⟩ | refine ⟨(show CMul _ _ by first | exact .inl ⟨by decide, by decide⟩ | exact .inr ⟨by decide, by decide⟩ | exact .inl ⟨by omega, by omega⟩ | exact .inr ⟨by omega, by omega⟩), ?_⟩ | refine ⟨(show CDiv _ _ by first | exact ⟨by decide, by decide⟩ | exact ⟨by omega, by omega⟩), ?_⟩ | refine ⟨(show (0 : Int) < _ by first | omega | decide), ?_⟩ | refine ⟨(rfl : V.int 10 = V.int 10), (rfl : V.int 30 = V.int 30), ?_⟩))
      have hm0 : 0 ≤ N / 40 % 4 := Int.emod_nonneg _ (by decide)
      have hm4 : N / 40 % 4 < 4 := Int.emod_lt_of_pos _ (by decide)
      rcases (by omega : N / 40 % 4 = 0 ∨ N / 40 % 4 = 1 ∨ N / 40 % 4 = 2 ∨ N / 40 % 4 = 3) with em | em | em | em
      · refine ⟨lr, _, _, V.str (oName N k), rfl, rfl, SqL.of e4, by rw [em]; rfl, q _ _ sA ?_⟩
        unfold oKey
        rw [if_neg hno, em]
        exact rfl
      · refine ⟨lr, _, _, V.ref t1, rfl, rfl, SqL.of e4, by rw [em]; rfl, q _ _ sA ?_⟩
        unfold oKey
        rw [if_neg hno, em]
        exact ⟨t1, rfl, s4 _ _ (s3 _ _ (s2 _ _ e1))⟩
      · refine ⟨lr, _, _, V.ref t2, rfl, rfl, SqL.of e4, by rw [em]; rfl, q _ _ sA ?_⟩
        unfold oKey
        rw [if_neg hno, em]
        exact ⟨t2, rfl, s4 _ _ (s3 _ _ e2)⟩
      · refine ⟨lr, _, _, V.ref t3, rfl, rfl, SqL.of e4, by rw [em]; rfl, q _ _ sA ?_⟩
        unfold oKey
        rw [if_neg hno, em]
        exact ⟨t3, rfl, s4 _ _ e3⟩
end
abbrev Js := List (Nat × Int)
def JsAt (H : Hp) (kvs : List V) (ts : List V) (js : Js) : Prop := Paired (fun (v : V) (x : Nat × Int) => ∃ b kv, v = .ref b ∧ H b = some (.tup [kv, .int x.2]) ∧ kvs[x.1]? = some kv) ts js
theorem JsAt.kp {H H' : Hp} {kvs : List V} (e : Tups H H') : ∀ {ts : List V} {js : Js}, JsAt H kvs ts js → JsAt H' kvs ts js
  | _, _, .nil => .nil
  | _, _, .cons ⟨b, kv, h1, h2, h3⟩ t => .cons ⟨b, kv, h1, e _ _ h2, h3⟩ (JsAt.kp e t)
theorem JsAt.snoc {H : Hp} {kvs : List V} {ts : List V} {js : Js} {b : Addr} {kv : V} {i : Nat} {c : Int} (h : JsAt H kvs ts js) (h2 : H b = some (.tup [kv, .int c])) (h3 : kvs[i]? = some kv) : JsAt H kvs (ts ++ [.ref b]) (js ++ [(i, c)]) := by
  induction h with
  | nil => exact .cons ⟨b, kv, rfl, h2, h3⟩ .nil
  | cons r t ih => exact .cons r ih
theorem erase_map {α β : Type} (f : α → β) : ∀ (l : List α) (k : Nat), (l.map f).eraseIdx k = (l.eraseIdx k).map f
  | [], k => by cases k <;> rfl
  | x :: l, 0 => rfl
  | x :: l, k + 1 => congrArg (f x :: ·) (erase_map f l k)
theorem erase_cons {α : Type} : ∀ {l : List α} {k : Nat} {r : α}, l[k]? = some r → l.Perm (r :: l.eraseIdx k)
  | [], k, r, h => by simp at h
  | x :: l, 0, r, h => by simp at h; subst h; exact List.Perm.refl _
  | x :: l, k + 1, r, h => ((erase_cons (l := l) (k := k) (by simpa using h)).cons x).trans (List.Perm.swap r x _)
def spWanted (K : PySem.W.Frag) : Sp := fun vs H Q _ => ∃ (sc sl : Addr) (ns : List Int) (k : Int) (kvs : List V) (n : Nat), vs = [.ref sc, .int k, .ref sl, .int n] ∧ SqL K H sc (ns.map V.int) ∧ ns.length ≤ 63 ∧ (0 ≤ k ∧ k ≤ 100) ∧ H sl = some (.lst kvs) ∧ kvs.length = 5 ∧ 1 ≤ n ∧ n ≤ 1000 ∧
  ∀ (wl : Addr) (ts : List V) (js : Js) H', Same H H' → H wl = none → H' wl = some (.lst ts) → JsAt H' kvs ts js → js.length ≤ 5 → (js.map (·.1)).Nodup → (∀ x ∈ js, x.1 < 5 ∧ 0 ≤ x.2) → Q (.ref wl) H'
section
variable {P : Program} {w : World} {K : PySem.W.Frag} {mg : Str → Option Value} {base : Heap} {a : Adr}
theorem ok_Lwanted (T : Txt K mg a) : FnOk P w K mg base CX0 3 a.Lwanted a.fd_Lwanted ["_law_script", "_law_k", "_law_some", "_law_many"] (spWanted K) := by
  refine T.f_Lwanted.ok sc_Lwanted (fun vs H Q E h => ?_) (fun cdv A outer s H vs Q E hr h => ?_)
  · obtain ⟨sc, sl, ns, k, kvs, n, rfl, _⟩ := h
    rfl
  · obtain ⟨sc, sl, ns, k, kvs, n, rfl, hS, hl, hk, hsl, hk5, hn1, hn2, q⟩ := h
    refine ⟨_, (pss_cons (ps_set (i := 4) sc_Lwanted.nd rfl (by first | exact Or.inl rfl | exact Or.inr rfl) (pe_call ((ok_Lmixed T).mono (by first | decide | omega)) hr rfl T.m_Lmixed T.f_Lmixed.kp T.b_Lmixed .nil pass0 (pa_cons (pv 0) (pa_cons (pv 1) (pa_cons pe_int pa_nil)))))
  (pss_cons (ps_set (i := 5) sc_Lwanted.nd rfl (by first | exact Or.inl rfl | exact Or.inr rfl) (pe_callTy (call_listK K rfl) (by rfl) T.n_list L2.boot_list (pa_cons (pv 2) pa_nil)))
  (pss_cons (ps_set (i := 6) sc_Lwanted.nd rfl (by first | exact Or.inl rfl | exact Or.inr rfl) (pe_lst pa_nil))
  (pss_cons (ps_for PassesOwn.never rfl (pi_range1 rfl T.n_range (pa_cons (pe_op op_add pe_int (pe_op op_mod (pv 4) pe_int)) pa_nil)) (pg_name (i := 7) sc_Lwanted.nd rfl (by first | exact Or.inl rfl | exact Or.inr rfl))
  (pss_cons (ps_set (i := 8) sc_Lwanted.nd rfl (by first | exact Or.inl rfl | exact Or.inr rfl) (pe_call ((ok_Lmixed T).mono (by first | decide | omega)) hr rfl T.m_Lmixed T.f_Lmixed.kp T.b_Lmixed .nil pass0 (pa_cons (pv 0) (pa_cons (pv 1) (pa_cons (pe_op op_add pe_int (pv 7)) pa_nil)))))
  (pss_cons (ps_set (i := 9) sc_Lwanted.nd rfl (by first | exact Or.inl rfl | exact Or.inr rfl) (pe_bmK K rfl PySem.F.plainAttrs_list PySem.F.slot_list_pop PySem.F.type_list_pop mt_popAt (pv 5) (pa_cons (pe_op op_mod (pv 8) (pe_callB (call_lenK K rfl) (by rfl) T.n_len L2.boot_len (pa_cons (pv 5) pa_nil))) pa_nil)))
  (pss_cons (ps_set (i := 10) sc_Lwanted.nd rfl (by first | exact Or.inl rfl | exact Or.inr rfl) (pe_op op_mod (pe_op op_fdiv (pv 8) pe_int) (pe_op op_add (pe_op op_fdiv (pv 3) pe_int) pe_int)))
  (pss_cons (ps_if (pt_cmpR op_eq (pe_op op_mod (pe_op op_fdiv (pv 8) pe_int) pe_int) pe_int (nomark _)) (pss_one (ps_set (i := 10) sc_Lwanted.nd rfl (by first | exact Or.inl rfl | exact Or.inr rfl) (pe_op op_mod (pe_op op_fdiv (pv 8) pe_int) (pe_op op_add (pv 3) pe_int)))) pss_nil)
  (pss_one (ps_expr (pe_bmK K rfl PySem.F.plainAttrs_list PySem.F.slot_list_append PySem.F.type_list_append mt_append (pv 6) (pa_cons (pe_tup (pa_cons (pv 9) (pa_cons (pv 10) pa_nil))) pa_nil)))))))))
  (pss_one (ps_ret (pv 6))))))), ?_⟩
    refine ⟨_, rfl, _, rfl, sc, ns, k, 2, rfl, hS, hl, ⟨by omega, by omega⟩, ⟨by decide, by decide⟩, fun x x0 x1 => gName_ ?_⟩
    refine ⟨_, rfl, sl, kvs, rfl, .inl (SqL.of hsl), fun lo hlo => gName_ ?_⟩
    refine ⟨le_size (show _ ≤ 65536 by simp), fun wl hwl => gName_ ?_⟩
    have b6 := mod_lt x (show (0 : Int) < 5 by decide)
    (repeat (first | refine ⟨_, rfl, ?_⟩ | refine ⟨_, _, rfl, rfl, ?_⟩ | refine ⟨(rfl : scal _ _ = true), ?_⟩ | refine ⟨(show CMul _ _ by first | exact .inl ⟨by decide, by decide⟩ | exact .inr ⟨by decide, by decide⟩ | exact .inl ⟨by omega, by omega⟩ | exact .inr ⟨by omega, by omega⟩), ?_⟩ | refine ⟨(show CDiv _ _ by first | exact ⟨by decide, by decide⟩ | exact ⟨by omega, by omega⟩), ?_⟩ | refine ⟨(show (0 : Int) < _ by first | omega | decide), ?_⟩ | refine ⟨(rfl : V.int 10 = V.int 10), (rfl : V.int 30 = V.int 30), ?_⟩))
    refine ⟨by omega, by omega, ?_⟩
    have hlo' : upd H lo (.lst kvs) lo = some (.lst kvs) := upd_same
    have s0 := same_new (o := .lst []) (same_new (o := .lst kvs) (Same.refl H) hlo) hwl
    have nlw : lo ≠ wl := ne_of_none hlo' hwl
    have hwn : H wl = none := (same_new (o := .lst kvs) (Same.refl H) hlo).free hwl
    refine for_range (lo := 0) (n := (1 + x % 5).toNat) (fun i σ H' => Same H H' ∧ ∃ (rem : List Nat) (ts : List V) (js : Js), H' lo = some (.lst (rem.map fun r => kvs.getD r .non)) ∧ H' wl = some (.lst ts) ∧ JsAt H' kvs ts js ∧ js.length = i ∧ rem.length + i = 5 ∧ (rem ++ js.map (·.1)).Nodup ∧ (∀ r ∈ rem, r < 5) ∧ (∀ x ∈ js, x.1 < 5 ∧ 0 ≤ x.2) ∧ ∃ v6 v7 v8 v9, σ = [some (.ref sc), some (.int k), some (.ref sl), some (.int n), some (.int x), some (.ref lo), some (.ref wl), v6, v7, v8, v9])
      ⟨s0, [0, 1, 2, 3, 4], [], [], ?_, upd_same, .nil, rfl, rfl, by decide, by decide, fun x h => (nomatch h), _, _, _, _, rfl⟩ ?_ ?_
    · rw [upd_ne nlw, hlo']
      match kvs, hk5 with
      | [_, _, _, _, _], _ => rfl
    · rintro i σ H1 hi ⟨s1, rem, ts, js, hlo1, hwl1, hjs, hjl, hrl, hnd, hr5, hj5, v6, v7, v8, v9, rfl⟩
      have hrp : 0 < rem.length := by omega
      rw [show (0 : Int) + (i : Int) = ((i : Nat) : Int) by omega]
      refine gName_ ⟨_, rfl, _, rfl, _, rfl, 3, (i : Int), rfl, rfl, sc, ns, k, 3 + (i : Int), rfl, s1.seq hS, hl, ⟨by omega, by omega⟩, ⟨by omega, by omega⟩, fun y y0 y1 => gName_ ?_⟩
      have by_ := mod_lt y (show (0 : Int) < (rem.length : Int) by omega)
      have hkk : (y % (rem.length : Int)).toNat < rem.length := by omega
      refine ⟨_, rfl, .inl ⟨rfl, _, SqL.of hlo1⟩, _, rfl, _, rfl, _, rem.length, rfl, .inl ⟨_, SqL.of hlo1, by rw [List.length_map]⟩, y, (rem.length : Int), rfl, rfl, by omega, lo, _, y % (rem.length : Int), (y % (rem.length : Int)).toNat, kvs.getD rem[(y % (rem.length : Int)).toNat] .non, rfl, rfl, hlo1, by omega, by omega, seqIndex_of by_.1 (by rw [List.length_map]; exact by_.2), by rw [List.getElem?_map, List.getElem?_eq_getElem hkk]; rfl, gName_ ?_⟩
      generalize hkkk : (y % (rem.length : Int)).toNat = kk at hkk ⊢
      have hrk : rem[kk]? = some rem[kk] := List.getElem?_eq_getElem hkk
      generalize rem[kk] = r at hrk ⊢
      have hr : r < 5 := hr5 r (List.mem_of_getElem? hrk)
      have hkv : kvs[r]? = some (kvs.getD r .non) := by rw [List.getD_eq_getElem?_getD, List.getElem?_eq_getElem (by omega)]; rfl
      have s2 : Same H (upd H1 lo (.lst ((rem.map fun r => kvs.getD r .non).eraseIdx kk))) := same_upd s1 hlo
      have hlo2 : upd H1 lo (.lst ((rem.map fun r => kvs.getD r .non).eraseIdx kk)) lo = some (.lst ((rem.eraseIdx kk).map fun r => kvs.getD r .non)) := by rw [erase_map]; exact upd_same
      have hwl2 : upd H1 lo (.lst ((rem.map fun r => kvs.getD r .non).eraseIdx kk)) wl = some (.lst ts) := by rw [upd_ne (Ne.symm nlw)]; exact hwl1
      have hjs2 := hjs.kp (Kp.lst (o := .lst ((rem.map fun r => kvs.getD r .non).eraseIdx kk)) hlo1).tp
      generalize upd H1 lo (.lst ((rem.map fun r => kvs.getD r .non).eraseIdx kk)) = H2 at s2 hlo2 hwl2 hjs2 ⊢
      have hc1 : 0 ≤ y / 5 % ((n : Int) / 2 + 1) := Int.emod_nonneg _ (by omega)
      have hc2 : 0 ≤ y / 5 % ((n : Int) + 3) := Int.emod_nonneg _ (by omega)
      dsimp only
      refine cutQ (fun σ H' => H2 = H' ∧ ∃ c : Int, 0 ≤ c ∧ σ = [some (.ref sc), some (.int k), some (.ref sl), some (.int n), some (.int x), some (.ref lo), some (.ref wl), some (.int i), some (.int y), some (kvs.getD r .non), some (.int c)]) ?A1 (fun N hJ => ?B1)
      case B1 =>
        (repeat (first | refine ⟨_, rfl, ?_⟩ | refine ⟨_, _, rfl, rfl, ?_⟩ | refine ⟨(rfl : scal _ _ = true), ?_⟩ | refine ⟨(show CMul _ _ by first | exact .inl ⟨by decide, by decide⟩ | exact .inr ⟨by decide, by decide⟩ | exact .inl ⟨by omega, by omega⟩ | exact .inr ⟨by omega, by omega⟩), ?_⟩ | refine ⟨(show CDiv _ _ by first | exact ⟨by decide, by decide⟩ | exact ⟨by omega, by omega⟩), ?_⟩ | refine ⟨(show (0 : Int) < _ by first | omega | decide), ?_⟩ | refine ⟨(rfl : V.int 10 = V.int 10), (rfl : V.int 30 = V.int 30), ?_⟩))
        exact gName_ (hJ _ _ ⟨rfl, _, hc1, rfl⟩)
      case A1 =>
        rintro σ _ ⟨rfl, c, hc, rfl⟩
        refine cutQ (fun σ H' => H2 = H' ∧ ∃ c : Int, 0 ≤ c ∧ σ = [some (.ref sc), some (.int k), some (.ref sl), some (.int n), some (.int x), some (.ref lo), some (.ref wl), some (.int i), some (.int y), some (kvs.getD r .non), some (.int c)]) ?A2 (fun N hJ => ?B2)
        case B2 =>
          (repeat (first | refine ⟨_, rfl, ?_⟩ | refine ⟨_, _, rfl, rfl, ?_⟩ | refine ⟨(rfl : scal _ _ = true), ?_⟩ | refine ⟨(show CMul _ _ by first | exact .inl ⟨by decide, by decide⟩ | exact .inr ⟨by decide, by decide⟩ | exact .inl ⟨by omega, by omega⟩ | exact .inr ⟨by omega, by omega⟩), ?_⟩ | refine ⟨(show CDiv _ _ by first | exact ⟨by decide, by decide⟩ | exact ⟨by omega, by omega⟩), ?_⟩ | refine ⟨(show (0 : Int) < _ by first | omega | decide), ?_⟩ | refine ⟨(rfl : V.int 10 = V.int 10), (rfl : V.int 30 = V.int 30), ?_⟩))
          refine iteI (fun _ => ?_) (fun _ => hJ _ _ ⟨rfl, c, hc, rfl⟩)
          (repeat (first | refine ⟨_, rfl, ?_⟩ | refine ⟨_, _, rfl, rfl, ?_⟩ | refine ⟨(rfl : scal _ _ = true), ?_⟩ | refine ⟨(show CMul _ _ by first | exact .inl ⟨by decide, by decide⟩ | exact .inr ⟨by decide, by decide⟩ | exact .inl ⟨by omega, by omega⟩ | exact .inr ⟨by omega, by omega⟩), ?_⟩ | refine ⟨(show CDiv _ _ by first | exact ⟨by decide, by decide⟩ | exact ⟨by omega, by omega⟩), ?_⟩ | refine ⟨(show (0 : Int) < _ by first | omega | decide), ?_⟩ | refine ⟨(rfl : V.int 10 = V.int 10), (rfl : V.int 30 = V.int 30), ?_⟩))
          exact gName_ (hJ _ _ ⟨rfl, _, hc2, rfl⟩)
        case A2 =>
          rintro σ _ ⟨rfl, c, hc, rfl⟩
          refine ⟨_, rfl, .inl ⟨rfl, _, SqL.of hwl2⟩, _, rfl, _, rfl, le_size (show _ ≤ 65536 by simp), fun b hb => ⟨wl, ts, _, rfl, rfl, by rw [upd_ne (ne_of_none hwl2 hb)]; exact hwl2, by rw [← show js.length = ts.length from (Paired.length hjs).symm, sizeLine_eq]; omega, ?_⟩⟩
          have nwb : wl ≠ b := ne_of_none hwl2 hb
          have nlb : lo ≠ b := ne_of_none hlo2 hb
          have s3 := same_new (o := .tup [kvs.getD r .non, .int c]) s2 hb
          have hb3 : upd H2 b (.tup [kvs.getD r .non, .int c]) b = some (.tup [kvs.getD r .non, .int c]) := upd_same
          have hlo3 : upd H2 b (.tup [kvs.getD r .non, .int c]) lo = some (.lst ((rem.eraseIdx kk).map fun r => kvs.getD r .non)) := by rw [upd_ne nlb]; exact hlo2
          have hwl3 : upd H2 b (.tup [kvs.getD r .non, .int c]) wl = some (.lst ts) := by rw [upd_ne nwb]; exact hwl2
          have hjs3 := hjs2.kp (Kp.new (o := .tup [kvs.getD r .non, .int c]) hb).tp
          generalize upd H2 b (.tup [kvs.getD r .non, .int c]) = H3 at s3 hb3 hlo3 hwl3 hjs3 ⊢
          have hjs4 := (hjs3.snoc hb3 hkv).kp (Kp.lst (o := .lst (ts ++ [.ref b])) hwl3).tp
          have hper := erase_cons hrk
          have hel : (rem.eraseIdx kk).length + 1 = rem.length := by rw [hper.length_eq]; rfl
          refine ⟨same_upd s3 hwn, rem.eraseIdx kk, ts ++ [.ref b], js ++ [(r, c)], by rw [upd_ne nlw]; exact hlo3, upd_same, hjs4, by rw [List.length_append, hjl]; rfl, by omega, ?_, fun z hz => hr5 z (hper.mem_iff.mpr (List.mem_cons_of_mem _ hz)), fun z hz => ?_, _, _, _, _, rfl⟩
          · have p1 : (rem.eraseIdx kk ++ (js ++ [(r, c)]).map (·.1)).Perm (rem ++ js.map (·.1)) := by
              rw [List.map_append]
              refine List.Perm.trans ?_ (hper.symm.append_right _)
              show (rem.eraseIdx kk ++ (js.map (·.1) ++ [r])).Perm (r :: (rem.eraseIdx kk ++ js.map (·.1)))
              rw [← List.append_assoc]
              exact List.perm_append_singleton r _
            exact p1.nodup_iff.mpr hnd
          · rcases List.mem_append.mp hz with hz | hz
            · exact hj5 z hz
            · rw [List.mem_singleton.mp hz]; exact ⟨hr, hc⟩
    · rintro σ H1 ⟨s1, rem, ts, js, hlo1, hwl1, hjs, hjl, hrl, hnd, hr5, hj5, v6, v7, v8, v9, rfl⟩
      exact ⟨_, rfl, q wl ts js H1 s1 hwn hwl1 hjs (by omega) (List.nodup_append.mp hnd).2.1 hj5⟩
end
theorem ok_slice (x : Str) (l u : Option Int) (h : PyData.strOk x = true) : PyData.strOk (Txt.slice x l u) = true := by
  unfold Txt.slice
  split
  · exact h
  · unfold PyData.strOk at h ⊢
    rw [Array.all_eq_true_iff_forall_mem] at h ⊢
    intro c hc
    rw [List.mem_toArray] at hc
    obtain ⟨i, _, hi⟩ := List.mem_filterMap.mp hc
    exact h c (Array.mem_of_getElem? hi)
theorem ok_app {a b : Str} (h1 : PyData.strOk a = true) (h2 : PyData.strOk b = true) : PyData.strOk (a ++ b) = true := by
  unfold PyData.strOk at h1 h2 ⊢
  show (a.cps ++ b.cps).all _ = true
  rw [Array.all_append, h1, h2]; rfl
theorem stem_ok (N : Int) : PyData.strOk (stemOf N) = true := by
  unfold stemOf
  split <;> decide +kernel
theorem name_ok {N : Int} {k : Nat} (h : k < 8) : PyData.strOk (oName N k) = true := by
  unfold oName
  refine ok_app (ok_app (ok_slice _ _ _ (stem_ok N)) ?_) (ok_slice _ _ _ (stem_ok N))
  unfold PyData.strOk letterOf
  simp
  omega
def kData : Key → PyData
  | .inl i => .int i
  | .inr z => .str z
def mData : MKey → PyData
  | .inl k => kData k
  | .inr ks => .tuple (ks.map kData)
theorem isP_key {K : PySem.W.Frag} {H : Hp} (k : Key) : IsP K H (kV k) (kData k) := by
  cases k with
  | inl i => exact .int i
  | inr z => exact .str z
theorem isP_keys {K : PySem.W.Frag} {H : Hp} : ∀ ks : List Key, IsPs K H (ks.map kV) (ks.map kData)
  | [] => .nil
  | k :: r => .cons (isP_key k) (isP_keys r)
theorem isP_mkey {K : PySem.W.Frag} {H : Hp} {k : MKey} {v : V} (h : KeyH H k v) : IsP K H v (mData k) := by
  cases k with
  | inl k =>
    have h : v = kV k := h
    subst h
    exact isP_key k
  | inr ks =>
    obtain ⟨a, rfl, e⟩ := h
    exact .tup (SqT.of e) (isP_keys ks)
theorem KeyH.at {K : PySem.W.Frag} {H : Hp} {k : MKey} {v : V} (h : KeyH H k v) : KeyAt K H k v := by
  cases k with
  | inl k => exact h
  | inr ks => obtain ⟨a, e1, e2⟩ := h; exact ⟨a, e1, SqT.of e2⟩
theorem KeyH.ne {H : Hp} {k : MKey} {v : V} (h : KeyH H k v) : v ≠ .non := by
  cases k with
  | inl k => have h : v = kV k := h; rw [h]; cases k <;> exact fun z => nomatch z
  | inr ks => obtain ⟨a, e1, _⟩ := h; rw [e1]; exact fun z => nomatch z
theorem kV_inj {a b : Key} (h : kV a = kV b) : a = b := by
  cases a <;> cases b <;> cases h <;> rfl
theorem KeyH.inj {H : Hp} {k j : MKey} {v : V} (h : KeyH H k v) (g : KeyH H j v) : k = j := by
  cases k with
  | inl k =>
    have h : v = kV k := h
    cases j with
    | inl j => have g : v = kV j := g; rw [kV_inj (h.symm.trans g)]
    | inr js =>
      obtain ⟨a, e1, _⟩ := g
      rw [e1] at h
      cases k <;> cases h
  | inr ks =>
    obtain ⟨a, e1, e2⟩ := h
    cases j with
    | inl j =>
      have g : v = kV j := g
      rw [e1] at g
      cases j <;> cases g
    | inr js =>
      obtain ⟨b, f1, f2⟩ := g
      rw [e1] at f1
      cases f1
      rw [e2] at f2
      have f3 : ks.map kV = js.map kV := HO.tup.inj (Option.some.inj f2)
      exact congrArg Sum.inr ((List.map_inj_right (fun _ _ z => kV_inj z)).mp f3)
theorem shaped_key {N : Int} {k : Nat} (h : k < 8) : SeqAt.shaped (mData (oKey N k)) = true := by
  have h1 := name_ok (N := N) h
  have h2 := stem_ok N
  have h3 : PyData.strOk "old" = true := by decide +kernel
  have h4 : PyData.strOk "" = true := by decide +kernel
  unfold oKey
  split
  · split
    · unfold SeqAt.shaped; simp [mData, kData, PyData.canLay0, PyData.depth, h4]
    · unfold SeqAt.shaped; simp [mData, PyData.canLay0, PyData.canLayAll0, PyData.depth, PyData.depthAll]
  · split <;> (unfold SeqAt.shaped; simp [mData, kData, PyData.canLay0, PyData.canLayAll0, PyData.depth, PyData.depthAll, h1, h2, h3])
theorem keyH_same {H H' : Hp} (e : Same H H') {k : MKey} {v : V} (h : KeyH H k v) : KeyH H' k v := by
  cases k with
  | inl k => exact h
  | inr ks => obtain ⟨a, h1, h2⟩ := h; exact ⟨a, h1, e _ _ h2⟩
theorem isPs_ints {K : PySem.W.Frag} {H : Hp} : ∀ ns : List Int, IsPs K H (ns.map V.int) (ns.map PyData.int)
  | [] => .nil
  | n :: r => .cons (.int n) (isPs_ints r)
theorem shaped_ints (ns : List Int) : SeqAt.shaped (.list (ns.map PyData.int)) = true := by
  have h2 : PyData.depthAll (ns.map PyData.int) = 0 := by
    induction ns with
    | nil => simp [PyData.depthAll]
    | cons n r ih => simp [PyData.depthAll, PyData.depth, ih]
  have h1 : PyData.canLayAll0 (ns.map PyData.int) = true := by
    clear h2
    induction ns with
    | nil => simp [PyData.canLayAll0]
    | cons n r ih => simp [PyData.canLayAll0, PyData.canLay0, ih]
  unfold SeqAt.shaped
  have h3 : PyData.canLay0 (.list (ns.map PyData.int)) = true := h1
  have h4 : PyData.depth (.list (ns.map PyData.int)) ≤ 64 := by
    show PyData.depthAll (ns.map PyData.int) + 1 ≤ 64
    rw [h2]; decide
  rw [h3, decide_eq_true h4]
  rfl
theorem none_upd {H : Hp} {a b : Addr} {o : HO} (h : upd H a o b = none) : H b = none := by
  by_cases e : b = a
  · subst e
    rw [upd_same] at h
    cases h
  · rw [upd_ne e] at h
    exact h
theorem keyH_kp {H H' : Hp} (e : Kp H H') {k : MKey} {v : V} (h : KeyH H k v) : KeyH H' k v := by
  cases k with
  | inl k => exact h
  | inr ks => obtain ⟨a, h1, h2⟩ := h; exact ⟨a, h1, e.tp _ _ h2⟩
theorem depth_key (k : MKey) : PyData.depth (mData k) ≤ 1 := by
  have hk : ∀ ks : List Key, PyData.depthAll (ks.map kData) = 0 := by
    intro ks
    induction ks with
    | nil => simp [PyData.depthAll]
    | cons k r ih => cases k <;> simp [PyData.depthAll, PyData.depth, kData, ih]
  cases k with
  | inl k => cases k <;> simp [mData, kData, PyData.depth]
  | inr ks => simp [mData, PyData.depth, hk]
theorem shaped_wants {N : Int} : ∀ {js : Js}, (∀ z ∈ js, z.1 < 5 ∧ 0 ≤ z.2) → SeqAt.shaped (.list (js.map fun z => .tuple [mData (oKey N z.1), .int z.2])) = true := by
  intro js h
  have h1 : PyData.canLayAll0 (js.map fun z => .tuple [mData (oKey N z.1), .int z.2]) = true := by
    induction js with
    | nil => rfl
    | cons z r ih =>
      have hz := shaped_key (N := N) (k := z.1) (by have := (h z List.mem_cons_self).1; omega)
      unfold SeqAt.shaped at hz
      rw [Bool.and_eq_true] at hz
      have := ih fun y hy => h y (List.mem_cons_of_mem _ hy)
      simp [PyData.canLayAll0, PyData.canLay0, hz.1, this]
  have h2 : PyData.depthAll (js.map fun z => .tuple [mData (oKey N z.1), .int z.2]) ≤ 2 := by
    clear h1 h
    induction js with
    | nil => simp [PyData.depthAll]
    | cons z r ih =>
      have := depth_key (oKey N z.1)
      simp [PyData.depthAll, PyData.depth]
      omega
  unfold SeqAt.shaped
  have h3 : PyData.canLay0 (.list (js.map fun z => .tuple [mData (oKey N z.1), .int z.2])) = true := h1
  have h4 : PyData.depth (.list (js.map fun z => .tuple [mData (oKey N z.1), .int z.2])) ≤ 64 := by
    show PyData.depthAll _ + 1 ≤ 64
    omega
  rw [h3, decide_eq_true h4]
  rfl
theorem js_wat {K : PySem.W.Frag} {H : Hp} {N : Int} {kvs : List V} (hkv : ∀ i v, kvs[i]? = some v → KeyH H (oKey N i) v) : ∀ {ts : List V} {js : Js}, JsAt H kvs ts js → WAt K H ts (js.map fun z => (oKey N z.1, z.2))
  | _, _, .nil => .nil
  | _, _, .cons ⟨b, kv, h1, h2, h3⟩ t => .cons ⟨b, kv, h1, SqT.of h2, KeyH.at (hkv _ _ h3)⟩ (js_wat hkv t)
theorem js_isP {K : PySem.W.Frag} {H : Hp} {N : Int} {kvs : List V} (hkv : ∀ i v, kvs[i]? = some v → KeyH H (oKey N i) v) : ∀ {ts : List V} {js : Js}, JsAt H kvs ts js → IsPs K H ts (js.map fun z => .tuple [mData (oKey N z.1), .int z.2])
  | _, _, .nil => .nil
  | _, _, .cons ⟨b, kv, h1, h2, h3⟩ t => .cons (by rw [h1]; exact .tup (SqT.of h2) (.cons (isP_mkey (hkv _ _ h3)) (.cons (.int _) .nil))) (js_isP hkv t)
theorem eqv_lst (ns : List Int) : PyData.eqv (.list (ns.map PyData.int)) (.list (ns.map PyData.int)) = true := by
  have : ∀ l : List Int, PyData.eqvAll (l.map PyData.int) (l.map PyData.int) = true := by
    intro l
    induction l with
    | nil => rfl
    | cons n r ih => simp [PyData.eqvAll, PyData.eqv, ih]
  simp [PyData.eqv, this]
theorem in_ints {p : Int} {Fs : List Int} (h : p ∈ Fs) : inV (.int p) (Fs.map V.int) = true := List.any_eq_true.mpr ⟨.int p, List.mem_map.mpr ⟨p, h, rfl⟩, by simp [eqV]⟩
theorem flat_ints (Fs : List Int) : (Fs.map V.int).all flatV = true := List.all_eq_true.mpr fun v hv => by
  obtain ⟨_, _, rfl⟩ := List.mem_map.mp hv
  rfl
def spStays (K : PySem.W.Frag) : Sp := fun vs H Q _ => ∃ (la lb lf : Addr) (ov : V) (As Bs Fs : List Int) (c : Nat), vs = [ov, .ref la, .ref lb, .int c, .ref lf] ∧ H la = some (.lst (As.map V.int)) ∧ H lb = some (.lst (Bs.map V.int)) ∧ H lf = some (.lst (Fs.map V.int)) ∧
  Bs.length = c ∧ c ≤ 100000 ∧ As.length ≤ 100000 ∧ Bs.take (min As.length c) = As.take (min As.length c) ∧ (∀ p ∈ Bs.drop (min As.length c), p ∈ Fs) ∧ ∀ H', Same H H' → Q (.bl true) H'
section
variable {P : Program} {w : World} {K : PySem.W.Frag} {mg : Str → Option Value} {base : Heap} {a : Adr}
theorem ok_Lstays (T : Txt K mg a) : FnOk P w K mg base CX0 2 a.Lstays a.fd_Lstays ["_law_owner_here", "_law_ahead", "_law_behind", "_law_number", "_law_fresh"] (spStays K) := by
  refine T.f_Lstays.ok sc_Lstays (fun vs H Q E h => ?_) (fun cdv A outer s H vs Q E hr h => ?_)
  · obtain ⟨la, lb, lf, ov, As, Bs, Fs, c, rfl, _⟩ := h
    rfl
  · obtain ⟨la, lb, lf, ov, As, Bs, Fs, c, rfl, hA, hB, hF, hl, hc, hal, htk, hdr, q⟩ := h
    refine ⟨_, (pss_cons (ps_if (pt_cmpR op_ne (pe_callB (call_lenK K rfl) (by rfl) T.n_len L2.boot_len (pa_cons (pv 2) pa_nil)) (pv 3) (nomark _)) (pss_one (ps_ret pe_bl)) pss_nil)
  (pss_cons (ps_set (i := 5) sc_Lstays.nd rfl (by first | exact Or.inl rfl | exact Or.inr rfl) (pe_callB (call_min2 rfl) (by rfl) T.n_min L2.boot_min (pa_cons (pe_callB (call_lenK K rfl) (by rfl) T.n_len L2.boot_len (pa_cons (pv 1) pa_nil)) (pa_cons (pv 3) pa_nil))))
  (pss_cons (ps_if (pt_cmpR (op_nePK K rfl (hu64 hr)) (pe_slice (sl_listK K rfl) (pv 2) po_none (po_some (pv 5))) (pe_slice (sl_listK K rfl) (pv 1) po_none (po_some (pv 5))) (nomark _)) (pss_one (ps_ret pe_bl)) pss_nil)
  (pss_cons (ps_for PassesOwn.never rfl (pi_listK K rfl (pe_slice (sl_listK K rfl) (pv 2) (po_some (pv 5)) po_none)) (pg_name (i := 6) sc_Lstays.nd rfl (by first | exact Or.inl rfl | exact Or.inr rfl))
  (pss_one (ps_if (PW.pt (pw_or (pt_not (pt_truthK K rfl (pe_call ((ok_Lwhole T).mono (by first | decide | omega)) hr rfl T.m_Lwhole T.f_Lwhole.kp T.b_Lwhole .nil pass0 (pa_cons (pv 6) pa_nil)) (fun _ => rfl))) (pw_or1 (pt_cmpR (op_notInK K rfl) (pv 6) (pv 4) (by with_unfolding_all rfl))))) (pss_one (ps_ret pe_bl)) pss_nil)))
  (pss_one (ps_ret pe_bl)))))), ?_⟩
    have hBl : (Bs.map V.int).length = Bs.length := List.length_map ..
    refine ⟨_, rfl, _, c, rfl, .inl ⟨_, SqL.of hB, by rw [hBl, hl]⟩, _, rfl, rfl, _, rfl, iteNI (fun h => absurd rfl h) (fun _ => nx_ ?_)⟩
    have hmin : (if (c : Int) < (As.length : Int) then (c : Int) else (As.length : Int)) = ((min As.length c : Nat) : Int) := by split <;> omega
    refine ⟨_, rfl, _, As.length, rfl, .inl ⟨_, SqL.of hA, by rw [List.length_map]⟩, _, rfl, _, _, rfl, gName_ ?_⟩
    dsimp only [List.set]
    rw [hmin]
    generalize hm : min As.length c = m at htk hdr ⊢
    have c1 : cutV (Bs.map V.int) none (some (m : Int)) = (As.take m).map V.int := by rw [cut_to _ (by omega), Int.toNat_natCast, ← List.map_take, htk]
    have c2 : cutV (As.map V.int) none (some (m : Int)) = (As.take m).map V.int := by rw [cut_to _ (by omega), Int.toNat_natCast, ← List.map_take]
    have c3 : cutV (Bs.map V.int) (some (m : Int)) none = (Bs.drop m).map V.int := by rw [cut_from _ (by omega), Int.toNat_natCast, ← List.map_drop]
    refine ⟨_, rfl, _, rfl, _, rfl, lb, _, rfl, SqL.of hB, fun p1 h1 => ?_⟩
    rw [c1]
    have s1 := same_new (o := .lst ((As.take m).map V.int)) (Same.refl H) h1
    have e1 : upd H p1 (.lst ((As.take m).map V.int)) p1 = some (.lst ((As.take m).map V.int)) := upd_same
    generalize upd H p1 (.lst ((As.take m).map V.int)) = H1 at s1 e1 ⊢
    refine ⟨_, rfl, _, rfl, _, rfl, la, _, rfl, SqL.of (s1 _ _ hA), fun p2 h2 => ?_⟩
    rw [c2]
    have s2 := same_new (o := .lst ((As.take m).map V.int)) (Same.refl H1) h2
    have e2 : upd H1 p2 (.lst ((As.take m).map V.int)) p2 = some (.lst ((As.take m).map V.int)) := upd_same
    generalize upd H1 p2 (.lst ((As.take m).map V.int)) = H2 at s2 e2 ⊢
    refine ⟨.list ((As.take m).map PyData.int), .list ((As.take m).map PyData.int), .lst (SqL.of (s2 _ _ e1)) (isPs_ints _), .lst (SqL.of e2) (isPs_ints _), shaped_ints _, shaped_ints _, _, rfl, ?_⟩
    rw [eqv_lst]
    have s02 := s1.trans s2
    refine iteF (nx_ ⟨_, rfl, _, rfl, _, rfl, lb, _, rfl, SqL.of (s02 _ _ hB), fun p3 h3 => ⟨p3, rfl, ⟨_, SqL.of upd_same⟩, ?_⟩⟩)
    rw [c3]
    have s3 := same_new (o := .lst ((Bs.drop m).map V.int)) s02 h3
    have e3 : upd H2 p3 (.lst ((Bs.drop m).map V.int)) p3 = some (.lst ((Bs.drop m).map V.int)) := upd_same
    generalize upd H2 p3 (.lst ((Bs.drop m).map V.int)) = H3 at s3 e3 ⊢
    refine for_list (xs := (Bs.drop m).map V.int) (fun i σ H' => H3 = H' ∧ ∃ v6, σ = [some ov, some (.ref la), some (.ref lb), some (.int c), some (.ref lf), some (.int m), v6]) ⟨rfl, _, rfl⟩ (fun i σ H' _ h => by rw [← h.1]; exact SqL.of e3) ?_ ?_
    · rintro i v σ _ hv ⟨rfl, v6, rfl⟩
      obtain ⟨p, hp, rfl⟩ := List.mem_map.mp (List.mem_of_getElem? hv)
      refine gName_ ⟨_, rfl, p, rfl, true, rfl, iteF ?_⟩
      refine ⟨_, rfl, _, rfl, lf, Fs.map V.int, rfl, .inl (SqL.of (s3 _ _ hF)), rfl, flat_ints _, _, rfl, ?_⟩
      rw [in_ints (hdr p hp)]
      exact iteF ⟨rfl, _, rfl⟩
    · rintro σ _ ⟨rfl, v6, rfl⟩
      exact q _ s3
end
def ahL (N : Int) (kvs : List V) (ls : List Addr) : List MVal := (List.range ls.length).map fun j => (oKey N j, kvs.getD j .non, .ref (ls.getD j 0))
theorem ahL_val {N : Int} {kvs : List V} {ls : List Addr} {j : Nat} {l : Addr} (h : ls[j]? = some l) : mVal (ahL N kvs ls) (oKey N j) = some (.ref l) := by
  have hj : j < ls.length := (List.getElem?_eq_some_iff.mp h).1
  unfold mVal ahL
  rw [List.find?_map]
  have e : (List.range ls.length).find? ((fun y : MVal => decide (y.1 = oKey N j)) ∘ fun j => (oKey N j, kvs.getD j .non, .ref (ls.getD j 0))) = some j := by
    cases z : (List.range ls.length).find? ((fun y : MVal => decide (y.1 = oKey N j)) ∘ fun j => (oKey N j, kvs.getD j .non, .ref (ls.getD j 0))) with
    | none => exact absurd (decide_eq_true rfl) (List.find?_eq_none.mp z j (List.mem_range.mpr hj))
    | some i =>
      have := List.find?_some z
      rw [oKey_inj (of_decide_eq_true this)]
  rw [e]
  show some (V.ref (ls.getD j 0)) = _
  rw [List.getD_eq_getElem?_getD, h]
  rfl
theorem ahL_new {N : Int} {kvs : List V} {ls : List Addr} : mVal (ahL N kvs ls) (oKey N ls.length) = none := by
  unfold mVal ahL
  rw [List.find?_map]
  have e : (List.range ls.length).find? ((fun y : MVal => decide (y.1 = oKey N ls.length)) ∘ fun j => (oKey N j, kvs.getD j .non, .ref (ls.getD j 0))) = none := by
    rw [List.find?_eq_none]
    intro i hi z
    have := oKey_inj (of_decide_eq_true z)
    have := List.mem_range.mp hi
    omega
  rw [e]
  rfl
theorem ahL_put {N : Int} {kvs : List V} {ls : List Addr} {kv : V} {l : Addr} (h : kvs[ls.length]? = some kv) : mPut (ahL N kvs ls) (oKey N ls.length) kv (.ref l) = ahL N kvs (ls ++ [l]) := by
  unfold mPut
  rw [ahL_new]
  show ahL N kvs ls ++ [_] = _
  unfold ahL
  rw [List.length_append, List.length_singleton, List.range_succ, List.map_append]
  congr 1
  · refine List.map_congr_left fun j hj => ?_
    have := List.mem_range.mp hj
    have e : (ls ++ [l]).getD j 0 = ls.getD j 0 := by rw [List.getD_eq_getElem?_getD, List.getD_eq_getElem?_getD, List.getElem?_append_left this]
    rw [e]
  · show [(oKey N ls.length, kv, V.ref l)] = [(oKey N ls.length, kvs.getD ls.length V.non, V.ref ((ls ++ [l]).getD ls.length 0))]
    have e1 : kvs.getD ls.length V.non = kv := by rw [List.getD_eq_getElem?_getD, h]; rfl
    have e2 : (ls ++ [l]).getD ls.length 0 = l := by rw [List.getD_eq_getElem?_getD, List.getElem?_append_right (Nat.le_refl _), Nat.sub_self]; rfl
    rw [e1, e2]
theorem ahL_keys {K : PySem.W.Frag} {H : Hp} {N : Int} {kvs : List V} {ls : List Addr} (h5 : ls.length ≤ kvs.length) (hk : ∀ i v, kvs[i]? = some v → KeyH H (oKey N i) v) : KeysAt K H (ahL N kvs ls) := by
  intro x hx
  unfold ahL at hx
  obtain ⟨j, hj, rfl⟩ := List.mem_map.mp hx
  have := List.mem_range.mp hj
  have hj2 : j < kvs.length := by omega
  refine KeyH.at (hk j _ ?_)
  rw [List.getD_eq_getElem?_getD, List.getElem?_eq_getElem hj2]
  rfl
theorem ahL_len (N : Int) (kvs : List V) (ls : List Addr) : (ahL N kvs ls).length = ls.length := by
  unfold ahL
  rw [List.length_map, List.length_range]
theorem wats {K : PySem.W.Frag} {H : Hp} : ∀ {ts : List V} {W : Wl}, WAt K H ts W → ∃ Es : List MVal, L2.PairsAt K H ts Es ∧ Es.map (fun e => (e.1, e.2.2)) = W.map fun x => (x.1, V.int x.2)
  | _, _, .nil => ⟨[], .nil, rfl⟩
  | _, _, .cons (b := x) ⟨b, kv, h1, h2, h3⟩ t => by
    obtain ⟨Es, e1, e2⟩ := wats t
    exact ⟨(x.1, kv, .int x.2) :: Es, .cons ⟨b, h1, h2, h3⟩ e1, by rw [List.map_cons, List.map_cons, e2]⟩
theorem es_val {S : AS} {Es : List MVal} {W : Wl} (h : Es.map (fun e => (e.1, e.2.2)) = W.map fun x => (x.1, V.int x.2)) (h0 : ∀ x ∈ W, 0 ≤ x.2) (k : MKey) : (mVal Es k).getD (.int ((S.pl k).length : Int)) = .int (numOf S W k : Int) := by
  have e : mVal Es k = (W.find? fun x => decide (x.1 = k)).map fun x => V.int x.2 := by
    clear h0
    induction W generalizing Es with
    | nil =>
      have : Es = [] := List.map_eq_nil_iff.mp h
      rw [this]; rfl
    | cons x r ih =>
      cases Es with
      | nil => cases h
      | cons e es =>
        rw [List.map_cons, List.map_cons] at h
        have h1 := (List.cons.inj h).1
        have h2 := (List.cons.inj h).2
        have ek : e.1 = x.1 := congrArg Prod.fst h1
        have ev : e.2.2 = V.int x.2 := congrArg Prod.snd h1
        have := ih h2
        unfold mVal at this ⊢
        rw [List.find?_cons, List.find?_cons, ek]
        by_cases c : x.1 = k
        · rw [decide_eq_true c]
          show some e.2.2 = some _
          rw [ev]
        · rw [decide_eq_false c]
          exact this
  rw [e]
  unfold numOf
  cases z : W.find? (fun x => decide (x.1 = k)) with
  | none => rfl
  | some x =>
    have := h0 x (List.mem_of_find?_eq_some z)
    show V.int x.2 = V.int ((x.2.toNat : Nat) : Int)
    rw [show ((x.2.toNat : Nat) : Int) = x.2 by omega]
theorem sorted_one : ∀ {l m : List Int}, l.Perm m → l.Pairwise (· ≤ ·) → m.Pairwise (· ≤ ·) → l = m
  | [], _, p, _, _ => List.Perm.nil_eq p
  | _ :: _, [], p, _, _ => absurd p.length_eq (by simp)
  | a :: r, b :: t, p, h1, h2 => by
    have e : a = b := by
      have q1 : b ∈ a :: r := p.mem_iff.mpr List.mem_cons_self
      have q2 : a ∈ b :: t := p.mem_iff.mp List.mem_cons_self
      rcases List.mem_cons.mp q1 with z | z
      · exact z.symm
      · rcases List.mem_cons.mp q2 with y | y
        · exact y
        · have := (List.pairwise_cons.mp h1).1 b z
          have := (List.pairwise_cons.mp h2).1 a y
          omega
    subst e
    rw [sorted_one ((List.perm_cons a).mp p) (List.pairwise_cons.mp h1).2 (List.pairwise_cons.mp h2).2]
def spRight12 (P : Program) (w : World) (K : PySem.W.Frag) (C : Addr) : Sp := fun vs H Q _ => ∃ (t od td sl wl : Addr) (n : Nat) (ow : List (Key × V)) (tk : List MVal) (m : List Pl) (S : AS) (N : Int) (kvs : List V) (W : Wl) (ts : List V) (ds : List PyData), vs = [.ref t, .ref sl, .ref wl] ∧ TabAt P w K C H t od td n ow tk m ∧ TabS n S ow m ∧ S.Ok n ∧ H sl = some (.lst kvs) ∧ kvs.length = 5 ∧ (∀ i v, kvs[i]? = some v → KeyH H (oKey N i) v) ∧
  H wl = some (.lst ts) ∧ WAt K H ts W ∧ (∀ x ∈ W, 0 ≤ x.2 ∧ ∃ i, i < 5 ∧ x.1 = oKey N i) ∧ (W.map (·.1)).Nodup ∧ W.length ≤ 5 ∧ n ≤ 1000 ∧ tk.length ≤ 5000 ∧ ow.length ≤ 500000 ∧ (∀ H', Kp H H' → IsPs K H' ts ds) ∧ SeqAt.shaped (.list ds) = true ∧
  ∀ (S' : AS) (ow' : List (Key × V)) (tk' : List MVal) (m' : List Pl) H', Off od td H H' → TabAt P w K C H' t od td n ow' tk' m' → TabS n S' ow' m' → S'.Ok n → tk'.length ≤ tk.length + 10 → ow'.length ≤ ow.length + 5000 → Q (.bl true) H'
section
variable {P : Program} {w : World} {K : PySem.W.Frag} {mg : Str → Option Value} {base : Heap} {a : Adr}
theorem ok_Lright (T : Txt K mg a) : FnOk P w K mg base CX0 5 a.Lright a.fd_Lright ["_law_table", "_law_some", "_law_wanted_here"] (spRight12 P w K a.Table) := by
  refine T.f_Lright.ok sc_Lright (fun vs H Q E h => ?_) (fun cdv A outer s H vs Q E hr h => ?_)
  · obtain ⟨t, od, td, sl, wl, n, ow, tk, m, S, N, kvs, W, ts, ds, rfl, _⟩ := h
    rfl
  · obtain ⟨t, od, td, sl, wl, n, ow, tk, m, S, N, kvs, W, ts, ds, rfl, hT, hS, hO, hsl, hk5, hkv, hwl, hW, hW0, hWn, hW5, hn, htk, how, hds, hsh, fin⟩ := h
    refine ⟨_, (pss_cons (ps_set (i := 3) sc_Lright.nd rfl (by first | exact Or.inl rfl | exact Or.inr rfl) (pe_dnewM (P := P) (w := w)))
  (pss_cons (ps_for PassesOwn.never rfl (pi_listK K rfl (pv 1)) (pg_name (i := 4) sc_Lright.nd rfl (by first | exact Or.inl rfl | exact Or.inr rfl))
  (pss_one (ps_asg (pe_meth (pv 0) T.cls_Table T.mt_Table_places_of ((ok_Table_places_of (P := P) (w := w) T).mono (by first | decide | omega)) hr T.b_Table_places_of .nil pass0 (pa_cons (pv 4) pa_nil)) (pg_sub (pv 3) (pv 4) (set_dM (P := P) (w := w) K rfl (hu_of hr))))))
  (pss_cons (ps_set (i := 5) sc_Lright.nd rfl (by first | exact Or.inl rfl | exact Or.inr rfl) (pe_meth0 (pv 0) T.cls_Table T.mt_Table_free ((ok_Table_free (P := P) (w := w) T).mono (by first | decide | omega)) hr T.b_Table_free .nil pass0))
  (pss_cons (ps_set (i := 6) sc_Lright.nd rfl (by first | exact Or.inl rfl | exact Or.inr rfl) (pe_call ((ok_Lasked T).mono (by first | decide | omega)) hr rfl T.m_Lasked T.f_Lasked.kp T.b_Lasked .nil pass0 (pa_cons (pv 0) (pa_cons (pv 2) pa_nil))))
  (pss_cons (ps_if (pt_cmpR op_isN (pv 6) pe_non (nomark _)) (pss_cons (ps_for PassesOwn.never rfl (pi_listK K rfl (pv 1)) (pg_name (i := 4) sc_Lright.nd rfl (by first | exact Or.inl rfl | exact Or.inr rfl))
  (pss_one (ps_if (pt_cmpR (op_nePK K rfl (hu64 hr)) (pe_meth (pv 0) T.cls_Table T.mt_Table_places_of ((ok_Table_places_of (P := P) (w := w) T).mono (by first | decide | omega)) hr T.b_Table_places_of .nil pass0 (pa_cons (pv 4) pa_nil)) (pe_mix (P := P) (w := w) K rfl (hu_of hr) (pv 3) (pv 4) (fun _ _ => rfl)) (nomark _)) (pss_one (ps_ret pe_bl)) pss_nil)))
  (pss_one (ps_ret (pe_cmpR (op_eqPK K rfl (hu64 hr)) (pe_meth0 (pv 0) T.cls_Table T.mt_Table_free ((ok_Table_free (P := P) (w := w) T).mono (by first | decide | omega)) hr T.b_Table_free .nil pass0) (pv 5) (nomark _))))) pss_nil)
  (pss_cons (ps_if (pt_not (pt_truthK K rfl (pe_callB (call_isiK K rfl) (by rfl) T.n_isinstance L2.boot_isinstance (pa_cons (pv 6) (pa_cons (pe_ty rfl T.n_list L2.boot_list) pa_nil))) (fun _ => rfl))) (pss_one (ps_ret pe_bl)) pss_nil)
  (pss_cons (ps_set (i := 7) sc_Lright.nd rfl (by first | exact Or.inl rfl | exact Or.inr rfl) (pe_lst pa_nil))
  (pss_cons (ps_set (i := 8) sc_Lright.nd rfl (by first | exact Or.inl rfl | exact Or.inr rfl) (pe_callTy (call_dictMK (P := P) (w := w) K rfl rfl (hu64 hr)) (by rfl) T.n_dict L2.boot_dict (pa_cons (pv 2) pa_nil)))
  (pss_cons (ps_for PassesOwn.never rfl (pi_listK K rfl (pv 1)) (pg_name (i := 4) sc_Lright.nd rfl (by first | exact Or.inl rfl | exact Or.inr rfl))
  (pss_cons (ps_set (i := 9) sc_Lright.nd rfl (by first | exact Or.inl rfl | exact Or.inr rfl) (pe_mget2 (P := P) (w := w) K rfl (hu_of hr) (pv 8) (pv 4) (pe_callB (call_lenK K rfl) (by rfl) T.n_len L2.boot_len (pa_cons (pe_mix (P := P) (w := w) K rfl (hu_of hr) (pv 3) (pv 4) (fun _ _ => rfl)) pa_nil)) ⟨rfl, rfl, rfl, rfl⟩))
  (pss_cons (ps_if (pt_not (pt_truthK K rfl (pe_call ((ok_Lstays T).mono (by first | decide | omega)) hr rfl T.m_Lstays T.f_Lstays.kp T.b_Lstays .nil pass0 (pa_cons (pv 4) (pa_cons (pe_mix (P := P) (w := w) K rfl (hu_of hr) (pv 3) (pv 4) (fun _ _ => rfl)) (pa_cons (pe_meth (pv 0) T.cls_Table T.mt_Table_places_of ((ok_Table_places_of (P := P) (w := w) T).mono (by first | decide | omega)) hr T.b_Table_places_of .nil pass0 (pa_cons (pv 4) pa_nil)) (pa_cons (pv 9) (pa_cons (pe_op op_cat (pv 5) (pv 6)) pa_nil)))))) (fun _ => rfl))) (pss_one (ps_ret pe_bl)) pss_nil)
  (pss_one (ps_set (i := 7) sc_Lright.nd rfl (by first | exact Or.inl rfl | exact Or.inr rfl) (pe_op op_cat (pv 7) (pe_slice (sl_listK K rfl) (pe_mix (P := P) (w := w) K rfl (hu_of hr) (pv 3) (pv 4) (fun _ _ => rfl)) (po_some (pv 9)) po_none)))))))
  (pss_one (ps_ret (pe_cmpR (op_eqPK K rfl (hu64 hr)) (pe_callB (call_sortIntsK K rfl) (by rfl) T.n_sorted L2.boot_sorted (pa_cons (pv 6) pa_nil)) (pe_callB (call_sortIntsK K rfl) (by rfl) T.n_sorted L2.boot_sorted (pa_cons (pv 7) pa_nil)) (nomark _))))))))))))), ?_⟩
    obtain ⟨dx, hI⟩ := hT.ins
    refine fun ld hld => gName_ ?_
    dsimp only
    have s0 := same_new (o := dM P w ld []) (Same.refl H) hld
    have hld0 : upd H ld (dM P w ld []) ld = some (dM P w ld (ahL N kvs [])) := upd_same
    generalize upd H ld (dM P w ld []) = H0 at s0 hld0 ⊢
    refine cutQ (fun σ H' => Same H H' ∧ ∃ ls : List Addr, ls.length = 5 ∧ H' ld = some (dM P w ld (ahL N kvs ls)) ∧ (∀ j l, ls[j]? = some l → H l = none ∧ H' l = some (.lst ((S.pl (oKey N j)).map V.int))) ∧ ∃ v4, σ = [some (.ref t), some (.ref sl), some (.ref wl), some (.ref ld), v4, none, none, none, none, none]) ?A1 (fun Nn hJ => ?B1)
    case B1 =>
      refine ⟨_, rfl, sl, rfl, ⟨_, SqL.of (s0 _ _ hsl)⟩, ?_⟩
      refine for_list (xs := kvs) (fun i σ H' => Same H H' ∧ ∃ ls : List Addr, ls.length = i ∧ H' ld = some (dM P w ld (ahL N kvs ls)) ∧ (∀ j l, ls[j]? = some l → H l = none ∧ l ≠ ld ∧ H' l = some (.lst ((S.pl (oKey N j)).map V.int))) ∧ ∃ v4, σ = [some (.ref t), some (.ref sl), some (.ref wl), some (.ref ld), v4, none, none, none, none, none])
        ⟨s0, [], rfl, hld0, fun j l e => by simp at e, none, rfl⟩ (fun i σ H' _ h => SqL.of (h.1 _ _ hsl)) ?_ ?_
      · rintro i kv σ H1 hv ⟨s1, ls, hls, hld1, hat, v4, rfl⟩
        have hi : i < kvs.length := (List.getElem?_eq_some_iff.mp hv).1
        have hkh := hkv i kv hv
        refine gName_ ⟨_, rfl, t, dx, _, rfl, s1 _ _ hI, rfl, _, rfl, t, od, td, n, ow, tk, m, oKey N i, kv, rfl, hT.same s1, KeyH.at (keyH_same s1 hkh), fun lp H2 s2 lpn hlp => ?_⟩
        rw [hS.1] at hlp
        have s02 := s1.trans s2
        have nlp : lp ≠ ld := fun z => by rw [z, hld1] at lpn; cases lpn
        refine ⟨_, rfl, _, rfl, ld, _, oKey N i, rfl, s2 _ _ hld1, ahL_keys (by omega) (fun j v e => keyH_same s02 (hkv j v e)), KeyH.at (keyH_same s02 hkh), by rw [ahL_len, sizeLine_eq]; omega, ?_⟩
        have ep : mPut (ahL N kvs ls) (oKey N i) kv (.ref lp) = ahL N kvs (ls ++ [lp]) := by
          rw [← hls]
          exact ahL_put (by rw [hls]; exact hv)
        rw [ep]
        refine ⟨same_upd s02 hld, ls ++ [lp], by rw [List.length_append, hls]; rfl, upd_same, fun j l e => ?_, _, rfl⟩
        rcases Nat.lt_or_ge j ls.length with hj | hj
        · rw [List.getElem?_append_left hj] at e
          obtain ⟨a1, a2, a3⟩ := hat j l e
          exact ⟨a1, a2, by rw [upd_ne a2]; exact s2 _ _ a3⟩
        · rw [List.getElem?_append_right hj] at e
          have hj0 : j - ls.length = 0 := by
            rcases Nat.eq_zero_or_pos (j - ls.length) with z | z
            · exact z
            · rw [List.getElem?_eq_none (by simp; omega)] at e; cases e
          rw [hj0] at e
          cases e
          rw [show j = i by omega]
          exact ⟨s1.free lpn, nlp, by rw [upd_ne nlp]; exact hlp⟩
      · rintro σ H1 ⟨s1, ls, hls, hld1, hat, v4, rfl⟩
        exact hJ _ _ ⟨s1, ls, by omega, hld1, fun j l e => ⟨(hat j l e).1, (hat j l e).2.2⟩, _, rfl⟩
    case A1 =>
    rintro σ H1 ⟨s1, ls, hls, hld1, hat, v4, rfl⟩
    have hT1 := hT.same s1
    refine ⟨_, rfl, t, dx, _, rfl, s1 _ _ hI, rfl, t, od, td, n, ow, tk, m, rfl, hT1, hn, fun lfr H2 s2 lfn hlf => gName_ ?_⟩
    rw [hS.free] at hlf
    have s02 := s1.trans s2
    have hT2 := hT1.same s2
    have hld2 := s2 _ _ hld1
    have hat2 : ∀ j l, ls[j]? = some l → H l = none ∧ H2 l = some (.lst ((S.pl (oKey N j)).map V.int)) := fun j l e => ⟨(hat j l e).1, s2 _ _ (hat j l e).2⟩
    have hlfn : H lfr = none := s1.free lfn
    clear hat hld1 s2 lfn
    dsimp only
    have keep : ∀ {H3}, Off od td H2 H3 → H3 ld = some (dM P w ld (ahL N kvs ls)) ∧ (∀ j l, ls[j]? = some l → H3 l = some (.lst ((S.pl (oKey N j)).map V.int))) ∧ H3 lfr = some (.lst ((frl n S.oc).map V.int)) ∧ H3 sl = some (.lst kvs) ∧ H3 wl = some (.lst ts) ∧ (∀ i v, kvs[i]? = some v → KeyH H3 (oKey N i) v) ∧ Kp H H3 := fun {H3} off => by
      have nt : ∀ b xs, H2 b = some (.lst xs) → H3 b = some (.lst xs) := fun b xs e => off b _ e (fun z => by have e2 := hT2.own; rw [← z, e] at e2; cases e2) (fun z => by have e2 := hT2.tak; rw [← z, e] at e2; cases e2)
      have kp : Kp H H3 := (Kp.of s02).trans ⟨fun u xs e => off.tp hT2.own hT2.tak e, fun u ob ⟨o', e⟩ => ⟨o', off u _ e (fun z => by rw [z, hT2.own] at e; cases e) (fun z => by rw [z, hT2.tak] at e; cases e)⟩⟩
      refine ⟨off _ _ hld2 (fun z => ?_) (fun z => ?_), fun j l e => nt _ _ (hat2 j l e).2, nt _ _ hlf, nt _ _ (s02 _ _ hsl), nt _ _ (s02 _ _ hwl), fun i v e => keyH_kp kp (hkv i v e), kp⟩
      · have e := hT.own; rw [← z, hld] at e; cases e
      · have e := hT.tak; rw [← z, hld] at e; cases e
    refine cutQ (fun σ H' => Off od td H2 H' ∧ ((needS S W ≤ ((frl n S.oc).length : Int) ∧ ∃ (l : Addr) (ow' : List (Key × V)) (tk' : List MVal) (m' : List Pl), TabAt P w K a.Table H' t od td n ow' tk' m' ∧ TabS n (tookAll n (giveAll S W) W) ow' m' ∧ H2 l = none ∧ H' l = some (.lst ((backAll S W).map V.int)) ∧ tk'.length ≤ tk.length + 10 ∧ ow'.length ≤ ow.length + 5000 ∧ σ = [some (.ref t), some (.ref sl), some (.ref wl), some (.ref ld), v4, some (.ref lfr), some (.ref l), none, none, none]) ∨
      (Same H2 H' ∧ σ = [some (.ref t), some (.ref sl), some (.ref wl), some (.ref ld), v4, some (.ref lfr), some .non, none, none, none]))) ?A2 (fun Nn hJ => ?B2)
    case B2 =>
      refine ⟨_, rfl, _, rfl, t, od, td, wl, n, ow, tk, m, S, W, ts, ds, rfl, hT2, hS, hO, s02 _ _ hwl, hW.kp (.of s02), fun x hx => (hW0 x hx).1, hWn, hW5, hn, htk, how, fun H' kp => hds H' ((Kp.of s02).trans kp), hsh, fun hle l ow' tk' m' H3 off hT3 hS3 hl hl3 nw nl b1 b2 => gName_ (hJ _ _ ⟨off, .inl ⟨hle, l, ow', tk', m', hT3, hS3, hl, hl3, b1, b2, rfl⟩⟩), fun hlt H3 s3 => gName_ (hJ _ _ ⟨.of s3, .inr ⟨s3, rfl⟩⟩)⟩
    case A2 =>
    rintro σ H3 ⟨off, hc⟩
    obtain ⟨k1, k2, k3, k4, k5, k6, k7⟩ := keep off
    have off0 : Off od td H H3 := (Off.of s02).trans off
    rcases hc with ⟨hle, lb, ow', tk', m', hT3, hS3, hlbn, hlb, b1, b2, rfl⟩ | ⟨s3, rfl⟩
    · obtain ⟨dx3, hI3⟩ := hT3.ins
      have hO3 : (tookAll n (giveAll S W) W).Ok n := tookAll_ok W (giveAll_ok W hO)
      have hW00 : ∀ x ∈ W, 0 ≤ x.2 := fun x hx => (hW0 x hx).1
      have hbl : (backAll S W).length ≤ 5000 := by
        have h1 := backAll_len W hO
        have h2 : n * W.length ≤ 1000 * 5 := Nat.mul_le_mul hn hW5
        omega
      have hfl := frl_le n S.oc
      have hpl : ∀ k, (S.pl k).length ≤ n := fun k => nd_ints (hO.nd k) fun p hp => ⟨(hO.in_ k p hp).1, (hO.in_ k p hp).2.1⟩
      have hpl3 : ∀ k, ((tookAll n (giveAll S W) W).pl k).length ≤ n := fun k => nd_ints (hO3.nd k) fun p hp => ⟨(hO3.in_ k p hp).1, (hO3.in_ k p hp).2.1⟩
      refine ⟨_, rfl, rfl, false, rfl, iteF (nx_ ?_)⟩
      refine ⟨_, rfl, _, "list", _, true, rfl, .lst hlb, kit_tt (by decide +kernel), true, rfl, iteF (nx_ ?_)⟩
      refine ⟨le_size (show _ ≤ 65536 by simp), fun lg hlg => gName_ ?_⟩
      have s4 := same_new (o := .lst []) (Same.refl H3) hlg
      have hlg4 : upd H3 lg (.lst []) lg = some (.lst []) := upd_same
      generalize upd H3 lg (.lst []) = H4 at s4 hlg4 ⊢
      have hW4 : WAt K H4 ts W := (hW.kp k7).kp (.of s4)
      obtain ⟨Es, hE, hEW⟩ := wats hW4
      have hEn : (Es.map (·.1)).Nodup := by
        have e : Es.map (·.1) = W.map (·.1) := by
          have := congrArg (List.map Prod.fst) hEW
          rw [List.map_map, List.map_map] at this
          exact this
        rw [e]; exact hWn
      have htl : ts.length = W.length := Paired.length hW
      refine ⟨_, rfl, wl, ts, Es, rfl, SqL.of (s4 _ _ k5), hE, by omega, fun ln hln => gName_ ?_⟩
      rw [mAll_new hEn]
      have s5 := same_new (o := dM P w ln Es) s4 hln
      have hln5 : upd H4 ln (dM P w ln Es) ln = some (dM P w ln Es) := upd_same
      have hlg5 : upd H4 ln (dM P w ln Es) lg = some (.lst []) := by rw [upd_ne (ne_of_none hlg4 hln)]; exact hlg4
      have hEk : ∀ {H6}, Same (upd H4 ln (dM P w ln Es)) H6 → KeysAt K H6 Es := fun {H6} s6 x hx => by
        obtain ⟨i, hi⟩ := List.mem_iff_getElem?.mp hx
        have : ∀ {ts' : List V} {Es' : List MVal}, L2.PairsAt K H4 ts' Es' → ∀ x ∈ Es', KeyAt K H4 x.1 x.2.1 := by
          intro ts' Es' h
          induction h with
          | nil => intro x hx; cases hx
          | cons r t ih =>
            intro x hx
            rcases List.mem_cons.mp hx with rfl | hx
            · obtain ⟨_, _, _, r3⟩ := r
              exact r3
            · exact ih x hx
        exact keyAt_same s6 (keyAt_same (same_new (Same.refl H4) hln) (this hE x hx))
      generalize upd H4 ln (dM P w ln Es) = H5 at s5 hln5 hlg5 hEk ⊢
      dsimp only
      obtain ⟨gn, hgn⟩ : ∃ gn : Nat → List Int, ∀ i, gn i = (List.range i).flatMap fun j => (S.pl (oKey N j)).drop (numOf S W (oKey N j)) := ⟨_, fun _ => rfl⟩
      have gn0 : gn 0 = [] := by rw [hgn]; rfl
      have gns : ∀ i, gn (i + 1) = gn i ++ (S.pl (oKey N i)).drop (numOf S W (oKey N i)) := fun i => by
        rw [hgn, hgn, List.range_succ, List.flatMap_append]
        simp
      have gnl : ∀ i, (gn i).length ≤ 1000 * i := by
        intro i
        induction i with
        | zero => rw [gn0]; exact Nat.le_refl _
        | succ i ih =>
          have := hpl (oKey N i)
          rw [gns, List.length_append, List.length_drop]
          omega
      refine cutQ (fun σ H' => Same H3 H' ∧ ∃ (lg' : Addr) (v4 v9 : Option V), H' lg' = some (.lst ((gn 5).map V.int)) ∧ σ = [some (.ref t), some (.ref sl), some (.ref wl), some (.ref ld), v4, some (.ref lfr), some (.ref lb), some (.ref lg'), some (.ref ln), v9]) ?A4 (fun Nn hJ => ?B4)
      case B4 =>
        refine ⟨_, rfl, sl, rfl, ⟨_, SqL.of (s5 _ _ k4)⟩, ?_⟩
        refine for_list (xs := kvs) (fun i σ H' => Same H5 H' ∧ ∃ (lg' : Addr) (v4 v9 : Option V), H' lg' = some (.lst ((gn i).map V.int)) ∧ σ = [some (.ref t), some (.ref sl), some (.ref wl), some (.ref ld), v4, some (.ref lfr), some (.ref lb), some (.ref lg'), some (.ref ln), v9])
          ⟨Same.refl _, lg, _, _, by rw [gn0]; exact hlg5, rfl⟩ (fun i σ H' _ h => SqL.of (h.1 _ _ (s5 _ _ k4))) ?_ ?_
        · rintro i kv σ H6 hv ⟨s6, lg', v4', v9, hlg6, rfl⟩
          have hi : i < kvs.length := (List.getElem?_eq_some_iff.mp hv).1
          have s36 := s5.trans s6
          have hli : ls[i]? = some ls[i] := List.getElem?_eq_getElem (by omega)
          generalize ls[i] = l at hli
          have hl6 := s36 _ _ (k2 i l hli)
          have hkh : ∀ {H7}, Same H3 H7 → KeyH H7 (oKey N i) kv := fun {H7} s7 => keyH_same s7 (k6 i kv hv)
          have hak : ∀ {H7}, Same H3 H7 → KeysAt K H7 (ahL N kvs ls) := fun {H7} s7 => ahL_keys (by omega) fun j v e => keyH_same s7 (k6 j v e)
          have hval : (mVal Es (oKey N i)).getD (.int ((S.pl (oKey N i)).length : Int)) = .int (numOf S W (oKey N i) : Int) := es_val hEW hW00 _
          obtain ⟨F, f1, f2, f3⟩ := told_all hO hWn hW00 hle (oKey N i)
          have hlenS := hpl (oKey N i)
          have hlen3 := hpl3 (oKey N i)
          have hc : ((tookAll n (giveAll S W) W).pl (oKey N i)).length = numOf S W (oKey N i) := by
            rw [f1, List.length_append, List.length_take, f2]
            omega
          refine gName_ ⟨_, rfl, ln, _, rfl, s6 _ _ hln5, _, rfl, _, rfl, _, rfl, ld, _, oKey N i, .ref l, rfl, s36 _ _ k1, hak s36, KeyH.at (hkh s36), ahL_val hli, _, (S.pl (oKey N i)).length, rfl, .inl ⟨_, SqL.of hl6, by rw [List.length_map]⟩, Es, oKey N i, s6 _ _ hln5, hEk s6, KeyH.at (hkh s36), ?_⟩
          rw [hval]
          refine gName_ ?_
          have gi := gns i
          generalize numOf S W (oKey N i) = c at f1 f2 hc gi ⊢
          have hml : ((S.pl (oKey N i)).take c).length = min (S.pl (oKey N i)).length c := by rw [List.length_take]; omega
          have htk : (S.pl (oKey N i)).take (min (S.pl (oKey N i)).length c) = (S.pl (oKey N i)).take c := by
            rcases Nat.le_total c (S.pl (oKey N i)).length with z | z
            · rw [Nat.min_eq_right z]
            · rw [Nat.min_eq_left z, List.take_of_length_le (Nat.le_refl _), List.take_of_length_le z]
          dsimp only
          refine ⟨_, rfl, _, rfl, _, rfl, ld, _, oKey N i, .ref l, rfl, s36 _ _ k1, hak s36, KeyH.at (hkh s36), ahL_val hli, _, rfl, t, dx3, _, rfl, s36 _ _ hI3, rfl, _, rfl, t, od, td, n, ow', tk', m', oKey N i, kv, rfl, hT3.same s36, KeyH.at (hkh s36), fun lp H7 s7 lpn hlp => ?_⟩
          rw [hS3.1] at hlp
          have s37 := s36.trans s7
          refine ⟨_, rfl, _, rfl, _, rfl, lfr, lb, _, _, rfl, rfl, s37 _ _ k3, s37 _ _ hlb, by rw [List.length_map, List.length_map, sizeLine_eq]; omega, fun lc hlc => ?_⟩
          rw [← List.map_append]
          have s8 := same_new (o := .lst ((frl n S.oc ++ backAll S W).map V.int)) (Same.refl H7) hlc
          have hlc8 : upd H7 lc (.lst ((frl n S.oc ++ backAll S W).map V.int)) lc = some (.lst ((frl n S.oc ++ backAll S W).map V.int)) := upd_same
          generalize upd H7 lc (.lst ((frl n S.oc ++ backAll S W).map V.int)) = H8 at s8 hlc8 ⊢
          have s38 := s37.trans s8
          refine ⟨l, lp, lc, kv, S.pl (oKey N i), (tookAll n (giveAll S W) W).pl (oKey N i), frl n S.oc ++ backAll S W, c, rfl, s38 _ _ (k2 i l hli), s8 _ _ hlp, hlc8, hc, by omega, by omega, ?_, ?_, fun H9 s9 => ⟨true, rfl, iteF (nx_ ?_)⟩⟩
          · rw [f1, List.take_left' hml, htk]
          · rw [f1, List.drop_left' hml]
            exact f3
          have s39 := s38.trans s9
          refine ⟨_, rfl, _, rfl, _, rfl, ld, _, oKey N i, .ref l, rfl, s39 _ _ k1, hak s39, KeyH.at (hkh s39), ahL_val hli, _, rfl, _, rfl, l, _, rfl, SqL.of (s39 _ _ (k2 i l hli)), fun lsl hlsl => ?_⟩
          rw [cut_from _ (by omega), Int.toNat_natCast, ← List.map_drop]
          have s10 := same_new (o := .lst (((S.pl (oKey N i)).drop c).map V.int)) (Same.refl H9) hlsl
          have e10 : upd H9 lsl (.lst (((S.pl (oKey N i)).drop c).map V.int)) lsl = some (.lst (((S.pl (oKey N i)).drop c).map V.int)) := upd_same
          generalize upd H9 lsl (.lst (((S.pl (oKey N i)).drop c).map V.int)) = H10 at s10 e10 ⊢
          have s610 : Same H6 H10 := s7.trans (s8.trans (s9.trans s10))
          have gli := gnl i
          refine ⟨lg', lsl, _, _, rfl, rfl, s610 _ _ hlg6, e10, by rw [List.length_map, List.length_map, List.length_drop, sizeLine_eq]; omega, fun lg2 hlg2 => gName_ ⟨same_new (s6.trans s610) hlg2, lg2, _, _, ?_, rfl⟩⟩
          rw [gi, List.map_append]
          exact upd_same
        · rintro σ H6 ⟨s6, lg', v4', v9, hlg6, rfl⟩
          rw [hk5] at hlg6
          exact hJ _ _ ⟨s5.trans s6, lg', _, _, hlg6, rfl⟩
      case A4 =>
      rintro σ H6 ⟨s6, lg', v4', v9, hlg6, rfl⟩
      have g5 := gnl 5
      refine ⟨_, rfl, lb, backAll S W, rfl, SqL.of (s6 _ _ hlb), by omega, fun q1 ns1 hq1 pm1 pw1 => ?_⟩
      have s7 := same_new (o := .lst (ns1.map V.int)) (Same.refl H6) hq1
      have e7 : upd H6 q1 (.lst (ns1.map V.int)) q1 = some (.lst (ns1.map V.int)) := upd_same
      generalize upd H6 q1 (.lst (ns1.map V.int)) = H7 at s7 e7 ⊢
      refine ⟨_, rfl, lg', gn 5, rfl, SqL.of (s7 _ _ hlg6), by omega, fun q2 ns2 hq2 pm2 pw2 => ?_⟩
      have s8 := same_new (o := .lst (ns2.map V.int)) (Same.refl H7) hq2
      have e8 : upd H7 q2 (.lst (ns2.map V.int)) q2 = some (.lst (ns2.map V.int)) := upd_same
      generalize upd H7 q2 (.lst (ns2.map V.int)) = H8 at s8 e8 ⊢
      have gp : (backAll S W).Perm (gn 5) := by
        have n1 : ((List.range 5).map (oKey N)).Nodup := by
          rw [List.nodup_iff_pairwise_ne, List.pairwise_map]
          exact (List.nodup_iff_pairwise_ne.mp List.nodup_range).imp fun h z => h (oKey_inj z)
        have n2 : ∀ x ∈ W, x.1 ∈ (List.range 5).map (oKey N) := fun x hx => by
          obtain ⟨_, i, hi, e⟩ := hW0 x hx
          exact List.mem_map.mpr ⟨i, List.mem_range.mpr hi, e.symm⟩
        have h := gone_perm (S := S) (W := W) (ks := (List.range 5).map (oKey N)) hWn n1 n2
        rw [hgn]
        rw [List.flatMap_map] at h
        exact h
      obtain rfl : ns1 = ns2 := sorted_one (pm1.trans (gp.trans pm2.symm)) pw1 pw2
      refine ⟨.list (ns1.map PyData.int), .list (ns1.map PyData.int), .lst (SqL.of (s8 _ _ e7)) (isPs_ints _), .lst (SqL.of e8) (isPs_ints _), shaped_ints _, shaped_ints _, ?_⟩
      rw [eqv_lst]
      exact fin _ ow' tk' m' H8 (off0.trans (Off.of (s6.trans (s7.trans s8)))) (hT3.same (s6.trans (s7.trans s8))) hS3 hO3 b1 b2
    · have hT3 := hT2.same s3
      obtain ⟨dx3, hI3⟩ := hT3.ins
      refine ⟨_, rfl, rfl, true, rfl, iteT ?_⟩
      refine ⟨_, rfl, sl, rfl, ⟨_, SqL.of k4⟩, ?_⟩
      refine for_list (xs := kvs) (fun i σ H' => Same H3 H' ∧ ∃ v4, σ = [some (.ref t), some (.ref sl), some (.ref wl), some (.ref ld), v4, some (.ref lfr), some .non, none, none, none]) ⟨Same.refl _, _, rfl⟩ (fun i σ H' _ h => SqL.of (h.1 _ _ k4)) ?_ ?_
      · rintro i kv σ H4 hv ⟨s4, v4', rfl⟩
        have hi : i < kvs.length := (List.getElem?_eq_some_iff.mp hv).1
        have hli : ls[i]? = some ls[i] := List.getElem?_eq_getElem (by omega)
        generalize ls[i] = l at hli
        refine gName_ ⟨_, rfl, t, dx3, _, rfl, s4 _ _ hI3, rfl, _, rfl, t, od, td, n, ow, tk, m, oKey N i, kv, rfl, hT3.same s4, KeyH.at (keyH_same s4 (k6 i kv hv)), fun lp H5 s5 lpn hlp => ?_⟩
        rw [hS.1] at hlp
        have s45 := s4.trans s5
        refine ⟨_, rfl, _, rfl, ld, _, oKey N i, .ref l, rfl, s45 _ _ k1, ahL_keys (by omega) (fun j v e => keyH_same s45 (k6 j v e)), KeyH.at (keyH_same s45 (k6 i kv hv)), ahL_val hli, ?_⟩
        refine ⟨.list ((S.pl (oKey N i)).map PyData.int), .list ((S.pl (oKey N i)).map PyData.int), .lst (SqL.of hlp) (isPs_ints _), .lst (SqL.of (s45 _ _ (k2 i l hli))) (isPs_ints _), shaped_ints _, shaped_ints _, _, rfl, ?_⟩
        rw [eqv_lst]
        exact iteF ⟨s45, _, rfl⟩
      · rintro σ H4 ⟨s4, v4', rfl⟩
        refine nx_ ⟨_, rfl, t, dx3, _, rfl, s4 _ _ hI3, rfl, t, od, td, n, ow, tk, m, rfl, hT3.same s4, hn, fun lf2 H5 s5 lf2n hlf2 => ?_⟩
        rw [hS.free] at hlf2
        have s45 := s4.trans s5
        refine ⟨_, rfl, .list ((frl n S.oc).map PyData.int), .list ((frl n S.oc).map PyData.int), .lst (SqL.of hlf2) (isPs_ints _), .lst (SqL.of (s45 _ _ k3)) (isPs_ints _), shaped_ints _, shaped_ints _, ?_⟩
        rw [eqv_lst]
        exact fin S ow tk m H5 (off0.trans (Off.of s45)) (hT3.same s45) hS hO (by omega) (by omega)
end
section
variable {P : Program} {w : World} {K : PySem.W.Frag} {mg : Str → Option Value} {base : Heap} {a : Adr}
theorem ok_law (T : Txt K mg a) : FnOk P w K mg base CX0 6 a.law a.fd_law ["_law_script"] (spLaw K) := by
  refine T.f_law.ok sc_law (fun vs H Q E h => ?_) (fun cdv A outer s H vs Q E hr h => ?_)
  · obtain ⟨p, ns, rfl, _⟩ := h
    rfl
  · obtain ⟨sc, ns, rfl, hS, hl, q⟩ := h
    refine ⟨_, (pss_cons (ps_set (i := 1) sc_law.nd rfl (by first | exact Or.inl rfl | exact Or.inr rfl) (pe_call ((ok_Lmixed T).mono (by first | decide | omega)) hr rfl T.m_Lmixed T.f_Lmixed.kp T.b_Lmixed .nil pass0 (pa_cons (pv 0) (pa_cons pe_int (pa_cons pe_int pa_nil)))))
  (pss_cons (ps_set (i := 2) sc_law.nd rfl (by first | exact Or.inl rfl | exact Or.inr rfl) (pe_op op_add pe_int (pe_op op_mod (pe_op op_fdiv (pv 1) pe_int) pe_int)))
  (pss_cons (ps_if (pt_cmpR op_eq (pe_op op_mod (pv 1) pe_int) pe_int (nomark _)) (pss_one (ps_set (i := 2) sc_law.nd rfl (by first | exact Or.inl rfl | exact Or.inr rfl) (pe_op op_add pe_int (pe_op op_mod (pe_op op_fdiv (pv 1) pe_int) pe_int)))) pss_nil)
  (pss_cons (comp_set (i := 3) ["_law_script", "_law_number", "_law_many", "_law_some", "_law_table", "_law_k"] [] [5] [5] (defScope s_law) rfl rfl rfl (by decide +kernel) (by decide +kernel) (gk_name 5)
    (pi_range1 rfl T.n_range (pa_cons pe_int pa_nil)) (fun cl C s₀ H₀ ex => ⟨(pg_name (i := 5) (show List.Nodup ((["_law_script", "_law_number", "_law_many", "_law_some", "_law_table", "_law_k"] : List PySem.Str) ++ ([] : List PySem.Str)) by decide +kernel) rfl (by first | exact Or.inl rfl | exact Or.inr rfl)), pts_nil, (pe_call ((ok_Lowner T).mono (by first | decide | omega)) hr rfl T.m_Lowner T.f_Lowner.kp T.b_Lowner .nil pass0 (pa_cons (pe_op op_fdiv (pv 1) pe_int) (pa_cons (pv 5) pa_nil)))⟩) sc_law.nd)
  (pss_cons (ps_set (i := 4) sc_law.nd rfl (by first | exact Or.inl rfl | exact Or.inr rfl) (pe_make T.mk_Table ((ok_Table__init_ (P := P) (w := w) T).mono (by first | decide | omega)) hr rfl T.m_Table T.b_Table__init_ .nil pass0 (pa_cons (pv 2) pa_nil)))
  (pss_cons (ps_for PassesOwn.never rfl (pi_range1 rfl T.n_range (pa_cons (pe_callB (call_min2 rfl) (by rfl) T.n_min L2.boot_min (pa_cons (pe_op op_add (pe_callB (call_lenK K rfl) (by rfl) T.n_len L2.boot_len (pa_cons (pv 0) pa_nil)) pe_int) (pa_cons pe_int pa_nil))) pa_nil)) (pg_name (i := 5) sc_law.nd rfl (by first | exact Or.inl rfl | exact Or.inr rfl))
  (pss_one (ps_if (pt_not (pt_truthK K rfl (pe_call ((ok_Lright T).mono (by first | decide | omega)) hr rfl T.m_Lright T.f_Lright.kp T.b_Lright .nil pass0 (pa_cons (pv 4) (pa_cons (pv 3) (pa_cons (pe_call ((ok_Lwanted T).mono (by first | decide | omega)) hr rfl T.m_Lwanted T.f_Lwanted.kp T.b_Lwanted .nil pass0 (pa_cons (pv 0) (pa_cons (pv 5) (pa_cons (pv 3) (pa_cons (pv 2) pa_nil))))) pa_nil)))) (fun _ => rfl))) (pss_one (ps_ret pe_bl)) pss_nil)))
  (pss_one (ps_ret pe_bl)))))))), ?_⟩
    refine ⟨_, rfl, sc, ns, 0, 1, rfl, hS, hl, ⟨by decide, by decide⟩, ⟨by decide, by decide⟩, fun x x0 x1 => gName_ ?_⟩
    dsimp only
    have b20 := mod_lt (x / 6) (show (0 : Int) < 24 by decide)
    have b200 := mod_lt (x / 6) (show (0 : Int) < 200 by decide)
    refine cutQ (fun σ H' => H = H' ∧ σ = [some (.ref sc), some (.int x), some (.int (1 + x / 6 % 24)), none, none, none]) ?A0 (fun Nn hJ => ?B0)
    case B0 =>
      (repeat (first | refine ⟨_, rfl, ?_⟩ | refine ⟨_, _, rfl, rfl, ?_⟩ | refine ⟨(rfl : scal _ _ = true), ?_⟩ | refine ⟨(show CMul _ _ by first | exact .inl ⟨by decide, by decide⟩ | exact .inr ⟨by decide, by decide⟩ | exact .inl ⟨by omega, by omega⟩ | exact .inr ⟨by omega, by omega⟩), ?_⟩ | refine ⟨(show CDiv _ _ by first | exact ⟨by decide, by decide⟩ | exact ⟨by omega, by omega⟩), ?_⟩ | refine ⟨(show (0 : Int) < _ by first | omega | decide), ?_⟩ | refine ⟨(rfl : V.int 10 = V.int 10), (rfl : V.int 30 = V.int 30), ?_⟩))
      exact hJ _ _ ⟨rfl, rfl⟩
    case A0 =>
    rintro σ _ ⟨rfl, rfl⟩
    refine cutQ (fun σ H' => H = H' ∧ ∃ n : Nat, 1 ≤ n ∧ n ≤ 200 ∧ σ = [some (.ref sc), some (.int x), some (.int n), none, none, none]) ?A1 (fun Nn hJ => ?B1)
    case B1 =>
      (repeat (first | refine ⟨_, rfl, ?_⟩ | refine ⟨_, _, rfl, rfl, ?_⟩ | refine ⟨(rfl : scal _ _ = true), ?_⟩ | refine ⟨(show CMul _ _ by first | exact .inl ⟨by decide, by decide⟩ | exact .inr ⟨by decide, by decide⟩ | exact .inl ⟨by omega, by omega⟩ | exact .inr ⟨by omega, by omega⟩), ?_⟩ | refine ⟨(show CDiv _ _ by first | exact ⟨by decide, by decide⟩ | exact ⟨by omega, by omega⟩), ?_⟩ | refine ⟨(show (0 : Int) < _ by first | omega | decide), ?_⟩ | refine ⟨(rfl : V.int 10 = V.int 10), (rfl : V.int 30 = V.int 30), ?_⟩))
      refine iteI (fun _ => ?_) (fun _ => hJ _ _ ⟨rfl, (1 + x / 6 % 24).toNat, by omega, by omega, by rw [show (((1 + x / 6 % 24).toNat : Nat) : Int) = 1 + x / 6 % 24 by omega]⟩)
      (repeat (first | refine ⟨_, rfl, ?_⟩ | refine ⟨_, _, rfl, rfl, ?_⟩ | refine ⟨(rfl : scal _ _ = true), ?_⟩ | refine ⟨(show CMul _ _ by first | exact .inl ⟨by decide, by decide⟩ | exact .inr ⟨by decide, by decide⟩ | exact .inl ⟨by omega, by omega⟩ | exact .inr ⟨by omega, by omega⟩), ?_⟩ | refine ⟨(show CDiv _ _ by first | exact ⟨by decide, by decide⟩ | exact ⟨by omega, by omega⟩), ?_⟩ | refine ⟨(show (0 : Int) < _ by first | omega | decide), ?_⟩ | refine ⟨(rfl : V.int 10 = V.int 10), (rfl : V.int 30 = V.int 30), ?_⟩))
      exact hJ _ _ ⟨rfl, (1 + x / 6 % 200).toNat, by omega, by omega, by rw [show (((1 + x / 6 % 200).toNat : Nat) : Int) = 1 + x / 6 % 200 by omega]; rfl⟩
    case A1 =>
    rintro σ _ ⟨rfl, n, n1, n200, rfl⟩
    clear b20 b200
    obtain ⟨N, hN⟩ : ∃ N : Int, N = x / 144 := ⟨_, rfl⟩
    have hN0 : 0 ≤ N := by omega
    have hN1 : N < 2147483648 := by omega
    refine cutQ (fun σ H' => Same H H' ∧ ∃ (sl : Addr) (kvs : List V), H' sl = some (.lst kvs) ∧ kvs.length = 5 ∧ (∀ i v, kvs[i]? = some v → KeyH H' (oKey N i) v) ∧ σ = [some (.ref sc), some (.int x), some (.int n), some (.ref sl), none, none]) ?Ak (fun Nn hJ => ?Bk)
    case Bk =>
      refine ⟨5, rfl, by decide, by decide, fun D hD => ?_⟩
      refine comp_range (K := K) (lo := 0) (n := (5 : Int).toNat) (fun i acc H' => Same H H' ∧ H' D = some (.lst acc) ∧ acc.length = i ∧ ∀ j v, acc[j]? = some v → KeyH H' (oKey N j) v) ⟨same_new (Same.refl _) hD, upd_same, rfl, fun j v e => by simp at e⟩ ?_ ?_
      · rintro i acc H2 hi ⟨s2, hD2, hal, hac⟩
        have hi5 : i < 5 := hi
        rw [show (0 : Int) + (i : Int) = ((i : Nat) : Int) by omega]
        refine gName_ (yes_ (iteT ?_))
        (repeat (first | refine ⟨_, rfl, ?_⟩ | refine ⟨_, _, rfl, rfl, ?_⟩ | refine ⟨(rfl : scal _ _ = true), ?_⟩ | refine ⟨(show CMul _ _ by first | exact .inl ⟨by decide, by decide⟩ | exact .inr ⟨by decide, by decide⟩ | exact .inl ⟨by omega, by omega⟩ | exact .inr ⟨by omega, by omega⟩), ?_⟩ | refine ⟨(show CDiv _ _ by first | exact ⟨by decide, by decide⟩ | exact ⟨by omega, by omega⟩), ?_⟩ | refine ⟨(show (0 : Int) < _ by first | omega | decide), ?_⟩ | refine ⟨(rfl : V.int 10 = V.int 10), (rfl : V.int 30 = V.int 30), ?_⟩))
        refine ⟨N, i, by rw [hN]; rfl, hN0, hN1, by omega, fun v H3 s3 hv => ⟨s3 _ _ hD2, by rw [sizeLine_eq]; omega, lf hi ⟨same_upd (s2.trans s3) hD, upd_same, by rw [List.length_append, hal]; rfl, fun j u e => ?_⟩⟩⟩
        have kp : ∀ {k : MKey} {u : V}, KeyH H3 k u → KeyH (upd H3 D (.lst (acc ++ [v]))) k u := fun {k u} h => keyH_kp (.lst (s3 _ _ hD2)) h
        rcases Nat.lt_or_ge j acc.length with hj | hj
        · rw [List.getElem?_append_left hj] at e
          exact kp (keyH_same s3 (hac j u e))
        · rw [List.getElem?_append_right hj] at e
          have hj0 : j - acc.length = 0 := by
            rcases Nat.eq_zero_or_pos (j - acc.length) with z | z
            · exact z
            · rw [List.getElem?_eq_none (by simp; omega)] at e; cases e
          rw [hj0] at e
          cases e
          rw [show j = i by omega]
          exact kp hv
      · rintro acc H2 ⟨s2, hD2, hal, hac⟩
        exact gName_ (hJ _ _ ⟨s2, D, acc, hD2, hal, hac, rfl⟩)
    case Ak =>
    rintro σ H0 ⟨s0, sl, kvs, hsl0, hk5, hkv0, rfl⟩
    refine cutQ (fun σ H' => Same H0 H' ∧ ∃ (t od td : Addr), TabAt P w K a.Table H' t od td n [] [] [] ∧ H0 od = none ∧ H0 td = none ∧ σ = [some (.ref sc), some (.int x), some (.int n), some (.ref sl), some (.ref t), none]) ?A2 (fun Nn hJ => ?B2)
    case B2 =>
      refine ⟨_, rfl, fun t0 dx0 ht0 hdx0 nx0 => ⟨t0, dx0, n, rfl, upd_same, by rw [upd_ne nx0]; exact upd_same, fun od0 td0 H3 hod0 htd0 fr0 hT0 => ⟨rfl, gName_ (hJ _ _ ⟨?_, t0, od0, td0, hT0, ?_, ?_, rfl⟩)⟩⟩⟩
      · intro b o e
        have nb : b ≠ t0 := fun z => by rw [z, ht0] at e; cases e
        refine fr0 b o ?_ nb
        rw [upd_ne nb, upd_ne (fun z => by rw [z, hdx0] at e; cases e)]
        exact e
      · exact none_upd (none_upd hod0)
      · exact none_upd (none_upd htd0)
    case A2 =>
    rintro σ H1 ⟨s1, t, od, td, hT1, hodn, htdn, rfl⟩
    have hS0 : SqL K H0 sc (ns.map V.int) := s0.seq hS
    have hn' : ∃ nn : Int, nn = (if (30 : Int) < (ns.length : Int) + 2 then 30 else (ns.length : Int) + 2) ∧ 0 ≤ nn ∧ nn ≤ 30 := ⟨_, rfl, by split <;> omega, by split <;> omega⟩
    obtain ⟨nn, en, nn0, nn1⟩ := hn'
    have off_same : ∀ {H8 H9 : Hp}, Same H0 H8 → Off od td H8 H9 → Same H0 H9 := fun {H8 H9} sm o b ob e => o b ob (sm b ob e) (fun z => by rw [z, hodn] at e; cases e) (fun z => by rw [z, htdn] at e; cases e)
    refine ⟨_, rfl, _, ns.length, rfl, .inl ⟨_, s1.seq hS0, by simp⟩, _, _, rfl, rfl, _, _, rfl, nn, (by rw [en]), (by omega), (by omega), ?_⟩
    refine for_range (lo := 0) (n := nn.toNat) (fun i σ H' => Same H0 H' ∧ ∃ (S : AS) (ow : List (Key × V)) (tk : List MVal) (m : List Pl), TabAt P w K a.Table H' t od td n ow tk m ∧ TabS n S ow m ∧ S.Ok n ∧ tk.length ≤ 10 * i ∧ ow.length ≤ 5000 * i ∧ ∃ v5, σ = [some (.ref sc), some (.int x), some (.int n), some (.ref sl), some (.ref t), v5])
      ⟨s1, AS.new, [], [], [], hT1, ⟨fun k => rfl, fun p _ _ => rfl⟩, AS.new_ok n, Nat.le_refl _, Nat.le_refl _, _, rfl⟩ ?_ ?_
    · rintro i σ H5 hi ⟨s05, S, ow, tk, m, hT5, hS5, hO5, htk5, how5, v5, rfl⟩
      have hi40 : i < 30 := by omega
      rw [show (0 : Int) + (i : Int) = ((i : Nat) : Int) by omega]
      refine gName_ ⟨_, rfl, _, rfl, _, rfl, _, rfl, _, rfl, _, rfl, sc, sl, ns, (i : Int), kvs, n, rfl, s05.seq hS0, hl, ⟨by omega, by omega⟩, s05 _ _ hsl0, hk5, n1, by omega, fun wl ts js H6 s6 hwln hwl6 hjs6 hj5l hjn hj5 => ?_⟩
      have s06 := s05.trans s6
      have hT6 := hT5.same s6
      have hkv6 : ∀ i v, kvs[i]? = some v → KeyH H6 (oKey N i) v := fun i v e => keyH_same s06 (hkv0 i v e)
      obtain ⟨W, hW⟩ : ∃ W : Wl, W = js.map fun z => (oKey N z.1, z.2) := ⟨_, rfl⟩
      have hW0 : ∀ z ∈ W, 0 ≤ z.2 ∧ ∃ i, i < 5 ∧ z.1 = oKey N i := fun z hz => by
        rw [hW] at hz
        obtain ⟨z', hz', rfl⟩ := List.mem_map.mp hz
        exact ⟨(hj5 z' hz').2, z'.1, (hj5 z' hz').1, rfl⟩
      have hWn : (W.map (·.1)).Nodup := by
        rw [hW, List.map_map]
        show (js.map fun z => oKey N z.1).Nodup
        rw [show (js.map fun z => oKey N z.1) = (js.map (·.1)).map (oKey N) by rw [List.map_map]; rfl]
        rw [List.nodup_iff_pairwise_ne, List.pairwise_map]
        exact (List.nodup_iff_pairwise_ne.mp hjn).imp fun h z => h (oKey_inj z)
      have hW5 : W.length ≤ 5 := by rw [hW, List.length_map]; exact hj5l
      have hWat : WAt K H6 ts W := by rw [hW]; exact js_wat hkv6 hjs6
      have psd : ∀ H2, Kp H6 H2 → IsPs K H2 ts (js.map fun z => .tuple [mData (oKey N z.1), .int z.2]) := fun H2 kp => js_isP (fun i v e => keyH_kp kp (hkv6 i v e)) (hjs6.kp kp.tp)
      refine ⟨t, od, td, sl, wl, n, ow, tk, m, S, N, kvs, W, ts, _, rfl, hT6, hS5, hO5, s06 _ _ hsl0, hk5, hkv6, hwl6, hWat, hW0, hWn, hW5, by omega, by omega, by omega, psd, shaped_wants hj5, fun S' ow' tk' m' H7 off hT7 hS7 hO7 b1 b2 => ⟨true, rfl, iteF ⟨off_same s06 off, S', ow', tk', m', hT7, hS7, hO7, by omega, by omega, _, rfl⟩⟩⟩
    · rintro σ H5 _
      exact q H5
end
theorem all_mk {K : PySem.W.Frag} {h : Heap} {mg : Str → Option Value} {x_Table : Addr}
    {x_SplitError : Addr}
    {x_NoRoom : Addr}
    {x_Table__init_ : Addr} {od_Table__init_ an_Table__init_ : Option Addr} {sl_Table__init_ : Array (Option Value)} {oc_Table__init_ kV_Table__init_ dc_Table__init_ pm_Table__init_ cd_Table__init_ ct_Table__init_ : Value}
    {x_Table_places_of : Addr} {od_Table_places_of an_Table_places_of : Option Addr} {sl_Table_places_of : Array (Option Value)} {oc_Table_places_of kV_Table_places_of dc_Table_places_of pm_Table_places_of cd_Table_places_of ct_Table_places_of : Value}
    {x_Table_free : Addr} {od_Table_free an_Table_free : Option Addr} {sl_Table_free : Array (Option Value)} {oc_Table_free kV_Table_free dc_Table_free pm_Table_free cd_Table_free ct_Table_free : Value}
    {x_Table_told : Addr} {od_Table_told an_Table_told : Option Addr} {sl_Table_told : Array (Option Value)} {oc_Table_told kV_Table_told dc_Table_told pm_Table_told cd_Table_told ct_Table_told : Value}
    {x_Table_give_back : Addr} {od_Table_give_back an_Table_give_back : Option Addr} {sl_Table_give_back : Array (Option Value)} {oc_Table_give_back kV_Table_give_back dc_Table_give_back pm_Table_give_back cd_Table_give_back ct_Table_give_back : Value}
    {x_Table_take : Addr} {od_Table_take an_Table_take : Option Addr} {sl_Table_take : Array (Option Value)} {oc_Table_take kV_Table_take dc_Table_take pm_Table_take cd_Table_take ct_Table_take : Value}
    {x_Lcell_at : Addr} {od_Lcell_at an_Lcell_at : Option Addr} {sl_Lcell_at : Array (Option Value)} {oc_Lcell_at kV_Lcell_at dc_Lcell_at pm_Lcell_at cd_Lcell_at ct_Lcell_at : Value}
    {x_Lmixed : Addr} {od_Lmixed an_Lmixed : Option Addr} {sl_Lmixed : Array (Option Value)} {oc_Lmixed kV_Lmixed dc_Lmixed pm_Lmixed cd_Lmixed ct_Lmixed : Value}
    {x_Lwhole : Addr} {od_Lwhole an_Lwhole : Option Addr} {sl_Lwhole : Array (Option Value)} {oc_Lwhole kV_Lwhole dc_Lwhole pm_Lwhole cd_Lwhole ct_Lwhole : Value}
    {x_Lowner : Addr} {od_Lowner an_Lowner : Option Addr} {sl_Lowner : Array (Option Value)} {oc_Lowner kV_Lowner dc_Lowner pm_Lowner cd_Lowner ct_Lowner : Value}
    {x_Lasked : Addr} {od_Lasked an_Lasked : Option Addr} {sl_Lasked : Array (Option Value)} {oc_Lasked kV_Lasked dc_Lasked pm_Lasked cd_Lasked ct_Lasked : Value}
    {x_Lwanted : Addr} {od_Lwanted an_Lwanted : Option Addr} {sl_Lwanted : Array (Option Value)} {oc_Lwanted kV_Lwanted dc_Lwanted pm_Lwanted cd_Lwanted ct_Lwanted : Value}
    {x_Lstays : Addr} {od_Lstays an_Lstays : Option Addr} {sl_Lstays : Array (Option Value)} {oc_Lstays kV_Lstays dc_Lstays pm_Lstays cd_Lstays ct_Lstays : Value}
    {x_Lright : Addr} {od_Lright an_Lright : Option Addr} {sl_Lright : Array (Option Value)} {oc_Lright kV_Lright dc_Lright pm_Lright cd_Lright ct_Lright : Value}
    {x_law : Addr} {od_law an_law : Option Addr} {sl_law : Array (Option Value)} {oc_law kV_law dc_law pm_law cd_law ct_law : Value} (X : K.In h) (G : h.Ns mainGlobals mg)
    (a_Table : PySem.W.nsIn K mainGlobals "Table" = some (some (.ref x_Table)))
    (a_SplitError : PySem.W.nsIn K mainGlobals "SplitError" = some (some (.ref x_SplitError)))
    (a_NoRoom : PySem.W.nsIn K mainGlobals "NoRoom" = some (some (.ref x_NoRoom)))
    (p0_Table : PySem.W.plainGet K x_Table Str.empty = true)
    (p1_Table : PySem.W.hasDictIn K x_Table = true)
    (p2_Table : PySem.W.plainOver K x_Table = true)
    (p3_Table : PySem.W.findIn K (.ref x_Table) "__setattr__" = some (some (.builtin "object.__setattr__")))
    (p4_Table : PySem.W.makesIn K x_Table = true)
    (p5_Table : PySem.W.keepIn K (.ref x_Table) = true)
    (f_Table_many : PySem.W.findIn K (.ref x_Table) "many" = some none)
    (f_Table_owners : PySem.W.findIn K (.ref x_Table) "owners" = some none)
    (f_Table_taken : PySem.W.findIn K (.ref x_Table) "taken" = some none)
    (e_SplitError : PySem.W.excIn K x_SplitError [.type "ValueError", .type "Exception", .type "BaseException", .type "object"] "ValueError.__new__" = true)
    (e_NoRoom : PySem.W.excIn K x_NoRoom [.type "ValueError", .type "Exception", .type "BaseException", .type "object"] "ValueError.__new__" = true)
    (a_Table__init_ : PySem.W.findIn K (.ref x_Table) "__init__" = some (some (.ref x_Table__init_)))
    (i_Table__init_ : PySem.W.isFn K (.ref x_Table__init_) = true)
    (l_Table__init_ : K.lookup x_Table__init_ = some ⟨oc_Table__init_, od_Table__init_, .func (PySem.W.fnOf "__init__" "Table.__init__" (defArgs s_Table__init_) (defBody s_Table__init_) (defScope s_Table__init_) .none kV_Table__init_ dc_Table__init_ pm_Table__init_ an_Table__init_ cd_Table__init_ ct_Table__init_), sl_Table__init_⟩)
    (c_Table__init_ : PySem.W.codeIn K cd_Table__init_ "Table.__init__" = true)
    (k_Table__init_ : PySem.W.keepIn K (.ref x_Table__init_) = true)
    (a_Table_places_of : PySem.W.findIn K (.ref x_Table) "places_of" = some (some (.ref x_Table_places_of)))
    (i_Table_places_of : PySem.W.isFn K (.ref x_Table_places_of) = true)
    (l_Table_places_of : K.lookup x_Table_places_of = some ⟨oc_Table_places_of, od_Table_places_of, .func (PySem.W.fnOf "places_of" "Table.places_of" (defArgs s_Table_places_of) (defBody s_Table_places_of) (defScope s_Table_places_of) .none kV_Table_places_of dc_Table_places_of pm_Table_places_of an_Table_places_of cd_Table_places_of ct_Table_places_of), sl_Table_places_of⟩)
    (c_Table_places_of : PySem.W.codeIn K cd_Table_places_of "Table.places_of" = true)
    (k_Table_places_of : PySem.W.keepIn K (.ref x_Table_places_of) = true)
    (a_Table_free : PySem.W.findIn K (.ref x_Table) "free" = some (some (.ref x_Table_free)))
    (i_Table_free : PySem.W.isFn K (.ref x_Table_free) = true)
    (l_Table_free : K.lookup x_Table_free = some ⟨oc_Table_free, od_Table_free, .func (PySem.W.fnOf "free" "Table.free" (defArgs s_Table_free) (defBody s_Table_free) (defScope s_Table_free) .none kV_Table_free dc_Table_free pm_Table_free an_Table_free cd_Table_free ct_Table_free), sl_Table_free⟩)
    (c_Table_free : PySem.W.codeIn K cd_Table_free "Table.free" = true)
    (k_Table_free : PySem.W.keepIn K (.ref x_Table_free) = true)
    (a_Table_told : PySem.W.findIn K (.ref x_Table) "told" = some (some (.ref x_Table_told)))
    (i_Table_told : PySem.W.isFn K (.ref x_Table_told) = true)
    (l_Table_told : K.lookup x_Table_told = some ⟨oc_Table_told, od_Table_told, .func (PySem.W.fnOf "told" "Table.told" (defArgs s_Table_told) (defBody s_Table_told) (defScope s_Table_told) .none kV_Table_told dc_Table_told pm_Table_told an_Table_told cd_Table_told ct_Table_told), sl_Table_told⟩)
    (c_Table_told : PySem.W.codeIn K cd_Table_told "Table.told" = true)
    (k_Table_told : PySem.W.keepIn K (.ref x_Table_told) = true)
    (a_Table_give_back : PySem.W.findIn K (.ref x_Table) "give_back" = some (some (.ref x_Table_give_back)))
    (i_Table_give_back : PySem.W.isFn K (.ref x_Table_give_back) = true)
    (l_Table_give_back : K.lookup x_Table_give_back = some ⟨oc_Table_give_back, od_Table_give_back, .func (PySem.W.fnOf "give_back" "Table.give_back" (defArgs s_Table_give_back) (defBody s_Table_give_back) (defScope s_Table_give_back) .none kV_Table_give_back dc_Table_give_back pm_Table_give_back an_Table_give_back cd_Table_give_back ct_Table_give_back), sl_Table_give_back⟩)
    (c_Table_give_back : PySem.W.codeIn K cd_Table_give_back "Table.give_back" = true)
    (k_Table_give_back : PySem.W.keepIn K (.ref x_Table_give_back) = true)
    (a_Table_take : PySem.W.findIn K (.ref x_Table) "take" = some (some (.ref x_Table_take)))
    (i_Table_take : PySem.W.isFn K (.ref x_Table_take) = true)
    (l_Table_take : K.lookup x_Table_take = some ⟨oc_Table_take, od_Table_take, .func (PySem.W.fnOf "take" "Table.take" (defArgs s_Table_take) (defBody s_Table_take) (defScope s_Table_take) .none kV_Table_take dc_Table_take pm_Table_take an_Table_take cd_Table_take ct_Table_take), sl_Table_take⟩)
    (c_Table_take : PySem.W.codeIn K cd_Table_take "Table.take" = true)
    (k_Table_take : PySem.W.keepIn K (.ref x_Table_take) = true)
    (a_Lcell_at : PySem.W.nsIn K mainGlobals "_law_cell_at" = some (some (.ref x_Lcell_at)))
    (l_Lcell_at : K.lookup x_Lcell_at = some ⟨oc_Lcell_at, od_Lcell_at, .func (PySem.W.fnOf "_law_cell_at" "_law_cell_at" (defArgs s_Lcell_at) (defBody s_Lcell_at) (defScope s_Lcell_at) .none kV_Lcell_at dc_Lcell_at pm_Lcell_at an_Lcell_at cd_Lcell_at ct_Lcell_at), sl_Lcell_at⟩)
    (c_Lcell_at : PySem.W.codeIn K cd_Lcell_at "_law_cell_at" = true)
    (k_Lcell_at : PySem.W.keepIn K (.ref x_Lcell_at) = true)
    (a_Lmixed : PySem.W.nsIn K mainGlobals "_law_mixed" = some (some (.ref x_Lmixed)))
    (l_Lmixed : K.lookup x_Lmixed = some ⟨oc_Lmixed, od_Lmixed, .func (PySem.W.fnOf "_law_mixed" "_law_mixed" (defArgs s_Lmixed) (defBody s_Lmixed) (defScope s_Lmixed) .none kV_Lmixed dc_Lmixed pm_Lmixed an_Lmixed cd_Lmixed ct_Lmixed), sl_Lmixed⟩)
    (c_Lmixed : PySem.W.codeIn K cd_Lmixed "_law_mixed" = true)
    (k_Lmixed : PySem.W.keepIn K (.ref x_Lmixed) = true)
    (a_Lwhole : PySem.W.nsIn K mainGlobals "_law_whole" = some (some (.ref x_Lwhole)))
    (l_Lwhole : K.lookup x_Lwhole = some ⟨oc_Lwhole, od_Lwhole, .func (PySem.W.fnOf "_law_whole" "_law_whole" (defArgs s_Lwhole) (defBody s_Lwhole) (defScope s_Lwhole) .none kV_Lwhole dc_Lwhole pm_Lwhole an_Lwhole cd_Lwhole ct_Lwhole), sl_Lwhole⟩)
    (c_Lwhole : PySem.W.codeIn K cd_Lwhole "_law_whole" = true)
    (k_Lwhole : PySem.W.keepIn K (.ref x_Lwhole) = true)
    (a_Lowner : PySem.W.nsIn K mainGlobals "_law_owner" = some (some (.ref x_Lowner)))
    (l_Lowner : K.lookup x_Lowner = some ⟨oc_Lowner, od_Lowner, .func (PySem.W.fnOf "_law_owner" "_law_owner" (defArgs s_Lowner) (defBody s_Lowner) (defScope s_Lowner) .none kV_Lowner dc_Lowner pm_Lowner an_Lowner cd_Lowner ct_Lowner), sl_Lowner⟩)
    (c_Lowner : PySem.W.codeIn K cd_Lowner "_law_owner" = true)
    (k_Lowner : PySem.W.keepIn K (.ref x_Lowner) = true)
    (a_Lasked : PySem.W.nsIn K mainGlobals "_law_asked" = some (some (.ref x_Lasked)))
    (l_Lasked : K.lookup x_Lasked = some ⟨oc_Lasked, od_Lasked, .func (PySem.W.fnOf "_law_asked" "_law_asked" (defArgs s_Lasked) (defBody s_Lasked) (defScope s_Lasked) .none kV_Lasked dc_Lasked pm_Lasked an_Lasked cd_Lasked ct_Lasked), sl_Lasked⟩)
    (c_Lasked : PySem.W.codeIn K cd_Lasked "_law_asked" = true)
    (k_Lasked : PySem.W.keepIn K (.ref x_Lasked) = true)
    (a_Lwanted : PySem.W.nsIn K mainGlobals "_law_wanted" = some (some (.ref x_Lwanted)))
    (l_Lwanted : K.lookup x_Lwanted = some ⟨oc_Lwanted, od_Lwanted, .func (PySem.W.fnOf "_law_wanted" "_law_wanted" (defArgs s_Lwanted) (defBody s_Lwanted) (defScope s_Lwanted) .none kV_Lwanted dc_Lwanted pm_Lwanted an_Lwanted cd_Lwanted ct_Lwanted), sl_Lwanted⟩)
    (c_Lwanted : PySem.W.codeIn K cd_Lwanted "_law_wanted" = true)
    (k_Lwanted : PySem.W.keepIn K (.ref x_Lwanted) = true)
    (a_Lstays : PySem.W.nsIn K mainGlobals "_law_stays" = some (some (.ref x_Lstays)))
    (l_Lstays : K.lookup x_Lstays = some ⟨oc_Lstays, od_Lstays, .func (PySem.W.fnOf "_law_stays" "_law_stays" (defArgs s_Lstays) (defBody s_Lstays) (defScope s_Lstays) .none kV_Lstays dc_Lstays pm_Lstays an_Lstays cd_Lstays ct_Lstays), sl_Lstays⟩)
    (c_Lstays : PySem.W.codeIn K cd_Lstays "_law_stays" = true)
    (k_Lstays : PySem.W.keepIn K (.ref x_Lstays) = true)
    (a_Lright : PySem.W.nsIn K mainGlobals "_law_right" = some (some (.ref x_Lright)))
    (l_Lright : K.lookup x_Lright = some ⟨oc_Lright, od_Lright, .func (PySem.W.fnOf "_law_right" "_law_right" (defArgs s_Lright) (defBody s_Lright) (defScope s_Lright) .none kV_Lright dc_Lright pm_Lright an_Lright cd_Lright ct_Lright), sl_Lright⟩)
    (c_Lright : PySem.W.codeIn K cd_Lright "_law_right" = true)
    (k_Lright : PySem.W.keepIn K (.ref x_Lright) = true)
    (a_law : PySem.W.nsIn K mainGlobals "law" = some (some (.ref x_law)))
    (l_law : K.lookup x_law = some ⟨oc_law, od_law, .func (PySem.W.fnOf "law" "law" (defArgs s_law) (defBody s_law) (defScope s_law) .none kV_law dc_law pm_law an_law cd_law ct_law), sl_law⟩)
    (c_law : PySem.W.codeIn K cd_law "law" = true)
    (k_law : PySem.W.keepIn K (.ref x_law) = true)
    (z_bool : PySem.W.nsIn K mainGlobals "bool" = some none)
    (z_dict : PySem.W.nsIn K mainGlobals "dict" = some none)
    (z_int : PySem.W.nsIn K mainGlobals "int" = some none)
    (z_isinstance : PySem.W.nsIn K mainGlobals "isinstance" = some none)
    (z_len : PySem.W.nsIn K mainGlobals "len" = some none)
    (z_list : PySem.W.nsIn K mainGlobals "list" = some none)
    (z_max : PySem.W.nsIn K mainGlobals "max" = some none)
    (z_min : PySem.W.nsIn K mainGlobals "min" = some none)
    (z_range : PySem.W.nsIn K mainGlobals "range" = some none)
    (z_reversed : PySem.W.nsIn K mainGlobals "reversed" = some none)
    (z_sorted : PySem.W.nsIn K mainGlobals "sorted" = some none)
    (z_sum : PySem.W.nsIn K mainGlobals "sum" = some none) :
    ∃ a : Adr, Txt K mg a := by
  have F_Table__init_ := fun_mk (st := s_Table__init_) l_Table__init_ c_Table__init_ k_Table__init_
  have F_Table_places_of := fun_mk (st := s_Table_places_of) l_Table_places_of c_Table_places_of k_Table_places_of
  have F_Table_free := fun_mk (st := s_Table_free) l_Table_free c_Table_free k_Table_free
  have F_Table_told := fun_mk (st := s_Table_told) l_Table_told c_Table_told k_Table_told
  have F_Table_give_back := fun_mk (st := s_Table_give_back) l_Table_give_back c_Table_give_back k_Table_give_back
  have F_Table_take := fun_mk (st := s_Table_take) l_Table_take c_Table_take k_Table_take
  have F_Lcell_at := fun_mk (st := s_Lcell_at) l_Lcell_at c_Lcell_at k_Lcell_at
  have F_Lmixed := fun_mk (st := s_Lmixed) l_Lmixed c_Lmixed k_Lmixed
  have F_Lwhole := fun_mk (st := s_Lwhole) l_Lwhole c_Lwhole k_Lwhole
  have F_Lowner := fun_mk (st := s_Lowner) l_Lowner c_Lowner k_Lowner
  have F_Lasked := fun_mk (st := s_Lasked) l_Lasked c_Lasked k_Lasked
  have F_Lwanted := fun_mk (st := s_Lwanted) l_Lwanted c_Lwanted k_Lwanted
  have F_Lstays := fun_mk (st := s_Lstays) l_Lstays c_Lstays k_Lstays
  have F_Lright := fun_mk (st := s_Lright) l_Lright c_Lright k_Lright
  have F_law := fun_mk (st := s_law) l_law c_law k_law
  exact ⟨⟨x_Table__init_, PySem.W.fnOf "__init__" "Table.__init__" (defArgs s_Table__init_) (defBody s_Table__init_) (defScope s_Table__init_) .none kV_Table__init_ dc_Table__init_ pm_Table__init_ an_Table__init_ cd_Table__init_ ct_Table__init_,
      x_Table_places_of, PySem.W.fnOf "places_of" "Table.places_of" (defArgs s_Table_places_of) (defBody s_Table_places_of) (defScope s_Table_places_of) .none kV_Table_places_of dc_Table_places_of pm_Table_places_of an_Table_places_of cd_Table_places_of ct_Table_places_of,
      x_Table_free, PySem.W.fnOf "free" "Table.free" (defArgs s_Table_free) (defBody s_Table_free) (defScope s_Table_free) .none kV_Table_free dc_Table_free pm_Table_free an_Table_free cd_Table_free ct_Table_free,
      x_Table_told, PySem.W.fnOf "told" "Table.told" (defArgs s_Table_told) (defBody s_Table_told) (defScope s_Table_told) .none kV_Table_told dc_Table_told pm_Table_told an_Table_told cd_Table_told ct_Table_told,
      x_Table_give_back, PySem.W.fnOf "give_back" "Table.give_back" (defArgs s_Table_give_back) (defBody s_Table_give_back) (defScope s_Table_give_back) .none kV_Table_give_back dc_Table_give_back pm_Table_give_back an_Table_give_back cd_Table_give_back ct_Table_give_back,
      x_Table_take, PySem.W.fnOf "take" "Table.take" (defArgs s_Table_take) (defBody s_Table_take) (defScope s_Table_take) .none kV_Table_take dc_Table_take pm_Table_take an_Table_take cd_Table_take ct_Table_take,
      x_Lcell_at, PySem.W.fnOf "_law_cell_at" "_law_cell_at" (defArgs s_Lcell_at) (defBody s_Lcell_at) (defScope s_Lcell_at) .none kV_Lcell_at dc_Lcell_at pm_Lcell_at an_Lcell_at cd_Lcell_at ct_Lcell_at,
      x_Lmixed, PySem.W.fnOf "_law_mixed" "_law_mixed" (defArgs s_Lmixed) (defBody s_Lmixed) (defScope s_Lmixed) .none kV_Lmixed dc_Lmixed pm_Lmixed an_Lmixed cd_Lmixed ct_Lmixed,
      x_Lwhole, PySem.W.fnOf "_law_whole" "_law_whole" (defArgs s_Lwhole) (defBody s_Lwhole) (defScope s_Lwhole) .none kV_Lwhole dc_Lwhole pm_Lwhole an_Lwhole cd_Lwhole ct_Lwhole,
      x_Lowner, PySem.W.fnOf "_law_owner" "_law_owner" (defArgs s_Lowner) (defBody s_Lowner) (defScope s_Lowner) .none kV_Lowner dc_Lowner pm_Lowner an_Lowner cd_Lowner ct_Lowner,
      x_Lasked, PySem.W.fnOf "_law_asked" "_law_asked" (defArgs s_Lasked) (defBody s_Lasked) (defScope s_Lasked) .none kV_Lasked dc_Lasked pm_Lasked an_Lasked cd_Lasked ct_Lasked,
      x_Lwanted, PySem.W.fnOf "_law_wanted" "_law_wanted" (defArgs s_Lwanted) (defBody s_Lwanted) (defScope s_Lwanted) .none kV_Lwanted dc_Lwanted pm_Lwanted an_Lwanted cd_Lwanted ct_Lwanted,
      x_Lstays, PySem.W.fnOf "_law_stays" "_law_stays" (defArgs s_Lstays) (defBody s_Lstays) (defScope s_Lstays) .none kV_Lstays dc_Lstays pm_Lstays an_Lstays cd_Lstays ct_Lstays,
      x_Lright, PySem.W.fnOf "_law_right" "_law_right" (defArgs s_Lright) (defBody s_Lright) (defScope s_Lright) .none kV_Lright dc_Lright pm_Lright an_Lright cd_Lright ct_Lright,
      x_law, PySem.W.fnOf "law" "law" (defArgs s_law) (defBody s_law) (defScope s_law) .none kV_law dc_law pm_law an_law cd_law ct_law,
      x_Table,
      x_SplitError,
      x_NoRoom⟩,
    ⟨F_Table__init_, ⟨a_Table__init_, i_Table__init_, k_Table__init_⟩, F_Table__init_.binds (ps := ["self", "many"]) fun _ _ _ _ _ _ us hl => match us, hl with | [_, _], _ => rfl,
      F_Table_places_of, ⟨a_Table_places_of, i_Table_places_of, k_Table_places_of⟩, F_Table_places_of.binds (ps := ["self", "owner"]) fun _ _ _ _ _ _ us hl => match us, hl with | [_, _], _ => rfl,
      F_Table_free, ⟨a_Table_free, i_Table_free, k_Table_free⟩, F_Table_free.binds (ps := ["self"]) fun _ _ _ _ _ _ us hl => match us, hl with | [_], _ => rfl,
      F_Table_told, ⟨a_Table_told, i_Table_told, k_Table_told⟩, F_Table_told.binds (ps := ["self", "wanted"]) fun _ _ _ _ _ _ us hl => match us, hl with | [_, _], _ => rfl,
      F_Table_give_back, ⟨a_Table_give_back, i_Table_give_back, k_Table_give_back⟩, F_Table_give_back.binds (ps := ["self", "owner", "number"]) fun _ _ _ _ _ _ us hl => match us, hl with | [_, _, _], _ => rfl,
      F_Table_take, ⟨a_Table_take, i_Table_take, k_Table_take⟩, F_Table_take.binds (ps := ["self", "owner", "number"]) fun _ _ _ _ _ _ us hl => match us, hl with | [_, _, _], _ => rfl,
      F_Lcell_at, PySem.W.mg_of X G a_Lcell_at, F_Lcell_at.binds (ps := ["_law_script", "_law_k"]) fun _ _ _ _ _ _ us hl => match us, hl with | [_, _], _ => rfl,
      F_Lmixed, PySem.W.mg_of X G a_Lmixed, F_Lmixed.binds (ps := ["_law_script", "_law_k", "_law_salt"]) fun _ _ _ _ _ _ us hl => match us, hl with | [_, _, _], _ => rfl,
      F_Lwhole, PySem.W.mg_of X G a_Lwhole, F_Lwhole.binds (ps := ["_law_found"]) fun _ _ _ _ _ _ us hl => match us, hl with | [_], _ => rfl,
      F_Lowner, PySem.W.mg_of X G a_Lowner, F_Lowner.binds (ps := ["_law_number", "_law_k"]) fun _ _ _ _ _ _ us hl => match us, hl with | [_, _], _ => rfl,
      F_Lasked, PySem.W.mg_of X G a_Lasked, F_Lasked.binds (ps := ["_law_table", "_law_wanted_here"]) fun _ _ _ _ _ _ us hl => match us, hl with | [_, _], _ => rfl,
      F_Lwanted, PySem.W.mg_of X G a_Lwanted, F_Lwanted.binds (ps := ["_law_script", "_law_k", "_law_some", "_law_many"]) fun _ _ _ _ _ _ us hl => match us, hl with | [_, _, _, _], _ => rfl,
      F_Lstays, PySem.W.mg_of X G a_Lstays, F_Lstays.binds (ps := ["_law_owner_here", "_law_ahead", "_law_behind", "_law_number", "_law_fresh"]) fun _ _ _ _ _ _ us hl => match us, hl with | [_, _, _, _, _], _ => rfl,
      F_Lright, PySem.W.mg_of X G a_Lright, F_Lright.binds (ps := ["_law_table", "_law_some", "_law_wanted_here"]) fun _ _ _ _ _ _ us hl => match us, hl with | [_, _, _], _ => rfl,
      F_law, PySem.W.mg_of X G a_law, F_law.binds (ps := ["_law_script"]) fun _ _ _ _ _ _ us hl => match us, hl with | [_], _ => rfl,
      PySem.W.mg_of X G a_Table, ⟨p0_Table, p1_Table, p2_Table, p3_Table⟩, ⟨p4_Table, a_Table__init_, i_Table__init_, p5_Table⟩,
      f_Table_many,
      f_Table_owners,
      f_Table_taken,
      PySem.W.mg_of X G a_SplitError, e_SplitError,
      PySem.W.mg_of X G a_NoRoom, e_NoRoom,
      PySem.W.mg_none_of X G z_bool,
      PySem.W.mg_none_of X G z_dict,
      PySem.W.mg_none_of X G z_int,
      PySem.W.mg_none_of X G z_isinstance,
      PySem.W.mg_none_of X G z_len,
      PySem.W.mg_none_of X G z_list,
      PySem.W.mg_none_of X G z_max,
      PySem.W.mg_none_of X G z_min,
      PySem.W.mg_none_of X G z_range,
      PySem.W.mg_none_of X G z_reversed,
      PySem.W.mg_none_of X G z_sorted,
      PySem.W.mg_none_of X G z_sum⟩⟩
end My
open PySem PySem.W PyProof.Rows
set_option maxRecDepth 100000 in
set_option maxHeartbeats 0 in
theorem PySem.Challenge.cw_layersplit_k12_places_stay_while_growing_holds : PySem.Challenge.rw_layersplit_k12_places_stay_while_growing.Holds := by
  w_on; o_law; k_head; (case hw => w_witness2)
  k_fill
  refine L2.walk_ofK (l := PySem.Challenge.rw_layersplit_k12_places_stay_while_growing) (n := 63) (k := 6) (x := "_law_script") (CX := L2.CX0) (sp := My.spLaw) rfl (by decide) rfl ⟨rfl, by decide, by decide⟩ (fun w h Y => PySem.W.kIn_of Y) ?F ?S ?C
  case F =>
    intro w mg fa h KX G hmg
    have T : ∃ a : My.Adr, My.Txt (L2.KOf KX) mg a := by
      dsimp only [L2.KOf]
      refine' My.all_mk KX G ?a_Table ?a_SplitError ?a_NoRoom ?p0_Table ?p1_Table ?p2_Table ?p3_Table ?p4_Table ?p5_Table ?f_Table_many ?f_Table_owners ?f_Table_taken ?e_SplitError ?e_NoRoom ?a_Table__init_ ?i_Table__init_ ?l_Table__init_ ?c_Table__init_ ?k_Table__init_ ?a_Table_places_of ?i_Table_places_of ?l_Table_places_of ?c_Table_places_of ?k_Table_places_of ?a_Table_free ?i_Table_free ?l_Table_free ?c_Table_free ?k_Table_free ?a_Table_told ?i_Table_told ?l_Table_told ?c_Table_told ?k_Table_told ?a_Table_give_back ?i_Table_give_back ?l_Table_give_back ?c_Table_give_back ?k_Table_give_back ?a_Table_take ?i_Table_take ?l_Table_take ?c_Table_take ?k_Table_take ?a_Lcell_at ?l_Lcell_at ?c_Lcell_at ?k_Lcell_at ?a_Lmixed ?l_Lmixed ?c_Lmixed ?k_Lmixed ?a_Lwhole ?l_Lwhole ?c_Lwhole ?k_Lwhole ?a_Lowner ?l_Lowner ?c_Lowner ?k_Lowner ?a_Lasked ?l_Lasked ?c_Lasked ?k_Lasked ?a_Lwanted ?l_Lwanted ?c_Lwanted ?k_Lwanted ?a_Lstays ?l_Lstays ?c_Lstays ?k_Lstays ?a_Lright ?l_Lright ?c_Lright ?k_Lright ?a_law ?l_law ?c_law ?k_law ?z_bool ?z_dict ?z_int ?z_isinstance ?z_len ?z_list ?z_max ?z_min ?z_range ?z_reversed ?z_sorted ?z_sum
      (case a_Table => k_is); (case a_SplitError => k_is); (case a_NoRoom => k_is); (case p0_Table => k_is); (case p1_Table => k_is); (case p2_Table => k_is); (case p3_Table => k_is); (case p4_Table => k_is)
      (case p5_Table => k_is); (case f_Table_many => k_is); (case f_Table_owners => k_is); (case f_Table_taken => k_is); (case e_SplitError => k_exc); (case e_NoRoom => k_exc); (case a_Table__init_ => k_is); (case i_Table__init_ => k_is)
      (case l_Table__init_ => k_is); (case c_Table__init_ => k_is); (case k_Table__init_ => k_is); (case a_Table_places_of => k_is); (case i_Table_places_of => k_is); (case l_Table_places_of => k_is); (case c_Table_places_of => k_is); (case k_Table_places_of => k_is)
      (case a_Table_free => k_is); (case i_Table_free => k_is); (case l_Table_free => k_is); (case c_Table_free => k_is); (case k_Table_free => k_is); (case a_Table_told => k_is); (case i_Table_told => k_is); (case l_Table_told => k_is)
      (case c_Table_told => k_is); (case k_Table_told => k_is); (case a_Table_give_back => k_is); (case i_Table_give_back => k_is); (case l_Table_give_back => k_is); (case c_Table_give_back => k_is); (case k_Table_give_back => k_is); (case a_Table_take => k_is)
      (case i_Table_take => k_is); (case l_Table_take => k_is); (case c_Table_take => k_is); (case k_Table_take => k_is); (case a_Lcell_at => k_is); (case l_Lcell_at => k_is); (case c_Lcell_at => k_is); (case k_Lcell_at => k_is)
      (case a_Lmixed => k_is); (case l_Lmixed => k_is); (case c_Lmixed => k_is); (case k_Lmixed => k_is); (case a_Lwhole => k_is); (case l_Lwhole => k_is); (case c_Lwhole => k_is); (case k_Lwhole => k_is)
      (case a_Lowner => k_is); (case l_Lowner => k_is); (case c_Lowner => k_is); (case k_Lowner => k_is); (case a_Lasked => k_is); (case l_Lasked => k_is); (case c_Lasked => k_is); (case k_Lasked => k_is)
      (case a_Lwanted => k_is); (case l_Lwanted => k_is); (case c_Lwanted => k_is); (case k_Lwanted => k_is); (case a_Lstays => k_is); (case l_Lstays => k_is); (case c_Lstays => k_is); (case k_Lstays => k_is)
      (case a_Lright => k_is); (case l_Lright => k_is); (case c_Lright => k_is); (case k_Lright => k_is); (case a_law => k_is); (case l_law => k_is); (case c_law => k_is); (case k_law => k_is)
      (case z_bool => k_is); (case z_dict => k_is); (case z_int => k_is); (case z_isinstance => k_is); (case z_len => k_is); (case z_list => k_is); (case z_max => k_is); (case z_min => k_is)
      (case z_range => k_is); (case z_reversed => k_is); (case z_sorted => k_is); (case z_sum => k_is)
    obtain ⟨a, T⟩ := T
    have e0 := hmg.symm.trans T.m_law
    cases e0
    exact ⟨a.fd_law, My.law_binds T, fun base kb nb => My.ok_law T⟩
  case S => exact fun K H a ns hl hO hS => My.law_start hl hS
  case C => exact fun _ _ _ _ z => z
#print axioms PySem.Challenge.cw_layersplit_k12_places_stay_while_growing_holds
