import PyProof.Rows.All
import Wide.All
import OpenK.AllK
import Wide.FinOn
import Lean
import PyProof.EqAt
import PyProof.EqKinds
import PyProof.TupleCall
import PyProof.Rows.SortRuns
import KE.KSortTup
import PySem.Challenge.RW_layersplit_k06_points_of_a_place
set_option Elab.async false
set_option linter.all false
set_option maxRecDepth 100000
namespace L2
open PySem PySem.Spec PyProof.Rows
abbrev Key := Sum Int Str
def keyIs : Key → Value → Bool
  | .inl k, v => Value.isInt k v
  | .inr x, v => Value.isStrOf x v
def keyH (w : World) : Key → Int
  | .inl k => hashInt k
  | .inr x => hashStr w x
theorem keyIs_shape : ∀ {k : Key} {v : Value}, keyIs k v = true → (∃ i t, k = Sum.inl i ∧ v = Value.int i t) ∨ (∃ x t, k = Sum.inr x ∧ v = Value.str x t)
  | .inl i, v, h => by
    obtain ⟨t, e⟩ := Value.isInt_shape (k := i) (v := v) h
    exact .inl ⟨i, t, rfl, e⟩
  | .inr x, v, h => by
    obtain ⟨t, e⟩ := Value.isStrOf_shape (x := x) (v := v) h
    exact .inr ⟨x, t, rfl, e⟩
theorem key_ll (a b : Int) : decide ((Sum.inl a : Key) = Sum.inl b) = (a == b) := by
  by_cases e : a = b
  · subst e; simp
  · have h : ¬ (Sum.inl a : Key) = Sum.inl b := fun q => e (Sum.inl.inj q)
    rw [decide_eq_false h]
    exact (beq_eq_false_iff_ne.mpr e).symm
theorem key_rr (a b : Str) : decide ((Sum.inr a : Key) = Sum.inr b) = decide (a = b) := by
  by_cases e : a = b
  · subst e; simp
  · have h : ¬ (Sum.inr a : Key) = Sum.inr b := fun q => e (Sum.inr.inj q)
    rw [decide_eq_false h, decide_eq_false e]
theorem key_lr (a : Int) (b : Str) : decide ((Sum.inl a : Key) = Sum.inr b) = false := decide_eq_false (fun q => nomatch q)
theorem key_rl (a : Str) (b : Int) : decide ((Sum.inr a : Key) = Sum.inl b) = false := decide_eq_false (fun q => nomatch q)
def mixKind (prog : Program) (w : World) : PySem.KeyKind prog w Key where
  is := keyIs
  hash := keyH w
  inj := fun v a b ha hb => by
    rcases keyIs_shape ha with ⟨i, t, rfl, rfl⟩ | ⟨x, t, rfl, rfl⟩
    · rcases keyIs_shape hb with ⟨j, u, rfl, e⟩ | ⟨y, u, rfl, e⟩
      · injection e with e1 _; rw [e1]
      · exact nomatch e
    · rcases keyIs_shape hb with ⟨j, u, rfl, e⟩ | ⟨y, u, rfl, e⟩
      · exact nomatch e
      · injection e with e1 _; rw [e1]
  byValue := fun k v h => by
    rcases keyIs_shape h with ⟨i, t, rfl, rfl⟩ | ⟨x, t, rfl, rfl⟩ <;> rfl
  pyHash := fun hv h => by
    rcases keyIs_shape hv with ⟨i, t, rfl, rfl⟩ | ⟨x, t, rfl, rfl⟩
    · exact wpAny_pyHash_int h
    · exact wpAny_pyHash_str h
  eqBool := fun hu hv h => by
    rcases keyIs_shape hu with ⟨i, t, rfl, rfl⟩ | ⟨x, t, rfl, rfl⟩
    · rcases keyIs_shape hv with ⟨j, u, rfl, rfl⟩ | ⟨y, u, rfl, rfl⟩
      · rw [key_ll] at h; exact wpAny_eqBool_int h
      · rw [key_lr] at h; exact SeqAt.EqAt.int_str i t y u _ _ _ _ h
    · rcases keyIs_shape hv with ⟨j, u, rfl, rfl⟩ | ⟨y, u, rfl, rfl⟩
      · rw [key_rl] at h; exact SeqAt.EqAt.str_int x t j u _ _ _ _ h
      · rw [key_rr] at h; exact wpAny_eqBool_str h
  «strs» := fun k x t v h => by
    rcases keyIs_shape h with ⟨i, u, rfl, e⟩ | ⟨y, u, rfl, e⟩
    · exact nomatch e
    · injection e with e1 _
      subst e1
      cases v <;> rfl
end L2
namespace L2
open PySem PySem.Spec PyProof.Rows
inductive V where
  | non | bl (b : Bool) | int (i : Int) | str (x : Str) | byt (b : Array UInt8) | flt (b : UInt64) | ref (a : Addr) | ty (n : String)
  deriving DecidableEq
def RelV : V → Value → Prop
  | .non, u => u = Value.none
  | .bl b, u => u = Value.bool b
  | .int i, u => ∃ t, u = Value.int i t
  | .str x, u => ∃ t, u = Value.str x t
  | .byt b, u => ∃ t, u = Value.bytes b t
  | .flt b, u => ∃ t, u = Value.float b t
  | .ref a, u => u = Value.ref a
  | .ty n, u => u = Value.type n
abbrev Vals : List V → List Value → Prop := Paired RelV
theorem Vals.length {xs : List V} {us : List Value} (r : Vals xs us) : xs.length = us.length := Paired.length r
theorem Vals.get : ∀ {xs : List V} {us : List Value} {i : Nat} {x : V}, Vals xs us → xs[i]? = some x → ∃ u, us[i]? = some u ∧ RelV x u
  | _, _, _, _, .nil, e => by simp at e
  | _, _, 0, _, .cons r _, e => by simp at e; subst e; exact ⟨_, rfl, r⟩
  | _, _, i + 1, x, .cons _ t, e => by
    obtain ⟨u, h1, h2⟩ := Vals.get (i := i) (x := x) t (by simpa using e)
    exact ⟨u, by simpa using h1, h2⟩
theorem Vals.set {x : V} {u : Value} (r : RelV x u) : ∀ {xs : List V} {us : List Value} (i : Nat), Vals xs us → Vals (xs.set i x) (us.set i u)
  | _, _, _, .nil => .nil
  | _, _, 0, .cons _ t => .cons r t
  | _, _, i + 1, .cons q t => .cons q (Vals.set r i t)
theorem Vals.append : ∀ {xs ys : List V} {us ws : List Value}, Vals xs us → Vals ys ws → Vals (xs ++ ys) (us ++ ws)
  | _, _, _, _, .nil, s => s
  | _, _, _, _, .cons r t, s => .cons r (Vals.append t s)
theorem Vals.take : ∀ {xs : List V} {us : List Value} (n : Nat), Vals xs us → Vals (xs.take n) (us.take n)
  | _, _, 0, _ => .nil
  | _, _, _ + 1, .nil => .nil
  | _, _, n + 1, .cons r t => .cons r (Vals.take n t)
theorem Vals.drop : ∀ {xs : List V} {us : List Value} (n : Nat), Vals xs us → Vals (xs.drop n) (us.drop n)
  | _, _, 0, r => r
  | _, _, _ + 1, .nil => .nil
  | _, _, n + 1, .cons _ t => Vals.drop n t
def RelO : Option V → Option Value → Prop
  | some v, some u => RelV v u
  | none, none => True
  | _, _ => False
def KV {κ : Type} : List (κ × V) → List (κ × Value) → Prop := Paired fun (p : κ × V) (q : κ × Value) => p.1 = q.1 ∧ RelV p.2 q.2
def kV : Key → V
  | .inl i => .int i
  | .inr x => .str x
inductive HO where
  | lst (xs : List V)
  | tup (xs : List V)
  | dK (kvs : List (Key × V)) | dT (kvs : List (List Key × V))
  | set (S : Int → Bool) (n : Nat)
  | ins (C dx : Addr) (fs : List (Str × V))
  | own (x : Addr)
  | xd (fs : List (Str × V))
  | met (f x : Addr)
  | rng (lo hi : Int)
  | frz (o : Obj) (u : HO)
  | tbl (ps : Array Value)
  | ext (φ : Heap → Prop)
abbrev Hp := Addr → Option HO
def upd (H : Hp) (a : Addr) (o : HO) : Hp := fun b => if b = a then some o else H b
theorem upd_same {H : Hp} {a : Addr} {o : HO} : upd H a o a = some o := by unfold upd; rw [if_pos rfl]
theorem upd_ne {H : Hp} {a b : Addr} {o : HO} (h : b ≠ a) : upd H a o b = H b := by unfold upd; rw [if_neg h]
theorem upd_upd {H : Hp} {a : Addr} {o u : HO} : upd (upd H a o) a u = upd H a u := by
  funext b; unfold upd; split <;> rfl
theorem ne_of_none {H : Hp} {a b : Addr} {o : HO} (h : H a = some o) (h' : H b = none) : a ≠ b := by
  intro e; subst e; rw [h] at h'; cases h'
section
variable (P : Program) (w : World)
def ObjOk (H : Hp) (h : Heap) (a : Addr) : HO → Prop
  | .lst xs => xs.length ≤ sizeLine ∧ ∃ (its : List Value) (n : Nat), Vals xs its ∧ h.get? a = some { cls := .type "list", data := .seq its.toArray n }
  | .tup xs => xs.length ≤ sizeLine ∧ ∃ its : List Value, Vals xs its ∧ IsTup h a its.toArray
  | .dK kvs => kvs.length ≤ sizeLine ∧ (a == sysModules) = false ∧ ∃ vs, KV kvs vs ∧ h.DictOf (mixKind P w) a vs
  | .dT kvs => kvs.length ≤ sizeLine ∧ (a == sysModules) = false ∧ ∃ xs : List (List Key × Addr × Value),
      Paired (fun (p : List Key × V) (q : List Key × Addr × Value) => p.1 = q.1 ∧ H q.2.1 = some (.tup (p.1.map kV)) ∧ RelV p.2 q.2.2) kvs xs ∧
      ∃ o es ep, h.get? a = some o ∧ o.ExactDict ∧ o.data = .dict es ep ∧ es.toList = xs.map (entryOfKey (tupleKind (mixKind P w))) ∧ (xs.map (·.1)).Nodup
  | .set S n => h.SetOf (intKind P w) a S n
  | .ins C dx fs => H dx = some (.own a) ∧ fs.length ≤ 1000 ∧ dx ≠ a ∧ h.get? a = some (PySem.W.instObj C dx) ∧
      ∃ mA, h.Ns1 dx mA ∧ (∀ f, RelO (fs.lookup f) (mA f)) ∧ PySem.Within mA (fs.map (·.1))
  | .own _ => ∃ o, h.get? a = some o
  | .xd fs => ∃ mA, h.Ns1 a mA ∧ ∀ f, RelO (fs.lookup f) (mA f)
  | .rng lo hi => ∃ t u v, h.get? a = some { cls := .type "range", data := .fields #[.int lo t, .int hi u, .int 1 v] }
  | .frz o u => h.get? a = some o ∧ ObjOk H h a u
  | .tbl ps => h.get? a = some { cls := .none, data := .fields ps }
  | .met f x => h.get? a = some (PySem.W.methodObj (.ref f) (.ref x))
  | .ext φ => φ h ∧ (∃ o, h.get? a = some o) ∧ ∀ h1 h2 : Heap, φ h1 → (∀ o, h1.get? a = some o → h2.get? a = some o) → φ h2
def HOk (H : Hp) (h : Heap) : Prop := ∀ a o, H a = some o → ObjOk P w H h a o
end
section
variable {P : Program} {w : World} {H H' : Hp} {h h' : Heap} {a : Addr} {o : HO}
theorem ObjOk.lt (x : ObjOk P w H h a o) : a < h.objs.size := by
  cases o with
  | lst xs => obtain ⟨_, _, _, _, e⟩ := x; exact Heap.lt_size e
  | tup xs => obtain ⟨_, _, _, p⟩ := x; exact p.lt
  | dK kvs => obtain ⟨_, _, _, _, o, _, _, e, _⟩ := x; exact Heap.lt_size e
  | dT kvs => obtain ⟨_, _, _, _, o, _, _, e, _⟩ := x; exact Heap.lt_size e
  | set S n => obtain ⟨o, _, _, _, e, _⟩ := x; exact Heap.lt_size e
  | ins C dx fs => obtain ⟨_, _, _, e, _⟩ := x; exact Heap.lt_size e
  | own y => obtain ⟨_, e⟩ := x; exact Heap.lt_size e
  | xd fs => obtain ⟨_, ⟨_, _, _, e, _⟩, _⟩ := x; exact Heap.lt_size e
  | rng lo hi => obtain ⟨_, _, _, e⟩ := x; exact Heap.lt_size e
  | frz ob u => obtain ⟨e, _⟩ := x; exact Heap.lt_size e
  | tbl ps => exact Heap.lt_size (show h.get? a = some _ from x)
  | met f y => exact Heap.lt_size (show h.get? a = some _ from x)
  | ext φ => obtain ⟨_, ⟨_, e⟩, _⟩ := x; exact Heap.lt_size e
theorem Paired.mapP {α β : Type} {F G : α → β → Prop} : ∀ {l₁ : List α} {l₂ : List β}, Paired F l₁ l₂ → (∀ a b, F a b → G a b) → Paired G l₁ l₂
  | _, _, .nil, _ => .nil
  | _, _, .cons r t, f => .cons (f _ _ r) (Paired.mapP t f)
theorem ObjOk.stay (x : ObjOk P w H h a o) (k : ∀ b u, (b = a ∨ H b = some (.own a)) → h.get? b = some u → h'.get? b = some u)
    (ho : ∀ b, H b = some (.own a) → H' b = some (.own a)) (ht : ∀ b xs, H b = some (.tup xs) → H' b = some (.tup xs)) : ObjOk P w H' h' a o := by
  induction o with
  | lst xs => obtain ⟨z, its, n, r, e⟩ := x; exact ⟨z, its, n, r, k _ _ (.inl rfl) e⟩
  | tup xs => obtain ⟨z, its, r, ob, e, c⟩ := x; exact ⟨z, its, r, ob, k _ _ (.inl rfl) e, c⟩
  | dK kvs => obtain ⟨z, y, vs, r, ob, es, ep, e, c⟩ := x; exact ⟨z, y, vs, r, ob, es, ep, k _ _ (.inl rfl) e, c⟩
  | dT kvs =>
    obtain ⟨z, y, xs, r, ob, es, ep, e, c⟩ := x
    exact ⟨z, y, xs, Paired.mapP r fun p q z => ⟨z.1, ht _ _ z.2.1, z.2.2⟩, ob, es, ep, k _ _ (.inl rfl) e, c⟩
  | set S n => obtain ⟨ob, es, ep, t, e, c⟩ := x; exact ⟨ob, es, ep, t, k _ _ (.inl rfl) e, c⟩
  | ins C dx fs =>
    obtain ⟨d, z, ne, e, mA, ⟨od, es, ep, e2, c⟩, r⟩ := x
    exact ⟨ho _ d, z, ne, k _ _ (.inl rfl) e, mA, ⟨od, es, ep, k _ _ (.inr d) e2, c⟩, r⟩
  | own y => obtain ⟨ob, e⟩ := x; exact ⟨ob, k _ _ (.inl rfl) e⟩
  | xd fs => obtain ⟨mA, ⟨od, es, ep, e, c⟩, r⟩ := x; exact ⟨mA, ⟨od, es, ep, k _ _ (.inl rfl) e, c⟩, r⟩
  | rng lo hi => obtain ⟨t, u, v, e⟩ := x; exact ⟨t, u, v, k _ _ (.inl rfl) e⟩
  | frz ob u ih => obtain ⟨e, q⟩ := x; exact ⟨k _ _ (.inl rfl) e, ih q⟩
  | tbl ps =>
    have e : h.get? a = some { cls := .none, data := .fields ps } := x
    show h'.get? a = some { cls := .none, data := .fields ps }
    exact k a _ (.inl rfl) e
  | met f y =>
    have e : h.get? a = some (PySem.W.methodObj (.ref f) (.ref y)) := x
    show h'.get? a = some (PySem.W.methodObj (.ref f) (.ref y))
    exact k a _ (.inl rfl) e
  | ext φ => obtain ⟨p, ⟨o, e⟩, st⟩ := x; exact ⟨st _ _ p fun o q => k _ _ (.inl rfl) q, ⟨o, k _ _ (.inl rfl) e⟩, st⟩
theorem HOk.lt (x : HOk P w H h) (e : H a = some o) : a < h.objs.size := (x a o e).lt
theorem HOk.fresh (x : HOk P w H h) (e : h.objs.size ≤ a) : H a = none := by
  cases q : H a with
  | none => rfl
  | some u => exact absurd (Nat.lt_of_lt_of_le (x.lt q) e) (Nat.lt_irrefl _)
theorem HOk.kept (x : HOk P w H h) (k : ∀ b u, h.get? b = some u → h'.get? b = some u) : HOk P w H h' := fun a o e =>
  (x a o e).stay (fun b u _ q => k b u q) (fun _ q => q) fun _ _ q => q
theorem HOk.laid (x : HOk P w H h) (k : ∀ b u, h.get? b = some u → h'.get? b = some u) (hp : h.objs.size ≤ a) (new : ObjOk P w (upd H a o) h' a o) : HOk P w (upd H a o) h' := fun b u e => by
  have hn := x.fresh hp
  by_cases hb : b = a
  · subst hb; rw [upd_same] at e; cases e; exact new
  · rw [upd_ne hb] at e
    exact (x b u e).stay (fun c v _ q => k c v q) (fun c q => by rw [upd_ne (ne_of_none q hn)]; exact q) fun c xs q => by rw [upd_ne (ne_of_none q hn)]; exact q
end
def Rd (H : Hp) (a : Addr) (u : HO) : Prop := H a = some u ∨ ∃ o, H a = some (.frz o u)
theorem Rd.of {H : Hp} {a : Addr} {u : HO} (h : H a = some u) : Rd H a u := .inl h
theorem Rd.ok {P : Program} {w : World} {H : Hp} {h : Heap} {a : Addr} {u : HO} (r : Rd H a u) (x : HOk P w H h) : ObjOk P w H h a u := by
  rcases r with r | ⟨o, r⟩
  · exact x a u r
  · obtain ⟨_, q⟩ := x a _ r
    exact q
def Mut : Option HO → Prop
  | some (.lst _) => True
  | some (.dK _) => True
  | some (.dT _) => True
  | some (.set _ _) => True
  | some (.ins _ _ _) => True
  | some (.ext _) => True
  | _ => False
section
variable {P : Program} {w : World} {H : Hp} {h h' : Heap} {x e : Addr} {o' : HO}
theorem HOk.write (ok : HOk P w H h) (mu : Mut (H x)) (he : e = x ∨ H e = some (.own x)) (k : ∀ b u, b ≠ e → h.get? b = some u → h'.get? b = some u) (heo : ∃ u, h'.get? e = some u)
    (new : ObjOk P w (upd H x o') h' x o') : HOk P w (upd H x o') h' := fun b u q => by
  have nown : ∀ c y, H c = some (.own y) → c ≠ x := fun c y r z => by subst z; rw [r] at mu; exact mu
  have ntup : ∀ c xs, H c = some (.tup xs) → c ≠ x := fun c xs r z => by subst z; rw [r] at mu; exact mu
  by_cases hb : b = x
  · subst hb; rw [upd_same] at q; cases q; exact new
  · rw [upd_ne hb] at q
    by_cases hbe : b = e
    · have q' : H b = some (.own x) := by
        rcases he with z | z
        · exact absurd (hbe.trans z) hb
        · rw [hbe]; exact z
      rw [q] at q'; cases q'
      obtain ⟨v, hv⟩ := heo
      exact ⟨v, by rw [hbe]; exact hv⟩
    · refine (ok b u q).stay (fun c v hc r => k c v ?_ r) (fun c r => by rw [upd_ne (nown c b r)]; exact r) fun c xs r => by rw [upd_ne (ntup c xs r)]; exact r
      rcases hc with rfl | hc
      · exact hbe
      · rintro rfl
        rcases he with z | z
        · exact nown c b hc z
        · rw [hc] at z; cases z; exact hb rfl
end
structure Un (fs ex : List Addr) (H H' : Hp) (h h' : Heap) : Prop where
  keep : ∀ b o, h.get? b = some o → H b = none → b ∉ fs → b ∉ ex → h'.get? b = some o
  slot : ∀ b o, h.get? b = some o → H b = none → b ∈ fs → b ∉ ex → ∃ sl, h'.get? b = some { o with slots := sl }
  free : ∀ b o, h.get? b = some o → H b = none → b ∉ ex → H' b = none
  there : ∀ b o, h.get? b = some o → b ∉ ex → ∃ o', h'.get? b = some o'
  tups : ∀ b xs, H b = some (.tup xs) → H' b = some (.tup xs)
  frzs : ∀ b o u, H b = some (.frz o u) → H' b = some (.frz o u)
  tbls : ∀ b ps, H b = some (.tbl ps) → ∃ more, H' b = some (.tbl (ps ++ more))
section
variable {fs fs' ex ex' : List Addr} {H H1 H2 : Hp} {h h1 h2 h' : Heap} {a x e : Addr} {o : HO}
theorem Un.any (u : Un fs ex H H1 h h1) {b : Addr} {ob : Obj} (q : h.get? b = some ob) (n : H b = none) (hx : b ∉ ex) : ∃ sl, h1.get? b = some { ob with slots := sl } := by
  by_cases hb : b ∈ fs
  · exact u.slot b ob q n hb hx
  · exact ⟨ob.slots, u.keep b ob q n hb hx⟩
theorem Un.trans (a : Un fs ex H H1 h h1) (b : Un fs ex H1 H2 h1 h2) : Un fs ex H H2 h h2 where
  keep := fun c ob q n hc hx => b.keep c ob (a.keep c ob q n hc hx) (a.free c ob q n hx) hc hx
  slot := fun c ob q n hc hx => by
    obtain ⟨sl, e1⟩ := a.slot c ob q n hc hx
    obtain ⟨sl', e2⟩ := b.slot c _ e1 (a.free c ob q n hx) hc hx
    exact ⟨sl', e2⟩
  free := fun c ob q n hx => by
    obtain ⟨o', e1⟩ := a.there c ob q hx
    exact b.free c o' e1 (a.free c ob q n hx) hx
  there := fun c ob q hx => by
    obtain ⟨o', e1⟩ := a.there c ob q hx
    exact b.there c o' e1 hx
  tups := fun c xs q => b.tups c xs (a.tups c xs q)
  frzs := fun c ob xs q => b.frzs c ob xs (a.frzs c ob xs q)
  tbls := fun c ps q => by
    obtain ⟨m1, e1⟩ := a.tbls c ps q
    obtain ⟨m2, e2⟩ := b.tbls c _ e1
    exact ⟨m1 ++ m2, by rw [e2, Array.append_assoc]⟩
theorem Un.kept (k : ∀ b u, h.get? b = some u → h'.get? b = some u) : Un fs ex H H h h' :=
  ⟨fun b ob q _ _ _ => k b ob q, fun b ob q _ _ _ => ⟨ob.slots, k b ob q⟩, fun _ _ _ n _ => n, fun b ob q _ => ⟨ob, k b ob q⟩, fun _ _ q => q, fun _ _ _ q => q, fun _ ps q => ⟨#[], by rw [q]; simp⟩⟩
theorem Un.refl : Un fs ex H H h h := Un.kept fun _ _ q => q
theorem Un.laid (k : ∀ b u, h.get? b = some u → h'.get? b = some u) (hp : h.objs.size ≤ a) (hn : H a = none) : Un fs ex H (upd H a o) h h' where
  keep := fun b u q _ _ _ => k b u q
  slot := fun b u q _ _ _ => ⟨u.slots, k b u q⟩
  free := fun b u q n _ => by rw [upd_ne (Nat.ne_of_lt (Nat.lt_of_lt_of_le (Heap.lt_size q) hp))]; exact n
  there := fun b u q _ => ⟨u, k b u q⟩
  tups := fun b xs q => by rw [upd_ne (ne_of_none q hn)]; exact q
  frzs := fun b u xs q => by rw [upd_ne (ne_of_none q hn)]; exact q
  tbls := fun b ps q => ⟨#[], by rw [upd_ne (ne_of_none q hn), q]; simp⟩
theorem Un.write (mu : Mut (H x)) (he : e = x ∨ H e = some (.own x)) (k : ∀ b u, b ≠ e → h.get? b = some u → h'.get? b = some u) (heo : ∃ u, h'.get? e = some u) : Un fs ex H (upd H x o) h h' := by
  have hx : ∀ b, H b = none → b ≠ x := fun b n z => by subst z; rw [n] at mu; exact mu
  have hb : ∀ b, H b = none → b ≠ e := fun b n z => by
    subst z
    rcases he with r | r
    · exact hx b n r
    · rw [n] at r; cases r
  have hm : ∀ b u, H b = some u → ¬ Mut (some u) → b ≠ x := fun b u q nm z => by subst z; rw [q] at mu; exact nm mu
  refine ⟨fun b u q n _ _ => k b u (hb b n) q, fun b u q n _ _ => ⟨u.slots, k b u (hb b n) q⟩, fun b u q n _ => by rw [upd_ne (hx b n)]; exact n, fun b u q _ => ?_,
    fun b xs q => by rw [upd_ne (hm b _ q fun z => z)]; exact q, fun b u xs q => by rw [upd_ne (hm b _ q fun z => z)]; exact q, fun b ps q => ⟨#[], by rw [upd_ne (hm b _ q fun z => z), q]; simp⟩⟩
  by_cases hbe : b = e
  · subst hbe; exact heo
  · exact ⟨u, k b u hbe q⟩
theorem Un.mono (u : Un fs ex H H1 h h1) (hs : ∀ b ∈ fs, b ∈ fs') (hx : ∀ b ∈ ex, b ∈ ex') : Un fs' ex' H H1 h h1 :=
  ⟨fun b ob q n hb he => u.keep b ob q n (fun z => hb (hs b z)) fun z => he (hx b z), fun _ _ q n _ he => u.any q n fun z => he (hx _ z), fun b ob q n he => u.free b ob q n fun z => he (hx b z), fun b ob q he => u.there b ob q fun z => he (hx b z), u.tups, u.frzs, u.tbls⟩
end
def trk (h : Heap) (H : Hp) : List Addr := (List.range h.objs.size).filter fun a => (H a).isSome
def hidT (h : Heap) (H : Hp) : Heap := PySem.W.hideAll h (trk h H)
theorem hidT_size (h : Heap) (H : Hp) : (hidT h H).objs.size = h.objs.size := PySem.W.hideAll_size _ _
theorem hidT_get {h : Heap} {H : Hp} {b : Addr} {o : Obj} (e : h.get? b = some o) (n : H b = none) : (hidT h H).get? b = some o :=
  PySem.W.hideAll_get _ e fun hm => by
    have q : (H b).isSome = true := (List.mem_filter.mp hm).2
    rw [n] at q; simp at q
theorem of_hidT {h : Heap} {H : Hp} {b : Addr} {o : Obj} (e : (hidT h H).get? b = some o) : h.get? b = some o ∧ H b = none := by
  have e' : h.get? b = some o := PySem.W.of_hideAll (trk h H) e
  refine ⟨e', ?_⟩
  cases q : H b with
  | none => rfl
  | some x =>
    have hm : b ∈ trk h H := List.mem_filter.mpr ⟨List.mem_range.mpr (Heap.lt_size e'), by simp [q]⟩
    have z : (hidT h H).get? b = none := PySem.W.hideAll_none (trk h H) hm
    rw [z] at e; cases e
def allNews (g h : Heap) (L : Addr) : List (Addr × Obj) := (List.range h.objs.size).filterMap fun a => if a = L ∨ (g.get? a).isSome = true then none else (h.get? a).map fun o => (a, o)
def rest (g h : Heap) (L d : Addr) : List (Addr × Obj) := (allNews g h L).filter fun p => decide (p.1 ≠ d)
end L2
namespace L2
open PySem PySem.Spec PyProof.Rows
structure Mod (K : PySem.W.Frag) (mg : Str → Option Value) (base : Heap) : Prop where
  kin : K.In base
  glob : base.Ns mainGlobals mg
  blt : ∃ mb, base.Ns builtinsNs mb ∧ ∀ x : Str, x ≠ "__name__" → mb x = bootBuiltins x
  nolimit : base.NoLimit
structure Cx where
  prog : Program
  w : World
  K : PySem.W.Frag
  mg : Str → Option Value
  base : Heap
  A : Around
  N : List Str
  s₀ : Shared
  H₀ : Hp
  env : Env
  outer : List Env
  stack : List Env
  ex : List Addr
  fn : Str → Bool
  calm : Bool
  pn : List (Addr × Obj)
  xe : Value → Shared → Prop
def frs (l : List Env) : List Addr := l.filterMap (·.frame)
abbrev Cx.fs (X : Cx) : List Addr := frs X.outer
def Vis (sc : Scope) (x : Str) : Prop := sc.names.lookup x = some .local ∨ sc.names.lookup x = some .cell ∨ sc.names.lookup x = some .free
def Loc (sc : Scope) (x : Str) : Prop := sc.names.lookup x = some .local ∨ sc.names.lookup x = some .cell
def Look (env : Env) (h : Heap) (m : Str → Option Value) (x : Str) (u : Value) : Prop :=
  (env.kindOf x = some .local ∧ m x = some u) ∨ ((env.kindOf x = some .cell ∨ env.kindOf x = some .free) ∧ ∃ c, env.cells.lookup x = some c ∧ h.IsCell c (some u))
structure Cx.Ok (X : Cx) : Prop where
  mod : Mod X.K X.mg X.base
  kind : X.env.scope.kind = .function
  glob : X.env.globals = mainGlobals
  blt : X.env.builtins = builtinsNs
  above : X.s₀.heap.objs.size ≤ X.env.locals
  inj : ∀ x y c, X.env.cells.lookup x = some c → X.env.cells.lookup y = some c → x = y
  has : ∀ x, (X.env.kindOf x = some .cell ∨ X.env.kindOf x = some .free) → ∃ c, X.env.cells.lookup x = some c
  cab : ∀ x c, X.fn x = true → X.env.cells.lookup x = some c → X.s₀.heap.objs.size ≤ c
  hd : X.calm = true → X.A.handled = none
  frames : X.A.frames = some X.stack
  stk : X.stack = X.outer ∨ (X.stack = X.env :: X.outer ∧ X.env.frame = some X.env.locals)
  exf : ∀ b ∈ X.ex, b ≠ X.env.locals ∧ ∀ x c, X.env.cells.lookup x = some c → c ≠ b
  bs : ∀ b o, X.base.get? b = some o → X.s₀.heap.get? b = some o ∧ X.H₀ b = none
  bsz : X.base.objs.size ≤ X.s₀.heap.objs.size
  noex : ∀ b o, X.base.get? b = some o → b ∉ X.ex
  exfs : ∀ b ∈ X.ex, b ∉ X.fs
  funs : X.s₀.heap.FunFrames X.base X.outer
  frf : ∀ b ∈ X.fs, X.H₀ b = none
structure Inv (X : Cx) (pins : List (Addr × Obj)) (σ : List (Option V)) (H : Hp) (s : Shared) : Prop where
  ok : X.Ok
  os : s.os = X.s₀.os
  bare : AllBare s.gens
  base : Un X.fs X.ex X.H₀ H X.s₀.heap s.heap
  loc : ∃ m, s.heap.Ns X.env.locals m ∧ ∀ (i : Nat) (x : Str) (v : V), X.N[i]? = some x → σ[i]? = some (some v) → Vis X.env.scope x → ∃ u, RelV v u ∧ Look X.env s.heap m x u
  cell : ∀ x c, X.env.cells.lookup x = some c → ∃ v, s.heap.IsCell c v
  free : H X.env.locals = none
  freeC : ∀ x c, X.env.cells.lookup x = some c → H c = none
  pin : ∀ p ∈ X.pn ++ pins, s.heap.get? p.1 = some p.2 ∧ H p.1 = none ∧ p.1 ≠ X.env.locals ∧ p.1 ∉ X.fs ∧ ∀ v, p.2.data ≠ .cell v
  hok : HOk X.prog X.w H s.heap
  len : σ.length = X.N.length
section
variable {X : Cx} {pins : List (Addr × Obj)} {σ : List (Option V)} {H H' : Hp} {s : Shared} {h' : Heap}
theorem Cx.Ok.nofr (ok : X.Ok) {b : Addr} {o : Obj} (e : X.base.get? b = some o) : b ∉ X.fs := fun hb => by
  have := (ok.funs.mem hb).1
  rw [e] at this; cases this
theorem Inv.bs (I : Inv X pins σ H s) : ∀ b o, X.base.get? b = some o → s.heap.get? b = some o ∧ H b = none := fun b o e =>
  ⟨I.base.keep b o (I.ok.bs b o e).1 (I.ok.bs b o e).2 (I.ok.nofr e) (I.ok.noex b o e), I.base.free b o (I.ok.bs b o e).1 (I.ok.bs b o e).2 (I.ok.noex b o e)⟩
theorem Inv.bk (I : Inv X pins σ H s) : ∀ b o, X.base.get? b = some o → s.heap.get? b = some o := fun b o e => (I.bs b o e).1
theorem Inv.mod (I : Inv X pins σ H s) : Mod X.K X.mg X.base := I.ok.mod
theorem Inv.kIn (I : Inv X pins σ H s) : X.K.In s.heap := I.ok.mod.kin.keeps I.bk
theorem Inv.nolimit (I : Inv X pins σ H s) : s.heap.NoLimit := I.ok.mod.nolimit.keeps I.bk
theorem Inv.lt (I : Inv X pins σ H s) : X.env.locals < s.heap.objs.size := let ⟨_, hn, _⟩ := I.loc; hn.lt
theorem Inv.sz (I : Inv X pins σ H s) : X.s₀.heap.objs.size ≤ s.heap.objs.size := Nat.le_trans I.ok.above (Nat.le_of_lt I.lt)
theorem Inv.nofs (I : Inv X pins σ H s) {a : Addr} (h : s.heap.objs.size ≤ a) : a ∉ X.fs := fun hb => by
  obtain ⟨_, o, ho, _⟩ := I.ok.funs.mem hb
  exact absurd (Nat.lt_of_lt_of_le (Heap.lt_size ho) (Nat.le_trans I.sz h)) (Nat.lt_irrefl _)
theorem Inv.cne (I : Inv X pins σ H s) : ∀ x c, X.env.cells.lookup x = some c → c ≠ X.env.locals := fun x c e z => by
  obtain ⟨v, o, ho, hd⟩ := I.cell x c e
  obtain ⟨m, ⟨o', es, ep, ho', hd', _⟩, _⟩ := I.loc
  rw [z, ho'] at ho; cases ho; rw [hd'] at hd; cases hd
theorem Inv.funs (I : Inv X pins σ H s) : s.heap.FunFrames X.base X.outer := by
  have all : ∀ (l : List Env), (∀ b ∈ frs l, b ∈ X.fs) → X.s₀.heap.FunFrames X.base l → s.heap.FunFrames X.base l := by
    intro l
    induction l with
    | nil => intro _ _; trivial
    | cons env r ih =>
      intro hs hl
      obtain ⟨hk, ⟨L, o, hf, hn, ho, hd⟩, hr⟩ := hl
      have hL : L ∈ X.fs := hs L (by unfold frs; rw [List.filterMap_cons, hf]; exact List.mem_cons_self)
      obtain ⟨sl, e⟩ := I.base.slot L o ho (I.ok.frf L hL) hL fun z => I.ok.exfs L z hL
      exact ⟨hk, ⟨L, _, hf, hn, e, hd⟩, ih (fun b hb => hs b (by unfold frs; rw [List.filterMap_cons, hf]; exact List.mem_cons_of_mem _ hb)) hr⟩
  exact all X.outer (fun _ hb => hb) I.ok.funs
theorem Inv.stack (I : Inv X pins σ H s) : s.heap.FunFrames X.base X.stack := by
  rcases I.ok.stk with e | ⟨e, hf⟩
  · rw [e]; exact I.funs
  · rw [e]
    obtain ⟨m, hn, _⟩ := I.loc
    refine .cons (by rw [I.ok.kind]; decide) hf hn ?_ I.funs
    exact Heap.get?_none_of_le (Nat.le_trans I.ok.bsz I.ok.above)
theorem Inv.stkSub (I : Inv X pins σ H s) : ∀ b ∈ frs X.stack, b ∈ X.env.locals :: X.fs := fun b hb => by
  rcases I.ok.stk with e | ⟨e, hf⟩
  · rw [e] at hb; exact List.mem_cons_of_mem _ hb
  · rw [e] at hb
    unfold frs at hb
    rw [List.filterMap_cons, hf] at hb
    exact hb
theorem Inv.stkFree (I : Inv X pins σ H s) : ∀ b ∈ frs X.stack, H b = none := fun b hb => by
  rcases List.mem_cons.mp (I.stkSub b hb) with e | hb
  · rw [e]; exact I.free
  · obtain ⟨_, o, ho, _⟩ := I.ok.funs.mem hb
    exact I.base.free b o ho (I.ok.frf b hb) fun z => I.ok.exfs b z hb
theorem Inv.step {g' : Array GenState} {t' : Nat} {d' : Drawn} {ch : List Addr} (I : Inv X pins σ H s)
    (hch : ∀ b ∈ ch, (b ∈ X.ex ∨ X.s₀.heap.objs.size ≤ b) ∧ b ≠ X.env.locals ∧ (∀ x c, X.env.cells.lookup x = some c → c ≠ b) ∧ ∀ p ∈ X.pn ++ pins, p.1 ≠ b)
    (keep : ∀ b o, b ≠ X.env.locals → b ∉ X.fs → b ∉ ch → s.heap.get? b = some o → H b = none → h'.get? b = some o)
    (slot : ∀ b o, b ≠ X.env.locals → b ∈ X.fs → b ∉ ch → s.heap.get? b = some o → H b = none → ∃ sl, h'.get? b = some { o with slots := sl }) (free : ∀ b o, b ∉ ch → s.heap.get? b = some o → H b = none → H' b = none)
    (there : ∀ b o, b ∉ ch → s.heap.get? b = some o → ∃ o', h'.get? b = some o')
    (tups : ∀ b xs, H b = some (.tup xs) → H' b = some (.tup xs)) (frzs : ∀ b o u, H b = some (.frz o u) → H' b = some (.frz o u)) (tbls : ∀ b ps, H b = some (.tbl ps) → ∃ more, H' b = some (.tbl (ps ++ more)))
    (ns : ∀ m, s.heap.Ns X.env.locals m → h'.Ns X.env.locals m) (hok : HOk X.prog X.w H' h') (hg : AllBare g') :
    Inv X pins σ H' { s with heap := h', gens := g', drawn := d', toks := t' } := by
  have neL : ∀ b o, X.s₀.heap.get? b = some o → b ≠ X.env.locals := fun b o e => Nat.ne_of_lt (Nat.lt_of_lt_of_le (Heap.lt_size e) I.ok.above)
  have neC : ∀ b o, X.s₀.heap.get? b = some o → b ∉ X.ex → b ∉ ch := fun b o e hx hb => by
    rcases (hch b hb).1 with z | z
    · exact hx z
    · exact absurd (Nat.lt_of_lt_of_le (Heap.lt_size e) z) (Nat.lt_irrefl _)
  have cellK : ∀ x c, X.env.cells.lookup x = some c → ∀ v, s.heap.IsCell c v → h'.IsCell c v := fun x c e v ⟨o, ho, hd⟩ => by
    have nch : c ∉ ch := fun z => (hch c z).2.2.1 x c e rfl
    by_cases hc : c ∈ X.fs
    · obtain ⟨sl, q⟩ := slot c o (I.cne x c e) hc nch ho (I.freeC x c e)
      exact ⟨_, q, hd⟩
    · exact ⟨o, keep c o (I.cne x c e) hc nch ho (I.freeC x c e), hd⟩
  refine ⟨I.ok, I.os, hg, ⟨fun b o e n hb hx => ?_, fun b o e n hb hx => ?_, fun b o e n hx => ?_, fun b o e hx => ?_, fun b xs e => tups b xs (I.base.tups b xs e), fun b o xs e => frzs b o xs (I.base.frzs b o xs e), fun b ps e => ?_⟩, ?_, fun x c e => ?_, ?_, fun x c e => ?_, fun p hp => ?_, hok, I.len⟩
  · exact keep b o (neL b o e) hb (neC b o e hx) (I.base.keep b o e n hb hx) (I.base.free b o e n hx)
  · obtain ⟨sl, e1⟩ := I.base.slot b o e n hb hx
    obtain ⟨sl', e2⟩ := slot b _ (neL b o e) hb (neC b o e hx) e1 (I.base.free b o e n hx)
    exact ⟨sl', e2⟩
  · obtain ⟨o', e1⟩ := I.base.there b o e hx
    exact free b o' (neC b o e hx) e1 (I.base.free b o e n hx)
  · obtain ⟨o', e1⟩ := I.base.there b o e hx
    exact there b o' (neC b o e hx) e1
  · obtain ⟨m1, e1⟩ := I.base.tbls b ps e
    obtain ⟨m2, e2⟩ := tbls b _ e1
    exact ⟨m1 ++ m2, by rw [e2, Array.append_assoc]⟩
  · obtain ⟨m, hn, hl⟩ := I.loc
    refine ⟨m, ns m hn, fun i x v e1 e2 e3 => ?_⟩
    obtain ⟨u, r, l⟩ := hl i x v e1 e2 e3
    refine ⟨u, r, ?_⟩
    rcases l with l | ⟨k, c, e, z⟩
    · exact .inl l
    · exact .inr ⟨k, c, e, cellK x c e _ z⟩
  · obtain ⟨v, z⟩ := I.cell x c e
    exact ⟨v, cellK x c e v z⟩
  · obtain ⟨m, ⟨o, _, _, ho, _⟩, _⟩ := I.loc
    exact free _ o (fun z => (hch _ z).2.1 rfl) ho I.free
  · obtain ⟨v, o, ho, hd⟩ := I.cell x c e
    exact free c o (fun z => (hch c z).2.2.1 x c e rfl) ho (I.freeC x c e)
  · obtain ⟨e, n, ne, nf, d⟩ := I.pin p hp
    have nch : p.1 ∉ ch := fun z => (hch p.1 z).2.2.2 p hp rfl
    exact ⟨keep p.1 p.2 ne nf nch e n, free p.1 p.2 nch e n, ne, nf, d⟩
theorem Inv.un {t' : Nat} (I : Inv X pins σ H s) (u : Un X.fs [] H H' s.heap h') (hok : HOk X.prog X.w H' h') : Inv X pins σ H' { s with heap := h', toks := t' } := by
  obtain ⟨m, ⟨o, es, ep, ho, r⟩, _⟩ := id I.loc
  obtain ⟨sl, hL⟩ := u.any ho I.free (by simp)
  exact I.step (g' := s.gens) (d' := s.drawn) (ch := []) (fun _ z => nomatch z) (fun b o _ hb _ e n => u.keep b o e n hb (by simp)) (fun b o _ hb _ e n => u.slot b o e n hb (by simp)) (fun b o _ e n => u.free b o e n (by simp)) (fun b o _ e => u.there b o e (by simp)) u.tups u.frzs u.tbls (fun m' hm => by
    obtain ⟨o', es', ep', ho', r'⟩ := hm
    rw [ho] at ho'; cases ho'
    exact ⟨_, es', ep', hL, r'⟩) hok I.bare
theorem Inv.call {g' : Array GenState} {t' : Nat} {d' : Drawn} {ch : List Addr} (I : Inv X pins σ H s) (u : Un (frs X.stack) ch H H' s.heap h') (hok : HOk X.prog X.w H' h') (hg : AllBare g')
    (hch : ∀ b ∈ ch, (b ∈ X.ex ∨ X.s₀.heap.objs.size ≤ b) ∧ b ≠ X.env.locals ∧ (∀ x c, X.env.cells.lookup x = some c → c ≠ b) ∧ ∀ p ∈ X.pn ++ pins, p.1 ≠ b) :
    Inv X pins σ H' { s with heap := h', gens := g', drawn := d', toks := t' } := by
  obtain ⟨m, ⟨o, es, ep, ho, r⟩, _⟩ := id I.loc
  obtain ⟨sl, hL⟩ := u.any ho I.free fun z => (hch _ z).2.1 rfl
  exact I.step (ch := ch) hch (fun b o hL hb hc e n => u.keep b o e n (fun z => (List.mem_cons.mp (I.stkSub b z)).elim hL hb) hc) (fun b o _ _ hc e n => u.any e n hc) (fun b o hc e n => u.free b o e n hc) (fun b o hc e => u.there b o e hc) u.tups u.frzs u.tbls (fun m' hm => by
    obtain ⟨o', es', ep', ho', r'⟩ := hm
    rw [ho] at ho'; cases ho'
    exact ⟨_, es', ep', hL, r'⟩) hok hg
theorem Inv.turned {t' : Nat} {it : Addr} (I : Inv X pins σ H s) (k : ∀ b o, b ≠ it → s.heap.get? b = some o → h'.get? b = some o) (hn : H it = none) (hL : it ≠ X.env.locals)
    (h1 : it ∈ X.ex ∨ X.s₀.heap.objs.size ≤ it) (h2 : ∀ x c, X.env.cells.lookup x = some c → c ≠ it) (h3 : ∀ p ∈ X.pn ++ pins, p.1 ≠ it) : Inv X pins σ H { s with heap := h', toks := t' } := by
  have nit : ∀ b u, H b = some u → b ≠ it := fun b u e z => by rw [z, hn] at e; cases e
  refine I.step (g' := s.gens) (d' := s.drawn) (ch := [it]) (fun b hb => ?_) (fun b o _ _ hc e _ => k b o (fun z => hc (by simp [z])) e) (fun b o _ _ hc e _ => ⟨o.slots, k b o (fun z => hc (by simp [z])) e⟩) (fun _ _ _ _ n => n)
    (fun b o hc e => ⟨o, k b o (fun z => hc (by simp [z])) e⟩) (fun _ _ e => e) (fun _ _ _ e => e) (fun b ps e => ⟨#[], by rw [e]; simp⟩) (fun m hm => ?_) (fun b u e => ?_) I.bare
  · have e : b = it := by simpa using hb
    subst e
    exact ⟨h1, hL, h2, h3⟩
  · obtain ⟨o, es, ep, ho, r⟩ := hm
    exact ⟨o, es, ep, k _ o (Ne.symm hL) ho, r⟩
  · refine (I.hok b u e).stay (fun c v hc q => k c v ?_ q) (fun _ q => q) fun _ _ q => q
    rcases hc with z | z
    · rw [z]; exact nit b u e
    · exact nit c _ z
theorem Inv.tok (I : Inv X pins σ H s) (t : Nat) : Inv X pins σ H { s with toks := t } := I.un (h' := s.heap) (t' := t) Un.refl I.hok
theorem Inv.kept {t' : Nat} (I : Inv X pins σ H s) (k : ∀ b u, s.heap.get? b = some u → h'.get? b = some u) : Inv X pins σ H { s with heap := h', toks := t' } := I.un (Un.kept k) (I.hok.kept k)
theorem Inv.laid {a : Addr} {o : HO} {t' : Nat} (I : Inv X pins σ H s) (k : ∀ b u, s.heap.get? b = some u → h'.get? b = some u) (hp : s.heap.objs.size ≤ a) (new : ObjOk X.prog X.w (upd H a o) h' a o) :
    Inv X pins σ (upd H a o) { s with heap := h', toks := t' } := I.un (Un.laid k hp (I.hok.fresh hp)) (I.hok.laid k hp new)
theorem Inv.write {x e : Addr} {o : HO} {t' : Nat} (I : Inv X pins σ H s) (mu : Mut (H x)) (he : e = x ∨ H e = some (.own x)) (k : ∀ b u, b ≠ e → s.heap.get? b = some u → h'.get? b = some u) (heo : ∃ u, h'.get? e = some u)
    (new : ObjOk X.prog X.w (upd H x o) h' x o) : Inv X pins σ (upd H x o) { s with heap := h', toks := t' } := I.un (Un.write mu he k heo) (I.hok.write mu he k heo new)
theorem Inv.weak {σ' : List (Option V)} (I : Inv X pins σ H s) (hl : σ'.length = σ.length) (w : ∀ (i : Nat) v, σ'[i]? = some (some v) → σ[i]? = some (some v)) : Inv X pins σ' H s :=
  ⟨I.ok, I.os, I.bare, I.base, let ⟨m, hn, hl'⟩ := I.loc; ⟨m, hn, fun i x v e1 e2 e3 => hl' i x v e1 (w i v e2) e3⟩, I.cell, I.free, I.freeC, I.pin, I.hok, hl.trans I.len⟩
theorem Inv.pins_of {pins' : List (Addr × Obj)} (I : Inv X pins σ H s) (h : ∀ p ∈ pins', s.heap.get? p.1 = some p.2 ∧ H p.1 = none ∧ p.1 ≠ X.env.locals ∧ p.1 ∉ X.fs ∧ ∀ v, p.2.data ≠ .cell v) : Inv X pins' σ H s :=
  ⟨I.ok, I.os, I.bare, I.base, I.loc, I.cell, I.free, I.freeC, fun p hp => (List.mem_append.mp hp).elim (fun z => I.pin p (List.mem_append_left _ z)) (h p), I.hok, I.len⟩
theorem nodup_ix {N : List Str} (hN : N.Nodup) {i j : Nat} {x : Str} (a : N[i]? = some x) (b : N[j]? = some x) : i = j := by
  obtain ⟨h1, e1⟩ := List.getElem?_eq_some_iff.mp a
  obtain ⟨h2, e2⟩ := List.getElem?_eq_some_iff.mp b
  exact (List.getElem_inj hN).mp (e1.trans e2.symm)
theorem store_ok2 {M : Model} {A : Around} {E : Value → Shared → Prop} {i : Nat} {x : Str} {v : V} {u : Value} {Q : Unit → Shared → Prop} (I : Inv X pins σ H s) (hN : X.N.Nodup) (hi : X.N[i]? = some x) (hx : Loc X.env.scope x) (r : RelV v u)
    (h : ∀ s', Inv X pins (σ.set i (some v)) H s' → (∃ a, Heap.SameBut a s.heap s'.heap ∧ (a = X.env.locals ∨ X.env.cells.lookup x = some a)) → Q () s') (hf : X.fn x = true ∨ X.env.scope.names.lookup x = some .local := by first | exact .inl rfl | exact .inr rfl | assumption) : wpAny M A (storeName X.env x u) Q E s := by
  obtain ⟨m, hn, hl⟩ := id I.loc
  have hcls : (X.env.scope.kind == .class || (X.env.scope.kind == .module && X.env.locals != X.env.globals)) = false := by rw [I.ok.kind]; rfl
  have hiσ : i < σ.length := by rw [I.len]; exact (List.getElem?_eq_some_iff.mp hi).1
  have cne := I.cne
  have tracked : ∀ {a : Addr} {h' : Heap}, (∃ o, s.heap.get? a = some o ∧ H a = none) → Heap.SameBut a s.heap h' → HOk X.prog X.w H h' := fun {a h'} ha hs b ob e => by
    obtain ⟨_, _, hfree⟩ := ha
    refine (I.hok b ob e).stay (fun c w' hc q => (hs.2 c ?_).trans q) (fun _ q => q) fun _ _ q => q
    rintro rfl
    rcases hc with rfl | hc
    · rw [hfree] at e; cases e
    · rw [hfree] at hc; cases hc
  rcases hx with hk | hk
  · refine wpAny_storeName_local hk hn (fun h' hn' hs => ?_) hcls
    obtain ⟨oL, _, _, hoL, _⟩ := id hn
    refine h _ ⟨I.ok, I.os, I.bare, ⟨fun b o e n hb hx => ?_, fun b o e n hb hx => ?_, I.base.free, fun b o e hx => ?_, I.base.tups, I.base.frzs, I.base.tbls⟩, ⟨_, hn', fun j y v' e1 e2 e3 => ?_⟩, fun y c e => ?_, I.free, I.freeC, fun p hp => ?_, tracked ⟨oL, hoL, I.free⟩ hs, by simpa using I.len⟩ ⟨_, hs, .inl rfl⟩
    · exact (hs.2 b (Nat.ne_of_lt (Nat.lt_of_lt_of_le (Heap.lt_size e) I.ok.above))).trans (I.base.keep b o e n hb hx)
    · obtain ⟨sl, e1⟩ := I.base.slot b o e n hb hx
      exact ⟨sl, (hs.2 b (Nat.ne_of_lt (Nat.lt_of_lt_of_le (Heap.lt_size e) I.ok.above))).trans e1⟩
    · obtain ⟨o', e1⟩ := I.base.there b o e hx
      exact ⟨o', (hs.2 b (Nat.ne_of_lt (Nat.lt_of_lt_of_le (Heap.lt_size e) I.ok.above))).trans e1⟩
    · by_cases hj : j = i
      · subst hj
        rw [hi] at e1; cases e1
        rw [List.getElem?_set_self hiσ] at e2
        cases e2
        exact ⟨u, r, .inl ⟨hk, by simp⟩⟩
      · rw [List.getElem?_set_ne (Ne.symm hj)] at e2
        obtain ⟨u', r', q⟩ := hl j y v' e1 e2 e3
        refine ⟨u', r', ?_⟩
        rcases q with ⟨k, e⟩ | ⟨k, c, e, z⟩
        · refine .inl ⟨k, ?_⟩
          have : y ≠ x := fun e => hj (nodup_ix hN e1 (e ▸ hi))
          simp [this, e]
        · exact .inr ⟨k, c, e, z.sameBut hs (cne y c e)⟩
    · obtain ⟨w', z⟩ := I.cell y c e
      exact ⟨w', z.sameBut hs (cne y c e)⟩
    · obtain ⟨e, n, ne, nf, d⟩ := I.pin p hp
      exact ⟨(hs.2 p.1 ne).trans e, n, ne, nf, d⟩
  · have hfn : X.fn x = true := by
      rcases hf with z | z
      · exact z
      · rw [z] at hk; cases hk
    obtain ⟨c, hc⟩ := I.ok.has x (.inl hk)
    obtain ⟨w', z⟩ := I.cell x c hc
    refine wpAny_storeName_cell I.ok.kind hk hc z (fun h' hc' hs => ?_)
    obtain ⟨oc, hoc, hocd⟩ := id z
    refine h { s with heap := h' } ⟨I.ok, I.os, I.bare, ⟨fun b o e n hb hx => ?_, fun b o e n hb hx => ?_, I.base.free, fun b o e hx => ?_, I.base.tups, I.base.frzs, I.base.tbls⟩, ⟨m, hn.sameBut hs (Ne.symm (cne x c hc)), fun j y v' e1 e2 e3 => ?_⟩, fun y c' e => ?_, I.free, I.freeC, fun p hp => ?_, tracked ⟨oc, hoc, I.freeC x c hc⟩ hs, by simpa using I.len⟩ ⟨c, hs, .inr hc⟩
    · exact (hs.2 b (Nat.ne_of_lt (Nat.lt_of_lt_of_le (Heap.lt_size e) (I.ok.cab x c hfn hc)))).trans (I.base.keep b o e n hb hx)
    · obtain ⟨sl, e1⟩ := I.base.slot b o e n hb hx
      exact ⟨sl, (hs.2 b (Nat.ne_of_lt (Nat.lt_of_lt_of_le (Heap.lt_size e) (I.ok.cab x c hfn hc)))).trans e1⟩
    · obtain ⟨o', e1⟩ := I.base.there b o e hx
      exact ⟨o', (hs.2 b (Nat.ne_of_lt (Nat.lt_of_lt_of_le (Heap.lt_size e) (I.ok.cab x c hfn hc)))).trans e1⟩
    · by_cases hj : j = i
      · subst hj
        rw [hi] at e1; cases e1
        rw [List.getElem?_set_self hiσ] at e2
        cases e2
        exact ⟨u, r, .inr ⟨.inl hk, c, hc, hc'⟩⟩
      · rw [List.getElem?_set_ne (Ne.symm hj)] at e2
        obtain ⟨u', r', q⟩ := hl j y v' e1 e2 e3
        refine ⟨u', r', ?_⟩
        rcases q with q | ⟨k, c', e, z'⟩
        · exact .inl q
        · refine .inr ⟨k, c', e, z'.sameBut hs ?_⟩
          rintro rfl
          exact hj (nodup_ix hN e1 (I.ok.inj _ _ _ e hc ▸ hi))
    · by_cases hcc : c' = c
      · subst hcc; exact ⟨_, hc'⟩
      · obtain ⟨w2, z2⟩ := I.cell y c' e
        exact ⟨w2, z2.sameBut hs hcc⟩
    · obtain ⟨e, n, ne, nf, d⟩ := I.pin p hp
      refine ⟨(hs.2 p.1 ?_).trans e, n, ne, nf, d⟩
      intro q
      rw [q, hoc] at e
      have q' : oc = p.2 := Option.some.inj e
      exact d w' (by rw [← q']; exact hocd)
theorem store_ok {M : Model} {A : Around} {E : Value → Shared → Prop} {i : Nat} {x : Str} {v : V} {u : Value} {Q : Unit → Shared → Prop} (I : Inv X pins σ H s) (hN : X.N.Nodup) (hi : X.N[i]? = some x) (hx : Loc X.env.scope x) (r : RelV v u)
    (h : ∀ s', Inv X pins (σ.set i (some v)) H s' → Q () s') (hf : X.fn x = true ∨ X.env.scope.names.lookup x = some .local := by first | exact .inl rfl | exact .inr rfl | assumption) : wpAny M A (storeName X.env x u) Q E s :=
  store_ok2 I hN hi hx r (fun s' I' _ => h s' I') hf
theorem Inv.call' {s' : Shared} {ch : List Addr} (I : Inv X pins σ H s) (ho : s'.os = s.os) (u : Un (frs X.stack) ch H H' s.heap s'.heap) (hok : HOk X.prog X.w H' s'.heap) (hg : AllBare s'.gens)
    (hch : ∀ b ∈ ch, (b ∈ X.ex ∨ X.s₀.heap.objs.size ≤ b) ∧ b ≠ X.env.locals ∧ (∀ x c, X.env.cells.lookup x = some c → c ≠ b) ∧ ∀ p ∈ X.pn ++ pins, p.1 ≠ b) : Inv X pins σ H' s' := by
  obtain ⟨h', g', d', t', o'⟩ := s'
  have e : o' = s.os := ho
  subst e
  exact I.call (g' := g') (t' := t') (d' := d') u hok hg hch
end
abbrev XK := Value → Option Addr → Hp → Prop
abbrev St := List (Option V)
abbrev VK := V → Hp → Prop
abbrev TE := St → Hp → VK → Prop
abbrev TT := St → Hp → (Bool → Hp → Prop) → Prop
abbrev TA := St → Hp → (List V → Hp → Prop) → Prop
structure Ends where
  nx : St → Hp → Prop
  rt : VK
  bk : St → Hp → Prop := fun _ _ => False
  ct : St → Hp → Prop := fun _ _ => False
abbrev TS := Ends → St → Hp → Prop
def EP (X : Cx) (pins : List (Addr × Obj)) (σ : St) (Q : VK) (u : Value) (s' : Shared) : Prop := ∃ v H', Inv X pins σ H' s' ∧ RelV v u ∧ Q v H'
def TP (X : Cx) (pins : List (Addr × Obj)) (σ : St) (Q : Bool → Hp → Prop) (b : Bool) (s' : Shared) : Prop := ∃ H', Inv X pins σ H' s' ∧ Q b H'
def AP (X : Cx) (pins : List (Addr × Obj)) (σ : St) (Q : List V → Hp → Prop) (us : List Value) (s' : Shared) : Prop := ∃ vs H', Inv X pins σ H' s' ∧ Vals vs us ∧ Q vs H'
def SP (X : Cx) (pins : List (Addr × Obj)) (D : Ends) (f : Flow) (s' : Shared) : Prop :=
  match f with
  | .next => ∃ σ' H', Inv X pins σ' H' s' ∧ D.nx σ' H'
  | .brk => ∃ σ' H', Inv X pins σ' H' s' ∧ D.bk σ' H'
  | .cont => ∃ σ' H', Inv X pins σ' H' s' ∧ D.ct σ' H'
  | .ret u => ∃ v σ' H', Inv X pins σ' H' s' ∧ RelV v u ∧ D.rt v H'
def PE (X : Cx) (e : Expr) (t : TE) : Prop :=
  ∀ (pins : List (Addr × Obj)) (s : Shared) (σ : St) (H : Hp) (Q : VK), Inv X pins σ H s → t σ H Q → wpAny (model X.prog X.w) X.A (eval e X.env) (EP X pins σ Q) X.xe s
def PT (X : Cx) (e : Expr) (t : TT) : Prop :=
  ∀ (pins : List (Addr × Obj)) (s : Shared) (σ : St) (H : Hp) (Q : Bool → Hp → Prop), Inv X pins σ H s → t σ H Q → wpAny (model X.prog X.w) X.A (isTrue e X.env (eval e X.env)) (TP X pins σ Q) X.xe s
def PW (X : Cx) (e : Expr) (t : TT) : Prop :=
  ∀ (whole : Sem Value) (pins : List (Addr × Obj)) (s : Shared) (σ : St) (H : Hp) (Q : Bool → Hp → Prop), Inv X pins σ H s → t σ H Q → wpAny (model X.prog X.w) X.A (isTrue e X.env whole) (TP X pins σ Q) X.xe s
theorem PW.pt {X : Cx} {e : Expr} {t : TT} (h : PW X e t) : PT X e t := h _
def PA (X : Cx) (es : List Expr) (t : TA) : Prop :=
  ∀ (pos : Pos) (pins : List (Addr × Obj)) (s : Shared) (σ : St) (H : Hp) (Q : List V → Hp → Prop), Inv X pins σ H s → t σ H Q → wpAny (model X.prog X.w) X.A (spliced (backTo pos (starEach es X.env))) (AP X pins σ Q) X.xe s
def PS (X : Cx) (st : Stmt) (t : TS) : Prop :=
  ∀ (pins : List (Addr × Obj)) (s : Shared) (σ : St) (H : Hp) (D : Ends), Inv X pins σ H s → t D σ H → wpAny (model X.prog X.w) X.A (exec st X.env) (SP X pins D) X.xe s
def PSs (X : Cx) (st : List Stmt) (t : TS) : Prop :=
  ∀ (pins : List (Addr × Obj)) (s : Shared) (σ : St) (H : Hp) (D : Ends), Inv X pins σ H s → t D σ H → wpAny (model X.prog X.w) X.A (execs st X.env) (SP X pins D) X.xe s
theorem thn {α : Type} {t : Sem α} {Q Q' : α → Shared → Prop} {M : Model} {A : Around} {E : Value → Shared → Prop} {s : Shared} (h : wpAny M A t Q E s) (hQ : ∀ a s, Q a s → Q' a s) : wpAny M A t Q' E s := wpAny_mono h hQ fun _ _ x => x
end L2
namespace L2
open PySem PySem.Spec PyProof.Rows
section
variable {X : Cx}
def tVar (i : Nat) : TE := fun σ H Q => ∃ v, σ[i]? = some (some v) ∧ Q v H
def tC (v : V) : TE := fun _ H Q => Q v H
theorem pe_var {i : Nat} {x : Str} {pos : Pos} (hN : X.N[i]? = some x) (hv : Vis X.env.scope x) (hd : (x == ("__debug__" : Str)) = false := by decide) (hcd : (x == ("__classdict__" : Str)) = false := by decide) : PE X (.Name x pos) (tVar i) := by
  intro pins s σ H Q I h
  obtain ⟨v, e, h⟩ := h
  obtain ⟨m, hn, hl⟩ := I.loc
  obtain ⟨u, r, l⟩ := hl i x v hN e hv
  have fin : EP X pins σ Q u s := ⟨v, H, I, r, h⟩
  rcases l with ⟨hk, hm⟩ | ⟨hk, c, hc, hcell⟩
  · exact wpAny_Name (wpAny_loadName_local I.ok.kind hk hn hm fin) hd
  · rcases hk with hk | hk
    · exact wpAny_Name (wpAny_loadName_cell I.ok.kind hk hc hcell fin) hd
    · exact wpAny_Name (wpAny_loadName_free I.ok.kind hk hc hcell fin hcd) hd
theorem pe_int {i j pos} : PE X (.Constant (.int i) j pos) (tC (.int i)) := fun _ _ _ H _ I h => wpAny_Constant_int ⟨.int i, H, I.tok _, ⟨_, rfl⟩, h⟩
theorem pe_bl {b j pos} : PE X (.Constant (.bool b) j pos) (tC (.bl b)) := fun _ _ _ H _ I h => Constant_bool ⟨.bl b, H, I, rfl, h⟩
def Gl (X : Cx) (x : Str) : Prop := X.env.kindOf x = some .globalImplicit
theorem ld_glob {E : Value → Shared → Prop} {pins : List (Addr × Obj)} {s : Shared} {σ : St} {H : Hp} {x : Str} {u : Value} {pos : Pos} {Q : Value → Shared → Prop} (I : Inv X pins σ H s) (hg : Gl X x) (hm : X.mg x = some u) (h : Q u s)
    (hd : (x == ("__debug__" : Str)) = false := by decide) : wpAny (model X.prog X.w) X.A (eval (.Name x pos) X.env) Q E s :=
  Calls.Name_function_global I.ok.kind hg (Calls.loadGlobal_global (by rw [I.ok.glob]; exact I.mod.glob.keeps I.bk) hm h) hd
theorem ld_blt {E : Value → Shared → Prop} {pins : List (Addr × Obj)} {s : Shared} {σ : St} {H : Hp} {x : Str} {u : Value} {pos : Pos} {Q : Value → Shared → Prop} (I : Inv X pins σ H s) (hg : Gl X x) (hm : X.mg x = none) (hv : bootBuiltins x = some u) (h : Q u s)
    (hn : x ≠ "__name__" := by decide) (hd : (x == ("__debug__" : Str)) = false := by decide) : wpAny (model X.prog X.w) X.A (eval (.Name x pos) X.env) Q E s := by
  obtain ⟨mb, h1, h2⟩ := I.mod.blt
  exact Calls.Name_function_global I.ok.kind hg (Calls.loadGlobal_builtin (by rw [I.ok.glob]; exact I.mod.glob.keeps I.bk) hm (by rw [I.ok.blt]; exact h1.keeps I.bk) ((h2 x hn).trans hv) h) hd
theorem pe_bltn {x : Str} {v : V} {u : Value} {pos : Pos} (hg : Gl X x) (hm : X.mg x = none) (hv : bootBuiltins x = some u) (r : RelV v u) (hn : x ≠ "__name__" := by decide) (hd : (x == ("__debug__" : Str)) = false := by decide) : PE X (.Name x pos) (tC v) :=
  fun _ _ _ H _ I h => ld_blt I hg hm hv ⟨v, H, I, r, h⟩ hn hd
variable {a b : Expr} {ta tb : TE} {pos : Pos}
def tB (t : TE) : TT := fun σ H Q => t σ H fun x H1 => ∃ c, x = .bl c ∧ Q c H1
variable {tA tB' : TT} {rest : List Expr}
def tAnd (t u : TT) : TT := fun σ H Q => t σ H fun c H1 => if c = true then u σ H1 Q else Q false H1
def tOr (t u : TT) : TT := fun σ H Q => t σ H fun c H1 => if c = true then Q true H1 else u σ H1 Q
def tNot (t : TT) : TT := fun σ H Q => t σ H fun c H1 => Q (!c) H1
theorem pw_and1 (ha : PT X a tA) : PW X (.BoolOp .And [a] pos) tA := by
  intro wh pins s σ H Q I h
  refine isTrue_and (thn (ha pins s σ H Q I h) fun c s1 e => ?_)
  cases c with
  | true => exact isTrue_and_nil e
  | false => exact e
theorem pw_or1 (ha : PT X a tA) : PW X (.BoolOp .Or [a] pos) tA := by
  intro wh pins s σ H Q I h
  refine isTrue_or (thn (ha pins s σ H Q I h) fun c s1 e => ?_)
  cases c with
  | false => exact isTrue_or_nil e
  | true => exact e
theorem pw_and (ha : PT X a tA) (hb : PW X (.BoolOp .And (b :: rest) pos) tB') : PW X (.BoolOp .And (a :: b :: rest) pos) (tAnd tA tB') := by
  intro wh pins s σ H Q I h
  refine isTrue_and (thn (ha pins s σ H _ I h) fun c s1 ⟨H1, I1, q1⟩ => ?_)
  cases c with
  | true => exact hb wh pins s1 σ H1 Q I1 q1
  | false => exact ⟨H1, I1, q1⟩
theorem pw_or (ha : PT X a tA) (hb : PW X (.BoolOp .Or (b :: rest) pos) tB') : PW X (.BoolOp .Or (a :: b :: rest) pos) (tOr tA tB') := by
  intro wh pins s σ H Q I h
  refine isTrue_or (thn (ha pins s σ H _ I h) fun c s1 ⟨H1, I1, q1⟩ => ?_)
  cases c with
  | true => exact ⟨H1, I1, q1⟩
  | false => exact hb wh pins s1 σ H1 Q I1 q1
theorem pt_not (ha : PT X a tA) : PT X (.UnaryOp .Not a pos) (tNot tA) := by
  intro pins s σ H Q I h
  exact isTrue_not (ha pins s σ H (fun c H1 => Q (!c) H1) I h)
def tAndV (ta tb : TE) : TE := fun σ H Q => ta σ H fun x H1 => ∃ c, x = .bl c ∧ if c = true then tb σ H1 Q else Q (.bl false) H1
def tNotV (ta : TE) : TE := fun σ H Q => ta σ H fun x H1 => ∃ c, x = .bl c ∧ Q (.bl (!c)) H1
theorem pe_one {op} {t : TE} (h : PE X a t) : PE X (.BoolOp op [a] pos) t := fun pins s σ H Q I hw => BoolOp_one (h pins s σ H Q I hw)
theorem pe_and (ha : PE X a ta) (hb : PE X (.BoolOp .And (b :: rest) pos) tb) : PE X (.BoolOp .And (a :: b :: rest) pos) (tAndV ta tb) := by
  intro pins s σ H Q I h
  refine BoolOp_and (thn (ha pins s σ H _ I h) fun v s1 ⟨x, H1, I1, r1, q1⟩ => ?_)
  obtain ⟨c, rfl, q1⟩ := q1
  cases r1
  refine wpAny_truthy_bool ?_
  cases c with
  | true => exact hb pins s1 σ H1 Q I1 q1
  | false => exact ⟨.bl false, H1, I1, rfl, q1⟩
theorem pe_not (ha : PE X a ta) : PE X (.UnaryOp .Not a pos) (tNotV ta) := by
  intro pins s σ H Q I h
  refine UnaryOp_ (thn (ha pins s σ H _ I h) fun v s1 ⟨x, H1, I1, r1, q1⟩ => ?_)
  obtain ⟨c, rfl, q1⟩ := q1
  cases r1
  exact not_of (wpAny_truthy_bool ⟨.bl (!c), H1, I1, rfl, q1⟩)
end
end L2
namespace L2
open PySem PySem.Spec PyProof.Rows
def SqL (K : PySem.W.Frag) (H : Hp) (a : Addr) (xs : List V) : Prop :=
  Rd H a (.lst xs) ∨
    ∃ (o : Obj) (its : Array Value) (n : Nat), K.lookup a = some o ∧ o.cls = .type "list" ∧ o.dict = none ∧ o.data = .seq its n ∧ its.size ≤ sizeLine ∧ Vals xs its.toList
def SqT (K : PySem.W.Frag) (H : Hp) (a : Addr) (xs : List V) : Prop :=
  Rd H a (.tup xs) ∨
    ∃ (o : Obj) (its : Array Value) (n : Nat), K.lookup a = some o ∧ o.cls = .type "tuple" ∧ o.data = .seq its n ∧ its.size ≤ sizeLine ∧ Vals xs its.toList
def absV : Value → Option V
  | .none => some .non
  | .bool b => some (.bl b)
  | .int i _ => some (.int i)
  | .str x _ => some (.str x)
  | .bytes b _ => some (.byt b)
  | .float b _ => some (.flt b)
  | .ref a => some (.ref a)
  | .type n => some (.ty n)
  | _ => none
theorem RelV.abs {x : V} {u : Value} (r : RelV x u) : absV u = some x := by
  cases x with
  | non => cases r; rfl
  | bl _ => cases r; rfl
  | int _ => obtain ⟨t, rfl⟩ := r; rfl
  | str _ => obtain ⟨t, rfl⟩ := r; rfl
  | byt _ => obtain ⟨t, rfl⟩ := r; rfl
  | flt _ => obtain ⟨t, rfl⟩ := r; rfl
  | ref _ => cases r; rfl
  | ty _ => cases r; rfl
theorem RelV.inj {x y : V} {u : Value} (r : RelV x u) (q : RelV y u) : x = y := Option.some.inj (r.abs.symm.trans q.abs)
theorem Vals.inj : ∀ {xs ys : List V} {us : List Value}, Vals xs us → Vals ys us → xs = ys
  | _, _, _, .nil, .nil => rfl
  | _, _, _, .cons r t, .cons r' t' => by rw [r.inj r', Vals.inj t t']
section
variable {X : Cx} {pins : List (Addr × Obj)} {σ : St} {H : Hp} {s : Shared} {a : Addr} {xs ys : List V}
theorem SqL.of {K : PySem.W.Frag} (h : H a = some (.lst xs)) : SqL K H a xs := .inl (.inl h)
theorem SqT.of {K : PySem.W.Frag} (h : H a = some (.tup xs)) : SqT K H a xs := .inl (.inl h)
theorem Inv.list (I : Inv X pins σ H s) (h : SqL X.K H a xs) : ∃ its : List Value, Vals xs its ∧ PlainL s.heap a its.toArray ∧ xs.length ≤ sizeLine := by
  rcases h with h | ⟨o, its, n, hk, hc, hd, hs, hz, r⟩
  · obtain ⟨z, its, n, r, e⟩ := h.ok I.hok
    exact ⟨its, r, ⟨_, n, e, rfl, rfl, rfl⟩, z⟩
  · refine ⟨its.toList, r, ⟨o, n, I.kIn a o hk, hc, hd, by simpa using hs⟩, ?_⟩
    have e := r.length
    simp only [Array.length_toList] at e
    omega
theorem Inv.tuple (I : Inv X pins σ H s) (h : SqT X.K H a xs) : ∃ its : List Value, Vals xs its ∧ IsTup s.heap a its.toArray ∧ xs.length ≤ sizeLine := by
  rcases h with h | ⟨o, its, n, hk, hc, hs, hz, r⟩
  · obtain ⟨z, its, r, p⟩ := h.ok I.hok
    exact ⟨its, r, p, z⟩
  · refine ⟨its.toList, r, ⟨o, I.kIn a o hk, hc, n, by simpa using hs⟩, ?_⟩
    have e := r.length
    simp only [Array.length_toList] at e
    omega
end
abbrev Cx.wish (X : Cx) (E : Value → Shared → Prop) : Cx := { X with xe := E }
abbrev Cx.nox (X : Cx) : Cx := X.wish fun _ _ => False
theorem Cx.Ok.wish {X : Cx} (ok : X.Ok) (E : Value → Shared → Prop) : (X.wish E).Ok :=
  ⟨ok.mod, ok.kind, ok.glob, ok.blt, ok.above, ok.inj, ok.has, ok.cab, ok.hd, ok.frames, ok.stk, ok.exf, ok.bs, ok.bsz, ok.noex, ok.exfs, ok.funs, ok.frf⟩
theorem Cx.Ok.unwish {X : Cx} {E : Value → Shared → Prop} (ok : (X.wish E).Ok) : X.Ok :=
  ⟨ok.mod, ok.kind, ok.glob, ok.blt, ok.above, ok.inj, ok.has, ok.cab, ok.hd, ok.frames, ok.stk, ok.exf, ok.bs, ok.bsz, ok.noex, ok.exfs, ok.funs, ok.frf⟩
section
variable {X : Cx} {pins : List (Addr × Obj)} {σ : St} {H : Hp} {s : Shared} {E : Value → Shared → Prop}
theorem Inv.wish (I : Inv X pins σ H s) (E : Value → Shared → Prop) : Inv (X.wish E) pins σ H s := ⟨I.ok.wish E, I.os, I.bare, I.base, I.loc, I.cell, I.free, I.freeC, I.pin, I.hok, I.len⟩
theorem Inv.unwish (I : Inv (X.wish E) pins σ H s) : Inv X pins σ H s := ⟨I.ok.unwish, I.os, I.bare, I.base, I.loc, I.cell, I.free, I.freeC, I.pin, I.hok, I.len⟩
theorem SP.unwish {D : Ends} {f : Flow} {s' : Shared} (h : SP (X.wish E) pins D f s') : SP X pins D f s' := by
  cases f with
  | next => obtain ⟨σ', H', I, q⟩ := h; exact ⟨σ', H', I.unwish, q⟩
  | brk => obtain ⟨σ', H', I, q⟩ := h; exact ⟨σ', H', I.unwish, q⟩
  | cont => obtain ⟨σ', H', I, q⟩ := h; exact ⟨σ', H', I.unwish, q⟩
  | ret u => obtain ⟨v, σ', H', I, r, q⟩ := h; exact ⟨v, σ', H', I.unwish, r, q⟩
theorem PE.nox {e : Expr} {t : TE} (h : PE X.nox e t) : PE X e t := fun pins s σ H Q I hw =>
  wpAny_mono (h pins s σ H Q (I.wish _) hw) (fun _ _ ⟨v, H', I', r, q⟩ => ⟨v, H', I'.unwish, r, q⟩) fun _ _ z => False.elim z
theorem PT.nox {e : Expr} {t : TT} (h : PT X.nox e t) : PT X e t := fun pins s σ H Q I hw =>
  wpAny_mono (h pins s σ H Q (I.wish _) hw) (fun _ _ ⟨H', I', q⟩ => ⟨H', I'.unwish, q⟩) fun _ _ z => False.elim z
theorem PSs.nox {st : List Stmt} {t : TS} (h : PSs X.nox st t) : PSs X st t := fun pins s σ H D I hw =>
  wpAny_mono (h pins s σ H D (I.wish _) hw) (fun _ _ q => q.unwish) fun _ _ z => False.elim z
end
section
variable {X : Cx} {st : Stmt} {rest : List Stmt} {t u : TS} {e : Expr} {te : TE} {pos : Pos}
def tNext : TS := fun D σ H => D.nx σ H
def tSeq (t u : TS) : TS := fun D σ H => t { D with nx := u D } σ H
theorem pss_nil : PSs X [] tNext := fun _ _ σ H _ I h => wpAny_execs_nil ⟨σ, H, I, h⟩
theorem pss_cons (h1 : PS X st t) (h2 : PSs X rest u) : PSs X (st :: rest) (tSeq t u) := by
  intro pins s σ H D I h
  refine wpAny_execs_cons (thn (h1 pins s σ H { D with nx := u D } I h) fun f s1 q => ?_)
  cases f with
  | next =>
    obtain ⟨σ', H', I', q⟩ := q
    exact h2 pins s1 σ' H' D I' q
  | ret v => exact q
  | brk => exact q
  | cont => exact q
theorem pss_one (h1 : PS X st t) : PSs X [st] t := by
  intro pins s σ H D I h
  refine wpAny_execs_cons (thn (h1 pins s σ H D I h) fun f s1 q => ?_)
  cases f with
  | next => exact wpAny_execs_nil q
  | ret v => exact q
  | brk => exact q
  | cont => exact q
theorem Inv.quiet {pins : List (Addr × Obj)} {σ : St} {H : Hp} {s : Shared} (I : Inv X pins σ H s) : interactive X.env = false := by simp [interactive, I.ok.kind]
def tDrop (te : TE) : TS := fun D σ H => te σ H fun _ H1 => D.nx σ H1
theorem ps_expr (he : PE X e te) (hs : swapsWith e none pos.line X.env = pure false := by rfl) : PS X (.Expr e pos) (tDrop te) := by
  intro pins s σ H D I h
  exact wpAny_Expr_any (thn (he pins s σ H _ I h) fun v s1 ⟨x, H1, I1, r1, q1⟩ => ⟨σ, H1, I1, q1⟩) I.quiet hs
def tRet (te : TE) : TS := fun D σ H => te σ H D.rt
theorem ps_ret (he : PE X e te) : PS X (.Return (some e) pos) (tRet te) := by
  intro pins s σ H D I h
  exact wpAny_Return_some (thn (he pins s σ H _ I h) fun v s1 ⟨x, H1, I1, r1, q1⟩ => ⟨x, σ, H1, I1, r1, q1⟩)
def tIfS (c : TT) (t u : TS) : TS := fun D σ H => c σ H fun b H1 => if b = true then t D σ H1 else u D σ H1
theorem ps_if {c : Expr} {a b : List Stmt} {tc : TT} (hc : PT X c tc) (ha : PSs X a t) (hb : PSs X b u) : PS X (.If c a b pos) (tIfS tc t u) := by
  intro pins s σ H D I h
  refine wpAny_If (thn (hc pins s σ H _ I h) fun d s1 ⟨H1, I1, q1⟩ => ?_)
  cases d with
  | true => exact ha pins s1 σ H1 D I1 q1
  | false => exact hb pins s1 σ H1 D I1 q1
end
abbrev TG := V → St → Hp → (St → Hp → Prop) → Prop
abbrev TGs := List V → St → Hp → (St → Hp → Prop) → Prop
def PG (X : Cx) (target : Expr) (t : TG) : Prop :=
  ∀ (pins : List (Addr × Obj)) (s : Shared) (σ : St) (H : Hp) (v : V) (u : Value) (Q : St → Hp → Prop), Inv X pins σ H s → RelV v u → t v σ H Q →
    wpAny (model X.prog X.w) X.A (assign target X.env u) (fun _ s' => ∃ σ' H', Inv X pins σ' H' s' ∧ Q σ' H') X.xe s
def PGs (X : Cx) (ts : List Expr) (t : TGs) : Prop :=
  ∀ (pins : List (Addr × Obj)) (s : Shared) (σ : St) (H : Hp) (vs : List V) (us : List Value) (Q : St → Hp → Prop), Inv X pins σ H s → Vals vs us → t vs σ H Q →
    wpAny (model X.prog X.w) X.A (assignInOrder ((assignEach ts X.env).map (·.2)) us) (fun _ s' => ∃ σ' H', Inv X pins σ' H' s' ∧ Q σ' H') X.xe s
section
variable {X : Cx} {pos : Pos}
def gName (i : Nat) : TG := fun v σ H Q => Q (σ.set i (some v)) H
theorem pg_name {i : Nat} {x : Str} (hN : X.N.Nodup) (hi : X.N[i]? = some x) (hx : Loc X.env.scope x) (hf : X.fn x = true ∨ X.env.scope.names.lookup x = some .local := by first | exact .inl rfl | exact .inr rfl | assumption) : PG X (.Name x pos) (gName i) := by
  intro pins s σ H v u Q I r h
  exact wpAny_assign_Name (store_ok I hN hi hx r (fun s' I' => ⟨_, H, I', h⟩) hf)
def tAsg (te : TE) (g : TG) : TS := fun D σ H => te σ H fun x H1 => g x σ H1 D.nx
theorem ps_set {i : Nat} {x : Str} {e : Expr} {te : TE} {pos' : Pos} (hN : X.N.Nodup) (hi : X.N[i]? = some x) (hx : Loc X.env.scope x) (he : PE X e te) (hs : swapsWith e (some (.Name x pos')) pos.line X.env = pure false := by rfl) (hf : X.fn x = true ∨ X.env.scope.names.lookup x = some .local := by first | exact .inl rfl | exact .inr rfl | assumption) :
    PS X (.Assign [.Name x pos'] e pos) (tAsg te (gName i)) := by
  intro pins s σ H D I h
  refine wpAny_Assign_Name (thn (he pins s σ H _ I h) fun v s1 ⟨y, H1, I1, r1, q1⟩ => ?_) hs
  exact store_ok I1 hN hi hx r1 (fun s2 I2 => ⟨_, H1, I2, q1⟩) hf
def PGet (X : Cx) (t : V → V → Hp → VK → Prop) : Prop :=
  ∀ (pins : List (Addr × Obj)) (s : Shared) (σ : St) (H : Hp) (o i : V) (ov iv : Value) (Q : VK), Inv X pins σ H s → RelV o ov → RelV i iv → t o i H Q →
    wpAny (model X.prog X.w) X.A (getItem ov iv) (EP X pins σ Q) X.xe s
end
section
variable {X : Cx} {pos : Pos}
end
structure It where
  go : Nat → Hp → Prop
  yld : Nat → Hp → V → Hp → Prop
  stop : Nat → Hp → Prop
def FpOk (X : Cx) (pins : List (Addr × Obj)) (H : Hp) (b : Addr) : Prop :=
  H b = none ∧ b ≠ X.env.locals ∧ b ∉ X.fs ∧ (b ∈ X.ex ∨ X.s₀.heap.objs.size ≤ b) ∧ (∀ x c, X.env.cells.lookup x = some c → c ≠ b) ∧ ∀ p ∈ X.pn ++ pins, p.1 ≠ b
theorem Inv.fpOk {X : Cx} {pins : List (Addr × Obj)} {σ : St} {H H' : Hp} {s : Shared} {b : Addr} (I : Inv X pins σ H s) (hb : s.heap.objs.size ≤ b) (hn : H' b = none) : FpOk X pins H' b := by
  refine ⟨hn, Nat.ne_of_gt (Nat.lt_of_lt_of_le I.lt hb), I.nofs hb, .inr (Nat.le_trans I.sz hb), fun x c e z => ?_, fun p hp z => ?_⟩
  · obtain ⟨v, q⟩ := I.cell x c e
    exact absurd (Nat.lt_of_lt_of_le q.lt (by rw [z]; exact hb)) (Nat.lt_irrefl _)
  · exact absurd (Nat.lt_of_lt_of_le (Heap.lt_size (I.pin p hp).1) (by rw [z]; exact hb)) (Nat.lt_irrefl _)
structure Turn (P : Program) (w : World) (K : PySem.W.Frag) (tg : Expr) (J : It) (fp : List Addr) (it : Addr) (tn : Nat → Heap → Prop) : Prop where
  mem : it ∈ fp
  obj : ∀ i h, tn i h → ∀ b ∈ fp, ∃ o, h.get? b = some o ∧ ∀ v, o.data ≠ .cell v
  keep : ∀ i h h', tn i h → (∀ b ∈ fp, ∀ o, h.get? b = some o → h'.get? b = some o) → tn i h'
  item : ∀ (X : Cx), X.prog = P → X.w = w → X.K = K → X.calm = true → ∀ (i : Nat) (pins : List (Addr × Obj)) (s : Shared) (σ : St) (H : Hp) (E : Value → Shared → Prop), Inv X pins σ H s → (∀ b ∈ fp, FpOk X pins H b) → tn i s.heap → J.go i H →
    wpAny (model P w) X.A (pyNext (.ref it)) (fun r s1 => ∃ u, r = some u ∧
      wpAny (model P w) X.A (letOwnedTupleGo tg (.ref it) u) (fun _ s2 => ∃ x H', Inv X pins σ H' s2 ∧ RelV x u ∧ J.yld i H x H' ∧ tn (i + 1) s2.heap ∧ ∀ b ∈ fp, H' b = none) E s1) E s
  done : ∀ (X : Cx), X.prog = P → X.w = w → X.K = K → X.calm = true → ∀ (i : Nat) (pins : List (Addr × Obj)) (s : Shared) (σ : St) (H : Hp) (E : Value → Shared → Prop), Inv X pins σ H s → (∀ b ∈ fp, FpOk X pins H b) → tn i s.heap → J.stop i H →
    wpAny (model P w) X.A (pyNext (.ref it)) (fun r s1 => r = none ∧ Inv X pins σ H s1) E s
  self : ∀ (A : Around) (i : Nat) (s : Shared) (Q : Value → Shared → Prop) (E : Value → Shared → Prop), tn i s.heap → Q (.ref it) s → wpAny (model P w) A (pyIter (.ref it)) Q E s
abbrev TI := St → Hp → (It → Hp → Prop) → Prop
def PIE (X : Cx) (pins : List (Addr × Obj)) (σ : St) (tg : Expr) (R : It → Hp → Prop) (itv : Value) (s2 : Shared) : Prop :=
  ∃ (it : Addr) (fp : List Addr) (tn : Nat → Heap → Prop) (J : It) (H' : Hp), itv = .ref it ∧ Inv X pins σ H' s2 ∧ Turn X.prog X.w X.K tg J fp it tn ∧ tn 0 s2.heap ∧ (∀ b ∈ fp, FpOk X pins H' b) ∧ R J H'
def PI (X : Cx) (tg iter : Expr) (wi : TI) : Prop :=
  ∀ (pins : List (Addr × Obj)) (s : Shared) (σ : St) (H : Hp) (R : It → Hp → Prop), Inv X pins σ H s → wi σ H R →
    wpAny (model X.prog X.w) X.A (eval iter X.env) (fun v s1 => wpAny (model X.prog X.w) X.A (pyIter v) (PIE X pins σ tg R) X.xe s1) X.xe s
theorem go_of {M : Model} {A : Around} {E : Value → Shared → Prop} {s : Shared} {tg : Expr} {it : Addr} {u : Value} {o : Obj} {n : String} {vs : Array Value} {Q : Unit → Shared → Prop} (ho : s.heap.get? it = some o) (hc : o.cls = .type n) (hd : o.data = .fields vs)
    (hn : ["enumerate", "zip", "dict_itemiterator", "dict_reverseitemiterator", "odict_iterator", "itertools.zip_longest", "itertools.pairwise"].contains n = false) (hQ : Q () s) : wpAny M A (letOwnedTupleGo tg (.ref it) u) Q E s := by
  unfold letOwnedTupleGo
  cases tg <;> first
    | exact wpAny_pure hQ
    | (cases u <;> first
        | exact wpAny_pure hQ
        | (refine wpAny_bind (wpAny_load ho ?_)
           rw [hc, hd]
           show wpAny M A (if (["enumerate", "zip", "dict_itemiterator", "dict_reverseitemiterator", "odict_iterator", "itertools.zip_longest", "itertools.pairwise"].contains n && vs[0]? == some (rawInt _)) = true then _ else _) Q E s
           rw [if_neg (by intro h; rw [hn, Bool.false_and] at h; cases h)]
           exact wpAny_pure hQ))
def Itr (lo : Int) (n : Nat) : It := ⟨fun i _ => i < n, fun i H x H' => H' = H ∧ x = .int (lo + i), fun i _ => n ≤ i⟩
theorem turn_range {P : Program} {w : World} {K : PySem.W.Frag} {tg : Expr} (it : Addr) (lo : Int) (n : Nat) : Turn P w K tg (Itr lo n) [it] it (fun i h => IsRangeIter h it (lo + (i : Nat) * 1) ((n : Int) - (i : Nat)) 1) where
  mem := by simp
  obj := fun i h st b hb => by
    have e : b = it := by simpa using hb
    subst e
    exact ⟨_, st, fun v z => by
      have z' : Data.fields _ = Data.cell v := z
      cases z'⟩
  keep := fun i h h' st k => k it (by simp) _ st
  item := by
    intro X hP hw hK hc i pins s σ H E I hf st hg
    subst hP hw hK
    obtain ⟨f0, f1, f2, f3, f4, f5⟩ := hf it (by simp)
    have W := Walks.range (prog := X.prog) (w := X.w) (I.ok.hd hc) it lo 1 n
    refine W.item i s _ _ hg st fun v h' tk hv st' kk => ?_
    obtain ⟨t, rfl⟩ := hv
    have I1 : Inv X pins σ H { s with heap := h', toks := tk } := I.turned (fun b o hb e => kk b o (by simpa using hb) e) f0 f1 f3 f4 f5
    refine ⟨_, rfl, go_of (s := { s with heap := h', toks := tk }) (n := "range_iterator") st' rfl rfl (by decide) ⟨.int (lo + i), H, I1, ⟨t, ?_⟩, ⟨rfl, rfl⟩, st', fun b hb => (hf b hb).1⟩⟩
    rw [Int.mul_one]
  done := by
    intro X hP hw hK hc i pins s σ H E I hf st hg
    subst hP hw hK
    obtain ⟨f0, f1, f2, f3, f4, f5⟩ := hf it (by simp)
    exact wpAny_pyNext_range_end (I.ok.hd hc) st (by have : n ≤ i := hg; omega) fun h' eb => ⟨rfl, I.turned (t' := s.toks) (fun b o hb e => eb b o hb e) f0 f1 f3 f4 f5⟩
  self := fun _ _ _ _ _ st h => wpAny_pyIter_rangeiter st h
end L2
namespace L2
open PySem PySem.Spec PyProof.Rows
section
variable {X : Cx} {tg : Expr}
theorem range_it {pins : List (Addr × Obj)} {σ : St} {H : Hp} {s : Shared} {R : It → Hp → Prop} {E : Value → Shared → Prop} {lo hi : Int} {t u v : Tok} {tk : Nat} (I : Inv X pins σ H s) (h1 : -(2 ^ 62) ≤ lo) (h2 : lo < 2 ^ 62) (h3 : -(2 ^ 62) ≤ hi) (h4 : hi < 2 ^ 62)
    (q : R (Itr lo (hi - lo).toNat) H) : wpAny (model X.prog X.w) X.A (pyIter (.ref s.heap.objs.size)) (PIE X pins σ tg R) E { s with heap := s.heap.push { cls := .type "range", data := .fields #[.int lo t, .int hi u, .int 1 v] }, toks := tk } := by
  refine wpAny_pyIter_range (IsRange.new ..) (small_one h1 h2 h3 h4) ?_
  have I1 : Inv X pins σ H { s with heap := s.heap.push { cls := .type "range", data := .fields #[.int lo t, .int hi u, .int 1 v] }, toks := tk } := I.kept fun b o e => Heap.get?_push_of_some _ e
  refine ⟨(s.heap.push { cls := .type "range", data := .fields #[.int lo t, .int hi u, .int 1 v] }).objs.size, [(s.heap.push { cls := .type "range", data := .fields #[.int lo t, .int hi u, .int 1 v] }).objs.size], _, _, H, rfl,
    I1.kept (t' := tk) fun b o e => Heap.get?_push_of_some _ e, turn_range _ lo (hi - lo).toNat, ?_, fun b hb => ?_, q⟩
  · have e1 : lo + ((0 : Nat) : Int) * 1 = lo := by simp
    have e2 : (((hi - lo).toNat : Nat) : Int) - ((0 : Nat) : Int) = Builtin.Range.rangeSize lo hi 1 := by rw [rangeSize_one]; split <;> omega
    show IsRangeIter _ _ (lo + ((0 : Nat) : Int) * 1) ((((hi - lo).toNat : Nat) : Int) - ((0 : Nat) : Int)) 1
    rw [e1, e2]
    exact Heap.get?_push_size _ rfl
  · have e : b = (s.heap.push { cls := .type "range", data := .fields #[.int lo t, .int hi u, .int 1 v] }).objs.size := by simpa using hb
    subst e
    exact I1.fpOk (Nat.le_refl _) (I1.hok.fresh (Nat.le_refl _))
def iRng1 (ta : TA) : TI := fun σ H R => ta σ H fun vs H1 => ∃ j : Int, vs = [.int j] ∧ -(2 ^ 62) ≤ j ∧ j < 2 ^ 62 ∧ R (Itr 0 j.toNat) H1
def iRng2 (ta : TA) : TI := fun σ H R => ta σ H fun vs H1 => ∃ i j : Int, vs = [.int i, .int j] ∧ (-(2 ^ 62) ≤ i ∧ i < 2 ^ 62 ∧ -(2 ^ 62) ≤ j ∧ j < 2 ^ 62) ∧ R (Itr i (j - i).toNat) H1
theorem pi_range1 {a : Expr} {ta : TA} {p pos : Pos} (hg : Gl X "range") (hm : X.mg "range" = none) (ha : PA X [a] ta) (hs : starEach [a] X.env = [(false, eval a X.env)] := by rfl) : PI X tg (.Call (.Name "range" p) [a] [] pos) (iRng1 ta) := by
  intro pins s σ H R I h
  refine Call_ (ld_blt I hg hm boot_range (PyProof.Rows.callWith_type1 (thn (ha pos pins s σ H _ I h) fun us s1 ⟨vs, H1, I1, r1, q1⟩ => ?_) hs rfl))
  obtain ⟨j, e, q1, q2, q⟩ := q1
  subst e
  cases r1 with
  | cons r rr =>
    cases rr
    obtain ⟨t, rfl⟩ := r
    exact call_range_1 (range_it I1 (by omega) (by omega) q1 q2 (by simpa using q))
theorem pi_range2 {a b : Expr} {ta : TA} {p pos : Pos} (hg : Gl X "range") (hm : X.mg "range" = none) (ha : PA X [a, b] ta) (hs : starEach [a, b] X.env = [(false, eval a X.env), (false, eval b X.env)] := by rfl) (hs2 : starEach [b] X.env = [(false, eval b X.env)] := by rfl) :
    PI X tg (.Call (.Name "range" p) [a, b] [] pos) (iRng2 ta) := by
  intro pins s σ H R I h
  refine Call_ (ld_blt I hg hm boot_range (PyProof.Rows.callWith_type1 (thn (ha pos pins s σ H _ I h) fun us s1 ⟨vs, H1, I1, r1, q1⟩ => ?_) (by rw [hs, hs2]) (by rw [hs2]; rfl)))
  obtain ⟨i, j, e, ⟨q1, q2, q3, q4⟩, q⟩ := q1
  subst e
  cases r1 with
  | cons r rr =>
    cases rr with
    | cons r' rr =>
      cases rr
      obtain ⟨t, rfl⟩ := r
      obtain ⟨t', rfl⟩ := r'
      exact call_range_2 (range_it I1 q1 q2 q3 q4 q)
def tFor (wi : TI) (g : TG) (tb : TS) : TS := fun D σ H => wi σ H fun J H1 => ∃ W : Nat → Nat → St → Hp → Prop, (∃ m, W 0 m σ H1) ∧ ∀ i m σ H, W i m σ H →
  (J.stop i H ∧ D.nx σ H) ∨ (J.go i H ∧ ∃ N : St → Hp → Prop, (∀ σ' H', N σ' H' → ∃ m', m' < m ∧ W (i + 1) m' σ' H') ∧ ∀ x H', J.yld i H x H' → g x σ H' fun σ2 H2 => tb { D with nx := N, ct := N, bk := D.nx } σ2 H2)
def pinsAt (fp : List Addr) (h : Heap) : List (Addr × Obj) := fp.filterMap fun b => (h.get? b).map fun o => (b, o)
theorem mem_pinsAt {fp : List Addr} {h : Heap} {b : Addr} {o : Obj} (hb : b ∈ fp) (e : h.get? b = some o) : (b, o) ∈ pinsAt fp h := List.mem_filterMap.mpr ⟨b, hb, by rw [e]; rfl⟩
theorem of_pinsAt {fp : List Addr} {h : Heap} {p : Addr × Obj} (hp : p ∈ pinsAt fp h) : p.1 ∈ fp ∧ h.get? p.1 = some p.2 := by
  obtain ⟨b, hb, e⟩ := List.mem_filterMap.mp hp
  cases q : h.get? b with
  | none => rw [q] at e; cases e
  | some o =>
    rw [q] at e
    have e' : (b, o) = p := Option.some.inj e
    subst e'
    exact ⟨hb, q⟩
theorem Inv.pinned {pins : List (Addr × Obj)} {σ : St} {H : Hp} {s : Shared} {fp : List Addr} (I : Inv X pins σ H s) (hf : ∀ b ∈ fp, FpOk X pins H b) (ho : ∀ b ∈ fp, ∃ o, s.heap.get? b = some o ∧ ∀ v, o.data ≠ .cell v) : Inv X (pins ++ pinsAt fp s.heap) σ H s :=
  I.pins_of fun p hp => (List.mem_append.mp hp).elim (fun z => I.pin p (List.mem_append_right _ z)) fun z => by
    obtain ⟨hb, e⟩ := of_pinsAt z
    obtain ⟨f0, f1, f2, _⟩ := hf p.1 hb
    obtain ⟨o, e', d⟩ := ho p.1 hb
    rw [e] at e'; cases e'
    exact ⟨e, f0, f1, f2, d⟩
theorem Inv.unpinned {pins pl : List (Addr × Obj)} {σ : St} {H : Hp} {s : Shared} (I : Inv X (pins ++ pl) σ H s) : Inv X pins σ H s := I.pins_of fun p hp => I.pin p (List.mem_append_right _ (List.mem_append_left _ hp))
theorem ps_for {iter : Expr} {body : List Stmt} {wi : TI} {g : TG} {tb : TS} {pos : Pos} (hp : PassesOwn (model X.prog X.w) X.A X.env X.xe) (hc : X.calm = true) (hi : PI X tg iter wi) (hg : PG X tg g) (hb : PSs X body tb)
    (hs : ∀ x, foldedSetIterable iter X.env x = pure x := by intro _; rfl) : PS X (.For tg iter body [] pos) (tFor wi g tb) := by
  intro pins s σ H D I h
  refine wpAny_For (thn (hi pins s σ H _ I h) fun v s1 h1 => thn h1 fun itv s2 h2 => ?_) hs
  obtain ⟨it, fp, tn, J, H2, e, I2, T, st2, f2, W, ⟨m0, w0⟩, turn⟩ := h2
  subst e
  have stat : ∀ {H' : Hp}, (∀ b ∈ fp, H' b = none) → ∀ b ∈ fp, FpOk X pins H' b := fun hn b hb => ⟨hn b hb, (f2 b hb).2⟩
  refine codeAny_forLoop_any (fun n s' => ∃ i σ' H', Inv X pins σ' H' s' ∧ tn i s'.heap ∧ (∀ b ∈ fp, H' b = none) ∧ W i n σ' H') ?_ m0 ⟨0, σ, H2, I2, st2, fun b hb => (f2 b hb).1, w0⟩
  rintro n s3 ⟨i, σ3, H3, I3, st3, fr3, w3⟩
  rcases turn i n σ3 H3 w3 with ⟨stop, qn⟩ | ⟨go, N, hN, step⟩
  · refine wpAny_passesOwn hp (thn (T.done X rfl rfl rfl hc i pins s3 σ3 H3 X.xe I3 (stat fr3) st3 stop) fun r s4 ⟨hr, I4⟩ => ?_)
    subst hr
    exact wpAny_execs_nil ⟨σ3, H3, I4, qn⟩
  · refine wpAny_passesOwn hp (thn (T.item X rfl rfl rfl hc i pins s3 σ3 H3 X.xe I3 (stat fr3) st3 go) fun r s4 ⟨u, hr, h4⟩ => ?_)
    subst hr
    refine wpAny_passesOwn hp (thn h4 fun _ s5 ⟨x, H5, I5, r5, y5, st5, fr5⟩ => ?_)
    have I5' := I5.pinned (stat fr5) (T.obj _ _ st5)
    refine wpAny_passesOwn hp (thn (hg _ s5 σ3 H5 x u _ I5' r5 (step x H5 y5)) fun _ s6 ⟨σ6, H6, I6, q6⟩ => ?_)
    refine wpAny_passesOwn hp (thn (hb _ s6 σ6 H6 _ I6 q6) fun f s7 q7 => ?_)
    have again : ∀ {σ7 : St} {H7 : Hp}, Inv X (pins ++ pinsAt fp s5.heap) σ7 H7 s7 → N σ7 H7 → ∃ m, m < n ∧ ∃ i σ' H', Inv X pins σ' H' s7 ∧ tn i s7.heap ∧ (∀ b ∈ fp, H' b = none) ∧ W i m σ' H' := fun {σ7 H7} I7 n7 => by
      obtain ⟨m', hm, w7⟩ := hN σ7 H7 n7
      refine ⟨m', hm, i + 1, σ7, H7, I7.unpinned, T.keep _ _ _ st5 fun b hb o e => (I7.pin (b, o) (List.mem_append_right _ (List.mem_append_right _ (mem_pinsAt hb e)))).1, fun b hb => ?_, w7⟩
      obtain ⟨o, e, d⟩ := T.obj _ _ st5 b hb
      exact (I7.pin (b, o) (List.mem_append_right _ (List.mem_append_right _ (mem_pinsAt hb e)))).2.1
    cases f with
    | next => obtain ⟨σ7, H7, I7, n7⟩ := q7; exact again I7 n7
    | cont => obtain ⟨σ7, H7, I7, n7⟩ := q7; exact again I7 n7
    | brk => obtain ⟨σ7, H7, I7, q7⟩ := q7; exact ⟨σ7, H7, I7.unpinned, q7⟩
    | ret v => obtain ⟨x7, σ7, H7, I7, r7, q7⟩ := q7; exact ⟨x7, σ7, H7, I7.unpinned, r7, q7⟩
end
theorem for_range {lo : Int} {n : Nat} {g : TG} {tb : TS} {D : Ends} {σ : St} {H : Hp} (Pv : Nat → St → Hp → Prop) (h0 : Pv 0 σ H)
    (hs : ∀ i σ H, i < n → Pv i σ H → g (.int (lo + i)) σ H fun σ2 H2 => tb { D with nx := Pv (i + 1), ct := Pv (i + 1), bk := D.nx } σ2 H2) (hd : ∀ σ H, Pv n σ H → D.nx σ H) :
    ∃ W : Nat → Nat → St → Hp → Prop, (∃ m, W 0 m σ H) ∧ ∀ i m σ H, W i m σ H →
      ((Itr lo n).stop i H ∧ D.nx σ H) ∨ ((Itr lo n).go i H ∧ ∃ N : St → Hp → Prop, (∀ σ' H', N σ' H' → ∃ m', m' < m ∧ W (i + 1) m' σ' H') ∧ ∀ x H', (Itr lo n).yld i H x H' → g x σ H' fun σ2 H2 => tb { D with nx := N, ct := N, bk := D.nx } σ2 H2) := by
  refine ⟨fun i m σ H => m = n - i ∧ i ≤ n ∧ Pv i σ H, ⟨n, by simp, Nat.zero_le _, h0⟩, ?_⟩
  rintro i m σ H ⟨rfl, hi, p⟩
  by_cases hlt : i < n
  · refine .inr ⟨hlt, Pv (i + 1), fun σ' H' p' => ⟨n - (i + 1), by omega, rfl, hlt, p'⟩, fun x H' y => ?_⟩
    obtain ⟨e, y⟩ := y
    subst e y
    exact hs i σ _ hlt p
  · have e : i = n := by omega
    subst e
    exact .inl ⟨Nat.le_refl _, hd σ H p⟩
end L2
namespace L2
open PySem PySem.Spec PyProof.Rows
abbrev R2 := V → V → Hp → VK → Prop
def OpR (X : Cx) (f : Value → Value → Sem Value) (r : R2) : Prop :=
  ∀ (pins : List (Addr × Obj)) (s : Shared) (σ : St) (H : Hp) (x y : V) (v u : Value) (Q : VK), Inv X pins σ H s → RelV x v → RelV y u → r x y H Q →
    wpAny (model X.prog X.w) X.A (f v u) (EP X pins σ Q) X.xe s
def CallR (X : Cx) (f : Value) (r : List V → Hp → VK → Prop) : Prop :=
  ∀ (pins : List (Addr × Obj)) (s : Shared) (σ : St) (H : Hp) (xs : List V) (us : List Value) (Q : VK), Inv X pins σ H s → Vals xs us → r xs H Q →
    wpAny (model X.prog X.w) X.A (call f us) (EP X pins σ Q) X.xe s
def TruR (X : Cx) (r : V → Hp → (Bool → Hp → Prop) → Prop) : Prop :=
  ∀ (pins : List (Addr × Obj)) (s : Shared) (σ : St) (H : Hp) (x : V) (v : Value) (Q : Bool → Hp → Prop), Inv X pins σ H s → RelV x v → r x H Q →
    wpAny (model X.prog X.w) X.A (truthy v) (TP X pins σ Q) X.xe s
def tOp (r : R2) (ta tb : TE) : TE := fun σ H Q => ta σ H fun x H1 => tb σ H1 fun y H2 => r x y H2 Q
def rI (C : Int → Int → Prop) (g : Int → Int → V) : R2 := fun x y H Q => ∃ i j, x = .int i ∧ y = .int j ∧ C i j ∧ Q (g i j) H
def rI0 (g : Int → Int → V) : R2 := fun x y H Q => ∃ i j, x = .int i ∧ y = .int j ∧ Q (g i j) H
section
variable {X : Cx} {a b c : Expr} {ta tb tc : TE} {pos : Pos}
theorem binT (ha : PE X a ta) (hb : PE X b tb) {pins : List (Addr × Obj)} {s : Shared} {σ : St} {H : Hp} {R : V → V → Hp → Prop} (I : Inv X pins σ H s)
    (h : ta σ H fun x H1 => tb σ H1 fun y H2 => R x y H2) {Q : Value → Shared → Prop} {f : Value → Value → Sem Value}
    (hf : ∀ v u s2 x y H2, Inv X pins σ H2 s2 → RelV x v → RelV y u → R x y H2 → wpAny (model X.prog X.w) X.A (f v u) Q X.xe s2) :
    wpAny (model X.prog X.w) X.A (eval a X.env) (fun v s₁ => wpAny (model X.prog X.w) X.A (eval b X.env) (fun u s₂ => wpAny (model X.prog X.w) X.A (f v u) Q X.xe s₂) X.xe s₁) X.xe s := by
  refine thn (ha pins s σ H _ I h) fun v s1 ⟨x, H1, I1, r1, q1⟩ => ?_
  refine thn (hb pins s1 σ H1 _ I1 q1) fun u s2 ⟨y, H2, I2, r2, q2⟩ => ?_
  exact hf v u s2 x y H2 I2 r1 r2 q2
theorem pe_op {op : Operator} {r : R2} (ho : OpR X (binaryOp op) r) (ha : PE X a ta) (hb : PE X b tb) : PE X (.BinOp a op b pos) (tOp r ta tb) := by
  intro pins s σ H Q I h
  exact wpAny_BinOp (binT ha hb I h fun v u s2 x y H2 I2 rx ry q => ho pins s2 σ H2 x y v u Q I2 rx ry q)
theorem opI {f : Value → Value → Sem Value} {C : Int → Int → Prop} {g : Int → Int → Int}
    (rule : ∀ (i j : Int) (t u : Tok) (s : Shared) (Q : Value → Shared → Prop) (E : Value → Shared → Prop), C i j → Q (.int (g i j) s.toks) { s with toks := s.toks + 1 } → wpAny (model X.prog X.w) X.A (f (.int i t) (.int j u)) Q E s) :
    OpR X f (rI C fun i j => .int (g i j)) := by
  intro pins s σ H x y v u Q I rx ry h
  obtain ⟨i, j, rfl, rfl, hc, q⟩ := h
  obtain ⟨t, rfl⟩ := rx
  obtain ⟨t', rfl⟩ := ry
  exact rule i j t t' s _ _ hc ⟨.int (g i j), H, I.tok _, ⟨_, rfl⟩, q⟩
theorem opI0 {f : Value → Value → Sem Value} {g : Int → Int → Int}
    (rule : ∀ (i j : Int) (t u : Tok) (s : Shared) (Q : Value → Shared → Prop) (E : Value → Shared → Prop), Q (.int (g i j) s.toks) { s with toks := s.toks + 1 } → wpAny (model X.prog X.w) X.A (f (.int i t) (.int j u)) Q E s) :
    OpR X f (rI0 fun i j => .int (g i j)) := by
  intro pins s σ H x y v u Q I rx ry h
  obtain ⟨i, j, rfl, rfl, q⟩ := h
  obtain ⟨t, rfl⟩ := rx
  obtain ⟨t', rfl⟩ := ry
  exact rule i j t t' s _ _ ⟨.int (g i j), H, I.tok _, ⟨_, rfl⟩, q⟩
theorem opB0 {f : Value → Value → Sem Value} {g : Int → Int → Bool}
    (rule : ∀ (i j : Int) (t u : Tok) (s : Shared) (Q : Value → Shared → Prop) (E : Value → Shared → Prop), Q (.bool (g i j)) s → wpAny (model X.prog X.w) X.A (f (.int i t) (.int j u)) Q E s) :
    OpR X f (rI0 fun i j => .bl (g i j)) := by
  intro pins s σ H x y v u Q I rx ry h
  obtain ⟨i, j, rfl, rfl, q⟩ := h
  obtain ⟨t, rfl⟩ := rx
  obtain ⟨t', rfl⟩ := ry
  exact rule i j t t' s _ _ ⟨.bl (g i j), H, I, rfl, q⟩
def CDiv (i j : Int) : Prop := 0 < j ∧ j < 1073741824
def CMul (i j : Int) : Prop := (-(2 ^ 64) < i ∧ i < 2 ^ 64) ∨ (-(2 ^ 64) < j ∧ j < 2 ^ 64)
theorem CMul.ok {i j : Int} (h : CMul i j) : IntMulOk i j := by
  rcases h with ⟨h1, h2⟩ | ⟨h1, h2⟩
  · exact .of_left (intBits_le_64 h1 h2)
  · exact .of_right (intBits_le_64 h1 h2)
theorem two_pow_nn (k : Nat) : (0 : Int) ≤ 2 ^ k := by
  rw [two_pow_cast]
  exact Int.natCast_nonneg _
theorem op_add : OpR X (binaryOp .Add) (rI0 fun i j => .int (i + j)) := opI0 fun _ _ _ _ _ _ _ q => add_int q
theorem op_sub : OpR X (binaryOp .Sub) (rI0 fun i j => .int (i - j)) := opI0 fun _ _ _ _ _ _ _ q => sub_int q
theorem op_mul : OpR X (binaryOp .Mult) (rI CMul fun i j => .int (i * j)) := opI fun _ _ _ _ _ _ _ hc q => mul_int q hc.ok
theorem op_fdiv : OpR X (binaryOp .FloorDiv) (rI CDiv fun i j => .int (i / j)) := opI fun i j _ _ _ _ _ hc q => by
  have h1 : (0 : Int) < j := hc.1
  have h2 : j < 1073741824 := hc.2
  exact floordiv_int (by omega) (by rw [Int.fdiv_eq_ediv_of_nonneg i (by omega)]; exact q) (.inl (PyProof.noPylong_small (by omega)))
theorem op_mod : OpR X (binaryOp .Mod) (rI (fun _ j => 0 < j) fun i j => .int (i % j)) := opI fun i j _ _ _ _ _ hc q => by
  have h1 : (0 : Int) < j := hc
  exact mod_int' (by omega) (by rw [Int.fmod_eq_emod_of_nonneg i (by omega)]; exact q)
theorem op_shr : OpR X (binaryOp .RShift) (rI (fun _ j => 0 ≤ j) fun i j => .int (i / 2 ^ j.toNat)) := opI fun i j _ _ _ _ _ hc q =>
  rshift_int hc (by rw [Int.fdiv_eq_ediv_of_nonneg i (two_pow_nn _)]; exact q)
theorem op_and : OpR X (binaryOp .BitAnd) (rI0 fun i j => .int (Builtin.bitAnd i j)) := opI0 fun _ _ _ _ _ _ _ q => and_int q
end
def scal : V → V → Bool
  | .non, .non => true | .non, .int _ => true | .int _, .non => true | .non, .bl _ => true | .bl _, .non => true | .non, .str _ => true | .str _, .non => true
  | .int _, .int _ => true | .bl _, .bl _ => true | .str _, .str _ => true | .byt _, .byt _ => true
  | .int _, .str _ => true | .str _, .int _ => true | .bl _, .str _ => true | .str _, .bl _ => true
  | _, _ => false
def rEq : R2 := fun x y H Q => scal x y = true ∧ Q (.bl (decide (x = y))) H
def rNe : R2 := fun x y H Q => scal x y = true ∧ Q (.bl (!decide (x = y))) H
theorem dec_int {i j : Int} : decide (V.int i = V.int j) = (i == j) := by
  rw [Bool.eq_iff_iff]
  simp
theorem dec_bl {i j : Bool} : decide (V.bl i = V.bl j) = (i == j) := by
  rw [Bool.eq_iff_iff]
  simp
theorem dec_str {i j : Str} : decide (V.str i = V.str j) = (i == j) := by
  rw [Bool.eq_iff_iff]
  simp
theorem dec_byt {i j : Array UInt8} : decide (V.byt i = V.byt j) = (i.toList == j.toList) := by
  rw [Bool.eq_iff_iff]
  cases i
  cases j
  simp
section
variable {X : Cx} {a b c : Expr} {ta tb tc : TE} {pos : Pos}
theorem fin_bl {pins : List (Addr × Obj)} {σ : St} {H : Hp} {s : Shared} {Q : VK} {k k' : Bool} (I : Inv X pins σ H s) (q : Q (.bl k) H) (e : k = k') : EP X pins σ Q (.bool k') s := by
  subst e
  exact ⟨.bl k, H, I, rfl, q⟩
theorem op_eq : OpR X (compareOp .Eq) rEq := by
  intro pins s σ H x y v u Q I rx ry h
  obtain ⟨hs, q⟩ := h
  cases x with
  | non =>
    cases rx
    cases y with
    | non => cases ry; exact PySem.EqNone.eq_none_none (fin_bl I q (by simp))
    | bl j => cases ry; exact PySem.EqNone.eq_none_bool (fin_bl I q (by simp))
    | int j => obtain ⟨t', rfl⟩ := ry; exact PySem.EqNone.eq_none_int (fin_bl I q (by simp))
    | str j => obtain ⟨t', rfl⟩ := ry; exact PySem.EqNone.eq_none_str (fin_bl I q (by simp))
    | _ => exact absurd (show false = true from hs) Bool.false_ne_true
  | bl i =>
    cases rx
    cases y with
    | non => cases ry; exact PySem.EqNone.eq_bool_none (fin_bl I q (by simp))
    | bl j => cases ry; exact eq_bool (fin_bl I q dec_bl)
    | str j => obtain ⟨t', rfl⟩ := ry; exact PySem.EqMixed.eq_bool_str (fin_bl I q (by simp))
    | _ => exact absurd (show false = true from hs) Bool.false_ne_true
  | int i =>
    obtain ⟨t, rfl⟩ := rx
    cases y with
    | non => cases ry; exact PySem.EqNone.eq_int_none (fin_bl I q (by simp))
    | int j => obtain ⟨t', rfl⟩ := ry; exact eq_int (fin_bl I q dec_int)
    | str j => obtain ⟨t', rfl⟩ := ry; exact PySem.EqMixed.eq_int_str (fin_bl I q (by simp))
    | _ => exact absurd (show false = true from hs) Bool.false_ne_true
  | str i =>
    obtain ⟨t, rfl⟩ := rx
    cases y with
    | non => cases ry; exact PySem.EqNone.eq_str_none (fin_bl I q (by simp))
    | bl j => cases ry; exact PySem.EqMixed.eq_str_bool (fin_bl I q (by simp))
    | int j => obtain ⟨t', rfl⟩ := ry; exact PySem.EqMixed.eq_str_int (fin_bl I q (by simp))
    | str j => obtain ⟨t', rfl⟩ := ry; exact eq_str (fin_bl I q dec_str)
    | _ => exact absurd (show false = true from hs) Bool.false_ne_true
  | byt i =>
    obtain ⟨t, rfl⟩ := rx
    cases y with
    | byt j => obtain ⟨t', rfl⟩ := ry; exact PySem.W.eq_bytes (fin_bl I q dec_byt)
    | _ => exact absurd (show false = true from hs) Bool.false_ne_true
  | _ => cases y <;> exact absurd (show false = true from hs) Bool.false_ne_true
theorem op_ne : OpR X (compareOp .NotEq) rNe := by
  intro pins s σ H x y v u Q I rx ry h
  obtain ⟨hs, q⟩ := h
  cases x with
  | non =>
    cases rx
    cases y with
    | non => cases ry; exact PySem.EqNone.ne_none_none (fin_bl I q (by simp))
    | bl j => cases ry; exact PySem.EqNone.ne_none_bool (fin_bl I q (by simp))
    | int j => obtain ⟨t', rfl⟩ := ry; exact PySem.EqNone.ne_none_int (fin_bl I q (by simp))
    | str j => obtain ⟨t', rfl⟩ := ry; exact PySem.EqNone.ne_none_str (fin_bl I q (by simp))
    | _ => exact absurd (show false = true from hs) Bool.false_ne_true
  | bl i =>
    cases rx
    cases y with
    | non => cases ry; exact PySem.EqNone.ne_bool_none (fin_bl I q (by simp))
    | bl j => cases ry; exact ne_bool (fin_bl I q (congrArg not dec_bl))
    | str j => obtain ⟨t', rfl⟩ := ry; exact PySem.EqMixed.ne_bool_str (fin_bl I q (by simp))
    | _ => exact absurd (show false = true from hs) Bool.false_ne_true
  | int i =>
    obtain ⟨t, rfl⟩ := rx
    cases y with
    | non => cases ry; exact PySem.EqNone.ne_int_none (fin_bl I q (by simp))
    | int j => obtain ⟨t', rfl⟩ := ry; exact ne_int (fin_bl I q (congrArg not dec_int))
    | str j => obtain ⟨t', rfl⟩ := ry; exact PySem.EqMixed.ne_int_str (fin_bl I q (by simp))
    | _ => exact absurd (show false = true from hs) Bool.false_ne_true
  | str i =>
    obtain ⟨t, rfl⟩ := rx
    cases y with
    | non => cases ry; exact PySem.EqNone.ne_str_none (fin_bl I q (by simp))
    | bl j => cases ry; exact PySem.EqMixed.ne_str_bool (fin_bl I q (by simp))
    | int j => obtain ⟨t', rfl⟩ := ry; exact PySem.EqMixed.ne_str_int (fin_bl I q (by simp))
    | str j => obtain ⟨t', rfl⟩ := ry; exact ne_str (fin_bl I q (congrArg not dec_str))
    | _ => exact absurd (show false = true from hs) Bool.false_ne_true
  | byt i =>
    obtain ⟨t, rfl⟩ := rx
    cases y with
    | byt j => obtain ⟨t', rfl⟩ := ry; exact PySem.W.ne_bytes (fin_bl I q (congrArg not dec_byt))
    | _ => exact absurd (show false = true from hs) Bool.false_ne_true
  | _ => cases y <;> exact absurd (show false = true from hs) Bool.false_ne_true
theorem op_lt : OpR X (compareOp .Lt) (rI0 fun i j => .bl (decide (i < j))) := opB0 fun _ _ _ _ _ _ _ q => lt_int q
theorem op_le : OpR X (compareOp .LtE) (rI0 fun i j => .bl (decide (i ≤ j))) := opB0 fun _ _ _ _ _ _ _ q => le_int q
theorem op_gt : OpR X (compareOp .Gt) (rI0 fun i j => .bl (decide (j < i))) := opB0 fun _ _ _ _ _ _ _ q => gt_int q
theorem nomark (b : Expr) {op : CmpOp} (h : op ≠ .In := by decide) (h2 : op ≠ .NotIn := by decide) : behindInMarks op b = false := by
  have e1 : (op == CmpOp.In) = false := by cases op <;> first | rfl | exact absurd rfl h
  have e2 : (op == CmpOp.NotIn) = false := by cases op <;> first | rfl | exact absurd rfl h2
  cases b <;> simp [behindInMarks, e1, e2]
def tTest (t : TE) : TT := fun σ H Q => t σ H fun x H' => ∃ k, x = .bl k ∧ Q k H'
theorem pt_cmpR {op : CmpOp} {r : R2} (ho : OpR X (compareOp op) r) (ha : PE X a ta) (hb : PE X b tb) (hm : behindInMarks op b = false) : PT X (.Compare a [op] [b] pos) (tTest (tOp r ta tb)) := by
  intro pins s σ H Q I h
  refine wpAny_isTrue_Compare1 (thn (ha pins s σ H _ I h) fun v s1 ⟨x, H1, I1, r1, q1⟩ => thn (hb pins s1 σ H1 _ I1 q1) fun u s2 ⟨y, H2, I2, r2, q2⟩ =>
    thn (ho pins s2 σ H2 x y v u _ I2 r1 r2 q2) fun c s3 ⟨z, H3, I3, r3, k, e, q3⟩ => ?_) hm
  subst e
  cases r3
  exact wpAny_truthy_bool ⟨H3, I3, q3⟩
def tChain (r r' : R2) (ta tb tc : TE) : TE := fun σ H Q => ta σ H fun x H1 => tb σ H1 fun y H2 => r x y H2 fun z H3 => ∃ k, z = .bl k ∧
  (if k = true then tc σ H3 fun w' H4 => r' y w' H4 Q else Q (.bl false) H3)
theorem pt_chain {op op' : CmpOp} {r r' : R2} (ho : OpR X (compareOp op) r) (ho' : OpR X (compareOp op') r') (ha : PE X a ta) (hb : PE X b tb) (hc : PE X c tc)
    (hm : lastMarks [op, op'] [b, c] = false := by with_unfolding_all rfl) : PT X (.Compare a [op, op'] [b, c] pos) (tTest (tChain r r' ta tb tc)) := by
  intro pins s σ H Q I h
  refine isTrue_chain (thn (ha pins s σ H _ I h) fun v s1 ⟨x, H1, I1, r1, q1⟩ => test_link (thn (hb pins s1 σ H1 _ I1 q1) fun u s2 ⟨y, H2, I2, r2, q2⟩ =>
    thn (ho pins s2 σ H2 x y v u _ I2 r1 r2 q2) fun d s3 ⟨z, H3, I3, r3, k, e, q3⟩ => ?_)) hm
  subst e
  cases r3
  refine wpAny_truthy_bool ?_
  cases k with
  | false =>
    obtain ⟨k', e', q'⟩ := q3
    cases e'
    exact ite_ff ⟨H3, I3, q'⟩
  | true =>
    refine ite_tt (test_last (thn (hc pins s3 σ H3 _ I3 q3) fun w' s4 ⟨z', H4, I4, r4, q4⟩ => thn (ho' pins s4 σ H4 y z' u w' _ I4 r2 r4 q4) fun d' s5 ⟨z2, H5, I5, r5, k2, e2, q5⟩ => ?_))
    subst e2
    cases r5
    exact wpAny_truthy_bool ⟨H5, I5, q5⟩
def TruV (K : PySem.W.Frag) (x : V) (H : Hp) (k : Bool) : Prop :=
  match x with
  | .non => k = false
  | .bl b => k = b
  | .int i => k = (i != 0)
  | .str y => y.length ≤ sizeLine ∧ k = ((y.length : Int) != 0)
  | .byt y => y.size ≤ sizeLine ∧ k = ((y.size : Int) != 0)
  | .ref p => (∃ xs, SqL K H p xs ∧ k = !xs.isEmpty) ∨ (∃ xs, SqT K H p xs ∧ k = !xs.isEmpty) ∨ ∃ kvs, H p = some (.dK kvs) ∧ k = !kvs.isEmpty
  | _ => False
theorem isEmpty_kv {κ : Type} {kvs : List (κ × V)} {vs : List (κ × Value)} (r : KV kvs vs) : (!vs.isEmpty) = !kvs.isEmpty := by
  cases r <;> rfl
theorem isEmpty_of {xs : List V} {its : List Value} (r : Vals xs its) : (!its.toArray.isEmpty) = !xs.isEmpty := by
  cases r <;> simp
theorem line63 : (sizeLine : Nat) < 2 ^ 63 := by rw [sizeLine_eq]; decide
theorem tru_ok : TruR X (fun x H Q => ∃ k, TruV X.K x H k ∧ Q k H) := by
  intro pins s σ H x v Q I rx h
  obtain ⟨k, e, q⟩ := h
  have hl := line63
  have hs : sizeLine = 16777216 := sizeLine_eq
  cases x with
  | non =>
    cases rx
    have e' : k = false := e
    subst e'
    exact truthy_none ⟨H, I, q⟩
  | bl b =>
    cases rx
    have e' : k = b := e
    subst e'
    exact wpAny_truthy_bool ⟨H, I, q⟩
  | int i =>
    obtain ⟨t, rfl⟩ := rx
    have e' : k = (i != 0) := e
    subst e'
    exact PySem.P.truthy_int ⟨H, I, q⟩
  | str y =>
    obtain ⟨t, rfl⟩ := rx
    obtain ⟨hy, e'⟩ : y.length ≤ sizeLine ∧ k = ((y.length : Int) != 0) := e
    subst e'
    exact PySem.P.truthy_str (by omega) ⟨H, I.tok _, q⟩
  | byt y =>
    obtain ⟨t, rfl⟩ := rx
    obtain ⟨hy, e'⟩ : y.size ≤ sizeLine ∧ k = ((y.size : Int) != 0) := e
    subst e'
    exact PySem.W.truthy_bytes (by omega) ⟨H, I.tok _, q⟩
  | ref p =>
    cases rx
    have e' : (∃ xs, SqL X.K H p xs ∧ k = !xs.isEmpty) ∨ (∃ xs, SqT X.K H p xs ∧ k = !xs.isEmpty) ∨ ∃ kvs, H p = some (.dK kvs) ∧ k = !kvs.isEmpty := e
    rcases e' with ⟨xs, hx, e'⟩ | ⟨xs, hx, e'⟩ | ⟨kvs, hx, e'⟩
    · subst e'
      obtain ⟨its, r, pl, hz⟩ := I.list hx
      have hlen := r.length
      exact wpAny_truthy_list pl.isList (by simp only [List.size_toArray]; omega) ⟨H, I.tok _, by rw [isEmpty_of r]; exact q⟩
    · subst e'
      obtain ⟨its, r, pl, hz⟩ := I.tuple hx
      have hlen := r.length
      exact truthy_tuple pl (by simp only [List.size_toArray]; omega) ⟨H, I.tok _, by rw [isEmpty_of r]; exact q⟩
    · subst e'
      obtain ⟨hz, hS, vs, r, m⟩ : kvs.length ≤ sizeLine ∧ (p == sysModules) = false ∧ ∃ vs, KV kvs vs ∧ s.heap.DictOf (mixKind X.prog X.w) p vs := I.hok p _ hx
      have hlen : kvs.length = vs.length := Paired.length r
      exact wpAny_truthy_dict hS m (by omega) ⟨H, I.tok _, by rw [isEmpty_kv r]; exact q⟩
  | _ => exact (show False from e).elim
theorem pt_truth (ha : PE X a ta) (he : ∀ whole, isTrue a X.env whole = (do let v ← whole; standAt a.pos; holding [v] (truthy v))) :
    PT X a (fun σ H Q => ta σ H fun x H' => ∃ k, TruV X.K x H' k ∧ Q k H') := by
  intro pins s σ H Q I h
  exact isTrue_plain (thn (ha pins s σ H _ I h) fun v s1 ⟨x, H1, I1, r1, q1⟩ => tru_ok pins s1 σ H1 x v Q I1 r1 q1) (he _)
theorem vals1 {x : V} {us : List Value} (r : Vals [x] us) : ∃ u, us = [u] ∧ RelV x u := by
  cases r with
  | cons r1 r2 => cases r2; exact ⟨_, rfl, r1⟩
theorem vals2 {x y : V} {us : List Value} (r : Vals [x, y] us) : ∃ u w', us = [u, w'] ∧ RelV x u ∧ RelV y w' := by
  cases r with
  | cons r1 r2 =>
    cases r2 with
    | cons r3 r4 => cases r4; exact ⟨_, _, rfl, r1, r3⟩
theorem call_max2 (hc : X.calm = true) : CallR X (.builtin "max") (fun xs H Q => ∃ i j, xs = [.int i, .int j] ∧ Q (.int (if j > i then j else i)) H) := by
  intro pins s σ H xs us Q I r h
  obtain ⟨i, j, rfl, q⟩ := h
  obtain ⟨u, w', rfl, ⟨t, rfl⟩, ⟨t', rfl⟩⟩ := vals2 r
  refine max_two_ints (I.ok.hd hc) fun h' tk k => ⟨_, H, I.kept k, ?_, q⟩
  by_cases hj : j > i
  · rw [if_pos hj, if_pos hj]; exact ⟨_, rfl⟩
  · rw [if_neg hj, if_neg hj]; exact ⟨_, rfl⟩
def LenV (K : PySem.W.Frag) (x : V) (H : Hp) (n : Nat) : Prop :=
  match x with
  | .str y => y.length ≤ sizeLine ∧ n = y.length
  | .byt y => y.size ≤ sizeLine ∧ n = y.size
  | .ref p => (∃ xs, SqL K H p xs ∧ n = xs.length) ∨ ∃ xs, SqT K H p xs ∧ n = xs.length
  | _ => False
theorem call_len : CallR X (.builtin "len") (fun xs H Q => ∃ x n, xs = [x] ∧ LenV X.K x H n ∧ Q (.int n) H) := by
  intro pins s σ H xs us Q I r h
  obtain ⟨x, n, rfl, e, q⟩ := h
  obtain ⟨u, rfl, rx⟩ := vals1 r
  have hl := line63
  have hs : sizeLine = 16777216 := sizeLine_eq
  cases x with
  | str y =>
    obtain ⟨t, rfl⟩ := rx
    obtain ⟨hy, e'⟩ : y.length ≤ sizeLine ∧ n = y.length := e
    subst e'
    exact len_str (by omega) ⟨.int _, H, I.tok _, ⟨_, rfl⟩, q⟩
  | byt y =>
    obtain ⟨t, rfl⟩ := rx
    obtain ⟨hy, e'⟩ : y.size ≤ sizeLine ∧ n = y.size := e
    subst e'
    exact PySem.W.len_bytes (by omega) ⟨.int _, H, I.tok _, ⟨_, rfl⟩, q⟩
  | ref p =>
    cases rx
    have e' : (∃ xs, SqL X.K H p xs ∧ n = xs.length) ∨ ∃ xs, SqT X.K H p xs ∧ n = xs.length := e
    rcases e' with ⟨xs, hx, e'⟩ | ⟨xs, hx, e'⟩
    · subst e'
      obtain ⟨its, r', pl, hz⟩ := I.list hx
      have hlen := r'.length
      exact Calls.call_len_list pl.isList (by simp only [List.size_toArray]; omega) ⟨.int xs.length, H, I.tok _, ⟨_, by simp only [List.size_toArray]; rw [hlen]⟩, q⟩
    · subst e'
      obtain ⟨its, r', pl, hz⟩ := I.tuple hx
      have hlen := r'.length
      exact len_tuple pl (by simp only [List.size_toArray]; omega) ⟨.int xs.length, H, I.tok _, ⟨_, by simp only [List.size_toArray]; rw [hlen]⟩, q⟩
  | _ => exact (show False from e).elim
end
end L2
namespace L2
open PySem PySem.Spec PyProof.Rows
structure ObjM (h : Heap) (x dx C : Addr) (mA : Str → Option Value) : Prop where
  obj : h.get? x = some (PySem.W.instObj C dx)
  ns : h.Ns1 dx mA
  ne : dx ≠ x
theorem lookIn_ns {h : Heap} {dx : Addr} {mA : Str → Option Value} (n : h.Ns1 dx mA) : ∃ od, h.get? dx = some od ∧ ∀ name, PySem.W.lookIn name od = some (mA name) := by
  obtain ⟨o, es, ep, ho, hd, hk, _, hm⟩ := n
  refine ⟨o, ho, fun name => ?_⟩
  have e := hm name
  unfold nsFind findBy at e
  rw [← Array.find?_toList] at e
  unfold PySem.W.lookIn
  rw [hd]
  dsimp only
  split
  · rename_i y q
    rw [q] at e
    exact congrArg some e
  · rename_i q
    rw [q] at e
    have a : es.toList.any (·.refKey) = false := by
      rw [List.any_eq_false]
      intro y hy
      obtain ⟨z, t, hkey⟩ := hk y (Array.mem_toList_iff.mp hy)
      simp [DictEntry.refKey, hkey]
    have a' : ¬ es.toList.any (·.refKey) = true := by rw [a]; exact Bool.false_ne_true
    rw [if_neg a']
    exact congrArg some e
theorem ObjM.look {h : Heap} {x dx C : Addr} {mA : Str → Option Value} (I : ObjM h x dx C mA) : ∃ od, PySem.W.InstAt h x (PySem.W.instObj C dx) C (some od) ∧ ∀ name, PySem.W.lookIn name od = some (mA name) :=
  let ⟨od, ho, hl⟩ := lookIn_ns I.ns
  ⟨od, ⟨I.obj, rfl, rfl, ho⟩, hl⟩
section
variable {prog : Program} {w : World} {A : Around} {E : Value → Shared → Prop} {s : Shared} {K : PySem.W.Frag} {x dx C f : Addr} {mA : Str → Option Value} {name : Str} {v : Value}
end
section
variable {P : Program} {w : World} {H H' : Hp} {h h' : Heap} {a C dx : Addr} {fs fs' : List (Str × V)}
theorem ins_get (hok : HOk P w H h) (e : H a = some (.ins C dx fs)) : ∃ mA, ObjM h a dx C mA ∧ (∀ f, RelO (fs.lookup f) (mA f)) ∧ PySem.Within mA (fs.map (·.1)) ∧ fs.length ≤ 1000 ∧ H dx = some (.own a) := by
  obtain ⟨d, z, ne, ob, mA, n, r, q⟩ := (show ObjOk P w H h a (.ins C dx fs) from hok a _ e)
  exact ⟨mA, ⟨ob, n, ne⟩, r, q, z, d⟩
end
structure Cls (K : PySem.W.Frag) (C : Addr) : Prop where
  pg : PySem.W.plainGet K C Str.empty = true
  hd : PySem.W.hasDictIn K C = true
  po : PySem.W.plainOver K C = true
  sa : PySem.W.findIn K (.ref C) "__setattr__" = some (some (.builtin "object.__setattr__"))
theorem Cls.get {K : PySem.W.Frag} {C : Addr} (c : Cls K C) (f : Str) : PySem.W.plainGet K C f = true := c.pg
section
variable {X : Cx} {pins : List (Addr × Obj)} {σ : St} {H : Hp} {s : Shared} {a C dx : Addr} {fs : List (Str × V)} {f : Str} {v : V} {A : Around} {E : Value → Shared → Prop}
end
section
variable {X : Cx} {o e value : Expr} {f : Str} {pos pos' tpos : Pos} {ta tv : TE}
end
section
variable {X : Cx} {pins : List (Addr × Obj)} {σ : St} {H : Hp} {s : Shared} {A : Around} {E : Value → Shared → Prop} {Q : Value → Shared → Prop} {c : Value} {b : Bool}
inductive TyOf (K : PySem.W.Frag) (H : Hp) : V → Value → Prop where
  | non : TyOf K H .non (.type "NoneType")
  | bl (x : Bool) : TyOf K H (.bl x) (.type "bool")
  | int (i : Int) : TyOf K H (.int i) (.type "int")
  | str (x : Str) : TyOf K H (.str x) (.type "str")
  | flt (x : UInt64) : TyOf K H (.flt x) (.type "float")
  | lst {a : Addr} {xs : List V} (e : H a = some (.lst xs)) : TyOf K H (.ref a) (.type "list")
  | frz {a : Addr} {o : Obj} {xs : List V} (e : H a = some (.frz o (.lst xs))) : TyOf K H (.ref a) (.type "list")
  | tup {a : Addr} {xs : List V} (e : H a = some (.tup xs)) : TyOf K H (.ref a) (.type "tuple")
  | dK {a : Addr} {kvs : List (Key × V)} (e : H a = some (.dK kvs)) : TyOf K H (.ref a) (.type "dict")
  | dT {a : Addr} {kvs : List (List Key × V)} (e : H a = some (.dT kvs)) : TyOf K H (.ref a) (.type "dict")
  | ins {a C dx : Addr} {fs : List (Str × V)} (e : H a = some (.ins C dx fs)) (cl : Cls K C) (ha : PySem.W.findIn K (.ref C) "__class__" = some (some (.builtin "object.__class__")))
      (hn : PySem.W.specialIn K (.builtin "object.__class__") "__get__" = some (some (.builtin "getset_descriptor.__get__"))) (htk : PySem.W.takesIn K (.builtin "object.__class__") = some true)
      (hm : PySem.W.mroIn K C (.type "object") = some true) : TyOf K H (.ref a) (.ref C)
theorem isinst_ok {x : V} {u t : Value} (I : Inv X pins σ H s) (rx : RelV x u) (ty : TyOf X.K H x t) (e : PySem.W.kitOne X.K t c = some b) (h : ∀ tk, Q (.bool b) { s with toks := tk }) :
    wpAny (model X.prog X.w) A (call (.builtin "isinstance") [u, c]) Q E s := by
  cases ty with
  | non => cases (show u = Value.none from rx); exact PySem.W.kia_one PySem.W.kitx_none I.kIn True.intro e (fun z => nomatch z) h
  | bl y => cases (show u = Value.bool y from rx); exact PySem.W.kia_one PySem.W.kitx_bool I.kIn True.intro e (fun z => nomatch z) h
  | int i => obtain ⟨t, q⟩ := (show ∃ t, u = Value.int i t from rx); cases q; exact PySem.W.kia_one PySem.W.kitx_int I.kIn True.intro e (fun z => nomatch z) h
  | str y => obtain ⟨t, q⟩ := (show ∃ t, u = Value.str y t from rx); cases q; exact PySem.W.kia_one PySem.W.kitx_str I.kIn True.intro e (fun z => nomatch z) h
  | flt y => obtain ⟨t, q⟩ := (show ∃ t, u = Value.float y t from rx); cases q; exact PySem.W.kia_one PySem.W.kitx_float I.kIn True.intro e (fun z => nomatch z) h
  | @lst a xs ea =>
    cases (show u = Value.ref a from rx)
    obtain ⟨_, _, n, _, h1⟩ := (show ObjOk X.prog X.w H s.heap a (.lst xs) from I.hok a _ ea)
    exact PySem.W.kia_one PySem.W.kitx_list I.kIn ⟨_, h1, rfl⟩ e (fun z => nomatch z) h
  | @frz a ob xs ea =>
    cases (show u = Value.ref a from rx)
    obtain ⟨_, _, _, n, _, h1⟩ := (show ObjOk X.prog X.w H s.heap a (.frz ob (.lst xs)) from I.hok a _ ea)
    exact PySem.W.kia_one PySem.W.kitx_list I.kIn ⟨_, h1, rfl⟩ e (fun z => nomatch z) h
  | @tup a xs ea =>
    cases (show u = Value.ref a from rx)
    obtain ⟨_, _, _, p⟩ := (show ObjOk X.prog X.w H s.heap a (.tup xs) from I.hok a _ ea)
    obtain ⟨o, h1, h2, _⟩ := p
    exact PySem.W.kia_one PySem.W.kitx_tuple I.kIn ⟨o, h1, h2⟩ e (fun z => nomatch z) h
  | @dK a kvs ea =>
    cases (show u = Value.ref a from rx)
    obtain ⟨_, _, vs, _, p⟩ := (show ObjOk X.prog X.w H s.heap a (.dK kvs) from I.hok a _ ea)
    obtain ⟨o, es, ep, h1, h2, _⟩ := p
    exact PySem.W.kia_one PySem.W.kitx_dict I.kIn ⟨o, h1, h2.1⟩ e (fun z => nomatch z) h
  | @dT a kvs ea =>
    cases (show u = Value.ref a from rx)
    obtain ⟨_, _, xs, _, o, es, ep, h1, h2, _⟩ := (show ObjOk X.prog X.w H s.heap a (.dT kvs) from I.hok a _ ea)
    exact PySem.W.kia_one PySem.W.kitx_dict I.kIn ⟨o, h1, h2.1⟩ e (fun z => nomatch z) h
  | @ins a C dx fs ea cl ha hn htk hm =>
    cases (show u = Value.ref a from rx)
    obtain ⟨mA, O, _⟩ := ins_get I.hok ea
    obtain ⟨od, J, _⟩ := O.look
    exact PySem.W.kia_one (PySem.W.kitx_own (cl.get _) cl.hd ha hn htk hm) I.kIn J e (fun z => nomatch z) h
end
end L2
namespace L2
open PySem PySem.Spec PyProof.Rows
structure Room (k : Nat) (A : Around) : Prop where
  hd : A.handled = none
  dp : A.depth + 3 * k + 5 < recursionLimit
  un : A.units + 16 * k + 200 < cLine
theorem Room.mono {j k : Nat} {A : Around} (r : Room k A) (h : j ≤ k) : Room j A := ⟨r.hd, by have := r.dp; omega, by have := r.un; omega⟩
theorem Room.deeper {k : Nat} {A : Around} (r : Room (k + 1) A) (env : Env) : Room k (A.deeper env) :=
  ⟨r.hd, by have := r.dp; show A.depth + 1 + 3 * k + 5 < _; omega, by have := r.un; show A.units + 3 + 16 * k + 200 < _; omega⟩
theorem Room.in1 {k : Nat} {A : Around} (r : Room (k + 1) A) : Room k A.in1 :=
  ⟨r.hd, by have := r.dp; show A.depth + 3 * k + 5 < _; omega, by have := r.un; show A.units + 1 + 16 * k + 200 < _; omega⟩
theorem Room.depth {k : Nat} {A : Around} (r : Room k A) : A.depth < recursionLimit := by have := r.dp; omega
theorem Room.units {k : Nat} {A : Around} (r : Room k A) : A.units + 64 < cLine := by have := r.un; omega
def tNil : TA := fun _ H Q => Q [] H
def tCons (ta : TE) (tr : TA) : TA := fun σ H Q => ta σ H fun x H1 => tr σ H1 fun xs H2 => Q (x :: xs) H2
section
variable {X : Cx} {e : Expr} {es : List Expr} {te : TE} {t : TA} {pos : Pos}
theorem pa_nil : PA X [] tNil := fun _ _ _ _ H Q I h => Calls.spliced_nil ⟨[], H, I, .nil, h⟩
theorem pa_cons (ha : PE X e te) (hr : PA X es t) (hs : starEach (e :: es) X.env = (false, eval e X.env) :: starEach es X.env := by rfl) : PA X (e :: es) (tCons te t) := by
  intro pos pins s σ H Q I h
  rw [hs]
  show wpAny _ _ (spliced ((false, eval e X.env) :: backTo pos (starEach es X.env))) _ _ s
  refine Calls.spliced_cons (thn (ha pins s σ H _ I h) fun u s1 ⟨x, H1, I1, r1, q1⟩ => ?_)
  exact thn (hr pos pins s1 σ H1 _ I1 q1) fun us s2 ⟨xs, H2, I2, r2, q2⟩ => ⟨x :: xs, H2, I2, .cons r1 r2, q2⟩
def tTup (t : TA) : TE := fun σ H Q => t σ H fun xs H1 => xs.length ≤ sizeLine ∧ ∀ p, H1 p = none → Q (.ref p) (upd H1 p (.tup xs))
def tLst (t : TA) : TE := fun σ H Q => t σ H fun xs H1 => xs.length ≤ sizeLine ∧ ∀ p, H1 p = none → Q (.ref p) (upd H1 p (.lst xs))
theorem pe_tup {x1} (h : PA X es t) : PE X (.Tuple es x1 pos) (tTup t) := by
  intro pins s σ H Q I hq
  refine wpAny_Tuple_spliced (thn (h pos pins s σ H _ I hq) fun us s1 ⟨xs, H1, I1, r, z, q⟩ => ⟨by rw [← r.length]; exact z, ?_⟩)
  have hf : H1 s1.heap.objs.size = none := I1.hok.fresh (Nat.le_refl _)
  refine ⟨.ref s1.heap.objs.size, upd H1 s1.heap.objs.size (.tup xs), I1.laid (t' := s1.toks) (fun b u e => Heap.get?_push_of_some _ e) (Nat.le_refl _) ?_, rfl, q _ hf⟩
  exact ⟨z, us, r, ⟨_, Heap.get?_push_size _ rfl, rfl, _, rfl⟩⟩
theorem pe_lst (h : PA X es t) : PE X (.List es pos) (tLst t) := by
  intro pins s σ H Q I hq
  refine wpAny_List_spliced (thn (h pos pins s σ H _ I hq) fun us s1 ⟨xs, H1, I1, r, z, q⟩ => ⟨by rw [← r.length]; exact z, ?_⟩)
  have hf : H1 s1.heap.objs.size = none := I1.hok.fresh (Nat.le_refl _)
  refine ⟨.ref s1.heap.objs.size, upd H1 s1.heap.objs.size (.lst xs), I1.laid (t' := s1.toks) (fun b u e => Heap.get?_push_of_some _ e) (Nat.le_refl _) ?_, rfl, q _ hf⟩
  exact ⟨z, us, 0, r, Heap.get?_push_size _ rfl⟩
end
abbrev Sp := List V → Hp → VK → XK → Prop
abbrev CXT := List Env → Hp → Shared → XK → Value → Shared → Prop
structure Env0 (P : Program) (w : World) (K : PySem.W.Frag) (mg : Str → Option Value) (base : Heap) (A : Around) (outer : List Env) (s : Shared) (H : Hp) : Prop where
  frames : A.frames = some outer
  mod : Mod K mg base
  bs : ∀ b o, base.get? b = some o → s.heap.get? b = some o ∧ H b = none
  bsz : base.objs.size ≤ s.heap.objs.size
  funs : s.heap.FunFrames base outer
  frf : ∀ b ∈ frs outer, H b = none
  hok : HOk P w H s.heap
  bare : AllBare s.gens
def CE (outer : List Env) (P : Program) (w : World) (H : Hp) (s : Shared) (Q : VK) (u : Value) (s' : Shared) : Prop :=
  ∃ v H', s'.os = s.os ∧ AllBare s'.gens ∧ Un (frs outer) [] H H' s.heap s'.heap ∧ HOk P w H' s'.heap ∧ RelV v u ∧ Q v H'
def CR (CX : CXT) (outer : List Env) (P : Program) (w : World) (H : Hp) (s : Shared) (Q : VK) (E : XK) (r : Result) (s' : Shared) : Prop :=
  match r with
  | .ok (.ret u) => CE outer P w H s Q u s'
  | .ok _ => False
  | .error e => CX outer H s E e s'
structure FnOk (P : Program) (w : World) (K : PySem.W.Frag) (mg : Str → Option Value) (base : Heap) (CX : CXT) (k : Nat) (f : Addr) (fd : FuncData) (ps : List Str) (sp : Sp) : Prop where
  len : ∀ vs H Q E, sp vs H Q E → vs.length = ps.length
  run : ∀ (A : Around) (outer : List Env) (s : Shared) (H : Hp) (args : Args) (us : List Value) (vs : List V) (Q : VK) (E : XK), Room k A → Env0 P w K mg base A outer s H → BindsTo s fd args (ps.zip us) → Vals vs us → sp vs H Q E →
    codeAny (model P w) A (.call (.ref f) args) (CR CX outer P w H s Q E) s
theorem FnOk.mono {P : Program} {w : World} {K : PySem.W.Frag} {mg : Str → Option Value} {base : Heap} {CX : CXT} {j k : Nat} {f : Addr} {fd : FuncData} {ps : List Str} {sp : Sp} (F : FnOk P w K mg base CX j f fd ps sp) (h : j ≤ k) :
    FnOk P w K mg base CX k f fd ps sp := ⟨F.len, fun A outer s H args us vs Q E hr => F.run A outer s H args us vs Q E (hr.mono h)⟩
theorem FnOk.imp {P : Program} {w : World} {K : PySem.W.Frag} {mg : Str → Option Value} {base : Heap} {CX : CXT} {k : Nat} {f : Addr} {fd : FuncData} {ps : List Str} {sp sp' : Sp} (F : FnOk P w K mg base CX k f fd ps sp)
    (h : ∀ vs H Q E, sp' vs H Q E → sp vs H Q E) : FnOk P w K mg base CX k f fd ps sp' :=
  ⟨fun vs H Q E q => F.len vs H Q E (h _ _ _ _ q), fun A outer s H args us vs Q E hr he hb hv hs => F.run A outer s H args us vs Q E hr he hb hv (h _ _ _ _ hs)⟩
theorem Env0.in1 {P : Program} {w : World} {K : PySem.W.Frag} {mg : Str → Option Value} {base : Heap} {A : Around} {outer : List Env} {s : Shared} {H : Hp} (e : Env0 P w K mg base A outer s H) :
    Env0 P w K mg base A.in1 outer s H := ⟨e.frames, e.mod, e.bs, e.bsz, e.funs, e.frf, e.hok, e.bare⟩
section
variable {X : Cx} {pins : List (Addr × Obj)} {σ : St} {H : Hp} {s s' : Shared}
theorem Inv.env0 (I : Inv X pins σ H s) : Env0 X.prog X.w X.K X.mg X.base X.A X.stack s H :=
  ⟨I.ok.frames, I.ok.mod, I.bs, Nat.le_trans I.ok.bsz I.sz, I.stack, I.stkFree, I.hok, I.bare⟩
theorem Inv.after {Q : VK} {u : Value} (I : Inv X pins σ H s) (h : CE X.stack X.prog X.w H s Q u s') : EP X pins σ Q u s' := by
  obtain ⟨v, H', os, bare, un, hok, r, q⟩ := h
  obtain ⟨hh, g, d, t, os'⟩ := s'
  obtain rfl : os' = s.os := os
  exact ⟨v, H', I.call (h' := hh) (g' := g) (d' := d) (t' := t) (ch := []) un hok bare (fun b z => absurd z (by simp)), r, q⟩
end
def tCall (sp : Sp) (dvs : List V) (E : XK) (t : TA) : TE := fun σ H Q => t σ H fun vs H1 => sp (vs ++ dvs) H1 Q E
def Binds (K : PySem.W.Frag) (fd : FuncData) (ps : List Str) (ds : List Value) : Prop :=
  ∀ (s : Shared) (us : List Value), K.In s.heap → (us ++ ds).length = ps.length → BindsTo s fd ⟨us, []⟩ (ps.zip (us ++ ds))
theorem Binds.all {K : PySem.W.Frag} {fd : FuncData} {ps : List Str} (h : ∀ us : List Value, us.length = ps.length → bindArgs fd ⟨us, []⟩ = pure (ps.zip us)) : Binds K fd ps [] := fun s us _ hl => by
  rw [List.append_nil] at hl ⊢
  exact .of_eq (h us hl)
def Passes (CX : CXT) (X : Cx) (E : XK) : Prop := ∀ (pins : List (Addr × Obj)) (σ : St) (H : Hp) (s : Shared) (e : Value) (s' : Shared), Inv X pins σ H s → CX X.stack H s E e s' → X.xe e s'
section
variable {X : Cx} {CX : CXT} {k : Nat} {f C : Addr} {fd : FuncData} {ps : List Str} {sp : Sp} {dvs : List V} {ds : List Value} {E : XK} {x m : Str} {p pos apos : Pos} {e o : Expr} {es : List Expr} {ta : TE} {t : TA}
theorem run_fn {pins : List (Addr × Obj)} {σ : St} {H : Hp} {s : Shared} {Q : VK} {us : List Value} {vs : List V} (F : FnOk X.prog X.w X.K X.mg X.base CX k f fd ps sp) (hr : Room k X.A) (hb : Binds X.K fd ps ds) (hd : Vals dvs ds) (hx : Passes CX X E)
    (I : Inv X pins σ H s) (r : Vals vs us) (h : sp (vs ++ dvs) H Q E) : wpAny (model X.prog X.w) X.A (call (.ref f) us) (EP X pins σ Q) X.xe s := by
  have r2 : Vals (vs ++ dvs) (us ++ ds) := r.append hd
  have hl : (us ++ ds).length = ps.length := by rw [← r2.length]; exact F.len _ _ _ _ h
  refine wpAny_call (codeAny_mono (F.run X.A X.stack s H ⟨us, []⟩ (us ++ ds) (vs ++ dvs) Q E hr I.env0 (hb s us I.kIn hl) r2 h) fun r s' hq => ?_)
  cases r with
  | error e => exact hx pins σ H s e s' I hq
  | ok fl =>
    cases fl with
    | ret u => exact I.after hq
    | next => exact False.elim hq
    | brk => exact False.elim hq
    | cont => exact False.elim hq
theorem pe_call (F : FnOk X.prog X.w X.K X.mg X.base CX k f fd ps sp) (hr : Room k X.A) (hg : Gl X x) (hm : X.mg x = some (.ref f)) (hk : PySem.W.keepIn X.K (.ref f) = true) (hb : Binds X.K fd ps ds) (hd : Vals dvs ds) (hx : Passes CX X E)
    (ha : PA X (e :: es) t) (hdb : (x == ("__debug__" : Str)) = false := by decide) (he : starEach (e :: es) X.env = (false, eval e X.env) :: starEach es X.env := by rfl) (hpl : (backTo pos (starEach es X.env)).any (·.1) = false := by rfl) :
    PE X (.Call (.Name x p) (e :: es) [] pos) (tCall sp dvs E t) := by
  intro pins s σ H Q I h
  refine wpAny_Call_Name_kw (ld_glob I hg hm ?_ hdb)
  refine PySem.W.callWith_K (h₀ := X.base) I.ok.mod.kin hk (thn (ha pos pins s σ H _ I h) fun us s1 ⟨vs, H1, I1, r, q⟩ => ⟨I1.kIn, ?_⟩) he hpl
  exact run_fn F hr hb hd hx I1 r q
end
section
variable {X : Cx} {CX : CXT} {k : Nat} {f C : Addr} {fd : FuncData} {ps ks : List Str} {sp : Sp} {E : XK} {x m : Str} {p pos apos kpos : Pos} {e o : Expr} {es : List Expr} {kws : List Keyword} {te ta : TE} {t tk : TA} {nm : Option Str}
variable {g : List Value → List Value → List Value} {gV : List V → List V → List V}
end
structure FnScope (N P : List Str) (sc : Scope) : Prop where
  kind : sc.kind = .function
  co : sc.isCoroutine = false
  gen : sc.isGenerator = false
  nd : N.Nodup
  pre : N.take P.length = P
  par : ∀ x ∈ P, sc.names.lookup x = some .local ∨ sc.names.lookup x = some .cell
  nofree : ∀ y ∈ sc.names, y.2 ≠ .free
theorem bindL_out {kindOf : Str → Option NameKind} {x : Str} : ∀ {binds : List (Str × Value)} {m : Str → Option Value}, (∀ v, (x, v) ∉ binds) → bindL kindOf binds m x = m x
  | [], _, _ => rfl
  | (n, v) :: r, m, h => by
    unfold bindL
    rw [bindL_out fun w hw => h w (List.mem_cons_of_mem _ hw)]
    split
    · have : x ≠ n := by rintro rfl; exact h v List.mem_cons_self
      simp [this]
    · rfl
theorem bindC_out {kindOf : Str → Option NameKind} {x : Str} : ∀ {binds : List (Str × Value)} {m : Str → Option Value}, (∀ v, (x, v) ∉ binds) → bindC kindOf binds m x = m x
  | [], _, _ => rfl
  | (n, v) :: r, m, h => by
    unfold bindC
    rw [bindC_out fun w hw => h w (List.mem_cons_of_mem _ hw)]
    split
    · rfl
    · have : x ≠ n := by rintro rfl; exact h v List.mem_cons_self
      simp [this]
theorem bindL_get {kindOf : Str → Option NameKind} {x : Str} {v : Value} : ∀ {P : List Str} {vs : List Value} {i : Nat} {m : Str → Option Value}, P.Nodup → P[i]? = some x → vs[i]? = some v → kindOf x = some .local →
    bindL kindOf (P.zip vs) m x = some v
  | [], _, _, _, _, h, _, _ => by simp at h
  | _ :: _, [], _, _, _, _, h, _ => by simp at h
  | p :: P, w :: vs, 0, m, nd, h1, h2, hk => by
    simp at h1 h2; subst h1; subst h2
    show bindL kindOf ((p, w) :: P.zip vs) m p = _
    unfold bindL
    rw [bindL_out fun v hv => (List.nodup_cons.mp nd).1 (List.of_mem_zip hv).1, if_pos hk]
    simp
  | p :: P, w :: vs, i + 1, m, nd, h1, h2, hk => by
    show bindL kindOf ((p, w) :: P.zip vs) m x = _
    unfold bindL
    exact bindL_get (i := i) (List.nodup_cons.mp nd).2 (by simpa using h1) (by simpa using h2) hk
theorem bindC_get {kindOf : Str → Option NameKind} {x : Str} {v : Value} : ∀ {P : List Str} {vs : List Value} {i : Nat} {m : Str → Option Value}, P.Nodup → P[i]? = some x → vs[i]? = some v → kindOf x ≠ some .local →
    bindC kindOf (P.zip vs) m x = some v
  | [], _, _, _, _, h, _, _ => by simp at h
  | _ :: _, [], _, _, _, _, h, _ => by simp at h
  | p :: P, w :: vs, 0, m, nd, h1, h2, hk => by
    simp at h1 h2; subst h1; subst h2
    show bindC kindOf ((p, w) :: P.zip vs) m p = _
    unfold bindC
    rw [bindC_out fun v hv => (List.nodup_cons.mp nd).1 (List.of_mem_zip hv).1, if_neg hk]
    simp
  | p :: P, w :: vs, i + 1, m, nd, h1, h2, hk => by
    show bindC kindOf ((p, w) :: P.zip vs) m x = _
    unfold bindC
    exact bindC_get (i := i) (List.nodup_cons.mp nd).2 (by simpa using h1) (by simpa using h2) hk
def start (N : List Str) (vs : List V) : St := vs.map some ++ List.replicate (N.length - vs.length) none
def cxOf (CX : CXT) (P : Program) (w : World) (K : PySem.W.Frag) (mg : Str → Option Value) (base : Heap) (N : List Str) (qual : Str) (scope : Scope) (f : Addr) (cd : Value) (A : Around) (outer : List Env) (s : Shared) (H : Hp) (E : XK) : Cx where
  prog := P
  w := w
  K := K
  mg := mg
  base := base
  A := A.deeper (envOfC qual scope s.heap.objs.size f cd)
  N := N
  s₀ := s
  H₀ := H
  env := envOfC qual scope s.heap.objs.size f cd
  outer := outer
  stack := envOfC qual scope s.heap.objs.size f cd :: outer
  ex := []
  calm := true
  fn := fun _ => true
  pn := []
  xe := fun e s' => wpAny (model P w) (A.deeper (envOfC qual scope s.heap.objs.size f cd)) (leaving (envOfC qual scope s.heap.objs.size f cd) e) (fun _ s'' => CX outer H s E e s'') (fun e' s'' => CX outer H s E e' s'') s'
theorem cell_has {sc : Scope} {n : Nat} {x : Str} (h : sc.names.lookup x = some .cell) : ∃ c, (cellsFrom n sc.names []).lookup x = some c := by
  have q := PySem.W.cellsFrom_some sc.names n [] (.inl h)
  exact Option.isSome_iff_exists.mp q
theorem inv_start {CX : CXT} {P : Program} {w : World} {K : PySem.W.Frag} {mg : Str → Option Value} {base : Heap} {N ps : List Str} {qual : Str} {scope : Scope} {f : Addr} {cd : Value} {A : Around} {outer : List Env} {s s1 : Shared} {H : Hp} {E : XK} {us : List Value} {vs : List V}
    (S : FnScope N ps scope) (hd : A.handled = none) (e0 : Env0 P w K mg base A outer s H) (hl : vs.length = ps.length) (r : Vals vs us)
    (x : InCallC s s.heap.objs.size (bindL (envOfC qual scope s.heap.objs.size f cd).kindOf (ps.zip us) fun _ => none) (cellsFrom (s.heap.objs.size + 1) scope.names []) (bindC (envOfC qual scope s.heap.objs.size f cd).kindOf (ps.zip us) fun _ => none) s1) :
    Inv (cxOf CX P w K mg base N qual scope f cd A outer s H E) [] (start N vs) H s1 := by
  have hpl : ps.length ≤ N.length := by have := congrArg List.length S.pre; rw [List.length_take] at this; omega
  obtain ⟨h1, tk, rfl, hk⟩ := x.done
  have noA : ∀ b : Addr, b ∉ (cxOf CX P w K mg base N qual scope f cd A outer s H E).ex := fun b z => absurd (show b ∈ ([] : List Addr) from z) (by simp)
  refine ⟨⟨e0.mod, S.kind, rfl, rfl, Nat.le_refl _, fun y z c h1 h2 => ?_, fun y hy => ?_, fun y c _ h => ?_, fun _ => hd, Around.frames_deeper e0.frames, .inr ⟨rfl, rfl⟩, fun b z => absurd z (noA b), e0.bs, e0.bsz, fun b _ _ => noA b, fun b z => absurd z (noA b), e0.funs, e0.frf⟩,
    rfl, e0.bare, Un.kept hk, ⟨_, x.toInCall.ns, fun i y v h1 h2 h3 => ?_⟩, fun y c h => ⟨_, x.cell y c h⟩, e0.hok.fresh (Nat.le_refl _), fun y c h => ?_, fun p hp => absurd (show p ∈ ([] : List (Addr × Obj)) from hp) (by simp), e0.hok.kept hk, ?_⟩
  · exact name_of_addr x.apart (PySem.mem_of_lookup h1) (PySem.mem_of_lookup h2)
  · have hy : scope.names.lookup y = some .cell ∨ scope.names.lookup y = some .free := hy
    rcases hy with hy | hy
    · exact cell_has hy
    · exact absurd rfl (S.nofree _ (PySem.mem_of_lookup hy))
  · exact Nat.le_of_lt (x.above y c (PySem.mem_of_lookup h))
  · have hi : i < vs.length := by
      unfold start at h2
      by_cases hi : i < vs.length
      · exact hi
      · rw [List.getElem?_append_right (by simpa using hi)] at h2
        rw [List.getElem?_replicate] at h2
        split at h2 <;> cases h2
    have ha : vs[i]? = some v := by
      unfold start at h2
      rw [List.getElem?_append_left (by simpa using hi), List.getElem?_map] at h2
      cases e : vs[i]? with
      | none => rw [e] at h2; cases h2
      | some a => rw [e] at h2; cases h2; rfl
    obtain ⟨u, hu, rv⟩ := r.get ha
    have hp : ps[i]? = some y := by
      rw [← S.pre, List.getElem?_take_of_lt (by omega)]; exact h1
    have ndP : ps.Nodup := by rw [← S.pre]; exact S.nd.sublist (List.take_sublist _ _)
    refine ⟨u, rv, ?_⟩
    rcases S.par y (List.mem_of_getElem? hp) with k | k
    · exact .inl ⟨k, bindL_get ndP hp hu k⟩
    · obtain ⟨c, e⟩ := cell_has (n := s.heap.objs.size + 1) k
      refine .inr ⟨.inl k, c, e, ?_⟩
      have q := x.cell y c e
      rw [bindC_get ndP hp hu (by show scope.names.lookup y ≠ _; rw [k]; decide)] at q
      exact q
  · exact e0.hok.fresh (Nat.le_of_lt (x.above y c (PySem.mem_of_lookup h)))
  · unfold start
    show _ = N.length
    rw [List.length_append, List.length_map, List.length_replicate]
    omega
theorem fn_of {CX : CXT} {P : Program} {w : World} {K : PySem.W.Frag} {mg : Str → Option Value} {base : Heap} {k : Nat} {f : Addr} {name qual : Str} {params : Arguments} {body : List Stmt} {scope : Scope} {dV kV doc pm cdv ct oc : Value} {an od : Option Addr}
    {osl : Array (Option Value)} {N ps : List Str} {sp : Sp} (lk : K.lookup f = some ⟨oc, od, .func (PySem.W.fnOf name qual params body scope dV kV doc pm an cdv ct), osl⟩) (hcd : PySem.W.codeIn K cdv qual = true) (S : FnScope N ps scope)
    (len : ∀ vs H Q E, sp vs H Q E → vs.length = ps.length)
    (hbody : ∀ (A : Around) (outer : List Env) (s : Shared) (H : Hp) (vs : List V) (Q : VK) (E : XK), Room k (A.deeper (envOfC qual scope s.heap.objs.size f cdv)) → sp vs H Q E →
      ∃ t, PSs (cxOf CX P w K mg base N qual scope f cdv A outer s H E) body t ∧ t { nx := fun _ H' => Q .non H', rt := Q } (start N vs) H) :
    FnOk P w K mg base CX (k + 1) f (PySem.W.fnOf name qual params body scope dV kV doc pm an cdv ct) ps sp := by
  refine ⟨len, fun A outer s H args us vs Q E hr e0 hb r hsp => ?_⟩
  have hl := len _ _ _ _ hsp
  have KX : K.In s.heap := e0.mod.kin.keeps fun b o e => (e0.bs b o e).1
  have lim : s.heap.NoLimit := e0.mod.nolimit.keeps fun b o e => (e0.bs b o e).1
  have hkind : ∀ y ∈ ps.zip us, scope.names.lookup y.1 = some .local ∨ (scope.names.lookup y.1 = some .cell ∧ ((cellsFrom (s.heap.objs.size + 1) scope.names []).lookup y.1).isSome = true) := fun ⟨n, v⟩ hy => by
    rcases S.par n (List.of_mem_zip hy).1 with q | q
    · exact .inl q
    · exact .inr ⟨q, PySem.W.cellsFrom_some _ _ _ (.inl q)⟩
  refine codeAny_call_function hr.depth (KX _ _ lk) rfl S.co S.gen rfl (PySem.W.codeRec_of KX hcd) (hb _ _ _ _ ?_)
  refine wpAny_newFunctionEnv_cells S.kind hkind fun env he s1 x => ?_
  subst he
  refine ⟨lim.keeps x.toInCall.keep, codeAny_func ?_⟩
  obtain ⟨t, ht, hq⟩ := hbody A outer s H vs Q E (hr.deeper _) hsp
  have I : Inv (cxOf CX P w K mg base N qual scope f cdv A outer s H E) [] (start N vs) H s1 := inv_start S hr.hd e0 hl r x
  refine wpAny_mono (ht [] s1 (start N vs) H _ I hq) (fun fl s' hs => ?_) fun e s' hs => hs
  have fin : ∀ {σ' : St} {H' : Hp} {v : V} {u : Value}, Inv (cxOf CX P w K mg base N qual scope f cdv A outer s H E) [] σ' H' s' → RelV v u → Q v H' → CE outer P w H s Q u s' :=
    fun {σ' H' v u} J rv q => ⟨v, H', J.os, J.bare, J.base, J.hok, rv, q⟩
  cases fl with
  | ret u =>
    obtain ⟨v, σ', H', J, rv, q⟩ := hs
    exact fin J rv q
  | next =>
    obtain ⟨σ', H', J, q⟩ := hs
    exact fin (v := V.non) (u := Value.none) J rfl q
  | brk =>
    obtain ⟨_, _, _, q⟩ := hs
    exact False.elim q
  | cont =>
    obtain ⟨_, _, _, q⟩ := hs
    exact False.elim q
end L2
namespace L2
open PySem PySem.Spec PyProof.Rows
section
variable {X : Cx} {x : Str} {p pos : Pos} {e : Expr} {es : List Expr} {t : TA} {id T : String} {r : List V → Hp → VK → Prop}
def tCB (r : List V → Hp → VK → Prop) (t : TA) : TE := fun σ H Q => t σ H fun vs H1 => r vs H1 Q
theorem pe_callB (hc : CallR X (.builtin id) r) (hg : Gl X x) (hm : X.mg x = none) (hv : bootBuiltins x = some (.builtin id)) (ha : PA X (e :: es) t) (hn : x ≠ "__name__" := by decide) (hdb : (x == ("__debug__" : Str)) = false := by decide)
    (he : starEach (e :: es) X.env = (false, eval e X.env) :: starEach es X.env := by rfl) (hpl : (backTo pos (starEach es X.env)).any (·.1) = false := by rfl) : PE X (.Call (.Name x p) (e :: es) [] pos) (tCB r t) := by
  intro pins s σ H Q I h
  refine wpAny_Call_Name_kw (ld_blt I hg hm hv ?_ hn hdb)
  exact PyProof.Rows.callWith_builtin1 (thn (ha pos pins s σ H _ I h) fun us s1 ⟨vs, H1, I1, r1, q1⟩ => hc pins s1 σ H1 vs us Q I1 r1 q1) he hpl
end
end L2
namespace HT
open PySem PyProof.Rows
section
open PySem.SeqAt
open PySem.AutoSeq1 (wpAny_loadPart')
open PySem.MeetsSeq PySem.MeetsSeq2 PySem.MeetsSeq3
end
section
variable {prog : Program} {w : World} {A : Around} {E : Value → Shared → Prop} {s : Shared}
end
end HT
namespace L2
open PySem PySem.Spec PyProof.Rows
abbrev TO := St → Hp → (Option Int → Hp → Prop) → Prop
def PO (X : Cx) (e : Option Expr) (t : TO) : Prop :=
  ∀ (pins : List (Addr × Obj)) (s : Shared) (σ : St) (H : Hp) (Q : Option Int → Hp → Prop), Inv X pins σ H s → t σ H Q →
    wpAny (model X.prog X.w) X.A (evalPart e X.env) (fun u s' => ∃ o H', Inv X pins σ H' s' ∧ IsPart u o ∧ Q o H') X.xe s
section
variable {X : Cx} {e : Expr} {te : TE} {lo hi : Option Expr} {tl th : TO} {pos p2 : Pos}
end
end L2
namespace L2
open PySem PySem.Spec PyProof.Rows
def ixN (n : Nat) (i : Int) : Option Nat := if 0 ≤ i then (if i < n then some i.toNat else none) else if -(n : Int) ≤ i then some (i + n).toNat else none
def atI {α : Type} (xs : List α) (i : Int) : Option α := (ixN xs.length i).bind fun j => xs[j]?
theorem ixN_seq {n : Nat} {i : Int} {j : Nat} (h : ixN n i = some j) : seqIndex? i n = some j ∧ j < n ∧ -(n : Int) ≤ i ∧ i < n := by
  unfold ixN at h
  by_cases h0 : 0 ≤ i
  · rw [if_pos h0] at h
    by_cases h1 : i < n
    · rw [if_pos h1] at h
      have e : i.toNat = j := Option.some.inj h
      exact ⟨by rw [seqIndex_of h0 h1, e], by omega, by omega, h1⟩
    · rw [if_neg h1] at h; cases h
  · rw [if_neg h0] at h
    by_cases h1 : -(n : Int) ≤ i
    · rw [if_pos h1] at h
      have e : (i + n).toNat = j := Option.some.inj h
      exact ⟨by rw [seqIndex_neg (by omega) h1, e], by omega, h1, by omega⟩
    · rw [if_neg h1] at h; cases h
theorem atI_get {α : Type} {xs : List α} {i : Int} {v : α} (h : atI xs i = some v) : ∃ j, seqIndex? i xs.length = some j ∧ xs[j]? = some v ∧ j < xs.length ∧ -(xs.length : Int) ≤ i ∧ i < xs.length := by
  unfold atI at h
  cases e : ixN xs.length i with
  | none => rw [e] at h; cases h
  | some j =>
    rw [e] at h
    obtain ⟨h1, h2, h3, h4⟩ := ixN_seq e
    exact ⟨j, h1, h, h2, h3, h4⟩
theorem atI_nat {α : Type} {xs : List α} {j : Nat} {v : α} (h : xs[j]? = some v) : atI xs (j : Int) = some v := by
  have hj : j < xs.length := (List.getElem?_eq_some_iff.mp h).1
  have e : ixN xs.length (j : Int) = some j := by
    unfold ixN
    rw [if_pos (by omega), if_pos (by omega)]; simp
  unfold atI; rw [e]; exact h
def PlainIx (b : Expr) : Prop := ∀ o i, subscripted b false o i = operate [o, i] (getItem o i)
def IxR (X : Cx) (r : R2) : Prop :=
  ∀ (value slice : Expr) (pins : List (Addr × Obj)) (s : Shared) (σ : St) (H : Hp) (x y : V) (v u : Value) (Q : VK), Inv X pins σ H s → RelV x v → RelV y u → r x y H Q →
    subscripted slice false v u = operate [v, u] (getItem v u) → wpAny (model X.prog X.w) X.A (subscriptTail value slice v u) (EP X pins σ Q) X.xe s
def MtR (X : Cx) (id : String) (r : V → List V → Hp → VK → Prop) : Prop :=
  ∀ (pins : List (Addr × Obj)) (s : Shared) (σ : St) (H : Hp) (x : V) (xs : List V) (v : Value) (us : List Value) (Q : VK), Inv X pins σ H s → RelV x v → Vals xs us → r x xs H Q →
    wpAny (model X.prog X.w) X.A (call (.builtin id) (v :: us)) (EP X pins σ Q) X.xe s
section
variable {X : Cx} {a b : Expr} {ta tb : TE} {pos : Pos}
theorem pe_ix {r : R2} (hr : IxR X r) (ha : PE X a ta) (hb : PE X b tb) (hs : PlainIx b) : PE X (.Subscript a b pos) (tOp r ta tb) := by
  intro pins s σ H Q I h
  exact Subscript_ (binT ha hb I h fun v u s2 x y H2 I2 rx ry q => hr a b pins s2 σ H2 x y v u Q I2 rx ry q (hs _ _))
def rIxL (K : PySem.W.Frag) : R2 := fun x y H Q => ∃ p xs i v, x = .ref p ∧ y = .int i ∧ SqL K H p xs ∧ atI xs i = some v ∧ Q v H
def rIxT (K : PySem.W.Frag) : R2 := fun x y H Q => ∃ p xs i v, x = .ref p ∧ y = .int i ∧ SqT K H p xs ∧ atI xs i = some v ∧ Q v H
theorem ix_list : IxR X (rIxL X.K) := by
  intro value slice pins s σ H x y v u Q I rx ry h hs
  obtain ⟨p, xs, i, z, rfl, rfl, hq, he, q⟩ := h
  cases rx
  obtain ⟨t, rfl⟩ := ry
  obtain ⟨its, r, pl, hz⟩ := I.list hq
  obtain ⟨j, h1, h2, h3, h4, h5⟩ := atI_get he
  obtain ⟨w, ew, rw'⟩ := r.get h2
  have hl := r.length
  have hn := line63
  have fin : EP X pins σ Q w s := ⟨z, H, I, rw', q⟩
  by_cases h0 : 0 ≤ i
  · have hj : i.toNat = j := by
      rw [seqIndex_of h0 h5] at h1
      exact Option.some.inj h1
    exact item_listR pl.isList h0 (by omega) (by rw [hj]; simpa using ew) fin hs
  · have hj : (i + (its.toArray.size : Int)).toNat = j := by
      rw [seqIndex_neg (by omega) h4] at h1
      rw [List.size_toArray, ← hl]
      exact Option.some.inj h1
    exact subscriptTail_builtinR (x := w) pl.isList.typeIs slot_list_getitem.lookup
      (wpAny_getItem_list_neg (Q := fun r s' => r = w ∧ EP X pins σ Q r s') pl.isList (by omega) (by rw [List.size_toArray] <;> omega) (by omega) (by rw [hj]; simpa using ew) ⟨rfl, fin⟩) hs
theorem ix_tup : IxR X (rIxT X.K) := by
  intro value slice pins s σ H x y v u Q I rx ry h hs
  obtain ⟨p, xs, i, z, rfl, rfl, hq, he, q⟩ := h
  cases rx
  obtain ⟨t, rfl⟩ := ry
  obtain ⟨its, r, pl, hz⟩ := I.tuple hq
  obtain ⟨j, h1, h2, h3, h4, h5⟩ := atI_get he
  obtain ⟨w, ew, rw'⟩ := r.get h2
  have hl := r.length
  have hn := line63
  have fin : EP X pins σ Q w s := ⟨z, H, I, rw', q⟩
  exact subscriptTail_builtinR (x := w) pl.typeIs slot_tuple_getitem.lookup
    (getItem_tuple (j := j) (Q := fun r s' => r = w ∧ EP X pins σ Q r s') pl (by omega) (by omega) (by rw [List.size_toArray, ← hl]; exact h1) (by simpa using ew) ⟨rfl, fin⟩) hs
theorem Inv.lst {pins : List (Addr × Obj)} {σ : St} {H : Hp} {s : Shared} {p : Addr} {xs : List V} (I : Inv X pins σ H s) (h : H p = some (.lst xs)) :
    ∃ (its : List Value) (n : Nat), Vals xs its ∧ s.heap.get? p = some { cls := .type "list", data := .seq its.toArray n } ∧ xs.length ≤ sizeLine := by
  obtain ⟨z, its, n, r, e⟩ := I.hok p _ h
  exact ⟨its, n, r, e, z⟩
def tyV (K : PySem.W.Frag) (T : String) (x : V) (H : Hp) : Prop := match x with
  | .str _ => T = "str"
  | .int _ => T = "int"
  | .ref p => (T = "list" ∧ ∃ xs, SqL K H p xs) ∨ (T = "tuple" ∧ ∃ o, K.lookup p = some o ∧ o.cls = .type "tuple" ∧ o.dict = none) ∨
      (T = "dict" ∧ ((∃ kvs, H p = some (.dK kvs)) ∨ ∃ kvs, H p = some (.dT kvs))) ∨ (T = "set" ∧ ∃ S n, H p = some (.set S n))
  | _ => False
theorem tyV_is {pins : List (Addr × Obj)} {σ : St} {H : Hp} {s : Shared} {T : String} {x : V} {v : Value} (I : Inv X pins σ H s) (r : RelV x v) (ty : tyV X.K T x H) :
    s.TypeIs v T ∧ ∀ a, v = .ref a → ∃ ob, s.heap.get? a = some ob ∧ ob.dict = none := by
  cases x with
  | str z =>
    obtain ⟨t, rfl⟩ := r
    cases (show T = "str" from ty)
    exact ⟨typeIs_str s z t, fun _ e => nomatch e⟩
  | int i =>
    obtain ⟨t, rfl⟩ := r
    cases (show T = "int" from ty)
    exact ⟨typeIs_int s i t, fun _ e => nomatch e⟩
  | ref p =>
    cases r
    rcases ty with ⟨rfl, xs, hq⟩ | ⟨rfl, o, hk, hc, hd⟩ | ⟨rfl, hk⟩ | ⟨rfl, S, n, hk⟩
    · obtain ⟨its, _, pl, _⟩ := I.list hq
      refine ⟨pl.isList.typeIs, fun a e => ?_⟩
      cases e
      obtain ⟨o, n, e, c, hd, _⟩ := pl
      exact ⟨o, e, hd⟩
    · refine ⟨⟨o, I.kIn p o hk, hc⟩, fun a e => ?_⟩
      cases e
      exact ⟨o, I.kIn _ o hk, hd⟩
    · have z : ∃ o, s.heap.get? p = some o ∧ o.ExactDict := by
        rcases hk with ⟨kvs, hk⟩ | ⟨kvs, hk⟩
        · obtain ⟨_, _, _, _, o, _, _, e, ex, _⟩ := I.hok p _ hk
          exact ⟨o, e, ex⟩
        · obtain ⟨_, _, _, _, o, _, _, e, ex, _⟩ := I.hok p _ hk
          exact ⟨o, e, ex⟩
      obtain ⟨o, e, ex⟩ := z
      refine ⟨⟨o, e, ex.1⟩, fun a e2 => ?_⟩
      cases e2
      exact ⟨o, e, ex.2.1⟩
    · obtain ⟨o, _, _, _, e, ex, _⟩ := I.hok p _ hk
      refine ⟨⟨o, e, ex.1⟩, fun a e2 => ?_⟩
      cases e2
      exact ⟨o, e, ex.2.1⟩
  | _ => exact False.elim ty
def tBM0 (K : PySem.W.Frag) (T : String) (r : V → List V → Hp → VK → Prop) (to : TE) : TE := fun σ H Q => to σ H fun x H1 => tyV K T x H1 ∧ r x [] H1 Q
variable {o e : Expr} {es : List Expr} {to : TE} {t : TA} {name : Str} {apos cpos : Pos} {T id : String} {r : V → List V → Hp → VK → Prop}
theorem pe_bm0 (pa : PlainAttrs T) (slot : Slot T name id) (hty : typeOf (.builtin id) = pure (.type "method_descriptor")) (hm : MtR X id r) (ho : PE X o to)
    (hbase : attributeBase o name X.env (eval o X.env) = eval o X.env := by rfl) (hline : (apos.endLine == cpos.line) = true := by rfl) : PE X (.Call (.Attribute o name apos) [] [] cpos) (tBM0 X.K T r to) := by
  intro pins s σ H Q I h
  refine wpAny_Call_method0_late hbase hline (thn (ho pins s σ H _ I h) fun v s1 ⟨x, H1, I1, r1, ty, q1⟩ => ?_)
  obtain ⟨h1, h2⟩ := tyV_is I1 r1 ty
  exact ⟨T, id, pa, slot, hty, h1, h2, Calls.callWith_builtin rfl (PySem.evalArgs_none (hm pins s1 σ H1 x [] v [] Q I1 r1 .nil q1))⟩
end
end L2
namespace L2
open PySem PySem.Spec PyProof.Rows
def MtM (X : Cx) (id : String) (r : V → List V → Hp → VK → Prop) : Prop :=
  ∀ (pins : List (Addr × Obj)) (s : Shared) (σ : St) (H : Hp) (x : V) (xs : List V) (v : Value) (us : List Value) (Q : VK), Inv X pins σ H s → RelV x v → Vals xs us → r x xs H Q →
    wpAny (model X.prog X.w) X.A (call (.builtin id) (v :: us)) (EP X pins σ Q) X.xe s
theorem Vals.one : ∀ {x : V} {us : List Value}, Vals [x] us → ∃ u, us = [u] ∧ RelV x u
  | _, _, .cons r .nil => ⟨_, rfl, r⟩
theorem Vals.zero : ∀ {us : List Value}, Vals [] us → us = []
  | _, .nil => rfl
theorem Vals.reverse {xs : List V} {us : List Value} (h : Vals xs us) : Vals xs.reverse us.reverse := by
  induction h with
  | nil => exact .nil
  | cons r t ih => rw [List.reverse_cons, List.reverse_cons]; exact Vals.append ih (.cons r .nil)
section
variable {X : Cx} {pins : List (Addr × Obj)} {σ : St} {H : Hp} {s : Shared} {l b : Addr} {xs ys zs : List V}
theorem Inv.lset {its its' : List Value} {n : Nat} {f : Array Value → Array Value} {t' : Nat} (I : Inv X pins σ H s) (hH : H l = some (.lst xs))
    (e : s.heap.get? l = some { cls := .type "list", data := .seq its.toArray n }) (hf : f its.toArray = its'.toArray) (hv : Vals ys its') (hz : ys.length ≤ sizeLine) :
    Inv X pins σ (upd H l (.lst ys)) { s with heap := s.heap.update l (Obj.mapSeq f), toks := t' } := by
  have q := PySem.IsL.update e f
  rw [hf] at q
  refine I.write (x := l) (e := l) (by rw [hH]; exact trivial) (.inl rfl) (fun b' u hb hu => (Heap.get?_update_other s.heap (Obj.mapSeq f) (Ne.symm hb)).trans hu) ⟨_, q⟩ ?_
  exact ⟨hz, its', _, hv, q⟩
theorem Inv.fresh (I : Inv X pins σ H s) : H s.heap.objs.size = none := I.hok.fresh (Nat.le_refl _)
theorem Inv.lstM (I : Inv X pins σ H s) (hH : H l = some (.lst xs)) : xs.length ≤ sizeLine ∧ ∃ (its : List Value) (n : Nat), Vals xs its ∧ xs.length = its.length ∧ s.heap.get? l = some { cls := .type "list", data := .seq its.toArray n } := by
  obtain ⟨z, its, n, r, e⟩ := I.hok l _ hH
  exact ⟨z, its, n, r, r.length, e⟩
end
section
variable {X : Cx}
def rAppend : V → List V → Hp → VK → Prop := fun x vs H Q => ∃ l xs y, x = .ref l ∧ vs = [y] ∧ H l = some (.lst xs) ∧ xs.length < sizeLine ∧ Q .non (upd H l (.lst (xs ++ [y])))
theorem mt_append : MtM X "list.append" rAppend := by
  intro pins s σ H x vs v us Q I rx rv h
  obtain ⟨l, xs, y, rfl, rfl, hH, hz, q⟩ := h
  cases rx
  obtain ⟨u, rfl, ru⟩ := rv.one
  obtain ⟨z, its, n, r, hl, e⟩ := I.lstM hH
  refine call_meets F.slot_list_append ⟨_, e, rfl⟩ F.entry_list_append (F.args_list_append_2 _ _) (PySem.list_append l its.toArray n u (by rw [List.size_toArray]; omega)) ⟨e, ?_⟩
  refine ⟨.non, _, I.lset (its' := its ++ [u]) hH e (by simp) (r.append (.cons ru .nil)) ?_, rfl, q⟩
  rw [List.length_append, List.length_singleton]
  omega
def rClear : V → List V → Hp → VK → Prop := fun x vs H Q => ∃ l xs, x = .ref l ∧ vs = [] ∧ H l = some (.lst xs) ∧ Q .non (upd H l (.lst []))
theorem mt_clear : MtM X "list.clear" rClear := by
  intro pins s σ H x vs v us Q I rx rv h
  obtain ⟨l, xs, rfl, rfl, hH, q⟩ := h
  cases rx
  have hus := rv.zero
  subst hus
  obtain ⟨z, its, n, r, hl, e⟩ := I.lstM hH
  refine call_meets F.slot_list_clear ⟨_, e, rfl⟩ F.entry_list_clear (F.args_list_clear_1 _) (AutoSeq1.list_clear_list_0 l its.toArray n (by rw [List.size_toArray]; omega)) ⟨e, ?_⟩
  exact ⟨.non, _, I.lset (its' := []) (ys := []) hH e rfl .nil (Nat.zero_le _), rfl, q⟩
end
section
variable {prog : Program} {w : World} {A : Around} {E : Value → Shared → Prop} {s : Shared}
end
section
variable {X : Cx}
end
end L2
namespace L2
open PySem PySem.Spec PyProof.Rows
section
variable {κ : Type} [DecidableEq κ]
def valV (kvs : List (κ × V)) (k : κ) : Option V := (kvs.find? fun kv => decide (kv.1 = k)).map (·.2)
def putK (kvs : List (κ × V)) (k : κ) (v : V) : List (κ × V) :=
  if (kvs.any fun kv => decide (kv.1 = k)) = true then kvs.map (fun kv => if kv.1 = k then (kv.1, v) else kv) else kvs ++ [(k, v)]
def dropK (kvs : List (κ × V)) (k : κ) : List (κ × V) := kvs.filter fun kv => decide (kv.1 ≠ k)
theorem RelO.getD {o : Option V} {u : Option Value} {d : V} {d' : Value} (r : RelO o u) (rd : RelV d d') : RelV (o.getD d) (u.getD d') := by
  cases o with
  | none => cases u with
    | none => exact rd
    | some _ => exact (show False from r).elim
  | some _ => cases u with
    | none => exact (show False from r).elim
    | some _ => exact r
theorem KV.any {kvs : List (κ × V)} {vs : List (κ × Value)} (r : KV kvs vs) (k : κ) : (kvs.any fun kv => decide (kv.1 = k)) = vs.any fun kv => decide (kv.1 = k) := by
  unfold KV at r
  induction r with
  | nil => rfl
  | cons h t ih => rw [List.any_cons, List.any_cons, ih, h.1]
theorem KV.drop {kvs : List (κ × V)} {vs : List (κ × Value)} (r : KV kvs vs) (k : κ) : KV (dropK kvs k) (without vs k) := by
  unfold KV at r ⊢
  unfold dropK without
  induction r with
  | nil => exact .nil
  | @cons p q ps qs h t ih =>
    obtain ⟨h1, h2⟩ := h
    rw [List.filter_cons, List.filter_cons]
    by_cases e : p.1 = k
    · have a : ¬ decide (p.1 ≠ k) = true := by simp [e]
      have b : ¬ decide (q.1 ≠ k) = true := by simp [h1.symm.trans e]
      rw [if_neg a, if_neg b]; exact ih
    · have e' : ¬ q.1 = k := fun z => e (h1.trans z)
      have a : decide (p.1 ≠ k) = true := by simp [e]
      have b : decide (q.1 ≠ k) = true := by simp [e']
      rw [if_pos a, if_pos b]; exact .cons ⟨h1, h2⟩ ih
theorem KV.length {kvs : List (κ × V)} {vs : List (κ × Value)} (r : KV kvs vs) : kvs.length = vs.length := Paired.length r
end
abbrev KT (H : Hp) : List (List Key × V) → List (List Key × Addr × Value) → Prop := Paired fun p q => p.1 = q.1 ∧ H q.2.1 = some (.tup (p.1.map kV)) ∧ RelV p.2 q.2.2
theorem KT.keeps {H H' : Hp} {kvs : List (List Key × V)} {xs : List (List Key × Addr × Value)} (r : KT H kvs xs) (ht : ∀ b ys, H b = some (.tup ys) → H' b = some (.tup ys)) : KT H' kvs xs :=
  Paired.mapP r fun _ _ z => ⟨z.1, ht _ _ z.2.1, z.2.2⟩
section
variable {P : Program} {w : World} {H : Hp} {h : Heap} {a : Addr}
end
def DGet (H : Hp) (a : Addr) (y : V) (r : Option V) : Prop :=
  (∃ kvs k, Rd H a (.dK kvs) ∧ y = kV k ∧ r = valV kvs k) ∨ ∃ kvs k b, Rd H a (.dT kvs) ∧ y = .ref b ∧ H b = some (.tup (k.map kV)) ∧ r = valV kvs k
def DPut (H : Hp) (a : Addr) (y v : V) (H' : Hp) : Prop :=
  (∃ kvs k, H a = some (.dK kvs) ∧ y = kV k ∧ kvs.length < sizeLine ∧ H' = upd H a (.dK (putK kvs k v))) ∨
  ∃ kvs k b, H a = some (.dT kvs) ∧ y = .ref b ∧ H b = some (.tup (k.map kV)) ∧ kvs.length < sizeLine ∧ H' = upd H a (.dT (putK kvs k v))
theorem DGet.k {H : Hp} {a : Addr} {kvs : List (Key × V)} {k : Key} (e : H a = some (.dK kvs)) : DGet H a (kV k) (valV kvs k) := .inl ⟨kvs, k, .inl e, rfl, rfl⟩
theorem DGet.t {H : Hp} {a b : Addr} {kvs : List (List Key × V)} {k : List Key} (e : H a = some (.dT kvs)) (eb : H b = some (.tup (k.map kV))) : DGet H a (.ref b) (valV kvs k) := .inr ⟨kvs, k, b, .inl e, rfl, eb, rfl⟩
theorem DPut.k {H : Hp} {a : Addr} {kvs : List (Key × V)} {k : Key} {v : V} (e : H a = some (.dK kvs)) (hl : kvs.length < sizeLine) : DPut H a (kV k) v (upd H a (.dK (putK kvs k v))) := .inl ⟨kvs, k, e, rfl, hl, rfl⟩
theorem DPut.t {H : Hp} {a b : Addr} {kvs : List (List Key × V)} {k : List Key} {v : V} (e : H a = some (.dT kvs)) (eb : H b = some (.tup (k.map kV))) (hl : kvs.length < sizeLine) :
    DPut H a (.ref b) v (upd H a (.dT (putK kvs k v))) := .inr ⟨kvs, k, b, e, rfl, eb, hl, rfl⟩
section
variable {X : Cx} {pins : List (Addr × Obj)} {σ : St} {H : Hp} {s : Shared} {a : Addr} {y v : V} {u r : Value} {o : Option V} {A : Around} {E : Value → Shared → Prop}
end
section
variable {X : Cx} {pins : List (Addr × Obj)} {σ : St} {H : Hp} {s : Shared} {a : Addr} {kvs : List (Key × V)} {k : Key} {u : Value} {A : Around} {E : Value → Shared → Prop}
end
section
variable {X : Cx} {o i e value : Expr} {pos pos' tpos : Pos} {td ty tv : TE}
end
section
variable {X : Cx} {pos : Pos}
end
section
variable {X : Cx} {pins : List (Addr × Obj)} {σ : St} {H : Hp} {s : Shared} {a : Addr} {y d : V} {u r : Value} {o : Option V} {A : Around} {E : Value → Shared → Prop}
end
section
variable {X : Cx} {o e f : Expr} {apos cpos : Pos} {td ty tx : TE}
end
section
variable {X : Cx} {pins : List (Addr × Obj)} {σ : St} {H : Hp} {s : Shared} {a : Addr} {kvs : List (Key × V)} {A : Around} {E : Value → Shared → Prop}
end
section
variable {X : Cx} {pins : List (Addr × Obj)} {σ : St} {H : Hp} {s : Shared} {a : Addr} {y : V} {u : Value} {A : Around} {E : Value → Shared → Prop}
end
end L2
namespace Att
open PySem PySem.W PySem.Calls PyProof.Rows
theorem ints_of_wellAll {P : Params} {h : Heap} : ∀ (ns : List Int) (vs : List Value), WellAll P h vs (ns.map WData.int) → IntsAre vs ns := by
  intro ns
  induction ns with
  | nil =>
    intro vs w
    rw [List.map_nil] at w
    cases w
    exact .nil
  | cons n ns ih =>
    intro vs w
    rw [List.map_cons] at w
    cases w with
    | cons a b =>
      cases a
      exact .cons _ _ (ih _ b)
theorem script_of {l : OpenLaw} {n : Nat} (hn : l.most = some n) {P : Params} {h : Heap} {args : List WData} {vals : List Value}
    (hpre : l.row.toRowW.claim.pre args = true) (hwl : WellAll P h vals args) :
    ∃ a vs ns, vals = [Value.ref a] ∧ args = [WData.list (ns.map WData.int)] ∧ h.get? a = some { cls := .type "list", data := .seq vs.toArray } ∧ IntsAre vs ns ∧ ns.length ≤ n := by
  have hsh : WShape.hasAll [] args [.list .int] = true := (pre_splitW hpre).1
  have hc : l.pre.holds [] { args := args } = true := (pre_splitW hpre).2
  obtain ⟨d, r, rfl, h1, h2⟩ := hasAllW_cons hsh
  obtain rfl := hasAllW_nil h2
  obtain ⟨xs, rfl, h3⟩ := hasW_list h1
  obtain ⟨ns, rfl⟩ := items_int h3
  have hlen : ns.length ≤ n := by
    unfold OpenLaw.pre at hc
    have h4 : (WTm.not (.lt (.lit (.int (n : Int))) (.len (.arg 0)))).holds [] { args := [.list (ns.map .int)] } = true := by
      have h4 := (holds_andW hc).1
      rw [hn] at h4
      exact h4
    have h5 := condW_of h4 (w_not (w_lt w_lit (w_len_list (w_arg rfl))))
    rw [List.length_map] at h5
    refine Nat.le_of_not_lt fun q => ?_
    have q' : (n : Int) < ((ns.length : Nat) : Int) := by omega
    first
      | (rw [decide_eq_true q'] at h5; exact absurd h5 (by decide))
      | (simp at h5; omega)
  cases hwl with
  | cons w1 w2 =>
    cases w2
    cases w1 with
    | list ho hall => exact ⟨_, _, ns, rfl, rfl, ho, ints_of_wellAll ns _ hall, hlen⟩
theorem post_true (l : OpenLaw) (args : List WData) : l.row.toRowW.claim.post args (.bool true) args = true :=
  postW_of (r := l.row.toRowW) (X := (true == true))
    (show WShape.has [] (.bool true) .bool = true by first | rfl | decide | simp [WShape.has, WShape.arms, WShape.armsAll])
    (show (WTm.eq .res (.lit (.bool true))).value [] { args := args, res := some (.bool true), after := args } = some (.bool (true == true)) from w_eq_bool (w_res rfl) w_lit) rfl
theorem attach_call {l : OpenLaw} {n : Nat} {q : Program} {loose : List Str} {XP : (Str → Option Value) → Heap → Prop} {YP : World → Heap → Prop} {d : DefRec}
    (hn : l.most = some n) (hdf : d.params.defaults = [])
    (call : ∀ (w : World) (s₀ s₁ : Shared) (mg mb : Str → Option Value) (fa : Addr) (o : Obj) (pm cd doc : Value) (a : Addr) (vs : List Value) (ns : List Int),
      Ground q loose [] XP w s₀ mg mb s₁.heap → YP w s₁.heap →
      s₁.heap.get? fa = some o → o.data = .func (docDef d.name d.params d.body d.scope pm cd doc) → s₁.heap.CodeRec cd d.name → mg d.name = some (.ref fa) →
      s₁.heap.get? a = some { cls := .type "list", data := .seq vs.toArray } → IntsAre vs ns → ns.length ≤ n → s₁.gens = #[] →
      codeAny (model l.prog w) callerA (.call (.ref fa) ⟨[.ref a], []⟩) (fun r s' => r = .ok (.ret (.bool true)) ∧ OldK s₁.heap s'.heap ∧ s'.os = s₁.os ∧ AllBare s'.gens) s₁) :
    WalkO q loose XP YP l.row.toRowW d [] (fun f vs => PySem.call f vs) := by
  intro w s₀ s₁ mg mb G Y fa o pm cd doc dV kV ho hd hcd hD hmg hg args vals as hpre hlay hrd hwl hlo
  obtain rfl : dV = .none := Dflts.none hD hdf
  obtain rfl : kV = .none := Dflts.noKw hD
  obtain ⟨a, vs, ns, rfl, rfl, hobj, hints, hlen⟩ := script_of hn hpre hwl
  refine enter_call (codeAny_mono (call w s₀ s₁ mg mb fa o pm cd doc a vs ns G Y ho (fd_plain hd) hcd hmg hobj hints hlen hg) fun r s' hq => ?_)
  obtain ⟨rfl, h2, h3, h4⟩ := hq
  exact ⟨.inl ⟨.bool true, .bool true, [], rfl, fun _ => rfl, .bool true, post_true l _, fun _ => ⟨List.Pairwise.nil, fun _ hm => (nomatch hm)⟩⟩, h2, h3, h4⟩
section
variable {prog : Program} {w : World} {A : Around} {E : Value → Shared → Prop} {s : Shared} {K : Frag}
end
end Att
namespace L2
open PySem PySem.Spec PyProof.Rows
theorem vals_ints : ∀ {vs : List Value} {ns : List Int}, IntsAre vs ns → Vals (ns.map V.int) vs
  | _, _, .nil => .nil
  | _, _, .cons n t h => .cons ⟨t, rfl⟩ (vals_ints h)
def Only (H : Hp) : Prop := ∀ b, H b = none ∨ ∃ o xs, H b = some (.frz o (.lst xs))
theorem law_call {P : Program} {w : World} {K : PySem.W.Frag} {mg mb : Str → Option Value} {CX : CXT} {k : Nat} {fa a : Addr} {fd : FuncData} {x : Str} {sp : Sp} {s₁ : Shared} {vs : List Value} {ns : List Int}
    (KX : K.In s₁.heap) (hns : s₁.heap.Ns mainGlobals mg) (hb : s₁.heap.Ns builtinsNs mb) (hbb : ∀ x : Str, x ≠ "__name__" → mb x = bootBuiltins x) (hlim : s₁.heap.NoLimit) (hg : s₁.gens = #[])
    (ha : s₁.heap.get? a = some { cls := .type "list", data := .seq vs.toArray }) (hi : IntsAre vs ns) (hl : ns.length ≤ sizeLine) (hr : Room k callerA)
    (F : ∀ base : Heap, K.In base → base.Ns mainGlobals mg → FnOk P w K mg base CX k fa fd [x] sp) (hbind : ∀ (s : Shared) (u : Value), BindsTo s fd ⟨[u], []⟩ [(x, u)])
    (hsp : ∀ H : Hp, Only H → SqL K H a (ns.map V.int) → sp [.ref a] H (fun v _ => v = .bl true) fun _ _ _ => False)
    (hCX : ∀ H e s', CX [] H s₁ (fun _ _ _ => False) e s' → False) :
    codeAny (model P w) callerA (.call (.ref fa) ⟨[.ref a], []⟩) (fun r s' => r = .ok (.ret (.bool true)) ∧ OldK s₁.heap s'.heap ∧ s'.os = s₁.os ∧ AllBare s'.gens) s₁ := by
  have rv := vals_ints hi
  have lenV := hi.length
  have core : ∀ H : Hp, Only H → SqL K H a (ns.map V.int) → HOk P w H s₁.heap → (∀ b, H b ≠ none → b = a) → (H a ≠ none → K.lookup a = none) →
      codeAny (model P w) callerA (.call (.ref fa) ⟨[.ref a], []⟩) (fun r s' => r = .ok (.ret (.bool true)) ∧ OldK s₁.heap s'.heap ∧ s'.os = s₁.os ∧ AllBare s'.gens) s₁ := by
    intro H hO hS hok hA hK
    have base_of : ∀ {b : Addr} {o : Obj}, s₁.heap.get? b = some o → H b = none → (hidT s₁.heap H).get? b = some o := fun e n => hidT_get e n
    have noA : ∀ {b : Addr} {o : Obj} {es : Array DictEntry} {ep : Nat}, s₁.heap.get? b = some o → o.data = .dict es ep → H b = none := fun {b o es ep} e d => by
      cases q : H b with
      | none => rfl
      | some u =>
        have e' : b = a := hA b (by rw [q]; simp)
        subst e'
        rw [ha] at e; cases e
        have d' : Data.seq vs.toArray _ = Data.dict es ep := d
        cases d'
    have nsK : ∀ {b : Addr} {m : Str → Option Value}, s₁.heap.Ns b m → (hidT s₁.heap H).Ns b m := fun {b m} ⟨o, es, ep, e, d, r⟩ => ⟨o, es, ep, base_of e (noA e d), d, r⟩
    have hKb : K.In (hidT s₁.heap H) := fun b o e => base_of (KX b o e) (by
      cases q : H b with
      | none => rfl
      | some u =>
        have e' : b = a := hA b (by rw [q]; simp)
        subst e'
        rw [hK (by rw [q]; simp)] at e; cases e)
    have hM : Mod K mg (hidT s₁.heap H) := ⟨hKb, nsK hns, ⟨mb, nsK hb, hbb⟩, let ⟨mc, h1, h2⟩ := hlim; ⟨mc, nsK h1, h2⟩⟩
    have e0 : Env0 P w K mg (hidT s₁.heap H) callerA [] s₁ H := ⟨rfl, hM, fun b o e => of_hidT e, Nat.le_of_eq (hidT_size _ _), trivial, fun b hb => absurd (show b ∈ ([] : List Addr) from hb) (by simp), hok, .of_eq hg⟩
    refine codeAny_mono ((F _ hKb (nsK hns)).run callerA [] s₁ H ⟨[.ref a], []⟩ [.ref a] [.ref a] _ _ hr e0 (hbind s₁ (.ref a)) (.cons rfl .nil) (hsp H hO hS)) fun r s' h => ?_
    cases r with
    | error e => exact (hCX H e s' h).elim
    | ok fl =>
      cases fl with
      | next => exact False.elim h
      | brk => exact False.elim h
      | cont => exact False.elim h
      | ret u =>
        obtain ⟨v, H', os, bare, un, hok', r', q⟩ := h
        have q' : v = .bl true := q
        subst q'
        obtain rfl : u = Value.bool true := r'
        refine ⟨rfl, OldK.of_keep fun b o e => ?_, os, bare⟩
        cases q : H b with
        | none => exact un.keep b o e q (by intro z; exact absurd (show b ∈ ([] : List Addr) from z) (by simp)) (by simp)
        | some u =>
          rcases hO b with z | ⟨ob, xs, z⟩
          · rw [q] at z; cases z
          · have z2 := un.frzs b ob _ z
            obtain ⟨e1, _⟩ := hok b _ z
            obtain ⟨e2, _⟩ := hok' b _ z2
            rw [e] at e1; cases e1
            exact e2
  cases hk : K.lookup a with
  | some o =>
    have e := KX a o hk
    rw [ha] at e
    cases e
    refine core (fun _ => none) (fun _ => .inl rfl) (.inr ⟨_, vs.toArray, _, hk, rfl, rfl, rfl, by rw [List.size_toArray, lenV]; exact hl, by simpa using rv⟩) (fun b u z => by have z' : (none : Option HO) = some u := z; cases z') (fun b z => absurd rfl z) fun z => absurd rfl z
  | none =>
    refine core (fun b => if b = a then some (.frz { cls := .type "list", data := .seq vs.toArray } (.lst (ns.map V.int))) else none) (fun b => ?_) (.inl (.inr ⟨{ cls := .type "list", data := .seq vs.toArray }, if_pos rfl⟩)) (fun b u z => ?_) (fun b z => ?_) fun _ => hk
    · by_cases hb : b = a
      · exact .inr ⟨_, _, if_pos hb⟩
      · exact .inl (if_neg hb)
    · by_cases hb : b = a
      · have z' := (if_pos hb).symm.trans z
        cases z'
        subst hb
        exact ⟨ha, by rw [List.length_map]; exact hl, vs, _, rv, ha⟩
      · have z' := (if_neg hb).symm.trans z
        cases z'
    · by_cases hb : b = a
      · exact hb
      · exact absurd (if_neg hb) z
end L2
namespace L2
open PySem PySem.Spec PyProof.Rows
abbrev KOf {K : PySem.W.Frag} {h : Heap} (_ : K.In h) : PySem.W.Frag := K
theorem walk_of {l : PySem.W.OpenLaw} {n k : Nat} {q : Program} {loose : List Str} {XP : (Str → Option Value) → Heap → Prop} {YP : World → Heap → Prop} {d : DefRec} {K : Params → PySem.W.Frag} {CX : World → CXT} {sp : World → Sp} {x : Str}
    (hn : l.most = some n) (hn2 : n ≤ sizeLine) (hdf : d.params.defaults = []) (hr : Room k callerA)
    (hY : ∀ (w : World) (h : Heap), YP w h → (K w.params).In h)
    (F : ∀ (w : World) (mg : Str → Option Value) (fa : Addr) (h : Heap), (K w.params).In h → h.Ns mainGlobals mg → mg d.name = some (.ref fa) →
      ∃ fd : FuncData, (∀ (s : Shared) (u : Value), BindsTo s fd ⟨[u], []⟩ [(x, u)]) ∧
        ∀ base : Heap, (K w.params).In base → base.Ns mainGlobals mg → FnOk l.prog w (K w.params) mg base (CX w) k fa fd [x] (sp w))
    (hsp : ∀ (w : World) (H : Hp) (a : Addr) (ns : List Int), ns.length ≤ n → Only H → SqL (K w.params) H a (ns.map V.int) → sp w [.ref a] H (fun v _ => v = .bl true) fun _ _ _ => False)
    (hCX : ∀ (w : World) (H : Hp) (s : Shared) (e : Value) (s' : Shared), CX w [] H s (fun _ _ _ => False) e s' → False) :
    PySem.W.WalkO q loose XP YP l.row.toRowW d [] (fun f vs => PySem.call f vs) := by
  refine Att.attach_call hn hdf fun w s₀ s₁ mg mb fa o pm cd doc a vs ns G Y ho hd hcd hmg hobj hints hlen hg => ?_
  have KX := hY w _ Y
  obtain ⟨fd, hb, hF⟩ := F w mg fa _ KX G.T.g hmg
  exact law_call KX G.T.g G.T.b G.T.builtins G.T.nolimit hg hobj hints (Nat.le_trans hlen hn2) hr hF hb (fun H hO hS => hsp w H a ns hlen hO hS) fun H e s' => hCX w H s₁ e s'
theorem walk_ofK {l : PySem.W.OpenLaw} {n k : Nat} {q : Program} {loose : List Str} {XP : (Str → Option Value) → Heap → Prop} {YP : World → Heap → Prop} {d : DefRec} {K : Params → PySem.W.Frag} {CX : CXT} {sp : PySem.W.Frag → Sp} {x : Str}
    (hn : l.most = some n) (hn2 : n ≤ sizeLine) (hdf : d.params.defaults = []) (hr : Room k callerA)
    (hY : ∀ (w : World) (h : Heap), YP w h → (K w.params).In h)
    (F : ∀ (w : World) (mg : Str → Option Value) (fa : Addr) (h : Heap), (K w.params).In h → h.Ns mainGlobals mg → mg d.name = some (.ref fa) →
      ∃ fd : FuncData, (∀ (s : Shared) (u : Value), BindsTo s fd ⟨[u], []⟩ [(x, u)]) ∧
        ∀ base : Heap, (K w.params).In base → base.Ns mainGlobals mg → FnOk l.prog w (K w.params) mg base CX k fa fd [x] (sp (K w.params)))
    (hsp : ∀ (K : PySem.W.Frag) (H : Hp) (a : Addr) (ns : List Int), ns.length ≤ n → Only H → SqL K H a (ns.map V.int) → sp K [.ref a] H (fun v _ => v = .bl true) fun _ _ _ => False)
    (hCX : ∀ (H : Hp) (s : Shared) (e : Value) (s' : Shared), CX [] H s (fun _ _ _ => False) e s' → False) :
    PySem.W.WalkO q loose XP YP l.row.toRowW d [] (fun f vs => PySem.call f vs) :=
  walk_of (K := K) (CX := fun _ => CX) (sp := fun w => sp (K w.params)) hn hn2 hdf hr hY F (fun w H a ns h1 h2 h3 => hsp (K w.params) H a ns h1 h2 h3) fun _ H s e s' => hCX H s e s'
end L2
namespace L2
open PySem PySem.Spec PyProof.Rows
def defArgs (s : Stmt) : Arguments := match s with
  | .FunctionDef _ a _ _ _ _ _ _ _ _ => a
  | _ => { posonlyargs := [], args := [], vararg := none, kwonlyargs := [], kw_defaults := [], kwarg := none, defaults := [] }
def defBody (s : Stmt) : List Stmt := match s with
  | .FunctionDef _ _ b _ _ _ _ _ _ _ => b
  | _ => []
def defScope (s : Stmt) : Scope := match s with
  | .FunctionDef _ _ _ _ _ _ sc _ _ _ => sc
  | _ => { kind := .function, names := [], isGenerator := false, isCoroutine := false }
abbrev CX0 : CXT := fun _ _ _ _ _ _ => False
abbrev E0 : XK := fun _ _ _ => False
theorem pass0 {X : Cx} : Passes CX0 X E0 := fun _ _ _ _ _ _ _ h => h.elim
structure Fun (K : PySem.W.Frag) (x qual : Str) (st : Stmt) (f : Addr) (fd : FuncData) : Prop where
  ex : ∃ (oc : Value) (od : Option Addr) (kV doc pm : Value) (an : Option Addr) (cdv ct : Value) (osl : Array (Option Value)),
    fd = PySem.W.fnOf x qual (defArgs st) (defBody st) (defScope st) .none kV doc pm an cdv ct ∧ K.lookup f = some ⟨oc, od, .func fd, osl⟩ ∧ PySem.W.codeIn K cdv qual = true
  kp : PySem.W.keepIn K (.ref f) = true
section
variable {P : Program} {w : World} {K : PySem.W.Frag} {mg : Str → Option Value} {base : Heap}
theorem Fun.ok {x qual : Str} {st : Stmt} {f : Addr} {fd : FuncData} {N ps : List Str} {k : Nat} {sp : Sp} (F : Fun K x qual st f fd) (S : FnScope N ps (defScope st)) (len : ∀ vs H Q E, sp vs H Q E → vs.length = ps.length)
    (hbody : ∀ (cdv : Value) (A : Around) (outer : List Env) (s : Shared) (H : Hp) (vs : List V) (Q : VK) (E : XK), Room k (A.deeper (envOfC qual (defScope st) s.heap.objs.size f cdv)) → sp vs H Q E →
      ∃ t, PSs (cxOf CX0 P w K mg base N qual (defScope st) f cdv A outer s H E).nox (defBody st) t ∧ t { nx := fun _ H' => Q .non H', rt := Q } (start N vs) H) : FnOk P w K mg base CX0 (k + 1) f fd ps sp := by
  obtain ⟨oc, od, kV, doc, pm, an, cdv, ct, osl, rfl, lk, hcd⟩ := F.ex
  refine fn_of lk hcd S len fun A outer s H vs Q E hr hsp => ?_
  obtain ⟨t, h, q⟩ := hbody cdv A outer s H vs Q E hr hsp
  exact ⟨t, h.nox, q⟩
theorem Fun.binds {x qual : Str} {st : Stmt} {f : Addr} {fd : FuncData} {ps : List Str} (F : Fun K x qual st f fd)
    (h : ∀ (kV doc pm : Value) (an : Option Addr) (cdv ct : Value) (us : List Value), us.length = ps.length → bindArgs (PySem.W.fnOf x qual (defArgs st) (defBody st) (defScope st) .none kV doc pm an cdv ct) ⟨us, []⟩ = pure (ps.zip us)) : Binds K fd ps [] := by
  obtain ⟨oc, od, kV, doc, pm, an, cdv, ct, osl, rfl, lk, hcd⟩ := F.ex
  exact .all (h kV doc pm an cdv ct)
theorem fun_mk {x qual : Str} {st : Stmt} {f : Addr} {oc : Value} {od an : Option Addr} {osl : Array (Option Value)} {kV doc pm cdv ct : Value} (l : K.lookup f = some ⟨oc, od, .func (PySem.W.fnOf x qual (defArgs st) (defBody st) (defScope st) .none kV doc pm an cdv ct), osl⟩)
    (c : PySem.W.codeIn K cdv qual = true) (k : PySem.W.keepIn K (.ref f) = true) : Fun K x qual st f (PySem.W.fnOf x qual (defArgs st) (defBody st) (defScope st) .none kV doc pm an cdv ct) := ⟨⟨oc, od, kV, doc, pm, an, cdv, ct, osl, rfl, l, c⟩, k⟩
end
theorem hu_of {A : Around} {k : Nat} (hr : Room k A) : A.units + 1 < cLine := Nat.lt_of_le_of_lt (Nat.add_le_add_left (by decide : 1 ≤ 64) _) hr.units
section
variable {X : Cx}
theorem pv (i : Nat) {x : Str} {pos : Pos} (hN : X.N[i]? = some x := by rfl) (hv : Vis X.env.scope x := by first | exact Or.inl rfl | exact Or.inr (Or.inl rfl) | exact Or.inr (Or.inr rfl)) (hd : (x == ("__debug__" : Str)) = false := by decide)
    (hcd : (x == ("__classdict__" : Str)) = false := by decide) : PE X (.Name x pos) (tVar i) := pe_var hN hv hd hcd
end
theorem iteF {A B : Prop} (h : B) : if false = true then A else B := by
  rw [if_neg Bool.false_ne_true]
  exact h
theorem iteT {A B : Prop} (h : A) : if true = true then A else B := by
  rw [if_pos rfl]
  exact h
def Same (H H' : Hp) : Prop := ∀ b o, H b = some o → H' b = some o
theorem Same.refl (H : Hp) : Same H H := fun _ _ h => h
theorem Same.trans {H H1 H2 : Hp} (a : Same H H1) (b : Same H1 H2) : Same H H2 := fun c o h => b c o (a c o h)
theorem Same.free {H H' : Hp} (e : Same H H') {l : Addr} (h : H' l = Option.none) : H l = Option.none := by
  cases q : H l with
  | none => rfl
  | some o =>
    rw [e l o q] at h
    cases h
theorem Same.seq {K : PySem.W.Frag} {H H' : Hp} {a : Addr} {xs : List V} (e : Same H H') (h : SqL K H a xs) : SqL K H' a xs := by
  rcases h with (h | ⟨o, h⟩) | h
  · exact .inl (.inl (e _ _ h))
  · exact .inl (.inr ⟨o, e _ _ h⟩)
  · exact .inr h
section
variable {κ : Type} [DecidableEq κ]
end
end L2
set_option maxHeartbeats 4000000
namespace L2
open PySem PySem.Spec PyProof.Rows
section
variable {prog : Program} {w : World} {A : Around} {R : Result → Shared → Prop} {s : Shared}
theorem nox_mono {α : Type} {M : Model} {t : Sem α} {Q Q' : α → Shared → Prop} {E : Value → Shared → Prop} (h : wpAny M A t Q (fun _ _ => False) s) (k : ∀ a s, Q a s → Q' a s) : wpAny M A t Q' E s :=
  wpAny_mono h k fun _ _ z => z.elim
theorem compLoop_tg {elt target iter : Expr} {ifs : List Expr} {scope : Scope} {pos : Pos} {it acc : Value} {env : Env} (J : Nat → Shared → Prop)
    (turn : ∀ n s, J n s → wpAny (model prog w) A (pyNext it) (fun r s₁ => match r with
      | none => R (.ok .next) s₁
      | some v => wpAny (model prog w) A (letOwnedTupleGo target it v) (fun _ s₂ => wpAny (model prog w) A (assign target env v) (fun _ s₃ =>
          wpAny (model prog w) A (forIn ifs true fun c r => if r = true then do let ok ← isTrue c env (eval c env); pure (ForInStep.yield ok) else pure (ForInStep.yield r)) (fun ok s₄ =>
            if ok = true then wpAny (model prog w) A (eval elt env) (fun x s₅ =>
              wpAny (model prog w) A (call (.builtin "list.append") [acc, x]) (fun _ s₆ => ∃ m, m < n ∧ J m s₆) (fun _ _ => False) s₅) (fun _ _ => False) s₄
            else ∃ m, m < n ∧ J m s₄) (fun _ _ => False) s₃) (fun _ _ => False) s₂) (fun _ _ => False) s₁) (fun _ _ => False) s)
    (n : Nat) (h : J n s) :
    codeAny (model prog w) A (.compLoop (.ListComp elt [⟨target, iter, ifs, 0⟩] scope pos) 0 it acc env) R s := by
  refine codeAny_loop rfl J (fun n s hI => ?_) n h
  show wpAny _ A ((compTurn (.ListComp elt [⟨target, iter, ifs, 0⟩] scope pos) 0 it acc env).onRaise (fun x => do noteFrame x env; theTreesLotGoes x)) _ _ s
  refine wpAny_noted ?_
  rw [compTurn_list]
  refine wpAny_bind (wpAny_standAt (wpAny_bind (nox_mono (turn n s hI) (fun r s₁ h₁ => ?_))))
  cases r with
  | none => exact wpAny_pure h₁
  | some v =>
    refine wpAny_bind (nox_mono h₁ fun _ s₂ h₂ => wpAny_bind (nox_mono h₂ fun _ s₃ h₃ => wpAny_bind (nox_mono h₃ fun ok s₄ h₄ => ?_)))
    cases ok with
    | false => exact wpAny_pure ⟨rfl, h₄⟩
    | true => exact wpAny_bind (wpAny_bind (nox_mono h₄ fun x s₅ h₅ => wpAny_bind (nox_mono h₅ fun _ s₆ h₆ => wpAny_pure (wpAny_pure ⟨rfl, h₆⟩))))
end
theorem lookup_map_kind {f : Str → NameKind → NameKind} : ∀ (l : List (Str × NameKind)) (x : Str), (l.map fun p => (p.1, f p.1 p.2)).lookup x = (l.lookup x).map (f x)
  | [], _ => rfl
  | (n, k) :: r, x => by
    rw [List.map_cons, List.lookup_cons, List.lookup_cons]
    cases hx : x == n with
    | true =>
      have e : x = n := by simpa using hx
      subst e
      rfl
    | false => exact lookup_map_kind r x
def reKind (env : Env) (n : Str) (k : NameKind) : NameKind := if (k == .free && env.scope.kind == .function && env.kindOf n == some .cell) = true then .cell else k
theorem relabel_lookup (scope : Scope) (env : Env) (x : Str) : (relabel scope env).names.lookup x = (scope.names.lookup x).map (reKind env x) := by
  rw [← lookup_map_kind]
  unfold relabel
  congr 1
  show List.map _ scope.names = List.map _ scope.names
  congr 1
  funext p
  obtain ⟨n, k⟩ := p
  show (if (k == NameKind.free && env.scope.kind == .function && env.kindOf n == some .cell) = true then (n, NameKind.cell) else (n, k)) = (n, reKind env n k)
  unfold reKind
  split <;> rfl
theorem closure_of {env : Env} {f : Str × NameKind → List (Str × Addr) → Sem (ForInStep (List (Str × Addr)))}
    (hf1 : ∀ n c r, cellOf env n = pure c → f (n, .free) r = pure (.yield ((n, c) :: r))) (hf2 : ∀ n k r, k ≠ .free → f (n, k) r = pure (.yield r)) :
    ∀ (l : List (Str × NameKind)) (cs : List (Str × Addr)), (∀ y ∈ l, y.2 = .free → ∃ c, env.cells.lookup y.1 = some c) →
    ∃ cl : List (Str × Addr), forIn l cs f = pure cl ∧
      (∀ x c, cl.lookup x = some c → env.cells.lookup x = some c ∨ cs.lookup x = some c) ∧ (∀ x, (∃ c, cs.lookup x = some c) ∨ (x, NameKind.free) ∈ l → ∃ c, cl.lookup x = some c)
  | [], cs, _ => ⟨cs, rfl, fun _ _ h => .inr h, fun x h => h.elim id fun z => nomatch z⟩
  | (n, k) :: r, cs, h => by
    by_cases hk : k = .free
    · subst hk
      obtain ⟨c, hc⟩ := h (n, .free) List.mem_cons_self rfl
      obtain ⟨cl, h1, h2, h3⟩ := closure_of hf1 hf2 r ((n, c) :: cs) fun y hy => h y (List.mem_cons_of_mem _ hy)
      refine ⟨cl, ?_, fun x c' hx => ?_, fun x hx => h3 x ?_⟩
      · rw [List.forIn_cons, hf1 n c cs (by unfold cellOf; rw [hc])]
        exact h1
      · rcases h2 x c' hx with z | z
        · exact .inl z
        · rw [List.lookup_cons] at z
          cases hxn : x == n with
          | true =>
            rw [hxn] at z
            have e1 : x = n := by simpa using hxn
            have e2 : c = c' := by simpa using z
            subst e1; subst e2
            exact .inl hc
          | false =>
            rw [hxn] at z
            exact .inr z
      · rcases hx with ⟨c', hx⟩ | hx
        · refine .inl ?_
          rw [List.lookup_cons]
          cases hxn : x == n with
          | true => exact ⟨c, rfl⟩
          | false => exact ⟨c', hx⟩
        · rcases List.mem_cons.mp hx with e | e
          · injection e with e1 e2
            subst e1
            exact .inl ⟨c, by simp⟩
          · exact .inr e
    · obtain ⟨cl, h1, h2, h3⟩ := closure_of hf1 hf2 r cs fun y hy => h y (List.mem_cons_of_mem _ hy)
      refine ⟨cl, ?_, h2, fun x hx => h3 x ?_⟩
      · rw [List.forIn_cons, hf2 n k cs hk]
        exact h1
      · rcases hx with hx | hx
        · exact .inl hx
        · rcases List.mem_cons.mp hx with e | e
          · injection e with e1 e2
            exact absurd e2.symm hk
          · exact .inr e
theorem closureFor_of {env : Env} {scope : Scope} (h : ∀ y ∈ scope.names, y.2 = .free → ∃ c, env.cells.lookup y.1 = some c) :
    ∃ cl : List (Str × Addr), closureFor scope env = pure cl ∧ (∀ x c, cl.lookup x = some c → env.cells.lookup x = some c) ∧ (∀ x, (x, NameKind.free) ∈ scope.names → ∃ c, cl.lookup x = some c) := by
  simp only [closureFor]
  obtain ⟨cl, h1, h2, h3⟩ := closure_of (env := env) (f := fun (x : Str × NameKind) (r : List (Str × Addr)) => match x with
      | (name, kind) => if (kind == NameKind.free) = true then (do let a ← cellOf env name; pure (ForInStep.yield ((name, a) :: r))) else pure (ForInStep.yield r))
    (fun n c r e => by
      show (if (NameKind.free == NameKind.free) = true then (do let a ← cellOf env n; pure (ForInStep.yield ((n, a) :: r))) else pure (ForInStep.yield r) : Sem _) = _
      rw [if_pos (by decide), e]
      rfl)
    (fun n k r e => by
      show (if (k == NameKind.free) = true then (do let a ← cellOf env n; pure (ForInStep.yield ((n, a) :: r))) else pure (ForInStep.yield r) : Sem _) = _
      rw [if_neg (by simpa using e)]) scope.names [] h
  refine ⟨cl, ?_, fun x c e => (h2 x c e).elim id fun z => by simp at z, fun x hx => h3 x (.inr hx)⟩
  rw [h1]
  rfl
def Cx.comp (X : Cx) (scope : Scope) (N' : List Str) (cl : List (Str × Addr)) (C : Addr) (s₀ : Shared) (H₀ : Hp) (ex : List Addr) : Cx :=
  { prog := X.prog, w := X.w, K := X.K, mg := X.mg, base := X.base, A := X.A, N := N', s₀ := s₀, H₀ := H₀, env := compEnvC scope cl C X.env, outer := X.stack, stack := X.stack, ex := ex, fn := fun _ => false, calm := X.calm, pn := X.pn, xe := fun _ _ => False }
def iniC (ds : List Nat) (k : Nat) (σ : St) : St := ds.foldl (fun σ i => σ.set i none) σ ++ List.replicate k none
theorem forget_len (ds : List Nat) : ∀ σ : St, (ds.foldl (fun σ i => σ.set i none) σ).length = σ.length := by
  induction ds with
  | nil => intro σ; rfl
  | cons d r ih => intro σ; rw [List.foldl_cons, ih]; simp
theorem forget_get (ds : List Nat) : ∀ (σ : St) (i : Nat) (v : V), (ds.foldl (fun σ i => σ.set i none) σ)[i]? = some (some v) → σ[i]? = some (some v) ∧ i ∉ ds := by
  induction ds with
  | nil => intro σ i v h; exact ⟨h, by simp⟩
  | cons d r ih =>
    intro σ i v h
    rw [List.foldl_cons] at h
    obtain ⟨h1, h2⟩ := ih _ i v h
    by_cases e : d = i
    · subst e
      by_cases hl : d < σ.length
      · rw [List.getElem?_set_self hl] at h1
        cases h1
      · rw [List.getElem?_eq_none_iff.mpr (by rw [List.length_set]; omega)] at h1
        cases h1
    · rw [List.getElem?_set_ne e] at h1
      exact ⟨h1, fun z => (List.mem_cons.mp z).elim (fun q => e q.symm) h2⟩
theorem iniC_get {ds : List Nat} {k : Nat} {σ : St} {i : Nat} {v : V} (h : (iniC ds k σ)[i]? = some (some v)) : σ[i]? = some (some v) ∧ i ∉ ds ∧ i < σ.length := by
  unfold iniC at h
  by_cases hl : i < σ.length
  · rw [List.getElem?_append_left (by rw [forget_len]; exact hl)] at h
    obtain ⟨h1, h2⟩ := forget_get ds σ i v h
    exact ⟨h1, h2, hl⟩
  · rw [List.getElem?_append_right (by rw [forget_len]; omega)] at h
    have := List.getElem?_eq_some_iff.mp h
    obtain ⟨h1, h2⟩ := this
    rw [List.getElem_replicate] at h2
    cases h2
def PTs (X : Cx) (ifs : List Expr) (t : TT) : Prop :=
  ∀ (pins : List (Addr × Obj)) (s : Shared) (σ : St) (H : Hp) (Q : Bool → Hp → Prop), Inv X pins σ H s → t σ H Q →
    wpAny (model X.prog X.w) X.A (forIn ifs true fun c r => if r = true then do let ok ← isTrue c X.env (eval c X.env); pure (ForInStep.yield ok) else pure (ForInStep.yield r)) (TP X pins σ Q) X.xe s
def tYes : TT := fun _ H Q => Q true H
theorem pts_nil {X : Cx} : PTs X [] tYes := fun _ _ _ H _ I h => wpAny_tests_nil ⟨H, I, h⟩
theorem pts_one {X : Cx} {c : Expr} {t : TT} (h : PT X c t) : PTs X [c] t := fun pins s σ H Q I q => wpAny_tests_one (h pins s σ H Q I q)
def GK (g : TG) (js : List Nat) : Prop := ∀ x σ H Q, g x σ H Q → g x σ H fun σ' H' => Q σ' H' ∧ σ'.length = σ.length ∧ ∀ i, i ∉ js → σ'[i]? = σ[i]?
theorem gk_name (j : Nat) : GK (gName j) [j] := fun x σ H Q h => by
  refine ⟨h, by simp, fun i hi => ?_⟩
  rw [List.getElem?_set_ne (fun e => hi (by simp [e]))]
def tComp (wi : TI) (g : TG) (ds : List Nat) (k : Nat) (tc : TT) (te : TE) : TE := fun σ H Q => wi σ H fun J H1 => ∀ D, H1 D = none →
  ∃ W : Nat → Nat → List V → Hp → Prop, (∃ m, W 0 m [] (upd H1 D (.lst []))) ∧ ∀ i m acc H2, W i m acc H2 →
    (J.stop i H2 ∧ Q (.ref D) H2) ∨ (J.go i H2 ∧ ∀ x H3, J.yld i H2 x H3 → g x (iniC ds k σ) H3 fun σ4 H4 => tc σ4 H4 fun b H5 => if b = true then
      te σ4 H5 fun y H6 => H6 D = some (.lst acc) ∧ acc.length < sizeLine ∧ ∃ m', m' < m ∧ W (i + 1) m' (acc ++ [y]) (upd H6 D (.lst (acc ++ [y])))
      else ∃ m', m' < m ∧ W (i + 1) m' acc H5)
section
variable {X : Cx}
theorem comp_inv {scope : Scope} {N' : List Str} {cl : List (Str × Addr)} {ds : List Nat} {k : Nat} {pins : List (Addr × Obj)} {σ : St} {H : Hp} {s : Shared} {fp : List Addr} {h₁ : Heap} {tk : Nat} {m : Str → Option Value} {C : Addr} {news : List Str}
    (I : Inv X pins σ H s) (f : ∀ b ∈ fp, FpOk X pins H b) (fo : ∀ b ∈ fp, ∃ o, s.heap.get? b = some o)
    (hkind : scope.kind = .function) (hcell : ∀ y ∈ scope.names, y.2 ≠ .cell)
    (hfree : ∀ y ∈ scope.names, y.2 = .free → X.env.scope.names.lookup y.1 = some .cell ∨ X.env.scope.names.lookup y.1 = some .free)
    (hcl : ∀ x c, cl.lookup x = some c → X.env.cells.lookup x = some c) (hcl2 : ∀ x, (x, NameKind.free) ∈ scope.names → ∃ c, cl.lookup x = some c)
    (hN : N' = X.N ++ news) (hk : news.length = k) (hloc : ∀ i x, X.N[i]? = some x → scope.names.lookup x = some .local → i ∈ ds)
    (hC : s.heap.objs.size < C) (keep : ∀ b o, s.heap.get? b = some o → h₁.get? b = some o) (hns : h₁.Ns C m)
    (hD : h₁.get? s.heap.objs.size = some { cls := .type "list", data := .seq ([] : List Value).toArray 0 }) :
    Inv (X.comp scope N' cl C s H fp) pins (iniC ds k σ) (upd H s.heap.objs.size (.lst [])) { s with heap := h₁, toks := tk } := by
  have fresh : H s.heap.objs.size = none := I.hok.fresh (Nat.le_refl _)
  have hok1 : HOk X.prog X.w (upd H s.heap.objs.size (.lst [])) h₁ := I.hok.laid keep (Nat.le_refl _) ⟨Nat.zero_le _, [], 0, .nil, hD⟩
  have lowfp : ∀ b ∈ fp, b < s.heap.objs.size := fun b hb => let ⟨_, e⟩ := fo b hb; Heap.lt_size e
  have stkne : ∀ b, b ∈ frs X.stack → ∀ p ∈ X.pn ++ pins, p.1 ≠ b := fun b hb p hp e => by
    obtain ⟨_, _, n1, n2, _⟩ := I.pin p hp
    rcases List.mem_cons.mp (I.stkSub b hb) with z | z
    · exact n1 (e.trans z)
    · exact n2 (e ▸ z)
  have celllt : ∀ x c, cl.lookup x = some c → c < s.heap.objs.size := fun x c e => by
    obtain ⟨v, z⟩ := I.cell x c (hcl x c e)
    exact z.lt
  have kind_of : ∀ x, (relabel scope X.env).names.lookup x = some .cell ∨ (relabel scope X.env).names.lookup x = some .free → scope.names.lookup x = some .free := fun x h => by
    rw [relabel_lookup] at h
    cases e : scope.names.lookup x with
    | none => rw [e] at h; simp at h
    | some q =>
      rw [e] at h
      have hm := mem_of_lookup e
      have nc : q ≠ .cell := hcell _ hm
      simp only [Option.map_some, Option.some.injEq] at h
      unfold reKind at h
      split at h
      · rename_i hc
        have : (q == NameKind.free) = true := by
          cases hq : q == NameKind.free with
          | true => rfl
          | false => rw [hq] at hc; simp at hc
        have : q = .free := by simpa using this
        rw [this]
      · rcases h with h | h
        · exact absurd h nc
        · rw [h]
  refine ⟨⟨I.ok.mod, ?_, I.ok.glob, I.ok.blt, Nat.le_of_lt hC, ?_, ?_, ?_, I.ok.hd, I.ok.frames, .inl rfl, ?_, I.bs, Nat.le_trans I.ok.bsz I.sz, ?_, ?_, I.stack, I.stkFree⟩, rfl, I.bare, Un.laid keep (Nat.le_refl _) fresh, ⟨m, hns, ?_⟩, ?_, ?_, ?_, ?_, hok1, ?_⟩
  · exact hkind
  · intro x y c hx hy
    exact I.ok.inj x y c (hcl x c hx) (hcl y c hy)
  · intro x hx
    exact hcl2 x (mem_of_lookup (kind_of x hx))
  · intro x c hf
    exact absurd hf (by simp [Cx.comp])
  · intro b hb
    refine ⟨Nat.ne_of_lt (Nat.lt_trans (lowfp b hb) hC), fun x c e z => ?_⟩
    exact (f b hb).2.2.2.2.1 x c (hcl x c e) z
  · intro b o e hb
    rcases (f b hb).2.2.2.1 with z | z
    · exact I.ok.noex b o e z
    · exact absurd (Nat.lt_of_lt_of_le (Heap.lt_size e) (Nat.le_trans I.ok.bsz z)) (Nat.lt_irrefl _)
  · intro b hb hs
    rcases List.mem_cons.mp (I.stkSub b hs) with z | z
    · exact (f b hb).2.1 z
    · exact (f b hb).2.2.1 z
  · intro i x v e1 e2 vis
    obtain ⟨g1, g2, g3⟩ := iniC_get e2
    have e1' : X.N[i]? = some x := by
      have e1 : N'[i]? = some x := e1
      rw [hN, List.getElem?_append_left (by rw [← I.len]; exact g3)] at e1
      exact e1
    have hv : scope.names.lookup x = some .free := by
      rcases vis with z | z | z
      · exfalso
        have z : (relabel scope X.env).names.lookup x = some .local := z
        rw [relabel_lookup] at z
        cases e : scope.names.lookup x with
        | none => rw [e] at z; simp at z
        | some q =>
          rw [e] at z
          simp only [Option.map_some, Option.some.injEq] at z
          unfold reKind at z
          split at z
          · cases z
          · subst z
            exact g2 (hloc i x e1' e)
      · exact kind_of x (.inl z)
      · exact kind_of x (.inr z)
    have hm := mem_of_lookup hv
    have hX := hfree _ hm rfl
    obtain ⟨mX, _, hl⟩ := I.loc
    have visX : Vis X.env.scope x := by
      rcases hX with z | z
      · exact .inr (.inl z)
      · exact .inr (.inr z)
    obtain ⟨u, r, l⟩ := hl i x v e1' g1 visX
    refine ⟨u, r, .inr ⟨?_, ?_⟩⟩
    · show (relabel scope X.env).names.lookup x = some .cell ∨ (relabel scope X.env).names.lookup x = some .free
      rw [relabel_lookup, hv]
      show some (reKind X.env x .free) = some .cell ∨ some (reKind X.env x .free) = some .free
      unfold reKind
      split
      · exact .inl rfl
      · exact .inr rfl
    · obtain ⟨c, hc⟩ := hcl2 x hm
      have hc' := hcl x c hc
      refine ⟨c, hc, ?_⟩
      rcases l with ⟨kl, _⟩ | ⟨_, c', hc2, o, ho, hd⟩
      · exfalso
        have kl : X.env.scope.names.lookup x = some .local := kl
        rcases hX with z | z
        · rw [kl] at z; cases z
        · rw [kl] at z; cases z
      · rw [hc'] at hc2
        cases hc2
        exact ⟨o, keep c o ho, hd⟩
  · intro x c e
    obtain ⟨v, o, ho, hd⟩ := I.cell x c (hcl x c e)
    exact ⟨v, o, keep c o ho, hd⟩
  · show upd H s.heap.objs.size (.lst []) C = none
    rw [upd_ne (Nat.ne_of_gt hC)]
    exact I.hok.fresh (Nat.le_of_lt hC)
  · intro x c e
    rw [upd_ne (Nat.ne_of_lt (celllt x c e))]
    exact I.freeC x c (hcl x c e)
  · intro p hp
    obtain ⟨e, n, n1, n2, d⟩ := I.pin p hp
    have lt := Heap.lt_size e
    refine ⟨keep _ _ e, ?_, Nat.ne_of_lt (Nat.lt_trans lt hC), fun z => stkne p.1 z p hp rfl, d⟩
    rw [upd_ne (Nat.ne_of_lt lt)]
    exact n
  · show (iniC ds k σ).length = N'.length
    unfold iniC
    rw [List.length_append, forget_len, I.len, hN, List.length_append, List.length_replicate, hk]
theorem comp_out {scope : Scope} {N' : List Str} {cl : List (Str × Addr)} {pins : List (Addr × Obj)} {σ σ' : St} {H H' : Hp} {s s' : Shared} {fp : List Addr} {h' : Heap} {C : Addr}
    (I : Inv X pins σ H s) (f : ∀ b ∈ fp, FpOk X pins H b) (I' : Inv (X.comp scope N' cl C s H fp) pins σ' H' s') (hC : s.heap.objs.size < C) (sb : Heap.SameBut C s'.heap h') : Inv X pins σ H' { s' with heap := h' } := by
  have u := I'.base
  have hfree : H' C = none := I'.free
  have ne : ∀ b o, s.heap.get? b = some o → b ≠ C := fun b o e => Nat.ne_of_lt (Nat.lt_trans (Heap.lt_size e) hC)
  have u' : Un (frs X.stack) fp H H' s.heap h' := by
    refine ⟨fun b o e n h1 h2 => ?_, fun b o e n h1 h2 => ?_, u.free, fun b o e h2 => ?_, u.tups, u.frzs, u.tbls⟩
    · exact (sb.2 b (ne b o e)).trans (u.keep b o e n h1 h2)
    · obtain ⟨sl, q⟩ := u.slot b o e n h1 h2
      exact ⟨sl, (sb.2 b (ne b o e)).trans q⟩
    · obtain ⟨o', q⟩ := u.there b o e h2
      exact ⟨o', (sb.2 b (ne b o e)).trans q⟩
  have hok' : HOk X.prog X.w H' h' := fun b ob e => by
    refine (I'.hok b ob e).stay (fun c w' hc q => (sb.2 c ?_).trans q) (fun _ q => q) fun _ _ q => q
    rintro rfl
    rcases hc with rfl | hc
    · rw [hfree] at e; cases e
    · rw [hfree] at hc; cases hc
  exact I.call' (s' := { s' with heap := h' }) I'.os u' hok' I'.bare fun b hb => ⟨(f b hb).2.2.2.1, (f b hb).2.1, (f b hb).2.2.2.2.1, (f b hb).2.2.2.2.2⟩
theorem Inv.block_gone {pins : List (Addr × Obj)} {σ : St} {H : Hp} {s : Shared} {C : Addr} {h' : Heap} (I : Inv X pins σ H s) (hn : H C = none) (hL : C ≠ X.env.locals) (h1 : X.s₀.heap.objs.size ≤ C)
    (h2 : ∀ x c, X.env.cells.lookup x = some c → c ≠ C) (h3 : ∀ p ∈ X.pn ++ pins, p.1 ≠ C) (sb : Heap.SameBut C s.heap h') : Inv X pins σ H { s with heap := h' } :=
  I.turned (t' := s.toks) (fun b o hb e => (sb.2 b hb).trans e) hn hL (.inr h1) h2 h3
theorem comp_core (N' : List Str) (ds : List Nat) (k : Nat) {news : List Str} {js : List Nat} {elt tg iter : Expr} {ifs : List Expr} {scope : Scope} {pos : Pos} {wi : TI} {g : TG} {tc : TT} {te : TE}
    {pins : List (Addr × Obj)} {s : Shared} {σ : St} {H : Hp} {Q : VK} {use : Option (Value → Sem Unit)} {QV : Value → Shared → Prop}
    (hc : X.calm = true) (hi : PI X tg iter wi)
    (hb : ∀ cl C s₀ H₀ ex, PG (X.comp scope N' cl C s₀ H₀ ex) tg g ∧ PTs (X.comp scope N' cl C s₀ H₀ ex) ifs tc ∧ PE (X.comp scope N' cl C s₀ H₀ ex) elt te)
    (hg : GK g js) (hj : ∀ σ : St, σ.length = X.N.length → ∀ j ∈ js, ∀ v, (iniC ds k σ)[j]? ≠ some (some v))
    (hkind : scope.kind = .function) (hcell : ∀ y ∈ scope.names, y.2 ≠ .cell)
    (hnames : ∀ y ∈ scope.names, y.2 = .local → scope.names.lookup y.1 = some .local)
    (hfree : ∀ y ∈ scope.names, y.2 = .free → X.env.scope.names.lookup y.1 = some .cell ∨ X.env.scope.names.lookup y.1 = some .free)
    (hN : N' = X.N ++ news) (hk : news.length = k) (hloc : ∀ i x, X.N[i]? = some x → scope.names.lookup x = some .local → i ∈ ds)
    (hs : ∀ x, foldedSetIterable iter X.env x = pure x) (I : Inv X pins σ H s) (h : tComp wi g ds k tc te σ H Q)
    (fin : ∀ (D C : Addr) (H' : Hp) (s' : Shared) (m : Str → Option Value), Inv X pins σ H' s' → Q (.ref D) H' → s'.heap.Ns C m → H' C = none → C ≠ X.env.locals → X.s₀.heap.objs.size ≤ C → (∀ x c, X.env.cells.lookup x = some c → c ≠ C) → (∀ p ∈ X.pn ++ pins, p.1 ≠ C) →
      compPost (model X.prog X.w) X.A X.xe use QV (.ref D) C (.ok .next) s') :
    wpAny (model X.prog X.w) X.A (comprehension (.ListComp elt [⟨tg, iter, ifs, 0⟩] scope pos) scope X.env (firstIterPos [⟨tg, iter, ifs, 0⟩] pos) (newList []) (firstAsync [⟨tg, iter, ifs, 0⟩]) (firstIter [⟨tg, iter, ifs, 0⟩] X.env) use) QV X.xe s := by
  have hcells : ∀ y ∈ scope.names, y.2 = .free → ∃ c, X.env.cells.lookup y.1 = some c := fun y hy e => I.ok.has y.1 (hfree y hy e)
  obtain ⟨cl, hclos, hcl, hcl2⟩ := closureFor_of hcells
  refine wpAny_comprehension_free (use := use) rfl hs hclos hkind hnames (thn (hi pins s σ H _ I h) fun v s1 h1 => thn h1 fun itv s2 h2 => ?_)
  obtain ⟨it, fp, tn, J, H2, e, I2, T, st2, f2, q⟩ := h2
  subst e
  have I20 := I2
  obtain ⟨W, ⟨m0, w0⟩, turn⟩ := q s2.heap.objs.size (I2.hok.fresh (Nat.le_refl _))
  refine wpAny_newObj_type (wpAny_newFunctionEnv hcell (by intro y hy; simp at hy) (fun h₁ hns₁ hsb₁ => ?_) hkind)
  dsimp only at hns₁ hsb₁ ⊢
  generalize hH2 : s2.heap.push { cls := .type "list", dict := none, data := .seq ([] : List Value).toArray } = G2 at hns₁ hsb₁ ⊢
  have hC : s2.heap.objs.size < G2.objs.size := by rw [← hH2, Heap.size_push]; exact Nat.lt_succ_self _
  have keep : ∀ b o, s2.heap.get? b = some o → h₁.get? b = some o := fun b o e =>
    hsb₁.extBut b o (Nat.ne_of_lt (Nat.lt_trans (Heap.lt_size e) hC)) (Heap.get?_push_of_some _ (hH2 ▸ Heap.get?_push_of_some _ e))
  have hD : h₁.get? s2.heap.objs.size = some { cls := .type "list", data := .seq ([] : List Value).toArray 0 } := hsb₁.extBut _ _ (Nat.ne_of_lt hC) (Heap.get?_push_of_some _ (hH2 ▸ Heap.get?_push_size _ rfl))
  have fo : ∀ b ∈ fp, ∃ o, s2.heap.get? b = some o := fun b hb => let ⟨o, e, _⟩ := T.obj _ _ st2 b hb; ⟨o, e⟩
  obtain ⟨hPG, hPT, hPE⟩ := hb cl G2.objs.size s2 H2 fp
  generalize hX' : X.comp scope N' cl G2.objs.size s2 H2 fp = X' at hPG hPT hPE
  have xp : X'.prog = X.prog := by rw [← hX']; rfl
  have xw : X'.w = X.w := by rw [← hX']; rfl
  have xK : X'.K = X.K := by rw [← hX']; rfl
  have xA : X'.A = X.A := by rw [← hX']; rfl
  have xe : X'.xe = fun _ _ => False := by rw [← hX']; rfl
  have xenv : X'.env = compEnvC scope cl G2.objs.size X.env := by rw [← hX']; rfl
  have hc' : X'.calm = true := by rw [← hX']; exact hc
  have start : Inv X' pins (iniC ds k σ) (upd H2 s2.heap.objs.size (.lst [])) { s2 with heap := h₁, toks := s2.toks + ([] : List (Str × Value)).length } := by
    rw [← hX']
    exact comp_inv I2 f2 fo hkind hcell hfree hcl hcl2 hN hk hloc hC keep hns₁ hD
  have st1 : tn 0 h₁ := T.keep _ _ _ st2 fun b _ o e => keep b o e
  have fpn : ∀ b ∈ fp, upd H2 s2.heap.objs.size (.lst []) b = none := fun b hb => by
    obtain ⟨o, e⟩ := fo b hb
    rw [upd_ne (Nat.ne_of_lt (Heap.lt_size e))]
    exact (f2 b hb).1
  have stat : ∀ {H' : Hp}, (∀ b ∈ fp, H' b = none) → ∀ b ∈ fp, FpOk X' pins H' b := fun hn b hb => by
    obtain ⟨f0, f1, f3, f4, f5, f6⟩ := f2 b hb
    obtain ⟨o, e⟩ := fo b hb
    refine ⟨hn b hb, ?_, ?_, ?_, ?_, ?_⟩
    · rw [xenv]; exact Nat.ne_of_lt (Nat.lt_trans (Heap.lt_size e) hC)
    · intro z
      have z : b ∈ frs X.stack := by rw [← hX'] at z; exact z
      rcases List.mem_cons.mp (I2.stkSub b z) with y | y
      · exact f1 y
      · exact f3 y
    · rw [← hX']; exact .inl hb
    · intro x c ec
      rw [xenv] at ec
      exact f5 x c (hcl x c ec)
    · intro p hp
      rw [← hX'] at hp
      exact f6 p hp
  have loop : codeAny (model X.prog X.w) X.A (.compLoop (.ListComp elt [⟨tg, iter, ifs, 0⟩] scope pos) 0 (.ref it) (.ref s2.heap.objs.size) (compEnvC scope cl G2.objs.size X.env))
      (compPost (model X.prog X.w) X.A X.xe use QV (.ref s2.heap.objs.size) G2.objs.size) { s2 with heap := h₁, toks := s2.toks + ([] : List (Str × Value)).length } := by
    refine compLoop_tg (fun n s' => ∃ i acc H', Inv X' pins (iniC ds k σ) H' s' ∧ tn i s'.heap ∧ (∀ b ∈ fp, H' b = none) ∧ W i n acc H') ?_ m0 ⟨0, [], _, start, st1, fpn, w0⟩
    rintro n s3 ⟨i, acc, H3, I3, st3, fr3, w3⟩
    rcases turn i n acc H3 w3 with ⟨stop, qn⟩ | ⟨go, step⟩
    · have td := T.done X' xp xw xK hc' i pins s3 _ H3 (fun _ _ => False) I3 (stat fr3) st3 stop
      rw [xA] at td
      refine thn td fun r s4 ⟨hr, I4⟩ => ?_
      subst hr
      have I4' := I4
      rw [← hX'] at I4'
      obtain ⟨m', hn', _⟩ := I4'.loc
      refine fin s2.heap.objs.size G2.objs.size H3 s4 m' (comp_out (h' := s4.heap) I2 f2 I4' hC (.refl ..)) qn hn' I4'.free (Nat.ne_of_gt (Nat.lt_trans I2.lt hC)) (Nat.le_of_lt (Nat.lt_of_le_of_lt I2.sz hC)) (fun x c e z => ?_) fun p hp z => ?_
      · obtain ⟨v, q⟩ := I2.cell x c e
        exact absurd (Nat.lt_trans q.lt hC) (by rw [z]; exact Nat.lt_irrefl _)
      · exact absurd (Nat.lt_trans (Heap.lt_size (I2.pin p hp).1) hC) (by rw [z]; exact Nat.lt_irrefl _)
    · have ti := T.item X' xp xw xK hc' i pins s3 _ H3 (fun _ _ => False) I3 (stat fr3) st3 go
      rw [xA] at ti
      refine thn ti fun r s4 ⟨u, hr, h4⟩ => ?_
      subst hr
      refine thn h4 fun _ s5 ⟨x, H5, I5, r5, y5, st5, fr5⟩ => ?_
      have I5' := I5.pinned (stat fr5) (T.obj _ _ st5)
      have pg := hPG _ s5 _ H5 x u _ I5' r5 (hg x _ H5 _ (step x H5 y5))
      rw [xp, xw, xA, xenv, xe] at pg
      refine thn pg fun _ s6 ⟨σ6, H6, I6, ⟨q6, len6, keep6⟩⟩ => ?_
      have again : ∀ {H7 : Hp} {s7 : Shared}, Inv X' (pins ++ pinsAt fp s5.heap) σ6 H7 s7 → Inv X' pins (iniC ds k σ) H7 s7 ∧ tn (i + 1) s7.heap ∧ ∀ b ∈ fp, H7 b = none := fun {H7 s7} I7 => by
        refine ⟨I7.unpinned.weak len6.symm fun j v e => ?_, T.keep _ _ _ st5 fun b hb o e => (I7.pin (b, o) (List.mem_append_right _ (List.mem_append_right _ (mem_pinsAt hb e)))).1, fun b hb => ?_⟩
        · rw [keep6 j fun z => hj σ I.len j z v e]
          exact e
        · obtain ⟨o, e, d⟩ := T.obj _ _ st5 b hb
          exact (I7.pin (b, o) (List.mem_append_right _ (List.mem_append_right _ (mem_pinsAt hb e)))).2.1
      have pt := hPT _ s6 σ6 H6 _ I6 q6
      rw [xp, xw, xA, xenv, xe] at pt
      refine thn pt fun ok s7 ⟨H7, I7, q7⟩ => ?_
      cases ok with
      | false =>
        obtain ⟨m', hm, w7⟩ := q7
        obtain ⟨a1, a2, a3⟩ := again I7
        exact ⟨m', hm, i + 1, acc, H7, a1, a2, a3, w7⟩
      | true =>
        have pe := hPE _ s7 σ6 H7 _ I7 q7
        rw [xp, xw, xA, xenv, xe] at pe
        refine thn pe fun yv s8 ⟨y, H8, I8, r8, hD8, hlen, m', hm, w8⟩ => ?_
        have ap := mt_append (X := X') _ s8 σ6 H8 (.ref s2.heap.objs.size) [y] _ [yv] (fun v H9 => H9 = upd H8 s2.heap.objs.size (.lst (acc ++ [y]))) I8 rfl (.cons r8 .nil) ⟨_, acc, y, rfl, rfl, hD8, hlen, rfl⟩
        rw [xp, xw, xA, xe] at ap
        refine thn ap fun _ s9 ⟨_, H9, I9, _, e9⟩ => ?_
        subst e9
        obtain ⟨a1, a2, a3⟩ := again I9
        exact ⟨m', hm, i + 1, acc ++ [y], _, a1, a2, a3, w8⟩
  exact codeAny_compStart_list loop (T.self _ 0 _ _ _ st1 loop)
theorem pe_comp (N' : List Str) (ds : List Nat) (k : Nat) {news : List Str} {js : List Nat} {elt tg iter : Expr} {ifs : List Expr} {scope : Scope} {pos : Pos} {wi : TI} {g : TG} {tc : TT} {te : TE}
    (hc : X.calm = true) (hi : PI X tg iter wi)
    (hb : ∀ cl C s₀ H₀ ex, PG (X.comp scope N' cl C s₀ H₀ ex) tg g ∧ PTs (X.comp scope N' cl C s₀ H₀ ex) ifs tc ∧ PE (X.comp scope N' cl C s₀ H₀ ex) elt te)
    (hg : GK g js) (hj : ∀ σ : St, σ.length = X.N.length → ∀ j ∈ js, ∀ v, (iniC ds k σ)[j]? ≠ some (some v))
    (hkind : scope.kind = .function) (hcell : ∀ y ∈ scope.names, y.2 ≠ .cell)
    (hnames : ∀ y ∈ scope.names, y.2 = .local → scope.names.lookup y.1 = some .local)
    (hfree : ∀ y ∈ scope.names, y.2 = .free → X.env.scope.names.lookup y.1 = some .cell ∨ X.env.scope.names.lookup y.1 = some .free)
    (hN : N' = X.N ++ news) (hk : news.length = k) (hloc : ∀ i x, X.N[i]? = some x → scope.names.lookup x = some .local → i ∈ ds)
    (hs : ∀ x, foldedSetIterable iter X.env x = pure x := by intro _; rfl) :
    PE X (.ListComp elt [⟨tg, iter, ifs, 0⟩] scope pos) (tComp wi g ds k tc te) := by
  intro pins s σ H Q I h
  rw [eval_ListComp]
  refine comp_core N' ds k hc hi hb hg hj hkind hcell hnames hfree hN hk hloc hs I h fun D C H' s' m I' q hn n1 n2 n3 n4 n5 => ?_
  exact ⟨m, hn, fun h' sb => ⟨.ref D, H', I'.block_gone n1 n2 n3 n4 n5 sb, rfl, q⟩⟩
def compOk (N0 : List Str) (ds : List Nat) (sc0 scope : Scope) : Bool :=
  scope.kind == .function && scope.names.all (fun y => !(y.2 == .cell) && (!(y.2 == .local) || scope.names.lookup y.1 == some .local) && (!(y.2 == .free) || (sc0.names.lookup y.1 == some .cell || sc0.names.lookup y.1 == some .free))) &&
    N0.zipIdx.all fun p => !(scope.names.lookup p.1 == some .local) || ds.contains p.2
theorem comp_conds {N0 : List Str} {ds js : List Nat} {sc0 scope : Scope} {k : Nat} (ok : compOk N0 ds sc0 scope = true) (hj : (js.all fun j => ds.contains j || decide (N0.length ≤ j)) = true) :
    (∀ σ : St, σ.length = N0.length → ∀ j ∈ js, ∀ v, (iniC ds k σ)[j]? ≠ some (some v)) ∧ scope.kind = .function ∧ (∀ y ∈ scope.names, y.2 ≠ .cell) ∧ (∀ y ∈ scope.names, y.2 = .local → scope.names.lookup y.1 = some .local) ∧
    (∀ y ∈ scope.names, y.2 = .free → sc0.names.lookup y.1 = some .cell ∨ sc0.names.lookup y.1 = some .free) ∧ (∀ i x, N0[i]? = some x → scope.names.lookup x = some .local → i ∈ ds) := by
  unfold compOk at ok
  rw [Bool.and_eq_true, Bool.and_eq_true] at ok
  obtain ⟨⟨h1, h2⟩, h3⟩ := ok
  have h2 := List.all_eq_true.mp h2
  have h3 := List.all_eq_true.mp h3
  have hj := List.all_eq_true.mp hj
  refine ⟨?_, (by simpa using h1), ?_, ?_, ?_, ?_⟩
  · intro σ hl j hm v e
    obtain ⟨_, q2, q3⟩ := iniC_get e
    have := hj j hm
    rw [Bool.or_eq_true] at this
    rcases this with z | z
    · exact q2 (by simpa using z)
    · have := of_decide_eq_true z
      omega
  · intro y hy e
    have := h2 y hy
    rw [Bool.and_eq_true, Bool.and_eq_true] at this
    have z := this.1.1
    rw [e] at z
    exact absurd z (by decide)
  · intro y hy e
    have := h2 y hy
    rw [Bool.and_eq_true, Bool.and_eq_true] at this
    have z := this.1.2
    rw [e] at z
    simpa using z
  · intro y hy e
    have := h2 y hy
    rw [Bool.and_eq_true, Bool.and_eq_true] at this
    have z := this.2
    rw [e] at z
    simpa using z
  · intro i x e1 e2
    have := h3 (x, i) (by rw [List.mem_zipIdx_iff_getElem?]; exact e1)
    rw [Bool.or_eq_true] at this
    rcases this with z | z
    · rw [e2] at z
      exact absurd z (by decide)
    · simpa using z
theorem comp_of (N0 news : List Str) (ds js : List Nat) (sc0 : Scope) {elt tg iter : Expr} {ifs : List Expr} {scope : Scope} {pos : Pos} {wi : TI} {g : TG} {tc : TT} {te : TE}
    (hc : X.calm = true) (hN0 : X.N = N0) (hsc : X.env.scope = sc0) (ok : compOk N0 ds sc0 scope = true) (hj : (js.all fun j => ds.contains j || decide (N0.length ≤ j)) = true) (hg : GK g js)
    (hi : PI X tg iter wi)
    (hb : ∀ cl C s₀ H₀ ex, PG (X.comp scope (N0 ++ news) cl C s₀ H₀ ex) tg g ∧ PTs (X.comp scope (N0 ++ news) cl C s₀ H₀ ex) ifs tc ∧ PE (X.comp scope (N0 ++ news) cl C s₀ H₀ ex) elt te)
    (hs : ∀ x, foldedSetIterable iter X.env x = pure x := by intro _; rfl) :
    PE X (.ListComp elt [⟨tg, iter, ifs, 0⟩] scope pos) (tComp wi g ds news.length tc te) := by
  subst hN0
  subst hsc
  obtain ⟨h1, h2, h3, h4, h5, h6⟩ := comp_conds ok hj
  exact pe_comp (X.N ++ news) ds news.length hc hi hb hg h1 h2 h3 h4 h5 rfl rfl h6 hs
end
end L2
namespace L2
open PySem PySem.Spec PyProof.Rows
section
variable {X : Cx}
theorem call_isi : CallR X (.builtin "isinstance") (fun xs H Q => ∃ x T t b, xs = [x, .ty T] ∧ TyOf X.K H x t ∧ PySem.W.kitOne X.K t (.type T) = some b ∧ Q (.bl b) H) := by
  intro pins s σ H xs us Q I r h
  obtain ⟨x, T, t, b, rfl, ty, e, q⟩ := h
  obtain ⟨u, w', rfl, rx, rt⟩ := vals2 r
  obtain rfl : w' = Value.type T := rt
  exact isinst_ok I rx ty e fun tk => ⟨.bl b, H, I.tok tk, rfl, q⟩
end
end L2
namespace L2
open PySem PySem.Spec PyProof.Rows
section
variable {X : Cx} (K : PySem.W.Frag) (hK : X.K = K)
include hK
theorem call_lenK : CallR X (.builtin "len") (fun xs H Q => ∃ x n, xs = [x] ∧ LenV K x H n ∧ Q (.int n) H) := by subst hK; exact call_len
theorem call_isiK : CallR X (.builtin "isinstance") (fun xs H Q => ∃ x T t b, xs = [x, .ty T] ∧ TyOf K H x t ∧ PySem.W.kitOne K t (.type T) = some b ∧ Q (.bl b) H) := by subst hK; exact call_isi
theorem ix_listK : IxR X (rIxL K) := by subst hK; exact ix_list
theorem ix_tupK : IxR X (rIxT K) := by subst hK; exact ix_tup
theorem pt_truthK {a : Expr} {ta : TE} (ha : PE X a ta) (he : ∀ whole, isTrue a X.env whole = (do let v ← whole; standAt a.pos; holding [v] (truthy v))) :
    PT X a (fun σ H Q => ta σ H fun x H' => ∃ k, TruV K x H' k ∧ Q k H') := by subst hK; exact pt_truth ha he
variable {o e : Expr} {es : List Expr} {to : TE} {t : TA} {name : Str} {apos cpos : Pos} {T id : String} {r : V → List V → Hp → VK → Prop}
theorem pe_bm0K (pa : PlainAttrs T) (slot : Slot T name id) (hty : typeOf (.builtin id) = pure (.type "method_descriptor")) (hm : MtR X id r) (ho : PE X o to)
    (hbase : attributeBase o name X.env (eval o X.env) = eval o X.env := by rfl) (hline : (apos.endLine == cpos.line) = true := by rfl) : PE X (.Call (.Attribute o name apos) [] [] cpos) (tBM0 K T r to) := by
  subst hK; exact pe_bm0 pa slot hty hm ho hbase hline
end
end L2
namespace L2
open PySem PySem.Spec PyProof.Rows
theorem boot_len : bootBuiltins "len" = some (.builtin "len") := by decide +kernel
theorem boot_max : bootBuiltins "max" = some (.builtin "max") := by decide +kernel
theorem boot_isinstance : bootBuiltins "isinstance" = some (.builtin "isinstance") := by decide +kernel
theorem boot_sorted : bootBuiltins "sorted" = some (.builtin "sorted") := by decide +kernel
theorem boot_int : bootBuiltins "int" = some (.type "int") := by decide +kernel
theorem boot_bool : bootBuiltins "bool" = some (.type "bool") := by decide +kernel
theorem boot_list : bootBuiltins "list" = some (.type "list") := by decide +kernel
theorem boot_tuple : bootBuiltins "tuple" = some (.type "tuple") := by decide +kernel
theorem boot_range : bootBuiltins "range" = some (.type "range") := by decide +kernel
section
variable {X : Cx}
theorem pe_ty {x : Str} {T : String} {pos : Pos} (hg : Gl X x) (hm : X.mg x = none) (hv : bootBuiltins x = some (.type T)) (hn : x ≠ "__name__" := by decide) (hd : (x == ("__debug__" : Str)) = false := by decide) : PE X (.Name x pos) (tC (.ty T)) :=
  pe_bltn hg hm hv rfl hn hd
end
theorem kit_tt {K : PySem.W.Frag} {A B : String} {b : Bool} (h : (if ((Value.type A) == .type B) = true then some true else if PySem.W.kitMeta B = true then (fastBuiltinMro A).map (·.contains (.type B)) else none) = some b) : PySem.W.kitOne K (.type A) (.type B) = some b := h
theorem iteI {i j : Int} {A B : Prop} (h1 : i = j → A) (h2 : i ≠ j → B) : if decide (V.int i = V.int j) = true then A else B := by
  by_cases h : i = j
  · subst h
    rw [decide_eq_true rfl]
    exact iteT (h1 rfl)
  · rw [decide_eq_false (fun e => h (V.int.inj e))]
    exact iteF (h2 h)
theorem iteNI {i j : Int} {A B : Prop} (h1 : i ≠ j → A) (h2 : i = j → B) : if (!decide (V.int i = V.int j)) = true then A else B := by
  by_cases h : i = j
  · subst h
    rw [decide_eq_true rfl]
    exact iteF (h2 rfl)
  · rw [decide_eq_false (fun e => h (V.int.inj e))]
    exact iteT (h1 h)
theorem iteD {c : Prop} [Decidable c] {A B : Prop} (h1 : c → A) (h2 : ¬ c → B) : if decide c = true then A else B := by
  by_cases h : c
  · rw [decide_eq_true h]
    exact iteT (h1 h)
  · rw [decide_eq_false h]
    exact iteF (h2 h)
theorem gName_ {j : Nat} {x : V} {σ : St} {H : Hp} {F : St → Hp → Prop} (h : F (σ.set j (some x)) H) : gName j x σ H F := h
theorem yes_ {σ : St} {H : Hp} {F : Bool → Hp → Prop} (h : F true H) : tYes σ H F := h
theorem atI_ints {ns : List Int} {i : Int} (h0 : 0 ≤ i) (h1 : i < ns.length) : ∃ z, atI (ns.map V.int) i = some (.int z) := by
  refine ⟨ns[i.toNat]'(by omega), ?_⟩
  unfold atI ixN
  rw [if_pos h0, if_pos (by rw [List.length_map]; exact h1)]
  show (ns.map V.int)[i.toNat]? = _
  rw [List.getElem?_map, List.getElem?_eq_getElem (by omega)]
  rfl
theorem mod_lt (i : Int) {n : Int} (h : 0 < n) : 0 ≤ i % n ∧ i % n < n := ⟨Int.emod_nonneg _ (by omega), Int.emod_lt_of_pos _ h⟩
theorem mask31 (x : Int) : Builtin.bitAnd x 2147483647 = x % 2147483648 := PySem.W.kbt_mask x 31
end L2
namespace L2
open PySem PySem.Spec PyProof.Rows
section
variable {X : Cx}
end
end L2
namespace L2
open PySem PySem.Spec PyProof.Rows
theorem nx_ {D : Ends} {σ : St} {H : Hp} (h : D.nx σ H) : tNext D σ H := h
theorem same_new {H0 H : Hp} {a : Addr} {o : HO} (h : Same H0 H) (hn : H a = none) : Same H0 (upd H a o) := fun b o' hb => by
  have e := h b o' hb
  rw [upd_ne (ne_of_none e hn)]
  exact e
theorem Same.at {H0 H : Hp} {b : Addr} {o : HO} (h : Same H0 H) (e : H0 b = some o) : H b = some o := h b o e
theorem atI_some {α : Type} {xs : List α} {i : Int} (h0 : 0 ≤ i) (h1 : i < xs.length) : ∃ c, atI xs i = some c ∧ c ∈ xs := by
  refine ⟨xs[i.toNat]'(by omega), ?_, List.getElem_mem _⟩
  unfold atI ixN
  rw [if_pos h0, if_pos h1]
  show xs[i.toNat]? = _
  rw [List.getElem?_eq_getElem (by omega)]
theorem le_size {n : Nat} (h : n ≤ 65536) : n ≤ sizeLine := by rw [sizeLine_eq]; omega
section
variable {X : Cx} {pins : List (Addr × Obj)} {σ : St} {H : Hp} {s : Shared}
end
section
variable {X : Cx}
end
section
variable {X : Cx}
theorem get_list : PGet X (rIxL X.K) := by
  intro pins s σ H x y v u Q I rx ry h
  obtain ⟨p, xs, i, z, rfl, rfl, hq, he, q⟩ := h
  cases rx
  obtain ⟨t, rfl⟩ := ry
  obtain ⟨its, r, pl, hz⟩ := I.list hq
  obtain ⟨j, h1, h2, h3, h4, h5⟩ := atI_get he
  obtain ⟨w, ew, rw'⟩ := r.get h2
  have hl := r.length
  have hn := line63
  have fin : EP X pins σ Q w s := ⟨z, H, I, rw', q⟩
  by_cases h0 : 0 ≤ i
  · have hj : i.toNat = j := by
      rw [seqIndex_of h0 h5] at h1
      exact Option.some.inj h1
    exact wpAny_getItem_list pl.isList h0 (by omega) (by rw [hj]; simpa using ew) fin
  · have hj : (i + (its.toArray.size : Int)).toNat = j := by
      rw [seqIndex_neg (by omega) h4] at h1
      rw [List.size_toArray, ← hl]
      exact Option.some.inj h1
    exact wpAny_getItem_list_neg pl.isList (by omega) (by rw [List.size_toArray] <;> omega) (by omega) (by rw [hj]; simpa using ew) fin
end
theorem same_upd {H0 H : Hp} {a : Addr} {o : HO} (h : Same H0 H) (hn : H0 a = none) : Same H0 (upd H a o) := fun b o' hb => by
  have : b ≠ a := fun e => by rw [e, hn] at hb; cases hb
  rw [upd_ne this]
  exact h b o' hb
theorem atI_nat' {α : Type} {xs : List α} {k : Nat} {v : α} (h : xs[k]? = some v) : atI xs (k : Int) = some v := by
  have hl := (List.getElem?_eq_some_iff.mp h).1
  unfold atI ixN
  rw [if_pos (by omega), if_pos (by omega)]
  exact h
section
variable {X : Cx}
end
theorem lf {n i : Nat} {P : Prop} (hi : i < n) (h : P) : ∃ m', m' < n - i ∧ m' = n - (i + 1) ∧ i + 1 ≤ n ∧ P := ⟨_, by omega, rfl, hi, h⟩
theorem comp_range {K : PySem.W.Frag} {lo : Int} {n : Nat} {g : TG} {ds : List Nat} {k : Nat} {tc : TT} {te : TE} {σ : St} {H1 : Hp} {D : Addr} {F : Hp → Prop} (Pv : Nat → List V → Hp → Prop) (h0 : Pv 0 [] (upd H1 D (.lst [])))
    (hs : ∀ i acc H2, i < n → Pv i acc H2 → g (.int (lo + i)) (iniC ds k σ) H2 fun σ4 H4 => tc σ4 H4 fun b H5 => if b = true then
      te σ4 H5 fun y H6 => H6 D = some (.lst acc) ∧ acc.length < sizeLine ∧ ∃ m', m' < n - i ∧ m' = n - (i + 1) ∧ i + 1 ≤ n ∧ Pv (i + 1) (acc ++ [y]) (upd H6 D (.lst (acc ++ [y])))
      else ∃ m', m' < n - i ∧ m' = n - (i + 1) ∧ i + 1 ≤ n ∧ Pv (i + 1) acc H5) (hd : ∀ acc H2, Pv n acc H2 → F H2) :
    ∃ W : Nat → Nat → List V → Hp → Prop, (∃ m, W 0 m [] (upd H1 D (.lst []))) ∧ ∀ i m acc H2, W i m acc H2 →
    ((Itr lo n).stop i H2 ∧ F H2) ∨ ((Itr lo n).go i H2 ∧ ∀ x H3, (Itr lo n).yld i H2 x H3 → g x (iniC ds k σ) H3 fun σ4 H4 => tc σ4 H4 fun b H5 => if b = true then
      te σ4 H5 fun y H6 => H6 D = some (.lst acc) ∧ acc.length < sizeLine ∧ ∃ m', m' < m ∧ W (i + 1) m' (acc ++ [y]) (upd H6 D (.lst (acc ++ [y])))
      else ∃ m', m' < m ∧ W (i + 1) m' acc H5) := by
  refine ⟨fun i m acc H2 => m = n - i ∧ i ≤ n ∧ Pv i acc H2, ⟨_, rfl, Nat.zero_le _, h0⟩, ?_⟩
  rintro i m acc H2 ⟨rfl, hi, p⟩
  by_cases hlt : i < n
  · refine .inr ⟨hlt, fun x H3 y => ?_⟩
    obtain ⟨e, y⟩ := y
    subst e y
    exact hs i acc _ hlt p
  · have e : i = n := by omega
    subst e
    exact .inl ⟨Nat.le_refl _, hd acc H2 p⟩
section
variable {X : Cx}
end
end L2
namespace L2z
open PySem PyProof.Rows
def gallopP : Bool → Keyed → Array Keyed → Nat → Nat → Nat → StateT SortSt Sem (Option Nat) := sortPriv% PySem.Builtin.gallop
def mergeLoP : Array Keyed → Array Keyed → StateT SortSt Sem (Array Keyed) := sortPriv% PySem.Builtin.mergeLo
def mergeHiP : Array Keyed → Array Keyed → StateT SortSt Sem (Array Keyed) := sortPriv% PySem.Builtin.mergeHi
abbrev kAt (xs : Array Keyed) (i : Nat) : Keyed := xs.getD i (Value.none, Value.none)
theorem kAt_get {xs : Array Keyed} {i : Nat} (h : i < xs.size) : xs[i]? = some (kAt xs i) := by
  simp [kAt, Array.getD, h]
structure Ord (prog : Program) (w : World) (A : Around) (E : Value → Shared → Prop) (s : Shared) (κ : SortKind) (Vd : Keyed → Prop) (rk : Keyed → Int) : Prop where
  lt : ∀ {x y : Keyed} {st : SortSt} {Q : Option Bool → SortSt → Prop}, Vd x → Vd y → kindOf st = κ → Q (some (decide (rk x < rk y))) st → wpS (model prog w) A E s (lt' x y) Q st
section
variable {prog : Program} {w : World} {A : Around} {E : Value → Shared → Prop} {s : Shared} {κ : SortKind} {Vd : Keyed → Prop} {rk : Keyed → Int}
theorem wpS_elem {arr : Array Keyed} {i : Nat} {st : SortSt} {Q : Keyed → SortSt → Prop} (h : i < arr.size) (q : Q (kAt arr i) st) : wpS (model prog w) A E s (elem' arr i) Q st := by
  rw [elem'_eq, kAt_get h]
  exact wpS_pure q
theorem wpS_rule {x : String} {st : SortSt} {Q : Unit → SortSt → Prop} (q : Q () st) : wpS (model prog w) A E s (liftM (rule x)) Q st := wpS_lift (wpAny_rule ⟨rfl, q⟩)
def bnd (rk : Keyed → Int) (left : Bool) (key : Keyed) : Int := if left = true then rk key else rk key + 1
theorem wpS_beyond (O : Ord prog w A E s κ Vd rk) {left : Bool} {key : Keyed} {arr : Array Keyed} {i : Nat} {st : SortSt} {Q : Option Bool → SortSt → Prop} (h : i < arr.size) (hv : Vd (kAt arr i)) (hk : Vd key) (hκ : kindOf st = κ)
    (q : Q (some (decide (rk (kAt arr i) < bnd rk left key))) st) :
    wpS (model prog w) A E s (do
      let x ← elem' arr i
      if left = true then lt' x key
      else do
        let r ← lt' key x
        pure (Option.map (fun x => !x) r)) Q st := by
  refine wpS_bind (wpS_elem h ?_)
  unfold bnd at q
  cases left with
  | true =>
    rw [if_pos rfl] at q ⊢
    exact O.lt hv hk hκ q
  | false =>
    rw [if_neg Bool.false_ne_true] at q ⊢
    refine wpS_bind (O.lt hk hv hκ (wpS_pure ?_))
    have e : (Option.map (fun x => !x) (some (decide (rk key < rk (kAt arr i))))) = some (decide (rk (kAt arr i) < rk key + 1)) := by
      show some (!decide (rk key < rk (kAt arr i))) = _
      congr 1
      by_cases z : rk key < rk (kAt arr i)
      · rw [decide_eq_true z, decide_eq_false (by omega)]; rfl
      · rw [decide_eq_false z, decide_eq_true (by omega)]; rfl
    rw [e]
    exact q
theorem search_loop {arr : Array Keyed} {base n : Nat} {t : Int} {st : SortSt} {Q : Option Nat → SortSt → Prop} {body : Nat → Option (Option Nat) × Nat × Nat → StateT SortSt Sem (ForInStep (Option (Option Nat) × Nat × Nat))} {C : Option (Option Nat) × Nat × Nat → StateT SortSt Sem (Option Nat)} {lo hi : Nat}
    (hstop : ∀ x lo hi P, lo ≥ hi → P (.done (none, lo, hi)) st → wpS (model prog w) A E s (body x (none, lo, hi)) P st)
    (hstep : ∀ x lo hi P, lo < hi → hi ≤ n → (rk (kAt arr (base + (lo + (hi - lo) / 2))) < t → P (.yield (none, lo + (hi - lo) / 2 + 1, hi)) st) → (t ≤ rk (kAt arr (base + (lo + (hi - lo) / 2))) → P (.yield (none, lo, lo + (hi - lo) / 2)) st) → wpS (model prog w) A E s (body x (none, lo, hi)) P st)
    (hC : ∀ lo hi, Q (some hi) st → wpS (model prog w) A E s (C (none, lo, hi)) Q st)
    (hs : ∀ i j, i ≤ j → j < n → rk (kAt arr (base + i)) ≤ rk (kAt arr (base + j)))
    (q : ∀ k, k ≤ n → (∀ i, i < k → rk (kAt arr (base + i)) < t) → (∀ i, k ≤ i → i < n → t ≤ rk (kAt arr (base + i))) → Q (some k) st)
    (h1 : lo ≤ hi) (h2 : hi ≤ n) (h3 : ∀ i, i < lo → rk (kAt arr (base + i)) < t) (h4 : ∀ i, hi ≤ i → i < n → t ≤ rk (kAt arr (base + i))) :
    wpS (model prog w) A E s (forIn [:n] ((none, lo, hi) : Option (Option Nat) × Nat × Nat) body >>= C) Q st := by
  refine wpS_bind (wpS_forRange (a := 0) (I := fun i c st' => st' = st ∧ ∃ lo hi, c = (none, lo, hi) ∧ lo ≤ hi ∧ hi ≤ n ∧ hi - lo + i ≤ n ∧ (∀ i, i < lo → rk (kAt arr (base + i)) < t) ∧ (∀ i, hi ≤ i → i < n → t ≤ rk (kAt arr (base + i)))) ?_ ?_ ⟨rfl, lo, hi, rfl, h1, h2, by omega, h3, h4⟩)
  · rintro i c st' _ hin ⟨hst, lo, hi, rfl, g1, g2, g3, g4, g5⟩
    subst hst
    by_cases hlh : lo ≥ hi
    · exact hstop i lo hi _ hlh (hC lo hi (q hi g2 (fun i h => g4 i (by omega)) g5))
    · refine hstep i lo hi _ (by omega) g2 (fun z => ⟨rfl, _, hi, rfl, by omega, g2, by omega, fun i h => ?_, g5⟩) (fun z => ⟨rfl, lo, _, rfl, by omega, by omega, by omega, g4, fun i h1 h2 => ?_⟩)
      · exact Int.lt_of_le_of_lt (hs i _ (by omega) (by omega)) z
      · have := hs _ i h1 h2
        omega
  · rintro c st' ⟨hst, lo, hi, rfl, g1, g2, g3, g4, g5⟩
    subst hst
    exact hC lo hi (q hi g2 (fun i h => g4 i (by omega)) g5)
theorem wpS_gallop (O : Ord prog w A E s κ Vd rk) {left : Bool} {key : Keyed} {arr : Array Keyed} {base n hint : Nat} {st : SortSt} {Q : Option Nat → SortSt → Prop} (hb : base + n ≤ arr.size) (hh : hint < n) (hv : ∀ i, i < n → Vd (kAt arr (base + i))) (hk : Vd key) (hκ : kindOf st = κ)
    (hs : ∀ i j, i ≤ j → j < n → rk (kAt arr (base + i)) ≤ rk (kAt arr (base + j)))
    (q : ∀ k, k ≤ n → (∀ i, i < k → rk (kAt arr (base + i)) < bnd rk left key) → (∀ i, k ≤ i → i < n → bnd rk left key ≤ rk (kAt arr (base + i))) → Q (some k) st) :
    wpS (model prog w) A E s (gallopP left key arr base n hint) Q st := by
  generalize ht : bnd rk left key = t at q
  have by' : ∀ {i : Nat} {Q : Option Bool → SortSt → Prop}, i < n → (rk (kAt arr (base + i)) < t → Q (some true) st) → (t ≤ rk (kAt arr (base + i)) → Q (some false) st) → wpS (model prog w) A E s (do
      let x ← elem' arr (base + i)
      if left = true then lt' x key
      else do
        let r ← lt' key x
        pure (Option.map (fun x => !x) r)) Q st := fun {i} {Q} hi h1 h2 => wpS_beyond O (by omega) (hv i hi) hk hκ (by
          rw [ht]
          by_cases z : rk (kAt arr (base + i)) < t
          · rw [decide_eq_true z]; exact h1 z
          · rw [decide_eq_false z]; exact h2 (by omega))
  refine wpS_bind (by' hh (fun z => ?_) (fun z => ?_))
  · dsimp only
    rw [if_pos rfl]
    refine wpS_bind (wpS_mono (wpS_forRange (a := 0) (Q := fun c st' => st' = st ∧ ∃ la ofs, c = (none, la, ofs) ∧ la < ofs ∧ la < n - hint ∧ rk (kAt arr (base + (hint + la))) < t ∧ (ofs < n - hint → t ≤ rk (kAt arr (base + (hint + ofs)))))
      (I := fun i c st' => st' = st ∧ ∃ la ofs, c = (none, la, ofs) ∧ la < ofs ∧ la < n - hint ∧ i + 1 ≤ ofs ∧ rk (kAt arr (base + (hint + la))) < t) ?_ ?_ ⟨rfl, 0, 1, rfl, by omega, by omega, by omega, z⟩) ?_)
    · rintro i c st' _ hin ⟨hst, la, ofs, rfl, g1, g2, g3, g4⟩
      subst hst
      dsimp only
      by_cases ho : ofs ≥ n - hint
      · rw [if_pos ho]
        exact wpS_pure ⟨rfl, la, ofs, rfl, g1, g2, g4, fun h => by omega⟩
      · rw [if_neg ho]
        refine wpS_bind (by' (i := hint + ofs) (by omega) (fun z2 => ?_) (fun z2 => ?_))
        · exact wpS_pure ⟨rfl, ofs, 2 * ofs + 1, rfl, by omega, by omega, by omega, z2⟩
        · exact wpS_pure ⟨rfl, la, ofs, rfl, g1, g2, g4, fun _ => z2⟩
    · rintro c st' ⟨hst, la, ofs, rfl, g1, g2, g3, g4⟩
      exact ⟨hst, la, ofs, rfl, g1, g2, g4, fun h => by omega⟩
    · rintro c st' ⟨hst, la, ofs, rfl, g1, g2, g3, g4⟩
      subst hst
      refine search_loop (arr := arr) (base := base) (t := t) (lo := hint + la + 1) (hi := hint + min ofs (n - hint)) ?_ ?_ ?_ hs q (by omega) (by omega) (fun i h => ?_) (fun i h1 h2 => ?_)
      · intro x lo hi P h p
        dsimp only
        rw [if_pos h]
        exact wpS_pure p
      · intro x lo hi P h hn p1 p2
        dsimp only
        rw [if_neg (by omega)]
        exact wpS_bind (by' (by omega) (fun z => wpS_pure (p1 z)) (fun z => wpS_pure (p2 z)))
      · exact fun lo hi h => wpS_pure h
      · exact Int.lt_of_le_of_lt (hs i (hint + la) (by omega) (by omega)) g3
      · have h3 := g4 (by omega)
        have := hs (hint + ofs) i (by omega) h2
        omega
  · dsimp only
    rw [if_neg Bool.false_ne_true]
    refine wpS_bind (wpS_mono (wpS_forRange (a := 0) (Q := fun c st' => st' = st ∧ ∃ la ofs, c = (none, la, ofs) ∧ la < ofs ∧ la ≤ hint ∧ t ≤ rk (kAt arr (base + (hint - la))) ∧ (ofs < hint + 1 → rk (kAt arr (base + (hint - ofs))) < t))
      (I := fun i c st' => st' = st ∧ ∃ la ofs, c = (none, la, ofs) ∧ la < ofs ∧ la ≤ hint ∧ i + 1 ≤ ofs ∧ t ≤ rk (kAt arr (base + (hint - la)))) ?_ ?_ ⟨rfl, 0, 1, rfl, by omega, by omega, by omega, by rw [Nat.sub_zero]; omega⟩) ?_)
    · rintro i c st' _ hin ⟨hst, la, ofs, rfl, g1, g2, g3, g4⟩
      subst hst
      dsimp only
      by_cases ho : ofs ≥ hint + 1
      · rw [if_pos ho]
        exact wpS_pure ⟨rfl, la, ofs, rfl, g1, g2, g4, fun h => by omega⟩
      · rw [if_neg ho]
        refine wpS_bind (by' (i := hint - ofs) (by omega) (fun z2 => ?_) (fun z2 => ?_))
        · exact wpS_pure ⟨rfl, la, ofs, rfl, g1, g2, g4, fun _ => z2⟩
        · exact wpS_pure ⟨rfl, ofs, 2 * ofs + 1, rfl, by omega, by omega, by omega, z2⟩
    · rintro c st' ⟨hst, la, ofs, rfl, g1, g2, g3, g4⟩
      exact ⟨hst, la, ofs, rfl, g1, g2, g4, fun h => by omega⟩
    · rintro c st' ⟨hst, la, ofs, rfl, g1, g2, g3, g4⟩
      subst hst
      refine search_loop (arr := arr) (base := base) (t := t) (lo := hint + 1 - min ofs (hint + 1)) (hi := hint - la) ?_ ?_ ?_ hs q (by omega) (by omega) (fun i h => ?_) (fun i h1 h2 => ?_)
      · intro x lo hi P h p
        dsimp only
        rw [if_pos h]
        exact wpS_pure p
      · intro x lo hi P h hn p1 p2
        dsimp only
        rw [if_neg (by omega)]
        exact wpS_bind (by' (by omega) (fun z => wpS_pure (p1 z)) (fun z => wpS_pure (p2 z)))
      · exact fun lo hi h => wpS_pure h
      · have h3 := g4 (by omega)
        exact Int.lt_of_le_of_lt (hs i (hint - ofs) (by omega) (by omega)) h3
      · have := hs (hint - la) i (by omega) h2
        omega
end
end L2z
namespace L2z
open PySem PyProof.Rows
section
variable {rk : Keyed → Int}
abbrev Asc (rk : Keyed → Int) (l : List Keyed) : Prop := l.Pairwise fun x y => rk x ≤ rk y
theorem get_list {xs : Array Keyed} {i : Nat} (h : i < xs.size) : xs.toList[i]? = some (kAt xs i) := by
  rw [Array.getElem?_toList]
  exact kAt_get h
theorem drop_at {xs : Array Keyed} {i : Nat} (h : i < xs.size) : xs.toList.drop i = kAt xs i :: xs.toList.drop (i + 1) := by
  have hl : i < xs.toList.length := by simpa using h
  rw [List.drop_eq_getElem_cons hl]
  have := get_list h
  rw [List.getElem?_eq_getElem hl] at this
  rw [Option.some.inj this]
theorem mem_drop {xs : Array Keyed} {i : Nat} {y : Keyed} (h : y ∈ xs.toList.drop i) : ∃ j, i ≤ j ∧ j < xs.size ∧ y = kAt xs j := by
  obtain ⟨j, hj⟩ := List.getElem?_of_mem h
  rw [List.getElem?_drop] at hj
  have hlt : i + j < xs.toList.length := (List.getElem?_eq_some_iff.mp hj).1
  have hlt : i + j < xs.size := by simpa using hlt
  refine ⟨i + j, by omega, hlt, ?_⟩
  rw [get_list hlt] at hj
  exact (Option.some.inj hj).symm
theorem mem_take {xs : Array Keyed} {i : Nat} {y : Keyed} (h : y ∈ xs.toList.take i) : ∃ j, j < i ∧ j < xs.size ∧ y = kAt xs j := by
  obtain ⟨j, hj⟩ := List.getElem?_of_mem h
  have hlt := (List.getElem?_eq_some_iff.mp hj).1
  rw [List.length_take] at hlt
  have hs : j < xs.size := by
    have : j < xs.toList.length := by omega
    simpa using this
  rw [List.getElem?_take_of_lt (by omega), get_list hs] at hj
  exact ⟨j, by omega, hs, (Option.some.inj hj).symm⟩
def AscI (rk : Keyed → Int) (xs : Array Keyed) (lo hi : Nat) : Prop := ∀ i j, lo ≤ i → i ≤ j → j < hi → rk (kAt xs i) ≤ rk (kAt xs j)
theorem asc_of {xs : Array Keyed} (h : AscI rk xs 0 xs.size) : Asc rk xs.toList := by
  refine List.pairwise_iff_getElem.mpr ?_
  intro i j hi hj hij
  have hi' : i < xs.size := by simpa using hi
  have hj' : j < xs.size := by simpa using hj
  have e1 := get_list hi'
  have e2 := get_list hj'
  rw [List.getElem?_eq_getElem hi] at e1
  rw [List.getElem?_eq_getElem hj] at e2
  rw [Option.some.inj e1, Option.some.inj e2]
  exact h i j (Nat.zero_le _) (by omega) hj'
theorem of_asc {xs : Array Keyed} (h : Asc rk xs.toList) : AscI rk xs 0 xs.size := by
  intro i j _ hij hj
  by_cases e : i = j
  · rw [e]; exact Int.le_refl _
  have hi : i < xs.toList.length := by simp; omega
  have hj' : j < xs.toList.length := by simp; omega
  have := (List.pairwise_iff_getElem.mp h) i j hi hj' (by omega)
  have e1 := get_list (show i < xs.size by omega)
  have e2 := get_list hj
  rw [List.getElem?_eq_getElem hi] at e1
  rw [List.getElem?_eq_getElem hj'] at e2
  rw [Option.some.inj e1, Option.some.inj e2] at this
  exact this
theorem asc_drop {xs : Array Keyed} (h : AscI rk xs 0 xs.size) (i : Nat) : Asc rk (xs.toList.drop i) := (asc_of h).sublist (List.drop_sublist _ _)
theorem asc_take {xs : Array Keyed} (h : AscI rk xs 0 xs.size) (i : Nat) : Asc rk (xs.toList.take i) := (asc_of h).sublist (List.take_sublist _ _)
theorem ext_list {xs : Array Keyed} {i j : Nat} : (xs.extract i j).toList = (xs.toList.drop i).take (j - i) := by
  rw [Array.toList_extract]
theorem ext_end {xs : Array Keyed} {i : Nat} : (xs.extract i xs.size).toList = xs.toList.drop i := by
  rw [ext_list]
  exact List.take_of_length_le (by simp)
theorem ext_head {xs : Array Keyed} {i : Nat} : (xs.extract 0 i).toList = xs.toList.take i := by
  rw [ext_list, List.drop_zero, Nat.sub_zero]
structure MJ (rk : Keyed → Int) (T out la lb : List Keyed) : Prop where
  perm : (out ++ (la ++ lb)).Perm T
  srt : Asc rk out
  le : ∀ x ∈ out, ∀ y ∈ la ++ lb, rk x ≤ rk y
theorem MJ.takeA {T out xs la lb : List Keyed} (h : MJ rk T out (xs ++ la) lb) (hs : Asc rk (xs ++ la)) (hx : ∀ x ∈ xs, ∀ y ∈ lb, rk x ≤ rk y) : MJ rk T (out ++ xs) la lb := by
  obtain ⟨h1, h2, h3⟩ := List.pairwise_append.mp hs
  refine ⟨?_, ?_, ?_⟩
  · have := h.perm
    rwa [List.append_assoc] at this ⊢
  · rw [Asc, List.pairwise_append]
    exact ⟨h.srt, h1, fun x hx y hy => h.le x hx y (by simp [hy])⟩
  · intro x hx' y hy
    rcases List.mem_append.mp hx' with q | q
    · exact h.le x q y (by
        rcases List.mem_append.mp hy with z | z
        · simp [z]
        · simp [z])
    · rcases List.mem_append.mp hy with z | z
      · exact h3 x q y z
      · exact hx x q y z
theorem MJ.takeB {T out xs la lb : List Keyed} (h : MJ rk T out la (xs ++ lb)) (hs : Asc rk (xs ++ lb)) (hx : ∀ x ∈ xs, ∀ y ∈ la, rk x ≤ rk y) : MJ rk T (out ++ xs) la lb := by
  obtain ⟨h1, h2, h3⟩ := List.pairwise_append.mp hs
  refine ⟨?_, ?_, ?_⟩
  · refine List.Perm.trans ?_ h.perm
    rw [List.append_assoc]
    refine List.Perm.append_left out ?_
    rw [← List.append_assoc, ← List.append_assoc]
    exact List.Perm.append_right lb List.perm_append_comm
  · rw [Asc, List.pairwise_append]
    exact ⟨h.srt, h1, fun x hx y hy => h.le x hx y (by simp [hy])⟩
  · intro x hx' y hy
    rcases List.mem_append.mp hx' with q | q
    · exact h.le x q y (by
        rcases List.mem_append.mp hy with z | z
        · simp [z]
        · simp [z])
    · rcases List.mem_append.mp hy with z | z
      · exact hx x q y z
      · exact h3 x q y z
def Mg (rk : Keyed → Int) (T : List Keyed) (r : Array Keyed) : Prop := r.toList.Perm T ∧ Asc rk r.toList
theorem MJ.fin {T out la lb : List Keyed} (h : MJ rk T out la lb) (ha : Asc rk la) (hb : Asc rk lb) (hx : ∀ x ∈ la, ∀ y ∈ lb, rk x ≤ rk y) : (out ++ la ++ lb).Perm T ∧ Asc rk (out ++ la ++ lb) := by
  refine ⟨by rw [List.append_assoc]; exact h.perm, ?_⟩
  rw [List.append_assoc, Asc, List.pairwise_append]
  exact ⟨h.srt, List.pairwise_append.mpr ⟨ha, hb, hx⟩, h.le⟩
theorem MJ.swap {T out la lb : List Keyed} (h : MJ rk T out la lb) : MJ rk T out lb la :=
  ⟨(List.Perm.append_left out List.perm_append_comm).trans h.perm, h.srt, fun x hx y hy => h.le x hx y (by
    rcases List.mem_append.mp hy with z | z
    · simp [z]
    · simp [z])⟩
structure Two (rk : Keyed → Int) (Vd : Keyed → Prop) (a b : Array Keyed) : Prop where
  sa : AscI rk a 0 a.size
  sb : AscI rk b 0 b.size
  va : ∀ i, i < a.size → Vd (kAt a i)
  vb : ∀ i, i < b.size → Vd (kAt b i)
  na : 0 < a.size
  nb : 0 < b.size
  first : rk (kAt b 0) < rk (kAt a 0)
  last : ∀ j, j < b.size → rk (kAt b j) < rk (kAt a (a.size - 1))
variable {Vd : Keyed → Prop} {a b : Array Keyed}
def JF (rk : Keyed → Int) (a b : Array Keyed) (out : Array Keyed) (ia ib : Nat) : Prop := MJ rk (a.toList ++ b.toList) out.toList (a.toList.drop ia) (b.toList.drop ib)
abbrev MgF (rk : Keyed → Int) (a b : Array Keyed) (r : Array Keyed) : Prop := Mg rk (a.toList ++ b.toList) r
theorem JF.pushA (D : Two rk Vd a b) {out : Array Keyed} {ia ib : Nat} (h : JF rk a b out ia ib) (hi : ia < a.size) (hx : ∀ j, ib ≤ j → j < b.size → rk (kAt a ia) ≤ rk (kAt b j)) : JF rk a b (out.push (kAt a ia)) (ia + 1) ib := by
  unfold JF at h ⊢
  rw [drop_at hi] at h
  rw [Array.toList_push]
  refine MJ.takeA (xs := [kAt a ia]) h ?_ fun x hx' y hy => ?_
  · have := asc_drop D.sa ia
    rwa [drop_at hi] at this
  · obtain ⟨j, h1, h2, rfl⟩ := mem_drop hy
    rw [List.mem_singleton.mp hx']
    exact hx j h1 h2
theorem JF.pushB (D : Two rk Vd a b) {out : Array Keyed} {ia ib : Nat} (h : JF rk a b out ia ib) (hi : ib < b.size) (hx : ∀ j, ia ≤ j → j < a.size → rk (kAt b ib) ≤ rk (kAt a j)) : JF rk a b (out.push (kAt b ib)) ia (ib + 1) := by
  unfold JF at h ⊢
  rw [drop_at hi] at h
  rw [Array.toList_push]
  refine MJ.takeB (xs := [kAt b ib]) h ?_ fun x hx' y hy => ?_
  · have := asc_drop D.sb ib
    rwa [drop_at hi] at this
  · obtain ⟨j, h1, h2, rfl⟩ := mem_drop hy
    rw [List.mem_singleton.mp hx']
    exact hx j h1 h2
theorem split_drop (xs : Array Keyed) (i k : Nat) : xs.toList.drop i = (xs.extract i (i + k)).toList ++ xs.toList.drop (i + k) := by
  rw [ext_list, show i + k - i = k by omega, ← List.drop_drop]
  exact (List.take_append_drop k _).symm
theorem mem_ext {xs : Array Keyed} {i k : Nat} {y : Keyed} (h : y ∈ (xs.extract i (i + k)).toList) : ∃ j, i ≤ j ∧ j < i + k ∧ j < xs.size ∧ y = kAt xs j := by
  obtain ⟨j, hj⟩ := List.getElem?_of_mem h
  rw [ext_list] at hj
  have hlt := (List.getElem?_eq_some_iff.mp hj).1
  rw [List.length_take] at hlt
  rw [List.getElem?_take_of_lt (by omega), List.getElem?_drop] at hj
  have hs : i + j < xs.size := by
    have : i + j < xs.toList.length := (List.getElem?_eq_some_iff.mp hj).1
    simpa using this
  rw [get_list hs] at hj
  exact ⟨i + j, by omega, by omega, hs, (Option.some.inj hj).symm⟩
theorem JF.moreA (D : Two rk Vd a b) {out : Array Keyed} {ia ib k : Nat} (h : JF rk a b out ia ib) (hx : ∀ i, ia ≤ i → i < ia + k → i < a.size → ∀ j, ib ≤ j → j < b.size → rk (kAt a i) ≤ rk (kAt b j)) : JF rk a b (out ++ a.extract ia (ia + k)) (ia + k) ib := by
  unfold JF at h ⊢
  rw [split_drop a ia k] at h
  rw [Array.toList_append]
  refine MJ.takeA h ?_ fun x hx' y hy => ?_
  · rw [← split_drop]; exact asc_drop D.sa ia
  · obtain ⟨i, i1, i2, i3, rfl⟩ := mem_ext hx'
    obtain ⟨j, h1, h2, rfl⟩ := mem_drop hy
    exact hx i i1 i2 i3 j h1 h2
theorem JF.moreB (D : Two rk Vd a b) {out : Array Keyed} {ia ib k : Nat} (h : JF rk a b out ia ib) (hx : ∀ i, ib ≤ i → i < ib + k → i < b.size → ∀ j, ia ≤ j → j < a.size → rk (kAt b i) ≤ rk (kAt a j)) : JF rk a b (out ++ b.extract ib (ib + k)) ia (ib + k) := by
  unfold JF at h ⊢
  rw [split_drop b ib k] at h
  rw [Array.toList_append]
  refine MJ.takeB h ?_ fun x hx' y hy => ?_
  · rw [← split_drop]; exact asc_drop D.sb ib
  · obtain ⟨i, i1, i2, i3, rfl⟩ := mem_ext hx'
    obtain ⟨j, h1, h2, rfl⟩ := mem_drop hy
    exact hx i i1 i2 i3 j h1 h2
theorem drop_nil {xs : Array Keyed} {i : Nat} (h : xs.size ≤ i) : xs.toList.drop i = [] := List.drop_eq_nil_of_le (by simpa using h)
theorem JF.done (D : Two rk Vd a b) {out : Array Keyed} {ia ib : Nat} (h : JF rk a b out ia ib) (hx : a.size ≤ ia ∨ b.size ≤ ib) : MgF rk a b (out ++ a.extract ia ++ b.extract ib) := by
  have := MJ.fin h (asc_drop D.sa ia) (asc_drop D.sb ib) (fun x hx' y hy => by
    rcases hx with z | z
    · rw [drop_nil z] at hx'; cases hx'
    · rw [drop_nil z] at hy; cases hy)
  unfold MgF Mg
  rw [Array.toList_append, Array.toList_append, ext_end, ext_end]
  exact this
theorem JF.last (D : Two rk Vd a b) {out : Array Keyed} {ia ib : Nat} (h : JF rk a b out ia ib) (hx : ia + 1 = a.size) : MgF rk a b (out ++ b.extract ib ++ a.extract ia) := by
  have := MJ.fin h.swap (asc_drop D.sb ib) (asc_drop D.sa ia) (fun x hx' y hy => by
    obtain ⟨i, i1, i2, rfl⟩ := mem_drop hx'
    obtain ⟨j, j1, j2, rfl⟩ := mem_drop hy
    have e : j = a.size - 1 := by omega
    rw [e]
    exact Int.le_of_lt (D.last i i2))
  unfold MgF Mg
  rw [Array.toList_append, Array.toList_append, ext_end, ext_end]
  exact this
theorem Two.start' (D : Two rk Vd a b) : JF rk a b #[kAt b 0] 0 1 := by
  have h0 : JF rk a b #[] 0 0 := ⟨by simp, List.Pairwise.nil, fun x h => nomatch h⟩
  have := h0.pushB D D.nb (fun j _ hj => by
    have := D.first
    have := D.sa 0 j (Nat.zero_le _) (Nat.zero_le _) hj
    omega)
  exact this
end
end L2z
namespace L2z
open PySem PyProof.Rows
section
variable {prog : Program} {w : World} {A : Around} {E : Value → Shared → Prop} {s : Shared} {κ : SortKind} {Vd : Keyed → Prop} {rk : Keyed → Int} {a b : Array Keyed}
def setG (st : SortSt) (g : Nat) : SortSt := SortSt.mk' (kindOf st) (arrOf st) (pendingOf st) g (failedOf st)
theorem wpS_ite {c : Prop} [Decidable c] {α : Type} {x y : StateT SortSt Sem α} {Q : α → SortSt → Prop} {st : SortSt} (h1 : c → wpS (model prog w) A E s x Q st) (h2 : ¬ c → wpS (model prog w) A E s y Q st) : wpS (model prog w) A E s (if c then x else y) Q st := by
  by_cases h : c
  · rw [if_pos h]; exact h1 h
  · rw [if_neg h]; exact h2 h
theorem wpS_beq {i j : Nat} {α : Type} {x y : StateT SortSt Sem α} {Q : α → SortSt → Prop} {st : SortSt} (h1 : i = j → wpS (model prog w) A E s x Q st) (h2 : i ≠ j → wpS (model prog w) A E s y Q st) : wpS (model prog w) A E s (if (i == j) = true then x else y) Q st :=
  wpS_ite (fun h => h1 (eq_of_beq h)) (fun h => h2 (fun e => h (by rw [e]; exact beq_self_eq_true _)))
theorem wpS_lt (O : Ord prog w A E s κ Vd rk) {x y : Keyed} {st : SortSt} {Q : Option Bool → SortSt → Prop} (hx : Vd x) (hy : Vd y) (hκ : kindOf st = κ) (h1 : rk x < rk y → Q (some true) st) (h2 : rk y ≤ rk x → Q (some false) st) : wpS (model prog w) A E s (lt' x y) Q st := by
  refine O.lt hx hy hκ ?_
  by_cases z : rk x < rk y
  · rw [decide_eq_true z]; exact h1 z
  · rw [decide_eq_false z]; exact h2 (by omega)
theorem wpS_setG {st : SortSt} {g : Nat} {Q : Unit → SortSt → Prop} (h : Q () (setG st g)) : wpS (model prog w) A E s ((sortPriv% PySem.Builtin.setMinGallop) g : StateT SortSt Sem Unit) Q st := wpS_modify h
theorem wpS_mergeLo (O : Ord prog w A E s κ Vd rk) (D : Two rk Vd a b) {st : SortSt} {Q : Array Keyed → SortSt → Prop} (hκ : kindOf st = κ) (q : ∀ r g, MgF rk a b r → Q r (setG st g)) : wpS (model prog w) A E s (mergeLoP a b) Q st := by
  have q0 : ∀ r, MgF rk a b r → Q r st := fun r h => q r (gallopOf st) h
  refine wpS_bind (wpS_rule ?_)
  refine wpS_bind (wpS_elem D.nb ?_)
  try dsimp only
  refine wpS_beq (fun h => wpS_pure (q0 _ (D.start'.done D (.inr (by omega))))) (fun hb => ?_)
  refine wpS_beq (fun h => wpS_pure (q0 _ (D.start'.last D (by omega)))) (fun ha => ?_)
  refine wpS_bind (wpS_get ?_)
  have hb1 : 1 < b.size := by have := D.nb; omega
  have ha1 : 0 + 1 < a.size := by have := D.na; omega
  refine wpS_bind (wpS_mono (wpS_forRange (a := 0) (Q := fun c st' => (∃ g, st' = setG st g) ∧ ∃ r, c.1 = some r ∧ MgF rk a b r)
    (I := fun i c st' => (∃ g, st' = setG st g) ∧ ∃ out ia ib mg, c = (none, out, ia, ib, mg) ∧ JF rk a b out ia ib ∧ ia + 1 < a.size ∧ ib < b.size ∧ i + 1 ≤ ia + ib) ?_ ?_ ⟨⟨gallopOf st, rfl⟩, _, 0, 1, _, rfl, D.start', ha1, hb1, by omega⟩) ?_)
  · rintro i c st' _ hin ⟨⟨g, rfl⟩, out, ia, ib, mg, rfl, hJ, ga, gb, gi⟩
    try dsimp only
    refine wpS_bind (wpS_mono (wpS_forRange (a := 0) (Q := fun c st' => (∃ g, st' = setG st g) ∧ ((∃ r, c.1 = some r ∧ MgF rk a b r) ∨ ∃ out ia ib ac bc, c = (none, out, ia, ib, ac, bc) ∧ JF rk a b out ia ib ∧ ia + 1 < a.size ∧ ib < b.size ∧ i + 2 ≤ ia + ib))
      (I := fun j c st' => (∃ g, st' = setG st g) ∧ ∃ out ia ib ac bc, c = (none, out, ia, ib, ac, bc) ∧ JF rk a b out ia ib ∧ ia + 1 < a.size ∧ ib < b.size ∧ i + j + 1 ≤ ia + ib) ?_ ?_ ⟨⟨g, rfl⟩, out, ia, ib, 0, 0, rfl, hJ, ga, gb, by omega⟩) ?_)
    · rintro j c st' _ hjn ⟨⟨g, rfl⟩, out, ia, ib, ac, bc, rfl, hJ, ga, gb, gi⟩
      try dsimp only
      refine wpS_bind (wpS_elem gb (wpS_bind (wpS_elem (by omega) (wpS_bind (wpS_lt O (D.vb _ gb) (D.va _ (by omega)) hκ (fun z => ?_) (fun z => ?_))))))
      · try dsimp only
        rw [if_pos rfl]
        refine wpS_bind (wpS_elem gb ?_)
        have hJ2 := hJ.pushB D gb (fun j h1 h2 => by have := D.sa ia j (Nat.zero_le _) h1 h2; omega)
        try dsimp only
        refine wpS_beq (fun h => wpS_pure ⟨⟨g, rfl⟩, .inl ⟨_, rfl, hJ2.done D (.inr (by omega))⟩⟩) (fun h => ?_)
        refine wpS_ite (fun _ => wpS_pure ⟨⟨g, rfl⟩, .inr ⟨_, _, _, _, _, rfl, hJ2, ga, by omega, by omega⟩⟩) (fun _ => wpS_pure ⟨⟨g, rfl⟩, _, _, _, _, _, rfl, hJ2, ga, by omega, by omega⟩)
      · try dsimp only
        rw [if_neg Bool.false_ne_true]
        refine wpS_bind (wpS_elem (by omega) ?_)
        have hJ2 := hJ.pushA D (by omega) (fun j h1 h2 => by have := D.sb ib j (Nat.zero_le _) h1 h2; omega)
        try dsimp only
        refine wpS_beq (fun h => wpS_pure ⟨⟨g, rfl⟩, .inl ⟨_, rfl, hJ2.last D (by omega)⟩⟩) (fun h => ?_)
        refine wpS_ite (fun _ => wpS_pure ⟨⟨g, rfl⟩, .inr ⟨_, _, _, _, _, rfl, hJ2, by omega, gb, by omega⟩⟩) (fun _ => wpS_pure ⟨⟨g, rfl⟩, _, _, _, _, _, rfl, hJ2, by omega, gb, by omega⟩)
    · rintro c st' ⟨hg, out, ia, ib, ac, bc, rfl, hJ, ga, gb, gi⟩
      exact ⟨hg, .inr ⟨out, ia, ib, ac, bc, rfl, hJ, ga, gb, by omega⟩⟩
    · rintro c st' ⟨⟨g, rfl⟩, hc⟩
      rcases hc with ⟨r, hr, hm⟩ | ⟨out, ia, ib, ac, bc, rfl, hJ, ga, gb, gi⟩
      · try dsimp only
        rw [hr]
        exact wpS_pure ⟨⟨g, rfl⟩, r, rfl, hm⟩
      · try dsimp only
        refine wpS_bind (wpS_rule ?_)
        try dsimp only
        refine wpS_bind (wpS_mono (wpS_forRange (a := 0) (Q := fun c st' => (∃ g, st' = setG st g) ∧ ((∃ r, c.1 = some r ∧ MgF rk a b r) ∨ ∃ out ia ib mg ac bc, c = (none, out, ia, ib, mg, ac, bc) ∧ JF rk a b out ia ib ∧ ia + 1 < a.size ∧ ib < b.size ∧ i + 2 ≤ ia + ib))
          (I := fun j c st' => (∃ g, st' = setG st g) ∧ ∃ out ia ib mg ac bc, c = (none, out, ia, ib, mg, ac, bc) ∧ JF rk a b out ia ib ∧ ia + 1 < a.size ∧ ib < b.size ∧ i + 2 ≤ ia + ib) ?_ ?_ ⟨⟨g, rfl⟩, out, ia, ib, _, ac, bc, rfl, hJ, ga, gb, gi⟩) ?_)
        · clear hJ ga gb gi
          rintro j c st' _ _ ⟨⟨g, rfl⟩, out, ia, ib, mg, ac, bc, rfl, hJ, ga, gb, gi⟩
          try dsimp only
          refine wpS_ite (fun _ => ?_) (fun _ => ?_)
          all_goals
            refine wpS_bind (wpS_setG ?_)
            refine wpS_bind (wpS_elem gb ?_)
            refine wpS_bind (wpS_gallop O (left := false) (by omega) (by omega) (fun i hi => D.va _ (by omega)) (D.vb _ gb) hκ (fun i j h1 h2 => D.sa _ _ (Nat.zero_le _) (by omega) (by omega)) (fun k k1 k2 k3 => ?_))
            have hlast := D.last ib gb
            have hk : ia + k < a.size := by
              rcases Nat.lt_or_ge (ia + k) a.size with z | z
              · exact z
              · have h3 := k2 (a.size - 1 - ia) (by omega)
                rw [show ia + (a.size - 1 - ia) = a.size - 1 by omega] at h3
                unfold bnd at h3
                rw [if_neg Bool.false_ne_true] at h3
                omega
            have hJ1 : JF rk a b (out ++ a.extract ia (ia + k)) (ia + k) ib := hJ.moreA D (fun x h1 h2 h3 y h4 h5 => by
              have h6 := k2 (x - ia) (by omega)
              rw [show ia + (x - ia) = x by omega] at h6
              unfold bnd at h6
              rw [if_neg Bool.false_ne_true] at h6
              have := D.sb ib y (Nat.zero_le _) h4 h5
              omega)
            have hB1 : ∀ j, ia + k ≤ j → j < a.size → rk (kAt b ib) < rk (kAt a j) := fun y h1 h2 => by
              have h6 := k3 (y - ia) (by omega) (by omega)
              rw [show ia + (y - ia) = y by omega] at h6
              unfold bnd at h6
              rw [if_neg Bool.false_ne_true] at h6
              omega
            have gi1 : i + 2 ≤ ia + k + ib := by omega
            try dsimp only
            refine wpS_ite (fun hk0 => wpS_beq (fun h => wpS_pure ⟨⟨_, rfl⟩, .inl ⟨_, rfl, hJ1.last D h⟩⟩) (fun h => wpS_beq (fun h => absurd h (by omega)) (fun _ => ?_))) (fun hk0 => ?_)
          all_goals
            first
              | (have hk0' : k > 0 := hk0
                 have ga1 : ia + k + 1 < a.size := by omega
                 generalize out ++ a.extract ia (ia + k) = o1 at hJ1 ⊢
                 generalize ia + k = i1 at hJ1 hB1 gi1 ga1 ⊢)
              | (have hk0' : k = 0 := by omega
                 clear hJ1
                 have hJ1 := hJ
                 rw [hk0', Nat.add_zero] at hB1 gi1
                 have ga1 := ga
                 clear hJ ga gi
                 generalize out = o1 at hJ1 ⊢
                 generalize ia = i1 at hJ1 hB1 gi1 ga1 ⊢)
            refine wpS_bind (wpS_elem gb ?_)
            have hJ2 := hJ1.pushB D gb (fun j h1 h2 => Int.le_of_lt (hB1 j h1 h2))
            try dsimp only
            refine wpS_beq (fun h => wpS_pure ⟨⟨_, rfl⟩, .inl ⟨_, rfl, hJ2.done D (.inr (by omega))⟩⟩) (fun h => ?_)
            refine wpS_bind (wpS_elem (by omega) ?_)
            refine wpS_bind (wpS_gallop O (left := true) (by omega) (by omega) (fun i hi => D.vb _ (by omega)) (D.va _ (by omega)) hκ (fun i j h1 h2 => D.sb _ _ (Nat.zero_le _) (by omega) (by omega)) (fun k' l1 l2 l3 => ?_))
            have hJ3 : JF rk a b (o1.push (kAt b ib) ++ b.extract (ib + 1) (ib + 1 + k')) i1 (ib + 1 + k') := hJ2.moreB D (fun x h1 h2 h3 y h4 h5 => by
              have h6 := l2 (x - (ib + 1)) (by omega)
              rw [show ib + 1 + (x - (ib + 1)) = x by omega] at h6
              unfold bnd at h6
              rw [if_pos rfl] at h6
              have := D.sa i1 y (Nat.zero_le _) h4 h5
              omega)
            have hA1 : ∀ j, ib + 1 + k' ≤ j → j < b.size → rk (kAt a i1) ≤ rk (kAt b j) := fun y h1 h2 => by
              have h6 := l3 (y - (ib + 1)) (by omega) (by omega)
              rw [show ib + 1 + (y - (ib + 1)) = y by omega] at h6
              unfold bnd at h6
              rw [if_pos rfl] at h6
              omega
            have gi2 : i + 2 ≤ i1 + (ib + 1 + k') := by omega
            try dsimp only
            refine wpS_ite (fun hk1 => wpS_beq (fun h => wpS_pure ⟨⟨_, rfl⟩, .inl ⟨_, rfl, hJ3.done D (.inr (by omega))⟩⟩) (fun h => ?_)) (fun hk1 => ?_)
          all_goals
            first
              | (have hk0' : k' > 0 := hk1
                 have gb1 : ib + 1 + k' < b.size := by omega
                 generalize o1.push (kAt b ib) ++ b.extract (ib + 1) (ib + 1 + k') = o2 at hJ3 ⊢
                 generalize ib + 1 + k' = i2 at hJ3 hA1 gi2 gb1 ⊢)
              | (have hk0' : k' = 0 := by omega
                 clear hJ3
                 have hJ3 := hJ2
                 rw [hk0', Nat.add_zero] at hA1 gi2
                 have gb1 : ib + 1 < b.size := by omega
                 clear hJ2
                 generalize o1.push (kAt b ib) = o2 at hJ3 ⊢
                 generalize ib + 1 = i2 at hJ3 hA1 gi2 gb1 ⊢)
            refine wpS_bind (wpS_elem (by omega) ?_)
            have hJ4 := hJ3.pushA D (by omega) hA1
            try dsimp only
            refine wpS_beq (fun h => wpS_pure ⟨⟨_, rfl⟩, .inl ⟨_, rfl, hJ4.last D h⟩⟩) (fun h => ?_)
            refine wpS_ite (fun _ => wpS_pure ⟨⟨_, rfl⟩, .inr ⟨_, _, _, _, _, _, rfl, hJ4, by omega, gb1, by omega⟩⟩) (fun _ => wpS_pure ⟨⟨_, rfl⟩, _, _, _, _, _, _, rfl, hJ4, by omega, gb1, by omega⟩)
        · rintro c st' ⟨hg, out, ia, ib, mg, ac, bc, rfl, hJ, ga, gb, gi⟩
          exact ⟨hg, .inr ⟨out, ia, ib, mg, ac, bc, rfl, hJ, ga, gb, gi⟩⟩
        · rintro c st' ⟨⟨g, rfl⟩, hc⟩
          rcases hc with ⟨r, hr, hm⟩ | ⟨out, ia, ib, mg, ac, bc, rfl, hJ, ga, gb, gi⟩
          · try dsimp only
            rw [hr]
            exact wpS_pure ⟨⟨g, rfl⟩, r, rfl, hm⟩
          · try dsimp only
            refine wpS_bind (wpS_setG ?_)
            exact wpS_pure ⟨⟨_, rfl⟩, out, ia, ib, _, rfl, hJ, ga, gb, by omega⟩
  · rintro c st' ⟨hg, out, ia, ib, mg, rfl, hJ, ga, gb, gi⟩
    exfalso
    omega
  · rintro c st' ⟨⟨g, rfl⟩, r, hr, hm⟩
    try dsimp only
    rw [hr]
    exact wpS_pure (q r g hm)
end
end L2z
namespace L2z
open PySem PyProof.Rows
section
variable {rk : Keyed → Int} {Vd : Keyed → Prop} {a b : Array Keyed}
structure MH (rk : Keyed → Int) (T out la lb : List Keyed) : Prop where
  perm : (la ++ lb ++ out).Perm T
  srt : Asc rk out.reverse
  le : ∀ x ∈ la ++ lb, ∀ y ∈ out, rk x ≤ rk y
theorem MH.takeA {T out xs la lb : List Keyed} (h : MH rk T out (la ++ xs) lb) (hs : Asc rk (la ++ xs)) (hx : ∀ x ∈ xs, ∀ y ∈ lb, rk y ≤ rk x) : MH rk T (out ++ xs.reverse) la lb := by
  obtain ⟨h1, h2, h3⟩ := List.pairwise_append.mp hs
  refine ⟨?_, ?_, ?_⟩
  · refine List.Perm.trans ?_ h.perm
    have p1 : (out ++ xs.reverse).Perm (xs ++ out) := (List.Perm.append_left out (List.reverse_perm xs)).trans List.perm_append_comm
    refine (List.Perm.append_left (la ++ lb) p1).trans ?_
    rw [List.append_assoc, List.append_assoc, List.append_assoc]
    refine List.Perm.append_left la ?_
    rw [← List.append_assoc, ← List.append_assoc]
    exact List.Perm.append_right out List.perm_append_comm
  · rw [List.reverse_append, List.reverse_reverse, Asc, List.pairwise_append]
    exact ⟨h2, h.srt, fun x hx y hy => h.le x (by simp [hx]) y (List.mem_reverse.mp hy)⟩
  · intro x hx' y hy
    rcases List.mem_append.mp hy with q | q
    · exact h.le x (by
        rcases List.mem_append.mp hx' with z | z
        · simp [z]
        · simp [z]) y q
    · have q := List.mem_reverse.mp q
      rcases List.mem_append.mp hx' with z | z
      · exact h3 x z y q
      · exact hx y q x z
theorem MH.swap {T out la lb : List Keyed} (h : MH rk T out la lb) : MH rk T out lb la :=
  ⟨(List.Perm.append_right out List.perm_append_comm).trans h.perm, h.srt, fun x hx y hy => h.le x (by
    rcases List.mem_append.mp hx with z | z
    · simp [z]
    · simp [z]) y hy⟩
theorem MH.takeB {T out xs la lb : List Keyed} (h : MH rk T out la (lb ++ xs)) (hs : Asc rk (lb ++ xs)) (hx : ∀ x ∈ xs, ∀ y ∈ la, rk y ≤ rk x) : MH rk T (out ++ xs.reverse) la lb := (h.swap.takeA hs hx).swap
theorem MH.fin {T out la lb : List Keyed} (h : MH rk T out la lb) (ha : Asc rk la) (hb : Asc rk lb) (hx : ∀ x ∈ la, ∀ y ∈ lb, rk x ≤ rk y) : (la ++ lb ++ out.reverse).Perm T ∧ Asc rk (la ++ lb ++ out.reverse) := by
  refine ⟨(List.Perm.append_left _ (List.reverse_perm out)).trans h.perm, ?_⟩
  rw [Asc, List.pairwise_append]
  exact ⟨List.pairwise_append.mpr ⟨ha, hb, hx⟩, h.srt, fun x hx y hy => h.le x hx y (List.mem_reverse.mp hy)⟩
def JH (rk : Keyed → Int) (a b : Array Keyed) (out : Array Keyed) (na nb : Nat) : Prop := MH rk (a.toList ++ b.toList) out.toList (a.toList.take na) (b.toList.take nb)
theorem take_at {xs : Array Keyed} {n : Nat} (h0 : 0 < n) (h : n ≤ xs.size) : xs.toList.take n = xs.toList.take (n - 1) ++ [kAt xs (n - 1)] := by
  obtain ⟨m, rfl⟩ : ∃ m, n = m + 1 := ⟨n - 1, by omega⟩
  rw [List.take_add_one, get_list (by omega)]
  rfl
theorem split_take (xs : Array Keyed) {i n : Nat} (h : i ≤ n) : xs.toList.take n = xs.toList.take i ++ (xs.extract i n).toList := by
  rw [ext_list]
  obtain ⟨k, rfl⟩ : ∃ k, n = i + k := ⟨n - i, by omega⟩
  rw [List.take_add, show i + k - i = k by omega]
theorem JH.pushA (D : Two rk Vd a b) {out : Array Keyed} {na nb : Nat} (h : JH rk a b out na nb) (h0 : 0 < na) (hn : na ≤ a.size) (hx : ∀ j, j < nb → j < b.size → rk (kAt b j) ≤ rk (kAt a (na - 1))) : JH rk a b (out.push (kAt a (na - 1))) (na - 1) nb := by
  unfold JH at h ⊢
  rw [take_at h0 hn] at h
  rw [Array.toList_push]
  refine MH.takeA (xs := [kAt a (na - 1)]) h ?_ fun x hx' y hy => ?_
  · rw [← take_at h0 hn]; exact asc_take D.sa na
  · obtain ⟨j, h1, h2, rfl⟩ := mem_take hy
    rw [List.mem_singleton.mp hx']
    exact hx j h1 h2
theorem JH.pushB (D : Two rk Vd a b) {out : Array Keyed} {na nb : Nat} (h : JH rk a b out na nb) (h0 : 0 < nb) (hn : nb ≤ b.size) (hx : ∀ j, j < na → j < a.size → rk (kAt a j) ≤ rk (kAt b (nb - 1))) : JH rk a b (out.push (kAt b (nb - 1))) na (nb - 1) := by
  unfold JH at h ⊢
  rw [take_at h0 hn] at h
  rw [Array.toList_push]
  refine MH.takeB (xs := [kAt b (nb - 1)]) h ?_ fun x hx' y hy => ?_
  · rw [← take_at h0 hn]; exact asc_take D.sb nb
  · obtain ⟨j, h1, h2, rfl⟩ := mem_take hy
    rw [List.mem_singleton.mp hx']
    exact hx j h1 h2
theorem mem_ext2 {xs : Array Keyed} {i n : Nat} {y : Keyed} (h : y ∈ (xs.extract i n).toList) : ∃ j, i ≤ j ∧ j < n ∧ j < xs.size ∧ y = kAt xs j := by
  rcases Nat.lt_or_ge n i with z | z
  · rw [ext_list, show n - i = 0 by omega, List.take_zero] at h; cases h
  · obtain ⟨k, rfl⟩ : ∃ k, n = i + k := ⟨n - i, by omega⟩
    exact mem_ext h
theorem JH.moreA (D : Two rk Vd a b) {out : Array Keyed} {i na nb : Nat} (h : JH rk a b out na nb) (hi : i ≤ na) (hx : ∀ x, i ≤ x → x < na → x < a.size → ∀ j, j < nb → j < b.size → rk (kAt b j) ≤ rk (kAt a x)) : JH rk a b (out ++ (a.extract i na).reverse) i nb := by
  unfold JH at h ⊢
  rw [split_take a hi] at h
  rw [Array.toList_append, Array.toList_reverse]
  refine MH.takeA h ?_ fun x hx' y hy => ?_
  · rw [← split_take a hi]; exact asc_take D.sa na
  · obtain ⟨x, i1, i2, i3, rfl⟩ := mem_ext2 hx'
    obtain ⟨j, h1, h2, rfl⟩ := mem_take hy
    exact hx x i1 i2 i3 j h1 h2
theorem JH.moreB (D : Two rk Vd a b) {out : Array Keyed} {i na nb : Nat} (h : JH rk a b out na nb) (hi : i ≤ nb) (hx : ∀ x, i ≤ x → x < nb → x < b.size → ∀ j, j < na → j < a.size → rk (kAt a j) ≤ rk (kAt b x)) : JH rk a b (out ++ (b.extract i nb).reverse) na i := by
  unfold JH at h ⊢
  rw [split_take b hi] at h
  rw [Array.toList_append, Array.toList_reverse]
  refine MH.takeB h ?_ fun x hx' y hy => ?_
  · rw [← split_take b hi]; exact asc_take D.sb nb
  · obtain ⟨x, i1, i2, i3, rfl⟩ := mem_ext2 hx'
    obtain ⟨j, h1, h2, rfl⟩ := mem_take hy
    exact hx x i1 i2 i3 j h1 h2
theorem JH.done (D : Two rk Vd a b) {out : Array Keyed} {na nb : Nat} (h : JH rk a b out na nb) (hx : na = 0 ∨ nb = 0) : MgF rk a b (a.extract 0 na ++ b.extract 0 nb ++ out.reverse) := by
  have := MH.fin h (asc_take D.sa na) (asc_take D.sb nb) (fun x hx' y hy => by
    rcases hx with z | z
    · rw [z, List.take_zero] at hx'; cases hx'
    · rw [z, List.take_zero] at hy; cases hy)
  unfold MgF Mg
  rw [Array.toList_append, Array.toList_append, Array.toList_reverse, ext_head, ext_head]
  exact this
theorem JH.first (D : Two rk Vd a b) {out : Array Keyed} {na nb : Nat} (h : JH rk a b out na nb) (hx : nb = 1) : MgF rk a b (b.extract 0 nb ++ a.extract 0 na ++ out.reverse) := by
  have := MH.fin h.swap (asc_take D.sb nb) (asc_take D.sa na) (fun x hx' y hy => by
    obtain ⟨i, i1, i2, rfl⟩ := mem_take hx'
    obtain ⟨j, j1, j2, rfl⟩ := mem_take hy
    have e : i = 0 := by omega
    rw [e]
    have := D.first
    have := D.sa 0 j (Nat.zero_le _) (Nat.zero_le _) j2
    omega)
  unfold MgF Mg
  rw [Array.toList_append, Array.toList_append, Array.toList_reverse, ext_head, ext_head]
  exact this
theorem Two.startH (D : Two rk Vd a b) : JH rk a b #[kAt a (a.size - 1)] (a.size - 1) b.size := by
  have h0 : JH rk a b #[] a.size b.size := ⟨by rw [List.take_of_length_le (by simp), List.take_of_length_le (by simp)]; simp, List.Pairwise.nil, fun x _ y h => nomatch h⟩
  exact h0.pushA D D.na (Nat.le_refl _) (fun j h _ => Int.le_of_lt (D.last j h))
end
section
variable {prog : Program} {w : World} {A : Around} {E : Value → Shared → Prop} {s : Shared} {κ : SortKind} {Vd : Keyed → Prop} {rk : Keyed → Int} {a b : Array Keyed}
theorem wpS_mergeHi (O : Ord prog w A E s κ Vd rk) (D : Two rk Vd a b) {st : SortSt} {Q : Array Keyed → SortSt → Prop} (hκ : kindOf st = κ) (q : ∀ r g, MgF rk a b r → Q r (setG st g)) : wpS (model prog w) A E s (mergeHiP a b) Q st := by
  have q0 : ∀ r, MgF rk a b r → Q r st := fun r h => q r (gallopOf st) h
  have hna := D.na
  have hnb := D.nb
  refine wpS_bind (wpS_rule ?_)
  refine wpS_bind (wpS_elem (by omega) ?_)
  try dsimp only
  refine wpS_beq (fun h => wpS_pure (q0 _ (D.startH.done D (.inl h)))) (fun ha => ?_)
  refine wpS_beq (fun h => wpS_pure (q0 _ (D.startH.first D h))) (fun hb => ?_)
  refine wpS_bind (wpS_get ?_)
  refine wpS_bind (wpS_mono (wpS_forRange (a := 0) (Q := fun c st' => (∃ g, st' = setG st g) ∧ ∃ r, c.1 = some r ∧ MgF rk a b r)
    (I := fun i c st' => (∃ g, st' = setG st g) ∧ ∃ na nb out mg, c = (none, na, nb, out, mg) ∧ JH rk a b out na nb ∧ 1 ≤ na ∧ 2 ≤ nb ∧ na ≤ a.size ∧ nb ≤ b.size ∧ na + nb + i + 1 ≤ a.size + b.size) ?_ ?_ ⟨⟨gallopOf st, rfl⟩, a.size - 1, b.size, _, _, rfl, D.startH, by omega, by omega, by omega, by omega, by omega⟩) ?_)
  · rintro i c st' _ hin ⟨⟨g, rfl⟩, na, nb, out, mg, rfl, hJ, ga, gb, g1, g2, gi⟩
    try dsimp only
    refine wpS_bind (wpS_mono (wpS_forRange (a := 0) (Q := fun c st' => (∃ g, st' = setG st g) ∧ ((∃ r, c.1 = some r ∧ MgF rk a b r) ∨ ∃ na nb out ac bc, c = (none, na, nb, out, ac, bc) ∧ JH rk a b out na nb ∧ 1 ≤ na ∧ 2 ≤ nb ∧ na ≤ a.size ∧ nb ≤ b.size ∧ na + nb + i + 2 ≤ a.size + b.size))
      (I := fun j c st' => (∃ g, st' = setG st g) ∧ ∃ na nb out ac bc, c = (none, na, nb, out, ac, bc) ∧ JH rk a b out na nb ∧ 1 ≤ na ∧ 2 ≤ nb ∧ na ≤ a.size ∧ nb ≤ b.size ∧ na + nb + i + j + 1 ≤ a.size + b.size) ?_ ?_ ⟨⟨g, rfl⟩, na, nb, out, 0, 0, rfl, hJ, ga, gb, g1, g2, by omega⟩) ?_)
    · clear hJ ga gb g1 g2 gi
      rintro j c st' _ hjn ⟨⟨g, rfl⟩, na, nb, out, ac, bc, rfl, hJ, ga, gb, g1, g2, gi⟩
      try dsimp only
      refine wpS_bind (wpS_elem (by omega) (wpS_bind (wpS_elem (by omega) (wpS_bind (wpS_lt O (D.vb _ (by omega)) (D.va _ (by omega)) hκ (fun z => ?_) (fun z => ?_))))))
      · try dsimp only
        rw [if_pos rfl]
        refine wpS_bind (wpS_elem (by omega) ?_)
        have hJ2 := hJ.pushA D (by omega) g1 (fun j h1 h2 => by have := D.sb j (nb - 1) (Nat.zero_le _) (by omega) (by omega); omega)
        try dsimp only
        refine wpS_beq (fun h => wpS_pure ⟨⟨g, rfl⟩, .inl ⟨_, rfl, hJ2.done D (.inl h)⟩⟩) (fun h => ?_)
        refine wpS_ite (fun _ => wpS_pure ⟨⟨g, rfl⟩, .inr ⟨_, _, _, _, _, rfl, hJ2, by omega, gb, by omega, g2, by omega⟩⟩) (fun _ => wpS_pure ⟨⟨g, rfl⟩, _, _, _, _, _, rfl, hJ2, by omega, gb, by omega, g2, by omega⟩)
      · try dsimp only
        rw [if_neg Bool.false_ne_true]
        refine wpS_bind (wpS_elem (by omega) ?_)
        have hJ2 := hJ.pushB D (by omega) g2 (fun j h1 h2 => by have := D.sa j (na - 1) (Nat.zero_le _) (by omega) (by omega); omega)
        try dsimp only
        refine wpS_beq (fun h => wpS_pure ⟨⟨g, rfl⟩, .inl ⟨_, rfl, hJ2.first D h⟩⟩) (fun h => ?_)
        refine wpS_ite (fun _ => wpS_pure ⟨⟨g, rfl⟩, .inr ⟨_, _, _, _, _, rfl, hJ2, ga, by omega, g1, by omega, by omega⟩⟩) (fun _ => wpS_pure ⟨⟨g, rfl⟩, _, _, _, _, _, rfl, hJ2, ga, by omega, g1, by omega, by omega⟩)
    · rintro c st' ⟨hg, na, nb, out, ac, bc, rfl, hJ, ga, gb, g1, g2, gi⟩
      exact ⟨hg, .inr ⟨na, nb, out, ac, bc, rfl, hJ, ga, gb, g1, g2, by omega⟩⟩
    · clear hJ ga gb g1 g2 gi
      rintro c st' ⟨⟨g, rfl⟩, hc⟩
      rcases hc with ⟨r, hr, hm⟩ | ⟨na, nb, out, ac, bc, rfl, hJ, ga, gb, g1, g2, gi⟩
      · try dsimp only
        rw [hr]
        exact wpS_pure ⟨⟨g, rfl⟩, r, rfl, hm⟩
      · try dsimp only
        refine wpS_bind (wpS_rule ?_)
        try dsimp only
        refine wpS_bind (wpS_mono (wpS_forRange (a := 0) (Q := fun c st' => (∃ g, st' = setG st g) ∧ ((∃ r, c.1 = some r ∧ MgF rk a b r) ∨ ∃ na nb out mg ac bc, c = (none, na, nb, out, mg, ac, bc) ∧ JH rk a b out na nb ∧ 1 ≤ na ∧ 2 ≤ nb ∧ na ≤ a.size ∧ nb ≤ b.size ∧ na + nb + i + 2 ≤ a.size + b.size))
          (I := fun j c st' => (∃ g, st' = setG st g) ∧ ∃ na nb out mg ac bc, c = (none, na, nb, out, mg, ac, bc) ∧ JH rk a b out na nb ∧ 1 ≤ na ∧ 2 ≤ nb ∧ na ≤ a.size ∧ nb ≤ b.size ∧ na + nb + i + 2 ≤ a.size + b.size) ?_ ?_ ⟨⟨g, rfl⟩, na, nb, out, _, ac, bc, rfl, hJ, ga, gb, g1, g2, gi⟩) ?_)
        · clear hJ ga gb g1 g2 gi
          rintro j c st' _ _ ⟨⟨g, rfl⟩, na, nb, out, mg, ac, bc, rfl, hJ, ga, gb, g1, g2, gi⟩
          try dsimp only
          refine wpS_ite (fun _ => ?_) (fun _ => ?_)
          all_goals
            refine wpS_bind (wpS_setG ?_)
            refine wpS_bind (wpS_elem (by omega) ?_)
            refine wpS_bind (wpS_gallop O (left := false) (by omega) (by omega) (fun i hi => D.va _ (by omega)) (D.vb _ (by omega)) hκ (fun i j h1 h2 => D.sa _ _ (Nat.zero_le _) (by omega) (by omega)) (fun k k1 k2 k3 => ?_))
            have hk2 : ∀ x, x < k → rk (kAt a x) ≤ rk (kAt b (nb - 1)) := fun x hx => by
              have h6 := k2 x hx
              rw [Nat.zero_add] at h6
              unfold bnd at h6
              rw [if_neg Bool.false_ne_true] at h6
              omega
            have hJ1 : JH rk a b (out ++ (a.extract k na).reverse) k nb := hJ.moreA D k1 (fun x h1 h2 h3 y h4 h5 => by
              have h6 := k3 x (by omega) (by omega)
              rw [Nat.zero_add] at h6
              unfold bnd at h6
              rw [if_neg Bool.false_ne_true] at h6
              have := D.sb y (nb - 1) (Nat.zero_le _) (by omega) (by omega)
              omega)
            try dsimp only
            refine wpS_ite (fun hk0 => wpS_beq (fun h => wpS_pure ⟨⟨_, rfl⟩, .inl ⟨_, rfl, hJ1.done D (.inl h)⟩⟩) (fun h => ?_)) (fun hk0 => ?_)
          all_goals
            first
              | (have hk0' : na - k > 0 := hk0
                 have ga1 : 1 ≤ k := by omega
                 have g11 : k ≤ a.size := by omega
                 have gi1 : k + nb + i + 2 ≤ a.size + b.size := by omega
                 generalize out ++ (a.extract k na).reverse = o1 at hJ1 ⊢
                 generalize k = i1 at hJ1 hk2 gi1 ga1 g11 ⊢)
              | (have hk0' : k = na := by omega
                 clear hJ1
                 have hJ1 := hJ
                 rw [hk0'] at hk2
                 have ga1 := ga
                 have g11 := g1
                 have gi1 := gi
                 clear hJ ga g1 gi
                 generalize out = o1 at hJ1 ⊢
                 generalize na = i1 at hJ1 hk2 gi1 ga1 g11 ⊢)
            refine wpS_bind (wpS_elem (by omega) ?_)
            have hJ2 := hJ1.pushB D (by omega) g2 (fun j h1 h2 => hk2 j h1)
            try dsimp only
            refine wpS_beq (fun h => wpS_pure ⟨⟨_, rfl⟩, .inl ⟨_, rfl, hJ2.first D h⟩⟩) (fun h => ?_)
            refine wpS_bind (wpS_elem (by omega) ?_)
            refine wpS_bind (wpS_gallop O (left := true) (by omega) (by omega) (fun i hi => D.vb _ (by omega)) (D.va _ (by omega)) hκ (fun i j h1 h2 => D.sb _ _ (Nat.zero_le _) (by omega) (by omega)) (fun k' l1 l2 l3 => ?_))
            have hl2 : ∀ x, x < k' → rk (kAt b x) ≤ rk (kAt a (i1 - 1)) := fun x hx => by
              have h6 := l2 x hx
              rw [Nat.zero_add] at h6
              unfold bnd at h6
              rw [if_pos rfl] at h6
              omega
            have hJ3 : JH rk a b (o1.push (kAt b (nb - 1)) ++ (b.extract k' (nb - 1)).reverse) i1 k' := hJ2.moreB D l1 (fun x h1 h2 h3 y h4 h5 => by
              have h6 := l3 x (by omega) (by omega)
              rw [Nat.zero_add] at h6
              unfold bnd at h6
              rw [if_pos rfl] at h6
              have := D.sa y (i1 - 1) (Nat.zero_le _) (by omega) (by omega)
              omega)
            try dsimp only
            refine wpS_ite (fun hk1 => wpS_beq (fun h => wpS_pure ⟨⟨_, rfl⟩, .inl ⟨_, rfl, hJ3.first D h⟩⟩) (fun h => wpS_beq (fun h => wpS_pure ⟨⟨_, rfl⟩, .inl ⟨_, rfl, hJ3.done D (.inr h)⟩⟩) (fun h => ?_))) (fun hk1 => ?_)
          all_goals
            first
              | (have hk0' : nb - 1 - k' > 0 := hk1
                 have gb1 : 2 ≤ k' := by omega
                 have g21 : k' ≤ b.size := by omega
                 have gi2 : i1 + k' + i + 2 ≤ a.size + b.size := by omega
                 generalize o1.push (kAt b (nb - 1)) ++ (b.extract k' (nb - 1)).reverse = o2 at hJ3 ⊢
                 generalize k' = i2 at hJ3 hl2 gi2 gb1 g21 ⊢)
              | (have hk0' : k' = nb - 1 := by omega
                 clear hJ3
                 have hJ3 := hJ2
                 rw [hk0'] at hl2
                 have gb1 : 2 ≤ nb - 1 := by omega
                 have g21 : nb - 1 ≤ b.size := by omega
                 have gi2 : i1 + (nb - 1) + i + 2 ≤ a.size + b.size := by omega
                 clear hJ2
                 generalize o1.push (kAt b (nb - 1)) = o2 at hJ3 ⊢
                 generalize nb - 1 = i2 at hJ3 hl2 gi2 gb1 g21 ⊢)
            refine wpS_bind (wpS_elem (by omega) ?_)
            have hJ4 := hJ3.pushA D (by omega) g11 (fun j h1 h2 => hl2 j h1)
            try dsimp only
            refine wpS_beq (fun h => wpS_pure ⟨⟨_, rfl⟩, .inl ⟨_, rfl, hJ4.done D (.inl h)⟩⟩) (fun h => ?_)
            refine wpS_ite (fun _ => wpS_pure ⟨⟨_, rfl⟩, .inr ⟨_, _, _, _, _, _, rfl, hJ4, by omega, gb1, by omega, g21, by omega⟩⟩) (fun _ => wpS_pure ⟨⟨_, rfl⟩, _, _, _, _, _, _, rfl, hJ4, by omega, gb1, by omega, g21, by omega⟩)
        · rintro c st' ⟨hg, na, nb, out, mg, ac, bc, rfl, hJ, ga, gb, g1, g2, gi⟩
          exact ⟨hg, .inr ⟨na, nb, out, mg, ac, bc, rfl, hJ, ga, gb, g1, g2, gi⟩⟩
        · clear hJ ga gb g1 g2 gi
          rintro c st' ⟨⟨g, rfl⟩, hc⟩
          rcases hc with ⟨r, hr, hm⟩ | ⟨na, nb, out, mg, ac, bc, rfl, hJ, ga, gb, g1, g2, gi⟩
          · try dsimp only
            rw [hr]
            exact wpS_pure ⟨⟨g, rfl⟩, r, rfl, hm⟩
          · try dsimp only
            refine wpS_bind (wpS_setG ?_)
            exact wpS_pure ⟨⟨_, rfl⟩, na, nb, out, _, rfl, hJ, ga, gb, g1, g2, by omega⟩
  · rintro c st' ⟨hg, na, nb, out, mg, rfl, hJ, ga, gb, g1, g2, gi⟩
    exfalso
    omega
  · rintro c st' ⟨⟨g, rfl⟩, r, hr, hm⟩
    try dsimp only
    rw [hr]
    exact wpS_pure (q r g hm)
end
end L2z
namespace L2z
open PySem PyProof.Rows
def laid (xs : Array Keyed) (lo : Nat) (r : Array Keyed) : Array Keyed := r.toList.zipIdx.foldl (fun a p => a.setIfInBounds (lo + p.2) p.1) xs
theorem laid_go (lo : Nat) : ∀ (l : List Keyed) (k : Nat) (xs : Array Keyed), lo + k + l.length ≤ xs.size →
    ((l.zipIdx k).foldl (fun a p => a.setIfInBounds (lo + p.2) p.1) xs).toList = xs.toList.take (lo + k) ++ l ++ xs.toList.drop (lo + k + l.length)
  | [], k, xs, h => by simp
  | x :: l, k, xs, h => by
    rw [List.length_cons] at h
    rw [List.zipIdx_cons, List.foldl_cons]
    have hsz : lo + (k + 1) + l.length ≤ (xs.setIfInBounds (lo + k) x).size := by rw [Array.size_setIfInBounds]; omega
    have ih := laid_go lo l (k + 1) (xs.setIfInBounds (lo + k) x) hsz
    show ((l.zipIdx (k + 1)).foldl _ (xs.setIfInBounds (lo + k) x)).toList = _
    rw [ih, Array.toList_setIfInBounds]
    have hl : lo + k < xs.toList.length := by simp; omega
    have e1 : (xs.toList.set (lo + k) x).take (lo + (k + 1)) = xs.toList.take (lo + k) ++ [x] := by
      rw [show lo + (k + 1) = lo + k + 1 by omega, List.take_add_one, List.take_set_of_le (Nat.le_refl _), List.getElem?_set_self hl]
      rfl
    have e2 : (xs.toList.set (lo + k) x).drop (lo + (k + 1) + l.length) = xs.toList.drop (lo + k + (x :: l).length) := by
      rw [List.drop_set_of_lt (by omega), List.length_cons, show lo + (k + 1) + l.length = lo + k + (l.length + 1) by omega]
    rw [e1, e2]
    simp
theorem laid_list {xs r : Array Keyed} {lo : Nat} (h : lo + r.size ≤ xs.size) : (laid xs lo r).toList = xs.toList.take lo ++ r.toList ++ xs.toList.drop (lo + r.size) := by
  have := laid_go lo r.toList 0 xs (by simpa using h)
  rw [Nat.add_zero, Array.length_toList] at this
  exact this
theorem laid_size {xs r : Array Keyed} {lo : Nat} (h : lo + r.size ≤ xs.size) : (laid xs lo r).size = xs.size := by
  have := congrArg List.length (laid_list h)
  rw [Array.length_toList] at this
  rw [this]
  simp
  omega
theorem kAt_of {xs : Array Keyed} {i : Nat} {v : Keyed} (h : xs.toList[i]? = some v) : kAt xs i = v := by
  have hl : i < xs.size := by simpa using (List.getElem?_eq_some_iff.mp h).1
  rw [get_list hl] at h
  exact Option.some.inj h
theorem laid_at {xs r : Array Keyed} {lo : Nat} (h : lo + r.size ≤ xs.size) {j : Nat} (hj : j < xs.size) : kAt (laid xs lo r) j = if lo ≤ j ∧ j < lo + r.size then kAt r (j - lo) else kAt xs j := by
  refine kAt_of ?_
  rw [laid_list h]
  have l1 : (xs.toList.take lo).length = lo := by simp; omega
  have l2 : (xs.toList.take lo ++ r.toList).length = lo + r.size := by simp; omega
  by_cases c1 : j < lo
  · rw [if_neg (by omega), List.append_assoc, List.getElem?_append_left (by omega), List.getElem?_take_of_lt c1, get_list hj]
  · by_cases c2 : j < lo + r.size
    · rw [if_pos ⟨by omega, c2⟩, List.getElem?_append_left (by omega), List.getElem?_append_right (by omega), l1, get_list (by omega)]
    · rw [if_neg (by omega), List.getElem?_append_right (by omega), l2, List.getElem?_drop, show lo + r.size + (j - (lo + r.size)) = j by omega, get_list hj]
theorem laid_perm {xs r : Array Keyed} {lo n : Nat} (h : lo + n ≤ xs.size) (hp : r.toList.Perm ((xs.toList.drop lo).take n)) : r.size = n ∧ (laid xs lo r).toList.Perm xs.toList := by
  have hn : r.size = n := by
    have := hp.length_eq
    rw [Array.length_toList, List.length_take, List.length_drop, Array.length_toList] at this
    omega
  refine ⟨hn, ?_⟩
  rw [laid_list (by omega), hn]
  have e : xs.toList = xs.toList.take lo ++ (xs.toList.drop lo).take n ++ xs.toList.drop (lo + n) := by
    rw [← List.drop_drop, List.append_assoc, List.take_append_drop, List.take_append_drop]
  conv => rhs; rw [e]
  exact List.Perm.append_right _ (List.Perm.append_left _ hp)
section
variable {rk : Keyed → Int}
theorem region {xs ys : Array Keyed} {lo m1 m2 hi : Nat} (h1 : ∀ j, j < m1 ∨ m2 ≤ j → j < hi → kAt ys j = kAt xs j) (h2 : ∀ j, m1 ≤ j → j < m2 → ∃ p, m1 ≤ p ∧ p < m2 ∧ kAt ys j = kAt xs p) (h3 : AscI rk ys m1 m2)
    (a1 : AscI rk xs lo m1) (a2 : AscI rk xs m2 hi) (c1 : ∀ i p, lo ≤ i → i < m1 → m1 ≤ p → p < m2 → rk (kAt xs i) ≤ rk (kAt xs p)) (c2 : ∀ p j, m1 ≤ p → p < m2 → m2 ≤ j → j < hi → rk (kAt xs p) ≤ rk (kAt xs j))
    (c3 : ∀ i j, lo ≤ i → i < m1 → m2 ≤ j → j < hi → rk (kAt xs i) ≤ rk (kAt xs j)) : AscI rk ys lo hi := by
  intro i j g1 g2 g3
  by_cases i1 : i < m1
  · rw [h1 i (.inl i1) (by omega)]
    by_cases j1 : j < m1
    · rw [h1 j (.inl j1) g3]; exact a1 i j g1 g2 j1
    · by_cases j2 : j < m2
      · obtain ⟨p, p1, p2, e⟩ := h2 j (by omega) j2
        rw [e]; exact c1 i p g1 i1 p1 p2
      · rw [h1 j (.inr (by omega)) g3]; exact c3 i j g1 i1 (by omega) g3
  · by_cases i2 : i < m2
    · by_cases j2 : j < m2
      · exact h3 i j (by omega) g2 j2
      · obtain ⟨p, p1, p2, e⟩ := h2 i (by omega) i2
        rw [e, h1 j (.inr (by omega)) g3]; exact c2 p j p1 p2 (by omega) g3
    · rw [h1 i (.inr (by omega)) (by omega), h1 j (.inr (by omega)) g3]
      exact a2 i j (by omega) g2 g3
theorem ext_size {xs : Array Keyed} {i j : Nat} (h : j ≤ xs.size) : (xs.extract i j).size = j - i := by
  rw [Array.size_extract]
  omega
theorem ext_at {xs : Array Keyed} {i j k : Nat} (h : j ≤ xs.size) (hk : k < j - i) : kAt (xs.extract i j) k = kAt xs (i + k) := by
  refine kAt_of ?_
  rw [ext_list, List.getElem?_take_of_lt hk, List.getElem?_drop, get_list (by omega)]
end
section
variable {prog : Program} {w : World} {A : Around} {E : Value → Shared → Prop} {s : Shared} {κ : SortKind} {Vd : Keyed → Prop} {rk : Keyed → Int}
theorem wpS_set {st st' : SortSt} {Q : PUnit → SortSt → Prop} (h : Q ⟨⟩ st') : wpS (model prog w) A E s (set st' : StateT SortSt Sem PUnit) Q st := by
  unfold wpS
  rw [StateT.run_set]
  exact wpAny_pure ⟨rfl, h⟩
theorem wpS_mergeAt (O : Ord prog w A E s κ Vd rk) {xs : Array Keyed} {pend : Array (Nat × Nat × Nat)} {g i sa na pw sb nb pw2 : Nat} {Q : Bool → SortSt → Prop} (hp1 : pend[i]? = some (sa, na, pw)) (hp2 : pend[i + 1]? = some (sb, nb, pw2)) (hsb : sb = sa + na) (hna : 1 ≤ na) (hnb : 1 ≤ nb) (hsz : sb + nb ≤ xs.size)
    (hV : ∀ j, j < xs.size → Vd (kAt xs j)) (h1 : AscI rk xs sa sb) (h2 : AscI rk xs sb (sb + nb))
    (q : ∀ ys g', ys.size = xs.size → ys.toList.Perm xs.toList → AscI rk ys sa (sb + nb) → (∀ j, j < sa ∨ sb + nb ≤ j → j < xs.size → kAt ys j = kAt xs j) → Q true (SortSt.mk' κ ys ((pend.setIfInBounds i (sa, na + nb, pw)).eraseIdxIfInBounds (i + 1)) g' none)) :
    wpS (model prog w) A E s (mergeAt' i) Q (SortSt.mk' κ xs pend g none) := by
  refine wpS_bind (wpS_get ?_)
  dsimp only
  rw [hp1, hp2]
  dsimp only
  refine wpS_bind (wpS_set ?_)
  refine wpS_bind (wpS_elem (by omega) ?_)
  refine wpS_bind (wpS_gallop O (left := false) (by omega) (by omega) (fun i hi => hV _ (by omega)) (hV _ (by omega)) rfl (fun i j g1 g2 => h1 _ _ (by omega) (by omega) (by omega)) (fun k k1 k2 k3 => ?_))
  have hk2 : ∀ x, sa ≤ x → x < sa + k → rk (kAt xs x) ≤ rk (kAt xs sb) := fun x hx1 hx2 => by
    have h6 := k2 (x - sa) (by omega)
    rw [show sa + (x - sa) = x by omega] at h6
    unfold bnd at h6
    rw [if_neg Bool.false_ne_true] at h6
    omega
  have hk3 : ∀ x, sa + k ≤ x → x < sb → rk (kAt xs sb) < rk (kAt xs x) := fun x hx1 hx2 => by
    have h6 := k3 (x - sa) (by omega) (by omega)
    rw [show sa + (x - sa) = x by omega] at h6
    unfold bnd at h6
    rw [if_neg Bool.false_ne_true] at h6
    omega
  clear k2 k3
  dsimp only
  refine wpS_beq (fun h => wpS_pure (q xs g rfl (List.Perm.refl _) ?_ (fun _ _ _ => rfl))) (fun hnk => ?_)
  · intro x y g1 g2 g3
    by_cases y1 : y < sb
    · exact h1 x y g1 g2 y1
    · by_cases x1 : x < sb
      · have := hk2 x g1 (by omega)
        have := h2 sb y (Nat.le_refl _) (by omega) g3
        omega
      · exact h2 x y (by omega) g2 g3
  refine wpS_bind (wpS_elem (by omega) ?_)
  rw [show sa + k + (na - k) - 1 = sb - 1 by omega]
  refine wpS_bind (wpS_gallop O (left := true) (by omega) (by omega) (fun i hi => hV _ (by omega)) (hV _ (by omega)) rfl (fun i j g1 g2 => h2 _ _ (by omega) (by omega) (by omega)) (fun nb' l1 l2 l3 => ?_))
  have hl2 : ∀ x, sb ≤ x → x < sb + nb' → rk (kAt xs x) < rk (kAt xs (sb - 1)) := fun x hx1 hx2 => by
    have h6 := l2 (x - sb) (by omega)
    rw [show sb + (x - sb) = x by omega] at h6
    unfold bnd at h6
    rw [if_pos rfl] at h6
    exact h6
  have hl3 : ∀ x, sb + nb' ≤ x → x < sb + nb → rk (kAt xs (sb - 1)) ≤ rk (kAt xs x) := fun x hx1 hx2 => by
    have h6 := l3 (x - sb) (by omega) (by omega)
    rw [show sb + (x - sb) = x by omega] at h6
    unfold bnd at h6
    rw [if_pos rfl] at h6
    exact h6
  clear l2 l3
  dsimp only
  refine wpS_beq (fun h => wpS_pure (q xs g rfl (List.Perm.refl _) ?_ (fun _ _ _ => rfl))) (fun hnb0 => ?_)
  · intro x y g1 g2 g3
    by_cases y1 : y < sb
    · exact h1 x y g1 g2 y1
    · by_cases x1 : x < sb
      · have := hl3 y (by omega) g3
        have := h1 x (sb - 1) g1 (by omega) (by omega)
        omega
      · exact h2 x y (by omega) g2 g3
  have zx : (xs.extract (sa + k) sb).size = na - k := by rw [ext_size (by omega)]; omega
  have zy : (xs.extract sb (sb + nb')).size = nb' := by rw [ext_size (by omega)]; omega
  have ax : ∀ j, j < na - k → kAt (xs.extract (sa + k) sb) j = kAt xs (sa + k + j) := fun j hj => ext_at (by omega) (by omega)
  have ay : ∀ j, j < nb' → kAt (xs.extract sb (sb + nb')) j = kAt xs (sb + j) := fun j hj => ext_at (by omega) (by omega)
  have D : Two rk Vd (xs.extract (sa + k) sb) (xs.extract sb (sb + nb')) := by
    refine ⟨fun i j _ g2 g3 => ?_, fun i j _ g2 g3 => ?_, fun i hi => ?_, fun i hi => ?_, by omega, by omega, ?_, fun j hj => ?_⟩
    · rw [ax i (by omega), ax j (by omega)]; exact h1 _ _ (by omega) (by omega) (by omega)
    · rw [ay i (by omega), ay j (by omega)]; exact h2 _ _ (by omega) (by omega) (by omega)
    · rw [ax i (by omega)]; exact hV _ (by omega)
    · rw [ay i (by omega)]; exact hV _ (by omega)
    · rw [ax 0 (by omega), ay 0 (by omega)]; exact hk3 _ (by omega) (by omega)
    · rw [ay j (by omega), zx, ax (na - k - 1) (by omega), show sa + k + (na - k - 1) = sb - 1 by omega]
      exact hl2 _ (by omega) (by omega)
  have et : (xs.extract (sa + k) sb).toList ++ (xs.extract sb (sb + nb')).toList = (xs.toList.drop (sa + k)).take (na - k + nb') := by
    rw [ext_list, ext_list, List.take_add, List.drop_drop, show sa + k + (na - k) = sb by omega, show sb - (sa + k) = na - k by omega, show sb + nb' - sb = nb' by omega]
  have fin : ∀ r g', MgF rk (xs.extract (sa + k) sb) (xs.extract sb (sb + nb')) r → Q true (SortSt.mk' κ (laid xs (sa + k) r) ((pend.setIfInBounds i (sa, na + nb, pw)).eraseIdxIfInBounds (i + 1)) g' none) := by
    rintro r g' ⟨hp, ha⟩
    have hp' := hp
    rw [et] at hp'
    obtain ⟨hn, hperm⟩ := laid_perm (by omega) hp'
    have hle : sa + k + r.size ≤ xs.size := by omega
    have far : ∀ j, j < sa + k ∨ sb + nb' ≤ j → j < xs.size → kAt (laid xs (sa + k) r) j = kAt xs j := fun j hj hx => by
      rw [laid_at hle hx, if_neg (by omega)]
    refine q _ g' (laid_size hle) hperm ?_ (fun j hj hx => far j (by omega) hx)
    refine region (xs := xs) (m1 := sa + k) (m2 := sb + nb') (fun j hj hx => far j hj (by omega)) (fun j j1 j2 => ?_) (fun x y g1 g2 g3 => ?_) (fun x y g1 g2 g3 => h1 x y g1 g2 (by omega)) (fun x y g1 g2 g3 => h2 x y (by omega) g2 g3) (fun x p g1 g2 g3 g4 => ?_) (fun p y g1 g2 g3 g4 => ?_) (fun x y g1 g2 g3 g4 => ?_)
    · rw [laid_at hle (by omega), if_pos ⟨j1, by omega⟩]
      have hm : kAt r (j - (sa + k)) ∈ r.toList := List.mem_of_getElem? (get_list (by omega))
      rcases List.mem_append.mp (hp.mem_iff.mp hm) with z | z
      · obtain ⟨p, p1, p2, p3, e⟩ := mem_ext2 z
        exact ⟨p, p1, by omega, e⟩
      · obtain ⟨p, p1, p2, p3, e⟩ := mem_ext2 z
        exact ⟨p, by omega, p2, e⟩
    · rw [laid_at hle (by omega), laid_at hle (by omega), if_pos ⟨g1, by omega⟩, if_pos ⟨by omega, by omega⟩]
      exact of_asc ha _ _ (Nat.zero_le _) (by omega) (by omega)
    · by_cases p1 : p < sb
      · exact h1 x p g1 (by omega) p1
      · have := hk2 x g1 g2
        have := h2 sb p (Nat.le_refl _) (by omega) (by omega)
        omega
    · by_cases p1 : p < sb
      · have := hl3 y g3 g4
        have := h1 p (sb - 1) (by omega) (by omega) (by omega)
        omega
      · exact h2 p y (by omega) (by omega) g4
    · have := hk2 x g1 g2
      have := h2 sb y (Nat.le_refl _) (by omega) g4
      omega
  refine wpS_ite (fun _ => ?_) (fun _ => ?_)
  · refine wpS_bind (wpS_mergeLo O D rfl (fun r g' hr => ?_))
    exact wpS_bind (wpS_modify (wpS_bind (wpS_get (wpS_pure (fin r g' hr)))))
  · refine wpS_bind (wpS_mergeHi O D rfl (fun r g' hr => ?_))
    exact wpS_bind (wpS_modify (wpS_bind (wpS_get (wpS_pure (fin r g' hr)))))
end
end L2z
namespace L2z
open PySem PyProof.Rows
structure Chg (lo hi : Nat) (xs ys : Array Keyed) : Prop where
  size : ys.size = xs.size
  perm : ys.toList.Perm xs.toList
  far : ∀ j, j < lo ∨ hi ≤ j → j < xs.size → kAt ys j = kAt xs j
theorem Chg.refl (lo hi : Nat) (xs : Array Keyed) : Chg lo hi xs xs := ⟨rfl, List.Perm.refl _, fun _ _ _ => rfl⟩
theorem Chg.trans {lo hi : Nat} {xs ys zs : Array Keyed} (a : Chg lo hi xs ys) (b : Chg lo hi ys zs) : Chg lo hi xs zs := ⟨b.size.trans a.size, b.perm.trans a.perm, fun j h hx => (b.far j h (by rw [a.size]; exact hx)).trans (a.far j h hx)⟩
theorem Chg.mono {lo hi lo' hi' : Nat} {xs ys : Array Keyed} (a : Chg lo hi xs ys) (h1 : lo' ≤ lo) (h2 : hi ≤ hi') : Chg lo' hi' xs ys := ⟨a.size, a.perm, fun j h hx => a.far j (by omega) hx⟩
theorem Chg.vd {Vd : Keyed → Prop} {lo hi : Nat} {xs ys : Array Keyed} (a : Chg lo hi xs ys) (h : ∀ j, j < xs.size → Vd (kAt xs j)) : ∀ j, j < ys.size → Vd (kAt ys j) := fun j hj => by
  have hm : kAt ys j ∈ ys.toList := List.mem_of_getElem? (get_list hj)
  obtain ⟨i, hi⟩ := List.getElem?_of_mem (a.perm.mem_iff.mp hm)
  have hl : i < xs.size := by simpa using (List.getElem?_eq_some_iff.mp hi).1
  rw [get_list hl] at hi
  rw [← Option.some.inj hi]
  exact h i hl
theorem mirror_at {xs : Array Keyed} {i j : Nat} (hj : j ≤ xs.size) {k : Nat} (hk : k < xs.size) : kAt (mirror xs i j ((j - i) / 2)) k = if i ≤ k ∧ k < j then kAt xs (i + j - 1 - k) else kAt xs k := by
  refine kAt_of ?_
  rw [Array.getElem?_toList, getElem?_mirror_all hj]
  by_cases c : i ≤ k ∧ k < j
  · rw [if_pos c, if_pos c]; exact kAt_get (by omega)
  · rw [if_neg c, if_neg c]; exact kAt_get hk
theorem mirror_chg {xs : Array Keyed} {i j : Nat} (hj : j ≤ xs.size) : Chg i j xs (mirror xs i j ((j - i) / 2)) :=
  ⟨mirror_size _ _ _ _, Array.perm_iff_toList_perm.mp (mirror_perm _ _ _ _), fun k h hk => by rw [mirror_at hj hk, if_neg (by omega)]⟩
theorem bubble_at {xs : Array Keyed} {src d : Nat} (hs : src < xs.size) (hd : d ≤ src) {k : Nat} (hk : k < xs.size) : kAt (bubble xs src d) k = if k = src - d then kAt xs src else if src - d < k ∧ k ≤ src then kAt xs (k - 1) else kAt xs k := by
  refine kAt_of ?_
  rw [Array.getElem?_toList, getElem?_bubble hs d hd]
  by_cases c : k = src - d
  · rw [if_pos c, if_pos c]; exact kAt_get hs
  · rw [if_neg c, if_neg c]
    by_cases c2 : src - d < k ∧ k ≤ src
    · rw [if_pos c2, if_pos c2]; exact kAt_get (by omega)
    · rw [if_neg c2, if_neg c2]; exact kAt_get hk
theorem bubble_chg {xs : Array Keyed} {src d : Nat} (hs : src < xs.size) (hd : d ≤ src) : Chg (src - d) (src + 1) xs (bubble xs src d) :=
  ⟨bubble_size _ _ _, Array.perm_iff_toList_perm.mp (bubble_perm _ _ _), fun k h hk => by rw [bubble_at hs hd hk, if_neg (by omega), if_neg (by omega)]⟩
section
variable {prog : Program} {w : World} {A : Around} {E : Value → Shared → Prop} {s : Shared} {κ : SortKind} {Vd : Keyed → Prop} {rk : Keyed → Int} {pend : Array (Nat × Nat × Nat)} {g : Nat}
theorem wpS_ltA (O : Ord prog w A E s κ Vd rk) {xs : Array Keyed} {i j : Nat} {Q : Option Bool → SortSt → Prop} (hi : i < xs.size) (hj : j < xs.size) (hV : ∀ j, j < xs.size → Vd (kAt xs j)) (h1 : rk (kAt xs i) < rk (kAt xs j) → Q (some true) (SortSt.mk' κ xs pend g none)) (h2 : rk (kAt xs j) ≤ rk (kAt xs i) → Q (some false) (SortSt.mk' κ xs pend g none)) :
    wpS (model prog w) A E s (ltAt' i j) Q (SortSt.mk' κ xs pend g none) := by
  rw [ltAt'_eq]
  refine wpS_bind (wpS_get ?_)
  exact wpS_bind (wpS_elem hi (wpS_bind (wpS_elem hj (wpS_lt O (hV i hi) (hV j hj) rfl h1 h2))))
theorem wpS_rev {xs : Array Keyed} {i j : Nat} {Q : Unit → SortSt → Prop} (h : Q () (SortSt.mk' κ (mirror xs i j ((j - i) / 2)) pend g none)) : wpS (model prog w) A E s (reverseSlice' i j) Q (SortSt.mk' κ xs pend g none) := wpS_modify h
theorem wpS_mv {xs : Array Keyed} {i j : Nat} {Q : Unit → SortSt → Prop} (h : Q () (SortSt.mk' κ (bubble xs i (i - j)) pend g none)) : wpS (model prog w) A E s (moveDown' i j) Q (SortSt.mk' κ xs pend g none) := wpS_modify h
theorem asc_loop {xs : Array Keyed} {lo nrem start : Nat} {st : SortSt} {body : Nat → Option (Option Nat) × Nat → StateT SortSt Sem (ForInStep (Option (Option Nat) × Nat))} {Q : Option (Option Nat) × Nat → SortSt → Prop}
    (hstep : ∀ x n P, 1 ≤ n → n < nrem → (rk (kAt xs (lo + n)) < rk (kAt xs (lo + n - 1)) → P (.done (none, n)) st) → (rk (kAt xs (lo + n - 1)) ≤ rk (kAt xs (lo + n)) → P (.yield (none, n + 1)) st) → wpS (model prog w) A E s (body x (none, n)) P st)
    (h1 : 1 ≤ start) (hs : start ≤ nrem) (ha : AscI rk xs lo (lo + start)) (q : ∀ n, start ≤ n → n ≤ nrem → AscI rk xs lo (lo + n) → (n < nrem → rk (kAt xs (lo + n)) < rk (kAt xs (lo + n - 1))) → Q (none, n) st) :
    wpS (model prog w) A E s (forIn [start:nrem] ((none, start) : Option (Option Nat) × Nat) body) Q st := by
  refine wpS_forRange (I := fun i c st' => st' = st ∧ c = (none, i) ∧ start ≤ i ∧ i ≤ nrem ∧ AscI rk xs lo (lo + i)) ?_ ?_ ⟨rfl, rfl, Nat.le_refl _, hs, ha⟩
  · rintro i c st' _ hin ⟨hst, rfl, g1, g2, g3⟩
    subst hst
    refine hstep i i _ (by omega) hin (fun z => q i g1 g2 g3 (fun _ => z)) (fun z => ⟨rfl, rfl, by omega, by omega, fun x y a1 a2 a3 => ?_⟩)
    by_cases y1 : y < lo + i
    · exact g3 x y a1 a2 y1
    · by_cases x1 : x = y
      · rw [x1]; exact Int.le_refl _
      · have e : y = lo + i := by omega
        have := g3 x (lo + i - 1) a1 (by omega) (by omega)
        rw [e]
        omega
  · rintro c st' ⟨hst, rfl, g1, g2, g3⟩
    subst hst
    refine q _ g1 g2 g3 (fun h => by omega)
def DescI (rk : Keyed → Int) (xs : Array Keyed) (lo hi : Nat) : Prop := ∀ i j, lo ≤ i → i ≤ j → j < hi → rk (kAt xs j) ≤ rk (kAt xs i)
theorem DescI.more {xs : Array Keyed} {lo hi : Nat} (h : DescI rk xs lo hi) (h1 : lo < hi) (h2 : rk (kAt xs hi) ≤ rk (kAt xs (hi - 1))) : DescI rk xs lo (hi + 1) := by
  intro x y a1 a2 a3
  by_cases y1 : y < hi
  · exact h x y a1 a2 y1
  · by_cases x1 : x = y
    · rw [x1]; exact Int.le_refl _
    · have e : y = hi := by omega
      have := h x (hi - 1) a1 (by omega) (by omega)
      rw [e]
      omega
theorem DescI.rev {xs : Array Keyed} {lo hi : Nat} (h : DescI rk xs lo hi) (hh : hi ≤ xs.size) : AscI rk (mirror xs lo hi ((hi - lo) / 2)) lo hi := by
  intro x y a1 a2 a3
  rw [mirror_at hh (by omega), mirror_at hh (by omega), if_pos ⟨a1, by omega⟩, if_pos ⟨by omega, a3⟩]
  exact h _ _ (by omega) (by omega) (by omega)
theorem same_rank {xs : Array Keyed} {i j : Nat} (hj : j ≤ xs.size) (he : ∀ x y, i ≤ x → x < j → i ≤ y → y < j → rk (kAt xs x) = rk (kAt xs y)) : ∀ k, k < xs.size → rk (kAt (mirror xs i j ((j - i) / 2)) k) = rk (kAt xs k) := by
  intro k hk
  rw [mirror_at hj hk]
  by_cases c : i ≤ k ∧ k < j
  · rw [if_pos c]; exact he _ _ (by omega) (by omega) c.1 c.2
  · rw [if_neg c]
end
end L2z
namespace L2z
open PySem PyProof.Rows
section
variable {prog : Program} {w : World} {A : Around} {E : Value → Shared → Prop} {s : Shared} {κ : SortKind} {Vd : Keyed → Prop} {rk : Keyed → Int} {pend : Array (Nat × Nat × Nat)} {g : Nat}
theorem wpS_run (O : Ord prog w A E s κ Vd rk) {xs : Array Keyed} {lo nrem : Nat} {Q : Option Nat → SortSt → Prop} (h1 : 1 ≤ nrem) (hz : lo + nrem ≤ xs.size) (hV : ∀ j, j < xs.size → Vd (kAt xs j))
    (q : ∀ n ys, 1 ≤ n → n ≤ nrem → Chg lo (lo + nrem) xs ys → AscI rk ys lo (lo + n) → Q (some n) (SortSt.mk' κ ys pend g none)) :
    wpS (model prog w) A E s (countRun' lo nrem) Q (SortSt.mk' κ xs pend g none) := by
  refine wpS_bind (asc_loop (xs := xs) (lo := lo) (start := 1) (rk := rk) ?_ (Nat.le_refl _) h1 ?_ ?_)
  · intro x n P g1 g2 p1 p2
    dsimp only
    refine wpS_bind (wpS_ltA O (by omega) (by omega) hV (fun z => ?_) (fun z => ?_))
    · exact wpS_pure (p1 z)
    · exact wpS_pure (p2 z)
  · intro i j a1 a2 a3
    have e : i = j := by omega
    rw [e]; exact Int.le_refl _
  · intro n n1 n2 hA hb
    dsimp only
    refine wpS_beq (fun h => wpS_pure (q n xs n1 n2 (.refl _ _ _) hA)) (fun hn => ?_)
    have hb := hb (by omega)
    have hlow : DescI rk xs lo (lo + n) → DescI rk xs lo (lo + n + 1) := fun h => h.more (by omega) (Int.le_of_lt hb)
    refine wpS_ite (fun n3 => wpS_bind (wpS_ltA O (by omega) (by omega) hV (fun z => wpS_pure (q n xs n1 n2 (.refl _ _ _) hA)) (fun z => wpS_bind (wpS_rev ?_)))) (fun n3 => ?_)
    all_goals
      first
        | (have he : ∀ x y, lo ≤ x → x < lo + n → lo ≤ y → y < lo + n → rk (kAt xs x) = rk (kAt xs y) := fun x y x1 x2 y1 y2 => by
             have a1 := hA lo x (Nat.le_refl _) x1 x2
             have a2 := hA x (lo + n - 1) x1 (by omega) (by omega)
             have b1 := hA lo y (Nat.le_refl _) y1 y2
             have b2 := hA y (lo + n - 1) y1 (by omega) (by omega)
             omega
           have hr := same_rank (rk := rk) (xs := xs) (i := lo) (j := lo + n) (by omega) he
           have hc : Chg lo (lo + nrem) xs (mirror xs lo (lo + n) ((lo + n - lo) / 2)) := (mirror_chg (by omega)).mono (Nat.le_refl _) (by omega)
           have hD : DescI rk (mirror xs lo (lo + n) ((lo + n - lo) / 2)) lo (lo + n + 1) := fun x y a1 a2 a3 => by
             rw [hr x (by omega), hr y (by omega)]
             exact hlow (fun x y a1 a2 a3 => by rw [he x y a1 (by omega) (by omega) a3]; exact Int.le_refl _) x y a1 a2 a3
           have hn3 : n > 1 := n3
           clear he hr
           generalize mirror xs lo (lo + n) ((lo + n - lo) / 2) = ys at hc hD ⊢)
        | (have hyy : ∃ ys, ys = xs ∧ Chg lo (lo + nrem) xs ys ∧ DescI rk ys lo (lo + n + 1) := ⟨xs, rfl, .refl _ _ _, hlow (fun x y a1 a2 a3 => by
             have e : x = y := by omega
             rw [e]; exact Int.le_refl _)⟩
           obtain ⟨ys, ey, hc, hD⟩ := hyy
           rw [← ey]
           clear ey)
      refine wpS_bind (wpS_rule ?_)
      refine wpS_bind (wpS_mono (wpS_forRange (Q := fun c st' => ∃ zs m neq, c = (none, m, neq) ∧ st' = SortSt.mk' κ zs pend g none ∧ Chg lo (lo + nrem) xs zs ∧ DescI rk zs lo (lo + m) ∧ 1 ≤ m ∧ m ≤ nrem ∧ neq < m ∧ ∀ x y, lo + m - (neq + 1) ≤ x → x < lo + m → lo + m - (neq + 1) ≤ y → y < lo + m → rk (kAt zs x) = rk (kAt zs y))
        (I := fun i c st' => ∃ zs neq, c = (none, i, neq) ∧ st' = SortSt.mk' κ zs pend g none ∧ Chg lo (lo + nrem) xs zs ∧ DescI rk zs lo (lo + i) ∧ 1 ≤ i ∧ i ≤ nrem ∧ neq < i ∧ ∀ x y, lo + i - (neq + 1) ≤ x → x < lo + i → lo + i - (neq + 1) ≤ y → y < lo + i → rk (kAt zs x) = rk (kAt zs y)) ?_ ?_
        ⟨ys, 0, rfl, rfl, hc, hD, by omega, by omega, by omega, fun x y a1 a2 a3 a4 => by rw [show x = y by omega]⟩) ?_)
      · clear hc hD
        rintro i c st' _ hin ⟨zs, neq, rfl, rfl, hc, hD, g1, g2, g3, g4⟩
        have hsz := hc.size
        have hVz := hc.vd hV
        dsimp only
        refine wpS_bind (wpS_ltA O (by omega) (by omega) hVz (fun z => ?_) (fun z => ?_))
        · dsimp only
          rw [if_pos rfl]
          refine wpS_ite (fun hq => wpS_bind (wpS_rev (wpS_pure ?_))) (fun hq => wpS_pure ⟨zs, 0, rfl, rfl, hc, hD.more (by omega) (Int.le_of_lt z), by omega, by omega, by omega, fun x y a1 a2 a3 a4 => by rw [show x = y by omega]⟩)
          have hr := same_rank (rk := rk) (xs := zs) (i := lo + i - (neq + 1)) (j := lo + i) (by omega) g4
          have hc2 : Chg lo (lo + nrem) xs (mirror zs (lo + i - (neq + 1)) (lo + i) ((lo + i - (lo + i - (neq + 1))) / 2)) := hc.trans ((mirror_chg (by omega)).mono (by omega) (by omega))
          refine ⟨_, 0, rfl, rfl, hc2, ?_, by omega, by omega, by omega, fun x y a1 a2 a3 a4 => by rw [show x = y by omega]⟩
          intro x y a1 a2 a3
          rw [hr x (by omega), hr y (by omega)]
          exact hD.more (by omega) (Int.le_of_lt z) x y a1 a2 a3
        · dsimp only
          rw [if_neg Bool.false_ne_true]
          refine wpS_bind (wpS_ltA O (by omega) (by omega) hVz (fun z2 => ?_) (fun z2 => ?_))
          · exact wpS_pure ⟨zs, i, neq, rfl, rfl, hc, hD, g1, g2, g3, g4⟩
          · have ee : rk (kAt zs (lo + i)) = rk (kAt zs (lo + i - 1)) := by omega
            refine wpS_pure ⟨zs, neq + 1, rfl, rfl, hc, hD.more (by omega) (by omega), by omega, by omega, by omega, fun x y a1 a2 a3 a4 => ?_⟩
            have key : ∀ x, lo + (i + 1) - (neq + 1 + 1) ≤ x → x < lo + (i + 1) → rk (kAt zs x) = rk (kAt zs (lo + i - 1)) := fun x b1 b2 => by
              by_cases x1 : x = lo + i
              · rw [x1, ee]
              · exact g4 x (lo + i - 1) (by omega) (by omega) (by omega) (by omega)
            rw [key x a1 a2, key y a3 a4]
      · rintro c st' ⟨zs, neq, rfl, rfl, r⟩
        exact ⟨zs, _, neq, rfl, rfl, r⟩
      · clear hc hD
        rintro c st' ⟨zs, m, neq, rfl, rfl, hc, hD, g1, g2, g3, g4⟩
        have hsz := hc.size
        dsimp only
        refine wpS_ite (fun hq => wpS_bind (wpS_rev ?_)) (fun hq => ?_)
        all_goals
          first
            | (have hq' : neq > 0 := hq
               have hr := same_rank (rk := rk) (xs := zs) (i := lo + m - (neq + 1)) (j := lo + m) (by omega) g4
               have hc2 : Chg lo (lo + nrem) xs (mirror zs (lo + m - (neq + 1)) (lo + m) ((lo + m - (lo + m - (neq + 1))) / 2)) := hc.trans ((mirror_chg (by omega)).mono (by omega) (by omega))
               have hD2 : DescI rk (mirror zs (lo + m - (neq + 1)) (lo + m) ((lo + m - (lo + m - (neq + 1))) / 2)) lo (lo + m) := fun x y a1 a2 a3 => by
                 rw [hr x (by omega), hr y (by omega)]
                 exact hD x y a1 a2 a3
               clear hr
               generalize mirror zs (lo + m - (neq + 1)) (lo + m) ((lo + m - (lo + m - (neq + 1))) / 2) = us at hc2 hD2 ⊢)
            | (have hyy : ∃ us, us = zs ∧ Chg lo (lo + nrem) xs us ∧ DescI rk us lo (lo + m) := ⟨zs, rfl, hc, hD⟩
               obtain ⟨us, ey, hc2, hD2⟩ := hyy
               rw [← ey]
               clear ey)
          refine wpS_bind (wpS_rev ?_)
          have hs2 := hc2.size
          have hc3 : Chg lo (lo + nrem) xs (mirror us lo (lo + m) ((lo + m - lo) / 2)) := hc2.trans ((mirror_chg (by omega)).mono (Nat.le_refl _) (by omega))
          have hA3 := hD2.rev (by omega)
          generalize mirror us lo (lo + m) ((lo + m - lo) / 2) = vs at hc3 hA3 ⊢
          have hs3 := hc3.size
          refine wpS_bind (asc_loop (xs := vs) (lo := lo) (start := m) (rk := rk) ?_ g1 g2 hA3 ?_)
          · intro x n P g1 g2 p1 p2
            dsimp only
            refine wpS_bind (wpS_ltA O (by omega) (by omega) (hc3.vd hV) (fun z => ?_) (fun z => ?_))
            · exact wpS_pure (p1 z)
            · exact wpS_pure (p2 z)
          · intro n n1 n2 hA hb
            exact wpS_pure (q n vs (by omega) n2 hc3 hA)
end
end L2z
namespace L2z
open PySem PyProof.Rows
section
variable {prog : Program} {w : World} {A : Around} {E : Value → Shared → Prop} {s : Shared} {κ : SortKind} {Vd : Keyed → Prop} {rk : Keyed → Int} {pend : Array (Nat × Nat × Nat)} {g : Nat}
theorem wpS_bin (O : Ord prog w A E s κ Vd rk) {xs : Array Keyed} {lo n ok : Nat} {Q : Bool → SortSt → Prop} (h1 : 1 ≤ ok) (hn : ok ≤ n) (hz : lo + n ≤ xs.size) (hV : ∀ j, j < xs.size → Vd (kAt xs j)) (hA : AscI rk xs lo (lo + ok))
    (q : ∀ ys, Chg lo (lo + n) xs ys → AscI rk ys lo (lo + n) → Q true (SortSt.mk' κ ys pend g none)) :
    wpS (model prog w) A E s (binarySort' lo n ok) Q (SortSt.mk' κ xs pend g none) := by
  have em : max ok 1 = ok := by omega
  refine wpS_bind (wpS_mono (wpS_forRange (Q := fun c st' => ∃ ys, c = (none, ()) ∧ st' = SortSt.mk' κ ys pend g none ∧ Chg lo (lo + n) xs ys ∧ AscI rk ys lo (lo + n))
    (I := fun k c st' => ∃ ys, c = (none, ()) ∧ st' = SortSt.mk' κ ys pend g none ∧ Chg lo (lo + n) xs ys ∧ AscI rk ys lo (lo + k) ∧ k ≤ n) ?_ ?_ ⟨xs, rfl, rfl, .refl _ _ _, by rw [em]; exact hA, by omega⟩) ?_)
  · rintro k c st' hk1 hkn ⟨ys, rfl, rfl, hc, hA, _⟩
    have hsz := hc.size
    have hVy := hc.vd hV
    dsimp only
    refine wpS_bind (wpS_mono (wpS_forRange (a := 0) (Q := fun c st' => ∃ l r, c = (none, l, r) ∧ st' = SortSt.mk' κ ys pend g none ∧ l ≤ k ∧ (∀ x, lo ≤ x → x < lo + l → rk (kAt ys x) ≤ rk (kAt ys (lo + k))) ∧ (∀ x, lo + l ≤ x → x < lo + k → rk (kAt ys (lo + k)) < rk (kAt ys x)))
      (I := fun i c st' => ∃ l r, c = (none, l, r) ∧ st' = SortSt.mk' κ ys pend g none ∧ l ≤ r ∧ r ≤ k ∧ r - l + i ≤ k ∧ (∀ x, lo ≤ x → x < lo + l → rk (kAt ys x) ≤ rk (kAt ys (lo + k))) ∧ (∀ x, lo + r ≤ x → x < lo + k → rk (kAt ys (lo + k)) < rk (kAt ys x))) ?_ ?_ ⟨0, k, rfl, rfl, by omega, Nat.le_refl _, by omega, fun x a1 a2 => by omega, fun x a1 a2 => by omega⟩) ?_)
    · rintro i c st' _ hi ⟨l, r, rfl, rfl, g1, g2, g3, g4, g5⟩
      dsimp only
      refine wpS_ite (fun h => wpS_pure ⟨l, r, rfl, rfl, by omega, g4, fun x a1 a2 => g5 x (by omega) a2⟩) (fun h => ?_)
      have hm : (l + r) / 2 < r := by omega
      have hm0 : l ≤ (l + r) / 2 := by omega
      generalize (l + r) / 2 = m at hm hm0 ⊢
      refine wpS_bind (wpS_ltA O (by omega) (by omega) hVy (fun z => ?_) (fun z => ?_))
      · refine wpS_pure ⟨l, m, rfl, rfl, hm0, by omega, by omega, g4, fun x a1 a2 => ?_⟩
        have := hA (lo + m) x (by omega) a1 a2
        omega
      · refine wpS_pure ⟨m + 1, r, rfl, rfl, by omega, g2, by omega, fun x a1 a2 => ?_, g5⟩
        have := hA x (lo + m) a1 (by omega) (by omega)
        omega
    · rintro c st' ⟨l, r, rfl, rfl, g1, g2, g3, g4, g5⟩
      exact ⟨l, r, rfl, rfl, by omega, g4, fun x a1 a2 => g5 x (by omega) a2⟩
    · rintro c st' ⟨l, r, rfl, rfl, g1, g4, g5⟩
      dsimp only
      refine wpS_bind (wpS_mv (wpS_pure ?_))
      have hd : lo + k - (lo + l) ≤ lo + k := by omega
      have hs : lo + k < ys.size := by omega
      refine ⟨_, rfl, rfl, hc.trans ((bubble_chg hs hd).mono (by omega) (by omega)), ?_, by omega⟩
      intro x y a1 a2 a3
      rw [bubble_at hs hd (by omega), bubble_at hs hd (by omega), show lo + k - (lo + k - (lo + l)) = lo + l by omega]
      by_cases x1 : x < lo + l
      · rw [if_neg (show ¬ x = lo + l by omega), if_neg (show ¬ (lo + l < x ∧ x ≤ lo + k) by omega)]
        by_cases y1 : y = lo + l
        · rw [if_pos y1]; exact g4 x a1 x1
        · rw [if_neg y1]
          by_cases y2 : lo + l < y ∧ y ≤ lo + k
          · rw [if_pos y2]; exact hA x (y - 1) a1 (by omega) (by omega)
          · rw [if_neg y2]; exact hA x y a1 a2 (by omega)
      · by_cases x2 : x = lo + l
        · rw [if_pos x2]
          by_cases y1 : y = lo + l
          · rw [if_pos y1]; exact Int.le_refl _
          · rw [if_neg y1, if_pos (show lo + l < y ∧ y ≤ lo + k by omega)]
            exact Int.le_of_lt (g5 (y - 1) (by omega) (by omega))
        · rw [if_neg x2, if_pos (show lo + l < x ∧ x ≤ lo + k by omega), if_neg (show ¬ y = lo + l by omega), if_pos (show lo + l < y ∧ y ≤ lo + k by omega)]
          exact hA (x - 1) (y - 1) (by omega) (by omega) (by omega)
  · rintro c st' ⟨ys, rfl, rfl, hc, hA, hk⟩
    rw [show max (max ok 1) n = n by omega] at hA
    exact ⟨ys, rfl, rfl, hc, hA⟩
  · rintro c st' ⟨ys, rfl, rfl, hc, hA⟩
    exact wpS_pure (q ys hc hA)
def prs (pend : Array (Nat × Nat × Nat)) : List (Nat × Nat) := pend.toList.map fun x => (x.1, x.2.1)
def Pd (rk : Keyed → Int) (xs : Array Keyed) : Nat → List (Nat × Nat) → Nat → Prop
  | a, [], e => a = e
  | a, (st, len) :: r, e => st = a ∧ 1 ≤ len ∧ AscI rk xs st (st + len) ∧ Pd rk xs (st + len) r e
theorem Pd.le {xs : Array Keyed} : ∀ {l : List (Nat × Nat)} {a e : Nat}, Pd rk xs a l e → a + l.length ≤ e
  | [], a, e, h => by cases h; exact Nat.le_refl _
  | (st, len) :: r, a, e, ⟨h1, h2, _, h3⟩ => by
    have := Pd.le h3
    rw [List.length_cons]
    omega
theorem Pd.split {xs : Array Keyed} : ∀ {l r : List (Nat × Nat)} {a e : Nat}, Pd rk xs a (l ++ r) e → ∃ m, Pd rk xs a l m ∧ Pd rk xs m r e
  | [], r, a, e, h => ⟨a, rfl, h⟩
  | (st, len) :: l, r, a, e, ⟨h1, h2, h3, h4⟩ => by
    obtain ⟨m, g1, g2⟩ := Pd.split h4
    exact ⟨m, ⟨h1, h2, h3, g1⟩, g2⟩
theorem Pd.app {xs : Array Keyed} : ∀ {l r : List (Nat × Nat)} {a m e : Nat}, Pd rk xs a l m → Pd rk xs m r e → Pd rk xs a (l ++ r) e
  | [], r, a, m, e, h, g => by cases h; exact g
  | (st, len) :: l, r, a, m, e, ⟨h1, h2, h3, h4⟩, g => ⟨h1, h2, h3, Pd.app h4 g⟩
theorem Pd.far {xs ys : Array Keyed} : ∀ {l : List (Nat × Nat)} {a e : Nat}, Pd rk xs a l e → (∀ j, a ≤ j → j < e → kAt ys j = kAt xs j) → Pd rk ys a l e
  | [], a, e, h, _ => h
  | (st, len) :: r, a, e, ⟨h1, h2, h3, h4⟩, hf => by
    have hl := Pd.le h4
    refine ⟨h1, h2, fun x y a1 a2 a3 => ?_, Pd.far h4 fun j j1 j2 => hf j (by omega) j2⟩
    rw [hf x (by omega) (by omega), hf y (by omega) (by omega)]
    exact h3 x y a1 a2 a3
theorem split2 {α : Type} {l : List α} {i : Nat} (h : i + 1 < l.length) : ∃ a x y r, l = a ++ x :: y :: r ∧ a.length = i := by
  refine ⟨l.take i, l[i], l[i + 1], l.drop (i + 2), ?_, by rw [List.length_take]; omega⟩
  rw [← List.drop_eq_getElem_cons, ← List.drop_eq_getElem_cons, List.take_append_drop]
theorem wpS_mergeP (O : Ord prog w A E s κ Vd rk) {xs : Array Keyed} {i lo : Nat} {Q : Bool → SortSt → Prop} (hp : Pd rk xs 0 (prs pend) lo) (hlo : lo ≤ xs.size) (hi : i + 1 < pend.size) (hV : ∀ j, j < xs.size → Vd (kAt xs j))
    (q : ∀ ys pend' g', Chg 0 lo xs ys → Pd rk ys 0 (prs pend') lo → pend'.size + 1 = pend.size → Q true (SortSt.mk' κ ys pend' g' none)) :
    wpS (model prog w) A E s (mergeAt' i) Q (SortSt.mk' κ xs pend g none) := by
  obtain ⟨l, x, y, r, el, hl⟩ := split2 (l := pend.toList) (i := i) (by simpa using hi)
  obtain ⟨sa, na, pw⟩ := x
  obtain ⟨sb, nb, pw2⟩ := y
  have e1 : pend[i]? = some (sa, na, pw) := by
    rw [← Array.getElem?_toList, el, List.getElem?_append_right (by omega), hl, Nat.sub_self]
    rfl
  have e2 : pend[i + 1]? = some (sb, nb, pw2) := by
    rw [← Array.getElem?_toList, el, List.getElem?_append_right (by omega), hl, show i + 1 - i = 1 by omega]
    rfl
  have ep : prs pend = l.map (fun x => (x.1, x.2.1)) ++ ((sa, na) :: (sb, nb) :: r.map (fun x => (x.1, x.2.1))) := by
    unfold prs
    rw [el, List.map_append]
    rfl
  rw [ep] at hp
  obtain ⟨m, p1, a1, a2, a3, b1, b2, b3, p2⟩ := Pd.split hp
  have hl2 := Pd.le p2
  have hl1 := Pd.le p1
  refine wpS_mergeAt O e1 e2 b1 a2 b2 (by omega) hV (by rw [b1]; exact a3) b3 (fun ys g' hs hperm hA hfar => ?_)
  have e3 : ((pend.setIfInBounds i (sa, na + nb, pw)).eraseIdxIfInBounds (i + 1)).toList = l ++ (sa, na + nb, pw) :: r := by
    have q1 : (pend.setIfInBounds i (sa, na + nb, pw)).toList = l ++ (sa, na + nb, pw) :: (sb, nb, pw2) :: r := by
      rw [Array.toList_setIfInBounds, el, ← hl, List.set_append_right _ _ (Nat.le_refl _), Nat.sub_self]
      rfl
    rw [Array.eraseIdxIfInBounds, dif_pos (by rw [Array.size_setIfInBounds]; exact hi), Array.toList_eraseIdx, q1, ← hl, List.eraseIdx_append_of_length_le (by omega), show l.length + 1 - l.length = 1 by omega]
    rfl
  refine q ys _ g' ⟨hs, hperm, fun j hj hx => hfar j (by omega) hx⟩ ?_ ?_
  · unfold prs
    rw [e3, List.map_append]
    have f1 : ∀ j, 0 ≤ j → j < m → kAt ys j = kAt xs j := fun j j1 j2 => hfar j (.inl (by omega)) (by omega)
    have f2 : ∀ j, sb + nb ≤ j → j < lo → kAt ys j = kAt xs j := fun j j1 j2 => hfar j (.inr (by omega)) (by omega)
    have p3 : Pd rk ys (sa + (na + nb)) (r.map fun x => (x.1, x.2.1)) lo := by
      rw [show sa + (na + nb) = sb + nb by omega]; exact Pd.far p2 f2
    refine Pd.app (m := m) (Pd.far p1 f1) ⟨a1, (show 1 ≤ na + nb by omega), ?_, p3⟩
    show AscI rk ys sa (sa + (na + nb))
    rw [show sa + (na + nb) = sb + nb by omega]; exact hA
  · have := congrArg List.length e3
    have h2 := congrArg List.length el
    simp only [List.length_append, List.length_cons, Array.length_toList] at this h2
    omega
end
end L2z
namespace L2z
open PySem PyProof.Rows
section
variable {prog : Program} {w : World} {A : Around} {E : Value → Shared → Prop} {s : Shared} {κ : SortKind} {Vd : Keyed → Prop} {rk : Keyed → Int}
theorem prs_push (pend : Array (Nat × Nat × Nat)) (x y z : Nat) : prs (pend.push (x, y, z)) = prs pend ++ [(x, y)] := by
  unfold prs
  rw [Array.toList_push, List.map_append]
  rfl
theorem prs_modify (pend : Array (Nat × Nat × Nat)) (i : Nat) (f : Nat × Nat × Nat → Nat × Nat × Nat) (hf : ∀ x, (f x).1 = x.1 ∧ (f x).2.1 = x.2.1) : prs (pend.modify i f) = prs pend := by
  unfold prs
  rw [Array.toList_modify]
  refine List.ext_getElem? fun j => ?_
  rw [List.getElem?_map, List.getElem?_map, List.getElem?_modify]
  cases pend.toList[j]? with
  | none => rfl
  | some x =>
    by_cases c : i = j
    · simp [c, (hf x).1, (hf x).2]
    · simp [c]
theorem wpS_sort (O : Ord prog w A E s κ Vd rk) {xs : Array Keyed} {Q : Unit → SortSt → Prop} (hV : ∀ j, j < xs.size → Vd (kAt xs j)) (h0 : 2 ≤ xs.size)
    (q : ∀ ys pend g, ys.toList.Perm xs.toList → AscI rk ys 0 ys.size → Q () (SortSt.mk' κ ys pend g none)) :
    wpS (model prog w) A E s sortRuns' Q (SortSt.mk' κ xs #[] 7 none) := by
  refine wpS_bind (wpS_get ?_)
  refine wpS_bind (wpS_mono (wpS_forRange (a := 0) (b := xs.size) (Q := fun c st' => ∃ ys pend g, c = (none, xs.size) ∧ st' = SortSt.mk' κ ys pend g none ∧ Chg 0 xs.size xs ys ∧ Pd rk ys 0 (prs pend) xs.size)
    (I := fun i c st' => ∃ ys pend g lo, c = (none, lo) ∧ st' = SortSt.mk' κ ys pend g none ∧ Chg 0 xs.size xs ys ∧ Pd rk ys 0 (prs pend) lo ∧ lo ≤ xs.size ∧ i ≤ lo) ?_ ?_ ⟨xs, #[], 7, 0, rfl, rfl, .refl _ _ _, rfl, Nat.zero_le _, Nat.le_refl _⟩) ?_)
  · rintro i c st' _ hin ⟨ys, pend, g, lo, rfl, rfl, hc, hp, hlo, hil⟩
    have hsz := hc.size
    have hVy := hc.vd hV
    refine wpS_ite (fun (h : lo ≥ xs.size) => wpS_pure ⟨ys, pend, g, by rw [show lo = xs.size by omega], rfl, hc, by rw [show xs.size = lo by omega]; exact hp⟩) (fun h => ?_)
    have h : ¬ lo ≥ xs.size := h
    refine wpS_bind (wpS_run O (nrem := xs.size - lo) (by omega) (by omega) hVy (fun n zs n1 n2 hc2 hA => ?_))
    have hc3 : Chg 0 xs.size xs zs := hc.trans (hc2.mono (Nat.zero_le _) (by omega))
    have hp2 : Pd rk zs 0 (prs pend) lo := Pd.far hp fun j _ j2 => hc2.far j (.inl j2) (by omega)
    have hn2 : lo + n ≤ xs.size := by omega
    clear hp hc hVy hsz hc2
    refine wpS_ite (fun hm => wpS_bind (wpS_rule (wpS_bind (wpS_bin O (ok := n) (n := min (xs.size - lo) (minRun' xs.size xs.size 0)) n1 ?_ ?_ (hc3.vd hV) hA (fun us hc4 hA4 => ?_))))) (fun hm => ?_)
    · have hm : n < minRun' xs.size xs.size 0 := hm
      omega
    · rw [hc3.size]; omega
    all_goals
      first
        | (have hm' : n < minRun' xs.size xs.size 0 := hm
           have hs3 := hc3.size
           have hf1 : 1 ≤ min (xs.size - lo) (minRun' xs.size xs.size 0) := by omega
           have hf2 : lo + min (xs.size - lo) (minRun' xs.size xs.size 0) ≤ xs.size := by omega
           have hf3 : i + 1 ≤ lo + min (xs.size - lo) (minRun' xs.size xs.size 0) := by omega
           have hc5 : Chg 0 xs.size xs us := hc3.trans (hc4.mono (Nat.zero_le _) hf2)
           have hp5 : Pd rk us 0 (prs pend) lo := Pd.far hp2 fun j _ j2 => hc4.far j (.inl j2) (by omega)
           have hA5 : AscI rk us lo (lo + min (xs.size - lo) (minRun' xs.size xs.size 0)) := hA4
           clear hc3 hp2 hA hc4 hn2 n1 n2 hm hm' hs3 hA4
           rw [if_neg (by decide)])
        | (have hf1 := n1
           have hf2 := hn2
           have hf3 : i + 1 ≤ lo + n := by omega
           obtain ⟨us, eu, hc5, hp5, hA5⟩ : ∃ us, us = zs ∧ Chg 0 xs.size xs us ∧ Pd rk us 0 (prs pend) lo ∧ AscI rk us lo (lo + n) := ⟨zs, rfl, hc3, hp2, hA⟩
           rw [← eu]
           clear hc3 hp2 hA hn2 n1 n2 hm eu)
      refine wpS_bind (wpS_get ?_)
      dsimp only
      cases hb : pend.back? with
      | none =>
        refine wpS_bind (wpS_modify (wpS_pure ⟨us, _, g, _, rfl, rfl, hc5, ?_, hf2, hf3⟩))
        rw [prs_push]
        exact Pd.app hp5 ⟨rfl, hf1, hA5, rfl⟩
      | some t =>
        obtain ⟨s1, n1, p1⟩ := t
        dsimp only
        refine wpS_bind (wpS_mono (wpS_forRange (a := 0) (b := xs.size) (Q := fun c st' => ∃ vs pend g, c = (none, ()) ∧ st' = SortSt.mk' κ vs pend g none ∧ Chg 0 lo us vs ∧ Pd rk vs 0 (prs pend) lo)
          (I := fun i c st' => ∃ vs pend g, c = (none, ()) ∧ st' = SortSt.mk' κ vs pend g none ∧ Chg 0 lo us vs ∧ Pd rk vs 0 (prs pend) lo) ?_ ?_ ⟨us, pend, g, rfl, rfl, .refl _ _ _, hp5⟩) ?_)
        · rintro i' c st' _ _ ⟨vs, pd, g', rfl, rfl, hc6, hp6⟩
          have hs5 := hc5.size
          have hs6 := hc6.size
          refine wpS_bind (wpS_get ?_)
          dsimp only
          by_cases hz : pd.size > 1
          · rw [if_pos hz]
            have e1 : pd[pd.size - 2]? = some (pd[pd.size - 2]'(by omega)) := Array.getElem?_eq_getElem (by omega)
            generalize pd[pd.size - 2]'(by omega) = t at e1
            obtain ⟨t1, t2, t3⟩ := t
            rw [e1]
            dsimp only
            refine wpS_ite (fun _ => wpS_pure ⟨vs, pd, g', rfl, rfl, hc6, hp6⟩) (fun _ => ?_)
            refine wpS_bind (wpS_mergeP O hp6 (by omega) (by omega) (hc6.vd (hc5.vd hV)) (fun ws pd2 g2 hc7 hp7 _ => ?_))
            exact wpS_pure ⟨ws, pd2, g2, rfl, rfl, hc6.trans hc7, hp7⟩
          · rw [if_neg hz]
            exact wpS_pure ⟨vs, pd, g', rfl, rfl, hc6, hp6⟩
        · exact fun c st' h => h
        · rintro c st' ⟨vs, pd, g', rfl, rfl, hc6, hp6⟩
          have hs5 := hc5.size
          refine wpS_bind (wpS_modify (wpS_bind (wpS_modify (wpS_pure ⟨vs, _, g', _, rfl, rfl, hc5.trans (hc6.mono (Nat.le_refl _) hlo), ?_, hf2, hf3⟩))))
          have hp8 : ∀ pw, Pd rk vs 0 (prs (pd.modify (pd.size - 1) fun x => (x.1, x.2.1, pw))) lo := fun pw => by
            rw [prs_modify pd (pd.size - 1) (fun x => (x.1, x.2.1, pw)) (fun x => ⟨rfl, rfl⟩)]
            exact hp6
          rw [prs_push]
          refine Pd.app (hp8 _) ⟨rfl, hf1, fun x y a1 a2 a3 => ?_, rfl⟩
          rw [hc6.far x (.inr a1) (by rw [hs5]; exact Nat.lt_of_lt_of_le (Nat.lt_of_le_of_lt a2 a3) hf2), hc6.far y (.inr (Nat.le_trans a1 a2)) (by rw [hs5]; exact Nat.lt_of_lt_of_le a3 hf2)]
          exact hA5 x y a1 a2 a3
  · rintro c st' ⟨ys, pend, g, lo, rfl, rfl, hc, hp, hlo, hil⟩
    have e : lo = xs.size := by omega
    subst e
    exact ⟨ys, pend, g, rfl, rfl, hc, hp⟩
  · rintro c st' ⟨ys, pend, g, rfl, rfl, hc, hp⟩
    have hle := Pd.le hp
    have hpl : (prs pend).length = pend.size := by unfold prs; simp
    dsimp only
    refine wpS_bind (wpS_mono (wpS_forRange (a := 0) (b := xs.size) (Q := fun c st' => ∃ vs pend g, c = (none, ()) ∧ st' = SortSt.mk' κ vs pend g none ∧ Chg 0 xs.size xs vs ∧ Pd rk vs 0 (prs pend) xs.size ∧ pend.size ≤ 1)
      (I := fun i c st' => ∃ vs pend g, c = (none, ()) ∧ st' = SortSt.mk' κ vs pend g none ∧ Chg 0 xs.size xs vs ∧ Pd rk vs 0 (prs pend) xs.size ∧ (pend.size ≤ 1 ∨ pend.size + i ≤ xs.size)) ?_ ?_ ⟨ys, pend, g, rfl, rfl, hc, hp, .inr (by omega)⟩) ?_)
    · rintro i c st' _ hin ⟨vs, pd, g', rfl, rfl, hc6, hp6, hi⟩
      have hs6 := hc6.size
      refine wpS_bind (wpS_get ?_)
      dsimp only
      refine wpS_ite (fun h => wpS_pure ⟨vs, pd, g', rfl, rfl, hc6, hp6, h⟩) (fun h => ?_)
      have h : ¬ pd.size ≤ 1 := h
      refine wpS_bind (wpS_mergeP O hp6 (by omega) ?_ (hc6.vd hV) (fun ws pd2 g2 hc7 hp7 hz => ?_))
      · have hx : ∀ (c : Prop) [Decidable c], (if c then pd.size - 2 - 1 else pd.size - 2) + 1 < pd.size := fun c _ => by split <;> omega
        exact hx _
      · exact wpS_pure ⟨ws, pd2, g2, rfl, rfl, hc6.trans hc7, hp7, by omega⟩
    · rintro c st' ⟨vs, pd, g', rfl, rfl, hc6, hp6, hi⟩
      refine ⟨vs, pd, g', rfl, rfl, hc6, hp6, ?_⟩
      rcases hi with h | h
      · exact h
      · rw [show max 0 xs.size = xs.size by omega] at h
        omega
    · rintro c st' ⟨vs, pd, g', rfl, rfl, hc6, hp6, hi⟩
      refine wpS_pure (q vs pd g' hc6.perm ?_)
      have hpl2 : (prs pd).length = pd.size := by unfold prs; simp
      rw [hc6.size]
      cases hz : prs pd with
      | nil =>
        rw [hz] at hp6
        have hp6 : 0 = xs.size := hp6
        omega
      | cons x r =>
        obtain ⟨st, len⟩ := x
        rw [hz] at hp6 hpl2
        have hr : r = [] := by
          cases r with
          | nil => rfl
          | cons _ _ => simp at hpl2; omega
        subst hr
        obtain ⟨a1, a2, a3, a4⟩ := hp6
        have a4 : st + len = xs.size := a4
        rw [← a4, a1]
        rw [a1] at a3
        exact a3
end
end L2z
namespace L2
open PySem PySem.Spec PyProof.Rows L2z
section
variable {prog : Program} {w : World} {A : Around} {E : Value → Shared → Prop} {s : Shared} {κ : SortKind} {Vd : Keyed → Prop} {rk : Keyed → Int}
theorem kAt_mem {xs : Array Keyed} {j : Nat} (h : j < xs.size) : kAt xs j ∈ xs.toList := by
  have e := kAt_get h
  rw [← Array.getElem?_toList] at e
  exact List.mem_of_getElem? e
theorem pairs_same {vs : List Value} {k : Keyed} (h : k ∈ (vs.toArray.zip vs.toArray).toList) : k.1 = k.2 ∧ k.2 ∈ vs := by
  have e : (vs.toArray.zip vs.toArray).toList = vs.zip vs := by simp
  rw [e] at h
  have := mem_zip_self h
  exact ⟨this.1, this.1 ▸ this.2⟩
theorem pairs_snd (vs : List Value) : (vs.toArray.zip vs.toArray).toList.map (·.2) = vs := by
  have e : (vs.toArray.zip vs.toArray).toList = vs.zip vs := by simp
  rw [e]
  exact List.map_snd_zip (Nat.le_refl _)
theorem sort_any {a : Addr} {vs : List Value} {n : Nat} {P : Fin → Shared → Prop} (ho : s.heap.get? a = some (seqObj "list" vs.toArray n)) (hz : vs.length ≤ 60000)
    (hO : ∀ s1 : Shared, (∀ b o, b ≠ a → s.heap.get? b = some o → s1.heap.get? b = some o) → Ord prog w A E s1 κ Vd rk)
    (hK : 2 ≤ vs.length → ∀ s1 : Shared, (∀ b o, b ≠ a → s.heap.get? b = some o → s1.heap.get? b = some o) → ∀ Q : SortKind → Shared → Prop, Q κ s1 → wpAny (model prog w) A (keyKind' vs.toArray) Q E s1)
    (hV : ∀ v ∈ vs, Vd (v, v))
    (h : ∀ ys : Array Keyed, ys.toList.Perm (vs.toArray.zip vs.toArray).toList → AscI rk ys 0 ys.size → P (.done (.ret .none)) { s with heap := sortedHeap s.heap a vs (ys.map (·.2)) }) :
    wpAny (model prog w) A (Builtin.«list.sort» ⟨[.ref a], []⟩) P E s := by
  rw [list_sort_plain]
  have ha : a < s.heap.objs.size := Heap.lt_size ho
  have hsz : vs.toArray.size = vs.length := by simp
  refine wpAny_bind (listItems_at ho rfl ?_)
  refine wpAny_bind (listUpdate_at ho rfl ?_ (by rw [hsz, sizeLine_eq]; omega) (Nat.zero_le _))
  obtain ⟨e1, ho1⟩ : ∃ e1, (s.heap.update a (Obj.mapSeq fun _ => #[])).get? a = some (seqObj "list" #[] e1) := ⟨_, get?_update_seq ho (fun _ => #[])⟩
  refine wpAny_bind (seqEpoch_at ho1 rfl ?_)
  refine wpAny_bind (wpAny_newTuple ?_ (by show vs.length ≤ _; rw [sizeLine_eq]; omega))
  refine wpAny_bind (wpAny_newList ?_ (Nat.zero_le _))
  refine wpAny_holding ?_
  have kept : ∀ b o, b ≠ a → s.heap.get? b = some o → (((s.heap.update a (Obj.mapSeq fun _ => #[])).push (seqObj "tuple" vs.toArray 0)).push (seqObj "list" #[] 0)).get? b = some o := fun b o hb q =>
    Heap.get?_push_of_some _ (Heap.get?_push_of_some _ ((Heap.get?_update_ne _ _ _ _ hb).trans q))
  have ho6 : (((s.heap.update a (Obj.mapSeq fun _ => #[])).push (seqObj "tuple" vs.toArray 0)).push (seqObj "list" #[] 0)).get? a = some (seqObj "list" #[] e1) := Heap.get?_push_of_some _ (Heap.get?_push_of_some _ ho1)
  show wpAny (model prog w) A _ P E { s with heap := ((s.heap.update a (Obj.mapSeq fun _ => #[])).push (seqObj "tuple" vs.toArray 0)).push (seqObj "list" #[] 0) }
  dsimp only
  have hzs : (vs.toArray.zip vs.toArray).size = vs.length := by simp
  by_cases h2 : vs.toArray.size < 2
  · rw [if_pos h2, if_pos h2]
    refine wpAny_bind (wpAny_pure ?_)
    rw [StateT.run_pure]
    refine wpAny_bind (wpAny_pure ?_)
    dsimp only
    refine wpAny_bind (seqEpoch_at ho6 rfl ?_)
    refine wpAny_bind (listUpdate_at ho6 rfl ?_ (Nat.zero_le _) (by refine Nat.le_trans (Nat.le_of_eq ((Array.size_map ..).trans hzs)) ?_; rw [sizeLine_eq]; omega))
    simp only [bne_self_eq_false, Bool.false_eq_true, if_false]
    refine wpAny_pure (h (vs.toArray.zip vs.toArray) (List.Perm.refl _) ?_)
    intro i j _ hij hj
    have : i = j := by rw [hzs] at hj; omega
    subst this; exact Int.le_refl _
  · rw [if_neg h2, if_neg h2]
    refine wpAny_bind (hK (by omega) _ kept _ ?_)
    refine wpAny_bind (wpAny_mono (wpS_sort (hO _ kept) (xs := vs.toArray.zip vs.toArray)
      (Q := fun _ st' => failedOf st' = none ∧ (arrOf st').toList.Perm (vs.toArray.zip vs.toArray).toList ∧ AscI rk (arrOf st') 0 (arrOf st').size)
      (fun j hj => ?_) (by omega) fun ys pend g a1 a2 => ⟨rfl, a1, a2⟩) ?_ fun _ _ e => e)
    · obtain ⟨q1, q2⟩ := pairs_same (kAt_mem hj)
      have := hV _ q2
      rw [show kAt (vs.toArray.zip vs.toArray) j = ((kAt (vs.toArray.zip vs.toArray) j).2, (kAt (vs.toArray.zip vs.toArray) j).2) from Prod.ext q1 rfl]
      exact this
    · rintro ⟨⟨⟩, st'⟩ s' ⟨rfl, hf, hp, hs⟩
      dsimp only
      refine wpAny_bind (seqEpoch_at ho6 rfl ?_)
      have hl := hp.length_eq
      rw [Array.length_toList, Array.length_toList, hzs] at hl
      refine wpAny_bind (listUpdate_at ho6 rfl ?_ (Nat.zero_le _) (by refine Nat.le_trans (Nat.le_of_eq ((Array.size_map ..).trans hl)) ?_; rw [sizeLine_eq]; omega))
      rw [hf]
      simp only [bne_self_eq_false, Bool.false_eq_true, if_false]
      exact wpAny_pure (h _ hp hs)
theorem sorted_list {l : Addr} {vs : List Value} {Q : Value → Shared → Prop} (hl : s.heap.IsList l vs.toArray) (hz : vs.length ≤ 60000)
    (hO : ∀ s1 : Shared, (∀ b o, s.heap.get? b = some o → s1.heap.get? b = some o) → Ord prog w A.in1.in1 E s1 κ Vd rk)
    (hK : 2 ≤ vs.length → ∀ s1 : Shared, (∀ b o, s.heap.get? b = some o → s1.heap.get? b = some o) → ∀ Q : SortKind → Shared → Prop, Q κ s1 → wpAny (model prog w) A.in1.in1 (keyKind' vs.toArray) Q E s1)
    (hV : ∀ v ∈ vs, Vd (v, v))
    (h : ∀ ys : Array Keyed, ys.toList.Perm (vs.toArray.zip vs.toArray).toList → AscI rk ys 0 ys.size → Q (.ref (s.heap.objs.size + 1)) { s with heap := sortedAll s.heap vs (ys.map (·.2)) }) :
    wpAny (model prog w) A (call (.builtin "sorted") [.ref l]) Q E s := by
  refine Calls.call_function_entry kind_sorted plain_sorted entry_sorted (args_sorted1 _) ?_
  unfold Builtin.«sorted»
  refine wpAny_bind (m := checkCount "sorted" 1 1 _) (wpAny_pure ?_)
  refine wpAny_bind (collect_list hl ?_ (by rw [sizeLine_eq]; omega))
  refine wpAny_bind (wpAny_newList ?_ (by rw [sizeLine_eq]; omega))
  have hsz : ((s.heap.push (seqObj "list" #[] 0)).update s.heap.objs.size (Obj.mapSeq (· ++ vs.toArray))).objs.size = s.heap.objs.size + 1 := by
    rw [Heap.size_update, size_push']
  have hoL : (((s.heap.push (seqObj "list" #[] 0)).update s.heap.objs.size (Obj.mapSeq (· ++ vs.toArray))).push (seqObj "list" vs.toArray 0)).get? (s.heap.objs.size + 1) = some (seqObj "list" vs.toArray 0) := by
    rw [← hsz]; exact Heap.get?_push_size _ rfl
  have keep : ∀ b o, s.heap.get? b = some o → b ≠ s.heap.objs.size + 1 ∧ (((s.heap.push (seqObj "list" #[] 0)).update s.heap.objs.size (Obj.mapSeq (· ++ vs.toArray))).push (seqObj "list" vs.toArray 0)).get? b = some o := fun b o q => by
    have hlt : b < s.heap.objs.size := Heap.lt_size q
    refine ⟨Nat.ne_of_lt (Nat.lt_succ_of_lt hlt), ?_⟩
    rw [Heap.get?_push_ne _ _ _ (by rw [hsz]; exact Nat.ne_of_lt (Nat.lt_succ_of_lt hlt)), Heap.get?_update_ne _ _ _ _ (Nat.ne_of_lt hlt), Heap.get?_push_ne _ _ _ (Nat.ne_of_lt hlt)]
    exact q
  show wpAny _ _ _ _ _ { s with heap := ((s.heap.push (seqObj "list" #[] 0)).update s.heap.objs.size (Obj.mapSeq (· ++ vs.toArray))).push (seqObj "list" vs.toArray 0) }
  rw [hsz]
  refine wpAny_bind (wpAny_holding (wpAny_call_entry slot_list_sort (s := { s with heap := ((s.heap.push (seqObj "list" #[] 0)).update s.heap.objs.size (Obj.mapSeq (· ++ vs.toArray))).push (seqObj "list" vs.toArray 0) }) ⟨_, hoL, rfl⟩ entry_list_sort
    (sort_any (κ := κ) (Vd := Vd) (rk := rk) hoL hz (fun s1 k1 => hO s1 fun b o q => k1 b o (keep b o q).1 (keep b o q).2) (fun h2 s1 k1 => hK h2 s1 fun b o q => k1 b o (keep b o q).1 (keep b o q).2) hV fun ys a1 a2 => ⟨_, rfl, ?_⟩) (args_list_sort _)))
  exact wpAny_pure ⟨_, rfl, h ys a1 a2⟩
theorem ord_by {κ : SortKind} (hc : ∀ {x y : Keyed} {Q : Bool → Shared → Prop}, Vd x → Vd y → Q (decide (rk x < rk y)) s → wpAny (model prog w) A (keyLt' κ x.1 y.1) Q (fun _ _ => False) s) : Ord prog w A E s κ Vd rk := by
  refine ⟨fun {x y st Q} hx hy hk q => ?_⟩
  rw [lt'_eq]
  refine wpS_bind (wpS_get ?_)
  rw [hk]
  refine wpS_bind (wpS_lift (wpAny_attempt (wpAny_mono (hc hx hy ⟨rfl, ?_⟩) (fun _ _ z => z) fun _ _ z => z.elim)))
  exact wpS_pure q
def PairAt (h : Heap) (a : Addr) (x y : Int) : Prop := ∃ o n t u, h.get? a = some o ∧ o.cls = .type "tuple" ∧ o.data = .seq #[.int x t, .int y u] n
def rkF (f : Addr → Int × Int) : Value → Int
  | .ref a => (f a).1 * 1000 + (f a).2
  | _ => 0
theorem PairAt.kept {h h' : Heap} {a : Addr} {x y : Int} (p : PairAt h a x y) (k : ∀ b o, h.get? b = some o → h'.get? b = some o) : PairAt h' a x y := by
  obtain ⟨o, n, t, u, ho, hc, hd⟩ := p
  exact ⟨o, n, t, u, k _ _ ho, hc, hd⟩
theorem ord_pair {h0 : Heap} {f : Addr → Int × Int} (kp : ∀ b o, h0.get? b = some o → s.heap.get? b = some o) : Ord prog w A E s (tuples' true) (fun k => ∃ a, k.1 = .ref a ∧ PairAt h0 a (f a).1 (f a).2 ∧ 0 ≤ (f a).2 ∧ (f a).2 < 1000) (fun k => rkF f k.1) := ord_by fun {x y Q} hx hy q => by
  obtain ⟨a, ea, ⟨o, n, t, u, ho, hc, hd⟩, l1, l2⟩ := hx
  obtain ⟨b, eb, ⟨o', n', t', u', ho', hc', hd'⟩, l1', l2'⟩ := hy
  replace ho := kp _ _ ho
  replace ho' := kp _ _ ho'
  try dsimp only at q
  rw [ea, eb] at q ⊢
  have q : Q (decide ((f a).1 * 1000 + (f a).2 < (f b).1 * 1000 + (f b).2)) s := q
  obtain ⟨x1, ex1⟩ : ∃ z, z = (f a).1 := ⟨_, rfl⟩
  obtain ⟨x2, ex2⟩ : ∃ z, z = (f a).2 := ⟨_, rfl⟩
  obtain ⟨y1, ey1⟩ : ∃ z, z = (f b).1 := ⟨_, rfl⟩
  obtain ⟨y2, ey2⟩ : ∃ z, z = (f b).2 := ⟨_, rfl⟩
  rw [← ex1, ← ex2] at hd
  rw [← ey1, ← ey2] at hd'
  rw [← ex1, ← ex2, ← ey1, ← ey2] at q
  rw [← ex2] at l1 l2
  rw [← ey2] at l1' l2'
  clear ex1 ex2 ey1 ey2
  refine PySem.W.kat_lt ho hd ho' hd' (PySem.W.kat_cons (wpAny_eqBool_int (PySem.W.kat_go (fun e => PySem.W.kat_yes (PySem.W.kat_cons (wpAny_eqBool_int (PySem.W.kat_go (fun e2 => PySem.W.kat_yes (PySem.W.kat_nil ?_)) (fun e2 => PySem.W.kat_no ?_))))) (fun e => PySem.W.kat_no ?_))))
  · have h1 : x1 = y1 := by simpa using e
    have h2 : x2 = y2 := by simpa using e2
    subst h1 h2
    have : decide (x1 * 1000 + x2 < x1 * 1000 + x2) = false := decide_eq_false (by omega)
    rw [this] at q
    exact q
  · have h1 : x1 = y1 := by simpa using e
    subst h1
    refine PySem.W.kat_one _ _ (lt_int ?_)
    have : decide (x1 * 1000 + x2 < x1 * 1000 + y2) = decide (x2 < y2) := decide_eq_decide.mpr (by omega)
    rw [this] at q
    exact q
  · have h1 : x1 ≠ y1 := by simpa using e
    refine oneLt_int ?_
    have : decide (x1 * 1000 + x2 < y1 * 1000 + y2) = decide (x1 < y1) := decide_eq_decide.mpr (by omega)
    rw [this] at q
    exact q
end
end L2
namespace L2
open PySem PySem.Spec PyProof.Rows L2z
theorem sorted_out_rk {f : Value → Int} {vs : List Value} {ys : Array Keyed} (hp : ys.toList.Perm (vs.toArray.zip vs.toArray).toList) (ha : AscI (fun k => f k.1) ys 0 ys.size) :
    ∃ out : List Value, ys.map (·.2) = out.toArray ∧ out.Perm vs ∧ out.Pairwise fun u v => f u ≤ f v := by
  refine ⟨ys.toList.map (·.2), ?_, ?_, ?_⟩
  · apply Array.toList_inj.mp
    rw [Array.toList_map]
  · have := hp.map (·.2)
    rw [pairs_snd] at this
    exact this
  · rw [List.pairwise_map]
    refine (asc_of ha).imp_of_mem fun {x y} hx hy h => ?_
    have h1 := pairs_same (hp.mem_iff.mp hx)
    have h2 := pairs_same (hp.mem_iff.mp hy)
    rw [← h1.1, ← h2.1]
    exact h
section
variable {X : Cx}
def fH (H : Hp) (a : Addr) : Int × Int := match H a with
  | some (.tup [.int x, .int y]) => (x, y)
  | _ => (0, 0)
theorem fH_at {H : Hp} {a : Addr} {x y : Int} (h : H a = some (.tup [.int x, .int y])) : fH H a = (x, y) := by unfold fH; rw [h]
abbrev rkA (H : Hp) (a : Addr) : Int := (fH H a).1 * 1000 + (fH H a).2
theorem vals_are_refs : ∀ {us : List Addr} {its : List Value}, Vals (us.map V.ref) its → its = us.map Value.ref
  | [], _, .nil => rfl
  | u :: r, _, .cons h t => by
    obtain rfl : _ = Value.ref u := h
    rw [vals_are_refs t]
    rfl
theorem refs_are_vals : ∀ {us : List Addr}, Vals (us.map V.ref) (us.map Value.ref)
  | [] => .nil
  | _ :: _ => .cons rfl refs_are_vals
theorem Inv.pairAt {pins : List (Addr × Obj)} {σ : St} {H : Hp} {s : Shared} {a : Addr} {x y : Int} (I : Inv X pins σ H s) (h : SqT X.K H a [.int x, .int y]) : PairAt s.heap a x y := by
  obtain ⟨its, rv, ⟨o, e1, e2, n, e3⟩, _⟩ := I.tuple h
  obtain ⟨u, v, rfl, ⟨t, rfl⟩, ⟨t', rfl⟩⟩ := vals2 rv
  exact ⟨o, n, t, t', e1, e2, e3⟩
theorem tups_at {h : Heap} : ∀ {us : List Addr}, (∀ u ∈ us, ∃ x y, PairAt h u x y) → ∃ fs : List Value, PySem.W.KatTups h (us.map Value.ref) fs ∧ fs.length = us.length ∧ ∀ v ∈ fs, ∃ x t, v = Value.int x t
  | [], _ => ⟨[], .nil, rfl, fun v hv => nomatch hv⟩
  | u :: r, hu => by
    obtain ⟨x, y, o, n, t, t', ho, hc, hd⟩ := hu u (List.mem_cons_self ..)
    obtain ⟨fs, h1, h2, h3⟩ := tups_at fun v hv => hu v (List.mem_cons_of_mem _ hv)
    refine ⟨.int x t :: fs, .cons ho hc hd rfl h1, by simp [h2], fun v hv => ?_⟩
    rcases List.mem_cons.mp hv with rfl | hv
    · exact ⟨_, _, rfl⟩
    · exact h3 v hv
theorem type_ne : (Value.type "int" != Value.type "tuple") = true := by decide +kernel
theorem type_same : (Value.type "int" == Value.type "int") = true := by decide +kernel
theorem looks_int {M : Model} {h : Heap} {x : Int} {t : Tok} : PySem.W.Looks M h (typeOf (Value.int x t)) (Value.type "int") := PySem.W.Looks.of_pure rfl
def refA : Value → Addr
  | .ref a => a
  | _ => 0
theorem call_sortPairs : CallR X (.builtin "sorted") (fun xs H Q => ∃ (p : Addr) (us : List Addr), xs = [.ref p] ∧ SqL X.K H p (us.map V.ref) ∧ us.length ≤ 60000 ∧ (∀ u ∈ us, ∃ x y, H u = some (.tup [.int x, .int y]) ∧ 0 ≤ y ∧ y < 1000) ∧
    ∀ (q : Addr) (vs : List Addr), H q = none → vs.Perm us → vs.Pairwise (fun u v => rkA H u ≤ rkA H v) → Q (.ref q) (upd H q (.lst (vs.map V.ref)))) := by
  intro pins s σ H xs ws Q I r h
  obtain ⟨p, us, rfl, hp, hn, hu, q⟩ := h
  obtain ⟨u, rfl, r1⟩ := vals1 r
  obtain rfl : u = Value.ref p := r1
  obtain ⟨its, rv, ⟨o, n, e1, e2, e3, e4⟩, _⟩ := I.list hp
  obtain rfl := vals_are_refs rv
  have hpr : ∀ u ∈ us, PairAt s.heap u (fH H u).1 (fH H u).2 ∧ 0 ≤ (fH H u).2 ∧ (fH H u).2 < 1000 := fun u hm => by
    obtain ⟨x, y, hx, y0, y1⟩ := hu u hm
    rw [fH_at hx]
    exact ⟨I.pairAt (SqT.of hx), y0, y1⟩
  refine sorted_list (κ := tuples' true) (Vd := fun k => ∃ a, k.1 = .ref a ∧ PairAt s.heap a (fH H a).1 (fH H a).2 ∧ 0 ≤ (fH H a).2 ∧ (fH H a).2 < 1000) (rk := fun k => rkF (fH H) k.1) (vs := us.map Value.ref) ⟨o, e1, e2, n, e4⟩ (by rw [List.length_map]; omega) (fun s1 kp => ord_pair kp) (fun h2 s1 kp Q' hq => ?_) (fun v hv => ?_) fun ys hp' ha => ?_
  · obtain ⟨fs, h1, h2', h3⟩ := tups_at (h := s1.heap) (us := us) fun u hm => ⟨_, _, (hpr u hm).1.kept kp⟩
    rw [List.length_map] at h2
    refine PySem.W.kat_kind (T := Value.type "int") h1 (by omega) (fun v hv => ?_) type_same ?_
    · obtain ⟨x, t, rfl⟩ := h3 v hv
      exact looks_int
    · rw [type_ne]; exact hq
  · obtain ⟨a, hm, rfl⟩ := List.mem_map.mp hv
    exact ⟨a, rfl, hpr a hm⟩
  · obtain ⟨out, eo, hpm, hpw⟩ := sorted_out_rk (f := rkF (fH H)) hp' ha
    obtain ⟨vs, hvs, rfl⟩ : ∃ vs : List Addr, vs.Perm us ∧ out = vs.map Value.ref := by
      have e1 : (us.map Value.ref).map refA = us := by
        rw [List.map_map]
        exact (List.map_congr_left (g := id) fun a _ => rfl).trans (List.map_id us)
      have e2 : (out.map refA).map Value.ref = out := by
        rw [List.map_map]
        refine (List.map_congr_left (g := id) fun v hv => ?_).trans (List.map_id out)
        obtain ⟨a, _, rfl⟩ := List.mem_map.mp (hpm.mem_iff.mp hv)
        rfl
      have hb := hpm.map refA
      rw [e1] at hb
      exact ⟨_, hb, e2.symm⟩
    have hw := List.pairwise_map.mp hpw
    rw [eo]
    obtain ⟨ep, hat⟩ := sortedAll_at s.heap (us.map Value.ref) (vs.map Value.ref).toArray
    have hol := hvs.length_eq
    refine ⟨.ref (s.heap.objs.size + 1), _, I.laid (h' := sortedAll s.heap (us.map Value.ref) (vs.map Value.ref).toArray) (t' := s.toks) (o := .lst (vs.map V.ref)) (fun _ _ => sortedAll_old) (Nat.le_succ _) ⟨?_, _, ep, refs_are_vals, hat⟩, rfl, q _ vs (I.hok.fresh (Nat.le_succ _)) hvs hw⟩
    rw [List.length_map, sizeLine_eq]; omega
theorem call_sortPairsK (K : PySem.W.Frag) (hK : X.K = K) : CallR X (.builtin "sorted") (fun xs H Q => ∃ (p : Addr) (us : List Addr), xs = [.ref p] ∧ SqL K H p (us.map V.ref) ∧ us.length ≤ 60000 ∧ (∀ u ∈ us, ∃ x y, H u = some (.tup [.int x, .int y]) ∧ 0 ≤ y ∧ y < 1000) ∧
    ∀ (q : Addr) (vs : List Addr), H q = none → vs.Perm us → vs.Pairwise (fun u v => rkA H u ≤ rkA H v) → Q (.ref q) (upd H q (.lst (vs.map V.ref)))) := by subst hK; exact call_sortPairs
end
end L2
namespace L2
open PySem PySem.Spec PyProof.Rows L2z
theorem tuple_lePair (l b : Addr) (x1 x2 y1 y2 : Int) (t1 t2 u1 u2 : Tok) (n n2 : Nat) (dd dd2 : Option Addr) (sl sl2 : Array (Option Value)) :
    Meets (Builtin.«tuple.__le__» ⟨[.ref l, .ref b], []⟩)
      (fun A R s => s.heap.get? l = some { cls := .type "tuple", dict := dd, data := .seq #[.int x1 t1, .int x2 t2] n, slots := sl } ∧ s.heap.get? b = some { cls := .type "tuple", dict := dd2, data := .seq #[.int y1 u1, .int y2 u2] n2, slots := sl2 } ∧
        R (.ok (.ret (.bool (decide (x1 < y1 ∨ x1 = y1 ∧ x2 ≤ y2))))) s) :=
  .of_wp fun prog w A R s h => by
    obtain ⟨hp, gn, dr, tk, os⟩ := s
    obtain ⟨hl, hb, h⟩ := h
    have f2 := AutoSeq1.sub_tuple_tuple
    wp_walk using wpAny_loadPart' hl, wpAny_loadPart' hb, wpAny_forIn_list _ (fun rest b s' => b.1 = none ∧ s' = ⟨hp, gn, dr, tk, os⟩ ∧ ((rest = [(Value.int x1 t1, Value.int y1 u1), (Value.int x2 t2, Value.int y2 u2)]) ∨ (rest = [(Value.int x2 t2, Value.int y2 u2)] ∧ x1 = y1) ∨ (rest = [] ∧ x1 = y1 ∧ x2 = y2))) _
    case turn =>
      rintro ⟨y, x⟩ rest b s' ⟨hb', rfl, hc⟩
      rcases hc with hc | ⟨hc, e1⟩ | ⟨hc, _⟩
      · injection hc with h1 h2
        injection h1 with h3 h4
        subst h3 h4 h2
        refine wpAny_bind (wpAny_eqBool_int ?_)
        by_cases e : x1 = y1
        · rw [beq_iff_eq.mpr e]
          wp_walk
          exact ⟨rfl, rfl, .inr (.inl ⟨rfl, e⟩)⟩
        · rw [beq_eq_false_iff_ne.mpr e, if_pos (show (!false) = true from rfl)]
          have ed : decide (x1 < y1 ∨ x1 = y1 ∧ x2 ≤ y2) = decide (x1 ≤ y1) := decide_eq_decide.mpr (by omega)
          rw [ed] at h
          exact wpAny_bind (wpAny_rule (wpAny_bind (m := richCompare CmpOp.LtE _ _) (le_int (wpAny_bind (wpAny_pure (wpAny_pure (wpAny_pure ⟨_, rfl, h⟩)))))))
      · injection hc with h1 h2
        injection h1 with h3 h4
        subst h3 h4 h2
        refine wpAny_bind (wpAny_eqBool_int ?_)
        by_cases e : x2 = y2
        · rw [beq_iff_eq.mpr e]
          wp_walk
          exact ⟨rfl, rfl, .inr (.inr ⟨rfl, e1, e⟩)⟩
        · rw [beq_eq_false_iff_ne.mpr e, if_pos (show (!false) = true from rfl)]
          have ed : decide (x1 < y1 ∨ x1 = y1 ∧ x2 ≤ y2) = decide (x2 ≤ y2) := decide_eq_decide.mpr (by omega)
          rw [ed] at h
          exact wpAny_bind (wpAny_rule (wpAny_bind (m := richCompare CmpOp.LtE _ _) (le_int (wpAny_bind (wpAny_pure (wpAny_pure (wpAny_pure ⟨_, rfl, h⟩)))))))
      · cases hc
    case fin =>
      rintro ⟨b1, b2⟩ s' ⟨hb', rfl, hc⟩
      simp only at hb'
      subst hb'
      rcases hc with hc | ⟨hc, _⟩ | ⟨_, rfl, rfl⟩
      · cases hc
      · cases hc
      · wp_walk
        rw [decide_eq_true (.inr ⟨rfl, Int.le_refl _⟩)] at h
        exact ⟨_, rfl, h⟩
    case h =>
      exact ⟨rfl, rfl, .inl rfl⟩
section
variable {X : Cx}
def rLeP (K : PySem.W.Frag) : R2 := fun x y H Q => ∃ a b x1 x2 y1 y2, x = .ref a ∧ y = .ref b ∧ SqT K H a [.int x1, .int x2] ∧ SqT K H b [.int y1, .int y2] ∧ Q (.bl (decide (x1 < y1 ∨ x1 = y1 ∧ x2 ≤ y2))) H
theorem op_leP (hu : X.A.units + 1 < cLine) : OpR X (compareOp .LtE) (rLeP X.K) := by
  intro pins s σ H x y v u Q I rx ry h
  obtain ⟨a, b, x1, x2, y1, y2, rfl, rfl, h1, h2, q⟩ := h
  obtain rfl : v = Value.ref a := rx
  obtain rfl : u = Value.ref b := ry
  obtain ⟨⟨c1, d1, dt1, sl1⟩, n1, t1, t2, e1, hc1, hd1⟩ := I.pairAt h1
  obtain ⟨⟨c2, d2, dt2, sl2⟩, n2, u1, u2, e2, hc2, hd2⟩ := I.pairAt h2
  simp only at hc1 hd1 hc2 hd2
  subst hc1 hd1 hc2 hd2
  show wpAny _ _ (richCompare .LtE (.ref a) (.ref b)) _ _ s
  refine wpAny_richCompare_same_or (op := .LtE) (T := "tuple") ⟨_, e1, rfl⟩ ⟨_, e2, rfl⟩ PySem.F.slot_tuple_le ?_ (.inr (by omega))
  refine call_meets PySem.F.slot_tuple_le ⟨_, e1, rfl⟩ PySem.F.entry_tuple_le (PySem.F.args_tuple_le_2 _ _) (tuple_lePair a b x1 x2 y1 y2 t1 t2 u1 u2 n1 n2 d1 d2 sl1 sl2) ⟨e1, e2, ?_⟩
  show Value.bool (decide (x1 < y1 ∨ x1 = y1 ∧ x2 ≤ y2)) ≠ Value.notImplemented ∧ EP X pins σ Q (Value.bool (decide (x1 < y1 ∨ x1 = y1 ∧ x2 ≤ y2))) s
  exact ⟨(fun z => nomatch z), .bl _, H, I, rfl, q⟩
theorem op_lePK (K : PySem.W.Frag) (hK : X.K = K) (hu : X.A.units + 1 < cLine) : OpR X (compareOp .LtE) (rLeP K) := by subst hK; exact op_leP hu
end
end L2
namespace My
open PySem L2
seal L2.PSs L2.PS L2.PE L2.PT L2.PA L2.PI L2.PG L2.PW L2.PGs L2.PO
def top (i : Nat) : Stmt := PySem.Challenge.pw_layersplit_k06_points_of_a_place.main.body.getD i (.Pass ⟨0, 0, 0, 0⟩)
abbrev s_x_at : Stmt := top 1
abbrev s_points_at : Stmt := top 2
abbrev s_Lcell_at : Stmt := top 4
abbrev s_Lmixed : Stmt := top 5
abbrev s_Lwhole : Stmt := top 6
abbrev s_Lprime : Stmt := top 7
abbrev s_Lplace : Stmt := top 8
abbrev s_Lright : Stmt := top 9
abbrev s_law : Stmt := top 10
structure Adr where
  x_at : Addr
  fd_x_at : FuncData
  points_at : Addr
  fd_points_at : FuncData
  Lcell_at : Addr
  fd_Lcell_at : FuncData
  Lmixed : Addr
  fd_Lmixed : FuncData
  Lwhole : Addr
  fd_Lwhole : FuncData
  Lprime : Addr
  fd_Lprime : FuncData
  Lplace : Addr
  fd_Lplace : FuncData
  Lright : Addr
  fd_Lright : FuncData
  law : Addr
  fd_law : FuncData
structure Txt (K : PySem.W.Frag) (mg : Str → Option Value) (a : Adr) : Prop where
  f_x_at : Fun K "x_at" "x_at" s_x_at a.x_at a.fd_x_at
  m_x_at : mg "x_at" = some (.ref a.x_at)
  b_x_at : Binds K a.fd_x_at ["p", "slope", "place", "y"] []
  f_points_at : Fun K "points_at" "points_at" s_points_at a.points_at a.fd_points_at
  m_points_at : mg "points_at" = some (.ref a.points_at)
  b_points_at : Binds K a.fd_points_at ["p", "slope", "place"] []
  f_Lcell_at : Fun K "_law_cell_at" "_law_cell_at" s_Lcell_at a.Lcell_at a.fd_Lcell_at
  m_Lcell_at : mg "_law_cell_at" = some (.ref a.Lcell_at)
  b_Lcell_at : Binds K a.fd_Lcell_at ["_law_script", "_law_k"] []
  f_Lmixed : Fun K "_law_mixed" "_law_mixed" s_Lmixed a.Lmixed a.fd_Lmixed
  m_Lmixed : mg "_law_mixed" = some (.ref a.Lmixed)
  b_Lmixed : Binds K a.fd_Lmixed ["_law_script", "_law_k", "_law_salt"] []
  f_Lwhole : Fun K "_law_whole" "_law_whole" s_Lwhole a.Lwhole a.fd_Lwhole
  m_Lwhole : mg "_law_whole" = some (.ref a.Lwhole)
  b_Lwhole : Binds K a.fd_Lwhole ["_law_found"] []
  f_Lprime : Fun K "_law_prime" "_law_prime" s_Lprime a.Lprime a.fd_Lprime
  m_Lprime : mg "_law_prime" = some (.ref a.Lprime)
  b_Lprime : Binds K a.fd_Lprime ["_law_number", "_law_most"] []
  f_Lplace : Fun K "_law_place" "_law_place" s_Lplace a.Lplace a.fd_Lplace
  m_Lplace : mg "_law_place" = some (.ref a.Lplace)
  b_Lplace : Binds K a.fd_Lplace ["_law_p", "_law_slope", "_law_point"] []
  f_Lright : Fun K "_law_right" "_law_right" s_Lright a.Lright a.fd_Lright
  m_Lright : mg "_law_right" = some (.ref a.Lright)
  b_Lright : Binds K a.fd_Lright ["_law_p", "_law_slope", "_law_place_here"] []
  f_law : Fun K "law" "law" s_law a.law a.fd_law
  m_law : mg "law" = some (.ref a.law)
  b_law : Binds K a.fd_law ["_law_script"] []
  n_bool : mg "bool" = none
  n_int : mg "int" = none
  n_isinstance : mg "isinstance" = none
  n_len : mg "len" = none
  n_list : mg "list" = none
  n_max : mg "max" = none
  n_range : mg "range" = none
  n_sorted : mg "sorted" = none
  n_tuple : mg "tuple" = none
theorem sc_x_at : FnScope ["p", "slope", "place", "y"] ["p", "slope", "place", "y"] (defScope s_x_at) := ⟨rfl, rfl, rfl, by decide +kernel, rfl, by decide +kernel, by decide +kernel⟩
theorem sc_points_at : FnScope ["p", "slope", "place"] ["p", "slope", "place"] (defScope s_points_at) := ⟨rfl, rfl, rfl, by decide +kernel, rfl, by decide +kernel, by decide +kernel⟩
theorem sc_Lcell_at : FnScope ["_law_script", "_law_k"] ["_law_script", "_law_k"] (defScope s_Lcell_at) := ⟨rfl, rfl, rfl, by decide +kernel, rfl, by decide +kernel, by decide +kernel⟩
theorem sc_Lmixed : FnScope ["_law_script", "_law_k", "_law_salt", "_law_cell", "_law_lap", "_law_near"] ["_law_script", "_law_k", "_law_salt"] (defScope s_Lmixed) := ⟨rfl, rfl, rfl, by decide +kernel, rfl, by decide +kernel, by decide +kernel⟩
theorem sc_Lwhole : FnScope ["_law_found"] ["_law_found"] (defScope s_Lwhole) := ⟨rfl, rfl, rfl, by decide +kernel, rfl, by decide +kernel, by decide +kernel⟩
theorem sc_Lprime : FnScope ["_law_number", "_law_most", "_law_step", "_law_k"] ["_law_number", "_law_most"] (defScope s_Lprime) := ⟨rfl, rfl, rfl, by decide +kernel, rfl, by decide +kernel, by decide +kernel⟩
theorem sc_Lplace : FnScope ["_law_p", "_law_slope", "_law_point"] ["_law_p", "_law_slope", "_law_point"] (defScope s_Lplace) := ⟨rfl, rfl, rfl, by decide +kernel, rfl, by decide +kernel, by decide +kernel⟩
theorem sc_Lright : FnScope ["_law_p", "_law_slope", "_law_place_here", "_law_found", "_law_k", "_law_point"] ["_law_p", "_law_slope", "_law_place_here"] (defScope s_Lright) := ⟨rfl, rfl, rfl, by decide +kernel, rfl, by decide +kernel, by decide +kernel⟩
theorem sc_law : FnScope ["_law_script", "_law_number", "_law_p", "_law_k", "_law_more", "_law_slope", "_law_again"] ["_law_script"] (defScope s_law) := ⟨rfl, rfl, rfl, by decide +kernel, rfl, by decide +kernel, by decide +kernel⟩
def spCell (K : PySem.W.Frag) : Sp := fun vs H Q _ => ∃ (a : Addr) (ns : List Int) (k : Int), vs = [.ref a, .int k] ∧ SqL K H a (ns.map V.int) ∧ ns.length ≤ 63 ∧ ∀ z, Q (.int z) H
def spMixed (K : PySem.W.Frag) : Sp := fun vs H Q _ => ∃ (a : Addr) (ns : List Int) (k m : Int), vs = [.ref a, .int k, .int m] ∧ SqL K H a (ns.map V.int) ∧ ns.length ≤ 63 ∧ (0 ≤ k ∧ k ≤ 1000000) ∧ (0 ≤ m ∧ m ≤ 1000000) ∧ ∀ z, 0 ≤ z → z < 2147483648 → Q (.int z) H
def spLaw (K : PySem.W.Frag) : Sp := fun vs H Q _ => ∃ (a : Addr) (ns : List Int), vs = [.ref a] ∧ SqL K H a (ns.map V.int) ∧ ns.length ≤ 63 ∧ ∀ H', Q (.bl true) H'
section
variable {P : Program} {w : World} {K : PySem.W.Frag} {mg : Str → Option Value} {base : Heap} {a : Adr}
theorem ok_Lcell_at (T : Txt K mg a) : FnOk P w K mg base CX0 1 a.Lcell_at a.fd_Lcell_at ["_law_script", "_law_k"] (spCell K) := by
  refine T.f_Lcell_at.ok sc_Lcell_at (fun vs H Q E h => ?_) (fun cdv A outer s H vs Q E hr h => ?_)
  · obtain ⟨p, ns, k, rfl, _⟩ := h
    rfl
  · obtain ⟨p, ns, k, rfl, hS, hl, q⟩ := h
    refine ⟨_, (pss_cons (ps_if (pt_cmpR op_eq (pe_callB (call_lenK K rfl) (by rfl) T.n_len L2.boot_len (pa_cons (pv 0) pa_nil)) pe_int (nomark _)) (pss_one (ps_ret pe_int)) pss_nil)
  (pss_one (ps_ret (pe_ix (ix_listK K rfl) (pv 0) (pe_op op_mod (pv 1) (pe_callB (call_lenK K rfl) (by rfl) T.n_len L2.boot_len (pa_cons (pv 0) pa_nil))) (fun _ _ => rfl))))), ?_⟩
    refine ⟨_, rfl, _, ns.length, rfl, .inl ⟨_, hS, by simp⟩, rfl, _, rfl, ?_⟩
    refine iteI (fun h0 => q 0) (fun h0 => ?_)
    have hp : (0 : Int) < (ns.length : Int) := by omega
    have hm := mod_lt k hp
    obtain ⟨z, hz⟩ := atI_ints hm.1 hm.2
    exact ⟨_, rfl, _, rfl, _, rfl, _, ns.length, rfl, .inl ⟨_, hS, by simp⟩, _, _, rfl, rfl, hp, p, _, _, _, rfl, rfl, hS, hz, q z⟩
theorem ok_Lmixed (T : Txt K mg a) : FnOk P w K mg base CX0 2 a.Lmixed a.fd_Lmixed ["_law_script", "_law_k", "_law_salt"] (spMixed K) := by
  refine T.f_Lmixed.ok sc_Lmixed (fun vs H Q E h => ?_) (fun cdv A outer s H vs Q E hr h => ?_)
  · obtain ⟨p, ns, k, m, rfl, _⟩ := h
    rfl
  · obtain ⟨p, ns, k, m, rfl, hS, hl, ⟨k0, k1⟩, ⟨m0, m1⟩, q⟩ := h
    refine ⟨_, (pss_cons (ps_set (i := 3) sc_Lmixed.nd rfl (by first | exact Or.inl rfl | exact Or.inr rfl) (pe_call ((ok_Lcell_at T).mono (by first | decide | omega)) hr rfl T.m_Lcell_at T.f_Lcell_at.kp T.b_Lcell_at .nil pass0 (pa_cons (pv 0) (pa_cons (pv 1) pa_nil))))
  (pss_cons (ps_set (i := 4) sc_Lmixed.nd rfl (by first | exact Or.inl rfl | exact Or.inr rfl) (pe_op op_fdiv (pv 1) (pe_callB (call_max2 rfl) (by rfl) T.n_max L2.boot_max (pa_cons pe_int (pa_cons (pe_callB (call_lenK K rfl) (by rfl) T.n_len L2.boot_len (pa_cons (pv 0) pa_nil)) pa_nil)))))
  (pss_cons (ps_set (i := 5) sc_Lmixed.nd rfl (by first | exact Or.inl rfl | exact Or.inr rfl) (pe_op op_add (pe_op op_add (pe_op op_add (pe_op op_and (pv 3) pe_int) (pe_op op_mul (pe_op op_mul pe_int (pv 1)) (pv 1))) (pe_op op_mul (pe_op op_mul pe_int (pv 2)) (pv 2))) pe_int))
  (pss_cons (ps_set (i := 5) sc_Lmixed.nd rfl (by first | exact Or.inl rfl | exact Or.inr rfl) (pe_op op_mod (pe_op op_mul (pv 5) pe_int) pe_int))
  (pss_one (ps_ret (pe_op op_and (pe_op op_add (pe_op op_shr (pv 3) (pe_op op_mul pe_int (pe_op op_add (pv 2) (pe_op op_mul pe_int (pv 4))))) (pe_op op_mod (pe_op op_mul (pv 5) (pv 5)) pe_int)) pe_int))))))), ?_⟩
    refine ⟨_, rfl, _, rfl, p, ns, k, rfl, hS, hl, fun c => ?_⟩
    have hn : ∃ n : Int, n = (if (ns.length : Int) > 1 then (ns.length : Int) else 1) ∧ 0 < n ∧ n < 1073741824 := ⟨_, rfl, by split <;> omega, by split <;> omega⟩
    obtain ⟨n, en, n0, n1⟩ := hn
    refine ⟨_, rfl, _, rfl, _, ns.length, rfl, .inl ⟨_, hS, by simp⟩, _, _, rfl, _, n, rfl, by rw [en], ⟨n0, n1⟩, ?_⟩
    have l0 : 0 ≤ k / n := Int.ediv_nonneg k0 (by omega)
    try dsimp only
    generalize k / n = lap at l0
    refine ⟨_, rfl, _, _, rfl, rfl, _, rfl, _, _, rfl, rfl, .inl ⟨by decide, by decide⟩, _, rfl, _, _, rfl, rfl, .inr ⟨by omega, by omega⟩, _, _, rfl, rfl, _, rfl, _, _, rfl, rfl, .inl ⟨by decide, by decide⟩, _, rfl, _, _, rfl, rfl, .inr ⟨by omega, by omega⟩, _, _, rfl, rfl, _, _, rfl, rfl, ?_⟩
    refine ⟨_, rfl, _, _, rfl, rfl, .inr ⟨by decide, by decide⟩, _, _, rfl, rfl, (by show (0 : Int) < _; first | decide | omega), ?_⟩
    have hr0 := mod_lt ((Builtin.bitAnd c 2147483647 + 1009 * k * k + 7919 * m * m + 12) * 48271) (show (0 : Int) < 2147483647 by decide)
    try dsimp only
    generalize (Builtin.bitAnd c 2147483647 + 1009 * k * k + 7919 * m * m + 12) * 48271 % 2147483647 = near at hr0
    refine ⟨_, rfl, _, rfl, _, rfl, _, _, rfl, rfl, .inl ⟨by decide, by decide⟩, _, _, rfl, rfl, _, _, rfl, rfl, .inl ⟨by decide, by decide⟩, _, _, rfl, rfl, (by show (0 : Int) ≤ _; omega), _, rfl, _, rfl, _, _, rfl, rfl, .inl ⟨by omega, by omega⟩, _, _, rfl, rfl, (by show (0 : Int) < _; first | decide | omega), _, _, rfl, rfl, _, _, rfl, rfl, ?_⟩
    try dsimp only
    rw [mask31]
    have := mod_lt (c / 2 ^ (31 * (m + 128 * lap)).toNat + near * near % 2147483629) (show (0 : Int) < 2147483648 by decide)
    exact q _ this.1 this.2
theorem law_binds (T : Txt K mg a) (s : Shared) (u : Value) : BindsTo s a.fd_law ⟨[u], []⟩ [("_law_script", u)] := by
  obtain ⟨oc, od, kV, doc, pm, an, cdv, ct, osl, e, lk, hcd⟩ := T.f_law.ex
  rw [e]
  exact .of_eq rfl
theorem law_start {H : Hp} {p : Addr} {ns : List Int} (hl : ns.length ≤ 63) (hS : SqL K H p (ns.map V.int)) : spLaw K [.ref p] H (fun v _ => v = .bl true) fun _ _ _ => False := ⟨p, ns, rfl, hS, hl, fun _ => rfl⟩
end
def spWhole (K : PySem.W.Frag) : Sp := fun vs H Q _ => ∃ z, vs = [.int z] ∧ Q (.bl true) H
section
variable {P : Program} {w : World} {K : PySem.W.Frag} {mg : Str → Option Value} {base : Heap} {a : Adr}
theorem ok_Lwhole (T : Txt K mg a) : FnOk P w K mg base CX0 1 a.Lwhole a.fd_Lwhole ["_law_found"] (spWhole K) := by
  refine T.f_Lwhole.ok sc_Lwhole (fun vs H Q E h => ?_) (fun cdv A outer s H vs Q E hr h => ?_)
  · obtain ⟨x, rfl, _⟩ := h
    rfl
  · obtain ⟨z, rfl, k⟩ := h
    refine ⟨_, (pss_one (ps_ret (pe_and (pe_callB (call_isiK K rfl) (by rfl) T.n_isinstance L2.boot_isinstance (pa_cons (pv 0) (pa_cons (pe_ty rfl T.n_int L2.boot_int) pa_nil))) (pe_one (pe_not (pe_callB (call_isiK K rfl) (by rfl) T.n_isinstance L2.boot_isinstance (pa_cons (pv 0) (pa_cons (pe_ty rfl T.n_bool L2.boot_bool) pa_nil)))))))), ?_⟩
    refine ⟨_, rfl, _, "int", _, true, rfl, .int z, kit_tt (by decide +kernel), true, rfl, iteT ?_⟩
    exact ⟨_, rfl, _, "bool", _, false, rfl, .int z, kit_tt (by decide +kernel), false, rfl, k⟩
end
def NoD (z : Int) : Prop := ∀ d : Int, 2 ≤ d → d < z → z % d ≠ 0
theorem noD_small {z : Int} (h1 : 2 ≤ z) (h2 : z ≤ 997) (h : ∀ i : Nat, i < 30 → 2 + (i : Int) < z → z % (2 + (i : Int)) ≠ 0) : NoD z := by
  intro d d0 d1 e
  by_cases hs : d < 32
  · have := h (d - 2).toNat (by omega) (by omega)
    rw [show 2 + ((d - 2).toNat : Int) = d by omega] at this
    exact this e
  · obtain ⟨c, hc⟩ : d ∣ z := Int.dvd_of_emod_eq_zero e
    have c1 : 2 ≤ c := by
      rcases (by omega : c ≤ 0 ∨ c = 1 ∨ 2 ≤ c) with q | q | q
      · have := Int.mul_le_mul_of_nonneg_left q (show (0 : Int) ≤ d by omega)
        rw [Int.mul_zero] at this
        omega
      · rw [q, Int.mul_one] at hc
        omega
      · exact q
    have c2 : c < 32 := by
      rcases (by omega : c < 32 ∨ 32 ≤ c) with q | q
      · exact q
      · have := Int.mul_le_mul (show 32 ≤ d by omega) q (by decide) (by omega)
        omega
    have := h (c - 2).toNat (by omega) (by
      have q : c < z := by
        have := Int.mul_lt_mul_of_pos_right (show (1 : Int) < d by omega) (show (0 : Int) < c by omega)
        rw [Int.one_mul] at this
        omega
      omega)
    rw [show 2 + ((c - 2).toNat : Int) = c by omega] at this
    exact this (by rw [hc]; exact Int.mul_emod_left _ _)
theorem noD_two : NoD 2 := fun d d0 d1 => by omega
def spPrime : Sp := fun vs H Q _ => ∃ x m, vs = [.int x, .int m] ∧ 3 ≤ m ∧ m ≤ 997 ∧ ∀ (p : Int) H', 2 ≤ p → p ≤ m → NoD p → Same H H' → Q (.int p) H'
section
variable {P : Program} {w : World} {K : PySem.W.Frag} {mg : Str → Option Value} {base : Heap} {a : Adr}
theorem ok_Lprime (T : Txt K mg a) : FnOk P w K mg base CX0 1 a.Lprime a.fd_Lprime ["_law_number", "_law_most"] spPrime := by
  refine T.f_Lprime.ok sc_Lprime (fun vs H Q E h => ?_) (fun cdv A outer s H vs Q E hr h => ?_)
  · obtain ⟨x, m, rfl, _⟩ := h
    rfl
  · obtain ⟨x, m, rfl, m0, m1, q⟩ := h
    refine ⟨_, (pss_cons (ps_for PassesOwn.never rfl (pi_range1 rfl T.n_range (pa_cons (pv 1) pa_nil)) (pg_name (i := 2) sc_Lprime.nd rfl (by first | exact Or.inl rfl | exact Or.inr rfl))
  (pss_cons (ps_set (i := 3) sc_Lprime.nd rfl (by first | exact Or.inl rfl | exact Or.inr rfl) (pe_op op_add pe_int (pe_op op_mod (pe_op op_add (pv 0) (pv 2)) (pe_op op_sub (pv 1) pe_int))))
  (pss_one (ps_if (pt_cmpR op_eq (pe_callB (call_lenK K rfl) (by rfl) T.n_len L2.boot_len (pa_cons (comp_of ["_law_number", "_law_most", "_law_step", "_law_k"] ["_law_d"] [] [4] (defScope s_Lprime) rfl rfl rfl (by decide +kernel) (by decide +kernel) (gk_name 4)
    (pi_range2 rfl T.n_range (pa_cons pe_int (pa_cons pe_int pa_nil))) (fun cl C s₀ H₀ ex => ⟨(pg_name (i := 4) (show List.Nodup ((["_law_number", "_law_most", "_law_step", "_law_k"] : List PySem.Str) ++ (["_law_d"] : List PySem.Str)) by decide +kernel) rfl (by first | exact Or.inl rfl | exact Or.inr rfl)), (pts_one (PW.pt (pw_and (pt_cmpR op_lt (pv 4) (pv 3) (nomark _)) (pw_and1 (pt_cmpR op_eq (pe_op op_mod (pv 3) (pv 4)) pe_int (nomark _)))))), (pv 4)⟩)) pa_nil)) pe_int (nomark _)) (pss_one (ps_ret (pv 3))) pss_nil))))
  (pss_one (ps_ret pe_int))), ?_⟩
    refine ⟨_, rfl, m, rfl, (by omega), (by omega), ?_⟩
    refine for_range (lo := 0) (n := m.toNat) (fun i σ H' => Same H H' ∧ ∃ v2 v3, σ = [some (.int x), some (.int m), v2, v3]) ⟨Same.refl H, _, _, rfl⟩ ?_ ?_
    · rintro i σ H1 hi ⟨s1, v2, v3, rfl⟩
      refine ⟨_, rfl, _, rfl, _, _, rfl, rfl, _, rfl, _, _, rfl, rfl, _, _, rfl, rfl, (by show (0 : Int) < _; first | decide | omega), _, _, rfl, rfl, ?_⟩
      have b := mod_lt (x + (0 + (i : Int))) (show (0 : Int) < m - 1 by omega)
      have hk : ∃ kk : Int, kk = 2 + (x + (0 + (i : Int))) % (m - 1) ∧ 2 ≤ kk ∧ kk ≤ m := ⟨_, rfl, by omega, by omega⟩
      obtain ⟨kk, ek, k0, k1⟩ := hk
      try dsimp only
      rw [← ek]
      refine ⟨_, _, rfl, ⟨by decide, by decide, by decide, by decide⟩, fun D hD => ?_⟩
      have s2 : ∀ acc, Same H (upd H1 D (.lst acc)) := fun acc b o hb => by
        have e := s1 b o hb
        rw [upd_ne (ne_of_none e hD)]
        exact e
      refine ⟨fun j m acc H2 => m = 30 - j ∧ j ≤ 30 ∧ acc.length ≤ j ∧ (acc = [] → ∀ e : Nat, e < j → 2 + (e : Int) < kk → kk % (2 + (e : Int)) ≠ 0) ∧ H2 = upd H1 D (.lst acc), ⟨_, rfl, Nat.zero_le _, Nat.le_refl _, fun _ e he => absurd he (Nat.not_lt_zero _), rfl⟩, ?_⟩
      rintro j m acc H2 ⟨rfl, hj, hacc, hno, rfl⟩
      by_cases hlt : j < 30
      · refine .inr ⟨hlt, ?_⟩
        rintro y H3 ⟨rfl, rfl⟩
        refine ⟨_, rfl, _, rfl, _, _, rfl, rfl, _, rfl, ?_⟩
        refine iteD (fun h1 => ?_) (fun h1 => iteF ⟨_, by omega, rfl, hlt, by omega, fun ha e he he2 => ?_, rfl⟩)
        · refine ⟨_, rfl, _, rfl, _, _, rfl, rfl, (by show (0 : Int) < _; first | decide | omega), rfl, _, rfl, ?_⟩
          refine iteI (fun h2 => ?_) (fun h2 => ⟨_, by omega, rfl, hlt, by omega, fun ha e he he2 => ?_, rfl⟩)
          · refine ⟨_, rfl, upd_same, ?_, _, (by omega), rfl, hlt, ?_, fun ha => ?_, ?_⟩
            · rw [sizeLine_eq]; omega
            · rw [List.length_append, List.length_singleton]; omega
            · exact absurd ha (by simp)
            · rw [upd_upd]
          · rcases (by omega : e < j ∨ e = j) with q | q
            · exact hno ha e q he2
            · subst q
              exact h2
        · rcases (by omega : e < j ∨ e = j) with q | q
          · exact hno ha e q he2
          · subst q
            exact absurd he2 h1
      · have e : j = 30 := by omega
        subst e
        refine .inl ⟨Nat.le_refl _, ?_⟩
        refine ⟨_, acc.length, rfl, .inl ⟨_, SqL.of upd_same, rfl⟩, rfl, _, rfl, ?_⟩
        exact iteI (fun h0 => ⟨_, rfl, q kk _ k0 k1 (noD_small k0 (by omega) (hno (List.length_eq_zero_iff.mp (by omega)))) (s2 _)⟩) (fun _ => ⟨s2 _, _, _, rfl⟩)
    · rintro σ H1 ⟨s1, _⟩
      exact q 2 H1 (by decide) (by omega) noD_two s1
end
theorem cutQ {t u : TS} {D : Ends} {σ : St} {H : Hp} (J : St → Hp → Prop) (h1 : ∀ σ H, J σ H → u D σ H) (h2 : ∀ N : St → Hp → Prop, (∀ σ H, J σ H → N σ H) → t { D with nx := N } σ H) : tSeq t u D σ H := h2 (u D) h1
def placeI (p s x y : Int) : Int := if s = p then y else (x + s * y) % p
theorem eq_of_mod {p a b : Int} (a0 : 0 ≤ a) (a1 : a < p) (b0 : 0 ≤ b) (b1 : b < p) (h : p ∣ a - b) : a = b := by
  obtain ⟨c, hc⟩ := h
  rcases (by omega : c ≤ -1 ∨ c = 0 ∨ 1 ≤ c) with q | q | q
  · have := Int.mul_le_mul_of_nonneg_left q (show (0 : Int) ≤ p by omega)
    rw [Int.mul_neg, Int.mul_one] at this
    omega
  · rw [q, Int.mul_zero] at hc
    omega
  · have := Int.mul_le_mul_of_nonneg_left q (show (0 : Int) ≤ p by omega)
    rw [Int.mul_one] at this
    omega
theorem mod_is {p a b : Int} (b0 : 0 ≤ b) (b1 : b < p) (h : p ∣ a - b) : a % p = b := by
  have hb := mod_lt a (show 0 < p by omega)
  refine eq_of_mod hb.1 hb.2 b0 b1 ?_
  have e : a % p - b = (a - b) - p * (a / p) := by
    have := Int.mul_ediv_add_emod a p
    omega
  rw [e]
  exact Int.dvd_sub h (Int.dvd_mul_right _ _)
theorem dvd_mod (p a : Int) : p ∣ a - a % p := ⟨a / p, by have := Int.mul_ediv_add_emod a p; omega⟩
theorem pt_by_x {p s a x y : Int} (a0 : 0 ≤ a) (a1 : a < p) (hs : s ≠ p) (hx : x = (a - s * y) % p) : placeI p s x y = a := by
  unfold placeI
  rw [if_neg hs]
  refine mod_is a0 a1 ?_
  have e : x + s * y - a = -(a - s * y - (a - s * y) % p) := by rw [hx]; omega
  rw [e]
  exact (Int.dvd_neg).mpr (dvd_mod _ _)
def spX : Sp := fun vs H Q _ => ∃ p s a y, vs = [.int p, .int s, .int a, .int y] ∧ 0 < p ∧ (0 ≤ s ∧ s ≤ 1000) ∧ Q (.int ((a - s * y) % p)) H
section
variable {P : Program} {w : World} {K : PySem.W.Frag} {mg : Str → Option Value} {base : Heap} {a : Adr}
theorem ok_x_at (T : Txt K mg a) : FnOk P w K mg base CX0 1 a.x_at a.fd_x_at ["p", "slope", "place", "y"] spX := by
  refine T.f_x_at.ok sc_x_at (fun vs H Q E h => ?_) (fun cdv A outer s H vs Q E hr h => ?_)
  · obtain ⟨p, s, a, y, rfl, _⟩ := h
    rfl
  · obtain ⟨p, s, a, y, rfl, p0, ⟨s0, s1⟩, q⟩ := h
    refine ⟨_, (pss_one (ps_ret (pe_op op_mod (pe_op op_sub (pv 2) (pe_op op_mul (pv 1) (pv 3))) (pv 0)))), ?_⟩
    (repeat (first | refine ⟨_, rfl, ?_⟩ | refine ⟨_, _, rfl, rfl, ?_⟩ | refine ⟨(rfl : scal _ _ = true), ?_⟩ | refine ⟨(show CMul _ _ by first | exact .inl ⟨by decide, by decide⟩ | exact .inr ⟨by decide, by decide⟩ | exact .inl ⟨by omega, by omega⟩ | exact .inr ⟨by omega, by omega⟩), ?_⟩ | refine ⟨(show CDiv _ _ by first | exact ⟨by decide, by decide⟩ | exact ⟨by omega, by omega⟩), ?_⟩ | refine ⟨(show (0 : Int) < _ by first | omega | decide), ?_⟩ | refine ⟨(rfl : V.int 10 = V.int 10), (rfl : V.int 30 = V.int 30), ?_⟩))
    exact q
end
def spLPlace (K : PySem.W.Frag) : Sp := fun vs H Q _ => ∃ (t : Addr) (p s x y : Int), vs = [.int p, .int s, .ref t] ∧ SqT K H t [.int x, .int y] ∧ 0 < p ∧ (0 ≤ s ∧ s ≤ 1000) ∧ Q (.int (placeI p s x y)) H
section
variable {P : Program} {w : World} {K : PySem.W.Frag} {mg : Str → Option Value} {base : Heap} {a : Adr}
theorem ok_Lplace (T : Txt K mg a) : FnOk P w K mg base CX0 1 a.Lplace a.fd_Lplace ["_law_p", "_law_slope", "_law_point"] (spLPlace K) := by
  refine T.f_Lplace.ok sc_Lplace (fun vs H Q E h => ?_) (fun cdv A outer s H vs Q E hr h => ?_)
  · obtain ⟨t, p, s, x, y, rfl, _⟩ := h
    rfl
  · obtain ⟨t, p, s, x, y, rfl, hT, p0, ⟨s0, s1⟩, q⟩ := h
    refine ⟨_, (pss_cons (ps_if (pt_cmpR op_eq (pv 1) (pv 0) (nomark _)) (pss_one (ps_ret (pe_ix (ix_tupK K rfl) (pv 2) pe_int (fun _ _ => rfl)))) pss_nil)
  (pss_one (ps_ret (pe_op op_mod (pe_op op_add (pe_ix (ix_tupK K rfl) (pv 2) pe_int (fun _ _ => rfl)) (pe_op op_mul (pv 1) (pe_ix (ix_tupK K rfl) (pv 2) pe_int (fun _ _ => rfl)))) (pv 0))))), ?_⟩
    refine ⟨_, rfl, _, rfl, rfl, _, rfl, iteI (fun h => ?_) (fun h => ?_)⟩
    · unfold placeI at q
      rw [if_pos h] at q
      exact ⟨_, rfl, t, _, 1, _, rfl, rfl, hT, rfl, q⟩
    · unfold placeI at q
      rw [if_neg h] at q
      refine ⟨_, rfl, t, _, 0, _, rfl, rfl, hT, rfl, _, rfl, _, rfl, t, _, 1, _, rfl, rfl, hT, rfl, ?_⟩
      (repeat (first | refine ⟨_, rfl, ?_⟩ | refine ⟨_, _, rfl, rfl, ?_⟩ | refine ⟨(rfl : scal _ _ = true), ?_⟩ | refine ⟨(show CMul _ _ by first | exact .inl ⟨by decide, by decide⟩ | exact .inr ⟨by decide, by decide⟩ | exact .inl ⟨by omega, by omega⟩ | exact .inr ⟨by omega, by omega⟩), ?_⟩ | refine ⟨(show CDiv _ _ by first | exact ⟨by decide, by decide⟩ | exact ⟨by omega, by omega⟩), ?_⟩ | refine ⟨(show (0 : Int) < _ by first | omega | decide), ?_⟩ | refine ⟨(rfl : V.int 10 = V.int 10), (rfl : V.int 30 = V.int 30), ?_⟩))
      exact q
end
structure Row (H : Hp) (D : Addr) (f : Nat → Int × Int) (i : Nat) (acc : List V) (H' : Hp) : Prop where
  ex : ∃ us : List Addr, acc = us.map V.ref ∧ us.length = i ∧ ∀ j (h : j < us.length), H' us[j] = some (.tup [.int (f j).1, .int (f j).2])
  sm : Same H H'
  hD : H' D = some (.lst acc)
theorem Row.nil {H : Hp} {D : Addr} {f : Nat → Int × Int} (hD : H D = none) : Row H D f 0 [] (upd H D (.lst [])) := ⟨⟨[], rfl, rfl, fun j h => absurd h (Nat.not_lt_zero _)⟩, same_new (Same.refl H) hD, upd_same⟩
theorem Row.step {H : Hp} {D : Addr} {f : Nat → Int × Int} {i : Nat} {acc : List V} {H2 : Hp} {u : Addr} {x y : Int} (R : Row H D f i acc H2) (hD : H D = none) (hu : H2 u = none) (hx : (x, y) = f i) :
    Row H D f (i + 1) (acc ++ [.ref u]) (upd (upd H2 u (.tup [.int x, .int y])) D (.lst (acc ++ [.ref u]))) := by
  obtain ⟨⟨us, rfl, hl, hat⟩, sm, hd⟩ := R
  have huD : u ≠ D := fun e => by rw [e, hd] at hu; cases hu
  refine ⟨⟨us ++ [u], by rw [List.map_append]; rfl, by rw [List.length_append, hl]; rfl, fun j h => ?_⟩, same_upd (same_new sm hu) hD, upd_same⟩
  rcases (by rw [List.length_append, List.length_singleton] at h; omega : j < us.length ∨ j = us.length) with q | q
  · rw [List.getElem_append_left q]
    have e := hat j q
    have n1 : us[j] ≠ u := fun z => by rw [z, hu] at e; cases e
    have n2 : us[j] ≠ D := fun z => by rw [z, hd] at e; cases e
    rw [upd_ne n2, upd_ne n1]
    exact e
  · subst q
    rw [List.getElem_append_right (Nat.le_refl _)]
    simp only [Nat.sub_self, List.getElem_cons_zero]
    rw [upd_ne huD, upd_same, hl, ← hx]
structure Pts (H : Hp) (p : Nat) (s a : Int) (us : List Addr) : Prop where
  len : us.length = p
  at' : ∀ u ∈ us, ∃ x y : Int, H u = some (.tup [.int x, .int y]) ∧ 0 ≤ x ∧ x < p ∧ 0 ≤ y ∧ y < p ∧ placeI p s x y = a
  up : us.Pairwise fun u v => rkA H u < rkA H v
theorem rk_same {H H' : Hp} {u : Addr} {x y : Int} (sm : Same H H') (h : H u = some (.tup [.int x, .int y])) : rkA H' u = rkA H u := by
  unfold rkA
  rw [fH_at h, fH_at (sm _ _ h)]
theorem Pts.same {H H' : Hp} {p : Nat} {s a : Int} {us : List Addr} (P : Pts H p s a us) (sm : Same H H') : Pts H' p s a us := by
  refine ⟨P.len, fun u hu => ?_, P.up.imp_of_mem fun {u v} hu hv h => ?_⟩
  · obtain ⟨x, y, h, r⟩ := P.at' u hu
    exact ⟨x, y, sm _ _ h, r⟩
  · obtain ⟨x, y, h1, _⟩ := P.at' u hu
    obtain ⟨x', y', h2, _⟩ := P.at' v hv
    rw [rk_same sm h1, rk_same sm h2]
    exact h
def spPoints (K : PySem.W.Frag) : Sp := fun vs H Q _ => ∃ (p : Nat) (s a : Int), vs = [.int p, .int s, .int a] ∧ 2 ≤ p ∧ p ≤ 997 ∧ (0 ≤ s ∧ s ≤ p) ∧ (0 ≤ a ∧ a < p) ∧
  ∀ (l : Addr) (us : List Addr) (H' : Hp), Same H H' → H l = none → H' l = some (.lst (us.map V.ref)) → Pts H' p s a us → Q (.ref l) H'
theorem pts_row {H : Hp} {p : Nat} {a : Int} {us : List Addr} (hl : us.length = p) (a0 : 0 ≤ a) (a1 : a < p) (hat : ∀ j (h : j < us.length), H us[j] = some (.tup [.int (j : Int), .int a])) : Pts H p p a us := by
  refine ⟨hl, fun u hu => ?_, ?_⟩
  · obtain ⟨j, h, rfl⟩ := List.getElem_of_mem hu
    exact ⟨_, _, hat j h, by omega, by omega, a0, a1, by unfold placeI; rw [if_pos rfl]⟩
  · rw [List.pairwise_iff_getElem]
    intro i j hi hj hij
    unfold rkA
    rw [fH_at (hat i hi), fH_at (hat j hj)]
    omega
theorem pts_sorted {H : Hp} {p : Nat} {s a : Int} {us vs : List Addr} {q : Addr} {o : HO} (hl : us.length = p) (p1 : p ≤ 997) (hs : s ≠ p) (a0 : 0 ≤ a) (a1 : a < p) (hat : ∀ j (h : j < us.length), H us[j] = some (.tup [.int ((a - s * j) % p), .int (j : Int)]))
    (pm : vs.Perm us) (pw : vs.Pairwise fun u v => rkA H u ≤ rkA H v) : Pts H p s a vs := by
  refine ⟨pm.length_eq.trans hl, fun u hu => ?_, ?_⟩
  · obtain ⟨j, h, rfl⟩ := List.getElem_of_mem (pm.mem_iff.mp hu)
    have b := mod_lt (a - s * j) (show (0 : Int) < p by omega)
    exact ⟨_, _, hat j h, b.1, b.2, by omega, by omega, pt_by_x a0 a1 hs rfl⟩
  · have nd : (us.map (rkA H)).Nodup := by
      rw [List.Nodup, List.pairwise_map, List.pairwise_iff_getElem]
      intro i j hi hj hij
      unfold rkA
      rw [fH_at (hat i hi), fH_at (hat j hj)]
      show (a - s * i) % p * 1000 + (i : Int) ≠ (a - s * j) % p * 1000 + (j : Int)
      omega
    have nv := ((pm.map (rkA H)).nodup_iff).mpr nd
    rw [List.Nodup, List.pairwise_map] at nv
    exact (pw.and nv).imp fun h => by omega
section
variable {P : Program} {w : World} {K : PySem.W.Frag} {mg : Str → Option Value} {base : Heap} {a : Adr}
theorem ok_points_at (T : Txt K mg a) : FnOk P w K mg base CX0 2 a.points_at a.fd_points_at ["p", "slope", "place"] (spPoints K) := by
  refine T.f_points_at.ok sc_points_at (fun vs H Q E h => ?_) (fun cdv A outer s H vs Q E hr h => ?_)
  · obtain ⟨p, s, a, rfl, _⟩ := h
    rfl
  · obtain ⟨p, s, a, rfl, p0, p1, ⟨s0, s1⟩, ⟨a0, a1⟩, fin⟩ := h
    refine ⟨_, (pss_cons (ps_if (pt_cmpR op_eq (pv 1) (pv 0) (nomark _)) (pss_one (ps_ret (comp_of ["p", "slope", "place"] ["x"] [] [3] (defScope s_points_at) rfl rfl rfl (by decide +kernel) (by decide +kernel) (gk_name 3)
    (pi_range1 rfl T.n_range (pa_cons (pv 0) pa_nil)) (fun cl C s₀ H₀ ex => ⟨(pg_name (i := 3) (show List.Nodup ((["p", "slope", "place"] : List PySem.Str) ++ (["x"] : List PySem.Str)) by decide +kernel) rfl (by first | exact Or.inl rfl | exact Or.inr rfl)), pts_nil, (pe_tup (pa_cons (pv 3) (pa_cons (pv 2) pa_nil)))⟩)))) pss_nil)
  (pss_one (ps_ret (pe_callB (call_sortPairsK K rfl) (by rfl) T.n_sorted L2.boot_sorted (pa_cons (comp_of ["p", "slope", "place"] ["y"] [] [3] (defScope s_points_at) rfl rfl rfl (by decide +kernel) (by decide +kernel) (gk_name 3)
    (pi_range1 rfl T.n_range (pa_cons (pv 0) pa_nil)) (fun cl C s₀ H₀ ex => ⟨(pg_name (i := 3) (show List.Nodup ((["p", "slope", "place"] : List PySem.Str) ++ (["y"] : List PySem.Str)) by decide +kernel) rfl (by first | exact Or.inl rfl | exact Or.inr rfl)), pts_nil, (pe_tup (pa_cons (pe_call ((ok_x_at T).mono (by first | decide | omega)) hr rfl T.m_x_at T.f_x_at.kp T.b_x_at .nil pass0 (pa_cons (pv 0) (pa_cons (pv 1) (pa_cons (pv 2) (pa_cons (pv 3) pa_nil))))) (pa_cons (pv 3) pa_nil)))⟩)) pa_nil))))), ?_⟩
    refine ⟨_, rfl, _, rfl, rfl, _, rfl, iteI (fun h => ?_) (fun h => ?_)⟩
    · subst h
      refine ⟨_, rfl, (p : Int), rfl, by omega, by omega, fun D hD => ?_⟩
      rw [Int.toNat_natCast]
      refine comp_range (K := K) (Row H D fun j => ((j : Int), a)) (Row.nil hD) ?_ ?_
      · rintro i acc H2 hi R
        have hacc : acc.length = i := by
          obtain ⟨us, rfl, hl, _⟩ := R.ex
          rw [List.length_map, hl]
        rw [show (0 : Int) + (i : Int) = i by omega]
        refine gName_ (yes_ (iteT ?_))
        refine ⟨_, rfl, _, rfl, le_size (by simp), fun u hu => ⟨?_, ?_, lf hi (R.step hD hu rfl)⟩⟩
        · rw [upd_ne (ne_of_none R.hD hu)]; exact R.hD
        · rw [sizeLine_eq]; omega
      · rintro acc H2 R
        obtain ⟨us, rfl, hl, hat⟩ := R.ex
        exact fin D us H2 R.sm hD R.hD (pts_row hl a0 a1 hat)
    · refine ⟨_, rfl, (p : Int), rfl, by omega, by omega, fun D hD => ?_⟩
      rw [Int.toNat_natCast]
      refine comp_range (K := K) (Row H D fun j => ((a - s * (j : Int)) % p, (j : Int))) (Row.nil hD) ?_ ?_
      · rintro i acc H2 hi R
        have hacc : acc.length = i := by
          obtain ⟨us, rfl, hl, _⟩ := R.ex
          rw [List.length_map, hl]
        rw [show (0 : Int) + (i : Int) = i by omega]
        refine gName_ (yes_ (iteT ?_))
        refine ⟨_, rfl, _, rfl, _, rfl, _, rfl, p, s, a, i, rfl, by omega, ⟨by omega, by omega⟩, _, rfl, le_size (by simp), fun u hu => ⟨?_, ?_, lf hi (R.step hD hu rfl)⟩⟩
        · rw [upd_ne (ne_of_none R.hD hu)]; exact R.hD
        · rw [sizeLine_eq]; omega
      · rintro acc H2 R
        obtain ⟨us, rfl, hl, hat⟩ := R.ex
        have hs : s ≠ p := h
        refine ⟨D, us, rfl, SqL.of R.hD, by omega, fun u hu => ?_, fun q vs hq pm pw => ?_⟩
        · obtain ⟨j, hj, rfl⟩ := List.getElem_of_mem hu
          exact ⟨_, _, hat j hj, by omega, by omega⟩
        · have P := pts_sorted (q := q) (o := .lst []) hl p1 hs a0 a1 hat pm pw
          have sm := same_new (o := .lst (vs.map V.ref)) (Same.refl H2) hq
          exact fin q vs _ (R.sm.trans sm) (R.sm.free hq) upd_same (P.same sm)
end
def spRight (K : PySem.W.Frag) : Sp := fun vs H Q _ => ∃ (p : Nat) (s a : Int), vs = [.int p, .int s, .int a] ∧ 2 ≤ p ∧ p ≤ 997 ∧ (0 ≤ s ∧ s ≤ p) ∧ (0 ≤ a ∧ a < p) ∧ ∀ H', Same H H' → Q (.bl true) H'
section
variable {P : Program} {w : World} {K : PySem.W.Frag} {mg : Str → Option Value} {base : Heap} {a : Adr}
theorem ok_Lright (T : Txt K mg a) : FnOk P w K mg base CX0 3 a.Lright a.fd_Lright ["_law_p", "_law_slope", "_law_place_here"] (spRight K) := by
  refine T.f_Lright.ok sc_Lright (fun vs H Q E h => ?_) (fun cdv A outer s H vs Q E hr h => ?_)
  · obtain ⟨p, s, a, rfl, _⟩ := h
    rfl
  · obtain ⟨p, s, a, rfl, p0, p1, ⟨s0, s1⟩, ⟨a0, a1⟩, fin⟩ := h
    refine ⟨_, (pss_cons (ps_set (i := 3) sc_Lright.nd rfl (by first | exact Or.inl rfl | exact Or.inr rfl) (pe_call ((ok_points_at T).mono (by first | decide | omega)) hr rfl T.m_points_at T.f_points_at.kp T.b_points_at .nil pass0 (pa_cons (pv 0) (pa_cons (pv 1) (pa_cons (pv 2) pa_nil)))))
  (pss_cons (ps_if (PW.pt (pw_or (pt_not (pt_truthK K rfl (pe_callB (call_isiK K rfl) (by rfl) T.n_isinstance L2.boot_isinstance (pa_cons (pv 3) (pa_cons (pe_ty rfl T.n_list L2.boot_list) pa_nil))) (fun _ => rfl))) (pw_or1 (pt_cmpR op_ne (pe_callB (call_lenK K rfl) (by rfl) T.n_len L2.boot_len (pa_cons (pv 3) pa_nil)) (pv 0) (nomark _))))) (pss_one (ps_ret pe_bl)) pss_nil)
  (pss_cons (ps_for PassesOwn.never rfl (pi_range1 rfl T.n_range (pa_cons (pv 0) pa_nil)) (pg_name (i := 4) sc_Lright.nd rfl (by first | exact Or.inl rfl | exact Or.inr rfl))
  (pss_cons (ps_set (i := 5) sc_Lright.nd rfl (by first | exact Or.inl rfl | exact Or.inr rfl) (pe_ix (ix_listK K rfl) (pv 3) (pv 4) (fun _ _ => rfl)))
  (pss_cons (ps_if (PW.pt (pw_or (pt_not (pt_truthK K rfl (pe_callB (call_isiK K rfl) (by rfl) T.n_isinstance L2.boot_isinstance (pa_cons (pv 5) (pa_cons (pe_ty rfl T.n_tuple L2.boot_tuple) pa_nil))) (fun _ => rfl))) (pw_or (pt_cmpR op_ne (pe_callB (call_lenK K rfl) (by rfl) T.n_len L2.boot_len (pa_cons (pv 5) pa_nil)) pe_int (nomark _)) (pw_or (pt_not (pt_truthK K rfl (pe_call ((ok_Lwhole T).mono (by first | decide | omega)) hr rfl T.m_Lwhole T.f_Lwhole.kp T.b_Lwhole .nil pass0 (pa_cons (pe_ix (ix_tupK K rfl) (pv 5) pe_int (fun _ _ => rfl)) pa_nil)) (fun _ => rfl))) (pw_or1 (pt_not (pt_truthK K rfl (pe_call ((ok_Lwhole T).mono (by first | decide | omega)) hr rfl T.m_Lwhole T.f_Lwhole.kp T.b_Lwhole .nil pass0 (pa_cons (pe_ix (ix_tupK K rfl) (pv 5) pe_int (fun _ _ => rfl)) pa_nil)) (fun _ => rfl)))))))) (pss_one (ps_ret pe_bl)) pss_nil)
  (pss_cons (ps_if (PW.pt (pw_or (pt_not (pt_chain op_le op_lt pe_int (pe_ix (ix_tupK K rfl) (pv 5) pe_int (fun _ _ => rfl)) (pv 0))) (pw_or (pt_not (pt_chain op_le op_lt pe_int (pe_ix (ix_tupK K rfl) (pv 5) pe_int (fun _ _ => rfl)) (pv 0))) (pw_or1 (pt_cmpR op_ne (pe_call ((ok_Lplace T).mono (by first | decide | omega)) hr rfl T.m_Lplace T.f_Lplace.kp T.b_Lplace .nil pass0 (pa_cons (pv 0) (pa_cons (pv 1) (pa_cons (pv 5) pa_nil)))) (pv 2) (nomark _)))))) (pss_one (ps_ret pe_bl)) pss_nil)
  (pss_one (ps_if (PW.pt (pw_and (pt_cmpR op_gt (pv 4) pe_int (nomark _)) (pw_and1 (pt_cmpR (op_lePK K rfl (hu_of hr)) (pv 5) (pe_ix (ix_listK K rfl) (pv 3) (pe_op op_sub (pv 4) pe_int) (fun _ _ => rfl)) (nomark _))))) (pss_one (ps_ret pe_bl)) pss_nil))))))
  (pss_cons (ps_expr (pe_bm0K K rfl PySem.F.plainAttrs_list PySem.F.slot_list_clear PySem.F.type_list_clear mt_clear (pv 3)))
  (pss_one (ps_ret pe_bl)))))), ?_⟩
    refine ⟨_, rfl, _, rfl, _, rfl, p, s, a, rfl, p0, p1, ⟨s0, s1⟩, ⟨a0, a1⟩, fun l us H1 sm hl hL Pt => gName_ ?_⟩
    refine ⟨_, rfl, _, "list", _, true, rfl, .lst hL, kit_tt (by decide +kernel), true, rfl, iteF ?_⟩
    refine ⟨_, rfl, _, p, rfl, .inl ⟨_, SqL.of hL, by rw [List.length_map, Pt.len]⟩, _, rfl, rfl, _, rfl, iteNI (fun h => absurd rfl h) (fun _ => nx_ ?_)⟩
    refine ⟨_, rfl, (p : Int), rfl, by omega, by omega, ?_⟩
    refine for_range (lo := 0) (n := (p : Int).toNat) (fun i σ H' => Same H1 H' ∧ ∃ v4 v5, σ = [some (.int p), some (.int s), some (.int a), some (.ref l), v4, v5]) ⟨Same.refl _, _, _, rfl⟩ ?_ ?_
    · rintro i σ H2 hi ⟨s2, v4, v5, rfl⟩
      have hip : i < us.length := by rw [Pt.len]; omega
      have hL2 := s2 _ _ hL
      have Pt2 := Pt.same s2
      have hui : us[i]? = some us[i] := List.getElem?_eq_getElem hip
      have hup := List.pairwise_iff_getElem.mp Pt2.up
      have hat : atI (us.map V.ref) (i : Int) = some (.ref us[i]) := atI_nat' (by rw [List.getElem?_map, hui]; rfl)
      obtain ⟨x, y, hT', x0, x1, y0, y1, hpl⟩ := Pt2.at' _ (List.mem_of_getElem? hui)
      have hT : SqT K H2 us[i] [.int x, .int y] := SqT.of hT'
      rw [show (0 : Int) + (i : Int) = i by omega]
      refine gName_ ⟨_, rfl, _, rfl, l, _, _, _, rfl, rfl, SqL.of hL2, hat, gName_ ?_⟩
      refine ⟨_, rfl, _, "tuple", _, true, rfl, .tup hT', kit_tt (by decide +kernel), true, rfl, iteF ?_⟩
      refine ⟨_, rfl, _, 2, rfl, .inr ⟨_, hT, rfl⟩, rfl, _, rfl, iteF ?_⟩
      refine ⟨_, rfl, us[i], _, 0, _, rfl, rfl, hT, rfl, _, rfl, true, rfl, iteF ?_⟩
      refine ⟨_, rfl, us[i], _, 1, _, rfl, rfl, hT, rfl, _, rfl, true, rfl, iteF (nx_ ?_)⟩
      refine ⟨_, rfl, us[i], _, 0, _, rfl, rfl, hT, rfl, _, _, rfl, rfl, _, rfl, ?_⟩
      refine iteD (fun _ => ?_) (fun h => absurd x0 h)
      refine ⟨_, rfl, _, _, rfl, rfl, _, rfl, ?_⟩
      rw [decide_eq_true x1]
      refine iteF ?_
      refine ⟨_, rfl, us[i], _, 1, _, rfl, rfl, hT, rfl, _, _, rfl, rfl, _, rfl, ?_⟩
      refine iteD (fun _ => ?_) (fun h => absurd y0 h)
      refine ⟨_, rfl, _, _, rfl, rfl, _, rfl, ?_⟩
      rw [decide_eq_true y1]
      refine iteF ?_
      refine ⟨_, rfl, _, rfl, _, rfl, us[i], p, s, x, y, rfl, hT, by omega, ⟨s0, by omega⟩, _, rfl, rfl, _, rfl, ?_⟩
      refine iteNI (fun h => absurd hpl h) (fun _ => nx_ ?_)
      refine ⟨_, rfl, _, _, rfl, rfl, _, rfl, ?_⟩
      refine iteD (fun hk => ?_) (fun hk => iteF ⟨s2, _, _, rfl⟩)
      have hk' : 0 < i := by omega
      have hj : i - 1 < us.length := by omega
      have huj : us[i - 1]? = some us[i - 1] := List.getElem?_eq_getElem hj
      obtain ⟨x', y', hT2', _, _, y0', y1', _⟩ := Pt2.at' _ (List.mem_of_getElem? huj)
      have hlt := hup (i - 1) i hj hip (by omega)
      unfold rkA at hlt
      rw [fH_at hT', fH_at hT2'] at hlt
      have hlt : x' * 1000 + y' < x * 1000 + y := hlt
      have hat2 : atI (us.map V.ref) ((i : Int) - 1) = some (.ref us[i - 1]) := by
        rw [show (i : Int) - 1 = ((i - 1 : Nat) : Int) by omega]
        exact atI_nat' (by rw [List.getElem?_map, huj]; rfl)
      refine ⟨_, rfl, _, rfl, _, rfl, _, _, rfl, rfl, l, _, _, _, rfl, rfl, SqL.of hL2, hat2, us[i], us[i - 1], x, y, x', y', rfl, rfl, hT, SqT.of hT2', _, rfl, ?_⟩
      rw [decide_eq_false (by omega)]
      exact iteF ⟨s2, _, _, rfl⟩
    · rintro σ H2 ⟨s2, v4, v5, rfl⟩
      have hL2 := s2 _ _ hL
      refine nx_ ⟨_, rfl, .inl ⟨rfl, _, SqL.of hL2⟩, l, _, rfl, rfl, hL2, ?_⟩
      exact fin _ (same_upd (sm.trans s2) hl)
end
section
variable {P : Program} {w : World} {K : PySem.W.Frag} {mg : Str → Option Value} {base : Heap} {a : Adr}
theorem ok_law (T : Txt K mg a) : FnOk P w K mg base CX0 4 a.law a.fd_law ["_law_script"] (spLaw K) := by
  refine T.f_law.ok sc_law (fun vs H Q E h => ?_) (fun cdv A outer s H vs Q E hr h => ?_)
  · obtain ⟨p, ns, rfl, _⟩ := h
    rfl
  · obtain ⟨sc, ns, rfl, hS, hl, q⟩ := h
    refine ⟨_, (pss_cons (ps_set (i := 1) sc_law.nd rfl (by first | exact Or.inl rfl | exact Or.inr rfl) (pe_call ((ok_Lmixed T).mono (by first | decide | omega)) hr rfl T.m_Lmixed T.f_Lmixed.kp T.b_Lmixed .nil pass0 (pa_cons (pv 0) (pa_cons pe_int (pa_cons pe_int pa_nil)))))
  (pss_cons (ps_set (i := 2) sc_law.nd rfl (by first | exact Or.inl rfl | exact Or.inr rfl) (pe_call ((ok_Lprime T).mono (by first | decide | omega)) hr rfl T.m_Lprime T.f_Lprime.kp T.b_Lprime .nil pass0 (pa_cons (pe_op op_fdiv (pv 1) pe_int) (pa_cons (pe_ix (ix_listK K rfl) (pe_lst (pa_cons pe_int (pa_cons pe_int (pa_cons pe_int (pa_cons pe_int (pa_cons pe_int (pa_cons pe_int pa_nil))))))) (pe_op op_mod (pv 1) pe_int) (fun _ _ => rfl)) pa_nil))))
  (pss_cons (ps_for PassesOwn.never rfl (pi_range1 rfl T.n_range (pa_cons pe_int pa_nil)) (pg_name (i := 3) sc_law.nd rfl (by first | exact Or.inl rfl | exact Or.inr rfl))
  (pss_cons (ps_set (i := 4) sc_law.nd rfl (by first | exact Or.inl rfl | exact Or.inr rfl) (pe_call ((ok_Lmixed T).mono (by first | decide | omega)) hr rfl T.m_Lmixed T.f_Lmixed.kp T.b_Lmixed .nil pass0 (pa_cons (pv 0) (pa_cons (pv 3) (pa_cons pe_int pa_nil)))))
  (pss_cons (ps_set (i := 5) sc_law.nd rfl (by first | exact Or.inl rfl | exact Or.inr rfl) (pe_op op_mod (pe_op op_fdiv (pv 4) pe_int) (pe_op op_add (pv 2) pe_int)))
  (pss_cons (ps_if (pt_cmpR op_eq (pe_op op_mod (pv 4) pe_int) pe_int (nomark _)) (pss_one (ps_set (i := 5) sc_law.nd rfl (by first | exact Or.inl rfl | exact Or.inr rfl) (pe_ix (ix_listK K rfl) (pe_lst (pa_cons pe_int (pa_cons (pv 2) pa_nil))) (pe_op op_mod (pe_op op_fdiv (pv 4) pe_int) pe_int) (fun _ _ => rfl)))) pss_nil)
  (pss_one (ps_for PassesOwn.never rfl (pi_range1 rfl T.n_range (pa_cons pe_int pa_nil)) (pg_name (i := 6) sc_law.nd rfl (by first | exact Or.inl rfl | exact Or.inr rfl))
  (pss_one (ps_if (pt_not (pt_truthK K rfl (pe_call ((ok_Lright T).mono (by first | decide | omega)) hr rfl T.m_Lright T.f_Lright.kp T.b_Lright .nil pass0 (pa_cons (pv 2) (pa_cons (pv 5) (pa_cons (pe_op op_mod (pe_call ((ok_Lmixed T).mono (by first | decide | omega)) hr rfl T.m_Lmixed T.f_Lmixed.kp T.b_Lmixed .nil pass0 (pa_cons (pv 0) (pa_cons (pv 3) (pa_cons pe_int pa_nil)))) (pv 2)) pa_nil)))) (fun _ => rfl))) (pss_one (ps_ret pe_bl)) pss_nil))))))))
  (pss_one (ps_ret pe_bl))))), ?_⟩
    refine ⟨_, rfl, sc, ns, 0, 1, rfl, hS, hl, ⟨by decide, by decide⟩, ⟨by decide, by decide⟩, fun x x0 x1 => ?_⟩
    (repeat (first | refine ⟨_, rfl, ?_⟩ | refine ⟨_, _, rfl, rfl, ?_⟩ | refine ⟨(rfl : scal _ _ = true), ?_⟩ | refine ⟨(show CMul _ _ by first | exact .inl ⟨by decide, by decide⟩ | exact .inr ⟨by decide, by decide⟩ | exact .inl ⟨by omega, by omega⟩ | exact .inr ⟨by omega, by omega⟩), ?_⟩ | refine ⟨(show CDiv _ _ by first | exact ⟨by decide, by decide⟩ | exact ⟨by omega, by omega⟩), ?_⟩ | refine ⟨(show (0 : Int) < _ by first | omega | decide), ?_⟩ | refine ⟨(rfl : V.int 10 = V.int 10), (rfl : V.int 30 = V.int 30), ?_⟩))
    refine ⟨le_size (show _ ≤ 65536 by simp), fun l6 hl6 => ?_⟩
    (repeat (first | refine ⟨_, rfl, ?_⟩ | refine ⟨_, _, rfl, rfl, ?_⟩ | refine ⟨(rfl : scal _ _ = true), ?_⟩ | refine ⟨(show CMul _ _ by first | exact .inl ⟨by decide, by decide⟩ | exact .inr ⟨by decide, by decide⟩ | exact .inl ⟨by omega, by omega⟩ | exact .inr ⟨by omega, by omega⟩), ?_⟩ | refine ⟨(show CDiv _ _ by first | exact ⟨by decide, by decide⟩ | exact ⟨by omega, by omega⟩), ?_⟩ | refine ⟨(show (0 : Int) < _ by first | omega | decide), ?_⟩ | refine ⟨(rfl : V.int 10 = V.int 10), (rfl : V.int 30 = V.int 30), ?_⟩))
    have b6 := mod_lt x (show (0 : Int) < 6 by decide)
    obtain ⟨v, hv, hm⟩ := atI_some (xs := [V.int 997, V.int 97, V.int 97, V.int 97, V.int 97, V.int 97]) b6.1 b6.2
    have hm : ∃ m : Int, v = .int m ∧ 3 ≤ m ∧ m ≤ 997 := by
      simp only [List.mem_cons, List.not_mem_nil, or_false] at hm
      rcases hm with rfl | rfl | rfl | rfl | rfl | rfl <;> exact ⟨_, rfl, by decide, by decide⟩
    obtain ⟨m, rfl, m0, m1⟩ := hm
    have sl := same_new (o := .lst [V.int 997, V.int 97, V.int 97, V.int 97, V.int 97, V.int 97]) (Same.refl H) hl6
    refine ⟨l6, _, _, _, rfl, rfl, SqL.of upd_same, hv, x / 6, m, rfl, m0, m1, fun p' H1 p0 p1 hp s1' => ?_⟩
    obtain ⟨p, rfl⟩ : ∃ p : Nat, p' = p := ⟨p'.toNat, by omega⟩
    have s1 := sl.trans s1'
    refine gName_ ⟨2, rfl, by decide, by decide, ?_⟩
    refine for_range (lo := 0) (n := (2 : Int).toNat) (fun i σ H' => Same H H' ∧ ∃ v3 v4 v5 v6, σ = [some (.ref sc), some (.int x), some (.int p), v3, v4, v5, v6]) ⟨s1, _, _, _, _, rfl⟩ ?_ ?_
    · rintro i σ H2 hi ⟨s2, v3, v4, v5, v6, rfl⟩
      have hi2 : i < 2 := hi
      rw [show (0 : Int) + (i : Int) = i by omega]
      refine gName_ ⟨_, rfl, _, rfl, sc, ns, i, 2, rfl, s2.seq hS, hl, ⟨by omega, by omega⟩, ⟨by decide, by decide⟩, fun y y0 y1 => gName_ ?_⟩
      have b1 := mod_lt (y / 6) (show (0 : Int) < (p : Int) + 1 by omega)
      have b2 := mod_lt (y / 3) (show (0 : Int) < 2 by decide)
      dsimp only
      refine cutQ (fun σ H' => H2 = H' ∧ ∃ o : Int, 0 ≤ o ∧ o ≤ p ∧ σ = [some (.ref sc), some (.int x), some (.int p), some (.int i), some (.int y), some (.int o), v6]) ?A (fun Nn hJ => ?B)
      case B =>
        (repeat (first | refine ⟨_, rfl, ?_⟩ | refine ⟨_, _, rfl, rfl, ?_⟩ | refine ⟨(rfl : scal _ _ = true), ?_⟩ | refine ⟨(show CMul _ _ by first | exact .inl ⟨by decide, by decide⟩ | exact .inr ⟨by decide, by decide⟩ | exact .inl ⟨by omega, by omega⟩ | exact .inr ⟨by omega, by omega⟩), ?_⟩ | refine ⟨(show CDiv _ _ by first | exact ⟨by decide, by decide⟩ | exact ⟨by omega, by omega⟩), ?_⟩ | refine ⟨(show (0 : Int) < _ by first | omega | decide), ?_⟩ | refine ⟨(rfl : V.int 10 = V.int 10), (rfl : V.int 30 = V.int 30), ?_⟩))
        exact gName_ (hJ _ _ ⟨rfl, _, b1.1, by omega, rfl⟩)
      case A =>
      rintro σ _ ⟨rfl, o, o0, o1, rfl⟩
      refine cutQ (fun σ H' => Same H H' ∧ ∃ o : Int, 0 ≤ o ∧ o ≤ p ∧ σ = [some (.ref sc), some (.int x), some (.int p), some (.int i), some (.int y), some (.int o), v6]) ?A2 (fun Nn hJ => ?B2)
      case B2 =>
        (repeat (first | refine ⟨_, rfl, ?_⟩ | refine ⟨_, _, rfl, rfl, ?_⟩ | refine ⟨(rfl : scal _ _ = true), ?_⟩ | refine ⟨(show CMul _ _ by first | exact .inl ⟨by decide, by decide⟩ | exact .inr ⟨by decide, by decide⟩ | exact .inl ⟨by omega, by omega⟩ | exact .inr ⟨by omega, by omega⟩), ?_⟩ | refine ⟨(show CDiv _ _ by first | exact ⟨by decide, by decide⟩ | exact ⟨by omega, by omega⟩), ?_⟩ | refine ⟨(show (0 : Int) < _ by first | omega | decide), ?_⟩ | refine ⟨(rfl : V.int 10 = V.int 10), (rfl : V.int 30 = V.int 30), ?_⟩))
        refine iteI (fun _ => ?_) (fun _ => hJ _ _ ⟨s2, o, o0, o1, rfl⟩)
        (repeat (first | refine ⟨_, rfl, ?_⟩ | refine ⟨_, _, rfl, rfl, ?_⟩ | refine ⟨(rfl : scal _ _ = true), ?_⟩ | refine ⟨(show CMul _ _ by first | exact .inl ⟨by decide, by decide⟩ | exact .inr ⟨by decide, by decide⟩ | exact .inl ⟨by omega, by omega⟩ | exact .inr ⟨by omega, by omega⟩), ?_⟩ | refine ⟨(show CDiv _ _ by first | exact ⟨by decide, by decide⟩ | exact ⟨by omega, by omega⟩), ?_⟩ | refine ⟨(show (0 : Int) < _ by first | omega | decide), ?_⟩ | refine ⟨(rfl : V.int 10 = V.int 10), (rfl : V.int 30 = V.int 30), ?_⟩))
        refine ⟨le_size (show _ ≤ 65536 by simp), fun l2 hl2 => ?_⟩
        (repeat (first | refine ⟨_, rfl, ?_⟩ | refine ⟨_, _, rfl, rfl, ?_⟩ | refine ⟨(rfl : scal _ _ = true), ?_⟩ | refine ⟨(show CMul _ _ by first | exact .inl ⟨by decide, by decide⟩ | exact .inr ⟨by decide, by decide⟩ | exact .inl ⟨by omega, by omega⟩ | exact .inr ⟨by omega, by omega⟩), ?_⟩ | refine ⟨(show CDiv _ _ by first | exact ⟨by decide, by decide⟩ | exact ⟨by omega, by omega⟩), ?_⟩ | refine ⟨(show (0 : Int) < _ by first | omega | decide), ?_⟩ | refine ⟨(rfl : V.int 10 = V.int 10), (rfl : V.int 30 = V.int 30), ?_⟩))
        obtain ⟨v, hv, hm⟩ := atI_some (xs := [V.int 0, V.int p]) b2.1 b2.2
        have hm : ∃ m : Int, v = .int m ∧ 0 ≤ m ∧ m ≤ p := by
          simp only [List.mem_cons, List.not_mem_nil, or_false] at hm
          rcases hm with rfl | rfl
          · exact ⟨_, rfl, by omega, by omega⟩
          · exact ⟨_, rfl, by omega, by omega⟩
        obtain ⟨m, rfl, m0, m1⟩ := hm
        exact ⟨l2, _, _, _, rfl, rfl, SqL.of upd_same, hv, gName_ (hJ _ _ ⟨same_new s2 hl2, m, m0, m1, rfl⟩)⟩
      case A2 =>
      rintro σ H3 ⟨s3, o, o0, o1, rfl⟩
      refine ⟨2, rfl, by decide, by decide, ?_⟩
      refine for_range (lo := 0) (n := (2 : Int).toNat) (fun j σ H' => Same H H' ∧ ∃ v6, σ = [some (.ref sc), some (.int x), some (.int p), some (.int i), some (.int y), some (.int o), v6]) ⟨s3, _, rfl⟩ ?_ ?_
      · rintro j σ H4 hj ⟨s4, v6, rfl⟩
        refine gName_ ⟨_, rfl, _, rfl, _, rfl, _, rfl, sc, ns, i, 3, rfl, s4.seq hS, hl, ⟨by omega, by omega⟩, ⟨by decide, by decide⟩, fun c c0 c1 => ⟨_, rfl, _, _, rfl, rfl, by omega, p, o, c % p, rfl, by omega, by omega, ⟨o0, o1⟩, mod_lt c (by omega), fun H5 s5 => ⟨true, rfl, iteF ⟨s4.trans s5, _, rfl⟩⟩⟩⟩
      · rintro σ H4 ⟨s4, v6, rfl⟩
        exact ⟨s4, _, _, _, _, rfl⟩
    · rintro σ H2 _
      exact q H2
end
theorem all_mk {K : PySem.W.Frag} {h : Heap} {mg : Str → Option Value} {x_x_at : Addr} {od_x_at an_x_at : Option Addr} {sl_x_at : Array (Option Value)} {oc_x_at kV_x_at dc_x_at pm_x_at cd_x_at ct_x_at : Value}
    {x_points_at : Addr} {od_points_at an_points_at : Option Addr} {sl_points_at : Array (Option Value)} {oc_points_at kV_points_at dc_points_at pm_points_at cd_points_at ct_points_at : Value}
    {x_Lcell_at : Addr} {od_Lcell_at an_Lcell_at : Option Addr} {sl_Lcell_at : Array (Option Value)} {oc_Lcell_at kV_Lcell_at dc_Lcell_at pm_Lcell_at cd_Lcell_at ct_Lcell_at : Value}
    {x_Lmixed : Addr} {od_Lmixed an_Lmixed : Option Addr} {sl_Lmixed : Array (Option Value)} {oc_Lmixed kV_Lmixed dc_Lmixed pm_Lmixed cd_Lmixed ct_Lmixed : Value}
    {x_Lwhole : Addr} {od_Lwhole an_Lwhole : Option Addr} {sl_Lwhole : Array (Option Value)} {oc_Lwhole kV_Lwhole dc_Lwhole pm_Lwhole cd_Lwhole ct_Lwhole : Value}
    {x_Lprime : Addr} {od_Lprime an_Lprime : Option Addr} {sl_Lprime : Array (Option Value)} {oc_Lprime kV_Lprime dc_Lprime pm_Lprime cd_Lprime ct_Lprime : Value}
    {x_Lplace : Addr} {od_Lplace an_Lplace : Option Addr} {sl_Lplace : Array (Option Value)} {oc_Lplace kV_Lplace dc_Lplace pm_Lplace cd_Lplace ct_Lplace : Value}
    {x_Lright : Addr} {od_Lright an_Lright : Option Addr} {sl_Lright : Array (Option Value)} {oc_Lright kV_Lright dc_Lright pm_Lright cd_Lright ct_Lright : Value}
    {x_law : Addr} {od_law an_law : Option Addr} {sl_law : Array (Option Value)} {oc_law kV_law dc_law pm_law cd_law ct_law : Value} (X : K.In h) (G : h.Ns mainGlobals mg)
    (a_x_at : PySem.W.nsIn K mainGlobals "x_at" = some (some (.ref x_x_at)))
    (l_x_at : K.lookup x_x_at = some ⟨oc_x_at, od_x_at, .func (PySem.W.fnOf "x_at" "x_at" (defArgs s_x_at) (defBody s_x_at) (defScope s_x_at) .none kV_x_at dc_x_at pm_x_at an_x_at cd_x_at ct_x_at), sl_x_at⟩)
    (c_x_at : PySem.W.codeIn K cd_x_at "x_at" = true)
    (k_x_at : PySem.W.keepIn K (.ref x_x_at) = true)
    (a_points_at : PySem.W.nsIn K mainGlobals "points_at" = some (some (.ref x_points_at)))
    (l_points_at : K.lookup x_points_at = some ⟨oc_points_at, od_points_at, .func (PySem.W.fnOf "points_at" "points_at" (defArgs s_points_at) (defBody s_points_at) (defScope s_points_at) .none kV_points_at dc_points_at pm_points_at an_points_at cd_points_at ct_points_at), sl_points_at⟩)
    (c_points_at : PySem.W.codeIn K cd_points_at "points_at" = true)
    (k_points_at : PySem.W.keepIn K (.ref x_points_at) = true)
    (a_Lcell_at : PySem.W.nsIn K mainGlobals "_law_cell_at" = some (some (.ref x_Lcell_at)))
    (l_Lcell_at : K.lookup x_Lcell_at = some ⟨oc_Lcell_at, od_Lcell_at, .func (PySem.W.fnOf "_law_cell_at" "_law_cell_at" (defArgs s_Lcell_at) (defBody s_Lcell_at) (defScope s_Lcell_at) .none kV_Lcell_at dc_Lcell_at pm_Lcell_at an_Lcell_at cd_Lcell_at ct_Lcell_at), sl_Lcell_at⟩)
    (c_Lcell_at : PySem.W.codeIn K cd_Lcell_at "_law_cell_at" = true)
    (k_Lcell_at : PySem.W.keepIn K (.ref x_Lcell_at) = true)
    (a_Lmixed : PySem.W.nsIn K mainGlobals "_law_mixed" = some (some (.ref x_Lmixed)))
    (l_Lmixed : K.lookup x_Lmixed = some ⟨oc_Lmixed, od_Lmixed, .func (PySem.W.fnOf "_law_mixed" "_law_mixed" (defArgs s_Lmixed) (defBody s_Lmixed) (defScope s_Lmixed) .none kV_Lmixed dc_Lmixed pm_Lmixed an_Lmixed cd_Lmixed ct_Lmixed), sl_Lmixed⟩)
    (c_Lmixed : PySem.W.codeIn K cd_Lmixed "_law_mixed" = true)
    (k_Lmixed : PySem.W.keepIn K (.ref x_Lmixed) = true)
    (a_Lwhole : PySem.W.nsIn K mainGlobals "_law_whole" = some (some (.ref x_Lwhole)))
    (l_Lwhole : K.lookup x_Lwhole = some ⟨oc_Lwhole, od_Lwhole, .func (PySem.W.fnOf "_law_whole" "_law_whole" (defArgs s_Lwhole) (defBody s_Lwhole) (defScope s_Lwhole) .none kV_Lwhole dc_Lwhole pm_Lwhole an_Lwhole cd_Lwhole ct_Lwhole), sl_Lwhole⟩)
    (c_Lwhole : PySem.W.codeIn K cd_Lwhole "_law_whole" = true)
    (k_Lwhole : PySem.W.keepIn K (.ref x_Lwhole) = true)
    (a_Lprime : PySem.W.nsIn K mainGlobals "_law_prime" = some (some (.ref x_Lprime)))
    (l_Lprime : K.lookup x_Lprime = some ⟨oc_Lprime, od_Lprime, .func (PySem.W.fnOf "_law_prime" "_law_prime" (defArgs s_Lprime) (defBody s_Lprime) (defScope s_Lprime) .none kV_Lprime dc_Lprime pm_Lprime an_Lprime cd_Lprime ct_Lprime), sl_Lprime⟩)
    (c_Lprime : PySem.W.codeIn K cd_Lprime "_law_prime" = true)
    (k_Lprime : PySem.W.keepIn K (.ref x_Lprime) = true)
    (a_Lplace : PySem.W.nsIn K mainGlobals "_law_place" = some (some (.ref x_Lplace)))
    (l_Lplace : K.lookup x_Lplace = some ⟨oc_Lplace, od_Lplace, .func (PySem.W.fnOf "_law_place" "_law_place" (defArgs s_Lplace) (defBody s_Lplace) (defScope s_Lplace) .none kV_Lplace dc_Lplace pm_Lplace an_Lplace cd_Lplace ct_Lplace), sl_Lplace⟩)
    (c_Lplace : PySem.W.codeIn K cd_Lplace "_law_place" = true)
    (k_Lplace : PySem.W.keepIn K (.ref x_Lplace) = true)
    (a_Lright : PySem.W.nsIn K mainGlobals "_law_right" = some (some (.ref x_Lright)))
    (l_Lright : K.lookup x_Lright = some ⟨oc_Lright, od_Lright, .func (PySem.W.fnOf "_law_right" "_law_right" (defArgs s_Lright) (defBody s_Lright) (defScope s_Lright) .none kV_Lright dc_Lright pm_Lright an_Lright cd_Lright ct_Lright), sl_Lright⟩)
    (c_Lright : PySem.W.codeIn K cd_Lright "_law_right" = true)
    (k_Lright : PySem.W.keepIn K (.ref x_Lright) = true)
    (a_law : PySem.W.nsIn K mainGlobals "law" = some (some (.ref x_law)))
    (l_law : K.lookup x_law = some ⟨oc_law, od_law, .func (PySem.W.fnOf "law" "law" (defArgs s_law) (defBody s_law) (defScope s_law) .none kV_law dc_law pm_law an_law cd_law ct_law), sl_law⟩)
    (c_law : PySem.W.codeIn K cd_law "law" = true)
    (k_law : PySem.W.keepIn K (.ref x_law) = true)
    (z_bool : PySem.W.nsIn K mainGlobals "bool" = some none)
    (z_int : PySem.W.nsIn K mainGlobals "int" = some none)
    (z_isinstance : PySem.W.nsIn K mainGlobals "isinstance" = some none)
    (z_len : PySem.W.nsIn K mainGlobals "len" = some none)
    (z_list : PySem.W.nsIn K mainGlobals "list" = some none)
    (z_max : PySem.W.nsIn K mainGlobals "max" = some none)
    (z_range : PySem.W.nsIn K mainGlobals "range" = some none)
    (z_sorted : PySem.W.nsIn K mainGlobals "sorted" = some none)
    (z_tuple : PySem.W.nsIn K mainGlobals "tuple" = some none) :
    ∃ a : Adr, Txt K mg a := by
  have F_x_at := fun_mk (st := s_x_at) l_x_at c_x_at k_x_at
  have F_points_at := fun_mk (st := s_points_at) l_points_at c_points_at k_points_at
  have F_Lcell_at := fun_mk (st := s_Lcell_at) l_Lcell_at c_Lcell_at k_Lcell_at
  have F_Lmixed := fun_mk (st := s_Lmixed) l_Lmixed c_Lmixed k_Lmixed
  have F_Lwhole := fun_mk (st := s_Lwhole) l_Lwhole c_Lwhole k_Lwhole
  have F_Lprime := fun_mk (st := s_Lprime) l_Lprime c_Lprime k_Lprime
  have F_Lplace := fun_mk (st := s_Lplace) l_Lplace c_Lplace k_Lplace
  have F_Lright := fun_mk (st := s_Lright) l_Lright c_Lright k_Lright
  have F_law := fun_mk (st := s_law) l_law c_law k_law
  exact ⟨⟨x_x_at, PySem.W.fnOf "x_at" "x_at" (defArgs s_x_at) (defBody s_x_at) (defScope s_x_at) .none kV_x_at dc_x_at pm_x_at an_x_at cd_x_at ct_x_at,
      x_points_at, PySem.W.fnOf "points_at" "points_at" (defArgs s_points_at) (defBody s_points_at) (defScope s_points_at) .none kV_points_at dc_points_at pm_points_at an_points_at cd_points_at ct_points_at,
      x_Lcell_at, PySem.W.fnOf "_law_cell_at" "_law_cell_at" (defArgs s_Lcell_at) (defBody s_Lcell_at) (defScope s_Lcell_at) .none kV_Lcell_at dc_Lcell_at pm_Lcell_at an_Lcell_at cd_Lcell_at ct_Lcell_at,
      x_Lmixed, PySem.W.fnOf "_law_mixed" "_law_mixed" (defArgs s_Lmixed) (defBody s_Lmixed) (defScope s_Lmixed) .none kV_Lmixed dc_Lmixed pm_Lmixed an_Lmixed cd_Lmixed ct_Lmixed,
      x_Lwhole, PySem.W.fnOf "_law_whole" "_law_whole" (defArgs s_Lwhole) (defBody s_Lwhole) (defScope s_Lwhole) .none kV_Lwhole dc_Lwhole pm_Lwhole an_Lwhole cd_Lwhole ct_Lwhole,
      x_Lprime, PySem.W.fnOf "_law_prime" "_law_prime" (defArgs s_Lprime) (defBody s_Lprime) (defScope s_Lprime) .none kV_Lprime dc_Lprime pm_Lprime an_Lprime cd_Lprime ct_Lprime,
      x_Lplace, PySem.W.fnOf "_law_place" "_law_place" (defArgs s_Lplace) (defBody s_Lplace) (defScope s_Lplace) .none kV_Lplace dc_Lplace pm_Lplace an_Lplace cd_Lplace ct_Lplace,
      x_Lright, PySem.W.fnOf "_law_right" "_law_right" (defArgs s_Lright) (defBody s_Lright) (defScope s_Lright) .none kV_Lright dc_Lright pm_Lright an_Lright cd_Lright ct_Lright,
      x_law, PySem.W.fnOf "law" "law" (defArgs s_law) (defBody s_law) (defScope s_law) .none kV_law dc_law pm_law an_law cd_law ct_law⟩,
    ⟨F_x_at, PySem.W.mg_of X G a_x_at, F_x_at.binds (ps := ["p", "slope", "place", "y"]) fun _ _ _ _ _ _ us hl => match us, hl with | [_, _, _, _], _ => rfl,
      F_points_at, PySem.W.mg_of X G a_points_at, F_points_at.binds (ps := ["p", "slope", "place"]) fun _ _ _ _ _ _ us hl => match us, hl with | [_, _, _], _ => rfl,
      F_Lcell_at, PySem.W.mg_of X G a_Lcell_at, F_Lcell_at.binds (ps := ["_law_script", "_law_k"]) fun _ _ _ _ _ _ us hl => match us, hl with | [_, _], _ => rfl,
      F_Lmixed, PySem.W.mg_of X G a_Lmixed, F_Lmixed.binds (ps := ["_law_script", "_law_k", "_law_salt"]) fun _ _ _ _ _ _ us hl => match us, hl with | [_, _, _], _ => rfl,
      F_Lwhole, PySem.W.mg_of X G a_Lwhole, F_Lwhole.binds (ps := ["_law_found"]) fun _ _ _ _ _ _ us hl => match us, hl with | [_], _ => rfl,
      F_Lprime, PySem.W.mg_of X G a_Lprime, F_Lprime.binds (ps := ["_law_number", "_law_most"]) fun _ _ _ _ _ _ us hl => match us, hl with | [_, _], _ => rfl,
      F_Lplace, PySem.W.mg_of X G a_Lplace, F_Lplace.binds (ps := ["_law_p", "_law_slope", "_law_point"]) fun _ _ _ _ _ _ us hl => match us, hl with | [_, _, _], _ => rfl,
      F_Lright, PySem.W.mg_of X G a_Lright, F_Lright.binds (ps := ["_law_p", "_law_slope", "_law_place_here"]) fun _ _ _ _ _ _ us hl => match us, hl with | [_, _, _], _ => rfl,
      F_law, PySem.W.mg_of X G a_law, F_law.binds (ps := ["_law_script"]) fun _ _ _ _ _ _ us hl => match us, hl with | [_], _ => rfl,
      PySem.W.mg_none_of X G z_bool,
      PySem.W.mg_none_of X G z_int,
      PySem.W.mg_none_of X G z_isinstance,
      PySem.W.mg_none_of X G z_len,
      PySem.W.mg_none_of X G z_list,
      PySem.W.mg_none_of X G z_max,
      PySem.W.mg_none_of X G z_range,
      PySem.W.mg_none_of X G z_sorted,
      PySem.W.mg_none_of X G z_tuple⟩⟩
end My
open PySem PySem.W PyProof.Rows
set_option maxRecDepth 100000 in
set_option maxHeartbeats 0 in
theorem PySem.Challenge.cw_layersplit_k06_points_of_a_place_holds : PySem.Challenge.rw_layersplit_k06_points_of_a_place.Holds := by
  w_on; o_law; k_head; (case hw => w_witness2)
  k_fill
  refine L2.walk_ofK (l := PySem.Challenge.rw_layersplit_k06_points_of_a_place) (n := 63) (k := 4) (x := "_law_script") (CX := L2.CX0) (sp := My.spLaw) rfl (by decide) rfl ⟨rfl, by decide, by decide⟩ (fun w h Y => PySem.W.kIn_of Y) ?F ?S ?C
  case F =>
    intro w mg fa h KX G hmg
    have T : ∃ a : My.Adr, My.Txt (L2.KOf KX) mg a := by
      dsimp only [L2.KOf]
      refine' My.all_mk KX G ?a_x_at ?l_x_at ?c_x_at ?k_x_at ?a_points_at ?l_points_at ?c_points_at ?k_points_at ?a_Lcell_at ?l_Lcell_at ?c_Lcell_at ?k_Lcell_at ?a_Lmixed ?l_Lmixed ?c_Lmixed ?k_Lmixed ?a_Lwhole ?l_Lwhole ?c_Lwhole ?k_Lwhole ?a_Lprime ?l_Lprime ?c_Lprime ?k_Lprime ?a_Lplace ?l_Lplace ?c_Lplace ?k_Lplace ?a_Lright ?l_Lright ?c_Lright ?k_Lright ?a_law ?l_law ?c_law ?k_law ?z_bool ?z_int ?z_isinstance ?z_len ?z_list ?z_max ?z_range ?z_sorted ?z_tuple
      (case a_x_at => k_is); (case l_x_at => k_is); (case c_x_at => k_is); (case k_x_at => k_is); (case a_points_at => k_is); (case l_points_at => k_is); (case c_points_at => k_is); (case k_points_at => k_is)
      (case a_Lcell_at => k_is); (case l_Lcell_at => k_is); (case c_Lcell_at => k_is); (case k_Lcell_at => k_is); (case a_Lmixed => k_is); (case l_Lmixed => k_is); (case c_Lmixed => k_is); (case k_Lmixed => k_is)
      (case a_Lwhole => k_is); (case l_Lwhole => k_is); (case c_Lwhole => k_is); (case k_Lwhole => k_is); (case a_Lprime => k_is); (case l_Lprime => k_is); (case c_Lprime => k_is); (case k_Lprime => k_is)
      (case a_Lplace => k_is); (case l_Lplace => k_is); (case c_Lplace => k_is); (case k_Lplace => k_is); (case a_Lright => k_is); (case l_Lright => k_is); (case c_Lright => k_is); (case k_Lright => k_is)
      (case a_law => k_is); (case l_law => k_is); (case c_law => k_is); (case k_law => k_is); (case z_bool => k_is); (case z_int => k_is); (case z_isinstance => k_is); (case z_len => k_is)
      (case z_list => k_is); (case z_max => k_is); (case z_range => k_is); (case z_sorted => k_is); (case z_tuple => k_is)
    obtain ⟨a, T⟩ := T
    have e0 := hmg.symm.trans T.m_law
    cases e0
    exact ⟨a.fd_law, My.law_binds T, fun base kb nb => My.ok_law T⟩
  case S => exact fun K H a ns hl hO hS => My.law_start hl hS
  case C => exact fun _ _ _ _ z => z
#print axioms PySem.Challenge.cw_layersplit_k06_points_of_a_place_holds
