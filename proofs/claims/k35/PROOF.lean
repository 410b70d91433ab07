import PyProof.Rows.All
import Wide.All
import OpenK.AllK
import Wide.FinOn
import Lean
import PyProof.EqAt
import PyProof.EqKinds
import PyProof.TupleCall
import PySem.Challenge.RW_layersplit_k35_deeds_read
set_option Elab.async false
set_option linter.all false
set_option maxRecDepth 100000
namespace L2
open PySem PySem.Spec PyProof.Rows
abbrev Key := Sum Int Str
def keyIs : Key → Value → Bool
  | .inl k, v => Value.isInt k v
  | .inr x, v => Value.isStrOf x v
def keyH (w : World) : Key → Int
  | .inl k => hashInt k
  | .inr x => hashStr w x
theorem keyIs_shape : ∀ {k : Key} {v : Value}, keyIs k v = true → (∃ i t, k = Sum.inl i ∧ v = Value.int i t) ∨ (∃ x t, k = Sum.inr x ∧ v = Value.str x t)
  | .inl i, v, h => by
    obtain ⟨t, e⟩ := Value.isInt_shape (k := i) (v := v) h
    exact .inl ⟨i, t, rfl, e⟩
  | .inr x, v, h => by
    obtain ⟨t, e⟩ := Value.isStrOf_shape (x := x) (v := v) h
    exact .inr ⟨x, t, rfl, e⟩
theorem keyIs_int (i : Int) (t : Tok) : keyIs (.inl i) (.int i t) = true := by simp [keyIs, Value.isInt]
theorem keyIs_str (x : Str) (t : Tok) : keyIs (.inr x) (.str x t) = true := by simp [keyIs, Value.isStrOf]
theorem key_ll (a b : Int) : decide ((Sum.inl a : Key) = Sum.inl b) = (a == b) := by
  by_cases e : a = b
  · subst e; simp
  · have h : ¬ (Sum.inl a : Key) = Sum.inl b := fun q => e (Sum.inl.inj q)
    rw [decide_eq_false h]
    exact (beq_eq_false_iff_ne.mpr e).symm
theorem key_rr (a b : Str) : decide ((Sum.inr a : Key) = Sum.inr b) = decide (a = b) := by
  by_cases e : a = b
  · subst e; simp
  · have h : ¬ (Sum.inr a : Key) = Sum.inr b := fun q => e (Sum.inr.inj q)
    rw [decide_eq_false h, decide_eq_false e]
theorem key_lr (a : Int) (b : Str) : decide ((Sum.inl a : Key) = Sum.inr b) = false := decide_eq_false (fun q => nomatch q)
theorem key_rl (a : Str) (b : Int) : decide ((Sum.inr a : Key) = Sum.inl b) = false := decide_eq_false (fun q => nomatch q)
def mixKind (prog : Program) (w : World) : PySem.KeyKind prog w Key where
  is := keyIs
  hash := keyH w
  inj := fun v a b ha hb => by
    rcases keyIs_shape ha with ⟨i, t, rfl, rfl⟩ | ⟨x, t, rfl, rfl⟩
    · rcases keyIs_shape hb with ⟨j, u, rfl, e⟩ | ⟨y, u, rfl, e⟩
      · injection e with e1 _; rw [e1]
      · exact nomatch e
    · rcases keyIs_shape hb with ⟨j, u, rfl, e⟩ | ⟨y, u, rfl, e⟩
      · exact nomatch e
      · injection e with e1 _; rw [e1]
  byValue := fun k v h => by
    rcases keyIs_shape h with ⟨i, t, rfl, rfl⟩ | ⟨x, t, rfl, rfl⟩ <;> rfl
  pyHash := fun hv h => by
    rcases keyIs_shape hv with ⟨i, t, rfl, rfl⟩ | ⟨x, t, rfl, rfl⟩
    · exact wpAny_pyHash_int h
    · exact wpAny_pyHash_str h
  eqBool := fun hu hv h => by
    rcases keyIs_shape hu with ⟨i, t, rfl, rfl⟩ | ⟨x, t, rfl, rfl⟩
    · rcases keyIs_shape hv with ⟨j, u, rfl, rfl⟩ | ⟨y, u, rfl, rfl⟩
      · rw [key_ll] at h; exact wpAny_eqBool_int h
      · rw [key_lr] at h; exact SeqAt.EqAt.int_str i t y u _ _ _ _ h
    · rcases keyIs_shape hv with ⟨j, u, rfl, rfl⟩ | ⟨y, u, rfl, rfl⟩
      · rw [key_rl] at h; exact SeqAt.EqAt.str_int x t j u _ _ _ _ h
      · rw [key_rr] at h; exact wpAny_eqBool_str h
  «strs» := fun k x t v h => by
    rcases keyIs_shape h with ⟨i, u, rfl, e⟩ | ⟨y, u, rfl, e⟩
    · exact nomatch e
    · injection e with e1 _
      subst e1
      cases v <;> rfl
theorem mixKind_is (prog : Program) (w : World) (k : Key) (v : Value) : (mixKind prog w).is k v = keyIs k v := rfl
theorem mixKind_int (prog : Program) (w : World) (i : Int) (t : Tok) : (mixKind prog w).is (.inl i) (.int i t) = true := keyIs_int i t
theorem mixKind_str (prog : Program) (w : World) (x : Str) (t : Tok) : (mixKind prog w).is (.inr x) (.str x t) = true := keyIs_str x t
end L2
namespace L2
open PySem PySem.Spec PyProof.Rows
inductive V where
  | non | bl (b : Bool) | int (i : Int) | str (x : Str) | byt (b : Array UInt8) | flt (b : UInt64) | ref (a : Addr) | ty (n : String)
  deriving DecidableEq
def RelV : V → Value → Prop
  | .non, u => u = Value.none
  | .bl b, u => u = Value.bool b
  | .int i, u => ∃ t, u = Value.int i t
  | .str x, u => ∃ t, u = Value.str x t
  | .byt b, u => ∃ t, u = Value.bytes b t
  | .flt b, u => ∃ t, u = Value.float b t
  | .ref a, u => u = Value.ref a
  | .ty n, u => u = Value.type n
abbrev Vals : List V → List Value → Prop := Paired RelV
theorem Vals.length {xs : List V} {us : List Value} (r : Vals xs us) : xs.length = us.length := Paired.length r
theorem Vals.get : ∀ {xs : List V} {us : List Value} {i : Nat} {x : V}, Vals xs us → xs[i]? = some x → ∃ u, us[i]? = some u ∧ RelV x u
  | _, _, _, _, .nil, e => by simp at e
  | _, _, 0, _, .cons r _, e => by simp at e; subst e; exact ⟨_, rfl, r⟩
  | _, _, i + 1, x, .cons _ t, e => by
    obtain ⟨u, h1, h2⟩ := Vals.get (i := i) (x := x) t (by simpa using e)
    exact ⟨u, by simpa using h1, h2⟩
theorem Vals.set {x : V} {u : Value} (r : RelV x u) : ∀ {xs : List V} {us : List Value} (i : Nat), Vals xs us → Vals (xs.set i x) (us.set i u)
  | _, _, _, .nil => .nil
  | _, _, 0, .cons _ t => .cons r t
  | _, _, i + 1, .cons q t => .cons q (Vals.set r i t)
theorem Vals.append : ∀ {xs ys : List V} {us ws : List Value}, Vals xs us → Vals ys ws → Vals (xs ++ ys) (us ++ ws)
  | _, _, _, _, .nil, s => s
  | _, _, _, _, .cons r t, s => .cons r (Vals.append t s)
theorem Vals.take : ∀ {xs : List V} {us : List Value} (n : Nat), Vals xs us → Vals (xs.take n) (us.take n)
  | _, _, 0, _ => .nil
  | _, _, _ + 1, .nil => .nil
  | _, _, n + 1, .cons r t => .cons r (Vals.take n t)
theorem Vals.drop : ∀ {xs : List V} {us : List Value} (n : Nat), Vals xs us → Vals (xs.drop n) (us.drop n)
  | _, _, 0, r => r
  | _, _, _ + 1, .nil => .nil
  | _, _, n + 1, .cons _ t => Vals.drop n t
def RelO : Option V → Option Value → Prop
  | some v, some u => RelV v u
  | none, none => True
  | _, _ => False
def KV {κ : Type} : List (κ × V) → List (κ × Value) → Prop := Paired fun (p : κ × V) (q : κ × Value) => p.1 = q.1 ∧ RelV p.2 q.2
def kV : Key → V
  | .inl i => .int i
  | .inr x => .str x
inductive HO where
  | lst (xs : List V)
  | tup (xs : List V)
  | dK (kvs : List (Key × V)) | dT (kvs : List (List Key × V))
  | set (S : Int → Bool) (n : Nat)
  | ins (C dx : Addr) (fs : List (Str × V))
  | own (x : Addr)
  | xd (fs : List (Str × V))
  | met (f x : Addr)
  | rng (lo hi : Int)
  | frz (o : Obj) (u : HO)
  | tbl (ps : Array Value)
  | ext (φ : Heap → Prop)
abbrev Hp := Addr → Option HO
def upd (H : Hp) (a : Addr) (o : HO) : Hp := fun b => if b = a then some o else H b
theorem upd_same {H : Hp} {a : Addr} {o : HO} : upd H a o a = some o := by unfold upd; rw [if_pos rfl]
theorem upd_ne {H : Hp} {a b : Addr} {o : HO} (h : b ≠ a) : upd H a o b = H b := by unfold upd; rw [if_neg h]
theorem upd_upd {H : Hp} {a : Addr} {o u : HO} : upd (upd H a o) a u = upd H a u := by
  funext b; unfold upd; split <;> rfl
theorem ne_of_none {H : Hp} {a b : Addr} {o : HO} (h : H a = some o) (h' : H b = none) : a ≠ b := by
  intro e; subst e; rw [h] at h'; cases h'
section
variable (P : Program) (w : World)
def ObjOk (H : Hp) (h : Heap) (a : Addr) : HO → Prop
  | .lst xs => xs.length ≤ sizeLine ∧ ∃ (its : List Value) (n : Nat), Vals xs its ∧ h.get? a = some { cls := .type "list", data := .seq its.toArray n }
  | .tup xs => xs.length ≤ sizeLine ∧ ∃ its : List Value, Vals xs its ∧ IsTup h a its.toArray
  | .dK kvs => kvs.length ≤ sizeLine ∧ (a == sysModules) = false ∧ ∃ vs, KV kvs vs ∧ h.DictOf (mixKind P w) a vs
  | .dT kvs => kvs.length ≤ sizeLine ∧ (a == sysModules) = false ∧ ∃ xs : List (List Key × Addr × Value),
      Paired (fun (p : List Key × V) (q : List Key × Addr × Value) => p.1 = q.1 ∧ H q.2.1 = some (.tup (p.1.map kV)) ∧ RelV p.2 q.2.2) kvs xs ∧
      ∃ o es ep, h.get? a = some o ∧ o.ExactDict ∧ o.data = .dict es ep ∧ es.toList = xs.map (entryOfKey (tupleKind (mixKind P w))) ∧ (xs.map (·.1)).Nodup
  | .set S n => h.SetOf (intKind P w) a S n
  | .ins C dx fs => H dx = some (.own a) ∧ fs.length ≤ 1000 ∧ dx ≠ a ∧ h.get? a = some (PySem.W.instObj C dx) ∧
      ∃ mA, h.Ns1 dx mA ∧ (∀ f, RelO (fs.lookup f) (mA f)) ∧ PySem.Within mA (fs.map (·.1))
  | .own _ => ∃ o, h.get? a = some o
  | .xd fs => ∃ mA, h.Ns1 a mA ∧ ∀ f, RelO (fs.lookup f) (mA f)
  | .rng lo hi => ∃ t u v, h.get? a = some { cls := .type "range", data := .fields #[.int lo t, .int hi u, .int 1 v] }
  | .frz o u => h.get? a = some o ∧ ObjOk H h a u
  | .tbl ps => h.get? a = some { cls := .none, data := .fields ps }
  | .met f x => h.get? a = some (PySem.W.methodObj (.ref f) (.ref x))
  | .ext φ => φ h ∧ (∃ o, h.get? a = some o) ∧ ∀ h1 h2 : Heap, φ h1 → (∀ o, h1.get? a = some o → h2.get? a = some o) → φ h2
def HOk (H : Hp) (h : Heap) : Prop := ∀ a o, H a = some o → ObjOk P w H h a o
end
section
variable {P : Program} {w : World} {H H' : Hp} {h h' : Heap} {a : Addr} {o : HO}
theorem ObjOk.lt (x : ObjOk P w H h a o) : a < h.objs.size := by
  cases o with
  | lst xs => obtain ⟨_, _, _, _, e⟩ := x; exact Heap.lt_size e
  | tup xs => obtain ⟨_, _, _, p⟩ := x; exact p.lt
  | dK kvs => obtain ⟨_, _, _, _, o, _, _, e, _⟩ := x; exact Heap.lt_size e
  | dT kvs => obtain ⟨_, _, _, _, o, _, _, e, _⟩ := x; exact Heap.lt_size e
  | set S n => obtain ⟨o, _, _, _, e, _⟩ := x; exact Heap.lt_size e
  | ins C dx fs => obtain ⟨_, _, _, e, _⟩ := x; exact Heap.lt_size e
  | own y => obtain ⟨_, e⟩ := x; exact Heap.lt_size e
  | xd fs => obtain ⟨_, ⟨_, _, _, e, _⟩, _⟩ := x; exact Heap.lt_size e
  | rng lo hi => obtain ⟨_, _, _, e⟩ := x; exact Heap.lt_size e
  | frz ob u => obtain ⟨e, _⟩ := x; exact Heap.lt_size e
  | tbl ps => exact Heap.lt_size (show h.get? a = some _ from x)
  | met f y => exact Heap.lt_size (show h.get? a = some _ from x)
  | ext φ => obtain ⟨_, ⟨_, e⟩, _⟩ := x; exact Heap.lt_size e
theorem Paired.mapP {α β : Type} {F G : α → β → Prop} : ∀ {l₁ : List α} {l₂ : List β}, Paired F l₁ l₂ → (∀ a b, F a b → G a b) → Paired G l₁ l₂
  | _, _, .nil, _ => .nil
  | _, _, .cons r t, f => .cons (f _ _ r) (Paired.mapP t f)
theorem ObjOk.stay (x : ObjOk P w H h a o) (k : ∀ b u, (b = a ∨ H b = some (.own a)) → h.get? b = some u → h'.get? b = some u)
    (ho : ∀ b, H b = some (.own a) → H' b = some (.own a)) (ht : ∀ b xs, H b = some (.tup xs) → H' b = some (.tup xs)) : ObjOk P w H' h' a o := by
  induction o with
  | lst xs => obtain ⟨z, its, n, r, e⟩ := x; exact ⟨z, its, n, r, k _ _ (.inl rfl) e⟩
  | tup xs => obtain ⟨z, its, r, ob, e, c⟩ := x; exact ⟨z, its, r, ob, k _ _ (.inl rfl) e, c⟩
  | dK kvs => obtain ⟨z, y, vs, r, ob, es, ep, e, c⟩ := x; exact ⟨z, y, vs, r, ob, es, ep, k _ _ (.inl rfl) e, c⟩
  | dT kvs =>
    obtain ⟨z, y, xs, r, ob, es, ep, e, c⟩ := x
    exact ⟨z, y, xs, Paired.mapP r fun p q z => ⟨z.1, ht _ _ z.2.1, z.2.2⟩, ob, es, ep, k _ _ (.inl rfl) e, c⟩
  | set S n => obtain ⟨ob, es, ep, t, e, c⟩ := x; exact ⟨ob, es, ep, t, k _ _ (.inl rfl) e, c⟩
  | ins C dx fs =>
    obtain ⟨d, z, ne, e, mA, ⟨od, es, ep, e2, c⟩, r⟩ := x
    exact ⟨ho _ d, z, ne, k _ _ (.inl rfl) e, mA, ⟨od, es, ep, k _ _ (.inr d) e2, c⟩, r⟩
  | own y => obtain ⟨ob, e⟩ := x; exact ⟨ob, k _ _ (.inl rfl) e⟩
  | xd fs => obtain ⟨mA, ⟨od, es, ep, e, c⟩, r⟩ := x; exact ⟨mA, ⟨od, es, ep, k _ _ (.inl rfl) e, c⟩, r⟩
  | rng lo hi => obtain ⟨t, u, v, e⟩ := x; exact ⟨t, u, v, k _ _ (.inl rfl) e⟩
  | frz ob u ih => obtain ⟨e, q⟩ := x; exact ⟨k _ _ (.inl rfl) e, ih q⟩
  | tbl ps =>
    have e : h.get? a = some { cls := .none, data := .fields ps } := x
    show h'.get? a = some { cls := .none, data := .fields ps }
    exact k a _ (.inl rfl) e
  | met f y =>
    have e : h.get? a = some (PySem.W.methodObj (.ref f) (.ref y)) := x
    show h'.get? a = some (PySem.W.methodObj (.ref f) (.ref y))
    exact k a _ (.inl rfl) e
  | ext φ => obtain ⟨p, ⟨o, e⟩, st⟩ := x; exact ⟨st _ _ p fun o q => k _ _ (.inl rfl) q, ⟨o, k _ _ (.inl rfl) e⟩, st⟩
theorem HOk.lt (x : HOk P w H h) (e : H a = some o) : a < h.objs.size := (x a o e).lt
theorem HOk.fresh (x : HOk P w H h) (e : h.objs.size ≤ a) : H a = none := by
  cases q : H a with
  | none => rfl
  | some u => exact absurd (Nat.lt_of_lt_of_le (x.lt q) e) (Nat.lt_irrefl _)
theorem HOk.kept (x : HOk P w H h) (k : ∀ b u, h.get? b = some u → h'.get? b = some u) : HOk P w H h' := fun a o e =>
  (x a o e).stay (fun b u _ q => k b u q) (fun _ q => q) fun _ _ q => q
theorem HOk.laid (x : HOk P w H h) (k : ∀ b u, h.get? b = some u → h'.get? b = some u) (hp : h.objs.size ≤ a) (new : ObjOk P w (upd H a o) h' a o) : HOk P w (upd H a o) h' := fun b u e => by
  have hn := x.fresh hp
  by_cases hb : b = a
  · subst hb; rw [upd_same] at e; cases e; exact new
  · rw [upd_ne hb] at e
    exact (x b u e).stay (fun c v _ q => k c v q) (fun c q => by rw [upd_ne (ne_of_none q hn)]; exact q) fun c xs q => by rw [upd_ne (ne_of_none q hn)]; exact q
end
def Rd (H : Hp) (a : Addr) (u : HO) : Prop := H a = some u ∨ ∃ o, H a = some (.frz o u)
theorem Rd.of {H : Hp} {a : Addr} {u : HO} (h : H a = some u) : Rd H a u := .inl h
theorem Rd.ok {P : Program} {w : World} {H : Hp} {h : Heap} {a : Addr} {u : HO} (r : Rd H a u) (x : HOk P w H h) : ObjOk P w H h a u := by
  rcases r with r | ⟨o, r⟩
  · exact x a u r
  · obtain ⟨_, q⟩ := x a _ r
    exact q
def Mut : Option HO → Prop
  | some (.lst _) => True
  | some (.dK _) => True
  | some (.dT _) => True
  | some (.set _ _) => True
  | some (.ins _ _ _) => True
  | some (.ext _) => True
  | _ => False
section
variable {P : Program} {w : World} {H : Hp} {h h' : Heap} {x e : Addr} {o' : HO}
theorem HOk.write (ok : HOk P w H h) (mu : Mut (H x)) (he : e = x ∨ H e = some (.own x)) (k : ∀ b u, b ≠ e → h.get? b = some u → h'.get? b = some u) (heo : ∃ u, h'.get? e = some u)
    (new : ObjOk P w (upd H x o') h' x o') : HOk P w (upd H x o') h' := fun b u q => by
  have nown : ∀ c y, H c = some (.own y) → c ≠ x := fun c y r z => by subst z; rw [r] at mu; exact mu
  have ntup : ∀ c xs, H c = some (.tup xs) → c ≠ x := fun c xs r z => by subst z; rw [r] at mu; exact mu
  by_cases hb : b = x
  · subst hb; rw [upd_same] at q; cases q; exact new
  · rw [upd_ne hb] at q
    by_cases hbe : b = e
    · have q' : H b = some (.own x) := by
        rcases he with z | z
        · exact absurd (hbe.trans z) hb
        · rw [hbe]; exact z
      rw [q] at q'; cases q'
      obtain ⟨v, hv⟩ := heo
      exact ⟨v, by rw [hbe]; exact hv⟩
    · refine (ok b u q).stay (fun c v hc r => k c v ?_ r) (fun c r => by rw [upd_ne (nown c b r)]; exact r) fun c xs r => by rw [upd_ne (ntup c xs r)]; exact r
      rcases hc with rfl | hc
      · exact hbe
      · rintro rfl
        rcases he with z | z
        · exact nown c b hc z
        · rw [hc] at z; cases z; exact hb rfl
end
structure Un (fs ex : List Addr) (H H' : Hp) (h h' : Heap) : Prop where
  keep : ∀ b o, h.get? b = some o → H b = none → b ∉ fs → b ∉ ex → h'.get? b = some o
  slot : ∀ b o, h.get? b = some o → H b = none → b ∈ fs → b ∉ ex → ∃ sl, h'.get? b = some { o with slots := sl }
  free : ∀ b o, h.get? b = some o → H b = none → b ∉ ex → H' b = none
  there : ∀ b o, h.get? b = some o → b ∉ ex → ∃ o', h'.get? b = some o'
  tups : ∀ b xs, H b = some (.tup xs) → H' b = some (.tup xs)
  frzs : ∀ b o u, H b = some (.frz o u) → H' b = some (.frz o u)
  tbls : ∀ b ps, H b = some (.tbl ps) → ∃ more, H' b = some (.tbl (ps ++ more))
section
variable {fs fs' ex ex' : List Addr} {H H1 H2 : Hp} {h h1 h2 h' : Heap} {a x e : Addr} {o : HO}
theorem Un.any (u : Un fs ex H H1 h h1) {b : Addr} {ob : Obj} (q : h.get? b = some ob) (n : H b = none) (hx : b ∉ ex) : ∃ sl, h1.get? b = some { ob with slots := sl } := by
  by_cases hb : b ∈ fs
  · exact u.slot b ob q n hb hx
  · exact ⟨ob.slots, u.keep b ob q n hb hx⟩
theorem Un.trans (a : Un fs ex H H1 h h1) (b : Un fs ex H1 H2 h1 h2) : Un fs ex H H2 h h2 where
  keep := fun c ob q n hc hx => b.keep c ob (a.keep c ob q n hc hx) (a.free c ob q n hx) hc hx
  slot := fun c ob q n hc hx => by
    obtain ⟨sl, e1⟩ := a.slot c ob q n hc hx
    obtain ⟨sl', e2⟩ := b.slot c _ e1 (a.free c ob q n hx) hc hx
    exact ⟨sl', e2⟩
  free := fun c ob q n hx => by
    obtain ⟨o', e1⟩ := a.there c ob q hx
    exact b.free c o' e1 (a.free c ob q n hx) hx
  there := fun c ob q hx => by
    obtain ⟨o', e1⟩ := a.there c ob q hx
    exact b.there c o' e1 hx
  tups := fun c xs q => b.tups c xs (a.tups c xs q)
  frzs := fun c ob xs q => b.frzs c ob xs (a.frzs c ob xs q)
  tbls := fun c ps q => by
    obtain ⟨m1, e1⟩ := a.tbls c ps q
    obtain ⟨m2, e2⟩ := b.tbls c _ e1
    exact ⟨m1 ++ m2, by rw [e2, Array.append_assoc]⟩
theorem Un.kept (k : ∀ b u, h.get? b = some u → h'.get? b = some u) : Un fs ex H H h h' :=
  ⟨fun b ob q _ _ _ => k b ob q, fun b ob q _ _ _ => ⟨ob.slots, k b ob q⟩, fun _ _ _ n _ => n, fun b ob q _ => ⟨ob, k b ob q⟩, fun _ _ q => q, fun _ _ _ q => q, fun _ ps q => ⟨#[], by rw [q]; simp⟩⟩
theorem Un.refl : Un fs ex H H h h := Un.kept fun _ _ q => q
theorem Un.laid (k : ∀ b u, h.get? b = some u → h'.get? b = some u) (hp : h.objs.size ≤ a) (hn : H a = none) : Un fs ex H (upd H a o) h h' where
  keep := fun b u q _ _ _ => k b u q
  slot := fun b u q _ _ _ => ⟨u.slots, k b u q⟩
  free := fun b u q n _ => by rw [upd_ne (Nat.ne_of_lt (Nat.lt_of_lt_of_le (Heap.lt_size q) hp))]; exact n
  there := fun b u q _ => ⟨u, k b u q⟩
  tups := fun b xs q => by rw [upd_ne (ne_of_none q hn)]; exact q
  frzs := fun b u xs q => by rw [upd_ne (ne_of_none q hn)]; exact q
  tbls := fun b ps q => ⟨#[], by rw [upd_ne (ne_of_none q hn), q]; simp⟩
theorem Un.write (mu : Mut (H x)) (he : e = x ∨ H e = some (.own x)) (k : ∀ b u, b ≠ e → h.get? b = some u → h'.get? b = some u) (heo : ∃ u, h'.get? e = some u) : Un fs ex H (upd H x o) h h' := by
  have hx : ∀ b, H b = none → b ≠ x := fun b n z => by subst z; rw [n] at mu; exact mu
  have hb : ∀ b, H b = none → b ≠ e := fun b n z => by
    subst z
    rcases he with r | r
    · exact hx b n r
    · rw [n] at r; cases r
  have hm : ∀ b u, H b = some u → ¬ Mut (some u) → b ≠ x := fun b u q nm z => by subst z; rw [q] at mu; exact nm mu
  refine ⟨fun b u q n _ _ => k b u (hb b n) q, fun b u q n _ _ => ⟨u.slots, k b u (hb b n) q⟩, fun b u q n _ => by rw [upd_ne (hx b n)]; exact n, fun b u q _ => ?_,
    fun b xs q => by rw [upd_ne (hm b _ q fun z => z)]; exact q, fun b u xs q => by rw [upd_ne (hm b _ q fun z => z)]; exact q, fun b ps q => ⟨#[], by rw [upd_ne (hm b _ q fun z => z), q]; simp⟩⟩
  by_cases hbe : b = e
  · subst hbe; exact heo
  · exact ⟨u, k b u hbe q⟩
theorem Un.mono (u : Un fs ex H H1 h h1) (hs : ∀ b ∈ fs, b ∈ fs') (hx : ∀ b ∈ ex, b ∈ ex') : Un fs' ex' H H1 h h1 :=
  ⟨fun b ob q n hb he => u.keep b ob q n (fun z => hb (hs b z)) fun z => he (hx b z), fun _ _ q n _ he => u.any q n fun z => he (hx _ z), fun b ob q n he => u.free b ob q n fun z => he (hx b z), fun b ob q he => u.there b ob q fun z => he (hx b z), u.tups, u.frzs, u.tbls⟩
end
def trk (h : Heap) (H : Hp) : List Addr := (List.range h.objs.size).filter fun a => (H a).isSome
def hidT (h : Heap) (H : Hp) : Heap := PySem.W.hideAll h (trk h H)
theorem hidT_size (h : Heap) (H : Hp) : (hidT h H).objs.size = h.objs.size := PySem.W.hideAll_size _ _
theorem hidT_get {h : Heap} {H : Hp} {b : Addr} {o : Obj} (e : h.get? b = some o) (n : H b = none) : (hidT h H).get? b = some o :=
  PySem.W.hideAll_get _ e fun hm => by
    have q : (H b).isSome = true := (List.mem_filter.mp hm).2
    rw [n] at q; simp at q
theorem of_hidT {h : Heap} {H : Hp} {b : Addr} {o : Obj} (e : (hidT h H).get? b = some o) : h.get? b = some o ∧ H b = none := by
  have e' : h.get? b = some o := PySem.W.of_hideAll (trk h H) e
  refine ⟨e', ?_⟩
  cases q : H b with
  | none => rfl
  | some x =>
    have hm : b ∈ trk h H := List.mem_filter.mpr ⟨List.mem_range.mpr (Heap.lt_size e'), by simp [q]⟩
    have z : (hidT h H).get? b = none := PySem.W.hideAll_none (trk h H) hm
    rw [z] at e; cases e
def allNews (g h : Heap) (L : Addr) : List (Addr × Obj) := (List.range h.objs.size).filterMap fun a => if a = L ∨ (g.get? a).isSome = true then none else (h.get? a).map fun o => (a, o)
def rest (g h : Heap) (L d : Addr) : List (Addr × Obj) := (allNews g h L).filter fun p => decide (p.1 ≠ d)
end L2
namespace L2
open PySem PySem.Spec PyProof.Rows
structure Mod (K : PySem.W.Frag) (mg : Str → Option Value) (base : Heap) : Prop where
  kin : K.In base
  glob : base.Ns mainGlobals mg
  blt : ∃ mb, base.Ns builtinsNs mb ∧ ∀ x : Str, x ≠ "__name__" → mb x = bootBuiltins x
  nolimit : base.NoLimit
structure Cx where
  prog : Program
  w : World
  K : PySem.W.Frag
  mg : Str → Option Value
  base : Heap
  A : Around
  N : List Str
  s₀ : Shared
  H₀ : Hp
  env : Env
  outer : List Env
  stack : List Env
  ex : List Addr
  fn : Str → Bool
  calm : Bool
  pn : List (Addr × Obj)
  xe : Value → Shared → Prop
def frs (l : List Env) : List Addr := l.filterMap (·.frame)
abbrev Cx.fs (X : Cx) : List Addr := frs X.outer
def Vis (sc : Scope) (x : Str) : Prop := sc.names.lookup x = some .local ∨ sc.names.lookup x = some .cell ∨ sc.names.lookup x = some .free
def Loc (sc : Scope) (x : Str) : Prop := sc.names.lookup x = some .local ∨ sc.names.lookup x = some .cell
def Look (env : Env) (h : Heap) (m : Str → Option Value) (x : Str) (u : Value) : Prop :=
  (env.kindOf x = some .local ∧ m x = some u) ∨ ((env.kindOf x = some .cell ∨ env.kindOf x = some .free) ∧ ∃ c, env.cells.lookup x = some c ∧ h.IsCell c (some u))
structure Cx.Ok (X : Cx) : Prop where
  mod : Mod X.K X.mg X.base
  kind : X.env.scope.kind = .function
  glob : X.env.globals = mainGlobals
  blt : X.env.builtins = builtinsNs
  above : X.s₀.heap.objs.size ≤ X.env.locals
  inj : ∀ x y c, X.env.cells.lookup x = some c → X.env.cells.lookup y = some c → x = y
  has : ∀ x, (X.env.kindOf x = some .cell ∨ X.env.kindOf x = some .free) → ∃ c, X.env.cells.lookup x = some c
  cab : ∀ x c, X.fn x = true → X.env.cells.lookup x = some c → X.s₀.heap.objs.size ≤ c
  hd : X.calm = true → X.A.handled = none
  frames : X.A.frames = some X.stack
  stk : X.stack = X.outer ∨ (X.stack = X.env :: X.outer ∧ X.env.frame = some X.env.locals)
  exf : ∀ b ∈ X.ex, b ≠ X.env.locals ∧ ∀ x c, X.env.cells.lookup x = some c → c ≠ b
  bs : ∀ b o, X.base.get? b = some o → X.s₀.heap.get? b = some o ∧ X.H₀ b = none
  bsz : X.base.objs.size ≤ X.s₀.heap.objs.size
  noex : ∀ b o, X.base.get? b = some o → b ∉ X.ex
  exfs : ∀ b ∈ X.ex, b ∉ X.fs
  funs : X.s₀.heap.FunFrames X.base X.outer
  frf : ∀ b ∈ X.fs, X.H₀ b = none
structure Inv (X : Cx) (pins : List (Addr × Obj)) (σ : List (Option V)) (H : Hp) (s : Shared) : Prop where
  ok : X.Ok
  os : s.os = X.s₀.os
  bare : AllBare s.gens
  base : Un X.fs X.ex X.H₀ H X.s₀.heap s.heap
  loc : ∃ m, s.heap.Ns X.env.locals m ∧ ∀ (i : Nat) (x : Str) (v : V), X.N[i]? = some x → σ[i]? = some (some v) → Vis X.env.scope x → ∃ u, RelV v u ∧ Look X.env s.heap m x u
  cell : ∀ x c, X.env.cells.lookup x = some c → ∃ v, s.heap.IsCell c v
  free : H X.env.locals = none
  freeC : ∀ x c, X.env.cells.lookup x = some c → H c = none
  pin : ∀ p ∈ X.pn ++ pins, s.heap.get? p.1 = some p.2 ∧ H p.1 = none ∧ p.1 ≠ X.env.locals ∧ p.1 ∉ X.fs ∧ ∀ v, p.2.data ≠ .cell v
  hok : HOk X.prog X.w H s.heap
  len : σ.length = X.N.length
section
variable {X : Cx} {pins : List (Addr × Obj)} {σ : List (Option V)} {H H' : Hp} {s : Shared} {h' : Heap}
theorem Cx.Ok.nofr (ok : X.Ok) {b : Addr} {o : Obj} (e : X.base.get? b = some o) : b ∉ X.fs := fun hb => by
  have := (ok.funs.mem hb).1
  rw [e] at this; cases this
theorem Inv.bs (I : Inv X pins σ H s) : ∀ b o, X.base.get? b = some o → s.heap.get? b = some o ∧ H b = none := fun b o e =>
  ⟨I.base.keep b o (I.ok.bs b o e).1 (I.ok.bs b o e).2 (I.ok.nofr e) (I.ok.noex b o e), I.base.free b o (I.ok.bs b o e).1 (I.ok.bs b o e).2 (I.ok.noex b o e)⟩
theorem Inv.bk (I : Inv X pins σ H s) : ∀ b o, X.base.get? b = some o → s.heap.get? b = some o := fun b o e => (I.bs b o e).1
theorem Inv.mod (I : Inv X pins σ H s) : Mod X.K X.mg X.base := I.ok.mod
theorem Inv.kIn (I : Inv X pins σ H s) : X.K.In s.heap := I.ok.mod.kin.keeps I.bk
theorem Inv.nolimit (I : Inv X pins σ H s) : s.heap.NoLimit := I.ok.mod.nolimit.keeps I.bk
theorem Inv.fr (I : Inv X pins σ H s) : ∃ m, Fr X.base X.env.locals s.heap m :=
  let ⟨m, hn, _⟩ := I.loc
  ⟨m, hn, I.bk, Nat.le_trans I.ok.bsz I.ok.above⟩
theorem Inv.lt (I : Inv X pins σ H s) : X.env.locals < s.heap.objs.size := let ⟨_, hn, _⟩ := I.loc; hn.lt
theorem Inv.sz (I : Inv X pins σ H s) : X.s₀.heap.objs.size ≤ s.heap.objs.size := Nat.le_trans I.ok.above (Nat.le_of_lt I.lt)
theorem Inv.nofs (I : Inv X pins σ H s) {a : Addr} (h : s.heap.objs.size ≤ a) : a ∉ X.fs := fun hb => by
  obtain ⟨_, o, ho, _⟩ := I.ok.funs.mem hb
  exact absurd (Nat.lt_of_lt_of_le (Heap.lt_size ho) (Nat.le_trans I.sz h)) (Nat.lt_irrefl _)
theorem Inv.cne (I : Inv X pins σ H s) : ∀ x c, X.env.cells.lookup x = some c → c ≠ X.env.locals := fun x c e z => by
  obtain ⟨v, o, ho, hd⟩ := I.cell x c e
  obtain ⟨m, ⟨o', es, ep, ho', hd', _⟩, _⟩ := I.loc
  rw [z, ho'] at ho; cases ho; rw [hd'] at hd; cases hd
theorem Inv.funs (I : Inv X pins σ H s) : s.heap.FunFrames X.base X.outer := by
  have all : ∀ (l : List Env), (∀ b ∈ frs l, b ∈ X.fs) → X.s₀.heap.FunFrames X.base l → s.heap.FunFrames X.base l := by
    intro l
    induction l with
    | nil => intro _ _; trivial
    | cons env r ih =>
      intro hs hl
      obtain ⟨hk, ⟨L, o, hf, hn, ho, hd⟩, hr⟩ := hl
      have hL : L ∈ X.fs := hs L (by unfold frs; rw [List.filterMap_cons, hf]; exact List.mem_cons_self)
      obtain ⟨sl, e⟩ := I.base.slot L o ho (I.ok.frf L hL) hL fun z => I.ok.exfs L z hL
      exact ⟨hk, ⟨L, _, hf, hn, e, hd⟩, ih (fun b hb => hs b (by unfold frs; rw [List.filterMap_cons, hf]; exact List.mem_cons_of_mem _ hb)) hr⟩
  exact all X.outer (fun _ hb => hb) I.ok.funs
theorem Inv.stack (I : Inv X pins σ H s) : s.heap.FunFrames X.base X.stack := by
  rcases I.ok.stk with e | ⟨e, hf⟩
  · rw [e]; exact I.funs
  · rw [e]
    obtain ⟨m, hn, _⟩ := I.loc
    refine .cons (by rw [I.ok.kind]; decide) hf hn ?_ I.funs
    exact Heap.get?_none_of_le (Nat.le_trans I.ok.bsz I.ok.above)
theorem Inv.stkSub (I : Inv X pins σ H s) : ∀ b ∈ frs X.stack, b ∈ X.env.locals :: X.fs := fun b hb => by
  rcases I.ok.stk with e | ⟨e, hf⟩
  · rw [e] at hb; exact List.mem_cons_of_mem _ hb
  · rw [e] at hb
    unfold frs at hb
    rw [List.filterMap_cons, hf] at hb
    exact hb
theorem Inv.stkFree (I : Inv X pins σ H s) : ∀ b ∈ frs X.stack, H b = none := fun b hb => by
  rcases List.mem_cons.mp (I.stkSub b hb) with e | hb
  · rw [e]; exact I.free
  · obtain ⟨_, o, ho, _⟩ := I.ok.funs.mem hb
    exact I.base.free b o ho (I.ok.frf b hb) fun z => I.ok.exfs b z hb
theorem Inv.step {g' : Array GenState} {t' : Nat} {d' : Drawn} {ch : List Addr} (I : Inv X pins σ H s)
    (hch : ∀ b ∈ ch, (b ∈ X.ex ∨ X.s₀.heap.objs.size ≤ b) ∧ b ≠ X.env.locals ∧ (∀ x c, X.env.cells.lookup x = some c → c ≠ b) ∧ ∀ p ∈ X.pn ++ pins, p.1 ≠ b)
    (keep : ∀ b o, b ≠ X.env.locals → b ∉ X.fs → b ∉ ch → s.heap.get? b = some o → H b = none → h'.get? b = some o)
    (slot : ∀ b o, b ≠ X.env.locals → b ∈ X.fs → b ∉ ch → s.heap.get? b = some o → H b = none → ∃ sl, h'.get? b = some { o with slots := sl }) (free : ∀ b o, b ∉ ch → s.heap.get? b = some o → H b = none → H' b = none)
    (there : ∀ b o, b ∉ ch → s.heap.get? b = some o → ∃ o', h'.get? b = some o')
    (tups : ∀ b xs, H b = some (.tup xs) → H' b = some (.tup xs)) (frzs : ∀ b o u, H b = some (.frz o u) → H' b = some (.frz o u)) (tbls : ∀ b ps, H b = some (.tbl ps) → ∃ more, H' b = some (.tbl (ps ++ more)))
    (ns : ∀ m, s.heap.Ns X.env.locals m → h'.Ns X.env.locals m) (hok : HOk X.prog X.w H' h') (hg : AllBare g') :
    Inv X pins σ H' { s with heap := h', gens := g', drawn := d', toks := t' } := by
  have neL : ∀ b o, X.s₀.heap.get? b = some o → b ≠ X.env.locals := fun b o e => Nat.ne_of_lt (Nat.lt_of_lt_of_le (Heap.lt_size e) I.ok.above)
  have neC : ∀ b o, X.s₀.heap.get? b = some o → b ∉ X.ex → b ∉ ch := fun b o e hx hb => by
    rcases (hch b hb).1 with z | z
    · exact hx z
    · exact absurd (Nat.lt_of_lt_of_le (Heap.lt_size e) z) (Nat.lt_irrefl _)
  have cellK : ∀ x c, X.env.cells.lookup x = some c → ∀ v, s.heap.IsCell c v → h'.IsCell c v := fun x c e v ⟨o, ho, hd⟩ => by
    have nch : c ∉ ch := fun z => (hch c z).2.2.1 x c e rfl
    by_cases hc : c ∈ X.fs
    · obtain ⟨sl, q⟩ := slot c o (I.cne x c e) hc nch ho (I.freeC x c e)
      exact ⟨_, q, hd⟩
    · exact ⟨o, keep c o (I.cne x c e) hc nch ho (I.freeC x c e), hd⟩
  refine ⟨I.ok, I.os, hg, ⟨fun b o e n hb hx => ?_, fun b o e n hb hx => ?_, fun b o e n hx => ?_, fun b o e hx => ?_, fun b xs e => tups b xs (I.base.tups b xs e), fun b o xs e => frzs b o xs (I.base.frzs b o xs e), fun b ps e => ?_⟩, ?_, fun x c e => ?_, ?_, fun x c e => ?_, fun p hp => ?_, hok, I.len⟩
  · exact keep b o (neL b o e) hb (neC b o e hx) (I.base.keep b o e n hb hx) (I.base.free b o e n hx)
  · obtain ⟨sl, e1⟩ := I.base.slot b o e n hb hx
    obtain ⟨sl', e2⟩ := slot b _ (neL b o e) hb (neC b o e hx) e1 (I.base.free b o e n hx)
    exact ⟨sl', e2⟩
  · obtain ⟨o', e1⟩ := I.base.there b o e hx
    exact free b o' (neC b o e hx) e1 (I.base.free b o e n hx)
  · obtain ⟨o', e1⟩ := I.base.there b o e hx
    exact there b o' (neC b o e hx) e1
  · obtain ⟨m1, e1⟩ := I.base.tbls b ps e
    obtain ⟨m2, e2⟩ := tbls b _ e1
    exact ⟨m1 ++ m2, by rw [e2, Array.append_assoc]⟩
  · obtain ⟨m, hn, hl⟩ := I.loc
    refine ⟨m, ns m hn, fun i x v e1 e2 e3 => ?_⟩
    obtain ⟨u, r, l⟩ := hl i x v e1 e2 e3
    refine ⟨u, r, ?_⟩
    rcases l with l | ⟨k, c, e, z⟩
    · exact .inl l
    · exact .inr ⟨k, c, e, cellK x c e _ z⟩
  · obtain ⟨v, z⟩ := I.cell x c e
    exact ⟨v, cellK x c e v z⟩
  · obtain ⟨m, ⟨o, _, _, ho, _⟩, _⟩ := I.loc
    exact free _ o (fun z => (hch _ z).2.1 rfl) ho I.free
  · obtain ⟨v, o, ho, hd⟩ := I.cell x c e
    exact free c o (fun z => (hch c z).2.2.1 x c e rfl) ho (I.freeC x c e)
  · obtain ⟨e, n, ne, nf, d⟩ := I.pin p hp
    have nch : p.1 ∉ ch := fun z => (hch p.1 z).2.2.2 p hp rfl
    exact ⟨keep p.1 p.2 ne nf nch e n, free p.1 p.2 nch e n, ne, nf, d⟩
theorem Inv.un {t' : Nat} (I : Inv X pins σ H s) (u : Un X.fs [] H H' s.heap h') (hok : HOk X.prog X.w H' h') : Inv X pins σ H' { s with heap := h', toks := t' } := by
  obtain ⟨m, ⟨o, es, ep, ho, r⟩, _⟩ := id I.loc
  obtain ⟨sl, hL⟩ := u.any ho I.free (by simp)
  exact I.step (g' := s.gens) (d' := s.drawn) (ch := []) (fun _ z => nomatch z) (fun b o _ hb _ e n => u.keep b o e n hb (by simp)) (fun b o _ hb _ e n => u.slot b o e n hb (by simp)) (fun b o _ e n => u.free b o e n (by simp)) (fun b o _ e => u.there b o e (by simp)) u.tups u.frzs u.tbls (fun m' hm => by
    obtain ⟨o', es', ep', ho', r'⟩ := hm
    rw [ho] at ho'; cases ho'
    exact ⟨_, es', ep', hL, r'⟩) hok I.bare
theorem Inv.call {g' : Array GenState} {t' : Nat} {d' : Drawn} {ch : List Addr} (I : Inv X pins σ H s) (u : Un (frs X.stack) ch H H' s.heap h') (hok : HOk X.prog X.w H' h') (hg : AllBare g')
    (hch : ∀ b ∈ ch, (b ∈ X.ex ∨ X.s₀.heap.objs.size ≤ b) ∧ b ≠ X.env.locals ∧ (∀ x c, X.env.cells.lookup x = some c → c ≠ b) ∧ ∀ p ∈ X.pn ++ pins, p.1 ≠ b) :
    Inv X pins σ H' { s with heap := h', gens := g', drawn := d', toks := t' } := by
  obtain ⟨m, ⟨o, es, ep, ho, r⟩, _⟩ := id I.loc
  obtain ⟨sl, hL⟩ := u.any ho I.free fun z => (hch _ z).2.1 rfl
  exact I.step (ch := ch) hch (fun b o hL hb hc e n => u.keep b o e n (fun z => (List.mem_cons.mp (I.stkSub b z)).elim hL hb) hc) (fun b o _ _ hc e n => u.any e n hc) (fun b o hc e n => u.free b o e n hc) (fun b o hc e => u.there b o e hc) u.tups u.frzs u.tbls (fun m' hm => by
    obtain ⟨o', es', ep', ho', r'⟩ := hm
    rw [ho] at ho'; cases ho'
    exact ⟨_, es', ep', hL, r'⟩) hok hg
theorem Inv.turned {t' : Nat} {it : Addr} (I : Inv X pins σ H s) (k : ∀ b o, b ≠ it → s.heap.get? b = some o → h'.get? b = some o) (hn : H it = none) (hL : it ≠ X.env.locals)
    (h1 : it ∈ X.ex ∨ X.s₀.heap.objs.size ≤ it) (h2 : ∀ x c, X.env.cells.lookup x = some c → c ≠ it) (h3 : ∀ p ∈ X.pn ++ pins, p.1 ≠ it) : Inv X pins σ H { s with heap := h', toks := t' } := by
  have nit : ∀ b u, H b = some u → b ≠ it := fun b u e z => by rw [z, hn] at e; cases e
  refine I.step (g' := s.gens) (d' := s.drawn) (ch := [it]) (fun b hb => ?_) (fun b o _ _ hc e _ => k b o (fun z => hc (by simp [z])) e) (fun b o _ _ hc e _ => ⟨o.slots, k b o (fun z => hc (by simp [z])) e⟩) (fun _ _ _ _ n => n)
    (fun b o hc e => ⟨o, k b o (fun z => hc (by simp [z])) e⟩) (fun _ _ e => e) (fun _ _ _ e => e) (fun b ps e => ⟨#[], by rw [e]; simp⟩) (fun m hm => ?_) (fun b u e => ?_) I.bare
  · have e : b = it := by simpa using hb
    subst e
    exact ⟨h1, hL, h2, h3⟩
  · obtain ⟨o, es, ep, ho, r⟩ := hm
    exact ⟨o, es, ep, k _ o (Ne.symm hL) ho, r⟩
  · refine (I.hok b u e).stay (fun c v hc q => k c v ?_ q) (fun _ q => q) fun _ _ q => q
    rcases hc with z | z
    · rw [z]; exact nit b u e
    · exact nit c _ z
theorem Inv.tok (I : Inv X pins σ H s) (t : Nat) : Inv X pins σ H { s with toks := t } := I.un (h' := s.heap) (t' := t) Un.refl I.hok
theorem Inv.kept {t' : Nat} (I : Inv X pins σ H s) (k : ∀ b u, s.heap.get? b = some u → h'.get? b = some u) : Inv X pins σ H { s with heap := h', toks := t' } := I.un (Un.kept k) (I.hok.kept k)
theorem Inv.laid {a : Addr} {o : HO} {t' : Nat} (I : Inv X pins σ H s) (k : ∀ b u, s.heap.get? b = some u → h'.get? b = some u) (hp : s.heap.objs.size ≤ a) (new : ObjOk X.prog X.w (upd H a o) h' a o) :
    Inv X pins σ (upd H a o) { s with heap := h', toks := t' } := I.un (Un.laid k hp (I.hok.fresh hp)) (I.hok.laid k hp new)
theorem Inv.write {x e : Addr} {o : HO} {t' : Nat} (I : Inv X pins σ H s) (mu : Mut (H x)) (he : e = x ∨ H e = some (.own x)) (k : ∀ b u, b ≠ e → s.heap.get? b = some u → h'.get? b = some u) (heo : ∃ u, h'.get? e = some u)
    (new : ObjOk X.prog X.w (upd H x o) h' x o) : Inv X pins σ (upd H x o) { s with heap := h', toks := t' } := I.un (Un.write mu he k heo) (I.hok.write mu he k heo new)
theorem Inv.weak {σ' : List (Option V)} (I : Inv X pins σ H s) (hl : σ'.length = σ.length) (w : ∀ (i : Nat) v, σ'[i]? = some (some v) → σ[i]? = some (some v)) : Inv X pins σ' H s :=
  ⟨I.ok, I.os, I.bare, I.base, let ⟨m, hn, hl'⟩ := I.loc; ⟨m, hn, fun i x v e1 e2 e3 => hl' i x v e1 (w i v e2) e3⟩, I.cell, I.free, I.freeC, I.pin, I.hok, hl.trans I.len⟩
theorem Inv.pins_of {pins' : List (Addr × Obj)} (I : Inv X pins σ H s) (h : ∀ p ∈ pins', s.heap.get? p.1 = some p.2 ∧ H p.1 = none ∧ p.1 ≠ X.env.locals ∧ p.1 ∉ X.fs ∧ ∀ v, p.2.data ≠ .cell v) : Inv X pins' σ H s :=
  ⟨I.ok, I.os, I.bare, I.base, I.loc, I.cell, I.free, I.freeC, fun p hp => (List.mem_append.mp hp).elim (fun z => I.pin p (List.mem_append_left _ z)) (h p), I.hok, I.len⟩
theorem nodup_ix {N : List Str} (hN : N.Nodup) {i j : Nat} {x : Str} (a : N[i]? = some x) (b : N[j]? = some x) : i = j := by
  obtain ⟨h1, e1⟩ := List.getElem?_eq_some_iff.mp a
  obtain ⟨h2, e2⟩ := List.getElem?_eq_some_iff.mp b
  exact (List.getElem_inj hN).mp (e1.trans e2.symm)
theorem store_ok2 {M : Model} {A : Around} {E : Value → Shared → Prop} {i : Nat} {x : Str} {v : V} {u : Value} {Q : Unit → Shared → Prop} (I : Inv X pins σ H s) (hN : X.N.Nodup) (hi : X.N[i]? = some x) (hx : Loc X.env.scope x) (r : RelV v u)
    (h : ∀ s', Inv X pins (σ.set i (some v)) H s' → (∃ a, Heap.SameBut a s.heap s'.heap ∧ (a = X.env.locals ∨ X.env.cells.lookup x = some a)) → Q () s') (hf : X.fn x = true ∨ X.env.scope.names.lookup x = some .local := by first | exact .inl rfl | exact .inr rfl | assumption) : wpAny M A (storeName X.env x u) Q E s := by
  obtain ⟨m, hn, hl⟩ := id I.loc
  have hcls : (X.env.scope.kind == .class || (X.env.scope.kind == .module && X.env.locals != X.env.globals)) = false := by rw [I.ok.kind]; rfl
  have hiσ : i < σ.length := by rw [I.len]; exact (List.getElem?_eq_some_iff.mp hi).1
  have cne := I.cne
  have tracked : ∀ {a : Addr} {h' : Heap}, (∃ o, s.heap.get? a = some o ∧ H a = none) → Heap.SameBut a s.heap h' → HOk X.prog X.w H h' := fun {a h'} ha hs b ob e => by
    obtain ⟨_, _, hfree⟩ := ha
    refine (I.hok b ob e).stay (fun c w' hc q => (hs.2 c ?_).trans q) (fun _ q => q) fun _ _ q => q
    rintro rfl
    rcases hc with rfl | hc
    · rw [hfree] at e; cases e
    · rw [hfree] at hc; cases hc
  rcases hx with hk | hk
  · refine wpAny_storeName_local hk hn (fun h' hn' hs => ?_) hcls
    obtain ⟨oL, _, _, hoL, _⟩ := id hn
    refine h _ ⟨I.ok, I.os, I.bare, ⟨fun b o e n hb hx => ?_, fun b o e n hb hx => ?_, I.base.free, fun b o e hx => ?_, I.base.tups, I.base.frzs, I.base.tbls⟩, ⟨_, hn', fun j y v' e1 e2 e3 => ?_⟩, fun y c e => ?_, I.free, I.freeC, fun p hp => ?_, tracked ⟨oL, hoL, I.free⟩ hs, by simpa using I.len⟩ ⟨_, hs, .inl rfl⟩
    · exact (hs.2 b (Nat.ne_of_lt (Nat.lt_of_lt_of_le (Heap.lt_size e) I.ok.above))).trans (I.base.keep b o e n hb hx)
    · obtain ⟨sl, e1⟩ := I.base.slot b o e n hb hx
      exact ⟨sl, (hs.2 b (Nat.ne_of_lt (Nat.lt_of_lt_of_le (Heap.lt_size e) I.ok.above))).trans e1⟩
    · obtain ⟨o', e1⟩ := I.base.there b o e hx
      exact ⟨o', (hs.2 b (Nat.ne_of_lt (Nat.lt_of_lt_of_le (Heap.lt_size e) I.ok.above))).trans e1⟩
    · by_cases hj : j = i
      · subst hj
        rw [hi] at e1; cases e1
        rw [List.getElem?_set_self hiσ] at e2
        cases e2
        exact ⟨u, r, .inl ⟨hk, by simp⟩⟩
      · rw [List.getElem?_set_ne (Ne.symm hj)] at e2
        obtain ⟨u', r', q⟩ := hl j y v' e1 e2 e3
        refine ⟨u', r', ?_⟩
        rcases q with ⟨k, e⟩ | ⟨k, c, e, z⟩
        · refine .inl ⟨k, ?_⟩
          have : y ≠ x := fun e => hj (nodup_ix hN e1 (e ▸ hi))
          simp [this, e]
        · exact .inr ⟨k, c, e, z.sameBut hs (cne y c e)⟩
    · obtain ⟨w', z⟩ := I.cell y c e
      exact ⟨w', z.sameBut hs (cne y c e)⟩
    · obtain ⟨e, n, ne, nf, d⟩ := I.pin p hp
      exact ⟨(hs.2 p.1 ne).trans e, n, ne, nf, d⟩
  · have hfn : X.fn x = true := by
      rcases hf with z | z
      · exact z
      · rw [z] at hk; cases hk
    obtain ⟨c, hc⟩ := I.ok.has x (.inl hk)
    obtain ⟨w', z⟩ := I.cell x c hc
    refine wpAny_storeName_cell I.ok.kind hk hc z (fun h' hc' hs => ?_)
    obtain ⟨oc, hoc, hocd⟩ := id z
    refine h { s with heap := h' } ⟨I.ok, I.os, I.bare, ⟨fun b o e n hb hx => ?_, fun b o e n hb hx => ?_, I.base.free, fun b o e hx => ?_, I.base.tups, I.base.frzs, I.base.tbls⟩, ⟨m, hn.sameBut hs (Ne.symm (cne x c hc)), fun j y v' e1 e2 e3 => ?_⟩, fun y c' e => ?_, I.free, I.freeC, fun p hp => ?_, tracked ⟨oc, hoc, I.freeC x c hc⟩ hs, by simpa using I.len⟩ ⟨c, hs, .inr hc⟩
    · exact (hs.2 b (Nat.ne_of_lt (Nat.lt_of_lt_of_le (Heap.lt_size e) (I.ok.cab x c hfn hc)))).trans (I.base.keep b o e n hb hx)
    · obtain ⟨sl, e1⟩ := I.base.slot b o e n hb hx
      exact ⟨sl, (hs.2 b (Nat.ne_of_lt (Nat.lt_of_lt_of_le (Heap.lt_size e) (I.ok.cab x c hfn hc)))).trans e1⟩
    · obtain ⟨o', e1⟩ := I.base.there b o e hx
      exact ⟨o', (hs.2 b (Nat.ne_of_lt (Nat.lt_of_lt_of_le (Heap.lt_size e) (I.ok.cab x c hfn hc)))).trans e1⟩
    · by_cases hj : j = i
      · subst hj
        rw [hi] at e1; cases e1
        rw [List.getElem?_set_self hiσ] at e2
        cases e2
        exact ⟨u, r, .inr ⟨.inl hk, c, hc, hc'⟩⟩
      · rw [List.getElem?_set_ne (Ne.symm hj)] at e2
        obtain ⟨u', r', q⟩ := hl j y v' e1 e2 e3
        refine ⟨u', r', ?_⟩
        rcases q with q | ⟨k, c', e, z'⟩
        · exact .inl q
        · refine .inr ⟨k, c', e, z'.sameBut hs ?_⟩
          rintro rfl
          exact hj (nodup_ix hN e1 (I.ok.inj _ _ _ e hc ▸ hi))
    · by_cases hcc : c' = c
      · subst hcc; exact ⟨_, hc'⟩
      · obtain ⟨w2, z2⟩ := I.cell y c' e
        exact ⟨w2, z2.sameBut hs hcc⟩
    · obtain ⟨e, n, ne, nf, d⟩ := I.pin p hp
      refine ⟨(hs.2 p.1 ?_).trans e, n, ne, nf, d⟩
      intro q
      rw [q, hoc] at e
      have q' : oc = p.2 := Option.some.inj e
      exact d w' (by rw [← q']; exact hocd)
theorem store_ok {M : Model} {A : Around} {E : Value → Shared → Prop} {i : Nat} {x : Str} {v : V} {u : Value} {Q : Unit → Shared → Prop} (I : Inv X pins σ H s) (hN : X.N.Nodup) (hi : X.N[i]? = some x) (hx : Loc X.env.scope x) (r : RelV v u)
    (h : ∀ s', Inv X pins (σ.set i (some v)) H s' → Q () s') (hf : X.fn x = true ∨ X.env.scope.names.lookup x = some .local := by first | exact .inl rfl | exact .inr rfl | assumption) : wpAny M A (storeName X.env x u) Q E s :=
  store_ok2 I hN hi hx r (fun s' I' _ => h s' I') hf
theorem Inv.call' {s' : Shared} {ch : List Addr} (I : Inv X pins σ H s) (ho : s'.os = s.os) (u : Un (frs X.stack) ch H H' s.heap s'.heap) (hok : HOk X.prog X.w H' s'.heap) (hg : AllBare s'.gens)
    (hch : ∀ b ∈ ch, (b ∈ X.ex ∨ X.s₀.heap.objs.size ≤ b) ∧ b ≠ X.env.locals ∧ (∀ x c, X.env.cells.lookup x = some c → c ≠ b) ∧ ∀ p ∈ X.pn ++ pins, p.1 ≠ b) : Inv X pins σ H' s' := by
  obtain ⟨h', g', d', t', o'⟩ := s'
  have e : o' = s.os := ho
  subst e
  exact I.call (g' := g') (t' := t') (d' := d') u hok hg hch
end
abbrev XK := Value → Option Addr → Hp → Prop
abbrev St := List (Option V)
abbrev VK := V → Hp → Prop
abbrev TE := St → Hp → VK → Prop
abbrev TT := St → Hp → (Bool → Hp → Prop) → Prop
abbrev TA := St → Hp → (List V → Hp → Prop) → Prop
structure Ends where
  nx : St → Hp → Prop
  rt : VK
  bk : St → Hp → Prop := fun _ _ => False
  ct : St → Hp → Prop := fun _ _ => False
abbrev TS := Ends → St → Hp → Prop
def EP (X : Cx) (pins : List (Addr × Obj)) (σ : St) (Q : VK) (u : Value) (s' : Shared) : Prop := ∃ v H', Inv X pins σ H' s' ∧ RelV v u ∧ Q v H'
def TP (X : Cx) (pins : List (Addr × Obj)) (σ : St) (Q : Bool → Hp → Prop) (b : Bool) (s' : Shared) : Prop := ∃ H', Inv X pins σ H' s' ∧ Q b H'
def AP (X : Cx) (pins : List (Addr × Obj)) (σ : St) (Q : List V → Hp → Prop) (us : List Value) (s' : Shared) : Prop := ∃ vs H', Inv X pins σ H' s' ∧ Vals vs us ∧ Q vs H'
def SP (X : Cx) (pins : List (Addr × Obj)) (D : Ends) (f : Flow) (s' : Shared) : Prop :=
  match f with
  | .next => ∃ σ' H', Inv X pins σ' H' s' ∧ D.nx σ' H'
  | .brk => ∃ σ' H', Inv X pins σ' H' s' ∧ D.bk σ' H'
  | .cont => ∃ σ' H', Inv X pins σ' H' s' ∧ D.ct σ' H'
  | .ret u => ∃ v σ' H', Inv X pins σ' H' s' ∧ RelV v u ∧ D.rt v H'
def PE (X : Cx) (e : Expr) (t : TE) : Prop :=
  ∀ (pins : List (Addr × Obj)) (s : Shared) (σ : St) (H : Hp) (Q : VK), Inv X pins σ H s → t σ H Q → wpAny (model X.prog X.w) X.A (eval e X.env) (EP X pins σ Q) X.xe s
def PT (X : Cx) (e : Expr) (t : TT) : Prop :=
  ∀ (pins : List (Addr × Obj)) (s : Shared) (σ : St) (H : Hp) (Q : Bool → Hp → Prop), Inv X pins σ H s → t σ H Q → wpAny (model X.prog X.w) X.A (isTrue e X.env (eval e X.env)) (TP X pins σ Q) X.xe s
def PW (X : Cx) (e : Expr) (t : TT) : Prop :=
  ∀ (whole : Sem Value) (pins : List (Addr × Obj)) (s : Shared) (σ : St) (H : Hp) (Q : Bool → Hp → Prop), Inv X pins σ H s → t σ H Q → wpAny (model X.prog X.w) X.A (isTrue e X.env whole) (TP X pins σ Q) X.xe s
theorem PW.pt {X : Cx} {e : Expr} {t : TT} (h : PW X e t) : PT X e t := h _
def PA (X : Cx) (es : List Expr) (t : TA) : Prop :=
  ∀ (pos : Pos) (pins : List (Addr × Obj)) (s : Shared) (σ : St) (H : Hp) (Q : List V → Hp → Prop), Inv X pins σ H s → t σ H Q → wpAny (model X.prog X.w) X.A (spliced (backTo pos (starEach es X.env))) (AP X pins σ Q) X.xe s
def PS (X : Cx) (st : Stmt) (t : TS) : Prop :=
  ∀ (pins : List (Addr × Obj)) (s : Shared) (σ : St) (H : Hp) (D : Ends), Inv X pins σ H s → t D σ H → wpAny (model X.prog X.w) X.A (exec st X.env) (SP X pins D) X.xe s
def PSs (X : Cx) (st : List Stmt) (t : TS) : Prop :=
  ∀ (pins : List (Addr × Obj)) (s : Shared) (σ : St) (H : Hp) (D : Ends), Inv X pins σ H s → t D σ H → wpAny (model X.prog X.w) X.A (execs st X.env) (SP X pins D) X.xe s
theorem thn {α : Type} {t : Sem α} {Q Q' : α → Shared → Prop} {M : Model} {A : Around} {E : Value → Shared → Prop} {s : Shared} (h : wpAny M A t Q E s) (hQ : ∀ a s, Q a s → Q' a s) : wpAny M A t Q' E s := wpAny_mono h hQ fun _ _ x => x
end L2
namespace L2
open PySem PySem.Spec PyProof.Rows
section
variable {X : Cx}
def tVar (i : Nat) : TE := fun σ H Q => ∃ v, σ[i]? = some (some v) ∧ Q v H
def tC (v : V) : TE := fun _ H Q => Q v H
theorem pe_var {i : Nat} {x : Str} {pos : Pos} (hN : X.N[i]? = some x) (hv : Vis X.env.scope x) (hd : (x == ("__debug__" : Str)) = false := by decide) (hcd : (x == ("__classdict__" : Str)) = false := by decide) : PE X (.Name x pos) (tVar i) := by
  intro pins s σ H Q I h
  obtain ⟨v, e, h⟩ := h
  obtain ⟨m, hn, hl⟩ := I.loc
  obtain ⟨u, r, l⟩ := hl i x v hN e hv
  have fin : EP X pins σ Q u s := ⟨v, H, I, r, h⟩
  rcases l with ⟨hk, hm⟩ | ⟨hk, c, hc, hcell⟩
  · exact wpAny_Name (wpAny_loadName_local I.ok.kind hk hn hm fin) hd
  · rcases hk with hk | hk
    · exact wpAny_Name (wpAny_loadName_cell I.ok.kind hk hc hcell fin) hd
    · exact wpAny_Name (wpAny_loadName_free I.ok.kind hk hc hcell fin hcd) hd
theorem pe_int {i j pos} : PE X (.Constant (.int i) j pos) (tC (.int i)) := fun _ _ _ H _ I h => wpAny_Constant_int ⟨.int i, H, I.tok _, ⟨_, rfl⟩, h⟩
theorem pe_bl {b j pos} : PE X (.Constant (.bool b) j pos) (tC (.bl b)) := fun _ _ _ H _ I h => Constant_bool ⟨.bl b, H, I, rfl, h⟩
theorem pe_str {x j pos} : PE X (.Constant (.str x) j pos) (tC (.str x)) := fun _ _ _ H _ I h => Calls.Constant_str ⟨.str x, H, I.tok _, ⟨_, rfl⟩, h⟩
def Gl (X : Cx) (x : Str) : Prop := X.env.kindOf x = some .globalImplicit
theorem ld_glob {E : Value → Shared → Prop} {pins : List (Addr × Obj)} {s : Shared} {σ : St} {H : Hp} {x : Str} {u : Value} {pos : Pos} {Q : Value → Shared → Prop} (I : Inv X pins σ H s) (hg : Gl X x) (hm : X.mg x = some u) (h : Q u s)
    (hd : (x == ("__debug__" : Str)) = false := by decide) : wpAny (model X.prog X.w) X.A (eval (.Name x pos) X.env) Q E s :=
  Calls.Name_function_global I.ok.kind hg (Calls.loadGlobal_global (by rw [I.ok.glob]; exact I.mod.glob.keeps I.bk) hm h) hd
theorem ld_blt {E : Value → Shared → Prop} {pins : List (Addr × Obj)} {s : Shared} {σ : St} {H : Hp} {x : Str} {u : Value} {pos : Pos} {Q : Value → Shared → Prop} (I : Inv X pins σ H s) (hg : Gl X x) (hm : X.mg x = none) (hv : bootBuiltins x = some u) (h : Q u s)
    (hn : x ≠ "__name__" := by decide) (hd : (x == ("__debug__" : Str)) = false := by decide) : wpAny (model X.prog X.w) X.A (eval (.Name x pos) X.env) Q E s := by
  obtain ⟨mb, h1, h2⟩ := I.mod.blt
  exact Calls.Name_function_global I.ok.kind hg (Calls.loadGlobal_builtin (by rw [I.ok.glob]; exact I.mod.glob.keeps I.bk) hm (by rw [I.ok.blt]; exact h1.keeps I.bk) ((h2 x hn).trans hv) h) hd
theorem pe_glob {x : Str} {v : V} {u : Value} {pos : Pos} (hg : Gl X x) (hm : X.mg x = some u) (r : RelV v u) (hd : (x == ("__debug__" : Str)) = false := by decide) : PE X (.Name x pos) (tC v) :=
  fun _ _ _ H _ I h => ld_glob I hg hm ⟨v, H, I, r, h⟩ hd
theorem pe_bltn {x : Str} {v : V} {u : Value} {pos : Pos} (hg : Gl X x) (hm : X.mg x = none) (hv : bootBuiltins x = some u) (r : RelV v u) (hn : x ≠ "__name__" := by decide) (hd : (x == ("__debug__" : Str)) = false := by decide) : PE X (.Name x pos) (tC v) :=
  fun _ _ _ H _ I h => ld_blt I hg hm hv ⟨v, H, I, r, h⟩ hn hd
variable {a b : Expr} {ta tb : TE} {pos : Pos}
def PC (X : Cx) (op : CmpOp) (a b : Expr) (t : TE) : Prop :=
  ∀ (pins : List (Addr × Obj)) (s : Shared) (σ : St) (H : Hp) (Q : VK), Inv X pins σ H s → t σ H Q →
    wpAny (model X.prog X.w) X.A (eval a X.env) (fun v s₁ => wpAny (model X.prog X.w) X.A (eval b X.env) (fun u s₂ => wpAny (model X.prog X.w) X.A (compareOp op v u) (EP X pins σ Q) X.xe s₂) X.xe s₁) X.xe s
theorem nobehind (b : Expr) {op : CmpOp} (h : op ≠ .In) (h2 : op ≠ .NotIn) : behindInMarks op b = false := by
  have e1 : (op == CmpOp.In) = false := by cases op <;> first | rfl | exact absurd rfl h
  have e2 : (op == CmpOp.NotIn) = false := by cases op <;> first | rfl | exact absurd rfl h2
  cases b <;> simp [behindInMarks, e1, e2]
def tB (t : TE) : TT := fun σ H Q => t σ H fun x H1 => ∃ c, x = .bl c ∧ Q c H1
theorem pe_cmp {op : CmpOp} {t : TE} (h : PC X op a b t) (h1 : behindInMarks op b = false := by first | exact nobehind _ (by decide) (by decide) | rfl) : PE X (.Compare a [op] [b] pos) t := fun pins s σ H Q I hw => wpAny_Compare1 (h pins s σ H Q I hw) h1
variable {tA tB' : TT} {rest : List Expr}
def tAnd (t u : TT) : TT := fun σ H Q => t σ H fun c H1 => if c = true then u σ H1 Q else Q false H1
def tOr (t u : TT) : TT := fun σ H Q => t σ H fun c H1 => if c = true then Q true H1 else u σ H1 Q
def tNot (t : TT) : TT := fun σ H Q => t σ H fun c H1 => Q (!c) H1
theorem pw_and1 (ha : PT X a tA) : PW X (.BoolOp .And [a] pos) tA := by
  intro wh pins s σ H Q I h
  refine isTrue_and (thn (ha pins s σ H Q I h) fun c s1 e => ?_)
  cases c with
  | true => exact isTrue_and_nil e
  | false => exact e
theorem pw_or1 (ha : PT X a tA) : PW X (.BoolOp .Or [a] pos) tA := by
  intro wh pins s σ H Q I h
  refine isTrue_or (thn (ha pins s σ H Q I h) fun c s1 e => ?_)
  cases c with
  | false => exact isTrue_or_nil e
  | true => exact e
theorem pw_and (ha : PT X a tA) (hb : PW X (.BoolOp .And (b :: rest) pos) tB') : PW X (.BoolOp .And (a :: b :: rest) pos) (tAnd tA tB') := by
  intro wh pins s σ H Q I h
  refine isTrue_and (thn (ha pins s σ H _ I h) fun c s1 ⟨H1, I1, q1⟩ => ?_)
  cases c with
  | true => exact hb wh pins s1 σ H1 Q I1 q1
  | false => exact ⟨H1, I1, q1⟩
theorem pw_or (ha : PT X a tA) (hb : PW X (.BoolOp .Or (b :: rest) pos) tB') : PW X (.BoolOp .Or (a :: b :: rest) pos) (tOr tA tB') := by
  intro wh pins s σ H Q I h
  refine isTrue_or (thn (ha pins s σ H _ I h) fun c s1 ⟨H1, I1, q1⟩ => ?_)
  cases c with
  | true => exact ⟨H1, I1, q1⟩
  | false => exact hb wh pins s1 σ H1 Q I1 q1
theorem pt_not (ha : PT X a tA) : PT X (.UnaryOp .Not a pos) (tNot tA) := by
  intro pins s σ H Q I h
  exact isTrue_not (ha pins s σ H (fun c H1 => Q (!c) H1) I h)
def tAndV (ta tb : TE) : TE := fun σ H Q => ta σ H fun x H1 => ∃ c, x = .bl c ∧ if c = true then tb σ H1 Q else Q (.bl false) H1
def tNotV (ta : TE) : TE := fun σ H Q => ta σ H fun x H1 => ∃ c, x = .bl c ∧ Q (.bl (!c)) H1
theorem pe_one {op} {t : TE} (h : PE X a t) : PE X (.BoolOp op [a] pos) t := fun pins s σ H Q I hw => BoolOp_one (h pins s σ H Q I hw)
theorem pe_and (ha : PE X a ta) (hb : PE X (.BoolOp .And (b :: rest) pos) tb) : PE X (.BoolOp .And (a :: b :: rest) pos) (tAndV ta tb) := by
  intro pins s σ H Q I h
  refine BoolOp_and (thn (ha pins s σ H _ I h) fun v s1 ⟨x, H1, I1, r1, q1⟩ => ?_)
  obtain ⟨c, rfl, q1⟩ := q1
  cases r1
  refine wpAny_truthy_bool ?_
  cases c with
  | true => exact hb pins s1 σ H1 Q I1 q1
  | false => exact ⟨.bl false, H1, I1, rfl, q1⟩
theorem pe_not (ha : PE X a ta) : PE X (.UnaryOp .Not a pos) (tNotV ta) := by
  intro pins s σ H Q I h
  refine UnaryOp_ (thn (ha pins s σ H _ I h) fun v s1 ⟨x, H1, I1, r1, q1⟩ => ?_)
  obtain ⟨c, rfl, q1⟩ := q1
  cases r1
  exact not_of (wpAny_truthy_bool ⟨.bl (!c), H1, I1, rfl, q1⟩)
def tIf (t : TT) (ta tb : TE) : TE := fun σ H Q => t σ H fun c H1 => if c = true then ta σ H1 Q else tb σ H1 Q
theorem pe_ifExp {c : Expr} (hc : PT X c tA) (ha : PE X a ta) (hb : PE X b tb) : PE X (.IfExp c a b pos) (tIf tA ta tb) := by
  intro pins s σ H Q I h
  refine wpAny_IfExp (thn (hc pins s σ H _ I h) fun d s1 ⟨H1, I1, q1⟩ => ?_)
  cases d with
  | true => exact ha pins s1 σ H1 Q I1 q1
  | false => exact hb pins s1 σ H1 Q I1 q1
end
end L2
namespace L2
open PySem PySem.Spec PyProof.Rows
def SqL (K : PySem.W.Frag) (H : Hp) (a : Addr) (xs : List V) : Prop :=
  Rd H a (.lst xs) ∨
    ∃ (o : Obj) (its : Array Value) (n : Nat), K.lookup a = some o ∧ o.cls = .type "list" ∧ o.dict = none ∧ o.data = .seq its n ∧ its.size ≤ sizeLine ∧ Vals xs its.toList
def SqT (K : PySem.W.Frag) (H : Hp) (a : Addr) (xs : List V) : Prop :=
  Rd H a (.tup xs) ∨
    ∃ (o : Obj) (its : Array Value) (n : Nat), K.lookup a = some o ∧ o.cls = .type "tuple" ∧ o.data = .seq its n ∧ its.size ≤ sizeLine ∧ Vals xs its.toList
def absV : Value → Option V
  | .none => some .non
  | .bool b => some (.bl b)
  | .int i _ => some (.int i)
  | .str x _ => some (.str x)
  | .bytes b _ => some (.byt b)
  | .float b _ => some (.flt b)
  | .ref a => some (.ref a)
  | .type n => some (.ty n)
  | _ => none
theorem RelV.abs {x : V} {u : Value} (r : RelV x u) : absV u = some x := by
  cases x with
  | non => cases r; rfl
  | bl _ => cases r; rfl
  | int _ => obtain ⟨t, rfl⟩ := r; rfl
  | str _ => obtain ⟨t, rfl⟩ := r; rfl
  | byt _ => obtain ⟨t, rfl⟩ := r; rfl
  | flt _ => obtain ⟨t, rfl⟩ := r; rfl
  | ref _ => cases r; rfl
  | ty _ => cases r; rfl
theorem RelV.inj {x y : V} {u : Value} (r : RelV x u) (q : RelV y u) : x = y := Option.some.inj (r.abs.symm.trans q.abs)
theorem Vals.inj : ∀ {xs ys : List V} {us : List Value}, Vals xs us → Vals ys us → xs = ys
  | _, _, _, .nil, .nil => rfl
  | _, _, _, .cons r t, .cons r' t' => by rw [r.inj r', Vals.inj t t']
section
variable {X : Cx} {pins : List (Addr × Obj)} {σ : St} {H : Hp} {s : Shared} {a : Addr} {xs ys : List V}
theorem SqL.of {K : PySem.W.Frag} (h : H a = some (.lst xs)) : SqL K H a xs := .inl (.inl h)
theorem SqT.of {K : PySem.W.Frag} (h : H a = some (.tup xs)) : SqT K H a xs := .inl (.inl h)
theorem Inv.list (I : Inv X pins σ H s) (h : SqL X.K H a xs) : ∃ its : List Value, Vals xs its ∧ PlainL s.heap a its.toArray ∧ xs.length ≤ sizeLine := by
  rcases h with h | ⟨o, its, n, hk, hc, hd, hs, hz, r⟩
  · obtain ⟨z, its, n, r, e⟩ := h.ok I.hok
    exact ⟨its, r, ⟨_, n, e, rfl, rfl, rfl⟩, z⟩
  · refine ⟨its.toList, r, ⟨o, n, I.kIn a o hk, hc, hd, by simpa using hs⟩, ?_⟩
    have e := r.length
    simp only [Array.length_toList] at e
    omega
theorem Inv.tuple (I : Inv X pins σ H s) (h : SqT X.K H a xs) : ∃ its : List Value, Vals xs its ∧ IsTup s.heap a its.toArray ∧ xs.length ≤ sizeLine := by
  rcases h with h | ⟨o, its, n, hk, hc, hs, hz, r⟩
  · obtain ⟨z, its, r, p⟩ := h.ok I.hok
    exact ⟨its, r, p, z⟩
  · refine ⟨its.toList, r, ⟨o, I.kIn a o hk, hc, n, by simpa using hs⟩, ?_⟩
    have e := r.length
    simp only [Array.length_toList] at e
    omega
theorem Inv.list_inj (I : Inv X pins σ H s) (h : SqL X.K H a xs) (h' : SqL X.K H a ys) : xs = ys := by
  obtain ⟨its, r, ⟨o, n, e, _, _, d⟩, _⟩ := I.list h
  obtain ⟨its', r', ⟨o', n', e', _, _, d'⟩, _⟩ := I.list h'
  rw [e] at e'; cases e'
  rw [d] at d'
  injection d' with d1 _
  have : its = its' := by simpa using congrArg Array.toList d1
  subst this
  exact r.inj r'
theorem Inv.tuple_inj (I : Inv X pins σ H s) (h : SqT X.K H a xs) (h' : SqT X.K H a ys) : xs = ys := by
  obtain ⟨its, r, ⟨o, e, _, n, d⟩, _⟩ := I.tuple h
  obtain ⟨its', r', ⟨o', e', _, n', d'⟩, _⟩ := I.tuple h'
  rw [e] at e'; cases e'
  rw [d] at d'
  injection d' with d1 _
  have : its = its' := by simpa using congrArg Array.toList d1
  subst this
  exact r.inj r'
end
abbrev Cx.wish (X : Cx) (E : Value → Shared → Prop) : Cx := { X with xe := E }
abbrev Cx.nox (X : Cx) : Cx := X.wish fun _ _ => False
theorem Cx.Ok.wish {X : Cx} (ok : X.Ok) (E : Value → Shared → Prop) : (X.wish E).Ok :=
  ⟨ok.mod, ok.kind, ok.glob, ok.blt, ok.above, ok.inj, ok.has, ok.cab, ok.hd, ok.frames, ok.stk, ok.exf, ok.bs, ok.bsz, ok.noex, ok.exfs, ok.funs, ok.frf⟩
theorem Cx.Ok.unwish {X : Cx} {E : Value → Shared → Prop} (ok : (X.wish E).Ok) : X.Ok :=
  ⟨ok.mod, ok.kind, ok.glob, ok.blt, ok.above, ok.inj, ok.has, ok.cab, ok.hd, ok.frames, ok.stk, ok.exf, ok.bs, ok.bsz, ok.noex, ok.exfs, ok.funs, ok.frf⟩
section
variable {X : Cx} {pins : List (Addr × Obj)} {σ : St} {H : Hp} {s : Shared} {E : Value → Shared → Prop}
theorem Inv.wish (I : Inv X pins σ H s) (E : Value → Shared → Prop) : Inv (X.wish E) pins σ H s := ⟨I.ok.wish E, I.os, I.bare, I.base, I.loc, I.cell, I.free, I.freeC, I.pin, I.hok, I.len⟩
theorem Inv.unwish (I : Inv (X.wish E) pins σ H s) : Inv X pins σ H s := ⟨I.ok.unwish, I.os, I.bare, I.base, I.loc, I.cell, I.free, I.freeC, I.pin, I.hok, I.len⟩
theorem SP.unwish {D : Ends} {f : Flow} {s' : Shared} (h : SP (X.wish E) pins D f s') : SP X pins D f s' := by
  cases f with
  | next => obtain ⟨σ', H', I, q⟩ := h; exact ⟨σ', H', I.unwish, q⟩
  | brk => obtain ⟨σ', H', I, q⟩ := h; exact ⟨σ', H', I.unwish, q⟩
  | cont => obtain ⟨σ', H', I, q⟩ := h; exact ⟨σ', H', I.unwish, q⟩
  | ret u => obtain ⟨v, σ', H', I, r, q⟩ := h; exact ⟨v, σ', H', I.unwish, r, q⟩
theorem PE.nox {e : Expr} {t : TE} (h : PE X.nox e t) : PE X e t := fun pins s σ H Q I hw =>
  wpAny_mono (h pins s σ H Q (I.wish _) hw) (fun _ _ ⟨v, H', I', r, q⟩ => ⟨v, H', I'.unwish, r, q⟩) fun _ _ z => False.elim z
theorem PT.nox {e : Expr} {t : TT} (h : PT X.nox e t) : PT X e t := fun pins s σ H Q I hw =>
  wpAny_mono (h pins s σ H Q (I.wish _) hw) (fun _ _ ⟨H', I', q⟩ => ⟨H', I'.unwish, q⟩) fun _ _ z => False.elim z
theorem PSs.nox {st : List Stmt} {t : TS} (h : PSs X.nox st t) : PSs X st t := fun pins s σ H D I hw =>
  wpAny_mono (h pins s σ H D (I.wish _) hw) (fun _ _ q => q.unwish) fun _ _ z => False.elim z
end
section
variable {X : Cx} {st : Stmt} {rest : List Stmt} {t u : TS} {e : Expr} {te : TE} {pos : Pos}
def tNext : TS := fun D σ H => D.nx σ H
def tSeq (t u : TS) : TS := fun D σ H => t { D with nx := u D } σ H
theorem pss_nil : PSs X [] tNext := fun _ _ σ H _ I h => wpAny_execs_nil ⟨σ, H, I, h⟩
theorem pss_cons (h1 : PS X st t) (h2 : PSs X rest u) : PSs X (st :: rest) (tSeq t u) := by
  intro pins s σ H D I h
  refine wpAny_execs_cons (thn (h1 pins s σ H { D with nx := u D } I h) fun f s1 q => ?_)
  cases f with
  | next =>
    obtain ⟨σ', H', I', q⟩ := q
    exact h2 pins s1 σ' H' D I' q
  | ret v => exact q
  | brk => exact q
  | cont => exact q
theorem pss_one (h1 : PS X st t) : PSs X [st] t := by
  intro pins s σ H D I h
  refine wpAny_execs_cons (thn (h1 pins s σ H D I h) fun f s1 q => ?_)
  cases f with
  | next => exact wpAny_execs_nil q
  | ret v => exact q
  | brk => exact q
  | cont => exact q
theorem Inv.quiet {pins : List (Addr × Obj)} {σ : St} {H : Hp} {s : Shared} (I : Inv X pins σ H s) : interactive X.env = false := by simp [interactive, I.ok.kind]
def tDrop (te : TE) : TS := fun D σ H => te σ H fun _ H1 => D.nx σ H1
theorem ps_expr (he : PE X e te) (hs : swapsWith e none pos.line X.env = pure false := by rfl) : PS X (.Expr e pos) (tDrop te) := by
  intro pins s σ H D I h
  exact wpAny_Expr_any (thn (he pins s σ H _ I h) fun v s1 ⟨x, H1, I1, r1, q1⟩ => ⟨σ, H1, I1, q1⟩) I.quiet hs
def tRet (te : TE) : TS := fun D σ H => te σ H D.rt
theorem ps_ret (he : PE X e te) : PS X (.Return (some e) pos) (tRet te) := by
  intro pins s σ H D I h
  exact wpAny_Return_some (thn (he pins s σ H _ I h) fun v s1 ⟨x, H1, I1, r1, q1⟩ => ⟨x, σ, H1, I1, r1, q1⟩)
def tIfS (c : TT) (t u : TS) : TS := fun D σ H => c σ H fun b H1 => if b = true then t D σ H1 else u D σ H1
theorem ps_if {c : Expr} {a b : List Stmt} {tc : TT} (hc : PT X c tc) (ha : PSs X a t) (hb : PSs X b u) : PS X (.If c a b pos) (tIfS tc t u) := by
  intro pins s σ H D I h
  refine wpAny_If (thn (hc pins s σ H _ I h) fun d s1 ⟨H1, I1, q1⟩ => ?_)
  cases d with
  | true => exact ha pins s1 σ H1 D I1 q1
  | false => exact hb pins s1 σ H1 D I1 q1
def tNever : TS := fun _ _ _ => False
theorem ps_never : PS X st tNever := fun _ _ _ _ _ _ h => h.elim
end
abbrev TG := V → St → Hp → (St → Hp → Prop) → Prop
abbrev TGs := List V → St → Hp → (St → Hp → Prop) → Prop
def PG (X : Cx) (target : Expr) (t : TG) : Prop :=
  ∀ (pins : List (Addr × Obj)) (s : Shared) (σ : St) (H : Hp) (v : V) (u : Value) (Q : St → Hp → Prop), Inv X pins σ H s → RelV v u → t v σ H Q →
    wpAny (model X.prog X.w) X.A (assign target X.env u) (fun _ s' => ∃ σ' H', Inv X pins σ' H' s' ∧ Q σ' H') X.xe s
def PGs (X : Cx) (ts : List Expr) (t : TGs) : Prop :=
  ∀ (pins : List (Addr × Obj)) (s : Shared) (σ : St) (H : Hp) (vs : List V) (us : List Value) (Q : St → Hp → Prop), Inv X pins σ H s → Vals vs us → t vs σ H Q →
    wpAny (model X.prog X.w) X.A (assignInOrder ((assignEach ts X.env).map (·.2)) us) (fun _ s' => ∃ σ' H', Inv X pins σ' H' s' ∧ Q σ' H') X.xe s
section
variable {X : Cx} {pos : Pos}
def gName (i : Nat) : TG := fun v σ H Q => Q (σ.set i (some v)) H
theorem pg_name {i : Nat} {x : Str} (hN : X.N.Nodup) (hi : X.N[i]? = some x) (hx : Loc X.env.scope x) (hf : X.fn x = true ∨ X.env.scope.names.lookup x = some .local := by first | exact .inl rfl | exact .inr rfl | assumption) : PG X (.Name x pos) (gName i) := by
  intro pins s σ H v u Q I r h
  exact wpAny_assign_Name (store_ok I hN hi hx r (fun s' I' => ⟨_, H, I', h⟩) hf)
def gNil : TGs := fun vs σ H Q => vs = [] ∧ Q σ H
def gCons (t : TG) (u : TGs) : TGs := fun vs σ H Q => ∃ v r, vs = v :: r ∧ t v σ H fun σ' H' => u r σ' H' Q
theorem pgs_nil : PGs X [] gNil := by
  intro pins s σ H vs us Q I r h
  obtain ⟨e, h⟩ := h
  subst e
  cases r
  exact assignInOrder_nil ⟨σ, H, I, h⟩
theorem pgs_cons {e : Expr} {es : List Expr} {t : TG} {u : TGs} (h1 : PG X e t) (h2 : PGs X es u)
    (hs : (assignEach (e :: es) X.env).map (·.2) = assign e X.env :: (assignEach es X.env).map (·.2) := by rfl) : PGs X (e :: es) (gCons t u) := by
  intro pins s σ H vs us Q I r h
  obtain ⟨v, vr, e1, h⟩ := h
  subst e1
  cases r with
  | cons r rr =>
    rw [hs]
    refine assignInOrder_cons (thn (h1 pins s σ H _ _ _ I r h) fun _ s1 ⟨σ1, H1, I1, q1⟩ => ?_)
    exact h2 pins s1 σ1 H1 _ _ Q I1 rr q1
def gTup (K : PySem.W.Frag) (n : Nat) (t : TGs) : TG := fun v σ H Q => ∃ a xs, v = .ref a ∧ SqT K H a xs ∧ xs.length = n ∧ t xs σ H Q
theorem pg_tup {es : List Expr} {k : Nat} {t : TGs} {n : Nat} (hc : X.calm = true) (h : PGs X es t)
    (hn : (assignEach es X.env).length = n := by rfl) (hst : (assignEach es X.env).findIdx? (·.1) = none := by rfl) : PG X (.Tuple es k pos) (gTup X.K n t) := by
  intro pins s σ H v u Q I r hw
  obtain ⟨a, xs, e1, hq, hl, hw⟩ := hw
  subst e1
  cases r
  obtain ⟨its, rv, ht, hz⟩ := I.tuple hq
  refine assign_Tuple_tuple (I.ok.hd hc) ht (by simp [hn, ← hl, rv.length]) hst fun h' hx => ?_
  have I1 : Inv X pins σ H { s with heap := h' } := I.kept (t' := s.toks) fun b o e => hx b o (Nat.ne_of_lt (Heap.lt_size e)) e
  exact h pins _ σ H xs _ Q I1 (by simpa using rv) hw
def tAsg (te : TE) (g : TG) : TS := fun D σ H => te σ H fun x H1 => g x σ H1 D.nx
theorem ps_asg {tg e : Expr} {te : TE} {g : TG} (he : PE X e te) (hg : PG X tg g) (hs : swapsWithSole [tg] e pos.line X.env = pure false := by rfl) (hw : swappedStores [tg] e X.env = pure none := by rfl)
    (h1 : (assignEach [tg] X.env).map (·.2) = [assign tg X.env] := by rfl) : PS X (.Assign [tg] e pos) (tAsg te g) := by
  intro pins s σ H D I h
  refine wpAny_Assign_stores (thn (he pins s σ H _ I h) fun v s1 ⟨x, H1, I1, r1, q1⟩ => ?_) hs hw
  rw [h1]
  exact thn (hg pins s1 σ H1 x v _ I1 r1 q1) fun _ s2 q => q
theorem ps_set {i : Nat} {x : Str} {e : Expr} {te : TE} {pos' : Pos} (hN : X.N.Nodup) (hi : X.N[i]? = some x) (hx : Loc X.env.scope x) (he : PE X e te) (hs : swapsWith e (some (.Name x pos')) pos.line X.env = pure false := by rfl) (hf : X.fn x = true ∨ X.env.scope.names.lookup x = some .local := by first | exact .inl rfl | exact .inr rfl | assumption) :
    PS X (.Assign [.Name x pos'] e pos) (tAsg te (gName i)) := by
  intro pins s σ H D I h
  refine wpAny_Assign_Name (thn (he pins s σ H _ I h) fun v s1 ⟨y, H1, I1, r1, q1⟩ => ?_) hs
  exact store_ok I1 hN hi hx r1 (fun s2 I2 => ⟨_, H1, I2, q1⟩) hf
end
section
variable {X : Cx} {pos : Pos}
def tWhile (c : TT) (tb : TS) : TS := fun D σ H => ∃ W : Nat → St → Hp → Prop, (∃ m, W m σ H) ∧ ∀ m σ H, W m σ H →
  c σ H fun b H1 => if b = true then ∃ N : St → Hp → Prop, (∀ σ' H', N σ' H' → ∃ m', m' < m ∧ W m' σ' H') ∧ tb { D with nx := N, ct := N, bk := D.nx } σ H1 else D.nx σ H1
theorem ps_while {c : Expr} {body : List Stmt} {tc : TT} {tb : TS} (hp : PassesOwn (model X.prog X.w) X.A X.env X.xe) (hc : PT X c tc) (hb : PSs X body tb) : PS X (.While c body [] pos) (tWhile tc tb) := by
  intro pins s σ H D I h
  obtain ⟨W, ⟨m0, w0⟩, turn⟩ := h
  refine wpAny_While (codeAny_whileLoop (fun n s' => ∃ σ' H', Inv X pins σ' H' s' ∧ W n σ' H') ?_ m0 ⟨σ, H, I, w0⟩)
  rintro n s1 ⟨σ1, H1, I1, w1⟩
  refine wpAny_passesOwn hp (thn (hc pins s1 σ1 H1 _ I1 (turn n σ1 H1 w1)) fun b s2 ⟨H2, I2, q2⟩ => ?_)
  cases b with
  | true =>
    obtain ⟨N, hN, q2⟩ := q2
    rw [if_pos rfl]
    refine wpAny_passesOwn hp (thn (hb pins s2 σ1 H2 _ I2 q2) fun f s3 q3 => ?_)
    cases f with
    | next =>
      obtain ⟨σ3, H3, I3, n3⟩ := q3
      obtain ⟨m', hm, w3⟩ := hN σ3 H3 n3
      exact ⟨m', hm, σ3, H3, I3, w3⟩
    | cont =>
      obtain ⟨σ3, H3, I3, n3⟩ := q3
      obtain ⟨m', hm, w3⟩ := hN σ3 H3 n3
      exact ⟨m', hm, σ3, H3, I3, w3⟩
    | brk => exact q3
    | ret v => exact q3
  | false =>
    rw [if_neg Bool.false_ne_true]
    exact wpAny_execs_nil ⟨σ1, H2, I2, q2⟩
end
structure It where
  go : Nat → Hp → Prop
  yld : Nat → Hp → V → Hp → Prop
  stop : Nat → Hp → Prop
def FpOk (X : Cx) (pins : List (Addr × Obj)) (H : Hp) (b : Addr) : Prop :=
  H b = none ∧ b ≠ X.env.locals ∧ b ∉ X.fs ∧ (b ∈ X.ex ∨ X.s₀.heap.objs.size ≤ b) ∧ (∀ x c, X.env.cells.lookup x = some c → c ≠ b) ∧ ∀ p ∈ X.pn ++ pins, p.1 ≠ b
theorem Inv.fpOk {X : Cx} {pins : List (Addr × Obj)} {σ : St} {H H' : Hp} {s : Shared} {b : Addr} (I : Inv X pins σ H s) (hb : s.heap.objs.size ≤ b) (hn : H' b = none) : FpOk X pins H' b := by
  refine ⟨hn, Nat.ne_of_gt (Nat.lt_of_lt_of_le I.lt hb), I.nofs hb, .inr (Nat.le_trans I.sz hb), fun x c e z => ?_, fun p hp z => ?_⟩
  · obtain ⟨v, q⟩ := I.cell x c e
    exact absurd (Nat.lt_of_lt_of_le q.lt (by rw [z]; exact hb)) (Nat.lt_irrefl _)
  · exact absurd (Nat.lt_of_lt_of_le (Heap.lt_size (I.pin p hp).1) (by rw [z]; exact hb)) (Nat.lt_irrefl _)
structure Turn (P : Program) (w : World) (K : PySem.W.Frag) (tg : Expr) (J : It) (fp : List Addr) (it : Addr) (tn : Nat → Heap → Prop) : Prop where
  mem : it ∈ fp
  obj : ∀ i h, tn i h → ∀ b ∈ fp, ∃ o, h.get? b = some o ∧ ∀ v, o.data ≠ .cell v
  keep : ∀ i h h', tn i h → (∀ b ∈ fp, ∀ o, h.get? b = some o → h'.get? b = some o) → tn i h'
  item : ∀ (X : Cx), X.prog = P → X.w = w → X.K = K → X.calm = true → ∀ (i : Nat) (pins : List (Addr × Obj)) (s : Shared) (σ : St) (H : Hp) (E : Value → Shared → Prop), Inv X pins σ H s → (∀ b ∈ fp, FpOk X pins H b) → tn i s.heap → J.go i H →
    wpAny (model P w) X.A (pyNext (.ref it)) (fun r s1 => ∃ u, r = some u ∧
      wpAny (model P w) X.A (letOwnedTupleGo tg (.ref it) u) (fun _ s2 => ∃ x H', Inv X pins σ H' s2 ∧ RelV x u ∧ J.yld i H x H' ∧ tn (i + 1) s2.heap ∧ ∀ b ∈ fp, H' b = none) E s1) E s
  done : ∀ (X : Cx), X.prog = P → X.w = w → X.K = K → X.calm = true → ∀ (i : Nat) (pins : List (Addr × Obj)) (s : Shared) (σ : St) (H : Hp) (E : Value → Shared → Prop), Inv X pins σ H s → (∀ b ∈ fp, FpOk X pins H b) → tn i s.heap → J.stop i H →
    wpAny (model P w) X.A (pyNext (.ref it)) (fun r s1 => r = none ∧ Inv X pins σ H s1) E s
  self : ∀ (A : Around) (i : Nat) (s : Shared) (Q : Value → Shared → Prop) (E : Value → Shared → Prop), tn i s.heap → Q (.ref it) s → wpAny (model P w) A (pyIter (.ref it)) Q E s
abbrev TI := St → Hp → (It → Hp → Prop) → Prop
def PIE (X : Cx) (pins : List (Addr × Obj)) (σ : St) (tg : Expr) (R : It → Hp → Prop) (itv : Value) (s2 : Shared) : Prop :=
  ∃ (it : Addr) (fp : List Addr) (tn : Nat → Heap → Prop) (J : It) (H' : Hp), itv = .ref it ∧ Inv X pins σ H' s2 ∧ Turn X.prog X.w X.K tg J fp it tn ∧ tn 0 s2.heap ∧ (∀ b ∈ fp, FpOk X pins H' b) ∧ R J H'
def PI (X : Cx) (tg iter : Expr) (wi : TI) : Prop :=
  ∀ (pins : List (Addr × Obj)) (s : Shared) (σ : St) (H : Hp) (R : It → Hp → Prop), Inv X pins σ H s → wi σ H R →
    wpAny (model X.prog X.w) X.A (eval iter X.env) (fun v s1 => wpAny (model X.prog X.w) X.A (pyIter v) (PIE X pins σ tg R) X.xe s1) X.xe s
theorem go_of {M : Model} {A : Around} {E : Value → Shared → Prop} {s : Shared} {tg : Expr} {it : Addr} {u : Value} {o : Obj} {n : String} {vs : Array Value} {Q : Unit → Shared → Prop} (ho : s.heap.get? it = some o) (hc : o.cls = .type n) (hd : o.data = .fields vs)
    (hn : ["enumerate", "zip", "dict_itemiterator", "dict_reverseitemiterator", "odict_iterator", "itertools.zip_longest", "itertools.pairwise"].contains n = false) (hQ : Q () s) : wpAny M A (letOwnedTupleGo tg (.ref it) u) Q E s := by
  unfold letOwnedTupleGo
  cases tg <;> first
    | exact wpAny_pure hQ
    | (cases u <;> first
        | exact wpAny_pure hQ
        | (refine wpAny_bind (wpAny_load ho ?_)
           rw [hc, hd]
           show wpAny M A (if (["enumerate", "zip", "dict_itemiterator", "dict_reverseitemiterator", "odict_iterator", "itertools.zip_longest", "itertools.pairwise"].contains n && vs[0]? == some (rawInt _)) = true then _ else _) Q E s
           rw [if_neg (by intro h; rw [hn, Bool.false_and] at h; cases h)]
           exact wpAny_pure hQ))
def Itl (K : PySem.W.Frag) (a : Addr) : It :=
  ⟨fun i H => ∃ xs x, SqL K H a xs ∧ xs[i]? = some x, fun i H x H' => H' = H ∧ ∀ xs, SqL K H a xs → xs[i]? = some x, fun i H => ∃ xs, SqL K H a xs ∧ xs.length ≤ i⟩
def Itt (K : PySem.W.Frag) (a : Addr) : It :=
  ⟨fun i H => ∃ xs x, SqT K H a xs ∧ xs[i]? = some x, fun i H x H' => H' = H ∧ ∀ xs, SqT K H a xs → xs[i]? = some x, fun i H => ∃ xs, SqT K H a xs ∧ xs.length ≤ i⟩
def Itr (lo : Int) (n : Nat) : It := ⟨fun i _ => i < n, fun i H x H' => H' = H ∧ x = .int (lo + i), fun i _ => n ≤ i⟩
theorem turn_list {P : Program} {w : World} {K : PySem.W.Frag} {tg : Expr} (a it : Addr) : Turn P w K tg (Itl K a) [it] it (fun i h => h.IsListIter it a i) where
  mem := by simp
  obj := fun i h st b hb => by
    have e : b = it := by simpa using hb
    subst e
    obtain ⟨o, e, c, d⟩ := st
    exact ⟨o, e, fun v z => by rw [d] at z; cases z⟩
  keep := fun i h h' st k => st.at fun o e => k it (by simp) o e
  item := by
    intro X hP hw hK hc i pins s σ H E I hf st hg
    subst hP hw hK
    obtain ⟨xs, x, hq, hx⟩ := hg
    obtain ⟨its, rv, p, hz⟩ := I.list hq
    obtain ⟨u, hu, ru⟩ := rv.get hx
    obtain ⟨f0, f1, f2, f3, f4, f5⟩ := hf it (by simp)
    refine wpAny_pyNext_list_item st p.isList (x := u) (by simpa using hu) fun h' st' sb => ?_
    have I1 : Inv X pins σ H { s with heap := h' } := I.turned (t' := s.toks) (fun b o hb e => (sb.2 b hb).trans e) f0 f1 f3 f4 f5
    obtain ⟨o, e, c, d⟩ := id st'
    exact ⟨u, rfl, go_of (s := { s with heap := h' }) e c d (by decide) ⟨x, H, I1, ru, ⟨rfl, fun ys hy => by rw [I.list_inj hy hq]; exact hx⟩, st', fun b hb => (hf b hb).1⟩⟩
  done := by
    intro X hP hw hK hc i pins s σ H E I hf st hg
    subst hP hw hK
    obtain ⟨xs, hq, hx⟩ := hg
    obtain ⟨its, rv, p, hz⟩ := I.list hq
    obtain ⟨f0, f1, f2, f3, f4, f5⟩ := hf it (by simp)
    have hl := rv.length
    exact wpAny_pyNext_list_end (I.ok.hd hc) st p.isList (by simp; omega) fun h' eb => ⟨rfl, I.turned (t' := s.toks) (fun b o hb e => eb b o hb e) f0 f1 f3 f4 f5⟩
  self := fun _ _ _ _ _ st h => wpAny_pyIter_listiter st h
theorem turn_tuple {P : Program} {w : World} {K : PySem.W.Frag} {tg : Expr} (a it : Addr) : Turn P w K tg (Itt K a) [it] it (fun i h => h.IsTupleIter it a i) where
  mem := by simp
  obj := fun i h st b hb => by
    have e : b = it := by simpa using hb
    subst e
    obtain ⟨o, e, c, d⟩ := st
    exact ⟨o, e, fun v z => by rw [d] at z; cases z⟩
  keep := fun i h h' st k => st.at fun o e => k it (by simp) o e
  item := by
    intro X hP hw hK hc i pins s σ H E I hf st hg
    subst hP hw hK
    obtain ⟨xs, x, hq, hx⟩ := hg
    obtain ⟨its, rv, p, hz⟩ := I.tuple hq
    obtain ⟨u, hu, ru⟩ := rv.get hx
    obtain ⟨f0, f1, f2, f3, f4, f5⟩ := hf it (by simp)
    refine wpAny_pyNext_tuple_item st (show s.heap.IsTuple a its.toArray from p) (x := u) (by simpa using hu) fun h' st' sb => ?_
    have I1 : Inv X pins σ H { s with heap := h' } := I.turned (t' := s.toks) (fun b o hb e => (sb.2 b hb).trans e) f0 f1 f3 f4 f5
    obtain ⟨o, e, c, d⟩ := id st'
    exact ⟨u, rfl, go_of (s := { s with heap := h' }) e c d (by decide) ⟨x, H, I1, ru, ⟨rfl, fun ys hy => by rw [I.tuple_inj hy hq]; exact hx⟩, st', fun b hb => (hf b hb).1⟩⟩
  done := by
    intro X hP hw hK hc i pins s σ H E I hf st hg
    subst hP hw hK
    obtain ⟨xs, hq, hx⟩ := hg
    obtain ⟨its, rv, p, hz⟩ := I.tuple hq
    obtain ⟨f0, f1, f2, f3, f4, f5⟩ := hf it (by simp)
    have hl := rv.length
    exact wpAny_pyNext_tuple_end (I.ok.hd hc) st (show s.heap.IsTuple a its.toArray from p) (by simp; omega) fun h' eb => ⟨rfl, I.turned (t' := s.toks) (fun b o hb e => eb b o hb e) f0 f1 f3 f4 f5⟩
  self := fun _ _ _ _ _ st h => wpAny_pyIter_tupleiter st h
theorem turn_range {P : Program} {w : World} {K : PySem.W.Frag} {tg : Expr} (it : Addr) (lo : Int) (n : Nat) : Turn P w K tg (Itr lo n) [it] it (fun i h => IsRangeIter h it (lo + (i : Nat) * 1) ((n : Int) - (i : Nat)) 1) where
  mem := by simp
  obj := fun i h st b hb => by
    have e : b = it := by simpa using hb
    subst e
    exact ⟨_, st, fun v z => by
      have z' : Data.fields _ = Data.cell v := z
      cases z'⟩
  keep := fun i h h' st k => k it (by simp) _ st
  item := by
    intro X hP hw hK hc i pins s σ H E I hf st hg
    subst hP hw hK
    obtain ⟨f0, f1, f2, f3, f4, f5⟩ := hf it (by simp)
    have W := Walks.range (prog := X.prog) (w := X.w) (I.ok.hd hc) it lo 1 n
    refine W.item i s _ _ hg st fun v h' tk hv st' kk => ?_
    obtain ⟨t, rfl⟩ := hv
    have I1 : Inv X pins σ H { s with heap := h', toks := tk } := I.turned (fun b o hb e => kk b o (by simpa using hb) e) f0 f1 f3 f4 f5
    refine ⟨_, rfl, go_of (s := { s with heap := h', toks := tk }) (n := "range_iterator") st' rfl rfl (by decide) ⟨.int (lo + i), H, I1, ⟨t, ?_⟩, ⟨rfl, rfl⟩, st', fun b hb => (hf b hb).1⟩⟩
    rw [Int.mul_one]
  done := by
    intro X hP hw hK hc i pins s σ H E I hf st hg
    subst hP hw hK
    obtain ⟨f0, f1, f2, f3, f4, f5⟩ := hf it (by simp)
    exact wpAny_pyNext_range_end (I.ok.hd hc) st (by have : n ≤ i := hg; omega) fun h' eb => ⟨rfl, I.turned (t' := s.toks) (fun b o hb e => eb b o hb e) f0 f1 f3 f4 f5⟩
  self := fun _ _ _ _ _ st h => wpAny_pyIter_rangeiter st h
end L2
namespace L2
open PySem PySem.Spec PyProof.Rows
section
variable {X : Cx} {tg : Expr}
def iList (K : PySem.W.Frag) (tl : TE) : TI := fun σ H R => tl σ H fun x H1 => ∃ a, x = .ref a ∧ (∃ xs, SqL K H1 a xs) ∧ R (Itl K a) H1
def iTup (K : PySem.W.Frag) (tl : TE) : TI := fun σ H R => tl σ H fun x H1 => ∃ a, x = .ref a ∧ (∃ xs, SqT K H1 a xs) ∧ R (Itt K a) H1
theorem pi_list {l : Expr} {tl : TE} (hl : PE X l tl) : PI X tg l (iList X.K tl) := by
  intro pins s σ H R I h
  refine thn (hl pins s σ H _ I h) fun v s1 ⟨x, H1, I1, r1, q1⟩ => ?_
  obtain ⟨a, e, ⟨xs, hq⟩, q⟩ := q1
  subst e
  cases r1
  obtain ⟨its, rv, p, hz⟩ := I1.list hq
  refine wpAny_pyIter_list p.isList ?_
  refine ⟨s1.heap.objs.size, [s1.heap.objs.size], _, _, H1, rfl, I1.kept (t' := s1.toks) fun b o e => Heap.get?_push_of_some _ e, turn_list a _, ⟨_, Heap.get?_push_size _ rfl, rfl, rfl⟩, fun b hb => ?_, q⟩
  have e : b = s1.heap.objs.size := by simpa using hb
  subst e
  exact I1.fpOk (Nat.le_refl _) (I1.hok.fresh (Nat.le_refl _))
theorem pi_tup {l : Expr} {tl : TE} (hl : PE X l tl) : PI X tg l (iTup X.K tl) := by
  intro pins s σ H R I h
  refine thn (hl pins s σ H _ I h) fun v s1 ⟨x, H1, I1, r1, q1⟩ => ?_
  obtain ⟨a, e, ⟨xs, hq⟩, q⟩ := q1
  subst e
  cases r1
  obtain ⟨its, rv, p, hz⟩ := I1.tuple hq
  refine wpAny_pyIter_tuple (show s1.heap.IsTuple a its.toArray from p) ?_
  refine ⟨s1.heap.objs.size, [s1.heap.objs.size], _, _, H1, rfl, I1.kept (t' := s1.toks) fun b o e => Heap.get?_push_of_some _ e, turn_tuple a _, ⟨_, Heap.get?_push_size _ rfl, rfl, rfl⟩, fun b hb => ?_, q⟩
  have e : b = s1.heap.objs.size := by simpa using hb
  subst e
  exact I1.fpOk (Nat.le_refl _) (I1.hok.fresh (Nat.le_refl _))
theorem range_it {pins : List (Addr × Obj)} {σ : St} {H : Hp} {s : Shared} {R : It → Hp → Prop} {E : Value → Shared → Prop} {lo hi : Int} {t u v : Tok} {tk : Nat} (I : Inv X pins σ H s) (h1 : -(2 ^ 62) ≤ lo) (h2 : lo < 2 ^ 62) (h3 : -(2 ^ 62) ≤ hi) (h4 : hi < 2 ^ 62)
    (q : R (Itr lo (hi - lo).toNat) H) : wpAny (model X.prog X.w) X.A (pyIter (.ref s.heap.objs.size)) (PIE X pins σ tg R) E { s with heap := s.heap.push { cls := .type "range", data := .fields #[.int lo t, .int hi u, .int 1 v] }, toks := tk } := by
  refine wpAny_pyIter_range (IsRange.new ..) (small_one h1 h2 h3 h4) ?_
  have I1 : Inv X pins σ H { s with heap := s.heap.push { cls := .type "range", data := .fields #[.int lo t, .int hi u, .int 1 v] }, toks := tk } := I.kept fun b o e => Heap.get?_push_of_some _ e
  refine ⟨(s.heap.push { cls := .type "range", data := .fields #[.int lo t, .int hi u, .int 1 v] }).objs.size, [(s.heap.push { cls := .type "range", data := .fields #[.int lo t, .int hi u, .int 1 v] }).objs.size], _, _, H, rfl,
    I1.kept (t' := tk) fun b o e => Heap.get?_push_of_some _ e, turn_range _ lo (hi - lo).toNat, ?_, fun b hb => ?_, q⟩
  · have e1 : lo + ((0 : Nat) : Int) * 1 = lo := by simp
    have e2 : (((hi - lo).toNat : Nat) : Int) - ((0 : Nat) : Int) = Builtin.Range.rangeSize lo hi 1 := by rw [rangeSize_one]; split <;> omega
    show IsRangeIter _ _ (lo + ((0 : Nat) : Int) * 1) ((((hi - lo).toNat : Nat) : Int) - ((0 : Nat) : Int)) 1
    rw [e1, e2]
    exact Heap.get?_push_size _ rfl
  · have e : b = (s.heap.push { cls := .type "range", data := .fields #[.int lo t, .int hi u, .int 1 v] }).objs.size := by simpa using hb
    subst e
    exact I1.fpOk (Nat.le_refl _) (I1.hok.fresh (Nat.le_refl _))
def iRng1 (ta : TA) : TI := fun σ H R => ta σ H fun vs H1 => ∃ j : Int, vs = [.int j] ∧ -(2 ^ 62) ≤ j ∧ j < 2 ^ 62 ∧ R (Itr 0 j.toNat) H1
def iRng2 (ta : TA) : TI := fun σ H R => ta σ H fun vs H1 => ∃ i j : Int, vs = [.int i, .int j] ∧ (-(2 ^ 62) ≤ i ∧ i < 2 ^ 62 ∧ -(2 ^ 62) ≤ j ∧ j < 2 ^ 62) ∧ R (Itr i (j - i).toNat) H1
theorem pi_range1 {a : Expr} {ta : TA} {p pos : Pos} (hg : Gl X "range") (hm : X.mg "range" = none) (ha : PA X [a] ta) (hs : starEach [a] X.env = [(false, eval a X.env)] := by rfl) : PI X tg (.Call (.Name "range" p) [a] [] pos) (iRng1 ta) := by
  intro pins s σ H R I h
  refine Call_ (ld_blt I hg hm boot_range (PyProof.Rows.callWith_type1 (thn (ha pos pins s σ H _ I h) fun us s1 ⟨vs, H1, I1, r1, q1⟩ => ?_) hs rfl))
  obtain ⟨j, e, q1, q2, q⟩ := q1
  subst e
  cases r1 with
  | cons r rr =>
    cases rr
    obtain ⟨t, rfl⟩ := r
    exact call_range_1 (range_it I1 (by omega) (by omega) q1 q2 (by simpa using q))
theorem pi_range2 {a b : Expr} {ta : TA} {p pos : Pos} (hg : Gl X "range") (hm : X.mg "range" = none) (ha : PA X [a, b] ta) (hs : starEach [a, b] X.env = [(false, eval a X.env), (false, eval b X.env)] := by rfl) (hs2 : starEach [b] X.env = [(false, eval b X.env)] := by rfl) :
    PI X tg (.Call (.Name "range" p) [a, b] [] pos) (iRng2 ta) := by
  intro pins s σ H R I h
  refine Call_ (ld_blt I hg hm boot_range (PyProof.Rows.callWith_type1 (thn (ha pos pins s σ H _ I h) fun us s1 ⟨vs, H1, I1, r1, q1⟩ => ?_) (by rw [hs, hs2]) (by rw [hs2]; rfl)))
  obtain ⟨i, j, e, ⟨q1, q2, q3, q4⟩, q⟩ := q1
  subst e
  cases r1 with
  | cons r rr =>
    cases rr with
    | cons r' rr =>
      cases rr
      obtain ⟨t, rfl⟩ := r
      obtain ⟨t', rfl⟩ := r'
      exact call_range_2 (range_it I1 q1 q2 q3 q4 q)
def tFor (wi : TI) (g : TG) (tb : TS) : TS := fun D σ H => wi σ H fun J H1 => ∃ W : Nat → Nat → St → Hp → Prop, (∃ m, W 0 m σ H1) ∧ ∀ i m σ H, W i m σ H →
  (J.stop i H ∧ D.nx σ H) ∨ (J.go i H ∧ ∃ N : St → Hp → Prop, (∀ σ' H', N σ' H' → ∃ m', m' < m ∧ W (i + 1) m' σ' H') ∧ ∀ x H', J.yld i H x H' → g x σ H' fun σ2 H2 => tb { D with nx := N, ct := N, bk := D.nx } σ2 H2)
def pinsAt (fp : List Addr) (h : Heap) : List (Addr × Obj) := fp.filterMap fun b => (h.get? b).map fun o => (b, o)
theorem mem_pinsAt {fp : List Addr} {h : Heap} {b : Addr} {o : Obj} (hb : b ∈ fp) (e : h.get? b = some o) : (b, o) ∈ pinsAt fp h := List.mem_filterMap.mpr ⟨b, hb, by rw [e]; rfl⟩
theorem of_pinsAt {fp : List Addr} {h : Heap} {p : Addr × Obj} (hp : p ∈ pinsAt fp h) : p.1 ∈ fp ∧ h.get? p.1 = some p.2 := by
  obtain ⟨b, hb, e⟩ := List.mem_filterMap.mp hp
  cases q : h.get? b with
  | none => rw [q] at e; cases e
  | some o =>
    rw [q] at e
    have e' : (b, o) = p := Option.some.inj e
    subst e'
    exact ⟨hb, q⟩
theorem Inv.pinned {pins : List (Addr × Obj)} {σ : St} {H : Hp} {s : Shared} {fp : List Addr} (I : Inv X pins σ H s) (hf : ∀ b ∈ fp, FpOk X pins H b) (ho : ∀ b ∈ fp, ∃ o, s.heap.get? b = some o ∧ ∀ v, o.data ≠ .cell v) : Inv X (pins ++ pinsAt fp s.heap) σ H s :=
  I.pins_of fun p hp => (List.mem_append.mp hp).elim (fun z => I.pin p (List.mem_append_right _ z)) fun z => by
    obtain ⟨hb, e⟩ := of_pinsAt z
    obtain ⟨f0, f1, f2, _⟩ := hf p.1 hb
    obtain ⟨o, e', d⟩ := ho p.1 hb
    rw [e] at e'; cases e'
    exact ⟨e, f0, f1, f2, d⟩
theorem Inv.unpinned {pins pl : List (Addr × Obj)} {σ : St} {H : Hp} {s : Shared} (I : Inv X (pins ++ pl) σ H s) : Inv X pins σ H s := I.pins_of fun p hp => I.pin p (List.mem_append_right _ (List.mem_append_left _ hp))
theorem ps_for {iter : Expr} {body : List Stmt} {wi : TI} {g : TG} {tb : TS} {pos : Pos} (hp : PassesOwn (model X.prog X.w) X.A X.env X.xe) (hc : X.calm = true) (hi : PI X tg iter wi) (hg : PG X tg g) (hb : PSs X body tb)
    (hs : ∀ x, foldedSetIterable iter X.env x = pure x := by intro _; rfl) : PS X (.For tg iter body [] pos) (tFor wi g tb) := by
  intro pins s σ H D I h
  refine wpAny_For (thn (hi pins s σ H _ I h) fun v s1 h1 => thn h1 fun itv s2 h2 => ?_) hs
  obtain ⟨it, fp, tn, J, H2, e, I2, T, st2, f2, W, ⟨m0, w0⟩, turn⟩ := h2
  subst e
  have stat : ∀ {H' : Hp}, (∀ b ∈ fp, H' b = none) → ∀ b ∈ fp, FpOk X pins H' b := fun hn b hb => ⟨hn b hb, (f2 b hb).2⟩
  refine codeAny_forLoop_any (fun n s' => ∃ i σ' H', Inv X pins σ' H' s' ∧ tn i s'.heap ∧ (∀ b ∈ fp, H' b = none) ∧ W i n σ' H') ?_ m0 ⟨0, σ, H2, I2, st2, fun b hb => (f2 b hb).1, w0⟩
  rintro n s3 ⟨i, σ3, H3, I3, st3, fr3, w3⟩
  rcases turn i n σ3 H3 w3 with ⟨stop, qn⟩ | ⟨go, N, hN, step⟩
  · refine wpAny_passesOwn hp (thn (T.done X rfl rfl rfl hc i pins s3 σ3 H3 X.xe I3 (stat fr3) st3 stop) fun r s4 ⟨hr, I4⟩ => ?_)
    subst hr
    exact wpAny_execs_nil ⟨σ3, H3, I4, qn⟩
  · refine wpAny_passesOwn hp (thn (T.item X rfl rfl rfl hc i pins s3 σ3 H3 X.xe I3 (stat fr3) st3 go) fun r s4 ⟨u, hr, h4⟩ => ?_)
    subst hr
    refine wpAny_passesOwn hp (thn h4 fun _ s5 ⟨x, H5, I5, r5, y5, st5, fr5⟩ => ?_)
    have I5' := I5.pinned (stat fr5) (T.obj _ _ st5)
    refine wpAny_passesOwn hp (thn (hg _ s5 σ3 H5 x u _ I5' r5 (step x H5 y5)) fun _ s6 ⟨σ6, H6, I6, q6⟩ => ?_)
    refine wpAny_passesOwn hp (thn (hb _ s6 σ6 H6 _ I6 q6) fun f s7 q7 => ?_)
    have again : ∀ {σ7 : St} {H7 : Hp}, Inv X (pins ++ pinsAt fp s5.heap) σ7 H7 s7 → N σ7 H7 → ∃ m, m < n ∧ ∃ i σ' H', Inv X pins σ' H' s7 ∧ tn i s7.heap ∧ (∀ b ∈ fp, H' b = none) ∧ W i m σ' H' := fun {σ7 H7} I7 n7 => by
      obtain ⟨m', hm, w7⟩ := hN σ7 H7 n7
      refine ⟨m', hm, i + 1, σ7, H7, I7.unpinned, T.keep _ _ _ st5 fun b hb o e => (I7.pin (b, o) (List.mem_append_right _ (List.mem_append_right _ (mem_pinsAt hb e)))).1, fun b hb => ?_, w7⟩
      obtain ⟨o, e, d⟩ := T.obj _ _ st5 b hb
      exact (I7.pin (b, o) (List.mem_append_right _ (List.mem_append_right _ (mem_pinsAt hb e)))).2.1
    cases f with
    | next => obtain ⟨σ7, H7, I7, n7⟩ := q7; exact again I7 n7
    | cont => obtain ⟨σ7, H7, I7, n7⟩ := q7; exact again I7 n7
    | brk => obtain ⟨σ7, H7, I7, q7⟩ := q7; exact ⟨σ7, H7, I7.unpinned, q7⟩
    | ret v => obtain ⟨x7, σ7, H7, I7, r7, q7⟩ := q7; exact ⟨x7, σ7, H7, I7.unpinned, r7, q7⟩
end
theorem for_list {K : PySem.W.Frag} {a : Addr} {xs : List V} {g : TG} {tb : TS} {D : Ends} {σ : St} {H : Hp} (Pv : Nat → St → Hp → Prop) (h0 : Pv 0 σ H) (hl : ∀ i σ H, i ≤ xs.length → Pv i σ H → SqL K H a xs)
    (hs : ∀ i x σ H, xs[i]? = some x → Pv i σ H → g x σ H fun σ2 H2 => tb { D with nx := Pv (i + 1), ct := Pv (i + 1), bk := D.nx } σ2 H2) (hd : ∀ σ H, Pv xs.length σ H → D.nx σ H) :
    ∃ W : Nat → Nat → St → Hp → Prop, (∃ m, W 0 m σ H) ∧ ∀ i m σ H, W i m σ H →
      ((Itl K a).stop i H ∧ D.nx σ H) ∨ ((Itl K a).go i H ∧ ∃ N : St → Hp → Prop, (∀ σ' H', N σ' H' → ∃ m', m' < m ∧ W (i + 1) m' σ' H') ∧ ∀ x H', (Itl K a).yld i H x H' → g x σ H' fun σ2 H2 => tb { D with nx := N, ct := N, bk := D.nx } σ2 H2) := by
  refine ⟨fun i m σ H => m = xs.length - i ∧ i ≤ xs.length ∧ Pv i σ H, ⟨xs.length, by simp, Nat.zero_le _, h0⟩, ?_⟩
  rintro i m σ H ⟨rfl, hi, p⟩
  have q := hl i σ H hi p
  by_cases hlt : i < xs.length
  · refine .inr ⟨⟨xs, xs[i], q, by simp [hlt]⟩, Pv (i + 1), fun σ' H' p' => ⟨xs.length - (i + 1), by omega, rfl, hlt, p'⟩, fun x H' y => ?_⟩
    obtain ⟨e, y⟩ := y
    subst e
    exact hs i x σ _ (y xs q) p
  · have e : i = xs.length := by omega
    subst e
    exact .inl ⟨⟨xs, q, Nat.le_refl _⟩, hd σ H p⟩
theorem for_tup {K : PySem.W.Frag} {a : Addr} {xs : List V} {g : TG} {tb : TS} {D : Ends} {σ : St} {H : Hp} (Pv : Nat → St → Hp → Prop) (h0 : Pv 0 σ H) (hl : ∀ i σ H, i ≤ xs.length → Pv i σ H → SqT K H a xs)
    (hs : ∀ i x σ H, xs[i]? = some x → Pv i σ H → g x σ H fun σ2 H2 => tb { D with nx := Pv (i + 1), ct := Pv (i + 1), bk := D.nx } σ2 H2) (hd : ∀ σ H, Pv xs.length σ H → D.nx σ H) :
    ∃ W : Nat → Nat → St → Hp → Prop, (∃ m, W 0 m σ H) ∧ ∀ i m σ H, W i m σ H →
      ((Itt K a).stop i H ∧ D.nx σ H) ∨ ((Itt K a).go i H ∧ ∃ N : St → Hp → Prop, (∀ σ' H', N σ' H' → ∃ m', m' < m ∧ W (i + 1) m' σ' H') ∧ ∀ x H', (Itt K a).yld i H x H' → g x σ H' fun σ2 H2 => tb { D with nx := N, ct := N, bk := D.nx } σ2 H2) := by
  refine ⟨fun i m σ H => m = xs.length - i ∧ i ≤ xs.length ∧ Pv i σ H, ⟨xs.length, by simp, Nat.zero_le _, h0⟩, ?_⟩
  rintro i m σ H ⟨rfl, hi, p⟩
  have q := hl i σ H hi p
  by_cases hlt : i < xs.length
  · refine .inr ⟨⟨xs, xs[i], q, by simp [hlt]⟩, Pv (i + 1), fun σ' H' p' => ⟨xs.length - (i + 1), by omega, rfl, hlt, p'⟩, fun x H' y => ?_⟩
    obtain ⟨e, y⟩ := y
    subst e
    exact hs i x σ _ (y xs q) p
  · have e : i = xs.length := by omega
    subst e
    exact .inl ⟨⟨xs, q, Nat.le_refl _⟩, hd σ H p⟩
theorem for_range {lo : Int} {n : Nat} {g : TG} {tb : TS} {D : Ends} {σ : St} {H : Hp} (Pv : Nat → St → Hp → Prop) (h0 : Pv 0 σ H)
    (hs : ∀ i σ H, i < n → Pv i σ H → g (.int (lo + i)) σ H fun σ2 H2 => tb { D with nx := Pv (i + 1), ct := Pv (i + 1), bk := D.nx } σ2 H2) (hd : ∀ σ H, Pv n σ H → D.nx σ H) :
    ∃ W : Nat → Nat → St → Hp → Prop, (∃ m, W 0 m σ H) ∧ ∀ i m σ H, W i m σ H →
      ((Itr lo n).stop i H ∧ D.nx σ H) ∨ ((Itr lo n).go i H ∧ ∃ N : St → Hp → Prop, (∀ σ' H', N σ' H' → ∃ m', m' < m ∧ W (i + 1) m' σ' H') ∧ ∀ x H', (Itr lo n).yld i H x H' → g x σ H' fun σ2 H2 => tb { D with nx := N, ct := N, bk := D.nx } σ2 H2) := by
  refine ⟨fun i m σ H => m = n - i ∧ i ≤ n ∧ Pv i σ H, ⟨n, by simp, Nat.zero_le _, h0⟩, ?_⟩
  rintro i m σ H ⟨rfl, hi, p⟩
  by_cases hlt : i < n
  · refine .inr ⟨hlt, Pv (i + 1), fun σ' H' p' => ⟨n - (i + 1), by omega, rfl, hlt, p'⟩, fun x H' y => ?_⟩
    obtain ⟨e, y⟩ := y
    subst e y
    exact hs i σ _ hlt p
  · have e : i = n := by omega
    subst e
    exact .inl ⟨Nat.le_refl _, hd σ H p⟩
end L2
namespace L2
open PySem PySem.Spec PyProof.Rows
abbrev R2 := V → V → Hp → VK → Prop
def OpR (X : Cx) (f : Value → Value → Sem Value) (r : R2) : Prop :=
  ∀ (pins : List (Addr × Obj)) (s : Shared) (σ : St) (H : Hp) (x y : V) (v u : Value) (Q : VK), Inv X pins σ H s → RelV x v → RelV y u → r x y H Q →
    wpAny (model X.prog X.w) X.A (f v u) (EP X pins σ Q) X.xe s
def UnR (X : Cx) (f : Value → Sem Value) (r : V → Hp → VK → Prop) : Prop :=
  ∀ (pins : List (Addr × Obj)) (s : Shared) (σ : St) (H : Hp) (x : V) (v : Value) (Q : VK), Inv X pins σ H s → RelV x v → r x H Q →
    wpAny (model X.prog X.w) X.A (f v) (EP X pins σ Q) X.xe s
def CallR (X : Cx) (f : Value) (r : List V → Hp → VK → Prop) : Prop :=
  ∀ (pins : List (Addr × Obj)) (s : Shared) (σ : St) (H : Hp) (xs : List V) (us : List Value) (Q : VK), Inv X pins σ H s → Vals xs us → r xs H Q →
    wpAny (model X.prog X.w) X.A (call f us) (EP X pins σ Q) X.xe s
def TruR (X : Cx) (r : V → Hp → (Bool → Hp → Prop) → Prop) : Prop :=
  ∀ (pins : List (Addr × Obj)) (s : Shared) (σ : St) (H : Hp) (x : V) (v : Value) (Q : Bool → Hp → Prop), Inv X pins σ H s → RelV x v → r x H Q →
    wpAny (model X.prog X.w) X.A (truthy v) (TP X pins σ Q) X.xe s
def tOp (r : R2) (ta tb : TE) : TE := fun σ H Q => ta σ H fun x H1 => tb σ H1 fun y H2 => r x y H2 Q
def tUn (r : V → Hp → VK → Prop) (ta : TE) : TE := fun σ H Q => ta σ H fun x H1 => r x H1 Q
def rI (C : Int → Int → Prop) (g : Int → Int → V) : R2 := fun x y H Q => ∃ i j, x = .int i ∧ y = .int j ∧ C i j ∧ Q (g i j) H
def rI0 (g : Int → Int → V) : R2 := fun x y H Q => ∃ i j, x = .int i ∧ y = .int j ∧ Q (g i j) H
def rU (g : Int → V) : V → Hp → VK → Prop := fun x H Q => ∃ i, x = .int i ∧ Q (g i) H
section
variable {X : Cx} {a b c : Expr} {ta tb tc : TE} {pos : Pos}
theorem binT (ha : PE X a ta) (hb : PE X b tb) {pins : List (Addr × Obj)} {s : Shared} {σ : St} {H : Hp} {R : V → V → Hp → Prop} (I : Inv X pins σ H s)
    (h : ta σ H fun x H1 => tb σ H1 fun y H2 => R x y H2) {Q : Value → Shared → Prop} {f : Value → Value → Sem Value}
    (hf : ∀ v u s2 x y H2, Inv X pins σ H2 s2 → RelV x v → RelV y u → R x y H2 → wpAny (model X.prog X.w) X.A (f v u) Q X.xe s2) :
    wpAny (model X.prog X.w) X.A (eval a X.env) (fun v s₁ => wpAny (model X.prog X.w) X.A (eval b X.env) (fun u s₂ => wpAny (model X.prog X.w) X.A (f v u) Q X.xe s₂) X.xe s₁) X.xe s := by
  refine thn (ha pins s σ H _ I h) fun v s1 ⟨x, H1, I1, r1, q1⟩ => ?_
  refine thn (hb pins s1 σ H1 _ I1 q1) fun u s2 ⟨y, H2, I2, r2, q2⟩ => ?_
  exact hf v u s2 x y H2 I2 r1 r2 q2
theorem pe_op {op : Operator} {r : R2} (ho : OpR X (binaryOp op) r) (ha : PE X a ta) (hb : PE X b tb) : PE X (.BinOp a op b pos) (tOp r ta tb) := by
  intro pins s σ H Q I h
  exact wpAny_BinOp (binT ha hb I h fun v u s2 x y H2 I2 rx ry q => ho pins s2 σ H2 x y v u Q I2 rx ry q)
theorem pe_un {op : UnaryOp} {r : V → Hp → VK → Prop} (ho : UnR X (unaryOp op) r) (ha : PE X a ta) : PE X (.UnaryOp op a pos) (tUn r ta) := by
  intro pins s σ H Q I h
  exact UnaryOp_ (thn (ha pins s σ H _ I h) fun v s1 ⟨x, H1, I1, r1, q1⟩ => ho pins s1 σ H1 x v Q I1 r1 q1)
theorem opI {f : Value → Value → Sem Value} {C : Int → Int → Prop} {g : Int → Int → Int}
    (rule : ∀ (i j : Int) (t u : Tok) (s : Shared) (Q : Value → Shared → Prop) (E : Value → Shared → Prop), C i j → Q (.int (g i j) s.toks) { s with toks := s.toks + 1 } → wpAny (model X.prog X.w) X.A (f (.int i t) (.int j u)) Q E s) :
    OpR X f (rI C fun i j => .int (g i j)) := by
  intro pins s σ H x y v u Q I rx ry h
  obtain ⟨i, j, rfl, rfl, hc, q⟩ := h
  obtain ⟨t, rfl⟩ := rx
  obtain ⟨t', rfl⟩ := ry
  exact rule i j t t' s _ _ hc ⟨.int (g i j), H, I.tok _, ⟨_, rfl⟩, q⟩
theorem opI0 {f : Value → Value → Sem Value} {g : Int → Int → Int}
    (rule : ∀ (i j : Int) (t u : Tok) (s : Shared) (Q : Value → Shared → Prop) (E : Value → Shared → Prop), Q (.int (g i j) s.toks) { s with toks := s.toks + 1 } → wpAny (model X.prog X.w) X.A (f (.int i t) (.int j u)) Q E s) :
    OpR X f (rI0 fun i j => .int (g i j)) := by
  intro pins s σ H x y v u Q I rx ry h
  obtain ⟨i, j, rfl, rfl, q⟩ := h
  obtain ⟨t, rfl⟩ := rx
  obtain ⟨t', rfl⟩ := ry
  exact rule i j t t' s _ _ ⟨.int (g i j), H, I.tok _, ⟨_, rfl⟩, q⟩
theorem opB0 {f : Value → Value → Sem Value} {g : Int → Int → Bool}
    (rule : ∀ (i j : Int) (t u : Tok) (s : Shared) (Q : Value → Shared → Prop) (E : Value → Shared → Prop), Q (.bool (g i j)) s → wpAny (model X.prog X.w) X.A (f (.int i t) (.int j u)) Q E s) :
    OpR X f (rI0 fun i j => .bl (g i j)) := by
  intro pins s σ H x y v u Q I rx ry h
  obtain ⟨i, j, rfl, rfl, q⟩ := h
  obtain ⟨t, rfl⟩ := rx
  obtain ⟨t', rfl⟩ := ry
  exact rule i j t t' s _ _ ⟨.bl (g i j), H, I, rfl, q⟩
def CDiv (i j : Int) : Prop := 0 < j ∧ j < 1073741824
def CPow (i j : Int) : Prop := 0 ≤ j ∧ j ≤ 1000000 ∧ i.natAbs < 2 ^ 64
def CMul (i j : Int) : Prop := (-(2 ^ 64) < i ∧ i < 2 ^ 64) ∨ (-(2 ^ 64) < j ∧ j < 2 ^ 64)
theorem CMul.ok {i j : Int} (h : CMul i j) : IntMulOk i j := by
  rcases h with ⟨h1, h2⟩ | ⟨h1, h2⟩
  · exact .of_left (intBits_le_64 h1 h2)
  · exact .of_right (intBits_le_64 h1 h2)
theorem two_pow_nn (k : Nat) : (0 : Int) ≤ 2 ^ k := by
  rw [two_pow_cast]
  exact Int.natCast_nonneg _
theorem op_add : OpR X (binaryOp .Add) (rI0 fun i j => .int (i + j)) := opI0 fun _ _ _ _ _ _ _ q => add_int q
theorem op_sub : OpR X (binaryOp .Sub) (rI0 fun i j => .int (i - j)) := opI0 fun _ _ _ _ _ _ _ q => sub_int q
theorem op_mul : OpR X (binaryOp .Mult) (rI CMul fun i j => .int (i * j)) := opI fun _ _ _ _ _ _ _ hc q => mul_int q hc.ok
theorem op_fdiv : OpR X (binaryOp .FloorDiv) (rI CDiv fun i j => .int (i / j)) := opI fun i j _ _ _ _ _ hc q => by
  have h1 : (0 : Int) < j := hc.1
  have h2 : j < 1073741824 := hc.2
  exact floordiv_int (by omega) (by rw [Int.fdiv_eq_ediv_of_nonneg i (by omega)]; exact q) (.inl (PyProof.noPylong_small (by omega)))
theorem op_mod : OpR X (binaryOp .Mod) (rI (fun _ j => 0 < j) fun i j => .int (i % j)) := opI fun i j _ _ _ _ _ hc q => by
  have h1 : (0 : Int) < j := hc
  exact mod_int' (by omega) (by rw [Int.fmod_eq_emod_of_nonneg i (by omega)]; exact q)
theorem op_pow : OpR X (binaryOp .Pow) (rI CPow fun i j => .int (i ^ j.toNat)) := opI fun _ _ _ _ _ _ _ hc q => pow_int_small hc.1 hc.2.1 hc.2.2 q
theorem op_shr : OpR X (binaryOp .RShift) (rI (fun _ j => 0 ≤ j) fun i j => .int (i / 2 ^ j.toNat)) := opI fun i j _ _ _ _ _ hc q =>
  rshift_int hc (by rw [Int.fdiv_eq_ediv_of_nonneg i (two_pow_nn _)]; exact q)
theorem op_and : OpR X (binaryOp .BitAnd) (rI0 fun i j => .int (Builtin.bitAnd i j)) := opI0 fun _ _ _ _ _ _ _ q => and_int q
theorem unI {f : Value → Sem Value} {g : Int → Int}
    (rule : ∀ (i : Int) (t : Tok) (s : Shared) (Q : Value → Shared → Prop) (E : Value → Shared → Prop), Q (.int (g i) s.toks) { s with toks := s.toks + 1 } → wpAny (model X.prog X.w) X.A (f (.int i t)) Q E s) :
    UnR X f (rU fun i => .int (g i)) := by
  intro pins s σ H x v Q I rx h
  obtain ⟨i, rfl, q⟩ := h
  obtain ⟨t, rfl⟩ := rx
  exact rule i t s _ _ ⟨.int (g i), H, I.tok _, ⟨_, rfl⟩, q⟩
theorem un_neg : UnR X (unaryOp .USub) (rU fun i => .int (-i)) := unI fun _ _ _ _ _ q => neg_int q
end
def scal : V → V → Bool
  | .non, .non => true | .non, .int _ => true | .int _, .non => true | .non, .bl _ => true | .bl _, .non => true | .non, .str _ => true | .str _, .non => true
  | .int _, .int _ => true | .bl _, .bl _ => true | .str _, .str _ => true | .byt _, .byt _ => true
  | .int _, .str _ => true | .str _, .int _ => true | .bl _, .str _ => true | .str _, .bl _ => true
  | _, _ => false
def rEq : R2 := fun x y H Q => scal x y = true ∧ Q (.bl (decide (x = y))) H
def rNe : R2 := fun x y H Q => scal x y = true ∧ Q (.bl (!decide (x = y))) H
theorem dec_int {i j : Int} : decide (V.int i = V.int j) = (i == j) := by
  rw [Bool.eq_iff_iff]
  simp
theorem dec_bl {i j : Bool} : decide (V.bl i = V.bl j) = (i == j) := by
  rw [Bool.eq_iff_iff]
  simp
theorem dec_str {i j : Str} : decide (V.str i = V.str j) = (i == j) := by
  rw [Bool.eq_iff_iff]
  simp
theorem dec_byt {i j : Array UInt8} : decide (V.byt i = V.byt j) = (i.toList == j.toList) := by
  rw [Bool.eq_iff_iff]
  cases i
  cases j
  simp
section
variable {X : Cx} {a b c : Expr} {ta tb tc : TE} {pos : Pos}
theorem fin_bl {pins : List (Addr × Obj)} {σ : St} {H : Hp} {s : Shared} {Q : VK} {k k' : Bool} (I : Inv X pins σ H s) (q : Q (.bl k) H) (e : k = k') : EP X pins σ Q (.bool k') s := by
  subst e
  exact ⟨.bl k, H, I, rfl, q⟩
theorem op_eq : OpR X (compareOp .Eq) rEq := by
  intro pins s σ H x y v u Q I rx ry h
  obtain ⟨hs, q⟩ := h
  cases x with
  | non =>
    cases rx
    cases y with
    | non => cases ry; exact PySem.EqNone.eq_none_none (fin_bl I q (by simp))
    | bl j => cases ry; exact PySem.EqNone.eq_none_bool (fin_bl I q (by simp))
    | int j => obtain ⟨t', rfl⟩ := ry; exact PySem.EqNone.eq_none_int (fin_bl I q (by simp))
    | str j => obtain ⟨t', rfl⟩ := ry; exact PySem.EqNone.eq_none_str (fin_bl I q (by simp))
    | _ => exact absurd (show false = true from hs) Bool.false_ne_true
  | bl i =>
    cases rx
    cases y with
    | non => cases ry; exact PySem.EqNone.eq_bool_none (fin_bl I q (by simp))
    | bl j => cases ry; exact eq_bool (fin_bl I q dec_bl)
    | str j => obtain ⟨t', rfl⟩ := ry; exact PySem.EqMixed.eq_bool_str (fin_bl I q (by simp))
    | _ => exact absurd (show false = true from hs) Bool.false_ne_true
  | int i =>
    obtain ⟨t, rfl⟩ := rx
    cases y with
    | non => cases ry; exact PySem.EqNone.eq_int_none (fin_bl I q (by simp))
    | int j => obtain ⟨t', rfl⟩ := ry; exact eq_int (fin_bl I q dec_int)
    | str j => obtain ⟨t', rfl⟩ := ry; exact PySem.EqMixed.eq_int_str (fin_bl I q (by simp))
    | _ => exact absurd (show false = true from hs) Bool.false_ne_true
  | str i =>
    obtain ⟨t, rfl⟩ := rx
    cases y with
    | non => cases ry; exact PySem.EqNone.eq_str_none (fin_bl I q (by simp))
    | bl j => cases ry; exact PySem.EqMixed.eq_str_bool (fin_bl I q (by simp))
    | int j => obtain ⟨t', rfl⟩ := ry; exact PySem.EqMixed.eq_str_int (fin_bl I q (by simp))
    | str j => obtain ⟨t', rfl⟩ := ry; exact eq_str (fin_bl I q dec_str)
    | _ => exact absurd (show false = true from hs) Bool.false_ne_true
  | byt i =>
    obtain ⟨t, rfl⟩ := rx
    cases y with
    | byt j => obtain ⟨t', rfl⟩ := ry; exact PySem.W.eq_bytes (fin_bl I q dec_byt)
    | _ => exact absurd (show false = true from hs) Bool.false_ne_true
  | _ => cases y <;> exact absurd (show false = true from hs) Bool.false_ne_true
theorem op_ne : OpR X (compareOp .NotEq) rNe := by
  intro pins s σ H x y v u Q I rx ry h
  obtain ⟨hs, q⟩ := h
  cases x with
  | non =>
    cases rx
    cases y with
    | non => cases ry; exact PySem.EqNone.ne_none_none (fin_bl I q (by simp))
    | bl j => cases ry; exact PySem.EqNone.ne_none_bool (fin_bl I q (by simp))
    | int j => obtain ⟨t', rfl⟩ := ry; exact PySem.EqNone.ne_none_int (fin_bl I q (by simp))
    | str j => obtain ⟨t', rfl⟩ := ry; exact PySem.EqNone.ne_none_str (fin_bl I q (by simp))
    | _ => exact absurd (show false = true from hs) Bool.false_ne_true
  | bl i =>
    cases rx
    cases y with
    | non => cases ry; exact PySem.EqNone.ne_bool_none (fin_bl I q (by simp))
    | bl j => cases ry; exact ne_bool (fin_bl I q (congrArg not dec_bl))
    | str j => obtain ⟨t', rfl⟩ := ry; exact PySem.EqMixed.ne_bool_str (fin_bl I q (by simp))
    | _ => exact absurd (show false = true from hs) Bool.false_ne_true
  | int i =>
    obtain ⟨t, rfl⟩ := rx
    cases y with
    | non => cases ry; exact PySem.EqNone.ne_int_none (fin_bl I q (by simp))
    | int j => obtain ⟨t', rfl⟩ := ry; exact ne_int (fin_bl I q (congrArg not dec_int))
    | str j => obtain ⟨t', rfl⟩ := ry; exact PySem.EqMixed.ne_int_str (fin_bl I q (by simp))
    | _ => exact absurd (show false = true from hs) Bool.false_ne_true
  | str i =>
    obtain ⟨t, rfl⟩ := rx
    cases y with
    | non => cases ry; exact PySem.EqNone.ne_str_none (fin_bl I q (by simp))
    | bl j => cases ry; exact PySem.EqMixed.ne_str_bool (fin_bl I q (by simp))
    | int j => obtain ⟨t', rfl⟩ := ry; exact PySem.EqMixed.ne_str_int (fin_bl I q (by simp))
    | str j => obtain ⟨t', rfl⟩ := ry; exact ne_str (fin_bl I q (congrArg not dec_str))
    | _ => exact absurd (show false = true from hs) Bool.false_ne_true
  | byt i =>
    obtain ⟨t, rfl⟩ := rx
    cases y with
    | byt j => obtain ⟨t', rfl⟩ := ry; exact PySem.W.ne_bytes (fin_bl I q (congrArg not dec_byt))
    | _ => exact absurd (show false = true from hs) Bool.false_ne_true
  | _ => cases y <;> exact absurd (show false = true from hs) Bool.false_ne_true
theorem op_lt : OpR X (compareOp .Lt) (rI0 fun i j => .bl (decide (i < j))) := opB0 fun _ _ _ _ _ _ _ q => lt_int q
theorem op_le : OpR X (compareOp .LtE) (rI0 fun i j => .bl (decide (i ≤ j))) := opB0 fun _ _ _ _ _ _ _ q => le_int q
theorem op_gt : OpR X (compareOp .Gt) (rI0 fun i j => .bl (decide (j < i))) := opB0 fun _ _ _ _ _ _ _ q => gt_int q
theorem op_ge : OpR X (compareOp .GtE) (rI0 fun i j => .bl (decide (j ≤ i))) := opB0 fun _ _ _ _ _ _ _ q => ge_int q
theorem op_in_str : OpR X (compareOp .In) (fun x y H Q => ∃ i j, x = .str i ∧ y = .str j ∧ Q (.bl (!(Builtin.Str.occurrences j i 0 j.length 1).isEmpty)) H) := by
  intro pins s σ H x y v u Q I rx ry h
  obtain ⟨i, j, rfl, rfl, q⟩ := h
  obtain ⟨t, rfl⟩ := rx
  obtain ⟨t', rfl⟩ := ry
  exact in_str (fin_bl I q rfl)
theorem nomark (b : Expr) {op : CmpOp} (h : op ≠ .In := by decide) (h2 : op ≠ .NotIn := by decide) : behindInMarks op b = false := by
  have e1 : (op == CmpOp.In) = false := by cases op <;> first | rfl | exact absurd rfl h
  have e2 : (op == CmpOp.NotIn) = false := by cases op <;> first | rfl | exact absurd rfl h2
  cases b <;> simp [behindInMarks, e1, e2]
theorem pe_cmpR {op : CmpOp} {r : R2} (ho : OpR X (compareOp op) r) (ha : PE X a ta) (hb : PE X b tb) (hm : behindInMarks op b = false) : PE X (.Compare a [op] [b] pos) (tOp r ta tb) := by
  intro pins s σ H Q I h
  exact wpAny_Compare1 (binT ha hb I h fun v u s2 x y H2 I2 rx ry q => ho pins s2 σ H2 x y v u Q I2 rx ry q) hm
def tTest (t : TE) : TT := fun σ H Q => t σ H fun x H' => ∃ k, x = .bl k ∧ Q k H'
theorem pt_cmpR {op : CmpOp} {r : R2} (ho : OpR X (compareOp op) r) (ha : PE X a ta) (hb : PE X b tb) (hm : behindInMarks op b = false) : PT X (.Compare a [op] [b] pos) (tTest (tOp r ta tb)) := by
  intro pins s σ H Q I h
  refine wpAny_isTrue_Compare1 (thn (ha pins s σ H _ I h) fun v s1 ⟨x, H1, I1, r1, q1⟩ => thn (hb pins s1 σ H1 _ I1 q1) fun u s2 ⟨y, H2, I2, r2, q2⟩ =>
    thn (ho pins s2 σ H2 x y v u _ I2 r1 r2 q2) fun c s3 ⟨z, H3, I3, r3, k, e, q3⟩ => ?_) hm
  subst e
  cases r3
  exact wpAny_truthy_bool ⟨H3, I3, q3⟩
def tChain (r r' : R2) (ta tb tc : TE) : TE := fun σ H Q => ta σ H fun x H1 => tb σ H1 fun y H2 => r x y H2 fun z H3 => ∃ k, z = .bl k ∧
  (if k = true then tc σ H3 fun w' H4 => r' y w' H4 Q else Q (.bl false) H3)
theorem pe_chain {op op' : CmpOp} {r r' : R2} (ho : OpR X (compareOp op) r) (ho' : OpR X (compareOp op') r') (ha : PE X a ta) (hb : PE X b tb) (hc : PE X c tc)
    (hm : lastMarks [op, op'] [b, c] = false := by with_unfolding_all rfl) : PE X (.Compare a [op, op'] [b, c] pos) (tChain r r' ta tb tc) := by
  intro pins s σ H Q I h
  refine Compare_chain (thn (ha pins s σ H _ I h) fun v s1 ⟨x, H1, I1, r1, q1⟩ => chain_link (thn (hb pins s1 σ H1 _ I1 q1) fun u s2 ⟨y, H2, I2, r2, q2⟩ =>
    thn (ho pins s2 σ H2 x y v u _ I2 r1 r2 q2) fun d s3 ⟨z, H3, I3, r3, k, e, q3⟩ => ?_)) hm
  subst e
  cases r3
  refine wpAny_truthy_bool ?_
  cases k with
  | false => exact ite_ff ⟨.bl false, H3, I3, rfl, q3⟩
  | true => exact ite_tt (chain_last (thn (hc pins s3 σ H3 _ I3 q3) fun w' s4 ⟨z', H4, I4, r4, q4⟩ => ho' pins s4 σ H4 y z' u w' Q I4 r2 r4 q4))
theorem pt_chain {op op' : CmpOp} {r r' : R2} (ho : OpR X (compareOp op) r) (ho' : OpR X (compareOp op') r') (ha : PE X a ta) (hb : PE X b tb) (hc : PE X c tc)
    (hm : lastMarks [op, op'] [b, c] = false := by with_unfolding_all rfl) : PT X (.Compare a [op, op'] [b, c] pos) (tTest (tChain r r' ta tb tc)) := by
  intro pins s σ H Q I h
  refine isTrue_chain (thn (ha pins s σ H _ I h) fun v s1 ⟨x, H1, I1, r1, q1⟩ => test_link (thn (hb pins s1 σ H1 _ I1 q1) fun u s2 ⟨y, H2, I2, r2, q2⟩ =>
    thn (ho pins s2 σ H2 x y v u _ I2 r1 r2 q2) fun d s3 ⟨z, H3, I3, r3, k, e, q3⟩ => ?_)) hm
  subst e
  cases r3
  refine wpAny_truthy_bool ?_
  cases k with
  | false =>
    obtain ⟨k', e', q'⟩ := q3
    cases e'
    exact ite_ff ⟨H3, I3, q'⟩
  | true =>
    refine ite_tt (test_last (thn (hc pins s3 σ H3 _ I3 q3) fun w' s4 ⟨z', H4, I4, r4, q4⟩ => thn (ho' pins s4 σ H4 y z' u w' _ I4 r2 r4 q4) fun d' s5 ⟨z2, H5, I5, r5, k2, e2, q5⟩ => ?_))
    subst e2
    cases r5
    exact wpAny_truthy_bool ⟨H5, I5, q5⟩
def TruV (K : PySem.W.Frag) (x : V) (H : Hp) (k : Bool) : Prop :=
  match x with
  | .non => k = false
  | .bl b => k = b
  | .int i => k = (i != 0)
  | .str y => y.length ≤ sizeLine ∧ k = ((y.length : Int) != 0)
  | .byt y => y.size ≤ sizeLine ∧ k = ((y.size : Int) != 0)
  | .ref p => (∃ xs, SqL K H p xs ∧ k = !xs.isEmpty) ∨ (∃ xs, SqT K H p xs ∧ k = !xs.isEmpty) ∨ ∃ kvs, H p = some (.dK kvs) ∧ k = !kvs.isEmpty
  | _ => False
theorem isEmpty_kv {κ : Type} {kvs : List (κ × V)} {vs : List (κ × Value)} (r : KV kvs vs) : (!vs.isEmpty) = !kvs.isEmpty := by
  cases r <;> rfl
theorem isEmpty_of {xs : List V} {its : List Value} (r : Vals xs its) : (!its.toArray.isEmpty) = !xs.isEmpty := by
  cases r <;> simp
theorem line63 : (sizeLine : Nat) < 2 ^ 63 := by rw [sizeLine_eq]; decide
theorem tru_ok : TruR X (fun x H Q => ∃ k, TruV X.K x H k ∧ Q k H) := by
  intro pins s σ H x v Q I rx h
  obtain ⟨k, e, q⟩ := h
  have hl := line63
  have hs : sizeLine = 16777216 := sizeLine_eq
  cases x with
  | non =>
    cases rx
    have e' : k = false := e
    subst e'
    exact truthy_none ⟨H, I, q⟩
  | bl b =>
    cases rx
    have e' : k = b := e
    subst e'
    exact wpAny_truthy_bool ⟨H, I, q⟩
  | int i =>
    obtain ⟨t, rfl⟩ := rx
    have e' : k = (i != 0) := e
    subst e'
    exact PySem.P.truthy_int ⟨H, I, q⟩
  | str y =>
    obtain ⟨t, rfl⟩ := rx
    obtain ⟨hy, e'⟩ : y.length ≤ sizeLine ∧ k = ((y.length : Int) != 0) := e
    subst e'
    exact PySem.P.truthy_str (by omega) ⟨H, I.tok _, q⟩
  | byt y =>
    obtain ⟨t, rfl⟩ := rx
    obtain ⟨hy, e'⟩ : y.size ≤ sizeLine ∧ k = ((y.size : Int) != 0) := e
    subst e'
    exact PySem.W.truthy_bytes (by omega) ⟨H, I.tok _, q⟩
  | ref p =>
    cases rx
    have e' : (∃ xs, SqL X.K H p xs ∧ k = !xs.isEmpty) ∨ (∃ xs, SqT X.K H p xs ∧ k = !xs.isEmpty) ∨ ∃ kvs, H p = some (.dK kvs) ∧ k = !kvs.isEmpty := e
    rcases e' with ⟨xs, hx, e'⟩ | ⟨xs, hx, e'⟩ | ⟨kvs, hx, e'⟩
    · subst e'
      obtain ⟨its, r, pl, hz⟩ := I.list hx
      have hlen := r.length
      exact wpAny_truthy_list pl.isList (by simp only [List.size_toArray]; omega) ⟨H, I.tok _, by rw [isEmpty_of r]; exact q⟩
    · subst e'
      obtain ⟨its, r, pl, hz⟩ := I.tuple hx
      have hlen := r.length
      exact truthy_tuple pl (by simp only [List.size_toArray]; omega) ⟨H, I.tok _, by rw [isEmpty_of r]; exact q⟩
    · subst e'
      obtain ⟨hz, hS, vs, r, m⟩ : kvs.length ≤ sizeLine ∧ (p == sysModules) = false ∧ ∃ vs, KV kvs vs ∧ s.heap.DictOf (mixKind X.prog X.w) p vs := I.hok p _ hx
      have hlen : kvs.length = vs.length := Paired.length r
      exact wpAny_truthy_dict hS m (by omega) ⟨H, I.tok _, by rw [isEmpty_kv r]; exact q⟩
  | _ => exact (show False from e).elim
theorem pt_truth (ha : PE X a ta) (he : ∀ whole, isTrue a X.env whole = (do let v ← whole; standAt a.pos; holding [v] (truthy v))) :
    PT X a (fun σ H Q => ta σ H fun x H' => ∃ k, TruV X.K x H' k ∧ Q k H') := by
  intro pins s σ H Q I h
  exact isTrue_plain (thn (ha pins s σ H _ I h) fun v s1 ⟨x, H1, I1, r1, q1⟩ => tru_ok pins s1 σ H1 x v Q I1 r1 q1) (he _)
theorem op_add_str : OpR X (binaryOp .Add) (fun x y H Q => ∃ i j, x = .str i ∧ y = .str j ∧ i.length + j.length ≤ sizeLine ∧ Q (.str (i ++ j)) H) := by
  intro pins s σ H x y v u Q I rx ry h
  obtain ⟨i, j, rfl, rfl, hz, q⟩ := h
  obtain ⟨t, rfl⟩ := rx
  obtain ⟨t', rfl⟩ := ry
  exact add_str (fun t' tk => ⟨.str (i ++ j), H, I.tok _, ⟨_, rfl⟩, q⟩) hz
theorem vals1 {x : V} {us : List Value} (r : Vals [x] us) : ∃ u, us = [u] ∧ RelV x u := by
  cases r with
  | cons r1 r2 => cases r2; exact ⟨_, rfl, r1⟩
theorem vals2 {x y : V} {us : List Value} (r : Vals [x, y] us) : ∃ u w', us = [u, w'] ∧ RelV x u ∧ RelV y w' := by
  cases r with
  | cons r1 r2 =>
    cases r2 with
    | cons r3 r4 => cases r4; exact ⟨_, _, rfl, r1, r3⟩
theorem call_max2 (hc : X.calm = true) : CallR X (.builtin "max") (fun xs H Q => ∃ i j, xs = [.int i, .int j] ∧ Q (.int (if j > i then j else i)) H) := by
  intro pins s σ H xs us Q I r h
  obtain ⟨i, j, rfl, q⟩ := h
  obtain ⟨u, w', rfl, ⟨t, rfl⟩, ⟨t', rfl⟩⟩ := vals2 r
  refine max_two_ints (I.ok.hd hc) fun h' tk k => ⟨_, H, I.kept k, ?_, q⟩
  by_cases hj : j > i
  · rw [if_pos hj, if_pos hj]; exact ⟨_, rfl⟩
  · rw [if_neg hj, if_neg hj]; exact ⟨_, rfl⟩
theorem call_min2 (hc : X.calm = true) : CallR X (.builtin "min") (fun xs H Q => ∃ i j, xs = [.int i, .int j] ∧ Q (.int (if j < i then j else i)) H) := by
  intro pins s σ H xs us Q I r h
  obtain ⟨i, j, rfl, q⟩ := h
  obtain ⟨u, w', rfl, ⟨t, rfl⟩, ⟨t', rfl⟩⟩ := vals2 r
  refine min_two_ints (I.ok.hd hc) fun h' tk k => ⟨_, H, I.kept k, ?_, q⟩
  by_cases hj : j < i
  · rw [if_pos hj, if_pos hj]; exact ⟨_, rfl⟩
  · rw [if_neg hj, if_neg hj]; exact ⟨_, rfl⟩
def LenV (K : PySem.W.Frag) (x : V) (H : Hp) (n : Nat) : Prop :=
  match x with
  | .str y => y.length ≤ sizeLine ∧ n = y.length
  | .byt y => y.size ≤ sizeLine ∧ n = y.size
  | .ref p => (∃ xs, SqL K H p xs ∧ n = xs.length) ∨ ∃ xs, SqT K H p xs ∧ n = xs.length
  | _ => False
theorem call_len : CallR X (.builtin "len") (fun xs H Q => ∃ x n, xs = [x] ∧ LenV X.K x H n ∧ Q (.int n) H) := by
  intro pins s σ H xs us Q I r h
  obtain ⟨x, n, rfl, e, q⟩ := h
  obtain ⟨u, rfl, rx⟩ := vals1 r
  have hl := line63
  have hs : sizeLine = 16777216 := sizeLine_eq
  cases x with
  | str y =>
    obtain ⟨t, rfl⟩ := rx
    obtain ⟨hy, e'⟩ : y.length ≤ sizeLine ∧ n = y.length := e
    subst e'
    exact len_str (by omega) ⟨.int _, H, I.tok _, ⟨_, rfl⟩, q⟩
  | byt y =>
    obtain ⟨t, rfl⟩ := rx
    obtain ⟨hy, e'⟩ : y.size ≤ sizeLine ∧ n = y.size := e
    subst e'
    exact PySem.W.len_bytes (by omega) ⟨.int _, H, I.tok _, ⟨_, rfl⟩, q⟩
  | ref p =>
    cases rx
    have e' : (∃ xs, SqL X.K H p xs ∧ n = xs.length) ∨ ∃ xs, SqT X.K H p xs ∧ n = xs.length := e
    rcases e' with ⟨xs, hx, e'⟩ | ⟨xs, hx, e'⟩
    · subst e'
      obtain ⟨its, r', pl, hz⟩ := I.list hx
      have hlen := r'.length
      exact Calls.call_len_list pl.isList (by simp only [List.size_toArray]; omega) ⟨.int xs.length, H, I.tok _, ⟨_, by simp only [List.size_toArray]; rw [hlen]⟩, q⟩
    · subst e'
      obtain ⟨its, r', pl, hz⟩ := I.tuple hx
      have hlen := r'.length
      exact len_tuple pl (by simp only [List.size_toArray]; omega) ⟨.int xs.length, H, I.tok _, ⟨_, by simp only [List.size_toArray]; rw [hlen]⟩, q⟩
  | _ => exact (show False from e).elim
end
end L2
namespace L2
open PySem PySem.Spec PyProof.Rows
structure ObjM (h : Heap) (x dx C : Addr) (mA : Str → Option Value) : Prop where
  obj : h.get? x = some (PySem.W.instObj C dx)
  ns : h.Ns1 dx mA
  ne : dx ≠ x
theorem lookIn_ns {h : Heap} {dx : Addr} {mA : Str → Option Value} (n : h.Ns1 dx mA) : ∃ od, h.get? dx = some od ∧ ∀ name, PySem.W.lookIn name od = some (mA name) := by
  obtain ⟨o, es, ep, ho, hd, hk, _, hm⟩ := n
  refine ⟨o, ho, fun name => ?_⟩
  have e := hm name
  unfold nsFind findBy at e
  rw [← Array.find?_toList] at e
  unfold PySem.W.lookIn
  rw [hd]
  dsimp only
  split
  · rename_i y q
    rw [q] at e
    exact congrArg some e
  · rename_i q
    rw [q] at e
    have a : es.toList.any (·.refKey) = false := by
      rw [List.any_eq_false]
      intro y hy
      obtain ⟨z, t, hkey⟩ := hk y (Array.mem_toList_iff.mp hy)
      simp [DictEntry.refKey, hkey]
    have a' : ¬ es.toList.any (·.refKey) = true := by rw [a]; exact Bool.false_ne_true
    rw [if_neg a']
    exact congrArg some e
theorem ObjM.look {h : Heap} {x dx C : Addr} {mA : Str → Option Value} (I : ObjM h x dx C mA) : ∃ od, PySem.W.InstAt h x (PySem.W.instObj C dx) C (some od) ∧ ∀ name, PySem.W.lookIn name od = some (mA name) :=
  let ⟨od, ho, hl⟩ := lookIn_ns I.ns
  ⟨od, ⟨I.obj, rfl, rfl, ho⟩, hl⟩
section
variable {prog : Program} {w : World} {A : Around} {E : Value → Shared → Prop} {s : Shared} {K : PySem.W.Frag} {x dx C f : Addr} {mA : Str → Option Value} {name : Str} {v : Value}
end
section
variable {P : Program} {w : World} {H H' : Hp} {h h' : Heap} {a C dx : Addr} {fs fs' : List (Str × V)}
theorem ins_get (hok : HOk P w H h) (e : H a = some (.ins C dx fs)) : ∃ mA, ObjM h a dx C mA ∧ (∀ f, RelO (fs.lookup f) (mA f)) ∧ PySem.Within mA (fs.map (·.1)) ∧ fs.length ≤ 1000 ∧ H dx = some (.own a) := by
  obtain ⟨d, z, ne, ob, mA, n, r, q⟩ := (show ObjOk P w H h a (.ins C dx fs) from hok a _ e)
  exact ⟨mA, ⟨ob, n, ne⟩, r, q, z, d⟩
end
structure Cls (K : PySem.W.Frag) (C : Addr) : Prop where
  pg : PySem.W.plainGet K C Str.empty = true
  hd : PySem.W.hasDictIn K C = true
  po : PySem.W.plainOver K C = true
  sa : PySem.W.findIn K (.ref C) "__setattr__" = some (some (.builtin "object.__setattr__"))
theorem Cls.get {K : PySem.W.Frag} {C : Addr} (c : Cls K C) (f : Str) : PySem.W.plainGet K C f = true := c.pg
section
variable {X : Cx} {pins : List (Addr × Obj)} {σ : St} {H : Hp} {s : Shared} {a C dx : Addr} {fs : List (Str × V)} {f : Str} {v : V} {A : Around} {E : Value → Shared → Prop}
theorem Inv.made (I : Inv X pins σ H s) : Inv X pins σ (upd (upd H s.heap.objs.size (.own (s.heap.objs.size + 1))) (s.heap.objs.size + 1) (.ins C s.heap.objs.size []))
    { s with heap := (s.heap.push PySem.W.emptyDict).push (PySem.W.instObj C s.heap.objs.size) } := by
  have e1 : (s.heap.push PySem.W.emptyDict).get? s.heap.objs.size = some PySem.W.emptyDict := Heap.get?_push_size s.heap rfl
  have e2 : ((s.heap.push PySem.W.emptyDict).push (PySem.W.instObj C s.heap.objs.size)).get? (s.heap.objs.size + 1) = some (PySem.W.instObj C s.heap.objs.size) := by
    have := Heap.get?_push_size (s.heap.push PySem.W.emptyDict) (o := PySem.W.instObj C s.heap.objs.size) rfl
    rwa [Heap.size_push] at this
  have e3 : (s.heap.push PySem.W.emptyDict).Ns s.heap.objs.size (fun _ => none) := ⟨PySem.W.emptyDict, #[], _, e1, rfl, (fun e he => absurd he (by simp)), fun _ => rfl⟩
  have I1 := I.laid (a := s.heap.objs.size) (o := .own (s.heap.objs.size + 1)) (h' := s.heap.push PySem.W.emptyDict) (t' := s.toks) (fun b u q => Heap.get?_push_of_some _ q) (Nat.le_refl _) ⟨_, e1⟩
  refine I1.laid (a := s.heap.objs.size + 1) (o := .ins C s.heap.objs.size []) (t' := s.toks) (fun b u q => Heap.get?_push_of_some _ q) (Nat.le_of_eq (Heap.size_push _ _)) ?_
  have ne : s.heap.objs.size ≠ s.heap.objs.size + 1 := Nat.ne_of_lt (Nat.lt_succ_self _)
  refine ⟨by rw [upd_ne ne, upd_same], Nat.zero_le _, ne, e2, fun _ => none, (Heap.Ns1.of_empty e3).at fun o q => Heap.get?_push_of_some _ q, fun _ => True.intro, fun y hy => absurd rfl hy⟩
end
section
variable {X : Cx} {o e value : Expr} {f : Str} {pos pos' tpos : Pos} {ta tv : TE}
end
section
variable {X : Cx} {pins : List (Addr × Obj)} {σ : St} {H : Hp} {s : Shared} {A : Around} {E : Value → Shared → Prop} {Q : Value → Shared → Prop} {c : Value} {b : Bool}
inductive TyOf (K : PySem.W.Frag) (H : Hp) : V → Value → Prop where
  | non : TyOf K H .non (.type "NoneType")
  | bl (x : Bool) : TyOf K H (.bl x) (.type "bool")
  | int (i : Int) : TyOf K H (.int i) (.type "int")
  | str (x : Str) : TyOf K H (.str x) (.type "str")
  | flt (x : UInt64) : TyOf K H (.flt x) (.type "float")
  | lst {a : Addr} {xs : List V} (e : H a = some (.lst xs)) : TyOf K H (.ref a) (.type "list")
  | frz {a : Addr} {o : Obj} {xs : List V} (e : H a = some (.frz o (.lst xs))) : TyOf K H (.ref a) (.type "list")
  | tup {a : Addr} {xs : List V} (e : H a = some (.tup xs)) : TyOf K H (.ref a) (.type "tuple")
  | dK {a : Addr} {kvs : List (Key × V)} (e : H a = some (.dK kvs)) : TyOf K H (.ref a) (.type "dict")
  | dT {a : Addr} {kvs : List (List Key × V)} (e : H a = some (.dT kvs)) : TyOf K H (.ref a) (.type "dict")
  | ins {a C dx : Addr} {fs : List (Str × V)} (e : H a = some (.ins C dx fs)) (cl : Cls K C) (ha : PySem.W.findIn K (.ref C) "__class__" = some (some (.builtin "object.__class__")))
      (hn : PySem.W.specialIn K (.builtin "object.__class__") "__get__" = some (some (.builtin "getset_descriptor.__get__"))) (htk : PySem.W.takesIn K (.builtin "object.__class__") = some true)
      (hm : PySem.W.mroIn K C (.type "object") = some true) : TyOf K H (.ref a) (.ref C)
theorem isinst_ok {x : V} {u t : Value} (I : Inv X pins σ H s) (rx : RelV x u) (ty : TyOf X.K H x t) (e : PySem.W.kitOne X.K t c = some b) (h : ∀ tk, Q (.bool b) { s with toks := tk }) :
    wpAny (model X.prog X.w) A (call (.builtin "isinstance") [u, c]) Q E s := by
  cases ty with
  | non => cases (show u = Value.none from rx); exact PySem.W.kia_one PySem.W.kitx_none I.kIn True.intro e (fun z => nomatch z) h
  | bl y => cases (show u = Value.bool y from rx); exact PySem.W.kia_one PySem.W.kitx_bool I.kIn True.intro e (fun z => nomatch z) h
  | int i => obtain ⟨t, q⟩ := (show ∃ t, u = Value.int i t from rx); cases q; exact PySem.W.kia_one PySem.W.kitx_int I.kIn True.intro e (fun z => nomatch z) h
  | str y => obtain ⟨t, q⟩ := (show ∃ t, u = Value.str y t from rx); cases q; exact PySem.W.kia_one PySem.W.kitx_str I.kIn True.intro e (fun z => nomatch z) h
  | flt y => obtain ⟨t, q⟩ := (show ∃ t, u = Value.float y t from rx); cases q; exact PySem.W.kia_one PySem.W.kitx_float I.kIn True.intro e (fun z => nomatch z) h
  | @lst a xs ea =>
    cases (show u = Value.ref a from rx)
    obtain ⟨_, _, n, _, h1⟩ := (show ObjOk X.prog X.w H s.heap a (.lst xs) from I.hok a _ ea)
    exact PySem.W.kia_one PySem.W.kitx_list I.kIn ⟨_, h1, rfl⟩ e (fun z => nomatch z) h
  | @frz a ob xs ea =>
    cases (show u = Value.ref a from rx)
    obtain ⟨_, _, _, n, _, h1⟩ := (show ObjOk X.prog X.w H s.heap a (.frz ob (.lst xs)) from I.hok a _ ea)
    exact PySem.W.kia_one PySem.W.kitx_list I.kIn ⟨_, h1, rfl⟩ e (fun z => nomatch z) h
  | @tup a xs ea =>
    cases (show u = Value.ref a from rx)
    obtain ⟨_, _, _, p⟩ := (show ObjOk X.prog X.w H s.heap a (.tup xs) from I.hok a _ ea)
    obtain ⟨o, h1, h2, _⟩ := p
    exact PySem.W.kia_one PySem.W.kitx_tuple I.kIn ⟨o, h1, h2⟩ e (fun z => nomatch z) h
  | @dK a kvs ea =>
    cases (show u = Value.ref a from rx)
    obtain ⟨_, _, vs, _, p⟩ := (show ObjOk X.prog X.w H s.heap a (.dK kvs) from I.hok a _ ea)
    obtain ⟨o, es, ep, h1, h2, _⟩ := p
    exact PySem.W.kia_one PySem.W.kitx_dict I.kIn ⟨o, h1, h2.1⟩ e (fun z => nomatch z) h
  | @dT a kvs ea =>
    cases (show u = Value.ref a from rx)
    obtain ⟨_, _, xs, _, o, es, ep, h1, h2, _⟩ := (show ObjOk X.prog X.w H s.heap a (.dT kvs) from I.hok a _ ea)
    exact PySem.W.kia_one PySem.W.kitx_dict I.kIn ⟨o, h1, h2.1⟩ e (fun z => nomatch z) h
  | @ins a C dx fs ea cl ha hn htk hm =>
    cases (show u = Value.ref a from rx)
    obtain ⟨mA, O, _⟩ := ins_get I.hok ea
    obtain ⟨od, J, _⟩ := O.look
    exact PySem.W.kia_one (PySem.W.kitx_own (cl.get _) cl.hd ha hn htk hm) I.kIn J e (fun z => nomatch z) h
end
end L2
namespace L2
open PySem PySem.Spec PyProof.Rows
structure Room (k : Nat) (A : Around) : Prop where
  hd : A.handled = none
  dp : A.depth + 3 * k + 5 < recursionLimit
  un : A.units + 16 * k + 200 < cLine
theorem Room.mono {j k : Nat} {A : Around} (r : Room k A) (h : j ≤ k) : Room j A := ⟨r.hd, by have := r.dp; omega, by have := r.un; omega⟩
theorem Room.deeper {k : Nat} {A : Around} (r : Room (k + 1) A) (env : Env) : Room k (A.deeper env) :=
  ⟨r.hd, by have := r.dp; show A.depth + 1 + 3 * k + 5 < _; omega, by have := r.un; show A.units + 3 + 16 * k + 200 < _; omega⟩
theorem Room.in1 {k : Nat} {A : Around} (r : Room (k + 1) A) : Room k A.in1 :=
  ⟨r.hd, by have := r.dp; show A.depth + 3 * k + 5 < _; omega, by have := r.un; show A.units + 1 + 16 * k + 200 < _; omega⟩
theorem Room.depth {k : Nat} {A : Around} (r : Room k A) : A.depth < recursionLimit := by have := r.dp; omega
theorem Room.units {k : Nat} {A : Around} (r : Room k A) : A.units + 64 < cLine := by have := r.un; omega
def tNil : TA := fun _ H Q => Q [] H
def tCons (ta : TE) (tr : TA) : TA := fun σ H Q => ta σ H fun x H1 => tr σ H1 fun xs H2 => Q (x :: xs) H2
section
variable {X : Cx} {e : Expr} {es : List Expr} {te : TE} {t : TA} {pos : Pos}
theorem pa_nil : PA X [] tNil := fun _ _ _ _ H Q I h => Calls.spliced_nil ⟨[], H, I, .nil, h⟩
theorem pa_cons (ha : PE X e te) (hr : PA X es t) (hs : starEach (e :: es) X.env = (false, eval e X.env) :: starEach es X.env := by rfl) : PA X (e :: es) (tCons te t) := by
  intro pos pins s σ H Q I h
  rw [hs]
  show wpAny _ _ (spliced ((false, eval e X.env) :: backTo pos (starEach es X.env))) _ _ s
  refine Calls.spliced_cons (thn (ha pins s σ H _ I h) fun u s1 ⟨x, H1, I1, r1, q1⟩ => ?_)
  exact thn (hr pos pins s1 σ H1 _ I1 q1) fun us s2 ⟨xs, H2, I2, r2, q2⟩ => ⟨x :: xs, H2, I2, .cons r1 r2, q2⟩
def tTup (t : TA) : TE := fun σ H Q => t σ H fun xs H1 => xs.length ≤ sizeLine ∧ ∀ p, H1 p = none → Q (.ref p) (upd H1 p (.tup xs))
def tLst (t : TA) : TE := fun σ H Q => t σ H fun xs H1 => xs.length ≤ sizeLine ∧ ∀ p, H1 p = none → Q (.ref p) (upd H1 p (.lst xs))
theorem pe_tup {x1} (h : PA X es t) : PE X (.Tuple es x1 pos) (tTup t) := by
  intro pins s σ H Q I hq
  refine wpAny_Tuple_spliced (thn (h pos pins s σ H _ I hq) fun us s1 ⟨xs, H1, I1, r, z, q⟩ => ⟨by rw [← r.length]; exact z, ?_⟩)
  have hf : H1 s1.heap.objs.size = none := I1.hok.fresh (Nat.le_refl _)
  refine ⟨.ref s1.heap.objs.size, upd H1 s1.heap.objs.size (.tup xs), I1.laid (t' := s1.toks) (fun b u e => Heap.get?_push_of_some _ e) (Nat.le_refl _) ?_, rfl, q _ hf⟩
  exact ⟨z, us, r, ⟨_, Heap.get?_push_size _ rfl, rfl, _, rfl⟩⟩
theorem pe_lst (h : PA X es t) : PE X (.List es pos) (tLst t) := by
  intro pins s σ H Q I hq
  refine wpAny_List_spliced (thn (h pos pins s σ H _ I hq) fun us s1 ⟨xs, H1, I1, r, z, q⟩ => ⟨by rw [← r.length]; exact z, ?_⟩)
  have hf : H1 s1.heap.objs.size = none := I1.hok.fresh (Nat.le_refl _)
  refine ⟨.ref s1.heap.objs.size, upd H1 s1.heap.objs.size (.lst xs), I1.laid (t' := s1.toks) (fun b u e => Heap.get?_push_of_some _ e) (Nat.le_refl _) ?_, rfl, q _ hf⟩
  exact ⟨z, us, 0, r, Heap.get?_push_size _ rfl⟩
end
abbrev Sp := List V → Hp → VK → XK → Prop
abbrev CXT := List Env → Hp → Shared → XK → Value → Shared → Prop
structure Env0 (P : Program) (w : World) (K : PySem.W.Frag) (mg : Str → Option Value) (base : Heap) (A : Around) (outer : List Env) (s : Shared) (H : Hp) : Prop where
  frames : A.frames = some outer
  mod : Mod K mg base
  bs : ∀ b o, base.get? b = some o → s.heap.get? b = some o ∧ H b = none
  bsz : base.objs.size ≤ s.heap.objs.size
  funs : s.heap.FunFrames base outer
  frf : ∀ b ∈ frs outer, H b = none
  hok : HOk P w H s.heap
  bare : AllBare s.gens
def CE (outer : List Env) (P : Program) (w : World) (H : Hp) (s : Shared) (Q : VK) (u : Value) (s' : Shared) : Prop :=
  ∃ v H', s'.os = s.os ∧ AllBare s'.gens ∧ Un (frs outer) [] H H' s.heap s'.heap ∧ HOk P w H' s'.heap ∧ RelV v u ∧ Q v H'
def CR (CX : CXT) (outer : List Env) (P : Program) (w : World) (H : Hp) (s : Shared) (Q : VK) (E : XK) (r : Result) (s' : Shared) : Prop :=
  match r with
  | .ok (.ret u) => CE outer P w H s Q u s'
  | .ok _ => False
  | .error e => CX outer H s E e s'
structure FnOk (P : Program) (w : World) (K : PySem.W.Frag) (mg : Str → Option Value) (base : Heap) (CX : CXT) (k : Nat) (f : Addr) (fd : FuncData) (ps : List Str) (sp : Sp) : Prop where
  len : ∀ vs H Q E, sp vs H Q E → vs.length = ps.length
  run : ∀ (A : Around) (outer : List Env) (s : Shared) (H : Hp) (args : Args) (us : List Value) (vs : List V) (Q : VK) (E : XK), Room k A → Env0 P w K mg base A outer s H → BindsTo s fd args (ps.zip us) → Vals vs us → sp vs H Q E →
    codeAny (model P w) A (.call (.ref f) args) (CR CX outer P w H s Q E) s
theorem FnOk.mono {P : Program} {w : World} {K : PySem.W.Frag} {mg : Str → Option Value} {base : Heap} {CX : CXT} {j k : Nat} {f : Addr} {fd : FuncData} {ps : List Str} {sp : Sp} (F : FnOk P w K mg base CX j f fd ps sp) (h : j ≤ k) :
    FnOk P w K mg base CX k f fd ps sp := ⟨F.len, fun A outer s H args us vs Q E hr => F.run A outer s H args us vs Q E (hr.mono h)⟩
theorem FnOk.imp {P : Program} {w : World} {K : PySem.W.Frag} {mg : Str → Option Value} {base : Heap} {CX : CXT} {k : Nat} {f : Addr} {fd : FuncData} {ps : List Str} {sp sp' : Sp} (F : FnOk P w K mg base CX k f fd ps sp)
    (h : ∀ vs H Q E, sp' vs H Q E → sp vs H Q E) : FnOk P w K mg base CX k f fd ps sp' :=
  ⟨fun vs H Q E q => F.len vs H Q E (h _ _ _ _ q), fun A outer s H args us vs Q E hr he hb hv hs => F.run A outer s H args us vs Q E hr he hb hv (h _ _ _ _ hs)⟩
theorem Env0.in1 {P : Program} {w : World} {K : PySem.W.Frag} {mg : Str → Option Value} {base : Heap} {A : Around} {outer : List Env} {s : Shared} {H : Hp} (e : Env0 P w K mg base A outer s H) :
    Env0 P w K mg base A.in1 outer s H := ⟨e.frames, e.mod, e.bs, e.bsz, e.funs, e.frf, e.hok, e.bare⟩
section
variable {X : Cx} {pins : List (Addr × Obj)} {σ : St} {H : Hp} {s s' : Shared}
theorem Inv.env0 (I : Inv X pins σ H s) : Env0 X.prog X.w X.K X.mg X.base X.A X.stack s H :=
  ⟨I.ok.frames, I.ok.mod, I.bs, Nat.le_trans I.ok.bsz I.sz, I.stack, I.stkFree, I.hok, I.bare⟩
theorem Inv.after {Q : VK} {u : Value} (I : Inv X pins σ H s) (h : CE X.stack X.prog X.w H s Q u s') : EP X pins σ Q u s' := by
  obtain ⟨v, H', os, bare, un, hok, r, q⟩ := h
  obtain ⟨hh, g, d, t, os'⟩ := s'
  obtain rfl : os' = s.os := os
  exact ⟨v, H', I.call (h' := hh) (g' := g) (d' := d) (t' := t) (ch := []) un hok bare (fun b z => absurd z (by simp)), r, q⟩
end
def tCall (sp : Sp) (dvs : List V) (E : XK) (t : TA) : TE := fun σ H Q => t σ H fun vs H1 => sp (vs ++ dvs) H1 Q E
def Binds (K : PySem.W.Frag) (fd : FuncData) (ps : List Str) (ds : List Value) : Prop :=
  ∀ (s : Shared) (us : List Value), K.In s.heap → (us ++ ds).length = ps.length → BindsTo s fd ⟨us, []⟩ (ps.zip (us ++ ds))
theorem Binds.all {K : PySem.W.Frag} {fd : FuncData} {ps : List Str} (h : ∀ us : List Value, us.length = ps.length → bindArgs fd ⟨us, []⟩ = pure (ps.zip us)) : Binds K fd ps [] := fun s us _ hl => by
  rw [List.append_nil] at hl ⊢
  exact .of_eq (h us hl)
def Passes (CX : CXT) (X : Cx) (E : XK) : Prop := ∀ (pins : List (Addr × Obj)) (σ : St) (H : Hp) (s : Shared) (e : Value) (s' : Shared), Inv X pins σ H s → CX X.stack H s E e s' → X.xe e s'
section
variable {X : Cx} {CX : CXT} {k : Nat} {f C : Addr} {fd : FuncData} {ps : List Str} {sp : Sp} {dvs : List V} {ds : List Value} {E : XK} {x m : Str} {p pos apos : Pos} {e o : Expr} {es : List Expr} {ta : TE} {t : TA}
theorem run_fn {pins : List (Addr × Obj)} {σ : St} {H : Hp} {s : Shared} {Q : VK} {us : List Value} {vs : List V} (F : FnOk X.prog X.w X.K X.mg X.base CX k f fd ps sp) (hr : Room k X.A) (hb : Binds X.K fd ps ds) (hd : Vals dvs ds) (hx : Passes CX X E)
    (I : Inv X pins σ H s) (r : Vals vs us) (h : sp (vs ++ dvs) H Q E) : wpAny (model X.prog X.w) X.A (call (.ref f) us) (EP X pins σ Q) X.xe s := by
  have r2 : Vals (vs ++ dvs) (us ++ ds) := r.append hd
  have hl : (us ++ ds).length = ps.length := by rw [← r2.length]; exact F.len _ _ _ _ h
  refine wpAny_call (codeAny_mono (F.run X.A X.stack s H ⟨us, []⟩ (us ++ ds) (vs ++ dvs) Q E hr I.env0 (hb s us I.kIn hl) r2 h) fun r s' hq => ?_)
  cases r with
  | error e => exact hx pins σ H s e s' I hq
  | ok fl =>
    cases fl with
    | ret u => exact I.after hq
    | next => exact False.elim hq
    | brk => exact False.elim hq
    | cont => exact False.elim hq
theorem pe_call (F : FnOk X.prog X.w X.K X.mg X.base CX k f fd ps sp) (hr : Room k X.A) (hg : Gl X x) (hm : X.mg x = some (.ref f)) (hk : PySem.W.keepIn X.K (.ref f) = true) (hb : Binds X.K fd ps ds) (hd : Vals dvs ds) (hx : Passes CX X E)
    (ha : PA X (e :: es) t) (hdb : (x == ("__debug__" : Str)) = false := by decide) (he : starEach (e :: es) X.env = (false, eval e X.env) :: starEach es X.env := by rfl) (hpl : (backTo pos (starEach es X.env)).any (·.1) = false := by rfl) :
    PE X (.Call (.Name x p) (e :: es) [] pos) (tCall sp dvs E t) := by
  intro pins s σ H Q I h
  refine wpAny_Call_Name_kw (ld_glob I hg hm ?_ hdb)
  refine PySem.W.callWith_K (h₀ := X.base) I.ok.mod.kin hk (thn (ha pos pins s σ H _ I h) fun us s1 ⟨vs, H1, I1, r, q⟩ => ⟨I1.kIn, ?_⟩) he hpl
  exact run_fn F hr hb hd hx I1 r q
end
section
variable {X : Cx} {CX : CXT} {k : Nat} {f C : Addr} {fd : FuncData} {ps ks : List Str} {sp : Sp} {E : XK} {x m : Str} {p pos apos kpos : Pos} {e o : Expr} {es : List Expr} {kws : List Keyword} {te ta : TE} {t tk : TA} {nm : Option Str}
variable {g : List Value → List Value → List Value} {gV : List V → List V → List V}
end
structure FnScope (N P : List Str) (sc : Scope) : Prop where
  kind : sc.kind = .function
  co : sc.isCoroutine = false
  gen : sc.isGenerator = false
  nd : N.Nodup
  pre : N.take P.length = P
  par : ∀ x ∈ P, sc.names.lookup x = some .local ∨ sc.names.lookup x = some .cell
  nofree : ∀ y ∈ sc.names, y.2 ≠ .free
theorem bindL_out {kindOf : Str → Option NameKind} {x : Str} : ∀ {binds : List (Str × Value)} {m : Str → Option Value}, (∀ v, (x, v) ∉ binds) → bindL kindOf binds m x = m x
  | [], _, _ => rfl
  | (n, v) :: r, m, h => by
    unfold bindL
    rw [bindL_out fun w hw => h w (List.mem_cons_of_mem _ hw)]
    split
    · have : x ≠ n := by rintro rfl; exact h v List.mem_cons_self
      simp [this]
    · rfl
theorem bindC_out {kindOf : Str → Option NameKind} {x : Str} : ∀ {binds : List (Str × Value)} {m : Str → Option Value}, (∀ v, (x, v) ∉ binds) → bindC kindOf binds m x = m x
  | [], _, _ => rfl
  | (n, v) :: r, m, h => by
    unfold bindC
    rw [bindC_out fun w hw => h w (List.mem_cons_of_mem _ hw)]
    split
    · rfl
    · have : x ≠ n := by rintro rfl; exact h v List.mem_cons_self
      simp [this]
theorem bindL_get {kindOf : Str → Option NameKind} {x : Str} {v : Value} : ∀ {P : List Str} {vs : List Value} {i : Nat} {m : Str → Option Value}, P.Nodup → P[i]? = some x → vs[i]? = some v → kindOf x = some .local →
    bindL kindOf (P.zip vs) m x = some v
  | [], _, _, _, _, h, _, _ => by simp at h
  | _ :: _, [], _, _, _, _, h, _ => by simp at h
  | p :: P, w :: vs, 0, m, nd, h1, h2, hk => by
    simp at h1 h2; subst h1; subst h2
    show bindL kindOf ((p, w) :: P.zip vs) m p = _
    unfold bindL
    rw [bindL_out fun v hv => (List.nodup_cons.mp nd).1 (List.of_mem_zip hv).1, if_pos hk]
    simp
  | p :: P, w :: vs, i + 1, m, nd, h1, h2, hk => by
    show bindL kindOf ((p, w) :: P.zip vs) m x = _
    unfold bindL
    exact bindL_get (i := i) (List.nodup_cons.mp nd).2 (by simpa using h1) (by simpa using h2) hk
theorem bindC_get {kindOf : Str → Option NameKind} {x : Str} {v : Value} : ∀ {P : List Str} {vs : List Value} {i : Nat} {m : Str → Option Value}, P.Nodup → P[i]? = some x → vs[i]? = some v → kindOf x ≠ some .local →
    bindC kindOf (P.zip vs) m x = some v
  | [], _, _, _, _, h, _, _ => by simp at h
  | _ :: _, [], _, _, _, _, h, _ => by simp at h
  | p :: P, w :: vs, 0, m, nd, h1, h2, hk => by
    simp at h1 h2; subst h1; subst h2
    show bindC kindOf ((p, w) :: P.zip vs) m p = _
    unfold bindC
    rw [bindC_out fun v hv => (List.nodup_cons.mp nd).1 (List.of_mem_zip hv).1, if_neg hk]
    simp
  | p :: P, w :: vs, i + 1, m, nd, h1, h2, hk => by
    show bindC kindOf ((p, w) :: P.zip vs) m x = _
    unfold bindC
    exact bindC_get (i := i) (List.nodup_cons.mp nd).2 (by simpa using h1) (by simpa using h2) hk
def start (N : List Str) (vs : List V) : St := vs.map some ++ List.replicate (N.length - vs.length) none
def cxOf (CX : CXT) (P : Program) (w : World) (K : PySem.W.Frag) (mg : Str → Option Value) (base : Heap) (N : List Str) (qual : Str) (scope : Scope) (f : Addr) (cd : Value) (A : Around) (outer : List Env) (s : Shared) (H : Hp) (E : XK) : Cx where
  prog := P
  w := w
  K := K
  mg := mg
  base := base
  A := A.deeper (envOfC qual scope s.heap.objs.size f cd)
  N := N
  s₀ := s
  H₀ := H
  env := envOfC qual scope s.heap.objs.size f cd
  outer := outer
  stack := envOfC qual scope s.heap.objs.size f cd :: outer
  ex := []
  calm := true
  fn := fun _ => true
  pn := []
  xe := fun e s' => wpAny (model P w) (A.deeper (envOfC qual scope s.heap.objs.size f cd)) (leaving (envOfC qual scope s.heap.objs.size f cd) e) (fun _ s'' => CX outer H s E e s'') (fun e' s'' => CX outer H s E e' s'') s'
theorem cell_has {sc : Scope} {n : Nat} {x : Str} (h : sc.names.lookup x = some .cell) : ∃ c, (cellsFrom n sc.names []).lookup x = some c := by
  have q := PySem.W.cellsFrom_some sc.names n [] (.inl h)
  exact Option.isSome_iff_exists.mp q
theorem inv_start {CX : CXT} {P : Program} {w : World} {K : PySem.W.Frag} {mg : Str → Option Value} {base : Heap} {N ps : List Str} {qual : Str} {scope : Scope} {f : Addr} {cd : Value} {A : Around} {outer : List Env} {s s1 : Shared} {H : Hp} {E : XK} {us : List Value} {vs : List V}
    (S : FnScope N ps scope) (hd : A.handled = none) (e0 : Env0 P w K mg base A outer s H) (hl : vs.length = ps.length) (r : Vals vs us)
    (x : InCallC s s.heap.objs.size (bindL (envOfC qual scope s.heap.objs.size f cd).kindOf (ps.zip us) fun _ => none) (cellsFrom (s.heap.objs.size + 1) scope.names []) (bindC (envOfC qual scope s.heap.objs.size f cd).kindOf (ps.zip us) fun _ => none) s1) :
    Inv (cxOf CX P w K mg base N qual scope f cd A outer s H E) [] (start N vs) H s1 := by
  have hpl : ps.length ≤ N.length := by have := congrArg List.length S.pre; rw [List.length_take] at this; omega
  obtain ⟨h1, tk, rfl, hk⟩ := x.done
  have noA : ∀ b : Addr, b ∉ (cxOf CX P w K mg base N qual scope f cd A outer s H E).ex := fun b z => absurd (show b ∈ ([] : List Addr) from z) (by simp)
  refine ⟨⟨e0.mod, S.kind, rfl, rfl, Nat.le_refl _, fun y z c h1 h2 => ?_, fun y hy => ?_, fun y c _ h => ?_, fun _ => hd, Around.frames_deeper e0.frames, .inr ⟨rfl, rfl⟩, fun b z => absurd z (noA b), e0.bs, e0.bsz, fun b _ _ => noA b, fun b z => absurd z (noA b), e0.funs, e0.frf⟩,
    rfl, e0.bare, Un.kept hk, ⟨_, x.toInCall.ns, fun i y v h1 h2 h3 => ?_⟩, fun y c h => ⟨_, x.cell y c h⟩, e0.hok.fresh (Nat.le_refl _), fun y c h => ?_, fun p hp => absurd (show p ∈ ([] : List (Addr × Obj)) from hp) (by simp), e0.hok.kept hk, ?_⟩
  · exact name_of_addr x.apart (PySem.mem_of_lookup h1) (PySem.mem_of_lookup h2)
  · have hy : scope.names.lookup y = some .cell ∨ scope.names.lookup y = some .free := hy
    rcases hy with hy | hy
    · exact cell_has hy
    · exact absurd rfl (S.nofree _ (PySem.mem_of_lookup hy))
  · exact Nat.le_of_lt (x.above y c (PySem.mem_of_lookup h))
  · have hi : i < vs.length := by
      unfold start at h2
      by_cases hi : i < vs.length
      · exact hi
      · rw [List.getElem?_append_right (by simpa using hi)] at h2
        rw [List.getElem?_replicate] at h2
        split at h2 <;> cases h2
    have ha : vs[i]? = some v := by
      unfold start at h2
      rw [List.getElem?_append_left (by simpa using hi), List.getElem?_map] at h2
      cases e : vs[i]? with
      | none => rw [e] at h2; cases h2
      | some a => rw [e] at h2; cases h2; rfl
    obtain ⟨u, hu, rv⟩ := r.get ha
    have hp : ps[i]? = some y := by
      rw [← S.pre, List.getElem?_take_of_lt (by omega)]; exact h1
    have ndP : ps.Nodup := by rw [← S.pre]; exact S.nd.sublist (List.take_sublist _ _)
    refine ⟨u, rv, ?_⟩
    rcases S.par y (List.mem_of_getElem? hp) with k | k
    · exact .inl ⟨k, bindL_get ndP hp hu k⟩
    · obtain ⟨c, e⟩ := cell_has (n := s.heap.objs.size + 1) k
      refine .inr ⟨.inl k, c, e, ?_⟩
      have q := x.cell y c e
      rw [bindC_get ndP hp hu (by show scope.names.lookup y ≠ _; rw [k]; decide)] at q
      exact q
  · exact e0.hok.fresh (Nat.le_of_lt (x.above y c (PySem.mem_of_lookup h)))
  · unfold start
    show _ = N.length
    rw [List.length_append, List.length_map, List.length_replicate]
    omega
theorem fn_of {CX : CXT} {P : Program} {w : World} {K : PySem.W.Frag} {mg : Str → Option Value} {base : Heap} {k : Nat} {f : Addr} {name qual : Str} {params : Arguments} {body : List Stmt} {scope : Scope} {dV kV doc pm cdv ct oc : Value} {an od : Option Addr}
    {osl : Array (Option Value)} {N ps : List Str} {sp : Sp} (lk : K.lookup f = some ⟨oc, od, .func (PySem.W.fnOf name qual params body scope dV kV doc pm an cdv ct), osl⟩) (hcd : PySem.W.codeIn K cdv qual = true) (S : FnScope N ps scope)
    (len : ∀ vs H Q E, sp vs H Q E → vs.length = ps.length)
    (hbody : ∀ (A : Around) (outer : List Env) (s : Shared) (H : Hp) (vs : List V) (Q : VK) (E : XK), Room k (A.deeper (envOfC qual scope s.heap.objs.size f cdv)) → sp vs H Q E →
      ∃ t, PSs (cxOf CX P w K mg base N qual scope f cdv A outer s H E) body t ∧ t { nx := fun _ H' => Q .non H', rt := Q } (start N vs) H) :
    FnOk P w K mg base CX (k + 1) f (PySem.W.fnOf name qual params body scope dV kV doc pm an cdv ct) ps sp := by
  refine ⟨len, fun A outer s H args us vs Q E hr e0 hb r hsp => ?_⟩
  have hl := len _ _ _ _ hsp
  have KX : K.In s.heap := e0.mod.kin.keeps fun b o e => (e0.bs b o e).1
  have lim : s.heap.NoLimit := e0.mod.nolimit.keeps fun b o e => (e0.bs b o e).1
  have hkind : ∀ y ∈ ps.zip us, scope.names.lookup y.1 = some .local ∨ (scope.names.lookup y.1 = some .cell ∧ ((cellsFrom (s.heap.objs.size + 1) scope.names []).lookup y.1).isSome = true) := fun ⟨n, v⟩ hy => by
    rcases S.par n (List.of_mem_zip hy).1 with q | q
    · exact .inl q
    · exact .inr ⟨q, PySem.W.cellsFrom_some _ _ _ (.inl q)⟩
  refine codeAny_call_function hr.depth (KX _ _ lk) rfl S.co S.gen rfl (PySem.W.codeRec_of KX hcd) (hb _ _ _ _ ?_)
  refine wpAny_newFunctionEnv_cells S.kind hkind fun env he s1 x => ?_
  subst he
  refine ⟨lim.keeps x.toInCall.keep, codeAny_func ?_⟩
  obtain ⟨t, ht, hq⟩ := hbody A outer s H vs Q E (hr.deeper _) hsp
  have I : Inv (cxOf CX P w K mg base N qual scope f cdv A outer s H E) [] (start N vs) H s1 := inv_start S hr.hd e0 hl r x
  refine wpAny_mono (ht [] s1 (start N vs) H _ I hq) (fun fl s' hs => ?_) fun e s' hs => hs
  have fin : ∀ {σ' : St} {H' : Hp} {v : V} {u : Value}, Inv (cxOf CX P w K mg base N qual scope f cdv A outer s H E) [] σ' H' s' → RelV v u → Q v H' → CE outer P w H s Q u s' :=
    fun {σ' H' v u} J rv q => ⟨v, H', J.os, J.bare, J.base, J.hok, rv, q⟩
  cases fl with
  | ret u =>
    obtain ⟨v, σ', H', J, rv, q⟩ := hs
    exact fin J rv q
  | next =>
    obtain ⟨σ', H', J, q⟩ := hs
    exact fin (v := V.non) (u := Value.none) J rfl q
  | brk =>
    obtain ⟨_, _, _, q⟩ := hs
    exact False.elim q
  | cont =>
    obtain ⟨_, _, _, q⟩ := hs
    exact False.elim q
end L2
namespace L2
open PySem PySem.Spec PyProof.Rows
section
variable {X : Cx} {x : Str} {p pos : Pos} {e : Expr} {es : List Expr} {t : TA} {id T : String} {r : List V → Hp → VK → Prop}
def tCB (r : List V → Hp → VK → Prop) (t : TA) : TE := fun σ H Q => t σ H fun vs H1 => r vs H1 Q
theorem pe_callB (hc : CallR X (.builtin id) r) (hg : Gl X x) (hm : X.mg x = none) (hv : bootBuiltins x = some (.builtin id)) (ha : PA X (e :: es) t) (hn : x ≠ "__name__" := by decide) (hdb : (x == ("__debug__" : Str)) = false := by decide)
    (he : starEach (e :: es) X.env = (false, eval e X.env) :: starEach es X.env := by rfl) (hpl : (backTo pos (starEach es X.env)).any (·.1) = false := by rfl) : PE X (.Call (.Name x p) (e :: es) [] pos) (tCB r t) := by
  intro pins s σ H Q I h
  refine wpAny_Call_Name_kw (ld_blt I hg hm hv ?_ hn hdb)
  exact PyProof.Rows.callWith_builtin1 (thn (ha pos pins s σ H _ I h) fun us s1 ⟨vs, H1, I1, r1, q1⟩ => hc pins s1 σ H1 vs us Q I1 r1 q1) he hpl
theorem pe_callTy (hc : CallR X (.type T) r) (hg : Gl X x) (hm : X.mg x = none) (hv : bootBuiltins x = some (.type T)) (ha : PA X (e :: es) t) (hn : x ≠ "__name__" := by decide) (hdb : (x == ("__debug__" : Str)) = false := by decide)
    (he : starEach (e :: es) X.env = (false, eval e X.env) :: starEach es X.env := by rfl) (hpl : (backTo pos (starEach es X.env)).any (·.1) = false := by rfl) : PE X (.Call (.Name x p) (e :: es) [] pos) (tCB r t) := by
  intro pins s σ H Q I h
  refine wpAny_Call_Name_kw (ld_blt I hg hm hv ?_ hn hdb)
  exact PyProof.Rows.callWith_type1 (thn (ha pos pins s σ H _ I h) fun us s1 ⟨vs, H1, I1, r1, q1⟩ => hc pins s1 σ H1 vs us Q I1 r1 q1) he hpl
end
end L2
namespace HT
open PySem PyProof.Rows
section
open PySem.SeqAt
open PySem.AutoSeq1 (wpAny_loadPart')
open PySem.MeetsSeq PySem.MeetsSeq2 PySem.MeetsSeq3
end
section
variable {prog : Program} {w : World} {A : Around} {E : Value → Shared → Prop} {s : Shared}
theorem cat_tup {t b : Addr} {vs ws : List Value} {Q : Value → Shared → Prop} (ht : IsTup s.heap t vs.toArray) (hb : IsTup s.heap b ws.toArray) (hv : vs ≠ [])
    (h1 : ws = [] → Q (.ref t) s) (h2 : ws ≠ [] → Q (.ref s.heap.objs.size) { s with heap := s.heap.push { cls := .type "tuple", data := .seq (vs ++ ws).toArray } })
    (hsz : vs.length + ws.length ≤ sizeLine) : wpAny (model prog w) A (binaryOp .Add (.ref t) (.ref b)) Q E s := by
  obtain ⟨⟨cls, dd, data, sl⟩, ho, hc, n, hd⟩ := id ht
  obtain ⟨⟨cls2, dd2, data2, sl2⟩, ho2, hc2, n2, hd2⟩ := id hb
  simp only at hc hd hc2 hd2
  subst hc hd hc2 hd2
  have e : vs.toArray ++ ws.toArray = (vs ++ ws).toArray := by simp
  by_cases hw : ws = []
  · exact concat_meets ⟨_, ho, rfl⟩ ⟨_, ho2, rfl⟩ noFill_tuple_add seq_tuple_add PySem.F.slot_tuple_add PySem.F.entry_tuple_add (PySem.F.args_tuple_add_2 _ _)
      (tuple_addW1 t b vs.toArray ws.toArray n n2 dd dd2 sl sl2 (by simpa using hv) (by simp [hw])) ⟨ho, ho2, h1 hw⟩
  · refine concat_meets ⟨_, ho, rfl⟩ ⟨_, ho2, rfl⟩ noFill_tuple_add seq_tuple_add PySem.F.slot_tuple_add PySem.F.entry_tuple_add (PySem.F.args_tuple_add_2 _ _)
      (tuple_addW2 t b vs.toArray ws.toArray n n2 dd dd2 sl sl2 (by simpa using hv) (by simpa using hw) (by rw [List.size_toArray, List.size_toArray]; exact hsz)) ⟨ho, ho2, ?_⟩
    rw [e]
    exact h2 hw
def sIx (n d : Nat) : Option Int → Nat
  | none => d
  | some v => if v < 0 then (v + (n : Int)).toNat else min v.toNat n
theorem sIx_none (n d : Nat) : sIx n d none = d := rfl
theorem sIx_le (n d : Nat) (hd : d ≤ n) (o : Option Int) : sIx n d o ≤ n := by
  cases o with
  | none => exact hd
  | some v =>
    show (if v < 0 then (v + (n : Int)).toNat else min v.toNat n) ≤ n
    by_cases hv : v < 0
    · rw [if_pos hv]; omega
    · rw [if_neg hv]; exact Nat.min_le_right _ _
theorem clip_eq (v : Int) (n d : Nat) : (if v < 0 then max (v + (n : Int)) 0 else min v (n : Int)) = ((sIx n d (some v) : Nat) : Int) := by
  show (if v < 0 then max (v + (n : Int)) 0 else min v (n : Int)) = (((if v < 0 then (v + (n : Int)).toNat else min v.toNat n) : Nat) : Int)
  by_cases hv : v < 0
  · simp only [if_pos hv]; omega
  · simp only [if_neg hv]; omega
theorem adjust_gen (lo hi : Option Int) (n : Nat) : Builtin.Slice.sliceAdjust lo hi 1 (n : Int) = (((sIx n 0 lo : Nat) : Int), ((sIx n n hi : Nat) : Int)) := by
  have h1 : ¬ ((1 : Int) < 0) := by omega
  unfold Builtin.Slice.sliceAdjust
  simp only [h1, if_false]
  refine Prod.ext ?_ ?_
  · cases lo with
    | none => rfl
    | some v => exact clip_eq v n 0
  · cases hi with
    | none => rfl
    | some v => exact clip_eq v n n
theorem places_gen (i j : Nat) : Builtin.Slice.slicePlaces (i : Int) (j : Int) 1 = j - i := by
  unfold Builtin.Slice.slicePlaces
  have h1 : (1 : Int) > 0 := by omega
  simp only [h1, if_true, Int.ediv_one]
  split <;> omega
theorem slicePart_ {v : Value} {o : Option Int} {Q : Option Int → Shared → Prop} (p : IsPart v o) (h : Q o s) : wpAny (model prog w) A (Builtin.Slice.slicePartIndex v) Q E s := by
  cases p with
  | none => exact slicePart_none h
  | int i t => exact slicePart_int h
theorem sliceApplied_gen {sl : Addr} {vl vu : Value} {lo hi : Option Int} {n : Nat} {Q : Int × Int × Nat → Shared → Prop} (hs : s.heap.IsSliceOf sl vl vu .none) (pl : IsPart vl lo) (pu : IsPart vu hi)
    (h : Q (((sIx n 0 lo : Nat) : Int), 1, sIx n n hi - sIx n 0 lo) s) : wpAny (model prog w) A (Builtin.Slice.sliceApplied (.ref sl) (pure (n : Int))) Q E s := by
  obtain ⟨os, hos, hcs, hds⟩ := id hs
  unfold Builtin.Slice.sliceApplied Builtin.Slice.sliceFields
  refine wpAny_bind (wpAny_bind (wpAny_field hos hds (x := vl) rfl (wpAny_bind (wpAny_field hos hds (x := vu) rfl (wpAny_bind (wpAny_field hos hds (x := .none) rfl (wpAny_pure ?_)))))))
  refine wpAny_bind (slicePart_none ?_)
  show wpAny _ _ (if ((1 : Int) == 0) = true then _ else _) _ _ s
  rw [if_neg (by decide)]
  refine wpAny_bind (slicePart_ pl (wpAny_bind (slicePart_ pu (wpAny_bind (wpAny_pure ?_)))))
  show wpAny _ _ (match Builtin.Slice.sliceAdjust lo hi 1 (n : Int) with | (lo, hi) => pure (lo, (1 : Int), Builtin.Slice.slicePlaces lo hi 1)) _ _ s
  rw [adjust_gen lo hi n]
  show wpAny _ _ (pure (((sIx n 0 lo : Nat) : Int), (1 : Int), Builtin.Slice.slicePlaces ((sIx n 0 lo : Nat) : Int) ((sIx n n hi : Nat) : Int) 1)) _ _ s
  rw [places_gen]
  exact wpAny_pure h
theorem pick_gen (xs : Array Value) (i k : Nat) : ((List.range k).filterMap fun (m : Nat) => xs[((i : Int) + (m : Int) * 1).toNat]?).toArray = ((xs.toList.drop i).take k).toArray := by
  have e : (fun (m : Nat) => xs[((i : Int) + (m : Int) * 1).toNat]?) = fun m => xs[i + m]? := by
    funext m
    have : ((i : Int) + (m : Int) * 1).toNat = i + m := by omega
    rw [this]
  rw [e]
  have := pick_run xs i k
  rw [List.filterMap_map] at this
  have e2 : ((fun x => xs[x]?) ∘ fun x => i + x) = fun m => xs[i + m]? := rfl
  rw [e2] at this
  rw [this]
theorem getItem_tuple_cut {t sl : Addr} {items : Array Value} {vl vu : Value} {lo hi : Option Int} {Q : Value → Shared → Prop} (ht : IsTup s.heap t items) (hs : s.heap.IsSliceOf sl vl vu .none) (pl : IsPart vl lo) (pu : IsPart vu hi)
    (hw : ¬ (sIx items.size 0 lo = 0 ∧ sIx items.size items.size hi = items.size))
    (h : Q (.ref s.heap.objs.size) { s with heap := s.heap.push { cls := .type "tuple", data := .seq ((items.toList.drop (sIx items.size 0 lo)).take (sIx items.size items.size hi - sIx items.size 0 lo)).toArray } })
    (hsz : items.size ≤ sizeLine) : wpAny (model prog w) A (getItem (.ref t) (.ref sl)) Q E s := by
  have htake : sizeOk (.seq ((items.toList.drop (sIx items.size 0 lo)).take (sIx items.size items.size hi - sIx items.size 0 lo)).toArray) := by
    show ((items.toList.drop (sIx items.size 0 lo)).take (sIx items.size items.size hi - sIx items.size 0 lo)).toArray.size ≤ sizeLine
    rw [List.size_toArray, List.length_take, List.length_drop, Array.length_toList]
    omega
  have hj : sIx items.size items.size hi ≤ items.size := sIx_le _ _ (Nat.le_refl _) hi
  obtain ⟨os, hos, hcs, hds⟩ := id hs
  have hTs : s.TypeIs (.ref sl) "slice" := ⟨os, hos, hcs⟩
  unfold getItem
  try with_reducible refine wpAny_holding ?_
  first | refine wpAny_bind (wpAny_pure ?_) | skip
  refine wpAny_bind (wpAny_sequenceKey ht.typeIs (by decide) ?_)
  refine wpAny_bind (wpAny_callSpecial?_slot (name := Str.ofString "__getitem__") ht.typeIs PyProof.Rows.slot_tuple_getitem
    (wpAny_call_entry PyProof.Rows.slot_tuple_getitem ht.typeIs entry_tuple_getitem ?_ (args_tuple_getitem _ _)))
  show wpAny _ _ (Builtin.Tuple.tupleItemsOf (.ref t) >>= _) _ _ s
  refine wpAny_bind (tupleItemsOf_ ht ?_)
  refine wpAny_bind (wpAny_typeOf hTs ?_)
  rw [if_pos (by decide)]
  refine wpAny_bind (sliceApplied_gen hs pl pu ?_)
  have hno : ¬ ((((sIx items.size 0 lo : Nat) : Int) == 0 && (1 : Int) == 1 && (sIx items.size items.size hi - sIx items.size 0 lo) == items.size) = true) := by
    intro q
    rw [Bool.and_eq_true, Bool.and_eq_true] at q
    have q1 : ((sIx items.size 0 lo : Nat) : Int) = 0 := eq_of_beq q.1.1
    have q2 : sIx items.size items.size hi - sIx items.size 0 lo = items.size := eq_of_beq q.2
    exact hw ⟨by omega, by omega⟩
  show wpAny _ _ (if (((sIx items.size 0 lo : Nat) : Int) == 0 && (1 : Int) == 1 && (sIx items.size items.size hi - sIx items.size 0 lo) == items.size) = true then _ else _) _ _ s
  rw [if_neg hno, pick_gen]
  first
    | exact wpAny_bind (m := Builtin.Tuple.tupleExact _) (wpAny_newObj_type (wpAny_pure ⟨_, rfl, wpAny_pure h⟩) htake)
    | exact wpAny_bind (m := Builtin.Tuple.tupleExact _) (wpAny_newObj_type (wpAny_bind (wpAny_pure (wpAny_pure ⟨_, rfl, wpAny_pure h⟩))) htake)
    | exact wpAny_bind (wpAny_bind (m := Builtin.Tuple.tupleExact _) (wpAny_newObj_type (wpAny_pure (wpAny_pure ⟨_, rfl, wpAny_pure h⟩)) htake))
    | exact wpAny_bind (wpAny_bind (m := Builtin.Tuple.tupleExact _) (wpAny_newObj_type (wpAny_pure ⟨_, rfl, wpAny_pure h⟩) htake))
end
end HT
namespace L2
open PySem PySem.Spec PyProof.Rows
abbrev TO := St → Hp → (Option Int → Hp → Prop) → Prop
def PO (X : Cx) (e : Option Expr) (t : TO) : Prop :=
  ∀ (pins : List (Addr × Obj)) (s : Shared) (σ : St) (H : Hp) (Q : Option Int → Hp → Prop), Inv X pins σ H s → t σ H Q →
    wpAny (model X.prog X.w) X.A (evalPart e X.env) (fun u s' => ∃ o H', Inv X pins σ H' s' ∧ IsPart u o ∧ Q o H') X.xe s
def tNoPart : TO := fun _ H Q => Q none H
def tPart (t : TE) : TO := fun σ H Q => t σ H fun x H1 => ∃ i, x = .int i ∧ Q (some i) H1
section
variable {X : Cx} {e : Expr} {te : TE} {lo hi : Option Expr} {tl th : TO} {pos p2 : Pos}
theorem po_none : PO X none tNoPart := by
  intro pins s σ H Q I h
  rw [evalPart_none]
  exact wpAny_pure ⟨none, H, I, .none, h⟩
theorem po_some (h : PE X e te) : PO X (some e) (tPart te) := by
  intro pins s σ H Q I hw
  rw [evalPart_some]
  refine thn (h pins s σ H _ I hw) fun u s1 ⟨x, H1, I1, r1, q1⟩ => ?_
  obtain ⟨i, rfl, q⟩ := q1
  obtain ⟨t, rfl⟩ := r1
  exact ⟨some i, H1, I1, .int i t, q⟩
def SlR (X : Cx) (r : V → Option Int → Option Int → Hp → VK → Prop) : Prop :=
  ∀ (pins : List (Addr × Obj)) (s : Shared) (σ : St) (H : Hp) (x : V) (v vl vu : Value) (lo hi : Option Int) (sl : Addr) (Q : VK), Inv X pins σ H s → RelV x v → s.heap.IsSliceOf sl vl vu .none → IsPart vl lo → IsPart vu hi → r x lo hi H Q →
    ∃ T id, typeLookup (.type T) "__getitem__" = pure (some (.builtin id)) ∧ s.TypeIs v T ∧ wpAny (model X.prog X.w) X.A (getItem v (.ref sl)) (EP X pins σ Q) X.xe s
def tSl (r : V → Option Int → Option Int → Hp → VK → Prop) (te : TE) (tl th : TO) : TE := fun σ H Q => te σ H fun x H1 => tl σ H1 fun l H2 => th σ H2 fun u H3 => r x l u H3 Q
theorem pe_slice {r : V → Option Int → Option Int → Hp → VK → Prop} (hr : SlR X r) (he : PE X e te) (hl : PO X lo tl) (hu : PO X hi th) : PE X (.Subscript e (.Slice lo hi none p2) pos) (tSl r te tl th) := by
  intro pins s σ H Q I h
  refine Subscript_ (thn (he pins s σ H _ I h) fun v s1 ⟨x, H1, I1, r1, q1⟩ => ?_)
  refine wpAny_Slice (thn (hl pins s1 σ H1 _ I1 q1) fun vl s2 ⟨l, H2, I2, pl, q2⟩ => thn (hu pins s2 σ H2 _ I2 q2) fun vu s3 ⟨u, H3, I3, pu, q3⟩ => ?_)
  rw [evalPart_none]
  refine wpAny_pure ?_
  have I4 : Inv X pins σ H3 { s3 with heap := s3.heap.push { cls := .type "slice", data := .fields #[vl, vu, .none] } } := I3.kept (t' := s3.toks) fun b ob q => Heap.get?_push_of_some _ q
  obtain ⟨T, id, hT, ht, hg⟩ := hr pins { s3 with heap := s3.heap.push { cls := .type "slice", data := .fields #[vl, vu, .none] } } σ H3 x v vl vu l u s3.heap.objs.size Q I4 r1 (Heap.IsSliceOf.new ..) pl pu q3
  show wpAny (model X.prog X.w) X.A (subscriptTail e (.Slice lo hi none p2) v (.ref s3.heap.objs.size)) (EP X pins σ Q) X.xe { s3 with heap := s3.heap.push { cls := .type "slice", data := .fields #[vl, vu, .none] } }
  exact tail_any (ops := [.ref s3.heap.objs.size, v]) ht hT hg (by with_unfolding_all rfl)
def cutV (xs : List V) (lo hi : Option Int) : List V := (xs.drop (HT.sIx xs.length 0 lo)).take (HT.sIx xs.length xs.length hi - HT.sIx xs.length 0 lo)
theorem cutV_length (xs : List V) (lo hi : Option Int) : (cutV xs lo hi).length ≤ xs.length := by
  unfold cutV
  rw [List.length_take, List.length_drop]
  omega
def rSlT (K : PySem.W.Frag) : V → Option Int → Option Int → Hp → VK → Prop := fun x lo hi H Q => ∃ a xs, x = .ref a ∧ SqT K H a xs ∧
  ¬ (HT.sIx xs.length 0 lo = 0 ∧ HT.sIx xs.length xs.length hi = xs.length) ∧ ∀ p, H p = none → Q (.ref p) (upd H p (.tup (cutV xs lo hi)))
theorem sl_tup : SlR X (rSlT X.K) := by
  intro pins s σ H x v vl vu lo hi sl Q I rx hs pl pu h
  obtain ⟨a, xs, rfl, hx, hw, q⟩ := h
  cases rx
  obtain ⟨its, r, ht, hz⟩ := I.tuple hx
  have hlen : its.toArray.size = xs.length := by rw [List.size_toArray]; exact r.length.symm
  refine ⟨"tuple", _, PyProof.Rows.slot_tuple_getitem.lookup, ht.typeIs, ?_⟩
  refine HT.getItem_tuple_cut ht hs pl pu (by rw [hlen]; exact hw) ?_ (by rw [hlen]; exact hz)
  rw [hlen]
  refine ⟨.ref s.heap.objs.size, _, I.laid (t' := s.toks) (o := .tup (cutV xs lo hi)) (fun b ob q => Heap.get?_push_of_some _ q) (Nat.le_refl _) ?_, rfl, q _ (I.hok.fresh (Nat.le_refl _))⟩
  exact ⟨Nat.le_trans (cutV_length xs lo hi) hz, _, (r.drop (HT.sIx xs.length 0 lo)).take (HT.sIx xs.length xs.length hi - HT.sIx xs.length 0 lo), IsTup.new _ _⟩
def rCatT (K : PySem.W.Frag) : R2 := fun x y H Q => ∃ a b xs ys, x = .ref a ∧ y = .ref b ∧ SqT K H a xs ∧ SqT K H b ys ∧ xs ≠ [] ∧ xs.length + ys.length ≤ sizeLine ∧
  (ys = [] → Q (.ref a) H) ∧ (ys ≠ [] → ∀ p, H p = none → Q (.ref p) (upd H p (.tup (xs ++ ys))))
theorem Vals.nil_iff {xs : List V} {us : List Value} (r : Vals xs us) : us = [] ↔ xs = [] := by
  cases r with
  | nil => simp
  | cons _ _ => simp
theorem op_catT : OpR X (binaryOp .Add) (rCatT X.K) := by
  intro pins s σ H x y v u Q I rx ry h
  obtain ⟨a, b, xs, ys, rfl, rfl, ha, hb, hx, hz, q1, q2⟩ := h
  cases rx
  cases ry
  obtain ⟨its, r1, p1, _⟩ := I.tuple ha
  obtain ⟨its2, r2, p2, _⟩ := I.tuple hb
  refine HT.cat_tup p1 p2 (fun z => hx (r1.nil_iff.mp z)) (fun z => ⟨.ref a, H, I, rfl, q1 (r2.nil_iff.mp z)⟩) (fun z => ?_) (by rw [← r1.length, ← r2.length]; exact hz)
  refine ⟨.ref s.heap.objs.size, _, I.laid (t' := s.toks) (o := .tup (xs ++ ys)) (fun b ob q => Heap.get?_push_of_some _ q) (Nat.le_refl _) ?_, rfl, q2 (fun w => z (r2.nil_iff.mpr w)) _ (I.hok.fresh (Nat.le_refl _))⟩
  exact ⟨by rw [List.length_append]; exact hz, _, r1.append r2, IsTup.new _ _⟩
end
end L2
namespace L2
open PySem PySem.Spec PyProof.Rows
def ixN (n : Nat) (i : Int) : Option Nat := if 0 ≤ i then (if i < n then some i.toNat else none) else if -(n : Int) ≤ i then some (i + n).toNat else none
def atI {α : Type} (xs : List α) (i : Int) : Option α := (ixN xs.length i).bind fun j => xs[j]?
theorem ixN_seq {n : Nat} {i : Int} {j : Nat} (h : ixN n i = some j) : seqIndex? i n = some j ∧ j < n ∧ -(n : Int) ≤ i ∧ i < n := by
  unfold ixN at h
  by_cases h0 : 0 ≤ i
  · rw [if_pos h0] at h
    by_cases h1 : i < n
    · rw [if_pos h1] at h
      have e : i.toNat = j := Option.some.inj h
      exact ⟨by rw [seqIndex_of h0 h1, e], by omega, by omega, h1⟩
    · rw [if_neg h1] at h; cases h
  · rw [if_neg h0] at h
    by_cases h1 : -(n : Int) ≤ i
    · rw [if_pos h1] at h
      have e : (i + n).toNat = j := Option.some.inj h
      exact ⟨by rw [seqIndex_neg (by omega) h1, e], by omega, h1, by omega⟩
    · rw [if_neg h1] at h; cases h
theorem atI_get {α : Type} {xs : List α} {i : Int} {v : α} (h : atI xs i = some v) : ∃ j, seqIndex? i xs.length = some j ∧ xs[j]? = some v ∧ j < xs.length ∧ -(xs.length : Int) ≤ i ∧ i < xs.length := by
  unfold atI at h
  cases e : ixN xs.length i with
  | none => rw [e] at h; cases h
  | some j =>
    rw [e] at h
    obtain ⟨h1, h2, h3, h4⟩ := ixN_seq e
    exact ⟨j, h1, h, h2, h3, h4⟩
theorem atI_nat {α : Type} {xs : List α} {j : Nat} {v : α} (h : xs[j]? = some v) : atI xs (j : Int) = some v := by
  have hj : j < xs.length := (List.getElem?_eq_some_iff.mp h).1
  have e : ixN xs.length (j : Int) = some j := by
    unfold ixN
    rw [if_pos (by omega), if_pos (by omega)]; simp
  unfold atI; rw [e]; exact h
theorem atI_last {α : Type} (xs : List α) (v : α) : atI (xs ++ [v]) (-1) = some v := by
  have hl : (xs ++ [v]).length = xs.length + 1 := by simp
  have e : ixN (xs ++ [v]).length (-1) = some xs.length := by
    unfold ixN
    rw [hl, if_neg (by decide), if_pos (by omega)]
    congr 1
    omega
  unfold atI
  rw [e]
  show (xs ++ [v])[xs.length]? = some v
  simp
def PlainIx (b : Expr) : Prop := ∀ o i, subscripted b false o i = operate [o, i] (getItem o i)
def IxR (X : Cx) (r : R2) : Prop :=
  ∀ (value slice : Expr) (pins : List (Addr × Obj)) (s : Shared) (σ : St) (H : Hp) (x y : V) (v u : Value) (Q : VK), Inv X pins σ H s → RelV x v → RelV y u → r x y H Q →
    subscripted slice false v u = operate [v, u] (getItem v u) → wpAny (model X.prog X.w) X.A (subscriptTail value slice v u) (EP X pins σ Q) X.xe s
def MtR (X : Cx) (id : String) (r : V → List V → Hp → VK → Prop) : Prop :=
  ∀ (pins : List (Addr × Obj)) (s : Shared) (σ : St) (H : Hp) (x : V) (xs : List V) (v : Value) (us : List Value) (Q : VK), Inv X pins σ H s → RelV x v → Vals xs us → r x xs H Q →
    wpAny (model X.prog X.w) X.A (call (.builtin id) (v :: us)) (EP X pins σ Q) X.xe s
section
variable {X : Cx} {a b : Expr} {ta tb : TE} {pos : Pos}
theorem pe_ix {r : R2} (hr : IxR X r) (ha : PE X a ta) (hb : PE X b tb) (hs : PlainIx b) : PE X (.Subscript a b pos) (tOp r ta tb) := by
  intro pins s σ H Q I h
  exact Subscript_ (binT ha hb I h fun v u s2 x y H2 I2 rx ry q => hr a b pins s2 σ H2 x y v u Q I2 rx ry q (hs _ _))
def rIxL (K : PySem.W.Frag) : R2 := fun x y H Q => ∃ p xs i v, x = .ref p ∧ y = .int i ∧ SqL K H p xs ∧ atI xs i = some v ∧ Q v H
def rIxT (K : PySem.W.Frag) : R2 := fun x y H Q => ∃ p xs i v, x = .ref p ∧ y = .int i ∧ SqT K H p xs ∧ atI xs i = some v ∧ Q v H
def rIxS : R2 := fun x y H Q => ∃ z i c, x = .str z ∧ y = .int i ∧ z.length ≤ sizeLine ∧ atI z.cps.toList i = some c ∧ Q (.str ⟨#[c]⟩) H
theorem ix_list : IxR X (rIxL X.K) := by
  intro value slice pins s σ H x y v u Q I rx ry h hs
  obtain ⟨p, xs, i, z, rfl, rfl, hq, he, q⟩ := h
  cases rx
  obtain ⟨t, rfl⟩ := ry
  obtain ⟨its, r, pl, hz⟩ := I.list hq
  obtain ⟨j, h1, h2, h3, h4, h5⟩ := atI_get he
  obtain ⟨w, ew, rw'⟩ := r.get h2
  have hl := r.length
  have hn := line63
  have fin : EP X pins σ Q w s := ⟨z, H, I, rw', q⟩
  by_cases h0 : 0 ≤ i
  · have hj : i.toNat = j := by
      rw [seqIndex_of h0 h5] at h1
      exact Option.some.inj h1
    exact item_listR pl.isList h0 (by omega) (by rw [hj]; simpa using ew) fin hs
  · have hj : (i + (its.toArray.size : Int)).toNat = j := by
      rw [seqIndex_neg (by omega) h4] at h1
      rw [List.size_toArray, ← hl]
      exact Option.some.inj h1
    exact subscriptTail_builtinR (x := w) pl.isList.typeIs slot_list_getitem.lookup
      (wpAny_getItem_list_neg (Q := fun r s' => r = w ∧ EP X pins σ Q r s') pl.isList (by omega) (by rw [List.size_toArray] <;> omega) (by omega) (by rw [hj]; simpa using ew) ⟨rfl, fin⟩) hs
theorem ix_tup : IxR X (rIxT X.K) := by
  intro value slice pins s σ H x y v u Q I rx ry h hs
  obtain ⟨p, xs, i, z, rfl, rfl, hq, he, q⟩ := h
  cases rx
  obtain ⟨t, rfl⟩ := ry
  obtain ⟨its, r, pl, hz⟩ := I.tuple hq
  obtain ⟨j, h1, h2, h3, h4, h5⟩ := atI_get he
  obtain ⟨w, ew, rw'⟩ := r.get h2
  have hl := r.length
  have hn := line63
  have fin : EP X pins σ Q w s := ⟨z, H, I, rw', q⟩
  exact subscriptTail_builtinR (x := w) pl.typeIs slot_tuple_getitem.lookup
    (getItem_tuple (j := j) (Q := fun r s' => r = w ∧ EP X pins σ Q r s') pl (by omega) (by omega) (by rw [List.size_toArray, ← hl]; exact h1) (by simpa using ew) ⟨rfl, fin⟩) hs
theorem ix_str : IxR X rIxS := by
  intro value slice pins s σ H x y v u Q I rx ry h hs
  obtain ⟨z, i, c, rfl, rfl, hz, he, q⟩ := h
  obtain ⟨t, rfl⟩ := rx
  obtain ⟨t', rfl⟩ := ry
  obtain ⟨j, h1, h2, h3, h4, h5⟩ := atI_get he
  have hl : z.cps.toList.length = z.length := by simp [Str.length]
  rw [hl] at h1 h4 h5
  have hn := line63
  exact tail_any (typeIs_str s z t) slot_str_getitem.lookup (getItem_str (c := c) (by
    have e1 : decide (i < -(2 ^ 63 : Int)) = false := decide_eq_false (by omega)
    have e2 : decide (i ≥ 2 ^ 63) = false := decide_eq_false (by omega)
    rw [e1, e2, Bool.or_false]) (by rw [h1]; simpa using h2) ⟨.str ⟨#[c]⟩, H, I.tok _, ⟨_, rfl⟩, q⟩) hs
theorem Inv.lst {pins : List (Addr × Obj)} {σ : St} {H : Hp} {s : Shared} {p : Addr} {xs : List V} (I : Inv X pins σ H s) (h : H p = some (.lst xs)) :
    ∃ (its : List Value) (n : Nat), Vals xs its ∧ s.heap.get? p = some { cls := .type "list", data := .seq its.toArray n } ∧ xs.length ≤ sizeLine := by
  obtain ⟨z, its, n, r, e⟩ := I.hok p _ h
  exact ⟨its, n, r, e, z⟩
theorem slice_bounds (lo hi : Option Int) (n : Nat) : (sliceBounds lo hi none n).1 = ((HT.sIx n 0 lo : Nat) : Int) ∧ (sliceBounds lo hi none n).2.1 = ((HT.sIx n n hi : Nat) : Int) ∧ (sliceBounds lo hi none n).2.2 = 1 := by
  refine ⟨?_, ?_, rfl⟩
  · cases lo with
    | none => simp [sliceBounds, HT.sIx]
    | some i =>
      simp only [sliceBounds, HT.sIx, Option.getD_none, show (1 : Int) > 0 by decide, if_true]
      by_cases h : i < 0
      · simp only [h, if_true] <;> omega
      · simp only [h, if_false] <;> omega
  · cases hi with
    | none => simp [sliceBounds, HT.sIx]
    | some i =>
      simp only [sliceBounds, HT.sIx, Option.getD_none, show (1 : Int) > 0 by decide, if_true]
      by_cases h : i < 0
      · simp only [h, if_true] <;> omega
      · simp only [h, if_false] <;> omega
theorem slicePick_cut (its : List Value) (lo hi : Option Int) : slicePick its.toArray lo hi none = ((its.drop (HT.sIx its.length 0 lo)).take (HT.sIx its.length its.length hi - HT.sIx its.length 0 lo)).toArray := by
  obtain ⟨h1, h2, h3⟩ := slice_bounds lo hi its.toArray.size
  unfold slicePick
  rw [h1, h2, h3]
  simp only [sliceRange_one, pick_run, List.size_toArray] <;> rfl
def rSlL (K : PySem.W.Frag) : V → Option Int → Option Int → Hp → VK → Prop := fun x lo hi H Q => ∃ a xs, x = .ref a ∧ SqL K H a xs ∧ ∀ p, H p = none → Q (.ref p) (upd H p (.lst (cutV xs lo hi)))
theorem sl_list : SlR X (rSlL X.K) := by
  intro pins s σ H x v vl vu lo hi sl Q I rx hs pl pu h
  obtain ⟨a, xs, rfl, hx, q⟩ := h
  cases rx
  obtain ⟨its, r, ht, hz⟩ := I.list hx
  have hlen := r.length
  refine ⟨"list", _, slot_list_getitem.lookup, ht.isList.typeIs, ?_⟩
  refine wpAny_getItem_list_slice ht.isList hs pl pu .none (by simp) ?_ (by rw [List.size_toArray] <;> omega)
  rw [slicePick_cut, ← hlen]
  refine ⟨.ref s.heap.objs.size, _, I.laid (t' := s.toks) (o := .lst (cutV xs lo hi)) (fun b ob q => Heap.get?_push_of_some _ q) (Nat.le_refl _) ?_, rfl, q _ (I.hok.fresh (Nat.le_refl _))⟩
  exact ⟨Nat.le_trans (cutV_length xs lo hi) hz, _, 0, (r.drop (HT.sIx xs.length 0 lo)).take (HT.sIx xs.length xs.length hi - HT.sIx xs.length 0 lo), Heap.get?_push_size _ rfl⟩
def flatV : V → Bool
  | .non => true
  | .bl _ => true
  | .int _ => true
  | .str _ => true
  | _ => false
def eqV : V → V → Bool
  | .non, .non => true
  | .bl a, .bl b => a == b
  | .bl a, .int b => (if a then 1 else 0) == b
  | .int a, .bl b => a == (if b then 1 else 0)
  | .int a, .int b => a == b
  | .str a, .str b => a == b
  | _, _ => false
theorem eqAt_V {A : Around} {s : Shared} {y x : V} {u v : Value} (ry : RelV y u) (rx : RelV x v) (fy : flatV y = true) (fx : flatV x = true) : SeqAt.EqAt A s u v (eqV y x) := by
  cases y with
  | non =>
    cases ry
    cases x with
    | non => cases rx; exact SeqAt.EqAt.same _
    | bl b => cases rx; exact SeqAt.EqAt.none_bool b
    | int b => obtain ⟨t, rfl⟩ := rx; exact SeqAt.EqAt.none_int b t
    | str b => obtain ⟨t, rfl⟩ := rx; exact SeqAt.EqAt.none_str b t
    | _ => exact absurd (show false = true from fx) Bool.false_ne_true
  | bl a =>
    cases ry
    cases x with
    | non => cases rx; exact SeqAt.EqAt.bool_none a
    | bl b => cases rx; exact SeqAt.EqAt.bool_bool a b
    | int b => obtain ⟨t, rfl⟩ := rx; exact SeqAt.EqAt.bool_int a b t
    | str b => obtain ⟨t, rfl⟩ := rx; exact SeqAt.EqAt.bool_str a b t
    | _ => exact absurd (show false = true from fx) Bool.false_ne_true
  | int a =>
    obtain ⟨t', rfl⟩ := ry
    cases x with
    | non => cases rx; exact SeqAt.EqAt.int_none a t'
    | bl b => cases rx; exact SeqAt.EqAt.int_bool a t' b
    | int b => obtain ⟨t, rfl⟩ := rx; exact SeqAt.EqAt.int_int a t' b t
    | str b => obtain ⟨t, rfl⟩ := rx; exact SeqAt.EqAt.int_str a t' b t
    | _ => exact absurd (show false = true from fx) Bool.false_ne_true
  | str a =>
    obtain ⟨t', rfl⟩ := ry
    cases x with
    | non => cases rx; exact SeqAt.EqAt.str_none a t'
    | bl b => cases rx; exact SeqAt.EqAt.str_bool a t' b
    | int b => obtain ⟨t, rfl⟩ := rx; exact SeqAt.EqAt.str_int a t' b t
    | str b => obtain ⟨t, rfl⟩ := rx; exact SeqAt.EqAt.str_str a t' b t
    | _ => exact absurd (show false = true from fx) Bool.false_ne_true
  | _ => exact absurd (show false = true from fy) Bool.false_ne_true
def eqU (x : V) (u : Value) : Bool := match u with
  | .none => eqV .non x
  | .bool b => eqV (.bl b) x
  | .int i _ => eqV (.int i) x
  | .str z _ => eqV (.str z) x
  | _ => false
theorem eqU_of {x y : V} {u : Value} (r : RelV y u) (f : flatV y = true) : eqU x u = eqV y x := by
  cases y with
  | non => cases r; rfl
  | bl b => cases r; rfl
  | int i => obtain ⟨t, rfl⟩ := r; rfl
  | str z => obtain ⟨t, rfl⟩ := r; rfl
  | _ => exact absurd (show false = true from f) Bool.false_ne_true
theorem any_eqU {x : V} : ∀ {xs : List V} {us : List Value}, Vals xs us → xs.all flatV = true → us.any (eqU x) = xs.any fun y => eqV y x
  | _, _, .nil, _ => rfl
  | y :: xs, u :: us, .cons r t, f => by
    rw [List.all_cons, Bool.and_eq_true] at f
    rw [List.any_cons, List.any_cons, eqU_of r f.1, any_eqU t f.2]
theorem mem_eqAt {A : Around} {s : Shared} {x : V} {v : Value} (rx : RelV x v) (fx : flatV x = true) : ∀ {xs : List V} {us : List Value}, Vals xs us → xs.all flatV = true → ∀ u ∈ us, SeqAt.EqAt A s u v (eqU x u)
  | _, _, .nil, _ => fun u hu => by cases hu
  | y :: xs, u :: us, .cons r t, f => fun u' hu => by
    rw [List.all_cons, Bool.and_eq_true] at f
    rcases List.mem_cons.mp hu with rfl | hu
    · rw [eqU_of r f.1]; exact eqAt_V r rx f.1 fx
    · exact mem_eqAt rx fx t f.2 u' hu
def inV (x : V) (xs : List V) : Bool := xs.any fun y => eqV y x
def rIn (K : PySem.W.Frag) (neg : Bool) : R2 := fun x y H Q => ∃ p xs, y = .ref p ∧ (SqL K H p xs ∨ SqT K H p xs) ∧ flatV x = true ∧ xs.all flatV = true ∧ Q (.bl (if neg then !inV x xs else inV x xs)) H
theorem op_in_seq : OpR X (compareOp .In) (rIn X.K false) := by
  intro pins s σ H x y v u Q I rx ry h
  obtain ⟨p, xs, rfl, hq, fx, fs, q⟩ := h
  cases ry
  rcases hq with hq | hq
  · obtain ⟨its, r, pl, hz⟩ := I.list hq
    refine SeqAt.in_listAt (eqU x) pl.isList (fun w hw => mem_eqAt rx fx r fs w (by simpa using hw)) ⟨.bl _, H, I, rfl, ?_⟩
    rw [show its.toArray.any (eqU x) = its.any (eqU x) by simp, any_eqU r fs]
    exact q
  · obtain ⟨its, r, pl, hz⟩ := I.tuple hq
    refine SeqAt.in_tupleAt (eqU x) pl (fun w hw => mem_eqAt rx fx r fs w (by simpa using hw)) ⟨.bl _, H, I, rfl, ?_⟩
    rw [show its.toArray.any (eqU x) = its.any (eqU x) by simp, any_eqU r fs]
    exact q
theorem op_notIn_seq : OpR X (compareOp .NotIn) (rIn X.K true) := by
  intro pins s σ H x y v u Q I rx ry h
  obtain ⟨p, xs, rfl, hq, fx, fs, q⟩ := h
  cases ry
  rcases hq with hq | hq
  · obtain ⟨its, r, pl, hz⟩ := I.list hq
    refine SeqAt.notIn_listAt (eqU x) pl.isList (fun w hw => mem_eqAt rx fx r fs w (by simpa using hw)) ⟨.bl _, H, I, rfl, ?_⟩
    rw [show its.toArray.any (eqU x) = its.any (eqU x) by simp, any_eqU r fs]
    exact q
  · obtain ⟨its, r, pl, hz⟩ := I.tuple hq
    refine SeqAt.notIn_tupleAt (eqU x) pl (fun w hw => mem_eqAt rx fx r fs w (by simpa using hw)) ⟨.bl _, H, I, rfl, ?_⟩
    rw [show its.toArray.any (eqU x) = its.any (eqU x) by simp, any_eqU r fs]
    exact q
theorem call_list_of : CallR X (.type "list") (fun xs H Q => ∃ p ys, xs = [.ref p] ∧ (SqL X.K H p ys ∨ SqT X.K H p ys) ∧ ∀ l, H l = none → Q (.ref l) (upd H l (.lst ys))) := by
  intro pins s σ H xs us Q I r h
  obtain ⟨p, ys, rfl, hq, q⟩ := h
  obtain ⟨u, rfl, rx⟩ := vals1 r
  cases rx
  have fin : ∀ (its : List Value), Vals ys its → ys.length ≤ sizeLine → ∀ (h' : Heap) (c' : Nat), (∀ b o', s.heap.get? b = some o' → h'.get? b = some o') →
      h'.get? s.heap.objs.size = some { cls := .type "list", dict := none, data := .seq its.toArray c', slots := #[] } → EP X pins σ Q (.ref s.heap.objs.size) { s with heap := h' } := fun its r' hz h' c' kp e =>
    ⟨.ref s.heap.objs.size, _, I.laid (t' := s.toks) kp (Nat.le_refl _) (show ObjOk X.prog X.w _ h' _ (.lst ys) from ⟨hz, its, c', r', e⟩), rfl, q _ (I.hok.fresh (Nat.le_refl _))⟩
  rcases hq with hq | hq
  · obtain ⟨its, r', pl, hz⟩ := I.list hq
    have hlen := r'.length
    obtain ⟨o, ho, hc, n, hd⟩ := pl.isList
    exact call_list_seq p (.inl rfl) ho hc hd (fun h' c' kp e => fin its r' hz h' c' kp e) (by simp only [List.size_toArray] <;> omega)
  · obtain ⟨its, r', pl, hz⟩ := I.tuple hq
    have hlen := r'.length
    obtain ⟨o, ho, hc, n, hd⟩ := pl
    exact call_list_seq p (.inr rfl) ho hc hd (fun h' c' kp e => fin its r' hz h' c' kp e) (by simp only [List.size_toArray] <;> omega)
theorem call_tuple_of : CallR X (.type "tuple") (fun xs H Q => ∃ p ys, xs = [.ref p] ∧ ((SqL X.K H p ys ∧ ∀ l, H l = none → Q (.ref l) (upd H l (.tup ys))) ∨ (SqT X.K H p ys ∧ Q (.ref p) H))) := by
  intro pins s σ H xs us Q I r h
  obtain ⟨p, ys, rfl, h⟩ := h
  obtain ⟨u, rfl, rx⟩ := vals1 r
  cases rx
  rcases h with ⟨hq, q⟩ | ⟨hq, q⟩
  · obtain ⟨its, r', pl, hz⟩ := I.list hq
    have hlen := r'.length
    refine call_tuple_list pl.isList (fun h' kp => ?_) (by simp only [List.size_toArray] <;> omega)
    have I1 : Inv X pins σ H { s with heap := h' } := I.kept (t' := s.toks) kp
    have I2 : Inv X pins σ (upd H h'.objs.size (.tup ys)) { s with heap := h'.push { cls := .type "tuple", data := .seq its.toArray } } :=
      I1.laid (t' := s.toks) (fun b o e => Heap.get?_push_of_some _ e) (Nat.le_refl _) (show ObjOk X.prog X.w _ _ _ (.tup ys) from ⟨hz, its, r', IsTup.new _ _⟩)
    exact ⟨.ref h'.objs.size, _, I2, rfl, q _ (I1.hok.fresh (Nat.le_refl _))⟩
  · obtain ⟨its, r', pl, hz⟩ := I.tuple hq
    exact call_tuple_same pl ⟨.ref p, H, I, rfl, q⟩
def tyV (K : PySem.W.Frag) (T : String) (x : V) (H : Hp) : Prop := match x with
  | .str _ => T = "str"
  | .int _ => T = "int"
  | .ref p => (T = "list" ∧ ∃ xs, SqL K H p xs) ∨ (T = "tuple" ∧ ∃ o, K.lookup p = some o ∧ o.cls = .type "tuple" ∧ o.dict = none) ∨
      (T = "dict" ∧ ((∃ kvs, H p = some (.dK kvs)) ∨ ∃ kvs, H p = some (.dT kvs))) ∨ (T = "set" ∧ ∃ S n, H p = some (.set S n))
  | _ => False
theorem tyV_is {pins : List (Addr × Obj)} {σ : St} {H : Hp} {s : Shared} {T : String} {x : V} {v : Value} (I : Inv X pins σ H s) (r : RelV x v) (ty : tyV X.K T x H) :
    s.TypeIs v T ∧ ∀ a, v = .ref a → ∃ ob, s.heap.get? a = some ob ∧ ob.dict = none := by
  cases x with
  | str z =>
    obtain ⟨t, rfl⟩ := r
    cases (show T = "str" from ty)
    exact ⟨typeIs_str s z t, fun _ e => nomatch e⟩
  | int i =>
    obtain ⟨t, rfl⟩ := r
    cases (show T = "int" from ty)
    exact ⟨typeIs_int s i t, fun _ e => nomatch e⟩
  | ref p =>
    cases r
    rcases ty with ⟨rfl, xs, hq⟩ | ⟨rfl, o, hk, hc, hd⟩ | ⟨rfl, hk⟩ | ⟨rfl, S, n, hk⟩
    · obtain ⟨its, _, pl, _⟩ := I.list hq
      refine ⟨pl.isList.typeIs, fun a e => ?_⟩
      cases e
      obtain ⟨o, n, e, c, hd, _⟩ := pl
      exact ⟨o, e, hd⟩
    · refine ⟨⟨o, I.kIn p o hk, hc⟩, fun a e => ?_⟩
      cases e
      exact ⟨o, I.kIn _ o hk, hd⟩
    · have z : ∃ o, s.heap.get? p = some o ∧ o.ExactDict := by
        rcases hk with ⟨kvs, hk⟩ | ⟨kvs, hk⟩
        · obtain ⟨_, _, _, _, o, _, _, e, ex, _⟩ := I.hok p _ hk
          exact ⟨o, e, ex⟩
        · obtain ⟨_, _, _, _, o, _, _, e, ex, _⟩ := I.hok p _ hk
          exact ⟨o, e, ex⟩
      obtain ⟨o, e, ex⟩ := z
      refine ⟨⟨o, e, ex.1⟩, fun a e2 => ?_⟩
      cases e2
      exact ⟨o, e, ex.2.1⟩
    · obtain ⟨o, _, _, _, e, ex, _⟩ := I.hok p _ hk
      refine ⟨⟨o, e, ex.1⟩, fun a e2 => ?_⟩
      cases e2
      exact ⟨o, e, ex.2.1⟩
  | _ => exact False.elim ty
def tBM0 (K : PySem.W.Frag) (T : String) (r : V → List V → Hp → VK → Prop) (to : TE) : TE := fun σ H Q => to σ H fun x H1 => tyV K T x H1 ∧ r x [] H1 Q
def tBM (K : PySem.W.Frag) (T : String) (r : V → List V → Hp → VK → Prop) (to : TE) (t : TA) : TE := fun σ H Q => to σ H fun x H1 => tyV K T x H1 ∧ t σ H1 fun xs H2 => r x xs H2 Q
variable {o e : Expr} {es : List Expr} {to : TE} {t : TA} {name : Str} {apos cpos : Pos} {T id : String} {r : V → List V → Hp → VK → Prop}
theorem pe_bm0 (pa : PlainAttrs T) (slot : Slot T name id) (hty : typeOf (.builtin id) = pure (.type "method_descriptor")) (hm : MtR X id r) (ho : PE X o to)
    (hbase : attributeBase o name X.env (eval o X.env) = eval o X.env := by rfl) (hline : (apos.endLine == cpos.line) = true := by rfl) : PE X (.Call (.Attribute o name apos) [] [] cpos) (tBM0 X.K T r to) := by
  intro pins s σ H Q I h
  refine wpAny_Call_method0_late hbase hline (thn (ho pins s σ H _ I h) fun v s1 ⟨x, H1, I1, r1, ty, q1⟩ => ?_)
  obtain ⟨h1, h2⟩ := tyV_is I1 r1 ty
  exact ⟨T, id, pa, slot, hty, h1, h2, Calls.callWith_builtin rfl (PySem.evalArgs_none (hm pins s1 σ H1 x [] v [] Q I1 r1 .nil q1))⟩
theorem pe_bm (pa : PlainAttrs T) (slot : Slot T name id) (hty : typeOf (.builtin id) = pure (.type "method_descriptor")) (hm : MtR X id r) (ho : PE X o to) (ha : PA X (e :: es) t)
    (hbase : attributeBase o name X.env (eval o X.env) = eval o X.env := by rfl)
    (hfew : ((backTo cpos (starEach (e :: es) X.env)).all (fun x => !x.1) && (backToKw cpos (keywordEach [] X.env)).all (fun x => x.1.isSome)
      && decide ((e :: es).length + ([] : List Keyword).length + (if ([] : List Keyword).isEmpty then 0 else 1) < 30)) = true := by rfl)
    (hline : (apos.endLine == cpos.line) = true := by rfl) (hs : starEach (e :: es) X.env = (false, eval e X.env) :: starEach es X.env := by rfl) (hplain : (backTo cpos (starEach es X.env)).any (·.1) = false := by rfl) :
    PE X (.Call (.Attribute o name apos) (e :: es) [] cpos) (tBM X.K T r to t) := by
  intro pins s σ H Q I h
  refine wpAny_Call_method_late hbase hfew hline rfl (thn (ho pins s σ H _ I h) fun v s1 ⟨x, H1, I1, r1, ty, q1⟩ => ?_)
  obtain ⟨h1, h2⟩ := tyV_is I1 r1 ty
  refine ⟨T, id, pa, slot, hty, h1, h2, ?_⟩
  have hA := ha cpos pins s1 σ H1 _ I1 q1
  rw [hs] at hA ⊢
  refine Calls.callWith_builtin (by show (false || (backTo cpos (starEach es X.env)).any (·.1)) = false; rw [hplain] <;> rfl) (Calls.evalArgs_plain ?_)
  exact thn hA fun us s2 ⟨vs, H2, I2, r2, q2⟩ => hm pins s2 σ H2 x vs v us Q I2 r1 r2 q2
end
end L2
namespace L2
open PySem PySem.Spec PyProof.Rows
def MtM (X : Cx) (id : String) (r : V → List V → Hp → VK → Prop) : Prop :=
  ∀ (pins : List (Addr × Obj)) (s : Shared) (σ : St) (H : Hp) (x : V) (xs : List V) (v : Value) (us : List Value) (Q : VK), Inv X pins σ H s → RelV x v → Vals xs us → r x xs H Q →
    wpAny (model X.prog X.w) X.A (call (.builtin id) (v :: us)) (EP X pins σ Q) X.xe s
theorem Vals.one : ∀ {x : V} {us : List Value}, Vals [x] us → ∃ u, us = [u] ∧ RelV x u
  | _, _, .cons r .nil => ⟨_, rfl, r⟩
theorem Vals.zero : ∀ {us : List Value}, Vals [] us → us = []
  | _, .nil => rfl
theorem Vals.dropLast {xs : List V} {us : List Value} (h : Vals xs us) : Vals xs.dropLast us.dropLast := by
  induction h with
  | nil => exact .nil
  | cons r t ih =>
    cases t with
    | nil => exact .nil
    | cons q t' => exact .cons r ih
theorem Vals.eraseIdx : ∀ {xs : List V} {us : List Value} (i : Nat), Vals xs us → Vals (xs.eraseIdx i) (us.eraseIdx i)
  | _, _, _, .nil => .nil
  | _, _, 0, .cons _ t => t
  | _, _, i + 1, .cons r t => .cons r (Vals.eraseIdx i t)
theorem Vals.reverse {xs : List V} {us : List Value} (h : Vals xs us) : Vals xs.reverse us.reverse := by
  induction h with
  | nil => exact .nil
  | cons r t ih => rw [List.reverse_cons, List.reverse_cons]; exact Vals.append ih (.cons r .nil)
theorem erase_last {α : Type} (l : List α) : l.eraseIdx (l.length - 1) = l.dropLast := by
  induction l with
  | nil => rfl
  | cons a r ih =>
    cases r with
    | nil => rfl
    | cons b r =>
      have e : (a :: b :: r).length - 1 = ((b :: r).length - 1) + 1 := by
        have h1 : (a :: b :: r).length = r.length + 2 := rfl
        have h2 : (b :: r).length = r.length + 1 := rfl
        omega
      rw [e, List.eraseIdx_cons_succ, ih]
      all_goals rfl
theorem len_erase {α : Type} : ∀ (l : List α) (i : Nat), (l.eraseIdx i).length ≤ l.length
  | [], _ => Nat.le_refl _
  | _ :: _, 0 => Nat.le_succ _
  | _ :: r, i + 1 => Nat.succ_le_succ (len_erase r i)
section
variable {X : Cx} {pins : List (Addr × Obj)} {σ : St} {H : Hp} {s : Shared} {l b : Addr} {xs ys zs : List V}
theorem Inv.lset {its its' : List Value} {n : Nat} {f : Array Value → Array Value} {t' : Nat} (I : Inv X pins σ H s) (hH : H l = some (.lst xs))
    (e : s.heap.get? l = some { cls := .type "list", data := .seq its.toArray n }) (hf : f its.toArray = its'.toArray) (hv : Vals ys its') (hz : ys.length ≤ sizeLine) :
    Inv X pins σ (upd H l (.lst ys)) { s with heap := s.heap.update l (Obj.mapSeq f), toks := t' } := by
  have q := PySem.IsL.update e f
  rw [hf] at q
  refine I.write (x := l) (e := l) (by rw [hH]; exact trivial) (.inl rfl) (fun b' u hb hu => (Heap.get?_update_other s.heap (Obj.mapSeq f) (Ne.symm hb)).trans hu) ⟨_, q⟩ ?_
  exact ⟨hz, its', _, hv, q⟩
theorem Inv.lnew {its : List Value} {t' : Nat} (I : Inv X pins σ H s) (hv : Vals ys its) (hz : ys.length ≤ sizeLine) :
    Inv X pins σ (upd H s.heap.objs.size (.lst ys)) { s with heap := s.heap.push { cls := .type "list", data := .seq its.toArray }, toks := t' } :=
  I.laid (fun _ _ q => Heap.get?_push_of_some _ q) (Nat.le_refl _) ⟨hz, its, 0, hv, Heap.get?_push_size _ rfl⟩
theorem Inv.fresh (I : Inv X pins σ H s) : H s.heap.objs.size = none := I.hok.fresh (Nat.le_refl _)
theorem Inv.lstM (I : Inv X pins σ H s) (hH : H l = some (.lst xs)) : xs.length ≤ sizeLine ∧ ∃ (its : List Value) (n : Nat), Vals xs its ∧ xs.length = its.length ∧ s.heap.get? l = some { cls := .type "list", data := .seq its.toArray n } := by
  obtain ⟨z, its, n, r, e⟩ := I.hok l _ hH
  exact ⟨z, its, n, r, r.length, e⟩
theorem notLongL {n : Nat} (h : n ≤ sizeLine) : Builtin.List.listTooLong n = false := by
  unfold Builtin.List.listTooLong
  exact decide_eq_false (by omega)
end
section
variable {X : Cx}
def rAppend : V → List V → Hp → VK → Prop := fun x vs H Q => ∃ l xs y, x = .ref l ∧ vs = [y] ∧ H l = some (.lst xs) ∧ xs.length < sizeLine ∧ Q .non (upd H l (.lst (xs ++ [y])))
theorem mt_append : MtM X "list.append" rAppend := by
  intro pins s σ H x vs v us Q I rx rv h
  obtain ⟨l, xs, y, rfl, rfl, hH, hz, q⟩ := h
  cases rx
  obtain ⟨u, rfl, ru⟩ := rv.one
  obtain ⟨z, its, n, r, hl, e⟩ := I.lstM hH
  refine call_meets F.slot_list_append ⟨_, e, rfl⟩ F.entry_list_append (F.args_list_append_2 _ _) (PySem.list_append l its.toArray n u (by rw [List.size_toArray]; omega)) ⟨e, ?_⟩
  refine ⟨.non, _, I.lset (its' := its ++ [u]) hH e (by simp) (r.append (.cons ru .nil)) ?_, rfl, q⟩
  rw [List.length_append, List.length_singleton]
  omega
def rExtend : V → List V → Hp → VK → Prop := fun x vs H Q => ∃ l b xs zs, x = .ref l ∧ vs = [.ref b] ∧ H l = some (.lst xs) ∧ H b = some (.lst zs) ∧ xs.length + zs.length ≤ sizeLine ∧ Q .non (upd H l (.lst (xs ++ zs)))
theorem mt_extend : MtM X "list.extend" rExtend := by
  intro pins s σ H x vs v us Q I rx rv h
  obtain ⟨l, b, xs, zs, rfl, rfl, hH, hB, hz, q⟩ := h
  cases rx
  obtain ⟨u, rfl, ru⟩ := rv.one
  cases ru
  obtain ⟨z, its, n, r, hl, e⟩ := I.lstM hH
  obtain ⟨z2, its2, n2, r2, hl2, e2⟩ := I.lstM hB
  have hsz : its.toArray.size + its2.toArray.size ≤ sizeLine := by rw [List.size_toArray, List.size_toArray]; omega
  have hlong : ¬ (!its.toArray.isEmpty && Builtin.List.listTooLong (its.toArray.size + its2.toArray.size)) = true := by
    rw [notLongL hsz, Bool.and_false]
    exact Bool.false_ne_true
  refine call_meets F.slot_list_extend ⟨_, e, rfl⟩ F.entry_list_extend (F.args_list_extend_2 _ _)
    (AutoSeq1.list_extend_list_list_0 l its.toArray n b its2.toArray n2 hlong (by rw [List.size_toArray]; omega) (by omega)) ⟨e, e2, ?_⟩
  refine ⟨.non, _, I.lset (its' := its ++ its2) hH e (by simp) (r.append r2) ?_, rfl, q⟩
  rw [List.length_append]
  omega
def rPop : V → List V → Hp → VK → Prop := fun x vs H Q => ∃ l xs y, x = .ref l ∧ vs = [] ∧ H l = some (.lst xs) ∧ xs[xs.length - 1]? = some y ∧ Q y (upd H l (.lst xs.dropLast))
theorem mt_pop : MtM X "list.pop" rPop := by
  intro pins s σ H x vs v us Q I rx rv h
  obtain ⟨l, xs, y, rfl, rfl, hH, hy, q⟩ := h
  cases rx
  have hus := rv.zero
  subst hus
  obtain ⟨z, its, n, r, hl, e⟩ := I.lstM hH
  obtain ⟨u, hu, ru⟩ := r.get hy
  have hy' : its.toArray[its.toArray.size - 1]? = some u := by
    show its.toArray[its.length - 1]? = some u
    rw [← Array.getElem?_toList, ← hl]
    exact hu
  refine call_meets F.slot_list_pop ⟨_, e, rfl⟩ F.entry_list_pop (F.args_list_pop_1 _) (MeetsSeq.list_pop_last l its.toArray n u hy' (by rw [List.size_toArray]; omega)) ⟨e, ?_⟩
  refine ⟨y, _, I.lset (its' := its.dropLast) hH e ?_ r.dropLast ?_, ru, q⟩
  · show its.toArray.eraseIdxIfInBounds (its.toArray.size - 1) = its.dropLast.toArray
    rw [List.size_toArray, List.eraseIdxIfInBounds_toArray, erase_last]
  · rw [List.length_dropLast]
    omega
def rPopAt : V → List V → Hp → VK → Prop := fun x vs H Q => ∃ l xs i k y, x = .ref l ∧ vs = [.int i] ∧ H l = some (.lst xs) ∧ -(2 ^ 63) ≤ i ∧ i < 2 ^ 63 ∧ seqIndex? i xs.length = some k ∧ xs[k]? = some y ∧ Q y (upd H l (.lst (xs.eraseIdx k)))
theorem mt_popAt : MtM X "list.pop" rPopAt := by
  intro pins s σ H x vs v us Q I rx rv h
  obtain ⟨l, xs, i, k, y, rfl, rfl, hH, h1, h2, hk, hy, q⟩ := h
  cases rx
  obtain ⟨u, rfl, ru⟩ := rv.one
  obtain ⟨t, rfl⟩ := ru
  obtain ⟨z, its, n, r, hl, e⟩ := I.lstM hH
  obtain ⟨w, hw, rw'⟩ := r.get hy
  refine call_meets F.slot_list_pop ⟨_, e, rfl⟩ F.entry_list_pop (F.args_list_pop_2 _ _)
    (MeetsSeq.list_pop_at l its.toArray n i t k w (fitsIndex_both h1 h2) (by rw [List.size_toArray, ← hl]; exact hk) (by rw [← Array.getElem?_toList]; exact hw) (by rw [List.size_toArray]; omega)) ⟨e, ?_⟩
  refine ⟨y, _, I.lset (its' := its.eraseIdx k) hH e ?_ (r.eraseIdx k) ?_, rw', q⟩
  · show its.toArray.eraseIdxIfInBounds k = (its.eraseIdx k).toArray
    rw [List.eraseIdxIfInBounds_toArray]
  · have := len_erase xs k
    omega
def rCat : R2 := fun x y H Q => ∃ l b xs zs, x = .ref l ∧ y = .ref b ∧ H l = some (.lst xs) ∧ H b = some (.lst zs) ∧ xs.length + zs.length ≤ sizeLine ∧ ∀ p, H p = none → Q (.ref p) (upd H p (.lst (xs ++ zs)))
theorem op_cat : OpR X (binaryOp .Add) rCat := by
  intro pins s σ H x y v u Q I rx ry h
  obtain ⟨l, b, xs, zs, rfl, rfl, hH, hB, hz, q⟩ := h
  cases rx
  cases ry
  obtain ⟨z, its, n, r, hl, e⟩ := I.lstM hH
  obtain ⟨z2, its2, n2, r2, hl2, e2⟩ := I.lstM hB
  refine PySem.P.add_list e e2 ?_ (by rw [List.size_toArray, List.size_toArray]; omega)
  have ea : its.toArray ++ its2.toArray = (its ++ its2).toArray := by simp
  rw [ea]
  exact ⟨.ref _, _, I.lnew (t' := s.toks) (r.append r2) (by rw [List.length_append]; omega), rfl, q _ I.fresh⟩
end
section
variable {prog : Program} {w : World} {A : Around} {E : Value → Shared → Prop} {s : Shared}
end
section
variable {X : Cx}
end
end L2
namespace L2
open PySem PySem.Spec PyProof.Rows
section
variable {κ : Type} [DecidableEq κ]
def valV (kvs : List (κ × V)) (k : κ) : Option V := (kvs.find? fun kv => decide (kv.1 = k)).map (·.2)
def putK (kvs : List (κ × V)) (k : κ) (v : V) : List (κ × V) :=
  if (kvs.any fun kv => decide (kv.1 = k)) = true then kvs.map (fun kv => if kv.1 = k then (kv.1, v) else kv) else kvs ++ [(k, v)]
def dropK (kvs : List (κ × V)) (k : κ) : List (κ × V) := kvs.filter fun kv => decide (kv.1 ≠ k)
theorem valV_pos {p : κ × V} {r : List (κ × V)} {k : κ} (e : p.1 = k) : valV (p :: r) k = some p.2 := by simp [valV, List.find?_cons, e]
theorem valV_neg {p : κ × V} {r : List (κ × V)} {k : κ} (e : ¬ p.1 = k) : valV (p :: r) k = valV r k := by simp [valV, List.find?_cons, e]
theorem valV_any (k : κ) : ∀ kvs : List (κ × V), (kvs.any fun kv => decide (kv.1 = k)) = (valV kvs k).isSome
  | [] => rfl
  | p :: r => by
    rw [List.any_cons]
    by_cases e : p.1 = k
    · simp only [valV_pos e, decide_eq_true e, Bool.true_or, Option.isSome_some]
    · rw [valV_neg e, decide_eq_false e, Bool.false_or]; exact valV_any k r
theorem RelO.isSome_eq {o : Option V} {u : Option Value} (r : RelO o u) : o.isSome = u.isSome := by
  cases o with
  | none => cases u with
    | none => rfl
    | some _ => exact (show False from r).elim
  | some _ => cases u with
    | none => exact (show False from r).elim
    | some _ => rfl
theorem RelO.getD {o : Option V} {u : Option Value} {d : V} {d' : Value} (r : RelO o u) (rd : RelV d d') : RelV (o.getD d) (u.getD d') := by
  cases o with
  | none => cases u with
    | none => exact rd
    | some _ => exact (show False from r).elim
  | some _ => cases u with
    | none => exact (show False from r).elim
    | some _ => exact r
theorem KV.val {kvs : List (κ × V)} {vs : List (κ × Value)} (r : KV kvs vs) (k : κ) : RelO (valV kvs k) (valueAt vs k) := by
  unfold KV at r
  induction r with
  | nil => exact True.intro
  | @cons p q ps qs h t ih =>
    obtain ⟨h1, h2⟩ := h
    by_cases e : p.1 = k
    · have e' : q.1 = k := h1.symm.trans e
      have b : valueAt (q :: qs) k = some q.2 := by simp [valueAt, List.find?_cons, e']
      rw [valV_pos e, b]; exact h2
    · have e' : ¬ q.1 = k := fun z => e (h1.trans z)
      have b : valueAt (q :: qs) k = valueAt qs k := by simp [valueAt, List.find?_cons, e']
      rw [valV_neg e, b]; exact ih
theorem KV.any {kvs : List (κ × V)} {vs : List (κ × Value)} (r : KV kvs vs) (k : κ) : (kvs.any fun kv => decide (kv.1 = k)) = vs.any fun kv => decide (kv.1 = k) := by
  unfold KV at r
  induction r with
  | nil => rfl
  | cons h t ih => rw [List.any_cons, List.any_cons, ih, h.1]
theorem KV.repl {kvs : List (κ × V)} {vs : List (κ × Value)} (r : KV kvs vs) (k : κ) {y : V} {u : Value} (ry : RelV y u) :
    KV (kvs.map fun kv => if kv.1 = k then (kv.1, y) else kv) (vs.map fun kv => if kv.1 = k then (kv.1, u) else kv) := by
  unfold KV at r ⊢
  induction r with
  | nil => exact .nil
  | @cons p q ps qs h t ih =>
    rw [List.map_cons, List.map_cons]
    refine .cons ?_ ih
    obtain ⟨h1, h2⟩ := h
    by_cases e : p.1 = k
    · rw [if_pos e, if_pos (h1.symm.trans e)]; exact ⟨h1, ry⟩
    · rw [if_neg e, if_neg (fun z => e (h1.trans z))]; exact ⟨h1, h2⟩
theorem KV.put {kvs : List (κ × V)} {vs : List (κ × Value)} (r : KV kvs vs) (k : κ) {y : V} {u : Value} (ry : RelV y u) : KV (putK kvs k y) (stored vs k u) := by
  unfold putK stored
  rw [r.any k]
  by_cases e : (vs.any fun kv => decide (kv.1 = k)) = true
  · rw [if_pos e, if_pos e]; exact r.repl k ry
  · rw [if_neg e, if_neg e]; exact Paired.snoc r ⟨rfl, ry⟩
theorem KV.drop {kvs : List (κ × V)} {vs : List (κ × Value)} (r : KV kvs vs) (k : κ) : KV (dropK kvs k) (without vs k) := by
  unfold KV at r ⊢
  unfold dropK without
  induction r with
  | nil => exact .nil
  | @cons p q ps qs h t ih =>
    obtain ⟨h1, h2⟩ := h
    rw [List.filter_cons, List.filter_cons]
    by_cases e : p.1 = k
    · have a : ¬ decide (p.1 ≠ k) = true := by simp [e]
      have b : ¬ decide (q.1 ≠ k) = true := by simp [h1.symm.trans e]
      rw [if_neg a, if_neg b]; exact ih
    · have e' : ¬ q.1 = k := fun z => e (h1.trans z)
      have a : decide (p.1 ≠ k) = true := by simp [e]
      have b : decide (q.1 ≠ k) = true := by simp [e']
      rw [if_pos a, if_pos b]; exact .cons ⟨h1, h2⟩ ih
theorem KV.length {kvs : List (κ × V)} {vs : List (κ × Value)} (r : KV kvs vs) : kvs.length = vs.length := Paired.length r
end
theorem kV_is {P : Program} {w : World} {k : Key} {u : Value} (r : RelV (kV k) u) : (mixKind P w).is k u = true := by
  cases k with
  | inl i => obtain ⟨t, e⟩ := (show ∃ t, u = Value.int i t from r); subst e; exact mixKind_int P w i t
  | inr x => obtain ⟨t, e⟩ := (show ∃ t, u = Value.str x t from r); subst e; exact mixKind_str P w x t
theorem items_are {P : Program} {w : World} : ∀ {ks : List Key} {us : List Value}, Vals (ks.map kV) us → ItemsAre (mixKind P w) ks us
  | [], _, r => by rw [List.map_nil] at r; cases r; exact .nil
  | k :: ks, _, r => by
    rw [List.map_cons] at r
    cases r with
    | cons h t => exact .cons (kV_is h) (items_are t)
abbrev KT (H : Hp) : List (List Key × V) → List (List Key × Addr × Value) → Prop := Paired fun p q => p.1 = q.1 ∧ H q.2.1 = some (.tup (p.1.map kV)) ∧ RelV p.2 q.2.2
theorem KT.val {H : Hp} {kvs : List (List Key × V)} {xs : List (List Key × Addr × Value)} (r : KT H kvs xs) (k : List Key) : RelO (valV kvs k) ((atKey xs k).map (·.2)) := by
  induction r with
  | nil => exact True.intro
  | @cons p q ps qs h t ih =>
    obtain ⟨h1, _, h2⟩ := h
    by_cases e : p.1 = k
    · have e' : q.1 = k := h1.symm.trans e
      have b : atKey (q :: qs) k = some q.2 := by simp [atKey, List.find?_cons, e']
      rw [valV_pos e, b]; exact h2
    · have e' : ¬ q.1 = k := fun z => e (h1.trans z)
      have b : atKey (q :: qs) k = atKey qs k := by simp [atKey, List.find?_cons, e']
      rw [valV_neg e, b]; exact ih
theorem KT.repl {H : Hp} {kvs : List (List Key × V)} {xs : List (List Key × Addr × Value)} (r : KT H kvs xs) (k : List Key) {y : V} {u : Value} (ry : RelV y u) :
    KT H (kvs.map fun kv => if kv.1 = k then (kv.1, y) else kv) (xs.map (putAt k u)) := by
  induction r with
  | nil => exact .nil
  | @cons p q ps qs h t ih =>
    rw [List.map_cons, List.map_cons]
    refine .cons ?_ ih
    obtain ⟨h1, h2, h3⟩ := h
    unfold putAt
    by_cases e : p.1 = k
    · rw [if_pos e, if_pos (h1.symm.trans e)]; exact ⟨h1, h2, ry⟩
    · rw [if_neg e, if_neg (fun z => e (h1.trans z))]; exact ⟨h1, h2, h3⟩
theorem KT.put {H : Hp} {kvs : List (List Key × V)} {xs : List (List Key × Addr × Value)} (r : KT H kvs xs) (k : List Key) {b : Addr} {y : V} {u : Value} (hb : H b = some (.tup (k.map kV))) (ry : RelV y u) :
    KT H (putK kvs k y) (storedH xs k b u) := by
  have e : (kvs.any fun kv => decide (kv.1 = k)) = (atKey xs k).isSome := by
    rw [valV_any, (r.val k).isSome_eq, Option.isSome_map]
  unfold putK storedH
  rw [e]
  by_cases q : (atKey xs k).isSome = true
  · rw [if_pos q, if_pos q]; exact r.repl k ry
  · rw [if_neg q, if_neg q]; exact Paired.snoc r ⟨rfl, hb, ry⟩
theorem KT.keeps {H H' : Hp} {kvs : List (List Key × V)} {xs : List (List Key × Addr × Value)} (r : KT H kvs xs) (ht : ∀ b ys, H b = some (.tup ys) → H' b = some (.tup ys)) : KT H' kvs xs :=
  Paired.mapP r fun _ _ z => ⟨z.1, ht _ _ z.2.1, z.2.2⟩
section
variable {P : Program} {w : World} {H : Hp} {h : Heap} {a : Addr}
end
def DGet (H : Hp) (a : Addr) (y : V) (r : Option V) : Prop :=
  (∃ kvs k, Rd H a (.dK kvs) ∧ y = kV k ∧ r = valV kvs k) ∨ ∃ kvs k b, Rd H a (.dT kvs) ∧ y = .ref b ∧ H b = some (.tup (k.map kV)) ∧ r = valV kvs k
def DPut (H : Hp) (a : Addr) (y v : V) (H' : Hp) : Prop :=
  (∃ kvs k, H a = some (.dK kvs) ∧ y = kV k ∧ kvs.length < sizeLine ∧ H' = upd H a (.dK (putK kvs k v))) ∨
  ∃ kvs k b, H a = some (.dT kvs) ∧ y = .ref b ∧ H b = some (.tup (k.map kV)) ∧ kvs.length < sizeLine ∧ H' = upd H a (.dT (putK kvs k v))
theorem DGet.k {H : Hp} {a : Addr} {kvs : List (Key × V)} {k : Key} (e : H a = some (.dK kvs)) : DGet H a (kV k) (valV kvs k) := .inl ⟨kvs, k, .inl e, rfl, rfl⟩
theorem DGet.t {H : Hp} {a b : Addr} {kvs : List (List Key × V)} {k : List Key} (e : H a = some (.dT kvs)) (eb : H b = some (.tup (k.map kV))) : DGet H a (.ref b) (valV kvs k) := .inr ⟨kvs, k, b, .inl e, rfl, eb, rfl⟩
theorem DPut.k {H : Hp} {a : Addr} {kvs : List (Key × V)} {k : Key} {v : V} (e : H a = some (.dK kvs)) (hl : kvs.length < sizeLine) : DPut H a (kV k) v (upd H a (.dK (putK kvs k v))) := .inl ⟨kvs, k, e, rfl, hl, rfl⟩
theorem DPut.t {H : Hp} {a b : Addr} {kvs : List (List Key × V)} {k : List Key} {v : V} (e : H a = some (.dT kvs)) (eb : H b = some (.tup (k.map kV))) (hl : kvs.length < sizeLine) :
    DPut H a (.ref b) v (upd H a (.dT (putK kvs k v))) := .inr ⟨kvs, k, b, e, rfl, eb, hl, rfl⟩
section
variable {X : Cx} {pins : List (Addr × Obj)} {σ : St} {H : Hp} {s : Shared} {a : Addr} {y v : V} {u r : Value} {o : Option V} {A : Around} {E : Value → Shared → Prop}
end
section
variable {X : Cx} {pins : List (Addr × Obj)} {σ : St} {H : Hp} {s : Shared} {a : Addr} {kvs : List (Key × V)} {k : Key} {u : Value} {A : Around} {E : Value → Shared → Prop}
end
def NoSl (i : Expr) : Prop := ∀ ov iv, subscripted i false ov iv = operate [ov, iv] (getItem ov iv)
theorem subD_of {prog : Program} {w : World} {A : Around} {E : Value → Shared → Prop} {s : Shared} {env : Env} {value slice : Expr} {pos : Pos} {T id : String} {Q : Value → Shared → Prop}
    (hl : typeLookup (.type T) "__getitem__" = pure (some (.builtin id))) (hs : NoSl slice)
    (h : wpAny (model prog w) A (eval value env) (fun o s₁ => wpAny (model prog w) A (eval slice env) (fun i s₂ => s₂.TypeIs o T ∧ wpAny (model prog w) A (getItem o i) Q E s₂) E s₁) E s) :
    wpAny (model prog w) A (eval (.Subscript value slice pos) env) Q E s := by
  refine Subscript_ (wpAny_mono h (fun o s₁ h₁ => wpAny_mono h₁ (fun i s₂ h₂ => ?_) fun _ _ x => x) fun _ _ x => x)
  obtain ⟨hT, h₂⟩ := h₂
  unfold subscriptTail
  refine wpAny_bind ?_
  rw [getitemInPython_of_ne hT.not_modules]
  refine wpAny_bind (wpAny_specialOf hT hl ?_)
  have fin : wpAny (model prog w) A (subscripted slice false o i) (fun r s₃ => wpAny (model prog w) A (letTemporaryGo value o r >>= fun _ => pure r) Q E s₃) E s₂ := by
    rw [hs o i]
    exact wpAny_operating (wpAny_mono h₂ (fun r s₃ h₃ => wpAny_bind (wpAny_letTemporaryGo (wpAny_pure h₃))) fun _ _ x => x)
  first
    | exact wpAny_pure (wpAny_bind fin)
    | exact wpAny_bind (wpAny_pure (wpAny_bind fin))
    | exact wpAny_bind fin
section
variable {X : Cx} {o i e value : Expr} {pos pos' tpos : Pos} {td ty tv : TE}
end
section
variable {X : Cx} {pos : Pos}
end
section
variable {X : Cx} {pins : List (Addr × Obj)} {σ : St} {H : Hp} {s : Shared} {a : Addr} {y d : V} {u r : Value} {o : Option V} {A : Around} {E : Value → Shared → Prop}
end
section
variable {X : Cx} {o e f : Expr} {apos cpos : Pos} {td ty tx : TE}
end
section
variable {X : Cx} {pins : List (Addr × Obj)} {σ : St} {H : Hp} {s : Shared} {a : Addr} {kvs : List (Key × V)} {A : Around} {E : Value → Shared → Prop}
end
section
variable {X : Cx} {pins : List (Addr × Obj)} {σ : St} {H : Hp} {s : Shared} {a : Addr} {y : V} {u : Value} {A : Around} {E : Value → Shared → Prop}
end
end L2
namespace Att
open PySem PySem.W PySem.Calls PyProof.Rows
theorem ints_of_wellAll {P : Params} {h : Heap} : ∀ (ns : List Int) (vs : List Value), WellAll P h vs (ns.map WData.int) → IntsAre vs ns := by
  intro ns
  induction ns with
  | nil =>
    intro vs w
    rw [List.map_nil] at w
    cases w
    exact .nil
  | cons n ns ih =>
    intro vs w
    rw [List.map_cons] at w
    cases w with
    | cons a b =>
      cases a
      exact .cons _ _ (ih _ b)
theorem script_of {l : OpenLaw} {n : Nat} (hn : l.most = some n) {P : Params} {h : Heap} {args : List WData} {vals : List Value}
    (hpre : l.row.toRowW.claim.pre args = true) (hwl : WellAll P h vals args) :
    ∃ a vs ns, vals = [Value.ref a] ∧ args = [WData.list (ns.map WData.int)] ∧ h.get? a = some { cls := .type "list", data := .seq vs.toArray } ∧ IntsAre vs ns ∧ ns.length ≤ n := by
  have hsh : WShape.hasAll [] args [.list .int] = true := (pre_splitW hpre).1
  have hc : l.pre.holds [] { args := args } = true := (pre_splitW hpre).2
  obtain ⟨d, r, rfl, h1, h2⟩ := hasAllW_cons hsh
  obtain rfl := hasAllW_nil h2
  obtain ⟨xs, rfl, h3⟩ := hasW_list h1
  obtain ⟨ns, rfl⟩ := items_int h3
  have hlen : ns.length ≤ n := by
    unfold OpenLaw.pre at hc
    have h4 : (WTm.not (.lt (.lit (.int (n : Int))) (.len (.arg 0)))).holds [] { args := [.list (ns.map .int)] } = true := by
      have h4 := (holds_andW hc).1
      rw [hn] at h4
      exact h4
    have h5 := condW_of h4 (w_not (w_lt w_lit (w_len_list (w_arg rfl))))
    rw [List.length_map] at h5
    refine Nat.le_of_not_lt fun q => ?_
    have q' : (n : Int) < ((ns.length : Nat) : Int) := by omega
    first
      | (rw [decide_eq_true q'] at h5; exact absurd h5 (by decide))
      | (simp at h5; omega)
  cases hwl with
  | cons w1 w2 =>
    cases w2
    cases w1 with
    | list ho hall => exact ⟨_, _, ns, rfl, rfl, ho, ints_of_wellAll ns _ hall, hlen⟩
theorem post_true (l : OpenLaw) (args : List WData) : l.row.toRowW.claim.post args (.bool true) args = true :=
  postW_of (r := l.row.toRowW) (X := (true == true))
    (show WShape.has [] (.bool true) .bool = true by first | rfl | decide | simp [WShape.has, WShape.arms, WShape.armsAll])
    (show (WTm.eq .res (.lit (.bool true))).value [] { args := args, res := some (.bool true), after := args } = some (.bool (true == true)) from w_eq_bool (w_res rfl) w_lit) rfl
theorem attach_call {l : OpenLaw} {n : Nat} {q : Program} {loose : List Str} {XP : (Str → Option Value) → Heap → Prop} {YP : World → Heap → Prop} {d : DefRec}
    (hn : l.most = some n) (hdf : d.params.defaults = [])
    (call : ∀ (w : World) (s₀ s₁ : Shared) (mg mb : Str → Option Value) (fa : Addr) (o : Obj) (pm cd doc : Value) (a : Addr) (vs : List Value) (ns : List Int),
      Ground q loose [] XP w s₀ mg mb s₁.heap → YP w s₁.heap →
      s₁.heap.get? fa = some o → o.data = .func (docDef d.name d.params d.body d.scope pm cd doc) → s₁.heap.CodeRec cd d.name → mg d.name = some (.ref fa) →
      s₁.heap.get? a = some { cls := .type "list", data := .seq vs.toArray } → IntsAre vs ns → ns.length ≤ n → s₁.gens = #[] →
      codeAny (model l.prog w) callerA (.call (.ref fa) ⟨[.ref a], []⟩) (fun r s' => r = .ok (.ret (.bool true)) ∧ OldK s₁.heap s'.heap ∧ s'.os = s₁.os ∧ AllBare s'.gens) s₁) :
    WalkO q loose XP YP l.row.toRowW d [] (fun f vs => PySem.call f vs) := by
  intro w s₀ s₁ mg mb G Y fa o pm cd doc dV kV ho hd hcd hD hmg hg args vals as hpre hlay hrd hwl hlo
  obtain rfl : dV = .none := Dflts.none hD hdf
  obtain rfl : kV = .none := Dflts.noKw hD
  obtain ⟨a, vs, ns, rfl, rfl, hobj, hints, hlen⟩ := script_of hn hpre hwl
  refine enter_call (codeAny_mono (call w s₀ s₁ mg mb fa o pm cd doc a vs ns G Y ho (fd_plain hd) hcd hmg hobj hints hlen hg) fun r s' hq => ?_)
  obtain ⟨rfl, h2, h3, h4⟩ := hq
  exact ⟨.inl ⟨.bool true, .bool true, [], rfl, fun _ => rfl, .bool true, post_true l _, fun _ => ⟨List.Pairwise.nil, fun _ hm => (nomatch hm)⟩⟩, h2, h3, h4⟩
section
variable {prog : Program} {w : World} {A : Around} {E : Value → Shared → Prop} {s : Shared} {K : Frag}
end
end Att
namespace L2
open PySem PySem.Spec PyProof.Rows
theorem vals_ints : ∀ {vs : List Value} {ns : List Int}, IntsAre vs ns → Vals (ns.map V.int) vs
  | _, _, .nil => .nil
  | _, _, .cons n t h => .cons ⟨t, rfl⟩ (vals_ints h)
def Only (H : Hp) : Prop := ∀ b, H b = none ∨ ∃ o xs, H b = some (.frz o (.lst xs))
theorem law_call {P : Program} {w : World} {K : PySem.W.Frag} {mg mb : Str → Option Value} {CX : CXT} {k : Nat} {fa a : Addr} {fd : FuncData} {x : Str} {sp : Sp} {s₁ : Shared} {vs : List Value} {ns : List Int}
    (KX : K.In s₁.heap) (hns : s₁.heap.Ns mainGlobals mg) (hb : s₁.heap.Ns builtinsNs mb) (hbb : ∀ x : Str, x ≠ "__name__" → mb x = bootBuiltins x) (hlim : s₁.heap.NoLimit) (hg : s₁.gens = #[])
    (ha : s₁.heap.get? a = some { cls := .type "list", data := .seq vs.toArray }) (hi : IntsAre vs ns) (hl : ns.length ≤ sizeLine) (hr : Room k callerA)
    (F : ∀ base : Heap, K.In base → base.Ns mainGlobals mg → FnOk P w K mg base CX k fa fd [x] sp) (hbind : ∀ (s : Shared) (u : Value), BindsTo s fd ⟨[u], []⟩ [(x, u)])
    (hsp : ∀ H : Hp, Only H → SqL K H a (ns.map V.int) → sp [.ref a] H (fun v _ => v = .bl true) fun _ _ _ => False)
    (hCX : ∀ H e s', CX [] H s₁ (fun _ _ _ => False) e s' → False) :
    codeAny (model P w) callerA (.call (.ref fa) ⟨[.ref a], []⟩) (fun r s' => r = .ok (.ret (.bool true)) ∧ OldK s₁.heap s'.heap ∧ s'.os = s₁.os ∧ AllBare s'.gens) s₁ := by
  have rv := vals_ints hi
  have lenV := hi.length
  have core : ∀ H : Hp, Only H → SqL K H a (ns.map V.int) → HOk P w H s₁.heap → (∀ b, H b ≠ none → b = a) → (H a ≠ none → K.lookup a = none) →
      codeAny (model P w) callerA (.call (.ref fa) ⟨[.ref a], []⟩) (fun r s' => r = .ok (.ret (.bool true)) ∧ OldK s₁.heap s'.heap ∧ s'.os = s₁.os ∧ AllBare s'.gens) s₁ := by
    intro H hO hS hok hA hK
    have base_of : ∀ {b : Addr} {o : Obj}, s₁.heap.get? b = some o → H b = none → (hidT s₁.heap H).get? b = some o := fun e n => hidT_get e n
    have noA : ∀ {b : Addr} {o : Obj} {es : Array DictEntry} {ep : Nat}, s₁.heap.get? b = some o → o.data = .dict es ep → H b = none := fun {b o es ep} e d => by
      cases q : H b with
      | none => rfl
      | some u =>
        have e' : b = a := hA b (by rw [q]; simp)
        subst e'
        rw [ha] at e; cases e
        have d' : Data.seq vs.toArray _ = Data.dict es ep := d
        cases d'
    have nsK : ∀ {b : Addr} {m : Str → Option Value}, s₁.heap.Ns b m → (hidT s₁.heap H).Ns b m := fun {b m} ⟨o, es, ep, e, d, r⟩ => ⟨o, es, ep, base_of e (noA e d), d, r⟩
    have hKb : K.In (hidT s₁.heap H) := fun b o e => base_of (KX b o e) (by
      cases q : H b with
      | none => rfl
      | some u =>
        have e' : b = a := hA b (by rw [q]; simp)
        subst e'
        rw [hK (by rw [q]; simp)] at e; cases e)
    have hM : Mod K mg (hidT s₁.heap H) := ⟨hKb, nsK hns, ⟨mb, nsK hb, hbb⟩, let ⟨mc, h1, h2⟩ := hlim; ⟨mc, nsK h1, h2⟩⟩
    have e0 : Env0 P w K mg (hidT s₁.heap H) callerA [] s₁ H := ⟨rfl, hM, fun b o e => of_hidT e, Nat.le_of_eq (hidT_size _ _), trivial, fun b hb => absurd (show b ∈ ([] : List Addr) from hb) (by simp), hok, .of_eq hg⟩
    refine codeAny_mono ((F _ hKb (nsK hns)).run callerA [] s₁ H ⟨[.ref a], []⟩ [.ref a] [.ref a] _ _ hr e0 (hbind s₁ (.ref a)) (.cons rfl .nil) (hsp H hO hS)) fun r s' h => ?_
    cases r with
    | error e => exact (hCX H e s' h).elim
    | ok fl =>
      cases fl with
      | next => exact False.elim h
      | brk => exact False.elim h
      | cont => exact False.elim h
      | ret u =>
        obtain ⟨v, H', os, bare, un, hok', r', q⟩ := h
        have q' : v = .bl true := q
        subst q'
        obtain rfl : u = Value.bool true := r'
        refine ⟨rfl, OldK.of_keep fun b o e => ?_, os, bare⟩
        cases q : H b with
        | none => exact un.keep b o e q (by intro z; exact absurd (show b ∈ ([] : List Addr) from z) (by simp)) (by simp)
        | some u =>
          rcases hO b with z | ⟨ob, xs, z⟩
          · rw [q] at z; cases z
          · have z2 := un.frzs b ob _ z
            obtain ⟨e1, _⟩ := hok b _ z
            obtain ⟨e2, _⟩ := hok' b _ z2
            rw [e] at e1; cases e1
            exact e2
  cases hk : K.lookup a with
  | some o =>
    have e := KX a o hk
    rw [ha] at e
    cases e
    refine core (fun _ => none) (fun _ => .inl rfl) (.inr ⟨_, vs.toArray, _, hk, rfl, rfl, rfl, by rw [List.size_toArray, lenV]; exact hl, by simpa using rv⟩) (fun b u z => by have z' : (none : Option HO) = some u := z; cases z') (fun b z => absurd rfl z) fun z => absurd rfl z
  | none =>
    refine core (fun b => if b = a then some (.frz { cls := .type "list", data := .seq vs.toArray } (.lst (ns.map V.int))) else none) (fun b => ?_) (.inl (.inr ⟨{ cls := .type "list", data := .seq vs.toArray }, if_pos rfl⟩)) (fun b u z => ?_) (fun b z => ?_) fun _ => hk
    · by_cases hb : b = a
      · exact .inr ⟨_, _, if_pos hb⟩
      · exact .inl (if_neg hb)
    · by_cases hb : b = a
      · have z' := (if_pos hb).symm.trans z
        cases z'
        subst hb
        exact ⟨ha, by rw [List.length_map]; exact hl, vs, _, rv, ha⟩
      · have z' := (if_neg hb).symm.trans z
        cases z'
    · by_cases hb : b = a
      · exact hb
      · exact absurd (if_neg hb) z
end L2
namespace L2
open PySem PySem.Spec PyProof.Rows
abbrev KOf {K : PySem.W.Frag} {h : Heap} (_ : K.In h) : PySem.W.Frag := K
theorem walk_of {l : PySem.W.OpenLaw} {n k : Nat} {q : Program} {loose : List Str} {XP : (Str → Option Value) → Heap → Prop} {YP : World → Heap → Prop} {d : DefRec} {K : Params → PySem.W.Frag} {CX : World → CXT} {sp : World → Sp} {x : Str}
    (hn : l.most = some n) (hn2 : n ≤ sizeLine) (hdf : d.params.defaults = []) (hr : Room k callerA)
    (hY : ∀ (w : World) (h : Heap), YP w h → (K w.params).In h)
    (F : ∀ (w : World) (mg : Str → Option Value) (fa : Addr) (h : Heap), (K w.params).In h → h.Ns mainGlobals mg → mg d.name = some (.ref fa) →
      ∃ fd : FuncData, (∀ (s : Shared) (u : Value), BindsTo s fd ⟨[u], []⟩ [(x, u)]) ∧
        ∀ base : Heap, (K w.params).In base → base.Ns mainGlobals mg → FnOk l.prog w (K w.params) mg base (CX w) k fa fd [x] (sp w))
    (hsp : ∀ (w : World) (H : Hp) (a : Addr) (ns : List Int), ns.length ≤ n → Only H → SqL (K w.params) H a (ns.map V.int) → sp w [.ref a] H (fun v _ => v = .bl true) fun _ _ _ => False)
    (hCX : ∀ (w : World) (H : Hp) (s : Shared) (e : Value) (s' : Shared), CX w [] H s (fun _ _ _ => False) e s' → False) :
    PySem.W.WalkO q loose XP YP l.row.toRowW d [] (fun f vs => PySem.call f vs) := by
  refine Att.attach_call hn hdf fun w s₀ s₁ mg mb fa o pm cd doc a vs ns G Y ho hd hcd hmg hobj hints hlen hg => ?_
  have KX := hY w _ Y
  obtain ⟨fd, hb, hF⟩ := F w mg fa _ KX G.T.g hmg
  exact law_call KX G.T.g G.T.b G.T.builtins G.T.nolimit hg hobj hints (Nat.le_trans hlen hn2) hr hF hb (fun H hO hS => hsp w H a ns hlen hO hS) fun H e s' => hCX w H s₁ e s'
theorem walk_ofK {l : PySem.W.OpenLaw} {n k : Nat} {q : Program} {loose : List Str} {XP : (Str → Option Value) → Heap → Prop} {YP : World → Heap → Prop} {d : DefRec} {K : Params → PySem.W.Frag} {CX : CXT} {sp : PySem.W.Frag → Sp} {x : Str}
    (hn : l.most = some n) (hn2 : n ≤ sizeLine) (hdf : d.params.defaults = []) (hr : Room k callerA)
    (hY : ∀ (w : World) (h : Heap), YP w h → (K w.params).In h)
    (F : ∀ (w : World) (mg : Str → Option Value) (fa : Addr) (h : Heap), (K w.params).In h → h.Ns mainGlobals mg → mg d.name = some (.ref fa) →
      ∃ fd : FuncData, (∀ (s : Shared) (u : Value), BindsTo s fd ⟨[u], []⟩ [(x, u)]) ∧
        ∀ base : Heap, (K w.params).In base → base.Ns mainGlobals mg → FnOk l.prog w (K w.params) mg base CX k fa fd [x] (sp (K w.params)))
    (hsp : ∀ (K : PySem.W.Frag) (H : Hp) (a : Addr) (ns : List Int), ns.length ≤ n → Only H → SqL K H a (ns.map V.int) → sp K [.ref a] H (fun v _ => v = .bl true) fun _ _ _ => False)
    (hCX : ∀ (H : Hp) (s : Shared) (e : Value) (s' : Shared), CX [] H s (fun _ _ _ => False) e s' → False) :
    PySem.W.WalkO q loose XP YP l.row.toRowW d [] (fun f vs => PySem.call f vs) :=
  walk_of (K := K) (CX := fun _ => CX) (sp := fun w => sp (K w.params)) hn hn2 hdf hr hY F (fun w H a ns h1 h2 h3 => hsp (K w.params) H a ns h1 h2 h3) fun _ H s e s' => hCX H s e s'
end L2
namespace L2
open PySem PySem.Spec PyProof.Rows
def defArgs (s : Stmt) : Arguments := match s with
  | .FunctionDef _ a _ _ _ _ _ _ _ _ => a
  | _ => { posonlyargs := [], args := [], vararg := none, kwonlyargs := [], kw_defaults := [], kwarg := none, defaults := [] }
def defBody (s : Stmt) : List Stmt := match s with
  | .FunctionDef _ _ b _ _ _ _ _ _ _ => b
  | _ => []
def defScope (s : Stmt) : Scope := match s with
  | .FunctionDef _ _ _ _ _ _ sc _ _ _ => sc
  | _ => { kind := .function, names := [], isGenerator := false, isCoroutine := false }
abbrev CX0 : CXT := fun _ _ _ _ _ _ => False
abbrev E0 : XK := fun _ _ _ => False
theorem pass0 {X : Cx} : Passes CX0 X E0 := fun _ _ _ _ _ _ _ h => h.elim
structure Fun (K : PySem.W.Frag) (x qual : Str) (st : Stmt) (f : Addr) (fd : FuncData) : Prop where
  ex : ∃ (oc : Value) (od : Option Addr) (kV doc pm : Value) (an : Option Addr) (cdv ct : Value) (osl : Array (Option Value)),
    fd = PySem.W.fnOf x qual (defArgs st) (defBody st) (defScope st) .none kV doc pm an cdv ct ∧ K.lookup f = some ⟨oc, od, .func fd, osl⟩ ∧ PySem.W.codeIn K cdv qual = true
  kp : PySem.W.keepIn K (.ref f) = true
section
variable {P : Program} {w : World} {K : PySem.W.Frag} {mg : Str → Option Value} {base : Heap}
theorem Fun.ok {x qual : Str} {st : Stmt} {f : Addr} {fd : FuncData} {N ps : List Str} {k : Nat} {sp : Sp} (F : Fun K x qual st f fd) (S : FnScope N ps (defScope st)) (len : ∀ vs H Q E, sp vs H Q E → vs.length = ps.length)
    (hbody : ∀ (cdv : Value) (A : Around) (outer : List Env) (s : Shared) (H : Hp) (vs : List V) (Q : VK) (E : XK), Room k (A.deeper (envOfC qual (defScope st) s.heap.objs.size f cdv)) → sp vs H Q E →
      ∃ t, PSs (cxOf CX0 P w K mg base N qual (defScope st) f cdv A outer s H E).nox (defBody st) t ∧ t { nx := fun _ H' => Q .non H', rt := Q } (start N vs) H) : FnOk P w K mg base CX0 (k + 1) f fd ps sp := by
  obtain ⟨oc, od, kV, doc, pm, an, cdv, ct, osl, rfl, lk, hcd⟩ := F.ex
  refine fn_of lk hcd S len fun A outer s H vs Q E hr hsp => ?_
  obtain ⟨t, h, q⟩ := hbody cdv A outer s H vs Q E hr hsp
  exact ⟨t, h.nox, q⟩
theorem Fun.binds {x qual : Str} {st : Stmt} {f : Addr} {fd : FuncData} {ps : List Str} (F : Fun K x qual st f fd)
    (h : ∀ (kV doc pm : Value) (an : Option Addr) (cdv ct : Value) (us : List Value), us.length = ps.length → bindArgs (PySem.W.fnOf x qual (defArgs st) (defBody st) (defScope st) .none kV doc pm an cdv ct) ⟨us, []⟩ = pure (ps.zip us)) : Binds K fd ps [] := by
  obtain ⟨oc, od, kV, doc, pm, an, cdv, ct, osl, rfl, lk, hcd⟩ := F.ex
  exact .all (h kV doc pm an cdv ct)
theorem fun_mk {x qual : Str} {st : Stmt} {f : Addr} {oc : Value} {od an : Option Addr} {osl : Array (Option Value)} {kV doc pm cdv ct : Value} (l : K.lookup f = some ⟨oc, od, .func (PySem.W.fnOf x qual (defArgs st) (defBody st) (defScope st) .none kV doc pm an cdv ct), osl⟩)
    (c : PySem.W.codeIn K cdv qual = true) (k : PySem.W.keepIn K (.ref f) = true) : Fun K x qual st f (PySem.W.fnOf x qual (defArgs st) (defBody st) (defScope st) .none kV doc pm an cdv ct) := ⟨⟨oc, od, kV, doc, pm, an, cdv, ct, osl, rfl, l, c⟩, k⟩
end
section
variable {X : Cx}
theorem pv (i : Nat) {x : Str} {pos : Pos} (hN : X.N[i]? = some x := by rfl) (hv : Vis X.env.scope x := by first | exact Or.inl rfl | exact Or.inr (Or.inl rfl) | exact Or.inr (Or.inr rfl)) (hd : (x == ("__debug__" : Str)) = false := by decide)
    (hcd : (x == ("__classdict__" : Str)) = false := by decide) : PE X (.Name x pos) (tVar i) := pe_var hN hv hd hcd
end
theorem iteF {A B : Prop} (h : B) : if false = true then A else B := by
  rw [if_neg Bool.false_ne_true]
  exact h
theorem iteT {A B : Prop} (h : A) : if true = true then A else B := by
  rw [if_pos rfl]
  exact h
def Same (H H' : Hp) : Prop := ∀ b o, H b = some o → H' b = some o
theorem Same.refl (H : Hp) : Same H H := fun _ _ h => h
theorem Same.trans {H H1 H2 : Hp} (a : Same H H1) (b : Same H1 H2) : Same H H2 := fun c o h => b c o (a c o h)
theorem Same.free {H H' : Hp} (e : Same H H') {l : Addr} (h : H' l = Option.none) : H l = Option.none := by
  cases q : H l with
  | none => rfl
  | some o =>
    rw [e l o q] at h
    cases h
theorem Same.seq {K : PySem.W.Frag} {H H' : Hp} {a : Addr} {xs : List V} (e : Same H H') (h : SqL K H a xs) : SqL K H' a xs := by
  rcases h with (h | ⟨o, h⟩) | h
  · exact .inl (.inl (e _ _ h))
  · exact .inl (.inr ⟨o, e _ _ h⟩)
  · exact .inr h
section
variable {κ : Type} [DecidableEq κ]
end
end L2
set_option maxHeartbeats 4000000
namespace L2
open PySem PySem.Spec PyProof.Rows
section
variable {prog : Program} {w : World} {A : Around} {R : Result → Shared → Prop} {s : Shared}
theorem nox_mono {α : Type} {M : Model} {t : Sem α} {Q Q' : α → Shared → Prop} {E : Value → Shared → Prop} (h : wpAny M A t Q (fun _ _ => False) s) (k : ∀ a s, Q a s → Q' a s) : wpAny M A t Q' E s :=
  wpAny_mono h k fun _ _ z => z.elim
theorem compLoop_tg {elt target iter : Expr} {ifs : List Expr} {scope : Scope} {pos : Pos} {it acc : Value} {env : Env} (J : Nat → Shared → Prop)
    (turn : ∀ n s, J n s → wpAny (model prog w) A (pyNext it) (fun r s₁ => match r with
      | none => R (.ok .next) s₁
      | some v => wpAny (model prog w) A (letOwnedTupleGo target it v) (fun _ s₂ => wpAny (model prog w) A (assign target env v) (fun _ s₃ =>
          wpAny (model prog w) A (forIn ifs true fun c r => if r = true then do let ok ← isTrue c env (eval c env); pure (ForInStep.yield ok) else pure (ForInStep.yield r)) (fun ok s₄ =>
            if ok = true then wpAny (model prog w) A (eval elt env) (fun x s₅ =>
              wpAny (model prog w) A (call (.builtin "list.append") [acc, x]) (fun _ s₆ => ∃ m, m < n ∧ J m s₆) (fun _ _ => False) s₅) (fun _ _ => False) s₄
            else ∃ m, m < n ∧ J m s₄) (fun _ _ => False) s₃) (fun _ _ => False) s₂) (fun _ _ => False) s₁) (fun _ _ => False) s)
    (n : Nat) (h : J n s) :
    codeAny (model prog w) A (.compLoop (.ListComp elt [⟨target, iter, ifs, 0⟩] scope pos) 0 it acc env) R s := by
  refine codeAny_loop rfl J (fun n s hI => ?_) n h
  show wpAny _ A ((compTurn (.ListComp elt [⟨target, iter, ifs, 0⟩] scope pos) 0 it acc env).onRaise (fun x => do noteFrame x env; theTreesLotGoes x)) _ _ s
  refine wpAny_noted ?_
  rw [compTurn_list]
  refine wpAny_bind (wpAny_standAt (wpAny_bind (nox_mono (turn n s hI) (fun r s₁ h₁ => ?_))))
  cases r with
  | none => exact wpAny_pure h₁
  | some v =>
    refine wpAny_bind (nox_mono h₁ fun _ s₂ h₂ => wpAny_bind (nox_mono h₂ fun _ s₃ h₃ => wpAny_bind (nox_mono h₃ fun ok s₄ h₄ => ?_)))
    cases ok with
    | false => exact wpAny_pure ⟨rfl, h₄⟩
    | true => exact wpAny_bind (wpAny_bind (nox_mono h₄ fun x s₅ h₅ => wpAny_bind (nox_mono h₅ fun _ s₆ h₆ => wpAny_pure (wpAny_pure ⟨rfl, h₆⟩))))
end
theorem lookup_map_kind {f : Str → NameKind → NameKind} : ∀ (l : List (Str × NameKind)) (x : Str), (l.map fun p => (p.1, f p.1 p.2)).lookup x = (l.lookup x).map (f x)
  | [], _ => rfl
  | (n, k) :: r, x => by
    rw [List.map_cons, List.lookup_cons, List.lookup_cons]
    cases hx : x == n with
    | true =>
      have e : x = n := by simpa using hx
      subst e
      rfl
    | false => exact lookup_map_kind r x
def reKind (env : Env) (n : Str) (k : NameKind) : NameKind := if (k == .free && env.scope.kind == .function && env.kindOf n == some .cell) = true then .cell else k
theorem relabel_lookup (scope : Scope) (env : Env) (x : Str) : (relabel scope env).names.lookup x = (scope.names.lookup x).map (reKind env x) := by
  rw [← lookup_map_kind]
  unfold relabel
  congr 1
  show List.map _ scope.names = List.map _ scope.names
  congr 1
  funext p
  obtain ⟨n, k⟩ := p
  show (if (k == NameKind.free && env.scope.kind == .function && env.kindOf n == some .cell) = true then (n, NameKind.cell) else (n, k)) = (n, reKind env n k)
  unfold reKind
  split <;> rfl
theorem closure_of {env : Env} {f : Str × NameKind → List (Str × Addr) → Sem (ForInStep (List (Str × Addr)))}
    (hf1 : ∀ n c r, cellOf env n = pure c → f (n, .free) r = pure (.yield ((n, c) :: r))) (hf2 : ∀ n k r, k ≠ .free → f (n, k) r = pure (.yield r)) :
    ∀ (l : List (Str × NameKind)) (cs : List (Str × Addr)), (∀ y ∈ l, y.2 = .free → ∃ c, env.cells.lookup y.1 = some c) →
    ∃ cl : List (Str × Addr), forIn l cs f = pure cl ∧
      (∀ x c, cl.lookup x = some c → env.cells.lookup x = some c ∨ cs.lookup x = some c) ∧ (∀ x, (∃ c, cs.lookup x = some c) ∨ (x, NameKind.free) ∈ l → ∃ c, cl.lookup x = some c)
  | [], cs, _ => ⟨cs, rfl, fun _ _ h => .inr h, fun x h => h.elim id fun z => nomatch z⟩
  | (n, k) :: r, cs, h => by
    by_cases hk : k = .free
    · subst hk
      obtain ⟨c, hc⟩ := h (n, .free) List.mem_cons_self rfl
      obtain ⟨cl, h1, h2, h3⟩ := closure_of hf1 hf2 r ((n, c) :: cs) fun y hy => h y (List.mem_cons_of_mem _ hy)
      refine ⟨cl, ?_, fun x c' hx => ?_, fun x hx => h3 x ?_⟩
      · rw [List.forIn_cons, hf1 n c cs (by unfold cellOf; rw [hc])]
        exact h1
      · rcases h2 x c' hx with z | z
        · exact .inl z
        · rw [List.lookup_cons] at z
          cases hxn : x == n with
          | true =>
            rw [hxn] at z
            have e1 : x = n := by simpa using hxn
            have e2 : c = c' := by simpa using z
            subst e1; subst e2
            exact .inl hc
          | false =>
            rw [hxn] at z
            exact .inr z
      · rcases hx with ⟨c', hx⟩ | hx
        · refine .inl ?_
          rw [List.lookup_cons]
          cases hxn : x == n with
          | true => exact ⟨c, rfl⟩
          | false => exact ⟨c', hx⟩
        · rcases List.mem_cons.mp hx with e | e
          · injection e with e1 e2
            subst e1
            exact .inl ⟨c, by simp⟩
          · exact .inr e
    · obtain ⟨cl, h1, h2, h3⟩ := closure_of hf1 hf2 r cs fun y hy => h y (List.mem_cons_of_mem _ hy)
      refine ⟨cl, ?_, h2, fun x hx => h3 x ?_⟩
      · rw [List.forIn_cons, hf2 n k cs hk]
        exact h1
      · rcases hx with hx | hx
        · exact .inl hx
        · rcases List.mem_cons.mp hx with e | e
          · injection e with e1 e2
            exact absurd e2.symm hk
          · exact .inr e
theorem closureFor_of {env : Env} {scope : Scope} (h : ∀ y ∈ scope.names, y.2 = .free → ∃ c, env.cells.lookup y.1 = some c) :
    ∃ cl : List (Str × Addr), closureFor scope env = pure cl ∧ (∀ x c, cl.lookup x = some c → env.cells.lookup x = some c) ∧ (∀ x, (x, NameKind.free) ∈ scope.names → ∃ c, cl.lookup x = some c) := by
  simp only [closureFor]
  obtain ⟨cl, h1, h2, h3⟩ := closure_of (env := env) (f := fun (x : Str × NameKind) (r : List (Str × Addr)) => match x with
      | (name, kind) => if (kind == NameKind.free) = true then (do let a ← cellOf env name; pure (ForInStep.yield ((name, a) :: r))) else pure (ForInStep.yield r))
    (fun n c r e => by
      show (if (NameKind.free == NameKind.free) = true then (do let a ← cellOf env n; pure (ForInStep.yield ((n, a) :: r))) else pure (ForInStep.yield r) : Sem _) = _
      rw [if_pos (by decide), e]
      rfl)
    (fun n k r e => by
      show (if (k == NameKind.free) = true then (do let a ← cellOf env n; pure (ForInStep.yield ((n, a) :: r))) else pure (ForInStep.yield r) : Sem _) = _
      rw [if_neg (by simpa using e)]) scope.names [] h
  refine ⟨cl, ?_, fun x c e => (h2 x c e).elim id fun z => by simp at z, fun x hx => h3 x (.inr hx)⟩
  rw [h1]
  rfl
def Cx.comp (X : Cx) (scope : Scope) (N' : List Str) (cl : List (Str × Addr)) (C : Addr) (s₀ : Shared) (H₀ : Hp) (ex : List Addr) : Cx :=
  { prog := X.prog, w := X.w, K := X.K, mg := X.mg, base := X.base, A := X.A, N := N', s₀ := s₀, H₀ := H₀, env := compEnvC scope cl C X.env, outer := X.stack, stack := X.stack, ex := ex, fn := fun _ => false, calm := X.calm, pn := X.pn, xe := fun _ _ => False }
def iniC (ds : List Nat) (k : Nat) (σ : St) : St := ds.foldl (fun σ i => σ.set i none) σ ++ List.replicate k none
theorem forget_len (ds : List Nat) : ∀ σ : St, (ds.foldl (fun σ i => σ.set i none) σ).length = σ.length := by
  induction ds with
  | nil => intro σ; rfl
  | cons d r ih => intro σ; rw [List.foldl_cons, ih]; simp
theorem forget_get (ds : List Nat) : ∀ (σ : St) (i : Nat) (v : V), (ds.foldl (fun σ i => σ.set i none) σ)[i]? = some (some v) → σ[i]? = some (some v) ∧ i ∉ ds := by
  induction ds with
  | nil => intro σ i v h; exact ⟨h, by simp⟩
  | cons d r ih =>
    intro σ i v h
    rw [List.foldl_cons] at h
    obtain ⟨h1, h2⟩ := ih _ i v h
    by_cases e : d = i
    · subst e
      by_cases hl : d < σ.length
      · rw [List.getElem?_set_self hl] at h1
        cases h1
      · rw [List.getElem?_eq_none_iff.mpr (by rw [List.length_set]; omega)] at h1
        cases h1
    · rw [List.getElem?_set_ne e] at h1
      exact ⟨h1, fun z => (List.mem_cons.mp z).elim (fun q => e q.symm) h2⟩
theorem iniC_get {ds : List Nat} {k : Nat} {σ : St} {i : Nat} {v : V} (h : (iniC ds k σ)[i]? = some (some v)) : σ[i]? = some (some v) ∧ i ∉ ds ∧ i < σ.length := by
  unfold iniC at h
  by_cases hl : i < σ.length
  · rw [List.getElem?_append_left (by rw [forget_len]; exact hl)] at h
    obtain ⟨h1, h2⟩ := forget_get ds σ i v h
    exact ⟨h1, h2, hl⟩
  · rw [List.getElem?_append_right (by rw [forget_len]; omega)] at h
    have := List.getElem?_eq_some_iff.mp h
    obtain ⟨h1, h2⟩ := this
    rw [List.getElem_replicate] at h2
    cases h2
def PTs (X : Cx) (ifs : List Expr) (t : TT) : Prop :=
  ∀ (pins : List (Addr × Obj)) (s : Shared) (σ : St) (H : Hp) (Q : Bool → Hp → Prop), Inv X pins σ H s → t σ H Q →
    wpAny (model X.prog X.w) X.A (forIn ifs true fun c r => if r = true then do let ok ← isTrue c X.env (eval c X.env); pure (ForInStep.yield ok) else pure (ForInStep.yield r)) (TP X pins σ Q) X.xe s
def tYes : TT := fun _ H Q => Q true H
theorem pts_nil {X : Cx} : PTs X [] tYes := fun _ _ _ H _ I h => wpAny_tests_nil ⟨H, I, h⟩
theorem pts_one {X : Cx} {c : Expr} {t : TT} (h : PT X c t) : PTs X [c] t := fun pins s σ H Q I q => wpAny_tests_one (h pins s σ H Q I q)
def GK (g : TG) (js : List Nat) : Prop := ∀ x σ H Q, g x σ H Q → g x σ H fun σ' H' => Q σ' H' ∧ σ'.length = σ.length ∧ ∀ i, i ∉ js → σ'[i]? = σ[i]?
theorem gk_name (j : Nat) : GK (gName j) [j] := fun x σ H Q h => by
  refine ⟨h, by simp, fun i hi => ?_⟩
  rw [List.getElem?_set_ne (fun e => hi (by simp [e]))]
theorem gk_two (K : PySem.W.Frag) (i j : Nat) : GK (gTup K 2 (gCons (gName i) (gCons (gName j) gNil))) [i, j] := fun x σ H Q h => by
  obtain ⟨a, xs, e, hq, hl, v, r, e1, u, r2, e2, e3, q⟩ := h
  refine ⟨a, xs, e, hq, hl, v, r, e1, u, r2, e2, e3, q, by simp, fun n hn => ?_⟩
  have h1 : n ≠ i := fun z => hn (by simp [z])
  have h2 : n ≠ j := fun z => hn (by simp [z])
  rw [List.getElem?_set_ne (Ne.symm h2), List.getElem?_set_ne (Ne.symm h1)]
def tComp (wi : TI) (g : TG) (ds : List Nat) (k : Nat) (tc : TT) (te : TE) : TE := fun σ H Q => wi σ H fun J H1 => ∀ D, H1 D = none →
  ∃ W : Nat → Nat → List V → Hp → Prop, (∃ m, W 0 m [] (upd H1 D (.lst []))) ∧ ∀ i m acc H2, W i m acc H2 →
    (J.stop i H2 ∧ Q (.ref D) H2) ∨ (J.go i H2 ∧ ∀ x H3, J.yld i H2 x H3 → g x (iniC ds k σ) H3 fun σ4 H4 => tc σ4 H4 fun b H5 => if b = true then
      te σ4 H5 fun y H6 => H6 D = some (.lst acc) ∧ acc.length < sizeLine ∧ ∃ m', m' < m ∧ W (i + 1) m' (acc ++ [y]) (upd H6 D (.lst (acc ++ [y])))
      else ∃ m', m' < m ∧ W (i + 1) m' acc H5)
section
variable {X : Cx}
theorem comp_inv {scope : Scope} {N' : List Str} {cl : List (Str × Addr)} {ds : List Nat} {k : Nat} {pins : List (Addr × Obj)} {σ : St} {H : Hp} {s : Shared} {fp : List Addr} {h₁ : Heap} {tk : Nat} {m : Str → Option Value} {C : Addr} {news : List Str}
    (I : Inv X pins σ H s) (f : ∀ b ∈ fp, FpOk X pins H b) (fo : ∀ b ∈ fp, ∃ o, s.heap.get? b = some o)
    (hkind : scope.kind = .function) (hcell : ∀ y ∈ scope.names, y.2 ≠ .cell)
    (hfree : ∀ y ∈ scope.names, y.2 = .free → X.env.scope.names.lookup y.1 = some .cell ∨ X.env.scope.names.lookup y.1 = some .free)
    (hcl : ∀ x c, cl.lookup x = some c → X.env.cells.lookup x = some c) (hcl2 : ∀ x, (x, NameKind.free) ∈ scope.names → ∃ c, cl.lookup x = some c)
    (hN : N' = X.N ++ news) (hk : news.length = k) (hloc : ∀ i x, X.N[i]? = some x → scope.names.lookup x = some .local → i ∈ ds)
    (hC : s.heap.objs.size < C) (keep : ∀ b o, s.heap.get? b = some o → h₁.get? b = some o) (hns : h₁.Ns C m)
    (hD : h₁.get? s.heap.objs.size = some { cls := .type "list", data := .seq ([] : List Value).toArray 0 }) :
    Inv (X.comp scope N' cl C s H fp) pins (iniC ds k σ) (upd H s.heap.objs.size (.lst [])) { s with heap := h₁, toks := tk } := by
  have fresh : H s.heap.objs.size = none := I.hok.fresh (Nat.le_refl _)
  have hok1 : HOk X.prog X.w (upd H s.heap.objs.size (.lst [])) h₁ := I.hok.laid keep (Nat.le_refl _) ⟨Nat.zero_le _, [], 0, .nil, hD⟩
  have lowfp : ∀ b ∈ fp, b < s.heap.objs.size := fun b hb => let ⟨_, e⟩ := fo b hb; Heap.lt_size e
  have stkne : ∀ b, b ∈ frs X.stack → ∀ p ∈ X.pn ++ pins, p.1 ≠ b := fun b hb p hp e => by
    obtain ⟨_, _, n1, n2, _⟩ := I.pin p hp
    rcases List.mem_cons.mp (I.stkSub b hb) with z | z
    · exact n1 (e.trans z)
    · exact n2 (e ▸ z)
  have celllt : ∀ x c, cl.lookup x = some c → c < s.heap.objs.size := fun x c e => by
    obtain ⟨v, z⟩ := I.cell x c (hcl x c e)
    exact z.lt
  have kind_of : ∀ x, (relabel scope X.env).names.lookup x = some .cell ∨ (relabel scope X.env).names.lookup x = some .free → scope.names.lookup x = some .free := fun x h => by
    rw [relabel_lookup] at h
    cases e : scope.names.lookup x with
    | none => rw [e] at h; simp at h
    | some q =>
      rw [e] at h
      have hm := mem_of_lookup e
      have nc : q ≠ .cell := hcell _ hm
      simp only [Option.map_some, Option.some.injEq] at h
      unfold reKind at h
      split at h
      · rename_i hc
        have : (q == NameKind.free) = true := by
          cases hq : q == NameKind.free with
          | true => rfl
          | false => rw [hq] at hc; simp at hc
        have : q = .free := by simpa using this
        rw [this]
      · rcases h with h | h
        · exact absurd h nc
        · rw [h]
  refine ⟨⟨I.ok.mod, ?_, I.ok.glob, I.ok.blt, Nat.le_of_lt hC, ?_, ?_, ?_, I.ok.hd, I.ok.frames, .inl rfl, ?_, I.bs, Nat.le_trans I.ok.bsz I.sz, ?_, ?_, I.stack, I.stkFree⟩, rfl, I.bare, Un.laid keep (Nat.le_refl _) fresh, ⟨m, hns, ?_⟩, ?_, ?_, ?_, ?_, hok1, ?_⟩
  · exact hkind
  · intro x y c hx hy
    exact I.ok.inj x y c (hcl x c hx) (hcl y c hy)
  · intro x hx
    exact hcl2 x (mem_of_lookup (kind_of x hx))
  · intro x c hf
    exact absurd hf (by simp [Cx.comp])
  · intro b hb
    refine ⟨Nat.ne_of_lt (Nat.lt_trans (lowfp b hb) hC), fun x c e z => ?_⟩
    exact (f b hb).2.2.2.2.1 x c (hcl x c e) z
  · intro b o e hb
    rcases (f b hb).2.2.2.1 with z | z
    · exact I.ok.noex b o e z
    · exact absurd (Nat.lt_of_lt_of_le (Heap.lt_size e) (Nat.le_trans I.ok.bsz z)) (Nat.lt_irrefl _)
  · intro b hb hs
    rcases List.mem_cons.mp (I.stkSub b hs) with z | z
    · exact (f b hb).2.1 z
    · exact (f b hb).2.2.1 z
  · intro i x v e1 e2 vis
    obtain ⟨g1, g2, g3⟩ := iniC_get e2
    have e1' : X.N[i]? = some x := by
      have e1 : N'[i]? = some x := e1
      rw [hN, List.getElem?_append_left (by rw [← I.len]; exact g3)] at e1
      exact e1
    have hv : scope.names.lookup x = some .free := by
      rcases vis with z | z | z
      · exfalso
        have z : (relabel scope X.env).names.lookup x = some .local := z
        rw [relabel_lookup] at z
        cases e : scope.names.lookup x with
        | none => rw [e] at z; simp at z
        | some q =>
          rw [e] at z
          simp only [Option.map_some, Option.some.injEq] at z
          unfold reKind at z
          split at z
          · cases z
          · subst z
            exact g2 (hloc i x e1' e)
      · exact kind_of x (.inl z)
      · exact kind_of x (.inr z)
    have hm := mem_of_lookup hv
    have hX := hfree _ hm rfl
    obtain ⟨mX, _, hl⟩ := I.loc
    have visX : Vis X.env.scope x := by
      rcases hX with z | z
      · exact .inr (.inl z)
      · exact .inr (.inr z)
    obtain ⟨u, r, l⟩ := hl i x v e1' g1 visX
    refine ⟨u, r, .inr ⟨?_, ?_⟩⟩
    · show (relabel scope X.env).names.lookup x = some .cell ∨ (relabel scope X.env).names.lookup x = some .free
      rw [relabel_lookup, hv]
      show some (reKind X.env x .free) = some .cell ∨ some (reKind X.env x .free) = some .free
      unfold reKind
      split
      · exact .inl rfl
      · exact .inr rfl
    · obtain ⟨c, hc⟩ := hcl2 x hm
      have hc' := hcl x c hc
      refine ⟨c, hc, ?_⟩
      rcases l with ⟨kl, _⟩ | ⟨_, c', hc2, o, ho, hd⟩
      · exfalso
        have kl : X.env.scope.names.lookup x = some .local := kl
        rcases hX with z | z
        · rw [kl] at z; cases z
        · rw [kl] at z; cases z
      · rw [hc'] at hc2
        cases hc2
        exact ⟨o, keep c o ho, hd⟩
  · intro x c e
    obtain ⟨v, o, ho, hd⟩ := I.cell x c (hcl x c e)
    exact ⟨v, o, keep c o ho, hd⟩
  · show upd H s.heap.objs.size (.lst []) C = none
    rw [upd_ne (Nat.ne_of_gt hC)]
    exact I.hok.fresh (Nat.le_of_lt hC)
  · intro x c e
    rw [upd_ne (Nat.ne_of_lt (celllt x c e))]
    exact I.freeC x c (hcl x c e)
  · intro p hp
    obtain ⟨e, n, n1, n2, d⟩ := I.pin p hp
    have lt := Heap.lt_size e
    refine ⟨keep _ _ e, ?_, Nat.ne_of_lt (Nat.lt_trans lt hC), fun z => stkne p.1 z p hp rfl, d⟩
    rw [upd_ne (Nat.ne_of_lt lt)]
    exact n
  · show (iniC ds k σ).length = N'.length
    unfold iniC
    rw [List.length_append, forget_len, I.len, hN, List.length_append, List.length_replicate, hk]
theorem comp_out {scope : Scope} {N' : List Str} {cl : List (Str × Addr)} {pins : List (Addr × Obj)} {σ σ' : St} {H H' : Hp} {s s' : Shared} {fp : List Addr} {h' : Heap} {C : Addr}
    (I : Inv X pins σ H s) (f : ∀ b ∈ fp, FpOk X pins H b) (I' : Inv (X.comp scope N' cl C s H fp) pins σ' H' s') (hC : s.heap.objs.size < C) (sb : Heap.SameBut C s'.heap h') : Inv X pins σ H' { s' with heap := h' } := by
  have u := I'.base
  have hfree : H' C = none := I'.free
  have ne : ∀ b o, s.heap.get? b = some o → b ≠ C := fun b o e => Nat.ne_of_lt (Nat.lt_trans (Heap.lt_size e) hC)
  have u' : Un (frs X.stack) fp H H' s.heap h' := by
    refine ⟨fun b o e n h1 h2 => ?_, fun b o e n h1 h2 => ?_, u.free, fun b o e h2 => ?_, u.tups, u.frzs, u.tbls⟩
    · exact (sb.2 b (ne b o e)).trans (u.keep b o e n h1 h2)
    · obtain ⟨sl, q⟩ := u.slot b o e n h1 h2
      exact ⟨sl, (sb.2 b (ne b o e)).trans q⟩
    · obtain ⟨o', q⟩ := u.there b o e h2
      exact ⟨o', (sb.2 b (ne b o e)).trans q⟩
  have hok' : HOk X.prog X.w H' h' := fun b ob e => by
    refine (I'.hok b ob e).stay (fun c w' hc q => (sb.2 c ?_).trans q) (fun _ q => q) fun _ _ q => q
    rintro rfl
    rcases hc with rfl | hc
    · rw [hfree] at e; cases e
    · rw [hfree] at hc; cases hc
  exact I.call' (s' := { s' with heap := h' }) I'.os u' hok' I'.bare fun b hb => ⟨(f b hb).2.2.2.1, (f b hb).2.1, (f b hb).2.2.2.2.1, (f b hb).2.2.2.2.2⟩
theorem Inv.block_gone {pins : List (Addr × Obj)} {σ : St} {H : Hp} {s : Shared} {C : Addr} {h' : Heap} (I : Inv X pins σ H s) (hn : H C = none) (hL : C ≠ X.env.locals) (h1 : X.s₀.heap.objs.size ≤ C)
    (h2 : ∀ x c, X.env.cells.lookup x = some c → c ≠ C) (h3 : ∀ p ∈ X.pn ++ pins, p.1 ≠ C) (sb : Heap.SameBut C s.heap h') : Inv X pins σ H { s with heap := h' } :=
  I.turned (t' := s.toks) (fun b o hb e => (sb.2 b hb).trans e) hn hL (.inr h1) h2 h3
theorem comp_core (N' : List Str) (ds : List Nat) (k : Nat) {news : List Str} {js : List Nat} {elt tg iter : Expr} {ifs : List Expr} {scope : Scope} {pos : Pos} {wi : TI} {g : TG} {tc : TT} {te : TE}
    {pins : List (Addr × Obj)} {s : Shared} {σ : St} {H : Hp} {Q : VK} {use : Option (Value → Sem Unit)} {QV : Value → Shared → Prop}
    (hc : X.calm = true) (hi : PI X tg iter wi)
    (hb : ∀ cl C s₀ H₀ ex, PG (X.comp scope N' cl C s₀ H₀ ex) tg g ∧ PTs (X.comp scope N' cl C s₀ H₀ ex) ifs tc ∧ PE (X.comp scope N' cl C s₀ H₀ ex) elt te)
    (hg : GK g js) (hj : ∀ σ : St, σ.length = X.N.length → ∀ j ∈ js, ∀ v, (iniC ds k σ)[j]? ≠ some (some v))
    (hkind : scope.kind = .function) (hcell : ∀ y ∈ scope.names, y.2 ≠ .cell)
    (hnames : ∀ y ∈ scope.names, y.2 = .local → scope.names.lookup y.1 = some .local)
    (hfree : ∀ y ∈ scope.names, y.2 = .free → X.env.scope.names.lookup y.1 = some .cell ∨ X.env.scope.names.lookup y.1 = some .free)
    (hN : N' = X.N ++ news) (hk : news.length = k) (hloc : ∀ i x, X.N[i]? = some x → scope.names.lookup x = some .local → i ∈ ds)
    (hs : ∀ x, foldedSetIterable iter X.env x = pure x) (I : Inv X pins σ H s) (h : tComp wi g ds k tc te σ H Q)
    (fin : ∀ (D C : Addr) (H' : Hp) (s' : Shared) (m : Str → Option Value), Inv X pins σ H' s' → Q (.ref D) H' → s'.heap.Ns C m → H' C = none → C ≠ X.env.locals → X.s₀.heap.objs.size ≤ C → (∀ x c, X.env.cells.lookup x = some c → c ≠ C) → (∀ p ∈ X.pn ++ pins, p.1 ≠ C) →
      compPost (model X.prog X.w) X.A X.xe use QV (.ref D) C (.ok .next) s') :
    wpAny (model X.prog X.w) X.A (comprehension (.ListComp elt [⟨tg, iter, ifs, 0⟩] scope pos) scope X.env (firstIterPos [⟨tg, iter, ifs, 0⟩] pos) (newList []) (firstAsync [⟨tg, iter, ifs, 0⟩]) (firstIter [⟨tg, iter, ifs, 0⟩] X.env) use) QV X.xe s := by
  have hcells : ∀ y ∈ scope.names, y.2 = .free → ∃ c, X.env.cells.lookup y.1 = some c := fun y hy e => I.ok.has y.1 (hfree y hy e)
  obtain ⟨cl, hclos, hcl, hcl2⟩ := closureFor_of hcells
  refine wpAny_comprehension_free (use := use) rfl hs hclos hkind hnames (thn (hi pins s σ H _ I h) fun v s1 h1 => thn h1 fun itv s2 h2 => ?_)
  obtain ⟨it, fp, tn, J, H2, e, I2, T, st2, f2, q⟩ := h2
  subst e
  have I20 := I2
  obtain ⟨W, ⟨m0, w0⟩, turn⟩ := q s2.heap.objs.size (I2.hok.fresh (Nat.le_refl _))
  refine wpAny_newObj_type (wpAny_newFunctionEnv hcell (by intro y hy; simp at hy) (fun h₁ hns₁ hsb₁ => ?_) hkind)
  dsimp only at hns₁ hsb₁ ⊢
  generalize hH2 : s2.heap.push { cls := .type "list", dict := none, data := .seq ([] : List Value).toArray } = G2 at hns₁ hsb₁ ⊢
  have hC : s2.heap.objs.size < G2.objs.size := by rw [← hH2, Heap.size_push]; exact Nat.lt_succ_self _
  have keep : ∀ b o, s2.heap.get? b = some o → h₁.get? b = some o := fun b o e =>
    hsb₁.extBut b o (Nat.ne_of_lt (Nat.lt_trans (Heap.lt_size e) hC)) (Heap.get?_push_of_some _ (hH2 ▸ Heap.get?_push_of_some _ e))
  have hD : h₁.get? s2.heap.objs.size = some { cls := .type "list", data := .seq ([] : List Value).toArray 0 } := hsb₁.extBut _ _ (Nat.ne_of_lt hC) (Heap.get?_push_of_some _ (hH2 ▸ Heap.get?_push_size _ rfl))
  have fo : ∀ b ∈ fp, ∃ o, s2.heap.get? b = some o := fun b hb => let ⟨o, e, _⟩ := T.obj _ _ st2 b hb; ⟨o, e⟩
  obtain ⟨hPG, hPT, hPE⟩ := hb cl G2.objs.size s2 H2 fp
  generalize hX' : X.comp scope N' cl G2.objs.size s2 H2 fp = X' at hPG hPT hPE
  have xp : X'.prog = X.prog := by rw [← hX']; rfl
  have xw : X'.w = X.w := by rw [← hX']; rfl
  have xK : X'.K = X.K := by rw [← hX']; rfl
  have xA : X'.A = X.A := by rw [← hX']; rfl
  have xe : X'.xe = fun _ _ => False := by rw [← hX']; rfl
  have xenv : X'.env = compEnvC scope cl G2.objs.size X.env := by rw [← hX']; rfl
  have hc' : X'.calm = true := by rw [← hX']; exact hc
  have start : Inv X' pins (iniC ds k σ) (upd H2 s2.heap.objs.size (.lst [])) { s2 with heap := h₁, toks := s2.toks + ([] : List (Str × Value)).length } := by
    rw [← hX']
    exact comp_inv I2 f2 fo hkind hcell hfree hcl hcl2 hN hk hloc hC keep hns₁ hD
  have st1 : tn 0 h₁ := T.keep _ _ _ st2 fun b _ o e => keep b o e
  have fpn : ∀ b ∈ fp, upd H2 s2.heap.objs.size (.lst []) b = none := fun b hb => by
    obtain ⟨o, e⟩ := fo b hb
    rw [upd_ne (Nat.ne_of_lt (Heap.lt_size e))]
    exact (f2 b hb).1
  have stat : ∀ {H' : Hp}, (∀ b ∈ fp, H' b = none) → ∀ b ∈ fp, FpOk X' pins H' b := fun hn b hb => by
    obtain ⟨f0, f1, f3, f4, f5, f6⟩ := f2 b hb
    obtain ⟨o, e⟩ := fo b hb
    refine ⟨hn b hb, ?_, ?_, ?_, ?_, ?_⟩
    · rw [xenv]; exact Nat.ne_of_lt (Nat.lt_trans (Heap.lt_size e) hC)
    · intro z
      have z : b ∈ frs X.stack := by rw [← hX'] at z; exact z
      rcases List.mem_cons.mp (I2.stkSub b z) with y | y
      · exact f1 y
      · exact f3 y
    · rw [← hX']; exact .inl hb
    · intro x c ec
      rw [xenv] at ec
      exact f5 x c (hcl x c ec)
    · intro p hp
      rw [← hX'] at hp
      exact f6 p hp
  have loop : codeAny (model X.prog X.w) X.A (.compLoop (.ListComp elt [⟨tg, iter, ifs, 0⟩] scope pos) 0 (.ref it) (.ref s2.heap.objs.size) (compEnvC scope cl G2.objs.size X.env))
      (compPost (model X.prog X.w) X.A X.xe use QV (.ref s2.heap.objs.size) G2.objs.size) { s2 with heap := h₁, toks := s2.toks + ([] : List (Str × Value)).length } := by
    refine compLoop_tg (fun n s' => ∃ i acc H', Inv X' pins (iniC ds k σ) H' s' ∧ tn i s'.heap ∧ (∀ b ∈ fp, H' b = none) ∧ W i n acc H') ?_ m0 ⟨0, [], _, start, st1, fpn, w0⟩
    rintro n s3 ⟨i, acc, H3, I3, st3, fr3, w3⟩
    rcases turn i n acc H3 w3 with ⟨stop, qn⟩ | ⟨go, step⟩
    · have td := T.done X' xp xw xK hc' i pins s3 _ H3 (fun _ _ => False) I3 (stat fr3) st3 stop
      rw [xA] at td
      refine thn td fun r s4 ⟨hr, I4⟩ => ?_
      subst hr
      have I4' := I4
      rw [← hX'] at I4'
      obtain ⟨m', hn', _⟩ := I4'.loc
      refine fin s2.heap.objs.size G2.objs.size H3 s4 m' (comp_out (h' := s4.heap) I2 f2 I4' hC (.refl ..)) qn hn' I4'.free (Nat.ne_of_gt (Nat.lt_trans I2.lt hC)) (Nat.le_of_lt (Nat.lt_of_le_of_lt I2.sz hC)) (fun x c e z => ?_) fun p hp z => ?_
      · obtain ⟨v, q⟩ := I2.cell x c e
        exact absurd (Nat.lt_trans q.lt hC) (by rw [z]; exact Nat.lt_irrefl _)
      · exact absurd (Nat.lt_trans (Heap.lt_size (I2.pin p hp).1) hC) (by rw [z]; exact Nat.lt_irrefl _)
    · have ti := T.item X' xp xw xK hc' i pins s3 _ H3 (fun _ _ => False) I3 (stat fr3) st3 go
      rw [xA] at ti
      refine thn ti fun r s4 ⟨u, hr, h4⟩ => ?_
      subst hr
      refine thn h4 fun _ s5 ⟨x, H5, I5, r5, y5, st5, fr5⟩ => ?_
      have I5' := I5.pinned (stat fr5) (T.obj _ _ st5)
      have pg := hPG _ s5 _ H5 x u _ I5' r5 (hg x _ H5 _ (step x H5 y5))
      rw [xp, xw, xA, xenv, xe] at pg
      refine thn pg fun _ s6 ⟨σ6, H6, I6, ⟨q6, len6, keep6⟩⟩ => ?_
      have again : ∀ {H7 : Hp} {s7 : Shared}, Inv X' (pins ++ pinsAt fp s5.heap) σ6 H7 s7 → Inv X' pins (iniC ds k σ) H7 s7 ∧ tn (i + 1) s7.heap ∧ ∀ b ∈ fp, H7 b = none := fun {H7 s7} I7 => by
        refine ⟨I7.unpinned.weak len6.symm fun j v e => ?_, T.keep _ _ _ st5 fun b hb o e => (I7.pin (b, o) (List.mem_append_right _ (List.mem_append_right _ (mem_pinsAt hb e)))).1, fun b hb => ?_⟩
        · rw [keep6 j fun z => hj σ I.len j z v e]
          exact e
        · obtain ⟨o, e, d⟩ := T.obj _ _ st5 b hb
          exact (I7.pin (b, o) (List.mem_append_right _ (List.mem_append_right _ (mem_pinsAt hb e)))).2.1
      have pt := hPT _ s6 σ6 H6 _ I6 q6
      rw [xp, xw, xA, xenv, xe] at pt
      refine thn pt fun ok s7 ⟨H7, I7, q7⟩ => ?_
      cases ok with
      | false =>
        obtain ⟨m', hm, w7⟩ := q7
        obtain ⟨a1, a2, a3⟩ := again I7
        exact ⟨m', hm, i + 1, acc, H7, a1, a2, a3, w7⟩
      | true =>
        have pe := hPE _ s7 σ6 H7 _ I7 q7
        rw [xp, xw, xA, xenv, xe] at pe
        refine thn pe fun yv s8 ⟨y, H8, I8, r8, hD8, hlen, m', hm, w8⟩ => ?_
        have ap := mt_append (X := X') _ s8 σ6 H8 (.ref s2.heap.objs.size) [y] _ [yv] (fun v H9 => H9 = upd H8 s2.heap.objs.size (.lst (acc ++ [y]))) I8 rfl (.cons r8 .nil) ⟨_, acc, y, rfl, rfl, hD8, hlen, rfl⟩
        rw [xp, xw, xA, xe] at ap
        refine thn ap fun _ s9 ⟨_, H9, I9, _, e9⟩ => ?_
        subst e9
        obtain ⟨a1, a2, a3⟩ := again I9
        exact ⟨m', hm, i + 1, acc ++ [y], _, a1, a2, a3, w8⟩
  exact codeAny_compStart_list loop (T.self _ 0 _ _ _ st1 loop)
theorem pe_comp (N' : List Str) (ds : List Nat) (k : Nat) {news : List Str} {js : List Nat} {elt tg iter : Expr} {ifs : List Expr} {scope : Scope} {pos : Pos} {wi : TI} {g : TG} {tc : TT} {te : TE}
    (hc : X.calm = true) (hi : PI X tg iter wi)
    (hb : ∀ cl C s₀ H₀ ex, PG (X.comp scope N' cl C s₀ H₀ ex) tg g ∧ PTs (X.comp scope N' cl C s₀ H₀ ex) ifs tc ∧ PE (X.comp scope N' cl C s₀ H₀ ex) elt te)
    (hg : GK g js) (hj : ∀ σ : St, σ.length = X.N.length → ∀ j ∈ js, ∀ v, (iniC ds k σ)[j]? ≠ some (some v))
    (hkind : scope.kind = .function) (hcell : ∀ y ∈ scope.names, y.2 ≠ .cell)
    (hnames : ∀ y ∈ scope.names, y.2 = .local → scope.names.lookup y.1 = some .local)
    (hfree : ∀ y ∈ scope.names, y.2 = .free → X.env.scope.names.lookup y.1 = some .cell ∨ X.env.scope.names.lookup y.1 = some .free)
    (hN : N' = X.N ++ news) (hk : news.length = k) (hloc : ∀ i x, X.N[i]? = some x → scope.names.lookup x = some .local → i ∈ ds)
    (hs : ∀ x, foldedSetIterable iter X.env x = pure x := by intro _; rfl) :
    PE X (.ListComp elt [⟨tg, iter, ifs, 0⟩] scope pos) (tComp wi g ds k tc te) := by
  intro pins s σ H Q I h
  rw [eval_ListComp]
  refine comp_core N' ds k hc hi hb hg hj hkind hcell hnames hfree hN hk hloc hs I h fun D C H' s' m I' q hn n1 n2 n3 n4 n5 => ?_
  exact ⟨m, hn, fun h' sb => ⟨.ref D, H', I'.block_gone n1 n2 n3 n4 n5 sb, rfl, q⟩⟩
def compOk (N0 : List Str) (ds : List Nat) (sc0 scope : Scope) : Bool :=
  scope.kind == .function && scope.names.all (fun y => !(y.2 == .cell) && (!(y.2 == .local) || scope.names.lookup y.1 == some .local) && (!(y.2 == .free) || (sc0.names.lookup y.1 == some .cell || sc0.names.lookup y.1 == some .free))) &&
    N0.zipIdx.all fun p => !(scope.names.lookup p.1 == some .local) || ds.contains p.2
theorem comp_conds {N0 : List Str} {ds js : List Nat} {sc0 scope : Scope} {k : Nat} (ok : compOk N0 ds sc0 scope = true) (hj : (js.all fun j => ds.contains j || decide (N0.length ≤ j)) = true) :
    (∀ σ : St, σ.length = N0.length → ∀ j ∈ js, ∀ v, (iniC ds k σ)[j]? ≠ some (some v)) ∧ scope.kind = .function ∧ (∀ y ∈ scope.names, y.2 ≠ .cell) ∧ (∀ y ∈ scope.names, y.2 = .local → scope.names.lookup y.1 = some .local) ∧
    (∀ y ∈ scope.names, y.2 = .free → sc0.names.lookup y.1 = some .cell ∨ sc0.names.lookup y.1 = some .free) ∧ (∀ i x, N0[i]? = some x → scope.names.lookup x = some .local → i ∈ ds) := by
  unfold compOk at ok
  rw [Bool.and_eq_true, Bool.and_eq_true] at ok
  obtain ⟨⟨h1, h2⟩, h3⟩ := ok
  have h2 := List.all_eq_true.mp h2
  have h3 := List.all_eq_true.mp h3
  have hj := List.all_eq_true.mp hj
  refine ⟨?_, (by simpa using h1), ?_, ?_, ?_, ?_⟩
  · intro σ hl j hm v e
    obtain ⟨_, q2, q3⟩ := iniC_get e
    have := hj j hm
    rw [Bool.or_eq_true] at this
    rcases this with z | z
    · exact q2 (by simpa using z)
    · have := of_decide_eq_true z
      omega
  · intro y hy e
    have := h2 y hy
    rw [Bool.and_eq_true, Bool.and_eq_true] at this
    have z := this.1.1
    rw [e] at z
    exact absurd z (by decide)
  · intro y hy e
    have := h2 y hy
    rw [Bool.and_eq_true, Bool.and_eq_true] at this
    have z := this.1.2
    rw [e] at z
    simpa using z
  · intro y hy e
    have := h2 y hy
    rw [Bool.and_eq_true, Bool.and_eq_true] at this
    have z := this.2
    rw [e] at z
    simpa using z
  · intro i x e1 e2
    have := h3 (x, i) (by rw [List.mem_zipIdx_iff_getElem?]; exact e1)
    rw [Bool.or_eq_true] at this
    rcases this with z | z
    · rw [e2] at z
      exact absurd z (by decide)
    · simpa using z
theorem comp_of (N0 news : List Str) (ds js : List Nat) (sc0 : Scope) {elt tg iter : Expr} {ifs : List Expr} {scope : Scope} {pos : Pos} {wi : TI} {g : TG} {tc : TT} {te : TE}
    (hc : X.calm = true) (hN0 : X.N = N0) (hsc : X.env.scope = sc0) (ok : compOk N0 ds sc0 scope = true) (hj : (js.all fun j => ds.contains j || decide (N0.length ≤ j)) = true) (hg : GK g js)
    (hi : PI X tg iter wi)
    (hb : ∀ cl C s₀ H₀ ex, PG (X.comp scope (N0 ++ news) cl C s₀ H₀ ex) tg g ∧ PTs (X.comp scope (N0 ++ news) cl C s₀ H₀ ex) ifs tc ∧ PE (X.comp scope (N0 ++ news) cl C s₀ H₀ ex) elt te)
    (hs : ∀ x, foldedSetIterable iter X.env x = pure x := by intro _; rfl) :
    PE X (.ListComp elt [⟨tg, iter, ifs, 0⟩] scope pos) (tComp wi g ds news.length tc te) := by
  subst hN0
  subst hsc
  obtain ⟨h1, h2, h3, h4, h5, h6⟩ := comp_conds ok hj
  exact pe_comp (X.N ++ news) ds news.length hc hi hb hg h1 h2 h3 h4 h5 rfl rfl h6 hs
end
end L2
namespace L2
open PySem PySem.Spec PyProof.Rows
section
variable {X : Cx}
theorem call_isi : CallR X (.builtin "isinstance") (fun xs H Q => ∃ x T t b, xs = [x, .ty T] ∧ TyOf X.K H x t ∧ PySem.W.kitOne X.K t (.type T) = some b ∧ Q (.bl b) H) := by
  intro pins s σ H xs us Q I r h
  obtain ⟨x, T, t, b, rfl, ty, e, q⟩ := h
  obtain ⟨u, w', rfl, rx, rt⟩ := vals2 r
  obtain rfl : w' = Value.type T := rt
  exact isinst_ok I rx ty e fun tk => ⟨.bl b, H, I.tok tk, rfl, q⟩
theorem bools_get {bs : List Bool} {its : List Value} (r : Vals (bs.map V.bl) its) {i : Nat} {v : Value} (h : its[i]? = some v) : ∃ b, bs[i]? = some b ∧ v = .bool b := by
  have hl := r.length
  rw [List.length_map] at hl
  have hi : i < its.length := (List.getElem?_eq_some_iff.mp h).1
  have hb : bs[i]? = some bs[i] := by simp
  obtain ⟨u, h1, h2⟩ := r.get (i := i) (x := .bl bs[i]) (by rw [List.getElem?_map, hb]; rfl)
  rw [h] at h1
  cases h1
  exact ⟨bs[i], hb, h2⟩
theorem range_all {bs : List Bool} : ((List.range bs.length).all fun i => bs.getD i true) = bs.all id := by
  induction bs with
  | nil => rfl
  | cons b r ih =>
    rw [List.length_cons, List.range_succ_eq_map, List.all_cons, List.all_map, List.all_cons]
    congr 1
theorem in1_hd {A : Around} (h : A.handled = none) : A.in1.handled = none := h
theorem call_allB (hc : X.calm = true) : CallR X (.builtin "all") (fun xs H Q => ∃ (p : Addr) (bs : List Bool), xs = [.ref p] ∧ SqL X.K H p (bs.map V.bl) ∧ Q (.bl (bs.all id)) H) := by
  intro pins s σ H xs us Q I r h
  obtain ⟨p, bs, rfl, hq, q⟩ := h
  obtain ⟨u, rfl, r1⟩ := vals1 r
  cases r1
  obtain ⟨its, rv, pl, hz⟩ := I.list hq
  refine call_all_walk (wpAny_pyIter_list pl.isList ?_)
  have hne : p ≠ s.heap.objs.size := Nat.ne_of_lt (by obtain ⟨o, n, e, _⟩ := pl; exact Heap.lt_size e)
  have hl := rv.length
  rw [List.length_map] at hl
  refine ⟨s.heap.objs.size, _, _, _, _, _, fun i => bs.getD i true, rfl, Walks.list (in1_hd (I.ok.hd hc)) s.heap.objs.size p hne its.toArray, ⟨⟨_, Heap.get?_push_size _ rfl, rfl, rfl⟩, ?_⟩, ?_, ?_⟩
  · exact pl.isList.push _
  · intro i v s' Q' E' hP hQ
    have hP : its.toArray[i]? = some v := hP
    obtain ⟨b, hb, rfl⟩ := bools_get rv (i := i) (v := v) (by simpa using hP)
    refine wpAny_truthy_bool ?_
    have e : bs.getD i true = b := by simp [List.getD, hb]
    have hQ : Q' (bs.getD i true) s' := hQ
    rw [e] at hQ
    exact hQ
  · intro h' tk kk
    have e : ((List.range its.toArray.size).all fun i => bs.getD i true) = bs.all id := by
      rw [List.size_toArray, ← hl, range_all]
    rw [e]
    exact ⟨.bl _, H, I.kept (h' := h') (t' := tk) fun b o e => kk b o (by simp [Nat.ne_of_lt (Heap.lt_size e)]) (Heap.get?_push_of_some _ e), rfl, q⟩
def Its (x : Str) : It := ⟨fun i _ => i < x.cps.size, fun i H y H' => H' = H ∧ ∃ c, x.cps[i]? = some c ∧ y = .str ⟨#[c]⟩, fun i _ => x.cps.size ≤ i⟩
theorem turn_str {P : Program} {w : World} {K : PySem.W.Frag} {tg : Expr} (it : Addr) (x : Str) (t : Tok) (cls : String) (hn : ["enumerate", "zip", "dict_itemiterator", "dict_reverseitemiterator", "odict_iterator", "itertools.zip_longest", "itertools.pairwise"].contains cls = false)
    (W : ∀ A : Around, A.handled = none → Walks P w A it [it] [it] x.cps.size (SignAt x) (fun i h => h.IsStrIter it cls x t i))
    (S : ∀ (A : Around) (i : Nat) (s : Shared) (Q : Value → Shared → Prop) (E : Value → Shared → Prop), s.heap.IsStrIter it cls x t i → Q (.ref it) s → wpAny (model P w) A (pyIter (.ref it)) Q E s) : Turn P w K tg (Its x) [it] it (fun i h => i ≤ x.cps.size ∧ h.IsStrIter it cls x t i) where
  mem := by simp
  obj := fun i h st b hb => by
    have e : b = it := by simpa using hb
    subst e
    obtain ⟨_, o, e, c, d⟩ := st
    exact ⟨o, e, fun v z => by rw [d] at z; cases z⟩
  keep := fun i h h' st k => by
    obtain ⟨l, o, e, r⟩ := st
    exact ⟨l, o, k it (by simp) o e, r⟩
  item := by
    intro X hP hw hK hc i pins s σ H E I hf st hg
    subst hP hw hK
    obtain ⟨f0, f1, f2, f3, f4, f5⟩ := hf it (by simp)
    refine (W X.A (I.ok.hd hc)).item i s _ _ hg st.2 fun v h' tk hv st' kk => ?_
    obtain ⟨c, u, hcx, rfl⟩ := hv
    have I1 : Inv X pins σ H { s with heap := h', toks := tk } := I.turned (fun b o hb e => kk b o (by simpa using hb) e) f0 f1 f3 f4 f5
    obtain ⟨o, e, c1, d⟩ := id st'
    have hlt : i < x.cps.size := hg
    exact ⟨_, rfl, go_of (s := { s with heap := h', toks := tk }) e c1 d hn ⟨.str ⟨#[c]⟩, H, I1, ⟨u, rfl⟩, ⟨rfl, c, hcx, rfl⟩, ⟨by omega, st'⟩, fun b hb => (hf b hb).1⟩⟩
  done := by
    intro X hP hw hK hc i pins s σ H E I hf st hg
    subst hP hw hK
    obtain ⟨f0, f1, f2, f3, f4, f5⟩ := hf it (by simp)
    have e : i = x.cps.size := Nat.le_antisymm st.1 hg
    subst e
    exact (W X.A (I.ok.hd hc)).done s _ _ st.2 fun h' tk kk => ⟨rfl, I.turned (fun b o hb e => kk b o (by simpa using hb) e) f0 f1 f3 f4 f5⟩
  self := fun A i s Q E st h => S A i s Q E st.2 h
def iStr (tl : TE) : TI := fun σ H R => tl σ H fun v H1 => ∃ x, v = .str x ∧ R (Its x) H1
theorem pi_str {tg l : Expr} {tl : TE} (hl : PE X l tl) : PI X tg l (iStr tl) := by
  intro pins s σ H R I h
  refine thn (hl pins s σ H _ I h) fun v s1 ⟨y, H1, I1, r1, q1⟩ => ?_
  obtain ⟨x, e, q⟩ := q1
  subst e
  obtain ⟨t, rfl⟩ := r1
  have fin : ∀ (cls : String) (ob : Obj), (["enumerate", "zip", "dict_itemiterator", "dict_reverseitemiterator", "odict_iterator", "itertools.zip_longest", "itertools.pairwise"].contains cls = false) →
      (∀ A : Around, A.handled = none → Walks X.prog X.w A s1.heap.objs.size [s1.heap.objs.size] [s1.heap.objs.size] x.cps.size (SignAt x) (fun i h => h.IsStrIter s1.heap.objs.size cls x t i)) →
      (∀ (A : Around) (i : Nat) (s : Shared) (Q : Value → Shared → Prop) (E : Value → Shared → Prop), s.heap.IsStrIter s1.heap.objs.size cls x t i → Q (.ref s1.heap.objs.size) s → wpAny (model X.prog X.w) A (pyIter (.ref s1.heap.objs.size)) Q E s) →
      (s1.heap.push ob).IsStrIter s1.heap.objs.size cls x t 0 → PIE X pins σ tg R (.ref s1.heap.objs.size) { s1 with heap := s1.heap.push ob } := fun cls ob h1 h2 h3 h4 => by
    refine ⟨s1.heap.objs.size, [s1.heap.objs.size], _, Its x, H1, rfl, I1.kept (t' := s1.toks) fun b o e => Heap.get?_push_of_some _ e, turn_str _ x t cls h1 h2 h3, ⟨Nat.zero_le _, h4⟩, fun b hb => ?_, q⟩
    have e : b = s1.heap.objs.size := by simpa using hb
    subst e
    exact I1.fpOk (Nat.le_refl _) (I1.hok.fresh (Nat.le_refl _))
  cases ha : x.cps.all (· < 128)
  · exact wpAny_pyIter_wide ha (fin "str_iterator" _ (by decide) (fun A hA => Walks.strWide hA _ x t) (fun A i s Q E st h => wpAny_pyIter_striter_wide st h) ⟨_, Heap.get?_push_size _ rfl, rfl, rfl⟩)
  · exact wpAny_pyIter_ascii ha (fin "str_ascii_iterator" _ (by decide) (fun A hA => Walks.strAscii hA _ x t) (fun A i s Q E st h => wpAny_pyIter_striter_ascii st h) ⟨_, Heap.get?_push_size _ rfl, rfl, rfl⟩)
end
end L2
namespace L2
open PySem PySem.Spec PyProof.Rows
section
variable {X : Cx} (K : PySem.W.Frag) (hK : X.K = K)
include hK
theorem call_lenK : CallR X (.builtin "len") (fun xs H Q => ∃ x n, xs = [x] ∧ LenV K x H n ∧ Q (.int n) H) := by subst hK; exact call_len
theorem call_isiK : CallR X (.builtin "isinstance") (fun xs H Q => ∃ x T t b, xs = [x, .ty T] ∧ TyOf K H x t ∧ PySem.W.kitOne K t (.type T) = some b ∧ Q (.bl b) H) := by subst hK; exact call_isi
theorem call_allK (hc : X.calm = true) : CallR X (.builtin "all") (fun xs H Q => ∃ (p : Addr) (bs : List Bool), xs = [.ref p] ∧ SqL K H p (bs.map V.bl) ∧ Q (.bl (bs.all id)) H) := by subst hK; exact call_allB hc
theorem ix_listK : IxR X (rIxL K) := by subst hK; exact ix_list
theorem ix_tupK : IxR X (rIxT K) := by subst hK; exact ix_tup
theorem sl_listK : SlR X (rSlL K) := by subst hK; exact sl_list
theorem sl_tupK : SlR X (rSlT K) := by subst hK; exact sl_tup
theorem op_inK : OpR X (compareOp .In) (rIn K false) := by subst hK; exact op_in_seq
theorem op_notInK : OpR X (compareOp .NotIn) (rIn K true) := by subst hK; exact op_notIn_seq
theorem op_catTK : OpR X (binaryOp .Add) (rCatT K) := by subst hK; exact op_catT
theorem call_listK : CallR X (.type "list") (fun xs H Q => ∃ p ys, xs = [.ref p] ∧ (SqL K H p ys ∨ SqT K H p ys) ∧ ∀ l, H l = none → Q (.ref l) (upd H l (.lst ys))) := by subst hK; exact call_list_of
theorem call_tupleK : CallR X (.type "tuple") (fun xs H Q => ∃ p ys, xs = [.ref p] ∧ ((SqL K H p ys ∧ ∀ l, H l = none → Q (.ref l) (upd H l (.tup ys))) ∨ (SqT K H p ys ∧ Q (.ref p) H))) := by subst hK; exact call_tuple_of
theorem pi_listK {tg l : Expr} {tl : TE} (hl : PE X l tl) : PI X tg l (iList K tl) := by subst hK; exact pi_list hl
theorem pi_tupK {tg l : Expr} {tl : TE} (hl : PE X l tl) : PI X tg l (iTup K tl) := by subst hK; exact pi_tup hl
theorem pt_truthK {a : Expr} {ta : TE} (ha : PE X a ta) (he : ∀ whole, isTrue a X.env whole = (do let v ← whole; standAt a.pos; holding [v] (truthy v))) :
    PT X a (fun σ H Q => ta σ H fun x H' => ∃ k, TruV K x H' k ∧ Q k H') := by subst hK; exact pt_truth ha he
theorem pg_tupK {es : List Expr} {k : Nat} {pos : Pos} {t : TGs} {n : Nat} (hc : X.calm = true) (h : PGs X es t)
    (hn : (assignEach es X.env).length = n := by rfl) (hst : (assignEach es X.env).findIdx? (·.1) = none := by rfl) : PG X (.Tuple es k pos) (gTup K n t) := by subst hK; exact pg_tup hc h hn hst
variable {o e : Expr} {es : List Expr} {to : TE} {t : TA} {name : Str} {apos cpos : Pos} {T id : String} {r : V → List V → Hp → VK → Prop}
theorem pe_bm0K (pa : PlainAttrs T) (slot : Slot T name id) (hty : typeOf (.builtin id) = pure (.type "method_descriptor")) (hm : MtR X id r) (ho : PE X o to)
    (hbase : attributeBase o name X.env (eval o X.env) = eval o X.env := by rfl) (hline : (apos.endLine == cpos.line) = true := by rfl) : PE X (.Call (.Attribute o name apos) [] [] cpos) (tBM0 K T r to) := by
  subst hK; exact pe_bm0 pa slot hty hm ho hbase hline
theorem pe_bmK (pa : PlainAttrs T) (slot : Slot T name id) (hty : typeOf (.builtin id) = pure (.type "method_descriptor")) (hm : MtR X id r) (ho : PE X o to) (ha : PA X (e :: es) t)
    (hbase : attributeBase o name X.env (eval o X.env) = eval o X.env := by rfl)
    (hfew : ((backTo cpos (starEach (e :: es) X.env)).all (fun x => !x.1) && (backToKw cpos (keywordEach [] X.env)).all (fun x => x.1.isSome)
      && decide ((e :: es).length + ([] : List Keyword).length + (if ([] : List Keyword).isEmpty then 0 else 1) < 30)) = true := by rfl)
    (hline : (apos.endLine == cpos.line) = true := by rfl) (hs : starEach (e :: es) X.env = (false, eval e X.env) :: starEach es X.env := by rfl) (hplain : (backTo cpos (starEach es X.env)).any (·.1) = false := by rfl) :
    PE X (.Call (.Attribute o name apos) (e :: es) [] cpos) (tBM K T r to t) := by
  subst hK; exact pe_bm pa slot hty hm ho ha hbase hfew hline hs hplain
end
end L2
namespace L2
open PySem PySem.Spec PyProof.Rows
theorem boot_len : bootBuiltins "len" = some (.builtin "len") := by decide +kernel
theorem boot_max : bootBuiltins "max" = some (.builtin "max") := by decide +kernel
theorem boot_min : bootBuiltins "min" = some (.builtin "min") := by decide +kernel
theorem boot_isinstance : bootBuiltins "isinstance" = some (.builtin "isinstance") := by decide +kernel
theorem boot_all : bootBuiltins "all" = some (.builtin "all") := by decide +kernel
theorem boot_sorted : bootBuiltins "sorted" = some (.builtin "sorted") := by decide +kernel
theorem boot_int : bootBuiltins "int" = some (.type "int") := by decide +kernel
theorem boot_str : bootBuiltins "str" = some (.type "str") := by decide +kernel
theorem boot_bool : bootBuiltins "bool" = some (.type "bool") := by decide +kernel
theorem boot_list : bootBuiltins "list" = some (.type "list") := by decide +kernel
theorem boot_tuple : bootBuiltins "tuple" = some (.type "tuple") := by decide +kernel
theorem boot_set : bootBuiltins "set" = some (.type "set") := by decide +kernel
theorem boot_range : bootBuiltins "range" = some (.type "range") := by decide +kernel
theorem boot_zip : bootBuiltins "zip" = some (.type "zip") := by decide +kernel
section
variable {X : Cx}
theorem pe_ty {x : Str} {T : String} {pos : Pos} (hg : Gl X x) (hm : X.mg x = none) (hv : bootBuiltins x = some (.type T)) (hn : x ≠ "__name__" := by decide) (hd : (x == ("__debug__" : Str)) = false := by decide) : PE X (.Name x pos) (tC (.ty T)) :=
  pe_bltn hg hm hv rfl hn hd
theorem pe_globE {x : Str} {v : V} {pos : Pos} (hm : ∃ u, X.mg x = some u ∧ RelV v u) (hg : Gl X x) (hd : (x == ("__debug__" : Str)) = false := by decide) : PE X (.Name x pos) (tC v) := by
  obtain ⟨u, h1, h2⟩ := hm
  exact pe_glob hg h1 h2 hd
end
theorem kit_tt {K : PySem.W.Frag} {A B : String} {b : Bool} (h : (if ((Value.type A) == .type B) = true then some true else if PySem.W.kitMeta B = true then (fastBuiltinMro A).map (·.contains (.type B)) else none) = some b) : PySem.W.kitOne K (.type A) (.type B) = some b := h
theorem iteI {i j : Int} {A B : Prop} (h1 : i = j → A) (h2 : i ≠ j → B) : if decide (V.int i = V.int j) = true then A else B := by
  by_cases h : i = j
  · subst h
    rw [decide_eq_true rfl]
    exact iteT (h1 rfl)
  · rw [decide_eq_false (fun e => h (V.int.inj e))]
    exact iteF (h2 h)
theorem iteD {c : Prop} [Decidable c] {A B : Prop} (h1 : c → A) (h2 : ¬ c → B) : if decide c = true then A else B := by
  by_cases h : c
  · rw [decide_eq_true h]
    exact iteT (h1 h)
  · rw [decide_eq_false h]
    exact iteF (h2 h)
theorem iteB {b : Bool} {A B : Prop} (h1 : b = true → A) (h2 : b = false → B) : if b = true then A else B := by
  cases b with
  | true => exact iteT (h1 rfl)
  | false => exact iteF (h2 rfl)
theorem gName_ {j : Nat} {x : V} {σ : St} {H : Hp} {F : St → Hp → Prop} (h : F (σ.set j (some x)) H) : gName j x σ H F := h
theorem asg_const {i : Nat} {v : V} {D : Ends} {σ : St} {H : Hp} (h : D.nx (σ.set i (some v)) H) : tAsg (tC v) (gName i) D σ H := h
theorem yes_ {σ : St} {H : Hp} {F : Bool → Hp → Prop} (h : F true H) : tYes σ H F := h
theorem atI_ints {ns : List Int} {i : Int} (h0 : 0 ≤ i) (h1 : i < ns.length) : ∃ z, atI (ns.map V.int) i = some (.int z) := by
  refine ⟨ns[i.toNat]'(by omega), ?_⟩
  unfold atI ixN
  rw [if_pos h0, if_pos (by rw [List.length_map]; exact h1)]
  show (ns.map V.int)[i.toNat]? = _
  rw [List.getElem?_map, List.getElem?_eq_getElem (by omega)]
  rfl
theorem mod_lt (i : Int) {n : Int} (h : 0 < n) : 0 ≤ i % n ∧ i % n < n := ⟨Int.emod_nonneg _ (by omega), Int.emod_lt_of_pos _ h⟩
theorem mask31 (x : Int) : Builtin.bitAnd x 2147483647 = x % 2147483648 := PySem.W.kbt_mask x 31
end L2
namespace L2
open PySem PySem.Spec PyProof.Rows
section
variable {X : Cx}
def rSlS : V → Option Int → Option Int → Hp → VK → Prop := fun x lo hi H Q => ∃ z, x = .str z ∧ z.length ≤ sizeLine ∧ Q (.str (Txt.slice z lo hi)) H
theorem sl_str : SlR X rSlS := by
  intro pins s σ H x v vl vu lo hi sl Q I rx hs pl pu h
  obtain ⟨z, rfl, hz, q⟩ := h
  obtain ⟨t, rfl⟩ := rx
  refine ⟨"str", _, F.slot_str_getitem.lookup, typeIs_str _ _ _, ?_⟩
  have fin : ∀ (t' : Tok) (k : Nat), EP X pins σ Q (.str (Txt.slice z lo hi) t') { s with toks := k } := fun t' k => ⟨.str _, H, I.tok k, ⟨_, rfl⟩, q⟩
  cases pl with
  | none =>
    cases pu with
    | none => exact wpAny_getItem_str_slice (l := none) (u := none) (st := none) hs rfl (post_val_or_str ⟨Nat.le_trans (Txt.slice_le z _ _) hz, fin⟩)
    | int j u => exact wpAny_getItem_str_slice (l := none) (u := some (j, u)) (st := none) hs rfl (post_val_or_str ⟨Nat.le_trans (Txt.slice_le z _ _) hz, fin⟩)
  | int i t1 =>
    cases pu with
    | none => exact wpAny_getItem_str_slice (l := some (i, t1)) (u := none) (st := none) hs rfl (post_val_or_str ⟨Nat.le_trans (Txt.slice_le z _ _) hz, fin⟩)
    | int j u => exact wpAny_getItem_str_slice (l := some (i, t1)) (u := some (j, u)) (st := none) hs rfl (post_val_or_str ⟨Nat.le_trans (Txt.slice_le z _ _) hz, fin⟩)
theorem strs_of : ∀ {ts : List Str} {its : List Value}, Vals (ts.map V.str) its → ∃ l : List (Str × Tok), its = strValues l ∧ l.map (·.1) = ts
  | [], _, r => by
    cases r
    exact ⟨[], rfl, rfl⟩
  | t :: ts, _, r => by
    cases r with
    | cons h r' =>
      obtain ⟨tk, rfl⟩ := h
      obtain ⟨l, e1, e2⟩ := strs_of r'
      exact ⟨(t, tk) :: l, by rw [e1]; rfl, by rw [List.map_cons, e2]⟩
def rJoin (K : PySem.W.Frag) : V → List V → Hp → VK → Prop := fun x vs H Q => ∃ (z : Str) (p : Addr) (ts : List Str), x = .str z ∧ vs = [.ref p] ∧ SqL K H p (ts.map V.str) ∧ JoinOk z ts = true ∧ Q (.str (Txt.join z ts)) H
theorem mt_join : MtR X "str.join" (rJoin X.K) := by
  intro pins s σ H x vs v us Q I rx rv h
  obtain ⟨z, p, ts, rfl, rfl, hq, ho, q⟩ := h
  obtain ⟨t, rfl⟩ := rx
  obtain ⟨u, rfl, r1⟩ := vals1 rv
  cases r1
  obtain ⟨its, r, pl, hz⟩ := I.list hq
  obtain ⟨l, rfl, e2⟩ := strs_of r
  exact SC.join pl.isList e2 ho fun t' k => ⟨.str _, H, I.tok k, ⟨_, rfl⟩, q⟩
theorem mt_joinK (K : PySem.W.Frag) (hK : X.K = K) : MtR X "str.join" (rJoin K) := by subst hK; exact mt_join
end
end L2
namespace L2
open PySem PySem.Spec PyProof.Rows
theorem same_new {H0 H : Hp} {a : Addr} {o : HO} (h : Same H0 H) (hn : H a = none) : Same H0 (upd H a o) := fun b o' hb => by
  have e := h b o' hb
  rw [upd_ne (ne_of_none e hn)]
  exact e
theorem Same.at {H0 H : Hp} {b : Addr} {o : HO} (h : Same H0 H) (e : H0 b = some o) : H b = some o := h b o e
theorem atI_some {α : Type} {xs : List α} {i : Int} (h0 : 0 ≤ i) (h1 : i < xs.length) : ∃ c, atI xs i = some c ∧ c ∈ xs := by
  refine ⟨xs[i.toNat]'(by omega), ?_, List.getElem_mem _⟩
  unfold atI ixN
  rw [if_pos h0, if_pos h1]
  show xs[i.toNat]? = _
  rw [List.getElem?_eq_getElem (by omega)]
theorem le_size {n : Nat} (h : n ≤ 65536) : n ≤ sizeLine := by rw [sizeLine_eq]; omega
section
variable {X : Cx} {pins : List (Addr × Obj)} {σ : St} {H : Hp} {s : Shared}
end
section
variable {X : Cx}
end
section
variable {X : Cx}
end
theorem same_upd {H0 H : Hp} {a : Addr} {o : HO} (h : Same H0 H) (hn : H0 a = none) : Same H0 (upd H a o) := fun b o' hb => by
  have : b ≠ a := fun e => by rw [e, hn] at hb; cases hb
  rw [upd_ne this]
  exact h b o' hb
theorem atI_nat' {α : Type} {xs : List α} {k : Nat} {v : α} (h : xs[k]? = some v) : atI xs (k : Int) = some v := by
  have hl := (List.getElem?_eq_some_iff.mp h).1
  unfold atI ixN
  rw [if_pos (by omega), if_pos (by omega)]
  exact h
theorem Same.tseq {K : PySem.W.Frag} {H H' : Hp} {a : Addr} {xs : List V} (e : Same H H') (h : SqT K H a xs) : SqT K H' a xs := by
  rcases h with h | h
  · rcases h with h | ⟨o, h⟩
    · exact .inl (.inl (e _ _ h))
    · exact .inl (.inr ⟨o, e _ _ h⟩)
  · exact .inr h
@[irreducible] def ten30 : Int := 10 ^ (30 : Int).toNat
theorem ten30_eq : ten30 = 10 ^ (30 : Int).toNat := by unfold ten30; rfl
theorem ten30_lit : ten30 = 1000000000000000000000000000000 := by rw [ten30_eq]; decide +kernel
theorem ten30_pos : 1000000000000000000 < ten30 := by rw [ten30_eq]; decide +kernel
section
variable {X : Cx}
theorem op_ten : OpR X (binaryOp .Pow) (fun x y H Q => x = .int 10 ∧ y = .int 30 ∧ Q (.int ten30) H) := by
  intro pins s σ H x y v u Q I rx ry h
  obtain ⟨rfl, rfl, q⟩ := h
  rw [ten30_eq] at q
  exact op_pow pins s σ H _ _ v u Q I rx ry ⟨10, 30, rfl, rfl, ⟨by decide, by decide, by decide⟩, q⟩
end
theorem lf {n i : Nat} {P : Prop} (hi : i < n) (h : P) : ∃ m', m' < n - i ∧ m' = n - (i + 1) ∧ i + 1 ≤ n ∧ P := ⟨_, by omega, rfl, hi, h⟩
theorem comp_range {K : PySem.W.Frag} {lo : Int} {n : Nat} {g : TG} {ds : List Nat} {k : Nat} {tc : TT} {te : TE} {σ : St} {H1 : Hp} {D : Addr} {F : Hp → Prop} (Pv : Nat → List V → Hp → Prop) (h0 : Pv 0 [] (upd H1 D (.lst [])))
    (hs : ∀ i acc H2, i < n → Pv i acc H2 → g (.int (lo + i)) (iniC ds k σ) H2 fun σ4 H4 => tc σ4 H4 fun b H5 => if b = true then
      te σ4 H5 fun y H6 => H6 D = some (.lst acc) ∧ acc.length < sizeLine ∧ ∃ m', m' < n - i ∧ m' = n - (i + 1) ∧ i + 1 ≤ n ∧ Pv (i + 1) (acc ++ [y]) (upd H6 D (.lst (acc ++ [y])))
      else ∃ m', m' < n - i ∧ m' = n - (i + 1) ∧ i + 1 ≤ n ∧ Pv (i + 1) acc H5) (hd : ∀ acc H2, Pv n acc H2 → F H2) :
    ∃ W : Nat → Nat → List V → Hp → Prop, (∃ m, W 0 m [] (upd H1 D (.lst []))) ∧ ∀ i m acc H2, W i m acc H2 →
    ((Itr lo n).stop i H2 ∧ F H2) ∨ ((Itr lo n).go i H2 ∧ ∀ x H3, (Itr lo n).yld i H2 x H3 → g x (iniC ds k σ) H3 fun σ4 H4 => tc σ4 H4 fun b H5 => if b = true then
      te σ4 H5 fun y H6 => H6 D = some (.lst acc) ∧ acc.length < sizeLine ∧ ∃ m', m' < m ∧ W (i + 1) m' (acc ++ [y]) (upd H6 D (.lst (acc ++ [y])))
      else ∃ m', m' < m ∧ W (i + 1) m' acc H5) := by
  refine ⟨fun i m acc H2 => m = n - i ∧ i ≤ n ∧ Pv i acc H2, ⟨_, rfl, Nat.zero_le _, h0⟩, ?_⟩
  rintro i m acc H2 ⟨rfl, hi, p⟩
  by_cases hlt : i < n
  · refine .inr ⟨hlt, fun x H3 y => ?_⟩
    obtain ⟨e, y⟩ := y
    subst e y
    exact hs i acc _ hlt p
  · have e : i = n := by omega
    subst e
    exact .inl ⟨Nat.le_refl _, hd acc H2 p⟩
theorem comp_list {K : PySem.W.Frag} {a : Addr} {xs : List V} {g : TG} {ds : List Nat} {k : Nat} {tc : TT} {te : TE} {σ : St} {H1 : Hp} {D : Addr} {F : Hp → Prop} (Pv : Nat → List V → Hp → Prop) (h0 : Pv 0 [] (upd H1 D (.lst [])))
    (hl : ∀ i acc H2, i ≤ xs.length → Pv i acc H2 → SqL K H2 a xs) (hs : ∀ i x acc H2, xs[i]? = some x → Pv i acc H2 → g x (iniC ds k σ) H2 fun σ4 H4 => tc σ4 H4 fun b H5 => if b = true then
      te σ4 H5 fun y H6 => H6 D = some (.lst acc) ∧ acc.length < sizeLine ∧ ∃ m', m' < xs.length - i ∧ m' = xs.length - (i + 1) ∧ i + 1 ≤ xs.length ∧ Pv (i + 1) (acc ++ [y]) (upd H6 D (.lst (acc ++ [y])))
      else ∃ m', m' < xs.length - i ∧ m' = xs.length - (i + 1) ∧ i + 1 ≤ xs.length ∧ Pv (i + 1) acc H5) (hd : ∀ acc H2, Pv xs.length acc H2 → F H2) :
    ∃ W : Nat → Nat → List V → Hp → Prop, (∃ m, W 0 m [] (upd H1 D (.lst []))) ∧ ∀ i m acc H2, W i m acc H2 →
    ((Itl K a).stop i H2 ∧ F H2) ∨ ((Itl K a).go i H2 ∧ ∀ x H3, (Itl K a).yld i H2 x H3 → g x (iniC ds k σ) H3 fun σ4 H4 => tc σ4 H4 fun b H5 => if b = true then
      te σ4 H5 fun y H6 => H6 D = some (.lst acc) ∧ acc.length < sizeLine ∧ ∃ m', m' < m ∧ W (i + 1) m' (acc ++ [y]) (upd H6 D (.lst (acc ++ [y])))
      else ∃ m', m' < m ∧ W (i + 1) m' acc H5) := by
  refine ⟨fun i m acc H2 => m = xs.length - i ∧ i ≤ xs.length ∧ Pv i acc H2, ⟨_, rfl, Nat.zero_le _, h0⟩, ?_⟩
  rintro i m acc H2 ⟨rfl, hi, p⟩
  have q := hl i acc H2 hi p
  by_cases hlt : i < xs.length
  · refine .inr ⟨⟨xs, xs[i], q, by simp [hlt]⟩, fun x H3 y => ?_⟩
    obtain ⟨e, y⟩ := y
    subst e
    exact hs i x acc _ (y xs q) p
  · have e : i = xs.length := by omega
    subst e
    exact .inl ⟨⟨xs, q, Nat.le_refl _⟩, hd acc H2 p⟩
theorem comp_tup {K : PySem.W.Frag} {a : Addr} {xs : List V} {g : TG} {ds : List Nat} {k : Nat} {tc : TT} {te : TE} {σ : St} {H1 : Hp} {D : Addr} {F : Hp → Prop} (Pv : Nat → List V → Hp → Prop) (h0 : Pv 0 [] (upd H1 D (.lst [])))
    (hl : ∀ i acc H2, i ≤ xs.length → Pv i acc H2 → SqT K H2 a xs) (hs : ∀ i x acc H2, xs[i]? = some x → Pv i acc H2 → g x (iniC ds k σ) H2 fun σ4 H4 => tc σ4 H4 fun b H5 => if b = true then
      te σ4 H5 fun y H6 => H6 D = some (.lst acc) ∧ acc.length < sizeLine ∧ ∃ m', m' < xs.length - i ∧ m' = xs.length - (i + 1) ∧ i + 1 ≤ xs.length ∧ Pv (i + 1) (acc ++ [y]) (upd H6 D (.lst (acc ++ [y])))
      else ∃ m', m' < xs.length - i ∧ m' = xs.length - (i + 1) ∧ i + 1 ≤ xs.length ∧ Pv (i + 1) acc H5) (hd : ∀ acc H2, Pv xs.length acc H2 → F H2) :
    ∃ W : Nat → Nat → List V → Hp → Prop, (∃ m, W 0 m [] (upd H1 D (.lst []))) ∧ ∀ i m acc H2, W i m acc H2 →
    ((Itt K a).stop i H2 ∧ F H2) ∨ ((Itt K a).go i H2 ∧ ∀ x H3, (Itt K a).yld i H2 x H3 → g x (iniC ds k σ) H3 fun σ4 H4 => tc σ4 H4 fun b H5 => if b = true then
      te σ4 H5 fun y H6 => H6 D = some (.lst acc) ∧ acc.length < sizeLine ∧ ∃ m', m' < m ∧ W (i + 1) m' (acc ++ [y]) (upd H6 D (.lst (acc ++ [y])))
      else ∃ m', m' < m ∧ W (i + 1) m' acc H5) := by
  refine ⟨fun i m acc H2 => m = xs.length - i ∧ i ≤ xs.length ∧ Pv i acc H2, ⟨_, rfl, Nat.zero_le _, h0⟩, ?_⟩
  rintro i m acc H2 ⟨rfl, hi, p⟩
  have q := hl i acc H2 hi p
  by_cases hlt : i < xs.length
  · refine .inr ⟨⟨xs, xs[i], q, by simp [hlt]⟩, fun x H3 y => ?_⟩
    obtain ⟨e, y⟩ := y
    subst e
    exact hs i x acc _ (y xs q) p
  · have e : i = xs.length := by omega
    subst e
    exact .inl ⟨⟨xs, q, Nat.le_refl _⟩, hd acc H2 p⟩
theorem comp_str {K : PySem.W.Frag} {z : Str} {g : TG} {ds : List Nat} {k : Nat} {tc : TT} {te : TE} {σ : St} {H1 : Hp} {D : Addr} {F : Hp → Prop} (Pv : Nat → List V → Hp → Prop) (h0 : Pv 0 [] (upd H1 D (.lst [])))
    (hs : ∀ i c acc H2, z.cps.toList[i]? = some c → Pv i acc H2 → g (.str ⟨#[c]⟩) (iniC ds k σ) H2 fun σ4 H4 => tc σ4 H4 fun b H5 => if b = true then
      te σ4 H5 fun y H6 => H6 D = some (.lst acc) ∧ acc.length < sizeLine ∧ ∃ m', m' < z.cps.toList.length - i ∧ m' = z.cps.toList.length - (i + 1) ∧ i + 1 ≤ z.cps.toList.length ∧ Pv (i + 1) (acc ++ [y]) (upd H6 D (.lst (acc ++ [y])))
      else ∃ m', m' < z.cps.toList.length - i ∧ m' = z.cps.toList.length - (i + 1) ∧ i + 1 ≤ z.cps.toList.length ∧ Pv (i + 1) acc H5) (hd : ∀ acc H2, Pv z.cps.toList.length acc H2 → F H2) :
    ∃ W : Nat → Nat → List V → Hp → Prop, (∃ m, W 0 m [] (upd H1 D (.lst []))) ∧ ∀ i m acc H2, W i m acc H2 →
    ((Its z).stop i H2 ∧ F H2) ∨ ((Its z).go i H2 ∧ ∀ x H3, (Its z).yld i H2 x H3 → g x (iniC ds k σ) H3 fun σ4 H4 => tc σ4 H4 fun b H5 => if b = true then
      te σ4 H5 fun y H6 => H6 D = some (.lst acc) ∧ acc.length < sizeLine ∧ ∃ m', m' < m ∧ W (i + 1) m' (acc ++ [y]) (upd H6 D (.lst (acc ++ [y])))
      else ∃ m', m' < m ∧ W (i + 1) m' acc H5) := by
  refine ⟨fun i m acc H2 => m = z.cps.toList.length - i ∧ i ≤ z.cps.toList.length ∧ Pv i acc H2, ⟨_, rfl, Nat.zero_le _, h0⟩, ?_⟩
  rintro i m acc H2 ⟨rfl, hi, p⟩
  have hl : z.cps.toList.length = z.cps.size := by simp
  by_cases hlt : i < z.cps.size
  · refine .inr ⟨hlt, fun y H3 yl => ?_⟩
    obtain ⟨e, c, hc, rfl⟩ := yl
    subst e
    exact hs i c acc _ (by simpa using hc) p
  · have e : i = z.cps.toList.length := by omega
    subst e
    exact .inl ⟨by show z.cps.size ≤ _; omega, hd acc H2 p⟩
section
variable {X : Cx}
end
theorem iteS {i j : Str} {A B : Prop} (h1 : i = j → A) (h2 : i ≠ j → B) : if decide (V.str i = V.str j) = true then A else B := by
  by_cases h : i = j
  · subst h
    rw [decide_eq_true rfl]
    exact iteT (h1 rfl)
  · rw [decide_eq_false (fun e => h (V.str.inj e))]
    exact iteF (h2 h)
theorem atI_end2 {α : Type} (xs : List α) (u v : α) : atI (xs ++ [u, v]) (-2) = some u := by
  unfold atI ixN
  rw [if_neg (by omega), if_pos (by simp; omega)]
  show (xs ++ [u, v])[_]? = _
  rw [show ((-2 : Int) + ((xs ++ [u, v]).length : Int)).toNat = xs.length by simp; omega]
  simp
theorem elseOnce {c : TT} {t u : TS} {D : Ends} {σ : St} {H : Hp} (hu : u D σ H) (h : ∀ U : TS, U D σ H → tIfS c t U D σ H) : tIfS c t u D σ H := h u hu
theorem concat_of {α : Type} {xs : List α} (h : xs ≠ []) : ∃ ys y, xs = ys ++ [y] := ⟨xs.dropLast, xs.getLast h, (List.dropLast_concat_getLast h).symm⟩
theorem concat2_of {α : Type} {xs : List α} (h : 1 < xs.length) : ∃ ys y z, xs = ys ++ [y, z] := by
  obtain ⟨ys, z, rfl⟩ := concat_of (xs := xs) (fun e => by rw [e] at h; simp at h)
  obtain ⟨zs, y, rfl⟩ := concat_of (xs := ys) (fun e => by rw [e] at h; simp at h)
  exact ⟨zs, y, z, by simp⟩
theorem getLast_end {α : Type} (xs : List α) (v : α) : (xs ++ [v])[(xs ++ [v]).length - 1]? = some v := by simp
end L2
namespace L2
open PySem PySem.Spec PyProof.Rows
abbrev freshSet (led : Bool) : Obj := { cls := .type "set", dict := none, data := .set #[] 0 (.fresh 0 0 led) }
def metK {α : Type} [BEq α] (key : Nat → α) (i : Nat) : List α := ((List.range i).map key).foldl step_dedup []
section
variable {α : Type} [DecidableEq α] [BEq α] [LawfulBEq α]
theorem metK_next (key : Nat → α) (i : Nat) : metK key (i + 1) = step_dedup (metK key i) (key i) := by
  show ((List.range (i + 1)).map key).foldl step_dedup [] = _
  rw [List.range_succ, List.map_append, List.foldl_append]; rfl
theorem metK_len (key : Nat → α) (i : Nat) : (metK key i).length ≤ i := by
  induction i with
  | zero => exact Nat.le_refl 0
  | succ i ih =>
    rw [metK_next]
    unfold step_dedup
    split
    · exact Nat.le_succ_of_le ih
    · rw [List.length_append]; exact Nat.succ_le_succ ih
theorem dedup_any (l : List α) (x y : α) : (step_dedup l x).any (· == y) = (l.any (· == y) || decide (y = x)) := by
  have hd : decide (y = x) = (x == y) := by
    by_cases e : y = x
    · rw [decide_eq_true e, e, beq_self_eq_true]
    · rw [decide_eq_false e]; exact (beq_false_of_ne (Ne.symm e)).symm
  rw [hd]
  unfold step_dedup
  split
  · rename_i h
    cases q : (x == y) with
    | false => rw [Bool.or_false]
    | true => rw [← eq_of_beq q, h]; rfl
  · rw [List.any_append]; simp
theorem dedup_len (l : List α) (x : α) : (step_dedup l x).length = if l.any (· == x) then l.length else l.length + 1 := by
  unfold step_dedup
  by_cases h : l.any (· == x) = true
  · rw [if_pos h, if_pos h]
  · rw [if_neg h, if_neg h, List.length_append]; rfl
end
section
variable {prog : Program} {w : World} {A : Around} {R : Result → Shared → Prop} {α : Type} [DecidableEq α] [BEq α] [LawfulBEq α] {it a : Addr} {fp wr : List Addr} {G : Array GenState → Array GenState → Prop} {n : Nat} {P : Nat → Value → Prop} {St : Nat → Shared → Prop}
def Filled (knd : PySem.KeyKind prog w α) (key : Nat → α) (a : Addr) (i : Nat) (h : Heap) : Prop := h.SetOf knd a (fun q => (metK key i).any (· == q)) (metK key i).length
theorem Filled.keep {knd : PySem.KeyKind prog w α} {key : Nat → α} {i : Nat} {h h' : Heap} (f : Filled knd key a i h) (k : ∀ o, h.get? a = some o → h'.get? a = some o) : Filled knd key a i h' := by
  obtain ⟨o, es, ep, tb, e, r⟩ := f
  exact ⟨o, es, ep, tb, k o e, r⟩
theorem set_fill (knd : PySem.KeyKind prog w α) (Wk : WalksS prog w A.in1 it fp wr G n P St) (ha : a ∉ fp) (key : Nat → α) (hkey : ∀ i v, P i v → knd.is (key i) v = true ∧ v.scannable = true) (room : n + 1 < scanBound) :
    ∀ (d i : Nat) (s : Shared), n - i = d → i ≤ n → St i s → Filled knd key a i s.heap → (∀ s', Moved (a :: wr) G s s' → Filled knd key a n s'.heap → R (.ok (.ret .none)) s') →
      codeAny (model prog w) A (.builtin "set.update.loop" ⟨[.ref a, .ref it], []⟩) R s := by
  have aw : a ∉ wr := fun z => ha (Wk.sub _ z)
  have up : ∀ b ∈ wr, b ∈ a :: wr := fun b z => List.mem_cons_of_mem _ z
  intro d
  induction d with
  | zero =>
    intro i s hd hi st f k
    obtain rfl : i = n := by omega
    refine codeAny_builtin F.entry_set_update_loop ?_; rw [Around.under_plainId F.plain_set_update_loop _]
    refine wpAny_bind (m := pyNext (.ref it)) (Wk.done s _ _ st fun s' mv => ?_)
    exact wpAny_pure (k s' (mv.mono up) (f.keep fun o e => mv.heap a o aw e))
  | succ d ih =>
    intro i s hd hi st f k
    have lt : i < n := by omega
    refine codeAny_builtin F.entry_set_update_loop ?_; rw [Around.under_plainId F.plain_set_update_loop _]
    refine wpAny_bind (m := pyNext (.ref it)) (Wk.item i s _ _ lt st fun v s' pv st' mv => ?_)
    obtain ⟨hv, hs⟩ := hkey i v pv
    have f' : Filled knd key a i s'.heap := f.keep fun o e => mv.heap a o aw e
    refine wpAny_bind (m := holding [v] (setAdd a v)) (wpAny_holding ?_); unfold setAdd
    refine wpAny_holding (wpAny_bind (knd.pyHash (k := key i) hv ?_))
    have rm : (metK key i).length + 1 < scanBound := by have := metK_len key i; omega
    refine wpAny_setAddHashed_of (knd := knd) (s := { s' with toks := s'.toks + 1 }) hv hs f' rm fun h' sb f2 => ?_
    have f3 : Filled knd key a (i + 1) h' := SetOf_congr f2 (fun q => by rw [metK_next, dedup_any]) (by rw [metK_next, dedup_len])
    refine wpAny_pure ⟨plainId_quiet F.plain_set_update_loop _, ih (i + 1) _ (by omega) lt (Wk.frame _ s' _ _ st' (Nat.le_succ _) fun b z o e => ?_) f3 fun s'' mv' f4 => ?_⟩
    · exact (sb.2 b fun z' => ha (z' ▸ z)).trans e
    · refine k s'' (Moved.trans Wk.gtrans ((mv.mono up).then_heap (Nat.le_succ _) fun b o z e => ?_) mv') f4
      exact (sb.2 b fun z' => z (z' ▸ List.mem_cons_self)).trans e
end
section
variable {prog : Program} {w : World} {A : Around} {E : Value → Shared → Prop} {s : Shared} {α : Type} [DecidableEq α] [BEq α] [LawfulBEq α]
set_option maxHeartbeats 3200000 in
theorem set_of_list (knd : PySem.KeyKind prog w α) {l : Addr} {its : Array Value} {key : Nat → α} {Q : Value → Shared → Prop} (hh : A.handled = none) (hl : s.heap.IsList l its) (hkey : ∀ i v, its[i]? = some v → knd.is (key i) v = true ∧ v.scannable = true) (room : its.size + 1 < scanBound)
    (k : ∀ (h' : Heap) (tk : Nat), Filled knd key s.heap.objs.size its.size h' → (∀ b o, s.heap.get? b = some o → h'.get? b = some o) → Q (.ref s.heap.objs.size) { s with heap := h', toks := tk }) :
    wpAny (model prog w) A (call (.type "set") [.ref l]) Q E s := by
  obtain ⟨c, tl, hmro⟩ := F.called_set.mro
  have made := F.called_set.made; have sub := F.called_set.sub; have nt := F.called_set.notType; have cc := F.called_set.canCreate; have tc := F.typeCall_set_1 (.ref l)
  refine wpAny_call (codeAny_of_tree ?_); show wpAny _ _ (callAny (.type "set") _) _ _ _
  refine wpAny_pure ⟨Code.quiet_builtin _ (by decide +kernel), codeAny_builtin F.entry_type_call ?_⟩; rw [Around.under_plain (weight_type_call_type "set" [.ref l] []) rfl]
  (repeat (any_goals (first | assumption | wp_step))); skip
  refine codeAny_mono (code_set_new_1 (.ref l) (E := E) (Q₁ := fun u s₁ => ∃ led : Bool, u = .ref s.heap.objs.size ∧ s₁ = { s with heap := s.heap.push (freshSet led) }) fun led => ⟨led, rfl, rfl⟩) fun r s₁ hr => ?_
  cases r with
  | error e => exact hr
  | ok fl =>
    cases fl with
    | ret u =>
      obtain ⟨led, rfl, rfl⟩ := hr
      have nw : (s.heap.push (freshSet led)).get? s.heap.objs.size = some (freshSet led) := Heap.get?_push_size _ rfl
      have ty : Shared.TypeIs { s with heap := s.heap.push (freshSet led) } (.ref s.heap.objs.size) "set" := ⟨_, nw, rfl⟩
      have li := F.called_set.init.lookup; have bi := F.called_set.init.bind (.ref s.heap.objs.size)
      (repeat (any_goals (first | assumption | wp_step))); skip
      refine codeAny_mono (codeAny_call_builtin (R := wants (fun r s₂ => r = .none ∧ ∃ h' tk, s₂ = { s with heap := h', toks := tk } ∧ Filled knd key s.heap.objs.size its.size h' ∧ ∀ b o, s.heap.get? b = some o → h'.get? b = some o) E) F.called_set.init.plain F.entry_set_init (check_set_init_1 ty ?_)) fun r₂ s₂ hr₂ => ?_
      · obtain ⟨⟨cl, dc, dt, sl⟩, e, ec, nl, ed⟩ := id hl
        simp only at ec ed; subst ec; subst ed
        have e' : (s.heap.push (freshSet led)).get? l = some { cls := .type "list", dict := dc, data := .seq its nl, slots := sl } := Heap.get?_push_of_some _ e
        have s1 := F.sub_list_set; have s2 := F.sub_list_frozenset; have ne : (Value.type "list" == Value.type "dict") = false := by decide
        have hl1 : (s.heap.push (freshSet led)).IsList l its := ⟨_, e', rfl, nl, rfl⟩
        unfold Builtin.«set.__init__» noKeywords Builtin.Frozenset.updateFrom
        generalize hPI : pyIter = PI; wp_walk; subst hPI
        refine wpAny_pyIter_list hl1 ?_; refine wpAny_bind (wpAny_runValue ?_)
        have lt : l < s.heap.objs.size := Heap.lt_size e
        have sz : (s.heap.push (freshSet led)).objs.size = s.heap.objs.size + 1 := Heap.size_push ..
        refine set_fill knd ((Walks.list (A := A.in1.in1.in1) (by simp [hh]) _ l (by rw [sz]; exact Nat.ne_of_lt (Nat.lt_succ_of_lt lt)) its).toS) (a := s.heap.objs.size) (by rw [sz]; simp only [List.mem_cons, List.not_mem_nil, or_false, not_or]; exact ⟨Nat.ne_of_lt (Nat.lt_succ_self _), Nat.ne_of_gt lt⟩) key hkey room (its.size - 0) 0 _ (by omega) (Nat.zero_le _)
          ⟨⟨_, Heap.get?_push_size _ rfl, rfl, rfl⟩, hl1.push _⟩ ?f0 ?fR
        case f0 =>
          have g : ((s.heap.push (freshSet led)).push { cls := .type "list_iterator", data := .fields #[.ref l, .int 0 0] }).get? s.heap.objs.size = some (freshSet led) := Heap.get?_push_of_some _ nw
          exact SetOf_congr ((setObjOf_fresh (knd := knd) led).setOf g (by unfold scanBound; omega)) (fun _ => rfl) rfl
        case fR =>
          rintro ⟨h', g', d', tk', os'⟩ mv f
          obtain rfl : g' = s.gens := mv.gens
          obtain rfl : d' = s.drawn := mv.drawn
          obtain rfl : os' = s.os := mv.os
          show wpAny _ _ _ _ _ _
          refine wpAny_pure (show wpAny _ _ (ret Value.none) _ _ _ from wpAny_pure ⟨rfl, h', tk', rfl, f, fun b o q => ?_⟩)
          have b1 : b < s.heap.objs.size := Heap.lt_size q
          exact mv.heap b o (by rw [sz]; simp only [List.mem_cons, List.not_mem_nil, or_false, not_or]; exact ⟨Nat.ne_of_lt b1, Nat.ne_of_lt (Nat.lt_succ_of_lt b1)⟩) (Heap.get?_push_of_some _ (Heap.get?_push_of_some _ q))
      · cases r₂ with
        | error e => exact hr₂
        | ok fl₂ =>
          cases fl₂ with
          | ret r =>
            obtain ⟨rfl, h', tk, rfl, f, kk⟩ := hr₂
            (repeat (any_goals (first | assumption | wp_step))); exact k _ _ f kk
          | _ => exact hr₂.elim
    | _ => exact hr.elim
end
end L2
namespace L2
open PySem PySem.Spec PyProof.Rows
instance (priority := 10000) keyBEq : BEq (Sum Int Str) := ⟨fun a b => decide (a = b)⟩
instance (priority := 10000) keyLaw : LawfulBEq (Sum Int Str) where
  eq_of_beq := fun h => of_decide_eq_true h
  rfl := decide_eq_true rfl
def dd {α : Type} [BEq α] (ks : List α) : List α := ks.foldl step_dedup []
theorem range_getD {α : Type} (ks : List α) (d : α) : (List.range ks.length).map (fun i => ks.getD i d) = ks := by
  refine List.ext_getElem (by simp) fun i h1 h2 => ?_
  simp [List.getD, List.getElem?_eq_getElem h2]
theorem metK_dd {α : Type} [BEq α] (ks : List α) (d : α) : metK (fun i => ks.getD i d) ks.length = dd ks := by
  unfold metK dd
  rw [range_getD]
abbrev setX (P : Program) (w : World) (q : Addr) (S : Key → Bool) (n : Nat) : HO := .ext fun h => h.SetOf (mixKind P w) q S n
section
variable {X : Cx}
theorem key_rel {k : Key} {v : Value} (r : RelV (kV k) v) : keyIs k v = true ∧ v.scannable = true := by
  cases k with
  | inl i =>
    obtain ⟨t, rfl⟩ := r
    exact ⟨keyIs_int i t, rfl⟩
  | inr x =>
    obtain ⟨t, rfl⟩ := r
    exact ⟨keyIs_str x t, rfl⟩
theorem call_set (hc : X.calm = true) : CallR X (.type "set") (fun xs H Q => ∃ (p : Addr) (ks : List Key), xs = [.ref p] ∧ SqL X.K H p (ks.map kV) ∧ ks.length < 4000 ∧
    ∀ q, H q = none → Q (.ref q) (upd H q (setX X.prog X.w q (fun k => (dd ks).any (· == k)) (dd ks).length))) := by
  intro pins s σ H xs us Q I r h
  obtain ⟨p, ks, rfl, hq, hlen, q⟩ := h
  obtain ⟨u, rfl, r1⟩ := vals1 r
  cases r1
  obtain ⟨its, rv, pl, hz⟩ := I.list hq
  have hl := rv.length
  rw [List.length_map] at hl
  refine set_of_list (mixKind X.prog X.w) (key := fun i => ks.getD i (.inl 0)) (I.ok.hd hc) pl.isList (fun i v hv => ?_) (by rw [List.size_toArray]; unfold scanBound; omega) fun h' tk f kk => ?_
  · have hv : its[i]? = some v := by simpa using hv
    have hi : i < its.length := (List.getElem?_eq_some_iff.mp hv).1
    obtain ⟨u, h1, h2⟩ := rv.get (i := i) (x := kV (ks[i]'(by omega))) (by rw [List.getElem?_map, List.getElem?_eq_getElem (by omega)]; rfl)
    rw [hv] at h1
    cases h1
    have e : ks.getD i (.inl 0) = ks[i]'(by omega) := by simp [List.getD, List.getElem?_eq_getElem (show i < ks.length by omega)]
    show (mixKind X.prog X.w).is (ks.getD i (.inl 0)) v = true ∧ _
    rw [e, mixKind_is]
    exact key_rel h2
  · have f : h'.SetOf (mixKind X.prog X.w) s.heap.objs.size (fun k => (dd ks).any (· == k)) (dd ks).length := by
      have f' : h'.SetOf (mixKind X.prog X.w) s.heap.objs.size (fun k => (metK (fun i => ks.getD i (.inl 0)) its.toArray.size).any (· == k)) (metK (fun i => ks.getD i (.inl 0)) its.toArray.size).length := f
      have ez : its.toArray.size = ks.length := by rw [List.size_toArray]; exact hl.symm
      rw [ez, metK_dd] at f'
      exact f'
    refine ⟨.ref s.heap.objs.size, _, I.laid (h' := h') (t' := tk) (o := setX X.prog X.w s.heap.objs.size (fun k => (dd ks).any (· == k)) (dd ks).length) kk (Nat.le_refl _) ⟨f, ?_, fun h1 h2 g k2 => ?_⟩, rfl, q _ (I.hok.fresh (Nat.le_refl _))⟩
    · obtain ⟨o, _, _, _, e, _⟩ := f
      exact ⟨o, e⟩
    · obtain ⟨o, es, ep, t, e, rest⟩ := g
      exact ⟨o, es, ep, t, k2 o e, rest⟩
theorem call_lenS : CallR X (.builtin "len") (fun xs H Q => ∃ (p : Addr) (S : Key → Bool) (n : Nat), xs = [.ref p] ∧ H p = some (setX X.prog X.w p S n) ∧ n ≤ 4096 ∧ Q (.int n) H) := by
  intro pins s σ H xs us Q I r h
  obtain ⟨p, S, n, rfl, hp, hn, q⟩ := h
  obtain ⟨u, rfl, r1⟩ := vals1 r
  cases r1
  obtain ⟨f, _, _⟩ := I.hok p _ hp
  obtain ⟨o, es, ep, t, e, ex, hd, _, _, _, hf, rfl⟩ := f
  exact call_len_set e ex hd hf (by omega) ⟨.int _, H, I.tok _, ⟨_, rfl⟩, q⟩
theorem call_setK (K : PySem.W.Frag) (hK : X.K = K) (hc : X.calm = true) {P : Program} {w : World} (hP : X.prog = P := by rfl) (hw : X.w = w := by rfl) : CallR X (.type "set") (fun xs H Q => ∃ (p : Addr) (ks : List Key), xs = [.ref p] ∧ SqL K H p (ks.map kV) ∧ ks.length < 4000 ∧
    ∀ q, H q = none → Q (.ref q) (upd H q (setX P w q (fun k => (dd ks).any (· == k)) (dd ks).length))) := by subst hK; subst hP; subst hw; exact call_set hc
theorem call_lenSK {P : Program} {w : World} (hP : X.prog = P := by rfl) (hw : X.w = w := by rfl) : CallR X (.builtin "len") (fun xs H Q => ∃ (p : Addr) (S : Key → Bool) (n : Nat), xs = [.ref p] ∧ H p = some (setX P w p S n) ∧ n ≤ 4096 ∧ Q (.int n) H) := by subst hP; subst hw; exact call_lenS
end
theorem dd_len_le {α : Type} [BEq α] : ∀ (ks : List α) (acc : List α), (ks.foldl step_dedup acc).length ≤ acc.length + ks.length
  | [], acc => Nat.le_refl _
  | k :: r, acc => by
    have := dd_len_le r (step_dedup acc k)
    have h2 : (step_dedup acc k).length ≤ acc.length + 1 := by
      unfold step_dedup
      split
      · exact Nat.le_succ _
      · rw [List.length_append]; exact Nat.le_refl _
    rw [List.foldl_cons, List.length_cons]
    omega
theorem dd_nodup {α : Type} [DecidableEq α] [BEq α] [LawfulBEq α] : ∀ (ks acc : List α), acc.Nodup → ((ks.foldl step_dedup acc).length = acc.length + ks.length ↔ (acc ++ ks).Nodup)
  | [], acc, h => by simp [h]
  | k :: r, acc, h => by
    rw [List.foldl_cons]
    by_cases e : acc.any (· == k) = true
    · have e2 : step_dedup acc k = acc := by unfold step_dedup; rw [if_pos e]
      have hm : k ∈ acc := by
        obtain ⟨x, hx, q⟩ := List.any_eq_true.mp e
        rw [← eq_of_beq q]
        exact hx
      rw [e2]
      constructor
      · intro q
        have := dd_len_le r acc
        rw [List.length_cons] at q
        omega
      · intro q
        rw [List.nodup_append] at q
        exact absurd rfl (q.2.2 k hm k (List.mem_cons_self))
    · have e2 : step_dedup acc k = acc ++ [k] := by unfold step_dedup; rw [if_neg e]
      have hm : k ∉ acc := fun hk => e (List.any_eq_true.mpr ⟨k, hk, beq_self_eq_true k⟩)
      rw [e2]
      have ih := dd_nodup r (acc ++ [k]) (by
        rw [List.nodup_append]
        exact ⟨h, by simp, fun a ha b hb q => hm (by rw [List.mem_singleton.mp hb] at q; exact q ▸ ha)⟩)
      rw [List.append_assoc] at ih
      rw [show acc ++ k :: r = acc ++ ([k] ++ r) by rfl, ← ih, List.length_append, List.length_cons, List.length_singleton]
      constructor <;> intro q <;> omega
theorem dd_len {α : Type} [DecidableEq α] [BEq α] [LawfulBEq α] (ks : List α) : (dd ks).length = ks.length ↔ ks.Nodup := by
  have := dd_nodup ks [] List.nodup_nil
  simp at this
  unfold dd
  exact this
end L2
namespace L2
open PySem
theorem tb_stand (t : SetTable) (n : Nat) : (t.orStandIn n).led = t.led ∧ (t.plain = false → (t.orStandIn n).plain = false) := by
  unfold SetTable.orStandIn
  split
  · exact ⟨rfl, id⟩
  · exact ⟨rfl, fun _ => rfl⟩
theorem tb_lay (t : SetTable) (es : Array (Int × Value)) (h : Int) (x : Value) : (layNew t es h x).2.1.led = t.led ∧ (t.plain = false → (layNew t es h x).2.1.plain = false) := by
  unfold layNew
  split
  · rename_i sl wd e
    exact tb_stand (t.put sl).1 _
  · exact ⟨rfl, fun _ => rfl⟩
theorem tb_relay (t : SetTable) (es : Array (Int × Value)) (n : Nat) : (relayAll t es n).2.1.led = t.led ∧ (t.plain = false → (relayAll t es n).2.1.plain = false) := by
  unfold relayAll
  split
  · rename_i t' od e
    have ht : t'.led = t.led ∧ t'.plain = t.plain := by
      unfold SetTable.relaid SetTable.laid at e
      cases hc : SetTable.layClean (SetTable.sizeAbove n - 1) (es.map (·.1)) with
      | none => rw [hc] at e; cases e
      | some ow => rw [hc] at e; cases e; exact ⟨rfl, rfl⟩
    dsimp only
    split
    · exact ⟨ht.1, fun h => ht.2.trans h⟩
    · exact ⟨rfl, fun _ => rfl⟩
  · exact ⟨rfl, fun _ => rfl⟩
theorem erase_perm {α : Type} {l : List α} {i : Nat} {x : α} (h : l[i]? = some x) : (x :: l.eraseIdx i).Perm l := by
  have hlt := (List.getElem?_eq_some_iff.mp h).1
  have hx := (List.getElem?_eq_some_iff.mp h).2
  have e : l = l.take i ++ x :: l.drop (i + 1) := by
    rw [← hx, List.getElem_cons_drop, List.take_append_drop]
  rw [List.eraseIdx_eq_take_drop_succ]
  refine List.Perm.trans ?_ (List.Perm.of_eq e.symm)
  exact List.perm_middle.symm
theorem pick_perm {α : Type} (next : Nat → Nat) (xs : Array α) : (pickOrder next xs).toList.Perm xs.toList := by
  have go : ∀ (fuel k : Nat) (left : List α) (out : Array α), left.length ≤ fuel → (pickOrder.go next fuel k left out).toList.Perm (out.toList ++ left) := by
    intro fuel
    induction fuel with
    | zero =>
      intro k left out h
      have : left = [] := List.length_eq_zero_iff.mp (by omega)
      subst this
      unfold pickOrder.go
      rw [List.append_nil]
    | succ fuel ih =>
      intro k left out h
      unfold pickOrder.go
      cases hl : left[next k % left.length]? with
      | none =>
        have hn : left = [] := by
          cases left with
          | nil => rfl
          | cons y ys =>
            have := List.getElem?_eq_none_iff.mp hl
            have := Nat.mod_lt (next k) (show 0 < (y :: ys).length from Nat.succ_pos _)
            omega
        subst hn
        rw [List.append_nil]
      | some x =>
        have hlt := (List.getElem?_eq_some_iff.mp hl).1
        have hx := (List.getElem?_eq_some_iff.mp hl).2
        dsimp only
        refine (ih _ _ _ (by rw [List.length_eraseIdx]; split <;> omega)).trans ?_
        rw [Array.toList_push, List.append_assoc]
        refine List.Perm.append_left _ ?_
        show (x :: left.eraseIdx (next k % left.length)).Perm left
        exact erase_perm hl
  have := go xs.size 0 xs.toList #[] (by simp)
  unfold pickOrder
  simpa using this
end L2
namespace L2
open PySem
theorem si_next : Slot "set_iterator" "__next__" "set_iterator.__next__" :=
  .of (owner := "set_iterator") (n := "__next__") (by rw [typeLookup_type, builtinLookup_eq_fast]; kernel_rfl) (by decide +kernel) (by decide +kernel) (by decide +kernel) (by first | exact .inl (by decide +kernel) | exact .inr (by decide +kernel)) (by rw [isSubtype_type]; kernel_rfl)
theorem si_iter : Slot "set_iterator" "__iter__" "set_iterator.__iter__" :=
  .of (owner := "set_iterator") (n := "__iter__") (by rw [typeLookup_type, builtinLookup_eq_fast]; kernel_rfl) (by decide +kernel) (by decide +kernel) (by decide +kernel) (by first | exact .inl (by decide +kernel) | exact .inr (by decide +kernel)) (by rw [isSubtype_type]; kernel_rfl)
theorem si_owner : Manifest.owners.lookup (String.ofList ['r', 'o', 't', 'a', 'r', 'e', 't', 'i', '_', 't', 'e', 's'].reverse) = some Manifest.sig_set_iterator := by kernel_rfl
theorem si_args_next (a : Value) : argsOk "set_iterator.__next__" ⟨[a], []⟩ := by
  unfold argsOk; rw [signature?_of (id := "set_iterator.__next__") (n := ['_', '_', 't', 'x', 'e', 'n', '_', '_']) (o := ['r', 'o', 't', 'a', 'r', 'e', 't', 'i', '_', 't', 'e', 's']) (by kernel_rfl) si_owner]; kernel_rfl
theorem si_args_iter (a : Value) : argsOk "set_iterator.__iter__" ⟨[a], []⟩ := by
  unfold argsOk; rw [signature?_of (id := "set_iterator.__iter__") (n := ['_', '_', 'r', 'e', 't', 'i', '_', '_']) (o := ['r', 'o', 't', 'a', 'r', 'e', 't', 'i', '_', 't', 'e', 's']) (by kernel_rfl) si_owner]; kernel_rfl
theorem si_entry_next : entryFor table "set_iterator.__next__" = some Builtin.«set_iterator.__next__» := entryFor_of_tree (by kernel_rfl)
theorem si_entry_iter : entryFor table "set_iterator.__iter__" = some Builtin.«dict_keyiterator.__iter__» := entryFor_alias (id' := "dict_keyiterator.__iter__") (by kernel_rfl) rfl (by decide +kernel) (by kernel_rfl)
theorem set_entry_iter : entryFor table "set.__iter__" = some Builtin.«frozenset.__iter__» := entryFor_alias (id' := "frozenset.__iter__") (by kernel_rfl) rfl (by decide +kernel) (by kernel_rfl)
abbrev itObj (first : Value) (i : Nat) (a : Addr) (n ep : Nat) : Obj := { cls := .type "set_iterator", dict := none, data := .fields #[first, .int i 0, .ref a, .int n 0, .int ep 0], slots := #[] }
abbrev tpObj (vs : List Value) : Obj := { cls := .type "tuple", dict := none, data := .seq vs.toArray }
structure SetIs (h : Heap) (a : Addr) (es : Array (Int × Value)) (ep : Nat) (t : SetTable) : Prop where
  ob : ∃ o, h.get? a = some o ∧ o.cls = .type "set" ∧ o.data = .set es ep t
  fits : t.fits es.size = true
theorem SetIs.keep {h h' : Heap} {a : Addr} {es : Array (Int × Value)} {ep : Nat} {t : SetTable} (x : SetIs h a es ep t) (k : ∀ o, h.get? a = some o → h'.get? a = some o) : SetIs h' a es ep t :=
  ⟨let ⟨o, e, r⟩ := x.ob; ⟨o, k o e, r⟩, x.fits⟩
theorem SetIs.ty {s : Shared} {a : Addr} {es : Array (Int × Value)} {ep : Nat} {t : SetTable} (x : SetIs s.heap a es ep t) : s.TypeIs (.ref a) "set" :=
  let ⟨o, e, c, _⟩ := x.ob; ⟨o, e, c⟩
section
variable {prog : Program} {w : World} {A : Around} {E : Value → Shared → Prop} {s : Shared}
theorem draw_order {α : Type} : ∀ (n : Nat) (xs : List α) (s : Shared) (Q : List α → Shared → Prop), xs.length ≤ n → (∀ ys d', ys.Perm xs → Q ys { s with drawn := d' }) → wpAny (model prog w) A (drawOrder n xs) Q E s
  | 0, xs, s, Q, hl, h => by
    have : xs = [] := List.length_eq_zero_iff.mp (by omega)
    subst this
    unfold drawOrder
    exact wpAny_pure (h [] s.drawn (List.Perm.refl _))
  | n + 1, [], s, Q, hl, h => by
    unfold drawOrder
    exact wpAny_pure (h [] s.drawn (List.Perm.refl _))
  | n + 1, x :: r, s, Q, hl, h => by
    unfold drawOrder
    refine wpAny_bind (m := choose .order (x :: r).length) (fun Γ p hΓ => ?_)
    unfold choose
    rw [Sem.wp_choose]
    refine ⟨Nat.succ_ne_zero _, ?_⟩
    have hi : w.draws .order (s.drawn.get .order) % (x :: r).length < (x :: r).length := Nat.mod_lt _ (Nat.succ_pos _)
    have key : wpAny (model prog w) A (match (x :: r)[w.draws .order (s.drawn.get .order) % (x :: r).length]? with
      | some y => do return y :: (← drawOrder n ((x :: r).eraseIdx (w.draws .order (s.drawn.get .order) % (x :: r).length)))
      | none => unsupported "internal:drawOrder") Q E { s with drawn := s.drawn.bump .order } := by
      generalize w.draws .order (s.drawn.get .order) % (x :: r).length = i at hi ⊢
      rw [List.getElem?_eq_getElem hi]
      refine wpAny_bind (draw_order n _ _ _ (by rw [List.length_eraseIdx, if_pos hi]; omega) fun ys d' hp => ?_)
      exact wpAny_pure (h _ _ ((List.Perm.cons _ hp).trans (erase_perm (List.getElem?_eq_getElem hi))))
    exact key
set_option maxHeartbeats 4000000 in
theorem iter_set {a : Addr} {es : Array (Int × Value)} {ep : Nat} {t : SetTable} {Q : Value → Shared → Prop} (hs : SetIs s.heap a es ep t) (hn : es.size ≤ sizeLine)
    (h1 : (!w.params.followText "set-order" && (!t.plain && decide (es.size > 1))) = false → Q (.ref s.heap.objs.size) { s with heap := s.heap.push (itObj (.int 0 0) 0 a es.size ep) })
    (h2 : (!w.params.followText "set-order" && (!t.plain && decide (es.size > 1))) = true → ∀ (ys : List Nat) (d' : Drawn), ys.Perm (List.range es.size) →
      Q (.ref (s.heap.objs.size + 1)) { s with heap := (s.heap.push (tpObj (ys.map fun (i : Nat) => Value.int (i : Int) 0))).push (itObj (.ref s.heap.objs.size) 0 a es.size ep), drawn := d' }) :
    wpAny (model prog w) A (pyIter (.ref a)) Q E s := by
  obtain ⟨o, ho, hc, hd⟩ := hs.ob
  have hf := hs.fits
  refine wpAny_pyIter_slot hs.ty F.slot_set_iter (wpAny_call_entry F.slot_set_iter hs.ty set_entry_iter ?_ (F.args_set_iter_1 _))
  unfold Builtin.«frozenset.__iter__»
  refine wpAny_bind (m := Builtin.Frozenset.slot0 "__iter__" _) (wpAny_bind (m := slotArgs "__iter__" 0 _) (wpAny_pure (wpAny_pure ?_)))
  refine wpAny_bind (m := Builtin.Frozenset.sizeOf a) (wpAny_bind (wpAny_setEntries_of ho hd hf (wpAny_pure ?_)))
  refine wpAny_bind (m := setDrawn a) (wpAny_bind (wpAny_setState_of ho hd hf (wpAny_bind (wpAny_bind (wpAny_askSetting (wpAny_pure ?_)))))) 
  refine wpAny_pure ?_
  dsimp only
  show wpAny _ _ (if (!w.params.followText "set-order" && (!t.plain && decide (es.size > 1))) = true then _ else _) _ _ s
  cases hc : (!w.params.followText "set-order" && (!t.plain && decide (es.size > 1))) with
  | false =>
    rw [if_neg Bool.false_ne_true]
    refine wpAny_bind (wpAny_pure ?_)
    refine wpAny_bind (wpAny_setEpoch_of ho hd hf ?_)
    refine wpAny_bind (wpAny_newObj_type (wpAny_pure ⟨_, rfl, "set_iterator", _, ⟨_, Heap.get?_push_size _ rfl, rfl⟩, si_next.lookup, ?_⟩))
    exact h1 hc
  | true =>
    rw [if_pos rfl]
    refine wpAny_bind (draw_order es.size (List.range es.size) s _ (by rw [List.length_range]; exact Nat.le_refl _) fun ys d' hp => ?_)
    have hl : ys.length = es.size := by rw [hp.length_eq, List.length_range]
    refine wpAny_bind (wpAny_newObj_type ?_ (by show (ys.map fun (i : Nat) => rawInt i).toArray.size ≤ sizeLine; rw [List.size_toArray, List.length_map, hl]; exact hn))
    have ho2 : (s.heap.push (tpObj (ys.map fun (i : Nat) => Value.int (i : Int) 0))).get? a = some o := Heap.get?_push_of_some _ ho
    refine wpAny_bind (wpAny_setEpoch_of (s := { s with heap := s.heap.push (tpObj (ys.map fun (i : Nat) => Value.int (i : Int) 0)), drawn := d' }) ho2 hd hf ?_)
    refine wpAny_bind (wpAny_newObj_type (wpAny_pure ⟨_, rfl, "set_iterator", _, ⟨_, Heap.get?_push_size _ rfl, rfl⟩, si_next.lookup, ?_⟩))
    have := h2 hc ys d' hp
    rw [show s.heap.objs.size + 1 = (s.heap.push (tpObj (ys.map fun (i : Nat) => Value.int (i : Int) 0))).objs.size from (Heap.size_push ..).symm] at this
    exact this
theorem next_slot {I a : Addr} {es : Array (Int × Value)} {ep i slot nx : Nat} {t : SetTable} {x : Value} {Q : Option Value → Shared → Prop} (hI : s.heap.get? I = some (itObj (.int slot 0) i a es.size ep)) (hs : SetIs s.heap a es ep t)
    (hn : ∀ (A : Around) (Q' : Option (Value × Nat) → Shared → Prop) (E : Value → Shared → Prop), Q' (some (x, nx)) s → wpAny (model prog w) A (setNext a slot i ep) Q' E s)
    (hQ : ∀ h', h'.get? I = some (itObj (.int nx 0) (i + 1) a es.size ep) → Heap.SameBut I s.heap h' → Q (some x) { s with heap := h' }) : wpAny (model prog w) A (pyNext (.ref I)) Q E s := by
  obtain ⟨o, ho, hc, hd⟩ := hs.ob
  have ty : s.TypeIs (.ref I) "set_iterator" := ⟨_, hI, rfl⟩
  unfold pyNext
  refine wpAny_bind (wpAny_attempt (wpAny_callSpecial?_slot (name := Str.ofString "__next__") ty si_next (wpAny_call_entry si_next ty si_entry_next ?_ (si_args_next _))))
  unfold Builtin.«set_iterator.__next__»
  refine wpAny_bind (m := slotArgs "__next__" 0 _) (wpAny_pure ?_)
  refine wpAny_bind (wpAny_fieldsOf hI rfl ?_)
  show wpAny _ _ (setEntries a >>= _) _ _ s
  refine wpAny_bind (wpAny_setEntries_of ho hd hs.fits ?_)
  rw [if_neg (by simp)]
  refine wpAny_bind (m := setNext a slot i ep) (hn _ _ _ ?_)
  refine wpAny_bind (wpAny_setField_rec hI (by simp) fun h1 g1 b1 => ?_)
  refine wpAny_bind (wpAny_setField_rec (s := { s with heap := h1 }) g1 (by simp) fun h2 g2 b2 => ?_)
  refine wpAny_pure ⟨_, rfl, wpAny_pure (hQ h2 ?_ (b1.trans b2))⟩
  rw [g2]
  rfl
theorem next_drawn {I T a : Addr} {es : Array (Int × Value)} {ep i : Nat} {ys : List Nat} {j : Nat} {t : SetTable} {x : Int × Value} {Q : Option Value → Shared → Prop} (hI : s.heap.get? I = some (itObj (.ref T) i a es.size ep)) (hs : SetIs s.heap a es ep t)
    (hT : s.heap.get? T = some (tpObj (ys.map fun (i : Nat) => Value.int (i : Int) 0))) (hj : ys[i]? = some j) (hx : es[j]? = some x)
    (hQ : ∀ h', h'.get? I = some (itObj (.ref T) (i + 1) a es.size ep) → Heap.SameBut I s.heap h' → Q (some x.2) { s with heap := h' }) : wpAny (model prog w) A (pyNext (.ref I)) Q E s := by
  obtain ⟨o, ho, hc, hd⟩ := hs.ob
  have ty : s.TypeIs (.ref I) "set_iterator" := ⟨_, hI, rfl⟩
  unfold pyNext
  refine wpAny_bind (wpAny_attempt (wpAny_callSpecial?_slot (name := Str.ofString "__next__") ty si_next (wpAny_call_entry si_next ty si_entry_next ?_ (si_args_next _))))
  unfold Builtin.«set_iterator.__next__»
  refine wpAny_bind (m := slotArgs "__next__" 0 _) (wpAny_pure ?_)
  refine wpAny_bind (wpAny_fieldsOf hI rfl ?_)
  show wpAny _ _ (setEntries a >>= _) _ _ s
  refine wpAny_bind (wpAny_setEntries_of ho hd hs.fits ?_)
  rw [if_neg (by simp)]
  show wpAny _ _ (seqItems? (.ref T) >>= _) _ _ s
  refine wpAny_bind (wpAny_seqItems hT rfl ?_)
  have hj' : (ys.map fun (i : Nat) => Value.int (i : Int) 0).toArray[(i : Int).toNat]? = some (.int (j : Nat) 0) := by
    rw [List.getElem?_toArray, List.getElem?_map, Int.toNat_natCast, hj]; rfl
  show wpAny _ _ (match (ys.map fun (i : Nat) => Value.int (i : Int) 0).toArray[(i : Int).toNat]? with | some (.int place _) => _ | some _ => _ | none => _) _ _ s
  rw [hj']
  refine wpAny_bind (m := setNextDrawn a j ep) ?_
  unfold setNextDrawn
  refine wpAny_bind (wpAny_setState_of ho hd hs.fits ?_)
  dsimp only
  rw [if_neg (by simp)]
  rw [hx]
  refine wpAny_pure ?_
  refine wpAny_bind (wpAny_setField_rec hI (by simp) fun h1 g1 b1 => ?_)
  refine wpAny_pure ⟨_, rfl, wpAny_pure (hQ h1 ?_ b1)⟩
  rw [g1]
  rfl
end
end L2
namespace L2
open PySem
def Rises (xs : Array Nat) : Prop := ∀ i j : Nat, i < j → j < xs.size → xs.getD i 0 < xs.getD j 0
theorem getD_any {xs : Array Nat} {i : Nat} (h : i < xs.size) (d : Nat) : xs.getD i d = xs.getD i 0 := by
  simp [Array.getD, h]
theorem Rises.le {xs : Array Nat} (r : Rises xs) {i j : Nat} (h : i ≤ j) (hj : j < xs.size) : xs.getD i 0 ≤ xs.getD j 0 := by
  rcases Nat.lt_or_ge i j with q | q
  · exact Nat.le_of_lt (r i j q hj)
  · have : i = j := by omega
    rw [this]; exact Nat.le_refl _
theorem below_go {xs : Array Nat} (r : Rises xs) (j : Nat) : ∀ (fuel lo hi : Nat), hi - lo ≤ fuel → lo ≤ hi → hi ≤ xs.size → (∀ k, k < lo → xs.getD k 0 < j) → (∀ k, hi ≤ k → k < xs.size → ¬ xs.getD k 0 < j) →
    SetTable.below.go xs j fuel lo hi ≤ xs.size ∧ (∀ k, k < SetTable.below.go xs j fuel lo hi → xs.getD k 0 < j) ∧ (∀ k, SetTable.below.go xs j fuel lo hi ≤ k → k < xs.size → ¬ xs.getD k 0 < j)
  | 0, lo, hi, hf, hl, hs, h1, h2 => by
    unfold SetTable.below.go
    have : lo = hi := by omega
    subst this
    exact ⟨hs, h1, h2⟩
  | fuel + 1, lo, hi, hf, hl, hs, h1, h2 => by
    unfold SetTable.below.go
    by_cases hlt : lo < hi
    · rw [if_pos hlt]
      have hm : (lo + hi) / 2 < xs.size := by omega
      dsimp only
      rw [getD_any hm j]
      by_cases hx : xs.getD ((lo + hi) / 2) 0 < j
      · rw [if_pos hx]
        exact below_go r j fuel _ _ (by omega) (by omega) hs (fun k hk => Nat.lt_of_le_of_lt (r.le (by omega) hm) hx) h2
      · rw [if_neg hx]
        exact below_go r j fuel _ _ (by omega) (by omega) (by omega) h1 (fun k hk hk2 q => hx (Nat.lt_of_le_of_lt (r.le hk hk2) q))
    · rw [if_neg hlt]
      have : lo = hi := by omega
      subst this
      exact ⟨hs, h1, h2⟩
theorem below_all {xs : Array Nat} (r : Rises xs) (j : Nat) : SetTable.below xs j ≤ xs.size ∧ (∀ k, k < SetTable.below xs j → xs.getD k 0 < j) ∧ (∀ k, SetTable.below xs j ≤ k → k < xs.size → ¬ xs.getD k 0 < j) :=
  below_go r j xs.size 0 xs.size (by omega) (Nat.zero_le _) (Nat.le_refl _) (fun k hk => absurd hk (Nat.not_lt_zero _)) (fun k h1 h2 => absurd h2 (by omega))
def slotOf (xs : Array Nat) : Nat → Nat
  | 0 => 0
  | i + 1 => xs.getD i 0 + 1
theorem below_slot {xs : Array Nat} (r : Rises xs) : ∀ {i : Nat}, i ≤ xs.size → SetTable.below xs (slotOf xs i) = i
  | 0, _ => by
    obtain ⟨h1, h2, h3⟩ := below_all r 0
    rcases Nat.eq_zero_or_pos (SetTable.below xs 0) with q | q
    · exact q
    · exact absurd (h2 0 q) (Nat.not_lt_zero _)
  | i + 1, hi => by
    obtain ⟨h1, h2, h3⟩ := below_all r (xs.getD i 0 + 1)
    show SetTable.below xs (xs.getD i 0 + 1) = i + 1
    rcases Nat.lt_trichotomy (SetTable.below xs (xs.getD i 0 + 1)) (i + 1) with q | q | q
    · exact absurd (Nat.lt_succ_self _) (h3 i (by omega) (by omega))
    · exact q
    · have := h2 (i + 1) q
      have := r i (i + 1) (Nat.lt_succ_self _) (by omega)
      omega
theorem Rises.few {xs : Array Nat} (h : xs.size ≤ 1) : Rises xs := fun i j h1 h2 => by omega
section
variable {prog : Program} {w : World} {A : Around} {E : Value → Shared → Prop} {s : Shared}
theorem setNext_text {a : Addr} {es : Array (Int × Value)} {ep slot i : Nat} {t : SetTable} {Q : Option (Value × Nat) → Shared → Prop} (hs : SetIs s.heap a es ep t) (ht : w.params.followText "set-order" = true)
    (h : Q (((pickOrder (w.params.setOrder a ep) es)[i]?).map fun e => (e.2, slot)) s) : wpAny (model prog w) A (setNext a slot i ep) Q E s := by
  obtain ⟨o, ho, hc, hd⟩ := hs.ob
  unfold setNext
  refine wpAny_bind (wpAny_setState_of ho hd hs.fits ?_)
  dsimp only
  refine wpAny_bind (m := setsByText) (wpAny_bind (wpAny_askSetting (wpAny_pure ?_)))
  show wpAny _ _ (if (w.params.followText "set-order") = true then _ else _) _ _ s
  rw [if_pos ht, if_neg (by simp)]
  refine wpAny_bind (m := setWalk a) ?_
  unfold setWalk
  refine wpAny_bind (wpAny_setState_of ho hd hs.fits ?_)
  dsimp only
  refine wpAny_bind (m := setsByText) (wpAny_bind (wpAny_askSetting (wpAny_pure ?_)))
  show wpAny _ _ (if (w.params.followText "set-order") = true then _ else _) _ _ s
  rw [if_pos ht]
  refine wpAny_bind (wpAny_askSetting (wpAny_pure ?_))
  exact wpAny_pure h
theorem setNext_slot {a : Addr} {es : Array (Int × Value)} {ep slot i : Nat} {t : SetTable} {Q : Option (Value × Nat) → Shared → Prop} (hs : SetIs s.heap a es ep t) (ht : w.params.followText "set-order" = false)
    (hp : (!t.plain && decide (es.size > 1)) = false) (hl : t.led = true)
    (h : Q (match es[SetTable.below t.place slot]?, t.place[SetTable.below t.place slot]? with | some (_, x), some j => some (x, j + 1) | _, _ => none) s) : wpAny (model prog w) A (setNext a slot i ep) Q E s := by
  obtain ⟨o, ho, hc, hd⟩ := hs.ob
  unfold setNext
  refine wpAny_bind (wpAny_setState_of ho hd hs.fits ?_)
  dsimp only
  refine wpAny_bind (m := setsByText) (wpAny_bind (wpAny_askSetting (wpAny_pure ?_)))
  show wpAny _ _ (if (w.params.followText "set-order") = true then _ else _) _ _ s
  rw [if_neg (by rw [ht]; exact Bool.false_ne_true)]
  show wpAny _ _ (if (!t.plain && decide (es.size > 1)) = true then _ else _) _ _ s
  rw [if_neg (by rw [hp]; exact Bool.false_ne_true)]
  refine wpAny_bind ?_
  show wpAny _ _ (if (!t.led && !es.isEmpty) = true then _ else _) _ _ s
  rw [if_neg (by rw [hl]; simp)]
  exact wpAny_pure (wpAny_pure h)
theorem next_end {I a : Addr} {es : Array (Int × Value)} {ep i : Nat} {first : Value} {t : SetTable} {Q : Option Value → Shared → Prop} (hh : A.handled = none) (hI : s.heap.get? I = some (itObj first i a es.size ep)) (hs : SetIs s.heap a es ep t)
    (hn : (∃ slot : Nat, first = .int slot 0 ∧ ∀ (A : Around) (Q' : Option (Value × Nat) → Shared → Prop) (E : Value → Shared → Prop), Q' none s → wpAny (model prog w) A (setNext a slot i ep) Q' E s) ∨
      ∃ (T : Addr) (ys : List Nat), first = .ref T ∧ s.heap.get? T = some (tpObj (ys.map fun (i : Nat) => Value.int (i : Int) 0)) ∧ ys[i]? = none)
    (hQ : ∀ h', (∀ b o, b ≠ I → s.heap.get? b = some o → h'.get? b = some o) → Q none { s with heap := h' }) : wpAny (model prog w) A (pyNext (.ref I)) Q E s := by
  obtain ⟨o, ho, hc, hd⟩ := hs.ob
  have ty : s.TypeIs (.ref I) "set_iterator" := ⟨_, hI, rfl⟩
  have fin : ∀ (R : Fin → Shared → Prop) (h1 : Heap), (∀ b o, b ≠ I → s.heap.get? b = some o → h1.get? b = some o) → wpAny (model prog w) A.in1 (newExc (.type "StopIteration") [] >>= fun e => raiseNew e : Sem Fin) R (fun e s' => wpAny (model prog w) A (do if ← isInstance e (.type "StopIteration") then pure none else throw e) Q E s') { s with heap := h1 } := by
    intro R h1 k1
    refine wpAny_bind ?_
    simp only [newExc, newTuple]
    refine wpAny_bind (wpAny_newObj_type ?_ (by size_fits))
    refine wpAny_bind (m := firstArgMember _ _) (wpAny_of_eq (a := Value.none) (by first | rfl | (simp only [firstArgMember]; rfl)) ?_)
    refine wpAny_newObj_type ?_ (by size_fits)
    simp only [raiseNew]
    refine wpAny_bind (wpAny_handled ?_)
    rw [show A.in1.handled = none from hh]
    refine wpAny_bind (wpAny_pure (wpAny_throw ?_))
    refine wpAny_bind (wpAny_isInstance (T := "StopIteration") (b := true) ⟨_, Heap.get?_push_size _ rfl, rfl⟩ isSubtype_stop ?_)
    exact wpAny_pure (hQ _ fun b o hb e => Heap.get?_push_of_some _ (Heap.get?_push_of_some _ (k1 b o hb e)))
  unfold pyNext
  refine wpAny_bind (wpAny_attempt (wpAny_callSpecial?_slot (name := Str.ofString "__next__") ty si_next (wpAny_call_entry si_next ty si_entry_next ?_ (si_args_next _))))
  unfold Builtin.«set_iterator.__next__»
  refine wpAny_bind (m := slotArgs "__next__" 0 _) (wpAny_pure ?_)
  refine wpAny_bind (wpAny_fieldsOf hI rfl ?_)
  show wpAny _ _ (setEntries a >>= _) _ _ s
  refine wpAny_bind (wpAny_setEntries_of ho hd hs.fits ?_)
  rw [if_neg (by simp)]
  rcases hn with ⟨slot, rfl, hn⟩ | ⟨T, ys, rfl, hT, hj⟩
  · refine wpAny_bind (m := setNext a slot i ep) (hn _ _ _ ?_)
    refine wpAny_bind (wpAny_setField_rec hI (by simp) fun h1 g1 b1 => ?_)
    exact fin _ h1 fun b o hb e => (b1.2 b hb).trans e
  · show wpAny _ _ (seqItems? (.ref T) >>= _) _ _ s
    refine wpAny_bind (wpAny_seqItems hT rfl ?_)
    have hj' : (ys.map fun (i : Nat) => Value.int (i : Int) 0).toArray[(i : Int).toNat]? = none := by
      rw [List.getElem?_toArray, List.getElem?_map, Int.toNat_natCast, hj]; rfl
    show wpAny _ _ (match (ys.map fun (i : Nat) => Value.int (i : Int) 0).toArray[(i : Int).toNat]? with | some (.int place _) => _ | some _ => _ | none => _) _ _ s
    rw [hj']
    refine wpAny_bind (wpAny_setField_rec hI (by simp) fun h1 g1 b1 => ?_)
    refine wpAny_bind (wpAny_setField_rec (s := { s with heap := h1 }) g1 (by simp) fun h2 g2 b2 => ?_)
    exact fin _ h2 fun b o hb e => (b2.2 b hb).trans ((b1.2 b hb).trans e)
theorem walk_set {a : Addr} {es : Array (Int × Value)} {ep : Nat} {t : SetTable} {Q : Value → Shared → Prop} (hh : A.handled = none) (hs : SetIs s.heap a es ep t) (hn : es.size ≤ sizeLine)
    (hl : w.params.followText "set-order" = false → t.led = true) (hr : t.plain = true → Rises t.place)
    (h : ∀ (I : Addr) (h' : Heap) (d' : Drawn) (ord : List (Int × Value)) (fp : List Addr) (St : Nat → Heap → Prop), ord.Perm es.toList → (∀ b o, s.heap.get? b = some o → h'.get? b = some o) → s.heap.objs.size ≤ I → I < h'.objs.size →
      (∀ b ∈ fp, b = a ∨ s.heap.objs.size ≤ b) → Walks prog w A I fp [I] es.size (fun i v => ∃ x, ord[i]? = some x ∧ v = x.2) St → St 0 h' → Q (.ref I) { s with heap := h', drawn := d' }) :
    wpAny (model prog w) A (pyIter (.ref a)) Q E s := by
  have ha : a < s.heap.objs.size := let ⟨o, e, _⟩ := hs.ob; Heap.lt_size e
  have psz : t.place.size = es.size := by
    have := hs.fits
    unfold SetTable.fits at this
    simp only [Bool.and_eq_true, beq_iff_eq] at this
    exact this.1
  refine iter_set hs hn (fun hc => ?_) (fun hc ys d' hp => ?_)
  · -- by slots
    have hk : ∀ b o, s.heap.get? b = some o → (s.heap.push (itObj (.int 0 0) 0 a es.size ep)).get? b = some o := fun b o e => Heap.get?_push_of_some _ e
    have hg : (s.heap.push (itObj (.int 0 0) 0 a es.size ep)).get? s.heap.objs.size = some (itObj (.int 0 0) 0 a es.size ep) := Heap.get?_push_size _ rfl
    have hsz : s.heap.objs.size < (s.heap.push (itObj (.int 0 0) 0 a es.size ep)).objs.size := by rw [Heap.size_push]; exact Nat.lt_succ_self _
    have hne : a ≠ s.heap.objs.size := Nat.ne_of_lt ha
    have common : ∀ (first : Nat → Nat) (ord : List (Int × Value)), first 0 = 0 → ord.Perm es.toList →
        (∀ (i : Nat) (s1 : Shared) (x : Int × Value), ord[i]? = some x → SetIs s1.heap a es ep t → ∀ (A : Around) (Q' : Option (Value × Nat) → Shared → Prop) (E : Value → Shared → Prop), Q' (some (x.2, first (i + 1))) s1 → wpAny (model prog w) A (setNext a (first i) i ep) Q' E s1) →
        (∀ (s1 : Shared), SetIs s1.heap a es ep t → ∀ (A : Around) (Q' : Option (Value × Nat) → Shared → Prop) (E : Value → Shared → Prop), Q' none s1 → wpAny (model prog w) A (setNext a (first es.size) es.size ep) Q' E s1) →
        Q (.ref s.heap.objs.size) { s with heap := s.heap.push (itObj (.int 0 0) 0 a es.size ep) } := by
      intro first ord f0 hp hi hd
      have hol : ord.length = es.size := by rw [hp.length_eq, Array.length_toList]
      refine h s.heap.objs.size _ s.drawn ord [s.heap.objs.size, a] (fun i h' => h'.get? s.heap.objs.size = some (itObj (.int (first i) 0) i a es.size ep) ∧ SetIs h' a es ep t) hp hk (Nat.le_refl _) hsz ?_ ?_ ?_
      · intro b hb
        simp only [List.mem_cons, List.not_mem_nil, or_false] at hb
        rcases hb with rfl | rfl
        · exact .inr (Nat.le_refl _)
        · exact .inl rfl
      · refine { sub := fun b hb => ?_, frame := fun i h1 h2 st k => ?_, item := fun i s1 Q1 E1 hi1 st q => ?_, done := fun s1 Q1 E1 st q => ?_, self := fun i s1 Q1 E1 st q => ?_ }
        · rw [List.mem_singleton.mp hb]; exact List.mem_cons_self
        · exact ⟨k _ List.mem_cons_self _ st.1, st.2.keep fun o e => k _ (List.mem_cons_of_mem _ List.mem_cons_self) _ e⟩
        · obtain ⟨x, hx⟩ : ∃ x, ord[i]? = some x := ⟨ord[i]'(by omega), List.getElem?_eq_getElem (by omega)⟩
          refine next_slot (nx := first (i + 1)) st.1 st.2 (hi i s1 x hx st.2) fun h2 g2 b2 => ?_
          exact q x.2 h2 s1.toks ⟨x, hx, rfl⟩ ⟨g2, st.2.keep fun o e => (b2.2 _ hne).trans e⟩ fun b o hb e => (b2.2 b fun z => hb (by rw [z]; exact List.mem_singleton.mpr rfl)).trans e
        · refine next_end hh st.1 st.2 (.inl ⟨_, rfl, hd s1 st.2⟩) fun h2 k2 => ?_
          exact q h2 s1.toks fun b o hb e => k2 b o (fun z => hb (by rw [z]; exact List.mem_singleton.mpr rfl)) e
        · have ty : s1.TypeIs (.ref s.heap.objs.size) "set_iterator" := ⟨_, st.1, rfl⟩
          refine wpAny_pyIter_slot ty si_iter (wpAny_call_entry si_iter ty si_entry_iter ?_ (si_args_iter _))
          exact wpAny_pure ⟨_, rfl, "set_iterator", _, ty, si_next.lookup, q⟩
      · rw [f0]
        exact ⟨hg, hs.keep fun o e => hk _ _ e⟩
    cases ht : w.params.followText "set-order" with
    | true =>
      have hol : (pickOrder (w.params.setOrder a ep) es).toList.length = es.size := by rw [(pick_perm _ _).length_eq, Array.length_toList]
      refine common (fun _ => 0) (pickOrder (w.params.setOrder a ep) es).toList rfl (pick_perm _ _) (fun i s1 x hx hs1 A Q' E q => ?_) (fun s1 hs1 A Q' E q => ?_)
      · refine setNext_text hs1 ht ?_
        have hx : (pickOrder (w.params.setOrder a ep) es)[i]? = some x := by rw [← Array.getElem?_toList]; exact hx
        rw [hx]
        exact q
      · refine setNext_text hs1 ht ?_
        have hx : (pickOrder (w.params.setOrder a ep) es)[es.size]? = none := by rw [← Array.getElem?_toList]; exact List.getElem?_eq_none_iff.mpr (by omega)
        rw [hx]
        exact q
    | false =>
      have hc' : (!t.plain && decide (es.size > 1)) = false := by rw [ht] at hc; simpa using hc
      have rs : Rises t.place := by
        cases hpl : t.plain with
        | true => exact hr hpl
        | false =>
          rw [hpl] at hc'
          refine Rises.few ?_
          rw [psz]
          simpa using hc'
      refine common (slotOf t.place) es.toList rfl (List.Perm.refl _) (fun i s1 x hx hs1 A Q' E q => ?_) (fun s1 hs1 A Q' E q => ?_)
      · have hx : es[i]? = some x := by rw [← Array.getElem?_toList]; exact hx
        have hi : i < es.size := (Array.getElem?_eq_some_iff.mp hx).1
        refine setNext_slot hs1 ht hc' (hl ht) ?_
        rw [below_slot rs (by omega), hx]
        have hpl : t.place[i]? = some (t.place.getD i 0) := by
          rw [Array.getElem?_eq_getElem (by omega)]
          simp [Array.getD, show i < t.place.size by omega]
        rw [hpl]
        exact q
      · refine setNext_slot hs1 ht hc' (hl ht) ?_
        rw [below_slot rs (by omega)]
        rw [show es[es.size]? = none from Array.getElem?_eq_none (Nat.le_refl _)]
        exact q
  · -- drawn
    have hT0 : (s.heap.push (tpObj (ys.map fun (i : Nat) => Value.int (i : Int) 0))).get? s.heap.objs.size = some (tpObj (ys.map fun (i : Nat) => Value.int (i : Int) 0)) := Heap.get?_push_size _ rfl
    have hz : (s.heap.push (tpObj (ys.map fun (i : Nat) => Value.int (i : Int) 0))).objs.size = s.heap.objs.size + 1 := Heap.size_push ..
    have hk : ∀ b o, s.heap.get? b = some o → ((s.heap.push (tpObj (ys.map fun (i : Nat) => Value.int (i : Int) 0))).push (itObj (.ref s.heap.objs.size) 0 a es.size ep)).get? b = some o := fun b o e => Heap.get?_push_of_some _ (Heap.get?_push_of_some _ e)
    have hg : ((s.heap.push (tpObj (ys.map fun (i : Nat) => Value.int (i : Int) 0))).push (itObj (.ref s.heap.objs.size) 0 a es.size ep)).get? (s.heap.objs.size + 1) = some (itObj (.ref s.heap.objs.size) 0 a es.size ep) := by
      rw [← hz]; exact Heap.get?_push_size _ rfl
    have hyl : ys.length = es.size := by rw [hp.length_eq, List.length_range]
    have hys : ∀ (i j : Nat), ys[i]? = some j → j < es.size := fun i j q => by
      have := hp.mem_iff.mp (List.mem_of_getElem? q)
      exact List.mem_range.mp this
    refine h (s.heap.objs.size + 1) _ d' (ys.filterMap fun j => es[j]?) [s.heap.objs.size + 1, a, s.heap.objs.size] (fun i h' => h'.get? (s.heap.objs.size + 1) = some (itObj (.ref s.heap.objs.size) i a es.size ep) ∧ SetIs h' a es ep t ∧ h'.get? s.heap.objs.size = some (tpObj (ys.map fun (i : Nat) => Value.int (i : Int) 0))) ?_ hk (Nat.le_succ _) ?_ ?_ ?_ ?_
    · have := hp.filterMap (fun j => es[j]?)
      rw [filterMap_getElem?_range] at this
      exact this
    · rw [Heap.size_push, hz]; exact Nat.lt_succ_self _
    · intro b hb
      simp only [List.mem_cons, List.not_mem_nil, or_false] at hb
      rcases hb with rfl | rfl | rfl
      · exact .inr (Nat.le_succ _)
      · exact .inl rfl
      · exact .inr (Nat.le_refl _)
    · have hne : a ≠ s.heap.objs.size + 1 := Nat.ne_of_lt (Nat.lt_succ_of_lt ha)
      have hall : ∀ (i : Nat) (j : Nat) (x : Int × Value), ys[i]? = some j → es[j]? = some x → (ys.filterMap fun j => es[j]?)[i]? = some x := by
        have gen : ∀ (l : List Nat), (∀ j ∈ l, j < es.size) → ∀ (i j : Nat) (x : Int × Value), l[i]? = some j → es[j]? = some x → (l.filterMap fun j => es[j]?)[i]? = some x := by
          intro l
          induction l with
          | nil => intro _ i j x hi _; simp at hi
          | cons y r ih =>
            intro hb i j x hi hx
            have hy : es[y]? = some (es[y]'(hb y List.mem_cons_self)) := Array.getElem?_eq_getElem _
            rw [List.filterMap_cons_some hy]
            cases i with
            | zero =>
              simp only [List.getElem?_cons_zero, Option.some.injEq] at hi ⊢
              subst hi
              rw [hy] at hx
              exact Option.some.inj hx
            | succ i =>
              simp only [List.getElem?_cons_succ] at hi ⊢
              exact ih (fun j hj => hb j (List.mem_cons_of_mem _ hj)) i j x hi hx
        intro i j x h1 h2
        refine gen ys (fun j hj => ?_) i j x h1 h2
        obtain ⟨n, hn⟩ := List.mem_iff_getElem?.mp hj
        exact hys n j hn
      refine { sub := fun b hb => ?_, frame := fun i h1 h2 st k => ?_, item := fun i s1 Q1 E1 hi1 st q => ?_, done := fun s1 Q1 E1 st q => ?_, self := fun i s1 Q1 E1 st q => ?_ }
      · rw [List.mem_singleton.mp hb]; exact List.mem_cons_self
      · exact ⟨k _ List.mem_cons_self _ st.1, st.2.1.keep fun o e => k _ (List.mem_cons_of_mem _ List.mem_cons_self) _ e, k _ (List.mem_cons_of_mem _ (List.mem_cons_of_mem _ List.mem_cons_self)) _ st.2.2⟩
      · obtain ⟨j, hj⟩ : ∃ j, ys[i]? = some j := ⟨ys[i]'(by omega), List.getElem?_eq_getElem (by omega)⟩
        have hjl := hys i j hj
        have hx : es[j]? = some (es[j]'hjl) := Array.getElem?_eq_getElem _
        refine next_drawn st.1 st.2.1 st.2.2 hj hx fun h2 g2 b2 => ?_
        exact q _ h2 s1.toks ⟨_, hall i j _ hj hx, rfl⟩ ⟨g2, st.2.1.keep fun o e => (b2.2 _ hne).trans e, (b2.2 _ (Nat.ne_of_lt (Nat.lt_succ_self _))).trans st.2.2⟩ fun b o hb e => (b2.2 b fun z => hb (by rw [z]; exact List.mem_singleton.mpr rfl)).trans e
      · refine next_end hh st.1 st.2.1 (.inr ⟨_, ys, rfl, st.2.2, List.getElem?_eq_none_iff.mpr (by omega)⟩) fun h2 k2 => ?_
        exact q h2 s1.toks fun b o hb e => k2 b o (fun z => hb (by rw [z]; exact List.mem_singleton.mpr rfl)) e
      · have ty : s1.TypeIs (.ref (s.heap.objs.size + 1)) "set_iterator" := ⟨_, st.1, rfl⟩
        refine wpAny_pyIter_slot ty si_iter (wpAny_call_entry si_iter ty si_entry_iter ?_ (si_args_iter _))
        exact wpAny_pure ⟨_, rfl, "set_iterator", _, ty, si_next.lookup, q⟩
    · exact ⟨hg, hs.keep fun o e => hk _ _ e, Heap.get?_push_of_some _ hT0⟩
end
end L2
namespace L2
open PySem
section
variable {prog : Program} {w : World} {A : Around} {E : Value → Shared → Prop} {s : Shared}
theorem hint_set {a : Addr} {Q : Bool → Shared → Prop} (ty : s.TypeIs (.ref a) "set") (h : Q false s) : wpAny (model prog w) A (Builtin.List.listLengthHint (.ref a)) Q E s := by
  unfold Builtin.List.listLengthHint
  refine wpAny_bind (wpAny_specialOf ty F.slot_set_len.lookup ?_)
  generalize hid : ("set.__len__" : String) = nm
  wp_delta
  rw [show splitId nm = some ("set", "__len__") from by subst hid; decide +kernel]
  subst hid
  refine wpAny_bind (wpAny_isInstance (T := "set") (b := true) ty (by rw [isSubtype_type]; kernel_rfl) ?_)
  refine wpAny_ite_split (fun z => absurd z (by decide)) (fun _ => ?_)
  refine wpAny_ite_split (fun _ => ?_) (fun z => absurd (by decide +kernel) z)
  exact wpAny_bind (wpAny_typeOf ty (wpAny_pure h))
theorem collect_set {a : Addr} {es : Array (Int × Value)} {ep : Nat} {t : SetTable} {R : List Value → Shared → Prop} (hh : A.handled = none) (hs : SetIs s.heap a es ep t) (hn : es.size ≤ sizeLine)
    (hl : w.params.followText "set-order" = false → t.led = true) (hr : t.plain = true → Rises t.place)
    (h : ∀ (h' : Heap) (d' : Drawn) (tk : Nat) (vs : List Value), vs.Perm (es.toList.map (·.2)) → (∀ b o, s.heap.get? b = some o → h'.get? b = some o) → s.heap.objs.size ≤ h'.objs.size → R vs { s with heap := h', drawn := d', toks := tk }) :
    wpAny (model prog w) A (collect (.ref a)) R E s := by
  have ha : a < s.heap.objs.size := let ⟨o, e, _⟩ := hs.ob; Heap.lt_size e
  unfold collect
  refine wpAny_bind (wpAny_runValue (codeAny_builtin F.entry_proto_collect ?_))
  rw [Around.under_plainId F.plain_proto_collect _]
  refine wpAny_bind (m := newList []) (wpAny_newObj_type ?_)
  refine wpAny_pure ⟨plainId_quiet F.plain_list_iadd _, codeAny_builtin F.entry_list_iadd ?_⟩
  rw [Around.under_plainId F.plain_list_iadd _]
  have g0 : (s.heap.push { cls := .type "list", data := .seq ([] : List Value).toArray }).get? s.heap.objs.size = some { cls := .type "list", data := .seq #[] } := Heap.get?_push_size _ rfl
  have hs0 : SetIs (s.heap.push { cls := .type "list", data := .seq ([] : List Value).toArray }) a es ep t := hs.keep fun o e => Heap.get?_push_of_some _ e
  have sz0 : (s.heap.push { cls := .type "list", data := .seq ([] : List Value).toArray }).objs.size = s.heap.objs.size + 1 := Heap.size_push ..
  have k0 : ∀ b o, s.heap.get? b = some o → (s.heap.push { cls := .type "list", data := .seq ([] : List Value).toArray }).get? b = some o := fun b o e => Heap.get?_push_of_some _ e
  generalize s.heap.push { cls := .type "list", data := .seq ([] : List Value).toArray } = h0 at g0 hs0 sz0 k0 ⊢
  show wpAny _ A.in1 (Builtin.List.listExtendWith (.ref s.heap.objs.size) (.ref a) (.ref s.heap.objs.size)) _ _ { s with heap := h0 }
  unfold Builtin.List.listExtendWith
  refine wpAny_bind (wpAny_typeOf (T := "set") (s := { s with heap := h0 }) hs0.ty ?_)
  have ne : Builtin.List.listSameRef (.ref s.heap.objs.size) (.ref a) = false := by
    simp [Builtin.List.listSameRef, Nat.ne_of_gt ha]
  rw [if_neg (by rw [ne]; decide)]
  refine wpAny_bind (walk_set (s := { s with heap := h0 }) (A := A.in1) hh hs0 hn hl hr fun I h1 d1 ord fp St hp k1 hI hI2 hfp W st => ?_)
  refine wpAny_bind (wpAny_holding (hint_set (s := { s with heap := h1, drawn := d1 }) (hs0.keep fun o e => k1 _ _ e).ty ?_))
  have g1 := k1 _ _ g0
  have ordl : ord.length = es.size := by rw [hp.length_eq, Array.length_toList]
  have main : ∀ (h2 : Heap) (c : Nat), St 0 h2 → (∀ b o, s.heap.get? b = some o → h2.get? b = some o) → h2.get? s.heap.objs.size = some { cls := .type "list", dict := none, data := .seq #[] c, slots := #[] } →
      codeAny (model prog w) A (.builtin "list.extend.loop" ⟨[.ref s.heap.objs.size, .ref I, .ref s.heap.objs.size], []⟩) (fun r s' => ∃ v, r = .ok (.ret v) ∧ v = .ref s.heap.objs.size ∧ ∃ (h' : Heap) (tk : Nat) (acc : Array Value) (c' : Nat), s' = { s with heap := h', drawn := d1, toks := tk } ∧
        (∀ b o, s.heap.get? b = some o → h'.get? b = some o) ∧ h'.get? s.heap.objs.size = some { cls := .type "list", dict := none, data := .seq acc c', slots := #[] } ∧ acc.toList.Perm (es.toList.map (·.2))) { s with heap := h2, drawn := d1 } := by
    intro h2 c st2 k2 g2
    refine codeAny_extend_loopS W.toS hn s.heap.objs.size (fun hm => ?_) _ es.size 0 _ #[] c rfl (Nat.zero_le _) st2 g2 (ItemsOf.nil _) fun s' acc' c' mv g' it => ?_
    · rcases hfp _ hm with e | e
      · exact absurd e (Nat.ne_of_gt ha)
      · have : h0.objs.size ≤ s.heap.objs.size := e
        rw [sz0] at this
        exact absurd this (Nat.not_succ_le_self _)
    · obtain ⟨h3, g3, d3, t3, o3⟩ := s'
      obtain rfl : g3 = s.gens := mv.gens
      obtain rfl : d3 = d1 := mv.drawn
      obtain rfl : o3 = s.os := mv.os
      refine ⟨_, rfl, rfl, h3, t3, acc', c', rfl, fun b o e => ?_, g', ?_⟩
      · refine mv.heap b o (fun hm => ?_) (k2 b o e)
        have hb : b < s.heap.objs.size := Heap.lt_size e
        rcases List.mem_cons.mp hm with z | z
        · exact absurd z (Nat.ne_of_lt hb)
        · rw [List.mem_singleton.mp z] at hb
          have : h0.objs.size ≤ I := hI
          rw [sz0] at this
          exact absurd (Nat.lt_trans hb (Nat.lt_of_succ_le this)) (Nat.lt_irrefl _)
      · have e1 : acc'.toList = ord.map (·.2) := by
          refine List.ext_getElem? fun i => ?_
          rw [List.getElem?_map, Array.getElem?_toList]
          cases q : acc'[i]? with
          | some v =>
            obtain ⟨x, hx, rfl⟩ := it.2 i v q
            rw [hx]; rfl
          | none =>
            have : acc'.size ≤ i := Array.getElem?_eq_none_iff.mp q
            rw [it.1] at this
            rw [List.getElem?_eq_none (by omega)]
            rfl
        rw [e1]
        exact hp.map _
  refine wpAny_ite_split (fun _ => ?_) (fun _ => wpAny_pure ⟨plainId_quiet F.plain_extend_loop _, codeAny_mono (main h1 0 st (fun b o e => k1 _ _ (k0 _ _ e)) g1) fun r s' hr => ?_⟩)
  case refine_2 =>
    obtain ⟨v, rfl, rfl, h', tk, acc, c', rfl, kk, gg, pp⟩ := hr
    exact wpAny_bind (wpAny_load gg (wpAny_pure (h h' d1 tk acc.toList pp kk (Nat.le_of_lt (Heap.lt_size gg)))))
  refine wpAny_bind (wpAny_rule (wpAny_bind ?_))
  show wpAny _ _ (updateSeq s.heap.objs.size (·.push .none) >>= fun _ => updateSeq s.heap.objs.size (·.pop)) _ _ _
  refine wpAny_bind (wpAny_updateSeq g1 rfl ?_)
  have g2 := Heap.get?_update_self (Obj.mapSeq (·.push Value.none)) g1 rfl
  refine wpAny_updateSeq (hz := by seq_fits) g2 rfl ?_
  have g3 := Heap.get?_update_self (Obj.mapSeq (·.pop)) g2 rfl
  refine wpAny_pure ⟨plainId_quiet F.plain_extend_loop _, codeAny_mono (main _ _ (W.frame 0 _ _ st fun b hb o e => ?_) (fun b o e => ?_) g3) fun r s' hr => ?_⟩
  · have nb : b ≠ s.heap.objs.size := fun z => by
      rcases hfp _ hb with q | q
      · exact absurd (z.symm.trans q) (Nat.ne_of_gt ha)
      · have : h0.objs.size ≤ b := q
        rw [sz0, z] at this
        exact absurd this (Nat.not_succ_le_self _)
    exact (Heap.get?_update_other _ _ (Ne.symm nb)).trans ((Heap.get?_update_other _ _ (Ne.symm nb)).trans e)
  · have nb : b ≠ s.heap.objs.size := Nat.ne_of_lt (Heap.lt_size e)
    exact (Heap.get?_update_other _ _ (Ne.symm nb)).trans ((Heap.get?_update_other _ _ (Ne.symm nb)).trans (k1 _ _ (k0 _ _ e)))
  · obtain ⟨v, rfl, rfl, h', tk, acc, c', rfl, kk, gg, pp⟩ := hr
    exact wpAny_bind (wpAny_load gg (wpAny_pure (h h' d1 tk acc.toList pp kk (Nat.le_of_lt (Heap.lt_size gg)))))
end
end L2
namespace L2
open PySem
structure TbOk (led : Bool) (t : SetTable) : Prop where
  led : t.led = led
  up : t.plain = true → Rises t.place
theorem TbOk.off {led : Bool} {t : SetTable} (x : TbOk led t) : TbOk led { t with plain := false } := ⟨x.led, fun h => by cases h⟩
theorem not_live {t : SetTable} {j : Nat} (h : t.slot j = .empty ∨ t.slot j = .dummy) : t.place[SetTable.below t.place j]? ≠ some j := by
  intro e
  unfold SetTable.slot at h
  dsimp only at h
  rw [if_pos (by rw [e]; simp)] at h
  rcases h with h | h <;> cases h
theorem free_empty {t : SetTable} {ha : Nat → Int} {h : Int} : ∀ (fuel : Nat) (p : SetTable.Probe) (j : Nat) (d : Option Nat), (∀ x, p.dummy = some x → t.slot x = .dummy) → SetTable.probe.go t ha h fuel p = some (.empty j d) → t.slot j = .empty ∧ ∀ x, d = some x → t.slot x = .dummy
  | 0, p, j, d, hp, e => by
    unfold SetTable.probe.go at e
    cases e
  | fuel + 1, p, j, d, hp, e => by
    unfold SetTable.probe.go at e
    cases hs : t.slot p.j with
    | empty =>
      rw [hs] at e
      injection e with e
      injection e with e1 e2
      subst e1; subst e2
      exact ⟨hs, hp⟩
    | dummy =>
      rw [hs] at e
      refine free_empty fuel _ j d (fun x hx => ?_) e
      have : (t.advance { p with dummy := some p.j }).dummy = some p.j := by
        unfold SetTable.advance
        split <;> rfl
      rw [this] at hx
      cases hx
      exact hs
    | live i =>
      rw [hs] at e
      dsimp only at e
      split at e
      · cases e
      · refine free_empty fuel _ j d (fun x hx => hp x ?_) e
        have : (t.advance p).dummy = p.dummy := by
          unfold SetTable.advance
          split <;> rfl
        rw [this] at hx
        exact hx
theorem free_slot {t : SetTable} {h : Int} {sl : Nat} {wd : Bool} (e : t.freeSlot h = some (sl, wd)) : t.place[SetTable.below t.place sl]? ≠ some sl := by
  unfold SetTable.freeSlot at e
  cases hp : t.probe (fun _ => h + 1) h (t.probeStart h) with
  | none => rw [hp] at e; cases e
  | some m =>
    rw [hp] at e
    cases m with
    | candidate _ _ _ => cases e
    | empty j d =>
      have := free_empty (10 * SetTable.turns t.mask) (t.probeStart h) j d (fun x hx => by cases hx) hp
      injection e with e
      injection e with e1 e2
      subst e1
      refine not_live ?_
      cases d with
      | none => exact .inl this.1
      | some x => exact .inr (this.2 x rfl)
theorem gd (ys : Array Nat) (i : Nat) : ys.getD i 0 = (ys.toList[i]?).getD 0 := by
  rw [Array.getElem?_toList, Array.getD_eq_getD_getElem?]
theorem rises_list {l : List Nat} (h : l.Pairwise (· < ·)) : Rises l.toArray := by
  intro i j hij hj
  rw [List.size_toArray] at hj
  have := List.pairwise_iff_getElem.mp h i j (by omega) hj hij
  rw [gd, gd]
  show (l[i]?).getD 0 < (l[j]?).getD 0
  rw [List.getElem?_eq_getElem hj, List.getElem?_eq_getElem (show i < l.length by omega)]
  exact this
theorem ins_getD {xs : Array Nat} {p x k : Nat} (hp : p ≤ xs.size) : (SetTable.insertAt xs p x).getD k 0 = if k < p then xs.getD k 0 else if k = p then x else if k < xs.size + 1 then xs.getD (k - 1) 0 else 0 := by
  have e : (SetTable.insertAt xs p x).toList = xs.toList.take p ++ x :: xs.toList.drop p := by
    rw [SetTable.toList_insertAt]
  rw [gd, e]
  have hl : (xs.toList.take p).length = p := by rw [List.length_take, Array.length_toList]; omega
  by_cases h1 : k < p
  · rw [if_pos h1, List.getElem?_append_left (by omega), List.getElem?_take, if_pos h1, gd]
  · rw [if_neg h1, List.getElem?_append_right (by omega), hl]
    by_cases h2 : k = p
    · rw [if_pos h2, h2, Nat.sub_self]; rfl
    · rw [if_neg h2]
      obtain ⟨m, rfl⟩ : ∃ m, k = p + (m + 1) := ⟨k - p - 1, by omega⟩
      rw [show p + (m + 1) - p = m + 1 by omega, List.getElem?_cons_succ, List.getElem?_drop]
      by_cases h3 : p + (m + 1) < xs.size + 1
      · rw [if_pos h3, gd, show p + (m + 1) - 1 = p + m by omega]
      · rw [if_neg h3, List.getElem?_eq_none (by rw [Array.length_toList]; omega)]; rfl
theorem ins_size {xs : Array Nat} {p x : Nat} (hp : p ≤ xs.size) : (SetTable.insertAt xs p x).size = xs.size + 1 := by
  rw [← Array.length_toList, (SetTable.insertAt_perm xs p x).length_eq, Array.length_toList, Array.size_push]
theorem rises_put {t : SetTable} {sl : Nat} (r : Rises t.place) (h : t.place[SetTable.below t.place sl]? ≠ some sl) : Rises (t.put sl).1.place := by
  obtain ⟨b1, b2, b3⟩ := below_all r sl
  show Rises (SetTable.insertAt t.place (SetTable.below t.place sl) sl)
  generalize SetTable.below t.place sl = p at h b1 b2 b3
  have b4 : ∀ k, p ≤ k → k < t.place.size → sl < t.place.getD k 0 := by
    intro k hk hk2
    have hp : t.place[p]? = some (t.place.getD p 0) := by
      rw [Array.getElem?_eq_getElem (by omega)]
      simp [Array.getD, show p < t.place.size by omega]
    have hne : t.place.getD p 0 ≠ sl := fun z => h (by rw [hp, z])
    have h1 := b3 p (Nat.le_refl _) (by omega)
    have h2 := r.le hk hk2
    omega
  intro i j hij hj
  rw [ins_size b1] at hj
  rw [ins_getD b1, ins_getD b1]
  by_cases h1 : j < p
  · rw [if_pos (by omega), if_pos h1]; exact r i j hij (by omega)
  · rw [if_neg h1]
    by_cases h2 : j = p
    · rw [if_pos h2, if_pos (by omega)]; exact b2 i (by omega)
    · rw [if_neg h2, if_pos hj]
      by_cases h3 : i < p
      · rw [if_pos h3]
        have := b2 i h3
        have := b4 (j - 1) (by omega) (by omega)
        omega
      · rw [if_neg h3]
        by_cases h4 : i = p
        · rw [if_pos h4]; exact b4 (j - 1) (by omega) (by omega)
        · rw [if_neg h4, if_pos (by omega)]; exact r (i - 1) (j - 1) (by omega) (by omega)
theorem TbOk.lay {led : Bool} {t : SetTable} (x : TbOk led t) (es : Array (Int × Value)) (h : Int) (v : Value) : TbOk led (layNew t es h v).2.1 := by
  refine ⟨(tb_lay t es h v).1.trans x.led, ?_⟩
  unfold layNew
  split
  · rename_i sl wd e
    intro hp
    dsimp only at hp ⊢
    unfold SetTable.orStandIn at hp ⊢
    split
    · rename_i hf
      rw [if_pos hf] at hp
      exact rises_put (x.up hp) (free_slot e)
    · rename_i hf
      rw [if_neg hf] at hp
      cases hp
  · intro hp
    cases hp
theorem TbOk.relay {led : Bool} {t : SetTable} (x : TbOk led t) (es : Array (Int × Value)) (n : Nat) : TbOk led (relayAll t es n).2.1 := by
  refine ⟨(tb_relay t es n).1.trans x.led, ?_⟩
  unfold relayAll
  split
  · rename_i t' od e
    dsimp only
    split
    · intro _
      unfold SetTable.relaid SetTable.laid at e
      cases hc : SetTable.layClean (SetTable.sizeAbove n - 1) (es.map (·.1)) with
      | none => rw [hc] at e; cases e
      | some ow =>
        rw [hc] at e
        cases e
        show Rises ((((List.range (SetTable.sizeAbove n - 1 + 1)).filterMap fun j => (ow.getD j none).map (j, ·)).map (·.1)).toArray)
        have pw : (((List.range (SetTable.sizeAbove n - 1 + 1)).filterMap fun j => (ow.getD j none).map (j, ·)).map (·.1)).Pairwise (· < ·) := by
          rw [List.map_filterMap]
          refine List.Pairwise.filterMap _ (R := (· < ·)) (S := (· < ·)) ?_ List.pairwise_lt_range
          intro a b hab x hx y hy
          cases ha : ow.getD a none with
          | none => rw [ha] at hx; cases hx
          | some v =>
            cases hb : ow.getD b none with
            | none => rw [hb] at hy; cases hy
            | some u =>
              rw [ha] at hx; rw [hb] at hy
              cases hx; cases hy
              exact hab
        exact rises_list pw
    · intro hp
      cases hp
  · intro hp
    cases hp
end L2
namespace L2
open PySem
section
variable {prog : Program} {w : World} {α : Type} [DecidableEq α] (knd : PySem.KeyKind prog w α) (kOf : Value → α)
structure SetKs (led : Bool) (h : Heap) (a : Addr) (ks : List α) : Prop where
  ex : ∃ o es ep t, h.get? a = some o ∧ o.ExactSet ∧ o.data = .set es ep t ∧ ElemsOf knd es.toList ∧ (es.toList.map fun e => kOf e.2).Perm ks ∧ es.size < scanBound ∧ t.fits es.size = true ∧ TbOk led t
variable {knd kOf}
theorem SetKs.keep {led : Bool} {h h' : Heap} {a : Addr} {ks : List α} (x : SetKs knd kOf led h a ks) (k : ∀ o, h.get? a = some o → h'.get? a = some o) : SetKs knd kOf led h' a ks := by
  obtain ⟨o, es, ep, t, e, r⟩ := x.ex
  exact ⟨o, es, ep, t, k o e, r⟩
theorem SetKs.perm {led : Bool} {h : Heap} {a : Addr} {ks ls : List α} (x : SetKs knd kOf led h a ks) (p : ks.Perm ls) : SetKs knd kOf led h a ls := by
  obtain ⟨o, es, ep, t, e, e2, e3, e4, e5, r⟩ := x.ex
  exact ⟨o, es, ep, t, e, e2, e3, e4, e5.trans p, r⟩
variable {A : Around} {E : Value → Shared → Prop} {s : Shared}
theorem mem_keys (hk : ∀ k v, knd.is k v = true → kOf v = k) {es : List (Int × Value)} (hel : ElemsOf knd es) {ks : List α} (hp : (es.map fun e => kOf e.2).Perm ks) (k : α) : k ∈ ks ↔ ∃ e ∈ es, knd.is k e.2 = true := by
  rw [← hp.mem_iff, List.mem_map]
  constructor
  · rintro ⟨e, he, rfl⟩
    obtain ⟨⟨k', h1, _⟩, _⟩ := hel e he
    refine ⟨e, he, ?_⟩
    rw [hk k' e.2 h1]
    exact h1
  · rintro ⟨e, he, h1⟩
    exact ⟨e, he, hk k e.2 h1⟩
theorem store_keys {led : Bool} {h : Heap} {a : Addr} {o : Obj} {es es' : Array (Int × Value)} {ep : Nat} {t t' : SetTable} {ks : List α} (ho : h.get? a = some o) (hex : o.ExactSet) (hd : o.data = .set es ep t) (hel : ElemsOf knd es'.toList)
    (hp : (es'.toList.map fun e => kOf e.2).Perm ks) (hb : es'.size < scanBound) (hf : t'.fits es'.size = true) (ti : TbOk led t') : (h.update a (Obj.putSet es' t')).get? a = some { o with data := .set es' (ep + 1) t' } ∧ SetKs knd kOf led (h.update a (Obj.putSet es' t')) a ks := by
  have g : (h.update a (Obj.putSet es' t')).get? a = some { o with data := .set es' (ep + 1) t' } := by
    have q := Heap.get?_update_self (Obj.putSet es' t') ho (by rw [putSet_of es' t' hd]; rfl)
    rwa [putSet_of es' t' hd] at q
  exact ⟨g, _, es', ep + 1, t', g, hex, rfl, hel, hp, hb, hf, ti⟩
theorem add_keys {led : Bool} {a : Addr} {ks : List α} {k : α} {x : Value} {Q : Bool → Shared → Prop} (hk : ∀ k v, knd.is k v = true → kOf v = k) (hkey : knd.is k x = true) (hsc : x.scannable = true) (hS : SetKs knd kOf led s.heap a ks) (room : ks.length + 1 < scanBound)
    (h : ∀ h' b, Heap.SameBut a s.heap h' → SetKs knd kOf led h' a (if k ∈ ks then ks else ks ++ [k]) → Q b { s with heap := h' }) : wpAny (model prog w) A (setAddHashed a x (knd.hash k)) Q E s := by
  obtain ⟨o, es, ep, t, ho, hex, hd, hel, hp, hb, hf, ti⟩ := hS.ex
  have hn : es.size = ks.length := by rw [← hp.length_eq, List.length_map, Array.length_toList]
  have hmem := mem_keys hk hel hp
  unfold setAddHashed setAddHashedIn
  refine wpAny_holding (wpAny_bind (wpAny_setState_of ho hd hf ?_))
  dsimp only
  rw [byScan_of hsc hb hel, if_pos rfl]
  unfold setAddByScan
  refine wpAny_bind (wpAny_bind (wpAny_rule (wpAny_bind (wpAny_setScan_of hkey ho hd hf hel ?_))))
  cases hr : List.findIdx? (fun e => knd.is k e.2) es.toList with
  | some j =>
    obtain ⟨hj, hpj, _⟩ := List.findIdx?_eq_some_iff_getElem.mp hr
    have hin : k ∈ ks := (hmem k).mpr ⟨_, List.getElem_mem hj, hpj⟩
    refine wpAny_pure (wpAny_pure ?_)
    have q := h s.heap false (Heap.SameBut.refl a s.heap)
    rw [if_pos hin] at q
    exact q hS
  | none =>
    have hin : k ∉ ks := fun z => by
      obtain ⟨e, he, h1⟩ := (hmem k).mp z
      have := List.findIdx?_eq_none_iff.mp hr e he
      rw [h1] at this
      cases this
    dsimp only
    have q : ∀ h' b, Heap.SameBut a s.heap h' → SetKs knd kOf led h' a (ks ++ [k]) → Q b { s with heap := h' } := fun h' b sb x => h h' b sb (by rw [if_neg hin]; exact x)
    have e1 := layNew_perm t es (knd.hash k) x
    have e2 := layNew_fits t es (knd.hash k) x
    have e3 := ti.lay es (knd.hash k) x
    generalize hL : layNew t es (knd.hash k) x = L at e1 e2 e3 ⊢
    obtain ⟨es1, t1, wd, gv⟩ := L
    dsimp only at e1 e2 e3 ⊢
    rw [Array.toList_push] at e1
    have hel1 : ElemsOf knd es1.toList := (hel.push hkey hsc).perm e1
    have hp1 : (es1.toList.map fun e => kOf e.2).Perm (ks ++ [k]) := by
      refine (e1.map _).trans ?_
      rw [List.map_append, List.map_singleton, hk k x hkey]
      exact hp.append_right _
    have hz1 : es1.size = ks.length + 1 := by rw [← Array.length_toList, e1.length_eq, List.length_append, Array.length_toList, hn]; rfl
    have hb1 : es1.size < scanBound := by rw [hz1]; exact room
    have say : ∀ (b : Bool) (s1 : Shared) (Q' : Unit → Shared → Prop), Q' () s1 → wpAny (model prog w) A (match b with | true => rule "set.scan.the-table-gave-way" | false => pure ()) Q' E s1 :=
      fun b s1 Q' z => by cases b <;> first | exact wpAny_pure z | exact wpAny_rule z
    have tail : ∀ t2 : SetTable, t2.fits es1.size = true → TbOk led t2 → wpAny (model prog w) A (do
        storeSet a es1 t2
        if (!wd && t2.tooFull) = true then do
            (match (relayAll t2 es1 (SetTable.grown es1.size)).2.2 with | true => rule "set.scan.the-table-gave-way" | false => pure ())
            storeSet a (relayAll t2 es1 (SetTable.grown es1.size)).1 (relayAll t2 es1 (SetTable.grown es1.size)).2.1
            pure (some true)
          else pure (some true)) (fun r s' => wpAny (model prog w) A (match r with | some added => pure added | none => setAddHashedIn a x (knd.hash k) 99999) Q E s') E s := by
      intro t2 f2 i2
      refine wpAny_bind (wpAny_storeSet_of ho hd ?_ (fits_of_scanBound hb1))
      obtain ⟨g1, S1⟩ := store_keys (knd := knd) (kOf := kOf) ho hex hd hel1 hp1 hb1 f2 i2
      have sb1 := Heap.SameBut.update s.heap a (Obj.putSet es1 t2)
      refine wpAny_ite_split (fun _ => ?_) (fun _ => wpAny_pure (wpAny_pure (q _ _ sb1 S1)))
      have r1 := relayAll_perm t2 es1 (SetTable.grown es1.size)
      have r2 := relayAll_fits t2 es1 (SetTable.grown es1.size)
      have r3 := i2.relay es1 (SetTable.grown es1.size)
      generalize relayAll t2 es1 (SetTable.grown es1.size) = Rl at r1 r2 r3 ⊢
      obtain ⟨es2, t3, gv2⟩ := Rl
      dsimp only at r1 r2 r3 ⊢
      have hz2 : es2.size = es1.size := by rw [← Array.length_toList, r1.length_eq, Array.length_toList]
      refine wpAny_bind (say _ _ _ ?_)
      refine wpAny_bind (wpAny_storeSet_of (s := { s with heap := s.heap.update a (Obj.putSet es1 t2) }) g1 rfl ?_ (fits_of_scanBound (by rw [hz2]; exact hb1)))
      obtain ⟨_, S2⟩ := store_keys (knd := knd) (kOf := kOf) (ks := ks ++ [k]) g1 hex rfl (hel1.perm r1) ((r1.map _).trans hp1) (by rw [hz2]; exact hb1) r2 r3
      exact wpAny_pure (wpAny_pure (q _ _ (sb1.trans (Heap.SameBut.update _ a _)) S2))
    refine wpAny_bind (say _ _ _ ?_)
    split
    · refine wpAny_bind ?_
      rw [hashByValue_scannable 8 hsc]
      refine wpAny_pure ?_
      cases hpk : plainKind x with
      | true => exact tail t1 e2 e3
      | false => exact tail { t1 with plain := false } (SetTable.fits_plain_off e2) e3.off
    · exact wpAny_bind (wpAny_pure (tail t1 e2 e3))
end
end L2
namespace L2
open PySem PySem.Spec PyProof.Rows
section
variable {prog : Program} {w : World} {A : Around} {E : Value → Shared → Prop} {s : Shared}
theorem new_set (v : Value) {Q₁ : Value → Shared → Prop} (h : Q₁ (.ref s.heap.objs.size) { s with heap := s.heap.push (freshSet (!w.params.followText "set-order")) }) :
    codeAny (model prog w) A (.call (.builtin "set.__new__") ⟨[.type "set", v], []⟩) (wants Q₁ E) s := by
  refine codeAny_of_tree (show wpAny _ A.in1 (do checkBuiltinCall "set.__new__" ⟨[.type "set", v], []⟩; again (.builtin "set.__new__" ⟨[.type "set", v], []⟩)) _ _ s from ?_)
  refine wpAny_bind (wpAny_of_eq (F.newCall_set_1 v) (wpAny_pure ⟨plainId_quiet F.plain_set_new _, codeAny_builtin F.entry_set_new ?_⟩)); rw [Around.under_plainId F.plain_set_new _]
  unfold Builtin.«set.__new__» Builtin.Frozenset.newClass
  have hsub := sub_set_self
  obtain ⟨hp, g, d, tk, os⟩ := s; dsimp only; wp_walk
  refine wpAny_askSetting (wpAny_pure ?_); dsimp only; simp only [newObj]
  exact wpAny_bind (wpAny_alloc (wpAny_pure (wpAny_pure h)))
end
section
variable {prog : Program} {w : World} {A : Around} {R : Result → Shared → Prop} {α : Type} [DecidableEq α] [BEq α] [LawfulBEq α] {it a : Addr} {fp wr : List Addr} {G : Array GenState → Array GenState → Prop} {n : Nat} {P : Nat → Value → Prop} {St : Nat → Shared → Prop}
theorem dedup_mem (l : List α) (x : α) [dc : Decidable (x ∈ l)] : (if x ∈ l then l else l ++ [x]) = step_dedup l x := by
  unfold step_dedup
  by_cases h : x ∈ l
  · have q : (l.any fun y => y == x) = true := List.any_eq_true.mpr ⟨x, h, beq_self_eq_true x⟩
    rw [if_pos h, if_pos q]
  · have q : ¬ (l.any fun y => y == x) = true := fun z => h (by obtain ⟨y, hy, q⟩ := List.any_eq_true.mp z; rw [← eq_of_beq q]; exact hy)
    rw [if_neg h, if_neg q]
theorem fill_keys (knd : PySem.KeyKind prog w α) (kOf : Value → α) (led : Bool) (hk : ∀ k v, knd.is k v = true → kOf v = k) (Wk : WalksS prog w A.in1 it fp wr G n P St) (ha : a ∉ fp) (key : Nat → α) (hkey : ∀ i v, P i v → knd.is (key i) v = true ∧ v.scannable = true) (room : n + 1 < scanBound) :
    ∀ (d i : Nat) (s : Shared), n - i = d → i ≤ n → St i s → SetKs knd kOf led s.heap a (metK key i) → (∀ s', Moved (a :: wr) G s s' → SetKs knd kOf led s'.heap a (metK key n) → R (.ok (.ret .none)) s') →
      codeAny (model prog w) A (.builtin "set.update.loop" ⟨[.ref a, .ref it], []⟩) R s := by
  have aw : a ∉ wr := fun z => ha (Wk.sub _ z)
  have up : ∀ b ∈ wr, b ∈ a :: wr := fun b z => List.mem_cons_of_mem _ z
  intro d
  induction d with
  | zero =>
    intro i s hd hi st f k
    obtain rfl : i = n := by omega
    refine codeAny_builtin F.entry_set_update_loop ?_; rw [Around.under_plainId F.plain_set_update_loop _]
    refine wpAny_bind (m := pyNext (.ref it)) (Wk.done s _ _ st fun s' mv => ?_)
    exact wpAny_pure (k s' (mv.mono up) (f.keep fun o e => mv.heap a o aw e))
  | succ d ih =>
    intro i s hd hi st f k
    have lt : i < n := by omega
    refine codeAny_builtin F.entry_set_update_loop ?_; rw [Around.under_plainId F.plain_set_update_loop _]
    refine wpAny_bind (m := pyNext (.ref it)) (Wk.item i s _ _ lt st fun v s' pv st' mv => ?_)
    obtain ⟨hv, hs⟩ := hkey i v pv
    have f' : SetKs knd kOf led s'.heap a (metK key i) := f.keep fun o e => mv.heap a o aw e
    refine wpAny_bind (m := holding [v] (setAdd a v)) (wpAny_holding ?_); unfold setAdd
    refine wpAny_holding (wpAny_bind (knd.pyHash (k := key i) hv ?_))
    have rm : (metK key i).length + 1 < scanBound := by have := metK_len key i; omega
    refine add_keys (s := { s' with toks := s'.toks + 1 }) hk hv hs f' rm fun h' bb sb f2 => ?_
    rw [dedup_mem, ← metK_next] at f2
    refine wpAny_pure ⟨plainId_quiet F.plain_set_update_loop _, ih (i + 1) _ (by omega) lt (Wk.frame _ s' _ _ st' (Nat.le_succ _) fun b z o e => ?_) f2 fun s'' mv' f4 => ?_⟩
    · exact (sb.2 b fun z' => ha (z' ▸ z)).trans e
    · refine k s'' (Moved.trans Wk.gtrans ((mv.mono up).then_heap (Nat.le_succ _) fun b o z e => ?_) mv') f4
      exact (sb.2 b fun z' => z (z' ▸ List.mem_cons_self)).trans e
end
section
variable {prog : Program} {w : World} {A : Around} {E : Value → Shared → Prop} {s : Shared} {α : Type} [DecidableEq α] [BEq α] [LawfulBEq α]
set_option maxHeartbeats 3200000 in
theorem keys_of_list (knd : PySem.KeyKind prog w α) (kOf : Value → α) (hk : ∀ k v, knd.is k v = true → kOf v = k) {l : Addr} {its : Array Value} {key : Nat → α} {Q : Value → Shared → Prop} (hh : A.handled = none) (hl : s.heap.IsList l its) (hkey : ∀ i v, its[i]? = some v → knd.is (key i) v = true ∧ v.scannable = true) (room : its.size + 1 < scanBound)
    (k : ∀ (h' : Heap) (tk : Nat), SetKs knd kOf (!w.params.followText "set-order") h' s.heap.objs.size (metK key its.size) → (∀ b o, s.heap.get? b = some o → h'.get? b = some o) → Q (.ref s.heap.objs.size) { s with heap := h', toks := tk }) :
    wpAny (model prog w) A (call (.type "set") [.ref l]) Q E s := by
  obtain ⟨c, tl, hmro⟩ := F.called_set.mro
  have made := F.called_set.made; have sub := F.called_set.sub; have nt := F.called_set.notType; have cc := F.called_set.canCreate; have tc := F.typeCall_set_1 (.ref l)
  refine wpAny_call (codeAny_of_tree ?_); show wpAny _ _ (callAny (.type "set") _) _ _ _
  refine wpAny_pure ⟨Code.quiet_builtin _ (by decide +kernel), codeAny_builtin F.entry_type_call ?_⟩; rw [Around.under_plain (weight_type_call_type "set" [.ref l] []) rfl]
  (repeat (any_goals (first | assumption | wp_step))); skip
  refine codeAny_mono (new_set (.ref l) (E := E) (Q₁ := fun u s₁ => u = .ref s.heap.objs.size ∧ s₁ = { s with heap := s.heap.push (freshSet (!w.params.followText "set-order")) }) ⟨rfl, rfl⟩) fun r s₁ hr => ?_
  cases r with
  | error e => exact hr
  | ok fl =>
    cases fl with
    | ret u =>
      obtain ⟨rfl, rfl⟩ := hr
      have nw : (s.heap.push (freshSet (!w.params.followText "set-order"))).get? s.heap.objs.size = some (freshSet (!w.params.followText "set-order")) := Heap.get?_push_size _ rfl
      have ty : Shared.TypeIs { s with heap := s.heap.push (freshSet (!w.params.followText "set-order")) } (.ref s.heap.objs.size) "set" := ⟨_, nw, rfl⟩
      have li := F.called_set.init.lookup; have bi := F.called_set.init.bind (.ref s.heap.objs.size)
      (repeat (any_goals (first | assumption | wp_step))); skip
      refine codeAny_mono (codeAny_call_builtin (R := wants (fun r s₂ => r = .none ∧ ∃ h' tk, s₂ = { s with heap := h', toks := tk } ∧ SetKs knd kOf (!w.params.followText "set-order") h' s.heap.objs.size (metK key its.size) ∧ ∀ b o, s.heap.get? b = some o → h'.get? b = some o) E) F.called_set.init.plain F.entry_set_init (check_set_init_1 ty ?_)) fun r₂ s₂ hr₂ => ?_
      · obtain ⟨⟨cl, dc, dt, sl⟩, e, ec, nl, ed⟩ := id hl
        simp only at ec ed; subst ec; subst ed
        have e' : (s.heap.push (freshSet (!w.params.followText "set-order"))).get? l = some { cls := .type "list", dict := dc, data := .seq its nl, slots := sl } := Heap.get?_push_of_some _ e
        have s1 := F.sub_list_set; have s2 := F.sub_list_frozenset; have ne : (Value.type "list" == Value.type "dict") = false := by decide
        have hl1 : (s.heap.push (freshSet (!w.params.followText "set-order"))).IsList l its := ⟨_, e', rfl, nl, rfl⟩
        unfold Builtin.«set.__init__» noKeywords Builtin.Frozenset.updateFrom
        generalize hPI : pyIter = PI; wp_walk; subst hPI
        refine wpAny_pyIter_list hl1 ?_; refine wpAny_bind (wpAny_runValue ?_)
        have lt : l < s.heap.objs.size := Heap.lt_size e
        have sz : (s.heap.push (freshSet (!w.params.followText "set-order"))).objs.size = s.heap.objs.size + 1 := Heap.size_push ..
        refine fill_keys knd kOf (!w.params.followText "set-order") hk ((Walks.list (A := A.in1.in1.in1) (by simp [hh]) _ l (by rw [sz]; exact Nat.ne_of_lt (Nat.lt_succ_of_lt lt)) its).toS) (a := s.heap.objs.size) (by rw [sz]; simp only [List.mem_cons, List.not_mem_nil, or_false, not_or]; exact ⟨Nat.ne_of_lt (Nat.lt_succ_self _), Nat.ne_of_gt lt⟩) key hkey room (its.size - 0) 0 _ (by omega) (Nat.zero_le _)
          ⟨⟨_, Heap.get?_push_size _ rfl, rfl, rfl⟩, hl1.push _⟩ ?f0 ?fR
        case f0 =>
          have g : ((s.heap.push (freshSet (!w.params.followText "set-order"))).push { cls := .type "list_iterator", data := .fields #[.ref l, .int 0 0] }).get? s.heap.objs.size = some (freshSet (!w.params.followText "set-order")) := Heap.get?_push_of_some _ nw
          exact ⟨_, #[], 0, _, g, ⟨rfl, rfl, rfl⟩, rfl, fun e he => by simp at he, List.Perm.refl _, by decide, by rfl, ⟨rfl, fun _ => Rises.few (Nat.zero_le _)⟩⟩
        case fR =>
          rintro ⟨h', g', d', tk', os'⟩ mv f
          obtain rfl : g' = s.gens := mv.gens
          obtain rfl : d' = s.drawn := mv.drawn
          obtain rfl : os' = s.os := mv.os
          show wpAny _ _ _ _ _ _
          refine wpAny_pure (show wpAny _ _ (ret Value.none) _ _ _ from wpAny_pure ⟨rfl, h', tk', rfl, f, fun b o q => ?_⟩)
          have b1 : b < s.heap.objs.size := Heap.lt_size q
          exact mv.heap b o (by rw [sz]; simp only [List.mem_cons, List.not_mem_nil, or_false, not_or]; exact ⟨Nat.ne_of_lt b1, Nat.ne_of_lt (Nat.lt_succ_of_lt b1)⟩) (Heap.get?_push_of_some _ (Heap.get?_push_of_some _ q))
      · cases r₂ with
        | error e => exact hr₂
        | ok fl₂ =>
          cases fl₂ with
          | ret r =>
            obtain ⟨rfl, h', tk, rfl, f, kk⟩ := hr₂
            (repeat (any_goals (first | assumption | wp_step))); exact k _ _ f kk
          | _ => exact hr₂.elim
    | _ => exact hr.elim
end
end L2
namespace L2
open PySem PySem.Spec PyProof.Rows
section
variable {prog : Program} {w : World} {A : Around} {E : Value → Shared → Prop} {s : Shared}
theorem sort_set {a : Addr} {es : Array (Int × Value)} {ep : Nat} {t : SetTable} {Q : Value → Shared → Prop} (hh : A.handled = none) (hs : SetIs s.heap a es ep t) (hn : es.size ≤ sizeLine)
    (hl : w.params.followText "set-order" = false → t.led = true) (hr : t.plain = true → Rises t.place)
    (h : ∀ (h1 : Heap) (d1 : Drawn) (tk : Nat) (vs : List Value), vs.Perm (es.toList.map (·.2)) → (∀ b o, s.heap.get? b = some o → h1.get? b = some o) → s.heap.objs.size ≤ h1.objs.size → (h1.push (seqObj "list" vs.toArray 0)).get? h1.objs.size = some (seqObj "list" vs.toArray 0) →
      wpAny (model prog w) A.in1.in1 (Builtin.«list.sort» ⟨[.ref h1.objs.size], []⟩) (fun fin s' => ∃ v, fin = .done (.ret v) ∧ Q (.ref h1.objs.size) s') E { s with heap := h1.push (seqObj "list" vs.toArray 0), drawn := d1, toks := tk }) :
    wpAny (model prog w) A (call (.builtin "sorted") [.ref a]) Q E s := by
  refine Calls.call_function_entry kind_sorted plain_sorted entry_sorted (args_sorted1 _) ?_
  unfold Builtin.«sorted»
  refine wpAny_bind (m := checkCount "sorted" 1 1 _) (wpAny_pure ?_)
  refine wpAny_bind (collect_set (A := A.in1) hh hs hn hl hr fun h1 d1 tk vs hp k1 z1 => ?_)
  have vl : vs.length = es.size := by rw [hp.length_eq, List.length_map, Array.length_toList]
  refine wpAny_bind (wpAny_newList ?_ (by rw [vl]; exact hn))
  have g : (h1.push (seqObj "list" vs.toArray 0)).get? h1.objs.size = some (seqObj "list" vs.toArray 0) := Heap.get?_push_size _ rfl
  refine wpAny_bind (wpAny_holding (wpAny_call_entry slot_list_sort (s := { s with heap := h1.push (seqObj "list" vs.toArray 0), drawn := d1, toks := tk }) ⟨_, g, rfl⟩ entry_list_sort (wpAny_mono (h h1 d1 tk vs hp k1 z1 g) (fun fin s' x => ?_) fun _ _ e => e) (args_list_sort _)))
  obtain ⟨v, rfl, q⟩ := x
  exact ⟨v, rfl, wpAny_pure ⟨_, rfl, q⟩⟩
theorem heap_sorted {h1 : Heap} {vs : List Value} {out : Array Value} : (∀ b o, h1.get? b = some o → (sortedHeap (h1.push (seqObj "list" vs.toArray 0)) h1.objs.size vs out).get? b = some o) ∧ ∃ e, (sortedHeap (h1.push (seqObj "list" vs.toArray 0)) h1.objs.size vs out).get? h1.objs.size = some (seqObj "list" out e) := by
  have g : (h1.push (seqObj "list" vs.toArray 0)).get? h1.objs.size = some (seqObj "list" vs.toArray 0) := Heap.get?_push_size _ rfl
  refine ⟨fun b o e => ?_, sortedHeap_at g⟩
  have hb : b < h1.objs.size := Heap.lt_size e
  rw [sortedHeap_old (Nat.ne_of_lt hb) (by rw [Heap.size_push]; exact Nat.lt_succ_of_lt hb)]
  exact Heap.get?_push_of_some _ e
end
end L2
namespace L2
open PySem PySem.Spec PyProof.Rows
def kOf : Value → Key
  | .int i _ => .inl i
  | .str x _ => .inr x
  | _ => .inl 0
theorem kOf_is (P : Program) (w : World) : ∀ (k : Key) (v : Value), (mixKind P w).is k v = true → kOf v = k := fun k v h => by
  rcases keyIs_shape h with ⟨i, t, rfl, rfl⟩ | ⟨x, t, rfl, rfl⟩ <;> rfl
abbrev setY (P : Program) (w : World) (q : Addr) (ks : List Key) : HO := .ext fun h => SetKs (mixKind P w) kOf (!w.params.followText "set-order") h q ks
theorem Inv.drawn {X : Cx} {pins : List (Addr × Obj)} {σ : List (Option V)} {H : Hp} {s : Shared} (I : Inv X pins σ H s) (d : Drawn) : Inv X pins σ H { s with drawn := d } :=
  ⟨I.ok, I.os, I.bare, I.base, I.loc, I.cell, I.free, I.freeC, I.pin, I.hok, I.len⟩
theorem strs_vals : ∀ {vs : List Value} {ss : List Str}, StrsAre vs ss → Vals (ss.map V.str) vs
  | _, _, .nil => .nil
  | _, _, .cons x t h => .cons ⟨t, rfl⟩ (strs_vals h)
section
variable {X : Cx}
theorem call_setY (hc : X.calm = true) : CallR X (.type "set") (fun xs H Q => ∃ (p : Addr) (ks : List Key), xs = [.ref p] ∧ SqL X.K H p (ks.map kV) ∧ ks.length < 4000 ∧ ∀ q, H q = none → Q (.ref q) (upd H q (setY X.prog X.w q (dd ks)))) := by
  intro pins s σ H xs us Q I r h
  obtain ⟨p, ks, rfl, hq, hlen, q⟩ := h
  obtain ⟨u, rfl, r1⟩ := vals1 r
  cases r1
  obtain ⟨its, rv, pl, hz⟩ := I.list hq
  have hl := rv.length
  rw [List.length_map] at hl
  refine keys_of_list (mixKind X.prog X.w) kOf (kOf_is _ _) (key := fun i => ks.getD i (.inl 0)) (I.ok.hd hc) pl.isList (fun i v hv => ?_) (by rw [List.size_toArray]; unfold scanBound; omega) fun h' tk f kk => ?_
  · have hv : its[i]? = some v := by simpa using hv
    have hi : i < its.length := (List.getElem?_eq_some_iff.mp hv).1
    obtain ⟨u, h1, h2⟩ := rv.get (i := i) (x := kV (ks[i]'(by omega))) (by rw [List.getElem?_map, List.getElem?_eq_getElem (by omega)]; rfl)
    rw [hv] at h1
    cases h1
    have e : ks.getD i (.inl 0) = ks[i]'(by omega) := by simp [List.getD, List.getElem?_eq_getElem (show i < ks.length by omega)]
    show (mixKind X.prog X.w).is (ks.getD i (.inl 0)) v = true ∧ _
    rw [e, mixKind_is]
    exact key_rel h2
  · rw [show its.toArray.size = ks.length by rw [List.size_toArray]; exact hl.symm, metK_dd] at f
    refine ⟨.ref s.heap.objs.size, _, I.laid (h' := h') (t' := tk) (o := setY X.prog X.w s.heap.objs.size (dd ks)) kk (Nat.le_refl _) ⟨f, ?_, fun h1 h2 g k2 => g.keep k2⟩, rfl, q _ (I.hok.fresh (Nat.le_refl _))⟩
    obtain ⟨o, _, _, _, e, _⟩ := f.ex
    exact ⟨o, e⟩
theorem set_is {led : Bool} {P : Program} {w : World} {h : Heap} {a : Addr} {ks : List Key} (f : SetKs (mixKind P w) kOf led h a ks) : ∃ es ep t, SetIs h a es ep t ∧ es.size = ks.length ∧ (es.toList.map fun e => kOf e.2).Perm ks ∧ TbOk led t ∧ ∀ e ∈ es.toList, keyIs (kOf e.2) e.2 = true := by
  obtain ⟨o, es, ep, t, e, ex, hd, hel, pm, _, hf, ti⟩ := f.ex
  refine ⟨es, ep, t, ⟨⟨o, e, ex.1, hd⟩, hf⟩, by rw [← pm.length_eq, List.length_map, Array.length_toList], pm, ti, fun x hx => ?_⟩
  obtain ⟨⟨k, h1, _⟩, _⟩ := hel x hx
  rw [kOf_is P w k x.2 h1]
  exact h1
variable {P : Program} {w : World}
theorem call_setYK (K : PySem.W.Frag) (hK : X.K = K) (hc : X.calm = true) (hP : X.prog = P := by rfl) (hw : X.w = w := by rfl) : CallR X (.type "set") (fun xs H Q => ∃ (p : Addr) (ks : List Key), xs = [.ref p] ∧ SqL K H p (ks.map kV) ∧ ks.length < 4000 ∧ ∀ q, H q = none → Q (.ref q) (upd H q (setY P w q (dd ks)))) := by subst hK; subst hP; subst hw; exact call_setY hc
end
end L2
namespace L2
open PySem PySem.Spec PyProof.Rows
section
variable {prog : Program} {w : World} {A : Around} {E : Value → Shared → Prop} {s : Shared}
def InOrder (a b : Str) : Prop := ¬ b.cps.toList < a.cps.toList
theorem strs_in_order {vs : List Value} {ss : List Str} (hS : StrsAre vs ss) {xs : Array Keyed} (hp : xs.Perm (pairsOf vs)) (hs : SortedToK strKind xs (pairsOf vs).size) : ∃ ss', StrsAre (xs.map (·.2)).toList ss' ∧ ss'.Perm ss ∧ ss'.Pairwise InOrder := by
  obtain ⟨zs, h1, h2, _⟩ := sorted_out_str hS hp hs
  refine ⟨zs, h1, h2, ?_⟩
  have hl : xs.toList.Perm (vs.zip vs) := by rw [← pairsOf_toList]; exact Array.perm_iff_toList_perm.mp hp
  have hmem : ∀ p, p ∈ xs.toList → p.1 = p.2 ∧ p.1 ∈ vs := fun p hp' => mem_zip_self (hl.mem_iff.mp hp')
  have e : zs = xs.toList.map fun p => strOf p.2 := by
    rw [← h1.strs, Array.toList_map, List.map_map]; rfl
  rw [e, List.pairwise_iff_getElem]
  intro i j hi hj hij
  have hi' : i < xs.size := by simpa using hi
  have hj' : j < xs.size := by simpa using hj
  have q := hs i j (Nat.le_of_lt hij) (by rw [← hp.size_eq]; exact hj')
  obtain ⟨x, t, ex⟩ := hS.all _ (hmem xs[i] (by simp)).2
  obtain ⟨y, u, ey⟩ := hS.all _ (hmem xs[j] (by simp)).2
  rw [KK_str hi' (x := x) (t := t) (q := xs[i].2) (Prod.ext ex rfl), KK_str hj' (x := y) (t := u) (q := xs[j].2) (Prod.ext ey rfl)] at q
  change decide (y.cps.toList < x.cps.toList) = false at q
  simp only [List.getElem_map, Array.getElem_toList]
  have e1 : strOf xs[i].2 = x := by rw [← (hmem xs[i] (by simp)).1, ex]; rfl
  have e2 : strOf xs[j].2 = y := by rw [← (hmem xs[j] (by simp)).1, ey]; rfl
  unfold InOrder
  rw [e1, e2]
  exact of_decide_eq_false q
theorem sort_set_strsP {a : Addr} {es : Array (Int × Value)} {ep : Nat} {t : SetTable} {Q : Value → Shared → Prop} (hh : A.handled = none) (hs : SetIs s.heap a es ep t) (h64 : es.size < 64)
    (hl : w.params.followText "set-order" = false → t.led = true) (hr : t.plain = true → Rises t.place) (hv : ∀ e ∈ es.toList, ∃ x t, e.2 = Value.str x t)
    (h : ∀ (D : Addr) (h' : Heap) (d' : Drawn) (tk e : Nat) (out : List Value) (ss : List Str), s.heap.objs.size ≤ D → (∀ b o, s.heap.get? b = some o → h'.get? b = some o) → h'.get? D = some (seqObj "list" out.toArray e) → StrsAre out ss → ss.Perm (es.toList.map fun e => strOf e.2) → ss.Pairwise InOrder → Q (.ref D) { s with heap := h', drawn := d', toks := tk }) :
    wpAny (model prog w) A (call (.builtin "sorted") [.ref a]) Q E s := by
  refine sort_set hh hs (by rw [sizeLine_eq]; omega) hl hr fun h1 d1 tk vs hp k1 z1 g => ?_
  have vl : vs.length = es.size := by rw [hp.length_eq, List.length_map, Array.length_toList]
  have hS : StrsAre vs (vs.map strOf) := strsAre_map vs fun v hm => by
    obtain ⟨e, he, rfl⟩ := List.mem_map.mp (hp.mem_iff.mp hm)
    exact hv e he
  refine list_sort_treeK strKind_oneLt g hS.keysOf (fun v₁ v₂ rest e => keyKind_strs (by rw [← e]; exact hS)) (by omega) fun st' hp' hs' => ⟨_, rfl, ?_⟩
  obtain ⟨ss', q1, q2, q3⟩ := strs_in_order hS hp' hs'
  obtain ⟨kk, e, ge⟩ := heap_sorted (h1 := h1) (vs := vs) (out := (arrOf st').map (·.2))
  refine h h1.objs.size _ d1 tk e ((arrOf st').map (·.2)).toList ss' z1 (fun b o z => kk b o (k1 b o z)) ?_ q1 (q2.trans ?_) q3
  · rw [Array.toArray_toList]; exact ge
  · have := hp.map strOf
    rw [List.map_map] at this
    exact this
end
section
variable {X : Cx}
theorem call_sortYP (hc : X.calm = true) : CallR X (.builtin "sorted") (fun xs H Q => ∃ (p : Addr) (ks : List Str), xs = [.ref p] ∧ H p = some (setY X.prog X.w p (ks.map Sum.inr)) ∧ ks.length < 64 ∧
    ∀ (q : Addr) (ss : List Str), H q = none → ss.Perm ks → ss.Pairwise InOrder → Q (.ref q) (upd H q (.lst (ss.map V.str)))) := by
  intro pins s σ H xs us Q I r h
  obtain ⟨p, ks, rfl, hp, hn, q⟩ := h
  obtain ⟨u, rfl, r1⟩ := vals1 r
  cases r1
  obtain ⟨f, _, _⟩ := I.hok p _ hp
  obtain ⟨es, ep, t, si, hz, pm, ti, hk⟩ := set_is f
  rw [List.length_map] at hz
  have hv : ∀ e ∈ es.toList, ∃ x t, e.2 = Value.str x t := fun e he => by
    have hm : kOf e.2 ∈ ks.map Sum.inr := pm.mem_iff.mp (List.mem_map.mpr ⟨e, he, rfl⟩)
    obtain ⟨x, _, hx⟩ := List.mem_map.mp hm
    rcases keyIs_shape (hk e he) with ⟨i, t, h1, h2⟩ | ⟨y, t, h1, h2⟩
    · rw [h1] at hx; cases hx
    · exact ⟨y, t, h2⟩
  refine sort_set_strsP (I.ok.hd hc) si (by omega) (fun z => by rw [ti.led, z]; rfl) ti.up hv fun D h' d' tk e out ss hD kk g sa sp so => ?_
  have sl : ss.length = ks.length := by rw [sp.length_eq, List.length_map, Array.length_toList, hz]
  have ex : (es.toList.map fun e => strOf e.2).Perm ks := by
    have h1 := pm.map (fun k : Key => match k with | .inr x => x | .inl _ => (⟨#[]⟩ : Str))
    rw [List.map_map, List.map_map] at h1
    have e1 : (ks.map ((fun k : Key => match k with | .inr x => x | .inl _ => (⟨#[]⟩ : Str)) ∘ Sum.inr)) = ks := by
      rw [show ((fun k : Key => match k with | .inr x => x | .inl _ => (⟨#[]⟩ : Str)) ∘ Sum.inr) = id from rfl, List.map_id]
    rw [e1] at h1
    refine (List.Perm.of_eq (List.map_congr_left fun e he => ?_)).trans h1
    obtain ⟨x, t, hx⟩ := hv e he
    rw [hx]
    show strOf (Value.str x t) = (match kOf e.2 with | .inr x => x | .inl _ => (⟨#[]⟩ : Str))
    rw [hx]
    rfl
  refine ⟨.ref D, _, (I.drawn d').laid (h' := h') (t' := tk) (o := .lst (ss.map V.str)) kk hD ⟨?_, out, e, strs_vals sa, g⟩, rfl, q D ss (I.hok.fresh hD) (sp.trans ex) so⟩
  rw [List.length_map, sl, sizeLine_eq]
  omega
theorem call_sortYPK {P : Program} {w : World} (hc : X.calm = true) (hP : X.prog = P := by rfl) (hw : X.w = w := by rfl) : CallR X (.builtin "sorted") (fun xs H Q => ∃ (p : Addr) (ks : List Str), xs = [.ref p] ∧ H p = some (setY P w p (ks.map Sum.inr)) ∧ ks.length < 64 ∧
    ∀ (q : Addr) (ss : List Str), H q = none → ss.Perm ks → ss.Pairwise InOrder → Q (.ref q) (upd H q (.lst (ss.map V.str)))) := by subst hP; subst hw; exact call_sortYP hc
end
section
variable {X : Cx}
end
end L2
namespace L2
open PySem PySem.W PyProof.Rows
section
variable {P : Program} {w : World} {K : PySem.W.Frag} {mg : Str → Option Value} {base : Heap} {N : List Str} {qual : Str} {scope : Scope} {f : Addr} {cd : Value} {A : Around} {outer : List Env} {s0 : Shared} {H0 : Hp} {E : XK}
end
section
variable {P : Program} {w : World} {K : PySem.W.Frag} {mg : Str → Option Value} {base : Heap} {N : List Str} {qual : Str} {scope : Scope} {f : Addr} {cd : Value} {A : Around} {outer : List Env} {s0 : Shared} {H0 : Hp} {E : XK}
end
def veBases : List Value := [.type "ValueError", .type "Exception", .type "BaseException", .type "object"]
def ExC (K : PySem.W.Frag) (C : Addr) : Prop := excIn K C veBases "ValueError.__new__" = true
theorem ExC.at {K : PySem.W.Frag} {C : Addr} {h : Heap} (kin : K.In h) (x : ExC K C) : ∃ bm N nm q bs hd sn sub ab col dd k0 k1 k2 k3 k5 mN, h.get? C = some (excClassObj nm q C N bs bm hd sn sub ab col dd k0 k1 k2 k3 k5 "ValueError.__new__") ∧ h.Ns N mN ∧ mN "__init__" = none ∧ OwnTail h veBases bm := by
  unfold ExC excIn at x
  split at x
  · rename_i dd c sl look
    split at x
    · rename_i C2 tl s0 s1 s2 s3 nid s5 order slots
      simp only [Bool.and_eq_true, beq_iff_eq, Bool.not_eq_true'] at x
      obtain ⟨⟨⟨⟨⟨e1, e2⟩, del⟩, tin⟩, nok⟩, noi⟩ := x
      subst e1 e2
      rcases c with ⟨nm, bs, mro, ns, qn, hd, sn, sub, ab, col, dl⟩
      dsimp only at order del nok noi
      subst order
      subst del
      obtain rfl : sl = #[s0, s1, s2, s3, some (.builtin "ValueError.__new__"), s5] := by
        rcases sl with ⟨list⟩
        exact congrArg Array.mk slots
      exact ⟨tl, ns, nm, qn, bs, hd, sn, sub, ab, col, dd, s0, s1, s2, s3, s5, _, kin _ _ look, .of_isNs (isNs_of_in kin nok), nsMap_none_of_in kin nok noi, tail_of_in kin tin⟩
    · cases x
  · cases x
end L2
namespace L2
open PySem PySem.W PyProof.Rows
section
variable {X : Cx} {pins : List (Addr × Obj)} {σ : St} {H : Hp} {s : Shared} {ea : Addr}
end
section
variable {X : Cx} {CX : CXT} {k : Nat} {f C : Addr} {fd : FuncData} {ps : List Str} {sp : Sp} {dvs : List V} {ds : List Value} {E : XK} {x m : Str} {p pos apos : Pos} {e o : Expr} {es : List Expr} {ta : TE} {t : TA} {pins : List (Addr × Obj)} {σ : St}
end
theorem PS.nox {X : Cx} {st : Stmt} {t : TS} (h : PS X.nox st t) : PS X st t := fun pins s σ H D I hw =>
  wpAny_mono (h pins s σ H D (I.wish _) hw) (fun _ _ q => q.unwish) fun _ _ z => False.elim z
section
variable {P : Program} {w : World} {K : PySem.W.Frag} {mg : Str → Option Value} {base : Heap}
end
end L2
namespace L2
open PySem PySem.W PyProof.Rows
abbrev MKey := Key ⊕ List Key
section
variable (P : Program) (w : World)
def mHash : MKey → Int
  | .inl k => (mixKind P w).hash k
  | .inr ks => (tupleKind (mixKind P w)).hash ks
def mIs (h : Heap) (k : MKey) (v : Value) : Prop := match k with
  | .inl k => (mixKind P w).is k v = true
  | .inr ks => ∃ a, v = .ref a ∧ (tupleKind (mixKind P w)).is h ks a
abbrev MEnt := MKey × Value × Value
def mEnt (x : MEnt) : DictEntry := ⟨mHash P w x.1, x.2.1, x.2.2⟩
end
section
variable {P : Program} {w : World} {A : Around} {E : Value → Shared → Prop} {s : Shared}
theorem mIs.flat {h : Heap} {k : Key} {v : Value} (x : mIs P w h (.inl k) v) : (∃ i t, v = .int i t ∧ k = .inl i) ∨ ∃ z t, v = .str z t ∧ k = .inr z := by
  have x : keyIs k v = true := x
  cases k with
  | inl i =>
    have x : Value.isInt i v = true := x
    cases v with
    | int j t =>
      simp [Value.isInt] at x
      exact .inl ⟨_, _, rfl, by rw [x]⟩
    | _ => cases x
  | inr z =>
    have x : Value.isStrOf z v = true := x
    cases v with
    | str j t =>
      simp [Value.isStrOf] at x
      exact .inr ⟨_, _, rfl, by rw [x]⟩
    | _ => cases x
theorem mIs.inj {h : Heap} {x y : MKey} {v : Value} (hx : mIs P w h x v) (hy : mIs P w h y v) : x = y := by
  cases x with
  | inl x =>
    cases y with
    | inl y => rw [(mixKind P w).inj v x y hx hy]
    | inr ks =>
      obtain ⟨a, rfl, _⟩ := hy
      rcases hx.flat with ⟨i, t, e, _⟩ | ⟨z, t, e, _⟩ <;> cases e
  | inr ks =>
    obtain ⟨a, rfl, hk⟩ := hx
    cases y with
    | inl y => rcases mIs.flat hy with ⟨i, t, e, _⟩ | ⟨z, t, e, _⟩ <;> cases e
    | inr ls =>
      obtain ⟨b, e, hl⟩ := hy
      cases e
      rw [(tupleKind (mixKind P w)).inj hk hl]
end
end L2
namespace L2
open PySem PySem.W PyProof.Rows
section
variable {P : Program} {w : World} {A : Around} {E : Value → Shared → Prop} {s : Shared}
structure MDict (P : Program) (w : World) (h : Heap) (d : Addr) (ys : List MEnt) : Prop where
  ok : ∃ o es ep, h.get? d = some o ∧ o.ExactDict ∧ o.data = .dict es ep ∧ es.toList = ys.map (mEnt P w)
  nd : (ys.map (·.1)).Nodup
def mVal {β γ : Type} (ys : List (MKey × β × γ)) (k : MKey) : Option γ := (ys.find? fun y => decide (y.1 = k)).map (·.2.2)
def mPut {β γ : Type} (ys : List (MKey × β × γ)) (k : MKey) (key : β) (v : γ) : List (MKey × β × γ) :=
  if (mVal ys k).isSome then ys.map fun y => if y.1 = k then (y.1, y.2.1, v) else y else ys ++ [(k, key, v)]
theorem MDict.type {d : Addr} {ys : List MEnt} (hm : MDict P w s.heap d ys) : s.TypeIs (.ref d) "dict" := let ⟨o, _, _, ho, hc, _⟩ := hm.ok; ⟨o, ho, hc.1⟩
theorem MDict.bare {d : Addr} {ys : List MEnt} (hm : MDict P w s.heap d ys) : ∀ b, Value.ref d = .ref b → ∃ ob, s.heap.get? b = some ob ∧ ob.dict = none := fun b e => by
  cases e
  obtain ⟨o, _, _, ho, hc, _⟩ := hm.ok
  exact ⟨o, ho, hc.2.1⟩
end
abbrev MVal := MKey × V × V
def MRel (xs : List MVal) (ys : List MEnt) : Prop := Paired (fun (p : MVal) (q : MEnt) => p.1 = q.1 ∧ RelV p.2.1 q.2.1 ∧ RelV p.2.2 q.2.2) xs ys
def KeyAt (K : PySem.W.Frag) (H : Hp) (k : MKey) (v : V) : Prop := match k with
  | .inl k => v = kV k
  | .inr ks => ∃ a, v = .ref a ∧ SqT K H a (ks.map kV)
theorem MDict.keep {P : Program} {w : World} {h1 h2 : Heap} {d : Addr} {ys : List MEnt} (m : MDict P w h1 d ys) (k : ∀ o, h1.get? d = some o → h2.get? d = some o) : MDict P w h2 d ys :=
  let ⟨o, es, ep, e, r⟩ := m.ok; ⟨⟨o, es, ep, k o e, r⟩, m.nd⟩
theorem KeyAt.is {X : Cx} {pins : List (Addr × Obj)} {σ : St} {H : Hp} {s : Shared} (I : Inv X pins σ H s) {k : MKey} {v : V} {u : Value} (h : KeyAt X.K H k v) (r : RelV v u) : mIs X.prog X.w s.heap k u := by
  cases k with
  | inl k =>
    have h : v = kV k := h
    subst h
    exact kV_is r
  | inr ks =>
    obtain ⟨a, rfl, hT⟩ := h
    cases r
    obtain ⟨its, rv, ⟨o, e, c, n, d⟩, _⟩ := I.tuple hT
    exact ⟨a, rfl, o, _, n, e, c, d, items_are rv⟩
theorem MRel.val : ∀ {xs : List MVal} {ys : List MEnt}, MRel xs ys → ∀ k, RelO (mVal xs k) (mVal ys k)
  | _, _, .nil, _ => True.intro
  | p :: xs, q :: ys, .cons r t, k => by
    unfold mVal
    rw [List.find?_cons, List.find?_cons, ← r.1]
    by_cases e : p.1 = k
    · rw [decide_eq_true e]
      exact r.2.2
    · rw [decide_eq_false e]
      exact MRel.val t k
theorem MRel.put {xs : List MVal} {ys : List MEnt} (h : MRel xs ys) {k : MKey} {kv v : V} {ku u : Value} (rk : RelV kv ku) (rv : RelV v u) : MRel (mPut xs k kv v) (mPut ys k ku u) := by
  have hs : (mVal xs k).isSome = (mVal ys k).isSome := (h.val k).isSome_eq
  unfold mPut
  rw [hs]
  split
  · rename_i hc
    clear hs hc
    induction h with
    | nil => exact .nil
    | @cons p q ps qs r t ih =>
      refine .cons ?_ ih
      dsimp only
      rw [← r.1]
      by_cases e : p.1 = k
      · rw [if_pos e, if_pos e]; exact ⟨rfl, r.2.1, rv⟩
      · rw [if_neg e, if_neg e]; exact r
  · rename_i hc
    clear hs hc
    induction h with
    | nil => exact .cons ⟨rfl, rk, rv⟩ .nil
    | cons r t ih => exact .cons r ih
theorem MRel.len {xs : List MVal} {ys : List MEnt} (h : MRel xs ys) : xs.length = ys.length := Paired.length h
section
variable {X : Cx} {P : Program} {w : World} {o e f : Expr} {pos apos cpos : Pos} {td ty tx : TE}
end
end L2
namespace L2
open PySem PySem.W PyProof.Rows
section
variable {X : Cx} {o e value : Expr} {f : Str} {pos pos' : Pos} {ta tv : TE}
end
end L2
namespace L2
open PySem PySem.W PyProof.Rows
section
variable {P : Program} {w : World} {A : Around} {E : Value → Shared → Prop} {s : Shared}
end
section
variable {X : Cx} {e : Expr} {te : TE} {p1 p2 pos1 pos2 : Pos}
end
end L2
namespace L2
open PySem PySem.W PyProof.Rows
section
variable {P : Program} {w : World} {A : Around} {E : Value → Shared → Prop} {s : Shared}
end
section
variable {X : Cx} {P : Program} {w : World} {o e f i : Expr} {pos apos cpos : Pos} {td ty tx : TE}
end
end L2
namespace L2
open PySem
seal L2.PSs L2.PS L2.PE L2.PT L2.PA L2.PI L2.PG L2.PW L2.PGs L2.PO
section
variable {X : Cx}
theorem call_strV : CallR X (.type "str") (fun xs H Q => (∃ i, xs = [.int i] ∧ i.natAbs.log2 < 1920 ∧ Q (.str (toString i)) H) ∨ ∃ z, xs = [.str z] ∧ Q (.str z) H) := by
  intro pins s σ H xs us Q I r h
  rcases h with ⟨i, rfl, hz, q⟩ | ⟨z, rfl, q⟩
  · obtain ⟨u, rfl, t, rfl⟩ := vals1 r
    exact PySem.P.str_of_int hz ⟨.str _, H, I.tok _, ⟨_, rfl⟩, q⟩
  · obtain ⟨u, rfl, t, rfl⟩ := vals1 r
    exact PySem.P.str_of_str ⟨.str _, H, I, ⟨_, rfl⟩, q⟩
end
theorem str_len (x : String) : (x : Str).length = x.toList.length := by
  show (Str.ofString x).cps.size = _
  rw [Str.ofString_eq_toList]
  simp
theorem nat_len {n k : Nat} (hk : 0 < k) (h : n < 10 ^ k) : ((toString n : String) : Str).length ≤ k := by
  rw [str_len]
  show (Nat.repr n).toList.length ≤ k
  unfold Nat.repr
  rw [String.toList_ofList]
  exact (Nat.length_toDigits_le_iff (by decide) hk).mpr h
theorem int_len {z : Int} {k : Nat} (hk : 0 < k) (h : z.natAbs < 10 ^ k) : ((toString z : String) : Str).length ≤ k + 1 := by
  cases z with
  | ofNat n => exact Nat.le_succ_of_le (nat_len hk h)
  | negSucc n =>
    rw [str_len]
    show ("-" ++ Nat.repr (n + 1)).toList.length ≤ k + 1
    rw [String.toList_append, List.length_append]
    have := nat_len (n := n + 1) hk h
    rw [str_len] at this
    have e : (toString (n + 1) : String) = Nat.repr (n + 1) := rfl
    rw [e] at this
    have : "-".toList.length = 1 := by decide
    omega
theorem log_lt {n : Nat} (h : n < 10 ^ 70) : n.log2 < 1920 := by
  by_cases h0 : n = 0
  · subst h0
    decide
  · rw [Nat.log2_lt h0]
    exact Nat.lt_of_lt_of_le h (by decide +kernel)
section
variable {X : Cx}
theorem call_isiT : CallR X (.builtin "isinstance") (fun xs H Q => ∃ x T t b, xs = [x, .ty T] ∧ (TyOf X.K H x t ∨ ∃ p ys, x = .ref p ∧ SqT X.K H p ys ∧ t = .type "tuple") ∧ PySem.W.kitOne X.K t (.type T) = some b ∧ Q (.bl b) H) := by
  intro pins s σ H xs us Q I r h
  obtain ⟨x, T, t, b, rfl, ty, e, q⟩ := h
  rcases ty with ty | ⟨p, ys, rfl, hq, rfl⟩
  · exact call_isi pins s σ H _ us Q I r ⟨x, T, t, b, rfl, ty, e, q⟩
  · obtain ⟨u, w', rfl, rx, rt⟩ := vals2 r
    obtain rfl : w' = Value.type T := rt
    cases rx
    obtain ⟨its, _, ⟨o, h1, h2, _⟩, _⟩ := I.tuple hq
    exact PySem.W.kia_one PySem.W.kitx_tuple I.kIn ⟨o, h1, h2⟩ e (fun z => nomatch z) fun tk => ⟨.bl b, H, I.tok tk, rfl, q⟩
theorem call_isiTK (K : PySem.W.Frag) (hK : X.K = K) : CallR X (.builtin "isinstance") (fun xs H Q => ∃ x T t b, xs = [x, .ty T] ∧ (TyOf K H x t ∨ ∃ p ys, x = .ref p ∧ SqT K H p ys ∧ t = .type "tuple") ∧ PySem.W.kitOne K t (.type T) = some b ∧ Q (.bl b) H) := by subst hK; exact call_isiT
end
def lens (ts : List Str) : Nat := (ts.map (·.length)).sum
theorem join_ok {z : Str} {ts : List Str} (h : lens ts + ts.length * z.length ≤ 16777216) : JoinOk z ts = true := by
  unfold JoinOk
  rw [StrLaws.joinTotal]
  unfold Builtin.Str.tooLong
  have e : ¬ 0 + (ts.map (·.length)).sum + ts.length * z.length > sizeLine := by
    rw [sizeLine_eq]
    unfold lens at h
    omega
  rw [decide_eq_false (by first | exact e | (rw [Nat.zero_add] at e; exact e))]
  rfl
theorem join_le (z : Str) (ts : List Str) : (Txt.join z ts).length ≤ lens ts + ts.length * z.length := by
  show (Builtin.Str.glued z ts).length ≤ _
  rw [StrLaws.glued_eq_join]
  exact StrLaws.join_length_le z ts
end L2
namespace L2
open PySem PySem.Spec PyProof.Rows
section
variable {X : Cx} {tg : Expr}
def SqB (K : PySem.W.Frag) : Bool → Hp → Addr → List V → Prop
  | true, H, a, xs => SqL K H a xs
  | false, H, a, xs => SqT K H a xs
def Itb (K : PySem.W.Frag) : Bool → Addr → It
  | true, a => Itl K a
  | false, a => Itt K a
def iEi (K : PySem.W.Frag) (tl : TE) : TI := fun σ H R => tl σ H fun x H1 => ∃ a b, x = .ref a ∧ (∃ xs, SqB K b H1 a xs) ∧ R (Itb K b a) H1
theorem pi_ei {l : Expr} {tl : TE} (hl : PE X l tl) : PI X tg l (iEi X.K tl) := by
  intro pins s σ H R I h
  refine thn (hl pins s σ H _ I h) fun v s1 ⟨x, H1, I1, r1, q1⟩ => ?_
  obtain ⟨a, b, e, ⟨xs, hq⟩, q⟩ := q1
  subst e
  cases r1
  cases b with
  | true =>
    obtain ⟨its, rv, p, hz⟩ := I1.list hq
    refine wpAny_pyIter_list p.isList ⟨s1.heap.objs.size, [s1.heap.objs.size], _, _, H1, rfl, I1.kept (t' := s1.toks) fun b o e => Heap.get?_push_of_some _ e, turn_list a _, ⟨_, Heap.get?_push_size _ rfl, rfl, rfl⟩, fun b hb => ?_, q⟩
    obtain rfl : b = s1.heap.objs.size := by simpa using hb
    exact I1.fpOk (Nat.le_refl _) (I1.hok.fresh (Nat.le_refl _))
  | false =>
    obtain ⟨its, rv, p, hz⟩ := I1.tuple hq
    refine wpAny_pyIter_tuple (show s1.heap.IsTuple a its.toArray from p) ⟨s1.heap.objs.size, [s1.heap.objs.size], _, _, H1, rfl, I1.kept (t' := s1.toks) fun b o e => Heap.get?_push_of_some _ e, turn_tuple a _, ⟨_, Heap.get?_push_size _ rfl, rfl, rfl⟩, fun b hb => ?_, q⟩
    obtain rfl : b = s1.heap.objs.size := by simpa using hb
    exact I1.fpOk (Nat.le_refl _) (I1.hok.fresh (Nat.le_refl _))
theorem pi_eiK (K : PySem.W.Frag) (hK : X.K = K) {l : Expr} {tl : TE} (hl : PE X l tl) : PI X tg l (iEi K tl) := by subst hK; exact pi_ei hl
theorem for_ei {K : PySem.W.Frag} {b : Bool} {a : Addr} {xs : List V} {g : TG} {tb : TS} {D : Ends} {σ : St} {H : Hp} (Pv : Nat → St → Hp → Prop) (h0 : Pv 0 σ H) (hl : ∀ i σ H, i ≤ xs.length → Pv i σ H → SqB K b H a xs)
    (hs : ∀ i x σ H, xs[i]? = some x → Pv i σ H → g x σ H fun σ2 H2 => tb { D with nx := Pv (i + 1), ct := Pv (i + 1), bk := D.nx } σ2 H2) (hd : ∀ σ H, Pv xs.length σ H → D.nx σ H) :
    ∃ W : Nat → Nat → St → Hp → Prop, (∃ m, W 0 m σ H) ∧ ∀ i m σ H, W i m σ H →
      ((Itb K b a).stop i H ∧ D.nx σ H) ∨ ((Itb K b a).go i H ∧ ∃ N : St → Hp → Prop, (∀ σ' H', N σ' H' → ∃ m', m' < m ∧ W (i + 1) m' σ' H') ∧ ∀ x H', (Itb K b a).yld i H x H' → g x σ H' fun σ2 H2 => tb { D with nx := N, ct := N, bk := D.nx } σ2 H2) := by
  cases b with
  | true => exact for_list Pv h0 hl hs hd
  | false => exact for_tup Pv h0 hl hs hd
theorem SqB.len {K : PySem.W.Frag} {b : Bool} {H : Hp} {a : Addr} {xs : List V} (h : SqB K b H a xs) : LenV K (.ref a) H xs.length := by
  cases b with
  | true => exact .inl ⟨_, h, rfl⟩
  | false => exact .inr ⟨_, h, rfl⟩
theorem SqB.same {K : PySem.W.Frag} {b : Bool} {H H' : Hp} {a : Addr} {xs : List V} (e : Same H H') (h : SqB K b H a xs) : SqB K b H' a xs := by
  cases b with
  | true => exact e.seq h
  | false => exact Same.tseq e h
end
theorem empty_app (x : Str) : Str.empty ++ x = x := by
  show (⟨#[] ++ x.cps⟩ : Str) = x
  simp
theorem app_assoc (x y z : Str) : x ++ y ++ z = x ++ (y ++ z) := by
  show (⟨x.cps ++ y.cps ++ z.cps⟩ : Str) = ⟨x.cps ++ (y.cps ++ z.cps)⟩
  rw [Array.append_assoc]
theorem app_len (x y : Str) : (x ++ y).length = x.length + y.length := by
  show (x.cps ++ y.cps).size = _
  simp [Str.length]
theorem join_nest (z x : Str) (ts us : List Str) : Txt.join z (Txt.join z (x :: ts) :: us) = Txt.join z (x :: (ts ++ us)) := by
  show Builtin.Str.glued z (Builtin.Str.glued z (x :: ts) :: us) = Builtin.Str.glued z (x :: (ts ++ us))
  unfold Builtin.Str.glued
  simp only [List.drop_succ_cons, List.drop_zero, List.headD_cons, List.foldl_append]
theorem join_lead (z x : Str) : ∀ ts : List Str, z ++ Txt.join z (x :: ts) = (x :: ts).foldl (fun r t => r ++ z ++ t) Str.empty := by
  intro ts
  have h : ∀ (ts : List Str) (acc x : Str), acc ++ Txt.join z (x :: ts) = ts.foldl (fun r t => r ++ z ++ t) (acc ++ x) := by
    intro ts
    induction ts with
    | nil => intro acc x; rfl
    | cons t r ih =>
      intro acc x
      rw [List.foldl_cons, app_assoc, app_assoc, ← ih]
      congr 1
      have e := join_nest z x [t] r
      have e2 : Txt.join z [x, t] = x ++ z ++ t := rfl
      rw [e2, app_assoc] at e
      exact e.symm
  rw [List.foldl_cons, empty_app]
  exact h ts z x
theorem range_items {α : Type} : ∀ l : List α, (List.range l.length).filterMap (fun i => l[i]?) = l
  | [] => rfl
  | a :: l => by
    rw [List.length_cons, List.range_succ_eq_map, List.filterMap_cons_some (f := fun i => (a :: l)[i]?) (b := a) rfl, List.filterMap_map]
    congr 1
    exact range_items l
theorem tail_ix (n : Nat) : Builtin.Str.strSliceIndices (some 1) none 1 (n + 1) = (List.range n).map (· + 1) := by
  unfold Builtin.Str.strSliceIndices sliceRange
  simp only [show (1 : Int) > 0 by decide, if_true]
  have h1 : max (0 : Int) (min (if (1 : Int) < 0 then 1 + ((n + 1 : Nat) : Int) else 1) ((n + 1 : Nat) : Int)) = 1 := by
    rw [if_neg (by decide)]
    omega
  rw [h1]
  by_cases hn : n = 0
  · subst hn
    rfl
  · have h2 : (1 : Int) < ((n + 1 : Nat) : Int) := by omega
    rw [if_pos h2, Int.ediv_one, show (((n + 1 : Nat) : Int) - 1 + 1 - 1).toNat = n by omega]
    refine List.map_congr_left fun i _ => ?_
    omega
theorem slice_tail (c : Nat) (x : Str) : Txt.slice ((⟨#[c]⟩ : Str) ++ x) (some 1) none = x := by
  have hl : ((⟨#[c]⟩ : Str) ++ x).length = x.cps.size + 1 := by
    rw [app_len]
    show 1 + x.cps.size = _
    omega
  unfold Txt.slice
  rw [hl, tail_ix]
  have hne : ¬ (((1 : Int) == 1 && (List.map (· + 1) (List.range x.cps.size)).length == x.cps.size + 1) = true) := by
    simp
  rw [if_neg hne, List.filterMap_map]
  have e : ((fun i => ((⟨#[c]⟩ : Str) ++ x).cps[i]?) ∘ fun i => i + 1) = fun i => x.cps.toList[i]? := by
    funext i
    show (#[c] ++ x.cps)[i + 1]? = _
    rw [Array.getElem?_append_right (by simp)]
    simp
  rw [e]
  have := range_items x.cps.toList
  rw [Array.length_toList] at this
  rw [this]
@[irreducible] def ten60 : Int := 10 ^ (60 : Int).toNat
theorem ten60_eq : ten60 = 10 ^ (60 : Int).toNat := by unfold ten60; rfl
theorem ten60_lit : ten60 = 1000000000000000000000000000000000000000000000000000000000000 := by rw [ten60_eq]; decide +kernel
theorem ten60_pos : 1000000000000000000 < ten60 := by rw [ten60_eq]; decide +kernel
section
variable {X : Cx}
theorem op_ten60 : OpR X (binaryOp .Pow) (fun x y H Q => x = .int 10 ∧ y = .int 60 ∧ Q (.int ten60) H) := by
  intro pins s σ H x y v u Q I rx ry h
  obtain ⟨rfl, rfl, q⟩ := h
  rw [ten60_eq] at q
  exact op_pow pins s σ H _ _ v u Q I rx ry ⟨10, 60, rfl, rfl, ⟨by decide, by decide, by decide⟩, q⟩
theorem ten12_eq : (1000000000000 : Int) = 10 ^ (12 : Int).toNat := by decide +kernel
theorem op_ten12 : OpR X (binaryOp .Pow) (fun x y H Q => x = .int 10 ∧ y = .int 12 ∧ Q (.int 1000000000000) H) := by
  intro pins s σ H x y v u Q I rx ry h
  obtain ⟨rfl, rfl, q⟩ := h
  rw [ten12_eq] at q
  exact op_pow pins s σ H _ _ v u Q I rx ry ⟨10, 12, rfl, rfl, ⟨by decide, by decide, by decide⟩, q⟩
end
end L2
namespace L2
open PySem PySem.Spec PyProof.Rows
def KMod (K : PySem.W.Frag) (pm : Params) (a : Addr) : Prop := (a == sysModules) = false ∧ ∃ es n, K.lookup a = some ⟨.type "dict", none, .dict es n, #[]⟩ ∧ PySem.W.KeysLit pm es.toList
def KTp (K : PySem.W.Frag) (t : Addr) (xs : List V) : Prop := ∃ (o : Obj) (its : Array Value) (n : Nat), K.lookup t = some o ∧ o.cls = .type "tuple" ∧ o.data = .seq its n ∧ its.size ≤ sizeLine ∧ Vals xs its.toList
theorem KTp.sq {K : PySem.W.Frag} {t : Addr} {xs : List V} (h : KTp K t xs) (H : Hp) : SqT K H t xs := .inr h
section
variable {X : Cx} {o i : Expr} {pos : Pos} {td ty : TE}
def tKIx (K : PySem.W.Frag) (a : Addr) (ty : TE) : TE := fun σ H Q => ty σ H fun y H1 => ∃ x u v, y = .str x ∧ PySem.W.nsIn K a x = some (some u) ∧ RelV v u ∧ Q v H1
theorem pe_kix {x : Str} {npos : Pos} {a : Addr} (K : PySem.W.Frag) (hK : X.K = K) (hd : KMod K X.w.params a) (hg : Gl X x) (hm : X.mg x = some (.ref a)) (hi : PE X i ty) (hs : NoSl i) (hdb : (x == ("__debug__" : Str)) = false := by decide) : PE X (.Subscript (.Name x npos) i pos) (tKIx K a ty) := by
  subst hK
  intro pins s σ H Q I h
  obtain ⟨lo, es, n, hl, hk⟩ := hd
  have hn : PE X (.Name x npos) (tC (.ref a)) := pe_glob hg hm rfl hdb
  refine subD_of PySem.F.slot_dict_getitem.lookup hs (thn (hn pins s σ H (fun v H' => v = .ref a ∧ H' = H) I ⟨rfl, rfl⟩) fun u s1 ⟨z, H1, I1, rx, ez, eH⟩ => ?_)
  subst ez eH
  obtain rfl : u = Value.ref a := rx
  refine thn (hi pins s1 σ H1 _ I1 h) fun iv s2 ⟨y, H2, I2, ry, x', u', v', ey, hu, rv, q2⟩ => ?_
  subst ey
  obtain ⟨tk, rfl⟩ := ry
  have hm2 := PySem.W.mapOf_K (prog := X.prog) (w := X.w) I2.kIn hl hk
  exact ⟨hm2.typeIs, PySem.wpAny_getItem_of (PySem.strKind_is X.prog X.w x' tk) hm2 (PySem.W.find_K hl hu) ⟨v', H2, I2.tok _, rv, q2⟩⟩
def tKIn (K : PySem.W.Frag) (a : Addr) (ty : TE) : TE := fun σ H Q => ty σ H fun y H1 => ∃ x r, y = .str x ∧ PySem.W.nsIn K a x = some r ∧ Q (.bl r.isSome) H1
end
end L2
namespace L2
open PySem PySem.Spec PyProof.Rows
section
variable {X : Cx} {o i : Expr} {pos : Pos} {td ty : TE}
theorem rel_strs : ∀ l : List (Str × Tok), Vals ((l.map (·.1)).map V.str) (strValues l)
  | [] => .nil
  | p :: r => .cons ⟨p.2, rfl⟩ (rel_strs r)
def rSplit : V → List V → Hp → VK → Prop := fun x vs H Q => ∃ (z y : Str) (ts : List Str), x = .str z ∧ vs = [.str y] ∧ (y.length == 0) = false ∧ z.length ≤ 1000000 ∧ Txt.split z y = ts ∧ ∀ l, H l = none → Q (.ref l) (upd H l (.lst (ts.map V.str)))
theorem mt_split : MtR X "str.split" rSplit := by
  intro pins s σ H x vs v us Q I rx rv h
  obtain ⟨z, y, ts, rfl, rfl, hy, hz, hts, q⟩ := h
  obtain ⟨t, rfl⟩ := rx
  obtain ⟨u, rfl, r1⟩ := vals1 rv
  obtain ⟨tu, rfl⟩ := r1
  have hln := split_le z y
  have fresh : H s.heap.objs.size = none := I.hok.fresh (Nat.le_refl _)
  have fin : ∀ (l : List (Str × Tok)) (tk : Nat), l.map (·.1) = Txt.split z y → EP X pins σ Q (.ref s.heap.objs.size) { s with heap := s.heap.push { cls := .type "list", data := .seq (strValues l).toArray }, toks := tk } := fun l tk e => by
    refine ⟨.ref s.heap.objs.size, _, I.laid (o := .lst (ts.map V.str)) (fun b u' e' => Heap.get?_push_of_some _ e') (Nat.le_refl _) ?_, rfl, q _ fresh⟩
    refine ⟨?_, strValues l, 0, ?_, Heap.get?_push_size _ rfl⟩
    · rw [List.length_map, ← hts, sizeLine_eq]; omega
    · rw [← hts, ← e]; exact rel_strs l
  have hzl : z.length ≤ sizeLine := by rw [sizeLine_eq]; omega
  cases c1 : (decide (z.length < y.length) || decide (Builtin.Str.strKind z < Builtin.Str.strKind y)) with
  | true => exact call_meets F.slot_str_split (typeIs_str _ _ _) F.entry_str_split (F.args_str_split_2 _ _) (meets_str_split_cannot_occur z y t tu c1) (fin [(z, t)] _ (if_pos c1).symm)
  | false =>
    cases c2 : (Builtin.Str.occurrences z y 0 z.length (z.length + 1)).isEmpty with
    | true => exact call_meets F.slot_str_split (typeIs_str _ _ _) F.entry_str_split (F.args_str_split_2 _ _) (meets_str_split_not_found z y t tu c1 hy c2) (fin [(z, t)] _ ((if_neg (by rw [c1]; exact Bool.false_ne_true)).trans (if_pos c2)).symm)
    | false =>
      have es : Txt.split z y = Builtin.Str.partsBetween z (Builtin.Str.occurrences z y 0 z.length (z.length + 1)) y.length := (if_neg (by rw [c1]; exact Bool.false_ne_true)).trans (if_neg (by rw [c2]; exact Bool.false_ne_true))
      have hpl : (Builtin.Str.partsBetween z (Builtin.Str.occurrences z y 0 z.length (z.length + 1)) y.length).length ≤ sizeLine := by rw [← es, sizeLine_eq]; omega
      refine call_meets F.slot_str_split (typeIs_str _ _ _) F.entry_str_split (F.args_str_split_2 _ _) (meets_str_split_sep z y t tu c1 hy c2 hzl hpl) ?_
      have f := fun tk => fin (numbered s.toks (Txt.split z y)) tk (numbered_texts _ _)
      rw [es] at f
      show wants (EP X pins σ Q) X.xe _ { s with toks := _, heap := s.heap.push { cls := .type "list", data := .seq (strsFrom s.toks (Builtin.Str.partsBetween z _ y.length)).toArray } }
      rw [strsFrom_eq]
      exact f _
def rPart : V → List V → Hp → VK → Prop := fun x vs H Q => ∃ (z y a b c : Str), x = .str z ∧ vs = [.str y] ∧ (y.length == 0) = false ∧ z.length ≤ 1000000 ∧ Txt.partition z y = (a, b, c) ∧ ∀ l, H l = none → Q (.ref l) (upd H l (.tup [.str a, .str b, .str c]))
theorem mt_part : MtR X "str.partition" rPart := by
  intro pins s σ H x vs v us Q I rx rv h
  obtain ⟨z, y, a, b, c, rfl, rfl, hy, hz, hp, q⟩ := h
  obtain ⟨t, rfl⟩ := rx
  obtain ⟨u, rfl, r1⟩ := vals1 rv
  obtain ⟨tu, rfl⟩ := r1
  have fresh : H s.heap.objs.size = none := I.hok.fresh (Nat.le_refl _)
  have fin : ∀ (ta tb tc : Tok) (a' b' c' : Str) (tk : Nat), (a', b', c') = (a, b, c) → EP X pins σ Q (.ref s.heap.objs.size) { s with heap := s.heap.push { cls := .type "tuple", data := .seq #[.str a' ta, .str b' tb, .str c' tc] }, toks := tk } := fun ta tb tc a' b' c' tk e => by
    cases e
    refine ⟨.ref s.heap.objs.size, _, I.laid (o := .tup [.str a, .str b, .str c]) (fun b u' e' => Heap.get?_push_of_some _ e') (Nat.le_refl _) ?_, rfl, q _ fresh⟩
    exact ⟨by rw [sizeLine_eq]; simp, [.str a ta, .str b tb, .str c tc], .cons ⟨_, rfl⟩ (.cons ⟨_, rfl⟩ (.cons ⟨_, rfl⟩ .nil)), ⟨_, Heap.get?_push_size _ rfl, rfl, _, rfl⟩⟩
  refine call_meets F.slot_str_partition (typeIs_str _ _ _) F.entry_str_partition (F.args_str_partition_2 _ _) (meets_str_partition z y t tu hy (by rw [sizeLine_eq]; omega)) ?_
  unfold Txt.partition at hp
  revert hp
  cases Builtin.Str.occurrences z y 0 z.length 1 with
  | nil => exact fun hp => fin _ _ _ _ _ _ _ hp
  | cons k r => exact fun hp => fin _ _ _ _ _ _ _ hp
theorem mt_starts : MtR X "str.startswith" (fun x vs H Q => ∃ z y, x = .str z ∧ vs = [.str y] ∧ Q (.bl (Txt.startswith z y)) H) := by
  intro pins s σ H x vs v us Q I rx rv h
  obtain ⟨z, y, rfl, rfl, q⟩ := h
  obtain ⟨t, rfl⟩ := rx
  obtain ⟨u, rfl, r1⟩ := vals1 rv
  obtain ⟨tu, rfl⟩ := r1
  exact SC.startswith ⟨.bl _, H, I, rfl, q⟩
theorem call_intT : CallR X (.type "int") (fun xs H Q => ∃ z n, xs = [.str z] ∧ intText? z = some n ∧ z.length ≤ 640 ∧ Q (.int n) H) := by
  intro pins s σ H xs us Q I r h
  obtain ⟨z, n, rfl, hn, hl, q⟩ := h
  obtain ⟨u, rfl, t, rfl⟩ := vals1 r
  exact PySem.W.KIN.call_text hn hl ⟨.int _, H, I.tok _, ⟨_, rfl⟩, q⟩
end
end L2
namespace L2
open PySem PySem.Spec PyProof.Rows
section
variable {prog : Program} {w : World} {A : Around} {E : Value → Shared → Prop} {s : Shared} {α : Type} [DecidableEq α] [BEq α] [LawfulBEq α]
set_option maxHeartbeats 3200000 in
theorem set_of_tuple (knd : PySem.KeyKind prog w α) {l : Addr} {its : Array Value} {key : Nat → α} {Q : Value → Shared → Prop} (hh : A.handled = none) (hl : s.heap.IsTuple l its) (hkey : ∀ i v, its[i]? = some v → knd.is (key i) v = true ∧ v.scannable = true) (room : its.size + 1 < scanBound)
    (k : ∀ (h' : Heap) (tk : Nat), Filled knd key s.heap.objs.size its.size h' → (∀ b o, s.heap.get? b = some o → h'.get? b = some o) → Q (.ref s.heap.objs.size) { s with heap := h', toks := tk }) :
    wpAny (model prog w) A (call (.type "set") [.ref l]) Q E s := by
  obtain ⟨c, tl, hmro⟩ := F.called_set.mro
  have made := F.called_set.made; have sub := F.called_set.sub; have nt := F.called_set.notType; have cc := F.called_set.canCreate; have tc := F.typeCall_set_1 (.ref l)
  refine wpAny_call (codeAny_of_tree ?_); show wpAny _ _ (callAny (.type "set") _) _ _ _
  refine wpAny_pure ⟨Code.quiet_builtin _ (by decide +kernel), codeAny_builtin F.entry_type_call ?_⟩; rw [Around.under_plain (weight_type_call_type "set" [.ref l] []) rfl]
  (repeat (any_goals (first | assumption | wp_step))); skip
  refine codeAny_mono (code_set_new_1 (.ref l) (E := E) (Q₁ := fun u s₁ => ∃ led : Bool, u = .ref s.heap.objs.size ∧ s₁ = { s with heap := s.heap.push (freshSet led) }) fun led => ⟨led, rfl, rfl⟩) fun r s₁ hr => ?_
  cases r with
  | error e => exact hr
  | ok fl =>
    cases fl with
    | ret u =>
      obtain ⟨led, rfl, rfl⟩ := hr
      have nw : (s.heap.push (freshSet led)).get? s.heap.objs.size = some (freshSet led) := Heap.get?_push_size _ rfl
      have ty : Shared.TypeIs { s with heap := s.heap.push (freshSet led) } (.ref s.heap.objs.size) "set" := ⟨_, nw, rfl⟩
      have li := F.called_set.init.lookup; have bi := F.called_set.init.bind (.ref s.heap.objs.size)
      (repeat (any_goals (first | assumption | wp_step))); skip
      refine codeAny_mono (codeAny_call_builtin (R := wants (fun r s₂ => r = .none ∧ ∃ h' tk, s₂ = { s with heap := h', toks := tk } ∧ Filled knd key s.heap.objs.size its.size h' ∧ ∀ b o, s.heap.get? b = some o → h'.get? b = some o) E) F.called_set.init.plain F.entry_set_init (check_set_init_1 ty ?_)) fun r₂ s₂ hr₂ => ?_
      · obtain ⟨⟨cl, dc, dt, sl⟩, e, ec, nl, ed⟩ := id hl
        simp only at ec ed; subst ec; subst ed
        have e' : (s.heap.push (freshSet led)).get? l = some { cls := .type "tuple", dict := dc, data := .seq its nl, slots := sl } := Heap.get?_push_of_some _ e
        have s1 := F.sub_tuple_set; have s2 := F.sub_tuple_frozenset; have ne : (Value.type "tuple" == Value.type "dict") = false := by decide
        have hl1 : (s.heap.push (freshSet led)).IsTuple l its := ⟨_, e', rfl, nl, rfl⟩
        unfold Builtin.«set.__init__» noKeywords Builtin.Frozenset.updateFrom
        generalize hPI : pyIter = PI; wp_walk; subst hPI
        refine wpAny_pyIter_tuple hl1 ?_; refine wpAny_bind (wpAny_runValue ?_)
        have lt : l < s.heap.objs.size := Heap.lt_size e
        have sz : (s.heap.push (freshSet led)).objs.size = s.heap.objs.size + 1 := Heap.size_push ..
        refine set_fill knd ((Walks.tuple (A := A.in1.in1.in1) (by simp [hh]) _ l (by rw [sz]; exact Nat.ne_of_lt (Nat.lt_succ_of_lt lt)) its).toS) (a := s.heap.objs.size) (by rw [sz]; simp only [List.mem_cons, List.not_mem_nil, or_false, not_or]; exact ⟨Nat.ne_of_lt (Nat.lt_succ_self _), Nat.ne_of_gt lt⟩) key hkey room (its.size - 0) 0 _ (by omega) (Nat.zero_le _)
          ⟨⟨_, Heap.get?_push_size _ rfl, rfl, rfl⟩, hl1.push _⟩ ?f0 ?fR
        case f0 =>
          have g : ((s.heap.push (freshSet led)).push { cls := .type "tuple_iterator", data := .fields #[.ref l, .int 0 0] }).get? s.heap.objs.size = some (freshSet led) := Heap.get?_push_of_some _ nw
          exact SetOf_congr ((setObjOf_fresh (knd := knd) led).setOf g (by unfold scanBound; omega)) (fun _ => rfl) rfl
        case fR =>
          rintro ⟨h', g', d', tk', os'⟩ mv f
          obtain rfl : g' = s.gens := mv.gens
          obtain rfl : d' = s.drawn := mv.drawn
          obtain rfl : os' = s.os := mv.os
          show wpAny _ _ _ _ _ _
          refine wpAny_pure (show wpAny _ _ (ret Value.none) _ _ _ from wpAny_pure ⟨rfl, h', tk', rfl, f, fun b o q => ?_⟩)
          have b1 : b < s.heap.objs.size := Heap.lt_size q
          exact mv.heap b o (by rw [sz]; simp only [List.mem_cons, List.not_mem_nil, or_false, not_or]; exact ⟨Nat.ne_of_lt b1, Nat.ne_of_lt (Nat.lt_succ_of_lt b1)⟩) (Heap.get?_push_of_some _ (Heap.get?_push_of_some _ q))
      · cases r₂ with
        | error e => exact hr₂
        | ok fl₂ =>
          cases fl₂ with
          | ret r =>
            obtain ⟨rfl, h', tk, rfl, f, kk⟩ := hr₂
            (repeat (any_goals (first | assumption | wp_step))); exact k _ _ f kk
          | _ => exact hr₂.elim
    | _ => exact hr.elim
end
section
variable {X : Cx}
theorem call_setT (hc : X.calm = true) : CallR X (.type "set") (fun xs H Q => ∃ (p : Addr) (ks : List Key), xs = [.ref p] ∧ SqT X.K H p (ks.map kV) ∧ ks.length < 4000 ∧
    ∀ q, H q = none → Q (.ref q) (upd H q (setX X.prog X.w q (fun k => (dd ks).any (· == k)) (dd ks).length))) := by
  intro pins s σ H xs us Q I r h
  obtain ⟨p, ks, rfl, hq, hlen, q⟩ := h
  obtain ⟨u, rfl, r1⟩ := vals1 r
  cases r1
  obtain ⟨its, rv, pl, hz⟩ := I.tuple hq
  have hl := rv.length
  rw [List.length_map] at hl
  refine set_of_tuple (mixKind X.prog X.w) (key := fun i => ks.getD i (.inl 0)) (I.ok.hd hc) (show s.heap.IsTuple p its.toArray from pl) (fun i v hv => ?_) (by rw [List.size_toArray]; unfold scanBound; omega) fun h' tk f kk => ?_
  · have hv : its[i]? = some v := by simpa using hv
    have hi : i < its.length := (List.getElem?_eq_some_iff.mp hv).1
    obtain ⟨u, h1, h2⟩ := rv.get (i := i) (x := kV (ks[i]'(by omega))) (by rw [List.getElem?_map, List.getElem?_eq_getElem (by omega)]; rfl)
    rw [hv] at h1
    cases h1
    have e : ks.getD i (.inl 0) = ks[i]'(by omega) := by simp [List.getD, List.getElem?_eq_getElem (show i < ks.length by omega)]
    show (mixKind X.prog X.w).is (ks.getD i (.inl 0)) v = true ∧ _
    rw [e, mixKind_is]
    exact key_rel h2
  · have f : h'.SetOf (mixKind X.prog X.w) s.heap.objs.size (fun k => (dd ks).any (· == k)) (dd ks).length := by
      have f' : h'.SetOf (mixKind X.prog X.w) s.heap.objs.size (fun k => (metK (fun i => ks.getD i (.inl 0)) its.toArray.size).any (· == k)) (metK (fun i => ks.getD i (.inl 0)) its.toArray.size).length := f
      have ez : its.toArray.size = ks.length := by rw [List.size_toArray]; exact hl.symm
      rw [ez, metK_dd] at f'
      exact f'
    refine ⟨.ref s.heap.objs.size, _, I.laid (h' := h') (t' := tk) (o := setX X.prog X.w s.heap.objs.size (fun k => (dd ks).any (· == k)) (dd ks).length) kk (Nat.le_refl _) ⟨f, ?_, fun h1 h2 g k2 => ?_⟩, rfl, q _ (I.hok.fresh (Nat.le_refl _))⟩
    · obtain ⟨o, _, _, _, e, _⟩ := f
      exact ⟨o, e⟩
    · obtain ⟨o, es, ep, t, e, rest⟩ := g
      exact ⟨o, es, ep, t, k2 o e, rest⟩
theorem call_setTK (K : PySem.W.Frag) (hK : X.K = K) (hc : X.calm = true) {P : Program} {w : World} (hP : X.prog = P := by rfl) (hw : X.w = w := by rfl) : CallR X (.type "set") (fun xs H Q => ∃ (p : Addr) (ks : List Key), xs = [.ref p] ∧ SqT K H p (ks.map kV) ∧ ks.length < 4000 ∧
    ∀ q, H q = none → Q (.ref q) (upd H q (setX P w q (fun k => (dd ks).any (· == k)) (dd ks).length))) := by subst hK; subst hP; subst hw; exact call_setT hc
end
end L2
namespace L2
open PySem PySem.Spec PyProof.Rows
section
variable {P : Program} {w : World} {A : Around} {E : Value → Shared → Prop} {s : Shared}
theorem tup_step {j t : Addr} {k : Nat} {its : Array Value} {v : Value} {Q : Value → Shared → Prop} (ji : s.heap.IsTupleIter j t k) (tt : s.heap.IsTuple t its) (hv : its[k]? = some v)
    (q : ∀ g, g.IsTupleIter j t (k + 1) → Heap.SameBut j s.heap g → Q v { s with heap := g }) : wpAny (model P w) A (Builtin.SmallTypes.nextOf (.ref j)) Q E s := by
  obtain ⟨ob, e1, e2, e3⟩ := id ji
  obtain ⟨ot, f1, _, nt, f3⟩ := tt
  unfold Builtin.SmallTypes.nextOf
  refine wpAny_bind (wpAny_callSpecial?_slot (name := Str.ofString "__next__") ji.typeIs F.slot_tuple_iterator_next (wpAny_call_entry F.slot_tuple_iterator_next ji.typeIs F.entry_tuple_iterator_next ?_ (F.args_tuple_iterator_next_1 _)))
  refine (show wpAny _ _ (field (.ref j) 0 >>= _) _ _ s from wpAny_bind (wpAny_field e1 e3 (x := .ref t) rfl ?_))
  refine (show wpAny _ _ (if (Value.ref t == Value.none) = true then _ else (field (.ref j) 1 >>= _)) _ _ s from ?_)
  rw [if_neg (show ¬ (Value.ref t == Value.none) = true from fun z => Bool.false_ne_true z)]
  refine wpAny_bind (wpAny_field e1 e3 (x := .int k 0) rfl ?_)
  refine (show wpAny _ _ (seqItems? (.ref t) >>= _) _ _ s from wpAny_bind (wpAny_seqItems f1 f3 ?_))
  simp only [Int.toNat_natCast, hv]
  refine wpAny_bind (wpAny_setField e1 e3 (by simp) (wpAny_pure ⟨v, rfl, wpAny_pure (q _ ⟨_, Heap.get?_update_self _ e1 (Obj.isFreed_of_fields (Obj.data_mapFields e3 _)), (Obj.cls_mapFields ..).trans e2, ?_⟩ (Heap.SameBut.update ..))⟩))
  rw [Obj.data_mapFields e3]
  simp [rawInt]
theorem tup_stop {j t : Addr} {k : Nat} {its : Array Value} {Q : Value → Shared → Prop} (hh : A.handled = none) (ji : s.heap.IsTupleIter j t k) (tt : s.heap.IsTuple t its) (hv : its[k]? = none)
    (q : ∀ g x, Heap.ExtBut j s.heap g → (∃ ob, g.get? x = some ob ∧ ob.cls = .type "StopIteration") → E (.ref x) { s with heap := g }) : wpAny (model P w) A (Builtin.SmallTypes.nextOf (.ref j)) Q E s := by
  obtain ⟨ob, e1, e2, e3⟩ := id ji
  obtain ⟨ot, f1, _, nt, f3⟩ := tt
  unfold Builtin.SmallTypes.nextOf
  refine wpAny_bind (wpAny_callSpecial?_slot (name := Str.ofString "__next__") ji.typeIs F.slot_tuple_iterator_next (wpAny_call_entry F.slot_tuple_iterator_next ji.typeIs F.entry_tuple_iterator_next ?_ (F.args_tuple_iterator_next_1 _)))
  refine (show wpAny _ _ (field (.ref j) 0 >>= _) _ _ s from wpAny_bind (wpAny_field e1 e3 (x := .ref t) rfl ?_))
  refine (show wpAny _ _ (if (Value.ref t == Value.none) = true then _ else (field (.ref j) 1 >>= _)) _ _ s from ?_)
  rw [if_neg (show ¬ (Value.ref t == Value.none) = true from fun z => Bool.false_ne_true z)]
  refine wpAny_bind (wpAny_field e1 e3 (x := .int k 0) rfl ?_)
  refine (show wpAny _ _ (seqItems? (.ref t) >>= _) _ _ s from wpAny_bind (wpAny_seqItems f1 f3 ?_))
  simp only [Int.toNat_natCast, hv]
  refine wpAny_bind (wpAny_rule (wpAny_bind (wpAny_setField e1 e3 (by simp) (show wpAny _ _ (newExc (.type "StopIteration") [] >>= _) _ _ _ from wpAny_bind ?_))))
  simp only [newExc, newTuple]
  refine wpAny_bind (wpAny_newObj_type (wpAny_bind (m := firstArgMember _ _) (wpAny_of_eq (a := Value.none) (by first | rfl | (simp only [firstArgMember]; rfl)) (wpAny_newObj_type ?_ (by size_fits)))) (by size_fits))
  simp only [raiseNew]
  refine wpAny_bind (wpAny_handled ?_)
  first | rw [show A.in1.handled = none from hh] | rw [hh]
  exact wpAny_bind (wpAny_pure (wpAny_throw (q _ _ (((Heap.SameBut.update ..).extBut.push _).push _) ⟨_, Heap.get?_push_size _ rfl, rfl⟩)))
def OffZ (z o2 j1 j2 : Addr) (h g : Heap) : Prop := ∀ c ob, c ≠ z → c ≠ o2 → c ≠ j1 → c ≠ j2 → h.get? c = some ob → g.get? c = some ob
theorem zipT_step {z o1 o2 j1 j2 t l : Addr} {k1 k2 : Nat} {xs ys : Array Value} {x y a b : Value} {Q : Value → Shared → Prop} (D : ZipApart z o1 o2 j1 j2 t l)
    (z0 : IsZip s.heap z o1 o2 .none) (p1 : IsPair s.heap o1 (.ref j1) (.ref j2)) (p2 : IsPair s.heap o2 a b)
    (i1 : s.heap.IsTupleIter j1 t k1) (i2 : s.heap.IsListIter j2 l k2) (tt : s.heap.IsTuple t xs) (ll : s.heap.IsList l ys) (hx : xs[k1]? = some x) (hy : ys[k2]? = some y)
    (q : ∀ g, IsZip g z o1 o2 (rawInt s.heap.objs.size) → IsPair g o2 x y → g.IsTupleIter j1 t (k1 + 1) → g.IsListIter j2 l (k2 + 1) → IsPair g s.heap.objs.size x y → g.objs.size = s.heap.objs.size + 1 →
      OffZ z o2 j1 j2 s.heap g → Q (.ref s.heap.objs.size) { s with heap := g }) :
    wpAny (model P w) A (Builtin.«zip.__next__» ⟨[.ref z], []⟩) (fun fin s' => ∃ v, fin = .done (.ret v) ∧ Q v s') E s := by
  refine (show wpAny _ _ (field (.ref z) 2 >>= _) _ _ _ from wpAny_bind (wpAny_field z0 rfl (x := .bool false) rfl ?_))
  refine (show wpAny _ _ (field (.ref z) 3 >>= _) _ _ _ from wpAny_bind (wpAny_field z0 rfl (x := .ref o1) rfl (wpAny_bind (wpAny_seqItems p1 rfl ?_))))
  refine (show wpAny _ _ (Builtin.SmallTypes.ownedTupleIsFree (.ref z) >>= _) _ _ _ from wpAny_bind ?_)
  unfold Builtin.SmallTypes.ownedTupleIsFree
  refine wpAny_bind (wpAny_field z0 rfl (x := .none) rfl (wpAny_pure ?_))
  simp only [if_true]
  refine wpAny_bind (wpAny_rule (wpAny_bind (wpAny_field z0 rfl (x := .ref o2) rfl (wpAny_bind (wpAny_setField_rec z0 (by simp) fun g1 z1 s1 => ?_)))))
  replace z1 : IsZip g1 z o1 o2 .ellipsis := z1
  refine wpAny_bind ?_
  simp only [List.zipIdx_cons, List.zipIdx_nil, List.forIn_cons, List.forIn_nil]
  refine wpAny_bind (wpAny_bind (wpAny_onRaise (show wpAny _ _ (Builtin.SmallTypes.nextOf (.ref j1) >>= _) _ _ _ from wpAny_bind (tup_step (i1.extBut s1.extBut D.i1z) (tt.extBut s1.extBut D.l1z) hx fun g2 i12 s2 => wpAny_pure ?_))))
  have p22 : IsPair g2 o2 a b := s2.extBut _ _ D.TOi1 (s1.extBut _ _ D.TOz p2)
  refine wpAny_bind (wpAny_seqItems p22 rfl (wpAny_bind (wpAny_updateSeq_pair p22 fun g3 p23 s3 => ?_)))
  replace p23 : IsPair g3 o2 x b := p23
  refine wpAny_bind (wpAny_letGo (wpAny_pure (wpAny_bind (wpAny_bind (wpAny_onRaise ?_)))))
  refine (show wpAny _ _ (Builtin.SmallTypes.nextOf (.ref j2) >>= _) _ _ _ from wpAny_bind (wpAny_nextOf_list_item (((i2.extBut s1.extBut D.i2z).extBut s2.extBut D.i12.symm).extBut s3.extBut D.TOi2.symm)
    (((ll.extBut s1.extBut D.l2z).extBut s2.extBut D.l2i1).extBut s3.extBut D.l2TO) hy fun g4 i24 s4 => wpAny_pure ?_))
  have p24 : IsPair g4 o2 x b := s4.extBut _ _ D.TOi2 p23
  refine wpAny_bind (wpAny_seqItems p24 rfl (wpAny_bind (wpAny_updateSeq_pair p24 fun g5 p25 s5 => ?_)))
  replace p25 : IsPair g5 o2 x y := p25
  refine wpAny_bind (wpAny_letGo (wpAny_pure (wpAny_pure (wpAny_bind (wpAny_seqItems p25 rfl (wpAny_bind (wpAny_newTuple ?_)))))))
  have sz : g5.objs.size = s.heap.objs.size := by rw [s5.1, s4.1, s3.1, s2.1, s1.1]
  have z5 : IsZip g5 z o1 o2 .ellipsis := s5.extBut _ _ D.TOz.symm (s4.extBut _ _ D.i2z.symm (s3.extBut _ _ D.TOz.symm (s2.extBut _ _ D.i1z.symm z1)))
  have k5 : OffZ z o2 j1 j2 s.heap g5 := fun c o c1 c2 c3 c4 e => s5.extBut _ _ c2 (s4.extBut _ _ c4 (s3.extBut _ _ c2 (s2.extBut _ _ c3 (s1.extBut _ _ c1 e))))
  have i15 : g5.IsTupleIter j1 t (k1 + 1) := ((i12.extBut s3.extBut D.TOi1.symm).extBut s4.extBut D.i12).extBut s5.extBut D.TOi1.symm
  have i25 : g5.IsListIter j2 l (k2 + 1) := i24.extBut s5.extBut D.TOi2.symm
  have zl : z < g5.objs.size := Heap.lt_size z5
  refine (show wpAny _ _ (Builtin.SmallTypes.ownedTupleHandOut (.ref z) (.ref g5.objs.size) >>= _) _ _ _ from wpAny_bind ?_)
  unfold Builtin.SmallTypes.ownedTupleHandOut
  have z6 : IsZip (g5.push { cls := .type "tuple", data := .seq #[x, y] }) z o1 o2 .ellipsis := Heap.get?_push_of_some _ z5
  refine wpAny_bind (wpAny_setField_rec z6 (by simp) fun g7 z7 s7 => ?_)
  replace z7 : IsZip g7 z o1 o2 (rawInt g5.objs.size) := z7
  refine wpAny_setField_rec z7 (by simp) fun g8 z8 s8 => ?_
  replace z8 : IsZip g8 z o1 o2 (rawInt g5.objs.size) := z8
  have up : ∀ c ob, c ≠ z → g5.get? c = some ob → g8.get? c = some ob := fun c ob c1 e => s8.extBut _ _ c1 (s7.extBut _ _ c1 (Heap.get?_push_of_some _ e))
  have pn : IsPair g8 g5.objs.size x y := s8.extBut _ _ (Nat.ne_of_gt zl) (s7.extBut _ _ (Nat.ne_of_gt zl) (Heap.get?_push_size _ rfl))
  have sz8 : g8.objs.size = g5.objs.size + 1 := by rw [s8.1, s7.1, Heap.size_push]
  rw [sz] at z8 pn sz8
  refine wpAny_pure ⟨_, rfl, (show Q (.ref g5.objs.size) _ from ?_)⟩
  rw [sz]
  exact q g8 z8 (up _ _ D.TOz p25) (i15.at fun ob e => up _ ob D.i1z e) (i25.at fun ob e => up _ ob D.i2z e) pn sz8 fun c ob c1 c2 c3 c4 e => up c ob c1 (k5 c ob c1 c2 c3 c4 e)
theorem zipT_stop {z o1 o2 j1 j2 t l : Addr} {k1 : Nat} {xs : Array Value} {a b : Value} {Q : Fin → Shared → Prop} (hh : A.handled = none) (D : ZipApart z o1 o2 j1 j2 t l)
    (z0 : IsZip s.heap z o1 o2 .none) (p1 : IsPair s.heap o1 (.ref j1) (.ref j2)) (p2 : IsPair s.heap o2 a b) (i1 : s.heap.IsTupleIter j1 t k1) (tt : s.heap.IsTuple t xs) (hx : xs[k1]? = none)
    (q : ∀ g e, OffZ z o2 j1 j2 s.heap g → (∃ ob, g.get? e = some ob ∧ ob.cls = .type "StopIteration") → E (.ref e) { s with heap := g }) :
    wpAny (model P w) A (Builtin.«zip.__next__» ⟨[.ref z], []⟩) Q E s := by
  refine (show wpAny _ _ (field (.ref z) 2 >>= _) _ _ _ from wpAny_bind (wpAny_field z0 rfl (x := .bool false) rfl ?_))
  refine (show wpAny _ _ (field (.ref z) 3 >>= _) _ _ _ from wpAny_bind (wpAny_field z0 rfl (x := .ref o1) rfl (wpAny_bind (wpAny_seqItems p1 rfl ?_))))
  refine (show wpAny _ _ (Builtin.SmallTypes.ownedTupleIsFree (.ref z) >>= _) _ _ _ from wpAny_bind ?_)
  unfold Builtin.SmallTypes.ownedTupleIsFree
  refine wpAny_bind (wpAny_field z0 rfl (x := .none) rfl (wpAny_pure ?_))
  simp only [if_true]
  refine wpAny_bind (wpAny_rule (wpAny_bind (wpAny_field z0 rfl (x := .ref o2) rfl (wpAny_bind (wpAny_setField_rec z0 (by simp) fun g1 z1 s1 => ?_)))))
  replace z1 : IsZip g1 z o1 o2 .ellipsis := z1
  refine wpAny_bind ?_
  simp only [List.zipIdx_cons, List.zipIdx_nil, List.forIn_cons, List.forIn_nil]
  refine wpAny_bind (wpAny_bind (wpAny_onRaise (show wpAny _ _ (Builtin.SmallTypes.nextOf (.ref j1) >>= _) _ _ _ from wpAny_bind (tup_stop hh (i1.extBut s1.extBut D.i1z) (tt.extBut s1.extBut D.l1z) hx fun g2 e s2 he => ?_))))
  obtain ⟨oe, he1, he2⟩ := he
  have z2 : IsZip g2 z o1 o2 .ellipsis := s2 _ _ D.i1z.symm z1
  have ez : e ≠ z := fun c => by subst c; rw [z2] at he1; cases he1; simp at he2
  exact wpAny_setField_rec z2 (by simp) fun g3 _ s3 => q g3 e (fun c ob c1 _ c3 _ d => s3.extBut _ _ c1 (s2 _ _ c3 (s1.extBut _ _ c1 d))) ⟨oe, s3.extBut _ _ ez he1, he2⟩
theorem zipT_item {z o1 o2 j1 j2 t l : Addr} {k1 k2 : Nat} {xs ys : Array Value} {x y a b : Value} {Q : Option Value → Shared → Prop} (D : ZipApart z o1 o2 j1 j2 t l)
    (z0 : IsZip s.heap z o1 o2 .none) (p1 : IsPair s.heap o1 (.ref j1) (.ref j2)) (p2 : IsPair s.heap o2 a b)
    (i1 : s.heap.IsTupleIter j1 t k1) (i2 : s.heap.IsListIter j2 l k2) (tt : s.heap.IsTuple t xs) (ll : s.heap.IsList l ys) (hx : xs[k1]? = some x) (hy : ys[k2]? = some y)
    (q : ∀ g, IsZip g z o1 o2 (rawInt s.heap.objs.size) → IsPair g o2 x y → g.IsTupleIter j1 t (k1 + 1) → g.IsListIter j2 l (k2 + 1) → IsPair g s.heap.objs.size x y → g.objs.size = s.heap.objs.size + 1 →
      OffZ z o2 j1 j2 s.heap g → Q (some (.ref s.heap.objs.size)) { s with heap := g }) : wpAny (model P w) A (pyNext (.ref z)) Q E s := by
  have ty : s.TypeIs (.ref z) "zip" := ⟨_, z0, rfl⟩
  unfold pyNext
  refine wpAny_bind (wpAny_attempt (wpAny_callSpecial?_slot (name := Str.ofString "__next__") ty F.slot_zip_next (wpAny_call_entry F.slot_zip_next ty F.entry_zip_next (zipT_step D z0 p1 p2 i1 i2 tt ll hx hy fun g a1 a2 a3 a4 a5 a6 a7 => ?_) (F.args_zip_next_1 _))))
  exact wpAny_pure (q g a1 a2 a3 a4 a5 a6 a7)
theorem zipT_end {z o1 o2 j1 j2 t l : Addr} {k1 : Nat} {xs : Array Value} {a b : Value} {Q : Option Value → Shared → Prop} (hh : A.handled = none) (D : ZipApart z o1 o2 j1 j2 t l)
    (z0 : IsZip s.heap z o1 o2 .none) (p1 : IsPair s.heap o1 (.ref j1) (.ref j2)) (p2 : IsPair s.heap o2 a b) (i1 : s.heap.IsTupleIter j1 t k1) (tt : s.heap.IsTuple t xs) (hx : xs[k1]? = none)
    (q : ∀ g, OffZ z o2 j1 j2 s.heap g → Q none { s with heap := g }) : wpAny (model P w) A (pyNext (.ref z)) Q E s := by
  have ty : s.TypeIs (.ref z) "zip" := ⟨_, z0, rfl⟩
  unfold pyNext
  refine wpAny_bind (wpAny_attempt (wpAny_callSpecial?_slot (name := Str.ofString "__next__") ty F.slot_zip_next (wpAny_call_entry F.slot_zip_next ty F.entry_zip_next (zipT_stop hh D z0 p1 p2 i1 tt hx fun g e hk he => ?_) (F.args_zip_next_1 _))))
  obtain ⟨ob, h1, h2⟩ := he
  exact wpAny_bind (wpAny_isInstance (T := "StopIteration") (b := true) ⟨ob, h1, h2⟩ isSubtype_stop (wpAny_pure (q g hk)))
abbrev zT1 (h : Heap) (t : Addr) : Heap := h.push { cls := .type "tuple_iterator", data := .fields #[.ref t, .int 0 0] }
abbrev zT2 (h : Heap) (t l : Addr) : Heap := (zT1 h t).push { cls := .type "list_iterator", data := .fields #[.ref l, .int 0 0] }
abbrev zT3 (h : Heap) (t l : Addr) : Heap := (zT2 h t l).push { cls := .type "tuple", data := .seq #[.ref h.objs.size, .ref (zT1 h t).objs.size] }
abbrev zT4 (h : Heap) (t l : Addr) : Heap := (zT3 h t l).push { cls := .type "tuple", data := .seq #[.none, .none] }
abbrev zT5 (h : Heap) (t l : Addr) : Heap := (zT4 h t l).push { cls := .type "zip", data := .fields #[.none, .bool false, .bool false, .ref (zT2 h t l).objs.size, .ref (zT3 h t l).objs.size] }
theorem meets_zipT (t l : Addr) (xs ys : Array Value) :
    Meets (Builtin.«zip.__new__» ⟨[.type "zip", .ref t, .ref l], []⟩) (fun _ R s => s.heap.IsTuple t xs ∧ s.heap.IsList l ys ∧ R (.ok (.ret (.ref (zT4 s.heap t l).objs.size))) { s with heap := zT5 s.heap t l }) :=
  .of_wp fun prog w A R s h => by
    obtain ⟨hp, g, d, tk, os⟩ := s; obtain ⟨h1, h2, h⟩ := h
    have hsub := sub_zip
    have e1 : Heap.IsTuple (Shared.heap ⟨hp, g, d, tk, os⟩) t xs := h1
    have e2 : Heap.IsList (Shared.heap ⟨hp.push { cls := .type "tuple_iterator", data := .fields #[.ref t, .int 0 0] }, g, d, tk, os⟩) l ys := Heap.IsList.push h2 _
    wp_walk using wpAny_pyIter_tuple e1, wpAny_pyIter_list e2
    exact ⟨_, rfl, h⟩
theorem call_zipT {t l : Addr} {xs ys : Array Value} {Q : Value → Shared → Prop} (h1 : s.heap.IsTuple t xs) (h2 : s.heap.IsList l ys)
    (q : ∀ g, IsZip g (s.heap.objs.size + 4) (s.heap.objs.size + 2) (s.heap.objs.size + 3) .none → IsPair g (s.heap.objs.size + 2) (.ref s.heap.objs.size) (.ref (s.heap.objs.size + 1)) →
      IsPair g (s.heap.objs.size + 3) .none .none → g.IsTupleIter s.heap.objs.size t 0 → g.IsListIter (s.heap.objs.size + 1) l 0 → (∀ c o, s.heap.get? c = some o → g.get? c = some o) → Q (.ref (s.heap.objs.size + 4)) { s with heap := g }) :
    wpAny (model P w) A (call (.type "zip") [.ref t, .ref l]) Q E s := by
  refine callType_new F.called_zip (by decide) (F.typeCall_zip_2 _ _) (F.newCall_zip_2 _ _) (fun ob => F.args_object_init_3 ob _ _) F.entry_zip_new (meets_zipT t l xs ys) ⟨h1, h2, ?_⟩
  have z1 : (zT1 s.heap t).objs.size = s.heap.objs.size + 1 := Heap.size_push ..
  have z2 : (zT2 s.heap t l).objs.size = s.heap.objs.size + 2 := by rw [Heap.size_push, z1]
  have z3 : (zT3 s.heap t l).objs.size = s.heap.objs.size + 3 := by rw [Heap.size_push, z2]
  have z4 : (zT4 s.heap t l).objs.size = s.heap.objs.size + 4 := by rw [Heap.size_push, z3]
  have g5 : (zT5 s.heap t l).get? (zT4 s.heap t l).objs.size = some _ := Heap.get?_push_size _ rfl
  have g4 : (zT5 s.heap t l).get? (zT3 s.heap t l).objs.size = some _ := Heap.get?_push_of_some _ (Heap.get?_push_size _ rfl)
  have g3 : (zT5 s.heap t l).get? (zT2 s.heap t l).objs.size = some _ := Heap.get?_push_of_some _ (Heap.get?_push_of_some _ (Heap.get?_push_size _ rfl))
  have g2 : (zT5 s.heap t l).get? (zT1 s.heap t).objs.size = some _ := Heap.get?_push_of_some _ (Heap.get?_push_of_some _ (Heap.get?_push_of_some _ (Heap.get?_push_size _ rfl)))
  have g1 : (zT5 s.heap t l).get? s.heap.objs.size = some _ := Heap.get?_push_of_some _ (Heap.get?_push_of_some _ (Heap.get?_push_of_some _ (Heap.get?_push_of_some _ (Heap.get?_push_size _ rfl))))
  show _ ∧ _
  rw [z2, z3, z4] at g5
  rw [z1, z2] at g3
  rw [z3] at g4
  rw [z1] at g2
  rw [z4]
  exact ⟨⟨_, g5, rfl⟩, q _ g5 g3 g4 ⟨_, g1, rfl, rfl⟩ ⟨_, g2, rfl, rfl⟩ fun c ob d => Heap.get?_push_of_some _ (Heap.get?_push_of_some _ (Heap.get?_push_of_some _ (Heap.get?_push_of_some _ (Heap.get?_push_of_some _ d))))⟩
end
theorem inv_turns {X : Cx} {pins : List (Addr × Obj)} {σ : St} {H : Hp} {s : Shared} {h' : Heap} {t' : Nat} {ch : List Addr} (I : Inv X pins σ H s) (k : ∀ b o, b ∉ ch → s.heap.get? b = some o → h'.get? b = some o) (hf : ∀ b ∈ ch, FpOk X pins H b) :
    Inv X pins σ H { s with heap := h', toks := t' } := by
  have nch : ∀ b u, H b = some u → b ∉ ch := fun b u e z => by rw [(hf b z).1] at e; cases e
  refine I.step (g' := s.gens) (d' := s.drawn) (ch := ch) (fun b hb => ?_) (fun b o _ _ hc e _ => k b o hc e) (fun b o _ _ hc e _ => ⟨o.slots, k b o hc e⟩) (fun _ _ _ _ n => n)
    (fun b o hc e => ⟨o, k b o hc e⟩) (fun _ _ e => e) (fun _ _ _ e => e) (fun b ps e => ⟨#[], by rw [e]; simp⟩) (fun m hm => ?_) (fun b u e => ?_) I.bare
  · obtain ⟨_, f1, _, f3, f4, f5⟩ := hf b hb
    exact ⟨f3, f1, f4, f5⟩
  · obtain ⟨o, es, ep, ho, r⟩ := hm
    exact ⟨o, es, ep, k _ o (fun z => (hf _ z).2.1 rfl) ho, r⟩
  · refine (I.hok b u e).stay (fun c v hc q => k c v ?_ q) (fun _ q => q) fun _ _ q => q
    rcases hc with z | z
    · rw [z]; exact nch b u e
    · exact nch c _ z
def Itz (K : PySem.W.Frag) (t l : Addr) : It :=
  ⟨fun i H => ∃ xs ys x y, SqT K H t xs ∧ SqL K H l ys ∧ xs[i]? = some x ∧ ys[i]? = some y,
   fun i H v H' => ∃ T x y, H T = none ∧ v = .ref T ∧ H' = upd H T (.tup [x, y]) ∧ ∀ xs ys, SqT K H t xs → SqL K H l ys → xs[i]? = some x ∧ ys[i]? = some y,
   fun i H => ∃ xs, SqT K H t xs ∧ xs.length ≤ i⟩
theorem turn_zip {P : Program} {w : World} {K : PySem.W.Frag} {elts : List Expr} {x1 : Nat} {pos : Pos} {z o1 o2 j1 j2 t l : Addr} (D : ZipApart z o1 o2 j1 j2 t l) :
    Turn P w K (.Tuple elts x1 pos) (Itz K t l) [z, o1, o2, j1, j2] z (fun i h => IsZip h z o1 o2 .none ∧ IsPair h o1 (.ref j1) (.ref j2) ∧ (∃ a b, IsPair h o2 a b) ∧ h.IsTupleIter j1 t i ∧ h.IsListIter j2 l i) where
  mem := by simp
  obj := fun i h st b hb => by
    obtain ⟨a1, a2, ⟨_, _, a3⟩, ⟨ob4, a4, _, d4⟩, ⟨ob5, a5, _, d5⟩⟩ := st
    simp only [List.mem_cons, List.not_mem_nil, or_false] at hb
    rcases hb with rfl | rfl | rfl | rfl | rfl
    · exact ⟨_, a1, fun v e => by cases e⟩
    · exact ⟨_, a2, fun v e => by cases e⟩
    · exact ⟨_, a3, fun v e => by cases e⟩
    · exact ⟨_, a4, fun v e => by rw [d4] at e; cases e⟩
    · exact ⟨_, a5, fun v e => by rw [d5] at e; cases e⟩
  keep := fun i h h' st k => by
    obtain ⟨a1, a2, ⟨a, b, a3⟩, a4, a5⟩ := st
    exact ⟨k z (by simp) _ a1, k o1 (by simp) _ a2, ⟨a, b, k o2 (by simp) _ a3⟩, a4.at fun ob e => k j1 (by simp) ob e, a5.at fun ob e => k j2 (by simp) ob e⟩
  item := by
    intro X hP hw hK hc i pins s σ H E I hf st hg
    subst hP hw hK
    obtain ⟨xs, ys, x, y, hq1, hq2, hx, hy⟩ := hg
    obtain ⟨its, rv, p, hz⟩ := I.tuple hq1
    obtain ⟨its2, rv2, p2, hz2⟩ := I.list hq2
    obtain ⟨u, hu, ru⟩ := rv.get hx
    obtain ⟨u2, hu2, ru2⟩ := rv2.get hy
    obtain ⟨a1, a2, ⟨a, b, a3⟩, a4, a5⟩ := st
    refine zipT_item D a1 a2 a3 a4 a5 (show s.heap.IsTuple t its.toArray from p) p2.isList (x := u) (y := u2) (by simpa using hu) (by simpa using hu2) fun g b1 b2 b3 b4 b5 b6 off => ?_
    refine ⟨_, rfl, wpAny_letOwnedTupleGo_zip b1 fun g' c1 sb => ?_⟩
    have lt : ∀ c ∈ [z, o1, o2, j1, j2], c ≠ s.heap.objs.size := fun c hc' e => by
      have hs : ∃ ob, s.heap.get? c = some ob := by
        simp only [List.mem_cons, List.not_mem_nil, or_false] at hc'
        rcases hc' with rfl | rfl | rfl | rfl | rfl
        · exact ⟨_, a1⟩
        · exact ⟨_, a2⟩
        · exact ⟨_, a3⟩
        · obtain ⟨ob, e, _⟩ := a4; exact ⟨ob, e⟩
        · obtain ⟨ob, e, _⟩ := a5; exact ⟨ob, e⟩
      obtain ⟨ob, h⟩ := hs
      rw [e] at h
      exact absurd (Heap.lt_size h) (Nat.lt_irrefl _)
    have fresh : H s.heap.objs.size = none := I.hok.fresh (Nat.le_refl _)
    have I1 : Inv X pins σ (upd H s.heap.objs.size (.tup [x, y])) { s with heap := s.heap.push { cls := .type "tuple", data := .seq #[u, u2] }, toks := s.toks } :=
      I.laid (fun b o e => Heap.get?_push_of_some _ e) (Nat.le_refl _) ⟨by rw [sizeLine_eq]; simp, [u, u2], .cons ru (.cons ru2 .nil), ⟨_, Heap.get?_push_size _ rfl, rfl, _, rfl⟩⟩
    have I2 := inv_turns (h' := g') (t' := s.toks) (ch := [z, o1, o2, j1, j2]) I1 (fun b o hb e => ?_) (fun b hb => ?_)
    · refine ⟨.ref s.heap.objs.size, _, I2, rfl, ⟨_, x, y, fresh, rfl, rfl, fun xs' ys' h1 h2 => ⟨by rw [I.tuple_inj h1 hq1]; exact hx, by rw [I.list_inj h2 hq2]; exact hy⟩⟩, ⟨c1, sb.extBut _ _ D.TIz (off _ _ D.TIz D.TITO D.TIi1 D.TIi2 a2), ⟨_, _, sb.extBut _ _ D.TOz b2⟩, b3.extBut sb.extBut D.i1z, b4.extBut sb.extBut D.i2z⟩, fun b hb => ?_⟩
      rw [upd_ne (lt b hb)]
      exact (hf b hb).1
    · have nb : b ≠ z ∧ b ≠ o1 ∧ b ≠ o2 ∧ b ≠ j1 ∧ b ≠ j2 := by simpa using hb
      by_cases eb : b = s.heap.objs.size
      · subst eb
        rw [Heap.get?_push_size _ rfl] at e
        cases e
        exact sb.extBut _ _ nb.1 b5
      · have e' : s.heap.get? b = some o := by
          rcases Heap.get?_push_cases e with ⟨z2, _⟩ | e2
          · exact absurd z2 eb
          · exact e2
        exact sb.extBut _ _ nb.1 (off b o nb.1 nb.2.2.1 nb.2.2.2.1 nb.2.2.2.2 e')
    · obtain ⟨f0, f1⟩ := hf b hb
      exact ⟨by rw [upd_ne (lt b hb)]; exact f0, f1⟩
  done := by
    intro X hP hw hK hc i pins s σ H E I hf st hg
    subst hP hw hK
    obtain ⟨xs, hq, hx⟩ := hg
    obtain ⟨its, rv, p, hz⟩ := I.tuple hq
    have hl := rv.length
    obtain ⟨a1, a2, ⟨a, b, a3⟩, a4, a5⟩ := st
    refine zipT_end (I.ok.hd hc) D a1 a2 a3 a4 (show s.heap.IsTuple t its.toArray from p) (by simp; omega) fun g off => ⟨rfl, inv_turns (t' := s.toks) (ch := [z, o1, o2, j1, j2]) I (fun b o hb e => ?_) hf⟩
    have nb : b ≠ z ∧ b ≠ o1 ∧ b ≠ o2 ∧ b ≠ j1 ∧ b ≠ j2 := by simpa using hb
    exact off b o nb.1 nb.2.2.1 nb.2.2.2.1 nb.2.2.2.2 e
  self := fun _ _ _ _ _ st h => wpAny_pyIter_zip st.1 h
end L2
namespace L2
open PySem PySem.Spec PyProof.Rows PySem.W
section
variable {X : Cx} {tg : Expr}
def iZip (K : PySem.W.Frag) (ta : TA) : TI := fun σ H R => ta σ H fun vs H1 => ∃ t l xs ys, vs = [.ref t, .ref l] ∧ SqT K H1 t xs ∧ SqL K H1 l ys ∧ R (Itz K t l) H1
theorem pi_zip (K : PySem.W.Frag) (hK : X.K = K) {elts : List Expr} {x1 : Nat} {tpos : Pos} {a b : Expr} {ta : TA} {p pos : Pos} (hg : Gl X "zip") (hm : X.mg "zip" = none) (ha : PA X [a, b] ta) (hs : starEach [a, b] X.env = [(false, eval a X.env), (false, eval b X.env)] := by rfl) (hs2 : starEach [b] X.env = [(false, eval b X.env)] := by rfl) :
    PI X (.Tuple elts x1 tpos) (.Call (.Name "zip" p) [a, b] [] pos) (iZip K ta) := by
  subst hK
  intro pins s σ H R I h
  refine wpAny_Call_Name_kw (ld_blt I hg hm boot_zip (PyProof.Rows.callWith_type1 (thn (ha pos pins s σ H _ I h) fun us s1 ⟨vs, H1, I1, r1, q1⟩ => ?_) (by rw [hs, hs2]) (by rw [hs2]; rfl)))
  obtain ⟨t, l, xs, ys, e, hq1, hq2, q⟩ := q1
  subst e
  cases r1 with
  | cons r rr =>
    cases rr with
    | cons r' rr =>
      cases rr
      cases r
      cases r'
      obtain ⟨its, rv, pl, hz⟩ := I1.tuple hq1
      obtain ⟨its2, rv2, pl2, hz2⟩ := I1.list hq2
      obtain ⟨o1, e1, _⟩ := id pl
      obtain ⟨o2, n2, e2, _⟩ := id pl2
      have D := ktu_apart s1.heap.objs.size t l (Heap.lt_size e1) (Heap.lt_size e2)
      refine call_zipT (show s1.heap.IsTuple t its.toArray from pl) pl2.isList fun g z1 z2 z3 z4 z5 kk => ?_
      refine wpAny_pyIter_zip z1 ⟨_, [s1.heap.objs.size + 4, s1.heap.objs.size + 2, s1.heap.objs.size + 3, s1.heap.objs.size, s1.heap.objs.size + 1], _, _, H1, rfl, I1.kept (t' := s1.toks) kk, turn_zip D, ⟨z1, z2, ⟨_, _, z3⟩, z4, z5⟩, fun b hb => ?_, q⟩
      have hb2 : s1.heap.objs.size ≤ b := by
        simp only [List.mem_cons, List.not_mem_nil, or_false] at hb
        rcases hb with rfl | rfl | rfl | rfl | rfl
        · exact Nat.le_add_right _ _
        · exact Nat.le_add_right _ _
        · exact Nat.le_add_right _ _
        · exact Nat.le_refl _
        · exact Nat.le_add_right _ _
      exact I1.fpOk hb2 (I1.hok.fresh hb2)
theorem comp_zip {K : PySem.W.Frag} {a l : Addr} {xs ys : List V} {g : TG} {ds : List Nat} {k : Nat} {tc : TT} {te : TE} {σ : St} {H1 : Hp} {D : Addr} {F : Hp → Prop} (Pv : Nat → List V → Hp → Prop) (h0 : Pv 0 [] (upd H1 D (.lst []))) (hxy : xs.length = ys.length)
    (hl : ∀ i acc H2, i ≤ xs.length → Pv i acc H2 → SqT K H2 a xs ∧ SqL K H2 l ys) (hs : ∀ i x y acc H2 T, xs[i]? = some x → ys[i]? = some y → Pv i acc H2 → H2 T = none → g (.ref T) (iniC ds k σ) (upd H2 T (.tup [x, y])) fun σ4 H4 => tc σ4 H4 fun b H5 => if b = true then
      te σ4 H5 fun y H6 => H6 D = some (.lst acc) ∧ acc.length < sizeLine ∧ ∃ m', m' < xs.length - i ∧ m' = xs.length - (i + 1) ∧ i + 1 ≤ xs.length ∧ Pv (i + 1) (acc ++ [y]) (upd H6 D (.lst (acc ++ [y])))
      else ∃ m', m' < xs.length - i ∧ m' = xs.length - (i + 1) ∧ i + 1 ≤ xs.length ∧ Pv (i + 1) acc H5) (hd : ∀ acc H2, Pv xs.length acc H2 → F H2) :
    ∃ W : Nat → Nat → List V → Hp → Prop, (∃ m, W 0 m [] (upd H1 D (.lst []))) ∧ ∀ i m acc H2, W i m acc H2 →
    ((Itz K a l).stop i H2 ∧ F H2) ∨ ((Itz K a l).go i H2 ∧ ∀ x H3, (Itz K a l).yld i H2 x H3 → g x (iniC ds k σ) H3 fun σ4 H4 => tc σ4 H4 fun b H5 => if b = true then
      te σ4 H5 fun y H6 => H6 D = some (.lst acc) ∧ acc.length < sizeLine ∧ ∃ m', m' < m ∧ W (i + 1) m' (acc ++ [y]) (upd H6 D (.lst (acc ++ [y])))
      else ∃ m', m' < m ∧ W (i + 1) m' acc H5) := by
  refine ⟨fun i m acc H2 => m = xs.length - i ∧ i ≤ xs.length ∧ Pv i acc H2, ⟨_, rfl, Nat.zero_le _, h0⟩, ?_⟩
  rintro i m acc H2 ⟨rfl, hi, p⟩
  obtain ⟨q, q2⟩ := hl i acc H2 hi p
  by_cases hlt : i < xs.length
  · have hlt2 : i < ys.length := by omega
    refine .inr ⟨⟨xs, ys, xs[i], ys[i], q, q2, by simp [hlt], by simp [hlt2]⟩, fun x H3 y => ?_⟩
    obtain ⟨T, x', y', hT, e, eH, y⟩ := y
    subst e eH
    obtain ⟨y1, y2⟩ := y xs ys q q2
    exact hs i x' y' acc _ T y1 y2 p hT
  · have e : i = xs.length := by omega
    subst e
    exact .inl ⟨⟨xs, q, Nat.le_refl _⟩, hd acc H2 p⟩
theorem pc_kin {x : Str} {npos : Pos} {a : Addr} {i : Expr} {ty : TE} (K : PySem.W.Frag) (hK : X.K = K) (hd : KMod K X.w.params a) (hg : Gl X x) (hm : X.mg x = some (.ref a)) (hi : PE X i ty) (hdb : (x == ("__debug__" : Str)) = false := by decide) : PC X .In i (.Name x npos) (tKIn K a ty) := by
  subst hK
  intro pins s σ H Q I h
  obtain ⟨lo, es, n, hl, hk⟩ := hd
  refine thn (hi pins s σ H _ I h) fun iv s1 ⟨y, H1, I1, ry, x', r, ey, hu, q1⟩ => ?_
  subst ey
  obtain ⟨tk, rfl⟩ := ry
  have hn : PE X (.Name x npos) (tC (.ref a)) := pe_glob hg hm rfl hdb
  refine thn (hn pins s1 σ H1 (fun v H' => v = .ref a ∧ H' = H1) I1 ⟨rfl, rfl⟩) fun u s2 ⟨z, H2, I2, rx, ez, eH⟩ => ?_
  subst ez eH
  obtain rfl : u = Value.ref a := rx
  exact PySem.wpAny_in_of (PySem.strKind_is X.prog X.w x' tk) lo (PySem.W.mapOf_K (prog := X.prog) (w := X.w) I2.kIn hl hk) (by rw [PySem.W.find_K hl hu]; exact ⟨.bl r.isSome, H2, I2.tok _, rfl, q1⟩)
theorem ps_tryN {st : Stmt} {t : TS} {h0 : ExceptHandler} {hs : List ExceptHandler} {pos : Pos} (h : PS X.nox st t) : PS X (.Try [st] (h0 :: hs) [] [] pos) t := by
  intro pins s σ H D I hw
  refine wpAny_Try_except (wpAny_execs_cons (wpAny_mono (h pins s σ H D (I.wish _) hw) (fun f s1 z => ?_) fun _ _ z => False.elim z))
  have z := z.unwish
  cases f with
  | next => exact wpAny_execs_nil (wpAny_execs_nil z)
  | ret v => exact z
  | brk => exact z
  | cont => exact z
end
end L2
namespace L2
open PySem PySem.Spec PyProof.Rows PySem.W
theorem kmod {K : PySem.W.Frag} {w : World} {pm : Params} {a : Addr} (h : w.params = pm) (k : KMod K pm a) : KMod K w.params a := h ▸ k
theorem str_ext {x y : Str} (h : x.cps.toList = y.cps.toList) : x = y := by
  cases x with
  | mk a =>
    cases y with
    | mk b =>
      have : a = b := Array.toList_inj.mp h
      rw [this]
theorem signs_app (x y : Str) : (x ++ y).cps.toList = x.cps.toList ++ y.cps.toList := by
  show (x.cps ++ y.cps).toList = _
  rw [Array.toList_append]
def gl (c : Nat) : List (List Nat) → List Nat
  | [] => []
  | [x] => x
  | x :: y :: r => x ++ c :: gl c (y :: r)
theorem gl_join (c : Nat) : ∀ l : List Str, (Str.join ⟨#[c]⟩ l).cps.toList = gl c (l.map (·.cps.toList))
  | [] => rfl
  | [x] => rfl
  | x :: y :: r => by
    show (x ++ (⟨#[c]⟩ : Str) ++ Str.join ⟨#[c]⟩ (y :: r)).cps.toList = _
    rw [signs_app, signs_app, gl_join c (y :: r)]
    show _ = x.cps.toList ++ c :: gl c ((y :: r).map (·.cps.toList))
    rw [List.append_assoc]
    rfl
theorem cut_inj {c : Nat} : ∀ {x y u v : List Nat}, c ∉ x → c ∉ y → x ++ c :: u = y ++ c :: v → x = y ∧ u = v
  | [], [], u, v, _, _, h => ⟨rfl, by injection h⟩
  | [], b :: y, u, v, _, hy, h => by
    injection h with h1 _
    exact absurd (by rw [h1]; exact List.mem_cons_self) hy
  | a :: x, [], u, v, hx, _, h => by
    injection h with h1 _
    exact absurd (by rw [← h1]; exact List.mem_cons_self) hx
  | a :: x, b :: y, u, v, hx, hy, h => by
    injection h with h1 h2
    obtain ⟨e1, e2⟩ := cut_inj (fun z => hx (List.mem_cons_of_mem _ z)) (fun z => hy (List.mem_cons_of_mem _ z)) h2
    exact ⟨by rw [h1, e1], e2⟩
theorem gl_inj {c : Nat} : ∀ {l m : List (List Nat)}, l ≠ [] → m ≠ [] → (∀ x ∈ l, c ∉ x) → (∀ x ∈ m, c ∉ x) → gl c l = gl c m → l = m
  | [], _, h, _, _, _, _ => absurd rfl h
  | _, [], _, h, _, _, _ => absurd rfl h
  | [x], [y], _, _, _, _, h => by rw [show x = y from h]
  | [x], y :: z :: r, _, _, hl, _, h => by
    have h : x = y ++ c :: gl c (z :: r) := h
    exact absurd (by rw [h]; simp) (hl x List.mem_cons_self)
  | x :: z :: r, [y], _, _, _, hm, h => by
    have h : x ++ c :: gl c (z :: r) = y := h
    exact absurd (by rw [← h]; simp) (hm y List.mem_cons_self)
  | x :: a :: r, y :: b :: t, _, _, hl, hm, h => by
    obtain ⟨e1, e2⟩ := cut_inj (hl x List.mem_cons_self) (hm y List.mem_cons_self) (show x ++ c :: gl c (a :: r) = y ++ c :: gl c (b :: t) from h)
    have := gl_inj (l := a :: r) (m := b :: t) (fun z => nomatch z) (fun z => nomatch z) (fun q hq => hl q (List.mem_cons_of_mem _ hq)) (fun q hq => hm q (List.mem_cons_of_mem _ hq)) e2
    rw [e1, this]
def Free (c : Nat) (x : Str) : Prop := c ∉ x.cps.toList
theorem map_signs_inj : ∀ {l m : List Str}, l.map (·.cps.toList) = m.map (·.cps.toList) → l = m
  | [], [], _ => rfl
  | [], _ :: _, h => nomatch h
  | _ :: _, [], h => nomatch h
  | x :: r, y :: t, h => by
    simp only [List.map_cons, List.cons.injEq] at h
    rw [str_ext h.1, map_signs_inj h.2]
theorem split_join {y : Str} {c : Nat} (hy : y = ⟨#[c]⟩) {l : List Str} (hne : l ≠ []) (hf : ∀ p ∈ l, Free c p) : Txt.split (Txt.join y l) y = l := by
  subst hy
  have e : Txt.join (⟨#[c]⟩ : Str) l = Str.join ⟨#[c]⟩ l := StrLaws.glued_eq_join _ _
  rw [e]
  have h1 := congrArg (fun z : Str => z.cps.toList) (StrLaws.join_split (Str.join ⟨#[c]⟩ l) ⟨#[c]⟩)
  have h2 := StrLaws.split_free (Str.join ⟨#[c]⟩ l) c
  have h3 := PyProof.Rows.split_pos (Str.join ⟨#[c]⟩ l) ⟨#[c]⟩
  generalize hS : Txt.split (Str.join ⟨#[c]⟩ l) ⟨#[c]⟩ = S at h1 h2 h3
  simp only [gl_join] at h1
  refine map_signs_inj (gl_inj (c := c) ?_ ?_ ?_ ?_ h1)
  · intro z
    have := congrArg List.length z
    simp at this
    rw [this] at h3
    simp at h3
  · intro z
    exact hne (List.map_eq_nil_iff.mp z)
  · intro x hx
    obtain ⟨p, hp, rfl⟩ := List.mem_map.mp hx
    exact h2 p hp
  · intro x hx
    obtain ⟨p, hp, rfl⟩ := List.mem_map.mp hx
    exact hf p hp
theorem part_join {y : Str} {c : Nat} (hy : y = ⟨#[c]⟩) {a b : Str} (ha : Free c a) : Txt.partition (a ++ y ++ b) y = (a, y, b) := by
  subst hy
  have es : (a ++ (⟨#[c]⟩ : Str) ++ b).cps.toList = a.cps.toList ++ c :: b.cps.toList := by
    rw [signs_app, signs_app, List.append_assoc]
    rfl
  have ln : (a ++ (⟨#[c]⟩ : Str) ++ b).length = a.length + (b.length + 1) := by
    rw [app_len, app_len]
    show a.length + 1 + b.length = _
    omega
  have la : a.cps.toList.length = a.length := by show a.cps.toList.length = a.cps.size; simp
  have here : StrLaws.At (a ++ (⟨#[c]⟩ : Str) ++ b) ⟨#[c]⟩ (a ++ (⟨#[c]⟩ : Str) ++ b).length a.length := by
    refine (StrLaws.subAt_one _ c a.length).mpr ?_
    rw [es, List.getElem?_append_right (by omega), la, Nat.sub_self]
    rfl
  rcases PyProof.Rows.partition_whole (a ++ (⟨#[c]⟩ : Str) ++ b) ⟨#[c]⟩ with ⟨_, h⟩ | ⟨i, h, h1, h2⟩
  · exact absurd here (h _)
  · have hi : i = a.length := by
      rcases Nat.lt_trichotomy i a.length with q | q | q
      · have h3 := (StrLaws.subAt_one _ c i).mp h1
        rw [es, List.getElem?_append_left (by omega)] at h3
        exact absurd (List.mem_of_getElem? h3) ha
      · exact q
      · exact absurd here (h2 _ q)
    rw [h, hi]
    have e1 : Builtin.Str.strSub (a ++ (⟨#[c]⟩ : Str) ++ b) 0 a.length = a := by
      refine str_ext ?_
      rw [StrLaws.strSub_toList, es, List.drop_zero, Nat.sub_zero, ← la, List.take_left]
    have e2 : Builtin.Str.strSub (a ++ (⟨#[c]⟩ : Str) ++ b) (a.length + (⟨#[c]⟩ : Str).length) (a ++ (⟨#[c]⟩ : Str) ++ b).length = b := by
      refine str_ext ?_
      rw [StrLaws.strSub_toList, es, ln]
      show ((a.cps.toList ++ c :: b.cps.toList).drop (a.length + 1)).take _ = _
      rw [← la, List.drop_append, List.drop_of_length_le (by omega)]
      have : a.cps.toList.length + 1 - a.cps.toList.length = 1 := by omega
      rw [this]
      show (b.cps.toList).take _ = _
      refine List.take_of_length_le ?_
      show b.cps.toList.length ≤ a.cps.toList.length + (b.length + 1) - (a.cps.toList.length + 1)
      have : b.cps.toList.length = b.length := by show b.cps.toList.length = b.cps.size; simp
      omega
    rw [e1, e2]
def numS (n : Int) : Str := ((toString n : String) : Str)
theorem num_nat (m : Nat) : (numS (m : Int)).cps.toList = (Nat.toDigits 10 m).map Char.toNat := KIN.signs_num m
theorem num_neg (m : Nat) : numS (Int.negSucc m) = (⟨#[45]⟩ : Str) ++ numS ((m + 1 : Nat) : Int) := by
  refine str_ext ?_
  rw [signs_app, num_nat]
  show (Str.ofString ("-" ++ Nat.repr (m + 1))).cps.toList = _
  rw [PyProof.Rows.signs_ofString, String.toList_append, List.map_append, Nat.toList_repr]
  rfl
theorem num_digits (m : Nat) : PySem.NumText.AllDigits (numS (m : Int)).cps.toList := by
  intro c hc
  rw [num_nat] at hc
  obtain ⟨ch, hch, e⟩ := List.mem_map.mp hc
  have r := PyProof.Rows.digit_range (Nat.isDigit_of_mem_toDigits (by decide) (by decide) hch)
  rw [← e]
  exact r
theorem num_some (m : Nat) : (numS (m : Int)).cps.toList ≠ [] := by
  rw [num_nat]
  intro e
  have h : 0 < (Nat.toDigits 10 m).length := Nat.length_toDigits_pos
  rw [List.map_eq_nil_iff.mp e] at h
  exact absurd h (by decide)
theorem num_nlen {m k : Nat} (hk : 0 < k) (h : m < 10 ^ k) : (numS (m : Int)).length ≤ k := by
  show (Str.ofString (toString (m : Int))).length ≤ k
  exact nat_len hk h
theorem num_reads {n : Int} (h : n.natAbs < 10 ^ 60) : PySem.intText? (numS n) = some n := by
  cases n with
  | ofNat m =>
    have e := PySem.intText_digits (num_digits m) (num_some m) (Nat.le_trans (num_nlen (k := 60) (by decide) h) (by decide))
    rw [num_nat, KIN.val_back] at e
    exact e
  | negSucc m =>
    have e := PySem.intText_neg (x := numS (Int.negSucc m)) (cs := (numS ((m + 1 : Nat) : Int)).cps.toList) (by rw [num_neg, signs_app]; rfl) (num_digits (m + 1)) (num_some (m + 1)) (by
      rw [num_neg, app_len]
      have := num_nlen (m := m + 1) (k := 60) (by decide) h
      show 1 + _ ≤ _
      omega)
    rw [num_nat, KIN.val_back] at e
    exact e
theorem num_free {n : Int} {c : Nat} (h1 : c ≠ 45) (h2 : ¬ (48 ≤ c ∧ c ≤ 57)) : Free c (numS n) := by
  cases n with
  | ofNat m => exact fun z => h2 (num_digits m c z)
  | negSucc m =>
    intro z
    rw [num_neg, signs_app] at z
    rcases List.mem_append.mp z with z | z
    · exact h1 (List.mem_singleton.mp z)
    · exact h2 (num_digits (m + 1) c z)
theorem starts_neg (m : Nat) : Txt.startswith (numS (Int.negSucc m)) "-" = true := by
  rw [num_neg]
  unfold Txt.startswith
  have e : (Str.ofString "-") = (⟨#[45]⟩ : Str) := by decide +kernel
  rw [e]
  have h : (0 + (⟨#[45]⟩ : Str).length ≤ ((⟨#[45]⟩ : Str) ++ numS ((m + 1 : Nat) : Int)).length ∧ Builtin.Str.subAt ((⟨#[45]⟩ : Str) ++ numS ((m + 1 : Nat) : Int)) ⟨#[45]⟩ 0 = true) := by
    refine (StrLaws.subAt_one _ 45 0).mpr ?_
    rw [signs_app]
    rfl
  rw [h.2, Bool.and_true]
  exact decide_eq_true h.1
theorem starts_nat (m : Nat) : Txt.startswith (numS (m : Int)) "-" = false := by
  have e : (Str.ofString "-") = (⟨#[45]⟩ : Str) := by decide +kernel
  rw [e]
  cases hs : Txt.startswith (numS (m : Int)) ⟨#[45]⟩ with
  | false => rfl
  | true =>
    unfold Txt.startswith at hs
    rw [Bool.and_eq_true] at hs
    have := (StrLaws.subAt_one _ 45 0).mp ⟨of_decide_eq_true hs.1, hs.2⟩
    have := num_digits m 45 (List.mem_of_getElem? this)
    omega
theorem slice_neg (m : Nat) : Txt.slice (numS (Int.negSucc m)) (some 1) none = numS ((m + 1 : Nat) : Int) := by
  rw [num_neg]
  exact slice_tail 45 _
theorem join_head {y : Str} : ∀ {t : Str} {r : List Str} {c : Nat} {cs : List Nat}, t.cps.toList = c :: cs → ∃ ds, (Txt.join y (t :: r)).cps.toList = c :: ds := by
  intro t r c cs h
  have e : Txt.join y (t :: r) = Str.join y (t :: r) := StrLaws.glued_eq_join _ _
  rw [e]
  cases r with
  | nil => exact ⟨cs, h⟩
  | cons u r =>
    show ∃ ds, (t ++ y ++ Str.join y (u :: r)).cps.toList = c :: ds
    rw [signs_app, signs_app, h]
    exact ⟨_, rfl⟩
theorem no_dash {x : Str} {c : Nat} {cs : List Nat} (h : x.cps.toList = c :: cs) (hc : c ≠ 45) : x ≠ "-" := by
  intro e
  have e2 : (Str.ofString "-") = (⟨#[45]⟩ : Str) := by decide +kernel
  rw [e, e2] at h
  injection h with h1 _
  exact hc h1.symm
end L2
namespace My
open PySem L2
seal L2.PSs L2.PS L2.PE L2.PT L2.PA L2.PI L2.PG L2.PW L2.PGs L2.PO
def top (i : Nat) : Stmt := PySem.Challenge.pw_layersplit_k35_deeds_read.main.body.getD i (.Pass ⟨0, 0, 0, 0⟩)
abbrev s_is_whole : Stmt := top 8
abbrev s_is_text_of : Stmt := top 9
abbrev s_is_word : Stmt := top 10
abbrev s_is_guest : Stmt := top 11
abbrev s_is_number : Stmt := top 17
abbrev s_is_mark : Stmt := top 18
abbrev s_are_marks : Stmt := top 19
abbrev s_has_form : Stmt := top 20
abbrev s_all_within : Stmt := top 21
abbrev s_words_of : Stmt := top 22
abbrev s_is_rule : Stmt := top 23
abbrev s_is_count : Stmt := top 28
abbrev s_is_total : Stmt := top 29
abbrev s_is_weight : Stmt := top 30
abbrev s_are_counts : Stmt := top 31
abbrev s_are_weights : Stmt := top 32
abbrev s_are_arms : Stmt := top 33
abbrev s_check_row : Stmt := top 38
abbrev s_read_number : Stmt := top 39
abbrev s_read_mark : Stmt := top 40
abbrev s_parts_of : Stmt := top 41
abbrev s_value_of : Stmt := top 42
abbrev s_are_shuts : Stmt := top 43
abbrev s_is_of : Stmt := top 44
abbrev s_read_thing : Stmt := top 45
abbrev s_read_things : Stmt := top 46
abbrev s_take_word : Stmt := top 47
abbrev s_take_rule : Stmt := top 48
abbrev s_read_rule_words : Stmt := top 49
abbrev s_read_rule : Stmt := top 50
abbrev s_read_deed : Stmt := top 51
abbrev s_Lcell_at : Stmt := top 53
abbrev s_Lmixed : Stmt := top 54
abbrev s_Lword : Stmt := top 55
abbrev s_Lnumber : Stmt := top 56
abbrev s_Lleaf : Stmt := top 57
abbrev s_Lrule : Stmt := top 58
abbrev s_Lwords : Stmt := top 59
abbrev s_Lname : Stmt := top 62
abbrev s_Lguest : Stmt := top 63
abbrev s_Lnames : Stmt := top 64
abbrev s_Llong : Stmt := top 65
abbrev s_Lmany_marks : Stmt := top 66
abbrev s_Lform : Stmt := top 67
abbrev s_Lrule_row : Stmt := top 68
abbrev s_Llisted : Stmt := top 69
abbrev s_Lrow : Stmt := top 70
abbrev s_Lsame : Stmt := top 71
abbrev s_Lread : Stmt := top 72
abbrev s_Lread_rule : Stmt := top 73
abbrev s_law : Stmt := top 74
structure Adr where
  is_whole : Addr
  fd_is_whole : FuncData
  is_text_of : Addr
  fd_is_text_of : FuncData
  is_word : Addr
  fd_is_word : FuncData
  is_guest : Addr
  fd_is_guest : FuncData
  is_number : Addr
  fd_is_number : FuncData
  is_mark : Addr
  fd_is_mark : FuncData
  are_marks : Addr
  fd_are_marks : FuncData
  has_form : Addr
  fd_has_form : FuncData
  all_within : Addr
  fd_all_within : FuncData
  words_of : Addr
  fd_words_of : FuncData
  is_rule : Addr
  fd_is_rule : FuncData
  is_count : Addr
  fd_is_count : FuncData
  is_total : Addr
  fd_is_total : FuncData
  is_weight : Addr
  fd_is_weight : FuncData
  are_counts : Addr
  fd_are_counts : FuncData
  are_weights : Addr
  fd_are_weights : FuncData
  are_arms : Addr
  fd_are_arms : FuncData
  check_row : Addr
  fd_check_row : FuncData
  read_number : Addr
  fd_read_number : FuncData
  read_mark : Addr
  fd_read_mark : FuncData
  parts_of : Addr
  fd_parts_of : FuncData
  value_of : Addr
  fd_value_of : FuncData
  are_shuts : Addr
  fd_are_shuts : FuncData
  is_of : Addr
  fd_is_of : FuncData
  read_thing : Addr
  fd_read_thing : FuncData
  read_things : Addr
  fd_read_things : FuncData
  take_word : Addr
  fd_take_word : FuncData
  take_rule : Addr
  fd_take_rule : FuncData
  read_rule_words : Addr
  fd_read_rule_words : FuncData
  read_rule : Addr
  fd_read_rule : FuncData
  read_deed : Addr
  fd_read_deed : FuncData
  Lcell_at : Addr
  fd_Lcell_at : FuncData
  Lmixed : Addr
  fd_Lmixed : FuncData
  Lword : Addr
  fd_Lword : FuncData
  Lnumber : Addr
  fd_Lnumber : FuncData
  Lleaf : Addr
  fd_Lleaf : FuncData
  Lrule : Addr
  fd_Lrule : FuncData
  Lwords : Addr
  fd_Lwords : FuncData
  Lname : Addr
  fd_Lname : FuncData
  Lguest : Addr
  fd_Lguest : FuncData
  Lnames : Addr
  fd_Lnames : FuncData
  Llong : Addr
  fd_Llong : FuncData
  Lmany_marks : Addr
  fd_Lmany_marks : FuncData
  Lform : Addr
  fd_Lform : FuncData
  Lrule_row : Addr
  fd_Lrule_row : FuncData
  Llisted : Addr
  fd_Llisted : FuncData
  Lrow : Addr
  fd_Lrow : FuncData
  Lsame : Addr
  fd_Lsame : FuncData
  Lread : Addr
  fd_Lread : FuncData
  Lread_rule : Addr
  fd_Lread_rule : FuncData
  law : Addr
  fd_law : FuncData
  SplitError : Addr
  NoRow : Addr
  pm : Params
  FORMS : Addr
structure Txt (K : PySem.W.Frag) (mg : Str → Option Value) (a : Adr) : Prop where
  f_is_whole : Fun K "is_whole" "is_whole" s_is_whole a.is_whole a.fd_is_whole
  m_is_whole : mg "is_whole" = some (.ref a.is_whole)
  b_is_whole : Binds K a.fd_is_whole ["thing"] []
  f_is_text_of : Fun K "is_text_of" "is_text_of" s_is_text_of a.is_text_of a.fd_is_text_of
  m_is_text_of : mg "is_text_of" = some (.ref a.is_text_of)
  b_is_text_of : Binds K a.fd_is_text_of ["thing", "signs", "longest"] []
  f_is_word : Fun K "is_word" "is_word" s_is_word a.is_word a.fd_is_word
  m_is_word : mg "is_word" = some (.ref a.is_word)
  b_is_word : Binds K a.fd_is_word ["thing"] []
  f_is_guest : Fun K "is_guest" "is_guest" s_is_guest a.is_guest a.fd_is_guest
  m_is_guest : mg "is_guest" = some (.ref a.is_guest)
  b_is_guest : Binds K a.fd_is_guest ["thing"] []
  f_is_number : Fun K "is_number" "is_number" s_is_number a.is_number a.fd_is_number
  m_is_number : mg "is_number" = some (.ref a.is_number)
  b_is_number : Binds K a.fd_is_number ["thing"] []
  f_is_mark : Fun K "is_mark" "is_mark" s_is_mark a.is_mark a.fd_is_mark
  m_is_mark : mg "is_mark" = some (.ref a.is_mark)
  b_is_mark : Binds K a.fd_is_mark ["thing"] []
  f_are_marks : Fun K "are_marks" "are_marks" s_are_marks a.are_marks a.fd_are_marks
  m_are_marks : mg "are_marks" = some (.ref a.are_marks)
  b_are_marks : Binds K a.fd_are_marks ["thing"] []
  f_has_form : Fun K "has_form" "has_form" s_has_form a.has_form a.fd_has_form
  m_has_form : mg "has_form" = some (.ref a.has_form)
  b_has_form : Binds K a.fd_has_form ["thing", "depth"] []
  f_all_within : Fun K "all_within" "all_within" s_all_within a.all_within a.fd_all_within
  m_all_within : mg "all_within" = some (.ref a.all_within)
  b_all_within : Binds K a.fd_all_within ["rule"] []
  f_words_of : Fun K "words_of" "words_of" s_words_of a.words_of a.fd_words_of
  m_words_of : mg "words_of" = some (.ref a.words_of)
  b_words_of : Binds K a.fd_words_of ["rule"] []
  f_is_rule : Fun K "is_rule" "is_rule" s_is_rule a.is_rule a.fd_is_rule
  m_is_rule : mg "is_rule" = some (.ref a.is_rule)
  b_is_rule : Binds K a.fd_is_rule ["thing"] []
  f_is_count : Fun K "is_count" "is_count" s_is_count a.is_count a.fd_is_count
  m_is_count : mg "is_count" = some (.ref a.is_count)
  b_is_count : Binds K a.fd_is_count ["thing"] []
  f_is_total : Fun K "is_total" "is_total" s_is_total a.is_total a.fd_is_total
  m_is_total : mg "is_total" = some (.ref a.is_total)
  b_is_total : Binds K a.fd_is_total ["thing"] []
  f_is_weight : Fun K "is_weight" "is_weight" s_is_weight a.is_weight a.fd_is_weight
  m_is_weight : mg "is_weight" = some (.ref a.is_weight)
  b_is_weight : Binds K a.fd_is_weight ["thing"] []
  f_are_counts : Fun K "are_counts" "are_counts" s_are_counts a.are_counts a.fd_are_counts
  m_are_counts : mg "are_counts" = some (.ref a.are_counts)
  b_are_counts : Binds K a.fd_are_counts ["thing", "many"] []
  f_are_weights : Fun K "are_weights" "are_weights" s_are_weights a.are_weights a.fd_are_weights
  m_are_weights : mg "are_weights" = some (.ref a.are_weights)
  b_are_weights : Binds K a.fd_are_weights ["thing", "many"] []
  f_are_arms : Fun K "are_arms" "are_arms" s_are_arms a.are_arms a.fd_are_arms
  m_are_arms : mg "are_arms" = some (.ref a.are_arms)
  b_are_arms : Binds K a.fd_are_arms ["thing"] []
  f_check_row : Fun K "check_row" "check_row" s_check_row a.check_row a.fd_check_row
  m_check_row : mg "check_row" = some (.ref a.check_row)
  b_check_row : Binds K a.fd_check_row ["fits"] []
  f_read_number : Fun K "read_number" "read_number" s_read_number a.read_number a.fd_read_number
  m_read_number : mg "read_number" = some (.ref a.read_number)
  b_read_number : Binds K a.fd_read_number ["text"] []
  f_read_mark : Fun K "read_mark" "read_mark" s_read_mark a.read_mark a.fd_read_mark
  m_read_mark : mg "read_mark" = some (.ref a.read_mark)
  b_read_mark : Binds K a.fd_read_mark ["text"] []
  f_parts_of : Fun K "parts_of" "parts_of" s_parts_of a.parts_of a.fd_parts_of
  m_parts_of : mg "parts_of" = some (.ref a.parts_of)
  b_parts_of : Binds K a.fd_parts_of ["text"] []
  f_value_of : Fun K "value_of" "value_of" s_value_of a.value_of a.fd_value_of
  m_value_of : mg "value_of" = some (.ref a.value_of)
  b_value_of : Binds K a.fd_value_of ["form", "text"] []
  f_are_shuts : Fun K "are_shuts" "are_shuts" s_are_shuts a.are_shuts a.fd_are_shuts
  m_are_shuts : mg "are_shuts" = some (.ref a.are_shuts)
  b_are_shuts : Binds K a.fd_are_shuts ["names"] []
  f_is_of : Fun K "is_of" "is_of" s_is_of a.is_of a.fd_is_of
  m_is_of : mg "is_of" = some (.ref a.is_of)
  b_is_of : Binds K a.fd_is_of ["form", "thing"] []
  f_read_thing : Fun K "read_thing" "read_thing" s_read_thing a.read_thing a.fd_read_thing
  m_read_thing : mg "read_thing" = some (.ref a.read_thing)
  b_read_thing : Binds K a.fd_read_thing ["form", "text"] []
  f_read_things : Fun K "read_things" "read_things" s_read_things a.read_things a.fd_read_things
  m_read_things : mg "read_things" = some (.ref a.read_things)
  b_read_things : Binds K a.fd_read_things ["forms", "words"] []
  f_take_word : Fun K "take_word" "take_word" s_take_word a.take_word a.fd_take_word
  m_take_word : mg "take_word" = some (.ref a.take_word)
  b_take_word : Binds K a.fd_take_word ["words"] []
  f_take_rule : Fun K "take_rule" "take_rule" s_take_rule a.take_rule a.fd_take_rule
  m_take_rule : mg "take_rule" = some (.ref a.take_rule)
  b_take_rule : Binds K a.fd_take_rule ["words", "depth"] []
  f_read_rule_words : Fun K "read_rule_words" "read_rule_words" s_read_rule_words a.read_rule_words a.fd_read_rule_words
  m_read_rule_words : mg "read_rule_words" = some (.ref a.read_rule_words)
  b_read_rule_words : Binds K a.fd_read_rule_words ["words"] []
  f_read_rule : Fun K "read_rule" "read_rule" s_read_rule a.read_rule a.fd_read_rule
  m_read_rule : mg "read_rule" = some (.ref a.read_rule)
  b_read_rule : Binds K a.fd_read_rule ["text"] []
  f_read_deed : Fun K "read_deed" "read_deed" s_read_deed a.read_deed a.fd_read_deed
  m_read_deed : mg "read_deed" = some (.ref a.read_deed)
  b_read_deed : Binds K a.fd_read_deed ["text"] []
  f_Lcell_at : Fun K "_law_cell_at" "_law_cell_at" s_Lcell_at a.Lcell_at a.fd_Lcell_at
  m_Lcell_at : mg "_law_cell_at" = some (.ref a.Lcell_at)
  b_Lcell_at : Binds K a.fd_Lcell_at ["_law_script", "_law_k"] []
  f_Lmixed : Fun K "_law_mixed" "_law_mixed" s_Lmixed a.Lmixed a.fd_Lmixed
  m_Lmixed : mg "_law_mixed" = some (.ref a.Lmixed)
  b_Lmixed : Binds K a.fd_Lmixed ["_law_script", "_law_k", "_law_salt"] []
  f_Lword : Fun K "_law_word" "_law_word" s_Lword a.Lword a.fd_Lword
  m_Lword : mg "_law_word" = some (.ref a.Lword)
  b_Lword : Binds K a.fd_Lword ["_law_number_here"] []
  f_Lnumber : Fun K "_law_number" "_law_number" s_Lnumber a.Lnumber a.fd_Lnumber
  m_Lnumber : mg "_law_number" = some (.ref a.Lnumber)
  b_Lnumber : Binds K a.fd_Lnumber ["_law_script", "_law_k", "_law_number_here"] []
  f_Lleaf : Fun K "_law_leaf" "_law_leaf" s_Lleaf a.Lleaf a.fd_Lleaf
  m_Lleaf : mg "_law_leaf" = some (.ref a.Lleaf)
  b_Lleaf : Binds K a.fd_Lleaf ["_law_script", "_law_k", "_law_words_here"] []
  f_Lrule : Fun K "_law_rule" "_law_rule" s_Lrule a.Lrule a.fd_Lrule
  m_Lrule : mg "_law_rule" = some (.ref a.Lrule)
  b_Lrule : Binds K a.fd_Lrule ["_law_script", "_law_at", "_law_many", "_law_words_here"] []
  f_Lwords : Fun K "_law_words" "_law_words" s_Lwords a.Lwords a.fd_Lwords
  m_Lwords : mg "_law_words" = some (.ref a.Lwords)
  b_Lwords : Binds K a.fd_Lwords ["_law_script"] []
  f_Lname : Fun K "_law_name" "_law_name" s_Lname a.Lname a.fd_Lname
  m_Lname : mg "_law_name" = some (.ref a.Lname)
  b_Lname : Binds K a.fd_Lname ["_law_number_here"] []
  f_Lguest : Fun K "_law_guest" "_law_guest" s_Lguest a.Lguest a.fd_Lguest
  m_Lguest : mg "_law_guest" = some (.ref a.Lguest)
  b_Lguest : Binds K a.fd_Lguest ["_law_number_here"] []
  f_Lnames : Fun K "_law_names" "_law_names" s_Lnames a.Lnames a.fd_Lnames
  m_Lnames : mg "_law_names" = some (.ref a.Lnames)
  b_Lnames : Binds K a.fd_Lnames ["_law_script", "_law_k", "_law_salt", "_law_many"] []
  f_Llong : Fun K "_law_long" "_law_long" s_Llong a.Llong a.fd_Llong
  m_Llong : mg "_law_long" = some (.ref a.Llong)
  b_Llong : Binds K a.fd_Llong ["_law_script", "_law_k", "_law_number_here"] []
  f_Lmany_marks : Fun K "_law_many_marks" "_law_many_marks" s_Lmany_marks a.Lmany_marks a.fd_Lmany_marks
  m_Lmany_marks : mg "_law_many_marks" = some (.ref a.Lmany_marks)
  b_Lmany_marks : Binds K a.fd_Lmany_marks ["_law_script", "_law_k"] []
  f_Lform : Fun K "_law_form" "_law_form" s_Lform a.Lform a.fd_Lform
  m_Lform : mg "_law_form" = some (.ref a.Lform)
  b_Lform : Binds K a.fd_Lform ["_law_script", "_law_k"] []
  f_Lrule_row : Fun K "_law_rule_row" "_law_rule_row" s_Lrule_row a.Lrule_row a.fd_Lrule_row
  m_Lrule_row : mg "_law_rule_row" = some (.ref a.Lrule_row)
  b_Lrule_row : Binds K a.fd_Lrule_row ["_law_rule_here"] []
  f_Llisted : Fun K "_law_listed" "_law_listed" s_Llisted a.Llisted a.fd_Llisted
  m_Llisted : mg "_law_listed" = some (.ref a.Llisted)
  b_Llisted : Binds K a.fd_Llisted ["_law_things"] []
  f_Lrow : Fun K "_law_row" "_law_row" s_Lrow a.Lrow a.fd_Lrow
  m_Lrow : mg "_law_row" = some (.ref a.Lrow)
  b_Lrow : Binds K a.fd_Lrow ["_law_deed"] []
  f_Lsame : Fun K "_law_same" "_law_same" s_Lsame a.Lsame a.fd_Lsame
  m_Lsame : mg "_law_same" = some (.ref a.Lsame)
  b_Lsame : Binds K a.fd_Lsame ["_law_found", "_law_due"] []
  f_Lread : Fun K "_law_read" "_law_read" s_Lread a.Lread a.fd_Lread
  m_Lread : mg "_law_read" = some (.ref a.Lread)
  b_Lread : Binds K a.fd_Lread ["_law_row_here"] []
  f_Lread_rule : Fun K "_law_read_rule" "_law_read_rule" s_Lread_rule a.Lread_rule a.fd_Lread_rule
  m_Lread_rule : mg "_law_read_rule" = some (.ref a.Lread_rule)
  b_Lread_rule : Binds K a.fd_Lread_rule ["_law_row_here"] []
  f_law : Fun K "law" "law" s_law a.law a.fd_law
  m_law : mg "law" = some (.ref a.law)
  b_law : Binds K a.fd_law ["_law_script"] []
  c_LETTERS : ∃ u, mg "LETTERS" = some u ∧ RelV (.str "abcdefghijklmnopqrstuvwxyz") u
  c_GUEST_SIGNS : ∃ u, mg "GUEST_SIGNS" = some u ∧ RelV (.str "abcdefghijklmnopqrstuvwxyz0123456789") u
  c_LONGEST_WORD : ∃ u, mg "LONGEST_WORD" = some u ∧ RelV (.int 12) u
  c_LONGEST_GUEST : ∃ u, mg "LONGEST_GUEST" = some u ∧ RelV (.int 24) u
  c_MOST_MARKS : ∃ u, mg "MOST_MARKS" = some u ∧ RelV (.int 8) u
  c_DEEPEST_RULE : ∃ u, mg "DEEPEST_RULE" = some u ∧ RelV (.int 6) u
  c_MOST_RULES : ∃ u, mg "MOST_RULES" = some u ∧ RelV (.int 30) u
  c_MOST_WORDS : ∃ u, mg "MOST_WORDS" = some u ∧ RelV (.int 3) u
  c_MOST_ARMS : ∃ u, mg "MOST_ARMS" = some u ∧ RelV (.int 4) u
  c_MOST_SHUTS : ∃ u, mg "MOST_SHUTS" = some u ∧ RelV (.int 8) u
  c_MOST_TOTAL : ∃ u, mg "MOST_TOTAL" = some u ∧ RelV (.int 1000) u
  c_FIGURES : ∃ u, mg "FIGURES" = some u ∧ RelV (.str "0123456789") u
  c_MOST_FIGURES : ∃ u, mg "MOST_FIGURES" = some u ∧ RelV (.int 60) u
  m_SplitError : mg "SplitError" = some (.ref a.SplitError)
  ex_SplitError : ExC K a.SplitError
  m_NoRow : mg "NoRow" = some (.ref a.NoRow)
  ex_NoRow : ExC K a.NoRow
  m_FORMS : mg "FORMS" = some (.ref a.FORMS)
  kd_FORMS : L2.KMod K a.pm a.FORMS
  kv_FORMS_layer : ∃ t, PySem.W.nsIn K a.FORMS "layer" = some (some (.ref t)) ∧ L2.KTp K t [.str "word", .str "count"]
  kv_FORMS_trial : ∃ t, PySem.W.nsIn K a.FORMS "trial" = some (some (.ref t)) ∧ L2.KTp K t [.str "word", .str "word", .str "arms", .str "shuts"]
  kv_FORMS_share : ∃ t, PySem.W.nsIn K a.FORMS "share" = some (some (.ref t)) ∧ L2.KTp K t [.str "word", .str "counts"]
  kv_FORMS_deal : ∃ t, PySem.W.nsIn K a.FORMS "deal" = some (some (.ref t)) ∧ L2.KTp K t [.str "word", .str "total", .str "weights"]
  kv_FORMS_hold : ∃ t, PySem.W.nsIn K a.FORMS "hold" = some (some (.ref t)) ∧ L2.KTp K t [.str "word", .str "count"]
  kv_FORMS_pause : ∃ t, PySem.W.nsIn K a.FORMS "pause" = some (some (.ref t)) ∧ L2.KTp K t [.str "word"]
  kv_FORMS_go : ∃ t, PySem.W.nsIn K a.FORMS "go" = some (some (.ref t)) ∧ L2.KTp K t [.str "word"]
  kv_FORMS_close : ∃ t, PySem.W.nsIn K a.FORMS "close" = some (some (.ref t)) ∧ L2.KTp K t [.str "word"]
  kv_FORMS_bar : ∃ t, PySem.W.nsIn K a.FORMS "bar" = some (some (.ref t)) ∧ L2.KTp K t [.str "guest", .str "word"]
  kv_FORMS_visit : ∃ t, PySem.W.nsIn K a.FORMS "visit" = some (some (.ref t)) ∧ L2.KTp K t [.str "guest", .str "marks"]
  n_all : mg "all" = none
  n_bool : mg "bool" = none
  n_int : mg "int" = none
  n_isinstance : mg "isinstance" = none
  n_len : mg "len" = none
  n_list : mg "list" = none
  n_max : mg "max" = none
  n_min : mg "min" = none
  n_range : mg "range" = none
  n_set : mg "set" = none
  n_sorted : mg "sorted" = none
  n_str : mg "str" = none
  n_tuple : mg "tuple" = none
  n_zip : mg "zip" = none
theorem sc_is_whole : FnScope ["thing"] ["thing"] (defScope s_is_whole) := ⟨rfl, rfl, rfl, by decide +kernel, rfl, by decide +kernel, by decide +kernel⟩
theorem sc_is_text_of : FnScope ["thing", "signs", "longest"] ["thing", "signs", "longest"] (defScope s_is_text_of) := ⟨rfl, rfl, rfl, by decide +kernel, rfl, by decide +kernel, by decide +kernel⟩
theorem sc_is_word : FnScope ["thing"] ["thing"] (defScope s_is_word) := ⟨rfl, rfl, rfl, by decide +kernel, rfl, by decide +kernel, by decide +kernel⟩
theorem sc_is_guest : FnScope ["thing"] ["thing"] (defScope s_is_guest) := ⟨rfl, rfl, rfl, by decide +kernel, rfl, by decide +kernel, by decide +kernel⟩
theorem sc_is_number : FnScope ["thing"] ["thing"] (defScope s_is_number) := ⟨rfl, rfl, rfl, by decide +kernel, rfl, by decide +kernel, by decide +kernel⟩
theorem sc_is_mark : FnScope ["thing"] ["thing"] (defScope s_is_mark) := ⟨rfl, rfl, rfl, by decide +kernel, rfl, by decide +kernel, by decide +kernel⟩
theorem sc_are_marks : FnScope ["thing"] ["thing"] (defScope s_are_marks) := ⟨rfl, rfl, rfl, by decide +kernel, rfl, by decide +kernel, by decide +kernel⟩
theorem sc_has_form : FnScope ["thing", "depth", "kind"] ["thing", "depth"] (defScope s_has_form) := ⟨rfl, rfl, rfl, by decide +kernel, rfl, by decide +kernel, by decide +kernel⟩
theorem sc_all_within : FnScope ["rule", "found", "inner"] ["rule"] (defScope s_all_within) := ⟨rfl, rfl, rfl, by decide +kernel, rfl, by decide +kernel, by decide +kernel⟩
theorem sc_words_of : FnScope ["rule"] ["rule"] (defScope s_words_of) := ⟨rfl, rfl, rfl, by decide +kernel, rfl, by decide +kernel, by decide +kernel⟩
theorem sc_is_rule : FnScope ["thing"] ["thing"] (defScope s_is_rule) := ⟨rfl, rfl, rfl, by decide +kernel, rfl, by decide +kernel, by decide +kernel⟩
theorem sc_is_count : FnScope ["thing"] ["thing"] (defScope s_is_count) := ⟨rfl, rfl, rfl, by decide +kernel, rfl, by decide +kernel, by decide +kernel⟩
theorem sc_is_total : FnScope ["thing"] ["thing"] (defScope s_is_total) := ⟨rfl, rfl, rfl, by decide +kernel, rfl, by decide +kernel, by decide +kernel⟩
theorem sc_is_weight : FnScope ["thing"] ["thing"] (defScope s_is_weight) := ⟨rfl, rfl, rfl, by decide +kernel, rfl, by decide +kernel, by decide +kernel⟩
theorem sc_are_counts : FnScope ["thing", "many"] ["thing", "many"] (defScope s_are_counts) := ⟨rfl, rfl, rfl, by decide +kernel, rfl, by decide +kernel, by decide +kernel⟩
theorem sc_are_weights : FnScope ["thing", "many"] ["thing", "many"] (defScope s_are_weights) := ⟨rfl, rfl, rfl, by decide +kernel, rfl, by decide +kernel, by decide +kernel⟩
theorem sc_are_arms : FnScope ["thing"] ["thing"] (defScope s_are_arms) := ⟨rfl, rfl, rfl, by decide +kernel, rfl, by decide +kernel, by decide +kernel⟩
theorem sc_check_row : FnScope ["fits"] ["fits"] (defScope s_check_row) := ⟨rfl, rfl, rfl, by decide +kernel, rfl, by decide +kernel, by decide +kernel⟩
theorem sc_read_number : FnScope ["text", "figures", "number"] ["text"] (defScope s_read_number) := ⟨rfl, rfl, rfl, by decide +kernel, rfl, by decide +kernel, by decide +kernel⟩
theorem sc_read_mark : FnScope ["text", "parts"] ["text"] (defScope s_read_mark) := ⟨rfl, rfl, rfl, by decide +kernel, rfl, by decide +kernel, by decide +kernel⟩
theorem sc_parts_of : FnScope ["text"] ["text"] (defScope s_parts_of) := ⟨rfl, rfl, rfl, by decide +kernel, rfl, by decide +kernel, by decide +kernel⟩
theorem sc_value_of : FnScope ["form", "text"] ["form", "text"] (defScope s_value_of) := ⟨rfl, rfl, rfl, by decide +kernel, rfl, by decide +kernel, by decide +kernel⟩
theorem sc_are_shuts : FnScope ["names"] ["names"] (defScope s_are_shuts) := ⟨rfl, rfl, rfl, by decide +kernel, rfl, by decide +kernel, by decide +kernel⟩
theorem sc_is_of : FnScope ["form", "thing"] ["form", "thing"] (defScope s_is_of) := ⟨rfl, rfl, rfl, by decide +kernel, rfl, by decide +kernel, by decide +kernel⟩
theorem sc_read_thing : FnScope ["form", "text", "thing"] ["form", "text"] (defScope s_read_thing) := ⟨rfl, rfl, rfl, by decide +kernel, rfl, by decide +kernel, by decide +kernel⟩
theorem sc_read_things : FnScope ["forms", "words"] ["forms", "words"] (defScope s_read_things) := ⟨rfl, rfl, rfl, by decide +kernel, rfl, by decide +kernel, by decide +kernel⟩
theorem sc_take_word : FnScope ["words"] ["words"] (defScope s_take_word) := ⟨rfl, rfl, rfl, by decide +kernel, rfl, by decide +kernel, by decide +kernel⟩
theorem sc_take_rule : FnScope ["words", "depth", "kind", "word", "first"] ["words", "depth"] (defScope s_take_rule) := ⟨rfl, rfl, rfl, by decide +kernel, rfl, by decide +kernel, by decide +kernel⟩
theorem sc_read_rule_words : FnScope ["words", "left", "rule"] ["words"] (defScope s_read_rule_words) := ⟨rfl, rfl, rfl, by decide +kernel, rfl, by decide +kernel, by decide +kernel⟩
theorem sc_read_rule : FnScope ["text"] ["text"] (defScope s_read_rule) := ⟨rfl, rfl, rfl, by decide +kernel, rfl, by decide +kernel, by decide +kernel⟩
theorem sc_read_deed : FnScope ["text", "words", "kind", "things"] ["text"] (defScope s_read_deed) := ⟨rfl, rfl, rfl, by decide +kernel, rfl, by decide +kernel, by decide +kernel⟩
theorem sc_Lcell_at : FnScope ["_law_script", "_law_k"] ["_law_script", "_law_k"] (defScope s_Lcell_at) := ⟨rfl, rfl, rfl, by decide +kernel, rfl, by decide +kernel, by decide +kernel⟩
theorem sc_Lmixed : FnScope ["_law_script", "_law_k", "_law_salt", "_law_cell", "_law_lap", "_law_near"] ["_law_script", "_law_k", "_law_salt"] (defScope s_Lmixed) := ⟨rfl, rfl, rfl, by decide +kernel, rfl, by decide +kernel, by decide +kernel⟩
theorem sc_Lword : FnScope ["_law_number_here", "_law_stem"] ["_law_number_here"] (defScope s_Lword) := ⟨rfl, rfl, rfl, by decide +kernel, rfl, by decide +kernel, by decide +kernel⟩
theorem sc_Lnumber : FnScope ["_law_script", "_law_k", "_law_number_here", "_law_cell"] ["_law_script", "_law_k", "_law_number_here"] (defScope s_Lnumber) := ⟨rfl, rfl, rfl, by decide +kernel, rfl, by decide +kernel, by decide +kernel⟩
theorem sc_Lleaf : FnScope ["_law_script", "_law_k", "_law_words_here", "_law_number_here", "_law_word_here"] ["_law_script", "_law_k", "_law_words_here"] (defScope s_Lleaf) := ⟨rfl, rfl, rfl, by decide +kernel, rfl, by decide +kernel, by decide +kernel⟩
theorem sc_Lrule : FnScope ["_law_script", "_law_at", "_law_many", "_law_words_here", "_law_pile", "_law_k", "_law_number_here", "_law_rule_here", "_law_high", "_law_other", "_law_more", "_law_word_here"] ["_law_script", "_law_at", "_law_many", "_law_words_here"] (defScope s_Lrule) := ⟨rfl, rfl, rfl, by decide +kernel, rfl, by decide +kernel, by decide +kernel⟩
theorem sc_Lwords : FnScope ["_law_script", "_law_number_here", "_law_words_here", "_law_k", "_law_word_here"] ["_law_script"] (defScope s_Lwords) := ⟨rfl, rfl, rfl, by decide +kernel, rfl, by decide +kernel, by decide +kernel⟩
theorem sc_Lname : FnScope ["_law_number_here", "_law_signs", "_law_step", "_law_word_here", "_law_j"] ["_law_number_here"] (defScope s_Lname) := ⟨rfl, rfl, rfl, by decide +kernel, rfl, by decide +kernel, by decide +kernel⟩
theorem sc_Lguest : FnScope ["_law_number_here", "_law_signs", "_law_step", "_law_word_here", "_law_j"] ["_law_number_here"] (defScope s_Lguest) := ⟨rfl, rfl, rfl, by decide +kernel, rfl, by decide +kernel, by decide +kernel⟩
theorem sc_Lnames : FnScope ["_law_script", "_law_k", "_law_salt", "_law_many", "_law_words_here", "_law_j", "_law_word_here"] ["_law_script", "_law_k", "_law_salt", "_law_many"] (defScope s_Lnames) := ⟨rfl, rfl, rfl, by decide +kernel, rfl, by decide +kernel, by decide +kernel⟩
theorem sc_Llong : FnScope ["_law_script", "_law_k", "_law_number_here", "_law_cell"] ["_law_script", "_law_k", "_law_number_here"] (defScope s_Llong) := ⟨rfl, rfl, rfl, by decide +kernel, rfl, by decide +kernel, by decide +kernel⟩
theorem sc_Lmany_marks : FnScope ["_law_script", "_law_k", "_law_marks_here", "_law_word_here", "_law_number_here", "_law_far"] ["_law_script", "_law_k"] (defScope s_Lmany_marks) := ⟨rfl, rfl, rfl, by decide +kernel, rfl, by decide +kernel, by decide +kernel⟩
theorem sc_Lform : FnScope ["_law_script", "_law_k", "_law_number_here", "_law_kind", "_law_name_here", "_law_arms", "_law_shuts", "_law_rule_here", "_law_many", "_law_far", "_law_weights"] ["_law_script", "_law_k"] (defScope s_Lform) := ⟨rfl, rfl, rfl, by decide +kernel, rfl, by decide +kernel, by decide +kernel⟩
theorem sc_Lrule_row : FnScope ["_law_rule_here"] ["_law_rule_here"] (defScope s_Lrule_row) := ⟨rfl, rfl, rfl, by decide +kernel, rfl, by decide +kernel, by decide +kernel⟩
theorem sc_Llisted : FnScope ["_law_things", "_law_row_here", "_law_thing"] ["_law_things"] (defScope s_Llisted) := ⟨rfl, rfl, rfl, by decide +kernel, rfl, by decide +kernel, by decide +kernel⟩
theorem sc_Lrow : FnScope ["_law_deed", "_law_parts", "_law_row_here", "_law_thing"] ["_law_deed"] (defScope s_Lrow) := ⟨rfl, rfl, rfl, by decide +kernel, rfl, by decide +kernel, by decide +kernel⟩
theorem sc_Lsame : FnScope ["_law_found", "_law_due"] ["_law_found", "_law_due"] (defScope s_Lsame) := ⟨rfl, rfl, rfl, by decide +kernel, rfl, by decide +kernel, by decide +kernel⟩
theorem sc_Lread : FnScope ["_law_row_here", "_law_found"] ["_law_row_here"] (defScope s_Lread) := ⟨rfl, rfl, rfl, by decide +kernel, rfl, by decide +kernel, by decide +kernel⟩
theorem sc_Lread_rule : FnScope ["_law_row_here", "_law_found"] ["_law_row_here"] (defScope s_Lread_rule) := ⟨rfl, rfl, rfl, by decide +kernel, rfl, by decide +kernel, by decide +kernel⟩
theorem sc_law : FnScope ["_law_script", "_law_k", "_law_deed"] ["_law_script"] (defScope s_law) := ⟨rfl, rfl, rfl, by decide +kernel, rfl, by decide +kernel, by decide +kernel⟩
def spCell (K : PySem.W.Frag) : Sp := fun vs H Q _ => ∃ (a : Addr) (ns : List Int) (k : Int), vs = [.ref a, .int k] ∧ SqL K H a (ns.map V.int) ∧ ns.length ≤ 63 ∧ ∀ z, Q (.int z) H
def spMixed (K : PySem.W.Frag) : Sp := fun vs H Q _ => ∃ (a : Addr) (ns : List Int) (k m : Int), vs = [.ref a, .int k, .int m] ∧ SqL K H a (ns.map V.int) ∧ ns.length ≤ 63 ∧ (0 ≤ k ∧ k ≤ 1000000) ∧ (0 ≤ m ∧ m ≤ 1000000) ∧ ∀ z, 0 ≤ z → z < 2147483648 → Q (.int z) H
def spLaw (K : PySem.W.Frag) : Sp := fun vs H Q _ => ∃ (a : Addr) (ns : List Int), vs = [.ref a] ∧ SqL K H a (ns.map V.int) ∧ ns.length ≤ 63 ∧ ∀ H', Q (.bl true) H'
section
variable {P : Program} {w : World} {K : PySem.W.Frag} {mg : Str → Option Value} {base : Heap} {a : Adr}
theorem ok_Lcell_at (T : Txt K mg a) : FnOk P w K mg base CX0 1 a.Lcell_at a.fd_Lcell_at ["_law_script", "_law_k"] (spCell K) := by
  refine T.f_Lcell_at.ok sc_Lcell_at (fun vs H Q E h => ?_) (fun cdv A outer s H vs Q E hr h => ?_)
  · obtain ⟨p, ns, k, rfl, _⟩ := h
    rfl
  · obtain ⟨p, ns, k, rfl, hS, hl, q⟩ := h
    refine ⟨_, (pss_cons (ps_if (pt_cmpR op_eq (pe_callB (call_lenK K rfl) (by rfl) T.n_len L2.boot_len (pa_cons (pv 0) pa_nil)) pe_int (nomark _)) (pss_one (ps_ret pe_int)) pss_nil)
  (pss_one (ps_ret (pe_ix (ix_listK K rfl) (pv 0) (pe_op op_mod (pv 1) (pe_callB (call_lenK K rfl) (by rfl) T.n_len L2.boot_len (pa_cons (pv 0) pa_nil))) (fun _ _ => rfl))))), ?_⟩
    refine ⟨_, rfl, _, ns.length, rfl, .inl ⟨_, hS, by simp⟩, rfl, _, rfl, ?_⟩
    refine iteI (fun h0 => q 0) (fun h0 => ?_)
    have hp : (0 : Int) < (ns.length : Int) := by omega
    have hm := mod_lt k hp
    obtain ⟨z, hz⟩ := atI_ints hm.1 hm.2
    exact ⟨_, rfl, _, rfl, _, rfl, _, ns.length, rfl, .inl ⟨_, hS, by simp⟩, _, _, rfl, rfl, hp, p, _, _, _, rfl, rfl, hS, hz, q z⟩
theorem ok_Lmixed (T : Txt K mg a) : FnOk P w K mg base CX0 2 a.Lmixed a.fd_Lmixed ["_law_script", "_law_k", "_law_salt"] (spMixed K) := by
  refine T.f_Lmixed.ok sc_Lmixed (fun vs H Q E h => ?_) (fun cdv A outer s H vs Q E hr h => ?_)
  · obtain ⟨p, ns, k, m, rfl, _⟩ := h
    rfl
  · obtain ⟨p, ns, k, m, rfl, hS, hl, ⟨k0, k1⟩, ⟨m0, m1⟩, q⟩ := h
    refine ⟨_, (pss_cons (ps_set (i := 3) sc_Lmixed.nd rfl (by first | exact Or.inl rfl | exact Or.inr rfl) (pe_call ((ok_Lcell_at T).mono (by first | decide | omega)) hr rfl T.m_Lcell_at T.f_Lcell_at.kp T.b_Lcell_at .nil pass0 (pa_cons (pv 0) (pa_cons (pv 1) pa_nil))))
  (pss_cons (ps_set (i := 4) sc_Lmixed.nd rfl (by first | exact Or.inl rfl | exact Or.inr rfl) (pe_op op_fdiv (pv 1) (pe_callB (call_max2 rfl) (by rfl) T.n_max L2.boot_max (pa_cons pe_int (pa_cons (pe_callB (call_lenK K rfl) (by rfl) T.n_len L2.boot_len (pa_cons (pv 0) pa_nil)) pa_nil)))))
  (pss_cons (ps_set (i := 5) sc_Lmixed.nd rfl (by first | exact Or.inl rfl | exact Or.inr rfl) (pe_op op_add (pe_op op_add (pe_op op_add (pe_op op_and (pv 3) pe_int) (pe_op op_mul (pe_op op_mul pe_int (pv 1)) (pv 1))) (pe_op op_mul (pe_op op_mul pe_int (pv 2)) (pv 2))) pe_int))
  (pss_cons (ps_set (i := 5) sc_Lmixed.nd rfl (by first | exact Or.inl rfl | exact Or.inr rfl) (pe_op op_mod (pe_op op_mul (pv 5) pe_int) pe_int))
  (pss_one (ps_ret (pe_op op_and (pe_op op_add (pe_op op_shr (pv 3) (pe_op op_mul pe_int (pe_op op_add (pv 2) (pe_op op_mul pe_int (pv 4))))) (pe_op op_mod (pe_op op_mul (pv 5) (pv 5)) pe_int)) pe_int))))))), ?_⟩
    refine ⟨_, rfl, _, rfl, p, ns, k, rfl, hS, hl, fun c => ?_⟩
    have hn : ∃ n : Int, n = (if (ns.length : Int) > 1 then (ns.length : Int) else 1) ∧ 0 < n ∧ n < 1073741824 := ⟨_, rfl, by split <;> omega, by split <;> omega⟩
    obtain ⟨n, en, n0, n1⟩ := hn
    refine ⟨_, rfl, _, rfl, _, ns.length, rfl, .inl ⟨_, hS, by simp⟩, _, _, rfl, _, n, rfl, by rw [en], ⟨n0, n1⟩, ?_⟩
    have l0 : 0 ≤ k / n := Int.ediv_nonneg k0 (by omega)
    try dsimp only
    generalize k / n = lap at l0
    refine ⟨_, rfl, _, _, rfl, rfl, _, rfl, _, _, rfl, rfl, .inl ⟨by decide, by decide⟩, _, rfl, _, _, rfl, rfl, .inr ⟨by omega, by omega⟩, _, _, rfl, rfl, _, rfl, _, _, rfl, rfl, .inl ⟨by decide, by decide⟩, _, rfl, _, _, rfl, rfl, .inr ⟨by omega, by omega⟩, _, _, rfl, rfl, _, _, rfl, rfl, ?_⟩
    refine ⟨_, rfl, _, _, rfl, rfl, .inr ⟨by decide, by decide⟩, _, _, rfl, rfl, (by show (0 : Int) < _; first | decide | omega), ?_⟩
    have hr0 := mod_lt ((Builtin.bitAnd c 2147483647 + 1009 * k * k + 7919 * m * m + 12) * 48271) (show (0 : Int) < 2147483647 by decide)
    try dsimp only
    generalize (Builtin.bitAnd c 2147483647 + 1009 * k * k + 7919 * m * m + 12) * 48271 % 2147483647 = near at hr0
    refine ⟨_, rfl, _, rfl, _, rfl, _, _, rfl, rfl, .inl ⟨by decide, by decide⟩, _, _, rfl, rfl, _, _, rfl, rfl, .inl ⟨by decide, by decide⟩, _, _, rfl, rfl, (by show (0 : Int) ≤ _; omega), _, rfl, _, rfl, _, _, rfl, rfl, .inl ⟨by omega, by omega⟩, _, _, rfl, rfl, (by show (0 : Int) < _; first | decide | omega), _, _, rfl, rfl, _, _, rfl, rfl, ?_⟩
    try dsimp only
    rw [mask31]
    have := mod_lt (c / 2 ^ (31 * (m + 128 * lap)).toNat + near * near % 2147483629) (show (0 : Int) < 2147483648 by decide)
    exact q _ this.1 this.2
theorem law_binds (T : Txt K mg a) (s : Shared) (u : Value) : BindsTo s a.fd_law ⟨[u], []⟩ [("_law_script", u)] := by
  obtain ⟨oc, od, kV, doc, pm, an, cdv, ct, osl, e, lk, hcd⟩ := T.f_law.ex
  rw [e]
  exact .of_eq rfl
theorem law_start {H : Hp} {p : Addr} {ns : List Int} (hl : ns.length ≤ 63) (hS : SqL K H p (ns.map V.int)) : spLaw K [.ref p] H (fun v _ => v = .bl true) fun _ _ _ => False := ⟨p, ns, rfl, hS, hl, fun _ => rfl⟩
end
inductive Ru where
  | any
  | has (w : Str)
  | least (w : Str) (n : Int)
  | not (q : Ru)
  | both (q r : Ru)
  | either (q r : Ru)
def Ru.hgt : Ru → Nat
  | .any => 1
  | .has _ => 1
  | .least _ _ => 1
  | .not q => q.hgt + 1
  | .both q r => max q.hgt r.hgt + 1
  | .either q r => max q.hgt r.hgt + 1
theorem Ru.hgt_pos : ∀ r : Ru, 0 < r.hgt
  | .any => Nat.one_pos
  | .has _ => Nat.one_pos
  | .least _ _ => Nat.one_pos
  | .not _ => Nat.succ_pos _
  | .both _ _ => Nat.succ_pos _
  | .either _ _ => Nat.succ_pos _
inductive RuAt (K : PySem.W.Frag) (H : Hp) : Ru → V → Prop
  | any {a : Addr} : SqT K H a [.str "any"] → RuAt K H .any (.ref a)
  | has {a : Addr} {w : Str} : SqT K H a [.str "has", .str w] → RuAt K H (.has w) (.ref a)
  | least {a : Addr} {w : Str} {n : Int} : SqT K H a [.str "least", .str w, .int n] → RuAt K H (.least w n) (.ref a)
  | not {a : Addr} {q : Ru} {v : V} : SqT K H a [.str "not", v] → RuAt K H q v → RuAt K H (.not q) (.ref a)
  | both {a : Addr} {q r : Ru} {v u : V} : SqT K H a [.str "both", v, u] → RuAt K H q v → RuAt K H r u → RuAt K H (.both q r) (.ref a)
  | either {a : Addr} {q r : Ru} {v u : V} : SqT K H a [.str "either", v, u] → RuAt K H q v → RuAt K H r u → RuAt K H (.either q r) (.ref a)
def Tups (H H' : Hp) : Prop := ∀ u xs, H u = some (.tup xs) → H' u = some (.tup xs)
theorem Tups.sq {K : PySem.W.Frag} {H H' : Hp} {a : Addr} {xs : List V} (e : Tups H H') (hs : ∀ u o, (∃ o', H u = some (.frz o' o)) → ∃ o', H' u = some (.frz o' o)) (h : SqT K H a xs) : SqT K H' a xs := by
  rcases h with h | h
  · rcases h with h | h
    · exact .inl (.inl (e _ _ h))
    · exact .inl (.inr (hs _ _ h))
  · exact .inr h
structure Kp (H H' : Hp) : Prop where
  tp : Tups H H'
  fz : ∀ u o, (∃ o', H u = some (.frz o' o)) → ∃ o', H' u = some (.frz o' o)
theorem Kp.refl (H : Hp) : Kp H H := ⟨fun _ _ h => h, fun _ _ h => h⟩
theorem Kp.trans {H H1 H2 : Hp} (a : Kp H H1) (b : Kp H1 H2) : Kp H H2 := ⟨fun u xs h => b.tp u xs (a.tp u xs h), fun u o h => b.fz u o (a.fz u o h)⟩
theorem Kp.of {H H' : Hp} (h : Same H H') : Kp H H' := ⟨fun u xs e => h u _ e, fun u o ⟨o', e⟩ => ⟨o', h u _ e⟩⟩
theorem Kp.lst {H : Hp} {a : Addr} {o : HO} {ys : List V} (hl : H a = some (.lst ys)) : Kp H (upd H a o) :=
  ⟨fun u xs h => by rw [upd_ne (fun e => by rw [e, hl] at h; cases h)]; exact h, fun u o ⟨o', h⟩ => ⟨o', by rw [upd_ne (fun e => by rw [e, hl] at h; cases h)]; exact h⟩⟩
theorem Kp.new {H : Hp} {a : Addr} {o : HO} (hn : H a = none) : Kp H (upd H a o) := .of (same_new (Same.refl H) hn)
theorem Kp.tq {K : PySem.W.Frag} {H H' : Hp} {a : Addr} {xs : List V} (e : Kp H H') (h : SqT K H a xs) : SqT K H' a xs := e.tp.sq e.fz h
theorem RuAt.kp {K : PySem.W.Frag} {H H' : Hp} (e : Kp H H') : ∀ {r : Ru} {v : V}, RuAt K H r v → RuAt K H' r v
  | _, _, .any h => .any (e.tq h)
  | _, _, .has h => .has (e.tq h)
  | _, _, .least h => .least (e.tq h)
  | _, _, .not h q => .not (e.tq h) (q.kp e)
  | _, _, .both h q r => .both (e.tq h) (q.kp e) (r.kp e)
  | _, _, .either h q r => .either (e.tq h) (q.kp e) (r.kp e)
def MkAt (K : PySem.W.Frag) (H : Hp) (ms : List (Str × Int)) (v : V) : Prop := ∃ a vs, v = .ref a ∧ SqT K H a vs ∧ vs.length = ms.length ∧ ∀ (i : Nat) (m : Str × Int), ms[i]? = some m → ∃ b, vs[i]? = some (.ref b) ∧ SqT K H b [.str m.1, .int m.2]
theorem MkAt.kp {K : PySem.W.Frag} {H H' : Hp} {ms : List (Str × Int)} {v : V} (e : Kp H H') (h : MkAt K H ms v) : MkAt K H' ms v := by
  obtain ⟨a, vs, h1, h2, h3, h4⟩ := h
  exact ⟨a, vs, h1, e.tq h2, h3, fun i m hm => let ⟨b, q1, q2⟩ := h4 i m hm; ⟨b, q1, e.tq q2⟩⟩
theorem take_map {α β : Type} {f : α → β} {l : List α} {i : Nat} {m : α} (h : l[i]? = some m) : (l.take (i + 1)).map f = (l.take i).map f ++ [f m] := by
  rw [List.take_add_one, h, List.map_append]
  rfl
inductive RuOk (ws : List Str) : Ru → Prop
  | any : RuOk ws .any
  | has {w : Str} : w ∈ ws → RuOk ws (.has w)
  | least {w : Str} {n : Int} : w ∈ ws → -ten30 ≤ n → n ≤ ten30 → RuOk ws (.least w n)
  | not {q : Ru} : RuOk ws q → RuOk ws (.not q)
  | both {q r : Ru} : RuOk ws q → RuOk ws r → RuOk ws (.both q r)
  | either {q r : Ru} : RuOk ws q → RuOk ws r → RuOk ws (.either q r)
theorem ten30_big : (100 : Int) ≤ ten30 := by
  have := ten30_pos
  omega
def Ru.txt : Ru → Str
  | .any => Txt.join " " ["any"]
  | .has w => Txt.join " " ["has", w]
  | .least w n => Txt.join " " ["least", w, numS n]
  | .not q => Txt.join " " ["not", q.txt]
  | .both q r => Txt.join " " ["both", q.txt, r.txt]
  | .either q r => Txt.join " " ["either", q.txt, r.txt]
def Ru.fit : Ru → Prop
  | .any => True
  | .has w => w.length ≤ 100
  | .least w n => w.length ≤ 100 ∧ -ten30 ≤ n ∧ n ≤ ten30
  | .not q => q.fit
  | .both q r => q.fit ∧ r.fit
  | .either q r => q.fit ∧ r.fit
theorem RuOk.fit {ws : List Str} (hw : ∀ w ∈ ws, w.length ≤ 100) : ∀ {r : Ru}, RuOk ws r → r.fit
  | _, .any => trivial
  | _, .has h => hw _ h
  | _, .least h a b => ⟨hw _ h, a, b⟩
  | _, .not q => q.fit hw
  | _, .both q r => ⟨q.fit hw, r.fit hw⟩
  | _, .either q r => ⟨q.fit hw, r.fit hw⟩
theorem num_abs {n : Int} (h : -ten30 ≤ n ∧ n ≤ ten30) : n.natAbs < 10 ^ 31 := by
  rw [ten30_lit] at h
  have : (10 : Nat) ^ 31 = 10000000000000000000000000000000 := by decide +kernel
  omega
theorem num_log {n : Int} (h : -ten30 ≤ n ∧ n ≤ ten30) : n.natAbs.log2 < 1920 := log_lt (Nat.lt_of_lt_of_le (num_abs h) (by decide +kernel))
theorem num_len {n : Int} (h : -ten30 ≤ n ∧ n ≤ ten30) : (numS n).length ≤ 32 := int_len (by decide) (num_abs h)
theorem bl1 : (Str.ofString " ").length = 1 := by decide +kernel
theorem lens_cons (t : Str) (r : List Str) : lens (t :: r) = t.length + lens r := by
  unfold lens
  rw [List.map_cons, List.sum_cons]
theorem lens_nil : lens [] = 0 := rfl
theorem join1 (x : Str) : (Txt.join " " [x]).length ≤ x.length + 1 := by
  have := join_le " " [x]
  rw [lens_cons, lens_nil, bl1] at this
  simpa using this
theorem join2 (x y : Str) : (Txt.join " " [x, y]).length ≤ x.length + y.length + 2 := by
  have := join_le " " [x, y]
  rw [lens_cons, lens_cons, lens_nil, bl1] at this
  simp at this
  omega
theorem join3 (x y z : Str) : (Txt.join " " [x, y, z]).length ≤ x.length + y.length + z.length + 3 := by
  have := join_le " " [x, y, z]
  rw [lens_cons, lens_cons, lens_cons, lens_nil, bl1] at this
  simp at this
  omega
theorem Ru.txt_len : ∀ {r : Ru}, r.fit → r.txt.length + 9 ≤ 100 * 2 ^ r.hgt
  | .any, _ => by
    show (Txt.join " " ["any"]).length + 9 ≤ 100 * 2 ^ 1
    have := join1 "any"
    have : (Str.ofString "any").length = 3 := by decide +kernel
    omega
  | .has w, h => by
    show (Txt.join " " ["has", w]).length + 9 ≤ 100 * 2 ^ 1
    have := join2 "has" w
    have : (Str.ofString "has").length = 3 := by decide +kernel
    have h : w.length ≤ 100 := h
    omega
  | .least w n, h => by
    show (Txt.join " " ["least", w, numS n]).length + 9 ≤ 100 * 2 ^ 1
    have := join3 "least" w (numS n)
    have : (Str.ofString "least").length = 5 := by decide +kernel
    have h : w.length ≤ 100 ∧ -ten30 ≤ n ∧ n ≤ ten30 := h
    have := num_len h.2
    omega
  | .not q, h => by
    show (Txt.join " " ["not", q.txt]).length + 9 ≤ 100 * 2 ^ (q.hgt + 1)
    have := join2 "not" q.txt
    have : (Str.ofString "not").length = 3 := by decide +kernel
    have := q.txt_len h
    rw [Nat.pow_succ]
    omega
  | .both q r, h => by
    show (Txt.join " " ["both", q.txt, r.txt]).length + 9 ≤ 100 * 2 ^ (max q.hgt r.hgt + 1)
    have := join3 "both" q.txt r.txt
    have : (Str.ofString "both").length = 4 := by decide +kernel
    have := q.txt_len h.1
    have := r.txt_len h.2
    have h1 : 2 ^ q.hgt ≤ 2 ^ max q.hgt r.hgt := Nat.pow_le_pow_right (by decide) (Nat.le_max_left _ _)
    have h2 : 2 ^ r.hgt ≤ 2 ^ max q.hgt r.hgt := Nat.pow_le_pow_right (by decide) (Nat.le_max_right _ _)
    rw [Nat.pow_succ]
    omega
  | .either q r, h => by
    show (Txt.join " " ["either", q.txt, r.txt]).length + 9 ≤ 100 * 2 ^ (max q.hgt r.hgt + 1)
    have := join3 "either" q.txt r.txt
    have : (Str.ofString "either").length = 6 := by decide +kernel
    have := q.txt_len h.1
    have := r.txt_len h.2
    have h1 : 2 ^ q.hgt ≤ 2 ^ max q.hgt r.hgt := Nat.pow_le_pow_right (by decide) (Nat.le_max_left _ _)
    have h2 : 2 ^ r.hgt ≤ 2 ^ max q.hgt r.hgt := Nat.pow_le_pow_right (by decide) (Nat.le_max_right _ _)
    rw [Nat.pow_succ]
    omega
theorem Ru.txt_le {r : Ru} (h : r.fit) (h6 : r.hgt ≤ 6) : r.txt.length ≤ 6400 := by
  have h1 := r.txt_len h
  have h2 : 2 ^ r.hgt ≤ 2 ^ 6 := Nat.pow_le_pow_right (by decide) h6
  omega
inductive Part (K : PySem.W.Frag) (H : Hp) (n : Nat) : V → Str → Prop
  | str (z : Str) : z.length ≤ 100 → Part K H n (.str z) z
  | num (i : Int) : -ten30 ≤ i ∧ i ≤ ten30 → Part K H n (.int i) (numS i)
  | rule {q : Ru} {v : V} : RuAt K H q v → q.hgt ≤ n → q.hgt ≤ 6 → q.fit → Part K H n v q.txt
theorem Part.len {K : PySem.W.Frag} {H : Hp} {n : Nat} {v : V} {t : Str} (h : Part K H n v t) : t.length ≤ 6400 := by
  cases h with
  | str _ h => omega
  | num i h => have := num_len h; omega
  | rule _ _ h6 hf => exact Ru.txt_le hf h6
theorem Part.kp {K : PySem.W.Frag} {H H' : Hp} {n : Nat} {v : V} {t : Str} (e : Kp H H') (h : Part K H n v t) : Part K H' n v t := by
  cases h with
  | str _ h => exact .str _ h
  | num _ h => exact .num _ h
  | rule h1 h2 h3 h4 => exact .rule (h1.kp e) h2 h3 h4
theorem parts_len {K : PySem.W.Frag} {H : Hp} {n : Nat} : ∀ {vs : List V} {ts : List Str}, Paired (Part K H n) vs ts → lens ts ≤ 6400 * ts.length
  | _, _, .nil => Nat.le_refl _
  | _, _, .cons r t => by
    have := parts_len t
    have := r.len
    rw [lens_cons, List.length_cons]
    omega
theorem ru_parts {K : PySem.W.Frag} {H : Hp} {n : Nat} {r : Ru} {rv : V} (h : RuAt K H r rv) (hh : r.hgt ≤ n + 1) (h6 : r.hgt ≤ 6) (hf : r.fit) :
    ∃ (a : Addr) (hd : Str) (vs : List V) (ts : List Str), rv = .ref a ∧ SqT K H a (.str hd :: vs) ∧ hd.length ≤ 100 ∧ Paired (Part K H n) vs ts ∧ ts.length ≤ 2 ∧ r.txt = Txt.join " " (hd :: ts) ∧
      ((hd ∈ (["not", "both", "either"] : List Str) ∧ ∀ (i : Nat) v t, vs[i]? = some v → ts[i]? = some t → ∃ q : Ru, RuAt K H q v ∧ q.hgt ≤ n ∧ q.hgt ≤ 6 ∧ q.fit ∧ t = q.txt) ∨
       (hd ∉ (["not", "both", "either"] : List Str) ∧ ∀ (i : Nat) v t, vs[i]? = some v → ts[i]? = some t → (v = .str t) ∨ ∃ z, v = .int z ∧ (-ten30 ≤ z ∧ z ≤ ten30) ∧ t = numS z)) := by
  cases h with
  | any h =>
    refine ⟨_, "any", [], [], rfl, h, by decide +kernel, .nil, by decide, rfl, .inr ⟨by decide +kernel, fun i v t hv => ?_⟩⟩
    simp at hv
  | has h =>
    rename_i a w
    have hf : w.length ≤ 100 := hf
    refine ⟨_, "has", [.str w], [w], rfl, h, by decide +kernel, .cons (.str w hf) .nil, by simp, rfl, .inr ⟨by decide +kernel, fun i v t hv ht => ?_⟩⟩
    cases i with
    | zero => cases hv; cases ht; exact .inl rfl
    | succ i => simp at hv
  | least h =>
    rename_i a w z
    have hf : w.length ≤ 100 ∧ -ten30 ≤ z ∧ z ≤ ten30 := hf
    refine ⟨_, "least", [.str w, .int z], [w, numS z], rfl, h, by decide +kernel, .cons (.str w hf.1) (.cons (.num z hf.2) .nil), by simp, rfl, .inr ⟨by decide +kernel, fun i v t hv ht => ?_⟩⟩
    rcases i with _ | _ | i
    · cases hv; cases ht; exact .inl rfl
    · cases hv; cases ht; exact .inr ⟨z, rfl, hf.2, rfl⟩
    · simp at hv
  | not h h1 =>
    rename_i a q v
    have hq : q.hgt + 1 ≤ n + 1 := hh
    have hq6 : q.hgt + 1 ≤ 6 := h6
    have hf : q.fit := hf
    refine ⟨_, "not", [v], [q.txt], rfl, h, by decide +kernel, .cons (.rule h1 (by omega) (by omega) hf) .nil, by simp, rfl, .inl ⟨by decide +kernel, fun i u t hv ht => ?_⟩⟩
    cases i with
    | zero => cases hv; cases ht; exact ⟨q, h1, by omega, by omega, hf, rfl⟩
    | succ i => simp at hv
  | both h h1 h2 =>
    rename_i a q r v u
    have hq : max q.hgt r.hgt + 1 ≤ n + 1 := hh
    have hq6 : max q.hgt r.hgt + 1 ≤ 6 := h6
    have hf : q.fit ∧ r.fit := hf
    refine ⟨_, "both", [v, u], [q.txt, r.txt], rfl, h, by decide +kernel, .cons (.rule h1 (by omega) (by omega) hf.1) (.cons (.rule h2 (by omega) (by omega) hf.2) .nil), by simp, rfl, .inl ⟨by decide +kernel, fun i u t hv ht => ?_⟩⟩
    rcases i with _ | _ | i
    · cases hv; cases ht; exact ⟨q, h1, by omega, by omega, hf.1, rfl⟩
    · cases hv; cases ht; exact ⟨r, h2, by omega, by omega, hf.2, rfl⟩
    · simp at hv
  | either h h1 h2 =>
    rename_i a q r v u
    have hq : max q.hgt r.hgt + 1 ≤ n + 1 := hh
    have hq6 : max q.hgt r.hgt + 1 ≤ 6 := h6
    have hf : q.fit ∧ r.fit := hf
    refine ⟨_, "either", [v, u], [q.txt, r.txt], rfl, h, by decide +kernel, .cons (.rule h1 (by omega) (by omega) hf.1) (.cons (.rule h2 (by omega) (by omega) hf.2) .nil), by simp, rfl, .inl ⟨by decide +kernel, fun i u t hv ht => ?_⟩⟩
    rcases i with _ | _ | i
    · cases hv; cases ht; exact ⟨q, h1, by omega, by omega, hf.1, rfl⟩
    · cases hv; cases ht; exact ⟨r, h2, by omega, by omega, hf.2, rfl⟩
    · simp at hv
def spRuleText (K : PySem.W.Frag) (n : Nat) : Sp := fun vs H Q _ => ∃ (r : Ru) (rv : V), vs = [rv] ∧ RuAt K H r rv ∧ r.hgt ≤ n ∧ r.hgt ≤ 6 ∧ r.fit ∧ ∀ H', Same H H' → Q (.str r.txt) H'
theorem pair_at {α β : Type} {R : α → β → Prop} : ∀ {a : List α} {b : List β}, Paired R a b → ∀ (i : Nat) (m : α), a[i]? = some m → ∃ v, b[i]? = some v ∧ R m v
  | _, _, .nil, i, m, h => by simp at h
  | _, _, .cons r t, 0, m, h => by
    simp at h
    exact ⟨_, rfl, h ▸ r⟩
  | _, _, .cons r t, i + 1, m, h => by
    simp at h
    obtain ⟨v, h1, h2⟩ := pair_at t i m h
    exact ⟨v, by simpa using h1, h2⟩
theorem pair_len {α β : Type} {R : α → β → Prop} : ∀ {a : List α} {b : List β}, Paired R a b → a.length = b.length
  | _, _, .nil => rfl
  | _, _, .cons _ t => by rw [List.length_cons, List.length_cons, pair_len t]
theorem take_strs {ts : List Str} {i : Nat} {t : Str} (h : ts[i]? = some t) : (ts.take i).map V.str ++ [V.str t] = (ts.take (i + 1)).map V.str := by
  rw [List.take_add_one, h, List.map_append]
  rfl
theorem hd_join {hd : Str} {ts : List Str} (h1 : hd.length ≤ 100) (h2 : lens ts ≤ 6400 * ts.length) (h3 : ts.length ≤ 2) : JoinOk " " (hd :: ts) = true := by
  refine join_ok ?_
  rw [lens_cons, bl1, List.length_cons]
  omega
theorem cut1 {x : V} {vs : List V} : cutV (x :: vs) (some 1) none = vs := by
  unfold cutV HT.sIx
  simp
def Flat (v : V) (t : Str) : Prop := (v = .str t ∧ t.length ≤ 100) ∨ ∃ i : Int, v = .int i ∧ i.natAbs < 10 ^ 61 ∧ t = numS i
theorem Flat.len {v : V} {t : Str} (h : Flat v t) : t.length ≤ 100 := by
  rcases h with ⟨_, h⟩ | ⟨i, _, h, rfl⟩
  · exact h
  · have := int_len (k := 61) (by decide) h
    show (numS i).length ≤ 100
    unfold numS
    omega
def listS : List Str → Str
  | [] => "-"
  | t :: r => Txt.join "," (t :: r)
theorem cm1 : (Str.ofString ",").length = 1 := by decide +kernel
theorem flats_len : ∀ {vs : List V} {ts : List Str}, Paired Flat vs ts → lens ts ≤ 100 * ts.length
  | _, _, .nil => Nat.le_refl _
  | _, _, .cons r t => by
    have := flats_len t
    have := r.len
    rw [lens_cons, List.length_cons]
    omega
theorem listS_len {vs : List V} {ts : List Str} (h : Paired Flat vs ts) (h1 : ts.length ≤ 10) : (listS ts).length ≤ 1010 := by
  cases ts with
  | nil => have : (Str.ofString "-").length = 1 := by decide +kernel
           show (Str.ofString "-").length ≤ 1010
           omega
  | cons t r =>
    show (Txt.join "," (t :: r)).length ≤ 1010
    have h2 := join_le "," (t :: r)
    have h3 := flats_len h
    rw [cm1] at h2
    omega
def Flats (K : PySem.W.Frag) (H : Hp) (v : V) (ts : List Str) : Prop := ∃ a vs, v = .ref a ∧ SqT K H a vs ∧ Paired Flat vs ts ∧ ts.length ≤ 10
theorem Flats.kp {K : PySem.W.Frag} {H H' : Hp} {v : V} {ts : List Str} (e : Kp H H') (h : Flats K H v ts) : Flats K H' v ts := by
  obtain ⟨a, vs, h1, h2, h3, h4⟩ := h
  exact ⟨a, vs, h1, e.tq h2, h3, h4⟩
def Thing (K : PySem.W.Frag) (H : Hp) (v : V) (t : Str) : Prop := Flat v t ∨ ∃ fs, Flats K H v fs ∧ t = listS fs
theorem Thing.kp {K : PySem.W.Frag} {H H' : Hp} {v : V} {t : Str} (e : Kp H H') (h : Thing K H v t) : Thing K H' v t := by
  rcases h with h | ⟨fs, h, r⟩
  · exact .inl h
  · exact .inr ⟨fs, h.kp e, r⟩
theorem Thing.len {K : PySem.W.Frag} {H : Hp} {v : V} {t : Str} (h : Thing K H v t) : t.length ≤ 1010 := by
  rcases h with h | ⟨fs, ⟨a, vs, _, _, h, h1⟩, rfl⟩
  · have := h.len; omega
  · exact listS_len h h1
theorem things_len {K : PySem.W.Frag} {H : Hp} : ∀ {vs : List V} {ts : List Str}, Paired (Thing K H) vs ts → lens ts ≤ 1010 * ts.length
  | _, _, .nil => Nat.le_refl _
  | _, _, .cons r t => by
    have := things_len t
    have := r.len
    rw [lens_cons, List.length_cons]
    omega
theorem blank_ok {n : Nat} {ts : List Str} (h : lens ts ≤ n) (h1 : n ≤ 1000000) (h2 : ts.length ≤ 100) : JoinOk " " ts = true := by
  refine join_ok ?_
  rw [bl1]
  omega
def mkS (m : Str × Int) : Str := m.1 ++ "=" ++ numS m.2
def MkFit (m : Str × Int) : Prop := m.1.length ≤ 40 ∧ -ten30 ≤ m.2 ∧ m.2 ≤ ten30
theorem mkS_len {m : Str × Int} (h : MkFit m) : (mkS m).length ≤ 100 := by
  unfold mkS
  rw [app_len, app_len]
  have := num_len h.2
  have : (Str.ofString "=").length = 1 := by decide +kernel
  have := h.1
  omega
theorem marks_flat {ms : List (Str × Int)} (h : ∀ m ∈ ms, MkFit m) : Paired Flat (ms.map fun m => V.str (mkS m)) (ms.map mkS) := by
  induction ms with
  | nil => exact .nil
  | cons m r ih => exact .cons (.inl ⟨rfl, mkS_len (h m List.mem_cons_self)⟩) (ih fun x hx => h x (List.mem_cons_of_mem _ hx))
def Ru.subs : Ru → List Ru
  | .any => [.any]
  | .has w => [.has w]
  | .least w n => [.least w n]
  | .not q => .not q :: q.subs
  | .both q r => .both q r :: (q.subs ++ r.subs)
  | .either q r => .either q r :: (q.subs ++ r.subs)
def Ru.cnt (r : Ru) : Nat := r.subs.length
def Ru.words : Ru → List Str
  | .any => []
  | .has w => [w]
  | .least w _ => [w]
  | .not q => q.words
  | .both q r => q.words ++ r.words
  | .either q r => q.words ++ r.words
def Ru.word1 : Ru → Option Str
  | .has w => some w
  | .least w _ => some w
  | _ => none
theorem Ru.words_subs : ∀ r : Ru, r.subs.filterMap Ru.word1 = r.words
  | .any => rfl
  | .has _ => rfl
  | .least _ _ => rfl
  | .not q => by
    show (Ru.not q :: q.subs).filterMap Ru.word1 = q.words
    rw [List.filterMap_cons_none rfl, q.words_subs]
  | .both q r => by
    show (Ru.both q r :: (q.subs ++ r.subs)).filterMap Ru.word1 = q.words ++ r.words
    rw [List.filterMap_cons_none rfl, List.filterMap_append, q.words_subs, r.words_subs]
  | .either q r => by
    show (Ru.either q r :: (q.subs ++ r.subs)).filterMap Ru.word1 = q.words ++ r.words
    rw [List.filterMap_cons_none rfl, List.filterMap_append, q.words_subs, r.words_subs]
theorem pow_max {a b : Nat} : 2 ^ a + 2 ^ b ≤ 2 ^ (max a b + 1) := by
  have h1 : 2 ^ a ≤ 2 ^ max a b := Nat.pow_le_pow_right (by decide) (Nat.le_max_left _ _)
  have h2 : 2 ^ b ≤ 2 ^ max a b := Nat.pow_le_pow_right (by decide) (Nat.le_max_right _ _)
  rw [Nat.pow_succ]
  omega
theorem Ru.cnt_lt : ∀ r : Ru, r.cnt + 1 ≤ 2 ^ r.hgt
  | .any => Nat.le_refl _
  | .has _ => Nat.le_refl _
  | .least _ _ => Nat.le_refl _
  | .not q => by
    have h := q.cnt_lt
    show (q.subs.length + 1) + 1 ≤ 2 ^ (q.hgt + 1)
    unfold Ru.cnt at h
    rw [Nat.pow_succ]
    have := q.hgt_pos
    have : 2 ^ 1 ≤ 2 ^ q.hgt := Nat.pow_le_pow_right (by decide) this
    omega
  | .both q r => by
    have h1 := q.cnt_lt
    have h2 := r.cnt_lt
    show ((q.subs ++ r.subs).length + 1) + 1 ≤ 2 ^ (max q.hgt r.hgt + 1)
    unfold Ru.cnt at h1 h2
    rw [List.length_append]
    have := pow_max (a := q.hgt) (b := r.hgt)
    omega
  | .either q r => by
    have h1 := q.cnt_lt
    have h2 := r.cnt_lt
    show ((q.subs ++ r.subs).length + 1) + 1 ≤ 2 ^ (max q.hgt r.hgt + 1)
    unfold Ru.cnt at h1 h2
    rw [List.length_append]
    have := pow_max (a := q.hgt) (b := r.hgt)
    omega
theorem Ru.words_le (r : Ru) : r.words.length ≤ r.cnt := by
  rw [← r.words_subs]
  exact List.length_filterMap_le _ _
structure Only (s : Str) (m : Nat) (x : Str) : Prop where
  lo : 1 ≤ x.length
  hi : x.length ≤ m
  cs : ∀ c ∈ x.cps.toList, c ∈ s.cps.toList
abbrev lettersS : Str := "abcdefghijklmnopqrstuvwxyz"
abbrev guestS : Str := "abcdefghijklmnopqrstuvwxyz0123456789"
abbrev figureS : Str := "0123456789"
abbrev Wd : Str → Prop := Only lettersS 12
abbrev Gst : Str → Prop := Only guestS 24
theorem letters_in : ∀ c ∈ lettersS.cps.toList, 97 ≤ c ∧ c ≤ 122 := by decide +kernel
theorem guests_in : ∀ c ∈ guestS.cps.toList, (97 ≤ c ∧ c ≤ 122) ∨ (48 ≤ c ∧ c ≤ 57) := by decide +kernel
theorem figures_in {c : Nat} (h1 : 48 ≤ c) (h2 : c ≤ 57) : c ∈ figureS.cps.toList := by
  have h : ∀ d ∈ List.range 10, d + 48 ∈ figureS.cps.toList := by decide +kernel
  have := h (c - 48) (by rw [List.mem_range]; omega)
  rwa [Nat.sub_add_cancel h1] at this
theorem Wd.free {w : Str} (h : Wd w) {c : Nat} (hc : c < 97) : Free c w := fun z => by
  have := letters_in c (h.cs c z)
  omega
theorem Gst.free {w : Str} (h : Gst w) {c : Nat} (hc : c < 48 ∨ (57 < c ∧ c < 97)) : Free c w := fun z => by
  have := guests_in c (h.cs c z)
  omega
theorem len_list (x : Str) : x.cps.toList.length = x.length := by
  show x.cps.toList.length = x.cps.size
  simp
theorem Only.some {s x : Str} {m : Nat} (h : Only s m x) : ∃ c cs, x.cps.toList = c :: cs ∧ c ∈ s.cps.toList := by
  have h1 := h.lo
  rw [← len_list] at h1
  cases e : x.cps.toList with
  | nil => rw [e] at h1; exact absurd h1 (by decide)
  | cons c cs => exact ⟨c, cs, rfl, h.cs c (by rw [e]; exact List.mem_cons_self)⟩
theorem num_only {m : Nat} (h : m < 10 ^ 60) : Only figureS 60 (numS (m : Int)) := by
  refine ⟨?_, num_nlen (by decide) h, fun c hc => ?_⟩
  · rw [← len_list]
    exact List.length_pos_iff.mpr (num_some m)
  · have := num_digits m c hc
    exact figures_in this.1 this.2
theorem num_head (m : Nat) : ∃ c cs, (numS (m : Int)).cps.toList = c :: cs ∧ 48 ≤ c := by
  cases e : (numS (m : Int)).cps.toList with
  | nil => exact absurd e (num_some m)
  | cons c cs => exact ⟨c, cs, rfl, (num_digits m c (by rw [e]; exact List.mem_cons_self)).1⟩
structure Pt (t : Str) : Prop where
  fr : Free 44 t
  bl : Free 32 t
  hd : ∃ c cs, t.cps.toList = c :: cs ∧ c ≠ 45
  ln : t.length ≤ 100
theorem Wd.pt {w : Str} (h : Wd w) : Pt w := by
  obtain ⟨c, cs, e, hc⟩ := h.some
  have := letters_in c hc
  exact ⟨h.free (by decide), h.free (by decide), ⟨c, cs, e, by omega⟩, Nat.le_trans h.hi (by decide)⟩
theorem num_pt {i : Int} (h0 : 0 ≤ i) (h1 : i.natAbs < 10 ^ 60) : Pt (numS i) := by
  obtain ⟨m, rfl⟩ := Int.eq_ofNat_of_zero_le h0
  obtain ⟨c, cs, e, hc⟩ := num_head m
  exact ⟨num_free (by decide) (by decide), num_free (by decide) (by decide), ⟨c, cs, e, by omega⟩, Nat.le_trans (num_nlen (k := 60) (by decide) h1) (by decide)⟩
theorem free_app {c : Nat} {x y : Str} (h1 : Free c x) (h2 : Free c y) : Free c (x ++ y) := fun z => by
  rw [signs_app] at z
  rcases List.mem_append.mp z with z | z
  · exact h1 z
  · exact h2 z
theorem eq_sign : (Str.ofString "=") = (⟨#[61]⟩ : Str) := by decide +kernel
theorem bl_sign : (Str.ofString " ") = (⟨#[32]⟩ : Str) := by decide +kernel
theorem cm_sign : (Str.ofString ",") = (⟨#[44]⟩ : Str) := by decide +kernel
theorem ten30_abs {i : Int} (h : -ten30 ≤ i ∧ i ≤ ten30) : i.natAbs < 10 ^ 60 := Nat.lt_of_lt_of_le (num_abs h) (by decide +kernel)
theorem mk_pt {m : Str × Int} (h : Wd m.1) (hn : -ten30 ≤ m.2 ∧ m.2 ≤ ten30) : Pt (mkS m) := by
  obtain ⟨c, cs, e, hc⟩ := h.some
  have h1 := letters_in c hc
  have f : ∀ c : Nat, c ≠ 45 → c ≠ 61 → ¬ (48 ≤ c ∧ c ≤ 57) → c < 97 → Free c (mkS m) := fun d h1 h2 h3 h4 => by
    unfold mkS
    refine free_app (free_app (h.free h4) ?_) (num_free h1 h3)
    rw [eq_sign]
    exact fun z => h2 (List.mem_singleton.mp z)
  refine ⟨f 44 (by decide) (by decide) (by decide) (by decide), f 32 (by decide) (by decide) (by decide) (by decide), ⟨c, cs ++ (Str.ofString "=").cps.toList ++ (numS m.2).cps.toList, ?_, by omega⟩, mkS_len ⟨Nat.le_trans h.hi (by decide), hn⟩⟩
  unfold mkS
  rw [signs_app, signs_app, e]
  simp
inductive Th where
  | s (w : Str)
  | n (i : Int)
  | ws (l : List Str)
  | ns (l : List Int)
  | ms (l : List (Str × Int))
def Th.txt : Th → Str
  | .s w => w
  | .n i => numS i
  | .ws l => listS l
  | .ns l => listS (l.map numS)
  | .ms l => listS (l.map mkS)
def ThAt (K : PySem.W.Frag) (H : Hp) : Th → V → Prop
  | .s w, v => v = .str w
  | .n i, v => v = .int i
  | .ws l, v => ∃ a, v = .ref a ∧ SqT K H a (l.map V.str)
  | .ns l, v => ∃ a, v = .ref a ∧ SqT K H a (l.map V.int)
  | .ms l, v => MkAt K H l v
theorem ThAt.kp {K : PySem.W.Frag} {H H' : Hp} (e : Kp H H') : ∀ {t : Th} {v : V}, ThAt K H t v → ThAt K H' t v
  | .s _, _, h => h
  | .n _, _, h => h
  | .ws _, _, ⟨a, h1, h2⟩ => ⟨a, h1, e.tq h2⟩
  | .ns _, _, ⟨a, h1, h2⟩ => ⟨a, h1, e.tq h2⟩
  | .ms _, _, h => MkAt.kp e h
inductive ThOk : Str → Th → Prop
  | word {w : Str} : Wd w → ThOk "word" (.s w)
  | guest {w : Str} : Gst w → ThOk "guest" (.s w)
  | count {i : Int} : 0 ≤ i → i.natAbs < 10 ^ 60 → ThOk "count" (.n i)
  | total {i : Int} : 0 ≤ i → i ≤ 1000 → ThOk "total" (.n i)
  | arms {l : List Str} : (∀ w ∈ l, Wd w) → l.Nodup → 1 ≤ l.length → l.length ≤ 4 → ThOk "arms" (.ws l)
  | shuts {l : List Str} : (∀ w ∈ l, Wd w) → l.Nodup → l.length ≤ 8 → ThOk "shuts" (.ws l)
  | counts {l : List Int} : (∀ i ∈ l, 0 ≤ i ∧ i.natAbs < 10 ^ 60) → 1 ≤ l.length → l.length ≤ 4 → ThOk "counts" (.ns l)
  | weights {l : List Int} : (∀ i ∈ l, 1 ≤ i ∧ i ≤ ten30) → 1 ≤ l.length → l.length ≤ 4 → ThOk "weights" (.ns l)
  | marks {l : List (Str × Int)} : (∀ m ∈ l, Wd m.1 ∧ -ten30 ≤ m.2 ∧ m.2 ≤ ten30) → (l.map Prod.fst).Nodup → l.length ≤ 8 → ThOk "marks" (.ms l)
def spWhole (K : PySem.W.Frag) : Sp := fun vs H Q _ => ∃ z, vs = [.int z] ∧ Q (.bl true) H
def spTextOf : Sp := fun vs H Q _ => ∃ (x s : Str) (m : Nat), vs = [.str x, .str s, .int m] ∧ Only s m x ∧ m ≤ 60 ∧ ∀ H', Same H H' → Q (.bl true) H'
def spWd : Sp := fun vs H Q _ => ∃ x, vs = [.str x] ∧ Wd x ∧ ∀ H', Same H H' → Q (.bl true) H'
def spGst : Sp := fun vs H Q _ => ∃ x, vs = [.str x] ∧ Gst x ∧ ∀ H', Same H H' → Q (.bl true) H'
def spNum : Sp := fun vs H Q _ => ∃ z, vs = [.int z] ∧ (-ten30 ≤ z ∧ z ≤ ten30) ∧ Q (.bl true) H
def spCount : Sp := fun vs H Q _ => ∃ z, vs = [.int z] ∧ 0 ≤ z ∧ Q (.bl true) H
def spTotal : Sp := fun vs H Q _ => ∃ z, vs = [.int z] ∧ (0 ≤ z ∧ z ≤ 1000) ∧ Q (.bl true) H
def spWeight : Sp := fun vs H Q _ => ∃ z, vs = [.int z] ∧ (1 ≤ z ∧ z ≤ ten30) ∧ Q (.bl true) H
def spCheck : Sp := fun vs H Q _ => vs = [.bl true] ∧ Q .non H
theorem to_true {Q : VK} {p : Prop} [Decidable p] {H : Hp} (h : p) (q : Q (.bl true) H) : Q (.bl (decide p)) H := by rw [decide_eq_true h]; exact q
section
variable {P : Program} {w : World} {K : PySem.W.Frag} {mg : Str → Option Value} {base : Heap} {a : Adr}
theorem ok_is_whole (T : Txt K mg a) : FnOk P w K mg base CX0 1 a.is_whole a.fd_is_whole ["thing"] (spWhole K) := by
  refine T.f_is_whole.ok sc_is_whole (fun vs H Q E h => ?_) (fun cdv A outer s H vs Q E hr h => ?_)
  · obtain ⟨x, rfl, _⟩ := h
    rfl
  · obtain ⟨z, rfl, k⟩ := h
    refine ⟨_, (pss_one (ps_ret (pe_and (pe_callB (call_isiK K rfl) (by rfl) T.n_isinstance L2.boot_isinstance (pa_cons (pv 0) (pa_cons (pe_ty rfl T.n_int L2.boot_int) pa_nil))) (pe_one (pe_not (pe_callB (call_isiK K rfl) (by rfl) T.n_isinstance L2.boot_isinstance (pa_cons (pv 0) (pa_cons (pe_ty rfl T.n_bool L2.boot_bool) pa_nil)))))))), ?_⟩
    refine ⟨_, rfl, _, "int", _, true, rfl, .int z, kit_tt (by decide +kernel), true, rfl, iteT ?_⟩
    exact ⟨_, rfl, _, "bool", _, false, rfl, .int z, kit_tt (by decide +kernel), false, rfl, k⟩
theorem ok_is_text_of (T : Txt K mg a) : FnOk P w K mg base CX0 1 a.is_text_of a.fd_is_text_of ["thing", "signs", "longest"] spTextOf := by
  refine T.f_is_text_of.ok sc_is_text_of (fun vs H Q E h => ?_) (fun cdv A outer s H vs Q E hr h => ?_)
  · obtain ⟨x, sg, m, rfl, _⟩ := h
    rfl
  · obtain ⟨x, sg, m, rfl, ho, hm, q⟩ := h
    have hx := ho.hi
    have hx1 := ho.lo
    refine ⟨_, (pss_cons (ps_if (pt_not (pt_truthK K rfl (pe_callB (call_isiK K rfl) (by rfl) T.n_isinstance L2.boot_isinstance (pa_cons (pv 0) (pa_cons (pe_ty rfl T.n_str L2.boot_str) pa_nil))) (fun _ => rfl))) (pss_one (ps_ret pe_bl)) pss_nil)
  (pss_one (ps_ret (pe_and (pe_chain op_le op_le pe_int (pe_callB (call_lenK K rfl) (by rfl) T.n_len L2.boot_len (pa_cons (pv 0) pa_nil)) (pv 2)) (pe_one (pe_callB (call_allK K rfl rfl) (by rfl) T.n_all L2.boot_all (pa_cons (comp_of ["thing", "signs", "longest"] ["sign"] [] [3] (defScope s_is_text_of) rfl rfl rfl (by decide +kernel) (by decide +kernel) (gk_name 3)
    (pi_str (pv 0)) (fun cl C s₀ H₀ ex => ⟨(pg_name (i := 3) (show List.Nodup ((["thing", "signs", "longest"] : List PySem.Str) ++ (["sign"] : List PySem.Str)) by decide +kernel) rfl (by first | exact Or.inl rfl | exact Or.inr rfl)), pts_nil, (pe_cmpR op_in_str (pv 3) (pv 1) (by with_unfolding_all rfl))⟩)) pa_nil))))))), ?_⟩
    refine ⟨_, rfl, _, "str", _, true, rfl, .str x, kit_tt (by decide +kernel), true, rfl, iteF ?_⟩
    refine ⟨_, rfl, _, x.length, rfl, ⟨by rw [sizeLine_eq]; omega, rfl⟩, _, _, rfl, rfl, _, rfl, ?_⟩
    refine iteD (fun h1 => ?_) (fun h1 => absurd (by omega) h1)
    refine ⟨_, rfl, _, _, rfl, rfl, _, rfl, ?_⟩
    refine iteD (fun h2 => ?_) (fun h2 => absurd (by omega) h2)
    refine ⟨_, rfl, x, rfl, fun D hD => ?_⟩
    have hl := len_list x
    refine comp_str (K := K) (z := x) (fun i acc H2 => acc = (List.replicate i true).map V.bl ∧ H2 = upd H D (.lst acc)) ⟨rfl, rfl⟩ ?_ ?_
    · rintro i c acc H2 hc ⟨rfl, rfl⟩
      have hi : i < x.cps.toList.length := (List.getElem?_eq_some_iff.mp hc).1
      refine gName_ (yes_ (iteT ?_))
      refine ⟨_, rfl, _, rfl, _, _, rfl, rfl, upd_same, ?_, lf hi ⟨?_, ?_⟩⟩
      · rw [List.length_map, List.length_replicate, sizeLine_eq]
        omega
      · rw [StrLaws.found_one, decide_eq_true (ho.cs c (List.mem_of_getElem? hc)), List.replicate_succ', List.map_append]
        rfl
      · rw [upd_upd]
    · rintro acc H2 ⟨rfl, rfl⟩
      refine ⟨D, _, rfl, SqL.of upd_same, ?_⟩
      have e : (List.replicate x.cps.toList.length true).all id = true := by simp
      rw [e]
      exact q _ (same_new (Same.refl _) hD)
theorem ok_is_word (T : Txt K mg a) : FnOk P w K mg base CX0 2 a.is_word a.fd_is_word ["thing"] spWd := by
  refine T.f_is_word.ok sc_is_word (fun vs H Q E h => ?_) (fun cdv A outer s H vs Q E hr h => ?_)
  · obtain ⟨x, rfl, _⟩ := h
    rfl
  · obtain ⟨x, rfl, ho, q⟩ := h
    refine ⟨_, (pss_one (ps_ret (pe_call ((ok_is_text_of T).mono (by first | decide | omega)) hr rfl T.m_is_text_of T.f_is_text_of.kp T.b_is_text_of .nil pass0 (pa_cons (pv 0) (pa_cons (pe_globE T.c_LETTERS rfl) (pa_cons (pe_globE T.c_LONGEST_WORD rfl) pa_nil)))))), ?_⟩
    exact ⟨_, rfl, x, _, 12, rfl, ho, by decide, q⟩
theorem ok_is_guest (T : Txt K mg a) : FnOk P w K mg base CX0 2 a.is_guest a.fd_is_guest ["thing"] spGst := by
  refine T.f_is_guest.ok sc_is_guest (fun vs H Q E h => ?_) (fun cdv A outer s H vs Q E hr h => ?_)
  · obtain ⟨x, rfl, _⟩ := h
    rfl
  · obtain ⟨x, rfl, ho, q⟩ := h
    refine ⟨_, (pss_one (ps_ret (pe_call ((ok_is_text_of T).mono (by first | decide | omega)) hr rfl T.m_is_text_of T.f_is_text_of.kp T.b_is_text_of .nil pass0 (pa_cons (pv 0) (pa_cons (pe_globE T.c_GUEST_SIGNS rfl) (pa_cons (pe_globE T.c_LONGEST_GUEST rfl) pa_nil)))))), ?_⟩
    exact ⟨_, rfl, x, _, 24, rfl, ho, by decide, q⟩
theorem ok_is_number (T : Txt K mg a) : FnOk P w K mg base CX0 2 a.is_number a.fd_is_number ["thing"] spNum := by
  refine T.f_is_number.ok sc_is_number (fun vs H Q E h => ?_) (fun cdv A outer s H vs Q E hr h => ?_)
  · obtain ⟨x, rfl, _⟩ := h
    rfl
  · obtain ⟨z, rfl, ⟨h1, h2⟩, q⟩ := h
    refine ⟨_, (pss_one (ps_ret (pe_and (pe_call ((ok_is_whole T).mono (by first | decide | omega)) hr rfl T.m_is_whole T.f_is_whole.kp T.b_is_whole .nil pass0 (pa_cons (pv 0) pa_nil)) (pe_one (pe_chain op_le op_le (pe_un un_neg (pe_op op_ten pe_int pe_int)) (pv 0) (pe_op op_ten pe_int pe_int)))))), ?_⟩
    refine ⟨_, rfl, z, rfl, _, rfl, iteT ?_⟩
    (repeat (first | refine ⟨_, rfl, ?_⟩ | refine ⟨_, _, rfl, rfl, ?_⟩ | refine ⟨(rfl : scal _ _ = true), ?_⟩ | refine ⟨(show CMul _ _ by first | exact .inl ⟨by decide, by decide⟩ | exact .inr ⟨by decide, by decide⟩ | exact .inl ⟨by omega, by omega⟩ | exact .inr ⟨by omega, by omega⟩), ?_⟩ | refine ⟨(show CDiv _ _ by first | exact ⟨by decide, by decide⟩ | exact ⟨by omega, by omega⟩), ?_⟩ | refine ⟨(show (0 : Int) < _ by first | omega | decide), ?_⟩ | refine ⟨(rfl : V.int 10 = V.int 10), (rfl : V.int 30 = V.int 30), ?_⟩))
    refine iteD (fun _ => ?_) (fun h => absurd h1 h)
    (repeat (first | refine ⟨_, rfl, ?_⟩ | refine ⟨_, _, rfl, rfl, ?_⟩ | refine ⟨(rfl : scal _ _ = true), ?_⟩ | refine ⟨(show CMul _ _ by first | exact .inl ⟨by decide, by decide⟩ | exact .inr ⟨by decide, by decide⟩ | exact .inl ⟨by omega, by omega⟩ | exact .inr ⟨by omega, by omega⟩), ?_⟩ | refine ⟨(show CDiv _ _ by first | exact ⟨by decide, by decide⟩ | exact ⟨by omega, by omega⟩), ?_⟩ | refine ⟨(show (0 : Int) < _ by first | omega | decide), ?_⟩ | refine ⟨(rfl : V.int 10 = V.int 10), (rfl : V.int 30 = V.int 30), ?_⟩))
    exact to_true h2 q
theorem ok_is_count (T : Txt K mg a) : FnOk P w K mg base CX0 2 a.is_count a.fd_is_count ["thing"] spCount := by
  refine T.f_is_count.ok sc_is_count (fun vs H Q E h => ?_) (fun cdv A outer s H vs Q E hr h => ?_)
  · obtain ⟨x, rfl, _⟩ := h
    rfl
  · obtain ⟨z, rfl, h1, q⟩ := h
    refine ⟨_, (pss_one (ps_ret (pe_and (pe_call ((ok_is_whole T).mono (by first | decide | omega)) hr rfl T.m_is_whole T.f_is_whole.kp T.b_is_whole .nil pass0 (pa_cons (pv 0) pa_nil)) (pe_one (pe_cmpR op_ge (pv 0) pe_int (nomark _)))))), ?_⟩
    refine ⟨_, rfl, z, rfl, _, rfl, iteT ?_⟩
    (repeat (first | refine ⟨_, rfl, ?_⟩ | refine ⟨_, _, rfl, rfl, ?_⟩ | refine ⟨(rfl : scal _ _ = true), ?_⟩ | refine ⟨(show CMul _ _ by first | exact .inl ⟨by decide, by decide⟩ | exact .inr ⟨by decide, by decide⟩ | exact .inl ⟨by omega, by omega⟩ | exact .inr ⟨by omega, by omega⟩), ?_⟩ | refine ⟨(show CDiv _ _ by first | exact ⟨by decide, by decide⟩ | exact ⟨by omega, by omega⟩), ?_⟩ | refine ⟨(show (0 : Int) < _ by first | omega | decide), ?_⟩ | refine ⟨(rfl : V.int 10 = V.int 10), (rfl : V.int 30 = V.int 30), ?_⟩))
    exact to_true h1 q
theorem ok_is_total (T : Txt K mg a) : FnOk P w K mg base CX0 3 a.is_total a.fd_is_total ["thing"] spTotal := by
  refine T.f_is_total.ok sc_is_total (fun vs H Q E h => ?_) (fun cdv A outer s H vs Q E hr h => ?_)
  · obtain ⟨x, rfl, _⟩ := h
    rfl
  · obtain ⟨z, rfl, ⟨h1, h2⟩, q⟩ := h
    refine ⟨_, (pss_one (ps_ret (pe_and (pe_call ((ok_is_count T).mono (by first | decide | omega)) hr rfl T.m_is_count T.f_is_count.kp T.b_is_count .nil pass0 (pa_cons (pv 0) pa_nil)) (pe_one (pe_cmpR op_le (pv 0) (pe_globE T.c_MOST_TOTAL rfl) (nomark _)))))), ?_⟩
    refine ⟨_, rfl, z, rfl, h1, _, rfl, iteT ?_⟩
    (repeat (first | refine ⟨_, rfl, ?_⟩ | refine ⟨_, _, rfl, rfl, ?_⟩ | refine ⟨(rfl : scal _ _ = true), ?_⟩ | refine ⟨(show CMul _ _ by first | exact .inl ⟨by decide, by decide⟩ | exact .inr ⟨by decide, by decide⟩ | exact .inl ⟨by omega, by omega⟩ | exact .inr ⟨by omega, by omega⟩), ?_⟩ | refine ⟨(show CDiv _ _ by first | exact ⟨by decide, by decide⟩ | exact ⟨by omega, by omega⟩), ?_⟩ | refine ⟨(show (0 : Int) < _ by first | omega | decide), ?_⟩ | refine ⟨(rfl : V.int 10 = V.int 10), (rfl : V.int 30 = V.int 30), ?_⟩))
    exact to_true h2 q
theorem ok_is_weight (T : Txt K mg a) : FnOk P w K mg base CX0 2 a.is_weight a.fd_is_weight ["thing"] spWeight := by
  refine T.f_is_weight.ok sc_is_weight (fun vs H Q E h => ?_) (fun cdv A outer s H vs Q E hr h => ?_)
  · obtain ⟨x, rfl, _⟩ := h
    rfl
  · obtain ⟨z, rfl, ⟨h1, h2⟩, q⟩ := h
    refine ⟨_, (pss_one (ps_ret (pe_and (pe_call ((ok_is_whole T).mono (by first | decide | omega)) hr rfl T.m_is_whole T.f_is_whole.kp T.b_is_whole .nil pass0 (pa_cons (pv 0) pa_nil)) (pe_one (pe_chain op_le op_le pe_int (pv 0) (pe_op op_ten pe_int pe_int)))))), ?_⟩
    refine ⟨_, rfl, z, rfl, _, rfl, iteT ?_⟩
    (repeat (first | refine ⟨_, rfl, ?_⟩ | refine ⟨_, _, rfl, rfl, ?_⟩ | refine ⟨(rfl : scal _ _ = true), ?_⟩ | refine ⟨(show CMul _ _ by first | exact .inl ⟨by decide, by decide⟩ | exact .inr ⟨by decide, by decide⟩ | exact .inl ⟨by omega, by omega⟩ | exact .inr ⟨by omega, by omega⟩), ?_⟩ | refine ⟨(show CDiv _ _ by first | exact ⟨by decide, by decide⟩ | exact ⟨by omega, by omega⟩), ?_⟩ | refine ⟨(show (0 : Int) < _ by first | omega | decide), ?_⟩ | refine ⟨(rfl : V.int 10 = V.int 10), (rfl : V.int 30 = V.int 30), ?_⟩))
    refine iteD (fun _ => ?_) (fun h => absurd h1 h)
    (repeat (first | refine ⟨_, rfl, ?_⟩ | refine ⟨_, _, rfl, rfl, ?_⟩ | refine ⟨(rfl : scal _ _ = true), ?_⟩ | refine ⟨(show CMul _ _ by first | exact .inl ⟨by decide, by decide⟩ | exact .inr ⟨by decide, by decide⟩ | exact .inl ⟨by omega, by omega⟩ | exact .inr ⟨by omega, by omega⟩), ?_⟩ | refine ⟨(show CDiv _ _ by first | exact ⟨by decide, by decide⟩ | exact ⟨by omega, by omega⟩), ?_⟩ | refine ⟨(show (0 : Int) < _ by first | omega | decide), ?_⟩ | refine ⟨(rfl : V.int 10 = V.int 10), (rfl : V.int 30 = V.int 30), ?_⟩))
    exact to_true h2 q
theorem ok_check_row (T : Txt K mg a) : FnOk P w K mg base CX0 1 a.check_row a.fd_check_row ["fits"] spCheck := by
  refine T.f_check_row.ok sc_check_row (fun vs H Q E h => ?_) (fun cdv A outer s H vs Q E hr h => ?_)
  · obtain ⟨rfl, _⟩ := h
    rfl
  · obtain ⟨rfl, q⟩ := h
    refine ⟨_, (pss_one (ps_if (pt_not (pt_truthK K rfl (pv 0) (fun _ => rfl))) (pss_one ps_never) pss_nil)), ?_⟩
    exact ⟨_, rfl, _, rfl, iteF q⟩
end
def spMark (K : PySem.W.Frag) : Sp := fun vs H Q _ => ∃ (b : Addr) (m : Str × Int), vs = [.ref b] ∧ SqT K H b [.str m.1, .int m.2] ∧ Wd m.1 ∧ (-ten30 ≤ m.2 ∧ m.2 ≤ ten30) ∧ ∀ H', Same H H' → Q (.bl true) H'
def spMarks (K : PySem.W.Frag) : Sp := fun vs H Q _ => ∃ (v : V) (l : List (Str × Int)), vs = [v] ∧ MkAt K H l v ∧ (∀ m ∈ l, Wd m.1 ∧ -ten30 ≤ m.2 ∧ m.2 ≤ ten30) ∧ (l.map Prod.fst).Nodup ∧ l.length ≤ 8 ∧ ∀ H', Same H H' → Q (.bl true) H'
def spCounts (K : PySem.W.Frag) : Sp := fun vs H Q _ => ∃ (p : Addr) (l : List Int), vs = [.ref p, .int (l.length : Nat)] ∧ SqT K H p (l.map V.int) ∧ (∀ i ∈ l, 0 ≤ i) ∧ l.length ≤ 100 ∧ ∀ H', Same H H' → Q (.bl true) H'
def spWeights (K : PySem.W.Frag) : Sp := fun vs H Q _ => ∃ (p : Addr) (l : List Int), vs = [.ref p, .int (l.length : Nat)] ∧ SqT K H p (l.map V.int) ∧ (∀ i ∈ l, 1 ≤ i ∧ i ≤ ten30) ∧ l.length ≤ 100 ∧ ∀ H', Same H H' → Q (.bl true) H'
def spArms (K : PySem.W.Frag) : Sp := fun vs H Q _ => ∃ (p : Addr) (l : List Str), vs = [.ref p] ∧ SqT K H p (l.map V.str) ∧ (∀ w ∈ l, Wd w) ∧ l.Nodup ∧ 1 ≤ l.length ∧ l.length ≤ 4 ∧ ∀ H', Same H H' → Q (.bl true) H'
def spShuts (K : PySem.W.Frag) : Sp := fun vs H Q _ => ∃ (p : Addr) (l : List Str), vs = [.ref p] ∧ SqT K H p (l.map V.str) ∧ (∀ w ∈ l, Wd w) ∧ l.Nodup ∧ l.length ≤ 8 ∧ ∀ H', Same H H' → Q (.bl true) H'
theorem trues_snoc (i : Nat) : (List.replicate i true).map V.bl ++ [V.bl true] = (List.replicate (i + 1) true).map V.bl := by
  rw [List.replicate_succ', List.map_append]
  rfl
theorem trues_all (n : Nat) : (List.replicate n true).all id = true := by simp
theorem trues_len (i : Nat) (h : i ≤ 1000) : ((List.replicate i true).map V.bl).length < sizeLine := by
  rw [List.length_map, List.length_replicate, sizeLine_eq]
  omega
theorem map_get {α β : Type} {f : α → β} {l : List α} {i : Nat} {v : β} (h : (l.map f)[i]? = some v) : ∃ x, l[i]? = some x ∧ v = f x ∧ x ∈ l := by
  rw [List.getElem?_map] at h
  cases e : l[i]? with
  | none => rw [e] at h; cases h
  | some x => rw [e] at h; cases h; exact ⟨x, rfl, rfl, List.mem_of_getElem? e⟩
theorem keys_strs (l : List Str) : (l.map (Sum.inr : Str → Key)).map kV = l.map V.str := by
  rw [List.map_map]
  rfl
theorem keys_len {l : List Str} (h : l.Nodup) : (dd (l.map (Sum.inr : Str → Key))).length = l.length := by
  have := (dd_len (l.map (Sum.inr : Str → Key))).mpr (h.map _ (fun a b h e => h (Sum.inr.inj e)))
  rw [this, List.length_map]
section
variable {P : Program} {w : World} {K : PySem.W.Frag} {mg : Str → Option Value} {base : Heap} {a : Adr}
theorem ok_is_mark (T : Txt K mg a) : FnOk P w K mg base CX0 3 a.is_mark a.fd_is_mark ["thing"] (spMark K) := by
  refine T.f_is_mark.ok sc_is_mark (fun vs H Q E h => ?_) (fun cdv A outer s H vs Q E hr h => ?_)
  · obtain ⟨b, m, rfl, _⟩ := h
    rfl
  · obtain ⟨b, m, rfl, hT, h1, h2, q⟩ := h
    refine ⟨_, (pss_one (ps_ret (pe_and (pe_callB (call_isiTK K rfl) (by rfl) T.n_isinstance L2.boot_isinstance (pa_cons (pv 0) (pa_cons (pe_ty rfl T.n_tuple L2.boot_tuple) pa_nil))) (pe_and (pe_cmpR op_eq (pe_callB (call_lenK K rfl) (by rfl) T.n_len L2.boot_len (pa_cons (pv 0) pa_nil)) pe_int (nomark _)) (pe_and (pe_call ((ok_is_word T).mono (by first | decide | omega)) hr rfl T.m_is_word T.f_is_word.kp T.b_is_word .nil pass0 (pa_cons (pe_ix (ix_tupK K rfl) (pv 0) pe_int (fun _ _ => rfl)) pa_nil)) (pe_one (pe_call ((ok_is_number T).mono (by first | decide | omega)) hr rfl T.m_is_number T.f_is_number.kp T.b_is_number .nil pass0 (pa_cons (pe_ix (ix_tupK K rfl) (pv 0) pe_int (fun _ _ => rfl)) pa_nil)))))))), ?_⟩
    refine ⟨_, rfl, _, "tuple", _, true, rfl, .inr ⟨b, _, rfl, hT, rfl⟩, kit_tt (by decide +kernel), true, rfl, iteT ?_⟩
    refine ⟨_, rfl, _, 2, rfl, .inr ⟨_, hT, rfl⟩, rfl, _, rfl, iteT ?_⟩
    refine ⟨_, rfl, b, _, 0, _, rfl, rfl, hT, rfl, m.1, rfl, h1, fun H1 s1 => ⟨_, rfl, iteT ?_⟩⟩
    exact ⟨_, rfl, b, _, 1, _, rfl, rfl, Same.tseq s1 hT, rfl, m.2, rfl, h2, q H1 s1⟩
theorem ok_are_marks (T : Txt K mg a) : FnOk P w K mg base CX0 4 a.are_marks a.fd_are_marks ["thing"] (spMarks K) := by
  refine T.f_are_marks.ok sc_are_marks (fun vs H Q E h => ?_) (fun cdv A outer s H vs Q E hr h => ?_)
  · obtain ⟨v, l, rfl, _⟩ := h
    rfl
  · obtain ⟨v, l, rfl, hM, h1, h2, h3, q⟩ := h
    obtain ⟨p, vs, rfl, hT, hvl, hms⟩ := hM
    refine ⟨_, (pss_cons (ps_if (PW.pt (pw_or (pt_not (pt_truthK K rfl (pe_callB (call_isiTK K rfl) (by rfl) T.n_isinstance L2.boot_isinstance (pa_cons (pv 0) (pa_cons (pe_ty rfl T.n_tuple L2.boot_tuple) pa_nil))) (fun _ => rfl))) (pw_or1 (pt_cmpR op_gt (pe_callB (call_lenK K rfl) (by rfl) T.n_len L2.boot_len (pa_cons (pv 0) pa_nil)) (pe_globE T.c_MOST_MARKS rfl) (nomark _))))) (pss_one (ps_ret pe_bl)) pss_nil)
  (pss_cons (ps_if (pt_not (pt_truthK K rfl (pe_callB (call_allK K rfl rfl) (by rfl) T.n_all L2.boot_all (pa_cons (comp_of ["thing"] ["mark"] [] [1] (defScope s_are_marks) rfl rfl rfl (by decide +kernel) (by decide +kernel) (gk_name 1)
    (pi_tupK K rfl (pv 0)) (fun cl C s₀ H₀ ex => ⟨(pg_name (i := 1) (show List.Nodup ((["thing"] : List PySem.Str) ++ (["mark"] : List PySem.Str)) by decide +kernel) rfl (by first | exact Or.inl rfl | exact Or.inr rfl)), pts_nil, (pe_call ((ok_is_mark T).mono (by first | decide | omega)) hr rfl T.m_is_mark T.f_is_mark.kp T.b_is_mark .nil pass0 (pa_cons (pv 1) pa_nil))⟩)) pa_nil)) (fun _ => rfl))) (pss_one (ps_ret pe_bl)) pss_nil)
  (pss_one (ps_ret (pe_cmpR op_eq (pe_callB (call_lenSK (P := P) (w := w)) (by rfl) T.n_len L2.boot_len (pa_cons (pe_callTy (call_setK (P := P) (w := w) K rfl rfl) (by rfl) T.n_set L2.boot_set (pa_cons (comp_of ["thing"] ["mark"] [] [1] (defScope s_are_marks) rfl rfl rfl (by decide +kernel) (by decide +kernel) (gk_name 1)
    (pi_tupK K rfl (pv 0)) (fun cl C s₀ H₀ ex => ⟨(pg_name (i := 1) (show List.Nodup ((["thing"] : List PySem.Str) ++ (["mark"] : List PySem.Str)) by decide +kernel) rfl (by first | exact Or.inl rfl | exact Or.inr rfl)), pts_nil, (pe_ix (ix_tupK K rfl) (pv 1) pe_int (fun _ _ => rfl))⟩)) pa_nil)) pa_nil)) (pe_callB (call_lenK K rfl) (by rfl) T.n_len L2.boot_len (pa_cons (pv 0) pa_nil)) (nomark _)))))), ?_⟩
    refine ⟨_, rfl, _, "tuple", _, true, rfl, .inr ⟨p, _, rfl, hT, rfl⟩, kit_tt (by decide +kernel), true, rfl, iteF ?_⟩
    refine ⟨_, rfl, _, vs.length, rfl, .inr ⟨_, hT, rfl⟩, _, _, rfl, rfl, _, rfl, iteD (fun h => absurd h (by omega)) (fun _ => ?_)⟩
    refine ⟨_, rfl, p, rfl, ⟨_, hT⟩, fun D hD => ?_⟩
    refine comp_tup (K := K) (a := p) (xs := vs) (fun i acc H' => acc = (List.replicate i true).map V.bl ∧ Same H H' ∧ H' D = some (.lst acc)) ⟨rfl, same_new (Same.refl _) hD, upd_same⟩ (fun i acc H' _ h => Same.tseq h.2.1 hT) ?_ ?_
    · rintro i v acc H1 hv ⟨rfl, s1, hD1⟩
      have hi : i < vs.length := (List.getElem?_eq_some_iff.mp hv).1
      have hi2 : l[i]? = some (l[i]'(by omega)) := List.getElem?_eq_getElem (by omega)
      generalize l[i]'(by omega) = m at hi2
      obtain ⟨b, hb, hB⟩ := hms i m hi2
      rw [hb] at hv
      cases hv
      have hm := h1 m (List.mem_of_getElem? hi2)
      refine gName_ (yes_ (iteT ⟨_, rfl, b, m, rfl, Same.tseq s1 hB, hm.1, hm.2, fun H2 s2 => ⟨s2 _ _ hD1, trues_len i (by omega), lf hi ⟨trues_snoc i, same_upd (s1.trans s2) hD, upd_same⟩⟩⟩))
    · rintro acc H1 ⟨rfl, s1, hD1⟩
      refine ⟨D, _, rfl, SqL.of hD1, _, rfl, ?_⟩
      rw [trues_all]
      refine iteF ⟨_, rfl, p, rfl, ⟨_, Same.tseq s1 hT⟩, fun D2 hD2 => ?_⟩
      refine comp_tup (K := K) (a := p) (xs := vs) (fun i acc H' => acc = ((l.take i).map Prod.fst).map V.str ∧ Same H1 H' ∧ H' D2 = some (.lst acc)) ⟨by rw [List.take_zero]; rfl, same_new (Same.refl _) hD2, upd_same⟩ (fun i acc H' _ h => Same.tseq (s1.trans h.2.1) hT) ?_ ?_
      · rintro i v acc H2 hv ⟨rfl, s2, hD3⟩
        have hi : i < vs.length := (List.getElem?_eq_some_iff.mp hv).1
        have hi2 : l[i]? = some (l[i]'(by omega)) := List.getElem?_eq_getElem (by omega)
        generalize l[i]'(by omega) = m at hi2
        obtain ⟨b, hb, hB⟩ := hms i m hi2
        rw [hb] at hv
        cases hv
        refine gName_ (yes_ (iteT ⟨_, rfl, b, _, 0, _, rfl, rfl, Same.tseq (s1.trans s2) hB, rfl, hD3, ?_, lf hi ⟨?_, same_upd s2 hD2, upd_same⟩⟩))
        · rw [List.length_map, List.length_map, List.length_take, sizeLine_eq]
          omega
        · rw [take_map hi2, List.map_append]
          rfl
      · rintro acc H2 ⟨rfl, s2, hD3⟩
        rw [List.take_of_length_le (by omega), ← keys_strs] at hD3
        have hkl := keys_len h2
        rw [List.length_map] at hkl
        refine ⟨D2, (l.map Prod.fst).map Sum.inr, rfl, SqL.of hD3, by rw [List.length_map, List.length_map]; omega, fun q1 hq1 => ?_⟩
        refine ⟨q1, _, _, rfl, upd_same, by rw [hkl]; omega, ?_⟩
        have s3 : ∀ o, Same H (upd H2 q1 o) := fun o => same_new (s1.trans s2) hq1
        refine ⟨_, rfl, _, vs.length, rfl, .inr ⟨_, Same.tseq (s3 _) hT, rfl⟩, rfl, ?_⟩
        rw [hkl, ← hvl, decide_eq_true rfl]
        exact q _ (s3 _)
theorem ok_are_counts (T : Txt K mg a) : FnOk P w K mg base CX0 3 a.are_counts a.fd_are_counts ["thing", "many"] (spCounts K) := by
  refine T.f_are_counts.ok sc_are_counts (fun vs H Q E h => ?_) (fun cdv A outer s H vs Q E hr h => ?_)
  · obtain ⟨v, l, rfl, _⟩ := h
    rfl
  · obtain ⟨p, l, rfl, hT, h1, h2, q⟩ := h
    refine ⟨_, (pss_one (ps_ret (pe_and (pe_callB (call_isiTK K rfl) (by rfl) T.n_isinstance L2.boot_isinstance (pa_cons (pv 0) (pa_cons (pe_ty rfl T.n_tuple L2.boot_tuple) pa_nil))) (pe_and (pe_cmpR op_eq (pe_callB (call_lenK K rfl) (by rfl) T.n_len L2.boot_len (pa_cons (pv 0) pa_nil)) (pv 1) (nomark _)) (pe_one (pe_callB (call_allK K rfl rfl) (by rfl) T.n_all L2.boot_all (pa_cons (comp_of ["thing", "many"] ["number"] [] [2] (defScope s_are_counts) rfl rfl rfl (by decide +kernel) (by decide +kernel) (gk_name 2)
    (pi_tupK K rfl (pv 0)) (fun cl C s₀ H₀ ex => ⟨(pg_name (i := 2) (show List.Nodup ((["thing", "many"] : List PySem.Str) ++ (["number"] : List PySem.Str)) by decide +kernel) rfl (by first | exact Or.inl rfl | exact Or.inr rfl)), pts_nil, (pe_call ((ok_is_count T).mono (by first | decide | omega)) hr rfl T.m_is_count T.f_is_count.kp T.b_is_count .nil pass0 (pa_cons (pv 2) pa_nil))⟩)) pa_nil))))))), ?_⟩
    refine ⟨_, rfl, _, "tuple", _, true, rfl, .inr ⟨p, _, rfl, hT, rfl⟩, kit_tt (by decide +kernel), true, rfl, iteT ?_⟩
    refine ⟨_, rfl, _, l.length, rfl, .inr ⟨_, hT, by simp⟩, _, rfl, rfl, _, rfl, ?_⟩
    rw [decide_eq_true rfl]
    refine iteT ⟨_, rfl, p, rfl, ⟨_, hT⟩, fun D hD => ?_⟩
    refine comp_tup (K := K) (a := p) (xs := l.map V.int) (fun i acc H' => acc = (List.replicate i true).map V.bl ∧ Same H H' ∧ H' D = some (.lst acc)) ⟨rfl, same_new (Same.refl _) hD, upd_same⟩ (fun i acc H' _ h => Same.tseq h.2.1 hT) ?_ ?_
    · rintro i v acc H1 hv ⟨rfl, s1, hD1⟩
      have hi := (List.getElem?_eq_some_iff.mp hv).1
      obtain ⟨z, _, rfl, hz⟩ := map_get hv
      have hi2 : i < l.length := by simpa using hi
      exact gName_ (yes_ (iteT ⟨_, rfl, z, rfl, h1 z hz, hD1, trues_len i (by omega), lf hi ⟨trues_snoc i, same_upd s1 hD, upd_same⟩⟩))
    · rintro acc H1 ⟨rfl, s1, hD1⟩
      refine ⟨D, _, rfl, SqL.of hD1, ?_⟩
      rw [trues_all]
      exact q _ s1
theorem ok_are_weights (T : Txt K mg a) : FnOk P w K mg base CX0 3 a.are_weights a.fd_are_weights ["thing", "many"] (spWeights K) := by
  refine T.f_are_weights.ok sc_are_weights (fun vs H Q E h => ?_) (fun cdv A outer s H vs Q E hr h => ?_)
  · obtain ⟨v, l, rfl, _⟩ := h
    rfl
  · obtain ⟨p, l, rfl, hT, h1, h2, q⟩ := h
    refine ⟨_, (pss_one (ps_ret (pe_and (pe_callB (call_isiTK K rfl) (by rfl) T.n_isinstance L2.boot_isinstance (pa_cons (pv 0) (pa_cons (pe_ty rfl T.n_tuple L2.boot_tuple) pa_nil))) (pe_and (pe_cmpR op_eq (pe_callB (call_lenK K rfl) (by rfl) T.n_len L2.boot_len (pa_cons (pv 0) pa_nil)) (pv 1) (nomark _)) (pe_one (pe_callB (call_allK K rfl rfl) (by rfl) T.n_all L2.boot_all (pa_cons (comp_of ["thing", "many"] ["number"] [] [2] (defScope s_are_weights) rfl rfl rfl (by decide +kernel) (by decide +kernel) (gk_name 2)
    (pi_tupK K rfl (pv 0)) (fun cl C s₀ H₀ ex => ⟨(pg_name (i := 2) (show List.Nodup ((["thing", "many"] : List PySem.Str) ++ (["number"] : List PySem.Str)) by decide +kernel) rfl (by first | exact Or.inl rfl | exact Or.inr rfl)), pts_nil, (pe_call ((ok_is_weight T).mono (by first | decide | omega)) hr rfl T.m_is_weight T.f_is_weight.kp T.b_is_weight .nil pass0 (pa_cons (pv 2) pa_nil))⟩)) pa_nil))))))), ?_⟩
    refine ⟨_, rfl, _, "tuple", _, true, rfl, .inr ⟨p, _, rfl, hT, rfl⟩, kit_tt (by decide +kernel), true, rfl, iteT ?_⟩
    refine ⟨_, rfl, _, l.length, rfl, .inr ⟨_, hT, by simp⟩, _, rfl, rfl, _, rfl, ?_⟩
    rw [decide_eq_true rfl]
    refine iteT ⟨_, rfl, p, rfl, ⟨_, hT⟩, fun D hD => ?_⟩
    refine comp_tup (K := K) (a := p) (xs := l.map V.int) (fun i acc H' => acc = (List.replicate i true).map V.bl ∧ Same H H' ∧ H' D = some (.lst acc)) ⟨rfl, same_new (Same.refl _) hD, upd_same⟩ (fun i acc H' _ h => Same.tseq h.2.1 hT) ?_ ?_
    · rintro i v acc H1 hv ⟨rfl, s1, hD1⟩
      have hi := (List.getElem?_eq_some_iff.mp hv).1
      obtain ⟨z, _, rfl, hz⟩ := map_get hv
      have hi2 : i < l.length := by simpa using hi
      exact gName_ (yes_ (iteT ⟨_, rfl, z, rfl, h1 z hz, hD1, trues_len i (by omega), lf hi ⟨trues_snoc i, same_upd s1 hD, upd_same⟩⟩))
    · rintro acc H1 ⟨rfl, s1, hD1⟩
      refine ⟨D, _, rfl, SqL.of hD1, ?_⟩
      rw [trues_all]
      exact q _ s1
theorem ok_are_arms (T : Txt K mg a) : FnOk P w K mg base CX0 3 a.are_arms a.fd_are_arms ["thing"] (spArms K) := by
  refine T.f_are_arms.ok sc_are_arms (fun vs H Q E h => ?_) (fun cdv A outer s H vs Q E hr h => ?_)
  · obtain ⟨p, l, rfl, _⟩ := h
    rfl
  · obtain ⟨p, l, rfl, hT, h1, h2, h3, h4, q⟩ := h
    refine ⟨_, (pss_cons (ps_if (PW.pt (pw_or (pt_not (pt_truthK K rfl (pe_callB (call_isiTK K rfl) (by rfl) T.n_isinstance L2.boot_isinstance (pa_cons (pv 0) (pa_cons (pe_ty rfl T.n_tuple L2.boot_tuple) pa_nil))) (fun _ => rfl))) (pw_or1 (pt_not (pt_chain op_le op_le pe_int (pe_callB (call_lenK K rfl) (by rfl) T.n_len L2.boot_len (pa_cons (pv 0) pa_nil)) (pe_globE T.c_MOST_ARMS rfl)))))) (pss_one (ps_ret pe_bl)) pss_nil)
  (pss_one (ps_ret (pe_and (pe_callB (call_allK K rfl rfl) (by rfl) T.n_all L2.boot_all (pa_cons (comp_of ["thing"] ["arm"] [] [1] (defScope s_are_arms) rfl rfl rfl (by decide +kernel) (by decide +kernel) (gk_name 1)
    (pi_tupK K rfl (pv 0)) (fun cl C s₀ H₀ ex => ⟨(pg_name (i := 1) (show List.Nodup ((["thing"] : List PySem.Str) ++ (["arm"] : List PySem.Str)) by decide +kernel) rfl (by first | exact Or.inl rfl | exact Or.inr rfl)), pts_nil, (pe_call ((ok_is_word T).mono (by first | decide | omega)) hr rfl T.m_is_word T.f_is_word.kp T.b_is_word .nil pass0 (pa_cons (pv 1) pa_nil))⟩)) pa_nil)) (pe_one (pe_cmpR op_eq (pe_callB (call_lenSK (P := P) (w := w)) (by rfl) T.n_len L2.boot_len (pa_cons (pe_callTy (call_setTK (P := P) (w := w) K rfl rfl) (by rfl) T.n_set L2.boot_set (pa_cons (pv 0) pa_nil)) pa_nil)) (pe_callB (call_lenK K rfl) (by rfl) T.n_len L2.boot_len (pa_cons (pv 0) pa_nil)) (nomark _))))))), ?_⟩
    refine ⟨_, rfl, _, "tuple", _, true, rfl, .inr ⟨p, _, rfl, hT, rfl⟩, kit_tt (by decide +kernel), true, rfl, iteF ?_⟩
    have hll : l.length = (l.map V.str).length := by simp
    refine ⟨_, rfl, _, l.length, rfl, .inr ⟨_, hT, hll⟩, _, _, rfl, rfl, _, rfl, iteD (fun _ => ?_) (fun h => absurd (by omega) h)⟩
    refine ⟨_, _, rfl, rfl, _, rfl, ?_⟩
    show if (!decide ((l.length : Int) ≤ 4)) = true then _ else _
    rw [decide_eq_true (show (l.length : Int) ≤ 4 by omega)]
    refine iteF ?_
    refine ⟨_, rfl, p, rfl, ⟨_, hT⟩, fun D hD => ?_⟩
    refine comp_tup (K := K) (a := p) (xs := l.map V.str) (fun i acc H' => acc = (List.replicate i true).map V.bl ∧ Same H H' ∧ H' D = some (.lst acc)) ⟨rfl, same_new (Same.refl _) hD, upd_same⟩ (fun i acc H' _ h => Same.tseq h.2.1 hT) ?_ ?_
    · rintro i v acc H1 hv ⟨rfl, s1, hD1⟩
      have hi := (List.getElem?_eq_some_iff.mp hv).1
      obtain ⟨z, _, rfl, hz⟩ := map_get hv
      have hi2 : i < l.length := by simpa using hi
      exact gName_ (yes_ (iteT ⟨_, rfl, z, rfl, h1 z hz, fun H2 s2 => ⟨s2 _ _ hD1, trues_len i (by omega), lf hi ⟨trues_snoc i, same_upd (s1.trans s2) hD, upd_same⟩⟩⟩))
    · rintro acc H1 ⟨rfl, s1, hD1⟩
      refine ⟨D, _, rfl, SqL.of hD1, _, rfl, ?_⟩
      rw [trues_all]
      have hkl := keys_len h2
      refine iteT ⟨_, rfl, p, l.map Sum.inr, rfl, by rw [keys_strs]; exact Same.tseq s1 hT, by rw [List.length_map]; omega, fun q1 hq1 => ?_⟩
      refine ⟨q1, _, _, rfl, upd_same, by rw [hkl]; omega, ?_⟩
      have s3 : ∀ o, Same H (upd H1 q1 o) := fun o => same_new s1 hq1
      refine ⟨_, rfl, _, l.length, rfl, .inr ⟨_, Same.tseq (s3 _) hT, hll⟩, rfl, ?_⟩
      rw [hkl, decide_eq_true rfl]
      exact q _ (s3 _)
theorem ok_are_shuts (T : Txt K mg a) : FnOk P w K mg base CX0 3 a.are_shuts a.fd_are_shuts ["names"] (spShuts K) := by
  refine T.f_are_shuts.ok sc_are_shuts (fun vs H Q E h => ?_) (fun cdv A outer s H vs Q E hr h => ?_)
  · obtain ⟨p, l, rfl, _⟩ := h
    rfl
  · obtain ⟨p, l, rfl, hT, h1, h2, h4, q⟩ := h
    refine ⟨_, (pss_one (ps_ret (pe_and (pe_cmpR op_le (pe_callB (call_lenK K rfl) (by rfl) T.n_len L2.boot_len (pa_cons (pv 0) pa_nil)) (pe_globE T.c_MOST_SHUTS rfl) (nomark _)) (pe_and (pe_callB (call_allK K rfl rfl) (by rfl) T.n_all L2.boot_all (pa_cons (comp_of ["names"] ["name"] [] [1] (defScope s_are_shuts) rfl rfl rfl (by decide +kernel) (by decide +kernel) (gk_name 1)
    (pi_tupK K rfl (pv 0)) (fun cl C s₀ H₀ ex => ⟨(pg_name (i := 1) (show List.Nodup ((["names"] : List PySem.Str) ++ (["name"] : List PySem.Str)) by decide +kernel) rfl (by first | exact Or.inl rfl | exact Or.inr rfl)), pts_nil, (pe_call ((ok_is_word T).mono (by first | decide | omega)) hr rfl T.m_is_word T.f_is_word.kp T.b_is_word .nil pass0 (pa_cons (pv 1) pa_nil))⟩)) pa_nil)) (pe_one (pe_cmpR op_eq (pe_callB (call_lenSK (P := P) (w := w)) (by rfl) T.n_len L2.boot_len (pa_cons (pe_callTy (call_setTK (P := P) (w := w) K rfl rfl) (by rfl) T.n_set L2.boot_set (pa_cons (pv 0) pa_nil)) pa_nil)) (pe_callB (call_lenK K rfl) (by rfl) T.n_len L2.boot_len (pa_cons (pv 0) pa_nil)) (nomark _))))))), ?_⟩
    have hll : l.length = (l.map V.str).length := by simp
    refine ⟨_, rfl, _, l.length, rfl, .inr ⟨_, hT, hll⟩, _, _, rfl, rfl, _, rfl, iteD (fun _ => ?_) (fun h => absurd (by omega) h)⟩
    refine ⟨_, rfl, p, rfl, ⟨_, hT⟩, fun D hD => ?_⟩
    refine comp_tup (K := K) (a := p) (xs := l.map V.str) (fun i acc H' => acc = (List.replicate i true).map V.bl ∧ Same H H' ∧ H' D = some (.lst acc)) ⟨rfl, same_new (Same.refl _) hD, upd_same⟩ (fun i acc H' _ h => Same.tseq h.2.1 hT) ?_ ?_
    · rintro i v acc H1 hv ⟨rfl, s1, hD1⟩
      have hi := (List.getElem?_eq_some_iff.mp hv).1
      obtain ⟨z, _, rfl, hz⟩ := map_get hv
      have hi2 : i < l.length := by simpa using hi
      exact gName_ (yes_ (iteT ⟨_, rfl, z, rfl, h1 z hz, fun H2 s2 => ⟨s2 _ _ hD1, trues_len i (by omega), lf hi ⟨trues_snoc i, same_upd (s1.trans s2) hD, upd_same⟩⟩⟩))
    · rintro acc H1 ⟨rfl, s1, hD1⟩
      refine ⟨D, _, rfl, SqL.of hD1, _, rfl, ?_⟩
      rw [trues_all]
      have hkl := keys_len h2
      refine iteT ⟨_, rfl, p, l.map Sum.inr, rfl, by rw [keys_strs]; exact Same.tseq s1 hT, by rw [List.length_map]; omega, fun q1 hq1 => ?_⟩
      refine ⟨q1, _, _, rfl, upd_same, by rw [hkl]; omega, ?_⟩
      have s3 : ∀ o, Same H (upd H1 q1 o) := fun o => same_new s1 hq1
      refine ⟨_, rfl, _, l.length, rfl, .inr ⟨_, Same.tseq (s3 _) hT, hll⟩, rfl, ?_⟩
      rw [hkl, decide_eq_true rfl]
      exact q _ (s3 _)
end
inductive DeedAt (K : PySem.W.Frag) (H : Hp) : V → Str → Prop
  | plain {p : Addr} {hd : Str} {vs : List V} {ts : List Str} : SqT K H p (.str hd :: vs) → hd ≠ "trial" → hd ≠ "visit" → hd.length ≤ 100 → Paired (Thing K H) vs ts → ts.length ≤ 5 → DeedAt K H (.ref p) (Txt.join " " (hd :: ts))
  | trial {p : Addr} {n l : Str} {av rv sv : V} {as ss : List Str} {r : Ru} : SqT K H p [.str "trial", .str n, .str l, av, rv, sv] → n.length ≤ 40 → l.length ≤ 40 → Flats K H av as → Flats K H sv ss → RuAt K H r rv → r.hgt ≤ 6 → r.fit →
      DeedAt K H (.ref p) (Txt.join " " ["trial", n, l, listS as, listS ss, r.txt])
  | visit {p : Addr} {g : Str} {mv : V} {ms : List (Str × Int)} : SqT K H p [.str "visit", .str g, mv] → g.length ≤ 40 → MkAt K H ms mv → ms.length ≤ 10 → (∀ m ∈ ms, MkFit m) → DeedAt K H (.ref p) (Txt.join " " ["visit", g, listS (ms.map mkS)])
theorem paired_map {α β : Type} {R S : α → β → Prop} (f : ∀ a b, R a b → S a b) : ∀ {xs : List α} {ys : List β}, Paired R xs ys → Paired S xs ys
  | _, _, .nil => .nil
  | _, _, .cons r t => .cons (f _ _ r) (paired_map f t)
theorem DeedAt.kp {K : PySem.W.Frag} {H H' : Hp} {v : V} {t : Str} (e : Kp H H') (h : DeedAt K H v t) : DeedAt K H' v t := by
  cases h with
  | plain h1 h2 h3 h4 h5 h6 => exact .plain (e.tq h1) h2 h3 h4 (paired_map (fun _ _ h => h.kp e) h5) h6
  | trial h1 h2 h3 h4 h5 h6 h7 h8 => exact .trial (e.tq h1) h2 h3 (h4.kp e) (h5.kp e) (h6.kp e) h7 h8
  | visit h1 h2 h3 h4 h5 => exact .visit (e.tq h1) h2 (h3.kp e) h4 h5
theorem Flats.len {K : PySem.W.Frag} {H : Hp} {v : V} {ts : List Str} (h : Flats K H v ts) : (listS ts).length ≤ 1010 := by
  obtain ⟨a, vs, _, _, h3, h4⟩ := h
  exact listS_len h3 h4
theorem marksS_len {ms : List (Str × Int)} (h : ∀ m ∈ ms, MkFit m) (hl : ms.length ≤ 10) : (listS (ms.map mkS)).length ≤ 1010 := listS_len (marks_flat h) (by rw [List.length_map]; exact hl)
def spDeed (K : PySem.W.Frag) : Sp := fun vs H Q _ => ∃ (dv : V) (t : Str), vs = [dv] ∧ DeedAt K H dv t ∧ ∀ H', Same H H' → Q (.str t) H'
theorem word_ne {A B : Prop} {x y : Str} (h : x ≠ y) (b : B) : if decide (V.str x = V.str y) = true then A else B := iteS (fun e => absurd e h) (fun _ => b)
theorem word_eq {A B : Prop} {x : Str} (a : A) : if decide (V.str x = V.str x) = true then A else B := iteS (fun _ => a) (fun h => absurd rfl h)
theorem plain_thing {K : PySem.W.Frag} {H : Hp} {z : Str} (h : z.length ≤ 100) : Thing K H (.str z) z := .inl (.inl ⟨rfl, h⟩)
abbrev RusAt (K : PySem.W.Frag) (H : Hp) : List Ru → List V → Prop := Paired (RuAt K H)
theorem RusAt.kp {K : PySem.W.Frag} {H H' : Hp} (e : Kp H H') : ∀ {rs : List Ru} {vs : List V}, RusAt K H rs vs → RusAt K H' rs vs
  | _, _, .nil => .nil
  | _, _, .cons h t => .cons (h.kp e) (RusAt.kp e t)
theorem RusAt.app {K : PySem.W.Frag} {H : Hp} : ∀ {rs qs : List Ru} {vs us : List V}, RusAt K H rs vs → RusAt K H qs us → RusAt K H (rs ++ qs) (vs ++ us)
  | _, _, _, _, .nil, t => t
  | _, _, _, _, .cons h t, u => .cons h (RusAt.app t u)
theorem RusAt.get {K : PySem.W.Frag} {H : Hp} : ∀ {rs : List Ru} {vs : List V}, RusAt K H rs vs → ∀ (i : Nat) (v : V), vs[i]? = some v → ∃ r, rs[i]? = some r ∧ RuAt K H r v
  | _, _, .nil, i, v, h => by simp at h
  | _, _, .cons h t, 0, v, e => by
    simp at e
    subst e
    exact ⟨_, rfl, h⟩
  | _, _, .cons h t, i + 1, v, e => by
    obtain ⟨d, h1, h2⟩ := RusAt.get t i v (by simpa using e)
    exact ⟨d, by simpa using h1, h2⟩
def Ru.kids : Ru → List Ru
  | .not q => [q]
  | .both q r => [q, r]
  | .either q r => [q, r]
  | _ => []
def Ru.kind : Ru → Str
  | .any => "any"
  | .has _ => "has"
  | .least _ _ => "least"
  | .not _ => "not"
  | .both _ _ => "both"
  | .either _ _ => "either"
def Ru.deep : Ru → Bool
  | .not _ => true
  | .both _ _ => true
  | .either _ _ => true
  | _ => false
theorem Ru.subs_kids (r : Ru) : r.subs = r :: (r.kids.map Ru.subs).flatten := by
  cases r <;> simp [Ru.subs, Ru.kids]
theorem RuAt.tup {K : PySem.W.Frag} {H : Hp} {r : Ru} {v : V} (h : RuAt K H r v) : ∃ t vs, v = .ref t ∧ SqT K H t (.str r.kind :: vs) ∧ (r.deep = true → RusAt K H r.kids vs ∧ vs ≠ []) ∧ (∀ w, r.word1 = some w → ∃ us, vs = .str w :: us) := by
  cases h with
  | any h => exact ⟨_, _, rfl, h, fun e => (nomatch e), fun w e => (nomatch e)⟩
  | has h => exact ⟨_, _, rfl, h, fun e => (nomatch e), fun w e => by cases e; exact ⟨_, rfl⟩⟩
  | least h => exact ⟨_, _, rfl, h, fun e => (nomatch e), fun w e => by cases e; exact ⟨_, rfl⟩⟩
  | not h q => exact ⟨_, _, rfl, h, fun _ => ⟨.cons q .nil, fun z => nomatch z⟩, fun w e => (nomatch e)⟩
  | both h q r => exact ⟨_, _, rfl, h, fun _ => ⟨.cons q (.cons r .nil), fun z => nomatch z⟩, fun w e => (nomatch e)⟩
  | either h q r => exact ⟨_, _, rfl, h, fun _ => ⟨.cons q (.cons r .nil), fun z => nomatch z⟩, fun w e => (nomatch e)⟩
theorem in_deep (r : Ru) : inV (.str r.kind) [.str "not", .str "both", .str "either"] = r.deep := by
  cases r with
  | any => exact (show inV (.str "any") [.str "not", .str "both", .str "either"] = false by decide +kernel)
  | has _ => exact (show inV (.str "has") [.str "not", .str "both", .str "either"] = false by decide +kernel)
  | least _ _ => exact (show inV (.str "least") [.str "not", .str "both", .str "either"] = false by decide +kernel)
  | not _ => exact (show inV (.str "not") [.str "not", .str "both", .str "either"] = true by decide +kernel)
  | both _ _ => exact (show inV (.str "both") [.str "not", .str "both", .str "either"] = true by decide +kernel)
  | either _ _ => exact (show inV (.str "either") [.str "not", .str "both", .str "either"] = true by decide +kernel)
theorem in_word (r : Ru) : inV (.str r.kind) [.str "has", .str "least"] = r.word1.isSome := by
  cases r with
  | any => exact (show inV (.str "any") [.str "has", .str "least"] = false by decide +kernel)
  | has _ => exact (show inV (.str "has") [.str "has", .str "least"] = true by decide +kernel)
  | least _ _ => exact (show inV (.str "least") [.str "has", .str "least"] = true by decide +kernel)
  | not _ => exact (show inV (.str "not") [.str "has", .str "least"] = false by decide +kernel)
  | both _ _ => exact (show inV (.str "both") [.str "has", .str "least"] = false by decide +kernel)
  | either _ _ => exact (show inV (.str "either") [.str "has", .str "least"] = false by decide +kernel)
theorem kid_hgt {r k : Ru} {n : Nat} (h : k ∈ r.kids) (hh : r.hgt ≤ n + 1) : k.hgt ≤ n := by
  cases r with
  | any => cases h
  | has _ => cases h
  | least _ _ => cases h
  | not q =>
    have : k = q := by simpa [Ru.kids] using h
    have hh : q.hgt + 1 ≤ n + 1 := hh
    rw [this]; omega
  | both q r =>
    have : k = q ∨ k = r := by simpa [Ru.kids] using h
    have hh : max q.hgt r.hgt + 1 ≤ n + 1 := hh
    have h1 := Nat.le_max_left q.hgt r.hgt
    have h2 := Nat.le_max_right q.hgt r.hgt
    rcases this with rfl | rfl <;> omega
  | either q r =>
    have : k = q ∨ k = r := by simpa [Ru.kids] using h
    have hh : max q.hgt r.hgt + 1 ≤ n + 1 := hh
    have h1 := Nat.le_max_left q.hgt r.hgt
    have h2 := Nat.le_max_right q.hgt r.hgt
    rcases this with rfl | rfl <;> omega
theorem cut_ix (x : V) (xs : List V) : HT.sIx (x :: xs).length 0 (some 1) = 1 := by
  show (if (1 : Int) < 0 then ((1 : Int) + ((x :: xs).length : Int)).toNat else min (1 : Int).toNat (xs.length + 1)) = 1
  rw [if_neg (by decide)]
  show min 1 (xs.length + 1) = 1
  omega
theorem cut_not (x : V) (xs : List V) : ¬ HT.sIx (x :: xs).length 0 (some 1) = 0 := by rw [cut_ix]; decide
theorem cut_tail (x : V) (xs : List V) : cutV (x :: xs) (some 1) none = xs := by
  unfold cutV
  rw [cut_ix, HT.sIx_none]
  show xs.take ((xs.length + 1) - 1) = xs
  rw [Nat.add_sub_cancel, List.take_of_length_le (Nat.le_refl _)]
def spWithin (K : PySem.W.Frag) (h : Nat) : Sp := fun vs H Q _ => ∃ (r : Ru) (rv : V), vs = [rv] ∧ RuAt K H r rv ∧ r.hgt ≤ h ∧ h ≤ 6 ∧ ∀ (l : Addr) (us : List V) (H' : Hp), Same H H' → H l = none → H' l = some (.lst us) → RusAt K H' r.subs us → Q (.ref l) H'
section
variable {P : Program} {w : World} {K : PySem.W.Frag} {mg : Str → Option Value} {base : Heap} {a : Adr}
theorem ok_all_within (T : Txt K mg a) : ∀ h : Nat, FnOk P w K mg base CX0 (h + 1) a.all_within a.fd_all_within ["rule"] (spWithin K h)
  | 0 => by
    refine T.f_all_within.ok sc_all_within (fun vs H Q E h => ?_) (fun cdv A outer s H vs Q E hr h => ?_)
    · obtain ⟨r, rv, rfl, _⟩ := h
      rfl
    · obtain ⟨r, rv, rfl, _, hh, _⟩ := h
      have := r.hgt_pos
      omega
  | n + 1 => by
    have ih := ok_all_within T n
    refine T.f_all_within.ok sc_all_within (fun vs H Q E h => ?_) (fun cdv A outer s H vs Q E hr h => ?_)
    · obtain ⟨r, rv, rfl, _⟩ := h
      rfl
    · obtain ⟨r, rv, rfl, hR, hh, h6, q⟩ := h
      obtain ⟨t, vs, rfl, hT, hdeep, _⟩ := hR.tup
      refine ⟨_, (pss_cons (ps_set (i := 1) sc_all_within.nd rfl (by first | exact Or.inl rfl | exact Or.inr rfl) (pe_lst (pa_cons (pv 0) pa_nil)))
  (pss_cons (ps_if (pt_cmpR (op_inK K rfl) (pe_ix (ix_tupK K rfl) (pv 0) pe_int (fun _ _ => rfl)) (pe_tup (pa_cons pe_str (pa_cons pe_str (pa_cons pe_str pa_nil)))) (by with_unfolding_all rfl)) (pss_one (ps_for PassesOwn.never rfl (pi_tupK K rfl (pe_slice (sl_tupK K rfl) (pv 0) (po_some pe_int) po_none)) (pg_name (i := 2) sc_all_within.nd rfl (by first | exact Or.inl rfl | exact Or.inr rfl))
  (pss_one (ps_expr (pe_bmK K rfl PySem.F.plainAttrs_list PySem.F.slot_list_extend PySem.F.type_list_extend mt_extend (pv 1) (pa_cons (pe_call ih hr rfl T.m_all_within T.f_all_within.kp T.b_all_within .nil pass0 (pa_cons (pv 2) pa_nil)) pa_nil)))))) pss_nil)
  (pss_one (ps_ret (pv 1))))), ?_⟩
      refine ⟨_, rfl, le_size (show _ ≤ 65536 by simp), fun l hl => ?_⟩
      have s0 := same_new (o := .lst [.ref t]) (Same.refl H) hl
      have hL0 : upd H l (.lst [.ref t]) l = some (.lst [.ref t]) := upd_same
      try dsimp only
      generalize upd H l (.lst [.ref t]) = H0 at s0 hL0 ⊢
      refine ⟨_, rfl, _, _, 0, _, rfl, rfl, Same.tseq s0 hT, atI_nat' (k := 0) rfl, le_size (show _ ≤ 65536 by simp), fun t3 ht3 => ?_⟩
      have s1 := same_new (o := .tup [.str "not", .str "both", .str "either"]) s0 ht3
      have hL1 : upd H0 t3 (.tup [.str "not", .str "both", .str "either"]) l = some (.lst [.ref t]) := by rw [upd_ne (ne_of_none hL0 ht3)]; exact hL0
      refine ⟨t3, _, rfl, .inr (SqT.of upd_same), rfl, rfl, _, rfl, ?_⟩
      show if inV (.str r.kind) [.str "not", .str "both", .str "either"] = true then _ else _
      rw [in_deep]
      try dsimp only
      generalize upd H0 t3 (.tup [.str "not", .str "both", .str "either"]) = H1 at s1 hL1 ⊢
      cases hd : r.deep with
      | false =>
        refine iteF ⟨_, rfl, ?_⟩
        have hs : r.subs = [r] := by cases r <;> first | rfl | cases hd
        exact q l [.ref t] H1 s1 hl hL1 (by rw [hs]; exact .cons (hR.kp (.of s1)) .nil)
      | true =>
        obtain ⟨hK, hne⟩ := hdeep hd
        refine iteT ?_
        refine ⟨_, rfl, _, rfl, ?_⟩
        have hc := r.cnt_lt
        have hp6 : 2 ^ r.hgt ≤ 2 ^ 6 := Nat.pow_le_pow_right (by decide) (by omega)
        have hvl : vs.length = r.kids.length := (Paired.length hK).symm
        have hkid : ∀ (i : Nat) (k : Ru), r.kids[i]? = some k → k.hgt ≤ n := fun i k hk => kid_hgt (List.mem_of_getElem? hk) hh
        refine ⟨t, _, rfl, Same.tseq s1 hT, fun z => absurd z.1 (cut_not _ _), fun p hp => ?_⟩
        rw [cut_tail]
        have s2 := same_new (o := .tup vs) s1 hp
        have hL2 : upd H1 p (.tup vs) l = some (.lst [.ref t]) := by rw [upd_ne (ne_of_none hL1 hp)]; exact hL1
        have hP2 : upd H1 p (.tup vs) p = some (.tup vs) := upd_same
        try dsimp only
        generalize upd H1 p (.tup vs) = H2 at s2 hL2 hP2 ⊢
        refine ⟨p, rfl, ⟨_, SqT.of hP2⟩, for_tup (xs := vs) (D := { nx := tRet (tVar 1) { nx := fun _ H' => Q .non H', rt := Q }, rt := Q }) (fun i σ H' => Same H H' ∧ H' p = some (.tup vs) ∧ (∃ us, H' l = some (.lst us) ∧ RusAt K H' (r :: ((r.kids.take i).map Ru.subs).flatten) us) ∧ ∃ v2, σ = [some (.ref t), some (.ref l), v2])
          ⟨s2, hP2, ⟨[.ref t], hL2, .cons (hR.kp (.of s2)) .nil⟩, _, rfl⟩ (fun i σ H' _ h => SqT.of h.2.1) ?_ ?_⟩
        · rintro i x σ H3 hx ⟨s3, hP3, ⟨us, hL3, hU3⟩, v2, rfl⟩
          obtain ⟨k, hk, hkv⟩ := RusAt.get hK i x hx
          refine gName_ ⟨_, rfl, .inl ⟨rfl, _, SqL.of hL3⟩, _, rfl, k, x, rfl, hkv.kp (.of s3), hkid i k hk, by omega, fun l' us' H4 s4 hl' hL4 hU4 => ?_⟩
          have e1 : ((r.kids.take (i + 1)).map Ru.subs).flatten = ((r.kids.take i).map Ru.subs).flatten ++ k.subs := by
            rw [List.take_add_one, hk, List.map_append, List.flatten_append]
            simp
          have n1 := Paired.length hU3
          have n2 := Paired.length hU4
          have n3 : (((r.kids.take i).map Ru.subs).flatten).length + k.subs.length ≤ 64 := by
            have e2 : r.subs.length = 1 + ((r.kids.map Ru.subs).flatten).length := by rw [r.subs_kids, List.length_cons]; omega
            have e3 : ((r.kids.map Ru.subs).flatten).length = (((r.kids.take (i + 1)).map Ru.subs).flatten).length + (((r.kids.drop (i + 1)).map Ru.subs).flatten).length := by
              rw [← List.length_append, ← List.flatten_append, ← List.map_append, List.take_append_drop]
            rw [e1, List.length_append] at e3
            unfold Ru.cnt at hc
            omega
          rw [List.length_cons] at n1
          refine ⟨l, l', _, _, rfl, rfl, s4 _ _ hL3, hL4, by rw [sizeLine_eq]; omega, ?_⟩
          have kq : Kp H4 (upd H4 l (.lst (us ++ us'))) := .lst (s4 _ _ hL3)
          refine ⟨same_upd (s3.trans s4) hl, ?_, ⟨_, upd_same, ?_⟩, _, rfl⟩
          · rw [upd_ne (fun z => by rw [z, hL3] at hP3; cases hP3)]; exact s4 _ _ hP3
          · rw [e1, ← List.cons_append]
            exact RusAt.app ((hU3.kp (.of s4)).kp kq) (hU4.kp kq)
        · rintro σ H3 ⟨s3, hP3, ⟨us, hL3, hU3⟩, v2, rfl⟩
          refine ⟨_, rfl, q l us H3 s3 hl hL3 ?_⟩
          rw [r.subs_kids]
          rw [hvl, List.take_of_length_le (Nat.le_refl _)] at hU3
          exact hU3
end
theorem dd_map {α β : Type} [DecidableEq α] [BEq α] [LawfulBEq α] [DecidableEq β] [BEq β] [LawfulBEq β] (f : α → β) (hf : ∀ a b, f a = f b → a = b) (ks : List α) : dd (ks.map f) = (dd ks).map f := by
  have gen : ∀ (ks acc : List α), (ks.map f).foldl PyProof.Rows.step_dedup (acc.map f) = (ks.foldl PyProof.Rows.step_dedup acc).map f := by
    intro ks
    induction ks with
    | nil => intro acc; rfl
    | cons k r ih =>
      intro acc
      rw [List.map_cons, List.foldl_cons, List.foldl_cons, ← ih]
      congr 1
      unfold PyProof.Rows.step_dedup
      have e : (acc.map f).any (fun y => y == f k) = acc.any (fun y => y == k) := by
        rw [List.any_map]
        congr 1
        funext y
        show (f y == f k) = (y == k)
        by_cases q : y = k
        · rw [q, beq_self_eq_true, beq_self_eq_true]
        · rw [beq_false_of_ne q, beq_false_of_ne (fun z => q (hf _ _ z))]
      by_cases q : acc.any (fun y => y == k) = true
      · rw [if_pos (e.trans q), if_pos q]
      · rw [if_neg (fun z => q (e.symm.trans z)), if_neg q, List.map_append]
        rfl
  exact gen ks []
def Ru.wset (r : Ru) : List Str := dd r.words
theorem Ru.wset_keys (r : Ru) : dd (r.words.map (Sum.inr : Str → Key)) = r.wset.map Sum.inr := dd_map Sum.inr (fun _ _ h => Sum.inr.inj h) r.words
theorem Ru.wset_le (r : Ru) : r.wset.length ≤ r.cnt := by
  have h1 := dd_len_le r.words []
  have h2 := r.words_le
  unfold Ru.wset dd
  simp at h1
  omega
def spWords (K : PySem.W.Frag) : Sp := fun vs H Q _ => ∃ (r : Ru) (rv : V), vs = [rv] ∧ RuAt K H r rv ∧ r.hgt ≤ 6 ∧ ∀ (l : Addr) (ss : List Str) (H' : Hp), Same H H' → H l = none → H' l = some (.lst (ss.map V.str)) → ss.Perm r.wset → ss.Pairwise InOrder → Q (.ref l) H'
section
variable {P : Program} {w : World} {K : PySem.W.Frag} {mg : Str → Option Value} {base : Heap} {a : Adr}
theorem ok_words_of (T : Txt K mg a) : FnOk P w K mg base CX0 8 a.words_of a.fd_words_of ["rule"] (spWords K) := by
  refine T.f_words_of.ok sc_words_of (fun vs H Q E h => ?_) (fun cdv A outer s H vs Q E hr h => ?_)
  · obtain ⟨r, rv, rfl, _⟩ := h
    rfl
  · obtain ⟨r, rv, rfl, hR, hh, q⟩ := h
    refine ⟨_, (pss_one (ps_ret (pe_callB (call_sortYPK (P := P) (w := w) rfl) (by rfl) T.n_sorted L2.boot_sorted (pa_cons (pe_callTy (call_setYK (P := P) (w := w) K rfl rfl) (by rfl) T.n_set L2.boot_set (pa_cons (comp_of ["rule"] ["inner"] [] [1] (defScope s_words_of) rfl rfl rfl (by decide +kernel) (by decide +kernel) (gk_name 1)
    (pi_listK K rfl (pe_call ((ok_all_within T 6).mono (by first | decide | omega)) hr rfl T.m_all_within T.f_all_within.kp T.b_all_within .nil pass0 (pa_cons (pv 0) pa_nil))) (fun cl C s₀ H₀ ex => ⟨(pg_name (i := 1) (show List.Nodup ((["rule"] : List PySem.Str) ++ (["inner"] : List PySem.Str)) by decide +kernel) rfl (by first | exact Or.inl rfl | exact Or.inr rfl)), (pts_one (pt_cmpR (op_inK K rfl) (pe_ix (ix_tupK K rfl) (pv 1) pe_int (fun _ _ => rfl)) (pe_tup (pa_cons pe_str (pa_cons pe_str pa_nil))) (by with_unfolding_all rfl))), (pe_ix (ix_tupK K rfl) (pv 1) pe_int (fun _ _ => rfl))⟩)) pa_nil)) pa_nil)))), ?_⟩
    refine ⟨_, rfl, r, rv, rfl, hR, hh, Nat.le_refl _, fun l us H1 s1 hl hL1 hU1 => ?_⟩
    have hc := r.cnt_lt
    have hp6 : 2 ^ r.hgt ≤ 2 ^ 6 := Nat.pow_le_pow_right (by decide) (by omega)
    have hul : us.length = r.subs.length := (Paired.length hU1).symm
    have hcl : r.subs.length < 64 := by unfold Ru.cnt at hc; omega
    refine ⟨l, rfl, ⟨_, SqL.of hL1⟩, fun D hD => ?_⟩
    refine comp_list (K := K) (a := l) (xs := us) (fun i acc H' => acc = ((r.subs.take i).filterMap Ru.word1).map V.str ∧ Same H1 H' ∧ H' D = some (.lst acc)) ⟨by rw [List.take_zero]; rfl, same_new (Same.refl _) hD, upd_same⟩ (fun i acc H' _ h => SqL.of (h.2.1 _ _ hL1)) ?_ ?_
    · rintro i v acc H2 hv ⟨rfl, s2, hD2⟩
      have hi : i < us.length := (List.getElem?_eq_some_iff.mp hv).1
      obtain ⟨k, hk, hkv⟩ := RusAt.get hU1 i v hv
      obtain ⟨t, vs, rfl, hT, _, hw⟩ := (hkv.kp (.of s2)).tup
      refine gName_ ⟨_, rfl, t, _, 0, _, rfl, rfl, hT, atI_nat' (k := 0) rfl, le_size (show _ ≤ 65536 by simp), fun t2 ht2 => ?_⟩
      have s3 := same_new (o := .tup [.str "has", .str "least"]) (Same.refl H2) ht2
      refine ⟨t2, _, rfl, .inr (SqT.of upd_same), rfl, rfl, _, rfl, ?_⟩
      show if inV (.str k.kind) [.str "has", .str "least"] = true then _ else _
      rw [in_word]
      try dsimp only
      generalize upd H2 t2 (.tup [.str "has", .str "least"]) = H3 at s3 ⊢
      have e1 : (r.subs.take (i + 1)).filterMap Ru.word1 = (r.subs.take i).filterMap Ru.word1 ++ k.word1.toList := by
        rw [List.take_add_one, hk, List.filterMap_append]
        congr 1
      have fl : ((r.subs.take i).filterMap Ru.word1).length ≤ i := Nat.le_trans (List.length_filterMap_le _ _) (List.length_take_le _ _)
      cases hkw : k.word1 with
      | none =>
        refine iteF (lf hi ⟨?_, s2.trans s3, s3 _ _ hD2⟩)
        rw [e1, hkw]
        simp
      | some wd =>
        obtain ⟨us2, rfl⟩ := hw wd hkw
        refine iteT ⟨_, rfl, t, _, 1, _, rfl, rfl, Same.tseq s3 hT, atI_nat' (k := 1) rfl, s3 _ _ hD2, ?_, lf hi ⟨?_, same_upd (s2.trans s3) hD, upd_same⟩⟩
        · rw [List.length_map, sizeLine_eq]; omega
        · rw [e1, hkw, List.map_append]; rfl
    · rintro acc H2 ⟨rfl, s2, hD2⟩
      rw [hul, List.take_of_length_le (Nat.le_refl _), r.words_subs] at hD2
      have wl := r.words_le
      have wl2 := r.wset_le
      have hD2 : H2 D = some (.lst ((r.words.map (Sum.inr : Str → Key)).map kV)) := by
        rw [List.map_map]; exact hD2
      refine ⟨D, r.words.map Sum.inr, rfl, SqL.of hD2, by rw [List.length_map]; omega, fun q1 hq1 => ?_⟩
      rw [r.wset_keys]
      have s3 := same_new (o := setY P w q1 (r.wset.map Sum.inr)) (Same.refl H2) hq1
      refine ⟨q1, r.wset, rfl, upd_same, by omega, fun q2 ss hq2 hp hs => ?_⟩
      have s4 := same_new (o := .lst (ss.map V.str)) s3 hq2
      exact q q2 ss _ ((s1.trans s2).trans s4) (by
        cases z : H q2 with
        | none => rfl
        | some o => rw [((s1.trans s2).trans s3) _ _ z] at hq2; cases hq2) upd_same hp hs
end
theorem nd_le {α : Type} [BEq α] [LawfulBEq α] : ∀ {l m : List α}, l.Nodup → (∀ x ∈ l, x ∈ m) → l.length ≤ m.length
  | [], m, _, _ => Nat.zero_le _
  | a :: l, m, h, g => by
    obtain ⟨h1, h2⟩ := List.nodup_cons.mp h
    have p := List.perm_cons_erase (g a List.mem_cons_self)
    have := nd_le (m := m.erase a) h2 fun x hx => by
      rcases List.mem_cons.mp (p.mem_iff.mp (g x (List.mem_cons_of_mem _ hx))) with rfl | q
      · exact absurd hx h1
      · exact q
    have e := p.length_eq
    rw [List.length_cons] at e ⊢
    omega
theorem dd_gen {α : Type} [DecidableEq α] [BEq α] [LawfulBEq α] : ∀ (ks acc : List α) (x : α), x ∈ ks.foldl PyProof.Rows.step_dedup acc ↔ x ∈ acc ∨ x ∈ ks
  | [], acc, x => by simp
  | k :: r, acc, x => by
    rw [List.foldl_cons, dd_gen r]
    unfold PyProof.Rows.step_dedup
    by_cases e : acc.any (fun y => y == k) = true
    · rw [if_pos e]
      obtain ⟨y, hy, q⟩ := List.any_eq_true.mp e
      have hk : k ∈ acc := by rw [← eq_of_beq q]; exact hy
      constructor
      · rintro (h | h)
        · exact .inl h
        · exact .inr (List.mem_cons_of_mem _ h)
      · rintro (h | h)
        · exact .inl h
        · rcases List.mem_cons.mp h with rfl | h
          · exact .inl hk
          · exact .inr h
    · rw [if_neg e]
      simp only [List.mem_append, List.mem_singleton, List.mem_cons, or_assoc, List.not_mem_nil, false_or]
theorem dd_mem {α : Type} [DecidableEq α] [BEq α] [LawfulBEq α] {ks : List α} {x : α} (h : x ∈ dd ks) : x ∈ ks := by
  rcases (dd_gen ks [] x).mp h with h | h
  · cases h
  · exact h
theorem dd_nd {α : Type} [DecidableEq α] [BEq α] [LawfulBEq α] : ∀ (ks acc : List α), acc.Nodup → (ks.foldl PyProof.Rows.step_dedup acc).Nodup
  | [], acc, h => h
  | k :: r, acc, h => by
    rw [List.foldl_cons]
    refine dd_nd r _ ?_
    unfold PyProof.Rows.step_dedup
    by_cases e : acc.any (fun y => y == k) = true
    · rw [if_pos e]; exact h
    · rw [if_neg e, List.nodup_append]
      refine ⟨h, by simp, fun a ha b hb => ?_⟩
      rw [List.mem_singleton.mp hb]
      rintro rfl
      exact e (List.any_eq_true.mpr ⟨a, ha, beq_self_eq_true a⟩)
def spForm6 (K : PySem.W.Frag) (n : Nat) : Sp := fun vs H Q _ => ∃ (r : Ru) (rv : V) (ws : List Str), vs = [rv, .int (n : Nat)] ∧ RuAt K H r rv ∧ r.hgt ≤ n ∧ RuOk ws r ∧ (∀ w ∈ ws, Wd w) ∧ ∀ H', Same H H' → Q (.bl true) H'
theorem lt_max {a b n : Nat} (h : max a b + 1 ≤ n + 1) : a ≤ n ∧ b ≤ n := by
  have h1 := Nat.le_max_left a b
  have h2 := Nat.le_max_right a b
  omega
section
variable {P : Program} {w : World} {K : PySem.W.Frag} {mg : Str → Option Value} {base : Heap} {a : Adr}
theorem ok_has_form (T : Txt K mg a) : ∀ n : Nat, FnOk P w K mg base CX0 (n + 3) a.has_form a.fd_has_form ["thing", "depth"] (spForm6 K n)
  | 0 => by
    refine T.f_has_form.ok sc_has_form (fun vs H Q E h => ?_) (fun cdv A outer s H vs Q E hr h => ?_)
    · obtain ⟨r, rv, ws, rfl, _⟩ := h
      rfl
    · obtain ⟨r, rv, ws, rfl, _, hh, _⟩ := h
      have := r.hgt_pos
      omega
  | n + 1 => by
    have ih := ok_has_form T n
    refine T.f_has_form.ok sc_has_form (fun vs H Q E h => ?_) (fun cdv A outer s H vs Q E hr h => ?_)
    · obtain ⟨r, rv, ws, rfl, _⟩ := h
      rfl
    · obtain ⟨r, rv, ws, rfl, hR, hh, ho, hw, q⟩ := h
      refine ⟨_, (pss_cons (ps_if (PW.pt (pw_or (pt_cmpR op_eq (pv 1) pe_int (nomark _)) (pw_or (pt_not (pt_truthK K rfl (pe_callB (call_isiTK K rfl) (by rfl) T.n_isinstance L2.boot_isinstance (pa_cons (pv 0) (pa_cons (pe_ty rfl T.n_tuple L2.boot_tuple) pa_nil))) (fun _ => rfl))) (pw_or1 (pt_cmpR op_eq (pe_callB (call_lenK K rfl) (by rfl) T.n_len L2.boot_len (pa_cons (pv 0) pa_nil)) pe_int (nomark _)))))) (pss_one (ps_ret pe_bl)) pss_nil)
  (pss_cons (ps_set (i := 2) sc_has_form.nd rfl (by first | exact Or.inl rfl | exact Or.inr rfl) (pe_ix (ix_tupK K rfl) (pv 0) pe_int (fun _ _ => rfl)))
  (pss_cons (ps_if (pt_cmpR op_eq (pv 2) pe_str (nomark _)) (pss_one (ps_ret (pe_cmpR op_eq (pe_callB (call_lenK K rfl) (by rfl) T.n_len L2.boot_len (pa_cons (pv 0) pa_nil)) pe_int (nomark _)))) pss_nil)
  (pss_cons (ps_if (pt_cmpR op_eq (pv 2) pe_str (nomark _)) (pss_one (ps_ret (pe_and (pe_cmpR op_eq (pe_callB (call_lenK K rfl) (by rfl) T.n_len L2.boot_len (pa_cons (pv 0) pa_nil)) pe_int (nomark _)) (pe_one (pe_call ((ok_is_word T).mono (by first | decide | omega)) hr rfl T.m_is_word T.f_is_word.kp T.b_is_word .nil pass0 (pa_cons (pe_ix (ix_tupK K rfl) (pv 0) pe_int (fun _ _ => rfl)) pa_nil)))))) pss_nil)
  (pss_cons (ps_if (pt_cmpR op_eq (pv 2) pe_str (nomark _)) (pss_one (ps_ret (pe_and (pe_cmpR op_eq (pe_callB (call_lenK K rfl) (by rfl) T.n_len L2.boot_len (pa_cons (pv 0) pa_nil)) pe_int (nomark _)) (pe_and (pe_call ((ok_is_word T).mono (by first | decide | omega)) hr rfl T.m_is_word T.f_is_word.kp T.b_is_word .nil pass0 (pa_cons (pe_ix (ix_tupK K rfl) (pv 0) pe_int (fun _ _ => rfl)) pa_nil)) (pe_one (pe_call ((ok_is_number T).mono (by first | decide | omega)) hr rfl T.m_is_number T.f_is_number.kp T.b_is_number .nil pass0 (pa_cons (pe_ix (ix_tupK K rfl) (pv 0) pe_int (fun _ _ => rfl)) pa_nil))))))) pss_nil)
  (pss_cons (ps_if (pt_cmpR op_eq (pv 2) pe_str (nomark _)) (pss_one (ps_ret (pe_and (pe_cmpR op_eq (pe_callB (call_lenK K rfl) (by rfl) T.n_len L2.boot_len (pa_cons (pv 0) pa_nil)) pe_int (nomark _)) (pe_one (pe_call ih hr rfl T.m_has_form T.f_has_form.kp T.b_has_form .nil pass0 (pa_cons (pe_ix (ix_tupK K rfl) (pv 0) pe_int (fun _ _ => rfl)) (pa_cons (pe_op op_sub (pv 1) pe_int) pa_nil))))))) pss_nil)
  (pss_cons (ps_if (PW.pt (pw_or (pt_cmpR op_eq (pv 2) pe_str (nomark _)) (pw_or1 (pt_cmpR op_eq (pv 2) pe_str (nomark _))))) (pss_one (ps_ret (pe_and (pe_cmpR op_eq (pe_callB (call_lenK K rfl) (by rfl) T.n_len L2.boot_len (pa_cons (pv 0) pa_nil)) pe_int (nomark _)) (pe_and (pe_call ih hr rfl T.m_has_form T.f_has_form.kp T.b_has_form .nil pass0 (pa_cons (pe_ix (ix_tupK K rfl) (pv 0) pe_int (fun _ _ => rfl)) (pa_cons (pe_op op_sub (pv 1) pe_int) pa_nil))) (pe_one (pe_call ih hr rfl T.m_has_form T.f_has_form.kp T.b_has_form .nil pass0 (pa_cons (pe_ix (ix_tupK K rfl) (pv 0) pe_int (fun _ _ => rfl)) (pa_cons (pe_op op_sub (pv 1) pe_int) pa_nil)))))))) pss_nil)
  (pss_one (ps_ret pe_bl))))))))), ?_⟩
      have hd : ((n + 1 : Nat) : Int) - 1 = (n : Int) := by omega
      obtain ⟨t, vs, rfl, hT, -⟩ := hR.tup
      refine ⟨_, rfl, rfl, _, rfl, iteI (fun h => absurd h (by omega)) (fun hz1 => ?_)⟩
      refine ⟨_, rfl, _, "tuple", _, true, rfl, .inr ⟨t, _, rfl, hT, rfl⟩, kit_tt (by decide +kernel), true, rfl, iteF ?_⟩
      refine ⟨_, rfl, _, _, rfl, .inr ⟨_, hT, rfl⟩, rfl, _, rfl, iteI (fun h => absurd h (by rw [List.length_cons]; omega)) (fun hz2 => ?_)⟩
      refine ⟨_, rfl, t, _, 0, _, rfl, rfl, hT, atI_nat' (k := 0) rfl, ?_⟩
      refine gName_ ?_
      clear hT hz1 hz2
      cases hR with
      | any h =>
        refine ⟨_, rfl, rfl, _, rfl, word_eq ?_⟩
        refine ⟨_, rfl, _, _, rfl, .inr ⟨_, h, rfl⟩, rfl, ?_⟩
        exact to_true (p := V.int 1 = V.int 1) rfl (q H (Same.refl _))
      | has h =>
        cases ho with
        | has hm =>
          refine ⟨_, rfl, rfl, _, rfl, word_ne (show (Str.ofString "has") ≠ Str.ofString "any" by decide +kernel) ?_⟩
          refine ⟨_, rfl, rfl, _, rfl, word_eq ?_⟩
          refine ⟨_, rfl, _, _, rfl, .inr ⟨_, h, rfl⟩, rfl, _, rfl, iteT ?_⟩
          exact ⟨_, rfl, t, _, 1, _, rfl, rfl, h, rfl, _, rfl, hw _ hm, q⟩
      | least h =>
        cases ho with
        | least hm h1 h2 =>
          refine ⟨_, rfl, rfl, _, rfl, word_ne (show (Str.ofString "least") ≠ Str.ofString "any" by decide +kernel) ?_⟩
          refine ⟨_, rfl, rfl, _, rfl, word_ne (show (Str.ofString "least") ≠ Str.ofString "has" by decide +kernel) ?_⟩
          refine ⟨_, rfl, rfl, _, rfl, word_eq ?_⟩
          refine ⟨_, rfl, _, _, rfl, .inr ⟨_, h, rfl⟩, rfl, _, rfl, iteT ?_⟩
          refine ⟨_, rfl, t, _, 1, _, rfl, rfl, h, rfl, _, rfl, hw _ hm, fun H1 s1 => ⟨_, rfl, iteT ?_⟩⟩
          exact ⟨_, rfl, t, _, 2, _, rfl, rfl, Same.tseq s1 h, rfl, _, rfl, ⟨h1, h2⟩, q H1 s1⟩
      | not h h1 =>
        cases ho with
        | not o1 =>
          rename_i q1 v1
          have hh : q1.hgt + 1 ≤ n + 1 := hh
          refine ⟨_, rfl, rfl, _, rfl, word_ne (show (Str.ofString "not") ≠ Str.ofString "any" by decide +kernel) ?_⟩
          refine ⟨_, rfl, rfl, _, rfl, word_ne (show (Str.ofString "not") ≠ Str.ofString "has" by decide +kernel) ?_⟩
          refine ⟨_, rfl, rfl, _, rfl, word_ne (show (Str.ofString "not") ≠ Str.ofString "least" by decide +kernel) ?_⟩
          refine ⟨_, rfl, rfl, _, rfl, word_eq ?_⟩
          refine ⟨_, rfl, _, _, rfl, .inr ⟨_, h, rfl⟩, rfl, _, rfl, iteT ?_⟩
          refine ⟨_, rfl, t, _, 1, _, rfl, rfl, h, rfl, _, rfl, _, _, rfl, rfl, ?_⟩
          exact ⟨q1, v1, ws, by show [v1, V.int (((n + 1 : Nat) : Int) - 1)] = _; rw [hd], h1, by omega, o1, hw, q⟩
      | both h h1 h2 =>
        cases ho with
        | both o1 o2 =>
          rename_i q1 q2 v1 v2
          have hh := lt_max (show max q1.hgt q2.hgt + 1 ≤ n + 1 from hh)
          refine ⟨_, rfl, rfl, _, rfl, word_ne (show (Str.ofString "both") ≠ Str.ofString "any" by decide +kernel) ?_⟩
          refine ⟨_, rfl, rfl, _, rfl, word_ne (show (Str.ofString "both") ≠ Str.ofString "has" by decide +kernel) ?_⟩
          refine ⟨_, rfl, rfl, _, rfl, word_ne (show (Str.ofString "both") ≠ Str.ofString "least" by decide +kernel) ?_⟩
          refine ⟨_, rfl, rfl, _, rfl, word_ne (show (Str.ofString "both") ≠ Str.ofString "not" by decide +kernel) ?_⟩
          refine ⟨_, rfl, rfl, _, rfl, word_eq ?_⟩
          refine ⟨_, rfl, _, _, rfl, .inr ⟨_, h, rfl⟩, rfl, _, rfl, iteT ?_⟩
          refine ⟨_, rfl, t, _, 1, _, rfl, rfl, h, rfl, _, rfl, _, _, rfl, rfl, ?_⟩
          refine ⟨q1, v1, ws, by show [v1, V.int (((n + 1 : Nat) : Int) - 1)] = _; rw [hd], h1, hh.1, o1, hw, fun H1 s1 => ⟨_, rfl, iteT ?_⟩⟩
          refine ⟨_, rfl, t, _, 2, _, rfl, rfl, Same.tseq s1 h, rfl, _, rfl, _, _, rfl, rfl, ?_⟩
          exact ⟨q2, v2, ws, by show [v2, V.int (((n + 1 : Nat) : Int) - 1)] = _; rw [hd], h2.kp (.of s1), hh.2, o2, hw, fun H2 s2 => q H2 (s1.trans s2)⟩
      | either h h1 h2 =>
        cases ho with
        | either o1 o2 =>
          rename_i q1 q2 v1 v2
          have hh := lt_max (show max q1.hgt q2.hgt + 1 ≤ n + 1 from hh)
          refine ⟨_, rfl, rfl, _, rfl, word_ne (show (Str.ofString "either") ≠ Str.ofString "any" by decide +kernel) ?_⟩
          refine ⟨_, rfl, rfl, _, rfl, word_ne (show (Str.ofString "either") ≠ Str.ofString "has" by decide +kernel) ?_⟩
          refine ⟨_, rfl, rfl, _, rfl, word_ne (show (Str.ofString "either") ≠ Str.ofString "least" by decide +kernel) ?_⟩
          refine ⟨_, rfl, rfl, _, rfl, word_ne (show (Str.ofString "either") ≠ Str.ofString "not" by decide +kernel) ?_⟩
          refine ⟨_, rfl, rfl, _, rfl, word_ne (show (Str.ofString "either") ≠ Str.ofString "both" by decide +kernel) ?_⟩
          refine ⟨_, rfl, rfl, _, rfl, word_eq ?_⟩
          refine ⟨_, rfl, _, _, rfl, .inr ⟨_, h, rfl⟩, rfl, _, rfl, iteT ?_⟩
          refine ⟨_, rfl, t, _, 1, _, rfl, rfl, h, rfl, _, rfl, _, _, rfl, rfl, ?_⟩
          refine ⟨q1, v1, ws, by show [v1, V.int (((n + 1 : Nat) : Int) - 1)] = _; rw [hd], h1, hh.1, o1, hw, fun H1 s1 => ⟨_, rfl, iteT ?_⟩⟩
          refine ⟨_, rfl, t, _, 2, _, rfl, rfl, Same.tseq s1 h, rfl, _, rfl, _, _, rfl, rfl, ?_⟩
          exact ⟨q2, v2, ws, by show [v2, V.int (((n + 1 : Nat) : Int) - 1)] = _; rw [hd], h2.kp (.of s1), hh.2, o2, hw, fun H2 s2 => q H2 (s1.trans s2)⟩
end
theorem RuOk.mem {ws : List Str} : ∀ {r : Ru}, RuOk ws r → ∀ w ∈ r.words, w ∈ ws
  | _, .any, w, h => nomatch h
  | _, .has h, w, hw => by rw [List.mem_singleton.mp hw]; exact h
  | _, .least h _ _, w, hw => by rw [List.mem_singleton.mp hw]; exact h
  | _, .not h, w, hw => h.mem w hw
  | _, .both h g, w, hw => by
    rcases List.mem_append.mp hw with z | z
    · exact h.mem w z
    · exact g.mem w z
  | _, .either h g, w, hw => by
    rcases List.mem_append.mp hw with z | z
    · exact h.mem w z
    · exact g.mem w z
theorem RuOk.few {ws : List Str} {r : Ru} (h : RuOk ws r) : r.wset.length ≤ ws.length :=
  nd_le (dd_nd r.words [] List.nodup_nil) fun x hx => h.mem x (dd_mem hx)
def spIsRule (K : PySem.W.Frag) : Sp := fun vs H Q _ => ∃ (r : Ru) (rv : V) (ws : List Str), vs = [rv] ∧ RuAt K H r rv ∧ r.hgt ≤ 6 ∧ r.cnt ≤ 30 ∧ RuOk ws r ∧ (∀ w ∈ ws, Wd w) ∧ ws.length ≤ 3 ∧ ∀ H', Same H H' → Q (.bl true) H'
section
variable {P : Program} {w : World} {K : PySem.W.Frag} {mg : Str → Option Value} {base : Heap} {a : Adr}
theorem ok_is_rule (T : Txt K mg a) : FnOk P w K mg base CX0 10 a.is_rule a.fd_is_rule ["thing"] (spIsRule K) := by
  refine T.f_is_rule.ok sc_is_rule (fun vs H Q E h => ?_) (fun cdv A outer s H vs Q E hr h => ?_)
  · obtain ⟨r, rv, ws, rfl, _⟩ := h
    rfl
  · obtain ⟨r, rv, ws, rfl, hR, hh, hc, ho, hw, hl, q⟩ := h
    refine ⟨_, (pss_cons (ps_if (pt_not (pt_truthK K rfl (pe_call ((ok_has_form T 6).mono (by first | decide | omega)) hr rfl T.m_has_form T.f_has_form.kp T.b_has_form .nil pass0 (pa_cons (pv 0) (pa_cons (pe_globE T.c_DEEPEST_RULE rfl) pa_nil))) (fun _ => rfl))) (pss_one (ps_ret pe_bl)) pss_nil)
  (pss_one (ps_ret (pe_and (pe_cmpR op_le (pe_callB (call_lenK K rfl) (by rfl) T.n_len L2.boot_len (pa_cons (pe_call ((ok_all_within T 6).mono (by first | decide | omega)) hr rfl T.m_all_within T.f_all_within.kp T.b_all_within .nil pass0 (pa_cons (pv 0) pa_nil)) pa_nil)) (pe_globE T.c_MOST_RULES rfl) (nomark _)) (pe_one (pe_cmpR op_le (pe_callB (call_lenK K rfl) (by rfl) T.n_len L2.boot_len (pa_cons (pe_call ((ok_words_of T).mono (by first | decide | omega)) hr rfl T.m_words_of T.f_words_of.kp T.b_words_of .nil pass0 (pa_cons (pv 0) pa_nil)) pa_nil)) (pe_globE T.c_MOST_WORDS rfl) (nomark _))))))), ?_⟩
    refine ⟨_, rfl, r, rv, ws, rfl, hR, hh, ho, hw, fun H1 s1 => ⟨_, rfl, iteF ?_⟩⟩
    refine ⟨_, rfl, r, rv, rfl, hR.kp (.of s1), hh, Nat.le_refl _, fun l us H2 s2 hl2 hL2 hU2 => ?_⟩
    have hul : us.length = r.subs.length := (Paired.length hU2).symm
    unfold Ru.cnt at hc
    refine ⟨_, us.length, rfl, .inl ⟨_, SqL.of hL2, rfl⟩, _, _, rfl, rfl, _, rfl, iteD (fun _ => ?_) (fun h => absurd (by omega) h)⟩
    refine ⟨_, rfl, r, rv, rfl, hR.kp (.of (s1.trans s2)), hh, fun l3 ss H3 s3 hl3 hL3 hp _ => ?_⟩
    have hf := ho.few
    have hpl := hp.length_eq
    refine ⟨_, ss.length, rfl, .inl ⟨_, SqL.of hL3, by simp⟩, _, _, rfl, rfl, ?_⟩
    exact to_true (show ((ss.length : Nat) : Int) ≤ 3 by omega) (q H3 ((s1.trans s2).trans s3))
end
def spReadNum : Sp := fun vs H Q _ => ∃ n : Int, vs = [.str (numS n)] ∧ n.natAbs < 10 ^ 60 ∧ ∀ H', Same H H' → Q (.int n) H'
def spReadMark (K : PySem.W.Frag) : Sp := fun vs H Q _ => ∃ m : Str × Int, vs = [.str (mkS m)] ∧ Wd m.1 ∧ (-ten30 ≤ m.2 ∧ m.2 ≤ ten30) ∧ ∀ (b : Addr) H', Same H H' → SqT K H' b [.str m.1, .int m.2] → Q (.ref b) H'
def spParts (K : PySem.W.Frag) : Sp := fun vs H Q _ => ∃ ts : List Str, vs = [.str (listS ts)] ∧ (∀ t ∈ ts, Pt t) ∧ ts.length ≤ 10 ∧ ∀ (l : Addr) H', Same H H' → H' l = some (.lst (ts.map V.str)) → Q (.ref l) H'
theorem num_len61 {n : Int} (h : n.natAbs < 10 ^ 60) : (numS n).length ≤ 61 := int_len (by decide) h
theorem num_log60 {n : Int} (h : n.natAbs < 10 ^ 60) : n.natAbs.log2 < 1920 := log_lt (Nat.lt_of_lt_of_le h (by decide +kernel))
theorem pts_len : ∀ {ts : List Str}, (∀ t ∈ ts, Pt t) → lens ts ≤ 100 * ts.length
  | [], _ => Nat.le_refl _
  | t :: r, h => by
    have h1 := pts_len (ts := r) fun x hx => h x (List.mem_cons_of_mem _ hx)
    have h2 := (h t List.mem_cons_self).ln
    rw [lens_cons, List.length_cons]
    omega
theorem iteF' {A B : Prop} {b : Bool} (e : b = false) (h : B) : if b = true then A else B := by rw [e]; exact h
theorem iteT' {A B : Prop} {b : Bool} (e : b = true) (h : A) : if b = true then A else B := by rw [e]; exact h
section
variable {P : Program} {w : World} {K : PySem.W.Frag} {mg : Str → Option Value} {base : Heap} {a : Adr}
theorem ok_read_number (T : Txt K mg a) : FnOk P w K mg base CX0 2 a.read_number a.fd_read_number ["text"] spReadNum := by
  refine T.f_read_number.ok sc_read_number (fun vs H Q E h => ?_) (fun cdv A outer s H vs Q E hr h => ?_)
  · obtain ⟨n, rfl, _⟩ := h
    rfl
  · obtain ⟨n, rfl, hn, q⟩ := h
    refine ⟨_, (pss_cons (ps_set (i := 1) sc_read_number.nd rfl (by first | exact Or.inl rfl | exact Or.inr rfl) (pe_ifExp (pt_truthK K rfl (pe_bmK K rfl PySem.F.plainAttrs_str PySem.F.slot_str_startswith PySem.F.type_str_startswith mt_starts (pv 0) (pa_cons pe_str pa_nil)) (fun _ => rfl)) (pe_slice sl_str (pv 0) (po_some pe_int) po_none) (pv 0)))
  (pss_cons (ps_expr (pe_call ((ok_check_row T).mono (by first | decide | omega)) hr rfl T.m_check_row T.f_check_row.kp T.b_check_row .nil pass0 (pa_cons (pe_call ((ok_is_text_of T).mono (by first | decide | omega)) hr rfl T.m_is_text_of T.f_is_text_of.kp T.b_is_text_of .nil pass0 (pa_cons (pv 1) (pa_cons (pe_globE T.c_FIGURES rfl) (pa_cons (pe_globE T.c_MOST_FIGURES rfl) pa_nil)))) pa_nil)))
  (pss_cons (ps_set (i := 2) sc_read_number.nd rfl (by first | exact Or.inl rfl | exact Or.inr rfl) (pe_callTy call_intT (by rfl) T.n_int L2.boot_int (pa_cons (pv 0) pa_nil)))
  (pss_cons (ps_expr (pe_call ((ok_check_row T).mono (by first | decide | omega)) hr rfl T.m_check_row T.f_check_row.kp T.b_check_row .nil pass0 (pa_cons (pe_cmpR op_eq (pe_callTy call_strV (by rfl) T.n_str L2.boot_str (pa_cons (pv 2) pa_nil)) (pv 0) (nomark _)) pa_nil)))
  (pss_one (ps_ret (pv 2))))))), ?_⟩
    have hsl : (16777216 : Nat) = sizeLine := sizeLine_eq.symm
    have h61 := num_len61 hn
    have hrd := num_reads hn
    have rest : ∀ (v1 : Option V) H', Same H H' → tSeq (tAsg (tCB (fun xs H Q => ∃ z n, xs = [V.str z] ∧ PySem.intText? z = some n ∧ z.length ≤ 640 ∧ Q (V.int n) H) (tCons (tVar 0) tNil)) (gName 2))
        (tSeq (tDrop (tCall spCheck [] E0 (tCons (tOp rEq (tCB (fun xs H Q => (∃ i, xs = [V.int i] ∧ i.natAbs.log2 < 1920 ∧ Q (V.str (Str.ofString (toString i))) H) ∨ ∃ z, xs = [V.str z] ∧ Q (V.str z) H) (tCons (tVar 2) tNil)) (tVar 0)) tNil))) (tRet (tVar 2)))
        { nx := fun x H' => Q V.non H', rt := Q } [some (.str (numS n)), v1, none] H' := by
      intro v1 H' s'
      refine ⟨_, rfl, _, n, rfl, hrd, by omega, gName_ ?_⟩
      refine ⟨_, rfl, .inl ⟨n, rfl, num_log60 hn, _, rfl, rfl, ?_⟩⟩
      refine ⟨?_, _, rfl, q H' s'⟩
      show [V.bl (decide (V.str (numS n) = V.str (numS n)))] = _
      rw [decide_eq_true rfl]
    cases n with
    | ofNat m =>
      refine ⟨_, rfl, rfl, _, _, rfl, rfl, _, rfl, iteF' (starts_nat m) ⟨_, rfl, ?_⟩⟩
      refine gName_ ⟨_, rfl, _, _, 60, rfl, num_only hn, by decide, fun H1 s1 => ⟨rfl, ?_⟩⟩
      exact rest _ H1 s1
    | negSucc m =>
      refine ⟨_, rfl, rfl, _, _, rfl, rfl, _, rfl, iteT' (starts_neg m) ⟨_, rfl, _, rfl, _, rfl, le_size (Nat.le_trans h61 (by decide)), ?_⟩⟩
      rw [slice_neg]
      refine gName_ ⟨_, rfl, _, _, 60, rfl, num_only (m := m + 1) hn, by decide, fun H1 s1 => ⟨rfl, ?_⟩⟩
      exact rest _ H1 s1
theorem ok_read_mark (T : Txt K mg a) : FnOk P w K mg base CX0 3 a.read_mark a.fd_read_mark ["text"] (spReadMark K) := by
  refine T.f_read_mark.ok sc_read_mark (fun vs H Q E h => ?_) (fun cdv A outer s H vs Q E hr h => ?_)
  · obtain ⟨m, rfl, _⟩ := h
    rfl
  · obtain ⟨m, rfl, hw, hn, q⟩ := h
    refine ⟨_, (pss_cons (ps_set (i := 1) sc_read_mark.nd rfl (by first | exact Or.inl rfl | exact Or.inr rfl) (pe_bmK K rfl PySem.F.plainAttrs_str PySem.F.slot_str_partition PySem.F.type_str_partition mt_part (pv 0) (pa_cons pe_str pa_nil)))
  (pss_one (ps_ret (pe_tup (pa_cons (pe_ix (ix_tupK K rfl) (pv 1) pe_int (fun _ _ => rfl)) (pa_cons (pe_call ((ok_read_number T).mono (by first | decide | omega)) hr rfl T.m_read_number T.f_read_number.kp T.b_read_number .nil pass0 (pa_cons (pe_ix (ix_tupK K rfl) (pv 1) pe_int (fun _ _ => rfl)) pa_nil)) pa_nil)))))), ?_⟩
    have hln := (mk_pt hw hn).ln
    have hp := part_join (a := m.1) (b := numS m.2) eq_sign (hw.free (by decide))
    refine ⟨_, rfl, rfl, _, _, _, _, _, rfl, rfl, by decide +kernel, by omega, hp, fun l hl => gName_ ?_⟩
    have hL : upd H l (.tup [.str m.1, .str "=", .str (numS m.2)]) l = some (.tup [.str m.1, .str "=", .str (numS m.2)]) := upd_same
    have s0 := same_new (o := .tup [.str m.1, .str "=", .str (numS m.2)]) (Same.refl H) hl
    refine ⟨_, rfl, l, _, 0, _, rfl, rfl, SqT.of hL, rfl, _, rfl, l, _, 2, _, rfl, rfl, SqT.of hL, rfl, m.2, rfl, ten30_abs hn, fun H1 s1 => ?_⟩
    refine ⟨le_size (show _ ≤ 65536 by simp), fun b hb => ?_⟩
    exact q b _ (same_new (s0.trans s1) hb) (SqT.of upd_same)
theorem ok_parts_of (T : Txt K mg a) : FnOk P w K mg base CX0 1 a.parts_of a.fd_parts_of ["text"] (spParts K) := by
  refine T.f_parts_of.ok sc_parts_of (fun vs H Q E h => ?_) (fun cdv A outer s H vs Q E hr h => ?_)
  · obtain ⟨ts, rfl, _⟩ := h
    rfl
  · obtain ⟨ts, rfl, hp, hl, q⟩ := h
    refine ⟨_, (pss_one (ps_ret (pe_ifExp (pt_cmpR op_eq (pv 0) pe_str (nomark _)) (pe_lst pa_nil) (pe_bmK K rfl PySem.F.plainAttrs_str PySem.F.slot_str_split PySem.F.type_str_split mt_split (pv 0) (pa_cons pe_str pa_nil))))), ?_⟩
    cases ts with
    | nil =>
      refine ⟨_, rfl, rfl, _, rfl, word_eq ?_⟩
      exact ⟨le_size (show _ ≤ 65536 by simp), fun l hl => q l _ (same_new (Same.refl _) hl) upd_same⟩
    | cons t r =>
      obtain ⟨c, cs, e, hc⟩ := (hp t List.mem_cons_self).hd
      obtain ⟨ds, e2⟩ := join_head (y := ",") (r := r) e
      refine ⟨_, rfl, rfl, _, rfl, word_ne (no_dash e2 hc) ?_⟩
      have hj := join_le "," (t :: r)
      have hls := pts_len hp
      rw [cm1] at hj
      refine ⟨_, rfl, rfl, _, _, t :: r, rfl, rfl, by decide +kernel, ?_, split_join cm_sign (fun z => nomatch z) (fun p hq => (hp p hq).fr), fun l hl => ?_⟩
      · show (Txt.join "," (t :: r)).length ≤ _
        omega
      · exact q l _ (same_new (Same.refl _) hl) upd_same
end
theorem pr_append {α β : Type} {R : α → β → Prop} : ∀ {a c : List α} {b d : List β}, Paired R a b → Paired R c d → Paired R (a ++ c) (b ++ d)
  | _, _, _, _, .nil, h => h
  | _, _, _, _, .cons r t, h => .cons r (pr_append t h)
def MkV (K : PySem.W.Frag) (H : Hp) (v : V) (m : Str × Int) : Prop := ∃ b, v = .ref b ∧ SqT K H b [.str m.1, .int m.2]
theorem mk_kp {K : PySem.W.Frag} {H H' : Hp} {vs : List V} {ms : List (Str × Int)} (e : Kp H H') (h : Paired (MkV K H) vs ms) : Paired (MkV K H') vs ms := paired_map (fun v m ⟨b, h1, h2⟩ => ⟨b, h1, e.tq h2⟩) h
theorem pair_at2 {α β : Type} {R : α → β → Prop} : ∀ {a : List α} {b : List β}, Paired R a b → ∀ (i : Nat) (m : β), b[i]? = some m → ∃ v, a[i]? = some v ∧ R v m
  | _, _, .nil, i, m, h => by simp at h
  | _, _, .cons r t, 0, m, h => by
    simp at h
    exact ⟨_, rfl, h ▸ r⟩
  | _, _, .cons r t, i + 1, m, h => by
    simp at h
    obtain ⟨v, h1, h2⟩ := pair_at2 t i m h
    exact ⟨v, by simpa using h1, h2⟩
theorem mk_at {K : PySem.W.Frag} {H : Hp} {a : Addr} {vs : List V} {ms : List (Str × Int)} (h : Paired (MkV K H) vs ms) (ht : SqT K H a vs) : MkAt K H ms (.ref a) :=
  ⟨a, vs, rfl, ht, pair_len h, fun i m hm => by
    obtain ⟨v, h1, b, rfl, h2⟩ := pair_at2 h i m hm
    exact ⟨b, h1, h2⟩⟩
def NsOk (l : List Int) : Prop := ∀ i ∈ l, 0 ≤ i ∧ i.natAbs < 10 ^ 60
def MsOk (l : List (Str × Int)) : Prop := ∀ m ∈ l, Wd m.1 ∧ -ten30 ≤ m.2 ∧ m.2 ≤ ten30
theorem w_abs {i : Int} (h : 1 ≤ i ∧ i ≤ ten30) : 0 ≤ i ∧ i.natAbs < 10 ^ 60 := ⟨by omega, ten30_abs ⟨by have := ten30_pos; omega, h.2⟩⟩
theorem ThOk.kinds {f : Str} {t : Th} (h : ThOk f t) :
    (∃ w, t = .s w ∧ (f = "word" ∨ f = "guest")) ∨ (∃ i, t = .n i ∧ i.natAbs < 10 ^ 60 ∧ (f = "count" ∨ f = "total")) ∨ (∃ l, t = .ws l ∧ (∀ w ∈ l, Wd w) ∧ l.length ≤ 10 ∧ (f = "arms" ∨ f = "shuts")) ∨
    (∃ l, t = .ns l ∧ NsOk l ∧ l.length ≤ 10 ∧ (f = "counts" ∨ f = "weights")) ∨ (∃ l, t = .ms l ∧ MsOk l ∧ l.length ≤ 10 ∧ f = "marks") := by
  cases h with
  | word _ => exact .inl ⟨_, rfl, .inl rfl⟩
  | guest _ => exact .inl ⟨_, rfl, .inr rfl⟩
  | count h1 h2 => exact .inr (.inl ⟨_, rfl, h2, .inl rfl⟩)
  | total h1 h2 => exact .inr (.inl ⟨_, rfl, Nat.lt_of_le_of_lt (show _ ≤ 1000 by omega) (by decide +kernel), .inr rfl⟩)
  | arms h1 _ _ h2 => exact .inr (.inr (.inl ⟨_, rfl, h1, by omega, .inl rfl⟩))
  | shuts h1 _ h2 => exact .inr (.inr (.inl ⟨_, rfl, h1, by omega, .inr rfl⟩))
  | counts h1 _ h2 => exact .inr (.inr (.inr (.inl ⟨_, rfl, h1, by omega, .inl rfl⟩)))
  | weights h1 _ h2 => exact .inr (.inr (.inr (.inl ⟨_, rfl, fun i hi => w_abs (h1 i hi), by omega, .inr rfl⟩)))
  | marks h1 _ h2 => exact .inr (.inr (.inr (.inr ⟨_, rfl, h1, by omega, rfl⟩)))
theorem ns_pt {l : List Int} (h : NsOk l) : ∀ t ∈ l.map numS, Pt t := fun t ht => by
  obtain ⟨i, hi, rfl⟩ := List.mem_map.mp ht
  exact num_pt (h i hi).1 (h i hi).2
theorem ms_pt {l : List (Str × Int)} (h : MsOk l) : ∀ t ∈ l.map mkS, Pt t := fun t ht => by
  obtain ⟨m, hm, rfl⟩ := List.mem_map.mp ht
  exact mk_pt (h m hm).1 (h m hm).2
theorem list_len : ∀ ts : List Str, (∀ t ∈ ts, Pt t) → ts.length ≤ 10 → (listS ts).length ≤ 1010 := fun ts hp hl => by
  cases ts with
  | nil => have : (Str.ofString "-").length = 1 := by decide +kernel
           show (Str.ofString "-").length ≤ 1010
           omega
  | cons t r =>
    show (Txt.join "," (t :: r)).length ≤ 1010
    have h2 := join_le "," (t :: r)
    have h3 := pts_len hp
    rw [cm1] at h2
    omega
theorem ThOk.len {f : Str} {t : Th} (h : ThOk f t) : t.txt.length ≤ 1010 := by
  have h0 := h
  rcases h.kinds with ⟨w, rfl, _⟩ | ⟨i, rfl, hi, _⟩ | ⟨l, rfl, hl, hn, _⟩ | ⟨l, rfl, hl, hn, _⟩ | ⟨l, rfl, hl, hn, _⟩
  · show w.length ≤ 1010
    cases h0 with
    | word hw => have := hw.hi; omega
    | guest hw => have := hw.hi; omega
  · exact Nat.le_trans (num_len61 hi) (by decide)
  · exact list_len l (fun w hw => (hl w hw).pt) hn
  · exact list_len _ (ns_pt hl) (by rw [List.length_map]; exact hn)
  · exact list_len _ (ms_pt hl) (by rw [List.length_map]; exact hn)
def spValue (K : PySem.W.Frag) : Sp := fun vs H Q _ => ∃ (f : Str) (t : Th), vs = [.str f, .str t.txt] ∧ ThOk f t ∧ ∀ v H', Same H H' → ThAt K H' t v → Q v H'
def spIsOf (K : PySem.W.Frag) : Sp := fun vs H Q _ => ∃ (f : Str) (t : Th) (v : V), vs = [.str f, v] ∧ ThOk f t ∧ ThAt K H t v ∧ ∀ H', Same H H' → Q (.bl true) H'
section
variable {P : Program} {w : World} {K : PySem.W.Frag} {mg : Str → Option Value} {base : Heap} {a : Adr}
theorem ok_value_of (T : Txt K mg a) : FnOk P w K mg base CX0 4 a.value_of a.fd_value_of ["form", "text"] (spValue K) := by
  refine T.f_value_of.ok sc_value_of (fun vs H Q E h => ?_) (fun cdv A outer s H vs Q E hr h => ?_)
  · obtain ⟨f, t, rfl, _⟩ := h
    rfl
  · obtain ⟨f, t, rfl, ho, q⟩ := h
    refine ⟨_, (pss_cons (ps_if (PW.pt (pw_or (pt_cmpR op_eq (pv 0) pe_str (nomark _)) (pw_or1 (pt_cmpR op_eq (pv 0) pe_str (nomark _))))) (pss_one (ps_ret (pe_call ((ok_read_number T).mono (by first | decide | omega)) hr rfl T.m_read_number T.f_read_number.kp T.b_read_number .nil pass0 (pa_cons (pv 1) pa_nil)))) pss_nil)
  (pss_cons (ps_if (PW.pt (pw_or (pt_cmpR op_eq (pv 0) pe_str (nomark _)) (pw_or1 (pt_cmpR op_eq (pv 0) pe_str (nomark _))))) (pss_one (ps_ret (pe_callTy (call_tupleK K rfl) (by rfl) T.n_tuple L2.boot_tuple (pa_cons (pe_call ((ok_parts_of T).mono (by first | decide | omega)) hr rfl T.m_parts_of T.f_parts_of.kp T.b_parts_of .nil pass0 (pa_cons (pv 1) pa_nil)) pa_nil)))) pss_nil)
  (pss_cons (ps_if (PW.pt (pw_or (pt_cmpR op_eq (pv 0) pe_str (nomark _)) (pw_or1 (pt_cmpR op_eq (pv 0) pe_str (nomark _))))) (pss_one (ps_ret (pe_callTy (call_tupleK K rfl) (by rfl) T.n_tuple L2.boot_tuple (pa_cons (comp_of ["form", "text"] ["part"] [] [2] (defScope s_value_of) rfl rfl rfl (by decide +kernel) (by decide +kernel) (gk_name 2)
    (pi_listK K rfl (pe_call ((ok_parts_of T).mono (by first | decide | omega)) hr rfl T.m_parts_of T.f_parts_of.kp T.b_parts_of .nil pass0 (pa_cons (pv 1) pa_nil))) (fun cl C s₀ H₀ ex => ⟨(pg_name (i := 2) (show List.Nodup ((["form", "text"] : List PySem.Str) ++ (["part"] : List PySem.Str)) by decide +kernel) rfl (by first | exact Or.inl rfl | exact Or.inr rfl)), pts_nil, (pe_call ((ok_read_number T).mono (by first | decide | omega)) hr rfl T.m_read_number T.f_read_number.kp T.b_read_number .nil pass0 (pa_cons (pv 2) pa_nil))⟩)) pa_nil)))) pss_nil)
  (pss_cons (ps_if (pt_cmpR op_eq (pv 0) pe_str (nomark _)) (pss_one (ps_ret (pe_callTy (call_tupleK K rfl) (by rfl) T.n_tuple L2.boot_tuple (pa_cons (comp_of ["form", "text"] ["part"] [] [2] (defScope s_value_of) rfl rfl rfl (by decide +kernel) (by decide +kernel) (gk_name 2)
    (pi_listK K rfl (pe_call ((ok_parts_of T).mono (by first | decide | omega)) hr rfl T.m_parts_of T.f_parts_of.kp T.b_parts_of .nil pass0 (pa_cons (pv 1) pa_nil))) (fun cl C s₀ H₀ ex => ⟨(pg_name (i := 2) (show List.Nodup ((["form", "text"] : List PySem.Str) ++ (["part"] : List PySem.Str)) by decide +kernel) rfl (by first | exact Or.inl rfl | exact Or.inr rfl)), pts_nil, (pe_call ((ok_read_mark T).mono (by first | decide | omega)) hr rfl T.m_read_mark T.f_read_mark.kp T.b_read_mark .nil pass0 (pa_cons (pv 2) pa_nil))⟩)) pa_nil)))) pss_nil)
  (pss_one (ps_ret (pv 1))))))), ?_⟩
    rcases ho.kinds with ⟨w, rfl, hf⟩ | ⟨i, rfl, hi, hf⟩ | ⟨l, rfl, hl, hn, hf⟩ | ⟨l, rfl, hl, hn, hf⟩ | ⟨l, rfl, hl, hn, rfl⟩
    · rcases hf with rfl | rfl
      · refine ⟨_, rfl, rfl, _, rfl, word_ne (show (Str.ofString "word") ≠ Str.ofString "count" by decide +kernel) ⟨_, rfl, rfl, _, rfl, word_ne (show (Str.ofString "word") ≠ Str.ofString "total" by decide +kernel) ?_⟩⟩
        refine ⟨_, rfl, rfl, _, rfl, word_ne (show (Str.ofString "word") ≠ Str.ofString "arms" by decide +kernel) ⟨_, rfl, rfl, _, rfl, word_ne (show (Str.ofString "word") ≠ Str.ofString "shuts" by decide +kernel) ?_⟩⟩
        refine ⟨_, rfl, rfl, _, rfl, word_ne (show (Str.ofString "word") ≠ Str.ofString "counts" by decide +kernel) ⟨_, rfl, rfl, _, rfl, word_ne (show (Str.ofString "word") ≠ Str.ofString "weights" by decide +kernel) ?_⟩⟩
        refine ⟨_, rfl, rfl, _, rfl, word_ne (show (Str.ofString "word") ≠ Str.ofString "marks" by decide +kernel) ?_⟩
        exact ⟨_, rfl, q (.str w) H (Same.refl _) rfl⟩
      · refine ⟨_, rfl, rfl, _, rfl, word_ne (show (Str.ofString "guest") ≠ Str.ofString "count" by decide +kernel) ⟨_, rfl, rfl, _, rfl, word_ne (show (Str.ofString "guest") ≠ Str.ofString "total" by decide +kernel) ?_⟩⟩
        refine ⟨_, rfl, rfl, _, rfl, word_ne (show (Str.ofString "guest") ≠ Str.ofString "arms" by decide +kernel) ⟨_, rfl, rfl, _, rfl, word_ne (show (Str.ofString "guest") ≠ Str.ofString "shuts" by decide +kernel) ?_⟩⟩
        refine ⟨_, rfl, rfl, _, rfl, word_ne (show (Str.ofString "guest") ≠ Str.ofString "counts" by decide +kernel) ⟨_, rfl, rfl, _, rfl, word_ne (show (Str.ofString "guest") ≠ Str.ofString "weights" by decide +kernel) ?_⟩⟩
        refine ⟨_, rfl, rfl, _, rfl, word_ne (show (Str.ofString "guest") ≠ Str.ofString "marks" by decide +kernel) ?_⟩
        exact ⟨_, rfl, q (.str w) H (Same.refl _) rfl⟩
    · refine ⟨_, rfl, rfl, _, rfl, (fun k => iteS (fun _ => k) (fun h1 => ⟨_, rfl, rfl, _, rfl, iteS (fun _ => k) (fun h2 => (hf.elim h1 h2).elim)⟩)) ?_⟩
      exact ⟨_, rfl, i, rfl, hi, fun H1 s1 => q (.int i) H1 s1 rfl⟩
    · refine ⟨_, rfl, rfl, _, rfl, iteS (fun e => absurd (hf.imp (·.symm.trans e) (·.symm.trans e)) (by decide +kernel)) (fun _ => ⟨_, rfl, rfl, _, rfl, iteS (fun e => absurd (hf.imp (·.symm.trans e) (·.symm.trans e)) (by decide +kernel)) (fun _ => ?_)⟩)⟩
      refine ⟨_, rfl, rfl, _, rfl, (fun k => iteS (fun _ => k) (fun h1 => ⟨_, rfl, rfl, _, rfl, iteS (fun _ => k) (fun h2 => (hf.elim h1 h2).elim)⟩)) ?_⟩
      refine ⟨_, rfl, l, rfl, fun w hw => (hl w hw).pt, hn, fun p H1 s1 hp => ?_⟩
      exact ⟨p, _, rfl, .inl ⟨SqL.of hp, fun t ht => q (.ref t) _ (same_new s1 ht) ⟨t, rfl, SqT.of upd_same⟩⟩⟩
    · refine ⟨_, rfl, rfl, _, rfl, iteS (fun e => absurd (hf.imp (·.symm.trans e) (·.symm.trans e)) (by decide +kernel)) (fun _ => ⟨_, rfl, rfl, _, rfl, iteS (fun e => absurd (hf.imp (·.symm.trans e) (·.symm.trans e)) (by decide +kernel)) (fun _ => ?_)⟩)⟩
      refine ⟨_, rfl, rfl, _, rfl, iteS (fun e => absurd (hf.imp (·.symm.trans e) (·.symm.trans e)) (by decide +kernel)) (fun _ => ⟨_, rfl, rfl, _, rfl, iteS (fun e => absurd (hf.imp (·.symm.trans e) (·.symm.trans e)) (by decide +kernel)) (fun _ => ?_)⟩)⟩
      refine ⟨_, rfl, rfl, _, rfl, (fun k => iteS (fun _ => k) (fun h1 => ⟨_, rfl, rfl, _, rfl, iteS (fun _ => k) (fun h2 => (hf.elim h1 h2).elim)⟩)) ?_⟩
      refine ⟨_, rfl, l.map numS, rfl, ns_pt hl, by rw [List.length_map]; exact hn, fun p H1 s1 hp => ?_⟩
      refine ⟨p, rfl, ⟨_, SqL.of hp⟩, fun D hD => ?_⟩
      refine comp_list (K := K) (a := p) (xs := (l.map numS).map V.str) (fun i acc H' => acc = (l.take i).map V.int ∧ Same H1 H' ∧ H' D = some (.lst acc)) ⟨by rw [List.take_zero]; rfl, same_new (Same.refl _) hD, upd_same⟩ (fun i acc H' _ h => SqL.of (h.2.1 _ _ hp)) ?_ ?_
      · rintro i v acc H2 hv ⟨rfl, s2, hD2⟩
        have hi := (List.getElem?_eq_some_iff.mp hv).1
        have hi2 : i < l.length := by simpa using hi
        obtain ⟨z', hz', rfl, _⟩ := map_get hv
        obtain ⟨z, hz, rfl, hm⟩ := map_get hz'
        refine gName_ (yes_ (iteT ⟨_, rfl, z, rfl, (hl z hm).2, fun H3 s3 => ⟨s3 _ _ hD2, ?_, lf hi ⟨?_, same_upd (s2.trans s3) hD, upd_same⟩⟩⟩))
        · rw [List.length_map, List.length_take, sizeLine_eq]; omega
        · rw [take_map hz]
      · rintro acc H2 ⟨rfl, s2, hD2⟩
        rw [List.take_of_length_le (by simp)] at hD2
        exact ⟨D, _, rfl, .inl ⟨SqL.of hD2, fun t ht => q (.ref t) _ (same_new (s1.trans s2) ht) ⟨t, rfl, SqT.of upd_same⟩⟩⟩
    · refine ⟨_, rfl, rfl, _, rfl, word_ne (show (Str.ofString "marks") ≠ Str.ofString "count" by decide +kernel) ⟨_, rfl, rfl, _, rfl, word_ne (show (Str.ofString "marks") ≠ Str.ofString "total" by decide +kernel) ?_⟩⟩
      refine ⟨_, rfl, rfl, _, rfl, word_ne (show (Str.ofString "marks") ≠ Str.ofString "arms" by decide +kernel) ⟨_, rfl, rfl, _, rfl, word_ne (show (Str.ofString "marks") ≠ Str.ofString "shuts" by decide +kernel) ?_⟩⟩
      refine ⟨_, rfl, rfl, _, rfl, word_ne (show (Str.ofString "marks") ≠ Str.ofString "counts" by decide +kernel) ⟨_, rfl, rfl, _, rfl, word_ne (show (Str.ofString "marks") ≠ Str.ofString "weights" by decide +kernel) ?_⟩⟩
      refine ⟨_, rfl, rfl, _, rfl, word_eq ?_⟩
      refine ⟨_, rfl, l.map mkS, rfl, ms_pt hl, by rw [List.length_map]; exact hn, fun p H1 s1 hp => ?_⟩
      refine ⟨p, rfl, ⟨_, SqL.of hp⟩, fun D hD => ?_⟩
      refine comp_list (K := K) (a := p) (xs := (l.map mkS).map V.str) (fun i acc H' => Paired (MkV K H') acc (l.take i) ∧ Same H1 H' ∧ H' D = some (.lst acc)) ⟨.nil, same_new (Same.refl _) hD, upd_same⟩ (fun i acc H' _ h => SqL.of (h.2.1 _ _ hp)) ?_ ?_
      · rintro i v acc H2 hv ⟨hP, s2, hD2⟩
        have hi := (List.getElem?_eq_some_iff.mp hv).1
        have hi2 : i < l.length := by simpa using hi
        obtain ⟨z', hz', rfl, _⟩ := map_get hv
        obtain ⟨m, hz, rfl, hm⟩ := map_get hz'
        refine gName_ (yes_ (iteT ⟨_, rfl, m, rfl, (hl m hm).1, (hl m hm).2, fun b H3 s3 hb => ⟨s3 _ _ hD2, ?_, lf hi ⟨?_, same_upd (s2.trans s3) hD, upd_same⟩⟩⟩))
        · rw [pair_len hP, List.length_take, sizeLine_eq]; omega
        · rw [List.take_add_one, hz]
          exact mk_kp (.lst (s3 _ _ hD2)) (pr_append (mk_kp (.of s3) hP) (.cons ⟨b, rfl, hb⟩ .nil))
      · rintro acc H2 ⟨hP, s2, hD2⟩
        rw [List.take_of_length_le (by simp)] at hP
        exact ⟨D, _, rfl, .inl ⟨SqL.of hD2, fun t ht => q (.ref t) _ (same_new (s1.trans s2) ht) (mk_at (mk_kp (.new ht) hP) (SqT.of upd_same))⟩⟩
end
section
variable {P : Program} {w : World} {K : PySem.W.Frag} {mg : Str → Option Value} {base : Heap} {a : Adr}
theorem ok_is_of (T : Txt K mg a) : FnOk P w K mg base CX0 5 a.is_of a.fd_is_of ["form", "thing"] (spIsOf K) := by
  refine T.f_is_of.ok sc_is_of (fun vs H Q E h => ?_) (fun cdv A outer s H vs Q E hr h => ?_)
  · obtain ⟨f, t, v, rfl, _⟩ := h
    rfl
  · obtain ⟨f, t, v, rfl, ho, hv, q⟩ := h
    refine ⟨_, (pss_cons (ps_if (pt_cmpR op_eq (pv 0) pe_str (nomark _)) (pss_one (ps_ret (pe_call ((ok_is_word T).mono (by first | decide | omega)) hr rfl T.m_is_word T.f_is_word.kp T.b_is_word .nil pass0 (pa_cons (pv 1) pa_nil)))) pss_nil)
  (pss_cons (ps_if (pt_cmpR op_eq (pv 0) pe_str (nomark _)) (pss_one (ps_ret (pe_call ((ok_is_guest T).mono (by first | decide | omega)) hr rfl T.m_is_guest T.f_is_guest.kp T.b_is_guest .nil pass0 (pa_cons (pv 1) pa_nil)))) pss_nil)
  (pss_cons (ps_if (pt_cmpR op_eq (pv 0) pe_str (nomark _)) (pss_one (ps_ret (pe_call ((ok_is_count T).mono (by first | decide | omega)) hr rfl T.m_is_count T.f_is_count.kp T.b_is_count .nil pass0 (pa_cons (pv 1) pa_nil)))) pss_nil)
  (pss_cons (ps_if (pt_cmpR op_eq (pv 0) pe_str (nomark _)) (pss_one (ps_ret (pe_call ((ok_is_total T).mono (by first | decide | omega)) hr rfl T.m_is_total T.f_is_total.kp T.b_is_total .nil pass0 (pa_cons (pv 1) pa_nil)))) pss_nil)
  (pss_cons (ps_if (pt_cmpR op_eq (pv 0) pe_str (nomark _)) (pss_one (ps_ret (pe_call ((ok_are_arms T).mono (by first | decide | omega)) hr rfl T.m_are_arms T.f_are_arms.kp T.b_are_arms .nil pass0 (pa_cons (pv 1) pa_nil)))) pss_nil)
  (pss_cons (ps_if (pt_cmpR op_eq (pv 0) pe_str (nomark _)) (pss_one (ps_ret (pe_call ((ok_are_shuts T).mono (by first | decide | omega)) hr rfl T.m_are_shuts T.f_are_shuts.kp T.b_are_shuts .nil pass0 (pa_cons (pv 1) pa_nil)))) pss_nil)
  (pss_cons (ps_if (pt_cmpR op_eq (pv 0) pe_str (nomark _)) (pss_one (ps_ret (pe_call ((ok_are_marks T).mono (by first | decide | omega)) hr rfl T.m_are_marks T.f_are_marks.kp T.b_are_marks .nil pass0 (pa_cons (pv 1) pa_nil)))) pss_nil)
  (pss_cons (ps_if (pt_not (pt_chain op_le op_le pe_int (pe_callB (call_lenK K rfl) (by rfl) T.n_len L2.boot_len (pa_cons (pv 1) pa_nil)) (pe_globE T.c_MOST_ARMS rfl))) (pss_one (ps_ret pe_bl)) pss_nil)
  (pss_one (ps_ret (pe_ifExp (pt_cmpR op_eq (pv 0) pe_str (nomark _)) (pe_call ((ok_are_counts T).mono (by first | decide | omega)) hr rfl T.m_are_counts T.f_are_counts.kp T.b_are_counts .nil pass0 (pa_cons (pv 1) (pa_cons (pe_callB (call_lenK K rfl) (by rfl) T.n_len L2.boot_len (pa_cons (pv 1) pa_nil)) pa_nil))) (pe_call ((ok_are_weights T).mono (by first | decide | omega)) hr rfl T.m_are_weights T.f_are_weights.kp T.b_are_weights .nil pass0 (pa_cons (pv 1) (pa_cons (pe_callB (call_lenK K rfl) (by rfl) T.n_len L2.boot_len (pa_cons (pv 1) pa_nil)) pa_nil)))))))))))))), ?_⟩
    cases ho with
    | word h1 =>
      cases hv
      refine ⟨_, rfl, rfl, _, rfl, word_eq ?_⟩
      exact ⟨_, rfl, _, rfl, h1, q⟩
    | guest h1 =>
      cases hv
      refine ⟨_, rfl, rfl, _, rfl, word_ne (show (Str.ofString "guest") ≠ Str.ofString "word" by decide +kernel) ?_⟩
      refine ⟨_, rfl, rfl, _, rfl, word_eq ?_⟩
      exact ⟨_, rfl, _, rfl, h1, q⟩
    | count h1 h2 =>
      cases hv
      refine ⟨_, rfl, rfl, _, rfl, word_ne (show (Str.ofString "count") ≠ Str.ofString "word" by decide +kernel) ?_⟩
      refine ⟨_, rfl, rfl, _, rfl, word_ne (show (Str.ofString "count") ≠ Str.ofString "guest" by decide +kernel) ?_⟩
      refine ⟨_, rfl, rfl, _, rfl, word_eq ?_⟩
      exact ⟨_, rfl, _, rfl, h1, q H (Same.refl _)⟩
    | total h1 h2 =>
      cases hv
      refine ⟨_, rfl, rfl, _, rfl, word_ne (show (Str.ofString "total") ≠ Str.ofString "word" by decide +kernel) ?_⟩
      refine ⟨_, rfl, rfl, _, rfl, word_ne (show (Str.ofString "total") ≠ Str.ofString "guest" by decide +kernel) ?_⟩
      refine ⟨_, rfl, rfl, _, rfl, word_ne (show (Str.ofString "total") ≠ Str.ofString "count" by decide +kernel) ?_⟩
      refine ⟨_, rfl, rfl, _, rfl, word_eq ?_⟩
      exact ⟨_, rfl, _, rfl, ⟨h1, h2⟩, q H (Same.refl _)⟩
    | arms h1 h2 h3 h4 =>
      obtain ⟨p, rfl, hT⟩ := hv
      refine ⟨_, rfl, rfl, _, rfl, word_ne (show (Str.ofString "arms") ≠ Str.ofString "word" by decide +kernel) ?_⟩
      refine ⟨_, rfl, rfl, _, rfl, word_ne (show (Str.ofString "arms") ≠ Str.ofString "guest" by decide +kernel) ?_⟩
      refine ⟨_, rfl, rfl, _, rfl, word_ne (show (Str.ofString "arms") ≠ Str.ofString "count" by decide +kernel) ?_⟩
      refine ⟨_, rfl, rfl, _, rfl, word_ne (show (Str.ofString "arms") ≠ Str.ofString "total" by decide +kernel) ?_⟩
      refine ⟨_, rfl, rfl, _, rfl, word_eq ?_⟩
      exact ⟨_, rfl, p, _, rfl, hT, h1, h2, h3, h4, q⟩
    | shuts h1 h2 h3 =>
      obtain ⟨p, rfl, hT⟩ := hv
      refine ⟨_, rfl, rfl, _, rfl, word_ne (show (Str.ofString "shuts") ≠ Str.ofString "word" by decide +kernel) ?_⟩
      refine ⟨_, rfl, rfl, _, rfl, word_ne (show (Str.ofString "shuts") ≠ Str.ofString "guest" by decide +kernel) ?_⟩
      refine ⟨_, rfl, rfl, _, rfl, word_ne (show (Str.ofString "shuts") ≠ Str.ofString "count" by decide +kernel) ?_⟩
      refine ⟨_, rfl, rfl, _, rfl, word_ne (show (Str.ofString "shuts") ≠ Str.ofString "total" by decide +kernel) ?_⟩
      refine ⟨_, rfl, rfl, _, rfl, word_ne (show (Str.ofString "shuts") ≠ Str.ofString "arms" by decide +kernel) ?_⟩
      refine ⟨_, rfl, rfl, _, rfl, word_eq ?_⟩
      exact ⟨_, rfl, p, _, rfl, hT, h1, h2, h3, q⟩
    | counts h1 h2 h3 =>
      obtain ⟨p, rfl, hT⟩ := hv
      refine ⟨_, rfl, rfl, _, rfl, word_ne (show (Str.ofString "counts") ≠ Str.ofString "word" by decide +kernel) ?_⟩
      refine ⟨_, rfl, rfl, _, rfl, word_ne (show (Str.ofString "counts") ≠ Str.ofString "guest" by decide +kernel) ?_⟩
      refine ⟨_, rfl, rfl, _, rfl, word_ne (show (Str.ofString "counts") ≠ Str.ofString "count" by decide +kernel) ?_⟩
      refine ⟨_, rfl, rfl, _, rfl, word_ne (show (Str.ofString "counts") ≠ Str.ofString "total" by decide +kernel) ?_⟩
      refine ⟨_, rfl, rfl, _, rfl, word_ne (show (Str.ofString "counts") ≠ Str.ofString "arms" by decide +kernel) ?_⟩
      refine ⟨_, rfl, rfl, _, rfl, word_ne (show (Str.ofString "counts") ≠ Str.ofString "shuts" by decide +kernel) ?_⟩
      refine ⟨_, rfl, rfl, _, rfl, word_ne (show (Str.ofString "counts") ≠ Str.ofString "marks" by decide +kernel) ?_⟩
      rename_i l
      have hll : l.length = (l.map V.int).length := by simp
      refine ⟨_, rfl, _, l.length, rfl, .inr ⟨_, hT, hll⟩, _, _, rfl, rfl, _, rfl, iteD (fun _ => ?_) (fun h => absurd (by omega) h)⟩
      refine ⟨_, _, rfl, rfl, _, rfl, ?_⟩
      show if (!decide ((l.length : Int) ≤ 4)) = true then _ else _
      rw [decide_eq_true (show (l.length : Int) ≤ 4 by omega)]
      refine iteF ?_
      refine ⟨_, rfl, rfl, _, rfl, word_eq ?_⟩
      exact ⟨_, rfl, _, rfl, _, l.length, rfl, .inr ⟨_, hT, hll⟩, p, l, rfl, hT, fun i hi => (h1 i hi).1, by omega, q⟩
    | weights h1 h2 h3 =>
      obtain ⟨p, rfl, hT⟩ := hv
      refine ⟨_, rfl, rfl, _, rfl, word_ne (show (Str.ofString "weights") ≠ Str.ofString "word" by decide +kernel) ?_⟩
      refine ⟨_, rfl, rfl, _, rfl, word_ne (show (Str.ofString "weights") ≠ Str.ofString "guest" by decide +kernel) ?_⟩
      refine ⟨_, rfl, rfl, _, rfl, word_ne (show (Str.ofString "weights") ≠ Str.ofString "count" by decide +kernel) ?_⟩
      refine ⟨_, rfl, rfl, _, rfl, word_ne (show (Str.ofString "weights") ≠ Str.ofString "total" by decide +kernel) ?_⟩
      refine ⟨_, rfl, rfl, _, rfl, word_ne (show (Str.ofString "weights") ≠ Str.ofString "arms" by decide +kernel) ?_⟩
      refine ⟨_, rfl, rfl, _, rfl, word_ne (show (Str.ofString "weights") ≠ Str.ofString "shuts" by decide +kernel) ?_⟩
      refine ⟨_, rfl, rfl, _, rfl, word_ne (show (Str.ofString "weights") ≠ Str.ofString "marks" by decide +kernel) ?_⟩
      rename_i l
      have hll : l.length = (l.map V.int).length := by simp
      refine ⟨_, rfl, _, l.length, rfl, .inr ⟨_, hT, hll⟩, _, _, rfl, rfl, _, rfl, iteD (fun _ => ?_) (fun h => absurd (by omega) h)⟩
      refine ⟨_, _, rfl, rfl, _, rfl, ?_⟩
      show if (!decide ((l.length : Int) ≤ 4)) = true then _ else _
      rw [decide_eq_true (show (l.length : Int) ≤ 4 by omega)]
      refine iteF ?_
      refine ⟨_, rfl, rfl, _, rfl, word_ne (show (Str.ofString "weights") ≠ Str.ofString "counts" by decide +kernel) ?_⟩
      exact ⟨_, rfl, _, rfl, _, l.length, rfl, .inr ⟨_, hT, hll⟩, p, l, rfl, hT, h1, by omega, q⟩
    | marks h1 h2 h3 =>
      have hv : MkAt K H _ v := hv
      refine ⟨_, rfl, rfl, _, rfl, word_ne (show (Str.ofString "marks") ≠ Str.ofString "word" by decide +kernel) ?_⟩
      refine ⟨_, rfl, rfl, _, rfl, word_ne (show (Str.ofString "marks") ≠ Str.ofString "guest" by decide +kernel) ?_⟩
      refine ⟨_, rfl, rfl, _, rfl, word_ne (show (Str.ofString "marks") ≠ Str.ofString "count" by decide +kernel) ?_⟩
      refine ⟨_, rfl, rfl, _, rfl, word_ne (show (Str.ofString "marks") ≠ Str.ofString "total" by decide +kernel) ?_⟩
      refine ⟨_, rfl, rfl, _, rfl, word_ne (show (Str.ofString "marks") ≠ Str.ofString "arms" by decide +kernel) ?_⟩
      refine ⟨_, rfl, rfl, _, rfl, word_ne (show (Str.ofString "marks") ≠ Str.ofString "shuts" by decide +kernel) ?_⟩
      refine ⟨_, rfl, rfl, _, rfl, word_eq ?_⟩
      exact ⟨_, rfl, v, _, rfl, hv, h1, h2, h3, q⟩
theorem ok_read_thing (T : Txt K mg a) : FnOk P w K mg base CX0 6 a.read_thing a.fd_read_thing ["form", "text"] (spValue K) := by
  refine T.f_read_thing.ok sc_read_thing (fun vs H Q E h => ?_) (fun cdv A outer s H vs Q E hr h => ?_)
  · obtain ⟨f, t, rfl, _⟩ := h
    rfl
  · obtain ⟨f, t, rfl, ho, q⟩ := h
    refine ⟨_, (pss_cons (ps_set (i := 2) sc_read_thing.nd rfl (by first | exact Or.inl rfl | exact Or.inr rfl) (pe_call ((ok_value_of T).mono (by first | decide | omega)) hr rfl T.m_value_of T.f_value_of.kp T.b_value_of .nil pass0 (pa_cons (pv 0) (pa_cons (pv 1) pa_nil))))
  (pss_cons (ps_expr (pe_call ((ok_check_row T).mono (by first | decide | omega)) hr rfl T.m_check_row T.f_check_row.kp T.b_check_row .nil pass0 (pa_cons (pe_call ((ok_is_of T).mono (by first | decide | omega)) hr rfl T.m_is_of T.f_is_of.kp T.b_is_of .nil pass0 (pa_cons (pv 0) (pa_cons (pv 2) pa_nil))) pa_nil)))
  (pss_one (ps_ret (pv 2))))), ?_⟩
    refine ⟨_, rfl, _, rfl, f, t, rfl, ho, fun v H1 s1 hv => gName_ ?_⟩
    exact ⟨_, rfl, _, rfl, f, t, v, rfl, ho, hv, fun H2 s2 => ⟨rfl, _, rfl, q v H2 (s1.trans s2) (hv.kp (.of s2))⟩⟩
end
def spReadThings (K : PySem.W.Frag) : Sp := fun vs H Q _ => ∃ (ft wl : Addr) (fs : List Str) (ths : List Th), vs = [.ref ft, .ref wl] ∧ SqT K H ft (fs.map V.str) ∧ SqL K H wl ((ths.map Th.txt).map V.str) ∧ Paired ThOk fs ths ∧ ths.length ≤ 10 ∧
  ∀ (l : Addr) (us : List V) H', Same H H' → H' l = some (.lst us) → Paired (ThAt K H') ths us → Q (.ref l) H'
theorem ths_kp {K : PySem.W.Frag} {H H' : Hp} {ths : List Th} {vs : List V} (e : Kp H H') (h : Paired (ThAt K H) ths vs) : Paired (ThAt K H') ths vs := paired_map (fun _ _ h => h.kp e) h
section
variable {P : Program} {w : World} {K : PySem.W.Frag} {mg : Str → Option Value} {base : Heap} {a : Adr}
theorem ok_read_things (T : Txt K mg a) : FnOk P w K mg base CX0 7 a.read_things a.fd_read_things ["forms", "words"] (spReadThings K) := by
  refine T.f_read_things.ok sc_read_things (fun vs H Q E h => ?_) (fun cdv A outer s H vs Q E hr h => ?_)
  · obtain ⟨ft, wl, fs, ths, rfl, _⟩ := h
    rfl
  · obtain ⟨ft, wl, fs, ths, rfl, hF, hW, hP, hl, q⟩ := h
    have hPl := pair_len hP
    have e1 : fs.length = (fs.map V.str).length := by simp
    have e2 : ths.length = ((ths.map Th.txt).map V.str).length := by simp
    refine ⟨_, (pss_cons (ps_expr (pe_call ((ok_check_row T).mono (by first | decide | omega)) hr rfl T.m_check_row T.f_check_row.kp T.b_check_row .nil pass0 (pa_cons (pe_cmpR op_eq (pe_callB (call_lenK K rfl) (by rfl) T.n_len L2.boot_len (pa_cons (pv 1) pa_nil)) (pe_callB (call_lenK K rfl) (by rfl) T.n_len L2.boot_len (pa_cons (pv 0) pa_nil)) (nomark _)) pa_nil)))
  (pss_one (ps_ret (comp_of ["forms", "words"] ["form", "word"] [] [2, 3] (defScope s_read_things) rfl rfl rfl (by decide +kernel) (by decide +kernel) (gk_two _ 2 3)
    (pi_zip K rfl rfl T.n_zip (pa_cons (pv 0) (pa_cons (pv 1) pa_nil))) (fun cl C s₀ H₀ ex => ⟨(pg_tupK K rfl rfl (pgs_cons (pg_name (i := 2) (show List.Nodup ((["forms", "words"] : List PySem.Str) ++ (["form", "word"] : List PySem.Str)) by decide +kernel) rfl (by first | exact Or.inl rfl | exact Or.inr rfl)) (pgs_cons (pg_name (i := 3) (show List.Nodup ((["forms", "words"] : List PySem.Str) ++ (["form", "word"] : List PySem.Str)) by decide +kernel) rfl (by first | exact Or.inl rfl | exact Or.inr rfl)) pgs_nil))), pts_nil, (pe_call ((ok_read_thing T).mono (by first | decide | omega)) hr rfl T.m_read_thing T.f_read_thing.kp T.b_read_thing .nil pass0 (pa_cons (pv 2) (pa_cons (pv 3) pa_nil)))⟩))))), ?_⟩
    refine ⟨_, rfl, _, ths.length, rfl, .inl ⟨_, hW, e2⟩, _, rfl, _, fs.length, rfl, .inr ⟨_, hF, e1⟩, rfl, ?_⟩
    refine ⟨?_, ?_⟩
    · rw [hPl]
      show [V.bl (decide (V.int (ths.length : Nat) = V.int (ths.length : Nat)))] = _
      rw [decide_eq_true rfl]
    refine ⟨_, rfl, _, rfl, ft, wl, _, _, rfl, hF, hW, fun D hD => ?_⟩
    have sD : Same H (upd H D (.lst [])) := same_new (Same.refl _) hD
    refine comp_zip (K := K) (a := ft) (l := wl) (xs := fs.map V.str) (ys := (ths.map Th.txt).map V.str) (fun i acc H' => Paired (ThAt K H') (ths.take i) acc ∧ Same H H' ∧ H' D = some (.lst acc)) ⟨.nil, sD, upd_same⟩ (by rw [← e1, ← e2, hPl]) (fun i acc H' _ h => ⟨Same.tseq h.2.1 hF, h.2.1.seq hW⟩) ?_ ?_
    · rintro i x y acc H1 Tp hx hy ⟨hA, s1, hD1⟩ hTp
      have hi := (List.getElem?_eq_some_iff.mp hx).1
      obtain ⟨f, hf, rfl, _⟩ := map_get hx
      obtain ⟨y', hy', rfl, _⟩ := map_get hy
      obtain ⟨th, hth, rfl, _⟩ := map_get hy'
      obtain ⟨th', hth', hok⟩ := pair_at hP i f hf
      rw [hth] at hth'
      cases hth'
      have s2 := same_new (o := .tup [.str f, .str th.txt]) (Same.refl H1) hTp
      have hT2 : upd H1 Tp (.tup [.str f, .str th.txt]) Tp = some (.tup [.str f, .str th.txt]) := upd_same
      generalize upd H1 Tp (.tup [.str f, .str th.txt]) = H2 at s2 hT2 ⊢
      refine ⟨Tp, _, rfl, SqT.of hT2, rfl, _, _, rfl, gName_ ⟨_, _, rfl, gName_ ⟨rfl, yes_ (iteT ?_)⟩⟩⟩
      refine ⟨_, rfl, _, rfl, f, th, rfl, hok, fun v H3 s3 hv => ⟨(s2.trans s3) _ _ hD1, ?_, lf hi ⟨?_, same_upd (s1.trans (s2.trans s3)) hD, upd_same⟩⟩⟩
      · rw [← pair_len hA, List.length_take, sizeLine_eq]; omega
      · rw [List.take_add_one, hth]
        exact ths_kp (.lst ((s2.trans s3) _ _ hD1)) (pr_append (ths_kp (.of (s2.trans s3)) hA) (.cons hv .nil))
    · rintro acc H1 ⟨hA, s1, hD1⟩
      rw [List.take_of_length_le (by simp; omega)] at hA
      exact q D acc H1 s1 hD1 hA
end
def Ru.toks : Ru → List Str
  | .any => ["any"]
  | .has w => ["has", w]
  | .least w n => ["least", w, numS n]
  | .not q => "not" :: q.toks
  | .both q r => "both" :: (q.toks ++ r.toks)
  | .either q r => "either" :: (q.toks ++ r.toks)
theorem Ru.toks_ne (r : Ru) : r.toks ≠ [] := by cases r <;> exact fun z => nomatch z
theorem app_assoc3 (x y z : Str) : x ++ y ++ z = x ++ (y ++ z) := str_ext (by rw [signs_app, signs_app, signs_app, signs_app, List.append_assoc])
theorem join_app (z : Str) : ∀ {xs ys : List Str}, xs ≠ [] → ys ≠ [] → Txt.join z (xs ++ ys) = Txt.join z xs ++ (z ++ Txt.join z ys)
  | [], _, h, _ => absurd rfl h
  | [x], [], _, h => absurd rfl h
  | [x], y :: r, _, _ => by
    have e1 : Txt.join z ([x] ++ y :: r) = Str.join z ([x] ++ y :: r) := StrLaws.glued_eq_join _ _
    have e2 : Txt.join z (y :: r) = Str.join z (y :: r) := StrLaws.glued_eq_join _ _
    rw [e1, e2]
    show x ++ z ++ Str.join z (y :: r) = x ++ (z ++ Str.join z (y :: r))
    rw [app_assoc3]
  | x :: y :: r, ys, _, h => by
    have ih := join_app z (xs := y :: r) (ys := ys) (fun z => nomatch z) h
    have e1 : Txt.join z (x :: y :: r ++ ys) = Str.join z (x :: y :: r ++ ys) := StrLaws.glued_eq_join _ _
    have e2 : Txt.join z (x :: y :: r) = Str.join z (x :: y :: r) := StrLaws.glued_eq_join _ _
    have e3 : Txt.join z (y :: r ++ ys) = Str.join z (y :: r ++ ys) := StrLaws.glued_eq_join _ _
    have e4 : Txt.join z (y :: r) = Str.join z (y :: r) := StrLaws.glued_eq_join _ _
    rw [e3, e4] at ih
    rw [e1, e2]
    show x ++ z ++ Str.join z (y :: r ++ ys) = x ++ z ++ Str.join z (y :: r) ++ _
    rw [ih, app_assoc3 (x ++ z)]
theorem join_1 (z x : Str) {ys : List Str} (h : ys ≠ []) : Txt.join z (x :: ys) = x ++ (z ++ Txt.join z ys) := join_app z (xs := [x]) (fun z => nomatch z) h
theorem Ru.txt_toks : ∀ r : Ru, r.txt = Txt.join " " r.toks
  | .any => rfl
  | .has _ => rfl
  | .least _ _ => rfl
  | .not q => by
    show Txt.join " " ["not", q.txt] = Txt.join " " ("not" :: q.toks)
    rw [join_1 " " "not" (ys := [q.txt]) (by simp), join_1 _ _ q.toks_ne, ← q.txt_toks]
    rfl
  | .both q r => by
    show Txt.join " " ["both", q.txt, r.txt] = Txt.join " " ("both" :: (q.toks ++ r.toks))
    rw [join_1 " " "both" (ys := [q.txt, r.txt]) (by simp), join_1 " " q.txt (ys := [r.txt]) (by simp), join_1 _ _ (fun z => q.toks_ne (List.append_eq_nil_iff.mp z).1), join_app _ q.toks_ne r.toks_ne, ← q.txt_toks, ← r.txt_toks]
    rfl
  | .either q r => by
    show Txt.join " " ["either", q.txt, r.txt] = Txt.join " " ("either" :: (q.toks ++ r.toks))
    rw [join_1 " " "either" (ys := [q.txt, r.txt]) (by simp), join_1 " " q.txt (ys := [r.txt]) (by simp), join_1 _ _ (fun z => q.toks_ne (List.append_eq_nil_iff.mp z).1), join_app _ q.toks_ne r.toks_ne, ← q.txt_toks, ← r.txt_toks]
    rfl
theorem lit_free {x : Str} {c : Nat} (h : decide (c ∈ x.cps.toList) = false) : Free c x := fun z => by rw [decide_eq_true z] at h; cases h
theorem Ru.toks_free {ws : List Str} (hw : ∀ w ∈ ws, Wd w) : ∀ {r : Ru}, RuOk ws r → ∀ t ∈ r.toks, Free 32 t
  | _, .any, t, h => by
    rw [List.mem_singleton.mp h]; exact lit_free (by decide +kernel)
  | _, .has hm, t, h => by
    rcases List.mem_cons.mp h with rfl | h
    · exact lit_free (by decide +kernel)
    · rw [List.mem_singleton.mp h]; exact (hw _ hm).free (by decide)
  | _, .least hm _ _, t, h => by
    rcases List.mem_cons.mp h with rfl | h
    · exact lit_free (by decide +kernel)
    · rcases List.mem_cons.mp h with rfl | h
      · exact (hw _ hm).free (by decide)
      · rw [List.mem_singleton.mp h]; exact num_free (by decide) (by decide)
  | _, .not q, t, h => by
    rcases List.mem_cons.mp h with rfl | h
    · exact lit_free (by decide +kernel)
    · exact Ru.toks_free hw q t h
  | _, .both q r, t, h => by
    rcases List.mem_cons.mp h with rfl | h
    · exact lit_free (by decide +kernel)
    · rcases List.mem_append.mp h with h | h
      · exact Ru.toks_free hw q t h
      · exact Ru.toks_free hw r t h
  | _, .either q r, t, h => by
    rcases List.mem_cons.mp h with rfl | h
    · exact lit_free (by decide +kernel)
    · rcases List.mem_append.mp h with h | h
      · exact Ru.toks_free hw q t h
      · exact Ru.toks_free hw r t h
def Offl (l : Addr) (H H' : Hp) : Prop := ∀ b o, H b = some o → b ≠ l → H' b = some o
theorem Offl.refl (l : Addr) (H : Hp) : Offl l H H := fun _ _ e _ => e
theorem Offl.trans {l : Addr} {H H1 H2 : Hp} (a : Offl l H H1) (b : Offl l H1 H2) : Offl l H H2 := fun c o e n => b c o (a c o e n) n
theorem Offl.same {l : Addr} {H H1 H2 : Hp} (a : Offl l H H1) (b : Same H1 H2) : Offl l H H2 := fun c o e n => b c o (a c o e n)
theorem Offl.upd {l : Addr} {H : Hp} {o : HO} : Offl l H (upd H l o) := fun b o e n => by rw [upd_ne n]; exact e
theorem Offl.kp {l : Addr} {H H' : Hp} {xs : List V} (a : Offl l H H') (hl : H l = some (.lst xs)) : Kp H H' :=
  ⟨fun u xs h => a u _ h (fun z => by rw [z, hl] at h; cases h), fun u o ⟨o', h⟩ => ⟨o', a u _ h (fun z => by rw [z, hl] at h; cases h)⟩⟩
def spTakeWord : Sp := fun vs H Q _ => ∃ (l : Addr) (w : Str) (us : List V), vs = [.ref l] ∧ H l = some (.lst (.str w :: us)) ∧ us.length ≤ 1000 ∧ Q (.str w) (upd H l (.lst us))
def spTakeRule (K : PySem.W.Frag) (n : Nat) : Sp := fun vs H Q _ => ∃ (l : Addr) (r : Ru) (ws rest : List Str), vs = [.ref l, .int (n : Nat)] ∧ H l = some (.lst ((r.toks ++ rest).map V.str)) ∧ (r.toks ++ rest).length ≤ 1000 ∧ r.hgt ≤ n ∧ RuOk ws r ∧
  ∀ rv H', Offl l H H' → H' l = some (.lst (rest.map V.str)) → RuAt K H' r rv → Q rv H'
theorem deep_true {r : Ru} (h : r.deep = true) : [V.bl (inV (.str r.kind) [.str "not", .str "both", .str "either"])] = [V.bl true] := by rw [in_deep, h]
section
variable {P : Program} {w : World} {K : PySem.W.Frag} {mg : Str → Option Value} {base : Heap} {a : Adr}
theorem ok_take_word (T : Txt K mg a) : FnOk P w K mg base CX0 2 a.take_word a.fd_take_word ["words"] spTakeWord := by
  refine T.f_take_word.ok sc_take_word (fun vs H Q E h => ?_) (fun cdv A outer s H vs Q E hr h => ?_)
  · obtain ⟨l, wd, us, rfl, _⟩ := h
    rfl
  · obtain ⟨l, wd, us, rfl, hL, hn, q⟩ := h
    refine ⟨_, (pss_cons (ps_expr (pe_call ((ok_check_row T).mono (by first | decide | omega)) hr rfl T.m_check_row T.f_check_row.kp T.b_check_row .nil pass0 (pa_cons (pe_cmpR op_gt (pe_callB (call_lenK K rfl) (by rfl) T.n_len L2.boot_len (pa_cons (pv 0) pa_nil)) pe_int (nomark _)) pa_nil)))
  (pss_one (ps_ret (pe_bmK K rfl PySem.F.plainAttrs_list PySem.F.slot_list_pop PySem.F.type_list_pop mt_popAt (pv 0) (pa_cons pe_int pa_nil))))), ?_⟩
    refine ⟨_, rfl, _, us.length + 1, rfl, .inl ⟨_, SqL.of hL, rfl⟩, _, _, rfl, rfl, ⟨?_, ?_⟩⟩
    · show [V.bl (decide (((us.length + 1 : Nat) : Int) > 0))] = _
      rw [decide_eq_true (by omega)]
    · refine ⟨_, rfl, .inl ⟨rfl, _, SqL.of hL⟩, l, _, 0, 0, _, rfl, rfl, hL, by decide, by decide, ?_, rfl, q⟩
      show seqIndex? 0 (us.length + 1) = some 0
      unfold seqIndex?
      simp
theorem ok_take_rule (T : Txt K mg a) : ∀ n : Nat, FnOk P w K mg base CX0 (n + 3) a.take_rule a.fd_take_rule ["words", "depth"] (spTakeRule K n)
  | 0 => by
    refine T.f_take_rule.ok sc_take_rule (fun vs H Q E h => ?_) (fun cdv A outer s H vs Q E hr h => ?_)
    · obtain ⟨l, r, ws, rest, rfl, _⟩ := h
      rfl
    · obtain ⟨l, r, ws, rest, rfl, _, _, hh, _⟩ := h
      have := r.hgt_pos
      omega
  | n + 1 => by
    have ih := ok_take_rule T n
    refine T.f_take_rule.ok sc_take_rule (fun vs H Q E h => ?_) (fun cdv A outer s H vs Q E hr h => ?_)
    · obtain ⟨l, r, ws, rest, rfl, _⟩ := h
      rfl
    · obtain ⟨l, r, ws, rest, rfl, hL, hn, hh, ho, q⟩ := h
      refine ⟨_, (pss_cons (ps_expr (pe_call ((ok_check_row T).mono (by first | decide | omega)) hr rfl T.m_check_row T.f_check_row.kp T.b_check_row .nil pass0 (pa_cons (pe_cmpR op_gt (pv 1) pe_int (nomark _)) pa_nil)))
  (pss_cons (ps_set (i := 2) sc_take_rule.nd rfl (by first | exact Or.inl rfl | exact Or.inr rfl) (pe_call ((ok_take_word T).mono (by first | decide | omega)) hr rfl T.m_take_word T.f_take_word.kp T.b_take_word .nil pass0 (pa_cons (pv 0) pa_nil)))
  (pss_cons (ps_if (pt_cmpR op_eq (pv 2) pe_str (nomark _)) (pss_one (ps_ret (pe_tup (pa_cons (pv 2) pa_nil)))) pss_nil)
  (pss_cons (ps_if (pt_cmpR op_eq (pv 2) pe_str (nomark _)) (pss_one (ps_ret (pe_tup (pa_cons (pv 2) (pa_cons (pe_call ((ok_take_word T).mono (by first | decide | omega)) hr rfl T.m_take_word T.f_take_word.kp T.b_take_word .nil pass0 (pa_cons (pv 0) pa_nil)) pa_nil))))) pss_nil)
  (pss_cons (ps_if (pt_cmpR op_eq (pv 2) pe_str (nomark _)) (pss_cons (ps_set (i := 3) sc_take_rule.nd rfl (by first | exact Or.inl rfl | exact Or.inr rfl) (pe_call ((ok_take_word T).mono (by first | decide | omega)) hr rfl T.m_take_word T.f_take_word.kp T.b_take_word .nil pass0 (pa_cons (pv 0) pa_nil)))
  (pss_one (ps_ret (pe_tup (pa_cons (pv 2) (pa_cons (pv 3) (pa_cons (pe_call ((ok_read_number T).mono (by first | decide | omega)) hr rfl T.m_read_number T.f_read_number.kp T.b_read_number .nil pass0 (pa_cons (pe_call ((ok_take_word T).mono (by first | decide | omega)) hr rfl T.m_take_word T.f_take_word.kp T.b_take_word .nil pass0 (pa_cons (pv 0) pa_nil)) pa_nil)) pa_nil))))))) pss_nil)
  (pss_cons (ps_expr (pe_call ((ok_check_row T).mono (by first | decide | omega)) hr rfl T.m_check_row T.f_check_row.kp T.b_check_row .nil pass0 (pa_cons (pe_cmpR (op_inK K rfl) (pv 2) (pe_tup (pa_cons pe_str (pa_cons pe_str (pa_cons pe_str pa_nil)))) (by with_unfolding_all rfl)) pa_nil)))
  (pss_cons (ps_set (i := 4) sc_take_rule.nd rfl (by first | exact Or.inl rfl | exact Or.inr rfl) (pe_call ih hr rfl T.m_take_rule T.f_take_rule.kp T.b_take_rule .nil pass0 (pa_cons (pv 0) (pa_cons (pe_op op_sub (pv 1) pe_int) pa_nil))))
  (pss_cons (ps_if (pt_cmpR op_eq (pv 2) pe_str (nomark _)) (pss_one (ps_ret (pe_tup (pa_cons (pv 2) (pa_cons (pv 4) pa_nil))))) pss_nil)
  (pss_one (ps_ret (pe_tup (pa_cons (pv 2) (pa_cons (pv 4) (pa_cons (pe_call ih hr rfl T.m_take_rule T.f_take_rule.kp T.b_take_rule .nil pass0 (pa_cons (pv 0) (pa_cons (pe_op op_sub (pv 1) pe_int) pa_nil))) pa_nil)))))))))))))), ?_⟩
      have hd : ((n + 1 : Nat) : Int) - 1 = (n : Int) := by omega
      refine ⟨_, rfl, _, _, rfl, rfl, ⟨?_, ?_⟩⟩
      · show [V.bl (decide (((n + 1 : Nat) : Int) > 0))] = _
        rw [decide_eq_true (by omega)]
      have hk : ∃ us : List Str, (r.toks ++ rest) = r.kind :: us ∧ us.length ≤ 1000 := by
        cases r <;> exact ⟨_, rfl, by simp [Ru.toks] at hn ⊢; omega⟩
      obtain ⟨us, eu, hul⟩ := hk
      rw [eu, List.map_cons] at hL
      refine ⟨_, rfl, l, _, _, rfl, hL, by rw [List.length_map]; exact hul, gName_ ?_⟩
      have o1 : Offl l H (upd H l (.lst (us.map V.str))) := .upd
      have hL1 : upd H l (.lst (us.map V.str)) l = some (.lst (us.map V.str)) := upd_same
      generalize upd H l (.lst (us.map V.str)) = H1 at o1 hL1 ⊢
      cases ho with
      | any =>
        obtain rfl : us = rest := (List.cons.inj eu).2.symm
        refine ⟨_, rfl, rfl, _, rfl, word_eq ?_⟩
        refine ⟨_, rfl, le_size (show _ ≤ 65536 by simp), fun t ht => ?_⟩
        exact q _ _ (o1.same (same_new (Same.refl _) ht)) (by rw [upd_ne (ne_of_none hL1 ht)]; exact hL1) (.any (SqT.of upd_same))
      | has hm =>
        rename_i wd
        obtain rfl : us = wd :: rest := (List.cons.inj eu).2.symm
        refine ⟨_, rfl, rfl, _, rfl, word_ne (show (Str.ofString "has") ≠ Str.ofString "any" by decide +kernel) ?_⟩
        refine ⟨_, rfl, rfl, _, rfl, word_eq ?_⟩
        refine ⟨_, rfl, _, rfl, l, _, _, rfl, hL1, by rw [List.length_map]; rw [List.length_cons] at hul; omega, ?_⟩
        have o2 := o1.trans (Offl.upd (o := .lst (rest.map V.str)) (H := H1))
        have hL2 : upd H1 l (.lst (rest.map V.str)) l = some (.lst (rest.map V.str)) := upd_same
        refine ⟨le_size (show _ ≤ 65536 by simp), fun t ht => ?_⟩
        exact q _ _ (o2.same (same_new (Same.refl _) ht)) (by rw [upd_ne (ne_of_none hL2 ht)]; exact hL2) (.has (SqT.of upd_same))
      | least hm h1 h2 =>
        rename_i wd z
        obtain rfl : us = wd :: numS z :: rest := (List.cons.inj eu).2.symm
        refine ⟨_, rfl, rfl, _, rfl, word_ne (show (Str.ofString "least") ≠ Str.ofString "any" by decide +kernel) ?_⟩
        refine ⟨_, rfl, rfl, _, rfl, word_ne (show (Str.ofString "least") ≠ Str.ofString "has" by decide +kernel) ?_⟩
        refine ⟨_, rfl, rfl, _, rfl, word_eq ?_⟩
        refine ⟨_, rfl, l, _, _, rfl, hL1, by rw [List.length_map]; rw [List.length_cons] at hul; omega, gName_ ?_⟩
        have o2 := o1.trans (Offl.upd (o := .lst ((numS z :: rest).map V.str)) (H := H1))
        have hL2 : upd H1 l (.lst ((numS z :: rest).map V.str)) l = some (.lst (.str (numS z) :: rest.map V.str)) := upd_same
        generalize upd H1 l (.lst ((numS z :: rest).map V.str)) = H2 at o2 hL2 ⊢
        refine ⟨_, rfl, _, rfl, _, rfl, l, _, _, rfl, hL2, by rw [List.length_map]; rw [List.length_cons, List.length_cons] at hul; omega, ?_⟩
        have o3 := o2.trans (Offl.upd (o := .lst (rest.map V.str)) (H := H2))
        have hL3 : upd H2 l (.lst (rest.map V.str)) l = some (.lst (rest.map V.str)) := upd_same
        refine ⟨z, rfl, ten30_abs ⟨h1, h2⟩, fun H4 s4 => ?_⟩
        refine ⟨le_size (show _ ≤ 65536 by simp), fun t ht => ?_⟩
        exact q _ _ (o3.same (same_new s4 ht)) (by rw [upd_ne (ne_of_none (s4 _ _ hL3) ht)]; exact s4 _ _ hL3) (.least (SqT.of upd_same))
      | not g1 =>
        rename_i q1
        have hh : q1.hgt + 1 ≤ n + 1 := hh
        obtain rfl : us = q1.toks ++ rest := (List.cons.inj eu).2.symm
        refine ⟨_, rfl, rfl, _, rfl, word_ne (show (Str.ofString "not") ≠ Str.ofString "any" by decide +kernel) ?_⟩
        refine ⟨_, rfl, rfl, _, rfl, word_ne (show (Str.ofString "not") ≠ Str.ofString "has" by decide +kernel) ?_⟩
        refine ⟨_, rfl, rfl, _, rfl, word_ne (show (Str.ofString "not") ≠ Str.ofString "least" by decide +kernel) ?_⟩
        refine ⟨_, rfl, le_size (show _ ≤ 65536 by simp), fun t3 ht3 => ?_⟩
        refine ⟨t3, _, rfl, .inr (SqT.of upd_same), rfl, rfl, ⟨deep_true (r := .not q1) rfl, ?_⟩⟩
        have s2 := same_new (o := .tup [.str "not", .str "both", .str "either"]) (Same.refl H1) ht3
        have hL2 := s2 _ _ hL1
        generalize upd H1 t3 (.tup [.str "not", .str "both", .str "either"]) = H2 at s2 hL2 ⊢
        refine ⟨_, rfl, _, rfl, _, _, rfl, rfl, l, q1, ws, rest, by show [V.ref l, V.int (((n + 1 : Nat) : Int) - 1)] = _; rw [hd], hL2, by omega, by omega, g1, fun v1 H3 o3 hL3 hR3 => gName_ ?_⟩
        refine ⟨_, rfl, rfl, _, rfl, word_eq ?_⟩
        refine ⟨_, rfl, _, rfl, le_size (show _ ≤ 65536 by simp), fun t ht => ?_⟩
        exact q _ _ (((o1.same s2).trans o3).same (same_new (Same.refl _) ht)) (by rw [upd_ne (ne_of_none hL3 ht)]; exact hL3) (.not (SqT.of upd_same) (hR3.kp (.new ht)))
      | both g1 g2 =>
        rename_i q1 q2
        have hh := lt_max (show max q1.hgt q2.hgt + 1 ≤ n + 1 from hh)
        obtain rfl : us = q1.toks ++ (q2.toks ++ rest) := (List.cons.inj eu).2.symm.trans (List.append_assoc _ _ _)
        refine ⟨_, rfl, rfl, _, rfl, word_ne (show (Str.ofString "both") ≠ Str.ofString "any" by decide +kernel) ?_⟩
        refine ⟨_, rfl, rfl, _, rfl, word_ne (show (Str.ofString "both") ≠ Str.ofString "has" by decide +kernel) ?_⟩
        refine ⟨_, rfl, rfl, _, rfl, word_ne (show (Str.ofString "both") ≠ Str.ofString "least" by decide +kernel) ?_⟩
        refine ⟨_, rfl, le_size (show _ ≤ 65536 by simp), fun t3 ht3 => ?_⟩
        refine ⟨t3, _, rfl, .inr (SqT.of upd_same), rfl, rfl, ⟨deep_true (r := .both q1 q2) rfl, ?_⟩⟩
        have s2 := same_new (o := .tup [.str "not", .str "both", .str "either"]) (Same.refl H1) ht3
        have hL2 := s2 _ _ hL1
        generalize upd H1 t3 (.tup [.str "not", .str "both", .str "either"]) = H2 at s2 hL2 ⊢
        refine ⟨_, rfl, _, rfl, _, _, rfl, rfl, l, q1, ws, q2.toks ++ rest, by show [V.ref l, V.int (((n + 1 : Nat) : Int) - 1)] = _; rw [hd], hL2, by omega, hh.1, g1, fun v1 H3 o3 hL3 hR3 => gName_ ?_⟩
        refine ⟨_, rfl, rfl, _, rfl, word_ne (show (Str.ofString "both") ≠ Str.ofString "not" by decide +kernel) ?_⟩
        refine ⟨_, rfl, _, rfl, _, rfl, _, rfl, _, _, rfl, rfl, l, q2, ws, rest, by show [V.ref l, V.int (((n + 1 : Nat) : Int) - 1)] = _; rw [hd], hL3, by rw [List.length_append] at hul; omega, hh.2, g2, fun v2 H4 o4 hL4 hR4 => ?_⟩
        refine ⟨le_size (show _ ≤ 65536 by simp), fun t ht => ?_⟩
        exact q _ _ ((((o1.same s2).trans o3).trans o4).same (same_new (Same.refl _) ht)) (by rw [upd_ne (ne_of_none hL4 ht)]; exact hL4) (.both (SqT.of upd_same) ((hR3.kp (o4.kp hL3)).kp (.new ht)) (hR4.kp (.new ht)))
      | either g1 g2 =>
        rename_i q1 q2
        have hh := lt_max (show max q1.hgt q2.hgt + 1 ≤ n + 1 from hh)
        obtain rfl : us = q1.toks ++ (q2.toks ++ rest) := (List.cons.inj eu).2.symm.trans (List.append_assoc _ _ _)
        refine ⟨_, rfl, rfl, _, rfl, word_ne (show (Str.ofString "either") ≠ Str.ofString "any" by decide +kernel) ?_⟩
        refine ⟨_, rfl, rfl, _, rfl, word_ne (show (Str.ofString "either") ≠ Str.ofString "has" by decide +kernel) ?_⟩
        refine ⟨_, rfl, rfl, _, rfl, word_ne (show (Str.ofString "either") ≠ Str.ofString "least" by decide +kernel) ?_⟩
        refine ⟨_, rfl, le_size (show _ ≤ 65536 by simp), fun t3 ht3 => ?_⟩
        refine ⟨t3, _, rfl, .inr (SqT.of upd_same), rfl, rfl, ⟨deep_true (r := .either q1 q2) rfl, ?_⟩⟩
        have s2 := same_new (o := .tup [.str "not", .str "both", .str "either"]) (Same.refl H1) ht3
        have hL2 := s2 _ _ hL1
        generalize upd H1 t3 (.tup [.str "not", .str "both", .str "either"]) = H2 at s2 hL2 ⊢
        refine ⟨_, rfl, _, rfl, _, _, rfl, rfl, l, q1, ws, q2.toks ++ rest, by show [V.ref l, V.int (((n + 1 : Nat) : Int) - 1)] = _; rw [hd], hL2, by omega, hh.1, g1, fun v1 H3 o3 hL3 hR3 => gName_ ?_⟩
        refine ⟨_, rfl, rfl, _, rfl, word_ne (show (Str.ofString "either") ≠ Str.ofString "not" by decide +kernel) ?_⟩
        refine ⟨_, rfl, _, rfl, _, rfl, _, rfl, _, _, rfl, rfl, l, q2, ws, rest, by show [V.ref l, V.int (((n + 1 : Nat) : Int) - 1)] = _; rw [hd], hL3, by rw [List.length_append] at hul; omega, hh.2, g2, fun v2 H4 o4 hL4 hR4 => ?_⟩
        refine ⟨le_size (show _ ≤ 65536 by simp), fun t ht => ?_⟩
        exact q _ _ ((((o1.same s2).trans o3).trans o4).same (same_new (Same.refl _) ht)) (by rw [upd_ne (ne_of_none hL4 ht)]; exact hL4) (.either (SqT.of upd_same) ((hR3.kp (o4.kp hL3)).kp (.new ht)) (hR4.kp (.new ht)))
end
structure RuGood (ws : List Str) (r : Ru) : Prop where
  hgt : r.hgt ≤ 6
  cnt : r.cnt ≤ 30
  ok : RuOk ws r
  wd : ∀ w ∈ ws, Wd w
  few : ws.length ≤ 3
theorem Ru.toks_le : ∀ r : Ru, r.toks.length ≤ 3 * r.subs.length
  | .any => by decide
  | .has _ => by simp [Ru.toks, Ru.subs]
  | .least _ _ => by simp [Ru.toks, Ru.subs]
  | .not q => by
    have := q.toks_le
    simp only [Ru.toks, Ru.subs, List.length_cons]
    omega
  | .both q r => by
    have := q.toks_le
    have := r.toks_le
    simp only [Ru.toks, Ru.subs, List.length_cons, List.length_append]
    omega
  | .either q r => by
    have := q.toks_le
    have := r.toks_le
    simp only [Ru.toks, Ru.subs, List.length_cons, List.length_append]
    omega
theorem RuGood.toks {ws : List Str} {r : Ru} (h : RuGood ws r) : r.toks.length ≤ 90 := by
  have h1 := r.toks_le
  have h2 := h.cnt
  unfold Ru.cnt at h2
  omega
theorem RuGood.fit {ws : List Str} {r : Ru} (h : RuGood ws r) : r.fit := h.ok.fit fun w hw => Nat.le_trans (h.wd w hw).hi (by decide)
theorem Offl.free {l : Addr} {H H0 H' : Hp} (s : Same H H0) (hn : H l = none) (o : Offl l H0 H') : Same H H' := fun b ob e => o b ob (s b ob e) (fun z => by rw [z, hn] at e; cases e)
def spReadWords (K : PySem.W.Frag) : Sp := fun vs H Q _ => ∃ (wl : Addr) (r : Ru) (ws : List Str), vs = [.ref wl] ∧ SqL K H wl (r.toks.map V.str) ∧ RuGood ws r ∧ ∀ rv H', Same H H' → RuAt K H' r rv → Q rv H'
def spReadRule (K : PySem.W.Frag) : Sp := fun vs H Q _ => ∃ (r : Ru) (ws : List Str), vs = [.str r.txt] ∧ RuGood ws r ∧ ∀ rv H', Same H H' → RuAt K H' r rv → Q rv H'
section
variable {P : Program} {w : World} {K : PySem.W.Frag} {mg : Str → Option Value} {base : Heap} {a : Adr}
theorem ok_read_rule_words (T : Txt K mg a) : FnOk P w K mg base CX0 11 a.read_rule_words a.fd_read_rule_words ["words"] (spReadWords K) := by
  refine T.f_read_rule_words.ok sc_read_rule_words (fun vs H Q E h => ?_) (fun cdv A outer s H vs Q E hr h => ?_)
  · obtain ⟨wl, r, ws, rfl, _⟩ := h
    rfl
  · obtain ⟨wl, r, ws, rfl, hW, hg, q⟩ := h
    have ht := hg.toks
    refine ⟨_, (pss_cons (ps_set (i := 1) sc_read_rule_words.nd rfl (by first | exact Or.inl rfl | exact Or.inr rfl) (pe_callTy (call_listK K rfl) (by rfl) T.n_list L2.boot_list (pa_cons (pv 0) pa_nil)))
  (pss_cons (ps_set (i := 2) sc_read_rule_words.nd rfl (by first | exact Or.inl rfl | exact Or.inr rfl) (pe_call ((ok_take_rule T 6).mono (by first | decide | omega)) hr rfl T.m_take_rule T.f_take_rule.kp T.b_take_rule .nil pass0 (pa_cons (pv 1) (pa_cons (pe_globE T.c_DEEPEST_RULE rfl) pa_nil))))
  (pss_cons (ps_expr (pe_call ((ok_check_row T).mono (by first | decide | omega)) hr rfl T.m_check_row T.f_check_row.kp T.b_check_row .nil pass0 (pa_cons (pe_and (pe_cmpR op_eq (pe_callB (call_lenK K rfl) (by rfl) T.n_len L2.boot_len (pa_cons (pv 1) pa_nil)) pe_int (nomark _)) (pe_one (pe_call ((ok_is_rule T).mono (by first | decide | omega)) hr rfl T.m_is_rule T.f_is_rule.kp T.b_is_rule .nil pass0 (pa_cons (pv 2) pa_nil)))) pa_nil)))
  (pss_one (ps_ret (pv 2)))))), ?_⟩
    refine ⟨_, rfl, wl, _, rfl, .inl hW, fun l hl => gName_ ?_⟩
    have s0 := same_new (o := .lst (r.toks.map V.str)) (Same.refl H) hl
    have hL : upd H l (.lst (r.toks.map V.str)) l = some (.lst (r.toks.map V.str)) := upd_same
    generalize upd H l (.lst (r.toks.map V.str)) = H0 at s0 hL ⊢
    refine ⟨_, rfl, l, r, ws, [], rfl, by rw [List.append_nil]; exact hL, by rw [List.append_nil]; omega, hg.hgt, hg.ok, fun rv H1 o1 hL1 hR1 => gName_ ?_⟩
    have s1 := Offl.free s0 hl o1
    refine ⟨_, rfl, _, 0, rfl, .inl ⟨_, SqL.of hL1, rfl⟩, rfl, _, rfl, iteT ?_⟩
    exact ⟨_, rfl, r, rv, ws, rfl, hR1, hg.hgt, hg.cnt, hg.ok, hg.wd, hg.few, fun H2 s2 => ⟨rfl, _, rfl, q rv H2 (s1.trans s2) (hR1.kp (.of s2))⟩⟩
theorem ok_read_rule (T : Txt K mg a) : FnOk P w K mg base CX0 12 a.read_rule a.fd_read_rule ["text"] (spReadRule K) := by
  refine T.f_read_rule.ok sc_read_rule (fun vs H Q E h => ?_) (fun cdv A outer s H vs Q E hr h => ?_)
  · obtain ⟨r, ws, rfl, _⟩ := h
    rfl
  · obtain ⟨r, ws, rfl, hg, q⟩ := h
    refine ⟨_, (pss_one (ps_ret (pe_call ((ok_read_rule_words T).mono (by first | decide | omega)) hr rfl T.m_read_rule_words T.f_read_rule_words.kp T.b_read_rule_words .nil pass0 (pa_cons (pe_bmK K rfl PySem.F.plainAttrs_str PySem.F.slot_str_split PySem.F.type_str_split mt_split (pv 0) (pa_cons pe_str pa_nil)) pa_nil)))), ?_⟩
    have hlen := Ru.txt_le hg.fit hg.hgt
    refine ⟨_, rfl, rfl, _, _, r.toks, rfl, rfl, by decide +kernel, by omega, by rw [r.txt_toks]; exact split_join bl_sign r.toks_ne (Ru.toks_free hg.wd hg.ok), fun l hl => ?_⟩
    exact ⟨l, r, ws, rfl, SqL.of upd_same, hg, fun rv H1 s1 hR => q rv H1 ((same_new (Same.refl _) hl).trans s1) hR⟩
end
inductive KF : Str → List Str → Prop
  | layer : KF "layer" ["word", "count"]
  | share : KF "share" ["word", "counts"]
  | deal : KF "deal" ["word", "total", "weights"]
  | hold : KF "hold" ["word", "count"]
  | pause : KF "pause" ["word"]
  | go : KF "go" ["word"]
  | close : KF "close" ["word"]
  | bar : KF "bar" ["guest", "word"]
  | visit : KF "visit" ["guest", "marks"]
inductive Dd where
  | plain (k : Str) (ths : List Th)
  | trial (n l : Str) (as ss : List Str) (r : Ru)
def Dd.txt : Dd → Str
  | .plain k ths => Txt.join " " (k :: ths.map Th.txt)
  | .trial n l as ss r => Txt.join " " ["trial", n, l, listS as, listS ss, r.txt]
def DdAt (K : PySem.W.Frag) (H : Hp) : Dd → V → Prop
  | .plain k ths, v => ∃ p vs, v = .ref p ∧ SqT K H p (.str k :: vs) ∧ Paired (ThAt K H) ths vs
  | .trial n l as ss r, v => ∃ p av rv sv, v = .ref p ∧ SqT K H p [.str "trial", .str n, .str l, av, rv, sv] ∧ ThAt K H (.ws as) av ∧ ThAt K H (.ws ss) sv ∧ RuAt K H r rv
inductive DdOk : Dd → Prop
  | plain {k : Str} {fs : List Str} {ths : List Th} : KF k fs → Paired ThOk fs ths → DdOk (.plain k ths)
  | trial {n l : Str} {as ss ws : List Str} {r : Ru} : Wd n → Wd l → ThOk "arms" (.ws as) → ThOk "shuts" (.ws ss) → RuGood ws r → DdOk (.trial n l as ss r)
theorem DdAt.kp {K : PySem.W.Frag} {H H' : Hp} (e : Kp H H') : ∀ {d : Dd} {v : V}, DdAt K H d v → DdAt K H' d v
  | .plain _ _, _, ⟨p, vs, h1, h2, h3⟩ => ⟨p, vs, h1, e.tq h2, ths_kp e h3⟩
  | .trial _ _ _ _ _, _, ⟨p, av, rv, sv, h1, h2, h3, h4, h5⟩ => ⟨p, av, rv, sv, h1, e.tq h2, h3.kp e, h4.kp e, h5.kp e⟩
theorem free_join {c : Nat} {z : Str} (hz : Free c z) : ∀ {ts : List Str}, (∀ t ∈ ts, Free c t) → Free c (Txt.join z ts)
  | [], _ => fun h => nomatch h
  | [t], h => h t List.mem_cons_self
  | t :: u :: r, h => by
    rw [join_1 z t (ys := u :: r) (by simp)]
    exact free_app (h t List.mem_cons_self) (free_app hz (free_join hz fun x hx => h x (List.mem_cons_of_mem _ hx)))
theorem list_free {ts : List Str} (h : ∀ t ∈ ts, Pt t) : Free 32 (listS ts) := by
  cases ts with
  | nil => exact lit_free (by decide +kernel)
  | cons t r => exact free_join (lit_free (by decide +kernel)) fun x hx => (h x hx).bl
theorem ThOk.free {f : Str} {t : Th} (h : ThOk f t) : Free 32 t.txt := by
  have h0 := h
  rcases h.kinds with ⟨w, rfl, _⟩ | ⟨i, rfl, hi, _⟩ | ⟨l, rfl, hl, hn, _⟩ | ⟨l, rfl, hl, hn, _⟩ | ⟨l, rfl, hl, hn, _⟩
  · cases h0 with
    | word hw => exact hw.free (by decide)
    | guest hw => exact hw.free (by decide)
  · exact num_free (by decide) (by decide)
  · exact list_free fun w hw => (hl w hw).pt
  · exact list_free (ns_pt hl)
  · exact list_free (ms_pt hl)
theorem ths_free {fs : List Str} {ths : List Th} (h : Paired ThOk fs ths) : ∀ t ∈ ths.map Th.txt, Free 32 t := by
  induction h with
  | nil => exact fun t h => nomatch h
  | cons r _ ih =>
    intro t ht
    rcases List.mem_cons.mp ht with rfl | h
    · exact r.free
    · exact ih t h
theorem ths_len {fs : List Str} {ths : List Th} (h : Paired ThOk fs ths) : lens (ths.map Th.txt) ≤ 1010 * ths.length := by
  induction h with
  | nil => exact Nat.le_refl _
  | cons r _ ih =>
    have := r.len
    rw [List.map_cons, lens_cons, List.length_cons]
    omega
theorem KF.facts {k : Str} {fs : List Str} (h : KF k fs) : k ≠ "trial" ∧ Free 32 k ∧ k.length ≤ 5 ∧ fs.length ≤ 3 ∧ 1 ≤ fs.length := by
  cases h <;> exact ⟨by decide +kernel, lit_free (by decide +kernel), by decide +kernel, by decide, by decide⟩
theorem KF.at {K : PySem.W.Frag} {mg : Str → Option Value} {a : Adr} (T : Txt K mg a) {k : Str} {fs : List Str} (h : KF k fs) : ∃ t, PySem.W.nsIn K a.FORMS k = some (some (.ref t)) ∧ KTp K t (fs.map V.str) := by
  cases h with
  | layer => exact T.kv_FORMS_layer
  | share => exact T.kv_FORMS_share
  | deal => exact T.kv_FORMS_deal
  | hold => exact T.kv_FORMS_hold
  | pause => exact T.kv_FORMS_pause
  | go => exact T.kv_FORMS_go
  | close => exact T.kv_FORMS_close
  | bar => exact T.kv_FORMS_bar
  | visit => exact T.kv_FORMS_visit
theorem trial_txt (n l x y : Str) (r : Ru) : Txt.join " " ["trial", n, l, x, y, r.txt] = Txt.join " " ("trial" :: n :: l :: x :: y :: r.toks) := by
  show Txt.join " " (([Str.ofString "trial", n, l, x, y] : List Str) ++ [r.txt]) = Txt.join " " (([Str.ofString "trial", n, l, x, y] : List Str) ++ r.toks)
  rw [join_app " " (by simp) (by simp), join_app " " (by simp) r.toks_ne, ← r.txt_toks]
  rfl
def spReadDeed (K : PySem.W.Frag) : Sp := fun vs H Q _ => ∃ d : Dd, vs = [.str d.txt] ∧ DdOk d ∧ ∀ v H', Same H H' → DdAt K H' d v → Q v H'
theorem cut_15 (a b c d e : V) (r : List V) : cutV (a :: b :: c :: d :: e :: r) (some 1) (some 5) = [b, c, d, e] := by
  unfold cutV HT.sIx
  simp
theorem cut_5 (a b c d e : V) (r : List V) : cutV (a :: b :: c :: d :: e :: r) (some 5) none = r := by
  unfold cutV HT.sIx
  simp
theorem pair4 {K : PySem.W.Frag} {H : Hp} {n l : Str} {as ss : List Str} {us : List V} (h : Paired (ThAt K H) [.s n, .s l, .ws as, .ws ss] us) : ∃ av sv, us = [.str n, .str l, av, sv] ∧ ThAt K H (.ws as) av ∧ ThAt K H (.ws ss) sv := by
  cases h with
  | cons h1 h =>
    cases h with
    | cons h2 h =>
      cases h with
      | cons h3 h =>
        cases h with
        | cons h4 h =>
          cases h
          cases h1
          cases h2
          exact ⟨_, _, rfl, h3, h4⟩
section
variable {P : Program} {w : World} {K : PySem.W.Frag} {mg : Str → Option Value} {base : Heap} {a : Adr}
theorem ok_read_deed (T : Txt K mg a) (hw : w.params = a.pm) : FnOk P w K mg base CX0 12 a.read_deed a.fd_read_deed ["text"] (spReadDeed K) := by
  refine T.f_read_deed.ok sc_read_deed (fun vs H Q E h => ?_) (fun cdv A outer s H vs Q E hr h => ?_)
  · obtain ⟨d, rfl, _⟩ := h
    rfl
  · obtain ⟨d, rfl, ho, q⟩ := h
    refine ⟨_, (pss_cons (ps_set (i := 1) sc_read_deed.nd rfl (by first | exact Or.inl rfl | exact Or.inr rfl) (pe_bmK K rfl PySem.F.plainAttrs_str PySem.F.slot_str_split PySem.F.type_str_split mt_split (pv 0) (pa_cons pe_str pa_nil)))
  (pss_cons (ps_set (i := 2) sc_read_deed.nd rfl (by first | exact Or.inl rfl | exact Or.inr rfl) (pe_ix (ix_listK K rfl) (pv 1) pe_int (fun _ _ => rfl)))
  (pss_cons (ps_expr (pe_call ((ok_check_row T).mono (by first | decide | omega)) hr rfl T.m_check_row T.f_check_row.kp T.b_check_row .nil pass0 (pa_cons (pe_cmp (pc_kin K rfl (kmod hw T.kd_FORMS) rfl T.m_FORMS (pv 2)) rfl) pa_nil)))
  (pss_cons (ps_if (pt_cmpR op_eq (pv 2) pe_str (nomark _)) (pss_cons (ps_set (i := 3) sc_read_deed.nd rfl (by first | exact Or.inl rfl | exact Or.inr rfl) (pe_call ((ok_read_things T).mono (by first | decide | omega)) hr rfl T.m_read_things T.f_read_things.kp T.b_read_things .nil pass0 (pa_cons (pe_kix K rfl (kmod hw T.kd_FORMS) rfl T.m_FORMS (pv 2) (fun _ _ => rfl)) (pa_cons (pe_slice (sl_listK K rfl) (pv 1) (po_some pe_int) (po_some pe_int)) pa_nil))))
  (pss_one (ps_ret (pe_op (op_catTK K rfl) (pe_op (op_catTK K rfl) (pe_tup (pa_cons (pv 2) pa_nil)) (pe_callTy (call_tupleK K rfl) (by rfl) T.n_tuple L2.boot_tuple (pa_cons (pe_slice (sl_listK K rfl) (pv 3) po_none (po_some pe_int)) pa_nil))) (pe_tup (pa_cons (pe_call ((ok_read_rule_words T).mono (by first | decide | omega)) hr rfl T.m_read_rule_words T.f_read_rule_words.kp T.b_read_rule_words .nil pass0 (pa_cons (pe_slice (sl_listK K rfl) (pv 1) (po_some pe_int) po_none) pa_nil)) (pa_cons (pe_ix (ix_listK K rfl) (pv 3) pe_int (fun _ _ => rfl)) pa_nil))))))) pss_nil)
  (pss_one (ps_ret (pe_op (op_catTK K rfl) (pe_tup (pa_cons (pv 2) pa_nil)) (pe_callTy (call_tupleK K rfl) (by rfl) T.n_tuple L2.boot_tuple (pa_cons (pe_call ((ok_read_things T).mono (by first | decide | omega)) hr rfl T.m_read_things T.f_read_things.kp T.b_read_things .nil pass0 (pa_cons (pe_kix K rfl (kmod hw T.kd_FORMS) rfl T.m_FORMS (pv 2) (fun _ _ => rfl)) (pa_cons (pe_slice (sl_listK K rfl) (pv 1) (po_some pe_int) po_none) pa_nil))) pa_nil))))))))), ?_⟩
    cases ho with
    | plain hk hp =>
      rename_i k fs ths
      obtain ⟨k1, k2, k3, k4, k5⟩ := hk.facts
      have hPl := pair_len hp
      have hlen : (Txt.join " " (k :: ths.map Th.txt)).length ≤ 1000000 := by
        have h1 := join_le " " (k :: ths.map Th.txt)
        have h2 := ths_len hp
        rw [lens_cons, bl1, List.length_cons, List.length_map] at h1
        omega
      refine ⟨_, rfl, rfl, _, _, k :: ths.map Th.txt, rfl, rfl, by decide +kernel, hlen, split_join bl_sign (fun z => nomatch z) (fun t ht => ?_), fun wl hwl => gName_ ?_⟩
      · rcases List.mem_cons.mp ht with rfl | h
        · exact k2
        · exact ths_free hp t h
      have s0 := same_new (o := .lst ((k :: ths.map Th.txt).map V.str)) (Same.refl H) hwl
      have hW : upd H wl (.lst ((k :: ths.map Th.txt).map V.str)) wl = some (.lst (.str k :: (ths.map Th.txt).map V.str)) := upd_same
      generalize upd H wl (.lst ((k :: ths.map Th.txt).map V.str)) = H0 at s0 hW ⊢
      refine ⟨_, rfl, wl, _, 0, _, rfl, rfl, SqL.of hW, atI_nat' (k := 0) rfl, gName_ ?_⟩
      obtain ⟨ft, hns, hkt⟩ := hk.at T
      refine ⟨_, rfl, k, _, rfl, hns, ⟨rfl, ?_⟩⟩
      refine ⟨_, rfl, rfl, _, rfl, word_ne k1 ?_⟩
      refine ⟨_, rfl, le_size (show _ ≤ 65536 by simp), fun t1 ht1 => ?_⟩
      have s1 := same_new (o := .tup [.str k]) s0 ht1
      have hT1 : upd H0 t1 (.tup [.str k]) t1 = some (.tup [.str k]) := upd_same
      have hW1 : upd H0 t1 (.tup [.str k]) wl = some (.lst (.str k :: (ths.map Th.txt).map V.str)) := by rw [upd_ne (ne_of_none hW ht1)]; exact hW
      generalize upd H0 t1 (.tup [.str k]) = H1 at s1 hT1 hW1 ⊢
      refine ⟨_, rfl, k, .ref ft, .ref ft, rfl, hns, rfl, ?_⟩
      refine ⟨_, rfl, _, rfl, wl, _, rfl, SqL.of hW1, fun p hpn => ?_⟩
      rw [cut1]
      have s2 := same_new (o := .lst ((ths.map Th.txt).map V.str)) (Same.refl H1) hpn
      refine ⟨ft, p, fs, ths, rfl, hkt.sq _, SqL.of upd_same, hp, by omega, fun l us H3 s3 hl3 hu3 => ?_⟩
      have s13 := s2.trans s3
      refine ⟨l, us, rfl, .inl ⟨SqL.of hl3, fun t2 ht2 => ?_⟩⟩
      have s4 := same_new (o := .tup us) (Same.refl H3) ht2
      have hul := pair_len hu3
      refine ⟨t1, t2, [.str k], us, rfl, rfl, SqT.of ((s13.trans s4) _ _ hT1), SqT.of upd_same, by simp, by rw [sizeLine_eq]; simp; omega, fun z => absurd (congrArg List.length z) (by rw [← hul]; simp only [List.length_nil]; omega), fun _ p2 hp2 => ?_⟩
      exact q _ _ ((s1.trans s13).trans (same_new s4 hp2)) ⟨p2, us, rfl, SqT.of upd_same, ths_kp (.of (same_new s4 hp2)) hu3⟩
    | trial h1 h2 h3 h4 hg =>
      rename_i n ln as ss ws r
      have htl := hg.toks
      have e0 : Dd.txt (.trial n ln as ss r) = Txt.join " " ("trial" :: n :: ln :: listS as :: listS ss :: r.toks) := trial_txt _ _ _ _ _
      have hlen : (Dd.txt (.trial n ln as ss r)).length ≤ 1000000 := by
        show (Txt.join " " ["trial", n, ln, listS as, listS ss, r.txt]).length ≤ 1000000
        have k1 := join_le " " ["trial", n, ln, listS as, listS ss, r.txt]
        have k2 : (listS as).length ≤ 1010 := h3.len
        have k3 : (listS ss).length ≤ 1010 := h4.len
        have k4 := Ru.txt_le hg.fit hg.hgt
        have k5 : (Str.ofString "trial").length = 5 := by decide +kernel
        have k6 := h1.hi
        have k7 := h2.hi
        rw [lens_cons, lens_cons, lens_cons, lens_cons, lens_cons, lens_cons, lens_nil, bl1] at k1
        simp only [List.length_cons, List.length_nil] at k1
        omega
      refine ⟨_, rfl, rfl, _, _, "trial" :: n :: ln :: listS as :: listS ss :: r.toks, rfl, rfl, by decide +kernel, hlen, e0 ▸ split_join bl_sign (fun z => nomatch z) (fun t ht => ?_), fun wl hwl => gName_ ?_⟩
      · rcases List.mem_cons.mp ht with rfl | h
        · exact lit_free (by decide +kernel)
        rcases List.mem_cons.mp h with rfl | h
        · exact h1.free (by decide)
        rcases List.mem_cons.mp h with rfl | h
        · exact h2.free (by decide)
        rcases List.mem_cons.mp h with rfl | h
        · exact h3.free
        rcases List.mem_cons.mp h with rfl | h
        · exact h4.free
        · exact Ru.toks_free hg.wd hg.ok t h
      have s0 := same_new (o := .lst ((Str.ofString "trial" :: n :: ln :: listS as :: listS ss :: r.toks).map V.str)) (Same.refl H) hwl
      have hW : upd H wl (.lst ((Str.ofString "trial" :: n :: ln :: listS as :: listS ss :: r.toks).map V.str)) wl = some (.lst (.str "trial" :: .str n :: .str ln :: .str (listS as) :: .str (listS ss) :: r.toks.map V.str)) := upd_same
      generalize upd H wl (.lst ((Str.ofString "trial" :: n :: ln :: listS as :: listS ss :: r.toks).map V.str)) = H0 at s0 hW ⊢
      refine ⟨_, rfl, wl, _, 0, _, rfl, rfl, SqL.of hW, atI_nat' (k := 0) rfl, gName_ ?_⟩
      obtain ⟨ft, hns, hkt⟩ := T.kv_FORMS_trial
      refine ⟨_, rfl, "trial", _, rfl, hns, ⟨rfl, ?_⟩⟩
      refine ⟨_, rfl, rfl, _, rfl, word_eq ?_⟩
      refine ⟨_, rfl, "trial", .ref ft, .ref ft, rfl, hns, rfl, ?_⟩
      refine ⟨_, rfl, _, rfl, _, rfl, wl, _, rfl, SqL.of hW, fun p hpn => ?_⟩
      rw [cut_15]
      have s1 := same_new (o := .lst [.str n, .str ln, .str (listS as), .str (listS ss)]) (Same.refl H0) hpn
      refine ⟨ft, p, ["word", "word", "arms", "shuts"], [.s n, .s ln, .ws as, .ws ss], rfl, hkt.sq _, SqL.of upd_same, .cons (.word h1) (.cons (.word h2) (.cons h3 (.cons h4 .nil))), by simp, fun l us H2 s2 hl2 hu2 => gName_ ?_⟩
      obtain ⟨av, sv, rfl, hA, hS⟩ := pair4 hu2
      have s02 := s1.trans s2
      have hW2 := s02 _ _ hW
      refine ⟨_, rfl, le_size (show _ ≤ 65536 by simp), fun t1 ht1 => ?_⟩
      have s3 := same_new (o := .tup [.str "trial"]) (Same.refl H2) ht1
      have hT1 : upd H2 t1 (.tup [.str "trial"]) t1 = some (.tup [.str "trial"]) := upd_same
      generalize upd H2 t1 (.tup [.str "trial"]) = H3 at s3 hT1 ⊢
      refine ⟨_, rfl, _, rfl, l, _, rfl, SqL.of (s3 _ _ hl2), fun p3 hp3 => ?_⟩
      have s4 := same_new (o := .lst (cutV [.str n, .str ln, av, sv] none (some 3))) (Same.refl H3) hp3
      have hP3 : upd H3 p3 (.lst (cutV [.str n, .str ln, av, sv] none (some 3))) p3 = some (.lst [.str n, .str ln, av]) := upd_same
      generalize upd H3 p3 (.lst (cutV [.str n, .str ln, av, sv] none (some 3))) = H4 at s4 hP3 ⊢
      refine ⟨p3, _, rfl, .inl ⟨SqL.of hP3, fun t2 ht2 => ?_⟩⟩
      have s5 := same_new (o := .tup [.str n, .str ln, av]) (Same.refl H4) ht2
      have hT2 : upd H4 t2 (.tup [.str n, .str ln, av]) t2 = some (.tup [.str n, .str ln, av]) := upd_same
      generalize upd H4 t2 (.tup [.str n, .str ln, av]) = H5 at s5 hT2 ⊢
      refine ⟨t1, t2, _, _, rfl, rfl, SqT.of ((s4.trans s5) _ _ hT1), SqT.of hT2, by simp, by rw [sizeLine_eq]; simp, (fun z => nomatch z), fun _ t3 ht3 => ?_⟩
      have s6 := same_new (o := .tup ([.str "trial"] ++ [.str n, .str ln, av])) (Same.refl H5) ht3
      have hT3 : upd H5 t3 (.tup ([.str "trial"] ++ [.str n, .str ln, av])) t3 = some (.tup [.str "trial", .str n, .str ln, av]) := upd_same
      generalize upd H5 t3 (.tup ([.str "trial"] ++ [.str n, .str ln, av])) = H6 at s6 hT3 ⊢
      have s26 := ((s3.trans s4).trans s5).trans s6
      refine ⟨_, rfl, _, rfl, wl, _, rfl, SqL.of (s26 _ _ hW2), fun p5 hp5 => ?_⟩
      rw [cut_5]
      have s7 := same_new (o := .lst (r.toks.map V.str)) (Same.refl H6) hp5
      refine ⟨p5, r, ws, rfl, SqL.of upd_same, hg, fun rv H8 s8 hR => ?_⟩
      have s68 := s7.trans s8
      have s28 := s26.trans s68
      refine ⟨_, rfl, l, _, 3, _, rfl, rfl, SqL.of (s28 _ _ hl2), rfl, ?_⟩
      refine ⟨le_size (show _ ≤ 65536 by simp), fun t4 ht4 => ?_⟩
      have s9 := same_new (o := .tup [rv, sv]) (Same.refl H8) ht4
      refine ⟨t3, t4, _, _, rfl, rfl, SqT.of ((s68.trans s9) _ _ hT3), SqT.of upd_same, by simp, by rw [sizeLine_eq]; simp, (fun z => nomatch z), fun _ p9 hp9 => ?_⟩
      have s10 := same_new (o := .tup ([.str "trial", .str n, .str ln, av] ++ [rv, sv])) s9 hp9
      exact q _ _ ((s0.trans s02).trans (s28.trans s10)) ⟨p9, av, rv, sv, rfl, SqT.of upd_same, hA.kp (.of (s28.trans s10)), hS.kp (.of (s28.trans s10)), hR.kp (.of s10)⟩
end
def Eqd (K : PySem.W.Frag) (H : Hp) : Nat → V → V → Prop
  | 0, f, d => (∃ x, f = .str x ∧ d = .str x) ∨ (∃ i, f = .int i ∧ d = .int i)
  | n + 1, f, d => ((∃ x, f = .str x ∧ d = .str x) ∨ (∃ i, f = .int i ∧ d = .int i)) ∨ ∃ a b xs ys, f = .ref a ∧ d = .ref b ∧ SqT K H a xs ∧ SqT K H b ys ∧ Paired (Eqd K H n) xs ys ∧ xs.length ≤ 100
theorem Eqd.str {K : PySem.W.Frag} {H : Hp} {x : Str} : ∀ n, Eqd K H n (.str x) (.str x)
  | 0 => .inl ⟨x, rfl, rfl⟩
  | _ + 1 => .inl (.inl ⟨x, rfl, rfl⟩)
theorem Eqd.int {K : PySem.W.Frag} {H : Hp} {i : Int} : ∀ n, Eqd K H n (.int i) (.int i)
  | 0 => .inr ⟨i, rfl, rfl⟩
  | _ + 1 => .inl (.inr ⟨i, rfl, rfl⟩)
theorem Eqd.kp {K : PySem.W.Frag} {H H' : Hp} (e : Kp H H') : ∀ {n : Nat} {f d : V}, Eqd K H n f d → Eqd K H' n f d
  | 0, _, _, h => h
  | n + 1, _, _, .inl h => .inl h
  | n + 1, _, _, .inr ⟨a, b, xs, ys, h1, h2, h3, h4, h5, h6⟩ => .inr ⟨a, b, xs, ys, h1, h2, e.tq h3, e.tq h4, paired_map (fun _ _ h => Eqd.kp e h) h5, h6⟩
theorem Eqd.strs {K : PySem.W.Frag} {H : Hp} (n : Nat) : ∀ l : List Str, Paired (Eqd K H n) (l.map V.str) (l.map V.str)
  | [] => .nil
  | _ :: r => .cons (.str n) (Eqd.strs n r)
theorem Eqd.ints {K : PySem.W.Frag} {H : Hp} (n : Nat) : ∀ l : List Int, Paired (Eqd K H n) (l.map V.int) (l.map V.int)
  | [] => .nil
  | _ :: r => .cons (.int n) (Eqd.ints n r)
theorem pairs_of {R : V → V → Prop} : ∀ {xs ys : List V}, xs.length = ys.length → (∀ (i : Nat) x y, xs[i]? = some x → ys[i]? = some y → R x y) → Paired R xs ys
  | [], [], _, _ => .nil
  | [], _ :: _, h, _ => nomatch h
  | _ :: _, [], h, _ => nomatch h
  | x :: xs, y :: ys, h, g => .cons (g 0 x y rfl rfl) (pairs_of (Nat.succ.inj h) fun i u v hu hv => g (i + 1) u v (by simpa using hu) (by simpa using hv))
theorem th_eqd {K : PySem.W.Frag} {H : Hp} {f : Str} {t : Th} {u v : V} (ho : ThOk f t) (h1 : ThAt K H t u) (h2 : ThAt K H t v) (n : Nat) : Eqd K H (n + 2) u v := by
  rcases ho.kinds with ⟨w, rfl, _⟩ | ⟨i, rfl, hi, _⟩ | ⟨l, rfl, hl, hn, _⟩ | ⟨l, rfl, hl, hn, _⟩ | ⟨l, rfl, hl, hn, _⟩
  · cases h1; cases h2; exact .str _
  · cases h1; cases h2; exact .int _
  · obtain ⟨a, rfl, h1⟩ := h1
    obtain ⟨b, rfl, h2⟩ := h2
    exact .inr ⟨a, b, _, _, rfl, rfl, h1, h2, Eqd.strs _ l, by rw [List.length_map]; omega⟩
  · obtain ⟨a, rfl, h1⟩ := h1
    obtain ⟨b, rfl, h2⟩ := h2
    exact .inr ⟨a, b, _, _, rfl, rfl, h1, h2, Eqd.ints _ l, by rw [List.length_map]; omega⟩
  · obtain ⟨a, xs, rfl, h1, l1, g1⟩ := h1
    obtain ⟨b, ys, rfl, h2, l2, g2⟩ := h2
    refine .inr ⟨a, b, _, _, rfl, rfl, h1, h2, pairs_of (by omega) fun i x y hx hy => ?_, by omega⟩
    have hi : i < l.length := by rw [← l1]; exact (List.getElem?_eq_some_iff.mp hx).1
    obtain ⟨b1, e1, q1⟩ := g1 i l[i] (List.getElem?_eq_getElem hi)
    obtain ⟨b2, e2, q2⟩ := g2 i l[i] (List.getElem?_eq_getElem hi)
    rw [hx] at e1
    rw [hy] at e2
    cases e1
    cases e2
    exact .inr ⟨b1, b2, _, _, rfl, rfl, q1, q2, .cons (.str _) (.cons (.int _) .nil), by simp⟩
theorem ru_eqd {K : PySem.W.Frag} {H : Hp} : ∀ {n : Nat} {r : Ru} {u v : V}, RuAt K H r u → RuAt K H r v → r.hgt ≤ n → Eqd K H n u v
  | 0, r, _, _, _, _, h => by have := r.hgt_pos; omega
  | n + 1, _, _, _, .any h1, h2, _ => by
    cases h2 with
    | any h2 => exact .inr ⟨_, _, _, _, rfl, rfl, h1, h2, .cons (.str _) .nil, by simp⟩
  | n + 1, _, _, _, .has h1, h2, _ => by
    cases h2 with
    | has h2 => exact .inr ⟨_, _, _, _, rfl, rfl, h1, h2, .cons (.str _) (.cons (.str _) .nil), by simp⟩
  | n + 1, _, _, _, .least h1, h2, _ => by
    cases h2 with
    | least h2 => exact .inr ⟨_, _, _, _, rfl, rfl, h1, h2, .cons (.str _) (.cons (.str _) (.cons (.int _) .nil)), by simp⟩
  | n + 1, .not q, _, _, .not h1 a1, h2, hh => by
    have hh : q.hgt + 1 ≤ n + 1 := hh
    cases h2 with
    | not h2 a2 => exact .inr ⟨_, _, _, _, rfl, rfl, h1, h2, .cons (.str _) (.cons (ru_eqd a1 a2 (by omega)) .nil), by simp⟩
  | n + 1, .both q r, _, _, .both h1 a1 b1, h2, hh => by
    have hh := lt_max (show max q.hgt r.hgt + 1 ≤ n + 1 from hh)
    cases h2 with
    | both h2 a2 b2 => exact .inr ⟨_, _, _, _, rfl, rfl, h1, h2, .cons (.str _) (.cons (ru_eqd a1 a2 hh.1) (.cons (ru_eqd b1 b2 hh.2) .nil)), by simp⟩
  | n + 1, .either q r, _, _, .either h1 a1 b1, h2, hh => by
    have hh := lt_max (show max q.hgt r.hgt + 1 ≤ n + 1 from hh)
    cases h2 with
    | either h2 a2 b2 => exact .inr ⟨_, _, _, _, rfl, rfl, h1, h2, .cons (.str _) (.cons (ru_eqd a1 a2 hh.1) (.cons (ru_eqd b1 b2 hh.2) .nil)), by simp⟩
theorem ths_eqd {K : PySem.W.Frag} {H : Hp} (n : Nat) : ∀ {fs : List Str} {ths : List Th} {us vs : List V}, Paired ThOk fs ths → Paired (ThAt K H) ths us → Paired (ThAt K H) ths vs → Paired (Eqd K H (n + 2)) us vs
  | _, _, _, _, .nil, .nil, .nil => .nil
  | _, _, _, _, .cons o t, .cons a r, .cons b s => .cons (th_eqd o a b n) (ths_eqd n t r s)
theorem dd_eqd {K : PySem.W.Frag} {H : Hp} {d : Dd} {u v : V} (ho : DdOk d) (h1 : DdAt K H d u) (h2 : DdAt K H d v) : Eqd K H 7 u v := by
  cases ho with
  | plain hk hp =>
    obtain ⟨k1, k2, k3, k4, k5⟩ := hk.facts
    obtain ⟨a, us, rfl, h1, q1⟩ := h1
    obtain ⟨b, vs, rfl, h2, q2⟩ := h2
    have e1 := pair_len hp
    have e2 := pair_len q1
    exact .inr ⟨a, b, _, _, rfl, rfl, h1, h2, .cons (.str _) (ths_eqd 4 hp q1 q2), by rw [List.length_cons]; omega⟩
  | trial w1 w2 w3 w4 hg =>
    obtain ⟨a, av, rv, sv, rfl, h1, a1, a2, a3⟩ := h1
    obtain ⟨b, av', rv', sv', rfl, h2, b1, b2, b3⟩ := h2
    exact .inr ⟨a, b, _, _, rfl, rfl, h1, h2, .cons (.str _) (.cons (.str _) (.cons (.str _) (.cons (th_eqd w3 a1 b1 4) (.cons (ru_eqd a3 b3 hg.hgt) (.cons (th_eqd w4 a2 b2 4) .nil))))), by simp⟩
def spSame (K : PySem.W.Frag) (n : Nat) : Sp := fun vs H Q _ => ∃ (m : Nat) (f d : V), n = m + 1 ∧ vs = [f, d] ∧ Eqd K H m f d ∧ ∀ H', Same H H' → Q (.bl true) H'
theorem eqd_cases {K : PySem.W.Frag} {H : Hp} {n : Nat} {f d : V} (h : Eqd K H n f d) : (∃ x, f = .str x ∧ d = .str x) ∨ (∃ i, f = .int i ∧ d = .int i) ∨ ∃ m a b xs ys, n = m + 1 ∧ f = .ref a ∧ d = .ref b ∧ SqT K H a xs ∧ SqT K H b ys ∧ Paired (Eqd K H m) xs ys ∧ xs.length ≤ 100 := by
  cases n with
  | zero =>
    rcases h with h | h
    · exact .inl h
    · exact .inr (.inl h)
  | succ n =>
    rcases h with (h | h) | ⟨a, b, xs, ys, h⟩
    · exact .inl h
    · exact .inr (.inl h)
    · exact .inr (.inr ⟨n, a, b, xs, ys, rfl, h⟩)
theorem atI_at {xs : List V} {i : Nat} {v : V} (h : xs[i]? = some v) : atI xs (0 + (i : Int)) = some v := by
  rw [Int.zero_add]
  exact atI_nat' h
section
variable {P : Program} {w : World} {K : PySem.W.Frag} {mg : Str → Option Value} {base : Heap} {a : Adr}
theorem ok_Lsame (T : Txt K mg a) : ∀ n : Nat, FnOk P w K mg base CX0 (n + 1) a.Lsame a.fd_Lsame ["_law_found", "_law_due"] (spSame K n)
  | 0 => by
    refine T.f_Lsame.ok sc_Lsame (fun vs H Q E h => ?_) (fun cdv A outer s H vs Q E hr h => ?_)
    · obtain ⟨m, f, d, hm, rfl, _⟩ := h
      rfl
    · obtain ⟨m, f, d, hm, rfl, _⟩ := h
      omega
  | n + 1 => by
    have ih := ok_Lsame T n
    refine T.f_Lsame.ok sc_Lsame (fun vs H Q E h => ?_) (fun cdv A outer s H vs Q E hr h => ?_)
    · obtain ⟨m, f, d, hm, rfl, _⟩ := h
      rfl
    · obtain ⟨m, f, d, hm, rfl, he, q⟩ := h
      obtain rfl : n = m := by omega
      refine ⟨_, (pss_cons (ps_if (pt_truthK K rfl (pe_callB (call_isiTK K rfl) (by rfl) T.n_isinstance L2.boot_isinstance (pa_cons (pv 1) (pa_cons (pe_ty rfl T.n_tuple L2.boot_tuple) pa_nil))) (fun _ => rfl)) (pss_cons (ps_if (PW.pt (pw_or (pt_not (pt_truthK K rfl (pe_callB (call_isiTK K rfl) (by rfl) T.n_isinstance L2.boot_isinstance (pa_cons (pv 0) (pa_cons (pe_ty rfl T.n_tuple L2.boot_tuple) pa_nil))) (fun _ => rfl))) (pw_or1 (pt_cmpR op_ne (pe_callB (call_lenK K rfl) (by rfl) T.n_len L2.boot_len (pa_cons (pv 0) pa_nil)) (pe_callB (call_lenK K rfl) (by rfl) T.n_len L2.boot_len (pa_cons (pv 1) pa_nil)) (nomark _))))) (pss_one (ps_ret pe_bl)) pss_nil)
  (pss_one (ps_ret (pe_callB (call_allK K rfl rfl) (by rfl) T.n_all L2.boot_all (pa_cons (comp_of ["_law_found", "_law_due"] ["_law_k"] [] [2] (defScope s_Lsame) rfl rfl rfl (by decide +kernel) (by decide +kernel) (gk_name 2)
    (pi_range1 rfl T.n_range (pa_cons (pe_callB (call_lenK K rfl) (by rfl) T.n_len L2.boot_len (pa_cons (pv 1) pa_nil)) pa_nil)) (fun cl C s₀ H₀ ex => ⟨(pg_name (i := 2) (show List.Nodup ((["_law_found", "_law_due"] : List PySem.Str) ++ (["_law_k"] : List PySem.Str)) by decide +kernel) rfl (by first | exact Or.inl rfl | exact Or.inr rfl)), pts_nil, (pe_call ih hr rfl T.m_Lsame T.f_Lsame.kp T.b_Lsame .nil pass0 (pa_cons (pe_ix (ix_tupK K rfl) (pv 0) (pv 2) (fun _ _ => rfl)) (pa_cons (pe_ix (ix_tupK K rfl) (pv 1) (pv 2) (fun _ _ => rfl)) pa_nil)))⟩)) pa_nil))))) pss_nil)
  (pss_cons (ps_if (pt_truthK K rfl (pe_callB (call_isiTK K rfl) (by rfl) T.n_isinstance L2.boot_isinstance (pa_cons (pv 1) (pa_cons (pe_ty rfl T.n_str L2.boot_str) pa_nil))) (fun _ => rfl)) (pss_one (ps_ret (pe_and (pe_callB (call_isiTK K rfl) (by rfl) T.n_isinstance L2.boot_isinstance (pa_cons (pv 0) (pa_cons (pe_ty rfl T.n_str L2.boot_str) pa_nil))) (pe_one (pe_cmpR op_eq (pv 0) (pv 1) (nomark _)))))) pss_nil)
  (pss_one (ps_ret (pe_and (pe_callB (call_isiTK K rfl) (by rfl) T.n_isinstance L2.boot_isinstance (pa_cons (pv 0) (pa_cons (pe_ty rfl T.n_int L2.boot_int) pa_nil))) (pe_and (pe_not (pe_callB (call_isiTK K rfl) (by rfl) T.n_isinstance L2.boot_isinstance (pa_cons (pv 0) (pa_cons (pe_ty rfl T.n_bool L2.boot_bool) pa_nil)))) (pe_one (pe_cmpR op_eq (pv 0) (pv 1) (nomark _))))))))), ?_⟩
      rcases eqd_cases he with ⟨x, rfl, rfl⟩ | ⟨i, rfl, rfl⟩ | ⟨m, a1, b1, xs, ys, rfl, rfl, rfl, h1, h2, h3, h4⟩
      · refine ⟨_, rfl, _, "tuple", _, false, rfl, .inl (.str x), kit_tt (by decide +kernel), false, rfl, iteF ?_⟩
        refine ⟨_, rfl, _, "str", _, true, rfl, .inl (.str x), kit_tt (by decide +kernel), true, rfl, iteT ?_⟩
        refine ⟨_, rfl, _, "str", _, true, rfl, .inl (.str x), kit_tt (by decide +kernel), true, rfl, iteT ?_⟩
        exact ⟨_, rfl, _, rfl, rfl, to_true (p := V.str x = V.str x) rfl (q H (Same.refl _))⟩
      · refine ⟨_, rfl, _, "tuple", _, false, rfl, .inl (.int i), kit_tt (by decide +kernel), false, rfl, iteF ?_⟩
        refine ⟨_, rfl, _, "str", _, false, rfl, .inl (.int i), kit_tt (by decide +kernel), false, rfl, iteF ?_⟩
        refine ⟨_, rfl, _, "int", _, true, rfl, .inl (.int i), kit_tt (by decide +kernel), true, rfl, iteT ?_⟩
        refine ⟨_, rfl, _, "bool", _, false, rfl, .inl (.int i), kit_tt (by decide +kernel), false, rfl, _, rfl, iteT ?_⟩
        exact ⟨_, rfl, _, rfl, rfl, to_true (p := V.int i = V.int i) rfl (q H (Same.refl _))⟩
      · have hl := pair_len h3
        refine ⟨_, rfl, _, "tuple", _, true, rfl, .inr ⟨b1, _, rfl, h2, rfl⟩, kit_tt (by decide +kernel), true, rfl, iteT ?_⟩
        refine ⟨_, rfl, _, "tuple", _, true, rfl, .inr ⟨a1, _, rfl, h1, rfl⟩, kit_tt (by decide +kernel), true, rfl, iteF ?_⟩
        refine ⟨_, rfl, _, xs.length, rfl, .inr ⟨_, h1, rfl⟩, _, rfl, _, ys.length, rfl, .inr ⟨_, h2, rfl⟩, rfl, _, rfl, ?_⟩
        refine iteF' (by rw [hl]; simp) ?_
        refine ⟨_, rfl, _, ys.length, rfl, .inr ⟨_, h2, rfl⟩, ys.length, rfl, by omega, by omega, fun D hD => ?_⟩
        have sD : Same H (upd H D (.lst [])) := same_new (Same.refl _) hD
        refine comp_range (K := K) (lo := 0) (n := ((ys.length : Nat) : Int).toNat) (fun i acc H' => acc = (List.replicate i true).map V.bl ∧ Same H H' ∧ H' D = some (.lst acc)) ⟨rfl, sD, upd_same⟩ ?_ ?_
        · rintro i acc H1 hi ⟨rfl, s1, hD1⟩
          have hi2 : i < ys.length := by omega
          have e1 : xs[i]? = some (xs[i]'(by omega)) := List.getElem?_eq_getElem (by omega)
          generalize xs[i]'(by omega) = x at e1
          obtain ⟨y, e2, hxy⟩ := pair_at h3 i x e1
          refine gName_ (yes_ (iteT ?_))
          refine ⟨_, rfl, _, rfl, a1, _, _, _, rfl, rfl, Same.tseq s1 h1, atI_at e1, _, rfl, _, rfl, b1, _, _, _, rfl, rfl, Same.tseq s1 h2, atI_at e2, ?_⟩
          exact ⟨m, x, y, rfl, rfl, hxy.kp (.of s1), fun H2 s2 => ⟨s2 _ _ hD1, trues_len i (by omega), lf hi ⟨trues_snoc i, same_upd (s1.trans s2) hD, upd_same⟩⟩⟩
        · rintro acc H1 ⟨rfl, s1, hD1⟩
          refine ⟨D, _, rfl, SqL.of hD1, ?_⟩
          rw [trues_all]
          exact q _ s1
theorem ok_Lread (T : Txt K mg a) (hw : w.params = a.pm) : FnOk P w K mg base CX0 13 a.Lread a.fd_Lread ["_law_row_here"] (spReadDeed K) := by
  refine T.f_Lread.ok sc_Lread (fun vs H Q E h => ?_) (fun cdv A outer s H vs Q E hr h => ?_)
  · obtain ⟨d, rfl, _⟩ := h
    rfl
  · obtain ⟨d, rfl, ho, q⟩ := h
    refine ⟨_, (pss_cons (ps_tryN (ps_set (i := 1) sc_Lread.nd rfl (by first | exact Or.inl rfl | exact Or.inr rfl) (pe_call ((ok_read_deed T hw).mono (by first | decide | omega)) hr rfl T.m_read_deed T.f_read_deed.kp T.b_read_deed .nil pass0 (pa_cons (pv 0) pa_nil))))
  (pss_one (ps_ret (pv 1)))), ?_⟩
    exact ⟨_, rfl, d, rfl, ho, fun v H1 s1 hv => gName_ ⟨_, rfl, q v H1 s1 hv⟩⟩
theorem ok_Lread_rule (T : Txt K mg a) : FnOk P w K mg base CX0 13 a.Lread_rule a.fd_Lread_rule ["_law_row_here"] (spReadRule K) := by
  refine T.f_Lread_rule.ok sc_Lread_rule (fun vs H Q E h => ?_) (fun cdv A outer s H vs Q E hr h => ?_)
  · obtain ⟨r, ws, rfl, _⟩ := h
    rfl
  · obtain ⟨r, ws, rfl, hg, q⟩ := h
    refine ⟨_, (pss_cons (ps_tryN (ps_set (i := 1) sc_Lread_rule.nd rfl (by first | exact Or.inl rfl | exact Or.inr rfl) (pe_call ((ok_read_rule T).mono (by first | decide | omega)) hr rfl T.m_read_rule T.f_read_rule.kp T.b_read_rule .nil pass0 (pa_cons (pv 0) pa_nil))))
  (pss_one (ps_ret (pv 1)))), ?_⟩
    exact ⟨_, rfl, r, ws, rfl, hg, fun v H1 s1 hv => gName_ ⟨_, rfl, q v H1 s1 hv⟩⟩
end
def spWord : Sp := fun vs H Q _ => ∃ n : Int, vs = [.int n] ∧ ∀ (w : Str) H', Same H H' → Wd w → Q (.str w) H'
def spNumber (K : PySem.W.Frag) : Sp := fun vs H Q _ => ∃ (a : Addr) (ns : List Int) (k n : Int), vs = [.ref a, .int k, .int n] ∧ SqL K H a (ns.map V.int) ∧ ns.length ≤ 63 ∧ ∀ (z : Int) H', Same H H' → -ten30 ≤ z → z ≤ ten30 → Q (.int z) H'
def spLeaf (K : PySem.W.Frag) : Sp := fun vs H Q _ => ∃ (a wl : Addr) (ns : List Int) (k : Int) (ws : List Str), vs = [.ref a, .int k, .ref wl] ∧ SqL K H a (ns.map V.int) ∧ ns.length ≤ 63 ∧ (0 ≤ k ∧ k ≤ 1000) ∧ SqL K H wl (ws.map V.str) ∧ 0 < ws.length ∧ ws.length ≤ 1000 ∧
  ∀ (r : Ru) (rv : V) H', Same H H' → RuAt K H' r rv → RuOk ws r → r.hgt = 1 → r.cnt = 1 → Q rv H'
def spRule (K : PySem.W.Frag) : Sp := fun vs H Q _ => ∃ (a wl : Addr) (ns : List Int) (k m : Int) (ws : List Str), vs = [.ref a, .int k, .int m, .ref wl] ∧ SqL K H a (ns.map V.int) ∧ ns.length ≤ 63 ∧ (0 ≤ k ∧ k ≤ 100) ∧ (1 ≤ m ∧ m ≤ 100) ∧ SqL K H wl (ws.map V.str) ∧ 0 < ws.length ∧ ws.length ≤ 1000 ∧
  ∀ (r : Ru) (rv : V) H', Same H H' → RuAt K H' r rv → RuOk ws r → r.hgt ≤ 6 → (r.cnt : Int) < 2 * m → Q rv H'
def Item (K : PySem.W.Frag) (ws : List Str) (H : Hp) (v : V) (c : Nat) : Prop := ∃ b rv r, v = .ref b ∧ SqT K H b [rv, .int (Ru.hgt r : Nat)] ∧ RuAt K H r rv ∧ RuOk ws r ∧ r.hgt ≤ 6 ∧ r.cnt = c
theorem Item.kp {K : PySem.W.Frag} {ws : List Str} {H H' : Hp} {v : V} {c : Nat} (e : Kp H H') (h : Item K ws H v c) : Item K ws H' v c := by
  obtain ⟨b, rv, r, h1, h2, h3, h4⟩ := h
  exact ⟨b, rv, r, h1, e.tq h2, h3.kp e, h4⟩
theorem items_kp {K : PySem.W.Frag} {ws : List Str} {H H' : Hp} {vs : List V} {cs : List Nat} (e : Kp H H') (h : Paired (Item K ws H) vs cs) : Paired (Item K ws H') vs cs := paired_map (fun _ _ h => h.kp e) h
theorem pair_one {α β : Type} {R : α → β → Prop} : ∀ {ys : List α} {z : α} {cs : List β}, Paired R (ys ++ [z]) cs → ∃ cs' cz, cs = cs' ++ [cz] ∧ Paired R ys cs' ∧ R z cz
  | [], z, _, .cons h .nil => ⟨[], _, rfl, .nil, h⟩
  | y :: ys, z, _, .cons h t => by
    obtain ⟨cs', cz, rfl, h1, h2⟩ := pair_one t
    exact ⟨_ :: cs', cz, rfl, .cons h h1, h2⟩
theorem pair_two {α β : Type} {R : α → β → Prop} {ys : List α} {y z : α} {cs : List β} (h : Paired R (ys ++ [y, z]) cs) : ∃ cs' cy cz, cs = cs' ++ [cy, cz] ∧ Paired R ys cs' ∧ R y cy ∧ R z cz := by
  rw [show ys ++ [y, z] = (ys ++ [y]) ++ [z] by simp] at h
  obtain ⟨cs1, cz, rfl, h1, h2⟩ := pair_one h
  obtain ⟨cs2, cy, rfl, h3, h4⟩ := pair_one h1
  exact ⟨cs2, cy, cz, by simp, h3, h4, h2⟩
def stems : List Str := ["age", "agee", "size", "z", "abcdefghijkl", "not", "any", "least"]
def wdB (x : Str) : Bool := decide (1 ≤ x.length) && decide (x.length ≤ 12) && x.cps.toList.all fun c => decide (c ∈ lettersS.cps.toList)
theorem wd_of {x : Str} (h : wdB x = true) : Wd x := by
  unfold wdB at h
  rw [Bool.and_eq_true, Bool.and_eq_true] at h
  exact ⟨of_decide_eq_true h.1.1, of_decide_eq_true h.1.2, fun c hc => of_decide_eq_true (List.all_eq_true.mp h.2 c hc)⟩
theorem stems_ok : ∀ z ∈ stems, ∀ k ∈ List.range 12, wdB (Txt.slice z none (some (1 + (k : Int)))) = true := by decide +kernel
theorem stem_wd {z : Str} (hz : z ∈ stems) {i : Int} (h0 : 0 ≤ i) (h1 : i < 12) : Wd (Txt.slice z none (some (1 + i))) := by
  have := stems_ok z hz i.toNat (by rw [List.mem_range]; omega)
  rw [show ((i.toNat : Nat) : Int) = i by omega] at this
  exact wd_of this
section
variable {P : Program} {w : World} {K : PySem.W.Frag} {mg : Str → Option Value} {base : Heap} {a : Adr}
theorem ok_Lword (T : Txt K mg a) : FnOk P w K mg base CX0 1 a.Lword a.fd_Lword ["_law_number_here"] spWord := by
  refine T.f_Lword.ok sc_Lword (fun vs H Q E h => ?_) (fun cdv A outer s H vs Q E hr h => ?_)
  · obtain ⟨n, rfl, _⟩ := h
    rfl
  · obtain ⟨n, rfl, q⟩ := h
    refine ⟨_, (pss_cons (ps_set (i := 1) sc_Lword.nd rfl (by first | exact Or.inl rfl | exact Or.inr rfl) (pe_ix (ix_listK K rfl) (pe_lst (pa_cons pe_str (pa_cons pe_str (pa_cons pe_str (pa_cons pe_str (pa_cons pe_str (pa_cons pe_str (pa_cons pe_str (pa_cons pe_str pa_nil))))))))) (pe_op op_mod (pv 0) pe_int) (fun _ _ => rfl)))
  (pss_one (ps_ret (pe_slice sl_str (pv 1) po_none (po_some (pe_op op_add pe_int (pe_op op_mod (pe_op op_fdiv (pv 0) pe_int) pe_int))))))), ?_⟩
    refine ⟨le_size (show _ ≤ 65536 by simp), fun l hl => ?_⟩
    (repeat (first | refine ⟨_, rfl, ?_⟩ | refine ⟨_, _, rfl, rfl, ?_⟩ | refine ⟨(rfl : scal _ _ = true), ?_⟩ | refine ⟨(show CMul _ _ by first | exact .inl ⟨by decide, by decide⟩ | exact .inr ⟨by decide, by decide⟩ | exact .inl ⟨by omega, by omega⟩ | exact .inr ⟨by omega, by omega⟩), ?_⟩ | refine ⟨(show CDiv _ _ by first | exact ⟨by decide, by decide⟩ | exact ⟨by omega, by omega⟩), ?_⟩ | refine ⟨(show (0 : Int) < _ by first | omega | decide), ?_⟩ | refine ⟨(rfl : V.int 10 = V.int 10), (rfl : V.int 30 = V.int 30), ?_⟩))
    have b := mod_lt n (show (0 : Int) < 8 by decide)
    obtain ⟨v, hv, hm⟩ := atI_some (xs := [V.str "age", V.str "agee", V.str "size", V.str "z", V.str "abcdefghijkl", V.str "not", V.str "any", V.str "least"]) b.1 b.2
    refine ⟨l, _, _, _, rfl, rfl, SqL.of upd_same, hv, ?_⟩
    have hz : ∃ z : Str, v = .str z ∧ z.length ≤ 100 ∧ z ∈ stems := by
      simp only [List.mem_cons, List.not_mem_nil, or_false] at hm
      rcases hm with rfl | rfl | rfl | rfl | rfl | rfl | rfl | rfl
      all_goals exact ⟨_, rfl, by decide +kernel, by decide +kernel⟩
    obtain ⟨z, rfl, hz, hzo⟩ := hz
    have b12 := mod_lt (n / 8) (show (0 : Int) < 12 by decide)
    have hwd := stem_wd hzo b12.1 b12.2
    (repeat (first | refine ⟨_, rfl, ?_⟩ | refine ⟨_, _, rfl, rfl, ?_⟩ | refine ⟨(rfl : scal _ _ = true), ?_⟩ | refine ⟨(show CMul _ _ by first | exact .inl ⟨by decide, by decide⟩ | exact .inr ⟨by decide, by decide⟩ | exact .inl ⟨by omega, by omega⟩ | exact .inr ⟨by omega, by omega⟩), ?_⟩ | refine ⟨(show CDiv _ _ by first | exact ⟨by decide, by decide⟩ | exact ⟨by omega, by omega⟩), ?_⟩ | refine ⟨(show (0 : Int) < _ by first | omega | decide), ?_⟩ | refine ⟨(rfl : V.int 10 = V.int 10), (rfl : V.int 30 = V.int 30), ?_⟩))
    exact ⟨le_size (by omega), q _ _ (same_new (Same.refl _) hl) hwd⟩
theorem ok_Lnumber (T : Txt K mg a) : FnOk P w K mg base CX0 2 a.Lnumber a.fd_Lnumber ["_law_script", "_law_k", "_law_number_here"] (spNumber K) := by
  refine T.f_Lnumber.ok sc_Lnumber (fun vs H Q E h => ?_) (fun cdv A outer s H vs Q E hr h => ?_)
  · obtain ⟨p, ns, k, n, rfl, _⟩ := h
    rfl
  · obtain ⟨sc, ns, k, n, rfl, hS, hl, q⟩ := h
    have ten := ten30_pos
    refine ⟨_, (pss_cons (ps_set (i := 3) sc_Lnumber.nd rfl (by first | exact Or.inl rfl | exact Or.inr rfl) (pe_op op_sub (pe_op op_mod (pe_call ((ok_Lcell_at T).mono (by first | decide | omega)) hr rfl T.m_Lcell_at T.f_Lcell_at.kp T.b_Lcell_at .nil pass0 (pa_cons (pv 0) (pa_cons (pv 1) pa_nil))) (pe_op op_add (pe_op op_mul pe_int (pe_op op_ten pe_int pe_int)) pe_int)) (pe_op op_ten pe_int pe_int)))
  (pss_one (ps_ret (pe_ix (ix_listK K rfl) (pe_lst (pa_cons (pe_op op_sub (pe_op op_mod (pe_op op_fdiv (pv 2) pe_int) pe_int) pe_int) (pa_cons (pe_op op_sub (pe_op op_mod (pe_op op_fdiv (pv 2) pe_int) pe_int) pe_int) (pa_cons (pv 3) (pa_cons (pe_ix (ix_listK K rfl) (pe_lst (pa_cons (pe_op op_ten pe_int pe_int) (pa_cons (pe_un un_neg (pe_op op_ten pe_int pe_int)) pa_nil))) (pe_op op_mod (pe_op op_fdiv (pv 2) pe_int) pe_int) (fun _ _ => rfl)) pa_nil))))) (pe_op op_mod (pv 2) pe_int) (fun _ _ => rfl))))), ?_⟩
    refine ⟨_, rfl, _, rfl, sc, ns, k, rfl, hS, hl, fun c => ?_⟩
    (repeat (first | refine ⟨_, rfl, ?_⟩ | refine ⟨_, _, rfl, rfl, ?_⟩ | refine ⟨(rfl : scal _ _ = true), ?_⟩ | refine ⟨(show CMul _ _ by first | exact .inl ⟨by decide, by decide⟩ | exact .inr ⟨by decide, by decide⟩ | exact .inl ⟨by omega, by omega⟩ | exact .inr ⟨by omega, by omega⟩), ?_⟩ | refine ⟨(show CDiv _ _ by first | exact ⟨by decide, by decide⟩ | exact ⟨by omega, by omega⟩), ?_⟩ | refine ⟨(show (0 : Int) < _ by first | omega | decide), ?_⟩ | refine ⟨(rfl : V.int 10 = V.int 10), (rfl : V.int 30 = V.int 30), ?_⟩))
    refine ⟨le_size (show _ ≤ 65536 by simp), fun l1 hl1 => ?_⟩
    (repeat (first | refine ⟨_, rfl, ?_⟩ | refine ⟨_, _, rfl, rfl, ?_⟩ | refine ⟨(rfl : scal _ _ = true), ?_⟩ | refine ⟨(show CMul _ _ by first | exact .inl ⟨by decide, by decide⟩ | exact .inr ⟨by decide, by decide⟩ | exact .inl ⟨by omega, by omega⟩ | exact .inr ⟨by omega, by omega⟩), ?_⟩ | refine ⟨(show CDiv _ _ by first | exact ⟨by decide, by decide⟩ | exact ⟨by omega, by omega⟩), ?_⟩ | refine ⟨(show (0 : Int) < _ by first | omega | decide), ?_⟩ | refine ⟨(rfl : V.int 10 = V.int 10), (rfl : V.int 30 = V.int 30), ?_⟩))
    have b2 := mod_lt (n / 4) (show (0 : Int) < 2 by decide)
    obtain ⟨v, hv, hm⟩ := atI_some (xs := [V.int ten30, V.int (-ten30)]) b2.1 b2.2
    have hz : ∃ z : Int, v = .int z ∧ -ten30 ≤ z ∧ z ≤ ten30 := by
      simp only [List.mem_cons, List.not_mem_nil, or_false] at hm
      rcases hm with rfl | rfl
      all_goals exact ⟨_, rfl, by omega, by omega⟩
    obtain ⟨z, rfl, hz0, hz1⟩ := hz
    refine ⟨l1, _, _, _, rfl, rfl, SqL.of upd_same, hv, ?_⟩
    refine ⟨le_size (show _ ≤ 65536 by simp), fun l2 hl2 => ?_⟩
    (repeat (first | refine ⟨_, rfl, ?_⟩ | refine ⟨_, _, rfl, rfl, ?_⟩ | refine ⟨(rfl : scal _ _ = true), ?_⟩ | refine ⟨(show CMul _ _ by first | exact .inl ⟨by decide, by decide⟩ | exact .inr ⟨by decide, by decide⟩ | exact .inl ⟨by omega, by omega⟩ | exact .inr ⟨by omega, by omega⟩), ?_⟩ | refine ⟨(show CDiv _ _ by first | exact ⟨by decide, by decide⟩ | exact ⟨by omega, by omega⟩), ?_⟩ | refine ⟨(show (0 : Int) < _ by first | omega | decide), ?_⟩ | refine ⟨(rfl : V.int 10 = V.int 10), (rfl : V.int 30 = V.int 30), ?_⟩))
    have b4 := mod_lt n (show (0 : Int) < 4 by decide)
    try dsimp only
    have b9 := mod_lt (n / 4) (show (0 : Int) < 9 by decide)
    have hd1 : -ten30 ≤ n / 4 % 9 - 4 ∧ n / 4 % 9 - 4 ≤ ten30 := by have := ten30_big; omega
    have bc := mod_lt c (show (0 : Int) < 2 * ten30 + 1 by omega)
    have hd2 : -ten30 ≤ c % (2 * ten30 + 1) - ten30 ∧ c % (2 * ten30 + 1) - ten30 ≤ ten30 := by omega
    clear b9 bc
    generalize n / 4 % 9 - 4 = d1 at hd1 ⊢
    generalize c % (2 * ten30 + 1) - ten30 = d2 at hd2 ⊢
    obtain ⟨u, hu, hm2⟩ := atI_some (xs := [V.int d1, V.int d1, V.int d2, V.int z]) b4.1 b4.2
    have hy : ∃ y : Int, u = .int y ∧ -ten30 ≤ y ∧ y ≤ ten30 := by
      simp only [List.mem_cons, List.not_mem_nil, or_false] at hm2
      rcases hm2 with rfl | rfl | rfl | rfl
      · exact ⟨_, rfl, hd1⟩
      · exact ⟨_, rfl, hd1⟩
      · exact ⟨_, rfl, hd2⟩
      · exact ⟨_, rfl, hz0, hz1⟩
    obtain ⟨y, rfl, hy0, hy1⟩ := hy
    exact ⟨l2, _, _, _, rfl, rfl, SqL.of upd_same, hu, q y _ (same_new (same_new (Same.refl _) hl1) hl2) hy0 hy1⟩
theorem atI_strs {ws : List Str} {i : Int} (h0 : 0 ≤ i) (h1 : i < ws.length) : ∃ w, atI (ws.map V.str) i = some (.str w) ∧ w ∈ ws := by
  obtain ⟨v, hv, hm⟩ := atI_some (xs := ws.map V.str) h0 (by rw [List.length_map]; exact h1)
  obtain ⟨w, hw, rfl⟩ := List.mem_map.mp hm
  exact ⟨w, hv, hw⟩
theorem ok_Lleaf (T : Txt K mg a) : FnOk P w K mg base CX0 3 a.Lleaf a.fd_Lleaf ["_law_script", "_law_k", "_law_words_here"] (spLeaf K) := by
  refine T.f_Lleaf.ok sc_Lleaf (fun vs H Q E h => ?_) (fun cdv A outer s H vs Q E hr h => ?_)
  · obtain ⟨p, wl, ns, k, ws, rfl, _⟩ := h
    rfl
  · obtain ⟨sc, wl, ns, k, ws, rfl, hS, hl, ⟨k0, k1⟩, hW, w0, w1, q⟩ := h
    refine ⟨_, (pss_cons (ps_set (i := 3) sc_Lleaf.nd rfl (by first | exact Or.inl rfl | exact Or.inr rfl) (pe_call ((ok_Lmixed T).mono (by first | decide | omega)) hr rfl T.m_Lmixed T.f_Lmixed.kp T.b_Lmixed .nil pass0 (pa_cons (pv 0) (pa_cons (pv 1) (pa_cons pe_int pa_nil)))))
  (pss_cons (ps_set (i := 4) sc_Lleaf.nd rfl (by first | exact Or.inl rfl | exact Or.inr rfl) (pe_ix (ix_listK K rfl) (pv 2) (pe_op op_mod (pe_op op_fdiv (pv 3) pe_int) (pe_callB (call_lenK K rfl) (by rfl) T.n_len L2.boot_len (pa_cons (pv 2) pa_nil))) (fun _ _ => rfl)))
  (pss_cons (ps_if (pt_cmpR op_eq (pe_op op_mod (pv 3) pe_int) pe_int (nomark _)) (pss_one (ps_ret (pe_tup (pa_cons pe_str pa_nil)))) pss_nil)
  (pss_cons (ps_if (pt_cmpR op_lt (pe_op op_mod (pv 3) pe_int) pe_int (nomark _)) (pss_one (ps_ret (pe_tup (pa_cons pe_str (pa_cons (pv 4) pa_nil))))) pss_nil)
  (pss_one (ps_ret (pe_tup (pa_cons pe_str (pa_cons (pv 4) (pa_cons (pe_call ((ok_Lnumber T).mono (by first | decide | omega)) hr rfl T.m_Lnumber T.f_Lnumber.kp T.b_Lnumber .nil pass0 (pa_cons (pv 0) (pa_cons (pv 1) (pa_cons (pe_op op_fdiv (pv 3) pe_int) pa_nil)))) pa_nil)))))))))), ?_⟩
    refine ⟨_, rfl, _, rfl, sc, ns, k, 11, rfl, hS, hl, ⟨by omega, by omega⟩, ⟨by decide, by decide⟩, fun x x0 x1 => ?_⟩
    have bw := mod_lt (x / 6) (show (0 : Int) < ws.length by omega)
    obtain ⟨wd, hwd, hwm⟩ := atI_strs bw.1 bw.2
    refine ⟨_, rfl, _, rfl, _, _, rfl, rfl, ⟨by decide, by decide⟩, _, rfl, _, ws.length, rfl, .inl ⟨_, hW, by simp⟩, _, _, rfl, rfl, by omega, wl, _, _, _, rfl, rfl, hW, hwd, ?_⟩
    (repeat (first | refine ⟨_, rfl, ?_⟩ | refine ⟨_, _, rfl, rfl, ?_⟩ | refine ⟨(rfl : scal _ _ = true), ?_⟩ | refine ⟨(show CMul _ _ by first | exact .inl ⟨by decide, by decide⟩ | exact .inr ⟨by decide, by decide⟩ | exact .inl ⟨by omega, by omega⟩ | exact .inr ⟨by omega, by omega⟩), ?_⟩ | refine ⟨(show CDiv _ _ by first | exact ⟨by decide, by decide⟩ | exact ⟨by omega, by omega⟩), ?_⟩ | refine ⟨(show (0 : Int) < _ by first | omega | decide), ?_⟩ | refine ⟨(rfl : V.int 10 = V.int 10), (rfl : V.int 30 = V.int 30), ?_⟩))
    refine iteI (fun _ => ?_) (fun _ => ?_)
    · refine ⟨le_size (show _ ≤ 65536 by simp), fun t ht => ?_⟩
      exact q .any _ _ (same_new (Same.refl _) ht) (.any (SqT.of upd_same)) .any rfl rfl
    (repeat (first | refine ⟨_, rfl, ?_⟩ | refine ⟨_, _, rfl, rfl, ?_⟩ | refine ⟨(rfl : scal _ _ = true), ?_⟩ | refine ⟨(show CMul _ _ by first | exact .inl ⟨by decide, by decide⟩ | exact .inr ⟨by decide, by decide⟩ | exact .inl ⟨by omega, by omega⟩ | exact .inr ⟨by omega, by omega⟩), ?_⟩ | refine ⟨(show CDiv _ _ by first | exact ⟨by decide, by decide⟩ | exact ⟨by omega, by omega⟩), ?_⟩ | refine ⟨(show (0 : Int) < _ by first | omega | decide), ?_⟩ | refine ⟨(rfl : V.int 10 = V.int 10), (rfl : V.int 30 = V.int 30), ?_⟩))
    refine iteD (fun _ => ?_) (fun _ => ?_)
    · refine ⟨_, rfl, le_size (show _ ≤ 65536 by simp), fun t ht => ?_⟩
      exact q (.has wd) _ _ (same_new (Same.refl _) ht) (.has (SqT.of upd_same)) (.has hwm) rfl rfl
    (repeat (first | refine ⟨_, rfl, ?_⟩ | refine ⟨_, _, rfl, rfl, ?_⟩ | refine ⟨(rfl : scal _ _ = true), ?_⟩ | refine ⟨(show CMul _ _ by first | exact .inl ⟨by decide, by decide⟩ | exact .inr ⟨by decide, by decide⟩ | exact .inl ⟨by omega, by omega⟩ | exact .inr ⟨by omega, by omega⟩), ?_⟩ | refine ⟨(show CDiv _ _ by first | exact ⟨by decide, by decide⟩ | exact ⟨by omega, by omega⟩), ?_⟩ | refine ⟨(show (0 : Int) < _ by first | omega | decide), ?_⟩ | refine ⟨(rfl : V.int 10 = V.int 10), (rfl : V.int 30 = V.int 30), ?_⟩))
    refine ⟨sc, ns, k, x / 60, rfl, hS, hl, fun z H1 s1 z0 z1 => ?_⟩
    refine ⟨le_size (show _ ≤ 65536 by simp), fun t ht => ?_⟩
    exact q (.least wd z) _ _ (same_new s1 ht) (.least (SqT.of upd_same)) (.least hwm z0 z1) rfl rfl
end
theorem both_item {K : PySem.W.Frag} {ws : List Str} {H : Hp} {q r : Ru} {v u : V} {wd : Str} {t1 t2 : Addr} {z : Int} (hw : wd = "both" ∨ wd = "either") (hq : RuAt K H q v) (hr : RuAt K H r u) (oq : RuOk ws q) (orr : RuOk ws r) (hq6 : q.hgt < 6) (hr6 : r.hgt < 6)
    (ht1 : SqT K H t1 [.str wd, v, u]) (ht2 : SqT K H t2 [.ref t1, .int z]) (hz : z = 1 + (if (r.hgt : Int) > q.hgt then (r.hgt : Int) else q.hgt)) : Item K ws H (.ref t2) (q.cnt + r.cnt + 1) := by
  have e : z = ((max q.hgt r.hgt + 1 : Nat) : Int) := by
    rw [hz]
    split <;> omega
  rcases hw with rfl | rfl
  · exact ⟨t2, _, .both q r, rfl, by rw [e] at ht2; exact ht2, .both ht1 hq hr, .both oq orr, by show max q.hgt r.hgt + 1 ≤ 6; omega, by simp [Ru.cnt, Ru.subs]⟩
  · exact ⟨t2, _, .either q r, rfl, by rw [e] at ht2; exact ht2, .either ht1 hq hr, .either oq orr, by show max q.hgt r.hgt + 1 ≤ 6; omega, by simp [Ru.cnt, Ru.subs]⟩
theorem both_max {i j : Nat} (h : (if (j : Int) > i then (j : Int) else i) < 6) : i < 6 ∧ j < 6 := by
  split at h <;> omega
section
variable {P : Program} {w : World} {K : PySem.W.Frag} {mg : Str → Option Value} {base : Heap} {a : Adr}
theorem ok_Lrule (T : Txt K mg a) : FnOk P w K mg base CX0 4 a.Lrule a.fd_Lrule ["_law_script", "_law_at", "_law_many", "_law_words_here"] (spRule K) := by
  refine T.f_Lrule.ok sc_Lrule (fun vs H Q E h => ?_) (fun cdv A outer s H vs Q E hr h => ?_)
  · obtain ⟨p, wl, ns, k, m, ws, rfl, _⟩ := h
    rfl
  · obtain ⟨sc, wl, ns, k, m, ws, rfl, hS, hl, ⟨k0, k1⟩, ⟨m0, m1⟩, hW, w0, w1, q⟩ := h
    refine ⟨_, (pss_cons (ps_set (i := 4) sc_Lrule.nd rfl (by first | exact Or.inl rfl | exact Or.inr rfl) (pe_lst pa_nil))
  (pss_cons (ps_for PassesOwn.never rfl (pi_range2 rfl T.n_range (pa_cons (pv 1) (pa_cons (pe_op op_add (pv 1) (pv 2)) pa_nil))) (pg_name (i := 5) sc_Lrule.nd rfl (by first | exact Or.inl rfl | exact Or.inr rfl))
  (pss_cons (ps_set (i := 6) sc_Lrule.nd rfl (by first | exact Or.inl rfl | exact Or.inr rfl) (pe_call ((ok_Lmixed T).mono (by first | decide | omega)) hr rfl T.m_Lmixed T.f_Lmixed.kp T.b_Lmixed .nil pass0 (pa_cons (pv 0) (pa_cons (pv 5) (pa_cons pe_int pa_nil)))))
  (pss_one (ps_if (PW.pt (pw_and (pt_cmpR op_eq (pe_op op_mod (pv 6) pe_int) pe_int (nomark _)) (pw_and (pt_cmpR op_gt (pe_callB (call_lenK K rfl) (by rfl) T.n_len L2.boot_len (pa_cons (pv 4) pa_nil)) pe_int (nomark _)) (pw_and1 (pt_cmpR op_lt (pe_ix (ix_tupK K rfl) (pe_ix (ix_listK K rfl) (pv 4) (pe_un un_neg pe_int) (fun _ _ => rfl)) pe_int (fun _ _ => rfl)) pe_int (nomark _)))))) (pss_cons (ps_asg (pe_bm0K K rfl PySem.F.plainAttrs_list PySem.F.slot_list_pop PySem.F.type_list_pop mt_pop (pv 4)) (pg_tupK K rfl rfl (pgs_cons (pg_name (i := 7) sc_Lrule.nd rfl (by first | exact Or.inl rfl | exact Or.inr rfl)) (pgs_cons (pg_name (i := 8) sc_Lrule.nd rfl (by first | exact Or.inl rfl | exact Or.inr rfl)) pgs_nil))))
  (pss_one (ps_expr (pe_bmK K rfl PySem.F.plainAttrs_list PySem.F.slot_list_append PySem.F.type_list_append mt_append (pv 4) (pa_cons (pe_tup (pa_cons (pe_tup (pa_cons pe_str (pa_cons (pv 7) pa_nil))) (pa_cons (pe_op op_add (pv 8) pe_int) pa_nil))) pa_nil))))) (pss_one (ps_if (PW.pt (pw_and (pt_cmpR op_eq (pe_op op_mod (pv 6) pe_int) pe_int (nomark _)) (pw_and (pt_cmpR op_gt (pe_callB (call_lenK K rfl) (by rfl) T.n_len L2.boot_len (pa_cons (pv 4) pa_nil)) pe_int (nomark _)) (pw_and1 (pt_cmpR op_lt (pe_callB (call_max2 rfl) (by rfl) T.n_max L2.boot_max (pa_cons (pe_ix (ix_tupK K rfl) (pe_ix (ix_listK K rfl) (pv 4) (pe_un un_neg pe_int) (fun _ _ => rfl)) pe_int (fun _ _ => rfl)) (pa_cons (pe_ix (ix_tupK K rfl) (pe_ix (ix_listK K rfl) (pv 4) (pe_un un_neg pe_int) (fun _ _ => rfl)) pe_int (fun _ _ => rfl)) pa_nil))) pe_int (nomark _)))))) (pss_cons (ps_asg (pe_bm0K K rfl PySem.F.plainAttrs_list PySem.F.slot_list_pop PySem.F.type_list_pop mt_pop (pv 4)) (pg_tupK K rfl rfl (pgs_cons (pg_name (i := 9) sc_Lrule.nd rfl (by first | exact Or.inl rfl | exact Or.inr rfl)) (pgs_cons (pg_name (i := 10) sc_Lrule.nd rfl (by first | exact Or.inl rfl | exact Or.inr rfl)) pgs_nil))))
  (pss_cons (ps_asg (pe_bm0K K rfl PySem.F.plainAttrs_list PySem.F.slot_list_pop PySem.F.type_list_pop mt_pop (pv 4)) (pg_tupK K rfl rfl (pgs_cons (pg_name (i := 7) sc_Lrule.nd rfl (by first | exact Or.inl rfl | exact Or.inr rfl)) (pgs_cons (pg_name (i := 8) sc_Lrule.nd rfl (by first | exact Or.inl rfl | exact Or.inr rfl)) pgs_nil))))
  (pss_cons (ps_set (i := 11) sc_Lrule.nd rfl (by first | exact Or.inl rfl | exact Or.inr rfl) (pe_ix (ix_listK K rfl) (pe_lst (pa_cons pe_str (pa_cons pe_str pa_nil))) (pe_op op_mod (pe_op op_fdiv (pv 6) pe_int) pe_int) (fun _ _ => rfl)))
  (pss_one (ps_expr (pe_bmK K rfl PySem.F.plainAttrs_list PySem.F.slot_list_append PySem.F.type_list_append mt_append (pv 4) (pa_cons (pe_tup (pa_cons (pe_tup (pa_cons (pv 11) (pa_cons (pv 7) (pa_cons (pv 9) pa_nil)))) (pa_cons (pe_op op_add pe_int (pe_callB (call_max2 rfl) (by rfl) T.n_max L2.boot_max (pa_cons (pv 8) (pa_cons (pv 10) pa_nil)))) pa_nil))) pa_nil))))))) (pss_one (ps_expr (pe_bmK K rfl PySem.F.plainAttrs_list PySem.F.slot_list_append PySem.F.type_list_append mt_append (pv 4) (pa_cons (pe_tup (pa_cons (pe_call ((ok_Lleaf T).mono (by first | decide | omega)) hr rfl T.m_Lleaf T.f_Lleaf.kp T.b_Lleaf .nil pass0 (pa_cons (pv 0) (pa_cons (pv 5) (pa_cons (pv 3) pa_nil)))) (pa_cons pe_int pa_nil))) pa_nil))))))))))
  (pss_cons (ps_while PassesOwn.never (PW.pt (pw_and (pt_cmpR op_gt (pe_callB (call_lenK K rfl) (by rfl) T.n_len L2.boot_len (pa_cons (pv 4) pa_nil)) pe_int (nomark _)) (pw_and1 (pt_cmpR op_lt (pe_callB (call_max2 rfl) (by rfl) T.n_max L2.boot_max (pa_cons (pe_ix (ix_tupK K rfl) (pe_ix (ix_listK K rfl) (pv 4) (pe_un un_neg pe_int) (fun _ _ => rfl)) pe_int (fun _ _ => rfl)) (pa_cons (pe_ix (ix_tupK K rfl) (pe_ix (ix_listK K rfl) (pv 4) (pe_un un_neg pe_int) (fun _ _ => rfl)) pe_int (fun _ _ => rfl)) pa_nil))) pe_int (nomark _))))) (pss_cons (ps_asg (pe_bm0K K rfl PySem.F.plainAttrs_list PySem.F.slot_list_pop PySem.F.type_list_pop mt_pop (pv 4)) (pg_tupK K rfl rfl (pgs_cons (pg_name (i := 9) sc_Lrule.nd rfl (by first | exact Or.inl rfl | exact Or.inr rfl)) (pgs_cons (pg_name (i := 10) sc_Lrule.nd rfl (by first | exact Or.inl rfl | exact Or.inr rfl)) pgs_nil))))
  (pss_cons (ps_asg (pe_bm0K K rfl PySem.F.plainAttrs_list PySem.F.slot_list_pop PySem.F.type_list_pop mt_pop (pv 4)) (pg_tupK K rfl rfl (pgs_cons (pg_name (i := 7) sc_Lrule.nd rfl (by first | exact Or.inl rfl | exact Or.inr rfl)) (pgs_cons (pg_name (i := 8) sc_Lrule.nd rfl (by first | exact Or.inl rfl | exact Or.inr rfl)) pgs_nil))))
  (pss_cons (ps_set (i := 11) sc_Lrule.nd rfl (by first | exact Or.inl rfl | exact Or.inr rfl) (pe_ix (ix_listK K rfl) (pe_lst (pa_cons pe_str (pa_cons pe_str pa_nil))) (pe_op op_mod (pe_call ((ok_Lmixed T).mono (by first | decide | omega)) hr rfl T.m_Lmixed T.f_Lmixed.kp T.b_Lmixed .nil pass0 (pa_cons (pv 0) (pa_cons (pe_op op_add (pv 1) (pe_callB (call_lenK K rfl) (by rfl) T.n_len L2.boot_len (pa_cons (pv 4) pa_nil))) (pa_cons pe_int pa_nil)))) pe_int) (fun _ _ => rfl)))
  (pss_one (ps_expr (pe_bmK K rfl PySem.F.plainAttrs_list PySem.F.slot_list_append PySem.F.type_list_append mt_append (pv 4) (pa_cons (pe_tup (pa_cons (pe_tup (pa_cons (pv 11) (pa_cons (pv 7) (pa_cons (pv 9) pa_nil)))) (pa_cons (pe_op op_add pe_int (pe_callB (call_max2 rfl) (by rfl) T.n_max L2.boot_max (pa_cons (pv 8) (pa_cons (pv 10) pa_nil)))) pa_nil))) pa_nil))))))))
  (pss_one (ps_ret (pe_ix (ix_tupK K rfl) (pe_ix (ix_listK K rfl) (pv 4) (pe_un un_neg pe_int) (fun _ _ => rfl)) pe_int (fun _ _ => rfl))))))), ?_⟩
    refine ⟨le_size (show _ ≤ 65536 by simp), fun l hl' => ?_⟩
    refine gName_ ⟨_, rfl, _, rfl, _, rfl, _, _, rfl, rfl, _, _, rfl, ⟨by omega, by omega, by omega, by omega⟩, ?_⟩
    have ln : (k + m - k).toNat = m.toNat := by omega
    rw [ln]
    refine for_range (lo := k) (n := m.toNat) (fun i σ H' => Same H H' ∧ ∃ vs : List V, H' l = some (.lst vs) ∧ (∃ cs, Paired (Item K ws H') vs cs ∧ cs.sum ≤ i) ∧ (0 < i → vs ≠ []) ∧ vs.length ≤ i ∧ ∃ v5 v6 v7 v8 v9 v10 v11, σ = [some (.ref sc), some (.int k), some (.int m), some (.ref wl), some (.ref l), v5, v6, v7, v8, v9, v10, v11])
      ⟨same_new (Same.refl _) hl', [], upd_same, ⟨[], .nil, Nat.le_refl _⟩, (fun h => absurd h (Nat.lt_irrefl _)), Nat.le_refl _, _, _, _, _, _, _, _, rfl⟩ ?_ ?_
    · rintro i σ H1 hi ⟨s1, vs, hL, ⟨cs, hI, hcs⟩, hne, hlen, v5, v6, v7, v8, v9, v10, v11, rfl⟩
      refine gName_ ⟨_, rfl, _, rfl, sc, ns, _, 12, rfl, s1.seq hS, hl, ⟨by omega, by omega⟩, ⟨by decide, by decide⟩, fun x x0 x1 => gName_ ?_⟩
      have push : ∀ (vs2 : List V) (H2 : Hp) (b : Addr) (σ2 : St) (cs2 : List Nat) (c : Nat), Same H H2 → Paired (Item K ws H2) vs2 cs2 → cs2.sum + c ≤ i + 1 → vs2.length ≤ i → H2 l = some (.lst vs2) → Item K ws H2 (.ref b) c →
          (∃ v5 v6 v7 v8 v9 v10 v11, σ2 = [some (V.ref sc), some (V.int k), some (V.int m), some (V.ref wl), some (V.ref l), v5, v6, v7, v8, v9, v10, v11]) →
          Same H (upd H2 l (.lst (vs2 ++ [.ref b]))) ∧ ∃ vs : List V, upd H2 l (.lst (vs2 ++ [.ref b])) l = some (.lst vs) ∧ (∃ cs, Paired (Item K ws (upd H2 l (.lst (vs2 ++ [.ref b])))) vs cs ∧ cs.sum ≤ i + 1) ∧ (0 < i + 1 → vs ≠ []) ∧ vs.length ≤ i + 1 ∧
            ∃ v5 v6 v7 v8 v9 v10 v11, σ2 = [some (V.ref sc), some (V.int k), some (V.int m), some (V.ref wl), some (V.ref l), v5, v6, v7, v8, v9, v10, v11] := by
        intro vs2 H2 b σ2 cs2 c s2 hI2 hc2 hl2 hL2 hb hσ
        exact ⟨same_upd s2 hl', _, upd_same, ⟨cs2 ++ [c], items_kp (.lst hL2) (pr_append hI2 (.cons hb .nil)), by rw [List.sum_append]; simpa using hc2⟩, fun _ => by simp, by simp; omega, hσ⟩
      dsimp only
      refine elseOnce ?_ (fun U hU => ?_)
      · -- not the first
        refine elseOnce ?_ (fun U hU => ?_)
        · -- a leaf
          refine ⟨_, rfl, .inl ⟨rfl, _, SqL.of hL⟩, _, rfl, _, rfl, _, rfl, sc, wl, ns, _, ws, rfl, s1.seq hS, hl, ⟨by omega, by omega⟩, s1.seq hW, w0, w1, fun r rv H2 s2 hR hRo hh hc1 => ?_⟩
          refine ⟨le_size (show _ ≤ 65536 by simp), fun t ht => ?_⟩
          have s3 : Same H1 (upd H2 t (.tup [rv, .int 1])) := same_new s2 ht
          refine ⟨l, _, _, rfl, rfl, s3 _ _ hL, by rw [sizeLine_eq]; omega, ?_⟩
          refine push vs _ t _ cs 1 (s1.trans s3) (items_kp (.of s3) hI) (by omega) hlen (s3 _ _ hL) ⟨t, rv, r, rfl, ?_, hR.kp (.new ht), hRo, by omega, hc1⟩ ⟨_, _, _, _, _, _, _, rfl⟩
          rw [hh]
          exact SqT.of upd_same
        · -- both, either
          (repeat (first | refine ⟨_, rfl, ?_⟩ | refine ⟨_, _, rfl, rfl, ?_⟩ | refine ⟨(rfl : scal _ _ = true), ?_⟩ | refine ⟨(show CMul _ _ by first | exact .inl ⟨by decide, by decide⟩ | exact .inr ⟨by decide, by decide⟩ | exact .inl ⟨by omega, by omega⟩ | exact .inr ⟨by omega, by omega⟩), ?_⟩ | refine ⟨(show CDiv _ _ by first | exact ⟨by decide, by decide⟩ | exact ⟨by omega, by omega⟩), ?_⟩ | refine ⟨(show (0 : Int) < _ by first | omega | decide), ?_⟩ | refine ⟨(rfl : V.int 10 = V.int 10), (rfl : V.int 30 = V.int 30), ?_⟩))
          refine iteI (fun _ => ?_) (fun _ => iteF hU)
          refine ⟨_, rfl, _, vs.length, rfl, .inl ⟨_, SqL.of hL, rfl⟩, _, _, rfl, rfl, _, rfl, iteD (fun h2 => ?_) (fun _ => iteF hU)⟩
          obtain ⟨ys, y, z, rfl⟩ := concat2_of (xs := vs) (by omega)
          obtain ⟨cs', cy, cz, rfl, hI', hy', hz'⟩ := pair_two hI
          obtain ⟨zb, zv, zr, rfl, hZ, hZR, hZo, hZh, rfl⟩ := hz'
          obtain ⟨yb, yv, yr, rfl, hY, hYR, hYo, hYh, rfl⟩ := hy'
          have e1 : atI (ys ++ [V.ref yb, V.ref zb]) (-1) = some (V.ref zb) := by
            rw [show ys ++ [V.ref yb, V.ref zb] = (ys ++ [V.ref yb]) ++ [V.ref zb] by simp]
            exact atI_last _ _
          refine ⟨_, rfl, _, rfl, l, _, _, _, rfl, rfl, SqL.of hL, e1, zb, _, 1, _, rfl, rfl, hZ, rfl, _, rfl, _, rfl, l, _, _, _, rfl, rfl, SqL.of hL, atI_end2 _ _ _, yb, _, 1, _, rfl, rfl, hY, rfl, _, _, rfl, _, _, rfl, rfl, _, rfl, iteD (fun h3 => ?_) (fun _ => hU)⟩
          obtain ⟨hz6, hy6⟩ := both_max h3
          have hL' : H1 l = some (.lst ((ys ++ [.ref yb]) ++ [.ref zb])) := by rw [hL]; simp
          refine ⟨_, rfl, .inl ⟨rfl, _, SqL.of hL'⟩, l, _, _, rfl, rfl, hL', getLast_end _ _, ?_⟩
          rw [List.dropLast_concat]
          have k1 : Kp H1 (upd H1 l (.lst (ys ++ [.ref yb]))) := .lst hL
          refine ⟨zb, _, rfl, k1.tq hZ, rfl, _, _, rfl, _, _, rfl, rfl, ?_⟩
          refine ⟨_, rfl, .inl ⟨rfl, _, SqL.of upd_same⟩, l, _, _, rfl, rfl, upd_same, getLast_end _ _, ?_⟩
          rw [List.dropLast_concat, upd_upd]
          have k2 : Kp H1 (upd H1 l (.lst ys)) := .lst hL
          have s2 : Same H (upd H1 l (.lst ys)) := same_upd s1 hl'
          have hL2 : upd H1 l (.lst ys) l = some (.lst ys) := upd_same
          generalize upd H1 l (.lst ys) = H2 at k2 s2 hL2 ⊢
          refine ⟨yb, _, rfl, k2.tq hY, rfl, _, _, rfl, _, _, rfl, rfl, ?_⟩
          refine ⟨le_size (show _ ≤ 65536 by simp), fun lw hlw => ?_⟩
          (repeat (first | refine ⟨_, rfl, ?_⟩ | refine ⟨_, _, rfl, rfl, ?_⟩ | refine ⟨(rfl : scal _ _ = true), ?_⟩ | refine ⟨(show CMul _ _ by first | exact .inl ⟨by decide, by decide⟩ | exact .inr ⟨by decide, by decide⟩ | exact .inl ⟨by omega, by omega⟩ | exact .inr ⟨by omega, by omega⟩), ?_⟩ | refine ⟨(show CDiv _ _ by first | exact ⟨by decide, by decide⟩ | exact ⟨by omega, by omega⟩), ?_⟩ | refine ⟨(show (0 : Int) < _ by first | omega | decide), ?_⟩ | refine ⟨(rfl : V.int 10 = V.int 10), (rfl : V.int 30 = V.int 30), ?_⟩))
          have b2 := mod_lt (x / 4) (show (0 : Int) < 2 by decide)
          obtain ⟨wv, hwv, hm⟩ := atI_some (xs := [V.str "both", V.str "either"]) b2.1 b2.2
          have hwd : ∃ wd : Str, wv = .str wd ∧ (wd = "both" ∨ wd = "either") := by
            simp only [List.mem_cons, List.not_mem_nil, or_false] at hm
            rcases hm with rfl | rfl
            · exact ⟨_, rfl, .inl rfl⟩
            · exact ⟨_, rfl, .inr rfl⟩
          obtain ⟨wd, rfl, hwd⟩ := hwd
          refine ⟨lw, _, _, _, rfl, rfl, SqL.of upd_same, hwv, ?_⟩
          have s3 := same_new (o := .lst [.str "both", .str "either"]) s2 hlw
          have k3 := k2.trans (.new (o := .lst [.str "both", .str "either"]) hlw)
          have hL3 : upd H2 lw (.lst [.str "both", .str "either"]) l = some (.lst ys) := by rw [upd_ne (ne_of_none hL2 hlw)]; exact hL2
          try dsimp only
          generalize upd H2 lw (.lst [.str "both", .str "either"]) = H3 at s3 k3 hL3 ⊢
          refine gName_ ⟨_, rfl, .inl ⟨rfl, _, SqL.of hL3⟩, _, rfl, _, rfl, _, rfl, le_size (show _ ≤ 65536 by simp), fun t1 ht1 => ?_⟩
          refine ⟨_, rfl, _, rfl, _, _, rfl, _, _, rfl, rfl, le_size (show _ ≤ 65536 by simp), fun t2 ht2 => ?_⟩
          have s5 := same_new (same_new (o := .tup [.str wd, yv, zv]) s3 ht1) ht2 (o := .tup [.ref t1, .int (1 + (if (zr.hgt : Int) > yr.hgt then (zr.hgt : Int) else yr.hgt))])
          have k5 := (k3.trans (.new (o := .tup [.str wd, yv, zv]) ht1)).trans (.new (o := .tup [.ref t1, .int (1 + (if (zr.hgt : Int) > yr.hgt then (zr.hgt : Int) else yr.hgt))]) ht2)
          have hL5 : upd (upd H3 t1 (.tup [.str wd, yv, zv])) t2 (.tup [.ref t1, .int (1 + (if (zr.hgt : Int) > yr.hgt then (zr.hgt : Int) else yr.hgt))]) l = some (.lst ys) := by
            have : upd H3 t1 (.tup [.str wd, yv, zv]) l = some (.lst ys) := by rw [upd_ne (ne_of_none hL3 ht1)]; exact hL3
            rw [upd_ne (ne_of_none this ht2)]
            exact this
          refine ⟨l, _, _, rfl, rfl, hL5, by rw [sizeLine_eq]; simp at hlen; omega, ?_⟩
          refine push ys _ t2 _ cs' (yr.cnt + zr.cnt + 1) s5 (items_kp k5 hI') (by simp at hcs; omega) (by simp at hlen; omega) hL5 (both_item hwd (hYR.kp k5) (hZR.kp k5) hYo hZo hy6 hz6 (SqT.of ?_) (SqT.of upd_same) rfl) ⟨_, _, _, _, _, _, _, rfl⟩
          have : upd H3 t1 (.tup [.str wd, yv, zv]) t1 = some (.tup [.str wd, yv, zv]) := upd_same
          rw [upd_ne (ne_of_none this ht2)]
          exact this
      · -- not
        (repeat (first | refine ⟨_, rfl, ?_⟩ | refine ⟨_, _, rfl, rfl, ?_⟩ | refine ⟨(rfl : scal _ _ = true), ?_⟩ | refine ⟨(show CMul _ _ by first | exact .inl ⟨by decide, by decide⟩ | exact .inr ⟨by decide, by decide⟩ | exact .inl ⟨by omega, by omega⟩ | exact .inr ⟨by omega, by omega⟩), ?_⟩ | refine ⟨(show CDiv _ _ by first | exact ⟨by decide, by decide⟩ | exact ⟨by omega, by omega⟩), ?_⟩ | refine ⟨(show (0 : Int) < _ by first | omega | decide), ?_⟩ | refine ⟨(rfl : V.int 10 = V.int 10), (rfl : V.int 30 = V.int 30), ?_⟩))
        refine iteI (fun _ => ?_) (fun _ => iteF hU)
        refine ⟨_, rfl, _, vs.length, rfl, .inl ⟨_, SqL.of hL, rfl⟩, _, _, rfl, rfl, _, rfl, iteD (fun h2 => ?_) (fun _ => iteF hU)⟩
        obtain ⟨ys, z, rfl⟩ := concat_of (xs := vs) (fun e => by rw [e] at h2; simp at h2)
        obtain ⟨cs', cz, rfl, hI', hz'⟩ := pair_one hI
        obtain ⟨zb, zv, zr, rfl, hZ, hZR, hZo, hZh, rfl⟩ := hz'
        refine ⟨_, rfl, _, rfl, l, _, _, _, rfl, rfl, SqL.of hL, atI_last _ _, zb, _, 1, _, rfl, rfl, hZ, rfl, _, _, rfl, rfl, _, rfl, iteD (fun h3 => ?_) (fun _ => hU)⟩
        refine ⟨_, rfl, .inl ⟨rfl, _, SqL.of hL⟩, l, _, _, rfl, rfl, hL, getLast_end _ _, ?_⟩
        rw [List.dropLast_concat]
        have k2 : Kp H1 (upd H1 l (.lst ys)) := .lst hL
        have s2 : Same H (upd H1 l (.lst ys)) := same_upd s1 hl'
        have hL2 : upd H1 l (.lst ys) l = some (.lst ys) := upd_same
        generalize upd H1 l (.lst ys) = H2 at k2 s2 hL2 ⊢
        refine ⟨zb, _, rfl, k2.tq hZ, rfl, _, _, rfl, _, _, rfl, rfl, ?_⟩
        refine ⟨_, rfl, .inl ⟨rfl, _, SqL.of hL2⟩, _, rfl, le_size (show _ ≤ 65536 by simp), fun t1 ht1 => ?_⟩
        refine ⟨_, rfl, _, _, rfl, rfl, le_size (show _ ≤ 65536 by simp), fun t2 ht2 => ?_⟩
        have s5 := same_new (same_new (o := .tup [.str "not", zv]) s2 ht1) ht2 (o := .tup [.ref t1, .int ((zr.hgt : Int) + 1)])
        have k5 := (k2.trans (.new (o := .tup [.str "not", zv]) ht1)).trans (.new (o := .tup [.ref t1, .int ((zr.hgt : Int) + 1)]) ht2)
        have hL5 : upd (upd H2 t1 (.tup [.str "not", zv])) t2 (.tup [.ref t1, .int ((zr.hgt : Int) + 1)]) l = some (.lst ys) := by
          have : upd H2 t1 (.tup [.str "not", zv]) l = some (.lst ys) := by rw [upd_ne (ne_of_none hL2 ht1)]; exact hL2
          rw [upd_ne (ne_of_none this ht2)]
          exact this
        have hT1 : upd (upd H2 t1 (.tup [.str "not", zv])) t2 (.tup [.ref t1, .int ((zr.hgt : Int) + 1)]) t1 = some (.tup [.str "not", zv]) := by
          have : upd H2 t1 (.tup [.str "not", zv]) t1 = some (.tup [.str "not", zv]) := upd_same
          rw [upd_ne (ne_of_none this ht2)]
          exact this
        refine ⟨l, _, _, rfl, rfl, hL5, by rw [sizeLine_eq]; simp at hlen; omega, ?_⟩
        refine push ys _ t2 _ cs' (zr.cnt + 1) s5 (items_kp k5 hI') (by simp at hcs; omega) (by simp at hlen; omega) hL5 ⟨t2, _, .not zr, rfl, SqT.of upd_same, .not (SqT.of hT1) (hZR.kp k5), .not hZo, by show zr.hgt + 1 ≤ 6; omega, rfl⟩ ⟨_, _, _, _, _, _, _, rfl⟩
    · rintro σ H1 ⟨s1, vs, hL, ⟨cs, hI, hcs⟩, hne, hlen, v5, v6, v7, v8, v9, v10, v11, rfl⟩
      have hne := hne (by omega)
      have hsum : cs.sum + vs.length ≤ 2 * m.toNat := by omega
      have hlen : vs.length ≤ 100 := by omega
      refine ⟨fun mm σ H' => Same H H' ∧ ∃ vs : List V, H' l = some (.lst vs) ∧ (∃ cs, Paired (Item K ws H') vs cs ∧ cs.sum + vs.length ≤ 2 * m.toNat) ∧ vs ≠ [] ∧ vs.length ≤ 100 ∧ mm = vs.length ∧ ∃ v5 v6 v7 v8 v9 v10 v11, σ = [some (.ref sc), some (.int k), some (.int m), some (.ref wl), some (.ref l), v5, v6, v7, v8, v9, v10, v11],
        ⟨_, s1, vs, hL, ⟨cs, hI, hsum⟩, hne, hlen, rfl, _, _, _, _, _, _, _, rfl⟩, ?_⟩
      clear hL hI hne hlen s1 hsum hcs cs
      rintro mm σ H1 ⟨s1, vs, hL, ⟨cs, hI, hcs⟩, hne, hlen, rfl, v5, v6, v7, v8, v9, v10, v11, rfl⟩
      have fin : ∃ zb zv zr, (∃ ys, vs = ys ++ [.ref zb]) ∧ SqT K H1 zb [zv, .int (Ru.hgt zr : Nat)] ∧ RuAt K H1 zr zv ∧ RuOk ws zr ∧ zr.hgt ≤ 6 ∧ (zr.cnt : Int) < 2 * m := by
        obtain ⟨ys, z, rfl⟩ := concat_of hne
        obtain ⟨cs', cz, rfl, hI', hz'⟩ := pair_one hI
        obtain ⟨zb, zv, zr, rfl, hZ, hZR, hZo, hZh, rfl⟩ := hz'
        exact ⟨zb, zv, zr, ⟨ys, rfl⟩, hZ, hZR, hZo, hZh, by simp at hcs; omega⟩
      refine ⟨_, rfl, _, vs.length, rfl, .inl ⟨_, SqL.of hL, rfl⟩, _, _, rfl, rfl, _, rfl, iteD (fun h2 => ?_) (fun _ => iteF ?_)⟩
      · obtain ⟨ys, y, z, rfl⟩ := concat2_of (xs := vs) (by omega)
        obtain ⟨cs', cy, cz, rfl, hI', hy', hz'⟩ := pair_two hI
        obtain ⟨zb, zv, zr, rfl, hZ, hZR, hZo, hZh, rfl⟩ := hz'
        obtain ⟨yb, yv, yr, rfl, hY, hYR, hYo, hYh, rfl⟩ := hy'
        have e1 : atI (ys ++ [V.ref yb, V.ref zb]) (-1) = some (V.ref zb) := by
          rw [show ys ++ [V.ref yb, V.ref zb] = (ys ++ [V.ref yb]) ++ [V.ref zb] by simp]
          exact atI_last _ _
        refine ⟨_, rfl, _, rfl, l, _, _, _, rfl, rfl, SqL.of hL, e1, zb, _, 1, _, rfl, rfl, hZ, rfl, _, rfl, _, rfl, l, _, _, _, rfl, rfl, SqL.of hL, atI_end2 _ _ _, yb, _, 1, _, rfl, rfl, hY, rfl, _, _, rfl, _, _, rfl, rfl, _, rfl, iteD (fun h3 => ?_) (fun _ => ?_)⟩
        · refine ⟨fun σ' H' => Same H H' ∧ ∃ vs' : List V, H' l = some (.lst vs') ∧ (∃ cs, Paired (Item K ws H') vs' cs ∧ cs.sum + vs'.length ≤ 2 * m.toNat) ∧ vs' ≠ [] ∧ vs'.length ≤ ys.length + 1 ∧ ∃ v5 v6 v7 v8 v9 v10 v11, σ' = [some (.ref sc), some (.int k), some (.int m), some (.ref wl), some (.ref l), v5, v6, v7, v8, v9, v10, v11], ?_, ?_⟩
          · rintro σ' H' ⟨a1, vs', a2, a3, a4, a5, a6⟩
            refine ⟨vs'.length, by simp; omega, a1, vs', a2, a3, a4, ?_, rfl, a6⟩
            simp at hlen
            omega
          obtain ⟨hz6, hy6⟩ := both_max h3
          have hL' : H1 l = some (.lst ((ys ++ [.ref yb]) ++ [.ref zb])) := by rw [hL]; simp
          refine ⟨_, rfl, .inl ⟨rfl, _, SqL.of hL'⟩, l, _, _, rfl, rfl, hL', getLast_end _ _, ?_⟩
          rw [List.dropLast_concat]
          have k1 : Kp H1 (upd H1 l (.lst (ys ++ [.ref yb]))) := .lst hL
          refine ⟨zb, _, rfl, k1.tq hZ, rfl, _, _, rfl, _, _, rfl, rfl, ?_⟩
          refine ⟨_, rfl, .inl ⟨rfl, _, SqL.of upd_same⟩, l, _, _, rfl, rfl, upd_same, getLast_end _ _, ?_⟩
          rw [List.dropLast_concat, upd_upd]
          have k2 : Kp H1 (upd H1 l (.lst ys)) := .lst hL
          have s2 : Same H (upd H1 l (.lst ys)) := same_upd s1 hl'
          have hL2 : upd H1 l (.lst ys) l = some (.lst ys) := upd_same
          generalize upd H1 l (.lst ys) = H2 at k2 s2 hL2 ⊢
          refine ⟨yb, _, rfl, k2.tq hY, rfl, _, _, rfl, _, _, rfl, rfl, ?_⟩
          refine ⟨le_size (show _ ≤ 65536 by simp), fun lw hlw => ?_⟩
          have s3 := same_new (o := .lst [.str "either", .str "both"]) s2 hlw
          have k3 := k2.trans (.new (o := .lst [.str "either", .str "both"]) hlw)
          have hL3 : upd H2 lw (.lst [.str "either", .str "both"]) l = some (.lst ys) := by rw [upd_ne (ne_of_none hL2 hlw)]; exact hL2
          have hLw : upd H2 lw (.lst [.str "either", .str "both"]) lw = some (.lst [.str "either", .str "both"]) := upd_same
          try dsimp only
          generalize upd H2 lw (.lst [.str "either", .str "both"]) = H3 at s3 k3 hL3 hLw ⊢
          refine ⟨_, rfl, _, rfl, _, rfl, _, ys.length, rfl, .inl ⟨_, SqL.of hL3, rfl⟩, _, _, rfl, rfl, ?_⟩
          refine ⟨sc, ns, _, 13, rfl, s3.seq hS, hl, ⟨by omega, by simp at hlen; omega⟩, ⟨by decide, by decide⟩, fun y y0 y1 => ?_⟩
          (repeat (first | refine ⟨_, rfl, ?_⟩ | refine ⟨_, _, rfl, rfl, ?_⟩ | refine ⟨(rfl : scal _ _ = true), ?_⟩ | refine ⟨(show CMul _ _ by first | exact .inl ⟨by decide, by decide⟩ | exact .inr ⟨by decide, by decide⟩ | exact .inl ⟨by omega, by omega⟩ | exact .inr ⟨by omega, by omega⟩), ?_⟩ | refine ⟨(show CDiv _ _ by first | exact ⟨by decide, by decide⟩ | exact ⟨by omega, by omega⟩), ?_⟩ | refine ⟨(show (0 : Int) < _ by first | omega | decide), ?_⟩ | refine ⟨(rfl : V.int 10 = V.int 10), (rfl : V.int 30 = V.int 30), ?_⟩))
          have b2 := mod_lt y (show (0 : Int) < 2 by decide)
          obtain ⟨wv, hwv, hm⟩ := atI_some (xs := [V.str "either", V.str "both"]) b2.1 b2.2
          have hwd : ∃ wd : Str, wv = .str wd ∧ (wd = "both" ∨ wd = "either") := by
            simp only [List.mem_cons, List.not_mem_nil, or_false] at hm
            rcases hm with rfl | rfl
            · exact ⟨_, rfl, .inr rfl⟩
            · exact ⟨_, rfl, .inl rfl⟩
          obtain ⟨wd, rfl, hwd⟩ := hwd
          refine ⟨lw, _, _, _, rfl, rfl, SqL.of hLw, hwv, ?_⟩
          refine gName_ ⟨_, rfl, .inl ⟨rfl, _, SqL.of hL3⟩, _, rfl, _, rfl, _, rfl, le_size (show _ ≤ 65536 by simp), fun t1 ht1 => ?_⟩
          refine ⟨_, rfl, _, rfl, _, _, rfl, _, _, rfl, rfl, le_size (show _ ≤ 65536 by simp), fun t2 ht2 => ?_⟩
          have s5 := same_new (same_new (o := .tup [.str wd, yv, zv]) s3 ht1) ht2 (o := .tup [.ref t1, .int (1 + (if (zr.hgt : Int) > yr.hgt then (zr.hgt : Int) else yr.hgt))])
          have k5 := (k3.trans (.new (o := .tup [.str wd, yv, zv]) ht1)).trans (.new (o := .tup [.ref t1, .int (1 + (if (zr.hgt : Int) > yr.hgt then (zr.hgt : Int) else yr.hgt))]) ht2)
          have hL5 : upd (upd H3 t1 (.tup [.str wd, yv, zv])) t2 (.tup [.ref t1, .int (1 + (if (zr.hgt : Int) > yr.hgt then (zr.hgt : Int) else yr.hgt))]) l = some (.lst ys) := by
            have : upd H3 t1 (.tup [.str wd, yv, zv]) l = some (.lst ys) := by rw [upd_ne (ne_of_none hL3 ht1)]; exact hL3
            rw [upd_ne (ne_of_none this ht2)]
            exact this
          have hT1 : upd (upd H3 t1 (.tup [.str wd, yv, zv])) t2 (.tup [.ref t1, .int (1 + (if (zr.hgt : Int) > yr.hgt then (zr.hgt : Int) else yr.hgt))]) t1 = some (.tup [.str wd, yv, zv]) := by
            have : upd H3 t1 (.tup [.str wd, yv, zv]) t1 = some (.tup [.str wd, yv, zv]) := upd_same
            rw [upd_ne (ne_of_none this ht2)]
            exact this
          have it := both_item hwd (hYR.kp k5) (hZR.kp k5) hYo hZo hy6 hz6 (SqT.of hT1) (SqT.of upd_same) rfl
          refine ⟨l, _, _, rfl, rfl, hL5, by rw [sizeLine_eq]; simp at hlen; omega, ?_⟩
          exact ⟨same_upd s5 hl', _, upd_same, ⟨cs' ++ [yr.cnt + zr.cnt + 1], items_kp (.lst hL5) (pr_append (items_kp k5 hI') (.cons it .nil)), by simp at hcs ⊢; omega⟩, by simp, by simp, _, _, _, _, _, _, _, rfl⟩
        · exact ⟨_, rfl, _, rfl, l, _, _, _, rfl, rfl, SqL.of hL, e1, zb, _, 0, _, rfl, rfl, hZ, rfl, q zr zv H1 s1 hZR hZo hZh (by simp at hcs; omega)⟩
      · obtain ⟨zb, zv, zr, ⟨ys, rfl⟩, hZ, hZR, hZo, hZh, hZc⟩ := fin
        exact ⟨_, rfl, _, rfl, l, _, _, _, rfl, rfl, SqL.of hL, atI_last _ _, zb, _, 0, _, rfl, rfl, hZ, rfl, q zr zv H1 s1 hZR hZo hZh hZc⟩
end
theorem flat_strs : ∀ ws : List Str, (ws.map V.str).all flatV = true
  | [] => rfl
  | w :: r => by rw [List.map_cons, List.all_cons, flat_strs r]; rfl
theorem in_strs (w : Str) : ∀ ws : List Str, inV (.str w) (ws.map V.str) = true ↔ w ∈ ws
  | [] => by simp [inV]
  | u :: r => by
    have ih := in_strs w r
    unfold inV at ih ⊢
    rw [List.map_cons, List.any_cons, Bool.or_eq_true, ih, List.mem_cons]
    have : eqV (.str u) (.str w) = true ↔ w = u := by
      show (u == w) = true ↔ _
      rw [beq_iff_eq]
      exact ⟨Eq.symm, Eq.symm⟩
    rw [this]
def spLWords (K : PySem.W.Frag) : Sp := fun vs H Q _ => ∃ (a : Addr) (ns : List Int), vs = [.ref a] ∧ SqL K H a (ns.map V.int) ∧ ns.length ≤ 63 ∧ ∀ (wl : Addr) (ws : List Str) H', Same H H' → H' wl = some (.lst (ws.map V.str)) → 0 < ws.length → ws.length ≤ 3 → ws.Nodup → (∀ w ∈ ws, Wd w) → Q (.ref wl) H'
section
variable {P : Program} {w : World} {K : PySem.W.Frag} {mg : Str → Option Value} {base : Heap} {a : Adr}
theorem ok_Lwords (T : Txt K mg a) : FnOk P w K mg base CX0 3 a.Lwords a.fd_Lwords ["_law_script"] (spLWords K) := by
  refine T.f_Lwords.ok sc_Lwords (fun vs H Q E h => ?_) (fun cdv A outer s H vs Q E hr h => ?_)
  · obtain ⟨p, ns, rfl, _⟩ := h
    rfl
  · obtain ⟨sc, ns, rfl, hS, hl, q⟩ := h
    refine ⟨_, (pss_cons (ps_set (i := 1) sc_Lwords.nd rfl (by first | exact Or.inl rfl | exact Or.inr rfl) (pe_call ((ok_Lmixed T).mono (by first | decide | omega)) hr rfl T.m_Lmixed T.f_Lmixed.kp T.b_Lmixed .nil pass0 (pa_cons (pv 0) (pa_cons pe_int (pa_cons pe_int pa_nil)))))
  (pss_cons (ps_set (i := 2) sc_Lwords.nd rfl (by first | exact Or.inl rfl | exact Or.inr rfl) (pe_lst pa_nil))
  (pss_cons (ps_for PassesOwn.never rfl (pi_range1 rfl T.n_range (pa_cons (pe_op op_add pe_int (pe_op op_mod (pv 1) pe_int)) pa_nil)) (pg_name (i := 3) sc_Lwords.nd rfl (by first | exact Or.inl rfl | exact Or.inr rfl))
  (pss_cons (ps_set (i := 4) sc_Lwords.nd rfl (by first | exact Or.inl rfl | exact Or.inr rfl) (pe_call ((ok_Lword T).mono (by first | decide | omega)) hr rfl T.m_Lword T.f_Lword.kp T.b_Lword .nil pass0 (pa_cons (pe_call ((ok_Lmixed T).mono (by first | decide | omega)) hr rfl T.m_Lmixed T.f_Lmixed.kp T.b_Lmixed .nil pass0 (pa_cons (pv 0) (pa_cons (pe_op op_add pe_int (pv 3)) (pa_cons pe_int pa_nil)))) pa_nil)))
  (pss_one (ps_if (pt_cmpR (op_notInK K rfl) (pv 4) (pv 2) (by with_unfolding_all rfl)) (pss_one (ps_expr (pe_bmK K rfl PySem.F.plainAttrs_list PySem.F.slot_list_append PySem.F.type_list_append mt_append (pv 2) (pa_cons (pv 4) pa_nil)))) pss_nil))))
  (pss_one (ps_ret (pv 2)))))), ?_⟩
    refine ⟨_, rfl, sc, ns, 1, 14, rfl, hS, hl, ⟨by decide, by decide⟩, ⟨by decide, by decide⟩, fun x x0 x1 => ?_⟩
    refine gName_ ⟨le_size (show _ ≤ 65536 by simp), fun l hl' => ?_⟩
    have b3 := mod_lt x (show (0 : Int) < 3 by decide)
    refine gName_ ?_
    (repeat (first | refine ⟨_, rfl, ?_⟩ | refine ⟨_, _, rfl, rfl, ?_⟩ | refine ⟨(rfl : scal _ _ = true), ?_⟩ | refine ⟨(show CMul _ _ by first | exact .inl ⟨by decide, by decide⟩ | exact .inr ⟨by decide, by decide⟩ | exact .inl ⟨by omega, by omega⟩ | exact .inr ⟨by omega, by omega⟩), ?_⟩ | refine ⟨(show CDiv _ _ by first | exact ⟨by decide, by decide⟩ | exact ⟨by omega, by omega⟩), ?_⟩ | refine ⟨(show (0 : Int) < _ by first | omega | decide), ?_⟩ | refine ⟨(rfl : V.int 10 = V.int 10), (rfl : V.int 30 = V.int 30), ?_⟩))
    refine ⟨by omega, by omega, ?_⟩
    refine for_range (lo := 0) (n := (1 + x % 3).toNat) (fun i σ H' => Same H H' ∧ ∃ ws : List Str, H' l = some (.lst (ws.map V.str)) ∧ (0 < i → 0 < ws.length) ∧ ws.length ≤ i ∧ ws.Nodup ∧ (∀ w ∈ ws, Wd w) ∧ ∃ v3 v4, σ = [some (.ref sc), some (.int x), some (.ref l), v3, v4])
      ⟨same_new (Same.refl _) hl', [], upd_same, (fun h => absurd h (Nat.lt_irrefl _)), Nat.le_refl _, List.nodup_nil, (fun w h => nomatch h), _, _, rfl⟩ ?_ ?_
    · rintro i σ H1 hi ⟨s1, ws, hL, h0, hlen, hnd, hso, v3, v4, rfl⟩
      refine gName_ ⟨_, rfl, _, rfl, _, _, rfl, rfl, sc, ns, _, 14, rfl, s1.seq hS, hl, ⟨by omega, by omega⟩, ⟨by decide, by decide⟩, fun y y0 y1 => ⟨y, rfl, fun wd H2 s2 hwo => ?_⟩⟩
      have hL2 := s2 _ _ hL
      refine gName_ ⟨_, rfl, _, rfl, l, _, rfl, .inl (SqL.of hL2), rfl, flat_strs ws, _, rfl, ?_⟩
      refine iteB (fun e => ?_) (fun e => ?_)
      · have hn : wd ∉ ws := fun h => by
          have e : (!inV (.str wd) (ws.map V.str)) = true := e
          rw [(in_strs wd ws).mpr h] at e
          cases e
        refine ⟨_, rfl, .inl ⟨rfl, _, SqL.of hL2⟩, _, rfl, l, _, _, rfl, rfl, hL2, by rw [List.length_map, sizeLine_eq]; omega, ?_⟩
        refine ⟨same_upd (s1.trans s2) hl', ws ++ [wd], by rw [upd_same, List.map_append]; rfl, fun _ => by simp, by simp; omega, ?_, fun z hz => ?_, _, _, rfl⟩
        · rw [List.nodup_append]
          refine ⟨hnd, by simp, fun a ha b hb => ?_⟩
          rw [List.mem_singleton.mp hb]
          exact fun e => hn (e ▸ ha)
        · rcases List.mem_append.mp hz with h | h
          · exact hso z h
          · rw [List.mem_singleton.mp h]; exact hwo
      · have hn : wd ∈ ws := by
          have e : (!inV (.str wd) (ws.map V.str)) = false := e
          rw [← in_strs wd ws]
          cases h : inV (.str wd) (ws.map V.str) with
          | true => rfl
          | false => rw [h] at e; cases e
        exact ⟨s1.trans s2, ws, hL2, fun _ => List.length_pos_of_mem hn, by omega, hnd, hso, _, _, rfl⟩
    · rintro σ H1 ⟨s1, ws, hL, h0, hlen, hnd, hso, v3, v4, rfl⟩
      exact ⟨_, rfl, q l ws H1 s1 hL (h0 (by omega)) (by omega) hnd hso⟩
end
def spName : Sp := fun vs H Q _ => ∃ n : Int, vs = [.int n] ∧ 0 ≤ n ∧ ∀ (x : Str) H', Same H H' → Wd x → Q (.str x) H'
def spGuest : Sp := fun vs H Q _ => ∃ n : Int, vs = [.int n] ∧ 0 ≤ n ∧ ∀ (x : Str) H', Same H H' → Gst x → Q (.str x) H'
theorem sign_more {sg x : Str} {c : Nat} (h : ∀ d ∈ x.cps.toList, d ∈ sg.cps.toList) (hc : c ∈ sg.cps.toList) : ∀ d ∈ (x ++ (⟨#[c]⟩ : Str)).cps.toList, d ∈ sg.cps.toList := fun d hd => by
  rw [signs_app] at hd
  rcases List.mem_append.mp hd with h1 | h1
  · exact h d h1
  · rw [List.mem_singleton.mp h1]; exact hc
theorem one_sign (c : Nat) : (⟨#[c]⟩ : Str).length = 1 := rfl
section
variable {P : Program} {w : World} {K : PySem.W.Frag} {mg : Str → Option Value} {base : Heap} {a : Adr}
theorem ok_Lname (T : Txt K mg a) : FnOk P w K mg base CX0 1 a.Lname a.fd_Lname ["_law_number_here"] spName := by
  refine T.f_Lname.ok sc_Lname (fun vs H Q E h => ?_) (fun cdv A outer s H vs Q E hr h => ?_)
  · obtain ⟨n, rfl, _⟩ := h
    rfl
  · obtain ⟨n, rfl, n0, q⟩ := h
    have hsl : (16777216 : Nat) = sizeLine := sizeLine_eq.symm
    have hsg : (Str.ofString "abcdefghijklmnopqrstuvwxyz").length = 26 := by decide +kernel
    refine ⟨_, (pss_cons (ps_set (i := 1) sc_Lname.nd rfl (by first | exact Or.inl rfl | exact Or.inr rfl) pe_str)
  (pss_cons (ps_set (i := 2) sc_Lname.nd rfl (by first | exact Or.inl rfl | exact Or.inr rfl) (pe_op op_add pe_int (pe_op op_mod (pe_op op_fdiv (pv 0) pe_int) pe_int)))
  (pss_cons (ps_set (i := 3) sc_Lname.nd rfl (by first | exact Or.inl rfl | exact Or.inr rfl) pe_str)
  (pss_cons (ps_for PassesOwn.never rfl (pi_range1 rfl T.n_range (pa_cons (pe_op op_add pe_int (pe_op op_mod (pv 0) pe_int)) pa_nil)) (pg_name (i := 4) sc_Lname.nd rfl (by first | exact Or.inl rfl | exact Or.inr rfl))
  (pss_one (ps_set (i := 3) sc_Lname.nd rfl (by first | exact Or.inl rfl | exact Or.inr rfl) (pe_op op_add_str (pv 3) (pe_ix ix_str (pv 1) (pe_op op_mod (pe_op op_add (pe_op op_fdiv (pv 0) pe_int) (pe_op op_mul (pv 4) (pv 2))) pe_int) (fun _ _ => rfl))))))
  (pss_one (ps_ret (pe_ix (ix_listK K rfl) (pe_lst (pa_cons pe_str (pa_cons pe_str (pa_cons pe_str (pa_cons pe_str (pa_cons (pv 3) (pa_cons (pv 3) (pa_cons (pv 3) (pa_cons (pv 3) pa_nil))))))))) (pe_op op_mod (pe_op op_fdiv (pv 0) pe_int) pe_int) (fun _ _ => rfl)))))))), ?_⟩
    dsimp only [tSeq]
    refine asg_const ?_
    generalize hsgE : Str.ofString "abcdefghijklmnopqrstuvwxyz" = sg at hsg
    have b12 := mod_lt n (show (0 : Int) < 12 by decide)
    have b25 := mod_lt (n / 400) (show (0 : Int) < 25 by decide)
    (repeat (first | refine ⟨_, rfl, ?_⟩ | refine ⟨_, _, rfl, rfl, ?_⟩ | refine ⟨(rfl : scal _ _ = true), ?_⟩ | refine ⟨(show CMul _ _ by first | exact .inl ⟨by decide, by decide⟩ | exact .inr ⟨by decide, by decide⟩ | exact .inl ⟨by omega, by omega⟩ | exact .inr ⟨by omega, by omega⟩), ?_⟩ | refine ⟨(show CDiv _ _ by first | exact ⟨by decide, by decide⟩ | exact ⟨by omega, by omega⟩), ?_⟩ | refine ⟨(show (0 : Int) < _ by first | omega | decide), ?_⟩ | refine ⟨(rfl : V.int 10 = V.int 10), (rfl : V.int 30 = V.int 30), ?_⟩))
    refine ⟨by omega, by omega, ?_⟩
    refine for_range (lo := 0) (n := (1 + n % 12).toNat) (fun i σ H' => H' = H ∧ ∃ (x : Str) (v4 : Option V), x.length = i ∧ (∀ c ∈ x.cps.toList, c ∈ sg.cps.toList) ∧ σ = [some (.int n), some (.str sg), some (.int (1 + n / 400 % 25)), some (.str x), v4]) ⟨rfl, _, _, rfl, (fun c h => absurd h (by show c ∉ (Str.ofString "").cps.toList; rw [show (Str.ofString "").cps.toList = [] by decide +kernel]; simp)), rfl⟩ ?_ ?_
    · rintro i σ _ hi ⟨rfl, x, v4, hx, hxs, rfl⟩
      refine gName_ ?_
      (repeat (first | refine ⟨_, rfl, ?_⟩ | refine ⟨_, _, rfl, rfl, ?_⟩ | refine ⟨(rfl : scal _ _ = true), ?_⟩ | refine ⟨(show CMul _ _ by first | exact .inl ⟨by decide, by decide⟩ | exact .inr ⟨by decide, by decide⟩ | exact .inl ⟨by omega, by omega⟩ | exact .inr ⟨by omega, by omega⟩), ?_⟩ | refine ⟨(show CDiv _ _ by first | exact ⟨by decide, by decide⟩ | exact ⟨by omega, by omega⟩), ?_⟩ | refine ⟨(show (0 : Int) < _ by first | omega | decide), ?_⟩ | refine ⟨(rfl : V.int 10 = V.int 10), (rfl : V.int 30 = V.int 30), ?_⟩))
      have b := mod_lt (n / 12 + (0 + (i : Int)) * (1 + n / 400 % 25)) (show (0 : Int) < 26 by decide)
      obtain ⟨c, hc, hcm⟩ := atI_some (xs := sg.cps.toList) b.1 (by rw [len_list, hsg]; exact b.2)
      refine ⟨sg, _, c, rfl, rfl, by omega, hc, _, _, rfl, rfl, by rw [one_sign]; omega, ?_⟩
      exact ⟨rfl, _, _, by rw [app_len, one_sign]; omega, sign_more hxs hcm, rfl⟩
    · rintro σ _ ⟨rfl, x, v4, hx, hxs, rfl⟩
      refine ⟨_, rfl, _, rfl, _, rfl, _, rfl, le_size (show _ ≤ 65536 by simp), fun l hl => ?_⟩
      have b8 := mod_lt (n / 7) (show (0 : Int) < 8 by decide)
      (repeat (first | refine ⟨_, rfl, ?_⟩ | refine ⟨_, _, rfl, rfl, ?_⟩ | refine ⟨(rfl : scal _ _ = true), ?_⟩ | refine ⟨(show CMul _ _ by first | exact .inl ⟨by decide, by decide⟩ | exact .inr ⟨by decide, by decide⟩ | exact .inl ⟨by omega, by omega⟩ | exact .inr ⟨by omega, by omega⟩), ?_⟩ | refine ⟨(show CDiv _ _ by first | exact ⟨by decide, by decide⟩ | exact ⟨by omega, by omega⟩), ?_⟩ | refine ⟨(show (0 : Int) < _ by first | omega | decide), ?_⟩ | refine ⟨(rfl : V.int 10 = V.int 10), (rfl : V.int 30 = V.int 30), ?_⟩))
      obtain ⟨u, hu, hm⟩ := atI_some (xs := [V.str "any", V.str "layer", V.str "not", V.str "has", V.str x, V.str x, V.str x, V.str x]) b8.1 b8.2
      have hxw : Wd x := ⟨by omega, by omega, by show ∀ c ∈ x.cps.toList, c ∈ (Str.ofString "abcdefghijklmnopqrstuvwxyz").cps.toList; rw [hsgE]; exact hxs⟩
      have hz : ∃ z : Str, u = .str z ∧ Wd z := by
        simp only [List.mem_cons, List.not_mem_nil, or_false] at hm
        rcases hm with rfl | rfl | rfl | rfl | rfl | rfl | rfl | rfl
        · exact ⟨_, rfl, wd_of (by decide +kernel)⟩
        · exact ⟨_, rfl, wd_of (by decide +kernel)⟩
        · exact ⟨_, rfl, wd_of (by decide +kernel)⟩
        · exact ⟨_, rfl, wd_of (by decide +kernel)⟩
        all_goals exact ⟨x, rfl, hxw⟩
      obtain ⟨z, rfl, hz⟩ := hz
      exact ⟨l, _, _, _, rfl, rfl, SqL.of upd_same, hu, q z _ (same_new (Same.refl _) hl) hz⟩
theorem ok_Lguest (T : Txt K mg a) : FnOk P w K mg base CX0 1 a.Lguest a.fd_Lguest ["_law_number_here"] spGuest := by
  refine T.f_Lguest.ok sc_Lguest (fun vs H Q E h => ?_) (fun cdv A outer s H vs Q E hr h => ?_)
  · obtain ⟨n, rfl, _⟩ := h
    rfl
  · obtain ⟨n, rfl, n0, q⟩ := h
    have hsl : (16777216 : Nat) = sizeLine := sizeLine_eq.symm
    have hsg : (Str.ofString "abcdefghijklmnopqrstuvwxyz0123456789").length = 36 := by decide +kernel
    refine ⟨_, (pss_cons (ps_set (i := 1) sc_Lguest.nd rfl (by first | exact Or.inl rfl | exact Or.inr rfl) pe_str)
  (pss_cons (ps_set (i := 2) sc_Lguest.nd rfl (by first | exact Or.inl rfl | exact Or.inr rfl) (pe_op op_add pe_int (pe_op op_mod (pe_op op_fdiv (pv 0) pe_int) pe_int)))
  (pss_cons (ps_set (i := 3) sc_Lguest.nd rfl (by first | exact Or.inl rfl | exact Or.inr rfl) pe_str)
  (pss_cons (ps_for PassesOwn.never rfl (pi_range1 rfl T.n_range (pa_cons (pe_op op_add pe_int (pe_op op_mod (pv 0) pe_int)) pa_nil)) (pg_name (i := 4) sc_Lguest.nd rfl (by first | exact Or.inl rfl | exact Or.inr rfl))
  (pss_one (ps_set (i := 3) sc_Lguest.nd rfl (by first | exact Or.inl rfl | exact Or.inr rfl) (pe_op op_add_str (pv 3) (pe_ix ix_str (pv 1) (pe_op op_mod (pe_op op_add (pe_op op_fdiv (pv 0) pe_int) (pe_op op_mul (pv 4) (pv 2))) pe_int) (fun _ _ => rfl))))))
  (pss_one (ps_ret (pv 3))))))), ?_⟩
    dsimp only [tSeq]
    refine asg_const ?_
    generalize hsgE : Str.ofString "abcdefghijklmnopqrstuvwxyz0123456789" = sg at hsg
    have b12 := mod_lt n (show (0 : Int) < 24 by decide)
    have b25 := mod_lt (n / 900) (show (0 : Int) < 35 by decide)
    (repeat (first | refine ⟨_, rfl, ?_⟩ | refine ⟨_, _, rfl, rfl, ?_⟩ | refine ⟨(rfl : scal _ _ = true), ?_⟩ | refine ⟨(show CMul _ _ by first | exact .inl ⟨by decide, by decide⟩ | exact .inr ⟨by decide, by decide⟩ | exact .inl ⟨by omega, by omega⟩ | exact .inr ⟨by omega, by omega⟩), ?_⟩ | refine ⟨(show CDiv _ _ by first | exact ⟨by decide, by decide⟩ | exact ⟨by omega, by omega⟩), ?_⟩ | refine ⟨(show (0 : Int) < _ by first | omega | decide), ?_⟩ | refine ⟨(rfl : V.int 10 = V.int 10), (rfl : V.int 30 = V.int 30), ?_⟩))
    refine ⟨by omega, by omega, ?_⟩
    refine for_range (lo := 0) (n := (1 + n % 24).toNat) (fun i σ H' => H' = H ∧ ∃ (x : Str) (v4 : Option V), x.length = i ∧ (∀ c ∈ x.cps.toList, c ∈ sg.cps.toList) ∧ σ = [some (.int n), some (.str sg), some (.int (1 + n / 900 % 35)), some (.str x), v4]) ⟨rfl, _, _, rfl, (fun c h => absurd h (by show c ∉ (Str.ofString "").cps.toList; rw [show (Str.ofString "").cps.toList = [] by decide +kernel]; simp)), rfl⟩ ?_ ?_
    · rintro i σ _ hi ⟨rfl, x, v4, hx, hxs, rfl⟩
      refine gName_ ?_
      (repeat (first | refine ⟨_, rfl, ?_⟩ | refine ⟨_, _, rfl, rfl, ?_⟩ | refine ⟨(rfl : scal _ _ = true), ?_⟩ | refine ⟨(show CMul _ _ by first | exact .inl ⟨by decide, by decide⟩ | exact .inr ⟨by decide, by decide⟩ | exact .inl ⟨by omega, by omega⟩ | exact .inr ⟨by omega, by omega⟩), ?_⟩ | refine ⟨(show CDiv _ _ by first | exact ⟨by decide, by decide⟩ | exact ⟨by omega, by omega⟩), ?_⟩ | refine ⟨(show (0 : Int) < _ by first | omega | decide), ?_⟩ | refine ⟨(rfl : V.int 10 = V.int 10), (rfl : V.int 30 = V.int 30), ?_⟩))
      have b := mod_lt (n / 24 + (0 + (i : Int)) * (1 + n / 900 % 35)) (show (0 : Int) < 36 by decide)
      obtain ⟨c, hc, hcm⟩ := atI_some (xs := sg.cps.toList) b.1 (by rw [len_list, hsg]; exact b.2)
      refine ⟨sg, _, c, rfl, rfl, by omega, hc, _, _, rfl, rfl, by rw [one_sign]; omega, ?_⟩
      exact ⟨rfl, _, _, by rw [app_len, one_sign]; omega, sign_more hxs hcm, rfl⟩
    · rintro σ _ ⟨rfl, x, v4, hx, hxs, rfl⟩
      exact ⟨_, rfl, q x _ (Same.refl _) ⟨by omega, by omega, by show ∀ c ∈ x.cps.toList, c ∈ (Str.ofString "abcdefghijklmnopqrstuvwxyz0123456789").cps.toList; rw [hsgE]; exact hxs⟩⟩
end
def spNames (K : PySem.W.Frag) : Sp := fun vs H Q _ => ∃ (a : Addr) (ns : List Int) (k s m : Int), vs = [.ref a, .int k, .int s, .int m] ∧ SqL K H a (ns.map V.int) ∧ ns.length ≤ 63 ∧ (0 ≤ k ∧ k ≤ 1000) ∧ (0 ≤ s ∧ s ≤ 1000) ∧ (0 ≤ m ∧ m ≤ 9) ∧
  ∀ (t : Addr) (ws : List Str) H', Same H H' → SqT K H' t (ws.map V.str) → (ws.length : Int) ≤ m → (1 ≤ m → 1 ≤ ws.length) → ws.Nodup → (∀ x ∈ ws, Wd x) → Q (.ref t) H'
def spLong (K : PySem.W.Frag) : Sp := fun vs H Q _ => ∃ (a : Addr) (ns : List Int) (k n : Int), vs = [.ref a, .int k, .int n] ∧ SqL K H a (ns.map V.int) ∧ ns.length ≤ 63 ∧ (0 ≤ k ∧ k ≤ 1000) ∧ ∀ (z : Int) H', Same H H' → 0 ≤ z → z < ten60 → Q (.int z) H'
def spManyMarks (K : PySem.W.Frag) : Sp := fun vs H Q _ => ∃ (a : Addr) (ns : List Int) (k : Int), vs = [.ref a, .int k] ∧ SqL K H a (ns.map V.int) ∧ ns.length ≤ 63 ∧ (0 ≤ k ∧ k ≤ 1000) ∧
  ∀ (t : Addr) (ms : List (Str × Int)) H', Same H H' → MkAt K H' ms (.ref t) → ms.length ≤ 8 → (ms.map Prod.fst).Nodup → MsOk ms → Q (.ref t) H'
section
variable {P : Program} {w : World} {K : PySem.W.Frag} {mg : Str → Option Value} {base : Heap} {a : Adr}
theorem ok_Lnames (T : Txt K mg a) : FnOk P w K mg base CX0 3 a.Lnames a.fd_Lnames ["_law_script", "_law_k", "_law_salt", "_law_many"] (spNames K) := by
  refine T.f_Lnames.ok sc_Lnames (fun vs H Q E h => ?_) (fun cdv A outer s H vs Q E hr h => ?_)
  · obtain ⟨p, ns, k, s, m, rfl, _⟩ := h
    rfl
  · obtain ⟨sc, ns, k, sa, m, rfl, hS, hl, ⟨k0, k1⟩, ⟨sa0, sa1⟩, ⟨m0, m1⟩, q⟩ := h
    refine ⟨_, (pss_cons (ps_set (i := 4) sc_Lnames.nd rfl (by first | exact Or.inl rfl | exact Or.inr rfl) (pe_lst pa_nil))
  (pss_cons (ps_for PassesOwn.never rfl (pi_range1 rfl T.n_range (pa_cons (pv 3) pa_nil)) (pg_name (i := 5) sc_Lnames.nd rfl (by first | exact Or.inl rfl | exact Or.inr rfl))
  (pss_cons (ps_set (i := 6) sc_Lnames.nd rfl (by first | exact Or.inl rfl | exact Or.inr rfl) (pe_call ((ok_Lname T).mono (by first | decide | omega)) hr rfl T.m_Lname T.f_Lname.kp T.b_Lname .nil pass0 (pa_cons (pe_call ((ok_Lmixed T).mono (by first | decide | omega)) hr rfl T.m_Lmixed T.f_Lmixed.kp T.b_Lmixed .nil pass0 (pa_cons (pv 0) (pa_cons (pv 1) (pa_cons (pe_op op_add (pv 2) (pv 5)) pa_nil)))) pa_nil)))
  (pss_one (ps_if (pt_cmpR (op_notInK K rfl) (pv 6) (pv 4) (by with_unfolding_all rfl)) (pss_one (ps_expr (pe_bmK K rfl PySem.F.plainAttrs_list PySem.F.slot_list_append PySem.F.type_list_append mt_append (pv 4) (pa_cons (pv 6) pa_nil)))) pss_nil))))
  (pss_one (ps_ret (pe_callTy (call_tupleK K rfl) (by rfl) T.n_tuple L2.boot_tuple (pa_cons (pv 4) pa_nil)))))), ?_⟩
    refine ⟨le_size (show _ ≤ 65536 by simp), fun l hl' => ?_⟩
    refine gName_ ⟨_, rfl, _, rfl, by omega, by omega, ?_⟩
    refine for_range (lo := 0) (n := m.toNat) (fun i σ H' => Same H H' ∧ ∃ ws : List Str, H' l = some (.lst (ws.map V.str)) ∧ (0 < i → 0 < ws.length) ∧ ws.length ≤ i ∧ ws.Nodup ∧ (∀ x ∈ ws, Wd x) ∧ ∃ v5 v6, σ = [some (.ref sc), some (.int k), some (.int sa), some (.int m), some (.ref l), v5, v6])
      ⟨same_new (Same.refl _) hl', [], upd_same, (fun h => absurd h (Nat.lt_irrefl _)), Nat.le_refl _, List.nodup_nil, (fun x h => nomatch h), _, _, rfl⟩ ?_ ?_
    · rintro i σ H1 hi ⟨s1, ws, hL, h0, hlen, hnd, hso, v5, v6, rfl⟩
      refine gName_ ⟨_, rfl, _, rfl, _, rfl, _, rfl, _, _, rfl, rfl, sc, ns, _, _, rfl, s1.seq hS, hl, ⟨by omega, by omega⟩, ⟨by omega, by omega⟩, fun y y0 y1 => ⟨y, rfl, y0, fun wd H2 s2 hwo => ?_⟩⟩
      have hL2 := s2 _ _ hL
      refine gName_ ⟨_, rfl, _, rfl, l, _, rfl, .inl (SqL.of hL2), rfl, flat_strs ws, _, rfl, ?_⟩
      refine iteB (fun e => ?_) (fun e => ?_)
      · have hn : wd ∉ ws := fun h => by
          have e : (!inV (.str wd) (ws.map V.str)) = true := e
          rw [(in_strs wd ws).mpr h] at e
          cases e
        refine ⟨_, rfl, .inl ⟨rfl, _, SqL.of hL2⟩, _, rfl, l, _, _, rfl, rfl, hL2, by rw [List.length_map, sizeLine_eq]; omega, ?_⟩
        refine ⟨same_upd (s1.trans s2) hl', ws ++ [wd], by rw [upd_same, List.map_append]; rfl, fun _ => by simp, by simp; omega, ?_, fun z hz => ?_, _, _, rfl⟩
        · rw [List.nodup_append]
          refine ⟨hnd, by simp, fun a ha b hb => ?_⟩
          rw [List.mem_singleton.mp hb]
          exact fun e => hn (e ▸ ha)
        · rcases List.mem_append.mp hz with h | h
          · exact hso z h
          · rw [List.mem_singleton.mp h]; exact hwo
      · have hn : wd ∈ ws := by
          have e : (!inV (.str wd) (ws.map V.str)) = false := e
          rw [← in_strs wd ws]
          cases h : inV (.str wd) (ws.map V.str) with
          | true => rfl
          | false => rw [h] at e; cases e
        exact ⟨s1.trans s2, ws, hL2, fun _ => List.length_pos_of_mem hn, by omega, hnd, hso, _, _, rfl⟩
    · rintro σ H1 ⟨s1, ws, hL, h0, hlen, hnd, hso, v5, v6, rfl⟩
      exact ⟨_, rfl, l, _, rfl, .inl ⟨SqL.of hL, fun t ht => q t ws _ (same_new s1 ht) (SqT.of upd_same) (by omega) (fun h => h0 (by omega)) hnd hso⟩⟩
theorem ok_Llong (T : Txt K mg a) : FnOk P w K mg base CX0 2 a.Llong a.fd_Llong ["_law_script", "_law_k", "_law_number_here"] (spLong K) := by
  refine T.f_Llong.ok sc_Llong (fun vs H Q E h => ?_) (fun cdv A outer s H vs Q E hr h => ?_)
  · obtain ⟨p, ns, k, n, rfl, _⟩ := h
    rfl
  · obtain ⟨sc, ns, k, n, rfl, hS, hl, ⟨k0, k1⟩, q⟩ := h
    have t60 := ten60_pos
    refine ⟨_, (pss_cons (ps_set (i := 3) sc_Llong.nd rfl (by first | exact Or.inl rfl | exact Or.inr rfl) (pe_op op_add (pe_call ((ok_Lcell_at T).mono (by first | decide | omega)) hr rfl T.m_Lcell_at T.f_Lcell_at.kp T.b_Lcell_at .nil pass0 (pa_cons (pv 0) (pa_cons (pv 1) pa_nil))) (pe_op op_mul pe_int (pv 1))))
  (pss_one (ps_ret (pe_ix (ix_listK K rfl) (pe_lst (pa_cons (pe_op op_mod (pe_op op_fdiv (pv 2) pe_int) pe_int) (pa_cons (pe_op op_mod (pe_op op_fdiv (pv 2) pe_int) pe_int) (pa_cons (pe_op op_mod (pv 3) (pe_op op_ten12 pe_int pe_int)) (pa_cons (pe_op op_mod (pv 3) (pe_op op_ten60 pe_int pe_int)) (pa_cons (pe_op op_sub (pe_op op_ten60 pe_int pe_int) pe_int) pa_nil)))))) (pe_op op_mod (pv 2) pe_int) (fun _ _ => rfl))))), ?_⟩
    refine ⟨_, rfl, _, rfl, sc, ns, k, rfl, hS, hl, fun c => ?_⟩
    have b12 := mod_lt (n / 5) (show (0 : Int) < 12 by decide)
    have bt := mod_lt (c + 7 * k) (show (0 : Int) < 1000000000000 by decide)
    have bs := mod_lt (c + 7 * k) (show (0 : Int) < ten60 by omega)
    refine ⟨_, rfl, _, _, rfl, rfl, .inl ⟨by decide, by decide⟩, _, _, rfl, rfl, ?_⟩
    refine ⟨_, rfl, _, _, rfl, rfl, ⟨by decide, by decide⟩, _, _, rfl, rfl, (by show (0 : Int) < _; first | decide | omega), ?_⟩
    refine ⟨_, rfl, _, _, rfl, rfl, ⟨by decide, by decide⟩, _, _, rfl, rfl, (by show (0 : Int) < _; first | decide | omega), ?_⟩
    refine ⟨_, rfl, rfl, rfl, _, _, rfl, rfl, (by show (0 : Int) < _; first | decide | omega), ?_⟩
    refine ⟨_, rfl, rfl, rfl, _, _, rfl, rfl, by show (0 : Int) < ten60; omega, ?_⟩
    refine ⟨rfl, rfl, _, _, rfl, rfl, ?_⟩
    refine ⟨le_size (show _ ≤ 65536 by simp), fun l2 hl2 => ?_⟩
    have b5 := mod_lt n (show (0 : Int) < 5 by decide)
    refine ⟨_, rfl, _, _, rfl, rfl, (by show (0 : Int) < _; first | decide | omega), ?_⟩
    try dsimp only
    generalize n / 5 % 12 = d1 at b12 ⊢
    generalize (c + 7 * k) % 1000000000000 = d2 at bt ⊢
    generalize (c + 7 * k) % ten60 = d3 at bs ⊢
    obtain ⟨u, hu, hm2⟩ := atI_some (xs := [V.int d1, V.int d1, V.int d2, V.int d3, V.int (ten60 - 1)]) b5.1 b5.2
    have hy : ∃ y : Int, u = .int y ∧ 0 ≤ y ∧ y < ten60 := by
      simp only [List.mem_cons, List.not_mem_nil, or_false] at hm2
      rcases hm2 with rfl | rfl | rfl | rfl | rfl
      all_goals exact ⟨_, rfl, by omega, by omega⟩
    obtain ⟨y, rfl, hy0, hy1⟩ := hy
    exact ⟨l2, _, _, _, rfl, rfl, SqL.of upd_same, hu, q y _ (same_new (Same.refl _) hl2) hy0 hy1⟩
theorem ok_Lmany_marks (T : Txt K mg a) : FnOk P w K mg base CX0 4 a.Lmany_marks a.fd_Lmany_marks ["_law_script", "_law_k"] (spManyMarks K) := by
  refine T.f_Lmany_marks.ok sc_Lmany_marks (fun vs H Q E h => ?_) (fun cdv A outer s H vs Q E hr h => ?_)
  · obtain ⟨p, ns, k, rfl, _⟩ := h
    rfl
  · obtain ⟨sc, ns, k, rfl, hS, hl, ⟨k0, k1⟩, q⟩ := h
    have t30 := ten30_pos
    refine ⟨_, (pss_cons (ps_set (i := 2) sc_Lmany_marks.nd rfl (by first | exact Or.inl rfl | exact Or.inr rfl) (pe_lst pa_nil))
  (pss_cons (ps_for PassesOwn.never rfl (pi_tupK K rfl (pe_call ((ok_Lnames T).mono (by first | decide | omega)) hr rfl T.m_Lnames T.f_Lnames.kp T.b_Lnames .nil pass0 (pa_cons (pv 0) (pa_cons (pv 1) (pa_cons pe_int (pa_cons (pe_op op_mod (pe_call ((ok_Lmixed T).mono (by first | decide | omega)) hr rfl T.m_Lmixed T.f_Lmixed.kp T.b_Lmixed .nil pass0 (pa_cons (pv 0) (pa_cons (pv 1) (pa_cons pe_int pa_nil)))) pe_int) pa_nil)))))) (pg_name (i := 3) sc_Lmany_marks.nd rfl (by first | exact Or.inl rfl | exact Or.inr rfl))
  (pss_cons (ps_set (i := 4) sc_Lmany_marks.nd rfl (by first | exact Or.inl rfl | exact Or.inr rfl) (pe_call ((ok_Lmixed T).mono (by first | decide | omega)) hr rfl T.m_Lmixed T.f_Lmixed.kp T.b_Lmixed .nil pass0 (pa_cons (pv 0) (pa_cons (pv 1) (pa_cons (pe_op op_add pe_int (pe_callB (call_lenK K rfl) (by rfl) T.n_len L2.boot_len (pa_cons (pv 2) pa_nil))) pa_nil)))))
  (pss_cons (ps_set (i := 5) sc_Lmany_marks.nd rfl (by first | exact Or.inl rfl | exact Or.inr rfl) (pe_op op_sub (pe_op op_mod (pe_call ((ok_Lcell_at T).mono (by first | decide | omega)) hr rfl T.m_Lcell_at T.f_Lcell_at.kp T.b_Lcell_at .nil pass0 (pa_cons (pv 0) (pa_cons (pv 1) pa_nil))) (pe_op op_add (pe_op op_mul pe_int (pe_op op_ten pe_int pe_int)) pe_int)) (pe_op op_ten pe_int pe_int)))
  (pss_one (ps_expr (pe_bmK K rfl PySem.F.plainAttrs_list PySem.F.slot_list_append PySem.F.type_list_append mt_append (pv 2) (pa_cons (pe_tup (pa_cons (pv 3) (pa_cons (pe_ix (ix_listK K rfl) (pe_lst (pa_cons (pe_op op_sub (pe_op op_mod (pe_op op_fdiv (pv 4) pe_int) pe_int) pe_int) (pa_cons (pv 5) (pa_cons (pe_op op_ten pe_int pe_int) (pa_cons (pe_un un_neg (pe_op op_ten pe_int pe_int)) (pa_cons pe_int pa_nil)))))) (pe_op op_mod (pv 4) pe_int) (fun _ _ => rfl)) pa_nil))) pa_nil)))))))
  (pss_one (ps_ret (pe_callTy (call_tupleK K rfl) (by rfl) T.n_tuple L2.boot_tuple (pa_cons (pv 2) pa_nil)))))), ?_⟩
    refine ⟨le_size (show _ ≤ 65536 by simp), fun l hl' => ?_⟩
    have s0 := same_new (o := .lst []) (Same.refl H) hl'
    have hL0 : upd H l (.lst []) l = some (.lst []) := upd_same
    generalize upd H l (.lst []) = H0 at s0 hL0 ⊢
    refine gName_ ⟨_, rfl, _, rfl, _, rfl, _, rfl, sc, ns, _, 59, rfl, s0.seq hS, hl, ⟨by omega, by omega⟩, ⟨by decide, by decide⟩, fun x x0 x1 => ?_⟩
    have b9 := mod_lt x (show (0 : Int) < 9 by decide)
    refine ⟨_, _, rfl, rfl, (by show (0 : Int) < _; first | decide | omega), sc, ns, k, 60, x % 9, rfl, s0.seq hS, hl, ⟨k0, k1⟩, ⟨by decide, by decide⟩, ⟨by omega, by omega⟩, fun t ws H1 s1 hT hwl _ hwnd hwo => ?_⟩
    have s01 := s0.trans s1
    have hl1 : ∀ H', Same H0 H' → H' l = some (.lst []) := fun H' s' => s' _ _ hL0
    refine ⟨t, rfl, ⟨_, hT⟩, ?_⟩
    refine for_tup (K := K) (a := t) (xs := ws.map V.str) (fun i σ H' => Same H H' ∧ SqT K H' t (ws.map V.str) ∧ ∃ (ms : List (Str × Int)) (vs : List V), H' l = some (.lst vs) ∧ Paired (MkV K H') vs ms ∧ ms.map Prod.fst = ws.take i ∧ MsOk ms ∧ ∃ v3 v4 v5, σ = [some (.ref sc), some (.int k), some (.ref l), v3, v4, v5])
      ⟨s01, hT, [], [], hl1 _ s1, .nil, by rw [List.take_zero]; rfl, (fun m h => nomatch h), _, _, _, rfl⟩ (fun i σ H' _ h => h.2.1) ?_ ?_
    · rintro i v σ H2 hv ⟨s2, hT2, ms, vs, hL, hP, hlen, hbd, v3, v4, v5, rfl⟩
      have hi : i < (ws.map V.str).length := (List.getElem?_eq_some_iff.mp hv).1
      have hiw : i < ws.length := by simpa using hi
      obtain ⟨wd, hwdi, rfl, hwm⟩ := map_get hv
      have hwo1 := hwo wd hwm
      have hvl := pair_len hP
      have hml : ms.length ≤ i := by
        have := congrArg List.length hlen
        rw [List.length_map, List.length_take] at this
        omega
      refine gName_ ⟨_, rfl, _, rfl, _, rfl, _, vs.length, rfl, .inl ⟨_, SqL.of hL, rfl⟩, _, _, rfl, rfl, sc, ns, _, _, rfl, s2.seq hS, hl, ⟨by omega, by omega⟩, ⟨by omega, by omega⟩, fun y y0 y1 => ?_⟩
      refine gName_ ⟨_, rfl, _, rfl, sc, ns, k, rfl, s2.seq hS, hl, fun c => ?_⟩
      have bc := mod_lt c (show (0 : Int) < 2 * ten30 + 1 by omega)
      have b9' := mod_lt (y / 5) (show (0 : Int) < 9 by decide)
      have b5 := mod_lt y (show (0 : Int) < 5 by decide)
      refine ⟨rfl, rfl, _, _, rfl, rfl, .inl ⟨by decide, by decide⟩, _, _, rfl, rfl, _, _, rfl, rfl, by show (0 : Int) < 2 * ten30 + 1; omega, rfl, rfl, _, _, rfl, rfl, ?_⟩
      refine gName_ ⟨_, rfl, .inl ⟨rfl, _, SqL.of hL⟩, _, rfl, _, rfl, _, _, rfl, rfl, ⟨by decide, by decide⟩, _, _, rfl, rfl, (by show (0 : Int) < _; first | decide | omega), _, _, rfl, rfl, _, rfl, rfl, rfl, rfl, rfl, _, rfl, le_size (show _ ≤ 65536 by simp), fun l2 hl2 => ?_⟩
      refine ⟨_, rfl, _, _, rfl, rfl, (by show (0 : Int) < _; first | decide | omega), ?_⟩
      try dsimp only
      have hd1 : -ten30 ≤ y / 5 % 9 - 4 ∧ y / 5 % 9 - 4 ≤ ten30 := by omega
      have hd2 : -ten30 ≤ c % (2 * ten30 + 1) - ten30 ∧ c % (2 * ten30 + 1) - ten30 ≤ ten30 := by omega
      generalize y / 5 % 9 - 4 = d1 at hd1 hl2 ⊢
      generalize c % (2 * ten30 + 1) - ten30 = d2 at hd2 hl2 ⊢
      obtain ⟨u, hu, hm2⟩ := atI_some (xs := [V.int d1, V.int d2, V.int ten30, V.int (-ten30), V.int 0]) b5.1 b5.2
      have hy : ∃ z : Int, u = .int z ∧ -ten30 ≤ z ∧ z ≤ ten30 := by
        simp only [List.mem_cons, List.not_mem_nil, or_false] at hm2
        rcases hm2 with rfl | rfl | rfl | rfl | rfl
        · exact ⟨_, rfl, hd1⟩
        · exact ⟨_, rfl, hd2⟩
        all_goals exact ⟨_, rfl, by omega, by omega⟩
      obtain ⟨z, rfl, hz⟩ := hy
      refine ⟨l2, _, _, _, rfl, rfl, SqL.of upd_same, hu, le_size (show _ ≤ 65536 by simp), fun t3 ht3 => ?_⟩
      have s3 : Same H2 (upd (upd H2 l2 (.lst [V.int d1, V.int d2, V.int ten30, V.int (-ten30), V.int 0])) t3 (.tup [.str wd, .int z])) := same_new (same_new (Same.refl _) hl2) ht3
      have hT3 : upd (upd H2 l2 (.lst [V.int d1, V.int d2, V.int ten30, V.int (-ten30), V.int 0])) t3 (.tup [.str wd, .int z]) t3 = some (.tup [.str wd, .int z]) := upd_same
      generalize upd (upd H2 l2 (.lst [V.int d1, V.int d2, V.int ten30, V.int (-ten30), V.int 0])) t3 (.tup [.str wd, .int z]) = H3 at s3 hT3 ⊢
      have hL3 := s3 _ _ hL
      refine ⟨l, _, _, rfl, rfl, hL3, by rw [sizeLine_eq]; omega, ?_⟩
      refine ⟨same_upd (s2.trans s3) hl', (Kp.lst hL3).tq (Same.tseq s3 hT2), ms ++ [(wd, z)], _, upd_same, ?_, by rw [List.map_append, hlen, List.take_add_one, hwdi]; rfl, ?_, _, _, _, rfl⟩
      · exact mk_kp (.lst hL3) (pr_append (mk_kp (.of s3) hP) (.cons ⟨t3, rfl, SqT.of hT3⟩ .nil))
      · intro m hm
        rcases List.mem_append.mp hm with h | h
        · exact hbd m h
        · rw [List.mem_singleton.mp h]; exact ⟨hwo1, hz⟩
    · rintro σ H2 ⟨s2, hT2, ms, vs, hL, hP, hlen, hbd, v3, v4, v5, rfl⟩
      rw [List.length_map, List.take_of_length_le (Nat.le_refl _)] at hlen
      have hml : ms.length ≤ 8 := by
        have := congrArg List.length hlen
        rw [List.length_map] at this
        omega
      refine ⟨_, rfl, l, _, rfl, .inl ⟨SqL.of hL, fun t ht => ?_⟩⟩
      exact q t ms _ (same_new s2 ht) (mk_at (mk_kp (.new ht) hP) (SqT.of upd_same)) hml (by rw [hlen]; exact hwnd) hbd
end
def spForm (K : PySem.W.Frag) : Sp := fun vs H Q _ => ∃ (a : Addr) (ns : List Int) (k : Int), vs = [.ref a, .int k] ∧ SqL K H a (ns.map V.int) ∧ ns.length ≤ 63 ∧ (0 ≤ k ∧ k ≤ 100) ∧ ∀ (dv : V) (d : Dd) H', Same H H' → DdAt K H' d dv → DdOk d → Q dv H'
theorem long_abs {z : Int} (h0 : 0 ≤ z) (h1 : z < ten60) : z.natAbs < 10 ^ 60 := by
  rw [ten60_lit] at h1
  have : (10 : Nat) ^ 60 = 1000000000000000000000000000000000000000000000000000000000000 := by decide +kernel
  omega
def kinds : List Str := ["layer", "trial", "share", "deal", "hold", "pause", "go", "close", "bar", "visit", "trial"]
theorem kinds_left {kd : Str} (h : kd ∈ kinds) (e1 : kd ≠ "layer") (e2 : kd ≠ "hold") (e3 : kd ≠ "trial") (e4 : kd ≠ "share") (e5 : kd ≠ "deal") (e6 : kd ≠ "bar") (e7 : kd ≠ "visit") : KF kd ["word"] := by
  unfold kinds at h
  simp only [List.mem_cons, List.not_mem_nil, or_false] at h
  rcases h with rfl | rfl | rfl | rfl | rfl | rfl | rfl | rfl | rfl | rfl | rfl
  · exact absurd rfl e1
  · exact absurd rfl e3
  · exact absurd rfl e4
  · exact absurd rfl e5
  · exact absurd rfl e2
  · exact .pause
  · exact .go
  · exact .close
  · exact absurd rfl e6
  · exact absurd rfl e7
  · exact absurd rfl e3
theorem snoc_all {P : Int → Prop} {l : List Int} {z : Int} (h : ∀ i ∈ l, P i) (hz : P z) : ∀ i ∈ l ++ [z], P i := fun i hi => by
  rcases List.mem_append.mp hi with h1 | h1
  · exact h i h1
  · rw [List.mem_singleton.mp h1]; exact hz
theorem ns_snoc {l : List Int} {z : Int} (h : NsOk l) (hz : 0 ≤ z ∧ z.natAbs < 10 ^ 60) : NsOk (l ++ [z]) := snoc_all h hz
section
variable {P : Program} {w : World} {K : PySem.W.Frag} {mg : Str → Option Value} {base : Heap} {a : Adr}
theorem ok_Lform (T : Txt K mg a) : FnOk P w K mg base CX0 7 a.Lform a.fd_Lform ["_law_script", "_law_k"] (spForm K) := by
  refine T.f_Lform.ok sc_Lform (fun vs H Q E h => ?_) (fun cdv A outer s H vs Q E hr h => ?_)
  · obtain ⟨p, ns, k, rfl, _⟩ := h
    rfl
  · obtain ⟨sc, ns, k, rfl, hS, hl, ⟨k0, k1⟩, q⟩ := h
    have t30 := ten30_pos
    refine ⟨_, (pss_cons (ps_set (i := 2) sc_Lform.nd rfl (by first | exact Or.inl rfl | exact Or.inr rfl) (pe_call ((ok_Lmixed T).mono (by first | decide | omega)) hr rfl T.m_Lmixed T.f_Lmixed.kp T.b_Lmixed .nil pass0 (pa_cons (pv 0) (pa_cons (pv 1) (pa_cons pe_int pa_nil)))))
  (pss_cons (ps_set (i := 3) sc_Lform.nd rfl (by first | exact Or.inl rfl | exact Or.inr rfl) (pe_ix (ix_listK K rfl) (pe_lst (pa_cons pe_str (pa_cons pe_str (pa_cons pe_str (pa_cons pe_str (pa_cons pe_str (pa_cons pe_str (pa_cons pe_str (pa_cons pe_str (pa_cons pe_str (pa_cons pe_str (pa_cons pe_str pa_nil)))))))))))) (pe_op op_mod (pv 2) pe_int) (fun _ _ => rfl)))
  (pss_cons (ps_set (i := 4) sc_Lform.nd rfl (by first | exact Or.inl rfl | exact Or.inr rfl) (pe_call ((ok_Lname T).mono (by first | decide | omega)) hr rfl T.m_Lname T.f_Lname.kp T.b_Lname .nil pass0 (pa_cons (pe_call ((ok_Lmixed T).mono (by first | decide | omega)) hr rfl T.m_Lmixed T.f_Lmixed.kp T.b_Lmixed .nil pass0 (pa_cons (pv 0) (pa_cons (pv 1) (pa_cons pe_int pa_nil)))) pa_nil)))
  (pss_cons (ps_if (PW.pt (pw_or (pt_cmpR op_eq (pv 3) pe_str (nomark _)) (pw_or1 (pt_cmpR op_eq (pv 3) pe_str (nomark _))))) (pss_one (ps_ret (pe_tup (pa_cons (pv 3) (pa_cons (pv 4) (pa_cons (pe_call ((ok_Llong T).mono (by first | decide | omega)) hr rfl T.m_Llong T.f_Llong.kp T.b_Llong .nil pass0 (pa_cons (pv 0) (pa_cons (pv 1) (pa_cons (pe_op op_fdiv (pv 2) pe_int) pa_nil)))) pa_nil)))))) pss_nil)
  (pss_cons (ps_if (pt_cmpR op_eq (pv 3) pe_str (nomark _)) (pss_cons (ps_set (i := 5) sc_Lform.nd rfl (by first | exact Or.inl rfl | exact Or.inr rfl) (pe_call ((ok_Lnames T).mono (by first | decide | omega)) hr rfl T.m_Lnames T.f_Lnames.kp T.b_Lnames .nil pass0 (pa_cons (pv 0) (pa_cons (pv 1) (pa_cons pe_int (pa_cons (pe_op op_add pe_int (pe_op op_mod (pe_op op_fdiv (pv 2) pe_int) pe_int)) pa_nil))))))
  (pss_cons (ps_set (i := 6) sc_Lform.nd rfl (by first | exact Or.inl rfl | exact Or.inr rfl) (pe_call ((ok_Lnames T).mono (by first | decide | omega)) hr rfl T.m_Lnames T.f_Lnames.kp T.b_Lnames .nil pass0 (pa_cons (pv 0) (pa_cons (pv 1) (pa_cons pe_int (pa_cons (pe_op op_mod (pe_op op_fdiv (pv 2) pe_int) pe_int) pa_nil))))))
  (pss_cons (ps_set (i := 7) sc_Lform.nd rfl (by first | exact Or.inl rfl | exact Or.inr rfl) (pe_call ((ok_Lrule T).mono (by first | decide | omega)) hr rfl T.m_Lrule T.f_Lrule.kp T.b_Lrule .nil pass0 (pa_cons (pv 0) (pa_cons (pv 1) (pa_cons (pe_op op_add pe_int (pe_op op_mod (pe_op op_fdiv (pv 2) pe_int) pe_int)) (pa_cons (pe_call ((ok_Lwords T).mono (by first | decide | omega)) hr rfl T.m_Lwords T.f_Lwords.kp T.b_Lwords .nil pass0 (pa_cons (pv 0) pa_nil)) pa_nil))))))
  (pss_one (ps_ret (pe_tup (pa_cons (pv 3) (pa_cons (pv 4) (pa_cons (pe_call ((ok_Lname T).mono (by first | decide | omega)) hr rfl T.m_Lname T.f_Lname.kp T.b_Lname .nil pass0 (pa_cons (pe_call ((ok_Lmixed T).mono (by first | decide | omega)) hr rfl T.m_Lmixed T.f_Lmixed.kp T.b_Lmixed .nil pass0 (pa_cons (pv 0) (pa_cons (pv 1) (pa_cons pe_int pa_nil)))) pa_nil)) (pa_cons (pv 5) (pa_cons (pv 7) (pa_cons (pv 6) pa_nil)))))))))))) pss_nil)
  (pss_cons (ps_set (i := 8) sc_Lform.nd rfl (by first | exact Or.inl rfl | exact Or.inr rfl) (pe_op op_add pe_int (pe_op op_mod (pe_op op_fdiv (pv 2) pe_int) pe_int)))
  (pss_cons (ps_if (pt_cmpR op_eq (pv 3) pe_str (nomark _)) (pss_one (ps_ret (pe_tup (pa_cons (pv 3) (pa_cons (pv 4) (pa_cons (pe_callTy (call_tupleK K rfl) (by rfl) T.n_tuple L2.boot_tuple (pa_cons (comp_of ["_law_script", "_law_k", "_law_number_here", "_law_kind", "_law_name_here", "_law_arms", "_law_shuts", "_law_rule_here", "_law_many", "_law_far", "_law_weights"] ["_law_j"] [] [11] (defScope s_Lform) rfl rfl rfl (by decide +kernel) (by decide +kernel) (gk_name 11)
    (pi_range1 rfl T.n_range (pa_cons (pv 8) pa_nil)) (fun cl C s₀ H₀ ex => ⟨(pg_name (i := 11) (show List.Nodup ((["_law_script", "_law_k", "_law_number_here", "_law_kind", "_law_name_here", "_law_arms", "_law_shuts", "_law_rule_here", "_law_many", "_law_far", "_law_weights"] : List PySem.Str) ++ (["_law_j"] : List PySem.Str)) by decide +kernel) rfl (by first | exact Or.inl rfl | exact Or.inr rfl)), pts_nil, (pe_call ((ok_Llong T).mono (by first | decide | omega)) hr rfl T.m_Llong T.f_Llong.kp T.b_Llong .nil pass0 (pa_cons (pv 0) (pa_cons (pv 1) (pa_cons (pe_call ((ok_Lmixed T).mono (by first | decide | omega)) hr rfl T.m_Lmixed T.f_Lmixed.kp T.b_Lmixed .nil pass0 (pa_cons (pv 0) (pa_cons (pv 1) (pa_cons (pe_op op_add pe_int (pv 11)) pa_nil)))) pa_nil))))⟩)) pa_nil)) pa_nil)))))) pss_nil)
  (pss_cons (ps_if (pt_cmpR op_eq (pv 3) pe_str (nomark _)) (pss_cons (ps_set (i := 9) sc_Lform.nd rfl (by first | exact Or.inl rfl | exact Or.inr rfl) (pe_lst (pa_cons pe_int (pa_cons (pe_op op_ten pe_int pe_int) (pa_cons (pe_op op_add pe_int (pe_op op_mod (pe_call ((ok_Lcell_at T).mono (by first | decide | omega)) hr rfl T.m_Lcell_at T.f_Lcell_at.kp T.b_Lcell_at .nil pass0 (pa_cons (pv 0) (pa_cons (pv 1) pa_nil))) (pe_op op_ten pe_int pe_int))) (pa_cons pe_int pa_nil))))))
  (pss_cons (ps_set (i := 10) sc_Lform.nd rfl (by first | exact Or.inl rfl | exact Or.inr rfl) (pe_callTy (call_tupleK K rfl) (by rfl) T.n_tuple L2.boot_tuple (pa_cons (comp_of ["_law_script", "_law_k", "_law_number_here", "_law_kind", "_law_name_here", "_law_arms", "_law_shuts", "_law_rule_here", "_law_many", "_law_far", "_law_weights"] ["_law_j"] [] [11] (defScope s_Lform) rfl rfl rfl (by decide +kernel) (by decide +kernel) (gk_name 11)
    (pi_range1 rfl T.n_range (pa_cons (pv 8) pa_nil)) (fun cl C s₀ H₀ ex => ⟨(pg_name (i := 11) (show List.Nodup ((["_law_script", "_law_k", "_law_number_here", "_law_kind", "_law_name_here", "_law_arms", "_law_shuts", "_law_rule_here", "_law_many", "_law_far", "_law_weights"] : List PySem.Str) ++ (["_law_j"] : List PySem.Str)) by decide +kernel) rfl (by first | exact Or.inl rfl | exact Or.inr rfl)), pts_nil, (pe_ix (ix_listK K rfl) (pv 9) (pe_op op_mod (pe_call ((ok_Lmixed T).mono (by first | decide | omega)) hr rfl T.m_Lmixed T.f_Lmixed.kp T.b_Lmixed .nil pass0 (pa_cons (pv 0) (pa_cons (pv 1) (pa_cons (pe_op op_add pe_int (pv 11)) pa_nil)))) pe_int) (fun _ _ => rfl))⟩)) pa_nil)))
  (pss_one (ps_ret (pe_tup (pa_cons (pv 3) (pa_cons (pv 4) (pa_cons (pe_ix (ix_listK K rfl) (pe_lst (pa_cons (pe_op op_mod (pe_op op_fdiv (pv 2) pe_int) pe_int) (pa_cons pe_int (pa_cons pe_int pa_nil)))) (pe_op op_mod (pe_op op_fdiv (pv 2) pe_int) pe_int) (fun _ _ => rfl)) (pa_cons (pv 10) pa_nil))))))))) pss_nil)
  (pss_cons (ps_if (pt_cmpR op_eq (pv 3) pe_str (nomark _)) (pss_one (ps_ret (pe_tup (pa_cons (pv 3) (pa_cons (pe_call ((ok_Lguest T).mono (by first | decide | omega)) hr rfl T.m_Lguest T.f_Lguest.kp T.b_Lguest .nil pass0 (pa_cons (pe_op op_fdiv (pv 2) pe_int) pa_nil)) (pa_cons (pv 4) pa_nil)))))) pss_nil)
  (pss_cons (ps_if (pt_cmpR op_eq (pv 3) pe_str (nomark _)) (pss_one (ps_ret (pe_tup (pa_cons (pv 3) (pa_cons (pe_call ((ok_Lguest T).mono (by first | decide | omega)) hr rfl T.m_Lguest T.f_Lguest.kp T.b_Lguest .nil pass0 (pa_cons (pe_op op_fdiv (pv 2) pe_int) pa_nil)) (pa_cons (pe_call ((ok_Lmany_marks T).mono (by first | decide | omega)) hr rfl T.m_Lmany_marks T.f_Lmany_marks.kp T.b_Lmany_marks .nil pass0 (pa_cons (pv 0) (pa_cons (pv 1) pa_nil))) pa_nil)))))) pss_nil)
  (pss_one (ps_ret (pe_tup (pa_cons (pv 3) (pa_cons (pv 4) pa_nil))))))))))))))), ?_⟩
    refine ⟨_, rfl, _, rfl, sc, ns, k, 50, rfl, hS, hl, ⟨by omega, by omega⟩, ⟨by decide, by decide⟩, fun n n0 n1 => ?_⟩
    refine gName_ ⟨le_size (show _ ≤ 65536 by simp), fun l hl' => ?_⟩
    have b11 := mod_lt n (show (0 : Int) < 11 by decide)
    have s0 := same_new (o := .lst [V.str "layer", V.str "trial", V.str "share", V.str "deal", V.str "hold", V.str "pause", V.str "go", V.str "close", V.str "bar", V.str "visit", V.str "trial"]) (Same.refl H) hl'
    have hL0 : upd H l (.lst [V.str "layer", V.str "trial", V.str "share", V.str "deal", V.str "hold", V.str "pause", V.str "go", V.str "close", V.str "bar", V.str "visit", V.str "trial"]) l = some (.lst [V.str "layer", V.str "trial", V.str "share", V.str "deal", V.str "hold", V.str "pause", V.str "go", V.str "close", V.str "bar", V.str "visit", V.str "trial"]) := upd_same
    generalize upd H l (.lst [V.str "layer", V.str "trial", V.str "share", V.str "deal", V.str "hold", V.str "pause", V.str "go", V.str "close", V.str "bar", V.str "visit", V.str "trial"]) = H0 at s0 hL0 ⊢
    obtain ⟨u, hu, hm⟩ := atI_some (xs := [V.str "layer", V.str "trial", V.str "share", V.str "deal", V.str "hold", V.str "pause", V.str "go", V.str "close", V.str "bar", V.str "visit", V.str "trial"]) b11.1 b11.2
    have hz : ∃ z : Str, u = .str z ∧ z ∈ kinds := by
      simp only [List.mem_cons, List.not_mem_nil, or_false] at hm
      rcases hm with rfl | rfl | rfl | rfl | rfl | rfl | rfl | rfl | rfl | rfl | rfl
      all_goals exact ⟨_, rfl, by decide +kernel⟩
    obtain ⟨kd, rfl, hkd⟩ := hz
    refine ⟨_, rfl, _, _, rfl, rfl, (by show (0 : Int) < _; first | decide | omega), l, _, _, _, rfl, rfl, SqL.of hL0, hu, ?_⟩
    clear hL0 hu hm
    refine gName_ ⟨_, rfl, _, rfl, sc, ns, k, 51, rfl, s0.seq hS, hl, ⟨by omega, by omega⟩, ⟨by decide, by decide⟩, fun y y0 y1 => ⟨y, rfl, y0, fun nm H1 s1 hnm => ?_⟩⟩
    have s01 := s0.trans s1
    have plain : ∀ (H' : Hp) (vs : List V) (fs : List Str) (ths : List Th) (p : Addr), Same H H' → H' p = none → KF kd fs → Paired ThOk fs ths → Paired (ThAt K (upd H' p (.tup (.str kd :: vs)))) ths vs → Q (.ref p) (upd H' p (.tup (.str kd :: vs))) :=
      fun H' vs fs ths p s' hp h1 h2 h3 => q _ (.plain kd ths) _ (same_new s' hp) ⟨p, vs, rfl, SqT.of upd_same, h3⟩ (.plain h1 h2)
    have lay : KF kd ["word", "count"] → ∀ (z : Int) (H' : Hp) (p : Addr), Same H H' → 0 ≤ z → z < ten60 → H' p = none → Q (.ref p) (upd H' p (.tup [.str kd, .str nm, .int z])) := fun h1 z H' p s' z0 z1 hp =>
      plain H' [.str nm, .int z] _ [.s nm, .n z] p s' hp h1 (.cons (.word hnm) (.cons (.count z0 (long_abs z0 z1)) .nil)) (.cons rfl (.cons rfl .nil))
    refine gName_ ⟨_, rfl, rfl, _, rfl, iteS (fun e => ?_) (fun e1 => ⟨_, rfl, rfl, _, rfl, iteS (fun e => ?_) (fun e2 => ?_)⟩)⟩
    · refine ⟨_, rfl, _, rfl, _, rfl, _, rfl, _, rfl, _, _, rfl, rfl, ⟨by decide, by decide⟩, sc, ns, k, _, rfl, s01.seq hS, hl, ⟨by omega, by omega⟩, fun z H2 s2 z0 z1 => ⟨le_size (show _ ≤ 65536 by simp), fun p hp => ?_⟩⟩
      exact lay (e ▸ .layer) z H2 p (s01.trans s2) z0 z1 hp
    · refine ⟨_, rfl, _, rfl, _, rfl, _, rfl, _, rfl, _, _, rfl, rfl, ⟨by decide, by decide⟩, sc, ns, k, _, rfl, s01.seq hS, hl, ⟨by omega, by omega⟩, fun z H2 s2 z0 z1 => ⟨le_size (show _ ≤ 65536 by simp), fun p hp => ?_⟩⟩
      exact lay (e ▸ .hold) z H2 p (s01.trans s2) z0 z1 hp
    clear lay
    refine ⟨_, rfl, rfl, _, rfl, iteS (fun e => ?_) (fun e3 => ?_)⟩
    · subst e
      have b4 := mod_lt (n / 11) (show (0 : Int) < 4 by decide)
      have b9 := mod_lt (n / 44) (show (0 : Int) < 9 by decide)
      have b15 := mod_lt (n / 400) (show (0 : Int) < 15 by decide)
      refine ⟨_, rfl, _, rfl, _, rfl, _, _, rfl, rfl, ⟨by decide, by decide⟩, _, _, rfl, rfl, (by show (0 : Int) < _; first | decide | omega), _, _, rfl, rfl, sc, ns, k, 80, _, rfl, s01.seq hS, hl, ⟨by omega, by omega⟩, ⟨by decide, by decide⟩, ⟨by omega, by omega⟩, fun at' as H2 s2 hA al al1 and' ao => ?_⟩
      have s02 := s01.trans s2
      refine gName_ ⟨_, rfl, _, rfl, _, rfl, _, _, rfl, rfl, ⟨by decide, by decide⟩, _, _, rfl, rfl, (by show (0 : Int) < _; first | decide | omega), sc, ns, k, 90, _, rfl, s02.seq hS, hl, ⟨by omega, by omega⟩, ⟨by decide, by decide⟩, ⟨by omega, by omega⟩, fun st ss H3 s3 hSh sl sl1 snd so => ?_⟩
      have s03 := s02.trans s3
      refine gName_ ⟨_, rfl, _, rfl, _, rfl, _, _, rfl, rfl, ⟨by decide, by decide⟩, _, _, rfl, rfl, (by show (0 : Int) < _; first | decide | omega), _, _, rfl, rfl, _, rfl, sc, ns, rfl, s03.seq hS, hl, fun wl ws H4 s4 hW w0 w3 wnd wlen => ?_⟩
      have s04 := s03.trans s4
      refine ⟨sc, wl, ns, k, _, ws, rfl, s04.seq hS, hl, ⟨by omega, by omega⟩, ⟨by omega, by omega⟩, SqL.of hW, w0, by omega, fun r rv H5 s5 hR hok hh hcnt => ?_⟩
      have s05 := s04.trans s5
      refine gName_ ⟨_, rfl, _, rfl, _, rfl, _, rfl, sc, ns, k, 52, rfl, s05.seq hS, hl, ⟨by omega, by omega⟩, ⟨by decide, by decide⟩, fun y2 y20 y21 => ⟨y2, rfl, y20, fun ln H6 s6 hln => ?_⟩⟩
      have s06 := s05.trans s6
      refine ⟨_, rfl, _, rfl, _, rfl, le_size (show _ ≤ 65536 by simp), fun p hp => ?_⟩
      have s7 : Same H6 (upd H6 p (.tup [.str "trial", .str nm, .str ln, .ref at', rv, .ref st])) := same_new (Same.refl _) hp
      have sA := (((s3.trans s4).trans s5).trans s6).trans s7
      have sS := ((s4.trans s5).trans s6).trans s7
      exact q _ (.trial nm ln as ss r) _ (s06.trans s7) ⟨p, _, rv, _, rfl, SqT.of upd_same, ⟨at', rfl, Same.tseq sA hA⟩, ⟨st, rfl, Same.tseq sS hSh⟩, hR.kp (.of (s6.trans s7))⟩
        (.trial (ws := ws) hnm hln (.arms ao and' (al1 (by omega)) (by omega)) (.shuts so snd (by omega)) ⟨hh, by omega, hok, wlen, w3⟩)
    have b4 := mod_lt (n / 11) (show (0 : Int) < 4 by decide)
    refine ⟨_, rfl, _, _, rfl, rfl, ⟨by decide, by decide⟩, _, _, rfl, rfl, (by show (0 : Int) < _; first | decide | omega), _, _, rfl, rfl, gName_ ?_⟩
    have hmany : ∃ m : Int, m = 1 + n / 11 % 4 ∧ 1 ≤ m ∧ m ≤ 4 := ⟨_, rfl, by omega, by omega⟩
    obtain ⟨m, em, m0, m1⟩ := hmany
    try dsimp only
    rw [← em]
    clear em b4
    refine ⟨_, rfl, rfl, _, rfl, iteS (fun e => ?_) (fun e4 => ?_)⟩
    · refine ⟨_, rfl, _, rfl, _, rfl, m, rfl, by omega, by omega, fun D hD => ?_⟩
      have sD : Same H1 (upd H1 D (.lst [])) := same_new (Same.refl _) hD
      refine comp_range (K := K) (lo := 0) (n := m.toNat) (fun i acc H' => Same H1 H' ∧ H' D = some (.lst acc) ∧ ∃ l : List Int, acc = l.map V.int ∧ l.length = i ∧ NsOk l) ⟨sD, upd_same, [], rfl, rfl, (fun i h => nomatch h)⟩ ?_ ?_
      · rintro i acc H2 hi ⟨s2, hD2, lz, rfl, hal, hok⟩
        have s02 := s01.trans s2
        refine gName_ (yes_ (iteT ?_))
        refine ⟨_, rfl, _, rfl, _, rfl, _, rfl, _, rfl, _, _, rfl, rfl, sc, ns, k, _, rfl, s02.seq hS, hl, ⟨by omega, by omega⟩, ⟨by omega, by omega⟩, fun y2 y20 y21 => ?_⟩
        refine ⟨sc, ns, k, _, rfl, s02.seq hS, hl, ⟨by omega, by omega⟩, fun z H3 s3 z0 z1 => ?_⟩
        exact ⟨s3 _ _ hD2, by rw [List.length_map, sizeLine_eq]; omega, lf hi ⟨same_upd (s2.trans s3) hD, upd_same, lz ++ [z], by rw [List.map_append]; rfl, by rw [List.length_append, hal]; rfl, ns_snoc hok ⟨z0, long_abs z0 z1⟩⟩⟩
      · rintro acc H2 ⟨s2, hD2, lz, rfl, hal, hok⟩
        refine ⟨D, _, rfl, .inl ⟨SqL.of hD2, fun t ht => ?_⟩⟩
        refine ⟨le_size (show _ ≤ 65536 by simp), fun p hp => ?_⟩
        have ht3 : upd H2 t (.tup (lz.map V.int)) t = some (.tup (lz.map V.int)) := upd_same
        have s3 : Same H2 (upd H2 t (.tup (lz.map V.int))) := same_new (Same.refl _) ht
        have s4 : Same (upd H2 t (.tup (lz.map V.int))) (upd (upd H2 t (.tup (lz.map V.int))) p (.tup [.str kd, .str nm, .ref t])) := same_new (Same.refl _) hp
        exact plain _ [.str nm, .ref t] _ [.s nm, .ns lz] p ((s01.trans s2).trans s3) hp (e ▸ .share) (.cons (.word hnm) (.cons (.counts hok (by omega) (by omega)) .nil)) (.cons rfl (.cons ⟨t, rfl, SqT.of (s4 _ _ ht3)⟩ .nil))
    refine ⟨_, rfl, rfl, _, rfl, iteS (fun e => ?_) (fun e5 => ?_)⟩
    · refine ⟨rfl, rfl, _, rfl, _, rfl, sc, ns, k, rfl, s01.seq hS, hl, fun c => ?_⟩
      have bc := mod_lt c (show (0 : Int) < ten30 by omega)
      refine ⟨rfl, rfl, _, _, rfl, rfl, by show (0 : Int) < ten30; omega, _, _, rfl, rfl, ?_⟩
      try dsimp only
      have hd : 1 ≤ 1 + c % ten30 ∧ 1 + c % ten30 ≤ ten30 := by omega
      generalize 1 + c % ten30 = d at hd ⊢
      refine ⟨le_size (show _ ≤ 65536 by simp), fun l2 hl2 => ?_⟩
      have s2 : Same H1 (upd H1 l2 (.lst [V.int 1, V.int ten30, V.int d, V.int 5])) := same_new (Same.refl _) hl2
      have hL2 : upd H1 l2 (.lst [V.int 1, V.int ten30, V.int d, V.int 5]) l2 = some (.lst [V.int 1, V.int ten30, V.int d, V.int 5]) := upd_same
      generalize upd H1 l2 (.lst [V.int 1, V.int ten30, V.int d, V.int 5]) = H2 at s2 hL2 ⊢
      have s02 := s01.trans s2
      refine gName_ ⟨_, rfl, m, rfl, by omega, by omega, fun D hD => ?_⟩
      have sD : Same H2 (upd H2 D (.lst [])) := same_new (Same.refl _) hD
      refine comp_range (K := K) (lo := 0) (n := m.toNat) (fun i acc H' => Same H2 H' ∧ H' D = some (.lst acc) ∧ ∃ l : List Int, acc = l.map V.int ∧ l.length = i ∧ ∀ z ∈ l, 1 ≤ z ∧ z ≤ ten30) ⟨sD, upd_same, [], rfl, rfl, (fun i h => nomatch h)⟩ ?_ ?_
      · rintro i acc H3 hi ⟨s3, hD3, lz, rfl, hal, hok⟩
        have s03 := s02.trans s3
        refine gName_ (yes_ (iteT ?_))
        refine ⟨_, rfl, _, rfl, _, rfl, _, rfl, _, _, rfl, rfl, sc, ns, k, _, rfl, s03.seq hS, hl, ⟨by omega, by omega⟩, ⟨by omega, by omega⟩, fun y2 y20 y21 => ?_⟩
        have b4 := mod_lt y2 (show (0 : Int) < 4 by decide)
        obtain ⟨u, hu, hm2⟩ := atI_some (xs := [V.int 1, V.int ten30, V.int d, V.int 5]) b4.1 b4.2
        have hy : ∃ z : Int, u = .int z ∧ 1 ≤ z ∧ z ≤ ten30 := by
          simp only [List.mem_cons, List.not_mem_nil, or_false] at hm2
          rcases hm2 with rfl | rfl | rfl | rfl
          · exact ⟨_, rfl, by omega, by omega⟩
          · exact ⟨_, rfl, by omega, by omega⟩
          · exact ⟨_, rfl, hd⟩
          · exact ⟨_, rfl, by omega, by omega⟩
        obtain ⟨z, rfl, hz⟩ := hy
        refine ⟨_, _, rfl, rfl, (by show (0 : Int) < _; first | decide | omega), l2, _, _, _, rfl, rfl, SqL.of (s3 _ _ hL2), hu, ?_⟩
        exact ⟨hD3, by rw [List.length_map, sizeLine_eq]; omega, lf hi ⟨same_upd s3 hD, upd_same, lz ++ [z], by rw [List.map_append]; rfl, by rw [List.length_append, hal]; rfl, snoc_all hok hz⟩⟩
      · rintro acc H3 ⟨s3, hD3, lz, rfl, hal, hok⟩
        refine ⟨D, _, rfl, .inl ⟨SqL.of hD3, fun t ht => ?_⟩⟩
        have ht3 : upd H3 t (.tup (lz.map V.int)) t = some (.tup (lz.map V.int)) := upd_same
        have s4 : Same H3 (upd H3 t (.tup (lz.map V.int))) := same_new (Same.refl _) ht
        have s04 := (s02.trans s3).trans s4
        generalize upd H3 t (.tup (lz.map V.int)) = H4 at s04 ht3 ⊢
        clear s4
        have b1001 := mod_lt (n / 44) (show (0 : Int) < 1001 by decide)
        have b3 := mod_lt (n / 50) (show (0 : Int) < 3 by decide)
        refine gName_ ⟨_, rfl, _, rfl, _, rfl, _, _, rfl, rfl, ⟨by decide, by decide⟩, _, _, rfl, rfl, (by show (0 : Int) < _; first | decide | omega), le_size (show _ ≤ 65536 by simp), fun l4 hl4 => ?_⟩
        refine ⟨_, rfl, _, _, rfl, rfl, ⟨by decide, by decide⟩, _, _, rfl, rfl, (by show (0 : Int) < _; first | decide | omega), ?_⟩
        try dsimp only
        have hd3 : 0 ≤ n / 44 % 1001 ∧ n / 44 % 1001 ≤ 1000 := by omega
        generalize n / 44 % 1001 = d3 at hd3 hl4 ⊢
        obtain ⟨u, hu, hm2⟩ := atI_some (xs := [V.int d3, V.int 1000, V.int 0]) b3.1 b3.2
        have hy : ∃ z : Int, u = .int z ∧ 0 ≤ z ∧ z ≤ 1000 := by
          simp only [List.mem_cons, List.not_mem_nil, or_false] at hm2
          rcases hm2 with rfl | rfl | rfl
          all_goals exact ⟨_, rfl, by omega, by omega⟩
        obtain ⟨z, rfl, hz⟩ := hy
        refine ⟨l4, _, _, _, rfl, rfl, SqL.of upd_same, hu, ?_⟩
        have s5 : Same H4 (upd H4 l4 (.lst [V.int d3, V.int 1000, V.int 0])) := same_new (Same.refl _) hl4
        generalize upd H4 l4 (.lst [V.int d3, V.int 1000, V.int 0]) = H5 at s5 ⊢
        refine ⟨_, rfl, le_size (show _ ≤ 65536 by simp), fun p hp => ?_⟩
        have s6 : Same H5 (upd H5 p (.tup [.str kd, .str nm, .int z, .ref t])) := same_new (Same.refl _) hp
        exact plain _ [.str nm, .int z, .ref t] _ [.s nm, .n z, .ns lz] p (s04.trans s5) hp (e ▸ .deal) (.cons (.word hnm) (.cons (.total hz.1 hz.2) (.cons (.weights hok (by omega) (by omega)) .nil))) (.cons rfl (.cons rfl (.cons ⟨t, rfl, SqT.of (s6 _ _ (s5 _ _ ht3))⟩ .nil)))
    refine ⟨_, rfl, rfl, _, rfl, iteS (fun e => ?_) (fun e6 => ?_)⟩
    · refine ⟨_, rfl, _, rfl, _, _, rfl, rfl, ⟨by decide, by decide⟩, _, rfl, Int.ediv_nonneg n0 (by decide), fun g H2 s2 hg => ?_⟩
      refine ⟨_, rfl, le_size (show _ ≤ 65536 by simp), fun p hp => ?_⟩
      exact plain H2 [.str g, .str nm] _ [.s g, .s nm] p (s01.trans s2) hp (e ▸ .bar) (.cons (.guest hg) (.cons (.word hnm) .nil)) (.cons rfl (.cons rfl .nil))
    refine ⟨_, rfl, rfl, _, rfl, iteS (fun e => ?_) (fun e7 => ?_)⟩
    · subst e
      refine ⟨_, rfl, _, rfl, _, _, rfl, rfl, ⟨by decide, by decide⟩, _, rfl, Int.ediv_nonneg n0 (by decide), fun g H2 s2 hg => ?_⟩
      have s02 := s01.trans s2
      refine ⟨_, rfl, _, rfl, sc, ns, k, rfl, s02.seq hS, hl, ⟨by omega, by omega⟩, fun mt ms H3 s3 hM hml hmnd hmf => ?_⟩
      refine ⟨le_size (show _ ≤ 65536 by simp), fun p hp => ?_⟩
      have s4 : Same H3 (upd H3 p (.tup [.str "visit", .str g, .ref mt])) := same_new (Same.refl _) hp
      exact plain H3 [.str g, .ref mt] _ [.s g, .ms ms] p (s02.trans s3) hp .visit (.cons (.guest hg) (.cons (.marks hmf hmnd hml) .nil)) (.cons rfl (.cons (MkAt.kp (.of s4) hM) .nil))
    · refine ⟨_, rfl, _, rfl, le_size (show _ ≤ 65536 by simp), fun p hp => ?_⟩
      exact plain H1 [.str nm] _ [.s nm] p s01 hp (kinds_left hkd e1 e2 e3 e4 e5 e6 e7) (.cons (.word hnm) .nil) (.cons rfl .nil)
end
section
variable {P : Program} {w : World} {K : PySem.W.Frag} {mg : Str → Option Value} {base : Heap} {a : Adr}
theorem ok_Lrule_row (T : Txt K mg a) : ∀ n : Nat, FnOk P w K mg base CX0 (n + 1) a.Lrule_row a.fd_Lrule_row ["_law_rule_here"] (spRuleText K n)
  | 0 => by
    refine T.f_Lrule_row.ok sc_Lrule_row (fun vs H Q E h => ?_) (fun cdv A outer s H vs Q E hr h => ?_)
    · obtain ⟨r, rv, rfl, _⟩ := h
      rfl
    · obtain ⟨r, rv, rfl, _, hh, _⟩ := h
      have := r.hgt_pos
      omega
  | n + 1 => by
    have ih := ok_Lrule_row T n
    refine T.f_Lrule_row.ok sc_Lrule_row (fun vs H Q E h => ?_) (fun cdv A outer s H vs Q E hr h => ?_)
    · obtain ⟨r, rv, rfl, _⟩ := h
      rfl
    · obtain ⟨r, rv, rfl, hR, hh, h6, hf, q⟩ := h
      refine ⟨_, (pss_cons (ps_if (pt_cmpR (op_inK K rfl) (pe_ix (ix_tupK K rfl) (pv 0) pe_int (fun _ _ => rfl)) (pe_lst (pa_cons pe_str (pa_cons pe_str (pa_cons pe_str pa_nil)))) (by with_unfolding_all rfl)) (pss_one (ps_ret (pe_bmK K rfl PySem.F.plainAttrs_str PySem.F.slot_str_join PySem.F.type_str_join (mt_joinK K rfl) pe_str (pa_cons (pe_op op_cat (pe_lst (pa_cons (pe_ix (ix_tupK K rfl) (pv 0) pe_int (fun _ _ => rfl)) pa_nil)) (comp_of ["_law_rule_here"] ["_law_part"] [] [1] (defScope s_Lrule_row) rfl rfl rfl (by decide +kernel) (by decide +kernel) (gk_name 1)
    (pi_tupK K rfl (pe_slice (sl_tupK K rfl) (pv 0) (po_some pe_int) po_none)) (fun cl C s₀ H₀ ex => ⟨(pg_name (i := 1) (show List.Nodup ((["_law_rule_here"] : List PySem.Str) ++ (["_law_part"] : List PySem.Str)) by decide +kernel) rfl (by first | exact Or.inl rfl | exact Or.inr rfl)), pts_nil, (pe_call ih hr rfl T.m_Lrule_row T.f_Lrule_row.kp T.b_Lrule_row .nil pass0 (pa_cons (pv 1) pa_nil))⟩))) pa_nil)))) pss_nil)
  (pss_one (ps_ret (pe_bmK K rfl PySem.F.plainAttrs_str PySem.F.slot_str_join PySem.F.type_str_join (mt_joinK K rfl) pe_str (pa_cons (pe_op op_cat (pe_lst (pa_cons (pe_ix (ix_tupK K rfl) (pv 0) pe_int (fun _ _ => rfl)) pa_nil)) (comp_of ["_law_rule_here"] ["_law_part"] [] [1] (defScope s_Lrule_row) rfl rfl rfl (by decide +kernel) (by decide +kernel) (gk_name 1)
    (pi_tupK K rfl (pe_slice (sl_tupK K rfl) (pv 0) (po_some pe_int) po_none)) (fun cl C s₀ H₀ ex => ⟨(pg_name (i := 1) (show List.Nodup ((["_law_rule_here"] : List PySem.Str) ++ (["_law_part"] : List PySem.Str)) by decide +kernel) rfl (by first | exact Or.inl rfl | exact Or.inr rfl)), pts_nil, (pe_callTy call_strV (by rfl) T.n_str L2.boot_str (pa_cons (pv 1) pa_nil))⟩))) pa_nil))))), ?_⟩
      obtain ⟨t, hd, vs, ts, rfl, hT, hhd, hP, ht2, etx, hcase⟩ := ru_parts hR hh h6 hf
      have hPl := pair_len hP
      have hvl : vs.length ≤ 2 := by omega
      refine ⟨_, rfl, t, _, 0, _, rfl, rfl, hT, atI_nat' (k := 0) rfl, ?_⟩
      refine ⟨le_size (show _ ≤ 65536 by simp), fun l hl => ?_⟩
      have s0 := same_new (o := .lst [.str "not", .str "both", .str "either"]) (Same.refl H) hl
      have nowhole : ¬ (HT.sIx (V.str hd :: vs).length 0 (some 1) = 0 ∧ HT.sIx (V.str hd :: vs).length (V.str hd :: vs).length none = (V.str hd :: vs).length) := by
        unfold HT.sIx
        simp
      refine ⟨l, _, rfl, .inl (SqL.of upd_same), rfl, flat_strs ["not", "both", "either"], _, rfl, ?_⟩
      generalize upd H l (.lst [.str "not", .str "both", .str "either"]) = H0 at s0 ⊢
      have hin := in_strs hd ["not", "both", "either"]
      rcases hcase with ⟨hk, hq⟩ | ⟨hk, hq⟩
      · refine iteB (fun _ => ?_) (fun e => by have e : inV (.str hd) ((["not", "both", "either"] : List Str).map V.str) = false := e; exact absurd (hin.mpr hk) (by rw [e]; exact Bool.false_ne_true))
        refine ⟨rfl, _, rfl, t, _, 0, _, rfl, rfl, Same.tseq s0 hT, atI_nat' (k := 0) rfl, ?_⟩
        refine ⟨le_size (show _ ≤ 65536 by simp), fun l1 hl1 => ?_⟩
        have s1 := same_new (o := .lst [.str hd]) s0 hl1
        have hL1 : upd H0 l1 (.lst [.str hd]) l1 = some (.lst [.str hd]) := upd_same
        generalize upd H0 l1 (.lst [.str hd]) = H1 at s1 hL1 ⊢
        refine ⟨_, rfl, _, rfl, t, _, rfl, Same.tseq s1 hT, nowhole, fun p hp => ?_⟩
        rw [cut1]
        have s2 := same_new (o := .tup vs) (Same.refl H1) hp
        have hP2 : upd H1 p (.tup vs) p = some (.tup vs) := upd_same
        generalize upd H1 p (.tup vs) = H2 at s2 hP2 ⊢
        refine ⟨p, rfl, ⟨_, SqT.of hP2⟩, fun D hD => ?_⟩
        have sD : ∀ acc, Same H2 (upd H2 D (.lst acc)) := fun acc => same_new (Same.refl _) hD
        refine comp_tup (K := K) (a := p) (xs := vs) (fun i acc H' => acc = (ts.take i).map V.str ∧ Same H2 H' ∧ H' D = some (.lst acc)) ⟨by rw [List.take_zero]; rfl, sD _, upd_same⟩ (fun i acc H' _ h => SqT.of (h.2.1 _ _ hP2)) ?_ ?_
        · rintro i v acc H3 hv ⟨rfl, s3, hD3⟩
          have hi : i < vs.length := (List.getElem?_eq_some_iff.mp hv).1
          obtain ⟨tx, htx, _⟩ := pair_at hP i v hv
          have hlen : ((ts.take i).map V.str).length < sizeLine := by rw [List.length_map, List.length_take, sizeLine_eq]; omega
          have fin : ∀ H6, Same H3 H6 → H6 D = some (.lst ((ts.take i).map V.str)) ∧ ((ts.take i).map V.str).length < sizeLine ∧ ∃ m', m' < vs.length - i ∧ m' = vs.length - (i + 1) ∧ i + 1 ≤ vs.length ∧
              ((ts.take i).map V.str ++ [V.str tx] = (ts.take (i + 1)).map V.str ∧ Same H2 (upd H6 D (.lst ((ts.take i).map V.str ++ [V.str tx]))) ∧ upd H6 D (.lst ((ts.take i).map V.str ++ [V.str tx])) D = some (.lst ((ts.take i).map V.str ++ [V.str tx]))) := fun H6 s6 =>
            ⟨s6 _ _ hD3, hlen, lf hi ⟨take_strs htx, same_upd (s3.trans s6) hD, upd_same⟩⟩
          refine gName_ (yes_ (iteT ?_))
          obtain ⟨q', h1, h2, h3, h4, rfl⟩ := hq i v tx hv htx
          have sH := s1.trans (s2.trans s3)
          exact ⟨_, rfl, q', _, rfl, h1.kp (.of sH), h2, h3, h4, fun H6 s6 => fin H6 s6⟩
        · rintro acc H3 ⟨rfl, s3, hD3⟩
          rw [List.take_of_length_le (by omega)] at hD3
          have s13 := s2.trans s3
          refine ⟨l1, D, [.str hd], ts.map V.str, rfl, rfl, s13 _ _ hL1, hD3, by rw [List.length_map, sizeLine_eq]; simp; omega, fun p2 hp2 => ?_⟩
          refine ⟨_, p2, hd :: ts, rfl, rfl, SqL.of upd_same, hd_join hhd (parts_len hP) ht2, ?_⟩
          rw [← etx]
          exact q _ (same_new (s1.trans s13) hp2)
      · refine iteB (fun e => absurd (hin.mp e) hk) (fun _ => ?_)
        refine ⟨rfl, _, rfl, t, _, 0, _, rfl, rfl, Same.tseq s0 hT, atI_nat' (k := 0) rfl, ?_⟩
        refine ⟨le_size (show _ ≤ 65536 by simp), fun l1 hl1 => ?_⟩
        have s1 := same_new (o := .lst [.str hd]) s0 hl1
        have hL1 : upd H0 l1 (.lst [.str hd]) l1 = some (.lst [.str hd]) := upd_same
        generalize upd H0 l1 (.lst [.str hd]) = H1 at s1 hL1 ⊢
        refine ⟨_, rfl, _, rfl, t, _, rfl, Same.tseq s1 hT, nowhole, fun p hp => ?_⟩
        rw [cut1]
        have s2 := same_new (o := .tup vs) (Same.refl H1) hp
        have hP2 : upd H1 p (.tup vs) p = some (.tup vs) := upd_same
        generalize upd H1 p (.tup vs) = H2 at s2 hP2 ⊢
        refine ⟨p, rfl, ⟨_, SqT.of hP2⟩, fun D hD => ?_⟩
        have sD : ∀ acc, Same H2 (upd H2 D (.lst acc)) := fun acc => same_new (Same.refl _) hD
        refine comp_tup (K := K) (a := p) (xs := vs) (fun i acc H' => acc = (ts.take i).map V.str ∧ Same H2 H' ∧ H' D = some (.lst acc)) ⟨by rw [List.take_zero]; rfl, sD _, upd_same⟩ (fun i acc H' _ h => SqT.of (h.2.1 _ _ hP2)) ?_ ?_
        · rintro i v acc H3 hv ⟨rfl, s3, hD3⟩
          have hi : i < vs.length := (List.getElem?_eq_some_iff.mp hv).1
          obtain ⟨tx, htx, _⟩ := pair_at hP i v hv
          have hlen : ((ts.take i).map V.str).length < sizeLine := by rw [List.length_map, List.length_take, sizeLine_eq]; omega
          have fin : ∀ H6, Same H3 H6 → H6 D = some (.lst ((ts.take i).map V.str)) ∧ ((ts.take i).map V.str).length < sizeLine ∧ ∃ m', m' < vs.length - i ∧ m' = vs.length - (i + 1) ∧ i + 1 ≤ vs.length ∧
              ((ts.take i).map V.str ++ [V.str tx] = (ts.take (i + 1)).map V.str ∧ Same H2 (upd H6 D (.lst ((ts.take i).map V.str ++ [V.str tx]))) ∧ upd H6 D (.lst ((ts.take i).map V.str ++ [V.str tx])) D = some (.lst ((ts.take i).map V.str ++ [V.str tx]))) := fun H6 s6 =>
            ⟨s6 _ _ hD3, hlen, lf hi ⟨take_strs htx, same_upd (s3.trans s6) hD, upd_same⟩⟩
          refine gName_ (yes_ (iteT ?_))
          rcases hq i v tx hv htx with rfl | ⟨z, rfl, hz, rfl⟩
          · exact ⟨_, rfl, .inr ⟨tx, rfl, fin _ (Same.refl _)⟩⟩
          · exact ⟨_, rfl, .inl ⟨z, rfl, num_log hz, fin _ (Same.refl _)⟩⟩
        · rintro acc H3 ⟨rfl, s3, hD3⟩
          rw [List.take_of_length_le (by omega)] at hD3
          have s13 := s2.trans s3
          refine ⟨l1, D, [.str hd], ts.map V.str, rfl, rfl, s13 _ _ hL1, hD3, by rw [List.length_map, sizeLine_eq]; simp; omega, fun p2 hp2 => ?_⟩
          refine ⟨_, p2, hd :: ts, rfl, rfl, SqL.of upd_same, hd_join hhd (parts_len hP) ht2, ?_⟩
          rw [← etx]
          exact q _ (same_new (s1.trans s13) hp2)
end
def spList (K : PySem.W.Frag) : Sp := fun vs H Q _ => ∃ (p : Addr) (b : Bool) (xs : List V) (ts : List Str), vs = [.ref p] ∧ SqB K b H p xs ∧ Paired Flat xs ts ∧ ts.length ≤ 10 ∧ ∀ H', Same H H' → Q (.str (listS ts)) H'
def gath (z : Str) (x : Str) (ts : List Str) : Str := ts.foldl (fun r t => r ++ z ++ t) x
theorem gath_take {z x : Str} {ts : List Str} {i : Nat} {t : Str} (h : ts[i]? = some t) : gath z x (ts.take (i + 1)) = gath z x (ts.take i) ++ z ++ t := by
  unfold gath
  rw [List.take_add_one, h, List.foldl_append]
  rfl
theorem gath_len (z : Str) : ∀ (ts : List Str) (x : Str), (gath z x ts).length = x.length + lens ts + ts.length * z.length
  | [], x => by show x.length = _; simp [lens]
  | t :: r, x => by
    show (gath z (x ++ z ++ t) r).length = _
    rw [gath_len z r, app_len, app_len, lens_cons, List.length_cons, Nat.add_mul]
    omega
theorem lens_take (ts : List Str) (i : Nat) : lens (ts.take i) ≤ lens ts := by
  induction ts generalizing i with
  | nil => simp [lens]
  | cons t r ih =>
    cases i with
    | zero => exact Nat.zero_le _
    | succ i =>
      rw [List.take_succ_cons, lens_cons, lens_cons]
      have := ih i
      omega
theorem gath_join (z : Str) : ∀ (ts : List Str) (x : Str), gath z x ts = Txt.join z (x :: ts)
  | [], x => rfl
  | t :: r, x => by
    show gath z (x ++ z ++ t) r = _
    rw [gath_join z r]
    exact join_nest z x [t] r
theorem listed {ts : List Str} (h : ts ≠ []) : Txt.slice (gath "," Str.empty ts) (some 1) none = listS ts := by
  cases ts with
  | nil => exact absurd rfl h
  | cons t r =>
    have e := join_lead "," t r
    show Txt.slice ((t :: r).foldl (fun r t => r ++ "," ++ t) Str.empty) (some 1) none = _
    rw [← e]
    exact slice_tail 44 _
theorem one_less {ts : List Str} {i : Nat} (h : ts.length ≤ 10) : (ts.take i).length ≤ 10 := by
  rw [List.length_take]
  omega
section
variable {P : Program} {w : World} {K : PySem.W.Frag} {mg : Str → Option Value} {base : Heap} {a : Adr}
theorem ok_Llisted (T : Txt K mg a) : FnOk P w K mg base CX0 1 a.Llisted a.fd_Llisted ["_law_things"] (spList K) := by
  refine T.f_Llisted.ok sc_Llisted (fun vs H Q E h => ?_) (fun cdv A outer s H vs Q E hr h => ?_)
  · obtain ⟨p, b, xs, ts, rfl, _⟩ := h
    rfl
  · obtain ⟨p, b, xs, ts, rfl, hB, hP, hl, q⟩ := h
    have hPl := pair_len hP
    have hsl : (16777216 : Nat) = sizeLine := sizeLine_eq.symm
    refine ⟨_, (pss_cons (ps_if (pt_cmpR op_eq (pe_callB (call_lenK K rfl) (by rfl) T.n_len L2.boot_len (pa_cons (pv 0) pa_nil)) pe_int (nomark _)) (pss_one (ps_ret pe_str)) pss_nil)
  (pss_cons (ps_set (i := 1) sc_Llisted.nd rfl (by first | exact Or.inl rfl | exact Or.inr rfl) pe_str)
  (pss_cons (ps_for PassesOwn.never rfl (pi_eiK K rfl (pv 0)) (pg_name (i := 2) sc_Llisted.nd rfl (by first | exact Or.inl rfl | exact Or.inr rfl))
  (pss_one (ps_set (i := 1) sc_Llisted.nd rfl (by first | exact Or.inl rfl | exact Or.inr rfl) (pe_op op_add_str (pe_op op_add_str (pv 1) pe_str) (pe_callTy call_strV (by rfl) T.n_str L2.boot_str (pa_cons (pv 2) pa_nil))))))
  (pss_one (ps_ret (pe_slice sl_str (pv 1) (po_some pe_int) po_none)))))), ?_⟩
    refine ⟨_, rfl, _, xs.length, rfl, hB.len, rfl, _, rfl, ?_⟩
    refine iteI (fun h0 => ?_) (fun h0 => ?_)
    · have : ts = [] := List.eq_nil_of_length_eq_zero (by omega)
      subst this
      exact q H (Same.refl _)
    · dsimp only [tNext, tSeq]
      refine asg_const ?_
      refine ⟨_, rfl, p, b, rfl, ⟨_, hB⟩, ?_⟩
      have hlen : ∀ i, (gath "," Str.empty (ts.take i)).length ≤ 1010 := fun i => by
        have h1 := lens_take ts i
        have h2 := flats_len hP
        have h3 := one_less (i := i) hl
        rw [gath_len, cm1]
        show 0 + _ + _ ≤ _
        omega
      refine for_ei (K := K) (b := b) (a := p) (xs := xs) (fun i σ H' => H' = H ∧ ∃ v2, σ = [some (.ref p), some (.str (gath "," Str.empty (ts.take i))), v2]) ⟨rfl, _, rfl⟩ (fun i σ H' _ h => h.1 ▸ hB) ?_ ?_
      · rintro i v σ _ hv ⟨rfl, v2, rfl⟩
        obtain ⟨tx, htx, hf⟩ := pair_at hP i v hv
        have hl1 := hlen i
        have hl2 : (gath "," Str.empty (ts.take i) ++ ",").length ≤ 1020 := by rw [app_len, cm1]; omega
        have hl3 := hf.len
        refine gName_ ⟨_, rfl, _, _, rfl, rfl, by rw [cm1]; omega, ?_⟩
        rcases hf with ⟨rfl, _⟩ | ⟨z, rfl, hz, rfl⟩
        · exact ⟨_, rfl, .inr ⟨tx, rfl, _, _, rfl, rfl, by omega, rfl, _, by rw [gath_take htx]; rfl⟩⟩
        · exact ⟨_, rfl, .inl ⟨z, rfl, log_lt (Nat.lt_of_lt_of_le hz (by decide +kernel)), _, _, rfl, rfl, by have hl3 : (Str.ofString (toString z)).length ≤ 100 := hl3; omega, rfl, _, by rw [gath_take htx]; rfl⟩⟩
      · rintro σ _ ⟨rfl, v2, rfl⟩
        have hl1 := hlen xs.length
        rw [List.take_of_length_le (by omega)] at hl1 ⊢
        refine ⟨_, rfl, _, rfl, _, rfl, by omega, ?_⟩
        rw [listed (fun e => by rw [e] at hPl; exact h0 (by rw [hPl]; rfl))]
        exact q _ (Same.refl _)
end
theorem visit_row (g m : Str) : Str.ofString "visit " ++ g ++ Str.ofString " " ++ m = Txt.join " " ["visit", g, m] := by
  have e : Str.ofString "visit " = Str.ofString "visit" ++ Str.ofString " " := by decide +kernel
  rw [e]
  rfl
section
variable {P : Program} {w : World} {K : PySem.W.Frag} {mg : Str → Option Value} {base : Heap} {a : Adr}
theorem ok_Lrow (T : Txt K mg a) : FnOk P w K mg base CX0 8 a.Lrow a.fd_Lrow ["_law_deed"] (spDeed K) := by
  refine T.f_Lrow.ok sc_Lrow (fun vs H Q E h => ?_) (fun cdv A outer s H vs Q E hr h => ?_)
  · obtain ⟨dv, t, rfl, _⟩ := h
    rfl
  · obtain ⟨dv, t, rfl, hD, q⟩ := h
    have hsl : (16777216 : Nat) = sizeLine := sizeLine_eq.symm
    refine ⟨_, (pss_cons (ps_if (pt_cmpR op_eq (pe_ix (ix_tupK K rfl) (pv 0) pe_int (fun _ _ => rfl)) pe_str (nomark _)) (pss_cons (ps_set (i := 1) sc_Lrow.nd rfl (by first | exact Or.inl rfl | exact Or.inr rfl) (pe_lst (pa_cons (pe_ix (ix_tupK K rfl) (pv 0) pe_int (fun _ _ => rfl)) (pa_cons (pe_ix (ix_tupK K rfl) (pv 0) pe_int (fun _ _ => rfl)) (pa_cons (pe_ix (ix_tupK K rfl) (pv 0) pe_int (fun _ _ => rfl)) (pa_cons (pe_call ((ok_Llisted T).mono (by first | decide | omega)) hr rfl T.m_Llisted T.f_Llisted.kp T.b_Llisted .nil pass0 (pa_cons (pe_ix (ix_tupK K rfl) (pv 0) pe_int (fun _ _ => rfl)) pa_nil)) (pa_cons (pe_call ((ok_Llisted T).mono (by first | decide | omega)) hr rfl T.m_Llisted T.f_Llisted.kp T.b_Llisted .nil pass0 (pa_cons (pe_ix (ix_tupK K rfl) (pv 0) pe_int (fun _ _ => rfl)) pa_nil)) (pa_cons (pe_call ((ok_Lrule_row T 6).mono (by first | decide | omega)) hr rfl T.m_Lrule_row T.f_Lrule_row.kp T.b_Lrule_row .nil pass0 (pa_cons (pe_ix (ix_tupK K rfl) (pv 0) pe_int (fun _ _ => rfl)) pa_nil)) pa_nil))))))))
  (pss_one (ps_ret (pe_bmK K rfl PySem.F.plainAttrs_str PySem.F.slot_str_join PySem.F.type_str_join (mt_joinK K rfl) pe_str (pa_cons (pv 1) pa_nil))))) pss_nil)
  (pss_cons (ps_if (pt_cmpR op_eq (pe_ix (ix_tupK K rfl) (pv 0) pe_int (fun _ _ => rfl)) pe_str (nomark _)) (pss_one (ps_ret (pe_op op_add_str (pe_op op_add_str (pe_op op_add_str pe_str (pe_ix (ix_tupK K rfl) (pv 0) pe_int (fun _ _ => rfl))) pe_str) (pe_call ((ok_Llisted T).mono (by first | decide | omega)) hr rfl T.m_Llisted T.f_Llisted.kp T.b_Llisted .nil pass0 (pa_cons (comp_of ["_law_deed", "_law_parts", "_law_row_here", "_law_thing"] ["_law_word_here", "_law_number_here"] [] [4, 5] (defScope s_Lrow) rfl rfl rfl (by decide +kernel) (by decide +kernel) (gk_two _ 4 5)
    (pi_tupK K rfl (pe_ix (ix_tupK K rfl) (pv 0) pe_int (fun _ _ => rfl))) (fun cl C s₀ H₀ ex => ⟨(pg_tupK K rfl rfl (pgs_cons (pg_name (i := 4) (show List.Nodup ((["_law_deed", "_law_parts", "_law_row_here", "_law_thing"] : List PySem.Str) ++ (["_law_word_here", "_law_number_here"] : List PySem.Str)) by decide +kernel) rfl (by first | exact Or.inl rfl | exact Or.inr rfl)) (pgs_cons (pg_name (i := 5) (show List.Nodup ((["_law_deed", "_law_parts", "_law_row_here", "_law_thing"] : List PySem.Str) ++ (["_law_word_here", "_law_number_here"] : List PySem.Str)) by decide +kernel) rfl (by first | exact Or.inl rfl | exact Or.inr rfl)) pgs_nil))), pts_nil, (pe_op op_add_str (pe_op op_add_str (pv 4) pe_str) (pe_callTy call_strV (by rfl) T.n_str L2.boot_str (pa_cons (pv 5) pa_nil)))⟩)) pa_nil))))) pss_nil)
  (pss_cons (ps_set (i := 2) sc_Lrow.nd rfl (by first | exact Or.inl rfl | exact Or.inr rfl) (pe_ix (ix_tupK K rfl) (pv 0) pe_int (fun _ _ => rfl)))
  (pss_cons (ps_for PassesOwn.never rfl (pi_tupK K rfl (pe_slice (sl_tupK K rfl) (pv 0) (po_some pe_int) po_none)) (pg_name (i := 3) sc_Lrow.nd rfl (by first | exact Or.inl rfl | exact Or.inr rfl))
  (pss_one (ps_if (pt_truthK K rfl (pe_callB (call_isiTK K rfl) (by rfl) T.n_isinstance L2.boot_isinstance (pa_cons (pv 3) (pa_cons (pe_ty rfl T.n_tuple L2.boot_tuple) pa_nil))) (fun _ => rfl)) (pss_one (ps_set (i := 2) sc_Lrow.nd rfl (by first | exact Or.inl rfl | exact Or.inr rfl) (pe_op op_add_str (pe_op op_add_str (pv 2) pe_str) (pe_call ((ok_Llisted T).mono (by first | decide | omega)) hr rfl T.m_Llisted T.f_Llisted.kp T.b_Llisted .nil pass0 (pa_cons (pv 3) pa_nil))))) (pss_one (ps_set (i := 2) sc_Lrow.nd rfl (by first | exact Or.inl rfl | exact Or.inr rfl) (pe_op op_add_str (pe_op op_add_str (pv 2) pe_str) (pe_callTy call_strV (by rfl) T.n_str L2.boot_str (pa_cons (pv 3) pa_nil))))))))
  (pss_one (ps_ret (pv 2))))))), ?_⟩
    cases hD with
    | plain h1 h2 h3 h4 h5 h6 =>
      rename_i p hd vs ts
      have hPl := pair_len h5
      refine ⟨_, rfl, p, _, 0, _, rfl, rfl, h1, atI_nat' (k := 0) rfl, rfl, _, rfl, word_ne h2 ?_⟩
      refine ⟨_, rfl, p, _, 0, _, rfl, rfl, h1, atI_nat' (k := 0) rfl, rfl, _, rfl, word_ne h3 ?_⟩
      refine ⟨_, rfl, p, _, 0, _, rfl, rfl, h1, atI_nat' (k := 0) rfl, ?_⟩
      have nowhole : ¬ (HT.sIx (V.str hd :: vs).length 0 (some 1) = 0 ∧ HT.sIx (V.str hd :: vs).length (V.str hd :: vs).length none = (V.str hd :: vs).length) := by
        unfold HT.sIx
        simp
      refine gName_ ⟨_, rfl, _, rfl, p, _, rfl, h1, nowhole, fun p2 hp2 => ?_⟩
      rw [cut1]
      have s1 := same_new (o := .tup vs) (Same.refl H) hp2
      have hP2 : upd H p2 (.tup vs) p2 = some (.tup vs) := upd_same
      generalize upd H p2 (.tup vs) = H1 at s1 hP2 ⊢
      have hlen : ∀ i, (gath " " hd (ts.take i)).length ≤ 10000 := fun i => by
        have k1 := lens_take ts i
        have k2 := things_len h5
        have k3 : (ts.take i).length ≤ 5 := by rw [List.length_take]; omega
        rw [gath_len, bl1]
        omega
      refine ⟨p2, rfl, ⟨_, SqT.of hP2⟩, ?_⟩
      refine for_tup (K := K) (a := p2) (xs := vs) (fun i σ H' => Same H1 H' ∧ ∃ v1 v3, σ = [some (.ref p), v1, some (.str (gath " " hd (ts.take i))), v3]) ⟨Same.refl _, _, _, rfl⟩ (fun i σ H' _ h => Same.tseq h.1 (SqT.of hP2)) ?_ ?_
      · rintro i v σ H2 hv ⟨s2, v1, v3, rfl⟩
        obtain ⟨tx, htx, hf⟩ := pair_at h5 i v hv
        have hl1 := hlen i
        have hl2 : (gath " " hd (ts.take i) ++ " ").length ≤ 10010 := by rw [app_len, bl1]; omega
        have hl3 := hf.len
        have s02 := s1.trans s2
        have eg := gath_take (z := " ") (x := hd) htx
        refine gName_ ?_
        rcases hf with hf | ⟨fs, hf, rfl⟩
        · rcases hf with ⟨rfl, _⟩ | ⟨z, rfl, hz, rfl⟩
          · refine ⟨_, rfl, _, "tuple", _, false, rfl, .inl (.str tx), kit_tt (by decide +kernel), false, rfl, iteF ?_⟩
            exact ⟨_, rfl, _, _, rfl, rfl, by rw [bl1]; omega, _, rfl, .inr ⟨tx, rfl, _, _, rfl, rfl, by omega, s2, _, _, by rw [eg]; rfl⟩⟩
          · refine ⟨_, rfl, _, "tuple", _, false, rfl, .inl (.int z), kit_tt (by decide +kernel), false, rfl, iteF ?_⟩
            exact ⟨_, rfl, _, _, rfl, rfl, by rw [bl1]; omega, _, rfl, .inl ⟨z, rfl, log_lt (Nat.lt_of_lt_of_le hz (by decide +kernel)), _, _, rfl, rfl, by have hl3 : (Str.ofString (toString z)).length ≤ 1010 := hl3; omega, s2, _, _, by rw [eg]; rfl⟩⟩
        · obtain ⟨t2, vs2, rfl, ht2, hp2, hl2⟩ := hf.kp (.of s02)
          refine ⟨_, rfl, _, "tuple", _, true, rfl, .inr ⟨t2, _, rfl, ht2, rfl⟩, kit_tt (by decide +kernel), true, rfl, iteT ?_⟩
          exact ⟨_, rfl, _, _, rfl, rfl, by rw [bl1]; omega, _, rfl, t2, false, vs2, fs, rfl, ht2, hp2, hl2, fun H6 s6 => ⟨_, _, rfl, rfl, by omega, s2.trans s6, _, _, by rw [eg]; rfl⟩⟩
      · rintro σ H2 ⟨s2, v1, v3, rfl⟩
        rw [List.take_of_length_le (by omega), gath_join]
        exact ⟨_, rfl, q H2 (s1.trans s2)⟩
    | trial h1 h2 h3 h4 h5 h6 h7 h8 =>
      rename_i p n l av rv sv as ss r
      refine ⟨_, rfl, p, _, 0, _, rfl, rfl, h1, rfl, rfl, _, rfl, word_eq ?_⟩
      obtain ⟨aa, avs, rfl, haa, hap, hal⟩ := id h4
      refine ⟨_, rfl, p, _, 0, _, rfl, rfl, h1, rfl, _, rfl, p, _, 1, _, rfl, rfl, h1, rfl, _, rfl, p, _, 2, _, rfl, rfl, h1, rfl, _, rfl, p, _, 3, _, rfl, rfl, h1, rfl, aa, false, avs, as, rfl, haa, hap, hal, fun H2 s02 => ?_⟩
      obtain ⟨sa, svs, rfl, hsa, hsp, hsl⟩ := h5.kp (.of s02)
      refine ⟨_, rfl, p, _, 5, _, rfl, rfl, Same.tseq s02 h1, rfl, sa, false, svs, ss, rfl, hsa, hsp, hsl, fun H3 s3 => ?_⟩
      have s03 := s02.trans s3
      refine ⟨_, rfl, p, _, 4, _, rfl, rfl, Same.tseq s03 h1, rfl, r, rv, rfl, h6.kp (.of s03), h7, h7, h8, fun H4 s4 => ?_⟩
      refine ⟨le_size (show _ ≤ 65536 by simp), fun l1 hl1 => gName_ ?_⟩
      refine ⟨rfl, _, rfl, _, l1, ["trial", n, l, listS as, listS ss, r.txt], rfl, rfl, SqL.of upd_same, ?_, q _ (same_new (s03.trans s4) hl1)⟩
      have k2 := h4.len
      have k3 := h5.len
      have k4 := Ru.txt_le h8 h7
      have k5 : (Str.ofString "trial").length = 5 := by decide +kernel
      refine blank_ok (n := 20000) ?_ (by decide) (by simp)
      rw [lens_cons, lens_cons, lens_cons, lens_cons, lens_cons, lens_cons, lens_nil]
      omega
    | visit h1 h2 h3 h4 h5 =>
      rename_i p g mv ms
      refine ⟨_, rfl, p, _, 0, _, rfl, rfl, h1, rfl, rfl, _, rfl, word_ne (by decide +kernel) ?_⟩
      refine ⟨_, rfl, p, _, 0, _, rfl, rfl, h1, rfl, rfl, _, rfl, word_eq ?_⟩
      have kv : (Str.ofString "visit ").length = 6 := by decide +kernel
      have kg : (Str.ofString "visit " ++ g).length ≤ 100 := by rw [app_len]; omega
      have kb : (Str.ofString "visit " ++ g ++ Str.ofString " ").length ≤ 101 := by rw [app_len, bl1]; omega
      refine ⟨_, rfl, p, _, 1, _, rfl, rfl, h1, rfl, _, _, rfl, rfl, by omega, _, _, rfl, rfl, by rw [bl1]; omega, ?_⟩
      obtain ⟨pm, vs, rfl, hT, hvl, hms⟩ := h3
      refine ⟨_, rfl, p, _, 2, _, rfl, rfl, h1, rfl, pm, rfl, ⟨_, hT⟩, fun D hD => ?_⟩
      have sD : ∀ acc, Same H (upd H D (.lst acc)) := fun acc => same_new (Same.refl _) hD
      refine comp_tup (K := K) (a := pm) (xs := vs) (fun i acc H' => acc = ((ms.take i).map mkS).map V.str ∧ H' = upd H D (.lst acc)) ⟨by rw [List.take_zero]; rfl, rfl⟩ (fun i acc H' _ h => h.2 ▸ Same.tseq (sD _) hT) ?_ ?_
      · rintro i v acc _ hv ⟨rfl, rfl⟩
        have hi : i < vs.length := (List.getElem?_eq_some_iff.mp hv).1
        have hi2 : ms[i]? = some (ms[i]'(by omega)) := List.getElem?_eq_getElem (by omega)
        generalize ms[i]'(by omega) = m at hi2
        obtain ⟨b, hb, hB⟩ := hms i m hi2
        rw [hb] at hv
        cases hv
        have hf := h5 m (List.mem_of_getElem? hi2)
        have hn : (Str.ofString (toString m.2)).length ≤ 32 := num_len hf.2
        have hw := hf.1
        have he : (Str.ofString "=").length = 1 := by decide +kernel
        have l1 : (m.1 ++ Str.ofString "=").length = m.1.length + 1 := by rw [app_len, he]
        have htk : ((ms.take i).map mkS).map V.str ++ [V.str (m.1 ++ Str.ofString "=" ++ Str.ofString (toString m.2))] = ((ms.take (i + 1)).map mkS).map V.str := by
          rw [take_map hi2, List.map_append]
          rfl
        refine ⟨b, _, rfl, Same.tseq (sD _) hB, rfl, _, _, rfl, gName_ ⟨_, _, rfl, gName_ ⟨rfl, yes_ (iteT ?_)⟩⟩⟩
        refine ⟨_, rfl, _, _, rfl, rfl, by rw [he]; omega, _, rfl, .inl ⟨m.2, rfl, num_log hf.2, _, _, rfl, rfl, by omega, upd_same, ?_, lf hi ⟨htk, by rw [upd_upd]⟩⟩⟩
        rw [List.length_map, List.length_map, List.length_take, sizeLine_eq]
        omega
      · rintro acc _ ⟨rfl, rfl⟩
        have km := marksS_len h5 h4
        refine ⟨D, true, _, ms.map mkS, rfl, SqL.of upd_same, ?_, by rw [List.length_map]; exact h4, fun H' s' => ⟨_, _, rfl, rfl, by omega, ?_⟩⟩
        · rw [List.take_of_length_le (by omega), List.map_map]
          exact marks_flat h5
        · rw [visit_row]
          exact q H' ((sD _).trans s')
end
theorem wds_pairs : ∀ {l : List Str}, (∀ w ∈ l, Wd w) → Paired Flat (l.map V.str) l
  | [], _ => .nil
  | x :: r, h => .cons (.inl ⟨rfl, Nat.le_trans (h x List.mem_cons_self).hi (by decide)⟩) (wds_pairs fun y hy => h y (List.mem_cons_of_mem _ hy))
theorem nums_pairs : ∀ {l : List Int}, NsOk l → Paired Flat (l.map V.int) (l.map numS)
  | [], _ => .nil
  | x :: r, h => .cons (.inr ⟨x, rfl, Nat.lt_of_lt_of_le (h x List.mem_cons_self).2 (by decide +kernel), rfl⟩) (nums_pairs fun y hy => h y (List.mem_cons_of_mem _ hy))
theorem th_thing {K : PySem.W.Frag} {H : Hp} {f : Str} {t : Th} {v : V} (ho : ThOk f t) (hf : f ≠ "marks") (h : ThAt K H t v) : Thing K H v t.txt := by
  have h0 := ho
  rcases ho.kinds with ⟨w, rfl, _⟩ | ⟨i, rfl, hi, _⟩ | ⟨l, rfl, hl, hn, _⟩ | ⟨l, rfl, hl, hn, _⟩ | ⟨l, rfl, hl, hn, e⟩
  · cases h
    refine plain_thing ?_
    cases h0 with
    | word hw => exact Nat.le_trans hw.hi (by decide)
    | guest hw => exact Nat.le_trans hw.hi (by decide)
  · cases h
    exact .inl (.inr ⟨i, rfl, Nat.lt_of_lt_of_le hi (by decide +kernel), rfl⟩)
  · obtain ⟨a, rfl, hT⟩ := h
    exact .inr ⟨l, ⟨a, _, rfl, hT, wds_pairs hl, hn⟩, rfl⟩
  · obtain ⟨a, rfl, hT⟩ := h
    exact .inr ⟨l.map numS, ⟨a, _, rfl, hT, nums_pairs hl, by rw [List.length_map]; exact hn⟩, rfl⟩
  · exact absurd e hf
theorem ths_things {K : PySem.W.Frag} {H : Hp} : ∀ {fs : List Str} {ths : List Th} {vs : List V}, Paired ThOk fs ths → (∀ f ∈ fs, f ≠ "marks") → Paired (ThAt K H) ths vs → Paired (Thing K H) vs (ths.map Th.txt)
  | _, _, _, .nil, _, .nil => .nil
  | _, _, _, .cons o t, h, .cons a r => .cons (th_thing o (h _ List.mem_cons_self) a) (ths_things t (fun f hf => h f (List.mem_cons_of_mem _ hf)) r)
theorem KF.marks {k : Str} {fs : List Str} (h : KF k fs) : (k = "visit" ∧ fs = ([Str.ofString "guest", Str.ofString "marks"] : List Str)) ∨ (k ≠ "visit" ∧ ∀ f ∈ fs, f ≠ "marks") := by
  cases h with
  | visit => exact .inl ⟨rfl, rfl⟩
  | _ => exact .inr ⟨by decide +kernel, by decide +kernel⟩
theorem wds_flat {K : PySem.W.Frag} {H : Hp} {f : Str} {l : List Str} {v : V} (ho : ThOk f (.ws l)) (h : ThAt K H (.ws l) v) : Flats K H v l := by
  have hw : (∀ w ∈ l, Wd w) ∧ l.length ≤ 10 := by
    cases ho with
    | arms h1 _ _ h2 => exact ⟨h1, by omega⟩
    | shuts h1 _ h2 => exact ⟨h1, by omega⟩
  obtain ⟨a, rfl, hT⟩ := h
  obtain ⟨hl, hn⟩ := hw
  exact ⟨a, _, rfl, hT, wds_pairs hl, hn⟩
theorem dd_deed {K : PySem.W.Frag} {H : Hp} {d : Dd} {v : V} (ho : DdOk d) (h : DdAt K H d v) : DeedAt K H v d.txt := by
  cases ho with
  | plain hk hp =>
    rename_i k fs ths
    obtain ⟨k1, k2, k3, k4, k5⟩ := hk.facts
    obtain ⟨p, vs, rfl, hT, hv⟩ := h
    have e1 := pair_len hp
    rcases hk.marks with ⟨rfl, rfl⟩ | ⟨kv, kf⟩
    · cases hp with
      | cons o1 hp =>
        cases hp with
        | cons o2 hp =>
          cases hp
          cases o1 with
          | guest hg =>
            cases o2 with
            | marks m1 m2 m3 =>
              cases hv with
              | cons a1 hv =>
                cases hv with
                | cons a2 hv =>
                  cases hv
                  cases a1
                  exact .visit hT (Nat.le_trans hg.hi (by decide)) a2 (by omega) (fun m hm => ⟨Nat.le_trans (m1 m hm).1.hi (by decide), (m1 m hm).2⟩)
    · exact .plain hT k1 kv (by omega) (ths_things hp kf hv) (by rw [List.length_map]; omega)
  | trial w1 w2 w3 w4 hg =>
    obtain ⟨p, av, rv, sv, rfl, hT, a1, a2, a3⟩ := h
    exact .trial hT (Nat.le_trans w1.hi (by decide)) (Nat.le_trans w2.hi (by decide)) (wds_flat w3 a1) (wds_flat w4 a2) a3 hg.hgt hg.fit
section
variable {P : Program} {w : World} {K : PySem.W.Frag} {mg : Str → Option Value} {base : Heap} {a : Adr}
theorem ok_law (T : Txt K mg a) (hw : w.params = a.pm) : FnOk P w K mg base CX0 14 a.law a.fd_law ["_law_script"] (spLaw K) := by
  refine T.f_law.ok sc_law (fun vs H Q E h => ?_) (fun cdv A outer s H vs Q E hr h => ?_)
  · obtain ⟨p, ns, rfl, _⟩ := h
    rfl
  · obtain ⟨sc, ns, rfl, hS, hl, q⟩ := h
    refine ⟨_, (pss_cons (ps_for PassesOwn.never rfl (pi_range1 rfl T.n_range (pa_cons (pe_callB (call_min2 rfl) (by rfl) T.n_min L2.boot_min (pa_cons (pe_op op_add (pe_callB (call_lenK K rfl) (by rfl) T.n_len L2.boot_len (pa_cons (pv 0) pa_nil)) pe_int) (pa_cons pe_int pa_nil))) pa_nil)) (pg_name (i := 1) sc_law.nd rfl (by first | exact Or.inl rfl | exact Or.inr rfl))
  (pss_cons (ps_set (i := 2) sc_law.nd rfl (by first | exact Or.inl rfl | exact Or.inr rfl) (pe_call ((ok_Lform T).mono (by first | decide | omega)) hr rfl T.m_Lform T.f_Lform.kp T.b_Lform .nil pass0 (pa_cons (pv 0) (pa_cons (pv 1) pa_nil))))
  (pss_cons (ps_if (pt_not (pt_truthK K rfl (pe_call ((ok_Lsame T 8).mono (by first | decide | omega)) hr rfl T.m_Lsame T.f_Lsame.kp T.b_Lsame .nil pass0 (pa_cons (pe_call ((ok_Lread T hw).mono (by first | decide | omega)) hr rfl T.m_Lread T.f_Lread.kp T.b_Lread .nil pass0 (pa_cons (pe_call ((ok_Lrow T).mono (by first | decide | omega)) hr rfl T.m_Lrow T.f_Lrow.kp T.b_Lrow .nil pass0 (pa_cons (pv 2) pa_nil)) pa_nil)) (pa_cons (pv 2) pa_nil))) (fun _ => rfl))) (pss_one (ps_ret pe_bl)) pss_nil)
  (pss_one (ps_if (PW.pt (pw_and (pt_cmpR op_eq (pe_ix (ix_tupK K rfl) (pv 2) pe_int (fun _ _ => rfl)) pe_str (nomark _)) (pw_and1 (pt_not (pt_truthK K rfl (pe_call ((ok_Lsame T 8).mono (by first | decide | omega)) hr rfl T.m_Lsame T.f_Lsame.kp T.b_Lsame .nil pass0 (pa_cons (pe_call ((ok_Lread_rule T).mono (by first | decide | omega)) hr rfl T.m_Lread_rule T.f_Lread_rule.kp T.b_Lread_rule .nil pass0 (pa_cons (pe_call ((ok_Lrule_row T 6).mono (by first | decide | omega)) hr rfl T.m_Lrule_row T.f_Lrule_row.kp T.b_Lrule_row .nil pass0 (pa_cons (pe_ix (ix_tupK K rfl) (pv 2) pe_int (fun _ _ => rfl)) pa_nil)) pa_nil)) (pa_cons (pe_ix (ix_tupK K rfl) (pv 2) pe_int (fun _ _ => rfl)) pa_nil))) (fun _ => rfl)))))) (pss_one (ps_ret pe_bl)) pss_nil)))))
  (pss_one (ps_ret pe_bl))), ?_⟩
    have hn : ∃ n : Int, n = (if (40 : Int) < (ns.length : Int) + 3 then 40 else (ns.length : Int) + 3) ∧ 0 ≤ n ∧ n ≤ 40 := ⟨_, rfl, by split <;> omega, by split <;> omega⟩
    obtain ⟨n, en, n0, n1⟩ := hn
    refine ⟨_, rfl, _, ns.length, rfl, .inl ⟨_, hS, by simp⟩, _, _, rfl, rfl, _, _, rfl, n, (by rw [en]), (by omega), (by omega), ?_⟩
    refine for_range (lo := 0) (n := n.toNat) (fun i σ H' => Same H H' ∧ ∃ v1 v2, σ = [some (.ref sc), v1, v2]) ⟨Same.refl _, _, _, rfl⟩ ?_ ?_
    · rintro i σ H2 hi ⟨s2, v1, v2, rfl⟩
      refine gName_ ⟨_, rfl, _, rfl, sc, ns, _, rfl, s2.seq hS, hl, ⟨by omega, by omega⟩, fun dv d H3 s3 hD hok => ?_⟩
      refine gName_ ⟨_, rfl, dv, d.txt, rfl, dd_deed hok hD, fun H4 s4 => ?_⟩
      refine ⟨d, rfl, hok, fun fv H5 s5 hF => ?_⟩
      have s35 := s4.trans s5
      refine ⟨_, rfl, 7, fv, dv, rfl, rfl, dd_eqd hok hF (hD.kp (.of s35)), fun H6 s6 => ⟨_, rfl, iteF ?_⟩⟩
      have s36 := s35.trans s6
      have s26 := (s2.trans s3).trans s36
      cases hok with
      | plain hk hp =>
        rename_i k fs ths
        obtain ⟨k1, _⟩ := hk.facts
        obtain ⟨p, vs, rfl, hT, hv⟩ := hD
        refine ⟨_, rfl, p, _, 0, _, rfl, rfl, Same.tseq s36 hT, atI_nat' (k := 0) rfl, rfl, _, rfl, word_ne k1 ?_⟩
        exact ⟨s26, _, _, rfl⟩
      | trial w1 w2 w3 w4 hg =>
        rename_i n' l' as ss ws r
        obtain ⟨p, av, rv, sv, rfl, hT, a1, a2, a3⟩ := hD
        refine ⟨_, rfl, p, _, 0, _, rfl, rfl, Same.tseq s36 hT, atI_nat' (k := 0) rfl, rfl, _, rfl, word_eq ?_⟩
        refine ⟨_, rfl, p, _, 4, _, rfl, rfl, Same.tseq s36 hT, rfl, r, rv, rfl, a3.kp (.of s36), hg.hgt, hg.hgt, hg.fit, fun H7 s7 => ?_⟩
        refine ⟨r, ws, rfl, hg, fun fv2 H8 s8 hF2 => ?_⟩
        have s68 := s7.trans s8
        refine ⟨_, rfl, p, _, 4, _, rfl, rfl, Same.tseq (s36.trans s68) hT, rfl, ?_⟩
        refine ⟨7, fv2, rv, rfl, rfl, ru_eqd hF2 (a3.kp (.of (s36.trans s68))) (Nat.le_succ_of_le hg.hgt), fun H9 s9 => ⟨_, rfl, iteF ?_⟩⟩
        exact ⟨(s26.trans s68).trans s9, _, _, rfl⟩
    · rintro σ H2 _
      exact q H2
end
theorem all_mk {K : PySem.W.Frag} {h : Heap} {mg : Str → Option Value} {x_SplitError : Addr}
    {x_NoRow : Addr}
    {x_is_whole : Addr} {od_is_whole an_is_whole : Option Addr} {sl_is_whole : Array (Option Value)} {oc_is_whole kV_is_whole dc_is_whole pm_is_whole cd_is_whole ct_is_whole : Value}
    {x_is_text_of : Addr} {od_is_text_of an_is_text_of : Option Addr} {sl_is_text_of : Array (Option Value)} {oc_is_text_of kV_is_text_of dc_is_text_of pm_is_text_of cd_is_text_of ct_is_text_of : Value}
    {x_is_word : Addr} {od_is_word an_is_word : Option Addr} {sl_is_word : Array (Option Value)} {oc_is_word kV_is_word dc_is_word pm_is_word cd_is_word ct_is_word : Value}
    {x_is_guest : Addr} {od_is_guest an_is_guest : Option Addr} {sl_is_guest : Array (Option Value)} {oc_is_guest kV_is_guest dc_is_guest pm_is_guest cd_is_guest ct_is_guest : Value}
    {x_is_number : Addr} {od_is_number an_is_number : Option Addr} {sl_is_number : Array (Option Value)} {oc_is_number kV_is_number dc_is_number pm_is_number cd_is_number ct_is_number : Value}
    {x_is_mark : Addr} {od_is_mark an_is_mark : Option Addr} {sl_is_mark : Array (Option Value)} {oc_is_mark kV_is_mark dc_is_mark pm_is_mark cd_is_mark ct_is_mark : Value}
    {x_are_marks : Addr} {od_are_marks an_are_marks : Option Addr} {sl_are_marks : Array (Option Value)} {oc_are_marks kV_are_marks dc_are_marks pm_are_marks cd_are_marks ct_are_marks : Value}
    {x_has_form : Addr} {od_has_form an_has_form : Option Addr} {sl_has_form : Array (Option Value)} {oc_has_form kV_has_form dc_has_form pm_has_form cd_has_form ct_has_form : Value}
    {x_all_within : Addr} {od_all_within an_all_within : Option Addr} {sl_all_within : Array (Option Value)} {oc_all_within kV_all_within dc_all_within pm_all_within cd_all_within ct_all_within : Value}
    {x_words_of : Addr} {od_words_of an_words_of : Option Addr} {sl_words_of : Array (Option Value)} {oc_words_of kV_words_of dc_words_of pm_words_of cd_words_of ct_words_of : Value}
    {x_is_rule : Addr} {od_is_rule an_is_rule : Option Addr} {sl_is_rule : Array (Option Value)} {oc_is_rule kV_is_rule dc_is_rule pm_is_rule cd_is_rule ct_is_rule : Value}
    {x_is_count : Addr} {od_is_count an_is_count : Option Addr} {sl_is_count : Array (Option Value)} {oc_is_count kV_is_count dc_is_count pm_is_count cd_is_count ct_is_count : Value}
    {x_is_total : Addr} {od_is_total an_is_total : Option Addr} {sl_is_total : Array (Option Value)} {oc_is_total kV_is_total dc_is_total pm_is_total cd_is_total ct_is_total : Value}
    {x_is_weight : Addr} {od_is_weight an_is_weight : Option Addr} {sl_is_weight : Array (Option Value)} {oc_is_weight kV_is_weight dc_is_weight pm_is_weight cd_is_weight ct_is_weight : Value}
    {x_are_counts : Addr} {od_are_counts an_are_counts : Option Addr} {sl_are_counts : Array (Option Value)} {oc_are_counts kV_are_counts dc_are_counts pm_are_counts cd_are_counts ct_are_counts : Value}
    {x_are_weights : Addr} {od_are_weights an_are_weights : Option Addr} {sl_are_weights : Array (Option Value)} {oc_are_weights kV_are_weights dc_are_weights pm_are_weights cd_are_weights ct_are_weights : Value}
    {x_are_arms : Addr} {od_are_arms an_are_arms : Option Addr} {sl_are_arms : Array (Option Value)} {oc_are_arms kV_are_arms dc_are_arms pm_are_arms cd_are_arms ct_are_arms : Value}
    {x_check_row : Addr} {od_check_row an_check_row : Option Addr} {sl_check_row : Array (Option Value)} {oc_check_row kV_check_row dc_check_row pm_check_row cd_check_row ct_check_row : Value}
    {x_read_number : Addr} {od_read_number an_read_number : Option Addr} {sl_read_number : Array (Option Value)} {oc_read_number kV_read_number dc_read_number pm_read_number cd_read_number ct_read_number : Value}
    {x_read_mark : Addr} {od_read_mark an_read_mark : Option Addr} {sl_read_mark : Array (Option Value)} {oc_read_mark kV_read_mark dc_read_mark pm_read_mark cd_read_mark ct_read_mark : Value}
    {x_parts_of : Addr} {od_parts_of an_parts_of : Option Addr} {sl_parts_of : Array (Option Value)} {oc_parts_of kV_parts_of dc_parts_of pm_parts_of cd_parts_of ct_parts_of : Value}
    {x_value_of : Addr} {od_value_of an_value_of : Option Addr} {sl_value_of : Array (Option Value)} {oc_value_of kV_value_of dc_value_of pm_value_of cd_value_of ct_value_of : Value}
    {x_are_shuts : Addr} {od_are_shuts an_are_shuts : Option Addr} {sl_are_shuts : Array (Option Value)} {oc_are_shuts kV_are_shuts dc_are_shuts pm_are_shuts cd_are_shuts ct_are_shuts : Value}
    {x_is_of : Addr} {od_is_of an_is_of : Option Addr} {sl_is_of : Array (Option Value)} {oc_is_of kV_is_of dc_is_of pm_is_of cd_is_of ct_is_of : Value}
    {x_read_thing : Addr} {od_read_thing an_read_thing : Option Addr} {sl_read_thing : Array (Option Value)} {oc_read_thing kV_read_thing dc_read_thing pm_read_thing cd_read_thing ct_read_thing : Value}
    {x_read_things : Addr} {od_read_things an_read_things : Option Addr} {sl_read_things : Array (Option Value)} {oc_read_things kV_read_things dc_read_things pm_read_things cd_read_things ct_read_things : Value}
    {x_take_word : Addr} {od_take_word an_take_word : Option Addr} {sl_take_word : Array (Option Value)} {oc_take_word kV_take_word dc_take_word pm_take_word cd_take_word ct_take_word : Value}
    {x_take_rule : Addr} {od_take_rule an_take_rule : Option Addr} {sl_take_rule : Array (Option Value)} {oc_take_rule kV_take_rule dc_take_rule pm_take_rule cd_take_rule ct_take_rule : Value}
    {x_read_rule_words : Addr} {od_read_rule_words an_read_rule_words : Option Addr} {sl_read_rule_words : Array (Option Value)} {oc_read_rule_words kV_read_rule_words dc_read_rule_words pm_read_rule_words cd_read_rule_words ct_read_rule_words : Value}
    {x_read_rule : Addr} {od_read_rule an_read_rule : Option Addr} {sl_read_rule : Array (Option Value)} {oc_read_rule kV_read_rule dc_read_rule pm_read_rule cd_read_rule ct_read_rule : Value}
    {x_read_deed : Addr} {od_read_deed an_read_deed : Option Addr} {sl_read_deed : Array (Option Value)} {oc_read_deed kV_read_deed dc_read_deed pm_read_deed cd_read_deed ct_read_deed : Value}
    {x_Lcell_at : Addr} {od_Lcell_at an_Lcell_at : Option Addr} {sl_Lcell_at : Array (Option Value)} {oc_Lcell_at kV_Lcell_at dc_Lcell_at pm_Lcell_at cd_Lcell_at ct_Lcell_at : Value}
    {x_Lmixed : Addr} {od_Lmixed an_Lmixed : Option Addr} {sl_Lmixed : Array (Option Value)} {oc_Lmixed kV_Lmixed dc_Lmixed pm_Lmixed cd_Lmixed ct_Lmixed : Value}
    {x_Lword : Addr} {od_Lword an_Lword : Option Addr} {sl_Lword : Array (Option Value)} {oc_Lword kV_Lword dc_Lword pm_Lword cd_Lword ct_Lword : Value}
    {x_Lnumber : Addr} {od_Lnumber an_Lnumber : Option Addr} {sl_Lnumber : Array (Option Value)} {oc_Lnumber kV_Lnumber dc_Lnumber pm_Lnumber cd_Lnumber ct_Lnumber : Value}
    {x_Lleaf : Addr} {od_Lleaf an_Lleaf : Option Addr} {sl_Lleaf : Array (Option Value)} {oc_Lleaf kV_Lleaf dc_Lleaf pm_Lleaf cd_Lleaf ct_Lleaf : Value}
    {x_Lrule : Addr} {od_Lrule an_Lrule : Option Addr} {sl_Lrule : Array (Option Value)} {oc_Lrule kV_Lrule dc_Lrule pm_Lrule cd_Lrule ct_Lrule : Value}
    {x_Lwords : Addr} {od_Lwords an_Lwords : Option Addr} {sl_Lwords : Array (Option Value)} {oc_Lwords kV_Lwords dc_Lwords pm_Lwords cd_Lwords ct_Lwords : Value}
    {x_Lname : Addr} {od_Lname an_Lname : Option Addr} {sl_Lname : Array (Option Value)} {oc_Lname kV_Lname dc_Lname pm_Lname cd_Lname ct_Lname : Value}
    {x_Lguest : Addr} {od_Lguest an_Lguest : Option Addr} {sl_Lguest : Array (Option Value)} {oc_Lguest kV_Lguest dc_Lguest pm_Lguest cd_Lguest ct_Lguest : Value}
    {x_Lnames : Addr} {od_Lnames an_Lnames : Option Addr} {sl_Lnames : Array (Option Value)} {oc_Lnames kV_Lnames dc_Lnames pm_Lnames cd_Lnames ct_Lnames : Value}
    {x_Llong : Addr} {od_Llong an_Llong : Option Addr} {sl_Llong : Array (Option Value)} {oc_Llong kV_Llong dc_Llong pm_Llong cd_Llong ct_Llong : Value}
    {x_Lmany_marks : Addr} {od_Lmany_marks an_Lmany_marks : Option Addr} {sl_Lmany_marks : Array (Option Value)} {oc_Lmany_marks kV_Lmany_marks dc_Lmany_marks pm_Lmany_marks cd_Lmany_marks ct_Lmany_marks : Value}
    {x_Lform : Addr} {od_Lform an_Lform : Option Addr} {sl_Lform : Array (Option Value)} {oc_Lform kV_Lform dc_Lform pm_Lform cd_Lform ct_Lform : Value}
    {x_Lrule_row : Addr} {od_Lrule_row an_Lrule_row : Option Addr} {sl_Lrule_row : Array (Option Value)} {oc_Lrule_row kV_Lrule_row dc_Lrule_row pm_Lrule_row cd_Lrule_row ct_Lrule_row : Value}
    {x_Llisted : Addr} {od_Llisted an_Llisted : Option Addr} {sl_Llisted : Array (Option Value)} {oc_Llisted kV_Llisted dc_Llisted pm_Llisted cd_Llisted ct_Llisted : Value}
    {x_Lrow : Addr} {od_Lrow an_Lrow : Option Addr} {sl_Lrow : Array (Option Value)} {oc_Lrow kV_Lrow dc_Lrow pm_Lrow cd_Lrow ct_Lrow : Value}
    {x_Lsame : Addr} {od_Lsame an_Lsame : Option Addr} {sl_Lsame : Array (Option Value)} {oc_Lsame kV_Lsame dc_Lsame pm_Lsame cd_Lsame ct_Lsame : Value}
    {x_Lread : Addr} {od_Lread an_Lread : Option Addr} {sl_Lread : Array (Option Value)} {oc_Lread kV_Lread dc_Lread pm_Lread cd_Lread ct_Lread : Value}
    {x_Lread_rule : Addr} {od_Lread_rule an_Lread_rule : Option Addr} {sl_Lread_rule : Array (Option Value)} {oc_Lread_rule kV_Lread_rule dc_Lread_rule pm_Lread_rule cd_Lread_rule ct_Lread_rule : Value}
    {x_law : Addr} {od_law an_law : Option Addr} {sl_law : Array (Option Value)} {oc_law kV_law dc_law pm_law cd_law ct_law : Value}
    {tk_LETTERS : Tok}
    {tk_GUEST_SIGNS : Tok}
    {tk_LONGEST_WORD : Tok}
    {tk_LONGEST_GUEST : Tok}
    {tk_MOST_MARKS : Tok}
    {tk_DEEPEST_RULE : Tok}
    {tk_MOST_RULES : Tok}
    {tk_MOST_WORDS : Tok}
    {tk_MOST_ARMS : Tok}
    {tk_MOST_SHUTS : Tok}
    {tk_MOST_TOTAL : Tok}
    {tk_FIGURES : Tok}
    {tk_MOST_FIGURES : Tok}
    {x_FORMS : Addr} {pm : Params} {es_FORMS : Array DictEntry} {nd_FORMS : Nat}
    {t_FORMS_layer : Addr} {dd_FORMS_layer : Option Addr} {it_FORMS_layer : Array Value} {nt_FORMS_layer : Nat} {sl_FORMS_layer : Array (Option Value)}
    {t_FORMS_trial : Addr} {dd_FORMS_trial : Option Addr} {it_FORMS_trial : Array Value} {nt_FORMS_trial : Nat} {sl_FORMS_trial : Array (Option Value)}
    {t_FORMS_share : Addr} {dd_FORMS_share : Option Addr} {it_FORMS_share : Array Value} {nt_FORMS_share : Nat} {sl_FORMS_share : Array (Option Value)}
    {t_FORMS_deal : Addr} {dd_FORMS_deal : Option Addr} {it_FORMS_deal : Array Value} {nt_FORMS_deal : Nat} {sl_FORMS_deal : Array (Option Value)}
    {t_FORMS_hold : Addr} {dd_FORMS_hold : Option Addr} {it_FORMS_hold : Array Value} {nt_FORMS_hold : Nat} {sl_FORMS_hold : Array (Option Value)}
    {t_FORMS_pause : Addr} {dd_FORMS_pause : Option Addr} {it_FORMS_pause : Array Value} {nt_FORMS_pause : Nat} {sl_FORMS_pause : Array (Option Value)}
    {t_FORMS_go : Addr} {dd_FORMS_go : Option Addr} {it_FORMS_go : Array Value} {nt_FORMS_go : Nat} {sl_FORMS_go : Array (Option Value)}
    {t_FORMS_close : Addr} {dd_FORMS_close : Option Addr} {it_FORMS_close : Array Value} {nt_FORMS_close : Nat} {sl_FORMS_close : Array (Option Value)}
    {t_FORMS_bar : Addr} {dd_FORMS_bar : Option Addr} {it_FORMS_bar : Array Value} {nt_FORMS_bar : Nat} {sl_FORMS_bar : Array (Option Value)}
    {t_FORMS_visit : Addr} {dd_FORMS_visit : Option Addr} {it_FORMS_visit : Array Value} {nt_FORMS_visit : Nat} {sl_FORMS_visit : Array (Option Value)} (X : K.In h) (G : h.Ns mainGlobals mg)
    (a_SplitError : PySem.W.nsIn K mainGlobals "SplitError" = some (some (.ref x_SplitError)))
    (a_NoRow : PySem.W.nsIn K mainGlobals "NoRow" = some (some (.ref x_NoRow)))
    (e_SplitError : PySem.W.excIn K x_SplitError [.type "ValueError", .type "Exception", .type "BaseException", .type "object"] "ValueError.__new__" = true)
    (e_NoRow : PySem.W.excIn K x_NoRow [.type "ValueError", .type "Exception", .type "BaseException", .type "object"] "ValueError.__new__" = true)
    (a_is_whole : PySem.W.nsIn K mainGlobals "is_whole" = some (some (.ref x_is_whole)))
    (l_is_whole : K.lookup x_is_whole = some ⟨oc_is_whole, od_is_whole, .func (PySem.W.fnOf "is_whole" "is_whole" (defArgs s_is_whole) (defBody s_is_whole) (defScope s_is_whole) .none kV_is_whole dc_is_whole pm_is_whole an_is_whole cd_is_whole ct_is_whole), sl_is_whole⟩)
    (c_is_whole : PySem.W.codeIn K cd_is_whole "is_whole" = true)
    (k_is_whole : PySem.W.keepIn K (.ref x_is_whole) = true)
    (a_is_text_of : PySem.W.nsIn K mainGlobals "is_text_of" = some (some (.ref x_is_text_of)))
    (l_is_text_of : K.lookup x_is_text_of = some ⟨oc_is_text_of, od_is_text_of, .func (PySem.W.fnOf "is_text_of" "is_text_of" (defArgs s_is_text_of) (defBody s_is_text_of) (defScope s_is_text_of) .none kV_is_text_of dc_is_text_of pm_is_text_of an_is_text_of cd_is_text_of ct_is_text_of), sl_is_text_of⟩)
    (c_is_text_of : PySem.W.codeIn K cd_is_text_of "is_text_of" = true)
    (k_is_text_of : PySem.W.keepIn K (.ref x_is_text_of) = true)
    (a_is_word : PySem.W.nsIn K mainGlobals "is_word" = some (some (.ref x_is_word)))
    (l_is_word : K.lookup x_is_word = some ⟨oc_is_word, od_is_word, .func (PySem.W.fnOf "is_word" "is_word" (defArgs s_is_word) (defBody s_is_word) (defScope s_is_word) .none kV_is_word dc_is_word pm_is_word an_is_word cd_is_word ct_is_word), sl_is_word⟩)
    (c_is_word : PySem.W.codeIn K cd_is_word "is_word" = true)
    (k_is_word : PySem.W.keepIn K (.ref x_is_word) = true)
    (a_is_guest : PySem.W.nsIn K mainGlobals "is_guest" = some (some (.ref x_is_guest)))
    (l_is_guest : K.lookup x_is_guest = some ⟨oc_is_guest, od_is_guest, .func (PySem.W.fnOf "is_guest" "is_guest" (defArgs s_is_guest) (defBody s_is_guest) (defScope s_is_guest) .none kV_is_guest dc_is_guest pm_is_guest an_is_guest cd_is_guest ct_is_guest), sl_is_guest⟩)
    (c_is_guest : PySem.W.codeIn K cd_is_guest "is_guest" = true)
    (k_is_guest : PySem.W.keepIn K (.ref x_is_guest) = true)
    (a_is_number : PySem.W.nsIn K mainGlobals "is_number" = some (some (.ref x_is_number)))
    (l_is_number : K.lookup x_is_number = some ⟨oc_is_number, od_is_number, .func (PySem.W.fnOf "is_number" "is_number" (defArgs s_is_number) (defBody s_is_number) (defScope s_is_number) .none kV_is_number dc_is_number pm_is_number an_is_number cd_is_number ct_is_number), sl_is_number⟩)
    (c_is_number : PySem.W.codeIn K cd_is_number "is_number" = true)
    (k_is_number : PySem.W.keepIn K (.ref x_is_number) = true)
    (a_is_mark : PySem.W.nsIn K mainGlobals "is_mark" = some (some (.ref x_is_mark)))
    (l_is_mark : K.lookup x_is_mark = some ⟨oc_is_mark, od_is_mark, .func (PySem.W.fnOf "is_mark" "is_mark" (defArgs s_is_mark) (defBody s_is_mark) (defScope s_is_mark) .none kV_is_mark dc_is_mark pm_is_mark an_is_mark cd_is_mark ct_is_mark), sl_is_mark⟩)
    (c_is_mark : PySem.W.codeIn K cd_is_mark "is_mark" = true)
    (k_is_mark : PySem.W.keepIn K (.ref x_is_mark) = true)
    (a_are_marks : PySem.W.nsIn K mainGlobals "are_marks" = some (some (.ref x_are_marks)))
    (l_are_marks : K.lookup x_are_marks = some ⟨oc_are_marks, od_are_marks, .func (PySem.W.fnOf "are_marks" "are_marks" (defArgs s_are_marks) (defBody s_are_marks) (defScope s_are_marks) .none kV_are_marks dc_are_marks pm_are_marks an_are_marks cd_are_marks ct_are_marks), sl_are_marks⟩)
    (c_are_marks : PySem.W.codeIn K cd_are_marks "are_marks" = true)
    (k_are_marks : PySem.W.keepIn K (.ref x_are_marks) = true)
    (a_has_form : PySem.W.nsIn K mainGlobals "has_form" = some (some (.ref x_has_form)))
    (l_has_form : K.lookup x_has_form = some ⟨oc_has_form, od_has_form, .func (PySem.W.fnOf "has_form" "has_form" (defArgs s_has_form) (defBody s_has_form) (defScope s_has_form) .none kV_has_form dc_has_form pm_has_form an_has_form cd_has_form ct_has_form), sl_has_form⟩)
    (c_has_form : PySem.W.codeIn K cd_has_form "has_form" = true)
    (k_has_form : PySem.W.keepIn K (.ref x_has_form) = true)
    (a_all_within : PySem.W.nsIn K mainGlobals "all_within" = some (some (.ref x_all_within)))
    (l_all_within : K.lookup x_all_within = some ⟨oc_all_within, od_all_within, .func (PySem.W.fnOf "all_within" "all_within" (defArgs s_all_within) (defBody s_all_within) (defScope s_all_within) .none kV_all_within dc_all_within pm_all_within an_all_within cd_all_within ct_all_within), sl_all_within⟩)
    (c_all_within : PySem.W.codeIn K cd_all_within "all_within" = true)
    (k_all_within : PySem.W.keepIn K (.ref x_all_within) = true)
    (a_words_of : PySem.W.nsIn K mainGlobals "words_of" = some (some (.ref x_words_of)))
    (l_words_of : K.lookup x_words_of = some ⟨oc_words_of, od_words_of, .func (PySem.W.fnOf "words_of" "words_of" (defArgs s_words_of) (defBody s_words_of) (defScope s_words_of) .none kV_words_of dc_words_of pm_words_of an_words_of cd_words_of ct_words_of), sl_words_of⟩)
    (c_words_of : PySem.W.codeIn K cd_words_of "words_of" = true)
    (k_words_of : PySem.W.keepIn K (.ref x_words_of) = true)
    (a_is_rule : PySem.W.nsIn K mainGlobals "is_rule" = some (some (.ref x_is_rule)))
    (l_is_rule : K.lookup x_is_rule = some ⟨oc_is_rule, od_is_rule, .func (PySem.W.fnOf "is_rule" "is_rule" (defArgs s_is_rule) (defBody s_is_rule) (defScope s_is_rule) .none kV_is_rule dc_is_rule pm_is_rule an_is_rule cd_is_rule ct_is_rule), sl_is_rule⟩)
    (c_is_rule : PySem.W.codeIn K cd_is_rule "is_rule" = true)
    (k_is_rule : PySem.W.keepIn K (.ref x_is_rule) = true)
    (a_is_count : PySem.W.nsIn K mainGlobals "is_count" = some (some (.ref x_is_count)))
    (l_is_count : K.lookup x_is_count = some ⟨oc_is_count, od_is_count, .func (PySem.W.fnOf "is_count" "is_count" (defArgs s_is_count) (defBody s_is_count) (defScope s_is_count) .none kV_is_count dc_is_count pm_is_count an_is_count cd_is_count ct_is_count), sl_is_count⟩)
    (c_is_count : PySem.W.codeIn K cd_is_count "is_count" = true)
    (k_is_count : PySem.W.keepIn K (.ref x_is_count) = true)
    (a_is_total : PySem.W.nsIn K mainGlobals "is_total" = some (some (.ref x_is_total)))
    (l_is_total : K.lookup x_is_total = some ⟨oc_is_total, od_is_total, .func (PySem.W.fnOf "is_total" "is_total" (defArgs s_is_total) (defBody s_is_total) (defScope s_is_total) .none kV_is_total dc_is_total pm_is_total an_is_total cd_is_total ct_is_total), sl_is_total⟩)
    (c_is_total : PySem.W.codeIn K cd_is_total "is_total" = true)
    (k_is_total : PySem.W.keepIn K (.ref x_is_total) = true)
    (a_is_weight : PySem.W.nsIn K mainGlobals "is_weight" = some (some (.ref x_is_weight)))
    (l_is_weight : K.lookup x_is_weight = some ⟨oc_is_weight, od_is_weight, .func (PySem.W.fnOf "is_weight" "is_weight" (defArgs s_is_weight) (defBody s_is_weight) (defScope s_is_weight) .none kV_is_weight dc_is_weight pm_is_weight an_is_weight cd_is_weight ct_is_weight), sl_is_weight⟩)
    (c_is_weight : PySem.W.codeIn K cd_is_weight "is_weight" = true)
    (k_is_weight : PySem.W.keepIn K (.ref x_is_weight) = true)
    (a_are_counts : PySem.W.nsIn K mainGlobals "are_counts" = some (some (.ref x_are_counts)))
    (l_are_counts : K.lookup x_are_counts = some ⟨oc_are_counts, od_are_counts, .func (PySem.W.fnOf "are_counts" "are_counts" (defArgs s_are_counts) (defBody s_are_counts) (defScope s_are_counts) .none kV_are_counts dc_are_counts pm_are_counts an_are_counts cd_are_counts ct_are_counts), sl_are_counts⟩)
    (c_are_counts : PySem.W.codeIn K cd_are_counts "are_counts" = true)
    (k_are_counts : PySem.W.keepIn K (.ref x_are_counts) = true)
    (a_are_weights : PySem.W.nsIn K mainGlobals "are_weights" = some (some (.ref x_are_weights)))
    (l_are_weights : K.lookup x_are_weights = some ⟨oc_are_weights, od_are_weights, .func (PySem.W.fnOf "are_weights" "are_weights" (defArgs s_are_weights) (defBody s_are_weights) (defScope s_are_weights) .none kV_are_weights dc_are_weights pm_are_weights an_are_weights cd_are_weights ct_are_weights), sl_are_weights⟩)
    (c_are_weights : PySem.W.codeIn K cd_are_weights "are_weights" = true)
    (k_are_weights : PySem.W.keepIn K (.ref x_are_weights) = true)
    (a_are_arms : PySem.W.nsIn K mainGlobals "are_arms" = some (some (.ref x_are_arms)))
    (l_are_arms : K.lookup x_are_arms = some ⟨oc_are_arms, od_are_arms, .func (PySem.W.fnOf "are_arms" "are_arms" (defArgs s_are_arms) (defBody s_are_arms) (defScope s_are_arms) .none kV_are_arms dc_are_arms pm_are_arms an_are_arms cd_are_arms ct_are_arms), sl_are_arms⟩)
    (c_are_arms : PySem.W.codeIn K cd_are_arms "are_arms" = true)
    (k_are_arms : PySem.W.keepIn K (.ref x_are_arms) = true)
    (a_check_row : PySem.W.nsIn K mainGlobals "check_row" = some (some (.ref x_check_row)))
    (l_check_row : K.lookup x_check_row = some ⟨oc_check_row, od_check_row, .func (PySem.W.fnOf "check_row" "check_row" (defArgs s_check_row) (defBody s_check_row) (defScope s_check_row) .none kV_check_row dc_check_row pm_check_row an_check_row cd_check_row ct_check_row), sl_check_row⟩)
    (c_check_row : PySem.W.codeIn K cd_check_row "check_row" = true)
    (k_check_row : PySem.W.keepIn K (.ref x_check_row) = true)
    (a_read_number : PySem.W.nsIn K mainGlobals "read_number" = some (some (.ref x_read_number)))
    (l_read_number : K.lookup x_read_number = some ⟨oc_read_number, od_read_number, .func (PySem.W.fnOf "read_number" "read_number" (defArgs s_read_number) (defBody s_read_number) (defScope s_read_number) .none kV_read_number dc_read_number pm_read_number an_read_number cd_read_number ct_read_number), sl_read_number⟩)
    (c_read_number : PySem.W.codeIn K cd_read_number "read_number" = true)
    (k_read_number : PySem.W.keepIn K (.ref x_read_number) = true)
    (a_read_mark : PySem.W.nsIn K mainGlobals "read_mark" = some (some (.ref x_read_mark)))
    (l_read_mark : K.lookup x_read_mark = some ⟨oc_read_mark, od_read_mark, .func (PySem.W.fnOf "read_mark" "read_mark" (defArgs s_read_mark) (defBody s_read_mark) (defScope s_read_mark) .none kV_read_mark dc_read_mark pm_read_mark an_read_mark cd_read_mark ct_read_mark), sl_read_mark⟩)
    (c_read_mark : PySem.W.codeIn K cd_read_mark "read_mark" = true)
    (k_read_mark : PySem.W.keepIn K (.ref x_read_mark) = true)
    (a_parts_of : PySem.W.nsIn K mainGlobals "parts_of" = some (some (.ref x_parts_of)))
    (l_parts_of : K.lookup x_parts_of = some ⟨oc_parts_of, od_parts_of, .func (PySem.W.fnOf "parts_of" "parts_of" (defArgs s_parts_of) (defBody s_parts_of) (defScope s_parts_of) .none kV_parts_of dc_parts_of pm_parts_of an_parts_of cd_parts_of ct_parts_of), sl_parts_of⟩)
    (c_parts_of : PySem.W.codeIn K cd_parts_of "parts_of" = true)
    (k_parts_of : PySem.W.keepIn K (.ref x_parts_of) = true)
    (a_value_of : PySem.W.nsIn K mainGlobals "value_of" = some (some (.ref x_value_of)))
    (l_value_of : K.lookup x_value_of = some ⟨oc_value_of, od_value_of, .func (PySem.W.fnOf "value_of" "value_of" (defArgs s_value_of) (defBody s_value_of) (defScope s_value_of) .none kV_value_of dc_value_of pm_value_of an_value_of cd_value_of ct_value_of), sl_value_of⟩)
    (c_value_of : PySem.W.codeIn K cd_value_of "value_of" = true)
    (k_value_of : PySem.W.keepIn K (.ref x_value_of) = true)
    (a_are_shuts : PySem.W.nsIn K mainGlobals "are_shuts" = some (some (.ref x_are_shuts)))
    (l_are_shuts : K.lookup x_are_shuts = some ⟨oc_are_shuts, od_are_shuts, .func (PySem.W.fnOf "are_shuts" "are_shuts" (defArgs s_are_shuts) (defBody s_are_shuts) (defScope s_are_shuts) .none kV_are_shuts dc_are_shuts pm_are_shuts an_are_shuts cd_are_shuts ct_are_shuts), sl_are_shuts⟩)
    (c_are_shuts : PySem.W.codeIn K cd_are_shuts "are_shuts" = true)
    (k_are_shuts : PySem.W.keepIn K (.ref x_are_shuts) = true)
    (a_is_of : PySem.W.nsIn K mainGlobals "is_of" = some (some (.ref x_is_of)))
    (l_is_of : K.lookup x_is_of = some ⟨oc_is_of, od_is_of, .func (PySem.W.fnOf "is_of" "is_of" (defArgs s_is_of) (defBody s_is_of) (defScope s_is_of) .none kV_is_of dc_is_of pm_is_of an_is_of cd_is_of ct_is_of), sl_is_of⟩)
    (c_is_of : PySem.W.codeIn K cd_is_of "is_of" = true)
    (k_is_of : PySem.W.keepIn K (.ref x_is_of) = true)
    (a_read_thing : PySem.W.nsIn K mainGlobals "read_thing" = some (some (.ref x_read_thing)))
    (l_read_thing : K.lookup x_read_thing = some ⟨oc_read_thing, od_read_thing, .func (PySem.W.fnOf "read_thing" "read_thing" (defArgs s_read_thing) (defBody s_read_thing) (defScope s_read_thing) .none kV_read_thing dc_read_thing pm_read_thing an_read_thing cd_read_thing ct_read_thing), sl_read_thing⟩)
    (c_read_thing : PySem.W.codeIn K cd_read_thing "read_thing" = true)
    (k_read_thing : PySem.W.keepIn K (.ref x_read_thing) = true)
    (a_read_things : PySem.W.nsIn K mainGlobals "read_things" = some (some (.ref x_read_things)))
    (l_read_things : K.lookup x_read_things = some ⟨oc_read_things, od_read_things, .func (PySem.W.fnOf "read_things" "read_things" (defArgs s_read_things) (defBody s_read_things) (defScope s_read_things) .none kV_read_things dc_read_things pm_read_things an_read_things cd_read_things ct_read_things), sl_read_things⟩)
    (c_read_things : PySem.W.codeIn K cd_read_things "read_things" = true)
    (k_read_things : PySem.W.keepIn K (.ref x_read_things) = true)
    (a_take_word : PySem.W.nsIn K mainGlobals "take_word" = some (some (.ref x_take_word)))
    (l_take_word : K.lookup x_take_word = some ⟨oc_take_word, od_take_word, .func (PySem.W.fnOf "take_word" "take_word" (defArgs s_take_word) (defBody s_take_word) (defScope s_take_word) .none kV_take_word dc_take_word pm_take_word an_take_word cd_take_word ct_take_word), sl_take_word⟩)
    (c_take_word : PySem.W.codeIn K cd_take_word "take_word" = true)
    (k_take_word : PySem.W.keepIn K (.ref x_take_word) = true)
    (a_take_rule : PySem.W.nsIn K mainGlobals "take_rule" = some (some (.ref x_take_rule)))
    (l_take_rule : K.lookup x_take_rule = some ⟨oc_take_rule, od_take_rule, .func (PySem.W.fnOf "take_rule" "take_rule" (defArgs s_take_rule) (defBody s_take_rule) (defScope s_take_rule) .none kV_take_rule dc_take_rule pm_take_rule an_take_rule cd_take_rule ct_take_rule), sl_take_rule⟩)
    (c_take_rule : PySem.W.codeIn K cd_take_rule "take_rule" = true)
    (k_take_rule : PySem.W.keepIn K (.ref x_take_rule) = true)
    (a_read_rule_words : PySem.W.nsIn K mainGlobals "read_rule_words" = some (some (.ref x_read_rule_words)))
    (l_read_rule_words : K.lookup x_read_rule_words = some ⟨oc_read_rule_words, od_read_rule_words, .func (PySem.W.fnOf "read_rule_words" "read_rule_words" (defArgs s_read_rule_words) (defBody s_read_rule_words) (defScope s_read_rule_words) .none kV_read_rule_words dc_read_rule_words pm_read_rule_words an_read_rule_words cd_read_rule_words ct_read_rule_words), sl_read_rule_words⟩)
    (c_read_rule_words : PySem.W.codeIn K cd_read_rule_words "read_rule_words" = true)
    (k_read_rule_words : PySem.W.keepIn K (.ref x_read_rule_words) = true)
    (a_read_rule : PySem.W.nsIn K mainGlobals "read_rule" = some (some (.ref x_read_rule)))
    (l_read_rule : K.lookup x_read_rule = some ⟨oc_read_rule, od_read_rule, .func (PySem.W.fnOf "read_rule" "read_rule" (defArgs s_read_rule) (defBody s_read_rule) (defScope s_read_rule) .none kV_read_rule dc_read_rule pm_read_rule an_read_rule cd_read_rule ct_read_rule), sl_read_rule⟩)
    (c_read_rule : PySem.W.codeIn K cd_read_rule "read_rule" = true)
    (k_read_rule : PySem.W.keepIn K (.ref x_read_rule) = true)
    (a_read_deed : PySem.W.nsIn K mainGlobals "read_deed" = some (some (.ref x_read_deed)))
    (l_read_deed : K.lookup x_read_deed = some ⟨oc_read_deed, od_read_deed, .func (PySem.W.fnOf "read_deed" "read_deed" (defArgs s_read_deed) (defBody s_read_deed) (defScope s_read_deed) .none kV_read_deed dc_read_deed pm_read_deed an_read_deed cd_read_deed ct_read_deed), sl_read_deed⟩)
    (c_read_deed : PySem.W.codeIn K cd_read_deed "read_deed" = true)
    (k_read_deed : PySem.W.keepIn K (.ref x_read_deed) = true)
    (a_Lcell_at : PySem.W.nsIn K mainGlobals "_law_cell_at" = some (some (.ref x_Lcell_at)))
    (l_Lcell_at : K.lookup x_Lcell_at = some ⟨oc_Lcell_at, od_Lcell_at, .func (PySem.W.fnOf "_law_cell_at" "_law_cell_at" (defArgs s_Lcell_at) (defBody s_Lcell_at) (defScope s_Lcell_at) .none kV_Lcell_at dc_Lcell_at pm_Lcell_at an_Lcell_at cd_Lcell_at ct_Lcell_at), sl_Lcell_at⟩)
    (c_Lcell_at : PySem.W.codeIn K cd_Lcell_at "_law_cell_at" = true)
    (k_Lcell_at : PySem.W.keepIn K (.ref x_Lcell_at) = true)
    (a_Lmixed : PySem.W.nsIn K mainGlobals "_law_mixed" = some (some (.ref x_Lmixed)))
    (l_Lmixed : K.lookup x_Lmixed = some ⟨oc_Lmixed, od_Lmixed, .func (PySem.W.fnOf "_law_mixed" "_law_mixed" (defArgs s_Lmixed) (defBody s_Lmixed) (defScope s_Lmixed) .none kV_Lmixed dc_Lmixed pm_Lmixed an_Lmixed cd_Lmixed ct_Lmixed), sl_Lmixed⟩)
    (c_Lmixed : PySem.W.codeIn K cd_Lmixed "_law_mixed" = true)
    (k_Lmixed : PySem.W.keepIn K (.ref x_Lmixed) = true)
    (a_Lword : PySem.W.nsIn K mainGlobals "_law_word" = some (some (.ref x_Lword)))
    (l_Lword : K.lookup x_Lword = some ⟨oc_Lword, od_Lword, .func (PySem.W.fnOf "_law_word" "_law_word" (defArgs s_Lword) (defBody s_Lword) (defScope s_Lword) .none kV_Lword dc_Lword pm_Lword an_Lword cd_Lword ct_Lword), sl_Lword⟩)
    (c_Lword : PySem.W.codeIn K cd_Lword "_law_word" = true)
    (k_Lword : PySem.W.keepIn K (.ref x_Lword) = true)
    (a_Lnumber : PySem.W.nsIn K mainGlobals "_law_number" = some (some (.ref x_Lnumber)))
    (l_Lnumber : K.lookup x_Lnumber = some ⟨oc_Lnumber, od_Lnumber, .func (PySem.W.fnOf "_law_number" "_law_number" (defArgs s_Lnumber) (defBody s_Lnumber) (defScope s_Lnumber) .none kV_Lnumber dc_Lnumber pm_Lnumber an_Lnumber cd_Lnumber ct_Lnumber), sl_Lnumber⟩)
    (c_Lnumber : PySem.W.codeIn K cd_Lnumber "_law_number" = true)
    (k_Lnumber : PySem.W.keepIn K (.ref x_Lnumber) = true)
    (a_Lleaf : PySem.W.nsIn K mainGlobals "_law_leaf" = some (some (.ref x_Lleaf)))
    (l_Lleaf : K.lookup x_Lleaf = some ⟨oc_Lleaf, od_Lleaf, .func (PySem.W.fnOf "_law_leaf" "_law_leaf" (defArgs s_Lleaf) (defBody s_Lleaf) (defScope s_Lleaf) .none kV_Lleaf dc_Lleaf pm_Lleaf an_Lleaf cd_Lleaf ct_Lleaf), sl_Lleaf⟩)
    (c_Lleaf : PySem.W.codeIn K cd_Lleaf "_law_leaf" = true)
    (k_Lleaf : PySem.W.keepIn K (.ref x_Lleaf) = true)
    (a_Lrule : PySem.W.nsIn K mainGlobals "_law_rule" = some (some (.ref x_Lrule)))
    (l_Lrule : K.lookup x_Lrule = some ⟨oc_Lrule, od_Lrule, .func (PySem.W.fnOf "_law_rule" "_law_rule" (defArgs s_Lrule) (defBody s_Lrule) (defScope s_Lrule) .none kV_Lrule dc_Lrule pm_Lrule an_Lrule cd_Lrule ct_Lrule), sl_Lrule⟩)
    (c_Lrule : PySem.W.codeIn K cd_Lrule "_law_rule" = true)
    (k_Lrule : PySem.W.keepIn K (.ref x_Lrule) = true)
    (a_Lwords : PySem.W.nsIn K mainGlobals "_law_words" = some (some (.ref x_Lwords)))
    (l_Lwords : K.lookup x_Lwords = some ⟨oc_Lwords, od_Lwords, .func (PySem.W.fnOf "_law_words" "_law_words" (defArgs s_Lwords) (defBody s_Lwords) (defScope s_Lwords) .none kV_Lwords dc_Lwords pm_Lwords an_Lwords cd_Lwords ct_Lwords), sl_Lwords⟩)
    (c_Lwords : PySem.W.codeIn K cd_Lwords "_law_words" = true)
    (k_Lwords : PySem.W.keepIn K (.ref x_Lwords) = true)
    (a_Lname : PySem.W.nsIn K mainGlobals "_law_name" = some (some (.ref x_Lname)))
    (l_Lname : K.lookup x_Lname = some ⟨oc_Lname, od_Lname, .func (PySem.W.fnOf "_law_name" "_law_name" (defArgs s_Lname) (defBody s_Lname) (defScope s_Lname) .none kV_Lname dc_Lname pm_Lname an_Lname cd_Lname ct_Lname), sl_Lname⟩)
    (c_Lname : PySem.W.codeIn K cd_Lname "_law_name" = true)
    (k_Lname : PySem.W.keepIn K (.ref x_Lname) = true)
    (a_Lguest : PySem.W.nsIn K mainGlobals "_law_guest" = some (some (.ref x_Lguest)))
    (l_Lguest : K.lookup x_Lguest = some ⟨oc_Lguest, od_Lguest, .func (PySem.W.fnOf "_law_guest" "_law_guest" (defArgs s_Lguest) (defBody s_Lguest) (defScope s_Lguest) .none kV_Lguest dc_Lguest pm_Lguest an_Lguest cd_Lguest ct_Lguest), sl_Lguest⟩)
    (c_Lguest : PySem.W.codeIn K cd_Lguest "_law_guest" = true)
    (k_Lguest : PySem.W.keepIn K (.ref x_Lguest) = true)
    (a_Lnames : PySem.W.nsIn K mainGlobals "_law_names" = some (some (.ref x_Lnames)))
    (l_Lnames : K.lookup x_Lnames = some ⟨oc_Lnames, od_Lnames, .func (PySem.W.fnOf "_law_names" "_law_names" (defArgs s_Lnames) (defBody s_Lnames) (defScope s_Lnames) .none kV_Lnames dc_Lnames pm_Lnames an_Lnames cd_Lnames ct_Lnames), sl_Lnames⟩)
    (c_Lnames : PySem.W.codeIn K cd_Lnames "_law_names" = true)
    (k_Lnames : PySem.W.keepIn K (.ref x_Lnames) = true)
    (a_Llong : PySem.W.nsIn K mainGlobals "_law_long" = some (some (.ref x_Llong)))
    (l_Llong : K.lookup x_Llong = some ⟨oc_Llong, od_Llong, .func (PySem.W.fnOf "_law_long" "_law_long" (defArgs s_Llong) (defBody s_Llong) (defScope s_Llong) .none kV_Llong dc_Llong pm_Llong an_Llong cd_Llong ct_Llong), sl_Llong⟩)
    (c_Llong : PySem.W.codeIn K cd_Llong "_law_long" = true)
    (k_Llong : PySem.W.keepIn K (.ref x_Llong) = true)
    (a_Lmany_marks : PySem.W.nsIn K mainGlobals "_law_many_marks" = some (some (.ref x_Lmany_marks)))
    (l_Lmany_marks : K.lookup x_Lmany_marks = some ⟨oc_Lmany_marks, od_Lmany_marks, .func (PySem.W.fnOf "_law_many_marks" "_law_many_marks" (defArgs s_Lmany_marks) (defBody s_Lmany_marks) (defScope s_Lmany_marks) .none kV_Lmany_marks dc_Lmany_marks pm_Lmany_marks an_Lmany_marks cd_Lmany_marks ct_Lmany_marks), sl_Lmany_marks⟩)
    (c_Lmany_marks : PySem.W.codeIn K cd_Lmany_marks "_law_many_marks" = true)
    (k_Lmany_marks : PySem.W.keepIn K (.ref x_Lmany_marks) = true)
    (a_Lform : PySem.W.nsIn K mainGlobals "_law_form" = some (some (.ref x_Lform)))
    (l_Lform : K.lookup x_Lform = some ⟨oc_Lform, od_Lform, .func (PySem.W.fnOf "_law_form" "_law_form" (defArgs s_Lform) (defBody s_Lform) (defScope s_Lform) .none kV_Lform dc_Lform pm_Lform an_Lform cd_Lform ct_Lform), sl_Lform⟩)
    (c_Lform : PySem.W.codeIn K cd_Lform "_law_form" = true)
    (k_Lform : PySem.W.keepIn K (.ref x_Lform) = true)
    (a_Lrule_row : PySem.W.nsIn K mainGlobals "_law_rule_row" = some (some (.ref x_Lrule_row)))
    (l_Lrule_row : K.lookup x_Lrule_row = some ⟨oc_Lrule_row, od_Lrule_row, .func (PySem.W.fnOf "_law_rule_row" "_law_rule_row" (defArgs s_Lrule_row) (defBody s_Lrule_row) (defScope s_Lrule_row) .none kV_Lrule_row dc_Lrule_row pm_Lrule_row an_Lrule_row cd_Lrule_row ct_Lrule_row), sl_Lrule_row⟩)
    (c_Lrule_row : PySem.W.codeIn K cd_Lrule_row "_law_rule_row" = true)
    (k_Lrule_row : PySem.W.keepIn K (.ref x_Lrule_row) = true)
    (a_Llisted : PySem.W.nsIn K mainGlobals "_law_listed" = some (some (.ref x_Llisted)))
    (l_Llisted : K.lookup x_Llisted = some ⟨oc_Llisted, od_Llisted, .func (PySem.W.fnOf "_law_listed" "_law_listed" (defArgs s_Llisted) (defBody s_Llisted) (defScope s_Llisted) .none kV_Llisted dc_Llisted pm_Llisted an_Llisted cd_Llisted ct_Llisted), sl_Llisted⟩)
    (c_Llisted : PySem.W.codeIn K cd_Llisted "_law_listed" = true)
    (k_Llisted : PySem.W.keepIn K (.ref x_Llisted) = true)
    (a_Lrow : PySem.W.nsIn K mainGlobals "_law_row" = some (some (.ref x_Lrow)))
    (l_Lrow : K.lookup x_Lrow = some ⟨oc_Lrow, od_Lrow, .func (PySem.W.fnOf "_law_row" "_law_row" (defArgs s_Lrow) (defBody s_Lrow) (defScope s_Lrow) .none kV_Lrow dc_Lrow pm_Lrow an_Lrow cd_Lrow ct_Lrow), sl_Lrow⟩)
    (c_Lrow : PySem.W.codeIn K cd_Lrow "_law_row" = true)
    (k_Lrow : PySem.W.keepIn K (.ref x_Lrow) = true)
    (a_Lsame : PySem.W.nsIn K mainGlobals "_law_same" = some (some (.ref x_Lsame)))
    (l_Lsame : K.lookup x_Lsame = some ⟨oc_Lsame, od_Lsame, .func (PySem.W.fnOf "_law_same" "_law_same" (defArgs s_Lsame) (defBody s_Lsame) (defScope s_Lsame) .none kV_Lsame dc_Lsame pm_Lsame an_Lsame cd_Lsame ct_Lsame), sl_Lsame⟩)
    (c_Lsame : PySem.W.codeIn K cd_Lsame "_law_same" = true)
    (k_Lsame : PySem.W.keepIn K (.ref x_Lsame) = true)
    (a_Lread : PySem.W.nsIn K mainGlobals "_law_read" = some (some (.ref x_Lread)))
    (l_Lread : K.lookup x_Lread = some ⟨oc_Lread, od_Lread, .func (PySem.W.fnOf "_law_read" "_law_read" (defArgs s_Lread) (defBody s_Lread) (defScope s_Lread) .none kV_Lread dc_Lread pm_Lread an_Lread cd_Lread ct_Lread), sl_Lread⟩)
    (c_Lread : PySem.W.codeIn K cd_Lread "_law_read" = true)
    (k_Lread : PySem.W.keepIn K (.ref x_Lread) = true)
    (a_Lread_rule : PySem.W.nsIn K mainGlobals "_law_read_rule" = some (some (.ref x_Lread_rule)))
    (l_Lread_rule : K.lookup x_Lread_rule = some ⟨oc_Lread_rule, od_Lread_rule, .func (PySem.W.fnOf "_law_read_rule" "_law_read_rule" (defArgs s_Lread_rule) (defBody s_Lread_rule) (defScope s_Lread_rule) .none kV_Lread_rule dc_Lread_rule pm_Lread_rule an_Lread_rule cd_Lread_rule ct_Lread_rule), sl_Lread_rule⟩)
    (c_Lread_rule : PySem.W.codeIn K cd_Lread_rule "_law_read_rule" = true)
    (k_Lread_rule : PySem.W.keepIn K (.ref x_Lread_rule) = true)
    (a_law : PySem.W.nsIn K mainGlobals "law" = some (some (.ref x_law)))
    (l_law : K.lookup x_law = some ⟨oc_law, od_law, .func (PySem.W.fnOf "law" "law" (defArgs s_law) (defBody s_law) (defScope s_law) .none kV_law dc_law pm_law an_law cd_law ct_law), sl_law⟩)
    (c_law : PySem.W.codeIn K cd_law "law" = true)
    (k_law : PySem.W.keepIn K (.ref x_law) = true)
    (g_LETTERS : PySem.W.nsIn K mainGlobals "LETTERS" = some (some (.str "abcdefghijklmnopqrstuvwxyz" tk_LETTERS)))
    (g_GUEST_SIGNS : PySem.W.nsIn K mainGlobals "GUEST_SIGNS" = some (some (.str "abcdefghijklmnopqrstuvwxyz0123456789" tk_GUEST_SIGNS)))
    (g_LONGEST_WORD : PySem.W.nsIn K mainGlobals "LONGEST_WORD" = some (some (.int 12 tk_LONGEST_WORD)))
    (g_LONGEST_GUEST : PySem.W.nsIn K mainGlobals "LONGEST_GUEST" = some (some (.int 24 tk_LONGEST_GUEST)))
    (g_MOST_MARKS : PySem.W.nsIn K mainGlobals "MOST_MARKS" = some (some (.int 8 tk_MOST_MARKS)))
    (g_DEEPEST_RULE : PySem.W.nsIn K mainGlobals "DEEPEST_RULE" = some (some (.int 6 tk_DEEPEST_RULE)))
    (g_MOST_RULES : PySem.W.nsIn K mainGlobals "MOST_RULES" = some (some (.int 30 tk_MOST_RULES)))
    (g_MOST_WORDS : PySem.W.nsIn K mainGlobals "MOST_WORDS" = some (some (.int 3 tk_MOST_WORDS)))
    (g_MOST_ARMS : PySem.W.nsIn K mainGlobals "MOST_ARMS" = some (some (.int 4 tk_MOST_ARMS)))
    (g_MOST_SHUTS : PySem.W.nsIn K mainGlobals "MOST_SHUTS" = some (some (.int 8 tk_MOST_SHUTS)))
    (g_MOST_TOTAL : PySem.W.nsIn K mainGlobals "MOST_TOTAL" = some (some (.int 1000 tk_MOST_TOTAL)))
    (g_FIGURES : PySem.W.nsIn K mainGlobals "FIGURES" = some (some (.str "0123456789" tk_FIGURES)))
    (g_MOST_FIGURES : PySem.W.nsIn K mainGlobals "MOST_FIGURES" = some (some (.int 60 tk_MOST_FIGURES)))
    (a_FORMS : PySem.W.nsIn K mainGlobals "FORMS" = some (some (.ref x_FORMS)))
    (l_FORMS : K.lookup x_FORMS = some ⟨.type "dict", none, .dict es_FORMS nd_FORMS, #[]⟩)
    (kk_FORMS : PySem.W.KeysLit pm es_FORMS.toList)
    (ko_FORMS : (x_FORMS == sysModules) = false)
    (v_FORMS_layer : PySem.W.nsIn K x_FORMS "layer" = some (some (.ref t_FORMS_layer)))
    (w_FORMS_layer : K.lookup t_FORMS_layer = some ⟨.type "tuple", dd_FORMS_layer, .seq it_FORMS_layer nt_FORMS_layer, sl_FORMS_layer⟩)
    (y_FORMS_layer : Vals [.str "word", .str "count"] it_FORMS_layer.toList)
    (v_FORMS_trial : PySem.W.nsIn K x_FORMS "trial" = some (some (.ref t_FORMS_trial)))
    (w_FORMS_trial : K.lookup t_FORMS_trial = some ⟨.type "tuple", dd_FORMS_trial, .seq it_FORMS_trial nt_FORMS_trial, sl_FORMS_trial⟩)
    (y_FORMS_trial : Vals [.str "word", .str "word", .str "arms", .str "shuts"] it_FORMS_trial.toList)
    (v_FORMS_share : PySem.W.nsIn K x_FORMS "share" = some (some (.ref t_FORMS_share)))
    (w_FORMS_share : K.lookup t_FORMS_share = some ⟨.type "tuple", dd_FORMS_share, .seq it_FORMS_share nt_FORMS_share, sl_FORMS_share⟩)
    (y_FORMS_share : Vals [.str "word", .str "counts"] it_FORMS_share.toList)
    (v_FORMS_deal : PySem.W.nsIn K x_FORMS "deal" = some (some (.ref t_FORMS_deal)))
    (w_FORMS_deal : K.lookup t_FORMS_deal = some ⟨.type "tuple", dd_FORMS_deal, .seq it_FORMS_deal nt_FORMS_deal, sl_FORMS_deal⟩)
    (y_FORMS_deal : Vals [.str "word", .str "total", .str "weights"] it_FORMS_deal.toList)
    (v_FORMS_hold : PySem.W.nsIn K x_FORMS "hold" = some (some (.ref t_FORMS_hold)))
    (w_FORMS_hold : K.lookup t_FORMS_hold = some ⟨.type "tuple", dd_FORMS_hold, .seq it_FORMS_hold nt_FORMS_hold, sl_FORMS_hold⟩)
    (y_FORMS_hold : Vals [.str "word", .str "count"] it_FORMS_hold.toList)
    (v_FORMS_pause : PySem.W.nsIn K x_FORMS "pause" = some (some (.ref t_FORMS_pause)))
    (w_FORMS_pause : K.lookup t_FORMS_pause = some ⟨.type "tuple", dd_FORMS_pause, .seq it_FORMS_pause nt_FORMS_pause, sl_FORMS_pause⟩)
    (y_FORMS_pause : Vals [.str "word"] it_FORMS_pause.toList)
    (v_FORMS_go : PySem.W.nsIn K x_FORMS "go" = some (some (.ref t_FORMS_go)))
    (w_FORMS_go : K.lookup t_FORMS_go = some ⟨.type "tuple", dd_FORMS_go, .seq it_FORMS_go nt_FORMS_go, sl_FORMS_go⟩)
    (y_FORMS_go : Vals [.str "word"] it_FORMS_go.toList)
    (v_FORMS_close : PySem.W.nsIn K x_FORMS "close" = some (some (.ref t_FORMS_close)))
    (w_FORMS_close : K.lookup t_FORMS_close = some ⟨.type "tuple", dd_FORMS_close, .seq it_FORMS_close nt_FORMS_close, sl_FORMS_close⟩)
    (y_FORMS_close : Vals [.str "word"] it_FORMS_close.toList)
    (v_FORMS_bar : PySem.W.nsIn K x_FORMS "bar" = some (some (.ref t_FORMS_bar)))
    (w_FORMS_bar : K.lookup t_FORMS_bar = some ⟨.type "tuple", dd_FORMS_bar, .seq it_FORMS_bar nt_FORMS_bar, sl_FORMS_bar⟩)
    (y_FORMS_bar : Vals [.str "guest", .str "word"] it_FORMS_bar.toList)
    (v_FORMS_visit : PySem.W.nsIn K x_FORMS "visit" = some (some (.ref t_FORMS_visit)))
    (w_FORMS_visit : K.lookup t_FORMS_visit = some ⟨.type "tuple", dd_FORMS_visit, .seq it_FORMS_visit nt_FORMS_visit, sl_FORMS_visit⟩)
    (y_FORMS_visit : Vals [.str "guest", .str "marks"] it_FORMS_visit.toList)
    (z_all : PySem.W.nsIn K mainGlobals "all" = some none)
    (z_bool : PySem.W.nsIn K mainGlobals "bool" = some none)
    (z_int : PySem.W.nsIn K mainGlobals "int" = some none)
    (z_isinstance : PySem.W.nsIn K mainGlobals "isinstance" = some none)
    (z_len : PySem.W.nsIn K mainGlobals "len" = some none)
    (z_list : PySem.W.nsIn K mainGlobals "list" = some none)
    (z_max : PySem.W.nsIn K mainGlobals "max" = some none)
    (z_min : PySem.W.nsIn K mainGlobals "min" = some none)
    (z_range : PySem.W.nsIn K mainGlobals "range" = some none)
    (z_set : PySem.W.nsIn K mainGlobals "set" = some none)
    (z_sorted : PySem.W.nsIn K mainGlobals "sorted" = some none)
    (z_str : PySem.W.nsIn K mainGlobals "str" = some none)
    (z_tuple : PySem.W.nsIn K mainGlobals "tuple" = some none)
    (z_zip : PySem.W.nsIn K mainGlobals "zip" = some none) :
    ∃ a : Adr, Txt K mg a ∧ pm = a.pm := by
  have F_is_whole := fun_mk (st := s_is_whole) l_is_whole c_is_whole k_is_whole
  have F_is_text_of := fun_mk (st := s_is_text_of) l_is_text_of c_is_text_of k_is_text_of
  have F_is_word := fun_mk (st := s_is_word) l_is_word c_is_word k_is_word
  have F_is_guest := fun_mk (st := s_is_guest) l_is_guest c_is_guest k_is_guest
  have F_is_number := fun_mk (st := s_is_number) l_is_number c_is_number k_is_number
  have F_is_mark := fun_mk (st := s_is_mark) l_is_mark c_is_mark k_is_mark
  have F_are_marks := fun_mk (st := s_are_marks) l_are_marks c_are_marks k_are_marks
  have F_has_form := fun_mk (st := s_has_form) l_has_form c_has_form k_has_form
  have F_all_within := fun_mk (st := s_all_within) l_all_within c_all_within k_all_within
  have F_words_of := fun_mk (st := s_words_of) l_words_of c_words_of k_words_of
  have F_is_rule := fun_mk (st := s_is_rule) l_is_rule c_is_rule k_is_rule
  have F_is_count := fun_mk (st := s_is_count) l_is_count c_is_count k_is_count
  have F_is_total := fun_mk (st := s_is_total) l_is_total c_is_total k_is_total
  have F_is_weight := fun_mk (st := s_is_weight) l_is_weight c_is_weight k_is_weight
  have F_are_counts := fun_mk (st := s_are_counts) l_are_counts c_are_counts k_are_counts
  have F_are_weights := fun_mk (st := s_are_weights) l_are_weights c_are_weights k_are_weights
  have F_are_arms := fun_mk (st := s_are_arms) l_are_arms c_are_arms k_are_arms
  have F_check_row := fun_mk (st := s_check_row) l_check_row c_check_row k_check_row
  have F_read_number := fun_mk (st := s_read_number) l_read_number c_read_number k_read_number
  have F_read_mark := fun_mk (st := s_read_mark) l_read_mark c_read_mark k_read_mark
  have F_parts_of := fun_mk (st := s_parts_of) l_parts_of c_parts_of k_parts_of
  have F_value_of := fun_mk (st := s_value_of) l_value_of c_value_of k_value_of
  have F_are_shuts := fun_mk (st := s_are_shuts) l_are_shuts c_are_shuts k_are_shuts
  have F_is_of := fun_mk (st := s_is_of) l_is_of c_is_of k_is_of
  have F_read_thing := fun_mk (st := s_read_thing) l_read_thing c_read_thing k_read_thing
  have F_read_things := fun_mk (st := s_read_things) l_read_things c_read_things k_read_things
  have F_take_word := fun_mk (st := s_take_word) l_take_word c_take_word k_take_word
  have F_take_rule := fun_mk (st := s_take_rule) l_take_rule c_take_rule k_take_rule
  have F_read_rule_words := fun_mk (st := s_read_rule_words) l_read_rule_words c_read_rule_words k_read_rule_words
  have F_read_rule := fun_mk (st := s_read_rule) l_read_rule c_read_rule k_read_rule
  have F_read_deed := fun_mk (st := s_read_deed) l_read_deed c_read_deed k_read_deed
  have F_Lcell_at := fun_mk (st := s_Lcell_at) l_Lcell_at c_Lcell_at k_Lcell_at
  have F_Lmixed := fun_mk (st := s_Lmixed) l_Lmixed c_Lmixed k_Lmixed
  have F_Lword := fun_mk (st := s_Lword) l_Lword c_Lword k_Lword
  have F_Lnumber := fun_mk (st := s_Lnumber) l_Lnumber c_Lnumber k_Lnumber
  have F_Lleaf := fun_mk (st := s_Lleaf) l_Lleaf c_Lleaf k_Lleaf
  have F_Lrule := fun_mk (st := s_Lrule) l_Lrule c_Lrule k_Lrule
  have F_Lwords := fun_mk (st := s_Lwords) l_Lwords c_Lwords k_Lwords
  have F_Lname := fun_mk (st := s_Lname) l_Lname c_Lname k_Lname
  have F_Lguest := fun_mk (st := s_Lguest) l_Lguest c_Lguest k_Lguest
  have F_Lnames := fun_mk (st := s_Lnames) l_Lnames c_Lnames k_Lnames
  have F_Llong := fun_mk (st := s_Llong) l_Llong c_Llong k_Llong
  have F_Lmany_marks := fun_mk (st := s_Lmany_marks) l_Lmany_marks c_Lmany_marks k_Lmany_marks
  have F_Lform := fun_mk (st := s_Lform) l_Lform c_Lform k_Lform
  have F_Lrule_row := fun_mk (st := s_Lrule_row) l_Lrule_row c_Lrule_row k_Lrule_row
  have F_Llisted := fun_mk (st := s_Llisted) l_Llisted c_Llisted k_Llisted
  have F_Lrow := fun_mk (st := s_Lrow) l_Lrow c_Lrow k_Lrow
  have F_Lsame := fun_mk (st := s_Lsame) l_Lsame c_Lsame k_Lsame
  have F_Lread := fun_mk (st := s_Lread) l_Lread c_Lread k_Lread
  have F_Lread_rule := fun_mk (st := s_Lread_rule) l_Lread_rule c_Lread_rule k_Lread_rule
  have F_law := fun_mk (st := s_law) l_law c_law k_law
  exact ⟨⟨x_is_whole, PySem.W.fnOf "is_whole" "is_whole" (defArgs s_is_whole) (defBody s_is_whole) (defScope s_is_whole) .none kV_is_whole dc_is_whole pm_is_whole an_is_whole cd_is_whole ct_is_whole,
      x_is_text_of, PySem.W.fnOf "is_text_of" "is_text_of" (defArgs s_is_text_of) (defBody s_is_text_of) (defScope s_is_text_of) .none kV_is_text_of dc_is_text_of pm_is_text_of an_is_text_of cd_is_text_of ct_is_text_of,
      x_is_word, PySem.W.fnOf "is_word" "is_word" (defArgs s_is_word) (defBody s_is_word) (defScope s_is_word) .none kV_is_word dc_is_word pm_is_word an_is_word cd_is_word ct_is_word,
      x_is_guest, PySem.W.fnOf "is_guest" "is_guest" (defArgs s_is_guest) (defBody s_is_guest) (defScope s_is_guest) .none kV_is_guest dc_is_guest pm_is_guest an_is_guest cd_is_guest ct_is_guest,
      x_is_number, PySem.W.fnOf "is_number" "is_number" (defArgs s_is_number) (defBody s_is_number) (defScope s_is_number) .none kV_is_number dc_is_number pm_is_number an_is_number cd_is_number ct_is_number,
      x_is_mark, PySem.W.fnOf "is_mark" "is_mark" (defArgs s_is_mark) (defBody s_is_mark) (defScope s_is_mark) .none kV_is_mark dc_is_mark pm_is_mark an_is_mark cd_is_mark ct_is_mark,
      x_are_marks, PySem.W.fnOf "are_marks" "are_marks" (defArgs s_are_marks) (defBody s_are_marks) (defScope s_are_marks) .none kV_are_marks dc_are_marks pm_are_marks an_are_marks cd_are_marks ct_are_marks,
      x_has_form, PySem.W.fnOf "has_form" "has_form" (defArgs s_has_form) (defBody s_has_form) (defScope s_has_form) .none kV_has_form dc_has_form pm_has_form an_has_form cd_has_form ct_has_form,
      x_all_within, PySem.W.fnOf "all_within" "all_within" (defArgs s_all_within) (defBody s_all_within) (defScope s_all_within) .none kV_all_within dc_all_within pm_all_within an_all_within cd_all_within ct_all_within,
      x_words_of, PySem.W.fnOf "words_of" "words_of" (defArgs s_words_of) (defBody s_words_of) (defScope s_words_of) .none kV_words_of dc_words_of pm_words_of an_words_of cd_words_of ct_words_of,
      x_is_rule, PySem.W.fnOf "is_rule" "is_rule" (defArgs s_is_rule) (defBody s_is_rule) (defScope s_is_rule) .none kV_is_rule dc_is_rule pm_is_rule an_is_rule cd_is_rule ct_is_rule,
      x_is_count, PySem.W.fnOf "is_count" "is_count" (defArgs s_is_count) (defBody s_is_count) (defScope s_is_count) .none kV_is_count dc_is_count pm_is_count an_is_count cd_is_count ct_is_count,
      x_is_total, PySem.W.fnOf "is_total" "is_total" (defArgs s_is_total) (defBody s_is_total) (defScope s_is_total) .none kV_is_total dc_is_total pm_is_total an_is_total cd_is_total ct_is_total,
      x_is_weight, PySem.W.fnOf "is_weight" "is_weight" (defArgs s_is_weight) (defBody s_is_weight) (defScope s_is_weight) .none kV_is_weight dc_is_weight pm_is_weight an_is_weight cd_is_weight ct_is_weight,
      x_are_counts, PySem.W.fnOf "are_counts" "are_counts" (defArgs s_are_counts) (defBody s_are_counts) (defScope s_are_counts) .none kV_are_counts dc_are_counts pm_are_counts an_are_counts cd_are_counts ct_are_counts,
      x_are_weights, PySem.W.fnOf "are_weights" "are_weights" (defArgs s_are_weights) (defBody s_are_weights) (defScope s_are_weights) .none kV_are_weights dc_are_weights pm_are_weights an_are_weights cd_are_weights ct_are_weights,
      x_are_arms, PySem.W.fnOf "are_arms" "are_arms" (defArgs s_are_arms) (defBody s_are_arms) (defScope s_are_arms) .none kV_are_arms dc_are_arms pm_are_arms an_are_arms cd_are_arms ct_are_arms,
      x_check_row, PySem.W.fnOf "check_row" "check_row" (defArgs s_check_row) (defBody s_check_row) (defScope s_check_row) .none kV_check_row dc_check_row pm_check_row an_check_row cd_check_row ct_check_row,
      x_read_number, PySem.W.fnOf "read_number" "read_number" (defArgs s_read_number) (defBody s_read_number) (defScope s_read_number) .none kV_read_number dc_read_number pm_read_number an_read_number cd_read_number ct_read_number,
      x_read_mark, PySem.W.fnOf "read_mark" "read_mark" (defArgs s_read_mark) (defBody s_read_mark) (defScope s_read_mark) .none kV_read_mark dc_read_mark pm_read_mark an_read_mark cd_read_mark ct_read_mark,
      x_parts_of, PySem.W.fnOf "parts_of" "parts_of" (defArgs s_parts_of) (defBody s_parts_of) (defScope s_parts_of) .none kV_parts_of dc_parts_of pm_parts_of an_parts_of cd_parts_of ct_parts_of,
      x_value_of, PySem.W.fnOf "value_of" "value_of" (defArgs s_value_of) (defBody s_value_of) (defScope s_value_of) .none kV_value_of dc_value_of pm_value_of an_value_of cd_value_of ct_value_of,
      x_are_shuts, PySem.W.fnOf "are_shuts" "are_shuts" (defArgs s_are_shuts) (defBody s_are_shuts) (defScope s_are_shuts) .none kV_are_shuts dc_are_shuts pm_are_shuts an_are_shuts cd_are_shuts ct_are_shuts,
      x_is_of, PySem.W.fnOf "is_of" "is_of" (defArgs s_is_of) (defBody s_is_of) (defScope s_is_of) .none kV_is_of dc_is_of pm_is_of an_is_of cd_is_of ct_is_of,
      x_read_thing, PySem.W.fnOf "read_thing" "read_thing" (defArgs s_read_thing) (defBody s_read_thing) (defScope s_read_thing) .none kV_read_thing dc_read_thing pm_read_thing an_read_thing cd_read_thing ct_read_thing,
      x_read_things, PySem.W.fnOf "read_things" "read_things" (defArgs s_read_things) (defBody s_read_things) (defScope s_read_things) .none kV_read_things dc_read_things pm_read_things an_read_things cd_read_things ct_read_things,
      x_take_word, PySem.W.fnOf "take_word" "take_word" (defArgs s_take_word) (defBody s_take_word) (defScope s_take_word) .none kV_take_word dc_take_word pm_take_word an_take_word cd_take_word ct_take_word,
      x_take_rule, PySem.W.fnOf "take_rule" "take_rule" (defArgs s_take_rule) (defBody s_take_rule) (defScope s_take_rule) .none kV_take_rule dc_take_rule pm_take_rule an_take_rule cd_take_rule ct_take_rule,
      x_read_rule_words, PySem.W.fnOf "read_rule_words" "read_rule_words" (defArgs s_read_rule_words) (defBody s_read_rule_words) (defScope s_read_rule_words) .none kV_read_rule_words dc_read_rule_words pm_read_rule_words an_read_rule_words cd_read_rule_words ct_read_rule_words,
      x_read_rule, PySem.W.fnOf "read_rule" "read_rule" (defArgs s_read_rule) (defBody s_read_rule) (defScope s_read_rule) .none kV_read_rule dc_read_rule pm_read_rule an_read_rule cd_read_rule ct_read_rule,
      x_read_deed, PySem.W.fnOf "read_deed" "read_deed" (defArgs s_read_deed) (defBody s_read_deed) (defScope s_read_deed) .none kV_read_deed dc_read_deed pm_read_deed an_read_deed cd_read_deed ct_read_deed,
      x_Lcell_at, PySem.W.fnOf "_law_cell_at" "_law_cell_at" (defArgs s_Lcell_at) (defBody s_Lcell_at) (defScope s_Lcell_at) .none kV_Lcell_at dc_Lcell_at pm_Lcell_at an_Lcell_at cd_Lcell_at ct_Lcell_at,
      x_Lmixed, PySem.W.fnOf "_law_mixed" "_law_mixed" (defArgs s_Lmixed) (defBody s_Lmixed) (defScope s_Lmixed) .none kV_Lmixed dc_Lmixed pm_Lmixed an_Lmixed cd_Lmixed ct_Lmixed,
      x_Lword, PySem.W.fnOf "_law_word" "_law_word" (defArgs s_Lword) (defBody s_Lword) (defScope s_Lword) .none kV_Lword dc_Lword pm_Lword an_Lword cd_Lword ct_Lword,
      x_Lnumber, PySem.W.fnOf "_law_number" "_law_number" (defArgs s_Lnumber) (defBody s_Lnumber) (defScope s_Lnumber) .none kV_Lnumber dc_Lnumber pm_Lnumber an_Lnumber cd_Lnumber ct_Lnumber,
      x_Lleaf, PySem.W.fnOf "_law_leaf" "_law_leaf" (defArgs s_Lleaf) (defBody s_Lleaf) (defScope s_Lleaf) .none kV_Lleaf dc_Lleaf pm_Lleaf an_Lleaf cd_Lleaf ct_Lleaf,
      x_Lrule, PySem.W.fnOf "_law_rule" "_law_rule" (defArgs s_Lrule) (defBody s_Lrule) (defScope s_Lrule) .none kV_Lrule dc_Lrule pm_Lrule an_Lrule cd_Lrule ct_Lrule,
      x_Lwords, PySem.W.fnOf "_law_words" "_law_words" (defArgs s_Lwords) (defBody s_Lwords) (defScope s_Lwords) .none kV_Lwords dc_Lwords pm_Lwords an_Lwords cd_Lwords ct_Lwords,
      x_Lname, PySem.W.fnOf "_law_name" "_law_name" (defArgs s_Lname) (defBody s_Lname) (defScope s_Lname) .none kV_Lname dc_Lname pm_Lname an_Lname cd_Lname ct_Lname,
      x_Lguest, PySem.W.fnOf "_law_guest" "_law_guest" (defArgs s_Lguest) (defBody s_Lguest) (defScope s_Lguest) .none kV_Lguest dc_Lguest pm_Lguest an_Lguest cd_Lguest ct_Lguest,
      x_Lnames, PySem.W.fnOf "_law_names" "_law_names" (defArgs s_Lnames) (defBody s_Lnames) (defScope s_Lnames) .none kV_Lnames dc_Lnames pm_Lnames an_Lnames cd_Lnames ct_Lnames,
      x_Llong, PySem.W.fnOf "_law_long" "_law_long" (defArgs s_Llong) (defBody s_Llong) (defScope s_Llong) .none kV_Llong dc_Llong pm_Llong an_Llong cd_Llong ct_Llong,
      x_Lmany_marks, PySem.W.fnOf "_law_many_marks" "_law_many_marks" (defArgs s_Lmany_marks) (defBody s_Lmany_marks) (defScope s_Lmany_marks) .none kV_Lmany_marks dc_Lmany_marks pm_Lmany_marks an_Lmany_marks cd_Lmany_marks ct_Lmany_marks,
      x_Lform, PySem.W.fnOf "_law_form" "_law_form" (defArgs s_Lform) (defBody s_Lform) (defScope s_Lform) .none kV_Lform dc_Lform pm_Lform an_Lform cd_Lform ct_Lform,
      x_Lrule_row, PySem.W.fnOf "_law_rule_row" "_law_rule_row" (defArgs s_Lrule_row) (defBody s_Lrule_row) (defScope s_Lrule_row) .none kV_Lrule_row dc_Lrule_row pm_Lrule_row an_Lrule_row cd_Lrule_row ct_Lrule_row,
      x_Llisted, PySem.W.fnOf "_law_listed" "_law_listed" (defArgs s_Llisted) (defBody s_Llisted) (defScope s_Llisted) .none kV_Llisted dc_Llisted pm_Llisted an_Llisted cd_Llisted ct_Llisted,
      x_Lrow, PySem.W.fnOf "_law_row" "_law_row" (defArgs s_Lrow) (defBody s_Lrow) (defScope s_Lrow) .none kV_Lrow dc_Lrow pm_Lrow an_Lrow cd_Lrow ct_Lrow,
      x_Lsame, PySem.W.fnOf "_law_same" "_law_same" (defArgs s_Lsame) (defBody s_Lsame) (defScope s_Lsame) .none kV_Lsame dc_Lsame pm_Lsame an_Lsame cd_Lsame ct_Lsame,
      x_Lread, PySem.W.fnOf "_law_read" "_law_read" (defArgs s_Lread) (defBody s_Lread) (defScope s_Lread) .none kV_Lread dc_Lread pm_Lread an_Lread cd_Lread ct_Lread,
      x_Lread_rule, PySem.W.fnOf "_law_read_rule" "_law_read_rule" (defArgs s_Lread_rule) (defBody s_Lread_rule) (defScope s_Lread_rule) .none kV_Lread_rule dc_Lread_rule pm_Lread_rule an_Lread_rule cd_Lread_rule ct_Lread_rule,
      x_law, PySem.W.fnOf "law" "law" (defArgs s_law) (defBody s_law) (defScope s_law) .none kV_law dc_law pm_law an_law cd_law ct_law,
      x_SplitError,
      x_NoRow,
      pm,
      x_FORMS⟩,
    ⟨F_is_whole, PySem.W.mg_of X G a_is_whole, F_is_whole.binds (ps := ["thing"]) fun _ _ _ _ _ _ us hl => match us, hl with | [_], _ => rfl,
      F_is_text_of, PySem.W.mg_of X G a_is_text_of, F_is_text_of.binds (ps := ["thing", "signs", "longest"]) fun _ _ _ _ _ _ us hl => match us, hl with | [_, _, _], _ => rfl,
      F_is_word, PySem.W.mg_of X G a_is_word, F_is_word.binds (ps := ["thing"]) fun _ _ _ _ _ _ us hl => match us, hl with | [_], _ => rfl,
      F_is_guest, PySem.W.mg_of X G a_is_guest, F_is_guest.binds (ps := ["thing"]) fun _ _ _ _ _ _ us hl => match us, hl with | [_], _ => rfl,
      F_is_number, PySem.W.mg_of X G a_is_number, F_is_number.binds (ps := ["thing"]) fun _ _ _ _ _ _ us hl => match us, hl with | [_], _ => rfl,
      F_is_mark, PySem.W.mg_of X G a_is_mark, F_is_mark.binds (ps := ["thing"]) fun _ _ _ _ _ _ us hl => match us, hl with | [_], _ => rfl,
      F_are_marks, PySem.W.mg_of X G a_are_marks, F_are_marks.binds (ps := ["thing"]) fun _ _ _ _ _ _ us hl => match us, hl with | [_], _ => rfl,
      F_has_form, PySem.W.mg_of X G a_has_form, F_has_form.binds (ps := ["thing", "depth"]) fun _ _ _ _ _ _ us hl => match us, hl with | [_, _], _ => rfl,
      F_all_within, PySem.W.mg_of X G a_all_within, F_all_within.binds (ps := ["rule"]) fun _ _ _ _ _ _ us hl => match us, hl with | [_], _ => rfl,
      F_words_of, PySem.W.mg_of X G a_words_of, F_words_of.binds (ps := ["rule"]) fun _ _ _ _ _ _ us hl => match us, hl with | [_], _ => rfl,
      F_is_rule, PySem.W.mg_of X G a_is_rule, F_is_rule.binds (ps := ["thing"]) fun _ _ _ _ _ _ us hl => match us, hl with | [_], _ => rfl,
      F_is_count, PySem.W.mg_of X G a_is_count, F_is_count.binds (ps := ["thing"]) fun _ _ _ _ _ _ us hl => match us, hl with | [_], _ => rfl,
      F_is_total, PySem.W.mg_of X G a_is_total, F_is_total.binds (ps := ["thing"]) fun _ _ _ _ _ _ us hl => match us, hl with | [_], _ => rfl,
      F_is_weight, PySem.W.mg_of X G a_is_weight, F_is_weight.binds (ps := ["thing"]) fun _ _ _ _ _ _ us hl => match us, hl with | [_], _ => rfl,
      F_are_counts, PySem.W.mg_of X G a_are_counts, F_are_counts.binds (ps := ["thing", "many"]) fun _ _ _ _ _ _ us hl => match us, hl with | [_, _], _ => rfl,
      F_are_weights, PySem.W.mg_of X G a_are_weights, F_are_weights.binds (ps := ["thing", "many"]) fun _ _ _ _ _ _ us hl => match us, hl with | [_, _], _ => rfl,
      F_are_arms, PySem.W.mg_of X G a_are_arms, F_are_arms.binds (ps := ["thing"]) fun _ _ _ _ _ _ us hl => match us, hl with | [_], _ => rfl,
      F_check_row, PySem.W.mg_of X G a_check_row, F_check_row.binds (ps := ["fits"]) fun _ _ _ _ _ _ us hl => match us, hl with | [_], _ => rfl,
      F_read_number, PySem.W.mg_of X G a_read_number, F_read_number.binds (ps := ["text"]) fun _ _ _ _ _ _ us hl => match us, hl with | [_], _ => rfl,
      F_read_mark, PySem.W.mg_of X G a_read_mark, F_read_mark.binds (ps := ["text"]) fun _ _ _ _ _ _ us hl => match us, hl with | [_], _ => rfl,
      F_parts_of, PySem.W.mg_of X G a_parts_of, F_parts_of.binds (ps := ["text"]) fun _ _ _ _ _ _ us hl => match us, hl with | [_], _ => rfl,
      F_value_of, PySem.W.mg_of X G a_value_of, F_value_of.binds (ps := ["form", "text"]) fun _ _ _ _ _ _ us hl => match us, hl with | [_, _], _ => rfl,
      F_are_shuts, PySem.W.mg_of X G a_are_shuts, F_are_shuts.binds (ps := ["names"]) fun _ _ _ _ _ _ us hl => match us, hl with | [_], _ => rfl,
      F_is_of, PySem.W.mg_of X G a_is_of, F_is_of.binds (ps := ["form", "thing"]) fun _ _ _ _ _ _ us hl => match us, hl with | [_, _], _ => rfl,
      F_read_thing, PySem.W.mg_of X G a_read_thing, F_read_thing.binds (ps := ["form", "text"]) fun _ _ _ _ _ _ us hl => match us, hl with | [_, _], _ => rfl,
      F_read_things, PySem.W.mg_of X G a_read_things, F_read_things.binds (ps := ["forms", "words"]) fun _ _ _ _ _ _ us hl => match us, hl with | [_, _], _ => rfl,
      F_take_word, PySem.W.mg_of X G a_take_word, F_take_word.binds (ps := ["words"]) fun _ _ _ _ _ _ us hl => match us, hl with | [_], _ => rfl,
      F_take_rule, PySem.W.mg_of X G a_take_rule, F_take_rule.binds (ps := ["words", "depth"]) fun _ _ _ _ _ _ us hl => match us, hl with | [_, _], _ => rfl,
      F_read_rule_words, PySem.W.mg_of X G a_read_rule_words, F_read_rule_words.binds (ps := ["words"]) fun _ _ _ _ _ _ us hl => match us, hl with | [_], _ => rfl,
      F_read_rule, PySem.W.mg_of X G a_read_rule, F_read_rule.binds (ps := ["text"]) fun _ _ _ _ _ _ us hl => match us, hl with | [_], _ => rfl,
      F_read_deed, PySem.W.mg_of X G a_read_deed, F_read_deed.binds (ps := ["text"]) fun _ _ _ _ _ _ us hl => match us, hl with | [_], _ => rfl,
      F_Lcell_at, PySem.W.mg_of X G a_Lcell_at, F_Lcell_at.binds (ps := ["_law_script", "_law_k"]) fun _ _ _ _ _ _ us hl => match us, hl with | [_, _], _ => rfl,
      F_Lmixed, PySem.W.mg_of X G a_Lmixed, F_Lmixed.binds (ps := ["_law_script", "_law_k", "_law_salt"]) fun _ _ _ _ _ _ us hl => match us, hl with | [_, _, _], _ => rfl,
      F_Lword, PySem.W.mg_of X G a_Lword, F_Lword.binds (ps := ["_law_number_here"]) fun _ _ _ _ _ _ us hl => match us, hl with | [_], _ => rfl,
      F_Lnumber, PySem.W.mg_of X G a_Lnumber, F_Lnumber.binds (ps := ["_law_script", "_law_k", "_law_number_here"]) fun _ _ _ _ _ _ us hl => match us, hl with | [_, _, _], _ => rfl,
      F_Lleaf, PySem.W.mg_of X G a_Lleaf, F_Lleaf.binds (ps := ["_law_script", "_law_k", "_law_words_here"]) fun _ _ _ _ _ _ us hl => match us, hl with | [_, _, _], _ => rfl,
      F_Lrule, PySem.W.mg_of X G a_Lrule, F_Lrule.binds (ps := ["_law_script", "_law_at", "_law_many", "_law_words_here"]) fun _ _ _ _ _ _ us hl => match us, hl with | [_, _, _, _], _ => rfl,
      F_Lwords, PySem.W.mg_of X G a_Lwords, F_Lwords.binds (ps := ["_law_script"]) fun _ _ _ _ _ _ us hl => match us, hl with | [_], _ => rfl,
      F_Lname, PySem.W.mg_of X G a_Lname, F_Lname.binds (ps := ["_law_number_here"]) fun _ _ _ _ _ _ us hl => match us, hl with | [_], _ => rfl,
      F_Lguest, PySem.W.mg_of X G a_Lguest, F_Lguest.binds (ps := ["_law_number_here"]) fun _ _ _ _ _ _ us hl => match us, hl with | [_], _ => rfl,
      F_Lnames, PySem.W.mg_of X G a_Lnames, F_Lnames.binds (ps := ["_law_script", "_law_k", "_law_salt", "_law_many"]) fun _ _ _ _ _ _ us hl => match us, hl with | [_, _, _, _], _ => rfl,
      F_Llong, PySem.W.mg_of X G a_Llong, F_Llong.binds (ps := ["_law_script", "_law_k", "_law_number_here"]) fun _ _ _ _ _ _ us hl => match us, hl with | [_, _, _], _ => rfl,
      F_Lmany_marks, PySem.W.mg_of X G a_Lmany_marks, F_Lmany_marks.binds (ps := ["_law_script", "_law_k"]) fun _ _ _ _ _ _ us hl => match us, hl with | [_, _], _ => rfl,
      F_Lform, PySem.W.mg_of X G a_Lform, F_Lform.binds (ps := ["_law_script", "_law_k"]) fun _ _ _ _ _ _ us hl => match us, hl with | [_, _], _ => rfl,
      F_Lrule_row, PySem.W.mg_of X G a_Lrule_row, F_Lrule_row.binds (ps := ["_law_rule_here"]) fun _ _ _ _ _ _ us hl => match us, hl with | [_], _ => rfl,
      F_Llisted, PySem.W.mg_of X G a_Llisted, F_Llisted.binds (ps := ["_law_things"]) fun _ _ _ _ _ _ us hl => match us, hl with | [_], _ => rfl,
      F_Lrow, PySem.W.mg_of X G a_Lrow, F_Lrow.binds (ps := ["_law_deed"]) fun _ _ _ _ _ _ us hl => match us, hl with | [_], _ => rfl,
      F_Lsame, PySem.W.mg_of X G a_Lsame, F_Lsame.binds (ps := ["_law_found", "_law_due"]) fun _ _ _ _ _ _ us hl => match us, hl with | [_, _], _ => rfl,
      F_Lread, PySem.W.mg_of X G a_Lread, F_Lread.binds (ps := ["_law_row_here"]) fun _ _ _ _ _ _ us hl => match us, hl with | [_], _ => rfl,
      F_Lread_rule, PySem.W.mg_of X G a_Lread_rule, F_Lread_rule.binds (ps := ["_law_row_here"]) fun _ _ _ _ _ _ us hl => match us, hl with | [_], _ => rfl,
      F_law, PySem.W.mg_of X G a_law, F_law.binds (ps := ["_law_script"]) fun _ _ _ _ _ _ us hl => match us, hl with | [_], _ => rfl,
      ⟨_, PySem.W.mg_of X G g_LETTERS, _, rfl⟩,
      ⟨_, PySem.W.mg_of X G g_GUEST_SIGNS, _, rfl⟩,
      ⟨_, PySem.W.mg_of X G g_LONGEST_WORD, _, rfl⟩,
      ⟨_, PySem.W.mg_of X G g_LONGEST_GUEST, _, rfl⟩,
      ⟨_, PySem.W.mg_of X G g_MOST_MARKS, _, rfl⟩,
      ⟨_, PySem.W.mg_of X G g_DEEPEST_RULE, _, rfl⟩,
      ⟨_, PySem.W.mg_of X G g_MOST_RULES, _, rfl⟩,
      ⟨_, PySem.W.mg_of X G g_MOST_WORDS, _, rfl⟩,
      ⟨_, PySem.W.mg_of X G g_MOST_ARMS, _, rfl⟩,
      ⟨_, PySem.W.mg_of X G g_MOST_SHUTS, _, rfl⟩,
      ⟨_, PySem.W.mg_of X G g_MOST_TOTAL, _, rfl⟩,
      ⟨_, PySem.W.mg_of X G g_FIGURES, _, rfl⟩,
      ⟨_, PySem.W.mg_of X G g_MOST_FIGURES, _, rfl⟩,
      PySem.W.mg_of X G a_SplitError, e_SplitError,
      PySem.W.mg_of X G a_NoRow, e_NoRow,
      PySem.W.mg_of X G a_FORMS, ⟨ko_FORMS, es_FORMS, nd_FORMS, l_FORMS, kk_FORMS⟩,
      ⟨_, v_FORMS_layer, ⟨_, it_FORMS_layer, nt_FORMS_layer, w_FORMS_layer, rfl, rfl, by rw [← Array.length_toList, ← y_FORMS_layer.length, sizeLine_eq]; simp, y_FORMS_layer⟩⟩,
      ⟨_, v_FORMS_trial, ⟨_, it_FORMS_trial, nt_FORMS_trial, w_FORMS_trial, rfl, rfl, by rw [← Array.length_toList, ← y_FORMS_trial.length, sizeLine_eq]; simp, y_FORMS_trial⟩⟩,
      ⟨_, v_FORMS_share, ⟨_, it_FORMS_share, nt_FORMS_share, w_FORMS_share, rfl, rfl, by rw [← Array.length_toList, ← y_FORMS_share.length, sizeLine_eq]; simp, y_FORMS_share⟩⟩,
      ⟨_, v_FORMS_deal, ⟨_, it_FORMS_deal, nt_FORMS_deal, w_FORMS_deal, rfl, rfl, by rw [← Array.length_toList, ← y_FORMS_deal.length, sizeLine_eq]; simp, y_FORMS_deal⟩⟩,
      ⟨_, v_FORMS_hold, ⟨_, it_FORMS_hold, nt_FORMS_hold, w_FORMS_hold, rfl, rfl, by rw [← Array.length_toList, ← y_FORMS_hold.length, sizeLine_eq]; simp, y_FORMS_hold⟩⟩,
      ⟨_, v_FORMS_pause, ⟨_, it_FORMS_pause, nt_FORMS_pause, w_FORMS_pause, rfl, rfl, by rw [← Array.length_toList, ← y_FORMS_pause.length, sizeLine_eq]; simp, y_FORMS_pause⟩⟩,
      ⟨_, v_FORMS_go, ⟨_, it_FORMS_go, nt_FORMS_go, w_FORMS_go, rfl, rfl, by rw [← Array.length_toList, ← y_FORMS_go.length, sizeLine_eq]; simp, y_FORMS_go⟩⟩,
      ⟨_, v_FORMS_close, ⟨_, it_FORMS_close, nt_FORMS_close, w_FORMS_close, rfl, rfl, by rw [← Array.length_toList, ← y_FORMS_close.length, sizeLine_eq]; simp, y_FORMS_close⟩⟩,
      ⟨_, v_FORMS_bar, ⟨_, it_FORMS_bar, nt_FORMS_bar, w_FORMS_bar, rfl, rfl, by rw [← Array.length_toList, ← y_FORMS_bar.length, sizeLine_eq]; simp, y_FORMS_bar⟩⟩,
      ⟨_, v_FORMS_visit, ⟨_, it_FORMS_visit, nt_FORMS_visit, w_FORMS_visit, rfl, rfl, by rw [← Array.length_toList, ← y_FORMS_visit.length, sizeLine_eq]; simp, y_FORMS_visit⟩⟩,
      PySem.W.mg_none_of X G z_all,
      PySem.W.mg_none_of X G z_bool,
      PySem.W.mg_none_of X G z_int,
      PySem.W.mg_none_of X G z_isinstance,
      PySem.W.mg_none_of X G z_len,
      PySem.W.mg_none_of X G z_list,
      PySem.W.mg_none_of X G z_max,
      PySem.W.mg_none_of X G z_min,
      PySem.W.mg_none_of X G z_range,
      PySem.W.mg_none_of X G z_set,
      PySem.W.mg_none_of X G z_sorted,
      PySem.W.mg_none_of X G z_str,
      PySem.W.mg_none_of X G z_tuple,
      PySem.W.mg_none_of X G z_zip⟩, rfl⟩
end My
/-! names that are taken: so no twin is laid of the greatest constants, and the file stays small -/
def PySem.W.Fast.tw16085989304866539650 : Unit := ()
def PySem.W.Fast.tw15430892868864214648 : Unit := ()
def PySem.W.Fast.tw9761756362359963741 : Unit := ()
def PySem.W.Fast.tw11665925211841131796 : Unit := ()
def PySem.W.Fast.tw3514014437127111451 : Unit := ()
def PySem.W.Fast.tw10250056678070907260 : Unit := ()
def PySem.W.Fast.tw7949427051036701304 : Unit := ()
def PySem.W.Fast.tw4444016998461247993 : Unit := ()
def PySem.W.Fast.tw5627455513891505677 : Unit := ()
open PySem PySem.W PyProof.Rows
set_option maxRecDepth 100000 in
set_option maxHeartbeats 0 in
theorem PySem.Challenge.cw_layersplit_k35_deeds_read_holds : PySem.Challenge.rw_layersplit_k35_deeds_read.Holds := by
  w_on; o_law; k_head; (case hw => w_witness2)
  k_fill
  refine L2.walk_ofK (l := PySem.Challenge.rw_layersplit_k35_deeds_read) (n := 63) (k := 14) (x := "_law_script") (CX := L2.CX0) (sp := My.spLaw) rfl (by decide) rfl ⟨rfl, by decide, by decide⟩ (fun w h Y => PySem.W.kIn_of Y) ?F ?S ?C
  case F =>
    intro w mg fa h KX G hmg
    have T : ∃ a : My.Adr, My.Txt (L2.KOf KX) mg a ∧ w.params = a.pm := by
      dsimp only [L2.KOf]
      refine' My.all_mk KX G ?a_SplitError ?a_NoRow ?e_SplitError ?e_NoRow ?a_is_whole ?l_is_whole ?c_is_whole ?k_is_whole ?a_is_text_of ?l_is_text_of ?c_is_text_of ?k_is_text_of ?a_is_word ?l_is_word ?c_is_word ?k_is_word ?a_is_guest ?l_is_guest ?c_is_guest ?k_is_guest ?a_is_number ?l_is_number ?c_is_number ?k_is_number ?a_is_mark ?l_is_mark ?c_is_mark ?k_is_mark ?a_are_marks ?l_are_marks ?c_are_marks ?k_are_marks ?a_has_form ?l_has_form ?c_has_form ?k_has_form ?a_all_within ?l_all_within ?c_all_within ?k_all_within ?a_words_of ?l_words_of ?c_words_of ?k_words_of ?a_is_rule ?l_is_rule ?c_is_rule ?k_is_rule ?a_is_count ?l_is_count ?c_is_count ?k_is_count ?a_is_total ?l_is_total ?c_is_total ?k_is_total ?a_is_weight ?l_is_weight ?c_is_weight ?k_is_weight ?a_are_counts ?l_are_counts ?c_are_counts ?k_are_counts ?a_are_weights ?l_are_weights ?c_are_weights ?k_are_weights ?a_are_arms ?l_are_arms ?c_are_arms ?k_are_arms ?a_check_row ?l_check_row ?c_check_row ?k_check_row ?a_read_number ?l_read_number ?c_read_number ?k_read_number ?a_read_mark ?l_read_mark ?c_read_mark ?k_read_mark ?a_parts_of ?l_parts_of ?c_parts_of ?k_parts_of ?a_value_of ?l_value_of ?c_value_of ?k_value_of ?a_are_shuts ?l_are_shuts ?c_are_shuts ?k_are_shuts ?a_is_of ?l_is_of ?c_is_of ?k_is_of ?a_read_thing ?l_read_thing ?c_read_thing ?k_read_thing ?a_read_things ?l_read_things ?c_read_things ?k_read_things ?a_take_word ?l_take_word ?c_take_word ?k_take_word ?a_take_rule ?l_take_rule ?c_take_rule ?k_take_rule ?a_read_rule_words ?l_read_rule_words ?c_read_rule_words ?k_read_rule_words ?a_read_rule ?l_read_rule ?c_read_rule ?k_read_rule ?a_read_deed ?l_read_deed ?c_read_deed ?k_read_deed ?a_Lcell_at ?l_Lcell_at ?c_Lcell_at ?k_Lcell_at ?a_Lmixed ?l_Lmixed ?c_Lmixed ?k_Lmixed ?a_Lword ?l_Lword ?c_Lword ?k_Lword ?a_Lnumber ?l_Lnumber ?c_Lnumber ?k_Lnumber ?a_Lleaf ?l_Lleaf ?c_Lleaf ?k_Lleaf ?a_Lrule ?l_Lrule ?c_Lrule ?k_Lrule ?a_Lwords ?l_Lwords ?c_Lwords ?k_Lwords ?a_Lname ?l_Lname ?c_Lname ?k_Lname ?a_Lguest ?l_Lguest ?c_Lguest ?k_Lguest ?a_Lnames ?l_Lnames ?c_Lnames ?k_Lnames ?a_Llong ?l_Llong ?c_Llong ?k_Llong ?a_Lmany_marks ?l_Lmany_marks ?c_Lmany_marks ?k_Lmany_marks ?a_Lform ?l_Lform ?c_Lform ?k_Lform ?a_Lrule_row ?l_Lrule_row ?c_Lrule_row ?k_Lrule_row ?a_Llisted ?l_Llisted ?c_Llisted ?k_Llisted ?a_Lrow ?l_Lrow ?c_Lrow ?k_Lrow ?a_Lsame ?l_Lsame ?c_Lsame ?k_Lsame ?a_Lread ?l_Lread ?c_Lread ?k_Lread ?a_Lread_rule ?l_Lread_rule ?c_Lread_rule ?k_Lread_rule ?a_law ?l_law ?c_law ?k_law ?g_LETTERS ?g_GUEST_SIGNS ?g_LONGEST_WORD ?g_LONGEST_GUEST ?g_MOST_MARKS ?g_DEEPEST_RULE ?g_MOST_RULES ?g_MOST_WORDS ?g_MOST_ARMS ?g_MOST_SHUTS ?g_MOST_TOTAL ?g_FIGURES ?g_MOST_FIGURES ?a_FORMS ?l_FORMS ?kk_FORMS ?ko_FORMS ?v_FORMS_layer ?w_FORMS_layer ?y_FORMS_layer ?v_FORMS_trial ?w_FORMS_trial ?y_FORMS_trial ?v_FORMS_share ?w_FORMS_share ?y_FORMS_share ?v_FORMS_deal ?w_FORMS_deal ?y_FORMS_deal ?v_FORMS_hold ?w_FORMS_hold ?y_FORMS_hold ?v_FORMS_pause ?w_FORMS_pause ?y_FORMS_pause ?v_FORMS_go ?w_FORMS_go ?y_FORMS_go ?v_FORMS_close ?w_FORMS_close ?y_FORMS_close ?v_FORMS_bar ?w_FORMS_bar ?y_FORMS_bar ?v_FORMS_visit ?w_FORMS_visit ?y_FORMS_visit ?z_all ?z_bool ?z_int ?z_isinstance ?z_len ?z_list ?z_max ?z_min ?z_range ?z_set ?z_sorted ?z_str ?z_tuple ?z_zip
      (case a_SplitError => k_is); (case a_NoRow => k_is); (case e_SplitError => k_exc); (case e_NoRow => k_exc); (case a_is_whole => k_is); (case l_is_whole => k_is); (case c_is_whole => k_is); (case k_is_whole => k_is)
      (case a_is_text_of => k_is); (case l_is_text_of => k_is); (case c_is_text_of => k_is); (case k_is_text_of => k_is); (case a_is_word => k_is); (case l_is_word => k_is); (case c_is_word => k_is); (case k_is_word => k_is)
      (case a_is_guest => k_is); (case l_is_guest => k_is); (case c_is_guest => k_is); (case k_is_guest => k_is); (case a_is_number => k_is); (case l_is_number => k_is); (case c_is_number => k_is); (case k_is_number => k_is)
      (case a_is_mark => k_is); (case l_is_mark => k_is); (case c_is_mark => k_is); (case k_is_mark => k_is); (case a_are_marks => k_is); (case l_are_marks => k_is); (case c_are_marks => k_is); (case k_are_marks => k_is)
      (case a_has_form => k_is); (case l_has_form => k_is); (case c_has_form => k_is); (case k_has_form => k_is); (case a_all_within => k_is); (case l_all_within => k_is); (case c_all_within => k_is); (case k_all_within => k_is)
      (case a_words_of => k_is); (case l_words_of => k_is); (case c_words_of => k_is); (case k_words_of => k_is); (case a_is_rule => k_is); (case l_is_rule => k_is); (case c_is_rule => k_is); (case k_is_rule => k_is)
      (case a_is_count => k_is); (case l_is_count => k_is); (case c_is_count => k_is); (case k_is_count => k_is); (case a_is_total => k_is); (case l_is_total => k_is); (case c_is_total => k_is); (case k_is_total => k_is)
      (case a_is_weight => k_is); (case l_is_weight => k_is); (case c_is_weight => k_is); (case k_is_weight => k_is); (case a_are_counts => k_is); (case l_are_counts => k_is); (case c_are_counts => k_is); (case k_are_counts => k_is)
      (case a_are_weights => k_is); (case l_are_weights => k_is); (case c_are_weights => k_is); (case k_are_weights => k_is); (case a_are_arms => k_is); (case l_are_arms => k_is); (case c_are_arms => k_is); (case k_are_arms => k_is)
      (case a_check_row => k_is); (case l_check_row => k_is); (case c_check_row => k_is); (case k_check_row => k_is); (case a_read_number => k_is); (case l_read_number => k_is); (case c_read_number => k_is); (case k_read_number => k_is)
      (case a_read_mark => k_is); (case l_read_mark => k_is); (case c_read_mark => k_is); (case k_read_mark => k_is); (case a_parts_of => k_is); (case l_parts_of => k_is); (case c_parts_of => k_is); (case k_parts_of => k_is)
      (case a_value_of => k_is); (case l_value_of => k_is); (case c_value_of => k_is); (case k_value_of => k_is); (case a_are_shuts => k_is); (case l_are_shuts => k_is); (case c_are_shuts => k_is); (case k_are_shuts => k_is)
      (case a_is_of => k_is); (case l_is_of => k_is); (case c_is_of => k_is); (case k_is_of => k_is); (case a_read_thing => k_is); (case l_read_thing => k_is); (case c_read_thing => k_is); (case k_read_thing => k_is)
      (case a_read_things => k_is); (case l_read_things => k_is); (case c_read_things => k_is); (case k_read_things => k_is); (case a_take_word => k_is); (case l_take_word => k_is); (case c_take_word => k_is); (case k_take_word => k_is)
      (case a_take_rule => k_is); (case l_take_rule => k_is); (case c_take_rule => k_is); (case k_take_rule => k_is); (case a_read_rule_words => k_is); (case l_read_rule_words => k_is); (case c_read_rule_words => k_is); (case k_read_rule_words => k_is)
      (case a_read_rule => k_is); (case l_read_rule => k_is); (case c_read_rule => k_is); (case k_read_rule => k_is); (case a_read_deed => k_is); (case l_read_deed => k_is); (case c_read_deed => k_is); (case k_read_deed => k_is)
      (case a_Lcell_at => k_is); (case l_Lcell_at => k_is); (case c_Lcell_at => k_is); (case k_Lcell_at => k_is); (case a_Lmixed => k_is); (case l_Lmixed => k_is); (case c_Lmixed => k_is); (case k_Lmixed => k_is)
      (case a_Lword => k_is); (case l_Lword => k_is); (case c_Lword => k_is); (case k_Lword => k_is); (case a_Lnumber => k_is); (case l_Lnumber => k_is); (case c_Lnumber => k_is); (case k_Lnumber => k_is)
      (case a_Lleaf => k_is); (case l_Lleaf => k_is); (case c_Lleaf => k_is); (case k_Lleaf => k_is); (case a_Lrule => k_is); (case l_Lrule => k_is); (case c_Lrule => k_is); (case k_Lrule => k_is)
      (case a_Lwords => k_is); (case l_Lwords => k_is); (case c_Lwords => k_is); (case k_Lwords => k_is); (case a_Lname => k_is); (case l_Lname => k_is); (case c_Lname => k_is); (case k_Lname => k_is)
      (case a_Lguest => k_is); (case l_Lguest => k_is); (case c_Lguest => k_is); (case k_Lguest => k_is); (case a_Lnames => k_is); (case l_Lnames => k_is); (case c_Lnames => k_is); (case k_Lnames => k_is)
      (case a_Llong => k_is); (case l_Llong => k_is); (case c_Llong => k_is); (case k_Llong => k_is); (case a_Lmany_marks => k_is); (case l_Lmany_marks => k_is); (case c_Lmany_marks => k_is); (case k_Lmany_marks => k_is)
      (case a_Lform => k_is); (case l_Lform => k_is); (case c_Lform => k_is); (case k_Lform => k_is); (case a_Lrule_row => k_is); (case l_Lrule_row => k_is); (case c_Lrule_row => k_is); (case k_Lrule_row => k_is)
      (case a_Llisted => k_is); (case l_Llisted => k_is); (case c_Llisted => k_is); (case k_Llisted => k_is); (case a_Lrow => k_is); (case l_Lrow => k_is); (case c_Lrow => k_is); (case k_Lrow => k_is)
      (case a_Lsame => k_is); (case l_Lsame => k_is); (case c_Lsame => k_is); (case k_Lsame => k_is); (case a_Lread => k_is); (case l_Lread => k_is); (case c_Lread => k_is); (case k_Lread => k_is)
      (case a_Lread_rule => k_is); (case l_Lread_rule => k_is); (case c_Lread_rule => k_is); (case k_Lread_rule => k_is); (case a_law => k_is); (case l_law => k_is); (case c_law => k_is); (case k_law => k_is)
      (case g_LETTERS => k_is); (case g_GUEST_SIGNS => k_is); (case g_LONGEST_WORD => k_is); (case g_LONGEST_GUEST => k_is); (case g_MOST_MARKS => k_is); (case g_DEEPEST_RULE => k_is); (case g_MOST_RULES => k_is); (case g_MOST_WORDS => k_is)
      (case g_MOST_ARMS => k_is); (case g_MOST_SHUTS => k_is); (case g_MOST_TOTAL => k_is); (case g_FIGURES => k_is); (case g_MOST_FIGURES => k_is); (case a_FORMS => k_is); (case l_FORMS => k_is); (case kk_FORMS => k_keys)
      (case ko_FORMS => decide); (case v_FORMS_layer => k_is); (case w_FORMS_layer => k_is); (case y_FORMS_layer => (repeat (first | exact .nil | refine .cons ⟨_, rfl⟩ ?_))); (case v_FORMS_trial => k_is); (case w_FORMS_trial => k_is); (case y_FORMS_trial => (repeat (first | exact .nil | refine .cons ⟨_, rfl⟩ ?_))); (case v_FORMS_share => k_is)
      (case w_FORMS_share => k_is); (case y_FORMS_share => (repeat (first | exact .nil | refine .cons ⟨_, rfl⟩ ?_))); (case v_FORMS_deal => k_is); (case w_FORMS_deal => k_is); (case y_FORMS_deal => (repeat (first | exact .nil | refine .cons ⟨_, rfl⟩ ?_))); (case v_FORMS_hold => k_is); (case w_FORMS_hold => k_is); (case y_FORMS_hold => (repeat (first | exact .nil | refine .cons ⟨_, rfl⟩ ?_)))
      (case v_FORMS_pause => k_is); (case w_FORMS_pause => k_is); (case y_FORMS_pause => (repeat (first | exact .nil | refine .cons ⟨_, rfl⟩ ?_))); (case v_FORMS_go => k_is); (case w_FORMS_go => k_is); (case y_FORMS_go => (repeat (first | exact .nil | refine .cons ⟨_, rfl⟩ ?_))); (case v_FORMS_close => k_is); (case w_FORMS_close => k_is)
      (case y_FORMS_close => (repeat (first | exact .nil | refine .cons ⟨_, rfl⟩ ?_))); (case v_FORMS_bar => k_is); (case w_FORMS_bar => k_is); (case y_FORMS_bar => (repeat (first | exact .nil | refine .cons ⟨_, rfl⟩ ?_))); (case v_FORMS_visit => k_is); (case w_FORMS_visit => k_is); (case y_FORMS_visit => (repeat (first | exact .nil | refine .cons ⟨_, rfl⟩ ?_))); (case z_all => k_is)
      (case z_bool => k_is); (case z_int => k_is); (case z_isinstance => k_is); (case z_len => k_is); (case z_list => k_is); (case z_max => k_is); (case z_min => k_is); (case z_range => k_is)
      (case z_set => k_is); (case z_sorted => k_is); (case z_str => k_is); (case z_tuple => k_is); (case z_zip => k_is)
    obtain ⟨a, T, hw⟩ := T
    have e0 := hmg.symm.trans T.m_law
    cases e0
    exact ⟨a.fd_law, My.law_binds T, fun base kb nb => My.ok_law T hw⟩
  case S => exact fun K H a ns hl hO hS => My.law_start hl hS
  case C => exact fun _ _ _ _ z => z
#print axioms PySem.Challenge.cw_layersplit_k35_deeds_read_holds
